import PyProof.Rows.All
import Wide.All
import OpenK.AllK
import Wide.FinOn
import PyProof.EqAt
import PyProof.EqKinds
import PyProof.TupleCall
import Lean
import PySem.Challenge.RW_dicesums_k01_dice
set_option autoImplicit true
local macro_rules | `(tactic| fail) => `(tactic| (extract_lets +onlyGivenNames -underBinder zz; subst zz))
set_option Elab.async false
set_option linter.all false
set_option maxRecDepth 100000
set_option maxHeartbeats 0
set_option bootstrap.genMatcherCode false
set_option compiler.extract_closed false
set_option genSizeOfSpec false
noncomputable section
open List renaming map_cons->af,length_cons->ah,size_toArray->aj,length_map->ak,mem_cons_of_mem->am,mem_cons_self->ao,getElem?_eq_getElem->ba,mem_cons->bf,getElem?_eq_some_iff->bh,length_append->bp,all_eq_true->bu,append_assoc->bv,getD_eq_getElem?_getD->bw,mem_append_right->c9,set_cons_succ->ce,set_cons_zero->cf,getElem?_map->cg,pairwise_cons->cj,mem_append->ck,length_take->d8,take_append_drop->dg,length_drop->dj,drop_eq_getElem_cons->dr,mem_append_left->du,mem_map_of_mem->dz,pairwise_append->eh,all_cons->ej,find?_cons->ez,perm_append_comm->f9,nodup_cons->fb,map_map->fc,mem_map->fe,getElem_mem->fg,filterMap_cons->fh,replicate_succ->fi,length_replicate->fk,eq_nil_of_length_eq_zero->ft,foldl_cons->gM,getElem?_append_left->gN,countP_cons->gO,lookup_cons->gP,mem_singleton->gQ,mem_of_mem_take->gW,append_nil->gX,length_set->gZ,nil_append->gc,getElem?_cons_zero->gf,drop_eq_nil_of_le->gh,take_of_length_le->gi,not_mem_nil->gj,getElem?_append_right->gm,map_nil->gq,flatten_cons->gr,findIdx?_eq_some_iff_getElem->gu,mem_of_mem_drop->gx,map_congr_left->h9,getElem?_replicate->iB,all_map->iC,length_nil->iD,length_singleton->iG,getElem?_set->iH,drop_sublist->iI,flatMap_cons->iK,length_reverse->iS,length_pos_iff->iT,getElem?_cons_succ->iW,mem_range->iX,take_sublist->iY,reverse_cons->iZ,getElem_drop->i3,getElem_take->i4,pairwise_map->i5,getElem?_set_self->i8,any_cons->i9,getElem?_eq_none->ie,take_length->ig,getElem?_set_ne->ip,mem_iff_getElem->iq,of_mem_zip->ir,forIn_cons->iu,map_append->iw,filter_eq_self->jA,drop_drop->jC,mem_filterMap->jD,countP_append->jF,map_id->jI,extract_eq_take_drop->jK,pairwise_iff_getElem->jL,getElem?_take_of_lt->jM,cons_append->jO,filter_cons->jP,zipIdx_cons->jQ,set_set->jS,mem_filter->jU,range_succ_eq_map->jV,countP_mono_left->jX,getElem?_toArray->jY,drop_zero->jZ,mem_of_getElem?->j3,take_succ_cons->j6,take_add->j7,perm_singleton->j8,length_zipWith->j9,countP_pos_iff->jc,filterMap_map->jd,any_eq_false->jh,foldl_append->jj,take_add_one->jk,nodup_append->jl,getElem_inj->jm,mem_flatMap->jo
open Nat renaming le_refl->ae,le_trans->aq,ne_of_lt->az,lt_of_lt_of_le->bj,le_of_ble_eq_true->bq,le_of_lt->d7,lt_or_ge->d9,lt_succ_of_lt->fj,lt_irrefl->fu,zero_le->gn,mul_le_mul_right->iL,pow_le_pow_right->iM,lt_succ_self->iQ,ne_of_gt->iU,mul_comm->iV,le_add_right->ik,succ_mul->iy,zero_add->iz,mul_le_mul_left->jB,le_of_not_lt->jN,lt_trans->jR,le_mul_of_pos_right->jT,mul_assoc->jb,pos_of_ne_zero->jf,pow_succ->jg
open PySem.Heap renaming get?_push_of_some->aa,lt_size->ai,get?_push_size->au,size_push->dy,get?_update_self->fq,get?_update_other->fw,get?_push_ne->iJ,size_update->ii,get?_some_iff->je
open Option renaming bind_some->aw,map_some->di,isSome_iff_exists->gR,getD_none->jn
open Array renaming length_toList->bg,getElem_mem->bz,getElem?_toList->ci,toArray_toList->gw,toList_append->hV,getElem?_eq_getElem->iR,toList_setIfInBounds->jG,perm_iff_toList_perm->jH,toList_extract->j4,toList_reverse->j5,size_append->ji
open Bool renaming and_eq_true->bo,false_ne_true->cz,false_eq_true->dw,false_and->gk,and_false->gz,true_and->io,not_eq_true->jq
open Int renaming toNat_natCast->i7,emod_lt_of_pos->jE,emod_nonneg->jW
open PySem.Calls renaming spliced_cons->br,spliced_nil->dq,callWith_builtin->gK,evalArgs_plain->gU,call_function_entry->jJ
theorem az0 (h : True := by rfl) : True := trivial
theorem az1 (h : True := by decide) : True := trivial
theorem az2 (h : True := by first |exact .inl rfl |exact .inr rfl |assumption) : True := trivial
theorem az3 (h : True := by intro _; rfl) : True := trivial
theorem az4 (h : True := by first |exact Or.inl rfl |exact Or.inr rfl) : True := trivial
theorem az5 (h : True := by with_unfolding_all rfl) : True := trivial
theorem az6 (h : True := by intros; rfl) : True := trivial
theorem az7 (h : True := by first |exact Or.inl rfl |exact Or.inr (Or.inl rfl) |exact Or.inr (Or.inr rfl)) : True := trivial
theorem az8 (h : True := by first |exact nobehind _ (by decide) (by decide) |rfl) : True := trivial
set_option hygiene false
open Lean in
def Zt0(n:Nat):MacroM Term:=match n with
|10=>`(by decide)
|11=>`(by lia)
|12=>`(model X.prog X.w)
|13=>`(aAd (dVar 0) bNil)
|14=>`(aGb 3 setL (dPr pAdd (aAa (dVar 4) (aAa (dVar 5) dNil))) (dPr pAdd (aAa (dPr aFu (aAa (dVar 3) (aAa (dPr pAdd (aAa (dVar 4) (aAa (dVar 5) dNil))) (aAa (dK (.int 0)) dNil)))) (aAa (dPr pGet (aAa (dVar 1) (aAa (dVar 4) dNil))) dNil))))
|15=>`(aAa (dFz (dK (.int 1))) dNil)
|16=>`(starEach (e::es) X.env=(false,eval e X.env)::starEach es X.env)
|17=>`(Addr × Obj)
|18=>`(model prog w)
|19=>`(aCs (dIt (dVar 2)) (srcOf [none,some 0,some 1,some 2,some 3,some 4]) (putAt 0) yes (dPr pAdd (aAa (dVar 5) (aAa (dTup (aAa (dFz (dVar 0)) dNil)) dNil))))
|20=>`((.tup (ds.map tupT),.fz))
|21=>`((x==("__debug__" : Str))=false)
|22=>`(aAd (dVar 1) bNil)
|23=>`((t,true))
|24=>`((.lst (ns.map .int),.bor))
|25=>`(Int × Int)
|26=>`(aAc (aAb 0) aAi)
|27=>`(by simp)
|_=>Macro.throwUnsupported
open Lean in
def Ztab(n:Nat):MacroM Term:=match n/32 with
|0=>Zt0 (n%32)
|_=>Macro.throwUnsupported
open Lean in
def Zval(c:Char):Nat:=let n:=c.toNat;if n<58 then n-48 else if n<90 then n-55 else n-62
open Lean in
local macro_rules
|`($x:ident)=>do
 let s:=x.getId.toString
 if s.front != 'Z' then Macro.throwUnsupported
 match (s.toList.drop 1).map Zval with
 |[a]=>Ztab a
 |[a,b]=>Ztab (61+a*61+b)
 |_=>Macro.throwUnsupported
section
namespace L2
open PySem PySem.Spec PyProof.Rows
abbrev Key:=Sum Int Str
def aV0:Key->Value->Bool
 |.inl k,v=>Value.isInt k v
 |.inr x,v=>Value.isStrOf x v
def keyH(w:World):Key->Int
 |.inl k=>hashInt k
 |.inr x=>hashStr w x
theorem aBz:∀ {k:Key} {v:Value},aV0 k v=true->(∃i t,k=Sum.inl i/\v=Value.int i t)\/(∃x t,k=Sum.inr x/\v=Value.str x t)
 |.inl i,v,h=>by obtain⟨t,e⟩:=Value.isInt_shape (k:=i) (v:=v) h;exact .inl ⟨i,t,rfl,e⟩
 |.inr x,v,h=>by obtain⟨t,e⟩:=Value.isStrOf_shape (x:=x) (v:=v) h;exact .inr ⟨x,t,rfl,e⟩
theorem aZ3(i:Int)(t:Tok):aV0 (.inl i) (.int i t)=true:=by simp[aV0,Value.isInt]
theorem bBf(x:Str)(t:Tok):aV0 (.inr x) (.str x t)=true:=by simp[aV0,Value.isStrOf]
theorem key_ll(a b:Int):decide ((Sum.inl a:Key)=Sum.inl b)=(a==b):=by
 by_cases e:a=b
 ·subst e;simp
 ·have h:¬ (Sum.inl a:Key)=Sum.inl b:=fun q=>e (Sum.inl.inj q);rw[decide_eq_false h];exact(beq_eq_false_iff_ne.mpr e).symm
theorem key_rr(a b:Str):decide ((Sum.inr a:Key)=Sum.inr b)=decide (a=b):=by
 by_cases e:a=b
 ·subst e;simp
 ·have h:¬ (Sum.inr a:Key)=Sum.inr b:=fun q=>e (Sum.inr.inj q);rw[decide_eq_false h,decide_eq_false e]
theorem key_lr(a:Int)(b:Str):decide ((Sum.inl a:Key)=Sum.inr b)=false:=decide_eq_false (fun q=>nomatch q)
theorem key_rl(a:Str)(b:Int):decide ((Sum.inr a:Key)=Sum.inl b)=false:=decide_eq_false (fun q=>nomatch q)
def aA6(prog:Program)(w:World):PySem.KeyKind prog w Key where
 is:=aV0
 hash:=keyH w
 inj:=fun v a b ha hb=>by
  rcases aBz ha with ⟨i,t,rfl,rfl⟩ |⟨x,t,rfl,rfl⟩
  ·rcases aBz hb with ⟨j,u,rfl,e⟩ |⟨y,u,rfl,e⟩
   ·injection e with e1 _;rw[e1]
   ·exact nomatch e
  ·rcases aBz hb with ⟨j,u,rfl,e⟩ |⟨y,u,rfl,e⟩
   ·exact nomatch e
   ·injection e with e1 _;rw[e1]
 byValue:=fun k v h=>by rcases aBz h with ⟨i,t,rfl,rfl⟩ |⟨x,t,rfl,rfl⟩<;>rfl
 pyHash:=fun hv h=>by
  rcases aBz hv with ⟨i,t,rfl,rfl⟩ |⟨x,t,rfl,rfl⟩
  ·exact wpAny_pyHash_int h
  ·exact wpAny_pyHash_str h
 eqBool:=fun hu hv h=>by
  rcases aBz hu with ⟨i,t,rfl,rfl⟩ |⟨x,t,rfl,rfl⟩
  ·rcases aBz hv with ⟨j,u,rfl,rfl⟩ |⟨y,u,rfl,rfl⟩
   ·rw[key_ll] at h;exact wpAny_eqBool_int h
   ·rw[key_lr] at h;exact SeqAt.EqAt.int_str i t y u _ _ _ _ h
  ·rcases aBz hv with ⟨j,u,rfl,rfl⟩ |⟨y,u,rfl,rfl⟩
   ·rw[key_rl] at h;exact SeqAt.EqAt.str_int x t j u _ _ _ _ h
   ·rw[key_rr] at h;exact wpAny_eqBool_str h
 «strs»:=fun k x t v h=>by
  rcases aBz h with ⟨i,u,rfl,e⟩ |⟨y,u,rfl,e⟩
  ·exact nomatch e
  ·injection e with e1 _;subst e1;cases v<;>rfl
theorem aVj(prog:Program)(w:World)(i:Int)(t:Tok):(aA6 prog w).is (.inl i) (.int i t)=true:=aZ3 i t
theorem aVi(prog:Program)(w:World)(x:Str)(t:Tok):(aA6 prog w).is (.inr x) (.str x t)=true:=bBf x t
inductive V where
 |non |bl (b:Bool) |int (i:Int) |str (x:Str) |byt (b:Array UInt8) |flt (b:UInt64) |ref (a:Addr) |ty (n:String)
 deriving DecidableEq
def RelV:V->Value->Prop
 |.non,u=>u=Value.none
 |.bl b,u=>u=Value.bool b
 |.int i,u=>∃t,u=Value.int i t
 |.str x,u=>∃t,u=Value.str x t
 |.byt b,u=>∃t,u=Value.bytes b t
 |.flt b,u=>∃t,u=Value.float b t
 |.ref a,u=>u=Value.ref a
 |.ty n,u=>u=Value.type n
abbrev Vals:List V->List Value->Prop:=Paired RelV
theorem Vals.length(r:Vals xs us):xs.length=us.length:=Paired.length r
theorem Vals.get:∀ {xs:List V} {us:List Value} {i:Nat} {x:V},Vals xs us->xs[i]?=some x->∃u,us[i]?=some u/\RelV x u
 |_,_,_,_,.nil,e=>by simp at e
 |_,_,0,_,.cons r _,e=>by simp at e;subst e;exact⟨_,rfl,r⟩
 |_,_,i+1,x,.cons _ t,e=>by obtain⟨u,h1,h2⟩:=Vals.get (i:=i) (x:=x) t (by simpa using e);exact⟨u,by simpa using h1,h2⟩
theorem Vals.set(r:RelV x u):∀ {xs:List V} {us:List Value} (i:Nat),Vals xs us->Vals (xs.set i x) (us.set i u)
 |_,_,_,.nil=>.nil
 |_,_,0,.cons _ t=>.cons r t
 |_,_,i+1,.cons q t=>.cons q (Vals.set r i t)
theorem Vals.append:∀ {xs ys:List V} {us ws:List Value},Vals xs us->Vals ys ws->Vals (xs++ys) (us++ws)
 |_,_,_,_,.nil,s=>s
 |_,_,_,_,.cons r t,s=>.cons r (Vals.append t s)
theorem Vals.take:∀ {xs:List V} {us:List Value} (n:Nat),Vals xs us->Vals (xs.take n) (us.take n)
 |_,_,0,_=>.nil
 |_,_,_+1,.nil=>.nil
 |_,_,n+1,.cons r t=>.cons r (Vals.take n t)
theorem Vals.drop:∀ {xs:List V} {us:List Value} (n:Nat),Vals xs us->Vals (xs.drop n) (us.drop n)
 |_,_,0,r=>r
 |_,_,_+1,.nil=>.nil
 |_,_,n+1,.cons _ t=>Vals.drop n t
def RelO:Option V->Option Value->Prop
 |some v,some u=>RelV v u
 |none,none=>True
 |_,_=>False
def KV{κ:Type}:List (κ × V)->List (κ × Value)->Prop:=Paired fun (p:κ × V) (q:κ × Value)=>p.1=q.1/\RelV p.2 q.2
def kV:Key->V
 |.inl i=>.int i
 |.inr x=>.str x
inductive HO where
 |lst (xs:List V)
 |tol (xs:List V)
 |tup (xs:List V)
 |dK (kvs:List (Key × V)) |dT (kvs:List (List Key × V))
 |dR (ks:List (List (List Int) × Addr))
 |set (S:Int->Bool) (n:Nat)
 |ins (C dx:Addr) (fs:List (Str × V))
 |own (x:Addr)
 |xd (fs:List (Str × V))
 |met (f x:Addr)
 |rng (lo hi:Int)
 |frz (o:Obj) (u:HO)
 |tbl (ps:Array Value)
 |ext (φ:Heap->Prop)
abbrev Hp:=Addr->Option HO
def upd(H:Hp)(a:Addr)(o:HO):Hp:=fun b=>if b=a then some o else H b
theorem aAq:upd H a o a=some o:=by unfold upd;rw[if_pos rfl]
theorem aAn(h:b≠a):upd H a o b=H b:=by unfold upd;rw[if_neg h]
theorem aDb{H:Hp}{a b:Addr}{o u:HO}(h:H a=some o)(h':H b=some u)(d:o≠u):a≠b:=by intro e;subst e;rw[h] at h';exact d (Option.some.inj h')
theorem aB4{H:Hp}{a b:Addr}{o:HO}(h:H a=some o)(h':H b=none):a≠b:=by intro e;subst e;rw[h] at h';cases h'
def aEg(h:Heap)(a:Addr)(items:Array Value):Prop:=∃o,h.get? a=some o/\o.cls = .type "tuple" /\ o.dict=none/\∃n,o.data = .seq items n
theorem aEg.tup{h:Heap}{a:Addr}{items:Array Value}(x:aEg h a items):IsTup h a items:=let ⟨o,ho,hc,_,r⟩:=x;⟨o,ho,hc,r⟩
theorem aEg.new(h:Heap)(items:Array Value):aEg (h.push { cls:=.type "tuple",data:=.seq items }) h.objs.size items:=⟨_,au _ rfl,rfl,rfl,_,rfl⟩
theorem aEg.lt(x:aEg h a items):a<h.objs.size:=x.tup.lt
def rowsHash(prog:Program)(w:World)(ls:List (List Int)):Int:=reduceHash (Builtin.Tuple.tupleHashOf (ls.map (tupleKeyHash (intKind prog w))))
inductive RowsIn (H:Hp):List (List Int)->List V->Prop
 |nil:RowsIn H [] []
 |cons {l:List Int} {b:Addr} {ls:List (List Int)} {vs:List V} (q:H b=some (.tup (l.map V.int))) (r:RowsIn H ls vs):RowsIn H (l::ls) (.ref b::vs)
theorem RowsIn.mono(ht:∀b xs,H b=some (.tup xs)->H' b=some (.tup xs))(r:RowsIn H ls vs):RowsIn H' ls vs:=by
 induction r with
 |nil=>exact .nil
 |cons q _ ih=>exact .cons (ht _ _ q) ih
def RowAt(H:Hp)(ls:List (List Int))(b:Addr):Prop:=∃vs,H b=some (.tup vs)/\RowsIn H ls vs
section
variable (P:Program)(w:World)
def aCr(H:Hp)(h:Heap)(a:Addr):HO->Prop
 |.lst xs=>xs.length<=sizeLine/\∃ (its:List Value) (n:Nat),Vals xs its/\h.get? a=some { cls:=.type "list",data:=.seq its.toArray n }
 |.tol xs=>xs.length<=sizeLine/\∃ (its:List Value) (n:Nat),Vals xs its/\h.get? a=some { cls:=.type "list",data:=.seq its.toArray n }
 |.tup xs=>xs.length<=sizeLine/\∃its:List Value,Vals xs its/\aEg h a its.toArray
 |.dK kvs=>kvs.length<=sizeLine/\(a==sysModules)=false/\∃vs,KV kvs vs/\h.DictOf (aA6 P w) a vs
 | .dT kvs=>kvs.length<=sizeLine/\(a==sysModules)=false/\∃xs:List (List Key × Addr × Value),
   Paired (fun (p:List Key × V) (q:List Key × Addr × Value)=>p.1=q.1/\H q.2.1=some (.tup (p.1.map kV))/\RelV p.2 q.2.2) kvs xs /\
   ∃o es ep,h.get? a=some o/\o.ExactDict/\o.data = .dict es ep/\es.toList=xs.map (entryOfKey (tupleKind (aA6 P w)))/\(xs.map (·.1)).Nodup
 |.dR ks=>ks.length<=sizeLine/\(a==sysModules)=false/\(∀k∈ks,RowAt H k.1 k.2)/\(ks.map (·.1)).Nodup/\∃o es ep,h.get? a=some o/\o.ExactDict/\o.data = .dict es ep/\es.toList=ks.map fun k=>⟨rowsHash P w k.1,.ref k.2,.bool true⟩
 |.set S n=>h.SetOf (intKind P w) a S n
 | .ins C dx fs=>H dx=some (.own a)/\fs.length<=1000/\dx≠a/\h.get? a=some (W.instObj C dx) /\
   ∃mA,h.Ns1 dx mA/\(∀f,RelO (fs.lookup f) (mA f))/\PySem.Within mA (fs.map (·.1))
 |.own _=>∃o,h.get? a=some o
 |.xd fs=>∃mA,h.Ns1 a mA/\∀f,RelO (fs.lookup f) (mA f)
 |.rng lo hi=>∃t u v,h.get? a=some { cls:=.type "range",data:=.fields #[.int lo t,.int hi u,.int 1 v] }
 |.frz o u=>h.get? a=some o/\aCr H h a u
 |.tbl ps=>h.get? a=some { cls:=.none,data:=.fields ps }
 |.met f x=>h.get? a=some (W.methodObj (.ref f) (.ref x))
 |.ext φ=>φ h/\(∃o,h.get? a=some o)/\∀h1 h2:Heap,φ h1->(∀o,h1.get? a=some o->h2.get? a=some o)->φ h2
def HOk(H:Hp)(h:Heap):Prop:=∀a o,H a=some o->aCr P w H h a o
end
section
variable {P:Program}{w:World}{H H':Hp}{h h':Heap}{a:Addr}{o:HO}
theorem aCr.lt(x:aCr P w H h a o):a<h.objs.size:=by
 cases o with
 |lst xs=>obtain⟨_,_,_,_,e⟩:=x;exact ai e
 |tol xs=>obtain⟨_,_,_,_,e⟩:=x;exact ai e
 |tup xs=>obtain⟨_,_,_,p⟩:=x;exact p.lt
 |dK kvs=>obtain⟨_,_,_,_,o,_,_,e,_⟩:=x;exact ai e
 |dT kvs=>obtain⟨_,_,_,_,o,_,_,e,_⟩:=x;exact ai e
 |dR ks=>obtain⟨_,_,_,_,o,_,_,e,_⟩:=x;exact ai e
 |set S n=>obtain⟨o,_,_,_,e,_⟩:=x;exact ai e
 |ins C dx fs=>obtain⟨_,_,_,e,_⟩:=x;exact ai e
 |own y=>obtain⟨_,e⟩:=x;exact ai e
 |xd fs=>obtain⟨_,⟨_,_,_,e,_⟩,_⟩:=x;exact ai e
 |rng lo hi=>obtain⟨_,_,_,e⟩:=x;exact ai e
 |frz ob u=>obtain⟨e,_⟩:=x;exact ai e
 |tbl ps=>exact ai (show h.get? a=some _ from x)
 |met f y=>exact ai (show h.get? a=some _ from x)
 |ext φ=>obtain⟨_,⟨_,e⟩,_⟩:=x;exact ai e
theorem Paired.mapP{α β:Type}{F G:α->β->Prop}:∀ {l₁:List α} {l₂:List β},Paired F l₁ l₂->(∀a b,F a b->G a b)->Paired G l₁ l₂
 |_,_,.nil,_=>.nil
 |_,_,.cons r t,f=>.cons (f _ _ r) (Paired.mapP t f)
theorem aCr.stay(x:aCr P w H h a o)(k:∀b u,(b=a\/H b=some (.own a))->h.get? b=some u->h'.get? b=some u)
  (ho:∀b,H b=some (.own a)->H' b=some (.own a)) (ht:∀b xs,H b=some (.tup xs)->H' b=some (.tup xs)):aCr P w H' h' a o:=by
 induction o with
 |lst xs=>obtain⟨z,its,n,r,e⟩:=x;exact⟨z,its,n,r,k _ _ (.inl rfl) e⟩
 |tol xs=>obtain⟨z,its,n,r,e⟩:=x;exact⟨z,its,n,r,k _ _ (.inl rfl) e⟩
 |tup xs=>obtain⟨z,its,r,ob,e,c⟩:=x;exact⟨z,its,r,ob,k _ _ (.inl rfl) e,c⟩
 |dK kvs=>obtain⟨z,y,vs,r,ob,es,ep,e,c⟩:=x;exact⟨z,y,vs,r,ob,es,ep,k _ _ (.inl rfl) e,c⟩
 | dT kvs =>
  obtain⟨z,y,xs,r,ob,es,ep,e,c⟩:=x;exact⟨z,y,xs,Paired.mapP r fun p q z=>⟨z.1,ht _ _ z.2.1,z.2.2⟩,ob,es,ep,k _ _ (.inl rfl) e,c⟩
 | dR ks =>
  obtain⟨z,y,r,nd,ob,es,ep,e,c⟩:=x;exact⟨z,y,fun q hq=>let ⟨vs,h1,h2⟩:=r q hq;⟨vs,ht _ _ h1,h2.mono ht⟩,nd,ob,es,ep,k _ _ (.inl rfl) e,c⟩
 |set S n=>obtain⟨ob,es,ep,t,e,c⟩:=x;exact⟨ob,es,ep,t,k _ _ (.inl rfl) e,c⟩
 | ins C dx fs =>
  obtain⟨d,z,ne,e,mA,⟨od,es,ep,e2,c⟩,r⟩:=x;exact⟨ho _ d,z,ne,k _ _ (.inl rfl) e,mA,⟨od,es,ep,k _ _ (.inr d) e2,c⟩,r⟩
 |own y=>obtain⟨ob,e⟩:=x;exact⟨ob,k _ _ (.inl rfl) e⟩
 |xd fs=>obtain⟨mA,⟨od,es,ep,e,c⟩,r⟩:=x;exact⟨mA,⟨od,es,ep,k _ _ (.inl rfl) e,c⟩,r⟩
 |rng lo hi=>obtain⟨t,u,v,e⟩:=x;exact⟨t,u,v,k _ _ (.inl rfl) e⟩
 |frz ob u ih=>obtain⟨e,q⟩:=x;exact⟨k _ _ (.inl rfl) e,ih q⟩
 | tbl ps =>
  have e:h.get? a=some { cls:=.none,data:=.fields ps }:=x;show h'.get? a=some { cls:=.none,data:=.fields ps };exact k a _ (.inl rfl) e
 | met f y =>
  have e:h.get? a=some (W.methodObj (.ref f) (.ref y)):=x;show h'.get? a=some (W.methodObj (.ref f) (.ref y));exact k a _ (.inl rfl) e
 |ext φ=>obtain⟨p,⟨o,e⟩,st⟩:=x;exact⟨st _ _ p fun o q=>k _ _ (.inl rfl) q,⟨o,k _ _ (.inl rfl) e⟩,st⟩
theorem HOk.lt(x:HOk P w H h)(e:H a=some o):a<h.objs.size:=(x a o e).lt
theorem HOk.fresh(x:HOk P w H h)(e:h.objs.size<=a):H a=none:=by
 cases q:H a with
 |none=>rfl
 |some u=>exact absurd (bj (x.lt q) e) (fu _)
theorem HOk.kept(x:HOk P w H h)(k:∀b u,h.get? b=some u->h'.get? b=some u):HOk P w H h':=fun a o e =>
 (x a o e).stay (fun b u _ q=>k b u q) (fun _ q=>q) fun _ _ q=>q
theorem HOk.laid(x:HOk P w H h)(k:∀b u,h.get? b=some u->h'.get? b=some u)(hp:h.objs.size<=a)(new:aCr P w (upd H a o) h' a o):HOk P w (upd H a o) h':=fun b u e=>by
 have hn:=x.fresh hp;by_cases hb:b=a
 ·subst hb;rw[aAq] at e;cases e;exact new
 ·rw[aAn hb] at e;exact(x b u e).stay (fun c v _ q=>k c v q) (fun c q=>by rw[aAn (aB4 q hn)];exact q) fun c xs q=>by rw[aAn (aB4 q hn)];exact q
end
def Rd(H:Hp)(a:Addr)(u:HO):Prop:=H a=some u\/∃o,H a=some (.frz o u)
theorem Rd.ok(r:Rd H a u)(x:HOk P w H h):aCr P w H h a u:=by
 rcases r with r |⟨o,r⟩
 ·exact x a u r
 ·obtain⟨_,q⟩:=x a _ r;exact q
def Mut:Option HO->Prop
 |some (.lst _)=>True
 |some (.dK _)=>True
 |some (.dT _)=>True
 |some (.dR _)=>True
 |some (.set _ _)=>True
 |some (.ins _ _ _)=>True
 |some (.ext _)=>True
 |_=>False
section
variable {P:Program}{w:World}{H:Hp}{h h':Heap}{x e:Addr}{o':HO}
theorem HOk.write(ok:HOk P w H h)(mu:Mut (H x))(he:e=x\/H e=some (.own x))(k:∀b u,b≠e->h.get? b=some u->h'.get? b=some u)(heo:∃u,h'.get? e=some u)
  (new:aCr P w (upd H x o') h' x o'):HOk P w (upd H x o') h':=fun b u q=>by
 have nown:∀c y,H c=some (.own y)->c≠x:=fun c y r z=>by subst z;rw[r] at mu;exact mu
 have ntup:∀c xs,H c=some (.tup xs)->c≠x:=fun c xs r z=>by subst z;rw[r] at mu;exact mu
 by_cases hb:b=x
 ·subst hb;rw[aAq] at q;cases q;exact new
 ·rw[aAn hb] at q;by_cases hbe:b=e
  ·have q':H b=some (.own x):=by
    rcases he with z |z
    ·exact absurd (hbe.trans z) hb
    ·rw[hbe];exact z
   rw[q] at q';cases q';obtain⟨v,hv⟩:=heo;exact⟨v,by rw[hbe];exact hv⟩
  ·refine(ok b u q).stay (fun c v hc r=>k c v ?_ r) (fun c r=>by rw[aAn (nown c b r)];exact r) fun c xs r=>by rw[aAn (ntup c xs r)];exact r
   rcases hc with rfl |hc
   ·exact hbe
   ·rintro rfl;rcases he with z |z
    ·exact nown c b hc z
    ·rw[hc] at z;cases z;exact hb rfl
end
structure Un (fs ex:List Addr) (H H':Hp) (h h':Heap):Prop where
 keep:∀b o,h.get? b=some o->H b=none->b∉fs->b∉ex->h'.get? b=some o
 slot:∀b o,h.get? b=some o->H b=none->b∈fs->b∉ex->∃sl,h'.get? b=some { o with slots:=sl }
 free:∀b o,h.get? b=some o->H b=none->b∉ex->H' b=none
 there:∀b o,h.get? b=some o->b∉ex->∃o',h'.get? b=some o'
 tups:∀b xs,H b=some (.tup xs)->H' b=some (.tup xs)
 frzs:∀b o u,H b=some (.frz o u)->H' b=some (.frz o u)
 tbls:∀b ps,H b=some (.tbl ps)->∃more,H' b=some (.tbl (ps++more))
section
variable {fs fs' ex ex':List Addr}{H H1 H2:Hp}{h h1 h2 h':Heap}{a x e:Addr}{o:HO}
theorem Un.any(u:Un fs ex H H1 h h1)(q:h.get? b=some ob)(n:H b=none)(hx:b∉ex):∃sl,h1.get? b=some { ob with slots:=sl }:=by
 by_cases hb:b∈fs
 ·exact u.slot b ob q n hb hx
 ·exact⟨ob.slots,u.keep b ob q n hb hx⟩
theorem Un.kept(k:∀b u,h.get? b=some u->h'.get? b=some u):Un fs ex H H h h' :=
 ⟨fun b ob q _ _ _=>k b ob q,fun b ob q _ _ _=>⟨ob.slots,k b ob q⟩,fun _ _ _ n _=>n,fun b ob q _=>⟨ob,k b ob q⟩,fun _ _ q=>q,fun _ _ _ q=>q,fun _ ps q=>⟨#[],by rw[q];simp⟩⟩
theorem Un.refl:Un fs ex H H h h:=Un.kept fun _ _ q=>q
theorem Un.laid(k:∀b u,h.get? b=some u->h'.get? b=some u)(hp:h.objs.size<=a)(hn:H a=none):Un fs ex H (upd H a o) h h' where
 keep:=fun b u q _ _ _=>k b u q
 slot:=fun b u q _ _ _=>⟨u.slots,k b u q⟩
 free:=fun b u q n _=>by rw[aAn (az (bj (ai q) hp))];exact n
 there:=fun b u q _=>⟨u,k b u q⟩
 tups:=fun b xs q=>by rw[aAn (aB4 q hn)];exact q
 frzs:=fun b u xs q=>by rw[aAn (aB4 q hn)];exact q
 tbls:=fun b ps q=>⟨#[],by rw[aAn (aB4 q hn),q];simp⟩
theorem Un.write(mu:Mut (H x))(he:e=x\/H e=some (.own x))(k:∀b u,b≠e->h.get? b=some u->h'.get? b=some u)(heo:∃u,h'.get? e=some u):Un fs ex H (upd H x o) h h':=by
 have hx:∀b,H b=none->b≠x:=fun b n z=>by subst z;rw[n] at mu;exact mu
 have hb:∀b,H b=none->b≠e:=fun b n z=>by
  subst z;rcases he with r |r
  ·exact hx b n r
  ·rw[n] at r;cases r
 have hm:∀b u,H b=some u -> ¬Mut (some u)->b≠x:=fun b u q nm z=>by subst z;rw[q] at mu;exact nm mu
 refine⟨fun b u q n _ _=>k b u (hb b n) q,fun b u q n _ _=>⟨u.slots,k b u (hb b n) q⟩,fun b u q n _=>by rw[aAn (hx b n)];exact n,fun b u q _=>?_,
  fun b xs q=>by rw[aAn (hm b _ q fun z=>z)];exact q,fun b u xs q=>by rw[aAn (hm b _ q fun z=>z)];exact q,fun b ps q=>⟨#[],by rw[aAn (hm b _ q fun z=>z),q];simp⟩⟩
 by_cases hbe:b=e
 ·subst hbe;exact heo
 ·exact⟨u,k b u hbe q⟩
end
def trk(h:Heap)(H:Hp):List Addr:=(List.range h.objs.size).filter fun a=>(H a).isSome
def hidT(h:Heap)(H:Hp):Heap:=W.hideAll h (trk h H)
theorem bAx(h:Heap)(H:Hp):(hidT h H).objs.size=h.objs.size:=W.hideAll_size _ _
theorem hidT_get(e:h.get? b=some o)(n:H b=none):(hidT h H).get? b=some o :=
 W.hideAll_get _ e fun hm=>by have q:(H b).isSome=true:=(jU.mp hm).2;rw[n] at q;simp at q
theorem of_hidT(e:(hidT h H).get? b=some o):h.get? b=some o/\H b=none:=by
 have e':h.get? b=some o:=W.of_hideAll (trk h H) e;refine⟨e',?_⟩;cases q:H b with
 |none=>rfl
 | some x =>
  have hm:b∈trk h H:=jU.mpr ⟨iX.mpr (ai e'),by simp[q]⟩;have z:(hidT h H).get? b=none:=W.hideAll_none (trk h H) hm;rw[z] at e;cases e
def allNews(g h:Heap)(L:Addr):List ZH:=(List.range h.objs.size).filterMap fun a=>if a=L\/(g.get? a).isSome=true then none else (h.get? a).map fun o=>(a,o)
def rest(g h:Heap)(L d:Addr):List ZH:=(allNews g h L).filter fun p=>decide (p.1≠d)
structure Mod (K:W.Frag) (mg:Str->Option Value) (base:Heap):Prop where
 kin:K.In base
 glob:base.Ns mainGlobals mg
 blt:∃mb,base.Ns builtinsNs mb/\∀x:Str,x ≠ "__name__" -> mb x=bootBuiltins x
 nolimit:base.NoLimit
structure Cx where
 prog:Program
 w:World
 K:W.Frag
 mg:Str->Option Value
 base:Heap
 A:Around
 N:List Str
 s₀:Shared
 H₀:Hp
 env:Env
 outer:List Env
 stack:List Env
 ex:List Addr
 fn:Str->Bool
 calm:Bool
 pn:List ZH
 xe:Value->Shared->Prop
def frs(l:List Env):List Addr:=l.filterMap (·.frame)
abbrev Cx.fs(X:Cx):List Addr:=frs X.outer
def Vis(sc:Scope)(x:Str):Prop:=sc.names.lookup x=some .local\/sc.names.lookup x=some .cell\/sc.names.lookup x=some .free
def Loc(sc:Scope)(x:Str):Prop:=sc.names.lookup x=some .local\/sc.names.lookup x=some .cell
def Look(env:Env)(h:Heap)(m:Str->Option Value)(x:Str)(u:Value):Prop :=
 (env.kindOf x=some .local/\m x=some u)\/((env.kindOf x=some .cell\/env.kindOf x=some .free)/\∃c,env.cells.lookup x=some c/\h.IsCell c (some u))
structure Cx.Ok (X:Cx):Prop where
 mod:Mod X.K X.mg X.base
 kind:X.env.scope.kind = .function
 glob:X.env.globals=mainGlobals
 blt:X.env.builtins=builtinsNs
 above:X.s₀.heap.objs.size<=X.env.locals
 inj:∀x y c,X.env.cells.lookup x=some c->X.env.cells.lookup y=some c->x=y
 has:∀x,(X.env.kindOf x=some .cell\/X.env.kindOf x=some .free)->∃c,X.env.cells.lookup x=some c
 cab:∀x c,X.fn x=true->X.env.cells.lookup x=some c->X.s₀.heap.objs.size<=c
 hd:X.calm=true->X.A.handled=none
 frames:X.A.frames=some X.stack
 stk:X.stack=X.outer\/(X.stack=X.env::X.outer/\X.env.frame=some X.env.locals)
 exf:∀b∈X.ex,b≠X.env.locals/\∀x c,X.env.cells.lookup x=some c->c≠b
 bs:∀b o,X.base.get? b=some o->X.s₀.heap.get? b=some o/\X.H₀ b=none
 bsz:X.base.objs.size<=X.s₀.heap.objs.size
 noex:∀b o,X.base.get? b=some o->b∉X.ex
 exfs:∀b∈X.ex,b∉X.fs
 funs:X.s₀.heap.FunFrames X.base X.outer
 frf:∀b∈X.fs,X.H₀ b=none
structure Inv (X:Cx) (pins:List ZH) (σ:List (Option V)) (H:Hp) (s:Shared):Prop where
 ok:X.Ok
 os:s.os=X.s₀.os
 bare:AllBare s.gens
 base:Un X.fs X.ex X.H₀ H X.s₀.heap s.heap
 loc:∃m,s.heap.Ns X.env.locals m/\∀ (i:Nat) (x:Str) (v:V),X.N[i]?=some x->σ[i]?=some (some v)->Vis X.env.scope x->∃u,RelV v u/\Look X.env s.heap m x u
 cell:∀x c,X.env.cells.lookup x=some c->∃v,s.heap.IsCell c v
 free:H X.env.locals=none
 freeC:∀x c,X.env.cells.lookup x=some c->H c=none
 pin:∀p∈X.pn++pins,s.heap.get? p.1=some p.2/\H p.1=none/\p.1≠X.env.locals/\p.1∉X.fs/\∀v,p.2.data ≠ .cell v
 hok:HOk X.prog X.w H s.heap
 len:σ.length=X.N.length
section
variable {X:Cx}{pins:List ZH}{σ:List (Option V)}{H H':Hp}{s:Shared}{h':Heap}
theorem Cx.Ok.nofr(ok:X.Ok)(e:X.base.get? b=some o):b∉X.fs:=fun hb=>by have:=(ok.funs.mem hb).1;rw[e] at this;cases this
theorem Inv.bs(I:Inv X pins σ H s):∀b o,X.base.get? b=some o->s.heap.get? b=some o/\H b=none:=fun b o e =>
 ⟨I.base.keep b o (I.ok.bs b o e).1 (I.ok.bs b o e).2 (I.ok.nofr e) (I.ok.noex b o e),I.base.free b o (I.ok.bs b o e).1 (I.ok.bs b o e).2 (I.ok.noex b o e)⟩
theorem Inv.bk(I:Inv X pins σ H s):∀b o,X.base.get? b=some o->s.heap.get? b=some o:=fun b o e=>(I.bs b o e).1
theorem Inv.mod(I:Inv X pins σ H s):Mod X.K X.mg X.base:=I.ok.mod
theorem Inv.kIn(I:Inv X pins σ H s):X.K.In s.heap:=I.ok.mod.kin.keeps I.bk
theorem Inv.lt(I:Inv X pins σ H s):X.env.locals<s.heap.objs.size:=let ⟨_,hn,_⟩:=I.loc;hn.lt
theorem Inv.sz(I:Inv X pins σ H s):X.s₀.heap.objs.size<=s.heap.objs.size:=aq I.ok.above (d7 I.lt)
theorem Inv.nofs(I:Inv X pins σ H s)(h:s.heap.objs.size<=a):a∉X.fs:=fun hb=>by obtain⟨_,o,ho,_⟩:=I.ok.funs.mem hb;exact absurd (bj (ai ho) (aq I.sz h)) (fu _)
theorem Inv.cne(I:Inv X pins σ H s):∀x c,X.env.cells.lookup x=some c->c≠X.env.locals:=fun x c e z=>by obtain⟨v,o,ho,hd⟩:=I.cell x c e;obtain⟨m,⟨o',es,ep,ho',hd',_⟩,_⟩:=I.loc;rw[z,ho'] at ho;cases ho;rw[hd'] at hd;cases hd
theorem Inv.funs(I:Inv X pins σ H s):s.heap.FunFrames X.base X.outer:=by
 have all:∀ (l:List Env),(∀b∈frs l,b∈X.fs)->X.s₀.heap.FunFrames X.base l->s.heap.FunFrames X.base l:=by
  intro l
  induction l with
  |nil=>intro _ _;trivial
  | cons env r ih =>
   intro hs hl;obtain⟨hk,⟨L,o,hf,hn,ho,hd⟩,hr⟩:=hl;have hL:L∈X.fs:=hs L (by unfold frs;rw[fh,hf];exact ao);obtain⟨sl,e⟩:=I.base.slot L o ho (I.ok.frf L hL) hL fun z=>I.ok.exfs L z hL;exact⟨hk,⟨L,_,hf,hn,e,hd⟩,ih (fun b hb=>hs b (by unfold frs;rw[fh,hf];exact am _ hb)) hr⟩
 exact all X.outer (fun _ hb=>hb) I.ok.funs
theorem Inv.stack(I:Inv X pins σ H s):s.heap.FunFrames X.base X.stack:=by
 rcases I.ok.stk with e |⟨e,hf⟩
 ·rw[e];exact I.funs
 ·rw[e];obtain⟨m,hn,_⟩:=I.loc;refine .cons (by rw[I.ok.kind];decide) hf hn ?_ I.funs;exact Heap.get?_none_of_le (aq I.ok.bsz I.ok.above)
theorem Inv.stkSub(I:Inv X pins σ H s):∀b∈frs X.stack,b∈X.env.locals::X.fs:=fun b hb=>by
 rcases I.ok.stk with e |⟨e,hf⟩
 ·rw[e] at hb;exact am _ hb
 ·rw[e] at hb;unfold frs at hb;rw[fh,hf] at hb;exact hb
theorem Inv.stkFree(I:Inv X pins σ H s):∀b∈frs X.stack,H b=none:=fun b hb=>by
 rcases bf.mp (I.stkSub b hb) with e |hb
 ·rw[e];exact I.free
 ·obtain⟨_,o,ho,_⟩:=I.ok.funs.mem hb;exact I.base.free b o ho (I.ok.frf b hb) fun z=>I.ok.exfs b z hb
theorem Inv.step{g':Array GenState}{t':Nat}{d':Drawn}{ch:List Addr}(I:Inv X pins σ H s)
  (hch:∀b∈ch,(b∈X.ex\/X.s₀.heap.objs.size<=b)/\b≠X.env.locals/\(∀x c,X.env.cells.lookup x=some c->c≠b)/\∀p∈X.pn++pins,p.1≠b)
  (keep:∀b o,b≠X.env.locals->b∉X.fs->b∉ch->s.heap.get? b=some o->H b=none->h'.get? b=some o)
  (slot:∀b o,b≠X.env.locals->b∈X.fs->b∉ch->s.heap.get? b=some o->H b=none->∃sl,h'.get? b=some { o with slots:=sl }) (free:∀b o,b∉ch->s.heap.get? b=some o->H b=none->H' b=none)
  (there:∀b o,b∉ch->s.heap.get? b=some o->∃o',h'.get? b=some o')
  (tups:∀b xs,H b=some (.tup xs)->H' b=some (.tup xs)) (frzs:∀b o u,H b=some (.frz o u)->H' b=some (.frz o u)) (tbls:∀b ps,H b=some (.tbl ps)->∃more,H' b=some (.tbl (ps++more)))
  (ns:∀m,s.heap.Ns X.env.locals m->h'.Ns X.env.locals m) (hok:HOk X.prog X.w H' h') (hg:AllBare g') :
  Inv X pins σ H' { s with heap:=h',gens:=g',drawn:=d',toks:=t' }:=by
 have neL:∀b o,X.s₀.heap.get? b=some o->b≠X.env.locals:=fun b o e=>az (bj (ai e) I.ok.above);have neC:∀b o,X.s₀.heap.get? b=some o->b∉X.ex->b∉ch:=fun b o e hx hb=>by
  rcases(hch b hb).1 with z |z
  ·exact hx z
  ·exact absurd (bj (ai e) z) (fu _)
 have cellK:∀x c,X.env.cells.lookup x=some c->∀v,s.heap.IsCell c v->h'.IsCell c v:=fun x c e v ⟨o,ho,hd⟩=>by
  have nch:c∉ch:=fun z=>(hch c z).2.2.1 x c e rfl;by_cases hc:c∈X.fs
  ·obtain⟨sl,q⟩:=slot c o (I.cne x c e) hc nch ho (I.freeC x c e);exact⟨_,q,hd⟩
  ·exact⟨o,keep c o (I.cne x c e) hc nch ho (I.freeC x c e),hd⟩
 refine⟨I.ok,I.os,hg,⟨fun b o e n hb hx=>?_,fun b o e n hb hx=>?_,fun b o e n hx=>?_,fun b o e hx=>?_,fun b xs e=>tups b xs (I.base.tups b xs e),fun b o xs e=>frzs b o xs (I.base.frzs b o xs e),fun b ps e=>?_⟩,?_,fun x c e=>?_,?_,fun x c e=>?_,fun p hp=>?_,hok,I.len⟩
 ·exact keep b o (neL b o e) hb (neC b o e hx) (I.base.keep b o e n hb hx) (I.base.free b o e n hx)
 ·obtain⟨sl,e1⟩:=I.base.slot b o e n hb hx;obtain⟨sl',e2⟩:=slot b _ (neL b o e) hb (neC b o e hx) e1 (I.base.free b o e n hx);exact⟨sl',e2⟩
 ·obtain⟨o',e1⟩:=I.base.there b o e hx;exact free b o' (neC b o e hx) e1 (I.base.free b o e n hx)
 ·obtain⟨o',e1⟩:=I.base.there b o e hx;exact there b o' (neC b o e hx) e1
 ·obtain⟨m1,e1⟩:=I.base.tbls b ps e;obtain⟨m2,e2⟩:=tbls b _ e1;exact⟨m1++m2,by rw[e2,Array.append_assoc]⟩
 ·obtain⟨m,hn,hl⟩:=I.loc;refine⟨m,ns m hn,fun i x v e1 e2 e3=>?_⟩;obtain⟨u,r,l⟩:=hl i x v e1 e2 e3;refine⟨u,r,?_⟩;rcases l with l |⟨k,c,e,z⟩
  ·exact .inl l
  ·exact .inr ⟨k,c,e,cellK x c e _ z⟩
 ·obtain⟨v,z⟩:=I.cell x c e;exact⟨v,cellK x c e v z⟩
 ·obtain⟨m,⟨o,_,_,ho,_⟩,_⟩:=I.loc;exact free _ o (fun z=>(hch _ z).2.1 rfl) ho I.free
 ·obtain⟨v,o,ho,hd⟩:=I.cell x c e;exact free c o (fun z=>(hch c z).2.2.1 x c e rfl) ho (I.freeC x c e)
 ·obtain⟨e,n,ne,nf,d⟩:=I.pin p hp;have nch:p.1∉ch:=fun z=>(hch p.1 z).2.2.2 p hp rfl;exact⟨keep p.1 p.2 ne nf nch e n,free p.1 p.2 nch e n,ne,nf,d⟩
theorem Inv.un{t':Nat}(I:Inv X pins σ H s)(u:Un X.fs [] H H' s.heap h')(hok:HOk X.prog X.w H' h'):Inv X pins σ H' { s with heap:=h',toks:=t' }:=by
 obtain⟨m,⟨o,es,ep,ho,r⟩,_⟩:=id I.loc;obtain⟨sl,hL⟩:=u.any ho I.free ZR
 exact I.step (g':=s.gens) (d':=s.drawn) (ch:=[]) (fun _ z=>nomatch z) (fun b o _ hb _ e n=>u.keep b o e n hb ZR) (fun b o _ hb _ e n=>u.slot b o e n hb ZR) (fun b o _ e n=>u.free b o e n ZR) (fun b o _ e=>u.there b o e ZR) u.tups u.frzs u.tbls (fun m' hm=>by
  obtain⟨o',es',ep',ho',r'⟩:=hm;rw[ho] at ho';cases ho'
  exact⟨_,es',ep',hL,r'⟩) hok I.bare
theorem Inv.call{t':Nat}(I:Inv X pins σ H s)(u:Un (frs X.stack) ch H H' s.heap h')(hok:HOk X.prog X.w H' h')(hg:AllBare g')
  (hch:∀b∈ch,(b∈X.ex\/X.s₀.heap.objs.size<=b)/\b≠X.env.locals/\(∀x c,X.env.cells.lookup x=some c->c≠b)/\∀p∈X.pn++pins,p.1≠b) :
  Inv X pins σ H' { s with heap:=h',gens:=g',drawn:=d',toks:=t' }:=by
 obtain⟨m,⟨o,es,ep,ho,r⟩,_⟩:=id I.loc;obtain⟨sl,hL⟩:=u.any ho I.free fun z=>(hch _ z).2.1 rfl
 exact I.step (ch:=ch) hch (fun b o hL hb hc e n=>u.keep b o e n (fun z=>(bf.mp (I.stkSub b z)).elim hL hb) hc) (fun b o _ _ hc e n=>u.any e n hc) (fun b o hc e n=>u.free b o e n hc) (fun b o hc e=>u.there b o e hc) u.tups u.frzs u.tbls (fun m' hm=>by
  obtain⟨o',es',ep',ho',r'⟩:=hm;rw[ho] at ho';cases ho'
  exact⟨_,es',ep',hL,r'⟩) hok hg
theorem Inv.turned{t':Nat}(I:Inv X pins σ H s)(k:∀b o,b≠it->s.heap.get? b=some o->h'.get? b=some o)(hn:H it=none)(hL:it≠X.env.locals)
  (h1:it∈X.ex\/X.s₀.heap.objs.size<=it) (h2:∀x c,X.env.cells.lookup x=some c->c≠it) (h3:∀p∈X.pn++pins,p.1≠it):Inv X pins σ H { s with heap:=h',toks:=t' }:=by
 have nit:∀b u,H b=some u->b≠it:=fun b u e z=>by rw[z,hn] at e;cases e
 refine I.step (g':=s.gens) (d':=s.drawn) (ch:=[it]) (fun b hb=>?_) (fun b o _ _ hc e _=>k b o (fun z=>hc (by simp[z])) e) (fun b o _ _ hc e _=>⟨o.slots,k b o (fun z=>hc (by simp[z])) e⟩) (fun _ _ _ _ n=>n)
  (fun b o hc e=>⟨o,k b o (fun z=>hc (by simp[z])) e⟩) (fun _ _ e=>e) (fun _ _ _ e=>e) (fun b ps e=>⟨#[],by rw[e];simp⟩) (fun m hm=>?_) (fun b u e=>?_) I.bare
 ·have e:b=it:=by simpa using hb
  subst e;exact⟨h1,hL,h2,h3⟩
 ·obtain⟨o,es,ep,ho,r⟩:=hm;exact⟨o,es,ep,k _ o (Ne.symm hL) ho,r⟩
 ·refine(I.hok b u e).stay (fun c v hc q=>k c v ?_ q) (fun _ q=>q) fun _ _ q=>q;rcases hc with z |z
  ·rw[z];exact nit b u e
  ·exact nit c _ z
theorem Inv.tok(I:Inv X pins σ H s)(t:Nat):Inv X pins σ H { s with toks:=t }:=I.un (h':=s.heap) (t':=t) Un.refl I.hok
theorem Inv.kept{t':Nat}(I:Inv X pins σ H s)(k:∀b u,s.heap.get? b=some u->h'.get? b=some u):Inv X pins σ H { s with heap:=h',toks:=t' }:=I.un (Un.kept k) (I.hok.kept k)
theorem Inv.laid{t':Nat}(I:Inv X pins σ H s)(k:∀b u,s.heap.get? b=some u->h'.get? b=some u)(hp:s.heap.objs.size<=a)(new:aCr X.prog X.w (upd H a o) h' a o) :
  Inv X pins σ (upd H a o) { s with heap:=h',toks:=t' }:=I.un (Un.laid k hp (I.hok.fresh hp)) (I.hok.laid k hp new)
theorem Inv.write{t':Nat}(I:Inv X pins σ H s)(mu:Mut (H x))(he:e=x\/H e=some (.own x))(k:∀b u,b≠e->s.heap.get? b=some u->h'.get? b=some u)(heo:∃u,h'.get? e=some u)
  (new:aCr X.prog X.w (upd H x o) h' x o):Inv X pins σ (upd H x o) { s with heap:=h',toks:=t' }:=I.un (Un.write mu he k heo) (I.hok.write mu he k heo new)
theorem Inv.pins_of(I:Inv X pins σ H s)(h:∀p∈pins',s.heap.get? p.1=some p.2/\H p.1=none/\p.1≠X.env.locals/\p.1∉X.fs/\∀v,p.2.data ≠ .cell v):Inv X pins' σ H s :=
 ⟨I.ok,I.os,I.bare,I.base,I.loc,I.cell,I.free,I.freeC,fun p hp=>(ck.mp hp).elim (fun z=>I.pin p (du _ z)) (h p),I.hok,I.len⟩
theorem aJ0{N:List Str}(hN:N.Nodup){i j:Nat}(a:N[i]?=some x)(b:N[j]?=some x):i=j:=by obtain⟨h1,e1⟩:=bh.mp a;obtain⟨h2,e2⟩:=bh.mp b;exact(jm hN).mp (e1.trans e2.symm)
theorem aSj{i:Nat}(I:Inv X pins σ H s)(hN:X.N.Nodup)(hi:X.N[i]?=some x)(hx:Loc X.env.scope x)(r:RelV v u)
  (h:∀s',Inv X pins (σ.set i (some v)) H s'->(∃a,Heap.SameBut a s.heap s'.heap/\(a=X.env.locals\/X.env.cells.lookup x=some a))->Q () s') (hf:autoParam (X.fn x=true\/X.env.scope.names.lookup x=some .local) az2._auto_1):wpAny M A (storeName X.env x u) Q E s:=by
 obtain⟨m,hn,hl⟩:=id I.loc;have hcls:(X.env.scope.kind == .class||(X.env.scope.kind == .module&&X.env.locals != X.env.globals))=false:=by rw[I.ok.kind];rfl
 have hiσ:i<σ.length:=by rw[I.len];exact(bh.mp hi).1
 have cne:=I.cne;have tracked:∀ {a:Addr} {h':Heap},(∃o,s.heap.get? a=some o/\H a=none)->Heap.SameBut a s.heap h'->HOk X.prog X.w H h':=fun {a h'} ha hs b ob e=>by
  obtain⟨_,_,hfree⟩:=ha;refine(I.hok b ob e).stay (fun c w' hc q=>(hs.2 c ?_).trans q) (fun _ q=>q) fun _ _ q=>q;rintro rfl;rcases hc with rfl |hc
  ·rw[hfree] at e;cases e
  ·rw[hfree] at hc;cases hc
 rcases hx with hk |hk
 ·refine wpAny_storeName_local hk hn (fun h' hn' hs=>?_) hcls;obtain⟨oL,_,_,hoL,_⟩:=id hn;refine h _ ⟨I.ok,I.os,I.bare,⟨fun b o e n hb hx=>?_,fun b o e n hb hx=>?_,I.base.free,fun b o e hx=>?_,I.base.tups,I.base.frzs,I.base.tbls⟩,⟨_,hn',fun j y v' e1 e2 e3=>?_⟩,fun y c e=>?_,I.free,I.freeC,fun p hp=>?_,tracked ⟨oL,hoL,I.free⟩ hs,by simpa using I.len⟩ ⟨_,hs,.inl rfl⟩
  ·exact(hs.2 b (az (bj (ai e) I.ok.above))).trans (I.base.keep b o e n hb hx)
  ·obtain⟨sl,e1⟩:=I.base.slot b o e n hb hx;exact⟨sl,(hs.2 b (az (bj (ai e) I.ok.above))).trans e1⟩
  ·obtain⟨o',e1⟩:=I.base.there b o e hx;exact⟨o',(hs.2 b (az (bj (ai e) I.ok.above))).trans e1⟩
  ·by_cases hj:j=i
   ·subst hj;rw[hi] at e1;cases e1;rw[i8 hiσ] at e2;cases e2;exact⟨u,r,.inl ⟨hk,by simp⟩⟩
   ·rw[ip (Ne.symm hj)] at e2;obtain⟨u',r',q⟩:=hl j y v' e1 e2 e3;refine⟨u',r',?_⟩;rcases q with ⟨k,e⟩ |⟨k,c,e,z⟩
    ·refine .inl ⟨k,?_⟩;have:y≠x:=fun e=>hj (aJ0 hN e1 (e▸hi));simp[this,e]
    ·exact .inr ⟨k,c,e,z.sameBut hs (cne y c e)⟩
  ·obtain⟨w',z⟩:=I.cell y c e;exact⟨w',z.sameBut hs (cne y c e)⟩
  ·obtain⟨e,n,ne,nf,d⟩:=I.pin p hp;exact⟨(hs.2 p.1 ne).trans e,n,ne,nf,d⟩
 ·have hfn:X.fn x=true:=by
   rcases hf with z |z
   ·exact z
   ·rw[z] at hk;cases hk
  obtain⟨c,hc⟩:=I.ok.has x (.inl hk);obtain⟨w',z⟩:=I.cell x c hc;refine wpAny_storeName_cell I.ok.kind hk hc z (fun h' hc' hs=>?_);obtain⟨oc,hoc,hocd⟩:=id z;refine h { s with heap:=h' } ⟨I.ok,I.os,I.bare,⟨fun b o e n hb hx=>?_,fun b o e n hb hx=>?_,I.base.free,fun b o e hx=>?_,I.base.tups,I.base.frzs,I.base.tbls⟩,⟨m,hn.sameBut hs (Ne.symm (cne x c hc)),fun j y v' e1 e2 e3=>?_⟩,fun y c' e=>?_,I.free,I.freeC,fun p hp=>?_,tracked ⟨oc,hoc,I.freeC x c hc⟩ hs,by simpa using I.len⟩ ⟨c,hs,.inr hc⟩
  ·exact(hs.2 b (az (bj (ai e) (I.ok.cab x c hfn hc)))).trans (I.base.keep b o e n hb hx)
  ·obtain⟨sl,e1⟩:=I.base.slot b o e n hb hx;exact⟨sl,(hs.2 b (az (bj (ai e) (I.ok.cab x c hfn hc)))).trans e1⟩
  ·obtain⟨o',e1⟩:=I.base.there b o e hx;exact⟨o',(hs.2 b (az (bj (ai e) (I.ok.cab x c hfn hc)))).trans e1⟩
  ·by_cases hj:j=i
   ·subst hj;rw[hi] at e1;cases e1;rw[i8 hiσ] at e2;cases e2;exact⟨u,r,.inr ⟨.inl hk,c,hc,hc'⟩⟩
   ·rw[ip (Ne.symm hj)] at e2;obtain⟨u',r',q⟩:=hl j y v' e1 e2 e3;refine⟨u',r',?_⟩;rcases q with q |⟨k,c',e,z'⟩
    ·exact .inl q
    ·refine .inr ⟨k,c',e,z'.sameBut hs ?_⟩;rintro rfl;exact hj (aJ0 hN e1 (I.ok.inj _ _ _ e hc▸hi))
  ·by_cases hcc:c'=c
   ·subst hcc;exact⟨_,hc'⟩
   ·obtain⟨w2,z2⟩:=I.cell y c' e;exact⟨w2,z2.sameBut hs hcc⟩
  ·obtain⟨e,n,ne,nf,d⟩:=I.pin p hp;refine⟨(hs.2 p.1 ?_).trans e,n,ne,nf,d⟩;intro q;rw[q,hoc] at e;have q':oc=p.2:=Option.some.inj e;exact d w' (by rw[<-q'];exact hocd)
theorem aM3{i:Nat}(I:Inv X pins σ H s)(hN:X.N.Nodup)(hi:X.N[i]?=some x)(hx:Loc X.env.scope x)(r:RelV v u)
  (h:∀s',Inv X pins (σ.set i (some v)) H s'->Q () s') (hf:autoParam (X.fn x=true\/X.env.scope.names.lookup x=some .local) az2._auto_1):wpAny M A (storeName X.env x u) Q E s :=
 aSj I hN hi hx r (fun s' I' _=>h s' I') hf
theorem Inv.call'(I:Inv X pins σ H s)(ho:s'.os=s.os)(u:Un (frs X.stack) ch H H' s.heap s'.heap)(hok:HOk X.prog X.w H' s'.heap)(hg:AllBare s'.gens)
  (hch:∀b∈ch,(b∈X.ex\/X.s₀.heap.objs.size<=b)/\b≠X.env.locals/\(∀x c,X.env.cells.lookup x=some c->c≠b)/\∀p∈X.pn++pins,p.1≠b):Inv X pins σ H' s':=by
 obtain⟨h',g',d',t',o'⟩:=s';have e:o'=s.os:=ho;subst e;exact I.call (g':=g') (t':=t') (d':=d') u hok hg hch
end
abbrev XK:=Value->Option Addr->Hp->Prop
abbrev St:=List (Option V)
abbrev VK:=V->Hp->Prop
abbrev TE:=St->Hp->VK->Prop
abbrev TT:=St->Hp->(Bool->Hp->Prop)->Prop
abbrev TA:=St->Hp->(List V->Hp->Prop)->Prop
structure Ends where
 nx:St->Hp->Prop
 rt:VK
 bk:St->Hp->Prop:=fun _ _=>False
 ct:St->Hp->Prop:=fun _ _=>False
abbrev TS:=Ends->St->Hp->Prop
def EP(X:Cx)(pins:List ZH)(σ:St)(Q:VK)(u:Value)(s':Shared):Prop:=∃v H',Inv X pins σ H' s'/\RelV v u/\Q v H'
def TP(X:Cx)(pins:List ZH)(σ:St)(Q:Bool->Hp->Prop)(b:Bool)(s':Shared):Prop:=∃H',Inv X pins σ H' s'/\Q b H'
def AP(X:Cx)(pins:List ZH)(σ:St)(Q:List V->Hp->Prop)(us:List Value)(s':Shared):Prop:=∃vs H',Inv X pins σ H' s'/\Vals vs us/\Q vs H'
def SP(X:Cx)(pins:List ZH)(D:Ends)(f:Flow)(s':Shared):Prop :=
 match f with
 |.next=>∃σ' H',Inv X pins σ' H' s'/\D.nx σ' H'
 |.brk=>∃σ' H',Inv X pins σ' H' s'/\D.bk σ' H'
 |.cont=>∃σ' H',Inv X pins σ' H' s'/\D.ct σ' H'
 |.ret u=>∃v σ' H',Inv X pins σ' H' s'/\RelV v u/\D.rt v H'
def PE(X:Cx)(e:Expr)(t:TE):Prop :=
 ∀ (pins:List ZH) (s:Shared) (σ:St) (H:Hp) (Q:VK),Inv X pins σ H s->t σ H Q->wpAny ZC X.A (eval e X.env) (EP X pins σ Q) X.xe s
def PT(X:Cx)(e:Expr)(t:TT):Prop :=
 ∀ (pins:List ZH) (s:Shared) (σ:St) (H:Hp) (Q:Bool->Hp->Prop),Inv X pins σ H s->t σ H Q->wpAny ZC X.A (isTrue e X.env (eval e X.env)) (TP X pins σ Q) X.xe s
def PW(X:Cx)(e:Expr)(t:TT):Prop :=
 ∀ (whole:Sem Value) (pins:List ZH) (s:Shared) (σ:St) (H:Hp) (Q:Bool->Hp->Prop),Inv X pins σ H s->t σ H Q->wpAny ZC X.A (isTrue e X.env whole) (TP X pins σ Q) X.xe s
theorem PW.pt(h:PW X e t):PT X e t:=h _
def PA(X:Cx)(es:List Expr)(t:TA):Prop :=
 ∀ (pos:Pos) (pins:List ZH) (s:Shared) (σ:St) (H:Hp) (Q:List V->Hp->Prop),Inv X pins σ H s->t σ H Q->wpAny ZC X.A (spliced (backTo pos (starEach es X.env))) (AP X pins σ Q) X.xe s
def PS(X:Cx)(st:Stmt)(t:TS):Prop :=
 ∀ (pins:List ZH) (s:Shared) (σ:St) (H:Hp) (D:Ends),Inv X pins σ H s->t D σ H->wpAny ZC X.A (exec st X.env) (SP X pins D) X.xe s
def PSs(X:Cx)(st:List Stmt)(t:TS):Prop :=
 ∀ (pins:List ZH) (s:Shared) (σ:St) (H:Hp) (D:Ends),Inv X pins σ H s->t D σ H->wpAny ZC X.A (execs st X.env) (SP X pins D) X.xe s
theorem thn{α:Type}{t:Sem α}{Q Q':α->Shared->Prop}{M:Model}(h:wpAny M A t Q E s)(hQ:∀a s,Q a s->Q' a s):wpAny M A t Q' E s:=wpAny_mono h hQ fun _ _ x=>x
section
variable {X:Cx}
def tVar(i:Nat):TE:=fun σ H Q=>∃v,σ[i]?=some (some v)/\Q v H
def tC(v:V):TE:=fun _ H Q=>Q v H
theorem aLu{i:Nat}(hN:X.N[i]?=some x)(hv:Vis X.env.scope x)(hd:autoParam ZL az1._auto_1)(hcd:autoParam ((x==("__classdict__" : Str))=false) az1._auto_1):PE X (.Name x pos) (tVar i):=by
 intro pins s σ H Q I h;obtain⟨v,e,h⟩:=h;obtain⟨m,hn,hl⟩:=I.loc;obtain⟨u,r,l⟩:=hl i x v hN e hv;have fin:EP X pins σ Q u s:=⟨v,H,I,r,h⟩
 rcases l with ⟨hk,hm⟩ |⟨hk,c,hc,hcell⟩
 ·exact wpAny_Name (wpAny_loadName_local I.ok.kind hk hn hm fin) hd
 ·rcases hk with hk |hk
  ·exact wpAny_Name (wpAny_loadName_cell I.ok.kind hk hc hcell fin) hd
  ·exact wpAny_Name (wpAny_loadName_free I.ok.kind hk hc hcell fin hcd) hd
theorem aV9{i j pos}:PE X (.Constant (.int i) j pos) (tC (.int i)):=fun _ _ _ H _ I h=>wpAny_Constant_int ⟨.int i,H,I.tok _,⟨_,rfl⟩,h⟩
theorem pe_bl{b j pos}:PE X (.Constant (.bool b) j pos) (tC (.bl b)):=fun _ _ _ H _ I h=>Constant_bool ⟨.bl b,H,I,rfl,h⟩
theorem pe_non{j pos}:PE X (.Constant .none j pos) (tC .non):=fun _ _ _ H _ I h=>Constant_none ⟨.non,H,I,rfl,h⟩
theorem bBz{x j pos}:PE X (.Constant (.str x) j pos) (tC (.str x)):=fun _ _ _ H _ I h=>Calls.Constant_str ⟨.str x,H,I.tok _,⟨_,rfl⟩,h⟩
def Gl(X:Cx)(x:Str):Prop:=X.env.kindOf x=some .globalImplicit
theorem aG9(I:Inv X pins σ H s)(hg:Gl X x)(hm:X.mg x=some u)(h:Q u s)
  (hd:autoParam ZL az1._auto_1):wpAny ZC X.A (eval (.Name x pos) X.env) Q E s :=
 Calls.Name_function_global I.ok.kind hg (Calls.loadGlobal_global (by rw[I.ok.glob];exact I.mod.glob.keeps I.bk) hm h) hd
theorem aFs(I:Inv X pins σ H s)(hg:Gl X x)(hm:X.mg x=none)(hv:bootBuiltins x=some u)(h:Q u s)
  (hn:autoParam (x ≠ "__name__") az1._auto_1) (hd:autoParam ZL az1._auto_1):wpAny ZC X.A (eval (.Name x pos) X.env) Q E s:=by
 obtain⟨mb,h1,h2⟩:=I.mod.blt;exact Calls.Name_function_global I.ok.kind hg (Calls.loadGlobal_builtin (by rw[I.ok.glob];exact I.mod.glob.keeps I.bk) hm (by rw[I.ok.blt];exact h1.keeps I.bk) ((h2 x hn).trans hv) h) hd
theorem aY7(hg:Gl X x)(hm:X.mg x=some u)(r:RelV v u)(hd:autoParam ZL az1._auto_1):PE X (.Name x pos) (tC v) :=
 fun _ _ _ H _ I h=>aG9 I hg hm ⟨v,H,I,r,h⟩ hd
variable {a b:Expr}{ta tb:TE}{pos:Pos}
def PC(X:Cx)(op:CmpOp)(a b:Expr)(t:TE):Prop :=
 ∀ (pins:List ZH) (s:Shared) (σ:St) (H:Hp) (Q:VK),Inv X pins σ H s->t σ H Q ->
  wpAny ZC X.A (eval a X.env) (fun v s₁=>wpAny ZC X.A (eval b X.env) (fun u s₂=>wpAny ZC X.A (compareOp op v u) (EP X pins σ Q) X.xe s₂) X.xe s₁) X.xe s
theorem nobehind(b:Expr)(h:op ≠ .In)(h2:op ≠ .NotIn):behindInMarks op b=false:=by
 have e1:(op==CmpOp.In)=false:=by cases op<;>first |rfl |exact absurd rfl h
 have e2:(op==CmpOp.NotIn)=false:=by cases op<;>first |rfl |exact absurd rfl h2
 cases b<;>simp[behindInMarks,e1,e2]
def tIsN(ta:TE):TE:=fun σ H Q=>ta σ H fun x H1=>Q (.bl (decide (x = .non))) H1
theorem RelV.none_iff(r:RelV x v):(v==Value.none)=decide (x = .non):=by
 cases x with
 |non=>cases r;rfl
 |bl _=>cases r;rfl
 |int _=>obtain⟨t,rfl⟩:=r;rfl
 |str _=>obtain⟨t,rfl⟩:=r;rfl
 |byt _=>obtain⟨t,rfl⟩:=r;rfl
 |flt _=>obtain⟨t,rfl⟩:=r;rfl
 |ref _=>cases r;rfl
 |ty _=>cases r;rfl
theorem pc_isN{j pos'}(ha:PE X a ta):PC X .Is a (.Constant .none j pos') (tIsN ta):=by intro pins s σ H Q I h;refine thn (ha pins s σ H _ I h) fun v s1 ⟨x,H1,I1,r1,q1⟩=>?_;exact Constant_none (is_none_gen ⟨.bl _,H1,I1,by rw[r1.none_iff];rfl,q1⟩)
theorem pe_cmp(h:PC X op a b t)(h1:autoParam (behindInMarks op b=false) az8._auto_1):PE X (.Compare a [op] [b] pos) t:=fun pins s σ H Q I hw=>wpAny_Compare1 (h pins s σ H Q I hw) h1
variable {tA tB':TT}{rest:List Expr}
def tNot(t:TT):TT:=fun σ H Q=>t σ H fun c H1=>Q (!c) H1
theorem pw_and1(ha:PT X a tA):PW X (.BoolOp .And [a] pos) tA:=by
 intro wh pins s σ H Q I h;refine isTrue_and (thn (ha pins s σ H Q I h) fun c s1 e=>?_);cases c with
 |true=>exact isTrue_and_nil e
 |false=>exact e
theorem pw_or1(ha:PT X a tA):PW X (.BoolOp .Or [a] pos) tA:=by
 intro wh pins s σ H Q I h;refine isTrue_or (thn (ha pins s σ H Q I h) fun c s1 e=>?_);cases c with
 |false=>exact isTrue_or_nil e
 |true=>exact e
theorem pt_not(ha:PT X a tA):PT X (.UnaryOp .Not a pos) (tNot tA):=by intro pins s σ H Q I h;exact isTrue_not (ha pins s σ H (fun c H1=>Q (!c) H1) I h)
theorem pe_one{op}(h:PE X a t):PE X (.BoolOp op [a] pos) t:=fun pins s σ H Q I hw=>BoolOp_one (h pins s σ H Q I hw)
def tIf(t:TT)(ta tb:TE):TE:=fun σ H Q=>t σ H fun c H1=>if c=true then ta σ H1 Q else tb σ H1 Q
theorem pe_ifExp(hc:PT X c tA)(ha:PE X a ta)(hb:PE X b tb):PE X (.IfExp c a b pos) (tIf tA ta tb):=by
 intro pins s σ H Q I h;refine wpAny_IfExp (thn (hc pins s σ H _ I h) fun d s1 ⟨H1,I1,q1⟩=>?_);cases d with
 |true=>exact ha pins s1 σ H1 Q I1 q1
 |false=>exact hb pins s1 σ H1 Q I1 q1
end
def SqL(K:W.Frag)(H:Hp)(a:Addr)(xs:List V):Prop :=
 Rd H a (.lst xs) \/
  (∃ (o:Obj) (its:Array Value) (n:Nat),K.lookup a=some o/\o.cls = .type "list" /\ o.dict=none/\o.data = .seq its n/\its.size<=sizeLine/\Vals xs its.toList)\/H a=some (.tol xs)
def SqT(K:W.Frag)(H:Hp)(a:Addr)(xs:List V):Prop :=
 Rd H a (.tup xs) \/
  ∃ (o:Obj) (its:Array Value) (n:Nat),K.lookup a=some o/\o.cls = .type "tuple" /\ o.data = .seq its n/\its.size<=sizeLine/\Vals xs its.toList
def absV:Value->Option V
 |.none=>some .non
 |.bool b=>some (.bl b)
 |.int i _=>some (.int i)
 |.str x _=>some (.str x)
 |.bytes b _=>some (.byt b)
 |.float b _=>some (.flt b)
 |.ref a=>some (.ref a)
 |.type n=>some (.ty n)
 |_=>none
theorem RelV.abs(r:RelV x u):absV u=some x:=by
 cases x with
 |non=>cases r;rfl
 |bl _=>cases r;rfl
 |int _=>obtain⟨t,rfl⟩:=r;rfl
 |str _=>obtain⟨t,rfl⟩:=r;rfl
 |byt _=>obtain⟨t,rfl⟩:=r;rfl
 |flt _=>obtain⟨t,rfl⟩:=r;rfl
 |ref _=>cases r;rfl
 |ty _=>cases r;rfl
theorem RelV.inj(r:RelV x u)(q:RelV y u):x=y:=Option.some.inj (r.abs.symm.trans q.abs)
theorem Vals.inj:∀ {xs ys:List V} {us:List Value},Vals xs us->Vals ys us->xs=ys
 |_,_,_,.nil,.nil=>rfl
 |_,_,_,.cons r t,.cons r' t'=>by rw[r.inj r',Vals.inj t t']
section
variable {X:Cx}{pins:List ZH}{σ:St}{H:Hp}{s:Shared}{a:Addr}{xs ys:List V}
theorem SqL.of{K:W.Frag}(h:H a=some (.lst xs)):SqL K H a xs:=.inl (.inl h)
theorem SqT.of{K:W.Frag}(h:H a=some (.tup xs)):SqT K H a xs:=.inl (.inl h)
theorem Inv.list(I:Inv X pins σ H s)(h:SqL X.K H a xs):∃its:List Value,Vals xs its/\PlainL s.heap a its.toArray/\xs.length<=sizeLine:=by
 rcases h with h |⟨o,its,n,hk,hc,hd,hs,hz,r⟩ |h
 ·obtain⟨z,its,n,r,e⟩:=h.ok I.hok;exact⟨its,r,⟨_,n,e,rfl,rfl,rfl⟩,z⟩
 ·refine⟨its.toList,r,⟨o,n,I.kIn a o hk,hc,hd,by simpa using hs⟩,?_⟩;have e:=r.length;simp only[bg] at e;lia
 ·obtain⟨z,its,n,r,e⟩:=I.hok a _ h;exact⟨its,r,⟨_,n,e,rfl,rfl,rfl⟩,z⟩
theorem Inv.tuple(I:Inv X pins σ H s)(h:SqT X.K H a xs):∃its:List Value,Vals xs its/\IsTup s.heap a its.toArray/\xs.length<=sizeLine:=by
 rcases h with h |⟨o,its,n,hk,hc,hs,hz,r⟩
 ·obtain⟨z,its,r,p⟩:=h.ok I.hok;exact⟨its,r,p.tup,z⟩
 ·refine⟨its.toList,r,⟨o,I.kIn a o hk,hc,n,by simpa using hs⟩,?_⟩;have e:=r.length;simp only[bg] at e;lia
theorem Inv.list_inj(I:Inv X pins σ H s)(h:SqL X.K H a xs)(h':SqL X.K H a ys):xs=ys:=by
 obtain⟨its,r,⟨o,n,e,_,_,d⟩,_⟩:=I.list h;obtain⟨its',r',⟨o',n',e',_,_,d'⟩,_⟩:=I.list h';rw[e] at e';cases e';rw[d] at d';injection d' with d1 _;have:its=its':=by simpa using congrArg Array.toList d1
 subst this;exact r.inj r'
theorem Inv.tuple_inj(I:Inv X pins σ H s)(h:SqT X.K H a xs)(h':SqT X.K H a ys):xs=ys:=by
 obtain⟨its,r,⟨o,e,_,n,d⟩,_⟩:=I.tuple h;obtain⟨its',r',⟨o',e',_,n',d'⟩,_⟩:=I.tuple h';rw[e] at e';cases e';rw[d] at d';injection d' with d1 _;have:its=its':=by simpa using congrArg Array.toList d1
 subst this;exact r.inj r'
end
abbrev Cx.wish(X:Cx)(E:Value->Shared->Prop):Cx:={ X with xe:=E }
abbrev Cx.nox(X:Cx):Cx:=X.wish fun _ _=>False
theorem Cx.Ok.wish{X:Cx}(ok:X.Ok)(E:Value->Shared->Prop):(X.wish E).Ok :=
 ⟨ok.mod,ok.kind,ok.glob,ok.blt,ok.above,ok.inj,ok.has,ok.cab,ok.hd,ok.frames,ok.stk,ok.exf,ok.bs,ok.bsz,ok.noex,ok.exfs,ok.funs,ok.frf⟩
theorem Cx.Ok.unwish{X:Cx}(ok:(X.wish E).Ok):X.Ok :=
 ⟨ok.mod,ok.kind,ok.glob,ok.blt,ok.above,ok.inj,ok.has,ok.cab,ok.hd,ok.frames,ok.stk,ok.exf,ok.bs,ok.bsz,ok.noex,ok.exfs,ok.funs,ok.frf⟩
section
variable {X:Cx}{pins:List ZH}{σ:St}{H:Hp}{s:Shared}{E:Value->Shared->Prop}
theorem Inv.wish(I:Inv X pins σ H s)(E:Value->Shared->Prop):Inv (X.wish E) pins σ H s:=⟨I.ok.wish E,I.os,I.bare,I.base,I.loc,I.cell,I.free,I.freeC,I.pin,I.hok,I.len⟩
theorem Inv.unwish(I:Inv (X.wish E) pins σ H s):Inv X pins σ H s:=⟨I.ok.unwish,I.os,I.bare,I.base,I.loc,I.cell,I.free,I.freeC,I.pin,I.hok,I.len⟩
theorem SP.unwish(h:SP (X.wish E) pins D f s'):SP X pins D f s':=by
 cases f with
 |next=>obtain⟨σ',H',I,q⟩:=h;exact⟨σ',H',I.unwish,q⟩
 |brk=>obtain⟨σ',H',I,q⟩:=h;exact⟨σ',H',I.unwish,q⟩
 |cont=>obtain⟨σ',H',I,q⟩:=h;exact⟨σ',H',I.unwish,q⟩
 |ret u=>obtain⟨v,σ',H',I,r,q⟩:=h;exact⟨v,σ',H',I.unwish,r,q⟩
theorem PSs.nox{st:List Stmt}{t:TS}(h:PSs X.nox st t):PSs X st t:=fun pins s σ H D I hw =>
 wpAny_mono (h pins s σ H D (I.wish _) hw) (fun _ _ q=>q.unwish) fun _ _ z=>False.elim z
end
section
variable {X:Cx}{st:Stmt}{rest:List Stmt}{t u:TS}{e:Expr}{te:TE}{pos:Pos}
def tNext:TS:=fun D σ H=>D.nx σ H
def tSeq(t u:TS):TS:=fun D σ H=>t { D with nx:=u D } σ H
theorem pss_nil:PSs X [] tNext:=fun _ _ σ H _ I h=>wpAny_execs_nil ⟨σ,H,I,h⟩
theorem aFh(h1:PS X st t)(h2:PSs X rest u):PSs X (st::rest) (tSeq t u):=by
 intro pins s σ H D I h;refine wpAny_execs_cons (thn (h1 pins s σ H { D with nx:=u D } I h) fun f s1 q=>?_);cases f with
 | next =>
  obtain⟨σ',H',I',q⟩:=q;exact h2 pins s1 σ' H' D I' q
 |ret v=>exact q
 |brk=>exact q
 |cont=>exact q
theorem aY3(h1:PS X st t):PSs X [st] t:=by
 intro pins s σ H D I h;refine wpAny_execs_cons (thn (h1 pins s σ H D I h) fun f s1 q=>?_);cases f with
 |next=>exact wpAny_execs_nil q
 |ret v=>exact q
 |brk=>exact q
 |cont=>exact q
theorem Inv.quiet(I:Inv X pins σ H s):interactive X.env=false:=by simp[interactive,I.ok.kind]
def tDrop(te:TE):TS:=fun D σ H=>te σ H fun _ H1=>D.nx σ H1
theorem aNb(he:PE X e te)(hs:autoParam (swapsWith e none pos.line X.env=pure false) az0._auto_1):PS X (.Expr e pos) (tDrop te):=by intro pins s σ H D I h;exact wpAny_Expr_any (thn (he pins s σ H _ I h) fun v s1 ⟨x,H1,I1,r1,q1⟩=>⟨σ,H1,I1,q1⟩) I.quiet hs
def tRet(te:TE):TS:=fun D σ H=>te σ H D.rt
theorem bB6(he:PE X e te):PS X (.Return (some e) pos) (tRet te):=by intro pins s σ H D I h;exact wpAny_Return_some (thn (he pins s σ H _ I h) fun v s1 ⟨x,H1,I1,r1,q1⟩=>⟨x,σ,H1,I1,r1,q1⟩)
def tNever:TS:=fun _ _ _=>False
theorem aH8{sts:List Stmt}:PSs X sts tNever:=fun _ _ _ _ _ _ h=>h.elim
end
abbrev TG:=V->St->Hp->(St->Hp->Prop)->Prop
abbrev TGs:=List V->St->Hp->(St->Hp->Prop)->Prop
def PG(X:Cx)(target:Expr)(t:TG):Prop :=
 ∀ (pins:List ZH) (s:Shared) (σ:St) (H:Hp) (v:V) (u:Value) (Q:St->Hp->Prop),Inv X pins σ H s->RelV v u->t v σ H Q ->
  wpAny ZC X.A (assign target X.env u) (fun _ s'=>∃σ' H',Inv X pins σ' H' s'/\Q σ' H') X.xe s
def PGs(X:Cx)(ts:List Expr)(t:TGs):Prop :=
 ∀ (pins:List ZH) (s:Shared) (σ:St) (H:Hp) (vs:List V) (us:List Value) (Q:St->Hp->Prop),Inv X pins σ H s->Vals vs us->t vs σ H Q ->
  wpAny ZC X.A (assignInOrder ((assignEach ts X.env).map (·.2)) us) (fun _ s'=>∃σ' H',Inv X pins σ' H' s'/\Q σ' H') X.xe s
abbrev TSet:=V->V->V->Hp->(Hp->Prop)->Prop
def PSet(X:Cx)(t:TSet):Prop :=
 ∀ (pins:List ZH) (s:Shared) (σ:St) (H:Hp) (o i v:V) (ov iv u:Value) (Q:Hp->Prop),Inv X pins σ H s->RelV o ov->RelV i iv->RelV v u->t o i v H Q ->
  wpAny ZC X.A (setItem ov iv u) (fun _ s'=>∃H',Inv X pins σ H' s'/\Q H') X.xe s
section
variable {X:Cx}{pos:Pos}
def gName(i:Nat):TG:=fun v σ H Q=>Q (σ.set i (some v)) H
theorem aV6{i:Nat}(hN:X.N.Nodup)(hi:X.N[i]?=some x)(hx:Loc X.env.scope x)(hf:autoParam (X.fn x=true\/X.env.scope.names.lookup x=some .local) az2._auto_1):PG X (.Name x pos) (gName i):=by intro pins s σ H v u Q I r h;exact wpAny_assign_Name (aM3 I hN hi hx r (fun s' I'=>⟨_,H,I',h⟩) hf)
def gNil:TGs:=fun vs σ H Q=>vs = []/\Q σ H
def gCons(t:TG)(u:TGs):TGs:=fun vs σ H Q=>∃v r,vs=v::r/\t v σ H fun σ' H'=>u r σ' H' Q
theorem pgs_nil:PGs X [] gNil:=by intro pins s σ H vs us Q I r h;obtain⟨e,h⟩:=h;subst e;cases r;exact assignInOrder_nil ⟨σ,H,I,h⟩
theorem aWz(h1:PG X e t)(h2:PGs X es u)
  (hs:autoParam ((assignEach (e::es) X.env).map (·.2)=assign e X.env::(assignEach es X.env).map (·.2)) az0._auto_1):PGs X (e::es) (gCons t u):=by
 intro pins s σ H vs us Q I r h;obtain⟨v,vr,e1,h⟩:=h;subst e1;cases r with
 | cons r rr =>
  rw[hs];refine assignInOrder_cons (thn (h1 pins s σ H _ _ _ I r h) fun _ s1 ⟨σ1,H1,I1,q1⟩=>?_);exact h2 pins s1 σ1 H1 _ _ Q I1 rr q1
def gTup(K:W.Frag)(n:Nat)(t:TGs):TG:=fun v σ H Q=>∃a xs,v = .ref a/\SqT K H a xs/\xs.length=n/\t xs σ H Q
theorem pg_tup{k:Nat}{n:Nat}(hc:X.calm=true)(h:PGs X es t)
  (hn:autoParam ((assignEach es X.env).length=n) az0._auto_1) (hst:autoParam ((assignEach es X.env).findIdx? (·.1)=none) az0._auto_1):PG X (.Tuple es k pos) (gTup X.K n t):=by
 intro pins s σ H v u Q I r hw;obtain⟨a,xs,e1,hq,hl,hw⟩:=hw;subst e1;cases r;obtain⟨its,rv,ht,hz⟩:=I.tuple hq;refine assign_Tuple_tuple (I.ok.hd hc) ht (by simp[hn,<-hl,rv.length]) hst fun h' hx=>?_;have I1:Inv X pins σ H { s with heap:=h' }:=I.kept (t':=s.toks) fun b o e=>hx b o (az (ai e)) e;exact h pins _ σ H xs _ Q I1 (by simpa using rv) hw
def gSub(to ti:TE)(t:TSet):TG:=fun v σ H Q=>to σ H fun o H1=>ti σ H1 fun i H2=>t o i v H2 fun H3=>Q σ H3
theorem pg_sub(ho:PE X o to)(hi:PE X i ti)(hs:PSet X t)
  (ha:autoParam (∀v,assign (.Subscript o i pos) X.env v=(do
   let ov <-holding [v] (eval o X.env)
   let iv <-holding [v,ov] (eval i X.env)
   standAt pos
   holding [v,ov,iv] (setItem ov iv v)
   release [v,ov,iv] [])) az3._auto_1):PG X (.Subscript o i pos) (gSub to ti t):=by
 intro pins s σ H v u Q I r h;rw[ha];refine wpAny_bind (wpAny_holding (thn (ho pins s σ H _ I h) fun ov s1 ⟨x,H1,I1,r1,q1⟩=>?_));refine wpAny_bind (wpAny_holding (thn (hi pins s1 σ H1 _ I1 q1) fun iv s2 ⟨y,H2,I2,r2,q2⟩=>?_));refine wpAny_bind (wpAny_standAt (wpAny_bind (wpAny_holding (thn (hs pins s2 σ H2 x y v ov iv u _ I2 r1 r2 r q2) fun _ s3 ⟨H3,I3,q3⟩=>?_))));exact wpAny_release ⟨σ,H3,I3,q3⟩
def tAsg(te:TE)(g:TG):TS:=fun D σ H=>te σ H fun x H1=>g x σ H1 D.nx
theorem ps_asg(he:PE X e te)(hg:PG X tg g)(hs:autoParam (swapsWithSole [tg] e pos.line X.env=pure false) az0._auto_1)(hw:autoParam (swappedStores [tg] e X.env=pure none) az0._auto_1)
  (h1:autoParam ((assignEach [tg] X.env).map (·.2) = [assign tg X.env]) az0._auto_1):PS X (.Assign [tg] e pos) (tAsg te g):=by
 intro pins s σ H D I h;refine wpAny_Assign_stores (thn (he pins s σ H _ I h) fun v s1 ⟨x,H1,I1,r1,q1⟩=>?_) hs hw;rw[h1];exact thn (hg pins s1 σ H1 x v _ I1 r1 q1) fun _ s2 q=>q
theorem aXg{i:Nat}(hN:X.N.Nodup)(hi:X.N[i]?=some x)(hx:Loc X.env.scope x)(he:PE X e te)(hs:autoParam (swapsWith e (some (.Name x pos')) pos.line X.env=pure false) az0._auto_1)(hf:autoParam (X.fn x=true\/X.env.scope.names.lookup x=some .local) az2._auto_1) :
  PS X (.Assign [.Name x pos'] e pos) (tAsg te (gName i)):=by
 intro pins s σ H D I h;refine wpAny_Assign_Name (thn (he pins s σ H _ I h) fun v s1 ⟨y,H1,I1,r1,q1⟩=>?_) hs;exact aM3 I1 hN hi hx r1 (fun s2 I2=>⟨_,H1,I2,q1⟩) hf
end
structure It where
 go:Nat->Hp->Prop
 yld:Nat->Hp->V->Hp->Prop
 stop:Nat->Hp->Prop
def FpOk(X:Cx)(pins:List ZH)(H:Hp)(b:Addr):Prop :=
 H b=none/\b≠X.env.locals/\b∉X.fs/\(b∈X.ex\/X.s₀.heap.objs.size<=b)/\(∀x c,X.env.cells.lookup x=some c->c≠b)/\∀p∈X.pn++pins,p.1≠b
theorem Inv.fpOk(I:Inv X pins σ H s)(hb:s.heap.objs.size<=b)(hn:H' b=none):FpOk X pins H' b:=by
 refine⟨hn,iU (bj I.lt hb),I.nofs hb,.inr (aq I.sz hb),fun x c e z=>?_,fun p hp z=>?_⟩
 ·obtain⟨v,q⟩:=I.cell x c e;exact absurd (bj q.lt (by rw[z];exact hb)) (fu _)
 ·exact absurd (bj (ai (I.pin p hp).1) (by rw[z];exact hb)) (fu _)
structure Turn (P:Program) (w:World) (K:W.Frag) (tg:Expr) (J:It) (fp:List Addr) (it:Addr) (tn:Nat->Heap->Prop):Prop where
 mem:it∈fp
 obj:∀i h,tn i h->∀b∈fp,∃o,h.get? b=some o/\∀v,o.data ≠ .cell v
 keep:∀i h h',tn i h->(∀b∈fp,∀o,h.get? b=some o->h'.get? b=some o)->tn i h'
 item:∀ (X:Cx),X.prog=P->X.w=w->X.K=K->X.calm=true->∀ (i:Nat) (pins:List ZH) (s:Shared) (σ:St) (H:Hp) (E:Value->Shared->Prop),Inv X pins σ H s->(∀b∈fp,FpOk X pins H b)->tn i s.heap->J.go i H ->
  wpAny (model P w) X.A (pyNext (.ref it)) (fun r s1=>∃u,r=some u /\
   wpAny (model P w) X.A (letOwnedTupleGo tg (.ref it) u) (fun _ s2=>∃x H',Inv X pins σ H' s2/\RelV x u/\J.yld i H x H'/\tn (i+1) s2.heap/\∀b∈fp,H' b=none) E s1) E s
 done:∀ (X:Cx),X.prog=P->X.w=w->X.K=K->X.calm=true->∀ (i:Nat) (pins:List ZH) (s:Shared) (σ:St) (H:Hp) (E:Value->Shared->Prop),Inv X pins σ H s->(∀b∈fp,FpOk X pins H b)->tn i s.heap->J.stop i H ->
  wpAny (model P w) X.A (pyNext (.ref it)) (fun r s1=>r=none/\Inv X pins σ H s1) E s
 self:∀ (A:Around) (i:Nat) (s:Shared) (Q:Value->Shared->Prop) (E:Value->Shared->Prop),tn i s.heap->Q (.ref it) s->wpAny (model P w) A (pyIter (.ref it)) Q E s
abbrev TI:=St->Hp->(It->Hp->Prop)->Prop
def PIE(X:Cx)(pins:List ZH)(σ:St)(tg:Expr)(R:It->Hp->Prop)(itv:Value)(s2:Shared):Prop :=
 ∃ (it:Addr) (fp:List Addr) (tn:Nat->Heap->Prop) (J:It) (H':Hp),itv = .ref it/\Inv X pins σ H' s2/\Turn X.prog X.w X.K tg J fp it tn/\tn 0 s2.heap/\(∀b∈fp,FpOk X pins H' b)/\R J H'
def PI(X:Cx)(tg iter:Expr)(wi:TI):Prop :=
 ∀ (pins:List ZH) (s:Shared) (σ:St) (H:Hp) (R:It->Hp->Prop),Inv X pins σ H s->wi σ H R ->
  wpAny ZC X.A (eval iter X.env) (fun v s1=>wpAny ZC X.A (pyIter v) (PIE X pins σ tg R) X.xe s1) X.xe s
theorem go_of(ho:s.heap.get? it=some o)(hc:o.cls = .type n)(hd:o.data = .fields vs)
  (hn:["enumerate","zip","dict_itemiterator","dict_reverseitemiterator","odict_iterator","itertools.zip_longest","itertools.pairwise"].contains n=false) (hQ:Q () s):wpAny M A (letOwnedTupleGo tg (.ref it) u) Q E s:=by
 unfold letOwnedTupleGo;cases tg<;>first
  |exact wpAny_pure hQ
  | (cases u<;>first
    |exact wpAny_pure hQ
    | (refine wpAny_bind (wpAny_load ho ?_)
       rw[hc,hd];show wpAny M A (if (["enumerate","zip","dict_itemiterator","dict_reverseitemiterator","odict_iterator","itertools.zip_longest","itertools.pairwise"].contains n&&vs[0]?==some (rawInt _))=true then _ else _) Q E s;rw[if_neg (by intro h;rw[hn,gk] at h;cases h)]
       exact wpAny_pure hQ))
def Itl(K:W.Frag)(a:Addr):It :=
 ⟨fun i H=>∃xs x,SqL K H a xs/\xs[i]?=some x,fun i H x H'=>H'=H/\∀xs,SqL K H a xs->xs[i]?=some x,fun i H=>∃xs,SqL K H a xs/\xs.length<=i⟩
def Itt(K:W.Frag)(a:Addr):It :=
 ⟨fun i H=>∃xs x,SqT K H a xs/\xs[i]?=some x,fun i H x H'=>H'=H/\∀xs,SqT K H a xs->xs[i]?=some x,fun i H=>∃xs,SqT K H a xs/\xs.length<=i⟩
def Itr(lo:Int)(n:Nat):It:=⟨fun i _=>i<n,fun i H x H'=>H'=H/\x = .int (lo+i),fun i _=>n<=i⟩
theorem bAf{P:Program}{w:World}{K:W.Frag}{tg:Expr}(a it:Addr):Turn P w K tg (Itl K a) [it] it (fun i h=>h.IsListIter it a i) where
 mem:=by simp
 obj:=fun i h st b hb=>by
  have e:b=it:=by simpa using hb
  subst e;obtain⟨o,e,c,d⟩:=st;exact⟨o,e,fun v z=>by rw[d] at z;cases z⟩
 keep:=fun i h h' st k=>st.at fun o e=>k it ZR o e
 item:=by intro X hP hw hK hc i pins s σ H E I hf st hg;subst hP hw hK;obtain⟨xs,x,hq,hx⟩:=hg;obtain⟨its,rv,p,hz⟩:=I.list hq;obtain⟨u,hu,ru⟩:=rv.get hx;obtain⟨f0,f1,f2,f3,f4,f5⟩:=hf it ZR;refine wpAny_pyNext_list_item st p.isList (x:=u) (by simpa using hu) fun h' st' sb=>?_;have I1:Inv X pins σ H { s with heap:=h' }:=I.turned (t':=s.toks) (fun b o hb e=>(sb.2 b hb).trans e) f0 f1 f3 f4 f5;obtain⟨o,e,c,d⟩:=id st';exact⟨u,rfl,go_of (s:={ s with heap:=h' }) e c d ZA ⟨x,H,I1,ru,⟨rfl,fun ys hy=>by rw[I.list_inj hy hq];exact hx⟩,st',fun b hb=>(hf b hb).1⟩⟩
 done:=by intro X hP hw hK hc i pins s σ H E I hf st hg;subst hP hw hK;obtain⟨xs,hq,hx⟩:=hg;obtain⟨its,rv,p,hz⟩:=I.list hq;obtain⟨f0,f1,f2,f3,f4,f5⟩:=hf it ZR;have hl:=rv.length;exact wpAny_pyNext_list_end (I.ok.hd hc) st p.isList (by simp;lia) fun h' eb=>⟨rfl,I.turned (t':=s.toks) (fun b o hb e=>eb b o hb e) f0 f1 f3 f4 f5⟩
 self:=fun _ _ _ _ _ st h=>wpAny_pyIter_listiter st h
theorem aX9{P:Program}{w:World}{K:W.Frag}{tg:Expr}(a it:Addr):Turn P w K tg (Itt K a) [it] it (fun i h=>h.IsTupleIter it a i) where
 mem:=by simp
 obj:=fun i h st b hb=>by
  have e:b=it:=by simpa using hb
  subst e;obtain⟨o,e,c,d⟩:=st;exact⟨o,e,fun v z=>by rw[d] at z;cases z⟩
 keep:=fun i h h' st k=>st.at fun o e=>k it ZR o e
 item:=by intro X hP hw hK hc i pins s σ H E I hf st hg;subst hP hw hK;obtain⟨xs,x,hq,hx⟩:=hg;obtain⟨its,rv,p,hz⟩:=I.tuple hq;obtain⟨u,hu,ru⟩:=rv.get hx;obtain⟨f0,f1,f2,f3,f4,f5⟩:=hf it ZR;refine wpAny_pyNext_tuple_item st (show s.heap.IsTuple a its.toArray from p) (x:=u) (by simpa using hu) fun h' st' sb=>?_;have I1:Inv X pins σ H { s with heap:=h' }:=I.turned (t':=s.toks) (fun b o hb e=>(sb.2 b hb).trans e) f0 f1 f3 f4 f5;obtain⟨o,e,c,d⟩:=id st';exact⟨u,rfl,go_of (s:={ s with heap:=h' }) e c d ZA ⟨x,H,I1,ru,⟨rfl,fun ys hy=>by rw[I.tuple_inj hy hq];exact hx⟩,st',fun b hb=>(hf b hb).1⟩⟩
 done:=by intro X hP hw hK hc i pins s σ H E I hf st hg;subst hP hw hK;obtain⟨xs,hq,hx⟩:=hg;obtain⟨its,rv,p,hz⟩:=I.tuple hq;obtain⟨f0,f1,f2,f3,f4,f5⟩:=hf it ZR;have hl:=rv.length;exact wpAny_pyNext_tuple_end (I.ok.hd hc) st (show s.heap.IsTuple a its.toArray from p) (by simp;lia) fun h' eb=>⟨rfl,I.turned (t':=s.toks) (fun b o hb e=>eb b o hb e) f0 f1 f3 f4 f5⟩
 self:=fun _ _ _ _ _ st h=>wpAny_pyIter_tupleiter st h
theorem aX1{P:Program}{w:World}{K:PySem.W.Frag}{tg:Expr}(it:Addr)(lo:Int)(n:Nat):Turn P w K tg (Itr lo n) [it] it (fun i h=>IsRangeIter h it (lo+(i:Nat)*1) ((n:Int) - (i:Nat)) 1) where
 mem:=by simp
 obj:=fun i h st b hb=>by
  have e:b=it:=by simpa using hb
  subst e
  exact⟨_,st,fun v z=>by
   have z':Data.fields _=Data.cell v:=z
   cases z'⟩
 keep:=fun i h h' st k=>k it ZR _ st
 item:=by intro X hP hw hK hc i pins s σ H E I hf st hg;subst hP hw hK;obtain⟨f0,f1,f2,f3,f4,f5⟩:=hf it ZR;have W:=Walks.range (prog:=X.prog) (w:=X.w) (I.ok.hd hc) it lo 1 n;refine W.item i s _ _ hg st fun v h' tk hv st' kk=>?_;obtain⟨t,rfl⟩:=hv;have I1:Inv X pins σ H { s with heap:=h',toks:=tk }:=I.turned (fun b o hb e=>kk b o (by simpa using hb) e) f0 f1 f3 f4 f5;refine⟨_,rfl,go_of (s:={ s with heap:=h',toks:=tk }) (n:="range_iterator") st' rfl rfl ZA ⟨.int (lo+i),H,I1,⟨t,?_⟩,⟨rfl,rfl⟩,st',fun b hb=>(hf b hb).1⟩⟩;rw[Int.mul_one]
 done:=by intro X hP hw hK hc i pins s σ H E I hf st hg;subst hP hw hK;obtain⟨f0,f1,f2,f3,f4,f5⟩:=hf it ZR;exact wpAny_pyNext_range_end (I.ok.hd hc) st (by have:n<=i:=hg;lia) fun h' eb=>⟨rfl,I.turned (t':=s.toks) (fun b o hb e=>eb b o hb e) f0 f1 f3 f4 f5⟩
 self:=fun _ _ _ _ _ st h=>wpAny_pyIter_rangeiter st h
section
variable {X:Cx}{tg:Expr}
theorem range_it{lo hi:Int}{tk:Nat}(I:Inv X pins σ H s)(h1:-(2^62)<=lo)(h2:lo<2^62)(h3:-(2^62)<=hi)(h4:hi<2^62)
  (q:R (Itr lo (hi - lo).toNat) H):wpAny ZC X.A (pyIter (.ref s.heap.objs.size)) (PIE X pins σ tg R) E { s with heap:=s.heap.push { cls:=.type "range",data:=.fields #[.int lo t,.int hi u,.int 1 v] },toks:=tk }:=by
 refine wpAny_pyIter_range (IsRange.new ..) (small_one h1 h2 h3 h4) ?_;have I1:Inv X pins σ H { s with heap:=s.heap.push { cls:=.type "range",data:=.fields #[.int lo t,.int hi u,.int 1 v] },toks:=tk }:=I.kept fun b o e=>aa _ e
 refine⟨(s.heap.push { cls:=.type "range",data:=.fields #[.int lo t,.int hi u,.int 1 v] }).objs.size,[(s.heap.push { cls:=.type "range",data:=.fields #[.int lo t,.int hi u,.int 1 v] }).objs.size],_,_,H,rfl,
  I1.kept (t':=tk) fun b o e=>aa _ e,aX1 _ lo (hi - lo).toNat,?_,fun b hb=>?_,q⟩
 ·have e1:lo+((0:Nat):Int)*1=lo:=by simp
  have e2:(((hi - lo).toNat:Nat):Int) - ((0:Nat):Int)=Builtin.Range.rangeSize lo hi 1:=by rw[rangeSize_one];split<;>lia
  show IsRangeIter _ _ (lo+((0:Nat):Int)*1) ((((hi - lo).toNat:Nat):Int) - ((0:Nat):Int)) 1;rw[e1,e2];exact au _ rfl
 ·have e:b=(s.heap.push { cls:=.type "range",data:=.fields #[.int lo t,.int hi u,.int 1 v] }).objs.size:=by simpa using hb
  subst e;exact I1.fpOk (ae _) (I1.hok.fresh (ae _))
def iRng1(ta:TA):TI:=fun σ H R=>ta σ H fun vs H1=>∃j:Int,vs = [.int j] /\ -(2^62)<=j/\j<2^62/\R (Itr 0 j.toNat) H1
theorem bBw(hg:Gl X "range")(hm:X.mg "range" = none)(ha:PA X [a] ta)(hs:autoParam (starEach [a] X.env = [(false,eval a X.env)]) az0._auto_1):PI X tg (.Call (.Name "range" p) [a] [] pos) (iRng1 ta):=by
 intro pins s σ H R I h;refine Call_ (aFs I hg hm boot_range (PyProof.Rows.callWith_type1 (thn (ha pos pins s σ H _ I h) fun us s1 ⟨vs,H1,I1,r1,q1⟩=>?_) hs rfl));obtain⟨j,e,q1,q2,q⟩:=q1;subst e;cases r1 with
 | cons r rr =>
  cases rr;obtain⟨t,rfl⟩:=r;exact call_range_1 (range_it I1 ZB ZB q1 q2 (by simpa using q))
def tFor(wi:TI)(g:TG)(tb:TS):TS:=fun D σ H=>wi σ H fun J H1=>∃W:Nat->Nat->St->Hp->Prop,(∃m,W 0 m σ H1)/\∀i m σ H,W i m σ H ->
 (J.stop i H/\D.nx σ H)\/(J.go i H/\∃N:St->Hp->Prop,(∀σ' H',N σ' H'->∃m',m'<m/\W (i+1) m' σ' H')/\∀x H',J.yld i H x H'->g x σ H' fun σ2 H2=>tb { D with nx:=N,ct:=N,bk:=D.nx } σ2 H2)
def aS3(fp:List Addr)(h:Heap):List ZH:=fp.filterMap fun b=>(h.get? b).map fun o=>(b,o)
theorem aGo(hb:b∈fp)(e:h.get? b=some o):(b,o)∈aS3 fp h:=jD.mpr ⟨b,hb,by rw[e];rfl⟩
theorem bBm(hp:p∈aS3 fp h):p.1∈fp/\h.get? p.1=some p.2:=by
 obtain⟨b,hb,e⟩:=jD.mp hp;cases q:h.get? b with
 |none=>rw[q] at e;cases e
 | some o =>
  rw[q] at e;have e':(b,o)=p:=Option.some.inj e;subst e';exact⟨hb,q⟩
theorem Inv.pinned(I:Inv X pins σ H s)(hf:∀b∈fp,FpOk X pins H b)(ho:∀b∈fp,∃o,s.heap.get? b=some o/\∀v,o.data ≠ .cell v):Inv X (pins++aS3 fp s.heap) σ H s :=
 I.pins_of fun p hp=>(ck.mp hp).elim (fun z=>I.pin p (c9 _ z)) fun z=>by obtain⟨hb,e⟩:=bBm z;obtain⟨f0,f1,f2,_⟩:=hf p.1 hb;obtain⟨o,e',d⟩:=ho p.1 hb;rw[e] at e';cases e';exact⟨e,f0,f1,f2,d⟩
theorem Inv.unpinned(I:Inv X (pins++pl) σ H s):Inv X pins σ H s:=I.pins_of fun p hp=>I.pin p (c9 _ (du _ hp))
theorem ps_for(hp:PassesOwn ZC X.A X.env X.xe)(hc:X.calm=true)(hi:PI X tg iter wi)(hg:PG X tg g)(hb:PSs X body tb)
  (hs:autoParam (∀x,foldedSetIterable iter X.env x=pure x) az3._auto_1):PS X (.For tg iter body [] pos) (tFor wi g tb):=by
 intro pins s σ H D I h;refine wpAny_For (thn (hi pins s σ H _ I h) fun v s1 h1=>thn h1 fun itv s2 h2=>?_) hs;obtain⟨it,fp,tn,J,H2,e,I2,T,st2,f2,W,⟨m0,w0⟩,turn⟩:=h2;subst e;have stat:∀ {H':Hp},(∀b∈fp,H' b=none)->∀b∈fp,FpOk X pins H' b:=fun hn b hb=>⟨hn b hb,(f2 b hb).2⟩
 refine codeAny_forLoop_any (fun n s'=>∃i σ' H',Inv X pins σ' H' s'/\tn i s'.heap/\(∀b∈fp,H' b=none)/\W i n σ' H') ?_ m0 ⟨0,σ,H2,I2,st2,fun b hb=>(f2 b hb).1,w0⟩;rintro n s3 ⟨i,σ3,H3,I3,st3,fr3,w3⟩;rcases turn i n σ3 H3 w3 with ⟨stop,qn⟩ |⟨go,N,hN,step⟩
 ·refine wpAny_passesOwn hp (thn (T.done X rfl rfl rfl hc i pins s3 σ3 H3 X.xe I3 (stat fr3) st3 stop) fun r s4 ⟨hr,I4⟩=>?_);subst hr;exact wpAny_execs_nil ⟨σ3,H3,I4,qn⟩
 ·refine wpAny_passesOwn hp (thn (T.item X rfl rfl rfl hc i pins s3 σ3 H3 X.xe I3 (stat fr3) st3 go) fun r s4 ⟨u,hr,h4⟩=>?_);subst hr;refine wpAny_passesOwn hp (thn h4 fun _ s5 ⟨x,H5,I5,r5,y5,st5,fr5⟩=>?_);have I5':=I5.pinned (stat fr5) (T.obj _ _ st5);refine wpAny_passesOwn hp (thn (hg _ s5 σ3 H5 x u _ I5' r5 (step x H5 y5)) fun _ s6 ⟨σ6,H6,I6,q6⟩=>?_);refine wpAny_passesOwn hp (thn (hb _ s6 σ6 H6 _ I6 q6) fun f s7 q7=>?_);have again:∀ {σ7:St} {H7:Hp},Inv X (pins++aS3 fp s5.heap) σ7 H7 s7->N σ7 H7->∃m,m<n/\∃i σ' H',Inv X pins σ' H' s7/\tn i s7.heap/\(∀b∈fp,H' b=none)/\W i m σ' H':=fun {σ7 H7} I7 n7=>by obtain⟨m',hm,w7⟩:=hN σ7 H7 n7;refine⟨m',hm,i+1,σ7,H7,I7.unpinned,T.keep _ _ _ st5 fun b hb o e=>(I7.pin (b,o) (c9 _ (c9 _ (aGo hb e)))).1,fun b hb=>?_,w7⟩;obtain⟨o,e,d⟩:=T.obj _ _ st5 b hb;exact(I7.pin (b,o) (c9 _ (c9 _ (aGo hb e)))).2.1
  cases f with
  |next=>obtain⟨σ7,H7,I7,n7⟩:=q7;exact again I7 n7
  |cont=>obtain⟨σ7,H7,I7,n7⟩:=q7;exact again I7 n7
  |brk=>obtain⟨σ7,H7,I7,q7⟩:=q7;exact⟨σ7,H7,I7.unpinned,q7⟩
  |ret v=>obtain⟨x7,σ7,H7,I7,r7,q7⟩:=q7;exact⟨x7,σ7,H7,I7.unpinned,r7,q7⟩
end
abbrev R2:=V->V->Hp->VK->Prop
def OpR(X:Cx)(f:Value->Value->Sem Value)(r:R2):Prop :=
 ∀ (pins:List ZH) (s:Shared) (σ:St) (H:Hp) (x y:V) (v u:Value) (Q:VK),Inv X pins σ H s->RelV x v->RelV y u->r x y H Q ->
  wpAny ZC X.A (f v u) (EP X pins σ Q) X.xe s
def UnR(X:Cx)(f:Value->Sem Value)(r:V->Hp->VK->Prop):Prop :=
 ∀ (pins:List ZH) (s:Shared) (σ:St) (H:Hp) (x:V) (v:Value) (Q:VK),Inv X pins σ H s->RelV x v->r x H Q ->
  wpAny ZC X.A (f v) (EP X pins σ Q) X.xe s
def CallR(X:Cx)(f:Value)(r:List V->Hp->VK->Prop):Prop :=
 ∀ (pins:List ZH) (s:Shared) (σ:St) (H:Hp) (xs:List V) (us:List Value) (Q:VK),Inv X pins σ H s->Vals xs us->r xs H Q ->
  wpAny ZC X.A (call f us) (EP X pins σ Q) X.xe s
def TruR(X:Cx)(r:V->Hp->(Bool->Hp->Prop)->Prop):Prop :=
 ∀ (pins:List ZH) (s:Shared) (σ:St) (H:Hp) (x:V) (v:Value) (Q:Bool->Hp->Prop),Inv X pins σ H s->RelV x v->r x H Q ->
  wpAny ZC X.A (truthy v) (TP X pins σ Q) X.xe s
def tOp(r:R2)(ta tb:TE):TE:=fun σ H Q=>ta σ H fun x H1=>tb σ H1 fun y H2=>r x y H2 Q
def tUn(r:V->Hp->VK->Prop)(ta:TE):TE:=fun σ H Q=>ta σ H fun x H1=>r x H1 Q
def rI(C:Int->Int->Prop)(g:Int->Int->V):R2:=fun x y H Q=>∃i j,x = .int i/\y = .int j/\C i j/\Q (g i j) H
def rI0(g:Int->Int->V):R2:=fun x y H Q=>∃i j,x = .int i/\y = .int j/\Q (g i j) H
def rU(g:Int->V):V->Hp->VK->Prop:=fun x H Q=>∃i,x = .int i/\Q (g i) H
section
variable {X:Cx}{a b c:Expr}{ta tb tc:TE}{pos:Pos}
theorem binT(ha:PE X a ta)(hb:PE X b tb){R:V->V->Hp->Prop}(I:Inv X pins σ H s)
  (h:ta σ H fun x H1=>tb σ H1 fun y H2=>R x y H2) {f:Value->Value->Sem Value}
  (hf:∀v u s2 x y H2,Inv X pins σ H2 s2->RelV x v->RelV y u->R x y H2->wpAny ZC X.A (f v u) Q X.xe s2) :
  wpAny ZC X.A (eval a X.env) (fun v s₁=>wpAny ZC X.A (eval b X.env) (fun u s₂=>wpAny ZC X.A (f v u) Q X.xe s₂) X.xe s₁) X.xe s:=by
 refine thn (ha pins s σ H _ I h) fun v s1 ⟨x,H1,I1,r1,q1⟩=>?_;refine thn (hb pins s1 σ H1 _ I1 q1) fun u s2 ⟨y,H2,I2,r2,q2⟩=>?_;exact hf v u s2 x y H2 I2 r1 r2 q2
theorem pe_op(ho:OpR X (binaryOp op) r)(ha:PE X a ta)(hb:PE X b tb):PE X (.BinOp a op b pos) (tOp r ta tb):=by intro pins s σ H Q I h;exact wpAny_BinOp (binT ha hb I h fun v u s2 x y H2 I2 rx ry q=>ho pins s2 σ H2 x y v u Q I2 rx ry q)
theorem pe_un(ho:UnR X (unaryOp op) r)(ha:PE X a ta):PE X (.UnaryOp op a pos) (tUn r ta):=by intro pins s σ H Q I h;exact UnaryOp_ (thn (ha pins s σ H _ I h) fun v s1 ⟨x,H1,I1,r1,q1⟩=>ho pins s1 σ H1 x v Q I1 r1 q1)
theorem opI{C:Int->Int->Prop}{g:Int->Int->Int}
  (rule:∀ (i j:Int) (t u:Tok) (s:Shared) (Q:Value->Shared->Prop) (E:Value->Shared->Prop),C i j->Q (.int (g i j) s.toks) { s with toks:=s.toks+1 }->wpAny (model X.prog X.w) X.A (f (.int i t) (.int j u)) Q E s) :
  OpR X f (rI C fun i j=>.int (g i j)):=by
 intro pins s σ H x y v u Q I rx ry h;obtain⟨i,j,rfl,rfl,hc,q⟩:=h;obtain⟨t,rfl⟩:=rx;obtain⟨t',rfl⟩:=ry;exact rule i j t t' s _ _ hc ⟨.int (g i j),H,I.tok _,⟨_,rfl⟩,q⟩
theorem opI0{g:Int->Int->Int}
  (rule:∀ (i j:Int) (t u:Tok) (s:Shared) (Q:Value->Shared->Prop) (E:Value->Shared->Prop),Q (.int (g i j) s.toks) { s with toks:=s.toks+1 }->wpAny (model X.prog X.w) X.A (f (.int i t) (.int j u)) Q E s) :
  OpR X f (rI0 fun i j=>.int (g i j)):=by
 intro pins s σ H x y v u Q I rx ry h;obtain⟨i,j,rfl,rfl,q⟩:=h;obtain⟨t,rfl⟩:=rx;obtain⟨t',rfl⟩:=ry;exact rule i j t t' s _ _ ⟨.int (g i j),H,I.tok _,⟨_,rfl⟩,q⟩
def CMul(i j:Int):Prop:=(-(2^64)<i/\i<2^64)\/(-(2^64)<j/\j<2^64)
theorem CMul.ok{i j:Int}(h:CMul i j):IntMulOk i j:=by
 rcases h with ⟨h1,h2⟩ |⟨h1,h2⟩
 ·exact .of_left (intBits_le_64 h1 h2)
 ·exact .of_right (intBits_le_64 h1 h2)
theorem op_add:OpR X (binaryOp .Add) (rI0 fun i j=>.int (i+j)):=opI0 fun _ _ _ _ _ _ _ q=>add_int q
theorem op_sub:OpR X (binaryOp .Sub) (rI0 fun i j=>.int (i - j)):=opI0 fun _ _ _ _ _ _ _ q=>sub_int q
theorem op_mul:OpR X (binaryOp .Mult) (rI CMul fun i j=>.int (i*j)):=opI fun _ _ _ _ _ _ _ hc q=>mul_int q hc.ok
theorem op_mod:OpR X (binaryOp .Mod) (rI (fun _ j=>0<j) fun i j=>.int (i%j)):=opI fun i j _ _ _ _ _ hc q=>by have h1:(0:Int)<j:=hc;exact mod_int' ZB (by rw[Int.fmod_eq_emod_of_nonneg i ZB];exact q)
theorem unI{g:Int->Int}
  (rule:∀ (i:Int) (t:Tok) (s:Shared) (Q:Value->Shared->Prop) (E:Value->Shared->Prop),Q (.int (g i) s.toks) { s with toks:=s.toks+1 }->wpAny (model X.prog X.w) X.A (f (.int i t)) Q E s) :
  UnR X f (rU fun i=>.int (g i)):=by
 intro pins s σ H x v Q I rx h;obtain⟨i,rfl,q⟩:=h;obtain⟨t,rfl⟩:=rx;exact rule i t s _ _ ⟨.int (g i),H,I.tok _,⟨_,rfl⟩,q⟩
theorem un_neg:UnR X (unaryOp .USub) (rU fun i=>.int (-i)):=unI fun _ _ _ _ _ q=>neg_int q
def tTest(t:TE):TT:=fun σ H Q=>t σ H fun x H'=>∃k,x = .bl k/\Q k H'
def aZg(r r':R2)(ta tb tc:TE):TE:=fun σ H Q=>ta σ H fun x H1=>tb σ H1 fun y H2=>r x y H2 fun z H3=>∃k,z = .bl k /\
 (if k=true then tc σ H3 fun w' H4=>r' y w' H4 Q else Q (.bl false) H3)
theorem pe_chain(ho:OpR X (compareOp op) r)(ho':OpR X (compareOp op') r')(ha:PE X a ta)(hb:PE X b tb)(hc:PE X c tc)
  (hm:autoParam (lastMarks [op,op'] [b,c]=false) az5._auto_1):PE X (.Compare a [op,op'] [b,c] pos) (aZg r r' ta tb tc):=by
 intro pins s σ H Q I h
 refine Compare_chain (thn (ha pins s σ H _ I h) fun v s1 ⟨x,H1,I1,r1,q1⟩=>chain_link (thn (hb pins s1 σ H1 _ I1 q1) fun u s2 ⟨y,H2,I2,r2,q2⟩ =>
  thn (ho pins s2 σ H2 x y v u _ I2 r1 r2 q2) fun d s3 ⟨z,H3,I3,r3,k,e,q3⟩=>?_)) hm
 subst e;cases r3;refine wpAny_truthy_bool ?_;cases k with
 |false=>exact ite_ff ⟨.bl false,H3,I3,rfl,q3⟩
 |true=>exact ite_tt (chain_last (thn (hc pins s3 σ H3 _ I3 q3) fun w' s4 ⟨z',H4,I4,r4,q4⟩=>ho' pins s4 σ H4 y z' u w' Q I4 r2 r4 q4))
theorem pt_chain(ho:OpR X (compareOp op) r)(ho':OpR X (compareOp op') r')(ha:PE X a ta)(hb:PE X b tb)(hc:PE X c tc)
  (hm:autoParam (lastMarks [op,op'] [b,c]=false) az5._auto_1):PT X (.Compare a [op,op'] [b,c] pos) (tTest (aZg r r' ta tb tc)):=by
 intro pins s σ H Q I h
 refine isTrue_chain (thn (ha pins s σ H _ I h) fun v s1 ⟨x,H1,I1,r1,q1⟩=>test_link (thn (hb pins s1 σ H1 _ I1 q1) fun u s2 ⟨y,H2,I2,r2,q2⟩ =>
  thn (ho pins s2 σ H2 x y v u _ I2 r1 r2 q2) fun d s3 ⟨z,H3,I3,r3,k,e,q3⟩=>?_)) hm
 subst e;cases r3;refine wpAny_truthy_bool ?_;cases k with
 | false =>
  obtain⟨k',e',q'⟩:=q3;cases e';exact ite_ff ⟨H3,I3,q'⟩
 | true =>
  refine ite_tt (test_last (thn (hc pins s3 σ H3 _ I3 q3) fun w' s4 ⟨z',H4,I4,r4,q4⟩=>thn (ho' pins s4 σ H4 y z' u w' _ I4 r2 r4 q4) fun d' s5 ⟨z2,H5,I5,r5,k2,e2,q5⟩=>?_));subst e2;cases r5;exact wpAny_truthy_bool ⟨H5,I5,q5⟩
def TruV(K:W.Frag)(x:V)(H:Hp)(k:Bool):Prop :=
 match x with
 |.non=>k=false
 |.bl b=>k=b
 |.int i=>k=(i != 0)
 |.str y=>y.length<=sizeLine/\k=((y.length:Int) != 0)
 |.byt y=>y.size<=sizeLine/\k=((y.size:Int) != 0)
 |.ref p=>(∃xs,SqL K H p xs/\k = !xs.isEmpty)\/(∃xs,SqT K H p xs/\k = !xs.isEmpty)\/∃kvs,H p=some (.dK kvs)/\k = !kvs.isEmpty
 |_=>False
theorem aYw{κ:Type}{kvs:List (κ × V)}{vs:List (κ × Value)}(r:KV kvs vs):(!vs.isEmpty) = !kvs.isEmpty:=by cases r<;>rfl
theorem aMc(r:Vals xs its):(!its.toArray.isEmpty) = !xs.isEmpty:=by cases r<;>simp
theorem aSo:(sizeLine:Nat)<2^63:=by rw[sizeLine_eq];decide
theorem tru_ok:TruR X (fun x H Q=>∃k,TruV X.K x H k/\Q k H):=by
 intro pins s σ H x v Q I rx h;obtain⟨k,e,q⟩:=h;have hl:=aSo;have hs:sizeLine=16777216:=sizeLine_eq;cases x with
 | non =>
  cases rx;have e':k=false:=e;subst e';exact truthy_none ⟨H,I,q⟩
 | bl b =>
  cases rx;have e':k=b:=e;subst e';exact wpAny_truthy_bool ⟨H,I,q⟩
 | int i =>
  obtain⟨t,rfl⟩:=rx;have e':k=(i != 0):=e;subst e';exact PySem.P.truthy_int ⟨H,I,q⟩
 | str y =>
  obtain⟨t,rfl⟩:=rx;obtain⟨hy,e'⟩:y.length<=sizeLine/\k=((y.length:Int) != 0):=e;subst e';exact PySem.P.truthy_str ZB ⟨H,I.tok _,q⟩
 | byt y =>
  obtain⟨t,rfl⟩:=rx;obtain⟨hy,e'⟩:y.size<=sizeLine/\k=((y.size:Int) != 0):=e;subst e';exact W.truthy_bytes ZB ⟨H,I.tok _,q⟩
 | ref p =>
  cases rx;have e':(∃xs,SqL X.K H p xs/\k = !xs.isEmpty)\/(∃xs,SqT X.K H p xs/\k = !xs.isEmpty)\/∃kvs,H p=some (.dK kvs)/\k = !kvs.isEmpty:=e;rcases e' with ⟨xs,hx,e'⟩ |⟨xs,hx,e'⟩ |⟨kvs,hx,e'⟩
  ·subst e';obtain⟨its,r,pl,hz⟩:=I.list hx;have hlen:=r.length;exact wpAny_truthy_list pl.isList (by simp only[aj];lia) ⟨H,I.tok _,by rw[aMc r];exact q⟩
  ·subst e';obtain⟨its,r,pl,hz⟩:=I.tuple hx;have hlen:=r.length;exact truthy_tuple pl (by simp only[aj];lia) ⟨H,I.tok _,by rw[aMc r];exact q⟩
  ·subst e';obtain⟨hz,hS,vs,r,m⟩:kvs.length<=sizeLine/\(p==sysModules)=false/\∃vs,KV kvs vs/\s.heap.DictOf (aA6 X.prog X.w) p vs:=I.hok p _ hx;have hlen:kvs.length=vs.length:=Paired.length r;exact wpAny_truthy_dict hS m ZB ⟨H,I.tok _,by rw[aYw r];exact q⟩
 |_=>exact(show False from e).elim
theorem vals1(r:Vals [x] us):∃u,us = [u]/\RelV x u:=by
 cases r with
 |cons r1 r2=>cases r2;exact⟨_,rfl,r1⟩
theorem vals2(r:Vals [x,y] us):∃u w',us = [u,w']/\RelV x u/\RelV y w':=by
 cases r with
 | cons r1 r2 =>
  cases r2 with
  |cons r3 r4=>cases r4;exact⟨_,_,rfl,r1,r3⟩
theorem aZw(hc:X.calm=true):CallR X (.builtin "min") (fun xs H Q=>∃i j,xs = [.int i,.int j]/\Q (.int (if j<i then j else i)) H):=by
 intro pins s σ H xs us Q I r h;obtain⟨i,j,rfl,q⟩:=h;obtain⟨u,w',rfl,⟨t,rfl⟩,⟨t',rfl⟩⟩:=vals2 r;refine min_two_ints (I.ok.hd hc) fun h' tk k=>⟨_,H,I.kept k,?_,q⟩
 by_cases hj:j<i
 ·rw[if_pos hj,if_pos hj];exact⟨_,rfl⟩
 ·rw[if_neg hj,if_neg hj];exact⟨_,rfl⟩
def LenV(K:W.Frag)(x:V)(H:Hp)(n:Nat):Prop :=
 match x with
 |.str y=>y.length<=sizeLine/\n=y.length
 |.byt y=>y.size<=sizeLine/\n=y.size
 |.ref p=>(∃xs,SqL K H p xs/\n=xs.length)\/∃xs,SqT K H p xs/\n=xs.length
 |_=>False
theorem aNd:CallR X (.builtin "len") (fun xs H Q=>∃x n,xs = [x]/\LenV X.K x H n/\Q (.int n) H):=by
 intro pins s σ H xs us Q I r h;obtain⟨x,n,rfl,e,q⟩:=h;obtain⟨u,rfl,rx⟩:=vals1 r;have hl:=aSo;have hs:sizeLine=16777216:=sizeLine_eq;cases x with
 | str y =>
  obtain⟨t,rfl⟩:=rx;obtain⟨hy,e'⟩:y.length<=sizeLine/\n=y.length:=e;subst e';exact len_str ZB ⟨.int _,H,I.tok _,⟨_,rfl⟩,q⟩
 | byt y =>
  obtain⟨t,rfl⟩:=rx;obtain⟨hy,e'⟩:y.size<=sizeLine/\n=y.size:=e;subst e';exact W.len_bytes ZB ⟨.int _,H,I.tok _,⟨_,rfl⟩,q⟩
 | ref p =>
  cases rx;have e':(∃xs,SqL X.K H p xs/\n=xs.length)\/∃xs,SqT X.K H p xs/\n=xs.length:=e;rcases e' with ⟨xs,hx,e'⟩ |⟨xs,hx,e'⟩
  ·subst e';obtain⟨its,r',pl,hz⟩:=I.list hx;have hlen:=r'.length;exact Calls.call_len_list pl.isList (by simp only[aj];lia) ⟨.int xs.length,H,I.tok _,⟨_,by simp only[aj];rw[hlen]⟩,q⟩
  ·subst e';obtain⟨its,r',pl,hz⟩:=I.tuple hx;have hlen:=r'.length;exact len_tuple pl (by simp only[aj];lia) ⟨.int xs.length,H,I.tok _,⟨_,by simp only[aj];rw[hlen]⟩,q⟩
 |_=>exact(show False from e).elim
end
structure ObjM (h:Heap) (x dx C:Addr) (mA:Str->Option Value):Prop where
 obj:h.get? x=some (W.instObj C dx)
 ns:h.Ns1 dx mA
 ne:dx≠x
theorem aY9{h:Heap}(n:h.Ns1 dx mA):∃od,h.get? dx=some od/\∀name,W.lookIn name od=some (mA name):=by
 obtain⟨o,es,ep,ho,hd,hk,_,hm⟩:=n;refine⟨o,ho,fun name=>?_⟩;have e:=hm name;unfold nsFind findBy at e;rw[<-Array.find?_toList] at e;unfold W.lookIn;rw[hd];dsimp only;split
 ·rename_i y q;rw[q] at e;exact congrArg some e
 ·rename_i q;rw[q] at e;have a:es.toList.any (·.refKey)=false:=by rw[jh];intro y hy;obtain⟨z,t,hkey⟩:=hk y (Array.mem_toList_iff.mp hy);simp[DictEntry.refKey,hkey]
  have a':¬es.toList.any (·.refKey)=true:=by rw[a];exact cz
  rw[if_neg a'];exact congrArg some e
theorem ObjM.look(I:ObjM h x dx C mA):∃od,W.InstAt h x (W.instObj C dx) C (some od)/\∀name,W.lookIn name od=some (mA name) :=
 let ⟨od,ho,hl⟩:=aY9 I.ns
 ⟨od,⟨I.obj,rfl,rfl,ho⟩,hl⟩
theorem RelO.some_of(r:RelO (some v) o):∃u,o=some u/\RelV v u:=by
 cases o with
 |none=>exact(show False from r).elim
 |some u=>exact⟨u,rfl,r⟩
section
variable {P:Program}{w:World}{H H':Hp}{h h':Heap}{a C dx:Addr}{fs fs':List (Str × V)}
theorem ins_get(hok:HOk P w H h)(e:H a=some (.ins C dx fs)):∃mA,ObjM h a dx C mA/\(∀f,RelO (fs.lookup f) (mA f))/\PySem.Within mA (fs.map (·.1))/\fs.length<=1000/\H dx=some (.own a):=by
 obtain⟨d,z,ne,ob,mA,n,r,q⟩:=(show aCr P w H h a (.ins C dx fs) from hok a _ e)
 exact⟨mA,⟨ob,n,ne⟩,r,q,z,d⟩
end
structure Cls (K:W.Frag) (C:Addr):Prop where
 pg:W.plainGet K C Str.empty=true
 hd:W.hasDictIn K C=true
 po:W.plainOver K C=true
 sa:W.findIn K (.ref C) "__setattr__" = some (some (.builtin "object.__setattr__"))
theorem Cls.get{K:W.Frag}{C:Addr}(c:Cls K C)(f:Str):W.plainGet K C f=true:=c.pg
structure Con (K:W.Frag) (C:Addr) (f:Str) (v:V) (u:Value):Prop where
 at_:W.findIn K (.ref C) f=some (some u)
 rel:RelV v u
 get:W.specialIn K u "__get__" = some none
 cp:W.copiedNames.contains f=false
structure Meth (K:W.Frag) (C:Addr) (m:Str) (f:Addr):Prop where
 at_:W.findIn K (.ref C) m=some (some (.ref f))
 fn:W.isFn K (.ref f)=true
 kp:W.keepIn K (.ref f)=true
section
variable {X:Cx}{pins:List ZH}{σ:St}{H:Hp}{s:Shared}{A:Around}{E:Value->Shared->Prop}{Q:Value->Shared->Prop}{c:Value}{b:Bool}
inductive TyOf (K:W.Frag) (H:Hp):V->Value->Prop where
 |non:TyOf K H .non (.type "NoneType")
 |bl (x:Bool):TyOf K H (.bl x) (.type "bool")
 |int (i:Int):TyOf K H (.int i) (.type "int")
 |str (x:Str):TyOf K H (.str x) (.type "str")
 |flt (x:UInt64):TyOf K H (.flt x) (.type "float")
 |lst {a:Addr} {xs:List V} (e:H a=some (.lst xs)):TyOf K H (.ref a) (.type "list")
 |frz {a:Addr} {o:Obj} {xs:List V} (e:H a=some (.frz o (.lst xs))):TyOf K H (.ref a) (.type "list")
 |tup {a:Addr} {xs:List V} (e:H a=some (.tup xs)):TyOf K H (.ref a) (.type "tuple")
 |dK {a:Addr} {kvs:List (Key × V)} (e:H a=some (.dK kvs)):TyOf K H (.ref a) (.type "dict")
 |dT {a:Addr} {kvs:List (List Key × V)} (e:H a=some (.dT kvs)):TyOf K H (.ref a) (.type "dict")
 | ins {a C dx:Addr} {fs:List (Str × V)} (e:H a=some (.ins C dx fs)) (cl:Cls K C) (ha:W.findIn K (.ref C) "__class__" = some (some (.builtin "object.__class__")))
   (hn:W.specialIn K (.builtin "object.__class__") "__get__" = some (some (.builtin "getset_descriptor.__get__"))) (htk:W.takesIn K (.builtin "object.__class__")=some true)
   (hm:W.mroIn K C (.type "object")=some true):TyOf K H (.ref a) (.ref C)
theorem aF4(I:Inv X pins σ H s)(rx:RelV x u)(ty:TyOf X.K H x t)(e:W.kitOne X.K t c=some b)(h:∀tk,Q (.bool b) { s with toks:=tk }) :
  wpAny ZC A (call (.builtin "isinstance") [u,c]) Q E s:=by
 cases ty with
 |non=>cases (show u=Value.none from rx);exact W.kia_one W.kitx_none I.kIn True.intro e (fun z=>nomatch z) h
 |bl y=>cases (show u=Value.bool y from rx);exact W.kia_one W.kitx_bool I.kIn True.intro e (fun z=>nomatch z) h
 |int i=>obtain⟨t,q⟩:=(show ∃t,u=Value.int i t from rx);cases q;exact W.kia_one W.kitx_int I.kIn True.intro e (fun z=>nomatch z) h
 |str y=>obtain⟨t,q⟩:=(show ∃t,u=Value.str y t from rx);cases q;exact W.kia_one W.kitx_str I.kIn True.intro e (fun z=>nomatch z) h
 |flt y=>obtain⟨t,q⟩:=(show ∃t,u=Value.float y t from rx);cases q;exact W.kia_one W.kitx_float I.kIn True.intro e (fun z=>nomatch z) h
 | @lst a xs ea =>
  cases (show u=Value.ref a from rx);obtain⟨_,_,n,_,h1⟩:=(show aCr X.prog X.w H s.heap a (.lst xs) from I.hok a _ ea)
  exact W.kia_one W.kitx_list I.kIn ⟨_,h1,rfl⟩ e (fun z=>nomatch z) h
 | @frz a ob xs ea =>
  cases (show u=Value.ref a from rx);obtain⟨_,_,_,n,_,h1⟩:=(show aCr X.prog X.w H s.heap a (.frz ob (.lst xs)) from I.hok a _ ea)
  exact W.kia_one W.kitx_list I.kIn ⟨_,h1,rfl⟩ e (fun z=>nomatch z) h
 | @tup a xs ea =>
  cases (show u=Value.ref a from rx);obtain⟨_,_,_,p⟩:=(show aCr X.prog X.w H s.heap a (.tup xs) from I.hok a _ ea)
  obtain⟨o,h1,h2,_⟩:=p;exact W.kia_one W.kitx_tuple I.kIn ⟨o,h1,h2⟩ e (fun z=>nomatch z) h
 | @dK a kvs ea =>
  cases (show u=Value.ref a from rx);obtain⟨_,_,vs,_,p⟩:=(show aCr X.prog X.w H s.heap a (.dK kvs) from I.hok a _ ea)
  obtain⟨o,es,ep,h1,h2,_⟩:=p;exact W.kia_one W.kitx_dict I.kIn ⟨o,h1,h2.1⟩ e (fun z=>nomatch z) h
 | @dT a kvs ea =>
  cases (show u=Value.ref a from rx);obtain⟨_,_,xs,_,o,es,ep,h1,h2,_⟩:=(show aCr X.prog X.w H s.heap a (.dT kvs) from I.hok a _ ea)
  exact W.kia_one W.kitx_dict I.kIn ⟨o,h1,h2.1⟩ e (fun z=>nomatch z) h
 | @ins a C dx fs ea cl ha hn htk hm =>
  cases (show u=Value.ref a from rx);obtain⟨mA,O,_⟩:=ins_get I.hok ea;obtain⟨od,J,_⟩:=O.look;exact W.kia_one (W.kitx_own (cl.get _) cl.hd ha hn htk hm) I.kIn J e (fun z=>nomatch z) h
end
structure Room (k:Nat) (A:Around):Prop where
 hd:A.handled=none
 dp:A.depth+3*k+5<recursionLimit
 un:A.units+16*k+200<cLine
theorem Room.mono{j k:Nat}(r:Room k A)(h:j<=k):Room j A:=⟨r.hd,by have:=r.dp;lia,by have:=r.un;lia⟩
theorem Room.deeper{k:Nat}(r:Room (k+1) A)(env:Env):Room k (A.deeper env) :=
 ⟨r.hd,by have:=r.dp;show A.depth+1+3*k+5<_;lia,by have:=r.un;show A.units+3+16*k+200<_;lia⟩
theorem Room.depth{k:Nat}(r:Room k A):A.depth<recursionLimit:=by have:=r.dp;lia
theorem Room.units0{k:Nat}(r:Room k A):A.units<cLine:=by have:=r.un;lia
def tNil:TA:=fun _ H Q=>Q [] H
def tCons(ta:TE)(tr:TA):TA:=fun σ H Q=>ta σ H fun x H1=>tr σ H1 fun xs H2=>Q (x::xs) H2
section
variable {X:Cx}{e:Expr}{es:List Expr}{te:TE}{t:TA}{pos:Pos}
theorem aQf:PA X [] tNil:=fun _ _ _ _ H Q I h=>dq ⟨[],H,I,.nil,h⟩
theorem pa_cons(ha:PE X e te)(hr:PA X es t)(hs:autoParam ZG az0._auto_1):PA X (e::es) (tCons te t):=by intro pos pins s σ H Q I h;rw[hs];show wpAny _ _ (spliced ((false,eval e X.env)::backTo pos (starEach es X.env))) _ _ s;refine br (thn (ha pins s σ H _ I h) fun u s1 ⟨x,H1,I1,r1,q1⟩=>?_);exact thn (hr pos pins s1 σ H1 _ I1 q1) fun us s2 ⟨xs,H2,I2,r2,q2⟩=>⟨x::xs,H2,I2,.cons r1 r2,q2⟩
def tTup(t:TA):TE:=fun σ H Q=>t σ H fun xs H1=>xs.length<=sizeLine/\∀p,H1 p=none->Q (.ref p) (upd H1 p (.tup xs))
def tLst(t:TA):TE:=fun σ H Q=>t σ H fun xs H1=>xs.length<=sizeLine/\∀p,H1 p=none->Q (.ref p) (upd H1 p (.lst xs))
theorem pe_tup{x1}(h:PA X es t):PE X (.Tuple es x1 pos) (tTup t):=by intro pins s σ H Q I hq;refine wpAny_Tuple_spliced (thn (h pos pins s σ H _ I hq) fun us s1 ⟨xs,H1,I1,r,z,q⟩=>⟨by rw[<-r.length];exact z,?_⟩);have hf:H1 s1.heap.objs.size=none:=I1.hok.fresh (ae _);refine⟨.ref s1.heap.objs.size,upd H1 s1.heap.objs.size (.tup xs),I1.laid (t':=s1.toks) (fun b u e=>aa _ e) (ae _) ?_,rfl,q _ hf⟩;exact⟨z,us,r,⟨_,au _ rfl,rfl,rfl,_,rfl⟩⟩
theorem pe_lst(h:PA X es t):PE X (.List es pos) (tLst t):=by intro pins s σ H Q I hq;refine wpAny_List_spliced (thn (h pos pins s σ H _ I hq) fun us s1 ⟨xs,H1,I1,r,z,q⟩=>⟨by rw[<-r.length];exact z,?_⟩);have hf:H1 s1.heap.objs.size=none:=I1.hok.fresh (ae _);refine⟨.ref s1.heap.objs.size,upd H1 s1.heap.objs.size (.lst xs),I1.laid (t':=s1.toks) (fun b u e=>aa _ e) (ae _) ?_,rfl,q _ hf⟩;exact⟨z,us,0,r,au _ rfl⟩
end
abbrev Sp:=List V->Hp->VK->XK->Prop
abbrev CXT:=List Env->Hp->Shared->XK->Value->Shared->Prop
structure Env0 (P:Program) (w:World) (K:W.Frag) (mg:Str->Option Value) (base:Heap) (A:Around) (outer:List Env) (s:Shared) (H:Hp):Prop where
 frames:A.frames=some outer
 mod:Mod K mg base
 bs:∀b o,base.get? b=some o->s.heap.get? b=some o/\H b=none
 bsz:base.objs.size<=s.heap.objs.size
 funs:s.heap.FunFrames base outer
 frf:∀b∈frs outer,H b=none
 hok:HOk P w H s.heap
 bare:AllBare s.gens
def CE(outer:List Env)(P:Program)(w:World)(H:Hp)(s:Shared)(Q:VK)(u:Value)(s':Shared):Prop :=
 ∃v H',s'.os=s.os/\AllBare s'.gens/\Un (frs outer) [] H H' s.heap s'.heap/\HOk P w H' s'.heap/\RelV v u/\Q v H'
def CR(CX:CXT)(outer:List Env)(P:Program)(w:World)(H:Hp)(s:Shared)(Q:VK)(E:XK)(r:Result)(s':Shared):Prop :=
 match r with
 |.ok (.ret u)=>CE outer P w H s Q u s'
 |.ok _=>False
 |.error e=>CX outer H s E e s'
structure FnOk (P:Program) (w:World) (K:W.Frag) (mg:Str->Option Value) (base:Heap) (CX:CXT) (k:Nat) (f:Addr) (fd:FuncData) (ps:List Str) (sp:Sp):Prop where
 len:∀vs H Q E,sp vs H Q E->vs.length=ps.length
 run:∀ (A:Around) (outer:List Env) (s:Shared) (H:Hp) (args:Args) (us:List Value) (vs:List V) (Q:VK) (E:XK),Room k A->Env0 P w K mg base A outer s H->BindsTo s fd args (ps.zip us)->Vals vs us->sp vs H Q E ->
  codeAny (model P w) A (.call (.ref f) args) (CR CX outer P w H s Q E) s
section
variable {X:Cx}{pins:List ZH}{σ:St}{H:Hp}{s s':Shared}
theorem Inv.env0(I:Inv X pins σ H s):Env0 X.prog X.w X.K X.mg X.base X.A X.stack s H :=
 ⟨I.ok.frames,I.ok.mod,I.bs,aq I.ok.bsz I.sz,I.stack,I.stkFree,I.hok,I.bare⟩
theorem Inv.after(I:Inv X pins σ H s)(h:CE X.stack X.prog X.w H s Q u s'):EP X pins σ Q u s':=by obtain⟨v,H',os,bare,un,hok,r,q⟩:=h;obtain⟨hh,g,d,t,os'⟩:=s';obtain rfl:os'=s.os:=os;exact⟨v,H',I.call (h':=hh) (g':=g) (d':=d) (t':=t) (ch:=[]) un hok bare (fun b z=>absurd z ZR),r,q⟩
end
def tCall(sp:Sp)(dvs:List V)(E:XK)(t:TA):TE:=fun σ H Q=>t σ H fun vs H1=>sp (vs++dvs) H1 Q E
def Binds(K:W.Frag)(fd:FuncData)(ps:List Str)(ds:List Value):Prop :=
 ∀ (s:Shared) (us:List Value),K.In s.heap->(us++ds).length=ps.length->BindsTo s fd ⟨us,[]⟩ (ps.zip (us++ds))
theorem Binds.all{K:W.Frag}{fd:FuncData}{ps:List Str}(h:∀us:List Value,us.length=ps.length->bindArgs fd ⟨us,[]⟩=pure (ps.zip us)):Binds K fd ps []:=fun s us _ hl=>by rw[gX] at hl |-;exact .of_eq (h us hl)
def aZ1(CX:CXT)(X:Cx)(E:XK):Prop:=∀ (pins:List ZH) (σ:St) (H:Hp) (s:Shared) (e:Value) (s':Shared),Inv X pins σ H s->CX X.stack H s E e s'->X.xe e s'
section
variable {X:Cx}{CX:CXT}{k:Nat}{f C:Addr}{fd:FuncData}{ps:List Str}{sp:Sp}{dvs:List V}{ds:List Value}{E:XK}{x m:Str}{p pos apos:Pos}{e o:Expr}{es:List Expr}{ta:TE}{t:TA}
theorem run_fn(F:FnOk X.prog X.w X.K X.mg X.base CX k f fd ps sp)(hr:Room k X.A)(hb:Binds X.K fd ps ds)(hd:Vals dvs ds)(hx:aZ1 CX X E)
  (I:Inv X pins σ H s) (r:Vals vs us) (h:sp (vs++dvs) H Q E):wpAny ZC X.A (call (.ref f) us) (EP X pins σ Q) X.xe s:=by
 have r2:Vals (vs++dvs) (us++ds):=r.append hd;have hl:(us++ds).length=ps.length:=by rw[<-r2.length];exact F.len _ _ _ _ h
 refine wpAny_call (codeAny_mono (F.run X.A X.stack s H ⟨us,[]⟩ (us++ds) (vs++dvs) Q E hr I.env0 (hb s us I.kIn hl) r2 h) fun r s' hq=>?_);cases r with
 |error e=>exact hx pins σ H s e s' I hq
 | ok fl =>
  cases fl with
  |ret u=>exact I.after hq
  |next=>exact False.elim hq
  |brk=>exact False.elim hq
  |cont=>exact False.elim hq
theorem pe_call(F:FnOk X.prog X.w X.K X.mg X.base CX k f fd ps sp)(hr:Room k X.A)(hg:Gl X x)(hm:X.mg x=some (.ref f))(hk:W.keepIn X.K (.ref f)=true)(hb:Binds X.K fd ps ds)(hd:Vals dvs ds)(hx:aZ1 CX X E)
  (ha:PA X (e::es) t) (hdb:autoParam ZL az1._auto_1) (he:autoParam ZG az0._auto_1) (hpl:autoParam ((backTo pos (starEach es X.env)).any (·.1)=false) az0._auto_1) :
  PE X (.Call (.Name x p) (e::es) [] pos) (tCall sp dvs E t):=by
 intro pins s σ H Q I h;refine wpAny_Call_Name_kw (aG9 I hg hm ?_ hdb);refine W.callWith_K (h₀:=X.base) I.ok.mod.kin hk (thn (ha pos pins s σ H _ I h) fun us s1 ⟨vs,H1,I1,r,q⟩=>⟨I1.kIn,?_⟩) he hpl;exact run_fn F hr hb hd hx I1 r q
structure Mk (K:W.Frag) (C f:Addr):Prop where
 makes:W.makesIn K C=true
 init:W.findIn K (.ref C) "__init__" = some (some (.ref f))
 fn:W.isFn K (.ref f)=true
 kp:W.keepIn K (.ref C)=true
end
section
variable {X:Cx}{CX:CXT}{k:Nat}{f C:Addr}{fd:FuncData}{ps ks:List Str}{sp:Sp}{E:XK}{x m:Str}{p pos apos kpos:Pos}{e o:Expr}{es:List Expr}{kws:List Keyword}{te ta:TE}{t tk:TA}{nm:Option Str}
structure KBinds (K:W.Frag) (fd:FuncData) (ps ks:List Str) (g:List Value->List Value->List Value) (gV:List V->List V->List V):Prop where
 to:∀ (s:Shared) (us ws:List Value),K.In s.heap->(g us ws).length=ps.length->BindsTo s fd ⟨us,ks.zip ws⟩ (ps.zip (g us ws))
 rel:∀ {vs:List V} {us:List Value} {zs:List V} {ws:List Value},Vals vs us->Vals zs ws->Vals (gV vs zs) (g us ws)
variable {g:List Value->List Value->List Value}{gV:List V->List V->List V}
end
structure FnScope (N P:List Str) (sc:Scope):Prop where
 kind:sc.kind = .function
 co:sc.isCoroutine=false
 gen:sc.isGenerator=false
 nd:N.Nodup
 pre:N.take P.length=P
 par:∀x∈P,sc.names.lookup x=some .local\/sc.names.lookup x=some .cell
 nofree:∀y∈sc.names,y.2 ≠ .free
theorem scO(a:autoParam (sc.kind = .function) az0._auto_1)(b:autoParam (sc.isCoroutine=false) az0._auto_1)(c:autoParam (sc.isGenerator=false) az0._auto_1)(d:N.Nodup:=by decide +kernel)(e:autoParam (N.take P.length=P) az0._auto_1)(f:∀x∈P,sc.names.lookup x=some .local\/sc.names.lookup x=some .cell:=by decide +kernel)(g:∀y∈sc.names,y.2 ≠ .free:=by decide +kernel):FnScope N P sc:=⟨a,b,c,d,e,f,g⟩
theorem aQq{kindOf:Str->Option NameKind}:∀ {binds:List (Str × Value)} {m:Str->Option Value},(∀v,(x,v)∉binds)->bindL kindOf binds m x=m x
 |[],_,_=>rfl
 | (n,v)::r,m,h=>by
  unfold bindL;rw[aQq fun w hw=>h w (am _ hw)];split
  ·have:x≠n:=by rintro rfl;exact h v ao
   simp[this]
  ·rfl
theorem aUd{kindOf:Str->Option NameKind}:∀ {binds:List (Str × Value)} {m:Str->Option Value},(∀v,(x,v)∉binds)->bindC kindOf binds m x=m x
 |[],_,_=>rfl
 | (n,v)::r,m,h=>by
  unfold bindC;rw[aUd fun w hw=>h w (am _ hw)];split
  ·rfl
  ·have:x≠n:=by rintro rfl;exact h v ao
   simp[this]
theorem aRt{kindOf:Str->Option NameKind}:∀ {P:List Str} {vs:List Value} {i:Nat} {m:Str->Option Value},P.Nodup->P[i]?=some x->vs[i]?=some v->kindOf x=some .local ->
  bindL kindOf (P.zip vs) m x=some v
 |[],_,_,_,_,h,_,_=>by simp at h
 |_::_,[],_,_,_,_,h,_=>by simp at h
 |p::P,w::vs,0,m,nd,h1,h2,hk=>by simp at h1 h2;subst h1;subst h2;show bindL kindOf ((p,w)::P.zip vs) m p=_;unfold bindL;rw[aQq fun v hv=>(fb.mp nd).1 (ir hv).1,if_pos hk];simp
 |p::P,w::vs,i+1,m,nd,h1,h2,hk=>by show bindL kindOf ((p,w)::P.zip vs) m x=_;unfold bindL;exact aRt (i:=i) (fb.mp nd).2 (by simpa using h1) (by simpa using h2) hk
theorem aTr{kindOf:Str->Option NameKind}:∀ {P:List Str} {vs:List Value} {i:Nat} {m:Str->Option Value},P.Nodup->P[i]?=some x->vs[i]?=some v->kindOf x≠some .local ->
  bindC kindOf (P.zip vs) m x=some v
 |[],_,_,_,_,h,_,_=>by simp at h
 |_::_,[],_,_,_,_,h,_=>by simp at h
 |p::P,w::vs,0,m,nd,h1,h2,hk=>by simp at h1 h2;subst h1;subst h2;show bindC kindOf ((p,w)::P.zip vs) m p=_;unfold bindC;rw[aUd fun v hv=>(fb.mp nd).1 (ir hv).1,if_neg hk];simp
 |p::P,w::vs,i+1,m,nd,h1,h2,hk=>by show bindC kindOf ((p,w)::P.zip vs) m x=_;unfold bindC;exact aTr (i:=i) (fb.mp nd).2 (by simpa using h1) (by simpa using h2) hk
def start(N:List Str)(vs:List V):St:=vs.map some++List.replicate (N.length - vs.length) none
def cxOf(CX:CXT)(P:Program)(w:World)(K:W.Frag)(mg:Str->Option Value)(base:Heap)(N:List Str)(qual:Str)(scope:Scope)(f:Addr)(cd:Value)(A:Around)(outer:List Env)(s:Shared)(H:Hp)(E:XK):Cx where
 prog:=P
 w:=w
 K:=K
 mg:=mg
 base:=base
 A:=A.deeper (envOfC qual scope s.heap.objs.size f cd)
 N:=N
 s₀:=s
 H₀:=H
 env:=envOfC qual scope s.heap.objs.size f cd
 outer:=outer
 stack:=envOfC qual scope s.heap.objs.size f cd::outer
 ex:=[]
 calm:=true
 fn:=fun _=>true
 pn:=[]
 xe:=fun e s'=>wpAny (model P w) (A.deeper (envOfC qual scope s.heap.objs.size f cd)) (leaving (envOfC qual scope s.heap.objs.size f cd) e) (fun _ s''=>CX outer H s E e s'') (fun e' s''=>CX outer H s E e' s'') s'
theorem aWg{sc:Scope}{n:Nat}(h:sc.names.lookup x=some .cell):∃c,(cellsFrom n sc.names []).lookup x=some c:=by have q:=W.cellsFrom_some sc.names n [] (.inl h);exact gR.mp q
theorem aQn{CX:CXT}{P:Program}{w:World}{K:W.Frag}{mg:Str->Option Value}{base:Heap}{N ps:List Str}{qual:Str}{scope:Scope}{f:Addr}{cd:Value}{A:Around}{outer:List Env}{s s1:Shared}{H:Hp}{E:XK}{us:List Value}{vs:List V}
  (S:FnScope N ps scope) (hd:A.handled=none) (e0:Env0 P w K mg base A outer s H) (hl:vs.length=ps.length) (r:Vals vs us)
  (x:InCallC s s.heap.objs.size (bindL (envOfC qual scope s.heap.objs.size f cd).kindOf (ps.zip us) fun _=>none) (cellsFrom (s.heap.objs.size+1) scope.names []) (bindC (envOfC qual scope s.heap.objs.size f cd).kindOf (ps.zip us) fun _=>none) s1) :
  Inv (cxOf CX P w K mg base N qual scope f cd A outer s H E) [] (start N vs) H s1:=by
 have hpl:ps.length<=N.length:=by have:=congrArg List.length S.pre;rw[d8] at this;lia
 obtain⟨h1,tk,rfl,hk⟩:=x.done;have noA:∀b:Addr,b∉(cxOf CX P w K mg base N qual scope f cd A outer s H E).ex:=fun b z=>absurd (show b∈([]:List Addr) from z) ZR
 refine⟨⟨e0.mod,S.kind,rfl,rfl,ae _,fun y z c h1 h2=>?_,fun y hy=>?_,fun y c _ h=>?_,fun _=>hd,Around.frames_deeper e0.frames,.inr ⟨rfl,rfl⟩,fun b z=>absurd z (noA b),e0.bs,e0.bsz,fun b _ _=>noA b,fun b z=>absurd z (noA b),e0.funs,e0.frf⟩,
  rfl,e0.bare,Un.kept hk,⟨_,x.toInCall.ns,fun i y v h1 h2 h3=>?_⟩,fun y c h=>⟨_,x.cell y c h⟩,e0.hok.fresh (ae _),fun y c h=>?_,fun p hp=>absurd (show p∈([]:List ZH) from hp) ZR,e0.hok.kept hk,?_⟩
 ·exact name_of_addr x.apart (PySem.mem_of_lookup h1) (PySem.mem_of_lookup h2)
 ·have hy:scope.names.lookup y=some .cell\/scope.names.lookup y=some .free:=hy;rcases hy with hy |hy
  ·exact aWg hy
  ·exact absurd rfl (S.nofree _ (PySem.mem_of_lookup hy))
 ·exact d7 (x.above y c (PySem.mem_of_lookup h))
 ·have hi:i<vs.length:=by
   unfold start at h2;by_cases hi:i<vs.length
   ·exact hi
   ·rw[gm (by simpa using hi)] at h2;rw[iB] at h2;split at h2<;>cases h2
  have ha:vs[i]?=some v:=by
   unfold start at h2;rw[gN (by simpa using hi),cg] at h2;cases e:vs[i]? with
   |none=>rw[e] at h2;cases h2
   |some a=>rw[e] at h2;cases h2;rfl
  obtain⟨u,hu,rv⟩:=r.get ha;have hp:ps[i]?=some y:=by rw[<-S.pre,jM ZB];exact h1
  have ndP:ps.Nodup:=by rw[<-S.pre];exact S.nd.sublist (iY _ _)
  refine⟨u,rv,?_⟩;rcases S.par y (j3 hp) with k |k
  ·exact .inl ⟨k,aRt ndP hp hu k⟩
  ·obtain⟨c,e⟩:=aWg (n:=s.heap.objs.size+1) k;refine .inr ⟨.inl k,c,e,?_⟩;have q:=x.cell y c e;rw[aTr ndP hp hu (by show scope.names.lookup y≠_;rw[k];decide)] at q;exact q
 ·exact e0.hok.fresh (d7 (x.above y c (PySem.mem_of_lookup h)))
 ·unfold start;show _=N.length;rw[bp,ak,fk];lia
theorem fn_of{CX:CXT}{P:Program}{w:World}{K:W.Frag}{mg:Str->Option Value}{base:Heap}{k:Nat}{f:Addr}{name qual:Str}{params:Arguments}{body:List Stmt}{scope:Scope}{dV kV doc pm cdv ct oc:Value}{an od:Option Addr}
  {osl:Array (Option Value)} {N ps:List Str} {sp:Sp} (lk:K.lookup f=some ⟨oc,od,.func (W.fnOf name qual params body scope dV kV doc pm an cdv ct),osl⟩) (hcd:W.codeIn K cdv qual=true) (S:FnScope N ps scope)
  (len:∀vs H Q E,sp vs H Q E->vs.length=ps.length)
  (hbody:∀ (A:Around) (outer:List Env) (s:Shared) (H:Hp) (vs:List V) (Q:VK) (E:XK),Room k (A.deeper (envOfC qual scope s.heap.objs.size f cdv))->sp vs H Q E ->
   ∃t,PSs (cxOf CX P w K mg base N qual scope f cdv A outer s H E) body t/\t { nx:=fun _ H'=>Q .non H',rt:=Q } (start N vs) H) :
  FnOk P w K mg base CX (k+1) f (W.fnOf name qual params body scope dV kV doc pm an cdv ct) ps sp:=by
 refine⟨len,fun A outer s H args us vs Q E hr e0 hb r hsp=>?_⟩;have hl:=len _ _ _ _ hsp;have KX:K.In s.heap:=e0.mod.kin.keeps fun b o e=>(e0.bs b o e).1;have lim:s.heap.NoLimit:=e0.mod.nolimit.keeps fun b o e=>(e0.bs b o e).1;have hkind:∀y∈ps.zip us,scope.names.lookup y.1=some .local\/(scope.names.lookup y.1=some .cell/\((cellsFrom (s.heap.objs.size+1) scope.names []).lookup y.1).isSome=true):=fun ⟨n,v⟩ hy=>by
  rcases S.par n (ir hy).1 with q |q
  ·exact .inl q
  ·exact .inr ⟨q,W.cellsFrom_some _ _ _ (.inl q)⟩
 refine codeAny_call_function hr.depth (KX _ _ lk) rfl S.co S.gen rfl (W.codeRec_of KX hcd) (hb _ _ _ _ ?_);refine wpAny_newFunctionEnv_cells S.kind hkind fun env he s1 x=>?_;subst he;refine⟨lim.keeps x.toInCall.keep,codeAny_func ?_⟩;obtain⟨t,ht,hq⟩:=hbody A outer s H vs Q E (hr.deeper _) hsp;have I:Inv (cxOf CX P w K mg base N qual scope f cdv A outer s H E) [] (start N vs) H s1:=aQn S hr.hd e0 hl r x;refine wpAny_mono (ht [] s1 (start N vs) H _ I hq) (fun fl s' hs=>?_) fun e s' hs=>hs;have fin:∀ {σ':St} {H':Hp} {v:V} {u:Value},Inv (cxOf CX P w K mg base N qual scope f cdv A outer s H E) [] σ' H' s'->RelV v u->Q v H'->CE outer P w H s Q u s' :=
  fun {σ' H' v u} J rv q=>⟨v,H',J.os,J.bare,J.base,J.hok,rv,q⟩
 cases fl with
 | ret u =>
  obtain⟨v,σ',H',J,rv,q⟩:=hs;exact fin J rv q
 | next =>
  obtain⟨σ',H',J,q⟩:=hs;exact fin (v:=V.non) (u:=Value.none) J rfl q
 | brk =>
  obtain⟨_,_,_,q⟩:=hs;exact False.elim q
 | cont =>
  obtain⟨_,_,_,q⟩:=hs;exact False.elim q
end L2
namespace HT
open PySem PyProof.Rows
def lexLt:List Int->List Int->Bool
 |[],[]=>false
 |[],_::_=>true
 |_::_,[]=>false
 |x::xs,y::ys=>if x=y then lexLt xs ys else decide (x<y)
section
variable {prog:Program}{w:World}{A:Around}{E:Value->Shared->Prop}{s:Shared}
def sIx(n d:Nat):Option Int->Nat
 |none=>d
 |some v=>if v<0 then (v+(n:Int)).toNat else min v.toNat n
theorem sIx_le(n d:Nat)(hd:d<=n)(o:Option Int):sIx n d o<=n:=by
 cases o with
 |none=>exact hd
 | some v =>
  show (if v<0 then (v+(n:Int)).toNat else min v.toNat n)<=n;by_cases hv:v<0
  ·rw[if_pos hv];lia
  ·rw[if_neg hv];exact Nat.min_le_right _ _
theorem bAg(v:Int)(n d:Nat):(if v<0 then max (v+(n:Int)) 0 else min v (n:Int))=((sIx n d (some v):Nat):Int):=by
 show (if v<0 then max (v+(n:Int)) 0 else min v (n:Int))=(((if v<0 then (v+(n:Int)).toNat else min v.toNat n):Nat):Int)
 by_cases hv:v<0
 ·simp only[if_pos hv];lia
 ·simp only[if_neg hv];lia
theorem aY0(lo hi:Option Int)(n:Nat):Builtin.Slice.sliceAdjust lo hi 1 (n:Int)=(((sIx n 0 lo:Nat):Int),((sIx n n hi:Nat):Int)):=by
 have h1:¬ ((1:Int)<0):=by lia
 unfold Builtin.Slice.sliceAdjust;simp only[h1,if_false];refine Prod.ext ?_ ?_
 ·cases lo with
  |none=>rfl
  |some v=>exact bAg v n 0
 ·cases hi with
  |none=>rfl
  |some v=>exact bAg v n n
theorem aYx(i j:Nat):Builtin.Slice.slicePlaces (i:Int) (j:Int) 1=j - i:=by
 unfold Builtin.Slice.slicePlaces;have h1:(1:Int) > 0:=by lia
 simp only[h1,if_true,Int.ediv_one];split<;>lia
theorem slicePart_(p:IsPart v o)(h:Q o s):wpAny ZI A (Builtin.Slice.slicePartIndex v) Q E s:=by
 cases p with
 |none=>exact slicePart_none h
 |int i t=>exact slicePart_int h
theorem sliceApplied_gen{lo hi:Option Int}{n:Nat}{Q:Int × Int × Nat->Shared->Prop}(hs:s.heap.IsSliceOf sl vl vu .none)(pl:IsPart vl lo)(pu:IsPart vu hi)
  (h:Q (((sIx n 0 lo:Nat):Int),1,sIx n n hi - sIx n 0 lo) s):wpAny ZI A (Builtin.Slice.sliceApplied (.ref sl) (pure (n:Int))) Q E s:=by
 obtain⟨os,hos,hcs,hds⟩:=id hs;unfold Builtin.Slice.sliceApplied Builtin.Slice.sliceFields;refine wpAny_bind (wpAny_bind (wpAny_field hos hds (x:=vl) rfl (wpAny_bind (wpAny_field hos hds (x:=vu) rfl (wpAny_bind (wpAny_field hos hds (x:=.none) rfl (wpAny_pure ?_)))))));refine wpAny_bind (slicePart_none ?_);show wpAny _ _ (if ((1:Int)==0)=true then _ else _) _ _ s;rw[if_neg ZA];refine wpAny_bind (slicePart_ pl (wpAny_bind (slicePart_ pu (wpAny_bind (wpAny_pure ?_)))));show wpAny _ _ (match Builtin.Slice.sliceAdjust lo hi 1 (n:Int) with |(lo,hi)=>pure (lo,(1:Int),Builtin.Slice.slicePlaces lo hi 1)) _ _ s;rw[aY0 lo hi n];show wpAny _ _ (pure (((sIx n 0 lo:Nat):Int),(1:Int),Builtin.Slice.slicePlaces ((sIx n 0 lo:Nat):Int) ((sIx n n hi:Nat):Int) 1)) _ _ s;rw[aYx];exact wpAny_pure h
theorem pick_gen(xs:Array Value)(i k:Nat):((List.range k).filterMap fun (m:Nat)=>xs[((i:Int)+(m:Int)*1).toNat]?).toArray=((xs.toList.drop i).take k).toArray:=by
 have e:(fun (m:Nat)=>xs[((i:Int)+(m:Int)*1).toNat]?)=fun m=>xs[i+m]?:=by
  funext m;have:((i:Int)+(m:Int)*1).toNat=i+m:=by lia
  rw[this]
 rw[e];have:=pick_run xs i k;rw[jd] at this;have e2:((fun x=>xs[x]?)∘fun x=>i+x)=fun m=>xs[i+m]?:=rfl;rw[e2] at this;rw[this]
theorem getItem_tuple_cut{lo hi:Option Int}(ht:IsTup s.heap t items)(hs:s.heap.IsSliceOf sl vl vu .none)(pl:IsPart vl lo)(pu:IsPart vu hi)
  (hw:¬ (sIx items.size 0 lo=0/\sIx items.size items.size hi=items.size))
  (h:Q (.ref s.heap.objs.size) { s with heap:=s.heap.push { cls:=.type "tuple",data:=.seq ((items.toList.drop (sIx items.size 0 lo)).take (sIx items.size items.size hi - sIx items.size 0 lo)).toArray } })
  (hsz:items.size<=sizeLine):wpAny ZI A (getItem (.ref t) (.ref sl)) Q E s:=by
 have htake:sizeOk (.seq ((items.toList.drop (sIx items.size 0 lo)).take (sIx items.size items.size hi - sIx items.size 0 lo)).toArray):=by show ((items.toList.drop (sIx items.size 0 lo)).take (sIx items.size items.size hi - sIx items.size 0 lo)).toArray.size<=sizeLine;rw[aj,d8,dj,bg];lia
 have hj:sIx items.size items.size hi<=items.size:=sIx_le _ _ (ae _) hi;obtain⟨os,hos,hcs,hds⟩:=id hs;have hTs:s.TypeIs (.ref sl) "slice":=⟨os,hos,hcs⟩
 unfold getItem
 try with_reducible refine wpAny_holding ?_
 first |refine wpAny_bind (wpAny_pure ?_) |skip
 refine wpAny_bind (wpAny_sequenceKey ht.typeIs ZA ?_)
 refine wpAny_bind (wpAny_callSpecial?_slot (name:=Str.ofString "__getitem__") ht.typeIs PyProof.Rows.slot_tuple_getitem
  (wpAny_call_entry PyProof.Rows.slot_tuple_getitem ht.typeIs entry_tuple_getitem ?_ (args_tuple_getitem _ _)))
 show wpAny _ _ (Builtin.Tuple.tupleItemsOf (.ref t) >>= _) _ _ s;refine wpAny_bind (tupleItemsOf_ ht ?_);refine wpAny_bind (wpAny_typeOf hTs ?_);rw[if_pos ZA];refine wpAny_bind (sliceApplied_gen hs pl pu ?_);have hno:¬ ((((sIx items.size 0 lo:Nat):Int)==0&&(1:Int)==1&&(sIx items.size items.size hi - sIx items.size 0 lo)==items.size)=true):=by intro q;rw[bo,bo] at q;have q1:((sIx items.size 0 lo:Nat):Int)=0:=eq_of_beq q.1.1;have q2:sIx items.size items.size hi - sIx items.size 0 lo=items.size:=eq_of_beq q.2;exact hw ⟨by lia,by lia⟩
 show wpAny _ _ (if (((sIx items.size 0 lo:Nat):Int)==0&&(1:Int)==1&&(sIx items.size items.size hi - sIx items.size 0 lo)==items.size)=true then _ else _) _ _ s;rw[if_neg hno,pick_gen]
 first
  |exact wpAny_bind (m:=Builtin.Tuple.tupleExact _) (wpAny_newObj_type (wpAny_pure ⟨_,rfl,wpAny_pure h⟩) htake)
  |exact wpAny_bind (m:=Builtin.Tuple.tupleExact _) (wpAny_newObj_type (wpAny_bind (wpAny_pure (wpAny_pure ⟨_,rfl,wpAny_pure h⟩))) htake)
  |exact wpAny_bind (wpAny_bind (m:=Builtin.Tuple.tupleExact _) (wpAny_newObj_type (wpAny_pure (wpAny_pure ⟨_,rfl,wpAny_pure h⟩)) htake))
  |exact wpAny_bind (wpAny_bind (m:=Builtin.Tuple.tupleExact _) (wpAny_newObj_type (wpAny_pure ⟨_,rfl,wpAny_pure h⟩) htake))
end
end HT
namespace L2
open PySem PySem.Spec PyProof.Rows
abbrev TO:=St->Hp->(Option Int->Hp->Prop)->Prop
def PO(X:Cx)(e:Option Expr)(t:TO):Prop :=
 ∀ (pins:List ZH) (s:Shared) (σ:St) (H:Hp) (Q:Option Int->Hp->Prop),Inv X pins σ H s->t σ H Q ->
  wpAny ZC X.A (evalPart e X.env) (fun u s'=>∃o H',Inv X pins σ H' s'/\IsPart u o/\Q o H') X.xe s
def tNoPart:TO:=fun _ H Q=>Q none H
def tPart(t:TE):TO:=fun σ H Q=>t σ H fun x H1=>∃i,x = .int i/\Q (some i) H1
section
variable {X:Cx}{e:Expr}{te:TE}{lo hi:Option Expr}{tl th:TO}{pos p2:Pos}
theorem po_none:PO X none tNoPart:=by intro pins s σ H Q I h;rw[evalPart_none];exact wpAny_pure ⟨none,H,I,.none,h⟩
theorem po_some(h:PE X e te):PO X (some e) (tPart te):=by intro pins s σ H Q I hw;rw[evalPart_some];refine thn (h pins s σ H _ I hw) fun u s1 ⟨x,H1,I1,r1,q1⟩=>?_;obtain⟨i,rfl,q⟩:=q1;obtain⟨t,rfl⟩:=r1;exact⟨some i,H1,I1,.int i t,q⟩
def SlR(X:Cx)(r:V->Option Int->Option Int->Hp->VK->Prop):Prop :=
 ∀ (pins:List ZH) (s:Shared) (σ:St) (H:Hp) (x:V) (v vl vu:Value) (lo hi:Option Int) (sl:Addr) (Q:VK),Inv X pins σ H s->RelV x v->s.heap.IsSliceOf sl vl vu .none->IsPart vl lo->IsPart vu hi->r x lo hi H Q ->
  ∃T id,typeLookup (.type T) "__getitem__" = pure (some (.builtin id))/\s.TypeIs v T/\wpAny ZC X.A (getItem v (.ref sl)) (EP X pins σ Q) X.xe s
theorem SlR.or(h:SlR X r)(h':SlR X r'):SlR X (fun x lo hi H Q=>r x lo hi H Q\/r' x lo hi H Q):=by
 intro pins s σ H x v vl vu lo hi sl Q I rx hs pl pu q;rcases q with q |q
 ·exact h pins s σ H x v vl vu lo hi sl Q I rx hs pl pu q
 ·exact h' pins s σ H x v vl vu lo hi sl Q I rx hs pl pu q
def tSl(r:V->Option Int->Option Int->Hp->VK->Prop)(te:TE)(tl th:TO):TE:=fun σ H Q=>te σ H fun x H1=>tl σ H1 fun l H2=>th σ H2 fun u H3=>r x l u H3 Q
theorem pe_slice(hr:SlR X r)(he:PE X e te)(hl:PO X lo tl)(hu:PO X hi th):PE X (.Subscript e (.Slice lo hi none p2) pos) (tSl r te tl th):=by intro pins s σ H Q I h;refine Subscript_ (thn (he pins s σ H _ I h) fun v s1 ⟨x,H1,I1,r1,q1⟩=>?_);refine wpAny_Slice (thn (hl pins s1 σ H1 _ I1 q1) fun vl s2 ⟨l,H2,I2,pl,q2⟩=>thn (hu pins s2 σ H2 _ I2 q2) fun vu s3 ⟨u,H3,I3,pu,q3⟩=>?_);rw[evalPart_none];refine wpAny_pure ?_;have I4:Inv X pins σ H3 { s3 with heap:=s3.heap.push { cls:=.type "slice",data:=.fields #[vl,vu,.none] } }:=I3.kept (t':=s3.toks) fun b ob q=>aa _ q;obtain⟨T,id,hT,ht,hg⟩:=hr pins { s3 with heap:=s3.heap.push { cls:=.type "slice",data:=.fields #[vl,vu,.none] } } σ H3 x v vl vu l u s3.heap.objs.size Q I4 r1 (Heap.IsSliceOf.new ..) pl pu q3;show wpAny ZC X.A (subscriptTail e (.Slice lo hi none p2) v (.ref s3.heap.objs.size)) (EP X pins σ Q) X.xe { s3 with heap:=s3.heap.push { cls:=.type "slice",data:=.fields #[vl,vu,.none] } };exact tail_any (ops:=[.ref s3.heap.objs.size,v]) ht hT hg (by with_unfolding_all rfl)
def cutV(xs:List V)(lo hi:Option Int):List V:=(xs.drop (HT.sIx xs.length 0 lo)).take (HT.sIx xs.length xs.length hi - HT.sIx xs.length 0 lo)
theorem aK1(xs:List V)(lo hi:Option Int):(cutV xs lo hi).length<=xs.length:=by unfold cutV;rw[d8,dj];lia
def rSlT(K:W.Frag):V->Option Int->Option Int->Hp->VK->Prop:=fun x lo hi H Q=>∃a xs,x = .ref a/\SqT K H a xs /\
 ¬ (HT.sIx xs.length 0 lo=0/\HT.sIx xs.length xs.length hi=xs.length)/\∀p,H p=none->Q (.ref p) (upd H p (.tup (cutV xs lo hi)))
theorem sl_tup:SlR X (rSlT X.K):=by
 intro pins s σ H x v vl vu lo hi sl Q I rx hs pl pu h;obtain⟨a,xs,rfl,hx,hw,q⟩:=h;cases rx;obtain⟨its,r,ht,hz⟩:=I.tuple hx;have hlen:its.toArray.size=xs.length:=by rw[aj];exact r.length.symm
 refine⟨"tuple",_,PyProof.Rows.slot_tuple_getitem.lookup,ht.typeIs,?_⟩;refine HT.getItem_tuple_cut ht hs pl pu (by rw[hlen];exact hw) ?_ (by rw[hlen];exact hz);rw[hlen];refine⟨.ref s.heap.objs.size,_,I.laid (t':=s.toks) (o:=.tup (cutV xs lo hi)) (fun b ob q=>aa _ q) (ae _) ?_,rfl,q _ (I.hok.fresh (ae _))⟩;exact⟨aq (aK1 xs lo hi) hz,_,(r.drop (HT.sIx xs.length 0 lo)).take (HT.sIx xs.length xs.length hi - HT.sIx xs.length 0 lo),aEg.new _ _⟩
end
def ixN(n:Nat)(i:Int):Option Nat:=if 0<=i then (if i<n then some i.toNat else none) else if -(n:Int)<=i then some (i+n).toNat else none
def atI{α:Type}(xs:List α)(i:Int):Option α:=(ixN xs.length i).bind fun j=>xs[j]?
theorem bAq{n:Nat}{i:Int}{j:Nat}(h:ixN n i=some j):seqIndex? i n=some j/\j<n /\ -(n:Int)<=i/\i<n:=by
 unfold ixN at h;by_cases h0:0<=i
 ·rw[if_pos h0] at h;by_cases h1:i<n
  ·rw[if_pos h1] at h;have e:i.toNat=j:=Option.some.inj h;exact⟨by rw[seqIndex_of h0 h1,e],by lia,by lia,h1⟩
  ·rw[if_neg h1] at h;cases h
 ·rw[if_neg h0] at h;by_cases h1:-(n:Int)<=i
  ·rw[if_pos h1] at h;have e:(i+n).toNat=j:=Option.some.inj h;exact⟨by rw[seqIndex_neg ZB h1,e],by lia,h1,by lia⟩
  ·rw[if_neg h1] at h;cases h
theorem aZ0{α:Type}{xs:List α}{i:Int}{v:α}(h:atI xs i=some v):∃j,seqIndex? i xs.length=some j/\xs[j]?=some v/\j<xs.length /\ -(xs.length:Int)<=i/\i<xs.length:=by
 unfold atI at h;cases e:ixN xs.length i with
 |none=>rw[e] at h;cases h
 | some j =>
  rw[e] at h;obtain⟨h1,h2,h3,h4⟩:=bAq e;exact⟨j,h1,h,h2,h3,h4⟩
def PlainIx(b:Expr):Prop:=∀o i,subscripted b false o i=operate [o,i] (getItem o i)
def IxR(X:Cx)(r:R2):Prop :=
 ∀ (value slice:Expr) (pins:List ZH) (s:Shared) (σ:St) (H:Hp) (x y:V) (v u:Value) (Q:VK),Inv X pins σ H s->RelV x v->RelV y u->r x y H Q ->
  subscripted slice false v u=operate [v,u] (getItem v u)->wpAny ZC X.A (subscriptTail value slice v u) (EP X pins σ Q) X.xe s
def MtR(X:Cx)(id:String)(r:V->List V->Hp->VK->Prop):Prop :=
 ∀ (pins:List ZH) (s:Shared) (σ:St) (H:Hp) (x:V) (xs:List V) (v:Value) (us:List Value) (Q:VK),Inv X pins σ H s->RelV x v->Vals xs us->r x xs H Q ->
  wpAny ZC X.A (call (.builtin id) (v::us)) (EP X pins σ Q) X.xe s
section
variable {X:Cx}{a b:Expr}{ta tb:TE}{pos:Pos}
def rIxL(K:W.Frag):R2:=fun x y H Q=>∃p xs i v,x = .ref p/\y = .int i/\SqL K H p xs/\atI xs i=some v/\Q v H
def rIxT(K:W.Frag):R2:=fun x y H Q=>∃p xs i v,x = .ref p/\y = .int i/\SqT K H p xs/\atI xs i=some v/\Q v H
theorem ix_list:IxR X (rIxL X.K):=by
 intro value slice pins s σ H x y v u Q I rx ry h hs;obtain⟨p,xs,i,z,rfl,rfl,hq,he,q⟩:=h;cases rx;obtain⟨t,rfl⟩:=ry;obtain⟨its,r,pl,hz⟩:=I.list hq;obtain⟨j,h1,h2,h3,h4,h5⟩:=aZ0 he;obtain⟨w,ew,rw'⟩:=r.get h2;have hl:=r.length;have hn:=aSo;have fin:EP X pins σ Q w s:=⟨z,H,I,rw',q⟩
 by_cases h0:0<=i
 ·have hj:i.toNat=j:=by rw[seqIndex_of h0 h5] at h1;exact Option.some.inj h1
  exact item_listR pl.isList h0 ZB (by rw[hj];simpa using ew) fin hs
 ·have hj:(i+(its.toArray.size:Int)).toNat=j:=by rw[seqIndex_neg ZB h4] at h1;rw[aj,<-hl];exact Option.some.inj h1
  exact subscriptTail_builtinR (x:=w) pl.isList.typeIs slot_list_getitem.lookup
   (wpAny_getItem_list_neg (Q:=fun r s'=>r=w/\EP X pins σ Q r s') pl.isList ZB (by rw[aj]<;>lia) ZB (by rw[hj];simpa using ew) ⟨rfl,fin⟩) hs
theorem ix_tup:IxR X (rIxT X.K):=by
 intro value slice pins s σ H x y v u Q I rx ry h hs;obtain⟨p,xs,i,z,rfl,rfl,hq,he,q⟩:=h;cases rx;obtain⟨t,rfl⟩:=ry;obtain⟨its,r,pl,hz⟩:=I.tuple hq;obtain⟨j,h1,h2,h3,h4,h5⟩:=aZ0 he;obtain⟨w,ew,rw'⟩:=r.get h2;have hl:=r.length;have hn:=aSo;have fin:EP X pins σ Q w s:=⟨z,H,I,rw',q⟩
 exact subscriptTail_builtinR (x:=w) pl.typeIs slot_tuple_getitem.lookup
  (getItem_tuple (j:=j) (Q:=fun r s'=>r=w/\EP X pins σ Q r s') pl ZB ZB (by rw[aj,<-hl];exact h1) (by simpa using ew) ⟨rfl,fin⟩) hs
theorem aYz(its:List Value)(n j:Nat)(u:Value):Obj.mapSeq (·.setIfInBounds j u) { cls:=.type "list",data:=.seq its.toArray n } = { cls:=.type "list",data:=.seq (its.set j u).toArray n }:=by simp[Obj.mapSeq]
theorem Inv.lst{pins:List ZH}{σ:St}{H:Hp}{s:Shared}{p:Addr}{xs:List V}(I:Inv X pins σ H s)(h:H p=some (.lst xs)) :
  ∃ (its:List Value) (n:Nat),Vals xs its/\s.heap.get? p=some { cls:=.type "list",data:=.seq its.toArray n }/\xs.length<=sizeLine:=by
 obtain⟨z,its,n,r,e⟩:=I.hok p _ h;exact⟨its,n,r,e,z⟩
theorem Inv.lstUpd{its its':List Value}{n n':Nat}{f:Obj->Obj}(I:Inv X pins σ H s)(h:H p=some (.lst xs))
  (ho:s.heap.get? p=some { cls:=.type "list",data:=.seq its.toArray n }) (hf:f { cls:=.type "list",data:=.seq its.toArray n } = { cls:=.type "list",data:=.seq its'.toArray n' }) (r:Vals ys its') (hz:ys.length<=sizeLine) (t:Nat) :
  Inv X pins σ (upd H p (.lst ys)) { s with heap:=s.heap.update p f,toks:=t }:=by
 have e:(s.heap.update p f).get? p=some { cls:=.type "list",data:=.seq its'.toArray n' }:=by rw[fq f ho (by rw[hf]<;>rfl),hf]
 refine I.write (x:=p) (e:=p) (by rw[h];trivial) (.inl rfl) (fun b u hb q=>(fw _ _ (Ne.symm hb)).trans q) ⟨_,e⟩ ?_;exact⟨hz,its',n',r,e⟩
def rSetL:V->V->V->Hp->(Hp->Prop)->Prop:=fun o i v H Q=>∃p xs k j,o = .ref p/\i = .int k/\H p=some (.lst xs)/\ixN xs.length k=some j/\Q (upd H p (.lst (xs.set j v)))
theorem set_list:PSet X rSetL:=by
 intro pins s σ H o i v ov iv u Q I ro ri rv h;obtain⟨p,xs,k,j,rfl,rfl,hp,hj,q⟩:=h;cases ro;obtain⟨t,rfl⟩:=ri;obtain⟨its,n,r,ho,hz⟩:=I.lst hp;obtain⟨h1,h2,h3,h4⟩:=bAq hj;have hl:=r.length;have hn:=aSo;have I':Inv X pins σ (upd H p (.lst (xs.set j v))) { s with heap:=s.heap.update p (Obj.mapSeq (·.setIfInBounds j u)) } :=
  I.lstUpd hp ho (aYz its n j u) (r.set rv j) (by rw[gZ];exact hz) s.toks
 by_cases h0:0<=k
 ·have hk:k.toNat=j:=by rw[seqIndex_of h0 h4] at h1;exact Option.some.inj h1
  exact W.ki_setAt ho h0 ZB (by rw[aj,<-hl];exact h4) (by rw[hk];exact⟨_,I',q⟩)
 ·have hk:(k+(its.toArray.size:Int)).toNat=j:=by rw[seqIndex_neg ZB h3] at h1;rw[aj,<-hl];exact Option.some.inj h1
  exact W.ki_setBack ho ZB (by rw[aj,<-hl];exact h3) ZB (by rw[hk];exact⟨_,I',q⟩)
theorem aSw(lo hi:Option Int)(n:Nat):(sliceBounds lo hi none n).1=((HT.sIx n 0 lo:Nat):Int)/\(sliceBounds lo hi none n).2.1=((HT.sIx n n hi:Nat):Int)/\(sliceBounds lo hi none n).2.2=1:=by
 refine⟨?_,?_,rfl⟩
 ·cases lo with
  |none=>simp[sliceBounds,HT.sIx]
  | some i =>
   simp only[sliceBounds,HT.sIx,jn,show (1:Int) > 0 by decide,if_true];by_cases h:i<0
   ·simp only[h,if_true]<;>lia
   ·simp only[h,if_false]<;>lia
 ·cases hi with
  |none=>simp[sliceBounds,HT.sIx]
  | some i =>
   simp only[sliceBounds,HT.sIx,jn,show (1:Int) > 0 by decide,if_true];by_cases h:i<0
   ·simp only[h,if_true]<;>lia
   ·simp only[h,if_false]<;>lia
theorem aMy(its:List Value)(lo hi:Option Int):slicePick its.toArray lo hi none=((its.drop (HT.sIx its.length 0 lo)).take (HT.sIx its.length its.length hi - HT.sIx its.length 0 lo)).toArray:=by obtain⟨h1,h2,h3⟩:=aSw lo hi its.toArray.size;unfold slicePick;rw[h1,h2,h3];simp only[sliceRange_one,pick_run,aj]<;>rfl
def rSlL(K:W.Frag):V->Option Int->Option Int->Hp->VK->Prop:=fun x lo hi H Q=>∃a xs,x = .ref a/\SqL K H a xs/\∀p,H p=none->Q (.ref p) (upd H p (.lst (cutV xs lo hi)))
theorem sl_list:SlR X (rSlL X.K):=by intro pins s σ H x v vl vu lo hi sl Q I rx hs pl pu h;obtain⟨a,xs,rfl,hx,q⟩:=h;cases rx;obtain⟨its,r,ht,hz⟩:=I.list hx;have hlen:=r.length;refine⟨"list",_,slot_list_getitem.lookup,ht.isList.typeIs,?_⟩;refine wpAny_getItem_list_slice ht.isList hs pl pu .none ZR ?_ (by rw[aj]<;>lia);rw[aMy,<-hlen];refine⟨.ref s.heap.objs.size,_,I.laid (t':=s.toks) (o:=.lst (cutV xs lo hi)) (fun b ob q=>aa _ q) (ae _) ?_,rfl,q _ (I.hok.fresh (ae _))⟩;exact⟨aq (aK1 xs lo hi) hz,_,0,(r.drop (HT.sIx xs.length 0 lo)).take (HT.sIx xs.length xs.length hi - HT.sIx xs.length 0 lo),au _ rfl⟩
def aV4:V->Bool
 |.non=>true
 |.bl _=>true
 |.int _=>true
 |.str _=>true
 |_=>false
def eqV:V->V->Bool
 |.non,.non=>true
 |.bl a,.bl b=>a==b
 |.bl a,.int b=>(if a then 1 else 0)==b
 |.int a,.bl b=>a==(if b then 1 else 0)
 |.int a,.int b=>a==b
 |.str a,.str b=>a==b
 |_,_=>false
theorem eqAt_V(ry:RelV y u)(rx:RelV x v)(fy:aV4 y=true)(fx:aV4 x=true):SeqAt.EqAt A s u v (eqV y x):=by
 cases y with
 | non =>
  cases ry;cases x with
  |non=>cases rx;exact SeqAt.EqAt.same _
  |bl b=>cases rx;exact SeqAt.EqAt.none_bool b
  |int b=>obtain⟨t,rfl⟩:=rx;exact SeqAt.EqAt.none_int b t
  |str b=>obtain⟨t,rfl⟩:=rx;exact SeqAt.EqAt.none_str b t
  |_=>exact absurd (show false=true from fx) cz
 | bl a =>
  cases ry;cases x with
  |non=>cases rx;exact SeqAt.EqAt.bool_none a
  |bl b=>cases rx;exact SeqAt.EqAt.bool_bool a b
  |int b=>obtain⟨t,rfl⟩:=rx;exact SeqAt.EqAt.bool_int a b t
  |str b=>obtain⟨t,rfl⟩:=rx;exact SeqAt.EqAt.bool_str a b t
  |_=>exact absurd (show false=true from fx) cz
 | int a =>
  obtain⟨t',rfl⟩:=ry;cases x with
  |non=>cases rx;exact SeqAt.EqAt.int_none a t'
  |bl b=>cases rx;exact SeqAt.EqAt.int_bool a t' b
  |int b=>obtain⟨t,rfl⟩:=rx;exact SeqAt.EqAt.int_int a t' b t
  |str b=>obtain⟨t,rfl⟩:=rx;exact SeqAt.EqAt.int_str a t' b t
  |_=>exact absurd (show false=true from fx) cz
 | str a =>
  obtain⟨t',rfl⟩:=ry;cases x with
  |non=>cases rx;exact SeqAt.EqAt.str_none a t'
  |bl b=>cases rx;exact SeqAt.EqAt.str_bool a t' b
  |int b=>obtain⟨t,rfl⟩:=rx;exact SeqAt.EqAt.str_int a t' b t
  |str b=>obtain⟨t,rfl⟩:=rx;exact SeqAt.EqAt.str_str a t' b t
  |_=>exact absurd (show false=true from fx) cz
 |_=>exact absurd (show false=true from fy) cz
def eqU(x:V)(u:Value):Bool:=match u with
 |.none=>eqV .non x
 |.bool b=>eqV (.bl b) x
 |.int i _=>eqV (.int i) x
 |.str z _=>eqV (.str z) x
 |_=>false
theorem eqU_of(r:RelV y u)(f:aV4 y=true):eqU x u=eqV y x:=by
 cases y with
 |non=>cases r;rfl
 |bl b=>cases r;rfl
 |int i=>obtain⟨t,rfl⟩:=r;rfl
 |str z=>obtain⟨t,rfl⟩:=r;rfl
 |_=>exact absurd (show false=true from f) cz
theorem aMx(rx:RelV x v)(fx:aV4 x=true):∀ {xs:List V} {us:List Value},Vals xs us->xs.all aV4=true->∀u∈us,SeqAt.EqAt A s u v (eqU x u)
 |_,_,.nil,_=>fun u hu=>by cases hu
 | y::xs,u::us,.cons r t,f=>fun u' hu=>by
  rw[ej,bo] at f;rcases bf.mp hu with rfl |hu
  ·rw[eqU_of r f.1];exact eqAt_V r rx f.1 fx
  ·exact aMx rx fx t f.2 u' hu
theorem aI7:CallR X (.type "list") (fun xs H Q=>∃p ys,xs = [.ref p]/\(SqL X.K H p ys\/SqT X.K H p ys)/\∀l,H l=none->Q (.ref l) (upd H l (.lst ys))):=by
 intro pins s σ H xs us Q I r h;obtain⟨p,ys,rfl,hq,q⟩:=h;obtain⟨u,rfl,rx⟩:=vals1 r;cases rx;have fin:∀ (its:List Value),Vals ys its->ys.length<=sizeLine->∀ (h':Heap) (c':Nat),(∀b o',s.heap.get? b=some o'->h'.get? b=some o') ->
   h'.get? s.heap.objs.size=some { cls:=.type "list",dict:=none,data:=.seq its.toArray c',slots:=#[] }->EP X pins σ Q (.ref s.heap.objs.size) { s with heap:=h' }:=fun its r' hz h' c' kp e =>
  ⟨.ref s.heap.objs.size,_,I.laid (t':=s.toks) kp (ae _) (show aCr X.prog X.w _ h' _ (.lst ys) from ⟨hz,its,c',r',e⟩),rfl,q _ (I.hok.fresh (ae _))⟩
 rcases hq with hq |hq
 ·obtain⟨its,r',pl,hz⟩:=I.list hq;have hlen:=r'.length;obtain⟨o,ho,hc,n,hd⟩:=pl.isList;exact call_list_seq p (.inl rfl) ho hc hd (fun h' c' kp e=>fin its r' hz h' c' kp e) (by simp only[aj]<;>lia)
 ·obtain⟨its,r',pl,hz⟩:=I.tuple hq;have hlen:=r'.length;obtain⟨o,ho,hc,n,hd⟩:=pl;exact call_list_seq p (.inr rfl) ho hc hd (fun h' c' kp e=>fin its r' hz h' c' kp e) (by simp only[aj]<;>lia)
theorem aHo:CallR X (.type "tuple") (fun xs H Q=>∃p ys,xs = [.ref p]/\((SqL X.K H p ys/\∀l,H l=none->Q (.ref l) (upd H l (.tup ys)))\/(SqT X.K H p ys/\Q (.ref p) H))):=by
 intro pins s σ H xs us Q I r h;obtain⟨p,ys,rfl,h⟩:=h;obtain⟨u,rfl,rx⟩:=vals1 r;cases rx;rcases h with ⟨hq,q⟩ |⟨hq,q⟩
 ·obtain⟨its,r',pl,hz⟩:=I.list hq;have hlen:=r'.length;refine call_tuple_list pl.isList (fun h' kp=>?_) (by simp only[aj]<;>lia);have I1:Inv X pins σ H { s with heap:=h' }:=I.kept (t':=s.toks) kp;have I2:Inv X pins σ (upd H h'.objs.size (.tup ys)) { s with heap:=h'.push { cls:=.type "tuple",data:=.seq its.toArray } } :=
   I1.laid (t':=s.toks) (fun b o e=>aa _ e) (ae _) (show aCr X.prog X.w _ _ _ (.tup ys) from ⟨hz,its,r',aEg.new _ _⟩)
  exact⟨.ref h'.objs.size,_,I2,rfl,q _ (I1.hok.fresh (ae _))⟩
 ·obtain⟨its,r',pl,hz⟩:=I.tuple hq;exact call_tuple_same pl ⟨.ref p,H,I,rfl,q⟩
def tyV(K:W.Frag)(T:String)(x:V)(H:Hp):Prop:=match x with
 |.str _=>T = "str"
 |.int _=>T = "int"
 | .ref p=>(T = "list" /\ ∃xs,SqL K H p xs)\/(T = "tuple" /\ ∃o,K.lookup p=some o/\o.cls = .type "tuple" /\ o.dict=none) \/
   (T = "dict" /\ ((∃kvs,H p=some (.dK kvs))\/∃kvs,H p=some (.dT kvs)))\/(T = "set" /\ ∃S n,H p=some (.set S n))
 |_=>False
theorem tyV_is(I:Inv X pins σ H s)(r:RelV x v)(ty:tyV X.K T x H) :
  s.TypeIs v T/\∀a,v = .ref a->∃ob,s.heap.get? a=some ob/\ob.dict=none:=by
 cases x with
 | str z =>
  obtain⟨t,rfl⟩:=r;cases (show T = "str" from ty);exact⟨typeIs_str s z t,fun _ e=>nomatch e⟩
 | int i =>
  obtain⟨t,rfl⟩:=r;cases (show T = "int" from ty);exact⟨typeIs_int s i t,fun _ e=>nomatch e⟩
 | ref p =>
  cases r;rcases ty with ⟨rfl,xs,hq⟩ |⟨rfl,o,hk,hc,hd⟩ |⟨rfl,hk⟩ |⟨rfl,S,n,hk⟩
  ·obtain⟨its,_,pl,_⟩:=I.list hq;refine⟨pl.isList.typeIs,fun a e=>?_⟩;cases e;obtain⟨o,n,e,c,hd,_⟩:=pl;exact⟨o,e,hd⟩
  ·refine⟨⟨o,I.kIn p o hk,hc⟩,fun a e=>?_⟩;cases e;exact⟨o,I.kIn _ o hk,hd⟩
  ·have z:∃o,s.heap.get? p=some o/\o.ExactDict:=by
    rcases hk with ⟨kvs,hk⟩ |⟨kvs,hk⟩
    ·obtain⟨_,_,_,_,o,_,_,e,ex,_⟩:=I.hok p _ hk;exact⟨o,e,ex⟩
    ·obtain⟨_,_,_,_,o,_,_,e,ex,_⟩:=I.hok p _ hk;exact⟨o,e,ex⟩
   obtain⟨o,e,ex⟩:=z;refine⟨⟨o,e,ex.1⟩,fun a e2=>?_⟩;cases e2;exact⟨o,e,ex.2.1⟩
  ·obtain⟨o,_,_,_,e,ex,_⟩:=I.hok p _ hk;refine⟨⟨o,e,ex.1⟩,fun a e2=>?_⟩;cases e2;exact⟨o,e,ex.2.1⟩
 |_=>exact False.elim ty
def tBM(K:W.Frag)(T:String)(r:V->List V->Hp->VK->Prop)(to:TE)(t:TA):TE:=fun σ H Q=>to σ H fun x H1=>tyV K T x H1/\t σ H1 fun xs H2=>r x xs H2 Q
variable {o e:Expr}{es:List Expr}{to:TE}{t:TA}{name:Str}{apos cpos:Pos}{T id:String}{r:V->List V->Hp->VK->Prop}
theorem pe_bm(pa:PlainAttrs T)(slot:Slot T name id)(hty:typeOf (.builtin id)=pure (.type "method_descriptor"))(hm:MtR X id r)(ho:PE X o to)(ha:PA X (e::es) t)
  (hbase:autoParam (attributeBase o name X.env (eval o X.env)=eval o X.env) az0._auto_1)
  (hfew:autoParam (((backTo cpos (starEach (e::es) X.env)).all (fun x=>!x.1)&&(backToKw cpos (keywordEach [] X.env)).all (fun x=>x.1.isSome)
   && decide ((e::es).length+([]:List Keyword).length+(if ([]:List Keyword).isEmpty then 0 else 1)<30))=true) az0._auto_1)
  (hline:autoParam ((apos.endLine==cpos.line)=true) az0._auto_1) (hs:autoParam ZG az0._auto_1) (hplain:autoParam ((backTo cpos (starEach es X.env)).any (·.1)=false) az0._auto_1) :
  PE X (.Call (.Attribute o name apos) (e::es) [] cpos) (tBM X.K T r to t):=by
 intro pins s σ H Q I h;refine wpAny_Call_method_late hbase hfew hline rfl (thn (ho pins s σ H _ I h) fun v s1 ⟨x,H1,I1,r1,ty,q1⟩=>?_);obtain⟨h1,h2⟩:=tyV_is I1 r1 ty;refine⟨T,id,pa,slot,hty,h1,h2,?_⟩;have hA:=ha cpos pins s1 σ H1 _ I1 q1;rw[hs] at hA |-;refine gK (by show (false||(backTo cpos (starEach es X.env)).any (·.1))=false;rw[hplain]<;>rfl) (gU ?_);exact thn hA fun us s2 ⟨vs,H2,I2,r2,q2⟩=>hm pins s2 σ H2 x vs v us Q I2 r1 r2 q2
end
def MtM(X:Cx)(id:String)(r:V->List V->Hp->VK->Prop):Prop :=
 ∀ (pins:List ZH) (s:Shared) (σ:St) (H:Hp) (x:V) (xs:List V) (v:Value) (us:List Value) (Q:VK),Inv X pins σ H s->RelV x v->Vals xs us->r x xs H Q ->
  wpAny ZC X.A (call (.builtin id) (v::us)) (EP X pins σ Q) X.xe s
theorem Vals.one:∀ {x:V} {us:List Value},Vals [x] us->∃u,us = [u]/\RelV x u:=by intro x us h;cases h with |cons r h=>cases h;exact⟨_,rfl,r⟩
theorem Vals.two:∀ {x y:V} {us:List Value},Vals [x,y] us->∃u v,us = [u,v]/\RelV x u/\RelV y v:=by intro x y us h;cases h with |cons r h=>cases h with |cons q h=>cases h;exact⟨_,_,rfl,r,q⟩
theorem Vals.reverse(h:Vals xs us):Vals xs.reverse us.reverse:=by
 induction h with
 |nil=>exact .nil
 |cons r t ih=>rw[iZ,iZ];exact Vals.append ih (.cons r .nil)
theorem Vals.rep(h:Vals xs us):∀k:Nat,Vals (List.replicate k xs).flatten (List.replicate k us).flatten
 |0=>.nil
 |k+1=>by rw[fi,fi,gr,gr];exact Vals.append h (Vals.rep h k)
theorem foldl_rep(its:List Value):∀ (k:Nat) (acc:List Value),
  List.foldl (fun x1 x2=>x1++x2) acc.toArray (List.replicate k its.toArray)=(acc++(List.replicate k its).flatten).toArray
 |0,acc=>by simp
 | k+1,acc=>by
  have e:acc.toArray++its.toArray=(acc++its).toArray:=by simp
  have e2:(acc++its)++(List.replicate k its).flatten=acc++(List.replicate (k+1) its).flatten:=by rw[fi,gr,bv]
  rw[<-e2,<-foldl_rep its k (acc++its),<-e,fi,gM]
section
variable {X:Cx}{pins:List ZH}{σ:St}{H:Hp}{s:Shared}{l b:Addr}{xs ys zs:List V}
theorem Inv.lset{its its':List Value}{n:Nat}{f:Array Value->Array Value}{t':Nat}(I:Inv X pins σ H s)(hH:H l=some (.lst xs))
  (e:s.heap.get? l=some { cls:=.type "list",data:=.seq its.toArray n }) (hf:f its.toArray=its'.toArray) (hv:Vals ys its') (hz:ys.length<=sizeLine) :
  Inv X pins σ (upd H l (.lst ys)) { s with heap:=s.heap.update l (Obj.mapSeq f),toks:=t' }:=by
 have q:=PySem.IsL.update e f;rw[hf] at q;refine I.write (x:=l) (e:=l) (by rw[hH];exact trivial) (.inl rfl) (fun b' u hb hu=>(fw s.heap (Obj.mapSeq f) (Ne.symm hb)).trans hu) ⟨_,q⟩ ?_;exact⟨hz,its',_,hv,q⟩
theorem Inv.lnew{t':Nat}(I:Inv X pins σ H s)(hv:Vals ys its)(hz:ys.length<=sizeLine) :
  Inv X pins σ (upd H s.heap.objs.size (.lst ys)) { s with heap:=s.heap.push { cls:=.type "list",data:=.seq its.toArray },toks:=t' } :=
 I.laid (fun _ _ q=>aa _ q) (ae _) ⟨hz,its,0,hv,au _ rfl⟩
theorem Inv.fresh(I:Inv X pins σ H s):H s.heap.objs.size=none:=I.hok.fresh (ae _)
theorem Inv.lstM(I:Inv X pins σ H s)(hH:H l=some (.lst xs)):xs.length<=sizeLine/\∃ (its:List Value) (n:Nat),Vals xs its/\xs.length=its.length/\s.heap.get? l=some { cls:=.type "list",data:=.seq its.toArray n }:=by obtain⟨z,its,n,r,e⟩:=I.hok l _ hH;exact⟨z,its,n,r,r.length,e⟩
theorem aW3{n:Nat}(h:n<=sizeLine):Builtin.List.listTooLong n=false:=by unfold Builtin.List.listTooLong;exact decide_eq_false ZB
end
section
variable {X:Cx}
def rAppend:V->List V->Hp->VK->Prop:=fun x vs H Q=>∃l xs y,x = .ref l/\vs = [y]/\H l=some (.lst xs)/\xs.length<sizeLine/\Q .non (upd H l (.lst (xs ++ [y])))
theorem aSz:MtM X "list.append" rAppend:=by intro pins s σ H x vs v us Q I rx rv h;obtain⟨l,xs,y,rfl,rfl,hH,hz,q⟩:=h;cases rx;obtain⟨u,rfl,ru⟩:=rv.one;obtain⟨z,its,n,r,hl,e⟩:=I.lstM hH;refine call_meets F.slot_list_append ⟨_,e,rfl⟩ F.entry_list_append (F.args_list_append_2 _ _) (PySem.list_append l its.toArray n u (by rw[aj];lia)) ⟨e,?_⟩;refine⟨.non,_,I.lset (its':=its ++ [u]) hH e ZR (r.append (.cons ru .nil)) ?_,rfl,q⟩;rw[bp,iG];lia
def rRep:R2:=fun x y H Q=>∃l k xs,x = .ref l/\y = .int k/\H l=some (.lst xs) /\ -(2^63)<=k/\k<2^63/\xs.length*k.toNat<=sizeLine /\
 ∀p,H p=none->Q (.ref p) (upd H p (.lst (List.replicate k.toNat xs).flatten))
theorem len_rep{α:Type}(xs:List α)(k:Nat):(List.replicate k xs).flatten.length=k*xs.length:=by
 induction k with
 |zero=>simp
 |succ k ih=>rw[fi,gr,bp,ih,iy,Nat.add_comm]
theorem op_rep:OpR X (binaryOp .Mult) rRep:=by
 intro pins s σ H x y v u Q I rx ry h;obtain⟨l,k,xs,rfl,rfl,hH,h1,h2,hz,q⟩:=h;cases rx;obtain⟨t,rfl⟩:=ry;obtain⟨z,its,n,r,hl,e⟩:=I.lstM hH;have hlen:its.toArray.size*k.toNat<=sizeLine:=by rw[aj,<-hl];exact hz
 have hcap:¬its.toArray.size*k.toNat > (2^63 - 1) / 8:=by
  have:(sizeLine:Nat)<=(2^63 - 1) / 8:=by decide
  lia
 have hfit:¬ (!Builtin.List.listFitsIndex k)=true:=by rw[fitsIndex_both h1 h2];exact cz
 have hlong:¬Builtin.List.listTooLong (its.toArray.size*k.toNat)=true:=by rw[aW3 hlen];exact cz
 have hnew:List.foldl (fun x1 x2=>x1++x2) #[] (List.replicate (if its.toArray.isEmpty=true then 0 else k.toNat) its.toArray)=(List.replicate k.toNat its).flatten.toArray:=by
  have f0:∀m:Nat,List.foldl (fun x1 x2=>x1++x2) #[] (List.replicate m its.toArray)=(List.replicate m its).flatten.toArray:=fun m=>by have:=foldl_rep its m [];rw[gc] at this;exact this
  rw[f0];cases its with
  |nil=>simp
  |cons a r'=>rw[if_neg ZR]
 refine wpAny_binaryOp_repeat_ref (T:="list") (U:="int") ZA ⟨_,e,rfl⟩ (fun s'=>typeIs_int s' k t) noFill_list_mul F.fills_int_mul F.slot_int_rmul repeat_list F.slot_int_index.lookup
  (call_meets F.slot_int_rmul (typeIs_int s k t) F.entry_int_rmul (F.args_int_rmul_2 _ _) (int___rmul___int_list k t l its.toArray n)
   ⟨e,rfl,⟨_,e,rfl⟩,call_meets F.slot_list_mul ⟨_,e,rfl⟩ F.entry_list_mul (F.args_list_mul_2 _ _) (AutoListH.list___mul___list_int_3 l its.toArray n k t hfit hcap hlong) ⟨e,?_⟩⟩)
 rw[hnew];exact⟨.ref _,_,I.lnew (t':=s.toks) (r.rep k.toNat) (by rw[len_rep,iV];exact hz),rfl,q _ I.fresh⟩
end
section
variable {prog:Program}{w:World}{A:Around}{E:Value->Shared->Prop}{s:Shared}
set_option maxRecDepth 100000 in
end
section
variable {κ:Type}[DecidableEq κ]
def valV(kvs:List (κ × V))(k:κ):Option V:=(kvs.find? fun kv=>decide (kv.1=k)).map (·.2)
def putK(kvs:List (κ × V))(k:κ)(v:V):List (κ × V) :=
 if (kvs.any fun kv=>decide (kv.1=k))=true then kvs.map (fun kv=>if kv.1=k then (kv.1,v) else kv) else kvs ++ [(k,v)]
theorem aJs{p:κ × V}{r:List (κ × V)}{k:κ}(e:p.1=k):valV (p::r) k=some p.2:=by simp[valV,ez,e]
theorem aJp{p:κ × V}{r:List (κ × V)}{k:κ}(e:¬p.1=k):valV (p::r) k=valV r k:=by simp[valV,ez,e]
theorem aW1(k:κ):∀kvs:List (κ × V),(kvs.any fun kv=>decide (kv.1=k))=(valV kvs k).isSome
 |[]=>rfl
 | p::r=>by
  rw[i9];by_cases e:p.1=k
  ·simp only[aJs e,decide_eq_true e,Bool.true_or,Option.isSome_some]
  ·rw[aJp e,decide_eq_false e,Bool.false_or];exact aW1 k r
theorem aG1(kvs:List (κ × V))(k:κ)(v:V):(putK kvs k v).length<=kvs.length+1:=by
 unfold putK;split
 ·rw[ak];lia
 ·rw[bp,ah,iD];lia
theorem RelO.isSome_eq(r:RelO o u):o.isSome=u.isSome:=by
 cases o with
 | none=>cases u with
  |none=>rfl
  |some _=>exact(show False from r).elim
 | some _=>cases u with
  |none=>exact(show False from r).elim
  |some _=>rfl
theorem RelO.getD(r:RelO o u)(rd:RelV d d'):RelV (o.getD d) (u.getD d'):=by
 cases o with
 | none=>cases u with
  |none=>exact rd
  |some _=>exact(show False from r).elim
 | some _=>cases u with
  |none=>exact(show False from r).elim
  |some _=>exact r
theorem KV.val(r:KV kvs vs)(k:κ):RelO (valV kvs k) (valueAt vs k):=by
 unfold KV at r
 induction r with
 |nil=>exact True.intro
 | @cons p q ps qs h t ih =>
  obtain⟨h1,h2⟩:=h;by_cases e:p.1=k
  ·have e':q.1=k:=h1.symm.trans e;have b:valueAt (q::qs) k=some q.2:=by simp[valueAt,ez,e']
   rw[aJs e,b];exact h2
  ·have e':¬q.1=k:=fun z=>e (h1.trans z);have b:valueAt (q::qs) k=valueAt qs k:=by simp[valueAt,ez,e']
   rw[aJp e,b];exact ih
theorem KV.any(r:KV kvs vs)(k:κ):(kvs.any fun kv=>decide (kv.1=k))=vs.any fun kv=>decide (kv.1=k):=by
 unfold KV at r
 induction r with
 |nil=>rfl
 |cons h t ih=>rw[i9,i9,ih,h.1]
theorem KV.repl(r:KV kvs vs)(k:κ)(ry:RelV y u) :
  KV (kvs.map fun kv=>if kv.1=k then (kv.1,y) else kv) (vs.map fun kv=>if kv.1=k then (kv.1,u) else kv):=by
 unfold KV at r |-
 induction r with
 |nil=>exact .nil
 | @cons p q ps qs h t ih =>
  rw[af,af];refine .cons ?_ ih;obtain⟨h1,h2⟩:=h;by_cases e:p.1=k
  ·rw[if_pos e,if_pos (h1.symm.trans e)];exact⟨h1,ry⟩
  ·rw[if_neg e,if_neg (fun z=>e (h1.trans z))];exact⟨h1,h2⟩
theorem KV.put(r:KV kvs vs)(k:κ)(ry:RelV y u):KV (putK kvs k y) (stored vs k u):=by
 unfold putK stored;rw[r.any k];by_cases e:(vs.any fun kv=>decide (kv.1=k))=true
 ·rw[if_pos e,if_pos e];exact r.repl k ry
 ·rw[if_neg e,if_neg e];exact Paired.snoc r ⟨rfl,ry⟩
theorem KV.length{kvs:List (κ × V)}{vs:List (κ × Value)}(r:KV kvs vs):kvs.length=vs.length:=Paired.length r
end
theorem aYb(r:RelV (kV k) u):(aA6 P w).is k u=true:=by
 cases k with
 |inl i=>obtain⟨t,e⟩:=(show ∃t,u=Value.int i t from r);subst e;exact aVj P w i t
 |inr x=>obtain⟨t,e⟩:=(show ∃t,u=Value.str x t from r);subst e;exact aVi P w x t
theorem aSu:∀ {ks:List Key} {us:List Value},Vals (ks.map kV) us->ItemsAre (aA6 P w) ks us
 |[],_,r=>by rw[gq] at r;cases r;exact .nil
 | k::ks,_,r=>by
  rw[af] at r;cases r with
  |cons h t=>exact .cons (aYb h) (aSu t)
abbrev KT(H:Hp):List (List Key × V)->List (List Key × Addr × Value)->Prop:=Paired fun p q=>p.1=q.1/\H q.2.1=some (.tup (p.1.map kV))/\RelV p.2 q.2.2
theorem KT.val(r:KT H kvs xs)(k:List Key):RelO (valV kvs k) ((atKey xs k).map (·.2)):=by
 induction r with
 |nil=>exact True.intro
 | @cons p q ps qs h t ih =>
  obtain⟨h1,_,h2⟩:=h;by_cases e:p.1=k
  ·have e':q.1=k:=h1.symm.trans e;have b:atKey (q::qs) k=some q.2:=by simp[atKey,ez,e']
   rw[aJs e,b];exact h2
  ·have e':¬q.1=k:=fun z=>e (h1.trans z);have b:atKey (q::qs) k=atKey qs k:=by simp[atKey,ez,e']
   rw[aJp e,b];exact ih
theorem KT.repl(r:KT H kvs xs)(k:List Key)(ry:RelV y u) :
  KT H (kvs.map fun kv=>if kv.1=k then (kv.1,y) else kv) (xs.map (putAt k u)):=by
 induction r with
 |nil=>exact .nil
 | @cons p q ps qs h t ih =>
  rw[af,af];refine .cons ?_ ih;obtain⟨h1,h2,h3⟩:=h;unfold putAt;by_cases e:p.1=k
  ·rw[if_pos e,if_pos (h1.symm.trans e)];exact⟨h1,h2,ry⟩
  ·rw[if_neg e,if_neg (fun z=>e (h1.trans z))];exact⟨h1,h2,h3⟩
theorem KT.put(r:KT H kvs xs)(k:List Key)(hb:H b=some (.tup (k.map kV)))(ry:RelV y u) :
  KT H (putK kvs k y) (storedH xs k b u):=by
 have e:(kvs.any fun kv=>decide (kv.1=k))=(atKey xs k).isSome:=by rw[aW1,(r.val k).isSome_eq,Option.isSome_map]
 unfold putK storedH;rw[e];by_cases q:(atKey xs k).isSome=true
 ·rw[if_pos q,if_pos q];exact r.repl k ry
 ·rw[if_neg q,if_neg q];exact Paired.snoc r ⟨rfl,hb,ry⟩
theorem KT.keeps(r:KT H kvs xs)(ht:∀b ys,H b=some (.tup ys)->H' b=some (.tup ys)):KT H' kvs xs :=
 Paired.mapP r fun _ _ z=>⟨z.1,ht _ _ z.2.1,z.2.2⟩
section
variable {P:Program}{w:World}{H:Hp}{h:Heap}{a:Addr}
theorem rd_of(ok:HOk P w H h)(e:Rd H a u):aCr P w H h a u:=e.ok ok
theorem aFt(ok:HOk P w H h)(e:Rd H a (.dK kvs)):kvs.length<=sizeLine/\(a==sysModules)=false/\∃vs,KV kvs vs/\h.DictOf (aA6 P w) a vs :=
 show aCr P w H h a (.dK kvs) from rd_of ok e
theorem dk_of(ok:HOk P w H h)(e:H a=some (.dK kvs)):kvs.length<=sizeLine/\(a==sysModules)=false/\∃vs,KV kvs vs/\h.DictOf (aA6 P w) a vs:=aFt ok (.inl e)
theorem aW0(ok:HOk P w H h)(e:H a=some (.tup (ks.map kV))):(tupleKind (aA6 P w)).is h ks a:=by
 obtain⟨_,its,r,o,h1,h2,_,n,h3⟩:=(show aCr P w H h a (.tup (ks.map kV)) from ok a _ e)
 exact⟨o,its.toArray,n,h1,h2,h3,by simpa using aSu r⟩
theorem aZj(ok:HOk P w H h)(e:Rd H a (.dT kvs)):kvs.length<=sizeLine/\(a==sysModules)=false /\
  ∃xs,KT H kvs xs/\h.DictOfH (tupleKind (aA6 P w)) a xs:=by
 obtain⟨z,y,xs,r,o,es,ep,h1,h2,h3,h4,h5⟩:=(show aCr P w H h a (.dT kvs) from rd_of ok e)
 refine⟨z,y,xs,r,o,es,ep,h1,h2,h3,h4,fun x hx=>?_,h5⟩;have all:∀ {l:List (List Key × V)} {m:List (List Key × Addr × Value)},KT H l m->∀x∈m,(tupleKind (aA6 P w)).is h x.1 x.2.1:=by
  intro l m q
  induction q with
  |nil=>intro x hx;exact nomatch hx
  | @cons p q ps qs hq t ih =>
   intro x hx;rcases bf.mp hx with e |hx
   ·subst e;exact aW0 ok (by rw[<-hq.1];exact hq.2.1)
   ·exact ih x hx
 exact all r x hx
theorem dt_of(ok:HOk P w H h)(e:H a=some (.dT kvs)):kvs.length<=sizeLine/\(a==sysModules)=false /\
  ∃xs,KT H kvs xs/\h.DictOfH (tupleKind (aA6 P w)) a xs:=aZj ok (.inl e)
end
def DGet(H:Hp)(a:Addr)(y:V)(r:Option V):Prop :=
 (∃kvs k,Rd H a (.dK kvs)/\y=kV k/\r=valV kvs k)\/∃kvs k b,Rd H a (.dT kvs)/\y = .ref b/\H b=some (.tup (k.map kV))/\r=valV kvs k
def DPut(H:Hp)(a:Addr)(y v:V)(H':Hp):Prop :=
 (∃kvs k,H a=some (.dK kvs)/\y=kV k/\kvs.length<sizeLine/\H'=upd H a (.dK (putK kvs k v))) \/
 ∃kvs k b,H a=some (.dT kvs)/\y = .ref b/\H b=some (.tup (k.map kV))/\kvs.length<sizeLine/\H'=upd H a (.dT (putK kvs k v))
theorem DPut.k{k:Key}(e:H a=some (.dK kvs))(hl:kvs.length<sizeLine):DPut H a (kV k) v (upd H a (.dK (putK kvs k v))):=.inl ⟨kvs,k,e,rfl,hl,rfl⟩
section
variable {X:Cx}{pins:List ZH}{σ:St}{H:Hp}{s:Shared}{a:Addr}{y v:V}{u r:Value}{o:Option V}{A:Around}{E:Value->Shared->Prop}
theorem Inv.big(I:Inv X pins σ H s):sysModules<s.heap.objs.size:=by have h:mainGlobals<s.heap.objs.size:=(I.mod.glob.keeps I.bk).lt;exact jR ZA h
theorem aZ5(hu:A.units+1<cLine)(I:Inv X pins σ H s)(g:DGet H a y (some v))(ry:RelV y u)(h:∀w' s',Inv X pins σ H s'->RelV v w'->Q w' s') :
  wpAny ZC A (getItem (.ref a) u) Q E s:=by
 rcases g with ⟨kvs,k,e,ey,l⟩ |⟨kvs,k,b,e,ey,eb,l⟩
 ·subst ey;obtain⟨z,hd,vs,rel,dd⟩:=aFt I.hok e;obtain⟨w',hw,rw'⟩:=RelO.some_of (v:=v) (o:=valueAt vs k) (by rw[l];exact rel.val k);exact wpAny_getItem_of (aYb ry) dd.mapOf hw (h w' _ (I.tok _) rw')
 ·subst ey;cases (show u=Value.ref b from ry);obtain⟨z,hd,xs,rel,dd⟩:=aZj I.hok e;obtain⟨w',hw,rw'⟩:=RelO.some_of (v:=v) (o:=(atKey xs k).map (·.2)) (by rw[l];exact rel.val k);obtain⟨p,hp,hp2⟩:=Option.map_eq_some_iff.mp hw;refine wpAny_getItem_heap (tupleKind_room_in1 hu) (aW0 I.hok eb) dd hp ?_;rw[hp2];exact h w' _ (I.tok _) rw'
theorem aU9{t':Nat}(I:Inv X pins σ H s)(mu:Mut (H a))(hs:Heap.SameBut a s.heap h')(he:∃q,h'.get? a=some q)(new:aCr X.prog X.w (upd H a ob) h' a ob) :
  Inv X pins σ (upd H a ob) { s with heap:=h',toks:=t' } :=
 I.write (x:=a) (e:=a) mu (.inl rfl) (fun b q hb z=>(hs.2 b hb).trans z) he new
theorem aWv(z:kvs.length<=sizeLine)(hd:(a==sysModules)=false)(rel:KV kvs vs)(dd:h'.DictOf (aA6 P w) a vs) :
  aCr P w H' h' a (.dK kvs):=⟨z,hd,vs,rel,dd⟩
theorem bAe(hu:A.units+1<cLine)(I:Inv X pins σ H s)(g:DPut H a y v H')(ry:RelV y u)(rv:RelV v r)(h:∀s',Inv X pins σ H' s'->Q () s') :
  wpAny ZC A (setItem (.ref a) u r) Q E s:=by
 rcases g with ⟨kvs,k,e,ey,l,eH⟩ |⟨kvs,k,b,e,ey,eb,l,eH⟩
 ·subst ey eH;obtain⟨z,hd,vs,rel,dd⟩:=dk_of I.hok e;have hz:vs.length<=sizeLine:=by rw[<-rel.length];exact z
  have hl:(putK kvs k v).length<=sizeLine:=by have:=aG1 kvs k v;lia
  refine wpAny_setItem_pairs (hsz:=hz) (aYb ry) dd fun h' dd' hs=>h _ ?_;have he:∃q,h'.get? a=some q:=let ⟨q,_,_,hq,_⟩:=dd';⟨q,hq⟩
  exact aU9 I (by rw[e];exact True.intro) hs he (aWv hl hd (rel.put k rv) dd')
 ·subst ey eH;cases (show u=Value.ref b from ry);obtain⟨z,hd,xs,rel,dd⟩:=dt_of I.hok e;have hz:xs.length<=sizeLine:=by rw[<-Paired.length rel];exact z
  have hl:(putK kvs k v).length<=sizeLine:=by have:=aG1 kvs k v;lia
  refine wpAny_setItem_heap (hsz:=hz) (tupleKind_room_in1 hu) (aW0 I.hok eb) dd fun h' dd' hs=>h _ ?_;obtain⟨q,es,ep,hq,h2,h3,h4,_,h5⟩:=dd';refine aU9 I (by rw[e];exact True.intro) hs ⟨q,hq⟩ ⟨hl,hd,_,(rel.put k eb rv).keeps fun c ys ec=>?_,q,es,ep,hq,h2,h3,h4,h5⟩;rw[aAn (aDb ec e (fun z=>nomatch z))];exact ec
end
section
variable {X:Cx}{pins:List ZH}{σ:St}{H:Hp}{s:Shared}{a:Addr}{kvs:List (Key × V)}{k:Key}{u:Value}{A:Around}{E:Value->Shared->Prop}
theorem d_len(I:Inv X pins σ H s)(e:Rd H a (.dK kvs))(h:∀t s',Inv X pins σ H s'->Q (.int kvs.length t) s'):wpAny ZC A (call (.builtin "len") [.ref a]) Q E s:=by obtain⟨z,hd,vs,rel,dd⟩:=aFt I.hok e;refine call_len_dict hd dd (by rw[<-rel.length];rw[sizeLine_eq] at z;lia) ?_;rw[<-rel.length];exact h _ _ (I.tok _)
theorem d_truth{Q:Bool->Shared->Prop}(I:Inv X pins σ H s)(e:Rd H a (.dK kvs))(h:∀s',Inv X pins σ H s'->Q (!kvs.isEmpty) s'):wpAny ZC A (truthy (.ref a)) Q E s:=by
 obtain⟨z,hd,vs,rel,dd⟩:=aFt I.hok e;refine wpAny_truthy_dict hd dd (by rw[<-rel.length];rw[sizeLine_eq] at z;lia) ?_;have q:kvs.isEmpty=vs.isEmpty:=by cases rel<;>rfl
 rw[<-q];exact h _ (I.tok _)
end
theorem aVo(I:Inv X pins σ H s)(g:DGet H a y o):s.TypeIs (.ref a) "dict":=by
 rcases g with ⟨kvs,k,e,_,_⟩ |⟨kvs,k,b,e,_,_,_⟩
 ·obtain⟨_,_,vs,_,dd⟩:=aFt I.hok e;exact dd.typeIs
 ·obtain⟨_,_,xs,_,dd⟩:=aZj I.hok e;exact dd.typeIs
theorem aWt(h:Heap)(hb:sysModules<h.objs.size):aCr P w H (h.push { cls:=.type "dict",data:=.dict #[] }) h.objs.size (.dK []) :=
 ⟨gn _,beq_eq_false_iff_ne.mpr (Ne.symm (az hb)),[],.nil,Heap.DictOf.new h⟩
def tDNewK:TE:=fun _ H Q=>∀p,H p=none->Q (.ref p) (upd H p (.dK []))
section
variable {X:Cx}{pos:Pos}
theorem pe_dnewK:PE X (.Dict [] [] pos) tDNewK:=fun pins s σ H Q I h =>
 wpAny_Dict_empty ⟨.ref s.heap.objs.size,_,I.laid (a:=s.heap.objs.size) (o:=.dK []) (t':=s.toks) (fun _ _ q=>aa _ q) (ae _) (aWt s.heap I.big),rfl,h _ (I.hok.fresh (ae _))⟩
end
def bB1:List (TE × TE)->St->Hp->(List (V × V)->Hp->Prop)->Prop
 |[],_,H,Q=>Q [] H
 |(tk,tv)::r,σ,H,Q=>tk σ H fun x H1=>tv σ H1 fun y H2=>bB1 r σ H2 fun ps H3=>Q ((x,y)::ps) H3
abbrev VV:List (V × V)->List (Value × Value)->Prop:=Paired fun p q=>RelV p.1 q.1/\RelV p.2 q.2
def PPs(X:Cx)(pos:Pos)(keys:List (Option Expr))(values:List Expr)(trs:List (TE × TE)):Prop :=
 ∀ (pins:List ZH) (s:Shared) (σ:St) (H:Hp) (Q:List (V × V)->Hp->Prop),Inv X pins σ H s->bB1 trs σ H Q ->
  wpAny ZC X.A (evalPairs (pairTrees keys values X.env pos)) (fun vs s'=>∃ps H',Inv X pins σ H' s'/\VV ps vs/\Q ps H') X.xe s
theorem pps_nil:PPs X pos [] [] []:=fun pins s σ H Q I h=>pairTrees_nil_walk ⟨[],H,I,.nil,h⟩
theorem pps_cons(hk:PE X k tk)(hv:PE X v tv)(hr:PPs X pos ks vs trs) :
  PPs X pos (some k::ks) (v::vs) ((tk,tv)::trs):=fun pins s σ H Q I h =>
 pairTrees_cons_walk (thn (hk pins s σ H _ I h) fun u s1 ⟨x,H1,I1,rx,q1⟩=>thn (hv pins s1 σ H1 _ I1 q1) fun w2 s2 ⟨y,H2,I2,ry,q2⟩ =>
  thn (hr pins s2 σ H2 _ I2 q2) fun ws s3 ⟨ps,H3,I3,rel,q3⟩=>⟨(x,y)::ps,H3,I3,.cons ⟨rx,ry⟩ rel,q3⟩)
def aL8(kvs more:List (Key × V)):List (Key × V):=more.foldl (fun acc kv=>putK acc kv.1 kv.2) kvs
theorem KV.merge:∀ {more:List (Key × V)} {rs:List (Key × Value)} {kvs:List (Key × V)} {vs:List (Key × Value)},KV more rs->KV kvs vs->KV (aL8 kvs more) (merged vs rs):=by
 intro more rs kvs vs r;unfold KV at r
 induction r generalizing kvs vs with
 |nil=>intro q;exact q
 | @cons p q ps qs h t ih =>
  intro r0;have e:KV (putK kvs p.1 p.2) (stored vs q.1 q.2):=by have:=r0.put p.1 h.2;rw[<-h.1];exact this
  exact ih e
theorem aHh:∀ (more kvs:List (Key × V)),(aL8 kvs more).length<=kvs.length+more.length
 |[],kvs=>by show kvs.length<=kvs.length+0;lia
 |p::r,kvs=>by have h1:=aHh r (putK kvs p.1 p.2);have h2:=aG1 kvs p.1 p.2;show (aL8 (putK kvs p.1 p.2) r).length<=_;rw[ah];lia
theorem aLt:∀ {kvs:List (Key × V)} {ws:List (Value × Value)},VV (kvs.map fun kv=>(kV kv.1,kv.2)) ws->∃rs,Carries (aA6 P w) ws rs/\KV kvs rs
 |[],_,r=>by rw[gq] at r;cases r;exact⟨[],True.intro,.nil⟩
 | p::kvs,_,r=>by
  rw[af] at r;cases r with
  | @cons a b as bs h t =>
   obtain⟨rs,c,q⟩:=aLt (P:=P) (w:=w) t;obtain⟨b1,b2⟩:=b;exact⟨(p.1,b2)::rs,⟨aYb h.1,rfl,c⟩,.cons ⟨rfl,h.2⟩ q⟩
def tDisp(trs:List (TE × TE)):TE:=fun σ H Q=>∀p,H p=none->bB1 trs σ (upd H p (.dK [])) fun ps H2=>H2 p=some (.dK [])/\∃kvs:List (Key × V),ps=kvs.map (fun kv=>(kV kv.1,kv.2))/\kvs.length<=15/\Q (.ref p) (upd H2 p (.dK (aL8 [] kvs)))
theorem pe_disp(h:PPs X pos keys values trs)(hall:keys.all (·.isSome)=true)(hl:keys.length=values.length)(h0:keys ≠ [])
  (h15:keys.length<=15):PE X (.Dict keys values pos) (tDisp trs):=by
 intro pins s σ H Q I q;have hn:=I.hok.fresh (ae s.heap.objs.size);have I1:=I.laid (a:=s.heap.objs.size) (o:=.dK []) (h':=s.heap.push { cls:=.type "dict",data:=.dict #[] }) (t':=s.toks) (fun _ _ q=>aa _ q) (ae _) (aWt s.heap I.big);refine wpAny_Dict_walk (knd:=aA6 X.prog X.w) hall hl h0 h15 (thn (h pins _ σ _ _ I1 (q _ hn)) fun ws s2 ⟨ps,H2,I2,rel,e,kvs,ep,lk,q2⟩=>?_);subst ep;obtain⟨rs,c,rk⟩:=aLt (P:=X.prog) (w:=X.w) rel;obtain⟨z,hd,vs0,r0,dd⟩:=dk_of I2.hok e;cases r0;refine⟨rs,c,dd,fun h' dd' hs=>⟨.ref s.heap.objs.size,_,?_,rfl,q2⟩⟩;have hz:(aL8 [] kvs).length<=sizeLine:=by have h1:=aHh kvs [];rw[iD] at h1;rw[sizeLine_eq];lia
 have he:∃q,h'.get? s.heap.objs.size=some q:=let ⟨q,_,_,hq,_⟩:=dd';⟨q,hq⟩
 exact aU9 I2 (by rw[e];exact True.intro) hs he (aWv hz hd (rk.merge .nil) dd')
structure M1 (X:Cx) (o:Expr) (m:Str) (apos:Pos) (e:Expr) (cpos:Pos):Prop where
 base:attributeBase o m X.env (eval o X.env)=eval o X.env
 few:((backTo cpos (starEach [e] X.env)).all (fun x=>!x.1)&&(backToKw cpos (keywordEach [] X.env)).all (fun x=>x.1.isSome)
  && decide (([e]:List Expr).length+([]:List Keyword).length+(if ([]:List Keyword).isEmpty then 0 else 1)<30))=true
 line:(apos.endLine==cpos.line)=true
 trees:backTo cpos (starEach [e] X.env) = [(false,eval e X.env)]
structure M2 (X:Cx) (o:Expr) (m:Str) (apos:Pos) (e f:Expr) (cpos:Pos):Prop where
 base:attributeBase o m X.env (eval o X.env)=eval o X.env
 few:((backTo cpos (starEach [e,f] X.env)).all (fun x=>!x.1)&&(backToKw cpos (keywordEach [] X.env)).all (fun x=>x.1.isSome)
  && decide (([e,f]:List Expr).length+([]:List Keyword).length+(if ([]:List Keyword).isEmpty then 0 else 1)<30))=true
 line:(apos.endLine==cpos.line)=true
 trees:backTo cpos (starEach [e,f] X.env) = [(false,eval e X.env),(false,eval f X.env)]
def IsD(H:Hp)(a:Addr):Prop:=(∃kvs,Rd H a (.dK kvs))\/∃kvs,Rd H a (.dT kvs)
theorem isD_at(I:Inv X pins σ H s)(d:IsD H a) :
  s.TypeIs (.ref a) "dict" /\ (∀b,Value.ref a = .ref b->∃ob,s.heap.get? b=some ob/\ob.dict=none)/\(a==sysModules)=false:=by
 rcases d with ⟨kvs,e⟩ |⟨kvs,e⟩
 ·obtain⟨_,hd,vs,_,dd⟩:=aFt I.hok e;refine⟨dd.typeIs,fun b q=>?_,hd⟩;cases q;obtain⟨ob,_,_,h1,h2,_⟩:=dd;exact⟨ob,h1,h2.2.1⟩
 ·obtain⟨_,hd,xs,_,dd⟩:=aZj I.hok e;refine⟨dd.typeIs,fun b q=>?_,hd⟩;cases q;obtain⟨ob,_,_,h1,h2,_⟩:=dd;exact⟨ob,h1,h2.2.1⟩
section
variable {X:Cx}{pins:List ZH}{σ:St}{H:Hp}{s:Shared}{a:Addr}{y d:V}{u r:Value}{o:Option V}{A:Around}{E:Value->Shared->Prop}
theorem d_get2(hu:A.units+1<cLine)(I:Inv X pins σ H s)(g:DGet H a y o)(ry:RelV y u)(rd:RelV d r)(h:∀w' s',Inv X pins σ H s'->RelV (o.getD d) w'->Q w' s') :
  wpAny ZC A (call (.builtin "dict.get") [.ref a,u,r]) Q E s:=by
 rcases g with ⟨kvs,k,e,ey,l⟩ |⟨kvs,k,b,e,ey,eb,l⟩
 ·subst ey;obtain⟨z,hd,vs,rel,dd⟩:=aFt I.hok e;refine call_meetsIn PySem.F.slot_dict_get dd.typeIs PySem.F.entry_dict_get (PySem.F.args_dict_get_3 _ _ _) (meets_dict_get_default (aA6 X.prog X.w) a (aYb ry) hd r) ⟨_,dd.mapOf,h _ _ (I.tok _) ?_⟩;rw[l];exact(rel.val k).getD rd
 ·subst ey;cases (show u=Value.ref b from ry);obtain⟨z,hd,xs,rel,dd⟩:=aZj I.hok e;refine call_meetsIn PySem.F.slot_dict_get dd.typeIs PySem.F.entry_dict_get (PySem.F.args_dict_get_3 _ _ _) (meetsH_dict_get_default (tupleKind (aA6 X.prog X.w)) a b hd r) ⟨tupleKind_room_in1 hu,k,xs,aW0 I.hok eb,dd,h _ _ (I.tok _) ?_⟩;rw[l];exact(rel.val k).getD rd
end
def tDGet2(td ty tx:TE):TE:=fun σ H Q=>td σ H fun x H1=>∃a,x = .ref a/\IsD H1 a/\ty σ H1 fun y H2=>tx σ H2 fun z H3=>∃o,DGet H3 a y o/\Q (o.getD z) H3
section
variable {X:Cx}{o e f:Expr}{apos cpos:Pos}{td ty tx:TE}
theorem pe_dget2(hu:X.A.units+1<cLine)(ho:PE X o td)(he:PE X e ty)(hf:PE X f tx)(m:M2 X o "get" apos e f cpos):PE X (.Call (.Attribute o "get" apos) [e,f] [] cpos) (tDGet2 td ty tx):=by
 intro pins s σ H Q I h;refine wpAny_Call_method m.base m.few m.line PySem.F.plainAttrs_dict PySem.F.slot_dict_get PySem.F.type_dict_get (thn (ho pins s σ H _ I h) fun u s1 ⟨x,H1,I1,rx,a,ex,d,q1⟩=>?_);subst ex;obtain rfl:u=Value.ref a:=rx;obtain⟨t1,t2,_⟩:=isD_at I1 d;refine⟨t1,t2,?_⟩;rw[m.trees]
 refine gK rfl (gU (br (thn (he pins s1 σ H1 _ I1 q1) fun iv s2 ⟨y,H2,I2,ry,q2⟩ =>
  br (thn (hf pins s2 σ H2 _ I2 q2) fun fv s3 ⟨z,H3,I3,rz,ov,g,q3⟩=>dq ?_))))
 exact d_get2 hu I3 g ry rz fun w' s4 I4 rw'=>⟨_,H3,I4,rw',q3⟩
end
section
variable {X:Cx}{pins:List ZH}{σ:St}{H:Hp}{s:Shared}{a:Addr}{kvs:List (Key × V)}{A:Around}{E:Value->Shared->Prop}
theorem d_copyOf(I:Inv X pins σ H s)(e:Rd H a (.dK kvs))(h:∀p s',H p=none->Inv X pins σ (upd H p (.dK kvs)) s'->Q (.ref p) s'):wpAny ZC A (call (.type "dict") [.ref a]) Q E s:=by obtain⟨z,hd,vs,rel,dd⟩:=aFt I.hok e;refine kt_call_dict hd dd (by rw[<-rel.length];exact z) fun h' dd' hs=>?_;refine h _ _ (I.hok.fresh (ae _)) (I.laid (a:=s.heap.objs.size) (o:=.dK kvs) (t':=s.toks) (fun b q hq=>?_) (ae _) (aWv z (beq_eq_false_iff_ne.mpr (Ne.symm (az I.big))) rel dd'));exact(hs.2 b (az (ai hq))).trans (aa _ hq)
end
end L2
namespace Att
open PySem PySem.W PySem.Calls PyProof.Rows
theorem aK7:∀ (ns:List Int) (vs:List Value),WellAll P h vs (ns.map WData.int)->IntsAre vs ns:=by
 intro ns
 induction ns with
 | nil =>
  intro vs w;rw[gq] at w;cases w;exact .nil
 | cons n ns ih =>
  intro vs w;rw[af] at w;cases w with
  | cons a b =>
   cases a;exact .cons _ _ (ih _ b)
theorem aZ8{l:OpenLaw}{n:Nat}(hn:l.most=some n){P:Params}{args:List WData}
  (hpre:l.row.toRowW.claim.pre args=true) (hwl:WellAll P h vals args) :
  ∃a vs ns,vals = [Value.ref a]/\args = [WData.list (ns.map WData.int)]/\h.get? a=some { cls:=.type "list",data:=.seq vs.toArray }/\IntsAre vs ns/\ns.length<=n:=by
 have hsh:WShape.hasAll [] args [.list .int]=true:=(pre_splitW hpre).1;have hc:l.pre.holds [] { args:=args }=true:=(pre_splitW hpre).2;obtain⟨d,r,rfl,h1,h2⟩:=hasAllW_cons hsh;obtain rfl:=hasAllW_nil h2;obtain⟨xs,rfl,h3⟩:=hasW_list h1;obtain⟨ns,rfl⟩:=items_int h3;have hlen:ns.length<=n:=by
  unfold OpenLaw.pre at hc;have h4:(WTm.not (.lt (.lit (.int (n:Int))) (.len (.arg 0)))).holds [] { args:=[.list (ns.map .int)] }=true:=by have h4:=(holds_andW hc).1;rw[hn] at h4;exact h4
  have h5:=condW_of h4 (w_not (w_lt w_lit (w_len_list (w_arg rfl))));rw[ak] at h5;refine jN fun q=>?_;have q':(n:Int)<((ns.length:Nat):Int):=by lia
  first
   |(rw[decide_eq_true q'] at h5;exact absurd h5 ZA)
   |(simp at h5;lia)
 cases hwl with
 | cons w1 w2 =>
  cases w2;cases w1 with
  |list ho hall=>exact⟨_,_,ns,rfl,rfl,ho,aK7 ns _ hall,hlen⟩
theorem bA7(l:OpenLaw)(args:List WData):l.row.toRowW.claim.post args (.bool true) args=true :=
 postW_of (r:=l.row.toRowW) (X:=(true==true))
  (show WShape.has [] (.bool true) .bool=true by first |rfl |decide |simp[WShape.has,WShape.arms,WShape.armsAll])
  (show (WTm.eq .res (.lit (.bool true))).value [] { args:=args,res:=some (.bool true),after:=args }=some (.bool (true==true)) from w_eq_bool (w_res rfl) w_lit) rfl
theorem attach_call{l:OpenLaw}{n:Nat}{XP:(Str->Option Value)->Heap->Prop}{YP:World->Heap->Prop}{d:DefRec}
  (hn:l.most=some n) (hdf:d.params.defaults = [])
  (call:∀ (w:World) (s₀ s₁:Shared) (mg mb:Str->Option Value) (fa:Addr) (o:Obj) (pm cd doc:Value) (a:Addr) (vs:List Value) (ns:List Int),
   Ground q loose [] XP w s₀ mg mb s₁.heap->YP w s₁.heap ->
   s₁.heap.get? fa=some o->o.data = .func (docDef d.name d.params d.body d.scope pm cd doc)->s₁.heap.CodeRec cd d.name->mg d.name=some (.ref fa) ->
   s₁.heap.get? a=some { cls:=.type "list",data:=.seq vs.toArray }->IntsAre vs ns->ns.length<=n->s₁.gens = #[] ->
   codeAny (model l.prog w) callerA (.call (.ref fa) ⟨[.ref a],[]⟩) (fun r s'=>r = .ok (.ret (.bool true))/\OldK s₁.heap s'.heap/\s'.os=s₁.os/\AllBare s'.gens) s₁) :
  WalkO q loose XP YP l.row.toRowW d [] (fun f vs=>PySem.call f vs):=by
 intro w s₀ s₁ mg mb G Y fa o pm cd doc dV kV ho hd hcd hD hmg hg args vals as hpre hlay hrd hwl hlo;obtain rfl:dV = .none:=Dflts.none hD hdf;obtain rfl:kV = .none:=Dflts.noKw hD;obtain⟨a,vs,ns,rfl,rfl,hobj,hints,hlen⟩:=aZ8 hn hpre hwl;refine enter_call (codeAny_mono (call w s₀ s₁ mg mb fa o pm cd doc a vs ns G Y ho (fd_plain hd) hcd hmg hobj hints hlen hg) fun r s' hq=>?_);obtain⟨rfl,h2,h3,h4⟩:=hq;exact⟨.inl ⟨.bool true,.bool true,[],rfl,fun _=>rfl,.bool true,bA7 l _,fun _=>⟨List.Pairwise.nil,fun _ hm=>(nomatch hm)⟩⟩,h2,h3,h4⟩
section
variable {prog:Program}{w:World}{A:Around}{E:Value->Shared->Prop}{s:Shared}{K:Frag}
def ledger(h:Heap)(L d:Addr):List ZH:=(List.range h.objs.size).filterMap fun a=>if a=L\/a=d then none else (h.get? a).map fun o=>(a,o)
end
end Att
namespace L2
open PySem PySem.Spec PyProof.Rows
theorem aCt:∀ {vs:List Value} {ns:List Int},IntsAre vs ns->Vals (ns.map V.int) vs
 |_,_,.nil=>.nil
 |_,_,.cons n t h=>.cons ⟨t,rfl⟩ (aCt h)
def Only(H:Hp):Prop:=∀b,H b=none\/∃o xs,H b=some (.frz o (.lst xs))
theorem law_call{P:Program}{w:World}{K:W.Frag}{mg mb:Str->Option Value}{CX:CXT}{k:Nat}{fa a:Addr}{fd:FuncData}{x:Str}{sp:Sp}{s₁:Shared}{vs:List Value}{ns:List Int}
  (KX:K.In s₁.heap) (hns:s₁.heap.Ns mainGlobals mg) (hb:s₁.heap.Ns builtinsNs mb) (hbb:∀x:Str,x ≠ "__name__" -> mb x=bootBuiltins x) (hlim:s₁.heap.NoLimit) (hg:s₁.gens = #[])
  (ha:s₁.heap.get? a=some { cls:=.type "list",data:=.seq vs.toArray }) (hi:IntsAre vs ns) (hl:ns.length<=sizeLine) (hr:Room k callerA)
  (F:∀base:Heap,K.In base->base.Ns mainGlobals mg->FnOk P w K mg base CX k fa fd [x] sp) (hbind:∀ (s:Shared) (u:Value),BindsTo s fd ⟨[u],[]⟩ [(x,u)])
  (hsp:∀H:Hp,Only H->SqL K H a (ns.map V.int)->sp [.ref a] H (fun v _=>v = .bl true) fun _ _ _=>False)
  (hCX:∀H e s',CX [] H s₁ (fun _ _ _=>False) e s'->False) :
  codeAny (model P w) callerA (.call (.ref fa) ⟨[.ref a],[]⟩) (fun r s'=>r = .ok (.ret (.bool true))/\OldK s₁.heap s'.heap/\s'.os=s₁.os/\AllBare s'.gens) s₁:=by
 have rv:=aCt hi;have lenV:=hi.length;have core:∀H:Hp,Only H->SqL K H a (ns.map V.int)->HOk P w H s₁.heap->(∀b,H b≠none->b=a)->(H a≠none->K.lookup a=none) ->
   codeAny (model P w) callerA (.call (.ref fa) ⟨[.ref a],[]⟩) (fun r s'=>r = .ok (.ret (.bool true))/\OldK s₁.heap s'.heap/\s'.os=s₁.os/\AllBare s'.gens) s₁:=by
  intro H hO hS hok hA hK;have base_of:∀ {b:Addr} {o:Obj},s₁.heap.get? b=some o->H b=none->(hidT s₁.heap H).get? b=some o:=fun e n=>hidT_get e n;have noA:∀ {b:Addr} {o:Obj} {es:Array DictEntry} {ep:Nat},s₁.heap.get? b=some o->o.data = .dict es ep->H b=none:=fun {b o es ep} e d=>by
   cases q:H b with
   |none=>rfl
   | some u =>
    have e':b=a:=hA b (by rw[q];simp);subst e';rw[ha] at e;cases e;have d':Data.seq vs.toArray _=Data.dict es ep:=d;cases d'
  have nsK:∀ {b:Addr} {m:Str->Option Value},s₁.heap.Ns b m->(hidT s₁.heap H).Ns b m:=fun {b m} ⟨o,es,ep,e,d,r⟩=>⟨o,es,ep,base_of e (noA e d),d,r⟩
  have hKb:K.In (hidT s₁.heap H):=fun b o e=>base_of (KX b o e) (by
   cases q:H b with
   |none=>rfl
   | some u =>
    have e':b=a:=hA b (by rw[q];simp);subst e'
    rw[hK (by rw[q];simp)] at e;cases e)
  have hM:Mod K mg (hidT s₁.heap H):=⟨hKb,nsK hns,⟨mb,nsK hb,hbb⟩,let ⟨mc,h1,h2⟩:=hlim;⟨mc,nsK h1,h2⟩⟩
  have e0:Env0 P w K mg (hidT s₁.heap H) callerA [] s₁ H:=⟨rfl,hM,fun b o e=>of_hidT e,Nat.le_of_eq (bAx _ _),trivial,fun b hb=>absurd (show b∈([]:List Addr) from hb) ZR,hok,.of_eq hg⟩
  refine codeAny_mono ((F _ hKb (nsK hns)).run callerA [] s₁ H ⟨[.ref a],[]⟩ [.ref a] [.ref a] _ _ hr e0 (hbind s₁ (.ref a)) (.cons rfl .nil) (hsp H hO hS)) fun r s' h=>?_;cases r with
  |error e=>exact(hCX H e s' h).elim
  | ok fl =>
   cases fl with
   |next=>exact False.elim h
   |brk=>exact False.elim h
   |cont=>exact False.elim h
   | ret u =>
    obtain⟨v,H',os,bare,un,hok',r',q⟩:=h;have q':v = .bl true:=q;subst q';obtain rfl:u=Value.bool true:=r';refine⟨rfl,OldK.of_keep fun b o e=>?_,os,bare⟩;cases q:H b with
    |none=>exact un.keep b o e q (by intro z;exact absurd (show b∈([]:List Addr) from z) ZR) ZR
    | some u =>
     rcases hO b with z |⟨ob,xs,z⟩
     ·rw[q] at z;cases z
     ·have z2:=un.frzs b ob _ z;obtain⟨e1,_⟩:=hok b _ z;obtain⟨e2,_⟩:=hok' b _ z2;rw[e] at e1;cases e1;exact e2
 cases hk:K.lookup a with
 | some o =>
  have e:=KX a o hk;rw[ha] at e;cases e;refine core (fun _=>none) (fun _=>.inl rfl) (.inr (.inl ⟨_,vs.toArray,_,hk,rfl,rfl,rfl,by rw[aj,lenV];exact hl,by simpa using rv⟩)) (fun b u z=>by have z':(none:Option HO)=some u:=z;cases z') (fun b z=>absurd rfl z) fun z=>absurd rfl z
 | none =>
  refine core (fun b=>if b=a then some (.frz { cls:=.type "list",data:=.seq vs.toArray } (.lst (ns.map V.int))) else none) (fun b=>?_) (.inl (.inr ⟨{ cls:=.type "list",data:=.seq vs.toArray },if_pos rfl⟩)) (fun b u z=>?_) (fun b z=>?_) fun _=>hk
  ·by_cases hb:b=a
   ·exact .inr ⟨_,_,if_pos hb⟩
   ·exact .inl (if_neg hb)
  ·by_cases hb:b=a
   ·have z':=(if_pos hb).symm.trans z;cases z';subst hb;exact⟨ha,by rw[ak];exact hl,vs,_,rv,ha⟩
   ·have z':=(if_neg hb).symm.trans z;cases z'
  ·by_cases hb:b=a
   ·exact hb
   ·exact absurd (if_neg hb) z
abbrev KOf{K:W.Frag}{h:Heap}(_:K.In h):W.Frag:=K
theorem walk_of{l:W.OpenLaw}{n k:Nat}{q:Program}{loose:List Str}{XP:(Str->Option Value)->Heap->Prop}{YP:World->Heap->Prop}{d:DefRec}{K:Params->W.Frag}{CX:World->CXT}{sp:World->Sp}{x:Str}
  (hn:l.most=some n) (hn2:n<=sizeLine) (hdf:d.params.defaults = []) (hr:Room k callerA)
  (hY:∀ (w:World) (h:Heap),YP w h->(K w.params).In h)
  (F:∀ (w:World) (mg:Str->Option Value) (fa:Addr) (h:Heap),(K w.params).In h->h.Ns mainGlobals mg->mg d.name=some (.ref fa) ->
   ∃fd:FuncData,(∀ (s:Shared) (u:Value),BindsTo s fd ⟨[u],[]⟩ [(x,u)]) /\
    ∀base:Heap,(K w.params).In base->base.Ns mainGlobals mg->FnOk l.prog w (K w.params) mg base (CX w) k fa fd [x] (sp w))
  (hsp:∀ (w:World) (H:Hp) (a:Addr) (ns:List Int),ns.length<=n->Only H->SqL (K w.params) H a (ns.map V.int)->sp w [.ref a] H (fun v _=>v = .bl true) fun _ _ _=>False)
  (hCX:∀ (w:World) (H:Hp) (s:Shared) (e:Value) (s':Shared),CX w [] H s (fun _ _ _=>False) e s'->False) :
  W.WalkO q loose XP YP l.row.toRowW d [] (fun f vs=>PySem.call f vs):=by
 refine Att.attach_call hn hdf fun w s₀ s₁ mg mb fa o pm cd doc a vs ns G Y ho hd hcd hmg hobj hints hlen hg=>?_;have KX:=hY w _ Y;obtain⟨fd,hb,hF⟩:=F w mg fa _ KX G.T.g hmg;exact law_call KX G.T.g G.T.b G.T.builtins G.T.nolimit hg hobj hints (aq hlen hn2) hr hF hb (fun H hO hS=>hsp w H a ns hlen hO hS) fun H e s'=>hCX w H s₁ e s'
def aD7(s:Stmt):Arguments:=match s with
 |.FunctionDef _ a _ _ _ _ _ _ _ _=>a
 |_=>{ posonlyargs:=[],args:=[],vararg:=none,kwonlyargs:=[],kw_defaults:=[],kwarg:=none,defaults:=[] }
def aCg(s:Stmt):List Stmt:=match s with
 |.FunctionDef _ _ b _ _ _ _ _ _ _=>b
 |_=>[]
def aAp(s:Stmt):Scope:=match s with
 |.FunctionDef _ _ _ _ _ _ sc _ _ _=>sc
 |_=>{ kind:=.function,names:=[],isGenerator:=false,isCoroutine:=false }
abbrev CX0:CXT:=fun _ _ _ _ _ _=>False
abbrev E0:XK:=fun _ _ _=>False
theorem pass0:aZ1 CX0 X E0:=fun _ _ _ _ _ _ _ h=>h.elim
structure Fun (K:W.Frag) (x qual:Str) (st:Stmt) (f:Addr) (fd:FuncData):Prop where
 ex:∃ (oc:Value) (od:Option Addr) (kV doc pm:Value) (an:Option Addr) (cdv ct:Value) (osl:Array (Option Value)),
  fd=W.fnOf x qual (aD7 st) (aCg st) (aAp st) .none kV doc pm an cdv ct/\K.lookup f=some ⟨oc,od,.func fd,osl⟩/\W.codeIn K cdv qual=true
 kp:W.keepIn K (.ref f)=true
section
variable {P:Program}{w:World}{K:W.Frag}{mg:Str->Option Value}{base:Heap}
theorem Fun.ok{x qual:Str}{st:Stmt}{f:Addr}{fd:FuncData}{N ps:List Str}{k:Nat}{sp:Sp}(F:Fun K x qual st f fd)(S:FnScope N ps (aAp st))(len:∀vs H Q E,sp vs H Q E->vs.length=ps.length)
  (hbody:∀ (cdv:Value) (A:Around) (outer:List Env) (s:Shared) (H:Hp) (vs:List V) (Q:VK) (E:XK),Room k (A.deeper (envOfC qual (aAp st) s.heap.objs.size f cdv))->sp vs H Q E ->
   ∃t,PSs (cxOf CX0 P w K mg base N qual (aAp st) f cdv A outer s H E).nox (aCg st) t/\t { nx:=fun _ H'=>Q .non H',rt:=Q } (start N vs) H):FnOk P w K mg base CX0 (k+1) f fd ps sp:=by
 obtain⟨oc,od,kV,doc,pm,an,cdv,ct,osl,rfl,lk,hcd⟩:=F.ex;refine fn_of lk hcd S len fun A outer s H vs Q E hr hsp=>?_;obtain⟨t,h,q⟩:=hbody cdv A outer s H vs Q E hr hsp;exact⟨t,h.nox,q⟩
theorem Fun.binds{x qual:Str}{st:Stmt}{f:Addr}{fd:FuncData}{ps:List Str}(F:Fun K x qual st f fd)
  (h:∀ (kV doc pm:Value) (an:Option Addr) (cdv ct:Value) (us:List Value),us.length=ps.length->bindArgs (W.fnOf x qual (aD7 st) (aCg st) (aAp st) .none kV doc pm an cdv ct) ⟨us,[]⟩=pure (ps.zip us)):Binds K fd ps []:=by
 obtain⟨oc,od,kV,doc,pm,an,cdv,ct,osl,rfl,lk,hcd⟩:=F.ex;exact .all (h kV doc pm an cdv ct)
theorem fun_mk{x qual:Str}{st:Stmt}{f:Addr}{oc:Value}{od an:Option Addr}{osl:Array (Option Value)}{kV doc pm cdv ct:Value}(l:K.lookup f=some ⟨oc,od,.func (W.fnOf x qual (aD7 st) (aCg st) (aAp st) .none kV doc pm an cdv ct),osl⟩)
  (c:W.codeIn K cdv qual=true) (k:W.keepIn K (.ref f)=true):Fun K x qual st f (W.fnOf x qual (aD7 st) (aCg st) (aAp st) .none kV doc pm an cdv ct):=⟨⟨oc,od,kV,doc,pm,an,cdv,ct,osl,rfl,l,c⟩,k⟩
end
theorem iteF{A B:Prop}(h:B):if false=true then A else B:=by rw[if_neg cz];exact h
theorem iteT{A B:Prop}(h:A):if true=true then A else B:=by rw[if_pos rfl];exact h
end L2
end
namespace L2.Ds
open PySem
noncomputable abbrev Ky:=Sum Int Str
inductive T where
 |non |bl (b:Bool) |int (i:Int) |str (x:Str) |tup (xs:List T) |lst (xs:List T) |dic (kvs:List (Ky × T)) |town
 |ob (a:Nat)
 |gs (tb:T) (td:List T) |rdc (ks:List (List (List Int)))
inductive Md where
 |own |bor |lent |fz
 deriving DecidableEq
noncomputable def aDx:T->Bool
 |.lst _=>true
 |.dic _=>true
 |.gs _ _=>true
 |.rdc _=>true
 |_=>false
noncomputable abbrev En:=List (Option (T × Md))
noncomputable abbrev DE:=En->Nat->Option (T × Md × Nat)
noncomputable abbrev DT:=En->Nat->Option (Bool × Nat)
noncomputable abbrev DA:=En->Nat->Option (List T × Nat)
noncomputable abbrev DI:=En->Nat->Option (List T × Nat)
inductive Fl where
 |nx |bk |ct |rt (t:T) (own:Bool)
noncomputable abbrev DS:=En->Nat->Option (Fl × En × Nat)
noncomputable abbrev Fn:=List (T × Bool)->Nat->Option (T × Bool × Nat)
noncomputable abbrev DB:=En->Nat->Option (List (T × Bool) × Nat)
noncomputable def md(b:Bool):Md:=match b with
 |true=>.own
 |false=>.fz
noncomputable def big:Nat:=1000000
noncomputable def look(m:Md)(t:T):Md:=match m with
 |.own=>if aDx t then .lent else .fz
 |.bor=>if aDx t then .bor else .fz
 |.lent=>.lent
 |.fz=>.fz
noncomputable def dVar(i:Nat):DE:=fun ρ n=>match ρ[i]? with
 |some (some (t,m))=>some (t,look m t,n)
 |_=>none
noncomputable def dK(t:T):DE:=fun _ n=>some (t,.fz,n)
noncomputable def frz(t:T)(m:Md):Option T:=match m with
 |.own=>some t
 |.fz=>some t
 |_=>if aDx t then none else some t
noncomputable def dFz(d:DE):DE:=fun ρ n=>(d ρ n).bind fun r=>(frz r.1 r.2.1).map fun t=>(t,.fz,r.2.2)
noncomputable def dNil:DA:=fun _ n=>some ([],n)
noncomputable def aAa(d:DE)(r:DA):DA:=fun ρ n=>(d ρ n).bind fun a=>(r ρ a.2.2).map fun b=>(a.1::b.1,b.2)
noncomputable abbrev Pr:=Nat->List T->Option (T × Md)
noncomputable def dPr(g:Pr)(a:DA):DE:=fun ρ n=>(a ρ n).bind fun r=>(g r.2 r.1).map fun x=>(x.1,x.2,r.2)
noncomputable def flag(m:Md)(t:T):Bool:=match m with
 |.own=>true
 |.fz=>true
 |_=>!aDx t
noncomputable def bNil:DB:=fun _ n=>some ([],n)
noncomputable def aAd(d:DE)(r:DB):DB:=fun ρ n=>(d ρ n).bind fun a=>(r ρ a.2.2).map fun b=>((a.1,flag a.2.1 a.1)::b.1,b.2)
noncomputable def dCall(ar:Nat)(f:Fn)(a:DB):DE:=fun ρ n=>(a ρ n).bind fun r=>if r.1.length=ar then (f r.1 r.2).map fun x=>(x.1,md x.2.1,x.2.2) else none
noncomputable def dTup(a:DA):DE:=fun ρ n=>(a ρ n).bind fun r=>if r.1.length<=big then some (.tup r.1,.fz,r.2) else none
noncomputable def dLst(a:DA):DE:=fun ρ n=>(a ρ n).bind fun r=>if r.1.length<=big then some (.lst r.1,.own,r.2) else none
noncomputable def dIf(c:DT)(a b:DE):DE:=fun ρ n=>(c ρ n).bind fun r=>if r.1 then a ρ r.2 else b ρ r.2
noncomputable def aXz(a b:DE):DE:=fun ρ n=>(a ρ n).bind fun r=>match r.1 with
 |.bl true=>b ρ r.2.2
 |.bl false=>some (.bl false,.fz,r.2.2)
 |_=>none
noncomputable def tru:T->Option Bool
 |.non=>some false
 |.bl b=>some b
 |.int i=>some (i != 0)
 |.tup xs=>some (!xs.isEmpty)
 |.lst xs=>some (!xs.isEmpty)
 |.dic kvs=>some (!kvs.isEmpty)
 |_=>none
noncomputable def dTru(d:DE):DT:=fun ρ n=>(d ρ n).bind fun r=>(tru r.1).map fun b=>(b,r.2.2)
noncomputable def dNot(c:DT):DT:=fun ρ n=>(c ρ n).map fun r=>(!r.1,r.2)
noncomputable def dAnd(a b:DT):DT:=fun ρ n=>(a ρ n).bind fun r=>if r.1 then b ρ r.2 else some (false,r.2)
noncomputable def dOr(a b:DT):DT:=fun ρ n=>(a ρ n).bind fun r=>if r.1 then some (true,r.2) else b ρ r.2
noncomputable def keyT:Ky->T
 |.inl i=>.int i
 |.inr x=>.str x
noncomputable def walked(t:T)(m:Md):Option (List T):=match t with
 |.lst xs=>some xs
 |.tup xs=>some xs
 | .dic kvs=>match m with
  |.fz=>some (kvs.map fun kv=>keyT kv.1)
  |.own=>some (kvs.map fun kv=>keyT kv.1)
  |_=>none
 |_=>none
noncomputable def dIt(d:DE):DI:=fun ρ n=>(d ρ n).bind fun r=>(walked r.1 r.2.1).map fun xs=>(xs,r.2.2)
noncomputable def dItS(d:DE):DI:=fun ρ n=>(d ρ n).bind fun r=>match r.2.1 with
 |.lent=>none
 |m=>(walked r.1 m).map fun xs=>(xs,r.2.2)
noncomputable def upTo(lo hi:Int):List T:=(List.range (hi - lo).toNat).map fun (k:Nat)=>.int (lo+k)
noncomputable def aHq(a:DA):DI:=fun ρ n=>(a ρ n).bind fun r=>match r.1 with
 |[.int j]=>if -big<=j/\j<=big then some (upTo 0 j,r.2) else none
 |_=>none
noncomputable def dRng2(a:DA):DI:=fun ρ n=>(a ρ n).bind fun r=>match r.1 with
 |[.int i,.int j]=>if -big<=i/\i<=big /\ -big<=j/\j<=big then some (upTo i j,r.2) else none
 |_=>none
noncomputable def aEw(put:T->En->Option En)(c:DT)(e:DE):List T->En->Nat->List T->Option (List T × Nat)
 |[],_,n,acc=>some (acc,n)
 | x::xs,ρ,n,acc=>(put x ρ).bind fun ρ'=>(c ρ' n).bind fun b=>if b.1 then (dFz e ρ' b.2).bind fun r=>if acc.length<big then aEw put c e xs ρ' r.2.2 (acc ++ [r.1]) else none
  else aEw put c e xs ρ' b.2 acc
noncomputable def aCs(it:DI)(src:En->En)(put:T->En->Option En)(c:DT)(e:DE):DE:=fun ρ n =>
 (it ρ n).bind fun r=>(aEw put c e r.1 (src ρ) r.2 []).map fun a=>(.lst a.1,.own,a.2)
noncomputable def yes:DT:=fun _ n=>some (true,n)
noncomputable def putAt(i:Nat):T->En->Option En:=fun t ρ=>some (ρ.set i (some (t,.fz)))
noncomputable def aTb(i j:Nat):T->En->Option En:=fun t ρ=>match t with
 |.tup [a,b]=>some ((ρ.set i (some (a,.fz))).set j (some (b,.fz)))
 |_=>none
noncomputable def srcOf(l:List (Option Nat)):En->En:=fun ρ=>l.map fun o=>o.bind fun j=>(ρ[j]?).join
noncomputable def aCi:DS:=fun ρ n=>some (.nx,ρ,n)
noncomputable def dSeq(a b:DS):DS:=fun ρ n=>(a ρ n).bind fun r=>match r.1 with
 |.nx=>b r.2.1 r.2.2
 |f=>some (f,r.2.1,r.2.2)
noncomputable def dSet(i:Nat)(d:DE):DS:=fun ρ n=>(d ρ n).bind fun r=>match r.2.1 with
 |.own=>some (.nx,ρ.set i (some (r.1,.own)),r.2.2)
 |.fz=>some (.nx,ρ.set i (some (r.1,.fz)),r.2.2)
 |_=>none
noncomputable def dMove(i j:Nat):DS:=fun ρ n=>match ρ[j]? with
 |some (some (t,.own))=>some (.nx,(ρ.set j none).set i (some (t,.own)),n)
 |_=>none
noncomputable def dPut(put:T->En->Option En)(d:DE):DS:=fun ρ n=>(dFz d ρ n).bind fun r=>(put r.1 ρ).map fun ρ'=>(.nx,ρ',r.2.2)
noncomputable def dIfS(c:DT)(a b:DS):DS:=fun ρ n=>(c ρ n).bind fun r=>if r.1 then a ρ r.2 else b ρ r.2
noncomputable def dRet(d:DE):DS:=fun ρ n=>(d ρ n).bind fun r=>match r.2.1 with
 |.own=>some (.rt r.1 true,ρ,r.2.2)
 |.fz=>some (.rt r.1 false,ρ,r.2.2)
 |_=>none
noncomputable def aF2(i:Nat):DS:=fun ρ n=>match ρ[i]? with
 |some (some (t,.own))=>some (.rt t true,ρ,n)
 |some (some (t,.fz))=>some (.rt t false,ρ,n)
 |some (some (t,.bor))=>if aDx t then none else some (.rt t false,ρ,n)
 |_=>none
noncomputable def dFrz(i:Nat)(d:DS):DS:=fun ρ n=>match ρ[i]? with
 |some (some (t,.own))=>d (ρ.set i (some (t,.fz))) n
 |_=>d ρ n
noncomputable def aC8(i:Nat)(d:DS):DS:=fun ρ n=>match ρ[i]? with
 |some (some (.dic kvs,.own))=>d (ρ.set i (some (.dic kvs,.fz))) n
 |_=>d ρ n
noncomputable def aC0(put:T->En->Option En)(b:DS):List T->En->Nat->Option (Fl × En × Nat)
 |[],ρ,n=>some (.nx,ρ,n)
 | x::xs,ρ,n=>(put x ρ).bind fun ρ1=>(b ρ1 n).bind fun r=>match r.1 with
  |.nx=>aC0 put b xs r.2.1 r.2.2
  |.ct=>aC0 put b xs r.2.1 r.2.2
  |.bk=>some (.nx,r.2.1,r.2.2)
  |.rt t m=>some (.rt t m,r.2.1,r.2.2)
noncomputable def dFor(it:DI)(put:T->En->Option En)(b:DS):DS:=fun ρ n=>(it ρ n).bind fun r=>aC0 put b r.1 ρ r.2
noncomputable def aZ4(i:Nat):DS:=fun ρ n=>match ρ[i]? with
 |some (some (.town,_))=>if n<big then some (.nx,ρ,n+1) else none
 |_=>none
noncomputable def dChg(i:Nat)(g:T->T->Option T)(d:DE):DS:=fun ρ n=>(dFz d ρ n).bind fun r=>match ρ[i]? with
 |some (some (t,.own))=>(g t r.1).map fun t'=>(.nx,ρ.set i (some (t',.own)),r.2.2)
 |_=>none
noncomputable def appT:T->T->Option T
 |.lst xs,y=>if xs.length<big then some (.lst (xs ++ [y])) else none
 |_,_=>none
noncomputable def extT:T->T->Option T
 |.lst xs,.lst ys=>if xs.length+ys.length<=big then some (.lst (xs++ys)) else none
 |.lst xs,.tup ys=>if xs.length+ys.length<=big then some (.lst (xs++ys)) else none
 |_,_=>none
noncomputable def aGb(i:Nat)(g:T->T->T->Option T)(k v:DE):DS:=fun ρ n=>(dFz v ρ n).bind fun r=>(k ρ r.2.2).bind fun q=>match ρ[i]? with
 |some (some (t,.own))=>(g t q.1 r.1).map fun t'=>(.nx,ρ.set i (some (t',.own)),q.2.2)
 |_=>none
noncomputable def fnD(many:Nat)(b:DS):Fn:=fun ts n =>
 (b (ts.map (fun t=>some (t.1,if t.2 then .fz else .bor))++List.replicate (many - ts.length) none) n).bind fun r=>match r.1 with
  |.rt t m=>some (t,m,r.2.2)
  |.nx=>some (.non,false,r.2.2)
  |_=>none
noncomputable def pI2(C:Int->Int->Bool)(g:Int->Int->T):Pr:=fun _ ts=>match ts with
 |[.int a,.int b]=>if C a b then some (g a b,.fz) else none
 |_=>none
noncomputable def pAdd:Pr:=fun _ ts=>match ts with
 |[.int a,.int b]=>some (.int (a+b),.fz)
 |[.tup a,.tup b]=>if a.length+b.length<=big then some (.tup (a++b),.fz) else none
 |[.lst a,.lst b]=>if a.length+b.length<=big then some (.lst (a++b),.own) else none
 |_=>none
noncomputable def pSub:Pr:=pI2 (fun _ _=>true) fun a b=>.int (a - b)
noncomputable def small(i:Int):Bool:=decide (i.natAbs<2^64)
noncomputable def pMul:Pr:=fun _ ts=>match ts with
 |[.int a,.int b]=>if small a||small b then some (.int (a*b),.fz) else none
 |[.tup a,.int k]=>if a.length<=1000 /\ -1000<=k/\k<=10000/\a.length*k.toNat<=big then some (.tup (List.replicate k.toNat a).flatten,.fz) else none
 |_=>none
noncomputable def pMod:Pr:=pI2 (fun _ b=>decide (0<b)) fun a b=>.int (a%b)
noncomputable def pNotInS(l:List Str):Pr:=fun _ ts=>match ts with
 |[.str x]=>some (.bl (!l.any fun y=>y==x),.fz)
 |_=>none
noncomputable def pLt:Pr:=pI2 (fun _ _=>true) fun a b=>.bl (decide (a<b))
noncomputable def pLe:Pr:=pI2 (fun _ _=>true) fun a b=>.bl (decide (a<=b))
noncomputable def pGt:Pr:=pI2 (fun _ _=>true) fun a b=>.bl (decide (b<a))
noncomputable def isNon:T->Bool
 |.non=>true
 |_=>false
noncomputable def pIsN:Pr:=fun _ ts=>match ts with
 |[t]=>some (.bl (isNon t),.fz)
 |_=>none
noncomputable def pLen:Pr:=fun n ts=>match ts with
 |[.lst xs]=>some (.int xs.length,.fz)
 |[.tup xs]=>some (.int xs.length,.fz)
 |[.dic kvs]=>some (.int kvs.length,.fz)
 |[.town]=>some (.int n,.fz)
 |_=>none
noncomputable def at?(xs:List T)(i:Int):Option T :=
 if 0<=i then (if i<xs.length then xs[i.toNat]? else none) else if -(xs.length:Int)<=i then xs[(i+xs.length).toNat]? else none
noncomputable def keyOf:T->Option Ky
 |.int i=>some (.inl i)
 |.str x=>some (.inr x)
 |_=>none
noncomputable def aFi(kvs:List (Ky × T))(k:Ky):Option T:=(kvs.find? fun kv=>decide (kv.1=k)).map (·.2)
noncomputable def aDc(kvs:List (Ky × T))(k:Ky)(v:T):List (Ky × T) :=
 if (kvs.any fun kv=>decide (kv.1=k))=true then kvs.map (fun kv=>if kv.1=k then (kv.1,v) else kv) else kvs ++ [(k,v)]
noncomputable def pGet:Pr:=fun _ ts=>match ts with
 |[.lst xs,.int i]=>(at? xs i).map fun t=>(t,.fz)
 |[.tup xs,.int i]=>(at? xs i).map fun t=>(t,.fz)
 |[.dic kvs,k]=>(keyOf k).bind fun k=>(aFi kvs k).map fun t=>(t,.fz)
 |_=>none
noncomputable def aFu:Pr:=fun _ ts=>match ts with
 |[.dic kvs,k,x]=>if aDx x then none else (keyOf k).map fun k=>((aFi kvs k).getD x,.fz)
 |_=>none
noncomputable def setL:T->T->T->Option T
 |.lst xs,.int i,v=>if 0<=i/\i<xs.length then some (.lst (xs.set i.toNat v)) else none
 |.dic kvs,k,v=>(keyOf k).bind fun k=>if kvs.length<big then some (.dic (aDc kvs k v)) else none
 |_,_,_=>none
mutual
noncomputable def eqT:T->T->Bool
 |.non,.non=>true
 |.bl a,.bl b=>a==b
 |.bl a,.int b=>(if a then 1 else 0)==b
 |.int a,.bl b=>a==(if b then 1 else 0)
 |.int a,.int b=>a==b
 |.str a,.str b=>a==b
 |.tup a,.tup b=>eqTs a b
 |.lst a,.lst b=>eqTs a b
 |_,_=>false
noncomputable def eqTs:List T->List T->Bool
 |[],[]=>true
 |x::xs,y::ys=>eqT x y&&eqTs xs ys
 |_,_=>false
end
noncomputable def aAr:Nat->T->Bool
 |_,.dic _=>false
 |_,.town=>false
 |_,.ob _=>false
 |_,.gs _ _=>false
 |_,.rdc _=>false
 |0,.tup _=>false
 |0,.lst _=>false
 |k+1,.tup a=>a.all (aAr k)
 |k+1,.lst a=>a.all (aAr k)
 |_,_=>true
noncomputable def eqP:T->T->Option Bool
 |.dic a,.dic b=>if b.isEmpty then some a.isEmpty else none
 |a,b=>if aAr 6 a&&aAr 6 b then some (eqT a b) else none
noncomputable def pEq:Pr:=fun _ ts=>match ts with
 |[a,b]=>(eqP a b).map fun r=>(.bl r,.fz)
 |_=>none
noncomputable def pNe:Pr:=fun _ ts=>match ts with
 |[a,b]=>(eqP a b).map fun r=>(.bl (!r),.fz)
 |_=>none
inductive Ty where
 |int |bool |list |tuple |str |dict
noncomputable def isTy:Ty->T->Option Bool
 |.int,.int _=>some true
 |.int,.bl _=>some true
 |.bool,.bl _=>some true
 |.list,.lst _=>some true
 |.tuple,.tup _=>some true
 |.str,.str _=>some true
 |.dict,.dic _=>some true
 |_,.town=>none
 |_,.ob _=>none
 |_,.gs _ _=>none
 |_,.rdc _=>none
 |_,_=>some false
noncomputable def pIsI(k:Ty):Pr:=fun _ ts=>match ts with
 |[t]=>(isTy k t).map fun b=>(.bl b,.fz)
 |_=>none
noncomputable def boolsOf:List T->Option (List Bool)
 |[]=>some []
 |.bl b::r=>(boolsOf r).map (b :: ·)
 |_=>none
noncomputable def intsOf:List T->Option (List Int)
 |[]=>some []
 |.int i::r=>(intsOf r).map (i :: ·)
 |_=>none
noncomputable def pAll:Pr:=fun _ ts=>match ts with
 |[.lst xs]=>(boolsOf xs).map fun bs=>(.bl (bs.all id),.fz)
 |_=>none
noncomputable def aXw:Pr:=fun _ ts=>match ts with
 |[.lst xs]=>some (.lst xs,.own)
 |[.tup xs]=>some (.lst xs,.own)
 |[.dic kvs]=>some (.lst (kvs.map fun kv=>keyT kv.1),.own)
 |_=>none
noncomputable def aTt:Pr:=fun _ ts=>match ts with
 |[.lst xs]=>some (.tup xs,.fz)
 |[.tup xs]=>some (.tup xs,.fz)
 |_=>none
noncomputable def ins(x:Int):List Int->List Int
 |[]=>[x]
 |y::ys=>if x<=y then x::y::ys else y::ins x ys
noncomputable def sortI:List Int->List Int
 |[]=>[]
 |x::xs=>ins x (sortI xs)
noncomputable def lexLt:List Int->List Int->Bool
 |[],[]=>false
 |[],_::_=>true
 |_::_,[]=>false
 |x::xs,y::ys=>if x==y then lexLt xs ys else decide (x<y)
noncomputable def insL(x:List Int):List (List Int)->List (List Int)
 |[]=>[x]
 |y::ys=>if lexLt y x then y::insL x ys else x::y::ys
noncomputable def aB7:List (List Int)->List (List Int)
 |[]=>[]
 |x::xs=>insL x (aB7 xs)
noncomputable def tupT(l:List Int):T:=.tup (l.map .int)
noncomputable def aGt:List T->Option (List (List Int))
 |[]=>some []
 |.tup (x::xs)::r=>(intsOf (x::xs)).bind fun l=>(aGt r).map (l :: ·)
 |_=>none
noncomputable def aG6:Pr:=fun _ ts=>match ts with
 | [.lst xs]=>match intsOf xs with
  |some ns=>some (.lst ((sortI ns).map .int),.own)
  |none=>(aGt xs).map fun ls=>(.lst ((aB7 ls).map tupT),.own)
 |[.tup xs]=>(intsOf xs).map fun ns=>(.lst ((sortI ns).map .int),.own)
 |_=>none
noncomputable def dedup(ns:List Int):List Int:=ns.foldr (fun x r=>if x∈r then r else x::r) []
noncomputable def itemsOf:List (Ky × T)->Option (List ZP)
 |[]=>some []
 |(.inl k,.int v)::r=>(itemsOf r).map ((k,v) :: ·)
 |_=>none
noncomputable def aB5(p:Int × Int):List Int:=[p.1,p.2]
noncomputable def aG2:Pr:=fun _ ts=>match ts with
 |[.dic kvs]=>(itemsOf kvs).map fun ps=>(.lst ((aB7 (ps.map aB5)).map tupT),.own)
 |_=>none
noncomputable def pairsOf:List T->Option (List (Ky × T))
 |[]=>some []
 |.tup [k,v]::r=>(keyOf k).bind fun k=>(pairsOf r).map ((k,v) :: ·)
 |_=>none
noncomputable def pDict:Pr:=fun _ ts=>match ts with
 |[.lst xs]=>(pairsOf xs).bind fun ps=>if ps.length<big then some (.dic (ps.foldl (fun d p=>aDc d p.1 p.2) []),.own) else none
 |[.dic kvs]=>some (.dic kvs,.own)
 |_=>none
noncomputable def least:List Int->Option Int
 |[]=>none
 |x::xs=>some (xs.foldl (fun a b=>if b<a then b else a) x)
noncomputable def aWe:List Int->Option Int
 |[]=>none
 |x::xs=>some (xs.foldl (fun a b=>if a<b then b else a) x)
noncomputable def intKeys:List (Ky × T)->Option (List Int)
 |[]=>some []
 |(.inl k,_)::r=>(intKeys r).map (k :: ·)
 |_=>none
noncomputable def pMin:Pr:=fun _ ts=>match ts with
 |[.lst xs]=>(intsOf xs).bind fun ns=>(least ns).map fun i=>(.int i,.fz)
 |[.dic kvs]=>(intKeys kvs).bind fun ns=>(least ns).map fun i=>(.int i,.fz)
 |[.int a,.int b]=>some (.int (if b<a then b else a),.fz)
 |_=>none
noncomputable def bA4:Pr:=fun _ ts=>match ts with
 |[.tup xs,.int y]=>(intsOf xs).map fun ns=>(.int (ns.filter fun x=>x==y).length,.fz)
 |_=>none
noncomputable def sumI:List Int->Int
 |[]=>0
 |x::xs=>x+sumI xs
noncomputable def bound(n d:Nat):Option Int->Nat
 |none=>d
 |some v=>if v<0 then (v+(n:Int)).toNat else min v.toNat n
noncomputable abbrev DO:=En->Nat->Option (Option Int × Nat)
noncomputable def aLg:DO:=fun _ n=>some (none,n)
noncomputable def aLn(d:DE):DO:=fun ρ n=>(d ρ n).bind fun r=>match r.1 with
 |.int i=>some (some i,r.2.2)
 |_=>none
noncomputable def cutT(xs:List T)(lo hi:Option Int):List T:=(xs.drop (bound xs.length 0 lo)).take (bound xs.length xs.length hi - bound xs.length 0 lo)
noncomputable def aQt:DE:=fun _ n=>some (.dic [],.own,n)
noncomputable def dDic1(k v:DE):DE:=fun ρ n=>(k ρ n).bind fun a=>(keyOf a.1).bind fun k=>(v ρ a.2.2).map fun b=>(.dic [(k,b.1)],.own,b.2.2)
noncomputable def aBn(g h:Pr)(a b c:DE):DE:=fun ρ n=>(a ρ n).bind fun x=>(b ρ x.2.2).bind fun y=>(g y.2.2 [x.1,y.1]).bind fun r=>match r.1 with
 |.bl true=>(c ρ y.2.2).bind fun z=>(h z.2.2 [y.1,z.1]).map fun q=>(q.1,q.2,z.2.2)
 |.bl false=>some (.bl false,.fz,y.2.2)
 |_=>none
noncomputable def aA0:DS:=fun _ _=>none
noncomputable def aB0(d:DE):DS:=fun ρ n=>(d ρ n).map fun r=>(.nx,ρ,r.2.2)
noncomputable def aDv(i j:Nat):DS:=fun ρ n=>match ρ[j]? with
 |some (some (t,.own))=>some (.nx,(ρ.set j none).set i (some (t,.own)),n)
 |some (some (t,.fz))=>some (.nx,ρ.set i (some (t,.fz)),n)
 |some (some (t,.bor))=>if aDx t then none else some (.nx,ρ.set i (some (t,.fz)),n)
 |_=>none
noncomputable def dTabs(i:Nat):DE:=fun ρ n=>match ρ[i]? with
 |some (some (.gs tb _,.bor))=>some (tb,.fz,n)
 |_=>none
noncomputable def isGs:T->Bool
 |.gs _ _=>true
 |_=>false
theorem aM7(x:Int):∀l:List Int,(ins x l).Perm (x::l)
 |[]=>.refl _
 | y::ys=>by
  unfold ins;split
  ·exact .refl _
  ·exact((aM7 x ys).cons y).trans (.swap x y ys)
theorem sortI_perm:∀l:List Int,(sortI l).Perm l
 |[]=>.refl _
 |x::xs=>(aM7 x _).trans ((sortI_perm xs).cons x)
theorem aMh(x:Int):∀ {l:List Int},l.Pairwise (· <= ·)->(ins x l).Pairwise (· <= ·)
 |[],_=>by unfold ins;simp
 | y::ys,h=>by
  unfold ins;obtain⟨h1,h2⟩:=cj.mp h;split
  ·rename_i hxy
   exact cj.mpr ⟨fun z hz=>by
    rcases bf.mp hz with rfl |hz
    ·exact hxy
    ·exact Int.le_trans hxy (h1 z hz),h⟩
  ·rename_i hxy;refine cj.mpr ⟨fun z hz=>?_,aMh x h2⟩;rcases bf.mp ((aM7 x ys).mem_iff.mp hz) with rfl |hz
   ·lia
   ·exact h1 z hz
theorem aDp:∀l:List Int,(sortI l).Pairwise (· <= ·)
 |[]=>.nil
 |x::xs=>aMh x (aDp xs)
theorem aIa:∀ {a b:List Int},a.Pairwise (· <= ·)->b.Pairwise (· <= ·)->a.Perm b->a=b
 |[],b,_,_,p=>(p.nil_eq)
 |x::a,[],_,_,p=>by have:=p.length_eq;simp at this
 | x::a,y::b,ha,hb,p=>by
  obtain⟨ha1,ha2⟩:=cj.mp ha;obtain⟨hb1,hb2⟩:=cj.mp hb;have hxy:x<=y:=by
   rcases bf.mp (p.mem_iff.mpr (ao ..)) with e |e
   ·lia
   ·exact ha1 y e
  have hyx:y<=x:=by
   rcases bf.mp (p.mem_iff.mp (ao ..)) with e |e
   ·lia
   ·exact hb1 x e
  have:x=y:=by lia
  subst this;rw[aIa ha2 hb2 ((List.perm_cons x).mp p)]
theorem aWx(p:a.Perm b)(h:a.Pairwise (· <= ·)):a=sortI b:=aIa h (aDp b) (p.trans (sortI_perm b).symm)
theorem aJ9:∀l:List Int,lexLt l l=false
 |[]=>rfl
 |x::xs=>by unfold lexLt;simp[aJ9 xs]
theorem aGf:∀ {a b c:List Int},lexLt a b=true->lexLt b c=true->lexLt a c=true
 |[],[],_,h,_=>by cases h
 |[],_::_,[],_,h=>by cases h
 |[],_::_,_::_,_,_=>rfl
 |_::_,[],_,h,_=>by cases h
 |_::_,_::_,[],_,h=>by cases h
 | x::xs,y::ys,z::zs,h,h'=>by
  unfold lexLt at h h' |-;by_cases e:x=y
  ·subst e;simp only[beq_self_eq_true,if_true] at h;by_cases e':x=z
   ·subst e';simp only[beq_self_eq_true,if_true] at h' |-;exact aGf h h'
   ·simp only[beq_iff_eq,e',if_false] at h' |-;exact h'
  ·simp only[beq_iff_eq,e,if_false,decide_eq_true_eq] at h;by_cases e':y=z
   ·subst e';simp only[beq_iff_eq,e,if_false,decide_eq_true_eq];exact h
   ·simp only[beq_iff_eq,e',if_false,decide_eq_true_eq] at h';have:¬x=z:=by lia
    simp only[beq_iff_eq,this,if_false,decide_eq_true_eq];lia
theorem aNj:∀ {a b:List Int},lexLt a b=false->lexLt b a=false->a=b
 |[],[],_,_=>rfl
 |[],_::_,h,_=>by cases h
 |_::_,[],_,h=>by cases h
 | x::xs,y::ys,h,h'=>by
  unfold lexLt at h h';by_cases e:x=y
  ·subst e;simp only[beq_self_eq_true,if_true] at h h';rw[aNj h h']
  ·have e2:¬y=x:=fun z=>e z.symm;simp only[beq_iff_eq,e,e2,if_false,decide_eq_false_iff_not] at h h';lia
noncomputable def rank(nss:List (List Int))(l:List Int):Nat:=nss.countP fun z=>lexLt z l
theorem aXj{α:Type}{p q:α->Bool}{y:α}:∀ {l:List α},(∀z,p z=true->q z=true)->y∈l->p y=false->q y=true->l.countP p<l.countP q
 |[],_,hy,_,_=>by simp at hy
 | x::xs,h,hy,h1,h2=>by
  have mono:xs.countP p<=xs.countP q:=jX fun z _ hz=>h z hz;rw[gO,gO];rcases bf.mp hy with rfl |hy
  ·rw[h1,h2];simp;lia
  ·have ih:=aXj h hy h1 h2;by_cases e:p x=true
   ·rw[e,h x e];lia
   ·have:p x=false:=by cases z:p x<;>simp_all
    rw[this];simp;lia
theorem aVq(ha:a∈nss):decide (rank nss a<rank nss b)=lexLt a b:=by
 cases e:lexLt a b with
 | true =>
  have:=aXj (l:=nss) (y:=a) (p:=fun z=>lexLt z a) (q:=fun z=>lexLt z b) (fun z hz=>aGf hz e) ha (aJ9 a) e;simp[rank,this]
 | false =>
  have:rank nss b<=rank nss a:=by
   unfold rank;refine jX fun z _ hz=>?_;cases e2:lexLt b a with
   |true=>exact aGf hz e2
   |false=>rw[aNj e e2];exact hz
  simp;lia
theorem aKu(x:List Int):∀l,(insL x l).Perm (x::l)
 |[]=>.refl _
 | y::ys=>by
  unfold insL;split
  ·exact((aKu x ys).cons y).trans (.swap x y ys)
  ·exact .refl _
theorem aE3:∀l,(aB7 l).Perm l
 |[]=>.refl _
 |x::xs=>(aKu x (aB7 xs)).trans ((aE3 xs).cons x)
noncomputable abbrev LeL(a b:List Int):Prop:=lexLt b a=false
theorem bAk(h:LeL a b)(h':LeL b c):LeL a c:=by
 cases e:lexLt c a with
 |false=>exact e
 | true =>
  cases e2:lexLt a b with
  |true=>have:=aGf e e2;rw[h'] at this;cases this
  |false=>have:=aNj e2 h;subst this;rw[h'] at e;cases e
theorem aK6(x:List Int):∀ {l:List (List Int)},l.Pairwise LeL->(insL x l).Pairwise LeL
 |[],_=>by unfold insL;simp
 | y::ys,h=>by
  obtain⟨h1,h2⟩:=cj.mp h;unfold insL;split
  ·rename_i hxy;refine cj.mpr ⟨fun z hz=>?_,aK6 x h2⟩;rcases bf.mp ((aKu x ys).mem_iff.mp hz) with rfl |hz
   ·cases e:lexLt z y with
    |false=>exact e
    |true=>have:=aGf hxy e;rw[aJ9] at this;cases this
   ·exact h1 z hz
  ·rename_i hxy;have hxy:LeL x y:=by simpa using hxy
   exact cj.mpr ⟨fun z hz=>by
    rcases bf.mp hz with rfl |hz
    ·exact hxy
    ·exact bAk hxy (h1 z hz),h⟩
theorem aEk:∀l,(aB7 l).Pairwise LeL
 |[]=>.nil
 |x::xs=>aK6 x (aEk xs)
theorem aLz:∀ {a b:List (List Int)},a.Pairwise LeL->b.Pairwise LeL->a.Perm b->a=b
 |[],b,_,_,p=>(p.nil_eq)
 |x::a,[],_,_,p=>by have:=p.length_eq;simp at this
 | x::a,y::b,ha,hb,p=>by
  obtain⟨ha1,ha2⟩:=cj.mp ha;obtain⟨hb1,hb2⟩:=cj.mp hb;have hxy:LeL x y:=by
   rcases bf.mp (p.mem_iff.mpr (ao ..)) with e |e
   ·rw[e];exact aJ9 _
   ·exact ha1 y e
  have hyx:LeL y x:=by
   rcases bf.mp (p.mem_iff.mp (ao ..)) with e |e
   ·rw[e];exact aJ9 _
   ·exact hb1 x e
  have:x=y:=aNj hyx hxy;subst this;rw[aLz ha2 hb2 ((List.perm_cons x).mp p)]
theorem aMq(p:a.Perm b)(h:a.Pairwise LeL):a=aB7 b:=aLz h (aEk b) (p.trans (aE3 b).symm)
noncomputable def pMax:Pr:=fun _ ts=>match ts with
 |[.lst xs]=>(intsOf xs).bind fun ns=>(aWe ns).map fun i=>(.int i,.fz)
 |_=>none
noncomputable def remT:T->T->Option T
 |.lst xs,.int y=>(intsOf xs).bind fun ns=>if y∈ns then some (.lst ((ns.erase y).map .int)) else none
 |_,_=>none
noncomputable def setInts(n:Nat):List T->Option (List Int)
 |[.lst xs]=>(intsOf xs).bind fun ns=>if ns.length+1<4096 then some ns else none
 |[.tup xs]=>(intsOf xs).bind fun ns=>if ns.length+1<4096 then some ns else none
 |_=>none
noncomputable def bBc:Pr:=fun n ts=>(setInts n ts).map fun ns=>(.lst ((sortI (dedup ns)).map .int),.own)
noncomputable def pNeg:Pr:=fun _ ts=>match ts with
 |[.int a]=>some (.int (-a),.fz)
 |_=>none
noncomputable def aEu:T->Bool
 |.non=>true
 |.bl _=>true
 |.int _=>true
 |.str _=>true
 |_=>false
noncomputable def cntT(xs:List T)(y:T):Nat:=xs.countP fun x=>eqT x y
noncomputable def pIndex2:Pr:=fun _ ts=>match ts with
 |[.lst xs,y]=>if aEu y=true/\(xs.all aEu)=true then (xs.findIdx? fun x=>eqT x y).map fun (j:Nat)=>(.int j,.fz) else none
 |_=>none
noncomputable def aVl:Pr:=fun _ ts=>match ts with
 |[.lst xs,y]=>if aEu y=true/\(xs.all aEu)=true then some (.int (cntT xs y),.fz) else none
 |_=>none
noncomputable def aF1(ns:List Int)(many:Nat):En:=some ZO::some (.town,.fz)::List.replicate (many - 2) none
noncomputable def dSl2(d:DE)(lo hi:DO):DE:=fun ρ n=>(d ρ n).bind fun x=>(lo ρ x.2.2).bind fun l=>(hi ρ l.2).bind fun h=>match x.1 with
 |.lst xs=>some (.lst (cutT xs l.1 h.1),.own,h.2)
 |.tup xs=>some (.tup (cutT xs l.1 h.1),.fz,h.2)
 |_=>none
noncomputable def dRep(d1 d2:DE):DE:=fun ρ n=>(d1 ρ n).bind fun a=>(d2 ρ a.2.2).bind fun b=>match a.1,a.2.1,b.1 with
 |.lst xs,.own,.int k=>if -1000<=k/\k<=10000/\xs.length*k.toNat<=big then some (.lst (List.replicate k.toNat xs).flatten,.own,b.2.2) else none
 |_,_,_=>none
noncomputable def aU5:Pr:=fun _ ts=>match ts with
 |[.tup xs]=>(intsOf xs).bind fun ns=>if ns.length<100000/\(ns.all fun x=>decide (x.natAbs<=10000000000000)) then some (.int (sumI ns),.fz) else none
 |[.lst xs]=>(intsOf xs).bind fun ns=>if ns.length<100000/\(ns.all fun x=>decide (x.natAbs<=10000000000000)) then some (.int (sumI ns),.fz) else none
 |_=>none
noncomputable def dRev(d:DE):DE:=fun ρ n=>(d ρ n).bind fun x=>match x.1 with
 |.lst xs=>some (.lst xs.reverse,.own,x.2.2)
 |.tup xs=>some (.tup xs.reverse,.fz,x.2.2)
 |_=>none
noncomputable def enumT(xs:List T):List T:=xs.zipIdx.map fun p=>.tup [.int p.2,p.1]
noncomputable def aIc:Pr:=fun _ ts=>match ts with
 |[.lst xs]=>(intsOf xs).bind fun ns=>if ns.length<64 then some (.lst ((sortI ns).map .int),.own) else none
 |[.tup xs]=>(intsOf xs).bind fun ns=>if ns.length<64 then some (.lst ((sortI ns).map .int),.own) else none
 |_=>none
abbrev DX:=En->Nat->Option (Nat × Nat)
abbrev DV:=En->Nat->Option Nat
abbrev FnX:=List (T × Bool)->Nat->Option (Nat × Nat)
def cnm:Nat->Str
 |0=>"NoDie"
 |1=>"NoDice"
 |2=>"NoTotals"
 |3=>"NoNumber"
 |4=>"TooMany"
 |5=>"NoText"
 |6=>"NoSide"
 |7=>"NoRoll"
 |8=>"NoChoices"
 |9=>"Against"
 |_=>"Nothing"
def xNo:DX:=fun _ _=>none
def aAy(ar:Nat)(f:FnX)(a:DB):DX:=fun ρ n=>(a ρ n).bind fun r=>if r.1.length=ar then f r.1 r.2 else none
def vK:DV:=fun _ n=>some n
def vI(d:DE)(r:DV):DV:=fun ρ n=>(d ρ n).bind fun a=>match a.1 with
 |.int i=>if small i then r ρ a.2.2 else none
 |_=>none
def aIf(c:Nat)(a:DV):DX:=fun ρ n=>(a ρ n).map fun n'=>(c,n')
def xSeq(xa:DX)(a:DS)(xr:DX):DX:=fun ρ n=>match xa ρ n with
 |some r=>some r
 | none=>(a ρ n).bind fun r=>match r.1 with
  |.nx=>xr r.2.1 r.2.2
  |_=>none
def xIf(c:DT)(xa xb:DX):DX:=fun ρ n=>(c ρ n).bind fun r=>if r.1 then xa ρ r.2 else xb ρ r.2
def fnX(many:Nat)(xb:DX):FnX:=fun ts n=>xb (ts.map (fun t=>some (t.1,if t.2 then .fz else .bor))++List.replicate (many - ts.length) none) n
def aMm{α:Type}(l:List α)(i:Int):Option α:=if 0<=i/\i<l.length then l[i.toNat]? else none
def dSel(k:DE)(fs:List (Nat × Fn))(a:DB):DE:=fun ρ n=>(k ρ n).bind fun r=>match r.1 with
 |.int i=>(aMm fs i).bind fun f=>dCall f.1 f.2 a ρ r.2.2
 |_=>none
def xSel(k:DE)(fs:List (Nat × FnX))(a:DB):DX:=fun ρ n=>(k ρ n).bind fun r=>match r.1 with
 |.int i=>(aMm fs i).bind fun f=>aAy f.1 f.2 a ρ r.2.2
 |_=>none
def pAt(a:Nat)(b:Bool):Pr:=fun _ ts=>match ts with
 |[.ob x]=>if x=a then some (.bl b,.fz) else none
 |_=>none
end L2.Ds
namespace L2.Ds
def aM2(cs:List Nat)(b:DS)(xb:DX)(h:Nat->Option T):DS:=fun ρ n=>match xb ρ n with
 |some r=>if r.1∈cs then (h r.1).map fun t=>(.rt t false,ρ,r.2) else none
 |none=>b ρ n
end L2.Ds
namespace L2.Ds
open PySem
def dItEnT(d:DE):DI:=fun ρ n=>(d ρ n).bind fun r=>match r.1 with
 |.tup xs=>some (enumT xs,r.2.2)
 |_=>none
def aXa(d e:DE):DI:=fun ρ n=>(d ρ n).bind fun r=>(e ρ r.2.2).bind fun q=>match r.1,q.1 with
 |.tup xs,.tup ys=>some (List.zipWith (fun x y=>.tup [x,y]) xs ys,q.2.2)
 |_,_=>none
def pairT(l:List Int):T:=.tup [.int l.length,tupT l]
end L2.Ds
namespace L2.Ds
open PySem PySem.Spec PyProof.Rows
section
variable (tw:Addr)(H:Hp)
mutual
def Rep:T->V->Prop
 |.non,v=>v = .non
 |.bl b,v=>v = .bl b
 |.int i,v=>v = .int i
 |.str x,v=>v = .str x
 |.tup xs,v=>∃a vs,v = .ref a/\H a=some (.tup vs)/\Reps xs vs
 |.lst xs,v=>∃a o vs,v = .ref a/\H a=some (.frz o (.lst vs))/\Reps xs vs
 |.dic kvs,v=>∃a o ws,v = .ref a/\H a=some (.frz o (.dK ws))/\RepK kvs ws
 |.town,v=>v = .ref tw
 |.ob a,v=>v = .ref a
 |.gs _ _,_=>False
 |.rdc ks,v=>∃a o ws,v = .ref a/\H a=some (.frz o (.dR ws))/\ks=ws.map (·.1)
def Reps:List T->List V->Prop
 |[],vs=>vs = []
 |x::xs,vs=>∃v r,vs=v::r/\Rep x v/\Reps xs r
def RepK:List (Key × T)->List (Key × V)->Prop
 |[],ws=>ws = []
 |(k,x)::xs,ws=>∃v r,ws=(k,v)::r/\Rep x v/\RepK xs r
end
end
def Fx(H H':Hp):Prop:=∀a,(∀vs,H a=some (.tup vs)->H' a=some (.tup vs))/\∀o u,H a=some (.frz o u)->H' a=some (.frz o u)
def lamQ:Str:="all_places.<locals>.<lambda>"
def CodeF(c:Addr)(h:Heap):Prop:=h.CodeRec (.ref c) lamQ
def TabG(H:Hp)(ps:Array Value):Prop:=TriplesOk ps.toList/\∀pos cv,codeAmong pos ps.toList=some cv->∃c,cv = .ref c/\H c=some (.ext (CodeF c))
structure Ext (tw:Addr) (H H':Hp):Prop where
 to:∀a o,H a=some o->a≠tw->(∀ps,o ≠ .tbl ps)->H' a=some o
 tb:∀a ps,H a=some (.tbl ps)->∃ps',H' a=some (.tbl ps')/\(TabG H ps->TabG H' ps')
def Tn(tw:Addr)(n:Nat)(H:Hp):Prop:=H tw=some (.lst (List.replicate n (.int 0)))
theorem Fx.refl(H:Hp):Fx H H:=fun _=>⟨fun _ h=>h,fun _ _ h=>h⟩
theorem Fx.trans(a:Fx H H1)(b:Fx H1 H2):Fx H H2:=fun x=>⟨fun vs h=>(b x).1 vs ((a x).1 vs h),fun o u h=>(b x).2 o u ((a x).2 o u h)⟩
theorem Ext.refl(tw:Addr)(H:Hp):Ext tw H H:=⟨fun _ _ h _ _=>h,fun _ ps h=>⟨ps,h,fun z=>z⟩⟩
theorem Ext.trans(a:Ext tw H H1)(b:Ext tw H1 H2):Ext tw H H2:=⟨fun x o h n t=>b.to x o (a.to x o h n t) n t,fun x ps h=>by
 obtain⟨p1,h1,g1⟩:=a.tb x ps h;obtain⟨p2,h2,g2⟩:=b.tb x p1 h1
 exact⟨p2,h2,fun z=>g2 (g1 z)⟩⟩
theorem TabG.keep(g:TabG H ps)(k:∀a φ,H a=some (.ext φ)->H' a=some (.ext φ)):TabG H' ps:=⟨g.1,fun pos cv e=>let ⟨c,h1,h2⟩:=g.2 pos cv e;⟨c,h1,k _ _ h2⟩⟩
theorem Ext.all(k:∀a o,H a=some o->H' a=some o):Ext tw H H':=⟨fun a o h _ _=>k a o h,fun a ps h=>⟨ps,k a _ h,fun g=>g.keep fun a φ e=>k a _ e⟩⟩
theorem Ext.put(e:Ext tw B H)(hB:B a=none)(hx:∀φ,H a≠some (.ext φ)):Ext tw B (upd H a o) :=
 ⟨fun b u q nb t=>by rw[aAn (by rintro rfl;rw[hB] at q;cases q)];exact e.to b u q nb t,fun b ps q=>by
  obtain⟨p1,h1,g1⟩:=e.tb b ps q
  exact⟨p1,by rw[aAn (by rintro rfl;rw[hB] at q;cases q)];exact h1,fun z=>(g1 z).keep fun c φ y=>by rw[aAn (by rintro rfl;exact hx φ y)];exact y⟩⟩
theorem Tn.ne_tup{n:Nat}(t:Tn tw n H)(h:H a=some (.tup vs)):a≠tw:=by intro e;subst e;rw[Tn] at t;rw[t] at h;cases h
theorem Tn.ne_frz{n:Nat}(t:Tn tw n H)(h:H a=some (.frz o u)):a≠tw:=by intro e;subst e;rw[Tn] at t;rw[t] at h;cases h
theorem Ext.fx{n:Nat}(t:Tn tw n H)(e:Ext tw H H'):Fx H H':=fun a =>
 ⟨fun vs h=>e.to a _ h (t.ne_tup h) (fun _ z=>nomatch z),fun o u h=>e.to a _ h (t.ne_frz h) (fun _ z=>nomatch z)⟩
theorem Fx.new(h:H p=none):Fx H (upd H p o):=fun a =>
 ⟨fun vs e=>by rw[aAn (aB4 e h)];exact e,fun _ _ e=>by rw[aAn (aB4 e h)];exact e⟩
theorem Ext.new(h:H p=none):Ext tw H (upd H p o):=.all fun a u e=>by rw[aAn (aB4 e h)];exact e
theorem Tn.new{n:Nat}(t:Tn tw n H)(h:H p=none):Tn tw n (upd H p o):=by unfold Tn at *;rw[aAn (aB4 t h)];exact t
mutual
theorem Rep.mono(h:Fx H H'):∀ (t:T) (v:V),Rep tw H t v->Rep tw H' t v
 |.non,v,r=>by simpa[Rep] using r
 |.bl b,v,r=>by simpa[Rep] using r
 |.int i,v,r=>by simpa[Rep] using r
 |.str x,v,r=>by simpa[Rep] using r
 |.town,v,r=>by simpa[Rep] using r
 |.ob a,v,r=>by simpa[Rep] using r
 |.gs _ _,v,r=>by rw[Rep] at r;exact r.elim
 |.rdc ks,v,r=>by rw[Rep] at r |-;obtain⟨a,o,ws,e,p,q⟩:=r;exact⟨a,o,ws,e,(h a).2 _ _ p,q⟩
 |.tup xs,v,r=>by rw[Rep] at r |-;obtain⟨a,vs,e,p,q⟩:=r;exact⟨a,vs,e,(h a).1 _ p,Reps.mono h xs vs q⟩
 |.lst xs,v,r=>by rw[Rep] at r |-;obtain⟨a,o,vs,e,p,q⟩:=r;exact⟨a,o,vs,e,(h a).2 _ _ p,Reps.mono h xs vs q⟩
 |.dic xs,v,r=>by rw[Rep] at r |-;obtain⟨a,o,vs,e,p,q⟩:=r;exact⟨a,o,vs,e,(h a).2 _ _ p,RepK.mono h xs vs q⟩
theorem Reps.mono(h:Fx H H'):∀ (t:List T) (v:List V),Reps tw H t v->Reps tw H' t v
 |[],v,r=>by rw[Reps] at r |-;exact r
 |x::xs,v,r=>by rw[Reps] at r |-;obtain⟨w,rr,e,p,q⟩:=r;exact⟨w,rr,e,Rep.mono h x w p,Reps.mono h xs rr q⟩
theorem RepK.mono(h:Fx H H'):∀ (t:List (Key × T)) (v:List (Key × V)),RepK tw H t v->RepK tw H' t v
 |[],v,r=>by rw[RepK] at r |-;exact r
 |(k,x)::xs,v,r=>by rw[RepK] at r |-;obtain⟨w,rr,e,p,q⟩:=r;exact⟨w,rr,e,Rep.mono h x w p,RepK.mono h xs rr q⟩
end
section
variable {tw:Addr}{H:Hp}
theorem aB2(r:Reps tw H [] vs):vs = []:=by rw[Reps] at r;exact r
theorem aA1(r:Reps tw H (x::xs) vs):∃v w,vs=v::w/\Rep tw H x v/\Reps tw H xs w:=by rw[Reps] at r;exact r
theorem Reps.nil:Reps tw H [] []:=by rw[Reps]
theorem Reps.cons{x:T}{v:V}{xs:List T}{vs:List V}(a:Rep tw H x v)(b:Reps tw H xs vs):Reps tw H (x::xs) (v::vs):=by rw[Reps];exact⟨v,vs,rfl,a,b⟩
theorem Reps.length:∀ {xs:List T} {vs:List V},Reps tw H xs vs->xs.length=vs.length
 |[],_,r=>by rw[aB2 r];rfl
 |_::xs,_,r=>by obtain⟨v,w,rfl,_,q⟩:=aA1 r;rw[ah,ah,Reps.length q]
theorem Reps.get:∀ {xs:List T} {vs:List V} {i:Nat} {x:T},Reps tw H xs vs->xs[i]?=some x->∃v,vs[i]?=some v/\Rep tw H x v
 |[],_,_,_,_,e=>by simp at e
 |y::xs,_,0,x,r,e=>by obtain⟨v,w,rfl,p,q⟩:=aA1 r;simp at e;subst e;exact⟨v,rfl,p⟩
 |y::xs,_,i+1,x,r,e=>by obtain⟨v,w,rfl,p,q⟩:=aA1 r;obtain⟨u,h1,h2⟩:=Reps.get (i:=i) (x:=x) q (by simpa using e);exact⟨u,by simpa using h1,h2⟩
theorem Reps.append:∀ {xs ys:List T} {vs ws:List V},Reps tw H xs vs->Reps tw H ys ws->Reps tw H (xs++ys) (vs++ws)
 |[],_,_,_,r,s=>by rw[aB2 r];exact s
 |x::xs,ys,_,ws,r,s=>by obtain⟨v,w,rfl,p,q⟩:=aA1 r;exact .cons p (Reps.append q s)
theorem Reps.take:∀ {xs:List T} {vs:List V} (n:Nat),Reps tw H xs vs->Reps tw H (xs.take n) (vs.take n)
 |_,_,0,_=>by simp;exact .nil
 |[],_,_+1,r=>by rw[aB2 r];exact .nil
 |x::xs,_,n+1,r=>by obtain⟨v,w,rfl,p,q⟩:=aA1 r;exact .cons p (Reps.take n q)
theorem Reps.drop:∀ {xs:List T} {vs:List V} (n:Nat),Reps tw H xs vs->Reps tw H (xs.drop n) (vs.drop n)
 |_,_,0,r=>r
 |[],_,_+1,r=>by rw[aB2 r];exact .nil
 |x::xs,_,n+1,r=>by obtain⟨v,w,rfl,p,q⟩:=aA1 r;exact Reps.drop n q
theorem Reps.set(a:Rep tw H x v):∀ {xs:List T} {vs:List V} (i:Nat),Reps tw H xs vs->Reps tw H (xs.set i x) (vs.set i v)
 |[],_,_,r=>by rw[aB2 r];exact .nil
 |y::xs,_,0,r=>by obtain⟨v',w,rfl,p,q⟩:=aA1 r;exact .cons a q
 |y::xs,_,i+1,r=>by obtain⟨v',w,rfl,p,q⟩:=aA1 r;exact .cons p (Reps.set a i q)
theorem Reps.reverse(r:Reps tw H xs vs):Reps tw H xs.reverse vs.reverse:=by
 induction xs generalizing vs with
 |nil=>rw[aB2 r];exact .nil
 | cons x xs ih =>
  obtain⟨v,w,rfl,p,q⟩:=aA1 r;rw[iZ,iZ];exact(ih q).append (.cons p .nil)
theorem Reps.rep(r:Reps tw H xs vs):∀k:Nat,Reps tw H (List.replicate k xs).flatten (List.replicate k vs).flatten
 |0=>.nil
 |k+1=>by rw[fi,fi,gr,gr];exact r.append (Reps.rep r k)
theorem Reps.ints(ns:List Int):Reps tw H (ns.map T.int) (ns.map V.int):=by
 induction ns with
 |nil=>exact .nil
 |cons n ns ih=>exact .cons (by rw[Rep]) ih
theorem aE6:∀ {ns:List Int} {vs:List V},Reps tw H (ns.map T.int) vs->vs=ns.map V.int
 |[],_,r=>aB2 r
 |n::ns,_,r=>by obtain⟨v,w,rfl,p,q⟩:=aA1 r;rw[Rep] at p;rw[p,aE6 q];rfl
end
def SqR(K:PySem.W.Frag)(tw:Addr)(H:Hp)(a:Addr)(vs:List V):Prop :=
 (a≠tw/\Rd H a (.lst vs)) \/
  (∃ (o:Obj) (its:Array Value) (n:Nat),K.lookup a=some o/\o.cls = .type "list" /\ o.dict=none/\o.data = .seq its n/\its.size<=sizeLine/\Vals vs its.toList)\/(a≠tw/\H a=some (.tol vs))
theorem SqR.sq{K:PySem.W.Frag}{tw:Addr}{H:Hp}{a:Addr}{vs:List V}(h:SqR K tw H a vs):SqL K H a vs:=h.imp (·.2) fun z=>z.imp id (·.2)
theorem SqR.ext{K:PySem.W.Frag}{tw:Addr}{H H':Hp}{a:Addr}{vs:List V}(e:Ext tw H H')(h:SqR K tw H a vs):SqR K tw H' a vs:=by
 rcases h with ⟨n,h⟩ |h |⟨n,h⟩
 ·rcases h with h |⟨o,h⟩
  ·exact .inl ⟨n,.inl (e.to a _ h n (fun _ z=>nomatch z))⟩
  ·exact .inl ⟨n,.inr ⟨o,e.to a _ h n (fun _ z=>nomatch z)⟩⟩
 ·exact .inr (.inl h)
 ·exact .inr (.inr ⟨n,e.to a _ h n (fun _ z=>nomatch z)⟩)
def GsC(K:PySem.W.Frag)(C:Addr):Prop:=PySem.W.nsIn K mainGlobals "Guess" = some (some (.ref C))
def GsAt(K:PySem.W.Frag)(tw:Addr)(H:Hp)(a l:Addr)(tb:T)(td:List T):Prop :=
 a≠tw/\l≠tw/\∃C dx fs vt vs,H a=some (.ins C dx fs)/\fs.map (·.1) = [("tables" : Str),("told" : Str)]/\fs.lookup ("tables" : Str)=some vt/\fs.lookup ("told" : Str)=some (.ref l)/\Rep tw H tb vt/\H l=some (.tol vs)/\Reps tw H td vs/\GsC K C
def Root(K:PySem.W.Frag)(tw:Addr)(H:Hp):T->V->Prop
 |.lst xs,v=>∃a vs,v = .ref a/\SqR K tw H a vs/\Reps tw H xs vs
 |.dic kvs,v=>∃a ws,v = .ref a/\a≠tw/\Rd H a (.dK ws)/\RepK tw H kvs ws
 |.rdc ks,v=>∃a ws,v = .ref a/\a≠tw/\Rd H a (.dR ws)/\ks=ws.map (·.1)
 |.gs tb td,v=>∃a l,v = .ref a/\GsAt K tw H a l tb td
 |t,v=>Rep tw H t v
def aK9(tw:Addr)(H:Hp)(a:Addr):T->Prop
 |.lst xs=>∃vs,H a=some (.lst vs)/\Reps tw H xs vs
 |.dic kvs=>∃ws,H a=some (.dK ws)/\RepK tw H kvs ws
 |.rdc ks=>∃ws,H a=some (.dR ws)/\ks=ws.map (·.1)
 |_=>False
section
variable {K:PySem.W.Frag}{tw:Addr}{H H':Hp}{n:Nat}
theorem GsAt.told(g:GsAt K tw H a l tb td)(g':GsAt K tw H a l' tb' td'):l=l':=by obtain⟨_,_,C,dx,fs,vt,vs,h1,_,_,h3,_⟩:=g;obtain⟨_,_,C',dx',fs',vt',vs',k1,_,_,k3,_⟩:=g';rw[h1] at k1;cases k1;rw[h3] at k3;cases k3;rfl
theorem GsAt.ext(tn:Tn tw n H)(e:Ext tw H H')(g:GsAt K tw H a l tb td):GsAt K tw H' a l tb td:=by obtain⟨na,nl,C,dx,fs,vt,vs,h1,h0,h2,h3,h4,h5,h6,h7⟩:=g;exact⟨na,nl,C,dx,fs,vt,vs,e.to a _ h1 na (fun _ z=>nomatch z),h0,h2,h3,Rep.mono (e.fx tn) _ _ h4,e.to l _ h5 nl (fun _ z=>nomatch z),Reps.mono (e.fx tn) _ _ h6,h7⟩
theorem GsAt.other(fx:Fx H (upd H x o))(g:GsAt K tw H a l tb td)(n1:∀C dx fs,H x≠some (.ins C dx fs))(n2:∀vs,H x≠some (.tol vs)):GsAt K tw (upd H x o) a l tb td:=by obtain⟨na,nl,C,dx,fs,vt,vs,h1,h0,h2,h3,h4,h5,h6,h7⟩:=g;exact⟨na,nl,C,dx,fs,vt,vs,by rw[aAn (by rintro rfl;exact n1 _ _ _ h1)];exact h1,h0,h2,h3,Rep.mono fx _ _ h4,by rw[aAn (by rintro rfl;exact n2 _ h5)];exact h5,Reps.mono fx _ _ h6,h7⟩
theorem Root.of_rep(tn:Tn tw n H)(r:Rep tw H t v):Root K tw H t v:=by
 cases t with
 | lst xs =>
  rw[Rep] at r;obtain⟨a,o,vs,e,h,q⟩:=r;exact⟨a,vs,e,.inl ⟨tn.ne_frz h,.inr ⟨o,h⟩⟩,q⟩
 | dic kvs =>
  rw[Rep] at r;obtain⟨a,o,ws,e,h,q⟩:=r;exact⟨a,ws,e,tn.ne_frz h,.inr ⟨o,h⟩,q⟩
 | rdc ks =>
  rw[Rep] at r;obtain⟨a,o,ws,e,h,q⟩:=r;exact⟨a,ws,e,tn.ne_frz h,.inr ⟨o,h⟩,q⟩
 |gs tb td=>rw[Rep] at r;exact r.elim
 |_=>exact r
theorem Root.rep(b:aDx t=false)(r:Root K tw H t v):Rep tw H t v:=by
 cases t with
 |lst xs=>cases b
 |dic kvs=>cases b
 |rdc ks=>cases b
 |gs _ _=>cases b
 |_=>exact r
theorem Root.ext(tn:Tn tw n H)(e:Ext tw H H')(r:Root K tw H t v):Root K tw H' t v:=by
 cases t with
 | lst xs =>
  obtain⟨a,vs,e',h,q⟩:=r;exact⟨a,vs,e',h.ext e,Reps.mono (e.fx tn) _ _ q⟩
 | dic kvs =>
  obtain⟨a,ws,e',na,h,q⟩:=r;refine⟨a,ws,e',na,?_,RepK.mono (e.fx tn) _ _ q⟩;rcases h with h |⟨o,h⟩
  ·exact .inl (e.to a _ h na (fun _ z=>nomatch z))
  ·exact .inr ⟨o,e.to a _ h na (fun _ z=>nomatch z)⟩
 | rdc ks =>
  obtain⟨a,ws,e',na,h,q⟩:=r;refine⟨a,ws,e',na,?_,q⟩;rcases h with h |⟨o,h⟩
  ·exact .inl (e.to a _ h na (fun _ z=>nomatch z))
  ·exact .inr ⟨o,e.to a _ h na (fun _ z=>nomatch z)⟩
 |gs tb td=>obtain⟨a,l,e',g⟩:=r;exact⟨a,l,e',g.ext tn e⟩
 |_=>exact Rep.mono (e.fx tn) _ _ r
theorem aK9.root(na:a≠tw)(h:aK9 tw H a t):Root K tw H t (.ref a):=by
 cases t with
 | lst xs =>
  obtain⟨vs,e,q⟩:=h;exact⟨a,vs,rfl,.inl ⟨na,.inl e⟩,q⟩
 | dic kvs =>
  obtain⟨ws,e,q⟩:=h;exact⟨a,ws,rfl,na,.inl e,q⟩
 | rdc ks =>
  obtain⟨ws,e,q⟩:=h;exact⟨a,ws,rfl,na,.inl e,q⟩
 |_=>exact h.elim
theorem aK9.ext(na:a≠tw)(tn:Tn tw n H)(e:Ext tw H H')(h:aK9 tw H a t):aK9 tw H' a t:=by
 cases t with
 | lst xs =>
  obtain⟨vs,e',q⟩:=h;exact⟨vs,e.to a _ e' na (fun _ z=>nomatch z),Reps.mono (e.fx tn) _ _ q⟩
 | dic kvs =>
  obtain⟨ws,e',q⟩:=h;exact⟨ws,e.to a _ e' na (fun _ z=>nomatch z),RepK.mono (e.fx tn) _ _ q⟩
 | rdc ks =>
  obtain⟨ws,e',q⟩:=h;exact⟨ws,e.to a _ e' na (fun _ z=>nomatch z),q⟩
 |_=>exact h.elim
theorem aK9.some(h:aK9 tw H a t):H a≠none:=by
 intro z;cases t with
 | lst xs =>
  obtain⟨vs,e',q⟩:=h;rw[z] at e';cases e'
 | dic kvs =>
  obtain⟨ws,e',q⟩:=h;rw[z] at e';cases e'
 | rdc ks =>
  obtain⟨ws,e',q⟩:=h;rw[z] at e';cases e'
 |_=>exact h.elim
end
def mkOf(K:PySem.W.Frag):Option (Addr × Addr):=match PySem.W.nsIn K mainGlobals "all_places" with
 | some (some (.ref f))=>(match K.lookup f with
  | some ⟨_,_,.func fd,_⟩=>(match fd.code with
   | .ref c=>(match K.lookup c with
    | some ⟨_,_,.fields vs,_⟩=>(match (vs[11]?:Option Value) with
     |some (.ref P)=>if PySem.W.codeHdIn K c P then some (c,P) else none
     |_=>none)
    |_=>none)
   |_=>none)
  |_=>none)
 |_=>none
def Tb(K:PySem.W.Frag)(H:Hp):Prop:=∀c P,mkOf K=some (c,P)->∃ps,H P=some (.tbl ps)/\TabG H ps
theorem Tb.none{K:PySem.W.Frag}{H:Hp}(h:mkOf K = .none):Tb K H:=fun c P z=>by rw[h] at z;cases z
theorem Tb.ext{K:PySem.W.Frag}{tw:Addr}{H H':Hp}(t:Tb K H)(e:Ext tw H H'):Tb K H':=fun c P z=>by obtain⟨ps,h1,h2⟩:=t c P z;obtain⟨p',h3,h4⟩:=e.tb P ps h1;exact⟨p',h3,h4 h2⟩
structure Rel (K:PySem.W.Frag) (B:Hp) (tw:Addr) (ρ:En) (n:Nat) (σ:St) (H:Hp):Prop where
 ext:Ext tw B H
 tn:Tn tw n H
 btn:(∃n0,Tn tw n0 B)/\Tb K B
 len:ρ.length=σ.length
 fz:∀ (i:Nat) (t:T),ρ[i]?=some (some (t,.fz))->∃v,σ[i]?=some (some v)/\Rep tw H t v
 bor:∀ (i:Nat) (t:T),ρ[i]?=some (some (t,.bor))->∃v,σ[i]?=some (some v)/\Root K tw B t v
 own:∀ (i:Nat) (t:T),ρ[i]?=some (some (t,.own))->∃a,σ[i]?=some (some (.ref a))/\B a=none/\aK9 tw H a t
 nol:∀ (i:Nat) (t:T),ρ[i]?=some (some (t,.lent))->isGs t=true
 gom:∀ (i:Nat) (tb:T) (td:List T),ρ[i]?=some (some (.gs tb td,.lent))->∃a l,σ[i]?=some (some (.ref a))/\GsAt K tw H a l tb td/\B a=none/\B l=none
 gdis:∀ (i j:Nat) (tb tb':T) (td td':List T) (a a' l:Addr),ρ[i]?=some (some (.gs tb td,.lent))->ρ[j]?=some (some (.gs tb' td',.lent))->σ[i]?=some (some (.ref a))->σ[j]?=some (some (.ref a'))->GsAt K tw H a l tb td->GsAt K tw H a' l tb' td'->i=j
 dis:∀ (i j:Nat) (t t':T) (a:Addr),ρ[i]?=some (some (t,.own))->ρ[j]?=some (some (t',.own))->σ[i]?=some (some (.ref a))->σ[j]?=some (some (.ref a))->i=j
def Val(K:PySem.W.Frag)(B:Hp)(tw:Addr)(H0 H:Hp)(t:T)(m:Md)(v:V):Prop :=
 match m with
 |.fz=>Rep tw H t v
 |.bor=>Root K tw B t v
 |.lent=>Root K tw H t v
 |.own=>∃a,v = .ref a/\H0 a=none/\aK9 tw H a t
section
variable {K:PySem.W.Frag}{B:Hp}{tw:Addr}{ρ:En}{n n' n0:Nat}{σ:St}{H H' H0 H1:Hp}{t:T}{m:Md}{v:V}
theorem Tn.ne_none(tn:Tn tw n H)(h:H a=none):a≠tw:=fun e=>by subst e;unfold Tn at tn;rw[h] at tn;cases tn
theorem Ext.free(e:Ext tw H0 H)(tn:Tn tw n H)(h:H a=none):H0 a=none:=by
 cases z:H0 a with
 |none=>rfl
 | some o =>
  by_cases ht:∃ps,o = .tbl ps
  ·obtain⟨ps,rfl⟩:=ht;obtain⟨p',this,_⟩:=e.tb a ps z;rw[h] at this;cases this
  ·have:=e.to a o z (tn.ne_none h) fun ps q=>ht ⟨ps,q⟩;rw[h] at this;cases this
theorem Rel.own_ne(R:Rel K B tw ρ n σ H)(h:B a=none):a≠tw:=let ⟨_,b⟩:=R.btn.1;b.ne_none h
theorem Rel.go{ρ':En}{σ':St}(R:Rel K B tw ρ n σ H)(r:Nat->Nat->Prop)(inj:∀i i' j,r i j->r i' j->i=i')(hs:∀ (i:Nat) (tb:T) (td:List T),ρ'[i]?=some (some (.gs tb td,.lent))->∃j,r i j/\ρ[j]?=some (some (.gs tb td,.lent))/\σ'[i]?=σ[j]?)(hk:∀a l tb td,GsAt K tw H a l tb td->GsAt K tw H' a l tb td) :
  (∀ (i:Nat) (tb:T) (td:List T),ρ'[i]?=some (some (.gs tb td,.lent))->∃a l,σ'[i]?=some (some (.ref a))/\GsAt K tw H' a l tb td/\B a=none/\B l=none) /\
  ∀ (i j:Nat) (tb tb':T) (td td':List T) (a a' l:Addr),ρ'[i]?=some (some (.gs tb td,.lent))->ρ'[j]?=some (some (.gs tb' td',.lent))->σ'[i]?=some (some (.ref a))->σ'[j]?=some (some (.ref a'))->GsAt K tw H' a l tb td->GsAt K tw H' a' l tb' td'->i=j:=by
 refine⟨fun i tb td h=>?_,fun i j tb tb' td td' a a' l h1 h2 s1 s2 g1 g2=>?_⟩
 ·obtain⟨j,_,q1,q2⟩:=hs i tb td h;obtain⟨a,l,w1,w2,w3⟩:=R.gom j tb td q1;exact⟨a,l,q2.trans w1,hk _ _ _ _ w2,w3⟩
 ·obtain⟨k,r1,q1,q2⟩:=hs i tb td h1;obtain⟨k',r2,q1',q2'⟩:=hs j tb' td' h2;obtain⟨b,c,w1,w2,_⟩:=R.gom k tb td q1;obtain⟨b',c',w1',w2',_⟩:=R.gom k' tb' td' q1';rw[q2,w1] at s1;cases s1;rw[q2',w1'] at s2;cases s2;have e1:=(hk _ _ _ _ w2).told g1;have e2:=(hk _ _ _ _ w2').told g2;subst e1 e2;obtain rfl:=R.gdis k k' tb tb' td td' _ _ _ q1 q1' w1 w1' w2 w2';exact inj i j k r1 r2
theorem Rel.mono(R:Rel K B tw ρ n σ H)(e:Ext tw H H')(tn':Tn tw n' H'):Rel K B tw ρ n' σ H' :=
 ⟨R.ext.trans e,tn',R.btn,R.len,fun i t h=>let ⟨v,h1,h2⟩:=R.fz i t h;⟨v,h1,Rep.mono (e.fx R.tn) _ _ h2⟩,R.bor,
  fun i t h=>let ⟨a,h1,h2,h3⟩:=R.own i t h;⟨a,h1,h2,h3.ext (R.own_ne h2) R.tn e⟩,R.nol,(R.go (· = ·) (fun _ _ _ h1 h2=>h1.trans h2.symm) (fun i _ _ h=>⟨i,rfl,h,rfl⟩) fun _ _ _ _ g=>g.ext R.tn e).1,(R.go (· = ·) (fun _ _ _ h1 h2=>h1.trans h2.symm) (fun i _ _ h=>⟨i,rfl,h,rfl⟩) fun _ _ _ _ g=>g.ext R.tn e).2,R.dis⟩
theorem Val.back(e:Ext tw H0 H1)(h1:Tn tw n H1)(h:Val K B tw H1 H t m v):Val K B tw H0 H t m v:=by
 cases m with
 |fz=>exact h
 |bor=>exact h
 |lent=>exact h
 | own =>
  obtain⟨a,q1,q2,q3⟩:=h;exact⟨a,q1,e.free h1 q2,q3⟩
theorem Val.root(R:Rel K B tw ρ n σ H)(h0:Tn tw n0 H0)(h:Val K B tw H0 H t m v):Root K tw H t v:=by
 cases m with
 |fz=>exact Root.of_rep R.tn h
 |bor=>exact let ⟨_,b⟩:=R.btn.1;Root.ext (v:=v) b R.ext h
 |lent=>exact h
 | own =>
  obtain⟨a,rfl,q2,q3⟩:=h;exact q3.root (h0.ne_none q2)
end
inductive Roots (K:PySem.W.Frag) (tw:Addr) (H:Hp):List T->List V->Prop
 |nil:Roots K tw H [] []
 |cons {t:T} {v:V} {ts:List T} {vs:List V}:Root K tw H t v->Roots K tw H ts vs->Roots K tw H (t::ts) (v::vs)
def rE(K:PySem.W.Frag)(B:Hp)(tw:Addr)(ρ:En)(n:Nat)(t:T)(m:Md)(n':Nat):TE:=fun σ H Q =>
 Rel K B tw ρ n σ H/\∀v H',Ext tw H H'->Tn tw n' H'->Val K B tw H H' t m v->Q v H'
def rA(K:PySem.W.Frag)(B:Hp)(tw:Addr)(ρ:En)(n:Nat)(ts:List T)(n':Nat):TA:=fun σ H Q =>
 Rel K B tw ρ n σ H/\∀vs H',Ext tw H H'->Tn tw n' H'->Roots K tw H' ts vs->Q vs H'
def KF(K:PySem.W.Frag)(B:Hp)(tw:Addr)(f:Fl)(ρ':En)(n':Nat)(D:Ends)(H:Hp):Prop:=match f with
  |.nx=>∀σ' H',Fx H H'->Rel K B tw ρ' n' σ' H'->D.nx σ' H'
  |.bk=>∀σ' H',Fx H H'->Rel K B tw ρ' n' σ' H'->D.bk σ' H'
  |.ct=>∀σ' H',Fx H H'->Rel K B tw ρ' n' σ' H'->D.ct σ' H'
  |.rt t m=>∀v H',Fx H H'->Ext tw B H'->Tn tw n' H'->Val K B tw B H' t (md m) v->D.rt v H'
theorem KF.fx{K:PySem.W.Frag}{B:Hp}{tw:Addr}{f:Fl}{ρ':En}{n':Nat}{D:Ends}{H H1:Hp}(e:Fx H H1)(h:KF K B tw f ρ' n' D H):KF K B tw f ρ' n' D H1:=by
 cases f with
 |nx=>exact fun σ' H' x y=>h σ' H' (e.trans x) y
 |bk=>exact fun σ' H' x y=>h σ' H' (e.trans x) y
 |ct=>exact fun σ' H' x y=>h σ' H' (e.trans x) y
 |rt t m=>exact fun v H' x y z w=>h v H' (e.trans x) y z w
def rS(K:PySem.W.Frag)(B:Hp)(tw:Addr)(ρ:En)(n:Nat)(f:Fl)(ρ':En)(n':Nat):TS:=fun D σ H =>
 Rel K B tw ρ n σ H/\KF K B tw f ρ' n' D H
def SE(X:Cx)(tw:Addr)(e:Expr)(d:DE):Prop:=∀B ρ n t m n',d ρ n=some (t,m,n')->PE X e (rE X.K B tw ρ n t m n')
def SA(X:Cx)(tw:Addr)(es:List Expr)(d:DA):Prop:=∀B ρ n ts n',d ρ n=some (ts,n')->PA X es (rA X.K B tw ρ n ts n')
def SS(X:Cx)(tw:Addr)(st:Stmt)(d:DS):Prop:=∀B ρ n f ρ' n',d ρ n=some (f,ρ',n')->PS X st (rS X.K B tw ρ n f ρ' n')
def SSs(X:Cx)(tw:Addr)(st:List Stmt)(d:DS):Prop:=∀B ρ n f ρ' n',d ρ n=some (f,ρ',n')->PSs X st (rS X.K B tw ρ n f ρ' n')
section
variable {X:Cx}{tw:Addr}
theorem aAb(i:Nat){x:Str}{pos:Pos}(hN:autoParam (X.N[i]?=some x) az0._auto_1)(hv:autoParam (Vis X.env.scope x) az7._auto_1)(hd:autoParam ZL az1._auto_1)
  (hcd:autoParam ((x==("__classdict__" : Str))=false) az1._auto_1):SE X tw (.Name x pos) (dVar i):=by
 intro B ρ n t m n' h pins s σ H Q I ⟨R,k⟩;unfold dVar at h;cases e:ρ[i]? with
 |none=>rw[e] at h;cases h
 | some o =>
  cases o with
  |none=>rw[e] at h;cases h
  | some p =>
   obtain⟨t',m'⟩:=p;rw[e] at h;have h:some (t',look m' t',n)=some (t,m,n'):=h;cases h;have fin:∃v,σ[i]?=some (some v)/\Val X.K B tw H H t (look m' t) v:=by
    cases m' with
    |fz=>exact R.fz i t e
    | lent =>
     cases t with
     |gs tb td=>obtain⟨a,l,h1,h2,_⟩:=R.gom i tb td e;exact⟨_,h1,a,l,rfl,h2⟩
     |_=>exact absurd (R.nol i _ e) (by simp[isGs])
    | bor =>
     obtain⟨v,h1,h2⟩:=R.bor i t e;refine⟨v,h1,?_⟩;unfold look;cases b:aDx t with
     |true=>exact h2
     |false=>exact let ⟨_,bt⟩:=R.btn.1;Rep.mono (R.ext.fx bt) _ _ (h2.rep b)
    | own =>
     obtain⟨a,h1,h2,h3⟩:=R.own i t e;refine⟨.ref a,h1,?_⟩;unfold look;cases b:aDx t with
     |true=>exact h3.root (R.own_ne h2)
     |false=>cases t<;>first |exact(show False from h3).elim |cases b
   obtain⟨v,h1,h2⟩:=fin;exact aLu hN hv hd hcd pins s σ H Q I ⟨v,h1,k v H (.refl _ _) R.tn h2⟩
theorem se_k{e:Expr}{t:T}{v:V}(h:PE X e (tC v))(r:∀H,Rep tw H t v):SE X tw e (dK t):=by intro B ρ n t' m n' hd pins s σ H Q I ⟨R,k⟩;cases hd;exact h pins s σ H Q I (k v H (.refl _ _) R.tn (r H))
theorem aAg{i:Int}{j pos}:SE X tw (.Constant (.int i) j pos) (dK (.int i)):=se_k aV9 fun _=>by rw[Rep]
theorem aF3{b:Bool}{j pos}:SE X tw (.Constant (.bool b) j pos) (dK (.bl b)):=se_k pe_bl fun _=>by rw[Rep]
theorem aFp{j pos}:SE X tw (.Constant .none j pos) (dK .non):=se_k pe_non fun _=>by rw[Rep]
theorem aJd{x:Str}{j pos}:SE X tw (.Constant (.str x) j pos) (dK (.str x)):=se_k bBz fun _=>by rw[Rep]
theorem aCy{x:Str}{i:Int}{t:Tok}{pos:Pos}(hm:X.mg x=some (.int i t))(hg:autoParam (Gl X x) az0._auto_1)(hd:autoParam ZL az1._auto_1):SE X tw (.Name x pos) (dK (.int i)) :=
 se_k (aY7 hg hm (v:=.int i) ⟨t,rfl⟩ hd) fun _=>by rw[Rep]
end
section
variable {X:Cx}{pins:List ZH}{σ:St}{H:Hp}{s:Shared}{a:Addr}{u:HO}{tw:Addr}
theorem _root_.L2.Inv.freeze(I:Inv X pins σ H s)(h:H a=some u)(hu:(∃xs,u = .lst xs)\/(∃kvs,u = .dK kvs)\/∃ks,u = .dR ks):∃o,Inv X pins σ (upd H a (.frz o u)) s:=by
 have ok:=I.hok a u h;have ⟨o,ho⟩:∃o,s.heap.get? a=some o:=by
  rcases hu with ⟨xs,rfl⟩ |⟨kvs,rfl⟩ |⟨ks,rfl⟩
  ·obtain⟨_,its,n,_,e⟩:=ok;exact⟨_,e⟩
  ·obtain⟨_,_,_,_,o,_,_,e,_⟩:=ok;exact⟨_,e⟩
  ·obtain⟨_,_,_,_,o,_,_,e,_⟩:=ok;exact⟨_,e⟩
 have ntup:∀b xs,H b=some (.tup xs)->b≠a:=fun b xs e z=>by subst z;rw[h] at e;cases e;rcases hu with ⟨_,q⟩ |⟨_,q⟩ |⟨_,q⟩<;>cases q
 have nfrz:∀b o' u',H b=some (.frz o' u')->b≠a:=fun b o' u' e z=>by subst z;rw[h] at e;cases e;rcases hu with ⟨_,q⟩ |⟨_,q⟩ |⟨_,q⟩<;>cases q
 have ntbl:∀b ps,H b=some (.tbl ps)->b≠a:=fun b ps e z=>by subst z;rw[h] at e;cases e;rcases hu with ⟨_,q⟩ |⟨_,q⟩ |⟨_,q⟩<;>cases q
 have nown:∀b y,H b=some (.own y)->b≠a:=fun b y e z=>by subst z;rw[h] at e;cases e;rcases hu with ⟨_,q⟩ |⟨_,q⟩ |⟨_,q⟩<;>cases q
 have hn:∀b,H b=none->b≠a:=fun b e z=>by subst z;rw[h] at e;cases e
 have hok:HOk X.prog X.w (upd H a (.frz o u)) s.heap:=fun b w' e=>by
  have st:∀ (c:Addr) (w':HO),aCr X.prog X.w H s.heap c w'->aCr X.prog X.w (upd H a (.frz o u)) s.heap c w':=fun c w' q =>
   q.stay (fun _ _ _ z=>z) (fun c' q'=>by rw[aAn (nown c' _ q')];exact q') fun c' xs q'=>by rw[aAn (ntup c' xs q')];exact q'
  by_cases hb:b=a
  ·subst hb;rw[aAq] at e;cases e;exact⟨ho,st _ _ ok⟩
  ·rw[aAn hb] at e;exact st _ _ (I.hok b w' e)
 refine⟨o,?_⟩
 have un:Un X.fs [] H (upd H a (.frz o u)) s.heap s.heap:=⟨fun b ob e _ _ _=>e,fun b ob e _ _ _=>⟨ob.slots,e⟩,fun b ob e n _=>by rw[aAn (hn b n)];exact n,fun b ob e _=>⟨ob,e⟩,
  fun b xs e=>by rw[aAn (ntup b xs e)];exact e,fun b o' u' e=>by rw[aAn (nfrz b o' u' e)];exact e,fun b ps e=>⟨#[],by rw[aAn (ntbl b ps e),e];simp⟩⟩
 exact I.un (h':=s.heap) (t':=s.toks) un hok
theorem Fx.frz{o:Obj}(h:H a=some u)(hu:(∃xs,u = .lst xs)\/(∃kvs,u = .dK kvs)\/∃ks,u = .dR ks):Fx H (upd H a (.frz o u)):=fun b =>
 ⟨fun vs e=>by rw[aAn (by rintro rfl;rw[h] at e;cases e;rcases hu with ⟨_,q⟩ |⟨_,q⟩ |⟨_,q⟩<;>cases q)];exact e,
  fun o' u' e=>by rw[aAn (by rintro rfl;rw[h] at e;cases e;rcases hu with ⟨_,q⟩ |⟨_,q⟩ |⟨_,q⟩<;>cases q)];exact e⟩
end
theorem aNp(h:∀y∈scope.names,y.2 = .free->∃c,env.cells.lookup y.1=some c) :
  ∃cl,closureFor scope env=pure cl/\(∀x c,cl.lookup x=some c->env.cells.lookup x=some c)/\∀y∈scope.names,y.2 = .free->∃c,cl.lookup y.1=some c:=by
 have key:∀ (names:List (Str × NameKind)) (acc:List (Str × Addr)),(∀y∈names,y.2 = .free->∃c,env.cells.lookup y.1=some c)->(∀x c,acc.lookup x=some c->env.cells.lookup x=some c) ->
   ∃cl,(forIn names acc fun x cs=>match x with
    |(name,kind)=>if (kind == .free)=true then (cellOf env name >>= fun c=>pure (ForInStep.yield ((name,c)::cs))) else pure (ForInStep.yield cs):Sem (List (Str × Addr)))=pure cl /\
    (∀x c,cl.lookup x=some c->env.cells.lookup x=some c)/\(∀x c,acc.lookup x=some c->∃c',cl.lookup x=some c')/\∀y∈names,y.2 = .free->∃c,cl.lookup y.1=some c:=by
  intro names
  induction names with
  |nil=>intro acc _ ha;exact⟨acc,rfl,ha,fun x c e=>⟨c,e⟩,fun y hy=>nomatch hy⟩
  | cons z r ih =>
   intro acc hn ha;obtain⟨nm,kd⟩:=z;by_cases hk:(kd==NameKind.free)=true
   ·have hk':kd = .free:=by simpa using hk
    obtain⟨c,hc⟩:=hn (nm,kd) ao hk';have hc:env.cells.lookup nm=some c:=hc
    obtain⟨cl,e,h1,h2,h3⟩:=ih ((nm,c)::acc) (fun y hy=>hn y (am _ hy)) (fun x c' e=>by
     rw[gP] at e;split at e
     ·rename_i q;have q:x=nm:=by simpa using q
      cases e;rw[q];exact hc
     ·exact ha x c' e)
    refine⟨cl,?_,h1,fun x c' q=>?_,fun y hy hf=>?_⟩
    ·rw[iu];simp only[hk,if_true];have e1:cellOf env nm=pure c:=by unfold cellOf;rw[hc]
     rw[e1];exact e
    ·by_cases hx:x=nm
     ·subst hx;exact h2 x c (by simp[gP])
     ·exact h2 x c' (by rw[gP,show (x==nm)=false by simpa using hx];exact q)
    ·rcases bf.mp hy with rfl |hy
     ·exact h2 nm c (by simp[gP])
     ·exact h3 y hy hf
   ·obtain⟨cl,e,h1,h2,h3⟩:=ih acc (fun y hy=>hn y (am _ hy)) ha;refine⟨cl,?_,h1,h2,fun y hy hf=>?_⟩
    ·rw[iu];simp only[hk];exact e
    ·rcases bf.mp hy with rfl |hy
     ·exact absurd (by simpa using hf) (by simpa using hk)
     ·exact h3 y hy hf
 obtain⟨cl,e,h1,_,h3⟩:=key scope.names [] h (fun x c e=>by simp at e);refine⟨cl,?_,h1,h3⟩;unfold closureFor;dsimp only;rw[e];rfl
theorem aDo{env:Env}:∀ {names:List (Str × NameKind)} {x:Str} {k:NameKind},
  (names.map fun (n,k)=>if (k==NameKind.free&&env.scope.kind == .function&&env.kindOf n==some .cell) then (n,NameKind.cell) else (n,k)).lookup x=some k ->
  names.lookup x=some k\/(names.lookup x=some .free/\k = .cell)
 |[],_,_,h=>by simp at h
 | (n,k0)::r,x,k,h=>by
  have ih:=@aDo env r x k;have h2:List.lookup x ((if (k0==NameKind.free&&env.scope.kind == .function&&env.kindOf n==some .cell)=true then (n,NameKind.cell) else (n,k0))::(r.map fun (n,k)=>if (k==NameKind.free&&env.scope.kind == .function&&env.kindOf n==some .cell)=true then (n,NameKind.cell) else (n,k)))=some k:=h;clear h;cases hx:x==n with
  | true =>
   by_cases hc:(k0==NameKind.free&&env.scope.kind == .function&&env.kindOf n==some .cell)=true
   ·rw[if_pos hc] at h2;simp only[gP,hx] at h2 |-;have e0:k0 = .free:=by simp only[bo,beq_iff_eq] at hc;exact hc.1.1
    subst e0;exact .inr ⟨rfl,(Option.some.inj h2).symm⟩
   ·rw[if_neg hc] at h2;simp only[gP,hx] at h2 |-;exact .inl h2
  | false =>
   by_cases hc:(k0==NameKind.free&&env.scope.kind == .function&&env.kindOf n==some .cell)=true
   ·rw[if_pos hc] at h2;simp only[gP,hx] at h2 |-;exact ih h2
   ·rw[if_neg hc] at h2;simp only[gP,hx] at h2 |-;exact ih h2
section
variable {prog:Program}{w:World}{A:Around}{R:Result->Shared->Prop}{s:Shared}
theorem aS4(I:Nat->Shared->Prop)
  (turn:∀n s,I n s->wpAny ZI A (pyNext it) (fun r s₁=>match r with
   |none=>R (.ok .next) s₁
   | some v=>wpAny ZI A (letOwnedTupleGo target it v) (fun _ s₁=>wpAny ZI A (assign target env v) (fun _ s₂ =>
     wpAny ZI A (forIn ifs true fun c r=>if r=true then do let ok <-isTrue c env (eval c env);pure (ForInStep.yield ok) else pure (ForInStep.yield r)) (fun ok s₃ =>
      if ok=true then wpAny ZI A (eval elt env) (fun x s₄ =>
       wpAny ZI A (call (.builtin "list.append") [acc,x]) (fun _ s₅=>∃m,m<n/\I m s₅) (fun _ _=>False) s₄) (fun _ _=>False) s₃
      else ∃m,m<n/\I m s₃) (fun _ _=>False) s₂) (fun _ _=>False) s₁) (fun _ _=>False) s₁) (fun _ _=>False) s)
  (n:Nat) (h:I n s) :
  codeAny ZI A (.compLoop (.ListComp elt [⟨target,iter,ifs,0⟩] scope pos) 0 it acc env) R s:=by
 refine codeAny_loop rfl I (fun n s hI=>?_) n h;show wpAny _ A ((compTurn (.ListComp elt [⟨target,iter,ifs,0⟩] scope pos) 0 it acc env).onRaise (fun x=>do noteFrame x env;theTreesLotGoes x)) _ _ s;refine wpAny_noted ?_;rw[compTurn_list];refine wpAny_bind (wpAny_standAt (wpAny_bind (wpAny_mono (turn n s hI) (fun r s₁ h₁=>?_) fun _ _ h'=>h'.elim)));cases r with
 |none=>exact wpAny_pure h₁
 | some v =>
  refine wpAny_bind (wpAny_mono h₁ (fun _ s₁ h₁=>?_) fun _ _ h'=>h'.elim);refine wpAny_bind (wpAny_mono h₁ (fun _ s₂ h₂=>wpAny_bind (wpAny_mono h₂ (fun ok s₃ h₃=>?_) fun _ _ h'=>h'.elim)) fun _ _ h'=>h'.elim);cases ok with
  |false=>exact wpAny_pure ⟨rfl,h₃⟩
  | true =>
   exact wpAny_bind (wpAny_bind (wpAny_mono h₃ (fun x s₄ h₄=>wpAny_bind (wpAny_mono h₄ (fun _ s₅ h₅=>wpAny_pure (wpAny_pure ⟨rfl,h₅⟩)) fun _ _ h'=>h'.elim)) fun _ _ h'=>h'.elim))
end
def aCe(X:Cx)(N':List Str)(scope:Scope)(cl:List (Str × Addr))(C:Addr)(s₀:Shared)(H₀:Hp)(fp:List Addr):Cx :=
 { X with N:=N',s₀:=s₀,H₀:=H₀,env:=compEnvC scope cl C X.env,outer:=X.stack,stack:=X.stack,ex:=fp,fn:=fun _=>false,pn:=[],xe:=fun _ _=>False }
structure CompTxt (X:Cx) (scope:Scope) (N':List Str) (srcs:List (Option Nat)):Prop where
 kind:scope.kind = .function
 cell:∀y∈scope.names,y.2 ≠ .cell
 names:∀y∈scope.names,y.2 = .local->scope.names.lookup y.1=some .local
 free:∀y∈scope.names,y.2 = .free->X.env.kindOf y.1=some .cell\/X.env.kindOf y.1=some .free
 len:srcs.length=N'.length
 src:∀ (i j:Nat),srcs[i]?=some (some j)->∃x,N'[i]?=some x/\X.N[j]?=some x/\scope.names.lookup x≠some .local
def srcV(l:List (Option Nat))(σ:St):St:=l.map fun o=>o.bind fun j=>(σ[j]?).join
theorem aNo{i:Nat}(h:(srcV l σ)[i]?=some (some v)):∃j,l[i]?=some (some j)/\σ[j]?=some (some v):=by
 unfold srcV at h;rw[cg] at h;cases e:l[i]? with
 |none=>rw[e] at h;cases h
 | some o =>
  rw[e] at h;cases o with
  |none=>cases h
  | some j =>
   refine⟨j,rfl,?_⟩;have h:(σ[j]?).join=some v:=Option.some.inj h;cases q:σ[j]? with
   |none=>rw[q] at h;cases h
   |some p=>rw[q] at h;rw[show p=some v from h]
theorem aYj{tk:Nat}
  (C:CompTxt X scope N' srcs) (I:Inv X pins σ H s) (hcl:∀x c,cl.lookup x=some c->X.env.cells.lookup x=some c) (hfr:∀y∈scope.names,y.2 = .free->∃c,cl.lookup y.1=some c)
  (hf:∀b∈fp,FpOk X pins H b) (ho:∀b∈fp,∃o,s.heap.get? b=some o)
  (hn:h'.Ns s.heap.objs.size (fun _=>none)) (kp:∀b o,s.heap.get? b=some o->h'.get? b=some o) :
  Inv (aCe X N' scope cl s.heap.objs.size s H fp) [] (srcV srcs σ) H { s with heap:=h',toks:=tk }:=by
 have ltf:∀b∈fp,b<s.heap.objs.size:=fun b hb=>let ⟨o,e⟩:=ho b hb;ai e
 have kinds:∀ (x:Str) (k:NameKind),(compEnvC scope cl s.heap.objs.size X.env).kindOf x=some k->(k = .cell\/k = .free)->scope.names.lookup x=some .free:=fun x k h hk=>by
  rcases aDo (env:=X.env) (names:=scope.names) (x:=x) (k:=k) h with e |⟨e,_⟩
  ·rcases hk with rfl |rfl
   ·exact absurd rfl (C.cell _ (PySem.mem_of_lookup e))
   ·exact e
  ·exact e
 have hok:(aCe X N' scope cl s.heap.objs.size s H fp).Ok:=by
  refine⟨I.ok.mod,C.kind,I.ok.glob,I.ok.blt,ae _,fun x y c h1 h2=>I.ok.inj x y c (hcl x c h1) (hcl y c h2),fun x h=>?_,fun x c h=>(by cases h),I.ok.hd,I.ok.frames,.inl rfl,fun b hb=>⟨?_,fun x c e=>?_⟩,I.bs,aq I.ok.bsz I.sz,fun b o e hb=>?_,fun b hb z=>?_,I.stack,I.stkFree⟩
  ·rcases h with h |h
   ·exact hfr _ (PySem.mem_of_lookup (kinds x _ h (.inl rfl))) rfl
   ·exact hfr _ (PySem.mem_of_lookup (kinds x _ h (.inr rfl))) rfl
  ·exact az (ltf b hb)
  ·exact(hf b hb).2.2.2.2.1 x c (hcl x c e)
  ·rcases(hf b hb).2.2.2.1 with z |z
   ·exact I.ok.noex b o e z
   ·exact absurd (bj (ai e) (aq I.ok.bsz z)) (fu _)
  ·obtain⟨_,f1,f2,_⟩:=hf b hb;rcases bf.mp (I.stkSub b z) with q |q
   ·exact f1 q
   ·exact f2 q
 refine⟨hok,rfl,I.bare,Un.kept kp,⟨_,hn,fun i x v h1 h2 h3=>?_⟩,fun x c h=>?_,I.hok.fresh (ae _),fun x c h=>I.freeC x c (hcl x c h),fun p hp=>(by cases hp),I.hok.kept kp,by show (srcs.map _).length=N'.length;rw[ak,C.len]⟩
 ·obtain⟨j,e1,e2⟩:=aNo h2;obtain⟨y,q1,q2,q3⟩:=C.src i j e1;have h1:N'[i]?=some x:=h1;rw[q1] at h1;cases h1;have hfree:scope.names.lookup x=some .free:=by
   rcases h3 with k |k |k
   ·rcases aDo (env:=X.env) (names:=scope.names) (x:=x) (k:=.local) k with e |⟨e,z⟩
    ·exact absurd e q3
    ·cases z
   ·exact kinds x _ k (.inl rfl)
   ·exact kinds x _ k (.inr rfl)
  have hkf:=C.free _ (PySem.mem_of_lookup hfree) rfl;obtain⟨m,_,hl⟩:=I.loc;obtain⟨u,ru,lk⟩:=hl j x v q2 e2 (.inr hkf);refine⟨u,ru,.inr ⟨?_,?_⟩⟩
  ·rcases h3 with k |k |k
   ·rcases aDo (env:=X.env) (names:=scope.names) (x:=x) (k:=.local) k with e |⟨e,z⟩
    ·exact absurd e q3
    ·cases z
   ·exact .inl k
   ·exact .inr k
  ·rcases lk with ⟨k,_⟩ |⟨_,c,hc,ic⟩
   ·have hkf:X.env.kindOf x=some .cell\/X.env.kindOf x=some .free:=hkf;rw[k] at hkf;rcases hkf with z |z<;>cases z
   ·obtain⟨c',hc'⟩:=hfr _ (PySem.mem_of_lookup hfree) rfl;have:=hcl _ _ hc';rw[show X.env.cells.lookup x=some c from hc] at this;cases this;obtain⟨o,e,d⟩:=ic;exact⟨c,hc',o,kp c o e,d⟩
 ·obtain⟨v,o,e,d⟩:=I.cell x c (hcl x c h);exact⟨v,o,kp c o e,d⟩
def PF(X:Cx)(ifs:List Expr)(t:TT):Prop :=
 ∀ (pins:List ZH) (s:Shared) (σ:St) (H:Hp) (Q:Bool->Hp->Prop),Inv X pins σ H s->t σ H Q ->
  wpAny ZC X.A (forIn ifs true fun c r=>if r=true then do let ok <-isTrue c X.env (eval c X.env);pure (ForInStep.yield ok) else pure (ForInStep.yield r)) (TP X pins σ Q) X.xe s
theorem pf_nil:PF X [] (fun σ H Q=>Q true H):=fun pins s σ H Q I h=>wpAny_tests_nil ⟨H,I,h⟩
theorem pf_one(h:PT X c t):PF X [c] t:=fun pins s σ H Q I hw=>wpAny_tests_one (h pins s σ H Q I hw)
def tComp(wi:TI)(srcs:List (Option Nat))(g:TG)(tt:TT)(te:TE):TE:=fun σ H Q=>wi σ H fun J H1=>∀D,H1 D=none ->
 ∃W:Nat->Nat->List V->St->Hp->Prop,(∃m,W 0 m [] (srcV srcs σ) (upd H1 D (.lst [])))/\∀i m acc σ' H',W i m acc σ' H' ->
  (J.stop i H'/\Q (.ref D) H')\/(J.go i H'/\∃Nx:List V->St->Hp->Prop,(∀acc σ H,Nx acc σ H->∃m',m'<m/\W (i+1) m' acc σ H) /\
   ∀x H2,J.yld i H' x H2->g x σ' H2 fun σ3 H3=>tt σ3 H3 fun b H4=>if b=true then te σ3 H4 fun y H5=>H5 D=some (.lst acc)/\acc.length<sizeLine/\Nx (acc ++ [y]) σ3 (upd H5 D (.lst (acc ++ [y]))) else Nx acc σ3 H4)
theorem aQo(I:Inv X pins σ H s)(h:tComp wi srcs g tt te σ H Q)(hc:X.calm=true)
  (C:CompTxt X scope N' srcs) (hi:PI X tg iter wi) (hg:∀cl C s₀ H₀ fp,PG (aCe X N' scope cl C s₀ H₀ fp) tg g) (ht:∀cl C s₀ H₀ fp,PF (aCe X N' scope cl C s₀ H₀ fp) ifs tt)
  (he:∀cl C s₀ H₀ fp,PE (aCe X N' scope cl C s₀ H₀ fp) elt te) (hs:∀x,foldedSetIterable iter X.env x=pure x)
  (fin:∀ (D:Addr) (H':Hp) (s6:Shared) (C:Addr),(∀h',Heap.SameBut C s6.heap h'->Inv X pins σ H' { s6 with heap:=h' })->(∃m,s6.heap.Ns C m)->FpOk X pins H' C->Q (.ref D) H'->compPost (model X.prog X.w) X.A X.xe use Qv (.ref D) C (.ok .next) s6) :
  wpAny ZC X.A (comprehension (.ListComp elt [⟨tg,iter,ifs,0⟩] scope pos) scope X.env ipos (newList []) false (eval iter X.env) use) Qv X.xe s:=by
 obtain⟨cl,hclos,hcl,hfr⟩:=aNp (scope:=scope) (env:=X.env) (fun y hy hf=>I.ok.has _ (C.free y hy hf));refine wpAny_comprehension_free (use:=use) rfl hs hclos C.kind C.names (thn (hi pins s σ H _ I h) fun xv s1 h1=>thn h1 fun itv s2 h2=>?_);obtain⟨it,fp,tn,J,H1,e,I2,T,st2,f2,q⟩:=h2;subst e;refine wpAny_newObj_type ?_;have hD:H1 s2.heap.objs.size=none:=I2.fresh;have I3:Inv X pins σ (upd H1 s2.heap.objs.size (.lst [])) { s2 with heap:=s2.heap.push { cls:=.type "list",data:=.seq ([]:List Value).toArray } }:=I2.lnew (its:=[]) (t':=s2.toks) .nil (gn _);obtain⟨W,⟨m0,w0⟩,turn⟩:=q _ hD;refine wpAny_newFunctionEnv C.cell (by intro y hy;simp at hy) (fun h4 hns hsb=>?_) C.kind;have hD':s2.heap.objs.size≠(s2.heap.push { cls:=.type "list",data:=.seq ([]:List Value).toArray }).objs.size:=by rw[dy];exact az (iQ _)
 have fpH:∀b∈fp,∃o,(s2.heap.push { cls:=.type "list",data:=.seq ([]:List Value).toArray }).get? b=some o:=fun b hb=>let ⟨o,e,_⟩:=T.obj 0 _ st2 b hb;⟨o,aa _ e⟩
 have fpD:∀b∈fp,b≠s2.heap.objs.size:=fun b hb z=>by obtain⟨o,e,_⟩:=T.obj 0 _ st2 b hb;exact absurd (ai e) (by rw[z];exact fu _)
 have f3:∀b∈fp,FpOk X pins (upd H1 s2.heap.objs.size (.lst [])) b:=fun b hb=>⟨by rw[aAn (fpD b hb)];exact(f2 b hb).1,(f2 b hb).2⟩
 have kp4:∀b o,(s2.heap.push { cls:=.type "list",data:=.seq ([]:List Value).toArray }).get? b=some o->h4.get? b=some o:=fun b o e =>
  hsb.extBut b o (az (ai e)) (aa _ e)
 have I4:=aYj (tk:=s2.toks+([]:List (Str × Value)).length) C I3 hcl hfr f3 fpH (by simpa using hns) kp4;have st4:tn 0 h4:=T.keep 0 _ _ st2 fun b hb o e=>kp4 b o (aa _ e);have fpX:∀ {H':Hp},(∀b∈fp,H' b=none)->∀b∈fp,FpOk (aCe X N' scope cl (s2.heap.push { cls:=.type "list",data:=.seq ([]:List Value).toArray }).objs.size { s2 with heap:=s2.heap.push { cls:=.type "list",data:=.seq ([]:List Value).toArray } } (upd H1 s2.heap.objs.size (.lst [])) fp) [] H' b:=fun {H'} hn b hb=>by refine⟨hn b hb,(I4.ok.exf b hb).1,I4.ok.exfs b hb,.inl hb,fun x c e z=>(I4.ok.exf b hb).2 x c e z,fun p hp=>by cases hp⟩
 have loop:codeAny ZC X.A (.compLoop (.ListComp elt [⟨tg,iter,ifs,0⟩] scope pos) 0 (.ref it) (.ref s2.heap.objs.size) (compEnvC scope cl (s2.heap.push { cls:=.type "list",data:=.seq ([]:List Value).toArray }).objs.size X.env))
   (compPost ZC X.A X.xe use Qv (.ref s2.heap.objs.size) (s2.heap.push { cls:=.type "list",data:=.seq ([]:List Value).toArray }).objs.size) { s2 with heap:=h4,toks:=s2.toks+([]:List (Str × Value)).length }:=by
  refine aS4 (fun n s'=>∃i acc σ' H',Inv (aCe X N' scope cl (s2.heap.push { cls:=.type "list",data:=.seq ([]:List Value).toArray }).objs.size { s2 with heap:=s2.heap.push { cls:=.type "list",data:=.seq ([]:List Value).toArray } } (upd H1 s2.heap.objs.size (.lst [])) fp) [] σ' H' s'/\tn i s'.heap/\(∀b∈fp,H' b=none)/\W i n acc σ' H') ?_ m0
   ⟨0,[],_,_,I4,st4,fun b hb=>(f3 b hb).1,w0⟩
  rintro n s5 ⟨i,acc,σ5,H5,I5,st5,fr5,w5⟩;rcases turn i n acc σ5 H5 w5 with ⟨stop,qn⟩ |⟨go,Nx,hN,step⟩
  ·refine thn (T.done (aCe X N' scope cl _ _ _ fp) rfl rfl rfl hc i [] s5 σ5 H5 (fun _ _=>False) I5 (fpX fr5) st5 stop) fun r s6 ⟨hr,I6⟩=>?_;subst hr;obtain⟨m6,hm6,_⟩:=I6.loc;refine fin _ H5 s6 _ (fun h' hs'=>?_) ⟨m6,hm6⟩ (I3.fpOk (ae _) I6.free) qn;have nC:∀b u,H5 b=some u->b≠(s2.heap.push { cls:=.type "list",data:=.seq ([]:List Value).toArray }).objs.size:=fun b u e z=>by have:=I6.free;rw[show (aCe X N' scope cl (s2.heap.push { cls:=.type "list",data:=.seq ([]:List Value).toArray }).objs.size { s2 with heap:=s2.heap.push { cls:=.type "list",data:=.seq ([]:List Value).toArray } } (upd H1 s2.heap.objs.size (.lst [])) fp).env.locals=(s2.heap.push { cls:=.type "list",data:=.seq ([]:List Value).toArray }).objs.size from rfl,<-z,e] at this;cases this
   have hok:HOk X.prog X.w H5 h':=fun b u e=>(I6.hok b u e).stay (fun c v hc q=>hs'.extBut c v (hc.elim (fun z=>z▸nC b u e) fun z=>nC c _ z) q) (fun _ q=>q) fun _ _ q=>q;have un:Un (frs X.stack) fp (upd H1 s2.heap.objs.size (.lst [])) H5 (s2.heap.push { cls:=.type "list",data:=.seq ([]:List Value).toArray }) h':=by
    have lt:∀b o,(s2.heap.push { cls:=.type "list",data:=.seq ([]:List Value).toArray }).get? b=some o->b≠(s2.heap.push { cls:=.type "list",data:=.seq ([]:List Value).toArray }).objs.size:=fun b o e=>az (ai e);have u:=I6.base
    exact⟨fun b o e n hb hx=>hs'.extBut b o (lt b o e) (u.keep b o e n hb hx),fun b o e n hb hx=>let ⟨sl,q⟩:=u.slot b o e n hb hx;⟨sl,hs'.extBut b _ (lt b o e) q⟩,fun b o e n hx=>u.free b o e n hx,
     fun b o e hx=>let ⟨o',q⟩:=u.there b o e hx;⟨o',hs'.extBut b _ (lt b o e) q⟩,u.tups,u.frzs,u.tbls⟩
   exact I3.call' (s':={ s6 with heap:=h' }) (ch:=fp) I6.os un hok I6.bare fun b hb=>let ⟨_,g1,g2,g3,g4,g5⟩:=f3 b hb;⟨g3,g1,g4,g5⟩
  ·refine thn (T.item (aCe X N' scope cl _ _ _ fp) rfl rfl rfl hc i [] s5 σ5 H5 (fun _ _=>False) I5 (fpX fr5) st5 go) fun r s6 ⟨u,hr,h6⟩=>?_;subst hr;refine thn h6 fun _ s7 ⟨x,H7,I7,r7,y7,st7,fr7⟩=>?_;have I7':=I7.pinned (fpX fr7) (T.obj _ _ st7);refine thn (hg _ _ _ _ _ _ s7 σ5 H7 x u _ I7' r7 (step x H7 y7)) fun _ s8 ⟨σ8,H8,I8,q8⟩=>?_;refine thn (ht _ _ _ _ _ _ s8 σ8 H8 _ I8 q8) fun b s9 ⟨H9,I9,q9⟩=>?_;have again:∀ {σ0:St} {H0:Hp} {acc0:List V} {s0:Shared},Inv (aCe X N' scope cl (s2.heap.push { cls:=.type "list",data:=.seq ([]:List Value).toArray }).objs.size { s2 with heap:=s2.heap.push { cls:=.type "list",data:=.seq ([]:List Value).toArray } } (upd H1 s2.heap.objs.size (.lst [])) fp) ([]++aS3 fp s7.heap) σ0 H0 s0->Nx acc0 σ0 H0 ->
     ∃m,m<n/\∃i acc σ' H',Inv (aCe X N' scope cl (s2.heap.push { cls:=.type "list",data:=.seq ([]:List Value).toArray }).objs.size { s2 with heap:=s2.heap.push { cls:=.type "list",data:=.seq ([]:List Value).toArray } } (upd H1 s2.heap.objs.size (.lst [])) fp) [] σ' H' s0/\tn i s0.heap/\(∀b∈fp,H' b=none)/\W i m acc σ' H':=fun {σ0 H0 acc0 s0} I0 n0=>by
    obtain⟨m',hm,w0'⟩:=hN acc0 σ0 H0 n0;refine⟨m',hm,i+1,acc0,σ0,H0,I0.unpinned,T.keep _ _ _ st7 fun b hb o e=>(I0.pin (b,o) (c9 _ (c9 _ (aGo hb e)))).1,fun b hb=>?_,w0'⟩;obtain⟨o,e,d⟩:=T.obj _ _ st7 b hb;exact(I0.pin (b,o) (c9 _ (c9 _ (aGo hb e)))).2.1
   cases b with
   | false =>
    rw[if_neg ZA] at q9 |-;exact again I9 q9
   | true =>
    rw[if_pos rfl] at q9 |-;refine thn (he _ _ _ _ _ _ s9 σ8 H9 _ I9 q9) fun y' s10 ⟨y,H10,I10,ry,e10,l10,q10⟩=>?_;refine thn (aSz (X:=aCe X N' scope cl _ _ _ fp) _ s10 σ8 H10 (.ref s2.heap.objs.size) [y] (.ref s2.heap.objs.size) [y'] (fun _ H=>Nx (acc ++ [y]) σ8 H) I10 rfl (.cons ry .nil) ⟨_,acc,y,rfl,rfl,e10,l10,q10⟩) fun _ s11 ⟨v11,H11,I11,_,q11⟩=>?_;exact again I11 q11
 exact codeAny_compStart_list loop (T.self _ 0 _ _ _ st4 loop)
theorem pe_comp(hc:X.calm=true)
  (C:CompTxt X scope N' srcs) (hi:PI X tg iter wi) (hg:∀cl C s₀ H₀ fp,PG (aCe X N' scope cl C s₀ H₀ fp) tg g) (ht:∀cl C s₀ H₀ fp,PF (aCe X N' scope cl C s₀ H₀ fp) ifs tt)
  (he:∀cl C s₀ H₀ fp,PE (aCe X N' scope cl C s₀ H₀ fp) elt te) (hs:autoParam (∀x,foldedSetIterable iter X.env x=pure x) az3._auto_1) :
  PE X (.ListComp elt [⟨tg,iter,ifs,0⟩] scope pos) (tComp wi srcs g tt te):=by
 intro pins s σ H Q I h;rw[eval_ListComp];exact aQo (use:=none) I h hc C hi hg ht he hs fun D H' s6 C i6 n6 _ q=>let ⟨m,hm⟩:=n6;⟨m,hm,fun h' hs'=>⟨.ref D,H',i6 h' hs',rfl,q⟩⟩
theorem ps_comp{i:Nat}(hc:X.calm=true)
  (hN:X.N.Nodup) (hi':X.N[i]?=some y) (hy:X.env.scope.names.lookup y=some .local)
  (C:CompTxt X scope N' srcs) (hi:PI X tg iter wi) (hg:∀cl C s₀ H₀ fp,PG (aCe X N' scope cl C s₀ H₀ fp) tg g) (ht:∀cl C s₀ H₀ fp,PF (aCe X N' scope cl C s₀ H₀ fp) ifs tt)
  (he:∀cl C s₀ H₀ fp,PE (aCe X N' scope cl C s₀ H₀ fp) elt te)
  (hsw:swapsWith (.ListComp elt [⟨tg,iter,ifs,0⟩] scope pos) (some (.Name y py)) spos.line X.env=pure true) (hs:autoParam (∀x,foldedSetIterable iter X.env x=pure x) az3._auto_1) :
  PS X (.Assign [.Name y py] (.ListComp elt [⟨tg,iter,ifs,0⟩] scope pos) spos) (tAsg (tComp wi srcs g tt te) (gName i)):=by
 intro pins s σ H D I h;rw[exec_Assign_Name_used _ _ _ _ hsw];refine wpAny_bind (wpAny_standAt (wpAny_bind ?_));show wpAny _ X.A (do let _ <-comprehension (.ListComp elt [⟨tg,iter,ifs,0⟩] scope pos) scope X.env _ (newList []) false (eval iter X.env) (some (assign (.Name y py) X.env))) _ _ s;refine wpAny_bind (wpAny_mono (aQo (use:=some (assign (.Name y py) X.env)) (Qv:=fun _ s'=>SP X pins D .next s') I h hc C hi hg ht he hs fun Da H' s6 C i6 n6 fo q=>?_) (fun _ s' hq=>wpAny_pure (wpAny_pure hq)) fun _ _ e=>e);obtain⟨m,hm⟩:=n6;have I6:Inv X pins σ H' s6:=i6 s6.heap (.refl ..);show wpAny _ X.A (assign (.Name y py) X.env (.ref Da)) _ _ _;refine wpAny_assign_Name (aSj I6 hN hi' (.inl hy) (v:=.ref Da) rfl (fun s7 I7 sb=>?_) (.inr hy));obtain⟨a,sb,ha⟩:=sb;have na:C≠a:=by
  rcases ha with e |e
  ·rw[e];exact fo.2.1
  ·exact(fo.2.2.2.2.1 y a e).symm
 refine⟨m,hm.sameBut sb na,fun h' hs'=>⟨_,H',?_,q⟩⟩;obtain⟨f0,f1,f2,f3,f4,f5⟩:=fo;exact I7.turned (t':=s7.toks) (fun b o hb e=>hs'.extBut b o hb e) f0 f1 f3 f4 f5
section
variable {X:Cx}{tw:Addr}
theorem bind_some{α β:Type}{o:Option α}{f:α->Option β}{b:β}(h:o.bind f=some b):∃a,o=some a/\f a=some b:=by
 cases o with
 |none=>cases h
 |some a=>exact⟨a,rfl,h⟩
theorem map_some{α β:Type}{o:Option α}{f:α->β}{b:β}(h:o.map f=some b):∃a,o=some a/\f a=b:=by
 cases o with
 |none=>cases h
 |some a=>exact⟨a,rfl,Option.some.inj h⟩
theorem aU8{n n':Nat}(h:dPr g a ρ n=some (t,m,n')):∃ts,a ρ n=some (ts,n')/\g n' ts=some (t,m):=by obtain⟨r,e1,e2⟩:=bind_some h;obtain⟨x,e3,e4⟩:=map_some e2;have q:=congrArg (fun z:T × Md × Nat=>z.2.2) e4;have q:r.2=n':=q;subst q;have p:=congrArg (fun z:T × Md × Nat=>(z.1,z.2.1)) e4;have p:x=(t,m):=p;subst p;exact⟨r.1,e1,e3⟩
theorem aE0{n n':Nat}(h:aAa d a ρ n=some (l,n')):∃t m n1 l',d ρ n=some (t,m,n1)/\a ρ n1=some (l',n')/\l=t::l':=by obtain⟨r,e1,e2⟩:=bind_some h;obtain⟨x,e3,e4⟩:=map_some e2;have q:x.2=n':=congrArg Prod.snd e4;subst q;exact⟨_,_,_,x.1,e1,e3,(congrArg Prod.fst e4).symm⟩
theorem aNk{n n':Nat}(h:dNil ρ n=some (l,n')):l = []/\n=n':=⟨(congrArg (fun z:Option (List T × Nat)=>(z.getD ([],0)).1) h).symm,congrArg (fun z:Option (List T × Nat)=>(z.getD ([],0)).2) h⟩
theorem aKy{n n':Nat}(h:dPr g (aAa d0 dNil) ρ n=some (t,m,n')):∃t0 m0,d0 ρ n=some (t0,m0,n')/\g n' [t0]=some (t,m):=by obtain⟨ts,h1,e⟩:=aU8 h;obtain⟨_,_,_,_,f0,h2,rfl⟩:=aE0 h1;obtain⟨rfl,rfl⟩:=aNk h2;exact⟨_,_,f0,e⟩
theorem aVv{n n':Nat}(h:dPr g (aAa d0 (aAa d1 dNil)) ρ n=some (t,m,n')):∃t0 m0 n0 t1 m1,d0 ρ n=some (t0,m0,n0)/\d1 ρ n0=some (t1,m1,n')/\g n' [t0,t1]=some (t,m):=by obtain⟨ts,h1,e⟩:=aU8 h;obtain⟨_,_,_,_,f0,h2,rfl⟩:=aE0 h1;obtain⟨_,_,_,_,f1,h3,rfl⟩:=aE0 h2;obtain⟨rfl,rfl⟩:=aNk h3;exact⟨_,_,_,_,_,f0,f1,e⟩
theorem pr3_inv{n n':Nat}(h:dPr g (aAa d0 (aAa d1 (aAa d2 dNil))) ρ n=some (t,m,n')):∃t0 m0 n0 t1 m1 n1 t2 m2,d0 ρ n=some (t0,m0,n0)/\d1 ρ n0=some (t1,m1,n1)/\d2 ρ n1=some (t2,m2,n')/\g n' [t0,t1,t2]=some (t,m):=by obtain⟨ts,h1,e⟩:=aU8 h;obtain⟨_,_,_,_,f0,h2,rfl⟩:=aE0 h1;obtain⟨_,_,_,_,f1,h3,rfl⟩:=aE0 h2;obtain⟨_,_,_,_,f2,h4,rfl⟩:=aE0 h3;obtain⟨rfl,rfl⟩:=aNk h4;exact⟨_,_,_,_,_,_,_,_,f0,f1,f2,e⟩
theorem SE.run(h:SE X tw e d){n:Nat}{n':Nat}(hd:d ρ n=some (t,m,n'))(I:Inv X pins σ H s)(R:Rel X.K B tw ρ n σ H) :
  wpAny ZC X.A (eval e X.env) (fun u s'=>∃v H',Inv X pins σ H' s'/\RelV v u/\Ext tw H H'/\Rel X.K B tw ρ n' σ H'/\Val X.K B tw H H' t m v) X.xe s :=
 thn (h B ρ n t m n' hd pins s σ H (fun v H'=>Ext tw H H'/\Tn tw n' H'/\Val X.K B tw H H' t m v) I ⟨R,fun v H' a b c=>⟨a,b,c⟩⟩) fun u s' ⟨v,H',I',r,a,b,c⟩=>⟨v,H',I',r,a,R.mono a b,c⟩
theorem SA.run(h:SA X tw es d){n:Nat}{n':Nat}(hd:d ρ n=some (ts,n'))(pos:Pos)(I:Inv X pins σ H s)(R:Rel X.K B tw ρ n σ H) :
  wpAny ZC X.A (spliced (backTo pos (starEach es X.env))) (fun us s'=>∃vs H',Inv X pins σ H' s'/\Vals vs us/\Ext tw H H'/\Rel X.K B tw ρ n' σ H'/\Roots X.K tw H' ts vs) X.xe s :=
 thn (h B ρ n ts n' hd pos pins s σ H (fun vs H'=>Ext tw H H'/\Tn tw n' H'/\Roots X.K tw H' ts vs) I ⟨R,fun v H' a b c=>⟨a,b,c⟩⟩) fun u s' ⟨v,H',I',r,a,b,c⟩=>⟨v,H',I',r,a,R.mono a b,c⟩
theorem aYn{e:Expr}{d:DE}(h:SE X tw e d):SE X tw e (dFz d):=by
 intro B ρ n t m n' hd pins s σ H Q I ⟨R,k⟩;obtain⟨⟨t0,m0,n0⟩,h1,h2⟩:=bind_some hd;obtain⟨t1,h3,h4⟩:=map_some h2;cases h4;refine thn (h.run h1 I R) fun u s' ⟨v,H',I',r,a,R',c⟩=>?_;have same:∀ (q:t0=t),Rep tw H' t0 v->EP X pins σ Q u s':=fun q c=>⟨v,H',I',r,k v H' a R'.tn (q▸c)⟩
 cases m0 with
 |fz=>exact same (Option.some.inj h3) c
 | lent =>
  have h3:(if aDx t0 then none else some t0)=some t:=h3;split at h3
  ·cases h3
  ·rename_i b;exact same (Option.some.inj h3) (Root.rep (by simpa using b) c)
 | bor =>
  have h3:(if aDx t0 then none else some t0)=some t:=h3;split at h3
  ·cases h3
  ·rename_i b;exact same (Option.some.inj h3) (Root.rep (by simpa using b) (let ⟨_,bt⟩:=R.btn.1;Root.ext (v:=v) bt R'.ext c))
 | own =>
  obtain⟨ad,rfl,q2,q3⟩:=c;obtain rfl:t0=t:=Option.some.inj h3;cases t0 with
  | lst xs =>
   obtain⟨vs,e1,e2⟩:=q3;obtain⟨o,I2⟩:=I'.freeze e1 (.inl ⟨vs,rfl⟩);have na:ad≠tw:=R.tn.ne_none q2;refine⟨_,_,I2,r,k _ _ (a.put q2 (fun φ z=>by rw[e1] at z;cases z)) ?_ ?_⟩
   ·show upd H' ad _ tw=_;rw[aAn na.symm];exact R'.tn
   ·show Rep tw _ (.lst xs) _;rw[Rep];exact⟨ad,o,vs,rfl,aAq,Reps.mono (Fx.frz e1 (.inl ⟨vs,rfl⟩)) _ _ e2⟩
  | dic kvs =>
   obtain⟨vs,e1,e2⟩:=q3;obtain⟨o,I2⟩:=I'.freeze e1 (.inr (.inl ⟨vs,rfl⟩));have na:ad≠tw:=R.tn.ne_none q2;refine⟨_,_,I2,r,k _ _ (a.put q2 (fun φ z=>by rw[e1] at z;cases z)) ?_ ?_⟩
   ·show upd H' ad _ tw=_;rw[aAn na.symm];exact R'.tn
   ·show Rep tw _ (.dic kvs) _;rw[Rep];exact⟨ad,o,vs,rfl,aAq,RepK.mono (Fx.frz e1 (.inr (.inl ⟨vs,rfl⟩))) _ _ e2⟩
  | rdc ks =>
   obtain⟨vs,e1,e2⟩:=q3;obtain⟨o,I2⟩:=I'.freeze e1 (.inr (.inr ⟨vs,rfl⟩));have na:ad≠tw:=R.tn.ne_none q2;refine⟨_,_,I2,r,k _ _ (a.put q2 (fun φ z=>by rw[e1] at z;cases z)) ?_ ?_⟩
   ·show upd H' ad _ tw=_;rw[aAn na.symm];exact R'.tn
   ·show Rep tw _ (.rdc ks) _;rw[Rep];exact⟨ad,o,vs,rfl,aAq,e2⟩
  |_=>exact q3.elim
theorem aBe:SA X tw [] dNil:=by intro B ρ n ts n' hd pos pins s σ H Q I ⟨R,k⟩;cases hd;exact aQf pos pins s σ H Q I (k [] H (.refl _ _) R.tn .nil)
theorem aAw{e:Expr}{es:List Expr}{d:DE}{r:DA}(h1:SE X tw e d)(h2:SA X tw es r)(hs:autoParam ZG az0._auto_1):SA X tw (e::es) (aAa d r):=by intro B ρ n ts n' hd pos pins s σ H Q I ⟨R,k⟩;obtain⟨⟨t,m,n1⟩,e1,e2⟩:=bind_some hd;obtain⟨⟨ts',n2⟩,e3,e4⟩:=map_some e2;cases e4;rw[hs];show wpAny _ _ (spliced ((false,eval e X.env)::backTo pos (starEach es X.env))) _ _ s;refine br (thn (h1.run e1 I R) fun u s1 ⟨v,H1,I1,r1,a1,R1,c1⟩=>?_);refine thn (h2.run e3 pos I1 R1) fun us s2 ⟨vs,H2,I2,r2,a2,R2,c2⟩=>?_;exact⟨v::vs,H2,I2,.cons r1 r2,k _ _ (a1.trans a2) R2.tn (.cons (Root.ext R1.tn a2 (c1.root R1 R.tn)) c2)⟩
def PrS(X:Cx)(tw:Addr)(f:List Value->Sem Value)(g:Pr):Prop :=
 ∀ (B:Hp) (pins:List ZH) (s:Shared) (σ:St) (H:Hp) (vs:List V) (us:List Value) (ts:List T) (n:Nat) (t:T) (m:Md) (Q:VK),Inv X pins σ H s->Vals vs us->Roots X.K tw H ts vs->Tn tw n H->g n ts=some (t,m) ->
  (∀v H',Ext tw H H'->Tn tw n H'->Val X.K B tw H H' t m v->Q v H')->wpAny ZC X.A (f us) (EP X pins σ Q) X.xe s
theorem aA3{x:Str}{id:String}{g:Pr}{p pos:Pos}{e:Expr}{es:List Expr}{a:DA}(hp:PrS X tw (fun us=>call (.builtin id) us) g)(hm:X.mg x=none)(hv:bootBuiltins x=some (.builtin id))(ha:SA X tw (e::es) a)(hg:autoParam (Gl X x) az0._auto_1)(hn:autoParam (x ≠ "__name__") az1._auto_1)
  (hdb:autoParam ZL az1._auto_1) (he:autoParam ZG az0._auto_1) (hpl:autoParam ((backTo pos (starEach es X.env)).any (·.1)=false) az0._auto_1):SE X tw (.Call (.Name x p) (e::es) [] pos) (dPr g a):=by
 intro B ρ n t m n' hd pins s σ H Q I ⟨R,k⟩;obtain⟨⟨ts,n1⟩,e1,e2⟩:=bind_some hd;obtain⟨⟨t1,m1⟩,e3,e4⟩:=map_some e2;cases e4;refine wpAny_Call_Name_kw (aFs I hg hm hv ?_ hn hdb);refine PyProof.Rows.callWith_builtin1 (thn (ha.run e1 pos I R) fun us s1 ⟨vs,H1,I1,r1,a1,R1,c1⟩=>?_) he hpl;exact hp B pins s1 σ H1 vs us ts _ _ _ Q I1 r1 c1 R1.tn e3 fun v H' a b c=>k v H' (a1.trans a) b (c.back a1 R1.tn)
theorem aFw{x:Str}{T':String}{g:Pr}{p pos:Pos}{e:Expr}{es:List Expr}{a:DA}(hp:PrS X tw (fun us=>call (.type T') us) g)(hm:X.mg x=none)(hv:bootBuiltins x=some (.type T'))(ha:SA X tw (e::es) a)(hg:autoParam (Gl X x) az0._auto_1)(hn:autoParam (x ≠ "__name__") az1._auto_1)
  (hdb:autoParam ZL az1._auto_1) (he:autoParam ZG az0._auto_1) (hpl:autoParam ((backTo pos (starEach es X.env)).any (·.1)=false) az0._auto_1):SE X tw (.Call (.Name x p) (e::es) [] pos) (dPr g a):=by
 intro B ρ n t m n' hd pins s σ H Q I ⟨R,k⟩;obtain⟨⟨ts,n1⟩,e1,e2⟩:=bind_some hd;obtain⟨⟨t1,m1⟩,e3,e4⟩:=map_some e2;cases e4;refine wpAny_Call_Name_kw (aFs I hg hm hv ?_ hn hdb);refine PyProof.Rows.callWith_type1 (thn (ha.run e1 pos I R) fun us s1 ⟨vs,H1,I1,r1,a1,R1,c1⟩=>?_) he hpl;exact hp B pins s1 σ H1 vs us ts _ _ _ Q I1 r1 c1 R1.tn e3 fun v H' a b c=>k v H' (a1.trans a) b (c.back a1 R1.tn)
def two(f:Value->Value->Sem Value):List Value->Sem Value
 |[a,b]=>f a b
 |_=>unsupported "two"
theorem aNr(hp:PrS X tw (two f) g)(ha:SE X tw a da)(hb:SE X tw b db){n:Nat}{n':Nat}(hd:dPr g (aAa da (aAa db dNil)) ρ n=some (t,m,n')) (I:Inv X pins σ H s) (R:Rel X.K B tw ρ n σ H) (k:∀v H',Ext tw H H'->Tn tw n' H'->Val X.K B tw H H' t m v->Q v H') :
  wpAny ZC X.A (eval a X.env) (fun v s₁=>wpAny ZC X.A (eval b X.env) (fun u s₂=>wpAny ZC X.A (f v u) (EP X pins σ Q) X.xe s₂) X.xe s₁) X.xe s:=by
 obtain⟨⟨ts,n1⟩,e1,e2⟩:=bind_some hd;obtain⟨⟨t1,m1⟩,e3,e4⟩:=map_some e2;cases e4;obtain⟨⟨ta,ma,na⟩,f1,f2⟩:=bind_some e1;obtain⟨⟨tb,nb⟩,f3,f4⟩:=map_some f2;cases f4;obtain⟨⟨tb',mb,nb'⟩,g1,g2⟩:=bind_some f3;cases g2;refine thn (ha.run f1 I R) fun u1 s1 ⟨v1,H1,I1,r1,a1,R1,c1⟩=>?_;refine thn (hb.run g1 I1 R1) fun u2 s2 ⟨v2,H2,I2,r2,a2,R2,c2⟩=>?_;exact hp B pins s2 σ H2 [v1,v2] [u1,u2] [ta,tb'] _ _ _ Q I2 (.cons r1 (.cons r2 .nil)) (.cons (Root.ext R1.tn a2 (c1.root R1 R.tn)) (.cons (c2.root R2 R1.tn) .nil)) R2.tn e3
  fun v H' x y z=>k v H' (a1.trans (a2.trans x)) y ((z.back a2 R2.tn).back a1 R1.tn)
theorem aBy{a b:Expr}{da db:DE}{op:Operator}{g:Pr}{pos:Pos}(hp:PrS X tw (two (binaryOp op)) g)(ha:SE X tw a da)(hb:SE X tw b db):SE X tw (.BinOp a op b pos) (dPr g (aAa da (aAa db dNil))):=by intro B ρ n t m n' hd pins s σ H Q I ⟨R,k⟩;exact wpAny_BinOp (aNr hp ha hb hd I R k)
theorem aRb{a b:Expr}{da db:DE}{op:CmpOp}{g:Pr}{pos:Pos}(hp:PrS X tw (two (compareOp op)) g)(ha:SE X tw a da)(hb:SE X tw b db)(h1:autoParam (behindInMarks op b=false) az8._auto_1) :
  SE X tw (.Compare a [op] [b] pos) (dPr g (aAa da (aAa db dNil))):=by
 intro B ρ n t m n' hd pins s σ H Q I ⟨R,k⟩;exact wpAny_Compare1 (aNr hp ha hb hd I R k) h1
theorem aDr{a b:Expr}{da db:DE}{g:Pr}{pos:Pos}(hp:∀value slice,(∀v u,subscripted slice false v u=operate [v,u] (getItem v u))->PrS X tw (two fun v u=>subscriptTail value slice v u) g)(ha:SE X tw a da)(hb:SE X tw b db)(hs:PlainIx b) :
  SE X tw (.Subscript a b pos) (dPr g (aAa da (aAa db dNil))):=by
 intro B ρ n t m n' hd pins s σ H Q I ⟨R,k⟩;exact Subscript_ (aNr (hp a b hs) ha hb hd I R k)
def rT(K:PySem.W.Frag)(B:Hp)(tw:Addr)(ρ:En)(n:Nat)(b:Bool)(n':Nat):TT:=fun σ H Q=>Rel K B tw ρ n σ H/\∀H',Ext tw H H'->Tn tw n' H'->Q b H'
def ST(X:Cx)(tw:Addr)(e:Expr)(d:DT):Prop:=∀B ρ n b n',d ρ n=some (b,n')->PT X e (rT X.K B tw ρ n b n')
def SW(X:Cx)(tw:Addr)(e:Expr)(d:DT):Prop:=∀B ρ n b n',d ρ n=some (b,n')->PW X e (rT X.K B tw ρ n b n')
theorem SW.st{e:Expr}{d:DT}(h:SW X tw e d):ST X tw e d:=fun B ρ n b n' hd=>(h B ρ n b n' hd).pt
theorem ST.run(h:ST X tw e d){n:Nat}{b:Bool}{n':Nat}(hd:d ρ n=some (b,n'))(I:Inv X pins σ H s)(R:Rel X.K B tw ρ n σ H) :
  wpAny ZC X.A (isTrue e X.env (eval e X.env)) (fun c s'=>c=b/\∃H',Inv X pins σ H' s'/\Ext tw H H'/\Rel X.K B tw ρ n' σ H') X.xe s :=
 thn (h B ρ n b n' hd pins s σ H (fun c H'=>c=b/\Ext tw H H'/\Tn tw n' H') I ⟨R,fun H' x y=>⟨rfl,x,y⟩⟩) fun c s' ⟨H',I',e,x,y⟩=>⟨e,H',I',x,R.mono x y⟩
theorem aKd{b:Bool}{Q:Bool->Shared->Prop}(I:Inv X pins σ H s)(r:RelV v u)(rt:Root X.K tw H t v)(h:tru t=some b)(k:∀s',Inv X pins σ H s'->Q b s') :
  wpAny ZC X.A (truthy u) Q X.xe s:=by
 have go:TruV X.K v H b->wpAny ZC X.A (truthy u) Q X.xe s:=fun q =>
  thn (tru_ok pins s σ H v u (fun c H'=>c=b/\H'=H) I r ⟨b,q,rfl,rfl⟩) fun c s' ⟨H',I',e1,e2⟩=>by subst e1 e2;exact k s' I'
 cases t with
 | non =>
  have rt:Rep tw H .non v:=rt;rw[Rep] at rt;subst rt;cases h;exact go rfl
 | bl c =>
  have rt:Rep tw H (.bl c) v:=rt;rw[Rep] at rt;subst rt;cases h;exact go rfl
 | int i =>
  have rt:Rep tw H (.int i) v:=rt;rw[Rep] at rt;subst rt;cases h;exact go rfl
 | tup xs =>
  have rt:Rep tw H (.tup xs) v:=rt;rw[Rep] at rt;obtain⟨a,vs,rfl,e,q⟩:=rt;cases h;refine go (.inr (.inl ⟨vs,SqT.of e,?_⟩));have:=q.length;cases xs<;>cases vs<;>first |rfl |(simp at this)
 | lst xs =>
  obtain⟨a,vs,rfl,e,q⟩:=rt;cases h;refine go (.inl ⟨vs,e.sq,?_⟩);have:=q.length;cases xs<;>cases vs<;>first |rfl |(simp at this)
 | dic kvs =>
  obtain⟨a,ws,rfl,na,e,q⟩:=rt;cases h;cases r;refine d_truth I e fun s' I'=>?_;have:(!ws.isEmpty) = !kvs.isEmpty:=by
   cases kvs with
   |nil=>rw[RepK] at q;rw[q];rfl
   |cons p r=>obtain⟨k,x⟩:=p;rw[RepK] at q;obtain⟨_,_,e,_⟩:=q;rw[e];rfl
  rw[this];exact k s' I'
 |_=>cases h
theorem aCc{e:Expr}{d:DE}(h:SE X tw e d)(he:autoParam (∀whole,isTrue e X.env whole=(do let v <-whole;standAt e.pos;holding [v] (truthy v))) az3._auto_1):ST X tw e (dTru d):=by intro B ρ n b n' hd pins s σ H Q I ⟨R,k⟩;obtain⟨⟨t,m,n1⟩,e1,e2⟩:=bind_some hd;obtain⟨b',e3,e4⟩:=map_some e2;cases e4;exact isTrue_plain (thn (h.run e1 I R) fun u s1 ⟨v,H1,I1,r1,a1,R1,c1⟩=>aKd I1 r1 (c1.root R1 R.tn) e3 fun s2 I2=>⟨H1,I2,k H1 a1 R1.tn⟩) (he _)
theorem aBi{a b:Expr}{da db:DE}{op:CmpOp}{g:Pr}{pos:Pos}(hp:PrS X tw (two (compareOp op)) g)(ha:SE X tw a da)(hb:SE X tw b db)(h1:autoParam (behindInMarks op b=false) az8._auto_1) :
  ST X tw (.Compare a [op] [b] pos) (dTru (dPr g (aAa da (aAa db dNil)))):=by
 intro B ρ n c n' hd pins s σ H Q I ⟨R,k⟩;obtain⟨⟨t,m,n1⟩,e1,e2⟩:=bind_some hd;obtain⟨b',e3,e4⟩:=map_some e2;cases e4;refine wpAny_isTrue_Compare1 (thn (aNr hp ha hb e1 (Q:=fun v H'=>Ext tw H H'/\Tn tw n1 H'/\Val X.K B tw H H' t m v) I R fun v H' x y z=>⟨x,y,z⟩) fun v s1 q1=>thn q1 fun u s2 q2=>thn q2 fun w s3 ⟨x,H',I',r',a',b',c'⟩=>?_) h1;exact aKd I' r' (c'.root (R.mono a' b') R.tn) e3 fun s4 I4=>⟨H',I4,k H' a' b'⟩
theorem aCh{e:Expr}{d:DT}{pos:Pos}(h:ST X tw e d):ST X tw (.UnaryOp .Not e pos) (dNot d):=by intro B ρ n b n' hd pins s σ H Q I ⟨R,k⟩;obtain⟨⟨c,n1⟩,e1,e2⟩:=map_some hd;cases e2;exact pt_not (h B ρ n c n1 e1) pins s σ H Q I ⟨R,fun H' x y=>k H' x y⟩
theorem aVb{e:Expr}{d:DT}{pos:Pos}(h:ST X tw e d):SW X tw (.BoolOp .And [e] pos) d:=fun B ρ n b n' hd=>pw_and1 (h B ρ n b n' hd)
theorem aHw{e:Expr}{d:DT}{pos:Pos}(h:ST X tw e d):SW X tw (.BoolOp .Or [e] pos) d:=fun B ρ n b n' hd=>pw_or1 (h B ρ n b n' hd)
theorem aXs{a b:Expr}{rest:List Expr}{da db:DT}{pos:Pos}(h1:ST X tw a da)(h2:SW X tw (.BoolOp .And (b::rest) pos) db):SW X tw (.BoolOp .And (a::b::rest) pos) (dAnd da db):=by
 intro B ρ n c n' hd wh pins s σ H Q I ⟨R,k⟩;obtain⟨⟨x,n1⟩,e1,e2⟩:=bind_some hd;refine isTrue_and (thn (h1.run e1 I R) fun y s1 ⟨ey,H1,I1,a1,R1⟩=>?_);subst ey;cases y with
 | true =>
  have e2:db ρ n1=some (c,n'):=e2;exact h2 B ρ n1 c n' e2 wh pins s1 σ H1 Q I1 ⟨R1,fun H' p q=>k H' (a1.trans p) q⟩
 | false =>
  have e2:some (false,n1)=some (c,n'):=e2;cases e2;exact⟨H1,I1,k H1 a1 R1.tn⟩
theorem aLf{a b:Expr}{rest:List Expr}{da db:DT}{pos:Pos}(h1:ST X tw a da)(h2:SW X tw (.BoolOp .Or (b::rest) pos) db):SW X tw (.BoolOp .Or (a::b::rest) pos) (dOr da db):=by
 intro B ρ n c n' hd wh pins s σ H Q I ⟨R,k⟩;obtain⟨⟨x,n1⟩,e1,e2⟩:=bind_some hd;refine isTrue_or (thn (h1.run e1 I R) fun y s1 ⟨ey,H1,I1,a1,R1⟩=>?_);subst ey;cases y with
 | false =>
  have e2:db ρ n1=some (c,n'):=e2;exact h2 B ρ n1 c n' e2 wh pins s1 σ H1 Q I1 ⟨R1,fun H' p q=>k H' (a1.trans p) q⟩
 | true =>
  have e2:some (true,n1)=some (c,n'):=e2;cases e2;exact⟨H1,I1,k H1 a1 R1.tn⟩
theorem se_if{c a b:Expr}{dc:DT}{da db:DE}{pos:Pos}(hc:ST X tw c dc)(ha:SE X tw a da)(hb:SE X tw b db):SE X tw (.IfExp c a b pos) (dIf dc da db):=by
 intro B ρ n t m n' hd pins s σ H Q I ⟨R,k⟩;obtain⟨⟨x,n1⟩,e1,e2⟩:=bind_some hd;refine pe_ifExp (tA:=rT X.K B tw ρ n x n1) (ta:=fun σ H Q=>x=true/\rE X.K B tw ρ n1 t m n' σ H Q) (tb:=fun σ H Q=>x=false/\rE X.K B tw ρ n1 t m n' σ H Q) (hc B ρ n x n1 e1) ?_ ?_ pins s σ H Q I ⟨R,fun H' p q=>?_⟩
 ·rintro pins s σ H Q I ⟨rfl,h⟩;exact ha B ρ n1 t m n' e2 pins s σ H Q I h
 ·rintro pins s σ H Q I ⟨rfl,h⟩;exact hb B ρ n1 t m n' e2 pins s σ H Q I h
 ·have R1:=R.mono p q;cases x with
  |true=>exact iteT ⟨rfl,R1,fun v H2 a b c=>k v H2 (p.trans a) b (c.back p q)⟩
  |false=>exact iteF ⟨rfl,R1,fun v H2 a b c=>k v H2 (p.trans a) b (c.back p q)⟩
theorem se_one{op}{e:Expr}{d:DE}{pos:Pos}(h:SE X tw e d):SE X tw (.BoolOp op [e] pos) d:=fun B ρ n t m n' hd=>pe_one (h B ρ n t m n' hd)
theorem aZu{a b:Expr}{rest:List Expr}{da db:DE}{pos:Pos}(h1:SE X tw a da)(h2:SE X tw (.BoolOp .And (b::rest) pos) db):SE X tw (.BoolOp .And (a::b::rest) pos) (aXz da db):=by
 intro B ρ n t m n' hd pins s σ H Q I ⟨R,k⟩;obtain⟨⟨x,m1,n1⟩,e1,e2⟩:=bind_some hd;refine BoolOp_and (thn (h1.run e1 I R) fun u s1 ⟨v,H1,I1,r1,a1,R1,c1⟩=>?_);have rt:=c1.root R1 R.tn;cases x with
 | bl c =>
  have rt:Rep tw H1 (.bl c) v:=rt;rw[Rep] at rt;subst rt;cases r1;refine wpAny_truthy_bool ?_;cases c with
  | true =>
   have e2:db ρ n1=some (t,m,n'):=e2;exact h2 B ρ n1 t m n' e2 pins s1 σ H1 Q I1 ⟨R1,fun v H' p q r=>k v H' (a1.trans p) q (r.back a1 R1.tn)⟩
  | false =>
   have e2:some (T.bl false,Md.fz,n1)=some (t,m,n'):=e2;cases e2;exact⟨.bl false,H1,I1,rfl,k _ H1 a1 R1.tn (by show Rep tw H1 (.bl false) _;rw[Rep])⟩
 |_=>cases e2
def rF(K:PySem.W.Frag)(B:Hp)(tw:Addr)(ρ:En)(n:Nat)(ts:List T)(n':Nat):TA:=fun σ H Q =>
 Rel K B tw ρ n σ H/\∀vs H',Ext tw H H'->Tn tw n' H'->Reps tw H' ts vs->Q vs H'
def SF(X:Cx)(tw:Addr)(es:List Expr)(d:DA):Prop:=∀B ρ n ts n',d ρ n=some (ts,n')->PA X es (rF X.K B tw ρ n ts n')
theorem aAm:SF X tw [] dNil:=by intro B ρ n ts n' hd pos pins s σ H Q I ⟨R,k⟩;cases hd;exact aQf pos pins s σ H Q I (k [] H (.refl _ _) R.tn .nil)
theorem aAf{e:Expr}{es:List Expr}{d:DE}{r:DA}(h1:SE X tw e d)(h2:SF X tw es r)(hs:autoParam ZG az0._auto_1):SF X tw (e::es) (aAa (dFz d) r):=by
 intro B ρ n ts n' hd pos pins s σ H Q I ⟨R,k⟩;obtain⟨⟨t,m,n1⟩,e1,e2⟩:=bind_some hd;obtain⟨⟨ts',n2⟩,e3,e4⟩:=map_some e2;cases e4;obtain rfl:m = .fz:=by obtain⟨_,_,q⟩:=bind_some e1;obtain⟨_,_,q⟩:=map_some q;cases q;rfl
 rw[hs];show wpAny _ _ (spliced ((false,eval e X.env)::backTo pos (starEach es X.env))) _ _ s;refine br (thn ((aYn h1).run e1 I R) fun u s1 ⟨v,H1,I1,r1,a1,R1,c1⟩=>?_);refine thn (h2 B ρ n1 ts' n2 e3 pos pins s1 σ H1 (fun vs H2=>Ext tw H1 H2/\Tn tw n2 H2/\Reps tw H2 ts' vs) I1 ⟨R1,fun vs H' x y z=>⟨x,y,z⟩⟩) fun us s2 ⟨vs,H2,I2,r2,a2,t2,c2⟩=>?_;exact⟨v::vs,H2,I2,.cons r1 r2,k _ _ (a1.trans a2) t2 (.cons (Rep.mono (a2.fx R1.tn) _ _ c1) c2)⟩
theorem aDl{k:Nat}(h:k<=big):k<=sizeLine:=aq h (by rw[sizeLine_eq];decide)
theorem bBo{k:Nat}(h:k<big):k<sizeLine:=bj h (by rw[sizeLine_eq];decide)
theorem aA7{es:List Expr}{a:DA}{x1}{pos:Pos}(h:SF X tw es a):SE X tw (.Tuple es x1 pos) (dTup a):=by
 intro B ρ n t m n' hd pins s σ H Q I ⟨R,k⟩;obtain⟨⟨ts,n1⟩,e1,e2⟩:=bind_some hd;by_cases hb:ts.length<=big
 ·rw[if_pos hb] at e2;cases e2;refine pe_tup (h B ρ n ts n1 e1) pins s σ H Q I ⟨R,fun vs H' x y z=>⟨by rw[<-z.length];exact aDl hb,fun p hp=>k _ _ (x.trans (.new hp)) (y.new hp) ?_⟩⟩;show Rep tw _ (.tup ts) _;rw[Rep];exact⟨p,vs,rfl,aAq,Reps.mono (.new hp) _ _ z⟩
 ·rw[if_neg hb] at e2;cases e2
theorem aBh{es:List Expr}{a:DA}{pos:Pos}(h:SF X tw es a):SE X tw (.List es pos) (dLst a):=by
 intro B ρ n t m n' hd pins s σ H Q I ⟨R,k⟩;obtain⟨⟨ts,n1⟩,e1,e2⟩:=bind_some hd;by_cases hb:ts.length<=big
 ·rw[if_pos hb] at e2;cases e2;refine pe_lst (h B ρ n ts n1 e1) pins s σ H Q I ⟨R,fun vs H' x y z=>⟨by rw[<-z.length];exact aDl hb,fun p hp=>k _ _ (x.trans (.new hp)) (y.new hp) ?_⟩⟩;exact⟨p,rfl,x.free y hp,vs,aAq,Reps.mono (.new hp) _ _ z⟩
 ·rw[if_neg hb] at e2;cases e2
inductive Args (K:PySem.W.Frag) (tw:Addr) (H:Hp):List (T × Bool)->List V->Prop
 |nil:Args K tw H [] []
 |cons {t:T} {b:Bool} {v:V} {ts:List (T × Bool)} {vs:List V}:(b=true->Rep tw H t v)->Root K tw H t v->Args K tw H ts vs->Args K tw H ((t,b)::ts) (v::vs)
theorem Args.length{K:PySem.W.Frag}{H:Hp}:∀ {ts:List (T × Bool)} {vs:List V},Args K tw H ts vs->ts.length=vs.length
 |_,_,.nil=>rfl
 |_,_,.cons _ _ b=>by rw[ah,ah,Args.length b]
def rB(K:PySem.W.Frag)(B:Hp)(tw:Addr)(ρ:En)(n:Nat)(ts:List (T × Bool))(n':Nat):TA:=fun σ H Q =>
 Rel K B tw ρ n σ H/\∀vs H',Ext tw H H'->Tn tw n' H'->Args K tw H' ts vs->Q vs H'
def SB(X:Cx)(tw:Addr)(es:List Expr)(d:DB):Prop:=∀B ρ n ts n',d ρ n=some (ts,n')->PA X es (rB X.K B tw ρ n ts n')
theorem aAi:SB X tw [] bNil:=by intro B ρ n ts n' hd pos pins s σ H Q I ⟨R,k⟩;cases hd;exact aQf pos pins s σ H Q I (k [] H (.refl _ _) R.tn .nil)
def frm:Md->Md
 |.own=>.fz
 |.bor=>.bor
 |.lent=>.lent
 |.fz=>.fz
def dTmp(d:DE):DE:=fun ρ n=>(d ρ n).map fun r=>(r.1,frm r.2.1,r.2.2)
theorem bA8{e:Expr}{d:DE}(h:SE X tw e d):SE X tw e (dTmp d):=by
 intro B ρ n t m n' hd;obtain⟨⟨t0,m0,n0⟩,h1,h2⟩:=map_some hd;cases h2;cases m0 with
 |own=>exact aYn h B ρ n _ _ _ (by unfold dFz;rw[h1];rfl)
 |bor=>exact h B ρ n _ _ _ h1
 |lent=>exact h B ρ n _ _ _ h1
 |fz=>exact h B ρ n _ _ _ h1
theorem aAc{e:Expr}{es:List Expr}{d:DE}{r:DB}(h1:SE X tw e d)(h2:SB X tw es r)(hs:autoParam ZG az0._auto_1):SB X tw (e::es) (aAd d r):=by
 intro B ρ n ts n' hd pos pins s σ H Q I ⟨R,k⟩;obtain⟨⟨t,m,n1⟩,e1,e2⟩:=bind_some hd;obtain⟨⟨ts',n2⟩,e3,e4⟩:=map_some e2;cases e4;rw[hs];show wpAny _ _ (spliced ((false,eval e X.env)::backTo pos (starEach es X.env))) _ _ s;have e1':dTmp d ρ n=some (t,frm m,n1):=by unfold dTmp;rw[e1];rfl
 refine br (thn ((bA8 h1).run e1' I R) fun u s1 ⟨v,H1,I1,r1,a1,R1,c1⟩=>?_);refine thn (h2 B ρ n1 ts' n2 e3 pos pins s1 σ H1 (fun vs H2=>Ext tw H1 H2/\Tn tw n2 H2/\Args X.K tw H2 ts' vs) I1 ⟨R1,fun vs H' x y z=>⟨x,y,z⟩⟩) fun us s2 ⟨vs,H2,I2,r2,a2,t2,c2⟩=>?_;refine⟨v::vs,H2,I2,.cons r1 r2,k _ _ (a1.trans a2) t2 (.cons (fun hb=>?_) (Root.ext R1.tn a2 (c1.root R1 R.tn)) c2)⟩;have rt:Root X.K tw H1 t v:=c1.root R1 R.tn;cases m with
 |own=>exact Rep.mono (a2.fx R1.tn) _ _ c1
 |fz=>exact Rep.mono (a2.fx R1.tn) _ _ c1
 |bor=>exact Rep.mono (a2.fx R1.tn) _ _ (rt.rep (by simpa[flag] using hb))
 |lent=>exact Rep.mono (a2.fx R1.tn) _ _ (rt.rep (by simpa[flag] using hb))
def SpF(K:PySem.W.Frag)(tw:Addr)(ar:Nat)(f:Fn):Sp:=fun vs H Q _=>vs.length=ar/\Tb K H/\∃ts n t m n',Args K tw H ts vs/\Tn tw n H/\f ts n=some (t,m,n') /\
 ∀v H',Ext tw H H'->Tn tw n' H'->Val K H tw H H' t (md m) v->Q v H'
theorem Val.base{K:PySem.W.Frag}{B B':Hp}{H0 H:Hp}{t:T}{m:Bool}{v:V}(h:Val K B tw H0 H t (md m) v):Val K B' tw H0 H t (md m) v:=by cases m<;>exact h
theorem se_call{f:Fn}{lv:Nat}{fa:Addr}{fd:FuncData}{ps:List Str}{x:Str}{p pos:Pos}{e:Expr}{es:List Expr}{a:DB}{ar:Nat}(F:FnOk X.prog X.w X.K X.mg X.base CX0 lv fa fd ps (SpF X.K tw ar f))(hr:Room lv X.A)(hm:X.mg x=some (.ref fa))(hk:PySem.W.keepIn X.K (.ref fa)=true)
  (hb:Binds X.K fd ps []) (ha:SB X tw (e::es) a) (hg:autoParam (Gl X x) az0._auto_1) (hdb:autoParam ZL az1._auto_1) (he:autoParam ZG az0._auto_1)
  (hpl:autoParam ((backTo pos (starEach es X.env)).any (·.1)=false) az0._auto_1):SE X tw (.Call (.Name x p) (e::es) [] pos) (dCall ar f a):=by
 intro B ρ n t m n' hd pins s σ H Q I ⟨R,k⟩;obtain⟨⟨ts,n1⟩,e1,e2⟩:=bind_some hd;by_cases hl:ts.length=ar
 ·rw[if_pos hl] at e2;obtain⟨⟨t1,m1,n2⟩,e3,e4⟩:=map_some e2;cases e4;refine pe_call (E:=E0) (sp:=SpF X.K tw ar f) F hr hg hm hk hb .nil pass0 (ha B ρ n ts n1 e1) hdb he hpl pins s σ H Q I ⟨R,fun vs H' x y z=>?_⟩;show SpF X.K tw ar f (vs ++ []) H' Q E0;rw[gX];exact⟨z.length▸hl,R.btn.2.ext (R.ext.trans x),ts,n1,t1,m1,n2,z,y,e3,fun v H'' a b c=>k v H'' (x.trans a) b (c.base.back x y)⟩
 ·rw[if_neg hl] at e2;cases e2
section
variable {K:PySem.W.Frag}{B:Hp}{ρ:En}{n:Nat}{σ:St}{H:Hp}{i j:Nat}{t t':T}{m:Md}{v:V}
theorem aA4{α:Type}{l:List α}{i j:Nat}{x y:α}(h:(l.set i x)[j]?=some y):(j=i/\y=x/\i<l.length)\/(j≠i/\l[j]?=some y):=by
 rw[iH] at h;by_cases e:i=j
 ·subst e;rw[if_pos rfl] at h;split at h
  ·rename_i hl;exact .inl ⟨rfl,(Option.some.inj h).symm,hl⟩
  ·cases h
 ·rw[if_neg e] at h;exact .inr ⟨fun z=>e z.symm,h⟩
theorem aEj{α:Type}{l:List α}{i:Nat}{x:α}(h:i<l.length):(l.set i x)[i]?=some x:=by rw[iH,if_pos rfl,if_pos h]
theorem aBc{α:Type}{l:List α}{i j:Nat}{x:α}(h:j≠i):(l.set i x)[j]?=l[j]?:=by rw[iH,if_neg (Ne.symm h)]
theorem Rel.setF(R:Rel K B tw ρ n σ H)(h:Rep tw H t v):Rel K B tw (ρ.set i (some (t,.fz))) n (σ.set i (some v)) H:=by
 refine⟨R.ext,R.tn,R.btn,by rw[gZ,gZ];exact R.len,fun j t' e=>?_,fun j t' e=>?_,fun j t' e=>?_,fun j t' e=>?_,(R.go (· = ·) (fun _ _ _ h1 h2=>h1.trans h2.symm) (fun j tb td e=>by rcases aA4 e with ⟨rfl,q,hl⟩ |⟨ne,e⟩;(· cases q);exact⟨j,rfl,e,by rw[aBc ne]⟩) fun _ _ _ _ g=>g).1,(R.go (· = ·) (fun _ _ _ h1 h2=>h1.trans h2.symm) (fun j tb td e=>by rcases aA4 e with ⟨rfl,q,hl⟩ |⟨ne,e⟩;(· cases q);exact⟨j,rfl,e,by rw[aBc ne]⟩) fun _ _ _ _ g=>g).2,fun j k t1 t2 a e1 e2 s1 s2=>?_⟩
 ·rcases aA4 e with ⟨rfl,q,hl⟩ |⟨ne,e⟩
  ·cases q;exact⟨v,aEj (R.len▸hl),h⟩
  ·obtain⟨w,h1,h2⟩:=R.fz j t' e;exact⟨w,by rw[aBc ne];exact h1,h2⟩
 ·rcases aA4 e with ⟨rfl,q,hl⟩ |⟨ne,e⟩
  ·cases q
  ·obtain⟨w,h1,h2⟩:=R.bor j t' e;exact⟨w,by rw[aBc ne];exact h1,h2⟩
 ·rcases aA4 e with ⟨rfl,q,hl⟩ |⟨ne,e⟩
  ·cases q
  ·obtain⟨w,h1,h2⟩:=R.own j t' e;exact⟨w,by rw[aBc ne];exact h1,h2⟩
 ·rcases aA4 e with ⟨rfl,q,hl⟩ |⟨ne,e⟩
  ·cases q
  ·exact R.nol j t' e
 ·rcases aA4 e1 with ⟨rfl,q,hl⟩ |⟨n1,e1⟩
  ·cases q
  ·rcases aA4 e2 with ⟨rfl,q,hl⟩ |⟨n2,e2⟩
   ·cases q
   ·rw[aBc n1] at s1;rw[aBc n2] at s2;exact R.dis j k t1 t2 a e1 e2 s1 s2
theorem Rel.setO(R:Rel K B tw ρ n σ H)(hB:B a=none)(h:aK9 tw H a t)(hd:∀ (j:Nat) (t':T),j≠i->ρ[j]?=some (some (t',.own))->σ[j]?≠some (some (.ref a))) :
  Rel K B tw (ρ.set i (some (t,.own))) n (σ.set i (some (.ref a))) H:=by
 refine⟨R.ext,R.tn,R.btn,by rw[gZ,gZ];exact R.len,fun j t' e=>?_,fun j t' e=>?_,fun j t' e=>?_,fun j t' e=>?_,(R.go (· = ·) (fun _ _ _ h1 h2=>h1.trans h2.symm) (fun j tb td e=>by rcases aA4 e with ⟨rfl,q,hl⟩ |⟨ne,e⟩;(· cases q);exact⟨j,rfl,e,by rw[aBc ne]⟩) fun _ _ _ _ g=>g).1,(R.go (· = ·) (fun _ _ _ h1 h2=>h1.trans h2.symm) (fun j tb td e=>by rcases aA4 e with ⟨rfl,q,hl⟩ |⟨ne,e⟩;(· cases q);exact⟨j,rfl,e,by rw[aBc ne]⟩) fun _ _ _ _ g=>g).2,fun j k t1 t2 b e1 e2 s1 s2=>?_⟩
 ·rcases aA4 e with ⟨rfl,q,hl⟩ |⟨ne,e⟩
  ·cases q
  ·obtain⟨w,h1,h2⟩:=R.fz j t' e;exact⟨w,by rw[aBc ne];exact h1,h2⟩
 ·rcases aA4 e with ⟨rfl,q,hl⟩ |⟨ne,e⟩
  ·cases q
  ·obtain⟨w,h1,h2⟩:=R.bor j t' e;exact⟨w,by rw[aBc ne];exact h1,h2⟩
 ·rcases aA4 e with ⟨rfl,q,hl⟩ |⟨ne,e⟩
  ·cases q;exact⟨a,aEj (R.len▸hl),hB,h⟩
  ·obtain⟨w,h1,h2⟩:=R.own j t' e;exact⟨w,by rw[aBc ne];exact h1,h2⟩
 ·rcases aA4 e with ⟨rfl,q,hl⟩ |⟨ne,e⟩
  ·cases q
  ·exact R.nol j t' e
 ·rcases aA4 e1 with ⟨rfl,q,hl⟩ |⟨n1,e1'⟩
  ·rw[aEj (R.len▸hl)] at s1;cases s1;rcases aA4 e2 with ⟨rfl,q,hl⟩ |⟨n2,e2⟩
   ·rfl
   ·rw[aBc n2] at s2;exact absurd s2 (hd k t2 n2 e2)
  ·rw[aBc n1] at s1;rcases aA4 e2 with ⟨rfl,q,hl⟩ |⟨n2,e2⟩
   ·rw[aEj (R.len▸hl)] at s2;cases s2;exact absurd s1 (hd j t1 n1 e1')
   ·rw[aBc n2] at s2;exact R.dis j k t1 t2 b e1' e2 s1 s2
theorem Rel.drop(R:Rel K B tw ρ n σ H)(i:Nat):Rel K B tw (ρ.set i none) n σ H:=by
 have key:∀ (j:Nat) (p:T × Md),(ρ.set i none)[j]?=some (some p)->ρ[j]?=some (some p):=fun j p e=>by
  rcases aA4 e with ⟨rfl,q,hl⟩ |⟨ne,e⟩
  ·cases q
  ·exact e
 exact⟨R.ext,R.tn,R.btn,by rw[gZ];exact R.len,fun j t' e=>R.fz j t' (key j _ e),fun j t' e=>R.bor j t' (key j _ e),fun j t' e=>R.own j t' (key j _ e),fun j t' e=>R.nol j t' (key j _ e),
  (R.go (· = ·) (fun _ _ _ h1 h2=>h1.trans h2.symm) (fun j _ _ e=>⟨j,rfl,key j _ e,rfl⟩) fun _ _ _ _ g=>g).1,(R.go (· = ·) (fun _ _ _ h1 h2=>h1.trans h2.symm) (fun j _ _ e=>⟨j,rfl,key j _ e,rfl⟩) fun _ _ _ _ g=>g).2,
  fun j k t1 t2 a e1 e2 s1 s2=>R.dis j k t1 t2 a (key j _ e1) (key k _ e2) s1 s2⟩
end
theorem aA2:SSs X tw [] aCi:=by intro B ρ n f ρ' n' hd pins s σ H D I ⟨R,k⟩;cases hd;exact pss_nil pins s σ H D I (k σ H (.refl _) R)
theorem aAk{st:Stmt}{d:DS}(h:SS X tw st d):SSs X tw [st] d:=fun B ρ n f ρ' n' hd=>aY3 (h B ρ n f ρ' n' hd)
theorem aAj{st:Stmt}{sts:List Stmt}{d e:DS}(h1:SS X tw st d)(h2:SSs X tw sts e):SSs X tw (st::sts) (dSeq d e):=by
 intro B ρ n f ρ' n' hd pins s σ H D I ⟨R,k⟩;obtain⟨⟨f1,ρ1,n1⟩,e1,e2⟩:=bind_some hd;cases f1 with
 | nx =>
  have e2:e ρ1 n1=some (f,ρ',n'):=e2;exact aFh (h1 B ρ n .nx ρ1 n1 e1) (h2 B ρ1 n1 f ρ' n' e2) pins s σ H D I ⟨R,fun σ' H' x y=>⟨y,k.fx x⟩⟩
 |bk=>cases e2;exact aFh (h1 B ρ n .bk ρ1 n1 e1) aH8 pins s σ H D I ⟨R,k⟩
 |ct=>cases e2;exact aFh (h1 B ρ n .ct ρ1 n1 e1) aH8 pins s σ H D I ⟨R,k⟩
 |rt t m=>cases e2;exact aFh (h1 B ρ n (.rt t m) ρ1 n1 e1) aH8 pins s σ H D I ⟨R,k⟩
theorem aJ2{st:Stmt}:SS X tw st aA0:=by intro B ρ n f ρ' n' hd;cases hd
theorem aCn{c:Expr}{a b:List Stmt}{dc:DT}{da db:DS}{pos:Pos}(hc:ST X tw c dc)(ha:SSs X tw a da)(hb:SSs X tw b db):SS X tw (.If c a b pos) (dIfS dc da db):=by
 intro B ρ n f ρ' n' hd pins s σ H D I ⟨R,k⟩;obtain⟨⟨x,n1⟩,e1,e2⟩:=bind_some hd;refine wpAny_If (thn (hc.run e1 I R) fun y s1 ⟨ey,H1,I1,a1,R1⟩=>?_);subst ey;cases y with
 |true=>exact ha B ρ n1 f ρ' n' e2 pins s1 σ H1 D I1 ⟨R1,k.fx (a1.fx R.tn)⟩
 |false=>exact hb B ρ n1 f ρ' n' e2 pins s1 σ H1 D I1 ⟨R1,k.fx (a1.fx R.tn)⟩
theorem aBj{e:Expr}{d:DE}{pos:Pos}(h:SE X tw e d)(hs:autoParam (swapsWith e none pos.line X.env=pure false) az0._auto_1):SS X tw (.Expr e pos) (aB0 d):=by intro B ρ n f ρ' n' hd pins s σ H D I ⟨R,k⟩;obtain⟨⟨t,m,n1⟩,e1,e2⟩:=map_some hd;cases e2;exact aNb (h B ρ n t m n1 e1) hs pins s σ H D I ⟨R,fun v H' x y z=>k σ H' (x.fx R.tn) (R.mono x y)⟩
theorem aAt{e:Expr}{d:DE}{pos:Pos}(h:SE X tw e d):SS X tw (.Return (some e) pos) (dRet d):=by
 intro B ρ n f ρ' n' hd pins s σ H D I ⟨R,k⟩;obtain⟨⟨t,m,n1⟩,e1,e2⟩:=bind_some hd;refine bB6 (h B ρ n t m n1 e1) pins s σ H D I ⟨R,fun v H' x y z=>?_⟩;cases m with
 | own =>
  cases e2;exact k v H' (x.fx R.tn) (R.ext.trans x) y (z.back R.ext R.tn)
 | fz =>
  cases e2;exact k v H' (x.fx R.tn) (R.ext.trans x) y z
 |_=>cases e2
theorem aUa(i:Nat){x:Str}{pos pos':Pos}(hN:autoParam (X.N[i]?=some x) az0._auto_1)(hv:autoParam (Vis X.env.scope x) az7._auto_1)(hd:autoParam ZL az1._auto_1)
  (hcd:autoParam ((x==("__classdict__" : Str))=false) az1._auto_1):SS X tw (.Return (some (.Name x pos')) pos) (aF2 i):=by
 intro B ρ n f ρ' n' hh pins s σ H D I ⟨R,k⟩;have fin:∃v,σ[i]?=some (some v)/\D.rt v H:=by
  unfold aF2 at hh;cases e:ρ[i]? with
  |none=>rw[e] at hh;cases hh
  | some o =>
   cases o with
   |none=>rw[e] at hh;cases hh
   | some p =>
    obtain⟨t,m⟩:=p;rw[e] at hh;cases m with
    | own =>
     cases hh;obtain⟨a,h1,h2,h3⟩:=R.own i t e;exact⟨_,h1,k _ H (.refl _) R.ext R.tn ⟨a,rfl,h2,h3⟩⟩
    | fz =>
     cases hh;obtain⟨v,h1,h2⟩:=R.fz i t e;exact⟨_,h1,k _ H (.refl _) R.ext R.tn h2⟩
    | bor =>
     have hh:(if aDx t then none else some (Fl.rt t false,ρ,n))=some (f,ρ',n'):=hh;split at hh
     ·cases hh
     ·rename_i b;cases hh;obtain⟨v,h1,h2⟩:=R.bor i t e;exact⟨_,h1,k _ H (.refl _) R.ext R.tn (let ⟨_,bt⟩:=R.btn.1;Rep.mono (R.ext.fx bt) _ _ (h2.rep (by simpa using b)))⟩
    |lent=>cases hh
 obtain⟨v,h1,h2⟩:=fin;exact bB6 (aLu hN hv hd hcd) pins s σ H D I ⟨v,h1,h2⟩
theorem aRz{K:PySem.W.Frag}{B:Hp}{ρ:En}{n:Nat}{σ:St}{H:Hp}{a:Addr}(R:Rel K B tw ρ n σ H)(h:H a=none):∀ (j:Nat) (t':T),ρ[j]?=some (some (t',.own))->σ[j]?≠some (some (.ref a)):=fun j t' e z=>by obtain⟨b,h1,_,h3⟩:=R.own j t' e;rw[z] at h1;cases h1;exact h3.some h
theorem Rel.store{K:PySem.W.Frag}{B:Hp}{ρ ρ':En}{n n':Nat}{σ:St}{H H':Hp}{i:Nat}{t:T}{m:Md}{v:V}(R:Rel K B tw ρ n σ H)(x:Ext tw H H')(y:Tn tw n' H')(z:Val K B tw H H' t m v)
  (h:(match m with |.own=>some (ρ.set i (some (t,Md.own))) |.fz=>some (ρ.set i (some (t,Md.fz))) |_=>none)=some ρ'):Rel K B tw ρ' n' (σ.set i (some v)) H':=by
 have R1:=R.mono x y;cases m with
 | own =>
  cases h;obtain⟨a,rfl,q2,q3⟩:=z;exact R1.setO (R.ext.free R.tn q2) q3 fun j t' _ e z=>aRz R q2 j t' e z
 | fz =>
  cases h;exact R1.setF z
 |_=>cases h
theorem aCu(i:Nat){x:Str}{e:Expr}{d:DE}{pos pos':Pos}(h:SE X tw e d)(hN:X.N.Nodup)(hi:autoParam (X.N[i]?=some x) az0._auto_1)(hx:autoParam (Loc X.env.scope x) az4._auto_1)(hs:autoParam (swapsWith e (some (.Name x pos')) pos.line X.env=pure false) az0._auto_1)
  (hf:autoParam (X.fn x=true\/X.env.scope.names.lookup x=some .local) az2._auto_1):SS X tw (.Assign [.Name x pos'] e pos) (dSet i d):=by
 intro B ρ n f ρ' n' hd pins s σ H D I ⟨R,k⟩;obtain⟨⟨t,m,n1⟩,e1,e2⟩:=bind_some hd;refine aXg hN hi hx (h B ρ n t m n1 e1) hs hf pins s σ H D I ⟨R,fun v H' x y z=>?_⟩;cases m with
 |own=>cases e2;exact k _ H' (x.fx R.tn) (R.store x y z rfl)
 |fz=>cases e2;exact k _ H' (x.fx R.tn) (R.store x y z rfl)
 |_=>cases e2
theorem aHk(i j:Nat){x y:Str}{pos pos' py:Pos}(hN:X.N.Nodup)(hij:autoParam (i≠j) az1._auto_1)(hi:autoParam (X.N[i]?=some x) az0._auto_1)(hx:autoParam (Loc X.env.scope x) az4._auto_1)(hj:autoParam (X.N[j]?=some y) az0._auto_1)(hv:autoParam (Vis X.env.scope y) az7._auto_1)
  (hd:autoParam ((y==("__debug__" : Str))=false) az1._auto_1) (hcd:autoParam ((y==("__classdict__" : Str))=false) az1._auto_1) (hs:autoParam (swapsWith (.Name y py) (some (.Name x pos')) pos.line X.env=pure false) az0._auto_1)
  (hf:autoParam (X.fn x=true\/X.env.scope.names.lookup x=some .local) az2._auto_1):SS X tw (.Assign [.Name x pos'] (.Name y py) pos) (aDv i j):=by
 intro B ρ n f ρ' n' hh pins s σ H D I ⟨R,k⟩;have fin:∃v,σ[j]?=some (some v)/\D.nx (σ.set i (some v)) H:=by
  unfold aDv at hh;cases e:ρ[j]? with
  |none=>rw[e] at hh;cases hh
  | some o =>
   cases o with
   |none=>rw[e] at hh;cases hh
   | some p =>
    obtain⟨t,m⟩:=p;rw[e] at hh;cases m with
    | own =>
     cases hh;obtain⟨a,h1,h2,h3⟩:=R.own j t e;refine⟨_,h1,k _ H (.refl _) ((R.drop j).setO h2 h3 fun l t' _ e1 e2=>?_)⟩;rcases aA4 e1 with ⟨_,q,_⟩ |⟨ne,e1⟩
     ·cases q
     ·exact ne (R.dis l j t' t a e1 e e2 h1)
    | fz =>
     cases hh;obtain⟨v,h1,h2⟩:=R.fz j t e;exact⟨_,h1,k _ H (.refl _) (R.setF h2)⟩
    | bor =>
     have hh:(if aDx t then none else some (Fl.nx,ρ.set i (some (t,Md.fz)),n))=some (f,ρ',n'):=hh;split at hh
     ·cases hh
     ·rename_i b;cases hh;obtain⟨v,h1,h2⟩:=R.bor j t e;exact⟨_,h1,k _ H (.refl _) (R.setF (let ⟨_,bt⟩:=R.btn.1;Rep.mono (R.ext.fx bt) _ _ (h2.rep (by simpa using b))))⟩
    |lent=>cases hh
 obtain⟨v,h1,h2⟩:=fin;exact aXg hN hi hx (aLu hj hv hd hcd) hs hf pins s σ H D I ⟨v,h1,h2⟩
theorem Rel.write{K:PySem.W.Frag}{B:Hp}{ρ:En}{n:Nat}{σ:St}{H:Hp}{i:Nat}{t t':T}{a:Addr}{o:HO}(R:Rel K B tw ρ n σ H)(e:ρ[i]?=some (some (t,.own)))(es:σ[i]?=some (some (.ref a)))(h:aK9 tw (upd H a o) a t') :
  Rel K B tw (ρ.set i (some (t',.own))) n σ (upd H a o)/\Fx H (upd H a o):=by
 obtain⟨a',e1,hB,ow⟩:=R.own i t e;rw[es] at e1;cases e1;have na:=R.own_ne hB
 have fx:Fx H (upd H a o):=fun b=>⟨fun vs q=>by rw[aAn (by rintro rfl;cases t<;>first |(exact(show False from ow).elim) |(obtain⟨_,z,_⟩:=ow;rw[q] at z;cases z))];exact q,
  fun o' u q=>by
   rw[aAn (by rintro rfl;cases t<;>first |(exact(show False from ow).elim) |(obtain⟨_,z,_⟩:=ow;rw[q] at z;cases z))];exact q⟩
 have il:i<ρ.length:=(bh.mp e).1;have gg:=R.go (ρ':=ρ.set i (some (t',.own))) (σ':=σ) (H':=upd H a o) (· = ·) (fun _ _ _ h1 h2=>h1.trans h2.symm) (fun j tb td q=>by rcases aA4 q with ⟨rfl,z,_⟩ |⟨ne,q⟩;(· cases z);exact⟨j,rfl,q,rfl⟩) fun _ _ _ _ g=>g.other fx (fun C dx fs z=>by cases t<;>first |(exact(show False from ow).elim) |(obtain⟨_,y,_⟩:=ow;rw[z] at y;cases y)) fun vs z=>by cases t<;>first |(exact(show False from ow).elim) |(obtain⟨_,y,_⟩:=ow;rw[z] at y;cases y)
 refine⟨⟨R.ext.put hB (fun φ z=>by cases t<;>first |(exact(show False from ow).elim) |(obtain⟨_,y,_⟩:=ow;rw[z] at y;cases y)),by show upd H a o tw=_;rw[aAn na.symm];exact R.tn,R.btn,by rw[gZ];exact R.len,fun j t1 q=>?_,fun j t1 q=>?_,fun j t1 q=>?_,fun j t1 q=>?_,gg.1,gg.2,fun j k t1 t2 b q1 q2 s1 s2=>?_⟩,fx⟩
 ·rcases aA4 q with ⟨_,z,_⟩ |⟨ne,q⟩
  ·cases z
  ·obtain⟨v,h1,h2⟩:=R.fz j t1 q;exact⟨v,h1,Rep.mono fx _ _ h2⟩
 ·rcases aA4 q with ⟨_,z,_⟩ |⟨ne,q⟩
  ·cases z
  ·exact R.bor j t1 q
 ·rcases aA4 q with ⟨rfl,z,_⟩ |⟨ne,q⟩
  ·cases z;exact⟨a,es,hB,h⟩
  ·obtain⟨b,h1,h2,h3⟩:=R.own j t1 q;refine⟨b,h1,h2,?_⟩;have nb:b≠a:=by rintro rfl;exact ne (R.dis j i t1 t b q e h1 es)
   cases t1 with
   |lst xs=>obtain⟨vs,z1,z2⟩:=h3;exact⟨vs,by rw[aAn nb];exact z1,Reps.mono fx _ _ z2⟩
   |dic kvs=>obtain⟨vs,z1,z2⟩:=h3;exact⟨vs,by rw[aAn nb];exact z1,RepK.mono fx _ _ z2⟩
   |rdc ks=>obtain⟨vs,z1,z2⟩:=h3;exact⟨vs,by rw[aAn nb];exact z1,z2⟩
   |_=>exact h3.elim
 ·rcases aA4 q with ⟨_,z,_⟩ |⟨ne,q⟩
  ·cases z
  ·exact R.nol j t1 q
 ·have back:∀ (l:Nat) (t0:T),(ρ.set i (some (t',Md.own)))[l]?=some (some (t0,Md.own))->∃t0',ρ[l]?=some (some (t0',Md.own)):=fun l t0 z=>by
   rcases aA4 z with ⟨rfl,_,_⟩ |⟨_,z⟩
   ·exact⟨t,e⟩
   ·exact⟨t0,z⟩
  obtain⟨u1,z1⟩:=back j t1 q1;obtain⟨u2,z2⟩:=back k t2 q2;exact R.dis j k u1 u2 b z1 z2 s1 s2
def rSetB:TSet:=fun o i v H Q=>rSetL o i v H Q\/∃a H',o = .ref a/\DPut H a i v H'/\Q H'
theorem set_both(hu:X.A.units+1<cLine):PSet X rSetB:=by
 intro pins s σ H o i v ov iv u Q I ro ri rv h;rcases h with h |⟨a,H',rfl,g,q⟩
 ·exact set_list pins s σ H o i v ov iv u Q I ro ri rv h
 ·cases ro;exact bAe hu I g ri rv fun s' I'=>⟨H',I',q⟩
theorem RepK.length:∀ {kvs:List (Key × T)} {ws:List (Key × V)},RepK tw H kvs ws->kvs.length=ws.length
 |[],_,r=>by rw[RepK] at r;rw[r];rfl
 |(k,x)::xs,_,r=>by rw[RepK] at r;obtain⟨v,w,rfl,p,q⟩:=r;rw[ah,ah,RepK.length q]
theorem aEz(a:Rep tw H x v)(b:RepK tw H xs ws):RepK tw H ((k,x)::xs) ((k,v)::ws):=by rw[RepK];exact⟨v,ws,rfl,a,b⟩
theorem RepK.at(k:Key):∀ {kvs:List (Key × T)} {ws:List (Key × V)},RepK tw H kvs ws->(aFi kvs k=none/\valV ws k=none)\/∃t v,aFi kvs k=some t/\valV ws k=some v/\Rep tw H t v
 |[],_,r=>by rw[RepK] at r;rw[r];exact .inl ⟨rfl,rfl⟩
 | (k',x)::xs,_,r=>by
  rw[RepK] at r;obtain⟨v,w,rfl,p,q⟩:=r;by_cases e:k'=k
  ·subst e;exact .inr ⟨x,v,by simp[aFi,ez],aJs rfl,p⟩
  ·have e1:aFi ((k',x)::xs) k=aFi xs k:=by simp[aFi,ez,e]
   rw[e1,aJp (show ¬ (k',v).1=k from e)];exact RepK.at k q
theorem RepK.any(k:Key)(r:RepK tw H kvs ws):(kvs.any fun kv=>decide (kv.1=k))=(ws.any fun kv=>decide (kv.1=k)):=by
 induction kvs generalizing ws with
 |nil=>rw[RepK] at r;rw[r];rfl
 | cons p xs ih =>
  obtain⟨k',x⟩:=p;rw[RepK] at r;obtain⟨v,w,rfl,p,q⟩:=r;rw[i9,i9,ih q]
theorem RepK.put(k:Key)(hx:Rep tw H x v)(r:RepK tw H kvs ws):RepK tw H (aDc kvs k x) (putK ws k v):=by
 unfold aDc putK;rw[<-r.any k];have mapped:∀ {kvs:List (Key × T)} {ws:List (Key × V)},RepK tw H kvs ws->RepK tw H (kvs.map fun kv=>if kv.1=k then (kv.1,x) else kv) (ws.map fun kv=>if kv.1=k then (kv.1,v) else kv):=by
  intro kvs
  induction kvs with
  |nil=>intro ws r;rw[RepK] at r;rw[r];rw[gq,gq,RepK]
  | cons p xs ih =>
   intro ws r;obtain⟨k',y⟩:=p;rw[RepK] at r;obtain⟨v',w,rfl,p,q⟩:=r;rw[af,af];by_cases e:k'=k
   ·rw[if_pos e,if_pos e];exact aEz hx (ih q)
   ·rw[if_neg e,if_neg e];exact aEz p (ih q)
 have snoc:∀ {kvs:List (Key × T)} {ws:List (Key × V)},RepK tw H kvs ws->RepK tw H (kvs ++ [(k,x)]) (ws ++ [(k,v)]):=by
  intro kvs
  induction kvs with
  |nil=>intro ws r;rw[RepK] at r;rw[r];exact aEz hx (by rw[RepK])
  | cons p xs ih =>
   intro ws r;obtain⟨k',y⟩:=p;rw[RepK] at r;obtain⟨v',w,rfl,p,q⟩:=r;exact aEz p (ih q)
 split
 ·exact mapped r
 ·exact snoc r
theorem aVw{H:Hp}{t:T}{k:Key}{v:V}{K:PySem.W.Frag}(h:keyOf t=some k)(r:Root K tw H t v):v=kV k:=by
 cases t with
 |int i=>cases h;have r:Rep tw H (.int i) v:=r;rw[Rep] at r;exact r
 |str x=>cases h;have r:Rep tw H (.str x) v:=r;rw[Rep] at r;exact r
 |_=>cases h
theorem ixN_of{n:Nat}{i:Int}(h0:0<=i)(h1:i<n):ixN n i=some i.toNat:=by unfold ixN;rw[if_pos h0,if_pos h1]
theorem aWf(i:Nat){x:Str}{ke e:Expr}{dk d:DE}{pos pos' px:Pos}(hu:X.A.units+1<cLine)(hv:SE X tw e d)(hk:SE X tw ke dk)(hN:autoParam (X.N[i]?=some x) az0._auto_1)(hvis:autoParam (Vis X.env.scope x) az7._auto_1)(hd:autoParam ZL az1._auto_1)
  (hcd:autoParam ((x==("__classdict__" : Str))=false) az1._auto_1)
  (ha:autoParam (∀v,assign (.Subscript (.Name x px) ke pos') X.env v=(do
   let ov <-holding [v] (eval (.Name x px) X.env)
   let iv <-holding [v,ov] (eval ke X.env)
   standAt pos'
   holding [v,ov,iv] (setItem ov iv v)
   release [v,ov,iv] [])) az3._auto_1)
  (hs:autoParam (swapsWithSole [.Subscript (.Name x px) ke pos'] e pos.line X.env=pure false) az0._auto_1) (hw:autoParam (swappedStores [.Subscript (.Name x px) ke pos'] e X.env=pure none) az0._auto_1)
  (h1:autoParam ((assignEach [.Subscript (.Name x px) ke pos'] X.env).map (·.2) = [assign (.Subscript (.Name x px) ke pos') X.env]) az0._auto_1):SS X tw (.Assign [.Subscript (.Name x px) ke pos'] e pos) (aGb i setL dk d):=by
 intro B ρ n f ρ' n' hh pins s σ H D I ⟨R,k⟩;obtain⟨⟨tv,mv,n1⟩,e1,e2⟩:=bind_some hh;obtain⟨⟨tk,mk,n2⟩,e3,e4⟩:=bind_some e2;obtain rfl:mv = .fz:=by obtain⟨_,_,q⟩:=bind_some e1;obtain⟨_,_,q⟩:=map_some q;cases q;rfl
 have ⟨t,t',er,et,ef,eρ,en⟩:∃t t',ρ[i]?=some (some (t,Md.own))/\setL t tk tv=some t'/\f = .nx/\ρ'=ρ.set i (some (t',Md.own))/\n'=n2:=by
  cases e:ρ[i]? with
  |none=>rw[e] at e4;cases e4
  | some o =>
   cases o with
   |none=>rw[e] at e4;cases e4
   | some p =>
    obtain⟨t,m⟩:=p;rw[e] at e4;cases m with
    | own =>
     obtain⟨t',h1,h2⟩:=map_some e4;cases h2;exact⟨t,t',rfl,h1,rfl,rfl,rfl⟩
    |_=>cases e4
 subst ef eρ en;obtain⟨a,es,hB,_⟩:=R.own i t er;refine ps_asg ((aYn hv) B ρ n tv .fz n1 e1) (pg_sub (aLu hN hvis hd hcd) (hk B ρ n1 tk mk _ e3) (set_both hu) ha) hs hw h1 pins s σ H D I ⟨R,fun v H1 x1 y1 z1=>?_⟩;have R1:=R.mono x1 y1;refine⟨.ref a,es,R1,fun kv H2 x2 y2 z2=>?_⟩;have R2:=R1.mono x2 y2;have rk:=z2.root R2 R1.tn;have rv:Rep tw H2 tv v:=Rep.mono (x2.fx R1.tn) _ _ z1;obtain⟨a',es',_,ow⟩:=R2.own i t er;rw[es] at es';cases es';have fx2:Fx H H2:=(x1.trans x2).fx R.tn;cases t with
 | lst xs =>
  obtain⟨vs,h1,h2⟩:=ow;cases tk with
  | int j =>
   have et:(if 0<=j/\j<xs.length then some (T.lst (xs.set j.toNat tv)) else none)=some t':=et;split at et
   ·rename_i hj;cases et;have rk:Rep tw H2 (.int j) kv:=rk;rw[Rep] at rk;subst rk;have hl:=h2.length;refine .inl ⟨a,vs,j,j.toNat,rfl,rfl,h1,ixN_of hj.1 (by rw[<-hl];exact hj.2),?_⟩
    obtain⟨W,fx⟩:=R2.write (t':=.lst (xs.set j.toNat tv)) (o:=.lst (vs.set j.toNat v)) er es ⟨_,aAq,by
     have fx:Fx H2 (upd H2 a (.lst (vs.set j.toNat v))):=fun b=>⟨fun vs q=>by rw[aAn (by rintro rfl;rw[h1] at q;cases q)];exact q,fun _ _ q=>by rw[aAn (by rintro rfl;rw[h1] at q;cases q)];exact q⟩
     exact Reps.set (Rep.mono fx _ _ rv) _ (Reps.mono fx _ _ h2)⟩
    exact k σ _ (fx2.trans fx) W
   ·cases et
  |_=>cases et
 | dic kvs =>
  obtain⟨ws,h1,h2⟩:=ow;have et:(keyOf tk).bind (fun k=>if kvs.length<big then some (T.dic (aDc kvs k tv)) else none)=some t':=et;obtain⟨ky,q1,q2⟩:=bind_some et;split at q2
  ·rename_i hb;cases q2;have:=aVw q1 rk;subst this;refine .inr ⟨a,_,rfl,DPut.k h1 (by rw[<-RepK.length h2];exact bBo hb),?_⟩
   obtain⟨W,fx⟩:=R2.write (t':=.dic (aDc kvs ky tv)) (o:=.dK (putK ws ky v)) er es ⟨_,aAq,by
    have fx:Fx H2 (upd H2 a (.dK (putK ws ky v))):=fun b=>⟨fun vs q=>by rw[aAn (by rintro rfl;rw[h1] at q;cases q)];exact q,fun _ _ q=>by rw[aAn (by rintro rfl;rw[h1] at q;cases q)];exact q⟩
    exact RepK.put ky (Rep.mono fx _ _ rv) (RepK.mono fx _ _ h2)⟩
   exact k σ _ (fx2.trans fx) W
  ·cases q2
 |rdc ks=>cases et
 |_=>exact(show False from ow).elim
theorem own_slot{i:Nat}{ρ:En}{n:Nat}{f:Fl}{ρ':En}{n':Nat}{g:T->Option T}(h:(match ρ[i]? with
  |some (some (t,.own))=>(g t).map fun t'=>(Fl.nx,ρ.set i (some (t',Md.own)),n)
  |_=>none)=some (f,ρ',n')):∃t t',ρ[i]?=some (some (t,Md.own))/\g t=some t'/\f = .nx/\ρ'=ρ.set i (some (t',Md.own))/\n'=n:=by
 cases e:ρ[i]? with
 |none=>rw[e] at h;cases h
 | some o =>
  cases o with
  |none=>rw[e] at h;cases h
  | some p =>
   obtain⟨t,m⟩:=p;rw[e] at h;cases m with
   | own =>
    obtain⟨t',h1,h2⟩:=map_some h;cases h2;exact⟨t,t',rfl,h1,rfl,rfl,rfl⟩
   |_=>cases h
theorem fz_md{n:Nat}{n':Nat}(e:dFz d ρ n=some (t,m,n')):m = .fz:=by obtain⟨_,_,q⟩:=bind_some e;obtain⟨_,_,q⟩:=map_some q;cases q;rfl
section
open PySem.AutoSeq1
theorem ext_any(l:Addr)(items:Array Value)(n:Nat)(b:Addr)(items2:Array Value)(n2:Nat)(c:String)(hc:c = "list" \/ c = "tuple")(dx:Option Addr)(sl:Array (Option Value))(hs0:¬(!items.isEmpty&&Builtin.List.listTooLong (items.size+items2.size))=true)(hs1:items.size<=sizeLine)(hs2:items.size+items2.size<=sizeLine+1) :
  Meets (Builtin.«list.extend» ⟨[.ref l,.ref b],[]⟩) (fun _ R s=>s.heap.get? l=some { cls:=.type "list",dict:=none,data:=.seq items n,slots:=#[] }/\s.heap.get? b=some { cls:=.type c,dict:=dx,data:=.seq items2 n2,slots:=sl }/\R (.ok (.ret Value.none)) { s with heap:=s.heap.update l (Obj.mapSeq fun x=>x++items2),toks:=s.toks }):=by
 rcases hc with rfl |rfl
 ·exact .of_wp fun prog w A R s h=>by
   obtain⟨hp,g,d,tk,os⟩:=s;obtain⟨hl,hb,h⟩:=h;have f1:=idx_int;have f2:=PySem.AutoSeq1.sub_tuple_tuple;have f3:=PySem.AutoSeq1.sub_list_list;have f4:=PySem.AutoSeq1.sub_tuple_list;have f5:=PySem.AutoSeq1.sub_list_tuple;
   have hz':(items++items2).size<=sizeLine+1:=by rw[ji];exact hs2
   wp_walk using (wpAny_updateSeq hl rfl (hz:=hs1) (_hz':=hz')),wpAny_loadPart' hl,wpAny_loadPart' hb;exact⟨_,rfl,h⟩
 ·exact .of_wp fun prog w A R s h=>by
   obtain⟨hp,g,d,tk,os⟩:=s;obtain⟨hl,hb,h⟩:=h;have f1:=idx_int;have f2:=PySem.AutoSeq1.sub_tuple_tuple;have f3:=PySem.AutoSeq1.sub_list_list;have f4:=PySem.AutoSeq1.sub_tuple_list;have f5:=PySem.AutoSeq1.sub_list_tuple;
   have hz':(items++items2).size<=sizeLine+1:=by rw[ji];exact hs2
   wp_walk using (wpAny_updateSeq hl rfl (hz:=hs1) (_hz':=hz')),wpAny_loadPart' hl,wpAny_loadPart' hb;exact⟨_,rfl,h⟩
end
def rExt(K:PySem.W.Frag):V->List V->Hp->VK->Prop:=fun x vs H Q=>∃l b xs zs,x = .ref l/\vs = [.ref b]/\H l=some (.lst xs)/\(SqL K H b zs\/SqT K H b zs)/\xs.length+zs.length<=sizeLine/\Q .non (upd H l (.lst (xs++zs)))
theorem mt_ext:MtM X "list.extend" (rExt X.K):=by
 intro pins s σ H x vs v us Q I rx rv h;obtain⟨l,b,xs,zs,rfl,rfl,hH,hB,hz,q⟩:=h;cases rx;obtain⟨u,rfl,ru⟩:=rv.one;cases ru;obtain⟨z,its,n,r,hl,e⟩:=I.lstM hH;have key:∀ (its2:List Value),Vals zs its2->(∃ (o:Obj) (c:String) (n2:Nat),s.heap.get? b=some o/\(c = "list" \/ c = "tuple")/\o.cls = .type c/\o.data = .seq its2.toArray n2) ->
   wpAny ZC X.A (call (.builtin "list.extend") [.ref l,.ref b]) (EP X pins σ Q) X.xe s:=fun its2 r2 ho=>by
  have hl2:=r2.length;have hsz:its.toArray.size+its2.toArray.size<=sizeLine:=by rw[aj,aj];lia
  have hlong:¬ (!its.toArray.isEmpty&&Builtin.List.listTooLong (its.toArray.size+its2.toArray.size))=true:=by rw[aW3 hsz,gz];exact cz
  obtain⟨⟨cl,dx,dt,sl⟩,c,n2,e2,hc,rfl,rfl⟩:=ho;refine call_meets F.slot_list_extend ⟨_,e,rfl⟩ F.entry_list_extend (F.args_list_extend_2 _ _) (ext_any l its.toArray n b its2.toArray n2 c hc dx sl hlong (by rw[aj];lia) ZB) ⟨e,e2,?_⟩;exact⟨.non,_,I.lset (its':=its++its2) hH e ZR (r.append r2) (by rw[bp];lia),rfl,q⟩
 rcases hB with hB |hB
 ·obtain⟨its2,r2,⟨o,n2,e2,c2,_,d2⟩,_⟩:=I.list hB;exact key its2 r2 ⟨o,"list",n2,e2,.inl rfl,c2,d2⟩
 ·obtain⟨its2,r2,⟨o,e2,c2,n2,d2⟩,_⟩:=I.tuple hB;exact key its2 r2 ⟨o,"tuple",n2,e2,.inr rfl,c2,d2⟩
theorem bAd(i:Nat){x:Str}{e:Expr}{d:DE}{pos px apos cpos:Pos}(hv:SE X tw e d)(hN:autoParam (X.N[i]?=some x) az0._auto_1)(hvis:autoParam (Vis X.env.scope x) az7._auto_1)(hd:autoParam ZL az1._auto_1)
  (hcd:autoParam ((x==("__classdict__" : Str))=false) az1._auto_1) (hbase:autoParam (attributeBase (.Name x px) "extend" X.env (eval (.Name x px) X.env)=eval (.Name x px) X.env) az0._auto_1)
  (hfew:autoParam (((backTo cpos (starEach [e] X.env)).all (fun x=>!x.1)&&(backToKw cpos (keywordEach [] X.env)).all (fun x=>x.1.isSome)
   && decide (([e]:List Expr).length+([]:List Keyword).length+(if ([]:List Keyword).isEmpty then 0 else 1)<30))=true) az0._auto_1)
  (hline:autoParam ((apos.endLine==cpos.line)=true) az0._auto_1) (hs:autoParam (starEach [e] X.env=(false,eval e X.env)::starEach [] X.env) az0._auto_1) (hplain:autoParam ((backTo cpos (starEach [] X.env)).any (·.1)=false) az0._auto_1) :
  SS X tw (.Expr (.Call (.Attribute (.Name x px) "extend" apos) [e] [] cpos) pos) (dChg i extT d):=by
 intro B ρ n f ρ' n' hh pins s σ H D I ⟨R,k⟩;obtain⟨⟨tv,mv,n1⟩,e1,e2⟩:=bind_some hh;obtain rfl:=fz_md e1;obtain⟨t,t',er,et,rfl,rfl,rfl⟩:=own_slot e2;obtain⟨a,es,hB,ow⟩:=R.own i t er;have hF:SF X tw [e] (aAa (dFz d) dNil):=aAf hv aAm hs;have e3:aAa (dFz d) dNil ρ n=some ([tv],n'):=by unfold aAa;rw[e1];rfl
 refine aNb (pe_bm PySem.F.plainAttrs_list PySem.F.slot_list_extend PySem.F.type_list_extend mt_ext (aLu hN hvis hd hcd) (hF B ρ n [tv] _ e3) hbase hfew hline hs hplain) (by rfl) pins s σ H D I ?_;cases t with
 | lst xs =>
  obtain⟨vs,h1,h2⟩:=ow;refine⟨.ref a,es,.inl ⟨rfl,vs,SqL.of h1⟩,R,fun ws H1 x1 y1 z1=>?_⟩;have R1:=R.mono x1 y1;obtain⟨v,w,rfl,rv,rw'⟩:=aA1 z1;obtain rfl:=aB2 rw';have h1':=x1.to a _ h1 (R.own_ne hB) (fun _ z=>nomatch z);have h2':=Reps.mono (x1.fx R.tn) _ _ h2;have fin:∀ (ys:List T) (b:Addr) (ws:List V),v = .ref b->Reps tw H1 ys ws->(SqL X.K H1 b ws\/SqT X.K H1 b ws)->(if xs.length+ys.length<=big then some (T.lst (xs++ys)) else none)=some t'->rExt X.K (.ref a) [v] H1 (fun _ H2=>D.nx σ H2):=fun ys b ws ev rws sq et=>by
   split at et
   ·rename_i hb;cases et;subst ev;refine⟨a,b,vs,ws,rfl,rfl,h1',sq,by rw[<-h2.length,<-rws.length];exact aDl hb,?_⟩
    obtain⟨W,fx⟩:=R1.write (t':=.lst (xs++ys)) (o:=.lst (vs++ws)) er es ⟨_,aAq,by
      have fx:Fx H1 (upd H1 a (.lst (vs++ws))):=fun b=>⟨fun vs q=>by rw[aAn (by rintro rfl;rw[h1'] at q;cases q)];exact q,fun _ _ q=>by rw[aAn (by rintro rfl;rw[h1'] at q;cases q)];exact q⟩
      exact(Reps.mono fx _ _ h2').append (Reps.mono fx _ _ rws)⟩
    exact k σ _ ((x1.fx R.tn).trans fx) W
   ·cases et
  cases tv with
  | lst ys =>
   rw[Rep] at rv;obtain⟨b,o,ws,ev,hb,rws⟩:=rv;exact fin ys b ws ev rws (.inl (.inl (.inr ⟨o,hb⟩))) et
  | tup ys =>
   rw[Rep] at rv;obtain⟨b,ws,ev,hb,rws⟩:=rv;exact fin ys b ws ev rws (.inr (SqT.of hb)) et
  |_=>cases et
 |_=>cases et
theorem ss_town(i:Nat){x:Str}{j:Nat}{pos px apos cpos pc:Pos}(hN:autoParam (X.N[i]?=some x) az0._auto_1)(hvis:autoParam (Vis X.env.scope x) az7._auto_1)(hd:autoParam ZL az1._auto_1)
  (hcd:autoParam ((x==("__classdict__" : Str))=false) az1._auto_1) (hbase:autoParam (attributeBase (.Name x px) "append" X.env (eval (.Name x px) X.env)=eval (.Name x px) X.env) az0._auto_1)
  (hline:autoParam ((apos.endLine==cpos.line)=true) az0._auto_1) :
  SS X tw (.Expr (.Call (.Attribute (.Name x px) "append" apos) [.Constant (.int 0) j pc] [] cpos) pos) (aZ4 i):=by
 intro B ρ n f ρ' n' hh pins s σ H D I ⟨R,k⟩;have ⟨m,er,hb,ef,eρ,en⟩:∃m,ρ[i]?=some (some (T.town,m))/\n<big/\f = .nx/\ρ'=ρ/\n'=n+1:=by
  unfold aZ4 at hh;cases e:ρ[i]? with
  |none=>rw[e] at hh;cases hh
  | some o =>
   cases o with
   |none=>rw[e] at hh;cases hh
   | some p =>
    obtain⟨t,m⟩:=p;rw[e] at hh;cases t with
    | town =>
     have hh:(if n<big then some (Fl.nx,ρ,n+1) else none)=some (f,ρ',n'):=hh;split at hh
     ·rename_i hb;cases hh;exact⟨m,rfl,hb,rfl,rfl,rfl⟩
     ·cases hh
    |_=>cases hh
 subst ef eρ en;have es:σ[i]?=some (some (.ref tw)):=by
  cases m with
  |fz=>obtain⟨v,h1,h2⟩:=R.fz i _ er;rw[Rep] at h2;rw[h1,h2]
  |bor=>obtain⟨v,h1,h2⟩:=R.bor i _ er;have h2:Rep tw B .town v:=h2;rw[Rep] at h2;rw[h1,h2]
  |own=>obtain⟨a,h1,h2,h3⟩:=R.own i _ er;exact(show False from h3).elim
  |lent=>exact absurd (R.nol i _ er) (by simp[isGs])
 refine aNb (pe_bm PySem.F.plainAttrs_list PySem.F.slot_list_append PySem.F.type_list_append aSz (aLu hN hvis hd hcd) (pa_cons aV9 aQf) hbase (by rfl) hline (by rfl) (by rfl)) (by rfl) pins s σ H D I ?_;have tn:=R.tn;unfold Tn at tn;refine⟨.ref tw,es,.inl ⟨rfl,_,SqL.of tn⟩,tw,_,.int 0,rfl,rfl,tn,by rw[fk];exact bBo hb,?_⟩;have e1:List.replicate n (V.int 0) ++ [V.int 0]=List.replicate (n+1) (V.int 0):=by rw[List.replicate_succ']
 rw[e1];have fx:Fx H (upd H tw (.lst (List.replicate (n+1) (V.int 0)))):=fun b=>⟨fun vs q=>by rw[aAn (R.tn.ne_tup q)];exact q,fun _ _ q=>by rw[aAn (R.tn.ne_frz q)];exact q⟩
 refine k σ _ fx (R.mono ⟨fun b u q nb _=>by rw[aAn nb];exact q,fun b ps q=>⟨ps,by rw[aAn (by rintro rfl;rw[tn] at q;cases q)];exact q,fun g=>g.keep fun c φ y=>by rw[aAn (by rintro rfl;rw[tn] at y;cases y)];exact y⟩⟩ ?_);exact aAq
theorem aHr(i:Nat){st:Stmt}{d:DS}(h:SS X tw st d):SS X tw st (dFrz i d):=by
 intro B ρ n f ρ' n' hh pins s σ H D I ⟨R,k⟩;unfold dFrz at hh;cases e:ρ[i]? with
 |none=>rw[e] at hh;exact h B ρ n f ρ' n' hh pins s σ H D I ⟨R,k⟩
 | some o =>
  cases o with
  |none=>rw[e] at hh;exact h B ρ n f ρ' n' hh pins s σ H D I ⟨R,k⟩
  | some p =>
   obtain⟨t,m⟩:=p;rw[e] at hh;cases m with
   | own =>
    have hh:d (ρ.set i (some (t,Md.fz))) n=some (f,ρ',n'):=hh;obtain⟨a,es,hB,ow⟩:=R.own i t e;have na:=R.own_ne hB;have go:∀u,H a=some u->((∃xs,u = .lst xs)\/(∃kvs,u = .dK kvs)\/∃ks,u = .dR ks)->(∀o,Rep tw (upd H a (.frz o u)) t (.ref a))->wpAny ZC X.A (exec st X.env) (SP X pins D) X.xe s:=fun u hu hu2 hr=>by
     obtain⟨o,I2⟩:=I.freeze hu hu2;have fx:Fx H (upd H a (.frz o u)):=Fx.frz hu hu2;refine h B _ n f ρ' n' hh pins s σ _ D I2 ⟨?_,k.fx fx⟩;have gg:=R.go (ρ':=ρ.set i (some (t,.fz))) (σ':=σ) (H':=upd H a (.frz o u)) (· = ·) (fun _ _ _ h1 h2=>h1.trans h2.symm) (fun j tb td q=>by rcases aA4 q with ⟨rfl,z,_⟩ |⟨ne,q⟩;(· cases z);exact⟨j,rfl,q,rfl⟩) fun _ _ _ _ g=>g.other fx (fun C dx fs z=>by rw[hu] at z;cases z;rcases hu2 with ⟨_,y⟩ |⟨_,y⟩ |⟨_,y⟩<;>cases y) fun vs z=>by rw[hu] at z;cases z;rcases hu2 with ⟨_,y⟩ |⟨_,y⟩ |⟨_,y⟩<;>cases y
     refine⟨R.ext.put hB (fun φ z=>by rw[hu] at z;cases z;rcases hu2 with ⟨_,y⟩ |⟨_,y⟩ |⟨_,y⟩<;>cases y),by show upd H a _ tw=_;rw[aAn na.symm];exact R.tn,R.btn,by rw[gZ];exact R.len,fun j t1 q=>?_,fun j t1 q=>?_,fun j t1 q=>?_,fun j t1 q=>?_,gg.1,gg.2,fun j k t1 t2 b q1 q2 s1 s2=>?_⟩
     ·rcases aA4 q with ⟨rfl,z,_⟩ |⟨ne,q⟩
      ·cases z;exact⟨_,es,hr o⟩
      ·obtain⟨v,h1,h2⟩:=R.fz j t1 q;exact⟨v,h1,Rep.mono fx _ _ h2⟩
     ·rcases aA4 q with ⟨_,z,_⟩ |⟨ne,q⟩
      ·cases z
      ·exact R.bor j t1 q
     ·rcases aA4 q with ⟨rfl,z,_⟩ |⟨ne,q⟩
      ·cases z
      ·obtain⟨b,h1,h2,h3⟩:=R.own j t1 q;refine⟨b,h1,h2,?_⟩;have nb:b≠a:=by rintro rfl;exact ne (R.dis j i t1 t b q e h1 es)
       cases t1 with
       |lst xs=>obtain⟨vs,z1,z2⟩:=h3;exact⟨vs,by rw[aAn nb];exact z1,Reps.mono fx _ _ z2⟩
       |dic kvs=>obtain⟨vs,z1,z2⟩:=h3;exact⟨vs,by rw[aAn nb];exact z1,RepK.mono fx _ _ z2⟩
       |rdc ks=>obtain⟨vs,z1,z2⟩:=h3;exact⟨vs,by rw[aAn nb];exact z1,z2⟩
       |_=>exact h3.elim
     ·rcases aA4 q with ⟨_,z,_⟩ |⟨ne,q⟩
      ·cases z
      ·exact R.nol j t1 q
     ·rcases aA4 q1 with ⟨_,z,_⟩ |⟨_,q1⟩
      ·cases z
      ·rcases aA4 q2 with ⟨_,z,_⟩ |⟨_,q2⟩
       ·cases z
       ·exact R.dis j k t1 t2 b q1 q2 s1 s2
    cases t with
    | lst xs =>
     obtain⟨vs,h1,h2⟩:=ow;exact go _ h1 (.inl ⟨vs,rfl⟩) fun o=>by rw[Rep];exact⟨a,o,vs,rfl,aAq,Reps.mono (Fx.frz h1 (.inl ⟨vs,rfl⟩)) _ _ h2⟩
    | dic kvs =>
     obtain⟨vs,h1,h2⟩:=ow;exact go _ h1 (.inr (.inl ⟨vs,rfl⟩)) fun o=>by rw[Rep];exact⟨a,o,vs,rfl,aAq,RepK.mono (Fx.frz h1 (.inr (.inl ⟨vs,rfl⟩))) _ _ h2⟩
    | rdc ks =>
     obtain⟨vs,h1,h2⟩:=ow;exact go _ h1 (.inr (.inr ⟨vs,rfl⟩)) fun o=>by rw[Rep];exact⟨a,o,vs,rfl,aAq,h2⟩
    |_=>exact(show False from ow).elim
   |fz=>exact h B ρ n f ρ' n' hh pins s σ H D I ⟨R,k⟩
   |bor=>exact h B ρ n f ρ' n' hh pins s σ H D I ⟨R,k⟩
   |lent=>exact h B ρ n f ρ' n' hh pins s σ H D I ⟨R,k⟩
end
section
variable {X:Cx}{tw:Addr}{tg:Expr}
def ItAt(tw:Addr)(J:It)(H:Hp)(ts:List T):Prop:=∀ (i:Nat),
 (∀t,ts[i]?=some t->J.go i H/\∀x H2,J.yld i H x H2->Ext tw H H2/\(∀n,Tn tw n H->Tn tw n H2)/\Rep tw H2 t x)/\(ts.length<=i->J.stop i H)
def SIc(X:Cx)(tw:Addr)(tg iter:Expr)(d:DI):Prop:=∀B ρ n ts n',d ρ n=some (ts,n')->PI X tg iter (fun σ H R=>Rel X.K B tw ρ n σ H /\
 ∀J H',Ext tw H H'->Tn tw n' H'->(∀H'' n'',Tn tw n'' H''->Ext tw H' H''->ItAt tw J H'' ts)->R J H')
def SIs(X:Cx)(tw:Addr)(tg iter:Expr)(d:DI):Prop:=∀B ρ n ts n',d ρ n=some (ts,n')->PI X tg iter (fun σ H R=>Rel X.K B tw ρ n σ H /\
 ∀J H',Ext tw H H'->Tn tw n' H'->(∀H'' n'',Tn tw n'' H''->Fx H' H''->Ext tw B H''->ItAt tw J H'' ts)->R J H')
theorem aM8(I:Inv X pins σ H s)(hq:SqL X.K H a vs)(q:R (Itl X.K a) H):wpAny ZC X.A (pyIter (.ref a)) (PIE X pins σ tg R) X.xe s:=by
 obtain⟨its,rv,p,hz⟩:=I.list hq;refine wpAny_pyIter_list p.isList ?_;refine⟨s.heap.objs.size,[s.heap.objs.size],_,_,H,rfl,I.kept (t':=s.toks) fun b o e=>aa _ e,bAf a _,⟨_,au _ rfl,rfl,rfl⟩,fun b hb=>?_,q⟩;have e:b=s.heap.objs.size:=by simpa using hb
 subst e;exact I.fpOk (ae _) (I.hok.fresh (ae _))
theorem it_tup(I:Inv X pins σ H s)(hq:SqT X.K H a vs)(q:R (Itt X.K a) H):wpAny ZC X.A (pyIter (.ref a)) (PIE X pins σ tg R) X.xe s:=by
 obtain⟨its,rv,p,hz⟩:=I.tuple hq;refine wpAny_pyIter_tuple (show s.heap.IsTuple a its.toArray from p) ?_;refine⟨s.heap.objs.size,[s.heap.objs.size],_,_,H,rfl,I.kept (t':=s.toks) fun b o e=>aa _ e,aX9 a _,⟨_,au _ rfl,rfl,rfl⟩,fun b hb=>?_,q⟩;have e:b=s.heap.objs.size:=by simpa using hb
 subst e;exact I.fpOk (ae _) (I.hok.fresh (ae _))
def Itd(a:Addr)(o:Obj)(ws:List (Key × V)):It :=
 ⟨fun i H=>H a=some (.frz o (.dK ws))/\i<ws.length,fun i H x H'=>H'=H/\∃k v,ws[i]?=some (k,v)/\x=kV k,fun i H=>H a=some (.frz o (.dK ws))/\ws.length<=i⟩
theorem bB4{ep:Nat}(hok:HOk P w H h)(e:H a=some (.frz o (.dK ws)))(hd:o.data = .dict es ep) :
  ∃vs,KV ws vs/\h.DictAt (aA6 P w) a vs ep/\(a==sysModules)=false:=by
 obtain⟨h1,_,h3,vs,h4,o',es',ep',q1,q2,q3,q4⟩:=(show aCr P w H h a (.frz o (.dK ws)) from hok a _ e)
 rw[h1] at q1;cases q1;rw[hd] at q3;cases q3;exact⟨vs,h4,⟨o,es,h1,q2,hd,q4⟩,h3⟩
theorem aZx(r:KV ws vs):∀ {i:Nat} {k:Key} {v:V},ws[i]?=some (k,v)->∃u,vs[i]?=some (k,u):=by
 unfold KV at r
 induction r with
 |nil=>intro i k v e;simp at e
 | @cons p q ps qs h t ih =>
  intro i k v e;cases i with
  | zero =>
   simp at e;subst e;refine⟨q.2,?_⟩;have:k=q.1:=h.1;rw[this];rfl
  |succ i=>obtain⟨u,hu⟩:=ih (i:=i) (k:=k) (v:=v) (by simpa using e);exact⟨u,by simpa using hu⟩
theorem aVk(h:(aA6 P w).is k u=true):RelV (kV k) u:=by
 rcases aBz (show aV0 k u=true from h) with ⟨i,t,rfl,rfl⟩ |⟨x,t,rfl,rfl⟩
 ·exact⟨t,rfl⟩
 ·exact⟨t,rfl⟩
theorem bAm{P:Program}{w:World}{K:PySem.W.Frag}{tg:Expr}(a it:Addr)(o:Obj)(ws:List (Key × V))(es:Array DictEntry)(ep:Nat)(hd:o.data = .dict es ep):Turn P w K tg (Itd a o ws) [it] it (fun i h=>h.IsKeyIter it a i ws.length ep) where
 mem:=by simp
 obj:=fun i h st b hb=>by
  have e:b=it:=by simpa using hb
  subst e;obtain⟨o,e,c,d⟩:=st;exact⟨o,e,fun v z=>by rw[d] at z;cases z⟩
 keep:=fun i h h' st k=>st.at fun o e=>k it ZR o e
 item:=by
  intro X hP hw hK hc i pins s σ H E I hf st hg;subst hP hw hK;obtain⟨hq,hx⟩:=hg;obtain⟨vs,rv,dd,_⟩:=bB4 I.hok hq hd;have hl:ws.length=vs.length:=Paired.length rv;obtain⟨k,v,hk⟩:∃k v,ws[i]?=some (k,v):=⟨ws[i].1,ws[i].2,by simp[hx]⟩
  obtain⟨u,hu⟩:=aZx rv hk;obtain⟨f0,f1,f2,f3,f4,f5⟩:=hf it ZR;rw[hl] at st;refine wpAny_pyNext_dict_item st dd hu fun key h' hkey st' sb=>?_;have I1:Inv X pins σ H { s with heap:=h' }:=I.turned (t':=s.toks) (fun b o hb e=>(sb.2 b hb).trans e) f0 f1 f3 f4 f5;obtain⟨o',e,c,d⟩:=id st';exact⟨key,rfl,go_of (s:={ s with heap:=h' }) e c d ZA ⟨kV k,H,I1,aVk hkey,⟨rfl,k,v,hk,rfl⟩,by rw[hl];exact st',fun b hb=>(hf b hb).1⟩⟩
 done:=by intro X hP hw hK hc i pins s σ H E I hf st hg;subst hP hw hK;obtain⟨hq,hx⟩:=hg;obtain⟨vs,rv,dd,_⟩:=bB4 I.hok hq hd;have hl:ws.length=vs.length:=Paired.length rv;obtain⟨f0,f1,f2,f3,f4,f5⟩:=hf it ZR;rw[hl] at st;exact wpAny_pyNext_dict_end (I.ok.hd hc) st dd (ie ZB) fun h' eb=>⟨rfl,I.turned (t':=s.toks) (fun b o hb e=>eb b o hb e) f0 f1 f3 f4 f5⟩
 self:=fun _ _ _ _ _ st h=>wpAny_pyIter_keyiter st h
theorem it_dict(I:Inv X pins σ H s)(hq:H a=some (.frz o (.dK ws)))(q:R (Itd a o ws) H):wpAny ZC X.A (pyIter (.ref a)) (PIE X pins σ tg R) X.xe s:=by
 obtain⟨h1,_,h3,vs,h4,o',es,ep,q1,q2,q3,q4⟩:=(show aCr X.prog X.w H s.heap a (.frz o (.dK ws)) from I.hok a _ hq)
 rw[h1] at q1;cases q1;obtain⟨vs,rv,dd,_⟩:=bB4 I.hok hq q3;have hl:ws.length=vs.length:=Paired.length rv;refine wpAny_pyIter_dict h3 dd ?_;refine⟨s.heap.objs.size,[s.heap.objs.size],_,_,H,rfl,I.kept (t':=s.toks) fun b o e=>aa _ e,bAm a _ o ws es ep q3,⟨_,au _ rfl,rfl,by rw[hl];rfl⟩,fun b hb=>?_,q⟩;have e:b=s.heap.objs.size:=by simpa using hb
 subst e;exact I.fpOk (ae _) (I.hok.fresh (ae _))
theorem aNs{K:PySem.W.Frag}{H:Hp}{a:Addr}{vs:List V}{xs:List T}(hs:SqL K H a vs)(r:Reps tw H xs vs):ItAt tw (Itl K a) H xs:=fun i=>by refine⟨fun t e=>?_,fun hl=>⟨vs,hs,by rw[<-r.length];exact hl⟩⟩;obtain⟨v,h1,h2⟩:=r.get e;refine⟨⟨vs,v,hs,h1⟩,fun x H2 y=>?_⟩;obtain⟨rfl,y⟩:=y;have:=y vs hs;rw[h1] at this;cases this;exact⟨.refl _ _,fun _ z=>z,h2⟩
theorem at_tup{K:PySem.W.Frag}{H:Hp}{a:Addr}{vs:List V}{xs:List T}(hs:SqT K H a vs)(r:Reps tw H xs vs):ItAt tw (Itt K a) H xs:=fun i=>by refine⟨fun t e=>?_,fun hl=>⟨vs,hs,by rw[<-r.length];exact hl⟩⟩;obtain⟨v,h1,h2⟩:=r.get e;refine⟨⟨vs,v,hs,h1⟩,fun x H2 y=>?_⟩;obtain⟨rfl,y⟩:=y;have:=y vs hs;rw[h1] at this;cases this;exact⟨.refl _ _,fun _ z=>z,h2⟩
theorem aJr:∀ {kvs:List (Key × T)} {ws:List (Key × V)} {i:Nat} {k:Key} {t:T},RepK tw H kvs ws->kvs[i]?=some (k,t)->∃v,ws[i]?=some (k,v)/\Rep tw H t v
 |[],_,_,_,_,_,e=>by simp at e
 |(k',x)::xs,_,0,k,t,r,e=>by rw[RepK] at r;obtain⟨v,w,rfl,p,q⟩:=r;simp at e;obtain⟨rfl,rfl⟩:=e;exact⟨v,rfl,p⟩
 |(k',x)::xs,_,i+1,k,t,r,e=>by rw[RepK] at r;obtain⟨v,w,rfl,p,q⟩:=r;obtain⟨u,h1,h2⟩:=aJr (i:=i) (k:=k) (t:=t) q (by simpa using e);exact⟨u,by simpa using h1,h2⟩
theorem aMw(k:Key):Rep tw H (keyT k) (kV k):=by
 cases k with
 |inl i=>show Rep tw H (.int i) (.int i);rw[Rep]
 |inr x=>show Rep tw H (.str x) (.str x);rw[Rep]
theorem at_dict(hs:H a=some (.frz o (.dK ws)))(r:RepK tw H kvs ws):ItAt tw (Itd a o ws) H (kvs.map fun kv=>keyT kv.1):=fun i=>by
 have hl:=RepK.length r;refine⟨fun t e=>?_,fun h=>⟨hs,by rw[<-hl];simpa using h⟩⟩;rw[cg] at e;cases q:kvs[i]? with
 |none=>rw[q] at e;cases e
 | some p =>
  obtain⟨k,t'⟩:=p;rw[q] at e;have e:keyT k=t:=Option.some.inj e;subst e;obtain⟨v,h1,h2⟩:=aJr r q;refine⟨⟨hs,(bh.mp h1).1⟩,fun x H2 y=>?_⟩;obtain⟨rfl,k2,v2,y1,rfl⟩:=y;rw[h1] at y1;cases y1;exact⟨.refl _ _,fun _ z=>z,aMw k⟩
theorem at_range(lo:Int)(m:Nat):ItAt tw (Itr lo m) H ((List.range m).map fun (k:Nat)=>T.int (lo+k)):=fun i=>by
 refine⟨fun t e=>?_,fun h=>by show m<=i;simpa using h⟩;rw[cg] at e;cases q:(List.range m)[i]? with
 |none=>rw[q] at e;cases e
 | some j =>
  rw[q] at e;have e:T.int (lo+j)=t:=Option.some.inj e;subst e;obtain⟨hi,hj⟩:=bh.mp q;rw[List.getElem_range] at hj;subst hj;rw[List.length_range] at hi;refine⟨hi,fun x H2 y=>?_⟩;obtain⟨rfl,rfl⟩:=y;exact⟨.refl _ _,fun _ z=>z,by rw[Rep]⟩
theorem aWl{pins:List ZH}{σ:St}{H:Hp}{s:Shared}{t:T}{m:Md}{xs:List T}{v:V}{u:Value}{R:It->Hp->Prop}(I:Inv X pins σ H s)(rv:RelV v u)(r:Rep tw H t v)(h:walked t m=some xs)
  (k:∀J,(∀H'',Fx H H''->ItAt tw J H'' xs)->R J H):wpAny ZC X.A (pyIter u) (PIE X pins σ tg R) X.xe s:=by
 cases t with
 | lst ys =>
  cases h;rw[Rep] at r;obtain⟨a,o,vs,rfl,e,q⟩:=r;cases rv;exact aM8 I (.inl (.inr ⟨o,e⟩)) (k _ fun H'' fx=>aNs (.inl (.inr ⟨o,(fx a).2 _ _ e⟩)) (Reps.mono fx _ _ q))
 | tup ys =>
  cases h;rw[Rep] at r;obtain⟨a,vs,rfl,e,q⟩:=r;cases rv;exact it_tup I (SqT.of e) (k _ fun H'' fx=>at_tup (SqT.of ((fx a).1 _ e)) (Reps.mono fx _ _ q))
 | dic kvs =>
  rw[Rep] at r;obtain⟨a,o,ws,rfl,e,q⟩:=r;cases rv;have e2:xs=kvs.map fun kv=>keyT kv.1:=by cases m<;>first |(cases h;rfl) |cases h
  subst e2;exact it_dict I e (k _ fun H'' fx=>at_dict ((fx a).2 _ _ e) (RepK.mono fx _ _ q))
 |_=>cases h
theorem si_c{e:Expr}{d:DE}(h:SE X tw e d):SIc X tw tg e (dIt d):=by
 intro B ρ n ts n' hd pins s σ H R I ⟨Rl,k⟩;obtain⟨⟨t,m,n1⟩,e1,e2⟩:=bind_some hd;obtain⟨xs,e3,e4⟩:=map_some e2;cases e4;have e1':dTmp d ρ n=some (t,frm m,n1):=by unfold dTmp;rw[e1];rfl
 refine thn ((bA8 h).run e1' I Rl) fun u s1 ⟨v,H1,I1,r1,a1,R1,c1⟩=>?_;have rt:=c1.root R1 Rl.tn;have byRep:Rep tw H1 t v->wpAny ZC X.A (pyIter u) (PIE X pins σ tg R) X.xe s1:=fun rp =>
  aWl I1 r1 rp e3 fun J hJ=>k J H1 a1 R1.tn fun H'' n'' t'' ext=>hJ H'' (ext.fx R1.tn)
 cases m with
 |own=>exact byRep c1
 |fz=>exact byRep c1
 | bor =>
  cases t with
  | lst ys =>
   cases e3;obtain⟨a,vs,rfl,e,q⟩:=rt;cases r1;exact aM8 I1 e.sq (k _ H1 a1 R1.tn fun H'' n'' t'' ext=>aNs (e.ext ext).sq (Reps.mono (ext.fx R1.tn) _ _ q))
  |tup ys=>exact byRep rt
  |_=>cases e3
 | lent =>
  cases t with
  | lst ys =>
   cases e3;obtain⟨a,vs,rfl,e,q⟩:=rt;cases r1;exact aM8 I1 e.sq (k _ H1 a1 R1.tn fun H'' n'' t'' ext=>aNs (e.ext ext).sq (Reps.mono (ext.fx R1.tn) _ _ q))
  |tup ys=>exact byRep rt
  |_=>cases e3
theorem si_s{e:Expr}{d:DE}(h:SE X tw e d):SIs X tw tg e (dItS d):=by
 intro B ρ n ts n' hd pins s σ H R I ⟨Rl,k⟩;obtain⟨⟨t,m,n1⟩,e1,e2⟩:=bind_some hd;have e1':dTmp d ρ n=some (t,frm m,n1):=by unfold dTmp;rw[e1];rfl
 refine thn ((bA8 h).run e1' I Rl) fun u s1 ⟨v,H1,I1,r1,a1,R1,c1⟩=>?_;have rt:=c1.root R1 Rl.tn;have byRep:∀xs,walked t m=some xs->(xs,n1)=(ts,n')->Rep tw H1 t v->wpAny ZC X.A (pyIter u) (PIE X pins σ tg R) X.xe s1:=fun xs e3 e4 rp=>by cases e4;exact aWl I1 r1 rp e3 fun J hJ=>k J H1 a1 R1.tn fun H'' n'' t'' fx _=>hJ H'' fx
 cases m with
 |own=>obtain⟨xs,e3,e4⟩:=map_some e2;exact byRep xs e3 e4 c1
 |fz=>obtain⟨xs,e3,e4⟩:=map_some e2;exact byRep xs e3 e4 c1
 | bor =>
  obtain⟨xs,e3,e4⟩:=map_some e2;cases t with
  | lst ys =>
   cases e3;cases e4;have c1:Root X.K tw B (.lst _) v:=c1;obtain⟨n0,bt⟩:=Rl.btn.1;obtain⟨a,vs,rfl,e,q⟩:=c1;cases r1;exact aM8 I1 (e.ext R1.ext).sq (k _ H1 a1 R1.tn fun H'' n'' t'' fx ext=>aNs (e.ext ext).sq (Reps.mono (ext.fx bt) _ _ q))
  |tup ys=>exact byRep xs e3 e4 rt
  |_=>cases e3
 |lent=>cases e2
def SIr(X:Cx)(tw:Addr)(tg iter:Expr)(d:DI):Prop:=∀B ρ n ts n',d ρ n=some (ts,n')->PI X tg iter (fun σ H R=>Rel X.K B tw ρ n σ H/\∀J H',Ext tw H H'->Tn tw n' H'->(∀H'',ItAt tw J H'' ts)->R J H')
theorem SIr.c{iter:Expr}{d:DI}(h:SIr X tw tg iter d):SIc X tw tg iter d:=fun B ρ n ts n' hd pins s σ H R I ⟨Rl,k⟩=>h B ρ n ts n' hd pins s σ H R I ⟨Rl,fun J H' a b c=>k J H' a b fun H'' _ _ _=>c H''⟩
theorem SIr.s{iter:Expr}{d:DI}(h:SIr X tw tg iter d):SIs X tw tg iter d:=fun B ρ n ts n' hd pins s σ H R I ⟨Rl,k⟩=>h B ρ n ts n' hd pins s σ H R I ⟨Rl,fun J H' a b c=>k J H' a b fun H'' _ _ _ _=>c H''⟩
theorem aBb{K:PySem.W.Frag}{H:Hp}{i:Int}{v:V}(r:Root K tw H (.int i) v):v = .int i:=by have r:Rep tw H (.int i) v:=r;rw[Rep] at r;exact r
theorem aJ4{pos p:Pos}{a:Expr}{da:DA}(ha:SA X tw [a] da)(hm:X.mg "range" = none)(hg:autoParam (Gl X "range") az0._auto_1)(hs:autoParam (starEach [a] X.env = [(false,eval a X.env)]) az0._auto_1):SIr X tw tg (.Call (.Name "range" p) [a] [] pos) (aHq da):=by
 intro B ρ n ts n' hd pins s σ H R I ⟨Rl,k⟩;obtain⟨⟨ts',n1⟩,e1,e2⟩:=bind_some hd;refine bBw hg hm (ha B ρ n ts' n1 e1) hs pins s σ H R I ⟨Rl,fun vs H' x y z=>?_⟩;cases z with
 |nil=>cases e2
 | @cons t v ts'' vs' z1 z2 =>
  cases z2 with
  | nil =>
   cases t with
   | int j =>
    have e2:(if -big<=j/\j<=big then some (upTo 0 j,n1) else none)=some (ts,n'):=e2;split at e2
    ·rename_i hb;cases e2;have hB:(big:Int)=1000000:=rfl;refine⟨j,by rw[aBb z1],by lia,by lia,k _ H' x y fun H''=>?_⟩;have:=at_range (tw:=tw) (H:=H'') 0 j.toNat
     unfold upTo;rw[Int.sub_zero];exact this
    ·cases e2
   |_=>cases e2
  |cons a b=>cases t<;>cases e2
def aJa(ρ':En)(σ':St)(ρ:En)(σ:St):Prop:=∀ (j:Nat) (t:T) (a:Addr),ρ'[j]?=some (some (t,.own))->σ'[j]?=some (some (.ref a))->∃ (j':Nat) (t':T),ρ[j']?=some (some (t',.own))/\σ[j']?=some (some (.ref a))
theorem aJa.setF(i:Nat)(t:T)(v:V):aJa (ρ.set i (some (t,.fz))) (σ.set i (some v)) ρ σ:=fun j t' a e e'=>by
 rcases aA4 e with ⟨_,z,_⟩ |⟨ne,e⟩
 ·cases z
 ·rw[aBc ne] at e';exact⟨j,t',e,e'⟩
theorem aJa.trans(a:aJa ρ2 σ2 ρ1 σ1)(b:aJa ρ1 σ1 ρ σ):aJa ρ2 σ2 ρ σ:=fun j t x e e'=>let ⟨j',t',h1,h2⟩:=a j t x e e';b j' t' x h1 h2
def rG(X:Cx)(tw:Addr)(put:T->En->Option En):TG:=fun v σ H Q=>∃B ρ n t ρ',Rel X.K B tw ρ n σ H/\Rep tw H t v/\put t ρ=some ρ'/\∀σ',Rel X.K B tw ρ' n σ' H->aJa ρ' σ' ρ σ->Q σ' H
def SG(X:Cx)(tw:Addr)(tg:Expr)(put:T->En->Option En):Prop:=PG X tg (rG X tw put)
theorem aBl(i:Nat){x:Str}{pos:Pos}(hN:X.N.Nodup)(hi:autoParam (X.N[i]?=some x) az0._auto_1)(hx:autoParam (Loc X.env.scope x) az4._auto_1)(hf:autoParam (X.fn x=true\/X.env.scope.names.lookup x=some .local) az2._auto_1):SG X tw (.Name x pos) (putAt i):=by intro pins s σ H v u Q I r h;obtain⟨B,ρ,n,t,ρ',R,rt,hp,k⟩:=h;cases hp;exact aV6 hN hi hx hf pins s σ H v u Q I r (k _ (R.setF rt) (.setF _ _ _))
theorem sg_two(i j:Nat){x y:Str}{px py pos:Pos}{kk:Nat}(hc:X.calm=true)(hN:X.N.Nodup)(hi:autoParam (X.N[i]?=some x) az0._auto_1)(hj:autoParam (X.N[j]?=some y) az0._auto_1)(hx:autoParam (Loc X.env.scope x) az4._auto_1)(hy:autoParam (Loc X.env.scope y) az4._auto_1)
  (hf:autoParam (X.fn x=true\/X.env.scope.names.lookup x=some .local) az2._auto_1) (hf2:autoParam (X.fn y=true\/X.env.scope.names.lookup y=some .local) az2._auto_1)
  (hn:autoParam ((assignEach [.Name x px,.Name y py] X.env).length=2) az0._auto_1) (hst:autoParam ((assignEach [.Name x px,.Name y py] X.env).findIdx? (·.1)=none) az0._auto_1)
  (h1:autoParam ((assignEach [.Name x px,.Name y py] X.env).map (·.2)=assign (.Name x px) X.env::(assignEach [.Name y py] X.env).map (·.2)) az0._auto_1) (h2:autoParam ((assignEach [.Name y py] X.env).map (·.2)=assign (.Name y py) X.env::(assignEach [] X.env).map (·.2)) az0._auto_1):SG X tw (.Tuple [.Name x px,.Name y py] kk pos) (aTb i j):=by
 intro pins s σ H v u Q I r h;obtain⟨B,ρ,n,t,ρ',R,rt,hp,k⟩:=h;have ⟨a,b,et,eρ⟩:∃a b,t = .tup [a,b]/\ρ'=(ρ.set i (some (a,.fz))).set j (some (b,.fz)):=by
  match t,hp with
  |.tup [a,b],hp=>cases hp;exact⟨a,b,rfl,rfl⟩
 subst et eρ;rw[Rep] at rt;obtain⟨ad,vs,rfl,e,q⟩:=rt;obtain⟨va,w1,rfl,qa,q⟩:=aA1 q;obtain⟨vb,w2,rfl,qb,q⟩:=aA1 q;obtain rfl:=aB2 q;refine pg_tup hc (aWz (aV6 hN hi hx hf) (aWz (aV6 hN hj hy hf2) pgs_nil h2) h1) hn hst pins s σ H _ u Q I r ⟨ad,[va,vb],rfl,SqT.of e,rfl,va,[vb],rfl,vb,[],rfl,rfl,?_⟩;exact k _ ((R.setF qa).setF qb) ((aJa.setF _ _ _).trans (.setF _ _ _))
theorem aGv{iter:Expr}{body:List Stmt}{d:DI}{put:T->En->Option En}{b:DS}{pos:Pos}(hc:X.calm=true)(hx:X.xe=fun _ _=>False)(hi:SIs X tw tg iter d)(hg:SG X tw tg put)(hb:SSs X tw body b)(hs:autoParam (∀x,foldedSetIterable iter X.env x=pure x) az3._auto_1) :
  SS X tw (.For tg iter body [] pos) (dFor d put b):=by
 intro B ρ n f ρ' n' hd pins s σ H D I ⟨R,k⟩;obtain⟨⟨ts,n1⟩,e1,e2⟩:=bind_some hd;have hp:PassesOwn ZC X.A X.env X.xe:=by rw[hx];exact PassesOwn.never
 have hbody:PSs X body (fun D σ H=>∃ρ n f ρ' n',b ρ n=some (f,ρ',n')/\rS X.K B tw ρ n f ρ' n' D σ H):=fun pins s σ H D I h=>by obtain⟨ρ,n,f,ρ',n',e,h⟩:=h;exact hb B ρ n f ρ' n' e pins s σ H D I h
 refine ps_for hp hc (hi B ρ n ts n1 e1) hg hbody hs pins s σ H D I ⟨R,fun J H1 x1 y1 it=>?_⟩;have R1:=R.mono x1 y1;have k1:KF X.K B tw f ρ' n' D H1:=k.fx (x1.fx R.tn);refine⟨fun i m σ' H'=>m=ts.length - i/\i<=ts.length/\Fx H1 H'/\∃ρi ni,Rel X.K B tw ρi ni σ' H'/\aC0 put b (ts.drop i) ρi ni=some (f,ρ',n'),⟨ts.length,by simp,gn _,.refl _,ρ,n1,R1,by simpa using e2⟩,?_⟩;rintro i m σ2 H2 ⟨rfl,hi2,fx2,ρ2,n2,R2,e3⟩;have at2:=it H2 n2 R2.tn fx2 R2.ext i;by_cases hlt:i<ts.length
 ·right;obtain⟨go,yl⟩:=at2.1 ts[i] (by simp[hlt]);have ed:ts.drop i=ts[i]::ts.drop (i+1):=dr hlt;rw[ed] at e3;obtain⟨ρ3,e4,e5⟩:=bind_some (show (put ts[i] ρ2).bind _=_ from e3);obtain⟨⟨f4,ρ4,n4⟩,e6,e7⟩:=bind_some e5;refine⟨go,fun σ' H'=>Fx H1 H'/\Rel X.K B tw ρ4 n4 σ' H'/\aC0 put b (ts.drop (i+1)) ρ4 n4=some (f,ρ',n'),fun σ' H' ⟨z1,z2,z3⟩=>⟨ts.length - (i+1),by lia,rfl,hlt,z1,ρ4,n4,z2,z3⟩,fun x H' yd=>?_⟩;obtain⟨xe,xt,xr⟩:=yl x H' yd;have fx3:Fx H1 H':=fx2.trans (xe.fx R2.tn);refine⟨B,ρ2,n2,ts[i],ρ3,R2.mono xe (xt n2 R2.tn),xr,e4,fun σ3 R3 _=>⟨ρ3,n2,f4,ρ4,n4,e6,R3,?_⟩⟩;cases f4 with
  |nx=>exact fun σ' H'' z1 z2=>⟨fx3.trans z1,z2,e7⟩
  |ct=>exact fun σ' H'' z1 z2=>⟨fx3.trans z1,z2,e7⟩
  | bk =>
   have e7:some (Fl.nx,ρ4,n4)=some (f,ρ',n'):=e7;cases e7;exact fun σ' H'' z1 z2=>k1 σ' H'' (fx3.trans z1) z2
  | rt t mm =>
   have e7:some (Fl.rt t mm,ρ4,n4)=some (f,ρ',n'):=e7;cases e7;exact fun v H'' z1 z2 z3 z4=>k1 v H'' (fx3.trans z1) z2 z3 z4
 ·left;have hge:ts.length<=i:=jN hlt;refine⟨at2.2 hge,?_⟩;rw[gh hge] at e3;have e3:some (Fl.nx,ρ2,n2)=some (f,ρ',n'):=e3;cases e3;exact k1 σ2 H2 fx2 R2
def SFi(X:Cx)(tw:Addr)(ifs:List Expr)(d:DT):Prop:=∀B ρ n b n',d ρ n=some (b,n')->PF X ifs (rT X.K B tw ρ n b n')
theorem aC6:SFi X tw [] yes:=by intro B ρ n b n' hd pins s σ H Q I ⟨R,k⟩;cases hd;exact pf_nil pins s σ H Q I (k H (.refl _ _) R.tn)
theorem sfi_one{c:Expr}{d:DT}(h:ST X tw c d):SFi X tw [c] d:=fun B ρ n b n' hd=>pf_one (h B ρ n b n' hd)
theorem aD8{i:Nat}(h:(srcOf l ρ)[i]?=some (some p)):∃j,l[i]?=some (some j)/\ρ[j]?=some (some p):=by
 unfold srcOf at h;rw[cg] at h;cases e:l[i]? with
 |none=>rw[e] at h;cases h
 | some o =>
  rw[e] at h;cases o with
  |none=>cases h
  | some j =>
   refine⟨j,rfl,?_⟩;have h:(ρ[j]?).join=some p:=Option.some.inj h;cases q:ρ[j]? with
   |none=>rw[q] at h;cases h
   |some q'=>rw[q] at h;rw[show q'=some p from h]
theorem aNu{i j:Nat}(h:l[i]?=some (some j))(e:σ[j]?=some (some v)):(srcV l σ)[i]?=some (some v):=by unfold srcV;rw[cg,h];show some ((σ[j]?).join)=_;rw[e];rfl
theorem Rel.src{K:PySem.W.Frag}{B:Hp}{ρ:En}{n:Nat}{σ:St}{H:Hp}{l:List (Option Nat)}(R:Rel K B tw ρ n σ H)(inj:∀ (i i' j:Nat),l[i]?=some (some j)->l[i']?=some (some j)->i=i'):Rel K B tw (srcOf l ρ) n (srcV l σ) H:=by
 have gg:=R.go (ρ':=srcOf l ρ) (σ':=srcV l σ) (H':=H) (fun i j=>l[i]?=some (some j)) inj (fun i tb td e=>by
  obtain⟨j,h1,h2⟩:=aD8 e;obtain⟨a,_,q,_⟩:=R.gom j tb td h2
  exact⟨j,h1,h2,by rw[q];exact aNu h1 q⟩) fun _ _ _ _ g=>g
 refine⟨R.ext,R.tn,R.btn,by unfold srcOf srcV;rw[ak,ak],fun i t e=>?_,fun i t e=>?_,fun i t e=>?_,fun i t e=>?_,gg.1,gg.2,fun i i' t t' a e e' s s'=>?_⟩
 ·obtain⟨j,h1,h2⟩:=aD8 e;obtain⟨v,q1,q2⟩:=R.fz j t h2;exact⟨v,aNu h1 q1,q2⟩
 ·obtain⟨j,h1,h2⟩:=aD8 e;obtain⟨v,q1,q2⟩:=R.bor j t h2;exact⟨v,aNu h1 q1,q2⟩
 ·obtain⟨j,h1,h2⟩:=aD8 e;obtain⟨v,q1,q2⟩:=R.own j t h2;exact⟨v,aNu h1 q1,q2⟩
 ·obtain⟨j,h1,h2⟩:=aD8 e;exact R.nol j t h2
 ·obtain⟨j,h1,h2⟩:=aD8 e;obtain⟨j',h1',h2'⟩:=aD8 e';obtain⟨k,k1,k2⟩:=aNo s;obtain⟨k',k1',k2'⟩:=aNo s';rw[h1] at k1;cases k1;rw[h1'] at k1';cases k1';obtain rfl:=R.dis j j' t t' a h2 h2' k2 k2';exact inj i i' j h1 h1'
theorem Rel.upd_other{K:PySem.W.Frag}{B:Hp}{ρ:En}{n:Nat}{σ:St}{H:Hp}{D:Addr}{acc:List V}{o:HO}(R:Rel K B tw ρ n σ H)(hD:H D=some (.lst acc))(hB:B D=none)(nd:∀ (j:Nat) (t:T),ρ[j]?=some (some (t,.own))->σ[j]?≠some (some (.ref D))):Rel K B tw ρ n σ (upd H D o):=by
 have fx:Fx H (upd H D o):=fun a=>⟨fun vs q=>by rw[aAn (by rintro rfl;rw[hD] at q;cases q)];exact q,fun _ _ q=>by rw[aAn (by rintro rfl;rw[hD] at q;cases q)];exact q⟩
 have gg:=R.go (ρ':=ρ) (σ':=σ) (H':=upd H D o) (· = ·) (fun _ _ _ h1 h2=>h1.trans h2.symm) (fun j _ _ e=>⟨j,rfl,e,rfl⟩) fun _ _ _ _ g=>g.other fx (fun C dx fs z=>by rw[hD] at z;cases z) fun vs z=>by rw[hD] at z;cases z
 refine⟨R.ext.put hB (fun φ z=>by rw[hD] at z;cases z),by show upd H D o tw=_;rw[aAn (R.own_ne hB).symm];exact R.tn,R.btn,R.len,fun i t e=>let ⟨v,h1,h2⟩:=R.fz i t e;⟨v,h1,Rep.mono fx _ _ h2⟩,R.bor,fun i t e=>?_,R.nol,gg.1,gg.2,R.dis⟩;obtain⟨a,h1,h2,h3⟩:=R.own i t e;have na:a≠D:=by rintro rfl;exact nd i t e h1
 refine⟨a,h1,h2,?_⟩;cases t with
 |lst xs=>obtain⟨vs,z1,z2⟩:=h3;exact⟨vs,by rw[aAn na];exact z1,Reps.mono fx _ _ z2⟩
 |dic kvs=>obtain⟨vs,z1,z2⟩:=h3;exact⟨vs,by rw[aAn na];exact z1,RepK.mono fx _ _ z2⟩
 |rdc ks=>obtain⟨vs,z1,z2⟩:=h3;exact⟨vs,by rw[aAn na];exact z1,z2⟩
 |_=>exact h3.elim
theorem CompTxt.inj{scope:Scope}{N':List Str}{srcs:List (Option Nat)}(C:CompTxt X scope N' srcs)(nd:N'.Nodup):∀ (i i' j:Nat),srcs[i]?=some (some j)->srcs[i']?=some (some j)->i=i':=fun i i' j h h'=>by obtain⟨x,q1,q2,_⟩:=C.src i j h;obtain⟨x',q1',q2',_⟩:=C.src i' j h';rw[q2] at q2';cases q2';exact aJ0 nd q1 q1'
def cI(X:Cx)(B:Hp)(tw:Addr)(ρ:En)(n:Nat)(ts:List T)(n':Nat):TI:=fun σ H R=>Rel X.K B tw ρ n σ H/\∀J H',Ext tw H H'->Tn tw n' H'->(∀H'' n'',Tn tw n'' H''->Ext tw H' H''->ItAt tw J H'' ts)->R J H'
def cT(X:Cx)(B:Hp)(tw:Addr)(c:DT):TT:=fun σ H Q=>∃ρ n b n',c ρ n=some (b,n')/\rT X.K B tw ρ n b n' σ H Q
def cE(X:Cx)(B:Hp)(tw:Addr)(e:DE):TE:=fun σ H Q=>∃ρ n t m n',dFz e ρ n=some (t,m,n')/\rE X.K B tw ρ n t m n' σ H Q
theorem bBn{n n1 n2:Nat}(C:CompTxt X scope N' srcs)(nd:N'.Nodup)(R:Rel X.K B tw ρ n σ H)(e3:aEw put c e ts (srcOf srcs ρ) n1 []=some (out,n2))
  (k:∀v H',Ext tw H H'->Tn tw n2 H'->Val X.K B tw H H' (.lst out) .own v->Q v H'):tComp (cI X B tw ρ n ts n1) srcs (rG X tw put) (cT X B tw c) (cE X B tw e) σ H Q:=by
 refine⟨R,fun J H1 x1 y1 it D hD=>?_⟩;have R1:=R.mono x1 y1;have nD:D≠tw:=R1.tn.ne_none hD;refine⟨fun i m acc σ' H'=>m=ts.length - i/\i<=ts.length/\H' D=some (.lst acc)/\Ext tw H1 H'/\∃ρi ni as,Rel X.K B tw ρi ni σ' H'/\(∀ (j:Nat) (t:T),ρi[j]?=some (some (t,Md.own))->σ'[j]?≠some (some (V.ref D)))/\Reps tw H' as acc/\aEw put c e (ts.drop i) ρi ni as=some (out,n2),⟨ts.length,by simp,gn _,aAq,.new hD,srcOf srcs ρ,n1,[],(R1.src (C.inj nd)).mono (.new hD) (R1.tn.new hD),aRz (R1.src (C.inj nd)) hD,.nil,by simpa using e3⟩,?_⟩;rintro i m acc σ2 H2 ⟨rfl,hi2,hD2,x2,ρ2,n3,as,R2,nd2,ra,e5⟩;have at2:=it H2 n3 R2.tn x2 i;by_cases hlt:i<ts.length
 ·right;obtain⟨go,yl⟩:=at2.1 ts[i] (by simp[hlt]);have ed:ts.drop i=ts[i]::ts.drop (i+1):=dr hlt;rw[ed] at e5;obtain⟨ρ3,e6,e7⟩:=bind_some (show (put ts[i] ρ2).bind _=_ from e5);obtain⟨⟨b,n4⟩,e8,e9⟩:=bind_some e7;refine⟨go,fun acc' σ' H'=>H' D=some (.lst acc')/\Ext tw H1 H'/\∃ρi ni as',Rel X.K B tw ρi ni σ' H'/\(∀ (j:Nat) (t:T),ρi[j]?=some (some (t,Md.own))->σ'[j]?≠some (some (V.ref D)))/\Reps tw H' as' acc'/\aEw put c e (ts.drop (i+1)) ρi ni as'=some (out,n2),fun acc' σ' H' ⟨z1,z2,ρi,ni,as',z3,z0,z4,z5⟩=>⟨ts.length - (i+1),by lia,rfl,hlt,z1,z2,ρi,ni,as',z3,z0,z4,z5⟩,fun x H3 yd=>?_⟩;obtain⟨xe,xt,xr⟩:=yl x H3 yd;refine⟨B,ρ2,n3,ts[i],ρ3,R2.mono xe (xt n3 R2.tn),xr,e6,fun σ3 R3 os3=>⟨ρ3,n3,b,n4,e8,R3,fun H4 x4 y4=>?_⟩⟩;have R4:=R3.mono x4 y4;have nd3:∀ (j:Nat) (t:T),ρ3[j]?=some (some (t,Md.own))->σ3[j]?≠some (some (V.ref D)):=fun j t q q'=>let ⟨j',t',h1,h2⟩:=os3 j t D q q';nd2 j' t' h1 h2
  have x24:Ext tw H2 H4:=xe.trans x4;cases b with
  | false =>
   have e9:aEw put c e (ts.drop (i+1)) ρ3 n4 as=some (out,n2):=e9;exact iteF ⟨x24.to D _ hD2 nD (fun _ z=>nomatch z),x2.trans x24,ρ3,n4,as,R4,nd3,Reps.mono (x24.fx R2.tn) _ _ ra,e9⟩
  | true =>
   obtain⟨⟨t5,m5,n5⟩,e10,e11⟩:=bind_some (show (dFz e ρ3 n4).bind _=_ from e9);obtain rfl:=fz_md e10;have e11:(if as.length<big then aEw put c e (ts.drop (i+1)) ρ3 n5 (as ++ [t5]) else none)=some (out,n2):=e11;split at e11
   ·rename_i hb;refine iteT ⟨ρ3,n4,t5,.fz,n5,e10,R4,fun v H5 x5 y5 z5=>?_⟩;have x25:=x24.trans x5;have hD5:H5 D=some (.lst acc):=x25.to D _ hD2 nD (fun _ z=>nomatch z);have R5:=R4.mono x5 y5;have fx:Fx H5 (upd H5 D (.lst (acc ++ [v]))):=fun a=>⟨fun vs q=>by rw[aAn (by rintro rfl;rw[hD5] at q;cases q)];exact q,fun _ _ q=>by rw[aAn (by rintro rfl;rw[hD5] at q;cases q)];exact q⟩
    have hBD:B D=none:=R.ext.free R.tn (x1.free y1 hD);refine⟨hD5,by rw[<-ra.length];exact bBo hb,aAq,(x2.trans x25).put hD (fun φ z=>by rw[hD5] at z;cases z),ρ3,n5,as ++ [t5],?_,nd3,(Reps.mono fx _ _ (Reps.mono (x25.fx R2.tn) _ _ ra)).append (.cons (Rep.mono fx _ _ z5) .nil),e11⟩
    ·exact R5.upd_other hD5 hBD nd3
   ·cases e11
 ·left;have hge:ts.length<=i:=jN hlt;refine⟨at2.2 hge,?_⟩;rw[gh hge] at e5;have e5:some (as,n3)=some (out,n2):=e5;cases e5;exact k _ H2 (x1.trans x2) R2.tn ⟨D,rfl,x1.free y1 hD,acc,hD2,ra⟩
theorem aDe{elt iter:Expr}{ifs:List Expr}{scope:Scope}{pos:Pos}{N':List Str}{srcs:List (Option Nat)}{d:DI}{put:T->En->Option En}{c:DT}{e:DE}(hc:X.calm=true)(C:CompTxt X scope N' srcs)(nd:N'.Nodup)(hi:SIc X tw tg iter d)
  (hg:∀cl C s₀ H₀ fp,SG (aCe X N' scope cl C s₀ H₀ fp) tw tg put) (ht:∀cl C s₀ H₀ fp,SFi (aCe X N' scope cl C s₀ H₀ fp) tw ifs c) (he:∀cl C s₀ H₀ fp,SE (aCe X N' scope cl C s₀ H₀ fp) tw elt e)
  (hs:autoParam (∀x,foldedSetIterable iter X.env x=pure x) az3._auto_1):SE X tw (.ListComp elt [⟨tg,iter,ifs,0⟩] scope pos) (aCs d (srcOf srcs) put c e):=by
 intro B ρ n t m n' hd pins s σ H Q I ⟨R,k⟩;obtain⟨⟨ts,n1⟩,e1,e2⟩:=bind_some hd;obtain⟨⟨out,n2⟩,e3,e4⟩:=map_some e2;cases e4;refine pe_comp hc C (hi B ρ n ts n1 e1) (g:=rG X tw put) (tt:=cT X B tw c) (te:=cE X B tw e) (fun cl C s₀ H₀ fp=>hg cl C s₀ H₀ fp) (fun cl C s₀ H₀ fp pins s σ H Q I h=>?_) (fun cl C s₀ H₀ fp pins s σ H Q I h=>?_) hs pins s σ H Q I (bBn C nd R e3 k)
 ·obtain⟨ρ,n,b,n',e,h⟩:=h;exact ht cl C s₀ H₀ fp B ρ n b n' e pins s σ H Q I h
 ·obtain⟨ρ,n,t,m,n',e',h⟩:=h;exact aYn (he cl C s₀ H₀ fp) B ρ n t m n' e' pins s σ H Q I h
theorem aLy(i:Nat){y:Str}{elt iter:Expr}{ifs:List Expr}{scope:Scope}{pos spos py:Pos}{N':List Str}{srcs:List (Option Nat)}{d:DI}{put:T->En->Option En}{c:DT}{e:DE}(hc:X.calm=true)(hN:X.N.Nodup)(C:CompTxt X scope N' srcs)(nd:N'.Nodup)(hi:SIc X tw tg iter d)
  (hg:∀cl C s₀ H₀ fp,SG (aCe X N' scope cl C s₀ H₀ fp) tw tg put) (ht:∀cl C s₀ H₀ fp,SFi (aCe X N' scope cl C s₀ H₀ fp) tw ifs c) (he:∀cl C s₀ H₀ fp,SE (aCe X N' scope cl C s₀ H₀ fp) tw elt e)
  (hi':autoParam (X.N[i]?=some y) az0._auto_1) (hy:autoParam (X.env.scope.names.lookup y=some .local) az0._auto_1) (hsw:autoParam (swapsWith (.ListComp elt [⟨tg,iter,ifs,0⟩] scope pos) (some (.Name y py)) spos.line X.env=pure true) az0._auto_1) (hs:autoParam (∀x,foldedSetIterable iter X.env x=pure x) az3._auto_1) :
  SS X tw (.Assign [.Name y py] (.ListComp elt [⟨tg,iter,ifs,0⟩] scope pos) spos) (dSet i (aCs d (srcOf srcs) put c e)):=by
 intro B ρ n f ρ' n' hd pins s σ H D I ⟨R,k⟩;obtain⟨⟨t,m,n0⟩,e0,e00⟩:=bind_some hd;obtain⟨⟨ts,n1⟩,e1,e2⟩:=bind_some e0;obtain⟨⟨out,n2⟩,e3,e4⟩:=map_some e2;cases e4;cases e00;refine ps_comp hc hN hi' hy C (hi B ρ n ts n1 e1) (g:=rG X tw put) (tt:=cT X B tw c) (te:=cE X B tw e) (fun cl C s₀ H₀ fp=>hg cl C s₀ H₀ fp) (fun cl C s₀ H₀ fp pins s σ H Q I h=>?_) (fun cl C s₀ H₀ fp pins s σ H Q I h=>?_) hsw hs pins s σ H D I (bBn C nd R e3 fun v H' x y z=>k _ H' (x.fx R.tn) (R.store x y z rfl))
 ·obtain⟨ρ,n,b,n',e,h⟩:=h;exact ht cl C s₀ H₀ fp B ρ n b n' e pins s σ H Q I h
 ·obtain⟨ρ,n,t,m,n',e',h⟩:=h;exact aYn (he cl C s₀ H₀ fp) B ρ n t m n' e' pins s σ H Q I h
theorem aEo(i:Nat){st:Stmt}{d:DS}(h:SS X tw st d):SS X tw st (aC8 i d):=by
 intro B ρ n f ρ' n' hh;have key:aC8 i d ρ n=d ρ n\/aC8 i d ρ n=dFrz i d ρ n:=by
  unfold aC8 dFrz;cases ρ[i]? with
  |none=>exact .inl rfl
  | some o =>
   cases o with
   |none=>exact .inl rfl
   | some p =>
    obtain⟨t,m⟩:=p;cases t<;>cases m<;>first |exact .inl rfl |exact .inr rfl
 rcases key with e |e
 ·exact h B ρ n f ρ' n' (e▸hh)
 ·exact aHr i h B ρ n f ρ' n' (e▸hh)
theorem aNv{K:PySem.W.Frag}{H:Hp}:∀ {ts:List (T × Bool)} {vs:List V},Args K tw H ts vs->∀ (i:Nat) (t:T) (b:Bool),ts[i]?=some (t,b)->∃v,vs[i]?=some v/\(b=true->Rep tw H t v)/\Root K tw H t v
 |_,_,.nil,_,_,_,e=>by simp at e
 |_,_,.cons h1 h2 _,0,_,_,e=>by simp at e;obtain⟨rfl,rfl⟩:=e;exact⟨_,rfl,h1,h2⟩
 |_,_,.cons _ _ r,i+1,t,b,e=>by obtain⟨v,q1,q2⟩:=aNv r i t b (by simpa using e);exact⟨v,by simpa using q1,q2⟩
theorem aKn{K:PySem.W.Frag}{H:Hp}{N:List Str}{ts:List (T × Bool)}{vs:List V}{n:Nat}(a:Args K tw H ts vs)(tb:Tb K H)(tn:Tn tw n H) :
  Rel K H tw (ts.map (fun t=>some (t.1,if t.2 then Md.fz else Md.bor))++List.replicate (N.length - ts.length) none) n (start N vs) H:=by
 have hl:=a.length;have get:∀ (i:Nat) (p:T × Md),(ts.map (fun t=>some (t.1,if t.2 then Md.fz else Md.bor))++List.replicate (N.length - ts.length) none)[i]?=some (some p)->∃b,ts[i]?=some (p.1,b)/\p.2=(if b then Md.fz else Md.bor):=fun i p e=>by
  by_cases h:i<ts.length
  ·rw[gN (by simpa using h),cg] at e;cases q:ts[i]? with
   |none=>rw[q] at e;cases e
   |some t=>rw[q] at e;cases e;exact⟨t.2,rfl,rfl⟩
  ·rw[gm (by simpa using h),iB] at e;split at e<;>cases e
 have val:∀ (i:Nat) (v:V),vs[i]?=some v->(start N vs)[i]?=some (some v):=fun i v e=>by have h:i<vs.length:=(bh.mp e).1;unfold start;rw[gN (by simpa using h),cg,e];rfl
 refine⟨.refl _ _,tn,⟨⟨n,tn⟩,tb⟩,by unfold start;rw[bp,bp,ak,ak,fk,fk,hl],fun i t e=>?_,fun i t e=>?_,fun i t e=>?_,fun i t e=>?_,(fun i tb td e=>by obtain⟨b,q1,q2⟩:=get i _ e;cases b<;>cases q2),(fun i j tb tb' td td' a a' l e=>by obtain⟨b,q1,q2⟩:=get i _ e;cases b<;>cases q2),fun i j t t' a e e'=>?_⟩
 ·obtain⟨b,q1,q2⟩:=get i _ e;obtain⟨v,h1,h2,h3⟩:=aNv a i t b q1;cases b with
  |true=>exact⟨v,val i v h1,h2 rfl⟩
  |false=>cases q2
 ·obtain⟨b,q1,q2⟩:=get i _ e;obtain⟨v,h1,h2,h3⟩:=aNv a i t b q1;exact⟨v,val i v h1,h3⟩
 ·obtain⟨b,q1,q2⟩:=get i _ e;cases b<;>cases q2
 ·obtain⟨b,q1,q2⟩:=get i _ e;cases b<;>cases q2
 ·obtain⟨b,q1,q2⟩:=get i _ e;cases b<;>cases q2
theorem fn_ok{P:Program}{w:World}{K:PySem.W.Frag}{mg:Str->Option Value}{base:Heap}{x qual:Str}{st:Stmt}{f:Addr}{fd:FuncData}{N ps:List Str}{lv:Nat}{b:DS}(F:Fun K x qual st f fd)(S:FnScope N ps (aAp st))
  (hbody:∀ (cdv:Value) (A:Around) (outer:List Env) (s:Shared) (H:Hp) (E:XK),Room lv (A.deeper (envOfC qual (aAp st) s.heap.objs.size f cdv))->SSs (cxOf CX0 P w K mg base N qual (aAp st) f cdv A outer s H E).nox tw (aCg st) b):FnOk P w K mg base CX0 (lv+1) f fd ps (SpF K tw ps.length (fnD N.length b)):=by
 refine F.ok S (fun vs H Q E h=>h.1) (fun cdv A outer s H vs Q E hr h=>?_);obtain⟨hl,tb,ts,n,t,m,n',a,tn,e,k⟩:=h;obtain⟨⟨fl,ρ',n1⟩,e1,e2⟩:=bind_some e;refine⟨_,hbody cdv A outer s H E hr H _ n fl ρ' n1 e1,aKn a tb tn,?_⟩;cases fl with
 |rt t0 m0=>cases e2;exact fun v H' _ x y z=>k v H' x y z
 |nx=>cases e2;exact fun σ' H' _ R=>k .non H' R.ext R.tn (by show Rep tw H' .non _;rw[Rep])
 |bk=>cases e2
 |ct=>cases e2
end
section
variable {X:Cx}{tw:Addr}
theorem aB6{K:PySem.W.Frag}{H:Hp}{a b:T}{vs:List V}(r:Roots K tw H [a,b] vs):∃v w,vs = [v,w]/\Root K tw H a v/\Root K tw H b w:=by
 cases r with
 | cons r1 r2=>cases r2 with
  |cons r2 r3=>cases r3;exact⟨_,_,rfl,r1,r2⟩
theorem aA9{K:PySem.W.Frag}{H:Hp}{a:T}{vs:List V}(r:Roots K tw H [a] vs):∃v,vs = [v]/\Root K tw H a v:=by
 cases r with
 |cons r1 r2=>cases r2;exact⟨_,rfl,r1⟩
theorem bBg{f:Value->Value->Sem Value}{C:Int->Int->Bool}{g:Int->Int->T}{gv:Int->Int->V}{r:R2}(ho:OpR X f r)(hr:∀a b H Q,C a b=true->Q (gv a b) H->r (.int a) (.int b) H Q)(hg:∀a b H,Rep tw H (g a b) (gv a b)):PrS X tw (two f) (pI2 C g):=by
 intro B pins s σ H vs us ts n t m Q I rv rt tn e k;have ⟨a,b,ets,hC,et,em⟩:∃a b,ts = [.int a,.int b]/\C a b=true/\t=g a b/\m = .fz:=by
  match ts,e with
  | [.int a,.int b],e =>
   have e:(if C a b then some (g a b,Md.fz) else none)=some (t,m):=e;split at e
   ·rename_i h;cases e;exact⟨a,b,rfl,h,rfl,rfl⟩
   ·cases e
 subst ets et em;obtain⟨v,w,rfl,r1,r2⟩:=aB6 rt;obtain rfl:=aBb r1;obtain rfl:=aBb r2;obtain⟨u1,u2,rfl,q1,q2⟩:=rv.two;exact ho pins s σ H _ _ u1 u2 Q I q1 q2 (hr a b H Q hC (k _ H (.refl _ _) tn (hg a b H)))
theorem aFf:PrS X tw (two (binaryOp .Sub)) pSub:=bBg op_sub (fun a b H Q _ q=>⟨a,b,rfl,rfl,q⟩) fun a b H=>by rw[Rep]
theorem aWj:PrS X tw (two (binaryOp .Mod)) pMod:=bBg op_mod (fun a b H Q h q=>⟨a,b,rfl,rfl,by simpa using h,q⟩) fun a b H=>by rw[Rep]
theorem opC{p:Int->Int->Bool}(rule:∀ (i j:Int) (t u:Tok) (Q:Value->Shared->Prop) (s:Shared),Q (.bool (p i j)) s->wpAny ZC X.A (compareOp op (.int i t) (.int j u)) Q X.xe s):OpR X (compareOp op) (fun x y H Q=>∃i j,x = .int i/\y = .int j/\Q (.bl (p i j)) H):=by intro pins s σ H x y v u Q I rx ry h;obtain⟨i,j,rfl,rfl,q⟩:=h;obtain⟨t,rfl⟩:=rx;obtain⟨t',rfl⟩:=ry;exact rule i j t t' _ s ⟨.bl _,H,I,rfl,q⟩
theorem aE7:PrS X tw (two (compareOp .Lt)) pLt:=bBg (opC fun _ _ _ _ _ _ h=>lt_int h) (fun a b H Q _ q=>⟨a,b,rfl,rfl,q⟩) fun a b H=>by rw[Rep]
theorem pr_le:PrS X tw (two (compareOp .LtE)) pLe:=bBg (opC fun _ _ _ _ _ _ h=>le_int h) (fun a b H Q _ q=>⟨a,b,rfl,rfl,q⟩) fun a b H=>by rw[Rep]
theorem pr_gt:PrS X tw (two (compareOp .Gt)) pGt:=bBg (opC fun _ _ _ _ _ _ h=>gt_int h) (fun a b H Q _ q=>⟨a,b,rfl,rfl,q⟩) fun a b H=>by rw[Rep]
abbrev rC(p:Int->Int->Bool):R2:=fun x y H Q=>∃i j,x = .int i/\y = .int j/\Q (.bl (p i j)) H
abbrev pC(p:Int->Int->Bool):Pr:=pI2 (fun _ _=>true) fun a b=>.bl (p a b)
theorem aXh{p:Int->Int->Bool}{n:Nat}(h:pC p n [a,b]=some (t,m)):∃i j,a = .int i/\b = .int j/\t = .bl (p i j)/\m = .fz:=by
 match a,b,h with
 |.int i,.int j,h=>cases h;exact⟨i,j,rfl,rfl,rfl,rfl⟩
theorem aWi{p1 p2:Int->Int->Bool}{n:Nat}{n':Nat}(hd:aBn (pC p1) (pC p2) da db dc ρ n=some (t,m,n'))(R:Rel X.K B tw ρ n σ H)(k:∀v H',Ext tw H H'->Tn tw n' H'->Val X.K B tw H H' t m v->Q v H') :
  aZg (rC p1) (rC p2) (fun σ H Q=>∃n t m n',da ρ n=some (t,m,n')/\rE X.K B tw ρ n t m n' σ H Q) (fun σ H Q=>∃n t m n',db ρ n=some (t,m,n')/\rE X.K B tw ρ n t m n' σ H Q) (fun σ H Q=>∃n t m n',dc ρ n=some (t,m,n')/\rE X.K B tw ρ n t m n' σ H Q) σ H Q:=by
 obtain⟨⟨ta,ma,na⟩,e1,e2⟩:=bind_some hd;obtain⟨⟨tb,mb,nb⟩,e3,e4⟩:=bind_some e2;obtain⟨⟨tr,mr⟩,e5,e6⟩:=bind_some e4;obtain⟨i,j,rfl,rfl,rfl,rfl⟩:=aXh e5;refine⟨n,_,_,_,e1,R,fun v1 H1 x1 y1 z1=>⟨_,_,_,_,e3,R.mono x1 y1,fun v2 H2 x2 y2 z2=>?_⟩⟩;have R1:=R.mono x1 y1;have R2:=R1.mono x2 y2;obtain rfl:=aBb (z1.root R1 R.tn);obtain rfl:=aBb (z2.root R2 R1.tn);refine⟨i,j,rfl,rfl,p1 i j,rfl,?_⟩;have x12:=x1.trans x2;cases hp:p1 i j with
 | false =>
  rw[hp] at e6;have e6:some (T.bl false,Md.fz,nb)=some (t,m,n'):=e6;cases e6;exact iteF (k _ H2 x12 y2 (by show Rep tw H2 (.bl false) _;rw[Rep]))
 | true =>
  rw[hp] at e6;obtain⟨⟨tc,mc,nc⟩,e7,e8⟩:=bind_some (show (dc ρ nb).bind _=_ from e6);obtain⟨⟨tq,mq⟩,e9,e10⟩:=map_some e8;obtain⟨i2,j2,ei,rfl,rfl,rfl⟩:=aXh e9;cases ei;cases e10;refine iteT ⟨_,_,_,_,e7,R2,fun v3 H3 x3 y3 z3=>?_⟩;obtain rfl:=aBb (z3.root (R2.mono x3 y3) R2.tn);exact⟨j,j2,rfl,rfl,k _ H3 (x12.trans x3) y3 (by show Rep tw H3 (.bl _) _;rw[Rep])⟩
theorem aLw{e:Expr}{d:DE}(h:SE X tw e d)(B:Hp)(ρ:En):PE X e (fun σ H Q=>∃n t m n',d ρ n=some (t,m,n')/\rE X.K B tw ρ n t m n' σ H Q):=fun pins s σ H Q I ⟨n,t,m,n',e,q⟩=>h B ρ n t m n' e pins s σ H Q I q
theorem aXi{a b c:Expr}{da db dc:DE}{o1 o2:CmpOp}{p1 p2:Int->Int->Bool}{pos:Pos}(h1:OpR X (compareOp o1) (rC p1))(h2:OpR X (compareOp o2) (rC p2))(ha:SE X tw a da)(hb:SE X tw b db)(hc:SE X tw c dc)
  (hm:autoParam (lastMarks [o1,o2] [b,c]=false) az5._auto_1):SE X tw (.Compare a [o1,o2] [b,c] pos) (aBn (pC p1) (pC p2) da db dc):=by
 intro B ρ n t m n' hd pins s σ H Q I ⟨R,k⟩;exact pe_chain h1 h2 (aLw ha B ρ) (aLw hb B ρ) (aLw hc B ρ) hm pins s σ H Q I (aWi hd R k)
theorem aJ3{a b c:Expr}{da db dc:DE}{o1 o2:CmpOp}{p1 p2:Int->Int->Bool}{pos:Pos}(h1:OpR X (compareOp o1) (rC p1))(h2:OpR X (compareOp o2) (rC p2))(ha:SE X tw a da)(hb:SE X tw b db)(hc:SE X tw c dc)
  (hm:autoParam (lastMarks [o1,o2] [b,c]=false) az5._auto_1):ST X tw (.Compare a [o1,o2] [b,c] pos) (dTru (aBn (pC p1) (pC p2) da db dc)):=by
 intro B ρ n bb n' hd pins s σ H Q I ⟨R,k⟩;obtain⟨⟨t,m,n1⟩,e1,e2⟩:=bind_some hd;obtain⟨b',e3,e4⟩:=map_some e2;cases e4;refine pt_chain h1 h2 (aLw ha B ρ) (aLw hb B ρ) (aLw hc B ρ) hm pins s σ H Q I (aWi e1 R fun v H' x y z=>?_);have isb:∃q,t = .bl q:=by
  obtain⟨⟨ta,ma,na⟩,g1,g2⟩:=bind_some e1;obtain⟨⟨tb,mb,nb⟩,g3,g4⟩:=bind_some g2;obtain⟨⟨tr,mr⟩,g5,g6⟩:=bind_some g4;obtain⟨i,j,rfl,rfl,rfl,rfl⟩:=aXh g5;cases hp:p1 i j with
  | false =>
   rw[hp] at g6;have g6:some (T.bl false,Md.fz,nb)=some (t,m,n1):=g6;cases g6;exact⟨_,rfl⟩
  | true =>
   rw[hp] at g6;obtain⟨⟨tc,mc,nc⟩,g7,g8⟩:=bind_some (show (dc ρ nb).bind _=_ from g6);obtain⟨⟨tq,mq⟩,g9,g10⟩:=map_some g8;obtain⟨_,_,_,_,rfl,_⟩:=aXh g9;cases g10;exact⟨_,rfl⟩
 obtain⟨q,rfl⟩:=isb;cases e3;have rt:Rep tw H' (.bl _) v:=(z.root (R.mono x y) R.tn)
 rw[Rep] at rt;subst rt;exact⟨_,rfl,k H' x y⟩
theorem aEs(h:H a=some (.tup vs))(r:Reps tw H xs vs):Rep tw H (.tup xs) (.ref a):=by rw[Rep];exact⟨a,vs,rfl,h,r⟩
theorem aBx{K:PySem.W.Frag}{H:Hp}{xs:List T}{v:V}(r:Root K tw H (.tup xs) v):∃a vs,v = .ref a/\H a=some (.tup vs)/\Reps tw H xs vs:=by have r:Rep tw H (.tup xs) v:=r;rw[Rep] at r;exact r
end
end L2.Ds
namespace L2.Ds
open PySem PySem.Spec PyProof.Rows PySem.SeqAt
section
variable {X:Cx}{tw:Addr}
theorem aHc(hP:∀t t' v,P t=true->P t'=true->Rep tw H t v->Rep tw H t' v->t=t'):∀ (xs ys:List T) (vs:List V),xs.all P=true->ys.all P=true->Reps tw H xs vs->Reps tw H ys vs->xs=ys
 | [],ys,vs,p,p',r,r'=>by
  obtain rfl:=aB2 r;cases ys with
  |nil=>rfl
  |cons y ys=>obtain⟨_,_,e,_⟩:=aA1 r';cases e
 | x::xs,ys,vs,p,p',r,r'=>by
  obtain⟨v,w,rfl,q1,q2⟩:=aA1 r;cases ys with
  |nil=>cases aB2 r'
  | cons y ys =>
   obtain⟨v',w',e,q1',q2'⟩:=aA1 r';cases e;rw[ej,bo] at p p';rw[hP x y v p.1 p'.1 q1 q1',aHc hP xs ys w p.2 p'.2 q2 q2']
theorem aWh(hv:∀a,v ≠ .ref a)(r:Rep tw H t v)(r':Rep tw H t' v):t=t':=by cases t<;>rw[Rep] at r<;>first |(exact False.elim r) |(subst r;cases t'<;>rw[Rep] at r'<;>first |rfl |(exact False.elim r') |(cases r';rfl) |(cases r';done) |(obtain⟨_,_,e,_⟩:=r';cases e;done) |(obtain⟨_,_,_,e,_⟩:=r';cases e;done)) |(obtain⟨_,_,e,_⟩:=r;exact absurd e (hv _)) |(obtain⟨_,_,_,e,_⟩:=r;exact absurd e (hv _)) |(exact absurd r (hv _))
theorem rep_inj:∀ (k:Nat) (t t':T) (v:V),aAr k t=true->aAr k t'=true->Rep tw H t v->Rep tw H t' v->t=t':=by
 intro k
 induction k with
 | zero =>
  intro t t' v p p' r r';refine aWh (fun a e=>?_) r r';subst e;cases t<;>first |(cases p;done) |(rw[Rep] at r;cases r;done)
 | succ k ih =>
  intro t t' v p p' r r';cases t with
  | tup xs =>
   rw[Rep] at r;obtain⟨a,vs,rfl,e,q⟩:=r;cases t' with
   | tup ys =>
    rw[Rep] at r';obtain⟨a',vs',ea,e',q'⟩:=r';cases ea;rw[e] at e';cases e';rw[aHc (P:=aAr k) (ih) xs ys vs p p' q q']
   |lst ys=>rw[Rep] at r';obtain⟨a',o,vs',ea,e',_⟩:=r';cases ea;rw[e] at e';cases e'
   |dic ys=>cases p'
   |town=>cases p'
   |ob _=>cases p'
   |gs _ _=>cases p'
   |rdc _=>cases p'
   |_=>rw[Rep] at r';cases r'
  | lst xs =>
   rw[Rep] at r;obtain⟨a,o,vs,rfl,e,q⟩:=r;cases t' with
   | lst ys =>
    rw[Rep] at r';obtain⟨a',o',vs',ea,e',q'⟩:=r';cases ea;rw[e] at e';cases e';rw[aHc (P:=aAr k) (ih) xs ys vs p p' q q']
   |tup ys=>rw[Rep] at r';obtain⟨a',vs',ea,e',_⟩:=r';cases ea;rw[e] at e';cases e'
   |dic ys=>cases p'
   |town=>cases p'
   |ob _=>cases p'
   |gs _ _=>cases p'
   |rdc _=>cases p'
   |_=>rw[Rep] at r';cases r'
  |dic _=>cases p
  |town=>cases p
  |ob _=>cases p
  |gs _ _=>cases p
  |rdc _=>cases p
  | _ =>
   refine aWh (fun a e=>?_) r r';subst e;rw[Rep] at r;cases r
theorem aGi(hP:∀t,P t=true->eqT t t=true):∀ (xs:List T),xs.all P=true->eqTs xs xs=true
 |[],_=>by rw[eqTs]
 |x::xs,p=>by rw[ej,bo] at p;rw[eqTs,hP x p.1,aGi hP xs p.2];rfl
theorem eqT_refl:∀ (k:Nat) (t:T),aAr k t=true->eqT t t=true:=by
 intro k
 induction k with
 |zero=>intro t p;cases t<;>first |(cases p;done) |(rw[eqT];done) |(rw[eqT];simp)
 | succ k ih =>
  intro t p;cases t with
  |tup xs=>rw[eqT];exact aGi ih xs p
  |lst xs=>rw[eqT];exact aGi ih xs p
  |dic _=>cases p
  |town=>cases p
  |ob _=>cases p
  |gs _ _=>cases p
  |rdc _=>cases p
  |non=>rw[eqT]
  |_=>rw[eqT];simp
theorem aHp:∀ (xs ys:List T),xs.length≠ys.length->eqTs xs ys=false
 |[],[],h=>absurd rfl h
 |[],_::_,_=>by simp[eqTs]
 |_::_,[],_=>by simp[eqTs]
 |x::xs,y::ys,h=>by rw[eqTs,aHp xs ys (fun e=>h (by rw[ah,ah,e])),gz]
theorem aH9:∀ (xs ys:List T),xs.length=ys.length->eqTs xs ys=(List.range xs.length).all fun j=>eqT (xs.getD j .non) (ys.getD j .non)
 |[],[],_=>by rw[eqTs];rfl
 |[],_::_,h=>by cases h
 |_::_,[],h=>by cases h
 |x::xs,y::ys,h=>by rw[eqTs,aH9 xs ys (by simpa using h),ah,jV,ej,iC];rfl
theorem aH1(r:Reps tw H xs vs)(rv:Vals vs us){j:Nat}(h:j<us.length):∃v,Rep tw H (xs.getD j .non) v/\RelV v us[j]:=by
 have h1:j<vs.length:=by rw[rv.length];exact h
 have h2:j<xs.length:=by rw[r.length];exact h1
 obtain⟨v,e1,e2⟩:=r.get (i:=j) (x:=xs[j]) (by simp[h2]);obtain⟨u,e3,e4⟩:=rv.get e1;have:us[j]=u:=by have:=ba h;rw[this] at e3;exact Option.some.inj e3
 refine⟨v,?_,this▸e4⟩;rw[bw,ba h2];exact e2
inductive Kd (s:Shared) (tw:Addr) (H:Hp):T->Value->Prop
 |non:Kd s tw H .non .none
 |bl (b:Bool):Kd s tw H (.bl b) (.bool b)
 |int (i:Int) (t:Tok):Kd s tw H (.int i) (.int i t)
 |str (x:Str) (t:Tok):Kd s tw H (.str x) (.str x t)
 |tup {xs:List T} {a:Addr} {us:List Value} {vs:List V}:s.heap.IsTuple a us.toArray->Reps tw H xs vs->Vals vs us->Kd s tw H (.tup xs) (.ref a)
 |lst {xs:List T} {a:Addr} {us:List Value} {vs:List V}:s.heap.IsList a us.toArray->Reps tw H xs vs->Vals vs us->Kd s tw H (.lst xs) (.ref a)
theorem aR5{k:Nat}(I:Inv X pins σ H s)(p:aAr k t=true)(r:Root X.K tw H t v)(rv:RelV v u):Kd s tw H t u:=by
 cases t with
 |non=>have r:Rep tw H .non v:=r;rw[Rep] at r;subst r;cases rv;exact .non
 |bl b=>have r:Rep tw H (.bl b) v:=r;rw[Rep] at r;subst r;cases rv;exact .bl b
 |int i=>have r:Rep tw H (.int i) v:=r;rw[Rep] at r;subst r;obtain⟨t,rfl⟩:=rv;exact .int i t
 |str x=>have r:Rep tw H (.str x) v:=r;rw[Rep] at r;subst r;obtain⟨t,rfl⟩:=rv;exact .str x t
 | tup xs =>
  obtain⟨a,vs,rfl,e,q⟩:=aBx r;cases rv;obtain⟨its,r1,p1,_⟩:=I.tuple (SqT.of e);exact .tup p1 q r1
 | lst xs =>
  obtain⟨a,vs,rfl,e,q⟩:=r;cases rv;obtain⟨its,r1,p1,_⟩:=I.list e.sq;exact .lst p1.isList q r1
 |dic _=>cases k<;>cases p
 |town=>cases k<;>cases p
 |ob _=>cases k<;>cases p
 |gs _ _=>cases k<;>cases p
 |rdc _=>cases k<;>cases p
theorem in1_units{A:Around}:A.in1.units=A.units+1:=rfl
theorem eq_at{n:Nat}(I:Inv X pins σ H s)(tn:Tn tw n H):∀ (k:Nat) (A:Around) (t t':T) (u u':Value),A.units+k<cLine->aAr k t=true->aAr k t'=true->Kd s tw H t u->Kd s tw H t' u' ->
  RcAt A s u u' (eqT t t')/\((∃v,Rep tw H t v/\RelV v u)->(∃v,Rep tw H t' v/\RelV v u')->EqAt A s u u' (eqT t t')):=by
 intro k
 induction k with
 | zero =>
  intro A t t' u u' hu p p' d d';cases d with
  |tup=>cases p
  |lst=>cases p
  | non =>
   cases d' with
   |tup=>cases p'
   |lst=>cases p'
   |non=>rw[eqT];exact⟨RcAt.none_none,fun _ _=>EqAt.same _⟩
   |bl b=>exact⟨RcAt.none_bool b,fun _ _=>EqAt.none_bool b⟩
   |int i t=>exact⟨RcAt.none_int i t,fun _ _=>EqAt.none_int i t⟩
   |str x t=>exact⟨RcAt.none_str x t,fun _ _=>EqAt.none_str x t⟩
  | bl a =>
   cases d' with
   |tup=>cases p'
   |lst=>cases p'
   |non=>exact⟨RcAt.bool_none a,fun _ _=>EqAt.bool_none a⟩
   |bl b=>rw[eqT];exact⟨RcAt.bool_bool a b,fun _ _=>EqAt.bool_bool a b⟩
   |int i t=>rw[eqT];exact⟨RcAt.bool_int a i t,fun _ _=>EqAt.bool_int a i t⟩
   |str x t=>exact⟨RcAt.bool_str a x t,fun _ _=>EqAt.bool_str a x t⟩
  | int a ta =>
   cases d' with
   |tup=>cases p'
   |lst=>cases p'
   |non=>exact⟨RcAt.int_none a ta,fun _ _=>EqAt.int_none a ta⟩
   |bl b=>rw[eqT];exact⟨RcAt.int_bool a ta b,fun _ _=>EqAt.int_bool a ta b⟩
   |int i t=>rw[eqT];exact⟨RcAt.int_int a ta i t,fun _ _=>EqAt.int_int a ta i t⟩
   |str x t=>exact⟨RcAt.int_str a ta x t,fun _ _=>EqAt.int_str a ta x t⟩
  | str a ta =>
   cases d' with
   |tup=>cases p'
   |lst=>cases p'
   |non=>exact⟨RcAt.str_none a ta,fun _ _=>EqAt.str_none a ta⟩
   |bl b=>exact⟨RcAt.str_bool a ta b,fun _ _=>EqAt.str_bool a ta b⟩
   |int i t=>exact⟨RcAt.str_int a ta i t,fun _ _=>EqAt.str_int a ta i t⟩
   |str x t=>rw[eqT];exact⟨RcAt.str_str a ta x t,fun _ _=>EqAt.str_str a ta x t⟩
 | succ k ih =>
  intro A t t' u u' hu p p' d d';have hA:A.units<cLine:=by lia
  have hA1:A.in1.units+k<cLine:=by rw[in1_units];lia
  have refs:∀ {a b:Addr} {t t':T},aAr (k+1) t=true->aAr (k+1) t'=true->RcAt A s (.ref a) (.ref b) (eqT t t')->(∃v,Rep tw H t v/\RelV v (.ref a))->(∃v,Rep tw H t' v/\RelV v (.ref b))->EqAt A s (.ref a) (.ref b) (eqT t t'):=fun {a b t t'} p p' h ⟨v,rv,ev⟩ ⟨v',rv',ev'⟩=>by
   by_cases hab:a=b
   ·subst hab;obtain rfl:=ev.inj ev';obtain rfl:=rep_inj (k+1) t t' v p p' rv rv';rw[eqT_refl (k+1) t p];exact EqAt.same _
   ·exact .of_refs hab h
  have items:∀ {xs ys:List T} {us ws:List Value} {vs vs':List V},xs.all (aAr k)=true->ys.all (aAr k)=true->Reps tw H xs vs->Vals vs us->Reps tw H ys vs'->Vals vs' ws->∀j (h1:j<us.toArray.size) (h2:j<ws.toArray.size),EqAt A.in1 s us.toArray[j] ws.toArray[j] (eqT (xs.getD j .non) (ys.getD j .non)):=fun {xs ys us ws vs vs'} px py rx vx ry vy j h1 h2=>by
   have h1':j<us.length:=by simpa using h1
   have h2':j<ws.length:=by simpa using h2
   obtain⟨v1,a1,b1⟩:=aH1 rx vx h1';obtain⟨v2,a2,b2⟩:=aH1 ry vy h2';have g1:aAr k (xs.getD j .non)=true:=by rw[bw,ba (show j<xs.length by rw[rx.length,vx.length];exact h1')];exact bu.mp px _ (fg _)
   have g2:aAr k (ys.getD j .non)=true:=by rw[bw,ba (show j<ys.length by rw[ry.length,vy.length];exact h2')];exact bu.mp py _ (fg _)
   have:=(ih A.in1 _ _ _ _ hA1 g1 g2 (aR5 I g1 (Root.of_rep tn a1) b1) (aR5 I g2 (Root.of_rep tn a2) b2)).2 ⟨v1,a1,b1⟩ ⟨v2,a2,b2⟩;simpa using this
  cases d with
  | @tup xs a us vs ia rx vx =>
   cases d' with
   | @tup ys b ws vs' ib ry vy =>
    have key:RcAt A s (.ref a) (.ref b) (eqT (.tup xs) (.tup ys)):=by
     have:=RcAt.tuples (A:=A) ia ib hA (items p p' rx vx ry vy);have ex:xs.length=us.length:=rx.length.trans vx.length;have ey:ys.length=ws.length:=ry.length.trans vy.length;rw[eqT];by_cases hl:xs.length=ys.length
     ·rw[aH9 xs ys hl];simp only[aj] at this;rw[<-ex,<-ey,<-hl,Nat.min_self,beq_self_eq_true,Bool.and_true] at this;exact this
     ·rw[aHp xs ys hl];simp only[aj] at this;rw[show (us.length==ws.length)=false by rw[<-ex,<-ey];simpa using hl,gz] at this;exact this
    exact⟨key,refs p p' key⟩
   | @lst ys b ws vs' ib ry vy =>
    have key:RcAt A s (.ref a) (.ref b) (eqT (.tup xs) (.lst ys)):=RcAt.tuple_list ia ib hA;exact⟨key,refs p p' key⟩
   |non=>exact⟨RcAt.tuple_none ia hA,fun _ _=>EqAt.tuple_none ia hA⟩
   |bl b=>exact⟨RcAt.tuple_bool b ia hA,fun _ _=>EqAt.tuple_bool b ia hA⟩
   |int b t=>exact⟨RcAt.tuple_int b t ia hA,fun _ _=>EqAt.tuple_int b t ia hA⟩
   |str b t=>exact⟨RcAt.tuple_str b t ia hA,fun _ _=>EqAt.tuple_str b t ia hA⟩
  | @lst xs a us vs ia rx vx =>
   cases d' with
   | @lst ys b ws vs' ib ry vy =>
    have key:RcAt A s (.ref a) (.ref b) (eqT (.lst xs) (.lst ys)):=by
     have ex:xs.length=us.length:=rx.length.trans vx.length;have ey:ys.length=ws.length:=ry.length.trans vy.length;rw[eqT];by_cases hl:xs.length=ys.length
     ·have:=RcAt.lists (A:=A) ia ib (by simp;lia) hA (items p p' rx vx ry vy);rw[aH9 xs ys hl];simp only[aj] at this;rw[<-ex] at this;exact this
     ·rw[aHp xs ys hl];exact RcAt.lists_lengths ia ib (by simp;lia) hA
    exact⟨key,refs p p' key⟩
   | @tup ys b ws vs' ib ry vy =>
    have key:RcAt A s (.ref a) (.ref b) (eqT (.lst xs) (.tup ys)):=RcAt.list_tuple ia ib hA;exact⟨key,refs p p' key⟩
   |non=>exact⟨RcAt.list_none ia hA,fun _ _=>EqAt.list_none ia hA⟩
   |bl b=>exact⟨RcAt.list_bool b ia hA,fun _ _=>EqAt.list_bool b ia hA⟩
   |int b t=>exact⟨RcAt.list_int b t ia hA,fun _ _=>EqAt.list_int b t ia hA⟩
   |str b t=>exact⟨RcAt.list_str b t ia hA,fun _ _=>EqAt.list_str b t ia hA⟩
  | non =>
   cases d' with
   |tup ib=>exact⟨RcAt.none_tuple ib hA,fun _ _=>EqAt.none_tuple ib hA⟩
   |lst ib=>exact⟨RcAt.none_list ib hA,fun _ _=>EqAt.none_list ib hA⟩
   |non=>rw[eqT];exact⟨RcAt.none_none,fun _ _=>EqAt.same _⟩
   |bl b=>exact⟨RcAt.none_bool b,fun _ _=>EqAt.none_bool b⟩
   |int i t=>exact⟨RcAt.none_int i t,fun _ _=>EqAt.none_int i t⟩
   |str x t=>exact⟨RcAt.none_str x t,fun _ _=>EqAt.none_str x t⟩
  | bl a =>
   cases d' with
   |tup ib=>exact⟨RcAt.bool_tuple a ib hA,fun _ _=>EqAt.bool_tuple a ib hA⟩
   |lst ib=>exact⟨RcAt.bool_list a ib hA,fun _ _=>EqAt.bool_list a ib hA⟩
   |non=>exact⟨RcAt.bool_none a,fun _ _=>EqAt.bool_none a⟩
   |bl b=>rw[eqT];exact⟨RcAt.bool_bool a b,fun _ _=>EqAt.bool_bool a b⟩
   |int i t=>rw[eqT];exact⟨RcAt.bool_int a i t,fun _ _=>EqAt.bool_int a i t⟩
   |str x t=>exact⟨RcAt.bool_str a x t,fun _ _=>EqAt.bool_str a x t⟩
  | int a ta =>
   cases d' with
   |tup ib=>exact⟨RcAt.int_tuple a ta ib hA,fun _ _=>EqAt.int_tuple a ta ib hA⟩
   |lst ib=>exact⟨RcAt.int_list a ta ib hA,fun _ _=>EqAt.int_list a ta ib hA⟩
   |non=>exact⟨RcAt.int_none a ta,fun _ _=>EqAt.int_none a ta⟩
   |bl b=>rw[eqT];exact⟨RcAt.int_bool a ta b,fun _ _=>EqAt.int_bool a ta b⟩
   |int i t=>rw[eqT];exact⟨RcAt.int_int a ta i t,fun _ _=>EqAt.int_int a ta i t⟩
   |str x t=>exact⟨RcAt.int_str a ta x t,fun _ _=>EqAt.int_str a ta x t⟩
  | str a ta =>
   cases d' with
   |tup ib=>exact⟨RcAt.str_tuple a ta ib hA,fun _ _=>EqAt.str_tuple a ta ib hA⟩
   |lst ib=>exact⟨RcAt.str_list a ta ib hA,fun _ _=>EqAt.str_list a ta ib hA⟩
   |non=>exact⟨RcAt.str_none a ta,fun _ _=>EqAt.str_none a ta⟩
   |bl b=>exact⟨RcAt.str_bool a ta b,fun _ _=>EqAt.str_bool a ta b⟩
   |int i t=>exact⟨RcAt.str_int a ta i t,fun _ _=>EqAt.str_int a ta i t⟩
   |str x t=>rw[eqT];exact⟨RcAt.str_str a ta x t,fun _ _=>EqAt.str_str a ta x t⟩
theorem aDb{A:Around}{s:Shared}{u u':Value}{b c:Bool}(h:RcNeAt A s u u' b)(e:b=c):RcNeAt A s u u' c:=e▸h
theorem ne_at{n:Nat}(I:Inv X pins σ H s)(tn:Tn tw n H)(k:Nat)(A:Around)(t t':T)(u u':Value)(hu:A.units+(k+1)<cLine)(p:aAr (k+1) t=true)(p':aAr (k+1) t'=true)(d:Kd s tw H t u)(d':Kd s tw H t' u') :
  RcNeAt A s u u' (!eqT t t'):=by
 have hA:A.units<cLine:=by lia
 have hA1:A.in1.units+k<cLine:=by rw[in1_units];lia
 have items:∀ {xs ys:List T} {us ws:List Value} {vs vs':List V},xs.all (aAr k)=true->ys.all (aAr k)=true->Reps tw H xs vs->Vals vs us->Reps tw H ys vs'->Vals vs' ws->∀j (h1:j<us.toArray.size) (h2:j<ws.toArray.size),EqAt A.in1 s us.toArray[j] ws.toArray[j] (eqT (xs.getD j .non) (ys.getD j .non)):=fun {xs ys us ws vs vs'} px py rx vx ry vy j h1 h2=>by
  have h1':j<us.length:=by simpa using h1
  have h2':j<ws.length:=by simpa using h2
  obtain⟨v1,a1,b1⟩:=aH1 rx vx h1';obtain⟨v2,a2,b2⟩:=aH1 ry vy h2';have g1:aAr k (xs.getD j .non)=true:=by rw[bw,ba (show j<xs.length by rw[rx.length,vx.length];exact h1')];exact bu.mp px _ (fg _)
  have g2:aAr k (ys.getD j .non)=true:=by rw[bw,ba (show j<ys.length by rw[ry.length,vy.length];exact h2')];exact bu.mp py _ (fg _)
  have:=(eq_at I tn k A.in1 _ _ _ _ hA1 g1 g2 (aR5 I g1 (Root.of_rep tn a1) b1) (aR5 I g2 (Root.of_rep tn a2) b2)).2 ⟨v1,a1,b1⟩ ⟨v2,a2,b2⟩;simpa using this
 cases d with
 | non =>
  cases d' with
  |tup ib=>exact RcNeAt.none_tuple  ib hA
  |lst ib=>exact RcNeAt.none_list  ib hA
  |non=>exact aDb (RcNeAt.none_none ) (by first |rfl |(rw[eqT];done) |(simp[eqT];done))
  |bl b=>exact aDb (RcNeAt.none_bool b) (by first |rfl |(rw[eqT];done) |(simp[eqT];done))
  |int b tb=>exact aDb (RcNeAt.none_int b tb) (by first |rfl |(rw[eqT];done) |(simp[eqT];done))
  |str b tb=>exact aDb (RcNeAt.none_str b tb) (by first |rfl |(rw[eqT];done) |(simp[eqT];done))
 | bl a =>
  cases d' with
  |tup ib=>exact RcNeAt.bool_tuple a ib hA
  |lst ib=>exact RcNeAt.bool_list a ib hA
  |non=>exact aDb (RcNeAt.bool_none a) (by first |rfl |(rw[eqT];done) |(simp[eqT];done))
  |bl b=>exact aDb (RcNeAt.bool_bool a b) (by first |rfl |(rw[eqT];done) |(simp[eqT];done))
  |int b tb=>exact aDb (RcNeAt.bool_int a b tb) (by first |rfl |(rw[eqT];done) |(simp[eqT];done))
  |str b tb=>exact aDb (RcNeAt.bool_str a b tb) (by first |rfl |(rw[eqT];done) |(simp[eqT];done))
 | int a ta =>
  cases d' with
  |tup ib=>exact RcNeAt.int_tuple a ta ib hA
  |lst ib=>exact RcNeAt.int_list a ta ib hA
  |non=>exact aDb (RcNeAt.int_none a ta) (by first |rfl |(rw[eqT];done) |(simp[eqT];done))
  |bl b=>exact aDb (RcNeAt.int_bool a ta b) (by first |rfl |(rw[eqT];done) |(simp[eqT];done))
  |int b tb=>exact aDb (RcNeAt.int_int a ta b tb) (by first |rfl |(rw[eqT];done) |(simp[eqT];done))
  |str b tb=>exact aDb (RcNeAt.int_str a ta b tb) (by first |rfl |(rw[eqT];done) |(simp[eqT];done))
 | str a ta =>
  cases d' with
  |tup ib=>exact RcNeAt.str_tuple a ta ib hA
  |lst ib=>exact RcNeAt.str_list a ta ib hA
  |non=>exact aDb (RcNeAt.str_none a ta) (by first |rfl |(rw[eqT];done) |(simp[eqT];done))
  |bl b=>exact aDb (RcNeAt.str_bool a ta b) (by first |rfl |(rw[eqT];done) |(simp[eqT];done))
  |int b tb=>exact aDb (RcNeAt.str_int a ta b tb) (by first |rfl |(rw[eqT];done) |(simp[eqT];done))
  |str b tb=>exact aDb (RcNeAt.str_str a ta b tb) (by first |rfl |(rw[eqT];done) |(simp[eqT];done))
 | @tup xs a us vs ia rx vx =>
  cases d' with
  |non=>exact aDb (RcNeAt.tuple_none  ia hA) (by first |rfl |(simp[eqT];done))
  |bl b=>exact aDb (RcNeAt.tuple_bool b ia hA) (by first |rfl |(simp[eqT];done))
  |int b tb=>exact aDb (RcNeAt.tuple_int b tb ia hA) (by first |rfl |(simp[eqT];done))
  |str b tb=>exact aDb (RcNeAt.tuple_str b tb ia hA) (by first |rfl |(simp[eqT];done))
  | @tup ys b ws vs' ib ry vy =>
   have:=RcNeAt.tuples (A:=A) ia ib hA (items p p' rx vx ry vy);have ex:xs.length=us.length:=rx.length.trans vx.length;have ey:ys.length=ws.length:=ry.length.trans vy.length;rw[eqT];by_cases hl:xs.length=ys.length
   ·rw[aH9 xs ys hl];simp only[aj] at this;rw[<-ex,<-ey,<-hl,Nat.min_self,beq_self_eq_true,Bool.and_true] at this;exact this
   ·rw[aHp xs ys hl];simp only[aj] at this;rw[show (us.length==ws.length)=false by rw[<-ex,<-ey];simpa using hl,gz] at this;exact this
  |@lst ys b ws vs' ib ry vy=>exact aDb (RcNeAt.tuple_list ia ib hA) (by first |rfl |(simp[eqT];done))
 | @lst xs a us vs ia rx vx =>
  cases d' with
  |non=>exact aDb (RcNeAt.list_none  ia hA) (by first |rfl |(simp[eqT];done))
  |bl b=>exact aDb (RcNeAt.list_bool b ia hA) (by first |rfl |(simp[eqT];done))
  |int b tb=>exact aDb (RcNeAt.list_int b tb ia hA) (by first |rfl |(simp[eqT];done))
  |str b tb=>exact aDb (RcNeAt.list_str b tb ia hA) (by first |rfl |(simp[eqT];done))
  | @lst ys b ws vs' ib ry vy =>
   have ex:xs.length=us.length:=rx.length.trans vx.length;have ey:ys.length=ws.length:=ry.length.trans vy.length;rw[eqT];by_cases hl:xs.length=ys.length
   ·have:=RcNeAt.lists (A:=A) ia ib (by simp;lia) hA (items p p' rx vx ry vy);rw[aH9 xs ys hl];simp only[aj] at this;rw[<-ex] at this;exact this
   ·rw[aHp xs ys hl];exact RcNeAt.lists_lengths ia ib (by simp;lia) hA
  |@tup ys b ws vs' ib ry vy=>exact aDb (RcNeAt.list_tuple ia ib hA) (by first |rfl |(simp[eqT];done))
theorem aZt{r:Bool}(h:eqP a b=some r):(∃kvs,a = .dic kvs/\b = .dic []/\r=kvs.isEmpty)\/(aAr 6 a=true/\aAr 6 b=true/\r=eqT a b):=by
 have gen:(if aAr 6 a&&aAr 6 b then some (eqT a b) else none)=some r->(aAr 6 a=true/\aAr 6 b=true/\r=eqT a b):=fun h=>by
  split at h
  ·rename_i q;rw[bo] at q;cases h;exact⟨q.1,q.2,rfl⟩
  ·cases h
 cases a with
 | dic kvs =>
  cases b with
  | dic ws =>
   have h:(if ws.isEmpty then some kvs.isEmpty else none)=some r:=h;cases ws with
   |nil=>cases h;exact .inl ⟨kvs,rfl,rfl,rfl⟩
   |cons p q=>cases h
  |_=>exact .inr (gen h)
 |_=>exact .inr (gen h)
end
end L2.Ds
namespace L2.Ds
open PySem PySem.Spec PyProof.Rows
section
variable {X:Cx}{tw:Addr}
theorem aNh(hu:X.A.units+6<cLine)(hd:∀ (pins:List ZH) (s:Shared) (σ:St) (H:Hp) (a b:Addr) (ws:List (Key × V)) (Q:Value->Shared->Prop),Inv X pins σ H s->Rd H a (.dK ws)->Rd H b (.dK [])->(∀s',Inv X pins σ H s'->Q (.bool ws.isEmpty) s')->wpAny ZC X.A (compareOp .Eq (.ref a) (.ref b)) Q X.xe s) :
  PrS X tw (two (compareOp .Eq)) pEq:=by
 intro B pins s σ H vs us ts n t m Q I rv rt tn e k;have ⟨a,b,r,ets,er,et,em⟩:∃a b r,ts = [a,b]/\eqP a b=some r/\t = .bl r/\m = .fz:=by
  match ts,e with
  |[a,b],e=>obtain⟨r,h1,h2⟩:=map_some e;cases h2;exact⟨a,b,r,rfl,h1,rfl,rfl⟩
 subst ets et em;obtain⟨v,w,rfl,r1,r2⟩:=aB6 rt;obtain⟨u1,u2,rfl,q1,q2⟩:=rv.two;have fin:∀s',Inv X pins σ H s'->EP X pins σ Q (.bool r) s':=fun s' I'=>⟨.bl r,H,I',rfl,k _ H (.refl _ _) tn (by show Rep tw H (.bl r) _;rw[Rep])⟩
 rcases aZt er with ⟨kvs,rfl,rfl,rfl⟩ |⟨p,p',rfl⟩
 ·obtain⟨a1,w1,rfl,_,e1,x1⟩:=r1;obtain⟨a2,w2,rfl,_,e2,x2⟩:=r2;cases q1;cases q2;rw[RepK] at x2;subst x2;have:w1.isEmpty=kvs.isEmpty:=by have:=RepK.length x1;cases kvs<;>cases w1<;>first |rfl |(simp at this)
  exact hd pins s σ H a1 a2 w1 _ I e1 e2 fun s' I'=>by rw[this];exact fin s' I'
 ·exact(eq_at I tn 6 X.A a b u1 u2 hu p p' (aR5 I p r1 q1) (aR5 I p' r2 q2)).1 X.prog X.w X.xe _ (fin s I)
theorem aT9(hu:X.A.units+6<cLine)(hd:∀ (pins:List ZH) (s:Shared) (σ:St) (H:Hp) (a b:Addr) (ws:List (Key × V)) (Q:Value->Shared->Prop),Inv X pins σ H s->Rd H a (.dK ws)->Rd H b (.dK [])->(∀s',Inv X pins σ H s'->Q (.bool (!ws.isEmpty)) s')->wpAny ZC X.A (compareOp .NotEq (.ref a) (.ref b)) Q X.xe s) :
  PrS X tw (two (compareOp .NotEq)) pNe:=by
 intro B pins s σ H vs us ts n t m Q I rv rt tn e k;have ⟨a,b,r,ets,er,et,em⟩:∃a b r,ts = [a,b]/\eqP a b=some r/\t = .bl (!r)/\m = .fz:=by
  match ts,e with
  |[a,b],e=>obtain⟨r,h1,h2⟩:=map_some e;cases h2;exact⟨a,b,r,rfl,h1,rfl,rfl⟩
 subst ets et em;obtain⟨v,w,rfl,r1,r2⟩:=aB6 rt;obtain⟨u1,u2,rfl,q1,q2⟩:=rv.two;have fin:∀s',Inv X pins σ H s'->EP X pins σ Q (.bool (!r)) s':=fun s' I'=>⟨.bl (!r),H,I',rfl,k _ H (.refl _ _) tn (by show Rep tw H (.bl (!r)) _;rw[Rep])⟩
 rcases aZt er with ⟨kvs,rfl,rfl,rfl⟩ |⟨p,p',rfl⟩
 ·obtain⟨a1,w1,rfl,_,e1,x1⟩:=r1;obtain⟨a2,w2,rfl,_,e2,x2⟩:=r2;cases q1;cases q2;rw[RepK] at x2;subst x2;have:w1.isEmpty=kvs.isEmpty:=by have:=RepK.length x1;cases kvs<;>cases w1<;>first |rfl |(simp at this)
  exact hd pins s σ H a1 a2 w1 _ I e1 e2 fun s' I'=>by rw[this];exact fin s' I'
 ·exact(ne_at I tn 5 X.A a b u1 u2 hu p p' (aR5 I p r1 q1) (aR5 I p' r2 q2)) X.prog X.w X.xe _ (fin s I)
theorem aC4:PrS X tw (two (binaryOp .Add)) pAdd:=by
 intro B pins s σ H vs us ts n t m Q I rv rt tn e k
 match ts,e with
 | [.int a,.int b],e =>
  cases e;obtain⟨v,w,rfl,r1,r2⟩:=aB6 rt;obtain rfl:=aBb r1;obtain rfl:=aBb r2;obtain⟨u1,u2,rfl,q1,q2⟩:=rv.two;exact op_add pins s σ H _ _ u1 u2 Q I q1 q2 ⟨a,b,rfl,rfl,k _ H (.refl _ _) tn (by show Rep tw H (.int _) _;rw[Rep])⟩
 | [.tup xs,.tup ys],e =>
  have e:(if xs.length+ys.length<=big then some (T.tup (xs++ys),Md.fz) else none)=some (t,m):=e;split at e
  ·rename_i hb;cases e;obtain⟨v,w,rfl,r1,r2⟩:=aB6 rt;obtain⟨a,va,rfl,ea,xa⟩:=aBx r1;obtain⟨b,vb,rfl,eb,xb⟩:=aBx r2;obtain⟨u1,u2,rfl,q1,q2⟩:=rv.two;cases q1;cases q2;obtain⟨its,r1',p1,_⟩:=I.tuple (SqT.of (K:=X.K) ea);obtain⟨its2,r2',p2,_⟩:=I.tuple (SqT.of (K:=X.K) eb);obtain⟨⟨cls,dd,data,sl⟩,ho,hc,n1,hd⟩:=id p1;obtain⟨⟨cls2,dd2,data2,sl2⟩,ho2,hc2,n2,hd2⟩:=id p2;simp only at hc hd hc2 hd2;subst hc hd hc2 hd2;have l1:=xa.length;have l2:=xb.length;have l3:=r1'.length;have l4:=r2'.length;by_cases h0:its = []
   ·refine concat_meets ⟨_,ho,rfl⟩ ⟨_,ho2,rfl⟩ noFill_tuple_add seq_tuple_add PySem.F.slot_tuple_add PySem.F.entry_tuple_add (PySem.F.args_tuple_add_2 _ _) (tuple_addW0 a b its.toArray its2.toArray n1 n2 dd dd2 sl sl2 (by simp[h0])) ⟨ho,ho2,?_⟩;have:xs = []:=ft (by rw[l1,l3,h0];rfl);subst this;exact⟨.ref b,H,I,rfl,k _ H (.refl _ _) tn (aEs eb xb)⟩
   ·by_cases h1:its2 = []
    ·refine concat_meets ⟨_,ho,rfl⟩ ⟨_,ho2,rfl⟩ noFill_tuple_add seq_tuple_add PySem.F.slot_tuple_add PySem.F.entry_tuple_add (PySem.F.args_tuple_add_2 _ _) (tuple_addW1 a b its.toArray its2.toArray n1 n2 dd dd2 sl sl2 (by simpa using h0) (by simp[h1])) ⟨ho,ho2,?_⟩;have:ys = []:=ft (by rw[l2,l4,h1];rfl);subst this;rw[gX] at k;exact⟨.ref a,H,I,rfl,k _ H (.refl _ _) tn (aEs ea xa)⟩
    ·refine concat_meets ⟨_,ho,rfl⟩ ⟨_,ho2,rfl⟩ noFill_tuple_add seq_tuple_add PySem.F.slot_tuple_add PySem.F.entry_tuple_add (PySem.F.args_tuple_add_2 _ _) (tuple_addW2 a b its.toArray its2.toArray n1 n2 dd dd2 sl sl2 (by simpa using h0) (by simpa using h1) (by rw[aj,aj,<-l3,<-l4,<-l1,<-l2];exact aDl hb)) ⟨ho,ho2,?_⟩;have ee:its.toArray++its2.toArray=(its++its2).toArray:=by simp
     rw[ee];have hp:H s.heap.objs.size=none:=I.hok.fresh (ae _);refine⟨.ref s.heap.objs.size,_,I.laid (t':=s.toks) (o:=.tup (va++vb)) (fun b ob q=>aa _ q) (ae _) ⟨by rw[bp,<-l1,<-l2];exact aDl hb,_,r1'.append r2',aEg.new _ _⟩,rfl,k _ _ (.new hp) (tn.new hp) (aEs aAq ((Reps.mono (.new hp) _ _ xa).append (Reps.mono (.new hp) _ _ xb)))⟩
  ·cases e
 | [.lst xs,.lst ys],e =>
  have e:(if xs.length+ys.length<=big then some (T.lst (xs++ys),Md.own) else none)=some (t,m):=e;split at e
  ·rename_i hb;cases e;obtain⟨v,w,rfl,r1,r2⟩:=aB6 rt;obtain⟨a,va,rfl,ea,xa⟩:=r1;obtain⟨b,vb,rfl,eb,xb⟩:=r2;obtain⟨u1,u2,rfl,q1,q2⟩:=rv.two;cases q1;cases q2;obtain⟨its,r1',⟨⟨cls,dd,data,sl⟩,n1,ho,hc,_,hd⟩,_⟩:=I.list ea.sq;obtain⟨its2,r2',⟨⟨cls2,dd2,data2,sl2⟩,n2,ho2,hc2,_,hd2⟩,_⟩:=I.list eb.sq;simp only at hc hd hc2 hd2;subst hc hd hc2 hd2;have l1:=xa.length;have l2:=xb.length;have l3:=r1'.length;have l4:=r2'.length;refine concat_meets ⟨_,ho,rfl⟩ ⟨_,ho2,rfl⟩ noFill_list_add seq_list_add PySem.F.slot_list_add PySem.F.entry_list_add (PySem.F.args_list_add_2 _ _) (list_addW a b its.toArray its2.toArray n1 n2 dd dd2 sl sl2 (by rw[aj,aj,<-l3,<-l4,<-l1,<-l2];exact aDl hb)) ⟨ho,ho2,?_⟩;have ee:its.toArray++its2.toArray=(its++its2).toArray:=by simp
   rw[ee];have hp:H s.heap.objs.size=none:=I.hok.fresh (ae _);exact⟨.ref _,_,I.lnew (t':=s.toks) (r1'.append r2') (by rw[bp,<-l1,<-l2];exact aDl hb),rfl,k _ _ (.new hp) (tn.new hp) ⟨_,rfl,hp,_,aAq,(Reps.mono (.new hp) _ _ xa).append (Reps.mono (.new hp) _ _ xb)⟩⟩
  ·cases e
theorem aFa:PrS X tw (fun us=>call (.builtin "len") us) pLen:=by
 intro B pins s σ H vs us ts n t m Q I rv rt tn e k;have num:∀ (i:Int),Val X.K B tw H H (.int i) .fz (.int i):=fun i=>by show Rep tw H (.int i) _;rw[Rep]
 match ts,e with
 | [.lst xs],e =>
  cases e;obtain⟨v,rfl,a,va,rfl,ea,xa⟩:=aA9 rt;exact aNd pins s σ H _ us Q I rv ⟨_,va.length,rfl,.inl ⟨va,ea.sq,rfl⟩,by rw[<-xa.length];exact k _ H (.refl _ _) tn (num _)⟩
 | [.tup xs],e =>
  cases e;obtain⟨v,rfl,r⟩:=aA9 rt;obtain⟨a,va,rfl,ea,xa⟩:=aBx r;exact aNd pins s σ H _ us Q I rv ⟨_,va.length,rfl,.inr ⟨va,SqT.of ea,rfl⟩,by rw[<-xa.length];exact k _ H (.refl _ _) tn (num _)⟩
 | [.dic kvs],e =>
  cases e;obtain⟨v,rfl,a,va,rfl,_,ea,xa⟩:=aA9 rt;obtain⟨u,rfl,ru⟩:=rv.one;cases ru;exact d_len I ea fun t' s' I'=>⟨.int va.length,H,I',⟨t',rfl⟩,by rw[<-RepK.length xa];exact k _ H (.refl _ _) tn (num _)⟩
 | [.town],e =>
  cases e;obtain⟨v,rfl,r⟩:=aA9 rt;have r:Rep tw H .town v:=r;rw[Rep] at r;subst r;exact aNd pins s σ H _ us Q I rv ⟨_,n,rfl,.inl ⟨_,SqL.of tn,by rw[fk]⟩,k _ H (.refl _ _) tn (num _)⟩
theorem aWa:PrS X tw (fun us=>call (.type "tuple") us) aTt:=by
 intro B pins s σ H vs us ts n t m Q I rv rt tn e k
 match ts,e with
 | [.lst xs],e =>
  cases e;obtain⟨v,rfl,a,va,rfl,ea,xa⟩:=aA9 rt;exact aHo pins s σ H _ us Q I rv ⟨a,va,rfl,.inl ⟨ea.sq,fun l hl=>k _ _ (.new hl) (tn.new hl) (aEs aAq (Reps.mono (.new hl) _ _ xa))⟩⟩
 | [.tup xs],e =>
  cases e;obtain⟨v,rfl,r⟩:=aA9 rt;obtain⟨a,va,rfl,ea,xa⟩:=aBx r;exact aHo pins s σ H _ us Q I rv ⟨a,va,rfl,.inr ⟨SqT.of ea,k _ H (.refl _ _) tn (aEs ea xa)⟩⟩
def aFx:T->Option (List T)
 |.lst xs=>some xs
 |.tup xs=>some xs
 |.dic kvs=>some (kvs.map fun kv=>keyT kv.1)
 |_=>none
theorem aZr(hh:A'.handled=none)(I:Inv X pins σ H s)(r:Root X.K tw H t v)(rv:RelV v u)(h:aFx t=some xs) :
  wpAny ZC A' (pyIter u) (fun it s₂=>∃Ia fp wr P St,it = .ref Ia/\Walks X.prog X.w A' Ia fp wr xs.length P St/\St 0 s₂.heap/\(∀b∈fp,b<s₂.heap.objs.size)/\(∀i u,P i u->∃v x,RelV v u/\xs[i]?=some x/\Rep tw H x v) /\
   ∀h' tk,(∀b o,b∉wr->s₂.heap.get? b=some o->h'.get? b=some o)->Inv X pins σ H { s₂ with heap:=h',toks:=tk }) E s:=by
 have fin:∀ {o:Obj} {h':Heap} {tk:Nat},(∀b o',b ∉ [s.heap.objs.size]->(s.heap.push o).get? b=some o'->h'.get? b=some o')->Inv X pins σ H { s with heap:=h',toks:=tk }:=fun {o h' tk} kp =>
  I.kept fun b o' e=>kp b o' (by simp;exact az (ai e)) (aa _ e)
 have item:∀ {us:List Value} {vs:List V} {ys:List T},Vals vs us->Reps tw H ys vs->∀ (i:Nat) (w:Value),us.toArray[i]?=some w->∃v x,RelV v w/\ys[i]?=some x/\Rep tw H x v:=fun {us vs ys} rv rs i w e=>by
  have e:us[i]?=some w:=by simpa using e
  have hi:i<us.length:=(bh.mp e).1;obtain⟨v,h1,h2⟩:=aH1 rs rv hi;have hi2:i<ys.length:=by rw[rs.length,rv.length];exact hi
  refine⟨v,ys[i],?_,by simp[hi2],?_⟩
  ·have:=(bh.mp e).2;rw[<-this];exact h2
  ·rw[bw,ba hi2] at h1;exact h1
 cases t with
 | lst ys =>
  cases h;obtain⟨a,vs,rfl,e,q⟩:=r;cases rv;obtain⟨its,rv,p,hz⟩:=I.list e.sq;have ha:a≠s.heap.objs.size:=az (let ⟨o,ho,_⟩:=p.isList;ai ho);refine wpAny_pyIter_list p.isList ⟨s.heap.objs.size,[s.heap.objs.size,a],[s.heap.objs.size],fun i v=>its.toArray[i]?=some v,fun i h=>h.IsListIter s.heap.objs.size a i/\h.IsList a its.toArray,rfl,?_,⟨⟨_,au _ rfl,rfl,rfl⟩,p.isList.push _⟩,fun b hb=>?_,item rv q,fun h' tk kp=>fin kp⟩
  ·have:=Walks.list (prog:=X.prog) (w:=X.w) hh s.heap.objs.size a ha its.toArray;rw[show its.toArray.size=xs.length by rw[aj,<-rv.length,<-q.length]] at this;exact this
  ·rw[dy];simp at hb;rcases hb with rfl |rfl
   ·exact iQ _
   ·exact fj (let ⟨o,ho,_⟩:=p.isList;ai ho)
 | tup ys =>
  cases h;obtain⟨a,vs,rfl,e,q⟩:=aBx r;cases rv;obtain⟨its,rv,p,hz⟩:=I.tuple (SqT.of (K:=X.K) e);have p:s.heap.IsTuple a its.toArray:=p;have ha:a≠s.heap.objs.size:=az (let ⟨o,ho,_⟩:=p;ai ho);refine wpAny_pyIter_tuple p ⟨s.heap.objs.size,[s.heap.objs.size,a],[s.heap.objs.size],fun i v=>its.toArray[i]?=some v,fun i h=>h.IsTupleIter s.heap.objs.size a i/\h.IsTuple a its.toArray,rfl,?_,⟨⟨_,au _ rfl,rfl,rfl⟩,let ⟨o,ho,r⟩:=p;⟨o,aa _ ho,r⟩⟩,fun b hb=>?_,item rv q,fun h' tk kp=>fin kp⟩
  ·have:=Walks.tuple (prog:=X.prog) (w:=X.w) hh s.heap.objs.size a ha its.toArray;rw[show its.toArray.size=xs.length by rw[aj,<-rv.length,<-q.length]] at this;exact this
  ·rw[dy];simp at hb;rcases hb with rfl |rfl
   ·exact iQ _
   ·exact fj (let ⟨o,ho,_⟩:=p;ai ho)
 | dic kvs =>
  cases h;obtain⟨a,ws,rfl,na,e,q⟩:=r;cases rv;obtain⟨z,hd,us,rel,dd⟩:=aFt I.hok e;obtain⟨ep,da⟩:=dd.dictAt;have hl:ws.length=us.length:=Paired.length rel;have ha:a≠s.heap.objs.size:=az da.lt_size;refine wpAny_pyIter_dict hd da ⟨s.heap.objs.size,[s.heap.objs.size,a],[s.heap.objs.size],fun i v=>∃k x,us[i]?=some (k,x)/\(aA6 X.prog X.w).is k v=true,fun i h=>h.IsKeyIter s.heap.objs.size a i us.length ep/\h.DictAt (aA6 X.prog X.w) a us ep,rfl,?_,⟨⟨_,au _ rfl,rfl,rfl⟩,da.push _⟩,fun b hb=>?_,fun i w hp=>?_,fun h' tk kp=>fin kp⟩
  ·have:=Walks.dictKeys (prog:=X.prog) (w:=X.w) (knd:=aA6 X.prog X.w) hh s.heap.objs.size a ha us ep;have hk:us.length=(kvs.map fun kv=>keyT kv.1).length:=by rw[ak,RepK.length q,hl]
   rw[<-hk];exact this
  ·rw[dy];simp at hb;rcases hb with rfl |rfl
   ·exact iQ _
   ·exact fj da.lt_size
  ·obtain⟨k,x,h1,h2⟩:=hp;refine⟨kV k,keyT k,aVk h2,?_,aMw k⟩;rw[cg];have hi:i<us.length:=(bh.mp h1).1;have hi2:i<kvs.length:=by rw[RepK.length q,hl];exact hi
   obtain⟨v,g1,_⟩:=aJr (k:=kvs[i].1) (t:=kvs[i].2) q (show kvs[i]?=some (kvs[i].1,kvs[i].2) by simp[hi2]);obtain⟨u',g2⟩:=aZx rel g1;rw[h1] at g2;have:k=kvs[i].1:=by injection g2 with g2;injection g2
   rw[ba hi2];show some (keyT kvs[i].1)=some (keyT k);rw[this]
 |_=>cases h
theorem aC2:∀ {xs:List T} {ns:List Int},intsOf xs=some ns->xs=ns.map T.int
 |[],_,h=>by cases h;rfl
 |.int i::r,ns,h=>by obtain⟨ms,h1,h2⟩:=map_some (show (intsOf r).map (i :: ·)=some ns from h);subst h2;rw[af,aC2 h1]
 |.non::_,_,h=>by cases h
 |.bl _::_,_,h=>by cases h
 |.str _::_,_,h=>by cases h
 |.tup _::_,_,h=>by cases h
 |.lst _::_,_,h=>by cases h
 |.dic _::_,_,h=>by cases h
 |.town::_,_,h=>by cases h
theorem aKw:∀ {kvs:List (Key × T)} {ns:List Int},intKeys kvs=some ns->(kvs.map fun kv=>keyT kv.1)=ns.map T.int
 |[],_,h=>by cases h;rfl
 |(.inl k,x)::r,ns,h=>by obtain⟨ms,h1,h2⟩:=map_some (show (intKeys r).map (k :: ·)=some ns from h);subst h2;rw[af,af,aKw h1];rfl
 |(.inr k,x)::r,ns,h=>by cases h
theorem aMi{ns:List Int}{i:Nat}(h:∃v x,RelV v u/\(ns.map T.int)[i]?=some x/\Rep tw H x v):∃t,u = .int (ns.getD i 0) t:=by
 obtain⟨v,x,h1,h2,h3⟩:=h;rw[cg] at h2;cases e:ns[i]? with
 |none=>rw[e] at h2;cases h2
 | some z =>
  rw[e] at h2;have h2:T.int z=x:=Option.some.inj h2;subst h2;rw[Rep] at h3;subst h3;obtain⟨t,rfl⟩:=h1;refine⟨t,?_⟩;rw[bw,e];rfl
theorem aY5(lt:Int->Int->Bool)(ns:List Int):∀ (m:Nat),m<ns.length->ns.getD (argBest (fun i j=>lt (ns.getD i 0) (ns.getD j 0)) m) 0=((ns.take (m+1)).tail).foldl (fun a b=>if lt b a then b else a) (ns.getD 0 0):=by
 intro m
 induction m with
 | zero =>
  intro h;cases ns with
  |nil=>simp at h
  |cons x xs=>rfl
 | succ m ih =>
  intro h;have ih:=ih (by omega);have e:(ns.take (m+1+1)).tail=(ns.take (m+1)).tail ++ [ns.getD (m+1) 0]:=by
   cases ns with
   |nil=>simp at h
   | cons x xs =>
    rw[j6,j6,List.tail_cons,List.tail_cons];have h':m<xs.length:=by simpa using h
    rw[List.take_succ,ba h',bw,iW,ba h'];rfl
  rw[e,jj,<-ih];show ns.getD (if lt (ns.getD (m+1) 0) (ns.getD (argBest (fun i j=>lt (ns.getD i 0) (ns.getD j 0)) m) 0)=true then m+1 else argBest (fun i j=>lt (ns.getD i 0) (ns.getD j 0)) m) 0=_;rw[gM,List.foldl_nil];split<;>rfl
theorem aX8{i:Int}(h:least ns=some i):0<ns.length/\ns.getD (argBest (fun i j=>decide (ns.getD i 0<ns.getD j 0)) (ns.length - 1)) 0=i:=by
 cases ns with
 |nil=>cases h
 | cons x xs =>
  refine⟨Nat.succ_pos _,?_⟩;have:=aY5 (fun a b=>decide (a<b)) (x::xs) xs.length (iQ _);show (x::xs).getD (argBest _ (xs.length+1 - 1)) 0=i;rw[Nat.add_sub_cancel];refine Eq.trans this ?_;rw[show (x::xs).take (xs.length+1)=x::xs from gi (ae _)];have h:xs.foldl (fun a b=>if b<a then b else a) x=i:=Option.some.inj h;rw[<-h];show xs.foldl (fun a b=>if decide (b<a)=true then b else a) x=_;simp only[decide_eq_true_eq]
theorem aZz{i:Int}(hh:X.A.handled=none)(I:Inv X pins σ H s)(r:Root X.K tw H t v)(rv:RelV v u)(h:aFx t=some xs)(hx:xs=ns.map T.int)(hl:least ns=some i)(q:Q (.int i) H) :
  wpAny ZC X.A (call (.builtin "min") [u]) (EP X pins σ Q) X.xe s:=by
 subst hx;obtain⟨h0,hb⟩:=aX8 hl;refine call_min_walk (thn (aZr (A':=X.A.in1) hh I r rv h) fun it s₂ ⟨Ia,fp,wr,P,St,e,W,st,hfp,hP,fin⟩=>?_);refine⟨Ia,fp,wr,_,P,St,_,e,W,st,hfp,by simpa using h0,CmpOf.ints_lt (fun i=>ns.getD i 0) fun i v hv=>aMi (hP i v hv),fun v' h' tk hv kp=>?_⟩;obtain⟨tk',rfl⟩:=aMi (hP _ _ hv);rw[ak];exact⟨.int i,H,fin h' tk kp,⟨tk',by rw[hb]⟩,q⟩
theorem pr_min(hc:X.calm=true):PrS X tw (fun us=>call (.builtin "min") us) pMin:=by
 intro B pins s σ H vs us ts n t m Q I rv rt tn e k;have num:∀ (i:Int),Val X.K B tw H H (.int i) .fz (.int i):=fun i=>by show Rep tw H (.int i) _;rw[Rep]
 have hh:=I.ok.hd hc
 match ts,e with
 | [.lst xs],e =>
  obtain⟨ns,e1,e2⟩:=bind_some (show (intsOf xs).bind _=_ from e);obtain⟨i,e3,e4⟩:=map_some e2;cases e4;obtain⟨v,rfl,r⟩:=aA9 rt;obtain⟨u,rfl,ru⟩:=rv.one;exact aZz hh I r ru rfl (aC2 e1) e3 (k _ H (.refl _ _) tn (num i))
 | [.dic kvs],e =>
  obtain⟨ns,e1,e2⟩:=bind_some (show (intKeys kvs).bind _=_ from e);obtain⟨i,e3,e4⟩:=map_some e2;cases e4;obtain⟨v,rfl,r⟩:=aA9 rt;obtain⟨u,rfl,ru⟩:=rv.one;exact aZz hh I r ru rfl (aKw e1) e3 (k _ H (.refl _ _) tn (num i))
 | [.int a,.int b],e =>
  cases e;obtain⟨v,w,rfl,r1,r2⟩:=aB6 rt;obtain rfl:=aBb r1;obtain rfl:=aBb r2;exact aZw hc pins s σ H _ us Q I rv ⟨a,b,rfl,k _ H (.refl _ _) tn (num _)⟩
theorem aWq(ns:List Int):∀ (m:Nat),m<=ns.length->preSum (fun i=>ns.getD i 0) m=sumI (ns.take m):=by
 have app:∀ (a b:List Int),sumI (a++b)=sumI a+sumI b:=fun a b=>by
  induction a with
  |nil=>simp[sumI]
  |cons x xs ih=>rw[jO,sumI,ih,sumI];lia
 intro m
 induction m with
 |zero=>intro _;rfl
 | succ m ih =>
  intro h;have h':m<ns.length:=h;rw[preSum,ih (d7 h'),List.take_succ,ba h',app,bw,ba h'];simp[sumI]
theorem aKg:∀ {xs:List T} {bs:List Bool},boolsOf xs=some bs->xs=bs.map T.bl
 |[],_,h=>by cases h;rfl
 |.bl i::r,ns,h=>by obtain⟨ms,h1,h2⟩:=map_some (show (boolsOf r).map (i :: ·)=some ns from h);subst h2;rw[af,aKg h1]
 |.non::_,_,h=>by cases h
 |.int _::_,_,h=>by cases h
 |.str _::_,_,h=>by cases h
 |.tup _::_,_,h=>by cases h
 |.lst _::_,_,h=>by cases h
 |.dic _::_,_,h=>by cases h
 |.town::_,_,h=>by cases h
theorem aXo:∀bs:List Bool,((List.range bs.length).all fun i=>bs.getD i false)=bs.all id
 |[]=>rfl
 |b::bs=>by rw[ah,jV,ej,iC,ej,<-aXo bs];rfl
theorem aUu(hc:X.calm=true):PrS X tw (fun us=>call (.builtin "all") us) pAll:=by
 intro B pins s σ H vs us ts n t m Q I rv rt tn e k;have hh:=I.ok.hd hc
 match ts,e with
 | [.lst xs],e =>
  obtain⟨bs,e1,e2⟩:=map_some (show (boolsOf xs).map _=_ from e);cases e2;obtain rfl:=aKg e1;obtain⟨v,rfl,r⟩:=aA9 rt;obtain⟨u,rfl,ru⟩:=rv.one;refine call_all_walk (thn (aZr (A':=X.A.in1) hh I r ru rfl) fun it s₂ ⟨Ia,fp,wr,P,St,e,W,st,hfp,hP,fin⟩=>?_);refine⟨Ia,fp,wr,_,P,St,fun i=>bs.getD i false,e,W,st,fun i v s' Q' E' hv q'=>?_,fun h' tk kp=>?_⟩
  ·obtain⟨v',x,h1,h2,h3⟩:=hP i v hv;rw[cg] at h2;cases e:bs[i]? with
   |none=>rw[e] at h2;cases h2
   | some z =>
    rw[e] at h2;have h2:T.bl z=x:=Option.some.inj h2;subst h2;rw[Rep] at h3;subst h3;cases h1;have:bs.getD i false=z:=by rw[bw,e];rfl
    exact wpAny_truthy_bool (show Q' z s' from this▸q')
  ·rw[ak,aXo bs];exact⟨.bl _,H,fin h' tk kp,rfl,k _ H (.refl _ _) tn (by show Rep tw H (.bl _) _;rw[Rep])⟩
theorem at_atI{i:Int}(r:Reps tw H xs vs)(h:at? xs i=some t):∃v,atI vs i=some v/\Rep tw H t v:=by
 have hl:=r.length;unfold at? at h;unfold atI ixN;by_cases h0:0<=i
 ·rw[if_pos h0] at h |-;by_cases h1:i<xs.length
  ·rw[if_pos h1] at h;rw[if_pos (by rw[<-hl];exact h1)];obtain⟨v,e1,e2⟩:=r.get h;exact⟨v,e1,e2⟩
  ·rw[if_neg h1] at h;cases h
 ·rw[if_neg h0] at h |-;by_cases h1:-(xs.length:Int)<=i
  ·rw[if_pos h1] at h;rw[if_pos (by rw[<-hl];exact h1)];obtain⟨v,e1,e2⟩:=r.get h;exact⟨v,by rw[<-hl];exact e1,e2⟩
  ·rw[if_neg h1] at h;cases h
theorem aB9(hu:X.A.units+1<cLine)(value slice:Expr)(hs:∀v u,subscripted slice false v u=operate [v,u] (getItem v u)):PrS X tw (two fun v u=>subscriptTail value slice v u) pGet:=by
 intro B pins s σ H vs us ts n t m Q I rv rt tn e k
 match ts,e with
 | [.lst xs,.int i],e =>
  obtain⟨t0,e1,e2⟩:=map_some (show (at? xs i).map _=_ from e);cases e2;obtain⟨v,w,rfl,r1,r2⟩:=aB6 rt;obtain rfl:=aBb r2;obtain⟨a,va,rfl,ea,xa⟩:=r1;obtain⟨u1,u2,rfl,q1,q2⟩:=rv.two;obtain⟨x,h1,h2⟩:=at_atI xa e1;exact ix_list value slice pins s σ H _ _ u1 u2 Q I q1 q2 ⟨a,va,i,x,rfl,rfl,ea.sq,h1,k _ H (.refl _ _) tn h2⟩ (hs _ _)
 | [.tup xs,.int i],e =>
  obtain⟨t0,e1,e2⟩:=map_some (show (at? xs i).map _=_ from e);cases e2;obtain⟨v,w,rfl,r1,r2⟩:=aB6 rt;obtain rfl:=aBb r2;obtain⟨a,va,rfl,ea,xa⟩:=aBx r1;obtain⟨u1,u2,rfl,q1,q2⟩:=rv.two;obtain⟨x,h1,h2⟩:=at_atI xa e1;exact ix_tup value slice pins s σ H _ _ u1 u2 Q I q1 q2 ⟨a,va,i,x,rfl,rfl,SqT.of ea,h1,k _ H (.refl _ _) tn h2⟩ (hs _ _)
 | [.dic kvs,kt],e =>
  obtain⟨ky,e1,e2⟩:=bind_some (show (keyOf kt).bind _=_ from e);obtain⟨t0,e3,e4⟩:=map_some e2;cases e4;obtain⟨v,w,rfl,r1,r2⟩:=aB6 rt;obtain rfl:=aVw e1 r2;obtain⟨a,ws,rfl,_,ea,xa⟩:=r1;obtain⟨u1,u2,rfl,q1,q2⟩:=rv.two;cases q1;rcases RepK.at ky xa with ⟨z,_⟩ |⟨t1,x,h1,h2,h3⟩
  ·rw[e3] at z;cases z
  ·rw[e3] at h1;cases h1;have g:DGet H a (kV ky) (some x):=.inl ⟨ws,ky,ea,rfl,h2.symm⟩;exact tail_any (ops:=[.ref a,u2]) (aVo I g) PySem.F.slot_dict_getitem.lookup (aZ5 hu I g q2 fun w' s' I' rw'=>⟨x,H,I',rw',k _ H (.refl _ _) tn h3⟩) (hs _ _)
def SO(X:Cx)(tw:Addr)(e:Option Expr)(d:DO):Prop:=∀B ρ n i n',d ρ n=some (i,n')->PO X e (fun σ H Q=>Rel X.K B tw ρ n σ H/\∀H',Ext tw H H'->Tn tw n' H'->Q i H')
theorem aKk:SO X tw none aLg:=by intro B ρ n i n' hd pins s σ H Q I ⟨R,k⟩;cases hd;exact po_none pins s σ H Q I (k H (.refl _ _) R.tn)
theorem aJ8(h:SE X tw e d):SO X tw (some e) (aLn d):=by
 intro B ρ n i n' hd pins s σ H Q I ⟨R,k⟩;obtain⟨⟨t,m,n1⟩,e1,e2⟩:=bind_some hd;cases t with
 | int j =>
  cases e2;refine po_some (h B ρ n _ m n1 e1) pins s σ H Q I ⟨R,fun v H' x y z=>?_⟩;obtain rfl:=aBb (z.root (R.mono x y) R.tn);exact⟨j,rfl,k H' x y⟩
 |_=>cases e2
theorem aEe(n d:Nat)(o:Option Int):bound n d o=HT.sIx n d o:=by cases o<;>rfl
theorem aNa{o e f:Expr}{d0 de df:DE}{apos cpos:Pos}(hu:X.A.units+1<cLine)(ho:SE X tw o d0)(he:SE X tw e de)(hf:SE X tw f df)(m:M2 X o "get" apos e f cpos):SE X tw (.Call (.Attribute o "get" apos) [e,f] [] cpos) (dPr aFu (aAa d0 (aAa de (aAa df dNil)))):=by
 intro B ρ n t mm n' hd pins s σ H Q I ⟨R,k⟩;obtain⟨to,mo,no,te,me,ne,tf,mf,f1,g1,h1,e3⟩:=pr3_inv hd;refine pe_dget2 hu (ho B ρ n to mo no f1) (he B ρ no te me ne g1) (hf B ρ ne tf mf n' h1) m pins s σ H Q I ⟨R,fun v H1 x1 y1 z1=>?_⟩;have R1:=R.mono x1 y1;cases to with
 | dic kvs =>
  have e3:(if aDx tf then none else (keyOf te).map fun k=>((aFi kvs k).getD tf,Md.fz))=some (t,mm):=e3;split at e3
  ·cases e3
  ·rename_i hb;obtain⟨ky,q1,q2⟩:=map_some e3;cases q2;have rt:=z1.root R1 R.tn;obtain⟨a,ws,rfl,na,ea,xa⟩:=id rt;refine⟨a,rfl,.inl ⟨ws,ea⟩,R1,fun v2 H2 x2 y2 z2=>?_⟩;have R2:=R1.mono x2 y2;refine⟨R2,fun v3 H3 x3 y3 z3=>?_⟩;have R3:=R2.mono x3 y3;obtain rfl:=aVw q1 (z2.root R2 R1.tn);have x13:=x2.trans x3;obtain⟨a',ws',ea',_,eb,xb⟩:=Root.ext R1.tn x13 rt;cases ea';refine⟨valV ws' ky,.inl ⟨ws',ky,eb,rfl,rfl⟩,k _ H3 (x1.trans x13) y3 ?_⟩;rcases RepK.at ky xb with ⟨c1,c2⟩ |⟨t,x,c1,c2,c3⟩
   ·rw[c1,c2];exact(z3.root R3 R2.tn).rep (by simpa using hb)
   ·rw[c1,c2];exact c3
 |_=>cases e3
def tyName:Ty->String
 |.int=>"int"
 |.bool=>"bool"
 |.list=>"list"
 |.tuple=>"tuple"
 |.str=>"str"
 |.dict=>"dict"
def kindName:T->String
 |.non=>"NoneType"
 |.bl _=>"bool"
 |.int _=>"int"
 |.str _=>"str"
 |.tup _=>"tuple"
 |.lst _=>"list"
 |.dic _=>"dict"
 |.town=>"list"
 |.ob _=>"object"
 |.gs _ _=>"object"
 |.rdc _=>"object"
theorem kit_ty(K:W.Frag)(k:Ty)(t:T)(b:Bool)(h:isTy k t=some b):W.kitOne K (.type (kindName t)) (.type (tyName k))=some b:=by cases k<;>cases t<;>first |(cases h;done) |(cases h;first |rfl |decide +kernel |kernel_rfl)
theorem isi_root{b:Bool}(I:Inv X pins σ H s)(r:Root X.K tw H t v)(rv:RelV v u)(ht:t ≠ .town)(ha:∀a,t ≠ .ob a)(hgs:∀a b,t ≠ .gs a b)(hrd:∀a,t ≠ .rdc a)(e:W.kitOne X.K (.type (kindName t)) c=some b)(h:∀tk,Q (.bool b) { s with toks:=tk }) :
  wpAny ZC X.A (call (.builtin "isinstance") [u,c]) Q X.xe s:=by
 cases t with
 |non=>have r:Rep tw H .non v:=r;rw[Rep] at r;subst r;exact aF4 I rv .non e h
 |bl b=>have r:Rep tw H (.bl b) v:=r;rw[Rep] at r;subst r;exact aF4 I rv (.bl b) e h
 |int i=>have r:Rep tw H (.int i) v:=r;rw[Rep] at r;subst r;exact aF4 I rv (.int i) e h
 |str x=>have r:Rep tw H (.str x) v:=r;rw[Rep] at r;subst r;exact aF4 I rv (.str x) e h
 |tup xs=>obtain⟨a,vs,rfl,ea,q⟩:=aBx r;exact aF4 I rv (.tup ea) e h
 |town=>exact absurd rfl ht
 |ob a=>exact absurd rfl (ha a)
 |gs a b=>exact absurd rfl (hgs a b)
 |rdc a=>exact absurd rfl (hrd a)
 | lst xs =>
  obtain⟨a,vs,rfl,ea,q⟩:=r;cases rv;obtain⟨its,_,⟨o,n,ho,hc,_⟩,_⟩:=I.list ea.sq;exact W.kia_one W.kitx_list I.kIn ⟨o,ho,hc⟩ e (fun z=>nomatch z) h
 | dic kvs =>
  obtain⟨a,ws,rfl,_,ea,q⟩:=r;cases rv;obtain⟨_,_,vs,_,o,es,ep,h1,h2,_⟩:=aFt I.hok ea;exact W.kia_one W.kitx_dict I.kIn ⟨o,h1,h2.1⟩ e (fun z=>nomatch z) h
theorem aFq{e:Expr}{d:DE}{k:Ty}{T':Str}{p pT pos:Pos}(h:SE X tw e d)(hm:X.mg "isinstance" = none)(hT:X.mg T'=none)(hv:bootBuiltins T'=some (.type (tyName k)))(hg:autoParam (Gl X "isinstance") az0._auto_1)(hgT:autoParam (Gl X T') az0._auto_1)(hn:autoParam (T' ≠ "__name__") az1._auto_1)(hdb:autoParam ((T'==("__debug__" : Str))=false) az1._auto_1)
  (he:autoParam (starEach [e,.Name T' pT] X.env=(false,eval e X.env)::starEach [.Name T' pT] X.env) az0._auto_1) (he2:autoParam (starEach [.Name T' pT] X.env=(false,eval (.Name T' pT) X.env)::starEach [] X.env) az0._auto_1) (hpl:autoParam ((backTo pos (starEach [.Name T' pT] X.env)).any (·.1)=false) az0._auto_1) (hb:bootBuiltins "isinstance" = some (.builtin "isinstance"):=by decide +kernel) :
  SE X tw (.Call (.Name "isinstance" p) [e,.Name T' pT] [] pos) (dPr (pIsI k) (aAa d dNil)):=by
 intro B ρ n t m n' hd pins s σ H Q I ⟨R,kk⟩;obtain⟨t0,m0,f1,e3⟩:=aKy hd;obtain⟨b,g1,g2⟩:=map_some (show (isTy k t0).map _=_ from e3);cases g2;refine wpAny_Call_Name_kw (aFs I hg hm hb ?_ ZA ZA);refine PyProof.Rows.callWith_builtin1 ?_ he hpl;rw[he];show wpAny _ _ (spliced ((false,eval e X.env)::backTo pos (starEach [.Name T' pT] X.env))) _ _ s;refine br (thn (h.run f1 I R) fun u s1 ⟨v,H1,I1,r1,a1,R1,c1⟩=>?_);rw[he2];show wpAny _ _ (spliced ((false,eval (.Name T' pT) X.env)::backTo pos (starEach [] X.env))) _ _ s1;refine br (aFs I1 hgT hT hv (dq ?_) hn hdb);refine isi_root I1 (c1.root R1 R.tn) r1 (fun z=>by subst z;cases k<;>cases g1) (fun a z=>by subst z;cases k<;>cases g1) (fun a b z=>by subst z;cases k<;>cases g1) (fun a z=>by subst z;cases k<;>cases g1) (kit_ty X.K k t0 b g1) fun tk=>?_;exact⟨.bl b,H1,I1.tok tk,rfl,kk _ H1 a1 R1.tn (by show Rep tw H1 (.bl b) _;rw[Rep])⟩
theorem aDw(hu:X.A.units<cLine):∀ (pins:List ZH) (s:Shared) (σ:St) (H:Hp) (a b:Addr) (ws:List (Key × V)) (Q:Value->Shared->Prop),Inv X pins σ H s->Rd H a (.dK ws)->Rd H b (.dK [])->(∀s',Inv X pins σ H s'->Q (.bool ws.isEmpty) s')->wpAny ZC X.A (compareOp .Eq (.ref a) (.ref b)) Q X.xe s:=by
 intro pins s σ H a b ws Q I ea eb k;obtain⟨_,ha,us,ra,da⟩:=aFt I.hok ea;obtain⟨_,hb,us',rb,db⟩:=aFt I.hok eb;cases rb;refine W.keq_eq (r:=true) ha hb da db hu (fun hl=>?_) ?_
 ·obtain rfl:=ft hl;exact .nil
 ·cases ra with
  |nil=>exact k s I
  |cons _ _=>exact k s I
theorem aEh(hu:X.A.units<cLine):∀ (pins:List ZH) (s:Shared) (σ:St) (H:Hp) (a b:Addr) (ws:List (Key × V)) (Q:Value->Shared->Prop),Inv X pins σ H s->Rd H a (.dK ws)->Rd H b (.dK [])->(∀s',Inv X pins σ H s'->Q (.bool (!ws.isEmpty)) s')->wpAny ZC X.A (compareOp .NotEq (.ref a) (.ref b)) Q X.xe s:=by
 intro pins s σ H a b ws Q I ea eb k;obtain⟨_,ha,us,ra,da⟩:=aFt I.hok ea;obtain⟨_,hb,us',rb,db⟩:=aFt I.hok eb;cases rb;refine W.keq_ne (r:=true) ha hb da db hu (fun hl=>?_) ?_
 ·obtain rfl:=ft hl;exact .nil
 ·cases ra with
  |nil=>exact k s I
  |cons _ _=>exact k s I
theorem bAt{pos:Pos}:SE X tw (.Dict [] [] pos) aQt:=by intro B ρ n t m n' hd pins s σ H Q I ⟨R,k⟩;cases hd;exact pe_dnewK pins s σ H Q I fun p hp=>k _ _ (.new hp) (R.tn.new hp) ⟨p,rfl,hp,[],aAq,by rw[RepK]⟩
theorem se_dic1{i:Int}{j:Nat}{pi pos:Pos}{e:Expr}{d:DE}(h:SE X tw e d):SE X tw (.Dict [some (.Constant (.int i) j pi)] [e] pos) (dDic1 (dK (.int i)) (dFz d)):=by
 intro B ρ n t m n' hd pins s σ H Q I ⟨R,k⟩;obtain⟨⟨tk,mk,nk⟩,e1,e2⟩:=bind_some hd;cases e1;obtain⟨ky,e3,e4⟩:=bind_some e2;cases e3;obtain⟨⟨tv,mv,nv⟩,e5,e6⟩:=map_some e4;cases e6;obtain rfl:=fz_md e5;refine pe_disp (pps_cons aV9 ((aYn h) B ρ n tv .fz nv e5) pps_nil) rfl rfl ZR ZR pins s σ H Q I fun p hp=>?_;have R1:=R.mono (.new (o:=.dK []) hp) (R.tn.new hp);show rE X.K B tw ρ n tv .fz nv σ (upd H p (.dK [])) _;refine⟨R1,fun v H2 x y z=>?_⟩;have np:p≠tw:=R.tn.ne_none hp;have hp2:H2 p=some (.dK []):=x.to p _ aAq np (fun _ z=>nomatch z);refine⟨hp2,[(.inl i,v)],rfl,by simp,?_⟩;have hB:Fx H2 (upd H2 p (.dK (aL8 [] [(.inl i,v)]))):=fun b=>⟨fun vs q=>by rw[aAn (by rintro rfl;rw[hp2] at q;cases q)];exact q,fun _ _ q=>by rw[aAn (by rintro rfl;rw[hp2] at q;cases q)];exact q⟩
 refine k _ _ (((Ext.new hp).trans x).put hp (fun φ z=>by rw[hp2] at z;cases z)) ?_ ⟨p,rfl,hp,_,aAq,?_⟩
 ·show upd H2 p _ tw=_;rw[aAn np.symm];exact y
 ·show RepK tw _ [(.inl i,tv)] [(.inl i,v)];exact aEz (Rep.mono hB _ _ z) (by rw[RepK])
theorem aJi:fillsNumberSlot (.type "tuple") "mul" = pure false :=
 PySem.fillsNumberSlot_seq (id:="tuple.__mul__") (r:=some (.builtin "tuple.__rmul__")) PySem.F.slot_tuple_mul.lookup (by decide +kernel) PySem.F.slot_tuple_rmul.lookup (by decide +kernel)
theorem aRh:seqRepeat? (.type "tuple")=pure (some (.builtin "tuple.__mul__")):=by unfold seqRepeat?;rw[PySem.seqSlot_of (T:="tuple") (name:="__mul__") (id:="tuple.__mul__") PySem.F.slot_tuple_mul.lookup (by decide +kernel),PySem.seqSlot_of (T:="tuple") (name:="__rmul__") (id:="tuple.__rmul__") PySem.F.slot_tuple_rmul.lookup (by decide +kernel)];rfl
theorem rmul_any(a:Int)(t:Tok)(l:Addr)(items:Array Value)(n:Nat)(dd:Option Addr)(sl:Array (Option Value)) :
  Meets (Builtin.«int.__rmul__» ⟨[.int a t,.ref l],[]⟩) (fun _ R s=>s.heap.get? l=some { cls:=.type "tuple",dict:=dd,data:=.seq items n,slots:=sl }/\R (.ok (.ret Value.notImplemented)) s) :=
 .of_wp fun prog w A R s h=>by obtain⟨hp,g,d,tk,os⟩:=s;obtain⟨hl,h⟩:=h;wp_walk;exact⟨_,rfl,h⟩
theorem aYq(l:Addr)(items:Array Value)(n:Nat)(dd:Option Addr)(sl:Array (Option Value))(x:Int)(u:Tok)(h0:items.isEmpty=false)(h1:(x==1)=false)(h2:¬x<=0)(h3:x<2^63)(h4:items.size*x.toNat<=sizeLine) :
  Meets (Builtin.«tuple.__mul__» ⟨[.ref l,.int x u],[]⟩) (fun _ R s=>s.heap.get? l=some { cls:=.type "tuple",dict:=dd,data:=.seq items n,slots:=sl }/\R (.ok (.ret (Value.ref s.heap.objs.size))) { s with heap:=s.heap.push { cls:=Value.type "tuple",data:=Data.seq (List.foldl (fun x1 x2=>x1++x2) #[] (List.replicate x.toNat items)) },toks:=s.toks }) :=
 .of_wp fun prog w A R s h=>by
  obtain⟨hp,g,d,tk,os⟩:=s;obtain⟨hl,h⟩:=h;have f1:=PySem.AutoSeq1.idx_int
  have e1:¬ (decide (x < -2^63)||decide (x>=2^63))=true:=by simp;lia
  have e2:¬ (items.isEmpty||x==1)=true:=by rw[h0,h1];decide
  have e3:¬ (decide (x<=0)||items.isEmpty)=true:=by rw[h0];simp;lia
  have e0:(items.size:Int)*x<=sizeLine:=by
   have:x=(x.toNat:Int):=by lia
   rw[this];exact_mod_cast h4
  have e4:¬ ↑items.size*x > (2^63 - 1) / 8:=by
   have:((sizeLine:Nat):Int)<=(2^63 - 1) / 8:=by decide
   lia
  have e5:¬Builtin.Tuple.tupleTooMany (↑items.size*x)=true:=by unfold Builtin.Tuple.tupleTooMany;simp;lia
  have e6:¬ (List.foldl (fun x1 x2=>x1++x2) #[] (List.replicate x.toNat items)).size > sizeLine:=by
   have:=foldl_rep items.toList x.toNat []
   rw[gc,gw] at this;have e:(#[]:Array Value)=([]:List Value).toArray:=rfl;rw[e,this,aj,len_rep,iV,bg];lia
  wp_walk using PySem.AutoSeq1.wpAny_loadPart' hl
  rw[if_neg e1]
  wp_walk using PySem.AutoSeq1.wpAny_loadPart' hl
  rw[if_neg e4]
  wp_walk
  exact⟨_,rfl,h⟩
theorem aYp(l:Addr)(items:Array Value)(n:Nat)(dd:Option Addr)(sl:Array (Option Value))(x:Int)(u:Tok)(h1:(items.isEmpty||x==1)=true)(h3:x<2^63)(h4:-(2^63)<=x) :
  Meets (Builtin.«tuple.__mul__» ⟨[.ref l,.int x u],[]⟩) (fun _ R s=>s.heap.get? l=some { cls:=.type "tuple",dict:=dd,data:=.seq items n,slots:=sl }/\R (.ok (.ret (Value.ref l))) s) :=
 .of_wp fun prog w A R s h=>by
  obtain⟨hp,g,d,tk,os⟩:=s;obtain⟨hl,h⟩:=h;have f1:=PySem.AutoSeq1.idx_int
  have e1:¬ (decide (x < -2^63)||decide (x>=2^63))=true:=by simp;lia
  wp_walk using PySem.AutoSeq1.wpAny_loadPart' hl
  rw[if_neg e1]
  wp_walk using PySem.AutoSeq1.wpAny_loadPart' hl
  exact⟨_,rfl,h⟩
theorem aX4(l:Addr)(items:Array Value)(n:Nat)(dd:Option Addr)(sl:Array (Option Value))(x:Int)(u:Tok)(h0:items.isEmpty=false)(h2:x<=0)(h4:-(2^63)<=x) :
  Meets (Builtin.«tuple.__mul__» ⟨[.ref l,.int x u],[]⟩) (fun _ R s=>s.heap.get? l=some { cls:=.type "tuple",dict:=dd,data:=.seq items n,slots:=sl }/\R (.ok (.ret (Value.ref s.heap.objs.size))) { s with heap:=s.heap.push { cls:=Value.type "tuple",data:=Data.seq #[] },toks:=s.toks }) :=
 .of_wp fun prog w A R s h=>by
  obtain⟨hp,g,d,tk,os⟩:=s;obtain⟨hl,h⟩:=h;have f1:=PySem.AutoSeq1.idx_int
  have e1:¬ (decide (x < -2^63)||decide (x>=2^63))=true:=by simp;lia
  have e2:¬ (items.isEmpty||x==1)=true:=by rw[h0];simp;lia
  have e3:(decide (x<=0)||items.isEmpty)=true:=by simp[h2]
  wp_walk using PySem.AutoSeq1.wpAny_loadPart' hl
  rw[if_neg e1]
  wp_walk using PySem.AutoSeq1.wpAny_loadPart' hl
  rw[if_neg e2]
  wp_walk
  exact⟨_,rfl,h⟩
theorem bAr{n:Nat}{x:Int}(hl:s.heap.get? l=some { cls:=.type "tuple",dict:=dd,data:=.seq its.toArray n,slots:=sl })
  (h1:-(2^63)<=x) (h2:x<2^63) (h4:its.length*x.toNat<=sizeLine) (h:(its = []\/x=1)->Q (.ref l) s) (h':Q (.ref s.heap.objs.size) { s with heap:=s.heap.push { cls:=Value.type "tuple",data:=Data.seq (List.replicate x.toNat its).flatten.toArray },toks:=s.toks }) :
  wpAny ZC X.A (binaryOp .Mult (.ref l) (.int x u)) Q X.xe s:=by
 refine wpAny_binaryOp_repeat_ref (T:="tuple") (U:="int") ZA ⟨_,hl,rfl⟩ (fun s'=>typeIs_int s' x u) aJi F.fills_int_mul F.slot_int_rmul aRh F.slot_int_index.lookup
  (call_meets F.slot_int_rmul (typeIs_int s x u) F.entry_int_rmul (F.args_int_rmul_2 _ _) (rmul_any x u l its.toArray n dd sl) ⟨hl,rfl,⟨_,hl,rfl⟩,?_⟩)
 have f0:List.foldl (fun x1 x2=>x1++x2) #[] (List.replicate x.toNat its.toArray)=(List.replicate x.toNat its).flatten.toArray:=by
  have:=foldl_rep its x.toNat []
  rw[gc] at this;exact this
 by_cases c1:its = []\/x=1
 ·refine call_meets F.slot_tuple_mul ⟨_,hl,rfl⟩ F.entry_tuple_mul (F.args_tuple_mul_2 _ _) (aYp l its.toArray n dd sl x u ?_ h2 h1) ⟨hl,h c1⟩;rcases c1 with c |c<;>simp[c]
 ·have c2:its ≠ []:=fun z=>c1 (.inl z);have c3:x≠1:=fun z=>c1 (.inr z);have c0:its.toArray.isEmpty=false:=by cases its with
   |nil=>exact absurd rfl c2
   |cons a r=>simp
  by_cases c4:x<=0
  ·refine call_meets F.slot_tuple_mul ⟨_,hl,rfl⟩ F.entry_tuple_mul (F.args_tuple_mul_2 _ _) (aX4 l its.toArray n dd sl x u c0 c4 h1) ⟨hl,?_⟩;have:x.toNat=0:=by lia
   rw[this] at h';exact h'
  ·refine call_meets F.slot_tuple_mul ⟨_,hl,rfl⟩ F.entry_tuple_mul (F.args_tuple_mul_2 _ _) (aYq l its.toArray n dd sl x u c0 (by simpa using c3) c4 h2 (by rw[aj];exact h4)) ⟨hl,?_⟩;rw[f0];exact h'
theorem aJ5:PrS X tw (two (binaryOp .Mult)) pMul:=by
 intro B pins s σ H vs us ts n t m Q I rv rt tn e k
 match ts,e with
 | [.int a,.int b],e =>
  have e:(if small a||small b then some (T.int (a*b),Md.fz) else none)=some (t,m):=e;split at e
  ·rename_i hs;cases e;obtain⟨v,w,rfl,r1,r2⟩:=aB6 rt;obtain rfl:=aBb r1;obtain rfl:=aBb r2;obtain⟨u1,u2,rfl,q1,q2⟩:=rv.two;have hc:CMul a b:=by
    simp only[small,Bool.or_eq_true,decide_eq_true_eq] at hs;rcases hs with hs |hs
    ·exact .inl ⟨by lia,by lia⟩
    ·exact .inr ⟨by lia,by lia⟩
   exact op_mul pins s σ H _ _ u1 u2 Q I q1 q2 ⟨a,b,rfl,rfl,hc,k _ H (.refl _ _) tn (by show Rep tw H (.int _) _;rw[Rep])⟩
  ·cases e
 | [.tup xs,.int j],e =>
  have e:(if xs.length<=1000 /\ -1000<=j/\j<=10000/\xs.length*j.toNat<=big then some (T.tup (List.replicate j.toNat xs).flatten,Md.fz) else none)=some (t,m):=e;split at e
  ·rename_i hb;obtain⟨_,b1,b2,b3⟩:=hb;cases e;obtain⟨v,w,rfl,r1,r2⟩:=aB6 rt;obtain⟨a,va,rfl,ea,xa⟩:=aBx r1;obtain rfl:=aBb r2;obtain⟨u1,u2,rfl,q1,q2⟩:=rv.two;cases q1;obtain⟨tk,rfl⟩:=q2;obtain⟨its,r1',p1,_⟩:=I.tuple (SqT.of (K:=X.K) ea);obtain⟨⟨cls,dd,data,sl⟩,ho,hc,n1,hd⟩:=id p1;simp only at hc hd;subst hc hd;have l1:=xa.length;have l3:=r1'.length;have hz:its.length*j.toNat<=sizeLine:=by rw[<-l3,<-l1];exact aDl b3
   have hp:H s.heap.objs.size=none:=I.hok.fresh (ae _);refine bAr ho ZB ZB hz (fun c=>?_) ?_
   ·have:(List.replicate j.toNat xs).flatten=xs:=by
     rcases c with c |c
     ·have:xs = []:=ft (by rw[l1,l3,c];rfl);subst this;simp
     ·subst c;simp
    rw[this] at k;exact⟨.ref a,H,I,rfl,k _ H (.refl _ _) tn (aEs ea xa)⟩
   ·refine⟨.ref s.heap.objs.size,_,I.laid (t':=s.toks) (o:=.tup (List.replicate j.toNat va).flatten) (fun b ob q=>aa _ q) (ae _) ⟨by rw[len_rep,iV,l3];exact hz,_,r1'.rep _,aEg.new _ _⟩,rfl,k _ _ (.new hp) (tn.new hp) (aEs aAq ((Reps.mono (.new hp) _ _ xa).rep _))⟩
  ·cases e
theorem aEa:∀ {xs:List T} {us:List Value},us.length=xs.length->(∀ (i:Nat) (u:Value),us[i]?=some u->∃v x,RelV v u/\xs[i]?=some x/\Rep tw H x v)->∃vs,Vals vs us/\Reps tw H xs vs
 |[],[],_,_=>⟨[],.nil,.nil⟩
 | x::xs,u::us,hl,h=>by
  obtain⟨v,x',r,e,q⟩:=h 0 u rfl;have e:x=x':=by simpa using e
  subst e;obtain⟨vs,h1,h2⟩:=aEa (xs:=xs) (us:=us) (by simpa using hl) fun i u e=>by obtain⟨v,x,r,e',q⟩:=h (i+1) u (by simpa using e);exact⟨v,x,r,by simpa using e',q⟩
  exact⟨v::vs,.cons r h1,.cons q h2⟩
 |[],_::_,hl,_=>by simp at hl
 |_::_,[],hl,_=>by simp at hl
theorem aXm{a:Addr}{s:Shared}{pins:List ZH}{σ:St}{kvs:List (Key × T)}{us:List (Key × Value)}(q:RepK tw H kvs ws)(rel:KV ws us)(i:Nat)(w:Value)
  (hp:∃k x,us[i]?=some (k,x)/\(aA6 X.prog X.w).is k w=true):∃v x,RelV v w/\(kvs.map fun kv=>keyT kv.1)[i]?=some x/\Rep tw H x v:=by
 obtain⟨k,x,h1,h2⟩:=hp;have hl:ws.length=us.length:=Paired.length rel;refine⟨kV k,keyT k,aVk h2,?_,aMw k⟩;rw[cg];have hi:i<us.length:=(bh.mp h1).1;have hi2:i<kvs.length:=by rw[RepK.length q,hl];exact hi
 obtain⟨v,g1,_⟩:=aJr (k:=kvs[i].1) (t:=kvs[i].2) q (show kvs[i]?=some (kvs[i].1,kvs[i].2) by simp[hi2]);obtain⟨u',g2⟩:=aZx rel g1;rw[h1] at g2;have:k=kvs[i].1:=by injection g2 with g2;injection g2
 rw[ba hi2];show some (keyT kvs[i].1)=some (keyT k);rw[this]
theorem aSf(hh:A'.handled=none)(I:Inv X pins σ H s)(r:Root X.K tw H t v)(rv:RelV v u)(h:aFx t=some xs)
  (k:∀us vs h' tk,Vals vs us->Reps tw H xs vs->us.length<=sizeLine->(∀b o,s.heap.get? b=some o->h'.get? b=some o)->Q us { s with heap:=h',toks:=tk }):wpAny (model X.prog X.w) A' (collect u) Q E s:=by
 cases t with
 | lst ys =>
  cases h;obtain⟨a,vs,rfl,e,q⟩:=r;cases rv;obtain⟨its,rv,p,hz⟩:=I.list e.sq;obtain⟨o,ho,hc,n,hd⟩:=p.isList;have hz':its.toArray.size<=sizeLine:=by rw[aj];first |exact hz |(rw[<-rv.length];exact hz)
  exact wpAny_collect_seq a (.inl rfl) ho hc hd (fun h' kp=>k its vs h' s.toks rv q (by simpa using hz') kp) hz'
 | tup ys =>
  cases h;obtain⟨a,vs,rfl,e,q⟩:=aBx r;cases rv;obtain⟨its,rv,p,hz⟩:=I.tuple (SqT.of (K:=X.K) e);obtain⟨o,ho,hc,n,hd⟩:=id p;have hz':its.toArray.size<=sizeLine:=by rw[aj];first |exact hz |(rw[<-rv.length];exact hz)
  exact wpAny_collect_seq a (.inr rfl) ho hc hd (fun h' kp=>k its vs h' s.toks rv q (by simpa using hz') kp) hz'
 | dic kvs =>
  cases h;obtain⟨a,ws,rfl,na,e,q⟩:=r;cases rv;obtain⟨z,hd,us,rel,dd⟩:=aFt I.hok e;obtain⟨ep,da⟩:=dd.dictAt;have hl:ws.length=us.length:=Paired.length rel;refine W.kdu_collect (W.kdl_dict (knd:=aA6 X.prog X.w) (kvs:=us) (ep:=ep) hd) hh da (by rw[<-hl];exact z) fun h' tk acc kp hi=>?_;obtain⟨vs,h1,h2⟩:=aEa (tw:=tw) (H:=H) (xs:=kvs.map fun kv=>keyT kv.1) (us:=acc.toList) (by rw[bg,hi.1,ak,RepK.length q,hl]) fun i w e =>
   aXm (X:=X) (a:=a) (s:=s) (pins:=pins) (σ:=σ) q rel i w (hi.2 i w (by rw[<-ci];exact e))
  exact k _ vs h' tk h1 h2 (by rw[bg,hi.1,<-hl];exact z) kp
 |_=>cases h
theorem aS8:∀ {us:List Value} {ns:List Int},IntsAre us ns->Vals (ns.map V.int) us
 |_,_,.nil=>.nil
 |_,_,.cons n t h=>.cons ⟨t,rfl⟩ (aS8 h)
theorem aCt:∀ {ns:List Int} {us:List Value},Vals (ns.map V.int) us->IntsAre us ns
 |[],_,.nil=>.nil
 |n::ns,_,.cons ⟨t,e⟩ h=>by subst e;exact .cons n t (aCt h)
theorem bAp(hh:X.A.handled=none):PrS X tw (fun us=>call (.type "list") us) aXw:=by
 intro B pins s σ H vs us ts n t m Q I rv rt tn e k
 match ts,e with
 | [.lst xs],e =>
  cases e;obtain⟨v,rfl,a,va,rfl,ea,xa⟩:=aA9 rt;exact aI7 pins s σ H _ us Q I rv ⟨a,va,rfl,.inl ea.sq,fun l hl=>k _ _ (.new hl) (tn.new hl) ⟨l,rfl,hl,_,aAq,Reps.mono (.new hl) _ _ xa⟩⟩
 | [.tup xs],e =>
  cases e;obtain⟨v,rfl,r⟩:=aA9 rt;obtain⟨a,va,rfl,ea,xa⟩:=aBx r;exact aI7 pins s σ H _ us Q I rv ⟨a,va,rfl,.inr (SqT.of ea),fun l hl=>k _ _ (.new hl) (tn.new hl) ⟨l,rfl,hl,_,aAq,Reps.mono (.new hl) _ _ xa⟩⟩
 | [.dic kvs],e =>
  cases e;obtain⟨v,rfl,a,ws,rfl,na,ea,q⟩:=aA9 rt;obtain⟨u,rfl,ru⟩:=rv.one;cases ru;obtain⟨z,hd,us,rel,dd⟩:=aFt I.hok ea;obtain⟨ep,da⟩:=dd.dictAt;have hl:ws.length=us.length:=Paired.length rel;refine W.kdl_call (W.kdl_dict (knd:=aA6 X.prog X.w) (kvs:=us) (ep:=ep) hd) hh da (by rw[<-hl];exact z) fun h' tk acc c kp hS hi=>?_;obtain⟨vs,h1,h2⟩:=aEa (tw:=tw) (H:=H) (xs:=kvs.map fun kv=>keyT kv.1) (us:=acc.toList) (by rw[bg,hi.1,ak,RepK.length q,hl]) fun i w e =>
   aXm (X:=X) (a:=a) (s:=s) (pins:=pins) (σ:=σ) q rel i w (hi.2 i w (by rw[<-ci];exact e))
  have hp:H s.heap.objs.size=none:=I.hok.fresh (ae _);have I':=I.laid (a:=s.heap.objs.size) (o:=.lst vs) (t':=tk) (h':=h') kp (ae _) ⟨by rw[h1.length,bg,hi.1,<-hl];exact z,acc.toList,c,h1,by simpa using hS⟩;exact⟨.ref s.heap.objs.size,_,I',rfl,k _ _ (.new hp) (tn.new hp) ⟨_,rfl,hp,_,aAq,Reps.mono (.new hp) _ _ h2⟩⟩
theorem aC5{sts:List Stmt}:SSs X tw sts aA0:=fun _ _ _ _ _ _ hd=>by cases hd
theorem aTi
  (hc:wpAny ZC A'.in1 (collect x) (fun vs s1=>∃ns,IntsAre vs ns/\vs.length<64/\∀h' (out:Array Value) ns' e,(∀b o,s1.heap.get? b=some o->h'.get? b=some o)->h'.get? s1.heap.objs.size=some (seqObj "list" out e)->IntsAre out.toList ns'->ns'.Perm ns->ns'.Pairwise (· <= ·)->Q (.ref s1.heap.objs.size) { s1 with heap:=h' }) E s) :
  wpAny ZC A' (call (.builtin "sorted") [x]) Q E s:=by
 refine jJ kind_sorted plain_sorted entry_sorted (args_sorted1 _) ?_;unfold Builtin.«sorted»;refine wpAny_bind (m:=checkCount "sorted" 1 1 _) (wpAny_pure (wpAny_bind (wpAny_mono hc (fun vs s1 h=>?_) fun _ _ e=>e)));obtain⟨ns,hI,h64,k⟩:=h;refine wpAny_bind (wpAny_newList ?_ (by rw[sizeLine_eq];lia));have hoL:(s1.heap.push (seqObj "list" vs.toArray 0)).get? s1.heap.objs.size=some (seqObj "list" vs.toArray 0):=au _ rfl;show wpAny _ _ _ _ _ { s1 with heap:=s1.heap.push (seqObj "list" vs.toArray 0) };refine wpAny_bind (wpAny_holding (wpAny_call_entry slot_list_sort ⟨_,hoL,rfl⟩ entry_list_sort (list_sort_tree hoL hI h64 fun out ns' a1 a2 a3=>⟨_,rfl,?_⟩) (args_list_sort _)));obtain⟨e,he⟩:=sortedHeap_at (out:=out) hoL;refine wpAny_pure ⟨_,rfl,k _ out ns' e (fun b o hb=>?_) he a1 a2 a3⟩;have hlt:b<s1.heap.objs.size:=ai hb;rw[sortedHeap_old (az hlt) (by rw[dy];exact fj hlt)];exact aa _ hb
theorem aXf(hh:X.A.handled=none):PrS X tw (fun us=>call (.builtin "sorted") us) aIc:=by
 intro B pins s σ H vs us ts n t m Q I rv rt tn e k;have run:∀ {t0:T} {xs:List T} {ns:List Int} {v:V} {u:Value},Root X.K tw H t0 v->RelV v u->aFx t0=some xs->intsOf xs=some ns->ns.length<64 ->
   (∀v H',Ext tw H H'->Tn tw n H'->Val X.K B tw H H' (.lst ((sortI ns).map T.int)) .own v->Q v H')->wpAny ZC X.A (call (.builtin "sorted") [u]) (EP X pins σ Q) X.xe s:=by
  intro t0 xs ns v u r ru hw hi hl kk;have hx:=aC2 hi;refine aTi (aSf hh I r ru hw fun us vs h' tk h1 h2 h3 kp=>?_);rw[hx] at h2;cases aE6 h2;have ia:=aCt h1;refine⟨ns,ia,by rw[<-h1.length,ak];exact hl,fun h'' out ns' e kp2 he hi2 hp hs=>?_⟩;cases aWx hp hs;have I1:Inv X pins σ H { s with heap:=h',toks:=tk }:=I.kept kp;have hf:H h'.objs.size=none:=I1.hok.fresh (ae _);have iv:=aS8 hi2;have I':=I1.laid (a:=h'.objs.size) (o:=.lst ((sortI ns).map V.int)) (t':=tk) (h':=h'') kp2 (ae _) ⟨by rw[ak,(sortI_perm ns).length_eq,sizeLine_eq];lia,out.toList,e,iv,by rw[gw];exact he⟩;exact⟨.ref h'.objs.size,_,I',rfl,kk _ _ (.new hf) (tn.new hf) ⟨_,rfl,hf,_,aAq,Reps.ints _⟩⟩
 match ts,e with
 | [.lst xs],e =>
  obtain⟨v,rfl,r⟩:=aA9 rt;obtain⟨u,rfl,ru⟩:=rv.one;obtain⟨ns,e1,e2⟩:=bind_some (show (intsOf xs).bind _=_ from e);by_cases hl:ns.length<64
  ·rw[if_pos hl] at e2;cases e2;exact run r ru rfl e1 hl k
  ·rw[if_neg hl] at e2;cases e2
 | [.tup xs],e =>
  obtain⟨v,rfl,r⟩:=aA9 rt;obtain⟨u,rfl,ru⟩:=rv.one;obtain⟨ns,e1,e2⟩:=bind_some (show (intsOf xs).bind _=_ from e);by_cases hl:ns.length<64
  ·rw[if_pos hl] at e2;cases e2;exact run r ru rfl e1 hl k
  ·rw[if_neg hl] at e2;cases e2
theorem _root_.L2.Inv.tupleN(I:Inv X pins σ H s)(h:H a=some (.tup xs)):∃its:List Value,Vals xs its/\aEg s.heap a its.toArray/\xs.length<=sizeLine:=by obtain⟨z,its,r,p⟩:=I.hok a _ h;exact⟨its,r,p,z⟩
def isInt(j:Int):Value->Bool
 |.int i _=>i==j
 |_=>false
theorem aX0(j:Int)(h:IntsAre us ns):us.countP (isInt j)=(ns.filter fun x=>x==j).length:=by
 induction h with
 |nil=>rfl
 | cons n t h ih =>
  rw[gO,jP,ih];show _+(if (n==j)=true then 1 else 0)=_;cases n==j<;>simp
theorem ints_mem(h:IntsAre us ns)(hy:y∈us):∃i t,y = .int i t:=by
 induction h with
 |nil=>cases hy
 | cons n t h ih =>
  rcases bf.mp hy with rfl |hy
  ·exact⟨n,t,rfl⟩
  ·exact ih hy
theorem aXx{k:Nat}(e3:bA4 k [to,te]=some (t1,m1)):∃xs j ns,to = .tup xs/\te = .int j/\intsOf xs=some ns/\t1 = .int (ns.filter fun x=>x==j).length/\m1 = .fz:=by
 match to,te,e3 with
 | .tup xs,.int j,e3 =>
  obtain⟨ns,h1,h2⟩:=map_some (show (intsOf xs).map _=_ from e3);cases h2;exact⟨xs,j,ns,rfl,rfl,h1,rfl,rfl⟩
theorem se_count{o e:Expr}{d0 de:DE}{apos cpos:Pos}(ho:SE X tw o d0)(he:SE X tw e de)(m:M1 X o "count" apos e cpos):SE X tw (.Call (.Attribute o "count" apos) [e] [] cpos) (dPr bA4 (aAa d0 (aAa de dNil))):=by
 intro B ρ n t mm n' hd pins s σ H Q I ⟨R,k⟩;obtain⟨to,mo,no,te,me,f1,g1,e3⟩:=aVv hd;obtain⟨xs,j,ns,eo,ee,hi,et,em⟩:=aXx e3;subst eo ee et em;refine wpAny_Call_method m.base m.few m.line PySem.F.plainAttrs_tuple PySem.F.slot_tuple_count PySem.F.type_tuple_count (thn (ho.run f1 I R) fun u s1 ⟨v,H1,I1,r1,a1,R1,c1⟩=>?_);obtain⟨a,va,rfl,ea,xa⟩:=aBx (c1.root R1 R.tn);cases r1;obtain⟨its,r1',⟨o1,ho1,hc1,hd1,_⟩,_⟩:=I1.tupleN ea;refine⟨⟨o1,ho1,hc1⟩,fun b e=>?_,?_⟩
 ·cases e;exact⟨o1,ho1,hd1⟩
 ·rw[m.trees];refine gK rfl (gU (br (thn (he.run g1 I1 R1) fun iv s2 ⟨y,H2,I2,ry,a2,R2,c2⟩=>dq ?_)));obtain rfl:=aBb (c2.root R2 R1.tn);obtain⟨tk,rfl⟩:=ry;have ea2:H2 a=some (.tup va):=a2.to a _ ea (R1.tn.ne_tup ea) (fun _ z=>nomatch z);obtain⟨its,r2',⟨⟨cls,dd,data,sl⟩,ho,hc,hd,nn,hdat⟩,_⟩:=I2.tupleN ea2;simp only at hc hdat
  subst hc hdat
  have xi:=aC2 hi;subst xi;have eva:=aE6 xa;subst eva;have hI:=aCt r2';have hcnt:=aX0 j hI;refine call_meets PySem.F.slot_tuple_count ⟨_,ho,rfl⟩ PySem.F.entry_tuple_count (PySem.F.args_tuple_count_2 _ _) (PySem.SeqAt.tuple_countAt a its.toArray nn dd sl (.int j tk) (isInt j)) ⟨ho,fun y hy=>?_,?_⟩
  ·have hy:y∈its:=by simpa using hy
   have:=ints_mem hI hy;obtain⟨i,t,rfl⟩:=this;exact PySem.SeqAt.EqAt.int_int i t j tk
  ·refine⟨.int _,H2,I2.tok _,⟨_,rfl⟩,?_⟩;show Q (.int ((List.countP (isInt j) its.toArray.toList:Nat):Int)) H2;rw[show its.toArray.toList=its from rfl,hcnt];exact k _ H2 (a1.trans a2) R2.tn (by show Rep tw H2 (.int _) _;rw[Rep])
theorem aR2:typeLookup (.type "list") "keys" = pure none:=by rw[typeLookup_type,builtinLookup_eq_fast];kernel_rfl
theorem aZc{k:Nat}
  (hx:s.heap.get? a=some o) (hc:o.cls = .type "list") (hdat:o.data = .seq xs k) (hd:o.dict=none) (hA:A.handled=none)
  (h:∀h' tk,(∀b o,s.heap.get? b=some o->h'.get? b=some o)->Q none { s with heap:=h',toks:=tk }) :
  wpAny ZI A (getAttr? (.ref a) "keys") Q E s:=by
 obtain⟨c,dct,dat,sl⟩:=o;simp only at hc hdat hd;subst hc hdat hd;obtain⟨hp,g,d,tk,os⟩:=s;have hT:∀tk',(⟨hp,g,d,tk',os⟩:Shared).TypeIs (.ref a) "list":=fun _=>⟨_,hx,rfl⟩
 have f1:=sub_AttributeError;have f3:=F.slot_list_getattribute.lookup;have f4:=F.slot_list_getattribute.bind (.ref a);have f5:=am_list_getattr_none;unfold getAttr? getAttrBy? getAttrBy
 repeat (any_goals (first |assumption |exact hT _ |((with_reducible show wpAny _ _ (call (Value.builtin "list.__getattribute__") _ _) _ _ _);refine call_meets F.slot_list_getattribute (hT _) am_entry_list_getattribute (F.args_list_getattribute_2 _ _) (meets_getattribute_miss_list a xs k sl "keys" _ aR2 (by decide)) ⟨hx,hA,fun h' tk' e hx'=>?_⟩) |wp_step))
 obtain⟨t',u',he⟩:=hx'.there;show wpAny _ _ (getattributeRaised _ _ _ _ _ _ _) _ _ _;unfold getattributeRaised
 repeat (any_goals (first |assumption |wp_step))
 exact h _ _ hx'.keeps
theorem aGh:entryFor table "dict.update.loop" = some Builtin.«dict.update.loop»:=entryFor_of_tree (by kernel_rfl)
theorem aDa:plainId "dict.update.loop" = true:=by decide +kernel
section
variable {prog:Program}{w:World}{K:Type}[DecidableEq K]{knd:KeyKind prog w K}{A:Around}{R:Result->Shared->Prop}{I d:Addr}{fp wr:List Addr}{P:Nat->Value->Prop}{St:Nat->Heap->Prop}
def folded(ps:List (K × Value)):List (K × Value):=ps.foldl (fun m p=>stored m p.1 p.2) []
theorem aXv(m:List (K × Value))(k:K)(v:Value):(stored m k v).length<=m.length+1:=by
 unfold stored;split
 ·rw[ak];lia
 ·rw[bp];simp
theorem aX6(ps:List (K × Value)):∀m:List (K × Value),(ps.foldl (fun m p=>stored m p.1 p.2) m).length<=m.length+ps.length:=by
 induction ps with
 |nil=>intro m;simp
 | cons p ps ih =>
  intro m;rw[gM];have h1:=ih (stored m p.1 p.2);have h2:=aXv m p.1 p.2;rw[ah];lia
theorem aZq{h₀:Heap}{ps:List (K × Value)}(W:Walks prog w A.in1 I fp wr ps.length P St)(hdf:d∉fp)(res:Value)(hn:ps.length<=sizeLine)
  (hP:∀i v,P i v->∃b k key x o m,v = .ref b/\b≠d/\b∉wr/\h₀.get? b=some o/\o.cls = .type "tuple" /\ o.data = .seq #[key,x] m/\knd.is k key=true/\ps[i]?=some (k,x)) :
  ∀ (j i:Nat) (s:Shared),ps.length - i=j->i<=ps.length->St i s.heap->(∀b o,b≠d->b∉wr->h₀.get? b=some o->s.heap.get? b=some o)->s.heap.DictOf knd d (folded (ps.take i)) ->
  (∀h' tk,(∀b o,b≠d->b∉wr->h₀.get? b=some o->h'.get? b=some o)->h'.DictOf knd d (folded ps)->R (.ok (.ret res)) { s with heap:=h',toks:=tk }) ->
  codeAny ZI A (.builtin "dict.update.loop" ⟨[.ref d,.ref I,rawInt i,res],[]⟩) R s:=by
 have hdw:d∉wr:=fun h=>hdf (W.sub _ h);intro j
 induction j with
 | zero =>
  intro i s hj hi hst hk hD hR;have hin:i=ps.length:=by lia
  subst hin;refine codeAny_builtin aGh ?_;rw[Around.under_plainId aDa _];show wpAny _ A.in1 (pyNext (.ref I) >>= _) _ _ s;refine wpAny_bind (W.done s _ _ hst fun h' tk hm=>?_);rw[ig] at hD;refine wpAny_bind (wpAny_pure ?_);exact wpAny_pure (hR h' tk (fun b o hb hw e=>hm b o hw (hk b o hb hw e)) (let ⟨o,es,ep,ho,r⟩:=hD;⟨o,es,ep,hm d o hdw ho,r⟩))
 | succ j ih =>
  intro i s hj hi hst hk hD hR;have hlt:i<ps.length:=by lia
  refine codeAny_builtin aGh ?_;rw[Around.under_plainId aDa _];show wpAny _ A.in1 (pyNext (.ref I) >>= _) _ _ s;refine wpAny_bind (W.item i s _ _ hlt hst fun v h' tk hp hst' hm=>?_);obtain⟨b,k,key,x,o,m,rfl,hbd,hbw,ho,hc,hdat,hkey,hps⟩:=hP i v hp;have hk1:∀b o,b≠d->b∉wr->h₀.get? b=some o->h'.get? b=some o:=fun b o hb hw e=>hm b o hw (hk b o hb hw e);have hb1:=hk1 b o hbd hbw ho;have hD1:h'.DictOf knd d (folded (ps.take i)):=let ⟨o,es,ep,ho,r⟩:=hD;⟨o,es,ep,hm d o hdw ho,r⟩
  refine wpAny_bind (wpAny_holding ?_);refine wpAny_bind (wpAny_tryCatch ?_);unfold Builtin.Dict.pairItems;refine wpAny_bind (wpAny_typeOf (T:="tuple") ⟨o,hb1,hc⟩ ?_);rw[if_pos ZA];refine wpAny_bind (wpAny_seqItems hb1 hdat ?_);refine wpAny_pure ?_;show wpAny _ _ (holding [key,x] (dictSet d key x)) _ _ _;have hlen:(folded (ps.take i)).length<=sizeLine:=by have:=aX6 (ps.take i) [];rw[d8] at this;unfold folded;simp at this;lia
  refine wpAny_holding (wpAny_dictSet_pairs (s:={ s with heap:=h',toks:=tk }) hkey hD1 (fun h2 hD2 hs2=>?_) hlen);have hstep:folded (ps.take (i+1))=stored (folded (ps.take i)) k x:=by
   have:ps.take (i+1)=ps.take i ++ [(k,x)]:=by rw[jk,hps];rfl
   unfold folded;rw[this,jj];rfl
  refine wpAny_pure ⟨plainId_quiet aDa _,?_⟩;refine ih (i+1) { s with heap:=h2,toks:=tk+1 } ZB hlt (W.frame _ _ _ hst' fun c hc' o' e=>?_) (fun c o' hb hw e=>?_) (by rw[hstep];exact hD2) fun h3 tk3 hk3 hD3=>hR h3 tk3 hk3 hD3
  ·have:c≠d:=fun z=>hdf (z▸hc');exact(hs2.2 c this).trans e
  ·exact(hs2.2 c hb).trans (hk1 c o' hb hw e)
end
theorem key_repR(h:keyOf t=some k)(r:Rep tw H t v):v=kV k:=by
 cases t with
 |int i=>cases h;rw[Rep] at r;exact r
 |str x=>cases h;rw[Rep] at r;exact r
 |_=>cases h
def PairAt(H:Hp)(P:Program)(w:World)(h:Heap)(v:V)(u:Value)(k:Key)(x:V)(y:Value):Prop :=
 ∃b o m key,v = .ref b/\u = .ref b/\H b=some (.tup [kV k,x])/\h.get? b=some o/\o.cls = .type "tuple" /\ o.data = .seq #[key,y] m/\(aA6 P w).is k key=true/\RelV x y
theorem pairs_at{pins:List ZH}{s:Shared}{σ:St}{H:Hp}(I:Inv X pins σ H s):∀ {xs:List T} {ps:List (Key × T)} {vs:List V} {us:List Value},pairsOf xs=some ps->Reps tw H xs vs->Vals vs us ->
  ∃ (ws:List (Key × V)) (ys:List (Key × Value)),RepK tw H ps ws/\KV ws ys/\ys.length=us.length/\∀ (i:Nat) (u:Value),us[i]?=some u->∃v k x y,PairAt H X.prog X.w s.heap v u k x y/\ys[i]?=some (k,y)
 |[],ps,vs,us,h,r,rv=>by cases h;cases aB2 r;cases rv;exact⟨[],[],by rw[RepK],.nil,rfl,fun i u e=>by simp at e⟩
 | t::xs,ps,vs,us,h,r,rv=>by
  have ⟨kt,vt,k,ps',e1,e2,e3,e4⟩:∃kt vt k ps',t = .tup [kt,vt]/\keyOf kt=some k/\pairsOf xs=some ps'/\ps=(k,vt)::ps':=by
   match t,h with
   | .tup [kt,vt],h =>
    obtain⟨k,h1,h2⟩:=bind_some (show (keyOf kt).bind _=_ from h);obtain⟨ps',h3,h4⟩:=map_some h2;exact⟨kt,vt,k,ps',rfl,h1,h3,h4.symm⟩
  subst e1 e4;obtain⟨v,vs',rfl,r1,r2⟩:=aA1 r;cases rv with
  | cons rv1 rv2 =>
   rename_i u us';obtain⟨ws,ys,g1,g2,g3,g4⟩:=pairs_at I e3 r2 rv2;obtain⟨b,va,rfl,hb,q⟩:=aBx (K:=X.K) r1;obtain⟨va1,va',rfl,q1,q2⟩:=aA1 q;obtain⟨va2,va'',rfl,q3,q4⟩:=aA1 q2;cases aB2 q4;have ek:va1=kV k:=key_repR e2 q1;subst ek;cases rv1;obtain⟨its,ri,⟨o,ho,hc,hdn,m,hdat⟩,_⟩:=I.tupleN hb;obtain⟨ku,yu,rfl,rk,ry⟩:=ri.two;refine⟨(k,va2)::ws,(k,yu)::ys,aEz q3 g1,.cons ⟨rfl,ry⟩ g2,by rw[ah,ah,g3],fun i u e=>?_⟩;cases i with
   | zero =>
    have e:Value.ref b=u:=by simpa using e
    subst e;exact⟨.ref b,k,va2,yu,⟨b,o,m,ku,rfl,rfl,hb,ho,hc,hdat,aYb rk,ry⟩,rfl⟩
   | succ i =>
    obtain⟨v,k',x,y,p1,p2⟩:=g4 i u (by simpa using e);exact⟨v,k',x,y,p1,by simpa using p2⟩
theorem RepK.fold:∀ {ps:List (Key × T)} {ws:List (Key × V)},RepK tw H ps ws->∀ {d:List (Key × T)} {e:List (Key × V)},RepK tw H d e->RepK tw H (ps.foldl (fun d p=>aDc d p.1 p.2) d) (ws.foldl (fun d p=>putK d p.1 p.2) e)
 |[],_,r,_,_,q=>by rw[RepK] at r;subst r;exact q
 |(k,x)::ps,_,r,d,e,q=>by rw[RepK] at r;obtain⟨v,w',rfl,r1,r2⟩:=r;exact RepK.fold r2 (RepK.put k r1 q)
theorem KV.fold:∀ {ws:List (Key × V)} {ys:List (Key × Value)},KV ws ys->∀ {d:List (Key × V)} {e:List (Key × Value)},KV d e->KV (ws.foldl (fun d p=>putK d p.1 p.2) d) (ys.foldl (fun d p=>stored d p.1 p.2) e):=by
 intro ws ys r;unfold KV at r
 induction r with
 |nil=>intro d e q;exact q
 | cons h t ih =>
  intro d e q;rename_i a b as bs;obtain⟨k,v⟩:=a;obtain⟨k',y⟩:=b;obtain⟨h1,h2⟩:=h;simp only at h1 h2;subst h1;exact ih (KV.put q k h2)
theorem fold_len(ws:List (Key × V)):∀d:List (Key × V),(ws.foldl (fun d p=>putK d p.1 p.2) d).length<=d.length+ws.length:=by
 induction ws with
 |nil=>intro d;simp
 | cons p ps ih =>
  intro d;rw[gM];have h1:=ih (putK d p.1 p.2);have h2:(putK d p.1 p.2).length<=d.length+1:=by
   unfold putK;split
   ·rw[ak];lia
   ·rw[bp];simp
  rw[ah];lia
theorem aK0:∀ {xs:List T} {ps:List (Key × T)},pairsOf xs=some ps->ps.length=xs.length
 |[],_,h=>by cases h;rfl
 | t::xs,ps,h=>by
  match t,h with
  | .tup [kt,vt],h =>
   obtain⟨k,h1,h2⟩:=bind_some (show (keyOf kt).bind _=_ from h);obtain⟨ps',h3,h4⟩:=map_some h2;subst h4;rw[ah,ah,aK0 h3]
theorem pr_dict(hh:X.A.handled=none):PrS X tw (fun us=>call (.type "dict") us) pDict:=by
 intro B pins s σ H vs us ts n t m Q I rv rt tn e k
 match ts,e with
 | [.dic kvs],e =>
  cases e;obtain⟨v,rfl,a,ws,rfl,na,ea,q⟩:=aA9 rt;obtain⟨u,rfl,ru⟩:=rv.one;cases ru;exact d_copyOf I ea fun p s' hp I'=>⟨.ref p,_,I',rfl,k _ _ (.new hp) (tn.new hp) ⟨p,rfl,hp,_,aAq,RepK.mono (.new hp) _ _ q⟩⟩
 | [.lst xs],e =>
  obtain⟨ps,e1,e2⟩:=bind_some (show (pairsOf xs).bind _=_ from e);split at e2
  ·rename_i hbig;cases e2;obtain⟨v,rfl,a,va,rfl,ea,xa⟩:=aA9 rt;obtain⟨u,rfl,ru⟩:=rv.one;cases ru;obtain⟨its,r1,⟨o,nn,ho,hc,hdn,hdat⟩,hz⟩:=I.list ea.sq;obtain⟨ws,ys,g1,g2,g3,g4⟩:=pairs_at I e1 xa r1;have hpl:=aK0 e1;have hyl:ys.length=ps.length:=by rw[g3,<-r1.length,<-xa.length,hpl]
   have hwl:ws.length=ps.length:=(RepK.length g1).symm;have hbl:ps.length<=sizeLine:=aDl (d7 hbig);refine callType_codes (Q₁:=fun obj s₁=>obj = .ref s.heap.objs.size/\s₁ = { s with heap:=s.heap.push { cls:=.type "dict",data:=.dict #[] } }) F.kt_called_dict (F.kt_typeCall_dict_1 _) F.entry_dict_init (kt_code_dict_new _ ⟨rfl,rfl⟩) ?_;rintro obj s₁ ⟨rfl,rfl⟩;have hnew:(s.heap.push { cls:=.type "dict",data:=.dict #[] }).DictOf (aA6 X.prog X.w) s.heap.objs.size []:=Heap.DictOf.new s.heap;refine⟨hnew.typeIs,F.args_dict_init_2 _ _,?_⟩;have had:a<s.heap.objs.size:=ai ho;have ho1:=aa { cls:=.type "dict",data:=.dict #[] } ho;unfold Builtin.«dict.__init__»;refine wpAny_bind ?_;unfold Builtin.Dict.selfAndRest;refine wpAny_bind (wpAny_notOrdered_dict hnew.typeIs ?_);show wpAny _ _ (pure (s.heap.objs.size,[Value.ref a])) _ _ _;refine wpAny_pure ?_;show wpAny _ _ (Builtin.Dict.updateFrom "dict.__init__" s.heap.objs.size (.ref a) [] .none) _ _ _;unfold Builtin.Dict.updateFrom;refine wpAny_bind (wpAny_typeOf (T:="list") ⟨o,ho1,hc⟩ ?_);rw[if_pos ZA];refine wpAny_bind (aZc ho1 hc hdat hdn hh fun h' tk kp=>?_);rw[if_pos (by rfl)];refine wpAny_bind (wpAny_rule ?_);have hl':h'.IsList a its.toArray:=⟨o,kp a o ho1,hc,nn,hdat⟩
   have hD0:h'.DictOf (aA6 X.prog X.w) s.heap.objs.size []:=let ⟨o',es,ep,ho',r⟩:=hnew;⟨o',es,ep,kp _ _ ho',r⟩
   have hDlt:s.heap.objs.size<h'.objs.size:=let ⟨o',es,ep,ho',r⟩:=hD0;ai ho'
   have hsz:its.toArray.size=ys.length:=by rw[aj,g3]
   have ha:a≠h'.objs.size:=az (jR had hDlt);refine wpAny_bind (wpAny_pyIter_list hl' ?_);refine wpAny_pure ⟨plainId_quiet aDa _,?_⟩;have W:=Walks.list (prog:=X.prog) (w:=X.w) (A:=X.A.in1.in1) hh h'.objs.size a ha its.toArray;rw[hsz] at W;refine aZq (knd:=aA6 X.prog X.w) (h₀:=h') (ps:=ys) W (fun hm=>?_) .none (by rw[hyl];exact hbl) (fun i v hp=>?_) ys.length 0 _ rfl (gn _) ⟨⟨_,au _ rfl,rfl,rfl⟩,hl'.push _⟩ (fun b o' _ _ e=>aa _ e) (hD0.push _) fun h2 tk2 kp2 hD2=>?_
   ·simp at hm;rcases hm with hm |hm
    ·exact absurd hDlt (by rw[<-hm];exact fu _)
    ·exact absurd had (by rw[<-hm];exact fu _)
   ·obtain⟨v',k',x,y,⟨b,o',m',key,rfl,rfl,_,hb,hcb,hdb,hkey,_⟩,hy⟩:=g4 i v (by simpa using hp);have hblt:b<s.heap.objs.size:=ai hb;exact⟨b,k',key,y,o',m',rfl,az hblt,by simp;exact az (jR hblt hDlt),kp b o' (aa _ hb),hcb,hdb,hkey,hy⟩
   ·have hp:H s.heap.objs.size=none:=I.hok.fresh (ae _);have hz2:(ws.foldl (fun d p=>putK d p.1 p.2) []).length<=sizeLine:=by have:=fold_len ws [];simp at this;lia
    have I':=I.laid (a:=s.heap.objs.size) (o:=.dK (ws.foldl (fun d p=>putK d p.1 p.2) [])) (t':=tk2) (h':=h2) (fun b u q=>kp2 b u (az (ai q)) (by simp;exact az (jR (ai q) hDlt)) (kp b u (aa _ q))) (ae _)
     (aWv hz2 (beq_eq_false_iff_ne.mpr (Ne.symm (az I.big))) (KV.fold g2 .nil) hD2)
    exact⟨rfl,.ref s.heap.objs.size,_,I',rfl,k _ _ (.new hp) (tn.new hp) ⟨_,rfl,hp,_,aAq,RepK.mono (.new hp) _ _ (RepK.fold g1 (by rw[RepK]))⟩⟩
  ·cases e2
end
end L2.Ds
namespace L2.Tm
open PySem PyProof.Rows
section
variable {σ:Type}{M:Model}{A:Around}{E:Value->Shared->Prop}{s:Shared}{α β:Type}{Q:α->σ->Prop}{st:σ}
theorem aH2{G:Prop}(h:∀P:Prop,(G->P)->P):G:=h G id
theorem aI9(h:wpS M A E s m Q st):wpAny M A (m st) (fun r s'=>s'=s/\Q r.1 r.2) E s:=h
end
theorem aK2{σ:Type}{M:Model}{α:Type}{m:StateT σ Sem α}{Q:α->σ->Prop}{st:σ}(h:∀Q',Q'=Q->wpS M A E s m Q' st):wpS M A E s m Q st:=h Q rfl
theorem via{β:Type}{v:β}{G:β->Prop}(P:β->Prop)(hv:P v)(h:∀x,P x->G x):∀x,x=v->G x:=fun x e=>h x (e▸hv)
def bAs:Bool->Keyed->Array Keyed->Nat->Nat->Nat->StateT SortSt Sem (Option Nat):=sortPriv% PySem.Builtin.gallop
section
variable {prog:Program}{w:World}{A:Around}{E:Value->Shared->Prop}{s:Shared}{κ:SortKind}{a₀:Array Keyed}{rk:Keyed->Nat}
def LtOk(prog:Program)(w:World)(A:Around)(E:Value->Shared->Prop)(s:Shared)(κ:SortKind)(a₀:Array Keyed)(rk:Keyed->Nat):Prop :=
 ∀ (st:SortSt) (x y:Keyed) (Q:Option Bool->SortSt->Prop),kindOf st=κ->x∈a₀->y∈a₀->Q (some (decide (rk x<rk y))) st->wpS ZI A E s (lt' x y) Q st
def at_(rk:Keyed->Nat)(xs:Array Keyed)(i:Nat):Nat:=(xs[i]?.map rk).getD 0
def Srt(rk:Keyed->Nat)(xs:Array Keyed)(lo hi:Nat):Prop:=∀i j,lo<=i->i<=j->j<hi->at_ rk xs i<=at_ rk xs j
theorem aBo{arr:Array Keyed}{i:Nat}{st:SortSt}{Q:Keyed->SortSt->Prop}(h:i<arr.size)(q:Q arr[i] st):wpS ZI A E s (elem' arr i) Q st:=by rw[elem'_eq,iR h];exact wpS_pure q
def bey(rk:Keyed->Nat)(left:Bool)(key:Keyed)(arr:Array Keyed)(i:Nat):Bool:=if left then decide (at_ rk arr i<rk key) else !decide (rk key<at_ rk arr i)
theorem aB1{i:Nat}(h:i<xs.size):at_ rk xs i=rk xs[i]:=by unfold at_;rw[iR h];rfl
theorem aHy{left:Bool}{base n:Nat}(hs:Srt rk arr base (base+n)){i j:Nat}(hij:i<=j)(hj:j<n)(h:bey rk left key arr (base+j)=true):bey rk left key arr (base+i)=true:=by
 have:=hs (base+i) (base+j) ZB ZB ZB;unfold bey at *;cases left
 ·simp at h |-;lia
 ·simp at h |-;lia
theorem aF8(hL:LtOk prog w A E s κ a₀ rk){st:SortSt}(hk:kindOf st=κ){left:Bool}{key:Keyed}{arr:Array Keyed}{i:Nat}(hkey:key∈a₀)(harr:∀x∈arr,x∈a₀)(hi:i<arr.size)
  {Q:Option Bool->SortSt->Prop} (h:Q (some (bey rk left key arr i)) st):wpS ZI A E s (do
   let x <-elem' arr i
   if left=true then lt' x key else do
    let y <-lt' key x
    pure (Option.map (fun x=>!x) y)) Q st:=by
 refine wpS_bind (aBo hi ?_);have hm:arr[i]∈a₀:=harr _ (bz hi);unfold bey at h;rw[aB1 hi] at h;cases left with
 |true=>rw[if_pos rfl] at h |-;exact hL st _ _ _ hk hm hkey h
 | false =>
  rw[if_neg ZA] at h |-;exact wpS_bind (hL st _ _ _ hk hkey hm (wpS_pure h))
theorem aE2(hL:LtOk prog w A E s κ a₀ rk){st:SortSt}(hk:kindOf st=κ){left:Bool}{key:Keyed}{arr:Array Keyed}{base n hint:Nat}(hkey:key∈a₀)(harr:∀x∈arr,x∈a₀)(hb:base+n<=arr.size)(hh:hint<n)(hs:Srt rk arr base (base+n))
  {Q:Option Nat->SortSt->Prop} (h:∀k,k<=n->(∀i,i<k->bey rk left key arr (base+i)=true)->(∀i,k<=i->i<n->bey rk left key arr (base+i)=false)->Q (some k) st):wpS ZI A E s (bAs left key arr base n hint) Q st:=by
 unfold bAs;unfold wpS;wp_delta;wp_delta;refine aI9 ?_;dsimp only;have neg:∀ {i j:Nat},i<=j->j<n->bey rk left key arr (base+i)=false->bey rk left key arr (base+j)=false:=fun {i j} hij hj hf=>by
  cases e:bey rk left key arr (base+j) with
  |false=>rfl
  |true=>rw[aHy hs hij hj e] at hf;exact hf
 refine wpS_bind (aF8 hL hk hkey harr (i:=base+hint) ZB ?_);dsimp only;cases hr:bey rk left key arr (base+hint) with
 | true =>
  rw[if_pos rfl]
  refine wpS_bind (wpS_mono (wpS_forRange
   (I:=fun x c st'=>st'=st/\∃la of,c=(none,la,of)/\hint+la<n/\bey rk left key arr (base+(hint+la))=true/\la<of/\x+1<=of)
   (Q:=fun c st'=>st'=st/\∃la of,c=(none,la,of)/\hint+la<n/\bey rk left key arr (base+(hint+la))=true/\la<of/\(n - hint<=of\/(hint+of<n/\bey rk left key arr (base+(hint+of))=false))) ?step ?fin ⟨rfl,0,1,rfl,hh,hr,by lia,by lia⟩) ?post)
  case fin =>
   rintro c st' ⟨rfl,la,of,rfl,h1,h2,h3,h4⟩;exact⟨rfl,la,of,rfl,h1,h2,h3,.inl ZB⟩
  case step =>
   rintro x c st' _ hx ⟨rfl,la,of,rfl,h1,h2,h3,h4⟩;dsimp only;by_cases ho:of>=n - hint
   ·rw[if_pos ho];exact wpS_pure ⟨rfl,la,of,rfl,h1,h2,h3,.inl ho⟩
   ·rw[if_neg ho];refine wpS_bind (aF8 hL hk hkey harr (i:=base+(hint+of)) ZB ?_);dsimp only;cases hm:bey rk left key arr (base+(hint+of)) with
    | true =>
     rw[if_neg ZA];exact wpS_pure ⟨rfl,of,2*of+1,rfl,by lia,hm,by lia,by lia⟩
    | false =>
     rw[if_pos ZA];exact wpS_pure ⟨rfl,la,of,rfl,h1,h2,h3,.inr ⟨by lia,hm⟩⟩
  case post =>
   rintro c st' ⟨rfl,la,of,rfl,h1,h2,h3,h4⟩;dsimp only;have up:∀i,hint+min of (n - hint)<=i->i<n->bey rk left key arr (base+i)=false:=fun i hi hin=>by
    rcases h4 with h4 |⟨h4,h5⟩
    ·lia
    ·exact neg ZB hin h5
   refine wpS_bind (wpS_mono (wpS_forRange
    (I:=fun x c st''=>st''=st'/\∃lo hi,c=(none,lo,hi)/\lo<=hi/\hi<=n/\(∀i,i<lo->bey rk left key arr (base+i)=true)/\(∀i,hi<=i->i<n->bey rk left key arr (base+i)=false)/\hi - lo<=n - x)
    (Q:=fun c st''=>st''=st'/\∃hi,c=(none,hi,hi)/\hi<=n/\(∀i,i<hi->bey rk left key arr (base+i)=true)/\(∀i,hi<=i->i<n->bey rk left key arr (base+i)=false)) ?aZ2 ?fin2
    ⟨rfl,hint+la+1,hint+min of (n - hint),rfl,by lia,by lia,fun i hi=>aHy hs ZB h1 h2,up,by lia⟩) ?post2)
   case fin2 =>
    rintro c st'' ⟨rfl,lo,hi,rfl,g1,g2,g3,g4,g5⟩;have:lo=hi:=by lia
    subst this;exact⟨rfl,lo,rfl,g2,g3,g4⟩
   case aZ2 =>
    rintro x c st'' _ hx ⟨rfl,lo,hi,rfl,g1,g2,g3,g4,g5⟩;dsimp only;by_cases hge:lo>=hi
    ·rw[if_pos hge];have:lo=hi:=by lia
     subst this;exact wpS_pure ⟨rfl,lo,rfl,g2,g3,g4⟩
    ·rw[if_neg hge];refine wpS_bind (aF8 hL hk hkey harr (i:=base+(lo+(hi - lo) / 2)) ZB ?_);dsimp only;cases hm:bey rk left key arr (base+(lo+(hi - lo) / 2)) with
     | true =>
      rw[if_pos rfl];exact wpS_pure ⟨rfl,_,hi,rfl,by lia,g2,fun i hi'=>aHy hs ZB ZB hm,g4,by lia⟩
     | false =>
      rw[if_neg ZA];exact wpS_pure ⟨rfl,lo,_,rfl,by lia,by lia,g3,fun i hi' hin=>neg hi' hin hm,by lia⟩
   case post2 =>
    rintro c st'' ⟨rfl,hi,rfl,g2,g3,g4⟩;exact wpS_pure (h hi g2 g3 g4)
 | false =>
  rw[if_neg ZA]
  refine wpS_bind (wpS_mono (wpS_forRange
   (I:=fun x c st'=>st'=st/\∃la of,c=(none,la,of)/\la<=hint/\bey rk left key arr (base+(hint - la))=false/\la<of/\x+1<=of)
   (Q:=fun c st'=>st'=st/\∃la of,c=(none,la,of)/\la<=hint/\bey rk left key arr (base+(hint - la))=false/\la<of/\(hint+1<=of\/(of<=hint/\bey rk left key arr (base+(hint - of))=true))) ?step ?fin ⟨rfl,0,1,rfl,by lia,hr,by lia,by lia⟩) ?post)
  case fin =>
   rintro c st' ⟨rfl,la,of,rfl,h1,h2,h3,h4⟩;exact⟨rfl,la,of,rfl,h1,h2,h3,.inl ZB⟩
  case step =>
   rintro x c st' _ hx ⟨rfl,la,of,rfl,h1,h2,h3,h4⟩;dsimp only;by_cases ho:of>=hint+1
   ·rw[if_pos ho];exact wpS_pure ⟨rfl,la,of,rfl,h1,h2,h3,.inl ho⟩
   ·rw[if_neg ho];refine wpS_bind (aF8 hL hk hkey harr (i:=base+(hint - of)) ZB ?_);dsimp only;cases hm:bey rk left key arr (base+(hint - of)) with
    | true =>
     rw[if_pos rfl];exact wpS_pure ⟨rfl,la,of,rfl,h1,h2,h3,.inr ⟨by lia,hm⟩⟩
    | false =>
     rw[if_neg ZA];exact wpS_pure ⟨rfl,of,2*of+1,rfl,by lia,hm,by lia,by lia⟩
  case post =>
   rintro c st' ⟨rfl,la,of,rfl,h1,h2,h3,h4⟩;dsimp only;have dn:∀i,i<hint+1 - min of (hint+1)->bey rk left key arr (base+i)=true:=fun i hi=>by
    rcases h4 with h4 |⟨h4,h5⟩
    ·lia
    ·exact aHy hs ZB ZB h5
   refine wpS_bind (wpS_mono (wpS_forRange
    (I:=fun x c st''=>st''=st'/\∃lo hi,c=(none,lo,hi)/\lo<=hi/\hi<=n/\(∀i,i<lo->bey rk left key arr (base+i)=true)/\(∀i,hi<=i->i<n->bey rk left key arr (base+i)=false)/\hi - lo<=n - x)
    (Q:=fun c st''=>st''=st'/\∃hi,c=(none,hi,hi)/\hi<=n/\(∀i,i<hi->bey rk left key arr (base+i)=true)/\(∀i,hi<=i->i<n->bey rk left key arr (base+i)=false)) ?aZ2 ?fin2
    ⟨rfl,hint+1 - min of (hint+1),hint - la,rfl,by lia,by lia,dn,fun i hi hin=>neg hi hin h2,by lia⟩) ?post2)
   case fin2 =>
    rintro c st'' ⟨rfl,lo,hi,rfl,g1,g2,g3,g4,g5⟩;have:lo=hi:=by lia
    subst this;exact⟨rfl,lo,rfl,g2,g3,g4⟩
   case aZ2 =>
    rintro x c st'' _ hx ⟨rfl,lo,hi,rfl,g1,g2,g3,g4,g5⟩;dsimp only;by_cases hge:lo>=hi
    ·rw[if_pos hge];have:lo=hi:=by lia
     subst this;exact wpS_pure ⟨rfl,lo,rfl,g2,g3,g4⟩
    ·rw[if_neg hge];refine wpS_bind (aF8 hL hk hkey harr (i:=base+(lo+(hi - lo) / 2)) ZB ?_);dsimp only;cases hm:bey rk left key arr (base+(lo+(hi - lo) / 2)) with
     | true =>
      rw[if_pos rfl];exact wpS_pure ⟨rfl,_,hi,rfl,by lia,g2,fun i hi'=>aHy hs ZB ZB hm,g4,by lia⟩
     | false =>
      rw[if_neg ZA];exact wpS_pure ⟨rfl,lo,_,rfl,by lia,by lia,g3,fun i hi' hin=>neg hi' hin hm,by lia⟩
   case post2 =>
    rintro c st'' ⟨rfl,hi,rfl,g2,g3,g4⟩;exact wpS_pure (h hi g2 g3 g4)
end
def aXt:Array Keyed->Array Keyed->StateT SortSt Sem (Array Keyed):=sortPriv% PySem.Builtin.mergeLo
def aWn:Array Keyed->Array Keyed->StateT SortSt Sem (Array Keyed):=sortPriv% PySem.Builtin.mergeHi
section
variable {rk:Keyed->Nat}{la lb o:List Keyed}{ia ib:Nat}
structure Mg (rk:Keyed->Nat) (la lb o:List Keyed) (ia ib:Nat):Prop where
 perm:o.Perm (la.take ia++lb.take ib)
 srt:o.Pairwise fun x y=>rk x<=rk y
 ua:∀x∈o,∀y∈la.drop ia,rk x<=rk y
 ub:∀x∈o,∀y∈lb.drop ib,rk x<=rk y
abbrev Up(rk:Keyed->Nat)(l:List Keyed):Prop:=l.Pairwise fun x y=>rk x<=rk y
theorem Mg.swap(h:Mg rk la lb o ia ib):Mg rk lb la o ib ia:=⟨h.perm.trans f9,h.srt,h.ub,h.ua⟩
theorem Mg.app(h:Mg rk la lb o ia ib)(sa:Up rk la)(k:Nat)(hx:∀x∈(la.drop ia).take k,∀y∈lb.drop ib,rk x<=rk y):Mg rk la lb (o++(la.drop ia).take k) (ia+k) ib:=by
 have hd:Up rk (la.drop ia):=sa.sublist (iI _ _);have hsplit:(la.drop ia).take k++(la.drop ia).drop k=la.drop ia:=dg k _;rw[<-hsplit] at hd;obtain⟨h1,h2,h3⟩:=eh.mp hd;refine⟨?_,?_,?_,?_⟩
 ·have:la.take (ia+k)=la.take ia++(la.drop ia).take k:=j7;rw[this];refine(h.perm.append_right _).trans ?_;rw[bv,bv];exact(f9).append_left _
 ·refine eh.mpr ⟨h.srt,h1,fun x hx y hy=>h.ua x hx y (gW hy)⟩
 ·intro x hx' y hy;have hy':y∈(la.drop ia).drop k:=by rw[jC];exact hy
  rcases ck.mp hx' with hx' |hx'
  ·exact h.ua x hx' y (gx hy')
  ·exact h3 x hx' y hy'
 ·intro x hx' y hy;rcases ck.mp hx' with hx' |hx'
  ·exact h.ub x hx' y hy
  ·exact hx x hx' y hy
theorem Mg.done_a(h:Mg rk la lb o ia ib)(sa:Up rk la)(hb:lb.length<=ib):Up rk (o++la.drop ia)/\(o++la.drop ia).Perm (la++lb):=by refine⟨eh.mpr ⟨h.srt,sa.sublist (iI _ _),h.ua⟩,?_⟩;refine(h.perm.append_right _).trans ?_;rw[gi hb,bv];refine((f9).append_left _).trans ?_;rw[<-bv,dg]
end
theorem Mg.last{ia ib:Nat}(h:Mg rk la lb o ia ib)(sa:Up rk la)(sb:Up rk lb)(hx:∀x∈lb.drop ib,∀y∈la.drop ia,rk x<=rk y):Up rk (o++lb.drop ib++la.drop ia)/\(o++lb.drop ib++la.drop ia).Perm (la++lb):=by
 refine⟨eh.mpr ⟨eh.mpr ⟨h.srt,sb.sublist (iI _ _),h.ub⟩,sa.sublist (iI _ _),fun x hx' y hy=>?_⟩,?_⟩
 ·rcases ck.mp hx' with hx' |hx'
  ·exact h.ua x hx' y hy
  ·exact hx x hx' y hy
 ·refine((h.perm.append_right _).append_right _).trans ?_;rw[bv (la.take ia),dg,bv];refine(List.Perm.append_left _ f9).trans ?_;rw[<-bv,dg]
theorem Mg.good{ia ib:Nat}(h:Mg rk la lb o ia ib)(sa:Up rk la)(sb:Up rk lb)(hx:lb.length<=ib\/la.length<=ia):Up rk (o++la.drop ia++lb.drop ib)/\(o++la.drop ia++lb.drop ib).Perm (la++lb):=by
 rcases hx with hx |hx
 ·rw[gh hx,gX];exact h.done_a sa hx
 ·rw[gh hx,gX];obtain⟨h1,h2⟩:=h.swap.done_a sb hx;exact⟨h1,h2.trans f9⟩
theorem bAz(out:Array Keyed)(x:Keyed):(out.push x).toList=out.toList ++ [x]:=by simp
theorem aV7(out a:Array Keyed)(i j:Nat):(out++a.extract i j).toList=out.toList++(a.toList.drop i).take (j - i):=by rw[hV,j4,jK]
theorem aH3(out a:Array Keyed)(i:Nat):(out++a.extract i a.size).toList=out.toList++a.toList.drop i:=by rw[aV7,gi (by rw[dj,bg];exact ae _)]
theorem aJx(a:Array Keyed){i:Nat}(h:i<a.size):(a.toList.drop i).take 1 = [a[i]]:=by
 have h':i<a.toList.length:=by simpa using h
 rw[dr h'];simp
section
variable {prog:Program}{w:World}{A:Around}{E:Value->Shared->Prop}{s:Shared}{κ:SortKind}{a₀:Array Keyed}{rk:Keyed->Nat}
abbrev setG(st:SortSt)(g:Nat):SortSt:=SortSt.mk' (kindOf st) (arrOf st) (pendingOf st) g (failedOf st)
def Gd(rk:Keyed->Nat)(a b r:Array Keyed):Prop:=Up rk r.toList/\r.toList.Perm (a.toList++b.toList)
theorem up_ge(h:Up rk l){i:Nat}(hi:i<l.length):∀y∈l.drop i,rk l[i]<=rk y:=by
 intro y hy;rw[dr hi] at hy;have hd:Up rk (l.drop i):=h.sublist (iI _ _);rw[dr hi] at hd;rcases bf.mp hy with rfl |hy
 ·exact ae _
 ·exact(cj.mp hd).1 y hy
theorem Mg.pushB{a b out:Array Keyed}{ia ib:Nat}(h:Mg rk a.toList b.toList out.toList ia ib)(sb:Up rk b.toList)(hb:ib<b.size)(hx:∀y∈a.toList.drop ia,rk b[ib]<=rk y):Mg rk a.toList b.toList (out.push b[ib]).toList ia (ib+1):=by have:=h.swap.app sb 1 (by rw[aJx b hb];intro x hx' y hy;rw[gQ.mp hx'];exact hx y hy);rw[aJx b hb] at this;rw[bAz];exact this.swap
theorem Mg.pushA{a b out:Array Keyed}{ia ib:Nat}(h:Mg rk a.toList b.toList out.toList ia ib)(sa:Up rk a.toList)(ha:ia<a.size)(hx:∀y∈b.toList.drop ib,rk a[ia]<=rk y):Mg rk a.toList b.toList (out.push a[ia]).toList (ia+1) ib:=(Mg.pushB (a:=b) (b:=a) h.swap sa ha hx).swap
theorem Mg.appA{a b out:Array Keyed}{ia ib k:Nat}(h:Mg rk a.toList b.toList out.toList ia ib)(sa:Up rk a.toList)(hx:∀x∈(a.toList.drop ia).take k,∀y∈b.toList.drop ib,rk x<=rk y):Mg rk a.toList b.toList (out++a.extract ia (ia+k)).toList (ia+k) ib:=by rw[aV7,Nat.add_sub_cancel_left];exact h.app sa k hx
theorem Mg.appB{a b out:Array Keyed}{ia ib k:Nat}(h:Mg rk a.toList b.toList out.toList ia ib)(sb:Up rk b.toList)(hx:∀x∈(b.toList.drop ib).take k,∀y∈a.toList.drop ia,rk x<=rk y):Mg rk a.toList b.toList (out++b.extract ib (ib+k)).toList ia (ib+k):=(Mg.appA (a:=b) (b:=a) h.swap sb hx).swap
theorem aKl{ia ib:Nat}(h:Mg rk a.toList b.toList out.toList ia ib)(sa:Up rk a.toList)(sb:Up rk b.toList)(hx:b.size<=ib\/a.size<=ia):Gd rk a b (out++a.extract ia a.size++b.extract ib b.size):=by unfold Gd;rw[aH3,aH3];exact h.good sa sb (by simpa using hx)
theorem aNn{ia ib:Nat}(h:Mg rk a.toList b.toList out.toList ia ib)(sa:Up rk a.toList)(sb:Up rk b.toList)(hx:∀x∈b.toList.drop ib,∀y∈a.toList.drop ia,rk x<=rk y):Gd rk a b (out++b.extract ib b.size++a.extract ia a.size):=by unfold Gd;rw[aH3,aH3];exact h.last sa sb hx
theorem aE1{lo hi:Nat}(h:Up rk a.toList)(hh:hi<=a.size):Srt rk a lo hi:=fun i j _ hij hj=>by
 have h1:i<a.size:=by lia
 have h2:j<a.size:=by lia
 rw[aB1 h1,aB1 h2]
 have:=up_ge h (i:=i) (by simpa using h1) a[j] (by
  rw[iq]
  exact⟨j - i,by rw[dj,bg];lia,by rw[i3];simp;congr 1;lia⟩)
 simpa using this
theorem aUo{a:Array Keyed}{i k:Nat}{x:Keyed}(h:x∈(a.toList.drop i).take k):∃j,j<k/\∃hs:i+j<a.size,x=a[i+j]:=by obtain⟨j,hj,rfl⟩:=iq.mp h;rw[d8,dj,bg] at hj;exact⟨j,by lia,by lia,by rw[i4,i3];simp⟩
def bAw:Nat->StateT SortSt Sem Unit:=sortPriv% PySem.Builtin.setMinGallop
theorem aHf{st:SortSt}{g:Nat}{Q:Unit->SortSt->Prop}(h:Q () (setG st g)):wpS ZI A E s (bAw g) Q st:=by unfold bAw;unfold wpS;wp_delta;wp_delta;refine aI9 ?_;exact wpS_modify h
theorem aYi(hL:LtOk prog w A E s κ a₀ rk){st:SortSt}(hk:kindOf st=κ){a b:Array Keyed}(ha:∀x∈a,x∈a₀)(hb:∀x∈b,x∈a₀)(sa:Up rk a.toList)(sb:Up rk b.toList)(na:0<a.size)(nb:0<b.size)
  (hf:rk b[0]<rk a[0]) (hl:∀x∈b,rk x<rk a[a.size - 1])
  {Q:Array Keyed->SortSt->Prop} (h:∀r g,Gd rk a b r->Q r (setG st g)):wpS ZI A E s (aXt a b) Q st:=by
 have same:∀r,Gd rk a b r->Q r st:=fun r hr=>h r (gallopOf st) hr;have lastA:∀ (ia ib:Nat),ia+1=a.size->∀x∈b.toList.drop ib,∀y∈a.toList.drop ia,rk x<=rk y:=fun ia ib he x hx y hy=>by
  have hi:ia<a.toList.length:=by rw[bg];lia
  have hd:a.toList.drop ia = [a[a.size - 1]]:=by rw[dr hi,gh (by rw[bg];lia)];congr 1;simp;congr 1;lia
  rw[hd] at hy;rw[gQ.mp hy];exact d7 (hl x (by simpa using gx hx))
 have start:Mg rk a.toList b.toList (#[b[0]]:Array Keyed).toList 0 1:=by
  have h0:Mg rk a.toList b.toList (#[]:Array Keyed).toList 0 0:=⟨by simp,.nil,by simp,by simp⟩
  exact h0.pushB sb nb fun y hy=>aq (d7 hf) (by have:=up_ge sa (i:=0) (by simpa using na) y hy;simpa using this)
 unfold aXt;unfold wpS;wp_delta;wp_delta;refine aI9 ?_;refine wpS_bind (wpS_lift (wpAny_rule ⟨rfl,?_⟩))
 repeat fail
 refine wpS_bind (aBo nb ?_)
 repeat fail
 by_cases c1:1=b.size
 ·rw[if_pos (by simpa using c1)];exact wpS_pure (same _ (aKl start sa sb (.inl ZB)))
 rw[if_neg (by simpa using c1)];by_cases c2:0+1=a.size
 ·rw[if_pos (by simpa using c2)];exact wpS_pure (same _ (aNn start sa sb (lastA 0 1 c2)))
 rw[if_neg (by simpa using c2)];refine wpS_bind (wpS_get ?_)
 repeat fail
 refine wpS_bind (wpS_mono (wpS_forRange
  (I:=fun x c st'=>∃g out ia ib mg,st'=setG st g/\c=(none,out,ia,ib,mg)/\Mg rk a.toList b.toList out.toList ia ib/\ia+1<a.size/\ib<b.size/\x+1<=ia+ib)
  (Q:=fun c st'=>∃g r z,st'=setG st g/\c=(some r,z)/\Gd rk a b r) ?step ?fin ⟨gallopOf st,_,0,1,_,rfl,rfl,start,by lia,by lia,by lia⟩) ?post)
 case fin =>
  intro c st' zh;refine aH2 fun zP zk=>?_;obtain⟨g,out,ia,ib,mg,rfl,rfl,h1,h2,h3,h4⟩:=zh;refine zk ?_;lia
 case post =>
  intro c st' zh;refine aH2 fun zP zk=>?_;obtain⟨g,r,z,rfl,rfl,hr⟩:=zh;refine zk ?_;exact wpS_pure (h r g hr)
 case step =>
  intro x c st' _ hx zh;refine aH2 fun zP zk=>?_;obtain⟨g,out,ia,ib,mg,rfl,rfl,h1,h2,h3,h4⟩:=zh;refine zk ?_;have geA:∀ {i:Nat} (hi:i<a.size),∀y∈a.toList.drop i,rk a[i]<=rk y:=fun {i} hi y hy=>by have:=up_ge sa (i:=i) (by simpa using hi) y hy;simpa using this
  have geB:∀ {i:Nat} (hi:i<b.size),∀y∈b.toList.drop i,rk b[i]<=rk y:=fun {i} hi y hy=>by have:=up_ge sb (i:=i) (by simpa using hi) y hy;simpa using this
  repeat fail
  dsimp (zeta:=false) (zetaHave:=false) only
  refine wpS_bind (wpS_mono (wpS_forRange
   (I:=fun y c st'=>st'=setG st g/\∃out ia ib ac bc,c=(none,out,ia,ib,ac,bc)/\Mg rk a.toList b.toList out.toList ia ib/\ia+1<a.size/\ib<b.size/\x+1+y<=ia+ib)
   (Q:=fun c st'=>st'=setG st g/\((∃r z,c=(some r,z)/\Gd rk a b r)\/∃out ia ib ac bc,c=(none,out,ia,ib,ac,bc)/\Mg rk a.toList b.toList out.toList ia ib/\ia+1<a.size/\ib<b.size/\x+2<=ia+ib)) ?s1 ?f1 ⟨rfl,out,ia,ib,0,0,rfl,h1,h2,h3,by lia⟩) ?p1)
  case f1 =>
   intro c st' zh;refine aH2 fun zP zk=>?_;obtain⟨rfl,out,ia,ib,ac,bc,rfl,g1,g2,g3,g4⟩:=zh;refine zk ?_;exact⟨rfl,.inr ⟨out,ia,ib,ac,bc,rfl,g1,g2,g3,by lia⟩⟩
  case s1 =>
   intro y c st' _ hy zh;refine aH2 fun zP zk=>?_;obtain⟨rfl,out,ia,ib,ac,bc,rfl,g1,g2,g3,g4⟩:=zh;refine zk ?_;have g2':ia<a.size:=by lia
   repeat fail
   dsimp (zeta:=false) (zetaHave:=false) only;refine wpS_bind (aBo g3 ?_);refine wpS_bind (aBo g2' ?_);refine wpS_bind (hL _ _ _ _ hk (hb _ (bz _)) (ha _ (bz _)) ?_);dsimp (zeta:=false) (zetaHave:=false) only;by_cases hw:rk b[ib]<rk a[ia]
   ·rw[if_pos (by simpa using hw)];refine wpS_bind (aBo g3 ?_)
    repeat fail
    have m1:=g1.pushB sb g3 fun y hy=>aq (d7 hw) (geA g2' y hy);by_cases c:ib+1=b.size
    ·rw[if_pos (by simpa using c)];exact wpS_pure ⟨rfl,.inl ⟨_,_,rfl,aKl m1 sa sb (.inl ZB)⟩⟩
    ·rw[if_neg (by simpa using c)];split
     ·exact wpS_pure ⟨rfl,.inr ⟨_,_,_,_,_,rfl,m1,g2,by lia,by lia⟩⟩
     ·exact wpS_pure ⟨rfl,_,_,_,_,_,rfl,m1,g2,by lia,by lia⟩
   ·rw[if_neg (by simpa using hw)];refine wpS_bind (aBo g2' ?_)
    repeat fail
    have m1:=g1.pushA sa g2' fun y hy=>aq ZB (geB g3 y hy);by_cases c:ia+1+1=a.size
    ·rw[if_pos (by simpa using c)];exact wpS_pure ⟨rfl,.inl ⟨_,_,rfl,aNn m1 sa sb (lastA _ _ c)⟩⟩
    ·rw[if_neg (by simpa using c)];split
     ·exact wpS_pure ⟨rfl,.inr ⟨_,_,_,_,_,rfl,m1,by lia,g3,by lia⟩⟩
     ·exact wpS_pure ⟨rfl,_,_,_,_,_,rfl,m1,by lia,g3,by lia⟩
  case p1 =>
   rintro c st' ⟨rfl,⟨r,z,rfl,hr⟩ |⟨out,ia,ib,ac,bc,rfl,g1,g2,g3,g4⟩⟩
   ·repeat fail
    exact wpS_pure ⟨g,r,_,rfl,rfl,hr⟩
   ·repeat fail
    dsimp (zeta:=false) (zetaHave:=false) only;refine wpS_bind (wpS_lift (wpAny_rule ⟨rfl,?_⟩))
    repeat fail
    refine wpS_bind (wpS_mono (wpS_forRange
     (I:=fun y c st'=>∃g out ia ib mg ac bc,st'=setG st g/\c=(none,out,ia,ib,mg,ac,bc)/\Mg rk a.toList b.toList out.toList ia ib/\ia+1<a.size/\ib<b.size/\x+2<=ia+ib)
     (Q:=fun c st'=>∃g,st'=setG st g/\((∃r z,c=(some r,z)/\Gd rk a b r)\/∃out ia ib mg ac bc,c=(none,out,ia,ib,mg,ac,bc)/\Mg rk a.toList b.toList out.toList ia ib/\ia+1<a.size/\ib<b.size/\x+2<=ia+ib)) ?s2 ?f2 ⟨g,out,ia,ib,_,ac,bc,rfl,rfl,g1,g2,g3,g4⟩) ?p2)
    case f2 =>
     intro c st' zh;refine aH2 fun zP zk=>?_;obtain⟨g,out,ia,ib,mg,ac,bc,rfl,rfl,g1,g2,g3,g4⟩:=zh;refine zk ?_;exact⟨g,rfl,.inr ⟨out,ia,ib,mg,ac,bc,rfl,g1,g2,g3,g4⟩⟩
    case p2 =>
     rintro c st' ⟨g,rfl,⟨r,z,rfl,hr⟩ |⟨out,ia,ib,mg,ac,bc,rfl,g1,g2,g3,g4⟩⟩
     ·repeat fail
      exact wpS_pure ⟨g,r,_,rfl,rfl,hr⟩
     ·repeat fail
      dsimp (zeta:=false) (zetaHave:=false) only
      repeat fail
      refine wpS_bind (aHf ?_);exact wpS_pure ⟨mg+1,out,ia,ib,mg+1,rfl,rfl,g1,g2,g3,by lia⟩
    case s2 =>
     intro y c st' _ hy zh;refine aH2 fun zP zk=>?_;obtain⟨g,out,ia,ib,mg,ac,bc,rfl,rfl,g1,g2,g3,g4⟩:=zh;refine zk ?_;have g2':ia<a.size:=by lia
     fail;fail;fail;fail;fail;fail;fail;fail;fail;fail;fail
     dsimp (zeta:=false) (zetaHave:=false) only;refine aK2 ?_;intro Q' hQ';extract_lets +onlyGivenNames -underBinder jpv;clear_value (hjpv:jpv=_);revert jpv;refine via (P:=fun jp=>∀u m,wpS ZI A E s (jp u m) Q' (setG st g)) ?j0 ?k0
     case k0 =>
      subst hQ';intro jp hj;split
      ·fail;exact hj _ _
      ·exact hj _ _
     case j0 =>
      subst hQ';intro u mg';refine wpS_bind (aHf ?_);refine wpS_bind (aBo g3 ?_);refine wpS_bind (aE2 (st:=setG st mg') (arr:=a) (base:=ia) (n:=a.size - ia) hL hk (hb _ (bz _)) ha ZB ZB (aE1 sa ZB) fun k hk1 hk2 hk3=>?_);dsimp (zeta:=false) (zetaHave:=false) only;have lo:∀x∈(a.toList.drop ia).take k,∀y∈b.toList.drop ib,rk x<=rk y:=fun x hx y hy=>by obtain⟨j,hj,hs,rfl⟩:=aUo hx;have:=hk2 j hj;unfold bey at this;rw[aB1 hs] at this;simp at this;exact aq this (geB g3 y hy)
      have hi:∀ (hs:ia+k<a.size),rk b[ib]<rk a[ia+k]:=fun hs=>by have:=hk3 k (ae _) ZB;unfold bey at this;rw[aB1 hs] at this;simpa using this
      fail
      refine aK2 ?_;intro Q' hQ';extract_lets +onlyGivenNames -underBinder jpv;clear_value (hjpv:jpv=_);revert jpv;refine via (P:=fun jp=>∀u (out':Array Keyed) (ia':Nat),Mg rk a.toList b.toList out'.toList ia' ib->(hlt:ia'+1<a.size)->rk b[ib]<rk (a[ia']' ZB)->ia<=ia'->wpS ZI A E s (jp u out' ia') Q' (setG st mg')) ?j1 ?k1
      case k1 =>
       subst hQ';intro jp hj;split
       ·fail;fail
        have m1:=g1.appA sa lo;by_cases c:ia+k+1=a.size
        ·rw[if_pos (by simpa using c)];exact wpS_pure ⟨mg',rfl,.inl ⟨_,_,rfl,aNn m1 sa sb (lastA _ _ c)⟩⟩
        ·rw[if_neg (by simpa using c)];by_cases c':ia+k=a.size
         ·rw[if_pos (by simpa using c')];exact wpS_pure ⟨mg',rfl,.inl ⟨_,_,rfl,aKl m1 sa sb (.inr ZB)⟩⟩
         ·rw[if_neg (by simpa using c')];exact hj _ _ _ m1 ZB (hi ZB) ZB
       ·have:k=0:=by lia
        subst this;exact hj _ _ _ g1 g2 (hi g2') (ae _)
      case j1 =>
       subst hQ';intro u out' ia' n1 n2 n3 n4;have n2':ia'<a.size:=by lia
       refine wpS_bind (aBo g3 ?_)
       fail;fail
       have m1:=n1.pushB sb g3 fun y hy=>aq (d7 n3) (geA n2' y hy);by_cases c:ib+1=b.size
       ·rw[if_pos (by simpa using c)];exact wpS_pure ⟨mg',rfl,.inl ⟨_,_,rfl,aKl m1 sa sb (.inl ZB)⟩⟩
       ·rw[if_neg (by simpa using c)];refine wpS_bind (aBo n2' ?_);refine wpS_bind (aE2 (st:=setG st mg') (arr:=b) (base:=ib+1) (n:=b.size - (ib+1)) hL hk (ha _ (bz _)) hb ZB ZB (aE1 sb ZB) fun k2 hq1 hq2 hq3=>?_);dsimp (zeta:=false) (zetaHave:=false) only;have lo2:∀x∈(b.toList.drop (ib+1)).take k2,∀y∈a.toList.drop ia',rk x<=rk y:=fun x hx y hy=>by obtain⟨j,hj,hs,rfl⟩:=aUo hx;have:=hq2 j hj;unfold bey at this;rw[aB1 hs] at this;simp at this;exact aq (d7 this) (geA n2' y hy)
        have hi2:∀ (hs:ib+1+k2<b.size),rk a[ia']<=rk b[ib+1+k2]:=fun hs=>by have:=hq3 k2 (ae _) ZB;unfold bey at this;rw[aB1 hs] at this;simpa using this
        fail
        refine aK2 ?_;intro Q' hQ';extract_lets +onlyGivenNames -underBinder jpv;clear_value (hjpv:jpv=_);revert jpv;refine via (P:=fun jp=>∀u (out'':Array Keyed) (ib':Nat),Mg rk a.toList b.toList out''.toList ia' ib'->(hlt:ib'<b.size)->rk a[ia']<=rk b[ib']->ib+1<=ib'->wpS ZI A E s (jp u out'' ib') Q' (setG st mg')) ?j2 ?k2
        case k2 =>
         subst hQ';intro jp hj;split
         ·fail;fail
          have m2:=m1.appB sb lo2;by_cases c':ib+1+k2=b.size
          ·rw[if_pos (by simpa using c')];exact wpS_pure ⟨mg',rfl,.inl ⟨_,_,rfl,aKl m2 sa sb (.inl ZB)⟩⟩
          ·rw[if_neg (by simpa using c')];exact hj _ _ _ m2 ZB (hi2 ZB) ZB
         ·have:k2=0:=by lia
          subst this;exact hj _ _ _ m1 ZB (hi2 ZB) (ae _)
        case j2 =>
         subst hQ';intro u out'' ib' p1 p2 p3 p4;refine wpS_bind (aBo n2' ?_)
         fail;fail
         have m3:=p1.pushA sa n2' fun y hy=>aq p3 (geB p2 y hy);by_cases c':ia'+1+1=a.size
         ·rw[if_pos (by simpa using c')];exact wpS_pure ⟨mg',rfl,.inl ⟨_,_,rfl,aNn m3 sa sb (lastA _ _ c')⟩⟩
         ·rw[if_neg (by simpa using c')];split
          ·exact wpS_pure ⟨mg',rfl,.inr ⟨_,_,_,_,_,_,rfl,m3,by lia,p2,by lia⟩⟩
          ·exact wpS_pure ⟨mg',_,_,_,_,_,_,rfl,rfl,m3,by lia,p2,by lia⟩
end
section
variable {rk:Keyed->Nat}{la lb R:List Keyed}{na nb:Nat}
structure Mh (rk:Keyed->Nat) (la lb R:List Keyed) (na nb:Nat):Prop where
 perm:R.Perm (la.drop na++lb.drop nb)
 srt:Up rk R
 ua:∀x∈la.take na,∀y∈R,rk x<=rk y
 ub:∀x∈lb.take nb,∀y∈R,rk x<=rk y
theorem Mh.swap(h:Mh rk la lb R na nb):Mh rk lb la R nb na:=⟨h.perm.trans f9,h.srt,h.ub,h.ua⟩
theorem Mh.app(h:Mh rk la lb R na nb)(sa:Up rk la)(m:Nat)(hm:m<=na)(hx:∀x∈(la.drop m).take (na - m),∀y∈lb.take nb,rk y<=rk x):Mh rk la lb ((la.drop m).take (na - m)++R) m nb:=by
 have hd:la.drop m=(la.drop m).take (na - m)++la.drop na:=by
  have:(la.drop m).drop (na - m)=la.drop na:=by rw[jC];congr 1;lia
  rw[<-this,dg]
 have ht:la.take na=la.take m++(la.drop m).take (na - m):=by have:=j7 (l:=la) (i:=m) (j:=na - m);rw[show m+(na - m)=na by lia] at this;exact this
 have st:Up rk (la.take na):=sa.sublist (iY _ _);rw[ht] at st;obtain⟨s1,s2,s3⟩:=eh.mp st;refine⟨?_,?_,?_,?_⟩
 ·refine(h.perm.append_left _).trans ?_;rw[<-bv,<-hd]
 ·exact eh.mpr ⟨s2,h.srt,fun x hx' y hy=>h.ua x (by rw[ht];exact c9 _ hx') y hy⟩
 ·intro x hx' y hy;rcases ck.mp hy with hy |hy
  ·exact s3 x hx' y hy
  ·exact h.ua x (by rw[ht];exact du _ hx') y hy
 ·intro x hx' y hy;rcases ck.mp hy with hy |hy
  ·exact hx y hy x hx'
  ·exact h.ub x hx' y hy
theorem Mh.fin(h:Mh rk la lb R na nb)(sa:Up rk la)(sb:Up rk lb)(hx:∀x∈la.take na,∀y∈lb.take nb,rk x<=rk y):Up rk (la.take na++lb.take nb++R)/\(la.take na++lb.take nb++R).Perm (la++lb):=by
 refine⟨eh.mpr ⟨eh.mpr ⟨sa.sublist (iY _ _),sb.sublist (iY _ _),hx⟩,h.srt,fun x hx' y hy=>?_⟩,?_⟩
 ·rcases ck.mp hx' with hx' |hx'
  ·exact h.ua x hx' y hy
  ·exact h.ub x hx' y hy
 ·refine(h.perm.append_left _).trans ?_;have p:(la.take na++lb.take nb++(la.drop na++lb.drop nb)).Perm (la.take na++la.drop na++(lb.take nb++lb.drop nb)):=by rw[bv,bv];refine List.Perm.append_left _ ?_;rw[<-bv,<-bv];exact f9.append_right _
  rw[dg,dg] at p;exact p
end
section
variable {prog:Program}{w:World}{A:Around}{E:Value->Shared->Prop}{s:Shared}{κ:SortKind}{a₀:Array Keyed}{rk:Keyed->Nat}
theorem aE5(a:Array Keyed)(m n:Nat):(a.extract m n).toList=(a.toList.drop m).take (n - m):=by rw[j4,jK]
theorem rev_push(out:Array Keyed)(x:Keyed):(out.push x).toList.reverse = [x]++out.toList.reverse:=by simp
theorem rev_app(out c:Array Keyed):(out++c.reverse).toList.reverse=c.toList++out.toList.reverse:=by simp
theorem aHl(a:Array Keyed)(n:Nat):(a.extract 0 n).toList=a.toList.take n:=by rw[aE5];simp
theorem Mh.pushA{a b out:Array Keyed}{na nb:Nat}(h:Mh rk a.toList b.toList out.toList.reverse na nb)(sa:Up rk a.toList)(h0:0<na)(ha:na - 1<a.size)(hx:∀y∈b.toList.take nb,rk y<=rk a[na - 1]):Mh rk a.toList b.toList (out.push a[na - 1]).toList.reverse (na - 1) nb:=by
 have e:(a.toList.drop (na - 1)).take (na - (na - 1)) = [a[na - 1]]:=by rw[show na - (na - 1)=1 by lia,aJx a ha]
 have:=h.app sa (na - 1) ZB (by rw[e];intro x hx' y hy;rw[gQ.mp hx'];exact hx y hy);rw[e] at this;rw[rev_push];exact this
theorem Mh.pushB{a b out:Array Keyed}{na nb:Nat}(h:Mh rk a.toList b.toList out.toList.reverse na nb)(sb:Up rk b.toList)(h0:0<nb)(hb:nb - 1<b.size)(hx:∀y∈a.toList.take na,rk y<=rk b[nb - 1]):Mh rk a.toList b.toList (out.push b[nb - 1]).toList.reverse na (nb - 1):=(Mh.pushA (a:=b) (b:=a) h.swap sb h0 hb hx).swap
theorem Mh.appA{a b out:Array Keyed}{na nb m:Nat}(h:Mh rk a.toList b.toList out.toList.reverse na nb)(sa:Up rk a.toList)(hm:m<=na)(hx:∀x∈(a.toList.drop m).take (na - m),∀y∈b.toList.take nb,rk y<=rk x):Mh rk a.toList b.toList (out++(a.extract m na).reverse).toList.reverse m nb:=by rw[rev_app,aE5];exact h.app sa m hm hx
theorem Mh.appB{a b out:Array Keyed}{na nb m:Nat}(h:Mh rk a.toList b.toList out.toList.reverse na nb)(sb:Up rk b.toList)(hm:m<=nb)(hx:∀x∈(b.toList.drop m).take (nb - m),∀y∈a.toList.take na,rk y<=rk x):Mh rk a.toList b.toList (out++(b.extract m nb).reverse).toList.reverse na m:=(Mh.appA (a:=b) (b:=a) h.swap sb hm hx).swap
theorem aH7{a b out:Array Keyed}{na nb:Nat}(h:Mh rk a.toList b.toList out.toList.reverse na nb)(sa:Up rk a.toList)(sb:Up rk b.toList)(hx:na=0\/nb=0):Gd rk a b (a.extract 0 na++b.extract 0 nb++out.reverse):=by
 unfold Gd;rw[hV,hV,aHl,aHl,j5];refine h.fin sa sb ?_;rcases hx with rfl |rfl
 ·intro x hx;simp at hx
 ·intro x _ y hy;simp at hy
theorem aHm{a b out:Array Keyed}{na nb:Nat}(h:Mh rk a.toList b.toList out.toList.reverse na nb)(sa:Up rk a.toList)(sb:Up rk b.toList)(hx:∀x∈b.toList.take nb,∀y∈a.toList.take na,rk x<=rk y):Gd rk a b (b.extract 0 nb++a.extract 0 na++out.reverse):=by unfold Gd;rw[hV,hV,aHl,aHl,j5];obtain⟨h1,h2⟩:=h.swap.fin sb sa hx;exact⟨h1,h2.trans f9⟩
theorem up_le{a:Array Keyed}(h:Up rk a.toList){n:Nat}(h0:0<n)(hn:n - 1<a.size):∀y∈a.toList.take n,rk y<=rk a[n - 1]:=by intro y hy;obtain⟨j,hj,rfl⟩:=iq.mp hy;rw[d8,bg] at hj;rw[i4];have:=aE1 (rk:=rk) (lo:=0) (hi:=a.size) h (ae _) j (n - 1) ZB ZB ZB;rw[aB1 ZB,aB1 hn] at this;simpa using this
theorem aYm(hL:LtOk prog w A E s κ a₀ rk){st:SortSt}(hk:kindOf st=κ){a b:Array Keyed}(ha:∀x∈a,x∈a₀)(hb:∀x∈b,x∈a₀)(sa:Up rk a.toList)(sb:Up rk b.toList)(na0:0<a.size)(nb0:0<b.size)
  (hf:∀x∈a,rk b[0]<rk x) (hl:∀x∈b,rk x<rk a[a.size - 1])
  {Q:Array Keyed->SortSt->Prop} (h:∀r g,Gd rk a b r->Q r (setG st g)):wpS ZI A E s (aWn a b) Q st:=by
 have same:∀r,Gd rk a b r->Q r st:=fun r hr=>h r (gallopOf st) hr;have firstB:∀na,∀x∈b.toList.take 1,∀y∈a.toList.take na,rk x<=rk y:=fun na x hx y hy=>by
  have hx:x=b[0]:=by have:=aJx b nb0;rw[jZ] at this;rw[this] at hx;exact gQ.mp hx
  rw[hx];exact d7 (hf y (by simpa using gW hy))
 have start:Mh rk a.toList b.toList (#[a[a.size - 1]]:Array Keyed).toList.reverse (a.size - 1) b.size:=by
  have h0:Mh rk a.toList b.toList (#[]:Array Keyed).toList.reverse a.size b.size:=⟨by simp,by simp,by simp,by simp⟩
  exact h0.pushA sa na0 ZB fun y hy=>d7 (hl y (by simpa using gW hy))
 have leA:∀ {n:Nat} (h0:0<n) (hn:n - 1<a.size),∀y∈a.toList.take n,rk y<=rk a[n - 1]:=fun {n} h0 hn=>up_le sa h0 hn;have leB:∀ {n:Nat} (h0:0<n) (hn:n - 1<b.size),∀y∈b.toList.take n,rk y<=rk b[n - 1]:=fun {n} h0 hn=>up_le sb h0 hn;unfold aWn;unfold wpS;wp_delta;wp_delta;refine aI9 ?_;refine wpS_bind (wpS_lift (wpAny_rule ⟨rfl,?_⟩))
 repeat fail
 refine wpS_bind (aBo (i:=a.size - 1) ZB ?_)
 repeat fail
 by_cases c1:a.size - 1=0
 ·rw[if_pos (by simpa using c1)];exact wpS_pure (same _ (aH7 start sa sb (.inl c1)))
 rw[if_neg (by simpa using c1)];by_cases c2:b.size=1
 ·rw[if_pos (by simpa using c2)];exact wpS_pure (same _ (aHm start sa sb (by rw[c2];exact firstB _)))
 rw[if_neg (by simpa using c2)];refine wpS_bind (wpS_get ?_)
 repeat fail
 refine wpS_bind (wpS_mono (wpS_forRange
  (I:=fun x c st'=>∃g na nb out mg,st'=setG st g/\c=(none,na,nb,out,mg)/\Mh rk a.toList b.toList out.toList.reverse na nb/\0<na/\na<=a.size/\1<nb/\nb<=b.size/\x+1+na+nb<=a.size+b.size)
  (Q:=fun c st'=>∃g r z,st'=setG st g/\c=(some r,z)/\Gd rk a b r) ?step ?fin ⟨gallopOf st,a.size - 1,b.size,_,_,rfl,rfl,start,by lia,by lia,by lia,by lia,by lia⟩) ?post)
 case fin =>
  intro c st' zh;refine aH2 fun zP zk=>?_;obtain⟨g,na,nb,out,mg,rfl,rfl,h1,h2,h3,h4,h5,h6⟩:=zh;refine zk ?_;lia
 case post =>
  intro c st' zh;refine aH2 fun zP zk=>?_;obtain⟨g,r,z,rfl,rfl,hr⟩:=zh;refine zk ?_;exact wpS_pure (h r g hr)
 case step =>
  intro x c st' _ hx zh;refine aH2 fun zP zk=>?_;obtain⟨g,na,nb,out,mg,rfl,rfl,h1,h2,h3,h4,h5,h6⟩:=zh;refine zk ?_
  repeat fail
  dsimp (zeta:=false) (zetaHave:=false) only
  refine wpS_bind (wpS_mono (wpS_forRange
   (I:=fun y c st'=>st'=setG st g/\∃na nb out ac bc,c=(none,na,nb,out,ac,bc)/\Mh rk a.toList b.toList out.toList.reverse na nb/\0<na/\na<=a.size/\1<nb/\nb<=b.size/\x+1+y+na+nb<=a.size+b.size)
   (Q:=fun c st'=>st'=setG st g/\((∃r z,c=(some r,z)/\Gd rk a b r)\/∃na nb out ac bc,c=(none,na,nb,out,ac,bc)/\Mh rk a.toList b.toList out.toList.reverse na nb/\0<na/\na<=a.size/\1<nb/\nb<=b.size/\x+2+na+nb<=a.size+b.size)) ?s1 ?f1 ⟨rfl,na,nb,out,0,0,rfl,h1,h2,h3,h4,h5,by lia⟩) ?p1)
  case f1 =>
   intro c st' zh;refine aH2 fun zP zk=>?_;obtain⟨rfl,na,nb,out,ac,bc,rfl,g1,g2,g3,g4,g5,g6⟩:=zh;refine zk ?_;exact⟨rfl,.inr ⟨na,nb,out,ac,bc,rfl,g1,g2,g3,g4,g5,by lia⟩⟩
  case s1 =>
   intro y c st' _ hy zh;refine aH2 fun zP zk=>?_;obtain⟨rfl,na,nb,out,ac,bc,rfl,g1,g2,g3,g4,g5,g6⟩:=zh;refine zk ?_;have ga:na - 1<a.size:=by lia
   have gb:nb - 1<b.size:=by lia
   repeat fail
   dsimp (zeta:=false) (zetaHave:=false) only;refine wpS_bind (aBo gb ?_);refine wpS_bind (aBo ga ?_);refine wpS_bind (hL _ _ _ _ hk (hb _ (bz _)) (ha _ (bz _)) ?_);dsimp (zeta:=false) (zetaHave:=false) only;by_cases hw:rk b[nb - 1]<rk a[na - 1]
   ·rw[if_pos (by simpa using hw)]
    repeat fail
    refine wpS_bind (aBo ga ?_)
    repeat fail
    have m1:=g1.pushA sa g2 ga fun y hy=>aq (leB ZB gb y hy) (d7 hw);by_cases c:na - 1=0
    ·rw[if_pos (by simpa using c)];exact wpS_pure ⟨rfl,.inl ⟨_,_,rfl,aH7 m1 sa sb (.inl c)⟩⟩
    ·rw[if_neg (by simpa using c)];split
     ·exact wpS_pure ⟨rfl,.inr ⟨_,_,_,_,_,rfl,m1,by lia,by lia,g4,g5,by lia⟩⟩
     ·exact wpS_pure ⟨rfl,_,_,_,_,_,rfl,m1,by lia,by lia,g4,g5,by lia⟩
   ·rw[if_neg (by simpa using hw)]
    repeat fail
    refine wpS_bind (aBo gb ?_)
    repeat fail
    have m1:=g1.pushB sb ZB gb fun y hy=>aq (leA g2 ga y hy) ZB;by_cases c:nb - 1=1
    ·rw[if_pos (by simpa using c)];exact wpS_pure ⟨rfl,.inl ⟨_,_,rfl,aHm m1 sa sb (by rw[c];exact firstB _)⟩⟩
    ·rw[if_neg (by simpa using c)];split
     ·exact wpS_pure ⟨rfl,.inr ⟨_,_,_,_,_,rfl,m1,g2,g3,by lia,by lia,by lia⟩⟩
     ·exact wpS_pure ⟨rfl,_,_,_,_,_,rfl,m1,g2,g3,by lia,by lia,by lia⟩
  case p1 =>
   rintro c st' ⟨rfl,⟨r,z,rfl,hr⟩ |⟨na,nb,out,ac,bc,rfl,g1,g2,g3,g4,g5,g6⟩⟩
   ·repeat fail
    exact wpS_pure ⟨g,r,_,rfl,rfl,hr⟩
   ·repeat fail
    dsimp (zeta:=false) (zetaHave:=false) only;refine wpS_bind (wpS_lift (wpAny_rule ⟨rfl,?_⟩))
    repeat fail
    refine wpS_bind (wpS_mono (wpS_forRange
     (I:=fun y c st'=>∃g na nb out mg ac bc,st'=setG st g/\c=(none,na,nb,out,mg,ac,bc)/\Mh rk a.toList b.toList out.toList.reverse na nb/\0<na/\na<=a.size/\1<nb/\nb<=b.size/\x+2+na+nb<=a.size+b.size)
     (Q:=fun c st'=>∃g,st'=setG st g/\((∃r z,c=(some r,z)/\Gd rk a b r)\/∃na nb out mg ac bc,c=(none,na,nb,out,mg,ac,bc)/\Mh rk a.toList b.toList out.toList.reverse na nb/\0<na/\na<=a.size/\1<nb/\nb<=b.size/\x+2+na+nb<=a.size+b.size)) ?s2 ?f2 ⟨g,na,nb,out,_,ac,bc,rfl,rfl,g1,g2,g3,g4,g5,g6⟩) ?p2)
    case f2 =>
     intro c st' zh;refine aH2 fun zP zk=>?_;obtain⟨g,na,nb,out,mg,ac,bc,rfl,rfl,g1,g2,g3,g4,g5,g6⟩:=zh;refine zk ?_;exact⟨g,rfl,.inr ⟨na,nb,out,mg,ac,bc,rfl,g1,g2,g3,g4,g5,g6⟩⟩
    case p2 =>
     rintro c st' ⟨g,rfl,⟨r,z,rfl,hr⟩ |⟨na,nb,out,mg,ac,bc,rfl,g1,g2,g3,g4,g5,g6⟩⟩
     ·repeat fail
      exact wpS_pure ⟨g,r,_,rfl,rfl,hr⟩
     ·repeat fail
      dsimp (zeta:=false) (zetaHave:=false) only
      repeat fail
      refine wpS_bind (aHf ?_);exact wpS_pure ⟨mg+1,na,nb,out,mg+1,rfl,rfl,g1,g2,g3,g4,g5,by lia⟩
    case s2 =>
     intro y c st' _ hy zh;refine aH2 fun zP zk=>?_;obtain⟨g,na,nb,out,mg,ac,bc,rfl,rfl,g1,g2,g3,g4,g5,g6⟩:=zh;refine zk ?_;have ga:na - 1<a.size:=by lia
     have gb:nb - 1<b.size:=by lia
     fail;fail;fail;fail;fail;fail;fail;fail;fail;fail;fail
     dsimp (zeta:=false) (zetaHave:=false) only;refine aK2 ?_;intro Q' hQ';extract_lets +onlyGivenNames -underBinder jpv;clear_value (hjpv:jpv=_);revert jpv;refine via (P:=fun jp=>∀u m,wpS ZI A E s (jp u m) Q' (setG st g)) ?j0 ?k0
     case k0 =>
      subst hQ';intro jp hj;split
      ·fail;exact hj _ _
      ·exact hj _ _
     case j0 =>
      subst hQ';intro u mg';refine wpS_bind (aHf ?_);refine wpS_bind (aBo gb ?_);refine wpS_bind (aE2 (st:=setG st mg') (arr:=a) (base:=0) (n:=na) hL hk (hb _ (bz _)) ha ZB ZB (aE1 sa ZB) fun k hk1 hk2 hk3=>?_);dsimp (zeta:=false) (zetaHave:=false) only;have lo:∀x∈(a.toList.drop k).take (na - k),∀y∈b.toList.take nb,rk y<=rk x:=fun x hx y hy=>by obtain⟨j,hj,hs,rfl⟩:=aUo hx;have:=hk3 (k+j) ZB ZB;unfold bey at this;rw[iz,aB1 hs] at this;simp at this;exact aq (leB ZB gb y hy) (d7 this)
      have hi:∀ (h0:0<k) (hs:k - 1<a.size),rk a[k - 1]<=rk b[nb - 1]:=fun h0 hs=>by have:=hk2 (k - 1) ZB;unfold bey at this;rw[iz,aB1 hs] at this;simpa using this
      fail;fail
      refine aK2 ?_;intro Q' hQ';extract_lets +onlyGivenNames -underBinder jpv;clear_value (hjpv:jpv=_);revert jpv;refine via (P:=fun jp=>∀u (na':Nat) (out':Array Keyed),Mh rk a.toList b.toList out'.toList.reverse na' nb->0<na'->(hlt:na'<=na)->rk (a[na' - 1]' ZB)<=rk b[nb - 1]->wpS ZI A E s (jp u na' out') Q' (setG st mg')) ?j1 ?k1
      case k1 =>
       subst hQ';intro jp hj;split
       ·fail;fail
        have m1:=g1.appA sa hk1 lo;by_cases c:k=0
        ·rw[if_pos (by simpa using c)];exact wpS_pure ⟨mg',rfl,.inl ⟨_,_,rfl,aH7 m1 sa sb (.inl c)⟩⟩
        ·rw[if_neg (by simpa using c)];exact hj _ _ _ m1 ZB hk1 (hi ZB ZB)
       ·have:k=na:=by lia
        subst this;exact hj _ _ _ g1 g2 (ae _) (hi g2 ga)
      case j1 =>
       subst hQ';intro u na' out' n1 n2 n3 n4;have ga':na' - 1<a.size:=by lia
       fail
       refine wpS_bind (aBo gb ?_)
       fail
       have m1:=n1.pushB sb ZB gb fun y hy=>aq (leA n2 ga' y hy) n4;by_cases c:nb - 1=1
       ·rw[if_pos (by simpa using c)];exact wpS_pure ⟨mg',rfl,.inl ⟨_,_,rfl,aHm m1 sa sb (by rw[c];exact firstB _)⟩⟩
       ·rw[if_neg (by simpa using c)];refine wpS_bind (aBo ga' ?_);refine wpS_bind (aE2 (st:=setG st mg') (arr:=b) (base:=0) (n:=nb - 1) hL hk (ha _ (bz _)) hb ZB ZB (aE1 sb ZB) fun k2 hq1 hq2 hq3=>?_);dsimp (zeta:=false) (zetaHave:=false) only;have lo2:∀x∈(b.toList.drop k2).take (nb - 1 - k2),∀y∈a.toList.take na',rk y<=rk x:=fun x hx y hy=>by obtain⟨j,hj,hs,rfl⟩:=aUo hx;have:=hq3 (k2+j) ZB ZB;unfold bey at this;rw[iz,aB1 hs] at this;simp at this;exact aq (leA n2 ga' y hy) this
        have hi2:∀ (h0:0<k2) (hs:k2 - 1<b.size),rk b[k2 - 1]<rk a[na' - 1]:=fun h0 hs=>by have:=hq2 (k2 - 1) ZB;unfold bey at this;rw[iz,aB1 hs] at this;simpa using this
        fail;fail
        refine aK2 ?_;intro Q' hQ';extract_lets +onlyGivenNames -underBinder jpv;clear_value (hjpv:jpv=_);revert jpv;refine via (P:=fun jp=>∀u (nb':Nat) (out'':Array Keyed),Mh rk a.toList b.toList out''.toList.reverse na' nb'->1<nb'->(hlt:nb'<=nb - 1)->rk (b[nb' - 1]' ZB)<rk a[na' - 1]->wpS ZI A E s (jp u nb' out'') Q' (setG st mg')) ?j2 ?k2
        case k2 =>
         subst hQ';intro jp hj;split
         ·fail;fail
          have m2:=m1.appB sb hq1 lo2;by_cases c':k2=1
          ·rw[if_pos (by simpa using c')];exact wpS_pure ⟨mg',rfl,.inl ⟨_,_,rfl,aHm m2 sa sb (by rw[c'];exact firstB _)⟩⟩
          ·rw[if_neg (by simpa using c')];by_cases c'':k2=0
           ·rw[if_pos (by simpa using c'')];exact wpS_pure ⟨mg',rfl,.inl ⟨_,_,rfl,aH7 m2 sa sb (.inr c'')⟩⟩
           ·rw[if_neg (by simpa using c'')];exact hj _ _ _ m2 ZB hq1 (hi2 ZB ZB)
         ·have:k2=nb - 1:=by lia
          subst this;exact hj _ _ _ m1 ZB (ae _) (hi2 ZB ZB)
        case j2 =>
         subst hQ';intro u nb' out'' p1 p2 p3 p4
         fail
         refine wpS_bind (aBo ga' ?_)
         fail
         have m3:=p1.pushA sa n2 ga' fun y hy=>aq (leB ZB ZB y hy) (d7 p4);by_cases c':na' - 1=0
         ·rw[if_pos (by simpa using c')];exact wpS_pure ⟨mg',rfl,.inl ⟨_,_,rfl,aH7 m3 sa sb (.inl c')⟩⟩
         ·rw[if_neg (by simpa using c')];split
          ·exact wpS_pure ⟨mg',rfl,.inr ⟨_,_,_,_,_,_,rfl,m3,by lia,by lia,p2,by lia,by lia⟩⟩
          ·exact wpS_pure ⟨mg',_,_,_,_,_,_,rfl,rfl,m3,by lia,by lia,p2,by lia,by lia⟩
end
theorem aX7(m:List Keyed):∀ (n:Nat) (arr:Array Keyed) (lo:Nat),lo+n+m.length<=arr.size ->
  ((m.zipIdx n).foldl (fun a (p:Keyed × Nat)=>a.setIfInBounds (lo+p.2) p.1) arr).toList=arr.toList.take (lo+n)++m++arr.toList.drop (lo+n+m.length):=by
 induction m with
 |nil=>intro n arr lo h;simp
 | cons x m ih =>
  intro n arr lo h;rw[jQ,gM,ih (n+1) _ lo (by rw[Array.size_setIfInBounds,ah] at *;lia)];rw[ah] at h;have hlt:lo+n<arr.toList.length:=by rw[bg];lia
  rw[jG];have e1:(arr.toList.set (lo+n) x).take (lo+(n+1))=arr.toList.take (lo+n) ++ [x]:=by rw[show lo+(n+1)=lo+n+1 by lia,jk,List.take_set_of_le (ae _)];rw[i8 hlt];rfl
  have e2:(arr.toList.set (lo+n) x).drop (lo+(n+1)+m.length)=arr.toList.drop (lo+n+(x::m).length):=by rw[List.drop_set_of_lt ZB,ah];congr 1;lia
  rw[e1,e2];simp
def aXb:Nat->StateT SortSt Sem Bool:=sortPriv% PySem.Builtin.mergeAt
section
variable {prog:Program}{w:World}{A:Around}{E:Value->Shared->Prop}{s:Shared}{κ:SortKind}{a₀:Array Keyed}{rk:Keyed->Nat}
abbrev aYt(st:SortSt)(p:Array (Nat × Nat × Nat))(xs:Array Keyed)(g:Nat):SortSt:=SortSt.mk' (kindOf st) xs p g (failedOf st)
structure Chg (rk:Keyed->Nat) (xs xs':Array Keyed) (lo hi:Nat):Prop where
 perm:xs'.Perm xs
 same:∀i,(i<lo\/hi<=i)->xs'[i]?=xs[i]?
 srt:Srt rk xs' lo hi
theorem aLx{lo hi i j:Nat}(h:Srt rk xs lo hi)(h1:lo<=i)(h2:j<=hi)(h3:hi<=xs.size):Up rk (xs.extract i j).toList:=by rw[aE5,Up,jL];intro p q hp hq hpq;rw[d8,dj,bg] at hp hq;rw[i4,i3,i4,i3];have:=h (i+p) (i+q) ZB ZB ZB;rw[aB1 ZB,aB1 ZB] at this;simpa using this
theorem aVp{xs:Array Keyed}{i j k:Nat}(h:k<(xs.extract i j).size)(h':i+k<xs.size):(xs.extract i j)[k]=xs[i+k]:=by rw[Array.getElem_extract]
theorem aHj{xs:Array Keyed}{i j:Nat}(h:j<=xs.size):(xs.extract i j).size=j - i:=by rw[Array.size_extract];lia
theorem aNi{xs:Array Keyed}{i j:Nat}{x:Keyed}(hj:j<=xs.size)(h:x∈xs.extract i j):∃k,i<=k/\k<j/\∃hs:k<xs.size,x=xs[k]:=by obtain⟨k,hk,rfl⟩:=Array.mem_iff_getElem.mp h;rw[aHj hj] at hk;exact⟨i+k,by lia,by lia,by lia,aVp _ _⟩
theorem bA9{sa na nb k k2:Nat}(hsz:sa+na+nb<=xs.size)(hk:k<na)(h0:0<k2)(hk2:k2<=nb)(s1:Srt rk xs sa (sa+na))(s2:Srt rk xs (sa+na) (sa+na+nb))
  (lo:∀p,sa<=p->p<sa+k->at_ rk xs p<=at_ rk xs (sa+na)) (up:∀p,sa+k<=p->p<sa+na->at_ rk xs (sa+na)<at_ rk xs p)
  (lo2:∀p,sa+na<=p->p<sa+na+k2->at_ rk xs p<at_ rk xs (sa+na - 1)) (up2:∀p,sa+na+k2<=p->p<sa+na+nb->at_ rk xs (sa+na - 1)<=at_ rk xs p)
  (hr:Gd rk (xs.extract (sa+k) (sa+na)) (xs.extract (sa+na) (sa+na+k2)) r) :
  Chg rk xs (List.foldl (fun a (p:Keyed × Nat)=>a.setIfInBounds (sa+k+p.2) p.1) xs r.toList.zipIdx) sa (sa+na+nb):=by
 obtain⟨hu,hp⟩:=hr;have hlen:r.toList.length=na - k+k2:=by rw[hp.length_eq,bp,bg,bg,aHj ZB,aHj ZB];lia
 have W:=aX7 r.toList 0 xs (sa+k) (by rw[hlen];lia);rw[Nat.add_zero,hlen] at W;generalize hys:List.foldl (fun a (p:Keyed × Nat)=>a.setIfInBounds (sa+k+p.2) p.1) xs r.toList.zipIdx=ys at W |-;have hXY:(xs.extract (sa+k) (sa+na)).toList++(xs.extract (sa+na) (sa+na+k2)).toList=(xs.toList.drop (sa+k)).take (na - k+k2):=by
  rw[aE5,aE5,j7,jC];congr 2
  ·lia
  ·lia
  ·congr 1;lia
 have hlt:(xs.toList.take (sa+k)).length=sa+k:=by rw[d8,bg];lia
 have g1:∀p,p<sa+k->ys[p]?=xs[p]?:=fun p h=>by rw[<-ci,W,bv,gN ZB,jM h,ci]
 have g2:∀p,sa+k<=p->p<sa+na+k2->ys[p]?=r.toList[p - (sa+k)]?:=fun p h h'=>by rw[<-ci,W,bv,gm ZB,hlt,gN ZB]
 have g3:∀p,sa+na+k2<=p->ys[p]?=xs[p]?:=fun p h=>by rw[<-ci,W,gm (by rw[bp];lia),bp,hlt,hlen,List.getElem?_drop,ci];congr 1;lia
 have inr:∀p,sa+k<=p->p<sa+na+k2->∃q,sa+k<=q/\q<sa+na+k2/\at_ rk ys p=at_ rk xs q:=fun p h h'=>by
  have hi:p - (sa+k)<r.toList.length:=by lia
  have hm:r.toList[p - (sa+k)]∈(xs.toList.drop (sa+k)).take (na - k+k2):=by rw[<-hXY];exact hp.mem_iff.mp (fg hi)
  obtain⟨j,hj,hs,e⟩:=aUo hm;refine⟨sa+k+j,by lia,by lia,?_⟩;rw[aB1 hs,<-e];unfold at_;rw[g2 p h h',ba hi];rfl
 have a1:∀p,p<sa+k->at_ rk ys p=at_ rk xs p:=fun p h=>by unfold at_;rw[g1 p h]
 have a3:∀p,sa+na+k2<=p->at_ rk ys p=at_ rk xs p:=fun p h=>by unfold at_;rw[g3 p h]
 refine⟨?_,fun p h=>?_,fun p q h1 h2 h3=>?_⟩
 ·rw[jH,W];have:xs.toList=xs.toList.take (sa+k)++((xs.toList.drop (sa+k)).take (na - k+k2)++xs.toList.drop (sa+k+(na - k+k2))):=by
   have e:xs.toList.drop (sa+k+(na - k+k2))=(xs.toList.drop (sa+k)).drop (na - k+k2):=by rw[jC]
   rw[e,dg,dg]
  rw[bv]
  conv=>rhs;rw[this]
  refine List.Perm.append_left _ (List.Perm.append_right _ ?_);rw[<-hXY];exact hp
 ·rcases h with h |h
  ·exact g1 p ZB
  ·exact g3 p ZB
 ·have key:∀u v,sa<=u->u<sa+na->sa+na<=v->v<sa+na+nb->(u<sa+k\/sa+na+k2<=v)->at_ rk xs u<=at_ rk xs v:=fun u v b1 b2 b3 b4 b5=>by
   rcases b5 with b5 |b5
   ·exact aq (lo u b1 b5) (s2 _ v (ae _) b3 b4)
   ·exact aq (s1 u (sa+na - 1) b1 ZB ZB) (up2 v b5 b4)
  have cmp:∀u v,sa<=u->u<=v->v<sa+na+nb->(u<sa+k\/sa+na+k2<=v)->at_ rk xs u<=at_ rk xs v:=fun u v b1 b2 b3 b4=>by
   rcases d9 v (sa+na) with c |c
   ·exact s1 u v b1 b2 c
   ·rcases d9 u (sa+na) with d |d
    ·exact key u v b1 d c b3 b4
    ·exact s2 u v d b2 b3
  rcases d9 p (sa+k) with c1 |c1
  ·rw[a1 p c1];rcases d9 q (sa+k) with c2 |c2
   ·rw[a1 q c2];exact cmp p q h1 h2 h3 (.inl c1)
   ·rcases d9 q (sa+na+k2) with c3 |c3
    ·obtain⟨q',q1,q2,e⟩:=inr q c2 c3;rw[e];exact cmp p q' h1 ZB ZB (.inl c1)
    ·rw[a3 q c3];exact cmp p q h1 h2 h3 (.inl c1)
  ·rcases d9 p (sa+na+k2) with c2 |c2
   ·rcases d9 q (sa+na+k2) with c3 |c3
    ·have hpl:p - (sa+k)<r.size:=by rw[<-bg];lia
     have hql:q - (sa+k)<r.size:=by rw[<-bg];lia
     have:=aE1 (rk:=rk) (lo:=0) (hi:=r.size) hu (ae _) (p - (sa+k)) (q - (sa+k)) ZB ZB hql;unfold at_ at this |-;rw[g2 p c1 c2,g2 q ZB c3,ci,ci];exact this
    ·obtain⟨p',q1,q2,e⟩:=inr p c1 c2;rw[e,a3 q c3];exact cmp p' q ZB ZB h3 (.inr c3)
   ·rw[a3 p c2,a3 q ZB];exact cmp p q h1 h2 h3 (.inr ZB)
theorem wpS_set'{st st':SortSt}{Q:PUnit->SortSt->Prop}(h:Q ⟨⟩ st'):wpS ZI A E s (set st':StateT SortSt Sem PUnit) Q st:=by unfold wpS;rw[StateT.run_set];exact wpAny_pure ⟨rfl,h⟩
theorem aYg(hL:LtOk prog w A E s κ a₀ rk){st:SortSt}(hk:kindOf st=κ)(hp:(arrOf st).Perm a₀)(hfl:failedOf st=none){i sa na pa nb pb:Nat}(p1:(pendingOf st)[i]?=some (sa,na,pa))(p2:(pendingOf st)[i+1]?=some (sa+na,nb,pb))
  (na0:0<na) (nb0:0<nb) (hsz:sa+na+nb<=(arrOf st).size) (s1:Srt rk (arrOf st) sa (sa+na)) (s2:Srt rk (arrOf st) (sa+na) (sa+na+nb))
  {Q:Bool->SortSt->Prop} (h:∀xs g,Chg rk (arrOf st) xs sa (sa+na+nb)->Q true (aYt st (((pendingOf st).setIfInBounds i (sa,na+nb,pa)).eraseIdxIfInBounds (i+1)) xs g)):wpS ZI A E s (aXb i) Q st:=by
 unfold aXb;unfold wpS;wp_delta;wp_delta;refine aI9 ?_;have hmem:∀x∈arrOf st,x∈a₀:=fun x hx=>hp.mem_iff.mp hx
 have done:(∀p q,sa<=p->p<sa+na->sa+na<=q->q<sa+na+nb->at_ rk (arrOf st) p<=at_ rk (arrOf st) q)->Chg rk (arrOf st) (arrOf st) sa (sa+na+nb):=fun hx=>⟨.refl _,fun _ _=>rfl,fun p q h1 h2 h3=>by
  rcases d9 q (sa+na) with c |c
  ·exact s1 p q h1 h2 c
  ·rcases d9 p (sa+na) with c' |c'
   ·exact hx p q h1 c' c h3
   ·exact s2 p q c' h2 h3⟩
 have hsb:sa+na<(arrOf st).size:=by lia
 refine wpS_bind (wpS_get ?_);rw[show (PyProof.Rows.pendingOf st)[i]?=some (sa,na,pa) from p1,show (PyProof.Rows.pendingOf st)[i+1]?=some (sa+na,nb,pb) from p2];dsimp (zeta:=false) (zetaHave:=false) only;refine wpS_bind (wpS_set' ?_);refine wpS_bind (aBo hsb ?_);refine wpS_bind (aE2 (st:=aYt st (((pendingOf st).setIfInBounds i (sa,na+nb,pa)).eraseIdxIfInBounds (i+1)) (arrOf st) (gallopOf st)) (arr:=arrOf st) (base:=sa) (n:=na) hL hk (hmem _ (bz _)) hmem ZB na0 s1 fun k hk1 hk2 hk3=>?_);dsimp (zeta:=false) (zetaHave:=false) only;have lo:∀p,sa<=p->p<sa+k->at_ rk (arrOf st) p<=at_ rk (arrOf st) (sa+na):=fun p h1 h2=>by have:=hk2 (p - sa) ZB;unfold bey at this;rw[show sa+(p - sa)=p by lia] at this;rw[aB1 hsb];simpa using this
 have up:∀p,sa+k<=p->p<sa+na->at_ rk (arrOf st) (sa+na)<at_ rk (arrOf st) p:=fun p h1 h2=>by have:=hk3 (p - sa) ZB ZB;unfold bey at this;rw[show sa+(p - sa)=p by lia] at this;rw[aB1 hsb];simpa using this
 by_cases c:na - k=0
 ·rw[if_pos (by simpa using c)];refine wpS_pure (h _ (gallopOf st) (done fun p q h1 h2 h3 h4=>aq (lo p h1 ZB) (s2 (sa+na) q (ae _) h3 h4)))
 rw[if_neg (by simpa using c)];have hl0:sa+k+(na - k) - 1<(arrOf st).size:=by lia
 refine wpS_bind (aBo hl0 ?_);refine wpS_bind (aE2 (st:=aYt st (((pendingOf st).setIfInBounds i (sa,na+nb,pa)).eraseIdxIfInBounds (i+1)) (arrOf st) (gallopOf st)) (arr:=arrOf st) (base:=sa+na) (n:=nb) hL hk (hmem _ (bz _)) hmem ZB ZB s2 fun k2 hq1 hq2 hq3=>?_);dsimp (zeta:=false) (zetaHave:=false) only;have eL:sa+k+(na - k) - 1=sa+na - 1:=by lia
 have lo2:∀p,sa+na<=p->p<sa+na+k2->at_ rk (arrOf st) p<at_ rk (arrOf st) (sa+na - 1):=fun p h1 h2=>by have:=hq2 (p - (sa+na)) ZB;unfold bey at this;rw[show sa+na+(p - (sa+na))=p by lia] at this;rw[<-eL,aB1 hl0];simpa using this
 have up2:∀p,sa+na+k2<=p->p<sa+na+nb->at_ rk (arrOf st) (sa+na - 1)<=at_ rk (arrOf st) p:=fun p h1 h2=>by have:=hq3 (p - (sa+na)) ZB ZB;unfold bey at this;rw[show sa+na+(p - (sa+na))=p by lia] at this;rw[<-eL,aB1 hl0];simpa using this
 by_cases c':k2=0
 ·rw[if_pos (by simpa using c')];refine wpS_pure (h _ (gallopOf st) (done fun p q h1 h2 h3 h4=>aq (s1 p (sa+na - 1) h1 ZB ZB) (up2 q ZB h4)))
 rw[if_neg (by simpa using c')]
 fail;fail
 refine aK2 ?_;intro Q' hQ';extract_lets +onlyGivenNames -underBinder jpv;clear_value (hjpv:jpv=_);revert jpv;refine via (P:=fun jp=>∀ (r:Array Keyed) g,Gd rk ((arrOf st).extract (sa+k) (sa+na)) ((arrOf st).extract (sa+na) (sa+na+k2)) r->wpS ZI A E s (jp r) Q' (aYt st (((pendingOf st).setIfInBounds i (sa,na+nb,pa)).eraseIdxIfInBounds (i+1)) (arrOf st) g)) ?j0 ?k0
 case k0 =>
  subst hQ';intro jp hj;have zX:((arrOf st).extract (sa+k) (sa+na)).size=na - k:=by rw[aHj ZB];lia
  have zY:((arrOf st).extract (sa+na) (sa+na+k2)).size=k2:=by rw[aHj ZB];lia
  have mX:∀x∈(arrOf st).extract (sa+k) (sa+na),x∈a₀:=fun x hx=>by obtain⟨p,_,_,hs,rfl⟩:=aNi ZB hx;exact hmem _ (bz _)
  have mY:∀x∈(arrOf st).extract (sa+na) (sa+na+k2),x∈a₀:=fun x hx=>by obtain⟨p,_,_,hs,rfl⟩:=aNi ZB hx;exact hmem _ (bz _)
  have uX:Up rk ((arrOf st).extract (sa+k) (sa+na)).toList:=aLx s1 ZB ZB ZB;have uY:Up rk ((arrOf st).extract (sa+na) (sa+na+k2)).toList:=aLx s2 ZB ZB ZB;have gY:((arrOf st).extract (sa+na) (sa+na+k2))[0]' ZB=(arrOf st)[sa+na]:=aVp _ ZB;have hF:∀x∈(arrOf st).extract (sa+k) (sa+na),rk (((arrOf st).extract (sa+na) (sa+na+k2))[0]' ZB)<rk x:=fun x hx=>by obtain⟨p,q1,q2,hs,rfl⟩:=aNi ZB hx;rw[gY];have:=up p q1 q2;rw[aB1 hs,aB1 hsb] at this;exact this
  have hLs:∀x∈(arrOf st).extract (sa+na) (sa+na+k2),rk x<rk (((arrOf st).extract (sa+k) (sa+na))[((arrOf st).extract (sa+k) (sa+na)).size - 1]' ZB):=fun x hx=>by
   obtain⟨p,q1,q2,hs,rfl⟩:=aNi ZB hx;rw[aVp (h':=by rw[zX];lia)];have:=lo2 p q1 q2;rw[aB1 hs,aB1 ZB] at this;have e:sa+k+(((arrOf st).extract (sa+k) (sa+na)).size - 1)=sa+na - 1:=by rw[zX];lia
   simp only[e];exact this
  split
  ·exact wpS_bind (aYi (st:=aYt st (((pendingOf st).setIfInBounds i (sa,na+nb,pa)).eraseIdxIfInBounds (i+1)) (arrOf st) (gallopOf st)) hL hk mX mY uX uY ZB ZB (hF _ (bz _)) hLs fun r g hr=>hj r g hr)
  ·exact wpS_bind (aYm (st:=aYt st (((pendingOf st).setIfInBounds i (sa,na+nb,pa)).eraseIdxIfInBounds (i+1)) (arrOf st) (gallopOf st)) hL hk mX mY uX uY ZB ZB hF hLs fun r g hr=>hj r g hr)
 case j0 =>
  subst hQ';intro r g hr;refine wpS_bind (wpS_modify ?_);refine wpS_bind (wpS_get ?_);refine wpS_pure ?_;have e:(failedOf st).isNone=true:=by rw[hfl];rfl
  show Q' (failedOf st).isNone _;rw[e];exact h _ g (bA9 hsz ZB ZB hq1 s1 s2 lo up lo2 up2 hr)
theorem aIt(hL:LtOk prog w A E s κ a₀ rk){st:SortSt}(hk:kindOf st=κ)(hm:∀x∈arrOf st,x∈a₀){i j:Nat}(hi:i<(arrOf st).size)(hj:j<(arrOf st).size){Q:Option Bool->SortSt->Prop}(h:Q (some (decide (at_ rk (arrOf st) i<at_ rk (arrOf st) j))) st):wpS ZI A E s (ltAt' i j) Q st:=by rw[ltAt'_eq];refine wpS_bind (wpS_get ?_);refine wpS_bind (aBo hi (wpS_bind (aBo hj ?_)));refine hL st _ _ _ hk (hm _ (bz _)) (hm _ (bz _)) ?_;rw[aB1 hi,aB1 hj] at h;exact h
def binT:Nat->Nat->Nat->StateT SortSt Sem Bool:=sortPriv% PySem.Builtin.binarySort
def cntT:Nat->Nat->StateT SortSt Sem (Option Nat):=sortPriv% PySem.Builtin.countRun
structure Mov (xs xs':Array Keyed) (lo hi:Nat):Prop where
 perm:xs'.Perm xs
 same:∀i,(i<lo\/hi<=i)->xs'[i]?=xs[i]?
theorem Mov.refl(xs:Array Keyed)(lo hi:Nat):Mov xs xs lo hi:=⟨.refl _,fun _ _=>rfl⟩
theorem Mov.trans{lo hi:Nat}(a:Mov xs ys lo hi)(b:Mov ys zs lo hi):Mov xs zs lo hi:=⟨b.perm.trans a.perm,fun i h=>(b.same i h).trans (a.same i h)⟩
theorem Mov.size{lo hi:Nat}(a:Mov xs ys lo hi):ys.size=xs.size:=a.perm.size_eq
theorem srt_one{lo ok:Nat}(h:Srt rk xs lo (lo+ok)):Srt rk xs lo (lo+max ok 1):=fun p q b1 b2 b3=>by
 rcases d9 q (lo+ok) with c |c
 ·exact h p q b1 b2 c
 ·have:p=q:=by lia
  subst this;exact ae _
theorem aY4{src d:Nat}(hs:src<xs.size)(hd:d<=src)(p:Nat):at_ rk (bubble xs src d) p=if p=src - d then at_ rk xs src else if src - d<p/\p<=src then at_ rk xs (p - 1) else at_ rk xs p:=by
 unfold at_;rw[getElem?_bubble hs d hd p];split
 ·rfl
 ·split<;>rfl
theorem bin_ok(hL:LtOk prog w A E s κ a₀ rk){st:SortSt}(hk:kindOf st=κ)(hp:(arrOf st).Perm a₀){lo n ok:Nat}(hn:lo+n<=(arrOf st).size)(hok:ok<=n)(hs:Srt rk (arrOf st) lo (lo+ok))
  {Q:Bool->SortSt->Prop} (h:∀xs,Mov (arrOf st) xs lo (lo+n)->Srt rk xs lo (lo+n)->Q true (setArr st xs)):wpS ZI A E s (binT lo n ok) Q st:=by
 unfold binT;unfold wpS;wp_delta;wp_delta;refine aI9 ?_
 refine wpS_bind (wpS_mono (wpS_forRange
  (I:=fun k c st'=>c=(none,())/\∃xs,st'=setArr st xs/\Mov (arrOf st) xs lo (lo+n)/\Srt rk xs lo (lo+k)/\(k<=n\/n=0))
  (Q:=fun c st'=>c=(none,())/\∃xs,st'=setArr st xs/\Mov (arrOf st) xs lo (lo+n)/\Srt rk xs lo (lo+n)) ?step ?fin ⟨rfl,arrOf st,rfl,.refl _ _ _,srt_one hs,by lia⟩) ?post)
 case fin =>
  rintro c st' ⟨rfl,xs,rfl,h1,h2,h3⟩;refine⟨rfl,xs,rfl,h1,fun p q b1 b2 b3=>h2 p q b1 b2 ZB⟩
 case post =>
  rintro c st' ⟨rfl,xs,rfl,h1,h2⟩
  repeat fail
  exact wpS_pure (h xs h1 h2)
 case step =>
  rintro k c st' hk0 hkn ⟨rfl,xs,rfl,h1,h2,h3⟩;have hsz:=h1.size;have hm:∀x∈xs,x∈a₀:=fun x hx=>(h1.perm.trans hp).mem_iff.mp hx
  repeat fail
  refine wpS_bind (wpS_mono (wpS_forRange
   (I:=fun x c st'=>st'=setArr st xs/\∃l r,c=(none,l,r)/\l<=r/\r<=k/\r - l<=k - x/\(∀p,p<l->at_ rk xs (lo+p)<=at_ rk xs (lo+k))/\(∀p,r<=p->p<k->at_ rk xs (lo+k)<at_ rk xs (lo+p)))
   (Q:=fun c st'=>st'=setArr st xs/\∃l,c=(none,l,l)/\l<=k/\(∀p,p<l->at_ rk xs (lo+p)<=at_ rk xs (lo+k))/\(∀p,l<=p->p<k->at_ rk xs (lo+k)<at_ rk xs (lo+p))) ?s1 ?f1 ⟨rfl,0,k,rfl,by lia,by lia,by lia,fun p hp=>by lia,fun p hp hq=>by lia⟩) ?p1)
  case f1 =>
   rintro c st' ⟨rfl,l,r,rfl,g1,g2,g3,g4,g5⟩;have:l=r:=by lia
   subst this;exact⟨rfl,l,rfl,g2,g4,g5⟩
  case s1 =>
   rintro x c st' _ hx ⟨rfl,l,r,rfl,g1,g2,g3,g4,g5⟩
   repeat fail
   dsimp (zeta:=false) (zetaHave:=false) only;by_cases hlr:l>=r
   ·rw[if_pos hlr];have:l=r:=by lia
    subst this;exact wpS_pure ⟨rfl,l,rfl,g2,g4,g5⟩
   ·rw[if_neg hlr]
    repeat fail
    refine wpS_bind (aIt (st:=setArr st xs) hL hk hm (by show _<xs.size;lia) (by show _<xs.size;lia) ?_);dsimp (zeta:=false) (zetaHave:=false) only;by_cases hw:at_ rk xs (lo+k)<at_ rk xs (lo+(l+r) / 2)
    ·rw[if_pos (by simpa using hw)]
     repeat fail
     refine wpS_pure ⟨rfl,l,_,rfl,by lia,by lia,by lia,g4,fun p b1 b2=>?_⟩;exact bj hw (h2 _ _ ZB ZB ZB)
    ·rw[if_neg (by simpa using hw)]
     repeat fail
     refine wpS_pure ⟨rfl,_,r,rfl,by lia,by lia,by lia,fun p b1=>?_,g5⟩;exact aq (h2 (lo+p) (lo+(l+r) / 2) ZB ZB ZB) ZB
  case p1 =>
   rintro c st' ⟨rfl,l,rfl,g2,g4,g5⟩
   repeat fail
   dsimp (zeta:=false) (zetaHave:=false) only;refine wpS_bind ?_;refine wpS_modify ?_;refine wpS_pure ⟨rfl,bubble xs (lo+k) (lo+k - (lo+l)),rfl,h1.trans ⟨bubble_perm _ _ _,fun p hp'=>?_⟩,fun p q b1 b2 b3=>?_,.inl ZB⟩
   ·rw[getElem?_bubble ZB _ ZB,if_neg ZB,if_neg ZB]
   ·have e:=aY4 (rk:=rk) (xs:=xs) (src:=lo+k) (d:=lo+k - (lo+l)) ZB ZB;rw[e,e]
    repeat' split
    all_goals first
     |lia
     |exact ae _
     |exact d7 (by rename_i z;exact(by have:=g5 (q - 1 - lo) ZB ZB;rw[show lo+(q - 1 - lo)=q - 1 by lia] at this;exact this))
     |(have:=g4 (p - lo) ZB;rw[show lo+(p - lo)=p by lia] at this;exact this)
     |exact h2 _ _ ZB ZB ZB
theorem aXn{st:SortSt}{i j:Nat}{Q:Unit->SortSt->Prop}(h:Q () (setArr st (mirror (arrOf st) i j ((j - i) / 2)))):wpS ZI A E s (reverseSlice' i j) Q st:=by rw[reverseSlice'_eq];exact wpS_modify h
theorem aQa{i j:Nat}(hj:j<=xs.size)(p:Nat):at_ rk (mirror xs i j ((j - i) / 2)) p=if i<=p/\p<j then at_ rk xs (i+j - 1 - p) else at_ rk xs p:=by unfold at_;rw[getElem?_mirror_all hj p];split<;>rfl
theorem aGd{i j:Nat}(hj:j<=xs.size)(he:∀p,i<=p->p<j->at_ rk xs p=at_ rk xs (j - 1))(p:Nat):at_ rk (mirror xs i j ((j - i) / 2)) p=at_ rk xs p:=by
 rw[aQa hj];split
 ·rw[he _ ZB ZB,he p ZB ZB]
 ·rfl
theorem Mov.mirror{i j lo hi:Nat}(hj:j<=xs.size)(h1:lo<=i)(h2:j<=hi):Mov xs (mirror xs i j ((j - i) / 2)) lo hi:=⟨mirror_perm _ _ _ _,fun p hp=>by
 rw[getElem?_mirror_all hj p,if_neg ZB]⟩
def NI(rk:Keyed->Nat)(xs:Array Keyed)(lo hi:Nat):Prop:=∀p q,lo<=p->p<=q->q<hi->at_ rk xs q<=at_ rk xs p
theorem aL5(hL:LtOk prog w A E s κ a₀ rk){st:SortSt}(hk:kindOf st=κ)(hp:(arrOf st).Perm a₀){lo nrem:Nat}(hn:lo+nrem<=(arrOf st).size)(h1:1<=nrem)
  {Q:Option Nat->SortSt->Prop} (h:∀xs n,1<=n->n<=nrem->Mov (arrOf st) xs lo (lo+nrem)->Srt rk xs lo (lo+n)->(Srt rk (arrOf st) lo (lo+nrem)->n=nrem)->Q (some n) (setArr st xs)):wpS ZI A E s (cntT lo nrem) Q st:=by
 have hm0:∀x∈arrOf st,x∈a₀:=fun x hx=>hp.mem_iff.mp hx;have hmv:∀ {xs:Array Keyed},Mov (arrOf st) xs lo (lo+nrem)->∀x∈xs,x∈a₀:=fun m x hx=>(m.perm.trans hp).mem_iff.mp hx;have b0:Srt rk (arrOf st) lo (lo+1):=fun p q b1 b2 b3=>by
  have:p=q:=by lia
  subst this;exact ae _
 unfold cntT;unfold wpS;wp_delta;wp_delta;refine aI9 ?_
 refine wpS_bind (wpS_mono (wpS_forRange
  (I:=fun x c st'=>st'=st/\c=(none,x)/\1<=x/\x<=nrem/\Srt rk (arrOf st) lo (lo+x))
  (Q:=fun c st'=>st'=st/\∃n,c=(none,n)/\1<=n/\n<=nrem/\Srt rk (arrOf st) lo (lo+n)/\(n<nrem->at_ rk (arrOf st) (lo+n)<at_ rk (arrOf st) (lo+n - 1))) ?s1 ?f1 ⟨rfl,rfl,ae _,h1,b0⟩) ?p1)
 case f1 =>
  rintro c st' ⟨rfl,rfl,g1,g2,g3⟩;exact⟨rfl,_,rfl,g1,g2,g3,fun hlt=>by lia⟩
 case s1 =>
  rintro x c st' _ hx ⟨rfl,rfl,g1,g2,g3⟩
  repeat fail
  dsimp (zeta:=false) (zetaHave:=false) only;refine wpS_bind (aIt hL hk hm0 ZB ZB ?_);dsimp (zeta:=false) (zetaHave:=false) only;by_cases hw:at_ rk (arrOf st') (lo+x)<at_ rk (arrOf st') (lo+x - 1)
  ·rw[if_pos (by simpa using hw)];exact wpS_pure ⟨rfl,x,rfl,g1,g2,g3,fun _=>hw⟩
  ·rw[if_neg (by simpa using hw)]
   repeat fail
   refine wpS_pure ⟨rfl,rfl,by lia,by lia,fun p q b1 b2 b3=>?_⟩;rcases d9 q (lo+x) with c |c
   ·exact g3 p q b1 b2 c
   ·have:q=lo+x:=by lia
    subst this;rcases d9 p (lo+x) with d |d
    ·exact aq (g3 p (lo+x - 1) b1 ZB ZB) ZB
    ·have:p=lo+x:=by lia
     subst this;exact ae _
 case p1 =>
  rintro c st' ⟨rfl,n,rfl,g1,g2,g3,g4⟩
  repeat fail
  dsimp (zeta:=false) (zetaHave:=false) only;by_cases c:n=nrem
  ·rw[if_pos (by simpa using c)];exact wpS_pure (h (arrOf st') n g1 g2 (.refl _ _ _) g3 fun _=>c)
  rw[if_neg (by simpa using c)];have g4:=g4 ZB;have no:∀ {m:Nat},Srt rk (arrOf st') lo (lo+nrem)->m=nrem:=fun z=>absurd (z (lo+n - 1) (lo+n) ZB ZB ZB) ZB;refine aK2 ?_;intro Q' hQ';extract_lets +onlyGivenNames -underBinder jpv;clear_value (hjpv:jpv=_);revert jpv;refine via (P:=fun jp=>∀u xs,Mov (arrOf st') xs lo (lo+nrem)->(∀p,lo<=p->p<lo+n->at_ rk xs p=at_ rk xs lo)->at_ rk xs (lo+n)<at_ rk xs (lo+n - 1)->wpS ZI A E s (jp u) Q' (setArr st' xs)) ?j0 ?k0
  case k0 =>
   subst hQ';intro jp hj;split
   ·refine wpS_bind (aIt hL hk hm0 ZB ZB ?_);dsimp (zeta:=false) (zetaHave:=false) only;by_cases hw:at_ rk (arrOf st') lo<at_ rk (arrOf st') (lo+n - 1)
    ·rw[if_pos (by simpa using hw)];exact wpS_pure (h (arrOf st') n g1 g2 (.refl _ _ _) g3 no)
    ·rw[if_neg (by simpa using hw)];have heq:∀p,lo<=p->p<lo+n->at_ rk (arrOf st') p=at_ rk (arrOf st') (lo+n - 1):=fun p b1 b2=>by have:=g3 lo p (ae _) b1 b2;have:=g3 p (lo+n - 1) b1 ZB ZB;lia
     have hej:=aGd (rk:=rk) (xs:=arrOf st') (i:=lo) (j:=lo+n) ZB heq;refine wpS_bind (aXn ?_);refine hj _ _ (.mirror ZB ZB ZB) (fun p b1 b2=>?_) ?_
     ·rw[hej,hej,heq p b1 b2,heq lo ZB ZB]
     ·rw[hej,hej];exact g4
   ·have:n=1:=by lia
    subst this;refine hj _ (arrOf st') (.refl _ _ _) (fun p b1 b2=>?_) g4;have:p=lo:=by lia
    rw[this]
  case j0 =>
   subst hQ';intro u xs m1 e1 e2;refine wpS_bind (wpS_lift (wpAny_rule ⟨rfl,?_⟩))
   fail;fail
   have n0:NI rk xs lo (lo+(n+1)):=fun p q b1 b2 b3=>by
    rcases d9 q (lo+n) with c |c
    ·rw[e1 p b1 ZB,e1 q ZB c];exact ae _
    ·have:q=lo+n:=by lia
     subst this;rcases d9 p (lo+n) with d |d
     ·rw[e1 p b1 d];rw[e1 (lo+n - 1) ZB ZB] at e2;lia
     ·have:p=lo+n:=by lia
      subst this;exact ae _
   refine wpS_bind (wpS_mono (wpS_forRange
    (I:=fun x c st''=>∃xs neq,st''=setArr st' xs/\c=(none,x,neq)/\Mov (arrOf st') xs lo (lo+nrem)/\NI rk xs lo (lo+x)/\neq+1<=x/\(∀p,lo+x - (neq+1)<=p->p<lo+x->at_ rk xs p=at_ rk xs (lo+x - 1))/\x<=nrem)
    (Q:=fun c st''=>∃xs n neq,st''=setArr st' xs/\c=(none,n,neq)/\Mov (arrOf st') xs lo (lo+nrem)/\NI rk xs lo (lo+n)/\neq+1<=n/\(∀p,lo+n - (neq+1)<=p->p<lo+n->at_ rk xs p=at_ rk xs (lo+n - 1))/\n<=nrem) ?s2 ?f2 ⟨xs,0,rfl,rfl,m1,n0,by lia,fun p b1 b2=>by congr 1;lia,by lia⟩) ?p2)
   case f2 =>
    rintro c st'' ⟨xs,neq,rfl,rfl,q1,q2,q3,q4,q5⟩;exact⟨xs,_,neq,rfl,rfl,q1,q2,q3,q4,q5⟩
   case s2 =>
    rintro x c st'' hx0 hx ⟨xs,neq,rfl,rfl,q1,q2,q3,q4,q5⟩;have hz:=q1.size;have ext:∀ {ys:Array Keyed},(∀p,at_ rk ys p=at_ rk xs p)->at_ rk xs (lo+x)<=at_ rk xs (lo+x - 1)->NI rk ys lo (lo+(x+1)):=fun {ys} hy hle p q b1 b2 b3=>by
     rw[hy,hy];rcases d9 q (lo+x) with c |c
     ·exact q2 p q b1 b2 c
     ·have:q=lo+x:=by lia
      subst this;rcases d9 p (lo+x) with d |d
      ·exact aq hle (q2 p (lo+x - 1) b1 ZB ZB)
      ·have:p=lo+x:=by lia
       subst this;exact ae _
    repeat fail
    dsimp (zeta:=false) (zetaHave:=false) only;refine wpS_bind (aIt (st:=setArr st' xs) hL hk (hmv q1) (by show _<xs.size;lia) (by show _<xs.size;lia) ?_);dsimp (zeta:=false) (zetaHave:=false) only
    fail
    by_cases hw:at_ rk xs (lo+x)<at_ rk xs (lo+x - 1)
    ·rw[if_pos (by simpa using hw)]
     fail
     split
     ·refine wpS_bind (aXn ?_);have hej:=aGd (rk:=rk) (xs:=xs) (i:=lo+x - (neq+1)) (j:=lo+x) ZB q4
      repeat fail
      refine wpS_pure ⟨_,0,rfl,rfl,q1.trans (.mirror ZB ZB ZB),ext hej (d7 hw),by lia,fun p b1 b2=>by congr 1;lia,by lia⟩
     ·repeat fail
      exact wpS_pure ⟨xs,0,rfl,rfl,q1,ext (fun _=>rfl) (d7 hw),by lia,fun p b1 b2=>by congr 1;lia,by lia⟩
    ·rw[if_neg (by simpa using hw)];refine wpS_bind (aIt (st:=setArr st' xs) hL hk (hmv q1) (by show _<xs.size;lia) (by show _<xs.size;lia) ?_);dsimp (zeta:=false) (zetaHave:=false) only;by_cases hw2:at_ rk xs (lo+x - 1)<at_ rk xs (lo+x)
     ·rw[if_pos (by simpa using hw2)];exact wpS_pure ⟨xs,x,neq,rfl,rfl,q1,q2,q3,q4,q5⟩
     ·rw[if_neg (by simpa using hw2)]
      repeat fail
      refine wpS_pure ⟨xs,neq+1,rfl,rfl,q1,ext (fun _=>rfl) ZB,by lia,fun p b1 b2=>?_,by lia⟩;have e:lo+(x+1) - 1=lo+x:=by lia
      rw[e];rcases d9 p (lo+x) with d |d
      ·rw[q4 p ZB d];lia
      ·have:p=lo+x:=by lia
       rw[this]
   case p2 =>
    rintro c st'' ⟨xs,n',neq,rfl,rfl,q1,q2,q3,q4,q5⟩;have hz:=q1.size
    repeat fail
    dsimp (zeta:=false) (zetaHave:=false) only;refine aK2 ?_;intro Q' hQ';extract_lets +onlyGivenNames -underBinder jpv;clear_value (hjpv:jpv=_);revert jpv;refine via (P:=fun jp=>∀u xs,Mov (arrOf st') xs lo (lo+nrem)->NI rk xs lo (lo+n')->wpS ZI A E s (jp u) Q' (setArr st' xs)) ?j1 ?k1
    case k1 =>
     subst hQ';intro jp hj;split
     ·refine wpS_bind (aXn ?_);have hej:=aGd (rk:=rk) (xs:=xs) (i:=lo+n' - (neq+1)) (j:=lo+n') ZB q4;exact hj _ _ (q1.trans (.mirror ZB ZB ZB)) fun p q b1 b2 b3=>by rw[hej,hej];exact q2 p q b1 b2 b3
     ·exact hj _ xs q1 q2
    case j1 =>
     subst hQ';intro u xs r1 r2;have hz:=r1.size;refine wpS_bind (aXn ?_);have hej:=aQa (rk:=rk) (xs:=xs) (i:=lo) (j:=lo+n') ZB;have r3:Mov (arrOf st') (mirror xs lo (lo+n') ((lo+n' - lo) / 2)) lo (lo+nrem):=r1.trans (.mirror ZB ZB ZB);have r4:Srt rk (mirror xs lo (lo+n') ((lo+n' - lo) / 2)) lo (lo+n'):=fun p q b1 b2 b3=>by rw[hej,hej,if_pos ZB,if_pos ZB];exact r2 _ _ ZB ZB ZB
     show wpS _ _ _ _ _ _ (setArr st' (mirror xs lo (lo+n') ((lo+n' - lo) / 2)));generalize mirror xs lo (lo+n') ((lo+n' - lo) / 2)=ys at r3 r4;have hy:=r3.size
     refine wpS_bind (wpS_mono (wpS_forRange
      (I:=fun x c st''=>st''=setArr st' ys/\c=(none,x)/\1<=x/\x<=nrem/\Srt rk ys lo (lo+x))
      (Q:=fun c st''=>st''=setArr st' ys/\∃n,c=(none,n)/\1<=n/\n<=nrem/\Srt rk ys lo (lo+n)) ?s3 ?f3 ⟨rfl,rfl,by lia,by lia,r4⟩) ?p3)
     case f3 =>
      rintro c st'' ⟨rfl,rfl,t1,t2,t3⟩;exact⟨rfl,_,rfl,t1,t2,t3⟩
     case p3 =>
      rintro c st'' ⟨rfl,n3,rfl,t1,t2,t3⟩
      repeat fail
      exact wpS_pure (h ys n3 t1 t2 r3 t3 no)
     case s3 =>
      rintro x c st'' _ hx ⟨rfl,rfl,t1,t2,t3⟩
      repeat fail
      dsimp (zeta:=false) (zetaHave:=false) only;refine wpS_bind (aIt (st:=setArr st' ys) hL hk (hmv r3) (by show _<ys.size;lia) (by show _<ys.size;lia) ?_);dsimp (zeta:=false) (zetaHave:=false) only;by_cases hw:at_ rk ys (lo+x)<at_ rk ys (lo+x - 1)
      ·rw[if_pos (by simpa using hw)];exact wpS_pure ⟨rfl,x,rfl,t1,t2,t3⟩
      ·rw[if_neg (by simpa using hw)]
       repeat fail
       refine wpS_pure ⟨rfl,rfl,by lia,by lia,fun p q b1 b2 b3=>?_⟩;rcases d9 q (lo+x) with c |c
       ·exact t3 p q b1 b2 c
       ·have:q=lo+x:=by lia
        subst this;rcases d9 p (lo+x) with d |d
        ·exact aq (t3 p (lo+x - 1) b1 ZB ZB) ZB
        ·have:p=lo+x:=by lia
         subst this;exact ae _
structure SJ (κ:SortKind) (a₀:Array Keyed) (rk:Keyed->Nat) (st:SortSt) (lo:Nat):Prop where
 kind:kindOf st=κ
 perm:(arrOf st).Perm a₀
 fine:failedOf st=none
 at0:lo=0->(pendingOf st).size=0/\(a₀.size<64\/Srt rk (arrOf st) 0 a₀.size)
 few:(pendingOf st).size<=1
 runs:lo=a₀.size->Srt rk (arrOf st) 0 a₀.size
def Runs(rk:Keyed->Nat)(xs:Array Keyed):List (Nat × Nat × Nat)->Nat->Nat->Prop
 |[],b,e=>b=e
 |(t,n,_)::r,b,e=>t=b/\0<n/\Srt rk xs b (b+n)/\Runs rk xs r (b+n) e
theorem Runs.le:∀ {l:List (Nat × Nat × Nat)} {b e:Nat},Runs rk xs l b e->b+l.length<=e
 |[],b,e,h=>by have h:b=e:=h;simp;lia
 |(t,n,q)::r,b,e,h=>by obtain⟨_,h1,_,h2⟩:=h;have:=Runs.le h2;rw[ah];lia
theorem Runs.split:∀ {l m:List (Nat × Nat × Nat)} {b e:Nat},Runs rk xs (l++m) b e->∃c,Runs rk xs l b c/\Runs rk xs m c e
 |[],m,b,e,h=>⟨b,rfl,h⟩
 |(t,n,q)::r,m,b,e,h=>by obtain⟨h0,h1,h2,h3⟩:=h;obtain⟨c,g1,g2⟩:=Runs.split h3;exact⟨c,⟨h0,h1,h2,g1⟩,g2⟩
theorem Runs.join:∀ {l m:List (Nat × Nat × Nat)} {b c e:Nat},Runs rk xs l b c->Runs rk xs m c e->Runs rk xs (l++m) b e
 |[],m,b,c,e,h,g=>by have h:b=c:=h;subst h;exact g
 |(t,n,q)::r,m,b,c,e,h,g=>by obtain⟨h0,h1,h2,h3⟩:=h;exact⟨h0,h1,h2,Runs.join h3 g⟩
theorem Runs.congr:∀ {l:List (Nat × Nat × Nat)} {b e:Nat},(∀p,b<=p->p<e->at_ rk ys p=at_ rk xs p)->Runs rk xs l b e->Runs rk ys l b e
 |[],b,e,_,h=>h
 |(t,n,q)::r,b,e,hx,h=>by obtain⟨h0,h1,h2,h3⟩:=h;have:=Runs.le h3;exact⟨h0,h1,fun p q b1 b2 b3=>by rw[hx p ZB ZB,hx q ZB ZB];exact h2 p q b1 b2 b3,Runs.congr (fun p b1 b2=>hx p ZB b2) h3⟩
structure SI (κ:SortKind) (a₀:Array Keyed) (rk:Keyed->Nat) (st:SortSt) (e:Nat):Prop where
 kind:kindOf st=κ
 perm:(arrOf st).Perm a₀
 fine:failedOf st=none
 runs:Runs rk (arrOf st) (pendingOf st).toList 0 e
theorem aKc{p:Nat}(h:ys[p]?=xs[p]?):at_ rk ys p=at_ rk xs p:=by unfold at_;rw[h]
theorem aL0(hL:LtOk prog w A E s κ a₀ rk){st:SortSt}{e i:Nat}(hS:SI κ a₀ rk st e)(he:e<=a₀.size)(hi:i+1<(pendingOf st).size){Q:Bool->SortSt->Prop}(h:∀st',SI κ a₀ rk st' e->(pendingOf st').size+1=(pendingOf st).size->(∀p,e<=p->(arrOf st')[p]?=(arrOf st)[p]?)->Q true st'):wpS ZI A E s (mergeAt' i) Q st:=by
 have hi':i+1<(pendingOf st).toList.length:=by simpa using hi
 obtain⟨sa,na,pa,e1⟩:∃sa na pa,(pendingOf st).toList[i]=(sa,na,pa):=⟨_,_,_,rfl⟩
 obtain⟨sb,nb,pb,e2⟩:∃sb nb pb,(pendingOf st).toList[i+1]=(sb,nb,pb):=⟨_,_,_,rfl⟩
 have hl:(pendingOf st).toList=(pendingOf st).toList.take i++(sa,na,pa)::(sb,nb,pb)::(pendingOf st).toList.drop (i+2):=by have d1:=dr (l:=(pendingOf st).toList) (i:=i) ZB;have d2:=dr (l:=(pendingOf st).toList) (i:=i+1) hi';rw[e2] at d2;rw[e1,d2] at d1;rw[<-d1,dg]
 have hr:=hS.runs;rw[hl] at hr;obtain⟨c,r1,r2⟩:=Runs.split hr;obtain⟨rfl,r3,r4,rfl,r5,r6,r7⟩:=r2;have hle:=Runs.le r7;have hsz:=hS.perm.size_eq;refine aYg (pa:=pa) (pb:=pb) hL hS.kind hS.perm hS.fine (i:=i) (sa:=sa) (na:=na) (nb:=nb) ?_ ?_ r3 r5 ZB r4 r6 fun xs g hc=>?_
 ·rw[<-ci,ba ZB,e1]
 ·rw[<-ci,ba hi',e2]
 ·have hlen:((pendingOf st).toList.take i).length=i:=by rw[d8];lia
  have hp:(((pendingOf st).setIfInBounds i (sa,na+nb,pa)).eraseIdxIfInBounds (i+1)).toList=(pendingOf st).toList.take i++(sa,na+nb,pa)::(pendingOf st).toList.drop (i+2):=by
   rw[Array.toList_eraseIdxIfInBounds,jG]
   conv=>lhs;rw[hl]
   rw[List.set_append_right _ _ ZB,hlen,Nat.sub_self,List.eraseIdx_append_of_length_le ZB,hlen];simp
  refine h _ ⟨hS.kind,hc.perm.trans hS.perm,hS.fine,?_⟩ ?_ fun p hp'=>hc.same p (.inr ZB)
  ·show Runs rk xs (((pendingOf st).setIfInBounds i (sa,na+nb,pa)).eraseIdxIfInBounds (i+1)).toList 0 e;rw[hp];refine Runs.join (Runs.congr (fun p b1 b2=>aKc (hc.same p ZB)) r1) ⟨rfl,by lia,by rw[<-Nat.add_assoc];exact hc.srt,?_⟩;rw[<-Nat.add_assoc];exact Runs.congr (fun p b1 b2=>aKc (hc.same p ZB)) r7
  ·show (((pendingOf st).setIfInBounds i (sa,na+nb,pa)).eraseIdxIfInBounds (i+1)).size+1=_;rw[<-bg,hp,bp,ah,hlen,dj,<-bg];lia
theorem ite_lt[Decidable c]{n:Nat}(h:¬n<=1):(if c then n - 2 - 1 else n - 2)+1<n:=by split<;>(lia)
theorem aY6{st:SortSt}{n:Nat}(h:(arrOf st).size=n):((sortPriv% PySem.Builtin.SortState.a) st).size=n:=h
theorem aWy{pw:Nat}:∀ {l:List (Nat × Nat × Nat)} {i b e:Nat},Runs rk xs l b e->Runs rk xs (l.modify i fun x=>(x.1,x.2.1,pw)) b e
 |[],i,b,e,h=>by cases i<;>exact h
 |(t,n,q)::r,0,b,e,h=>h
 |(t,n,q)::r,i+1,b,e,h=>by obtain⟨h0,h1,h2,h3⟩:=h;exact⟨h0,h1,h2,aWy h3⟩
theorem runs_mod{xs:Array Keyed}{pw:Nat}{p:Array (Nat × Nat × Nat)}{i e:Nat}(h:Runs rk xs p.toList 0 e):Runs rk xs (p.modify i fun x=>(x.1,x.2.1,pw)).toList 0 e:=by rw[Array.toList_modify];exact aWy h
theorem sort_ok(hL:LtOk prog w A E s κ a₀ rk){st:SortSt}(hk:kindOf st=κ)(hp:(arrOf st).Perm a₀)(hf:failedOf st=none)(hpe:pendingOf st = #[]){Q:Unit->SortSt->Prop}
  (h:∀st',(arrOf st').Perm a₀->failedOf st'=none->Srt rk (arrOf st') 0 a₀.size->Q () st'):wpS ZI A E s sortRuns' Q st:=by
 unfold sortRuns';unfold wpS;wp_delta;wp_delta;refine aI9 ?_;refine wpS_bind (wpS_get ?_)
 fail;fail;fail
 have hsz:(arrOf st).size=a₀.size:=hp.size_eq
 refine wpS_bind (wpS_mono (wpS_forRange
  (I:=fun x c st'=>∃lo,c=(none,lo)/\SI κ a₀ rk st' lo/\lo<=a₀.size/\(x<=lo\/lo=a₀.size))
  (Q:=fun c st'=>c=(none,a₀.size)/\SI κ a₀ rk st' a₀.size) ?s1 ?f1 ⟨0,rfl,⟨hk,hp,hf,by rw[hpe];rfl⟩,by (lia),by (lia)⟩) ?p1)
 case f1 =>
  rintro c st' ⟨lo,rfl,g1,g2,g3⟩;have:lo=a₀.size:=by
   rcases g3 with g3 |g3
   ·have e:(PyProof.Rows.arrOf st).size=a₀.size:=hsz;simp only[e] at g3
    (lia)
   ·exact g3
  subst this;exact⟨rfl,g1⟩
 case p1 =>
  rintro c st' ⟨rfl,g1⟩
  repeat fail
  dsimp (zeta:=false) (zetaHave:=false) only;have hle:=Runs.le g1.runs;rw[bg] at hle
  refine wpS_bind (wpS_mono (wpS_forRange
   (I:=fun x c st'=>c=(none,())/\SI κ a₀ rk st' a₀.size/\(pendingOf st').size<=max 1 (a₀.size - x))
   (Q:=fun c st'=>c=(none,())/\SI κ a₀ rk st' a₀.size/\(pendingOf st').size<=1) ?s2 ?f2 ⟨rfl,g1,by (lia)⟩) ?p2)
  case f2 =>
   rintro c st'' ⟨rfl,q1,q2⟩;have e:(PyProof.Rows.arrOf st).size=a₀.size:=hsz;simp only[e] at q2;exact⟨rfl,q1,by (lia)⟩
  case p2 =>
   rintro c st'' ⟨rfl,q1,q2⟩
   repeat fail
   refine wpS_pure (h _ q1.perm q1.fine ?_);have hr:=q1.runs;have hl:(pendingOf st'').toList.length<=1:=by rw[bg];exact q2
   match hm:(pendingOf st'').toList,hl with
   | [],_ =>
    rw[hm] at hr;have hr:0=a₀.size:=hr;intro p q b1 b2 b3;(lia)
   | [(t,n,pw)],_ =>
    rw[hm] at hr;obtain⟨_,_,r2,r3⟩:=hr;have r3:0+n=a₀.size:=r3;rw[r3] at r2;exact r2
  case s2 =>
   rintro x c st'' _ hx ⟨rfl,q1,q2⟩;refine wpS_bind (wpS_get ?_)
   fail
   by_cases c:(pendingOf st'').size<=1
   ·rw[if_pos c];exact wpS_pure ⟨rfl,q1,c⟩
   ·rw[if_neg c]
    fail;fail;fail
    refine wpS_bind (aL0 hL q1 (ae _) (ite_lt c) fun st3 t1 t2 _=>?_);rw[if_neg ZA];exact wpS_pure ⟨rfl,t1,by (lia)⟩
 case s1 =>
  rintro x c st' _ hx ⟨lo,rfl,g1,g2,g3⟩;have hz':(arrOf st').size=a₀.size:=g1.perm.size_eq
  repeat fail
  dsimp (zeta:=false) (zetaHave:=false) only;have e:(PyProof.Rows.arrOf st).size=a₀.size:=hsz;have e':=aY6 hsz;by_cases c:lo>=a₀.size
  ·rw[if_pos (by rw[<-e] at c;exact c)];have:lo=a₀.size:=by (lia)
   subst this;exact wpS_pure ⟨rfl,g1⟩
  rw[if_neg (by rw[<-e] at c;exact c)];refine wpS_bind (aL5 (st:=st') hL g1.kind g1.perm (lo:=lo) (nrem:=(PyProof.Rows.arrOf st).size - lo) (by (lia)) (by (lia)) fun xs n n1 n2 m1 s1 _=>?_);rw[e] at n2 m1;rw[show lo+(a₀.size - lo)=a₀.size by (lia)] at m1;dsimp (zeta:=false) (zetaHave:=false) only
  fail
  refine aK2 ?_;intro Q' hQ';extract_lets +onlyGivenNames -underBinder jpv;clear_value (hjpv:jpv=_);revert jpv;refine via (P:=fun jp=>∀u n xs,1<=n->lo+n<=a₀.size->Mov (arrOf st') xs lo a₀.size->Srt rk xs lo (lo+n)->wpS ZI A E s (jp u n) Q' (setArr st' xs)) ?j0 ?k0
  case k0 =>
   subst hQ';intro jp hj;split
   ·rename_i hmin;refine wpS_bind (wpS_lift (wpAny_rule ⟨rfl,?_⟩))
    fail
    refine wpS_bind (bin_ok (st:=setArr st' xs) hL g1.kind (m1.perm.trans g1.perm) (by show _<=xs.size;rw[m1.size];have:=e';(lia)) (by have:=e';(lia)) s1 fun ys m2 s2=>?_);rw[if_neg ZA]
    fail
    refine hj _ _ ys (by have:=e';(lia)) (by have:=e';(lia)) (m1.trans ⟨m2.perm,fun p hp'=>m2.same p (by have:=e';(lia))⟩) s2
   ·exact hj _ _ xs n1 (by (lia)) m1 s1
  case j0 =>
   subst hQ';intro u n xs n1 n2 m1 s1;refine wpS_bind (wpS_get ?_);refine aK2 ?_;intro Q' hQ';extract_lets +onlyGivenNames -underBinder jpv;clear_value (hjpv:jpv=_);revert jpv;refine via (P:=fun jp=>∀u st2,SI κ a₀ rk st2 lo->Srt rk (arrOf st2) lo (lo+n)->wpS ZI A E s (jp u) Q' st2) ?j1 ?k1
   case j1 =>
    subst hQ';intro u st2 q1 q2;refine wpS_bind (wpS_modify ?_)
    fail
    refine wpS_pure ⟨lo+n,rfl,⟨q1.kind,q1.perm,q1.fine,?_⟩,n2,by (lia)⟩;show Runs rk (arrOf st2) ((pendingOf st2).push (lo,n,0)).toList 0 (lo+n);rw[Array.toList_push];exact Runs.join q1.runs ⟨rfl,by (lia),q2,rfl⟩
   case k1 =>
    subst hQ';intro jp hj;have S0:SI κ a₀ rk (setArr st' xs) lo:=⟨g1.kind,m1.perm.trans g1.perm,g1.fine,Runs.congr (fun p b1 b2=>aKc (m1.same p (.inl b2))) g1.runs⟩
    split
    ·fail
     refine wpS_bind (wpS_mono (wpS_forRange
      (I:=fun _ c st2=>c=(none,())/\SI κ a₀ rk st2 lo/\Srt rk (arrOf st2) lo (lo+n))
      (Q:=fun c st2=>c=(none,())/\SI κ a₀ rk st2 lo/\Srt rk (arrOf st2) lo (lo+n)) ?s3 ?f3 ⟨rfl,S0,s1⟩) ?p3)
     case f3=>exact fun c st2 z=>z
     case p3 =>
      rintro c st2 ⟨rfl,q1,q2⟩
      repeat fail
      dsimp (zeta:=false) (zetaHave:=false) only;refine wpS_bind (wpS_modify ?_);refine hj _ _ ⟨q1.kind,q1.perm,q1.fine,?_⟩ q2;exact runs_mod q1.runs
     case s3 =>
      rintro y c st2 _ _ ⟨rfl,q1,q2⟩;refine wpS_bind (wpS_get ?_)
      fail
      split
      ·rename_i hm;split
       ·exact wpS_pure ⟨rfl,q1,q2⟩
       ·have hz:1<(pendingOf st2).size:=by
         by_cases z:(pendingOf st2).size > 1
         ·exact z
         ·rw[if_neg z] at hm;cases hm
        refine wpS_bind (aL0 hL q1 (by (lia)) (by show _<(pendingOf st2).size;have:(pendingOf st2).size - 2+1<(pendingOf st2).size:=(by (lia));exact this)
         fun st3 t1 t2 t3=>?_)
        rw[if_neg ZA];exact wpS_pure ⟨rfl,t1,fun p q b1 b2 b3=>by rw[aKc (t3 p b1),aKc (t3 q (by (lia)))];exact q2 p q b1 b2 b3⟩
      ·exact wpS_pure ⟨rfl,q1,q2⟩
    ·exact hj _ _ S0 s1
end
end L2.Tm
namespace L2.Ds
open PySem PySem.Spec PyProof.Rows L2.Tm
def aT0(prog:Program)(w:World)(h:Heap)(vs:List Value)(rk:Keyed->Nat):Prop :=
 2<=vs.length->∃κ,∀ (A:Around) (E:Value->Shared->Prop) (s:Shared),(∀b o,h.get? b=some o->s.heap.get? b=some o) ->
  wpAny ZI A (keyKind' vs.toArray) (fun k s'=>k=κ/\s'=s) E s/\LtOk prog w A E s κ (PyProof.Rows.pairsOf vs) rk
section
variable {prog:Program}{w:World}{A:Around}{E:Value->Shared->Prop}{s:Shared}
theorem aNm{n:Nat}{Q:Nat->Shared->Prop}(ho:s.heap.get? a=some o)(hd:o.data = .seq xs n)(q:Q n s):wpAny ZI A (seqEpoch a) Q E s:=seqEpoch_at ho hd q
theorem sort_any{n:Nat}(ho:s.heap.get? a=some (seqObj "list" vs.toArray n))(hz:vs.length<=sizeLine)
  (h0a:∀b o,h0.get? b=some o->b≠a) (h0s:∀b o,h0.get? b=some o->s.heap.get? b=some o) (hS:aT0 prog w h0 vs rk)
  (h:∀xs:Array Keyed,xs.Perm (PyProof.Rows.pairsOf vs)->Srt rk xs 0 vs.length->P (.done (.ret .none)) { s with heap:=sortedHeap s.heap a vs (xs.map (·.2)) }) :
  wpAny ZI A (Builtin.«list.sort» ⟨[.ref a],[]⟩) P E s:=by
 rw[list_sort_plain];have hlt:a<s.heap.objs.size:=ai ho;obtain⟨e1,k1⟩:∃e1,(s.heap.update a (Obj.mapSeq fun _=>#[])).get? a=some (seqObj "list" #[] e1):=⟨_,get?_update_seq ho (fun _=>#[])⟩
 refine wpAny_bind (listItems_at ho rfl (wpAny_bind (listUpdate_at ho rfl (wpAny_bind (aNm k1 rfl (wpAny_bind (wpAny_newTuple (wpAny_bind (wpAny_newList (wpAny_holding ?_))))))))));have kp:∀b o,b≠a->s.heap.get? b=some o->(((s.heap.update a (Obj.mapSeq fun _=>#[])).push (seqObj "tuple" vs.toArray 0)).push (seqObj "list" #[] 0)).get? b=some o:=fun b o nb q=>by have hb:b<s.heap.objs.size:=ai q;rw[iJ _ _ _ (by rw[size_push',ii];exact az (fj hb)),iJ _ _ _ (by rw[ii];exact az hb),Heap.get?_update_ne _ _ _ _ nb];exact q
 have k2:(((s.heap.update a (Obj.mapSeq fun _=>#[])).push (seqObj "tuple" vs.toArray 0)).push (seqObj "list" #[] 0)).get? a=some (seqObj "list" #[] e1):=by rw[iJ _ _ _ (by rw[size_push',ii];exact az (fj hlt)),iJ _ _ _ (by rw[ii];exact az hlt)];exact k1
 show wpAny ZI A _ P E { s with heap:=((s.heap.update a (Obj.mapSeq fun _=>#[])).push (seqObj "tuple" vs.toArray 0)).push (seqObj "list" #[] 0) };dsimp only;have hsz:vs.toArray.size=vs.length:=by simp
 have hps:(PyProof.Rows.pairsOf vs).size=vs.length:=pairsOf_size vs;by_cases h2:vs.toArray.size<2
 ·rw[if_pos h2,if_pos h2];refine wpAny_bind (wpAny_pure ?_);rw[StateT.run_pure];refine wpAny_bind (wpAny_pure (wpAny_bind (aNm k2 rfl (wpAny_bind (listUpdate_at k2 rfl ?_ (hsz2:=by rw[Array.size_map];show (PyProof.Rows.pairsOf vs).size<=_;lia))))));dsimp only;simp only[bne_self_eq_false,dw,if_false];refine wpAny_pure (h (PyProof.Rows.pairsOf vs) (Array.Perm.refl _) fun i j _ hij hj=>?_);have:i=j:=by lia
  rw[this];exact ae _
 ·rw[if_neg h2,if_neg h2];obtain⟨κ,hκ⟩:=hS ZB;obtain⟨q1,q2⟩:=hκ A E { s with heap:=((s.heap.update a (Obj.mapSeq fun _=>#[])).push (seqObj "tuple" vs.toArray 0)).push (seqObj "list" #[] 0) } fun b o e=>kp b o (h0a b o e) (h0s b o e);refine wpAny_bind (wpAny_mono q1 ?_ fun _ _ e=>e);rintro k s' ⟨rfl,rfl⟩;refine wpAny_bind (wpAny_mono (sort_ok q2 (st:=SortSt.mk' k (PyProof.Rows.pairsOf vs) #[] 7 none) rfl (Array.Perm.refl _) rfl rfl (Q:=fun _ st'=>(arrOf st').Perm (PyProof.Rows.pairsOf vs)/\failedOf st'=none/\Srt rk (arrOf st') 0 vs.length) fun st' a1 a2 a3=>⟨a1,a2,by rw[hps] at a3;exact a3⟩) ?_ fun _ _ e=>e);rintro⟨⟨⟩,st'⟩ s' ⟨rfl,hp,hf,hs⟩;dsimp only;refine wpAny_bind (aNm k2 rfl (wpAny_bind (listUpdate_at k2 rfl ?_ (hsz2:=aq (Nat.le_of_eq ((Array.size_map ..).trans (hp.size_eq.trans hps))) (Nat.le_succ_of_le hz)))));rw[hf];simp only[bne_self_eq_false,dw,if_false];exact wpAny_pure (h _ hp hs)
end
section
variable {X:Cx}{tw:Addr}
theorem aIm
  (hc:wpAny ZC A'.in1 (collect x) (fun vs s1=>∃rk,vs.length<=sizeLine/\aT0 X.prog X.w s1.heap vs rk/\∀h' (xs:Array Keyed) e,(∀b o,s1.heap.get? b=some o->h'.get? b=some o)->h'.get? s1.heap.objs.size=some (seqObj "list" (xs.map (·.2)) e)->xs.Perm (PyProof.Rows.pairsOf vs)->Srt rk xs 0 vs.length->Q (.ref s1.heap.objs.size) { s1 with heap:=h' }) E s) :
  wpAny ZC A' (call (.builtin "sorted") [x]) Q E s:=by
 refine jJ kind_sorted plain_sorted entry_sorted (args_sorted1 _) ?_;unfold Builtin.«sorted»;refine wpAny_bind (m:=checkCount "sorted" 1 1 _) (wpAny_pure (wpAny_bind (wpAny_mono hc (fun vs s1 h=>?_) fun _ _ e=>e)));obtain⟨rk,hz,hS,k⟩:=h;refine wpAny_bind (wpAny_newList ?_ hz);have hoL:(s1.heap.push (seqObj "list" vs.toArray 0)).get? s1.heap.objs.size=some (seqObj "list" vs.toArray 0):=au _ rfl;show wpAny _ _ _ _ _ { s1 with heap:=s1.heap.push (seqObj "list" vs.toArray 0) };refine wpAny_bind (wpAny_holding (wpAny_call_entry slot_list_sort ⟨_,hoL,rfl⟩ entry_list_sort (sort_any (h0:=s1.heap) hoL hz (fun b o hb=>az (ai hb)) (fun b o hb=>aa _ hb) hS fun xs a1 a2=>⟨_,rfl,?_⟩) (args_list_sort _)));obtain⟨e,he⟩:=sortedHeap_at (out:=xs.map (·.2)) hoL;refine wpAny_pure ⟨_,rfl,k _ xs e (fun b o hb=>?_) he a1 a2⟩;have hlt:b<s1.heap.objs.size:=ai hb;rw[sortedHeap_old (az hlt) (by rw[dy];exact fj hlt)];exact aa _ hb
end
def intOf?:Value->Option Int
 |.int i _=>some i
 |_=>none
def kyV(h:Heap):Value->List Int
 | .ref a=>match h.get? a with
  | some o=>match o.data with
   |.seq xs _=>xs.toList.filterMap intOf?
   |_=>[]
  |none=>[]
 |.int i _=>[i]
 |_=>[]
theorem aKo:∀ {us:List Value} {ns:List Int},IntsAre us ns->us.filterMap intOf?=ns
 |_,_,.nil=>rfl
 |_,_,.cons n t h=>by rw[fh];show n::_=_;rw[aKo h]
def TupI(h:Heap)(v:Value)(l:List Int):Prop:=∃a o xs n,v = .ref a/\h.get? a=some o/\o.cls = .type "tuple" /\ o.data = .seq xs n/\IntsAre xs.toList l/\l ≠ []
theorem TupI.ky(t:TupI h v l):kyV h v=l:=by
 obtain⟨a,o,xs,n,rfl,ho,hc,hd,hi,_⟩:=t
 show (match h.get? a with
  | some o=>match o.data with
   |.seq xs _=>xs.toList.filterMap intOf?
   |_=>[]
  |none=>[])=l
 rw[ho]
 show (match o.data with
   |.seq xs _=>xs.toList.filterMap intOf?
   |_=>[])=l
 rw[hd];exact aKo hi
theorem TupI.mono(k:∀b o,h.get? b=some o->h'.get? b=some o)(t:TupI h v l):TupI h' v l:=by obtain⟨a,o,xs,n,r,ho,q⟩:=t;exact⟨a,o,xs,n,r,k a o ho,q⟩
section
variable {prog:Program}{w:World}{A:Around}{E:Value->Shared->Prop}{s:Shared}
theorem lex_ints{Q:Bool->Shared->Prop}:∀ {us vs:List Value} {as bs:List Int} (i:Nat),IntsAre us as->IntsAre vs bs->Q (lexLt as bs) s->W.KatLex prog w A true (decide (us.length<vs.length)) Q (us.zip vs) i s:=by
 have gen:∀ {us vs:List Value} {as bs:List Int} (i:Nat) (fin:Bool),IntsAre us as->IntsAre vs bs->(decide (us.length<vs.length)=fin)->Q (lexLt as bs) s->W.KatLex prog w A true fin Q (us.zip vs) i s:=by
  intro us
  induction us with
  | nil =>
   intro vs as bs i fin h1 h2 hf q;cases h1;cases h2 with
   |nil=>subst hf;exact q
   |cons n t h=>subst hf;exact q
  | cons u us ih =>
   intro vs as bs i fin h1 h2 hf q;cases h1 with
   | cons n t h =>
    cases h2 with
    |nil=>subst hf;exact q
    | cons m r g =>
     refine W.kat_cons (wpAny_eqBool_int ?_);unfold lexLt at q;by_cases e:n=m
     ·subst e;rw[beq_self_eq_true] at q |-;exact W.kat_yes (ih (i+1) fin h g (by simpa using hf) (by simpa using q))
     ·have e':(n==m)=false:=by simpa using e
      rw[e'] at q |-;refine W.kat_no ?_;have q:Q (decide (n<m)) s:=by simpa using q
      cases i with
      |zero=>exact oneLt_int q
      |succ i=>exact W.kat_one _ _ (lt_int q)
 intro us vs as bs i h1 h2 q;exact gen i _ h1 h2 rfl q
theorem tup_lt{Q:Bool->Shared->Prop}(hx:TupI s.heap x a)(hy:TupI s.heap y b)(q:Q (lexLt a b) s):wpAny ZI A (keyLt' (tuples' true) x y) Q E s:=by obtain⟨p,o,xs,n,rfl,ho,hc,hd,hi,_⟩:=hx;obtain⟨p',o',ys,n',rfl,ho',hc',hd',hi',_⟩:=hy;refine W.kat_lt ho hd ho' hd' ?_;have:=lex_ints (prog:=prog) (w:=w) (A:=A) (s:=s) (Q:=Q) 0 hi hi' q;simpa using this
end
theorem aKi(h:x∈PyProof.Rows.pairsOf vs):x.1∈vs/\x.2=x.1:=by have h:x∈(PyProof.Rows.pairsOf vs).toList:=Array.mem_def.mp h;rw[pairsOf_toList] at h;have:=mem_zip_self h;exact⟨this.2,this.1.symm⟩
inductive Tups (h:Heap):List Value->List (List Int)->Prop
 |nil:Tups h [] []
 |cons {v:Value} {l:List Int} {vs:List Value} {ls:List (List Int)}:TupI h v l->Tups h vs ls->Tups h (v::vs) (l::ls)
theorem Tups.ky:∀ {vs:List Value} {ls:List (List Int)},Tups h vs ls->vs.map (kyV h)=ls
 |_,_,.nil=>rfl
 |_,_,.cons t r=>by rw[af,t.ky,r.ky]
theorem Tups.mem:∀ {vs:List Value} {ls:List (List Int)},Tups h vs ls->v∈vs->TupI h v (kyV h v)
 | _,_,.cons t r,hv=>by
  rcases bf.mp hv with rfl |hv
  ·rw[t.ky];exact t
  ·exact r.mem hv
theorem Tups.mono(k:∀b o,h.get? b=some o->h'.get? b=some o):∀ {vs:List Value} {ls:List (List Int)},Tups h vs ls->Tups h' vs ls
 |_,_,.nil=>.nil
 |_,_,.cons t r=>.cons (t.mono k) (r.mono k)
theorem Tups.firsts:∀ {vs:List Value} {ls:List (List Int)},Tups h vs ls->∃fs,W.KatTups h vs fs/\fs.length=vs.length/\∀f∈fs,∃i t,f = .int i t
 |_,_,.nil=>⟨[],.nil,rfl,fun f hf=>by simp at hf⟩
 | _,_,.cons t r=>by
  obtain⟨fs,k1,k2,k3⟩:=r.firsts;obtain⟨a,o,xs,n,rfl,ho,hc,hd,hi,hne⟩:=t;have ⟨i,u,hx⟩:∃i u,xs[0]?=some (.int i u):=by
   rw[<-ci];cases hi':xs.toList with
   |nil=>rw[hi'] at hi;cases hi;exact absurd rfl hne
   | cons v vs=>rw[hi'] at hi;cases hi with
    |cons n t _=>exact⟨n,t,rfl⟩
  refine⟨.int i u::fs,.cons ho hc hd hx k1,by simp[k2],fun f hf=>?_⟩;rcases bf.mp hf with rfl |hf
  ·exact⟨i,u,rfl⟩
  ·exact k3 f hf
theorem aK3(t:Tups h vs ls):aT0 prog w h vs fun x=>rank ls (kyV h x.1):=by
 intro h2;refine⟨tuples' true,fun A E s kp=>⟨?_,fun st x y Q hk hx hy q=>?_⟩⟩
 ·obtain⟨fs,k1,k2,k3⟩:=(t.mono kp).firsts;refine W.kat_kind (T:=.type "int") k1 ZB (fun v hv=>?_) ZA ⟨rfl,rfl⟩;obtain⟨i,u,rfl⟩:=k3 v hv;exact .now
 ·have mx:=aKi hx;have my:=aKi hy;have tx:=(t.mem mx.1).mono kp;have ty:=(t.mem my.1).mono kp;rw[aVq (by rw[<-t.ky];exact dz mx.1)] at q;rw[lt'_eq];refine wpS_bind (wpS_get ?_);rw[hk];exact wpS_bind (wpS_lift (wpAny_attempt (tup_lt tx ty ⟨rfl,wpS_pure q⟩)))
theorem aHd(ky:vs.map (kyV h)=ls)(p:xs.Perm (PyProof.Rows.pairsOf vs))(sr:Srt (fun x=>rank ls (kyV h x.1)) xs 0 vs.length) :
  (xs.map (·.2)).toList.Perm vs/\(xs.map (·.2)).toList.map (kyV h)=aB7 ls:=by
 have hl:xs.toList.Perm (vs.zip vs):=by rw[<-pairsOf_toList];exact jH.mp p
 have p2:(xs.map (·.2)).toList.Perm vs:=by have:=hl.map (·.2);rw[List.map_snd_zip (ae _)] at this;rw[Array.toList_map];exact this
 refine⟨p2,?_⟩;have p3:=p2.map (kyV h);rw[ky] at p3;refine aMq p3 ?_;have hsz:xs.size=vs.length:=by rw[p.size_eq,pairsOf_size]
 have hmem:∀x,x∈xs->x.1∈vs/\x.2=x.1:=fun x hx=>aKi (p.mem_iff.mp hx);rw[jL];intro i j hi hj hij;have hi':i<xs.size:=by simpa using hi
 have hj':j<xs.size:=by simpa using hj
 have q:=sr i j (gn _) (d7 hij) ZB;rw[aB1 hi',aB1 hj'] at q;have m1:=hmem _ (bz hi');have m2:=hmem _ (bz hj');have e1:((xs.map (·.2)).toList.map (kyV h))[i]=kyV h xs[i].1:=by simp[m1.2]
 have e2:((xs.map (·.2)).toList.map (kyV h))[j]=kyV h xs[j].1:=by simp[m2.2]
 show lexLt _ _=false;rw[e1,e2,<-aVq (nss:=ls) (by rw[<-ky];exact dz m2.1)];simpa using q
section
variable {X:Cx}{tw:Addr}
theorem _root_.L2.Inv.laids{t':Nat}(I:Inv X pins σ H s)(k:∀b u,s.heap.get? b=some u->h'.get? b=some u)(old:∀b u,H b=some u->H' b=some u)
  (hp:∀b,b<s.heap.objs.size->H b=none->H' b=none) (new:∀b u,H b=none->H' b=some u->aCr X.prog X.w H' h' b u):Inv X pins σ H' { s with heap:=h',toks:=t' }:=by
 refine I.un ⟨fun b u q _ _ _=>k b u q,fun b u q _ _ _=>⟨u.slots,k b u q⟩,fun b u q n _=>hp b (ai q) n,fun b u q _=>⟨u,k b u q⟩,fun b xs q=>old b _ q,fun b o u q=>old b _ q,fun b ps q=>⟨#[],by rw[old b _ q];simp⟩⟩ fun b u e=>?_;cases z:H b with
 |none=>exact new b u z e
 | some ob =>
  have:=old b ob z;rw[this] at e;cases e;exact(I.hok b _ z).stay (fun c v _ q=>k c v q) (fun c q=>old c _ q) fun c xs q=>old c _ q
theorem sortI_L(ns:List Int):aB7 (ns.map fun i=>[i])=(sortI ns).map fun i=>[i]:=by
 refine(aMq ((sortI_perm ns).map _) ?_).symm;rw[i5];refine(aDp ns).imp fun {a b} h=>?_;show lexLt [b] [a]=false;unfold lexLt;by_cases e:b=a
 ·subst e;simp[lexLt]
 ·simp[e];lia
theorem aKh(t:IntsAre vs ns):aT0 prog w h vs fun x=>rank (ns.map fun i=>[i]) (kyV h x.1):=by
 intro h2;refine⟨oneType',fun A E s kp=>⟨?_,fun st x y Q hk hx hy q=>?_⟩⟩
 ·match vs,h2,t with
  |v1::v2::rest,_,t=>rw[keyKind_ints t];exact wpAny_pure ⟨rfl,rfl⟩
 ·have get:∀ {v:Value} {vs:List Value} {ns:List Int},IntsAre vs ns->v∈vs->∃i u,v = .int i u/\i∈ns:=by
   intro v vs ns t
   induction t with
   |nil=>intro hv;simp at hv
   | cons n u r ih =>
    intro hv;rcases bf.mp hv with rfl |hv
    ·exact⟨n,u,rfl,ao ..⟩
    ·obtain⟨i,u,e,m⟩:=ih hv;exact⟨i,u,e,am _ m⟩
  obtain⟨x1,x2⟩:=x;obtain⟨y1,y2⟩:=y;obtain⟨i,u,rfl,mi⟩:=get t (aKi hx).1;obtain⟨j,u',rfl,mj⟩:=get t (aKi hy).1;have q:Q (some (decide (rank (ns.map fun i=>[i]) [i]<rank (ns.map fun i=>[i]) [j]))) st:=q
  rw[aVq (dz mi),show lexLt [i] [j]=decide (i<j) from by
   unfold lexLt;by_cases e:i=j
   ·subst e;simp[lexLt]
   ·simp[e]] at q
  rw[lt'_eq];refine wpS_bind (wpS_get ?_);rw[hk,keyLt'_oneType];exact wpS_bind (wpS_lift (wpAny_attempt (oneLt_int ⟨rfl,wpS_pure q⟩)))
theorem aVy:∀ {vs:List Value} {ns:List Int},IntsAre vs ns->vs.map (kyV h)=ns.map fun i=>[i]
 |_,_,.nil=>rfl
 |_,_,.cons n t r=>by rw[af,af,aVy r];rfl
theorem aT4(I:Inv X pins σ H s):∀ {xs:List T} {ls:List (List Int)} {vs:List V} {us:List Value},aGt xs=some ls->Reps tw H xs vs->Vals vs us->Tups s.heap us ls
 |[],ls,vs,us,e,r,rv=>by cases e;cases aB2 r;cases rv;exact .nil
 | .tup (x::xs)::rest,ls,vs,us,e,r,rv=>by
  obtain⟨l,e1,e2⟩:=bind_some (show (intsOf (x::xs)).bind _=_ from e);obtain⟨ls',e3,e4⟩:=map_some e2;cases e4;obtain⟨v,w,rfl,p,q⟩:=aA1 r;cases rv with
  | cons r1 r2 =>
   rw[Rep] at p;obtain⟨a,va,rfl,ea,xa⟩:=p;cases r1;obtain⟨its,q1,⟨o,ho,hc,_,n,hd⟩,_⟩:=I.tupleN ea;have ex:=aC2 e1;rw[ex] at xa;cases aE6 xa;refine .cons ⟨a,o,its.toArray,n,rfl,ho,hc,hd,by simpa using aCt q1,?_⟩ (aT4 I e3 q r2);rintro rfl;cases ex
 |.tup []::_,_,_,_,e,_,_=>by cases e
 |.non::_,_,_,_,e,_,_=>by cases e
 |.bl _::_,_,_,_,e,_,_=>by cases e
 |.int _::_,_,_,_,e,_,_=>by cases e
 |.str _::_,_,_,_,e,_,_=>by cases e
 |.lst _::_,_,_,_,e,_,_=>by cases e
 |.dic _::_,_,_,_,e,_,_=>by cases e
 |.town::_,_,_,_,e,_,_=>by cases e
theorem aLq:∀ {xs:List T} {ls:List (List Int)},aGt xs=some ls->xs=ls.map tupT
 |[],ls,e=>by cases e;rfl
 |.tup (x::xs)::rest,ls,e=>by obtain⟨l,e1,e2⟩:=bind_some (show (intsOf (x::xs)).bind _=_ from e);obtain⟨ls',e3,e4⟩:=map_some e2;cases e4;rw[af,<-aLq e3,tupT,<-aC2 e1]
 |.tup []::_,_,e=>by cases e
 |.non::_,_,e=>by cases e
 |.bl _::_,_,e=>by cases e
 |.int _::_,_,e=>by cases e
 |.str _::_,_,e=>by cases e
 |.lst _::_,_,e=>by cases e
 |.dic _::_,_,e=>by cases e
 |.town::_,_,e=>by cases e
theorem aSs(rv:Vals vs us)(r:Reps tw H (ls.map mk) vs)(ky:us.map (kyV h)=ls)(p:out.Perm us):∃ws,Vals ws out/\Reps tw H ((out.map (kyV h)).map mk) ws:=by
 have all:∀ {ls:List (List Int)} {vs:List V} {us:List Value},Vals vs us->Reps tw H (ls.map mk) vs->us.map (kyV h)=ls->∀u∈us,∃v,RelV v u/\Rep tw H (mk (kyV h u)) v:=by
  intro ls vs us rv
  induction rv generalizing ls with
  |nil=>intro _ _ u hu;simp at hu
  | cons r1 r2 ih =>
   rename_i v u vs us;intro rp ek u' hu;subst ek;rw[af,af] at rp;obtain⟨v',w,e,p1,p2⟩:=aA1 rp;cases e;rcases bf.mp hu with rfl |hu
   ·exact⟨v,r1,p1⟩
   ·exact ih p2 rfl u' hu
 have hall:=all rv r ky;refine aEa ZR fun i u e=>?_;obtain⟨v,q1,q2⟩:=hall u (p.mem_iff.mp (j3 e));exact⟨v,mk (kyV h u),q1,by simp[e],q2⟩
theorem aQw(hh:X.A.handled=none):PrS X tw (fun us=>call (.builtin "sorted") us) aG6:=by
 intro B pins s σ H vs us ts n t m Q I rv rt tn e k;have run:∀ {t0:T} {xs:List T} {ls:List (List Int)} {mk:List Int->T} {v:V} {u:Value},Root X.K tw H t0 v->RelV v u->aFx t0=some xs->xs=ls.map mk ->
   (∀ (h':Heap) (vs:List V) (us:List Value),Vals vs us->Reps tw H xs vs->(∀b o,s.heap.get? b=some o->h'.get? b=some o)->us.map (kyV h')=ls/\aT0 X.prog X.w h' us fun x=>rank ls (kyV h' x.1)) ->
   (∀v H',Ext tw H H'->Tn tw n H'->Val X.K B tw H H' (.lst ((aB7 ls).map mk)) .own v->Q v H')->wpAny ZC X.A (call (.builtin "sorted") [u]) (EP X pins σ Q) X.xe s:=by
  intro t0 xs ls mk v u r ru hw hx hs kk;refine aIm (aSf hh I r ru hw fun us vs h' tk h1 h2 h3 kp=>?_);obtain⟨ky,hS⟩:=hs h' vs us h1 h2 kp;refine⟨_,h3,hS,fun h'' xs' e kp2 he hp hsr=>?_⟩;have hp':xs'.Perm (PyProof.Rows.pairsOf us):=hp;obtain⟨p2,e2⟩:=aHd ky hp' hsr;subst hx;obtain⟨ws,w1,w2⟩:=aSs h1 h2 ky p2;rw[e2] at w2;have I1:Inv X pins σ H { s with heap:=h',toks:=tk }:=I.kept kp;have hf:H h'.objs.size=none:=I1.hok.fresh (ae _);have I':=I1.laid (a:=h'.objs.size) (o:=.lst ws) (t':=tk) (h':=h'') kp2 (ae _) ⟨by rw[w1.length,p2.length_eq];exact h3,(xs'.map (·.2)).toList,e,w1,by rw[gw];exact he⟩;exact⟨.ref h'.objs.size,_,I',rfl,kk _ _ (.new hf) (tn.new hf) ⟨_,rfl,hf,_,aAq,Reps.mono (.new hf) _ _ w2⟩⟩
 have sInt:∀ {t0:T} {xs:List T} {ns:List Int} {v:V} {u:Value},Root X.K tw H t0 v->RelV v u->aFx t0=some xs->intsOf xs=some ns ->
   (∀v H',Ext tw H H'->Tn tw n H'->Val X.K B tw H H' (.lst ((sortI ns).map T.int)) .own v->Q v H')->wpAny ZC X.A (call (.builtin "sorted") [u]) (EP X pins σ Q) X.xe s:=by
  intro t0 xs ns v u r ru hw hi kk;have hx:=aC2 hi;refine run (ls:=ns.map fun i=>[i]) (mk:=fun l=>.int (l.headD 0)) r ru hw (by rw[fc];exact hx) (fun h' vs us h1 h2 kp=>?_) fun v H' a b c=>kk v H' a b (by rw[sortI_L,fc] at c;exact c);rw[hx] at h2;cases aE6 h2;exact⟨aVy (aCt h1),aKh (aCt h1)⟩
 match ts,e with
 | [.lst xs],e =>
  obtain⟨v,rfl,r⟩:=aA9 rt;obtain⟨u,rfl,ru⟩:=rv.one;cases hi:intsOf xs with
  | some ns =>
   have e:(match intsOf xs with
    |some ns=>some (T.lst ((sortI ns).map .int),Md.own)
    |none=>(aGt xs).map fun ls=>(T.lst ((aB7 ls).map tupT),Md.own))=some (t,m):=e
   rw[hi] at e;cases e;exact sInt r ru rfl hi k
  | none =>
   have e:(match intsOf xs with
    |some ns=>some (T.lst ((sortI ns).map .int),Md.own)
    |none=>(aGt xs).map fun ls=>(T.lst ((aB7 ls).map tupT),Md.own))=some (t,m):=e
   rw[hi] at e;obtain⟨ls,e1,e2⟩:=map_some e;cases e2;exact run (mk:=tupT) r ru rfl (aLq e1) (fun h' vs us h1 h2 kp=>let tt:=aT4 (I.kept (t':=s.toks) kp) e1 h2 h1;⟨tt.ky,aK3 tt⟩) k
 | [.tup xs],e =>
  obtain⟨v,rfl,r⟩:=aA9 rt;obtain⟨u,rfl,ru⟩:=rv.one;obtain⟨ns,e1,e2⟩:=map_some (show (intsOf xs).map _=_ from e);cases e2;exact sInt r ru rfl e1 k
theorem aKe:∀ {kvs:List (Ky × T)} {ps:List ZP},itemsOf kvs=some ps->kvs=ps.map fun p=>(Sum.inl p.1,T.int p.2)
 |[],_,e=>by cases e;rfl
 |(.inl k,.int v)::r,_,e=>by obtain⟨ps,e1,e2⟩:=map_some (show (itemsOf r).map _=_ from e);cases e2;rw[aKe e1];rfl
 |(.inr _,_)::_,_,e=>by cases e
 |(.inl _,.non)::_,_,e=>by cases e
 |(.inl _,.bl _)::_,_,e=>by cases e
 |(.inl _,.str _)::_,_,e=>by cases e
 |(.inl _,.tup _)::_,_,e=>by cases e
 |(.inl _,.lst _)::_,_,e=>by cases e
 |(.inl _,.dic _)::_,_,e=>by cases e
 |(.inl _,.town)::_,_,e=>by cases e
theorem aUb:∀ {ps:List ZP} {ws:List (Key × V)},RepK tw H (ps.map fun p=>(Sum.inl p.1,T.int p.2)) ws->ws=ps.map fun p=>(Sum.inl p.1,V.int p.2)
 |[],_,r=>by rw[gq,RepK] at r;subst r;rfl
 |p::ps,_,r=>by rw[af,RepK] at r;obtain⟨v,r',rfl,h,q⟩:=r;rw[Rep] at h;rw[aUb q,h];rfl
theorem aZa:∀ {ps:List ZP} {us:List (Key × Value)},KV (ps.map fun p=>(Sum.inl p.1,V.int p.2)) us->∀ (j:Nat) (k:Key) (x:Value),us[j]?=some (k,x)->∃p t,ps[j]?=some p/\k=Sum.inl p.1/\x = .int p.2 t
 |[],_,r,j,k,x,e=>by cases r;simp at e
 | p::ps,_,r,j,k,x,e=>by
  rw[af] at r;cases r with
  | cons h t =>
   rename_i q qs;cases j with
   | zero =>
    simp at e;subst e;obtain⟨h1,u,h2⟩:=h;exact⟨p,u,rfl,h1.symm,h2⟩
   |succ j=>exact aZa t j k x (by simpa using e)
def aH5(H:Hp)(as:List Addr)(ls:List (List Int)):Hp:=fun b=>match as.findIdx? (· == b) with
 |some j=>some (.tup ((ls.getD j []).map V.int))
 |none=>H b
theorem aGg(h:b∉as):aH5 H as ls b=H b:=by
 unfold aH5;have:as.findIdx? (· == b)=none:=by rw[List.findIdx?_eq_none_iff];intro x hx;simp;rintro rfl;exact h hx
 rw[this]
theorem aW8{j:Nat}(nd:as.Nodup)(h:as[j]?=some b):aH5 H as ls b=some (.tup ((ls.getD j []).map V.int)):=by
 unfold aH5;have:as.findIdx? (· == b)=some j:=by
  obtain⟨hj,e⟩:=bh.mp h;rw[gu];refine⟨hj,by simp[e],fun i hi=>?_⟩;have:as[i]≠b:=fun z=>by have:=(jm (h₀:=by lia) (h₁:=hj) nd).mp (z.trans e.symm);lia
  simpa using this
 rw[this]
theorem aSx{o:Expr}{d0:DE}{p apos cpos pos:Pos}(hh:X.A.handled=none)(ho:SE X tw o d0)(hm:X.mg "sorted" = none)(hg:autoParam (Gl X "sorted") az0._auto_1)(hbase:autoParam (attributeBase o "items" X.env (eval o X.env)=eval o X.env) az0._auto_1)(hline:autoParam ((apos.endLine==cpos.line)=true) az0._auto_1)
  (he:autoParam (starEach [.Call (.Attribute o "items" apos) [] [] cpos] X.env=(false,eval (.Call (.Attribute o "items" apos) [] [] cpos) X.env)::starEach [] X.env) az0._auto_1) :
  SE X tw (.Call (.Name "sorted" p) [.Call (.Attribute o "items" apos) [] [] cpos] [] pos) (dPr aG2 (aAa d0 dNil)):=by
 intro B ρ n t mm n' hd pins s σ H Q I ⟨R,k⟩;obtain⟨to,mo,f1,e3⟩:=aKy hd;have ⟨kvs,ps,eo,hi,et,em⟩:∃kvs ps,to = .dic kvs/\itemsOf kvs=some ps/\t = .lst ((aB7 (ps.map aB5)).map tupT)/\mm = .own:=by
  match to,e3 with
  | .dic kvs,e3 =>
   obtain⟨ps,h1,h2⟩:=map_some (show (itemsOf kvs).map _=_ from e3);cases h2;exact⟨kvs,ps,rfl,h1,rfl,rfl⟩
 subst eo et em;refine wpAny_Call_Name_kw (aFs I hg hm boot_sorted ?_ ZA ZA);refine PyProof.Rows.callWith_builtin1 (Q:=EP X pins σ Q) ?_ he rfl;rw[he];refine br (wpAny_Call_method0_late hbase hline (thn (ho.run f1 I R) fun u s1 ⟨v,H1,I1,r1,a1,R1,c1⟩=>?_));obtain⟨a,ws,rfl,na,ea,xa⟩:=c1.root R1 R.tn;cases r1;obtain⟨z,hnd,us,rel,dd⟩:=aFt I1.hok ea;obtain⟨o1,es1,ep1,ho1,ex1,_⟩:=id dd;refine⟨"dict","dict.items",PySem.F.plainAttrs_dict,PySem.F.slot_dict_items,PySem.F.type_dict_items,dd.typeIs,fun b e=>by cases e;exact⟨o1,ho1,ex1.2.1⟩,gK rfl (PySem.evalArgs_none ?_)⟩;refine call_meetsIn PySem.F.slot_dict_items dd.typeIs PySem.F.entry_dict_items (PySem.F.args_dict_items_1 _) (meets_dict_items (aA6 X.prog X.w) a hnd) ⟨⟨us,dd⟩,?_⟩;refine dq ?_;have I2:Inv X pins σ H1 { s1 with heap:=s1.heap.push { cls:=.type "dict_items",data:=.fields #[.ref a] } }:=I1.kept (t':=s1.toks) fun b u q=>aa _ q;have dd2:(s1.heap.push { cls:=.type "dict_items",data:=.fields #[.ref a] }).DictOf (aA6 X.prog X.w) a us:=by obtain⟨_,_,us',rel',dd'⟩:=aFt I2.hok ea;obtain⟨o1,es1,ep1,q1,q2,q3⟩:=dd;exact⟨o1,es1,ep1,aa _ q1,q2,q3⟩
 obtain⟨ep,da⟩:=dd2.dictAt;have hl:ws.length=us.length:=Paired.length rel;have ek:=aKe hi;subst ek;have ew:=aUb xa;subst ew;have hlp:ps.length=us.length:=by rw[<-hl,ak]
 refine aIm (W.kdx_collect (d:=a) hh ⟨_,au _ rfl,rfl,rfl⟩ da (by rw[<-hl];exact z) fun h' tk as kp has hG=>?_);have pr:∀ (j:Nat) (b:Addr),as[j]?=some b->∃ (q:Int × Int) (t t2:Tok),ps[j]?=some q/\h'.get? b=some { cls:=.type "tuple",data:=.seq #[.int q.1 t,.int q.2 t2] }:=fun j b e=>by
  obtain⟨key,kk,x,g1,g2,g3⟩:=hG.pairs j b e;obtain⟨q,t2,h1,rfl,rfl⟩:=aZa rel j kk x g1;have ⟨t,hk⟩:∃t,key = .int q.1 t:=by
   have g2:Value.isInt q.1 key=true:=g2;cases key<;>simp[Value.isInt] at g2
   subst g2;exact⟨_,rfl⟩
  subst hk;exact⟨q,t,t2,h1,g3⟩
 have tt:∀ {as:List Addr} {ps:List ZP},as.length=ps.length->(∀ (j:Nat) (b:Addr),as[j]?=some b->∃ (q:Int × Int) (t t2:Tok),ps[j]?=some q/\h'.get? b=some { cls:=.type "tuple",data:=.seq #[.int q.1 t,.int q.2 t2] })->Tups h' (as.map Value.ref) (ps.map aB5):=by
  intro as
  induction as with
  | nil=>intro ps e _;cases ps with
   |nil=>exact .nil
   |cons _ _=>simp at e
  | cons b as ih =>
   intro ps e h;cases ps with
   |nil=>simp at e
   | cons q ps =>
    obtain⟨q',t,t2,g1,g2⟩:=h 0 b rfl;simp at g1;subst g1
    exact .cons ⟨b,_,_,_,rfl,g2,rfl,rfl,.cons _ _ (.cons _ _ .nil),by simp[aB5]⟩ (ih (by simpa using e) fun j b' e'=>by
     obtain⟨q'',t,t2,g1,g2⟩:=h (j+1) b' (by simpa using e')
     exact⟨q'',t,t2,by simpa using g1,g2⟩)
 have T0:=tt (by rw[has,hlp]) pr;have nd:as.Nodup:=hG.rise.imp fun h=>az h;refine⟨_,by rw[ak,has,<-hl];exact z,aK3 T0,fun h'' xs' e kp2 hx hp hsr=>?_⟩;obtain⟨p2,e2⟩:=aHd T0.ky hp hsr;have above:∀b∈as,s1.heap.objs.size<=b:=fun b hb=>by have:=hG.above b hb;rw[dy] at this;exact d7 (Nat.lt_of_succ_lt this)
 have fr:∀b∈as,H1 b=none:=fun b hb=>I1.hok.fresh (above b hb);have I3:Inv X pins σ (aH5 H1 as (ps.map aB5)) { s1 with heap:=h',toks:=tk }:=by
  refine I1.laids (fun b u q=>kp b u (aa _ q)) (fun b u q=>?_) (fun b hb q=>?_) fun b u q e=>?_
  ·rw[aGg (fun hb=>by rw[fr b hb] at q;cases q)];exact q
  ·rw[aGg (fun hb'=>absurd hb (Nat.not_lt.mpr (above b hb')))];exact q
  ·by_cases hb:b∈as
   ·obtain⟨j,hj⟩:=List.mem_iff_getElem?.mp hb;rw[aW8 nd hj] at e;cases e;obtain⟨q',t,t2,g1,g2⟩:=pr j b hj;have:(ps.map aB5).getD j [] = [q'.1,q'.2]:=by simp[List.getD,g1,aB5]
    rw[this];exact⟨by simp;decide,[.int q'.1 t,.int q'.2 t2],.cons ⟨t,rfl⟩ (.cons ⟨t2,rfl⟩ .nil),_,g2,rfl,rfl,_,rfl⟩
   ·rw[aGg hb,q] at e;cases e
 have x3:Ext tw H1 (aH5 H1 as (ps.map aB5)):=.all fun b u q=>by rw[aGg (fun hb=>by rw[fr b hb] at q;cases q)];exact q
 have tn3:Tn tw n' (aH5 H1 as (ps.map aB5)):=by have:=R1.tn;unfold Tn at this |-;rw[aGg (fun hb=>by rw[fr tw hb] at this;cases this)];exact this
 have rp:∃vs,Vals vs (as.map Value.ref)/\Reps tw (aH5 H1 as (ps.map aB5)) ((ps.map aB5).map tupT) vs:=by
  refine aEa (by rw[ak,ak,ak,has,hlp]) fun j u e=>?_;rw[cg] at e;cases q:as[j]? with
  |none=>rw[q] at e;cases e
  | some b =>
   rw[q] at e;cases e;obtain⟨q',t,t2,g1,g2⟩:=pr j b q;refine⟨.ref b,tupT (aB5 q'),rfl,by simp[g1],?_⟩;rw[tupT,Rep];refine⟨b,_,rfl,aW8 nd q,?_⟩;rw[show (ps.map aB5).getD j []=aB5 q' by simp[List.getD,g1]];exact Reps.ints _
 obtain⟨vs,v1,v2⟩:=rp;obtain⟨ws',w1,w2⟩:=aSs v1 v2 T0.ky p2;rw[e2] at w2;have hf:aH5 H1 as (ps.map aB5) h'.objs.size=none:=I3.hok.fresh (ae _);have I4:=I3.laid (a:=h'.objs.size) (o:=.lst ws') (t':=tk) (h':=h'') kp2 (ae _) ⟨by rw[w1.length,p2.length_eq,ak,has,<-hl];exact z,(xs'.map (·.2)).toList,e,w1,by rw[gw];exact hx⟩;exact⟨.ref h'.objs.size,_,I4,rfl,k _ _ (a1.trans (x3.trans (.new hf))) (tn3.new hf) ⟨_,rfl,a1.free R1.tn (x3.free tn3 hf),_,aAq,Reps.mono (.new hf) _ _ w2⟩⟩
end
end L2.Ds
section
namespace L2.Ds
open PySem PySem.Spec PyProof.Rows L2.Tm
def bBk(K:W.Frag):Sp:=fun vs H Q _=>∃ (a:Addr) (ns:List Int),vs = [.ref a]/\Tb K H/\SqL K H a (ns.map V.int)/\ns.length<=63/\∀H',Q (.bl true) H'
theorem law_ok{P:Program}{w:World}{K:W.Frag}{mg:Str->Option Value}{base:Heap}{st:Stmt}{f:Addr}{fd:FuncData}{N:List Str}{lv:Nat}{rest:List Stmt}{b:DS}{px pl pos:Pos}(F:Fun K "law" "law" st f fd)(S:FnScope N ["_law_script"] (aAp st))
  (hb:aCg st = .Assign [.Name "_law_town" px] (.List [] pl) pos::rest) (h1:N[1]?=some ("_law_town" : Str)) (h2:2<=N.length) (hx:Loc (aAp st) "_law_town")
  (hs:∀ (cdv:Value) (A:Around) (outer:List Env) (s:Shared) (H:Hp) (E:XK),swapsWith (.List [] pl) (some (.Name "_law_town" px)) pos.line (cxOf CX0 P w K mg base N "law" (aAp st) f cdv A outer s H E).nox.env=pure false)
  (hbody:∀ (tw:Addr) (cdv:Value) (A:Around) (outer:List Env) (s:Shared) (H:Hp) (E:XK),Room lv (A.deeper (envOfC "law" (aAp st) s.heap.objs.size f cdv))->SSs (cxOf CX0 P w K mg base N "law" (aAp st) f cdv A outer s H E).nox tw rest b)
  (run:∀ns:List Int,ns.length<=63->∃ρ' n',b (aF1 ns N.length) 0=some (.rt (.bl true) false,ρ',n')):FnOk P w K mg base CX0 (lv+1) f fd ["_law_script"] (bBk K):=by
 refine F.ok S (fun vs H Q E h=>?_) (fun cdv A outer s H vs Q E hr h=>?_)
 ·obtain⟨a,ns,rfl,_⟩:=h;rfl
 obtain⟨a,ns,rfl,hT,hS,h63,q⟩:=h;obtain⟨ρ',n',e⟩:=run ns h63;rw[hb];refine⟨_,aFh (aXg (i:=1) S.nd h1 hx (pe_lst aQf) (hs cdv A outer s H E) (.inl rfl)) (u:=fun D σ H=>∃tw B,rS K B tw (aF1 ns N.length) 0 (.rt (.bl true) false) ρ' n' D σ H) (fun pins s' σ H' D I h=>?_),?_⟩
 ·obtain⟨tw,B,h⟩:=h;exact hbody tw cdv A outer s H E hr B _ 0 _ _ _ e pins s' σ H' D I h
 ·refine⟨by show 0<=sizeLine;exact gn _,fun p hp=>?_⟩;have na:∀b o,H b=some o->b≠p:=fun b o z=>by rintro rfl;rw[hp] at z;cases z
  have hq:SqR K p (upd H p (.lst [])) a (ns.map V.int):=by
   rcases hS with (z |⟨o,z⟩) |z |z
   ·exact .inl ⟨na _ _ z,.inl (by rw[aAn (na _ _ z)];exact z)⟩
   ·exact .inl ⟨na _ _ z,.inr ⟨o,by rw[aAn (na _ _ z)];exact z⟩⟩
   ·exact .inr (.inl z)
   ·exact .inr (.inr ⟨na _ _ z,by rw[aAn (na _ _ z)];exact z⟩)
  refine⟨p,upd H p (.lst []),⟨?_,?_⟩⟩
  ·have tn:Tn p 0 (upd H p (.lst [])):=by unfold Tn;rw[aAq];rfl
   have hlen:(aF1 ns N.length).length=N.length:=by unfold aF1;simp;lia
   have hst:start N [V.ref a]=some (V.ref a)::List.replicate (N.length - 1) none:=rfl;have hs1:((start N [V.ref a]).set 1 (some (V.ref p)))=some (V.ref a)::some (V.ref p)::List.replicate (N.length - 2) none:=by rw[hst,show N.length - 1=(N.length - 2)+1 by lia,fi];rfl
   have get:∀ (i:Nat) (x:T × Md),(aF1 ns N.length)[i]?=some (some x)->(i=0/\x=ZO)\/(i=1/\x=(.town,.fz)):=fun i x z=>by
    unfold aF1 at z
    match i,z with
    |0,z=>simp at z;exact .inl ⟨rfl,z.symm⟩
    |1,z=>simp at z;exact .inr ⟨rfl,z.symm⟩
    | i+2,z =>
     have z:(List.replicate (N.length - 2) (none:Option (T × Md)))[i]?=some (some x):=z;rw[iB] at z;split at z<;>cases z
   rw[hs1];refine⟨.refl _ _,tn,⟨⟨0,tn⟩,hT.ext (tw:=p) (.new hp)⟩,by rw[hlen];simp;lia,fun i t z=>?_,fun i t z=>?_,fun i t z=>?_,fun i t z=>?_,fun i tb td z=>?_,fun i j tb tb' td td' a a' l z=>?_,fun i j t t' a z=>?_⟩
   ·rcases get i _ z with ⟨rfl,z⟩ |⟨rfl,z⟩
    ·cases z
    ·cases z;exact⟨_,rfl,by rw[Rep]⟩
   ·rcases get i _ z with ⟨rfl,z⟩ |⟨rfl,z⟩
    ·cases z;exact⟨_,rfl,a,_,rfl,hq,Reps.ints ns⟩
    ·cases z
   ·rcases get i _ z with ⟨rfl,z⟩ |⟨rfl,z⟩<;>cases z
   ·rcases get i _ z with ⟨rfl,z⟩ |⟨rfl,z⟩<;>cases z
   ·rcases get i _ z with ⟨rfl,z⟩ |⟨rfl,z⟩<;>cases z
   ·rcases get i _ z with ⟨rfl,z⟩ |⟨rfl,z⟩<;>cases z
   ·rcases get i _ z with ⟨rfl,z⟩ |⟨rfl,z⟩<;>cases z
  ·intro v H' _ _ _ z;have z:Rep p H' (.bl true) v:=z;rw[Rep] at z;subst z;exact q H'
theorem walkL{l:W.OpenLaw}{q:Program}{loose:List Str}{XP:(Str->Option Value)->Heap->Prop}{YP:World->Heap->Prop}{d:DefRec}{K:Params->W.Frag}(k:Nat)(hn:l.most=some 63)(hdf:d.params.defaults = [])(hr:Room k callerA)
  (hY:∀ (w:World) (h:Heap),YP w h->(K w.params).In h)
  (F:∀ (w:World) (mg:Str->Option Value) (fa:Addr) (h:Heap),(K w.params).In h->h.Ns mainGlobals mg->mg d.name=some (.ref fa) ->
   ∃fd:FuncData,(∀ (s:Shared) (u:Value),BindsTo s fd ⟨[u],[]⟩ [("_law_script",u)])/\∀base:Heap,(K w.params).In base->base.Ns mainGlobals mg->FnOk l.prog w (K w.params) mg base CX0 k fa fd ["_law_script"] (bBk (K w.params))) (hmk:∀w:World,mkOf (K w.params)=none) :
  W.WalkO q loose XP YP l.row.toRowW d [] (fun f vs=>PySem.call f vs) :=
 L2.walk_of (n:=63) (k:=k) (x:="_law_script") (CX:=fun _=>CX0) (sp:=fun w=>bBk (K w.params)) hn ZA hdf hr hY F (fun w _ a ns hl _ hS=>⟨a,ns,rfl,.none (hmk w),hS,hl,fun _=>rfl⟩) fun _ _ _ _ _ z=>z
theorem CompTxt.of{X:Cx}{scope:Scope}{N':List Str}{srcs:List (Option Nat)}(h1:autoParam (scope.kind = .function) az0._auto_1)(h2:autoParam ((scope.names.all fun y=>y.2 != .cell)=true) az0._auto_1)
  (h3:autoParam ((scope.names.all fun y=>y.2 != .local||scope.names.lookup y.1==some .local)=true) az0._auto_1)
  (h4:autoParam ((scope.names.all fun y=>y.2 != .free||X.env.kindOf y.1==some .cell||X.env.kindOf y.1==some .free)=true) az0._auto_1)
  (h5:autoParam (srcs.length=N'.length) az0._auto_1)
  (h6:autoParam (((List.range srcs.length).all fun i=>match srcs[i]? with
   | some (some j)=>(match N'[i]? with
    |some x=>X.N[j]?==some x&&scope.names.lookup x != some .local
    |none=>false)
   |_=>true)=true) az0._auto_1):CompTxt X scope N' srcs:=by
 refine⟨h1,fun y hy z=>?_,fun y hy z=>?_,fun y hy z=>?_,h5,fun i j e=>?_⟩
 ·have:=bu.mp h2 y hy;rw[z] at this;cases this
 ·have:=bu.mp h3 y hy;rw[z] at this;exact eq_of_beq (by simpa using this)
 ·have:=bu.mp h4 y hy;rw[z] at this;simpa using this
 ·have hi:i<srcs.length:=(bh.mp e).1;have:=bu.mp h6 i (iX.mpr hi);rw[e] at this
  have:(match N'[i]? with
    |some x=>X.N[j]?==some x&&scope.names.lookup x != some .local
    |none=>false)=true:=this
  cases q:N'[i]? with
  |none=>rw[q] at this;cases this
  | some x =>
   rw[q] at this;simp only[bo,beq_iff_eq,bne_iff_ne] at this;exact⟨x,rfl,this.1,this.2⟩
end L2.Ds
namespace L2
open PySem
theorem Room.u1{k:Nat}(r:Room k A):A.units+1<cLine:=by have:=r.un;lia
theorem Room.u6{k:Nat}(r:Room k A):A.units+6<cLine:=by have:=r.un;lia
end L2
set_option maxHeartbeats 8000000
namespace L2.Ds
open PySem PySem.Spec PyProof.Rows L2.Tm
def bBe:Pr:=fun _ ts=>match ts with
 |[.lst [.int i]]=>some (.lst [.int i],.own)
 |_=>none
def byT1(w:World):Bool:=w.params.followText "set-order"
structure Set1 (w:World) (h:Heap) (a:Addr) (e:Int × Value) (ep:Nat) (t:SetTable):Prop where
 obj:∃o,h.get? a=some o/\o.ExactSet/\o.data = .set #[e] ep t
 fit:t.fits (#[e]:Array (Int × Value)).size=true
 led:t.led = !byT1 w
abbrev aFe(w:World):Obj:={ cls:=.type "set",dict:=none,data:=.set #[] 0 (.fresh 0 0 (!byT1 w)) }
abbrev sit1(f:Value)(i:Nat)(a:Addr)(ep:Nat):Obj:={ cls:=.type "set_iterator",data:=.fields #[f,rawInt i,.ref a,rawInt (1:Nat),rawInt ep] }
theorem led_lay(es:Array (Int × Value))(h:Int)(x:Value):(layNew t es h x).2.1.led=t.led:=by
 unfold layNew;cases e:t.freeSlot h with
 |none=>rfl
 | some q =>
  obtain⟨j,w⟩:=q;dsimp only;unfold SetTable.orStandIn;split<;>rfl
theorem aY8(es:Array (Int × Value))(k:Nat):(relayAll t es k).2.1.led=t.led:=by
 unfold relayAll;cases e:t.relaid (es.map (·.1)) k with
 |none=>rfl
 | some q =>
  obtain⟨t',order⟩:=q;dsimp only;split
  ·unfold SetTable.relaid SetTable.laid at e;obtain⟨owner,_,e2⟩:=bind_some (show (SetTable.layClean _ _).bind _=_ from e);cases e2;rfl
  ·rfl
theorem arr1{e:Int × Value}(p:es.toList.Perm [e]):es = #[e]:=by
 cases es with
 |mk l=>exact congrArg Array.mk (j8.mp p)
theorem below1{t:SetTable}(h:t.fits 1=true):∃j,t.place = #[j]:=by
 have h:t.place.size=1:=by simp[SetTable.fits] at h;exact h.1
 cases e:t.place with
 | mk l =>
  rw[e] at h
  match l,h with
  |[j],_=>exact⟨j,rfl⟩
section
variable {prog:Program}{w:World}{A:Around}{E:Value->Shared->Prop}{s:Shared}{I a:Addr}{e:Int × Value}{ep i sl:Nat}{t:SetTable}
theorem Set1.kept(g:Set1 w h a e ep t)(k:∀o,h.get? a=some o->h'.get? a=some o):Set1 w h' a e ep t:=let ⟨o,h1,h2⟩:=g.obj;⟨⟨o,k o h1,h2⟩,g.fit,g.led⟩
theorem store1{h:Heap}{t':SetTable}(h1:h.get? a=some o)(h2:o.ExactSet)(h3:o.data = .set es ep t)(fit:t'.fits (#[e]:Array (Int × Value)).size=true)(led:t'.led = !byT1 w) :
  Set1 w (h.update a (Obj.putSet #[e] t')) a e (ep+1) t':=by
 have:=fq (Obj.putSet #[e] t') h1 (by rw[putSet_of #[e] t' h3];rfl);rw[putSet_of #[e] t' h3] at this;exact⟨⟨_,this,h2,rfl⟩,fit,led⟩
theorem add1{v:Int}{Q:Bool->Shared->Prop}(ho:s.heap.get? a=some (aFe w))(k:∀h' ep' t',Heap.SameBut a s.heap h'->Set1 w h' a ((intKind prog w).hash v,.int v tk) ep' t'->Q true { s with heap:=h' }) :
  wpAny ZI A (setAddHashed a (.int v tk) ((intKind prog w).hash v)) Q E s:=by
 have hkey:(intKind prog w).is v (.int v tk)=true:=intKind_is _ _ _ _;have hd:(aFe w).data = .set #[] 0 (.fresh 0 0 (!byT1 w)):=rfl;have hx:(aFe w).ExactSet:=⟨rfl,rfl,rfl⟩
 have fit:(SetTable.fresh 0 0 (!byT1 w)).fits (#[]:Array (Int × Value)).size=true:=rfl;have el:ElemsOf (intKind prog w) (#[]:Array (Int × Value)).toList:=fun e he=>by simp at he
 have hl:(SetTable.fresh 0 0 (!byT1 w)).led = !byT1 w:=rfl;generalize aFe w=o at ho hd hx;generalize SetTable.fresh 0 0 (!byT1 w)=t at hd fit hl;unfold setAddHashed setAddHashedIn;refine wpAny_holding (wpAny_bind (wpAny_setState_of ho hd fit ?_));dsimp only;rw[byScan_of (x:=.int v tk) rfl ZA el,if_pos rfl];unfold setAddByScan;refine wpAny_bind (wpAny_bind (wpAny_rule (wpAny_bind (wpAny_setScan_of hkey ho hd fit el ?_))));have p1:=layNew_perm t #[] ((intKind prog w).hash v) (.int v tk);have f1:=layNew_fits t #[] ((intKind prog w).hash v) (.int v tk);have g1:=(led_lay (t:=t) #[] ((intKind prog w).hash v) (.int v tk)).trans hl;rw[show List.findIdx? (fun e:Int × Value=>(intKind prog w).is v e.2) (#[]:Array (Int × Value)).toList=none from rfl];dsimp only;generalize layNew t #[] ((intKind prog w).hash v) (.int v tk)=L at p1 f1 g1 |-;obtain⟨es1,t1,wd,gv⟩:=L;dsimp only at p1 f1 g1 |-;cases arr1 p1;have way:∀ (b:Bool) {s₁:Shared} {Q':Unit->Shared->Prop},Q' () s₁->wpAny ZI A (match b with |true=>rule "set.scan.the-table-gave-way" |false=>pure ()) Q' E s₁:=fun b s₁ Q' hq=>by
  cases b
  ·exact wpAny_pure hq
  ·exact wpAny_rule hq
 have S1:=store1 (e:=((intKind prog w).hash v,Value.int v tk)) ho hx hd f1 g1;have sb1:=Heap.SameBut.update s.heap a (Obj.putSet #[((intKind prog w).hash v,Value.int v tk)] t1);refine wpAny_bind (way _ ?_)
 have tail:∀ {Q':Option Bool->Shared->Prop},(∀s',Q true s'->Q' (some true) s')->wpAny ZI A (do
   storeSet a #[((intKind prog w).hash v,Value.int v tk)] t1
   if (!wd&&t1.tooFull)=true then do
     (match (relayAll t1 #[((intKind prog w).hash v,Value.int v tk)] (SetTable.grown (#[((intKind prog w).hash v,Value.int v tk)]:Array (Int × Value)).size)).2.2 with |true=>rule "set.scan.the-table-gave-way" |false=>pure ())
     storeSet a (relayAll t1 #[((intKind prog w).hash v,Value.int v tk)] (SetTable.grown (#[((intKind prog w).hash v,Value.int v tk)]:Array (Int × Value)).size)).1 (relayAll t1 #[((intKind prog w).hash v,Value.int v tk)] (SetTable.grown (#[((intKind prog w).hash v,Value.int v tk)]:Array (Int × Value)).size)).2.1
     pure (some true)
    else pure (some true)) Q' E s:=fun {Q'} hq=>by
  refine wpAny_bind (wpAny_storeSet_of ho hd ?_ (fits_of_scanBound (show 1<scanBound by decide)));split
  ·generalize SetTable.grown _=m;have p2:=relayAll_perm t1 #[((intKind prog w).hash v,Value.int v tk)] m;have f2:=relayAll_fits t1 #[((intKind prog w).hash v,Value.int v tk)] m;have g2:=(aY8 (t:=t1) #[((intKind prog w).hash v,Value.int v tk)] m).trans g1;generalize relayAll t1 #[((intKind prog w).hash v,Value.int v tk)] m=Rl at p2 f2 g2 |-;obtain⟨es2,t2,gv2⟩:=Rl;dsimp only at p2 f2 g2 |-;cases arr1 p2;obtain⟨o1,ho1,hx1,hd1⟩:=S1.obj;refine wpAny_bind (way _ (wpAny_bind (wpAny_storeSet_of ho1 hd1 ?_ (fits_of_scanBound (show 1<scanBound by decide)))));exact wpAny_pure (hq _ (k _ _ t2 (sb1.trans (Heap.SameBut.update _ a _)) (store1 ho1 hx1 hd1 f2 g2)))
  ·exact wpAny_pure (hq _ (k _ _ t1 sb1 S1))
 have eq1:hashByValue 8 (.int v tk)=pure true:=rfl;split
 ·rw[eq1];refine wpAny_bind (wpAny_pure ?_);simp only[if_true];exact tail fun _ z=>wpAny_pure z
 ·refine wpAny_bind (wpAny_pure ?_);simp only[if_true];exact tail fun _ z=>wpAny_pure z
theorem loop1{P:Nat->Value->Prop}{St:Nat->Heap->Prop}{v:Int}(W:Walks prog w A.in1 I fp wr 1 P St)(hS:a∉fp)(hP:∀x,P 0 x->∃t,x = .int v t)(st:St 0 s.heap)(hf:s.heap.get? a=some (aFe w))
  (fin:∀h' tk k ep t,(∀b o,b≠a->b∉wr->s.heap.get? b=some o->h'.get? b=some o)->Set1 w h' a ((intKind prog w).hash v,.int v k) ep t->R (.ok (.ret .none)) { s with heap:=h',toks:=tk }) :
  codeAny ZI A (.builtin "set.update.loop" ⟨[.ref a,.ref I],[]⟩) R s:=by
 have hw:a∉wr:=fun z=>hS (W.sub _ z);refine codeAny_builtin F.entry_set_update_loop ?_;rw[Around.under_plainId F.plain_set_update_loop _];refine wpAny_bind (m:=pyNext (.ref I)) (W.item 0 s _ _ Nat.one_pos st fun x h' tk hv st' kp=>?_);obtain⟨t,rfl⟩:=hP x hv;refine wpAny_bind (m:=holding [Value.int v t] (setAdd a (.int v t))) (wpAny_holding ?_);unfold setAdd;refine wpAny_holding (wpAny_bind ((intKind prog w).pyHash (k:=v) (intKind_is _ _ _ _) ?_));refine add1 (s:={ s with heap:=h',toks:=tk+1 }) (kp a _ hw hf) fun h2 ep2 t2 sb g2=>?_;refine wpAny_pure ⟨plainId_quiet F.plain_set_update_loop _,codeAny_builtin F.entry_set_update_loop ?_⟩;rw[Around.under_plainId F.plain_set_update_loop _];refine wpAny_bind (m:=pyNext (.ref I)) (W.done _ _ _ (W.frame _ _ _ st' fun b hb o z=>(sb.2 b (fun q=>hS (by rw[<-q];exact hb))).trans z) fun h3 tk3 kp3=>?_);exact wpAny_pure (fin h3 tk3 t ep2 t2 (fun b o nb nw z=>kp3 b o nw ((sb.2 b nb).trans (kp b o nw z))) (g2.kept fun o z=>kp3 a o hw z))
theorem new1(x:Value)(h:Q₁ (.ref s.heap.objs.size) { s with heap:=s.heap.push (aFe w) }) :
  codeAny ZI A (.call (.builtin "set.__new__") ⟨[.type "set",x],[]⟩) (wants Q₁ E) s:=by
 refine codeAny_of_tree (show wpAny _ A.in1 (do checkBuiltinCall "set.__new__" ⟨[.type "set",x],[]⟩;again (.builtin "set.__new__" ⟨[.type "set",x],[]⟩)) _ _ s from ?_)
 refine wpAny_bind (wpAny_of_eq (F.newCall_set_1 x) (wpAny_pure ⟨plainId_quiet F.plain_set_new _,codeAny_builtin F.entry_set_new (by
  rw[Around.under_plainId F.plain_set_new _];unfold Builtin.«set.__new__» Builtin.Frozenset.newClass;have hsub:=sub_set_self;obtain⟨hp,g,d,tk,os⟩:=s;dsimp only;wp_walk;refine wpAny_askSetting (wpAny_pure ?_);dsimp only;simp only[newObj]
  exact wpAny_bind (wpAny_alloc (wpAny_pure (wpAny_pure h))))⟩))
theorem set_of1{v:Int}(hh:A.handled=none)(hl:s.heap.IsList l items)(hz:items.size=1)(hi:∀x,items[0]?=some x->∃t,x = .int v t)
  (h:∀h' tk k ep t,Set1 w h' s.heap.objs.size ((intKind prog w).hash v,.int v k) ep t->(∀b o,s.heap.get? b=some o->h'.get? b=some o)->Q (.ref s.heap.objs.size) { s with heap:=h',toks:=tk }) :
  wpAny ZI A (call (.type "set") [.ref l]) Q E s:=by
 obtain⟨c',tl,hmro⟩:=F.called_set.mro;have hmade:=F.called_set.made;have hsub:=F.called_set.sub;refine wpAny_call (codeAny_of_tree (show wpAny _ _ (callAny (.type "set") _) _ _ _ from wpAny_pure ⟨Code.quiet_builtin _ (by decide +kernel),codeAny_builtin F.entry_type_call ?_⟩));rw[Around.under_plain (weight_type_call_type "set" [.ref l] []) rfl];have k1:=F.called_set.notType;have k2:=F.called_set.canCreate;have k3:=F.typeCall_set_1 (.ref l)
 repeat (any_goals (first |assumption |wp_step))
 refine codeAny_mono (new1 (.ref l) (E:=E) (Q₁:=fun obj s₁=>obj = .ref s.heap.objs.size/\s₁ = { s with heap:=s.heap.push (aFe w) }) ⟨rfl,rfl⟩) fun r s₁ hr=>?_;cases r with
 |error e=>exact hr
 | ok fl =>
  cases fl with
  | ret obj =>
   obtain⟨rfl,rfl⟩:=hr;have hS:(s.heap.push (aFe w)).get? s.heap.objs.size=some (aFe w):=au _ rfl;have hT:Shared.TypeIs { s with heap:=s.heap.push (aFe w) } (.ref s.heap.objs.size) "set":=⟨_,hS,rfl⟩
   have k4:=F.called_set.init.lookup;have k5:=F.called_set.init.bind (.ref s.heap.objs.size)
   repeat (any_goals (first |assumption |wp_step))
   refine codeAny_mono (codeAny_call_builtin (R:=wants (fun r s₂=>r = .none/\∃h' tk k ep t,s₂ = { s with heap:=h',toks:=tk }/\Set1 w h' s.heap.objs.size ((intKind prog w).hash v,.int v k) ep t/\(∀b o,s.heap.get? b=some o->h'.get? b=some o)) E) F.called_set.init.plain F.entry_set_init (check_set_init_1 hT ?_)) fun r₂ s₂ hr₂=>?_
   ·have hl1:(s.heap.push (aFe w)).IsList l items:=hl.push _;obtain⟨⟨ocls,odict,odata,oslots⟩,hol,hcl,nl,hdl⟩:=hl;simp only at hcl hdl;subst hcl;subst hdl;have hlt:l<s.heap.objs.size:=ai hol;have hol':=aa (aFe w) hol;have q1:=F.sub_list_set;have q2:=F.sub_list_frozenset;have q3:(Value.type "list" == Value.type "dict")=false:=by decide
    unfold Builtin.«set.__init__» noKeywords Builtin.Frozenset.updateFrom;generalize hPI:pyIter=PI
    wp_walk
    subst hPI;refine wpAny_pyIter_list hl1 (wpAny_bind (wpAny_runValue ?_));have W:=Walks.list (prog:=prog) (w:=w) (A:=A.in1.in1.in1) (by simp[hh]) (s.heap.push (aFe w)).objs.size l (by rw[dy];exact az (fj hlt)) items;rw[hz] at W;refine loop1 W (by rw[dy];simp;exact iU hlt) hi ⟨⟨_,au _ rfl,rfl,rfl⟩,hl1.push _⟩ (aa _ hS) fun h' tk k ep t kp g=>wpAny_pure (wpAny_pure ⟨rfl,h',tk,k,ep,t,rfl,g,fun b o z=>?_⟩);have hb:=ai z;exact kp b o (az hb) (by rw[dy];simp;exact az (fj hb)) (aa _ (aa _ z))
   ·cases r₂ with
    |error e=>exact hr₂
    | ok fl₂ =>
     cases fl₂ with
     | ret r =>
      obtain⟨rfl,h',tk,k,ep,t,rfl,g,kp⟩:=hr₂
      repeat (any_goals (first |assumption |wp_step))
      exact h _ _ _ _ _ g kp
     |_=>exact hr₂.elim
  |_=>exact hr.elim
end
end L2.Ds
end
section
set_option maxHeartbeats 8000000
namespace L2.Ds
open PySem PySem.Spec PyProof.Rows L2.Tm
theorem bAj:Manifest.owners.lookup (String.ofList ['r','o','t','a','r','e','t','i','_','t','e','s'].reverse)=some Manifest.sig_set_iterator:=by kernel_rfl
theorem aNc:Slot "set_iterator" "__next__" "set_iterator.__next__" :=
 .of (owner:="set_iterator") (n:="__next__") (by rw[typeLookup_type,builtinLookup_eq_fast];kernel_rfl) (by decide +kernel) (by decide +kernel) (by decide +kernel) (by first |exact .inl (by decide +kernel) |exact .inr (by decide +kernel)) (by rw[isSubtype_type];kernel_rfl)
theorem entry_s1:entryFor table "set_iterator.__next__" = some Builtin.«set_iterator.__next__»:=entryFor_of_tree (by kernel_rfl)
theorem args_s1(a:Value):argsOk "set_iterator.__next__" ⟨[a],[]⟩:=by unfold argsOk;rw[signature?_of (id:="set_iterator.__next__") (n:=['_','_','t','x','e','n','_','_']) (o:=['r','o','t','a','r','e','t','i','_','t','e','s']) (by kernel_rfl) bAj];kernel_rfl
theorem entry_t1:entryFor table "set.__iter__" = some Builtin.«frozenset.__iter__»:=entryFor_alias (id':="frozenset.__iter__") (by kernel_rfl) rfl (by decide +kernel) (by kernel_rfl)
theorem bA0:Slot "set_iterator" "__iter__" "set_iterator.__iter__" :=
 .of (owner:="set_iterator") (n:="__iter__") (by rw[typeLookup_type,builtinLookup_eq_fast];kernel_rfl) (by decide +kernel) (by decide +kernel) (by decide +kernel) (by first |exact .inl (by decide +kernel) |exact .inr (by decide +kernel)) (by rw[isSubtype_type];kernel_rfl)
theorem args_i1(a:Value):argsOk "set_iterator.__iter__" ⟨[a],[]⟩:=by unfold argsOk;rw[signature?_of (id:="set_iterator.__iter__") (n:=['_','_','r','e','t','i','_','_']) (o:=['r','o','t','a','r','e','t','i','_','t','e','s']) (by kernel_rfl) bAj];kernel_rfl
theorem entry_i1:entryFor table "set_iterator.__iter__" = some Builtin.«dict_keyiterator.__iter__»:=entryFor_alias (id':="dict_keyiterator.__iter__") (by kernel_rfl) rfl (by decide +kernel) (by kernel_rfl)
section
variable {prog:Program}{w:World}{A:Around}{E:Value->Shared->Prop}{s:Shared}{I a:Addr}{e:Int × Value}{ep i sl:Nat}{t:SetTable}
theorem next1(g:Set1 w s.heap a e ep t)(hi:i=0\/i=1)(hs:byT1 w=false->SetTable.below t.place sl=i)
  (h0:i=0->∀m,(byT1 w=false->SetTable.below t.place m=1)->Q (some (e.2,m)) s) (h1:i=1->Q none s):wpAny ZI A (setNext a sl i ep) Q E s:=by
 obtain⟨o,ho,hx,hdt⟩:=g.obj;obtain⟨j,hj⟩:=below1 g.fit;unfold setNext setsByText;refine wpAny_bind (wpAny_setState_of ho hdt g.fit ?_);dsimp only;refine wpAny_bind (wpAny_bind (wpAny_askSetting (wpAny_pure ?_)));show wpAny _ _ (if byT1 w=true then _ else _) _ _ s;cases hb:byT1 w with
 | true =>
  rw[if_pos rfl,if_neg ZR];unfold setWalk setsByText;refine wpAny_bind (wpAny_bind (wpAny_setState_of ho hdt g.fit ?_));dsimp only;refine wpAny_bind (wpAny_bind (wpAny_askSetting (wpAny_pure ?_)));show wpAny _ _ (if byT1 w=true then _ else _) _ _ s;rw[hb,if_pos rfl];refine wpAny_bind (wpAny_askSetting (wpAny_pure (wpAny_pure ?_)));have pk:pickOrder (w.params.setOrder a ep) #[e] = #[e]:=by simp[pickOrder,pickOrder.go,Nat.mod_one]
  show Q (((pickOrder (w.params.setOrder a ep) #[e])[i]?).map fun e=>(e.2,sl)) s;rw[pk];rcases hi with rfl |rfl
  ·exact h0 rfl sl fun z=>by rw[hb] at z;cases z
  ·exact h1 rfl
 | false =>
  rw[if_neg ZR];have e2:t.led=true:=by rw[g.led,hb];rfl
  show wpAny _ _ (if (!t.plain&&decide ((#[e]:Array (Int × Value)).size > 1))=true then _ else _) _ _ s;rw[if_neg ZR];refine wpAny_bind ?_;wp_delta;rw[e2,if_neg ZR];refine wpAny_pure (wpAny_pure ?_);show Q (match (#[e]:Array (Int × Value))[SetTable.below t.place sl]?,t.place[SetTable.below t.place sl]? with |some (_,x),some j=>some (x,j+1) |_,_=>none) s;rw[hs hb,hj];rcases hi with rfl |rfl
  ·exact h0 rfl (j+1) fun _=>by rw[hj];simp[SetTable.below,SetTable.below.go]
  ·exact h1 rfl
theorem si1(hh:A.handled=none)(hit:s.heap.get? I=some (sit1 (rawInt sl) i a ep))(g:Set1 w s.heap a e ep t)(hi:i=0\/i=1)(hs:byT1 w=false->SetTable.below t.place sl=i)
  (h1:i=0->∀m h',(byT1 w=false->SetTable.below t.place m=1)->h'.get? I=some (sit1 (rawInt m) (i+1) a ep)->Heap.SameBut I s.heap h'->Q (some e.2) { s with heap:=h' })
  (h2:i=1->∀h',(∀b o,b≠I->s.heap.get? b=some o->h'.get? b=some o)->Q none { s with heap:=h' }):wpAny (model prog w) A (pyNext (.ref I)) Q E s:=by
 have hT:s.TypeIs (.ref I) "set_iterator":=⟨_,hit,rfl⟩
 obtain⟨o,ho,hx,hdt⟩:=g.obj;unfold pyNext;refine wpAny_bind (wpAny_attempt (wpAny_callSpecial?_slot (name:=Str.ofString "__next__") hT aNc (wpAny_call_entry aNc hT entry_s1 ?_ (args_s1 _))));unfold Builtin.«set_iterator.__next__»;refine wpAny_bind (wpAny_pure (wpAny_bind (wpAny_fieldsOf hit rfl ?_)));dsimp only;refine wpAny_bind (wpAny_setEntries_of ho hdt g.fit ?_);rw[if_neg ZR];simp only[rawInt,i7];refine wpAny_bind (next1 g hi hs (fun z m hm=>?_) fun z=>?_)
 ·dsimp only;refine wpAny_bind (wpAny_setField hit rfl ZR (wpAny_bind ?_));have hit2:=fq (Obj.mapFields (·.setIfInBounds 0 (rawInt m))) hit rfl;refine wpAny_setField hit2 rfl ZR (wpAny_pure ⟨_,rfl,wpAny_pure (h1 z m _ hm ?_ ((Heap.SameBut.update ..).trans (Heap.SameBut.update ..)))⟩);exact fq _ hit2 rfl
 ·dsimp only;refine wpAny_bind (wpAny_setField hit rfl ZR (wpAny_bind ?_));simp only[newExc,newTuple];refine wpAny_bind (wpAny_newObj_type ?_ (by size_fits));refine wpAny_bind (m:=firstArgMember _ _) (wpAny_of_eq (a:=Value.none) (by first |rfl |(simp only[firstArgMember];rfl)) ?_);refine wpAny_newObj_type ?_ (by size_fits);simp only[raiseNew];refine wpAny_bind (wpAny_handled ?_);rw[show A.in1.in1.handled=none by simpa using hh];refine wpAny_bind (wpAny_pure (wpAny_throw ?_));refine wpAny_bind (wpAny_isInstance (T:="StopIteration") (b:=true) ⟨_,au _ rfl,rfl⟩ isSubtype_stop (wpAny_pure (h2 z _ fun b o nb y=>aa _ (aa _ ?_))));rw[(Heap.SameBut.update s.heap I _).2 b nb];exact y
theorem walk1(hh:A.handled=none)(hIa:I≠a) :
  Walks prog w A I [I,a] [I] 1 (fun i v=>i=0/\v=e.2) (fun i h=>∃sl:Nat,h.get? I=some (sit1 (rawInt sl) i a ep)/\Set1 w h a e ep t/\(byT1 w=false->SetTable.below t.place sl=i)) where
 sub:=fun b hb=>by simp at hb;simp[hb]
 frame:=fun i h h' st k=>let ⟨sl,q1,q2,q3⟩:=st;⟨sl,k I ZR _ q1,q2.kept fun o z=>k a ZR o z,q3⟩
 item:=fun i s Q E hi st hQ=>by
  obtain⟨sl,q1,q2,q3⟩:=st;obtain rfl:i=0:=by omega
  exact si1 hh q1 q2 (.inl rfl) q3 (fun _ m h' hm y1 sb=>hQ _ h' s.toks ⟨rfl,rfl⟩ ⟨m,y1,q2.kept fun o z=>by rw[sb.2 a (Ne.symm hIa)];exact z,hm⟩ fun b o nb z=>by rw[sb.2 b (by simpa using nb)];exact z) fun z=>by cases z
 done:=fun s Q E st hQ=>by obtain⟨sl,q1,q2,q3⟩:=st;exact si1 hh q1 q2 (.inr rfl) q3 (fun z=>by cases z) fun _ h' kp=>hQ h' s.toks fun b o nb z=>kp b o (by simpa using nb) z
 self:=fun _ s Q E st hQ=>by
  obtain⟨sl,q1,_⟩:=st;have hT:s.TypeIs (.ref I) "set_iterator":=⟨_,q1,rfl⟩
  refine wpAny_pyIter_slot hT bA0 (wpAny_call_entry bA0 hT entry_i1 (show wpAny _ _ (ret (.ref I)) _ _ s from ?_) (args_i1 _));exact wpAny_pure ⟨_,rfl,"set_iterator",_,hT,aNc.lookup,hQ⟩
theorem iter1(g:Set1 w s.heap a e ep t)
  (k:∀h',h'.get? s.heap.objs.size=some (sit1 (rawInt (0:Nat)) 0 a ep)->(∀b o,s.heap.get? b=some o->h'.get? b=some o)->Q (.ref s.heap.objs.size) { s with heap:=h' }):wpAny (model prog w) A (pyIter (.ref a)) Q E s:=by
 obtain⟨o,ho,hx,hdt⟩:=g.obj;have hT:s.TypeIs (.ref a) "set":=⟨_,ho,hx.1⟩
 refine wpAny_pyIter_slot hT F.slot_set_iter (wpAny_call_entry F.slot_set_iter hT entry_t1 ?_ (F.args_set_iter_1 _));unfold Builtin.«frozenset.__iter__»;refine wpAny_bind (m:=Builtin.Frozenset.slot0 _ _) (wpAny_pure (wpAny_bind ?_));unfold Builtin.Frozenset.sizeOf;refine wpAny_bind (wpAny_setEntries_of ho hdt g.fit (wpAny_pure (wpAny_bind ?_)));unfold setDrawn setsByText;refine wpAny_bind (wpAny_setState_of ho hdt g.fit ?_);dsimp only;refine wpAny_bind (wpAny_bind (wpAny_askSetting (wpAny_pure (wpAny_pure ?_))));show wpAny _ _ (if (!byT1 w&&(!t.plain&&decide ((#[e]:Array (Int × Value)).size > 1)))=true then _ else _) _ _ s;rw[if_neg ZR];exact wpAny_bind (wpAny_pure (wpAny_bind (wpAny_setEpoch_of ho hdt g.fit (wpAny_bind (wpAny_newObj_type (wpAny_pure ⟨_,rfl,"set_iterator",_,⟨_,au _ rfl,rfl⟩,aNc.lookup,k _ (au _ rfl) fun b o z=>aa _ z⟩))))))
theorem len1:typeLookup (.type "set") "__len__" = pure (some (.builtin "set.__len__")):=by rw[typeLookup_type,builtinLookup_eq_fast];kernel_rfl
theorem hint1(hT:s.TypeIs (.ref a) "set"){Q:Bool->Shared->Prop}(h:Q false s):wpAny ZI A (Builtin.List.listLengthHint (.ref a)) Q E s:=by unfold Builtin.List.listLengthHint;refine wpAny_bind (wpAny_specialOf hT len1 ?_);generalize hid:("set.__len__" : String)=id0;wp_delta;rw[show splitId id0=some ("set","__len__") from by subst hid;decide +kernel];subst hid;refine wpAny_bind (wpAny_isInstance (T:="set") (b:=true) hT (by rw[isSubtype_type];kernel_rfl) ?_);refine wpAny_ite_split (fun z=>absurd z ZA) fun _=>wpAny_ite_split (fun _=>wpAny_bind (wpAny_typeOf hT (wpAny_pure h))) fun z=>absurd (by decide +kernel) z
theorem ext1(hh:A.handled=none)(g:Set1 w s.heap a e ep t)(S:Addr)(hSa:S≠a)(res:Value)(c₀:Nat)(hS:s.heap.get? S=some { cls:=.type "list",data:=.seq #[] c₀ })
  (hR:∀h' tk c,(∀b o,b≠S->s.heap.get? b=some o->h'.get? b=some o)->h'.get? S=some { cls:=.type "list",dict:=none,data:=.seq #[e.2] c,slots:=#[] }->R (.ok (.ret res)) { s with heap:=h',toks:=tk }) :
  wpAny ZI A.in1 (Builtin.List.listExtendWith (.ref S) (.ref a) res)
   (fun fin s'=>match fin with |.done f=>R (.ok f) s' |.again c'=>c'.quiet=true/\codeAny ZI A c' R s') (fun e s'=>R (.error e) s') s:=by
 obtain⟨o,ho,hx,hdt⟩:=g.obj;have hT:s.TypeIs (.ref a) "set":=⟨_,ho,hx.1⟩
 have hSl:=ai hS;have ha:=ai ho;unfold Builtin.List.listExtendWith;refine wpAny_bind (wpAny_typeOf (T:="set") hT ?_);simp only[show Builtin.List.listSameRef (.ref S) (.ref a)=false from by simp[Builtin.List.listSameRef,hSa],show (Value.type "set" == Value.type "list")=false from by decide,show (Value.type "set" == Value.type "tuple")=false from by decide,Bool.or_false,dw,if_false];refine wpAny_bind (iter1 g fun h2 hI kp=>?_);have W:=walk1 (prog:=prog) (w:=w) (A:=A.in1) (e:=e) (ep:=ep) (t:=t) hh (iU ha);have hSf:S ∉ [s.heap.objs.size,a]:=by simp[hSa,az hSl]
 obtain⟨j,hj⟩:=below1 g.fit;have st:∃sl,h2.get? s.heap.objs.size=some (sit1 (rawInt (sl:Nat)) 0 a ep)/\Set1 w h2 a e ep t/\(byT1 w=false->SetTable.below t.place sl=0):=⟨0,hI,g.kept fun o z=>kp a o z,fun _=>by rw[hj];simp[SetTable.below,SetTable.below.go]⟩
 have hS2:=kp S _ hS;have key:∀ (h:Heap) (c₁ tk:Nat),(∃sl,h.get? s.heap.objs.size=some (sit1 (rawInt (sl:Nat)) 0 a ep)/\Set1 w h a e ep t/\(byT1 w=false->SetTable.below t.place sl=0))->(∀b o,b≠S->s.heap.get? b=some o->h.get? b=some o)->h.get? S=some { cls:=.type "list",data:=.seq #[] c₁ }->codeAny ZI A (.builtin "list.extend.loop" ⟨[.ref S,.ref s.heap.objs.size,res],[]⟩) R { s with heap:=h,toks:=tk }:=by
  intro h c₁ tk hst hk hS₁;refine codeAny_extend_loopS W.toS ZA S hSf res 1 0 _ #[] c₁ rfl (gn _) hst hS₁ (ItemsOf.nil _) fun s' acc' c' hm hS' hacc=>?_;have e0:=Moved.eq_with hm;rw[e0];have ea:acc' = #[e.2]:=by
   have z:=hacc.1;cases acc' with
   | mk l =>
    match l,z with
    |[x],_=>rw[(hacc.2 0 x rfl).2]
  subst ea
  exact hR s'.heap s'.toks c' (fun b o nb z=>hm.heap b o (fun q=>by
   rcases bf.mp q with q |q
   ·exact nb q
   ·have q:b=s.heap.objs.size:=by simpa using q
    exact absurd (ai z) (by rw[q];exact fu _)) (hk b o nb z)) hS'
 refine wpAny_bind (wpAny_holding (hint1 (let ⟨o,z,q⟩:=hT;⟨o,kp a o z,q⟩) ?_));refine wpAny_ite_split (fun _=>?_) (fun _=>wpAny_pure ⟨plainId_quiet PySem.F.plain_extend_loop _,key _ c₀ _ st (fun b o _ z=>kp b o z) hS2⟩);refine wpAny_bind (wpAny_rule (wpAny_bind (show wpAny _ _ (updateSeq S (·.push .none) >>= fun _=>updateSeq S (·.pop)) _ _ _ from ?_)));have q2:=fq (Obj.mapSeq (·.push Value.none)) hS2 rfl;have q3:=fq (Obj.mapSeq (·.pop)) q2 rfl;refine wpAny_bind (wpAny_updateSeq hS2 rfl (wpAny_updateSeq (hz:=by seq_fits) q2 rfl (wpAny_pure ⟨plainId_quiet PySem.F.plain_extend_loop _,key _ _ _ ?_ (fun b o nb z=>?_) q3⟩)))
 ·refine W.frame 0 _ _ st fun b hb o z=>?_;have nb:b≠S:=fun q=>hSf (q▸hb);exact(fw _ _ (Ne.symm nb)).trans ((fw _ _ (Ne.symm nb)).trans z)
 ·exact(fw _ _ (Ne.symm nb)).trans ((fw _ _ (Ne.symm nb)).trans (kp b o z))
theorem collect1(hh:A.handled=none)(g:Set1 w s.heap a e ep t)
  (h:∀h' tk,(∀b o,s.heap.get? b=some o->h'.get? b=some o)->R [e.2] { s with heap:=h',toks:=tk }):wpAny (model prog w) A (collect (.ref a)) R E s:=by
 obtain⟨o,ho,hx,hdt⟩:=g.obj;have ha:=ai ho;unfold collect;refine wpAny_bind (wpAny_runValue (codeAny_builtin PyProof.Rows.entry_proto_collect' ?_));rw[Around.under_plainId PySem.F.plain_proto_collect _];refine(show wpAny _ A.in1 (newList [] >>= fun l=>again (.builtin "list.__iadd__" ⟨[l,.ref a],[]⟩)) _ _ s from wpAny_bind (wpAny_newObj_type (wpAny_pure ⟨plainId_quiet PySem.F.plain_list_iadd _,codeAny_builtin PyProof.Rows.entry_list_iadd' ?_⟩)));rw[Around.under_plainId PySem.F.plain_list_iadd _];have fin:∀ {h':Heap} {tk c:Nat},(∀b o,s.heap.get? b=some o->h'.get? b=some o)->h'.get? s.heap.objs.size=some { cls:=.type "list",dict:=none,data:=.seq #[e.2] c,slots:=#[] }->wpAny ZI A (load s.heap.objs.size >>= fun o=>match o.data with |.seq xs _=>pure xs.toList |_=>unsupported "internal:collect") R E { s with heap:=h',toks:=tk }:=fun k1 k2=>wpAny_bind (wpAny_load k2 (wpAny_pure (h _ _ k1)))
 refine wpAny_mono (ext1 (prog:=prog) (A:=A) (s:={ s with heap:=s.heap.push { cls:=.type "list",data:=.seq ([]:List Value).toArray } }) (R:=fun q s'=>∃h' tk c,q = .ok (.ret (.ref s.heap.objs.size))/\s' = { s with heap:=h',toks:=tk }/\(∀b o,s.heap.get? b=some o->h'.get? b=some o)/\h'.get? s.heap.objs.size=some { cls:=.type "list",dict:=none,data:=.seq #[e.2] c,slots:=#[] })
  hh (g.kept fun o z=>aa _ z) s.heap.objs.size (iU ha) (.ref s.heap.objs.size) 0 (au _ rfl) fun h' tk c k1 k2=>⟨h',tk,c,rfl,rfl,fun b o z=>k1 b o (az (ai z)) (aa _ z),k2⟩) (fun f s' x=>?_) fun e s' x=>?_
 ·cases f with
  | done f =>
   obtain⟨h',tk,c,e,rfl,k1,k2⟩:=x;cases e;exact fin k1 k2
  | again c₁ =>
   refine⟨x.1,codeAny_mono x.2 fun q s₂ y=>?_⟩;obtain⟨h',tk,c,rfl,rfl,k1,k2⟩:=y;exact fin k1 k2
 ·obtain⟨_,_,_,e',_⟩:=x;cases e'
end
section
variable {X:Cx}{tw:Addr}
theorem se_sort1{e:Expr}{d:DE}{p p2 pos pos2:Pos}(hh:X.A.handled=none)(h:SE X tw e d)(hm:X.mg "sorted" = none)(hm2:X.mg "set" = none)(hg:autoParam (Gl X "sorted") az0._auto_1)(hg2:autoParam (Gl X "set") az0._auto_1)(he2:autoParam (starEach [e] X.env=(false,eval e X.env)::starEach [] X.env) az0._auto_1)
  (he:autoParam (starEach [.Call (.Name "set" p2) [e] [] pos2] X.env=(false,eval (.Call (.Name "set" p2) [e] [] pos2) X.env)::starEach [] X.env) az0._auto_1) :
  SE X tw (.Call (.Name "sorted" p) [.Call (.Name "set" p2) [e] [] pos2] [] pos) (dPr bBe (aAa d dNil)):=by
 intro B ρ n t mm n' hd pins s σ H Q I ⟨R,k⟩;obtain⟨⟨ts,n1⟩,e1,e2⟩:=bind_some hd;obtain⟨⟨t1,m1⟩,e3,e4⟩:=map_some e2;cases e4;refine wpAny_Call_Name_kw (aFs I hg hm boot_sorted ?_ ZA ZA);refine PyProof.Rows.callWith_builtin1 (Q:=EP X pins σ Q) ?_ he rfl;rw[he];refine br (wpAny_Call_Name_kw (aFs I hg2 hm2 boot_set ?_ ZA ZA));refine PyProof.Rows.callWith_type1 ?_ he2 rfl;rw[he2];obtain⟨⟨to,mo,no⟩,f1,f2⟩:=bind_some e1;cases f2;refine br (thn (h.run f1 I R) fun u s1 ⟨v,H1,I1,r1,x1,R1,c1⟩=>dq ?_);have rt:=c1.root R1 R.tn;unfold bBe at e3;split at e3
 ·rename_i i q;cases q;cases e3;obtain⟨l,vs,rfl,sq,rp⟩:=rt;cases r1;cases aE6 (ns:=[i]) rp;obtain⟨its,rv,pl,hz⟩:=I1.list sq.sq;have hi:=aCt (ns:=[i]) rv;refine set_of1 (v:=i) hh pl.isList (by simpa using hi.length) (fun x hx=>?_) fun h1 tk1 k1 ep t2 g kp1=>dq ?_
  ·exact IntsAre.int_at hi 0 x (by simpa using hx)
  refine aIm (collect1 (A:=X.A.in1) hh g fun h2 tk2 kp=>?_);have q1:IntsAre [Value.int i k1] [i]:=.cons i k1 .nil;refine⟨_,(show 1<=sizeLine by decide),aKh q1,fun h3 xs' ee kp2 hx hp hsr=>?_⟩;have w1:=(aHd (aVy q1) hp hsr).1;have I2:Inv X pins σ H1 { s1 with heap:=h2,toks:=tk2 }:=I1.kept fun b o z=>kp b o (kp1 b o z);have hf:H1 h2.objs.size=none:=I2.hok.fresh (ae _);have I3:=I2.laid (a:=h2.objs.size) (o:=.lst [V.int i]) (t':=tk2) (h':=h3) kp2 (ae _) ⟨(show 1<=sizeLine by decide),(xs'.map (·.2)).toList,ee,by rw[j8.mp w1];exact .cons ⟨k1,rfl⟩ .nil,by rw[gw];exact hx⟩;exact⟨.ref h2.objs.size,_,I3,rfl,k _ _ (x1.trans (.new hf)) (R1.tn.new hf) ⟨_,rfl,x1.free R1.tn hf,_,aAq,Reps.ints [i]⟩⟩
 ·cases e3
end
end L2.Ds
end
namespace L2.Ds
open PySem PySem.Spec PyProof.Rows
def Rise(xs:Array Nat):Prop:=∀ (i j:Nat) (hi:i<xs.size) (hj:j<xs.size),i<j->xs[i]<xs[j]
structure GoodT (led:Bool) (t:SetTable):Prop where
 led:t.led=led
 rise:t.plain=true->Rise t.place
def byT(w:World):Bool:=w.params.followText "set-order"
structure SetI (prog:Program) (w:World) (h:Heap) (a:Addr) (es:Array (Int × Value)) (ep:Nat) (t:SetTable):Prop where
 obj:∃o,h.get? a=some o/\o.ExactSet/\o.data = .set es ep t
 bd:es.size<scanBound
 fit:t.fits es.size=true
 good:GoodT (!byT w) t
structure SetG (prog:Program) (w:World) (h:Heap) (a:Addr) (es:Array (Int × Value)) (ep:Nat) (t:SetTable):Prop where
 obj:∃o,h.get? a=some o/\o.ExactSet/\o.data = .set es ep t
 el:ElemsOf (intKind prog w) es.toList
 bd:es.size<scanBound
 fit:t.fits es.size=true
 good:GoodT (!byT w) t
end L2.Ds
section
set_option maxHeartbeats 8000000
end
section
set_option maxHeartbeats 1000000
end
section
set_option maxHeartbeats 1000000
end
section
set_option maxHeartbeats 1000000
end
namespace L2.Ds
open PySem PySem.Spec PyProof.Rows
section
variable {X:Cx}{tw:Addr}
theorem neg_inv{k:Nat}(e3:pNeg k [to]=some (t1,m1)):∃i,to = .int i/\t1 = .int (-i)/\m1 = .fz:=by
 match to,e3 with
 |.int i,e3=>cases e3;exact⟨i,rfl,rfl,rfl⟩
theorem aM0{e:Expr}{d:DE}{pos:Pos}(h:SE X tw e d):SE X tw (.UnaryOp .USub e pos) (dPr pNeg (aAa d dNil)):=by intro B ρ n t mm n' hd pins s σ H Q I ⟨R,k⟩;obtain⟨to,mo,f1,e3⟩:=aKy hd;obtain⟨i,rfl,rfl,rfl⟩:=neg_inv e3;refine pe_un un_neg (h B ρ n (.int i) mo _ f1) pins s σ H Q I ⟨R,fun v H' x y z=>?_⟩;have:=aBb (z.root (R.mono x y) R.tn);subst this;exact⟨i,rfl,k _ H' x y (by show Rep tw H' (.int _) _;rw[Rep])⟩
theorem aJt(h:aEu t=true)(r:Rep tw H t v):aV4 v=true:=by
 cases t with
 |non=>rw[Rep] at r;subst r;rfl
 |bl b=>rw[Rep] at r;subst r;rfl
 |int i=>rw[Rep] at r;subst r;rfl
 |str x=>rw[Rep] at r;subst r;rfl
 |_=>cases h
theorem flat_eq(h:aEu t=true)(h':aEu t'=true)(r:Rep tw H t v)(r':Rep tw H t' v'):eqV v v'=eqT t t':=by
 cases t with
 | non=>cases t' with
  |non=>rw[Rep] at r;rw[Rep] at r';subst r r';rfl
  |bl b=>rw[Rep] at r;rw[Rep] at r';subst r r';rfl
  |int i=>rw[Rep] at r;rw[Rep] at r';subst r r';rfl
  |str x=>rw[Rep] at r;rw[Rep] at r';subst r r';rfl
  |_=>cases h'
 | bl b=>cases t' with
  |non=>rw[Rep] at r;rw[Rep] at r';subst r r';rfl
  |bl b=>rw[Rep] at r;rw[Rep] at r';subst r r';simp[eqV,eqT]
  |int i=>rw[Rep] at r;rw[Rep] at r';subst r r';simp[eqV,eqT]
  |str x=>rw[Rep] at r;rw[Rep] at r';subst r r';rfl
  |_=>cases h'
 | int i=>cases t' with
  |non=>rw[Rep] at r;rw[Rep] at r';subst r r';rfl
  |bl b=>rw[Rep] at r;rw[Rep] at r';subst r r';simp[eqV,eqT]
  |int i=>rw[Rep] at r;rw[Rep] at r';subst r r';simp[eqV,eqT]
  |str x=>rw[Rep] at r;rw[Rep] at r';subst r r';rfl
  |_=>cases h'
 | str x=>cases t' with
  |non=>rw[Rep] at r;rw[Rep] at r';subst r r';rfl
  |bl b=>rw[Rep] at r;rw[Rep] at r';subst r r';rfl
  |int i=>rw[Rep] at r;rw[Rep] at r';subst r r';rfl
  |str x=>rw[Rep] at r;rw[Rep] at r';subst r r';simp[eqV,eqT]
  |_=>cases h'
 |_=>cases h
theorem aM6:∀ {xs:List T} {vs:List V},(xs.all aEu)=true->Reps tw H xs vs->vs.all aV4=true
 |[],vs,_,r=>by cases aB2 r;rfl
 |x::xs,vs,h,r=>by obtain⟨v,w,rfl,p,q⟩:=aA1 r;rw[ej,bo] at h;rw[ej,aJt h.1 p,aM6 h.2 q];rfl
theorem aMu(hy:aEu y=true)(ry:Rep tw H y z):∀ {xs:List T} {vs:List V} {us:List Value},(xs.all aEu)=true->Reps tw H xs vs->Vals vs us->us.map (eqU z)=xs.map fun x=>eqT x y
 |[],vs,us,_,r,rv=>by cases aB2 r;cases rv;rfl
 | x::xs,vs,us,h,r,rv=>by
  obtain⟨v,w,rfl,p,q⟩:=aA1 r;rw[ej,bo] at h;cases rv with
  |cons r1 r2=>rw[af,af,aMu hy ry h.2 q r2,eqU_of r1 (aJt h.1 p),flat_eq h.1 hy p ry]
theorem aUj{K:W.Frag}{H:Hp}{t:T}{v:V}(h:aEu t=true)(r:Root K tw H t v):Rep tw H t v:=by
 refine Root.rep ?_ r;cases t with
 |non=>rfl
 |bl b=>rfl
 |int i=>rfl
 |str x=>rfl
 |_=>cases h
theorem cnt_map{us:List Value}{z:V}{xs:List T}{y:T}(h:us.map (eqU z)=xs.map fun x=>eqT x y):us.countP (eqU z)=cntT xs y:=by
 have a:∀ {α:Type} (f:α->Bool) (l:List α),l.countP f=(l.map f).countP id:=fun f l=>by rw[List.countP_map];rfl
 rw[cntT,a,h,<-a]
theorem bA6{o e:Expr}{d0 de:DE}{apos cpos:Pos}(ho:SE X tw o d0)(he:SE X tw e de)(m:M1 X o "count" apos e cpos):SE X tw (.Call (.Attribute o "count" apos) [e] [] cpos) (dPr aVl (aAa d0 (aAa de dNil))):=by
 intro B ρ n t mm n' hd pins s σ H Q I ⟨R,k⟩;obtain⟨to,mo,no,te,me,f1,g1,e3⟩:=aVv hd;have ⟨xs,eo,hy,hx,et,em⟩:∃xs,to = .lst xs/\aEu te=true/\(xs.all aEu)=true/\t = .int (cntT xs te)/\mm = .fz:=by
  match to,e3 with
  | .lst xs,e3 =>
   have e3:(if aEu te=true/\(xs.all aEu)=true then some (T.int (cntT xs te),Md.fz) else none)=some (t,mm):=e3;split at e3
   ·rename_i h;cases e3;exact⟨xs,rfl,h.1,h.2,rfl,rfl⟩
   ·cases e3
 subst eo et em;refine wpAny_Call_method m.base m.few m.line PySem.F.plainAttrs_list PySem.F.slot_list_count PySem.F.type_list_count (thn (ho.run f1 I R) fun u s1 ⟨v,H1,I1,r1,a1,R1,c1⟩=>?_);obtain⟨a,va,rfl,ea,xa⟩:=c1.root R1 R.tn;cases r1;obtain⟨its,r1',⟨o1,nn1,ho1,hc1,hd1,_⟩,_⟩:=I1.list ea.sq;refine⟨⟨o1,ho1,hc1⟩,fun b e=>?_,?_⟩
 ·cases e;exact⟨o1,ho1,hd1⟩
 ·rw[m.trees];refine gK rfl (gU (br (thn (he.run g1 I1 R1) fun iv s2 ⟨y,H2,I2,ry,a2,R2,c2⟩=>dq ?_)));have rt:=aUj hy (c2.root R2 R1.tn);have ea2:=ea.ext a2;have xa2:=Reps.mono (a2.fx R1.tn) _ _ xa;obtain⟨its,r2',⟨⟨cls,dd,data,sl⟩,nn,ho,hc,hd,hdat⟩,_⟩:=I2.list ea2.sq;simp only at hc hdat
  subst hc hdat
  have hcnt:=cnt_map (aMu hy rt hx xa2 r2');refine call_meets PySem.F.slot_list_count ⟨_,ho,rfl⟩ PySem.F.entry_list_count (PySem.F.args_list_count_2 _ _) (PySem.SeqAt.list_countAt a its.toArray nn dd sl iv (eqU y)) ⟨ho,fun w hw=>aMx ry (aJt hy rt) r2' (aM6 hx xa2) w (by simpa using hw),?_⟩
  ·refine⟨.int _,H2,I2.tok _,⟨_,rfl⟩,?_⟩;show Q (.int ((List.countP (eqU y) its.toArray.toList:Nat):Int)) H2;rw[show its.toArray.toList=its from rfl,hcnt];exact k _ H2 (a1.trans a2) R2.tn (by show Rep tw H2 (.int _) _;rw[Rep])
end
end L2.Ds
section
namespace L2.HTw
open PySem PySem.Spec PyProof.Rows
section
variable {prog:Program}{w:World}{A:Around}{E:Value->Shared->Prop}{s:Shared}
open HT in
theorem getItem_tuple_whole{lo hi:Option Int}(ht:IsTup s.heap t items)(hs:s.heap.IsSliceOf sl vl vu .none)(pl:IsPart vl lo)(pu:IsPart vu hi)
  (hw:HT.sIx items.size 0 lo=0/\HT.sIx items.size items.size hi=items.size)
  (h:Q (.ref t) s):wpAny ZI A (getItem (.ref t) (.ref sl)) Q E s:=by
 obtain⟨os,hos,hcs,hds⟩:=id hs;have hTs:s.TypeIs (.ref sl) "slice":=⟨os,hos,hcs⟩
 unfold getItem
 try with_reducible refine wpAny_holding ?_
 first |refine wpAny_bind (wpAny_pure ?_) |skip
 refine wpAny_bind (wpAny_sequenceKey ht.typeIs ZA ?_)
 refine wpAny_bind (wpAny_callSpecial?_slot (name:=Str.ofString "__getitem__") ht.typeIs PyProof.Rows.slot_tuple_getitem
  (wpAny_call_entry PyProof.Rows.slot_tuple_getitem ht.typeIs entry_tuple_getitem ?_ (args_tuple_getitem _ _)))
 show wpAny _ _ (Builtin.Tuple.tupleItemsOf (.ref t) >>= _) _ _ s;refine wpAny_bind (tupleItemsOf_ ht ?_);refine wpAny_bind (wpAny_typeOf hTs ?_);rw[if_pos ZA];refine wpAny_bind (HT.sliceApplied_gen hs pl pu ?_);have hyes:(((HT.sIx items.size 0 lo:Nat):Int)==0&&(1:Int)==1&&(HT.sIx items.size items.size hi - HT.sIx items.size 0 lo)==items.size)=true:=by rw[hw.1,hw.2];simp
 show wpAny _ _ (if (((HT.sIx items.size 0 lo:Nat):Int)==0&&(1:Int)==1&&(HT.sIx items.size items.size hi - HT.sIx items.size 0 lo)==items.size)=true then _ else _) _ _ s;rw[if_pos hyes];refine wpAny_bind ?_;unfold Builtin.Tuple.tupleIsExact;refine wpAny_bind (wpAny_typeOf ht.typeIs (wpAny_pure ?_));rw[if_pos ZA]
 first
  |exact wpAny_bind (wpAny_rule (wpAny_bind (wpAny_pure ⟨_,rfl,wpAny_pure h⟩)))
  |exact wpAny_bind (wpAny_rule (wpAny_pure ⟨_,rfl,wpAny_pure h⟩))
  |exact wpAny_bind (wpAny_rule (wpAny_pure (wpAny_pure ⟨_,rfl,wpAny_pure h⟩)))
end
end L2.HTw
namespace L2
open PySem PySem.Spec PyProof.Rows
section
variable {X:Cx}
def rSlTW(K:W.Frag):V->Option Int->Option Int->Hp->VK->Prop:=fun x lo hi H Q=>∃a xs,x = .ref a/\SqT K H a xs/\(HT.sIx xs.length 0 lo=0/\HT.sIx xs.length xs.length hi=xs.length)/\Q x H
theorem sl_tupW:SlR X (rSlTW X.K):=by
 intro pins s σ H x v vl vu lo hi sl Q I rx hs pl pu h;obtain⟨a,xs,rfl,hx,hw,q⟩:=h;cases rx;obtain⟨its,r,ht,hz⟩:=I.tuple hx;have hlen:its.toArray.size=xs.length:=by rw[aj];exact r.length.symm
 exact⟨"tuple",_,PyProof.Rows.slot_tuple_getitem.lookup,ht.typeIs,HTw.getItem_tuple_whole ht hs pl pu (by rw[hlen];exact hw) ⟨.ref a,H,I,rfl,q⟩⟩
end
end L2
namespace L2.Ds
open PySem PySem.Spec PyProof.Rows
section
variable {X:Cx}{tw:Addr}
theorem aQg{e:Expr}{lo hi:Option Expr}{p2 pos:Pos}{d:DE}{dl dh:DO}(h:SE X tw e d)(hl:SO X tw lo dl)(hh:SO X tw hi dh):SE X tw (.Subscript e (.Slice lo hi none p2) pos) (dSl2 d dl dh):=by
 intro B ρ n t m n' hd pins s σ H Q I ⟨R,k⟩;obtain⟨⟨t0,m0,n0⟩,e1,e2⟩:=bind_some hd;obtain⟨⟨l,n1⟩,e3,e4⟩:=bind_some e2;obtain⟨⟨u,n2⟩,e5,e6⟩:=bind_some e4;refine pe_slice (sl_list.or (sl_tup.or sl_tupW)) (h B ρ n t0 m0 n0 e1) (hl B ρ n0 l n1 e3) (hh B ρ n1 u n2 e5) pins s σ H Q I ⟨R,fun v H1 x1 y1 z1=>?_⟩;have R1:=R.mono x1 y1;refine⟨R1,fun H2 x2 y2=>?_⟩;have R2:=R1.mono x2 y2;refine⟨R2,fun H3 x3 y3=>?_⟩;have x13:=x2.trans x3;have rt:Root X.K tw H3 t0 v:=Root.ext R1.tn x13 (z1.root R1 R.tn);have x03:=x1.trans x13;cases t0 with
 | lst xs =>
  cases e6;obtain⟨a,vs,rfl,ea,xa⟩:=rt;refine .inl ⟨a,vs,rfl,ea.sq,fun p hp=>k _ _ (x03.trans (.new hp)) (y3.new hp) ⟨p,rfl,x03.free y3 hp,_,aAq,?_⟩⟩;unfold cutT cutV;rw[aEe,aEe,xa.length];exact Reps.take _ (Reps.drop _ (Reps.mono (.new hp) _ _ xa))
 | tup xs =>
  cases e6;obtain⟨a,vs,rfl,ea,xa⟩:=aBx rt;by_cases hw:bound xs.length 0 l=0/\bound xs.length xs.length u=xs.length
  ·refine .inr (.inr ⟨a,vs,rfl,SqT.of ea,?_,k _ _ x03 y3 (aEs ea ?_)⟩)
   ·rw[<-xa.length,<-aEe,<-aEe];exact hw
   ·unfold cutT;rw[hw.1,hw.2,jZ,Nat.sub_zero,ig];exact xa
  ·refine .inr (.inl ⟨a,vs,rfl,SqT.of ea,?_,fun p hp=>k _ _ (x03.trans (.new hp)) (y3.new hp) (aEs aAq ?_)⟩)
   ·rw[<-xa.length,<-aEe,<-aEe];exact hw
   ·unfold cutT cutV;rw[aEe,aEe,xa.length];exact Reps.take _ (Reps.drop _ (Reps.mono (.new hp) _ _ xa))
 |_=>cases e6
theorem se_rep{a b:Expr}{da db:DE}{pos:Pos}(ha:SE X tw a da)(hbE:SE X tw b db):SE X tw (.BinOp a .Mult b pos) (dRep da db):=by
 intro B ρ n t m n' hd pins s σ H Q I ⟨R,k⟩;obtain⟨⟨t1,m1,n1⟩,e1,e2⟩:=bind_some hd;obtain⟨⟨t2,m2,n2⟩,e3,e4⟩:=bind_some e2;have ⟨xs,j,et1,em1,et2,hb,et,em,en⟩:∃xs j,t1 = .lst xs/\m1 = .own/\t2 = .int j/\(-1000<=j/\j<=10000/\xs.length*j.toNat<=big)/\t = .lst (List.replicate j.toNat xs).flatten/\m = .own/\n'=n2:=by
  cases t1 with
  | lst xs =>
   cases m1 with
   | own =>
    cases t2 with
    | int j =>
     have e4:(if -1000<=j/\j<=10000/\xs.length*j.toNat<=big then some (T.lst (List.replicate j.toNat xs).flatten,Md.own,n2) else none)=some (t,m,n'):=e4;split at e4
     ·rename_i hb;cases e4;exact⟨xs,j,rfl,rfl,rfl,hb,rfl,rfl,rfl⟩
     ·cases e4
    |_=>cases e4
   |_=>cases e4
  |_=>cases e4
 subst et1 em1 et2 et em en;refine pe_op op_rep (ha B ρ n _ _ n1 e1) (hbE B ρ n1 _ m2 _ e3) pins s σ H Q I ⟨R,fun v H1 x1 y1 z1=>?_⟩;have R1:=R.mono x1 y1;obtain⟨ad,rfl,f1,vs,ea,xa⟩:=z1;refine⟨R1,fun w H2 x2 y2 z2=>?_⟩;have:=aBb (z2.root (R1.mono x2 y2) R1.tn);subst this;have ea2:=x2.to ad _ ea (R.tn.ne_none f1) (fun _ z=>nomatch z);have xa2:=Reps.mono (x2.fx R1.tn) _ _ xa;refine⟨ad,j,vs,rfl,rfl,ea2,by lia,by lia,?_,fun p hp=>k _ _ ((x1.trans x2).trans (.new hp)) (y2.new hp) ⟨p,rfl,(x1.trans x2).free y2 hp,_,aAq,?_⟩⟩
 ·rw[<-xa.length];exact aDl hb.2.2
 ·exact Reps.mono (.new hp) _ _ (Reps.rep xa2 _)
theorem aVr(h:∀x∈ns,-10000000000000<=x/\x<=10000000000000):-(10000000000000*(ns.length:Int))<=sumI ns/\sumI ns<=10000000000000*(ns.length:Int):=by
 induction ns with
 |nil=>simp[sumI]
 | cons x xs ih =>
  have:=ih fun y hy=>h y (am _ hy);have:=h x ao;rw[sumI,ah]
  push_cast
  lia
theorem sum_run2(hh:X.A.handled=none)(I:Inv X pins σ H s)(r:Root X.K tw H t v)(rv:RelV v u)(h:aFx t=some xs)(hx:xs=ns.map T.int)
  (hl:ns.length<100000) (hb:∀x∈ns,-10000000000000<=x/\x<=10000000000000) (q:Q (.int (sumI ns)) H):wpAny ZC X.A (call (.builtin "sum") [u]) (EP X pins σ Q) X.xe s:=by
 subst hx;refine call_sum_walk (thn (aZr (A':=X.A.in1) hh I r rv h) fun it s₂ ⟨Ia,fp,wr,P,St,e,W,st,hfp,hP,fin⟩=>?_);refine⟨Ia,fp,wr,_,P,St,fun i=>ns.getD i 0,e,W,st,hfp,fun i v hv=>aMi (hP i v hv),fun j hj=>?_,fun h' tk t' kp=>?_⟩
 ·rw[ak] at hj;have h1:=hb (ns.getD j 0) (by rw[bw,ba hj];exact fg _);show InLong (ns.getD j 0)/\_;rw[aWq ns (j+1) hj];have h2:=aVr (ns:=ns.take (j+1)) fun x hx=>hb x (gW hx);have h3:((ns.take (j+1)).length:Int)<=100000:=by rw[d8];lia
  exact⟨⟨by lia,by lia⟩,⟨by lia,by lia⟩⟩
 ·rw[ak,aWq ns ns.length (ae _),ig];exact⟨.int _,H,fin h' tk kp,⟨t',rfl⟩,q⟩
theorem aMt(hc:X.calm=true):PrS X tw (fun us=>call (.builtin "sum") us) aU5:=by
 intro B pins s σ H vs us ts n t m Q I rv rt tn e k;have hh:=I.ok.hd hc;have go:∀ (t0:T) (xs:List T),ts = [t0]->aFx t0=some xs->((intsOf xs).bind fun ns=>if ns.length<100000/\(ns.all fun x=>decide (x.natAbs<=10000000000000)) then some (T.int (sumI ns),Md.fz) else none)=some (t,m)->wpAny ZC X.A (call (.builtin "sum") us) (EP X pins σ Q) X.xe s:=fun t0 xs ets hw e'=>by
  subst ets;obtain⟨ns,e1,e2⟩:=bind_some e';split at e2
  ·rename_i hb;cases e2;obtain⟨v,rfl,r⟩:=aA9 rt;obtain⟨u,rfl,ru⟩:=rv.one;refine sum_run2 hh I r ru hw (aC2 e1) hb.1 (fun x hx=>?_) (k _ H (.refl _ _) tn (by show Rep tw H (.int _) _;rw[Rep]));have:=bu.mp hb.2 x hx;simp only[decide_eq_true_eq] at this;lia
  ·cases e2
 match ts,e with
 |[.tup xs],e=>exact go _ xs rfl rfl e
 |[.lst xs],e=>exact go _ xs rfl rfl e
end
def Kn(P:Program)(w:World)(K:W.Frag)(mg:Str->Option Value)(base:Heap)(lv:Nat)(x:Str)(ps:List Str)(f:Fn)(tw:Addr):Prop :=
 ∃ (a:Addr) (d:FuncData),FnOk P w K mg base CX0 lv a d ps (SpF K tw ps.length f)/\Binds K d ps []/\W.keepIn K (.ref a)=true/\mg x=some (.ref a)
theorem se_callK{X:Cx}{tw:Addr}{f:Fn}{lv ar:Nat}{ps:List Str}{x:Str}{p pos:Pos}{e:Expr}{es:List Expr}{a:DB}(G:Kn X.prog X.w X.K X.mg X.base lv x ps f tw)(hr:Room lv X.A)(ha:SB X tw (e::es) a)(hn:autoParam (ps.length=ar) az0._auto_1)(hg:autoParam (Gl X x) az0._auto_1)(hdb:autoParam ZL az1._auto_1)
  (he:autoParam ZG az0._auto_1) (hpl:autoParam ((backTo pos (starEach es X.env)).any (·.1)=false) az0._auto_1):SE X tw (.Call (.Name x p) (e::es) [] pos) (dCall ar f a):=by
 obtain⟨fa,fd,F,hb,hk,hm⟩:=G;subst hn;exact se_call F hr hm hk hb ha hg hdb he hpl
end L2.Ds
namespace L2.HTw
open PySem PySem.Spec PyProof.Rows
section
variable {prog:Program}{w:World}{A:Around}{E:Value->Shared->Prop}{s:Shared}
theorem aJo{n:Nat}{Q:Int × Int × Nat->Shared->Prop}(hs:s.heap.IsSliceOf sl .none .none (.int (-1) tk))(h:Q ((n:Int) - 1,-1,n) s):wpAny ZI A (Builtin.Slice.sliceApplied (.ref sl) (pure (n:Int))) Q E s:=by
 obtain⟨os,hos,hcs,hds⟩:=id hs;unfold Builtin.Slice.sliceApplied Builtin.Slice.sliceFields;refine wpAny_bind (wpAny_bind (wpAny_field hos hds (x:=.none) rfl (wpAny_bind (wpAny_field hos hds (x:=.none) rfl (wpAny_bind (wpAny_field hos hds (x:=.int (-1) tk) rfl (wpAny_pure ?_)))))));refine wpAny_bind (HT.slicePart_ (.int (-1) tk) ?_);show wpAny _ _ (if ((-1:Int)==0)=true then _ else _) _ _ s;rw[if_neg ZA];refine wpAny_bind (HT.slicePart_ .none (wpAny_bind (HT.slicePart_ .none (wpAny_bind (wpAny_pure ?_)))));show wpAny _ _ (pure ((n:Int) - 1,(-1:Int),Builtin.Slice.slicePlaces ((n:Int) - 1) (-1) (-1))) _ _ s;have e:Builtin.Slice.slicePlaces ((n:Int) - 1) (-1) (-1)=n:=by
  unfold Builtin.Slice.slicePlaces;rw[if_neg ZA];split
  ·rw[show (-(-1):Int)=1 from rfl,Int.ediv_one];lia
  ·lia
 rw[e];exact wpAny_pure h
theorem pick_rev(xs:Array Value):((List.range xs.size).filterMap fun (k:Nat)=>xs[(((xs.size:Int) - 1)+(k:Int) * -1).toNat]?).toArray=xs.toList.reverse.toArray:=by
 have e:(List.range xs.size).filterMap (fun (k:Nat)=>xs[(((xs.size:Int) - 1)+(k:Int) * -1).toNat]?)=((List.range xs.size).map fun k=>xs.size - 1 - k).filterMap (xs[·]?):=by
  rw[jd];have gen:∀l:List Nat,(∀k∈l,k<xs.size)->l.filterMap (fun (k:Nat)=>xs[(((xs.size:Int) - 1)+(k:Int) * -1).toNat]?)=l.filterMap ((xs[·]?)∘fun k=>xs.size - 1 - k):=by
   intro l
   induction l with
   |nil=>intro _;rfl
   | cons k l ih =>
    intro hl;have hk:=hl k (ao ..);have e:(((xs.size:Int) - 1)+(k:Int) * -1).toNat=xs.size - 1 - k:=by lia
    rw[fh,fh,ih fun k' h'=>hl k' (am _ h'),e];rfl
  exact gen _ fun k hk=>iX.mp hk
 rw[e,W.krv_range,List.filterMap_reverse,W.krv_all]
theorem getItem_tuple_rev(ht:IsTup s.heap t items)(hs:s.heap.IsSliceOf sl .none .none (.int (-1) tk))
  (h:Q (.ref s.heap.objs.size) { s with heap:=s.heap.push { cls:=.type "tuple",data:=.seq items.toList.reverse.toArray } }) (hsz:items.size<=sizeLine):wpAny (model prog w) A (getItem (.ref t) (.ref sl)) Q E s:=by
 have htake:sizeOk (.seq items.toList.reverse.toArray):=by show items.toList.reverse.toArray.size<=sizeLine;rw[aj,iS,bg];exact hsz
 obtain⟨os,hos,hcs,hds⟩:=id hs;have hTs:s.TypeIs (.ref sl) "slice":=⟨os,hos,hcs⟩
 unfold getItem
 try with_reducible refine wpAny_holding ?_
 first |refine wpAny_bind (wpAny_pure ?_) |skip
 refine wpAny_bind (wpAny_sequenceKey ht.typeIs ZA ?_)
 refine wpAny_bind (wpAny_callSpecial?_slot (name:=Str.ofString "__getitem__") ht.typeIs PyProof.Rows.slot_tuple_getitem
  (wpAny_call_entry PyProof.Rows.slot_tuple_getitem ht.typeIs entry_tuple_getitem ?_ (args_tuple_getitem _ _)))
 show wpAny _ _ (Builtin.Tuple.tupleItemsOf (.ref t) >>= _) _ _ s;refine wpAny_bind (tupleItemsOf_ ht ?_);refine wpAny_bind (wpAny_typeOf hTs ?_);rw[if_pos ZA];refine wpAny_bind (aJo hs ?_);show wpAny _ _ (if (((items.size:Int) - 1==0)&&((-1:Int)==1)&&items.size==items.size)=true then _ else _) _ _ s;rw[if_neg ZR,pick_rev]
 first
  |exact wpAny_bind (m:=Builtin.Tuple.tupleExact _) (wpAny_newObj_type (wpAny_pure ⟨_,rfl,wpAny_pure h⟩) htake)
  |exact wpAny_bind (m:=Builtin.Tuple.tupleExact _) (wpAny_newObj_type (wpAny_bind (wpAny_pure (wpAny_pure ⟨_,rfl,wpAny_pure h⟩))) htake)
  |exact wpAny_bind (wpAny_bind (m:=Builtin.Tuple.tupleExact _) (wpAny_newObj_type (wpAny_pure (wpAny_pure ⟨_,rfl,wpAny_pure h⟩)) htake))
  |exact wpAny_bind (wpAny_bind (m:=Builtin.Tuple.tupleExact _) (wpAny_newObj_type (wpAny_pure ⟨_,rfl,wpAny_pure h⟩) htake))
end
end L2.HTw
namespace L2.Ds
open PySem PySem.Spec PyProof.Rows
section
variable {X:Cx}{tw:Addr}
theorem se_rev{e:Expr}{d:DE}{j}{p1 p2 p3 pos:Pos}(h:SE X tw e d):SE X tw (.Subscript e (.Slice none none (some (.UnaryOp .USub (.Constant (.int 1) j p1) p2)) p3) pos) (dRev d):=by
 intro B ρ n t m n' hd pins s σ H Q I ⟨R,k⟩;obtain⟨⟨t0,m0,n0⟩,e1,e2⟩:=bind_some hd;refine Subscript_ (thn (h.run e1 I R) fun v s1 ⟨x,H1,I1,r1,a1,R1,c1⟩=>?_);refine wpAny_Slice ?_;rw[evalPart_none];refine wpAny_pure (wpAny_pure ?_);rw[evalPart_some];refine thn (pe_un un_neg (aV9 (i:=1)) pins s1 σ H1 (fun v H'=>v = .int (-1)/\H'=H1) I1 ⟨1,rfl,rfl,rfl⟩) fun vs s3 ⟨v3,H3,I3,r3,e3,e4⟩=>?_;subst e3 e4;obtain⟨tk,rfl⟩:=r3;have I4:Inv X pins σ H3 { s3 with heap:=s3.heap.push { cls:=.type "slice",data:=.fields #[.none,.none,.int (-1) tk] } }:=I3.kept (t':=s3.toks) fun b ob q=>aa _ q;have rt:=c1.root R1 R.tn;have hs:(s3.heap.push { cls:=.type "slice",data:=.fields #[.none,.none,.int (-1) tk] }).IsSliceOf s3.heap.objs.size .none .none (.int (-1) tk):=Heap.IsSliceOf.new ..;cases t0 with
 | lst xs =>
  cases e2;obtain⟨a,vs,rfl,ea,xa⟩:=rt;cases r1;obtain⟨its,r,ht,hz⟩:=I4.list ea.sq;refine tail_any (ops:=[.ref a,.ref s3.heap.objs.size]) ht.isList.typeIs slot_list_getitem.lookup ?_ (by with_unfolding_all rfl);refine wpAny_getItem_list_slice ht.isList hs .none .none (.int (-1) tk) ZR ?_ (by rw[aj,<-r.length];exact hz);rw[W.krv_pick];have hf:H3 (s3.heap.push { cls:=.type "slice",data:=.fields #[.none,.none,.int (-1) tk] }).objs.size=none:=I4.hok.fresh (ae _);refine⟨.ref _,_,I4.laid (t':=s3.toks) (o:=.lst vs.reverse) (fun b ob q=>aa _ q) (ae _) ?_,rfl,k _ _ (a1.trans (.new hf)) (R1.tn.new hf) ⟨_,rfl,a1.free R1.tn hf,_,aAq,Reps.mono (.new hf) _ _ xa.reverse⟩⟩;exact⟨by rw[iS];exact hz,_,0,r.reverse,au _ rfl⟩
 | tup xs =>
  cases e2;obtain⟨a,vs,rfl,ea,xa⟩:=aBx rt;cases r1;obtain⟨its,r,ht,hz⟩:=I4.tuple (SqT.of (K:=X.K) ea);refine tail_any (ops:=[.ref a,.ref s3.heap.objs.size]) ht.typeIs PyProof.Rows.slot_tuple_getitem.lookup ?_ (by with_unfolding_all rfl);refine HTw.getItem_tuple_rev ht hs ?_ (by rw[aj,<-r.length];exact hz);have hf:H3 (s3.heap.push { cls:=.type "slice",data:=.fields #[.none,.none,.int (-1) tk] }).objs.size=none:=I4.hok.fresh (ae _);refine⟨.ref _,_,I4.laid (t':=s3.toks) (o:=.tup vs.reverse) (fun b ob q=>aa _ q) (ae _) ?_,rfl,k _ _ (a1.trans (.new hf)) (R1.tn.new hf) (aEs aAq (Reps.mono (.new hf) _ _ xa.reverse))⟩;exact⟨by rw[iS];exact hz,_,r.reverse,aEg.new _ _⟩
 |_=>cases e2
end
end L2.Ds
end
namespace L2.Ds
open PySem PySem.Spec PyProof.Rows
variable {X:Cx}{tw:Addr}
variable {X:Cx}{tw:Addr}
variable {X:Cx}{tw:Addr}
def aMj:Pr:=fun _ ts=>match ts with
 |[.lst xs,y]=>if aEu y=true/\xs.all aEu=true/\xs.length<=big then (xs.findIdx? fun x=>eqT x y).map fun (j:Nat)=>(.int j,.fz) else none
 |_=>none
theorem aV5{n:Nat}(h:aMj n [to,te]=some (t,m)):∃xs j,to = .lst xs/\aEu te=true/\xs.all aEu=true/\xs.length<=big/\(xs.findIdx? fun x=>eqT x te)=some j/\t = .int (j:Nat)/\m = .fz:=by
 cases to with
 | lst xs =>
  have h:(if aEu te=true/\xs.all aEu=true/\xs.length<=big then (xs.findIdx? fun x=>eqT x te).map fun (j:Nat)=>(T.int j,Md.fz) else none)=some (t,m):=h;split at h
  ·rename_i q;obtain⟨j,h1,h2⟩:=map_some h;cases h2;exact⟨xs,j,rfl,q.1,q.2.1,q.2.2,h1,rfl,rfl⟩
  ·cases h
 |_=>cases h
theorem find_of{us:List Value}{xs:List T}{j:Nat}(h:us.map (eqU z)=xs.map fun x=>eqT x y)(hj:(xs.findIdx? fun x=>eqT x y)=some j) :
  ∃hl:j<us.length,eqU z us[j]=true/\∀m (hm:m<us.length),m<j->eqU z us[m]=false:=by
 have hlen:us.length=xs.length:=by have:=congrArg List.length h;simpa using this
 have at_:∀m (h1:m<us.length) (h2:m<xs.length),eqU z us[m]=eqT xs[m] y:=fun m h1 h2=>by have:=congrArg (fun l=>l[m]?) h;simp only[cg,ba h1,ba h2,di] at this;exact Option.some.inj this
 obtain⟨hx,e1,e2⟩:=gu.mp hj;have hu:j<us.length:=by omega
 refine⟨hu,by rw[at_ j hu hx];exact e1,fun m hm hmj=>?_⟩;have hm2:m<xs.length:=by omega
 rw[at_ m hm hm2];have:=e2 m hmj;simpa using this
theorem se_index{o e:Expr}{d0 de:DE}{apos cpos:Pos}(ho:SE X tw o d0)(he:SE X tw e de)(m:M1 X o "index" apos e cpos):SE X tw (.Call (.Attribute o "index" apos) [e] [] cpos) (dPr aMj (aAa d0 (aAa de dNil))):=by
 intro B ρ n t mm n' hd pins s σ H Q I ⟨R,k⟩;obtain⟨to,mo,no,te,me,f1,g1,e3⟩:=aVv hd;obtain⟨xs,j,rfl,hy,hx,hz,hj,rfl,rfl⟩:=aV5 (n:=_) (to:=to) (te:=te) e3;refine wpAny_Call_method m.base m.few m.line PySem.F.plainAttrs_list PySem.F.slot_list_index PySem.F.type_list_index (thn (ho.run f1 I R) fun u s1 ⟨v,H1,I1,r1,a1,R1,c1⟩=>?_);obtain⟨a,va,rfl,ea,xa⟩:=c1.root R1 R.tn;cases r1;obtain⟨its,r1',⟨o1,nn1,ho1,hc1,hd1,_⟩,_⟩:=I1.list ea.sq;refine⟨⟨o1,ho1,hc1⟩,fun b e=>?_,?_⟩
 ·cases e;exact⟨o1,ho1,hd1⟩
 ·rw[m.trees];refine gK rfl (gU (br (thn (he.run g1 I1 R1) fun iv s2 ⟨y,H2,I2,ry,a2,R2,c2⟩=>dq ?_)));have rt:=aUj hy (c2.root R2 R1.tn);have ea2:=ea.ext a2;have xa2:=Reps.mono (a2.fx R1.tn) _ _ xa;obtain⟨its,r2',⟨⟨cls,dd,data,sl⟩,nn,ho,hc,hd,hdat⟩,_⟩:=I2.list ea2.sq;simp only at hc hdat
  subst hc hdat
  obtain⟨hl,hit,hno⟩:=find_of (aMu hy rt hx xa2 r2') hj;have hsm:(j:Int)<2^63 - 1:=by have h1:=(gu.mp hj).1;have hB:big=1000000:=rfl;omega
  refine call_meets PySem.F.slot_list_index ⟨_,ho,rfl⟩ PySem.F.entry_list_index (PySem.F.args_list_index_2 _ _) (PySem.SeqAt.list_indexAt a its.toArray nn dd sl iv (eqU y) j (by simpa using hl) hsm (by simpa using hit) fun m hm h=>by simpa using hno m (by simpa using hm) h) ⟨ho,fun w hw=>aMx ry (aJt hy rt) r2' (aM6 hx xa2) w (by simpa using hw),?_⟩;exact⟨.int _,H2,I2.tok _,⟨_,rfl⟩,k _ H2 (a1.trans a2) R2.tn (by show Rep tw H2 (.int _) _;rw[Rep])⟩
variable {X:Cx}{tw:Addr}
end L2.Ds
namespace L2.En
open PySem PySem.Spec PyProof.Rows
section
variable {prog:Program}{w:World}{A:Around}{E:Value->Shared->Prop}{s:Shared}
theorem nx_item{i:Nat}(hit:IsTupIter s.heap it t i)(ht:IsTup s.heap t items)(hx:items[i]?=some x)
  (hQ:∀h',IsTupIter h' it t (i+1)->Heap.SameBut it s.heap h'->Q x { s with heap:=h' }):wpAny (model prog w) A (Builtin.SmallTypes.nextOf (.ref it)) Q E s:=by
 obtain⟨o,ho,hc,hd⟩:=id hit;obtain⟨ol,hol,_,nl,hdl⟩:=ht;unfold Builtin.SmallTypes.nextOf;refine wpAny_bind (wpAny_callSpecial?_slot (name:=Str.ofString "__next__") hit.typeIs slot_tupleiter_next (wpAny_call_entry slot_tupleiter_next hit.typeIs entry_tupleiter_next ?_ (args_tupleiter_next _)));show wpAny _ _ (field (.ref it) 0 >>= _) _ _ s;refine wpAny_bind (wpAny_field ho hd (x:=.ref t) rfl ?_);show wpAny _ _ (if (Value.ref t==Value.none)=true then _ else _) _ _ s;rw[if_neg (show ¬ ((Value.ref t==Value.none)=true) from cz)];show wpAny _ _ (field (.ref it) 1 >>= _) _ _ s;refine wpAny_bind (wpAny_field ho hd (x:=.int i 0) rfl ?_);show wpAny _ _ (seqItems? (.ref t) >>= _) _ _ s;refine wpAny_bind (wpAny_seqItems hol hdl ?_);simp only[i7,hx];refine wpAny_bind (wpAny_setField ho hd ZR (wpAny_pure ⟨x,rfl,wpAny_pure (hQ _ ?_ (Heap.SameBut.update ..))⟩));exact⟨_,fq _ ho (Obj.isFreed_of_fields (Obj.data_mapFields hd _)),(Obj.cls_mapFields ..).trans hc,by rw[Obj.data_mapFields hd];simp[rawInt]⟩
theorem nx_end{i:Nat}(hh:A.handled=none)(hit:IsTupIter s.heap it t i)(ht:IsTup s.heap t items)(hx:items[i]?=none)
  (hE:∀h' e,Heap.ExtBut it s.heap h'->(∃o,h'.get? e=some o/\o.cls = .type "StopIteration")->E (.ref e) { s with heap:=h' }):wpAny (model prog w) A (Builtin.SmallTypes.nextOf (.ref it)) Q E s:=by
 obtain⟨o,ho,hc,hd⟩:=id hit;obtain⟨ol,hol,_,nl,hdl⟩:=ht;unfold Builtin.SmallTypes.nextOf;refine wpAny_bind (wpAny_callSpecial?_slot (name:=Str.ofString "__next__") hit.typeIs slot_tupleiter_next (wpAny_call_entry slot_tupleiter_next hit.typeIs entry_tupleiter_next ?_ (args_tupleiter_next _)));show wpAny _ _ (field (.ref it) 0 >>= _) _ _ s;refine wpAny_bind (wpAny_field ho hd (x:=.ref t) rfl ?_);show wpAny _ _ (if (Value.ref t==Value.none)=true then _ else _) _ _ s;rw[if_neg (show ¬ ((Value.ref t==Value.none)=true) from cz)];show wpAny _ _ (field (.ref it) 1 >>= _) _ _ s;refine wpAny_bind (wpAny_field ho hd (x:=.int i 0) rfl ?_);show wpAny _ _ (seqItems? (.ref t) >>= _) _ _ s;refine wpAny_bind (wpAny_seqItems hol hdl ?_);simp only[i7,hx];refine wpAny_bind (wpAny_rule (wpAny_bind (wpAny_setField ho hd ZR ?_)));show wpAny _ _ (newExc (.type "StopIteration") [] >>= _) _ _ _;refine wpAny_bind ?_;simp only[newExc,newTuple];refine wpAny_bind (wpAny_newObj_type ?_ (by size_fits));refine wpAny_bind (m:=firstArgMember _ _) (wpAny_of_eq (a:=Value.none) (by first |rfl |(simp only[firstArgMember];rfl)) ?_);refine wpAny_newObj_type ?_ (by size_fits);simp only[raiseNew];refine wpAny_bind (wpAny_handled ?_)
 first |rw[show A.in1.handled=none from hh] |rw[hh]
 refine wpAny_bind (wpAny_pure (wpAny_throw ?_));exact hE _ _ (((Heap.SameBut.update ..).extBut.push _).push _) ⟨_,au _ rfl,rfl⟩
end
end L2.En
section
namespace L2.Ds
open PySem PySem.Spec PyProof.Rows
theorem _root_.L2.Inv.turnedL{X:Cx}{pins:List ZH}{σ:St}{H:Hp}{s:Shared}{h':Heap}{t':Nat}{fp:List Addr}(I:Inv X pins σ H s)(k:∀b o,b∉fp->s.heap.get? b=some o->h'.get? b=some o)(hf:∀b∈fp,FpOk X pins H b):Inv X pins σ H { s with heap:=h',toks:=t' }:=by
 have nit:∀b u,H b=some u->b∉fp:=fun b u e z=>by rw[(hf b z).1] at e;cases e
 refine I.step (g':=s.gens) (d':=s.drawn) (ch:=fp) (fun b hb=>?_) (fun b o _ _ hc e _=>k b o hc e) (fun b o _ _ hc e _=>⟨o.slots,k b o hc e⟩) (fun _ _ _ _ n=>n)
  (fun b o hc e=>⟨o,k b o hc e⟩) (fun _ _ e=>e) (fun _ _ _ e=>e) (fun b ps e=>⟨#[],by rw[e];simp⟩) (fun m hm=>?_) (fun b u e=>?_) I.bare
 ·obtain⟨_,f1,_,f3,f4,f5⟩:=hf b hb;exact⟨f3,f1,f4,f5⟩
 ·obtain⟨o,es,ep,ho,r⟩:=hm;exact⟨o,es,ep,k _ o (fun z=>(hf _ z).2.1 rfl) ho,r⟩
 ·refine(I.hok b u e).stay (fun c v hc q=>k c v ?_ q) (fun _ q=>q) fun _ _ q=>q;rcases hc with z |z
  ·rw[z];exact nit b u e
  ·exact nit c _ z
end L2.Ds
namespace L2.Zi
open PySem PySem.Spec PyProof.Rows
theorem ti_at{i:Nat}(x:IsTupIter h it t i)(k:∀o,h.get? it=some o->h'.get? it=some o):IsTupIter h' it t i:=let ⟨o,ho,r⟩:=x;⟨o,k o ho,r⟩
theorem aLd(x:IsTup h t xs)(k:∀o,h.get? t=some o->h'.get? t=some o):IsTup h' t xs:=let ⟨o,ho,r⟩:=x;⟨o,k o ho,r⟩
section
variable {prog:Program}{w:World}{A:Around}{E:Value->Shared->Prop}{s:Shared}{z TI TO i1 i2 l1 l2:Addr}{k1 k2:Nat}{xs ys:Array Value}{a b:Value}
structure On (z TI TO i1 i2 l1 l2:Addr) (k1 k2:Nat) (xs ys:Array Value) (h:Heap) (f:Value):Prop where
 ap:ZipApart z TI TO i1 i2 l1 l2
 zp:IsZip h z TI TO f
 ti:IsPair h TI (.ref i1) (.ref i2)
 to:∃a b,IsPair h TO a b
 t1:IsTupIter h i1 l1 k1
 t2:IsTupIter h i2 l2 k2
 x1:IsTup h l1 xs
 x2:IsTup h l2 ys
theorem item{x y:Value}{Q:Value->Shared->Prop}(O:On z TI TO i1 i2 l1 l2 k1 k2 xs ys s.heap .none)(hx:xs[k1]?=some x)(hy:ys[k2]?=some y)
  (hQ:∀h',On z TI TO i1 i2 l1 l2 (k1+1) (k2+1) xs ys h' (rawInt s.heap.objs.size)->IsPair h' s.heap.objs.size x y ->
   (∀c o,c≠z->c≠TO->c≠i1->c≠i2->s.heap.get? c=some o->h'.get? c=some o)->Q (.ref s.heap.objs.size) { s with heap:=h' }) :
  wpAny ZI A (Builtin.«zip.__next__» ⟨[.ref z],[]⟩) (fun fin s'=>∃v,fin = .done (.ret v)/\Q v s') E s:=by
 obtain⟨D,hz,hTI,⟨a,b,hTO⟩,h1,h2,hl1,hl2⟩:=O;show wpAny _ _ (field (.ref z) 2 >>= _) _ _ _;refine wpAny_bind (wpAny_field hz rfl (x:=.bool false) rfl ?_);show wpAny _ _ (field (.ref z) 3 >>= _) _ _ _;refine wpAny_bind (wpAny_field hz rfl (x:=.ref TI) rfl (wpAny_bind (wpAny_seqItems hTI rfl ?_)));show wpAny _ _ (Builtin.SmallTypes.ownedTupleIsFree (.ref z) >>= _) _ _ _;refine wpAny_bind ?_;unfold Builtin.SmallTypes.ownedTupleIsFree;refine wpAny_bind (wpAny_field hz rfl (x:=.none) rfl (wpAny_pure ?_));simp only[if_true];refine wpAny_bind (wpAny_rule (wpAny_bind (wpAny_field hz rfl (x:=.ref TO) rfl (wpAny_bind (wpAny_setField_rec hz ZR fun g1 z1 s1=>?_)))))
 replace z1:IsZip g1 z TI TO .ellipsis:=z1
 refine wpAny_bind ?_;simp only[jQ,List.zipIdx_nil,iu,List.forIn_nil];refine wpAny_bind (wpAny_bind (wpAny_onRaise ?_));show wpAny _ _ (Builtin.SmallTypes.nextOf (.ref i1) >>= _) _ _ _;refine wpAny_bind (En.nx_item (ti_at h1 fun o e=>s1.extBut _ _ D.i1z e) (aLd hl1 fun o e=>s1.extBut _ _ D.l1z e) hx fun g2 u2 s2=>wpAny_pure ?_);have q2:IsPair g2 TO a b:=s2.extBut _ _ D.TOi1 (s1.extBut _ _ D.TOz hTO);refine wpAny_bind (wpAny_seqItems q2 rfl (wpAny_bind (wpAny_updateSeq_pair q2 fun g3 q3 s3=>wpAny_bind (wpAny_letGo (wpAny_pure ?_)))))
 replace q3:IsPair g3 TO x b:=q3
 refine wpAny_bind (wpAny_bind (wpAny_onRaise ?_));show wpAny _ _ (Builtin.SmallTypes.nextOf (.ref i2) >>= _) _ _ _;refine wpAny_bind (En.nx_item (ti_at h2 fun o e=>s3.extBut _ _ D.TOi2.symm (s2.extBut _ _ D.i12.symm (s1.extBut _ _ D.i2z e))) (aLd hl2 fun o e=>s3.extBut _ _ D.l2TO (s2.extBut _ _ D.l2i1 (s1.extBut _ _ D.l2z e))) hy fun g4 u4 s4=>wpAny_pure ?_);have q4:IsPair g4 TO x b:=s4.extBut _ _ D.TOi2 q3;refine wpAny_bind (wpAny_seqItems q4 rfl (wpAny_bind (wpAny_updateSeq_pair q4 fun g5 q5 s5=>wpAny_bind (wpAny_letGo (wpAny_pure (wpAny_pure ?_))))))
 replace q5:IsPair g5 TO x y:=q5
 refine wpAny_bind (wpAny_seqItems q5 rfl (wpAny_bind (wpAny_newTuple ?_)));have sz:g5.objs.size=s.heap.objs.size:=by rw[s5.1,s4.1,s3.1,s2.1,s1.1]
 have z5:IsZip g5 z TI TO .ellipsis:=s5.extBut _ _ D.TOz.symm (s4.extBut _ _ D.i2z.symm (s3.extBut _ _ D.TOz.symm (s2.extBut _ _ D.i1z.symm z1)));have k5:∀c o,c≠z->c≠TO->c≠i1->c≠i2->s.heap.get? c=some o->g5.get? c=some o:=fun c o c1 c2 c3 c4 e =>
  s5.extBut _ _ c2 (s4.extBut _ _ c4 (s3.extBut _ _ c2 (s2.extBut _ _ c3 (s1.extBut _ _ c1 e))))
 have lt:=ai z5;show wpAny _ _ (Builtin.SmallTypes.ownedTupleHandOut (.ref z) (.ref g5.objs.size) >>= _) _ _ _;refine wpAny_bind ?_;unfold Builtin.SmallTypes.ownedTupleHandOut;have z6:IsZip (g5.push { cls:=.type "tuple",data:=.seq #[x,y] }) z TI TO .ellipsis:=aa _ z5;refine wpAny_bind (wpAny_setField_rec z6 ZR fun g7 z7 s7=>?_)
 replace z7:IsZip g7 z TI TO (rawInt g5.objs.size):=z7
 refine wpAny_setField_rec z7 ZR fun g8 z8 s8=>?_
 replace z8:IsZip g8 z TI TO (rawInt g5.objs.size):=z8
 have up:∀c o,c≠z->g5.get? c=some o->g8.get? c=some o:=fun c o c1 e=>s8.extBut _ _ c1 (s7.extBut _ _ c1 (aa _ e));have t8:IsPair g8 g5.objs.size x y:=s8.extBut _ _ (iU lt) (s7.extBut _ _ (iU lt) (au _ rfl));rw[sz] at z8 t8;refine wpAny_pure ⟨_,rfl,?_⟩;show Q (.ref g5.objs.size) _;rw[sz];have hk:∀c o,c≠z->c≠TO->c≠i1->c≠i2->s.heap.get? c=some o->g8.get? c=some o:=fun c o c1 c2 c3 c4 e=>up c o c1 (k5 c o c1 c2 c3 c4 e)
 exact hQ g8 ⟨D,z8,hk _ _ D.TIz D.TITO D.TIi1 D.TIi2 hTI,⟨x,y,up _ _ D.TOz q5⟩,ti_at u2 fun o e=>up _ o D.i1z (s5.extBut _ _ D.TOi1.symm (s4.extBut _ _ D.i12 (s3.extBut _ _ D.TOi1.symm e))),
  ti_at u4 fun o e=>up _ o D.i2z (s5.extBut _ _ D.TOi2.symm e),aLd hl1 fun o e=>hk _ o D.l1z D.l1TO D.l1i1 D.l1i2 e,aLd hl2 fun o e=>hk _ o D.l2z D.l2TO D.l2i1 D.l2i2 e⟩ t8 hk
theorem over(hh:A.handled=none)(O:On z TI TO i1 i2 l1 l2 k1 k2 xs ys s.heap .none)(hend:xs[k1]?=none\/ys[k2]?=none)
  (hE:∀h' e,(∀c o,c≠z->c≠TO->c≠i1->c≠i2->s.heap.get? c=some o->h'.get? c=some o)->(∃o,h'.get? e=some o/\o.cls = .type "StopIteration")->E (.ref e) { s with heap:=h' }) :
  wpAny ZI A (Builtin.«zip.__next__» ⟨[.ref z],[]⟩) Q E s:=by
 obtain⟨D,hz,hTI,⟨a,b,hTO⟩,h1,h2,hl1,hl2⟩:=O;show wpAny _ _ (field (.ref z) 2 >>= _) _ _ _;refine wpAny_bind (wpAny_field hz rfl (x:=.bool false) rfl ?_);show wpAny _ _ (field (.ref z) 3 >>= _) _ _ _;refine wpAny_bind (wpAny_field hz rfl (x:=.ref TI) rfl (wpAny_bind (wpAny_seqItems hTI rfl ?_)));show wpAny _ _ (Builtin.SmallTypes.ownedTupleIsFree (.ref z) >>= _) _ _ _;refine wpAny_bind ?_;unfold Builtin.SmallTypes.ownedTupleIsFree;refine wpAny_bind (wpAny_field hz rfl (x:=.none) rfl (wpAny_pure ?_));simp only[if_true];refine wpAny_bind (wpAny_rule (wpAny_bind (wpAny_field hz rfl (x:=.ref TO) rfl (wpAny_bind (wpAny_setField_rec hz ZR fun g1 z1 s1=>?_)))))
 replace z1:IsZip g1 z TI TO .ellipsis:=z1
 refine wpAny_bind ?_;simp only[jQ,List.zipIdx_nil,iu,List.forIn_nil];refine wpAny_bind (wpAny_bind (wpAny_onRaise ?_));show wpAny _ _ (Builtin.SmallTypes.nextOf (.ref i1) >>= _) _ _ _;cases hx:xs[k1]? with
 | none =>
  refine wpAny_bind (En.nx_end hh (ti_at h1 fun o e=>s1.extBut _ _ D.i1z e) (aLd hl1 fun o e=>s1.extBut _ _ D.l1z e) hx fun g2 e s2 ⟨oe,hoe,hce⟩=>?_);have z2:IsZip g2 z TI TO .ellipsis:=s2 _ _ D.i1z.symm z1;have hez:e≠z:=fun x=>by subst x;rw[z2] at hoe;cases hoe;simp at hce
  exact wpAny_setField_rec z2 ZR fun g3 _ s3=>hE g3 e (fun c o c1 _ c3 _ x=>s3.extBut _ _ c1 (s2 _ _ c3 (s1.extBut _ _ c1 x))) ⟨oe,s3.extBut _ _ hez hoe,hce⟩
 | some x =>
  have hy:ys[k2]?=none:=by rcases hend with h |h;rw[hx] at h;cases h;exact h
  refine wpAny_bind (En.nx_item (ti_at h1 fun o e=>s1.extBut _ _ D.i1z e) (aLd hl1 fun o e=>s1.extBut _ _ D.l1z e) hx fun g2 u2 s2=>wpAny_pure ?_);have q2:IsPair g2 TO a b:=s2.extBut _ _ D.TOi1 (s1.extBut _ _ D.TOz hTO);refine wpAny_bind (wpAny_seqItems q2 rfl (wpAny_bind (wpAny_updateSeq_pair q2 fun g3 q3 s3=>wpAny_bind (wpAny_letGo (wpAny_pure ?_)))));refine wpAny_bind (wpAny_bind (wpAny_onRaise ?_));show wpAny _ _ (Builtin.SmallTypes.nextOf (.ref i2) >>= _) _ _ _;refine wpAny_bind (En.nx_end hh (ti_at h2 fun o e=>s3.extBut _ _ D.TOi2.symm (s2.extBut _ _ D.i12.symm (s1.extBut _ _ D.i2z e))) (aLd hl2 fun o e=>s3.extBut _ _ D.l2TO (s2.extBut _ _ D.l2i1 (s1.extBut _ _ D.l2z e))) hy fun g4 e s4 ⟨oe,hoe,hce⟩=>?_);have z4:IsZip g4 z TI TO .ellipsis:=s4 _ _ D.i2z.symm (s3.extBut _ _ D.TOz.symm (s2.extBut _ _ D.i1z.symm z1));have hez:e≠z:=fun x=>by subst x;rw[z4] at hoe;cases hoe;simp at hce
  exact wpAny_setField_rec z4 ZR fun g5 _ s5=>hE g5 e (fun c o c1 c2 c3 c4 x=>s5.extBut _ _ c1 (s4 _ _ c4 (s3.extBut _ _ c2 (s2.extBut _ _ c3 (s1.extBut _ _ c1 x))))) ⟨oe,s5.extBut _ _ hez hoe,hce⟩
theorem next_item(O:On z TI TO i1 i2 l1 l2 k1 k2 xs ys s.heap .none)(hx:xs[k1]?=some x)(hy:ys[k2]?=some y)
  (hQ:∀h',On z TI TO i1 i2 l1 l2 (k1+1) (k2+1) xs ys h' (rawInt s.heap.objs.size)->IsPair h' s.heap.objs.size x y ->
   (∀c o,c≠z->c≠TO->c≠i1->c≠i2->s.heap.get? c=some o->h'.get? c=some o)->Q (some (.ref s.heap.objs.size)) { s with heap:=h' }):wpAny (model prog w) A (pyNext (.ref z)) Q E s:=by
 have hT:s.TypeIs (.ref z) "zip":=⟨_,O.zp,rfl⟩
 unfold pyNext
 exact wpAny_bind (wpAny_attempt (wpAny_callSpecial?_slot (name:=Str.ofString "__next__") hT F.slot_zip_next
  (wpAny_call_entry F.slot_zip_next hT F.entry_zip_next (item O hx hy fun h' p q r=>wpAny_pure (hQ h' p q r)) (F.args_zip_next_1 _))))
theorem next_end(hh:A.handled=none)(O:On z TI TO i1 i2 l1 l2 k1 k2 xs ys s.heap .none)(hend:xs[k1]?=none\/ys[k2]?=none)
  (hQ:∀h',(∀c o,c≠z->c≠TO->c≠i1->c≠i2->s.heap.get? c=some o->h'.get? c=some o)->Q none { s with heap:=h' }):wpAny (model prog w) A (pyNext (.ref z)) Q E s:=by
 have hT:s.TypeIs (.ref z) "zip":=⟨_,O.zp,rfl⟩
 unfold pyNext
 refine wpAny_bind (wpAny_attempt (wpAny_callSpecial?_slot (name:=Str.ofString "__next__") hT F.slot_zip_next
  (wpAny_call_entry F.slot_zip_next hT F.entry_zip_next (over hh O hend fun h' e hk ⟨o,ho,hc⟩=>?_) (F.args_zip_next_1 _))))
 exact wpAny_bind (wpAny_isInstance (T:="StopIteration") (b:=true) ⟨o,ho,hc⟩ isSubtype_stop (wpAny_pure (hQ _ hk)))
end
abbrev g1(h:Heap)(t:Addr):Heap:=h.push { cls:=.type "tuple_iterator",data:=.fields #[.ref t,.int 0 0] }
abbrev g2(h:Heap)(t u:Addr):Heap:=g1 (g1 h t) u
abbrev g3(h:Heap)(t u:Addr):Heap:=(g2 h t u).push { cls:=.type "tuple",data:=.seq #[.ref h.objs.size,.ref (g1 h t).objs.size] }
abbrev g4(h:Heap)(t u:Addr):Heap:=(g3 h t u).push { cls:=.type "tuple",data:=.seq #[.none,.none] }
abbrev g5(h:Heap)(t u:Addr):Heap:=(g4 h t u).push { cls:=.type "zip",data:=.fields #[.none,.bool false,.bool false,.ref (g2 h t u).objs.size,.ref (g3 h t u).objs.size] }
theorem bBh(t u:Addr)(xs ys:Array Value) :
  Meets (Builtin.«zip.__new__» ⟨[.type "zip",.ref t,.ref u],[]⟩) (fun _ R s=>IsTup s.heap t xs/\IsTup s.heap u ys /\
   R (.ok (.ret (.ref (g4 s.heap t u).objs.size))) { s with heap:=g5 s.heap t u }) :=
 .of_wp fun prog w A R s h=>by
  obtain⟨hp,g,d,tk,os⟩:=s;obtain⟨h1,h2,h⟩:=h;have hsub:=sub_zip;have e1:IsTup (Shared.heap ⟨hp,g,d,tk,os⟩) t xs:=h1;have e2:IsTup (Shared.heap ⟨hp.push { cls:=.type "tuple_iterator",data:=.fields #[.ref t,.int 0 0] },g,d,tk,os⟩) u ys:=aLd h2 fun o e=>aa _ e
  wp_walk using iter_tuple e1,iter_tuple e2
  exact⟨_,rfl,h⟩
section
variable {prog:Program}{w:World}{A:Around}{E:Value->Shared->Prop}{s:Shared}
theorem call_zip(h1:IsTup s.heap t xs)(h2:IsTup s.heap u ys)
  (h:∀h',On (s.heap.objs.size+4) (s.heap.objs.size+2) (s.heap.objs.size+3) s.heap.objs.size (s.heap.objs.size+1) t u 0 0 xs ys h' .none ->
   (∀c o,s.heap.get? c=some o->h'.get? c=some o)->Q (.ref (s.heap.objs.size+4)) { s with heap:=h' }) :
  wpAny ZI A (call (.type "zip") [.ref t,.ref u]) Q E s:=by
 refine callType_new F.called_zip ZA (F.typeCall_zip_2 _ _) (F.newCall_zip_2 _ _) (fun obj=>F.args_object_init_3 obj _ _) F.entry_zip_new (bBh t u xs ys) ⟨h1,h2,?_⟩;have z1:(g1 s.heap t).objs.size=s.heap.objs.size+1:=dy ..;have z2:(g2 s.heap t u).objs.size=s.heap.objs.size+2:=by rw[dy,z1]
 have z3:(g3 s.heap t u).objs.size=s.heap.objs.size+3:=by rw[dy,z2]
 have z4:(g4 s.heap t u).objs.size=s.heap.objs.size+4:=by rw[dy,z3]
 have p5:(g5 s.heap t u).get? (g4 s.heap t u).objs.size=some _:=au _ rfl;have p4:(g5 s.heap t u).get? (g3 s.heap t u).objs.size=some _:=aa _ (au _ rfl);have p3:(g5 s.heap t u).get? (g2 s.heap t u).objs.size=some _:=aa _ (aa _ (au _ rfl));have p2:(g5 s.heap t u).get? (g1 s.heap t).objs.size=some _:=aa _ (aa _ (aa _ (au _ rfl)));have p1:(g5 s.heap t u).get? s.heap.objs.size=some _:=aa _ (aa _ (aa _ (aa _ (au _ rfl))));have k:∀c o,s.heap.get? c=some o->(g5 s.heap t u).get? c=some o:=fun c o x=>aa _ (aa _ (aa _ (aa _ (aa _ x))));have l1:t<s.heap.objs.size:=let ⟨_,q,_⟩:=h1;ai q
 have l2:u<s.heap.objs.size:=let ⟨_,q,_⟩:=h2;ai q
 show _/\_;rw[z2,z3,z4] at p5;rw[z1,z2] at p3;rw[z3] at p4;rw[z1] at p2;rw[z4];exact⟨⟨_,p5,rfl⟩,h _ ⟨zipApart_new l1 l2,p5,p3,⟨_,_,p4⟩,⟨_,p1,rfl,rfl⟩,⟨_,p2,rfl,rfl⟩,aLd h1 fun o e=>k _ o e,aLd h2 fun o e=>k _ o e⟩ k⟩
end
end L2.Zi
namespace L2.Ds
open PySem PySem.Spec PyProof.Rows
def Itq(K:W.Frag)(a b:Addr)(m:Nat):It:=⟨fun i H=>∃xs ys x y,SqT K H a xs/\SqT K H b ys/\xs[i]?=some x/\ys[i]?=some y/\i<m,fun i H x H'=>∃p v u,H p=none/\x = .ref p/\H'=upd H p (.tup [v,u])/\(∀ys,SqT K H a ys->ys[i]?=some v)/\∀ys,SqT K H b ys->ys[i]?=some u,fun i H=>∃xs ys,SqT K H a xs/\SqT K H b ys/\(xs.length=m\/ys.length=m)/\m<=i⟩
theorem turn_zip{P:Program}{w:World}{K:W.Frag}{elts:List Expr}{x1}{tp:Pos}(a b z TI TO i1 i2:Addr)(m:Nat)(D:ZipApart z TI TO i1 i2 a b) :
  Turn P w K (.Tuple elts x1 tp) (Itq K a b m) [z,TI,TO,i1,i2] z (fun i h=>i<=m/\IsZip h z TI TO .none/\IsPair h TI (.ref i1) (.ref i2)/\(∃p q,IsPair h TO p q)/\IsTupIter h i1 a i/\IsTupIter h i2 b i) where
 mem:=by simp
 obj:=fun i h st c hc=>by
  obtain⟨_,s1,s2,⟨p,q,s3⟩,⟨o1,e1,_,d1⟩,⟨o2,e2,_,d2⟩⟩:=st;simp only[bf,gj,or_false] at hc;rcases hc with rfl |rfl |rfl |rfl |rfl
  ·exact⟨_,s1,fun v z=>by cases z⟩
  ·exact⟨_,s2,fun v z=>by cases z⟩
  ·exact⟨_,s3,fun v z=>by cases z⟩
  ·exact⟨_,e1,fun v z=>by rw[d1] at z;cases z⟩
  ·exact⟨_,e2,fun v z=>by rw[d2] at z;cases z⟩
 keep:=fun i h h' st k=>by obtain⟨hi,s1,s2,⟨p,q,s3⟩,t1,t2⟩:=st;exact⟨hi,k z ZR _ s1,k TI ZR _ s2,⟨p,q,k TO ZR _ s3⟩,Zi.ti_at t1 fun o e=>k i1 ZR o e,Zi.ti_at t2 fun o e=>k i2 ZR o e⟩
 item:=by
  intro X hP hw hK hc i pins s σ H E I hf st hg;subst hP hw hK;obtain⟨xs,ys,x,y,hq,hr,hx,hy,him⟩:=hg;obtain⟨its,rv,p,hz⟩:=I.tuple hq;obtain⟨its2,rv2,p2,hz2⟩:=I.tuple hr;obtain⟨u,hu,ru⟩:=rv.get hx;obtain⟨v,hv,rv⟩:=rv2.get hy;obtain⟨hi,s1,s2,s3,t1,t2⟩:=st;refine Zi.next_item ⟨D,s1,s2,s3,t1,t2,p,p2⟩ (x:=u) (y:=v) (by simpa using hu) (by simpa using hv) fun h' O hT hk=>?_;refine⟨_,rfl,wpAny_letOwnedTupleGo_zip O.zp fun h2 he2 hs2=>?_⟩;have hs2:Heap.SameBut z h' h2:=hs2;have hfr:H s.heap.objs.size=none:=I.hok.fresh (ae _);have hlt:∀c ∈ [z,TI,TO,i1,i2],c≠s.heap.objs.size:=fun c hc=>by
   obtain⟨q1,q2,s3'⟩:=s3;obtain⟨_,r1,_⟩:=t1;obtain⟨_,r2,_⟩:=t2;simp only[bf,gj,or_false] at hc;rcases hc with rfl |rfl |rfl |rfl |rfl
   ·exact az (ai s1)
   ·exact az (ai s2)
   ·exact az (ai s3')
   ·exact az (ai r1)
   ·exact az (ai r2)
  have I1:Inv X pins σ (upd H s.heap.objs.size (.tup [x,y])) { s with heap:=s.heap.push { cls:=.type "tuple",data:=.seq #[u,v] },toks:=s.toks } :=
   I.laid (t':=s.toks) (fun b o e=>aa _ e) (ae _) ⟨by show 2<=sizeLine;decide,[u,v],.cons ru (.cons rv .nil),aEg.new _ _⟩
  have I2:=I1.turnedL (fp:=[z,TI,TO,i1,i2]) (h':=h2) (t':=s.toks) (fun b o hb q=>?_) fun b hb=>?_
  ·refine⟨.ref s.heap.objs.size,_,I2,rfl,⟨s.heap.objs.size,x,y,hfr,rfl,rfl,fun ys hy=>by rw[I.tuple_inj hy hq];exact hx,fun ys hz=>by rw[I.tuple_inj hz hr];exact hy⟩,⟨him,he2,hs2.extBut _ _ D.TIz O.ti,?_,?_,?_⟩,fun b hb=>?_⟩
   ·obtain⟨p,q,e⟩:=O.to;exact⟨p,q,hs2.extBut _ _ D.TOz e⟩
   ·exact Zi.ti_at O.t1 fun o e=>hs2.extBut _ _ D.i1z e
   ·exact Zi.ti_at O.t2 fun o e=>hs2.extBut _ _ D.i2z e
   ·rw[aAn (hlt b hb)];exact(hf b hb).1
  ·have b1:b≠z:=fun z=>hb (by simp[z]);have b2:b≠TO:=fun z=>hb (by simp[z]);have b3:b≠i1:=fun z=>hb (by simp[z]);have b4:b≠i2:=fun z=>hb (by simp[z]);by_cases z:b=s.heap.objs.size
   ·subst z;rw[au _ rfl] at q;cases q;exact hs2.extBut _ _ b1 hT
   ·have q':s.heap.get? b=some o:=by have:=q;rw[iJ _ _ _ z] at this;exact this
    exact hs2.extBut _ _ b1 (hk b o b1 b2 b3 b4 q')
  ·obtain⟨f0,f1,f2,f3,f4,f5⟩:=hf b hb;exact⟨by rw[aAn (hlt b hb)];exact f0,f1,f2,f3,f4,f5⟩
 done:=by
  intro X hP hw hK hc i pins s σ H E I hf st hg;subst hP hw hK;obtain⟨xs,ys,hq,hr,hl,hg⟩:=hg;obtain⟨its,rv,p,hz⟩:=I.tuple hq;obtain⟨its2,rv2,p2,hz2⟩:=I.tuple hr;obtain⟨hi,s1,s2,s3,t1,t2⟩:=st;have n1:=rv.length;have n2:=rv2.length;refine Zi.next_end (I.ok.hd hc) ⟨D,s1,s2,s3,t1,t2,p,p2⟩ ?_ fun h' hk=>⟨rfl,I.turnedL (fp:=[z,TI,TO,i1,i2]) (t':=s.toks) (fun b o hb e=>hk b o (fun z=>hb (by simp[z])) (fun z=>hb (by simp[z])) (fun z=>hb (by simp[z])) (fun z=>hb (by simp[z])) e) hf⟩
  rcases hl with hl |hl
  ·exact .inl (by rw[jY,ie (by omega)])
  ·exact .inr (by rw[jY,ie (by omega)])
 self:=fun _ _ _ _ _ st h=>wpAny_pyIter_zip st.2.1 h
section
variable {X:Cx}{tw:Addr}
theorem at_zip{K:W.Frag}{H:Hp}{a b:Addr}{xs ys:List T}{vs us:List V}(h:H a=some (.tup vs))(r:Reps tw H xs vs)(h2:H b=some (.tup us))(r2:Reps tw H ys us) :
  ItAt tw (Itq K a b (min xs.length ys.length)) H (List.zipWith (fun x y=>.tup [x,y]) xs ys):=fun i=>by
 have hl:=r.length;have hl2:=r2.length;refine⟨fun t e=>?_,fun hi=>⟨vs,us,SqT.of h,SqT.of h2,by omega,by rw[j9] at hi;exact hi⟩⟩;have hlt:=(bh.mp e).1;rw[j9] at hlt;rw[List.getElem?_zipWith] at e;have ⟨x,y,hx,hy,et⟩:∃x y,xs[i]?=some x/\ys[i]?=some y/\t = .tup [x,y]:=by
  cases hx:xs[i]? with
  |none=>rw[hx] at e;cases e
  | some x=>cases hy:ys[i]? with
   |none=>rw[hx,hy] at e;cases e
   |some y=>rw[hx,hy] at e;cases e;exact⟨x,y,rfl,rfl,rfl⟩
 subst et;obtain⟨v,hv,rv⟩:=r.get hx;obtain⟨u,hu,ru⟩:=r2.get hy;refine⟨⟨vs,us,v,u,SqT.of h,SqT.of h2,hv,hu,hlt⟩,fun x H2 q=>?_⟩;obtain⟨p,v',u',hp,rfl,rfl,q1,q2⟩:=q;have e1:=q1 vs (SqT.of h);have e2:=q2 us (SqT.of h2);rw[hv] at e1;rw[hu] at e2;cases e1;cases e2;have fx:Fx H (upd H p (.tup [v,u])):=fun b=>⟨fun ws e=>by rw[aAn (aB4 e hp)];exact e,fun o u e=>by rw[aAn (aB4 e hp)];exact e⟩
 refine⟨.new hp,fun n tn=>tn.new hp,?_⟩;rw[Rep];exact⟨p,_,rfl,aAq,.cons (Rep.mono fx _ _ rv) (.cons (Rep.mono fx _ _ ru) .nil)⟩
theorem si_zip{elts:List Expr}{x1}{tp:Pos}{pos p:Pos}{a b:Expr}{d e:DE}(ha:SE X tw a d)(hb:SE X tw b e)(hm:X.mg "zip" = none)(hg:autoParam (Gl X "zip") az0._auto_1)(hs:autoParam (starEach [a,b] X.env=(false,eval a X.env)::starEach [b] X.env) az0._auto_1)(hs1:autoParam (starEach [b] X.env=(false,eval b X.env)::starEach [] X.env) az0._auto_1)(hs2:autoParam ((backTo pos (starEach [b] X.env)).any (·.1)=false) az0._auto_1) :
  SIc X tw (.Tuple elts x1 tp) (.Call (.Name "zip" p) [a,b] [] pos) (aXa d e):=by
 intro B ρ n ts n' hd pins s σ H R I ⟨Rl,k⟩;obtain⟨⟨t0,m0,n1⟩,e1,e2⟩:=bind_some hd;obtain⟨⟨t2,m2,n2⟩,e3,e2⟩:=bind_some e2;have ⟨xs,ys,et,eu,ets,en⟩:∃xs ys,t0 = .tup xs/\t2 = .tup ys/\ts=List.zipWith (fun x y=>.tup [x,y]) xs ys/\n'=n2:=by
  cases t0 with
  | tup xs=>cases t2 with
   |tup ys=>cases e2;exact⟨xs,ys,rfl,rfl,rfl,rfl⟩
   |_=>cases e2
  |_=>cases e2
 subst et eu ets en;have hA:SA X tw [a,b] (aAa d (aAa e dNil)):=aAw ha (aAw hb aBe hs1) hs;have e4:aAa d (aAa e dNil) ρ n=some ([.tup xs,.tup ys],n'):=by have e3:e ρ n1=some (.tup ys,m2,n'):=e3;unfold aAa;rw[e1];show Option.map _ ((e ρ n1).bind _)=_;rw[e3];rfl
 refine Call_ (aFs I hg hm boot_zip (PyProof.Rows.callWith_type1 (thn (hA.run e4 pos I Rl) fun us s1 ⟨vs,H1,I1,r1,a1,R1,c1⟩=>?_) hs hs2));obtain⟨v,v2,rfl,r,r2⟩:=aB6 c1;obtain⟨u,u2,rfl,ru,ru2⟩:=r1.two;obtain⟨ad,va,rfl,ea,xa⟩:=aBx r;obtain⟨bd,vb,rfl,eb,xb⟩:=aBx r2;cases ru;cases ru2;obtain⟨its,rv,ht,hz⟩:=I1.tuple (SqT.of (K:=X.K) ea);obtain⟨its2,rv2,ht2,hz2⟩:=I1.tuple (SqT.of (K:=X.K) eb);refine Zi.call_zip ht ht2 fun h' O hk=>?_;have I2:Inv X pins σ H1 { s1 with heap:=h' }:=I1.kept (t':=s1.toks) hk;refine wpAny_pyIter_zip O.zp ?_
 refine⟨s1.heap.objs.size+4,[s1.heap.objs.size+4,s1.heap.objs.size+2,s1.heap.objs.size+3,s1.heap.objs.size,s1.heap.objs.size+1],_,_,H1,rfl,I2,turn_zip ad bd _ _ _ _ _ (min xs.length ys.length) O.ap,⟨gn _,O.zp,O.ti,O.to,O.t1,O.t2⟩,fun b hb=>?_,
  k _ H1 a1 R1.tn fun H2 n2 t2 x2=>at_zip (x2.to ad _ ea (R1.tn.ne_tup ea) (fun _ z=>nomatch z)) (Reps.mono (x2.fx R1.tn) _ _ xa) (x2.to bd _ eb (R1.tn.ne_tup eb) (fun _ z=>nomatch z)) (Reps.mono (x2.fx R1.tn) _ _ xb)⟩
 have hb:s1.heap.objs.size<=b:=by
  simp only[bf,gj,or_false] at hb;rcases hb with rfl |rfl |rfl |rfl |rfl
  ·exact ik _ _
  ·exact ik _ _
  ·exact ik _ _
  ·exact ae _
  ·exact ik _ _
 exact I1.fpOk hb (I1.hok.fresh hb)
end
end L2.Ds
end
namespace L2.Ds
open PySem PySem.Spec PyProof.Rows
structure CompTxtK (X:Cx) (scope:Scope) (N':List Str) (srcs:List (Option Nat)):Prop where
 kind:scope.kind = .function
 one:∀y∈scope.names,y.2 = .cell->scope.names.lookup y.1=some .cell
 names:∀y∈scope.names,y.2 = .local->scope.names.lookup y.1=some .local
 free:∀y∈scope.names,y.2 = .free->X.env.kindOf y.1=some .cell\/X.env.kindOf y.1=some .free
 len:srcs.length=N'.length
 src:∀ (i j:Nat),srcs[i]?=some (some j)->∃x,N'[i]?=some x/\X.N[j]?=some x/\scope.names.lookup x≠some .local/\scope.names.lookup x≠some .cell
end L2.Ds
namespace L2.Ds
open PySem PySem.Spec PyProof.Rows L2.Tm
def TupE(h:Heap)(v:Value)(l:List Int):Prop:=∃a o xs n,v = .ref a/\h.get? a=some o/\o.cls = .type "tuple" /\ o.data = .seq xs n/\IntsAre xs.toList l
end L2.Ds
namespace L2.Ds
open PySem PySem.Spec PyProof.Rows L2.Tm PySem.W
section
variable {X:Cx}{tw:Addr}
inductive TupsE (h:Heap):List Value->List (List Int)->Prop
 |nil:TupsE h [] []
 |cons {v:Value} {l:List Int} {vs:List Value} {ls:List (List Int)}:TupE h v l->TupsE h vs ls->TupsE h (v::vs) (l::ls)
end
theorem bA3{K:Frag}(h:nsIn K mainGlobals "all_places" = some none):mkOf K=none:=by unfold mkOf;rw[h]
end L2.Ds
namespace L2.Ds
open PySem PySem.Spec
def Hd(h h':Heap):Prop:=∀ (b:Nat) (o:Obj),h.objs[b]?=some o->∃o':Obj,h'.objs[b]?=some o'/\o'.dict=o.dict
theorem Hd.refl(h:Heap):Hd h h:=fun _ o e=>⟨o,e,rfl⟩
theorem Hd.trans(a:Hd h h1)(b:Hd h1 h2):Hd h h2:=fun x o e=>by obtain⟨o1,e1,d1⟩:=a x o e;obtain⟨o2,e2,d2⟩:=b x o1 e1;exact⟨o2,e2,d2.trans d1⟩
theorem Hd.push(h:Heap)(o:Obj):Hd h (h.push o):=fun b p e=>by obtain⟨objs,l⟩:=h;refine⟨p,?_,rfl⟩;show (objs.push o)[b]?=_;have hb:b<objs.size:=(Array.getElem?_eq_some_iff.mp e).1;rw[Array.getElem?_push_lt hb];exact(iR hb).symm.trans e
theorem Hd.update(h:Heap)(a:Addr)(f:Obj->Obj)(hf:∀o,(f o).dict=o.dict):Hd h (h.update a f):=fun b p e=>by
 obtain⟨objs,l⟩:=h;show ∃o',(objs.modify a f)[b]?=some o'/\_;rw[Array.getElem?_modify];have e:objs[b]?=some p:=e;rw[e];by_cases z:a=b
 ·rw[if_pos z];exact⟨f p,rfl,hf p⟩
 ·rw[if_neg z];exact⟨p,rfl,rfl⟩
theorem Hd.get(x:Hd h h')(e:h.get? b=some o)(e':h'.get? b=some o'):o'.dict=o.dict:=by have q:=(je.mp e).1;have q':=(je.mp e').1;obtain⟨o2,e2,d⟩:=x b o q;have e2:h'.objs[b]?=some o2:=e2;rw[q'] at e2;cases e2;exact d
def Mild{α:Type}:Sem α->Prop
 |.pure _=>True
 |.raise _=>True
 |.unsupported _=>True
 |.finish _=>True
 |.rule _ k=>Mild (k ())
 |.at _ k=>Mild (k ())
 |.load _ _ k=>∀o,Mild (k o)
 |.update _ _ f k=>(∀o,(f o).dict=o.dict)/\Mild (k ())
 |.alloc _ k=>∀a,Mild (k a)
 |.loadIfAlive _ k=>∀o,Mild (k o)
 |.point _ k=>Mild (k ())
 |.register _ _=>True
 |.fresh k=>∀t,Mild (k t)
 |.ask k=>∀t,Mild (k t)
 |.choose _ _ k=>∀t,Mild (k t)
 |.stack k=>∀l,Mild (k l)
 |.handled _ k=>∀l,Mild (k l)
 |.thread k=>∀l,Mild (k l)
 |_=>False
theorem Mild.strong{α:Type}:∀ {t:Sem α},Mild t->∀ {Q:α->Pos->Shared->Prop} {E:Value->Pos->Shared->Prop} {p:Pos} {s:Shared},Sem.wp M Γ t Q E p s ->
  ∀ {h0:Heap},Hd h0 s.heap->Sem.wp M Γ t (fun a p s'=>Q a p s'/\Hd h0 s'.heap) (fun e p s'=>E e p s'/\Hd h0 s'.heap) p s
 |.pure _,_,_,_,_,_,h,_,x=>⟨h,x⟩
 |.raise _,_,_,_,_,_,h,_,x=>⟨h,x⟩
 |.unsupported _,_,_,_,_,_,h,_,_=>h
 |.finish _,_,_,_,_,_,h,_,_=>h
 |.rule _ k,m,_,_,_,_,h,_,x=>Mild.strong (t:=k ()) m h x
 |.at _ k,m,_,_,_,_,h,_,x=>Mild.strong (t:=k ()) m h x
 |.load _ _ k,m,_,_,_,_,h,_,x=>let ⟨o,q,h⟩:=h;⟨o,q,Mild.strong (t:=k o) (m o) h x⟩
 |.update a _ f k,m,_,_,_,_,h,_,x=>⟨h.1,Mild.strong (t:=k ()) m.2 h.2 (x.trans (Hd.update _ a f m.1))⟩
 |.alloc o k,m,_,_,_,_,h,_,x=>Mild.strong (t:=k _) (m _) h (x.trans (Hd.push _ o))
 |.loadIfAlive _ k,m,_,_,_,_,h,_,x=>Mild.strong (t:=k _) (m _) h x
 |.point _ k,m,_,_,_,_,h,_,x=>Mild.strong (t:=k ()) m h x
 |.register _ _,_,_,_,_,_,h,_,_=>h
 |.fresh k,m,_,_,_,_,h,_,x=>Mild.strong (t:=k _) (m _) h x
 |.ask k,m,_,_,_,_,h,_,x=>Mild.strong (t:=k _) (m _) h x
 |.choose _ _ k,m,_,_,_,_,h,_,x=>⟨h.1,Mild.strong (t:=k _) (m _) h.2 x⟩
 |.stack k,m,_,_,_,_,h,_,x=>Mild.strong (t:=k _) (m _) h x
 |.handled _ k,m,_,_,_,_,h,_,x=>Mild.strong (t:=k _) (m _) h x
 |.thread k,m,_,_,_,_,h,_,x=>Mild.strong (t:=k _) (m _) h x
 |.os ..,m,_,_,_,_,_,_,_=>m.elim
 |.call ..,m,_,_,_,_,_,_,_=>m.elim
 |.newGen ..,m,_,_,_,_,_,_,_=>m.elim
 |.genState ..,m,_,_,_,_,_,_,_=>m.elim
 |.resume ..,m,_,_,_,_,_,_,_=>m.elim
 |.yield ..,m,_,_,_,_,_,_,_=>m.elim
 |.fork ..,m,_,_,_,_,_,_,_=>m.elim
 |.await ..,m,_,_,_,_,_,_,_=>m.elim
theorem Mild.any{α:Type}{M:Model}{t:Sem α}(m:Mild t){Q:α->Shared->Prop}(h:wpAny M A t Q E s):wpAny M A t (fun a s'=>Q a s'/\Hd s.heap s'.heap) (fun e s'=>E e s'/\Hd s.heap s'.heap) s :=
 fun Γ p i=>m.strong (h Γ p i) (Hd.refl _)
theorem Mild.bind{α β:Type}:∀ {t:Sem α} {k:α->Sem β},Mild t->(∀a,Mild (k a))->Mild (t >>= k)
 |.pure a,_,_,h=>h a
 |.raise _,_,_,_=>trivial
 |.unsupported _,_,_,_=>trivial
 |.finish _,_,_,_=>trivial
 |.rule _ k,_,m,h=>Mild.bind (t:=k ()) m h
 |.at _ k,_,m,h=>Mild.bind (t:=k ()) m h
 |.load _ _ k,_,m,h=>fun o=>Mild.bind (t:=k o) (m o) h
 |.update _ _ f k,_,m,h=>⟨m.1,Mild.bind (t:=k ()) m.2 h⟩
 |.alloc _ k,_,m,h=>fun o=>Mild.bind (t:=k o) (m o) h
 |.loadIfAlive _ k,_,m,h=>fun o=>Mild.bind (t:=k o) (m o) h
 |.point _ k,_,m,h=>Mild.bind (t:=k ()) m h
 |.register _ _,_,_,_=>trivial
 |.fresh k,_,m,h=>fun o=>Mild.bind (t:=k o) (m o) h
 |.ask k,_,m,h=>fun o=>Mild.bind (t:=k o) (m o) h
 |.choose _ _ k,_,m,h=>fun o=>Mild.bind (t:=k o) (m o) h
 |.stack k,_,m,h=>fun o=>Mild.bind (t:=k o) (m o) h
 |.handled _ k,_,m,h=>fun o=>Mild.bind (t:=k o) (m o) h
 |.thread k,_,m,h=>fun o=>Mild.bind (t:=k o) (m o) h
 |.os ..,_,m,_=>m.elim
 |.call ..,_,m,_=>m.elim
 |.newGen ..,_,m,_=>m.elim
 |.genState ..,_,m,_=>m.elim
 |.resume ..,_,m,_=>m.elim
 |.yield ..,_,m,_=>m.elim
 |.fork ..,_,m,_=>m.elim
 |.await ..,_,m,_=>m.elim
theorem aBa{α:Type}{a:α}:Mild (pure a:Sem α):=trivial
theorem aDm{α:Type}:Mild (unsupported x:Sem α):=trivial
theorem aK4:Mild (load a):=fun _=>trivial
theorem aIi:Mild stack:=fun _=>trivial
theorem aGq{i:Nat}:Mild (field v i):=by
 unfold field fieldsOf;refine Mild.bind ?_ fun l=>?_
 ·cases v<;>first |exact aDm |refine Mild.bind aK4 fun o=>?_
  cases o.data<;>first |exact aDm |exact aBa
 ·cases l[i]?<;>first |exact aDm |exact aBa
theorem aMp{i:Nat}:Mild (setField v i x):=by
 unfold setField;cases v<;>first |exact aDm |skip
 rename_i a;show Mild (updateField a i x);unfold updateField;refine Mild.bind aK4 fun o=>?_;cases o.data<;>first |exact aDm |skip
 rename_i vs;show Mild (if i<vs.size then _ else _);by_cases z:i<vs.size
 ·rw[if_pos z];exact⟨fun o=>by obtain⟨_,_,d,_⟩:=o;cases d<;>rfl,trivial⟩
 ·rw[if_neg z];exact aDm
theorem aMg:∀l:List Env,Mild (readyFrames l)
 |[]=>aBa
 | env::r=>by
  unfold readyFrames;cases env.frame with
  |none=>exact aDm
  | some f =>
   refine Mild.bind aK4 fun o=>?_;by_cases z:((o.slots.getD 3 none).isSome)=true
   ·rw[if_pos z];exact aBa
   ·rw[if_neg z];refine Mild.bind ?_ fun b=>Mild.bind ?_ fun c=>Mild.bind ⟨fun o=>rfl,trivial⟩ fun _=>aMg r
    ·unfold behindIsImport;by_cases z1:(env.scope.kind != ScopeKind.module||r.isEmpty)=true
     ·simp only[z1,if_true];exact aBa
     ·simp only[z1];by_cases z2:(env.code==Value.none)=true
      ·simp only[z2,if_true];exact aBa
      ·simp only[z2];exact Mild.bind aGq fun _=>aBa
    ·cases r with
     | nil =>
      simp only[keptBack];by_cases z1:(env.scope.isGenerator||env.scope.isCoroutine)=true
      ·simp only[z1,if_true];exact aBa
      ·simp only[z1];refine Mild.bind ?_ fun _=>aBa;unfold underTheClaimsCaller;exact Mild.bind aIi fun _=>aBa
     |cons _ _=>exact aBa
theorem aXy:Mild (frameOf env):=by
 unfold frameOf frameEnvs;refine Mild.bind (Mild.bind aIi fun _=>aBa) fun l=>Mild.bind ?_ fun o=>?_
 ·generalize List.dropWhile _ l=q;cases q with
  |nil=>exact aBa
  |cons a b=>exact Mild.bind (aMg _) fun _=>aBa
 ·cases o<;>first |exact aDm |exact aBa
theorem aG4:Mild (setFlight v f):=by
 unfold setFlight;refine Mild.bind aGq fun x=>?_;by_cases z:(x != Value.none)=true
 ·rw[if_pos z];exact aMp
 ·rw[if_neg z];exact aBa
theorem aYc:Mild (EntryCells.newEntry a b c d e l):=by
 unfold EntryCells.newEntry newFields newObj;dsimp only;by_cases z:([a,b,c,d,e]++if l.isEmpty=true then List.replicate 6 Value.none else l).toArray.size > sizeLine+2
 ·simp only[z,if_true];exact aDm
 ·simp only[z,if_false];unfold newObjAsIs;exact fun _=>aBa
theorem aSp:Mild (noteFrame v env):=by
 unfold noteFrame;cases env.frame with
 |none=>exact aDm
 | some f =>
  have tail:∀x:Value,Mild (do let fr <-frameOf env;let pl <-entryPlaceOf f (x != .none);let b <-EntryCells.newEntry x fr .none (rawInt f) .none pl;setField v 1 b):=fun x=>by refine Mild.bind aXy fun fr=>Mild.bind ?_ fun pl=>Mild.bind aYc fun b=>aMp;unfold entryPlaceOf;refine Mild.bind aIi fun acts=>?_;split<;>exact aBa
  refine Mild.bind aGq fun x=>?_;by_cases z:(x != Value.none)=true
  ·simp only[z,if_true];refine Mild.bind aGq fun y=>?_;split
   ·exact aBa
   ·have:=tail x;rw[z] at this;exact Mild.bind aMp fun _=>this
  ·have:=tail x;simp only[z] at this |-;exact this
theorem aMd:Mild (leaving env v):=Mild.bind aSp fun _=>aG4
end L2.Ds
namespace L2.Ds
open PySem PySem.Spec PyProof.Rows
section
variable {P:Program}{w:World}{H H' Hc:Hp}{h h' hc B:Heap}{a:Addr}{o:HO}{fs:List Addr}
theorem has_obj(x:aCr P w H h a o):∃ob,h.get? a=some ob:=by
 cases o with
 |lst xs=>obtain⟨_,_,_,_,e⟩:=x;exact⟨_,e⟩
 |tol xs=>obtain⟨_,_,_,_,e⟩:=x;exact⟨_,e⟩
 |tup xs=>obtain⟨_,_,_,ob,e,_⟩:=x;exact⟨_,e⟩
 |dK kvs=>obtain⟨_,_,_,_,ob,_,_,e,_⟩:=x;exact⟨_,e⟩
 |dT kvs=>obtain⟨_,_,_,_,ob,_,_,e,_⟩:=x;exact⟨_,e⟩
 |dR ks=>obtain⟨_,_,_,_,ob,_,_,e,_⟩:=x;exact⟨_,e⟩
 |set S n=>obtain⟨ob,_,_,_,e,_⟩:=x;exact⟨_,e⟩
 |ins C dx fs=>obtain⟨_,_,_,e,_⟩:=x;exact⟨_,e⟩
 |own y=>exact x
 |xd fs=>obtain⟨_,⟨ob,_,_,e,_⟩,_⟩:=x;exact⟨_,e⟩
 |rng lo hi=>obtain⟨_,_,_,e⟩:=x;exact⟨_,e⟩
 |frz ob u=>obtain⟨e,_⟩:=x;exact⟨_,e⟩
 |tbl ps=>exact⟨_,(show h.get? a=some _ from x)⟩
 |met f y=>exact⟨_,(show h.get? a=some _ from x)⟩
 |ext φ=>obtain⟨_,e,_⟩:=x;exact e
def Kept(fs:List Addr)(hc:Heap)(H':Hp)(h B:Heap):Prop:=∀b o,h.get? b=some o->b∉fs->(H' b≠none\/hc.get? b≠none)->B.get? b=some o
theorem flown(u:Un fs [] Hc H' hc h)(hok:HOk P w H' h)(kp:Kept fs hc H' h B)(st:B.StaysIn h')(up:h.UpToSlots h')(hf:∀b∈fs,H' b=none/\∀o,h.get? b=some o->∀vs,o.data ≠ .fields vs) :
  Un fs [] Hc H' hc h'/\HOk P w H' h'/\Kept fs hc H' h' B:=by
 have tr:∀b u,H' b=some u->∃ob,h.get? b=some ob/\h'.get? b=some ob/\B.get? b=some ob:=fun b u e=>by obtain⟨ob,q⟩:=has_obj (hok b u e);have q2:=kp b ob q (fun z=>by rw[(hf b z).1] at e;cases e) (.inl (by rw[e];simp));exact⟨ob,q,st b ob q2,q2⟩
 refine⟨⟨fun b o q n hb hx=>?_,fun b o q n hb hx=>?_,fun b o q n hx=>u.free b o q n hx,fun b o q hx=>?_,u.tups,u.frzs,u.tbls⟩,fun c v e=>?_,fun b o q hb hh=>?_⟩
 ·exact st b o (kp b o (u.keep b o q n hb hx) hb (.inr (by rw[q];simp)))
 ·obtain⟨sl,e⟩:=u.slot b o q n hb hx;obtain⟨sl',e'⟩:=up b _ e ((hf b hb).2 _ e);exact⟨sl',e'⟩
 ·obtain⟨o',e⟩:=u.there b o q hx;by_cases hb:b∈fs
  ·obtain⟨sl',e'⟩:=up b _ e ((hf b hb).2 _ e);exact⟨_,e'⟩
  ·exact⟨o',st b o' (kp b o' e hb (.inr (by rw[q];simp)))⟩
 ·refine(hok c v e).stay (fun b x hb hx=>?_) (fun _ z=>z) fun _ _ z=>z;have ⟨y,hy⟩:∃y,H' b=some y:=by
   rcases hb with rfl |hb
   ·exact⟨v,e⟩
   ·exact⟨_,hb⟩
  obtain⟨ob,q1,q2,_⟩:=tr b y hy;rw[q1] at hx;cases hx;exact q2
 ·rcases hh with hh |hh
  ·cases e:H' b with
   |none=>exact absurd e hh
   | some y =>
    obtain⟨ob,q1,q2,q3⟩:=tr b y e;rw[q2] at q;cases q;exact q3
  ·cases e:hc.get? b with
   |none=>exact absurd e hh
   | some y =>
    obtain⟨o',e'⟩:=u.there b y e ZR;have q2:=kp b o' e' hb (.inr hh);rw[st b o' q2] at q;cases q;exact q2
theorem Un.same:Un fs [] H H h h:=⟨fun _ _ q _ _ _=>q,fun b o q _ _ _=>⟨o.slots,q⟩,fun _ _ _ n _=>n,fun b o q _=>⟨o,q⟩,fun _ _ q=>q,fun _ _ _ q=>q,fun b ps q=>⟨#[],by rw[q];simp⟩⟩
end
def CXR(P:Program)(w:World):CXT:=fun outer H s E e s'=>∃ (a C:Addr) (H':Hp) (B:Heap) (t:Addr),e = .ref a/\s'.os=s.os/\AllBare s'.gens/\Un (frs outer) [] H H' s.heap s'.heap/\HOk P w H' s'.heap /\
 Heap.FlyingW B outer a (.ref C) (.ref t) s'.heap/\Kept (frs outer) s.heap H' s'.heap B/\(∀o,s'.heap.get? a=some o->o.dict=none)/\E (.ref C) none H'
def Exc(fl:Bool)(X:Cx)(pins:List ZH)(H':Hp)(s:Shared)(e C:Addr):Prop:=∃ (σ:St) (Hc:Hp) (sc:Shared) (h:Heap),Inv X pins σ Hc sc/\s.os=sc.os/\AllBare s.gens/\Un (frs X.stack) [] Hc H' sc.heap h/\HOk X.prog X.w H' h /\
 ((h=s.heap/\∃B t,Heap.FlyingW B X.stack e (.ref C) (.ref t) h/\Kept (frs X.stack) sc.heap H' h B/\∀o,h.get? e=some o->o.dict=none)\/(fl=false/\∃vs,Heap.MadeExcOf h s.heap e (.ref C) vs))
theorem Exc.weak{fl:Bool}(x:Exc true X pins H' s e C):Exc fl X pins H' s e C:=by
 obtain⟨σ,Hc,sc,h,a1,a2,a3,a4,a5,a6⟩:=x;refine⟨σ,Hc,sc,h,a1,a2,a3,a4,a5,?_⟩;rcases a6 with a6 |⟨z,_⟩
 ·exact .inl a6
 ·cases z
section
variable {X:Cx}{pins:List ZH}{σ:St}{H H':Hp}{s:Shared}{h:Heap}
theorem aK5(I:Inv X pins σ H s)(u:Un (frs X.stack) [] H H' s.heap h):∀b∈frs X.stack,H' b=none/\∀o,h.get? b=some o->∀vs,o.data ≠ .fields vs:=fun b hb=>by obtain⟨_,o,ho,hd⟩:=I.stack.mem hb;refine⟨u.free b o ho (I.stkFree b hb) ZR,fun o' e vs q=>?_⟩;obtain⟨sl,e'⟩:=u.slot b o ho (I.stkFree b hb) hb ZR;rw[e'] at e;cases e;exact hd vs q
theorem leave_ok(hX:X.stack=X.env::outer)(hfs:X.outer=outer)(hex:X.ex = [])(hf:X.env.frame=some X.env.locals)(x:Exc false X pins H' s e C)(hE:E (.ref C) none H') :
  wpAny ZC X.A (leaving X.env (.ref e)) (fun _ s''=>CXR X.prog X.w outer X.H₀ X.s₀ E (.ref e) s'') (fun e' s''=>CXR X.prog X.w outer X.H₀ X.s₀ E e' s'') s:=by
 obtain⟨σ,Hc,sc,h,I,os,bare,u,hok,hh⟩:=x;have fr:X.A.frames=some (X.env::outer):=by rw[<-hX];exact I.ok.frames
 have fo:=aK5 I u;have fin:∀ (B:Heap) (t:Addr) (h':Heap),Kept (frs X.stack) sc.heap H' h B->h.UpToSlots h'->Heap.FlyingW B outer e (.ref C) (.ref t) h'->(∀o,h'.get? e=some o->o.dict=none)->CXR X.prog X.w outer X.H₀ X.s₀ E (.ref e) { s with heap:=h' }:=fun B t h' kp up fl dn=>by
  obtain⟨u2,hok2,kp2⟩:=flown u hok kp fl.1 up fo;have I2:Inv X pins σ H' { s with heap:=h' }:=I.call' (s':={ s with heap:=h' }) os u2 hok2 bare (fun b z=>absurd z ZR);have ub:=I2.base;rw[hex,show X.fs=frs outer by rw[<-hfs]] at ub;refine⟨e,C,H',B,t,rfl,I2.os,bare,ub,hok2,fl,fun b o q hb hh=>?_,dn,hE⟩;have nf:b∉frs X.stack:=fun z=>by
   rw[hX] at z;have z:b∈(X.env::outer).filterMap (·.frame):=z;rw[fh,hf] at z;rcases bf.mp z with rfl |z
   ·rcases hh with hh |hh
    ·exact hh I2.free
    ·cases e1:X.s₀.heap.get? X.env.locals with
     |none=>exact hh e1
     |some y=>exact absurd (bj (ai e1) I2.ok.above) (fu _)
   ·exact hb z
  refine kp2 b o q nf (hh.imp id fun hh z=>?_);cases e1:X.s₀.heap.get? b with
  |none=>exact hh e1
  | some y =>
   obtain⟨o',e2⟩:=I.base.there b y e1 (by rw[hex];simp);rw[z] at e2;cases e2
 rcases hh with ⟨rfl,B,t,fl,kp,dn⟩ |⟨_,vs,mk⟩
 ·rw[hX] at fl;obtain⟨ob,hob,_⟩:=fl.there;refine wpAny_mono (aMd.any (wpAny_leaves_onW (Q:=fun _ s''=>∃h',s'' = { s with heap:=h' }/\Heap.FlyingW B outer e (.ref C) (.ref t) h'/\s.heap.UpToSlots h') (E:=fun _ _=>False) fr hf fl fun h' f2 up=>⟨h',rfl,f2,up⟩)) (fun _ s'' ⟨⟨h',q1,f2,up⟩,hd⟩=>?_) fun _ _ z=>z.1.elim;subst q1;exact fin B t h' kp up f2 fun o q=>(hd.get hob q).trans (dn ob hob)
 ·have I1:Inv X pins σ H' { sc with heap:=h }:=I.call' (s':={ sc with heap:=h }) rfl u hok I.bare (fun b z=>absurd z ZR);have hin:∀env∈X.stack,∀b,env.frame=some b->b∈frs X.stack:=fun env he b hb=>jD.mpr ⟨env,he,hb⟩;have ff:Heap.FunFrames h (W.hideAll h (frs X.stack)) (X.env::outer):=by have z:=W.funFrames_hide (as:=frs X.stack) I1.stack hin;generalize frs X.stack=q at z |-;rw[hX] at z;exact z
  obtain⟨_,hob,_⟩:=mk.there;refine wpAny_mono (aMd.any (wpAny_leaves_madeW (Q:=fun _ s''=>∃h' t,s'' = { s with heap:=h' }/\Heap.FlyingW (W.hideAll h (frs X.stack)) outer e (.ref C) (.ref t) h'/\s.heap.UpToSlots h') (E:=fun _ _=>False) fr hf (fun b o q=>W.of_hideAll _ q) ff mk fun h' t f1 _ _ up=>⟨h',t,rfl,f1,up⟩)) (fun _ s'' ⟨⟨h',t,q1,f1,up⟩,hd⟩=>?_) fun _ _ z=>z.1.elim;subst q1;exact fin _ t h' (fun b o q hb _=>W.hideAll_get _ q hb) ((Heap.UpToSlots.of_keeps mk.keeps).trans up) f1 fun o q=>hd.get hob q
end
def rX(fl:Bool)(X:Cx)(B:Hp)(tw:Addr)(ρ:En)(n:Nat)(c n':Nat)(σ:St)(H:Hp):Prop:=Rel X.K B tw ρ n σ H /\
 ∀pins e C H' s',Exc fl X pins H' s' e C->Fx H H'->Ext tw B H'->Tn tw n' H'->X.mg (cnm c)=some (.ref C)->X.xe (.ref e) s'
def XE(fl:Bool)(X:Cx)(tw:Addr)(e:Expr)(d:DX):Prop:=∀B ρ n c n',d ρ n=some (c,n')->PE X e (fun σ H _=>rX fl X B tw ρ n c n' σ H)
def XS(fl:Bool)(X:Cx)(tw:Addr)(st:Stmt)(d:DX):Prop:=∀B ρ n c n',d ρ n=some (c,n')->PS X st (fun _ σ H=>rX fl X B tw ρ n c n' σ H)
def XSs(fl:Bool)(X:Cx)(tw:Addr)(st:List Stmt)(d:DX):Prop:=∀B ρ n c n',d ρ n=some (c,n')->PSs X st (fun _ σ H=>rX fl X B tw ρ n c n' σ H)
section
variable {fl:Bool}{X:Cx}{tw:Addr}
theorem rX.step{n n1 c n':Nat}(h:rX fl X B tw ρ n c n' σ H)(x:Fx H H')(R:Rel X.K B tw ρ' n1 σ' H'):rX fl X B tw ρ' n1 c n' σ' H' :=
 ⟨R,fun pins e C H2 s' a b=>h.2 pins e C H2 s' a (x.trans b)⟩
theorem SS.lift{st:Stmt}{d:DS}(h:SS X.nox tw st d):SS X tw st d:=fun B ρ n f ρ' n' hd pins s σ H D I hw =>
 wpAny_mono (h B ρ n f ρ' n' hd pins s σ H D (I.wish _) hw) (fun _ _ q=>q.unwish) fun _ _ z=>False.elim z
theorem aCm{st:List Stmt}:XSs fl X tw st xNo:=fun B ρ n c n' hd=>by cases hd
theorem aCl{st:Stmt}{d:DX}(h:XS fl X tw st d):XSs fl X tw [st] d:=fun B ρ n c n' hd=>aY3 (h B ρ n c n' hd)
theorem aA5{st:Stmt}{sts:List Stmt}{xa xr:DX}{a:DS}(h1:XS fl X tw st xa)(h2:SS X tw st a)(h3:XSs fl X tw sts xr):XSs fl X tw (st::sts) (xSeq xa a xr):=by
 intro B ρ n c n' hd pins s σ H D I hw;unfold xSeq at hd;cases e:xa ρ n with
 | some r =>
  rw[e] at hd;cases hd;exact aFh (h1 B ρ n c n' e) aH8 pins s σ H D I hw
 | none =>
  rw[e] at hd;obtain⟨⟨f,ρ1,n1⟩,e1,e2⟩:=bind_some hd;cases f with
  |nx=>exact aFh (h2 B ρ n .nx ρ1 n1 e1) (h3 B ρ1 n1 c n' e2) pins s σ H D I ⟨hw.1,fun σ' H' x y=>hw.step x y⟩
  |_=>cases e2
theorem aLm{c:Expr}{a b:List Stmt}{dc:DT}{xa xb:DX}{pos:Pos}(hc:ST X tw c dc)(ha:XSs fl X tw a xa)(hb:XSs fl X tw b xb):XS fl X tw (.If c a b pos) (xIf dc xa xb):=by
 intro B ρ n cc n' hd pins s σ H D I hw;obtain⟨⟨x,n1⟩,e1,e2⟩:=bind_some hd;refine wpAny_If (thn (hc.run e1 I hw.1) fun y s1 ⟨ey,H1,I1,a1,R1⟩=>?_);subst ey;cases y with
 |true=>exact ha B ρ n1 cc n' e2 pins s1 σ H1 D I1 (hw.step (a1.fx hw.1.tn) R1)
 |false=>exact hb B ρ n1 cc n' e2 pins s1 σ H1 D I1 (hw.step (a1.fx hw.1.tn) R1)
theorem aCa{e:Expr}{d:DX}{pos:Pos}(h:XE fl X tw e d)(hs:autoParam (swapsWith e none pos.line X.env=pure false) az0._auto_1):XS fl X tw (.Expr e pos) d:=fun B ρ n c n' hd=>aNb (h B ρ n c n' hd) hs
theorem aH4{e:Expr}{d:DX}{pos:Pos}(h:XE fl X tw e d):XS fl X tw (.Return (some e) pos) d:=fun B ρ n c n' hd=>bB6 (h B ρ n c n' hd)
theorem xe_if{c a b:Expr}{dc:DT}{xa xb:DX}{pos:Pos}(hc:ST X tw c dc)(ha:XE fl X tw a xa)(hb:XE fl X tw b xb):XE fl X tw (.IfExp c a b pos) (xIf dc xa xb):=by
 intro B ρ n cc n' hd pins s σ H Q I hw;obtain⟨⟨x,n1⟩,e1,e2⟩:=bind_some hd;refine wpAny_IfExp (thn (hc.run e1 I hw.1) fun y s1 ⟨ey,H1,I1,a1,R1⟩=>?_);subst ey;cases y with
 |true=>exact ha B ρ n1 cc n' e2 pins s1 σ H1 Q I1 (hw.step (a1.fx hw.1.tn) R1)
 |false=>exact hb B ρ n1 cc n' e2 pins s1 σ H1 Q I1 (hw.step (a1.fx hw.1.tn) R1)
def SpX(mg:Str->Option Value)(K:W.Frag)(tw:Addr)(ar:Nat)(f:FnX):Sp:=fun vs H _ E=>vs.length=ar/\Tb K H/\∃ts n c n',Args K tw H ts vs/\Tn tw n H/\f ts n=some (c,n') /\
 ∀C H',mg (cnm c)=some (.ref C)->Ext tw H H'->Tn tw n' H'->E (.ref C) none H'
theorem fnx_ok{P:Program}{w:World}{K:W.Frag}{mg:Str->Option Value}{base:Heap}{x qual:Str}{st:Stmt}{f:Addr}{fd:FuncData}{N ps:List Str}{lv:Nat}{xb:DX}(F:Fun K x qual st f fd)(S:FnScope N ps (aAp st))
  (hbody:∀ (cdv:Value) (A:Around) (outer:List Env) (s:Shared) (H:Hp) (E:XK),Room lv (A.deeper (envOfC qual (aAp st) s.heap.objs.size f cdv))->XSs false (cxOf (CXR P w) P w K mg base N qual (aAp st) f cdv A outer s H E) tw (aCg st) xb) :
  FnOk P w K mg base (CXR P w) (lv+1) f fd ps (SpX mg K tw ps.length (fnX N.length xb)):=by
 obtain⟨oc,od,kV,doc,pm,an,cdv,ct,osl,rfl,lk,hcd⟩:=F.ex;refine fn_of lk hcd S (fun vs H Q E h=>h.1) fun A outer s H vs Q E hr h=>?_;obtain⟨hl,tb,ts,n,c,n',a,tn,e,k⟩:=h;refine⟨_,hbody cdv A outer s H E hr H _ n c n' e,aKn a tb tn,fun pins ea C H' s' x _ x2 x3 x4=>?_⟩;exact leave_ok (X:=cxOf (CXR P w) P w K mg base N qual (aAp st) f cdv A outer s H E) rfl rfl rfl rfl x (k C H' x4 x2 x3)
theorem x_run{lv:Nat}{ar c n1 n':Nat}(F:FnOk X.prog X.w X.K X.mg X.base (CXR X.prog X.w) lv fa fd ps (SpX X.mg X.K tw ar f))(hr:Room lv X.A)(hb:Binds X.K fd ps [])
  (I1:Inv X pins σ H1 s1) (r:Vals vs us) (tb:Tb X.K H1) (y1:Tn tw n1 H1) (z1:Args X.K tw H1 ts vs) (hl:ts.length=ar) (e2:f ts n1=some (c,n')) (k:∀e C H' s',Exc true X pins H' s' e C->Ext tw H1 H'->Tn tw n' H'->X.mg (cnm c)=some (.ref C)->X.xe (.ref e) s') :
  wpAny ZC X.A (call (.ref fa) us) Q X.xe s1:=by
 have hsp:SpX X.mg X.K tw ar f vs H1 (fun _ _=>False) (fun cl _ H'=>∃C,cl = .ref C/\X.mg (cnm c)=some (.ref C)/\Ext tw H1 H'/\Tn tw n' H'):=⟨z1.length▸hl,tb,ts,n1,c,n',z1,y1,e2,fun C H' q1 q2 q3=>⟨C,rfl,q1,q2,q3⟩⟩
 have hlen:us.length=ps.length:=by rw[<-r.length];exact F.len _ _ _ _ hsp
 have hb':=hb s1 us I1.kIn (by simpa using hlen);rw[gX] at hb';refine wpAny_call (codeAny_mono (F.run X.A X.stack s1 H1 ⟨us,[]⟩ us vs _ _ hr I1.env0 hb' r hsp) fun rr s' hq=>?_);cases rr with
 | error ev =>
  obtain⟨ea,C,H2,BB,t,rfl,os,bare,u,hok,fly,kp,dn,C',q1,q2,q3,q4⟩:=hq;cases q1;exact k ea C H2 s' ⟨σ,H1,s1,s'.heap,I1,os,bare,u,hok,.inl ⟨rfl,BB,t,fly,kp,dn⟩⟩ q3 q4 q2
 | ok fl' =>
  cases fl' with
  |ret u=>obtain⟨_,_,_,_,_,_,_,q⟩:=hq;exact q.elim
  |next=>exact False.elim hq
  |brk=>exact False.elim hq
  |cont=>exact False.elim hq
theorem xe_call{f:FnX}{lv:Nat}{fa:Addr}{fd:FuncData}{ps:List Str}{x:Str}{p pos:Pos}{e:Expr}{es:List Expr}{a:DB}{ar:Nat}(F:FnOk X.prog X.w X.K X.mg X.base (CXR X.prog X.w) lv fa fd ps (SpX X.mg X.K tw ar f))(hr:Room lv X.A)(hm:X.mg x=some (.ref fa))(hk:W.keepIn X.K (.ref fa)=true)
  (hb:Binds X.K fd ps []) (ha:SB X tw (e::es) a) (hg:autoParam (Gl X x) az0._auto_1) (hdb:autoParam ZL az1._auto_1) (he:autoParam ZG az0._auto_1)
  (hpl:autoParam ((backTo pos (starEach es X.env)).any (·.1)=false) az0._auto_1):XE fl X tw (.Call (.Name x p) (e::es) [] pos) (aAy ar f a):=by
 intro B ρ n c n' hd pins s σ H Q I ⟨R,k⟩;obtain⟨⟨ts,n1⟩,e1,e2⟩:=bind_some hd;by_cases hl:ts.length=ar
 ·rw[if_pos hl] at e2;refine wpAny_Call_Name_kw (aG9 I hg hm ?_ hdb);refine W.callWith_K (h₀:=X.base) I.ok.mod.kin hk (thn (ha B ρ n ts n1 e1 pos pins s σ H (fun vs H'=>Ext tw H H'/\Tn tw n1 H'/\Args X.K tw H' ts vs) I ⟨R,fun vs H' x y z=>⟨x,y,z⟩⟩) fun us s1 ⟨vs,H1,I1,r,x1,y1,z1⟩=>⟨I1.kIn,?_⟩) he hpl;exact x_run F hr hb I1 r (R.btn.2.ext (R.ext.trans x1)) y1 z1 hl e2 fun e C H' s' x q3 q4 q2=>k pins e C H' s' x.weak ((x1.trans q3).fx R.tn) ((R.ext.trans x1).trans q3) q4 q2
 ·rw[if_neg hl] at e2;cases e2
end
def rV(K:W.Frag)(B:Hp)(tw:Addr)(ρ:En)(n n':Nat):TE:=fun σ H Q=>Rel K B tw ρ n σ H/\∀v H',Ext tw H H'->Tn tw n' H'->Q v H'
def SV(X:Cx)(tw:Addr)(e:Expr)(d:DV):Prop:=∀B ρ n n',d ρ n=some n'->PE X e (rV X.K B tw ρ n n')
def SJ(X:Cx)(tw:Addr)(k:Nat)(es:List Expr)(d:DV):Prop:=∀B ρ n n',d ρ n=some n'->∀ (acc:Str) (pins:List ZH) (s:Shared) (σ:St) (H:Hp) (Q:V->Hp->Prop),acc.length<=1000*k->Inv X pins σ H s->Rel X.K B tw ρ n σ H->(∀v H',Ext tw H H'->Tn tw n' H'->Q v H') ->
 wpAny ZC X.A (joinParts acc (evalEach es X.env)) (EP X pins σ Q) X.xe s
section
variable {fl:Bool}{X:Cx}{tw:Addr}
theorem bB5{j pos}:SV X tw (.Constant (.str x) j pos) vK:=fun B ρ n n' hd pins s σ H Q I ⟨R,k⟩=>by cases hd;exact bBz pins s σ H Q I (k _ H (.refl _ _) R.tn)
theorem sj_nil{k:Nat}(hk:k<=100):SJ X tw k [] vK:=fun B ρ n n' hd acc pins s σ H Q ha I R q=>by cases hd;refine joinParts_nil ⟨.str acc,H,I.tok _,⟨_,rfl⟩,q _ H (.refl _ _) R.tn⟩ (aq ha ?_);rw[sizeLine_eq];omega
theorem aJu{a b:Str}{k:Nat}(h1:a.length<=1000*k)(h2:b.length<=1000)(hk:k+1<=100):(a++b).length<=1000*(k+1)/\(a++b).length<=sizeLine:=by rw[strLen_append,sizeLine_eq];omega
theorem sj_str{k:Nat}{j pos}(h:SJ X tw (k+1) es d)(hk:autoParam (k+1<=100) az1._auto_1)(hx:autoParam (x.length<=1000) az1._auto_1):SJ X tw k (.Constant (.str x) j pos::es) d:=fun B ρ n n' hd acc pins s σ H Q ha I R q=>by
 show wpAny _ _ (joinParts acc (eval (.Constant (.str x) j pos) X.env::evalEach es X.env)) _ _ s;refine joinParts_cons (thn (bBz pins s σ H (fun v H'=>v = .str x/\H'=H) I ⟨rfl,rfl⟩) fun u s1 ⟨v,H1,I1,r,e1,e2⟩=>?_);subst e1 e2;obtain⟨t,rfl⟩:=(show ∃t,u = .str x t from r)
 exact⟨(aJu ha hx hk).2,h B ρ n n' hd _ pins s1 σ _ Q (aJu ha hx hk).1 I1 R q⟩
theorem sj_int{k:Nat}(he:SE X tw e de)(h:SJ X tw (k+1) es d)(hk:autoParam (k+1<=100) az1._auto_1):SJ X tw k (.FormattedValue e (-1) none pos::es) (vI de d):=fun B ρ n n' hd acc pins s σ H Q ha I R q=>by
 obtain⟨⟨t,m,n1⟩,e1,e2⟩:=bind_some hd;have ⟨i,et,hs,e3⟩:∃i,t = .int i/\small i=true/\d ρ n1=some n':=by
  cases t with
  | int i =>
   have e2:(if small i=true then d ρ n1 else none)=some n':=e2;by_cases z:small i=true
   ·rw[if_pos z] at e2;exact⟨i,rfl,z,e2⟩
   ·rw[if_neg z] at e2;cases e2
  |_=>cases e2
 subst et;show wpAny _ _ (joinParts acc (eval (.FormattedValue e (-1) none pos) X.env::evalEach es X.env)) _ _ s;refine joinParts_cons (FormattedValue_plain (thn (he.run e1 I R) fun u s1 ⟨v,H1,I1,r1,a1,R1,c1⟩=>?_));have rt:=c1.root R1 R.tn;have rt:Rep tw H1 (.int i) v:=rt;rw[Rep] at rt;subst rt;obtain⟨tk,rfl⟩:=(show ∃t,u = .int i t from r1)
 have hl:i.natAbs.log2<1920:=by
  have h1:i.natAbs<2^64:=of_decide_eq_true hs;by_cases z:i.natAbs=0
  ·rw[z];decide
  ·have:=(Nat.log2_lt z).mpr h1;omega
 have hlen:(Str.ofString (toString i)).length<=1000:=by have h1:i.natAbs<10^20:=bj (of_decide_eq_true hs) ZA;have h2:=int_text_length_le10 (k:=20) ZA h1;rw[PySem.ofString_length];omega
 refine formatField_int_small hl ?_;have I2:Inv X pins σ H1 { s1 with toks:=s1.toks+1+1 }:=I1.tok _;exact⟨(aJu ha hlen hk).2,h B ρ n1 n' e3 _ pins _ σ H1 Q (aJu ha hlen hk).1 I2 R1 fun v H' x y=>q v H' (a1.trans x) y⟩
theorem sv_join(h:SJ X tw 0 (a::b::es) d):SV X tw (.JoinedStr (a::b::es) pos) d:=fun B ρ n n' hd pins s σ H Q I ⟨R,k⟩ =>
 JoinedStr_many (h B ρ n n' hd Str.empty pins s σ H Q ZA I R k)
abbrev excMro:List Value:=[.type "ValueError",.type "Exception",.type "BaseException",.type "object"]
theorem exc_obj{K:W.Frag}{h:Heap}{C:Addr}{bs0:List Value}{id0:String}(kin:K.In h)(z:W.excIn K C bs0 id0=true) :
  ∃tl N nm qn bs hd sn sub ab col dd k0 k1 k2 k3 k5,h.get? C=some (excClassObj nm qn C N bs tl hd sn sub ab col dd k0 k1 k2 k3 k5 id0)/\(∃mN,h.Ns N mN/\mN "__init__" = none)/\OwnTail h bs0 tl:=by
 unfold W.excIn at z;cases lk:K.lookup C with
 |none=>rw[lk] at z;cases z
 | some ob =>
  rw[lk] at z;obtain⟨oc,dd,od,sl⟩:=ob;have key:=kin _ _ lk;split at z
  ·rename_i d1 c1 s1 e1;cases e1;split at z
   ·rename_i C1 tl a0 a1 a2 a3 id1 a5 m1 l1;obtain⟨cn,cb,cm,cs,cq,ch,cw,cu,ca,co,cx⟩:=c1;simp only[bo,beq_iff_eq,Bool.not_eq_true'] at z;obtain⟨⟨⟨⟨⟨z1,z2⟩,z3⟩,z4⟩,z5⟩,z6⟩:=z;dsimp only at m1 z3 z5 z6;subst z1 z2 z3 m1;have hsl:sl = #[a0,a1,a2,a3,some (.builtin id1),a5]:=by
     cases sl with
     |mk l=>exact congrArg Array.mk l1
    subst hsl;exact⟨tl,cs,cn,cq,cb,ch,cw,cu,ca,co,dd,a0,a1,a2,a3,a5,key,⟨_,.of_isNs (W.isNs_of_in kin z5),W.nsMap_none_of_in kin z5 z6⟩,W.tail_of_in kin z4⟩
   ·cases z
  ·cases z
theorem aJv{c:Nat}{C:Addr}{e:Expr}{d:DV}{x:Str}{np cpos pos:Pos}(hc:X.calm=true)(he:SV X tw e d)(hm:X.mg x=some (.ref C))(hx:x=cnm c)(q:W.excIn X.K C excMro "ValueError.__new__" = true)(hg:autoParam (Gl X x) az0._auto_1)(hdb:autoParam ZL az1._auto_1)
  (hs:autoParam (starEach [e] X.env = [(false,eval e X.env)]) az0._auto_1):XS false X tw (.Raise (some (.Call (.Name x np) [e] [] cpos)) none pos) (aIf c d):=by
 intro B ρ n c' n' hd pins s σ H D I ⟨R,k⟩;obtain⟨n1,e1,e2⟩:=map_some hd;cases e2;obtain⟨tl,N,nm,qn,bs,hdd,sn,sub,ab,col,dd,k0,k1,k2,k3,k5,hC,⟨mN,hN,hni⟩,T⟩:=exc_obj I.mod.kin q;refine wpAny_Raise_call_subT (C:=C) (nm:=nm) (q:=qn) (N:=N) (bs:=bs) (bm:=tl) (hdct:=hdd) (sn:=sn) (sub:=sub) (ab:=ab) (col:=col) (dd:=dd) (k0:=k0) (k1:=k1) (k2:=k2) (k3:=k3) (k5:=k5)
  PySem.F.excBase_ValueError (mN:=mN) (T.hasType PySem.F.excBase_ValueError.hasBase) (I.ok.hd hc) (by rw[hs];rfl) hni (aG9 I hg hm ⟨rfl,?_⟩ hdb)
 rw[hs];refine gU (br (thn (he B ρ n n' e1 pins s σ H (fun v H'=>Ext tw H H'/\Tn tw n' H') I ⟨R,fun v H' x y=>⟨x,y⟩⟩) fun u s1 ⟨v,H1,I1,r1,x1,y1⟩=>dq ?_));refine⟨rfl,(show 1<=sizeLine by rw[sizeLine_eq];decide),I1.bk _ _ hC,hN.keeps I1.bk,T.keeps I1.bk,fun h' ea mk=>?_⟩;exact k pins ea C H1 { s1 with heap:=h' } ⟨σ,H1,s1,s1.heap,I1,rfl,I1.bare,Un.same,I1.hok,.inr ⟨rfl,_,mk⟩⟩ (x1.fx R.tn) (R.ext.trans x1) y1 (hx▸hm)
end
abbrev aG7(X:Cx)(e:Value)(p:List ZH):Cx:={ X with A:=X.A.mark (some e),calm:=false,xe:=fun _ _=>False,pn:=p }
abbrev aV2(X:Cx)(E:Value->Shared->Prop)(p:List ZH):Cx:={ X with xe:=E,pn:=p }
section
variable {X:Cx}{pins:List ZH}{σ:St}{H H':Hp}{s:Shared}{e C:Addr}{E E':Value->Shared->Prop}{Q:Unit->Shared->Prop}
theorem into_try(I:Inv X pins σ H s)(E:Value->Shared->Prop):Inv (aV2 X E (X.pn++pins)) [] σ H s :=
 ⟨⟨I.ok.mod,I.ok.kind,I.ok.glob,I.ok.blt,I.ok.above,I.ok.inj,I.ok.has,I.ok.cab,I.ok.hd,I.ok.frames,I.ok.stk,I.ok.exf,I.ok.bs,I.ok.bsz,I.ok.noex,I.ok.exfs,I.ok.funs,I.ok.frf⟩,I.os,I.bare,I.base,I.loc,I.cell,I.free,I.freeC,fun p hp=>I.pin p (by simpa using hp),I.hok,I.len⟩
theorem aKr(I:Inv (aV2 X E (X.pn++pins)) pins' σ H s):Inv X pins σ H s :=
 ⟨⟨I.ok.mod,I.ok.kind,I.ok.glob,I.ok.blt,I.ok.above,I.ok.inj,I.ok.has,I.ok.cab,I.ok.hd,I.ok.frames,I.ok.stk,I.ok.exf,I.ok.bs,I.ok.bsz,I.ok.noex,I.ok.exfs,I.ok.funs,I.ok.frf⟩,I.os,I.bare,I.base,I.loc,I.cell,I.free,I.freeC,fun p hp=>I.pin p (du _ hp),I.hok,I.len⟩
theorem aL2(I:Inv X pins σ H s)(v:Value)(hq:∀p∈q,s.heap.get? p.1=some p.2/\H p.1=none/\p.1≠X.env.locals/\p.1∉X.fs/\∀v,p.2.data ≠ .cell v):Inv (aG7 X v (X.pn++q)) pins σ H s :=
 ⟨⟨I.ok.mod,I.ok.kind,I.ok.glob,I.ok.blt,I.ok.above,I.ok.inj,I.ok.has,I.ok.cab,fun z=>(nomatch z),I.ok.frames,I.ok.stk,I.ok.exf,I.ok.bs,I.ok.bsz,I.ok.noex,I.ok.exfs,I.ok.funs,I.ok.frf⟩,I.os,I.bare,I.base,I.loc,I.cell,I.free,I.freeC,
  fun p hp=>by
   have hp:p∈(X.pn++q)++pins:=hp;rcases ck.mp hp with z |z
   ·rcases ck.mp z with z |z
    ·exact I.pin p (du _ z)
    ·exact hq p z
   ·exact I.pin p (c9 _ z),I.hok,I.len⟩
theorem aZk(ok:X.Ok)(I:Inv (aG7 X v (X.pn++q)) pins σ H s):Inv X pins σ H s :=
 ⟨ok,I.os,I.bare,I.base,I.loc,I.cell,I.free,I.freeC,fun p hp=>I.pin p (by
  show p∈(X.pn++q)++pins;rcases ck.mp hp with z |z
  ·exact du _ (du _ z)
  ·exact c9 _ z),I.hok,I.len⟩
theorem exc_out(x:Exc true (aV2 X E (X.pn++pins)) pins' H' s e C):Exc true X pins H' s e C:=by obtain⟨σ,Hc,sc,h,I,r⟩:=x;exact⟨σ,Hc,sc,h,aKr I,r⟩
theorem Exc.inv(x:Exc true X pins H' s e C):∃σ oe,Inv X pins σ H' s/\s.heap.get? e=some oe/\oe.cls = .ref C/\H' e=none/\e≠X.env.locals/\e∉X.fs/\(∀v,oe.data ≠ .cell v)/\oe.dict=none/\∃vs t,oe.data = .fields vs/\vs[0]?=some (.ref t):=by
 obtain⟨σ,Hc,sc,h,I,os,bare,u,hok,hh⟩:=x;rcases hh with ⟨rfl,B,t,fl,kp,dn⟩ |⟨z,_⟩
 ·have J:Inv X pins σ H' s:=I.call' os u hok bare (fun b z=>absurd z ZR);obtain⟨oe,vs,q1,q2,q3,q4⟩:=fl.first;have nf:e∉frs X.stack:=fun z=>by obtain⟨_,o,ho,hd⟩:=J.stack.mem z;rw[q1] at ho;cases ho;exact hd vs q3
  have nL:e≠X.env.locals:=fun z=>by obtain⟨m,⟨o,es,ep,ho,hd,_⟩,_⟩:=J.loc;rw[<-z,q1] at ho;cases ho;rw[q3] at hd;cases hd
  have nfs:e∉X.fs:=fun z=>by obtain⟨_,o,ho,hd⟩:=J.funs.mem z;rw[q1] at ho;cases ho;exact hd vs q3
  have hn:H' e=none:=by
   cases z:H' e with
   |none=>rfl
   | some y =>
    have:=kp e oe q1 nf (.inl (by rw[z];simp));rw[fl.2.1] at this;cases this
  exact⟨σ,oe,J,q1,q2,hn,nL,nfs,(fun v z=>by rw[q3] at z;cases z),dn oe q1,vs,t,q3,q4⟩
 ·cases z
theorem exc_note(hX:X.stack=X.env::outer)(hf:X.env.frame=some X.env.locals)(hA:A.frames=some X.stack)(x:Exc true X pins H' s e C)(hq:∀s3,Exc true X pins H' s3 e C->Q () s3) :
  wpAny ZC A (noteFrame (.ref e) X.env) (fun _ s2=>wpAny ZC A' (setFlight (.ref e) none) Q E' s2) E s:=by
 obtain⟨σ,Hc,sc,h,I,os,bare,u,hok,hh⟩:=x;rcases hh with ⟨rfl,B,t,fl,kp,dn⟩ |⟨z,_⟩
 ·have fo:=aK5 I u;obtain⟨ob,hob,_⟩:=fl.there;rw[hX] at hA;have fl':=fl;rw[hX] at fl';refine wpAny_mono (aSp.any (wpAny_looks_onW (Q:=fun _ s''=>∃h',s'' = { s with heap:=h' }/\Heap.HeldW B (X.env::outer) e (.ref C) (.ref t) X.env.locals h'/\s.heap.UpToSlots h') (E:=fun _ _=>False) hA hf fl' fun h' f2 up=>⟨h',rfl,f2,up⟩)) (fun _ s'' ⟨⟨h',q1,f2,up⟩,hd⟩=>?_) fun _ _ z=>z.1.elim;subst q1;refine wpAny_mono (aG4.any (wpAny_landsW (Q:=fun _ s3=>∃h5,s3 = { s with heap:=h5 }/\Heap.FlyingW B (X.env::outer) e (.ref C) (.ref t) h5/\h'.UpToSlots h5) (E:=fun _ _=>False) f2 fun h5 f3 up5=>⟨h5,rfl,f3,up5⟩)) (fun _ s3 ⟨⟨h5,q1,f3,up5⟩,hd5⟩=>?_) fun _ _ z=>z.1.elim;subst q1;obtain⟨u2,hok2,kp2⟩:=flown u hok kp f3.1 (up.trans up5) fo;refine hq _ ⟨σ,Hc,sc,h5,I,os,bare,u2,hok2,.inl ⟨rfl,B,t,?_,kp2,fun o q=>((hd.trans hd5).get hob q).trans (dn ob hob)⟩⟩;rw[hX];exact f3
 ·cases z
theorem bBy(x:Exc true X pins H' s e C)(hq:∀s3,Exc true X pins H' s3 e C->Q () s3):wpAny ZC A (setFlight (.ref e) none) Q E s:=by
 obtain⟨σ,Hc,sc,h,I,os,bare,u,hok,hh⟩:=x;rcases hh with ⟨rfl,B,t,fl,kp,dn⟩ |⟨z,_⟩
 ·have fo:=aK5 I u;obtain⟨ob,hob,_⟩:=fl.there;refine wpAny_mono (aG4.any (lands_againW (Q:=fun _ s3=>∃h5,s3 = { s with heap:=h5 }/\Heap.FlyingW B X.stack e (.ref C) (.ref t) h5/\s.heap.UpToSlots h5) (E:=fun _ _=>False) fl fun h5 f3 up5=>⟨h5,rfl,f3,up5⟩)) (fun _ s3 ⟨⟨h5,q1,f3,up5⟩,hd5⟩=>?_) fun _ _ z=>z.1.elim;subst q1;obtain⟨u2,hok2,kp2⟩:=flown u hok kp f3.1 up5 fo;exact hq _ ⟨σ,Hc,sc,h5,I,os,bare,u2,hok2,.inl ⟨rfl,B,t,f3,kp2,fun o q=>(hd5.get hob q).trans (dn ob hob)⟩⟩
 ·cases z
end
structure Takes (K:W.Frag) (C D:Addr):Prop where
 sub:W.subIn K (.ref C) (.ref D)=some true
structure Clause (K:W.Frag) (D:Addr):Prop where
 tup:W.instIn K (.ref D) (.type "tuple")=some false
 cls:(W.clsIn K D).isSome=true
 base:W.subIn K (.ref D) (.type "BaseException")=some true
theorem bBd{K:W.Frag}{M:Model}{A:Around}{E:Value->Shared->Prop}{s:Shared}{Q:Bool->Shared->Prop}{e C D:Addr}{oe:Obj}(kin:K.In s.heap)(he:s.heap.get? e=some oe)(hc:oe.cls = .ref C)(cl:Clause K D)(tk:Takes K C D)(hq:Q true s):wpAny M A (excMatches (.ref e) (.ref D)) Q E s:=by
 have L1:=W.looks_instIn (M:=M) kin cl.tup;have L2:=W.looks_subIn (M:=M) kin cl.base;have L3:=W.looks_subIn (M:=M) kin tk.sub;have L4:W.Looks M s.heap (isType (.ref D)) true:=by
  obtain⟨cd,q⟩:=gR.mp cl.cls;unfold W.clsIn at q;split at q
  ·rename_i ho;intro A' Q' E' s' k q';unfold isType loadHead;exact wpAny_bind (wpAny_loadPart (k _ _ (kin _ _ ho)) (wpAny_pure q'))
  ·cases q
 have L5:W.Looks M s.heap (typeOf (.ref e)) (.ref C):=hc▸(W.Looks.ld he).andThen .now;have L6:W.Looks M s.heap (isExcClass (.ref D)) true:=by unfold isExcClass;refine L4.andThen ?_;simp only[if_true];exact L2
 unfold excMatches
 repeat (first |(with_reducible refine L1.here ?_) |(with_reducible refine L6.here ?_) |(with_reducible refine L5.here ?_) |(with_reducible refine L3.here ?_) |wp_step)
 exact hq
section
variable {X:Cx}{tw:Addr}{pins:List ZH}{σ:St}{H H':Hp}{s:Shared}
theorem name_goes{i:Nat}(I:Inv X pins σ H s)(hN:X.N.Nodup)(hi:X.N[i]?=some x)(hk:X.env.scope.names.lookup x=some .local)
  (h:∀s',Inv X pins (σ.set i none) H s'->Q () s'):wpAny M A (do bindName X.env x .none;unbindBehindTheSuite X.env x pos) Q E s:=by
 obtain⟨m,hn,hl⟩:=id I.loc;have hcls:(X.env.scope.kind == .class||(X.env.scope.kind == .module&&X.env.locals != X.env.globals))=false:=by rw[I.ok.kind];rfl
 have cne:=I.cne;refine wpAny_nameGoes_keeps hk hn hcls fun h' v hn' hs=>?_;obtain⟨oL,_,_,hoL,_⟩:=id hn;have nL:∀b o,X.s₀.heap.get? b=some o->b≠X.env.locals:=fun b o e=>az (bj (ai e) I.ok.above);refine h _ ⟨I.ok,I.os,I.bare,⟨fun b o e n hb hx=>(hs.2 b (nL b o e)).trans (I.base.keep b o e n hb hx),fun b o e n hb hx=>?_,I.base.free,fun b o e hx=>?_,I.base.tups,I.base.frzs,I.base.tbls⟩,⟨_,hn',fun j y v' e1 e2 e3=>?_⟩,fun y c e=>?_,I.free,I.freeC,fun p hp=>?_,fun b ob e=>?_,by simpa using I.len⟩
 ·obtain⟨sl,e1⟩:=I.base.slot b o e n hb hx;exact⟨sl,(hs.2 b (nL b o e)).trans e1⟩
 ·obtain⟨o',e1⟩:=I.base.there b o e hx;exact⟨o',(hs.2 b (nL b o e)).trans e1⟩
 ·have hj:j≠i:=fun z=>by subst z;rw[iH] at e2;simp only[if_true] at e2;split at e2<;>cases e2
  rw[ip (Ne.symm hj)] at e2;obtain⟨u',r',q⟩:=hl j y v' e1 e2 e3;refine⟨u',r',?_⟩;rcases q with ⟨k,e⟩ |⟨k,c,e,z⟩
  ·have hne:y≠x:=fun e=>hj (aJ0 hN e1 (e▸hi));exact .inl ⟨k,by simp[hne,e]⟩
  ·exact .inr ⟨k,c,e,z.sameBut hs (cne y c e)⟩
 ·obtain⟨w',z⟩:=I.cell y c e;exact⟨w',z.sameBut hs (cne y c e)⟩
 ·obtain⟨e,n,ne,nf,d⟩:=I.pin p hp;exact⟨(hs.2 p.1 ne).trans e,n,ne,nf,d⟩
 ·refine(I.hok b ob e).stay (fun c w' hc q=>(hs.2 c ?_).trans q) (fun _ q=>q) fun _ _ q=>q;rintro rfl;have hfree:=I.free;rcases hc with rfl |hc
  ·rw[hfree] at e;cases e
  ·rw[hfree] at hc;cases hc
theorem Rel.blank{K:W.Frag}{B:Hp}{ρ:En}{n n':Nat}{σ σ':St}{H H':Hp}(R:Rel K B tw ρ n σ H)(hl:σ'.length=ρ.length)(x:Ext tw B H')(y:Tn tw n' H'):Rel K B tw (List.replicate ρ.length none) n' σ' H':=by
 have no:∀ (i:Nat) (p:T × Md),(List.replicate ρ.length (none:Option (T × Md)))[i]?≠some (some p):=fun i p z=>by rw[iB] at z;split at z<;>cases z
 exact⟨x,y,R.btn,by rw[fk,hl],fun i t e=>(no i _ e).elim,fun i t e=>(no i _ e).elim,fun i t e=>(no i _ e).elim,fun i t e=>(no i _ e).elim,fun i tb td e=>(no i _ e).elim,fun i j tb tb' td td' a a' l e=>(no i _ e).elim,fun i j t t' a e=>(no i _ e).elim⟩
inductive CsOk (X:Cx) (D:Addr):List Nat->Prop
 |nil:CsOk X D []
 |cons {c:Nat} {cs:List Nat} {C:Addr}:X.mg (cnm c)=some (.ref C)->Takes X.K C D->CsOk X D cs->CsOk X D (c::cs)
theorem CsOk.at:∀ {cs:List Nat},CsOk X D cs->∀ {c:Nat} {C:Addr},c∈cs->X.mg (cnm c)=some (.ref C)->Takes X.K C D
 | _,.cons hm tk r,c,C,hc,e=>by
  rcases bf.mp hc with rfl |hc
  ·rw[hm] at e;cases e;exact tk
  ·exact CsOk.at r hc e
theorem try_in{n:Nat}(hst:X.stack=X.env::outer)(hf:X.env.frame=some X.env.locals)(hb:∀E p,SSs (aV2 X E p) tw body b)(hxb:∀E p,XSs true (aV2 X E p) tw body xb)
  (I:Inv X pins σ H s) (R:Rel X.K B tw ρ n σ H)
  (h1:xb ρ n=none->∃f ρ' n',b ρ n=some (f,ρ',n')/\KF X.K B tw f ρ' n' D H)
  (h2:∀c n1,xb ρ n=some (c,n1)->∀e C H' s3,Exc true X pins H' s3 e C->Fx H H'->Ext tw B H'->Tn tw n1 H'->X.mg (cnm c)=some (.ref C)->wpAny ZC X.A (handleBy (.ref e) X.env [hd]) (SP X pins D) X.xe s3) :
  wpAny ZC X.A (exec (.Try body [hd] [] [] pos) X.env) (SP X pins D) X.xe s:=by
 refine wpAny_Try_except ?_;have go:∀E1:Value->Shared->Prop,(∀c n1,xb ρ n=some (c,n1)->∀e C H' s',Exc true X pins H' s' e C->Fx H H'->Ext tw B H'->Tn tw n1 H'->X.mg (cnm c)=some (.ref C)->E1 (.ref e) s')->wpAny ZC X.A (execs body X.env) (fun f s₁=>match f with |.next=>wpAny ZC X.A (execs [] X.env) (SP X pins D) X.xe s₁ |f=>SP X pins D f s₁) E1 s:=fun E1 hE=>by
  have I1:=into_try I E1;cases hx:xb ρ n with
  | none =>
   obtain⟨f,ρ',n',e,k⟩:=h1 hx;refine thn (hb E1 (X.pn++pins) B ρ n f ρ' n' e [] s σ H D I1 ⟨R,k⟩) fun fl s1 q=>?_;cases fl with
   |next=>obtain⟨σ',H',J,q⟩:=q;exact wpAny_execs_nil ⟨σ',H',aKr J,q⟩
   |brk=>obtain⟨σ',H',J,q⟩:=q;exact⟨σ',H',aKr J,q⟩
   |cont=>obtain⟨σ',H',J,q⟩:=q;exact⟨σ',H',aKr J,q⟩
   |ret u=>obtain⟨v,σ',H',J,r,q⟩:=q;exact⟨v,σ',H',aKr J,r,q⟩
  | some r =>
   obtain⟨c,n1⟩:=r;refine thn (hxb E1 (X.pn++pins) B ρ n c n1 hx [] s σ H { nx:=fun _ _=>False,rt:=fun _ _=>False } I1 ⟨R,fun pins' e C H' s' x f1 f2 f3 f4=>hE c n1 hx e C H' s' (exc_out x) f1 f2 f3 f4⟩) fun fl s1 q=>?_;cases fl with
   |next=>obtain⟨σ',H',J,q⟩:=q;exact q.elim
   |brk=>obtain⟨σ',H',J,q⟩:=q;exact(show False from q).elim
   |cont=>obtain⟨σ',H',J,q⟩:=q;exact(show False from q).elim
   |ret u=>obtain⟨v,σ',H',J,r,q⟩:=q;exact q.elim
 exact go _ fun c n1 hx e C H' s' x f1 f2 f3 f4=>exc_note hst hf I.ok.frames x fun s3 x3=>h2 c n1 hx e C H' s3 x3 f1 f2 f3 f4
def Suite(X:Cx)(tw:Addr)(i:Nat)(suite:List Stmt)(cs:List Nat)(h:Nat->Option T):Prop:=∀c t,c∈cs->h c=some t->∀C,X.mg (cnm c)=some (.ref C)->∀ (e:Addr) (oe:Obj),oe.cls = .ref C->oe.dict=none->(∃vs,oe.data = .fields vs) ->
 ∃b2:DS,SSs (aG7 X (.ref e) (X.pn ++ [(e,oe)])) tw suite b2/\∀n,∃ρ',b2 ((List.replicate X.N.length none).set i (some (.ob e,.fz))) n=some (.rt t false,ρ',n)
theorem bBi(i:Nat){body suite:List Stmt}{b₀:Stmt}{cs:List Nat}{b:DS}{xb:DX}{h:Nat->Option T}{D nm:Str}{DA:Addr}{dp hp pos:Pos}{outer:List Env}(hst:X.stack=X.env::outer)(hf:X.env.frame=some X.env.locals)(hb:∀E p,SSs (aV2 X E p) tw body b)(hxb:∀E p,XSs true (aV2 X E p) tw body xb)
  (h2:Suite X tw i (b₀::suite) cs h) (hD:X.mg D=some (.ref DA)) (cl:Clause X.K DA) (hcs:CsOk X DA cs) (hN:X.N.Nodup) (hi:autoParam (X.N[i]?=some nm) az0._auto_1) (hk:autoParam (X.env.scope.names.lookup nm=some .local) az0._auto_1) (hg:autoParam (Gl X D) az0._auto_1) (hdb:autoParam ((D==("__debug__" : Str))=false) az1._auto_1) :
  SS X tw (.Try body [.ExceptHandler (some (.Name D dp)) (some nm) (b₀::suite) hp] [] [] pos) (aM2 cs b xb h):=by
 intro B ρ n f ρ' n' hd pins s σ H Dn I ⟨R,k⟩;unfold aM2 at hd;refine try_in hst hf hb hxb I R (fun e=>?_) fun c n1 hx e C H' s3 x f1 f2 f3 f4=>?_
 ·rw[e] at hd;exact⟨f,ρ',n',hd,k⟩
 ·rw[hx] at hd;have hd:(if c∈cs then (h c).map fun t=>(Fl.rt t false,ρ,n1) else none)=some (f,ρ',n'):=hd;by_cases hc:c∈cs
  ·rw[if_pos hc] at hd;obtain⟨t,e1,e2⟩:=map_some hd;cases e2;obtain⟨σ3,oe,I3,q1,q2,q3,q4,q5,q6,_⟩:=x.inv;have J3:Inv (aG7 X (.ref e) (X.pn ++ [])) pins σ3 H' s3:=aL2 I3 _ (fun p hp=>absurd hp ZR);refine wpAny_handleBy_cons (codeAny_handlers_test (aG9 J3 hg hD ?_ hdb)) (by intro z;cases z);refine bBd (M:=model X.prog X.w) I3.kIn q1 q2 cl (hcs.at hc f4) ?_;refine codeAny_handlers_suite_as (bBy x fun s4 x4=>?_);obtain⟨σ4,oe4,I4,p1,p2,p3,p4,p5,p6,p7,vs,tt,p8,p9⟩:=x4.inv;obtain⟨b2,g1,g2⟩:=h2 c t hc e1 C f4 e oe4 p2 p7 ⟨vs,p8⟩;obtain⟨ρ2,g2⟩:=g2 n'
   have J4:Inv (aG7 X (.ref e) (X.pn ++ [(e,oe4)])) pins σ4 H' s4:=aL2 I4 _ (fun p hp=>by
    have:p=(e,oe4):=by simpa using hp
    subst this
    exact⟨p1,p3,p4,p5,p6⟩)
   have hl:σ4.length=ρ.length:=by rw[I4.len,R.len,I.len]
   have hln:X.N.length=ρ.length:=by rw[R.len,I.len]
   refine aM3 (X:=aG7 X (.ref e) (X.pn ++ [(e,oe4)])) (v:=.ref e) J4 hN hi (.inl hk) rfl (fun s5 J5=>?_) (.inr hk);have R4:Rel X.K B tw (List.replicate ρ.length none) n' σ4 H':=R.blank hl f2 f3;have R5:=R4.setF (i:=i) (t:=.ob e) (v:=.ref e) (by rw[Rep]);rw[hln] at g2;refine wpAny_mono (g1 B _ n' (.rt t false) ρ2 n' g2 pins s5 _ H' { nx:=fun _ _=>False,rt:=Dn.rt } J5 ⟨R5,k.fx f1⟩) (fun fl s6 q=>?_) fun _ _ z=>False.elim z;cases fl with
   |next=>obtain⟨σ',H',J,q⟩:=q;exact q.elim
   |brk=>obtain⟨σ',H',J,q⟩:=q;exact(show False from q).elim
   |cont=>obtain⟨σ',H',J,q⟩:=q;exact(show False from q).elim
   | ret u =>
    obtain⟨v,σ',H'',J,r,q⟩:=q;exact name_goes (aZk I.ok J) hN hi hk fun s7 J7=>⟨v,_,H'',J7,r,q⟩
  ·rw[if_neg hc] at hd;cases hd
end
structure ExK (K:W.Frag) (C:Addr):Prop where
 cls:(W.clsIn K C).isSome=true
 ga:W.findIn K (.ref C) "__getattribute__" = some (some (.builtin "BaseException.__getattribute__"))
 gt:W.findIn K (.ref C) "__getattr__" = some none
 cl:W.findIn K (.ref C) "__class__" = some (some (.builtin "object.__class__"))
 get:W.specialIn K (.builtin "object.__class__") "__get__" = some (some (.builtin "getset_descriptor.__get__"))
 tk:W.takesIn K (.builtin "object.__class__")=some true
 be:W.subIn K (.ref C) (.type "BaseException")=some true
 ob:W.mroIn K C (.type "object")=some true
section
variable {K:W.Frag}{x C:Addr}{ox:Obj}
theorem exc_is(X:ExK K C)(kin:K.In h):W.Looks M h (isType (.ref C)) true:=by
 obtain⟨cd,q⟩:=gR.mp X.cls;unfold W.clsIn at q;split at q
 ·rename_i ho;intro A' Q' E' s' k q';unfold isType loadHead;exact wpAny_bind (wpAny_loadPart (k _ _ (kin _ _ ho)) (wpAny_pure q'))
 ·cases q
theorem aTk(X:ExK K C):W.findObj K C none "__class__" = some (.bind (.builtin "getset_descriptor.__get__") (.builtin "object.__class__")):=by obtain⟨cd,q⟩:=gR.mp X.cls;unfold W.findObj;rw[q,aw,X.cl,aw];have e1:=X.get;have e2:=X.tk;show (Option.bind (W.specialIn K (.builtin "object.__class__") "__get__") _)=_;rw[e1,aw];show (Option.bind (W.takesIn K (.builtin "object.__class__")) _)=_;rw[e2];rfl
theorem aZi(X:ExK K C){prog:Program}{w:World}{A:Around}{E:Value->Shared->Prop}{hh:Heap}{g:Array GenState}{d:Drawn}{t:Nat}{os:OsState}{tk:Tok}{Q:Fin->Shared->Prop}(kin:K.In hh)(I:W.InstAt hh x ox C none)(hq:Q (.done (.ret (.ref C))) ⟨hh,g,d,t,os⟩) :
  wpAny ZI A (Builtin.«object.__getattribute__» ⟨[.ref x,.str "__class__" tk],[]⟩) Q E ⟨hh,g,d,t,os⟩:=by
 have L0:=I.type (M:=model prog w);have L3:=W.looks_find (M:=model prog w) kin I (aTk X);refine wpAny_bind (m:=slotArgs "__getattribute__" 1 ⟨[.ref x,.str "__class__" tk],[]⟩) (wpAny_pure (wpAny_bind (wpAny_pure (wpAny_bind (L0.at (wpAny_bind (L3.at ?_)))))));show wpAny _ _ (Builtin.ObjectAttr.bindTo (.builtin "getset_descriptor.__get__") (.builtin "object.__class__") (.ref x) (.ref C)) _ _ _;show wpAny _ _ (holding [.builtin "object.__class__"] (call (.builtin "getset_descriptor.__get__") [.builtin "object.__class__",.ref x,.ref C]) >>= ret) _ _ _;exact wpAny_bind (wpAny_holding (wpAny_call (W.class_get (s:=⟨hh,g,d,t,os⟩) kin I X.ob (wpAny_pure hq))))
theorem exc_call(X:ExK K C){prog:Program}{w:World}{A:Around}{hh:Heap}{g:Array GenState}{d:Drawn}{t:Nat}{os:OsState}{tk:Tok}{R:Result->Shared->Prop}(kin:K.In hh)(I:W.InstAt hh x ox C none)(hq:R (.ok (.ret (.ref C))) ⟨hh,g,d,t,os⟩) :
  codeAny ZI A (.call (.builtin "BaseException.__getattribute__") ⟨[.ref x,.str "__class__" tk],[]⟩) R ⟨hh,g,d,t,os⟩:=by
 have hk:builtinKind "BaseException.__getattribute__" = some .slot:=by decide +kernel
 have hs:splitId "BaseException.__getattribute__" = some ("BaseException","__getattribute__"):=by decide +kernel
 have L:W.Looks ZI hh (isInstance (.ref x) (.type "BaseException")) true:=(I.type (M:=model prog w)).andThen (W.looks_subIn kin X.be);have hg:argsOk "BaseException.__getattribute__" ⟨.ref x :: [.str "__class__" tk],[]⟩:=PySem.F.args_bexc_ga (.ref x) _;refine codeAny_call_builtin PySem.F.attrBase_ValueError.ga.plain PySem.F.entry_bexc_ga ?_;refine W.check_slot (i:="BaseException.__getattribute__") (owner:="BaseException") (n:="__getattribute__") (self:=.ref x) (rest:=[.str "__class__" tk]) (kw:=[]) hk hs L hg ?_;exact aZi X kin I hq
theorem bA5(X:ExK K C)(kin:K.In s.heap)(I:W.InstAt s.heap x ox C none)(hq:Q (some (.ref C)) { s with toks:=s.toks+1 }) :
  wpAny ZI A (getAttr? (.ref x) "__class__") Q E s:=by
 obtain⟨hh,g,d,t,os⟩:=s;have L0:=I.type (M:=model prog w);have L1:=W.looks_findIn (M:=model prog w) kin X.ga;have L2:=W.looks_findIn (M:=model prog w) kin X.gt;have L3:=W.looks_find (M:=model prog w) kin I (aTk X);have L4:W.Looks ZI hh (isInstance (.ref x) (.type "BaseException")) true:=L0.andThen (W.looks_subIn kin X.be);have hx2:(Value.builtin "BaseException.__getattribute__" == Value.builtin "object.__getattribute__")=false:=by decide +kernel
 unfold getAttr? getAttrBy? getAttrBy;refine wpAny_bind (wpAny_mkText (wpAny_bind (wpAny_attempt (wpAny_holding (wpAny_bind (L0.at (wpAny_bind (L1.at ?_))))))));dsimp only;rw[hx2,gz];simp only[dw,if_false];unfold getAttrByItsOwn hookBefore;refine wpAny_bind ?_;rw[if_pos (show onTheHeap (Value.ref C)=true from rfl)];refine L2.at ?_;refine wpAny_bind (wpAny_attempt (wpAny_holding ?_));unfold callGetattribute;simp only[gk,dw,if_false];unfold boundAndCalled;have f3:=PySem.F.attrBase_ValueError.ga.bind (.ref x);refine wpAny_bind ?_;rw[f3];refine wpAny_pure ?_;exact wpAny_call (exc_call X kin I (W.handed_on rfl (wpAny_pure hq)))
theorem aZv(X:ExK K C):W.KitX K (.ref x) (.ref C) (fun h=>W.InstAt h x ox C none) where
 ty:=fun _ _ _ I=>I.type
 it:=fun _ _ kin _=>exc_is X kin
 ne:=fun h tp dd its n sl kin htp=>by
  obtain⟨cd,q⟩:=gR.mp X.cls;refine Bool.eq_false_iff.mpr fun z=>?_;have e:C=tp:=Value.ref.inj (beq_iff_eq.mp z);subst e;unfold W.clsIn at q;split at q
  ·rename_i ho;have z:=(kin _ _ ho).symm.trans htp;cases z
  ·cases q
 ca:=fun kin I k=>bA5 X kin I k
end
section
variable {X:Cx}{tw:Addr}
theorem bAl{e n:Nat}{b:Bool}(h:pAt e b n [t]=some r):t = .ob e/\r=(.bl b,.fz):=by
 cases t with
 | ob y =>
  have h:(if y=e then some (T.bl b,Md.fz) else none)=some r:=h;by_cases z:y=e
  ·rw[if_pos z] at h;cases h;exact⟨by rw[z],rfl⟩
  ·rw[if_neg z] at h;cases h
 |_=>cases h
theorem aMf{e C D:Addr}{oe:Obj}{ev:Expr}{b:Bool}{d:DE}{x:Str}{p pT pos:Pos}(hp:(e,oe)∈X.pn)(hc:oe.cls = .ref C)(hd0:oe.dict=none)(hv:∃vs,oe.data = .fields vs)(ek:ExK X.K C)(h:SE X tw ev d)(hk:W.kitOne X.K (.ref C) (.ref D)=some b)(hm:X.mg "isinstance" = none)(hD:X.mg x=some (.ref D))
  (hg:autoParam (Gl X "isinstance") az0._auto_1) (hgx:autoParam (Gl X x) az0._auto_1) (hdb:autoParam ZL az1._auto_1)
  (he:autoParam (starEach [ev,.Name x pT] X.env=(false,eval ev X.env)::starEach [.Name x pT] X.env) az0._auto_1) (he2:autoParam (starEach [.Name x pT] X.env=(false,eval (.Name x pT) X.env)::starEach [] X.env) az0._auto_1) (hpl:autoParam ((backTo pos (starEach [.Name x pT] X.env)).any (·.1)=false) az0._auto_1) (hb:bootBuiltins "isinstance" = some (.builtin "isinstance"):=by decide +kernel) :
  SE X tw (.Call (.Name "isinstance" p) [ev,.Name x pT] [] pos) (dPr (pAt e b) (aAa d dNil)):=by
 intro B ρ n t m n' hd pins s σ H Q I ⟨R,kk⟩;obtain⟨t0,m0,f1,e3⟩:=aKy hd;have ⟨et,eb⟩:=bAl (show pAt e b n' [t0]=some (t,m) from e3);cases eb;subst et;refine wpAny_Call_Name_kw (aFs I hg hm hb ?_);refine PyProof.Rows.callWith_builtin1 ?_ he hpl;rw[he];refine br (thn (h.run f1 I R) fun u s1 ⟨v,H1,I1,r1,a1,R1,c1⟩=>?_);rw[he2];refine br (aG9 I1 hgx hD ?_ hdb);refine dq ?_;have rt:Rep tw H1 (.ob e) v:=c1.root R1 R.tn;rw[Rep] at rt;subst rt;obtain rfl:u=Value.ref e:=r1;have q:=(I1.pin (e,oe) (du _ hp)).1;obtain⟨vs,hv⟩:=hv;have J:W.InstAt s1.heap e oe C none:=⟨q,hc,by unfold W.notCls;rw[hv],by rw[hd0];trivial⟩
 refine W.kia_one (aZv ek) I1.kIn J hk (fun z=>nomatch z) fun tk=>?_;exact⟨.bl b,H1,I1.tok tk,rfl,kk _ H1 a1 R1.tn (by show Rep tw H1 (.bl b) _;rw[Rep])⟩
theorem se_isB{e C:Addr}{oe:Obj}{ev:Expr}{b:Bool}{d:DE}{x:Str}{TT:String}{p pT pos:Pos}(hp:(e,oe)∈X.pn)(hc:oe.cls = .ref C)(hd0:oe.dict=none)(hv:∃vs,oe.data = .fields vs)(ek:ExK X.K C)(h:SE X tw ev d)(hk:W.kitOne X.K (.ref C) (.type TT)=some b)(hm:X.mg "isinstance" = none)(hD:X.mg x=none)(hbx:bootBuiltins x=some (.type TT))
  (hg:autoParam (Gl X "isinstance") az0._auto_1) (hgx:autoParam (Gl X x) az0._auto_1) (hn:autoParam (x ≠ "__name__") az1._auto_1) (hdb:autoParam ZL az1._auto_1)
  (he:autoParam (starEach [ev,.Name x pT] X.env=(false,eval ev X.env)::starEach [.Name x pT] X.env) az0._auto_1) (he2:autoParam (starEach [.Name x pT] X.env=(false,eval (.Name x pT) X.env)::starEach [] X.env) az0._auto_1) (hpl:autoParam ((backTo pos (starEach [.Name x pT] X.env)).any (·.1)=false) az0._auto_1) (hb:bootBuiltins "isinstance" = some (.builtin "isinstance"):=by decide +kernel) :
  SE X tw (.Call (.Name "isinstance" p) [ev,.Name x pT] [] pos) (dPr (pAt e b) (aAa d dNil)):=by
 intro B ρ n t m n' hd pins s σ H Q I ⟨R,kk⟩;obtain⟨t0,m0,f1,e3⟩:=aKy hd;have ⟨et,eb⟩:=bAl (show pAt e b n' [t0]=some (t,m) from e3);cases eb;subst et;refine wpAny_Call_Name_kw (aFs I hg hm hb ?_);refine PyProof.Rows.callWith_builtin1 ?_ he hpl;rw[he];refine br (thn (h.run f1 I R) fun u s1 ⟨v,H1,I1,r1,a1,R1,c1⟩=>?_);rw[he2];refine br (aFs I1 hgx hD hbx ?_ hn hdb);refine dq ?_;have rt:Rep tw H1 (.ob e) v:=c1.root R1 R.tn;rw[Rep] at rt;subst rt;obtain rfl:u=Value.ref e:=r1;have q:=(I1.pin (e,oe) (du _ hp)).1;obtain⟨vs,hv⟩:=hv;have J:W.InstAt s1.heap e oe C none:=⟨q,hc,by unfold W.notCls;rw[hv],by rw[hd0];trivial⟩
 refine W.kia_one (aZv ek) I1.kIn J hk (fun z=>nomatch z) fun tk=>?_;exact⟨.bl b,H1,I1.tok tk,rfl,kk _ H1 a1 R1.tn (by show Rep tw H1 (.bl b) _;rw[Rep])⟩
end
structure RoomH (k:Nat) (A:Around):Prop where
 dp:A.depth+3*k+5<recursionLimit
 un:A.units+16*k+200<cLine
theorem Room.held{k:Nat}(r:Room k A)(v:Option Value):RoomH k (A.mark v):=⟨r.dp,r.un⟩
theorem RoomH.u6{k:Nat}(r:RoomH k A):A.units+6<cLine:=by have:=r.un;omega
theorem RoomH.units0{k:Nat}(r:RoomH k A):A.units<cLine:=by have:=r.un;omega
def Holds(outer:List Env)(H:Hp)(h:Heap)(q:List ZH):Prop:=∀p∈q,h.get? p.1=some p.2/\H p.1=none/\p.1∉frs outer/\∀v,p.2.data ≠ .cell v
structure FnH (P:Program) (w:World) (K:W.Frag) (mg:Str->Option Value) (base:Heap) (k:Nat) (f:Addr) (fd:FuncData) (ps:List Str) (q:List ZH) (sp:Sp):Prop where
 len:∀vs H Q E,sp vs H Q E->vs.length=ps.length
 run:∀ (A:Around) (outer:List Env) (s:Shared) (H:Hp) (args:PySem.Args) (us:List Value) (vs:List V) (Q:VK),RoomH k A->Env0 P w K mg base A outer s H->BindsTo s fd args (ps.zip us)->Vals vs us->Holds outer H s.heap q->sp vs H Q E0 ->
  codeAny (model P w) A (.call (.ref f) args) (CR CX0 outer P w H s Q E0) s
abbrev cxHeld(q:List ZH)(P:Program)(w:World)(K:W.Frag)(mg:Str->Option Value)(base:Heap)(N:List Str)(qual:Str)(scope:Scope)(f:Addr)(cd:Value)(A:Around)(outer:List Env)(s:Shared)(H:Hp):Cx :=
 { cxOf CX0 P w K mg base N qual scope f cd A outer s H E0 with calm:=false,pn:=q,xe:=fun _ _=>False }
theorem fnh_ok{tw:Addr}{P:Program}{w:World}{K:W.Frag}{mg:Str->Option Value}{base:Heap}{x qual:Str}{st:Stmt}{f:Addr}{fd:FuncData}{N ps:List Str}{lv:Nat}{b:DS}{q:List ZH}(F:Fun K x qual st f fd)(S:FnScope N ps (aAp st))
  (hbody:∀ (cdv:Value) (A:Around) (outer:List Env) (s:Shared) (H:Hp),RoomH lv (A.deeper (envOfC qual (aAp st) s.heap.objs.size f cdv))->SSs (cxHeld q P w K mg base N qual (aAp st) f cdv A outer s H) tw (aCg st) b) :
  FnH P w K mg base (lv+1) f fd ps q (SpF K tw ps.length (fnD N.length b)):=by
 obtain⟨oc,od,kV,doc,pm,an,cdv,ct,osl,rfl,lk,hcd⟩:=F.ex;refine⟨fun vs H Q E h=>h.1,fun A outer s H args us vs Q hr e0 hb r hq hsp=>?_⟩;obtain⟨hl,tb,ts,n,t,m,n',a,tn,e,k⟩:=hsp;obtain⟨⟨fl,ρ',n1⟩,e1,e2⟩:=bind_some e;have kin:K.In s.heap:=e0.mod.kin.keeps fun b o z=>(e0.bs b o z).1;have nol:s.heap.NoLimit:=e0.mod.nolimit.keeps fun b o z=>(e0.bs b o z).1;have kinds:∀y∈ps.zip us,(aAp st).names.lookup y.1=some .local\/((aAp st).names.lookup y.1=some .cell/\((cellsFrom (s.heap.objs.size+1) (aAp st).names []).lookup y.1).isSome=true):=fun ⟨x1,x2⟩ hy=>by
  rcases S.par x1 (ir hy).1 with z |z
  ·exact .inl z
  ·exact .inr ⟨z,W.cellsFrom_some _ _ _ (.inl z)⟩
 refine codeAny_call_function (by have:=hr.dp;omega) (kin _ _ lk) rfl S.co S.gen rfl (W.codeRec_of kin hcd) (hb _ _ _ _ ?_);refine wpAny_newFunctionEnv_cells S.kind kinds fun env he s1 x=>?_;subst he;refine⟨nol.keeps x.toInCall.keep,codeAny_func ?_⟩;have e0':Env0 P w K mg base { A with handled:=none } outer s H:=⟨e0.frames,e0.mod,e0.bs,e0.bsz,e0.funs,e0.frf,e0.hok,e0.bare⟩
 have I0:Inv (cxOf CX0 P w K mg base N qual (aAp st) f cdv { A with handled:=none } outer s H E0) [] (start N vs) H s1:=aQn S rfl e0' hl r x;have I:Inv (cxHeld q P w K mg base N qual (aAp st) f cdv A outer s H) [] (start N vs) H s1 :=
  ⟨⟨I0.ok.mod,I0.ok.kind,I0.ok.glob,I0.ok.blt,I0.ok.above,I0.ok.inj,I0.ok.has,I0.ok.cab,fun z=>(nomatch z),Around.frames_deeper e0.frames,I0.ok.stk,I0.ok.exf,I0.ok.bs,I0.ok.bsz,I0.ok.noex,I0.ok.exfs,I0.ok.funs,I0.ok.frf⟩,I0.os,I0.bare,I0.base,I0.loc,I0.cell,I0.free,I0.freeC,fun p hp=>by
   obtain⟨h1,h2,h3,h4⟩:=hq p (by simpa using hp)
   exact⟨x.toInCall.keep _ _ h1,h2,az (bj (ai h1) I0.ok.above),h3,h4⟩,I0.hok,I0.len⟩
 have hr':RoomH lv (A.deeper (envOfC qual (aAp st) s.heap.objs.size f cdv)):=⟨by have:=hr.dp;show A.depth+1+3*lv+5<_;omega,by have:=hr.un;show A.units+3+16*lv+200<_;omega⟩
 have hk:KF K H tw fl ρ' n1 { nx:=fun _ H'=>Q .non H',rt:=Q } H:=by
  cases fl with
  |rt t0 m0=>cases e2;exact fun v H' _ x y z=>k v H' x y z
  |nx=>cases e2;exact fun σ' H' _ R=>k .non H' R.ext R.tn (by show Rep tw H' .non _;rw[Rep])
  |bk=>cases e2
  |ct=>cases e2
 refine wpAny_mono (hbody cdv A outer s H hr' H _ n fl ρ' n1 e1 [] s1 (start N vs) H _ I ⟨aKn a tb tn,hk⟩) (fun f' s' hs=>?_) fun _ _ z=>False.elim z;cases f' with
 | ret u =>
  obtain⟨v,σ',H',J,rv,q⟩:=hs;exact⟨v,H',J.os,J.bare,J.base,J.hok,rv,q⟩
 | next =>
  obtain⟨σ',H',J,q⟩:=hs;exact⟨.non,H',J.os,J.bare,J.base,J.hok,rfl,q⟩
 |brk=>obtain⟨_,_,_,q⟩:=hs;exact(show False from q).elim
 |cont=>obtain⟨_,_,_,q⟩:=hs;exact(show False from q).elim
section
variable {X:Cx}{tw:Addr}
theorem se_callH{f:Fn}{lv:Nat}{fa:Addr}{fd:FuncData}{ps:List Str}{x:Str}{p pos:Pos}{e:Expr}{es:List Expr}{a:DB}{ar:Nat}{q:List ZH}(F:FnH X.prog X.w X.K X.mg X.base lv fa fd ps q (SpF X.K tw ar f))(hr:RoomH lv X.A)(hq:∀y∈q,y∈X.pn)(hst:X.stack=X.env::X.outer)(hf:X.env.frame=some X.env.locals)(hm:X.mg x=some (.ref fa))(hk:W.keepIn X.K (.ref fa)=true)
  (hb:Binds X.K fd ps []) (ha:SB X tw (e::es) a) (hg:autoParam (Gl X x) az0._auto_1) (hdb:autoParam ZL az1._auto_1) (he:autoParam ZG az0._auto_1)
  (hpl:autoParam ((backTo pos (starEach es X.env)).any (·.1)=false) az0._auto_1):SE X tw (.Call (.Name x p) (e::es) [] pos) (dCall ar f a):=by
 intro B ρ n t m n' hd pins s σ H Q I ⟨R,k⟩;obtain⟨⟨ts,n1⟩,e1,e2⟩:=bind_some hd;by_cases hl:ts.length=ar
 ·rw[if_pos hl] at e2;obtain⟨⟨t1,m1,n2⟩,e3,e4⟩:=map_some e2;cases e4;refine wpAny_Call_Name_kw (aG9 I hg hm ?_ hdb);refine W.callWith_K (h₀:=X.base) I.ok.mod.kin hk (thn (ha B ρ n ts n1 e1 pos pins s σ H (fun vs H'=>Ext tw H H'/\Tn tw n1 H'/\Args X.K tw H' ts vs) I ⟨R,fun vs H' x y z=>⟨x,y,z⟩⟩) fun us s1 ⟨vs,H1,I1,r,x1,y1,z1⟩=>⟨I1.kIn,?_⟩) he hpl;have hsp:SpF X.K tw ar f vs H1 Q E0:=⟨z1.length▸hl,R.btn.2.ext (R.ext.trans x1),ts,n1,t1,m1,n2,z1,y1,e3,fun v H'' a b c=>k v H'' (x1.trans a) b (c.base.back x1 y1)⟩
  have hlen:us.length=ps.length:=by rw[<-r.length];exact F.len _ _ _ _ hsp
  have hb':=hb s1 us I1.kIn (by simpa using hlen);rw[gX] at hb';have hh:Holds X.stack H1 s1.heap q:=fun y hy=>by
   obtain⟨h1,h2,h3,h4,h5⟩:=I1.pin y (du _ (hq y hy));refine⟨h1,h2,fun z=>?_,h5⟩;rw[hst] at z;have z:y.1∈(X.env::X.outer).filterMap (·.frame):=z;rw[fh,hf] at z;rcases bf.mp z with z |z
   ·exact h3 z
   ·exact h4 z
  refine wpAny_call (codeAny_mono (F.run X.A X.stack s1 H1 ⟨us,[]⟩ us vs _ hr I1.env0 hb' r hh hsp) fun rr s' hq'=>?_);cases rr with
  |error ev=>exact False.elim hq'
  | ok fl =>
   cases fl with
   |ret u=>exact I1.after hq'
   |next=>exact False.elim hq'
   |brk=>exact False.elim hq'
   |cont=>exact False.elim hq'
 ·rw[if_neg hl] at e2;cases e2
theorem aBp{x:Str}{pos:Pos}{fa:Addr}(hm:X.mg x=some (.ref fa))(hg:autoParam (Gl X x) az0._auto_1)(hd:autoParam ZL az1._auto_1):SE X tw (.Name x pos) (dK (.ob fa)) :=
 se_k (aY7 hg hm (v:=.ref fa) rfl hd) fun _=>by rw[Rep]
inductive SelOk (X:Cx) (tw:Addr):List Addr->List (Nat × Fn)->Prop
 |nil:SelOk X tw [] []
 |cons {fa:Addr} {fas:List Addr} {ar:Nat} {f:Fn} {fs:List (Nat × Fn)} {lv:Nat} {fd:FuncData} {ps:List Str}:FnOk X.prog X.w X.K X.mg X.base CX0 lv fa fd ps (SpF X.K tw ar f)->Room lv X.A->W.keepIn X.K (.ref fa)=true->Binds X.K fd ps []->SelOk X tw fas fs->SelOk X tw (fa::fas) ((ar,f)::fs)
inductive XSelOk (X:Cx) (tw:Addr):List Addr->List (Nat × FnX)->Prop
 |nil:XSelOk X tw [] []
 |cons {fa:Addr} {fas:List Addr} {ar:Nat} {f:FnX} {fs:List (Nat × FnX)} {lv:Nat} {fd:FuncData} {ps:List Str}:FnOk X.prog X.w X.K X.mg X.base (CXR X.prog X.w) lv fa fd ps (SpX X.mg X.K tw ar f)->Room lv X.A->W.keepIn X.K (.ref fa)=true->Binds X.K fd ps []->XSelOk X tw fas fs->XSelOk X tw (fa::fas) ((ar,f)::fs)
theorem SelOk.at:∀ {as:List Addr} {fs:List (Nat × Fn)},SelOk X tw as fs->∀ {i:Nat} {g:Nat × Fn},fs[i]?=some g->∃fa lv fd ps,as[i]?=some fa/\FnOk X.prog X.w X.K X.mg X.base CX0 lv fa fd ps (SpF X.K tw g.1 g.2)/\Room lv X.A/\W.keepIn X.K (.ref fa)=true/\Binds X.K fd ps []
 |_,_,.cons h1 h2 h3 h4 r,0,_,e=>by cases e;exact⟨_,_,_,_,rfl,h1,h2,h3,h4⟩
 |_,_,.cons h1 h2 h3 h4 r,i+1,_,e=>SelOk.at r (i:=i) (by simpa using e)
theorem XSelOk.at:∀ {as:List Addr} {fs:List (Nat × FnX)},XSelOk X tw as fs->∀ {i:Nat} {g:Nat × FnX},fs[i]?=some g->∃fa lv fd ps,as[i]?=some fa/\FnOk X.prog X.w X.K X.mg X.base (CXR X.prog X.w) lv fa fd ps (SpX X.mg X.K tw g.1 g.2)/\Room lv X.A/\W.keepIn X.K (.ref fa)=true/\Binds X.K fd ps []
 |_,_,.cons h1 h2 h3 h4 r,0,_,e=>by cases e;exact⟨_,_,_,_,rfl,h1,h2,h3,h4⟩
 |_,_,.cons h1 h2 h3 h4 r,i+1,_,e=>XSelOk.at r (i:=i) (by simpa using e)
theorem aZ9:SelOk X tw as fs->as.length=fs.length
 |.nil=>rfl
 |.cons _ _ _ _ r=>by rw[ah,ah,aZ9 r]
theorem aW6:XSelOk X tw as fs->as.length=fs.length
 |.nil=>rfl
 |.cons _ _ _ _ r=>by rw[ah,ah,aW6 r]
theorem sel_at{as:List Addr}{n n1:Nat}{i:Int}(hl:∀ρ n,l ρ n=some (as.map .ob,n))(hz:as.length<=big)(hk:dk ρ n=some (.int i,m,n1))(h0:0<=i)(h1:i<as.length)(hf:as[i.toNat]?=some fa) :
  dPr pGet (aAa (dLst l) (aAa dk dNil)) ρ n=some (.ob fa,.fz,n1):=by
 have e1:dLst l ρ n=some (.lst (as.map .ob),.own,n):=by unfold dLst;rw[hl,aw,if_pos (by rw[ak];exact hz)]
 have e2:at? (as.map .ob) i=some (.ob fa):=by unfold at?;rw[if_pos h0,if_pos (by rw[ak];exact h1),cg,hf];rfl
 unfold dPr aAa;rw[e1,aw];show (((Option.bind (dk ρ n) _).map _).bind _)=_;rw[hk];show ((at? (as.map .ob) i).map _).map _=_;rw[e2];rfl
theorem aGe{sub e:Expr}{es:List Expr}{pos:Pos}{l:DA}{as:List Addr}{dk:DE}{fs:List (Nat × Fn)}{a:DB}(hs:SE X tw sub (dPr pGet (aAa (dLst l) (aAa dk dNil))))(hl:∀ρ n,l ρ n=some (as.map .ob,n))(hz:as.length<=big)(ok:SelOk X tw as fs)(ha:SB X tw (e::es) a)
  (hc:autoParam (eval (.Call sub (e::es) [] pos) X.env=(do callWith pos (<-eval sub X.env) [] (backTo pos (starEach (e::es) X.env)) (backToKw pos (keywordEach [] X.env)))) az0._auto_1) (he:autoParam ZG az0._auto_1) (hpl:autoParam ((backTo pos (starEach es X.env)).any (·.1)=false) az0._auto_1) :
  SE X tw (.Call sub (e::es) [] pos) (dSel dk fs a):=by
 intro B ρ n t m n' hd pins s σ H Q I ⟨R,k⟩;obtain⟨⟨tk,mk,nk⟩,e0,e00⟩:=bind_some hd;have ⟨i,et,e01⟩:∃i,tk = .int i/\((aMm fs i).bind fun f=>dCall f.1 f.2 a ρ nk)=some (t,m,n'):=by
  cases tk with
  |int i=>exact⟨i,rfl,e00⟩
  |_=>cases e00
 subst et;obtain⟨g,e02,e03⟩:=bind_some e01;have ⟨h0,h1,hg⟩:0<=i/\i<fs.length/\fs[i.toNat]?=some g:=by
  unfold aMm at e02;split at e02
  ·rename_i z;exact⟨z.1,z.2,e02⟩
  ·cases e02
 obtain⟨fa,lv,fd,ps,hfa,F,hr,hk,hb⟩:=ok.at hg;have hat:=sel_at hl hz e0 h0 (by rw[aZ9 ok];exact h1) hfa;obtain⟨⟨ts,n1⟩,e1,e2⟩:=bind_some e03;have hln:ts.length=g.1:=by
  by_cases z:ts.length=g.1
  ·exact z
  ·rw[if_neg z] at e2;cases e2
 rw[if_pos hln] at e2;obtain⟨⟨t1,m1,n2⟩,e3,e4⟩:=map_some e2;cases e4;show wpAny _ _ (eval (.Call sub (e::es) [] pos) X.env) _ _ s;rw[hc];refine wpAny_bind (thn (hs.run hat I R) fun u s0 ⟨v,H0,I0,r0,a0,R0,c0⟩=>?_);have rt:Rep tw H0 (.ob fa) v:=c0;rw[Rep] at rt;subst rt;obtain rfl:u=Value.ref fa:=r0;refine W.callWith_K (h₀:=X.base) I.ok.mod.kin hk (thn (ha B ρ nk ts n1 e1 pos pins s0 σ H0 (fun vs H'=>Ext tw H0 H'/\Tn tw n1 H'/\Args X.K tw H' ts vs) I0 ⟨R0,fun vs H' x y z=>⟨x,y,z⟩⟩) fun us s1 ⟨vs,H1,I1,r,x1,y1,z1⟩=>⟨I1.kIn,?_⟩) he hpl;refine run_fn (E:=E0) F hr hb .nil pass0 I1 r ?_;rw[gX];exact⟨z1.length▸hln,R.btn.2.ext (R.ext.trans (a0.trans x1)),ts,n1,t1,m1,n2,z1,y1,e3,fun v H'' a b c=>k v H'' ((a0.trans x1).trans a) b (c.base.back (a0.trans x1) y1)⟩
theorem aL1{fl:Bool}{sub e:Expr}{es:List Expr}{pos:Pos}{l:DA}{as:List Addr}{dk:DE}{fs:List (Nat × FnX)}{a:DB}(hs:SE X tw sub (dPr pGet (aAa (dLst l) (aAa dk dNil))))(hl:∀ρ n,l ρ n=some (as.map .ob,n))(hz:as.length<=big)(ok:XSelOk X tw as fs)(ha:SB X tw (e::es) a)
  (hc:autoParam (eval (.Call sub (e::es) [] pos) X.env=(do callWith pos (<-eval sub X.env) [] (backTo pos (starEach (e::es) X.env)) (backToKw pos (keywordEach [] X.env)))) az0._auto_1) (he:autoParam ZG az0._auto_1) (hpl:autoParam ((backTo pos (starEach es X.env)).any (·.1)=false) az0._auto_1) :
  XE fl X tw (.Call sub (e::es) [] pos) (xSel dk fs a):=by
 intro B ρ n c n' hd pins s σ H Q I ⟨R,k⟩;obtain⟨⟨tk,mk,nk⟩,e0,e00⟩:=bind_some hd;have ⟨i,et,e01⟩:∃i,tk = .int i/\((aMm fs i).bind fun f=>aAy f.1 f.2 a ρ nk)=some (c,n'):=by
  cases tk with
  |int i=>exact⟨i,rfl,e00⟩
  |_=>cases e00
 subst et;obtain⟨g,e02,e03⟩:=bind_some e01;have ⟨h0,h1,hg⟩:0<=i/\i<fs.length/\fs[i.toNat]?=some g:=by
  unfold aMm at e02;split at e02
  ·rename_i z;exact⟨z.1,z.2,e02⟩
  ·cases e02
 obtain⟨fa,lv,fd,ps,hfa,F,hr,hk,hb⟩:=ok.at hg;have hat:=sel_at hl hz e0 h0 (by rw[aW6 ok];exact h1) hfa;obtain⟨⟨ts,n1⟩,e1,e2⟩:=bind_some e03;have hln:ts.length=g.1:=by
  by_cases z:ts.length=g.1
  ·exact z
  ·rw[if_neg z] at e2;cases e2
 rw[if_pos hln] at e2;show wpAny _ _ (eval (.Call sub (e::es) [] pos) X.env) _ _ s;rw[hc];refine wpAny_bind (thn (hs.run hat I R) fun u s0 ⟨v,H0,I0,r0,a0,R0,c0⟩=>?_);have rt:Rep tw H0 (.ob fa) v:=c0;rw[Rep] at rt;subst rt;obtain rfl:u=Value.ref fa:=r0;refine W.callWith_K (h₀:=X.base) I.ok.mod.kin hk (thn (ha B ρ nk ts n1 e1 pos pins s0 σ H0 (fun vs H'=>Ext tw H0 H'/\Tn tw n1 H'/\Args X.K tw H' ts vs) I0 ⟨R0,fun vs H' x y z=>⟨x,y,z⟩⟩) fun us s1 ⟨vs,H1,I1,r,x1,y1,z1⟩=>⟨I1.kIn,?_⟩) he hpl;exact x_run F hr hb I1 r (R.btn.2.ext (R.ext.trans (a0.trans x1))) y1 z1 hln e2 fun e C H' s' x q3 q4 q2=>k pins e C H' s' x.weak (((a0.trans x1).trans q3).fx R.tn) ((R.ext.trans (a0.trans x1)).trans q3) q4 q2
end
def KnX(P:Program)(w:World)(K:W.Frag)(mg:Str->Option Value)(base:Heap)(lv:Nat)(x:Str)(ps:List Str)(f:FnX)(tw:Addr):Prop :=
 ∃fa fd,FnOk P w K mg base (CXR P w) lv fa fd ps (SpX mg K tw ps.length f)/\Binds K fd ps []/\W.keepIn K (.ref fa)=true/\mg x=some (.ref fa)
theorem xe_callK{fl:Bool}{X:Cx}{tw:Addr}{f:FnX}{lv ar:Nat}{ps:List Str}{x:Str}{p pos:Pos}{e:Expr}{es:List Expr}{a:DB}(G:KnX X.prog X.w X.K X.mg X.base lv x ps f tw)(hr:Room lv X.A)(ha:SB X tw (e::es) a)(hn:autoParam (ps.length=ar) az0._auto_1)(hg:autoParam (Gl X x) az0._auto_1)(hdb:autoParam ZL az1._auto_1)
  (he:autoParam ZG az0._auto_1) (hpl:autoParam ((backTo pos (starEach es X.env)).any (·.1)=false) az0._auto_1):XE fl X tw (.Call (.Name x p) (e::es) [] pos) (aAy ar f a):=by
 subst hn;obtain⟨fa,fd,F,hb,hk,hm⟩:=G;exact xe_call F hr hm hk hb ha hg hdb he hpl
theorem aAz{lv ar:Nat}(G:Kn X.prog X.w X.K X.mg X.base lv x ps f tw)(hm:X.mg x=some (.ref fa))(hr:Room lv X.A)(r:SelOk X tw as fs)(hn:autoParam (ps.length=ar) az0._auto_1):SelOk X tw (fa::as) ((ar,f)::fs):=by subst hn;obtain⟨fa',fd,F,hb,hk,hm'⟩:=G;rw[hm] at hm';cases hm';exact .cons F hr hk hb r
theorem aBk{lv ar:Nat}(G:KnX X.prog X.w X.K X.mg X.base lv x ps f tw)(hm:X.mg x=some (.ref fa))(hr:Room lv X.A)(r:XSelOk X tw as fs)(hn:autoParam (ps.length=ar) az0._auto_1):XSelOk X tw (fa::as) ((ar,f)::fs):=by subst hn;obtain⟨fa',fd,F,hb,hk,hm'⟩:=G;rw[hm] at hm';cases hm';exact .cons F hr hk hb r
structure ClK (K:W.Frag) (D:Addr):Prop where
 cls:(W.clsIn K D).isSome=true
 ty:W.typeIn K (.ref D)=some (.type "type")
section
variable {K:W.Frag}{C D:Addr}
theorem aJq:W.kitOne K (.ref C) (.ref C)=some true:=by unfold W.kitOne;rw[if_pos ZR]
theorem aB3(self:W.subIn K (.ref C) (.ref C)=some true)(d:ClK K D)(sub:W.subIn K (.ref C) (.ref D)=some false):W.kitOne K (.ref C) (.ref D)=some false:=by
 have ne:C≠D:=fun z=>by subst z;rw[self] at sub;cases sub
 unfold W.kitOne;rw[if_neg (by simpa using ne)];unfold W.kitCls;simp only[d.cls,d.ty,beq_self_eq_true,Bool.and_self,if_true];exact sub
theorem aNf(sub:W.subIn K (.ref C) (.type "ValueError")=some true):W.kitOne K (.ref C) (.type "ValueError")=some true:=by unfold W.kitOne;rw[if_neg ZR];show (if W.kitMeta "ValueError" = true then _ else none)=_;rw[if_pos (by decide +kernel)];exact sub
end
def KnW(P:Program)(w:World)(K:W.Frag)(mg:Str->Option Value)(base:Heap)(lv:Nat)(x:Str)(cs:List Nat)(h:Nat->Option T)(tw:Addr):Prop :=
 ∃fa,W.keepIn K (.ref fa)=true/\mg x=some (.ref fa)/\∀c t,c∈cs->h c=some t->∀C,mg (cnm c)=some (.ref C)->∀ (e:Addr) (oe:Obj),oe.cls = .ref C->oe.dict=none->(∃vs,oe.data = .fields vs) ->
  ∃ (fd:FuncData) (ps:List Str) (f:Fn),FnH P w K mg base lv fa fd ps [(e,oe)] (SpF K tw 1 f)/\Binds K fd ps []/\∀n,f [(.ob e,true)] n=some (t,false,n)
theorem aXl{X:Cx}{tw:Addr}(i:Nat){lv:Nat}{cs:List Nat}{h:Nat->Option T}{x nm:Str}{p pe pos rp:Pos}(G:KnW X.prog X.w X.K X.mg X.base lv x cs h tw)(hr:Room lv X.A)(hst:X.stack=X.env::X.outer)(hf:X.env.frame=some X.env.locals)(hi:autoParam (X.N[i]?=some nm) az0._auto_1)(hv:autoParam (Vis X.env.scope nm) az7._auto_1)(hg:autoParam (Gl X x) az0._auto_1)(hdb:autoParam ZL az1._auto_1)(hdn:autoParam ((nm==("__debug__" : Str))=false) az1._auto_1)(hcd:autoParam ((nm==("__classdict__" : Str))=false) az1._auto_1) :
  Suite X tw i [.Return (some (.Call (.Name x p) [.Name nm pe] [] pos)) rp] cs h:=by
 intro c t hc ht C hC e oe h1 h2 h3;obtain⟨fa,hk,hm,G⟩:=G;obtain⟨fd,ps,f,F,hb,hres⟩:=G c t hc ht C hC e oe h1 h2 h3;have hil:i<X.N.length:=(bh.mp hi).1;refine⟨dRet (dCall 1 f (aAd (dVar i) bNil)),?_,fun n=>?_⟩
 ·exact aAk (aAt (se_callH (X:=aG7 X (.ref e) (X.pn ++ [(e,oe)])) F (Room.held hr _) (fun y hy=>c9 _ hy) hst hf hm hk hb (aAc (aAb i hi hv hdn hcd) aAi rfl) hg hdb rfl rfl))
 ·refine⟨(List.replicate X.N.length none).set i (some (.ob e,.fz)),?_⟩;have e1:dVar i ((List.replicate X.N.length none).set i (some (.ob e,.fz))) n=some (.ob e,.fz,n):=by unfold dVar;rw[iH,if_pos rfl,if_pos (by rw[fk];exact hil)];rfl
  unfold dRet dCall aAd;rw[e1];show Option.bind ((f [(T.ob e,true)] n).map _) _=_;rw[hres];rfl
section
variable {X:Cx}{tw:Addr}{fl:Bool}
theorem xe_isN{e:Expr}{d:DX}{j pos pos'}(h:XE fl X tw e d):XE fl X tw (.Compare e [.Is] [.Constant .none j pos'] pos) d:=fun B ρ n c n' hd =>
 pe_cmp (pc_isN (h B ρ n c n' hd)) (by rfl)
theorem xs_set(i:Nat){x:Str}{e:Expr}{d:DX}{pos pos':Pos}(h:XE fl X tw e d)(hN:X.N.Nodup)(hi:autoParam (X.N[i]?=some x) az0._auto_1)(hx:autoParam (Loc X.env.scope x) az4._auto_1)(hs:autoParam (swapsWith e (some (.Name x pos')) pos.line X.env=pure false) az0._auto_1)
  (hf:autoParam (X.fn x=true\/X.env.scope.names.lookup x=some .local) az2._auto_1):XS fl X tw (.Assign [.Name x pos'] e pos) d:=fun B ρ n c n' hd =>
 aXg hN hi hx (h B ρ n c n' hd) hs hf
end
structure Fr where
 f:Addr
 od:Option Addr
 an:Option Addr
 sl:Array (Option Value)
 oc:Value
 kV:Value
 dc:Value
 pm:Value
 cd:Value
 ct:Value
abbrev Fr.fd(r:Fr)(n:Str)(st:Stmt):FuncData:=W.fnOf n n (aD7 st) (aCg st) (aAp st) .none r.kV r.dc r.pm r.an r.cd r.ct
def FnIn(K:W.Frag)(n:Str)(st:Stmt)(r:Fr):Prop :=
 W.nsIn K mainGlobals n=some (some (.ref r.f))/\K.lookup r.f=some ⟨r.oc,r.od,.func (r.fd n st),r.sl⟩/\W.codeIn K r.cd n=true/\W.keepIn K (.ref r.f)=true
theorem fnIn_mk{K:W.Frag}{n:Str}{st:Stmt}{f:Addr}{od an:Option Addr}{sl:Array (Option Value)}{oc kV dc pm cd ct:Value}(a:W.nsIn K mainGlobals n=some (some (.ref f)))
  (l:K.lookup f=some ⟨oc,od,.func (W.fnOf n n (aD7 st) (aCg st) (aAp st) .none kV dc pm an cd ct),sl⟩) (c:W.codeIn K cd n=true) (k:W.keepIn K (.ref f)=true):FnIn K n st ⟨f,od,an,sl,oc,kV,dc,pm,cd,ct⟩:=⟨a,l,c,k⟩
section
variable {K:W.Frag}{n:Str}{st:Stmt}{r:Fr}
theorem FnIn.fn(h:FnIn K n st r):Fun K n n st r.f (r.fd n st):=fun_mk h.2.1 h.2.2.1 h.2.2.2
theorem FnIn.mg{h0:Heap}{mg:Str->Option Value}(h:FnIn K n st r)(X:K.In h0)(G:h0.Ns mainGlobals mg):mg n=some (.ref r.f):=W.mg_of X G h.1
theorem some_of{α:Type}{x:Option α}{a:α}(h:x=some a):x.isSome=true:=by rw[h];rfl
end
theorem scZ{N P:List Str}{sc:Scope}(a:autoParam (sc.kind = .function) az0._auto_1)(b:autoParam (sc.isCoroutine=false) az0._auto_1)(c:autoParam (sc.isGenerator=false) az0._auto_1)(d:N.Nodup:=by decide +kernel)(e:autoParam (N.take P.length=P) az0._auto_1)(f:∀x∈P,sc.names.lookup x=some .local\/sc.names.lookup x=some .cell:=by decide +kernel)(g:∀y∈sc.names,y.2 ≠ .free:=by decide +kernel):FnScope N P sc:=⟨a,b,c,d,e,f,g⟩
def Bd(n:Str)(st:Stmt)(ps:List Str):Prop:=∀ (kV doc pm:Value) (an:Option Addr) (cdv ct:Value) (us:List Value),us.length=ps.length->bindArgs (W.fnOf n n (aD7 st) (aCg st) (aAp st) .none kV doc pm an cdv ct) ⟨us,[]⟩=pure (ps.zip us)
theorem len0{P:List Value->Prop}(h:P []):∀us:List Value,us.length=0->P us:=fun us e=>by
 cases us with
 |nil=>exact h
 |cons a us=>exact Nat.noConfusion e
theorem lenS{P:List Value->Prop}{k:Nat}(h:∀a (us:List Value),us.length=k->P (a::us)):∀us:List Value,us.length=k+1->P us:=fun us e=>by
 cases us with
 |nil=>exact Nat.noConfusion e
 |cons a us=>exact h a us (Nat.succ.inj e)
section
variable {n:Str}{st:Stmt}{p1 p2 p3 p4 p5:Str}
theorem bd1(h:∀ (kV doc pm:Value) (an:Option Addr) (cdv ct a:Value),bindArgs (W.fnOf n n (aD7 st) (aCg st) (aAp st) .none kV doc pm an cdv ct) ⟨[a],[]⟩=pure [(p1,a)]):Bd n st [p1]:=fun k d p an c t=>lenS fun a=>len0 (h k d p an c t a)
theorem bd2(h:∀ (kV doc pm:Value) (an:Option Addr) (cdv ct a b:Value),bindArgs (W.fnOf n n (aD7 st) (aCg st) (aAp st) .none kV doc pm an cdv ct) ⟨[a,b],[]⟩=pure [(p1,a),(p2,b)]):Bd n st [p1,p2]:=fun k d p an c t=>lenS fun a=>lenS fun b=>len0 (h k d p an c t a b)
theorem bd3(h:∀ (kV doc pm:Value) (an:Option Addr) (cdv ct a b c:Value),bindArgs (W.fnOf n n (aD7 st) (aCg st) (aAp st) .none kV doc pm an cdv ct) ⟨[a,b,c],[]⟩=pure [(p1,a),(p2,b),(p3,c)]):Bd n st [p1,p2,p3]:=fun k d p an c t=>lenS fun a=>lenS fun b=>lenS fun e=>len0 (h k d p an c t a b e)
theorem bd4(h:∀ (kV doc pm:Value) (an:Option Addr) (cdv ct a b c d:Value),bindArgs (W.fnOf n n (aD7 st) (aCg st) (aAp st) .none kV doc pm an cdv ct) ⟨[a,b,c,d],[]⟩=pure [(p1,a),(p2,b),(p3,c),(p4,d)]):Bd n st [p1,p2,p3,p4]:=fun k d p an c t=>lenS fun a=>lenS fun b=>lenS fun e=>lenS fun f=>len0 (h k d p an c t a b e f)
end
section
variable {P:Program}{w:World}{K:W.Frag}{base:Heap}{tw:Addr}{n:Str}{st:Stmt}{r:Fr}{h0:Heap}{mg:Str->Option Value}{lv:Nat}{N ps:List Str}
theorem knF(X:K.In h0)(G:h0.Ns mainGlobals mg)(h:FnIn K n st r){b:DS}
  (hb:∀ (cdv:Value) (A:Around) (outer:List Env) (s:Shared) (H:Hp) (E:XK),Room lv (A.deeper (envOfC n (aAp st) s.heap.objs.size r.f cdv))->N.Nodup->SSs (cxOf CX0 P w K mg base N n (aAp st) r.f cdv A outer s H E).nox tw (aCg st) b)
  (S:FnScope N ps (aAp st):=by exact scZ) (bi:Bd n st ps:=by first |exact bd1 fun _ _ _ _ _ _ _=>rfl |exact bd2 fun _ _ _ _ _ _ _ _=>rfl |exact bd3 fun _ _ _ _ _ _ _ _ _=>rfl |exact bd4 fun _ _ _ _ _ _ _ _ _ _=>rfl |exact bd5 fun _ _ _ _ _ _ _ _ _ _ _=>rfl):Kn P w K mg base (lv+1) n ps (fnD N.length b) tw :=
 ⟨_,_,fn_ok h.fn S fun c A o s H E hr=>hb c A o s H E hr S.nd,h.fn.binds bi,h.2.2.2,h.mg X G⟩
theorem knXF(X:K.In h0)(G:h0.Ns mainGlobals mg)(h:FnIn K n st r){b:DX}
  (hb:∀ (cdv:Value) (A:Around) (outer:List Env) (s:Shared) (H:Hp) (E:XK),Room lv (A.deeper (envOfC n (aAp st) s.heap.objs.size r.f cdv))->N.Nodup->XSs false (cxOf (CXR P w) P w K mg base N n (aAp st) r.f cdv A outer s H E) tw (aCg st) b)
  (S:FnScope N ps (aAp st):=by exact scZ) (bi:Bd n st ps:=by first |exact bd1 fun _ _ _ _ _ _ _=>rfl |exact bd2 fun _ _ _ _ _ _ _ _=>rfl |exact bd3 fun _ _ _ _ _ _ _ _ _=>rfl |exact bd4 fun _ _ _ _ _ _ _ _ _ _=>rfl |exact bd5 fun _ _ _ _ _ _ _ _ _ _ _=>rfl):KnX P w K mg base (lv+1) n ps (fnX N.length b) tw :=
 ⟨_,_,fnx_ok h.fn S fun c A o s H E hr=>hb c A o s H E hr S.nd,h.fn.binds bi,h.2.2.2,h.mg X G⟩
end
section
variable {X:Cx}{tw:Addr}{lv ar:Nat}{ps:List Str}{x:Str}{p pos:Pos}{e:Expr}{es:List Expr}{a:DB}
theorem aAu{f:Fn}(G:Kn X.prog X.w X.K X.mg X.base lv x ps f tw)(ha:SB X tw (e::es) a)(hr:Room lv X.A:=by first |exact hr.mono ZA |exact hr.mono (by omega))(hn:autoParam (ps.length=ar) az0._auto_1)(hg:autoParam (Gl X x) az0._auto_1)(hdb:autoParam ZL az1._auto_1)
  (he:autoParam ZG az0._auto_1) (hpl:autoParam ((backTo pos (starEach es X.env)).any (·.1)=false) az0._auto_1):SE X tw (.Call (.Name x p) (e::es) [] pos) (dCall ar f a):=se_callK G hr ha hn hg hdb he hpl
theorem aD4{fl:Bool}{f:FnX}(G:KnX X.prog X.w X.K X.mg X.base lv x ps f tw)(ha:SB X tw (e::es) a)(hr:Room lv X.A:=by first |exact hr.mono ZA |exact hr.mono (by omega))(hn:autoParam (ps.length=ar) az0._auto_1)(hg:autoParam (Gl X x) az0._auto_1)(hdb:autoParam ZL az1._auto_1)
  (he:autoParam ZG az0._auto_1) (hpl:autoParam ((backTo pos (starEach es X.env)).any (·.1)=false) az0._auto_1):XE fl X tw (.Call (.Name x p) (e::es) [] pos) (aAy ar f a):=xe_callK G hr ha hn hg hdb he hpl
end
end L2.Ds
namespace L2.Ds
open PySem
theorem bBu(ns:List Int)(i:Int)(h0:0<=i)(h1:i<ns.length):∃c∈ns,at? (ns.map T.int) i=some (.int c):=by
 have h:i.toNat<ns.length:=by lia
 refine⟨ns[i.toNat],fg h,?_⟩;unfold at?;rw[if_pos h0,if_pos (by simpa using h1)];simp[h]
theorem aIs(k:Nat)(ns:List Int):(ns.map T.int).all (aAr k)=true:=by rw[iC,bu];intro x _;cases k<;>rfl
theorem aDj:∀l:List Int,intsOf (l.map T.int)=some l
 |[]=>rfl
 |x::xs=>by show (intsOf (xs.map T.int)).map (x :: ·)=_;rw[aDj xs];rfl
theorem aG3{α:Type}(f:α->T):∀l:List α,(∀x∈l,f x = .bl true)->∃bs,boolsOf (l.map f)=some bs/\bs.all id=true
 |[],_=>⟨[],rfl,rfl⟩
 | x::xs,h=>by
  obtain⟨bs,e,a⟩:=aG3 f xs fun y hy=>h y (am _ hy)
  exact⟨true::bs,by
   rw[af,h x (ao ..)];show (boolsOf (xs.map f)).map (true :: ·)=_
   rw[e];rfl,by simpa using a⟩
theorem aHa:∀ {ls:List (List Int)},(∀l∈ls,l ≠ [])->aGt (ls.map tupT)=some ls
 |[],_=>rfl
 | l::ls,h=>by
  have ih:=aHa (ls:=ls) fun l hl=>h l (am _ hl);cases l with
  |nil=>exact absurd rfl (h [] (ao ..))
  | cons x xs =>
   have:=aDj (x::xs);rw[af] at this;show (intsOf (.int x::xs.map T.int)).bind (fun l=>(aGt (ls.map tupT)).map (l :: ·))=_;rw[this,ih];rfl
theorem aIp{put:T->En->Option En}{c:DT}{R:En->Prop}{p:T->Bool}{f:T->T}:∀ (xs:List T),(∀x∈xs,∀ρ n,R ρ->∃ρ',put x ρ=some ρ'/\R ρ'/\c ρ' n=some (p x,n)/\(p x=true->dFz e ρ' n=some (f x,.fz,n))) ->
  ∀ (ρ:En) (n:Nat) (acc:List T),R ρ->acc.length+xs.length<=big->aEw put c e xs ρ n acc=some (acc++(xs.filter p).map f,n)
 |[],_,ρ,n,acc,_,_=>by simp[aEw]
 | x::xs,h,ρ,n,acc,hR,hb=>by
  obtain⟨ρ',e1,r1,e2,e3⟩:=h x (ao ..) ρ n hR;rw[ah] at hb;unfold aEw;rw[e1];simp only[aw,e2];by_cases hp:p x=true
  ·rw[if_pos hp,e3 hp];simp only[aw];rw[if_pos ZB,aIp xs (fun y hy=>h y (am _ hy)) ρ' n (acc ++ [f x]) r1 (by simp;lia)];simp[hp]
  ·rw[if_neg hp,aIp xs (fun y hy=>h y (am _ hy)) ρ' n acc r1 ZB];simp[hp]
theorem dChg_own{i:Nat}{n n':Nat}(h:d ρ n=some (t,.own,n'))(hi:ρ[i]?=some (some (u,.own)))(hg:g u t=some t'):dChg i g d ρ n=some (.nx,ρ.set i (some (t',.own)),n'):=by unfold dChg dFz;simp only[h,aw,frz,di,hi,hg]
theorem aGk(lo hi:Int):(upTo lo hi).length=(hi - lo).toNat:=by simp[upTo]
end L2.Ds
local macro_rules | `(tactic| simp! [$l,*]) => `(tactic| simp [L2.Ds.fnD, L2.Ds.dSeq, L2.Ds.dIfS, L2.Ds.dSet, L2.Ds.dRet, L2.Ds.aF2, L2.Ds.aB0, L2.Ds.aCi, L2.Ds.dTru, L2.Ds.dNot, L2.Ds.dAnd, L2.Ds.dOr, L2.Ds.dVar, L2.Ds.dK, L2.Ds.dPr, L2.Ds.aAa, L2.Ds.dNil, L2.Ds.dFz, L2.Ds.frz, L2.Ds.look, L2.Ds.aDx, L2.Ds.flag, L2.Ds.aAd, L2.Ds.bNil, L2.Ds.dCall, L2.Ds.md, L2.Ds.aZ4, L2.Ds.tru, $l,*])
namespace L2.Ds
open PySem
theorem comp_if{α:Type}{i:Nat}{n:Nat}(ys:List α)(g:α->T)(p:α->Bool)(f:α->T)(hi:it ρ n=some (ys.map g,n))(hl:ys.length<=big)
  (h:∀y∈ys,c ((srcOf l ρ).set i (some (g y,.fz))) n=some (p y,n)/\(p y=true->dFz e ((srcOf l ρ).set i (some (g y,.fz))) n=some (f y,.fz,n))) :
  aCs it (srcOf l) (putAt i) c e ρ n=some (.lst ((ys.filter p).map f),.own,n):=by
 have gen:∀ (zs:List α) (ρ0:En) (acc:List T),(∀y∈zs,y∈ys)->(∀v,ρ0.set i v=(srcOf l ρ).set i v)->acc.length+zs.length<=big->aEw (putAt i) c e (zs.map g) ρ0 n acc=some (acc++(zs.filter p).map f,n):=by
  intro zs
  induction zs with
  |nil=>intro ρ0 acc _ _ _;simp[aEw]
  | cons z zs ih =>
   intro ρ0 acc hz hρ hb;rw[ah] at hb;obtain⟨h1,h2⟩:=h z (hz z (ao ..));have hρ':∀v,((srcOf l ρ).set i (some (g z,.fz))).set i v=(srcOf l ρ).set i v:=fun v=>by rw[jS]
   rw[af];unfold aEw;simp only[putAt,aw,hρ,h1];cases hp:p z with
   | true =>
    simp only[if_true,h2 hp,aw];rw[if_pos ZB,ih _ _ (fun y hy=>hz y (am _ hy)) hρ' (by simp;lia)];simp[hp]
   | false =>
    simp only[dw,if_false];rw[ih _ _ (fun y hy=>hz y (am _ hy)) hρ' ZB];simp[hp]
 unfold aCs;rw[hi];simp only[aw];rw[gen ys _ [] (fun _ h=>h) (fun _=>rfl) (by simpa using hl)];rfl
theorem aEd{α:Type}{i:Nat}{n:Nat}(ys:List α)(g:α->T)(f:α->T)(hi:it ρ n=some (ys.map g,n))(hl:ys.length<=big)
  (h:∀y∈ys,dFz e ((srcOf l ρ).set i (some (g y,.fz))) n=some (f y,.fz,n)) :
  aCs it (srcOf l) (putAt i) yes e ρ n=some (.lst (ys.map f),.own,n):=by
 rw[comp_if ys g (fun _=>true) f hi hl fun y hy=>⟨rfl,fun _=>h y hy⟩,jA.mpr fun _ _=>rfl]
theorem comp_two{α:Type}{i j:Nat}{n:Nat}(ys:List α)(g g':α->T)(p:α->Bool)(f:α->T)(hij:i≠j)(hi:it ρ n=some (ys.map (fun y=>.tup [g y,g' y]),n))(hl:ys.length<=big)
  (h:∀y∈ys,c (((srcOf l ρ).set i (some (g y,.fz))).set j (some (g' y,.fz))) n=some (p y,n)/\(p y=true->dFz e (((srcOf l ρ).set i (some (g y,.fz))).set j (some (g' y,.fz))) n=some (f y,.fz,n))) :
  aCs it (srcOf l) (aTb i j) c e ρ n=some (.lst ((ys.filter p).map f),.own,n):=by
 have gen:∀ (zs:List α) (ρ0:En) (acc:List T),(∀y∈zs,y∈ys)->(∀v v',(ρ0.set i v).set j v'=((srcOf l ρ).set i v).set j v')->acc.length+zs.length<=big->aEw (aTb i j) c e (zs.map (fun y=>.tup [g y,g' y])) ρ0 n acc=some (acc++(zs.filter p).map f,n):=by
  intro zs
  induction zs with
  |nil=>intro ρ0 acc _ _ _;simp[aEw]
  | cons z zs ih =>
   intro ρ0 acc hz hρ hb;rw[ah] at hb;obtain⟨h1,h2⟩:=h z (hz z (ao ..));have hρ':∀v v',((((srcOf l ρ).set i (some (g z,.fz))).set j (some (g' z,.fz))).set i v).set j v'=((srcOf l ρ).set i v).set j v':=fun v v'=>by rw[List.set_comm (some (g' z,Md.fz)) v (Ne.symm hij),jS,jS]
   rw[af];unfold aEw;simp only[aTb,aw,hρ,h1];cases hp:p z with
   | true =>
    simp only[if_true,h2 hp,aw];rw[if_pos ZB,ih _ _ (fun y hy=>hz y (am _ hy)) hρ' (by simp;lia)];simp[hp]
   | false =>
    simp only[dw,if_false];rw[ih _ _ (fun y hy=>hz y (am _ hy)) hρ' ZB];simp[hp]
 unfold aCs;rw[hi];simp only[aw];rw[gen ys _ [] (fun _ h=>h) (fun _ _=>rfl) (by simpa using hl)];rfl
theorem aTz{it:DI}{l:List (Option Nat)}{i:Nat}{e:DE}{ρ:En}{n0 n:Nat}{xs:List T}{P:T->Prop}{K N:Nat}(hi:it ρ n0=some (xs,n))(h:∀x n,n+K<=N->∃t n',dFz e ((srcOf l ρ).set i (some (x,.fz))) n=some (t,.fz,n')/\n<=n'/\n'<=n+K/\P t)
  (hn:n+K*xs.length<=N) (hb:xs.length<=big):∃out n',out.length=xs.length/\(∀t∈out,P t)/\n<=n'/\n'<=n+K*xs.length/\aCs it (srcOf l) (putAt i) yes e ρ n0=some (.lst out,.own,n'):=by
 have gen:∀ (zs:List T) (ρ0:En) (n:Nat) (acc:List T),(∀v,ρ0.set i v=(srcOf l ρ).set i v)->n+K*zs.length<=N->acc.length+zs.length<=big->∃out n',out.length=zs.length/\(∀t∈out,P t)/\n<=n'/\n'<=n+K*zs.length/\aEw (putAt i) yes e zs ρ0 n acc=some (acc++out,n'):=by
  intro zs
  induction zs with
  |nil=>intro ρ0 n acc _ _ _;exact⟨[],n,rfl,fun t ht=>by simp at ht,ae _,by simp,by simp[aEw]⟩
  | cons z zs ih =>
   intro ρ0 n acc hρ hn hb;have hk:K*(zs.length+1)=K*zs.length+K:=by rw[Nat.mul_succ]
   rw[ah,hk] at hn;rw[ah] at hb;obtain⟨t,n1,e1,l1,l2,p⟩:=h z n ZB;obtain⟨out,n2,q1,q2,l3,l4,q3⟩:=ih ((srcOf l ρ).set i (some (z,.fz))) n1 (acc ++ [t]) (fun v=>by rw[jS]) ZB (by simp;lia);refine⟨t::out,n2,by simp[q1],fun t' ht=>?_,by lia,by rw[ah,hk];lia,?_⟩
   ·rcases bf.mp ht with rfl |ht
    ·exact p
    ·exact q2 t' ht
   ·unfold aEw;simp only[putAt,hρ,aw,yes,e1,if_true];rw[if_pos ZB,q3];simp
 obtain⟨out,n',q1,q2,q3,q4,q5⟩:=gen xs (srcOf l ρ) n [] (fun _=>rfl) hn (by simpa using hb);refine⟨out,n',q1,q2,q3,q4,?_⟩;unfold aCs;rw[hi];simp only[aw];rw[q5];rfl
theorem aZf{α:Type}(f:α->T)(Q:α->Prop):∀ {out:List T},(∀t∈out,∃y,t=f y/\Q y)->∃l:List α,out=l.map f/\∀y∈l,Q y
 |[],_=>⟨[],rfl,by simp⟩
 | t::ts,h=>by
  obtain⟨l,rfl,hl⟩:=aZf f Q fun t ht=>h t (am _ ht);obtain⟨y,rfl,hy⟩:=h t (ao ..)
  exact⟨y::l,rfl,fun z hz=>by
   rcases bf.mp hz with rfl |hz
   ·exact hy
   ·exact hl z hz⟩
theorem sumT_ok(n:Nat)(h1:l.length<100000)(h2:∀x∈l,-10000000000000<=x/\x<=10000000000000):aU5 n [.tup (l.map .int)]=some (.int (sumI l),.fz):=by
 have:(l.all fun x=>decide (x.natAbs<=10000000000000))=true:=by rw[bu];intro x hx;have:=h2 x hx;simp;lia
 show (intsOf (l.map T.int)).bind _=_;rw[aDj,aw,if_pos ⟨h1,this⟩]
theorem aVn{n n':Nat}{j:Int}(h:a ρ n=some ([.int j],n'))(c1:-(big:Int)<=j)(c2:j<=big):aHq a ρ n=some (upTo 0 j,n'):=by unfold aHq;rw[h];show (if -(big:Int)<=j/\j<=big then some (upTo 0 j,n') else none)=_;rw[if_pos ⟨c1,c2⟩]
theorem aWr(m:Nat):upTo 0 m=(List.range m).map fun k=>.int (k:Nat):=by simp[upTo]
theorem aJ6{k:Nat}(go:∀t:T,aAr k t=true->eqT t t=true):∀a:List T,(a.all (aAr k))=true->eqTs a a=true
 |[],_=>rfl
 |x::a,h=>by rw[ej,bo] at h;show (eqT x x&&eqTs a a)=true;rw[go x h.1,aJ6 go a h.2];rfl
theorem eqT_flat(t:T)(h:aAr 0 t=true):eqT t t=true:=by
 cases t with
 |non=>rfl
 |bl b=>show (b==b)=true;simp
 |int i=>show (i==i)=true;simp
 |str x=>show (x==x)=true;simp
 |_=>cases h
theorem aMl:∀ (k:Nat) (t:T),aAr k t=true->eqT t t=true
 |0,t,h=>eqT_flat t h
 | k+1,t,h=>by
  cases t with
  |tup a=>exact aJ6 (aMl k) a h
  |lst a=>exact aJ6 (aMl k) a h
  |non=>rfl
  |bl b=>show (b==b)=true;simp
  |int i=>show (i==i)=true;simp
  |str x=>show (x==x)=true;simp
  |_=>cases h
theorem aGm(h:aAr 6 t=true):eqP t t=some true:=by
 have e:=aMl 6 t h;have q:eqP t t=if (aAr 6 t&&aAr 6 t)=true then some (eqT t t) else none:=by
  cases t with
  |dic a=>cases h
  |_=>rfl
 rw[q,h,e];rfl
theorem aT5{α:Type}{k:Nat}{f:α->T}{l:List α}(h:∀x∈l,aAr k (f x)=true):aAr (k+1) (.lst (l.map f))=true:=by show (l.map f).all (aAr k)=true;rw[iC,bu];exact h
theorem aYf(k:Nat)(l:List Int):aAr (k+1) (tupT l)=true:=by show (l.map T.int).all (aAr k)=true;exact aIs k l
end L2.Ds
namespace L2.Ds
variable {α:Type}
def kSeq(b:DS):Option (Fl × En × Nat)->Option (Fl × En × Nat)
 |some (.nx,ρ,n)=>b ρ n
 |x=>x
theorem aFv(a b:DS)(ρ:En)(n:Nat):dSeq a b ρ n=kSeq b (a ρ n):=by
 unfold dSeq;cases a ρ n with
 |none=>rfl
 |some r=>obtain⟨f,ρ1,n1⟩:=r;cases f<;>rfl
theorem aFd(b:DS)(ρ:En)(n:Nat):kSeq b (some (.nx,ρ,n))=b ρ n:=rfl
theorem k_seq2(b:DS)(ρ:En)(n:Nat)(t:T)(o:Bool):kSeq b (some (.rt t o,ρ,n))=some (.rt t o,ρ,n):=rfl
def kIf(a b:Nat->Option α):Option (Bool × Nat)->Option α
 |some (t,n)=>if t then a n else b n
 |none=>none
theorem a_ifS(c:DT)(a b:DS)(ρ:En)(n:Nat):dIfS c a b ρ n=kIf (a ρ) (b ρ) (c ρ n):=by unfold dIfS;cases c ρ n<;>rfl
theorem a_if(c:DT)(a b:DE)(ρ:En)(n:Nat):dIf c a b ρ n=kIf (a ρ) (b ρ) (c ρ n):=by unfold dIf;cases c ρ n<;>rfl
theorem aFn(a b:Nat->Option α)(t:Bool)(n:Nat):kIf a b (some (t,n))=if t then a n else b n:=rfl
theorem k_if1(a b:Nat->Option α)(n:Nat):kIf a b (some (true,n))=a n:=rfl
theorem k_if2(a b:Nat->Option α)(n:Nat):kIf a b (some (false,n))=b n:=rfl
def kSet(i:Nat)(ρ:En):Option (T × Md × Nat)->Option (Fl × En × Nat)
 |some (t,.own,n)=>some (.nx,ρ.set i (some (t,.own)),n)
 |some (t,.fz,n)=>some (.nx,ρ.set i (some (t,.fz)),n)
 |_=>none
theorem a_set(i:Nat)(d:DE)(ρ:En)(n:Nat):dSet i d ρ n=kSet i ρ (d ρ n):=by
 unfold dSet;cases d ρ n with
 |none=>rfl
 |some r=>obtain⟨t,m,n1⟩:=r;cases m<;>rfl
theorem k_set1(i:Nat)(ρ:En)(t:T)(n:Nat):kSet i ρ (some (t,.own,n))=some (.nx,ρ.set i (some (t,.own)),n):=rfl
theorem k_set2(i:Nat)(ρ:En)(t:T)(n:Nat):kSet i ρ (some (t,.fz,n))=some (.nx,ρ.set i (some (t,.fz)),n):=rfl
def kRet(ρ:En):Option (T × Md × Nat)->Option (Fl × En × Nat)
 |some (t,.own,n)=>some (.rt t true,ρ,n)
 |some (t,.fz,n)=>some (.rt t false,ρ,n)
 |_=>none
theorem a_ret(d:DE)(ρ:En)(n:Nat):dRet d ρ n=kRet ρ (d ρ n):=by
 unfold dRet;cases d ρ n with
 |none=>rfl
 |some r=>obtain⟨t,m,n1⟩:=r;cases m<;>rfl
theorem k_ret1(ρ:En)(t:T)(n:Nat):kRet ρ (some (t,.own,n))=some (.rt t true,ρ,n):=rfl
theorem k_ret2(ρ:En)(t:T)(n:Nat):kRet ρ (some (t,.fz,n))=some (.rt t false,ρ,n):=rfl
def kVar(n:Nat):Option (Option (T × Md))->Option (T × Md × Nat)
 |some (some (t,m))=>some (t,look m t,n)
 |_=>none
theorem a_var(i:Nat)(ρ:En)(n:Nat):dVar i ρ n=kVar n ρ[i]?:=by unfold dVar kVar;split<;>simp_all
theorem k_var(n:Nat)(t:T)(m:Md):kVar n (some (some (t,m)))=some (t,look m t,n):=rfl
def kPr1(n:Nat):Option (T × Md)->Option (T × Md × Nat)
 |some (t,m)=>some (t,m,n)
 |none=>none
def kPr(g:Pr):Option (List T × Nat)->Option (T × Md × Nat)
 |some (ts,n)=>kPr1 n (g n ts)
 |none=>none
theorem a_pr(g:Pr)(a:DA)(ρ:En)(n:Nat):dPr g a ρ n=kPr g (a ρ n):=by
 unfold dPr;cases a ρ n with
 |none=>rfl
 |some r=>obtain⟨ts,n1⟩:=r;show (g n1 ts).map _=kPr1 n1 (g n1 ts);cases g n1 ts<;>rfl
theorem k_pr(g:Pr)(ts:List T)(n:Nat):kPr g (some (ts,n))=kPr1 n (g n ts):=rfl
theorem k_pr1(n:Nat)(t:T)(m:Md):kPr1 n (some (t,m))=some (t,m,n):=rfl
def aWm(t:T):Option (List T × Nat)->Option (List T × Nat)
 |some (ts,n)=>some (t::ts,n)
 |none=>none
def kCons(r:DA)(ρ:En):Option (T × Md × Nat)->Option (List T × Nat)
 |some (t,_,n)=>aWm t (r ρ n)
 |none=>none
theorem a_cons(d:DE)(r:DA)(ρ:En)(n:Nat):aAa d r ρ n=kCons r ρ (d ρ n):=by
 unfold aAa;cases d ρ n with
 |none=>rfl
 |some x=>obtain⟨t,m,n1⟩:=x;show (r ρ n1).map _=aWm t (r ρ n1);cases r ρ n1<;>rfl
theorem k_cons(r:DA)(ρ:En)(t:T)(m:Md)(n:Nat):kCons r ρ (some (t,m,n))=aWm t (r ρ n):=rfl
theorem k_cons1(t:T)(ts:List T)(n:Nat):aWm t (some (ts,n))=some (t::ts,n):=rfl
def kB1(p:T × Bool):Option (List (T × Bool) × Nat)->Option (List (T × Bool) × Nat)
 |some (ts,n)=>some (p::ts,n)
 |none=>none
def kB(r:DB)(ρ:En):Option (T × Md × Nat)->Option (List (T × Bool) × Nat)
 |some (t,m,n)=>kB1 (t,flag m t) (r ρ n)
 |none=>none
theorem a_b(d:DE)(r:DB)(ρ:En)(n:Nat):aAd d r ρ n=kB r ρ (d ρ n):=by
 unfold aAd;cases d ρ n with
 |none=>rfl
 |some x=>obtain⟨t,m,n1⟩:=x;show (r ρ n1).map _=kB1 (t,flag m t) (r ρ n1);cases r ρ n1<;>rfl
theorem k_b(r:DB)(ρ:En)(t:T)(m:Md)(n:Nat):kB r ρ (some (t,m,n))=kB1 (t,flag m t) (r ρ n):=rfl
theorem k_b1(p:T × Bool)(ts:List (T × Bool))(n:Nat):kB1 p (some (ts,n))=some (p::ts,n):=rfl
def kFz1(n:Nat):Option T->Option (T × Md × Nat)
 |some t=>some (t,.fz,n)
 |none=>none
def kFz:Option (T × Md × Nat)->Option (T × Md × Nat)
 |some (t,m,n)=>kFz1 n (frz t m)
 |none=>none
theorem a_fz(d:DE)(ρ:En)(n:Nat):dFz d ρ n=kFz (d ρ n):=by
 unfold dFz;cases d ρ n with
 |none=>rfl
 |some x=>obtain⟨t,m,n1⟩:=x;show (frz t m).map _=kFz1 n1 (frz t m);cases frz t m<;>rfl
theorem k_fz(t:T)(m:Md)(n:Nat):kFz (some (t,m,n))=kFz1 n (frz t m):=rfl
theorem k_fz1(n:Nat)(t:T):kFz1 n (some t)=some (t,.fz,n):=rfl
def kTru1(n:Nat):Option Bool->Option (Bool × Nat)
 |some b=>some (b,n)
 |none=>none
def kTru:Option (T × Md × Nat)->Option (Bool × Nat)
 |some (t,_,n)=>kTru1 n (tru t)
 |none=>none
theorem a_tru(d:DE)(ρ:En)(n:Nat):dTru d ρ n=kTru (d ρ n):=by
 unfold dTru;cases d ρ n with
 |none=>rfl
 |some x=>obtain⟨t,m,n1⟩:=x;show (tru t).map _=kTru1 n1 (tru t);cases tru t<;>rfl
theorem k_tru(t:T)(m:Md)(n:Nat):kTru (some (t,m,n))=kTru1 n (tru t):=rfl
theorem k_tru1(n:Nat)(b:Bool):kTru1 n (some b)=some (b,n):=rfl
def kNot:Option (Bool × Nat)->Option (Bool × Nat)
 |some (b,n)=>some (!b,n)
 |none=>none
theorem a_not(c:DT)(ρ:En)(n:Nat):dNot c ρ n=kNot (c ρ n):=by unfold dNot;cases c ρ n<;>rfl
theorem k_not(b:Bool)(n:Nat):kNot (some (b,n))=some (!b,n):=rfl
theorem a_and(a b:DT)(ρ:En)(n:Nat):dAnd a b ρ n=kIf (b ρ) (fun n=>some (false,n)) (a ρ n):=by unfold dAnd;cases a ρ n<;>rfl
theorem a_or(a b:DT)(ρ:En)(n:Nat):dOr a b ρ n=kIf (fun n=>some (true,n)) (b ρ) (a ρ n):=by unfold dOr;cases a ρ n<;>rfl
def kRes:Option (T × Bool × Nat)->Option (T × Md × Nat)
 |some (t,b,n)=>some (t,md b,n)
 |none=>none
def kCall(ar:Nat)(f:Fn):Option (List (T × Bool) × Nat)->Option (T × Md × Nat)
 |some (ts,n)=>if ts.length=ar then kRes (f ts n) else none
 |none=>none
theorem a_call(ar:Nat)(f:Fn)(a:DB)(ρ:En)(n:Nat):dCall ar f a ρ n=kCall ar f (a ρ n):=by
 unfold dCall;cases a ρ n with
 |none=>rfl
 | some x =>
  obtain⟨ts,n1⟩:=x;show (if ts.length=ar then (f ts n1).map _ else none)=if ts.length=ar then kRes (f ts n1) else none
  cases f ts n1<;>rfl
theorem k_call0(ar:Nat)(f:Fn)(ts:List (T × Bool))(n:Nat):kCall ar f (some (ts,n))=if ts.length=ar then kRes (f ts n) else none:=rfl
theorem k_res(t:T)(b:Bool)(n:Nat):kRes (some (t,b,n))=some (t,md b,n):=rfl
theorem a_k(t:T)(ρ:En)(n:Nat):dK t ρ n=some (t,.fz,n):=rfl
theorem a_nil(ρ:En)(n:Nat):dNil ρ n=some ([],n):=rfl
theorem a_bnil(ρ:En)(n:Nat):bNil ρ n=some ([],n):=rfl
theorem a_skip(ρ:En)(n:Nat):aCi ρ n=some (.nx,ρ,n):=rfl
def kTup:Option (List T × Nat)->Option (T × Md × Nat)
 |some (ts,n)=>if ts.length<=big then some (.tup ts,.fz,n) else none
 |none=>none
theorem a_tup(a:DA)(ρ:En)(n:Nat):dTup a ρ n=kTup (a ρ n):=by unfold dTup;cases a ρ n<;>rfl
theorem k_tup(ts:List T)(n:Nat):kTup (some (ts,n))=if ts.length<=big then some (.tup ts,.fz,n) else none:=rfl
def kPut1(n:Nat):Option En->Option (Fl × En × Nat)
 |some ρ=>some (.nx,ρ,n)
 |none=>none
def kPut(put:T->En->Option En)(ρ:En):Option (T × Md × Nat)->Option (Fl × En × Nat)
 |some (t,_,n)=>kPut1 n (put t ρ)
 |none=>none
theorem a_put(put:T->En->Option En)(d:DE)(ρ:En)(n:Nat):dPut put d ρ n=kPut put ρ (dFz d ρ n):=by
 unfold dPut;cases dFz d ρ n with
 |none=>rfl
 |some x=>obtain⟨t,m,n1⟩:=x;show (put t ρ).map _=kPut1 n1 (put t ρ);cases put t ρ<;>rfl
theorem k_put(put:T->En->Option En)(ρ:En)(t:T)(m:Md)(n:Nat):kPut put ρ (some (t,m,n))=kPut1 n (put t ρ):=rfl
theorem k_put1(n:Nat)(ρ:En):kPut1 n (some ρ)=some (.nx,ρ,n):=rfl
def kAndV(b:DE)(ρ:En):Option (T × Md × Nat)->Option (T × Md × Nat)
 |some (.bl true,_,n)=>b ρ n
 |some (.bl false,_,n)=>some (.bl false,.fz,n)
 |_=>none
theorem a_andV(a b:DE)(ρ:En)(n:Nat):aXz a b ρ n=kAndV b ρ (a ρ n):=by
 unfold aXz;cases a ρ n with
 |none=>rfl
 | some x =>
  obtain⟨t,m,n1⟩:=x;cases t with
  |bl c=>cases c<;>rfl
  |_=>rfl
theorem k_andV1(b:DE)(ρ:En)(m:Md)(n:Nat):kAndV b ρ (some (.bl true,m,n))=b ρ n:=rfl
theorem k_andV2(b:DE)(ρ:En)(m:Md)(n:Nat):kAndV b ρ (some (.bl false,m,n))=some (.bl false,.fz,n):=rfl
theorem aEt(i:Int):isTy .int (.int i)=some true:=rfl
theorem aEx(i:Int):isTy .bool (.int i)=some false:=rfl
theorem aEn(a:List T):isTy .tuple (.tup a)=some true:=rfl
theorem aEy(a:List T):isTy .list (.lst a)=some true:=rfl
theorem aEq(a:PySem.Str):isTy .str (.str a)=some true:=rfl
theorem aGu(n:Nat)(a b:Int):pAdd n [.int a,.int b]=some (.int (a+b),.fz):=rfl
theorem aMe(n:Nat)(a b:List T):pAdd n [.tup a,.tup b]=if a.length+b.length<=big then some (.tup (a++b),.fz) else none:=rfl
theorem bB2(n:Nat)(a b:List T):pAdd n [.lst a,.lst b]=if a.length+b.length<=big then some (.lst (a++b),.own) else none:=rfl
theorem aXk(n:Nat)(a:List T)(i:Int):pGet n [.lst a,.int i]=(at? a i).map fun t=>(t,.fz):=rfl
theorem aR7(n:Nat)(a:List T)(i:Int):pGet n [.tup a,.int i]=(at? a i).map fun t=>(t,.fz):=rfl
theorem bAo(n:Nat)(a:List (Ky × T))(k:T):pGet n [.dic a,k]=(keyOf k).bind fun k=>(aFi a k).map fun t=>(t,.fz):=rfl
theorem aGa(n:Nat)(a:List T):pLen n [.lst a]=some (.int a.length,.fz):=rfl
theorem aC1(n:Nat)(a:List T):pLen n [.tup a]=some (.int a.length,.fz):=rfl
theorem aIg(n:Nat):pLen n [.town]=some (.int n,.fz):=rfl
theorem aIb(n:Nat)(a:List (Ky × T)):pLen n [.dic a]=some (.int a.length,.fz):=rfl
theorem q_mul1(n:Nat)(a b:Int):pMul n [.int a,.int b]=if small a||small b then some (.int (a*b),.fz) else none:=rfl
theorem q_tup1(n:Nat)(a:List T):aTt n [.lst a]=some (.tup a,.fz):=rfl
theorem q_list1(n:Nat)(a:List T):aXw n [.tup a]=some (.lst a,.own):=rfl
theorem q_ext1(a b:List T):extT (.lst a) (.lst b)=if a.length+b.length<=big then some (.lst (a++b)) else none:=rfl
theorem aZb(n:Nat)(a b:Int):pEq n [.int a,.int b]=some (.bl (a==b),.fz):=rfl
theorem bA2(n:Nat)(a b:T):pEq n [a,b]=(eqP a b).map fun r=>(.bl r,.fz):=rfl
theorem q_neP(n:Nat)(a b:T):pNe n [a,b]=(eqP a b).map fun r=>(.bl (!r),.fz):=rfl
theorem q_dget(n:Nat)(a:List (Ky × T))(k x:T):aFu n [.dic a,k,x]=if aDx x then none else (keyOf k).map fun k=>((aFi a k).getD x,.fz):=rfl
theorem q_set2(a:List (Ky × T))(k v:T):setL (.dic a) k v=(keyOf k).bind fun k=>if a.length<big then some (.dic (aDc a k v)) else none:=rfl
theorem bBq(n:Nat)(a:List T):pAll n [.lst a]=(boolsOf a).map fun bs=>(.bl (bs.all id),.fz):=rfl
theorem q_tru1(b:Bool):tru (.bl b)=some b:=rfl
theorem q_tru2(i:Int):tru (.int i)=some (i != 0):=rfl
theorem q_tru3(a:List T):tru (.lst a)=some (!a.isEmpty):=rfl
theorem q_tru4(a:List T):tru (.tup a)=some (!a.isEmpty):=rfl
theorem q_tru5(a:List (Ky × T)):tru (.dic a)=some (!a.isEmpty):=rfl
theorem q_tru6:tru .non=some false:=rfl
def kRv(ρ:En)(n:Nat):Option (Option (T × Md))->Option (Fl × En × Nat)
 |some (some (t,.own))=>some (.rt t true,ρ,n)
 |some (some (t,.fz))=>some (.rt t false,ρ,n)
 |some (some (t,.bor))=>if aDx t then none else some (.rt t false,ρ,n)
 |_=>none
theorem a_rv(i:Nat)(ρ:En)(n:Nat):aF2 i ρ n=kRv ρ n ρ[i]?:=by unfold aF2 kRv;rfl
theorem k_rv1(ρ:En)(n:Nat)(t:T):kRv ρ n (some (some (t,.own)))=some (.rt t true,ρ,n):=rfl
theorem k_rv2(ρ:En)(n:Nat)(t:T):kRv ρ n (some (some (t,.fz)))=some (.rt t false,ρ,n):=rfl
end L2.Ds
local macro_rules | `(tactic| simp_arith [$l,*]) => `(tactic| simp [L2.Ds.fnD, L2.Ds.aFv, L2.Ds.aFd, L2.Ds.k_seq2, L2.Ds.a_ifS, L2.Ds.a_if, L2.Ds.k_if1, L2.Ds.k_if2, L2.Ds.a_set, L2.Ds.k_set1, L2.Ds.k_set2, L2.Ds.a_ret, L2.Ds.k_ret1, L2.Ds.k_ret2, L2.Ds.a_var, L2.Ds.k_var, L2.Ds.a_pr, L2.Ds.k_pr, L2.Ds.k_pr1, L2.Ds.a_cons, L2.Ds.k_cons, L2.Ds.k_cons1, L2.Ds.a_b, L2.Ds.k_b, L2.Ds.k_b1, L2.Ds.a_fz, L2.Ds.k_fz, L2.Ds.k_fz1, L2.Ds.a_tru, L2.Ds.k_tru, L2.Ds.k_tru1, L2.Ds.a_not, L2.Ds.k_not, L2.Ds.a_and, L2.Ds.a_or, L2.Ds.a_call, L2.Ds.k_call0, L2.Ds.k_res, L2.Ds.a_k, L2.Ds.a_nil, L2.Ds.a_bnil, L2.Ds.a_skip, L2.Ds.a_tup, L2.Ds.k_tup, L2.Ds.a_put, L2.Ds.k_put, L2.Ds.k_put1, L2.Ds.a_andV, L2.Ds.k_andV1, L2.Ds.k_andV2, L2.Ds.frz, L2.Ds.look, L2.Ds.aDx, L2.Ds.flag, L2.Ds.md, L2.Ds.q_tru1, L2.Ds.q_tru2, L2.Ds.q_tru3, L2.Ds.q_tru4, L2.Ds.q_tru5, L2.Ds.q_tru6, L2.Ds.a_rv, L2.Ds.k_rv1, L2.Ds.k_rv2, L2.Ds.aB0, L2.Ds.aZ4, $l,*])
namespace Dd
open PySem L2 L2.Ds
def aGy:DS:=(dSeq (dIfS (dOr (dNot (dTru (dPr (pIsI .int) (aAa (dVar 0) dNil)))) (dTru (dPr (pIsI .bool) (aAa (dVar 0) dNil)))) (dRet (dK (.bl false))) aCi) (dRet (aBn pLe pLe (dVar 1) (dVar 0) (dVar 2))))
def aA8:Fn:=fnD 3 (aGy)
def aHt:DE:=aCs (dIt (dVar 0)) (srcOf [none,some 0]) (putAt 0) yes (dCall 3 aA8 (aAd (dVar 0) (aAd (dK (.int 0)) (aAd (dK (.int 30)) bNil))))
def aGn:DS:=(dSeq (dIfS (dOr (dNot (dTru (dPr (pIsI .tuple) (aAa (dVar 0) dNil)))) (dNot (dTru (aBn pLe pLe (dK (.int 1)) (dPr pLen (aAa (dVar 0) dNil)) (dK (.int 8)))))) (dRet (dK (.bl false))) aCi) (dSeq (aC8 0 (dIfS (dNot (dTru (dPr pAll (aAa aHt dNil)))) (dRet (dK (.bl false))) aCi)) (dRet (dPr pEq (aAa (dPr aXw (aAa (dVar 0) dNil)) (aAa (dPr aIc (aAa (dVar 0) dNil)) dNil))))))
def aBr:Fn:=fnD 1 (aGn)
def aIo:DE:=aCs (dIt (dVar 0)) (srcOf [none,some 0]) (putAt 0) yes (dCall 1 aBr ZD)
def aF5:DS:=(dSeq (dIfS (dOr (dNot (dTru (dPr (pIsI .tuple) (aAa (dVar 0) dNil)))) (dNot (dTru (aBn pLe pLe (dK (.int 1)) (dPr pLen (aAa (dVar 0) dNil)) (dK (.int 4)))))) (dRet (dK (.bl false))) aCi) (aC8 0 (dRet (dPr pAll (aAa aIo dNil)))))
def aBq:Fn:=fnD 1 (aF5)
def aLl:DS:=(dSeq (dIfS (dOr (dNot (dTru (dPr (pIsI .tuple) (aAa (dVar 0) dNil)))) (dTru (dPr pNe (aAa (dPr pLen (aAa (dVar 0) dNil)) (aAa (dK (.int 2)) dNil))))) (dRet (dK (.bl false))) aCi) (dRet (aXz (dCall 3 aA8 (aAd (dPr pGet (aAa (dVar 0) (aAa (dK (.int 0)) dNil))) (aAd (dK (.int 0)) (aAd (dK (.int 120)) bNil)))) (dCall 3 aA8 (aAd (dPr pGet (aAa (dVar 0) (aAa (dK (.int 1)) dNil))) (aAd (dK (.int 1)) (aAd (dK (.int 4096)) bNil)))))))
def aGs:Fn:=fnD 1 (aLl)
def aI1:DE:=aCs (dIt (dVar 0)) (srcOf [none,some 0,some 1]) (putAt 0) yes (dCall 1 aGs ZD)
def aI5:DE:=aCs (dIt (dVar 0)) (srcOf [none,some 0,some 1]) (putAt 0) yes (dPr pGet (aAa (dVar 0) (aAa (dK (.int 0)) dNil)))
def aG8:DS:=(dSeq (dIfS (dOr (dNot (dTru (dPr (pIsI .list) (aAa (dVar 0) dNil)))) (dNot (dTru (dVar 0)))) (dRet (dK (.bl false))) aCi) (dSeq (aC8 0 (dIfS (dNot (dTru (dPr pAll (aAa aI1 dNil)))) (dRet (dK (.bl false))) aCi)) (dSeq (aC8 0 (dSet 1 aI5)) (dRet (dPr pEq (aAa (dVar 1) (aAa (dPr bBc (aAa (dVar 1) dNil)) dNil)))))))
def aDd:Fn:=fnD 2 (aG8)
def aHv:DS:=(dIfS (dNot (dTru (dCall 3 aA8 (aAd (dVar 0) (aAd (dVar 1) (aAd (dVar 2) bNil)))))) aA0 aCi)
def aBw:Fn:=fnD 3 (aHv)
def aFk:DX:=(xIf (dNot (dTru (dCall 3 aA8 (aAd (dVar 0) (aAd (dVar 1) (aAd (dVar 2) bNil)))))) (aIf 3 (vI (dVar 1) (vI (dVar 2) vK))) xNo)
def aAv:FnX:=fnX 3 aFk
def aL6:DS:=(dIfS (dNot (dTru (dCall 1 aBr ZD))) aA0 aCi)
def aAx:Fn:=fnD 1 (aL6)
def aIu:DX:=(xIf (dNot (dTru (dCall 1 aBr ZD))) (aIf 0 vK) xNo)
def aAh:FnX:=fnX 1 aIu
def aKv:DS:=(dIfS (dNot (dTru (dCall 1 aBq ZD))) aA0 aCi)
def aAo:Fn:=fnD 1 (aKv)
def aG0:DX:=(xIf (dNot (dTru (dCall 1 aBq ZD))) (aIf 1 vK) xNo)
def aAe:FnX:=fnX 1 aG0
def aFj:DS:=(dIfS (dNot (dTru (dCall 1 aDd ZD))) aA0 aCi)
def aBv:Fn:=fnD 1 (aFj)
def aFm:DX:=(xIf (dNot (dTru (dCall 1 aDd ZD))) (aIf 2 vK) xNo)
def aBg:FnX:=fnX 1 aFm
def aLs:DS:=ZE
def aL7:DS:=dFor (dItS (dVar 2)) (putAt 5) aLs
def aLv:DS:=(dFrz 2 aL7)
def aMa:DS:=dFor (dItS (dVar 1)) (putAt 4) aLv
def aMb:DS:=(dSeq (dSet 3 aQt) (dSeq (dFrz 1 aMa) (aDv 1 3)))
def aL4:DS:=dFor (dItS (dVar 0)) (putAt 2) aMb
def aTm:DS:=(dSeq (dSet 1 (dDic1 (dK (.int 0)) (dFz (dK (.int 1))))) (dSeq (dFrz 0 aL4) (aF2 1)))
def aF7:Fn:=fnD 6 (aTm)
def aWc:DS:=(dSeq (aB0 (dCall 1 aAo ZD)) (dRet (dPr aG2 (aAa (dCall 1 aF7 ZD) dNil))))
def aDk:Fn:=fnD 1 (aWc)
def x_totals:DX:=(xSeq (aAy 1 aAe ZD) (aB0 (dCall 1 aAo ZD)) xNo)
def aF6:FnX:=fnX 1 x_totals
def b_ways:DS:=(dSeq (aB0 (dCall 1 aAo ZD)) (dSeq (aB0 (dCall 3 aBw (aAd (dVar 1) (aAd (dK (.int 0)) (aAd (dK (.int 120)) bNil))))) (dRet (dPr aFu (aAa (dCall 1 aF7 ZD) (aAa (dVar 1) (aAa (dK (.int 0)) dNil)))))))
def aJb:Fn:=fnD 2 (b_ways)
def aW9:DX:=(xSeq (aAy 1 aAe ZD) (aB0 (dCall 1 aAo ZD)) (xSeq (aAy 3 aAv (aAd (dVar 1) (aAd (dK (.int 0)) (aAd (dK (.int 120)) bNil)))) (aB0 (dCall 3 aBw (aAd (dVar 1) (aAd (dK (.int 0)) (aAd (dK (.int 120)) bNil))))) xNo))
def aGz:FnX:=fnX 2 aW9
def aWu:DE:=aCs (dIt (dVar 2)) (srcOf [none,some 0,some 1,some 2,some 3,some 4]) (putAt 0) yes (dPr pAdd (aAa (dVar 5) (aAa (dTup (aAa (dFz (dVar 0)) dNil)) dNil)))
def aWs:DS:=(aC8 2 (dChg 3 extT aWu))
def aW2:DS:=dFor (dItS (dVar 1)) (putAt 4) aWs
def aWd:DS:=(dSeq (dSet 3 (dLst dNil)) (dSeq (dFrz 1 aW2) (aDv 1 3)))
def aMn:DS:=dFor (dItS (dVar 0)) (putAt 2) aWd
def aZd:DS:=(dSeq (aB0 (dCall 1 aAo ZD)) (dSeq (dSet 1 (dLst (aAa (dFz (dTup dNil)) dNil))) (dSeq (dFrz 0 aMn) (dRet (dPr aG6 (aAa (dVar 1) dNil))))))
def aEr:Fn:=fnD 5 (aZd)
def x_rolls:DX:=(xSeq (aAy 1 aAe ZD) (aB0 (dCall 1 aAo ZD)) xNo)
def aHx:FnX:=fnX 5 x_rolls
def x_parted:DX:=(xSeq (aAy 1 aAe ZD) (aB0 (dCall 1 aAo ZD)) (xSeq (aAy 1 aAe ZM) (aB0 (dCall 1 aAo ZM)) xNo))
def aDq:FnX:=fnX 5 x_parted
def x_alike:DX:=(aAy 2 aDq (aAd (dVar 0) ZM))
def aFl:FnX:=fnX 2 x_alike
def aZh:DE:=aCs (dIt (dVar 0)) (srcOf [none,some 0,some 1]) (putAt 0) (dTru (dPr pLt (aAa (dVar 0) (aAa (dVar 2) dNil)))) (dVar 0)
def b_lesser:DS:=(aC8 0 (dRet (dPr pLen (aAa aZh dNil))))
def aV8:Fn:=fnD 2 (b_lesser)
def c0_wins:DE:=aCs (dIt (dVar 0)) (srcOf [none,some 0,some 1,some 2,some 3]) (putAt 0) yes (dCall 2 aV8 (aAd (dVar 2) ZD))
def c1_wins:DE:=aCs (dIt (dVar 0)) (srcOf [none,some 0,some 1,some 2,some 3]) (putAt 0) yes (dPr bA4 (aAa (dVar 2) (aAa (dVar 0) dNil)))
def b_wins:DS:=(dSeq (aB0 (dCall 1 aAx ZD)) (dSeq (aB0 (dCall 1 aAx ZM)) (dSeq (aC8 0 (dSet 2 (dPr aU5 (aAa c0_wins dNil)))) (dSeq (aC8 0 (dSet 3 (dPr aU5 (aAa c1_wins dNil)))) (dRet (dTup (aAa (dFz (dVar 2)) (aAa (dFz (dVar 3)) (aAa (dFz (dPr pSub (aAa (dPr pSub (aAa (dPr pMul (aAa (dPr pLen (aAa (dVar 0) dNil)) (aAa (dPr pLen (aAa (dVar 1) dNil)) dNil))) (aAa (dVar 2) dNil))) (aAa (dVar 3) dNil)))) dNil)))))))))
def aXc:Fn:=fnD 4 (b_wins)
def x_wins:DX:=(xSeq (aAy 1 aAh ZD) (aB0 (dCall 1 aAx ZD)) (xSeq (aAy 1 aAh ZM) (aB0 (dCall 1 aAx ZM)) xNo))
def aEv:FnX:=fnX 4 x_wins
def x_beats:DX:=(xSeq (aAy 2 aEv (aAd (dVar 0) ZM)) (dSet 2 (dCall 2 aXc (aAd (dVar 0) ZM))) xNo)
def aFg:FnX:=fnX 3 x_beats
def aVt:DX:=(xSeq (aAy 1 aAe ZD) (aB0 (dCall 1 aAo ZD)) xNo)
def aEf:FnX:=fnX 1 aVt
def bA1:DX:=(xSeq (aAy 1 aAe ZD) (aB0 (dCall 1 aAo ZD)) xNo)
def aGp:FnX:=fnX 2 bA1
def x_order:DX:=(xSeq (aAy 1 aAe ZD) (aB0 (dCall 1 aAo ZD)) xNo)
def aJz:FnX:=fnX 5 x_order
def x_chance:DX:=(xSeq (aAy 1 aAe ZD) (aB0 (dCall 1 aAo ZD)) (xSeq (aAy 3 aAv (aAd (dVar 1) (aAd (dK (.int 0)) (aAd (dK (.int 999)) bNil)))) (aB0 (dCall 3 aBw (aAd (dVar 1) (aAd (dK (.int 0)) (aAd (dK (.int 999)) bNil))))) xNo))
def aHu:FnX:=fnX 2 x_chance
def aKz:DX:=(xSeq (aAy 1 aBg ZD) (aB0 (dCall 1 aBv ZD)) (xSeq (aAy 1 aAh ZM) (aB0 (dCall 1 aAx ZM)) xNo))
def aGl:FnX:=fnX 8 aKz
def aYd:DX:=(xSeq (aAy 1 aAh ZD) (aB0 (dCall 1 aAx ZD)) (xSeq (aAy 1 aAh ZM) (aB0 (dCall 1 aAx ZM)) (xSeq (aAy 3 aAv (aAd (dVar 2) (aAd (dK (.int 0)) (aAd (dK (.int 30)) bNil)))) (aB0 (dCall 3 aBw (aAd (dVar 2) (aAd (dK (.int 0)) (aAd (dK (.int 30)) bNil))))) xNo)))
def aCz:FnX:=fnX 5 aYd
def aHz:DS:=(dSeq (dIfS (dTru (dPr pLt (aAa (dVar 1) (aAa (dPr pLen (aAa (dVar 0) dNil)) dNil)))) (dRet (dPr pGet (aAa (dVar 0) (aAa (dVar 1) dNil)))) aCi) (dSeq (dIfS (dTru (dPr pEq (aAa (dVar 0) (aAa (dLst dNil) dNil)))) (dRet (dK (.int 0))) aCi) (dRet (dPr pAdd (aAa (dPr pMul (aAa (dPr pGet (aAa (dVar 0) (aAa (dPr pMod (aAa (dVar 1) (aAa (dPr pLen (aAa (dVar 0) dNil)) dNil))) dNil))) (aAa (dK (.int 31)) dNil))) (aAa (dVar 1) dNil))))))
def aD2:Fn:=fnD 2 (aHz)
def aHn:DS:=(dSeq (dSet 3 (dPr pMod (aAa (dPr pMul (aAa (dPr pAdd (aAa (dPr pAdd (aAa (dCall 2 aD2 (aAd (dVar 0) ZM)) (aAa (dPr pMul (aAa (dK (.int 7919)) (aAa (dVar 1) dNil))) dNil))) (aAa (dK (.int 1)) dNil))) (aAa (dK (.int 48271)) dNil))) (aAa (dK (.int 2147483647)) dNil)))) (dRet (dPr pMod (aAa (dPr pMod (aAa (dPr pAdd (aAa (dPr pAdd (aAa (dPr pMul (aAa (dVar 3) (aAa (dVar 3) dNil))) (aAa (dPr pMul (aAa (dK (.int 7)) (aAa (dVar 3) dNil))) dNil))) (aAa (dVar 1) dNil))) (aAa (dK (.int 2147483629)) dNil))) (aAa (dVar 2) dNil)))))
def aDy:Fn:=fnD 4 (aHn)
def aIv:DS:=(dSeq (aZ4 1) (dRet (dCall 3 aDy (aAd (dVar 0) (aAd (dPr pLen (aAa (dVar 1) dNil)) (aAd (dVar 2) bNil))))))
def aAs:Fn:=fnD 3 (aIv)
def aI6:DS:=(dRet (dPr pGet (aAa (dVar 2) (aAa (dCall 3 aAs (aAd (dVar 0) (aAd (dVar 1) (aAd (dPr pLen (aAa (dVar 2) dNil)) bNil)))) dNil))))
def aBt:Fn:=fnD 3 (aI6)
def aI4:DE:=aCs (aHq (aAa (dVar 2) dNil)) (srcOf [none,some 0,some 1,some 2,some 3,some 4,some 5,some 6]) (putAt 0) yes (dPr pMin (aAa (dVar 4) (aAa (dPr pAdd (aAa (dVar 5) (aAa (dCall 3 aAs (aAd (dVar 1) (aAd (dVar 2) (aAd (dVar 6) bNil)))) dNil))) dNil)))
def aKf:DS:=(dSeq (dSet 4 (dCall 3 aBt (aAd (dVar 0) (aAd (dVar 1) (aAd (dLst (aAa (dFz (dK (.int 0))) (aAa (dFz (dK (.int 0))) (aAa (dFz (dK (.int 1))) (aAa (dFz (dK (.int 1))) (aAa (dFz (dCall 3 aAs (aAd (dVar 0) (aAd (dVar 1) (aAd (dK (.int 20)) bNil))))) dNil)))))) bNil))))) (dSeq (dSet 5 (dCall 3 aBt (aAd (dVar 0) (aAd (dVar 1) (aAd (dLst (aAa (dFz (dK (.int 1))) (aAa (dFz (dK (.int 3))) (aAa (dFz (dK (.int 6))) (aAa (dFz (dK (.int 12))) dNil))))) bNil))))) (dSeq (dSet 6 aI4) (dRet (dPr aTt (aAa (dPr aIc (aAa (dVar 6) dNil)) dNil))))))
def aDi:Fn:=fnD 7 (aKf)
def aIe:DE:=aCs (aHq (aAa (dVar 2) dNil)) (srcOf [none,some 0,some 1,some 2,some 3]) (putAt 0) yes (dCall 4 aDi (aAd (dVar 1) (aAd (dVar 2) (aAd (dPr pAdd (aAa (dK (.int 1)) (aAa (dCall 3 aAs (aAd (dVar 1) (aAd (dVar 2) (aAd (dVar 4) bNil)))) dNil))) (aAd (dK (.int 30)) bNil)))))
def aIy:DS:=(dRet (dPr aTt (aAa aIe dNil)))
def aCk:Fn:=fnD 4 (aIy)
def aIw:DE:=aCs (dIt (dVar 2)) (srcOf [none,some 0,some 1,some 2,some 3,some 4]) (putAt 0) yes (dPr pAdd (aAa (dVar 5) (aAa (dTup (aAa (dFz (dVar 0)) dNil)) dNil)))
def aJc:DS:=(aC8 2 (dChg 3 extT aIw))
def aI0:DS:=dFor (dItS (dVar 1)) (putAt 4) aJc
def aJf:DS:=(dSeq (dSet 3 (dLst dNil)) (dSeq (dFrz 1 aI0) (aDv 1 3)))
def aGc:DS:=dFor (dItS (dVar 0)) (putAt 2) aJf
def aKb:DS:=(dSeq (dSet 1 (dLst (aAa (dFz (dTup dNil)) dNil))) (dSeq (dFrz 0 aGc) (aF2 1)))
def aDh:Fn:=fnD 5 (aKb)
def aC3:DS:=(aGb 1 setL (dPr aU5 (aAa (dVar 2) dNil)) (dPr pAdd (aAa (dPr aFu (aAa (dVar 1) (aAa (dPr aU5 (aAa (dVar 2) dNil)) (aAa (dK (.int 0)) dNil)))) (aAa (dK (.int 1)) dNil))))
def aC9:DS:=dFor (dItS (dCall 1 aDh ZD)) (putAt 2) aC3
def aGw:DS:=(dSeq (dSet 1 aQt) (dSeq aC9 (dRet (dPr aG2 (aAa (dVar 1) dNil)))))
def aCf:Fn:=fnD 3 (aGw)
def aH0(e:Nat)(fl:Nat->Bool):DS:=(dSeq (dSet 1 (dLst (aAa (dFz (dPr (pAt e (fl 0)) (aAa (dVar 0) dNil))) (aAa (dFz (dPr (pAt e (fl 1)) (aAa (dVar 0) dNil))) (aAa (dFz (dPr (pAt e (fl 2)) (aAa (dVar 0) dNil))) (aAa (dFz (dPr (pAt e (fl 3)) (aAa (dVar 0) dNil))) dNil)))))) (dSeq (dChg 1 extT (dLst (aAa (dFz (dPr (pAt e (fl 4)) (aAa (dVar 0) dNil))) (aAa (dFz (dPr (pAt e (fl 5)) (aAa (dVar 0) dNil))) dNil)))) (dSeq (dIfS (dOr (dTru (dPr pNe (aAa (dPr aVl (aAa (dVar 1) (aAa (dK (.bl true)) dNil))) (aAa (dK (.int 1)) dNil)))) (dNot (dTru (dPr (pAt e (fl 11)) (aAa (dVar 0) dNil))))) (dRet (dTup (aAa (dFz (dK (.str "refused"))) (aAa (dFz (dPr pNeg (aAa (dK (.int 1)) dNil))) dNil)))) aCi) (dRet (dTup (aAa (dFz (dK (.str "refused"))) (aAa (dFz (dPr aMj (aAa (dVar 1) (aAa (dK (.bl true)) dNil)))) dNil)))))))
def aBu(e:Nat)(fl:Nat->Bool):Fn:=fnD 2 (aH0 e fl)
def aC7:Nat->Option T:=fun c=>if c<6 then some (.tup [.str "refused",.int c]) else none
def aDu:Fn:=fnD 5 aA0
end Dd
namespace Dm
open PySem L2 L2.Ds
theorem aYe(e n:Nat)(fl:Nat->Bool)(i:Int)(h1:aVl n [.lst [.bl (fl 0),.bl (fl 1),.bl (fl 2),.bl (fl 3),.bl (fl 4),.bl (fl 5)],.bl true]=some (.int 1,.fz))(h2:fl 11=true)(h3:aMj n [.lst [.bl (fl 0),.bl (fl 1),.bl (fl 2),.bl (fl 3),.bl (fl 4),.bl (fl 5)],.bl true]=some (.int i,.fz)):Dd.aBu e fl [(.ob e,true)] n=some (.tup [.str "refused",.int i],false,n):=by have q:∀b,pAt e b n [.ob e]=some (.bl b,.fz):=fun b=>if_pos rfl;have q1:pNe n [.int 1,.int 1]=some (.bl false,.fz):=rfl;unfold Dd.aBu Dd.aH0;simp_arith [dLst,q,dChg,q_ext1,big,h1,h2,h3,q1]
theorem aWw(e n c:Nat)(h:c<6):Dd.aBu e (fun j=>j==c||j==11) [(.ob e,true)] n=some (.tup [.str "refused",.int c],false,n):=by
 have:c=0\/c=1\/c=2\/c=3\/c=4\/c=5:=by omega
 rcases this with rfl |rfl |rfl |rfl |rfl |rfl<;>exact aYe e n _ _ rfl rfl rfl
end Dm
namespace Dm
open PySem L2 L2.Ds Dd
theorem cell_at(ns:List Int)(k:Int)(hk:0<=k)(n:Nat):∃c,aD2 [(.lst (ns.map .int),false),(.int k,true)] n=some (.int c,false,n):=by
 unfold aD2 aHz;by_cases h:k<ns.length
 ·obtain⟨c,_,e⟩:=bBu ns k hk h;refine⟨c,?_⟩;simp_arith [aFn,pLt,pI2,aGa,aC1,aIg,aIb,aXk,aR7,bAo,h,e]
 ·cases hns:ns with
  | nil =>
   refine⟨0,?_⟩;subst hns;have:¬k<0:=by lia
   have he:pEq n [.lst [],.lst []]=some (.bl true,.fz):=rfl;simp_arith [aFn,pLt,pI2,aGa,he,dLst,this]
  | cons x xs =>
   rw[<-hns];have hl':0<ns.length:=by rw[hns];simp
   have hl:(0:Int)<ns.length:=by lia
   have m0:=jW k (b:=ns.length) ZB;have m1:=jE k hl;obtain⟨c,_,e⟩:=bBu ns (k%ns.length) m0 m1;have hq:eqP (.lst (ns.map T.int)) (.lst [])=some false:=by have hp:=aIs 5 ns;show (if (aAr 6 (.lst (ns.map T.int))&&aAr 6 (.lst []))=true then some (eqT (.lst (ns.map T.int)) (.lst [])) else none)=_;rw[show aAr 6 (.lst (ns.map T.int))=true from hp];subst hns;rfl
   refine⟨c*31+k,?_⟩;simp_arith [aFn,pLt,pI2,aGa,aC1,aIg,aIb,aXk,aR7,bAo,h,e,bA2,hq,dLst,pMod,hl',q_mul1,aGu,aMe,bB2,small]
structure Die (most:Nat) (d:List Int):Prop where
 one:1<=d.length
 most:d.length<=most
 rng:∀x∈d,0<=x/\x<=30
 up:d.Pairwise (· <= ·)
structure Dice (most faces:Nat) (ds:List (List Int)):Prop where
 one:1<=ds.length
 most:ds.length<=most
 die:∀d∈ds,Die faces d
theorem aF0(i lo hi:Int)(n:Nat)(h1:lo<=i)(h2:i<=hi):aA8 [(.int i,true),(.int lo,true),(.int hi,true)] n=some (.bl true,false,n):=by unfold aA8 aGy;simp_arith [aFn,pIsI,aEt,aEx,aEn,aEy,aEq,aBn,pLe,pI2,h1,h2]
theorem aWo{F:Nat}(h:Die F d)(hF:F<=8)(n:Nat):aBr [(tupT d,true)] n=some (.bl true,false,n):=by
 have hB:big=1000000:=rfl;have l1:=h.one;have l2:=h.most;have e2:aHt [some (.tup (d.map .int),.fz)] n=some (.lst (d.map fun _=>T.bl true),.own,n) :=
  aEd d T.int (fun _=>.bl true) rfl ZB fun y hy=>by have hi:=h.rng y hy;simp_arith [aFn,srcOf,aF0 y 0 30 n hi.1 hi.2]
 obtain⟨bs,b1,b2⟩:=aG3 (fun _:Int=>T.bl true) d fun _ _=>rfl;simp at b2;have e3:sortI d=d:=(aWx (.refl d) h.up).symm;unfold aBr aGn;have l3:(1:Int)<=d.length:=by lia
 have l4:(d.length:Int)<=8:=by lia
 have hs4:d.length<64:=by lia
 have e4:aIc n [.tup (d.map T.int)]=some (.lst (d.map .int),.own):=by simp[aIc,aDj,e3,hs4]
 have e5:eqP (.lst (d.map T.int)) (.lst (d.map T.int))=some true:=aGm (aIs 5 d);generalize d.map (fun _=>T.bl true)=ts at e2 b1;unfold tupT;simp_arith [aFn,aC8,pIsI,aEt,aEx,aEn,aEy,aEq,aBn,pLe,pI2,aGa,aC1,aIg,aIb,l1,l3,l4,e2,e4,e5,q_list1,bA2,bBq,b1,b2]
theorem aVs{M F:Nat}(h:Dice M F ds)(hM:M<=4)(hF:F<=8)(n:Nat):aBq [(.tup (ds.map tupT),true)] n=some (.bl true,false,n):=by
 have hB:big=1000000:=rfl;have l1:=h.one;have l2:=h.most;have e2:aIo [some ZK] n=some (.lst (ds.map fun _=>T.bl true),.own,n) :=
  aEd ds tupT (fun _=>.bl true) rfl ZB fun d hd=>by simp_arith [aFn,srcOf,aWo (h.die d hd) hF n]
 obtain⟨bs,b1,b2⟩:=aG3 (fun _:List Int=>T.bl true) ds fun _ _=>rfl;have l3:(1:Int)<=ds.length:=by lia
 have l4:(ds.length:Int)<=4:=by lia
 simp at b2;generalize ds.map (fun _=>T.bl true)=ts at e2 b1;unfold aBq aF5;simp_arith [aFn,pIsI,aEt,aEx,aEn,aEy,aEq,aBn,pLe,pI2,aGa,aC1,aIg,aIb,l1,l3,l4,aC8,e2,bBq,b1,b2]
theorem need_die{F:Nat}(h:Die F d)(hF:F<=8)(n:Nat):aAx [(tupT d,true)] n=some (.non,false,n):=by unfold aAx aL6;simp_arith [aFn,aWo h hF n]
theorem aEc{M F:Nat}(h:Dice M F ds)(hM:M<=4)(hF:F<=8)(n:Nat):aAo [(.tup (ds.map tupT),true)] n=some (.non,false,n):=by unfold aAo aKv;simp_arith [aFn,aVs h hM hF n]
theorem aKp(i lo hi:Int)(n:Nat)(h1:lo<=i)(h2:i<=hi):aBw [(.int i,true),(.int lo,true),(.int hi,true)] n=some (.non,false,n):=by unfold aBw aHv;simp_arith [aFn,aF0 i lo hi n h1 h2]
def more(rows:List (List Int))(d:List Int):List (List Int):=rows.flatMap fun r=>d.map fun f=>r ++ [f]
def aCb(ds:List (List Int)):List (List Int):=ds.foldl more [[]]
theorem aHs(d:List Int):∀rows:List (List Int),(more rows d).length=rows.length*d.length
 |[]=>by simp[more]
 |r::rows=>by have:=aHs d rows;unfold more at this |-;rw[iK,bp,this,ak,ah,iy,Nat.add_comm]
theorem bBv(r d:List Int)(x0 x1 x3:Option (T × Md))(n:Nat)(hr:r.length<=10)(hd:d.length<=8) :
  aCs (dIt (dVar 2)) (srcOf [none,some 0,some 1,some 2,some 3,some 4]) (putAt 0) yes (dPr pAdd (aAa (dVar 5) (aAa (dTup (aAa (dFz (dVar 0)) dNil)) dNil))) [x0,x1,some (tupT d,.fz),x3,some (tupT r,.fz)] n=some (.lst ((d.map fun f=>r ++ [f]).map tupT),.own,n):=by
 have hB:big=1000000:=rfl;have e1:aEw (putAt 0) yes (dPr pAdd (aAa (dVar 5) (aAa (dTup (aAa (dFz (dVar 0)) dNil)) dNil))) (d.map T.int) [none,x0,x1,some (tupT d,.fz),x3,some (tupT r,.fz)] n []
   = some ([]++((d.map T.int).filter fun _=>true).map (fun t=>T.tup (r.map .int ++ [t])),n):=by
  refine aIp (R:=fun ρ=>∃a,ρ = [a,x0,x1,some (tupT d,.fz),x3,some (tupT r,.fz)]) (p:=fun _=>true) (f:=fun t=>T.tup (r.map .int ++ [t])) (d.map T.int) (fun x hx ρ n hR=>?_) _ n [] ⟨none,rfl⟩ (by simp;lia);obtain⟨a,rfl⟩:=hR;obtain⟨i,hi,rfl⟩:=fe.mp hx;refine⟨_,rfl,⟨_,rfl⟩,rfl,fun _=>?_⟩;have h1:r.length+1<=big:=by lia
  have h2:1<=big:=by lia
  simp_arith [aGu,aMe,bB2,tupT,dTup,h1,h2]
 have e2:((d.map T.int).filter fun _=>true).map (fun t=>T.tup (r.map .int ++ [t]))=(d.map fun f=>r ++ [f]).map tupT:=by rw[jA.mpr (fun _ _=>rfl),fc,fc];refine h9 fun f _=>?_;simp[tupT]
 rw[e2,gc] at e1;generalize (d.map fun f=>r ++ [f]).map tupT=out at e1 |-;have hs:srcOf [none,some 0,some 1,some 2,some 3,some 4] [x0,x1,some (tupT d,.fz),x3,some (tupT r,.fz)] = [none,x0,x1,some (tupT d,.fz),x3,some (tupT r,.fz)]:=rfl;unfold aCs;rw[show dIt (dVar 2) [x0,x1,some (tupT d,.fz),x3,some (tupT r,.fz)] n=some (d.map T.int,n) from rfl];simp only[aw];rw[hs,e1];rfl
theorem inner(d:List Int)(hd:d.length<=8)(x0 x1:Option (T × Md))(n:Nat):∀ (rows longer:List (List Int)) (c:Option (T × Md)),(∀r∈rows,r.length<=10)->longer.length+rows.length*d.length<=100000 ->
  ∃c',aC0 (putAt 4) (aC8 2 (dChg 3 extT ZJ)) (rows.map tupT) [x0,x1,some (tupT d,.fz),some (.lst (longer.map tupT),.own),c] n
   = some (.nx,[x0,x1,some (tupT d,.fz),some (.lst ((longer++more rows d).map tupT),.own),c'],n)
 |[],longer,c,_,_=>⟨c,by simp[aC0,more]⟩
 | r::rows,longer,c,hr,hl=>by
  have hB:big=1000000:=rfl;rw[ah,iy] at hl;obtain⟨c',e⟩:=inner d hd x0 x1 n rows (longer++d.map fun f=>r ++ [f]) (some (tupT r,.fz)) (fun r' hr'=>hr r' (am _ hr')) (by simp;lia);refine⟨c',?_⟩;have e1:=bBv r d x0 x1 (some (.lst (longer.map tupT),.own)) n (hr r (ao ..)) hd;have hz:longer.length+d.length<=big:=by lia
  rw[af];unfold aC0;have e2:aC8 2 (dChg 3 extT ZJ) [x0,x1,some (tupT d,.fz),some (.lst (longer.map tupT),.own),some (tupT r,.fz)] n
    = some (.nx,[x0,x1,some (tupT d,.fz),some (.lst ((longer++d.map fun f=>r ++ [f]).map tupT),.own),some (tupT r,.fz)],n):=by
   have:aC8 2 (dChg 3 extT ZJ) [x0,x1,some (tupT d,.fz),some (.lst (longer.map tupT),.own),some (tupT r,.fz)] n=dChg 3 extT ZJ [x0,x1,some (tupT d,.fz),some (.lst (longer.map tupT),.own),some (tupT r,.fz)] n:=rfl;rw[this,dChg_own (u:=.lst (longer.map tupT)) (t':=.lst ((longer++d.map fun f=>r ++ [f]).map tupT)) e1 rfl (by simp[q_ext1,hz])];rfl
  simp only[L2.Ds.putAt,ce,cf,aw,e2];rw[e];simp[more,bv]
def facs(ds:List (List Int)):Nat:=ds.foldl (fun m d=>m*d.length) 1
theorem outer:∀ (ds:List (List Int)) (rows:List (List Int)) (x0 a b c:Option (T × Md)) (n k:Nat),(∀d∈ds,d.length<=8)->k+ds.length<=10->(∀r∈rows,r.length=k)->rows.length*(8^ds.length)<=100000 ->
  ∃a' b' c',aC0 (putAt 2) (dSeq (dSet 3 (dLst dNil)) (dSeq (dFrz 1 (dFor (dItS (dVar 1)) (putAt 4) (aC8 2 (dChg 3 extT ZJ)))) (aDv 1 3))) (ds.map tupT) [x0,some (.lst (rows.map tupT),.own),a,b,c] n
   = some (.nx,[x0,some (.lst ((ds.foldl more rows).map tupT),.own),a',b',c'],n)/\(∀r∈ds.foldl more rows,r.length=k+ds.length)
 |[],rows,x0,a,b,c,n,k,_,_,h,_=>⟨a,b,c,by simp[aC0],fun r hr=>by simpa using h r hr⟩
 | d::ds,rows,x0,a,b,c,n,k,hd,hk,h,hz=>by
  have hB:big=1000000:=rfl;rw[ah] at hk hz;have hd0:=hd d (ao ..);have hml:=aHs d rows;have hpw:1<=8^ds.length:=jf ZR;have hz1:rows.length*d.length*8^ds.length<=100000:=by refine aq ?_ hz;rw[jg,iV (8^ds.length) 8,<-jb];exact iL _ (jB _ hd0)
  have hz2:rows.length*d.length<=100000:=aq (jT _ hpw) hz1;have hmr:∀r∈more rows d,r.length=k+1:=fun r hr=>by unfold more at hr;obtain⟨r0,h0,h1⟩:=jo.mp hr;obtain⟨f,_,rfl⟩:=fe.mp h1;simp[h r0 h0]
  obtain⟨a',b',c',e,hr⟩:=outer ds (more rows d) x0 (some (tupT d,.fz)) none ((inner d hd0 x0 (some (.lst (rows.map tupT),.fz)) n rows [] c (fun r hr=>by have:=h r hr;lia) (by simp;lia)).choose) n (k+1) (fun d' hd'=>hd d' (am _ hd')) ZB hmr (by rw[hml];exact hz1);have e0:=(inner d hd0 x0 (some (.lst (rows.map tupT),.fz)) n rows [] c (fun r hr=>by have:=h r hr;lia) (by simp;lia)).choose_spec;refine⟨a',b',c',?_,fun r hr'=>by rw[hr r hr',ah];lia⟩;rw[af];unfold aC0;generalize (inner d hd0 x0 (some (.lst (rows.map tupT),.fz)) n rows [] c (fun r hr=>by have:=h r hr;lia) (by simp;lia)).choose=cc at e e0;simp only[gc,gq] at e0;have e2:dSeq (dSet 3 (dLst dNil)) (dSeq (dFrz 1 (dFor (dItS (dVar 1)) (putAt 4) (aC8 2 (dChg 3 extT ZJ)))) (aDv 1 3)) [x0,some (.lst (rows.map tupT),.own),some (tupT d,.fz),b,c] n
    = some (.nx,[x0,some (.lst ((more rows d).map tupT),.own),some (tupT d,.fz),none,cc],n):=by
   simp only[dSeq,dSet,dLst,dNil,aw,iD,gn,if_true,ce,cf,dFrz,iW,gf,dFor,dItS,dVar,look,walked,di,e0,aDv]
  simp only[L2.Ds.putAt,ce,cf,aw];rw[e2];exact e
theorem rolls{M F:Nat}(h:Dice M F ds)(hM:M<=4)(hF:F<=8)(n:Nat):aEr [(.tup (ds.map tupT),true)] n=some (.lst ((aB7 (aCb ds)).map tupT),true,n)/\∀r∈aCb ds,r.length=ds.length:=by
 have l1:=h.one;have l2:=h.most;have hp:8^ds.length<=8^4:=iM ZA ZB;have e0:(8:Nat)^4=4096:=by decide
 obtain⟨a',b',c',e,hr⟩:=outer ds [[]] (some ZK) none none none n 0 (fun d hd=>aq (h.die d hd).most hF) ZB ZR (by simp;lia);have hr':∀r∈aCb ds,r.length=ds.length:=fun r hr'=>by have:=hr r hr';lia
 refine⟨?_,hr'⟩;have e1:(ds.foldl more [[]])=aCb ds:=rfl;rw[e1] at e;have hne:aCb ds ≠ []:=by
  have pos:∀ (ds:List (List Int)) (rows:List (List Int)),(∀d∈ds,d ≠ [])->rows ≠ []->ds.foldl more rows ≠ []:=by
   intro ds
   induction ds with
   |nil=>intro rows _ h;exact h
   | cons d ds ih =>
    intro rows hd h;refine ih _ (fun d' hd'=>hd d' (am _ hd')) fun z=>?_;have:=aHs d rows;rw[z] at this;have h1:0<rows.length:=iT.mpr h;have h2:0<d.length:=iT.mpr (hd d (ao ..));have:=Nat.mul_pos h1 h2
    simp_all
  exact pos ds [[]] (fun d hd z=>by have:=(h.die d hd).one;rw[z] at this;simp at this) ZR
 have e2:intsOf ((aCb ds).map tupT)=none:=by
  cases hq:aCb ds with
  |nil=>exact absurd hq hne
  |cons r rs=>simp[tupT,intsOf]
 have e3:aGt ((aCb ds).map tupT)=some (aCb ds):=aHa fun r hr z=>by have:=hr' r hr;rw[z] at this;simp at this;lia
 have e4:aG6 n [.lst ((aCb ds).map tupT)]=some (.lst ((aB7 (aCb ds)).map tupT),.own):=by simp[aG6,e2,e3]
 have hb:1<=big:=by decide
 have e5:dFrz 0 aMn [some ZK,some (.lst [tupT []],.own),none,none,none] n
   = some (.nx,[some ZK,some (.lst ((aCb ds).map tupT),.own),a',b',c'],n):=by
  unfold aMn aWd aW2 aWs aWu;simp only[dFrz,gf,dFor,dItS,dVar,look,aDx,walked,aw,di];exact e
 unfold aEr aZd;have e6:dTup dNil [some (T.tup (ds.map tupT),Md.fz),none,none,none,none] n=some (tupT [],.fz,n):=rfl;simp only[fnD,dSeq,aB0,dCall,aAd,bNil,dVar,af,gq,ah,iD,jO,gc,Nat.reduceAdd,Nat.reduceSub,if_true,List.replicate,gf,look,aw,di,flag,aEc h hM hF n,md,dSet,dLst,aAa,dFz,e6,frz,dNil,hb,ce,cf];rw[e5];simp_arith [e4]
theorem aRe{M F:Nat}{ds:List (List Int)}(h:Dice M F ds)(hM:M<=4)(hF:F<=8)(n:Nat):aDh [(.tup (ds.map tupT),true)] n=some (.lst ((aCb ds).map tupT),true,n):=by
 have l1:=h.one;have l2:=h.most;have hp:8^ds.length<=8^4:=iM ZA ZB;have e0:(8:Nat)^4=4096:=by decide
 obtain⟨a',b',c',e,_⟩:=outer ds [[]] (some ZK) none none none n 0 (fun d hd=>aq (h.die d hd).most hF) ZB ZR (by simp;lia);have e1:(ds.foldl more [[]])=aCb ds:=rfl;rw[e1] at e;have hb:1<=big:=by decide
 have e5:dFrz 0 aGc [some ZK,some (.lst [tupT []],.own),none,none,none] n
   = some (.nx,[some ZK,some (.lst ((aCb ds).map tupT),.own),a',b',c'],n):=by
  unfold aGc aJf aI0 aJc aIw;simp only[dFrz,gf,dFor,dItS,dVar,look,aDx,walked,aw,di];exact e
 unfold aDh aKb;have e6:dTup dNil [some (T.tup (ds.map tupT),Md.fz),none,none,none,none] n=some (tupT [],.fz,n):=rfl;simp only[fnD,dSeq,af,gq,ah,iD,jO,gc,Nat.reduceAdd,Nat.reduceSub,if_true,List.replicate,aw,dSet,dLst,aAa,dFz,e6,frz,dNil,hb,ce,cf,di];rw[e5];simp[aF2]
def kt(least:Bool)(many:Nat)(r:List Int):Int:=if least then sumI ((sortI r).take many) else sumI ((sortI r).drop (r.length - many))
def kvs(d:List ZP):List (Ky × T):=d.map fun p=>(Sum.inl p.1,T.int p.2)
def cnt(d:List ZP)(k:Int):Int:=((d.find? fun p=>decide (p.1=k)).map (·.2)).getD 0
theorem aL5(d:List ZP)(k:Int):(aFi (kvs d) (.inl k)).getD (.int 0) = .int (cnt d k):=by
 unfold aFi kvs cnt
 induction d with
 |nil=>rfl
 | cons p d ih =>
  rw[af,ez,ez];by_cases h:p.1=k
  ·simp[h]
  ·simp[h] at ih |-;exact ih
theorem any_ok(d:List ZP)(k:Int):((kvs d).any fun kv=>decide (kv.1=(Sum.inl k:Ky)))=d.any fun p=>decide (p.1=k):=by unfold kvs;rw[List.any_map];congr 1;funext p;simp
theorem cnt_none{k:Int}(h:(d.any fun p=>decide (p.1=k))=false):cnt d k=0:=by
 unfold cnt;have:d.find? (fun p=>decide (p.1=k))=none:=by rw[List.find?_eq_none];intro p hp;have:=jh.mp h p hp;simpa using this
 rw[this];rfl
def tally(d:List ZP)(p:Int->Bool):Int:=sumI ((d.filter fun q=>p q.1).map (·.2))
theorem aG5:∀a b:List Int,sumI (a++b)=sumI a+sumI b
 |[],b=>by simp[sumI]
 |x::a,b=>by simp[sumI,aG5 a b,Int.add_assoc]
theorem aCq(q:Int × Int)(d:List ZP)(p:Int->Bool):tally (q::d) p=(if p q.1 then q.2 else 0)+tally d p:=by
 unfold tally;rw[jP];by_cases h:p q.1=true
 ·simp[h,sumI]
 ·simp[h]
theorem aSg(a b:List ZP)(p:Int->Bool):tally (a++b) p=tally a p+tally b p:=by unfold tally;rw[List.filter_append,iw,aG5]
theorem map_same{d:List ZP}{k v:Int}(h:k∉d.map (·.1)):d.map (fun p=>if p.1=k then (p.1,v) else p)=d:=by
 conv=>rhs;rw[<-jI d]
 refine h9 fun p hp=>?_;rw[if_neg (fun e=>h (by rw[<-e];exact dz hp))];rfl
structure Book (d:List ZP) (ks:List Int):Prop where
 nd:(d.map (·.1)).Nodup
 tal:∀p:Int->Bool,tally d p=(ks.countP p:Nat)
 len:d.length<=ks.length
 rng:∀q∈d,0<=q.2/\q.2<=ks.length
theorem aVx(d:List ZP)(k:Int):(d.any fun p=>decide (p.1=k))=true↔k∈d.map (·.1):=by
 rw[List.any_eq_true,fe];constructor
 ·rintro⟨q,h1,h2⟩;exact⟨q,h1,by simpa using h2⟩
 ·rintro⟨q,h1,h2⟩;exact⟨q,h1,by simpa using h2⟩
def pairT(q:Int × Int):T:=.tup [.int q.1,.int q.2]
theorem aHe:∀d:List ZP,itemsOf (kvs d)=some d
 |[]=>rfl
 |q::d=>by have:=aHe d;unfold kvs at this |-;rw[af];show (itemsOf (d.map _)).map (q :: ·)=_;rw[this];rfl
structure Told (items:List ZP) (ks:List Int):Prop where
 tal:∀p:Int->Bool,tally items p=(ks.countP p:Nat)
 len:items.length<=ks.length
 rng:∀q∈items,0<=q.2/\q.2<=ks.length
theorem bBr(h:∀d∈ds,∀x∈d,0<=x/\x<=30)(hr:r∈aCb ds):∀x∈r,0<=x/\x<=30:=by
 have gen:∀ (ds rows:List (List Int)),(∀d∈ds,∀x∈d,0<=x/\x<=30)->(∀r∈rows,∀x∈r,0<=x/\x<=30)->∀r∈ds.foldl more rows,∀x∈r,0<=x/\x<=30:=by
  intro ds
  induction ds with
  |nil=>intro rows _ h;exact h
  | cons d ds ih =>
   intro rows hd hrows;refine ih _ (fun d' hd'=>hd d' (am _ hd')) fun r hr x hx=>?_;obtain⟨r0,h0,h1⟩:=jo.mp hr;obtain⟨f,hf,rfl⟩:=fe.mp h1;rcases ck.mp hx with hx |hx
   ·exact hrows r0 h0 x hx
   ·simp at hx;subst hx;exact hd d (ao ..) x hf
 exact gen ds [[]] h ZR r hr
theorem bBt(ds:List (List Int)):(aCb ds).length=facs ds:=by
 have gen:∀ (ds rows:List (List Int)),(ds.foldl more rows).length=ds.foldl (fun m d=>m*d.length) rows.length:=by
  intro ds
  induction ds with
  |nil=>intro rows;rfl
  |cons d ds ih=>intro rows;rw[gM,gM,ih,aHs]
 exact gen ds [[]]
theorem facs_le{F:Nat}(h:∀d∈ds,d.length<=F):facs ds<=F^ds.length:=by
 have gen:∀ (ds:List (List Int)) (m:Nat),(∀d∈ds,d.length<=F)->ds.foldl (fun m d=>m*d.length) m<=m*F^ds.length:=by
  intro ds
  induction ds with
  |nil=>intro m _;simp
  | cons d ds ih =>
   intro m h;refine aq (ih _ fun d' hd'=>h d' (am _ hd')) ?_;rw[ah,jg,iV (F^ds.length) F,<-jb];exact iL _ (jB _ (h d (ao ..)))
 have:=gen ds 1 h;simpa[facs] using this
def addW(d:List ZP)(k w:Int):List ZP:=if (d.any fun p=>decide (p.1=k))=true then d.map (fun p=>if p.1=k then (p.1,cnt d k+w) else p) else d ++ [(k,w)]
theorem bB0(d:List ZP)(k w:Int):aDc (kvs d) (.inl k) (.int (cnt d k+w))=kvs (addW d k w):=by
 unfold aDc addW;rw[any_ok];cases h:d.any fun p=>decide (p.1=k) with
 | true =>
  simp only[if_true];unfold kvs;rw[fc,fc];refine h9 fun p _=>?_;by_cases e:p.1=k<;>simp[e]
 |false=>simp[kvs,cnt_none h]
theorem aLo{k w:Int}(p:Int->Bool):∀ {d:List ZP},(d.map (·.1)).Nodup->k∈d.map (·.1)->tally (d.map fun q=>if q.1=k then (q.1,cnt d k+w) else q) p=tally d p+if p k then w else 0
 |[],_,h=>by simp at h
 | (a,b)::d,nd,h=>by
  rw[af] at nd h;obtain⟨n1,n2⟩:=fb.mp nd;by_cases e:a=k
  ·subst e;have ec:cnt ((a,b)::d) a=b:=by simp[cnt]
   rw[af,map_same (by simpa using n1),aCq,aCq,ec];simp only[if_true];split<;>lia
  ·have hk:k∈d.map (·.1):=by
    rcases bf.mp h with z |z
    ·exact absurd z.symm e
    ·exact z
   have ec:cnt ((a,b)::d) k=cnt d k:=by simp[cnt,e]
   rw[af,aCq,aCq,ec,aLo p n2 hk];simp only[e,if_false];lia
structure WB (d:List ZP) (f:(Int->Bool)->Int):Prop where
 nd:(d.map (·.1)).Nodup
 pos:∀q∈d,1<=q.2
 tal:∀p:Int->Bool,tally d p=f p
theorem WB.nil:WB [] fun _=>0:=⟨by simp,by simp,fun p=>by simp[tally,sumI]⟩
theorem cnt_pos{k:Int}(h:∀q∈d,1<=q.2):0<=cnt d k:=by
 unfold cnt;cases e:d.find? fun p=>decide (p.1=k) with
 |none=>simp
 |some q=>have:=h q (List.mem_of_find?_eq_some e);simp;lia
theorem WB.add(B:WB d f)(k w:Int)(hw:1<=w):WB (addW d k w) fun p=>f p+if p k then w else 0:=by
 have hc:=cnt_pos (k:=k) B.pos;unfold addW;cases h:d.any fun p=>decide (p.1=k) with
 | true =>
  have hk:=(aVx d k).mp h;simp only[if_true];refine⟨?_,fun q hq=>?_,fun p=>?_⟩
  ·rw[fc,show (fun x:Int × Int=>x.1)∘(fun p:Int × Int=>if p.1=k then (p.1,cnt d k+w) else p)=fun x=>x.1 from by funext p;simp only[Function.comp];split<;>rfl];exact B.nd
  ·obtain⟨q0,h0,rfl⟩:=fe.mp hq;have:=B.pos q0 h0;split
   ·simp only;lia
   ·lia
  ·rw[aLo p B.nd hk,B.tal p]
 | false =>
  have hk:k∉d.map (·.1):=fun z=>by rw[(aVx d k).mpr z] at h;cases h
  simp only[dw,if_false];refine⟨?_,fun q hq=>?_,fun p=>?_⟩
  ·rw[iw,jl];refine⟨B.nd,by simp,fun x hx y hy z=>?_⟩;simp at hy;subst hy z;exact hk hx
  ·rcases ck.mp hq with hq |hq
   ·exact B.pos q hq
   ·simp at hq;subst hq;exact hw
  ·rw[aSg,B.tal p,aCq];simp[tally,sumI]
theorem WB.congr(B:WB d f)(h:∀p,f p=g p):WB d g:=⟨B.nd,B.pos,fun p=>(B.tal p).trans (h p)⟩
theorem aXp(d:List ZP)(k w:Int):(addW d k w).length<=d.length+1:=by unfold addW;split<;>simp
theorem aJ7{k:Int}(h:k∉d.map (·.1)):tally d (fun x=>x==k)=0:=by
 induction d with
 |nil=>simp[tally,sumI]
 | cons q d ih =>
  rw[af] at h;have h1:¬q.1=k:=fun z=>h (by rw[<-z];exact ao ..);rw[aCq,ih fun z=>h (am _ z)];simp[h1]
theorem aJy:∀ {d:List ZP} {k v:Int},(d.map (·.1)).Nodup->(k,v)∈d->tally d (fun x=>x==k)=v
 |[],_,_,_,h=>by simp at h
 | q::d,k,v,nd,h=>by
  rw[af] at nd;obtain⟨n1,n2⟩:=fb.mp nd;rcases bf.mp h with e |h
  ·subst e;rw[aCq,aJ7 n1];simp
  ·have h1:¬q.1=k:=fun z=>n1 (by rw[z];exact dz (f:=(·.1)) h);rw[aCq,aJy n2 h];simp[h1]
theorem WB.perm(B:WB d f)(B':WB d' f):d.Perm d':=by
 have nodup:∀ {d:List ZP},(d.map (·.1)).Nodup->d.Nodup:=fun {d} h=>by
  induction d with
  |nil=>exact .nil
  | cons q d ih =>
   rw[af] at h;obtain⟨n1,n2⟩:=fb.mp h;exact fb.mpr ⟨fun z=>n1 (dz z),ih n2⟩
 have sub:∀ {d d':List ZP},WB d f->WB d' f->∀q,q∈d->q∈d':=fun {d d'} B B' q hq=>by
  obtain⟨k,v⟩:=q;have h1:=aJy B.nd hq;have h2:=B.pos _ hq;rw[B.tal,<-B'.tal] at h1;by_cases hk:k∈d'.map (·.1)
  ·obtain⟨q',hq',e⟩:=fe.mp hk;obtain⟨k',v'⟩:=q';have e:k'=k:=e;subst e;have h3:=aJy B'.nd hq';have:v=v':=by lia
   subst this;exact hq'
  ·rw[aJ7 hk] at h1;have h2:1<=v:=h2;lia
 exact(List.perm_ext_iff_of_nodup (nodup B.nd) (nodup B'.nd)).mpr fun q=>⟨sub B B' q,sub B' B q⟩
theorem aU6(p:a.Perm b):aB7 a=aB7 b:=aMq ((aE3 a).trans p) (aEk a)
theorem WB.items(B:WB d f)(B':WB d' f):aB7 (d.map aB5)=aB7 (d'.map aB5):=aU6 ((B.perm B').map _)
def spread(ks:List Int)(d:List Int):List Int:=ks.flatMap fun k=>d.map fun f=>k+f
def wsum(d0:List ZP)(die:List Int)(p:Int->Bool):Int:=sumI (d0.map fun q=>q.2*((die.countP fun f=>p (q.1+f):Nat):Int))
theorem aF9(d0:List ZP)(x0 x2:Option (T × Md))(t v:Int)(hv:1<=v)(hat:aFi (kvs d0) (.inl t)=some (.int v))(n:Nat):∀ (die:List Int) (d:List ZP) (f:(Int->Bool)->Int) (a:Option (T × Md)),WB d f->d.length+die.length<=100000 ->
  ∃d' a',WB d' (fun p=>f p+v*((die.countP fun g=>p (t+g):Nat):Int))/\d'.length<=d.length+die.length/\aC0 (putAt 5) ZE (die.map T.int)
   [x0,some (.dic (kvs d0),.fz),x2,some (.dic (kvs d),.own),some (.int t,.fz),a] n=some (.nx,[x0,some (.dic (kvs d0),.fz),x2,some (.dic (kvs d'),.own),some (.int t,.fz),a'],n)
 |[],d,f,a,B,_=>⟨d,a,B.congr fun p=>by simp,by simp,by simp[aC0]⟩
 | g::die,d,f,a,B,hz=>by
  have hB:big=1000000:=rfl;rw[ah] at hz;have hal:=aXp d (t+g) v;obtain⟨d',a',B',hl',e⟩:=aF9 d0 x0 x2 t v hv hat n die (addW d (t+g) v) _ (some (.int g,.fz)) (B.add (t+g) v hv) ZB;refine⟨d',a',B'.congr fun p=>?_,by rw[ah];lia,?_⟩
  ·rw[gO];by_cases hp:p (t+g)=true
   ·simp[hp,Int.mul_add];lia
   ·simp[hp]
  ·rw[af];unfold aC0;have hl:(kvs d).length<big:=by unfold kvs;rw[ak];lia
   have e2:aGb 3 setL (dPr pAdd (aAa (dVar 4) (aAa (dVar 5) dNil))) (dPr pAdd (aAa (dPr aFu (aAa (dVar 3) (aAa (dPr pAdd (aAa (dVar 4) (aAa (dVar 5) dNil))) (aAa (dK (.int 0)) dNil)))) (aAa (dPr pGet (aAa (dVar 1) (aAa (dVar 4) dNil))) dNil)))
     [x0,some (.dic (kvs d0),.fz),x2,some (.dic (kvs d),.own),some (.int t,.fz),some (.int g,.fz)] n=some (.nx,[x0,some (.dic (kvs d0),.fz),x2,some (.dic (kvs (addW d (t+g) v)),.own),some (.int t,.fz),some (.int g,.fz)],n):=by
    rw[<-bB0];have c:=aL5 d (t+g);simp_arith [aGb,aGu,aMe,bB2,q_dget,aXk,aR7,bAo,keyOf,c,hat,q_set2,hl]
   simp only[L2.Ds.putAt,ce,cf,aw];rw[e2];exact e
theorem bAb{k v:Int}(nd:(d.map (·.1)).Nodup)(h:(k,v)∈d):aFi (kvs d) (.inl k)=some (.int v):=by
 unfold aFi kvs
 induction d with
 |nil=>simp at h
 | cons q d ih =>
  rw[af] at nd;obtain⟨n1,n2⟩:=fb.mp nd;rw[af,ez];rcases bf.mp h with e |h
  ·subst e;simp
  ·have h1:¬q.1=k:=fun z=>n1 (by rw[z];exact dz (f:=(·.1)) h);simp[h1];simpa using ih n2 h
theorem aL3(d0:List ZP)(nd:(d0.map (·.1)).Nodup)(ps:∀q∈d0,1<=q.2)(die:List Int)(x0:Option (T × Md))(n:Nat):∀ (l:List ZP) (d:List ZP) (f:(Int->Bool)->Int) (a b:Option (T × Md)),(∀q∈l,q∈d0)->WB d f->d.length+l.length*die.length<=100000 ->
  ∃d' a' b',WB d' (fun p=>f p+wsum l die p)/\d'.length<=d.length+l.length*die.length/\aC0 (putAt 4) (dFrz 2 (dFor (dItS (dVar 2)) (putAt 5) ZE)) (l.map fun q=>T.int q.1)
   [x0,some (.dic (kvs d0),.fz),some (tupT die,.fz),some (.dic (kvs d),.own),a,b] n=some (.nx,[x0,some (.dic (kvs d0),.fz),some (tupT die,.fz),some (.dic (kvs d'),.own),a',b'],n)
 |[],d,f,a,b,_,B,_=>⟨d,a,b,B.congr fun p=>by simp[wsum,sumI],by simp,by simp[aC0]⟩
 | q::l,d,f,a,b,hl,B,hz=>by
  rw[ah,iy] at hz;have hq:=hl q (ao ..);obtain⟨d1,b1,B1,l1,e1⟩:=aF9 d0 x0 (some (tupT die,.fz)) q.1 q.2 (ps q hq) (bAb nd hq) n die d f b B ZB;obtain⟨d',a',b',B',l2,e⟩:=aL3 d0 nd ps die x0 n l d1 _ (some (.int q.1,.fz)) b1 (fun q' hq'=>hl q' (am _ hq')) B1 ZB;refine⟨d',a',b',B'.congr fun p=>?_,by rw[ah,iy];lia,?_⟩
  ·simp[wsum,sumI];lia
  ·rw[af];unfold aC0;generalize ZE=BB at e1 e |-;have e2:dFrz 2 (dFor (dItS (dVar 2)) (putAt 5) BB) [x0,some (.dic (kvs d0),.fz),some (tupT die,.fz),some (.dic (kvs d),.own),some (.int q.1,.fz),b] n=some (.nx,[x0,some (.dic (kvs d0),.fz),some (tupT die,.fz),some (.dic (kvs d1),.own),some (.int q.1,.fz),b1],n):=e1;simp only[L2.Ds.putAt,ce,cf,aw];rw[e2];exact e
theorem bAc(B:WB d0 fun p=>(ks.countP p:Nat))(p:Int->Bool):∀die:List Int,wsum d0 die p=((spread ks die).countP p:Nat)
 | []=>by
  have h1:∀d:List ZP,wsum d [] p=0:=by
   intro d
   induction d with
   |nil=>rfl
   |cons q d ih=>unfold wsum at ih |-;rw[af,sumI,ih];simp
  have h2:spread ks [] = []:=by unfold spread;simp
  rw[h1,h2];rfl
 | g::die=>by
  have h1:∀d:List ZP,wsum d (g::die) p=tally d (fun k=>p (k+g))+wsum d die p:=by
   intro d
   induction d with
   |nil=>rfl
   | cons q d ih =>
    unfold wsum at ih |-;rw[af,af,sumI,sumI,ih,aCq,gO];by_cases hp:p (q.1+g)=true
    ·simp[hp,Int.mul_add];lia
    ·simp[hp];lia
  have h2:∀ks:List Int,(spread ks (g::die)).countP p=ks.countP (fun k=>p (k+g))+(spread ks die).countP p:=by
   intro ks
   induction ks with
   |nil=>rfl
   | cons k ks ih =>
    unfold spread at ih |-;rw[iK,iK,jF,jF,ih,af,gO,gO];lia
  rw[h1,B.tal,bAc B p die,h2];simp
theorem aWk(x0:Option (T × Md))(n:Nat):∀ (ds:List (List Int)) (d:List ZP) (ks:List Int) (a b c e0:Option (T × Md)),(∀x∈ds,x.length<=8)->WB d (fun p=>(ks.countP p:Nat))->d.length*8^ds.length<=100000 ->
  ∃d' a' b' c' e',WB d' (fun p=>((ds.foldl spread ks).countP p:Nat))/\aC0 (putAt 2) (dSeq (dSet 3 aQt) (dSeq (dFrz 1 (dFor (dItS (dVar 1)) (putAt 4) (dFrz 2 (dFor (dItS (dVar 2)) (putAt 5) ZE)))) (aDv 1 3))) (ds.map tupT)
   [x0,some (.dic (kvs d),.own),a,b,c,e0] n=some (.nx,[x0,some (.dic (kvs d'),.own),a',b',c',e'],n)
 |[],d,ks,a,b,c,e0,_,B,_=>⟨d,a,b,c,e0,B,by simp[aC0]⟩
 | die::ds,d,ks,a,b,c,e0,hd,B,hz=>by
  have hd0:=hd die (ao ..);rw[ah] at hz;have hpw:1<=8^ds.length:=jf ZR;have hz1:d.length*die.length*8^ds.length<=100000:=by refine aq ?_ hz;rw[jg,iV (8^ds.length) 8,<-jb];exact iL _ (jB _ hd0)
  have hz2:d.length*die.length<=100000:=aq (jT _ hpw) hz1;obtain⟨d1,a1,b1,B1,l1,e1⟩:=aL3 d B.nd B.pos die x0 n d [] _ c e0 (fun _ h=>h) WB.nil (by simp;lia);have B2:WB d1 (fun p=>((spread ks die).countP p:Nat)):=B1.congr fun p=>by rw[bAc B p die];simp
  rw[iD,iz] at l1;obtain⟨d',a',b',c',e',B',e⟩:=aWk x0 n ds d1 (spread ks die) (some (tupT die,.fz)) none a1 b1 (fun x hx=>hd x (am _ hx)) B2 (aq (iL _ l1) hz1);refine⟨d',a',b',c',e',B',?_⟩;rw[af];unfold aC0;generalize (dFrz 2 (dFor (dItS (dVar 2)) (putAt 5) ZE))=BB at e1 e |-;have hk:(kvs d).map (fun kv=>keyT kv.1)=d.map fun q=>T.int q.1:=by unfold kvs;rw[fc];rfl
  have e2:dSeq (dSet 3 aQt) (dSeq (dFrz 1 (dFor (dItS (dVar 1)) (putAt 4) BB)) (aDv 1 3)) [x0,some (.dic (kvs d),.own),some (tupT die,.fz),b,c,e0] n=some (.nx,[x0,some (.dic (kvs d1),.own),some (tupT die,.fz),none,a1,b1],n):=by simp only[dSeq,dSet,aQt,aw,ce,cf,dFrz,iW,gf,dFor,dItS,dVar,look,walked,hk,di];rw[show (kvs []:List (Ky × T)) = [] from rfl] at e1;rw[e1];rfl
  simp only[L2.Ds.putAt,ce,cf,aw];rw[e2];exact e
theorem aSl(d:List Int):∀rows:List (List Int),(more rows d).map sumI=spread (rows.map sumI) d
 |[]=>rfl
 |r::rows=>by have ih:=aSl d rows;unfold more spread at ih |-;rw[af,iK,iK,iw,ih,fc];congr 1;refine h9 fun f _=>?_;simp[aG5,sumI]
theorem aX2(ds:List (List Int)):(aCb ds).map sumI=ds.foldl spread [0]:=by
 have gen:∀ (ds rows:List (List Int)),(ds.foldl more rows).map sumI=ds.foldl spread (rows.map sumI):=by
  intro ds
  induction ds with
  |nil=>intro rows;rfl
  |cons d ds ih=>intro rows;rw[gM,gM,ih,aSl]
 exact gen ds [[]]
theorem bBx(h8:∀d∈ds,d.length<=8)(h4:ds.length<=4)(n:Nat) :
  ∃d,WB d (fun p=>(((aCb ds).map sumI).countP p:Nat))/\aF7 [(.tup (ds.map tupT),true)] n=some (.dic (kvs d),true,n):=by
 have hpw:8^ds.length<=8^4:=iM ZA ZB;have e0:(8:Nat)^4=4096:=by decide
 obtain⟨d',a',b',c',e',B,e⟩:=aWk (some ZK) n ds [(0,1)] [0] none none none none h8 ⟨by simp,by simp,fun p=>by simp[tally,sumI];by_cases z:p 0=true<;>simp[z,sumI]⟩ (by simp;lia);rw[<-aX2] at B;refine⟨d',B,?_⟩;unfold aF7 aTm aL4 aMb aMa aLv aL7 aLs;generalize (dSeq (dSet 3 aQt) _)=BB at e |-;rw[show (kvs [(0,1)]:List (Ky × T)) = [(Sum.inl 0,.int 1)] from rfl] at e;simp_arith [dDic1,keyOf,dFrz,dFor,dItS,walked,e]
theorem totals{M F:Nat}(h:Dice M F ds)(hM:M<=4)(hF:F<=8)(n:Nat) :
  ∃d,WB d (fun p=>(((aCb ds).map sumI).countP p:Nat))/\aDk [(.tup (ds.map tupT),true)] n=some (.lst ((aB7 (d.map aB5)).map tupT),true,n):=by
 have l2:=h.most;obtain⟨d',B,e4⟩:=bBx (ds:=ds) (fun x hx=>aq (h.die x hx).most hF) ZB n;refine⟨d',B,?_⟩;have e2:aG2 n [.dic (kvs d')]=some (.lst ((aB7 (d'.map aB5)).map tupT),.own):=by simp only[aG2,aHe,di]
 have e3:=aEc h hM hF n;generalize (aB7 (d'.map aB5)).map tupT=out at e2 |-;unfold aDk aWc;simp_arith [e3,e4,e2]
def fr(a b:Nat):T:=.tup [.int ((a / Nat.gcd a b:Nat):Int),.int ((b / Nat.gcd a b:Nat):Int)]
def prodN(ms:List Nat):Nat:=ms.foldr (· * ·) 1
def below(x:Int)(ds:List (List Int)):Nat:=prodN (ds.map fun d=>d.countP fun f=>decide (f<x))
theorem aYk(xs:List T)(k:Nat):cutT xs none (some (k:Int))=xs.take k:=by
 unfold cutT L2.Ds.bound;simp only[jZ,Nat.sub_zero];rw[if_neg ZB];by_cases h:k<=xs.length
 ·rw[show min (k:Int).toNat xs.length=k by lia]
 ·rw[show min (k:Int).toNat xs.length=xs.length by lia,ig,gi ZB]
theorem aIh(xs:List T)(k:Nat):cutT xs (some (k:Int)) none=xs.drop k:=by
 unfold cutT L2.Ds.bound;simp only;rw[if_neg ZB];by_cases h:k<=xs.length
 ·rw[show min (k:Int).toNat xs.length=k by lia];exact gi (by rw[dj];lia)
 ·rw[show min (k:Int).toNat xs.length=xs.length by lia,List.drop_of_length_le (by lia:xs.length<=k)];simp
abbrev BK(d:List ZP)(s:List Int):Prop:=WB d (fun p=>(s.countP p:Nat))
theorem BK.val(B:BK d s){q:Int × Int}(h:q∈d):q.2=((s.countP fun x=>x==q.1:Nat):Int):=by have:=B.tal fun x=>x==q.1;rw[aJy B.nd (show (q.1,q.2)∈d from h)] at this;exact this
theorem BK.key(B:BK d s){q:Int × Int}(h:q∈d):q.1∈s:=by
 have h1:=B.val h;have h2:=B.pos q h;have:0<s.countP fun x=>x==q.1:=by lia
 obtain⟨x,hx,e⟩:=jc.mp this;have e:x=q.1:=by simpa using e
 exact e▸hx
theorem BK.has(B:BK d s){x:Int}(h:x∈s):∃v,(x,v)∈d:=by
 by_cases hk:x∈d.map (·.1)
 ·obtain⟨q,hq,rfl⟩:=fe.mp hk;exact⟨q.2,hq⟩
 ·have h1:=B.tal fun y=>y==x;rw[aJ7 hk] at h1;have:0<s.countP fun y=>y==x:=jc.mpr ⟨x,h,by simp⟩;lia
theorem sumW:∀ (d:List ZP) (s:List Int) (h:Int->Int),(d.map (·.1)).Nodup->(∀q∈d,q.2=((s.countP fun x=>x==q.1:Nat):Int))->(∀x∈s,x∈d.map (·.1))->sumI (d.map fun q=>q.2*h q.1)=sumI (s.map h)
 | [],s,h,_,_,hs=>by
  cases s with
  |nil=>rfl
  |cons x s=>have:=hs x (ao ..);simp at this
 | q::d,s,h,nd,hv,hs=>by
  rw[af] at nd;obtain⟨n1,n2⟩:=fb.mp nd;have split:∀s:List Int,sumI (s.map h)=((s.countP fun x=>x==q.1:Nat):Int)*h q.1+sumI ((s.filter fun x=>!(x==q.1)).map h):=by
   intro s
   induction s with
   |nil=>simp[sumI]
   | cons x s ih =>
    rw[af,sumI,ih,gO,jP];by_cases e:x=q.1
    ·subst e;simp only[beq_self_eq_true,if_true,Bool.not_true,dw,if_false];rw[show (((s.countP fun x=>x==q.1)+1:Nat):Int)=((s.countP fun x=>x==q.1:Nat):Int)+1 from rfl,Int.add_mul];lia
    ·have e':(x==q.1)=false:=by simpa using e
     simp only[e',Bool.not_false,if_true,dw,if_false,af,sumI,Nat.add_zero];lia
  rw[split s,af,sumI,hv q (ao ..)];congr 1;refine sumW d (s.filter fun x=>!(x==q.1)) h n2 (fun q' hq'=>?_) fun x hx=>?_
  ·rw[hv q' (am _ hq'),List.countP_filter];congr 1;refine List.countP_congr fun x _=>?_;have ne:q'.1≠q.1:=fun z=>n1 (by rw[<-z];exact dz (f:=(·.1)) hq');constructor
   ·intro z;have z:x=q'.1:=by simpa using z
    subst z;simp[ne]
   ·intro z;simp at z |-;exact z.1
  ·obtain⟨h1,h2⟩:=jU.mp hx;have h2:x≠q.1:=by simpa using h2
   rcases bf.mp (hs x h1) with z |z
   ·exact absurd z h2
   ·exact z
theorem BK.sum(B:BK d s)(h:Int->Int):sumI (d.map fun q=>q.2*h q.1)=sumI (s.map h) :=
 sumW d s h B.nd (fun q hq=>B.val hq) fun x hx=>by obtain⟨v,hv⟩:=B.has hx;exact dz (f:=(·.1)) hv
theorem BK.dlen(B:BK d s):d.length<=s.length:=by
 have h1:=B.sum fun _=>1;have h2:∀d:List ZP,(∀q∈d,1<=q.2)->(d.length:Int)<=sumI (d.map fun q=>q.2*1):=by
  intro d
  induction d with
  |nil=>intro _;simp[sumI]
  | cons q d ih =>
   intro h;have:=ih fun q' hq'=>h q' (am _ hq');have:=h q (ao ..);rw[af,sumI,ah];lia
 have h3:∀s:List Int,sumI (s.map fun _=>1)=(s.length:Int):=by
  intro s
  induction s with
  |nil=>rfl
  |cons x s ih=>rw[af,sumI,ih,ah];lia
 have:=h2 d B.pos;rw[h1,h3] at this;lia
def sums(ds:List (List Int)):List Int:=(aCb ds).map sumI
def cm(s:List Int):Int:=(aWe (s.map fun x=>((s.countP fun y=>y==x:Nat):Int))).getD 0
end Dm
namespace Dm
open L2 L2.Ds Dd
abbrev I3:=Int × Int × Int
def ends(d:List Int):Int:=d.headD 0+d.getLastD 0
end Dm
namespace Dm
open PySem L2 L2.Ds Dd
theorem aRo{b:Bool}{n:Nat}(h:aBr [ZN] n=some (.bl false,false,n))(hb:b=true\/aDx t=false):aAh [(t,b)] n=some (0,n):=by
 have hf:flag (look (if b then .fz else .bor) t) t=true:=by
  cases b with
  |true=>rfl
  |false=>rcases hb with hb |hb;cases hb;simp[look,hb,flag]
 unfold aAh fnX aIu xIf dNot dTru dCall aAd bNil dVar;simp[hf,h,md,tru,aIf,vK]
theorem aTw{n:Nat}(h:aBr [ZN] n=some (.bl true,false,n)):aAh [ZN] n=none:=by unfold aAh fnX aIu xIf dNot dTru dCall aAd bNil dVar;simp[look,flag,h,md,tru,xNo]
theorem aKa{lo hi:Int}{n:Nat}(h:aA8 [ZN,(.int lo,true),(.int hi,true)] n=some (.bl false,false,n))(h1:small lo=true)(h2:small hi=true):aAv [ZN,(.int lo,true),(.int hi,true)] n=some (3,n):=by unfold aAv fnX aFk xIf dNot dTru dCall aAd bNil dVar;simp[look,flag,h,md,tru,aIf,vI,vK,h1,h2,dVar]
theorem aKx{lo hi:Int}{n:Nat}(h:aA8 [ZN,(.int lo,true),(.int hi,true)] n=some (.bl true,false,n)):aAv [ZN,(.int lo,true),(.int hi,true)] n=none:=by unfold aAv fnX aFk xIf dNot dTru dCall aAd bNil dVar;simp[look,flag,h,md,tru,xNo]
theorem aFy(i lo hi:Int)(n:Nat)(h:¬ (lo<=i/\i<=hi)):aA8 [(.int i,true),(.int lo,true),(.int hi,true)] n=some (.bl false,false,n):=by
 unfold aA8 aGy;by_cases h1:lo<=i
 ·have h2:¬i<=hi:=fun z=>h ⟨h1,z⟩;simp_arith [aFn,pIsI,aEt,aEx,aEn,aEy,aEq,aBn,pLe,pI2,h1,h2]
 ·simp_arith [aFn,pIsI,aEt,aEx,aEn,aEy,aEq,aBn,pLe,pI2,h1]
theorem aSy(h:isTy .tuple t=some false)(n:Nat):aBr [ZN] n=some (.bl false,false,n):=by unfold aBr aGn;simp_arith [pIsI,h]
theorem aY1(g:T->Bool)(h1:1<=ts.length)(h2:ts.length<=8)(hg:∀t∈ts,∀n,aA8 [ZN,(.int 0,true),(.int 30,true)] n=some (.bl (g t),false,n))(ha:ts.all g=false)(n:Nat):aBr [(.tup ts,true)] n=some (.bl false,false,n):=by
 have hB:big=1000000:=rfl;have e2:aHt [some (.tup ts,.fz)] n=some (.lst (ts.map fun t=>T.bl (g t)),.own,n) :=
  aEd ts id (fun t=>.bl (g t)) (by rw[jI];rfl) ZB fun y hy=>by simp_arith [srcOf,hg y hy n]
 have e3:∀l:List T,boolsOf (l.map fun t=>T.bl (g t))=some (l.map g):=fun l=>by
  induction l with
  |nil=>rfl
  |cons x r ih=>simp[boolsOf,ih]
 have e4:pAll n [.lst (ts.map fun t=>T.bl (g t))]=some (.bl false,.fz):=by simp only[pAll,e3,di,iC];rw[show (ts.all (id∘g))=ts.all g from rfl,ha]
 have l3:(1:Int)<=ts.length:=by lia
 have l4:(ts.length:Int)<=8:=by lia
 generalize ts.map (fun t=>T.bl (g t))=bs at *;unfold aBr aGn;simp_arith [aFn,aC8,pIsI,aEt,aEx,aEn,aEy,aEq,aBn,pLe,pI2,aGa,aC1,aIg,aIb,l3,l4,e2,e4]
theorem aNw(h:isTy .tuple t=some false)(n:Nat):aBq [ZN] n=some (.bl false,false,n):=by unfold aBq aF5;simp_arith [pIsI,h]
theorem aV1(h:¬ (1<=ts.length/\ts.length<=4))(n:Nat):aBq [(.tup ts,true)] n=some (.bl false,false,n):=by
 unfold aBq aF5;by_cases h1:1<=ts.length
 ·have l3:(1:Int)<=ts.length:=by lia
  have l4:¬ (ts.length:Int)<=4:=by lia
  simp_arith [aFn,pIsI,aEt,aEx,aEn,aEy,aEq,aBn,pLe,pI2,aGa,aC1,aIg,aIb,l3,l4]
 ·have l3:¬ (1:Int)<=ts.length:=by lia
  simp_arith [aFn,pIsI,aEt,aEx,aEn,aEy,aEq,aBn,pLe,pI2,aGa,aC1,aIg,aIb,l3]
theorem aVm(g:T->Bool)(h1:1<=ts.length)(h2:ts.length<=4)(hg:∀t∈ts,∀n,aBr [ZN] n=some (.bl (g t),false,n))(ha:ts.all g=false)(n:Nat):aBq [(.tup ts,true)] n=some (.bl false,false,n):=by
 have hB:big=1000000:=rfl;have e2:aIo [some (.tup ts,.fz)] n=some (.lst (ts.map fun t=>T.bl (g t)),.own,n) :=
  aEd ts id (fun t=>.bl (g t)) (by rw[jI];rfl) ZB fun y hy=>by simp_arith [srcOf,hg y hy n]
 have e3:∀l:List T,boolsOf (l.map fun t=>T.bl (g t))=some (l.map g):=fun l=>by
  induction l with
  |nil=>rfl
  |cons x r ih=>simp[boolsOf,ih]
 have e4:pAll n [.lst (ts.map fun t=>T.bl (g t))]=some (.bl false,.fz):=by simp only[pAll,e3,di,iC];rw[show (ts.all (id∘g))=ts.all g from rfl,ha]
 have l3:(1:Int)<=ts.length:=by lia
 have l4:(ts.length:Int)<=4:=by lia
 generalize ts.map (fun t=>T.bl (g t))=bs at *;unfold aBq aF5;simp_arith [aFn,aC8,pIsI,aEt,aEx,aEn,aEy,aEq,aBn,pLe,pI2,aGa,aC1,aIg,aIb,l3,l4,e2,e4]
theorem aMr{n:Nat}(h:aBq [ZN] n=some (.bl false,false,n)):aAe [ZN] n=some (1,n):=by unfold aAe fnX aG0 xIf dNot dTru dCall aAd bNil dVar;simp[look,flag,h,md,tru,aIf,vK]
theorem aH6{n:Nat}(h:aBq [ZN] n=some (.bl true,false,n)):aAe [ZN] n=none:=by unfold aAe fnX aG0 xIf dNot dTru dCall aAd bNil dVar;simp[look,flag,h,md,tru,xNo]
theorem mixed_o(ns:List Int)(k m:Int)(hk:0<=k)(hm:1<=m)(n:Nat):∃r,0<=r/\r<m/\aDy [(.lst (ns.map .int),false),(.int k,true),(.int m,true)] n=some (.int r,false,n):=by
 obtain⟨c,e⟩:=cell_at ns k hk n;have x0:=jW ((c+7919*k+1)*48271) (b:=2147483647) ZA;have x1:=jE ((c+7919*k+1)*48271) (b:=2147483647) ZA;have x2:small ((c+7919*k+1)*48271%2147483647)=true:=by unfold small;simp only[decide_eq_true_eq];lia
 have s1:small 48271=true:=rfl;have s2:small 7919=true:=rfl;have s3:small 7=true:=rfl;have m0:0<m:=by lia
 refine⟨_,jW (((c+7919*k+1)*48271%2147483647*((c+7919*k+1)*48271%2147483647)+7*((c+7919*k+1)*48271%2147483647)+k)%2147483629) (by lia:m≠0),jE _ m0,?_⟩;unfold aDy aHn;simp_arith [e,pMod,pI2,q_mul1,aGu,x2,s1,s2,s3,m0]
theorem aGx(ns:List Int)(n:Nat)(m:Int)(hm:1<=m)(hn:n<big):∃r,0<=r/\r<m/\aAs [(.lst (ns.map .int),false),(.town,true),(.int m,true)] n=some (.int r,false,n+1):=by obtain⟨r,h0,h1,e⟩:=mixed_o ns (n+1) m ZB hm (n+1);refine⟨r,h0,h1,?_⟩;unfold aAs aIv;simp_arith [aFn,aGa,aC1,aIg,aIb,hn,e]
theorem aNl(ns:List Int)(l:List T)(b:Bool)(n:Nat)(hl:l ≠ [])(hn:n<big):∃v∈l,aBt [(.lst (ns.map .int),false),(.town,true),(.lst l,b)] n=some (v,false,n+1):=by
 have:1<=l.length:=by cases l with
  |nil=>exact absurd rfl hl
  |cons _ _=>simp
 obtain⟨r,h0,h1,e⟩:=aGx ns n l.length ZB hn;have hr:r.toNat<l.length:=by lia
 have e2:at? l r=some l[r.toNat]:=by unfold at?;rw[if_pos h0,if_pos h1,ba hr]
 refine⟨l[r.toNat],fg hr,?_⟩;generalize l[r.toNat]=v at e2;unfold aBt aI6;cases b<;>simp_arith [aFn,aGa,aXk,e,e2]
theorem pick_o(ns l:List Int)(n:Nat)(hl:l ≠ [])(hn:n<big):∃v∈l,aBt [(.lst (ns.map .int),false),(.town,true),(.lst (l.map .int),true)] n=some (.int v,false,n+1):=by obtain⟨t,ht,e⟩:=aNl ns (l.map .int) true n (by simpa using hl) hn;obtain⟨v,hv,rfl⟩:=fe.mp ht;exact⟨v,hv,e⟩
def Sp(d:List Int):Prop:=∃lo:Int,∀x∈d,lo<=x/\x<=lo+11
theorem die_oW(ns:List Int)(F:Nat)(n:Nat)(hF:1<=F)(hF8:F<=8)(hn:n+20<=big):∃d n',(Die F d/\Sp d)/\n<=n'/\n'<=n+11/\aDi [(.lst (ns.map .int),false),(.town,true),(.int F,true),(.int 30,true)] n=some (tupT d,false,n'):=by
 have hB:big=1000000:=rfl;obtain⟨r,h0,h1,e1⟩:=aGx ns n 20 ZA ZB;obtain⟨lo,hlo,e2⟩:=pick_o ns [0,0,1,1,r] (n+1) ZR ZB;have l0:0<=lo/\lo<20:=by simp at hlo;lia
 obtain⟨wd,hwd,e3⟩:=pick_o ns [1,3,6,12] (n+1+1) ZR ZB;have w0:1<=wd/\wd<=12:=by simp at hwd;lia
 rw[show ([0,0,1,1,r]:List Int).map T.int = [.int 0,.int 0,.int 1,.int 1,.int r] from rfl] at e2;rw[show ([1,3,6,12]:List Int).map T.int = [.int 1,.int 3,.int 6,.int 12] from rfl] at e3;have c1:-(big:Int)<=F:=by lia
 have c2:(F:Int)<=(big:Int):=by lia
 have e5:∃ (l:List Int) (n2:Nat),l.length=F/\(∀x∈l,lo<=x/\x<=lo+11)/\n+3<=n2/\n2<=n+3+F/\aI4 [some ZO,some (.town,.fz),some (.int F,.fz),some (.int 30,.fz),some (.int lo,.fz),some (.int wd,.fz),none] (n+1+1+1)=some (.lst (l.map T.int),.own,n2):=by
  obtain⟨out,n2,q1,q2,q3,q4,q5⟩:=aTz (K:=1) (N:=big) (P:=fun t=>∃x:Int,t = .int x/\lo<=x/\x<=lo+11) (it:=aHq (aAa (dVar 2) dNil))
   (l:=[none,some 0,some 1,some 2,some 3,some 4,some 5,some 6]) (i:=0) (e:=dPr pMin (aAa (dVar 4) (aAa (dPr pAdd (aAa (dVar 5) (aAa (dCall 3 aAs (aAd (dVar 1) (aAd (dVar 2) (aAd (dVar 6) bNil)))) dNil))) dNil))) (ρ:=[some ZO,some (.town,.fz),some (.int F,.fz),some (.int 30,.fz),some (.int lo,.fz),some (.int wd,.fz),none]) (n0:=n+1+1+1) (n:=n+1+1+1) (xs:=upTo 0 F)
   (by unfold aHq;simp_arith [c1,c2]) (fun x n hn=>by
    obtain⟨r,h0,h1,e⟩:=aGx ns n wd ZB ZB;have em:pMin (n+1) [.int 30,.int (lo+r)]=some (.int (if lo+r<30 then lo+r else 30),.fz):=rfl;refine⟨.int (if lo+r<30 then lo+r else 30),n+1,?_,by lia,by lia,_,rfl,by split<;>lia,by split<;>lia⟩;generalize (if lo+r<30 then lo+r else 30)=z at em
    simp_arith [e,aGu,srcOf,em]) (by rw[aGk];lia) (by rw[aGk];lia)
  obtain⟨l,rfl,hl⟩:=aZf T.int (fun x=>lo<=x/\x<=lo+11) q2;rw[aGk] at q1 q4;rw[ak] at q1;exact⟨l,n2,by lia,hl,by lia,by lia,q5⟩
 obtain⟨l,n2,q1,hl,q3,q4,e5⟩:=e5;have pl:=(sortI_perm l).length_eq;refine⟨sortI l,n2,⟨⟨by lia,by lia,fun x hx=>by have:=hl x ((sortI_perm l).mem_iff.mp hx);lia,aDp l⟩,lo,fun x hx=>hl x ((sortI_perm l).mem_iff.mp hx)⟩,by lia,by lia,?_⟩;have hs6:l.length<64:=by lia
 have e6:aIc n2 [.lst (l.map .int)]=some (.lst ((sortI l).map .int),.own):=by simp[aIc,aDj,hs6]
 have e7:aTt n2 [.lst ((sortI l).map .int)]=some (tupT (sortI l),.fz):=rfl;have k5:5<=big:=by decide
 have k4:4<=big:=by decide
 generalize tupT (sortI l)=o at *;generalize (sortI l).map T.int=sl at *;generalize l.map T.int=ll at *;unfold aDi aKf;simp_arith [dLst,e1,e2,e3,e5,e6,e7,k4,k5]
theorem dice_oW(ns:List Int)(M F n:Nat)(hM:1<=M)(hM4:M<=4)(hF:1<=F)(hF8:F<=8)(hn:n+100<=big):∃ds n',ds.length=M/\(Dice M F ds/\∀d∈ds,Sp d)/\n<=n'/\n'<=n+48/\aCk [(.lst (ns.map .int),false),(.town,true),(.int M,true),(.int F,true)] n=some (.tup (ds.map tupT),false,n'):=by
 have hB:big=1000000:=rfl;have c1:-(big:Int)<=M:=by lia
 have c2:(M:Int)<=(big:Int):=by lia
 obtain⟨out,n2,q1,q2,q3,q4,q5⟩:=aTz (K:=12) (N:=big - 19) (P:=fun t=>∃d:List Int,t=tupT d/\Die F d/\Sp d) (it:=aHq (aAa (dVar 2) dNil))
  (l:=[none,some 0,some 1,some 2,some 3]) (i:=0) (e:=dCall 4 aDi (aAd (dVar 1) (aAd (dVar 2) (aAd (dPr pAdd (aAa (dK (.int 1)) (aAa (dCall 3 aAs (aAd (dVar 1) (aAd (dVar 2) (aAd (dVar 4) bNil)))) dNil))) (aAd (dK (.int 30)) bNil))))) (ρ:=[some ZO,some (.town,.fz),some (.int M,.fz),some (.int F,.fz)]) (n0:=n) (n:=n) (xs:=upTo 0 M)
  (by unfold aHq;simp_arith [c1,c2]) (fun x n hn=>by
   obtain⟨r,h0,h1,e⟩:=aGx ns n F ZB ZB;obtain⟨k,rfl⟩:∃k:Nat,r=k:=⟨r.toNat,by lia⟩
   obtain⟨d,n',⟨g,gs⟩,l1,l2,e2⟩:=die_oW ns (1+k) (n+1) ZB ZB ZB;have e2:aDi [(.lst (ns.map .int),false),(.town,true),(.int (1+(k:Int)),true),(.int 30,true)] (n+1)=some (tupT d,false,n'):=e2;refine⟨tupT d,n',?_,by lia,by lia,d,rfl,⟨g.one,by have:=g.most;lia,g.rng,g.up⟩,gs⟩;have bx:aDx (tupT d)=false:=rfl;generalize tupT d=td at *
   simp_arith [e,e2,aGu,srcOf]) (by rw[aGk];lia) (by rw[aGk];lia)
 obtain⟨l,rfl,hl⟩:=aZf tupT (fun d=>Die F d/\Sp d) q2;rw[aGk] at q1 q4;rw[ak] at q1;refine⟨l,n2,by lia,⟨⟨by lia,by lia,fun d h=>(hl d h).1⟩,fun d h=>(hl d h).2⟩,by lia,by lia,?_⟩;have e5:aIe [some ZO,some (.town,.fz),some (.int M,.fz),some (.int F,.fz)] n=some (.lst (l.map tupT),.own,n2):=q5;unfold aCk aIy;simp_arith [e5,q_tup1]
theorem dice_oL(ns:List Int)(M F n:Nat)(hM:1<=M)(hM4:M<=4)(hF:1<=F)(hF8:F<=8)(hn:n+100<=big):∃ds n',ds.length=M/\Dice M F ds/\n<=n'/\n'<=n+48/\aCk [(.lst (ns.map .int),false),(.town,true),(.int M,true),(.int F,true)] n=some (.tup (ds.map tupT),false,n') :=
 let ⟨ds,n',a,b,r⟩:=dice_oW ns M F n hM hM4 hF hF8 hn
 ⟨ds,n',a,b.1,r⟩
theorem dice_o(ns:List Int)(M F n:Nat)(hM:1<=M)(hM4:M<=4)(hF:1<=F)(hF8:F<=8)(hn:n+100<=big):∃ds n',Dice M F ds/\n<=n'/\n'<=n+48/\aCk [(.lst (ns.map .int),false),(.town,true),(.int M,true),(.int F,true)] n=some (.tup (ds.map tupT),false,n') :=
 let ⟨ds,n',_,h⟩:=dice_oL ns M F n hM hM4 hF hF8 hn
 ⟨ds,n',h⟩
end Dm
namespace Dm
open L2 L2.Ds Dd
structure Path (m:Nat) (p:List Int):Prop where
 one:1<=p.length
 rng:∀x∈p,0<=x/\x<m
 nd:p.Nodup
 up:∀x∈p.tail,p.headD 0<x
structure Bk (d:List ZP):Prop where
 nd:(d.map (·.1)).Nodup
 pos:∀q∈d,1<=q.2
theorem cnt_cons(p:Int × Int)(d:List ZP)(k:Int):cnt (p::d) k=if p.1=k then p.2 else cnt d k:=by unfold cnt;rw[ez];by_cases h:p.1=k<;>simp[h]
theorem aM4:∀ {d:List ZP} {q:Int × Int},(d.map (·.1)).Nodup->q∈d->cnt d q.1=q.2
 |[],q,_,h=>by simp at h
 | p::d,q,nd,h=>by
  rw[af] at nd;obtain⟨n1,n2⟩:=fb.mp nd;rw[cnt_cons];rcases bf.mp h with rfl |h
  ·simp
  ·have:¬p.1=q.1:=fun z=>n1 (by rw[z];exact dz (f:=(·.1)) h);rw[if_neg this];exact aM4 n2 h
theorem aVh{k:Int}(h:k∉d.map (·.1)):cnt d k=0:=by
 induction d with
 |nil=>rfl
 | cons p d ih =>
  rw[af] at h;rw[cnt_cons,if_neg (fun z=>h (by rw[<-z];exact ao ..))];exact ih fun z=>h (am _ z)
def subs(d:List ZP)(g:Int->Int):List ZP:=(d.map fun p=>(p.1,p.2 - g p.1)).filter fun p=>decide (0<p.2)
def low(d:List ZP):Int:=(least (d.map (·.1))).getD 0
def copies(die:List Int)(face:Int)(j:Nat)(x:Int):Int:=(j:Int)*((die.countP fun y=>y==x - face:Nat):Int)
def Fits(d:List ZP)(g:Int->Int):Prop:=∀k,g k<=cnt d k
def aW5(die:List Int)(d:List ZP):Int:=low d - die.headD 0
def Ok(die:List Int)(d:List ZP):Prop:=0<=aW5 die d/\Fits d (copies die (aW5 die d) 1)
inductive Miss (die:List Int):List ZP->Option (List Int)->Prop
 |nil:Miss die [] (some [])
 |bad {d:List ZP}:d ≠ [] -> ¬Ok die d->Miss die d none
 |good {d:List ZP} {r:Option (List Int)}:d ≠ []->Ok die d->Miss die (subs d (copies die (aW5 die d) 1)) r->Miss die d (r.map (aW5 die d :: ·))
def firsts(die:List Int):Nat:=die.countP fun y=>y==die.headD 0
def Of(d:List ZP)(s:List Int):Prop:=∀k,cnt d k=((s.countP fun x=>x==k:Nat):Int)
theorem BK.cnt(B:BK d s):Of d s:=fun x=>by
 by_cases hx:x∈s
 ·obtain⟨v,hv⟩:=B.has hx;rw[aM4 B.nd hv];exact B.val hv
 ·rw[aVh (fun z=>by
   obtain⟨q,hq,rfl⟩:=fe.mp z
   exact hx (B.key hq)),List.countP_eq_zero.mpr (fun y hy z=>hx (by rw[<-eq_of_beq z];exact hy))]
  rfl
def prT(L:List ZP):List T:=L.map fun p=>.tup [.int p.1,.int p.2]
theorem aW4:∀L:List ZP,pairsOf (prT L)=some (kvs L)
 |[]=>rfl
 |p::L=>by have ih:=aW4 L;unfold prT at ih |-;rw[af];unfold pairsOf;show (Option.bind (some (Sum.inl p.1:Ky)) fun k=>(pairsOf _).map ((k,T.int p.2) :: ·))=_;rw[ih];rfl
theorem aZ6:∀ (L A:List ZP),((A++L).map (·.1)).Nodup->(kvs L).foldl (fun d p=>aDc d p.1 p.2) (kvs A)=kvs (A++L)
 |[],A,_=>by simp[kvs]
 | p::L,A,h=>by
  have hn:(A.any fun q=>decide (q.1=p.1))=false:=by rw[<-jq,aVx];intro z;rw[iw,jl] at h;exact h.2.2 _ z _ ZR rfl
  have e:aDc (kvs A) (.inl p.1) (.int p.2)=kvs (A ++ [p]):=by unfold aDc;rw[any_ok,hn];simp[kvs]
  have ih:=aZ6 L (A ++ [p]) (by simpa using h);show (kvs L).foldl (fun d p=>aDc d p.1 p.2) (aDc (kvs A) (.inl p.1) (.int p.2))=_;rw[e,ih,bv];rfl
theorem pdict(nd:(L.map (·.1)).Nodup)(hl:L.length<big)(n:Nat):pDict n [.lst (prT L)]=some (.dic (kvs L),.own):=by show ((pairsOf (prT L)).bind fun ps=>if ps.length<big then some (T.dic (ps.foldl (fun d p=>aDc d p.1 p.2) []),Md.own) else none)=_;rw[aW4];have:=aZ6 L [] (by simpa using nd);rw[show (kvs ([]:List ZP)) = [] from rfl] at this;show (if (kvs L).length<big then some (T.dic ((kvs L).foldl (fun d p=>aDc d p.1 p.2) []),Md.own) else none)=_;rw[if_pos (by unfold kvs;rw[ak];exact hl),this];rfl
structure Tots (L:List ZP):Prop where
 ne:L ≠ []
 up:(L.map (·.1)).Pairwise (· < ·)
 rng:∀q∈L,0<=q.1/\q.1<=120/\1<=q.2/\q.2<=4096
end Dm
namespace K01
open PySem L2 L2.Ds
def aG8:DS:=(dSeq (dIfS (dOr (dNot (dTru (dPr (pIsI .list) (aAa (dVar 0) dNil)))) (dNot (dTru (dVar 0)))) (dRet (dK (.bl false))) aCi) (dSeq (aC8 0 (dIfS (dNot (dTru (dPr pAll (aAa Dd.aI1 dNil)))) (dRet (dK (.bl false))) aCi)) (dSeq (aC8 0 (dSet 1 Dd.aI5)) (dRet (dPr pEq (aAa (dVar 1) (aAa (dPr bBe (aAa (dVar 1) dNil)) dNil)))))))
def aDd:Fn:=fnD 2 (aG8)
def aFj:DS:=(dIfS (dNot (dTru (dCall 1 aDd ZD))) aA0 aCi)
def aBv:Fn:=fnD 1 (aFj)
def aFm:DX:=(xIf (dNot (dTru (dCall 1 aDd ZD))) (aIf 2 vK) xNo)
def aBg:FnX:=fnX 1 aFm
def aKz:DX:=(xSeq (aAy 1 aBg ZD) (aB0 (dCall 1 aBv ZD)) (xSeq (aAy 1 Dd.aAh ZM) (aB0 (dCall 1 Dd.aAx ZM)) xNo))
def aGl:FnX:=fnX 8 aKz
def x_shown:DX:=(xSeq (aAy 1 Dd.aAe ZD) (aB0 (dCall 1 Dd.aAo ZD)) xNo)
def aJ1:FnX:=fnX 1 x_shown
def aMz:DS:=dIfS (dTru (dPr pLt (aAa (dVar 0) (aAa (dK (.int 5)) dNil)))) (dRet (dSel (dVar 0) [(1,Dd.aDk),(1,Dd.aEr),(1,(fnD 1 aA0)),(1,(fnD 5 aA0)),(1,(fnD 1 aA0))] ZM)) aCi
def aYa:DS:=dIfS (dTru (dPr pLt (aAa (dVar 0) (aAa (dK (.int 8)) dNil)))) (dRet (dSel (dPr pSub (aAa (dVar 0) (aAa (dK (.int 5)) dNil))) [(2,Dd.aJb),(2,(fnD 2 aA0)),(2,(fnD 2 aA0))] (aAd (dVar 1) (aAd (dVar 2) bNil)))) aCi
def SAsk2:DS:=dIfS (dTru (dPr pLt (aAa (dVar 0) (aAa (dK (.int 10)) dNil)))) (dRet (dSel (dPr pSub (aAa (dVar 0) (aAa (dK (.int 8)) dNil))) [(2,(fnD 2 aA0)),(2,(fnD 5 aA0))] (aAd (dVar 1) (aAd (dTup (aAa (dFz (dTup ZF)) dNil)) bNil)))) aCi
def SAsk3:DS:=dRet (dSel (dPr pSub (aAa (dVar 0) (aAa (dK (.int 10)) dNil))) [(2,(fnD 2 aA0)),(2,(fnD 5 aA0))] (aAd (dTup (aAa (dFz (dTup ZF)) dNil)) ZM))
def bAn:DX:=xIf (dTru (dPr pLt (aAa (dVar 0) (aAa (dK (.int 5)) dNil)))) (xSel (dVar 0) [(1,Dd.aF6),(1,Dd.aHx),(1,Dd.aEf),(1,Dd.aJz),(1,aJ1)] ZM) xNo
def XAsk1:DX:=xIf (dTru (dPr pLt (aAa (dVar 0) (aAa (dK (.int 8)) dNil)))) (xSel (dPr pSub (aAa (dVar 0) (aAa (dK (.int 5)) dNil))) [(2,Dd.aGz),(2,Dd.aHu),(2,Dd.aGp)] (aAd (dVar 1) (aAd (dVar 2) bNil))) xNo
def aUc:DX:=xIf (dTru (dPr pLt (aAa (dVar 0) (aAa (dK (.int 10)) dNil)))) (xSel (dPr pSub (aAa (dVar 0) (aAa (dK (.int 8)) dNil))) [(2,Dd.aFl),(2,Dd.aDq)] (aAd (dVar 1) (aAd (dTup (aAa (dFz (dTup ZF)) dNil)) bNil))) xNo
def aYv:DX:=xSel (dPr pSub (aAa (dVar 0) (aAa (dK (.int 10)) dNil))) [(2,Dd.aFl),(2,Dd.aDq)] (aAd (dTup (aAa (dFz (dTup ZF)) dNil)) ZM)
def aE4:DS:=(aM2 [0,1,2,3] (dSeq aMz (dSeq aYa (dSeq SAsk2 SAsk3))) (xSeq bAn aMz (xSeq XAsk1 aYa (xSeq aUc SAsk2 aYv))) Dd.aC7)
def aBs:Fn:=fnD 4 (aE4)
def aSt:DS:=dIfS (dTru (dPr pLt (aAa (dVar 0) (aAa (dK (.int 2)) dNil)))) (dRet (dSel (dVar 0) [(2,Dd.aXc),(2,(fnD 3 aA0))] (aAd (dVar 1) (aAd (dTup ZF) bNil)))) aCi
def aYh:DS:=dIfS (dTru (dPr pLt (aAa (dVar 0) (aAa (dK (.int 4)) dNil)))) (dRet (dSel (dPr pSub (aAa (dVar 0) (aAa (dK (.int 2)) dNil))) [(2,Dd.aXc),(2,(fnD 3 aA0))] (aAd (dTup ZF) ZM))) aCi
def bBs:DS:=dIfS (dTru (dPr pLt (aAa (dVar 0) (aAa (dK (.int 6)) dNil)))) (dRet (dIf (dTru (dPr pEq (aAa (dVar 0) (aAa (dK (.int 4)) dNil)))) (dCall 3 (fnD 5 aA0) (aAd (dVar 1) (aAd (dTup ZF) (aAd (dK .non) bNil)))) (dCall 3 (fnD 5 aA0) (aAd (dTup ZF) (aAd (dVar 1) (aAd (dK .non) bNil)))))) aCi
def SDie3:DS:=dRet (dCall 2 (fnD 8 aA0) (aAd (dLst (aAa (dFz (dTup (aAa (dFz (dK (.int 1))) ZF))) dNil)) ZM))
def aJg:DX:=xIf (dTru (dPr pLt (aAa (dVar 0) (aAa (dK (.int 2)) dNil)))) (xSel (dVar 0) [(2,Dd.aEv),(2,Dd.aFg)] (aAd (dVar 1) (aAd (dTup ZF) bNil))) xNo
def aTv:DX:=xIf (dTru (dPr pLt (aAa (dVar 0) (aAa (dK (.int 4)) dNil)))) (xSel (dPr pSub (aAa (dVar 0) (aAa (dK (.int 2)) dNil))) [(2,Dd.aEv),(2,Dd.aFg)] (aAd (dTup ZF) ZM)) xNo
def aTd:DX:=xIf (dTru (dPr pLt (aAa (dVar 0) (aAa (dK (.int 6)) dNil)))) (xIf (dTru (dPr pEq (aAa (dVar 0) (aAa (dK (.int 4)) dNil)))) (aAy 3 Dd.aCz (aAd (dVar 1) (aAd (dTup ZF) (aAd (dK .non) bNil)))) (aAy 3 Dd.aCz (aAd (dTup ZF) (aAd (dVar 1) (aAd (dK .non) bNil))))) xNo
def XDie3:DX:=aAy 2 aGl (aAd (dLst (aAa (dFz (dTup (aAa (dFz (dK (.int 1))) ZF))) dNil)) ZM)
def aD3:DS:=(aM2 [0,1,2,3] (dSeq aSt (dSeq aYh (dSeq bBs SDie3))) (xSeq aJg aSt (xSeq aTv aYh (xSeq aTd bBs XDie3))) Dd.aC7)
def aD1:Fn:=fnD 3 (aD3)
def aD5:DS:=(dIfS (dOr (dNot (dTru (dPr (pIsI .int) (aAa (dVar 1) dNil)))) (dOr (dTru (dPr (pIsI .bool) (aAa (dVar 1) dNil))) (dNot (dTru (aBn pLe pLe (dK (.int 0)) (dVar 1) (dK (.int 30))))))) (dRet (dK (.bl false))) aCi)
def aD0:DS:=dFor (dItS (dVar 0)) (putAt 1) aD5
def aHg:DE:=aCs (aXa (dVar 0) (dSl2 (dVar 0) (aLn (dK (.int 1))) aLg)) (srcOf [none,none,some 0,some 1]) (aTb 0 1) yes (dPr pLe (aAa (dVar 0) (aAa (dVar 1) dNil)))
def aEi:DS:=(dSeq (dIfS (dOr (dNot (dTru (dPr (pIsI .tuple) (aAa (dVar 0) dNil)))) (dNot (dTru (aBn pLe pLe (dK (.int 1)) (dPr pLen (aAa (dVar 0) dNil)) (dK (.int 8)))))) (dRet (dK (.bl false))) aCi) (dSeq (dFrz 0 aD0) (dRet (dPr pAll (aAa aHg dNil)))))
def aCo:Fn:=fnD 2 (aEi)
def aDs:DE:=dLst (aAa (dFz (dK .non)) (aAa (dFz (dK (.bl true))) (aAa (dFz (dK (.str "1"))) (aAa (dFz (dK (.int 0))) (aAa (dFz (dK (.int 1))) (aAa (dFz (dK (.int 30))) (aAa (dFz (dK (.int 31))) (aAa (dFz (dPr pNeg (aAa (dK (.int 1)) dNil))) (aAa (dFz (dTup dNil)) (aAa (dFz (dTup ZF)) (aAa (dFz (dTup (aAa (dFz (dK (.int 2))) ZF))) (aAa (dFz (dLst ZF)) (aAa (dFz (dK (.str "dice"))) dNil)))))))))))))
def aAl(g:Fn):DS:=(dSeq (dSet 3 (dCall 3 Dd.aAs (aAd (dVar 0) (aAd (dVar 1) (aAd (dK (.int 8)) bNil))))) (dSeq (dIfS (dAnd (dTru (dPr (pIsI .tuple) (aAa (dVar 2) dNil))) (dAnd (dTru (dPr pNe (aAa (dVar 2) (aAa (dTup dNil) dNil)))) (dTru (dPr pGt (aAa (dVar 3) (aAa (dK (.int 1)) dNil)))))) (dSeq (dSet 4 (dCall 3 Dd.aAs (aAd (dVar 0) (aAd (dVar 1) (aAd (dPr pLen (aAa (dVar 2) dNil)) bNil))))) (dRet (dPr pAdd (aAa (dPr pAdd (aAa (dSl2 (dVar 2) aLg (aLn (dVar 4))) (aAa (dTup (aAa (dFz (dCall 3 g (aAd (dVar 0) (aAd (dVar 1) (aAd (dPr pGet (aAa (dVar 2) (aAa (dVar 4) dNil))) bNil))))) dNil)) dNil))) (aAa (dSl2 (dVar 2) (aLn (dPr pAdd (aAa (dVar 4) (aAa (dK (.int 1)) dNil)))) aLg) dNil))))) aCi) (dSeq (dIfS (dAnd (dTru (dPr (pIsI .tuple) (aAa (dVar 2) dNil))) (dTru (dPr pEq (aAa (dVar 3) (aAa (dK (.int 1)) dNil))))) (dRet (dCall 3 Dd.aBt (aAd (dVar 0) (aAd (dVar 1) (aAd (dLst (aAa (dFz (dPr aXw (aAa (dVar 2) dNil))) (aAa (dFz (dPr pMul (aAa (dVar 2) (aAa (dK (.int 9)) dNil)))) (aAa (dFz (dSl2 (dVar 2) (aLn (dK (.int 1))) aLg)) (aAa (dFz (dRev (dVar 2))) (aAa (dFz (dPr pAdd (aAa (dVar 2) (aAa (dSl2 (dVar 2) (aLn (dPr pNeg (aAa (dK (.int 1)) dNil))) aLg) dNil)))) dNil)))))) bNil))))) aCi) (dRet (dCall 3 Dd.aBt (aAd (dVar 0) (aAd (dVar 1) (aAd aDs bNil))))))))
def aCd:Fn:=fnD 5 (aAl Dd.aDu)
def aCw:Fn:=fnD 5 (aAl aCd)
def aCx:Fn:=fnD 5 (aAl aCw)
def aCv:Fn:=fnD 5 (aAl aCx)
def aBd:Fn:=fnD 5 (aAl aCv)
def aSv:DS:=(dSet 4 (dCall 3 aBd (aAd (dVar 0) (aAd (dVar 1) (aAd (dVar 4) bNil)))))
def l0_law:DS:=dFor (aHq (aAa (dPr pAdd (aAa (dK (.int 1)) (aAa (dCall 3 Dd.aAs (aAd (dVar 0) (aAd (dVar 1) (aAd (dK (.int 2)) bNil)))) dNil))) dNil)) (putAt 5) aSv
def bBl:DE:=aCs (dIt (dVar 4)) (srcOf [some 0,some 1,some 2,some 3,some 4,some 5,some 6,none]) (putAt 7) yes (dCall 1 aCo (aAd (dVar 7) bNil))
def bBj:DE:=aCs (aHq (aAa (dK (.int 12)) dNil)) (srcOf [none,some 0,some 1,some 2,some 3,some 4,some 5,some 6,some 7]) (putAt 0) yes (dCall 3 aBs (aAd (dVar 0) (aAd (dVar 5) (aAd (dK .non) bNil))))
def aZe:DE:=aCs (aHq (aAa (dK (.int 7)) dNil)) (srcOf [none,some 0,some 1,some 2,some 3,some 4,some 5,some 6,some 7]) (putAt 0) yes (dCall 2 aD1 (aAd (dVar 0) (aAd (dVar 8) bNil)))
def A1:DS:=dSet 2 (dCall 4 Dd.aCk (aAd (dVar 0) (aAd (dVar 1) (aAd (dPr pAdd (aAa (dK (.int 1)) (aAa (dCall 3 Dd.aAs (aAd (dVar 0) (aAd (dVar 1) (aAd (dK (.int 4)) bNil)))) dNil))) (aAd (dK (.int 5)) bNil)))))
def A2:DS:=dIfS (dOr (dTru (dPr pNe (aAa (dCall 3 aBs (aAd (dK (.int 0)) (aAd (dVar 2) (aAd (dK .non) bNil)))) (aAa (dCall 1 Dd.aCf (aAd (dVar 2) bNil)) dNil)))) (dTru (dPr pNe (aAa (dCall 3 aBs (aAd (dK (.int 1)) (aAd (dVar 2) (aAd (dK .non) bNil)))) (aAa (dPr aG6 (aAa (dCall 1 Dd.aDh (aAd (dVar 2) bNil)) dNil)) dNil))))) (dRet (dK (.bl false))) aCi
def A3:DS:=dSet 3 (dCall 3 Dd.aAs (aAd (dVar 0) (aAd (dVar 1) (aAd (dK (.int 121)) bNil))))
def A4:DS:=dIfS (dTru (dPr pNe (aAa (dCall 3 aBs (aAd (dK (.int 5)) (aAd (dVar 2) (aAd (dVar 3) bNil)))) (aAa (dPr aFu (aAa (dPr pDict (aAa (dCall 1 Dd.aCf (aAd (dVar 2) bNil)) dNil)) (aAa (dVar 3) (aAa (dK (.int 0)) dNil)))) dNil)))) (dRet (dK (.bl false))) aCi
def A5:DS:=dIfS (dTru (dPr pNe (aAa (dCall 3 aBs (aAd (dK (.int 5)) (aAd (dVar 2) (aAd (dCall 3 Dd.aBt (aAd (dVar 0) (aAd (dVar 1) (aAd (dLst (aAa (dFz (dPr pNeg (aAa (dK (.int 1)) dNil))) (aAa (dFz (dK (.int 121))) (aAa (dFz (dK .non)) (aAa (dFz (dK (.bl true))) (aAa (dFz (dK (.str "1"))) dNil)))))) bNil)))) bNil)))) (aAa (dTup (aAa (dFz (dK (.str "refused"))) (aAa (dFz (dK (.int 3))) dNil))) dNil)))) (dRet (dK (.bl false))) aCi
def A8:DS:=aC8 4 (dSet 6 (aXz (dPr (pIsI .tuple) (aAa (dVar 4) dNil)) (aXz (aBn pLe pLe (dK (.int 1)) (dPr pLen (aAa (dVar 4) dNil)) (dK (.int 4))) (dPr pAll (aAa bBl dNil)))))
def A9:DS:=dIfS (dAnd (dNot (dTru (dVar 6))) (dTru (dPr pNe (aAa bBj (aAa (dRep (dLst (aAa (dFz (dTup (aAa (dFz (dK (.str "refused"))) ZF))) dNil)) (dK (.int 12))) dNil))))) (dRet (dK (.bl false))) aCi
def A10:DS:=dSet 7 (dCall 3 aBd (aAd (dVar 0) (aAd (dVar 1) (aAd (dPr pGet (aAa (dVar 2) (aAa (dK (.int 0)) dNil))) bNil))))
def A11:DS:=dIfS (dTru (dCall 1 aCo (aAd (dVar 7) bNil))) (dRet (dPr pEq (aAa (dCall 3 aBs (aAd (dK (.int 0)) (aAd (dTup (aAa (dFz (dVar 7)) dNil)) (aAd (dK .non) bNil)))) (aAa (dCall 1 Dd.aCf (aAd (dTup (aAa (dFz (dVar 7)) dNil)) bNil)) dNil)))) aCi
def A12:DS:=dRet (dPr pEq (aAa aZe (aAa (dRep (dLst (aAa (dFz (dTup (aAa (dFz (dK (.str "refused"))) (aAa (dFz (dK (.int 0))) dNil)))) dNil)) (dK (.int 7))) dNil)))
def b_law:DS:=(dSeq A1 (dSeq A2 (dSeq A3 (dSeq A4 (dSeq A5 (dSeq (aDv 4 2) (dSeq l0_law (dSeq A8 (dSeq A9 (dSeq A10 (dSeq A11 A12)))))))))))
end K01
namespace K01
open PySem PySem.Spec PyProof.Rows L2 L2.Ds
def top(i:Nat):Stmt:=PySem.Challenge.pw_dicesums_k01_dice.main.body.getD i (.Pass ⟨0,0,0,0⟩)
abbrev aTn:Stmt:=top 15
abbrev aZm:Stmt:=top 16
abbrev aYu:Stmt:=top 17
abbrev aKj:Stmt:=top 18
abbrev aTl:Stmt:=top 19
abbrev aLc:Stmt:=top 20
abbrev aVd:Stmt:=top 21
abbrev aQ9:Stmt:=top 22
abbrev aLk:Stmt:=top 23
abbrev aYl:Stmt:=top 24
abbrev bAi:Stmt:=top 30
abbrev st_ways:Stmt:=top 31
abbrev st_rolls:Stmt:=top 32
abbrev aZs:Stmt:=top 34
abbrev st_alike:Stmt:=top 33
abbrev bAv:Stmt:=top 42
abbrev st_wins:Stmt:=top 36
abbrev st_beats:Stmt:=top 37
abbrev aSc:Stmt:=top 38
abbrev aYo:Stmt:=top 39
abbrev st_order:Stmt:=top 40
abbrev bB3:Stmt:=top 41
abbrev aXu:Stmt:=top 51
abbrev bAu:Stmt:=top 52
abbrev st_shown:Stmt:=top 63
abbrev aLi:Stmt:=top 66
abbrev aTp:Stmt:=top 67
abbrev aU7:Stmt:=top 68
abbrev aVz:Stmt:=top 69
abbrev aYs:Stmt:=top 70
abbrev aVc:Stmt:=top 71
abbrev aQk:Stmt:=top 72
abbrev aMv:Stmt:=top 73
abbrev aI2:Stmt:=top 74
abbrev aY2:Stmt:=top 75
abbrev aLh:Stmt:=top 76
abbrev aNe:Stmt:=top 77
abbrev aMo:Stmt:=top 78
abbrev bBp:Stmt:=top 79
theorem ndl:(["_law_script","_law_town","_law_dice_here","_law_total","_law_bad","_law_k","_law_good","_law_die_here"]:List Str).Nodup:=by decide +kernel
set_option genInjectivity false in
set_option genSizeOf false in
structure Ys (K:W.Frag) (mg:Str->Option Value) where
 h0:Heap
 X:K.In h0
 G:h0.Ns mainGlobals mg
 cX:Fr
 cY:Fr
 cZ:Fr
 dA:Fr
 dB:Fr
 dC:Fr
 dD:Fr
 dE:Fr
 dF:Fr
 dG:Fr
 aQ:Fr
 aR:Fr
 aS:Fr
 aJ:Fr
 aK:Fr
 dH:Fr
 aH:Fr
 aI:Fr
 aT:Fr
 aU:Fr
 aV:Fr
 aW:Fr
 dI:Fr
 dJ:Fr
 aX:Fr
 dK:Fr
 dL:Fr
 dM:Fr
 dN:Fr
 dO:Fr
 dP:Fr
 dQ:Fr
 dR:Fr
 bI:Fr
 dS:Fr
 dT:Fr
 dU:Fr
 dV:Fr
 bJ:Fr
 dW:Tok
 dX:Tok
 dY:Tok
 dZ:Tok
 eA:Tok
 eB:Tok
 aP:Addr
 aB:Addr
 aC:Addr
 aD:Addr
 aL:Addr
 aE:Addr
 aM:Addr
 eC:FnIn K "is_number" aTn cX
 eD:FnIn K "is_die" aZm cY
 eE:FnIn K "is_dice" aYu cZ
 eF:FnIn K "is_total_row" aKj dA
 eG:FnIn K "is_totals" aTl dB
 cG:FnIn K "need_number" aLc dC
 cH:FnIn K "need_die" aVd dD
 cI:FnIn K "need_dice" aQ9 dE
 cJ:FnIn K "need_totals" aLk dF
 eH:FnIn K "counted" aYl dG
 bO:FnIn K "totals" bAi aQ
 bP:FnIn K "ways" st_ways aR
 bQ:FnIn K "rolls" st_rolls aS
 bR:FnIn K "parted" aZs aJ
 bS:FnIn K "alike" st_alike aK
 eI:FnIn K "lesser" bAv dH
 bT:FnIn K "wins" st_wins aH
 bU:FnIn K "beats" st_beats aI
 bV:FnIn K "all_rings" aSc aT
 bW:FnIn K "is_ring" aYo aU
 bX:FnIn K "order" st_order aV
 bY:FnIn K "chance" bB3 aW
 cK:FnIn K "missing" aXu dI
 cL:FnIn K "others" bAu dJ
 bZ:FnIn K "shown" st_shown aX
 eJ:FnIn K "_law_cell_at" aLi dK
 eK:FnIn K "_law_mixed" aTp dL
 eL:FnIn K "_law_draw" aU7 dM
 eM:FnIn K "_law_pick" aVz dN
 eN:FnIn K "_law_die" aYs dO
 eO:FnIn K "_law_dice" aVc dP
 eP:FnIn K "_law_rolls" aQk dQ
 eQ:FnIn K "_law_totals" aMv dR
 aN:FnIn K "_law_which" aI2 bI
 eR:FnIn K "_law_ask" aY2 dS
 eS:FnIn K "_law_die_ask" aLh dT
 eT:FnIn K "_law_is_die" aNe dU
 cM:FnIn K "_law_spoilt" aMo dV
 cN:FnIn K "law" bBp bJ
 eU:mg "ValueError" = none
 aY:mg "all" = none
 cO:mg "bool" = none
 eV:mg "dict" = none
 cP:mg "int" = none
 aA:mg "isinstance" = none
 aF:mg "len" = none
 cA:mg "list" = none
 eW:mg "min" = none
 aZ:mg "range" = none
 eX:mg "set" = none
 aO:mg "sorted" = none
 bK:mg "sum" = none
 aG:mg "tuple" = none
 eY:mg "zip" = none
 cQ:mg "GREATEST_ASKED" = some (.int 999 dW)
 cB:mg "GREATEST_FACE" = some (.int 30 dX)
 bL:mg "GREATEST_TOTAL" = some (.int 120 dY)
 eZ:mg "MOST_DICE" = some (.int 4 dZ)
 fA:mg "MOST_FACES" = some (.int 8 eA)
 fB:mg "MOST_WAYS" = some (.int 4096 eB)
 cR:mg "DiceError" = some (.ref aP)
 bA:mg "NoDice" = some (.ref aB)
 bB:mg "NoDie" = some (.ref aC)
 bC:mg "NoNumber" = some (.ref aD)
 fC:mg "NoText" = some (.ref aL)
 bD:mg "NoTotals" = some (.ref aE)
 fD:mg "TooMany" = some (.ref aM)
 fE:W.excIn K aB excMro "ValueError.__new__" = true
 fF:W.excIn K aC excMro "ValueError.__new__" = true
 fG:W.excIn K aD excMro "ValueError.__new__" = true
 fH:W.excIn K aE excMro "ValueError.__new__" = true
 cS:Clause K aP
 cT:Takes K aB aP
 cU:Takes K aC aP
 cV:Takes K aD aP
 cW:Takes K aE aP
 cC:ClK K aC
 cD:ClK K aB
 cE:ClK K aE
 cF:ClK K aD
 bM:ClK K aM
 bN:ClK K aL
 fI:ExK K aC
 fJ:W.subIn K (.ref aC) (.type "ValueError")=some true
 bE:W.subIn K (.ref aC) (.ref aC)=some true
 fK:W.subIn K (.ref aC) (.ref aB)=some false
 fL:W.subIn K (.ref aC) (.ref aE)=some false
 fM:W.subIn K (.ref aC) (.ref aD)=some false
 fN:W.subIn K (.ref aC) (.ref aM)=some false
 fO:W.subIn K (.ref aC) (.ref aL)=some false
 fP:ExK K aB
 fQ:W.subIn K (.ref aB) (.type "ValueError")=some true
 fR:W.subIn K (.ref aB) (.ref aC)=some false
 bF:W.subIn K (.ref aB) (.ref aB)=some true
 fS:W.subIn K (.ref aB) (.ref aE)=some false
 fT:W.subIn K (.ref aB) (.ref aD)=some false
 fU:W.subIn K (.ref aB) (.ref aM)=some false
 fV:W.subIn K (.ref aB) (.ref aL)=some false
 fW:ExK K aE
 fX:W.subIn K (.ref aE) (.type "ValueError")=some true
 fY:W.subIn K (.ref aE) (.ref aC)=some false
 fZ:W.subIn K (.ref aE) (.ref aB)=some false
 bG:W.subIn K (.ref aE) (.ref aE)=some true
 gA:W.subIn K (.ref aE) (.ref aD)=some false
 gB:W.subIn K (.ref aE) (.ref aM)=some false
 gC:W.subIn K (.ref aE) (.ref aL)=some false
 gD:ExK K aD
 gE:W.subIn K (.ref aD) (.type "ValueError")=some true
 gF:W.subIn K (.ref aD) (.ref aC)=some false
 gG:W.subIn K (.ref aD) (.ref aB)=some false
 gH:W.subIn K (.ref aD) (.ref aE)=some false
 bH:W.subIn K (.ref aD) (.ref aD)=some true
 gI:W.subIn K (.ref aD) (.ref aM)=some false
 gJ:W.subIn K (.ref aD) (.ref aL)=some false
section
variable {P:Program}{w:World}{K:W.Frag}{mg:Str->Option Value}{base:Heap}{tw:Addr}(Y:Ys K mg)
include Y
theorem aEm:mg "alike" = some (.ref Y.aK.f):=Y.bS.mg Y.X Y.G
theorem aDf:mg "all_rings" = some (.ref Y.aT.f):=Y.bV.mg Y.X Y.G
theorem aDt:mg "beats" = some (.ref Y.aI.f):=Y.bU.mg Y.X Y.G
theorem aGr:mg "chance" = some (.ref Y.aW.f):=Y.bY.mg Y.X Y.G
theorem aE8:mg "is_ring" = some (.ref Y.aU.f):=Y.bW.mg Y.X Y.G
theorem aVu:mg "_law_which" = some (.ref Y.bI.f):=Y.aN.mg Y.X Y.G
theorem aIn:mg "order" = some (.ref Y.aV.f):=Y.bX.mg Y.X Y.G
theorem aDn:mg "parted" = some (.ref Y.aJ.f):=Y.bR.mg Y.X Y.G
theorem aIk:mg "rolls" = some (.ref Y.aS.f):=Y.bQ.mg Y.X Y.G
theorem aIl:mg "shown" = some (.ref Y.aX.f):=Y.bZ.mg Y.X Y.G
theorem aGj:mg "totals" = some (.ref Y.aQ.f):=Y.bO.mg Y.X Y.G
theorem aLr:mg "ways" = some (.ref Y.aR.f):=Y.bP.mg Y.X Y.G
theorem aFr:mg "wins" = some (.ref Y.aH.f):=Y.bT.mg Y.X Y.G
theorem aEb:Kn P w K mg base 1 "is_number" ["thing","low","high"] Dd.aA8 tw:=knF (lv:=0) (N:=["thing","low","high"]) Y.X Y.G Y.eC (fun _ _ _ _ _ _ hr nd =>
  (aAj (aCn (SW.st (aLf (aCh (aCc (aFq (k:=.int) (aAb 0) Y.aA Y.cP boot_int))) (aHw (aCc (aFq (k:=.bool) (aAb 0) Y.aA Y.cO boot_bool))))) (aAk (aAt aF3)) aA2) (aAk (aAt (aXi (p1:=fun a b=>decide (a<=b)) (p2:=fun a b=>decide (a<=b)) (opC fun _ _ _ _ _ _ h=>le_int h) (opC fun _ _ _ _ _ _ h=>le_int h) (aAb 1) (aAb 0) (aAb 2))))))
theorem aMs:Kn P w K mg base 2 "is_die" ["thing"] Dd.aBr tw:=knF (lv:=1) (N:=["thing"]) Y.X Y.G Y.eD (fun _ _ _ _ _ _ hr nd =>
  (aAj (aCn (SW.st (aLf (aCh (aCc (aFq (k:=.tuple) (aAb 0) Y.aA Y.aG boot_tuple))) (aHw (aCh (aJ3 (p1:=fun a b=>decide (a<=b)) (p2:=fun a b=>decide (a<=b)) (opC fun _ _ _ _ _ _ h=>le_int h) (opC fun _ _ _ _ _ _ h=>le_int h) aAg (aA3 aFa Y.aF boot_len (aAw (aAb 0) aBe)) (aCy Y.fA)))))) (aAk (aAt aF3)) aA2) (aAj (aEo 0 (aCn (aCh (aCc (aA3 (aUu rfl) Y.aY boot_all (aAw (aDe rfl (N':=["face","thing"]) (CompTxt.of) ZA (si_c (aAb 0)) (fun _ _ _ _ _=>(aBl 0 (show (["face","thing"]:List Str).Nodup by decide))) (fun _ _ _ _ _=>aC6) (fun _ _ _ _ _=>(aAu (aEb Y) (aAc (aAb 0) (aAc aAg (aAc (aCy Y.cB) aAi)))))) aBe)))) (aAk (aAt aF3)) aA2)) (aAk (aAt (aRb (aNh hr.u6 (aDw hr.units0)) (aFw (bAp hr.hd) Y.cA boot_list (aAw (aAb 0) aBe)) (aA3 (aXf hr.hd) Y.aO boot_sorted (aAw (aAb 0) aBe))))))))
theorem aQi:Kn P w K mg base 3 "is_dice" ["thing"] Dd.aBq tw:=knF (lv:=2) (N:=["thing"]) Y.X Y.G Y.eE (fun _ _ _ _ _ _ hr nd =>
  (aAj (aCn (SW.st (aLf (aCh (aCc (aFq (k:=.tuple) (aAb 0) Y.aA Y.aG boot_tuple))) (aHw (aCh (aJ3 (p1:=fun a b=>decide (a<=b)) (p2:=fun a b=>decide (a<=b)) (opC fun _ _ _ _ _ _ h=>le_int h) (opC fun _ _ _ _ _ _ h=>le_int h) aAg (aA3 aFa Y.aF boot_len (aAw (aAb 0) aBe)) (aCy Y.eZ)))))) (aAk (aAt aF3)) aA2) (aAk (aEo 0 (aAt (aA3 (aUu rfl) Y.aY boot_all (aAw (aDe rfl (N':=["die","thing"]) (CompTxt.of) ZA (si_c (aAb 0)) (fun _ _ _ _ _=>(aBl 0 (show (["die","thing"]:List Str).Nodup by decide))) (fun _ _ _ _ _=>aC6) (fun _ _ _ _ _=>(aAu (aMs Y) ZQ))) aBe)))))))
theorem aLe:Kn P w K mg base 2 "is_total_row" ["thing"] Dd.aGs tw:=knF (lv:=1) (N:=["thing"]) Y.X Y.G Y.eF (fun _ _ _ _ _ _ hr nd =>
  (aAj (aCn (SW.st (aLf (aCh (aCc (aFq (k:=.tuple) (aAb 0) Y.aA Y.aG boot_tuple))) (aHw (aBi (aT9 hr.u6 (aEh hr.units0)) (aA3 aFa Y.aF boot_len (aAw (aAb 0) aBe)) aAg)))) (aAk (aAt aF3)) aA2) (aAk (aAt (aZu (aAu (aEb Y) (aAc (aDr (aB9 hr.u1) (aAb 0) aAg (fun _ _=>rfl)) (aAc aAg (aAc (aCy Y.bL) aAi)))) (se_one (aAu (aEb Y) (aAc (aDr (aB9 hr.u1) (aAb 0) aAg (fun _ _=>rfl)) (aAc aAg (aAc (aCy Y.fB) aAi))))))))))
theorem aKt:Kn P w K mg base 3 "is_totals" ["thing"] aDd tw:=knF (lv:=2) (N:=["thing","heads"]) Y.X Y.G Y.eG (fun _ _ _ _ _ _ hr nd =>
  (aAj (aCn (SW.st (aLf (aCh (aCc (aFq (k:=.list) (aAb 0) Y.aA Y.cA boot_list))) (aHw (aCh (aCc (aAb 0)))))) (aAk (aAt aF3)) aA2) (aAj (aEo 0 (aCn (aCh (aCc (aA3 (aUu rfl) Y.aY boot_all (aAw (aDe rfl (N':=["row","thing","heads"]) (CompTxt.of) ZA (si_c (aAb 0)) (fun _ _ _ _ _=>(aBl 0 (show (["row","thing","heads"]:List Str).Nodup by decide))) (fun _ _ _ _ _=>aC6) (fun _ _ _ _ _=>(aAu (aLe Y) ZQ))) aBe)))) (aAk (aAt aF3)) aA2)) (aAj (aEo 0 (aLy 1 rfl nd (N':=["row","thing","heads"]) (CompTxt.of) ZA (si_c (aAb 0)) (fun _ _ _ _ _=>(aBl 0 (show (["row","thing","heads"]:List Str).Nodup by decide))) (fun _ _ _ _ _=>aC6) (fun _ _ _ _ _=>(aDr (aB9 hr.u1) (aAb 0) aAg (fun _ _=>rfl))))) (aAk (aAt (aRb (aNh hr.u6 (aDw hr.units0)) (aAb 1) (se_sort1 hr.hd (aAb 1) Y.aO Y.eX))))))))
theorem aDz:Kn P w K mg base 2 "need_number" ["thing","low","high"] Dd.aBw tw:=knF (lv:=1) (N:=["thing","low","high"]) Y.X Y.G Y.cG (fun _ _ _ _ _ _ hr nd =>
  (aAk (aCn (aCh (aCc (aAu (aEb Y) (aAc (aAb 0) (aAc (aAb 1) (aAc (aAb 2) aAi)))))) (aAk aJ2) aA2)))
theorem aEp:KnX P w K mg base 2 "need_number" ["thing","low","high"] Dd.aAv tw:=knXF (lv:=1) (N:=["thing","low","high"]) Y.X Y.G Y.cG (fun _ _ _ _ _ _ hr nd =>
  (aCl (aLm (aCh (aCc (aAu (aEb Y) (aAc (aAb 0) (aAc (aAb 1) (aAc (aAb 2) aAi)))))) (aCl (aJv rfl (sv_join (sj_str (sj_int (aAb 1) (sj_str (sj_int (aAb 2) (sj_nil ZA)))))) Y.bC rfl Y.fG)) aCm)))
theorem aDg:Kn P w K mg base 3 "need_die" ["thing"] Dd.aAx tw:=knF (lv:=2) (N:=["thing"]) Y.X Y.G Y.cH (fun _ _ _ _ _ _ hr nd =>
  (aAk (aCn (aCh (aCc (aAu (aMs Y) ZQ))) (aAk aJ2) aA2)))
theorem aD9:KnX P w K mg base 3 "need_die" ["thing"] Dd.aAh tw:=knXF (lv:=2) (N:=["thing"]) Y.X Y.G Y.cH (fun _ _ _ _ _ _ hr nd =>
  (aCl (aLm (aCh (aCc (aAu (aMs Y) ZQ))) (aCl (aJv rfl bB5 Y.bB rfl Y.fF)) aCm)))
theorem aBf:Kn P w K mg base 4 "need_dice" ["thing"] Dd.aAo tw:=knF (lv:=3) (N:=["thing"]) Y.X Y.G Y.cI (fun _ _ _ _ _ _ hr nd =>
  (aAk (aCn (aCh (aCc (aAu (aQi Y) ZQ))) (aAk aJ2) aA2)))
theorem aBm:KnX P w K mg base 4 "need_dice" ["thing"] Dd.aAe tw:=knXF (lv:=3) (N:=["thing"]) Y.X Y.G Y.cI (fun _ _ _ _ _ _ hr nd =>
  (aCl (aLm (aCh (aCc (aAu (aQi Y) ZQ))) (aCl (aJv rfl bB5 Y.bA rfl Y.fE)) aCm)))
theorem aMk:Kn P w K mg base 4 "need_totals" ["thing"] aBv tw:=knF (lv:=3) (N:=["thing"]) Y.X Y.G Y.cJ (fun _ _ _ _ _ _ hr nd =>
  (aAk (aCn (aCh (aCc (aAu (aKt Y) ZQ))) (aAk aJ2) aA2)))
theorem aLj:KnX P w K mg base 4 "need_totals" ["thing"] aBg tw:=knXF (lv:=3) (N:=["thing"]) Y.X Y.G Y.cJ (fun _ _ _ _ _ _ hr nd =>
  (aCl (aLm (aCh (aCc (aAu (aKt Y) ZQ))) (aCl (aJv rfl bB5 Y.bD rfl Y.fH)) aCm)))
theorem aTg:Kn P w K mg base 1 "counted" ["dice"] Dd.aF7 tw:=knF (lv:=0) (N:=["dice","counts","die","larger","total","face"]) Y.X Y.G Y.eH (fun _ _ _ _ _ _ hr nd =>
  (aAj (aCu 1 (se_dic1 aAg) nd) (aAj (aHr 0 (aGv rfl rfl (si_s (aAb 0)) (aBl 2 nd) (aAj (aCu 3 bAt nd) (aAj (aHr 1 (aGv rfl rfl (si_s (aAb 1)) (aBl 4 nd) (aAk (aHr 2 (aGv rfl rfl (si_s (aAb 2)) (aBl 5 nd) (aAk (aWf 3 hr.u1 (aBy aC4 (aNa hr.u1 (aAb 3) (aBy aC4 (aAb 4) (aAb 5)) aAg ⟨rfl,rfl,rfl,rfl⟩) (aDr (aB9 hr.u1) (aAb 1) (aAb 4) (fun _ _=>rfl))) (aBy aC4 (aAb 4) (aAb 5))))))))) (aAk (aHk 1 3 nd)))))) (aAk (aUa 1)))))
theorem aWb:Kn P w K mg base 5 "totals" ["dice"] Dd.aDk tw:=knF (lv:=4) (N:=["dice"]) Y.X Y.G Y.bO (fun _ _ _ _ _ _ hr nd =>
  (aAj (aBj (aAu (aBf Y) ZQ)) (aAk (aAt (aSx hr.hd (aAu (aTg Y) ZQ) Y.aO)))))
theorem aZl:KnX P w K mg base 5 "totals" ["dice"] Dd.aF6 tw:=knXF (lv:=4) (N:=["dice"]) Y.X Y.G Y.bO (fun _ _ _ _ _ _ hr nd =>
  (aA5 (aCa (aD4 (aBm Y) ZQ)) (SS.lift (aBj (aAu (aBf Y) ZQ))) aCm))
theorem k_ways:Kn P w K mg base 5 "ways" ["dice","total"] Dd.aJb tw:=knF (lv:=4) (N:=["dice","total"]) Y.X Y.G Y.bP (fun _ _ _ _ _ _ hr nd =>
  (aAj (aBj (aAu (aBf Y) ZQ)) (aAj (aBj (aAu (aDz Y) (aAc (aAb 1) (aAc aAg (aAc (aCy Y.bL) aAi))))) (aAk (aAt (aNa hr.u1 (aAu (aTg Y) ZQ) (aAb 1) aAg ⟨rfl,rfl,rfl,rfl⟩))))))
theorem kx_ways:KnX P w K mg base 5 "ways" ["dice","total"] Dd.aGz tw:=knXF (lv:=4) (N:=["dice","total"]) Y.X Y.G Y.bP (fun _ _ _ _ _ _ hr nd =>
  (aA5 (aCa (aD4 (aBm Y) ZQ)) (SS.lift (aBj (aAu (aBf Y) ZQ))) (aA5 (aCa (aD4 (aEp Y) (aAc (aAb 1) (aAc aAg (aAc (aCy Y.bL) aAi))))) (SS.lift (aBj (aAu (aDz Y) (aAc (aAb 1) (aAc aAg (aAc (aCy Y.bL) aAi)))))) aCm)))
theorem bBa:Kn P w K mg base 5 "rolls" ["dice"] Dd.aEr tw:=knF (lv:=4) (N:=["dice","found","die","longer","roll"]) Y.X Y.G Y.bQ (fun _ _ _ _ _ _ hr nd =>
  (aAj (aBj (aAu (aBf Y) ZQ)) (aAj (aCu 1 (aBh (aAf (aA7 aAm) aAm)) nd) (aAj (aHr 0 (aGv rfl rfl (si_s (aAb 0)) (aBl 2 nd) (aAj (aCu 3 (aBh aAm) nd) (aAj (aHr 1 (aGv rfl rfl (si_s (aAb 1)) (aBl 4 nd) (aAk (aEo 2 (bAd 3 (aDe rfl (N':=["face","dice","found","die","longer","roll"]) (CompTxt.of) ZA (si_c (aAb 2)) (fun _ _ _ _ _=>(aBl 0 (show (["face","dice","found","die","longer","roll"]:List Str).Nodup by decide))) (fun _ _ _ _ _=>aC6) (fun _ _ _ _ _=>(aBy aC4 (aAb 5) (aA7 (aAf (aAb 0) aAm)))))))))) (aAk (aHk 1 3 nd)))))) (aAk (aAt (aA3 (aQw hr.hd) Y.aO boot_sorted (aAw (aAb 1) aBe))))))))
theorem kx_rolls:KnX P w K mg base 5 "rolls" ["dice"] Dd.aHx tw:=knXF (lv:=4) (N:=["dice","found","die","longer","roll"]) Y.X Y.G Y.bQ (fun _ _ _ _ _ _ hr nd =>
  (aA5 (aCa (aD4 (aBm Y) ZQ)) (SS.lift (aBj (aAu (aBf Y) ZQ))) aCm))
theorem aNt:Kn P w K mg base 1 "parted" ["one","other"] (fnD 5 aA0) tw:=knF (lv:=0) (N:=["one","other","first","second","either"]) Y.X Y.G Y.bR (fun _ _ _ _ _ _ hr nd =>
  aC5)
theorem aLb:KnX P w K mg base 5 "parted" ["one","other"] Dd.aDq tw:=knXF (lv:=4) (N:=["one","other","first","second","either"]) Y.X Y.G Y.bR (fun _ _ _ _ _ _ hr nd =>
  (aA5 (aCa (aD4 (aBm Y) ZQ)) (SS.lift (aBj (aAu (aBf Y) ZQ))) (aA5 (aCa (aD4 (aBm Y) (aAc (aAb 1) aAi))) (SS.lift (aBj (aAu (aBf Y) (aAc (aAb 1) aAi)))) aCm)))
theorem aVe:Kn P w K mg base 1 "alike" ["one","other"] (fnD 2 aA0) tw:=knF (lv:=0) (N:=["one","other"]) Y.X Y.G Y.bS (fun _ _ _ _ _ _ hr nd =>
  aC5)
theorem aWp:KnX P w K mg base 6 "alike" ["one","other"] Dd.aFl tw:=knXF (lv:=5) (N:=["one","other"]) Y.X Y.G Y.bS (fun _ _ _ _ _ _ hr nd =>
  (aCl (aH4 (xe_isN (aD4 (aLb Y) (aAc (aAb 0) (aAc (aAb 1) aAi)))))))
theorem k_lesser:Kn P w K mg base 1 "lesser" ["die","than"] Dd.aV8 tw:=knF (lv:=0) (N:=["die","than"]) Y.X Y.G Y.eI (fun _ _ _ _ _ _ hr nd =>
  (aAk (aEo 0 (aAt (aA3 aFa Y.aF boot_len (aAw (aDe rfl (N':=["face","die","than"]) (CompTxt.of) ZA (si_c (aAb 0)) (fun _ _ _ _ _=>(aBl 0 (show (["face","die","than"]:List Str).Nodup by decide))) (fun _ _ _ _ _=>(sfi_one (aBi aE7 (aAb 0) (aAb 2)))) (fun _ _ _ _ _=>(aAb 0))) aBe))))))
theorem aQs:Kn P w K mg base 4 "wins" ["one","other"] Dd.aXc tw:=knF (lv:=3) (N:=["one","other","won","drawn"]) Y.X Y.G Y.bT (fun _ _ _ _ _ _ hr nd =>
  (aAj (aBj (aAu (aDg Y) ZQ)) (aAj (aBj (aAu (aDg Y) (aAc (aAb 1) aAi))) (aAj (aEo 0 (aCu 2 (aA3 (aMt rfl) Y.bK boot_sum (aAw (aDe rfl (N':=["face","one","other","won","drawn"]) (CompTxt.of) ZA (si_c (aAb 0)) (fun _ _ _ _ _=>(aBl 0 (show (["face","one","other","won","drawn"]:List Str).Nodup by decide))) (fun _ _ _ _ _=>aC6) (fun _ _ _ _ _=>(aAu (k_lesser Y) (aAc (aAb 2) ZQ)))) aBe)) nd)) (aAj (aEo 0 (aCu 3 (aA3 (aMt rfl) Y.bK boot_sum (aAw (aDe rfl (N':=["face","one","other","won","drawn"]) (CompTxt.of) ZA (si_c (aAb 0)) (fun _ _ _ _ _=>(aBl 0 (show (["face","one","other","won","drawn"]:List Str).Nodup by decide))) (fun _ _ _ _ _=>aC6) (fun _ _ _ _ _=>(se_count (aAb 2) (aAb 0) ⟨rfl,rfl,rfl,rfl⟩))) aBe)) nd)) (aAk (aAt (aA7 (aAf (aAb 2) (aAf (aAb 3) (aAf (aBy aFf (aBy aFf (aBy aJ5 (aA3 aFa Y.aF boot_len (aAw (aAb 0) aBe)) (aA3 aFa Y.aF boot_len (aAw (aAb 1) aBe))) (aAb 2)) (aAb 3)) aAm)))))))))))
theorem aVa:KnX P w K mg base 4 "wins" ["one","other"] Dd.aEv tw:=knXF (lv:=3) (N:=["one","other","won","drawn"]) Y.X Y.G Y.bT (fun _ _ _ _ _ _ hr nd =>
  (aA5 (aCa (aD4 (aD9 Y) ZQ)) (SS.lift (aBj (aAu (aDg Y) ZQ))) (aA5 (aCa (aD4 (aD9 Y) (aAc (aAb 1) aAi))) (SS.lift (aBj (aAu (aDg Y) (aAc (aAb 1) aAi)))) aCm)))
theorem aNq:Kn P w K mg base 1 "beats" ["one","other"] (fnD 3 aA0) tw:=knF (lv:=0) (N:=["one","other","counts"]) Y.X Y.G Y.bU (fun _ _ _ _ _ _ hr nd =>
  aC5)
theorem aXq:KnX P w K mg base 5 "beats" ["one","other"] Dd.aFg tw:=knXF (lv:=4) (N:=["one","other","counts"]) Y.X Y.G Y.bU (fun _ _ _ _ _ _ hr nd =>
  (aA5 (xs_set 2 (aD4 (aVa Y) (aAc (aAb 0) (aAc (aAb 1) aAi))) nd) (SS.lift (aCu 2 (aAu (aQs Y) (aAc (aAb 0) (aAc (aAb 1) aAi))) nd)) aCm))
theorem aKm:Kn P w K mg base 1 "all_rings" ["dice"] (fnD 1 aA0) tw:=knF (lv:=0) (N:=["dice"]) Y.X Y.G Y.bV (fun _ _ _ _ _ _ hr nd =>
  aC5)
theorem aRq:KnX P w K mg base 5 "all_rings" ["dice"] Dd.aEf tw:=knXF (lv:=4) (N:=["dice"]) Y.X Y.G Y.bV (fun _ _ _ _ _ _ hr nd =>
  (aA5 (aCa (aD4 (aBm Y) ZQ)) (SS.lift (aBj (aAu (aBf Y) ZQ))) aCm))
theorem aRu:Kn P w K mg base 1 "is_ring" ["dice","thing"] (fnD 2 aA0) tw:=knF (lv:=0) (N:=["dice","thing"]) Y.X Y.G Y.bW (fun _ _ _ _ _ _ hr nd =>
  aC5)
theorem aX3:KnX P w K mg base 5 "is_ring" ["dice","thing"] Dd.aGp tw:=knXF (lv:=4) (N:=["dice","thing"]) Y.X Y.G Y.bW (fun _ _ _ _ _ _ hr nd =>
  (aA5 (aCa (aD4 (aBm Y) ZQ)) (SS.lift (aBj (aAu (aBf Y) ZQ))) aCm))
theorem bAa:Kn P w K mg base 1 "order" ["dice"] (fnD 5 aA0) tw:=knF (lv:=0) (N:=["dice","table","row","left","free"]) Y.X Y.G Y.bX (fun _ _ _ _ _ _ hr nd =>
  aC5)
theorem kx_order:KnX P w K mg base 5 "order" ["dice"] Dd.aJz tw:=knXF (lv:=4) (N:=["dice","table","row","left","free"]) Y.X Y.G Y.bX (fun _ _ _ _ _ _ hr nd =>
  (aA5 (aCa (aD4 (aBm Y) ZQ)) (SS.lift (aBj (aAu (aBf Y) ZQ))) aCm))
theorem aW7:Kn P w K mg base 1 "chance" ["dice","total"] (fnD 2 aA0) tw:=knF (lv:=0) (N:=["dice","total"]) Y.X Y.G Y.bY (fun _ _ _ _ _ _ hr nd =>
  aC5)
theorem aZy:KnX P w K mg base 5 "chance" ["dice","total"] Dd.aHu tw:=knXF (lv:=4) (N:=["dice","total"]) Y.X Y.G Y.bY (fun _ _ _ _ _ _ hr nd =>
  (aA5 (aCa (aD4 (aBm Y) ZQ)) (SS.lift (aBj (aAu (aBf Y) ZQ))) (aA5 (aCa (aD4 (aEp Y) (aAc (aAb 1) (aAc aAg (aAc (aCy Y.cQ) aAi))))) (SS.lift (aBj (aAu (aDz Y) (aAc (aAb 1) (aAc aAg (aAc (aCy Y.cQ) aAi)))))) aCm)))
theorem bAy:Kn P w K mg base 1 "missing" ["totals","die"] (fnD 8 aA0) tw:=knF (lv:=0) (N:=["totals","die","left","faces","lowest","face","times","same"]) Y.X Y.G Y.cK (fun _ _ _ _ _ _ hr nd =>
  aC5)
theorem aYy:KnX P w K mg base 5 "missing" ["totals","die"] aGl tw:=knXF (lv:=4) (N:=["totals","die","left","faces","lowest","face","times","same"]) Y.X Y.G Y.cK (fun _ _ _ _ _ _ hr nd =>
  (aA5 (aCa (aD4 (aLj Y) ZQ)) (SS.lift (aBj (aAu (aMk Y) ZQ))) (aA5 (aCa (aD4 (aD9 Y) (aAc (aAb 1) aAi))) (SS.lift (aBj (aAu (aDg Y) (aAc (aAb 1) aAi)))) aCm)))
theorem aJw:Kn P w K mg base 1 "others" ["one","other","least"] (fnD 5 aA0) tw:=knF (lv:=0) (N:=["one","other","least","same","found"]) Y.X Y.G Y.cL (fun _ _ _ _ _ _ hr nd =>
  aC5)
theorem aSb:KnX P w K mg base 4 "others" ["one","other","least"] Dd.aCz tw:=knXF (lv:=3) (N:=["one","other","least","same","found"]) Y.X Y.G Y.cL (fun _ _ _ _ _ _ hr nd =>
  (aA5 (aCa (aD4 (aD9 Y) ZQ)) (SS.lift (aBj (aAu (aDg Y) ZQ))) (aA5 (aCa (aD4 (aD9 Y) (aAc (aAb 1) aAi))) (SS.lift (aBj (aAu (aDg Y) (aAc (aAb 1) aAi)))) (aA5 (aCa (aD4 (aEp Y) (aAc (aAb 2) (aAc aAg (aAc (aCy Y.cB) aAi))))) (SS.lift (aBj (aAu (aDz Y) (aAc (aAb 2) (aAc aAg (aAc (aCy Y.cB) aAi)))))) aCm))))
theorem aZp:Kn P w K mg base 1 "shown" ["dice"] (fnD 1 aA0) tw:=knF (lv:=0) (N:=["dice"]) Y.X Y.G Y.bZ (fun _ _ _ _ _ _ hr nd =>
  aC5)
theorem kx_shown:KnX P w K mg base 5 "shown" ["dice"] aJ1 tw:=knXF (lv:=4) (N:=["dice"]) Y.X Y.G Y.bZ (fun _ _ _ _ _ _ hr nd =>
  (aA5 (aCa (aD4 (aBm Y) ZQ)) (SS.lift (aBj (aAu (aBf Y) ZQ))) aCm))
theorem aM9:Kn P w K mg base 1 "_law_cell_at" ["_law_script","_law_k"] Dd.aD2 tw:=knF (lv:=0) (N:=["_law_script","_law_k"]) Y.X Y.G Y.eJ (fun _ _ _ _ _ _ hr nd =>
  (aAj (aCn (aBi aE7 (aAb 1) (aA3 aFa Y.aF boot_len (aAw (aAb 0) aBe))) (aAk (aAt (aDr (aB9 hr.u1) (aAb 0) (aAb 1) (fun _ _=>rfl)))) aA2) (aAj (aCn (aBi (aNh hr.u6 (aDw hr.units0)) (aAb 0) (aBh aAm)) (aAk (aAt aAg)) aA2) (aAk (aAt (aBy aC4 (aBy aJ5 (aDr (aB9 hr.u1) (aAb 0) (aBy aWj (aAb 1) (aA3 aFa Y.aF boot_len (aAw (aAb 0) aBe))) (fun _ _=>rfl)) aAg) (aAb 1)))))))
theorem aV3:Kn P w K mg base 2 "_law_mixed" ["_law_script","_law_k","_law_many"] Dd.aDy tw:=knF (lv:=1) (N:=["_law_script","_law_k","_law_many","_law_drawn"]) Y.X Y.G Y.eK (fun _ _ _ _ _ _ hr nd =>
  (aAj (aCu 3 (aBy aWj (aBy aJ5 (aBy aC4 (aBy aC4 (aAu (aM9 Y) (aAc (aAb 0) (aAc (aAb 1) aAi))) (aBy aJ5 aAg (aAb 1))) aAg) aAg) aAg) nd) (aAk (aAt (aBy aWj (aBy aWj (aBy aC4 (aBy aC4 (aBy aJ5 (aAb 3) (aAb 3)) (aBy aJ5 aAg (aAb 3))) (aAb 1)) aAg) (aAb 2))))))
theorem aCp:Kn P w K mg base 3 "_law_draw" ["_law_script","_law_town","_law_many"] Dd.aAs tw:=knF (lv:=2) (N:=["_law_script","_law_town","_law_many"]) Y.X Y.G Y.eL (fun _ _ _ _ _ _ hr nd =>
  (aAj (ss_town 1) (aAk (aAt (aAu (aV3 Y) (aAc (aAb 0) (aAc (aA3 aFa Y.aF boot_len (aAw (aAb 1) aBe)) (aAc (aAb 2) aAi))))))))
theorem aFc:Kn P w K mg base 4 "_law_pick" ["_law_script","_law_town","_law_some"] Dd.aBt tw:=knF (lv:=3) (N:=["_law_script","_law_town","_law_some"]) Y.X Y.G Y.eM (fun _ _ _ _ _ _ hr nd =>
  (aAk (aAt (aDr (aB9 hr.u1) (aAb 2) (aAu (aCp Y) (aAc (aAb 0) (aAc (aAb 1) (aAc (aA3 aFa Y.aF boot_len (aAw (aAb 2) aBe)) aAi)))) (fun _ _=>rfl)))))
theorem bBb:Kn P w K mg base 5 "_law_die" ["_law_script","_law_town","_law_faces","_law_most"] Dd.aDi tw:=knF (lv:=4) (N:=["_law_script","_law_town","_law_faces","_law_most","_law_low","_law_wide","_law_made"]) Y.X Y.G Y.eN (fun _ _ _ _ _ _ hr nd =>
  (aAj (aCu 4 (aAu (aFc Y) (aAc (aAb 0) (aAc (aAb 1) (aAc (aBh (aAf aAg (aAf aAg (aAf aAg (aAf aAg (aAf (aAu (aCp Y) (aAc (aAb 0) (aAc (aAb 1) (aAc aAg aAi)))) aAm)))))) aAi)))) nd) (aAj (aCu 5 (aAu (aFc Y) (aAc (aAb 0) (aAc (aAb 1) (aAc (aBh (aAf aAg (aAf aAg (aAf aAg (aAf aAg aAm))))) aAi)))) nd) (aAj (aLy 6 rfl nd (N':=["_law_k","_law_script","_law_town","_law_faces","_law_most","_law_low","_law_wide","_law_made"]) (CompTxt.of) ZA (SIr.c (aJ4 (aAw (aAb 2) aBe) Y.aZ)) (fun _ _ _ _ _=>(aBl 0 (show (["_law_k","_law_script","_law_town","_law_faces","_law_most","_law_low","_law_wide","_law_made"]:List Str).Nodup by decide))) (fun _ _ _ _ _=>aC6) (fun _ _ _ _ _=>(aA3 (pr_min rfl) Y.eW boot_min (aAw (aAb 4) (aAw (aBy aC4 (aAb 5) (aAu (aCp Y) (aAc (aAb 1) (aAc (aAb 2) (aAc (aAb 6) aAi))))) aBe))))) (aAk (aAt (aFw aWa Y.aG boot_tuple (aAw (aA3 (aXf hr.hd) Y.aO boot_sorted (aAw (aAb 6) aBe)) aBe))))))))
theorem aYr:Kn P w K mg base 6 "_law_dice" ["_law_script","_law_town","_law_many","_law_faces"] Dd.aCk tw:=knF (lv:=5) (N:=["_law_script","_law_town","_law_many","_law_faces"]) Y.X Y.G Y.eO (fun _ _ _ _ _ _ hr nd =>
  (aAk (aAt (aFw aWa Y.aG boot_tuple (aAw (aDe rfl (N':=["_law_k","_law_script","_law_town","_law_many","_law_faces"]) (CompTxt.of) ZA (SIr.c (aJ4 (aAw (aAb 2) aBe) Y.aZ)) (fun _ _ _ _ _=>(aBl 0 (show (["_law_k","_law_script","_law_town","_law_many","_law_faces"]:List Str).Nodup by decide))) (fun _ _ _ _ _=>aC6) (fun _ _ _ _ _=>(aAu (bBb Y) (aAc (aAb 1) (aAc (aAb 2) (aAc (aBy aC4 aAg (aAu (aCp Y) (aAc (aAb 1) (aAc (aAb 2) (aAc (aAb 4) aAi))))) (aAc aAg aAi))))))) aBe)))))
theorem aKs:Kn P w K mg base 1 "_law_rolls" ["_law_dice_here"] Dd.aDh tw:=knF (lv:=0) (N:=["_law_dice_here","_law_rows","_law_die_here","_law_longer","_law_line"]) Y.X Y.G Y.eP (fun _ _ _ _ _ _ hr nd =>
  (aAj (aCu 1 (aBh (aAf (aA7 aAm) aAm)) nd) (aAj (aHr 0 (aGv rfl rfl (si_s (aAb 0)) (aBl 2 nd) (aAj (aCu 3 (aBh aAm) nd) (aAj (aHr 1 (aGv rfl rfl (si_s (aAb 1)) (aBl 4 nd) (aAk (aEo 2 (bAd 3 (aDe rfl (N':=["_law_face","_law_dice_here","_law_rows","_law_die_here","_law_longer","_law_line"]) (CompTxt.of) ZA (si_c (aAb 2)) (fun _ _ _ _ _=>(aBl 0 (show (["_law_face","_law_dice_here","_law_rows","_law_die_here","_law_longer","_law_line"]:List Str).Nodup by decide))) (fun _ _ _ _ _=>aC6) (fun _ _ _ _ _=>(aBy aC4 (aAb 5) (aA7 (aAf (aAb 0) aAm)))))))))) (aAk (aHk 1 3 nd)))))) (aAk (aUa 1)))))
theorem aFz:Kn P w K mg base 2 "_law_totals" ["_law_dice_here"] Dd.aCf tw:=knF (lv:=1) (N:=["_law_dice_here","_law_book","_law_line"]) Y.X Y.G Y.eQ (fun _ _ _ _ _ _ hr nd =>
  (aAj (aCu 1 bAt nd) (aAj (aGv rfl rfl (si_s (aAu (aKs Y) ZQ)) (aBl 2 nd) (aAk (aWf 1 hr.u1 (aBy aC4 (aNa hr.u1 (aAb 1) (aA3 (aMt rfl) Y.bK boot_sum (aAw (aAb 2) aBe)) aAg ⟨rfl,rfl,rfl,rfl⟩) aAg) (aA3 (aMt rfl) Y.bK boot_sum (aAw (aAb 2) aBe))))) (aAk (aAt (aSx hr.hd (aAb 1) Y.aO))))))
theorem aD6(hc:oe.cls = .ref C)(hd:oe.dict=none)(hv:∃vs,oe.data = .fields vs)(ek:ExK K C)(fl:Nat->Bool)(b7:W.kitOne K (.ref C) (.ref Y.aC)=some (fl 0))(c8:W.kitOne K (.ref C) (.ref Y.aB)=some (fl 1))(c7:W.kitOne K (.ref C) (.ref Y.aE)=some (fl 2))(c6:W.kitOne K (.ref C) (.ref Y.aD)=some (fl 3))(b8:W.kitOne K (.ref C) (.ref Y.aM)=some (fl 4))(b9:W.kitOne K (.ref C) (.ref Y.aL)=some (fl 5))(b6:W.kitOne K (.ref C) (.type "ValueError")=some (fl 11)):FnH P w K mg base 1 Y.bI.f (Y.bI.fd "_law_which" aI2) ["_law_e"] [(e,oe)] (SpF K tw 1 (Dd.aBu e fl)) :=
 fnh_ok (lv:=0) Y.aN.fn (scZ (N:=["_law_e","_law_own"])) (fun cdv A outer s H hr =>
  (aAj (aCu 1 (aBh (aAf (aMf (e:=e) (oe:=oe) (C:=C) (.head _) hc hd hv ek (aAb 0) b7 Y.aA Y.bB) (aAf (aMf (e:=e) (oe:=oe) (C:=C) (.head _) hc hd hv ek (aAb 0) c8 Y.aA Y.bA) (aAf (aMf (e:=e) (oe:=oe) (C:=C) (.head _) hc hd hv ek (aAb 0) c7 Y.aA Y.bD) (aAf (aMf (e:=e) (oe:=oe) (C:=C) (.head _) hc hd hv ek (aAb 0) c6 Y.aA Y.bC) aAm))))) (show (["_law_e","_law_own"]:List Str).Nodup by decide)) (aAj (bAd 1 (aBh (aAf (aMf (e:=e) (oe:=oe) (C:=C) (.head _) hc hd hv ek (aAb 0) b8 Y.aA Y.fD) (aAf (aMf (e:=e) (oe:=oe) (C:=C) (.head _) hc hd hv ek (aAb 0) b9 Y.aA Y.fC) aAm)))) (aAj (aCn (SW.st (aLf (aBi (aT9 hr.u6 (aEh hr.units0)) (bA6 (aAb 1) aF3 ⟨rfl,rfl,rfl,rfl⟩) aAg) (aHw (aCh (aCc (se_isB (e:=e) (oe:=oe) (C:=C) (.head _) hc hd hv ek (aAb 0) b6 Y.aA Y.eU PyProof.Rows.Boot.«ValueError»)))))) (aAk (aAt (aA7 (aAf aJd (aAf (aM0 aAg) aAm))))) aA2) (aAk (aAt (aA7 (aAf aJd (aAf (se_index (aAb 1) aF3 ⟨rfl,rfl,rfl,rfl⟩) aAm)))))))))
theorem aIx:KnW P w K mg base 1 "_law_which" [0,1,2,3] Dd.aC7 tw:=⟨_,Y.aN.2.2.2,aVu Y,fun c t hcs ht C hC e oe h1 h2 h3=>by
  simp only[bf,gj,or_false] at hcs;rcases hcs with rfl |rfl |rfl |rfl
  ·have z:=Y.bB.symm.trans hC;cases z;cases ht;exact⟨_,_,Dd.aBu e (fun j=>j==0||j==11),aD6 Y h1 h2 h3 Y.fI _ aJq (aB3 Y.bE Y.cD Y.fK) (aB3 Y.bE Y.cE Y.fL) (aB3 Y.bE Y.cF Y.fM) (aB3 Y.bE Y.bM Y.fN) (aB3 Y.bE Y.bN Y.fO) (aNf Y.fJ),(Y.aN.fn.binds (bd1 fun _ _ _ _ _ _ _=>rfl)),fun n=>Dm.aWw e n 0 ZA⟩
  ·have z:=Y.bA.symm.trans hC;cases z;cases ht;exact⟨_,_,Dd.aBu e (fun j=>j==1||j==11),aD6 Y h1 h2 h3 Y.fP _ (aB3 Y.bF Y.cC Y.fR) aJq (aB3 Y.bF Y.cE Y.fS) (aB3 Y.bF Y.cF Y.fT) (aB3 Y.bF Y.bM Y.fU) (aB3 Y.bF Y.bN Y.fV) (aNf Y.fQ),(Y.aN.fn.binds (bd1 fun _ _ _ _ _ _ _=>rfl)),fun n=>Dm.aWw e n 1 ZA⟩
  ·have z:=Y.bD.symm.trans hC;cases z;cases ht;exact⟨_,_,Dd.aBu e (fun j=>j==2||j==11),aD6 Y h1 h2 h3 Y.fW _ (aB3 Y.bG Y.cC Y.fY) (aB3 Y.bG Y.cD Y.fZ) aJq (aB3 Y.bG Y.cF Y.gA) (aB3 Y.bG Y.bM Y.gB) (aB3 Y.bG Y.bN Y.gC) (aNf Y.fX),(Y.aN.fn.binds (bd1 fun _ _ _ _ _ _ _=>rfl)),fun n=>Dm.aWw e n 2 ZA⟩
  ·have z:=Y.bC.symm.trans hC;cases z;cases ht;exact⟨_,_,Dd.aBu e (fun j=>j==3||j==11),aD6 Y h1 h2 h3 Y.gD _ (aB3 Y.bH Y.cC Y.gF) (aB3 Y.bH Y.cD Y.gG) (aB3 Y.bH Y.cE Y.gH) aJq (aB3 Y.bH Y.bM Y.gI) (aB3 Y.bH Y.bN Y.gJ) (aNf Y.gE),(Y.aN.fn.binds (bd1 fun _ _ _ _ _ _ _=>rfl)),fun n=>Dm.aWw e n 3 ZA⟩
  ⟩
theorem aFb:Kn P w K mg base 7 "_law_ask" ["_law_what","_law_dice_here","_law_other"] aBs tw:=knF (lv:=6) (N:=["_law_what","_law_dice_here","_law_other","_law_e"]) Y.X Y.G Y.eR (fun _ _ _ _ _ _ hr nd =>
  (aAk (bBi 3 rfl rfl (fun E p=>(aAj (aCn (aBi aE7 (aAb 0) aAg) (aAk (aAt (aGe (as:=[Y.aQ.f,Y.aS.f,Y.aT.f,Y.aV.f,Y.aX.f]) (aDr (aB9 hr.u1) (aBh (aAf (aBp (aGj Y)) (aAf (aBp (aIk Y)) (aAf (aBp (aDf Y)) (aAf (aBp (aIn Y)) (aAf (aBp (aIl Y)) aAm)))))) (aAb 0) (fun _ _=>rfl)) (fun _ _=>rfl) (bq rfl) (aAz (aWb Y) (aGj Y) (hr.mono ZA) (aAz (bBa Y) (aIk Y) (hr.mono ZA) (aAz (aKm Y) (aDf Y) (hr.mono ZA) (aAz (bAa Y) (aIn Y) (hr.mono ZA) (aAz (aZp Y) (aIl Y) (hr.mono ZA) SelOk.nil))))) (aAc (aAb 1) aAi)))) aA2) (aAj (aCn (aBi aE7 (aAb 0) aAg) (aAk (aAt (aGe (as:=[Y.aR.f,Y.aW.f,Y.aU.f]) (aDr (aB9 hr.u1) (aBh (aAf (aBp (aLr Y)) (aAf (aBp (aGr Y)) (aAf (aBp (aE8 Y)) aAm)))) (aBy aFf (aAb 0) aAg) (fun _ _=>rfl)) (fun _ _=>rfl) (bq rfl) (aAz (k_ways Y) (aLr Y) (hr.mono ZA) (aAz (aW7 Y) (aGr Y) (hr.mono ZA) (aAz (aRu Y) (aE8 Y) (hr.mono ZA) SelOk.nil))) (aAc (aAb 1) (aAc (aAb 2) aAi))))) aA2) (aAj (aCn (aBi aE7 (aAb 0) aAg) (aAk (aAt (aGe (as:=[Y.aK.f,Y.aJ.f]) (aDr (aB9 hr.u1) (aBh (aAf (aBp (aEm Y)) (aAf (aBp (aDn Y)) aAm))) (aBy aFf (aAb 0) aAg) (fun _ _=>rfl)) (fun _ _=>rfl) (bq rfl) (aAz (aVe Y) (aEm Y) (hr.mono ZA) (aAz (aNt Y) (aDn Y) (hr.mono ZA) SelOk.nil)) (aAc (aAb 1) (aAc (aA7 (aAf (aA7 (aAf aAg aAm)) aAm)) aAi))))) aA2) (aAk (aAt (aGe (as:=[Y.aK.f,Y.aJ.f]) (aDr (aB9 hr.u1) (aBh (aAf (aBp (aEm Y)) (aAf (aBp (aDn Y)) aAm))) (aBy aFf (aAb 0) aAg) (fun _ _=>rfl)) (fun _ _=>rfl) (bq rfl) (aAz (aVe Y) (aEm Y) (hr.mono ZA) (aAz (aNt Y) (aDn Y) (hr.mono ZA) SelOk.nil)) (aAc (aA7 (aAf (aA7 (aAf aAg aAm)) aAm)) (aAc (aAb 1) aAi))))))))) (fun E p=>(aA5 (aLm (aBi aE7 (aAb 0) aAg) (aCl (aH4 (aL1 (as:=[Y.aQ.f,Y.aS.f,Y.aT.f,Y.aV.f,Y.aX.f]) (aDr (aB9 hr.u1) (aBh (aAf (aBp (aGj Y)) (aAf (aBp (aIk Y)) (aAf (aBp (aDf Y)) (aAf (aBp (aIn Y)) (aAf (aBp (aIl Y)) aAm)))))) (aAb 0) (fun _ _=>rfl)) (fun _ _=>rfl) (bq rfl) (aBk (aZl Y) (aGj Y) (hr.mono ZA) (aBk (kx_rolls Y) (aIk Y) (hr.mono ZA) (aBk (aRq Y) (aDf Y) (hr.mono ZA) (aBk (kx_order Y) (aIn Y) (hr.mono ZA) (aBk (kx_shown Y) (aIl Y) (hr.mono ZA) XSelOk.nil))))) (aAc (aAb 1) aAi)))) aCm) (SS.lift (aCn (aBi aE7 (aAb 0) aAg) (aAk (aAt (aGe (as:=[Y.aQ.f,Y.aS.f,Y.aT.f,Y.aV.f,Y.aX.f]) (aDr (aB9 hr.u1) (aBh (aAf (aBp (aGj Y)) (aAf (aBp (aIk Y)) (aAf (aBp (aDf Y)) (aAf (aBp (aIn Y)) (aAf (aBp (aIl Y)) aAm)))))) (aAb 0) (fun _ _=>rfl)) (fun _ _=>rfl) (bq rfl) (aAz (aWb Y) (aGj Y) (hr.mono ZA) (aAz (bBa Y) (aIk Y) (hr.mono ZA) (aAz (aKm Y) (aDf Y) (hr.mono ZA) (aAz (bAa Y) (aIn Y) (hr.mono ZA) (aAz (aZp Y) (aIl Y) (hr.mono ZA) SelOk.nil))))) (aAc (aAb 1) aAi)))) aA2)) (aA5 (aLm (aBi aE7 (aAb 0) aAg) (aCl (aH4 (aL1 (as:=[Y.aR.f,Y.aW.f,Y.aU.f]) (aDr (aB9 hr.u1) (aBh (aAf (aBp (aLr Y)) (aAf (aBp (aGr Y)) (aAf (aBp (aE8 Y)) aAm)))) (aBy aFf (aAb 0) aAg) (fun _ _=>rfl)) (fun _ _=>rfl) (bq rfl) (aBk (kx_ways Y) (aLr Y) (hr.mono ZA) (aBk (aZy Y) (aGr Y) (hr.mono ZA) (aBk (aX3 Y) (aE8 Y) (hr.mono ZA) XSelOk.nil))) (aAc (aAb 1) (aAc (aAb 2) aAi))))) aCm) (SS.lift (aCn (aBi aE7 (aAb 0) aAg) (aAk (aAt (aGe (as:=[Y.aR.f,Y.aW.f,Y.aU.f]) (aDr (aB9 hr.u1) (aBh (aAf (aBp (aLr Y)) (aAf (aBp (aGr Y)) (aAf (aBp (aE8 Y)) aAm)))) (aBy aFf (aAb 0) aAg) (fun _ _=>rfl)) (fun _ _=>rfl) (bq rfl) (aAz (k_ways Y) (aLr Y) (hr.mono ZA) (aAz (aW7 Y) (aGr Y) (hr.mono ZA) (aAz (aRu Y) (aE8 Y) (hr.mono ZA) SelOk.nil))) (aAc (aAb 1) (aAc (aAb 2) aAi))))) aA2)) (aA5 (aLm (aBi aE7 (aAb 0) aAg) (aCl (aH4 (aL1 (as:=[Y.aK.f,Y.aJ.f]) (aDr (aB9 hr.u1) (aBh (aAf (aBp (aEm Y)) (aAf (aBp (aDn Y)) aAm))) (aBy aFf (aAb 0) aAg) (fun _ _=>rfl)) (fun _ _=>rfl) (bq rfl) (aBk (aWp Y) (aEm Y) (hr.mono ZA) (aBk (aLb Y) (aDn Y) (hr.mono ZA) XSelOk.nil)) (aAc (aAb 1) (aAc (aA7 (aAf (aA7 (aAf aAg aAm)) aAm)) aAi))))) aCm) (SS.lift (aCn (aBi aE7 (aAb 0) aAg) (aAk (aAt (aGe (as:=[Y.aK.f,Y.aJ.f]) (aDr (aB9 hr.u1) (aBh (aAf (aBp (aEm Y)) (aAf (aBp (aDn Y)) aAm))) (aBy aFf (aAb 0) aAg) (fun _ _=>rfl)) (fun _ _=>rfl) (bq rfl) (aAz (aVe Y) (aEm Y) (hr.mono ZA) (aAz (aNt Y) (aDn Y) (hr.mono ZA) SelOk.nil)) (aAc (aAb 1) (aAc (aA7 (aAf (aA7 (aAf aAg aAm)) aAm)) aAi))))) aA2)) (aCl (aH4 (aL1 (as:=[Y.aK.f,Y.aJ.f]) (aDr (aB9 hr.u1) (aBh (aAf (aBp (aEm Y)) (aAf (aBp (aDn Y)) aAm))) (aBy aFf (aAb 0) aAg) (fun _ _=>rfl)) (fun _ _=>rfl) (bq rfl) (aBk (aWp Y) (aEm Y) (hr.mono ZA) (aBk (aLb Y) (aDn Y) (hr.mono ZA) XSelOk.nil)) (aAc (aA7 (aAf (aA7 (aAf aAg aAm)) aAm)) (aAc (aAb 1) aAi))))))))) (aXl 3 (aIx Y) (hr.mono ZA) rfl rfl) Y.cR Y.cS (CsOk.cons Y.bB Y.cU (CsOk.cons Y.bA Y.cT (CsOk.cons Y.bD Y.cW (CsOk.cons Y.bC Y.cV CsOk.nil)))) nd)))
theorem aNg:Kn P w K mg base 6 "_law_die_ask" ["_law_what","_law_die_here"] aD1 tw:=knF (lv:=5) (N:=["_law_what","_law_die_here","_law_e"]) Y.X Y.G Y.eS (fun _ _ _ _ _ _ hr nd =>
  (aAk (bBi 2 rfl rfl (fun E p=>(aAj (aCn (aBi aE7 (aAb 0) aAg) (aAk (aAt (aGe (as:=[Y.aH.f,Y.aI.f]) (aDr (aB9 hr.u1) (aBh (aAf (aBp (aFr Y)) (aAf (aBp (aDt Y)) aAm))) (aAb 0) (fun _ _=>rfl)) (fun _ _=>rfl) (bq rfl) (aAz (aQs Y) (aFr Y) (hr.mono ZA) (aAz (aNq Y) (aDt Y) (hr.mono ZA) SelOk.nil)) (aAc (aAb 1) (aAc (aA7 (aAf aAg aAm)) aAi))))) aA2) (aAj (aCn (aBi aE7 (aAb 0) aAg) (aAk (aAt (aGe (as:=[Y.aH.f,Y.aI.f]) (aDr (aB9 hr.u1) (aBh (aAf (aBp (aFr Y)) (aAf (aBp (aDt Y)) aAm))) (aBy aFf (aAb 0) aAg) (fun _ _=>rfl)) (fun _ _=>rfl) (bq rfl) (aAz (aQs Y) (aFr Y) (hr.mono ZA) (aAz (aNq Y) (aDt Y) (hr.mono ZA) SelOk.nil)) (aAc (aA7 (aAf aAg aAm)) (aAc (aAb 1) aAi))))) aA2) (aAj (aCn (aBi aE7 (aAb 0) aAg) (aAk (aAt (se_if (aBi (aNh hr.u6 (aDw hr.units0)) (aAb 0) aAg) (aAu (aJw Y) (aAc (aAb 1) (aAc (aA7 (aAf aAg aAm)) (aAc aFp aAi)))) (aAu (aJw Y) (aAc (aA7 (aAf aAg aAm)) (aAc (aAb 1) (aAc aFp aAi))))))) aA2) (aAk (aAt (aAu (bAy Y) (aAc (aBh (aAf (aA7 (aAf aAg (aAf aAg aAm))) aAm)) (aAc (aAb 1) aAi))))))))) (fun E p=>(aA5 (aLm (aBi aE7 (aAb 0) aAg) (aCl (aH4 (aL1 (as:=[Y.aH.f,Y.aI.f]) (aDr (aB9 hr.u1) (aBh (aAf (aBp (aFr Y)) (aAf (aBp (aDt Y)) aAm))) (aAb 0) (fun _ _=>rfl)) (fun _ _=>rfl) (bq rfl) (aBk (aVa Y) (aFr Y) (hr.mono ZA) (aBk (aXq Y) (aDt Y) (hr.mono ZA) XSelOk.nil)) (aAc (aAb 1) (aAc (aA7 (aAf aAg aAm)) aAi))))) aCm) (SS.lift (aCn (aBi aE7 (aAb 0) aAg) (aAk (aAt (aGe (as:=[Y.aH.f,Y.aI.f]) (aDr (aB9 hr.u1) (aBh (aAf (aBp (aFr Y)) (aAf (aBp (aDt Y)) aAm))) (aAb 0) (fun _ _=>rfl)) (fun _ _=>rfl) (bq rfl) (aAz (aQs Y) (aFr Y) (hr.mono ZA) (aAz (aNq Y) (aDt Y) (hr.mono ZA) SelOk.nil)) (aAc (aAb 1) (aAc (aA7 (aAf aAg aAm)) aAi))))) aA2)) (aA5 (aLm (aBi aE7 (aAb 0) aAg) (aCl (aH4 (aL1 (as:=[Y.aH.f,Y.aI.f]) (aDr (aB9 hr.u1) (aBh (aAf (aBp (aFr Y)) (aAf (aBp (aDt Y)) aAm))) (aBy aFf (aAb 0) aAg) (fun _ _=>rfl)) (fun _ _=>rfl) (bq rfl) (aBk (aVa Y) (aFr Y) (hr.mono ZA) (aBk (aXq Y) (aDt Y) (hr.mono ZA) XSelOk.nil)) (aAc (aA7 (aAf aAg aAm)) (aAc (aAb 1) aAi))))) aCm) (SS.lift (aCn (aBi aE7 (aAb 0) aAg) (aAk (aAt (aGe (as:=[Y.aH.f,Y.aI.f]) (aDr (aB9 hr.u1) (aBh (aAf (aBp (aFr Y)) (aAf (aBp (aDt Y)) aAm))) (aBy aFf (aAb 0) aAg) (fun _ _=>rfl)) (fun _ _=>rfl) (bq rfl) (aAz (aQs Y) (aFr Y) (hr.mono ZA) (aAz (aNq Y) (aDt Y) (hr.mono ZA) SelOk.nil)) (aAc (aA7 (aAf aAg aAm)) (aAc (aAb 1) aAi))))) aA2)) (aA5 (aLm (aBi aE7 (aAb 0) aAg) (aCl (aH4 (xe_if (aBi (aNh hr.u6 (aDw hr.units0)) (aAb 0) aAg) (aD4 (aSb Y) (aAc (aAb 1) (aAc (aA7 (aAf aAg aAm)) (aAc aFp aAi)))) (aD4 (aSb Y) (aAc (aA7 (aAf aAg aAm)) (aAc (aAb 1) (aAc aFp aAi))))))) aCm) (SS.lift (aCn (aBi aE7 (aAb 0) aAg) (aAk (aAt (se_if (aBi (aNh hr.u6 (aDw hr.units0)) (aAb 0) aAg) (aAu (aJw Y) (aAc (aAb 1) (aAc (aA7 (aAf aAg aAm)) (aAc aFp aAi)))) (aAu (aJw Y) (aAc (aA7 (aAf aAg aAm)) (aAc (aAb 1) (aAc aFp aAi))))))) aA2)) (aCl (aH4 (aD4 (aYy Y) (aAc (aBh (aAf (aA7 (aAf aAg (aAf aAg aAm))) aAm)) (aAc (aAb 1) aAi))))))))) (aXl 2 (aIx Y) (hr.mono ZA) rfl rfl) Y.cR Y.cS (CsOk.cons Y.bB Y.cU (CsOk.cons Y.bA Y.cT (CsOk.cons Y.bD Y.cW (CsOk.cons Y.bC Y.cV CsOk.nil)))) nd)))
theorem aIz:Kn P w K mg base 1 "_law_is_die" ["_law_thing"] aCo tw:=knF (lv:=0) (N:=["_law_thing","_law_face"]) Y.X Y.G Y.eT (fun _ _ _ _ _ _ hr nd =>
  (aAj (aCn (SW.st (aLf (aCh (aCc (aFq (k:=.tuple) (aAb 0) Y.aA Y.aG boot_tuple))) (aHw (aCh (aJ3 (p1:=fun a b=>decide (a<=b)) (p2:=fun a b=>decide (a<=b)) (opC fun _ _ _ _ _ _ h=>le_int h) (opC fun _ _ _ _ _ _ h=>le_int h) aAg (aA3 aFa Y.aF boot_len (aAw (aAb 0) aBe)) aAg))))) (aAk (aAt aF3)) aA2) (aAj (aHr 0 (aGv rfl rfl (si_s (aAb 0)) (aBl 1 nd) (aAk (aCn (SW.st (aLf (aCh (aCc (aFq (k:=.int) (aAb 1) Y.aA Y.cP boot_int))) (aLf (aCc (aFq (k:=.bool) (aAb 1) Y.aA Y.cO boot_bool)) (aHw (aCh (aJ3 (p1:=fun a b=>decide (a<=b)) (p2:=fun a b=>decide (a<=b)) (opC fun _ _ _ _ _ _ h=>le_int h) (opC fun _ _ _ _ _ _ h=>le_int h) aAg (aAb 1) aAg)))))) (aAk (aAt aF3)) aA2)))) (aAk (aAt (aA3 (aUu rfl) Y.aY boot_all (aAw (aDe rfl (N':=["_law_one","_law_other","_law_thing","_law_face"]) (CompTxt.of) ZA (si_zip (aAb 0) (aQg (aAb 0) (aJ8 aAg) aKk) Y.eY) (fun _ _ _ _ _=>(sg_two 0 1 rfl (show (["_law_one","_law_other","_law_thing","_law_face"]:List Str).Nodup by decide))) (fun _ _ _ _ _=>aC6) (fun _ _ _ _ _=>(aRb pr_le (aAb 0) (aAb 1)))) aBe)))))))
theorem aJh:Kn P w K mg base 1 "_law_spoilt" ["_law_script","_law_town","_law_thing"] Dd.aDu tw:=knF (lv:=0) (N:=["_law_script","_law_town","_law_thing","_law_kind","_law_at"]) Y.X Y.G Y.cM (fun _ _ _ _ _ _ hr nd =>
  aC5)
theorem aCj{lg lv:Nat}(hg:lg<=lv)(hv:4<=lv)(Gq:Kn P w K mg base lg "_law_spoilt" ["_law_script","_law_town","_law_thing"] g tw):Kn P w K mg base (lv+1) "_law_spoilt" ["_law_script","_law_town","_law_thing"] (fnD 5 (aAl g)) tw:=knF (lv:=lv) (N:=["_law_script","_law_town","_law_thing","_law_kind","_law_at"]) Y.X Y.G Y.cM (fun _ _ _ _ _ _ hr nd =>
  (aAj (aCu 3 (aAu (aCp Y) (aAc (aAb 0) (aAc (aAb 1) (aAc aAg aAi)))) nd) (aAj (aCn (SW.st (aXs (aCc (aFq (k:=.tuple) (aAb 2) Y.aA Y.aG boot_tuple)) (aXs (aBi (aT9 hr.u6 (aEh hr.units0)) (aAb 2) (aA7 aAm)) (aVb (aBi pr_gt (aAb 3) aAg))))) (aAj (aCu 4 (aAu (aCp Y) (aAc (aAb 0) (aAc (aAb 1) (aAc (aA3 aFa Y.aF boot_len (aAw (aAb 2) aBe)) aAi)))) nd) (aAk (aAt (aBy aC4 (aBy aC4 (aQg (aAb 2) aKk (aJ8 (aAb 4))) (aA7 (aAf (aAu Gq (aAc (aAb 0) (aAc (aAb 1) (aAc (aDr (aB9 hr.u1) (aAb 2) (aAb 4) (fun _ _=>rfl)) aAi)))) aAm))) (aQg (aAb 2) (aJ8 (aBy aC4 (aAb 4) aAg)) aKk))))) aA2) (aAj (aCn (SW.st (aXs (aCc (aFq (k:=.tuple) (aAb 2) Y.aA Y.aG boot_tuple)) (aVb (aBi (aNh hr.u6 (aDw hr.units0)) (aAb 3) aAg)))) (aAk (aAt (aAu (aFc Y) (aAc (aAb 0) (aAc (aAb 1) (aAc (aBh (aAf (aFw (bAp hr.hd) Y.cA boot_list (aAw (aAb 2) aBe)) (aAf (aBy aJ5 (aAb 2) aAg) (aAf (aQg (aAb 2) (aJ8 aAg) aKk) (aAf (se_rev (aAb 2)) (aAf (aBy aC4 (aAb 2) (aQg (aAb 2) (aJ8 (aM0 aAg)) aKk)) aAm)))))) aAi)))))) aA2) (aAk (aAt (aAu (aFc Y) (aAc (aAb 0) (aAc (aAb 1) (aAc (aBh (by refine @aAf _ _ _ _ _ _ aFp ?_ rfl;refine @aAf _ _ _ _ _ _ aF3 ?_ rfl;refine @aAf _ _ _ _ _ _ aJd ?_ rfl;refine @aAf _ _ _ _ _ _ aAg ?_ rfl;refine @aAf _ _ _ _ _ _ aAg ?_ rfl;refine @aAf _ _ _ _ _ _ aAg ?_ rfl;refine @aAf _ _ _ _ _ _ aAg ?_ rfl;refine @aAf _ _ _ _ _ _ (aM0 aAg) ?_ rfl;refine @aAf _ _ _ _ _ _ (aA7 aAm) ?_ rfl;refine @aAf _ _ _ _ _ _ (aA7 (@aAf _ _ _ _ _ _ aAg aAm rfl)) ?_ rfl;refine @aAf _ _ _ _ _ _ (aA7 (@aAf _ _ _ _ _ _ aAg (@aAf _ _ _ _ _ _ aAg aAm rfl) rfl)) ?_ rfl;refine @aAf _ _ _ _ _ _ (aBh (aAf aAg aAm)) ?_ rfl;refine @aAf _ _ _ _ _ _ aJd ?_ rfl;exact aAm)) aAi))))))))))
theorem aJj:Kn P w K mg base 5 "_law_spoilt" ["_law_script","_law_town","_law_thing"] aCd tw:=aCj Y (lv:=4) ZA ZA (aJh Y)
theorem aJl:Kn P w K mg base 6 "_law_spoilt" ["_law_script","_law_town","_law_thing"] aCw tw:=aCj Y (lv:=5) ZA ZA (aJj Y)
theorem aJk:Kn P w K mg base 7 "_law_spoilt" ["_law_script","_law_town","_law_thing"] aCx tw:=aCj Y (lv:=6) ZA ZA (aJl Y)
theorem aJn:Kn P w K mg base 8 "_law_spoilt" ["_law_script","_law_town","_law_thing"] aCv tw:=aCj Y (lv:=7) ZA ZA (aJk Y)
theorem aFo:Kn P w K mg base 9 "_law_spoilt" ["_law_script","_law_town","_law_thing"] aBd tw:=aCj Y (lv:=8) ZA ZA (aJn Y)
theorem k_law(run:∀ns:List Int,ns.length<=63->∃ρ' n',b_law (aF1 ns 8) 0=some (.rt (.bl true) false,ρ',n')):FnOk P w K mg base CX0 10 Y.bJ.f (Y.bJ.fd "law" bBp) ["_law_script"] (bBk K) :=
 law_ok (lv:=9) Y.cN.fn (scZ (N:=["_law_script","_law_town","_law_dice_here","_law_total","_law_bad","_law_k","_law_good","_law_die_here"])) rfl rfl ZA (by first |exact Or.inl rfl |exact Or.inr rfl) (fun _ _ _ _ _ _=>rfl) (fun tw cdv A outer s H E hr =>
  (aAj (aCu 2 (aAu (aYr Y) (aAc (aAb 0) (aAc (aAb 1) (aAc (aBy aC4 aAg (aAu (aCp Y) (aAc (aAb 0) (aAc (aAb 1) (aAc aAg aAi))))) (aAc aAg aAi))))) ndl) (aAj (aCn (SW.st (aLf (aBi (aT9 hr.u6 (aEh hr.units0)) (aAu (aFb Y) (aAc aAg (aAc (aAb 2) (aAc aFp aAi)))) (aAu (aFz Y) (aAc (aAb 2) aAi))) (aHw (aBi (aT9 hr.u6 (aEh hr.units0)) (aAu (aFb Y) (aAc aAg (aAc (aAb 2) (aAc aFp aAi)))) (aA3 (aQw hr.hd) Y.aO boot_sorted (aAw (aAu (aKs Y) (aAc (aAb 2) aAi)) aBe)))))) (aAk (aAt aF3)) aA2) (aAj (aCu 3 (aAu (aCp Y) (aAc (aAb 0) (aAc (aAb 1) (aAc aAg aAi)))) ndl) (aAj (aCn (aBi (aT9 hr.u6 (aEh hr.units0)) (aAu (aFb Y) (aAc aAg (aAc (aAb 2) (aAc (aAb 3) aAi)))) (aNa hr.u1 (aFw (pr_dict hr.hd) Y.eV boot_dict (aAw (aAu (aFz Y) (aAc (aAb 2) aAi)) aBe)) (aAb 3) aAg ⟨rfl,rfl,rfl,rfl⟩)) (aAk (aAt aF3)) aA2) (aAj (aCn (aBi (aT9 hr.u6 (aEh hr.units0)) (aAu (aFb Y) (aAc aAg (aAc (aAb 2) (aAc (aAu (aFc Y) (aAc (aAb 0) (aAc (aAb 1) (aAc (aBh (aAf (aM0 aAg) (aAf aAg (aAf aFp (aAf aF3 (aAf aJd aAm)))))) aAi)))) aAi)))) (aA7 (aAf aJd (aAf aAg aAm)))) (aAk (aAt aF3)) aA2) (aAj (aHk 4 2 ndl) (aAj (aGv rfl rfl (SIr.s (aJ4 (aAw (aBy aC4 aAg (aAu (aCp Y) (aAc (aAb 0) (aAc (aAb 1) (aAc aAg aAi))))) aBe) Y.aZ)) (aBl 5 ndl) (aAk (aCu 4 (aAu (aFo Y) (aAc (aAb 0) (aAc (aAb 1) (aAc (aAb 4) aAi)))) ndl))) (aAj (aEo 4 (aCu 6 (aZu (aFq (k:=.tuple) (aAb 4) Y.aA Y.aG boot_tuple) (aZu (aXi (p1:=fun a b=>decide (a<=b)) (p2:=fun a b=>decide (a<=b)) (opC fun _ _ _ _ _ _ h=>le_int h) (opC fun _ _ _ _ _ _ h=>le_int h) aAg (aA3 aFa Y.aF boot_len (aAw (aAb 4) aBe)) aAg) (se_one (aA3 (aUu rfl) Y.aY boot_all (aAw (aDe rfl (N':=["_law_script","_law_town","_law_dice_here","_law_total","_law_bad","_law_k","_law_good","_law_die_here"]) (CompTxt.of) ZA (si_c (aAb 4)) (fun _ _ _ _ _=>(aBl 7 (show (["_law_script","_law_town","_law_dice_here","_law_total","_law_bad","_law_k","_law_good","_law_die_here"]:List Str).Nodup by decide))) (fun _ _ _ _ _=>aC6) (fun _ _ _ _ _=>(aAu (aIz Y) (aAc (aAb 7) aAi)))) aBe))))) ndl)) (aAj (aCn (SW.st (aXs (aCh (aCc (aAb 6))) (aVb (aBi (aT9 hr.u6 (aEh hr.units0)) (aDe rfl (N':=["_law_what","_law_script","_law_town","_law_dice_here","_law_total","_law_bad","_law_k","_law_good","_law_die_here"]) (CompTxt.of) ZA (SIr.c (aJ4 (aAw aAg aBe) Y.aZ)) (fun _ _ _ _ _=>(aBl 0 (show (["_law_what","_law_script","_law_town","_law_dice_here","_law_total","_law_bad","_law_k","_law_good","_law_die_here"]:List Str).Nodup by decide))) (fun _ _ _ _ _=>aC6) (fun _ _ _ _ _=>(aAu (aFb Y) (aAc (aAb 0) (aAc (aAb 5) (aAc aFp aAi)))))) (se_rep (aBh (aAf (aA7 (aAf aJd (aAf aAg aAm))) aAm)) aAg))))) (aAk (aAt aF3)) aA2) (aAj (aCu 7 (aAu (aFo Y) (aAc (aAb 0) (aAc (aAb 1) (aAc (aDr (aB9 hr.u1) (aAb 2) aAg (fun _ _=>rfl)) aAi)))) ndl) (aAj (aCn (aCc (aAu (aIz Y) (aAc (aAb 7) aAi))) (aAk (aAt (aRb (aNh hr.u6 (aDw hr.units0)) (aAu (aFb Y) (aAc aAg (aAc (aA7 (aAf (aAb 7) aAm)) (aAc aFp aAi)))) (aAu (aFz Y) (aAc (aA7 (aAf (aAb 7) aAm)) aAi))))) aA2) (aAk (aAt (aRb (aNh hr.u6 (aDw hr.units0)) (aDe rfl (N':=["_law_what","_law_script","_law_town","_law_dice_here","_law_total","_law_bad","_law_k","_law_good","_law_die_here"]) (CompTxt.of) ZA (SIr.c (aJ4 (aAw aAg aBe) Y.aZ)) (fun _ _ _ _ _=>(aBl 0 (show (["_law_what","_law_script","_law_town","_law_dice_here","_law_total","_law_bad","_law_k","_law_good","_law_die_here"]:List Str).Nodup by decide))) (fun _ _ _ _ _=>aC6) (fun _ _ _ _ _=>(aAu (aNg Y) (aAc (aAb 0) (aAc (aAb 8) aAi))))) (se_rep (aBh (aAf (aA7 (aAf aJd (aAf aAg aAm))) aAm)) aAg)))))))))))))))) run
theorem all_mk{l:W.OpenLaw}(hfa:mg "law" = some (.ref fa))(run:∀ns:List Int,ns.length<=63->∃ρ' n',b_law (aF1 ns 8) 0=some (.rt (.bl true) false,ρ',n')):∃fd:FuncData,(∀ (s:Shared) (v:Value),BindsTo s fd ⟨[v],[]⟩ [("_law_script",v)])/\∀base:Heap,K.In base->base.Ns mainGlobals mg->FnOk l.prog w K mg base CX0 10 fa fd ["_law_script"] (bBk K):=by have e:=hfa.symm.trans (Y.cN.mg Y.X Y.G);cases e;exact⟨Y.bJ.fd "law" bBp,fun s v=>.of_eq rfl,fun base _ _=>k_law Y run⟩
end
end K01
namespace K01
open PySem L2 L2.Ds Dd Dm
def szB(W:Nat):Nat->T->Bool
 |_,.non=>true
 |_,.bl _=>true
 |_,.int _=>true
 |_,.str _=>true
 |k+1,.tup xs=>decide (xs.length<=W)&&xs.all (szB W k)
 |k+1,.lst xs=>decide (xs.length<=W)&&xs.all (szB W k)
 |_,_=>false
theorem aLp{W k:Nat}(h:szB W (k+1) (.tup xs)=true):xs.length<=W/\∀x∈xs,szB W k x=true:=by rw[szB,bo,decide_eq_true_eq,bu] at h;exact h
theorem aS0{W k:Nat}(h1:xs.length<=W)(h2:∀x∈xs,szB W k x=true):szB W (k+1) (.tup xs)=true:=by rw[szB,bo,decide_eq_true_eq,bu];exact⟨h1,h2⟩
theorem aLa{W W':Nat}(hw:W<=W'):∀ (k k':Nat) (t:T),k<=k'->szB W k t=true->szB W' k' t=true:=by
 intro k
 induction k with
 | zero =>
  intro k' t _ h;cases t<;>first |(cases h;done) |(cases k'<;>rfl)
 | succ k ih =>
  intro k' t hk h;obtain⟨k',rfl⟩:∃j,k'=j+1:=⟨k' - 1,by lia⟩
  cases t with
  | tup xs =>
   rw[szB,bo,decide_eq_true_eq,bu] at h |-;exact⟨aq h.1 hw,fun x hx=>ih k' x ZB (h.2 x hx)⟩
  | lst xs =>
   rw[szB,bo,decide_eq_true_eq,bu] at h |-;exact⟨aq h.1 hw,fun x hx=>ih k' x ZB (h.2 x hx)⟩
  |dic _=>cases h
  |town=>cases h
  |ob _=>cases h
  |gs _ _=>cases h
  |rdc _=>cases h
  |_=>rfl
theorem sz_plain{W:Nat}:∀ (k:Nat) (t:T),szB W k t=true->aAr k t=true:=by
 intro k
 induction k with
 |zero=>intro t h;cases t<;>first |rfl |(cases h;done)
 | succ k ih =>
  intro t h;cases t with
  | tup xs =>
   rw[szB,bo,bu] at h;show xs.all (aAr k)=true;exact bu.mpr fun x hx=>ih x (h.2 x hx)
  | lst xs =>
   rw[szB,bo,bu] at h;show xs.all (aAr k)=true;exact bu.mpr fun x hx=>ih x (h.2 x hx)
  |dic _=>cases h
  |town=>cases h
  |ob _=>cases h
  |gs _ _=>cases h
  |rdc _=>cases h
  |_=>rfl
def numB:T->Bool
 |.int i=>decide (0<=i/\i<=30)
 |_=>false
def okT:T->Bool
 |.dic _=>false
 |.town=>false
 |.ob _=>false
 |.gs _ _=>false
 |.rdc _=>false
 |_=>true
theorem sz_ok{W k:Nat}(h:szB W k t=true):okT t=true:=by cases t<;>first |rfl |(cases k<;>cases h;done)
theorem num(h:okT t=true)(n:Nat):aA8 [ZN,(.int 0,true),(.int 30,true)] n=some (.bl (numB t),false,n):=by
 cases t with
 | int i =>
  by_cases hi:0<=i/\i<=30
  ·rw[aF0 i 0 _ n hi.1 hi.2];simp[numB,hi]
  ·rw[aFy i 0 _ n hi];simp only[numB,hi,decide_false]
 |non=>rfl
 |bl b=>cases b<;>rfl
 |str x=>rfl
 |tup xs=>rfl
 |lst xs=>rfl
 |_=>cases h
def leT:T->T->Bool
 |.int a,.int b=>decide (a<=b)
 |_,_=>true
def upT(xs:List T):Bool:=(List.zip xs (xs.drop 1)).all fun p=>leT p.1 p.2
def dieB:T->Bool
 |.tup xs=>decide (1<=xs.length/\xs.length<=8)&&xs.all numB&&upT xs
 |_=>false
def aIj:T->Bool
 |.tup xs=>decide (1<=xs.length/\xs.length<=4)&&xs.all dieB
 |_=>false
theorem aM5:∀ {xs:List T},xs.all numB=true->∃l:List Int,xs=l.map T.int/\∀x∈l,0<=x/\x<=30
 |[],_=>⟨[],rfl,by simp⟩
 | x::xs,h=>by
  rw[ej,bo] at h;obtain⟨l,rfl,hl⟩:=aM5 h.2;cases x with
  | int i =>
   refine⟨i::l,rfl,fun y hy=>?_⟩;rcases bf.mp hy with rfl |hy
   ·exact of_decide_eq_true h.1
   ·exact hl y hy
  |_=>cases h.1
theorem aM1:∀l:List Int,upT (l.map T.int)=true↔l.Pairwise (· <= ·)
 |[]=>by simp[upT]
 |[x]=>by simp[upT]
 | x::y::r=>by
  have ih:=aM1 (y::r);have e:upT ((x::y::r).map T.int)=(decide (x<=y)&&upT ((y::r).map T.int)):=rfl;rw[e,bo,ih,decide_eq_true_eq];constructor
  ·rintro⟨h1,h2⟩;refine cj.mpr ⟨fun z hz=>?_,h2⟩;rcases bf.mp hz with rfl |hz
   ·exact h1
   ·exact Int.le_trans h1 ((cj.mp h2).1 z hz)
  ·intro h;obtain⟨h1,h2⟩:=cj.mp h;exact⟨h1 y (ao ..),h2⟩
theorem aXr:∀a b:List Int,eqTs (a.map T.int) (b.map T.int)=decide (a=b)
 |[],[]=>by simp[eqTs]
 |[],_::_=>by simp[eqTs]
 |_::_,[]=>by simp[eqTs]
 |x::a,y::b=>by rw[af,af,eqTs,aXr a b,eqT];by_cases hx:x=y<;>by_cases ha:a=b<;>simp[hx,ha]
theorem eq_ints(a b:List Int)(n:Nat):pEq n [.lst (a.map T.int),.lst (b.map T.int)]=some (.bl (decide (a=b)),.fz):=by have pl:∀l:List Int,aAr 6 (.lst (l.map T.int))=true:=fun l=>aT5 fun _ _=>rfl;rw[bA2];show ((if aAr 6 (.lst (a.map T.int))&&aAr 6 (.lst (b.map T.int)) then some (eqT (.lst (a.map T.int)) (.lst (b.map T.int))) else none).map _)=_;rw[pl,pl,Bool.and_self,if_pos rfl,eqT,aXr];rfl
theorem aZo(h1:1<=l.length)(h8:l.length<=8)(hr:∀x∈l,0<=x/\x<=30)(n:Nat):aBr [(tupT l,true)] n=some (.bl (upT (l.map T.int)),false,n):=by
 by_cases up:l.Pairwise (· <= ·)
 ·rw[aWo (F:=8) ⟨h1,h8,hr,up⟩ ZA n,(aM1 l).mpr up]
 ·have ne:l≠sortI l:=fun e=>up (by rw[e];exact aDp l);have e0:upT (l.map T.int)=false:=by rw[<-jq];exact fun h=>up ((aM1 l).mp h)
  have hB:big=1000000:=rfl;have e2:aHt [some (tupT l,.fz)] n=some (.lst (l.map fun _=>.bl true),.own,n) :=
   aEd l T.int (fun _=>.bl true) rfl ZB fun y hy=>by have hi:=hr y hy;simp_arith [srcOf,aF0 y 0 30 n hi.1 hi.2]
  have e7:pAll n [.lst (l.map fun _=>.bl true)]=some (.bl true,.fz):=by
   have e:(l.map fun _=>T.bl true)=(l.map fun _=>true).map T.bl:=by rw[fc];rfl
   rw[bBq,e];have:∀bs:List Bool,boolsOf (bs.map T.bl)=some bs:=fun bs=>by
    induction bs with
    |nil=>rfl
    |cons x r ih=>simp[boolsOf,ih]
   rw[this];simp
  have hs6:l.length<64:=by lia
  have e4:aIc n [tupT l]=some (.lst ((sortI l).map T.int),.own):=by unfold tupT;simp[aIc,aDj,hs6]
  have e5:aXw n [tupT l]=some (.lst (l.map T.int),.own):=rfl;have e6:=eq_ints l (sortI l) n;rw[decide_eq_false ne] at e6;have e8:pLen n [tupT l]=some (.int (l.length:Int),.fz):=by unfold tupT;rw[aC1,ak]
  have e9:pIsI .tuple n [tupT l]=some (.bl true,.fz):=rfl;have l3:(1:Int)<=l.length:=by lia
  have l4:(l.length:Int)<=8:=by lia
  rw[e0];unfold aBr aGn;have e10:∀d:DS,aC8 0 d [some (tupT l,.fz)] n=d [some (tupT l,.fz)] n:=fun _=>rfl;generalize (l.map fun _=>T.bl true)=bs at *;generalize (sortI l).map T.int=sl at *;generalize l.map T.int=ll at *;generalize tupT l=tl at *;generalize (l.length:Int)=L at *;generalize aC8 0=FF at *;simp_arith [e9,aBn,pLe,pI2,e8,l3,l4,e10,e2,e7,e4,e5,e6]
theorem aL9{W k:Nat}(h:szB W k t=true)(n:Nat):aBr [ZN] n=some (.bl (dieB t),false,n):=by
 cases t with
 | tup xs =>
  cases k with
  |zero=>cases h
  | succ k =>
   obtain⟨_,hx⟩:=aLp h;by_cases hl:1<=xs.length/\xs.length<=8
   ·cases ha:xs.all numB with
    | true =>
     obtain⟨l,rfl,hr⟩:=aM5 ha;rw[ak] at hl;have:=aZo hl.1 hl.2 hr n;simp only[dieB,ha,ak,hl,and_self,decide_true,io];exact this
    | false =>
     rw[aY1 numB hl.1 hl.2 (fun t ht n=>num (sz_ok (hx t ht)) n) ha n];simp only[dieB,ha,gz,gk]
   ·have e:dieB (.tup xs)=false:=by simp only[dieB,hl,decide_false,gk]
    rw[e];unfold aBr aGn;by_cases h1:1<=xs.length
    ·have l3:(1:Int)<=xs.length:=by lia
     have l4:¬ (xs.length:Int)<=8:=by lia
     simp_arith [pIsI,aEt,aEx,aEn,aEy,aEq,aBn,pLe,pI2,aC1,l3,l4]
    ·have l3:¬ (1:Int)<=xs.length:=by lia
     simp_arith [pIsI,aEt,aEx,aEn,aEy,aEq,aBn,pLe,pI2,aC1,l3]
 |dic _=>cases k<;>cases h
 |town=>cases k<;>cases h
 |ob _=>cases k<;>cases h
 |gs _ _=>cases k<;>cases h
 |rdc _=>cases k<;>cases h
 |_=>exact aSy rfl n
theorem aVg{W k:Nat}(h:szB W k t=true)(hd:aIj t=false)(n:Nat):aBq [ZN] n=some (.bl false,false,n):=by
 cases t with
 | tup xs =>
  cases k with
  |zero=>cases h
  | succ k =>
   obtain⟨_,hx⟩:=aLp h;by_cases hl:1<=xs.length/\xs.length<=4
   ·refine aVm dieB hl.1 hl.2 (fun t ht n=>aL9 (hx t ht) n) ?_ n;simpa only[aIj,hl,and_self,decide_true,io] using hd
   ·exact aV1 hl n
 |dic _=>cases k<;>cases h
 |town=>cases k<;>cases h
 |ob _=>cases k<;>cases h
 |gs _ _=>cases k<;>cases h
 |rdc _=>cases k<;>cases h
 |_=>exact aNw rfl n
theorem aF9(x0:Option (T × Md))(n:Nat):∀ (xs:List T) (x1:Option (T × Md)),(∀x∈xs,okT x=true) ->
  ∃ρ',aC0 (putAt 1) aD5 xs [x0,x1] n=some ((if xs.all numB then .nx else .rt (.bl false) false),ρ',n)/\ρ'[0]?=some x0
 |[],x1,_=>⟨[x0,x1],rfl,rfl⟩
 | x::xs,x1,h=>by
  have hx:=h x (ao ..);have body:aD5 [x0,some (x,.fz)] n=some ((if numB x then .nx else .rt (.bl false) false),[x0,some (x,.fz)],n):=by
   unfold aD5;cases x with
   | int i =>
    by_cases h0:0<=i
    ·by_cases h1:i<=30
     ·have e:numB (.int i)=true:=by simp[numB,h0,h1]
      rw[e];simp_arith [pIsI,aEt,aEx,aEn,aEy,aEq,aBn,pLe,pI2,h0,h1]
     ·have e:numB (.int i)=false:=by simp[numB,h1]
      rw[e];simp_arith [pIsI,aEt,aEx,aEn,aEy,aEq,aBn,pLe,pI2,h0,h1]
    ·have e:numB (.int i)=false:=by simp[numB,h0]
     rw[e];simp_arith [pIsI,aEt,aEx,aEn,aEy,aEq,aBn,pLe,pI2,h0]
   |non=>rfl
   |bl b=>cases b<;>rfl
   |str x=>rfl
   |tup xs=>rfl
   |lst xs=>rfl
   |_=>cases hx
  cases hn:numB x with
  | true =>
   rw[hn] at body;obtain⟨ρ',e1,e2⟩:=aF9 x0 n xs (some (x,.fz)) fun y hy=>h y (am _ hy);refine⟨ρ',?_,e2⟩;unfold aC0;simp only[L2.Ds.putAt,ce,cf,aw,body,if_true];rw[e1,ej,hn,io]
  | false =>
   rw[hn] at body;refine⟨[x0,some (x,.fz)],?_,rfl⟩;unfold aC0;simp only[L2.Ds.putAt,ce,cf,aw,body,ej,hn,gk];rfl
theorem aZ7:∀p q:List Int,List.zipWith (fun x y=>T.tup [x,y]) (p.map T.int) (q.map T.int)=(List.zip p q).map fun y=>T.tup [.int y.1,.int y.2]
 |[],_=>rfl
 |_::_,[]=>rfl
 |x::p,y::q=>by have:=aZ7 p q;simp[this]
theorem aIr{W k:Nat}{t:T}(h:szB W k t=true)(n:Nat):aCo [ZN] n=some (.bl (dieB t),false,n):=by
 have hB:big=1000000:=rfl;cases t with
 | tup xs =>
  cases k with
  |zero=>cases h
  | succ k =>
   obtain⟨_,hx⟩:=aLp h;by_cases hl:1<=xs.length/\xs.length<=8
   ·obtain⟨ρ',e1,e2⟩:=aF9 (some (.tup xs,.fz)) n xs none fun x hxx=>sz_ok (hx x hxx);have e1:dFrz 0 aD0 [some (.tup xs,.fz),none] n=_:=e1;have l3:(1:Int)<=xs.length:=by lia
    have l4:(xs.length:Int)<=8:=by lia
    cases ha:xs.all numB with
    | true =>
     rw[ha] at e1;obtain⟨l,rfl,hr⟩:=aM5 ha;rw[ak] at hl;have s1:cutT (l.map T.int) (some 1) none=(l.drop 1).map T.int:=(aIh (l.map T.int) 1).trans (by rw[List.map_drop]);have zz:(l.map T.int).drop 1=(l.drop 1).map T.int:=by rw[List.map_drop]
     have c0:∀ρ:En,ρ[0]?=some (some (tupT l,.fz))->aHg ρ n=some (.lst (((List.zip l (l.drop 1)).map fun p=>decide (p.1<=p.2)).map T.bl),.own,n):=fun ρ h0=>by
      have:=comp_two (it:=aXa (dVar 0) (dSl2 (dVar 0) (aLn (dK (.int 1))) aLg)) (l:=[none,none,some 0,some 1]) (i:=0) (j:=1) (c:=yes) (e:=dPr pLe (aAa (dVar 0) (aAa (dVar 1) dNil))) (ρ:=ρ) (n:=n)
       (List.zip l (l.drop 1)) (fun y=>.int y.1) (fun y=>.int y.2) (fun _=>true) (fun y=>.bl (decide (y.1<=y.2))) ZA (by
        rw[<-aZ7];unfold tupT at h0;generalize (l.drop 1).map T.int=u1 at *;generalize l.map T.int=pp at *;unfold aXa dSl2 aLg aLn
        simp_arith [h0,s1]) (by rw[List.length_zip,dj];lia) (fun y hy=>⟨rfl,fun _=>by
        generalize y.1=a;generalize y.2=b
        simp_arith [srcOf,pLe,pI2]⟩)
      rw[jA.mpr fun _ _=>rfl] at this;rw[fc];exact this
     have eb:∀bs:List Bool,boolsOf (bs.map T.bl)=some bs:=fun bs=>by
      induction bs with
      |nil=>rfl
      |cons x r ih=>simp[boolsOf,ih]
     have e3:pAll n [.lst (((List.zip l (l.drop 1)).map fun p=>decide (p.1<=p.2)).map T.bl)]=some (.bl (upT (l.map T.int)),.fz):=by
      rw[bBq,eb,di,iC];have:∀p q:List Int,(List.zip p q).all (id∘fun p=>decide (p.1<=p.2))=(List.zip (p.map T.int) (q.map T.int)).all fun p=>leT p.1 p.2:=fun p q=>by
       induction p generalizing q with
       |nil=>rfl
       | cons x p ih =>
        cases q with
        |nil=>rfl
        | cons y q =>
         have:=ih q;simp only[List.zip_cons_cons,af,ej];rw[this];rfl
      unfold upT;rw[this,zz]
     have dv:dieB (.tup (l.map T.int))=upT (l.map T.int):=by simp only[dieB,ha,ak,hl,and_self,decide_true,io]
     rw[dv];have c0:=c0 ρ' e2;unfold aCo aEi;generalize upT (l.map T.int)=r at *;generalize ((List.zip l (l.drop 1)).map fun p=>decide (p.1<=p.2)).map T.bl=bs at *;generalize dFrz 0 aD0=LL at *;generalize l.map T.int=ll at *;simp only[if_true] at e1;simp_arith [pIsI,aEt,aEx,aEn,aEy,aEq,aBn,pLe,pI2,aC1,l3,l4,e1,c0,e3]
    | false =>
     rw[ha] at e1;have dv:dieB (.tup xs)=false:=by simp only[dieB,ha,gz,gk]
     rw[dv];unfold aCo aEi;generalize dFrz 0 aD0=LL at *;simp only[dw,if_false] at e1;simp_arith [pIsI,aEt,aEx,aEn,aEy,aEq,aBn,pLe,pI2,aC1,l3,l4,e1]
   ·have e:dieB (.tup xs)=false:=by simp only[dieB,hl,decide_false,gk]
    rw[e];unfold aCo aEi;by_cases h1:1<=xs.length
    ·have l3:(1:Int)<=xs.length:=by lia
     have l4:¬ (xs.length:Int)<=8:=by lia
     simp_arith [pIsI,aEt,aEx,aEn,aEy,aEq,aBn,pLe,pI2,aC1,l3,l4]
    ·have l3:¬ (1:Int)<=xs.length:=by lia
     simp_arith [pIsI,aEt,aEx,aEn,aEy,aEq,aBn,pLe,pI2,aC1,l3]
 |dic _=>cases k<;>cases h
 |town=>cases k<;>cases h
 |ob _=>cases k<;>cases h
 |gs _ _=>cases k<;>cases h
 |rdc _=>cases k<;>cases h
 |_=>rfl
def csAsk:List Nat:=[0,1,2,3]
def dAsk:DS:=dSeq aMz (dSeq aYa (dSeq SAsk2 (SAsk3)))
def xAsk:DX:=xSeq bAn aMz (xSeq XAsk1 aYa (xSeq aUc SAsk2 (aYv)))
theorem aI8:aE4=aM2 csAsk dAsk xAsk Dd.aC7:=rfl
def csDie:List Nat:=[0,1,2,3]
def dDie:DS:=dSeq aSt (dSeq aYh (dSeq bBs (SDie3)))
def xDie:DX:=xSeq aJg aSt (xSeq aTv aYh (xSeq aTd bBs (XDie3)))
theorem aJm:aD3=aM2 csDie dDie xDie Dd.aC7:=rfl
section
variable {t:T}{n:Nat}
theorem x_tot(h:aAe [ZN] n=some (1,n)):aF6 [ZN] n=some (1,n):=by show (match aAe [ZN] n with |some r=>some r |none=>_)=_;rw[h]
theorem x_rol(h:aAe [ZN] n=some (1,n)):aHx [ZN] n=some (1,n):=by show (match aAe [ZN] n with |some r=>some r |none=>_)=_;rw[h]
theorem x_all(h:aAe [ZN] n=some (1,n)):aEf [ZN] n=some (1,n):=by show (match aAe [ZN] n with |some r=>some r |none=>_)=_;rw[h]
theorem x_ord(h:aAe [ZN] n=some (1,n)):aJz [ZN] n=some (1,n):=by show (match aAe [ZN] n with |some r=>some r |none=>_)=_;rw[h]
theorem x_sho(h:aAe [ZN] n=some (1,n)):aJ1 [ZN] n=some (1,n):=by show (match aAe [ZN] n with |some r=>some r |none=>_)=_;rw[h]
theorem x_way(h:aAe [ZN] n=some (1,n)):aGz [ZN,(o,true)] n=some (1,n):=by show (match aAe [ZN] n with |some r=>some r |none=>_)=_;rw[h]
theorem x_cha(h:aAe [ZN] n=some (1,n)):aHu [ZN,(o,true)] n=some (1,n):=by show (match aAe [ZN] n with |some r=>some r |none=>_)=_;rw[h]
theorem x_isr(h:aAe [ZN] n=some (1,n)):aGp [ZN,(o,true)] n=some (1,n):=by show (match aAe [ZN] n with |some r=>some r |none=>_)=_;rw[h]
theorem x_par(h:aAe [ZN] n=some (1,n)):aDq [ZN,(o,true)] n=some (1,n):=by show (match aAe [ZN] n with |some r=>some r |none=>_)=_;rw[h]
theorem x_ali(h:aAe [ZN] n=some (1,n)):aFl [ZN,(o,true)] n=some (1,n):=x_par (o:=o) h
def one1:T:=.tup [.tup [.int 1]]
theorem aR9:Dice 1 1 [[1]]:=⟨by decide,by decide,fun d hd=>by
 rw[gQ.mp hd]
 exact⟨by decide,by decide,by decide,by decide⟩⟩
theorem x_par2(e1:aAe [(o,true)] n=none)(e2:aAo [(o,true)] n=some (.non,false,n))(h:aAe [ZN] n=some (1,n)):aDq [(o,true),ZN] n=some (1,n):=by
 have a1:aAy 1 aAe ZD [some (o,.fz),some (t,.fz),none,none,none] n=aAe [(o,true)] n:=rfl;have a2:aB0 (dCall 1 aAo ZD) [some (o,.fz),some (t,.fz),none,none,none] n=some (.nx,[some (o,.fz),some (t,.fz),none,none,none],n):=by simp_arith [e2]
 have a3:aAy 1 aAe ZM [some (o,.fz),some (t,.fz),none,none,none] n=aAe [ZN] n:=rfl;show (match aAy 1 aAe ZD [some (o,.fz),some (t,.fz),none,none,none] n with |some r=>some r |none=>(aB0 (dCall 1 aAo ZD) [some (o,.fz),some (t,.fz),none,none,none] n).bind _)=_;rw[a1,e1,a2];show (match aAy 1 aAe ZM [some (o,.fz),some (t,.fz),none,none,none] n with |some r=>some r |none=>_)=_;rw[a3,h]
theorem x_ali2(e1:aAe [(o,true)] n=none)(e2:aAo [(o,true)] n=some (.non,false,n))(h:aAe [ZN] n=some (1,n)):aFl [(o,true),ZN] n=some (1,n):=x_par2 e1 e2 h
theorem x_win(h:aAh [ZN] n=some (0,n)):aEv [ZN,(o,true)] n=some (0,n):=by show (match aAh [ZN] n with |some r=>some r |none=>_)=_;rw[h]
theorem x_bea(h:aAh [ZN] n=some (0,n)):aFg [ZN,(o,true)] n=some (0,n):=by show (match aEv [ZN,(o,true)] n with |some r=>some r |none=>_)=_;rw[x_win h]
theorem x_oth(h:aAh [ZN] n=some (0,n)):aCz [ZN,(o,true),(p,true)] n=some (0,n):=by show (match aAh [ZN] n with |some r=>some r |none=>_)=_;rw[h]
def die1:T:=.tup [.int 1]
theorem aXd:Die 1 [1]:=⟨by decide,by decide,by decide,by decide⟩
theorem x_win2(e1:aAh [(o,true)] n=none)(e2:aAx [(o,true)] n=some (.non,false,n))(h:aAh [ZN] n=some (0,n)):aEv [(o,true),ZN] n=some (0,n):=by
 have a1:aAy 1 aAh ZD [some (o,.fz),some (t,.fz),none,none] n=aAh [(o,true)] n:=rfl;have a2:aB0 (dCall 1 aAx ZD) [some (o,.fz),some (t,.fz),none,none] n=some (.nx,[some (o,.fz),some (t,.fz),none,none],n):=by simp_arith [e2]
 have a3:aAy 1 aAh ZM [some (o,.fz),some (t,.fz),none,none] n=aAh [ZN] n:=rfl;show (match aAy 1 aAh ZD [some (o,.fz),some (t,.fz),none,none] n with |some r=>some r |none=>(aB0 (dCall 1 aAx ZD) [some (o,.fz),some (t,.fz),none,none] n).bind _)=_;rw[a1,e1,a2];show (match aAy 1 aAh ZM [some (o,.fz),some (t,.fz),none,none] n with |some r=>some r |none=>_)=_;rw[a3,h]
theorem x_bea2(e1:aAh [(o,true)] n=none)(e2:aAx [(o,true)] n=some (.non,false,n))(h:aAh [ZN] n=some (0,n)):aFg [(o,true),ZN] n=some (0,n):=by show (match aEv [(o,true),ZN] n with |some r=>some r |none=>_)=_;rw[x_win2 e1 e2 h]
theorem x_oth2(e1:aAh [(o,true)] n=none)(e2:aAx [(o,true)] n=some (.non,false,n))(h:aAh [ZN] n=some (0,n)):aCz [(o,true),ZN,(p,true)] n=some (0,n):=by
 have a1:aAy 1 aAh ZD [some (o,.fz),some (t,.fz),some (p,.fz),none,none] n=aAh [(o,true)] n:=rfl;have a2:aB0 (dCall 1 aAx ZD) [some (o,.fz),some (t,.fz),some (p,.fz),none,none] n=some (.nx,[some (o,.fz),some (t,.fz),some (p,.fz),none,none],n):=by simp_arith [e2]
 have a3:aAy 1 aAh ZM [some (o,.fz),some (t,.fz),some (p,.fz),none,none] n=aAh [ZN] n:=rfl;show (match aAy 1 aAh ZD [some (o,.fz),some (t,.fz),some (p,.fz),none,none] n with |some r=>some r |none=>(aB0 (dCall 1 aAx ZD) [some (o,.fz),some (t,.fz),some (p,.fz),none,none] n).bind _)=_;rw[a1,e1,a2];show (match aAy 1 aAh ZM [some (o,.fz),some (t,.fz),some (p,.fz),none,none] n with |some r=>some r |none=>_)=_;rw[a3,h]
end
def refT(c:Nat):T:=.tup [.str "refused",.int c]
theorem aE9{n c:Nat}(hx:xAsk [some (k,.fz),some (t,.fz),some (o,.fz),none] n=some (c,n))(hc:c=1\/c=3):aBs [(k,true),ZN,(o,true)] n=some (refT c,false,n):=by
 show Option.bind (aE4 [some (k,.fz),some (t,.fz),some (o,.fz),none] n) _=_;have:aE4 [some (k,.fz),some (t,.fz),some (o,.fz),none] n=some (.rt (refT c) false,[some (k,.fz),some (t,.fz),some (o,.fz),none],n):=by rw[aI8];unfold aM2;rw[hx];rcases hc with rfl |rfl<;>rfl
 rw[this];rfl
theorem aKq{n:Nat}(hx:xDie [some (k,.fz),some (t,.fz),none] n=some (0,n)):aD1 [(k,true),ZN] n=some (refT 0,false,n):=by
 show Option.bind (aD3 [some (k,.fz),some (t,.fz),none] n) _=_;have:aD3 [some (k,.fz),some (t,.fz),none] n=some (.rt (refT 0) false,[some (k,.fz),some (t,.fz),none],n):=by rw[aJm];unfold aM2;rw[hx];rfl
 rw[this];rfl
theorem aZn{b:Bool}{n:Nat}(hx:xAsk [some (k,.fz),some (t,.fz),some (o,.fz),none] n=none)(h:dAsk [some (k,.fz),some (t,.fz),some (o,.fz),none] n=some (.rt v b,ρ',n)):aBs [(k,true),ZN,(o,true)] n=some (v,b,n):=by
 show Option.bind (aE4 [some (k,.fz),some (t,.fz),some (o,.fz),none] n) _=_;have:aE4 [some (k,.fz),some (t,.fz),some (o,.fz),none] n=some (.rt v b,ρ',n):=by rw[aI8];unfold aM2;rw[hx];exact h
 rw[this];rfl
theorem aB8{n:Nat}(h0:xa ρ n=none)(h1:a ρ n=some (.nx,ρ,n)):xSeq xa a xr ρ n=xr ρ n:=by unfold xSeq;rw[h0,h1];rfl
theorem aHi{n:Nat}{r:Nat × Nat}(h:xa ρ n=some r):xSeq xa a xr ρ n=some r:=by unfold xSeq;rw[h]
theorem aJe{n:Nat}(h:c ρ n=some (false,n)):xIf c xa xNo ρ n=none:=by unfold xIf;rw[h];rfl
theorem aI3{n:Nat}(h:c ρ n=some (false,n)):dIfS c a aCi ρ n=some (.nx,ρ,n):=by unfold dIfS;rw[h];rfl
theorem tst{k m:Int}{n:Nat}(h:¬k<m):dTru (dPr pLt (aAa (dVar 0) (aAa (dK (.int m)) dNil))) (some (.int k,.fz)::r) n=some (false,n):=by simp_arith [pLt,pI2,h]
section
variable {t o:T}{n:Nat}
theorem a0(h:aAe [ZN] n=some (1,n)):xAsk [some (.int 0,.fz),some (t,.fz),some (o,.fz),none] n=some (1,n):=by show (match aF6 [ZN] n with |some r=>some r |none=>_)=_;rw[x_tot h]
theorem a1(h:aAe [ZN] n=some (1,n)):xAsk [some (.int 1,.fz),some (t,.fz),some (o,.fz),none] n=some (1,n):=by show (match aHx [ZN] n with |some r=>some r |none=>_)=_;rw[x_rol h]
theorem a2(h:aAe [ZN] n=some (1,n)):xAsk [some (.int 2,.fz),some (t,.fz),some (o,.fz),none] n=some (1,n):=by show (match aEf [ZN] n with |some r=>some r |none=>_)=_;rw[x_all h]
theorem a3(h:aAe [ZN] n=some (1,n)):xAsk [some (.int 3,.fz),some (t,.fz),some (o,.fz),none] n=some (1,n):=by show (match aJz [ZN] n with |some r=>some r |none=>_)=_;rw[x_ord h]
theorem a4(h:aAe [ZN] n=some (1,n)):xAsk [some (.int 4,.fz),some (t,.fz),some (o,.fz),none] n=some (1,n):=by show (match aJ1 [ZN] n with |some r=>some r |none=>_)=_;rw[x_sho h]
theorem a5(h:aAe [ZN] n=some (1,n)):xAsk [some (.int 5,.fz),some (t,.fz),some (o,.fz),none] n=some (1,n):=by show (match aGz [ZN,(o,true)] n with |some r=>some r |none=>_)=_;rw[x_way h]
theorem a6(h:aAe [ZN] n=some (1,n)):xAsk [some (.int 6,.fz),some (t,.fz),some (o,.fz),none] n=some (1,n):=by show (match aHu [ZN,(o,true)] n with |some r=>some r |none=>_)=_;rw[x_cha h]
theorem a7(h:aAe [ZN] n=some (1,n)):xAsk [some (.int 7,.fz),some (t,.fz),some (o,.fz),none] n=some (1,n):=by show (match aGp [ZN,(o,true)] n with |some r=>some r |none=>_)=_;rw[x_isr h]
theorem a8(h:aAe [ZN] n=some (1,n)):xAsk [some (.int 8,.fz),some (t,.fz),some (o,.fz),none] n=some (1,n):=by
 have b1:1<=big:=by decide
 obtain⟨u,ea⟩:∃u,aAd (dVar 1) (aAd (dTup (aAa (dFz (dTup (aAa (dFz (dK (.int 1))) dNil))) dNil)) bNil) [some (.int 8,.fz),some (t,.fz),some (o,.fz),none] n=some ([(t,true),(u,true)],n):=⟨.tup [.tup [.int 1]],by simp_arith [dTup,b1]⟩
 have e:aUc [some (.int 8,.fz),some (t,.fz),some (o,.fz),none] n=some (1,n):=by unfold aUc;generalize aAd (dVar 1) (aAd (dTup (aAa (dFz (dTup ZF)) dNil)) bNil)=AA at *;show aAy 2 aFl AA _ n=_;unfold aAy;rw[ea];exact x_ali h
 show (match aUc [some (.int 8,.fz),some (t,.fz),some (o,.fz),none] n with |some r=>some r |none=>_)=_;rw[e]
theorem a9(h:aAe [ZN] n=some (1,n)):xAsk [some (.int 9,.fz),some (t,.fz),some (o,.fz),none] n=some (1,n):=by
 have b1:1<=big:=by decide
 obtain⟨u,ea⟩:∃u,aAd (dVar 1) (aAd (dTup (aAa (dFz (dTup (aAa (dFz (dK (.int 1))) dNil))) dNil)) bNil) [some (.int 9,.fz),some (t,.fz),some (o,.fz),none] n=some ([(t,true),(u,true)],n):=⟨.tup [.tup [.int 1]],by simp_arith [dTup,b1]⟩
 have e:aUc [some (.int 9,.fz),some (t,.fz),some (o,.fz),none] n=some (1,n):=by unfold aUc;generalize aAd (dVar 1) (aAd (dTup (aAa (dFz (dTup ZF)) dNil)) bNil)=AA at *;show aAy 2 aDq AA _ n=_;unfold aAy;rw[ea];exact x_par h
 show (match aUc [some (.int 9,.fz),some (t,.fz),some (o,.fz),none] n with |some r=>some r |none=>_)=_;rw[e]
theorem a10(hu:.tup [.tup [.int 1]]=u)(e1:aAe [(u,true)] n=none)(e2:aAo [(u,true)] n=some (.non,false,n))(h:aAe [ZN] n=some (1,n)):xAsk [some (.int 10,.fz),some (t,.fz),some (o,.fz),none] n=some (1,n):=by
 have e:xAsk [some (.int 10,.fz),some (t,.fz),some (o,.fz),none] n=aYv [some (.int 10,.fz),some (t,.fz),some (o,.fz),none] n:=rfl;have b1:1<=big:=by decide
 have ea:aAd (dTup (aAa (dFz (dTup ZF)) dNil)) ZM [some (.int 10,.fz),some (t,.fz),some (o,.fz),none] n=some ([(u,true),ZN],n):=by rw[<-hu];simp_arith [dTup,b1]
 rw[e];unfold aYv;generalize aAd (dTup (aAa (dFz (dTup ZF)) dNil)) ZM=AA at *;show aAy 2 aFl AA _ n=_;unfold aAy;rw[ea];exact x_ali2 e1 e2 h
theorem a11(hu:.tup [.tup [.int 1]]=u)(e1:aAe [(u,true)] n=none)(e2:aAo [(u,true)] n=some (.non,false,n))(h:aAe [ZN] n=some (1,n)):xAsk [some (.int 11,.fz),some (t,.fz),some (o,.fz),none] n=some (1,n):=by
 have e:xAsk [some (.int 11,.fz),some (t,.fz),some (o,.fz),none] n=aYv [some (.int 11,.fz),some (t,.fz),some (o,.fz),none] n:=rfl;have b1:1<=big:=by decide
 have ea:aAd (dTup (aAa (dFz (dTup ZF)) dNil)) ZM [some (.int 11,.fz),some (t,.fz),some (o,.fz),none] n=some ([(u,true),ZN],n):=by rw[<-hu];simp_arith [dTup,b1]
 rw[e];unfold aYv;generalize aAd (dTup (aAa (dFz (dTup ZF)) dNil)) ZM=AA at *;show aAy 2 aDq AA _ n=_;unfold aAy;rw[ea];exact x_par2 e1 e2 h
theorem d0(h:aAh [ZN] n=some (0,n)):xDie [some (.int 0,.fz),some (t,.fz),none] n=some (0,n):=by
 have b1:1<=big:=by decide
 obtain⟨u,ea⟩:∃u,aAd (dVar 1) (aAd (dTup (aAa (dFz (dK (.int 1))) dNil)) bNil) [some (.int 0,.fz),some (t,.fz),none] n=some ([(t,true),(u,true)],n):=⟨.tup [.int 1],by simp_arith [dTup,b1]⟩
 have e:aJg [some (.int 0,.fz),some (t,.fz),none] n=some (0,n):=by unfold aJg;generalize aAd (dVar 1) (aAd (dTup ZF) bNil)=AA at *;show aAy 2 aEv AA _ n=_;unfold aAy;rw[ea];exact x_win h
 show (match aJg [some (.int 0,.fz),some (t,.fz),none] n with |some r=>some r |none=>_)=_;rw[e]
theorem d1(h:aAh [ZN] n=some (0,n)):xDie [some (.int 1,.fz),some (t,.fz),none] n=some (0,n):=by
 have b1:1<=big:=by decide
 obtain⟨u,ea⟩:∃u,aAd (dVar 1) (aAd (dTup (aAa (dFz (dK (.int 1))) dNil)) bNil) [some (.int 1,.fz),some (t,.fz),none] n=some ([(t,true),(u,true)],n):=⟨.tup [.int 1],by simp_arith [dTup,b1]⟩
 have e:aJg [some (.int 1,.fz),some (t,.fz),none] n=some (0,n):=by unfold aJg;generalize aAd (dVar 1) (aAd (dTup ZF) bNil)=AA at *;show aAy 2 aFg AA _ n=_;unfold aAy;rw[ea];exact x_bea h
 show (match aJg [some (.int 1,.fz),some (t,.fz),none] n with |some r=>some r |none=>_)=_;rw[e]
theorem d4(h:aAh [ZN] n=some (0,n)):xDie [some (.int 4,.fz),some (t,.fz),none] n=some (0,n):=by
 have b1:1<=big:=by decide
 obtain⟨u,ea⟩:∃u,aAd (dVar 1) (aAd (dTup (aAa (dFz (dK (.int 1))) dNil)) (aAd (dK .non) bNil)) [some (.int 4,.fz),some (t,.fz),none] n=some ([(t,true),(u,true),(.non,true)],n):=⟨.tup [.int 1],by simp_arith [dTup,b1]⟩
 have e:aTd [some (.int 4,.fz),some (t,.fz),none] n=some (0,n):=by unfold aTd;generalize aAd (dVar 1) (aAd (dTup ZF) (aAd (dK .non) bNil))=AA at *;show aAy 3 aCz AA _ n=_;unfold aAy;rw[ea];exact x_oth h
 show (match aTd [some (.int 4,.fz),some (t,.fz),none] n with |some r=>some r |none=>_)=_;rw[e]
theorem d2(hu:.tup [.int 1]=u)(e1:aAh [(u,true)] n=none)(e2:aAx [(u,true)] n=some (.non,false,n))(h:aAh [ZN] n=some (0,n)):xDie [some (.int 2,.fz),some (t,.fz),none] n=some (0,n):=by
 have b1:1<=big:=by decide
 have ea:aAd (dTup ZF) ZM [some (.int 2,.fz),some (t,.fz),none] n=some ([(u,true),ZN],n):=by rw[<-hu];simp_arith [dTup,b1]
 have e:aTv [some (.int 2,.fz),some (t,.fz),none] n=some (0,n):=by unfold aTv;generalize aAd (dTup ZF) ZM=AA at *;show aAy 2 aEv AA _ n=_;unfold aAy;rw[ea];exact x_win2 e1 e2 h
 have z0:aJg [some (.int 2,.fz),some (t,.fz),none] n=none:=aJe (tst (m:=2) ZA);have s0:aSt [some (.int 2,.fz),some (t,.fz),none] n=some (.nx,[some (.int 2,.fz),some (t,.fz),none],n):=aI3 (tst (m:=2) ZA);unfold xDie;rw[aB8 z0 s0,aHi e]
theorem d3(hu:.tup [.int 1]=u)(e1:aAh [(u,true)] n=none)(e2:aAx [(u,true)] n=some (.non,false,n))(h:aAh [ZN] n=some (0,n)):xDie [some (.int 3,.fz),some (t,.fz),none] n=some (0,n):=by
 have b1:1<=big:=by decide
 have ea:aAd (dTup ZF) ZM [some (.int 3,.fz),some (t,.fz),none] n=some ([(u,true),ZN],n):=by rw[<-hu];simp_arith [dTup,b1]
 have e:aTv [some (.int 3,.fz),some (t,.fz),none] n=some (0,n):=by unfold aTv;generalize aAd (dTup ZF) ZM=AA at *;show aAy 2 aFg AA _ n=_;unfold aAy;rw[ea];exact x_bea2 e1 e2 h
 have z0:aJg [some (.int 3,.fz),some (t,.fz),none] n=none:=aJe (tst (m:=2) ZA);have s0:aSt [some (.int 3,.fz),some (t,.fz),none] n=some (.nx,[some (.int 3,.fz),some (t,.fz),none],n):=aI3 (tst (m:=2) ZA);unfold xDie;rw[aB8 z0 s0,aHi e]
theorem d5(hu:.tup [.int 1]=u)(e1:aAh [(u,true)] n=none)(e2:aAx [(u,true)] n=some (.non,false,n))(h:aAh [ZN] n=some (0,n)):xDie [some (.int 5,.fz),some (t,.fz),none] n=some (0,n):=by
 have b1:1<=big:=by decide
 have ea:aAd (dTup ZF) (aAd (dVar 1) (aAd (dK .non) bNil)) [some (.int 5,.fz),some (t,.fz),none] n=some ([(u,true),ZN,(.non,true)],n):=by rw[<-hu];simp_arith [dTup,b1]
 have e:aTd [some (.int 5,.fz),some (t,.fz),none] n=some (0,n):=by unfold aTd;generalize aAd (dTup ZF) (aAd (dVar 1) (aAd (dK .non) bNil))=AA at *;show aAy 3 aCz AA _ n=_;unfold aAy;rw[ea];exact x_oth2 e1 e2 h
 have z0:aJg [some (.int 5,.fz),some (t,.fz),none] n=none:=aJe (tst (m:=2) ZA);have s0:aSt [some (.int 5,.fz),some (t,.fz),none] n=some (.nx,[some (.int 5,.fz),some (t,.fz),none],n):=aI3 (tst (m:=2) ZA);have z1:aTv [some (.int 5,.fz),some (t,.fz),none] n=none:=aJe (tst (m:=4) ZA);have s1:aYh [some (.int 5,.fz),some (t,.fz),none] n=some (.nx,[some (.int 5,.fz),some (t,.fz),none],n):=aI3 (tst (m:=4) ZA);unfold xDie;rw[aB8 z0 s0,aB8 z1 s1,aHi e]
theorem d6(hu:.lst [.tup [.int 1,.int 1]]=u)(e1:aBg [(u,true)] n=none)(e2:aBv [(u,true)] n=some (.non,false,n))(h:aAh [ZN] n=some (0,n)):xDie [some (.int 6,.fz),some (t,.fz),none] n=some (0,n):=by
 have b1:1<=big:=by decide
 have b2:2<=big:=by decide
 have ea:aAd (dLst (aAa (dFz (dTup (aAa (dFz (dK (.int 1))) ZF))) dNil)) ZM [some (.int 6,.fz),some (t,.fz),none] n=some ([(u,true),ZN],n):=by rw[<-hu];simp_arith [dTup,dLst,b1,b2]
 have em:aGl [(u,true),ZN] n=some (0,n):=by
  have q1:aAy 1 aBg ZD [some (u,.fz),some (t,.fz),none,none,none,none,none,none] n=aBg [(u,true)] n:=rfl;have q2:aB0 (dCall 1 aBv ZD) [some (u,.fz),some (t,.fz),none,none,none,none,none,none] n=some (.nx,[some (u,.fz),some (t,.fz),none,none,none,none,none,none],n):=by simp_arith [e2]
  have q3:aAy 1 aAh ZM [some (u,.fz),some (t,.fz),none,none,none,none,none,none] n=aAh [ZN] n:=rfl;show (match aAy 1 aBg ZD [some (u,.fz),some (t,.fz),none,none,none,none,none,none] n with |some r=>some r |none=>(aB0 (dCall 1 aBv ZD) [some (u,.fz),some (t,.fz),none,none,none,none,none,none] n).bind _)=_;rw[q1,e1,q2];show (match aAy 1 aAh ZM [some (u,.fz),some (t,.fz),none,none,none,none,none,none] n with |some r=>some r |none=>_)=_;rw[q3,h]
 have z0:aJg [some (.int 6,.fz),some (t,.fz),none] n=none:=aJe (tst (m:=2) ZA);have s0:aSt [some (.int 6,.fz),some (t,.fz),none] n=some (.nx,[some (.int 6,.fz),some (t,.fz),none],n):=aI3 (tst (m:=2) ZA);have z1:aTv [some (.int 6,.fz),some (t,.fz),none] n=none:=aJe (tst (m:=4) ZA);have s1:aYh [some (.int 6,.fz),some (t,.fz),none] n=some (.nx,[some (.int 6,.fz),some (t,.fz),none],n):=aI3 (tst (m:=4) ZA);have z2:aTd [some (.int 6,.fz),some (t,.fz),none] n=none:=aJe (tst (m:=6) ZA);have s2:bBs [some (.int 6,.fz),some (t,.fz),none] n=some (.nx,[some (.int 6,.fz),some (t,.fz),none],n):=aI3 (tst (m:=6) ZA);have e:xDie [some (.int 6,.fz),some (t,.fz),none] n=XDie3 [some (.int 6,.fz),some (t,.fz),none] n:=by unfold xDie;rw[aB8 z0 s0,aB8 z1 s1,aB8 z2 s2]
 rw[e];unfold XDie3;generalize aAd (dLst (aAa (dFz (dTup (aAa (dFz (dK (.int 1))) ZF))) dNil)) ZM=AA at *;unfold aAy;rw[ea];exact em
end
theorem r1_eq:aCd=fnD 5 (aAl Dd.aDu):=rfl
theorem r2_eq:aCw=fnD 5 (aAl aCd):=rfl
theorem r3_eq:aCx=fnD 5 (aAl aCw):=rfl
theorem r4_eq:aCv=fnD 5 (aAl aCx):=rfl
theorem r5_eq:aBd=fnD 5 (aAl aCv):=rfl
def odds:List T:=[.non,.bl true,.str "1",.int 0,.int 1,.int 30,.int 31,.int (-1),.tup [],.tup [.int 1],.tup [.int 2,.int 1],.lst [.int 1],.str "dice"]
theorem KK_eq(ρ:En)(n:Nat):aDs ρ n=some (.lst odds,.own,n):=rfl
theorem odds_sz{W k:Nat}(hW:2<=W):∀t∈odds,szB W (k+1) t=true:=by intro t ht;refine aLa hW 1 (k+1) t ZB ?_;simp only[odds,bf,gj,or_false] at ht;rcases ht with rfl |rfl |rfl |rfl |rfl |rfl |rfl |rfl |rfl |rfl |rfl |rfl |rfl<;>rfl
def Good(ns:List Int)(fp:Fn)(k:Nat):Prop:=∀ (W:Nat) (x:T) (n:Nat),2<=W->W<=1000->szB W k x=true->n+2*(k+1)<=big ->
 ∃x' n',fp [(.lst (ns.map .int),false),(.town,true),(x,true)] n=some (x',false,n')/\szB (9*W) (k+1) x'=true/\n<=n'/\n'<=n+2*(k+1)
theorem bAh(h:aAr 6 (.tup xs)=true)(n:Nat):pNe n [.tup xs,.tup []]=some (.bl (!xs.isEmpty),.fz):=by
 rw[q_neP];show ((if aAr 6 (.tup xs)&&aAr 6 (.tup []) then some (eqT (.tup xs) (.tup [])) else none).map _)=_;rw[h];cases xs with
 |nil=>rfl
 |cons x r=>simp[eqT,eqTs,aAr]
theorem aXe(ns:List Int)(fp:Fn){W k:Nat}{n:Nat}(hW:2<=W)(hn:n+2<=big)(r:Int)(e1:aAs [(.lst (ns.map .int),false),(.town,true),(.int 8,true)] n=some (.int r,false,n+1))(c1:isTy .tuple t=some false\/∃xs,t = .tup xs/\aAr 6 (.tup xs)=true/\(xs = [] \/ ¬1<r)/\r≠1) :
  ∃x' n',fnD 5 (aAl fp) [(.lst (ns.map .int),false),(.town,true),ZN] n=some (x',false,n')/\szB (9*W) (k+1) x'=true/\n<=n'/\n'<=n+2:=by
 obtain⟨v,hv,e2⟩:=aNl ns odds true (n+1) (by simp[odds]) ZB;refine⟨v,n+1+1,?_,odds_sz ZB v hv,by lia,by lia⟩;have ek':=KK_eq;unfold aAl;generalize odds=oo at *;generalize aDs=KO at *;rcases c1 with h |⟨xs,rfl,hp,h,h1⟩
 ·have hi:∀n,pIsI .tuple n [t]=some (.bl false,.fz):=fun n=>by simp[pIsI,h]
  simp_arith [e1,hi,ek',e2]
 ·have h1':(r==1)=false:=by simpa using h1
  have hi:∀n,pIsI .tuple n [.tup xs]=some (.bl true,.fz):=fun n=>rfl;have b0:0<=big:=by decide
  have ne:=bAh hp;rcases h with rfl |h
  ·simp_arith [e1,hi,dTup,b0,ne,aZb,h1',ek',e2]
  ·cases hx:xs.isEmpty with
   | true =>
    rw[hx] at ne;simp_arith [e1,hi,dTup,b0,ne,aZb,h1',ek',e2]
   | false =>
    rw[hx] at ne;simp_arith [e1,hi,dTup,b0,ne,pGt,pI2,h,aZb,h1',ek',e2]
theorem sp_whole(ns:List Int)(fp:Fn){W k:Nat}{n:Nat}(hW:2<=W)(hW2:W<=1000)(hs:szB W (k+1) (.tup xs)=true)(hp:aAr 6 (.tup xs)=true)(hn:n+2<=big)(e1:aAs [(.lst (ns.map .int),false),(.town,true),(.int 8,true)] n=some (.int 1,false,n+1)) :
  ∃x' n',fnD 5 (aAl fp) [(.lst (ns.map .int),false),(.town,true),(.tup xs,true)] n=some (x',false,n')/\szB (9*W) (k+1+1) x'=true/\n<=n'/\n'<=n+2:=by
 have hB:big=1000000:=rfl;obtain⟨hl,hx⟩:=aLp hs;have mul:∀n,pMul n [.tup xs,.int 9]=some (.tup (List.replicate 9 xs).flatten,.fz):=fun n=>by show (if xs.length<=1000 /\ -1000<=(9:Int)/\(9:Int)<=10000/\xs.length*(9:Int).toNat<=big then some (T.tup (List.replicate (9:Int).toNat xs).flatten,Md.fz) else none)=_;rw[if_pos ⟨by lia,by decide,by decide,by show xs.length*9<=big;lia⟩];rfl
 have s1:cutT xs (some 1) none=xs.drop 1:=aIh xs 1;have last:∃ys:List T,cutT xs (some (-1)) none=ys/\ys.length<=1/\∀y∈ys,y∈xs:=by
  refine⟨_,rfl,?_,?_⟩
  ·unfold cutT;rw[d8,dj];unfold L2.Ds.bound;simp;lia
  ·intro y hy;unfold cutT at hy;exact gx (gW hy)
 obtain⟨ys,s2,yl,ym⟩:=last;have ad:∀n,pAdd n [.tup xs,.tup ys]=some (.tup (xs++ys),.fz):=fun n=>by rw[aMe,if_pos ZB]
 have li:∀n,aXw n [.tup xs]=some (.lst xs,.own):=fun n=>rfl;obtain⟨v,hv,e2⟩:=aNl ns [.lst xs,.tup (List.replicate 9 xs).flatten,.tup (xs.drop 1),.tup xs.reverse,.tup (xs++ys)] true (n+1) ZR ZB;refine⟨v,n+1+1,?_,?_,by lia,by lia⟩
 ·have hi:∀n,pIsI .tuple n [.tup xs]=some (.bl true,.fz):=fun n=>rfl;have b0:0<=big:=by decide
  have b5:5<=big:=by decide
  have ne:=bAh hp;have ng:∀n,pNeg n [.int 1]=some (.int (-1),.fz):=fun n=>rfl;have h1:¬ (1:Int)<1:=by decide
  have h2:((1:Int)==1)=true:=rfl;unfold aAl;generalize (List.replicate 9 xs).flatten=u1 at *;generalize xs.drop 1=u2 at *;generalize hr:xs.reverse=u3 at *;generalize xs++ys=u4 at *;unfold dSl2 aLg aLn dRev;cases hx:xs.isEmpty with
  | true =>
   rw[hx] at ne;simp_arith [e1,hi,dTup,b0,ne,aZb,h2,dLst,b5,li,mul,s1,hr,ng,s2,ad,e2]
  | false =>
   rw[hx] at ne;simp_arith [e1,hi,dTup,b0,ne,pGt,pI2,h1,aZb,h2,dLst,b5,li,mul,s1,hr,ng,s2,ad,e2]
 ·have up:∀x∈xs,szB (9*W) (k+1) x=true:=fun x h=>aLa ZB k (k+1) x ZB (hx x h);have fl:∀ (m:Nat) (x:T),x∈(List.replicate m xs).flatten->x∈xs:=fun m x h=>by obtain⟨l,hl1,hl2⟩:=List.mem_flatten.mp h;rw[(List.mem_replicate.mp hl1).2] at hl2;exact hl2
  simp only[bf,gj,or_false] at hv;rcases hv with rfl |rfl |rfl |rfl |rfl
  ·rw[szB,bo,decide_eq_true_eq,bu];exact⟨by lia,up⟩
  ·exact aS0 (by rw[List.length_flatten,List.map_replicate,List.sum_replicate_nat];lia) fun x h=>up x (fl 9 x h)
  ·exact aS0 (by rw[dj];lia) fun x h=>up x (gx h)
  ·exact aS0 (by rw[iS];lia) fun x h=>up x (List.mem_reverse.mp h)
  ·refine aS0 (by rw[bp];lia) fun x h=>?_;rcases ck.mp h with h |h
   ·exact up x h
   ·exact up x (ym x h)
theorem sp_in(ns:List Int)(fp:Fn){W k:Nat}(hG:Good ns fp k){n:Nat}(hW:2<=W)(hW2:W<=1000)(hs:szB W (k+1) (.tup xs)=true)(hp:aAr 6 (.tup xs)=true)(hx0:xs.isEmpty=false)(hn:n+2*(k+2)<=big)(r:Int)(hr:1<r)(e1:aAs [(.lst (ns.map .int),false),(.town,true),(.int 8,true)] n=some (.int r,false,n+1)) :
  ∃x' n',fnD 5 (aAl fp) [(.lst (ns.map .int),false),(.town,true),(.tup xs,true)] n=some (x',false,n')/\szB (9*W) (k+1+1) x'=true/\n<=n'/\n'<=n+2*(k+2):=by
 have hB:big=1000000:=rfl;obtain⟨hl,hx⟩:=aLp hs;have l1:1<=xs.length:=by
  cases xs with
  |nil=>cases hx0
  |cons _ _=>simp
 obtain⟨a,a0,a1,e2⟩:=aGx ns (n+1) xs.length ZB ZB;obtain⟨j,rfl⟩:∃j:Nat,a=j:=⟨a.toNat,by lia⟩
 have hj:j<xs.length:=by lia
 have g:at? xs (j:Int)=some xs[j]:=by unfold at?;rw[if_pos ZB,if_pos ZB,i7,ba hj]
 have hm:=fg hj;obtain⟨x',n',e3,z1,z2,z3⟩:=hG W xs[j] (n+1+1) hW hW2 (hx _ hm) ZB;have s1:cutT xs none (some (j:Int))=xs.take j:=aYk xs j;have s2:cutT xs (some ((j:Int)+1)) none=xs.drop (j+1):=by rw[show ((j:Int)+1)=((j+1:Nat):Int) from rfl];exact aIh xs (j+1)
 have ad1:∀n,pAdd n [.tup (xs.take j),.tup [x']]=some (.tup (xs.take j ++ [x']),.fz):=fun n=>by rw[aMe,if_pos];rw[d8,iG];lia
 have ad2:∀n,pAdd n [.tup (xs.take j ++ [x']),.tup (xs.drop (j+1))]=some (.tup (xs.take j ++ [x']++xs.drop (j+1)),.fz):=fun n=>by rw[aMe,if_pos];rw[bp,d8,iG,dj];lia
 refine⟨.tup (xs.take j ++ [x']++xs.drop (j+1)),n',?_,?_,by lia,by lia⟩
 ·have hi:∀n,pIsI .tuple n [.tup xs]=some (.bl true,.fz):=fun n=>rfl;have b0:0<=big:=by decide
  have b1:1<=big:=by decide
  have ne:=bAh hp;rw[hx0] at ne;unfold aAl;generalize xs[j]=xj at *;generalize xs.take j ++ [x']++xs.drop (j+1)=u3 at *;generalize xs.take j ++ [x']=u2 at *;generalize xs.take j=u1 at *;generalize xs.drop (j+1)=u4 at *;unfold dSl2 aLg aLn;simp_arith [e1,hi,dTup,b0,b1,ne,pGt,pI2,hr,aC1,e2,s1,aR7,g,e3,aGu,s2,ad1,ad2]
 ·refine aS0 ?_ fun x h=>?_
  ·rw[bp,bp,d8,iG,dj];lia
  ·have up:∀x∈xs,szB (9*W) (k+1) x=true:=fun x h=>aLa ZB k (k+1) x ZB (hx x h);rcases ck.mp h with h |h
   ·rcases ck.mp h with h |h
    ·exact up x (gW h)
    ·rw[gQ.mp h];exact z1
   ·exact up x (gx h)
theorem good_0(ns:List Int)(fp:Fn):Good ns (fnD 5 (aAl fp)) 0:=by intro W x n hW hW2 hs hn;obtain⟨r,r0,r1,e1⟩:=aGx ns n 8 ZA ZB;refine aXe ns fp hW ZB r e1 (.inl ?_);cases x<;>first |rfl |(cases hs;done)
theorem good_s(ns:List Int)(fp:Fn){k:Nat}(hk:k+1<=6)(hG:Good ns fp k):Good ns (fnD 5 (aAl fp)) (k+1):=by
 intro W x n hW hW2 hs hn;obtain⟨r,r0,r1,e1⟩:=aGx ns n 8 ZA ZB;have hp:aAr 6 x=true:=sz_plain 6 x (aLa (ae W) (k+1) 6 x hk hs);have weak:∀ {m:Nat},(∃x' n',fnD 5 (aAl fp) [(.lst (ns.map .int),false),(.town,true),(x,true)] n=some (x',false,n')/\szB (9*W) (k+1+1) x'=true/\n<=n'/\n'<=n+2) ->
   ∃x' n',fnD 5 (aAl fp) [(.lst (ns.map .int),false),(.town,true),(x,true)] n=some (x',false,n')/\szB (9*W) (k+1+1) x'=true/\n<=n'/\n'<=n+2*(k+1+1):=fun {m} ⟨x',n',h1,h2,h3,h4⟩=>⟨x',n',h1,h2,h3,by lia⟩
 cases x with
 | tup xs =>
  by_cases h1:r=1
  ·subst h1;exact weak (m:=0) (sp_whole ns fp hW hW2 hs hp ZB e1)
  ·cases hx:xs.isEmpty with
   |true=>exact weak (m:=0) (aXe ns fp hW ZB r e1 (.inr ⟨xs,rfl,hp,.inl (List.isEmpty_iff.mp hx),h1⟩))
   | false =>
    by_cases h2:1<r
    ·exact sp_in ns fp hG hW hW2 hs hp hx ZB r h2 e1
    ·exact weak (m:=0) (aXe ns fp hW ZB r e1 (.inr ⟨xs,rfl,hp,.inr h2,h1⟩))
 |dic _=>cases hs
 |town=>cases hs
 |ob _=>cases hs
 |gs _ _=>cases hs
 |rdc _=>cases hs
 |_=>exact weak (m:=0) (aXe ns fp hW ZB r e1 (.inl rfl))
theorem good5(ns:List Int):∀k,k<=4->Good ns aBd k:=by
 have h1:∀k,k<=0->Good ns aCd k:=fun k hk=>by
  obtain rfl:k=0:=by lia
  rw[r1_eq];exact good_0 ns _
 have nxt:∀ (j:Nat) (f g:Fn),j<=4->g=fnD 5 (aAl f)->(∀k,k<=j->Good ns f k)->∀k,k<=j+1->Good ns g k:=fun j f g hj e h k hk=>by
  rw[e];cases k with
  |zero=>exact good_0 ns f
  |succ k=>exact good_s ns f ZB (h k ZB)
 have h2:=nxt 0 _ _ ZA r2_eq h1;have h3:=nxt 1 _ _ ZA r3_eq h2;have h4:=nxt 2 _ _ ZA r4_eq h3;exact nxt 3 _ _ ZA r5_eq h4
def A6:DS:=aDv 4 2
def A7:DS:=l0_law
theorem law_eq:b_law=dSeq A1 (dSeq A2 (dSeq A3 (dSeq A4 (dSeq A5 (dSeq A6 (dSeq A7 (dSeq A8 (dSeq A9 (dSeq A10 (dSeq A11 (A12))))))))))):=rfl
theorem aUf(nd:(d.map (·.1)).Nodup):∃L:List ZP,L.Perm d/\(aB7 (d.map aB5)).map tupT=prT L/\(L.map (·.1)).Pairwise (· < ·):=by
 have all:∀l∈aB7 (d.map aB5),∃p:Int × Int,l=aB5 p/\True:=fun l hl=>by obtain⟨p,_,rfl⟩:=fe.mp ((aE3 _).mem_iff.mp hl);exact⟨p,rfl,trivial⟩
 have ex:∀ls:List (List Int),(∀l∈ls,∃p:Int × Int,l=aB5 p/\True)->∃L:List ZP,ls=L.map aB5:=by
  intro ls
  induction ls with
  |nil=>intro _;exact⟨[],rfl⟩
  | cons l ls ih =>
   intro h;obtain⟨L,rfl⟩:=ih fun x hx=>h x (am _ hx);obtain⟨p,rfl,_⟩:=h l (ao ..);exact⟨p::L,rfl⟩
 obtain⟨L,e⟩:=ex _ all;have back:∀l:List ZP,(l.map aB5).map (fun x=>(x.headD 0,x.getD 1 0))=l:=fun l=>by rw[fc];refine(h9 (g:=id) fun p _=>?_).trans (jI _);rfl
 have perm:L.Perm d:=by
  have:=((aE3 (d.map aB5)).map fun x=>(x.headD 0,x.getD 1 0))
  rw[e,back,back] at this;exact this
 refine⟨L,perm,?_,?_⟩
 ·rw[e,fc];rfl
 ·have s:=aEk (d.map aB5);rw[e,i5] at s;have ndL:(L.map (·.1)).Nodup:=(perm.map (·.1)).nodup_iff.mpr nd;rw[i5];have both:=s.and (i5.mp ndL);refine both.imp fun {a b} h=>?_;obtain⟨h1,h2⟩:=h;have h1:L2.Ds.lexLt [b.1,b.2] [a.1,a.2]=false:=h1;unfold L2.Ds.lexLt at h1;by_cases z:b.1=a.1
  ·exact absurd z.symm h2
  ·have:(b.1==a.1)=false:=by simpa using z
   rw[this] at h1;simp at h1;lia
theorem aQ0(x0:Option (T × Md))(n:Nat):∀ (rows:List (List Int)) (d:List ZP) (ks:List Int) (x2:Option (T × Md)),BK d ks->d.length+rows.length<=100000->(∀r∈rows,r.length<=4/\∀x∈r,0<=x/\x<=30) ->
  ∃d' x2',BK d' (ks++rows.map sumI)/\aC0 (putAt 2) aC3 (rows.map tupT) [x0,some (.dic (kvs d),.own),x2] n=some (.nx,[x0,some (.dic (kvs d'),.own),x2'],n)
 |[],d,ks,x2,B,_,_=>⟨d,x2,by simpa using B,by simp[aC0]⟩
 | r::rows,d,ks,x2,B,hz,hr=>by
  have hB:big=1000000:=rfl;rw[ah] at hz;have B1:BK (addW d (sumI r) 1) (ks ++ [sumI r]):=(B.add (sumI r) 1 ZA).congr fun p=>by rw[jF,List.countP_singleton];split<;>simp
  have al:=aXp d (sumI r) 1;obtain⟨d',x2',B',e⟩:=aQ0 x0 n rows (addW d (sumI r) 1) (ks ++ [sumI r]) (some (tupT r,.fz)) B1 ZB fun q hq=>hr q (am _ hq);refine⟨d',x2',by rw[af];rw[bv] at B';exact B',?_⟩;obtain⟨r4,rr⟩:=hr r (ao ..);have sm:aU5 n [tupT r]=some (.int (sumI r),.fz):=sumT_ok n ZB fun x hx=>by have:=rr x hx;lia
  have g0:aFu n [.dic (kvs d),.int (sumI r),.int 0]=some (.int (cnt d (sumI r)),.fz):=by have h:=aL5 d (sumI r);have e':aFu n [.dic (kvs d),.int (sumI r),.int 0]=some ((aFi (kvs d) (.inl (sumI r))).getD (.int 0),.fz):=rfl;rw[e',h]
  have st:setL (.dic (kvs d)) (.int (sumI r)) (.int (cnt d (sumI r)+1))=some (.dic (kvs (addW d (sumI r) 1))):=by rw[q_set2];show (if (kvs d).length<big then some (T.dic (aDc (kvs d) (.inl (sumI r)) (.int (cnt d (sumI r)+1)))) else none)=_;rw[if_pos (by unfold kvs;rw[ak];lia),bB0]
  have one:aC3 [x0,some (.dic (kvs d),.own),some (tupT r,.fz)] n=some (.nx,[x0,some (.dic (kvs (addW d (sumI r) 1)),.own),some (tupT r,.fz)],n):=by unfold aC3;generalize kvs (addW d (sumI r) 1)=k' at *;generalize kvs d=kd at *;generalize tupT r=tr at *;simp_arith [aGb,sm,g0,aGu,st]
  rw[af];unfold aC0;simp only[L2.Ds.putAt,ce,cf,aw];rw[one];exact e
section
variable {M F:Nat}{ds:List (List Int)}
theorem aQ1(D:Dice M F ds)(hM:M<=4)(hF:F<=8):(aCb ds).length<=4096:=by have:=D.most;rw[bBt];refine aq (facs_le (F:=8) fun d hd=>aq (D.die d hd).most hF) ?_;exact aq (iM ZA (show ds.length<=4 by lia)) ZA
theorem aIq(D:Dice M F ds)(hM:M<=4)(hF:F<=8)(n:Nat):∃d,BK d ((aCb ds).map sumI)/\aCf [(.tup (ds.map tupT),true)] n=some (.lst ((aB7 (d.map aB5)).map tupT),true,n):=by
 have l4:ds.length<=4:=aq D.most hM;have er:=aRe D hM hF n;have hr:=(rolls D hM hF n).2;have pf:=aQ1 D hM hF;have rows:∀r∈aCb ds,r.length<=4/\∀x∈r,0<=x/\x<=30:=fun r h=>⟨by rw[hr r h];exact l4,bBr (fun d hd=>(D.die d hd).rng) h⟩
 obtain⟨d,x2,B,e⟩:=aQ0 (some ZK) n (aCb ds) [] [] none ⟨by simp,by simp,fun p=>by simp[tally,sumI]⟩ (by simp;lia) rows;rw[gc] at B;refine⟨d,B,?_⟩;have it:aG2 n [.dic (kvs d)]=some (.lst ((aB7 (d.map aB5)).map tupT),.own):=by simp only[aG2,aHe,di]
 have lp:aC9 [some ZK,some (.dic [],.own),none] n=some (.nx,[some ZK,some (.dic (kvs d),.own),x2],n):=by
  unfold aC9 dFor;have itr:dItS (dCall 1 aDh ZD) [some ZK,some (.dic [],.own),none] n=some ((aCb ds).map tupT,n):=by generalize (aCb ds).map tupT=pr at *;generalize ds.map tupT=dd at *;unfold dItS;simp_arith [er,walked]
  rw[itr];exact e
 unfold aCf aGw;generalize (aB7 (d.map aB5)).map tupT=out at *;generalize ds.map tupT=dd at *;generalize kvs d=kd at *;generalize aC9=LL at *;simp_arith [aQt,lp,it]
theorem aHb(l:List (List Int)):aAr 6 (.lst (l.map tupT))=true:=aT5 fun p _=>aYf 4 p
theorem aK8(D:Dice M F ds)(hM:M<=4)(hF:F<=8)(n:Nat):aAe [(.tup (ds.map tupT),true)] n=none:=aH6 (aVs D hM hF n)
theorem ask0(D:Dice M F ds)(hM:M<=4)(hF:F<=8){b:Bool}{n:Nat}(h:aDk [(.tup (ds.map tupT),true)] n=some (v,b,n)):aBs [(.int 0,true),(.tup (ds.map tupT),true),(.non,true)] n=some (v,b,n):=by
 have e1:=aK8 D hM hF n;have e2:=aEc D hM hF n;generalize ds.map tupT=dd at *;have x0:aF6 [(.tup dd,true)] n=none:=by show xSeq (aAy 1 aAe ZD) (aB0 (dCall 1 aAo ZD)) xNo [some (.tup dd,.fz)] n=none;rw[aB8 (show aAy 1 aAe ZD [some (.tup dd,.fz)] n=none from e1) (by simp_arith [e2])];rfl
 have s0:aMz [some (.int 0,.fz),some (.tup dd,.fz),some (.non,.fz),none] n=some (.rt v b,[some (.int 0,.fz),some (.tup dd,.fz),some (.non,.fz),none],n):=by
  have hk:aMm [(1,Dd.aDk),(1,Dd.aEr),(1,(fnD 1 aA0)),(1,(fnD 5 aA0)),(1,(fnD 1 aA0))] 0=some (1,Dd.aDk):=rfl;have c5:(0:Int)<5:=by decide
  unfold aMz dSel;generalize [(1,Dd.aDk),(1,Dd.aEr),(1,(fnD 1 aA0)),(1,(fnD 5 aA0)),(1,(fnD 1 aA0))]=FS at *;cases b<;>simp_arith [pLt,pI2,c5,hk,h,md]
 refine aZn (ρ':=[some (.int 0,.fz),some (.tup dd,.fz),some (.non,.fz),none]) ?_ ?_
 ·have hx:bAn [some (.int 0,.fz),some (.tup dd,.fz),some (.non,.fz),none] n=none:=x0;unfold xAsk xSeq;rw[hx,s0];rfl
 ·unfold dAsk;rw[aFv,s0];rfl
theorem ask1(D:Dice M F ds)(hM:M<=4)(hF:F<=8){b:Bool}{n:Nat}(h:aEr [(.tup (ds.map tupT),true)] n=some (v,b,n)):aBs [(.int 1,true),(.tup (ds.map tupT),true),(.non,true)] n=some (v,b,n):=by
 have e1:=aK8 D hM hF n;have e2:=aEc D hM hF n;generalize ds.map tupT=dd at *;have x0:aHx [(.tup dd,true)] n=none:=by show xSeq (aAy 1 aAe ZD) (aB0 (dCall 1 aAo ZD)) xNo [some (.tup dd,.fz),none,none,none,none] n=none;rw[aB8 (show aAy 1 aAe ZD [some (.tup dd,.fz),none,none,none,none] n=none from e1) (by simp_arith [e2])];rfl
 have s0:aMz [some (.int 1,.fz),some (.tup dd,.fz),some (.non,.fz),none] n=some (.rt v b,[some (.int 1,.fz),some (.tup dd,.fz),some (.non,.fz),none],n):=by
  have hk:aMm [(1,Dd.aDk),(1,Dd.aEr),(1,(fnD 1 aA0)),(1,(fnD 5 aA0)),(1,(fnD 1 aA0))] 1=some (1,Dd.aEr):=rfl;have c5:(1:Int)<5:=by decide
  unfold aMz dSel;generalize [(1,Dd.aDk),(1,Dd.aEr),(1,(fnD 1 aA0)),(1,(fnD 5 aA0)),(1,(fnD 1 aA0))]=FS at *;cases b<;>simp_arith [pLt,pI2,c5,hk,h,md]
 refine aZn (ρ':=[some (.int 1,.fz),some (.tup dd,.fz),some (.non,.fz),none]) ?_ ?_
 ·have hx:bAn [some (.int 1,.fz),some (.tup dd,.fz),some (.non,.fz),none] n=none:=x0;unfold xAsk xSeq;rw[hx,s0];rfl
 ·unfold dAsk;rw[aFv,s0];rfl
theorem aW9(D:Dice M F ds)(hM:M<=4)(hF:F<=8){n:Nat}:aGz [(.tup (ds.map tupT),true),(o,true)] n=xSeq (aAy 3 aAv (aAd (dVar 1) (aAd (dK (.int 0)) (aAd (dK (.int 120)) bNil)))) (aB0 (dCall 3 aBw (aAd (dVar 1) (aAd (dK (.int 0)) (aAd (dK (.int 120)) bNil))))) xNo [some ZK,some (o,.fz)] n:=by have e1:=aK8 D hM hF n;have e2:=aEc D hM hF n;generalize ds.map tupT=dd at *;show xSeq (aAy 1 aAe ZD) (aB0 (dCall 1 aAo ZD)) _ [some (.tup dd,.fz),some (o,.fz)] n=_;rw[aB8 (show aAy 1 aAe ZD [some (.tup dd,.fz),some (o,.fz)] n=none from e1) (by simp_arith [e2])]
theorem z0{k:Int}{n:Nat}(h:¬k<5):bAn (some (.int k,.fz)::r) n=none:=aJe (tst (m:=5) h)
theorem w0{k:Int}{n:Nat}(h:¬k<5):aMz (some (.int k,.fz)::r) n=some (.nx,some (.int k,.fz)::r,n):=aI3 (tst (m:=5) h)
theorem ask5(D:Dice M F ds)(hM:M<=4)(hF:F<=8){b:Bool}{i:Int}{n:Nat}(h0:0<=i)(h1:i<=120)(h:aJb [(.tup (ds.map tupT),true),(.int i,true)] n=some (v,b,n)):aBs [(.int 5,true),(.tup (ds.map tupT),true),(.int i,true)] n=some (v,b,n):=by
 have xw:=aW9 D hM hF (o:=.int i) (n:=n);have e3:aAv [(.int i,true),(.int 0,true),(.int 120,true)] n=none:=aKx (aF0 i 0 120 n h0 h1);have e4:=aKp i 0 120 n h0 h1;generalize ds.map tupT=dd at *;have x0:aGz [(.tup dd,true),(.int i,true)] n=none:=by rw[xw,aB8 (show aAy 3 aAv (aAd (dVar 1) (aAd (dK (.int 0)) (aAd (dK (.int 120)) bNil))) [some (.tup dd,.fz),some (.int i,.fz)] n=none from e3) (by simp_arith [e4])];rfl
 have s0:aYa [some (.int 5,.fz),some (.tup dd,.fz),some (.int i,.fz),none] n=some (.rt v b,[some (.int 5,.fz),some (.tup dd,.fz),some (.int i,.fz),none],n):=by
  have hk:aMm [(2,Dd.aJb),(2,(fnD 2 aA0)),(2,(fnD 2 aA0))] (5 - 5)=some (2,Dd.aJb):=rfl;have c5:(5:Int)<8:=by decide
  unfold aYa dSel;generalize [(2,Dd.aJb),(2,(fnD 2 aA0)),(2,(fnD 2 aA0))]=FS at *;have hs:pSub n [.int 5,.int 5]=some (.int (5 - 5),.fz):=rfl;generalize (5 - 5:Int)=z at *;cases b<;>simp_arith [pLt,pI2,c5,hs,hk,h,md]
 refine aZn (ρ':=[some (.int 5,.fz),some (.tup dd,.fz),some (.int i,.fz),none]) ?_ ?_
 ·have hx:XAsk1 [some (.int 5,.fz),some (.tup dd,.fz),some (.int i,.fz),none] n=none:=x0;unfold xAsk;rw[aB8 (z0 ZA) (w0 ZA)];unfold xSeq;rw[hx,s0];rfl
 ·unfold dAsk;rw[aFv,w0 ZA,aFd,aFv,s0];rfl
theorem ask5_no(D:Dice M F ds)(hM:M<=4)(hF:F<=8){n:Nat}(h:aAv [(o,true),(.int 0,true),(.int 120,true)] n=some (3,n)):aBs [(.int 5,true),(.tup (ds.map tupT),true),(o,true)] n=some (refT 3,false,n):=by
 have xw:=aW9 D hM hF (o:=o) (n:=n);generalize ds.map tupT=dd at *;refine aE9 ?_ (.inr rfl);have x0:aGz [(.tup dd,true),(o,true)] n=some (3,n):=by rw[xw,aHi (show aAy 3 aAv (aAd (dVar 1) (aAd (dK (.int 0)) (aAd (dK (.int 120)) bNil))) [some (.tup dd,.fz),some (o,.fz)] n=some (3,n) from h)]
 have hx:XAsk1 [some (.int 5,.fz),some (.tup dd,.fz),some (o,.fz),none] n=some (3,n):=x0;unfold xAsk;rw[aB8 (z0 ZA) (w0 ZA),aHi hx]
end
theorem aX5{M F:Nat}(h:Dice M F ds)(hM:M<=4)(hF:F<=8)(n:Nat):aG6 n [.lst ((aCb ds).map tupT)]=some (.lst ((aB7 (aCb ds)).map tupT),.own):=by
 have l1:=h.one;have hr':=(rolls h hM hF n).2;have hne:aCb ds ≠ []:=by
  have pos:∀ (ds:List (List Int)) (rows:List (List Int)),(∀d∈ds,d ≠ [])->rows ≠ []->ds.foldl more rows ≠ []:=by
   intro ds
   induction ds with
   |nil=>intro rows _ h;exact h
   | cons d ds ih =>
    intro rows hd h;refine ih _ (fun d' hd'=>hd d' (am _ hd')) fun z=>?_;have:=aHs d rows;rw[z] at this;have h1:0<rows.length:=iT.mpr h;have h2:0<d.length:=iT.mpr (hd d (ao ..));have:=Nat.mul_pos h1 h2
    simp_all
  exact pos ds [[]] (fun d hd z=>by have:=(h.die d hd).one;rw[z] at this;simp at this) ZR
 have e2:intsOf ((aCb ds).map tupT)=none:=by
  cases hq:aCb ds with
  |nil=>exact absurd hq hne
  |cons r rs=>simp[tupT,intsOf]
 have e3:aGt ((aCb ds).map tupT)=some (aCb ds):=aHa fun r hr z=>by have:=hr' r hr;rw[z] at this;simp at this;lia
 simp[aG6,e2,e3]
theorem aZ2(D:Dice 4 5 ds)(n:Nat)(x0 x1 x3 x4 x5 x6 x7:Option (T × Md)) :
  A2 [x0,x1,some ZK,x3,x4,x5,x6,x7] n=some (.nx,[x0,x1,some ZK,x3,x4,x5,x6,x7],n):=by
 obtain⟨d,B,e1⟩:=totals D ZA ZA n;obtain⟨d',B',e2⟩:=aIq D ZA ZA n;have eq:aB7 (d'.map aB5)=aB7 (d.map aB5):=(WB.items B B').symm;rw[eq] at e2;have a0:=ask0 D ZA ZA e1;have a1:=ask1 D ZA ZA (rolls D ZA ZA n).1;have e3:=aRe D ZA ZA n;have e4:=aX5 D ZA ZA n;have n1:pNe n [.lst ((aB7 (d.map aB5)).map tupT),.lst ((aB7 (d.map aB5)).map tupT)]=some (.bl false,.fz):=by rw[q_neP,aGm (aHb _)];rfl
 have n2:pNe n [.lst ((aB7 (aCb ds)).map tupT),.lst ((aB7 (aCb ds)).map tupT)]=some (.bl false,.fz):=by rw[q_neP,aGm (aHb _)];rfl
 unfold A2;generalize (aB7 (d.map aB5)).map tupT=u1 at *;generalize (aB7 (aCb ds)).map tupT=u2 at *;generalize (aCb ds).map tupT=u3 at *;generalize ds.map tupT=dd at *;simp_arith [a0,e2,md,n1,a1,e3,e4,n2]
theorem ways{M F:Nat}(D:Dice M F ds)(hM:M<=4)(hF:F<=8){i:Int}(h0:0<=i)(h1:i<=120)(n:Nat):∃d,BK d ((aCb ds).map sumI)/\aJb [(.tup (ds.map tupT),true),(.int i,true)] n=some (.int (cnt d i),false,n):=by
 have l4:ds.length<=4:=aq D.most hM;obtain⟨d,B,e⟩:=bBx (ds:=ds) (fun x hx=>aq (D.die x hx).most hF) l4 n;refine⟨d,B,?_⟩;have e2:=aEc D hM hF n;have e4:=aKp i 0 120 n h0 h1;have g0:aFu n [.dic (kvs d),.int i,.int 0]=some (.int (cnt d i),.fz):=by have h:=aL5 d i;have e':aFu n [.dic (kvs d),.int i,.int 0]=some ((aFi (kvs d) (.inl i)).getD (.int 0),.fz):=rfl;rw[e',h]
 unfold aJb b_ways;generalize kvs d=kd at *;generalize ds.map tupT=dd at *;simp_arith [e2,e4,e,md,g0]
theorem step4(D:Dice 4 5 ds){i:Int}(h0:0<=i)(h1:i<121)(n:Nat)(x0 x1 x4 x5 x6 x7:Option (T × Md)) :
  A4 [x0,x1,some ZK,some (.int i,.fz),x4,x5,x6,x7] n=some (.nx,[x0,x1,some ZK,some (.int i,.fz),x4,x5,x6,x7],n):=by
 have hB:big=1000000:=rfl;obtain⟨d,B,e1⟩:=ways D ZA ZA h0 ZB n;obtain⟨d',B',e2⟩:=aIq D ZA ZA n;have a5:=ask5 D ZA ZA h0 ZB e1;obtain⟨L,perm,eL,up⟩:=aUf B'.nd;have ndL:(L.map (·.1)).Nodup:=up.imp fun {a b} z=>by lia
 have cL:∀k,cnt L k=cnt d' k:=fun k=>by
  by_cases h:k∈L.map (·.1)
  ·obtain⟨q,hq,rfl⟩:=fe.mp h;rw[aM4 ndL hq,aM4 B'.nd (perm.mem_iff.mp hq)]
  ·rw[aVh h,aVh fun z=>h ((perm.map (·.1)).mem_iff.mpr z)]
 have cc:cnt L i=cnt d i:=by rw[cL i,B'.cnt i,B.cnt i]
 have ll:L.length<big:=by rw[perm.length_eq];have:=B'.dlen;rw[ak] at this;have:=aQ1 D ZA ZA;lia
 rw[eL] at e2;have pd:=pdict ndL ll n;have g0:aFu n [.dic (kvs L),.int i,.int 0]=some (.int (cnt d i),.fz):=by have h:=aL5 L i;have e':aFu n [.dic (kvs L),.int i,.int 0]=some ((aFi (kvs L) (.inl i)).getD (.int 0),.fz):=rfl;rw[e',h,cc]
 have n1:pNe n [.int (cnt d i),.int (cnt d i)]=some (.bl false,.fz):=by show some (T.bl (!(cnt d i==cnt d i)),Md.fz)=_;rw[beq_self_eq_true];rfl
 unfold A4;generalize cnt d i=c at *;generalize kvs L=kl at *;generalize prT L=pl at *;generalize ds.map tupT=dd at *;simp_arith [a5,md,e2,pd,g0,n1]
def five:List T:=[.int (-1),.int 121,.non,.bl true,.str "1"]
theorem step5(ns:List Int)(D:Dice 4 5 ds)(n:Nat)(hn:n<big)(x3 x4 x5 x6 x7:Option (T × Md)) :
  A5 [some ZO,some (.town,.fz),some ZK,x3,x4,x5,x6,x7] n=some (.nx,[some ZO,some (.town,.fz),some ZK,x3,x4,x5,x6,x7],n+1):=by
 obtain⟨v,hv,e⟩:=aNl ns five true n (by simp[five]) hn;have xn:aAv [(v,true),(.int 0,true),(.int 120,true)] (n+1)=some (3,n+1):=by
  refine aKa ?_ rfl rfl;simp only[five,bf,gj,or_false] at hv;rcases hv with rfl |rfl |rfl |rfl |rfl
  ·exact aFy _ _ _ _ ZA
  ·exact aFy _ _ _ _ ZA
  ·rfl
  ·rfl
  ·rfl
 have a5:=ask5_no D ZA ZA xn;have n1:pNe (n+1) [refT 3,.tup [.str "refused",.int 3]]=some (.bl false,.fz):=rfl;have b5:5<=big:=by decide
 have b2:2<=big:=by decide
 have ng:pNeg n [.int 1]=some (.int (-1),.fz):=rfl;unfold A5;unfold five at e;generalize refT 3=r3 at *;generalize ds.map tupT=dd at *;have fl:flag .fz v=true:=rfl;simp_arith [dLst,b5,ng,e,md,fl,a5,dTup,b2,n1]
theorem frzD_fz{i:Nat}{n:Nat}(h:ρ[i]?=some (some (t,.fz))):aC8 i d ρ n=d ρ n:=by unfold aC8;rw[h];cases t<;>rfl
theorem step7(ns:List Int)(D:Dice 4 5 ds)(n:Nat)(hn:n+100<=big)(x2 x3 x6 x7:Option (T × Md)):∃t n' x5,szB 648 4 t=true/\n<=n'/\n'<=n+20 /\
  A7 [some ZO,some (.town,.fz),x2,x3,some ZK,none,x6,x7] n=some (.nx,[some ZO,some (.town,.fz),x2,x3,some (t,.fz),x5,x6,x7],n'):=by
 have hB:big=1000000:=rfl;have l4:=D.most;have s0:szB 8 2 (.tup (ds.map tupT))=true:=by refine aS0 (by rw[ak];lia) fun x hx=>?_;obtain⟨d,hd,rfl⟩:=fe.mp hx;have dm:=(D.die d hd).most;refine aS0 (by rw[ak];lia) fun y hy=>?_;obtain⟨z,_,rfl⟩:=fe.mp hy;rfl
 obtain⟨r,r0,r1,e1⟩:=aGx ns n 2 ZA ZB;obtain⟨t1,n1,f1,z1,g1,g2⟩:=good5 ns 2 ZA 8 _ (n+1) ZA ZA s0 ZB;obtain⟨t2,n2,f2,z2,g3,g4⟩:=good5 ns 3 ZA 72 _ n1 ZA ZA z1 ZB;have turn:∀ (t t':T) (m m':Nat) (x5:Option (T × Md)),aBd [(.lst (ns.map .int),false),(.town,true),ZN] m=some (t',false,m')->aSv [some ZO,some (.town,.fz),x2,x3,some (t,.fz),x5,x6,x7] m=some (.nx,[some ZO,some (.town,.fz),x2,x3,some (t',.fz),x5,x6,x7],m'):=fun t t' m m' x5 h=>by unfold aSv;have fl:flag .fz t=true:=rfl;have lk:look .fz t = .fz:=rfl;generalize aBd=FF at *;simp_arith [fl,lk,h,md]
 have it:aHq (aAa (dPr pAdd (aAa (dK (.int 1)) (aAa (dCall 3 Dd.aAs (aAd (dVar 0) (aAd (dVar 1) (aAd (dK (.int 2)) bNil)))) dNil))) dNil) [some ZO,some (.town,.fz),x2,x3,some ZK,none,x6,x7] n=some (upTo 0 (1+r),n+1):=by refine aVn ?_ ZB ZB;generalize ds.map tupT=dd at *;simp_arith [e1,md,aGu]
 have go:∀xs:List T,aC0 (putAt 5) aSv xs [some ZO,some (.town,.fz),x2,x3,some ZK,none,x6,x7] (n+1)=A7 [some ZO,some (.town,.fz),x2,x3,some ZK,none,x6,x7] n\/upTo 0 (1+r)≠xs:=fun xs=>by
  by_cases hx:upTo 0 (1+r)=xs
  ·left;subst hx;show _=(aHq _ _ n).bind _;rw[it];rfl
  ·exact .inr hx
 rcases(show r=0\/r=1 by lia) with rfl |rfl
 ·refine⟨t1,n1,some (.int 0,.fz),aLa ZA 3 4 t1 ZA z1,by lia,by lia,?_⟩;rcases go [.int 0] with h |h
  ·rw[<-h];unfold aC0;simp only[L2.Ds.putAt,ce,cf,aw];rw[turn _ t1 (n+1) n1 _ f1];rfl
  ·exact absurd rfl h
 ·refine⟨t2,n2,some (.int 1,.fz),z2,by lia,by lia,?_⟩;rcases go [.int 0,.int 1] with h |h
  ·rw[<-h];unfold aC0;simp only[L2.Ds.putAt,ce,cf,aw];rw[turn _ t1 (n+1) n1 _ f1];show aC0 (putAt 5) aSv [.int 1] _ n1=_;unfold aC0;simp only[L2.Ds.putAt,ce,cf,aw];rw[turn _ t2 n1 n2 _ f2];rfl
  ·exact absurd rfl h
theorem aVf(bs:List Bool):boolsOf (bs.map T.bl)=some bs:=by
 induction bs with
 |nil=>rfl
 |cons x r ih=>simp[boolsOf,ih]
theorem step8(h:szB 648 4 t=true)(n:Nat)(x0 x1 x2 x3 x5 x6 x7:Option (T × Md)) :
  A8 [x0,x1,x2,x3,some (t,.fz),x5,x6,x7] n=some (.nx,[x0,x1,x2,x3,some (t,.fz),x5,some (.bl (aIj t),.fz),x7],n):=by
 have hB:big=1000000:=rfl;unfold A8;rw[frzD_fz (t:=t) rfl];have lk:look .fz t = .fz:=rfl;cases t with
 | tup xs =>
  obtain⟨hl,hx⟩:=aLp h;by_cases h14:1<=xs.length/\xs.length<=4
  ·have c0:bBl [x0,x1,x2,x3,some (.tup xs,.fz),x5,x6,x7] n=some (.lst ((xs.map dieB).map T.bl),.own,n):=by rw[fc];refine aEd xs id (T.bl∘dieB) (by rw[jI];rfl) ZB fun x hxx=>?_;have e:=aIr (hx x hxx) n;show _=some (T.bl (dieB x),Md.fz,n);generalize dieB x=v at *;have fl:flag .fz x=true:=rfl;have lk:look .fz x = .fz:=rfl;simp_arith [srcOf,id,fl,lk,e,md]
   have e3:pAll n [.lst ((xs.map dieB).map T.bl)]=some (.bl (xs.all dieB),.fz):=by rw[bBq,aVf,di,iC];rfl
   have dv:aIj (.tup xs)=xs.all dieB:=by simp only[aIj,h14,and_self,decide_true,io]
   rw[dv];have l3:(1:Int)<=xs.length:=by lia
   have l4:(xs.length:Int)<=4:=by lia
   generalize (xs.map dieB).map T.bl=bs at *;generalize xs.all dieB=r at *;generalize bBl=CC at *;simp_arith [pIsI,aEt,aEx,aEn,aEy,aEq,aBn,pLe,pI2,aC1,l3,l4,c0,e3]
  ·have dv:aIj (.tup xs)=false:=by simp only[aIj,h14,decide_false,gk]
   rw[dv];by_cases h1:1<=xs.length
   ·have l3:(1:Int)<=xs.length:=by lia
    have l4:¬ (xs.length:Int)<=4:=by lia
    simp_arith [pIsI,aEt,aEx,aEn,aEy,aEq,aBn,pLe,pI2,aC1,l3,l4]
   ·have l3:¬ (1:Int)<=xs.length:=by lia
    simp_arith [pIsI,aEt,aEx,aEn,aEy,aEq,aBn,pLe,pI2,aC1,l3]
 |dic _=>cases h
 |town=>cases h
 |ob _=>cases h
 |gs _ _=>cases h
 |rdc _=>cases h
 |_=>rfl
theorem asks(h:szB 648 4 t=true)(hd:aIj t=false)(n:Nat)(k:Nat)(hk:k<12):aBs [(.int (k:Int),true),ZN,(.non,true)] n=some (refT 1,false,n):=by
 have e:=aMr (aVg h hd n);have u1:aAe [(one1,true)] n=none:=aH6 (aVs aR9 ZA ZA n);have u2:aAo [(one1,true)] n=some (.non,false,n):=aEc aR9 ZA ZA n
 match k,hk with
 |0,_=>exact aE9 (a0 e) (.inl rfl)
 |1,_=>exact aE9 (a1 e) (.inl rfl)
 |2,_=>exact aE9 (a2 e) (.inl rfl)
 |3,_=>exact aE9 (a3 e) (.inl rfl)
 |4,_=>exact aE9 (a4 e) (.inl rfl)
 |5,_=>exact aE9 (a5 e) (.inl rfl)
 |6,_=>exact aE9 (a6 e) (.inl rfl)
 |7,_=>exact aE9 (a7 e) (.inl rfl)
 |8,_=>exact aE9 (a8 e) (.inl rfl)
 |9,_=>exact aE9 (a9 e) (.inl rfl)
 |10,_=>exact aE9 (a10 (u:=one1) rfl u1 u2 e) (.inl rfl)
 |11,_=>exact aE9 (a11 (u:=one1) rfl u1 u2 e) (.inl rfl)
theorem step9(h:szB 648 4 t=true)(n:Nat)(x0 x1 x2 x3 x5 x7:Option (T × Md)) :
  A9 [x0,x1,x2,x3,some (t,.fz),x5,some (.bl (aIj t),.fz),x7] n=some (.nx,[x0,x1,x2,x3,some (t,.fz),x5,some (.bl (aIj t),.fz),x7],n):=by
 have hB:big=1000000:=rfl;unfold A9;cases hd:aIj t with
 |true=>simp_arith []
 | false =>
  have c1:bBj [x0,x1,x2,x3,some (t,.fz),x5,some (.bl false,.fz),x7] n=some (.lst ((List.range 12).map fun _=>refT 1),.own,n):=by
   refine aEd (List.range 12) (fun k=>.int ((k:Nat):Int)) (fun _=>refT 1) ?_ ZA fun k hk=>?_
   ·rw[<-aWr];exact aVn (j:=12) (by simp_arith []) ZA ZA
   ·have e:=asks h hd n k (iX.mp hk);have fl:flag .fz t=true:=rfl;have lk:look .fz t = .fz:=rfl;have rb:aDx (refT 1)=false:=rfl;generalize refT 1=r1 at *;simp_arith [srcOf,fl,lk,e,md]
  have c2:((List.range 12).map fun _=>refT 1)=(List.replicate (12:Int).toNat [T.tup [.str "refused",.int 1]]).flatten:=rfl;have n1:pNe n [.lst (List.replicate (12:Int).toNat [T.tup [.str "refused",.int 1]]).flatten,.lst (List.replicate (12:Int).toNat [T.tup [.str "refused",.int 1]]).flatten]=some (.bl false,.fz):=by rw[q_neP,aGm rfl];rfl
  rw[c2] at c1;have rep:dRep (dLst (aAa (dFz (dTup (aAa (dFz (dK (.str "refused"))) ZF))) dNil)) (dK (.int 12)) [x0,x1,x2,x3,some (t,.fz),x5,some (.bl false,.fz),x7] n=some (.lst (List.replicate (12:Int).toNat [T.tup [.str "refused",.int 1]]).flatten,.own,n):=rfl;generalize (List.replicate (12:Int).toNat [T.tup [.str "refused",.int 1]]).flatten=RR at *;generalize dRep (dLst (aAa (dFz (dTup (aAa (dFz (dK (.str "refused"))) ZF))) dNil)) (dK (.int 12))=RE at *;generalize bBj=CC at *;simp_arith [c1,rep,n1]
theorem step10(ns:List Int)(D:Dice 4 5 ds)(n:Nat)(hn:n+100<=big)(x3 x4 x5 x6 x7:Option (T × Md)):∃t n',szB 72 2 t=true/\n<=n'/\n'<=n+20 /\
  A10 [some ZO,some (.town,.fz),some ZK,x3,x4,x5,x6,x7] n=some (.nx,[some ZO,some (.town,.fz),some ZK,x3,x4,x5,x6,some (t,.fz)],n'):=by
 have hB:big=1000000:=rfl;have l1:=D.one;have hm:ds.getD 0 []∈ds:=by rw[bw,ba ZB];exact fg _
 have dm:=(D.die _ hm).most;have g:pGet n [.tup (ds.map tupT),.int 0]=some (tupT (ds.getD 0 []),.fz):=by
  rw[aR7];cases ds with
  |nil=>simp at l1
  | cons d r =>
   unfold at?;rw[if_pos ZA,if_pos (by rw[ak,ah];lia)];rfl
 have s0:szB 8 1 (tupT (ds.getD 0 []))=true:=by refine aS0 (by rw[ak];lia) fun y hy=>?_;obtain⟨z,_,rfl⟩:=fe.mp hy;rfl
 obtain⟨t,n',f1,z1,g1,g2⟩:=good5 ns 1 ZA 8 _ n ZA ZA s0 ZB;refine⟨t,n',z1,by lia,by lia,?_⟩;unfold A10;generalize tupT (ds.getD 0 [])=td at *;generalize ds.map tupT=dd at *;generalize aBd=FF at *;have fl:flag .fz td=true:=rfl;simp_arith [g,fl,f1,md]
theorem die_asks(h:szB 72 2 t=true)(hd:dieB t=false)(n:Nat)(k:Nat)(hk:k<7):aD1 [(.int (k:Int),true),ZN] n=some (refT 0,false,n):=by
 have e0:=aL9 h n;rw[hd] at e0;have e:=aRo e0 (.inl rfl);have u1:aAh [(die1,true)] n=none:=aTw (aWo aXd ZA n);have u2:aAx [(die1,true)] n=some (.non,false,n):=need_die aXd ZA n;have v1:aBg [(.lst [.tup [.int 1,.int 1]],true)] n=none:=by kernel_rfl
 have v2:aBv [(.lst [.tup [.int 1,.int 1]],true)] n=some (.non,false,n):=by kernel_rfl
 match k,hk with
 |0,_=>exact aKq (d0 e)
 |1,_=>exact aKq (d1 e)
 |2,_=>exact aKq (d2 (u:=die1) rfl u1 u2 e)
 |3,_=>exact aKq (d3 (u:=die1) rfl u1 u2 e)
 |4,_=>exact aKq (d4 e)
 |5,_=>exact aKq (d5 (u:=die1) rfl u1 u2 e)
 |6,_=>exact aKq (d6 rfl v1 v2 e)
theorem step11(h:szB 72 2 t=true)(hd:dieB t=true)(n:Nat)(x0 x1 x2 x3 x4 x5 x6:Option (T × Md)) :
  A11 [x0,x1,x2,x3,x4,x5,x6,some (t,.fz)] n=some (.rt (.bl true) false,[x0,x1,x2,x3,x4,x5,x6,some (t,.fz)],n):=by
 have e0:=aIr h n;rw[hd] at e0;cases t with
 | tup xs =>
  unfold dieB at hd;rw[bo,bo,decide_eq_true_eq] at hd;obtain⟨⟨hl,ha⟩,hu⟩:=hd;obtain⟨l,rfl,hr⟩:=aM5 ha;rw[ak] at hl;have Dl:Die 8 l:=⟨hl.1,hl.2,hr,(aM1 l).mp hu⟩
  have D:Dice 1 8 [l]:=⟨ae 1,ae 1,fun d hd=>by rw[gQ.mp hd];exact Dl⟩
  obtain⟨d,B,e1⟩:=totals D ZA ZA n;obtain⟨d',B',e2⟩:=aIq D ZA ZA n;have eq:aB7 (d'.map aB5)=aB7 (d.map aB5):=(WB.items B B').symm;rw[eq] at e2;have a0:=ask0 D ZA ZA e1;have n1:pEq n [.lst ((aB7 (d.map aB5)).map tupT),.lst ((aB7 (d.map aB5)).map tupT)]=some (.bl true,.fz):=by rw[bA2,aGm (aHb _)];rfl
  have ed:[l].map tupT = [.tup (l.map T.int)]:=rfl;rw[ed] at a0 e2;have b1:1<=big:=by decide
  unfold A11;generalize (aB7 (d.map aB5)).map tupT=u1 at *;generalize l.map T.int=ll at *;simp_arith [e0,md,dTup,b1,a0,e2,n1]
 |_=>cases hd
theorem step12(h:szB 72 2 t=true)(hd:dieB t=false)(n:Nat)(x0 x1 x2 x3 x4 x5 x6:Option (T × Md)) :
  dSeq A11 A12 [x0,x1,x2,x3,x4,x5,x6,some (t,.fz)] n=some (.rt (.bl true) false,[x0,x1,x2,x3,x4,x5,x6,some (t,.fz)],n):=by
 have e0:=aIr h n;rw[hd] at e0;have fl:flag .fz t=true:=rfl;have lk:look .fz t = .fz:=rfl;have s11:A11 [x0,x1,x2,x3,x4,x5,x6,some (t,.fz)] n=some (.nx,[x0,x1,x2,x3,x4,x5,x6,some (t,.fz)],n):=by unfold A11;simp_arith [lk,fl,e0,md]
 rw[aFv,s11,aFd];have c1:aZe [x0,x1,x2,x3,x4,x5,x6,some (t,.fz)] n=some (.lst ((List.range 7).map fun _=>refT 0),.own,n):=by
  refine aEd (List.range 7) (fun k=>.int ((k:Nat):Int)) (fun _=>refT 0) ?_ ZA fun k hk=>?_
  ·rw[<-aWr];exact aVn (j:=7) (by simp_arith []) ZA ZA
  ·have e:=die_asks h hd n k (iX.mp hk);generalize refT 0=r1 at *;simp_arith [srcOf,fl,lk,e,md]
 have c2:((List.range 7).map fun _=>refT 0)=(List.replicate (7:Int).toNat [T.tup [.str "refused",.int 0]]).flatten:=rfl;have n1:pEq n [.lst (List.replicate (7:Int).toNat [T.tup [.str "refused",.int 0]]).flatten,.lst (List.replicate (7:Int).toNat [T.tup [.str "refused",.int 0]]).flatten]=some (.bl true,.fz):=by rw[bA2,aGm rfl];rfl
 rw[c2] at c1;have rep:dRep (dLst (aAa (dFz (dTup (aAa (dFz (dK (.str "refused"))) (aAa (dFz (dK (.int 0))) dNil)))) dNil)) (dK (.int 7)) [x0,x1,x2,x3,x4,x5,x6,some (t,.fz)] n=some (.lst (List.replicate (7:Int).toNat [T.tup [.str "refused",.int 0]]).flatten,.own,n):=rfl;unfold A12;generalize (List.replicate (7:Int).toNat [T.tup [.str "refused",.int 0]]).flatten=RR at *;generalize dRep (dLst (aAa (dFz (dTup (aAa (dFz (dK (.str "refused"))) (aAa (dFz (dK (.int 0))) dNil)))) dNil)) (dK (.int 7))=RE at *;generalize aZe=CC at *;simp_arith [c1,rep,n1]
theorem run:∀ns:List Int,ns.length<=63->∃ρ' n',b_law (aF1 ns 8) 0=some (.rt (.bl true) false,ρ',n'):=by
 intro ns _;have hB:big=1000000:=rfl;rw[law_eq];obtain⟨r,r0,r1,e1⟩:=aGx ns 0 4 ZA ZA;obtain⟨k,rfl⟩:∃k:Nat,r=k:=⟨r.toNat,by lia⟩
 obtain⟨ds,n1,D0,g1,g2,e2⟩:=dice_o ns (1+k) 5 (0+1) ZB ZB ZA ZA ZB;have D:Dice 4 5 ds:=⟨D0.one,by have:=D0.most;lia,D0.die⟩
 have e2:aCk [(.lst (ns.map .int),false),(.town,true),(.int (1+(k:Int)),true),(.int 5,true)] (0+1)=some (.tup (ds.map tupT),false,n1):=e2;have s1:A1 (aF1 ns 8) 0=some (.nx,[some ZO,some (.town,.fz),some ZK,none,none,none,none,none],n1):=by unfold A1;generalize ds.map tupT=dd at *;simp_arith [aF1,e1,md,aGu,e2]
 have s2:=aZ2 D n1 (some ZO) (some (.town,.fz)) none none none none none;obtain⟨i,i0,i1,e3⟩:=aGx ns n1 121 ZA ZB;have s3:A3 [some ZO,some (.town,.fz),some ZK,none,none,none,none,none] n1=some (.nx,[some ZO,some (.town,.fz),some ZK,some (.int i,.fz),none,none,none,none],n1+1):=by unfold A3;generalize ds.map tupT=dd at *;simp_arith [e3,md]
 have s4:=step4 D i0 i1 (n1+1) (some ZO) (some (.town,.fz)) none none none none;have s5:=step5 ns D (n1+1) ZB (some (.int i,.fz)) none none none none;have s6:A6 [some ZO,some (.town,.fz),some ZK,some (.int i,.fz),none,none,none,none] (n1+1+1)=some (.nx,[some ZO,some (.town,.fz),some ZK,some (.int i,.fz),some ZK,none,none,none],n1+1+1):=rfl;obtain⟨t,n2,x5,z,g3,g4,s7⟩:=step7 ns D (n1+1+1) ZB (some ZK) (some (.int i,.fz)) none none;have s8:=step8 z n2 (some ZO) (some (.town,.fz)) (some ZK) (some (.int i,.fz)) x5 none none;have s9:=step9 z n2 (some ZO) (some (.town,.fz)) (some ZK) (some (.int i,.fz)) x5 none;obtain⟨v,n3,zv,g5,g6,s10⟩:=step10 ns D n2 ZB (some (.int i,.fz)) (some (t,.fz)) x5 (some (.bl (aIj t),.fz)) none;have fin:∃ρ' n',dSeq A11 A12 [some ZO,some (.town,.fz),some ZK,some (.int i,.fz),some (t,.fz),x5,some (.bl (aIj t),.fz),some (v,.fz)] n3=some (.rt (.bl true) false,ρ',n'):=by
  cases hd:dieB v with
  | true =>
   rw[aFv,step11 zv hd n3];exact⟨_,_,rfl⟩
  |false=>exact⟨_,_,step12 zv hd n3 _ _ _ _ _ _ _⟩
 obtain⟨ρ',n',sf⟩:=fin;refine⟨ρ',n',?_⟩;rw[aFv,s1,aFd,aFv,s2,aFd,aFv,s3,aFd,aFv,s4,aFd,aFv,s5,aFd,aFv,s6,aFd,aFv,s7,aFd,aFv,s8,aFd,aFv,s9,aFd,aFv,s10,aFd,sf]
end K01
section
namespace PySem.W.Fast
def tw17499434674608192069:=()
def tw2656174268373773165:=()
def tw3320376038889165897:=()
def tw16974987219761742967:=()
def tw16569771385767020112:=()
def tw13266137697666613480:=()
def tw11989107060957253603:=()
def tw11134858293227336345:=()
def tw13361766634375479466:=()
def tw2936027186290182656:=()
def tw16175981720753296969:=()
def tw8081244235335290146:=()
def tw12255270349302435333:=()
def tw5294543055788109711:=()
def tw17425069738671216777:=()
def tw1566807839525233689:=()
def tw2544825071036110389:=()
def tw11611171258489396290:=()
def tw16144662052804484795:=()
def tw1990385787874988919:=()
def tw4765260107645958825:=()
def tw16390823939903113253:=()
def tw10983199663321906523:=()
def tw11904133472119065406:=()
def tw634989396025059829:=()
def tw5430175743486469414:=()
def tw3158127207672080660:=()
def tw6290676734499354101:=()
def tw3970006758001017832:=()
def tw2588004027488169446:=()
def tw3655654229152799247:=()
def tw1157948030684901503:=()
def tw6547683594198604947:=()
def tw17097691537349994893:=()
def tw5511327899317144459:=()
def tw17896201364629625185:=()
def tw3544264735116630334:=()
def tw16195497150087260374:=()
def tw14467135378378585227:=()
def tw7989555761851100769:=()
def tw749535804356093353:=()
def tw7058166207673706099:=()
def tw14479757023448985051:=()
def tw14163200604789879162:=()
def tw6063497740698865322:=()
def tw17584909712656547071:=()
def tw17412182992205320548:=()
def tw6644437658530785033:=()
def tw14600182189990963527:=()
def tw7713939505304794954:=()
def tw15391336686258606918:=()
def tw13639621775193696413:=()
def tw8382175085901981518:=()
def tw12613679453481824492:=()
def tw14310423195483858017:=()
def tw17827350889658195238:=()
def tw10082541323287197280:=()
def tw12080641981418840231:=()
def tw12505088938351903743:=()
def tw5832237965936277088:=()
def tw5547628174435715000:=()
def tw7903880485183412187:=()
def tw5676909369585574301:=()
def tw7145936436630167302:=()
def tw362533663367606223:=()
def tw17104935068720540179:=()
def tw7223302761406428332:=()
def tw5084267305209595449:=()
def tw2084830081434220686:=()
def tw16017780742577906346:=()
def tw6458112815522937259:=()
def tw5170641058061382608:=()
def tw4745796686911687007:=()
def tw8055397999126486752:=()
def tw16478581248079607832:=()
def tw14041215235769359270:=()
def tw8411024148493890536:=()
def tw1032812093983166699:=()
def tw15946015175643183626:=()
def tw8922935236668282592:=()
def tw3077863160785640478:=()
def tw3527790496019708920:=()
def tw3555027997504614285:=()
def tw12586487722065493173:=()
def tw5129246656745612852:=()
def tw11990375465988605274:=()
def tw18006264882389002416:=()
def tw7728440607216347922:=()
def tw14786979934237093652:=()
def tw9914911637760707798:=()
def tw15085088920231168542:=()
def tw15874792690782808974:=()
def tw9477132683238760941:=()
def tw15962784944495212166:=()
def tw13965528895769333446:=()
def tw6679256518237442222:=()
def tw2166464112754177147:=()
def tw12333062846717196459:=()
def tw13794694458002570237:=()
def tw7960524171796903357:=()
def tw4847118796956212934:=()
def tw5645408995002416454:=()
def tw11433546494758425748:=()
def tw12261083462147322950:=()
def tw4637801110999182536:=()
def tw17897601015788362639:=()
def tw5835440096943375251:=()
def tw16208327659353198312:=()
def tw17679505795816916108:=()
def tw7776093610938529590:=()
def tw5417792887534278887:=()
def tw13048154567136826801:=()
def tw4897017111097193457:=()
def tw17510130631365577160:=()
def tw6950553520952458405:=()
def tw5560827074372319810:=()
def tw1272788998154753717:=()
def tw8089286476016338529:=()
def tw8131565350686955832:=()
def tw9769233077734369375:=()
def tw15170808558969311547:=()
def tw716717619766703097:=()
def tw4108886402732591066:=()
def tw15833726285960237392:=()
def tw5645715884081894683:=()
def tw3691870352876802601:=()
def tw4325824604526798544:=()
def tw1696920785341978347:=()
def tw12551446494761424154:=()
def tw17535804505062150317:=()
def tw3490306129402391123:=()
def tw2390771087482881401:=()
def tw7132605492070615977:=()
def tw3574560566265659738:=()
def tw1742669415862675795:=()
def tw12784580040533458272:=()
def tw16138390913729956707:=()
def tw11554319456431240516:=()
def tw2748674023744653788:=()
def tw8311400186263321873:=()
def tw11894080952815120540:=()
def tw4807234592789084888:=()
def tw1573821005718744513:=()
def tw11603665775570283650:=()
def tw5857431061266192344:=()
def tw731294565230197086:=()
def tw5821711027431770123:=()
def tw2589245976446640308:=()
def tw1030031152645368582:=()
def tw9546387392695132953:=()
def tw3739604551324876124:=()
def tw5415068442460375885:=()
def tw6694274439769391627:=()
def tw7402079919238928054:=()
def tw16321891024944453154:=()
def tw10296017575954201689:=()
def tw10225740322233837065:=()
def tw279940922439418134:=()
def tw16090165043370674909:=()
def tw9319241050502153448:=()
def tw17770176236481509688:=()
def tw17336941412731142392:=()
def tw16180902796394757533:=()
def tw12231585206098853697:=()
def tw8534521588705187645:=()
def tw10045142826009633323:=()
def tw2127302612622373841:=()
def tw17837947995390225075:=()
def tw13924334490990289157:=()
def tw12964426507542042922:=()
def tw2074080459971267103:=()
def tw15806710254078938480:=()
def tw8822370804941281416:=()
def tw3950155537789026502:=()
def tw10993276593884601332:=()
def tw3136404156140920523:=()
def tw5973600400503658162:=()
def tw13954075776012507652:=()
def tw12378283075394015224:=()
def tw13632912118788103234:=()
def tw6059270227553058996:=()
def tw3644064858085655961:=()
def tw2643141484976336774:=()
def tw17420354603514394201:=()
def tw11517740531420136573:=()
def tw10626142398074990022:=()
def tw9311193545510560248:=()
def tw3863753240596366928:=()
end PySem.W.Fast
open PySem PySem.W PyProof.Rows
set_option maxRecDepth 100000 in
set_option maxHeartbeats 0 in
theorem PySem.Challenge.cw_dicesums_k01_dice_holds : PySem.Challenge.rw_dicesums_k01_dice.Holds := by
  w_on; o_law; k_head; (case hw => w_witness2)
  k_fill
  refine L2.Ds.walkL (l := PySem.Challenge.rw_dicesums_k01_dice) 10 rfl rfl ⟨rfl, by decide, by decide⟩ (fun w h Y => W.kIn_of Y) ?F ?zMk
  case zMk => intro w; exact L2.Ds.bA3 (by k_is)
  case F =>
    intro w mg fa h KX G hmg;refine' K01.all_mk ?Y hmg K01.run;constructor;exact KX;exact G
    all_goals first
      |(apply L2.Ds.fnIn_mk; k_is; k_is; k_is; k_is)
      |(refine W.mg_none_of KX G ?_; k_is)
      |(refine W.mg_of KX G ?_; k_is)
      |k_exc
      |k_is
      |(constructor <;> first |k_is |(apply L2.Ds.some_of; k_is))
end