
import PyProof.Rows.All
import Wide.All
import OpenK.AllK
import Wide.FinOn
import Lean
import PyProof.EqAt
import PyProof.EqKinds
import PyProof.TupleCall
import PyProof.NeKinds
import PyProof.DictIter
import PyProof.DictWalks
import PyProof.RaisesMany
import PyProof.RulesAs
import PyProof.NsDelKeeps
import PyProof.InstStoreFacts
import PyProof.ExcClass3
import PyProof.ExcInit
import KE.KTryMore
import PyProof.AutoSeq1
import PyProof.WalkInts
import PyProof.DictItems
import PyProof.DictItemsLoops
import KE.KPairComp
import PyProof.DictValues
import PyProof.SumAny
import PyProof.Rows.SumAny
import KE.IntBitsLaws
import PySem.Challenge.RW_mumtrial_k46_blamers_counted
noncomputable section
open PySem renaming Program->bM,reduceHash->Cp,wpAny_mono->nu,wpAny_bind->ap,wpAny_specialOf->El,wpAny_call_entry->uS,wpAny_pure->aX,wpAny_rule->pS,Builtin->cF,wpAny_isInstance->Ai,wpAny_holding->pR,wpAny_truthy_bool->pQ,wpAny_seqItems->l6,sizeLine->aj,sysModules->g6,mainGlobals->bG,bootBuiltins->i7,starEach->aK,compareOp->eL,behindInMarks->j4,standAt->pN,holding->km,wpAny_execs_nil->Ag,swapsWith->pM,assignEach->uk,wpAny_passesOwn->qQ,letOwnedTupleGo->Af,wpAny_pyIter_list->wU,wpAny_pyIter_tuple->Ad,foldedSetIterable->wT,binaryOp->lX,sizeLine_eq->pL,getMethod->pJ,codeAny->zzl77,attributeBase->uh,FuncData->j3,BindsTo->qO,codeAny_mono->z7,wpAny_Call_Name_kw->z6,callWith->ug,backToKw->np,keywordEach->nn,NameKind->i3,mem_of_lookup->rm,getItem->mr,seqIndex?->vt,subscripted->vq,sliceBounds->mq,Keyword->oM,call_meets->rh,valueAt->mn,call_meetsIn->re,callerA->kA,DictEntry->kz,wpAny_newObj_type->oI,ZipApart->oH,wpAny_pyIter_zip->vh,wpAny_callSpecial?_slot->oG,wpAny_field->gU,wpAny_setField->vf,firstArgMember->vd,wpAny_setField_rec->oE,wpAny_onRaise->vb,wpAny_attempt->va,wpAny_dictEntries->u6,wpAny_typeNameOfWhole_keyiter->u4,wpAny_typeNameOf_keyiter->u3
open PySem.Builtin.Tuple renaming tupleHashOf->yC
open Bool renaming false_ne_true->gD,not_true->Ah,false_eq_true->qY,false_and->Ae,eq_iff_iff->uj,and_false->vm,and_eq_true->vi,true_and->qR
open Nat renaming add_assoc->Ek,le_refl->aA,lt_of_lt_of_le->ij,lt_irrefl->pO,ne_of_lt->cE,le_trans->aD,le_of_lt->cZ,ne_of_gt->gZ,zero_le->eK,le_of_eq->Aa,le_succ->uf,succ_le_succ->vn,min_eq_left->qT,mod_lt->qS,succ_mul->im,mul_le_mul_right->c8
open List renaming append_nil->dD,range->lZ,mem_filter->fg,mem_cons_self->fx,mem_cons_of_mem->fq,mem_cons->cA,mem_append->bw,mem_append_left->dj,getElem?_eq_some_iff->bP,mem_append_right->dJ,length_cons->fb,lookup->eC,map_cons->bj,length_map->ah,nodup_cons->kD,length_take->az,getElem?_append_left->rk,getElem?_map->cS,mem_of_getElem?->bJ,length_append->aZ,length_drop->fA,size_toArray->bO,find?_cons->kB,any_cons->oK,nodup_nil->rf,map_nil->q_,lookup_cons->io,forIn_cons->q0,mem_map->aL,not_mem_nil->qZ,any_toArray->u8,drop_zero->qW,take_length->aT,getElem?_eq_getElem->iT,mem_singleton->eW,map_append->aq,nodup_append->cR,drop_of_length_le->u5,take_of_length_le->u1,map_take->qU,map_drop->uZ,mem_of_mem_take->f6,append_assoc->eG,nodup_iff_pairwise_ne->uY,map_map->iR,sum_cons->uX,mem_map_of_mem->oA,getElem?_of_mem->oz,take_append_drop->uW,filter_append->gS,length_filter_le->cB,sum_append->uV,filter_cons_of_neg->uU,filter_cons_of_pos->uT
open Option.some renaming inj->eD
open PySem.W renaming instObj->pP,lookIn->Ab,plainGet->pK,hasDictIn->qP,findIn->ck,isFn->wS,plainOver->ui,makesIn->kj,emptyDict->nq,keepIn->fk,kitOne->z_,kia_one->i4,fnOf->ip,codeIn->mv,nsIn->bV,mg_of->eF,mg_none_of->fz
open PySem.Heap renaming lt_size->aY,SameBut->iE,get?_push_of_some->bv,get?_push_size->cQ,size_push->pI,get?_update_self->vp
open PyProof.Rows renaming AllBare->nr,callWith_type1->Ac,IntsAre->rc
open Ne renaming symm->ii
open Array renaming length_toList->lY
open False renaming elim->i6
open PySem.Str renaming empty->wR,ofString->oF
open True renaming intro->i5
open PySem.Calls renaming spliced_cons->z9,callWith_builtin->vo
open Option renaming isSome_iff_exists->vv,map_some->rg,map_eq_some_iff->kq
open Int renaming toNat_natCast->kC,emod_nonneg->oC,emod_lt_of_pos->oB,eq_ofNat_of_zero_le->iS
open PySem.Obj renaming mapSeq->rj,data_mapFields->ve
open PySem.Paired renaming snoc->f8
open PySem.F renaming slot_dict_get->oJ,entry_dict_get->vk,slot_tuple_iterator_next->vg,slot_zip_next->u_,slot_dict_keyiterator_next->qV,plainAttrs_list->ik,slot_list_append->ko,type_list_append->kn
open ForInStep renaming yield->vj
open PySem.NameKind renaming free->ky
open PySem.Builtin.SmallTypes renaming nextOf->kr,ownedTupleIsFree->vc
open PySem.Heap.SameBut renaming update->mm
open PySem.SeqAt renaming EqAt->bb
open PySem.Builtin.Str renaming strSliceIndices->qX
open PySem.Txt renaming join->u7
open PySem.PassesOwn renaming never->br
theorem Q0:0<=PySem.sizeLine:=by decide
theorem Q1:1<=PySem.sizeLine:=by decide
theorem Q2:2<=PySem.sizeLine:=by decide
theorem Q3:3<=PySem.sizeLine:=by decide
theorem Q4:4<=PySem.sizeLine:=by decide
theorem Q6:6<=PySem.sizeLine:=by decide
theorem zzr0{p:Prop}[Decidable p](h:¬p):decide p=false:=decide_eq_false h
theorem zzr1{p:Prop}[Decidable p](h:p):decide p=true:=decide_eq_true h
abbrev Za:=PySem.W.Frag
abbrev Zb:=List PySem.Str
abbrev Zc:=PySem.Value->PySem.Shared->Prop
abbrev Zd:=List (PySem.Addr×PySem.Obj)
abbrev Ze:=List PySem.Addr
abbrev Zf:=List PySem.Value
section
set_option Elab.async false
set_option linter.all false
set_option maxRecDepth 100000
set_option maxHeartbeats 4000000
namespace L2
open PySem PySem.Spec PyProof.Rows
open Sem (wp)
abbrev em:=Sum Int Str
def cN:em->Value->Bool
 |.inl k,v=>Value.isInt k v
 |.inr x,v=>Value.isStrOf x v
def GS(w:World):em->Int
 |.inl k=>hashInt k
 |.inr x=>hashStr w x
theorem aw:∀{k:em}{v:Value},cN k v=true->(∃i t,k=Sum.inl i/\v=Value.int i t)∨(∃x t,k=Sum.inr x/\v=Value.str x t)
 |.inl i,v,h=>by
  obtain⟨t,e⟩:=Value.isInt_shape (k:=i) (v:=v) h;exact .inl ⟨i,t,rfl,e⟩
 |.inr x,v,h=>by
  obtain⟨t,e⟩:=Value.isStrOf_shape (x:=x) (v:=v) h;exact .inr ⟨x,t,rfl,e⟩
theorem lE(i:Int)(t:Tok):cN (.inl i) (.int i t)=true:=by simp[cN,Value.isInt]
theorem lD(x:Str)(t:Tok):cN (.inr x) (.str x t)=true:=by simp[cN,Value.isStrOf]
theorem wl(a b:Int):decide ((Sum.inl a:em)=Sum.inl b)=(a==b):=by
 by_cases e:a=b
 ·subst e;simp
 ·have h:¬(Sum.inl a:em)=Sum.inl b:=fun q=>e (Sum.inl.inj q);rw[zzr0 h];exact(beq_eq_false_iff_ne.mpr e).symm
theorem wf(a b:Str):decide ((Sum.inr a:em)=Sum.inr b)=decide (a=b):=by
 by_cases e:a=b
 ·subst e;simp
 ·have h:¬(Sum.inr a:em)=Sum.inr b:=fun q=>e (Sum.inr.inj q);rw[zzr0 h,zzr0 e]
theorem wk(a:Int)(b:Str):decide ((Sum.inl a:em)=Sum.inr b)=false:=zzr0 (fun q=>nomatch q)
theorem wg(a:Str)(b:Int):decide ((Sum.inr a:em)=Sum.inl b)=false:=zzr0 (fun q=>nomatch q)
def cb(prog:bM)(w:World):PySem.KeyKind prog w em where
 is:=cN
 hash:=GS w
 inj:=fun v a b ha hb=>by
  rcases aw ha with⟨i,t,rfl,rfl⟩|⟨x,t,rfl,rfl⟩
  ·rcases aw hb with⟨j,u,rfl,e⟩|⟨y,u,rfl,e⟩
   ·injection e with e1 _;rw[e1]
   ·exact nomatch e
  ·rcases aw hb with⟨j,u,rfl,e⟩|⟨y,u,rfl,e⟩
   ·exact nomatch e
   ·injection e with e1 _;rw[e1]
 byValue:=fun k v h=>by
  rcases aw h with⟨i,t,rfl,rfl⟩|⟨x,t,rfl,rfl⟩<;>rfl
 pyHash:=fun hv h=>by
  rcases aw hv with⟨i,t,rfl,rfl⟩|⟨x,t,rfl,rfl⟩
  ·exact wpAny_pyHash_int h
  ·exact wpAny_pyHash_str h
 eqBool:=fun hu hv h=>by
  rcases aw hu with⟨i,t,rfl,rfl⟩|⟨x,t,rfl,rfl⟩
  ·rcases aw hv with⟨j,u,rfl,rfl⟩|⟨y,u,rfl,rfl⟩
   ·rw[wl]at h;exact wpAny_eqBool_int h
   ·rw[wk]at h;exact bb.int_str i t y u _ _ _ _ h
  ·rcases aw hv with⟨j,u,rfl,rfl⟩|⟨y,u,rfl,rfl⟩
   ·rw[wg]at h;exact bb.str_int x t j u _ _ _ _ h
   ·rw[wf]at h;exact wpAny_eqBool_str h
 «strs»:=fun k x t v h=>by
  rcases aw h with⟨i,u,rfl,e⟩|⟨y,u,rfl,e⟩
  ·exact nomatch e
  ·injection e with e1 _;subst e1;cases v<;>rfl
theorem xK(prog:bM)(w:World)(i:Int)(t:Tok):(cb prog w).is (.inl i) (.int i t)=true:=lE i t
theorem xJ(prog:bM)(w:World)(x:Str)(t:Tok):(cb prog w).is (.inr x) (.str x t)=true:=lD x t
end L2
namespace L2
open PySem PySem.Spec PyProof.Rows
open Sem (wp)
abbrev m8:=Option em
def ix:m8->Value->Bool
 |none,v=>match v with
  |.none=>true
  |_=>false
 |some k,v=>cN k v
def FI(w:World):m8->Int
 |none=>Cp 4238894112
 |some k=>GS w k
theorem bF:∀{k:m8}{v:Value},ix k v=true->(∃i t,k=some (Sum.inl i)/\v=Value.int i t)∨(∃x t,k=some (Sum.inr x)/\v=Value.str x t)∨(k=none/\v=Value.none)
 |none,v,h=>by
  refine .inr (.inr ⟨rfl,?_⟩);cases v<;>first|rfl|cases h
 |some k,v,h=>by
  rcases aw (show cN k v=true from h)with⟨i,t,rfl,rfl⟩|⟨i,t,rfl,rfl⟩
  ·exact .inl ⟨i,t,rfl,rfl⟩
  ·exact .inr (.inl ⟨i,t,rfl,rfl⟩)
theorem sI{a b:m8}{v:Value}(h1:ix a v=true)(h2:ix b v=true):a=b:=by
 rcases bF h1 with⟨i,t,rfl,rfl⟩|⟨i,t,rfl,rfl⟩|⟨rfl,rfl⟩<;>rcases bF h2 with⟨j,u,rfl,e⟩|⟨j,u,rfl,e⟩|⟨rfl,e⟩<;>first|rfl|(cases e;rfl)|cases e
def xI(prog:bM)(w:World):PySem.KeyKind prog w m8 where
 is:=ix
 hash:=FI w
 inj:=fun v a b ha hb=>sI ha hb
 byValue:=fun k v h=>by
  rcases bF h with⟨i,t,rfl,rfl⟩|⟨x,t,rfl,rfl⟩|⟨rfl,rfl⟩<;>rfl
 pyHash:=fun{A E s k v Q} hv h=>by
  rcases bF hv with⟨i,t,rfl,rfl⟩|⟨x,t,rfl,rfl⟩|⟨rfl,rfl⟩
  ·exact wpAny_pyHash_int h
  ·exact wpAny_pyHash_str h
  ·refine PySem.W.pyHash_slot (T:="NoneType") rfl F.slot_NoneType_hash F.entry_NoneType_hash (F.args_NoneType_hash_1 _) (by rw[beq_builtin_none]) (.inl rfl) ?_;show wpAny _ _ (retInt 4238894112) _ _ _;refine nu (wpAny_ret_mkInt (Q:=fun v s'=>∃n t,v=Value.int n t/\Q (Cp n) s') ⟨_,_,rfl,h⟩) (fun fin s' ⟨v,e,n,t,e2,q⟩=>⟨n,t,by rw[e,e2],q⟩) (fun _ _ z=>z)
 eqBool:=fun{A E s a b u v Q} hu hv h=>by
  rcases bF hu with⟨i,t,rfl,rfl⟩|⟨x,t,rfl,rfl⟩|⟨rfl,rfl⟩
  ·rcases bF hv with⟨j,u,rfl,rfl⟩|⟨y,u,rfl,rfl⟩|⟨rfl,rfl⟩
   ·exact(cb prog w).eqBool (a:=.inl i) (b:=.inl j) (lE i t) (lE j u) (by rw[show decide ((Sum.inl i:em)=Sum.inl j)=decide ((some (Sum.inl i):m8)=some (Sum.inl j))from decide_eq_decide.mpr ⟨fun z=>by rw[z],fun z=>by injection z⟩];exact h)
   ·rw[zzr0 (by intro z;injection z with z;cases z)]at h;exact bb.int_str i t y u _ _ _ _ h
   ·rw[zzr0 (by intro z;cases z)]at h;exact bb.int_none i t _ _ _ _ h
  ·rcases bF hv with⟨j,u,rfl,rfl⟩|⟨y,u,rfl,rfl⟩|⟨rfl,rfl⟩
   ·rw[zzr0 (by intro z;injection z with z;cases z)]at h;exact bb.str_int x t j u _ _ _ _ h
   ·exact(cb prog w).eqBool (a:=.inr x) (b:=.inr y) (lD x t) (lD y u) (by rw[show decide ((Sum.inr x:em)=Sum.inr y)=decide ((some (Sum.inr x):m8)=some (Sum.inr y))from decide_eq_decide.mpr ⟨fun z=>by rw[z],fun z=>by injection z⟩];exact h)
   ·rw[zzr0 (by intro z;cases z)]at h;exact bb.str_none x t _ _ _ _ h
  ·rcases bF hv with⟨j,u,rfl,rfl⟩|⟨y,u,rfl,rfl⟩|⟨rfl,rfl⟩
   ·rw[zzr0 (by intro z;cases z)]at h;exact bb.none_int j u _ _ _ _ h
   ·rw[zzr0 (by intro z;cases z)]at h;exact bb.none_str y u _ _ _ _ h
   ·rw[zzr1 rfl]at h;exact bb.same _ _ _ _ _ h
 «strs»:=fun k x t v h=>by
  rcases bF h with⟨i,u,rfl,e⟩|⟨y,u,rfl,e⟩|⟨rfl,e⟩
  ·exact nomatch e
  ·injection e with e1 _;subst e1;cases v<;>rfl
  ·exact nomatch e
inductive TK where
 |k (a:m8)
 |t (l:List TK)
mutual
def FO:(x y:TK)->Decidable (x=y)
 |.k a,.k b=>if h:a=b then Decidable.isTrue (by rw[h])else Decidable.isFalse fun e=>h (by injection e)
 |.t l,.t m=>match decTKs l m with
  |Decidable.isTrue h=>Decidable.isTrue (by rw[h])
  |Decidable.isFalse h=>Decidable.isFalse fun e=>h (by injection e)
 |.k _,.t _=>Decidable.isFalse nofun
 |.t _,.k _=>Decidable.isFalse nofun
def decTKs:(x y:List TK)->Decidable (x=y)
 |[],[]=>Decidable.isTrue rfl
 |[],_::_=>Decidable.isFalse nofun
 |_::_,[]=>Decidable.isFalse nofun
 |a::l,b::m=>match FO a b with
  |Decidable.isTrue h=>match decTKs l m with
   |Decidable.isTrue h'=>Decidable.isTrue (by rw[h,h'])
   |Decidable.isFalse h'=>Decidable.isFalse fun e=>h' (by injection e)
  |Decidable.isFalse h=>Decidable.isFalse fun e=>h (by injection e)
end
instance:DecidableEq TK:=FO
mutual
def TK.depth:TK->Nat
 |.k _=>0
 |.t l=>TK.depths l+1
def TK.depths:List TK->Nat
 |[]=>0
 |a::r=>max (TK.depth a) (TK.depths r)
end
mutual
def TK.hash(w:World):TK->Int
 |.k a=>FI w a
 |.t l=>Cp (yC (TK.hashs w l))
def TK.hashs(w:World):List TK->List Int
 |[]=>[]
 |a::r=>TK.hash w a::TK.hashs w r
end
mutual
def TK.draws:TK->Nat
 |.k _=>1
 |.t l=>TK.drawss l+1
def TK.drawss:List TK->Nat
 |[]=>0
 |a::r=>TK.draws a+TK.drawss r
end
mutual
def lV(h:Heap):TK->Value->Prop
 |.k a,v=>ix a v=true
 |.t l,v=>∃a o items n,v=.ref a/\h.get? a=some o/\o.cls=.type "tuple"/\o.data=.seq items n/\TAts h l items.toList
def TAts(h:Heap):List TK->List Value->Prop
 |[],vs=>vs=[]
 |k::r,vs=>∃v us,vs=v::us/\lV h k v/\TAts h r us
end
theorem lV.inj{h:Heap}:∀(d:Nat) {x y:TK}{v:Value},x.depth<=d->lV h x v->lV h y v->x=y:=by
 have key:∀(d:Nat) (ih:∀{x y:TK}{v:Value},x.depth<=d->lV h x v->lV h y v->x=y) (xs ys:List TK) (vs:Zf),TK.depths xs<=d->TAts h xs vs->TAts h ys vs->xs=ys:=by
  intro d ih xs
  induction xs with
  |nil =>
   intro ys vs _ hx hy;have hx':vs=[]:=hx;subst hx';cases ys with
   |nil=>rfl
   |cons y ys=>obtain⟨_,_,e,_⟩:=hy;cases e
  |cons x xs ihl =>
   intro ys vs hd hx hy;obtain⟨v,us,rfl,hx1,hx2⟩:=hx;cases ys with
   |nil=>have hy':v::us=[]:=hy;cases hy'
   |cons y ys =>
    obtain⟨v',us',e,hy1,hy2⟩:=hy;cases e;have hd':max x.depth (TK.depths xs)<=d:=hd;rw[ih (by omega) hx1 hy1,ihl ys us (by omega) hx2 hy2]
 have leaf:∀(a:m8) (l:List TK) (v:Value),lV h (.k a) v->lV h (.t l) v->False:=by
  intro a l v h1 h2;obtain⟨b,o,items,n,rfl,_⟩:=h2;rcases bF (show ix a (.ref b)=true from h1)with⟨_,_,_,e⟩|⟨_,_,_,e⟩|⟨_,e⟩<;>cases e
 have kk:∀(a b:m8) (v:Value),ix a v=true->ix b v=true->a=b:=fun a b v h1 h2=>sI h1 h2;intro d
 induction d with
 |zero =>
  intro x y v hd hx hy;cases x with
  |t l=>exact absurd hd (by show ¬(TK.depths l+1<=0);omega)
  |k a =>
   cases y with
   |k b=>rw[kk a b v hx hy]
   |t l=>exact(leaf a l v hx hy).elim
 |succ d ih =>
  intro x y v hd hx hy;cases x with
  |k a =>
   cases y with
   |k b=>rw[kk a b v hx hy]
   |t l=>exact(leaf a l v hx hy).elim
  |t l =>
   cases y with
   |k b=>exact(leaf b l v hy hx).elim
   |t l' =>
    obtain⟨a,o,items,n,rfl,ho,hc,hdt,hi⟩:=hx;obtain⟨a',o',items',n',e,ho',hc',hdt',hi'⟩:=hy;cases e;rw[ho]at ho';cases ho';rw[hdt]at hdt';injection hdt' with e1 _;subst e1;rw[key d (fun h1=>ih h1) l l' items.toList (by have:TK.depths l+1<=d+1:=hd;omega) hi hi']
theorem lV.mono{h h':Heap}(k:∀a o items n,h.get? a=some o->o.cls=.type "tuple"->o.data=.seq items n->h'.get? a=some o):∀(d:Nat) {x:TK}{v:Value},x.depth<=d->lV h x v->lV h' x v:=by
 have key:∀(d:Nat) (ih:∀{x:TK}{v:Value},x.depth<=d->lV h x v->lV h' x v) (xs:List TK) (vs:Zf),TK.depths xs<=d->TAts h xs vs->TAts h' xs vs:=by
  intro d ih xs
  induction xs with
  |nil=>intro vs _ hx;exact hx
  |cons x xs ihl =>
   intro vs hd hx;obtain⟨v,us,rfl,hx1,hx2⟩:=hx;have hd':max x.depth (TK.depths xs)<=d:=hd;exact⟨v,us,rfl,ih (by omega) hx1,ihl us (by omega) hx2⟩
 intro d
 induction d with
 |zero =>
  intro x v hd hx;cases x with
  |t l=>exact absurd hd (by show ¬(TK.depths l+1<=0);omega)
  |k a=>exact hx
 |succ d ih =>
  intro x v hd hx;cases x with
  |k a=>exact hx
  |t l =>
   obtain⟨a,o,items,n,rfl,ho,hc,hdt,hi⟩:=hx;exact⟨a,o,items,n,rfl,k a o items n ho hc hdt,hc,hdt,key d (fun h1=>ih h1) l _ (by have:TK.depths l+1<=d+1:=hd;omega) hi⟩
section
variable{prog:bM}{w:World}
theorem Ep:∀(d:Nat) {A:Around}{E:Zc}{s:Shared}{k:TK}{v:Value}{Q:Int->Shared->Prop},k.depth<=d->A.units+d<cLine->lV s.heap k v->Q (k.hash w) { s with toks:=s.toks+k.draws } ->
  wpAny (model prog w) A (pyHash v) Q E s:=by
 intro d
 induction d with
 |zero =>
  intro A E s k v Q hd hu hk h;cases k with
  |t l=>exact absurd hd (by show ¬(TK.depths l+1<=0);omega)
  |k a=>exact(xI prog w).pyHash (k:=a) hk h
 |succ d ih =>
  intro A E s k v Q hd hu hk h;cases k with
  |k a=>exact(xI prog w).pyHash (k:=a) hk h
  |t l =>
   obtain⟨a,o,items,n,rfl,ho,hc,hdt,hi⟩:=hk;have hT:s.TypeIs (.ref a) "tuple":=⟨o,ho,hc⟩;have hdl:TK.depths l<=d:=by have:TK.depths l+1<=d+1:=hd;omega
   unfold pyHash
   first|unfold pyHashByItsType|skip
   first|refine ap (wpAny_cRoomFor_or (.inr (by omega)) ?_)|skip
   refine ap (El hT F.slot_tuple_hash.lookup ?_);show wpAny _ _ (if(some (Value.builtin "tuple.__hash__")==some Value.none)=true then _ else _) Q E s
   rw[if_neg (by rw[beq_builtin_none];exact gD)];refine ap (El hT F.slot_tuple_hash.lookup ?_);show wpAny _ _ (callSpecialIfBoundUnlessNone? (.ref a) "__hash__" _ >>= _) Q E s;refine ap (wpAny_callSpecialIfBoundUnlessNone?_slot hT F.slot_tuple_hash (uS F.slot_tuple_hash hT F.entry_tuple_hash ?_ (F.args_tuple_hash_1 _)));show wpAny _ _ (cF.Tuple.tupleItemsOf (.ref a) >>= _) _ _ s;refine ap (wpAny_tupleItemsOf ho hdt ?_);refine ap ?_;rw[<-Array.forIn_toList];refine wpAny_forIn_list _
    (fun rest (b:Array Int) s'=>∃done left,l=done++left/\TAts s.heap left rest/\b.toList=TK.hashs w done/\s'={ s with toks:=s.toks+TK.drawss done })
    _ ?_ ?_ _ _ ⟨[],l,rfl,hi,rfl,rfl⟩
   ·rintro x rest b s' ⟨done,left,e,hl,hb,rfl⟩;cases left with
    |nil=>have hl':x::rest=[]:=hl;cases hl'
    |cons k' left =>
     obtain⟨x',rest',e',h1,h2⟩:=hl;cases e';have hdk:k'.depth<=d:=by
      have gen:∀(p:List TK),TK.depths (p++k'::left)<=d->k'.depth<=d:=by
       intro p
       induction p with
       |nil=>intro hp;have hp':max k'.depth (TK.depths left)<=d:=hp;omega
       |cons q p ihp=>intro hp;have hp':max q.depth (TK.depths (p++k'::left))<=d:=hp;exact ihp (by omega)
      exact gen done (by rw[<-e];exact hdl)
     have hs:TK.hashs w (done++[k'])=TK.hashs w done++[k'.hash w]:=by
      clear e hb
      induction done with
      |nil=>rfl
      |cons q p ihp=>show _::TK.hashs w (p++[k'])=_;rw[ihp];rfl
     have hdr:TK.drawss (done++[k'])=TK.drawss done+k'.draws:=by
      clear e hb hs
      induction done with
      |nil=>show k'.draws+0=0+k'.draws;omega
      |cons q p ihp=>show q.draws+TK.drawss (p++[k'])=q.draws+TK.drawss p+k'.draws;rw[ihp];omega
     refine ap (ih (k:=k') hdk (by show A.units+1+d<cLine;omega) h1 ?_)
     first
      |exact aX ⟨done++[k'],left,by rw[e];simp,h2,by rw[hs];simp[hb],by rw[hdr];simp[Ek]⟩
      |exact ap (aX (aX ⟨done++[k'],left,by rw[e];simp,h2,by rw[hs];simp[hb],by rw[hdr];simp[Ek]⟩))
   ·rintro b s' ⟨done,left,e,hl,hb,rfl⟩;cases left with
    |cons k' left=>obtain⟨_,_,e',_⟩:=hl;cases e'
    |nil =>
     rw[dD]at e;subst e;show wpAny _ _ (retInt (yC b.toList)) _ _ _;rw[hb];refine wpAny_ret_mkInt ?_;have h':Q (Cp (yC (TK.hashs w l))) { s with toks:=s.toks+(TK.drawss l+1) }:=h;show wpAny _ _ (if(decide (-(2:Int) ^ 63<=yC (TK.hashs w l)) && decide (yC (TK.hashs w l)<2 ^ 63))=true then _ else _) Q E _
     unfold Cp at h';by_cases hr:(decide (-(2:Int) ^ 63<=yC (TK.hashs w l)) && decide (yC (TK.hashs w l)<2 ^ 63))=true
     ·rw[if_pos hr];rw[if_pos hr]at h';exact aX (by simpa[Ek]using h')
     ·rw[if_neg hr];rw[if_neg hr]at h';exact ap (pS (aX (by simpa[Ek]using h')))
theorem Bd(d:Nat)(ih:∀{A:Around}{E:Zc}{s:Shared}{x y:TK}{u v:Value}{Q:Bool->Shared->Prop},x.depth<=d->y.depth<=d->A.units+d<cLine->lV s.heap x u->lV s.heap y v->Q (decide (x=y)) s->wpAny (model prog w) A (eqBool u v) Q E s)
  {A:Around}{E:Zc}{s:Shared}{x y:List TK}{a b:Addr}{P:Fin->Shared->Prop}{oa ob:Obj}{xs ys:Array Value}{na nb:Nat}(hx:TK.depths x<=d) (hy:TK.depths y<=d) (hu:A.units+d<cLine)
  (hoa:s.heap.get? a=some oa) (hda:oa.data=.seq xs na) (hia:TAts s.heap x xs.toList) (hob:s.heap.get? b=some ob) (hcb:ob.cls=.type "tuple") (hdb:ob.data=.seq ys nb) (hib:TAts s.heap y ys.toList)
  (h:P (.done (.ret (.bool (decide (x=y))))) s):wpAny (model prog w) A (cF.«tuple.__eq__» ⟨[.ref a,.ref b],[]⟩) P E s:=by
 have hTb:s.TypeIs (.ref b) "tuple":=⟨ob,hob,hcb⟩;show wpAny _ _ (isInstance (.ref b) (.type "tuple") >>= _) _ _ s;refine ap (Ai hTb isSubtype_tuple_tuple ?_);simp only[Ah,qY,if_false];refine ap (wpAny_tupleItemsOf hoa hda ?_);refine ap (wpAny_tupleItemsOf hob hdb ?_);refine ap ?_;refine wpAny_forIn_list _
  (fun rest r s'=>r.1=none/\s'=s/\∃x' y' xs' ys',rest=List.zip xs' ys'/\TAts s.heap x' xs'/\TAts s.heap y' ys'/\TK.depths x'<=d/\TK.depths y'<=d/\decide (x'=y')=decide (x=y)/\(xs'.length==ys'.length)=(xs.size==ys.size))
  _ ?_ ?_ _ _ ⟨rfl,rfl,x,y,xs.toList,ys.toList,rfl,hia,hib,hx,hy,rfl,by simp⟩
 ·rintro⟨u,v⟩ rest r s' ⟨hr,rfl,x',y',xs',ys',hz,hx',hy',dx,dy,hdec,hlen⟩;cases x' with
  |nil =>
   have e:xs'=[]:=hx';subst e;simp at hz
  |cons k1 x'' =>
   obtain⟨u',xs'',rfl,h1,hx''⟩:=hx';cases y' with
   |nil =>
    have e:ys'=[]:=hy';subst e;simp at hz
   |cons k2 y'' =>
    obtain⟨v',ys'',rfl,h2,hy''⟩:=hy';simp only[List.zip_cons_cons,List.cons.injEq,Prod.mk.injEq]at hz;obtain⟨⟨rfl,rfl⟩,rfl⟩:=hz;have dx':max k1.depth (TK.depths x'')<=d:=dx;have dy':max k2.depth (TK.depths y'')<=d:=dy;refine ap (ih (x:=k1) (y:=k2) (by omega) (by omega) hu h1 h2 ?_);by_cases hk:k1=k2
    ·subst hk;rw[zzr1 rfl];simp only[Ah,qY,if_false];refine aX ⟨rfl,rfl,x'',y'',xs'',ys'',rfl,hx'',hy'',by omega,by omega,?_,by simpa using hlen⟩;rw[<-hdec];by_cases hxy:x''=y''
     ·simp[hxy]
     ·simp[hxy]
    ·rw[zzr0 hk];simp only[Bool.not_false,if_true];have hf:decide (x=y)=false:=by rw[<-hdec];simp[hk]
     rw[hf]at h;exact ap (aX (aX (aX h)))
 ·rintro⟨r1,r2⟩ s' ⟨hr,rfl,x',y',xs',ys',hz,hx',hy',dx,dy,hdec,hlen⟩;simp only at hr;subst hr;refine aX ?_;have hfin:(xs.size==ys.size)=decide (x=y):=by
   rw[<-hdec,<-hlen];cases x' with
   |nil =>
    have e:xs'=[]:=hx';subst e;cases y' with
    |nil=>have e:ys'=[]:=hy';subst e;simp
    |cons _ _=>obtain⟨_,_,rfl,_⟩:=hy';simp
   |cons _ _ =>
    obtain⟨_,_,rfl,_⟩:=hx';cases y' with
    |nil=>have e:ys'=[]:=hy';subst e;simp
    |cons _ _=>obtain⟨_,_,rfl,_⟩:=hy';simp at hz
  show P (.done (.ret (.bool (xs.size==ys.size)))) s';rw[hfin];exact h
theorem GD:∀(d:Nat) {A:Around}{E:Zc}{s:Shared}{x y:TK}{u v:Value}{Q:Bool->Shared->Prop},x.depth<=d->y.depth<=d->A.units+d<cLine->lV s.heap x u->lV s.heap y v->Q (decide (x=y)) s ->
  wpAny (model prog w) A (eqBool u v) Q E s:=by
 have mixed1:∀{A:Around}{E:Zc}{s:Shared}{a:m8}{l:List TK}{u v:Value}{Q:Bool->Shared->Prop},A.units<cLine->lV s.heap (.k a) u->lV s.heap (.t l) v->Q false s->wpAny (model prog w) A (eqBool u v) Q E s:=by
  intro A E s a l u v Q hu hx hy h;obtain⟨b,o,items,n,rfl,ho,hc,hdt,hi⟩:=hy;have ht:s.heap.IsTuple b items:=⟨o,ho,hc,n,hdt⟩;rcases bF (show ix a u=true from hx)with⟨i,t,rfl,rfl⟩|⟨i,t,rfl,rfl⟩|⟨rfl,rfl⟩
  ·exact bb.int_tuple i t ht hu prog w E Q h
  ·exact bb.str_tuple i t ht hu prog w E Q h
  ·exact bb.none_tuple ht hu prog w E Q h
 have mixed2:∀{A:Around}{E:Zc}{s:Shared}{a:m8}{l:List TK}{u v:Value}{Q:Bool->Shared->Prop},A.units<cLine->lV s.heap (.t l) u->lV s.heap (.k a) v->Q false s->wpAny (model prog w) A (eqBool u v) Q E s:=by
  intro A E s a l u v Q hu hx hy h;obtain⟨b,o,items,n,rfl,ho,hc,hdt,hi⟩:=hx;have ht:s.heap.IsTuple b items:=⟨o,ho,hc,n,hdt⟩;rcases bF (show ix a v=true from hy)with⟨i,t,rfl,rfl⟩|⟨i,t,rfl,rfl⟩|⟨rfl,rfl⟩
  ·exact bb.tuple_int i t ht hu prog w E Q h
  ·exact bb.tuple_str i t ht hu prog w E Q h
  ·exact bb.tuple_none ht hu prog w E Q h
 have leaves:∀{A:Around}{E:Zc}{s:Shared}{a b:m8}{u v:Value}{Q:Bool->Shared->Prop},lV s.heap (.k a) u->lV s.heap (.k b) v->Q (decide (TK.k a=TK.k b)) s->wpAny (model prog w) A (eqBool u v) Q E s:=by
  intro A E s a b u v Q hx hy h;refine(xI prog w).eqBool (a:=a) (b:=b) hx hy ?_;by_cases e:a=b
  ·subst e;simpa using h
  ·have:¬(TK.k a=TK.k b):=fun z=>e (by injection z);rw[zzr0 this]at h;rw[zzr0 e];exact h
 intro d
 induction d with
 |zero =>
  intro A E s x y u v Q hdx hdy hu hx hy h;cases x with
  |t l=>exact absurd hdx (by show ¬(TK.depths l+1<=0);omega)
  |k a =>
   cases y with
   |t l=>exact absurd hdy (by show ¬(TK.depths l+1<=0);omega)
   |k b=>exact leaves hx hy h
 |succ d ih =>
  intro A E s x y u v Q hdx hdy hu hx hy h;cases x with
  |k a =>
   cases y with
   |k b=>exact leaves hx hy h
   |t l =>
    rw[zzr0 (by intro z;cases z)]at h;exact mixed1 (by omega) hx hy h
  |t l =>
   cases y with
   |k b =>
    rw[zzr0 (by intro z;cases z)]at h;exact mixed2 (by omega) hx hy h
   |t m =>
    have hl:TK.depths l<=d:=by have:TK.depths l+1<=d+1:=hdx;omega
    have hm:TK.depths m<=d:=by have:TK.depths m+1<=d+1:=hdy;omega
    have hx0:=hx;have hy0:=hy;obtain⟨a,oa,xs,na,rfl,hoa,hca,hda,hia⟩:=hx;obtain⟨b,ob,ys,nb,rfl,hob,hcb,hdb,hib⟩:=hy;have hTa:s.TypeIs (.ref a) "tuple":=⟨oa,hoa,hca⟩;have hTb:s.TypeIs (.ref b) "tuple":=⟨ob,hob,hcb⟩;have hd':decide (TK.t l=TK.t m)=decide (l=m):=by
     by_cases e:l=m
     ·subst e;simp
     ·have:¬(TK.t l=TK.t m):=fun z=>e (by injection z);rw[zzr0 this,zzr0 e]
    unfold eqBool
    try with_reducible refine pR ?_
    show wpAny _ _ (if(Value.ref a==Value.ref b)=true then _ else _) Q E s
    by_cases hab:(Value.ref a==Value.ref b)=true
    ·rw[if_pos hab];have e:a=b:=by have:=eq_of_beq hab;injection this
     subst e;have e2:TK.t l=TK.t m:=lV.inj _ (aA _) hx0 hy0;rw[zzr1 e2]at h;exact ap (pS (aX h))
    ·rw[if_neg hab];rw[hd']at h;exact ap (wpAny_richCompare_same_room (op:=.Eq) hTa hTb F.slot_tuple_eq
      (uS F.slot_tuple_eq hTa F.entry_tuple_eq (Bd d (fun h1 h2 h3 h4 h5 h6=>ih h1 h2 h3 h4 h5 h6) hl hm (by show A.units+1+d<cLine;omega) hoa hda hia hob hcb hdb hib ⟨_,rfl,(fun e=>nomatch e),pQ h⟩) (F.args_tuple_eq_2 _ _)) (by omega))
theorem Cz:∀(d:Nat) {A:Around}{E:Zc}{s:Shared}{k:TK}{v:Value}{Q:Bool->Shared->Prop},k.depth<=d->lV s.heap k v->Q true s->wpAny (model prog w) A (eqIsQuiet d v) Q E s:=by
 intro d
 induction d with
 |zero =>
  intro A E s k v Q hd hk h;cases k with
  |t l=>exact absurd hd (by show ¬(TK.depths l+1<=0);omega)
  |k a=>rw[eqIsQuiet_byValue _ ((xI prog w).byValue a v hk)];exact aX h
 |succ d ih =>
  intro A E s k v Q hd hk h;cases k with
  |k a=>rw[eqIsQuiet_byValue _ ((xI prog w).byValue a v hk)];exact aX h
  |t l =>
   have hl:TK.depths l<=d:=by have:TK.depths l+1<=d+1:=hd;omega
   obtain⟨a,o,items,n,rfl,ho,hc,hdt,hi⟩:=hk;have hT:s.TypeIs (.ref a) "tuple":=⟨o,ho,hc⟩;unfold eqIsQuiet;refine ap (El hT F.slot_tuple_eq.lookup ?_);show wpAny _ _ (isInstance (.ref a) (.type "tuple") >>= _) _ _ s;refine ap (Ai hT isSubtype_tuple_tuple ?_);simp only[Ah,qY,if_false];refine ap (l6 ho hdt ?_);refine ap ?_;show wpAny _ _ (forIn items _ _) _ _ s;rw[<-Array.forIn_toList];refine wpAny_forIn_list _ (fun rest r s'=>r.1=none/\s'=s/\∃left,TAts s.heap left rest/\TK.depths left<=d) _ ?_ ?_ _ _ ⟨rfl,rfl,l,hi,hl⟩
   ·rintro v rest r s' ⟨hr,rfl,left,hall,hdl⟩;cases left with
    |nil=>have e:v::rest=[]:=hall;cases e
    |cons k' left =>
     obtain⟨v',rest',e,h1,h2⟩:=hall;cases e;have hdl':max k'.depth (TK.depths left)<=d:=hdl;refine ap (ih (k:=k') (by omega) h1 ?_);simp only[Ah,qY,if_false];exact aX ⟨rfl,rfl,left,h2,by omega⟩
   ·rintro⟨r1,r2⟩ s' ⟨hr,rfl,_⟩;simp only at hr;subst hr;exact aX h
def dL(prog:bM)(w:World):HeapKind prog w TK where
 is:=fun h k a=>lV h k (.ref a)/\k.depth<=8
 hash:=TK.hash w
 draws:=TK.draws
 room:=fun A=>A.units+8<cLine
 inj:=fun hx hy=>lV.inj 8 hx.2 hx.1 hy.1
 keeps:=fun{h h' k a d o es ep} x ho hd hs=>⟨lV.mono (fun b ob items n hb _ hdb=>(hs.2 b fun e=>by
  subst e;rw[ho]at hb;cases hb;rw[hd]at hdb;cases hdb).trans hb) 8 x.2 x.1,x.2⟩
 pyHash:=fun hu hk h=>Ep 8 hk.2 hu hk.1 h
 eqBool:=fun hu hx hy h=>GD 8 hx.2 hy.2 hu hx.1 hy.1 h
 quiet:=fun hk h=>Cz 8 hk.2 hk.1 h
end
end L2
namespace L2
open PySem PySem.Spec PyProof.Rows
inductive V where
 |non|bl (b:Bool)|int (i:Int)|str (x:Str)|byt (b:Array UInt8)|flt (b:UInt64)|ref (a:Addr)|ty (n:String)
 deriving DecidableEq
def RelV:V->Value->Prop
 |.non,u=>u=Value.none
 |.bl b,u=>u=Value.bool b
 |.int i,u=>∃t,u=Value.int i t
 |.str x,u=>∃t,u=Value.str x t
 |.byt b,u=>∃t,u=Value.bytes b t
 |.flt b,u=>∃t,u=Value.float b t
 |.ref a,u=>u=Value.ref a
 |.ty n,u=>u=Value.type n
abbrev ba:List V->List Value->Prop:=Paired RelV
theorem ba.length{xs:List V}{us:Zf}(r:ba xs us):xs.length=us.length:=Paired.length r
theorem ba.get:∀{xs:List V}{us:Zf}{i:Nat}{x:V},ba xs us->xs[i]?=some x->∃u,us[i]?=some u/\RelV x u
 |_,_,_,_,.nil,e=>by simp at e
 |_,_,0,_,.cons r _,e=>by simp at e;subst e;exact⟨_,rfl,r⟩
 |_,_,i+1,x,.cons _ t,e=>by
  obtain⟨u,h1,h2⟩:=ba.get (i:=i) (x:=x) t (by simpa using e);exact⟨u,by simpa using h1,h2⟩
theorem ba.set{x:V}{u:Value}(r:RelV x u):∀{xs:List V}{us:Zf}(i:Nat),ba xs us->ba (xs.set i x) (us.set i u)
 |_,_,_,.nil=>.nil
 |_,_,0,.cons _ t=>.cons r t
 |_,_,i+1,.cons q t=>.cons q (ba.set r i t)
theorem ba.append:∀{xs ys:List V}{us ws:Zf},ba xs us->ba ys ws->ba (xs++ys) (us++ws)
 |_,_,_,_,.nil,s=>s
 |_,_,_,_,.cons r t,s=>.cons r (ba.append t s)
theorem ba.take:∀{xs:List V}{us:Zf}(n:Nat),ba xs us->ba (xs.take n) (us.take n)
 |_,_,0,_=>.nil
 |_,_,_+1,.nil=>.nil
 |_,_,n+1,.cons r t=>.cons r (ba.take n t)
theorem ba.drop:∀{xs:List V}{us:Zf}(n:Nat),ba xs us->ba (xs.drop n) (us.drop n)
 |_,_,0,r=>r
 |_,_,_+1,.nil=>.nil
 |_,_,n+1,.cons _ t=>ba.drop n t
def kf:Option V->Option Value->Prop
 |some v,some u=>RelV v u
 |none,none=>True
 |_,_=>False
def KV{κ:Type}:List (κ×V)->List (κ×Value)->Prop:=Paired fun(p:κ×V) (q:κ×Value)=>p.1=q.1/\RelV p.2 q.2
def kV:em->V
 |.inl i=>.int i
 |.inr x=>.str x
def FJ:m8->V
 |none=>.non
 |some k=>kV k
inductive HO where
 |lst (xs:List V)
 |tup (xs:List V)
 |dK (kvs:List (em×V))|dT (kvs:List (TK×V))
 |set (S:Int->Bool) (n:Nat)
 |ins (C dx:Addr) (fs:List (Str×V))
 |own (x:Addr)
 |xd (fs:List (Str×V))
 |met (f x:Addr)
 |rng (lo hi:Int)
 |frz (o:Obj) (u:HO)
 |tbl (ps:Array Value)
 |ext (φ:Heap->Prop)
abbrev Hp:=Addr->Option HO
mutual
def cC(H:Hp):TK->V->Prop
 |.k a,v=>v=FJ a
 |.t l,v=>∃b xs,v=.ref b/\H b=some (.tup xs)/\TKAts H l xs
def TKAts(H:Hp):List TK->List V->Prop
 |[],vs=>vs=[]
 |k::r,vs=>∃v us,vs=v::us/\cC H k v/\TKAts H r us
end
def gj(K:Za)(H:Hp)(a:Addr)(xs:List V):Prop :=
 H a=some (.tup xs)∨∃(o:Obj) (its:Array Value) (n:Nat),K.lookup a=some o/\o.cls=.type "tuple"/\o.data=.seq its n/\its.size<=aj/\ba xs its.toList
theorem gj.keeps{K:Za}{H H':Hp}{a:Addr}{xs:List V}(h:gj K H a xs)(ht:∀b xs,H b=some (.tup xs)->H' b=some (.tup xs)):gj K H' a xs:=h.imp (ht a xs) id
mutual
def p7(K:Za)(H:Hp):TK->V->Prop
 |.k a,v=>v=FJ a
 |.t l,v=>∃b xs,v=.ref b/\gj K H b xs/\TKCs K H l xs
def TKCs(K:Za)(H:Hp):List TK->List V->Prop
 |[],vs=>vs=[]
 |k::r,vs=>∃v us,vs=v::us/\p7 K H k v/\TKCs K H r us
end
theorem p7.keeps{K:Za}{H H':Hp}(ht:∀b xs,H b=some (.tup xs)->H' b=some (.tup xs)):∀(d:Nat) {k:TK}{v:V},k.depth<=d->p7 K H k v->p7 K H' k v:=by
 have key:∀(d:Nat) (ih:∀{k:TK}{v:V},k.depth<=d->p7 K H k v->p7 K H' k v) (xs:List TK) (vs:List V),TK.depths xs<=d->TKCs K H xs vs->TKCs K H' xs vs:=by
  intro d ih xs
  induction xs with
  |nil=>intro vs _ hx;exact hx
  |cons x xs ihl =>
   intro vs hd hx;obtain⟨v,us,rfl,hx1,hx2⟩:=hx;have hd':max x.depth (TK.depths xs)<=d:=hd;exact⟨v,us,rfl,ih (by omega) hx1,ihl us (by omega) hx2⟩
 intro d
 induction d with
 |zero =>
  intro k v hd hx;cases k with
  |t l=>exact absurd hd (by show ¬(TK.depths l+1<=0);omega)
  |k a=>exact hx
 |succ d ih =>
  intro k v hd hx;cases k with
  |k a=>exact hx
  |t l =>
   obtain⟨b,xs,rfl,hb,hi⟩:=hx;exact⟨b,xs,rfl,hb.keeps ht,key d (fun h1=>ih h1) l xs (by have:TK.depths l+1<=d+1:=hd;omega) hi⟩
theorem cC.c{K:Za}{H:Hp}:∀(d:Nat) {k:TK}{v:V},k.depth<=d->cC H k v->p7 K H k v:=by
 have key:∀(d:Nat) (ih:∀{k:TK}{v:V},k.depth<=d->cC H k v->p7 K H k v) (xs:List TK) (vs:List V),TK.depths xs<=d->TKAts H xs vs->TKCs K H xs vs:=by
  intro d ih xs
  induction xs with
  |nil=>intro vs _ hx;exact hx
  |cons x xs ihl =>
   intro vs hd hx;obtain⟨v,us,rfl,hx1,hx2⟩:=hx;have hd':max x.depth (TK.depths xs)<=d:=hd;exact⟨v,us,rfl,ih (by omega) hx1,ihl us (by omega) hx2⟩
 intro d
 induction d with
 |zero =>
  intro k v hd hx;cases k with
  |t l=>exact absurd hd (by show ¬(TK.depths l+1<=0);omega)
  |k a=>exact hx
 |succ d ih =>
  intro k v hd hx;cases k with
  |k a=>exact hx
  |t l =>
   obtain⟨b,xs,rfl,hb,hi⟩:=hx;exact⟨b,xs,rfl,.inl hb,key d (fun h1=>ih h1) l xs (by have:TK.depths l+1<=d+1:=hd;omega) hi⟩
def upd(H:Hp)(a:Addr)(o:HO):Hp:=fun b=>if b=a then some o else H b
theorem aa{H:Hp}{a:Addr}{o:HO}:upd H a o a=some o:=by unfold upd;rw[if_pos rfl]
theorem ai{H:Hp}{a b:Addr}{o:HO}(h:b≠a):upd H a o b=H b:=by unfold upd;rw[if_neg h]
theorem qA{H:Hp}{a:Addr}{o u:HO}:upd (upd H a o) a u=upd H a u:=by
 funext b;unfold upd;split<;>rfl
theorem Dm{H:Hp}{a b:Addr}{o u:HO}(h:H a=some o)(h':H b=some u)(d:o≠u):a≠b:=by
 intro e;subst e;rw[h]at h';exact d (eD h')
theorem ae{H:Hp}{a b:Addr}{o:HO}(h:H a=some o)(h':H b=none):a≠b:=by
 intro e;subst e;rw[h]at h';cases h'
section
variable(P:bM)(w:World)(K:Za)
def ca(H:Hp)(h:Heap)(a:Addr):HO->Prop
 |.lst xs=>xs.length<=aj/\∃(its:Zf) (n:Nat),ba xs its/\h.get? a=some { cls:=.type "list",data:=.seq its.toArray n }
 |.tup xs=>xs.length<=aj/\∃its:List Value,ba xs its/\IsTup h a its.toArray
 |.dK kvs=>kvs.length<=aj/\(a==g6)=false/\∃vs,KV kvs vs/\h.DictOf (cb P w) a vs
 |.dT kvs=>kvs.length<=aj/\(a==g6)=false/\∃xs:List (TK×Addr×Value),
   Paired (fun(p:TK×V) (q:TK×Addr×Value)=>p.1=q.1/\p7 K H p.1 (.ref q.2.1)/\p.1.depth<=8/\RelV p.2 q.2.2) kvs xs /\
   ∃o es ep,h.get? a=some o/\o.ExactDict/\o.data=.dict es ep/\es.toList=xs.map (entryOfKey (dL P w))/\(xs.map (·.1)).Nodup
 |.set S n=>h.SetOf (intKind P w) a S n
 |.ins C dx fs=>H dx=some (.own a)/\fs.length<=1000/\dx≠a/\h.get? a=some (pP C dx) /\
   ∃mA,h.Ns1 dx mA/\(∀f,kf (fs.lookup f) (mA f))/\PySem.Within mA (fs.map (·.1))
 |.own _=>∃o,h.get? a=some o
 |.xd fs=>∃mA,h.Ns1 a mA/\∀f,kf (fs.lookup f) (mA f)
 |.rng lo hi=>∃t u v,h.get? a=some { cls:=.type "range",data:=.fields #[.int lo t,.int hi u,.int 1 v] }
 |.frz o u=>h.get? a=some o/\ca H h a u
 |.tbl ps=>h.get? a=some { cls:=.none,data:=.fields ps }
 |.met f x=>h.get? a=some (PySem.W.methodObj (.ref f) (.ref x))
 |.ext φ=>φ h/\(∃o,h.get? a=some o)/\∀h1 h2:Heap,φ h1->(∀o,h1.get? a=some o->h2.get? a=some o)->φ h2
def lI(H:Hp)(h:Heap):Prop:=∀a o,H a=some o->ca P w K H h a o
end
section
variable{P:bM}{w:World}{K:Za}{H H':Hp}{h h':Heap}{a:Addr}{o:HO}
theorem ca.lt(x:ca P w K H h a o):a<h.objs.size:=by
 cases o with
 |lst xs=>obtain⟨_,_,_,_,e⟩:=x;exact aY e
 |tup xs=>obtain⟨_,_,_,p⟩:=x;exact p.lt
 |dK kvs=>obtain⟨_,_,_,_,o,_,_,e,_⟩:=x;exact aY e
 |dT kvs=>obtain⟨_,_,_,_,o,_,_,e,_⟩:=x;exact aY e
 |set S n=>obtain⟨o,_,_,_,e,_⟩:=x;exact aY e
 |ins C dx fs=>obtain⟨_,_,_,e,_⟩:=x;exact aY e
 |own y=>obtain⟨_,e⟩:=x;exact aY e
 |xd fs=>obtain⟨_,⟨_,_,_,e,_⟩,_⟩:=x;exact aY e
 |rng lo hi=>obtain⟨_,_,_,e⟩:=x;exact aY e
 |frz ob u=>obtain⟨e,_⟩:=x;exact aY e
 |tbl ps=>exact aY (show h.get? a=some _ from x)
 |met f y=>exact aY (show h.get? a=some _ from x)
 |ext φ=>obtain⟨_,⟨_,e⟩,_⟩:=x;exact aY e
theorem Paired.mapP{α β:Type}{F G:α->β->Prop}:∀{l₁:List α}{l₂:List β},Paired F l₁ l₂->(∀a b,F a b->G a b)->Paired G l₁ l₂
 |_,_,.nil,_=>.nil
 |_,_,.cons r t,f=>.cons (f _ _ r) (Paired.mapP t f)
theorem ca.stay(x:ca P w K H h a o)(k:∀b u,(b=a∨H b=some (.own a))->h.get? b=some u->h'.get? b=some u)
  (ho:∀b,H b=some (.own a)->H' b=some (.own a)) (ht:∀b xs,H b=some (.tup xs)->H' b=some (.tup xs)):ca P w K H' h' a o:=by
 induction o with
 |lst xs=>obtain⟨z,its,n,r,e⟩:=x;exact⟨z,its,n,r,k _ _ (.inl rfl) e⟩
 |tup xs=>obtain⟨z,its,r,ob,e,c⟩:=x;exact⟨z,its,r,ob,k _ _ (.inl rfl) e,c⟩
 |dK kvs=>obtain⟨z,y,vs,r,ob,es,ep,e,c⟩:=x;exact⟨z,y,vs,r,ob,es,ep,k _ _ (.inl rfl) e,c⟩
 |dT kvs =>
  obtain⟨z,y,xs,r,ob,es,ep,e,c⟩:=x;exact⟨z,y,xs,Paired.mapP r fun p q z=>⟨z.1,p7.keeps ht 8 z.2.2.1 z.2.1,z.2.2⟩,ob,es,ep,k _ _ (.inl rfl) e,c⟩
 |set S n=>obtain⟨ob,es,ep,t,e,c⟩:=x;exact⟨ob,es,ep,t,k _ _ (.inl rfl) e,c⟩
 |ins C dx fs =>
  obtain⟨d,z,ne,e,mA,⟨od,es,ep,e2,c⟩,r⟩:=x;exact⟨ho _ d,z,ne,k _ _ (.inl rfl) e,mA,⟨od,es,ep,k _ _ (.inr d) e2,c⟩,r⟩
 |own y=>obtain⟨ob,e⟩:=x;exact⟨ob,k _ _ (.inl rfl) e⟩
 |xd fs=>obtain⟨mA,⟨od,es,ep,e,c⟩,r⟩:=x;exact⟨mA,⟨od,es,ep,k _ _ (.inl rfl) e,c⟩,r⟩
 |rng lo hi=>obtain⟨t,u,v,e⟩:=x;exact⟨t,u,v,k _ _ (.inl rfl) e⟩
 |frz ob u ih=>obtain⟨e,q⟩:=x;exact⟨k _ _ (.inl rfl) e,ih q⟩
 |tbl ps =>
  have e:h.get? a=some { cls:=.none,data:=.fields ps }:=x;show h'.get? a=some { cls:=.none,data:=.fields ps };exact k a _ (.inl rfl) e
 |met f y =>
  have e:h.get? a=some (PySem.W.methodObj (.ref f) (.ref y)):=x;show h'.get? a=some (PySem.W.methodObj (.ref f) (.ref y));exact k a _ (.inl rfl) e
 |ext φ=>obtain⟨p,⟨o,e⟩,st⟩:=x;exact⟨st _ _ p fun o q=>k _ _ (.inl rfl) q,⟨o,k _ _ (.inl rfl) e⟩,st⟩
theorem lI.lt(x:lI P w K H h)(e:H a=some o):a<h.objs.size:=(x a o e).lt
theorem lI.fresh(x:lI P w K H h)(e:h.objs.size<=a):H a=none:=by
 cases q:H a with
 |none=>rfl
 |some u=>exact absurd (ij (x.lt q) e) (pO _)
theorem lI.kept(x:lI P w K H h)(k:∀b u,h.get? b=some u->h'.get? b=some u):lI P w K H h':=fun a o e =>
 (x a o e).stay (fun b u _ q=>k b u q) (fun _ q=>q) fun _ _ q=>q
theorem lI.laid(x:lI P w K H h)(k:∀b u,h.get? b=some u->h'.get? b=some u)(hp:h.objs.size<=a)(new:ca P w K (upd H a o) h' a o):lI P w K (upd H a o) h':=fun b u e=>by
 have hn:=x.fresh hp;by_cases hb:b=a
 ·subst hb;rw[aa]at e;cases e;exact new
 ·rw[ai hb]at e;exact(x b u e).stay (fun c v _ q=>k c v q) (fun c q=>by rw[ai (ae q hn)];exact q) fun c xs q=>by rw[ai (ae q hn)];exact q
end
def Rd(H:Hp)(a:Addr)(u:HO):Prop:=H a=some u∨∃o,H a=some (.frz o u)
theorem Rd.ok{P:bM}{w:World}{K:Za}{H:Hp}{h:Heap}{a:Addr}{u:HO}(r:Rd H a u)(x:lI P w K H h):ca P w K H h a u:=by
 rcases r with r|⟨o,r⟩
 ·exact x a u r
 ·obtain⟨_,q⟩:=x a _ r;exact q
def G5:Option HO->Prop
 |some (.lst _)=>True
 |some (.dK _)=>True
 |some (.dT _)=>True
 |some (.set _ _)=>True
 |some (.ins _ _ _)=>True
 |some (.ext _)=>True
 |_=>False
section
variable{P:bM}{w:World}{K:Za}{H:Hp}{h h':Heap}{x e:Addr}{o':HO}
theorem lI.write(ok:lI P w K H h)(mu:G5 (H x))(he:e=x∨H e=some (.own x))(k:∀b u,b≠e->h.get? b=some u->h'.get? b=some u)(heo:∃u,h'.get? e=some u)
  (new:ca P w K (upd H x o') h' x o'):lI P w K (upd H x o') h':=fun b u q=>by
 have nown:∀c y,H c=some (.own y)->c≠x:=fun c y r z=>by subst z;rw[r]at mu;exact mu
 have ntup:∀c xs,H c=some (.tup xs)->c≠x:=fun c xs r z=>by subst z;rw[r]at mu;exact mu
 by_cases hb:b=x
 ·subst hb;rw[aa]at q;cases q;exact new
 ·rw[ai hb]at q;by_cases hbe:b=e
  ·have q':H b=some (.own x):=by
    rcases he with z|z
    ·exact absurd (hbe.trans z) hb
    ·rw[hbe];exact z
   rw[q]at q';cases q';obtain⟨v,hv⟩:=heo;exact⟨v,by rw[hbe];exact hv⟩
  ·refine(ok b u q).stay (fun c v hc r=>k c v ?_ r) (fun c r=>by rw[ai (nown c b r)];exact r) fun c xs r=>by rw[ai (ntup c xs r)];exact r
   rcases hc with rfl|hc
   ·exact hbe
   ·rintro rfl;rcases he with z|z
    ·exact nown c b hc z
    ·rw[hc]at z;cases z;exact hb rfl
end
structure Un(fs ex:Ze)(H H':Hp)(h h':Heap):Prop where
 keep:∀b o,h.get? b=some o->H b=none->b∉fs->b∉ex->h'.get? b=some o
 slot:∀b o,h.get? b=some o->H b=none->b∈fs->b∉ex->∃sl,h'.get? b=some { o with slots:=sl }
 free:∀b o,h.get? b=some o->H b=none->b∉ex->H' b=none
 there:∀b o,h.get? b=some o->b∉ex->∃o',h'.get? b=some o'
 tups:∀b xs,H b=some (.tup xs)->H' b=some (.tup xs)
 frzs:∀b o u,H b=some (.frz o u)->H' b=some (.frz o u)
 tbls:∀b ps,H b=some (.tbl ps)->∃more,H' b=some (.tbl (ps++more))
section
variable{fs fs' ex ex':Ze}{H H1 H2:Hp}{h h1 h2 h':Heap}{a x e:Addr}{o:HO}
theorem Un.any(u:Un fs ex H H1 h h1){b:Addr}{ob:Obj}(q:h.get? b=some ob)(n:H b=none)(hx:b∉ex):∃sl,h1.get? b=some { ob with slots:=sl }:=by
 by_cases hb:b∈fs
 ·exact u.slot b ob q n hb hx
 ·exact⟨ob.slots,u.keep b ob q n hb hx⟩
theorem Un.kept(k:∀b u,h.get? b=some u->h'.get? b=some u):Un fs ex H H h h' :=
 ⟨fun b ob q _ _ _=>k b ob q,fun b ob q _ _ _=>⟨ob.slots,k b ob q⟩,fun _ _ _ n _=>n,fun b ob q _=>⟨ob,k b ob q⟩,fun _ _ q=>q,fun _ _ _ q=>q,fun _ ps q=>⟨#[],by rw[q];simp⟩⟩
theorem Un.refl:Un fs ex H H h h:=Un.kept fun _ _ q=>q
theorem Un.laid(k:∀b u,h.get? b=some u->h'.get? b=some u)(hp:h.objs.size<=a)(hn:H a=none):Un fs ex H (upd H a o) h h' where
 keep:=fun b u q _ _ _=>k b u q
 slot:=fun b u q _ _ _=>⟨u.slots,k b u q⟩
 free:=fun b u q n _=>by rw[ai (cE (ij (aY q) hp))];exact n
 there:=fun b u q _=>⟨u,k b u q⟩
 tups:=fun b xs q=>by rw[ai (ae q hn)];exact q
 frzs:=fun b u xs q=>by rw[ai (ae q hn)];exact q
 tbls:=fun b ps q=>⟨#[],by rw[ai (ae q hn),q];simp⟩
theorem Un.write(mu:G5 (H x))(he:e=x∨H e=some (.own x))(k:∀b u,b≠e->h.get? b=some u->h'.get? b=some u)(heo:∃u,h'.get? e=some u):Un fs ex H (upd H x o) h h':=by
 have hx:∀b,H b=none->b≠x:=fun b n z=>by subst z;rw[n]at mu;exact mu
 have hb:∀b,H b=none->b≠e:=fun b n z=>by
  subst z;rcases he with r|r
  ·exact hx b n r
  ·rw[n]at r;cases r
 have hm:∀b u,H b=some u->¬G5 (some u)->b≠x:=fun b u q nm z=>by subst z;rw[q]at mu;exact nm mu
 refine⟨fun b u q n _ _=>k b u (hb b n) q,fun b u q n _ _=>⟨u.slots,k b u (hb b n) q⟩,fun b u q n _=>by rw[ai (hx b n)];exact n,fun b u q _=>?_,
  fun b xs q=>by rw[ai (hm b _ q fun z=>z)];exact q,fun b u xs q=>by rw[ai (hm b _ q fun z=>z)];exact q,fun b ps q=>⟨#[],by rw[ai (hm b _ q fun z=>z),q];simp⟩⟩
 by_cases hbe:b=e
 ·subst hbe;exact heo
 ·exact⟨u,k b u hbe q⟩
end
def Hk(h:Heap)(H:Hp):List Addr:=(lZ h.objs.size).filter fun a=>(H a).isSome
def wo(h:Heap)(H:Hp):Heap:=PySem.W.hideAll h (Hk h H)
theorem BP(h:Heap)(H:Hp):(wo h H).objs.size=h.objs.size:=PySem.W.hideAll_size _ _
theorem DA{h:Heap}{H:Hp}{b:Addr}{o:Obj}(e:h.get? b=some o)(n:H b=none):(wo h H).get? b=some o :=
 PySem.W.hideAll_get _ e fun hm=>by
  have q:(H b).isSome=true:=(fg.mp hm).2;rw[n]at q;simp at q
theorem EZ{h:Heap}{H:Hp}{b:Addr}{o:Obj}(e:(wo h H).get? b=some o):h.get? b=some o/\H b=none:=by
 have e':h.get? b=some o:=PySem.W.of_hideAll (Hk h H) e;refine⟨e',?_⟩;cases q:H b with
 |none=>rfl
 |some x =>
  have hm:b∈Hk h H:=fg.mpr ⟨List.mem_range.mpr (aY e'),by simp[q]⟩;have z:(wo h H).get? b=none:=PySem.W.hideAll_none (Hk h H) hm;rw[z]at e;cases e
end L2
namespace L2
open PySem PySem.Spec PyProof.Rows
structure Mod(K:Za)(mg:Str->Option Value)(base:Heap):Prop where
 kin:K.In base
 glob:base.Ns bG mg
 blt:∃mb,base.Ns builtinsNs mb/\∀x:Str,x≠"__name__"->mb x=i7 x
 nolimit:base.NoLimit
structure Cx where
 prog:bM
 w:World
 K:Za
 mg:Str->Option Value
 base:Heap
 A:Around
 N:List Str
 s₀:Shared
 H₀:Hp
 env:Env
 outer:List Env
 stack:List Env
 ex:List Addr
 fn:Str->Bool
 calm:Bool
 pn:List (Addr×Obj)
 xe:Value->Shared->Prop
def Cj(l:List Env):List Addr:=l.filterMap (·.frame)
abbrev Cx.fs(X:Cx):List Addr:=Cj X.outer
def Vis(sc:Scope)(x:Str):Prop:=sc.names.lookup x=some .local∨sc.names.lookup x=some .cell∨sc.names.lookup x=some .free
def Loc(sc:Scope)(x:Str):Prop:=sc.names.lookup x=some .local∨sc.names.lookup x=some .cell
def Look(env:Env)(h:Heap)(m:Str->Option Value)(x:Str)(u:Value):Prop :=
 (env.kindOf x=some .local/\m x=some u)∨((env.kindOf x=some .cell∨env.kindOf x=some .free)/\∃c,env.cells.lookup x=some c/\h.IsCell c (some u))
structure Cx.Ok(X:Cx):Prop where
 mod:Mod X.K X.mg X.base
 kind:X.env.scope.kind=.function
 glob:X.env.globals=bG
 blt:X.env.builtins=builtinsNs
 above:X.s₀.heap.objs.size<=X.env.locals
 inj:∀x y c,X.env.cells.lookup x=some c->X.env.cells.lookup y=some c->x=y
 has:∀x,(X.env.kindOf x=some .cell∨X.env.kindOf x=some .free)->∃c,X.env.cells.lookup x=some c
 cab:∀x c,X.fn x=true->X.env.cells.lookup x=some c->X.s₀.heap.objs.size<=c
 hd:X.calm=true->X.A.handled=none
 frames:X.A.frames=some X.stack
 stk:X.stack=X.outer∨(X.stack=X.env::X.outer/\X.env.frame=some X.env.locals)
 exf:∀b∈X.ex,b≠X.env.locals/\∀x c,X.env.cells.lookup x=some c->c≠b
 bs:∀b o,X.base.get? b=some o->X.s₀.heap.get? b=some o/\X.H₀ b=none
 bsz:X.base.objs.size<=X.s₀.heap.objs.size
 noex:∀b o,X.base.get? b=some o->b∉X.ex
 exfs:∀b∈X.ex,b∉X.fs
 funs:X.s₀.heap.FunFrames X.base X.outer
 frf:∀b∈X.fs,X.H₀ b=none
structure Inv(X:Cx)(J2:Zd)(σ:List (Option V))(H:Hp)(s:Shared):Prop where
 ok:X.Ok
 os:s.os=X.s₀.os
 bare:nr s.gens
 base:Un X.fs X.ex X.H₀ H X.s₀.heap s.heap
 loc:∃m,s.heap.Ns X.env.locals m/\∀(i:Nat) (x:Str) (v:V),X.N[i]?=some x->σ[i]?=some (some v)->Vis X.env.scope x->∃u,RelV v u/\Look X.env s.heap m x u
 cell:∀x c,X.env.cells.lookup x=some c->∃v,s.heap.IsCell c v
 free:H X.env.locals=none
 freeC:∀x c,X.env.cells.lookup x=some c->H c=none
 pin:∀p∈X.pn++J2,s.heap.get? p.1=some p.2/\H p.1=none/\p.1≠X.env.locals/\p.1∉X.fs/\∀v,p.2.data≠.cell v
 hok:lI X.prog X.w X.K H s.heap
 len:σ.length=X.N.length
section
variable{X:Cx}{J2:Zd}{σ:List (Option V)}{H H':Hp}{s:Shared}{h':Heap}
theorem Cx.Ok.nofr(ok:X.Ok){b:Addr}{o:Obj}(e:X.base.get? b=some o):b∉X.fs:=fun hb=>by
 have:=(ok.funs.mem hb).1;rw[e]at this;cases this
theorem Inv.bs(I:Inv X J2 σ H s):∀b o,X.base.get? b=some o->s.heap.get? b=some o/\H b=none:=fun b o e =>
 ⟨I.base.keep b o (I.ok.bs b o e).1 (I.ok.bs b o e).2 (I.ok.nofr e) (I.ok.noex b o e),I.base.free b o (I.ok.bs b o e).1 (I.ok.bs b o e).2 (I.ok.noex b o e)⟩
theorem Inv.bk(I:Inv X J2 σ H s):∀b o,X.base.get? b=some o->s.heap.get? b=some o:=fun b o e=>(I.bs b o e).1
theorem Inv.mod(I:Inv X J2 σ H s):Mod X.K X.mg X.base:=I.ok.mod
theorem Inv.kIn(I:Inv X J2 σ H s):X.K.In s.heap:=I.ok.mod.kin.keeps I.bk
theorem Inv.fr(I:Inv X J2 σ H s):∃m,Fr X.base X.env.locals s.heap m :=
 let⟨m,hn,_⟩:=I.loc
 ⟨m,hn,I.bk,aD I.ok.bsz I.ok.above⟩
theorem Inv.lt(I:Inv X J2 σ H s):X.env.locals<s.heap.objs.size:=let⟨_,hn,_⟩:=I.loc;hn.lt
theorem Inv.sz(I:Inv X J2 σ H s):X.s₀.heap.objs.size<=s.heap.objs.size:=aD I.ok.above (cZ I.lt)
theorem Inv.nofs(I:Inv X J2 σ H s){a:Addr}(h:s.heap.objs.size<=a):a∉X.fs:=fun hb=>by
 obtain⟨_,o,ho,_⟩:=I.ok.funs.mem hb;exact absurd (ij (aY ho) (aD I.sz h)) (pO _)
theorem Inv.cne(I:Inv X J2 σ H s):∀x c,X.env.cells.lookup x=some c->c≠X.env.locals:=fun x c e z=>by
 obtain⟨v,o,ho,hd⟩:=I.cell x c e;obtain⟨m,⟨o',es,ep,ho',hd',_⟩,_⟩:=I.loc;rw[z,ho']at ho;cases ho;rw[hd']at hd;cases hd
theorem Inv.funs(I:Inv X J2 σ H s):s.heap.FunFrames X.base X.outer:=by
 have all:∀(l:List Env),(∀b∈Cj l,b∈X.fs)->X.s₀.heap.FunFrames X.base l->s.heap.FunFrames X.base l:=by
  intro l
  induction l with
  |nil=>intro _ _;trivial
  |cons env r ih =>
   intro hs hl;obtain⟨hk,⟨L,o,hf,hn,ho,hd⟩,hr⟩:=hl;have hL:L∈X.fs:=hs L (by unfold Cj;rw[List.filterMap_cons,hf];exact fx);obtain⟨sl,e⟩:=I.base.slot L o ho (I.ok.frf L hL) hL fun z=>I.ok.exfs L z hL;exact⟨hk,⟨L,_,hf,hn,e,hd⟩,ih (fun b hb=>hs b (by unfold Cj;rw[List.filterMap_cons,hf];exact fq _ hb)) hr⟩
 exact all X.outer (fun _ hb=>hb) I.ok.funs
theorem Inv.stack(I:Inv X J2 σ H s):s.heap.FunFrames X.base X.stack:=by
 rcases I.ok.stk with e|⟨e,hf⟩
 ·rw[e];exact I.funs
 ·rw[e];obtain⟨m,hn,_⟩:=I.loc;refine .cons (by rw[I.ok.kind];decide) hf hn ?_ I.funs;exact Heap.get?_none_of_le (aD I.ok.bsz I.ok.above)
theorem Inv.stkSub(I:Inv X J2 σ H s):∀b∈Cj X.stack,b∈X.env.locals::X.fs:=fun b hb=>by
 rcases I.ok.stk with e|⟨e,hf⟩
 ·rw[e]at hb;exact fq _ hb
 ·rw[e]at hb;unfold Cj at hb;rw[List.filterMap_cons,hf]at hb;exact hb
theorem Inv.stkFree(I:Inv X J2 σ H s):∀b∈Cj X.stack,H b=none:=fun b hb=>by
 rcases cA.mp (I.stkSub b hb)with e|hb
 ·rw[e];exact I.free
 ·obtain⟨_,o,ho,_⟩:=I.ok.funs.mem hb;exact I.base.free b o ho (I.ok.frf b hb) fun z=>I.ok.exfs b z hb
theorem Inv.step{g':Array GenState}{t':Nat}{d':Drawn}{ch:Ze}(I:Inv X J2 σ H s)
  (hch:∀b∈ch,(b∈X.ex∨X.s₀.heap.objs.size<=b)/\b≠X.env.locals/\(∀x c,X.env.cells.lookup x=some c->c≠b)/\∀p∈X.pn++J2,p.1≠b)
  (keep:∀b o,b≠X.env.locals->b∉X.fs->b∉ch->s.heap.get? b=some o->H b=none->h'.get? b=some o)
  (slot:∀b o,b≠X.env.locals->b∈X.fs->b∉ch->s.heap.get? b=some o->H b=none->∃sl,h'.get? b=some { o with slots:=sl }) (free:∀b o,b∉ch->s.heap.get? b=some o->H b=none->H' b=none)
  (there:∀b o,b∉ch->s.heap.get? b=some o->∃o',h'.get? b=some o')
  (tups:∀b xs,H b=some (.tup xs)->H' b=some (.tup xs)) (frzs:∀b o u,H b=some (.frz o u)->H' b=some (.frz o u)) (tbls:∀b ps,H b=some (.tbl ps)->∃more,H' b=some (.tbl (ps++more)))
  (ns:∀m,s.heap.Ns X.env.locals m->h'.Ns X.env.locals m) (hok:lI X.prog X.w X.K H' h') (hg:nr g') :
  Inv X J2 σ H' { s with heap:=h',gens:=g',drawn:=d',toks:=t' }:=by
 have neL:∀b o,X.s₀.heap.get? b=some o->b≠X.env.locals:=fun b o e=>cE (ij (aY e) I.ok.above);have neC:∀b o,X.s₀.heap.get? b=some o->b∉X.ex->b∉ch:=fun b o e hx hb=>by
  rcases(hch b hb).1 with z|z
  ·exact hx z
  ·exact absurd (ij (aY e) z) (pO _)
 have cellK:∀x c,X.env.cells.lookup x=some c->∀v,s.heap.IsCell c v->h'.IsCell c v:=fun x c e v ⟨o,ho,hd⟩=>by
  have nch:c∉ch:=fun z=>(hch c z).2.2.1 x c e rfl;by_cases hc:c∈X.fs
  ·obtain⟨sl,q⟩:=slot c o (I.cne x c e) hc nch ho (I.freeC x c e);exact⟨_,q,hd⟩
  ·exact⟨o,keep c o (I.cne x c e) hc nch ho (I.freeC x c e),hd⟩
 refine⟨I.ok,I.os,hg,⟨fun b o e n hb hx=>?_,fun b o e n hb hx=>?_,fun b o e n hx=>?_,fun b o e hx=>?_,fun b xs e=>tups b xs (I.base.tups b xs e),fun b o xs e=>frzs b o xs (I.base.frzs b o xs e),fun b ps e=>?_⟩,?_,fun x c e=>?_,?_,fun x c e=>?_,fun p hp=>?_,hok,I.len⟩
 ·exact keep b o (neL b o e) hb (neC b o e hx) (I.base.keep b o e n hb hx) (I.base.free b o e n hx)
 ·obtain⟨sl,e1⟩:=I.base.slot b o e n hb hx;obtain⟨sl',e2⟩:=slot b _ (neL b o e) hb (neC b o e hx) e1 (I.base.free b o e n hx);exact⟨sl',e2⟩
 ·obtain⟨o',e1⟩:=I.base.there b o e hx;exact free b o' (neC b o e hx) e1 (I.base.free b o e n hx)
 ·obtain⟨o',e1⟩:=I.base.there b o e hx;exact there b o' (neC b o e hx) e1
 ·obtain⟨m1,e1⟩:=I.base.tbls b ps e;obtain⟨m2,e2⟩:=tbls b _ e1;exact⟨m1++m2,by rw[e2,Array.append_assoc]⟩
 ·obtain⟨m,hn,hl⟩:=I.loc;refine⟨m,ns m hn,fun i x v e1 e2 e3=>?_⟩;obtain⟨u,r,l⟩:=hl i x v e1 e2 e3;refine⟨u,r,?_⟩;rcases l with l|⟨k,c,e,z⟩
  ·exact .inl l
  ·exact .inr ⟨k,c,e,cellK x c e _ z⟩
 ·obtain⟨v,z⟩:=I.cell x c e;exact⟨v,cellK x c e v z⟩
 ·obtain⟨m,⟨o,_,_,ho,_⟩,_⟩:=I.loc;exact free _ o (fun z=>(hch _ z).2.1 rfl) ho I.free
 ·obtain⟨v,o,ho,hd⟩:=I.cell x c e;exact free c o (fun z=>(hch c z).2.2.1 x c e rfl) ho (I.freeC x c e)
 ·obtain⟨e,n,ne,nf,d⟩:=I.pin p hp;have nch:p.1∉ch:=fun z=>(hch p.1 z).2.2.2 p hp rfl;exact⟨keep p.1 p.2 ne nf nch e n,free p.1 p.2 nch e n,ne,nf,d⟩
theorem Inv.un{t':Nat}(I:Inv X J2 σ H s)(u:Un X.fs [] H H' s.heap h')(hok:lI X.prog X.w X.K H' h'):Inv X J2 σ H' { s with heap:=h',toks:=t' }:=by
 obtain⟨m,⟨o,es,ep,ho,r⟩,_⟩:=id I.loc;obtain⟨sl,hL⟩:=u.any ho I.free (by simp);exact I.step (g':=s.gens) (d':=s.drawn) (ch:=[]) (fun _ z=>nomatch z) (fun b o _ hb _ e n=>u.keep b o e n hb (by simp)) (fun b o _ hb _ e n=>u.slot b o e n hb (by simp)) (fun b o _ e n=>u.free b o e n (by simp)) (fun b o _ e=>u.there b o e (by simp)) u.tups u.frzs u.tbls (fun m' hm=>by
  obtain⟨o',es',ep',ho',r'⟩:=hm;rw[ho]at ho';cases ho';exact⟨_,es',ep',hL,r'⟩) hok I.bare
theorem Inv.call{g':Array GenState}{t':Nat}{d':Drawn}{ch:Ze}(I:Inv X J2 σ H s)(u:Un (Cj X.stack) ch H H' s.heap h')(hok:lI X.prog X.w X.K H' h')(hg:nr g')
  (hch:∀b∈ch,(b∈X.ex∨X.s₀.heap.objs.size<=b)/\b≠X.env.locals/\(∀x c,X.env.cells.lookup x=some c->c≠b)/\∀p∈X.pn++J2,p.1≠b) :
  Inv X J2 σ H' { s with heap:=h',gens:=g',drawn:=d',toks:=t' }:=by
 obtain⟨m,⟨o,es,ep,ho,r⟩,_⟩:=id I.loc;obtain⟨sl,hL⟩:=u.any ho I.free fun z=>(hch _ z).2.1 rfl;exact I.step (ch:=ch) hch (fun b o hL hb hc e n=>u.keep b o e n (fun z=>(cA.mp (I.stkSub b z)).elim hL hb) hc) (fun b o _ _ hc e n=>u.any e n hc) (fun b o hc e n=>u.free b o e n hc) (fun b o hc e=>u.there b o e hc) u.tups u.frzs u.tbls (fun m' hm=>by
  obtain⟨o',es',ep',ho',r'⟩:=hm;rw[ho]at ho';cases ho';exact⟨_,es',ep',hL,r'⟩) hok hg
theorem Inv.turned{t':Nat}{it:Addr}(I:Inv X J2 σ H s)(k:∀b o,b≠it->s.heap.get? b=some o->h'.get? b=some o)(hn:H it=none)(hL:it≠X.env.locals)
  (h1:it∈X.ex∨X.s₀.heap.objs.size<=it) (h2:∀x c,X.env.cells.lookup x=some c->c≠it) (h3:∀p∈X.pn++J2,p.1≠it):Inv X J2 σ H { s with heap:=h',toks:=t' }:=by
 have nit:∀b u,H b=some u->b≠it:=fun b u e z=>by rw[z,hn]at e;cases e
 refine I.step (g':=s.gens) (d':=s.drawn) (ch:=[it]) (fun b hb=>?_) (fun b o _ _ hc e _=>k b o (fun z=>hc (by simp[z])) e) (fun b o _ _ hc e _=>⟨o.slots,k b o (fun z=>hc (by simp[z])) e⟩) (fun _ _ _ _ n=>n)
  (fun b o hc e=>⟨o,k b o (fun z=>hc (by simp[z])) e⟩) (fun _ _ e=>e) (fun _ _ _ e=>e) (fun b ps e=>⟨#[],by rw[e];simp⟩) (fun m hm=>?_) (fun b u e=>?_) I.bare
 ·have e:b=it:=by simpa using hb
  subst e;exact⟨h1,hL,h2,h3⟩
 ·obtain⟨o,es,ep,ho,r⟩:=hm;exact⟨o,es,ep,k _ o (ii hL) ho,r⟩
 ·refine(I.hok b u e).stay (fun c v hc q=>k c v ?_ q) (fun _ q=>q) fun _ _ q=>q;rcases hc with z|z
  ·rw[z];exact nit b u e
  ·exact nit c _ z
theorem Inv.tok(I:Inv X J2 σ H s)(t:Nat):Inv X J2 σ H { s with toks:=t }:=I.un (h':=s.heap) (t':=t) Un.refl I.hok
theorem Inv.kept{t':Nat}(I:Inv X J2 σ H s)(k:∀b u,s.heap.get? b=some u->h'.get? b=some u):Inv X J2 σ H { s with heap:=h',toks:=t' }:=I.un (Un.kept k) (I.hok.kept k)
theorem Inv.laid{a:Addr}{o:HO}{t':Nat}(I:Inv X J2 σ H s)(k:∀b u,s.heap.get? b=some u->h'.get? b=some u)(hp:s.heap.objs.size<=a)(new:ca X.prog X.w X.K (upd H a o) h' a o):
  Inv X J2 σ (upd H a o) { s with heap:=h',toks:=t' }:=I.un (Un.laid k hp (I.hok.fresh hp)) (I.hok.laid k hp new)
theorem Inv.write{x e:Addr}{o:HO}{t':Nat}(I:Inv X J2 σ H s)(mu:G5 (H x))(he:e=x∨H e=some (.own x))(k:∀b u,b≠e->s.heap.get? b=some u->h'.get? b=some u)(heo:∃u,h'.get? e=some u)
  (new:ca X.prog X.w X.K (upd H x o) h' x o):Inv X J2 σ (upd H x o) { s with heap:=h',toks:=t' }:=I.un (Un.write mu he k heo) (I.hok.write mu he k heo new)
theorem Inv.weak{σ':List (Option V)}(I:Inv X J2 σ H s)(hl:σ'.length=σ.length)(w:∀(i:Nat) v,σ'[i]?=some (some v)->σ[i]?=some (some v)):Inv X J2 σ' H s :=
 ⟨I.ok,I.os,I.bare,I.base,let⟨m,hn,hl'⟩:=I.loc;⟨m,hn,fun i x v e1 e2 e3=>hl' i x v e1 (w i v e2) e3⟩,I.cell,I.free,I.freeC,I.pin,I.hok,hl.trans I.len⟩
theorem Inv.pins_of{pins':Zd}(I:Inv X J2 σ H s)(h:∀p∈pins',s.heap.get? p.1=some p.2/\H p.1=none/\p.1≠X.env.locals/\p.1∉X.fs/\∀v,p.2.data≠.cell v):Inv X pins' σ H s :=
 ⟨I.ok,I.os,I.bare,I.base,I.loc,I.cell,I.free,I.freeC,fun p hp=>(bw.mp hp).elim (fun z=>I.pin p (dj _ z)) (h p),I.hok,I.len⟩
theorem xF{N:Zb}(hN:N.Nodup){i j:Nat}{x:Str}(a:N[i]?=some x)(b:N[j]?=some x):i=j:=by
 obtain⟨h1,e1⟩:=bP.mp a;obtain⟨h2,e2⟩:=bP.mp b;exact(List.getElem_inj hN).mp (e1.trans e2.symm)
theorem uu{M:Model}{A:Around}{E:Zc}{i:Nat}{x:Str}{v:V}{u:Value}{Q:Unit->Shared->Prop}(I:Inv X J2 σ H s)(hN:X.N.Nodup)(hi:X.N[i]?=some x)(hx:Loc X.env.scope x)(r:RelV v u)
  (h:∀s',Inv X J2 (σ.set i (some v)) H s'->(∃a,iE a s.heap s'.heap/\(a=X.env.locals∨X.env.cells.lookup x=some a))->Q () s') (hf:X.fn x=true∨X.env.scope.names.lookup x=some .local:=by first|exact .inl rfl|exact .inr rfl|assumption):wpAny M A (storeName X.env x u) Q E s:=by
 obtain⟨m,hn,hl⟩:=id I.loc;have hcls:(X.env.scope.kind==.class || (X.env.scope.kind==.module && X.env.locals != X.env.globals))=false:=by rw[I.ok.kind];rfl
 have hiσ:i<σ.length:=by rw[I.len];exact(bP.mp hi).1
 have cne:=I.cne;have tracked:∀{a:Addr}{h':Heap},(∃o,s.heap.get? a=some o/\H a=none)->iE a s.heap h'->lI X.prog X.w X.K H h':=fun{a h'} ha hs b ob e=>by
  obtain⟨_,_,hfree⟩:=ha;refine(I.hok b ob e).stay (fun c w' hc q=>(hs.2 c ?_).trans q) (fun _ q=>q) fun _ _ q=>q;rintro rfl;rcases hc with rfl|hc
  ·rw[hfree]at e;cases e
  ·rw[hfree]at hc;cases hc
 rcases hx with hk|hk
 ·refine wpAny_storeName_local hk hn (fun h' hn' hs=>?_) hcls;obtain⟨oL,_,_,hoL,_⟩:=id hn;refine h _ ⟨I.ok,I.os,I.bare,⟨fun b o e n hb hx=>?_,fun b o e n hb hx=>?_,I.base.free,fun b o e hx=>?_,I.base.tups,I.base.frzs,I.base.tbls⟩,⟨_,hn',fun j y v' e1 e2 e3=>?_⟩,fun y c e=>?_,I.free,I.freeC,fun p hp=>?_,tracked ⟨oL,hoL,I.free⟩ hs,by simpa using I.len⟩ ⟨_,hs,.inl rfl⟩
  ·exact(hs.2 b (cE (ij (aY e) I.ok.above))).trans (I.base.keep b o e n hb hx)
  ·obtain⟨sl,e1⟩:=I.base.slot b o e n hb hx;exact⟨sl,(hs.2 b (cE (ij (aY e) I.ok.above))).trans e1⟩
  ·obtain⟨o',e1⟩:=I.base.there b o e hx;exact⟨o',(hs.2 b (cE (ij (aY e) I.ok.above))).trans e1⟩
  ·by_cases hj:j=i
   ·subst hj;rw[hi]at e1;cases e1;rw[List.getElem?_set_self hiσ]at e2;cases e2;exact⟨u,r,.inl ⟨hk,by simp⟩⟩
   ·rw[List.getElem?_set_ne (ii hj)]at e2;obtain⟨u',r',q⟩:=hl j y v' e1 e2 e3;refine⟨u',r',?_⟩;rcases q with⟨k,e⟩|⟨k,c,e,z⟩
    ·refine .inl ⟨k,?_⟩;have:y≠x:=fun e=>hj (xF hN e1 (e▸hi));simp[this,e]
    ·exact .inr ⟨k,c,e,z.sameBut hs (cne y c e)⟩
  ·obtain⟨w',z⟩:=I.cell y c e;exact⟨w',z.sameBut hs (cne y c e)⟩
  ·obtain⟨e,n,ne,nf,d⟩:=I.pin p hp;exact⟨(hs.2 p.1 ne).trans e,n,ne,nf,d⟩
 ·have hfn:X.fn x=true:=by
   rcases hf with z|z
   ·exact z
   ·rw[z]at hk;cases hk
  obtain⟨c,hc⟩:=I.ok.has x (.inl hk);obtain⟨w',z⟩:=I.cell x c hc;refine wpAny_storeName_cell I.ok.kind hk hc z (fun h' hc' hs=>?_);obtain⟨oc,hoc,hocd⟩:=id z;refine h { s with heap:=h' } ⟨I.ok,I.os,I.bare,⟨fun b o e n hb hx=>?_,fun b o e n hb hx=>?_,I.base.free,fun b o e hx=>?_,I.base.tups,I.base.frzs,I.base.tbls⟩,⟨m,hn.sameBut hs (ii (cne x c hc)),fun j y v' e1 e2 e3=>?_⟩,fun y c' e=>?_,I.free,I.freeC,fun p hp=>?_,tracked ⟨oc,hoc,I.freeC x c hc⟩ hs,by simpa using I.len⟩ ⟨c,hs,.inr hc⟩
  ·exact(hs.2 b (cE (ij (aY e) (I.ok.cab x c hfn hc)))).trans (I.base.keep b o e n hb hx)
  ·obtain⟨sl,e1⟩:=I.base.slot b o e n hb hx;exact⟨sl,(hs.2 b (cE (ij (aY e) (I.ok.cab x c hfn hc)))).trans e1⟩
  ·obtain⟨o',e1⟩:=I.base.there b o e hx;exact⟨o',(hs.2 b (cE (ij (aY e) (I.ok.cab x c hfn hc)))).trans e1⟩
  ·by_cases hj:j=i
   ·subst hj;rw[hi]at e1;cases e1;rw[List.getElem?_set_self hiσ]at e2;cases e2;exact⟨u,r,.inr ⟨.inl hk,c,hc,hc'⟩⟩
   ·rw[List.getElem?_set_ne (ii hj)]at e2;obtain⟨u',r',q⟩:=hl j y v' e1 e2 e3;refine⟨u',r',?_⟩;rcases q with q|⟨k,c',e,z'⟩
    ·exact .inl q
    ·refine .inr ⟨k,c',e,z'.sameBut hs ?_⟩;rintro rfl;exact hj (xF hN e1 (I.ok.inj _ _ _ e hc▸hi))
  ·by_cases hcc:c'=c
   ·subst hcc;exact⟨_,hc'⟩
   ·obtain⟨w2,z2⟩:=I.cell y c' e;exact⟨w2,z2.sameBut hs hcc⟩
  ·obtain⟨e,n,ne,nf,d⟩:=I.pin p hp;refine⟨(hs.2 p.1 ?_).trans e,n,ne,nf,d⟩;intro q;rw[q,hoc]at e;have q':oc=p.2:=eD e;exact d w' (by rw[<-q'];exact hocd)
theorem xm{M:Model}{A:Around}{E:Zc}{i:Nat}{x:Str}{v:V}{u:Value}{Q:Unit->Shared->Prop}(I:Inv X J2 σ H s)(hN:X.N.Nodup)(hi:X.N[i]?=some x)(hx:Loc X.env.scope x)(r:RelV v u)
  (h:∀s',Inv X J2 (σ.set i (some v)) H s'->Q () s') (hf:X.fn x=true∨X.env.scope.names.lookup x=some .local:=by first|exact .inl rfl|exact .inr rfl|assumption):wpAny M A (storeName X.env x u) Q E s :=
 uu I hN hi hx r (fun s' I' _=>h s' I') hf
theorem Inv.call'{s':Shared}{ch:Ze}(I:Inv X J2 σ H s)(ho:s'.os=s.os)(u:Un (Cj X.stack) ch H H' s.heap s'.heap)(hok:lI X.prog X.w X.K H' s'.heap)(hg:nr s'.gens)
  (hch:∀b∈ch,(b∈X.ex∨X.s₀.heap.objs.size<=b)/\b≠X.env.locals/\(∀x c,X.env.cells.lookup x=some c->c≠b)/\∀p∈X.pn++J2,p.1≠b):Inv X J2 σ H' s':=by
 obtain⟨h',g',d',t',o'⟩:=s';have e:o'=s.os:=ho;subst e;exact I.call (g':=g') (t':=t') (d':=d') u hok hg hch
end
abbrev XK:=Value->Option Addr->Hp->Prop
abbrev St:=List (Option V)
abbrev VK:=V->Hp->Prop
abbrev TE:=St->Hp->VK->Prop
abbrev TT:=St->Hp->(Bool->Hp->Prop)->Prop
abbrev TA:=St->Hp->(List V->Hp->Prop)->Prop
structure qz where
 nx:St->Hp->Prop
 rt:VK
 bk:St->Hp->Prop:=fun _ _=>False
 ct:St->Hp->Prop:=fun _ _=>False
abbrev bd(Q:VK):qz:={ nx:=fun _ H=>Q .non H,rt:=Q }
abbrev TS:=qz->St->Hp->Prop
def EP(X:Cx)(J2:Zd)(σ:St)(Q:VK)(u:Value)(s':Shared):Prop:=∃v H',Inv X J2 σ H' s'/\RelV v u/\Q v H'
def TP(X:Cx)(J2:Zd)(σ:St)(Q:Bool->Hp->Prop)(b:Bool)(s':Shared):Prop:=∃H',Inv X J2 σ H' s'/\Q b H'
def AP(X:Cx)(J2:Zd)(σ:St)(Q:List V->Hp->Prop)(us:Zf)(s':Shared):Prop:=∃vs H',Inv X J2 σ H' s'/\ba vs us/\Q vs H'
def SP(X:Cx)(J2:Zd)(D:qz)(f:Flow)(s':Shared):Prop :=
 match f with
 |.next=>∃σ' H',Inv X J2 σ' H' s'/\D.nx σ' H'
 |.brk=>∃σ' H',Inv X J2 σ' H' s'/\D.bk σ' H'
 |.cont=>∃σ' H',Inv X J2 σ' H' s'/\D.ct σ' H'
 |.ret u=>∃v σ' H',Inv X J2 σ' H' s'/\RelV v u/\D.rt v H'
def PE(X:Cx)(e:Expr)(t:TE):Prop :=
 ∀(J2:Zd) (s:Shared) (σ:St) (H:Hp) (Q:VK),Inv X J2 σ H s->t σ H Q->wpAny (model X.prog X.w) X.A (eval e X.env) (EP X J2 σ Q) X.xe s
def PT(X:Cx)(e:Expr)(t:TT):Prop :=
 ∀(J2:Zd) (s:Shared) (σ:St) (H:Hp) (Q:Bool->Hp->Prop),Inv X J2 σ H s->t σ H Q->wpAny (model X.prog X.w) X.A (isTrue e X.env (eval e X.env)) (TP X J2 σ Q) X.xe s
def PW(X:Cx)(e:Expr)(t:TT):Prop :=
 ∀(whole:Sem Value) (J2:Zd) (s:Shared) (σ:St) (H:Hp) (Q:Bool->Hp->Prop),Inv X J2 σ H s->t σ H Q->wpAny (model X.prog X.w) X.A (isTrue e X.env whole) (TP X J2 σ Q) X.xe s
theorem PW.pt{X:Cx}{e:Expr}{t:TT}(h:PW X e t):PT X e t:=h _
def PA(X:Cx)(es:List Expr)(t:TA):Prop :=
 ∀(pos:Pos) (J2:Zd) (s:Shared) (σ:St) (H:Hp) (Q:List V->Hp->Prop),Inv X J2 σ H s->t σ H Q->wpAny (model X.prog X.w) X.A (spliced (backTo pos (aK es X.env))) (AP X J2 σ Q) X.xe s
def PS(X:Cx)(st:Stmt)(t:TS):Prop :=
 ∀(J2:Zd) (s:Shared) (σ:St) (H:Hp) (D:qz),Inv X J2 σ H s->t D σ H->wpAny (model X.prog X.w) X.A (exec st X.env) (SP X J2 D) X.xe s
def yz(X:Cx)(st:List Stmt)(t:TS):Prop :=
 ∀(J2:Zd) (s:Shared) (σ:St) (H:Hp) (D:qz),Inv X J2 σ H s->t D σ H->wpAny (model X.prog X.w) X.A (execs st X.env) (SP X J2 D) X.xe s
theorem cq{α:Type}{t:Sem α}{Q Q':α->Shared->Prop}{M:Model}{A:Around}{E:Zc}{s:Shared}(h:wpAny M A t Q E s)(hQ:∀a s,Q a s->Q' a s):wpAny M A t Q' E s:=nu h hQ fun _ _ x=>x
end L2
namespace L2
open PySem PySem.Spec PyProof.Rows
section
variable{X:Cx}
def mE(i:Nat):TE:=fun σ H Q=>∃v,σ[i]?=some (some v)/\Q v H
abbrev V0:TE:=mE 0
abbrev V1:TE:=mE 1
abbrev V2:TE:=mE 2
abbrev V3:TE:=mE 3
abbrev V4:TE:=mE 4
abbrev V5:TE:=mE 5
abbrev V6:TE:=mE 6
abbrev V7:TE:=mE 7
abbrev V8:TE:=mE 8
abbrev V9:TE:=mE 9
abbrev Ej:TE:=mE 10
abbrev V11:TE:=mE 11
abbrev V12:TE:=mE 12
def tC(v:V):TE:=fun _ H Q=>Q v H
theorem Ga{i:Nat}{x:Str}{pos:Pos}(hN:X.N[i]?=some x)(hv:Vis X.env.scope x)(hd:(x==("__debug__":Str))=false:=by decide)(hcd:(x==("__classdict__":Str))=false:=by decide):PE X (.Name x pos) (mE i):=by
 intro J2 s σ H Q I h;obtain⟨v,e,h⟩:=h;obtain⟨m,hn,hl⟩:=I.loc;obtain⟨u,r,l⟩:=hl i x v hN e hv;have fin:EP X J2 σ Q u s:=⟨v,H,I,r,h⟩;rcases l with⟨hk,hm⟩|⟨hk,c,hc,hcell⟩
 ·exact wpAny_Name (wpAny_loadName_local I.ok.kind hk hn hm fin) hd
 ·rcases hk with hk|hk
  ·exact wpAny_Name (wpAny_loadName_cell I.ok.kind hk hc hcell fin) hd
  ·exact wpAny_Name (wpAny_loadName_free I.ok.kind hk hc hcell fin hcd) hd
theorem ag{i j pos}:PE X (.Constant (.int i) j pos) (tC (.int i)):=fun _ _ _ H _ I h=>wpAny_Constant_int ⟨.int i,H,I.tok _,⟨_,rfl⟩,h⟩
theorem pU{b j pos}:PE X (.Constant (.bool b) j pos) (tC (.bl b)):=fun _ _ _ H _ I h=>Constant_bool ⟨.bl b,H,I,rfl,h⟩
theorem si{j pos}:PE X (.Constant .none j pos) (tC .non):=fun _ _ _ H _ I h=>Constant_none ⟨.non,H,I,rfl,h⟩
theorem bC{x j pos}:PE X (.Constant (.str x) j pos) (tC (.str x)):=fun _ _ _ H _ I h=>Calls.Constant_str ⟨.str x,H,I.tok _,⟨_,rfl⟩,h⟩
def Gl(X:Cx)(x:Str):Prop:=X.env.kindOf x=some .globalImplicit
theorem we{E:Zc}{J2:Zd}{s:Shared}{σ:St}{H:Hp}{x:Str}{u:Value}{pos:Pos}{Q:Zc}(I:Inv X J2 σ H s)(hg:Gl X x)(hm:X.mg x=some u)(h:Q u s)
  (hd:(x==("__debug__":Str))=false:=by decide):wpAny (model X.prog X.w) X.A (eval (.Name x pos) X.env) Q E s :=
 Calls.Name_function_global I.ok.kind hg (Calls.loadGlobal_global (by rw[I.ok.glob];exact I.mod.glob.keeps I.bk) hm h) hd
theorem pb{E:Zc}{J2:Zd}{s:Shared}{σ:St}{H:Hp}{x:Str}{u:Value}{pos:Pos}{Q:Zc}(I:Inv X J2 σ H s)(hg:Gl X x)(hm:X.mg x=none)(hv:i7 x=some u)(h:Q u s)
  (hn:x≠"__name__":=by decide) (hd:(x==("__debug__":Str))=false:=by decide):wpAny (model X.prog X.w) X.A (eval (.Name x pos) X.env) Q E s:=by
 obtain⟨mb,h1,h2⟩:=I.mod.blt;exact Calls.Name_function_global I.ok.kind hg (Calls.loadGlobal_builtin (by rw[I.ok.glob];exact I.mod.glob.keeps I.bk) hm (by rw[I.ok.blt];exact h1.keeps I.bk) ((h2 x hn).trans hv) h) hd
theorem EU{x:Str}{v:V}{u:Value}{pos:Pos}(hg:Gl X x)(hm:X.mg x=some u)(r:RelV v u)(hd:(x==("__debug__":Str))=false:=by decide):PE X (.Name x pos) (tC v) :=
 fun _ _ _ H _ I h=>we I hg hm ⟨v,H,I,r,h⟩ hd
theorem Ay{x:Str}{v:V}{u:Value}{pos:Pos}(hg:Gl X x)(hm:X.mg x=none)(hv:i7 x=some u)(r:RelV v u)(hn:x≠"__name__":=by decide)(hd:(x==("__debug__":Str))=false:=by decide):PE X (.Name x pos) (tC v) :=
 fun _ _ _ H _ I h=>pb I hg hm hv ⟨v,H,I,r,h⟩ hn hd
variable{a b:Expr}{ta tb:TE}{pos:Pos}
def PC(X:Cx)(op:CmpOp)(a b:Expr)(t:TE):Prop :=
 ∀(J2:Zd) (s:Shared) (σ:St) (H:Hp) (Q:VK),Inv X J2 σ H s->t σ H Q ->
  wpAny (model X.prog X.w) X.A (eval a X.env) (fun v s₁=>wpAny (model X.prog X.w) X.A (eval b X.env) (fun u s₂=>wpAny (model X.prog X.w) X.A (eL op v u) (EP X J2 σ Q) X.xe s₂) X.xe s₁) X.xe s
theorem xG(b:Expr){op:CmpOp}(h:op≠.In)(h2:op≠.NotIn):j4 op b=false:=by
 have e1:(op==CmpOp.In)=false:=by cases op<;>first|rfl|exact absurd rfl h
 have e2:(op==CmpOp.NotIn)=false:=by cases op<;>first|rfl|exact absurd rfl h2
 cases b<;>simp[j4,e1,e2]
def CB(ta:TE):TE:=fun σ H Q=>ta σ H fun x H1=>Q (.bl (decide (x=.non))) H1
def Fy(ta:TE):TE:=fun σ H Q=>ta σ H fun x H1=>Q (.bl (!decide (x=.non))) H1
theorem RelV.none_iff{x:V}{v:Value}(r:RelV x v):(v==Value.none)=decide (x=.non):=by
 cases x with
 |non=>cases r;rfl
 |bl _=>cases r;rfl
 |int _=>obtain⟨t,rfl⟩:=r;rfl
 |str _=>obtain⟨t,rfl⟩:=r;rfl
 |byt _=>obtain⟨t,rfl⟩:=r;rfl
 |flt _=>obtain⟨t,rfl⟩:=r;rfl
 |ref _=>cases r;rfl
 |ty _=>cases r;rfl
theorem v7{j pos'}(ha:PE X a ta):PC X .Is a (.Constant .none j pos') (CB ta):=by
 intro J2 s σ H Q I h;refine cq (ha J2 s σ H _ I h) fun v s1 ⟨x,H1,I1,r1,q1⟩=>?_;exact Constant_none (is_none_gen ⟨.bl _,H1,I1,by rw[r1.none_iff];rfl,q1⟩)
theorem EX{j pos'}(ha:PE X a ta):PC X .IsNot a (.Constant .none j pos') (Fy ta):=by
 intro J2 s σ H Q I h;refine cq (ha J2 s σ H _ I h) fun v s1 ⟨x,H1,I1,r1,q1⟩=>?_;exact Constant_none (isnot_none_gen ⟨.bl _,H1,I1,by rw[r1.none_iff];rfl,q1⟩)
def tB(t:TE):TT:=fun σ H Q=>t σ H fun x H1=>∃c,x=.bl c/\Q c H1
theorem Ge{op:CmpOp}{t:TE}(h:PC X op a b t)(h1:j4 op b=false:=by first|exact xG _ (by decide) (by decide)|rfl):PE X (.Compare a [op] [b] pos) t:=fun J2 s σ H Q I hw=>wpAny_Compare1 (h J2 s σ H Q I hw) h1
theorem db{op:CmpOp}{t:TE}(h:PC X op a b t)(h1:j4 op b=false:=by first|exact xG _ (by decide) (by decide)|rfl):PT X (.Compare a [op] [b] pos) (tB t):=by
 intro J2 s σ H Q I hw;refine wpAny_isTrue_Compare1 (cq (h J2 s σ H _ I hw) fun v s1 h1=>cq h1 fun u s2 h2=>cq h2 fun c s3 ⟨x,H1,I1,r1,q1⟩=>?_) h1;obtain⟨d,rfl,q⟩:=q1;cases r1;exact pQ ⟨H1,I1,q⟩
theorem r_{e:Expr}{t:TE}(h:PE X e t)(he:∀whole,isTrue e X.env whole=(do let v <- whole;pN e.pos;km [v] (truthy v)):=by intro _;rfl):PT X e (tB t):=by
 intro J2 s σ H Q I hw;refine isTrue_plain (cq (h J2 s σ H _ I hw) fun v s1 ⟨x,H1,I1,r1,q1⟩=>?_) (he _);obtain⟨d,rfl,q⟩:=q1;cases r1;exact pQ ⟨H1,I1,q⟩
variable{tA tB':TT}{rest:List Expr}
def rL(t u:TT):TT:=fun σ H Q=>t σ H fun c H1=>if c=true then u σ H1 Q else Q false H1
def Eg(t u:TT):TT:=fun σ H Q=>t σ H fun c H1=>if c=true then Q true H1 else u σ H1 Q
def Ev(t:TT):TT:=fun σ H Q=>t σ H fun c H1=>Q (!c) H1
theorem lq(ha:PT X a tA):PW X (.BoolOp .And [a] pos) tA:=by
 intro wh J2 s σ H Q I h;refine isTrue_and (cq (ha J2 s σ H Q I h) fun c s1 e=>?_);cases c with
 |true=>exact isTrue_and_nil e
 |false=>exact e
theorem mL(ha:PT X a tA):PW X (.BoolOp .Or [a] pos) tA:=by
 intro wh J2 s σ H Q I h;refine isTrue_or (cq (ha J2 s σ H Q I h) fun c s1 e=>?_);cases c with
 |false=>exact isTrue_or_nil e
 |true=>exact e
theorem kM(ha:PT X a tA)(hb:PW X (.BoolOp .And (b::rest) pos) tB'):PW X (.BoolOp .And (a::b::rest) pos) (rL tA tB'):=by
 intro wh J2 s σ H Q I h;refine isTrue_and (cq (ha J2 s σ H _ I h) fun c s1 ⟨H1,I1,q1⟩=>?_);cases c with
 |true=>exact hb wh J2 s1 σ H1 Q I1 q1
 |false=>exact⟨H1,I1,q1⟩
theorem nT(ha:PT X a tA)(hb:PW X (.BoolOp .Or (b::rest) pos) tB'):PW X (.BoolOp .Or (a::b::rest) pos) (Eg tA tB'):=by
 intro wh J2 s σ H Q I h;refine isTrue_or (cq (ha J2 s σ H _ I h) fun c s1 ⟨H1,I1,q1⟩=>?_);cases c with
 |true=>exact⟨H1,I1,q1⟩
 |false=>exact hb wh J2 s1 σ H1 Q I1 q1
theorem zc(ha:PT X a tA):PT X (.UnaryOp .Not a pos) (Ev tA):=by
 intro J2 s σ H Q I h;exact isTrue_not (ha J2 s σ H (fun c H1=>Q (!c) H1) I h)
def xk(ta tb:TE):TE:=fun σ H Q=>ta σ H fun x H1=>∃c,x=.bl c/\if c=true then tb σ H1 Q else Q (.bl false) H1
def Fx(ta:TE):TE:=fun σ H Q=>ta σ H fun x H1=>∃c,x=.bl c/\Q (.bl (!c)) H1
theorem Dd{op}{t:TE}(h:PE X a t):PE X (.BoolOp op [a] pos) t:=fun J2 s σ H Q I hw=>BoolOp_one (h J2 s σ H Q I hw)
theorem v6(ha:PE X a ta)(hb:PE X (.BoolOp .And (b::rest) pos) tb):PE X (.BoolOp .And (a::b::rest) pos) (xk ta tb):=by
 intro J2 s σ H Q I h;refine BoolOp_and (cq (ha J2 s σ H _ I h) fun v s1 ⟨x,H1,I1,r1,q1⟩=>?_);obtain⟨c,rfl,q1⟩:=q1;cases r1;refine pQ ?_;cases c with
 |true=>exact hb J2 s1 σ H1 Q I1 q1
 |false=>exact⟨.bl false,H1,I1,rfl,q1⟩
theorem Gb(ha:PE X a ta):PE X (.UnaryOp .Not a pos) (Fx ta):=by
 intro J2 s σ H Q I h;refine UnaryOp_ (cq (ha J2 s σ H _ I h) fun v s1 ⟨x,H1,I1,r1,q1⟩=>?_);obtain⟨c,rfl,q1⟩:=q1;cases r1;exact not_of (pQ ⟨.bl (!c),H1,I1,rfl,q1⟩)
end
end L2
namespace L2
open PySem PySem.Spec PyProof.Rows
def ax(K:Za)(H:Hp)(a:Addr)(xs:List V):Prop :=
 Rd H a (.lst xs) ∨
  ∃(o:Obj) (its:Array Value) (n:Nat),K.lookup a=some o/\o.cls=.type "list"/\o.dict=none/\o.data=.seq its n/\its.size<=aj/\ba xs its.toList
def bA(K:Za)(H:Hp)(a:Addr)(xs:List V):Prop :=
 Rd H a (.tup xs) ∨
  ∃(o:Obj) (its:Array Value) (n:Nat),K.lookup a=some o/\o.cls=.type "tuple"/\o.data=.seq its n/\its.size<=aj/\ba xs its.toList
def absV:Value->Option V
 |.none=>some .non
 |.bool b=>some (.bl b)
 |.int i _=>some (.int i)
 |.str x _=>some (.str x)
 |.bytes b _=>some (.byt b)
 |.float b _=>some (.flt b)
 |.ref a=>some (.ref a)
 |.type n=>some (.ty n)
 |_=>none
theorem RelV.abs{x:V}{u:Value}(r:RelV x u):absV u=some x:=by
 cases x with
 |non=>cases r;rfl
 |bl _=>cases r;rfl
 |int _=>obtain⟨t,rfl⟩:=r;rfl
 |str _=>obtain⟨t,rfl⟩:=r;rfl
 |byt _=>obtain⟨t,rfl⟩:=r;rfl
 |flt _=>obtain⟨t,rfl⟩:=r;rfl
 |ref _=>cases r;rfl
 |ty _=>cases r;rfl
theorem RelV.inj{x y:V}{u:Value}(r:RelV x u)(q:RelV y u):x=y:=eD (r.abs.symm.trans q.abs)
theorem ba.inj:∀{xs ys:List V}{us:Zf},ba xs us->ba ys us->xs=ys
 |_,_,_,.nil,.nil=>rfl
 |_,_,_,.cons r t,.cons r' t'=>by rw[r.inj r',ba.inj t t']
section
variable{X:Cx}{J2:Zd}{σ:St}{H:Hp}{s:Shared}{a:Addr}{xs ys:List V}
theorem ax.of{K:Za}(h:H a=some (.lst xs)):ax K H a xs:=.inl (.inl h)
theorem bA.of{K:Za}(h:H a=some (.tup xs)):bA K H a xs:=.inl (.inl h)
theorem Inv.list(I:Inv X J2 σ H s)(h:ax X.K H a xs):∃its:List Value,ba xs its/\PlainL s.heap a its.toArray/\xs.length<=aj:=by
 rcases h with h|⟨o,its,n,hk,hc,hd,hs,hz,r⟩
 ·obtain⟨z,its,n,r,e⟩:=h.ok I.hok;exact⟨its,r,⟨_,n,e,rfl,rfl,rfl⟩,z⟩
 ·refine⟨its.toList,r,⟨o,n,I.kIn a o hk,hc,hd,by simpa using hs⟩,?_⟩;have e:=r.length;simp only[lY]at e;omega
theorem Inv.tuple(I:Inv X J2 σ H s)(h:bA X.K H a xs):∃its:List Value,ba xs its/\IsTup s.heap a its.toArray/\xs.length<=aj:=by
 rcases h with h|⟨o,its,n,hk,hc,hs,hz,r⟩
 ·obtain⟨z,its,r,p⟩:=h.ok I.hok;exact⟨its,r,p,z⟩
 ·refine⟨its.toList,r,⟨o,I.kIn a o hk,hc,n,by simpa using hs⟩,?_⟩;have e:=r.length;simp only[lY]at e;omega
theorem Inv.list_inj(I:Inv X J2 σ H s)(h:ax X.K H a xs)(h':ax X.K H a ys):xs=ys:=by
 obtain⟨its,r,⟨o,n,e,_,_,d⟩,_⟩:=I.list h;obtain⟨its',r',⟨o',n',e',_,_,d'⟩,_⟩:=I.list h';rw[e]at e';cases e';rw[d]at d';injection d' with d1 _;have:its=its':=by simpa using congrArg Array.toList d1
 subst this;exact r.inj r'
theorem Inv.tuple_inj(I:Inv X J2 σ H s)(h:bA X.K H a xs)(h':bA X.K H a ys):xs=ys:=by
 obtain⟨its,r,⟨o,e,_,n,d⟩,_⟩:=I.tuple h;obtain⟨its',r',⟨o',e',_,n',d'⟩,_⟩:=I.tuple h';rw[e]at e';cases e';rw[d]at d';injection d' with d1 _;have:its=its':=by simpa using congrArg Array.toList d1
 subst this;exact r.inj r'
end
abbrev Cx.wish(X:Cx)(E:Zc):Cx:={ X with xe:=E }
abbrev Cx.nox(X:Cx):Cx:=X.wish fun _ _=>False
theorem Cx.Ok.wish{X:Cx}(ok:X.Ok)(E:Zc):(X.wish E).Ok :=
 ⟨ok.mod,ok.kind,ok.glob,ok.blt,ok.above,ok.inj,ok.has,ok.cab,ok.hd,ok.frames,ok.stk,ok.exf,ok.bs,ok.bsz,ok.noex,ok.exfs,ok.funs,ok.frf⟩
theorem Cx.Ok.unwish{X:Cx}{E:Zc}(ok:(X.wish E).Ok):X.Ok :=
 ⟨ok.mod,ok.kind,ok.glob,ok.blt,ok.above,ok.inj,ok.has,ok.cab,ok.hd,ok.frames,ok.stk,ok.exf,ok.bs,ok.bsz,ok.noex,ok.exfs,ok.funs,ok.frf⟩
section
variable{X:Cx}{J2:Zd}{σ:St}{H:Hp}{s:Shared}{E:Zc}
theorem Inv.wish(I:Inv X J2 σ H s)(E:Zc):Inv (X.wish E) J2 σ H s:=⟨I.ok.wish E,I.os,I.bare,I.base,I.loc,I.cell,I.free,I.freeC,I.pin,I.hok,I.len⟩
theorem Inv.unwish(I:Inv (X.wish E) J2 σ H s):Inv X J2 σ H s:=⟨I.ok.unwish,I.os,I.bare,I.base,I.loc,I.cell,I.free,I.freeC,I.pin,I.hok,I.len⟩
theorem SP.unwish{D:qz}{f:Flow}{s':Shared}(h:SP (X.wish E) J2 D f s'):SP X J2 D f s':=by
 cases f with
 |next=>obtain⟨σ',H',I,q⟩:=h;exact⟨σ',H',I.unwish,q⟩
 |brk=>obtain⟨σ',H',I,q⟩:=h;exact⟨σ',H',I.unwish,q⟩
 |cont=>obtain⟨σ',H',I,q⟩:=h;exact⟨σ',H',I.unwish,q⟩
 |ret u=>obtain⟨v,σ',H',I,r,q⟩:=h;exact⟨v,σ',H',I.unwish,r,q⟩
theorem yz.nox{st:List Stmt}{t:TS}(h:yz X.nox st t):yz X st t:=fun J2 s σ H D I hw =>
 nu (h J2 s σ H D (I.wish _) hw) (fun _ _ q=>q.unwish) fun _ _ z=>i6 z
end
section
variable{X:Cx}{st:Stmt}{rest:List Stmt}{t u:TS}{e:Expr}{te:TE}{pos:Pos}
def bH:TS:=fun D σ H=>D.nx σ H
def ar(t u:TS):TS:=fun D σ H=>t { D with nx:=u D } σ H
theorem aP:yz X [] bH:=fun _ _ σ H _ I h=>Ag ⟨σ,H,I,h⟩
theorem ac(h1:PS X st t)(h2:yz X rest u):yz X (st::rest) (ar t u):=by
 intro J2 s σ H D I h;refine wpAny_execs_cons (cq (h1 J2 s σ H { D with nx:=u D } I h) fun f s1 q=>?_);cases f with
 |next =>
  obtain⟨σ',H',I',q⟩:=q;exact h2 J2 s1 σ' H' D I' q
 |ret v=>exact q
 |brk=>exact q
 |cont=>exact q
theorem af(h1:PS X st t):yz X [st] t:=by
 intro J2 s σ H D I h;refine wpAny_execs_cons (cq (h1 J2 s σ H D I h) fun f s1 q=>?_);cases f with
 |next=>exact Ag q
 |ret v=>exact q
 |brk=>exact q
 |cont=>exact q
theorem Inv.quiet{J2:Zd}{σ:St}{H:Hp}{s:Shared}(I:Inv X J2 σ H s):interactive X.env=false:=by simp[interactive,I.ok.kind]
def cr(te:TE):TS:=fun D σ H=>te σ H fun _ H1=>D.nx σ H1
theorem bp(he:PE X e te)(hs:pM e none pos.line X.env=pure false:=by rfl):PS X (.Expr e pos) (cr te):=by
 intro J2 s σ H D I h;exact wpAny_Expr_any (cq (he J2 s σ H _ I h) fun v s1 ⟨x,H1,I1,r1,q1⟩=>⟨σ,H1,I1,q1⟩) I.quiet hs
def a_(te:TE):TS:=fun D σ H=>te σ H D.rt
theorem au(he:PE X e te):PS X (.Return (some e) pos) (a_ te):=by
 intro J2 s σ H D I h;exact wpAny_Return_some (cq (he J2 s σ H _ I h) fun v s1 ⟨x,H1,I1,r1,q1⟩=>⟨x,σ,H1,I1,r1,q1⟩)
def cz(c:TT)(t u:TS):TS:=fun D σ H=>c σ H fun b H1=>if b=true then t D σ H1 else u D σ H1
theorem bz{c:Expr}{a b:List Stmt}{tc:TT}(hc:PT X c tc)(ha:yz X a t)(hb:yz X b u):PS X (.If c a b pos) (cz tc t u):=by
 intro J2 s σ H D I h;refine wpAny_If (cq (hc J2 s σ H _ I h) fun d s1 ⟨H1,I1,q1⟩=>?_);cases d with
 |true=>exact ha J2 s1 σ H1 D I1 q1
 |false=>exact hb J2 s1 σ H1 D I1 q1
def rE:TS:=fun _ _ _=>False
theorem nU:PS X st rE:=fun _ _ _ _ _ _ h=>h.elim
end
abbrev TG:=V->St->Hp->(St->Hp->Prop)->Prop
abbrev Cn:=List V->St->Hp->(St->Hp->Prop)->Prop
def PG(X:Cx)(target:Expr)(t:TG):Prop :=
 ∀(J2:Zd) (s:Shared) (σ:St) (H:Hp) (v:V) (u:Value) (Q:St->Hp->Prop),Inv X J2 σ H s->RelV v u->t v σ H Q ->
  wpAny (model X.prog X.w) X.A (assign target X.env u) (fun _ s'=>∃σ' H',Inv X J2 σ' H' s'/\Q σ' H') X.xe s
def Hn(X:Cx)(ts:List Expr)(t:Cn):Prop :=
 ∀(J2:Zd) (s:Shared) (σ:St) (H:Hp) (vs:List V) (us:Zf) (Q:St->Hp->Prop),Inv X J2 σ H s->ba vs us->t vs σ H Q ->
  wpAny (model X.prog X.w) X.A (assignInOrder ((uk ts X.env).map (·.2)) us) (fun _ s'=>∃σ' H',Inv X J2 σ' H' s'/\Q σ' H') X.xe s
abbrev Gq:=V->V->V->Hp->(Hp->Prop)->Prop
def G4(X:Cx)(t:Gq):Prop :=
 ∀(J2:Zd) (s:Shared) (σ:St) (H:Hp) (o i v:V) (ov iv u:Value) (Q:Hp->Prop),Inv X J2 σ H s->RelV o ov->RelV i iv->RelV v u->t o i v H Q ->
  wpAny (model X.prog X.w) X.A (setItem ov iv u) (fun _ s'=>∃H',Inv X J2 σ H' s'/\Q H') X.xe s
section
variable{X:Cx}{pos:Pos}
def dH(i:Nat):TG:=fun v σ H Q=>Q (σ.set i (some v)) H
abbrev U0:TG:=dH 0
abbrev U1:TG:=dH 1
abbrev U2:TG:=dH 2
abbrev U3:TG:=dH 3
abbrev U4:TG:=dH 4
abbrev U5:TG:=dH 5
abbrev U6:TG:=dH 6
abbrev U7:TG:=dH 7
abbrev U8:TG:=dH 8
abbrev U9:TG:=dH 9
abbrev G3:TG:=dH 10
abbrev U11:TG:=dH 11
abbrev U12:TG:=dH 12
theorem Av{i:Nat}{x:Str}(hN:X.N.Nodup)(hi:X.N[i]?=some x)(hx:Loc X.env.scope x)(hf:X.fn x=true∨X.env.scope.names.lookup x=some .local:=by first|exact .inl rfl|exact .inr rfl|assumption):PG X (.Name x pos) (dH i):=by
 intro J2 s σ H v u Q I r h;exact wpAny_assign_Name (xm I hN hi hx r (fun s' I'=>⟨_,H,I',h⟩) hf)
def kS:Cn:=fun vs σ H Q=>vs=[]/\Q σ H
def bI(t:TG)(u:Cn):Cn:=fun vs σ H Q=>∃v r,vs=v::r/\t v σ H fun σ' H'=>u r σ' H' Q
theorem dF:Hn X [] kS:=by
 intro J2 s σ H vs us Q I r h;obtain⟨e,h⟩:=h;subst e;cases r;exact assignInOrder_nil ⟨σ,H,I,h⟩
theorem aF{e:Expr}{es:List Expr}{t:TG}{u:Cn}(h1:PG X e t)(h2:Hn X es u)
  (hs:(uk (e::es) X.env).map (·.2)=assign e X.env::(uk es X.env).map (·.2):=by rfl):Hn X (e::es) (bI t u):=by
 intro J2 s σ H vs us Q I r h;obtain⟨v,vr,e1,h⟩:=h;subst e1;cases r with
 |cons r rr =>
  rw[hs];refine assignInOrder_cons (cq (h1 J2 s σ H _ _ _ I r h) fun _ s1 ⟨σ1,H1,I1,q1⟩=>?_);exact h2 J2 s1 σ1 H1 _ _ Q I1 rr q1
def lS(K:Za)(n:Nat)(t:Cn):TG:=fun v σ H Q=>∃a xs,v=.ref a/\bA K H a xs/\xs.length=n/\t xs σ H Q
theorem fL{es:List Expr}{k:Nat}{t:Cn}{n:Nat}(hc:X.calm=true)(h:Hn X es t)
  (hn:(uk es X.env).length=n:=by rfl) (hst:(uk es X.env).findIdx? (·.1)=none:=by rfl):PG X (.Tuple es k pos) (lS X.K n t):=by
 intro J2 s σ H v u Q I r hw;obtain⟨a,xs,e1,hq,hl,hw⟩:=hw;subst e1;cases r;obtain⟨its,rv,ht,hz⟩:=I.tuple hq;refine assign_Tuple_tuple (I.ok.hd hc) ht (by simp[hn,<-hl,rv.length]) hst fun h' hx=>?_;have I1:Inv X J2 σ H { s with heap:=h' }:=I.kept (t':=s.toks) fun b o e=>hx b o (cE (aY e)) e;exact h J2 _ σ H xs _ Q I1 (by simpa using rv) hw
def zF(to ti:TE)(t:Gq):TG:=fun v σ H Q=>to σ H fun o H1=>ti σ H1 fun i H2=>t o i v H2 fun H3=>Q σ H3
theorem sh{o i:Expr}{to ti:TE}{t:Gq}(ho:PE X o to)(hi:PE X i ti)(hs:G4 X t)
  (ha:∀v,assign (.Subscript o i pos) X.env v=(do
   let ov <- km [v] (eval o X.env)
   let iv <- km [v,ov] (eval i X.env)
   pN pos
   km [v,ov,iv] (setItem ov iv v)
   release [v,ov,iv] []):=by intro _;rfl):PG X (.Subscript o i pos) (zF to ti t):=by
 intro J2 s σ H v u Q I r h;rw[ha];refine ap (pR (cq (ho J2 s σ H _ I h) fun ov s1 ⟨x,H1,I1,r1,q1⟩=>?_));refine ap (pR (cq (hi J2 s1 σ H1 _ I1 q1) fun iv s2 ⟨y,H2,I2,r2,q2⟩=>?_));refine ap (wpAny_standAt (ap (pR (cq (hs J2 s2 σ H2 x y v ov iv u _ I2 r1 r2 r q2) fun _ s3 ⟨H3,I3,q3⟩=>?_))));exact wpAny_release ⟨σ,H3,I3,q3⟩
def aM(te:TE)(g:TG):TS:=fun D σ H=>te σ H fun x H1=>g x σ H1 D.nx
theorem jD{tg e:Expr}{te:TE}{g:TG}(he:PE X e te)(hg:PG X tg g)(hs:swapsWithSole [tg] e pos.line X.env=pure false:=by rfl)(hw:swappedStores [tg] e X.env=pure none:=by rfl)
  (h1:(uk [tg] X.env).map (·.2)=[assign tg X.env]:=by rfl):PS X (.Assign [tg] e pos) (aM te g):=by
 intro J2 s σ H D I h;refine wpAny_Assign_stores (cq (he J2 s σ H _ I h) fun v s1 ⟨x,H1,I1,r1,q1⟩=>?_) hs hw;rw[h1];exact cq (hg J2 s1 σ H1 x v _ I1 r1 q1) fun _ s2 q=>q
theorem F0{i:Nat}{x:Str}{e:Expr}{te:TE}{pos':Pos}(hN:X.N.Nodup)(hi:X.N[i]?=some x)(hx:Loc X.env.scope x)(he:PE X e te)(hs:pM e (some (.Name x pos')) pos.line X.env=pure false:=by rfl)(hf:X.fn x=true∨X.env.scope.names.lookup x=some .local:=by first|exact .inl rfl|exact .inr rfl|assumption):
  PS X (.Assign [.Name x pos'] e pos) (aM te (dH i)):=by
 intro J2 s σ H D I h;refine wpAny_Assign_Name (cq (he J2 s σ H _ I h) fun v s1 ⟨y,H1,I1,r1,q1⟩=>?_) hs;exact xm I1 hN hi hx r1 (fun s2 I2=>⟨_,H1,I2,q1⟩) hf
end
section
variable{X:Cx}{pos:Pos}
def yN(c:TT)(tb:TS):TS:=fun D σ H=>∃W:Nat->St->Hp->Prop,(∃m,W m σ H)/\∀m σ H,W m σ H ->
 c σ H fun b H1=>if b=true then ∃N:St->Hp->Prop,(∀σ' H',N σ' H'->∃m',m'<m/\W m' σ' H')/\tb { D with nx:=N,ct:=N,bk:=D.nx } σ H1 else D.nx σ H1
theorem xA{c:Expr}{body:List Stmt}{tc:TT}{tb:TS}(hp:PassesOwn (model X.prog X.w) X.A X.env X.xe)(hc:PT X c tc)(hb:yz X body tb):PS X (.While c body [] pos) (yN tc tb):=by
 intro J2 s σ H D I h;obtain⟨W,⟨m0,w0⟩,turn⟩:=h;refine wpAny_While (codeAny_whileLoop (fun n s'=>∃σ' H',Inv X J2 σ' H' s'/\W n σ' H') ?_ m0 ⟨σ,H,I,w0⟩);rintro n s1 ⟨σ1,H1,I1,w1⟩;refine qQ hp (cq (hc J2 s1 σ1 H1 _ I1 (turn n σ1 H1 w1)) fun b s2 ⟨H2,I2,q2⟩=>?_);cases b with
 |true =>
  obtain⟨N,hN,q2⟩:=q2;rw[if_pos rfl];refine qQ hp (cq (hb J2 s2 σ1 H2 _ I2 q2) fun f s3 q3=>?_);cases f with
  |next =>
   obtain⟨σ3,H3,I3,n3⟩:=q3;obtain⟨m',hm,w3⟩:=hN σ3 H3 n3;exact⟨m',hm,σ3,H3,I3,w3⟩
  |cont =>
   obtain⟨σ3,H3,I3,n3⟩:=q3;obtain⟨m',hm,w3⟩:=hN σ3 H3 n3;exact⟨m',hm,σ3,H3,I3,w3⟩
  |brk=>exact q3
  |ret v=>exact q3
 |false =>
  rw[if_neg gD];exact Ag ⟨σ1,H2,I2,q2⟩
end
structure It where
 go:Nat->Hp->Prop
 yld:Nat->Hp->V->Hp->Prop
 stop:Nat->Hp->Prop
def m9(X:Cx)(J2:Zd)(H:Hp)(b:Addr):Prop :=
 H b=none/\b≠X.env.locals/\b∉X.fs/\(b∈X.ex∨X.s₀.heap.objs.size<=b)/\(∀x c,X.env.cells.lookup x=some c->c≠b)/\∀p∈X.pn++J2,p.1≠b
theorem Inv.fpOk{X:Cx}{J2:Zd}{σ:St}{H H':Hp}{s:Shared}{b:Addr}(I:Inv X J2 σ H s)(hb:s.heap.objs.size<=b)(hn:H' b=none):m9 X J2 H' b:=by
 refine⟨hn,gZ (ij I.lt hb),I.nofs hb,.inr (aD I.sz hb),fun x c e z=>?_,fun p hp z=>?_⟩
 ·obtain⟨v,q⟩:=I.cell x c e;exact absurd (ij q.lt (by rw[z];exact hb)) (pO _)
 ·exact absurd (ij (aY (I.pin p hp).1) (by rw[z];exact hb)) (pO _)
structure sU(P:bM)(w:World)(K:Za)(tg:Expr)(J:It)(fp:Ze)(it:Addr)(tn:Nat->Heap->Prop):Prop where
 mem:it∈fp
 obj:∀i h,tn i h->∀b∈fp,∃o,h.get? b=some o/\∀v,o.data≠.cell v
 keep:∀i h h',tn i h->(∀b∈fp,∀o,h.get? b=some o->h'.get? b=some o)->tn i h'
 item:∀(X:Cx),X.prog=P->X.w=w->X.K=K->X.calm=true->∀(i:Nat) (J2:Zd) (s:Shared) (σ:St) (H:Hp) (E:Zc),Inv X J2 σ H s->(∀b∈fp,m9 X J2 H b)->tn i s.heap->J.go i H ->
  wpAny (model P w) X.A (pyNext (.ref it)) (fun r s1=>∃u,r=some u /\
   wpAny (model P w) X.A (Af tg (.ref it) u) (fun _ s2=>∃x H',Inv X J2 σ H' s2/\RelV x u/\J.yld i H x H'/\tn (i+1) s2.heap/\∀b∈fp,H' b=none) E s1) E s
 done:∀(X:Cx),X.prog=P->X.w=w->X.K=K->X.calm=true->∀(i:Nat) (J2:Zd) (s:Shared) (σ:St) (H:Hp) (E:Zc),Inv X J2 σ H s->(∀b∈fp,m9 X J2 H b)->tn i s.heap->J.stop i H ->
  wpAny (model P w) X.A (pyNext (.ref it)) (fun r s1=>r=none/\Inv X J2 σ H s1) E s
 self:∀(A:Around) (i:Nat) (s:Shared) (Q:Zc) (E:Zc),tn i s.heap->Q (.ref it) s->wpAny (model P w) A (pyIter (.ref it)) Q E s
abbrev TI:=St->Hp->(It->Hp->Prop)->Prop
def PIE(X:Cx)(J2:Zd)(σ:St)(tg:Expr)(R:It->Hp->Prop)(itv:Value)(s2:Shared):Prop :=
 ∃(it:Addr) (fp:Ze) (tn:Nat->Heap->Prop) (J:It) (H':Hp),itv=.ref it/\Inv X J2 σ H' s2/\sU X.prog X.w X.K tg J fp it tn/\tn 0 s2.heap/\(∀b∈fp,m9 X J2 H' b)/\R J H'
def PI(X:Cx)(tg iter:Expr)(wi:TI):Prop :=
 ∀(J2:Zd) (s:Shared) (σ:St) (H:Hp) (R:It->Hp->Prop),Inv X J2 σ H s->wi σ H R ->
  wpAny (model X.prog X.w) X.A (eval iter X.env) (fun v s1=>wpAny (model X.prog X.w) X.A (pyIter v) (PIE X J2 σ tg R) X.xe s1) X.xe s
theorem uF{M:Model}{A:Around}{E:Zc}{s:Shared}{tg:Expr}{it:Addr}{u:Value}{o:Obj}{n:String}{vs:Array Value}{Q:Unit->Shared->Prop}(ho:s.heap.get? it=some o)(hc:o.cls=.type n)(hd:o.data=.fields vs)
    (hn:["enumerate","zip","dict_itemiterator","dict_reverseitemiterator","odict_iterator","itertools.zip_longest","itertools.pairwise"].contains n=false) (hQ:Q () s):wpAny M A (Af tg (.ref it) u) Q E s:=by
  unfold Af;cases tg<;>first
    |exact aX hQ
    | (cases u <;> first
        |exact aX hQ
        | (refine ap (wpAny_load ho ?_)
           rw[hc,hd];show wpAny M A (if(["enumerate","zip","dict_itemiterator","dict_reverseitemiterator","odict_iterator","itertools.zip_longest","itertools.pairwise"].contains n && vs[0]?==some (rawInt _))=true then _ else _) Q E s
           rw[if_neg (by intro h;rw[hn,Ae]at h;cases h)];exact aX hQ))
def Ee(K:Za)(a:Addr):It :=
 ⟨fun i H=>∃xs x,ax K H a xs/\xs[i]?=some x,fun i H x H'=>H'=H/\∀xs,ax K H a xs->xs[i]?=some x,fun i H=>∃xs,ax K H a xs/\xs.length<=i⟩
def Gs(K:Za)(a:Addr):It :=
 ⟨fun i H=>∃xs x,bA K H a xs/\xs[i]?=some x,fun i H x H'=>H'=H/\∀xs,bA K H a xs->xs[i]?=some x,fun i H=>∃xs,bA K H a xs/\xs.length<=i⟩
def Gu(lo:Int)(n:Nat):It:=⟨fun i _=>i<n,fun i H x H'=>H'=H/\x=.int (lo+i),fun i _=>n<=i⟩
theorem uo{P:bM}{w:World}{K:Za}{tg:Expr}(a it:Addr):sU P w K tg (Ee K a) [it] it (fun i h=>h.IsListIter it a i) where
 mem:=by simp
 obj:=fun i h st b hb=>by
  have e:b=it:=by simpa using hb
  subst e;obtain⟨o,e,c,d⟩:=st;exact⟨o,e,fun v z=>by rw[d]at z;cases z⟩
 keep:=fun i h h' st k=>st.at fun o e=>k it (by simp) o e
 item:=by
  intro X hP hw hK hc i J2 s σ H E I hf st hg;subst hP hw hK;obtain⟨xs,x,hq,hx⟩:=hg;obtain⟨its,rv,p,hz⟩:=I.list hq;obtain⟨u,hu,ru⟩:=rv.get hx;obtain⟨f0,f1,f2,f3,f4,f5⟩:=hf it (by simp);refine wpAny_pyNext_list_item st p.isList (x:=u) (by simpa using hu) fun h' st' sb=>?_;have I1:Inv X J2 σ H { s with heap:=h' }:=I.turned (t':=s.toks) (fun b o hb e=>(sb.2 b hb).trans e) f0 f1 f3 f4 f5;obtain⟨o,e,c,d⟩:=id st';exact⟨u,rfl,uF (s:={ s with heap:=h' }) e c d (by decide) ⟨x,H,I1,ru,⟨rfl,fun ys hy=>by rw[I.list_inj hy hq];exact hx⟩,st',fun b hb=>(hf b hb).1⟩⟩
 done:=by
  intro X hP hw hK hc i J2 s σ H E I hf st hg;subst hP hw hK;obtain⟨xs,hq,hx⟩:=hg;obtain⟨its,rv,p,hz⟩:=I.list hq;obtain⟨f0,f1,f2,f3,f4,f5⟩:=hf it (by simp);have hl:=rv.length;exact wpAny_pyNext_list_end (I.ok.hd hc) st p.isList (by simp;omega) fun h' eb=>⟨rfl,I.turned (t':=s.toks) (fun b o hb e=>eb b o hb e) f0 f1 f3 f4 f5⟩
 self:=fun _ _ _ _ _ st h=>wpAny_pyIter_listiter st h
theorem rq{P:bM}{w:World}{K:Za}{tg:Expr}(a it:Addr):sU P w K tg (Gs K a) [it] it (fun i h=>h.IsTupleIter it a i) where
 mem:=by simp
 obj:=fun i h st b hb=>by
  have e:b=it:=by simpa using hb
  subst e;obtain⟨o,e,c,d⟩:=st;exact⟨o,e,fun v z=>by rw[d]at z;cases z⟩
 keep:=fun i h h' st k=>st.at fun o e=>k it (by simp) o e
 item:=by
  intro X hP hw hK hc i J2 s σ H E I hf st hg;subst hP hw hK;obtain⟨xs,x,hq,hx⟩:=hg;obtain⟨its,rv,p,hz⟩:=I.tuple hq;obtain⟨u,hu,ru⟩:=rv.get hx;obtain⟨f0,f1,f2,f3,f4,f5⟩:=hf it (by simp);refine wpAny_pyNext_tuple_item st (show s.heap.IsTuple a its.toArray from p) (x:=u) (by simpa using hu) fun h' st' sb=>?_;have I1:Inv X J2 σ H { s with heap:=h' }:=I.turned (t':=s.toks) (fun b o hb e=>(sb.2 b hb).trans e) f0 f1 f3 f4 f5;obtain⟨o,e,c,d⟩:=id st';exact⟨u,rfl,uF (s:={ s with heap:=h' }) e c d (by decide) ⟨x,H,I1,ru,⟨rfl,fun ys hy=>by rw[I.tuple_inj hy hq];exact hx⟩,st',fun b hb=>(hf b hb).1⟩⟩
 done:=by
  intro X hP hw hK hc i J2 s σ H E I hf st hg;subst hP hw hK;obtain⟨xs,hq,hx⟩:=hg;obtain⟨its,rv,p,hz⟩:=I.tuple hq;obtain⟨f0,f1,f2,f3,f4,f5⟩:=hf it (by simp);have hl:=rv.length;exact wpAny_pyNext_tuple_end (I.ok.hd hc) st (show s.heap.IsTuple a its.toArray from p) (by simp;omega) fun h' eb=>⟨rfl,I.turned (t':=s.toks) (fun b o hb e=>eb b o hb e) f0 f1 f3 f4 f5⟩
 self:=fun _ _ _ _ _ st h=>wpAny_pyIter_tupleiter st h
theorem yE{P:bM}{w:World}{K:Za}{tg:Expr}(it:Addr)(lo:Int)(n:Nat):sU P w K tg (Gu lo n) [it] it (fun i h=>IsRangeIter h it (lo+(i:Nat) * 1) ((n:Int)-(i:Nat)) 1) where
 mem:=by simp
 obj:=fun i h st b hb=>by
  have e:b=it:=by simpa using hb
  subst e;exact⟨_,st,fun v z=>by
   have z':Data.fields _=Data.cell v:=z;cases z'⟩
 keep:=fun i h h' st k=>k it (by simp) _ st
 item:=by
  intro X hP hw hK hc i J2 s σ H E I hf st hg;subst hP hw hK;obtain⟨f0,f1,f2,f3,f4,f5⟩:=hf it (by simp);have W:=Walks.range (prog:=X.prog) (w:=X.w) (I.ok.hd hc) it lo 1 n;refine W.item i s _ _ hg st fun v h' tk hv st' kk=>?_;obtain⟨t,rfl⟩:=hv;have I1:Inv X J2 σ H { s with heap:=h',toks:=tk }:=I.turned (fun b o hb e=>kk b o (by simpa using hb) e) f0 f1 f3 f4 f5;refine⟨_,rfl,uF (s:={ s with heap:=h',toks:=tk }) (n:="range_iterator") st' rfl rfl (by decide) ⟨.int (lo+i),H,I1,⟨t,?_⟩,⟨rfl,rfl⟩,st',fun b hb=>(hf b hb).1⟩⟩;rw[Int.mul_one]
 done:=by
  intro X hP hw hK hc i J2 s σ H E I hf st hg;subst hP hw hK;obtain⟨f0,f1,f2,f3,f4,f5⟩:=hf it (by simp);exact wpAny_pyNext_range_end (I.ok.hd hc) st (by have:n<=i:=hg;omega) fun h' eb=>⟨rfl,I.turned (t':=s.toks) (fun b o hb e=>eb b o hb e) f0 f1 f3 f4 f5⟩
 self:=fun _ _ _ _ _ st h=>wpAny_pyIter_rangeiter st h
end L2
namespace L2
open PySem PySem.Spec PyProof.Rows
section
variable{X:Cx}{tg:Expr}
def bq(K:Za)(tl:TE):TI:=fun σ H R=>tl σ H fun x H1=>∃a,x=.ref a/\(∃xs,ax K H1 a xs)/\R (Ee K a) H1
def Fc(K:Za)(tl:TE):TI:=fun σ H R=>tl σ H fun x H1=>∃a,x=.ref a/\(∃xs,bA K H1 a xs)/\R (Gs K a) H1
theorem aE{l:Expr}{tl:TE}(hl:PE X l tl):PI X tg l (bq X.K tl):=by
 intro J2 s σ H R I h;refine cq (hl J2 s σ H _ I h) fun v s1 ⟨x,H1,I1,r1,q1⟩=>?_;obtain⟨a,e,⟨xs,hq⟩,q⟩:=q1;subst e;cases r1;obtain⟨its,rv,p,hz⟩:=I1.list hq;refine wU p.isList ?_;refine⟨s1.heap.objs.size,[s1.heap.objs.size],_,_,H1,rfl,I1.kept (t':=s1.toks) fun b o e=>bv _ e,uo a _,⟨_,cQ _ rfl,rfl,rfl⟩,fun b hb=>?_,q⟩;have e:b=s1.heap.objs.size:=by simpa using hb
 subst e;exact I1.fpOk (aA _) (I1.hok.fresh (aA _))
theorem ze{l:Expr}{tl:TE}(hl:PE X l tl):PI X tg l (Fc X.K tl):=by
 intro J2 s σ H R I h;refine cq (hl J2 s σ H _ I h) fun v s1 ⟨x,H1,I1,r1,q1⟩=>?_;obtain⟨a,e,⟨xs,hq⟩,q⟩:=q1;subst e;cases r1;obtain⟨its,rv,p,hz⟩:=I1.tuple hq;refine Ad (show s1.heap.IsTuple a its.toArray from p) ?_;refine⟨s1.heap.objs.size,[s1.heap.objs.size],_,_,H1,rfl,I1.kept (t':=s1.toks) fun b o e=>bv _ e,rq a _,⟨_,cQ _ rfl,rfl,rfl⟩,fun b hb=>?_,q⟩;have e:b=s1.heap.objs.size:=by simpa using hb
 subst e;exact I1.fpOk (aA _) (I1.hok.fresh (aA _))
theorem CZ{J2:Zd}{σ:St}{H:Hp}{s:Shared}{R:It->Hp->Prop}{E:Zc}{lo hi:Int}{t u v:Tok}{tk:Nat}(I:Inv X J2 σ H s)(h1:-(2 ^ 62)<=lo)(h2:lo<2 ^ 62)(h3:-(2 ^ 62)<=hi)(h4:hi<2 ^ 62)
  (q:R (Gu lo (hi-lo).toNat) H):wpAny (model X.prog X.w) X.A (pyIter (.ref s.heap.objs.size)) (PIE X J2 σ tg R) E { s with heap:=s.heap.push { cls:=.type "range",data:=.fields #[.int lo t,.int hi u,.int 1 v] },toks:=tk }:=by
 refine wpAny_pyIter_range (IsRange.new ..) (small_one h1 h2 h3 h4) ?_;have I1:Inv X J2 σ H { s with heap:=s.heap.push { cls:=.type "range",data:=.fields #[.int lo t,.int hi u,.int 1 v] },toks:=tk }:=I.kept fun b o e=>bv _ e;refine⟨(s.heap.push { cls:=.type "range",data:=.fields #[.int lo t,.int hi u,.int 1 v] }).objs.size,[(s.heap.push { cls:=.type "range",data:=.fields #[.int lo t,.int hi u,.int 1 v] }).objs.size],_,_,H,rfl,
  I1.kept (t':=tk) fun b o e=>bv _ e,yE _ lo (hi-lo).toNat,?_,fun b hb=>?_,q⟩
 ·have e1:lo+((0:Nat):Int) * 1=lo:=by simp
  have e2:(((hi-lo).toNat:Nat):Int)-((0:Nat):Int)=cF.Range.rangeSize lo hi 1:=by rw[rangeSize_one];split<;>omega
  show IsRangeIter _ _ (lo+((0:Nat):Int) * 1) ((((hi-lo).toNat:Nat):Int)-((0:Nat):Int)) 1;rw[e1,e2];exact cQ _ rfl
 ·have e:b=(s.heap.push { cls:=.type "range",data:=.fields #[.int lo t,.int hi u,.int 1 v] }).objs.size:=by simpa using hb
  subst e;exact I1.fpOk (aA _) (I1.hok.fresh (aA _))
def uD(ta:TA):TI:=fun σ H R=>ta σ H fun vs H1=>∃j:Int,vs=[.int j]/\-(2 ^ 62)<=j/\j<2 ^ 62/\R (Gu 0 j.toNat) H1
theorem ji{a:Expr}{ta:TA}{p pos:Pos}(hg:Gl X "range")(hm:X.mg "range"=none)(ha:PA X [a] ta)(hs:aK [a] X.env=[(false,eval a X.env)]:=by rfl):PI X tg (.Call (.Name "range" p) [a] [] pos) (uD ta):=by
 intro J2 s σ H R I h;refine Call_ (pb I hg hm boot_range (Ac (cq (ha pos J2 s σ H _ I h) fun us s1 ⟨vs,H1,I1,r1,q1⟩=>?_) hs rfl));obtain⟨j,e,q1,q2,q⟩:=q1;subst e;cases r1 with
 |cons r rr =>
  cases rr;obtain⟨t,rfl⟩:=r;exact call_range_1 (CZ I1 (by omega) (by omega) q1 q2 (by simpa using q))
def dZ(wi:TI)(g:TG)(tb:TS):TS:=fun D σ H=>wi σ H fun J H1=>∃W:Nat->Nat->St->Hp->Prop,(∃m,W 0 m σ H1)/\∀i m σ H,W i m σ H ->
 (J.stop i H/\D.nx σ H)∨(J.go i H/\∃N:St->Hp->Prop,(∀σ' H',N σ' H'->∃m',m'<m/\W (i+1) m' σ' H')/\∀x H',J.yld i H x H'->g x σ H' fun σ2 H2=>tb { D with nx:=N,ct:=N,bk:=D.nx } σ2 H2)
def sf(fp:Ze)(h:Heap):List (Addr×Obj):=fp.filterMap fun b=>(h.get? b).map fun o=>(b,o)
theorem jG{fp:Ze}{h:Heap}{b:Addr}{o:Obj}(hb:b∈fp)(e:h.get? b=some o):(b,o)∈sf fp h:=List.mem_filterMap.mpr ⟨b,hb,by rw[e];rfl⟩
theorem BG{fp:Ze}{h:Heap}{p:Addr×Obj}(hp:p∈sf fp h):p.1∈fp/\h.get? p.1=some p.2:=by
 obtain⟨b,hb,e⟩:=List.mem_filterMap.mp hp;cases q:h.get? b with
 |none=>rw[q]at e;cases e
 |some o =>
  rw[q]at e;have e':(b,o)=p:=eD e;subst e';exact⟨hb,q⟩
theorem Inv.pinned{J2:Zd}{σ:St}{H:Hp}{s:Shared}{fp:Ze}(I:Inv X J2 σ H s)(hf:∀b∈fp,m9 X J2 H b)(ho:∀b∈fp,∃o,s.heap.get? b=some o/\∀v,o.data≠.cell v):Inv X (J2++sf fp s.heap) σ H s :=
 I.pins_of fun p hp=>(bw.mp hp).elim (fun z=>I.pin p (dJ _ z)) fun z=>by
  obtain⟨hb,e⟩:=BG z;obtain⟨f0,f1,f2,_⟩:=hf p.1 hb;obtain⟨o,e',d⟩:=ho p.1 hb;rw[e]at e';cases e';exact⟨e,f0,f1,f2,d⟩
theorem Inv.unpinned{J2 pl:Zd}{σ:St}{H:Hp}{s:Shared}(I:Inv X (J2++pl) σ H s):Inv X J2 σ H s:=I.pins_of fun p hp=>I.pin p (dJ _ (dj _ hp))
theorem bx{iter:Expr}{body:List Stmt}{wi:TI}{g:TG}{tb:TS}{pos:Pos}(hp:PassesOwn (model X.prog X.w) X.A X.env X.xe)(hc:X.calm=true)(hi:PI X tg iter wi)(hg:PG X tg g)(hb:yz X body tb)
  (hs:∀x,wT iter X.env x=pure x:=by intro _;rfl):PS X (.For tg iter body [] pos) (dZ wi g tb):=by
 intro J2 s σ H D I h;refine wpAny_For (cq (hi J2 s σ H _ I h) fun v s1 h1=>cq h1 fun itv s2 h2=>?_) hs;obtain⟨it,fp,tn,J,H2,e,I2,T,st2,f2,W,⟨m0,w0⟩,turn⟩:=h2;subst e;have stat:∀{H':Hp},(∀b∈fp,H' b=none)->∀b∈fp,m9 X J2 H' b:=fun hn b hb=>⟨hn b hb,(f2 b hb).2⟩;refine codeAny_forLoop_any (fun n s'=>∃i σ' H',Inv X J2 σ' H' s'/\tn i s'.heap/\(∀b∈fp,H' b=none)/\W i n σ' H') ?_ m0 ⟨0,σ,H2,I2,st2,fun b hb=>(f2 b hb).1,w0⟩;rintro n s3 ⟨i,σ3,H3,I3,st3,fr3,w3⟩;rcases turn i n σ3 H3 w3 with⟨stop,qn⟩|⟨go,N,hN,step⟩
 ·refine qQ hp (cq (T.done X rfl rfl rfl hc i J2 s3 σ3 H3 X.xe I3 (stat fr3) st3 stop) fun r s4 ⟨hr,I4⟩=>?_);subst hr;exact Ag ⟨σ3,H3,I4,qn⟩
 ·refine qQ hp (cq (T.item X rfl rfl rfl hc i J2 s3 σ3 H3 X.xe I3 (stat fr3) st3 go) fun r s4 ⟨u,hr,h4⟩=>?_);subst hr;refine qQ hp (cq h4 fun _ s5 ⟨x,H5,I5,r5,y5,st5,fr5⟩=>?_);have I5':=I5.pinned (stat fr5) (T.obj _ _ st5);refine qQ hp (cq (hg _ s5 σ3 H5 x u _ I5' r5 (step x H5 y5)) fun _ s6 ⟨σ6,H6,I6,q6⟩=>?_);refine qQ hp (cq (hb _ s6 σ6 H6 _ I6 q6) fun f s7 q7=>?_);have again:∀{σ7:St}{H7:Hp},Inv X (J2++sf fp s5.heap) σ7 H7 s7->N σ7 H7->∃m,m<n/\∃i σ' H',Inv X J2 σ' H' s7/\tn i s7.heap/\(∀b∈fp,H' b=none)/\W i m σ' H':=fun{σ7 H7} I7 n7=>by
   obtain⟨m',hm,w7⟩:=hN σ7 H7 n7;refine⟨m',hm,i+1,σ7,H7,I7.unpinned,T.keep _ _ _ st5 fun b hb o e=>(I7.pin (b,o) (dJ _ (dJ _ (jG hb e)))).1,fun b hb=>?_,w7⟩;obtain⟨o,e,d⟩:=T.obj _ _ st5 b hb;exact(I7.pin (b,o) (dJ _ (dJ _ (jG hb e)))).2.1
  cases f with
  |next=>obtain⟨σ7,H7,I7,n7⟩:=q7;exact again I7 n7
  |cont=>obtain⟨σ7,H7,I7,n7⟩:=q7;exact again I7 n7
  |brk=>obtain⟨σ7,H7,I7,q7⟩:=q7;exact⟨σ7,H7,I7.unpinned,q7⟩
  |ret v=>obtain⟨x7,σ7,H7,I7,r7,q7⟩:=q7;exact⟨x7,σ7,H7,I7.unpinned,r7,q7⟩
end
theorem bD{K:Za}{a:Addr}{xs:List V}{g:TG}{tb:TS}{D:qz}{σ:St}{H:Hp}(Pv:Nat->St->Hp->Prop)(h0:Pv 0 σ H)(hl:∀i σ H,i<=xs.length->Pv i σ H->ax K H a xs)
  (hs:∀i x σ H,xs[i]?=some x->Pv i σ H->g x σ H fun σ2 H2=>tb { D with nx:=Pv (i+1),ct:=Pv (i+1),bk:=D.nx } σ2 H2) (hd:∀σ H,Pv xs.length σ H->D.nx σ H) :
  ∃W:Nat->Nat->St->Hp->Prop,(∃m,W 0 m σ H)/\∀i m σ H,W i m σ H ->
   ((Ee K a).stop i H/\D.nx σ H)∨((Ee K a).go i H/\∃N:St->Hp->Prop,(∀σ' H',N σ' H'->∃m',m'<m/\W (i+1) m' σ' H')/\∀x H',(Ee K a).yld i H x H'->g x σ H' fun σ2 H2=>tb { D with nx:=N,ct:=N,bk:=D.nx } σ2 H2):=by
 refine⟨fun i m σ H=>m=xs.length-i/\i<=xs.length/\Pv i σ H,⟨xs.length,by simp,eK _,h0⟩,?_⟩;rintro i m σ H ⟨rfl,hi,p⟩;have q:=hl i σ H hi p;by_cases hlt:i<xs.length
 ·refine .inr ⟨⟨xs,xs[i],q,by simp[hlt]⟩,Pv (i+1),fun σ' H' p'=>⟨xs.length-(i+1),by omega,rfl,hlt,p'⟩,fun x H' y=>?_⟩;obtain⟨e,y⟩:=y;subst e;exact hs i x σ _ (y xs q) p
 ·have e:i=xs.length:=by omega
  subst e;exact .inl ⟨⟨xs,q,aA _⟩,hd σ H p⟩
theorem AO{K:Za}{a:Addr}{xs:List V}{g:TG}{tb:TS}{D:qz}{σ:St}{H:Hp}(Pv:Nat->St->Hp->Prop)(h0:Pv 0 σ H)(hl:∀i σ H,i<=xs.length->Pv i σ H->bA K H a xs)
  (hs:∀i x σ H,xs[i]?=some x->Pv i σ H->g x σ H fun σ2 H2=>tb { D with nx:=Pv (i+1),ct:=Pv (i+1),bk:=D.nx } σ2 H2) (hd:∀σ H,Pv xs.length σ H->D.nx σ H) :
  ∃W:Nat->Nat->St->Hp->Prop,(∃m,W 0 m σ H)/\∀i m σ H,W i m σ H ->
   ((Gs K a).stop i H/\D.nx σ H)∨((Gs K a).go i H/\∃N:St->Hp->Prop,(∀σ' H',N σ' H'->∃m',m'<m/\W (i+1) m' σ' H')/\∀x H',(Gs K a).yld i H x H'->g x σ H' fun σ2 H2=>tb { D with nx:=N,ct:=N,bk:=D.nx } σ2 H2):=by
 refine⟨fun i m σ H=>m=xs.length-i/\i<=xs.length/\Pv i σ H,⟨xs.length,by simp,eK _,h0⟩,?_⟩;rintro i m σ H ⟨rfl,hi,p⟩;have q:=hl i σ H hi p;by_cases hlt:i<xs.length
 ·refine .inr ⟨⟨xs,xs[i],q,by simp[hlt]⟩,Pv (i+1),fun σ' H' p'=>⟨xs.length-(i+1),by omega,rfl,hlt,p'⟩,fun x H' y=>?_⟩;obtain⟨e,y⟩:=y;subst e;exact hs i x σ _ (y xs q) p
 ·have e:i=xs.length:=by omega
  subst e;exact .inl ⟨⟨xs,q,aA _⟩,hd σ H p⟩
theorem lF{lo:Int}{n:Nat}{g:TG}{tb:TS}{D:qz}{σ:St}{H:Hp}(Pv:Nat->St->Hp->Prop)(h0:Pv 0 σ H)
  (hs:∀i σ H,i<n->Pv i σ H->g (.int (lo+i)) σ H fun σ2 H2=>tb { D with nx:=Pv (i+1),ct:=Pv (i+1),bk:=D.nx } σ2 H2) (hd:∀σ H,Pv n σ H->D.nx σ H) :
  ∃W:Nat->Nat->St->Hp->Prop,(∃m,W 0 m σ H)/\∀i m σ H,W i m σ H ->
   ((Gu lo n).stop i H/\D.nx σ H)∨((Gu lo n).go i H/\∃N:St->Hp->Prop,(∀σ' H',N σ' H'->∃m',m'<m/\W (i+1) m' σ' H')/\∀x H',(Gu lo n).yld i H x H'->g x σ H' fun σ2 H2=>tb { D with nx:=N,ct:=N,bk:=D.nx } σ2 H2):=by
 refine⟨fun i m σ H=>m=n-i/\i<=n/\Pv i σ H,⟨n,by simp,eK _,h0⟩,?_⟩;rintro i m σ H ⟨rfl,hi,p⟩;by_cases hlt:i<n
 ·refine .inr ⟨hlt,Pv (i+1),fun σ' H' p'=>⟨n-(i+1),by omega,rfl,hlt,p'⟩,fun x H' y=>?_⟩;obtain⟨e,y⟩:=y;subst e y;exact hs i σ _ hlt p
 ·have e:i=n:=by omega
  subst e;exact .inl ⟨aA _,hd σ H p⟩
end L2
namespace L2
open PySem PySem.Spec PyProof.Rows
abbrev R2:=V->V->Hp->VK->Prop
def mS(X:Cx)(f:Value->Value->Sem Value)(r:R2):Prop :=
 ∀(J2:Zd) (s:Shared) (σ:St) (H:Hp) (x y:V) (v u:Value) (Q:VK),Inv X J2 σ H s->RelV x v->RelV y u->r x y H Q ->
  wpAny (model X.prog X.w) X.A (f v u) (EP X J2 σ Q) X.xe s
def fj(X:Cx)(f:Value)(r:List V->Hp->VK->Prop):Prop :=
 ∀(J2:Zd) (s:Shared) (σ:St) (H:Hp) (xs:List V) (us:Zf) (Q:VK),Inv X J2 σ H s->ba xs us->r xs H Q ->
  wpAny (model X.prog X.w) X.A (call f us) (EP X J2 σ Q) X.xe s
def aJ(r:R2)(ta tb:TE):TE:=fun σ H Q=>ta σ H fun x H1=>tb σ H1 fun y H2=>r x y H2 Q
def rI(C:Int->Int->Prop)(g:Int->Int->V):R2:=fun x y H Q=>∃i j,x=.int i/\y=.int j/\C i j/\Q (g i j) H
def As(g:Int->Int->V):R2:=fun x y H Q=>∃i j,x=.int i/\y=.int j/\Q (g i j) H
section
variable{X:Cx}{a b c:Expr}{ta tb tc:TE}{pos:Pos}
theorem Gn(ha:PE X a ta)(hb:PE X b tb){J2:Zd}{s:Shared}{σ:St}{H:Hp}{R:V->V->Hp->Prop}(I:Inv X J2 σ H s)
  (h:ta σ H fun x H1=>tb σ H1 fun y H2=>R x y H2) {Q:Zc}{f:Value->Value->Sem Value}
  (hf:∀v u s2 x y H2,Inv X J2 σ H2 s2->RelV x v->RelV y u->R x y H2->wpAny (model X.prog X.w) X.A (f v u) Q X.xe s2) :
  wpAny (model X.prog X.w) X.A (eval a X.env) (fun v s₁=>wpAny (model X.prog X.w) X.A (eval b X.env) (fun u s₂=>wpAny (model X.prog X.w) X.A (f v u) Q X.xe s₂) X.xe s₁) X.xe s:=by
 refine cq (ha J2 s σ H _ I h) fun v s1 ⟨x,H1,I1,r1,q1⟩=>?_;refine cq (hb J2 s1 σ H1 _ I1 q1) fun u s2 ⟨y,H2,I2,r2,q2⟩=>?_;exact hf v u s2 x y H2 I2 r1 r2 q2
theorem aH{op:Operator}{r:R2}(ho:mS X (lX op) r)(ha:PE X a ta)(hb:PE X b tb):PE X (.BinOp a op b pos) (aJ r ta tb):=by
 intro J2 s σ H Q I h;exact wpAny_BinOp (Gn ha hb I h fun v u s2 x y H2 I2 rx ry q=>ho J2 s2 σ H2 x y v u Q I2 rx ry q)
theorem GP{f:Value->Value->Sem Value}{C:Int->Int->Prop}{g:Int->Int->Int}
  (rule:∀(i j:Int) (t u:Tok) (s:Shared) (Q:Zc) (E:Zc),C i j->Q (.int (g i j) s.toks) { s with toks:=s.toks+1 }->wpAny (model X.prog X.w) X.A (f (.int i t) (.int j u)) Q E s) :
  mS X f (rI C fun i j=>.int (g i j)):=by
 intro J2 s σ H x y v u Q I rx ry h;obtain⟨i,j,rfl,rfl,hc,q⟩:=h;obtain⟨t,rfl⟩:=rx;obtain⟨t',rfl⟩:=ry;exact rule i j t t' s _ _ hc ⟨.int (g i j),H,I.tok _,⟨_,rfl⟩,q⟩
theorem GO{f:Value->Value->Sem Value}{g:Int->Int->Int}
  (rule:∀(i j:Int) (t u:Tok) (s:Shared) (Q:Zc) (E:Zc),Q (.int (g i j) s.toks) { s with toks:=s.toks+1 }->wpAny (model X.prog X.w) X.A (f (.int i t) (.int j u)) Q E s) :
  mS X f (As fun i j=>.int (g i j)):=by
 intro J2 s σ H x y v u Q I rx ry h;obtain⟨i,j,rfl,rfl,q⟩:=h;obtain⟨t,rfl⟩:=rx;obtain⟨t',rfl⟩:=ry;exact rule i j t t' s _ _ ⟨.int (g i j),H,I.tok _,⟨_,rfl⟩,q⟩
theorem EY{f:Value->Value->Sem Value}{g:Int->Int->Bool}
  (rule:∀(i j:Int) (t u:Tok) (s:Shared) (Q:Zc) (E:Zc),Q (.bool (g i j)) s->wpAny (model X.prog X.w) X.A (f (.int i t) (.int j u)) Q E s) :
  mS X f (As fun i j=>.bl (g i j)):=by
 intro J2 s σ H x y v u Q I rx ry h;obtain⟨i,j,rfl,rfl,q⟩:=h;obtain⟨t,rfl⟩:=rx;obtain⟨t',rfl⟩:=ry;exact rule i j t t' s _ _ ⟨.bl (g i j),H,I,rfl,q⟩
def Hd(i j:Int):Prop:=0<j/\j<1073741824
def Hc(i j:Int):Prop:=0<=j/\j<=1000000/\i.natAbs<2 ^ 64
def Ef(i j:Int):Prop:=(-(2 ^ 64)<i/\i<2 ^ 64)∨(-(2 ^ 64)<j/\j<2 ^ 64)
theorem Ef.ok{i j:Int}(h:Ef i j):IntMulOk i j:=by
 rcases h with⟨h1,h2⟩|⟨h1,h2⟩
 ·exact .of_left (intBits_le_64 h1 h2)
 ·exact .of_right (intBits_le_64 h1 h2)
theorem cg:mS X (lX .Add) (As fun i j=>.int (i+j)):=GO fun _ _ _ _ _ _ _ q=>add_int q
theorem o8:mS X (lX .Sub) (As fun i j=>.int (i-j)):=GO fun _ _ _ _ _ _ _ q=>sub_int q
theorem iw:mS X (lX .Mult) (rI Ef fun i j=>.int (i * j)):=GP fun _ _ _ _ _ _ _ hc q=>mul_int q hc.ok
theorem AC:mS X (lX .FloorDiv) (rI Hd fun i j=>.int (i / j)):=GP fun i j _ _ _ _ _ hc q=>by
 have h1:(0:Int)<j:=hc.1;have h2:j<1073741824:=hc.2;exact floordiv_int (by omega) (by rw[Int.fdiv_eq_ediv_of_nonneg i (by omega)];exact q) (.inl (PyProof.noPylong_small (by omega)))
theorem gg:mS X (lX .Mod) (rI (fun _ j=>0<j) fun i j=>.int (i % j)):=GP fun i j _ _ _ _ _ hc q=>by
 have h1:(0:Int)<j:=hc;exact mod_int' (by omega) (by rw[Int.fmod_eq_emod_of_nonneg i (by omega)];exact q)
theorem Dh:mS X (lX .Pow) (rI Hc fun i j=>.int (i ^ j.toNat)):=GP fun _ _ _ _ _ _ _ hc q=>pow_int_small hc.1 hc.2.1 hc.2.2 q
end
def GG:V->V->Bool
 |.non,.non=>true | .non,.int _=>true | .int _,.non=>true | .non,.bl _=>true | .bl _,.non=>true | .non,.str _=>true | .str _,.non=>true
 |.int _,.int _=>true | .bl _,.bl _=>true | .str _,.str _=>true | .byt _,.byt _=>true
 |.int _,.str _=>true | .str _,.int _=>true | .bl _,.str _=>true | .str _,.bl _=>true
 |_,_=>false
def v5:R2:=fun x y H Q=>GG x y=true/\Q (.bl (decide (x=y))) H
def Hl:R2:=fun x y H Q=>GG x y=true/\Q (.bl (!decide (x=y))) H
theorem AS{i j:Int}:decide (V.int i=V.int j)=(i==j):=by
 rw[uj];simp
theorem DQ{i j:Bool}:decide (V.bl i=V.bl j)=(i==j):=by
 rw[uj];simp
theorem AQ{i j:Str}:decide (V.str i=V.str j)=(i==j):=by
 rw[uj];simp
theorem AT{i j:Array UInt8}:decide (V.byt i=V.byt j)=(i.toList==j.toList):=by
 rw[uj];cases i;cases j;simp
section
variable{X:Cx}{a b c:Expr}{ta tb tc:TE}{pos:Pos}
theorem bL{J2:Zd}{σ:St}{H:Hp}{s:Shared}{Q:VK}{k k':Bool}(I:Inv X J2 σ H s)(q:Q (.bl k) H)(e:k=k'):EP X J2 σ Q (.bool k') s:=by
 subst e;exact⟨.bl k,H,I,rfl,q⟩
theorem g8:mS X (eL .Eq) v5:=by
 intro J2 s σ H x y v u Q I rx ry h;obtain⟨hs,q⟩:=h;cases x with
 |non =>
  cases rx;cases y with
  |non=>cases ry;exact PySem.EqNone.eq_none_none (bL I q (by simp))
  |bl j=>cases ry;exact PySem.EqNone.eq_none_bool (bL I q (by simp))
  |int j=>obtain⟨t',rfl⟩:=ry;exact PySem.EqNone.eq_none_int (bL I q (by simp))
  |str j=>obtain⟨t',rfl⟩:=ry;exact PySem.EqNone.eq_none_str (bL I q (by simp))
  |_=>exact absurd (show false=true from hs) gD
 |bl i =>
  cases rx;cases y with
  |non=>cases ry;exact PySem.EqNone.eq_bool_none (bL I q (by simp))
  |bl j=>cases ry;exact eq_bool (bL I q DQ)
  |str j=>obtain⟨t',rfl⟩:=ry;exact PySem.EqMixed.eq_bool_str (bL I q (by simp))
  |_=>exact absurd (show false=true from hs) gD
 |int i =>
  obtain⟨t,rfl⟩:=rx;cases y with
  |non=>cases ry;exact PySem.EqNone.eq_int_none (bL I q (by simp))
  |int j=>obtain⟨t',rfl⟩:=ry;exact eq_int (bL I q AS)
  |str j=>obtain⟨t',rfl⟩:=ry;exact PySem.EqMixed.eq_int_str (bL I q (by simp))
  |_=>exact absurd (show false=true from hs) gD
 |str i =>
  obtain⟨t,rfl⟩:=rx;cases y with
  |non=>cases ry;exact PySem.EqNone.eq_str_none (bL I q (by simp))
  |bl j=>cases ry;exact PySem.EqMixed.eq_str_bool (bL I q (by simp))
  |int j=>obtain⟨t',rfl⟩:=ry;exact PySem.EqMixed.eq_str_int (bL I q (by simp))
  |str j=>obtain⟨t',rfl⟩:=ry;exact eq_str (bL I q AQ)
  |_=>exact absurd (show false=true from hs) gD
 |byt i =>
  obtain⟨t,rfl⟩:=rx;cases y with
  |byt j=>obtain⟨t',rfl⟩:=ry;exact PySem.W.eq_bytes (bL I q AT)
  |_=>exact absurd (show false=true from hs) gD
 |_=>cases y<;>exact absurd (show false=true from hs) gD
theorem Di:mS X (eL .NotEq) Hl:=by
 intro J2 s σ H x y v u Q I rx ry h;obtain⟨hs,q⟩:=h;cases x with
 |non =>
  cases rx;cases y with
  |non=>cases ry;exact PySem.EqNone.ne_none_none (bL I q (by simp))
  |bl j=>cases ry;exact PySem.EqNone.ne_none_bool (bL I q (by simp))
  |int j=>obtain⟨t',rfl⟩:=ry;exact PySem.EqNone.ne_none_int (bL I q (by simp))
  |str j=>obtain⟨t',rfl⟩:=ry;exact PySem.EqNone.ne_none_str (bL I q (by simp))
  |_=>exact absurd (show false=true from hs) gD
 |bl i =>
  cases rx;cases y with
  |non=>cases ry;exact PySem.EqNone.ne_bool_none (bL I q (by simp))
  |bl j=>cases ry;exact ne_bool (bL I q (congrArg not DQ))
  |str j=>obtain⟨t',rfl⟩:=ry;exact PySem.EqMixed.ne_bool_str (bL I q (by simp))
  |_=>exact absurd (show false=true from hs) gD
 |int i =>
  obtain⟨t,rfl⟩:=rx;cases y with
  |non=>cases ry;exact PySem.EqNone.ne_int_none (bL I q (by simp))
  |int j=>obtain⟨t',rfl⟩:=ry;exact ne_int (bL I q (congrArg not AS))
  |str j=>obtain⟨t',rfl⟩:=ry;exact PySem.EqMixed.ne_int_str (bL I q (by simp))
  |_=>exact absurd (show false=true from hs) gD
 |str i =>
  obtain⟨t,rfl⟩:=rx;cases y with
  |non=>cases ry;exact PySem.EqNone.ne_str_none (bL I q (by simp))
  |bl j=>cases ry;exact PySem.EqMixed.ne_str_bool (bL I q (by simp))
  |int j=>obtain⟨t',rfl⟩:=ry;exact PySem.EqMixed.ne_str_int (bL I q (by simp))
  |str j=>obtain⟨t',rfl⟩:=ry;exact ne_str (bL I q (congrArg not AQ))
  |_=>exact absurd (show false=true from hs) gD
 |byt i =>
  obtain⟨t,rfl⟩:=rx;cases y with
  |byt j=>obtain⟨t',rfl⟩:=ry;exact PySem.W.ne_bytes (bL I q (congrArg not AT))
  |_=>exact absurd (show false=true from hs) gD
 |_=>cases y<;>exact absurd (show false=true from hs) gD
theorem xD:mS X (eL .Lt) (As fun i j=>.bl (decide (i<j))):=EY fun _ _ _ _ _ _ _ q=>lt_int q
theorem GL:mS X (eL .LtE) (As fun i j=>.bl (decide (i<=j))):=EY fun _ _ _ _ _ _ _ q=>le_int q
theorem xE:mS X (eL .Gt) (As fun i j=>.bl (decide (j<i))):=EY fun _ _ _ _ _ _ _ q=>gt_int q
theorem GN:mS X (eL .GtE) (As fun i j=>.bl (decide (j<=i))):=EY fun _ _ _ _ _ _ _ q=>ge_int q
theorem BF:mS X (eL .In) (fun x y H Q=>∃i j,x=.str i/\y=.str j/\Q (.bl (!(cF.Str.occurrences j i 0 j.length 1).isEmpty)) H):=by
 intro J2 s σ H x y v u Q I rx ry h;obtain⟨i,j,rfl,rfl,q⟩:=h;obtain⟨t,rfl⟩:=rx;obtain⟨t',rfl⟩:=ry;exact in_str (bL I q rfl)
theorem Dk(b:Expr){op:CmpOp}(h:op≠.In:=by decide)(h2:op≠.NotIn:=by decide):j4 op b=false:=by
 have e1:(op==CmpOp.In)=false:=by cases op<;>first|rfl|exact absurd rfl h
 have e2:(op==CmpOp.NotIn)=false:=by cases op<;>first|rfl|exact absurd rfl h2
 cases b<;>simp[j4,e1,e2]
theorem Ax{op:CmpOp}{r:R2}(ho:mS X (eL op) r)(ha:PE X a ta)(hb:PE X b tb)(hm:j4 op b=false):PE X (.Compare a [op] [b] pos) (aJ r ta tb):=by
 intro J2 s σ H Q I h;exact wpAny_Compare1 (Gn ha hb I h fun v u s2 x y H2 I2 rx ry q=>ho J2 s2 σ H2 x y v u Q I2 rx ry q) hm
def aV(t:TE):TT:=fun σ H Q=>t σ H fun x H'=>∃k,x=.bl k/\Q k H'
theorem Au{op:CmpOp}{r:R2}(ho:mS X (eL op) r)(ha:PE X a ta)(hb:PE X b tb)(hm:j4 op b=false):PT X (.Compare a [op] [b] pos) (aV (aJ r ta tb)):=by
 intro J2 s σ H Q I h;refine wpAny_isTrue_Compare1 (cq (ha J2 s σ H _ I h) fun v s1 ⟨x,H1,I1,r1,q1⟩=>cq (hb J2 s1 σ H1 _ I1 q1) fun u s2 ⟨y,H2,I2,r2,q2⟩ =>
  cq (ho J2 s2 σ H2 x y v u _ I2 r1 r2 q2) fun c s3 ⟨z,H3,I3,r3,k,e,q3⟩=>?_) hm
 subst e;cases r3;exact pQ ⟨H3,I3,q3⟩
theorem o_:(aj:Nat)<2 ^ 63:=by rw[pL];decide
theorem sv:mS X (lX .Add) (fun x y H Q=>∃i j,x=.str i/\y=.str j/\i.length+j.length<=aj/\Q (.str (i++j)) H):=by
 intro J2 s σ H x y v u Q I rx ry h;obtain⟨i,j,rfl,rfl,hz,q⟩:=h;obtain⟨t,rfl⟩:=rx;obtain⟨t',rfl⟩:=ry;exact add_str (fun t' tk=>⟨.str (i++j),H,I.tok _,⟨_,rfl⟩,q⟩) hz
theorem vals1{x:V}{us:Zf}(r:ba [x] us):∃u,us=[u]/\RelV x u:=by
 cases r with
 |cons r1 r2=>cases r2;exact⟨_,rfl,r1⟩
theorem vals2{x y:V}{us:Zf}(r:ba [x,y] us):∃u w',us=[u,w']/\RelV x u/\RelV y w':=by
 cases r with
 |cons r1 r2 =>
  cases r2 with
  |cons r3 r4=>cases r4;exact⟨_,_,rfl,r1,r3⟩
theorem BZ(hc:X.calm=true):fj X (.builtin "max") (fun xs H Q=>∃i j,xs=[.int i,.int j]/\Q (.int (if j > i then j else i)) H):=by
 intro J2 s σ H xs us Q I r h;obtain⟨i,j,rfl,q⟩:=h;obtain⟨u,w',rfl,⟨t,rfl⟩,⟨t',rfl⟩⟩:=vals2 r;refine max_two_ints (I.ok.hd hc) fun h' tk k=>⟨_,H,I.kept k,?_,q⟩;by_cases hj:j > i
 ·rw[if_pos hj,if_pos hj];exact⟨_,rfl⟩
 ·rw[if_neg hj,if_neg hj];exact⟨_,rfl⟩
end
end L2
namespace L2
open PySem PySem.Spec PyProof.Rows
structure zT(h:Heap)(x dx C:Addr)(mA:Str->Option Value):Prop where
 obj:h.get? x=some (pP C dx)
 ns:h.Ns1 dx mA
 ne:dx≠x
theorem BK{h:Heap}{dx:Addr}{mA:Str->Option Value}(n:h.Ns1 dx mA):∃od,h.get? dx=some od/\∀name,Ab name od=some (mA name):=by
 obtain⟨o,es,ep,ho,hd,hk,_,hm⟩:=n;refine⟨o,ho,fun name=>?_⟩;have e:=hm name;unfold nsFind findBy at e;rw[<-Array.find?_toList]at e;unfold Ab;rw[hd];dsimp only;split
 ·rename_i y q;rw[q]at e;exact congrArg some e
 ·rename_i q;rw[q]at e;have a:es.toList.any (·.refKey)=false:=by
   rw[List.any_eq_false];intro y hy;obtain⟨z,t,hkey⟩:=hk y (Array.mem_toList_iff.mp hy);simp[kz.refKey,hkey]
  have a':¬es.toList.any (·.refKey)=true:=by rw[a];exact gD
  rw[if_neg a'];exact congrArg some e
theorem zT.look{h:Heap}{x dx C:Addr}{mA:Str->Option Value}(I:zT h x dx C mA):∃od,PySem.W.InstAt h x (pP C dx) C (some od)/\∀name,Ab name od=some (mA name) :=
 let⟨od,ho,hl⟩:=BK I.ns
 ⟨od,⟨I.obj,rfl,rfl,ho⟩,hl⟩
section
variable{prog:bM}{w:World}{A:Around}{E:Zc}{s:Shared}{K:Za}{x dx C f:Addr}{mA:Str->Option Value}{name:Str}{v:Value}
theorem Fe{expr:Bool}{Q:Zc}(X:K.In s.heap)(I:zT s.heap x dx C mA)(hg:pK K C name=true)(hh:qP K C=true)
  (ha:ck K (.ref C) name=some none) (hv:mA name=some v) (hv':PySem.W.handedIn v=true) (h:Q v { s with toks:=s.toks+1 }) :
  wpAny (model prog w) A (getAttr (.ref x) name expr) Q E s:=by
 obtain⟨od,J,hl⟩:=I.look;exact PySem.W.get_value X J (PySem.W.plainGet_of hg).1 (PySem.W.findObj_own hh ha rfl (by rw[hl,hv])) hv' h
theorem DD{pl:Sem Bool}{Q:Value×List Value->Shared->Prop}(X:K.In s.heap)(I:zT s.heap x dx C mA)(hg:pK K C name=true)
  (hf:ck K (.ref C) name=some (some (.ref f))) (ht:wS K (.ref f)=true) (hv:mA name=none) (h:Q (.ref f,[.ref x]) s) :
  wpAny (model prog w) A (pJ (.ref x) name pl) Q E s:=by
 obtain⟨od,J,hl⟩:=I.look;exact PySem.W.method_fn X J (PySem.W.plainGet_of hg).1 (PySem.W.plainGet_of hg).2 hf (beq_iff_eq.mp ht) (by show(Ab name od).map (·.isSome)=some false;rw[hl,hv];rfl) h
theorem ED{ns:Zb}{Q:Unit->Shared->Prop}(X:K.In s.heap)(I:zT s.heap x dx C mA)
  (hs:ck K (.ref C) "__setattr__"=some (some (.builtin "object.__setattr__"))) (hp:ui K C=true) (ht:PySem.W.takerIn K C name=some none) (hh:qP K C=true)
  (hw:PySem.Within mA ns) (hsz:ns.length<=aj)
  (h:∀h',zT h' x dx C (fun y=>if y=name then some v else mA y)->iE dx s.heap h'->Q () { s with heap:=h',toks:=s.toks+2 }) :
  wpAny (model prog w) A (setAttr (.ref x) name v) Q E s:=by
 obtain⟨od,J,hl⟩:=I.look;refine PySem.W.set_plain X J hs (PySem.W.osa_open (s:={ s with toks:=s.toks+1 }) (r:=none) X J hp ht fun b=>?_);obtain⟨cd,hc,hd'⟩:=PySem.W.any_some hh;have hx:s.heap.get? x=some ⟨.ref C,some dx,.plain,#[]⟩:=I.obj;refine ap (aX (ap (ap (wpAny_loadPart hx (ap (PySem.W.Looks.here (s:={ s with toks:=s.toks+1 }) (PySem.W.looks_clsIn X hc) ?_))))));rw[hd'];refine aX (a:=some dx) (ap (aX (ap ?_)));refine wpAny_nsSet1 (s:={ s with toks:=s.toks+1 }) I.ns fun h' hn2 hs2=>?_;obtain⟨oD,esD,epD,hoD,hdD,hcD⟩:=hn2.count (PySem.Within.cons name v hw);refine ap (wpAny_lookBehind hoD (by rw[hdD];exact pastItsLine_dict (aD hcD (by rw[fb];omega))) ?_);exact aX (h _ ⟨(hs2.2 _ (ii I.ne)).trans I.obj,hn2,I.ne⟩ hs2)
theorem Ds{R:Result->Shared->Prop}{vs:Zf}{kw:List (Str×Value)}(X:K.In s.heap)(hm:kj K C=true)
  (hi:ck K (.ref C) "__init__"=some (some (.ref f))) (hf:PySem.W.typeIn K (.ref f)=some (.type "function"))
  (h:zzl77 (model prog w) (A.under (.builtin "type.__call__" ⟨.ref C::vs,kw⟩)) (.call (.ref f) ⟨.ref (s.heap.objs.size+1)::vs,kw⟩) (PySem.W.InitBack (s.heap.objs.size+1) R)
   { s with heap:=(s.heap.push nq).push (pP C s.heap.objs.size) }) :
  zzl77 (model prog w) A (.call (.ref C) ⟨vs,kw⟩) R s:=by
 obtain⟨hh,g,d,t,os⟩:=s;exact PySem.W.make_core (PySem.W.makes_of X hm) (PySem.W.looks_findIn X hi) (fun self=>PySem.W.bind_fn X self hf) (.inl rfl) h
end
def cp(f:Str)(v:V):List (Str×V)->List (Str×V)
 |[]=>[(f,v)]
 | (g,x)::r=>if g=f then(g,v)::r else(g,x)::cp f v r
theorem aO(f g:Str)(v:V):∀fs:List (Str×V),(cp f v fs).lookup g=if g=f then some v else fs.lookup g
 |[]=>by
  show eC g [(f,v)]=_;by_cases h:g=f
  ·have hb:(g==f)=true:=beq_iff_eq.mpr h;simp only[eC,hb,if_pos h]
  ·have hb:(g==f)=false:=beq_eq_false_iff_ne.mpr h;simp only[eC,hb,if_neg h]
 | (k,x)::r=>by
  have ih:=aO f g v r;rw[show cp f v ((k,x)::r)=(if k=f then(k,v)::r else(k,x)::cp f v r)from rfl]
  by_cases hk:k=f
  ·rw[if_pos hk];by_cases h:g=k
   ·have hb:(g==k)=true:=beq_iff_eq.mpr h;simp only[eC,hb,if_pos (h.trans hk)]
   ·have hb:(g==k)=false:=beq_eq_false_iff_ne.mpr h;simp only[eC,hb,if_neg (fun e:g=f=>h (e.trans hk.symm))]
  ·rw[if_neg hk];by_cases h:g=k
   ·have hb:(g==k)=true:=beq_iff_eq.mpr h;simp only[eC,hb,if_neg (fun e:g=f=>hk (h.symm.trans e))]
   ·have hb:(g==k)=false:=beq_eq_false_iff_ne.mpr h;simp only[eC,hb];exact ih
theorem pc(f:Str)(v:V):∀fs:List (Str×V),f∈(cp f v fs).map (·.1)/\∀g,g∈fs.map (·.1)->g∈(cp f v fs).map (·.1)
 |[]=>⟨by simp[cp],fun g h=>by simp at h⟩
 | (k,x)::r=>by
  obtain⟨i1,i2⟩:=pc f v r;rw[show cp f v ((k,x)::r)=(if k=f then(k,v)::r else(k,x)::cp f v r)from rfl]
  by_cases hk:k=f
  ·rw[if_pos hk];subst hk;exact⟨by simp,fun g h=>by simpa using h⟩
  ·rw[if_neg hk];refine⟨?_,fun g h=>?_⟩
   ·rw[bj];exact fq _ i1
   ·rw[bj]at h ⊢;rcases cA.mp h with e|e
    ·exact cA.mpr (.inl e)
    ·exact fq _ (i2 g e)
theorem pX(f:Str)(v:V):∀fs:List (Str×V),(cp f v fs).length<=fs.length+1
 |[]=>by simp[cp]
 | (k,x)::r=>by
  have ih:=pX f v r;rw[show cp f v ((k,x)::r)=(if k=f then(k,v)::r else(k,x)::cp f v r)from rfl]
  by_cases hk:k=f
  ·rw[if_pos hk,fb,fb];omega
  ·rw[if_neg hk,fb,fb];omega
theorem kf.some_of{v:V}{o:Option Value}(r:kf (some v) o):∃u,o=some u/\RelV v u:=by
 cases o with
 |none=>exact(show False from r).elim
 |some u=>exact⟨u,rfl,r⟩
theorem kf.none_of{o:Option Value}(r:kf none o):o=none:=by
 cases o with
 |none=>rfl
 |some u=>exact(show False from r).elim
theorem BQ{v:V}{u:Value}(r:RelV v u):PySem.W.handedIn u=true:=by
 cases v with
 |non=>cases(show u=Value.none from r);rfl
 |bl b=>cases(show u=Value.bool b from r);rfl
 |int i=>obtain⟨t,e⟩:=(show ∃t,u=Value.int i t from r);cases e;rfl
 |str x=>obtain⟨t,e⟩:=(show ∃t,u=Value.str x t from r);cases e;rfl
 |byt b=>obtain⟨t,e⟩:=(show ∃t,u=Value.bytes b t from r);cases e;rfl
 |flt b=>obtain⟨t,e⟩:=(show ∃t,u=Value.float b t from r);cases e;rfl
 |ref a=>cases(show u=Value.ref a from r);rfl
 |ty n=>cases(show u=Value.type n from r);rfl
section
variable{P:bM}{w:World}{H H':Hp}{h h':Heap}{a C dx:Addr}{fs fs':List (Str×V)}
theorem qH{K:Za}(hok:lI P w K H h)(e:H a=some (.ins C dx fs)):∃mA,zT h a dx C mA/\(∀f,kf (fs.lookup f) (mA f))/\PySem.Within mA (fs.map (·.1))/\fs.length<=1000/\H dx=some (.own a):=by
 obtain⟨d,z,ne,ob,mA,n,r,q⟩:=(show ca P w K H h a (.ins C dx fs)from hok a _ e);exact⟨mA,⟨ob,n,ne⟩,r,q,z,d⟩
end
structure yB(K:Za)(C:Addr):Prop where
 pg:pK K C wR=true
 hd:qP K C=true
 po:ui K C=true
 sa:ck K (.ref C) "__setattr__"=some (some (.builtin "object.__setattr__"))
theorem yB.get{K:Za}{C:Addr}(c:yB K C)(f:Str):pK K C f=true:=c.pg
def cw(K:Za)(C:Addr)(f:Str):Prop:=ck K (.ref C) f=some none
theorem cw.taker{K:Za}{C:Addr}{f:Str}(n:cw K C f):PySem.W.takerIn K C f=some none:=by
 unfold PySem.W.takerIn;rw[show ck K (.ref C) f=some none from n]
 rfl
structure Fu(K:Za)(C:Addr)(m:Str)(f:Addr):Prop where
 at_:ck K (.ref C) m=some (some (.ref f))
 fn:wS K (.ref f)=true
 kp:fk K (.ref f)=true
section
variable{X:Cx}{J2:Zd}{σ:St}{H:Hp}{s:Shared}{a C dx:Addr}{fs:List (Str×V)}{f:Str}{v:V}{A:Around}{E:Zc}
theorem zE{b:Bool}{Q:Zc}(I:Inv X J2 σ H s)(e:H a=some (.ins C dx fs))(c:yB X.K C)(n:cw X.K C f)(l:fs.lookup f=some v)
  (h:∀u s',Inv X J2 σ H s'->RelV v u->Q u s'):wpAny (model X.prog X.w) A (getAttr (.ref a) f b) Q E s:=by
 obtain⟨mA,O,r,_,_,_⟩:=qH I.hok e;obtain⟨u,hu,ru⟩:=kf.some_of (v:=v) (o:=mA f) (by rw[<-l];exact r f);exact Fe I.kIn O (c.get f) c.hd n hu (BQ ru) (h u _ (I.tok _) ru)
theorem sJ{m:Str}{g:Addr}{pl:Sem Bool}{Q:Value×List Value->Shared->Prop}(I:Inv X J2 σ H s)(e:H a=some (.ins C dx fs))(c:yB X.K C)(k:Fu X.K C m g)(l:fs.lookup m=none)
  (h:Q (.ref g,[.ref a]) s):wpAny (model X.prog X.w) A (pJ (.ref a) m pl) Q E s:=by
 obtain⟨mA,O,r,_,_,_⟩:=qH I.hok e;have hn:mA m=none:=kf.none_of (by rw[<-l];exact r m);exact DD I.kIn O (c.get m) k.at_ k.fn hn h
theorem yW{y:V}{u:Value}{Q:Unit->Shared->Prop}(I:Inv X J2 σ H s)(e:H a=some (.ins C dx fs))(c:yB X.K C)(n:cw X.K C f)(hl:fs.length<1000)(ry:RelV y u)
  (h:∀s',Inv X J2 σ (upd H a (.ins C dx (cp f y fs))) s'->Q () s'):wpAny (model X.prog X.w) A (setAttr (.ref a) f u) Q E s:=by
 obtain⟨mA,O,r,wi,_,ho⟩:=qH I.hok e;have hz:(fs.map (·.1)).length<=aj:=by rw[ah,pL];omega
 refine ED I.kIn O c.sa c.po n.taker c.hd wi hz fun h' O' sb=>h _ ?_;have hd:∃o,h'.get? dx=some o:=let⟨o,_,_,e',_⟩:=O'.ns;⟨o,e'⟩;refine I.write (x:=a) (e:=dx) (by rw[e];exact i5) (.inr ho) (fun b q hb z=>(sb.2 b hb).trans z) hd ?_;refine⟨by rw[ai O.ne];exact ho,?_,O.ne,O'.obj,_,O'.ns,fun g=>?_,fun g hg=>?_⟩
 ·have:=pX f y fs;omega
 ·show kf ((cp f y fs).lookup g) (if g=f then some u else mA g)
  rw[aO];by_cases q:g=f
  ·rw[if_pos q,if_pos q];exact ry
  ·rw[if_neg q,if_neg q];exact r g
 ·by_cases q:g=f
  ·rw[q];exact(pc f y fs).1
  ·refine(pc f y fs).2 g (wi g fun z=>hg ?_);show(if g=f then some u else mA g)=none
   rw[if_neg q];exact z
theorem Inv.made(I:Inv X J2 σ H s):Inv X J2 σ (upd (upd H s.heap.objs.size (.own (s.heap.objs.size+1))) (s.heap.objs.size+1) (.ins C s.heap.objs.size []))
  { s with heap:=(s.heap.push nq).push (pP C s.heap.objs.size) }:=by
 have e1:(s.heap.push nq).get? s.heap.objs.size=some nq:=cQ s.heap rfl;have e2:((s.heap.push nq).push (pP C s.heap.objs.size)).get? (s.heap.objs.size+1)=some (pP C s.heap.objs.size):=by
  have:=cQ (s.heap.push nq) (o:=pP C s.heap.objs.size) rfl;rwa[pI]at this
 have e3:(s.heap.push nq).Ns s.heap.objs.size (fun _=>none):=⟨nq,#[],_,e1,rfl,(fun e he=>absurd he (by simp)),fun _=>rfl⟩;have I1:=I.laid (a:=s.heap.objs.size) (o:=.own (s.heap.objs.size+1)) (h':=s.heap.push nq) (t':=s.toks) (fun b u q=>bv _ q) (aA _) ⟨_,e1⟩;refine I1.laid (a:=s.heap.objs.size+1) (o:=.ins C s.heap.objs.size []) (t':=s.toks) (fun b u q=>bv _ q) (Aa (pI _ _)) ?_;have ne:s.heap.objs.size≠s.heap.objs.size+1:=cE (Nat.lt_succ_self _);refine⟨by rw[ai ne,aa],eK _,ne,e2,fun _=>none,(Heap.Ns1.of_empty e3).at fun o q=>bv _ q,fun _=>i5,fun y hy=>absurd rfl hy⟩
theorem Fn{prog:bM}{w:World}{env:Env}{e:Expr}{f:Str}{pos:Pos}{s:Shared}{Q:Zc}(hb:uh e f env (eval e env)=eval e env)
  (h:wpAny (model prog w) A (eval e env) (fun o s₁=>wpAny (model prog w) A (getAttr o f true) Q E s₁) E s):wpAny (model prog w) A (eval (.Attribute e f pos) env) Q E s :=
 Attribute_any_ h (by rw[arm_eval_Attribute,hb])
end
def eN(K:Za)(ta:TE)(f:Str):TE:=fun σ H Q=>ta σ H fun x H1=>∃a C dx fs v,x=.ref a/\H1 a=some (.ins C dx fs)/\yB K C/\cw K C f/\fs.lookup f=some v/\Q v H1
def ka(K:Za)(ta tv:TE)(f:Str):TS:=fun D σ H=>tv σ H fun y H1=>ta σ H1 fun x H2=>∃a C dx fs,x=.ref a/\H2 a=some (.ins C dx fs)/\yB K C/\cw K C f/\fs.length<1000 /\
 D.nx σ (upd H2 a (.ins C dx (cp f y fs)))
section
variable{X:Cx}{o e value:Expr}{f:Str}{pos pos' J6:Pos}{ta tv:TE}
theorem bZ(he:PE X e ta)(hb:uh e f X.env (eval e X.env)=eval e X.env):PE X (.Attribute e f pos) (eN X.K ta f):=by
 intro J2 s σ H Q I h;refine Fn hb (cq (he J2 s σ H _ I h) fun u s1 ⟨x,H1,I1,rx,a,C,dx,fs,v,ex,ea,c,n,l,q⟩=>?_);subst ex;obtain rfl:u=Value.ref a:=rx;exact zE I1 ea c n l fun u' s2 I2 ru=>⟨v,H1,I2,ru,q⟩
theorem dO(ha:PE X o ta)(hv:PE X value tv)(hs:pM value (some (.Attribute o f pos')) pos.line X.env=pure false):PS X (.Assign [.Attribute o f pos'] value pos) (ka X.K ta tv f):=by
 intro J2 s σ H D I h;refine plainObj_wpAny_Assign_Attribute (cq (hv J2 s σ H _ I h) fun u s1 ⟨y,H1,I1,ry,q⟩=>cq (ha J2 s1 σ H1 _ I1 q) fun ov s2 ⟨x,H2,I2,rx,a,C,dx,fs,ex,ea,c,n,l,q2⟩=>?_) hs;subst ex;obtain rfl:ov=Value.ref a:=rx;exact yW I2 ea c n l ry fun s3 I3=>⟨σ,_,I3,q2⟩
end
section
variable{X:Cx}{J2:Zd}{σ:St}{H:Hp}{s:Shared}{A:Around}{E:Zc}{Q:Zc}{c:Value}{b:Bool}
inductive mP(K:Za)(H:Hp):V->Value->Prop where
 |non:mP K H .non (.type "NoneType")
 |bl (x:Bool):mP K H (.bl x) (.type "bool")
 |int (i:Int):mP K H (.int i) (.type "int")
 |str (x:Str):mP K H (.str x) (.type "str")
 |flt (x:UInt64):mP K H (.flt x) (.type "float")
 |lst {a:Addr}{xs:List V}(e:H a=some (.lst xs)):mP K H (.ref a) (.type "list")
 |frz {a:Addr}{o:Obj}{xs:List V}(e:H a=some (.frz o (.lst xs))):mP K H (.ref a) (.type "list")
 |tup {a:Addr}{xs:List V}(e:H a=some (.tup xs)):mP K H (.ref a) (.type "tuple")
 |dK {a:Addr}{kvs:List (em×V)}(e:H a=some (.dK kvs)):mP K H (.ref a) (.type "dict")
 |dT {a:Addr}{kvs:List (TK×V)}(e:H a=some (.dT kvs)):mP K H (.ref a) (.type "dict")
 |ins {a C dx:Addr}{fs:List (Str×V)}(e:H a=some (.ins C dx fs)) (cl:yB K C) (ha:ck K (.ref C) "__class__"=some (some (.builtin "object.__class__")))
   (hn:PySem.W.specialIn K (.builtin "object.__class__") "__get__"=some (some (.builtin "getset_descriptor.__get__"))) (htk:PySem.W.takesIn K (.builtin "object.__class__")=some true)
   (hm:PySem.W.mroIn K C (.type "object")=some true):mP K H (.ref a) (.ref C)
theorem BM{x:V}{u t:Value}(I:Inv X J2 σ H s)(rx:RelV x u)(ty:mP X.K H x t)(e:z_ X.K t c=some b)(h:∀tk,Q (.bool b) { s with toks:=tk }):
  wpAny (model X.prog X.w) A (call (.builtin "isinstance") [u,c]) Q E s:=by
 cases ty with
 |non=>cases(show u=Value.none from rx);exact i4 PySem.W.kitx_none I.kIn i5 e (fun z=>nomatch z) h
 |bl y=>cases(show u=Value.bool y from rx);exact i4 PySem.W.kitx_bool I.kIn i5 e (fun z=>nomatch z) h
 |int i=>obtain⟨t,q⟩:=(show ∃t,u=Value.int i t from rx);cases q;exact i4 PySem.W.kitx_int I.kIn i5 e (fun z=>nomatch z) h
 |str y=>obtain⟨t,q⟩:=(show ∃t,u=Value.str y t from rx);cases q;exact i4 PySem.W.kitx_str I.kIn i5 e (fun z=>nomatch z) h
 |flt y=>obtain⟨t,q⟩:=(show ∃t,u=Value.float y t from rx);cases q;exact i4 PySem.W.kitx_float I.kIn i5 e (fun z=>nomatch z) h
 |@lst a xs ea =>
  cases(show u=Value.ref a from rx);obtain⟨_,_,n,_,h1⟩:=(show ca X.prog X.w X.K H s.heap a (.lst xs)from I.hok a _ ea);exact i4 PySem.W.kitx_list I.kIn ⟨_,h1,rfl⟩ e (fun z=>nomatch z) h
 |@frz a ob xs ea =>
  cases(show u=Value.ref a from rx);obtain⟨_,_,_,n,_,h1⟩:=(show ca X.prog X.w X.K H s.heap a (.frz ob (.lst xs))from I.hok a _ ea);exact i4 PySem.W.kitx_list I.kIn ⟨_,h1,rfl⟩ e (fun z=>nomatch z) h
 |@tup a xs ea =>
  cases(show u=Value.ref a from rx);obtain⟨_,_,_,p⟩:=(show ca X.prog X.w X.K H s.heap a (.tup xs)from I.hok a _ ea);obtain⟨o,h1,h2,_⟩:=p;exact i4 PySem.W.kitx_tuple I.kIn ⟨o,h1,h2⟩ e (fun z=>nomatch z) h
 |@dK a kvs ea =>
  cases(show u=Value.ref a from rx);obtain⟨_,_,vs,_,p⟩:=(show ca X.prog X.w X.K H s.heap a (.dK kvs)from I.hok a _ ea);obtain⟨o,es,ep,h1,h2,_⟩:=p;exact i4 PySem.W.kitx_dict I.kIn ⟨o,h1,h2.1⟩ e (fun z=>nomatch z) h
 |@dT a kvs ea =>
  cases(show u=Value.ref a from rx);obtain⟨_,_,xs,_,o,es,ep,h1,h2,_⟩:=(show ca X.prog X.w X.K H s.heap a (.dT kvs)from I.hok a _ ea);exact i4 PySem.W.kitx_dict I.kIn ⟨o,h1,h2.1⟩ e (fun z=>nomatch z) h
 |@ins a C dx fs ea cl ha hn htk hm =>
  cases(show u=Value.ref a from rx);obtain⟨mA,O,_⟩:=qH I.hok ea;obtain⟨od,J,_⟩:=O.look;exact i4 (PySem.W.kitx_own (cl.get _) cl.hd ha hn htk hm) I.kIn J e (fun z=>nomatch z) h
end
end L2
namespace L2
open PySem PySem.Spec PyProof.Rows
structure ei(k:Nat)(A:Around):Prop where
 hd:A.handled=none
 dp:A.depth+3 * k+5<recursionLimit
 un:A.units+16 * k+200<cLine
theorem ei.mono{j k:Nat}{A:Around}(r:ei k A)(h:j<=k):ei j A:=⟨r.hd,by have:=r.dp;omega,by have:=r.un;omega⟩
theorem ei.deeper{k:Nat}{A:Around}(r:ei (k+1) A)(env:Env):ei k (A.deeper env) :=
 ⟨r.hd,by have:=r.dp;show A.depth+1+3 * k+5<_;omega,by have:=r.un;show A.units+3+16 * k+200<_;omega⟩
theorem zq{A:Around}{C:Addr}{us:Zf}{kw:List (Str×Value)}:(A.under (.builtin "type.__call__" ⟨.ref C::us,kw⟩)).depth=A.depth+1:=by
 first|rfl|simp[Around.under,Code.weight,Code.isCreation,Code.isGuard,Code.isCaller,Code.frames,Code.isFrame,guardIds]
theorem zm{A:Around}{C:Addr}{us:Zf}{kw:List (Str×Value)}:(A.under (.builtin "type.__call__" ⟨.ref C::us,kw⟩)).units=A.units+1:=by
 first|rfl|simp[Around.under,Code.cUnits,Code.frames,Code.isFrame]
theorem ei.make{k:Nat}{A:Around}(r:ei (k+1) A)(C:Addr)(us:Zf)(kw:List (Str×Value)):ei k (A.under (.builtin "type.__call__" ⟨.ref C::us,kw⟩)) :=
 ⟨r.hd,by have:=r.dp;rw[zq];omega,by have:=r.un;rw[zm];omega⟩
theorem ei.depth{k:Nat}{A:Around}(r:ei k A):A.depth<recursionLimit:=by have:=r.dp;omega
theorem ei.units{k:Nat}{A:Around}(r:ei k A):A.units+64<cLine:=by have:=r.un;omega
def bm:TA:=fun _ H Q=>Q [] H
def ao(ta:TE)(tr:TA):TA:=fun σ H Q=>ta σ H fun x H1=>tr σ H1 fun xs H2=>Q (x::xs) H2
abbrev ay(a:TE):TA:=ao a bm
abbrev aS(a b:TE):TA:=ao a (ao b bm)
abbrev bX(a b c:TE):TA:=ao a (ao b (ao c bm))
section
variable{X:Cx}{e:Expr}{es:List Expr}{te:TE}{t:TA}{pos:Pos}
theorem cM:PA X [] bm:=fun _ _ _ _ H Q I h=>Calls.spliced_nil ⟨[],H,I,.nil,h⟩
theorem aQ(ha:PE X e te)(hr:PA X es t)(hs:aK (e::es) X.env=(false,eval e X.env)::aK es X.env:=by rfl):PA X (e::es) (ao te t):=by
 intro pos J2 s σ H Q I h;rw[hs];show wpAny _ _ (spliced ((false,eval e X.env)::backTo pos (aK es X.env))) _ _ s;refine z9 (cq (ha J2 s σ H _ I h) fun u s1 ⟨x,H1,I1,r1,q1⟩=>?_);exact cq (hr pos J2 s1 σ H1 _ I1 q1) fun us s2 ⟨xs,H2,I2,r2,q2⟩=>⟨x::xs,H2,I2,.cons r1 r2,q2⟩
def bo(t:TA):TE:=fun σ H Q=>t σ H fun xs H1=>xs.length<=aj/\∀p,H1 p=none->Q (.ref p) (upd H1 p (.tup xs))
def cK(t:TA):TE:=fun σ H Q=>t σ H fun xs H1=>xs.length<=aj/\∀p,H1 p=none->Q (.ref p) (upd H1 p (.lst xs))
theorem aB{x1}(h:PA X es t):PE X (.Tuple es x1 pos) (bo t):=by
 intro J2 s σ H Q I hq;refine wpAny_Tuple_spliced (cq (h pos J2 s σ H _ I hq) fun us s1 ⟨xs,H1,I1,r,z,q⟩=>⟨by rw[<-r.length];exact z,?_⟩);have hf:H1 s1.heap.objs.size=none:=I1.hok.fresh (aA _);refine⟨.ref s1.heap.objs.size,upd H1 s1.heap.objs.size (.tup xs),I1.laid (t':=s1.toks) (fun b u e=>bv _ e) (aA _) ?_,rfl,q _ hf⟩;exact⟨z,us,r,⟨_,cQ _ rfl,rfl,_,rfl⟩⟩
theorem bg(h:PA X es t):PE X (.List es pos) (cK t):=by
 intro J2 s σ H Q I hq;refine wpAny_List_spliced (cq (h pos J2 s σ H _ I hq) fun us s1 ⟨xs,H1,I1,r,z,q⟩=>⟨by rw[<-r.length];exact z,?_⟩);have hf:H1 s1.heap.objs.size=none:=I1.hok.fresh (aA _);refine⟨.ref s1.heap.objs.size,upd H1 s1.heap.objs.size (.lst xs),I1.laid (t':=s1.toks) (fun b u e=>bv _ e) (aA _) ?_,rfl,q _ hf⟩;exact⟨z,us,0,r,cQ _ rfl⟩
end
abbrev Sp:=List V->Hp->VK->XK->Prop
abbrev Co:=List Env->Hp->Shared->XK->Value->Shared->Prop
structure zZ(P:bM)(w:World)(K:Za)(mg:Str->Option Value)(base:Heap)(A:Around)(outer:List Env)(s:Shared)(H:Hp):Prop where
 frames:A.frames=some outer
 mod:Mod K mg base
 bs:∀b o,base.get? b=some o->s.heap.get? b=some o/\H b=none
 bsz:base.objs.size<=s.heap.objs.size
 funs:s.heap.FunFrames base outer
 frf:∀b∈Cj outer,H b=none
 hok:lI P w K H s.heap
 bare:nr s.gens
def CE(outer:List Env)(P:bM)(w:World)(K:Za)(H:Hp)(s:Shared)(Q:VK)(u:Value)(s':Shared):Prop :=
 ∃v H',s'.os=s.os/\nr s'.gens/\Un (Cj outer) [] H H' s.heap s'.heap/\lI P w K H' s'.heap/\RelV v u/\Q v H'
def CR(CX:Co)(outer:List Env)(P:bM)(w:World)(K:Za)(H:Hp)(s:Shared)(Q:VK)(E:XK)(r:Result)(s':Shared):Prop :=
 match r with
 |.ok (.ret u)=>CE outer P w K H s Q u s'
 |.ok _=>False
 |.error e=>CX outer H s E e s'
structure k5(P:bM)(w:World)(K:Za)(mg:Str->Option Value)(base:Heap)(CX:Co)(k:Nat)(f:Addr)(fd:j3)(ps:Zb)(sp:Sp):Prop where
 len:∀vs H Q E,sp vs H Q E->vs.length=ps.length
 run:∀(A:Around) (outer:List Env) (s:Shared) (H:Hp) (args:Args) (us:Zf) (vs:List V) (Q:VK) (E:XK),ei k A->zZ P w K mg base A outer s H->qO s fd args (ps.zip us)->ba vs us->sp vs H Q E ->
  zzl77 (model P w) A (.call (.ref f) args) (CR CX outer P w K H s Q E) s
theorem zZ.make{P:bM}{w:World}{K:Za}{mg:Str->Option Value}{base:Heap}{A:Around}{outer:List Env}{s:Shared}{H:Hp}(e:zZ P w K mg base A outer s H)(C:Addr)(us:Zf)(kw:List (Str×Value)):
  zZ P w K mg base (A.under (.builtin "type.__call__" ⟨.ref C::us,kw⟩)) outer s H:=⟨by first|exact e.frames|(simpa[Around.under,Code.envs,Code.isFrame,pushEnvs]using e.frames),e.mod,e.bs,e.bsz,e.funs,e.frf,e.hok,e.bare⟩
section
variable{X:Cx}{J2:Zd}{σ:St}{H:Hp}{s s':Shared}
theorem Inv.env0(I:Inv X J2 σ H s):zZ X.prog X.w X.K X.mg X.base X.A X.stack s H :=
 ⟨I.ok.frames,I.ok.mod,I.bs,aD I.ok.bsz I.sz,I.stack,I.stkFree,I.hok,I.bare⟩
theorem Inv.after{Q:VK}{u:Value}(I:Inv X J2 σ H s)(h:CE X.stack X.prog X.w X.K H s Q u s'):EP X J2 σ Q u s':=by
 obtain⟨v,H',os,bare,un,hok,r,q⟩:=h;obtain⟨hh,g,d,t,os'⟩:=s';obtain rfl:os'=s.os:=os;exact⟨v,H',I.call (h':=hh) (g':=g) (d':=d) (t':=t) (ch:=[]) un hok bare (fun b z=>absurd z (by simp)),r,q⟩
end
def Fz(sp:Sp)(dvs:List V)(E:XK)(t:TA):TE:=fun σ H Q=>t σ H fun vs H1=>sp (vs++dvs) H1 Q E
def bY(C:Addr)(m:Str)(sp:Sp)(dvs:List V)(E:XK)(ta:TE)(t:TA):TE:=fun σ H Q=>ta σ H fun x H1=>∃a dx fs,x=.ref a/\H1 a=some (.ins C dx fs)/\fs.lookup m=none /\
 t σ H1 fun vs H2=>sp (x::(vs++dvs)) H2 Q E
def rF(C:Addr)(sp:Sp)(dvs:List V)(E:XK)(t:TA):TE:=fun σ H Q=>t σ H fun vs H1=>∀x dx,H1 x=none->H1 dx=none->dx≠x ->
 sp (.ref x::(vs++dvs)) (upd (upd H1 dx (.own x)) x (.ins C dx [])) (fun v H2=>v=.non/\Q (.ref x) H2) E
def Binds(K:Za)(fd:j3)(ps:Zb)(ds:Zf):Prop :=
 ∀(s:Shared) (us:Zf),K.In s.heap->(us++ds).length=ps.length->qO s fd ⟨us,[]⟩ (ps.zip (us++ds))
theorem Binds.all{K:Za}{fd:j3}{ps:Zb}(h:∀us:List Value,us.length=ps.length->bindArgs fd ⟨us,[]⟩=pure (ps.zip us)):Binds K fd ps []:=fun s us _ hl=>by
 rw[dD]at hl ⊢;exact .of_eq (h us hl)
def mR(CX:Co)(X:Cx)(E:XK):Prop:=∀(J2:Zd) (σ:St) (H:Hp) (s:Shared) (e:Value) (s':Shared),Inv X J2 σ H s->CX X.stack H s E e s'->X.xe e s'
section
variable{X:Cx}{CX:Co}{k:Nat}{f C:Addr}{fd:j3}{ps:Zb}{sp:Sp}{dvs:List V}{ds:Zf}{E:XK}{x m:Str}{p pos J4:Pos}{e o:Expr}{es:List Expr}{ta:TE}{t:TA}
theorem yX{J2:Zd}{σ:St}{H:Hp}{s:Shared}{Q:VK}{us:Zf}{vs:List V}(F:k5 X.prog X.w X.K X.mg X.base CX k f fd ps sp)(hr:ei k X.A)(hb:Binds X.K fd ps ds)(hd:ba dvs ds)(hx:mR CX X E)
  (I:Inv X J2 σ H s) (r:ba vs us) (h:sp (vs++dvs) H Q E):wpAny (model X.prog X.w) X.A (call (.ref f) us) (EP X J2 σ Q) X.xe s:=by
 have r2:ba (vs++dvs) (us++ds):=r.append hd;have hl:(us++ds).length=ps.length:=by rw[<-r2.length];exact F.len _ _ _ _ h
 refine wpAny_call (z7 (F.run X.A X.stack s H ⟨us,[]⟩ (us++ds) (vs++dvs) Q E hr I.env0 (hb s us I.kIn hl) r2 h) fun r s' hq=>?_);cases r with
 |error e=>exact hx J2 σ H s e s' I hq
 |ok fl =>
  cases fl with
  |ret u=>exact I.after hq
  |next=>exact i6 hq
  |brk=>exact i6 hq
  |cont=>exact i6 hq
theorem EW(F:k5 X.prog X.w X.K X.mg X.base CX k f fd ps sp)(hr:ei k X.A)(hg:Gl X x)(hm:X.mg x=some (.ref f))(hk:fk X.K (.ref f)=true)(hb:Binds X.K fd ps ds)(hd:ba dvs ds)(hx:mR CX X E)
  (ha:PA X (e::es) t) (hdb:(x==("__debug__":Str))=false:=by decide) (he:aK (e::es) X.env=(false,eval e X.env)::aK es X.env:=by rfl) (hpl:(backTo pos (aK es X.env)).any (·.1)=false:=by rfl) :
  PE X (.Call (.Name x p) (e::es) [] pos) (Fz sp dvs E t):=by
 intro J2 s σ H Q I h;refine z6 (we I hg hm ?_ hdb);refine PySem.W.callWith_K (h₀:=X.base) I.ok.mod.kin hk (cq (ha pos J2 s σ H _ I h) fun us s1 ⟨vs,H1,I1,r,q⟩=>⟨I1.kIn,?_⟩) he hpl;exact yX F hr hb hd hx I1 r q
theorem ES{pl:Sem Bool}(he:PE X o ta)(c:yB X.K C)(hm:Fu X.K C m f)(F:k5 X.prog X.w X.K X.mg X.base CX k f fd ps sp)(hr:ei k X.A)(hb:Binds X.K fd ps ds)(hd:ba dvs ds)(hx:mR CX X E)(ha:PA X (e::es) t)
  (hst:aK (e::es) X.env=(false,eval e X.env)::aK es X.env:=by rfl) (hpl:(backTo pos (aK es X.env)).any (·.1)=false:=by rfl)
  (ht:eval (.Call (.Attribute o m J4) (e::es) [] pos) X.env=(do
   let ov <- eval o X.env
   pN J4.atName
   let(f,first) <- km [ov] (pJ ov m pl)
   ug pos f first (backTo pos (aK (e::es) X.env)) (np pos (nn [] X.env))):=by rfl) :
  PE X (.Call (.Attribute o m J4) (e::es) [] pos) (bY C m sp dvs E ta t):=by
 intro J2 s σ H Q I h;refine PySem.W.methodCall_KW (pl:=pl) (cq (he J2 s σ H _ I h) fun u s1 ⟨x,H1,I1,rx,a,dx,fs,ex,ea,l,q⟩=>?_) ht;subst ex;obtain rfl:u=Value.ref a:=rx;refine sJ I1 ea c hm l ?_;refine PySem.W.callWith_K (first:=[.ref a]) (h₀:=X.base) I.ok.mod.kin hm.kp (cq (ha pos J2 s1 σ H1 _ I1 q) fun us s2 ⟨vs,H2,I2,r,q2⟩=>⟨I2.kIn,?_⟩) hst hpl
 exact yX (us:=.ref a::us) (vs:=.ref a::vs) F hr hb hd hx I2 (.cons rfl r) q2
theorem Dg{pl:Sem Bool}(he:PE X o ta)(c:yB X.K C)(hm:Fu X.K C m f)(F:k5 X.prog X.w X.K X.mg X.base CX k f fd ps sp)(hr:ei k X.A)(hb:Binds X.K fd ps ds)(hd:ba dvs ds)(hx:mR CX X E)
  (ht:eval (.Call (.Attribute o m J4) [] [] pos) X.env=(do
   let ov <- eval o X.env
   pN J4.atName
   let(f,first) <- km [ov] (pJ ov m pl)
   ug pos f first (backTo pos (aK [] X.env)) (np pos (nn [] X.env))):=by rfl) :
  PE X (.Call (.Attribute o m J4) [] [] pos) (bY C m sp dvs E ta bm):=by
 intro J2 s σ H Q I h;refine PySem.W.methodCall_KW (pl:=pl) (cq (he J2 s σ H _ I h) fun u s1 ⟨x,H1,I1,rx,a,dx,fs,ex,ea,l,q⟩=>?_) ht;subst ex;obtain rfl:u=Value.ref a:=rx;refine sJ I1 ea c hm l ?_;exact PySem.W.callWith_K0 (first:=[.ref a]) I1.kIn hm.kp (yX (us:=[.ref a]) (vs:=[.ref a]) F hr hb hd hx I1 (.cons rfl .nil) q)
structure Mk(K:Za)(C f:Addr):Prop where
 makes:kj K C=true
 init:ck K (.ref C) "__init__"=some (some (.ref f))
 fn:wS K (.ref f)=true
 kp:fk K (.ref C)=true
theorem CG{J2:Zd}{σ:St}{H:Hp}{s:Shared}{Q:VK}{us:Zf}{vs:List V}(M:Mk X.K C f)(F:k5 X.prog X.w X.K X.mg X.base CX k f fd ps sp)(hr:ei (k+1) X.A)(hb:Binds X.K fd ps ds)(hd:ba dvs ds)
  (hx:mR CX X E) (I:Inv X J2 σ H s) (r:ba vs us)
  (h:∀x dx,H x=none->H dx=none->dx≠x->sp (.ref x::(vs++dvs)) (upd (upd H dx (.own x)) x (.ins C dx [])) (fun v H2=>v=.non/\Q (.ref x) H2) E) :
  wpAny (model X.prog X.w) X.A (call (.ref C) us) (EP X J2 σ Q) X.xe s:=by
 have hq:=h (s.heap.objs.size+1) s.heap.objs.size (I.hok.fresh (uf _)) (I.hok.fresh (aA _)) (cE (Nat.lt_succ_self _));have I2:=Inv.made (C:=C) I;have r2:ba (V.ref (s.heap.objs.size+1)::(vs++dvs)) (Value.ref (s.heap.objs.size+1)::(us++ds)):=.cons rfl (r.append hd);have hl:(Value.ref (s.heap.objs.size+1)::us++ds).length=ps.length:=by
  have e:=r2.length;rw[F.len _ _ _ _ hq]at e;exact e.symm
 refine wpAny_call (Ds (f:=f) I.kIn M.makes M.init (beq_iff_eq.mp M.fn) (z7 (F.run _ X.stack _ _ ⟨Value.ref (s.heap.objs.size+1)::us,[]⟩ (Value.ref (s.heap.objs.size+1)::(us++ds)) _ _ E (hr.make C us [])
  (I2.env0.make C us []) (hb _ (Value.ref (s.heap.objs.size+1)::us) I2.kIn hl) r2 hq) fun r s' hq'=>?_))
 cases r with
 |error e=>exact hx J2 σ _ _ e s' I2 hq'
 |ok fl =>
  cases fl with
  |ret u =>
   obtain⟨v,H',I3,rv,ev,q3⟩:=I2.after hq';subst ev;exact⟨rv,⟨V.ref (s.heap.objs.size+1),H',I3,rfl,q3⟩⟩
  |next=>exact i6 hq'
  |brk=>exact i6 hq'
  |cont=>exact i6 hq'
theorem ET(M:Mk X.K C f)(F:k5 X.prog X.w X.K X.mg X.base CX k f fd ps sp)(hr:ei (k+1) X.A)(hg:Gl X x)(hm:X.mg x=some (.ref C))(hb:Binds X.K fd ps ds)(hd:ba dvs ds)(hx:mR CX X E)
  (ha:PA X (e::es) t) (hdb:(x==("__debug__":Str))=false:=by decide) (he:aK (e::es) X.env=(false,eval e X.env)::aK es X.env:=by rfl) (hpl:(backTo pos (aK es X.env)).any (·.1)=false:=by rfl) :
  PE X (.Call (.Name x p) (e::es) [] pos) (rF C sp dvs E t):=by
 intro J2 s σ H Q I h;refine z6 (we I hg hm ?_ hdb);refine PySem.W.callWith_K (h₀:=X.base) I.ok.mod.kin M.kp (cq (ha pos J2 s σ H _ I h) fun us s1 ⟨vs,H1,I1,r,q⟩=>⟨I1.kIn,?_⟩) he hpl;exact CG M F hr hb hd hx I1 r q
end
structure jQ(N P:Zb)(sc:Scope):Prop where
 kind:sc.kind=.function
 co:sc.isCoroutine=false
 gen:sc.isGenerator=false
 nd:N.Nodup
 pre:N.take P.length=P
 par:∀x∈P,sc.names.lookup x=some .local∨sc.names.lookup x=some .cell
 nofree:∀y∈sc.names,y.2≠.free
theorem uM{kindOf:Str->Option i3}{x:Str}:∀{binds:List (Str×Value)}{m:Str->Option Value},(∀v,(x,v)∉binds)->bindL kindOf binds m x=m x
 |[],_,_=>rfl
 | (n,v)::r,m,h=>by
  unfold bindL;rw[uM fun w hw=>h w (fq _ hw)];split
  ·have:x≠n:=by rintro rfl;exact h v fx
   simp[this]
  ·rfl
theorem uO{kindOf:Str->Option i3}{x:Str}:∀{binds:List (Str×Value)}{m:Str->Option Value},(∀v,(x,v)∉binds)->bindC kindOf binds m x=m x
 |[],_,_=>rfl
 | (n,v)::r,m,h=>by
  unfold bindC;rw[uO fun w hw=>h w (fq _ hw)];split
  ·rfl
  ·have:x≠n:=by rintro rfl;exact h v fx
   simp[this]
theorem uN{kindOf:Str->Option i3}{x:Str}{v:Value}:∀{P:Zb}{vs:Zf}{i:Nat}{m:Str->Option Value},P.Nodup->P[i]?=some x->vs[i]?=some v->kindOf x=some .local ->
  bindL kindOf (P.zip vs) m x=some v
 |[],_,_,_,_,h,_,_=>by simp at h
 |_::_,[],_,_,_,_,h,_=>by simp at h
 |p::P,w::vs,0,m,nd,h1,h2,hk=>by
  simp at h1 h2;subst h1;subst h2;show bindL kindOf ((p,w)::P.zip vs) m p=_;unfold bindL;rw[uM fun v hv=>(kD.mp nd).1 (List.of_mem_zip hv).1,if_pos hk];simp
 |p::P,w::vs,i+1,m,nd,h1,h2,hk=>by
  show bindL kindOf ((p,w)::P.zip vs) m x=_;unfold bindL;exact uN (i:=i) (kD.mp nd).2 (by simpa using h1) (by simpa using h2) hk
theorem uP{kindOf:Str->Option i3}{x:Str}{v:Value}:∀{P:Zb}{vs:Zf}{i:Nat}{m:Str->Option Value},P.Nodup->P[i]?=some x->vs[i]?=some v->kindOf x≠some .local ->
  bindC kindOf (P.zip vs) m x=some v
 |[],_,_,_,_,h,_,_=>by simp at h
 |_::_,[],_,_,_,_,h,_=>by simp at h
 |p::P,w::vs,0,m,nd,h1,h2,hk=>by
  simp at h1 h2;subst h1;subst h2;show bindC kindOf ((p,w)::P.zip vs) m p=_;unfold bindC;rw[uO fun v hv=>(kD.mp nd).1 (List.of_mem_zip hv).1,if_neg hk];simp
 |p::P,w::vs,i+1,m,nd,h1,h2,hk=>by
  show bindC kindOf ((p,w)::P.zip vs) m x=_;unfold bindC;exact uP (i:=i) (kD.mp nd).2 (by simpa using h1) (by simpa using h2) hk
def start(N:Zb)(vs:List V):St:=vs.map some++List.replicate (N.length-vs.length) none
def zI(CX:Co)(P:bM)(w:World)(K:Za)(mg:Str->Option Value)(base:Heap)(N:Zb)(qual:Str)(scope:Scope)(f:Addr)(cd:Value)(A:Around)(outer:List Env)(s:Shared)(H:Hp)(E:XK):Cx where
 prog:=P
 w:=w
 K:=K
 mg:=mg
 base:=base
 A:=A.deeper (envOfC qual scope s.heap.objs.size f cd)
 N:=N
 s₀:=s
 H₀:=H
 env:=envOfC qual scope s.heap.objs.size f cd
 outer:=outer
 stack:=envOfC qual scope s.heap.objs.size f cd::outer
 ex:=[]
 calm:=true
 fn:=fun _=>true
 pn:=[]
 xe:=fun e s'=>wpAny (model P w) (A.deeper (envOfC qual scope s.heap.objs.size f cd)) (leaving (envOfC qual scope s.heap.objs.size f cd) e) (fun _ s''=>CX outer H s E e s'') (fun e' s''=>CX outer H s E e' s'') s'
theorem x_{sc:Scope}{n:Nat}{x:Str}(h:sc.names.lookup x=some .cell):∃c,(cellsFrom n sc.names []).lookup x=some c:=by
 have q:=PySem.W.cellsFrom_some sc.names n [] (.inl h);exact vv.mp q
theorem BO{CX:Co}{P:bM}{w:World}{K:Za}{mg:Str->Option Value}{base:Heap}{N ps:Zb}{qual:Str}{scope:Scope}{f:Addr}{cd:Value}{A:Around}{outer:List Env}{s s1:Shared}{H:Hp}{E:XK}{us:Zf}{vs:List V}
  (S:jQ N ps scope) (hd:A.handled=none) (e0:zZ P w K mg base A outer s H) (hl:vs.length=ps.length) (r:ba vs us)
  (x:InCallC s s.heap.objs.size (bindL (envOfC qual scope s.heap.objs.size f cd).kindOf (ps.zip us) fun _=>none) (cellsFrom (s.heap.objs.size+1) scope.names []) (bindC (envOfC qual scope s.heap.objs.size f cd).kindOf (ps.zip us) fun _=>none) s1) :
  Inv (zI CX P w K mg base N qual scope f cd A outer s H E) [] (start N vs) H s1:=by
 have hpl:ps.length<=N.length:=by have:=congrArg List.length S.pre;rw[az]at this;omega
 obtain⟨h1,tk,rfl,hk⟩:=x.done;have noA:∀b:Addr,b∉(zI CX P w K mg base N qual scope f cd A outer s H E).ex:=fun b z=>absurd (show b∈([]:Ze)from z) (by simp);refine⟨⟨e0.mod,S.kind,rfl,rfl,aA _,fun y z c h1 h2=>?_,fun y hy=>?_,fun y c _ h=>?_,fun _=>hd,Around.frames_deeper e0.frames,.inr ⟨rfl,rfl⟩,fun b z=>absurd z (noA b),e0.bs,e0.bsz,fun b _ _=>noA b,fun b z=>absurd z (noA b),e0.funs,e0.frf⟩,
  rfl,e0.bare,Un.kept hk,⟨_,x.toInCall.ns,fun i y v h1 h2 h3=>?_⟩,fun y c h=>⟨_,x.cell y c h⟩,e0.hok.fresh (aA _),fun y c h=>?_,fun p hp=>absurd (show p∈([]:Zd)from hp) (by simp),e0.hok.kept hk,?_⟩
 ·exact name_of_addr x.apart (rm h1) (rm h2)
 ·have hy:scope.names.lookup y=some .cell∨scope.names.lookup y=some .free:=hy;rcases hy with hy|hy
  ·exact x_ hy
  ·exact absurd rfl (S.nofree _ (rm hy))
 ·exact cZ (x.above y c (rm h))
 ·have hi:i<vs.length:=by
   unfold start at h2;by_cases hi:i<vs.length
   ·exact hi
   ·rw[List.getElem?_append_right (by simpa using hi)]at h2;rw[List.getElem?_replicate]at h2;split at h2<;>cases h2
  have ha:vs[i]?=some v:=by
   unfold start at h2;rw[rk (by simpa using hi),cS]at h2;cases e:vs[i]? with
   |none=>rw[e]at h2;cases h2
   |some a=>rw[e]at h2;cases h2;rfl
  obtain⟨u,hu,rv⟩:=r.get ha;have hp:ps[i]?=some y:=by
   rw[<-S.pre,List.getElem?_take_of_lt (by omega)];exact h1
  have ndP:ps.Nodup:=by rw[<-S.pre];exact S.nd.sublist (List.take_sublist _ _)
  refine⟨u,rv,?_⟩;rcases S.par y (bJ hp)with k|k
  ·exact .inl ⟨k,uN ndP hp hu k⟩
  ·obtain⟨c,e⟩:=x_ (n:=s.heap.objs.size+1) k;refine .inr ⟨.inl k,c,e,?_⟩;have q:=x.cell y c e;rw[uP ndP hp hu (by show scope.names.lookup y≠_;rw[k];decide)]at q;exact q
 ·exact e0.hok.fresh (cZ (x.above y c (rm h)))
 ·unfold start;show _=N.length;rw[aZ,ah,List.length_replicate];omega
theorem GX{CX:Co}{P:bM}{w:World}{K:Za}{mg:Str->Option Value}{base:Heap}{k:Nat}{f:Addr}{name qual:Str}{params:Arguments}{body:List Stmt}{scope:Scope}{dV kV doc pm cdv ct oc:Value}{an od:Option Addr}
  {osl:Array (Option Value)}{N ps:Zb}{sp:Sp}(lk:K.lookup f=some ⟨oc,od,.func (ip name qual params body scope dV kV doc pm an cdv ct),osl⟩) (hcd:mv K cdv qual=true) (S:jQ N ps scope)
  (len:∀vs H Q E,sp vs H Q E->vs.length=ps.length)
  (hbody:∀(A:Around) (outer:List Env) (s:Shared) (H:Hp) (vs:List V) (Q:VK) (E:XK),ei k (A.deeper (envOfC qual scope s.heap.objs.size f cdv))->sp vs H Q E ->
   ∃t,yz (zI CX P w K mg base N qual scope f cdv A outer s H E) body t/\t (bd Q) (start N vs) H) :
  k5 P w K mg base CX (k+1) f (ip name qual params body scope dV kV doc pm an cdv ct) ps sp:=by
 refine⟨len,fun A outer s H args us vs Q E hr e0 hb r hsp=>?_⟩;have hl:=len _ _ _ _ hsp;have KX:K.In s.heap:=e0.mod.kin.keeps fun b o e=>(e0.bs b o e).1;have lim:s.heap.NoLimit:=e0.mod.nolimit.keeps fun b o e=>(e0.bs b o e).1;have hkind:∀y∈ps.zip us,scope.names.lookup y.1=some .local∨(scope.names.lookup y.1=some .cell/\((cellsFrom (s.heap.objs.size+1) scope.names []).lookup y.1).isSome=true):=fun⟨n,v⟩ hy=>by
  rcases S.par n (List.of_mem_zip hy).1 with q|q
  ·exact .inl q
  ·exact .inr ⟨q,PySem.W.cellsFrom_some _ _ _ (.inl q)⟩
 refine codeAny_call_function hr.depth (KX _ _ lk) rfl S.co S.gen rfl (PySem.W.codeRec_of KX hcd) (hb _ _ _ _ ?_);refine wpAny_newFunctionEnv_cells S.kind hkind fun env he s1 x=>?_;subst he;refine⟨lim.keeps x.toInCall.keep,codeAny_func ?_⟩;obtain⟨t,ht,hq⟩:=hbody A outer s H vs Q E (hr.deeper _) hsp;have I:Inv (zI CX P w K mg base N qual scope f cdv A outer s H E) [] (start N vs) H s1:=BO S hr.hd e0 hl r x;refine nu (ht [] s1 (start N vs) H _ I hq) (fun fl s' hs=>?_) fun e s' hs=>hs;have fin:∀{σ':St}{H':Hp}{v:V}{u:Value},Inv (zI CX P w K mg base N qual scope f cdv A outer s H E) [] σ' H' s'->RelV v u->Q v H'->CE outer P w K H s Q u s' :=
  fun{σ' H' v u} J rv q=>⟨v,H',J.os,J.bare,J.base,J.hok,rv,q⟩
 cases fl with
 |ret u =>
  obtain⟨v,σ',H',J,rv,q⟩:=hs;exact fin J rv q
 |next =>
  obtain⟨σ',H',J,q⟩:=hs;exact fin (v:=V.non) (u:=Value.none) J rfl q
 |brk =>
  obtain⟨_,_,_,q⟩:=hs;exact i6 q
 |cont =>
  obtain⟨_,_,_,q⟩:=hs;exact i6 q
end L2
namespace L2
open PySem PySem.Spec PyProof.Rows
section
variable{X:Cx}{x:Str}{p pos:Pos}{e:Expr}{es:List Expr}{t:TA}{id T:String}{r:List V->Hp->VK->Prop}
def fE(r:List V->Hp->VK->Prop)(t:TA):TE:=fun σ H Q=>t σ H fun vs H1=>r vs H1 Q
theorem xB(hc:fj X (.builtin id) r)(hg:Gl X x)(hm:X.mg x=none)(hv:i7 x=some (.builtin id))(ha:PA X (e::es) t)(hn:x≠"__name__":=by decide)(hdb:(x==("__debug__":Str))=false:=by decide)
  (he:aK (e::es) X.env=(false,eval e X.env)::aK es X.env:=by rfl) (hpl:(backTo pos (aK es X.env)).any (·.1)=false:=by rfl):PE X (.Call (.Name x p) (e::es) [] pos) (fE r t):=by
 intro J2 s σ H Q I h;refine z6 (pb I hg hm hv ?_ hn hdb);exact PyProof.Rows.callWith_builtin1 (cq (ha pos J2 s σ H _ I h) fun us s1 ⟨vs,H1,I1,r1,q1⟩=>hc J2 s1 σ H1 vs us Q I1 r1 q1) he hpl
theorem gf(hc:fj X (.type T) r)(hg:Gl X x)(hm:X.mg x=none)(hv:i7 x=some (.type T))(ha:PA X (e::es) t)(hn:x≠"__name__":=by decide)(hdb:(x==("__debug__":Str))=false:=by decide)
  (he:aK (e::es) X.env=(false,eval e X.env)::aK es X.env:=by rfl) (hpl:(backTo pos (aK es X.env)).any (·.1)=false:=by rfl):PE X (.Call (.Name x p) (e::es) [] pos) (fE r t):=by
 intro J2 s σ H Q I h;refine z6 (pb I hg hm hv ?_ hn hdb);exact Ac (cq (ha pos J2 s σ H _ I h) fun us s1 ⟨vs,H1,I1,r1,q1⟩=>hc J2 s1 σ H1 vs us Q I1 r1 q1) he hpl
end
end L2
namespace HT
open PySem PyProof.Rows
section
variable{prog:bM}{w:World}{A:Around}{E:Zc}{s:Shared}
def sIx(n d:Nat):Option Int->Nat
 |none=>d
 |some v=>if v<0 then(v+(n:Int)).toNat else min v.toNat n
theorem sIx_none(n d:Nat):sIx n d none=d:=rfl
theorem sIx_nat(n d k:Nat):sIx n d (some (k:Int))=min k n:=by
 show(if(k:Int)<0 then((k:Int)+(n:Int)).toNat else min (k:Int).toNat n)=min k n
 rw[if_neg (by omega),kC]
theorem sIx_le(n d:Nat)(hd:d<=n)(o:Option Int):sIx n d o<=n:=by
 cases o with
 |none=>exact hd
 |some v =>
  show(if v<0 then(v+(n:Int)).toNat else min v.toNat n)<=n
  by_cases hv:v<0
  ·rw[if_pos hv];omega
  ·rw[if_neg hv];exact Nat.min_le_right _ _
theorem clip_eq(v:Int)(n d:Nat):(if v<0 then max (v+(n:Int)) 0 else min v (n:Int))=((sIx n d (some v):Nat):Int):=by
 show(if v<0 then max (v+(n:Int)) 0 else min v (n:Int))=(((if v<0 then(v+(n:Int)).toNat else min v.toNat n):Nat):Int)
 by_cases hv:v<0
 ·simp only[if_pos hv];omega
 ·simp only[if_neg hv];omega
end
end HT
namespace L2
open PySem PySem.Spec PyProof.Rows
abbrev TO:=St->Hp->(Option Int->Hp->Prop)->Prop
def PO(X:Cx)(e:Option Expr)(t:TO):Prop :=
 ∀(J2:Zd) (s:Shared) (σ:St) (H:Hp) (Q:Option Int->Hp->Prop),Inv X J2 σ H s->t σ H Q ->
  wpAny (model X.prog X.w) X.A (evalPart e X.env) (fun u s'=>∃o H',Inv X J2 σ H' s'/\IsPart u o/\Q o H') X.xe s
def fC:TO:=fun _ H Q=>Q none H
def gE(t:TE):TO:=fun σ H Q=>t σ H fun x H1=>∃i,x=.int i/\Q (some i) H1
section
variable{X:Cx}{e:Expr}{te:TE}{lo hi:Option Expr}{tl th:TO}{pos p2:Pos}
theorem gC:PO X none fC:=by
 intro J2 s σ H Q I h;rw[evalPart_none];exact aX ⟨none,H,I,.none,h⟩
theorem cP(h:PE X e te):PO X (some e) (gE te):=by
 intro J2 s σ H Q I hw;rw[evalPart_some];refine cq (h J2 s σ H _ I hw) fun u s1 ⟨x,H1,I1,r1,q1⟩=>?_;obtain⟨i,rfl,q⟩:=q1;obtain⟨t,rfl⟩:=r1;exact⟨some i,H1,I1,.int i t,q⟩
def SlR(X:Cx)(r:V->Option Int->Option Int->Hp->VK->Prop):Prop :=
 ∀(J2:Zd) (s:Shared) (σ:St) (H:Hp) (x:V) (v vl vu:Value) (lo hi:Option Int) (sl:Addr) (Q:VK),Inv X J2 σ H s->RelV x v->s.heap.IsSliceOf sl vl vu .none->IsPart vl lo->IsPart vu hi->r x lo hi H Q ->
  ∃T id,typeLookup (.type T) "__getitem__"=pure (some (.builtin id))/\s.TypeIs v T/\wpAny (model X.prog X.w) X.A (mr v (.ref sl)) (EP X J2 σ Q) X.xe s
def Ap(r:V->Option Int->Option Int->Hp->VK->Prop)(te:TE)(tl th:TO):TE:=fun σ H Q=>te σ H fun x H1=>tl σ H1 fun l H2=>th σ H2 fun u H3=>r x l u H3 Q
theorem cU{r:V->Option Int->Option Int->Hp->VK->Prop}(hr:SlR X r)(he:PE X e te)(hl:PO X lo tl)(hu:PO X hi th):PE X (.Subscript e (.Slice lo hi none p2) pos) (Ap r te tl th):=by
 intro J2 s σ H Q I h;refine Subscript_ (cq (he J2 s σ H _ I h) fun v s1 ⟨x,H1,I1,r1,q1⟩=>?_);refine wpAny_Slice (cq (hl J2 s1 σ H1 _ I1 q1) fun vl s2 ⟨l,H2,I2,pl,q2⟩=>cq (hu J2 s2 σ H2 _ I2 q2) fun vu s3 ⟨u,H3,I3,pu,q3⟩=>?_);rw[evalPart_none];refine aX ?_;have I4:Inv X J2 σ H3 { s3 with heap:=s3.heap.push { cls:=.type "slice",data:=.fields #[vl,vu,.none] } }:=I3.kept (t':=s3.toks) fun b ob q=>bv _ q;obtain⟨T,id,hT,ht,hg⟩:=hr J2 { s3 with heap:=s3.heap.push { cls:=.type "slice",data:=.fields #[vl,vu,.none] } } σ H3 x v vl vu l u s3.heap.objs.size Q I4 r1 (Heap.IsSliceOf.new ..) pl pu q3;show wpAny (model X.prog X.w) X.A (subscriptTail e (.Slice lo hi none p2) v (.ref s3.heap.objs.size)) (EP X J2 σ Q) X.xe { s3 with heap:=s3.heap.push { cls:=.type "slice",data:=.fields #[vl,vu,.none] } };exact tail_any (ops:=[.ref s3.heap.objs.size,v]) ht hT hg (by with_unfolding_all rfl)
def gL(xs:List V)(lo hi:Option Int):List V:=(xs.drop (HT.sIx xs.length 0 lo)).take (HT.sIx xs.length xs.length hi-HT.sIx xs.length 0 lo)
theorem xT(xs:List V)(lo hi:Option Int):(gL xs lo hi).length<=xs.length:=by
 unfold gL;rw[az,fA];omega
end
end L2
namespace L2
open PySem PySem.Spec PyProof.Rows
def Ei(n:Nat)(i:Int):Option Nat:=if 0<=i then(if i<n then some i.toNat else none)else if -(n:Int)<=i then some (i+n).toNat else none
def ye{α:Type}(xs:List α)(i:Int):Option α:=(Ei xs.length i).bind fun j=>xs[j]?
theorem wn{n:Nat}{i:Int}{j:Nat}(h:Ei n i=some j):vt i n=some j/\j<n/\-(n:Int)<=i/\i<n:=by
 unfold Ei at h;by_cases h0:0<=i
 ·rw[if_pos h0]at h;by_cases h1:i<n
  ·rw[if_pos h1]at h;have e:i.toNat=j:=eD h;exact⟨by rw[seqIndex_of h0 h1,e],by omega,by omega,h1⟩
  ·rw[if_neg h1]at h;cases h
 ·rw[if_neg h0]at h;by_cases h1:-(n:Int)<=i
  ·rw[if_pos h1]at h;have e:(i+n).toNat=j:=eD h;exact⟨by rw[seqIndex_neg (by omega) h1,e],by omega,h1,by omega⟩
  ·rw[if_neg h1]at h;cases h
theorem wA{α:Type}{xs:List α}{i:Int}{v:α}(h:ye xs i=some v):∃j,vt i xs.length=some j/\xs[j]?=some v/\j<xs.length/\-(xs.length:Int)<=i/\i<xs.length:=by
 unfold ye at h;cases e:Ei xs.length i with
 |none=>rw[e]at h;cases h
 |some j =>
  rw[e]at h;obtain⟨h1,h2,h3,h4⟩:=wn e;exact⟨j,h1,h,h2,h3,h4⟩
theorem cy{α:Type}{xs:List α}{j:Nat}{v:α}(h:xs[j]?=some v):ye xs (j:Int)=some v:=by
 have hj:j<xs.length:=(bP.mp h).1;have e:Ei xs.length (j:Int)=some j:=by
  unfold Ei;rw[if_pos (by omega),if_pos (by omega)];simp
 unfold ye;rw[e];exact h
def Fq(b:Expr):Prop:=∀o i,vq b false o i=operate [o,i] (mr o i)
def Fv(X:Cx)(r:R2):Prop :=
 ∀(value slice:Expr) (J2:Zd) (s:Shared) (σ:St) (H:Hp) (x y:V) (v u:Value) (Q:VK),Inv X J2 σ H s->RelV x v->RelV y u->r x y H Q ->
  vq slice false v u=operate [v,u] (mr v u)->wpAny (model X.prog X.w) X.A (subscriptTail value slice v u) (EP X J2 σ Q) X.xe s
def MtR(X:Cx)(id:String)(r:V->List V->Hp->VK->Prop):Prop :=
 ∀(J2:Zd) (s:Shared) (σ:St) (H:Hp) (x:V) (xs:List V) (v:Value) (us:Zf) (Q:VK),Inv X J2 σ H s->RelV x v->ba xs us->r x xs H Q ->
  wpAny (model X.prog X.w) X.A (call (.builtin id) (v::us)) (EP X J2 σ Q) X.xe s
section
variable{X:Cx}{a b:Expr}{ta tb:TE}{pos:Pos}
theorem Fv.or{r r':R2}(h:Fv X r)(h':Fv X r'):Fv X (fun x y H Q=>r x y H Q∨r' x y H Q):=by
 intro value slice J2 s σ H x y v u Q I rx ry q hs;rcases q with q|q
 ·exact h value slice J2 s σ H x y v u Q I rx ry q hs
 ·exact h' value slice J2 s σ H x y v u Q I rx ry q hs
theorem Aw{r:R2}(hr:Fv X r)(ha:PE X a ta)(hb:PE X b tb)(hs:Fq b):PE X (.Subscript a b pos) (aJ r ta tb):=by
 intro J2 s σ H Q I h;exact Subscript_ (Gn ha hb I h fun v u s2 x y H2 I2 rx ry q=>hr a b J2 s2 σ H2 x y v u Q I2 rx ry q (hs _ _))
def dk(K:Za):R2:=fun x y H Q=>∃p xs i v,x=.ref p/\y=.int i/\ax K H p xs/\ye xs i=some v/\Q v H
def o5(K:Za):R2:=fun x y H Q=>∃p xs i v,x=.ref p/\y=.int i/\bA K H p xs/\ye xs i=some v/\Q v H
def C4:R2:=fun x y H Q=>∃z i c,x=.str z/\y=.int i/\z.length<=aj/\ye z.cps.toList i=some c/\Q (.str ⟨#[c]⟩) H
theorem AJ:Fv X (dk X.K):=by
 intro value slice J2 s σ H x y v u Q I rx ry h hs;obtain⟨p,xs,i,z,rfl,rfl,hq,he,q⟩:=h;cases rx;obtain⟨t,rfl⟩:=ry;obtain⟨its,r,pl,hz⟩:=I.list hq;obtain⟨j,h1,h2,h3,h4,h5⟩:=wA he;obtain⟨w,ew,rw'⟩:=r.get h2;have hl:=r.length;have hn:=o_;have fin:EP X J2 σ Q w s:=⟨z,H,I,rw',q⟩;by_cases h0:0<=i
 ·have hj:i.toNat=j:=by
   rw[seqIndex_of h0 h5]at h1;exact eD h1
  exact item_listR pl.isList h0 (by omega) (by rw[hj];simpa using ew) fin hs
 ·have hj:(i+(its.toArray.size:Int)).toNat=j:=by
   rw[seqIndex_neg (by omega) h4]at h1;rw[bO,<-hl];exact eD h1
  exact subscriptTail_builtinR (x:=w) pl.isList.typeIs slot_list_getitem.lookup
   (wpAny_getItem_list_neg (Q:=fun r s'=>r=w/\EP X J2 σ Q r s') pl.isList (by omega) (by rw[bO]<;>omega) (by omega) (by rw[hj];simpa using ew) ⟨rfl,fin⟩) hs
theorem Dv:Fv X (o5 X.K):=by
 intro value slice J2 s σ H x y v u Q I rx ry h hs;obtain⟨p,xs,i,z,rfl,rfl,hq,he,q⟩:=h;cases rx;obtain⟨t,rfl⟩:=ry;obtain⟨its,r,pl,hz⟩:=I.tuple hq;obtain⟨j,h1,h2,h3,h4,h5⟩:=wA he;obtain⟨w,ew,rw'⟩:=r.get h2;have hl:=r.length;have hn:=o_;have fin:EP X J2 σ Q w s:=⟨z,H,I,rw',q⟩;exact subscriptTail_builtinR (x:=w) pl.typeIs slot_tuple_getitem.lookup
  (getItem_tuple (j:=j) (Q:=fun r s'=>r=w/\EP X J2 σ Q r s') pl (by omega) (by omega) (by rw[bO,<-hl];exact h1) (by simpa using ew) ⟨rfl,fin⟩) hs
theorem Dw:Fv X C4:=by
 intro value slice J2 s σ H x y v u Q I rx ry h hs;obtain⟨z,i,c,rfl,rfl,hz,he,q⟩:=h;obtain⟨t,rfl⟩:=rx;obtain⟨t',rfl⟩:=ry;obtain⟨j,h1,h2,h3,h4,h5⟩:=wA he;have hl:z.cps.toList.length=z.length:=by simp[Str.length]
 rw[hl]at h1 h4 h5;have hn:=o_;exact tail_any (typeIs_str s z t) slot_str_getitem.lookup (getItem_str (c:=c) (by
  have e1:decide (i < -(2 ^ 63:Int))=false:=zzr0 (by omega);have e2:decide (i ≥ 2 ^ 63)=false:=zzr0 (by omega);rw[e1,e2,Bool.or_false]) (by rw[h1];simpa using h2) ⟨.str ⟨#[c]⟩,H,I.tok _,⟨_,rfl⟩,q⟩) hs
def pT(K:Za):R2:=fun x y H Q=>dk K x y H Q∨o5 K x y H Q∨C4 x y H Q
theorem Gi:Fv X (pT X.K):=AJ.or (Dv.or Dw)
theorem zj(its:Zf)(n j:Nat)(u:Value):rj (·.setIfInBounds j u) { cls:=.type "list",data:=.seq its.toArray n }={ cls:=.type "list",data:=.seq (its.set j u).toArray n }:=by
 simp[rj]
theorem Inv.lst{J2:Zd}{σ:St}{H:Hp}{s:Shared}{p:Addr}{xs:List V}(I:Inv X J2 σ H s)(h:H p=some (.lst xs)):
  ∃(its:Zf) (n:Nat),ba xs its/\s.heap.get? p=some { cls:=.type "list",data:=.seq its.toArray n }/\xs.length<=aj:=by
 obtain⟨z,its,n,r,e⟩:=I.hok p _ h;exact⟨its,n,r,e,z⟩
theorem Inv.lstUpd{J2:Zd}{σ:St}{H:Hp}{s:Shared}{p:Addr}{xs ys:List V}{its its':Zf}{n n':Nat}{f:Obj->Obj}(I:Inv X J2 σ H s)(h:H p=some (.lst xs))
  (ho:s.heap.get? p=some { cls:=.type "list",data:=.seq its.toArray n }) (hf:f { cls:=.type "list",data:=.seq its.toArray n }={ cls:=.type "list",data:=.seq its'.toArray n' }) (r:ba ys its') (hz:ys.length<=aj) (t:Nat) :
  Inv X J2 σ (upd H p (.lst ys)) { s with heap:=s.heap.update p f,toks:=t }:=by
 have e:(s.heap.update p f).get? p=some { cls:=.type "list",data:=.seq its'.toArray n' }:=by
  rw[vp f ho (by rw[hf]<;>rfl),hf]
 refine I.write (x:=p) (e:=p) (by rw[h];trivial) (.inl rfl) (fun b u hb q=>(Heap.get?_update_other _ _ (ii hb)).trans q) ⟨_,e⟩ ?_;exact⟨hz,its',n',r,e⟩
def r8:V->V->V->Hp->(Hp->Prop)->Prop:=fun o i v H Q=>∃p xs k j,o=.ref p/\i=.int k/\H p=some (.lst xs)/\Ei xs.length k=some j/\Q (upd H p (.lst (xs.set j v)))
theorem kK:G4 X r8:=by
 intro J2 s σ H o i v ov iv u Q I ro ri rv h;obtain⟨p,xs,k,j,rfl,rfl,hp,hj,q⟩:=h;cases ro;obtain⟨t,rfl⟩:=ri;obtain⟨its,n,r,ho,hz⟩:=I.lst hp;obtain⟨h1,h2,h3,h4⟩:=wn hj;have hl:=r.length;have hn:=o_;have I':Inv X J2 σ (upd H p (.lst (xs.set j v))) { s with heap:=s.heap.update p (rj (·.setIfInBounds j u)) } :=
  I.lstUpd hp ho (zj its n j u) (r.set rv j) (by rw[List.length_set];exact hz) s.toks
 by_cases h0:0<=k
 ·have hk:k.toNat=j:=by
   rw[seqIndex_of h0 h4]at h1;exact eD h1
  exact PySem.W.ki_setAt ho h0 (by omega) (by rw[bO,<-hl];exact h4) (by rw[hk];exact⟨_,I',q⟩)
 ·have hk:(k+(its.toArray.size:Int)).toNat=j:=by
   rw[seqIndex_neg (by omega) h3]at h1;rw[bO,<-hl];exact eD h1
  exact PySem.W.ki_setBack ho (by omega) (by rw[bO,<-hl];exact h3) (by omega) (by rw[hk];exact⟨_,I',q⟩)
theorem vY(lo hi:Option Int)(n:Nat):(mq lo hi none n).1=((HT.sIx n 0 lo:Nat):Int)/\(mq lo hi none n).2.1=((HT.sIx n n hi:Nat):Int)/\(mq lo hi none n).2.2=1:=by
 refine⟨?_,?_,rfl⟩
 ·cases lo with
  |none=>simp[mq,HT.sIx]
  |some i =>
   simp only[mq,HT.sIx,Option.getD_none,show(1:Int) > 0 by decide,if_true];by_cases h:i<0
   ·simp only[h,if_true]<;>omega
   ·simp only[h,if_false]<;>omega
 ·cases hi with
  |none=>simp[mq,HT.sIx]
  |some i =>
   simp only[mq,HT.sIx,Option.getD_none,show(1:Int) > 0 by decide,if_true];by_cases h:i<0
   ·simp only[h,if_true]<;>omega
   ·simp only[h,if_false]<;>omega
theorem tQ(its:Zf)(lo hi:Option Int):slicePick its.toArray lo hi none=((its.drop (HT.sIx its.length 0 lo)).take (HT.sIx its.length its.length hi-HT.sIx its.length 0 lo)).toArray:=by
 obtain⟨h1,h2,h3⟩:=vY lo hi its.toArray.size;unfold slicePick;rw[h1,h2,h3];simp only[sliceRange_one,pick_run,bO]<;>rfl
def rZ(K:Za):V->Option Int->Option Int->Hp->VK->Prop:=fun x lo hi H Q=>∃a xs,x=.ref a/\ax K H a xs/\∀p,H p=none->Q (.ref p) (upd H p (.lst (gL xs lo hi)))
theorem gA:SlR X (rZ X.K):=by
 intro J2 s σ H x v vl vu lo hi sl Q I rx hs pl pu h;obtain⟨a,xs,rfl,hx,q⟩:=h;cases rx;obtain⟨its,r,ht,hz⟩:=I.list hx;have hlen:=r.length;refine⟨"list",_,slot_list_getitem.lookup,ht.isList.typeIs,?_⟩;refine wpAny_getItem_list_slice ht.isList hs pl pu .none (by simp) ?_ (by rw[bO]<;>omega);rw[tQ,<-hlen];refine⟨.ref s.heap.objs.size,_,I.laid (t':=s.toks) (o:=.lst (gL xs lo hi)) (fun b ob q=>bv _ q) (aA _) ?_,rfl,q _ (I.hok.fresh (aA _))⟩;exact⟨aD (xT xs lo hi) hz,_,0,(r.drop (HT.sIx xs.length 0 lo)).take (HT.sIx xs.length xs.length hi-HT.sIx xs.length 0 lo),cQ _ rfl⟩
theorem wx:fj X (.builtin "len") (fun xs H Q=>∃p ys,xs=[.ref p]/\(ax X.K H p ys∨bA X.K H p ys)/\Q (.int ys.length) H):=by
 intro J2 s σ H xs us Q I r h;obtain⟨p,ys,rfl,hq,q⟩:=h;obtain⟨u,rfl,rx⟩:=vals1 r;cases rx;have hn:=o_;rcases hq with hq|hq
 ·obtain⟨its,r',pl,hz⟩:=I.list hq;have hlen:=r'.length;exact Calls.call_len_list pl.isList (by simp only[bO]<;>omega) ⟨.int ys.length,H,I.tok _,⟨s.toks+1,by rw[bO,hlen]⟩,q⟩
 ·obtain⟨its,r',pl,hz⟩:=I.tuple hq;have hlen:=r'.length;exact len_tuple pl (by simp only[bO]<;>omega) ⟨.int ys.length,H,I.tok _,⟨s.toks+1,by rw[bO,hlen]⟩,q⟩
theorem ww:fj X (.builtin "len") (fun xs H Q=>∃z,xs=[.str z]/\z.length<=aj/\Q (.int z.length) H):=by
 intro J2 s σ H xs us Q I r h;obtain⟨z,rfl,hz,q⟩:=h;obtain⟨u,rfl,t,rfl⟩:=vals1 r;have hn:=o_;exact len_str (by omega) ⟨.int z.length,H,I.tok _,⟨_,rfl⟩,q⟩
theorem fj.or{f:Value}{r r':List V->Hp->VK->Prop}(h:fj X f r)(h':fj X f r'):fj X f (fun xs H Q=>r xs H Q∨r' xs H Q):=by
 intro J2 s σ H xs us Q I rs q;rcases q with q|q
 ·exact h J2 s σ H xs us Q I rs q
 ·exact h' J2 s σ H xs us Q I rs q
theorem wv:fj X (.type "list") (fun xs H Q=>∃p ys,xs=[.ref p]/\(ax X.K H p ys∨bA X.K H p ys)/\∀l,H l=none->Q (.ref l) (upd H l (.lst ys))):=by
 intro J2 s σ H xs us Q I r h;obtain⟨p,ys,rfl,hq,q⟩:=h;obtain⟨u,rfl,rx⟩:=vals1 r;cases rx;have fin:∀(its:Zf),ba ys its->ys.length<=aj->∀(h':Heap) (c':Nat),(∀b o',s.heap.get? b=some o'->h'.get? b=some o') ->
   h'.get? s.heap.objs.size=some { cls:=.type "list",dict:=none,data:=.seq its.toArray c',slots:=#[] }->EP X J2 σ Q (.ref s.heap.objs.size) { s with heap:=h' }:=fun its r' hz h' c' kp e =>
  ⟨.ref s.heap.objs.size,_,I.laid (t':=s.toks) kp (aA _) (show ca X.prog X.w X.K _ h' _ (.lst ys)from⟨hz,its,c',r',e⟩),rfl,q _ (I.hok.fresh (aA _))⟩
 rcases hq with hq|hq
 ·obtain⟨its,r',pl,hz⟩:=I.list hq;have hlen:=r'.length;obtain⟨o,ho,hc,n,hd⟩:=pl.isList;exact call_list_seq p (.inl rfl) ho hc hd (fun h' c' kp e=>fin its r' hz h' c' kp e) (by simp only[bO]<;>omega)
 ·obtain⟨its,r',pl,hz⟩:=I.tuple hq;have hlen:=r'.length;obtain⟨o,ho,hc,n,hd⟩:=pl;exact call_list_seq p (.inr rfl) ho hc hd (fun h' c' kp e=>fin its r' hz h' c' kp e) (by simp only[bO]<;>omega)
theorem eP:fj X (.type "tuple") (fun xs H Q=>∃p ys,xs=[.ref p]/\((ax X.K H p ys/\∀l,H l=none->Q (.ref l) (upd H l (.tup ys)))∨(bA X.K H p ys/\Q (.ref p) H))):=by
 intro J2 s σ H xs us Q I r h;obtain⟨p,ys,rfl,h⟩:=h;obtain⟨u,rfl,rx⟩:=vals1 r;cases rx;rcases h with⟨hq,q⟩|⟨hq,q⟩
 ·obtain⟨its,r',pl,hz⟩:=I.list hq;have hlen:=r'.length;refine call_tuple_list pl.isList (fun h' kp=>?_) (by simp only[bO]<;>omega);have I1:Inv X J2 σ H { s with heap:=h' }:=I.kept (t':=s.toks) kp;have I2:Inv X J2 σ (upd H h'.objs.size (.tup ys)) { s with heap:=h'.push { cls:=.type "tuple",data:=.seq its.toArray } } :=
   I1.laid (t':=s.toks) (fun b o e=>bv _ e) (aA _) (show ca X.prog X.w X.K _ _ _ (.tup ys)from⟨hz,its,r',IsTup.new _ _⟩)
  exact⟨.ref h'.objs.size,_,I2,rfl,q _ (I1.hok.fresh (aA _))⟩
 ·obtain⟨its,r',pl,hz⟩:=I.tuple hq;exact call_tuple_same pl ⟨.ref p,H,I,rfl,q⟩
def tyV(K:Za)(T:String)(x:V)(H:Hp):Prop:=match x with
 |.str _=>T="str"
 |.int _=>T="int"
 |.ref p=>(T="list"/\∃xs,ax K H p xs)∨(T="tuple"/\∃o,K.lookup p=some o/\o.cls=.type "tuple"/\o.dict=none) ∨
   (T="dict"/\((∃kvs,H p=some (.dK kvs))∨∃kvs,H p=some (.dT kvs)))∨(T="set"/\∃S n,H p=some (.set S n))
 |_=>False
theorem Cv{J2:Zd}{σ:St}{H:Hp}{s:Shared}{T:String}{x:V}{v:Value}(I:Inv X J2 σ H s)(r:RelV x v)(ty:tyV X.K T x H):
  s.TypeIs v T/\∀a,v=.ref a->∃ob,s.heap.get? a=some ob/\ob.dict=none:=by
 cases x with
 |str z =>
  obtain⟨t,rfl⟩:=r;cases(show T="str" from ty);exact⟨typeIs_str s z t,fun _ e=>nomatch e⟩
 |int i =>
  obtain⟨t,rfl⟩:=r;cases(show T="int" from ty);exact⟨typeIs_int s i t,fun _ e=>nomatch e⟩
 |ref p =>
  cases r;rcases ty with⟨rfl,xs,hq⟩|⟨rfl,o,hk,hc,hd⟩|⟨rfl,hk⟩|⟨rfl,S,n,hk⟩
  ·obtain⟨its,_,pl,_⟩:=I.list hq;refine⟨pl.isList.typeIs,fun a e=>?_⟩;cases e;obtain⟨o,n,e,c,hd,_⟩:=pl;exact⟨o,e,hd⟩
  ·refine⟨⟨o,I.kIn p o hk,hc⟩,fun a e=>?_⟩;cases e;exact⟨o,I.kIn _ o hk,hd⟩
  ·have z:∃o,s.heap.get? p=some o/\o.ExactDict:=by
    rcases hk with⟨kvs,hk⟩|⟨kvs,hk⟩
    ·obtain⟨_,_,_,_,o,_,_,e,ex,_⟩:=I.hok p _ hk;exact⟨o,e,ex⟩
    ·obtain⟨_,_,_,_,o,_,_,e,ex,_⟩:=I.hok p _ hk;exact⟨o,e,ex⟩
   obtain⟨o,e,ex⟩:=z;refine⟨⟨o,e,ex.1⟩,fun a e2=>?_⟩;cases e2;exact⟨o,e,ex.2.1⟩
  ·obtain⟨o,_,_,_,e,ex,_⟩:=I.hok p _ hk;refine⟨⟨o,e,ex.1⟩,fun a e2=>?_⟩;cases e2;exact⟨o,e,ex.2.1⟩
 |_=>exact i6 ty
def GF(K:Za)(T:String)(r:V->List V->Hp->VK->Prop)(to:TE):TE:=fun σ H Q=>to σ H fun x H1=>tyV K T x H1/\r x [] H1 Q
def Bk(K:Za)(T:String)(r:V->List V->Hp->VK->Prop)(to:TE)(t:TA):TE:=fun σ H Q=>to σ H fun x H1=>tyV K T x H1/\t σ H1 fun xs H2=>r x xs H2 Q
variable{o e:Expr}{es:List Expr}{to:TE}{t:TA}{name:Str}{J4 J3:Pos}{T id:String}{r:V->List V->Hp->VK->Prop}
theorem Gf(pa:PlainAttrs T)(slot:Slot T name id)(hty:typeOf (.builtin id)=pure (.type "method_descriptor"))(hm:MtR X id r)(ho:PE X o to)
  (hbase:uh o name X.env (eval o X.env)=eval o X.env:=by rfl) (hline:(J4.endLine==J3.line)=true:=by rfl):PE X (.Call (.Attribute o name J4) [] [] J3) (GF X.K T r to):=by
 intro J2 s σ H Q I h;refine wpAny_Call_method0_late hbase hline (cq (ho J2 s σ H _ I h) fun v s1 ⟨x,H1,I1,r1,ty,q1⟩=>?_);obtain⟨h1,h2⟩:=Cv I1 r1 ty;exact⟨T,id,pa,slot,hty,h1,h2,vo rfl (PySem.evalArgs_none (hm J2 s1 σ H1 x [] v [] Q I1 r1 .nil q1))⟩
theorem j6(pa:PlainAttrs T)(slot:Slot T name id)(hty:typeOf (.builtin id)=pure (.type "method_descriptor"))(hm:MtR X id r)(ho:PE X o to)(ha:PA X (e::es) t)
  (hbase:uh o name X.env (eval o X.env)=eval o X.env:=by rfl)
  (hfew:((backTo J3 (aK (e::es) X.env)).all (fun x=>!x.1) && (np J3 (nn [] X.env)).all (fun x=>x.1.isSome)
   && decide ((e::es).length+([]:List oM).length+(if([]:List oM).isEmpty then 0 else 1)<30))=true:=by rfl)
  (hline:(J4.endLine==J3.line)=true:=by rfl) (hs:aK (e::es) X.env=(false,eval e X.env)::aK es X.env:=by rfl) (hplain:(backTo J3 (aK es X.env)).any (·.1)=false:=by rfl) :
  PE X (.Call (.Attribute o name J4) (e::es) [] J3) (Bk X.K T r to t):=by
 intro J2 s σ H Q I h;refine wpAny_Call_method_late hbase hfew hline rfl (cq (ho J2 s σ H _ I h) fun v s1 ⟨x,H1,I1,r1,ty,q1⟩=>?_);obtain⟨h1,h2⟩:=Cv I1 r1 ty;refine⟨T,id,pa,slot,hty,h1,h2,?_⟩;have hA:=ha J3 J2 s1 σ H1 _ I1 q1;rw[hs]at hA ⊢;refine vo (by show(false || (backTo J3 (aK es X.env)).any (·.1))=false;rw[hplain]<;>rfl) (Calls.evalArgs_plain ?_);exact cq hA fun us s2 ⟨vs,H2,I2,r2,q2⟩=>hm J2 s2 σ H2 x vs v us Q I2 r1 r2 q2
end
end L2
namespace L2
open PySem PySem.Spec PyProof.Rows
def Gz(X:Cx)(id:String)(r:V->List V->Hp->VK->Prop):Prop :=
 ∀(J2:Zd) (s:Shared) (σ:St) (H:Hp) (x:V) (xs:List V) (v:Value) (us:Zf) (Q:VK),Inv X J2 σ H s->RelV x v->ba xs us->r x xs H Q ->
  wpAny (model X.prog X.w) X.A (call (.builtin id) (v::us)) (EP X J2 σ Q) X.xe s
theorem ba.one:∀{x:V}{us:Zf},ba [x] us->∃u,us=[u]/\RelV x u
 |_,_,.cons r .nil=>⟨_,rfl,r⟩
theorem ba.two:∀{x y:V}{us:Zf},ba [x,y] us->∃u v,us=[u,v]/\RelV x u/\RelV y v
 |_,_,_,.cons r (.cons q .nil)=>⟨_,_,rfl,r,q⟩
theorem ba.zero:∀{us:Zf},ba [] us->us=[]
 |_,.nil=>rfl
theorem ba.dropLast{xs:List V}{us:Zf}(h:ba xs us):ba xs.dropLast us.dropLast:=by
 induction h with
 |nil=>exact .nil
 |cons r t ih =>
  cases t with
  |nil=>exact .nil
  |cons q t'=>exact .cons r ih
theorem ba.eraseIdx:∀{xs:List V}{us:Zf}(i:Nat),ba xs us->ba (xs.eraseIdx i) (us.eraseIdx i)
 |_,_,_,.nil=>.nil
 |_,_,0,.cons _ t=>t
 |_,_,i+1,.cons r t=>.cons r (ba.eraseIdx i t)
theorem zG{α:Type}(l:List α):l.eraseIdx (l.length-1)=l.dropLast:=by
 induction l with
 |nil=>rfl
 |cons a r ih =>
  cases r with
  |nil=>rfl
  |cons b r =>
   have e:(a::b::r).length-1=((b::r).length-1)+1:=by
    have h1:(a::b::r).length=r.length+2:=rfl;have h2:(b::r).length=r.length+1:=rfl;omega
   rw[e,List.eraseIdx_cons_succ,ih]
   all_goals rfl
theorem uz{α:Type}:∀(l:List α) (i:Nat),(l.eraseIdx i).length<=l.length
 |[],_=>aA _
 |_::_,0=>uf _
 |_::r,i+1=>vn (uz r i)
section
variable{X:Cx}{J2:Zd}{σ:St}{H:Hp}{s:Shared}{l b:Addr}{xs ys zs:List V}
theorem Inv.lset{its its':Zf}{n:Nat}{f:Array Value->Array Value}{t':Nat}(I:Inv X J2 σ H s)(hH:H l=some (.lst xs))
  (e:s.heap.get? l=some { cls:=.type "list",data:=.seq its.toArray n }) (hf:f its.toArray=its'.toArray) (hv:ba ys its') (hz:ys.length<=aj) :
  Inv X J2 σ (upd H l (.lst ys)) { s with heap:=s.heap.update l (rj f),toks:=t' }:=by
 have q:=PySem.IsL.update e f;rw[hf]at q;refine I.write (x:=l) (e:=l) (by rw[hH];exact trivial) (.inl rfl) (fun b' u hb hu=>(Heap.get?_update_other s.heap (rj f) (ii hb)).trans hu) ⟨_,q⟩ ?_;exact⟨hz,its',_,hv,q⟩
theorem Inv.lnew{its:Zf}{t':Nat}(I:Inv X J2 σ H s)(hv:ba ys its)(hz:ys.length<=aj):
  Inv X J2 σ (upd H s.heap.objs.size (.lst ys)) { s with heap:=s.heap.push { cls:=.type "list",data:=.seq its.toArray },toks:=t' } :=
 I.laid (fun _ _ q=>bv _ q) (aA _) ⟨hz,its,0,hv,cQ _ rfl⟩
theorem Inv.fresh(I:Inv X J2 σ H s):H s.heap.objs.size=none:=I.hok.fresh (aA _)
theorem Inv.lstM(I:Inv X J2 σ H s)(hH:H l=some (.lst xs)):xs.length<=aj/\∃(its:Zf) (n:Nat),ba xs its/\xs.length=its.length/\s.heap.get? l=some { cls:=.type "list",data:=.seq its.toArray n }:=by
 obtain⟨z,its,n,r,e⟩:=I.hok l _ hH;exact⟨z,its,n,r,r.length,e⟩
theorem Dj{n:Nat}(h:n<=aj):cF.List.listTooLong n=false:=by
 unfold cF.List.listTooLong;exact zzr0 (by omega)
end
section
variable{X:Cx}
def hE:V->List V->Hp->VK->Prop:=fun x vs H Q=>∃l xs y,x=.ref l/\vs=[y]/\H l=some (.lst xs)/\xs.length<aj/\Q .non (upd H l (.lst (xs++[y])))
theorem d9:Gz X "list.append" hE:=by
 intro J2 s σ H x vs v us Q I rx rv h;obtain⟨l,xs,y,rfl,rfl,hH,hz,q⟩:=h;cases rx;obtain⟨u,rfl,ru⟩:=rv.one;obtain⟨z,its,n,r,hl,e⟩:=I.lstM hH;refine rh F.slot_list_append ⟨_,e,rfl⟩ F.entry_list_append (F.args_list_append_2 _ _) (PySem.list_append l its.toArray n u (by rw[bO];omega)) ⟨e,?_⟩;refine⟨.non,_,I.lset (its':=its++[u]) hH e (by simp) (r.append (.cons ru .nil)) ?_,rfl,q⟩;rw[aZ,List.length_singleton];omega
def At:V->List V->Hp->VK->Prop:=fun x vs H Q=>∃l b xs zs,x=.ref l/\vs=[.ref b]/\H l=some (.lst xs)/\H b=some (.lst zs)/\xs.length+zs.length<=aj/\Q .non (upd H l (.lst (xs++zs)))
theorem BI:Gz X "list.extend" At:=by
 intro J2 s σ H x vs v us Q I rx rv h;obtain⟨l,b,xs,zs,rfl,rfl,hH,hB,hz,q⟩:=h;cases rx;obtain⟨u,rfl,ru⟩:=rv.one;cases ru;obtain⟨z,its,n,r,hl,e⟩:=I.lstM hH;obtain⟨z2,its2,n2,r2,hl2,e2⟩:=I.lstM hB;have hsz:its.toArray.size+its2.toArray.size<=aj:=by rw[bO,bO];omega
 have hlong:¬(!its.toArray.isEmpty && cF.List.listTooLong (its.toArray.size+its2.toArray.size))=true:=by
  rw[Dj hsz,vm];exact gD
 refine rh F.slot_list_extend ⟨_,e,rfl⟩ F.entry_list_extend (F.args_list_extend_2 _ _)
  (AutoSeq1.list_extend_list_list_0 l its.toArray n b its2.toArray n2 hlong (by rw[bO];omega) (by omega)) ⟨e,e2,?_⟩
 refine⟨.non,_,I.lset (its':=its++its2) hH e (by simp) (r.append r2) ?_,rfl,q⟩;rw[aZ];omega
def GH:V->List V->Hp->VK->Prop:=fun x vs H Q=>∃l xs y,x=.ref l/\vs=[]/\H l=some (.lst xs)/\xs[xs.length-1]?=some y/\Q y (upd H l (.lst xs.dropLast))
theorem Gg:Gz X "list.pop" GH:=by
 intro J2 s σ H x vs v us Q I rx rv h;obtain⟨l,xs,y,rfl,rfl,hH,hy,q⟩:=h;cases rx;have hus:=rv.zero;subst hus;obtain⟨z,its,n,r,hl,e⟩:=I.lstM hH;obtain⟨u,hu,ru⟩:=r.get hy;have hy':its.toArray[its.toArray.size-1]?=some u:=by
  show its.toArray[its.length-1]?=some u;rw[<-Array.getElem?_toList,<-hl];exact hu
 refine rh F.slot_list_pop ⟨_,e,rfl⟩ F.entry_list_pop (F.args_list_pop_1 _) (MeetsSeq.list_pop_last l its.toArray n u hy' (by rw[bO];omega)) ⟨e,?_⟩;refine⟨y,_,I.lset (its':=its.dropLast) hH e ?_ r.dropLast ?_,ru,q⟩
 ·show its.toArray.eraseIdxIfInBounds (its.toArray.size-1)=its.dropLast.toArray;rw[bO,List.eraseIdxIfInBounds_toArray,zG]
 ·rw[List.length_dropLast];omega
def C1:V->List V->Hp->VK->Prop:=fun x vs H Q=>∃l xs i k y,x=.ref l/\vs=[.int i]/\H l=some (.lst xs)/\-(2 ^ 63)<=i/\i<2 ^ 63/\vt i xs.length=some k/\xs[k]?=some y/\Q y (upd H l (.lst (xs.eraseIdx k)))
theorem Dq:Gz X "list.pop" C1:=by
 intro J2 s σ H x vs v us Q I rx rv h;obtain⟨l,xs,i,k,y,rfl,rfl,hH,h1,h2,hk,hy,q⟩:=h;cases rx;obtain⟨u,rfl,ru⟩:=rv.one;obtain⟨t,rfl⟩:=ru;obtain⟨z,its,n,r,hl,e⟩:=I.lstM hH;obtain⟨w,hw,rw'⟩:=r.get hy;refine rh F.slot_list_pop ⟨_,e,rfl⟩ F.entry_list_pop (F.args_list_pop_2 _ _)
  (MeetsSeq.list_pop_at l its.toArray n i t k w (fitsIndex_both h1 h2) (by rw[bO,<-hl];exact hk) (by rw[<-Array.getElem?_toList];exact hw) (by rw[bO];omega)) ⟨e,?_⟩
 refine⟨y,_,I.lset (its':=its.eraseIdx k) hH e ?_ (r.eraseIdx k) ?_,rw',q⟩
 ·show its.toArray.eraseIdxIfInBounds k=(its.eraseIdx k).toArray;rw[List.eraseIdxIfInBounds_toArray]
 ·have:=uz xs k;omega
def kb:R2:=fun x y H Q=>∃l b xs zs,x=.ref l/\y=.ref b/\H l=some (.lst xs)/\H b=some (.lst zs)/\xs.length+zs.length<=aj/\∀p,H p=none->Q (.ref p) (upd H p (.lst (xs++zs)))
theorem fN:mS X (lX .Add) kb:=by
 intro J2 s σ H x y v u Q I rx ry h;obtain⟨l,b,xs,zs,rfl,rfl,hH,hB,hz,q⟩:=h;cases rx;cases ry;obtain⟨z,its,n,r,hl,e⟩:=I.lstM hH;obtain⟨z2,its2,n2,r2,hl2,e2⟩:=I.lstM hB;refine PySem.P.add_list e e2 ?_ (by rw[bO,bO];omega);have ea:its.toArray++its2.toArray=(its++its2).toArray:=by simp
 rw[ea];exact⟨.ref _,_,I.lnew (t':=s.toks) (r.append r2) (by rw[aZ];omega),rfl,q _ I.fresh⟩
end
end L2
namespace L2
open PySem PySem.Spec PyProof.Rows
section
variable{κ:Type}[DecidableEq κ]
def aU(kvs:List (κ×V))(k:κ):Option V:=(kvs.find? fun kv=>decide (kv.1=k)).map (·.2)
def cH(kvs:List (κ×V))(k:κ)(v:V):List (κ×V) :=
 if(kvs.any fun kv=>decide (kv.1=k))=true then kvs.map (fun kv=>if kv.1=k then(kv.1,v)else kv)else kvs++[(k,v)]
theorem cT{p:κ×V}{r:List (κ×V)}{k:κ}(e:p.1=k):aU (p::r) k=some p.2:=by simp[aU,kB,e]
theorem cG{p:κ×V}{r:List (κ×V)}{k:κ}(e:¬p.1=k):aU (p::r) k=aU r k:=by simp[aU,kB,e]
theorem i8(k:κ):∀kvs:List (κ×V),(kvs.any fun kv=>decide (kv.1=k))=(aU kvs k).isSome
 |[]=>rfl
 |p::r=>by
  rw[oK];by_cases e:p.1=k
  ·simp only[cT e,zzr1 e,Bool.true_or,Option.isSome_some]
  ·rw[cG e,zzr0 e,Bool.false_or];exact i8 k r
theorem wW(k j:κ)(y:V):∀kvs:List (κ×V),aU (kvs.map fun kv=>if kv.1=k then(kv.1,y)else kv) j=(aU kvs j).map fun x=>if j=k then y else x
 |[]=>rfl
 |p::r=>by
  have ih:=wW k j y r;rw[bj];by_cases h:p.1=k
  ·rw[if_pos h];by_cases e:p.1=j
   ·rw[cT (p:=(p.1,y)) e,cT e,rg,if_pos (e.symm.trans h)]
   ·rw[cG (p:=(p.1,y)) e,cG e,ih]
  ·rw[if_neg h];by_cases e:p.1=j
   ·rw[cT (p:=p) e,cT e,rg,if_neg (fun z=>h (e.trans z))]
   ·rw[cG (p:=p) e,cG e,ih]
theorem um(k j:κ)(y:V):∀kvs:List (κ×V),aU kvs k=none->aU (kvs++[(k,y)]) j=if j=k then some y else aU kvs j
 |[],_=>by
  by_cases e:k=j
  ·rw[if_pos e.symm];exact cT (p:=(k,y)) e
  ·rw[if_neg (fun z=>e z.symm)];exact cG (p:=(k,y)) e
 |p::r,hn=>by
  rw[List.cons_append];have hk:¬p.1=k:=fun z=>by rw[cT z]at hn;cases hn
  rw[cG hk]at hn;have ih:=um k j y r hn;by_cases e:p.1=j
  ·rw[cT e,cT e,if_neg (fun z=>hk (e.trans z))]
  ·rw[cG e,cG e,ih]
theorem fB(kvs:List (κ×V))(k j:κ)(y:V):aU (cH kvs k y) j=if j=k then some y else aU kvs j:=by
 unfold cH;by_cases a:(kvs.any fun kv=>decide (kv.1=k))=true
 ·rw[if_pos a,wW];rw[i8]at a;by_cases e:j=k
  ·obtain⟨x,hx⟩:=vv.mp a;rw[if_pos e,e,hx,rg,if_pos rfl]
  ·rw[if_neg e];cases aU kvs j with
   |none=>rfl
   |some x=>rw[rg,if_neg e]
 ·rw[if_neg a];refine um k j y kvs ?_;rw[i8]at a;cases q:aU kvs k with
  |none=>rfl
  |some x=>rw[q]at a;exact(a rfl).elim
theorem dQ(kvs:List (κ×V))(k:κ)(v:V):(cH kvs k v).length<=kvs.length+1:=by
 unfold cH;split
 ·rw[ah];omega
 ·rw[aZ,fb,List.length_nil];omega
theorem gJ{kvs:List (κ×V)}{k:κ}(v:V)(h:aU kvs k=none):cH kvs k v=kvs++[(k,v)]:=by
 unfold cH;rw[i8,h];exact if_neg (by decide)
theorem kf.isSome_eq{o:Option V}{u:Option Value}(r:kf o u):o.isSome=u.isSome:=by
 cases o with
 |none=>cases u with
  |none=>rfl
  |some _=>exact(show False from r).elim
 |some _=>cases u with
  |none=>exact(show False from r).elim
  |some _=>rfl
theorem kf.getD{o:Option V}{u:Option Value}{d:V}{d':Value}(r:kf o u)(rd:RelV d d'):RelV (o.getD d) (u.getD d'):=by
 cases o with
 |none=>cases u with
  |none=>exact rd
  |some _=>exact(show False from r).elim
 |some _=>cases u with
  |none=>exact(show False from r).elim
  |some _=>exact r
theorem KV.val{kvs:List (κ×V)}{vs:List (κ×Value)}(r:KV kvs vs)(k:κ):kf (aU kvs k) (mn vs k):=by
 unfold KV at r
 induction r with
 |nil=>exact i5
 |@cons p q ps qs h t ih =>
  obtain⟨h1,h2⟩:=h;by_cases e:p.1=k
  ·have e':q.1=k:=h1.symm.trans e;have b:mn (q::qs) k=some q.2:=by simp[mn,kB,e']
   rw[cT e,b];exact h2
  ·have e':¬q.1=k:=fun z=>e (h1.trans z);have b:mn (q::qs) k=mn qs k:=by simp[mn,kB,e']
   rw[cG e,b];exact ih
theorem KV.any{kvs:List (κ×V)}{vs:List (κ×Value)}(r:KV kvs vs)(k:κ):(kvs.any fun kv=>decide (kv.1=k))=vs.any fun kv=>decide (kv.1=k):=by
 unfold KV at r
 induction r with
 |nil=>rfl
 |cons h t ih=>rw[oK,oK,ih,h.1]
theorem KV.repl{kvs:List (κ×V)}{vs:List (κ×Value)}(r:KV kvs vs)(k:κ){y:V}{u:Value}(ry:RelV y u):
  KV (kvs.map fun kv=>if kv.1=k then(kv.1,y)else kv) (vs.map fun kv=>if kv.1=k then(kv.1,u)else kv):=by
 unfold KV at r ⊢
 induction r with
 |nil=>exact .nil
 |@cons p q ps qs h t ih =>
  rw[bj,bj];refine .cons ?_ ih;obtain⟨h1,h2⟩:=h;by_cases e:p.1=k
  ·rw[if_pos e,if_pos (h1.symm.trans e)];exact⟨h1,ry⟩
  ·rw[if_neg e,if_neg (fun z=>e (h1.trans z))];exact⟨h1,h2⟩
theorem KV.put{kvs:List (κ×V)}{vs:List (κ×Value)}(r:KV kvs vs)(k:κ){y:V}{u:Value}(ry:RelV y u):KV (cH kvs k y) (stored vs k u):=by
 unfold cH stored;rw[r.any k];by_cases e:(vs.any fun kv=>decide (kv.1=k))=true
 ·rw[if_pos e,if_pos e];exact r.repl k ry
 ·rw[if_neg e,if_neg e];exact f8 r ⟨rfl,ry⟩
theorem KV.length{kvs:List (κ×V)}{vs:List (κ×Value)}(r:KV kvs vs):kvs.length=vs.length:=Paired.length r
end
theorem nZ{P:bM}{w:World}{k:em}{u:Value}(r:RelV (kV k) u):(cb P w).is k u=true:=by
 cases k with
 |inl i=>obtain⟨t,e⟩:=(show ∃t,u=Value.int i t from r);subst e;exact xK P w i t
 |inr x=>obtain⟨t,e⟩:=(show ∃t,u=Value.str x t from r);subst e;exact xJ P w x t
theorem wm:∀{k:m8}{u:Value},RelV (FJ k) u->ix k u=true
 |none,u,r=>by cases(show u=Value.none from r);rfl
 |some (.inl i),u,r=>by obtain⟨t,rfl⟩:=r;exact lE i t
 |some (.inr x),u,r=>by obtain⟨t,rfl⟩:=r;exact lD x t
abbrev KT(K:Za)(H:Hp):List (TK×V)->List (TK×Addr×Value)->Prop:=Paired fun p q=>p.1=q.1/\p7 K H p.1 (.ref q.2.1)/\p.1.depth<=8/\RelV p.2 q.2.2
theorem KT.val{K:Za}{H:Hp}{kvs:List (TK×V)}{xs:List (TK×Addr×Value)}(r:KT K H kvs xs)(k:TK):kf (aU kvs k) ((atKey xs k).map (·.2)):=by
 induction r with
 |nil=>exact i5
 |@cons p q ps qs h t ih =>
  obtain⟨h1,_,_,h2⟩:=h;by_cases e:p.1=k
  ·have e':q.1=k:=h1.symm.trans e;have b:atKey (q::qs) k=some q.2:=by simp[atKey,kB,e']
   rw[cT e,b];exact h2
  ·have e':¬q.1=k:=fun z=>e (h1.trans z);have b:atKey (q::qs) k=atKey qs k:=by simp[atKey,kB,e']
   rw[cG e,b];exact ih
theorem KT.repl{K:Za}{H:Hp}{kvs:List (TK×V)}{xs:List (TK×Addr×Value)}(r:KT K H kvs xs)(k:TK){y:V}{u:Value}(ry:RelV y u):
  KT K H (kvs.map fun kv=>if kv.1=k then(kv.1,y)else kv) (xs.map (putAt k u)):=by
 induction r with
 |nil=>exact .nil
 |@cons p q ps qs h t ih =>
  rw[bj,bj];refine .cons ?_ ih;obtain⟨h1,h2,h3⟩:=h;unfold putAt;by_cases e:p.1=k
  ·rw[if_pos e,if_pos (h1.symm.trans e)];exact⟨h1,h2,h3.1,ry⟩
  ·rw[if_neg e,if_neg (fun z=>e (h1.trans z))];exact⟨h1,h2,h3⟩
theorem KT.put{K:Za}{H:Hp}{kvs:List (TK×V)}{xs:List (TK×Addr×Value)}(r:KT K H kvs xs)(k:TK){b:Addr}{y:V}{u:Value}(hb:p7 K H k (.ref b))(h8:k.depth<=8)(ry:RelV y u):
  KT K H (cH kvs k y) (storedH xs k b u):=by
 have e:(kvs.any fun kv=>decide (kv.1=k))=(atKey xs k).isSome:=by
  rw[i8,(r.val k).isSome_eq,Option.isSome_map]
 unfold cH storedH;rw[e];by_cases q:(atKey xs k).isSome=true
 ·rw[if_pos q,if_pos q];exact r.repl k ry
 ·rw[if_neg q,if_neg q];exact f8 r ⟨rfl,hb,h8,ry⟩
theorem KT.keeps{K:Za}{H H':Hp}{kvs:List (TK×V)}{xs:List (TK×Addr×Value)}(r:KT K H kvs xs)(ht:∀b ys,H b=some (.tup ys)->H' b=some (.tup ys)):KT K H' kvs xs :=
 Paired.mapP r fun _ _ z=>⟨z.1,p7.keeps ht 8 z.2.2.1 z.2.1,z.2.2⟩
section
variable{P:bM}{w:World}{K:Za}{H:Hp}{h:Heap}{a:Addr}
theorem FA{u:HO}(ok:lI P w K H h)(e:Rd H a u):ca P w K H h a u:=e.ok ok
theorem oh{kvs:List (em×V)}(ok:lI P w K H h)(e:Rd H a (.dK kvs)):kvs.length<=aj/\(a==g6)=false/\∃vs,KV kvs vs/\h.DictOf (cb P w) a vs :=
 show ca P w K H h a (.dK kvs)from FA ok e
theorem G1{kvs:List (em×V)}(ok:lI P w K H h)(e:H a=some (.dK kvs)):kvs.length<=aj/\(a==g6)=false/\∃vs,KV kvs vs/\h.DictOf (cb P w) a vs:=oh ok (.inl e)
theorem FU(ok:lI P w K H h)(kin:K.In h):∀(d:Nat) {k:TK}{v:V}{u:Value},k.depth<=d->p7 K H k v->RelV v u->lV h k u:=by
 have key:∀(d:Nat) (ih:∀{k:TK}{v:V}{u:Value},k.depth<=d->p7 K H k v->RelV v u->lV h k u) (ks:List TK) (vs:List V) (us:Zf),TK.depths ks<=d->TKCs K H ks vs->ba vs us->TAts h ks us:=by
  intro d ih ks
  induction ks with
  |nil =>
   intro vs us _ hx r;have e:vs=[]:=hx;subst e;cases r
   rfl
  |cons k ks ihl =>
   intro vs us hd hx r;obtain⟨v,vs',rfl,h1,h2⟩:=hx;cases r with
   |@cons _ u _ us' r1 r2 =>
    have hd':max k.depth (TK.depths ks)<=d:=hd;exact⟨u,us',rfl,ih (by omega) h1 r1,ihl vs' us' (by omega) h2 r2⟩
 intro d
 induction d with
 |zero =>
  intro k v u hd hx r;cases k with
  |t l=>exact absurd hd (by show ¬(TK.depths l+1<=0);omega)
  |k b =>
   have e:v=FJ b:=hx;subst e;exact wm r
 |succ d ih =>
  intro k v u hd hx r;cases k with
  |k b =>
   have e:v=FJ b:=hx;subst e;exact wm r
  |t l =>
   obtain⟨b,xs,rfl,hb,hi⟩:=hx;cases(show u=Value.ref b from r);obtain⟨its,rv,ob,h1,h2,n,h3⟩:∃its:List Value,ba xs its/\IsTup h b its.toArray:=by
    rcases hb with hb|⟨o,its,n,hk,hc,hs,hz,r⟩
    ·obtain⟨_,its,rv,p⟩:=(show ca P w K H h b (.tup xs)from ok b _ hb);exact⟨its,rv,p⟩
    ·exact⟨its.toList,r,o,kin b o hk,hc,n,by simpa using hs⟩
   exact⟨b,ob,its.toArray,n,rfl,h1,h2,h3,by simpa using key d (fun h1=>ih h1) l xs its (by have:TK.depths l+1<=d+1:=hd;omega) hi rv⟩
theorem wj{k:TK}(ok:lI P w K H h)(kin:K.In h)(e:p7 K H k (.ref a))(h8:k.depth<=8):(dL P w).is h k a:=⟨FU ok kin 8 h8 e rfl,h8⟩
theorem p5{kvs:List (TK×V)}(ok:lI P w K H h)(kin:K.In h)(e:Rd H a (.dT kvs)):kvs.length<=aj/\(a==g6)=false /\
  ∃xs,KT K H kvs xs/\h.DictOfH (dL P w) a xs:=by
 obtain⟨z,y,xs,r,o,es,ep,h1,h2,h3,h4,h5⟩:=(show ca P w K H h a (.dT kvs)from FA ok e);refine⟨z,y,xs,r,o,es,ep,h1,h2,h3,h4,fun x hx=>?_,h5⟩;have all:∀{l:List (TK×V)}{m:List (TK×Addr×Value)},KT K H l m->∀x∈m,(dL P w).is h x.1 x.2.1:=by
  intro l m q
  induction q with
  |nil=>intro x hx;exact nomatch hx
  |@cons p q ps qs hq t ih =>
   intro x hx;rcases cA.mp hx with e|hx
   ·subst e;exact wj ok kin (by rw[<-hq.1];exact hq.2.1) (by rw[<-hq.1];exact hq.2.2.1)
   ·exact ih x hx
 exact all r x hx
theorem DK{kvs:List (TK×V)}(ok:lI P w K H h)(kin:K.In h)(e:H a=some (.dT kvs)):kvs.length<=aj/\(a==g6)=false /\
  ∃xs,KT K H kvs xs/\h.DictOfH (dL P w) a xs:=p5 ok kin (.inl e)
end
mutual
def lU(K:Za)(H:Hp):TK->V->Prop
 |.k a,v=>v=FJ a
 |.t l,v=>∃b xs,v=.ref b/\bA K H b xs/\TKIns K H l xs
def TKIns(K:Za)(H:Hp):List TK->List V->Prop
 |[],vs=>vs=[]
 |k::r,vs=>∃v us,vs=v::us/\lU K H k v/\TKIns K H r us
end
theorem cC.isIn{K:Za}{H:Hp}:∀(d:Nat) {k:TK}{v:V},k.depth<=d->cC H k v->lU K H k v:=by
 have key:∀(d:Nat) (ih:∀{k:TK}{v:V},k.depth<=d->cC H k v->lU K H k v) (xs:List TK) (vs:List V),TK.depths xs<=d->TKAts H xs vs->TKIns K H xs vs:=by
  intro d ih xs
  induction xs with
  |nil=>intro vs _ hx;exact hx
  |cons x xs ihl =>
   intro vs hd hx;obtain⟨v,us,rfl,hx1,hx2⟩:=hx;have hd':max x.depth (TK.depths xs)<=d:=hd;exact⟨v,us,rfl,ih (by omega) hx1,ihl us (by omega) hx2⟩
 intro d
 induction d with
 |zero =>
  intro k v hd hx;cases k with
  |t l=>exact absurd hd (by show ¬(TK.depths l+1<=0);omega)
  |k a=>exact hx
 |succ d ih =>
  intro k v hd hx;cases k with
  |k a=>exact hx
  |t l =>
   obtain⟨b,xs,rfl,hb,hi⟩:=hx;exact⟨b,xs,rfl,bA.of hb,key d (fun h1=>ih h1) l xs (by have:TK.depths l+1<=d+1:=hd;omega) hi⟩
theorem Er{X:Cx}{J2:Zd}{σ:St}{H:Hp}{s:Shared}(I:Inv X J2 σ H s):∀(d:Nat) {k:TK}{v:V}{u:Value},k.depth<=d->lU X.K H k v->RelV v u->lV s.heap k u:=by
 have key:∀(d:Nat) (ih:∀{k:TK}{v:V}{u:Value},k.depth<=d->lU X.K H k v->RelV v u->lV s.heap k u) (ks:List TK) (vs:List V) (us:Zf),TK.depths ks<=d->TKIns X.K H ks vs->ba vs us->TAts s.heap ks us:=by
  intro d ih ks
  induction ks with
  |nil =>
   intro vs us _ hx r;have e:vs=[]:=hx;subst e;cases r
   rfl
  |cons k ks ihl =>
   intro vs us hd hx r;obtain⟨v,vs',rfl,h1,h2⟩:=hx;cases r with
   |@cons _ u _ us' r1 r2 =>
    have hd':max k.depth (TK.depths ks)<=d:=hd;exact⟨u,us',rfl,ih (by omega) h1 r1,ihl vs' us' (by omega) h2 r2⟩
 intro d
 induction d with
 |zero =>
  intro k v u hd hx r;cases k with
  |t l=>exact absurd hd (by show ¬(TK.depths l+1<=0);omega)
  |k b =>
   have e:v=FJ b:=hx;subst e;exact wm r
 |succ d ih =>
  intro k v u hd hx r;cases k with
  |k b =>
   have e:v=FJ b:=hx;subst e;exact wm r
  |t l =>
   obtain⟨b,xs,rfl,hb,hi⟩:=hx;cases(show u=Value.ref b from r);obtain⟨its,rv,⟨ob,h1,h2,n,h3⟩,_⟩:=I.tuple hb;exact⟨b,ob,its.toArray,n,rfl,h1,h2,h3,by simpa using key d (fun h1=>ih h1) l xs its (by have:TK.depths l+1<=d+1:=hd;omega) hi rv⟩
theorem sH{X:Cx}{J2:Zd}{σ:St}{H:Hp}{s:Shared}{k:TK}{b:Addr}(I:Inv X J2 σ H s)(e:lU X.K H k (.ref b))(h8:k.depth<=8):(dL X.prog X.w).is s.heap k b:=⟨Er I 8 h8 e rfl,h8⟩
theorem fh{P:bM}{w:World}{A:Around}(hu:A.units+16<cLine):(dL P w).room A.in1:=by
 show A.units+1+8<cLine;omega
def lW(K:Za)(H:Hp)(a:Addr)(y:V)(r:Option V):Prop :=
 (∃kvs k,Rd H a (.dK kvs)/\y=kV k/\r=aU kvs k)∨∃kvs k b,Rd H a (.dT kvs)/\y=.ref b/\lU K H k (.ref b)/\k.depth<=8/\r=aU kvs k
def Hb(H:Hp)(a:Addr)(y v:V)(H':Hp):Prop :=
 (∃kvs k,H a=some (.dK kvs)/\y=kV k/\kvs.length<aj/\H'=upd H a (.dK (cH kvs k v))) ∨
 ∃kvs k b,H a=some (.dT kvs)/\y=.ref b/\cC H k (.ref b)/\k.depth<=8/\kvs.length<aj/\H'=upd H a (.dT (cH kvs k v))
section
variable{X:Cx}{J2:Zd}{σ:St}{H:Hp}{s:Shared}{a:Addr}{y v:V}{u r:Value}{o:Option V}{A:Around}{E:Zc}
theorem Inv.big(I:Inv X J2 σ H s):g6<s.heap.objs.size:=by
 have h:bG<s.heap.objs.size:=(I.mod.glob.keeps I.bk).lt;exact Nat.lt_trans (by decide) h
theorem BV{Q:Zc}(hu:A.units+16<cLine)(I:Inv X J2 σ H s)(g:lW X.K H a y (some v))(ry:RelV y u)(h:∀w' s',Inv X J2 σ H s'->RelV v w'->Q w' s'):
  wpAny (model X.prog X.w) A (mr (.ref a) u) Q E s:=by
 rcases g with⟨kvs,k,e,ey,l⟩|⟨kvs,k,b,e,ey,eb,e8,l⟩
 ·subst ey;obtain⟨z,hd,vs,rel,dd⟩:=oh I.hok e;obtain⟨w',hw,rw'⟩:=kf.some_of (v:=v) (o:=mn vs k) (by rw[l];exact rel.val k);exact wpAny_getItem_of (nZ ry) dd.mapOf hw (h w' _ (I.tok _) rw')
 ·subst ey;cases(show u=Value.ref b from ry);obtain⟨z,hd,xs,rel,dd⟩:=p5 I.hok I.kIn e;obtain⟨w',hw,rw'⟩:=kf.some_of (v:=v) (o:=(atKey xs k).map (·.2)) (by rw[l];exact rel.val k);obtain⟨p,hp,hp2⟩:=kq.mp hw;refine wpAny_getItem_heap (fh hu) (sH I eb e8) dd hp ?_;rw[hp2];exact h w' _ (I.tok _) rw'
theorem d_in{Q:Zc}(hu:A.units+16<cLine)(I:Inv X J2 σ H s)(g:lW X.K H a y o)(ry:RelV y u)(h:∀s',Inv X J2 σ H s'->Q (.bool o.isSome) s'):
  wpAny (model X.prog X.w) A (eL .In u (.ref a)) Q E s:=by
 rcases g with⟨kvs,k,e,ey,l⟩|⟨kvs,k,b,e,ey,eb,e8,l⟩
 ·subst ey;obtain⟨z,hd,vs,rel,dd⟩:=oh I.hok e;refine wpAny_in_of (nZ ry) hd dd.mapOf ?_;rw[<-(rel.val k).isSome_eq,<-l];exact h _ (I.tok _)
 ·subst ey;cases(show u=Value.ref b from ry);obtain⟨z,hd,xs,rel,dd⟩:=p5 I.hok I.kIn e;refine wpAny_in_heap (fh hu) (sH I eb e8) hd dd ?_;have q:=(rel.val k).isSome_eq;rw[Option.isSome_map]at q;rw[<-q,<-l];exact h _ (I.tok _)
theorem Fi{Q:Zc}(hu:A.units+16<cLine)(I:Inv X J2 σ H s)(g:lW X.K H a y o)(ry:RelV y u)(h:∀s',Inv X J2 σ H s'->Q (.bool (!o.isSome)) s'):
  wpAny (model X.prog X.w) A (eL .NotIn u (.ref a)) Q E s:=by
 rcases g with⟨kvs,k,e,ey,l⟩|⟨kvs,k,b,e,ey,eb,e8,l⟩
 ·subst ey;obtain⟨z,hd,vs,rel,dd⟩:=oh I.hok e;refine wpAny_notIn_of (nZ ry) hd dd.mapOf ?_;rw[<-(rel.val k).isSome_eq,<-l];exact h _ (I.tok _)
 ·subst ey;cases(show u=Value.ref b from ry);obtain⟨z,hd,xs,rel,dd⟩:=p5 I.hok I.kIn e;refine wpAny_notIn_heap (fh hu) (sH I eb e8) hd dd ?_;have q:=(rel.val k).isSome_eq;rw[Option.isSome_map]at q;rw[<-q,<-l];exact h _ (I.tok _)
theorem qK{h':Heap}{t':Nat}{ob:HO}(I:Inv X J2 σ H s)(mu:G5 (H a))(hs:iE a s.heap h')(he:∃q,h'.get? a=some q)(new:ca X.prog X.w X.K (upd H a ob) h' a ob):
  Inv X J2 σ (upd H a ob) { s with heap:=h',toks:=t' } :=
 I.write (x:=a) (e:=a) mu (.inl rfl) (fun b q hb z=>(hs.2 b hb).trans z) he new
theorem DN{P:bM}{w:World}{K:Za}{H':Hp}{h':Heap}{kvs:List (em×V)}{vs:List (em×Value)}(z:kvs.length<=aj)(hd:(a==g6)=false)(rel:KV kvs vs)(dd:h'.DictOf (cb P w) a vs):
  ca P w K H' h' a (.dK kvs):=⟨z,hd,vs,rel,dd⟩
theorem BU{H':Hp}{Q:Unit->Shared->Prop}(hu:A.units+16<cLine)(I:Inv X J2 σ H s)(g:Hb H a y v H')(ry:RelV y u)(rv:RelV v r)(h:∀s',Inv X J2 σ H' s'->Q () s'):
  wpAny (model X.prog X.w) A (setItem (.ref a) u r) Q E s:=by
 rcases g with⟨kvs,k,e,ey,l,eH⟩|⟨kvs,k,b,e,ey,eb,e8,l,eH⟩
 ·subst ey eH;obtain⟨z,hd,vs,rel,dd⟩:=G1 I.hok e;have hz:vs.length<=aj:=by rw[<-rel.length];exact z
  have hl:(cH kvs k v).length<=aj:=by have:=dQ kvs k v;omega
  refine wpAny_setItem_pairs (hsz:=hz) (nZ ry) dd fun h' dd' hs=>h _ ?_;have he:∃q,h'.get? a=some q:=let⟨q,_,_,hq,_⟩:=dd';⟨q,hq⟩;exact qK I (by rw[e];exact i5) hs he (DN hl hd (rel.put k rv) dd')
 ·subst ey eH;cases(show u=Value.ref b from ry);obtain⟨z,hd,xs,rel,dd⟩:=DK I.hok I.kIn e;have hz:xs.length<=aj:=by rw[<-Paired.length rel];exact z
  have hl:(cH kvs k v).length<=aj:=by have:=dQ kvs k v;omega
  refine wpAny_setItem_heap (hsz:=hz) (fh hu) (wj I.hok I.kIn (cC.c 8 e8 eb) e8) dd fun h' dd' hs=>h _ ?_;obtain⟨q,es,ep,hq,h2,h3,h4,_,h5⟩:=dd';refine qK I (by rw[e];exact i5) hs ⟨q,hq⟩ ⟨hl,hd,_,(rel.put k (cC.c 8 e8 eb) e8 rv).keeps fun c ys ec=>?_,q,es,ep,hq,h2,h3,h4,h5⟩;rw[ai (Dm ec e (fun z=>nomatch z))];exact ec
theorem zH{b:Addr}{kvs:List (TK×V)}{k:TK}{Q:Unit->Shared->Prop}(hu:A.units+16<cLine)(I:Inv X J2 σ H s)(e:H a=some (.dT kvs))(eb:p7 X.K H k (.ref b))(e8:k.depth<=8)(l:kvs.length<aj)(ry:RelV (.ref b) u)(rv:RelV v r)(h:∀s',Inv X J2 σ (upd H a (.dT (cH kvs k v))) s'->Q () s'):
  wpAny (model X.prog X.w) A (setItem (.ref a) u r) Q E s:=by
 cases(show u=Value.ref b from ry);obtain⟨z,hd,xs,rel,dd⟩:=DK I.hok I.kIn e;have hz:xs.length<=aj:=by rw[<-Paired.length rel];exact z
 have hl:(cH kvs k v).length<=aj:=by have:=dQ kvs k v;omega
 refine wpAny_setItem_heap (hsz:=hz) (fh hu) (wj I.hok I.kIn (eb) e8) dd fun h' dd' hs=>h _ ?_;obtain⟨q,es,ep,hq,h2,h3,h4,_,h5⟩:=dd';refine qK I (by rw[e];exact i5) hs ⟨q,hq⟩ ⟨hl,hd,_,(rel.put k (eb) e8 rv).keeps fun c ys ec=>?_,q,es,ep,hq,h2,h3,h4,h5⟩;rw[ai (Dm ec e (fun z=>nomatch z))];exact ec
end
def Cc(i:Expr):Prop:=∀ov iv,vq i false ov iv=operate [ov,iv] (mr ov iv)
theorem Ex{prog:bM}{w:World}{A:Around}{E:Zc}{s:Shared}{env:Env}{value slice:Expr}{pos:Pos}{T id:String}{Q:Zc}
  (hl:typeLookup (.type T) "__getitem__"=pure (some (.builtin id))) (hs:Cc slice)
  (h:wpAny (model prog w) A (eval value env) (fun o s₁=>wpAny (model prog w) A (eval slice env) (fun i s₂=>s₂.TypeIs o T/\wpAny (model prog w) A (mr o i) Q E s₂) E s₁) E s) :
  wpAny (model prog w) A (eval (.Subscript value slice pos) env) Q E s:=by
 refine Subscript_ (nu h (fun o s₁ h₁=>nu h₁ (fun i s₂ h₂=>?_) fun _ _ x=>x) fun _ _ x=>x);obtain⟨hT,h₂⟩:=h₂;unfold subscriptTail;refine ap ?_;rw[getitemInPython_of_ne hT.not_modules];refine ap (El hT hl ?_);have fin:wpAny (model prog w) A (vq slice false o i) (fun r s₃=>wpAny (model prog w) A (letTemporaryGo value o r >>= fun _=>pure r) Q E s₃) E s₂:=by
  rw[hs o i];exact wpAny_operating (nu h₂ (fun r s₃ h₃=>ap (wpAny_letTemporaryGo (aX h₃))) fun _ _ x=>x)
 first
  |exact aX (ap fin)
  |exact ap (aX (ap fin))
  |exact ap fin
theorem xS{X:Cx}{J2:Zd}{σ:St}{H:Hp}{s:Shared}{a:Addr}{y:V}{o:Option V}(I:Inv X J2 σ H s)(g:lW X.K H a y o):s.TypeIs (.ref a) "dict":=by
 rcases g with⟨kvs,k,e,_,_⟩|⟨kvs,k,b,e,_,_,_⟩
 ·obtain⟨_,_,vs,_,dd⟩:=oh I.hok e;exact dd.typeIs
 ·obtain⟨_,_,xs,_,dd⟩:=p5 I.hok I.kIn e;exact dd.typeIs
def fW(K:Za)(td ty:TE):TE:=fun σ H Q=>td σ H fun x H1=>ty σ H1 fun y H2=>∃a v,x=.ref a/\lW K H2 a y (some v)/\Q v H2
def Bj(K:Za)(ty td:TE):TE:=fun σ H Q=>ty σ H fun y H1=>td σ H1 fun x H2=>∃a o,x=.ref a/\lW K H2 a y o/\Q (.bl o.isSome) H2
def fD(K:Za)(ty td:TE):TE:=fun σ H Q=>ty σ H fun y H1=>td σ H1 fun x H2=>∃a o,x=.ref a/\lW K H2 a y o/\Q (.bl (!o.isSome)) H2
def ir(td ty tv:TE):TS:=fun D σ H=>tv σ H fun v H1=>td σ H1 fun x H2=>ty σ H2 fun y H3=>∃a H4,x=.ref a/\Hb H3 a y v H4/\D.nx σ H4
section
variable{X:Cx}{o i e value:Expr}{pos pos' J6:Pos}{td ty tv:TE}
theorem eR(hu:X.A.units+16<cLine)(ho:PE X o td)(hi:PE X i ty)(hs:Cc i):PE X (.Subscript o i pos) (fW X.K td ty):=by
 intro J2 s σ H Q I h;refine Ex PySem.F.slot_dict_getitem.lookup hs (cq (ho J2 s σ H _ I h) fun u s1 ⟨x,H1,I1,rx,q1⟩=>cq (hi J2 s1 σ H1 _ I1 q1) fun iv s2 ⟨y,H2,I2,ry,a,v,ex,g,q2⟩=>?_);subst ex;obtain rfl:u=Value.ref a:=rx;exact⟨xS I2 g,BV hu I2 g ry fun w' s3 I3 rw'=>⟨v,H2,I3,rw',q2⟩⟩
theorem so(hu:X.A.units+16<cLine)(hi:PE X i ty)(ho:PE X o td):PC X .In i o (Bj X.K ty td):=by
 intro J2 s σ H Q I h;refine cq (hi J2 s σ H _ I h) fun iv s1 ⟨y,H1,I1,ry,q1⟩=>cq (ho J2 s1 σ H1 _ I1 q1) fun u s2 ⟨x,H2,I2,rx,a,ov,ex,g,q2⟩=>?_;subst ex;obtain rfl:u=Value.ref a:=rx;exact d_in hu I2 g ry fun s3 I3=>⟨.bl ov.isSome,H2,I3,rfl,q2⟩
theorem dw(hu:X.A.units+16<cLine)(hi:PE X i ty)(ho:PE X o td):PC X .NotIn i o (fD X.K ty td):=by
 intro J2 s σ H Q I h;refine cq (hi J2 s σ H _ I h) fun iv s1 ⟨y,H1,I1,ry,q1⟩=>cq (ho J2 s1 σ H1 _ I1 q1) fun u s2 ⟨x,H2,I2,rx,a,ov,ex,g,q2⟩=>?_;subst ex;obtain rfl:u=Value.ref a:=rx;exact Fi hu I2 g ry fun s3 I3=>⟨.bl (!ov.isSome),H2,I3,rfl,q2⟩
theorem dE(hu:X.A.units+16<cLine)(ho:PE X o td)(hi:PE X i ty)(hv:PE X value tv)(hs:pM value (some (.Subscript o i pos')) pos.line X.env=pure false):
  PS X (.Assign [.Subscript o i pos'] value pos) (ir td ty tv):=by
 intro J2 s σ H D I h;refine wpAny_Assign_Subscript (cq (hv J2 s σ H _ I h) fun r s1 ⟨v,H1,I1,rv,q1⟩=>cq (ho J2 s1 σ H1 _ I1 q1) fun u s2 ⟨x,H2,I2,rx,q2⟩=>cq (hi J2 s2 σ H2 _ I2 q2) fun iv s3 ⟨y,H3,I3,ry,a,H4,ex,g,q3⟩=>?_) hs;subst ex;obtain rfl:u=Value.ref a:=rx;exact BU hu I3 g ry rv fun s4 I4=>⟨σ,H4,I4,q3⟩
end
theorem DO{P:bM}{w:World}{K:Za}{H:Hp}(h:Heap)(hb:g6<h.objs.size):ca P w K H (h.push { cls:=.type "dict",data:=.dict #[] }) h.objs.size (.dK []) :=
 ⟨eK _,beq_eq_false_iff_ne.mpr (ii (cE hb)),[],.nil,Heap.DictOf.new h⟩
theorem DM{P:bM}{w:World}{K:Za}{H:Hp}(h:Heap)(hb:g6<h.objs.size):ca P w K H (h.push { cls:=.type "dict",data:=.dict #[] }) h.objs.size (.dT []) :=
 ⟨eK _,beq_eq_false_iff_ne.mpr (ii (cE hb)),[],.nil,_,#[],0,cQ _ rfl,⟨rfl,rfl,rfl⟩,rfl,rfl,rf⟩
def o0:TE:=fun _ H Q=>∀p,H p=none->Q (.ref p) (upd H p (.dK []))
def iV:TE:=fun _ H Q=>∀p,H p=none->Q (.ref p) (upd H p (.dT []))
section
variable{X:Cx}{pos:Pos}
theorem kO:PE X (.Dict [] [] pos) o0:=fun J2 s σ H Q I h =>
 wpAny_Dict_empty ⟨.ref s.heap.objs.size,_,I.laid (a:=s.heap.objs.size) (o:=.dK []) (t':=s.toks) (fun _ _ q=>bv _ q) (aA _) (DO s.heap I.big),rfl,h _ (I.hok.fresh (aA _))⟩
theorem fM:PE X (.Dict [] [] pos) iV:=fun J2 s σ H Q I h =>
 wpAny_Dict_empty ⟨.ref s.heap.objs.size,_,I.laid (a:=s.heap.objs.size) (o:=.dT []) (t':=s.toks) (fun _ _ q=>bv _ q) (aA _) (DM s.heap I.big),rfl,h _ (I.hok.fresh (aA _))⟩
end
def iX(kvs more:List (em×V)):List (em×V):=more.foldl (fun acc kv=>cH acc kv.1 kv.2) kvs
theorem KV.merge:∀{more:List (em×V)}{rs:List (em×Value)}{kvs:List (em×V)}{vs:List (em×Value)},KV more rs->KV kvs vs->KV (iX kvs more) (merged vs rs):=by
 intro more rs kvs vs r;unfold KV at r
 induction r generalizing kvs vs with
 |nil=>intro q;exact q
 |@cons p q ps qs h t ih =>
  intro r0;have e:KV (cH kvs p.1 p.2) (stored vs q.1 q.2):=by
   have:=r0.put p.1 h.2;rw[<-h.1];exact this
  exact ih e
theorem ma:∀(more kvs:List (em×V)),(iX kvs more).length<=kvs.length+more.length
 |[],kvs=>by show kvs.length<=kvs.length+0;omega
 |p::r,kvs=>by
  have h1:=ma r (cH kvs p.1 p.2);have h2:=dQ kvs p.1 p.2;show(iX (cH kvs p.1 p.2) r).length<=_;rw[fb];omega
structure M1(X:Cx)(o:Expr)(m:Str)(J4:Pos)(e:Expr)(J3:Pos):Prop where
 base:uh o m X.env (eval o X.env)=eval o X.env
 few:((backTo J3 (aK [e] X.env)).all (fun x=>!x.1) && (np J3 (nn [] X.env)).all (fun x=>x.1.isSome)
  && decide (([e]:List Expr).length+([]:List oM).length+(if([]:List oM).isEmpty then 0 else 1)<30))=true
 line:(J4.endLine==J3.line)=true
 trees:backTo J3 (aK [e] X.env)=[(false,eval e X.env)]
structure M2(X:Cx)(o:Expr)(m:Str)(J4:Pos)(e f:Expr)(J3:Pos):Prop where
 base:uh o m X.env (eval o X.env)=eval o X.env
 few:((backTo J3 (aK [e,f] X.env)).all (fun x=>!x.1) && (np J3 (nn [] X.env)).all (fun x=>x.1.isSome)
  && decide (([e,f]:List Expr).length+([]:List oM).length+(if([]:List oM).isEmpty then 0 else 1)<30))=true
 line:(J4.endLine==J3.line)=true
 trees:backTo J3 (aK [e,f] X.env)=[(false,eval e X.env),(false,eval f X.env)]
def IsD(H:Hp)(a:Addr):Prop:=(∃kvs,Rd H a (.dK kvs))∨∃kvs,Rd H a (.dT kvs)
theorem Dx{X:Cx}{J2:Zd}{σ:St}{H:Hp}{s:Shared}{a:Addr}(I:Inv X J2 σ H s)(d:IsD H a):
  s.TypeIs (.ref a) "dict"/\(∀b,Value.ref a=.ref b->∃ob,s.heap.get? b=some ob/\ob.dict=none)/\(a==g6)=false:=by
 rcases d with⟨kvs,e⟩|⟨kvs,e⟩
 ·obtain⟨_,hd,vs,_,dd⟩:=oh I.hok e;refine⟨dd.typeIs,fun b q=>?_,hd⟩;cases q;obtain⟨ob,_,_,h1,h2,_⟩:=dd;exact⟨ob,h1,h2.2.1⟩
 ·obtain⟨_,hd,xs,_,dd⟩:=p5 I.hok I.kIn e;refine⟨dd.typeIs,fun b q=>?_,hd⟩;cases q;obtain⟨ob,_,_,h1,h2,_⟩:=dd;exact⟨ob,h1,h2.2.1⟩
section
variable{X:Cx}{J2:Zd}{σ:St}{H:Hp}{s:Shared}{a:Addr}{y d:V}{u r:Value}{o:Option V}{A:Around}{E:Zc}
theorem Gm{Q:Zc}(hu:A.units+16<cLine)(I:Inv X J2 σ H s)(g:lW X.K H a y o)(ry:RelV y u)(h:∀w' s',Inv X J2 σ H s'->RelV (o.getD .non) w'->Q w' s'):
  wpAny (model X.prog X.w) A (call (.builtin "dict.get") [.ref a,u]) Q E s:=by
 rcases g with⟨kvs,k,e,ey,l⟩|⟨kvs,k,b,e,ey,eb,e8,l⟩
 ·subst ey;obtain⟨z,hd,vs,rel,dd⟩:=oh I.hok e;refine re oJ dd.typeIs vk (PySem.F.args_dict_get_2 _ _) (meets_dict_get (cb X.prog X.w) a (nZ ry) hd) ⟨_,dd.mapOf,h _ _ (I.tok _) ?_⟩;rw[l];exact(rel.val k).getD rfl
 ·subst ey;cases(show u=Value.ref b from ry);obtain⟨z,hd,xs,rel,dd⟩:=p5 I.hok I.kIn e;refine re oJ dd.typeIs vk (PySem.F.args_dict_get_2 _ _) (meetsH_dict_get (dL X.prog X.w) a b hd) ⟨fh hu,k,xs,sH I eb e8,dd,h _ _ (I.tok _) ?_⟩;rw[l];exact(rel.val k).getD rfl
theorem Gk{Q:Zc}(hu:A.units+16<cLine)(I:Inv X J2 σ H s)(g:lW X.K H a y o)(ry:RelV y u)(rd:RelV d r)(h:∀w' s',Inv X J2 σ H s'->RelV (o.getD d) w'->Q w' s'):
  wpAny (model X.prog X.w) A (call (.builtin "dict.get") [.ref a,u,r]) Q E s:=by
 rcases g with⟨kvs,k,e,ey,l⟩|⟨kvs,k,b,e,ey,eb,e8,l⟩
 ·subst ey;obtain⟨z,hd,vs,rel,dd⟩:=oh I.hok e;refine re oJ dd.typeIs vk (PySem.F.args_dict_get_3 _ _ _) (meets_dict_get_default (cb X.prog X.w) a (nZ ry) hd r) ⟨_,dd.mapOf,h _ _ (I.tok _) ?_⟩;rw[l];exact(rel.val k).getD rd
 ·subst ey;cases(show u=Value.ref b from ry);obtain⟨z,hd,xs,rel,dd⟩:=p5 I.hok I.kIn e;refine re oJ dd.typeIs vk (PySem.F.args_dict_get_3 _ _ _) (meetsH_dict_get_default (dL X.prog X.w) a b hd r) ⟨fh hu,k,xs,sH I eb e8,dd,h _ _ (I.tok _) ?_⟩;rw[l];exact(rel.val k).getD rd
end
def vU(K:Za)(td ty:TE):TE:=fun σ H Q=>td σ H fun x H1=>∃a,x=.ref a/\IsD H1 a/\ty σ H1 fun y H2=>∃o,lW K H2 a y o/\Q (o.getD .non) H2
def vT(K:Za)(td ty tx:TE):TE:=fun σ H Q=>td σ H fun x H1=>∃a,x=.ref a/\IsD H1 a/\ty σ H1 fun y H2=>tx σ H2 fun z H3=>∃o,lW K H3 a y o/\Q (o.getD z) H3
section
variable{X:Cx}{o e f:Expr}{J4 J3:Pos}{td ty tx:TE}
theorem sn(hu:X.A.units+16<cLine)(ho:PE X o td)(he:PE X e ty)(m:M1 X o "get" J4 e J3):PE X (.Call (.Attribute o "get" J4) [e] [] J3) (vU X.K td ty):=by
 intro J2 s σ H Q I h;refine wpAny_Call_method m.base m.few m.line PySem.F.plainAttrs_dict oJ PySem.F.type_dict_get (cq (ho J2 s σ H _ I h) fun u s1 ⟨x,H1,I1,rx,a,ex,d,q1⟩=>?_);subst ex;obtain rfl:u=Value.ref a:=rx;obtain⟨t1,t2,_⟩:=Dx I1 d;refine⟨t1,t2,?_⟩;rw[m.trees];refine vo rfl (Calls.evalArgs_plain (z9 (cq (he J2 s1 σ H1 _ I1 q1) fun iv s2 ⟨y,H2,I2,ry,ov,g,q2⟩=>Calls.spliced_nil ?_)));exact Gm hu I2 g ry fun w' s3 I3 rw'=>⟨_,H2,I3,rw',q2⟩
theorem sk(hu:X.A.units+16<cLine)(ho:PE X o td)(he:PE X e ty)(hf:PE X f tx)(m:M2 X o "get" J4 e f J3):PE X (.Call (.Attribute o "get" J4) [e,f] [] J3) (vT X.K td ty tx):=by
 intro J2 s σ H Q I h;refine wpAny_Call_method m.base m.few m.line PySem.F.plainAttrs_dict oJ PySem.F.type_dict_get (cq (ho J2 s σ H _ I h) fun u s1 ⟨x,H1,I1,rx,a,ex,d,q1⟩=>?_);subst ex;obtain rfl:u=Value.ref a:=rx;obtain⟨t1,t2,_⟩:=Dx I1 d;refine⟨t1,t2,?_⟩;rw[m.trees];refine vo rfl (Calls.evalArgs_plain (z9 (cq (he J2 s1 σ H1 _ I1 q1) fun iv s2 ⟨y,H2,I2,ry,q2⟩ =>
  z9 (cq (hf J2 s2 σ H2 _ I2 q2) fun fv s3 ⟨z,H3,I3,rz,ov,g,q3⟩=>Calls.spliced_nil ?_))))
 exact Gk hu I3 g ry rz fun w' s4 I4 rw'=>⟨_,H3,I4,rw',q3⟩
end
end L2
namespace Att
open PySem PySem.W PySem.Calls PyProof.Rows
theorem ints_of_wellAll{P:Params}{h:Heap}:∀(ns:List Int) (vs:Zf),WellAll P h vs (ns.map WData.int)->rc vs ns:=by
 intro ns
 induction ns with
 |nil =>
  intro vs w;rw[q_]at w;cases w;exact .nil
 |cons n ns ih =>
  intro vs w;rw[bj]at w;cases w with
  |cons a b =>
   cases a;exact .cons _ _ (ih _ b)
theorem script_of{l:OpenLaw}{n:Nat}(hn:l.most=some n){P:Params}{h:Heap}{args:List WData}{vals:Zf}
  (hpre:l.row.toRowW.claim.pre args=true) (hwl:WellAll P h vals args) :
  ∃a vs ns,vals=[Value.ref a]/\args=[WData.list (ns.map WData.int)]/\h.get? a=some { cls:=.type "list",data:=.seq vs.toArray }/\rc vs ns/\ns.length<=n:=by
 have hsh:WShape.hasAll [] args [.list .int]=true:=(pre_splitW hpre).1;have hc:l.pre.holds [] { args:=args }=true:=(pre_splitW hpre).2;obtain⟨d,r,rfl,h1,h2⟩:=hasAllW_cons hsh;obtain rfl:=hasAllW_nil h2;obtain⟨xs,rfl,h3⟩:=hasW_list h1;obtain⟨ns,rfl⟩:=items_int h3;have hlen:ns.length<=n:=by
  unfold OpenLaw.pre at hc;have h4:(WTm.not (.lt (.lit (.int (n:Int))) (.len (.arg 0)))).holds [] { args:=[.list (ns.map .int)] }=true:=by
   have h4:=(holds_andW hc).1;rw[hn]at h4;exact h4
  have h5:=condW_of h4 (w_not (w_lt w_lit (w_len_list (w_arg rfl))));rw[ah]at h5;refine Nat.le_of_not_lt fun q=>?_;have q':(n:Int)<((ns.length:Nat):Int):=by omega
  first
   | (rw[zzr1 q']at h5;exact absurd h5 (by decide))
   | (simp at h5;omega)
 cases hwl with
 |cons w1 w2 =>
  cases w2;cases w1 with
  |list ho hall=>exact⟨_,_,ns,rfl,rfl,ho,ints_of_wellAll ns _ hall,hlen⟩
theorem post_true(l:OpenLaw)(args:List WData):l.row.toRowW.claim.post args (.bool true) args=true :=
 postW_of (r:=l.row.toRowW) (X:=(true==true))
  (show WShape.has [] (.bool true) .bool=true by first|rfl|decide|simp[WShape.has,WShape.arms,WShape.armsAll])
  (show(WTm.eq .res (.lit (.bool true))).value [] { args:=args,res:=some (.bool true),after:=args }=some (.bool (true==true))from w_eq_bool (w_res rfl) w_lit) rfl
theorem attach_call{l:OpenLaw}{n:Nat}{q:bM}{loose:Zb}{XP:(Str->Option Value)->Heap->Prop}{YP:World->Heap->Prop}{d:DefRec}
  (hn:l.most=some n) (hdf:d.params.defaults=[])
  (call:∀(w:World) (s₀ s₁:Shared) (mg mb:Str->Option Value) (fa:Addr) (o:Obj) (pm cd doc:Value) (a:Addr) (vs:Zf) (ns:List Int),
   Ground q loose [] XP w s₀ mg mb s₁.heap->YP w s₁.heap ->
   s₁.heap.get? fa=some o->o.data=.func (docDef d.name d.params d.body d.scope pm cd doc)->s₁.heap.CodeRec cd d.name->mg d.name=some (.ref fa) ->
   s₁.heap.get? a=some { cls:=.type "list",data:=.seq vs.toArray }->rc vs ns->ns.length<=n->s₁.gens=#[] ->
   zzl77 (model l.prog w) kA (.call (.ref fa) ⟨[.ref a],[]⟩) (fun r s'=>r=.ok (.ret (.bool true))/\OldK s₁.heap s'.heap/\s'.os=s₁.os/\nr s'.gens) s₁) :
  WalkO q loose XP YP l.row.toRowW d [] (fun f vs=>PySem.call f vs):=by
 intro w s₀ s₁ mg mb G Y fa o pm cd doc dV kV ho hd hcd hD hmg hg args vals as hpre hlay hrd hwl hlo;obtain rfl:dV=.none:=Dflts.none hD hdf;obtain rfl:kV=.none:=Dflts.noKw hD;obtain⟨a,vs,ns,rfl,rfl,hobj,hints,hlen⟩:=script_of hn hpre hwl;refine enter_call (z7 (call w s₀ s₁ mg mb fa o pm cd doc a vs ns G Y ho (fd_plain hd) hcd hmg hobj hints hlen hg) fun r s' hq=>?_);obtain⟨rfl,h2,h3,h4⟩:=hq;exact⟨.inl ⟨.bool true,.bool true,[],rfl,fun _=>rfl,.bool true,post_true l _,fun _=>⟨List.Pairwise.nil,fun _ hm=>(nomatch hm)⟩⟩,h2,h3,h4⟩
end Att
namespace L2
open PySem PySem.Spec PyProof.Rows
theorem ul:∀{vs:Zf}{ns:List Int},rc vs ns->ba (ns.map V.int) vs
 |_,_,.nil=>.nil
 |_,_,.cons n t h=>.cons ⟨t,rfl⟩ (ul h)
def Fs(H:Hp):Prop:=∀b,H b=none∨∃o xs,H b=some (.frz o (.lst xs))
theorem Dt{P:bM}{w:World}{K:Za}{mg mb:Str->Option Value}{CX:Co}{k:Nat}{fa a:Addr}{fd:j3}{x:Str}{sp:Sp}{s₁:Shared}{vs:Zf}{ns:List Int}
  (KX:K.In s₁.heap) (hns:s₁.heap.Ns bG mg) (hb:s₁.heap.Ns builtinsNs mb) (hbb:∀x:Str,x≠"__name__"->mb x=i7 x) (hlim:s₁.heap.NoLimit) (hg:s₁.gens=#[])
  (ha:s₁.heap.get? a=some { cls:=.type "list",data:=.seq vs.toArray }) (hi:rc vs ns) (hl:ns.length<=aj) (hr:ei k kA)
  (F:∀base:Heap,K.In base->base.Ns bG mg->k5 P w K mg base CX k fa fd [x] sp) (hbind:∀(s:Shared) (u:Value),qO s fd ⟨[u],[]⟩ [(x,u)])
  (hsp:∀H:Hp,Fs H->ax K H a (ns.map V.int)->sp [.ref a] H (fun v _=>v=.bl true) fun _ _ _=>False)
  (hCX:∀H e s',CX [] H s₁ (fun _ _ _=>False) e s'->False) :
  zzl77 (model P w) kA (.call (.ref fa) ⟨[.ref a],[]⟩) (fun r s'=>r=.ok (.ret (.bool true))/\OldK s₁.heap s'.heap/\s'.os=s₁.os/\nr s'.gens) s₁:=by
 have rv:=ul hi;have lenV:=hi.length;have core:∀H:Hp,Fs H->ax K H a (ns.map V.int)->lI P w K H s₁.heap->(∀b,H b≠none->b=a)->(H a≠none->K.lookup a=none) ->
   zzl77 (model P w) kA (.call (.ref fa) ⟨[.ref a],[]⟩) (fun r s'=>r=.ok (.ret (.bool true))/\OldK s₁.heap s'.heap/\s'.os=s₁.os/\nr s'.gens) s₁:=by
  intro H hO hS hok hA hK;have base_of:∀{b:Addr}{o:Obj},s₁.heap.get? b=some o->H b=none->(wo s₁.heap H).get? b=some o:=fun e n=>DA e n;have noA:∀{b:Addr}{o:Obj}{es:Array kz}{ep:Nat},s₁.heap.get? b=some o->o.data=.dict es ep->H b=none:=fun{b o es ep} e d=>by
   cases q:H b with
   |none=>rfl
   |some u =>
    have e':b=a:=hA b (by rw[q];simp);subst e';rw[ha]at e;cases e;have d':Data.seq vs.toArray _=Data.dict es ep:=d;cases d'
  have nsK:∀{b:Addr}{m:Str->Option Value},s₁.heap.Ns b m->(wo s₁.heap H).Ns b m:=fun{b m} ⟨o,es,ep,e,d,r⟩=>⟨o,es,ep,base_of e (noA e d),d,r⟩;have hKb:K.In (wo s₁.heap H):=fun b o e=>base_of (KX b o e) (by
   cases q:H b with
   |none=>rfl
   |some u =>
    have e':b=a:=hA b (by rw[q];simp);subst e';rw[hK (by rw[q];simp)]at e;cases e)
  have hM:Mod K mg (wo s₁.heap H):=⟨hKb,nsK hns,⟨mb,nsK hb,hbb⟩,let⟨mc,h1,h2⟩:=hlim;⟨mc,nsK h1,h2⟩⟩;have e0:zZ P w K mg (wo s₁.heap H) kA [] s₁ H:=⟨rfl,hM,fun b o e=>EZ e,Aa (BP _ _),trivial,fun b hb=>absurd (show b∈([]:Ze)from hb) (by simp),hok,.of_eq hg⟩;refine z7 ((F _ hKb (nsK hns)).run kA [] s₁ H ⟨[.ref a],[]⟩ [.ref a] [.ref a] _ _ hr e0 (hbind s₁ (.ref a)) (.cons rfl .nil) (hsp H hO hS)) fun r s' h=>?_;cases r with
  |error e=>exact(hCX H e s' h).elim
  |ok fl =>
   cases fl with
   |next=>exact i6 h
   |brk=>exact i6 h
   |cont=>exact i6 h
   |ret u =>
    obtain⟨v,H',os,bare,un,hok',r',q⟩:=h;have q':v=.bl true:=q;subst q';obtain rfl:u=Value.bool true:=r';refine⟨rfl,OldK.of_keep fun b o e=>?_,os,bare⟩;cases q:H b with
    |none=>exact un.keep b o e q (by intro z;exact absurd (show b∈([]:Ze)from z) (by simp)) (by simp)
    |some u =>
     rcases hO b with z|⟨ob,xs,z⟩
     ·rw[q]at z;cases z
     ·have z2:=un.frzs b ob _ z;obtain⟨e1,_⟩:=hok b _ z;obtain⟨e2,_⟩:=hok' b _ z2;rw[e]at e1;cases e1;exact e2
 cases hk:K.lookup a with
 |some o =>
  have e:=KX a o hk;rw[ha]at e;cases e;refine core (fun _=>none) (fun _=>.inl rfl) (.inr ⟨_,vs.toArray,_,hk,rfl,rfl,rfl,by rw[bO,lenV];exact hl,by simpa using rv⟩) (fun b u z=>by have z':(none:Option HO)=some u:=z;cases z') (fun b z=>absurd rfl z) fun z=>absurd rfl z
 |none =>
  refine core (fun b=>if b=a then some (.frz { cls:=.type "list",data:=.seq vs.toArray } (.lst (ns.map V.int)))else none) (fun b=>?_) (.inl (.inr ⟨{ cls:=.type "list",data:=.seq vs.toArray },if_pos rfl⟩)) (fun b u z=>?_) (fun b z=>?_) fun _=>hk
  ·by_cases hb:b=a
   ·exact .inr ⟨_,_,if_pos hb⟩
   ·exact .inl (if_neg hb)
  ·by_cases hb:b=a
   ·have z':=(if_pos hb).symm.trans z;cases z';subst hb;exact⟨ha,by rw[ah];exact hl,vs,_,rv,ha⟩
   ·have z':=(if_neg hb).symm.trans z;cases z'
  ·by_cases hb:b=a
   ·exact hb
   ·exact absurd (if_neg hb) z
end L2
namespace L2
open PySem PySem.Spec PyProof.Rows
theorem En{l:PySem.W.OpenLaw}{n k:Nat}{q:bM}{loose:Zb}{XP:(Str->Option Value)->Heap->Prop}{YP:World->Heap->Prop}{d:DefRec}{K:Params->Za}{CX:World->Co}{sp:World->Sp}{x:Str}
  (hn:l.most=some n) (hn2:n<=aj) (hdf:d.params.defaults=[]) (hr:ei k kA)
  (hY:∀(w:World) (h:Heap),YP w h->(K w.params).In h)
  (F:∀(w:World) (mg:Str->Option Value) (fa:Addr) (h:Heap),(K w.params).In h->h.Ns bG mg->mg d.name=some (.ref fa) ->
   ∃fd:j3,(∀(s:Shared) (u:Value),qO s fd ⟨[u],[]⟩ [(x,u)]) /\
    ∀base:Heap,(K w.params).In base->base.Ns bG mg->k5 l.prog w (K w.params) mg base (CX w) k fa fd [x] (sp w))
  (hsp:∀(w:World) (H:Hp) (a:Addr) (ns:List Int),ns.length<=n->Fs H->ax (K w.params) H a (ns.map V.int)->sp w [.ref a] H (fun v _=>v=.bl true) fun _ _ _=>False)
  (hCX:∀(w:World) (H:Hp) (s:Shared) (e:Value) (s':Shared),CX w [] H s (fun _ _ _=>False) e s'->False) :
  PySem.W.WalkO q loose XP YP l.row.toRowW d [] (fun f vs=>PySem.call f vs):=by
 refine Att.attach_call hn hdf fun w s₀ s₁ mg mb fa o pm cd doc a vs ns G Y ho hd hcd hmg hobj hints hlen hg=>?_;have KX:=hY w _ Y;obtain⟨fd,hb,hF⟩:=F w mg fa _ KX G.T.g hmg;exact Dt KX G.T.g G.T.b G.T.builtins G.T.nolimit hg hobj hints (aD hlen hn2) hr hF hb (fun H hO hS=>hsp w H a ns hlen hO hS) fun H e s'=>hCX w H s₁ e s'
theorem walk_ofK{l:PySem.W.OpenLaw}{n k:Nat}{q:bM}{loose:Zb}{XP:(Str->Option Value)->Heap->Prop}{YP:World->Heap->Prop}{d:DefRec}{K:Params->Za}{CX:Co}{sp:Za->Sp}{x:Str}
  (hn:l.most=some n) (hn2:n<=aj) (hdf:d.params.defaults=[]) (hr:ei k kA)
  (hY:∀(w:World) (h:Heap),YP w h->(K w.params).In h)
  (F:∀(w:World) (mg:Str->Option Value) (fa:Addr) (h:Heap),(K w.params).In h->h.Ns bG mg->mg d.name=some (.ref fa) ->
   ∃fd:j3,(∀(s:Shared) (u:Value),qO s fd ⟨[u],[]⟩ [(x,u)]) /\
    ∀base:Heap,(K w.params).In base->base.Ns bG mg->k5 l.prog w (K w.params) mg base CX k fa fd [x] (sp (K w.params)))
  (hsp:∀(K:Za) (H:Hp) (a:Addr) (ns:List Int),ns.length<=n->Fs H->ax K H a (ns.map V.int)->sp K [.ref a] H (fun v _=>v=.bl true) fun _ _ _=>False)
  (hCX:∀(H:Hp) (s:Shared) (e:Value) (s':Shared),CX [] H s (fun _ _ _=>False) e s'->False) :
  PySem.W.WalkO q loose XP YP l.row.toRowW d [] (fun f vs=>PySem.call f vs) :=
 En (K:=K) (CX:=fun _=>CX) (sp:=fun w=>sp (K w.params)) hn hn2 hdf hr hY F (fun w H a ns h1 h2 h3=>hsp (K w.params) H a ns h1 h2 h3) fun _ H s e s'=>hCX H s e s'
end L2
namespace L2
open PySem PySem.Spec PyProof.Rows
def cx(s:Stmt)(j:Nat):Stmt:=match s with
 |.ClassDef _ _ _ body _ _ _ _ _ _ _=>body.getD j (.Pass ⟨0,0,0,0⟩)
 |_=>.Pass ⟨0,0,0,0⟩
def hV(s:Stmt):Arguments:=match s with
 |.FunctionDef _ a _ _ _ _ _ _ _ _=>a
 |_=>{ posonlyargs:=[],args:=[],vararg:=none,kwonlyargs:=[],kw_defaults:=[],kwarg:=none,defaults:=[] }
def fR(s:Stmt):List Stmt:=match s with
 |.FunctionDef _ _ b _ _ _ _ _ _ _=>b
 |_=>[]
def bT(s:Stmt):Scope:=match s with
 |.FunctionDef _ _ _ _ _ _ sc _ _ _=>sc
 |_=>{ kind:=.function,names:=[],isGenerator:=false,isCoroutine:=false }
abbrev CX0:Co:=fun _ _ _ _ _ _=>False
abbrev E0:XK:=fun _ _ _=>False
abbrev aI(sp:Sp)(a:TA):TE:=Fz sp [] E0 a
theorem Az{X:Cx}:mR CX0 X E0:=fun _ _ _ _ _ _ _ h=>h.elim
structure GC(K:Za)(x qual:Str)(st:Stmt)(f:Addr)(fd:j3):Prop where
 ex:∃(oc:Value) (od:Option Addr) (kV doc pm:Value) (an:Option Addr) (cdv ct:Value) (osl:Array (Option Value)),
  fd=ip x qual (hV st) (fR st) (bT st) .none kV doc pm an cdv ct/\K.lookup f=some ⟨oc,od,.func fd,osl⟩/\mv K cdv qual=true
 kp:fk K (.ref f)=true
section
variable{P:bM}{w:World}{K:Za}{mg:Str->Option Value}{base:Heap}
theorem GC.ok{x qual:Str}{st:Stmt}{f:Addr}{fd:j3}{N ps:Zb}{k:Nat}{sp:Sp}(F:GC K x qual st f fd)(S:jQ N ps (bT st))(len:∀vs H Q E,sp vs H Q E->vs.length=ps.length)
  (hbody:∀(cdv:Value) (A:Around) (outer:List Env) (s:Shared) (H:Hp) (vs:List V) (Q:VK) (E:XK),ei k (A.deeper (envOfC qual (bT st) s.heap.objs.size f cdv))->sp vs H Q E ->
   ∃t,yz (zI CX0 P w K mg base N qual (bT st) f cdv A outer s H E).nox (fR st) t/\t (bd Q) (start N vs) H):k5 P w K mg base CX0 (k+1) f fd ps sp:=by
 obtain⟨oc,od,kV,doc,pm,an,cdv,ct,osl,rfl,lk,hcd⟩:=F.ex;refine GX lk hcd S len fun A outer s H vs Q E hr hsp=>?_;obtain⟨t,h,q⟩:=hbody cdv A outer s H vs Q E hr hsp;exact⟨t,h.nox,q⟩
theorem GC.binds{x qual:Str}{st:Stmt}{f:Addr}{fd:j3}{ps:Zb}(F:GC K x qual st f fd)
  (h:∀(kV doc pm:Value) (an:Option Addr) (cdv ct:Value) (us:Zf),us.length=ps.length->bindArgs (ip x qual (hV st) (fR st) (bT st) .none kV doc pm an cdv ct) ⟨us,[]⟩=pure (ps.zip us)):Binds K fd ps []:=by
 obtain⟨oc,od,kV,doc,pm,an,cdv,ct,osl,rfl,lk,hcd⟩:=F.ex;exact .all (h kV doc pm an cdv ct)
theorem DF{x qual:Str}{st:Stmt}{f:Addr}{oc:Value}{od an:Option Addr}{osl:Array (Option Value)}{kV doc pm cdv ct:Value}(l:K.lookup f=some ⟨oc,od,.func (ip x qual (hV st) (fR st) (bT st) .none kV doc pm an cdv ct),osl⟩)
  (c:mv K cdv qual=true) (k:fk K (.ref f)=true):GC K x qual st f (ip x qual (hV st) (fR st) (bT st) .none kV doc pm an cdv ct):=⟨⟨oc,od,kV,doc,pm,an,cdv,ct,osl,rfl,l,c⟩,k⟩
end
theorem AK{A:Around}{k:Nat}(hr:ei k A):A.units+16<cLine:=Nat.lt_of_le_of_lt (Nat.add_le_add_left (by decide:16<=64) _) hr.units
theorem am{n:Nat}(h:n<=1000):n<aj:=Nat.lt_of_le_of_lt h (by decide)
section
variable{X:Cx}
theorem pv(i:Nat){x:Str}{pos:Pos}(hN:X.N[i]?=some x:=by rfl)(hv:Vis X.env.scope x:=by first|exact Or.inl rfl|exact Or.inr (Or.inl rfl)|exact Or.inr (Or.inr rfl))(hd:(x==("__debug__":Str))=false:=by decide)
  (hcd:(x==("__classdict__":Str))=false:=by decide):PE X (.Name x pos) (mE i):=Ga hN hv hd hcd
end
theorem bS{A B:Prop}(h:B):if false=true then A else B:=by
 rw[if_neg gD];exact h
theorem cj{A B:Prop}(h:A):if true=true then A else B:=by
 rw[if_pos rfl];exact h
theorem hU{c A B:Prop}[Decidable c](h1:c->A)(h2:¬c->B):if c then A else B:=by
 by_cases h:c
 ·rw[if_pos h];exact h1 h
 ·rw[if_neg h];exact h2 h
def ab(H H':Hp):Prop:=∀b o,H b=some o->H' b=some o
theorem ab.refl(H:Hp):ab H H:=fun _ _ h=>h
theorem ab.trans{H H1 H2:Hp}(a:ab H H1)(b:ab H1 H2):ab H H2:=fun c o h=>b c o (a c o h)
theorem ab.free{H H':Hp}(e:ab H H'){l:Addr}(h:H' l=Option.none):H l=Option.none:=by
 cases q:H l with
 |none=>rfl
 |some o =>
  rw[e l o q]at h;cases h
theorem ab.seq{K:Za}{H H':Hp}{a:Addr}{xs:List V}(e:ab H H')(h:ax K H a xs):ax K H' a xs:=by
 rcases h with(h|⟨o,h⟩)|h
 ·exact .inl (.inl (e _ _ h))
 ·exact .inl (.inr ⟨o,e _ _ h⟩)
 ·exact .inr h
section
variable{prog:bM}{w:World}{A:Around}{R:Result->Shared->Prop}{s:Shared}
abbrev XF:Value->Shared->Prop:=fun _ _=>False
abbrev zD(ifs:List Expr)(env:Env):Sem Bool:=forIn ifs true fun c r=>if r=true then do let ok <- isTrue c env (eval c env);pure (vj ok)else pure (vj r)
theorem wu{elt target iter:Expr}{ifs:List Expr}{scope:Scope}{pos:Pos}{it acc:Value}{env:Env}(I:Nat->Shared->Prop)
  (turn:∀n s,I n s->wpAny (model prog w) A (pyNext it) (fun r s₁=>match r with
   |none=>R (.ok .next) s₁
   |some v=>wpAny (model prog w) A (Af target it v) (fun _ s₁'=>wpAny (model prog w) A (assign target env v) (fun _ s₂ =>
     wpAny (model prog w) A (zD ifs env) (fun ok s₃ =>
      if ok=true then wpAny (model prog w) A (eval elt env) (fun x s₄ =>
       wpAny (model prog w) A (call (.builtin "list.append") [acc,x]) (fun _ s₅=>∃m,m<n/\I m s₅) XF s₄) XF s₃
      else ∃m,m<n/\I m s₃) XF s₂) XF s₁') XF s₁) XF s)
  (n:Nat) (h:I n s):zzl77 (model prog w) A (.compLoop (.ListComp elt [⟨target,iter,ifs,0⟩] scope pos) 0 it acc env) R s:=by
 refine codeAny_loop rfl I (fun n s hI=>?_) n h;show wpAny _ A ((compTurn (.ListComp elt [⟨target,iter,ifs,0⟩] scope pos) 0 it acc env).onRaise (fun x=>do noteFrame x env;theTreesLotGoes x)) _ _ s
 refine wpAny_noted ?_;rw[compTurn_list];refine ap (wpAny_standAt (ap (nu (turn n s hI) (fun r s₁ h₁=>?_) fun _ _ h'=>h'.elim)));cases r with
 |none=>exact aX h₁
 |some v =>
  refine ap (nu h₁ (fun _ s₁' h₁'=>?_) fun _ _ h'=>h'.elim);refine ap (nu h₁' (fun _ s₂ h₂=>ap (nu h₂ (fun ok s₃ h₃=>?_) fun _ _ h'=>h'.elim)) fun _ _ h'=>h'.elim);cases ok with
  |false=>exact aX ⟨rfl,h₃⟩
  |true =>
   exact ap (ap (nu h₃ (fun x s₄ h₄=>ap (nu h₄ (fun _ s₅ h₅=>aX (aX ⟨rfl,h₅⟩)) fun _ _ h'=>h'.elim)) fun _ _ h'=>h'.elim))
end
theorem mO{env:Env}:∀(names:List (Str×i3)) (cs0:List (Str×Addr)),(∀y∈names,y.2=.free->∃c,env.cells.lookup y.1=some c)->(∀x c,cs0.lookup x=some c->env.cells.lookup x=some c) ->
  ∃cs:List (Str×Addr),(forIn names cs0 fun(x:Str×i3) (r:List (Str×Addr))=>if(x.2==ky)=true then(cellOf env x.1 >>= fun c=>(pure (vj ((x.1,c)::r)):Sem (ForInStep (List (Str×Addr)))))else pure (vj r))=pure cs /\
   (∀x c,cs.lookup x=some c->env.cells.lookup x=some c)/\(∀x,(cs0.lookup x).isSome=true->(cs.lookup x).isSome=true)/\∀y∈names,y.2=.free->(cs.lookup y.1).isSome=true
 |[],cs0,_,h0=>⟨cs0,rfl,h0,fun _ h=>h,fun _ h=>nomatch h⟩
 | (n,k)::r,cs0,has,h0=>by
  have hr:∀y∈r,y.2=.free->∃c,env.cells.lookup y.1=some c:=fun y hy=>has y (fq _ hy);by_cases hk:k=.free
  ·subst hk;obtain⟨c,hc⟩:=has (n,.free) fx rfl;obtain⟨cs,e,p1,p2,p3⟩:=mO r ((n,c)::cs0) hr (fun x d hd=>by
    rw[io]at hd;cases hx:x==n with
    |true =>
     rw[hx]at hd;have:x=n:=by simpa using hx
     subst this;cases hd;exact hc
    |false=>rw[hx]at hd;exact h0 x d hd)
   have hself:(((n,c)::cs0).lookup n).isSome=true:=by rw[io,beq_self_eq_true];rfl
   have hmono:∀x,(cs0.lookup x).isSome=true->(((n,c)::cs0).lookup x).isSome=true:=fun x hx=>by
    rw[io];cases x==n with
    |true=>rfl
    |false=>exact hx
   refine⟨cs,?_,p1,fun x hx=>p2 x (hmono x hx),fun y hy hf=>?_⟩
   ·rw[q0];have hcell:cellOf env n=pure c:=by unfold cellOf;rw[hc]
    simp only[beq_self_eq_true,if_true,hcell];exact e
   ·rcases cA.mp hy with rfl|hy
    ·exact p2 _ hself
    ·exact p3 y hy hf
  ·obtain⟨cs,e,p1,p2,p3⟩:=mO r cs0 hr h0;refine⟨cs,?_,p1,p2,fun y hy hf=>?_⟩
   ·rw[q0];have hb:(k==ky)=false:=by simpa using hk
    simp only[hb,qY,if_false];exact e
   ·rcases cA.mp hy with rfl|hy
    ·exact absurd hf hk
    ·exact p3 y hy hf
theorem sQ{env:Env}{scope:Scope}(has:∀y∈scope.names,y.2=.free->∃c,env.cells.lookup y.1=some c):
  ∃cs:List (Str×Addr),closureFor scope env=pure cs/\(∀x c,cs.lookup x=some c->env.cells.lookup x=some c)/\∀y∈scope.names,y.2=.free->(cs.lookup y.1).isSome=true:=by
 obtain⟨cs,e,p1,_,p3⟩:=mO (env:=env) scope.names [] has (fun _ _ h=>nomatch h);refine⟨cs,?_,p1,p3⟩;unfold closureFor
 first
  |exact e
  | (simp only[bind_pure];exact e)
  | (rw[show(forIn scope.names [] _:Sem (List (Str×Addr)))=pure cs from e];rfl)
def df(X:Cx)(N:Zb)(scope:Scope)(C:Addr)(cl:List (Str×Addr))(s₀:Shared)(H₀:Hp)(ex:Ze)(pn:Zd):Cx where
 prog:=X.prog
 w:=X.w
 K:=X.K
 mg:=X.mg
 base:=X.base
 A:=X.A
 N:=N
 s₀:=s₀
 H₀:=H₀
 env:=compEnvC scope cl C X.env
 outer:=X.stack
 stack:=X.stack
 ex:=ex
 fn:=fun _=>false
 calm:=X.calm
 pn:=pn
 xe:=XF
def lG(sc scope:Scope)(k:Nat)(N XN:Zb)(fi:List Nat):Bool :=
 decide (scope.kind=.function) &&
 (scope.names.all fun y=>decide (y.2≠.cell) && (decide (y.2≠.local) || decide (scope.names.lookup y.1=some .local)) && (decide (y.2≠.free) || decide (sc.names.lookup y.1=some .cell) || decide (sc.names.lookup y.1=some .free))) &&
 decide (N.length=k+fi.length) &&
 ((lZ fi.length).all fun j=>match fi[j]? with
  |some i=>match N[k+j]?,XN[i]? with
   |some x,some y=>decide (x=y) && decide (scope.names.lookup x=some .free)
   |_,_=>false
  |none=>false)
structure m_(sc scope:Scope)(k:Nat)(N XN:Zb)(fi:List Nat):Prop where
 kind:scope.kind=.function
 cell:∀y∈scope.names,y.2≠.cell
 nm:∀y∈scope.names,y.2=.local->scope.names.lookup y.1=some .local
 fr:∀y∈scope.names,y.2=.free->sc.names.lookup y.1=some .cell∨sc.names.lookup y.1=some .free
 len:N.length=k+fi.length
 sl:∀j i,fi[j]?=some i->∃x,N[k+j]?=some x/\XN[i]?=some x/\scope.names.lookup x=some .free
theorem m_.of{sc scope:Scope}{k:Nat}{N XN:Zb}{fi:List Nat}(h:lG sc scope k N XN fi=true):m_ sc scope k N XN fi:=by
 unfold lG at h;simp only[vi,List.all_eq_true,Bool.or_eq_true,decide_eq_true_eq]at h;obtain⟨⟨⟨h1,h2⟩,h3⟩,h4⟩:=h;refine⟨h1,fun y hy=>(h2 y hy).1.1,fun y hy e=>((h2 y hy).1.2).resolve_left fun z=>z e,fun y hy e=>?_,h3,fun j i e=>?_⟩
 ·rcases(h2 y hy).2 with(z|z)|z
  ·exact absurd e z
  ·exact .inl z
  ·exact .inr z
 ·have hj:j<fi.length:=(bP.mp e).1;have q:=h4 j (List.mem_range.mpr hj);rw[e]at q;dsimp only at q;cases a:N[k+j]? with
  |none=>rw[a]at q;cases q
  |some x =>
   cases b:XN[i]? with
   |none=>rw[a,b]at q;cases q
   |some y =>
    rw[a,b]at q;simp only[vi,decide_eq_true_eq]at q;exact⟨x,rfl,by rw[q.1],q.2⟩
theorem g9{env:Env}:∀{names:List (Str×i3)}{x:Str},names.lookup x=some .free ->
  (names.map fun(n,k)=>if(k==ky && env.scope.kind==.function && env.kindOf n==some .cell)then(n,i3.cell)else(n,k)).lookup x=some .cell ∨
  (names.map fun(n,k)=>if(k==ky && env.scope.kind==.function && env.kindOf n==some .cell)then(n,i3.cell)else(n,k)).lookup x=some .free
 |[],_,h=>by simp at h
 | (n,k)::r,x,h=>by
  have ih:=@g9 env r x;simp only[bj];cases hx:x==n with
  |true =>
   simp only[io,hx]at h;cases h;by_cases hc:(ky==ky && env.scope.kind==.function && env.kindOf n==some .cell)=true
   ·left;rw[if_pos hc];simp[io,hx]
   ·right;rw[if_neg hc];simp[io,hx]
  |false =>
   simp only[io,hx]at h;by_cases hc:(k==ky && env.scope.kind==.function && env.kindOf n==some .cell)=true
   ·rw[if_pos hc];simp only[io,hx];exact ih h
   ·rw[if_neg hc];simp only[io,hx];exact ih h
def cW(k:Nat)(fi:List Nat)(σ:St):St:=List.replicate k none++fi.map fun i=>(σ[i]?).join
theorem zK(k:Nat)(fi:List Nat)(σ:St):(cW k fi σ).length=k+fi.length:=by simp[cW]
theorem sP{k:Nat}{fi:List Nat}{σ:St}{i:Nat}{v:V}(h:(cW k fi σ)[i]?=some (some v)):∃j t,i=k+j/\fi[j]?=some t/\σ[t]?=some (some v):=by
 unfold cW at h;by_cases hi:i<k
 ·rw[rk (by simpa using hi),List.getElem?_replicate_of_lt hi]at h;cases h
 ·rw[List.getElem?_append_right (by simp;omega),List.length_replicate,cS]at h;refine⟨i-k,?_⟩;cases e:fi[i-k]? with
  |none=>rw[e]at h;cases h
  |some t =>
   rw[e]at h;simp only[rg]at h;refine⟨t,by omega,rfl,?_⟩;have h':=eD h;cases e2:σ[t]? with
   |none=>rw[e2]at h';cases h'
   |some o=>rw[e2]at h';simp only[Option.join]at h';first|(rw[h'])|(subst h';rfl)|(simpa using h')
def yi(k:Nat)(g:TG):Prop:=∀x σ H Q,g x σ H Q->g x σ H fun σ2 H2=>Q σ2 H2/\σ2.length=σ.length/\∀i,k<=i->σ2[i]?=σ[i]?
def A7(k:Nat)(g:Cn):Prop:=∀x σ H Q,g x σ H Q->g x σ H fun σ2 H2=>Q σ2 H2/\σ2.length=σ.length/\∀i,k<=i->σ2[i]?=σ[i]?
theorem aN{k i:Nat}(h:i<k):yi k (dH i):=fun x σ H Q q=>⟨q,by simp,fun j hj=>by rw[List.getElem?_set_ne (by omega)]⟩
theorem xC{k:Nat}:A7 k kS:=fun x σ H Q ⟨e,q⟩=>⟨e,q,rfl,fun _ _=>rfl⟩
def Ec(g:TG):Prop:=∀x σ H Q Q',(∀σ2 H2,Q σ2 H2->Q' σ2 H2)->g x σ H Q->g x σ H Q'
def wO(g:Cn):Prop:=∀x σ H Q Q',(∀σ2 H2,Q σ2 H2->Q' σ2 H2)->g x σ H Q->g x σ H Q'
theorem d_{i:Nat}:Ec (dH i):=fun _ _ _ _ _ f q=>f _ _ q
theorem jm:wO kS:=fun _ _ _ _ _ f ⟨e,q⟩=>⟨e,f _ _ q⟩
theorem jF{g:TG}{u:Cn}(h1:Ec g)(h2:wO u):wO (bI g u):=fun _ _ _ _ _ f ⟨v,r,e,q⟩=>⟨v,r,e,h1 _ _ _ _ _ (fun _ _ q=>h2 _ _ _ _ _ f q) q⟩
theorem jj{k:Nat}{g:TG}{u:Cn}(h1:yi k g)(m1:Ec g)(h2:A7 k u)(m2:wO u):A7 k (bI g u):=fun x σ H Q ⟨v,r,e,q⟩ =>
 ⟨v,r,e,m1 _ _ _ _ _ (fun σ2 H2 ⟨q,l,s⟩=>m2 _ _ _ _ _ (fun σ3 H3 ⟨q',l',s'⟩=>⟨q',l'.trans l,fun i hi=>(s' i hi).trans (s i hi)⟩) (h2 _ _ _ _ q)) (h1 _ _ _ _ q)⟩
theorem AA{K:Za}{k n:Nat}{t:Cn}(h:A7 k t):yi k (lS K n t):=fun x σ H Q ⟨a,xs,e,hs,hl,q⟩=>⟨a,xs,e,hs,hl,h _ _ _ _ q⟩
def FR(X:Cx)(ifs:List Expr)(t:TT):Prop :=
 ∀(J2:Zd) (s:Shared) (σ:St) (H:Hp) (Q:Bool->Hp->Prop),Inv X J2 σ H s->t σ H Q->wpAny (model X.prog X.w) X.A (zD ifs X.env) (TP X J2 σ Q) X.xe s
def gV:TT:=fun _ H Q=>Q true H
theorem bN{X:Cx}:FR X [] gV:=fun J2 s σ H Q I h=>aX ⟨H,I,h⟩
theorem fK{X:Cx}{c:Expr}{t:TT}(h:PT X c t):FR X [c] t:=by
 intro J2 s σ H Q I hw;unfold zD;rw[q0];simp only[if_true];refine ap (ap (cq (h J2 s σ H Q I hw) fun b s1 q=>aX ?_));exact aX q
def b_(k:Nat)(fi:List Nat)(wi:TI)(g:TG)(tc:TT)(te:TE):TE:=fun σ H Q=>wi σ H fun J H1=>∀l,H1 l=none->∃W:Nat->Nat->List V->Hp->Prop,(∃m,W 0 m [] (upd H1 l (.lst [])))/\∀i m vs H2,W i m vs H2->H2 l=some (.lst vs) /\
 ((J.stop i H2/\Q (.ref l) H2)∨(J.go i H2/\∀x H3,J.yld i H2 x H3->g x (cW k fi σ) H3 fun σ2 H4=>tc σ2 H4 fun b H5 =>
  if b=true then te σ2 H5 fun v H6=>H6 l=some (.lst vs)/\vs.length<aj/\∃m',m'<m/\W (i+1) m' (vs++[v]) (upd H6 l (.lst (vs++[v])))else ∃m',m'<m/\W (i+1) m' vs H5))
section
variable{X:Cx}{J2:Zd}{σ:St}
theorem Fm{k:Nat}{N:Zb}{scope:Scope}{fi:List Nat}{H:Hp}{s:Shared}{cl:List (Str×Addr)}{fp:Ze}(S:m_ X.env.scope scope k N X.N fi)(I:Inv X J2 σ H s)
  (hcl:∀x c,cl.lookup x=some c->X.env.cells.lookup x=some c) (hcf:∀y∈scope.names,y.2=.free->(cl.lookup y.1).isSome=true) (hf:∀b∈fp,m9 X J2 H b) (hlt:∀b∈fp,b<s.heap.objs.size) :
  (df X N scope s.heap.objs.size cl s H fp (X.pn++J2)).Ok where
 mod:=I.ok.mod
 kind:=S.kind
 glob:=I.ok.glob
 blt:=I.ok.blt
 above:=aA _
 inj:=fun x y c e1 e2=>I.ok.inj x y c (hcl x c e1) (hcl y c e2)
 has:=fun x h=>by
  have key:∃y∈scope.names,y.1=x/\y.2=.free:=by
   have h':(relabel scope X.env).names.lookup x=some .cell∨(relabel scope X.env).names.lookup x=some .free:=h;have mem:∀(l:List (Str×i3)) (kd:i3),l.lookup x=some kd->(x,kd)∈l:=by
    intro l
    induction l with
    |nil=>intro kd e;cases e
    |cons a r ih =>
     intro kd e;obtain⟨n,k'⟩:=a;rw[io]at e;cases hx:x==n with
     |true =>
      rw[hx]at e;have:x=n:=by simpa using hx
      subst this;cases e;exact fx
     |false=>rw[hx]at e;exact fq _ (ih kd e)
   have back:∀kd,(x,kd)∈(relabel scope X.env).names->kd=.cell∨kd=.free->∃y∈scope.names,y.1=x/\y.2=.free:=by
    intro kd hm hk;obtain⟨⟨n,k'⟩,hy,e⟩:=aL.mp hm;dsimp only at e;by_cases hc:(k'==ky && X.env.scope.kind==.function && X.env.kindOf n==some .cell)=true
    ·have hk':k'=.free:=by
      simp only[vi]at hc;simpa using hc.1.1
     rw[if_pos hc]at e;cases e;exact⟨_,hy,rfl,hk'⟩
    ·rw[if_neg hc]at e;cases e;rcases hk with rfl|rfl
     ·exact absurd rfl (S.cell _ hy)
     ·exact⟨_,hy,rfl,rfl⟩
   rcases h' with h'|h'
   ·exact back _ (mem _ _ h') (.inl rfl)
   ·exact back _ (mem _ _ h') (.inr rfl)
  obtain⟨y,hy,rfl,hk⟩:=key;exact vv.mp (hcf y hy hk)
 cab:=fun x c h=>by cases h
 hd:=I.ok.hd
 frames:=I.ok.frames
 stk:=.inl rfl
 exf:=fun b hb=>⟨cE (hlt b hb),fun x c e=>(hf b hb).2.2.2.2.1 x c (hcl x c e)⟩
 bs:=I.bs
 bsz:=aD I.ok.bsz I.sz
 noex:=fun b o e hb=>by
  rcases(hf b hb).2.2.2.1 with z|z
  ·exact I.ok.noex b o e z
  ·exact absurd (ij (aY (I.ok.bs b o e).1) z) (pO _)
 exfs:=fun b hb z=>by
  obtain⟨_,f1,f2,_⟩:=hf b hb;rcases cA.mp (I.stkSub b z)with q|q
  ·exact f1 q
  ·exact f2 q
 funs:=I.stack
 frf:=I.stkFree
theorem DW{k:Nat}{N:Zb}{scope:Scope}{fi:List Nat}{H:Hp}{s:Shared}{cl:List (Str×Addr)}{fp:Ze}{h₁:Heap}{t':Nat}{m:Str->Option Value}(S:m_ X.env.scope scope k N X.N fi)(I:Inv X J2 σ H s)
  (hcl:∀x c,cl.lookup x=some c->X.env.cells.lookup x=some c) (hcf:∀y∈scope.names,y.2=.free->(cl.lookup y.1).isSome=true) (hf:∀b∈fp,m9 X J2 H b) (hlt:∀b∈fp,b<s.heap.objs.size)
  (hn:h₁.Ns s.heap.objs.size m) (old:∀b o,s.heap.get? b=some o->h₁.get? b=some o) :
  Inv (df X N scope s.heap.objs.size cl s H fp (X.pn++J2)) [] (cW k fi σ) H { s with heap:=h₁,toks:=t' }:=by
 have memOf:∀(l:List (Str×i3)) (x:Str) (kd:i3),l.lookup x=some kd->(x,kd)∈l:=by
  intro l
  induction l with
  |nil=>intro x kd e;cases e
  |cons a r ih =>
   intro x kd e;obtain⟨n,k'⟩:=a;rw[io]at e;cases hx:x==n with
   |true =>
    rw[hx]at e;have:x=n:=by simpa using hx
    subst this;cases e;exact fx
   |false=>rw[hx]at e;exact fq _ (ih x kd e)
 refine⟨Fm S I hcl hcf hf hlt,rfl,I.bare,Un.kept old,⟨m,hn,fun i x v e1 e2 e3=>?_⟩,fun x c e=>?_,I.hok.fresh (aA _),fun x c e=>I.freeC x c (hcl x c e),fun p hp=>?_,I.hok.kept old,?_⟩
 ·obtain⟨j,t,rfl,ht,hv⟩:=sP e2;obtain⟨y,hy,hXN,hfr⟩:=S.sl j t ht;have e1':N[k+j]?=some x:=e1;rw[hy]at e1';cases e1';have hmem:=memOf _ _ _ hfr;obtain⟨c,hc⟩:=vv.mp (hcf _ hmem rfl);have hX:=hcl _ _ hc;obtain⟨mX,hnX,hlX⟩:=I.loc;have kX:=S.fr _ hmem rfl;obtain⟨u,ru,lk⟩:=hlX t x v hXN hv (by rcases kX with z|z;exact .inr (.inl z);exact .inr (.inr z));refine⟨u,ru,.inr ⟨?_,c,hc,?_⟩⟩
  ·exact g9 hfr
  ·rcases lk with⟨z,_⟩|⟨_,c',e',q⟩
   ·have z':X.env.scope.names.lookup x=some .local:=z;rcases kX with kX|kX<;>rw[z']at kX<;>cases kX
   ·rw[hX]at e';cases e';obtain⟨o,ho,hd⟩:=q;exact⟨o,old _ o ho,hd⟩
 ·obtain⟨v,o,ho,hd⟩:=I.cell x c (hcl x c e);exact⟨v,o,old _ o ho,hd⟩
 ·rw[dD]at hp;obtain⟨e,n,ne,nf,d⟩:=I.pin p hp;refine⟨old _ _ e,n,cE (aY e),fun z=>?_,d⟩;rcases cA.mp (I.stkSub _ z)with q|q
  ·exact ne q
  ·exact nf q
 ·rw[zK];exact S.len.symm
structure wP(X:Cx)(J2:Zd)(H:Hp)(C:Addr):Prop where
 free:H C=none
 loc:C≠X.env.locals
 young:X.s₀.heap.objs.size<=C
 cells:∀x c,X.env.cells.lookup x=some c->c≠C
 pin:∀p∈X.pn++J2,p.1≠C
theorem sO{elt iter tg:Expr}{ifs:List Expr}{scope:Scope}{pos:Pos}{k:Nat}{N:Zb}{fi:List Nat}{cl:List (Str×Addr)}{g:TG}{tc:TT}{te:TE}{it:Addr}{fp:Ze}{tn:Nat->Heap->Prop}{J:It}{H2:Hp}{s2:Shared}{Q:VK}
  {E:Zc}{RR:Value->Addr->Result->Shared->Prop}
  (S:m_ X.env.scope scope k N X.N fi) (hc:X.calm=true) (hcl:∀x c,cl.lookup x=some c->X.env.cells.lookup x=some c) (hcf:∀y∈scope.names,y.2=.free->(cl.lookup y.1).isSome=true)
  (hg:∀C cl s₀ H₀ ex pn,PG (df X N scope C cl s₀ H₀ ex pn) tg g) (ho:yi k g) (ht:∀C cl s₀ H₀ ex pn,FR (df X N scope C cl s₀ H₀ ex pn) ifs tc) (he:∀C cl s₀ H₀ ex pn,PE (df X N scope C cl s₀ H₀ ex pn) elt te)
  (I2:Inv X J2 σ H2 s2) (T:sU X.prog X.w X.K tg J fp it tn) (st2:tn 0 s2.heap) (f2:∀b∈fp,m9 X J2 H2 b)
  (hw:∀l,H2 l=none->∃W:Nat->Nat->List V->Hp->Prop,(∃m,W 0 m [] (upd H2 l (.lst [])))/\∀i m vs H2,W i m vs H2->H2 l=some (.lst vs) /\
   ((J.stop i H2/\Q (.ref l) H2)∨(J.go i H2/\∀x H3,J.yld i H2 x H3->g x (cW k fi σ) H3 fun σ2 H4=>tc σ2 H4 fun b H5 =>
    if b=true then te σ2 H5 fun v H6=>H6 l=some (.lst vs)/\vs.length<aj/\∃m',m'<m/\W (i+1) m' (vs++[v]) (upd H6 l (.lst (vs++[v])))else ∃m',m'<m/\W (i+1) m' vs H5)))
  (hR:∀D C H' s' m',Inv X J2 σ H' s'->s'.heap.Ns C m'->wP X J2 H' C->Q (.ref D) H'->RR (.ref D) C (.ok .next) s') :
  wpAny (model X.prog X.w) X.A (newList []) (fun acc s₃=>wpAny (model X.prog X.w) X.A (newFunctionEnv scope X.env.globals cl [] X.env.qual none .none (some X.env)) (fun cenv s₄ =>
   zzl77 (model X.prog X.w) X.A (.compStart (.ListComp elt [⟨tg,iter,ifs,0⟩] scope pos) 0 (.ref it) acc { cenv with scope:=relabel scope X.env }) (RR acc cenv.locals) s₄) E s₃) E s2:=by
 have hfresh:H2 s2.heap.objs.size=none:=I2.fresh;obtain⟨W,⟨m0,w0⟩,turn⟩:=hw _ hfresh;refine oI (wpAny_newFunctionEnv S.cell (by intro y hy;simp at hy) (fun h₁ hns₁ hsb₁=>?_) S.kind);dsimp only at hns₁ hsb₁ ⊢;have I3:Inv X J2 σ (upd H2 s2.heap.objs.size (.lst [])) { s2 with heap:=s2.heap.push { cls:=.type "list",data:=.seq ([]:Zf).toArray },toks:=s2.toks }:=I2.lnew (ys:=[]) .nil (eK _);generalize hs3:({ s2 with heap:=s2.heap.push { cls:=.type "list",data:=.seq ([]:Zf).toArray },toks:=s2.toks }:Shared)=s3 at I3;have hh3:s3.heap=s2.heap.push { cls:=.type "list",data:=.seq ([]:Zf).toArray }:=by rw[<-hs3]
 have hsz:s3.heap.objs.size=s2.heap.objs.size+1:=by rw[hh3,pI]
 have hlt:∀b∈fp,b<s2.heap.objs.size:=fun b hb=>by
  obtain⟨o,e,_⟩:=T.obj 0 _ st2 b hb;exact aY e
 have f3:∀b∈fp,m9 X J2 (upd H2 s2.heap.objs.size (.lst [])) b:=fun b hb=>⟨by rw[ai (cE (hlt b hb))];exact(f2 b hb).1,(f2 b hb).2⟩;have hlt3:∀b∈fp,b<s3.heap.objs.size:=fun b hb=>by rw[hsz];exact Nat.lt_succ_of_lt (hlt b hb)
 have old:∀b o,s3.heap.get? b=some o->h₁.get? b=some o:=fun b o e=>by
  have hb:b≠s3.heap.objs.size:=cE (aY e);rw[hh3]at e hb;exact hsb₁.extBut b o hb (bv _ e)
 have hns:h₁.Ns s3.heap.objs.size (fun x=>([]:List (Str×Value)).reverse.lookup x):=by rw[hh3];exact hns₁
 have I4:Inv (df X N scope s3.heap.objs.size cl s3 (upd H2 s2.heap.objs.size (.lst [])) fp (X.pn++J2)) [] (cW k fi σ) (upd H2 s2.heap.objs.size (.lst [])) { s3 with heap:=h₁,toks:=s2.toks+([]:List (Str×Value)).length } :=
  DW S I3 hcl hcf f3 hlt3 hns old
 have st4:tn 0 h₁:=T.keep _ _ _ st2 fun b hb o e=>old b o (by rw[hh3];exact bv _ e);generalize hY:df X N scope s3.heap.objs.size cl s3 (upd H2 s2.heap.objs.size (.lst [])) fp (X.pn++J2)=Y at I4;have yp:Y.prog=X.prog:=by rw[<-hY];rfl
 have yw:Y.w=X.w:=by rw[<-hY];rfl
 have yK:Y.K=X.K:=by rw[<-hY];rfl
 have yA:Y.A=X.A:=by rw[<-hY];rfl
 have yx:Y.xe=XF:=by rw[<-hY];rfl
 have yc:Y.calm=true:=by rw[<-hY];exact hc
 have gY:PG Y tg g:=by rw[<-hY];exact hg _ _ _ _ _ _
 have tY:FR Y ifs tc:=by rw[<-hY];exact ht _ _ _ _ _ _
 have eY:PE Y elt te:=by rw[<-hY];exact he _ _ _ _ _ _
 have yenv:Y.env=compEnvC scope cl s3.heap.objs.size X.env:=by rw[<-hY];rfl
 have fY:∀{H':Hp},(∀b∈fp,H' b=none)->∀b∈fp,m9 Y [] H' b:=fun hn b hb=>by
  obtain⟨f0,f1,f2',f3',f4,f5⟩:=f3 b hb;rw[<-hY];refine⟨hn b hb,cE (hlt3 b hb),fun z=>?_,.inl hb,fun x c e=>f4 x c (hcl x c e),fun p hp=>?_⟩
  ·rcases cA.mp (I3.stkSub _ z)with q|q
   ·exact f1 q
   ·exact f2' q
  ·rw[dD]at hp;exact f5 p hp
 have loop:∀s4:Shared,s4={ s3 with heap:=h₁,toks:=s2.toks+([]:List (Str×Value)).length } ->
   zzl77 (model X.prog X.w) X.A (.compLoop (.ListComp elt [⟨tg,iter,ifs,0⟩] scope pos) 0 (.ref it) (.ref s2.heap.objs.size) Y.env) (RR (.ref s2.heap.objs.size) s3.heap.objs.size) s4:=by
  rintro s4 rfl;refine wu (fun n s'=>∃i vs H',Inv Y [] (cW k fi σ) H' s'/\tn i s'.heap/\(∀b∈fp,H' b=none)/\W i n vs H') ?_ m0 ⟨0,[],_,I4,st4,fun b hb=>(f3 b hb).1,w0⟩;rintro n s5 ⟨i,vs,H5,I5,st5,fr5,w5⟩;obtain⟨hl5,hcase⟩:=turn i n vs H5 w5;rcases hcase with⟨stop,q⟩|⟨go,step⟩
  ·have d:=T.done Y yp yw yK yc i [] s5 _ H5 XF I5 (fY fr5) st5 stop;rw[yA]at d;refine cq d fun r s6 ⟨hr,I6⟩=>?_;subst hr;have hu:Un (Cj X.stack) fp (upd H2 s2.heap.objs.size (.lst [])) H5 s3.heap s6.heap:=by have:=I6.base;rw[<-hY]at this;exact this
   have ho6:s6.os=s3.os:=by have:=I6.os;rw[<-hY]at this;exact this
   have hok6:lI X.prog X.w X.K H5 s6.heap:=by have:=I6.hok;rw[<-hY]at this;exact this
   have hC6:H5 s3.heap.objs.size=none:=by have:=I6.free;rw[<-hY]at this;exact this
   obtain⟨m6,hn6,_⟩:=I6.loc;have hn6':s6.heap.Ns s3.heap.objs.size m6:=by rw[<-hY]at hn6;exact hn6
   have IX:Inv X J2 σ H5 s6:=I3.call' ho6 hu hok6 I6.bare fun b hb=>by
    obtain⟨f0,f1,f2',f3',f4,f5⟩:=f3 b hb;exact⟨f3',f1,f4,f5⟩
   refine hR _ _ H5 s6 m6 IX hn6' ⟨hC6,gZ I3.lt,I3.sz,fun x c e z=>?_,fun p hp z=>?_⟩ q
   ·obtain⟨v,o,ho,_⟩:=I3.cell x c e;exact absurd (aY ho) (by rw[z];exact pO _)
   ·exact absurd (aY (I3.pin p hp).1) (by rw[z];exact pO _)
  ·have d:=T.item Y yp yw yK yc i [] s5 _ H5 XF I5 (fY fr5) st5 go;rw[yA]at d;refine cq d fun r s6 ⟨u,hr,h6⟩=>?_;subst hr;refine cq h6 fun _ s7 ⟨x,H7,I7,r7,y7,st7,fr7⟩=>?_;have I7':=I7.pinned (fY fr7) (T.obj _ _ st7);have a7:=gY _ s7 _ H7 x u _ I7' r7 (ho _ _ _ _ (step x H7 y7));rw[yp,yw,yA,yx]at a7;refine cq a7 fun _ s8 ⟨σ8,H8,I8,q8,l8,k8⟩=>?_;have a8:=tY _ s8 σ8 H8 _ I8 q8;rw[yp,yw,yA,yx]at a8;have again:∀{H9:Hp}{s9:Shared}{vs':List V}{m':Nat},Inv Y ([]++sf fp s7.heap) σ8 H9 s9->m'<n->W (i+1) m' vs' H9->∃m,m<n/\∃i vs H',Inv Y [] (cW k fi σ) H' s9/\tn i s9.heap/\(∀b∈fp,H' b=none)/\W i m vs H':=fun{H9 s9 vs' m'} I9 hm w9=>by
    refine⟨m',hm,i+1,vs',H9,(I9.unpinned).weak l8.symm (fun j v e=>?_),T.keep _ _ _ st7 fun b hb o e=>(I9.pin (b,o) (dJ _ (dJ _ (jG hb e)))).1,fun b hb=>?_,w9⟩
    ·obtain⟨j',t,rfl,_,_⟩:=sP e;rw[k8 _ (Nat.le_add_right _ _)];exact e
    ·obtain⟨o,e,_⟩:=T.obj _ _ st7 b hb;exact(I9.pin (b,o) (dJ _ (dJ _ (jG hb e)))).2.1
   refine cq a8 fun b s9 ⟨H9,I9,q9⟩=>?_;cases b with
   |false =>
    rw[if_neg gD]at q9 ⊢;obtain⟨m',hm,w9⟩:=q9;exact again I9 hm w9
   |true =>
    rw[if_pos rfl]at q9 ⊢;have a9:=eY _ s9 σ8 H9 _ I9 q9;rw[yp,yw,yA,yx]at a9;refine cq a9 fun y s10 ⟨v,H10,I10,r10,hl10,hsz10,m',hm,w10⟩=>?_;have a10:=d9 (X:=Y) _ s10 σ8 H10 (.ref s2.heap.objs.size) [v] (.ref s2.heap.objs.size) [y] (fun z H'=>z=.non/\H'=upd H10 s2.heap.objs.size (.lst (vs++[v]))) I10 rfl (.cons r10 .nil) ⟨_,vs,v,rfl,rfl,hl10,hsz10,rfl,rfl⟩;rw[yp,yw,yA,yx]at a10;refine cq a10 fun _ s11 ⟨_,H11,I11,_,_,e11⟩=>?_;subst e11;exact again I11 hm w10
 have hstart:=codeAny_compStart_list (prog:=X.prog) (w:=X.w) (A:=X.A) (elt:=elt) (target:=tg) (iter:=iter) (ifs:=ifs) (rest:=[]) (scope:=scope) (pos:=pos) (it:=.ref it) (acc:=.ref s2.heap.objs.size) (env:=Y.env) (loop _ rfl) (T.self _ 0 _ _ _ st4 (loop _ rfl));rw[yenv]at hstart;rw[<-hs3]at hstart;exact hstart
end
section
variable{X:Cx}
theorem wP.turned{J2:Zd}{σ:St}{H:Hp}{s:Shared}{C:Addr}{h':Heap}(c:wP X J2 H C)(I:Inv X J2 σ H s)(hs:iE C s.heap h'):Inv X J2 σ H { s with heap:=h' } :=
 I.turned (t':=s.toks) (fun b o hb e=>hs.extBut b o hb e) c.free c.loc (.inr c.young) c.cells c.pin
theorem EV{elt iter tg:Expr}{ifs:List Expr}{scope:Scope}{pos:Pos}{k:Nat}{N:Zb}{fi:List Nat}{wi:TI}{g:TG}{tc:TT}{te:TE}(hS:lG X.env.scope scope k N X.N fi=true)(hc:X.calm=true)(hi:PI X tg iter wi)
  (hg:∀C cl s₀ H₀ ex pn,PG (df X N scope C cl s₀ H₀ ex pn) tg g) (ho:yi k g) (ht:∀C cl s₀ H₀ ex pn,FR (df X N scope C cl s₀ H₀ ex pn) ifs tc) (he:∀C cl s₀ H₀ ex pn,PE (df X N scope C cl s₀ H₀ ex pn) elt te)
  (hs:∀x,wT iter X.env x=pure x:=by intro _;rfl):PE X (.ListComp elt [⟨tg,iter,ifs,0⟩] scope pos) (b_ k fi wi g tc te):=by
 intro J2 s σ H Q I h;have S:=m_.of hS;obtain⟨cl,hclos,hcl,hcf⟩:=sQ (env:=X.env) (scope:=scope) fun y hy e=>I.ok.has y.1 (S.fr y hy e);rw[eval_ListComp];refine wpAny_comprehension_free (use:=none) rfl hs hclos S.kind S.nm (cq (hi J2 s σ H _ I h) fun v s1 h1=>cq h1 fun itv s2 h2=>?_);obtain⟨it,fp,tn,J,H2,e,I2,T,st2,f2,hw⟩:=h2;subst e;refine sO (RR:=fun acc C=>compPost (model X.prog X.w) X.A X.xe none (EP X J2 σ Q) acc C) S hc hcl hcf hg ho ht he I2 T st2 f2 hw ?_;intro D C H' s' m' I' hn ce q;exact⟨m',hn,fun h' hs'=>⟨.ref D,H',ce.turned I' hs',rfl,q⟩⟩
theorem zd{elt iter tg:Expr}{ifs:List Expr}{scope:Scope}{pos spos py:Pos}{k:Nat}{N:Zb}{fi:List Nat}{wi:TI}{g:TG}{tc:TT}{te:TE}{j:Nat}{y:Str}(hN:X.N.Nodup)(hj:X.N[j]?=some y)(hy:Loc X.env.scope y)(hS:lG X.env.scope scope k N X.N fi=true)(hc:X.calm=true)(hi:PI X tg iter wi)
  (hg:∀C cl s₀ H₀ ex pn,PG (df X N scope C cl s₀ H₀ ex pn) tg g) (ho:yi k g) (ht:∀C cl s₀ H₀ ex pn,FR (df X N scope C cl s₀ H₀ ex pn) ifs tc) (he:∀C cl s₀ H₀ ex pn,PE (df X N scope C cl s₀ H₀ ex pn) elt te)
  (hsw:pM (.ListComp elt [⟨tg,iter,ifs,0⟩] scope pos) (some (.Name y py)) spos.line X.env=pure true:=by rfl)
  (hs:∀x,wT iter X.env x=pure x:=by intro _;rfl) (hf:X.fn y=true∨X.env.scope.names.lookup y=some .local:=by first|exact .inl rfl|exact .inr rfl|assumption) :
  PS X (.Assign [.Name y py] (.ListComp elt [⟨tg,iter,ifs,0⟩] scope pos) spos) (aM (b_ k fi wi g tc te) (dH j)):=by
 intro J2 s σ H D I h;have S:=m_.of hS;obtain⟨cl,hclos,hcl,hcf⟩:=sQ (env:=X.env) (scope:=scope) fun y hy e=>I.ok.has y.1 (S.fr y hy e);rw[exec_Assign_Name_used _ _ _ _ hsw];refine ap (wpAny_standAt (ap ?_));show wpAny _ X.A (do let _ <- comprehension (.ListComp elt [⟨tg,iter,ifs,0⟩] scope pos) scope X.env _ (newList []) false (eval iter X.env) (some (assign (.Name y py) X.env))) _ _ s
 refine ap (nu (wpAny_comprehension_free (use:=some (assign (.Name y py) X.env)) (Q:=fun _ s'=>SP X J2 D .next s') rfl hs hclos S.kind S.nm
  (cq (hi J2 s σ H _ I h) fun v s1 h1=>cq h1 fun itv s2 h2=>?_)) (fun _ s' hq=>aX (aX hq)) fun _ _ e=>e)
 obtain⟨it,fp,tn,J,H2,e,I2,T,st2,f2,hw⟩:=h2;subst e;refine sO (RR:=fun acc C=>compPost (model X.prog X.w) X.A X.xe (some (assign (.Name y py) X.env)) (fun _ s'=>SP X J2 D .next s') acc C) (Q:=fun x H1=>dH j x σ H1 D.nx) S hc hcl hcf hg ho ht he I2 T st2 f2 hw ?_;intro A C H' s' m' I' hn ce q;show wpAny _ X.A (assign (.Name y py) X.env (.ref A)) _ _ _;refine wpAny_assign_Name (uu I' hN hj hy (v:=.ref A) rfl (fun s'' I'' hsb=>?_) hf);obtain⟨a,hsa,ha⟩:=hsb;have hCa:C≠a:=by
  rcases ha with z|z
  ·rw[z];exact ce.loc
  ·exact ii (ce.cells y a z)
 refine⟨m',hn.sameBut hsa hCa,fun h' hs'=>?_⟩;exact⟨_,H',ce.turned I'' hs',q⟩
end
theorem Inv.turnedNew{X:Cx}{J2:Zd}{σ:St}{H:Hp}{s:Shared}{h2:Heap}{t':Nat}{ch:Ze}{o:HO}(I:Inv X J2 σ H s)(hf:∀b∈ch,m9 X J2 H b)
  (k:∀b q,b∉ch->s.heap.get? b=some q->h2.get? b=some q) (hq:∃q,h2.get? s.heap.objs.size=some q) (hno:∀y,o≠.own y) (new:ca X.prog X.w X.K (upd H s.heap.objs.size o) h2 s.heap.objs.size o) :
  Inv X J2 σ (upd H s.heap.objs.size o) { s with heap:=h2,toks:=t' }:=by
 have hn0:H s.heap.objs.size=none:=I.fresh;have nsz:∀b q,s.heap.get? b=some q->b≠s.heap.objs.size:=fun b q e=>cE (aY e);have tr:∀b u,H b=some u->b∉ch:=fun b u e z=>by rw[(hf b z).1]at e;cases e
 refine I.step (g':=s.gens) (d':=s.drawn) (ch:=ch) (fun b hb=>?_) (fun b q _ _ hc e _=>k b q hc e) (fun b q _ _ hc e _=>⟨q.slots,k b q hc e⟩) (fun b q _ e n=>by rw[ai (nsz b q e)];exact n) (fun b q hc e=>⟨q,k b q hc e⟩)
  (fun b xs e=>by rw[ai (ae e hn0)];exact e) (fun b q u e=>by rw[ai (ae e hn0)];exact e) (fun b ps e=>⟨#[],by rw[ai (ae e hn0),e];simp⟩) (fun m hm=>?_) (fun b u e=>?_) I.bare
 ·obtain⟨f0,f1,f2,f3,f4,f5⟩:=hf b hb;exact⟨f3,f1,f4,f5⟩
 ·obtain⟨q,es,ep,ho,r⟩:=hm;exact⟨q,es,ep,k _ q (fun z=>(hf _ z).2.1 rfl) ho,r⟩
 ·by_cases hb:b=s.heap.objs.size
  ·subst hb;rw[aa]at e;cases e;exact new
  ·rw[ai hb]at e;refine(I.hok b u e).stay (fun c v hc q=>k c v ?_ q) (fun c q=>by rw[ai (ae q hn0)];exact q) fun c xs q=>by rw[ai (ae q hn0)];exact q
   rcases hc with z|z
   ·subst z;exact tr _ _ e
   ·exact tr _ _ z
def G9(K:Za)(a:Addr):It :=
 ⟨fun i H=>∃xs x,ax K H a xs/\xs[i]?=some x,fun i H x H'=>∃p v,x=.ref p/\H p=none/\(∀xs,ax K H a xs->xs[i]?=some v)/\H'=upd H p (.tup [.int i,v]),fun i H=>∃xs,ax K H a xs/\xs.length<=i⟩
theorem Bc{P:bM}{w:World}{K:Za}{es:List Expr}{kx:Nat}{J6:Pos}(a e it:Addr)(hne:e≠it):
  sU P w K (.Tuple es kx J6) (G9 K a) [e,it] e (fun i h=>(∃old,IsEnum h e it i old)/\h.IsListIter it a i) where
 mem:=by simp
 obj:=fun i h st b hb=>by
  obtain⟨⟨old,he⟩,o,ho,hc,hd⟩:=st;rcases cA.mp hb with z|z
  ·subst z;exact⟨_,he,fun v z=>by cases z⟩
  ·have z':b=it:=by simpa using z
   subst z';exact⟨o,ho,fun v z=>by rw[hd]at z;cases z⟩
 keep:=fun i h h' st k=>⟨let⟨old,he⟩:=st.1;⟨old,k e (by simp) _ he⟩,st.2.at fun o e=>k it (by simp) o e⟩
 item:=by
  intro X hP hw hK hc i J2 s σ H E I hf st hg;subst hP hw hK;obtain⟨⟨old,he⟩,hit⟩:=st;obtain⟨xs,x,hq,hx⟩:=hg;obtain⟨its,rv,p,hz⟩:=I.list hq;obtain⟨u,hu,ru⟩:=rv.get hx;obtain⟨e0,e1,e2,e3,e4,e5⟩:=hf e (by simp);obtain⟨f0,f1,f2,f3,f4,f5⟩:=hf it (by simp);refine wpAny_pyNext_enum_item he hit p.isList (x:=u) (by simpa using hu) hne fun h' ho' hit' ht' hsz' hk'=>?_;refine⟨_,rfl,wpAny_letOwnedTupleGo_enum (s:={ s with heap:=h',toks:=s.toks+1 }) ho' fun h2 he2 hs2=>?_⟩;have hs2':iE e h' h2:=hs2;have hpe:s.heap.objs.size≠e:=gZ (aY he);have ht2:h2.get? s.heap.objs.size=some { cls:=.type "tuple",data:=.seq #[.int i s.toks,u] }:=hs2'.extBut _ _ hpe ht';have hn0:H s.heap.objs.size=none:=I.fresh;have hue:upd H s.heap.objs.size (.tup [.int i,x]) e=none:=by rw[ai (ii hpe)];exact e0
  have hpi:s.heap.objs.size≠it:=by
   obtain⟨o,ho,_⟩:=hit;exact gZ (aY ho)
  have hui:upd H s.heap.objs.size (.tup [.int i,x]) it=none:=by rw[ai (ii hpi)];exact f0
  have I2:Inv X J2 σ (upd H s.heap.objs.size (.tup [.int i,x])) { s with heap:=h2,toks:=s.toks+1 }:=by
   refine I.turnedNew (ch:=[e,it]) hf (fun b o hb q=>?_) ⟨_,ht2⟩ (fun _ z=>nomatch z) ⟨by show 2<=aj;decide,[.int i s.toks,u],.cons ⟨_,rfl⟩ (.cons ru .nil),⟨_,ht2,rfl,_,rfl⟩⟩;have nb1:b≠e:=fun z=>hb (by simp[z]);have nb2:b≠it:=fun z=>hb (by simp[z]);exact hs2'.extBut _ _ nb1 (hk' b o nb1 nb2 q)
  refine⟨.ref s.heap.objs.size,_,I2,rfl,⟨_,x,rfl,hn0,fun ys hy=>by rw[I.list_inj hy hq];exact hx,rfl⟩,⟨⟨u,by simpa using he2⟩,hit'.at fun o y=>(hs2'.2 it (ii hne)).trans y⟩,fun b hb=>?_⟩;rcases cA.mp hb with z|z
  ·subst z;exact hue
  ·have z':b=it:=by simpa using z
   subst z';exact hui
 done:=by
  intro X hP hw hK hc i J2 s σ H E I hf st hg;subst hP hw hK;obtain⟨⟨old,he⟩,hit⟩:=st;obtain⟨xs,hq,hx⟩:=hg;obtain⟨its,rv,p,hz⟩:=I.list hq;obtain⟨f0,f1,f2,f3,f4,f5⟩:=hf it (by simp);have hl:=rv.length;exact wpAny_pyNext_enum_end (I.ok.hd hc) he hit p.isList (by simp;omega) fun h' eb=>⟨rfl,I.turned (t':=s.toks) (fun b o hb e=>eb b o hb e) f0 f1 f3 f4 f5⟩
 self:=fun _ _ _ _ _ st h=>let⟨_,he⟩:=st.1;wpAny_pyIter_enum he h
section
variable{X:Cx}{p pos:Pos}{es:List Expr}{kx:Nat}{J6:Pos}
def uE(K:Za)(ta:TA):TI:=fun σ H R=>ta σ H fun vs H1=>∃a,vs=[.ref a]/\(∃xs,ax K H1 a xs)/\R (G9 K a) H1
theorem nV{a:Expr}{ta:TA}(hg:Gl X "enumerate")(hm:X.mg "enumerate"=none)(ha:PA X [a] ta)(hs:aK [a] X.env=[(false,eval a X.env)]:=by rfl):PI X (.Tuple es kx J6) (.Call (.Name "enumerate" p) [a] [] pos) (uE X.K ta):=by
 intro J2 s σ H R I h;refine Call_ (pb I hg hm boot_enumerate (Ac (cq (ha pos J2 s σ H _ I h) fun us s1 ⟨vs,H1,I1,r1,q1⟩=>?_) hs rfl));obtain⟨l,e,⟨xs,hq⟩,q⟩:=q1;subst e;obtain⟨u,rfl,ru⟩:=vals1 r1;cases ru;obtain⟨its,rv,pl,hz⟩:=I1.list hq;refine call_enumerate_list pl.isList fun h' he hit hsz hk=>?_;refine wpAny_pyIter_enum (s:={ s1 with heap:=h' }) he ?_;have hk':∀b o,s1.heap.get? b=some o->h'.get? b=some o:=hk;have I2:Inv X J2 σ H1 { s1 with heap:=h' }:=I1.kept (t':=s1.toks) hk';refine⟨_,[s1.heap.objs.size+1,s1.heap.objs.size],_,_,H1,rfl,I2,Bc l _ _ (Nat.succ_ne_self _),⟨⟨_,he⟩,hit⟩,fun b hb=>?_,q⟩;have hb':s1.heap.objs.size<=b:=by
  rcases cA.mp hb with z|z
  ·rw[z];exact uf _
  ·have z':b=s1.heap.objs.size:=by simpa using z
   rw[z'];exact aA _
 exact I1.fpOk hb' (I1.hok.fresh hb')
end
def Ho(x:Str):It:=⟨fun i _=>i<x.cps.size,fun i H y H'=>H'=H/\∃c,x.cps[i]?=some c/\y=.str ⟨#[c]⟩,fun i _=>x.cps.size<=i⟩
theorem yF{P:bM}{w:World}{K:Za}{tg:Expr}(x:Str)(t:Tok)(it:Addr):sU P w K tg (Ho x) [it] it (fun i h=>h.IsStrIter it "str_ascii_iterator" x t i) where
 mem:=by simp
 obj:=fun i h st b hb=>by
  have e:b=it:=by simpa using hb
  subst e;obtain⟨o,e,c,d⟩:=st;exact⟨o,e,fun v z=>by rw[d]at z;cases z⟩
 keep:=fun i h h' st k=>by
  obtain⟨o,e,c,d⟩:=st;exact⟨o,k it (by simp) o e,c,d⟩
 item:=by
  intro X hP hw hK hc i J2 s σ H E I hf st hg;subst hP hw hK;have hlt:i<x.cps.size:=hg;obtain⟨f0,f1,f2,f3,f4,f5⟩:=hf it (by simp);have hx:x.cps[i]?=some x.cps[i]:=by simp[hlt]
  refine wpAny_pyNext_ascii_item st hx fun h' st' sb=>?_;have I1:Inv X J2 σ H { s with heap:=h',toks:=s.toks+1 }:=I.turned (t':=s.toks+1) (fun b o hb e=>(sb.2 b hb).trans e) f0 f1 f3 f4 f5;obtain⟨o,e,c,d⟩:=id st';exact⟨_,rfl,uF (s:={ s with heap:=h',toks:=s.toks+1 }) e c d (by decide) ⟨.str ⟨#[x.cps[i]]⟩,H,I1,⟨_,rfl⟩,⟨rfl,_,hx,rfl⟩,st',fun b hb=>(hf b hb).1⟩⟩
 done:=by
  intro X hP hw hK hc i J2 s σ H E I hf st hg;subst hP hw hK;have hge:x.cps.size<=i:=hg;obtain⟨f0,f1,f2,f3,f4,f5⟩:=hf it (by simp);exact wpAny_pyNext_ascii_end (I.ok.hd hc) st (by simp;omega) fun h' eb=>⟨rfl,I.turned (t':=s.toks) (fun b o hb e=>eb b o hb e) f0 f1 f3 f4 f5⟩
 self:=fun _ _ _ _ _ st h=>wpAny_pyIter_striter_ascii st h
theorem Ba{P:bM}{w:World}{K:Za}{tg:Expr}(x:Str)(t:Tok)(it:Addr):sU P w K tg (Ho x) [it] it (fun i h=>h.IsStrIter it "str_iterator" x t i) where
 mem:=by simp
 obj:=fun i h st b hb=>by
  have e:b=it:=by simpa using hb
  subst e;obtain⟨o,e,c,d⟩:=st;exact⟨o,e,fun v z=>by rw[d]at z;cases z⟩
 keep:=fun i h h' st k=>by
  obtain⟨o,e,c,d⟩:=st;exact⟨o,k it (by simp) o e,c,d⟩
 item:=by
  intro X hP hw hK hc i J2 s σ H E I hf st hg;subst hP hw hK;have hlt:i<x.cps.size:=hg;obtain⟨f0,f1,f2,f3,f4,f5⟩:=hf it (by simp);have hx:x.cps[i]?=some x.cps[i]:=by simp[hlt]
  refine wpAny_pyNext_wide_item st hx fun h' st' sb=>?_;have I1:Inv X J2 σ H { s with heap:=h',toks:=s.toks+1 }:=I.turned (t':=s.toks+1) (fun b o hb e=>(sb.2 b hb).trans e) f0 f1 f3 f4 f5;obtain⟨o,e,c,d⟩:=id st';exact⟨_,rfl,uF (s:={ s with heap:=h',toks:=s.toks+1 }) e c d (by decide) ⟨.str ⟨#[x.cps[i]]⟩,H,I1,⟨_,rfl⟩,⟨rfl,_,hx,rfl⟩,st',fun b hb=>(hf b hb).1⟩⟩
 done:=by
  intro X hP hw hK hc i J2 s σ H E I hf st hg;subst hP hw hK;have hge:x.cps.size<=i:=hg;obtain⟨f0,f1,f2,f3,f4,f5⟩:=hf it (by simp);exact wpAny_pyNext_wide_end (I.ok.hd hc) st (by simp;omega) fun h' eb=>⟨rfl,I.turned (t':=s.toks) (fun b o hb e=>eb b o hb e) f0 f1 f3 f4 f5⟩
 self:=fun _ _ _ _ _ st h=>wpAny_pyIter_striter_wide st h
section
variable{X:Cx}{p pos:Pos}{tg:Expr}
def GU(tl:TE):TI:=fun σ H R=>tl σ H fun v H1=>∃x,v=.str x/\R (Ho x) H1
theorem F1{l:Expr}{tl:TE}(hl:PE X l tl):PI X tg l (GU tl):=by
 intro J2 s σ H R I h;refine cq (hl J2 s σ H _ I h) fun v s1 ⟨y,H1,I1,r1,q1⟩=>?_;obtain⟨x,e,q⟩:=q1;subst e;obtain⟨t,rfl⟩:=r1;have fin:∀b∈[s1.heap.objs.size],m9 X J2 H1 b:=fun b hb=>by
  have e:b=s1.heap.objs.size:=by simpa using hb
  subst e;exact I1.fpOk (aA _) (I1.hok.fresh (aA _))
 cases ha:x.cps.all (·<128)
 ·refine wpAny_pyIter_wide ha ?_;exact⟨s1.heap.objs.size,[s1.heap.objs.size],_,_,H1,rfl,I1.kept (t':=s1.toks) fun b o e=>bv _ e,Ba x t _,⟨_,cQ _ rfl,rfl,rfl⟩,fin,q⟩
 ·refine wpAny_pyIter_ascii ha ?_;exact⟨s1.heap.objs.size,[s1.heap.objs.size],_,_,H1,rfl,I1.kept (t':=s1.toks) fun b o e=>bv _ e,yF x t _,⟨_,cQ _ rfl,rfl,rfl⟩,fin,q⟩
end
def G7(K:Za)(a b:Addr):It :=
  ⟨fun i H=>∃xs ys x y,ax K H a xs/\ax K H b ys/\xs[i]?=some x/\ys[i]?=some y,
   fun i H x H'=>∃p u v,x=.ref p/\H p=none/\(∀xs,ax K H a xs->xs[i]?=some u)/\(∀ys,ax K H b ys->ys[i]?=some v)/\H'=upd H p (.tup [u,v]),
   fun i H=>∃xs ys,ax K H a xs/\ax K H b ys/\(xs.length<=i∨ys.length<=i)⟩
theorem Cw{P:bM}{w:World}{K:Za}{es:List Expr}{kx:Nat}{J6:Pos}(a b z TI TO i1 i2:Addr)(D:oH z TI TO i1 i2 a b):
  sU P w K (.Tuple es kx J6) (G7 K a b) [z,TI,TO,i1,i2] z (fun i h=>IsZip h z TI TO .none/\IsPair h TI (.ref i1) (.ref i2)/\(∃a b,IsPair h TO a b)/\h.IsListIter i1 a i/\h.IsListIter i2 b i) where
 mem:=by simp
 obj:=fun i h st c hc=>by
  obtain⟨hz,hTI,⟨u,v,hTO⟩,h1,h2⟩:=st;simp only[cA,qZ,or_false]at hc;rcases hc with rfl|rfl|rfl|rfl|rfl
  ·exact⟨_,hz,fun v z=>by cases z⟩
  ·exact⟨_,hTI,fun v z=>by cases z⟩
  ·exact⟨_,hTO,fun v z=>by cases z⟩
  ·obtain⟨o,e,c,d⟩:=h1;exact⟨o,e,fun v z=>by rw[d]at z;cases z⟩
  ·obtain⟨o,e,c,d⟩:=h2;exact⟨o,e,fun v z=>by rw[d]at z;cases z⟩
 keep:=fun i h h' st k=>by
  obtain⟨hz,hTI,⟨u,v,hTO⟩,h1,h2⟩:=st;exact⟨k z (by simp) _ hz,k TI (by simp) _ hTI,⟨u,v,k TO (by simp) _ hTO⟩,h1.at fun o e=>k i1 (by simp) o e,h2.at fun o e=>k i2 (by simp) o e⟩
 item:=by
  intro X hP hw hK hc i J2 s σ H E I hf st hg;subst hP hw hK;obtain⟨hz,hTI,⟨u0,v0,hTO⟩,h1,h2⟩:=st;obtain⟨xs,ys,x,y,hqx,hqy,hx,hy⟩:=hg;obtain⟨its,rx,px,zx⟩:=I.list hqx;obtain⟨jts,ry,py,zy⟩:=I.list hqy;obtain⟨u,hu,ru⟩:=rx.get hx;obtain⟨v,hv,rv⟩:=ry.get hy;refine wpAny_pyNext_zip_item D hz hTI hTO h1 h2 px.isList py.isList (x:=u) (y:=v) (by simpa using hu) (by simpa using hv) fun h' a1 a2 a3 a4 a5 a6 hk=>?_;refine⟨_,rfl,wpAny_letOwnedTupleGo_zip (s:={ s with heap:=h' }) a1 fun h2' hz2 hs2=>?_⟩;have hs2':iE z h' h2':=hs2;have nsz:s.heap.objs.size≠z:=gZ (aY hz);have nsTO:s.heap.objs.size≠TO:=gZ (aY hTO);have nsTI:s.heap.objs.size≠TI:=gZ (aY hTI);have nsi1:s.heap.objs.size≠i1:=by obtain⟨o,ho,_⟩:=h1;exact gZ (aY ho)
  have nsi2:s.heap.objs.size≠i2:=by obtain⟨o,ho,_⟩:=h2;exact gZ (aY ho)
  have ht2:IsPair h2' s.heap.objs.size u v:=hs2'.extBut _ _ nsz a5;have I2:Inv X J2 σ (upd H s.heap.objs.size (.tup [x,y])) { s with heap:=h2',toks:=s.toks }:=by
   refine I.turnedNew (ch:=[z,TI,TO,i1,i2]) hf (fun c o hc q=>?_) ⟨_,ht2⟩ (fun _ z=>nomatch z) ⟨by show 2<=aj;decide,[u,v],.cons ru (.cons rv .nil),⟨_,ht2,rfl,_,rfl⟩⟩;have n1:c≠z:=fun q=>hc (by simp[q]);exact hs2'.extBut _ _ n1 (hk c o n1 (fun q=>hc (by simp[q])) (fun q=>hc (by simp[q])) (fun q=>hc (by simp[q])) q)
  refine⟨.ref s.heap.objs.size,_,I2,rfl,⟨_,x,y,rfl,I.fresh,fun zs hz=>by rw[I.list_inj hz hqx];exact hx,fun zs hz=>by rw[I.list_inj hz hqy];exact hy,rfl⟩,⟨hz2,hs2'.extBut _ _ D.TIz (hk _ _ D.TIz D.TITO D.TIi1 D.TIi2 hTI),⟨_,_,hs2'.extBut _ _ D.TOz a2⟩,a3.at fun o e=>hs2'.extBut _ _ D.i1z e,a4.at fun o e=>hs2'.extBut _ _ D.i2z e⟩,fun c hc=>?_⟩;have hcn:=(hf c hc).1;simp only[cA,qZ,or_false]at hc;have ne:c≠s.heap.objs.size:=by
   rcases hc with rfl|rfl|rfl|rfl|rfl
   ·exact nsz.symm
   ·exact nsTI.symm
   ·exact nsTO.symm
   ·exact nsi1.symm
   ·exact nsi2.symm
  rw[ai ne];exact hcn
 done:=by
  intro X hP hw hK hc i J2 s σ H E I hf st hg;subst hP hw hK;obtain⟨hz,hTI,⟨u0,v0,hTO⟩,h1,h2⟩:=st;obtain⟨xs,ys,hqx,hqy,hend⟩:=hg;obtain⟨its,rx,px,zx⟩:=I.list hqx;obtain⟨jts,ry,py,zy⟩:=I.list hqy;have lx:=rx.length;have ly:=ry.length;refine wpAny_pyNext_zip_end (I.ok.hd hc) D hz hTI hTO h1 h2 px.isList py.isList (by rcases hend with q|q;exact .inl (by simp;omega);exact .inr (by simp;omega)) fun h' hk=>⟨rfl,?_⟩;have tr:∀c q,H c=some q->c∉[z,TI,TO,i1,i2]:=fun c q e m=>by rw[(hf c m).1]at e;cases e
  have kk:∀c o,c∉[z,TI,TO,i1,i2]->s.heap.get? c=some o->h'.get? c=some o:=fun c o hc q=>hk c o (fun q=>hc (by simp[q])) (fun q=>hc (by simp[q])) (fun q=>hc (by simp[q])) (fun q=>hc (by simp[q])) q;refine I.step (g':=s.gens) (d':=s.drawn) (t':=s.toks) (ch:=[z,TI,TO,i1,i2]) (fun c hc=>?_) (fun c o _ _ hc e _=>kk c o hc e) (fun c o _ _ hc e _=>⟨o.slots,kk c o hc e⟩) (fun _ _ _ _ n=>n) (fun c o hc e=>⟨o,kk c o hc e⟩) (fun _ _ e=>e) (fun _ _ _ e=>e) (fun c ps e=>⟨#[],by rw[e];simp⟩) (fun m hm=>?_) (fun c q e=>?_) I.bare
  ·obtain⟨f0,f1,f2,f3,f4,f5⟩:=hf c hc;exact⟨f3,f1,f4,f5⟩
  ·obtain⟨q,es',ep,ho,r⟩:=hm;exact⟨q,es',ep,kk _ q (fun z=>(hf _ z).2.1 rfl) ho,r⟩
  ·refine(I.hok c q e).stay (fun d v hd q'=>kk d v ?_ q') (fun _ q=>q) fun _ _ q=>q;rcases hd with z|z
   ·subst z;exact tr _ _ e
   ·exact tr _ _ z
 self:=fun _ _ _ _ _ st h=>vh st.1 h
section
variable{prog:bM}{w:World}{A:Around}{E:Zc}{s:Shared}
theorem jE{it t:Addr}{i:Nat}{items:Array Value}{x:Value}{Q:Zc}(st:s.heap.IsTupleIter it t i)(tt:s.heap.IsTuple t items)(hx:items[i]?=some x)
  (k:∀h',h'.IsTupleIter it t (i+1)->iE it s.heap h'->Q x { s with heap:=h' }):wpAny (model prog w) A (kr (.ref it)) Q E s:=by
 obtain⟨oi,gi,ci,di⟩:=id st;obtain⟨ot,gt,_,nt,dt⟩:=tt;unfold kr;refine ap (oG (name:=oF "__next__") st.typeIs vg
  (uS vg st.typeIs F.entry_tuple_iterator_next ?_ (F.args_tuple_iterator_next_1 _)))
 show wpAny _ _ (field (.ref it) 0 >>= _) _ _ s;refine ap (gU gi di (x:=.ref t) rfl ?_);show wpAny _ _ (if(Value.ref t==Value.none)=true then _ else _) _ _ s
 rw[if_neg (show ¬((Value.ref t==Value.none)=true)from gD)];show wpAny _ _ (field (.ref it) 1 >>= _) _ _ s;refine ap (gU gi di (x:=.int i 0) rfl ?_);show wpAny _ _ (seqItems? (.ref t) >>= _) _ _ s;refine ap (l6 gt dt ?_);simp only[kC,hx];refine ap (vf gi di (by simp) (aX ⟨x,rfl,aX (k _ ?_ (mm ..))⟩));exact⟨_,vp _ gi (Obj.isFreed_of_fields (ve di _)),(Obj.cls_mapFields ..).trans ci,by
  rw[ve di];simp[rawInt]⟩
theorem pV{it t:Addr}{i:Nat}{items:Array Value}{Q:Zc}(hh:A.handled=none)(st:s.heap.IsTupleIter it t i)(tt:s.heap.IsTuple t items)(hx:items[i]?=none)
  (k:∀h' e,Heap.ExtBut it s.heap h'->(∃o,h'.get? e=some o/\o.cls=.type "StopIteration")->E (.ref e) { s with heap:=h' }):wpAny (model prog w) A (kr (.ref it)) Q E s:=by
 obtain⟨oi,gi,ci,di⟩:=id st;obtain⟨ot,gt,_,nt,dt⟩:=tt;unfold kr;refine ap (oG (name:=oF "__next__") st.typeIs vg
  (uS vg st.typeIs F.entry_tuple_iterator_next ?_ (F.args_tuple_iterator_next_1 _)))
 show wpAny _ _ (field (.ref it) 0 >>= _) _ _ s;refine ap (gU gi di (x:=.ref t) rfl ?_);show wpAny _ _ (if(Value.ref t==Value.none)=true then _ else _) _ _ s
 rw[if_neg (show ¬((Value.ref t==Value.none)=true)from gD)];show wpAny _ _ (field (.ref it) 1 >>= _) _ _ s;refine ap (gU gi di (x:=.int i 0) rfl ?_);show wpAny _ _ (seqItems? (.ref t) >>= _) _ _ s;refine ap (l6 gt dt ?_);simp only[kC,hx];refine ap (pS (ap (vf gi di (by simp) ?_)));show wpAny _ _ (newExc (.type "StopIteration") [] >>= _) _ _ _;refine ap ?_;simp only[newExc,newTuple];refine ap (oI ?_ (by size_fits));refine ap (m:=vd _ _) (wpAny_of_eq (a:=Value.none) (by first|rfl|(simp only[vd];rfl)) ?_)
 refine oI ?_ (by size_fits);simp only[raiseNew];refine ap (wpAny_handled ?_)
 first|rw[show A.in1.handled=none from hh] | rw[hh]
 refine ap (aX (wpAny_throw ?_));exact k _ _ (((mm ..).extBut.push _).push _) ⟨_,cQ _ rfl,rfl⟩
theorem A9{z TI TO i1 i2 l1 l2:Addr}{k1 k2:Nat}{xs ys:Array Value}{x y a b:Value}{Q:Zc}(D:oH z TI TO i1 i2 l1 l2)
  (gz:IsZip s.heap z TI TO .none) (gI:IsPair s.heap TI (.ref i1) (.ref i2)) (gO:IsPair s.heap TO a b)
  (g1:s.heap.IsTupleIter i1 l1 k1) (g2:s.heap.IsTupleIter i2 l2 k2) (t1:s.heap.IsTuple l1 xs) (t2:s.heap.IsTuple l2 ys) (hx:xs[k1]?=some x) (hy:ys[k2]?=some y)
  (k:∀h',IsZip h' z TI TO (rawInt s.heap.objs.size)->IsPair h' TO x y->h'.IsTupleIter i1 l1 (k1+1)->h'.IsTupleIter i2 l2 (k2+1)->IsPair h' s.heap.objs.size x y->h'.objs.size=s.heap.objs.size+1 ->
   (∀c o,c≠z->c≠TO->c≠i1->c≠i2->s.heap.get? c=some o->h'.get? c=some o)->Q (.ref s.heap.objs.size) { s with heap:=h' }) :
  wpAny (model prog w) A (cF.«zip.__next__» ⟨[.ref z],[]⟩) (fun fin s'=>∃v,fin=.done (.ret v)/\Q v s') E s:=by
 show wpAny _ _ (field (.ref z) 2 >>= _) _ _ _;refine ap (gU gz rfl (x:=.bool false) rfl ?_);show wpAny _ _ (field (.ref z) 3 >>= _) _ _ _;refine ap (gU gz rfl (x:=.ref TI) rfl ?_);refine ap (l6 gI rfl ?_);show wpAny _ _ (vc (.ref z) >>= _) _ _ _;refine ap ?_;unfold vc;refine ap (gU gz rfl (x:=.none) rfl (aX ?_));simp only[if_true];refine ap (pS ?_);refine ap (gU gz rfl (x:=.ref TO) rfl ?_);refine ap (oE gz (by simp) fun m₁ gz₁ u₁=>?_)
 replace gz₁:IsZip m₁ z TI TO .ellipsis:=gz₁
 refine ap ?_;simp only[List.zipIdx_cons,List.zipIdx_nil,q0,List.forIn_nil];refine ap (ap (vb ?_));show wpAny _ _ (kr (.ref i1) >>= _) _ _ _;refine ap (jE (g1.extBut u₁.extBut D.i1z) (t1.extBut u₁.extBut D.l1z) hx fun m₂ g1₂ u₂=>aX ?_);have gO₂:IsPair m₂ TO a b:=u₂.extBut _ _ D.TOi1 (u₁.extBut _ _ D.TOz gO);refine ap (l6 gO₂ rfl ?_);refine ap (wpAny_updateSeq_pair gO₂ fun m₃ gO₃ u₃=>?_)
 replace gO₃:IsPair m₃ TO x b:=gO₃
 refine ap (wpAny_letGo (aX ?_));refine ap (ap (vb ?_));show wpAny _ _ (kr (.ref i2) >>= _) _ _ _;refine ap (jE (((g2.extBut u₁.extBut D.i2z).extBut u₂.extBut D.i12.symm).extBut u₃.extBut D.TOi2.symm)
  (((t2.extBut u₁.extBut D.l2z).extBut u₂.extBut D.l2i1).extBut u₃.extBut D.l2TO) hy fun m₄ g2₄ u₄=>aX ?_)
 have gO₄:IsPair m₄ TO x b:=u₄.extBut _ _ D.TOi2 gO₃;refine ap (l6 gO₄ rfl ?_);refine ap (wpAny_updateSeq_pair gO₄ fun m₅ gO₅ u₅=>?_)
 replace gO₅:IsPair m₅ TO x y:=gO₅
 refine ap (wpAny_letGo (aX (aX ?_)));refine ap (l6 gO₅ rfl ?_);refine ap (wpAny_newTuple ?_);have esz:m₅.objs.size=s.heap.objs.size:=by rw[u₅.1,u₄.1,u₃.1,u₂.1,u₁.1]
 have gz₅:IsZip m₅ z TI TO .ellipsis:=u₅.extBut _ _ D.TOz.symm (u₄.extBut _ _ D.i2z.symm (u₃.extBut _ _ D.TOz.symm (u₂.extBut _ _ D.i1z.symm gz₁)));have kp₅:∀c o,c≠z->c≠TO->c≠i1->c≠i2->s.heap.get? c=some o->m₅.get? c=some o:=fun c o c1 c2 c3 c4 e =>
  u₅.extBut _ _ c2 (u₄.extBut _ _ c4 (u₃.extBut _ _ c2 (u₂.extBut _ _ c3 (u₁.extBut _ _ c1 e))))
 have g1₅:m₅.IsTupleIter i1 l1 (k1+1):=((g1₂.extBut u₃.extBut D.TOi1.symm).extBut u₄.extBut D.i12).extBut u₅.extBut D.TOi1.symm;have g2₅:m₅.IsTupleIter i2 l2 (k2+1):=g2₄.extBut u₅.extBut D.TOi2.symm;have zlt:z<m₅.objs.size:=aY gz₅;show wpAny _ _ (cF.SmallTypes.ownedTupleHandOut (.ref z) (.ref m₅.objs.size) >>= _) _ _ _;refine ap ?_;unfold cF.SmallTypes.ownedTupleHandOut;have gz₆:IsZip (m₅.push { cls:=.type "tuple",data:=.seq #[x,y] }) z TI TO .ellipsis:=bv _ gz₅;refine ap (oE gz₆ (by simp) fun m₇ gz₇ u₇=>?_)
 replace gz₇:IsZip m₇ z TI TO (rawInt m₅.objs.size):=gz₇
 refine oE gz₇ (by simp) fun m₈ gz₈ u₈=>?_
 replace gz₈:IsZip m₈ z TI TO (rawInt m₅.objs.size):=gz₈
 have up:∀c o,c≠z->m₅.get? c=some o->m₈.get? c=some o:=fun c o c1 e=>u₈.extBut _ _ c1 (u₇.extBut _ _ c1 (bv _ e));have gT₈:IsPair m₈ m₅.objs.size x y:=u₈.extBut _ _ (gZ zlt) (u₇.extBut _ _ (gZ zlt) (cQ _ rfl));have ez8:m₈.objs.size=m₅.objs.size+1:=by rw[u₈.1,u₇.1,pI]
 rw[esz]at gz₈ gT₈ ez8;refine aX ⟨_,rfl,?_⟩;show Q (.ref m₅.objs.size) _;rw[esz];refine k m₈ gz₈ (up _ _ D.TOz gO₅) ?_ ?_ gT₈ ez8 fun c o c1 c2 c3 c4 e=>up c o c1 (kp₅ c o c1 c2 c3 c4 e)
 ·obtain⟨o,e,r⟩:=g1₅;exact⟨o,up _ o D.i1z e,r⟩
 ·obtain⟨o,e,r⟩:=g2₅;exact⟨o,up _ o D.i2z e,r⟩
theorem Cq{z TI TO i1 i2 l1 l2:Addr}{k1 k2:Nat}{xs ys:Array Value}{a b:Value}{Q:Fin->Shared->Prop}(hh:A.handled=none)(D:oH z TI TO i1 i2 l1 l2)
  (gz:IsZip s.heap z TI TO .none) (gI:IsPair s.heap TI (.ref i1) (.ref i2)) (gO:IsPair s.heap TO a b)
  (g1:s.heap.IsTupleIter i1 l1 k1) (g2:s.heap.IsTupleIter i2 l2 k2) (t1:s.heap.IsTuple l1 xs) (t2:s.heap.IsTuple l2 ys) (fin:xs[k1]?=none∨ys[k2]?=none)
  (k:∀h' e,(∀c o,c≠z->c≠TO->c≠i1->c≠i2->s.heap.get? c=some o->h'.get? c=some o)->(∃o,h'.get? e=some o/\o.cls=.type "StopIteration")->E (.ref e) { s with heap:=h' }) :
  wpAny (model prog w) A (cF.«zip.__next__» ⟨[.ref z],[]⟩) Q E s:=by
 show wpAny _ _ (field (.ref z) 2 >>= _) _ _ _;refine ap (gU gz rfl (x:=.bool false) rfl ?_);show wpAny _ _ (field (.ref z) 3 >>= _) _ _ _;refine ap (gU gz rfl (x:=.ref TI) rfl ?_);refine ap (l6 gI rfl ?_);show wpAny _ _ (vc (.ref z) >>= _) _ _ _;refine ap ?_;unfold vc;refine ap (gU gz rfl (x:=.none) rfl (aX ?_));simp only[if_true];refine ap (pS ?_);refine ap (gU gz rfl (x:=.ref TO) rfl ?_);refine ap (oE gz (by simp) fun m₁ gz₁ u₁=>?_)
 replace gz₁:IsZip m₁ z TI TO .ellipsis:=gz₁
 refine ap ?_;simp only[List.zipIdx_cons,List.zipIdx_nil,q0,List.forIn_nil];refine ap (ap (vb ?_));show wpAny _ _ (kr (.ref i1) >>= _) _ _ _;cases hx:xs[k1]? with
 |none =>
  refine ap (pV hh (g1.extBut u₁.extBut D.i1z) (t1.extBut u₁.extBut D.l1z) hx fun m₂ e u₂ he=>?_);obtain⟨oe,ge,ce⟩:=he;have gz₂:IsZip m₂ z TI TO .ellipsis:=u₂ _ _ D.i1z.symm gz₁;have nez:e≠z:=fun q=>by subst q;rw[gz₂]at ge;cases ge;simp at ce
  refine oE gz₂ (by simp) fun m₃ _ u₃=>k m₃ e (fun c o c1 _ c3 _ q=>u₃.extBut _ _ c1 (u₂ _ _ c3 (u₁.extBut _ _ c1 q))) ⟨oe,u₃.extBut _ _ nez ge,ce⟩
 |some x =>
  have hy:ys[k2]?=none:=by rcases fin with q|q;rw[hx]at q;cases q;exact q
  refine ap (jE (g1.extBut u₁.extBut D.i1z) (t1.extBut u₁.extBut D.l1z) hx fun m₂ g1₂ u₂=>aX ?_);have gO₂:IsPair m₂ TO a b:=u₂.extBut _ _ D.TOi1 (u₁.extBut _ _ D.TOz gO);refine ap (l6 gO₂ rfl ?_);refine ap (wpAny_updateSeq_pair gO₂ fun m₃ gO₃ u₃=>?_);refine ap (wpAny_letGo (aX ?_));refine ap (ap (vb ?_));show wpAny _ _ (kr (.ref i2) >>= _) _ _ _;refine ap (pV hh (((g2.extBut u₁.extBut D.i2z).extBut u₂.extBut D.i12.symm).extBut u₃.extBut D.TOi2.symm)
   (((t2.extBut u₁.extBut D.l2z).extBut u₂.extBut D.l2i1).extBut u₃.extBut D.l2TO) hy fun m₄ e u₄ he=>?_)
  obtain⟨oe,ge,ce⟩:=he;have gz₄:IsZip m₄ z TI TO .ellipsis:=u₄ _ _ D.i2z.symm (u₃.extBut _ _ D.TOz.symm (u₂.extBut _ _ D.i1z.symm gz₁));have nez:e≠z:=fun q=>by subst q;rw[gz₄]at ge;cases ge;simp at ce
  refine oE gz₄ (by simp) fun m₅ _ u₅=>k m₅ e (fun c o c1 c2 c3 c4 q=>u₅.extBut _ _ c1 (u₄ _ _ c4 (u₃.extBut _ _ c2 (u₂.extBut _ _ c3 (u₁.extBut _ _ c1 q))))) ⟨oe,u₅.extBut _ _ nez ge,ce⟩
theorem tZ{z TI TO i1 i2 l1 l2:Addr}{k1 k2:Nat}{xs ys:Array Value}{x y a b:Value}{Q:Option Value->Shared->Prop}(D:oH z TI TO i1 i2 l1 l2)
  (gz:IsZip s.heap z TI TO .none) (gI:IsPair s.heap TI (.ref i1) (.ref i2)) (gO:IsPair s.heap TO a b)
  (g1:s.heap.IsTupleIter i1 l1 k1) (g2:s.heap.IsTupleIter i2 l2 k2) (t1:s.heap.IsTuple l1 xs) (t2:s.heap.IsTuple l2 ys) (hx:xs[k1]?=some x) (hy:ys[k2]?=some y)
  (k:∀h',IsZip h' z TI TO (rawInt s.heap.objs.size)->IsPair h' TO x y->h'.IsTupleIter i1 l1 (k1+1)->h'.IsTupleIter i2 l2 (k2+1)->IsPair h' s.heap.objs.size x y->h'.objs.size=s.heap.objs.size+1 ->
   (∀c o,c≠z->c≠TO->c≠i1->c≠i2->s.heap.get? c=some o->h'.get? c=some o)->Q (some (.ref s.heap.objs.size)) { s with heap:=h' }) :
  wpAny (model prog w) A (pyNext (.ref z)) Q E s:=by
 have hT:s.TypeIs (.ref z) "zip":=⟨_,gz,rfl⟩;unfold pyNext;exact ap (va (oG (name:=oF "__next__") hT u_
  (uS u_ hT F.entry_zip_next
   (A9 D gz gI gO g1 g2 t1 t2 hx hy fun h' a1 a2 a3 a4 a5 a6 a7=>aX (k h' a1 a2 a3 a4 a5 a6 a7)) (F.args_zip_next_1 _))))
theorem wb{z TI TO i1 i2 l1 l2:Addr}{k1 k2:Nat}{xs ys:Array Value}{a b:Value}{Q:Option Value->Shared->Prop}(hh:A.handled=none)(D:oH z TI TO i1 i2 l1 l2)
  (gz:IsZip s.heap z TI TO .none) (gI:IsPair s.heap TI (.ref i1) (.ref i2)) (gO:IsPair s.heap TO a b)
  (g1:s.heap.IsTupleIter i1 l1 k1) (g2:s.heap.IsTupleIter i2 l2 k2) (t1:s.heap.IsTuple l1 xs) (t2:s.heap.IsTuple l2 ys) (fin:xs[k1]?=none∨ys[k2]?=none)
  (k:∀h',(∀c o,c≠z->c≠TO->c≠i1->c≠i2->s.heap.get? c=some o->h'.get? c=some o)->Q none { s with heap:=h' }):wpAny (model prog w) A (pyNext (.ref z)) Q E s:=by
 have hT:s.TypeIs (.ref z) "zip":=⟨_,gz,rfl⟩;unfold pyNext;refine ap (va (oG (name:=oF "__next__") hT u_
  (uS u_ hT F.entry_zip_next (Cq hh D gz gI gO g1 g2 t1 t2 fin fun h' e kp he=>?_) (F.args_zip_next_1 _))))
 obtain⟨o,ho,hc⟩:=he;refine ap (Ai (T:="StopIteration") (b:=true) ⟨o,ho,hc⟩ isSubtype_stop ?_);exact aX (k _ kp)
end
abbrev Hj(h:Heap)(l1:Addr):Heap:=h.push { cls:=.type "tuple_iterator",data:=.fields #[.ref l1,.int 0 0] }
abbrev Hi(h:Heap)(l1 l2:Addr):Heap:=(Hj h l1).push { cls:=.type "tuple_iterator",data:=.fields #[.ref l2,.int 0 0] }
abbrev Hh(h:Heap)(l1 l2:Addr):Heap:=(Hi h l1 l2).push { cls:=.type "tuple",data:=.seq #[.ref h.objs.size,.ref (Hj h l1).objs.size] }
abbrev Hg(h:Heap)(l1 l2:Addr):Heap:=(Hh h l1 l2).push { cls:=.type "tuple",data:=.seq #[.none,.none] }
abbrev Gw(h:Heap)(l1 l2:Addr):Heap:=(Hg h l1 l2).push { cls:=.type "zip",data:=.fields #[.none,.bool false,.bool false,.ref (Hi h l1 l2).objs.size,.ref (Hh h l1 l2).objs.size] }
theorem zi(l1 l2:Addr)(xs ys:Array Value):
  Meets (cF.«zip.__new__» ⟨[.type "zip",.ref l1,.ref l2],[]⟩) (fun _ R s=>s.heap.IsTuple l1 xs/\s.heap.IsTuple l2 ys /\
   R (.ok (.ret (.ref (Hg s.heap l1 l2).objs.size))) { s with heap:=Gw s.heap l1 l2 }) :=
 .of_wp fun prog w A R s h=>by
  obtain⟨hp,g,d,tk,os⟩:=s;obtain⟨q1,q2,h⟩:=h;have hsub:=sub_zip;have T1:Heap.IsTuple (Shared.heap ⟨hp,g,d,tk,os⟩) l1 xs:=q1;have T2:Heap.IsTuple (Shared.heap ⟨hp.push { cls:=.type "tuple_iterator",data:=.fields #[.ref l1,.int 0 0] },g,d,tk,os⟩) l2 ys:=Heap.IsTuple.push q2 _
  wp_walk using Ad T1,Ad T2
  exact⟨_,rfl,h⟩
section
variable{prog:bM}{w:World}{A:Around}{E:Zc}{s:Shared}
theorem BY{l1 l2:Addr}{xs ys:Array Value}{Q:Zc}(t1:s.heap.IsTuple l1 xs)(t2:s.heap.IsTuple l2 ys)
  (k:∀h',IsZip h' (s.heap.objs.size+4) (s.heap.objs.size+2) (s.heap.objs.size+3) .none->IsPair h' (s.heap.objs.size+2) (.ref s.heap.objs.size) (.ref (s.heap.objs.size+1)) ->
   IsPair h' (s.heap.objs.size+3) .none .none->h'.IsTupleIter s.heap.objs.size l1 0->h'.IsTupleIter (s.heap.objs.size+1) l2 0->(∀c o,s.heap.get? c=some o->h'.get? c=some o)->Q (.ref (s.heap.objs.size+4)) { s with heap:=h' }) :
  wpAny (model prog w) A (call (.type "zip") [.ref l1,.ref l2]) Q E s:=by
 refine callType_new F.called_zip (by decide) (F.typeCall_zip_2 _ _) (F.newCall_zip_2 _ _) (fun obj=>F.args_object_init_3 obj _ _) F.entry_zip_new
  (zi l1 l2 xs ys) ⟨t1,t2,?_⟩
 have z1:(Hj s.heap l1).objs.size=s.heap.objs.size+1:=pI ..;have z2:(Hi s.heap l1 l2).objs.size=s.heap.objs.size+2:=by rw[pI,z1]
 have z3:(Hh s.heap l1 l2).objs.size=s.heap.objs.size+3:=by rw[pI,z2]
 have z4:(Hg s.heap l1 l2).objs.size=s.heap.objs.size+4:=by rw[pI,z3]
 have g5:(Gw s.heap l1 l2).get? (Hg s.heap l1 l2).objs.size=some _:=cQ _ rfl;have g4:(Gw s.heap l1 l2).get? (Hh s.heap l1 l2).objs.size=some _:=bv _ (cQ _ rfl);have g3:(Gw s.heap l1 l2).get? (Hi s.heap l1 l2).objs.size=some _:=bv _ (bv _ (cQ _ rfl));have g2:(Gw s.heap l1 l2).get? (Hj s.heap l1).objs.size=some _:=bv _ (bv _ (bv _ (cQ _ rfl)));have g1:(Gw s.heap l1 l2).get? s.heap.objs.size=some _:=bv _ (bv _ (bv _ (bv _ (cQ _ rfl))));show _/\_;rw[z2,z3,z4]at g5;rw[z1,z2]at g3;rw[z3]at g4;rw[z1]at g2;rw[z4];exact⟨⟨_,g5,rfl⟩,k _ g5 g3 g4 ⟨_,g1,rfl,rfl⟩ ⟨_,g2,rfl,rfl⟩ fun c o x =>
  bv _ (bv _ (bv _ (bv _ (bv _ x))))⟩
end
def G6(K:Za)(a b:Addr):It :=
  ⟨fun i H=>∃xs ys x y,bA K H a xs/\bA K H b ys/\xs[i]?=some x/\ys[i]?=some y,
   fun i H x H'=>∃p u v,x=.ref p/\H p=none/\(∀xs,bA K H a xs->xs[i]?=some u)/\(∀ys,bA K H b ys->ys[i]?=some v)/\H'=upd H p (.tup [u,v]),
   fun i H=>∃xs ys,bA K H a xs/\bA K H b ys/\(xs.length<=i∨ys.length<=i)⟩
theorem A_{P:bM}{w:World}{K:Za}{es:List Expr}{kx:Nat}{J6:Pos}(a b z TI TO i1 i2:Addr)(D:oH z TI TO i1 i2 a b):
  sU P w K (.Tuple es kx J6) (G6 K a b) [z,TI,TO,i1,i2] z (fun i h=>IsZip h z TI TO .none/\IsPair h TI (.ref i1) (.ref i2)/\(∃a b,IsPair h TO a b)/\h.IsTupleIter i1 a i/\h.IsTupleIter i2 b i) where
 mem:=by simp
 obj:=fun i h st c hc=>by
  obtain⟨hz,hTI,⟨u,v,hTO⟩,h1,h2⟩:=st;simp only[cA,qZ,or_false]at hc;rcases hc with rfl|rfl|rfl|rfl|rfl
  ·exact⟨_,hz,fun v z=>by cases z⟩
  ·exact⟨_,hTI,fun v z=>by cases z⟩
  ·exact⟨_,hTO,fun v z=>by cases z⟩
  ·obtain⟨o,e,c,d⟩:=h1;exact⟨o,e,fun v z=>by rw[d]at z;cases z⟩
  ·obtain⟨o,e,c,d⟩:=h2;exact⟨o,e,fun v z=>by rw[d]at z;cases z⟩
 keep:=fun i h h' st k=>by
  obtain⟨hz,hTI,⟨u,v,hTO⟩,⟨o1,e1,r1⟩,⟨o2,e2,r2⟩⟩:=st;exact⟨k z (by simp) _ hz,k TI (by simp) _ hTI,⟨u,v,k TO (by simp) _ hTO⟩,⟨o1,k i1 (by simp) o1 e1,r1⟩,⟨o2,k i2 (by simp) o2 e2,r2⟩⟩
 item:=by
  intro X hP hw hK hc i J2 s σ H E I hf st hg;subst hP hw hK;obtain⟨hz,hTI,⟨u0,v0,hTO⟩,h1,h2⟩:=st;obtain⟨xs,ys,x,y,hqx,hqy,hx,hy⟩:=hg;obtain⟨its,rx,px,zx⟩:=I.tuple hqx;obtain⟨jts,ry,py,zy⟩:=I.tuple hqy;obtain⟨u,hu,ru⟩:=rx.get hx;obtain⟨v,hv,rv⟩:=ry.get hy;refine tZ D hz hTI hTO h1 h2 (xs:=its.toArray) (ys:=jts.toArray) px py (x:=u) (y:=v) (by simpa using hu) (by simpa using hv) fun h' a1 a2 a3 a4 a5 a6 hk=>?_;refine⟨_,rfl,wpAny_letOwnedTupleGo_zip (s:={ s with heap:=h' }) a1 fun h2' hz2 hs2=>?_⟩;have hs2':iE z h' h2':=hs2;have nsz:s.heap.objs.size≠z:=gZ (aY hz);have nsTO:s.heap.objs.size≠TO:=gZ (aY hTO);have nsTI:s.heap.objs.size≠TI:=gZ (aY hTI);have nsi1:s.heap.objs.size≠i1:=by obtain⟨o,ho,_⟩:=h1;exact gZ (aY ho)
  have nsi2:s.heap.objs.size≠i2:=by obtain⟨o,ho,_⟩:=h2;exact gZ (aY ho)
  have ht2:IsPair h2' s.heap.objs.size u v:=hs2'.extBut _ _ nsz a5;have I2:Inv X J2 σ (upd H s.heap.objs.size (.tup [x,y])) { s with heap:=h2',toks:=s.toks }:=by
   refine I.turnedNew (ch:=[z,TI,TO,i1,i2]) hf (fun c o hc q=>?_) ⟨_,ht2⟩ (fun _ z=>nomatch z) ⟨by show 2<=aj;decide,[u,v],.cons ru (.cons rv .nil),⟨_,ht2,rfl,_,rfl⟩⟩;have n1:c≠z:=fun q=>hc (by simp[q]);exact hs2'.extBut _ _ n1 (hk c o n1 (fun q=>hc (by simp[q])) (fun q=>hc (by simp[q])) (fun q=>hc (by simp[q])) q)
  have a3':h2'.IsTupleIter i1 a (i+1):=by obtain⟨o,e,r⟩:=a3;exact⟨o,hs2'.extBut _ _ D.i1z e,r⟩
  have a4':h2'.IsTupleIter i2 b (i+1):=by obtain⟨o,e,r⟩:=a4;exact⟨o,hs2'.extBut _ _ D.i2z e,r⟩
  refine⟨.ref s.heap.objs.size,_,I2,rfl,⟨_,x,y,rfl,I.fresh,fun zs hz=>by rw[I.tuple_inj hz hqx];exact hx,fun zs hz=>by rw[I.tuple_inj hz hqy];exact hy,rfl⟩,⟨hz2,hs2'.extBut _ _ D.TIz (hk _ _ D.TIz D.TITO D.TIi1 D.TIi2 hTI),⟨_,_,hs2'.extBut _ _ D.TOz a2⟩,a3',a4'⟩,fun c hc=>?_⟩;have hcn:=(hf c hc).1;simp only[cA,qZ,or_false]at hc;have ne:c≠s.heap.objs.size:=by
   rcases hc with rfl|rfl|rfl|rfl|rfl
   ·exact nsz.symm
   ·exact nsTI.symm
   ·exact nsTO.symm
   ·exact nsi1.symm
   ·exact nsi2.symm
  rw[ai ne];exact hcn
 done:=by
  intro X hP hw hK hc i J2 s σ H E I hf st hg;subst hP hw hK;obtain⟨hz,hTI,⟨u0,v0,hTO⟩,h1,h2⟩:=st;obtain⟨xs,ys,hqx,hqy,hend⟩:=hg;obtain⟨its,rx,px,zx⟩:=I.tuple hqx;obtain⟨jts,ry,py,zy⟩:=I.tuple hqy;have lx:=rx.length;have ly:=ry.length;refine wb (I.ok.hd hc) D hz hTI hTO h1 h2 (xs:=its.toArray) (ys:=jts.toArray) px py (by rcases hend with q|q;exact .inl (by simp;omega);exact .inr (by simp;omega)) fun h' hk=>⟨rfl,?_⟩;have tr:∀c q,H c=some q->c∉[z,TI,TO,i1,i2]:=fun c q e m=>by rw[(hf c m).1]at e;cases e
  have kk:∀c o,c∉[z,TI,TO,i1,i2]->s.heap.get? c=some o->h'.get? c=some o:=fun c o hc q=>hk c o (fun q=>hc (by simp[q])) (fun q=>hc (by simp[q])) (fun q=>hc (by simp[q])) (fun q=>hc (by simp[q])) q;refine I.step (g':=s.gens) (d':=s.drawn) (t':=s.toks) (ch:=[z,TI,TO,i1,i2]) (fun c hc=>?_) (fun c o _ _ hc e _=>kk c o hc e) (fun c o _ _ hc e _=>⟨o.slots,kk c o hc e⟩) (fun _ _ _ _ n=>n) (fun c o hc e=>⟨o,kk c o hc e⟩) (fun _ _ e=>e) (fun _ _ _ e=>e) (fun c ps e=>⟨#[],by rw[e];simp⟩) (fun m hm=>?_) (fun c q e=>?_) I.bare
  ·obtain⟨f0,f1,f2,f3,f4,f5⟩:=hf c hc;exact⟨f3,f1,f4,f5⟩
  ·obtain⟨q,es',ep,ho,r⟩:=hm;exact⟨q,es',ep,kk _ q (fun z=>(hf _ z).2.1 rfl) ho,r⟩
  ·refine(I.hok c q e).stay (fun d v hd q'=>kk d v ?_ q') (fun _ q=>q) fun _ _ q=>q;rcases hd with z|z
   ·subst z;exact tr _ _ e
   ·exact tr _ _ z
 self:=fun _ _ _ _ _ st h=>vh st.1 h
section
variable{X:Cx}{p pos:Pos}{es:List Expr}{kx:Nat}{J6:Pos}
def FK(K:Za)(ta:TA):TI:=fun σ H R=>ta σ H fun vs H1=>∃a b,vs=[.ref a,.ref b]/\(((∃xs,ax K H1 a xs)/\(∃ys,ax K H1 b ys)/\R (G7 K a b) H1)∨((∃xs,bA K H1 a xs)/\(∃ys,bA K H1 b ys)/\R (G6 K a b) H1))
theorem EQ{a b:Expr}{ta:TA}(hg:Gl X "zip")(hm:X.mg "zip"=none)(ha:PA X [a,b] ta)(hs:aK [a,b] X.env=[(false,eval a X.env),(false,eval b X.env)]:=by rfl)(hs2:aK [b] X.env=[(false,eval b X.env)]:=by rfl):
  PI X (.Tuple es kx J6) (.Call (.Name "zip" p) [a,b] [] pos) (FK X.K ta):=by
 intro J2 s σ H R I h;refine Call_ (pb I hg hm boot_zip (Ac (cq (ha pos J2 s σ H _ I h) fun us s1 ⟨vs,H1,I1,r1,q1⟩=>?_) (by rw[hs,hs2]) (by rw[hs2];rfl)));obtain⟨l1,l2,e,q⟩:=q1;subst e;obtain⟨u,v,rfl,ru,rv⟩:=vals2 r1;cases ru;cases rv;have fin:∀b∈[s1.heap.objs.size+4,s1.heap.objs.size+2,s1.heap.objs.size+3,s1.heap.objs.size,s1.heap.objs.size+1],m9 X J2 H1 b:=fun b hb=>by
  have hb':s1.heap.objs.size<=b:=by
   simp only[cA,qZ,or_false]at hb;rcases hb with rfl|rfl|rfl|rfl|rfl<;>omega
  exact I1.fpOk hb' (I1.hok.fresh hb')
 rcases q with⟨⟨xs,hx⟩,⟨ys,hy⟩,q⟩|⟨⟨xs,hx⟩,⟨ys,hy⟩,q⟩
 ·obtain⟨its,rx,px,zx⟩:=I1.list hx;obtain⟨jts,ry,py,zy⟩:=I1.list hy;obtain⟨o1,n1,e1,_⟩:=id px;obtain⟨o2,n2,e2,_⟩:=id py;refine call_zip_2 px.isList py.isList fun h' a1 a2 a3 a4 a5 a6 hk=>?_;refine vh (s:={ s1 with heap:=h' }) a1 ?_;have hk':∀b o,s1.heap.get? b=some o->h'.get? b=some o:=hk;have I2:Inv X J2 σ H1 { s1 with heap:=h' }:=I1.kept (t':=s1.toks) hk';exact⟨_,_,_,_,H1,rfl,I2,Cw l1 l2 _ _ _ _ _ (zipApart_new (aY e1) (aY e2)),⟨a1,a2,⟨_,_,a3⟩,a4,a5⟩,fin,q⟩
 ·obtain⟨its,rx,px,zx⟩:=I1.tuple hx;obtain⟨jts,ry,py,zy⟩:=I1.tuple hy;obtain⟨o1,e1,_⟩:=id px;obtain⟨o2,e2,_⟩:=id py;refine BY (xs:=its.toArray) (ys:=jts.toArray) px py fun h' a1 a2 a3 a4 a5 hk=>?_;refine vh (s:={ s1 with heap:=h' }) a1 ?_;have hk':∀b o,s1.heap.get? b=some o->h'.get? b=some o:=hk;have I2:Inv X J2 σ H1 { s1 with heap:=h' }:=I1.kept (t':=s1.toks) hk';exact⟨_,_,_,_,H1,rfl,I2,A_ l1 l2 _ _ _ _ _ (zipApart_new (aY e1) (aY e2)),⟨a1,a2,⟨_,_,a3⟩,a4,a5⟩,fin,q⟩
end
inductive DT where
 |k (a:em)
 |t (l:List DT)
 |s (l:List DT)
mutual
def FP:(x y:DT)->Decidable (x=y)
 |.k a,.k b=>if h:a=b then Decidable.isTrue (by rw[h])else Decidable.isFalse fun e=>h (by injection e)
 |.t l,.t m=>match decDTs l m with
  |Decidable.isTrue h=>Decidable.isTrue (by rw[h])
  |Decidable.isFalse h=>Decidable.isFalse fun e=>h (by injection e)
 |.s l,.s m=>match decDTs l m with
  |Decidable.isTrue h=>Decidable.isTrue (by rw[h])
  |Decidable.isFalse h=>Decidable.isFalse fun e=>h (by injection e)
 |.k _,.t _=>Decidable.isFalse nofun
 |.k _,.s _=>Decidable.isFalse nofun
 |.t _,.k _=>Decidable.isFalse nofun
 |.t _,.s _=>Decidable.isFalse nofun
 |.s _,.k _=>Decidable.isFalse nofun
 |.s _,.t _=>Decidable.isFalse nofun
def decDTs:(x y:List DT)->Decidable (x=y)
 |[],[]=>Decidable.isTrue rfl
 |[],_::_=>Decidable.isFalse nofun
 |_::_,[]=>Decidable.isFalse nofun
 |a::l,b::m=>match FP a b with
  |Decidable.isTrue h=>match decDTs l m with
   |Decidable.isTrue h'=>Decidable.isTrue (by rw[h,h'])
   |Decidable.isFalse h'=>Decidable.isFalse fun e=>h' (by injection e)
  |Decidable.isFalse h=>Decidable.isFalse fun e=>h (by injection e)
end
instance:DecidableEq DT:=FP
mutual
def DT.depth:DT->Nat
 |.k _=>0
 |.t l=>DT.depths l+1
 |.s l=>DT.depths l+1
def DT.depths:List DT->Nat
 |[]=>0
 |a::r=>max (DT.depth a) (DT.depths r)
end
mutual
def qN(h:Heap):DT->Value->Prop
 |.k a,v=>cN a v=true
 |.t l,v=>∃a items,v=.ref a/\h.IsTuple a items/\DAts h l items.toList
 |.s l,v=>∃a items,v=.ref a/\h.IsList a items/\DAts h l items.toList
def DAts(h:Heap):List DT->List Value->Prop
 |[],vs=>vs=[]
 |k::r,vs=>∃v us,vs=v::us/\qN h k v/\DAts h r us
end
theorem DAts.length{h:Heap}:∀{xs:List DT}{vs:Zf},DAts h xs vs->xs.length=vs.length
 |[],vs,e=>by have e':vs=[]:=e;rw[e'];rfl
 |x::xs,vs,e=>by
  obtain⟨v,us,rfl,_,h2⟩:=e;simp[DAts.length h2]
theorem DAts.get{h:Heap}:∀{xs:List DT}{vs:Zf}{i:Nat}{v:Value},DAts h xs vs->vs[i]?=some v->∃x,xs[i]?=some x/\qN h x v
 |[],vs,i,v,e,q=>by have e':vs=[]:=e;subst e';simp at q
 |x::xs,vs,i,v,e,q=>by
  obtain⟨u,us,rfl,h1,h2⟩:=e;cases i with
  |zero =>
   simp at q;subst q;exact⟨x,rfl,h1⟩
  |succ i =>
   obtain⟨y,e1,e2⟩:=DAts.get h2 (i:=i) (v:=v) (by simpa using q);exact⟨y,by simpa using e1,e2⟩
theorem DT.depths_get{l:List DT}{x:DT}{i d:Nat}(h:DT.depths l<=d)(e:l[i]?=some x):x.depth<=d:=by
 induction l generalizing i with
 |nil=>simp at e
 |cons a r ih =>
  have h':max a.depth (DT.depths r)<=d:=h;cases i with
  |zero=>simp at e;subst e;omega
  |succ i=>exact ih (by omega) (by simpa using e)
theorem zC{h:Heap}{a:Addr}{i j:Array Value}(x:h.IsList a i)(y:h.IsList a j):i=j:=by
 obtain⟨o,ho,_,n,hd⟩:=x;obtain⟨o',ho',_,n',hd'⟩:=y;rw[ho]at ho';cases ho';rw[hd]at hd';injection hd'
theorem xO{h:Heap}{a:Addr}{i j:Array Value}(x:h.IsTuple a i)(y:h.IsTuple a j):i=j:=by
 obtain⟨o,ho,_,n,hd⟩:=x;obtain⟨o',ho',_,n',hd'⟩:=y;rw[ho]at ho';cases ho';rw[hd]at hd';injection hd'
theorem jn{h:Heap}{a:Addr}{i j:Array Value}(x:h.IsList a i)(y:h.IsTuple a j):False:=by
 obtain⟨o,ho,hc,_⟩:=x;obtain⟨o',ho',hc',_⟩:=y;rw[ho]at ho';cases ho';rw[hc]at hc';simp at hc'
theorem uC{a b:em}{v:Value}(h1:cN a v=true)(h2:cN b v=true):a=b:=by
 rcases aw h1 with⟨i,t,rfl,rfl⟩|⟨i,t,rfl,rfl⟩
 ·rcases aw h2 with⟨j,u,rfl,e⟩|⟨j,u,rfl,e⟩
  ·cases e;rfl
  ·cases e
 ·rcases aw h2 with⟨j,u,rfl,e⟩|⟨j,u,rfl,e⟩
  ·cases e
  ·cases e;rfl
theorem ie{a:em}{b:Addr}(h:cN a (.ref b)=true):False:=by
 rcases aw h with⟨_,_,_,e⟩|⟨_,_,_,e⟩<;>cases e
theorem qN.inj{h:Heap}:∀(d:Nat) {x y:DT}{v:Value},x.depth<=d->qN h x v->qN h y v->x=y:=by
 have key:∀(d:Nat) (ih:∀{x y:DT}{v:Value},x.depth<=d->qN h x v->qN h y v->x=y) (xs ys:List DT) (vs:Zf),DT.depths xs<=d->DAts h xs vs->DAts h ys vs->xs=ys:=by
  intro d ih xs
  induction xs with
  |nil =>
   intro ys vs _ hx hy;have hx':vs=[]:=hx;subst hx';cases ys with
   |nil=>rfl
   |cons y ys=>obtain⟨_,_,e,_⟩:=hy;cases e
  |cons x xs ihl =>
   intro ys vs hd hx hy;obtain⟨v,us,rfl,hx1,hx2⟩:=hx;cases ys with
   |nil=>have hy':v::us=[]:=hy;cases hy'
   |cons y ys =>
    obtain⟨v',us',e,hy1,hy2⟩:=hy;cases e;have hd':max x.depth (DT.depths xs)<=d:=hd;rw[ih (by omega) hx1 hy1,ihl ys us (by omega) hx2 hy2]
 intro d
 induction d with
 |zero =>
  intro x y v hd hx hy;cases x with
  |t l=>exact absurd hd (by show ¬(DT.depths l+1<=0);omega)
  |s l=>exact absurd hd (by show ¬(DT.depths l+1<=0);omega)
  |k a =>
   cases y with
   |k b=>rw[uC hx hy]
   |t l=>obtain⟨b,_,rfl,_⟩:=hy;exact(ie hx).elim
   |s l=>obtain⟨b,_,rfl,_⟩:=hy;exact(ie hx).elim
 |succ d ih =>
  intro x y v hd hx hy;cases x with
  |k a =>
   cases y with
   |k b=>rw[uC hx hy]
   |t l=>obtain⟨b,_,rfl,_⟩:=hy;exact(ie hx).elim
   |s l=>obtain⟨b,_,rfl,_⟩:=hy;exact(ie hx).elim
  |t l =>
   obtain⟨a,i,rfl,hi,hx⟩:=hx;cases y with
   |k b=>exact(ie hy).elim
   |t m =>
    obtain⟨a',j,e,hj,hy⟩:=hy;cases e;rw[xO hj hi]at hy;rw[key d (fun h1=>ih h1) l m i.toList (by have:DT.depths l+1<=d+1:=hd;omega) hx hy]
   |s m =>
    obtain⟨a',j,e,hj,hy⟩:=hy;cases e;exact(jn hj hi).elim
  |s l =>
   obtain⟨a,i,rfl,hi,hx⟩:=hx;cases y with
   |k b=>exact(ie hy).elim
   |s m =>
    obtain⟨a',j,e,hj,hy⟩:=hy;cases e;rw[zC hj hi]at hy;rw[key d (fun h1=>ih h1) l m i.toList (by have:DT.depths l+1<=d+1:=hd;omega) hx hy]
   |t m =>
    obtain⟨a',j,e,hj,hy⟩:=hy;cases e;exact(jn hi hj).elim
theorem fS{l m:List DT}(hl:l.length=m.length):((lZ l.length).all fun j=>decide (l[j]?=m[j]?))=decide (l=m):=by
 by_cases e:l=m
 ·subst e;simp
 ·rw[zzr0 e];rw[List.all_eq_false];apply Classical.byContradiction;intro h;apply e;apply List.ext_getElem?;intro i;by_cases hi:i<l.length
  ·apply Classical.byContradiction;intro hne;exact h ⟨i,List.mem_range.mpr hi,by simpa using hne⟩
  ·rw[List.getElem?_eq_none (by omega),List.getElem?_eq_none (by omega)]
section
variable{s:Shared}
theorem FL:∀(d:Nat) {A:Around}{x y:DT}{u v:Value},x.depth<=d->y.depth<=d->A.units+d<cLine->qN s.heap x u->qN s.heap y v->bb A s u v (decide (x=y)):=by
 have leaves:∀{A:Around}{a b:em}{u v:Value},cN a u=true->cN b v=true->bb A s u v (decide (DT.k a=DT.k b)):=by
  intro A a b u v h1 h2;have hd:decide (DT.k a=DT.k b)=decide (a=b):=by
   by_cases e:a=b
   ·subst e;simp
   ·have:¬(DT.k a=DT.k b):=fun z=>e (by injection z);rw[zzr0 this,zzr0 e]
  rw[hd];rcases aw h1 with⟨i,t,rfl,rfl⟩|⟨i,t,rfl,rfl⟩
  ·rcases aw h2 with⟨j,u,rfl,rfl⟩|⟨j,u,rfl,rfl⟩
   ·rw[wl];exact bb.int_int i t j u
   ·rw[wk];exact bb.int_str i t j u
  ·rcases aw h2 with⟨j,u,rfl,rfl⟩|⟨j,u,rfl,rfl⟩
   ·rw[wg];exact bb.str_int i t j u
   ·rw[wf];have:=bb.str_str (A:=A) (s:=s) i t j u;rwa[show(i==j)=decide (i=j)from by by_cases e:i=j<;>simp[e]]at this
 have kt:∀{A:Around}{a:em}{u:Value}{b:Addr}{items:Array Value},A.units<cLine->cN a u=true->s.heap.IsTuple b items->bb A s u (.ref b) false/\bb A s (.ref b) u false:=by
  intro A a u b items hu h1 ht;rcases aw h1 with⟨i,t,rfl,rfl⟩|⟨i,t,rfl,rfl⟩
  ·exact⟨bb.int_tuple i t ht hu,bb.tuple_int i t ht hu⟩
  ·exact⟨bb.str_tuple i t ht hu,bb.tuple_str i t ht hu⟩
 have kl:∀{A:Around}{a:em}{u:Value}{b:Addr}{items:Array Value},A.units<cLine->cN a u=true->s.heap.IsList b items->bb A s u (.ref b) false/\bb A s (.ref b) u false:=by
  intro A a u b items hu h1 ht;rcases aw h1 with⟨i,t,rfl,rfl⟩|⟨i,t,rfl,rfl⟩
  ·exact⟨bb.int_list i t ht hu,bb.list_int i t ht hu⟩
  ·exact⟨bb.str_list i t ht hu,bb.list_str i t ht hu⟩
 intro d
 induction d with
 |zero =>
  intro A x y u v hdx hdy hu hx hy;cases x with
  |t l=>exact absurd hdx (by show ¬(DT.depths l+1<=0);omega)
  |s l=>exact absurd hdx (by show ¬(DT.depths l+1<=0);omega)
  |k a =>
   cases y with
   |t l=>exact absurd hdy (by show ¬(DT.depths l+1<=0);omega)
   |s l=>exact absurd hdy (by show ¬(DT.depths l+1<=0);omega)
   |k b=>exact leaves hx hy
 |succ d ih =>
  intro A x y u v hdx hdy hu hx hy;have items:∀{l m:List DT}{i j:Array Value},DT.depths l<=d->DT.depths m<=d->DAts s.heap l i.toList->DAts s.heap m j.toList->∀n (h1:n<i.size) (h2:n<j.size),bb A.in1 s i[n] j[n] (decide (l[n]?=m[n]?)):=by
   intro l m i j hl hm hi hj n h1 h2;obtain⟨x,ex,hx⟩:=hi.get (i:=n) (v:=i[n]) (by simp[h1]);obtain⟨y,ey,hy⟩:=hj.get (i:=n) (v:=j[n]) (by simp[h2]);rw[ex,ey];have hd:decide ((some x:Option DT)=some y)=decide (x=y):=by
    by_cases e:x=y
    ·subst e;simp
    ·rw[zzr0 e,zzr0 fun z=>e (eD z)]
   rw[hd];exact ih (DT.depths_get hl ex) (DT.depths_get hm ey) (by show A.units+1+d<cLine;omega) hx hy
  cases x with
  |k a =>
   cases y with
   |k b=>exact leaves hx hy
   |t l =>
    obtain⟨b,i,rfl,hi,_⟩:=hy;rw[zzr0 (by intro z;cases z)];exact(kt (by omega) hx hi).1
   |s l =>
    obtain⟨b,i,rfl,hi,_⟩:=hy;rw[zzr0 (by intro z;cases z)];exact(kl (by omega) hx hi).1
  |t l =>
   have hl:DT.depths l<=d:=by have:DT.depths l+1<=d+1:=hdx;omega
   have hx0:=hx;obtain⟨a,i,rfl,hi,hx⟩:=hx;cases y with
   |k b =>
    rw[zzr0 (by intro z;cases z)];exact(kt (by omega) hy hi).2
   |s m =>
    obtain⟨b,j,rfl,hj,_⟩:=hy;rw[zzr0 (by intro z;cases z)];exact bb.tuple_list hi hj (by omega)
   |t m =>
    have hm:DT.depths m<=d:=by have:DT.depths m+1<=d+1:=hdy;omega
    have hy0:=hy;obtain⟨b,j,rfl,hj,hy⟩:=hy;by_cases hab:a=b
    ·subst hab;have e:DT.t l=DT.t m:=qN.inj _ (aA _) hx0 hy0;rw[zzr1 e];exact bb.same _
    ·have r:=SeqAt.RcAt.tuples (A:=A) hi hj (by omega) (items hl hm hx hy);have li:=hx.length;have lj:=hy.length;simp only[lY]at li lj;have q:((lZ (min i.size j.size)).all (fun n=>decide (l[n]?=m[n]?)) && i.size==j.size)=decide (DT.t l=DT.t m):=by
      by_cases e:l.length=m.length
      ·have e1:i.size=j.size:=by omega
       rw[<-e1,Nat.min_self,<-li,fS e];by_cases e2:l=m
       ·subst e2;simp
       ·have:¬(DT.t l=DT.t m):=fun z=>e2 (by injection z);rw[zzr0 this,zzr0 e2];rfl
      ·have e1:(i.size==j.size)=false:=by simp;omega
       have:¬(DT.t l=DT.t m):=fun z=>e (by injection z with z;rw[z]);rw[e1,zzr0 this,vm]
     rw[q]at r;exact .of_refs hab r
  |s l =>
   have hl:DT.depths l<=d:=by have:DT.depths l+1<=d+1:=hdx;omega
   have hx0:=hx;obtain⟨a,i,rfl,hi,hx⟩:=hx;cases y with
   |k b =>
    rw[zzr0 (by intro z;cases z)];exact(kl (by omega) hy hi).2
   |t m =>
    obtain⟨b,j,rfl,hj,_⟩:=hy;rw[zzr0 (by intro z;cases z)];exact bb.list_tuple hi hj (by omega)
   |s m =>
    have hm:DT.depths m<=d:=by have:DT.depths m+1<=d+1:=hdy;omega
    have hy0:=hy;obtain⟨b,j,rfl,hj,hy⟩:=hy;by_cases hab:a=b
    ·subst hab;have e:DT.s l=DT.s m:=qN.inj _ (aA _) hx0 hy0;rw[zzr1 e];exact bb.same _
    ·have li:=hx.length;have lj:=hy.length;simp only[lY]at li lj;by_cases e:l.length=m.length
     ·have r:=SeqAt.RcAt.lists (A:=A) hi hj (by omega) (by omega) (items hl hm hx hy);rw[<-li,fS e]at r;have q:decide (l=m)=decide (DT.s l=DT.s m):=by
       by_cases e2:l=m
       ·subst e2;simp
       ·have:¬(DT.s l=DT.s m):=fun z=>e2 (by injection z);rw[zzr0 this,zzr0 e2]
      rw[q]at r;exact .of_refs hab r
     ·have:¬(DT.s l=DT.s m):=fun z=>e (by injection z with z;rw[z]);rw[zzr0 this];exact .of_refs hab (SeqAt.RcAt.lists_lengths hi hj (by simp;omega) (by omega))
end
theorem AR(a b:em):decide (DT.k a=DT.k b)=decide (a=b):=by
 by_cases e:a=b
 ·subst e;simp
 ·rw[zzr0 e,zzr0 fun z=>e (by injection z)]
theorem FM(l m:List DT):decide (DT.t l=DT.t m)=decide (l=m):=by
 by_cases e:l=m
 ·subst e;simp
 ·rw[zzr0 e,zzr0 fun z=>e (by injection z)]
theorem FN(l m:List DT):decide (DT.s l=DT.s m)=decide (l=m):=by
 by_cases e:l=m
 ·subst e;simp
 ·rw[zzr0 e,zzr0 fun z=>e (by injection z)]
theorem DP(x y:DT):decide ((some x:Option DT)=some y)=decide (x=y):=by
 by_cases e:x=y
 ·subst e;simp
 ·rw[zzr0 e,zzr0 fun z=>e (eD z)]
section
variable{A:Around}{s:Shared}
theorem og{d:Nat}(hu:A.units+1+d<cLine){l m:List DT}{i j:Array Value}(hl:DT.depths l<=d)(hm:DT.depths m<=d)(hi:DAts s.heap l i.toList)(hj:DAts s.heap m j.toList):
  ∀n (h1:n<i.size) (h2:n<j.size),bb A.in1 s i[n] j[n] (decide (l[n]?=m[n]?)):=by
 intro n h1 h2;obtain⟨x,ex,hx⟩:=hi.get (i:=n) (v:=i[n]) (by simp[h1]);obtain⟨y,ey,hy⟩:=hj.get (i:=n) (v:=j[n]) (by simp[h2]);rw[ex,ey,DP];exact FL d (DT.depths_get hl ex) (DT.depths_get hm ey) hu hx hy
theorem Aj{l m:List DT}{i j:Array Value}(hi:DAts s.heap l i.toList)(hj:DAts s.heap m j.toList):((lZ (min i.size j.size)).all (fun n=>decide (l[n]?=m[n]?)) && i.size==j.size)=decide (l=m):=by
 have li:=hi.length;have lj:=hj.length;simp only[lY]at li lj;by_cases e:l.length=m.length
 ·have e1:i.size=j.size:=by omega
  rw[<-e1,Nat.min_self,<-li,fS e];simp
 ·have e1:(i.size==j.size)=false:=by simp;omega
  rw[e1,zzr0 fun z=>e (by rw[z]),vm]
theorem GZ{x y:DT}{u v:Value}(dx:x.depth<=8)(dy:y.depth<=8)(hu:A.units+16<cLine)(hx:qN s.heap x u)(hy:qN s.heap y v):SeqAt.RcAt A s u v (decide (x=y)):=by
 cases x with
 |k a =>
  rcases aw (show cN a u=true from hx)with⟨i,t,rfl,rfl⟩|⟨i,t,rfl,rfl⟩
  ·cases y with
   |k b =>
    rw[AR];rcases aw (show cN b v=true from hy)with⟨j,t',rfl,rfl⟩|⟨j,t',rfl,rfl⟩
    ·rw[wl];exact SeqAt.RcAt.int_int i t j t'
    ·rw[wk];exact SeqAt.RcAt.int_str i t j t'
   |t m=>obtain⟨b,j,rfl,hj,_⟩:=hy;rw[zzr0 (by intro z;cases z)];exact SeqAt.RcAt.int_tuple i t hj (by omega)
   |s m=>obtain⟨b,j,rfl,hj,_⟩:=hy;rw[zzr0 (by intro z;cases z)];exact SeqAt.RcAt.int_list i t hj (by omega)
  ·cases y with
   |k b =>
    rw[AR];rcases aw (show cN b v=true from hy)with⟨j,t',rfl,rfl⟩|⟨j,t',rfl,rfl⟩
    ·rw[wg];exact SeqAt.RcAt.str_int i t j t'
    ·rw[wf];have:=SeqAt.RcAt.str_str (A:=A) (s:=s) i t j t';rwa[show(i==j)=decide (i=j)from by by_cases e:i=j<;>simp[e]]at this
   |t m=>obtain⟨b,j,rfl,hj,_⟩:=hy;rw[zzr0 (by intro z;cases z)];exact SeqAt.RcAt.str_tuple i t hj (by omega)
   |s m=>obtain⟨b,j,rfl,hj,_⟩:=hy;rw[zzr0 (by intro z;cases z)];exact SeqAt.RcAt.str_list i t hj (by omega)
 |t l =>
  obtain⟨a,i,rfl,hi,hx⟩:=hx;have dl:DT.depths l<=7:=by have:DT.depths l+1<=8:=dx;omega
  cases y with
  |k b =>
   rw[zzr0 (by intro z;cases z)];rcases aw (show cN b v=true from hy)with⟨j,t',rfl,rfl⟩|⟨j,t',rfl,rfl⟩
   ·exact SeqAt.RcAt.tuple_int j t' hi (by omega)
   ·exact SeqAt.RcAt.tuple_str j t' hi (by omega)
  |t m =>
   obtain⟨b,j,rfl,hj,hy⟩:=hy;have dm:DT.depths m<=7:=by have:DT.depths m+1<=8:=dy;omega
   have r:=SeqAt.RcAt.tuples (A:=A) hi hj (by omega) (og (by omega) dl dm hx hy);rw[Aj hx hy]at r;rw[FM];exact r
  |s m=>obtain⟨b,j,rfl,hj,_⟩:=hy;rw[zzr0 (by intro z;cases z)];exact SeqAt.RcAt.tuple_list hi hj (by omega)
 |s l =>
  obtain⟨a,i,rfl,hi,hx⟩:=hx;have dl:DT.depths l<=7:=by have:DT.depths l+1<=8:=dx;omega
  cases y with
  |k b =>
   rw[zzr0 (by intro z;cases z)];rcases aw (show cN b v=true from hy)with⟨j,t',rfl,rfl⟩|⟨j,t',rfl,rfl⟩
   ·exact SeqAt.RcAt.list_int j t' hi (by omega)
   ·exact SeqAt.RcAt.list_str j t' hi (by omega)
  |t m=>obtain⟨b,j,rfl,hj,_⟩:=hy;rw[zzr0 (by intro z;cases z)];exact SeqAt.RcAt.list_tuple hi hj (by omega)
  |s m =>
   obtain⟨b,j,rfl,hj,hy⟩:=hy;have dm:DT.depths m<=7:=by have:DT.depths m+1<=8:=dy;omega
   have li:=hx.length;have lj:=hy.length;simp only[lY]at li lj;rw[FN];by_cases e:l.length=m.length
   ·have r:=SeqAt.RcAt.lists (A:=A) hi hj (by omega) (by omega) (og (by omega) dl dm hx hy);rw[<-li,fS e]at r;exact r
   ·rw[zzr0 fun z=>e (by rw[z])];exact SeqAt.RcAt.lists_lengths hi hj (by simp;omega) (by omega)
theorem G0{x y:DT}{u v:Value}(dx:x.depth<=8)(dy:y.depth<=8)(hu:A.units+16<cLine)(hx:qN s.heap x u)(hy:qN s.heap y v):SeqAt.RcNeAt A s u v (!decide (x=y)):=by
 cases x with
 |k a =>
  rcases aw (show cN a u=true from hx)with⟨i,t,rfl,rfl⟩|⟨i,t,rfl,rfl⟩
  ·cases y with
   |k b =>
    rw[AR];rcases aw (show cN b v=true from hy)with⟨j,t',rfl,rfl⟩|⟨j,t',rfl,rfl⟩
    ·rw[wl];exact SeqAt.RcNeAt.int_int i t j t'
    ·rw[wk];exact SeqAt.RcNeAt.int_str i t j t'
   |t m=>obtain⟨b,j,rfl,hj,_⟩:=hy;rw[zzr0 (by intro z;cases z)];exact SeqAt.RcNeAt.int_tuple i t hj (by omega)
   |s m=>obtain⟨b,j,rfl,hj,_⟩:=hy;rw[zzr0 (by intro z;cases z)];exact SeqAt.RcNeAt.int_list i t hj (by omega)
  ·cases y with
   |k b =>
    rw[AR];rcases aw (show cN b v=true from hy)with⟨j,t',rfl,rfl⟩|⟨j,t',rfl,rfl⟩
    ·rw[wg];exact SeqAt.RcNeAt.str_int i t j t'
    ·rw[wf];have:=SeqAt.RcNeAt.str_str (A:=A) (s:=s) i t j t';rwa[show(i==j)=decide (i=j)from by by_cases e:i=j<;>simp[e]]at this
   |t m=>obtain⟨b,j,rfl,hj,_⟩:=hy;rw[zzr0 (by intro z;cases z)];exact SeqAt.RcNeAt.str_tuple i t hj (by omega)
   |s m=>obtain⟨b,j,rfl,hj,_⟩:=hy;rw[zzr0 (by intro z;cases z)];exact SeqAt.RcNeAt.str_list i t hj (by omega)
 |t l =>
  obtain⟨a,i,rfl,hi,hx⟩:=hx;have dl:DT.depths l<=7:=by have:DT.depths l+1<=8:=dx;omega
  cases y with
  |k b =>
   rw[zzr0 (by intro z;cases z)];rcases aw (show cN b v=true from hy)with⟨j,t',rfl,rfl⟩|⟨j,t',rfl,rfl⟩
   ·exact SeqAt.RcNeAt.tuple_int j t' hi (by omega)
   ·exact SeqAt.RcNeAt.tuple_str j t' hi (by omega)
  |t m =>
   obtain⟨b,j,rfl,hj,hy⟩:=hy;have dm:DT.depths m<=7:=by have:DT.depths m+1<=8:=dy;omega
   have r:=SeqAt.RcNeAt.tuples (A:=A) hi hj (by omega) (og (by omega) dl dm hx hy);rw[Aj hx hy]at r;rw[FM];exact r
  |s m=>obtain⟨b,j,rfl,hj,_⟩:=hy;rw[zzr0 (by intro z;cases z)];exact SeqAt.RcNeAt.tuple_list hi hj (by omega)
 |s l =>
  obtain⟨a,i,rfl,hi,hx⟩:=hx;have dl:DT.depths l<=7:=by have:DT.depths l+1<=8:=dx;omega
  cases y with
  |k b =>
   rw[zzr0 (by intro z;cases z)];rcases aw (show cN b v=true from hy)with⟨j,t',rfl,rfl⟩|⟨j,t',rfl,rfl⟩
   ·exact SeqAt.RcNeAt.list_int j t' hi (by omega)
   ·exact SeqAt.RcNeAt.list_str j t' hi (by omega)
  |t m=>obtain⟨b,j,rfl,hj,_⟩:=hy;rw[zzr0 (by intro z;cases z)];exact SeqAt.RcNeAt.list_tuple hi hj (by omega)
  |s m =>
   obtain⟨b,j,rfl,hj,hy⟩:=hy;have dm:DT.depths m<=7:=by have:DT.depths m+1<=8:=dy;omega
   have li:=hx.length;have lj:=hy.length;simp only[lY]at li lj;rw[FN];by_cases e:l.length=m.length
   ·have r:=SeqAt.RcNeAt.lists (A:=A) hi hj (by omega) (by omega) (og (by omega) dl dm hx hy);rw[<-li,fS e]at r;exact r
   ·rw[zzr0 fun z=>e (by rw[z])];exact SeqAt.RcNeAt.lists_lengths hi hj (by simp;omega) (by omega)
end
mutual
def ni(K:Za)(H:Hp):DT->V->Prop
 |.k a,v=>v=kV a
 |.t l,v=>∃b xs,v=.ref b/\bA K H b xs/\DIns K H l xs
 |.s l,v=>∃b xs,v=.ref b/\ax K H b xs/\DIns K H l xs
def DIns(K:Za)(H:Hp):List DT->List V->Prop
 |[],vs=>vs=[]
 |k::r,vs=>∃v us,vs=v::us/\ni K H k v/\DIns K H r us
end
section
variable{X:Cx}{J2:Zd}{σ:St}{H:Hp}{s:Shared}
theorem mN(I:Inv X J2 σ H s):∀(d:Nat) {k:DT}{v:V}{u:Value},k.depth<=d->ni X.K H k v->RelV v u->qN s.heap k u:=by
 have key:∀(d:Nat) (ih:∀{k:DT}{v:V}{u:Value},k.depth<=d->ni X.K H k v->RelV v u->qN s.heap k u) (ks:List DT) (vs:List V) (us:Zf),DT.depths ks<=d->DIns X.K H ks vs->ba vs us->DAts s.heap ks us:=by
  intro d ih ks
  induction ks with
  |nil =>
   intro vs us _ hx r;have e:vs=[]:=hx;subst e;cases r
   rfl
  |cons k ks ihl =>
   intro vs us hd hx r;obtain⟨v,vs',rfl,h1,h2⟩:=hx;cases r with
   |@cons _ u _ us' r1 r2 =>
    have hd':max k.depth (DT.depths ks)<=d:=hd;exact⟨u,us',rfl,ih (by omega) h1 r1,ihl vs' us' (by omega) h2 r2⟩
 intro d
 induction d with
 |zero =>
  intro k v u hd hx r;cases k with
  |t l=>exact absurd hd (by show ¬(DT.depths l+1<=0);omega)
  |s l=>exact absurd hd (by show ¬(DT.depths l+1<=0);omega)
  |k b =>
   have e:v=kV b:=hx;subst e;exact nZ (P:=X.prog) (w:=X.w) r
 |succ d ih =>
  intro k v u hd hx r;cases k with
  |k b =>
   have e:v=kV b:=hx;subst e;exact nZ (P:=X.prog) (w:=X.w) r
  |t l =>
   obtain⟨b,xs,rfl,hb,hi⟩:=hx;cases(show u=Value.ref b from r);obtain⟨its,rv,ht,_⟩:=I.tuple hb;exact⟨b,its.toArray,rfl,ht,by simpa using key d (fun h1=>ih h1) l xs its (by have:DT.depths l+1<=d+1:=hd;omega) hi rv⟩
  |s l =>
   obtain⟨b,xs,rfl,hb,hi⟩:=hx;cases(show u=Value.ref b from r);obtain⟨its,rv,ht,_⟩:=I.list hb;exact⟨b,its.toArray,rfl,ht.isList,by simpa using key d (fun h1=>ih h1) l xs its (by have:DT.depths l+1<=d+1:=hd;omega) hi rv⟩
theorem oj(I:Inv X J2 σ H s):∀{ks:List DT}{vs:List V}{us:Zf},DT.depths ks<=8->DIns X.K H ks vs->ba vs us->DAts s.heap ks us
 |[],vs,us,_,hx,r=>by
  have e:vs=[]:=hx;subst e;cases r
  rfl
 |k::ks,vs,us,hd,hx,r=>by
  obtain⟨v,vs',rfl,h1,h2⟩:=hx;cases r with
  |@cons _ u _ us' r1 r2 =>
   have hd':max k.depth (DT.depths ks)<=8:=hd;exact⟨u,us',rfl,mN I 8 (by omega) h1 r1,oj I (by omega) h2 r2⟩
end
def o6(K:Za):R2:=fun x y H Q=>∃d e:DT,ni K H d x/\ni K H e y/\d.depth<=8/\e.depth<=8/\Q (.bl (decide (d=e))) H
def xy(K:Za):R2:=fun x y H Q=>∃d e:DT,ni K H d x/\ni K H e y/\d.depth<=8/\e.depth<=8/\Q (.bl (!decide (d=e))) H
section
variable{X:Cx}
theorem iW(hu:X.A.units+16<cLine):mS X (eL .Eq) (o6 X.K):=by
 intro J2 s σ H x y v u Q I rx ry h;obtain⟨d,e,hx,hy,dx,dy,q⟩:=h;exact GZ dx dy hu (mN I 8 dx hx rx) (mN I 8 dy hy ry) X.prog X.w X.xe _ ⟨.bl _,H,I,rfl,q⟩
theorem sr(hu:X.A.units+16<cLine):mS X (eL .NotEq) (xy X.K):=by
 intro J2 s σ H x y v u Q I rx ry h;obtain⟨d,e,hx,hy,dx,dy,q⟩:=h;exact G0 dx dy hu (mN I 8 dx hx rx) (mN I 8 dy hy ry) X.prog X.w X.xe _ ⟨.bl _,H,I,rfl,q⟩
def nS(K:Za)(neg:Bool):R2:=fun x y H Q=>∃(d:DT) (ds:List DT) (p:Addr) (xs:List V),ni K H d x/\y=.ref p/\(ax K H p xs∨bA K H p xs)/\DIns K H ds xs/\d.depth<=8/\DT.depths ds<=8/\Q (.bl (if neg then !decide (d∈ds)else decide (d∈ds))) H
open Classical in
theorem oq{h:Heap}{d:DT}(d8:d.depth<=8):∀{ds:List DT}{us:Zf},DAts h ds us->DT.depths ds<=8->us.any (fun u=>@decide (qN h d u) (propDecidable _))=decide (d∈ds)
 |[],us,e,_=>by
  have e':us=[]:=e;subst e'
  rfl
 |x::ds,us,e,hd=>by
  obtain⟨u,us',rfl,h1,h2⟩:=e;have hd':max x.depth (DT.depths ds)<=8:=hd;rw[oK,oq d8 h2 (by omega)];by_cases q:d=x
  ·subst q;simp[h1]
  ·have n:¬qN h d u:=fun z=>q (qN.inj 8 d8 z h1);simp[n,q]
open Classical in
theorem sC{A:Around}{s:Shared}{d:DT}{v:Value}(d8:d.depth<=8)(hu:A.units+8<cLine)(hd:qN s.heap d v):∀{ds:List DT}{us:Zf},DAts s.heap ds us->DT.depths ds<=8->∀u∈us,bb A s u v (@decide (qN s.heap d u) (propDecidable _))
 |[],us,e,_,u,hm=>by
  have e':us=[]:=e;subst e';cases hm
 |x::ds,us,e,h8,u,hm=>by
  obtain⟨u',us',rfl,h1,h2⟩:=e;have h8':max x.depth (DT.depths ds)<=8:=h8;rcases cA.mp hm with rfl|hm
  ·have q:=FL 8 (A:=A) (by omega) d8 hu h1 hd;by_cases z:x=d
   ·subst z;rw[zzr1 h1];rwa[zzr1 rfl]at q
   ·have n:¬qN s.heap d u:=fun w=>z (qN.inj 8 d8 w h1).symm;rw[zzr0 n];rwa[zzr0 z]at q
  ·exact sC d8 hu hd h2 (by omega) u hm
theorem v8(hu:X.A.units+16<cLine):mS X (eL .In) (nS X.K false):=by
 intro J2 s σ H x y v u Q I rx ry h;obtain⟨d,ds,p,xs,hx,rfl,hq,hds,d8,ds8,q⟩:=h;cases ry;have hd:=mN I 8 d8 hx rx;have hu':X.A.in1.units+8<cLine:=by show X.A.units+1+8<cLine;omega
 rcases hq with hq|hq
 ·obtain⟨its,r,pl,hz⟩:=I.list hq;have hi:=oj I ds8 hds r;refine SeqAt.in_listAt _ pl.isList (fun w hw=>sC d8 hu' hd hi ds8 w (by simpa using hw)) ⟨.bl _,H,I,rfl,?_⟩;rw[u8,oq d8 hi ds8];exact q
 ·obtain⟨its,r,pl,hz⟩:=I.tuple hq;have hi:=oj I ds8 hds r;refine SeqAt.in_tupleAt _ pl (fun w hw=>sC d8 hu' hd hi ds8 w (by simpa using hw)) ⟨.bl _,H,I,rfl,?_⟩;rw[u8,oq d8 hi ds8];exact q
theorem jk(hu:X.A.units+16<cLine):mS X (eL .NotIn) (nS X.K true):=by
 intro J2 s σ H x y v u Q I rx ry h;obtain⟨d,ds,p,xs,hx,rfl,hq,hds,d8,ds8,q⟩:=h;cases ry;have hd:=mN I 8 d8 hx rx;have hu':X.A.in1.units+8<cLine:=by show X.A.units+1+8<cLine;omega
 rcases hq with hq|hq
 ·obtain⟨its,r,pl,hz⟩:=I.list hq;have hi:=oj I ds8 hds r;refine SeqAt.notIn_listAt _ pl.isList (fun w hw=>sC d8 hu' hd hi ds8 w (by simpa using hw)) ⟨.bl _,H,I,rfl,?_⟩;rw[u8,oq d8 hi ds8];exact q
 ·obtain⟨its,r,pl,hz⟩:=I.tuple hq;have hi:=oj I ds8 hds r;refine SeqAt.notIn_tupleAt _ pl (fun w hw=>sC d8 hu' hd hi ds8 w (by simpa using hw)) ⟨.bl _,H,I,rfl,?_⟩;rw[u8,oq d8 hi ds8];exact q
end
def sN(z:Str)(lo hi:Option Int):Str:=⟨((z.cps.toList.drop (HT.sIx z.length 0 lo)).take (HT.sIx z.length z.length hi-HT.sIx z.length 0 lo)).toArray⟩
theorem sliceRange_one(a b:Nat):sliceRange (a:Int) (b:Int) 1=(lZ (b-a)).map (fun k=>a+k):=by
 unfold sliceRange;simp only[show(1:Int) > 0 from by decide,if_true];by_cases h:(a:Int)<(b:Int)
 ·have e:(if(a:Int)<(b:Int)then((b:Int)-a+1-1) / 1 else 0).toNat=b-a:=by rw[if_pos h];omega
  rw[e];exact List.map_congr_left fun k _=>by omega
 ·have e:(if(a:Int)<(b:Int)then((b:Int)-a+1-1) / 1 else 0).toNat=b-a:=by rw[if_neg h];omega
  rw[e];exact List.map_congr_left fun k _=>by omega
theorem xZ(v:Option Int)(n d:Nat):(match v with|none=>(d:Int)|some i=>max 0 (min (if i<0 then i+(n:Int)else i) (n:Int)))=((HT.sIx n d v:Nat):Int):=by
 cases v with
 |none=>rfl
 |some i =>
  rw[<-HT.clip_eq i n d];dsimp only;by_cases h:i<0
  ·rw[if_pos h,if_pos h];omega
  ·rw[if_neg h,if_neg h];omega
theorem nO(lo hi:Option Int)(n:Nat):qX lo hi 1 n=(lZ (HT.sIx n n hi-HT.sIx n 0 lo)).map (fun k=>HT.sIx n 0 lo+k):=by
 have e1:=xZ lo n 0;have e2:=xZ hi n n;rw[<-sliceRange_one,<-e1,<-e2];unfold qX;simp only[show(1:Int) > 0 from by decide,if_true];cases lo<;>cases hi<;>rfl
theorem Bm(z:Str)(lo hi:Option Int):Txt.slice z lo hi=sN z lo hi:=by
 have ha:HT.sIx z.length 0 lo<=z.length:=HT.sIx_le _ _ (eK _) _;have hb:HT.sIx z.length z.length hi<=z.length:=HT.sIx_le _ _ (aA _) _;have hlen:z.cps.toList.length=z.length:=by simp[Str.length]
 have pick:(qX lo hi 1 z.length).filterMap (z.cps[·]?)=(z.cps.toList.drop (HT.sIx z.length 0 lo)).take (HT.sIx z.length z.length hi-HT.sIx z.length 0 lo):=by
  rw[nO];generalize HT.sIx z.length 0 lo=a at *;generalize HT.sIx z.length z.length hi=b at *;have h:=StrLaws.picks z.cps.toList (b-a) a (by omega);simpa using h
 unfold Txt.slice;by_cases h:((1:Int)==1 && (qX lo hi 1 z.length).length==z.length)=true
 ·rw[if_pos h];have hl:(qX lo hi 1 z.length).length=z.length:=by simpa using h
  rw[nO,ah,List.length_range]at hl;unfold sN;have a0:HT.sIx z.length 0 lo=0:=by omega
  have bn:HT.sIx z.length z.length hi-HT.sIx z.length 0 lo=z.cps.toList.length:=by omega
  rw[bn,a0,qW,aT]
 ·rw[if_neg h];unfold sN;rw[pick]
section
variable{X:Cx}
def EN:V->Option Int->Option Int->Hp->VK->Prop:=fun x lo hi H Q=>∃z,x=.str z/\z.length<=aj/\Q (.str (sN z lo hi)) H
theorem yV:SlR X EN:=by
 intro J2 s σ H x v vl vu lo hi sl Q I rx hs pl pu h;obtain⟨z,rfl,hz,q⟩:=h;obtain⟨t,rfl⟩:=rx;rw[<-Bm]at q;refine⟨"str",_,F.slot_str_getitem.lookup,typeIs_str _ _ _,?_⟩;obtain⟨o,ho,hc,hd⟩:=hs;have fin:∀(l u:Option (Int×Tok)),vl=partValue l->vu=partValue u->lo=l.map (·.1)->hi=u.map (·.1)->wpAny (model X.prog X.w) X.A (mr (.str z t) (.ref sl)) (EP X J2 σ Q) X.xe s:=by
  rintro l u rfl rfl rfl rfl;refine wpAny_getItem_str_slice (l:=l) (u:=u) (st:=none) ⟨o,ho,hc,hd⟩ rfl (post_val_or_str ⟨aD (Txt.slice_le z _ _) hz,fun t' k=>⟨.str _,H,I.tok _,⟨_,rfl⟩,q⟩⟩)
 cases pl with
 |none =>
  cases pu with
  |none=>exact fin none none rfl rfl rfl rfl
  |int j u=>exact fin none (some (j,u)) rfl rfl rfl rfl
 |int i t' =>
  cases pu with
  |none=>exact fin (some (i,t')) none rfl rfl rfl rfl
  |int j u=>exact fin (some (i,t')) (some (j,u)) rfl rfl rfl rfl
def FC(K:Za):V->List V->Hp->VK->Prop:=fun x vs H Q=>∃z p ys,x=.str z/\vs=[.ref p]/\ax K H p (ys.map V.str)/\(ys.map (·.length)).sum+ys.length * z.length<=16777216/\Q (.str (u7 z ys)) H
theorem Ey{ys:Zb}:∀{us:Zf},ba (ys.map V.str) us->StrsAre us ys:=by
 induction ys with
 |nil=>intro us r;cases r;exact .nil
 |cons y ys ih =>
  intro us r;cases r with
  |cons r1 r2 =>
   obtain⟨t,rfl⟩:=r1;exact .cons _ _ (ih r2)
theorem E_:Gz X "str.join" (FC X.K):=by
 intro J2 s σ H x vs v us Q I rx rv h;obtain⟨z,p,ys,rfl,rfl,hq,hz,q⟩:=h;obtain⟨t,rfl⟩:=rx;obtain⟨u,rfl,ru⟩:=rv.one;cases ru;obtain⟨its,r,pl,_⟩:=I.list hq;exact join_list pl.isList (by simpa using Ey r) hz fun t' k=>⟨.str _,H,I.tok _,⟨_,rfl⟩,q⟩
end
section
variable{X:Cx}
def TyX(K:Za)(H:Hp)(x:V)(t:Value):Prop:=mP K H x t∨(∃a xs,x=.ref a/\t=.type "tuple"/\bA K H a xs)∨(∃a xs,x=.ref a/\t=.type "list"/\ax K H a xs)
theorem zB{J2:Zd}{σ:St}{H:Hp}{s:Shared}{A:Around}{E:Zc}{Q:Zc}{c:Value}{b:Bool}{x:V}{u t:Value}(I:Inv X J2 σ H s)(rx:RelV x u)(ty:TyX X.K H x t)(e:z_ X.K t c=some b)(h:∀tk,Q (.bool b) { s with toks:=tk }):
  wpAny (model X.prog X.w) A (call (.builtin "isinstance") [u,c]) Q E s:=by
 rcases ty with ty|⟨a,xs,rfl,rfl,q⟩|⟨a,xs,rfl,rfl,q⟩
 ·exact BM I rx ty e h
 ·cases(show u=Value.ref a from rx);obtain⟨its,rv,p,hz⟩:=I.tuple q;obtain⟨o,h1,h2,_⟩:=p;exact i4 PySem.W.kitx_tuple I.kIn ⟨o,h1,h2⟩ e (fun z=>nomatch z) h
 ·cases(show u=Value.ref a from rx);obtain⟨its,rv,p,hz⟩:=I.list q;obtain⟨o,n,h1,h2,_⟩:=p;exact i4 PySem.W.kitx_list I.kIn ⟨o,h1,h2⟩ e (fun z=>nomatch z) h
theorem ya:fj X (.builtin "isinstance") (fun xs H Q=>∃x c t b,xs=[x,.ty c]/\TyX X.K H x t/\z_ X.K t (.type c)=some b/\Q (.bl b) H):=by
 intro J2 s σ H xs us Q I r h;obtain⟨x,c,t,b,rfl,ty,hk,q⟩:=h;obtain⟨u,v,rfl,ru,rv⟩:=vals2 r;cases(show v=Value.type c from rv);exact zB I ru ty hk fun tk=>⟨.bl b,H,I.tok _,rfl,q⟩
theorem DX{bs:List Bool}{us:Zf}(r:ba (bs.map V.bl) us){i:Nat}{v:Value}(h:us[i]?=some v):v=.bool ((bs[i]?).getD false)/\i<bs.length:=by
 have hi:i<us.length:=(bP.mp h).1;have hl:=r.length;rw[ah]at hl;have hb:i<bs.length:=by omega
 obtain⟨u,hu,ru⟩:=r.get (i:=i) (x:=V.bl bs[i]) (by simp[hb]);rw[h]at hu;cases hu;refine⟨?_,hb⟩;rw[iT hb];exact ru
theorem wD(bs:List Bool):((lZ bs.length).all fun i=>(bs[i]?).getD false)=bs.all id:=by
 induction bs with
 |nil=>rfl
 |cons b bs ih =>
  rw[fb,List.range_succ_eq_map,List.all_cons,List.all_map,List.all_cons,<-ih]
  rfl
theorem wC(bs:List Bool):((lZ bs.length).any fun i=>(bs[i]?).getD false)=bs.any id:=by
 induction bs with
 |nil=>rfl
 |cons b bs ih =>
  rw[fb,List.range_succ_eq_map,oK,List.any_map,oK,<-ih]
  rfl
theorem p6(hc:X.calm=true):fj X (.builtin "all") (fun xs H Q=>∃(p:Addr) (bs:List Bool),xs=[.ref p]/\ax X.K H p (bs.map V.bl)/\Q (.bl (bs.all id)) H):=by
 intro J2 s σ H xs us Q I r h;obtain⟨p,bs,rfl,hq,q⟩:=h;obtain⟨u,rfl,ru⟩:=vals1 r;cases ru;obtain⟨its,rv,pl,hz⟩:=I.list hq;obtain⟨o,n,ho,_⟩:=id pl;have hl:=rv.length;rw[ah]at hl;refine call_all_walk (wU pl.isList ?_);refine⟨s.heap.objs.size,_,_,_,_,_,fun i=>(bs[i]?).getD false,rfl,Walks.list (prog:=X.prog) (w:=X.w) (A:=X.A.in1) (I.ok.hd hc) s.heap.objs.size p (cE (aY ho)) its.toArray,⟨⟨_,cQ _ rfl,rfl,rfl⟩,pl.isList.push _⟩,?_,?_⟩
 ·intro i v s' Q' E' hv hq';obtain⟨e,_⟩:=DX rv (i:=i) (v:=v) (by simpa using hv);rw[e];exact pQ hq'
 ·intro h' tk hk;have I':Inv X J2 σ H { s with heap:=h',toks:=tk }:=I.kept fun b o e=>hk b o (by simp;exact cE (aY e)) (bv _ e);rw[bO,<-hl,wD];exact⟨.bl _,H,I',rfl,q⟩
theorem yb(hc:X.calm=true):fj X (.builtin "any") (fun xs H Q=>∃(p:Addr) (bs:List Bool),xs=[.ref p]/\ax X.K H p (bs.map V.bl)/\Q (.bl (bs.any id)) H):=by
 intro J2 s σ H xs us Q I r h;obtain⟨p,bs,rfl,hq,q⟩:=h;obtain⟨u,rfl,ru⟩:=vals1 r;cases ru;obtain⟨its,rv,pl,hz⟩:=I.list hq;obtain⟨o,n,ho,_⟩:=id pl;have hl:=rv.length;rw[ah]at hl;refine call_any_walk (wU pl.isList ?_);refine⟨s.heap.objs.size,_,_,_,_,_,fun i=>(bs[i]?).getD false,rfl,Walks.list (prog:=X.prog) (w:=X.w) (A:=X.A.in1) (I.ok.hd hc) s.heap.objs.size p (cE (aY ho)) its.toArray,⟨⟨_,cQ _ rfl,rfl,rfl⟩,pl.isList.push _⟩,?_,?_⟩
 ·intro i v s' Q' E' hv hq';obtain⟨e,_⟩:=DX rv (i:=i) (v:=v) (by simpa using hv);rw[e];exact pQ hq'
 ·intro h' tk hk;have I':Inv X J2 σ H { s with heap:=h',toks:=tk }:=I.kept fun b o e=>hk b o (by simp;exact cE (aY e)) (bv _ e);rw[bO,<-hl,wC];exact⟨.bl _,H,I',rfl,q⟩
theorem zh:mS X (eL .In) (fun x y H Q=>∃c j,x=.str ⟨#[c]⟩/\y=.str j/\Q (.bl (decide (c∈j.cps.toList))) H):=by
 intro J2 s σ H x y v u Q I rx ry h;obtain⟨c,j,rfl,rfl,q⟩:=h;rw[<-StrLaws.found_one]at q;exact BF J2 s σ H _ _ v u Q I rx ry ⟨_,_,rfl,rfl,q⟩
theorem sR(hc:X.calm=true):fj X (.type "list") (fun xs H Q=>∃(d:Addr) (kvs:List (em×V)),xs=[.ref d]/\Rd H d (.dK kvs)/\∀l,H l=none->Q (.ref l) (upd H l (.lst (kvs.map fun kv=>kV kv.1)))):=by
 intro J2 s σ H xs us Q I r h;obtain⟨d,kvs,rfl,hd,q⟩:=h;obtain⟨u,rfl,ru⟩:=vals1 r;cases ru;obtain⟨z,hsys,vs,rel,dd⟩:=oh I.hok hd;obtain⟨ep,hat⟩:=dd.dictAt;have hl:=rel.length;refine PySem.W.kdl_call (PySem.W.kdl_dict (knd:=cb X.prog X.w) (kvs:=vs) (ep:=ep) hsys) (I.ok.hd hc) hat (by rw[<-hl];exact z) fun h' tk acc c hk hD hacc=>?_;have hv:ba (kvs.map fun kv=>kV kv.1) acc.toList:=by
  obtain⟨hn,hP⟩:=hacc;have key:∀(a:Zf) (ks:List (em×V)) (ws:List (em×Value)),KV ks ws->a.length=ws.length->(∀(j:Nat) (v:Value),a[j]?=some v->∃k x,ws[j]?=some (k,x)/\(cb X.prog X.w).is k v=true)->ba (ks.map fun kv=>kV kv.1) a:=by
   intro a ks ws rl
   induction rl generalizing a with
   |nil=>intro ha _;cases a with
    |nil=>exact .nil
    |cons _ _=>cases ha
   |@cons p w' ps ws' hp _ ih =>
    intro ha hj;cases a with
    |nil=>cases ha
    |cons v a =>
     obtain⟨k,x,e,hk⟩:=hj 0 v rfl;have e':w'=(k,x):=by simpa using e
     refine .cons ?_ (ih a (by simpa using ha) fun j v hv=>by simpa using hj (j+1) v (by simpa using hv));have ek:p.1=k:=by rw[hp.1,e']
     show RelV (kV p.1) v;rw[ek];rcases aw (show cN k v=true from hk)with⟨i,t,rfl,rfl⟩|⟨i,t,rfl,rfl⟩
     ·exact⟨t,rfl⟩
     ·exact⟨t,rfl⟩
  exact key acc.toList kvs vs rel (by rw[lY];exact hn) fun j v hv=>hP j v (by rw[<-Array.getElem?_toList];exact hv)
 refine⟨.ref s.heap.objs.size,_,I.laid (o:=.lst (kvs.map fun kv=>kV kv.1)) hk (aA _) ⟨by rw[ah];exact z,acc.toList,c,hv,by rw[Array.toArray_toList];exact hD⟩,rfl,q _ I.fresh⟩
end
section
variable{prog:bM}{w:World}{K:Type}[DecidableEq K]{knd:HeapKind prog w K}{A:Around}{E:Zc}{s:Shared}
theorem rp{d a:Addr}{xs:List (K×Addr×Value)}{k:K}{v:Value}{Q:Zc}(hu:knd.room A)(hkey:knd.is s.heap k a)(hm:s.heap.DictOfH knd d xs)
  (there:∀p,atKey xs k=some p->Q p.2 { s with toks:=s.toks+knd.draws k })
  (new:atKey xs k=none->∀h',h'.DictOfH knd d (xs++[(k,a,v)])->iE d s.heap h'->Q v { s with heap:=h',toks:=s.toks+knd.draws k })
  (hsz:xs.length<=aj):wpAny (model prog w) A (dictSetDefault d (.ref a) v) Q E s:=by
 obtain⟨o,es,ep,ho,hc,hd,he,his,hn⟩:=hm;unfold dictSetDefault
 try with_reducible refine pR ?_
 refine ap (knd.pyHash hu hkey ?_);refine ap (wpAny_dictFind_heap (s:={ s with toks:=s.toks+knd.draws k }) hu hkey ho hd he his hn ?_ ?_)
 ·intro hno;have hnot:k∉xs.map (·.1):=not_mem_keys_of_get hno;refine ap (pS (ap (wpAny_updateDictKeys (hz:=by have e:=size_of_entries he;omega) (s:={ s with toks:=s.toks+knd.draws k }) ho hd (aX (new (atKey_none_of_get hno) _ ⟨_,_,ep+1,vp _ ho (Obj.isFreed_of_dict (Obj.data_mapDictKeys hd _)),
   hc.mapDictKeys _,Obj.data_mapDictKeys hd _,?_,?_,?_⟩ (mm ..))))))
  ·simp[he,entryOfKey]
  ·intro x hx;rcases bw.mp hx with hx|hx
   ·exact knd.keeps (his x hx) ho hd (mm ..)
   ·simp only[eW]at hx;subst hx;exact knd.keeps hkey ho hd (mm ..)
  ·rw[aq,cR];refine⟨hn,by simp,?_⟩;intro x hx y hy;simp only[bj,q_,eW]at hy;subst hy;exact fun e=>hnot (e▸hx)
 ·intro j p hj;refine ap (u6 (s:={ s with toks:=s.toks+knd.draws k }) ho hd ?_);rw[entry_at he j,hj];exact ap (pS (aX (there p (atKey_of_get hn hj))))
theorem nY(knd:HeapKind prog w K)(d a:Addr)(hd:(d==g6)=false)(dflt:Value):
  MeetsIn prog w (cF.«dict.setdefault» ⟨[.ref d,.ref a,dflt],[]⟩) (fun A R s=>knd.room A.in1/\∃k xs,knd.is s.heap k a/\s.heap.DictOfH knd d xs/\xs.length<=aj /\
   (∀p,atKey xs k=some p->R (.ok (.ret p.2)) { s with toks:=s.toks+knd.draws k }) /\
   (atKey xs k=none->∀h',h'.DictOfH knd d (xs++[(k,a,dflt)])->iE d s.heap h'->R (.ok (.ret dflt)) { s with heap:=h',toks:=s.toks+knd.draws k })) :=
 .of_wp fun A R s ⟨hu,k,xs,hkey,hm,hz,h1,h2⟩=>by
  unfold cF.«dict.setdefault»;refine ap ?_;unfold cF.Dict.keyAndDefault;refine ap (wpAny_notOrdered_dict hm.typeIs ?_);show wpAny _ _ (pure (d,Value.ref a,some dflt)) _ _ s;refine aX ?_;show wpAny _ _ (if(d==g6)=true then _ else(dictSetDefault d (.ref a) dflt >>= _)) _ _ s
  rw[if_neg (by rw[hd];exact gD)];exact ap (rp hu hkey hm (fun p hp=>aX ⟨p.2,rfl,h1 p hp⟩) (fun hn h' hm' hs'=>aX ⟨dflt,rfl,h2 hn h' hm' hs'⟩) hz)
end
section
variable{X:Cx}
def Ar:V->List V->Hp->VK->Prop:=fun x vs H Q=>∃(d b:Addr) (kvs:List (TK×V)) (k:TK) (z:V),x=.ref d/\vs=[.ref b,z]/\H d=some (.dT kvs)/\cC H k (.ref b)/\k.depth<=8/\kvs.length<aj /\
 (∀v,aU kvs k=some v->Q v H)/\(aU kvs k=none->Q z (upd H d (.dT (kvs++[(k,z)]))))
theorem BH(hu:X.A.units+16<cLine):Gz X "dict.setdefault" Ar:=by
 intro J2 s σ H x vs v us Q I rx rv h;obtain⟨d,b,kvs,k,z,rfl,rfl,hd,hb,h8,hz,q1,q2⟩:=h;cases rx;obtain⟨u,v,rfl,ru,rz⟩:=rv.two;cases ru;obtain⟨_,hsys,xs,rel,dd⟩:=DK I.hok I.kIn hd;have hl:kvs.length=xs.length:=Paired.length rel;refine re PySem.F.slot_dict_setdefault dd.typeIs PySem.F.entry_dict_setdefault (PySem.F.args_dict_setdefault_3 _ _ _) (nY (dL X.prog X.w) d b hsys v)
  ⟨fh hu,k,xs,wj I.hok I.kIn (cC.c 8 h8 hb) h8,dd,by omega,fun p hp=>?_,fun hn h' dd' hs=>?_⟩
 ·have e:=rel.val k;rw[hp]at e;cases e2:aU kvs k with
  |none=>rw[e2]at e;exact e.elim
  |some y =>
   rw[e2]at e;exact⟨y,H,I.tok _,e,q1 y e2⟩
 ·have e:=rel.val k;rw[hn]at e;have e2:aU kvs k=none:=by
   cases e2:aU kvs k with
   |none=>rfl
   |some y=>rw[e2]at e;exact e.elim
  obtain⟨o,es,ep,hq,h2,h3,h4,_,h5⟩:=dd';refine⟨z,_,qK (ob:=.dT (kvs++[(k,z)])) I (by rw[hd];exact i5) hs ⟨o,hq⟩ ⟨by rw[aZ,List.length_singleton];omega,hsys,_,KT.keeps (kvs:=kvs++[(k,z)]) (xs:=xs++[(k,b,v)]) (f8 rel ⟨rfl,cC.c 8 h8 hb,h8,rz⟩) fun c ys ec=>?_,o,es,ep,hq,h2,h3,h4,h5⟩,rz,q2 e2⟩;rw[ai (Dm ec hd (fun z=>nomatch z))];exact ec
end
theorem kW:entryFor table "dict.update.loop"=some cF.«dict.update.loop»:=entryFor_of_fast (by kernel_rfl)
theorem fJ:plainId "dict.update.loop"=true:=by decide +kernel
theorem v_:typeLookup (.type "list") "keys"=pure none:=am_miss_of_fast (by decide +kernel)
section
variable{prog:bM}{w:World}{A:Around}{E:Zc}{s:Shared}
theorem BJ{a:Addr}{o:Obj}{xs:Array Value}{k:Nat}{Q:Option Value->Shared->Prop}(hx:s.heap.get? a=some o)(hc:o.cls=.type "list")(hdat:o.data=.seq xs k)(hd:o.dict=none)(hA:A.handled=none)
  (h:∀h' tk,(∀b ob,s.heap.get? b=some ob->h'.get? b=some ob)->Q none { s with heap:=h',toks:=tk }):wpAny (model prog w) A (getAttr? (.ref a) "keys") Q E s:=by
 obtain⟨c,dct,dat,sl⟩:=o;simp only at hc hdat hd;subst hc hdat hd;obtain⟨hp,g,d,tk,os⟩:=s;have hT:∀tk',(⟨hp,g,d,tk',os⟩:Shared).TypeIs (.ref a) "list":=fun _=>⟨_,hx,rfl⟩;have f1:=sub_AttributeError;have f3:=F.slot_list_getattribute.lookup;have f4:=F.slot_list_getattribute.bind (.ref a);have f5:=am_list_getattr_none;unfold getAttr? getAttrBy? getAttrBy
 repeat (any_goals (first|assumption|exact hT _|((with_reducible show wpAny _ _ (call (Value.builtin "list.__getattribute__") _ _) _ _ _);refine rh F.slot_list_getattribute (hT _) am_entry_list_getattribute (F.args_list_getattribute_2 _ _) (meets_getattribute_miss_list a xs k sl "keys" _ v_ (by decide +kernel) (by decide +kernel)) ⟨hx,hA,fun h' tk' e hx'=>?_⟩)|wp_step))
 obtain⟨t',u',he⟩:=hx'.there;show wpAny _ _ (getattributeRaised _ _ _ _ _ _ _) _ _ _;unfold getattributeRaised hookOrError attributeErrorLeaves
 repeat (any_goals (first|assumption|wp_step))
 all_goals first|exact h _ _ hx'.keeps|trace_state
def zR(h:Heap)(u:Value)(kv:em×Value):Prop:=∃t ku,u=.ref t/\h.IsTuple t #[ku,kv.2]/\cN kv.1 ku=true
theorem yU{κ:Type}[DecidableEq κ](kvs:List (κ×Value))(k:κ)(v:Value):(stored kvs k v).length<=kvs.length+1:=by
 unfold stored;split
 ·rw[ah];omega
 ·rw[aZ,List.length_singleton];exact aA _
theorem Ct{R:Result->Shared->Prop}(hh:A.handled=none){D it l:Addr}{items:Array Value}{ps:List (em×Value)}(hDi:D≠it)(hli:l≠it)(hlD:l≠D)(hps:ps.length=items.size):
  ∀(n i:Nat) (s:Shared) (acc:List (em×Value)),items.size-i=n->i<=items.size->acc.length+(items.size-i)<=aj->s.heap.IsListIter it l i->s.heap.IsList l items->s.heap.DictOf (cb prog w) D acc ->
   (∀(j:Nat) (u:Value) (kv:em×Value),items[j]?=some u->ps[j]?=some kv->zR s.heap u kv) ->
   (∀h' tk,h'.DictOf (cb prog w) D (merged acc (ps.drop i))->(∀b o,b≠D->b≠it->s.heap.get? b=some o->h'.get? b=some o)->R (.ok (.ret .none)) { s with heap:=h',toks:=tk }) ->
   zzl77 (model prog w) A (.builtin "dict.update.loop" ⟨[.ref D,.ref it,rawInt i,.none],[]⟩) R s:=by
 intro n
 induction n with
 |zero =>
  intro i s acc hn hi hz hit hl hD hp hR;have e:i=items.size:=by omega
  subst e;refine codeAny_builtin kW ?_;rw[Around.under_plainId fJ _];show wpAny _ A.in1 (pyNext (.ref it) >>= _) _ _ s;refine ap (wpAny_pyNext_list_end hh hit hl (by simp) fun h' eb=>?_);show wpAny _ _ (cF.Dict.addKeywords D [] >>= _) _ _ _;refine ap (aX (aX ?_));have hD':h'.DictOf (cb prog w) D acc:=hD.extBut eb hDi;have q:=hR h' s.toks (by rw[u5 (by omega)];exact hD') fun b o _ hb e=>eb b o hb e;exact q
 |succ n ih =>
  intro i s acc hn hi hz hit hl hD hp hR;have hlt:i<items.size:=by omega
  refine codeAny_builtin kW ?_;rw[Around.under_plainId fJ _];show wpAny _ A.in1 (pyNext (.ref it) >>= _) _ _ s;have hu:items[i]?=some items[i]:=by simp[hlt]
  have hk:ps[i]?=some ps[i]:=iT (by omega);obtain⟨t,ku,eu,ht,hku⟩:=hp i _ _ hu hk;refine ap (wpAny_pyNext_list_item hit hl (x:=items[i]) hu fun h1 hit1 hs1=>?_);rw[eu];have hs1':iE it s.heap h1:=hs1;have nt:t≠it:=by
   rintro rfl;obtain⟨o,ho,hc,_⟩:=ht;obtain⟨o',ho',hc',_⟩:=hit;rw[ho]at ho';cases ho';rw[hc]at hc';simp at hc'
  have ht1:h1.IsTuple t #[ku,ps[i].2]:=ht.extBut hs1'.extBut nt;have hT1:Shared.TypeIs { s with heap:=h1 } (.ref t) "tuple":=ht1.typeIs (s:={ s with heap:=h1 });obtain⟨ot,got,hct,nt',hdt⟩:=id ht1;refine ap (pR ?_);refine ap (wpAny_tryCatch ?_);unfold cF.Dict.pairItems;refine ap (wpAny_typeOf hT1 ?_);rw[if_pos (by decide)];refine ap (l6 got hdt (aX ?_));show wpAny _ _ (km [ku,ps[i].2] (dictSet D ku ps[i].2)) _ _ _;have hD1:h1.DictOf (cb prog w) D acc:=hD.extBut hs1'.extBut hDi;refine pR (wpAny_dictSet_pairs (knd:=cb prog w) (k:=ps[i].1) hku hD1 (fun h2 hD2 hs2=>?_) (by omega));have hs2':iE D h1 h2:=hs2;show wpAny _ _ (again _) _ _ _;refine aX ⟨plainId_quiet fJ _,?_⟩;have hl1:h1.IsList l items:=hl.extBut hs1'.extBut hli;have kp:∀b o,b≠D->b≠it->s.heap.get? b=some o->h2.get? b=some o:=fun b o h1 h2 e=>hs2'.extBut b o h1 (hs1'.extBut b o h2 e);refine ih (i+1) _ (stored acc ps[i].1 ps[i].2) (by omega) hlt (by have:=yU acc ps[i].1 ps[i].2;omega) (hit1.extBut hs2'.extBut (ii hDi)) (hl1.extBut hs2'.extBut hlD) hD2 (fun j u kv h1 h2=>?_) fun h' tk hD' kp'=>?_
  ·obtain⟨t2,ku2,e2,ht2,hk2⟩:=hp j u kv h1 h2;have n1:t2≠it:=by
    rintro rfl;obtain⟨o,ho,hc,_⟩:=ht2;obtain⟨o',ho',hc',_⟩:=hit;rw[ho]at ho';cases ho';rw[hc]at hc';simp at hc'
   have n2:t2≠D:=by
    rintro rfl;obtain⟨o,ho,hc,_⟩:=ht2;obtain⟨o',_,_,ho',hc',_⟩:=hD;rw[ho]at ho';cases ho';have:=hc'.1;rw[hc]at this;simp at this
   obtain⟨o,ho,r⟩:=ht2;exact⟨t2,ku2,e2,⟨o,kp _ o n2 n1 ho,r⟩,hk2⟩
  ·refine hR h' tk ?_ fun b o h1 h2 e=>kp' b o h1 h2 (kp b o h1 h2 e);have ed:ps.drop i=ps[i]::ps.drop (i+1):=List.drop_eq_getElem_cons (by omega);rw[ed];exact hD'
theorem qp{l:Addr}{o:Obj}{items:Array Value}{n:Nat}{ps:List (em×Value)}{Q:Zc}(hh:A.handled=none)(ho:s.heap.get? l=some o)(hc:o.cls=.type "list")(hdt:o.data=.seq items n)(hod:o.dict=none)
  (hps:ps.length=items.size) (hp:∀(j:Nat) (u:Value) (kv:em×Value),items[j]?=some u->ps[j]?=some kv->zR s.heap u kv) (hz:items.size<=aj)
  (h:∀h' tk,h'.DictOf (cb prog w) s.heap.objs.size (merged [] ps)->(∀b o,s.heap.get? b=some o->h'.get? b=some o)->Q (.ref s.heap.objs.size) { s with heap:=h',toks:=tk }) :
  wpAny (model prog w) A (call (.type "dict") [.ref l]) Q E s:=by
 refine callType_codes (Q₁:=fun obj s₁=>obj=.ref s.heap.objs.size/\s₁={ s with heap:=s.heap.push { cls:=.type "dict",data:=.dict #[] } }) F.kt_called_dict (F.kt_typeCall_dict_1 _) F.entry_dict_init (kt_code_dict_new _ ⟨rfl,rfl⟩) ?_;rintro obj s₁ ⟨rfl,rfl⟩;have hnew:(s.heap.push { cls:=.type "dict",data:=.dict #[] }).DictOf (cb prog w) s.heap.objs.size []:=Heap.DictOf.new s.heap;have ho1:(s.heap.push { cls:=.type "dict",data:=.dict #[] }).get? l=some o:=bv _ ho;have hlt:l<s.heap.objs.size:=aY ho;refine⟨hnew.typeIs,F.args_dict_init_2 _ _,?_⟩;unfold cF.«dict.__init__»;refine ap ?_;unfold cF.Dict.selfAndRest;refine ap (wpAny_notOrdered_dict hnew.typeIs ?_);show wpAny _ _ (pure (s.heap.objs.size,[Value.ref l])) _ _ _;refine aX ?_;show wpAny _ _ (cF.Dict.updateFrom "dict.__init__" s.heap.objs.size (.ref l) [] .none) _ _ _;unfold cF.Dict.updateFrom;have hTl:Shared.TypeIs { s with heap:=s.heap.push { cls:=.type "dict",data:=.dict #[] } } (.ref l) "list":=⟨o,ho1,hc⟩;refine ap (wpAny_typeOf hTl ?_);rw[if_pos (by decide)];refine ap (BJ ho1 hc hdt hod hh fun h1 tk1 k1=>?_);have k1':∀b ob,(s.heap.push { cls:=.type "dict",data:=.dict #[] }).get? b=some ob->h1.get? b=some ob:=k1;rw[if_pos (by rfl:(none:Option Value).isNone=true)];refine ap (pS ?_);have hl1:h1.IsList l items:=⟨o,k1' _ _ ho1,hc,n,hdt⟩;refine ap (wU (s:={ s with heap:=h1,toks:=tk1 }) hl1 ?_);have hD1:h1.DictOf (cb prog w) s.heap.objs.size []:=by
  obtain⟨od,es,ep,g,r⟩:=hnew;exact⟨od,es,ep,k1' _ _ g,r⟩
 have hDlt:s.heap.objs.size<h1.objs.size:=by
  obtain⟨od,es,ep,g,r⟩:=hD1;exact aY g
 refine aX ⟨plainId_quiet fJ _,?_⟩;refine Ct (A:=A.in1) (prog:=prog) (w:=w) hh (D:=s.heap.objs.size) (it:=h1.objs.size) (l:=l) (items:=items) (ps:=ps) (cE hDlt) (cE (Nat.lt_trans hlt hDlt)) (cE hlt) hps items.size 0 _ [] (Nat.sub_zero _) (eK _) (by rw[List.length_nil];omega)
  ⟨_,cQ _ rfl,rfl,rfl⟩ (hl1.push _) (hD1.push _) (fun j u kv a b=>?_) fun h' tk hD' kp=>?_
 ·obtain⟨t,ku,e,ht,hk⟩:=hp j u kv a b;obtain⟨ot,g,r⟩:=ht;exact⟨t,ku,e,⟨ot,bv _ (k1' _ _ (bv _ g)),r⟩,hk⟩
 ·rw[qW]at hD';refine⟨rfl,h h' tk hD' fun b ob e=>kp b ob (cE (aY e)) (cE (Nat.lt_trans (aY e) hDlt)) (bv _ (k1' _ _ (bv _ e)))⟩
end
section
variable{X:Cx}
theorem wz(hc:X.calm=true):fj X (.type "dict") (fun xs H Q=>∃(l:Addr) (ts:Ze) (kvs:List (em×V)),xs=[.ref l]/\ax X.K H l (ts.map V.ref)/\ts.length=kvs.length /\
  (∀(j:Nat) (t:Addr) (kv:em×V),ts[j]?=some t->kvs[j]?=some kv->H t=some (.tup [kV kv.1,kv.2]))/\∀p,H p=none->Q (.ref p) (upd H p (.dK (iX [] kvs)))):=by
 intro J2 s σ H xs us Q I r h;obtain⟨l,ts,kvs,rfl,hl,hlen,ht,q⟩:=h;obtain⟨u,rfl,ru⟩:=vals1 r;cases ru;obtain⟨its,rv,⟨o,n,ho,hcl,hod,hdt⟩,hz⟩:=I.list hl;have key:∀(ts:Ze) (kvs:List (em×V)),ts.length=kvs.length->(∀(j:Nat) (t:Addr) (kv:em×V),ts[j]?=some t->kvs[j]?=some kv->H t=some (.tup [kV kv.1,kv.2]))->∃ps:List (em×Value),KV kvs ps/\∀(j:Nat) (t:Addr) (kv:em×Value),ts[j]?=some t->ps[j]?=some kv->zR s.heap (.ref t) kv:=by
  intro ts
  induction ts with
  |nil =>
   intro kvs hl _;cases kvs with
   |nil=>exact⟨[],.nil,fun j t kv e=>by simp at e⟩
   |cons _ _=>cases hl
  |cons t ts ih =>
   intro kvs hl ht;cases kvs with
   |nil=>cases hl
   |cons kv kvs =>
    obtain⟨ps,r1,r2⟩:=ih kvs (by simpa using hl) fun j t' kv' a b=>ht (j+1) t' kv' (by simpa using a) (by simpa using b);obtain⟨_,itt,rt,p⟩:=(show ca X.prog X.w X.K H s.heap t (.tup [kV kv.1,kv.2])from I.hok t _ (ht 0 t kv rfl rfl));obtain⟨a,b,e,ra,rb⟩:=rt.two;subst e;refine⟨(kv.1,b)::ps,.cons ⟨rfl,rb⟩ r1,fun j t' kv' h1 h2=>?_⟩;cases j with
    |zero =>
     simp at h1 h2;subst h1 h2;exact⟨t,a,rfl,p,nZ (P:=X.prog) (w:=X.w) ra⟩
    |succ j=>exact r2 j t' kv' (by simpa using h1) (by simpa using h2)
 obtain⟨ps,rel,pa⟩:=key ts kvs hlen ht;have hl1:=rv.length;rw[ah]at hl1;have hl2:=rel.length;refine qp (prog:=X.prog) (w:=X.w) (ps:=ps) (I.ok.hd hc) ho hcl hdt hod (by rw[bO];omega) (fun j u kv a b=>?_) (by rw[bO,<-hl1];rw[ah]at hz;exact hz) fun h' tk hD kp=>?_
 ·have a':its[j]?=some u:=by simpa using a
  have hj:j<ts.length:=by
   have:=(bP.mp a').1;omega
  obtain⟨u',e1,r1⟩:=rv.get (i:=j) (x:=V.ref ts[j]) (by simp[hj]);rw[a']at e1;cases e1;cases(show u=Value.ref ts[j]from r1);exact pa j ts[j] kv (by simp[hj]) b
 ·have hm:(iX [] kvs).length<=aj:=by
   have h1:=ma kvs [];rw[List.length_nil]at h1;rw[ah]at hz;omega
  exact⟨.ref s.heap.objs.size,_,I.laid (o:=.dK (iX [] kvs)) kp (aA _) (DN hm (beq_eq_false_iff_ne.mpr (ii (cE I.big))) (rel.merge .nil) hD),rfl,q _ I.fresh⟩
end
abbrev dq:R2:=As fun i j=>.int (i+j)
abbrev uw:R2:=As fun i j=>.int (i-j)
abbrev kL:R2:=rI Ef fun i j=>.int (i * j)
abbrev iK:R2:=rI (fun _ j=>0<j) fun i j=>.int (i % j)
abbrev C6:R2:=rI Hd fun i j=>.int (i / j)
abbrev FB:R2:=rI Hc fun i j=>.int (i ^ j.toNat)
abbrev C3:R2:=As fun i j=>.bl (decide (i<j))
abbrev rLeI:R2:=As fun i j=>.bl (decide (i<=j))
abbrev C5:R2:=As fun i j=>.bl (decide (j<i))
abbrev rGeI:R2:=As fun i j=>.bl (decide (j<=i))
abbrev FD:R2:=fun x y H Q=>∃i j,x=.str i/\y=.str j/\i.length+j.length<=aj/\Q (.str (i++j)) H
abbrev rInS:R2:=fun x y H Q=>∃c j,x=.str ⟨#[c]⟩/\y=.str j/\Q (.bl (decide (c∈j.cps.toList))) H
abbrev GJ(K:Za):List V->Hp->VK->Prop:=fun xs H Q=>∃x c t b,xs=[x,.ty c]/\TyX K H x t/\z_ K t (.type c)=some b/\Q (.bl b) H
abbrev GK(K:Za):List V->Hp->VK->Prop:=fun xs H Q=>∃(p:Addr) (bs:List Bool),xs=[.ref p]/\ax K H p (bs.map V.bl)/\Q (.bl (bs.all id)) H
abbrev rAny(K:Za):List V->Hp->VK->Prop:=fun xs H Q=>∃(p:Addr) (bs:List Bool),xs=[.ref p]/\ax K H p (bs.map V.bl)/\Q (.bl (bs.any id)) H
abbrev xx(K:Za):List V->Hp->VK->Prop:=fun xs H Q=>∃p ys,xs=[.ref p]/\((ax K H p ys/\∀l,H l=none->Q (.ref l) (upd H l (.tup ys)))∨(bA K H p ys/\Q (.ref p) H))
abbrev EO(K:Za):List V->Hp->VK->Prop:=fun xs H Q=>∃(l:Addr) (ts:Ze) (kvs:List (em×V)),xs=[.ref l]/\ax K H l (ts.map V.ref)/\ts.length=kvs.length /\
  (∀(j:Nat) (t:Addr) (kv:em×V),ts[j]?=some t->kvs[j]?=some kv->H t=some (.tup [kV kv.1,kv.2]))/\∀p,H p=none->Q (.ref p) (upd H p (.dK (iX [] kvs)))
abbrev da(K:Za):List V->Hp->VK->Prop:=fun xs H Q =>
 (∃p ys,xs=[.ref p]/\(ax K H p ys∨bA K H p ys)/\∀l,H l=none->Q (.ref l) (upd H l (.lst ys))) ∨
 (∃(d:Addr) (kvs:List (em×V)),xs=[.ref d]/\Rd H d (.dK kvs)/\∀l,H l=none->Q (.ref l) (upd H l (.lst (kvs.map fun kv=>kV kv.1))))
abbrev gH(K:Za):List V->Hp->VK->Prop:=fun xs H Q =>
 (∃p ys,xs=[.ref p]/\(ax K H p ys∨bA K H p ys)/\Q (.int ys.length) H)∨(∃z,xs=[.str z]/\z.length<=aj/\Q (.int z.length) H)
theorem yd:i7 "isinstance"=some (.builtin "isinstance"):=by decide +kernel
theorem zN:i7 "list"=some (.type "list"):=by decide +kernel
theorem gM:i7 "tuple"=some (.type "tuple"):=by decide +kernel
theorem zO:i7 "dict"=some (.type "dict"):=by decide +kernel
theorem zP:i7 "bool"=some (.type "bool"):=by decide +kernel
theorem Ca:i7 "int"=some (.type "int"):=by decide +kernel
section
variable{X:Cx}{p pos:Pos}
theorem B_:fj X (.builtin "len") (gH X.K):=wx.or ww
theorem zM(hc:X.calm=true):fj X (.type "list") (da X.K):=wv.or (sR hc)
theorem zg(hg:Gl X "bool")(hm:X.mg "bool"=none):PE X (.Name "bool" pos) (tC (.ty "bool")):=Ay hg hm zP rfl
theorem BE(hg:Gl X "int")(hm:X.mg "int"=none):PE X (.Name "int" pos) (tC (.ty "int")):=Ay hg hm Ca rfl
end
def Gc(mg:Str->Option Value)(x:Str)(v:V):Prop:=∃u,mg x=some u/\RelV v u
theorem j5{X:Cx}{x:Str}{v:V}{pos:Pos}(hg:Gl X x)(h:Gc X.mg x v)(hd:(x==("__debug__":Str))=false:=by decide):PE X (.Name x pos) (tC v):=by
 obtain⟨u,hm,r⟩:=h;exact EU hg hm r hd
structure fV(P:bM)(w:World)(K:Za)(mg:Str->Option Value)(base:Heap)(x:Str)(ps:Zb)(k:Nat)(sp:Sp):Prop where
 ex:∃f fd,k5 P w K mg base CX0 k f fd ps sp/\mg x=some (.ref f)/\fk K (.ref f)=true/\Binds K fd ps []
structure Gy(P:bM)(w:World)(K:Za)(mg:Str->Option Value)(base:Heap)(x:Str)(C:Addr)(ps:Zb)(k:Nat)(sp:Sp):Prop where
 ex:∃f fd,k5 P w K mg base CX0 k f fd ps sp/\mg x=some (.ref C)/\Mk K C f/\Binds K fd ps []
structure pD(P:bM)(w:World)(K:Za)(mg:Str->Option Value)(base:Heap)(C:Addr)(m:Str)(ps:Zb)(k:Nat)(sp:Sp):Prop where
 ex:∃f fd,k5 P w K mg base CX0 k f fd ps sp/\yB K C/\Fu K C m f/\Binds K fd ps []
section
variable{X:Cx}{k:Nat}{ps:Zb}{sp:Sp}{x m:Str}{C:Addr}{p pos J4:Pos}{o e:Expr}{es:List Expr}{t:TA}{ta:TE}
theorem FE(D:fV X.prog X.w X.K X.mg X.base x ps k sp)(hr:ei k X.A)(hg:Gl X x)(ha:PA X (e::es) t)(hdb:(x==("__debug__":Str))=false:=by decide)
  (he:aK (e::es) X.env=(false,eval e X.env)::aK es X.env:=by rfl) (hpl:(backTo pos (aK es X.env)).any (·.1)=false:=by rfl) :
  PE X (.Call (.Name x p) (e::es) [] pos) (aI sp t):=by
 obtain⟨f,fd,F,hm,hk,hb⟩:=D.ex;exact EW F hr hg hm hk hb .nil Az ha hdb he hpl
theorem sj(D:Gy X.prog X.w X.K X.mg X.base x C ps k sp)(hr:ei (k+1) X.A)(hg:Gl X x)(ha:PA X (e::es) t)(hdb:(x==("__debug__":Str))=false:=by decide)
  (he:aK (e::es) X.env=(false,eval e X.env)::aK es X.env:=by rfl) (hpl:(backTo pos (aK es X.env)).any (·.1)=false:=by rfl) :
  PE X (.Call (.Name x p) (e::es) [] pos) (rF C sp [] E0 t):=by
 obtain⟨f,fd,F,hm,M,hb⟩:=D.ex;exact ET M F hr hg hm hb .nil Az ha hdb he hpl
theorem Gd{pl:Sem Bool}(M:pD X.prog X.w X.K X.mg X.base C m ps k sp)(hr:ei k X.A)(he:PE X o ta)(ha:PA X (e::es) t)
  (hst:aK (e::es) X.env=(false,eval e X.env)::aK es X.env:=by rfl) (hpl:(backTo pos (aK es X.env)).any (·.1)=false:=by rfl)
  (ht:eval (.Call (.Attribute o m J4) (e::es) [] pos) X.env=(do
   let ov <- eval o X.env
   pN J4.atName
   let(f,first) <- km [ov] (pJ ov m pl)
   ug pos f first (backTo pos (aK (e::es) X.env)) (np pos (nn [] X.env))):=by rfl) :
  PE X (.Call (.Attribute o m J4) (e::es) [] pos) (bY C m sp [] E0 ta t):=by
 obtain⟨f,fd,F,c,hm,hb⟩:=M.ex;exact ES he c hm F hr hb .nil Az ha hst hpl ht
theorem ER{pl:Sem Bool}(M:pD X.prog X.w X.K X.mg X.base C m ps k sp)(hr:ei k X.A)(he:PE X o ta)
  (ht:eval (.Call (.Attribute o m J4) [] [] pos) X.env=(do
   let ov <- eval o X.env
   pN J4.atName
   let(f,first) <- km [ov] (pJ ov m pl)
   ug pos f first (backTo pos (aK [] X.env)) (np pos (nn [] X.env))):=by rfl) :
  PE X (.Call (.Attribute o m J4) [] [] pos) (bY C m sp [] E0 ta bm):=by
 obtain⟨f,fd,F,c,hm,hb⟩:=M.ex;exact Dg he c hm F hr hb .nil Az ht
end
def GV(K:Za)(tl:TE):TI:=fun σ H R=>tl σ H fun x H1=>∃a,x=.ref a/\(((∃xs,ax K H1 a xs)/\R (Ee K a) H1)∨((∃xs,bA K H1 a xs)/\R (Gs K a) H1))
theorem F_{X:Cx}{tg l:Expr}{tl:TE}(hl:PE X l tl):PI X tg l (GV X.K tl):=by
 intro J2 s σ H R I h;refine cq (hl J2 s σ H _ I h) fun v s1 ⟨x,H1,I1,r1,q1⟩=>?_;obtain⟨a,e,q⟩:=q1;subst e;cases r1;have fin:∀b∈[s1.heap.objs.size],m9 X J2 H1 b:=fun b hb=>by
  have e:b=s1.heap.objs.size:=by simpa using hb
  subst e;exact I1.fpOk (aA _) (I1.hok.fresh (aA _))
 rcases q with⟨⟨xs,hq⟩,q⟩|⟨⟨xs,hq⟩,q⟩
 ·obtain⟨its,rv,p,hz⟩:=I1.list hq;refine wU p.isList ?_;exact⟨s1.heap.objs.size,[s1.heap.objs.size],_,_,H1,rfl,I1.kept (t':=s1.toks) fun b o e=>bv _ e,uo a _,⟨_,cQ _ rfl,rfl,rfl⟩,fin,q⟩
 ·obtain⟨its,rv,p,hz⟩:=I1.tuple hq;refine Ad p ?_;exact⟨s1.heap.objs.size,[s1.heap.objs.size],_,_,H1,rfl,I1.kept (t':=s1.toks) fun b o e=>bv _ e,rq a _,⟨_,cQ _ rfl,rfl,rfl⟩,fin,q⟩
theorem kT{K:Za}{a:Addr}{xs:List V}{g:TG}{tb:TS}{D:qz}{σ:St}{H:Hp}(Pv:Nat->St->Hp->Prop)(h0:Pv 0 σ H)(hl:∀i σ H,i<=xs.length->Pv i σ H->ax K H a xs)
  (hs:∀i x σ H p,xs[i]?=some x->Pv i σ H->H p=none->g (.ref p) σ (upd H p (.tup [.int i,x])) fun σ2 H2=>tb { D with nx:=Pv (i+1),ct:=Pv (i+1),bk:=D.nx } σ2 H2) (hd:∀σ H,Pv xs.length σ H->D.nx σ H) :
  ∃W:Nat->Nat->St->Hp->Prop,(∃m,W 0 m σ H)/\∀i m σ H,W i m σ H ->
   ((G9 K a).stop i H/\D.nx σ H)∨((G9 K a).go i H/\∃N:St->Hp->Prop,(∀σ' H',N σ' H'->∃m',m'<m/\W (i+1) m' σ' H')/\∀x H',(G9 K a).yld i H x H'->g x σ H' fun σ2 H2=>tb { D with nx:=N,ct:=N,bk:=D.nx } σ2 H2):=by
 refine⟨fun i m σ H=>m=xs.length-i/\i<=xs.length/\Pv i σ H,⟨xs.length,by simp,eK _,h0⟩,?_⟩;rintro i m σ H ⟨rfl,hi,p⟩;have q:=hl i σ H hi p;by_cases hlt:i<xs.length
 ·refine .inr ⟨⟨xs,xs[i],q,by simp[hlt]⟩,Pv (i+1),fun σ' H' p'=>⟨xs.length-(i+1),by omega,rfl,hlt,p'⟩,fun x H' y=>?_⟩;obtain⟨t,v,rfl,hn,hv,rfl⟩:=y;exact hs i v σ H t (hv xs q) p hn
 ·have e:i=xs.length:=by omega
  subst e;exact .inl ⟨⟨xs,q,aA _⟩,hd σ H p⟩
def Wc(n:Nat)(Pv:Nat->List V->Hp->Prop):Nat->Nat->List V->Hp->Prop:=fun i m vs H=>m=n-i/\i<=n/\Pv i vs H
theorem ke{n i:Nat}{Pv:Nat->List V->Hp->Prop}{vs:List V}{H:Hp}(hi:i<n)(p:Pv (i+1) vs H):∃m',m'<n-i/\Wc n Pv (i+1) m' vs H:=⟨n-(i+1),by omega,rfl,hi,p⟩
abbrev dU(k:Nat)(fi:List Nat)(σ:St)(J:It)(g:TG)(tc:TT)(te:TE)(H1:Hp)(l:Addr)(Q:Hp->Prop):Prop :=
 ∃W:Nat->Nat->List V->Hp->Prop,(∃m,W 0 m [] (upd H1 l (.lst [])))/\∀i m vs H2,W i m vs H2->H2 l=some (.lst vs) /\
  ((J.stop i H2/\Q H2)∨(J.go i H2/\∀x H3,J.yld i H2 x H3->g x (cW k fi σ) H3 fun σ2 H4=>tc σ2 H4 fun b H5 =>
   if b=true then te σ2 H5 fun v H6=>H6 l=some (.lst vs)/\vs.length<aj/\∃m',m'<m/\W (i+1) m' (vs++[v]) (upd H6 l (.lst (vs++[v])))else ∃m',m'<m/\W (i+1) m' vs H5))
theorem kY{k:Nat}{fi:List Nat}{J:It}{g:TG}{tc:TT}{te:TE}{σ:St}{H1:Hp}{Q:Hp->Prop}{l:Addr}(n:Nat)(Pv:Nat->List V->Hp->Prop)(h0:Pv 0 [] (upd H1 l (.lst [])))
  (hl:∀i vs H,i<=n->Pv i vs H->H l=some (.lst vs)) (hgo:∀i vs H,i<n->Pv i vs H->J.go i H) (hst:∀vs H,Pv n vs H->J.stop n H/\Q H)
  (hs:∀i vs H x H3,i<n->Pv i vs H->J.yld i H x H3->g x (cW k fi σ) H3 fun σ2 H4=>tc σ2 H4 fun b H5 =>
   if b=true then te σ2 H5 fun v H6=>H6 l=some (.lst vs)/\vs.length<aj/\∃m',m'<n-i/\Wc n Pv (i+1) m' (vs++[v]) (upd H6 l (.lst (vs++[v])))else ∃m',m'<n-i/\Wc n Pv (i+1) m' vs H5) :
  dU k fi σ J g tc te H1 l Q:=by
 refine⟨Wc n Pv,⟨n,by simp[Wc],eK _,h0⟩,?_⟩;rintro i m vs H ⟨rfl,hi,p⟩;refine⟨hl i vs H hi p,?_⟩;by_cases hlt:i<n
 ·exact .inr ⟨hgo i vs H hlt p,fun x H3 y=>hs i vs H x H3 hlt p y⟩
 ·have e:i=n:=by omega
  subst e;exact .inl (hst vs H p)
section
variable{K:Za}{k:Nat}{fi:List Nat}{g:TG}{tc:TT}{te:TE}{σ:St}{H1:Hp}{Q:Hp->Prop}{l:Addr}
theorem bh{a:Addr}{xs:List V}(Pv:Nat->List V->Hp->Prop)(h0:Pv 0 [] (upd H1 l (.lst [])))
  (hl:∀i vs H,i<=xs.length->Pv i vs H->H l=some (.lst vs)/\ax K H a xs) (hd:∀vs H,Pv xs.length vs H->Q H)
  (hs:∀i vs H x,xs[i]?=some x->i<xs.length->Pv i vs H->g x (cW k fi σ) H fun σ2 H4=>tc σ2 H4 fun b H5 =>
   if b=true then te σ2 H5 fun v H6=>H6 l=some (.lst vs)/\vs.length<aj/\∃m',m'<xs.length-i/\Wc xs.length Pv (i+1) m' (vs++[v]) (upd H6 l (.lst (vs++[v])))else ∃m',m'<xs.length-i/\Wc xs.length Pv (i+1) m' vs H5) :
  dU k fi σ (Ee K a) g tc te H1 l Q:=by
 refine kY xs.length Pv h0 (fun i vs H hi p=>(hl i vs H hi p).1) (fun i vs H hi p=>⟨xs,xs[i],(hl i vs H (cZ hi) p).2,by simp[hi]⟩) (fun vs H p=>⟨⟨xs,(hl _ vs H (aA _) p).2,aA _⟩,hd vs H p⟩) fun i vs H x H3 hi p y=>?_;obtain⟨rfl,y⟩:=y;exact hs i vs _ x (y xs (hl i vs _ (cZ hi) p).2) hi p
theorem xU{a:Addr}{xs:List V}(Pv:Nat->List V->Hp->Prop)(h0:Pv 0 [] (upd H1 l (.lst [])))
  (hl:∀i vs H,i<=xs.length->Pv i vs H->H l=some (.lst vs)/\bA K H a xs) (hd:∀vs H,Pv xs.length vs H->Q H)
  (hs:∀i vs H x,xs[i]?=some x->i<xs.length->Pv i vs H->g x (cW k fi σ) H fun σ2 H4=>tc σ2 H4 fun b H5 =>
   if b=true then te σ2 H5 fun v H6=>H6 l=some (.lst vs)/\vs.length<aj/\∃m',m'<xs.length-i/\Wc xs.length Pv (i+1) m' (vs++[v]) (upd H6 l (.lst (vs++[v])))else ∃m',m'<xs.length-i/\Wc xs.length Pv (i+1) m' vs H5) :
  dU k fi σ (Gs K a) g tc te H1 l Q:=by
 refine kY xs.length Pv h0 (fun i vs H hi p=>(hl i vs H hi p).1) (fun i vs H hi p=>⟨xs,xs[i],(hl i vs H (cZ hi) p).2,by simp[hi]⟩) (fun vs H p=>⟨⟨xs,(hl _ vs H (aA _) p).2,aA _⟩,hd vs H p⟩) fun i vs H x H3 hi p y=>?_;obtain⟨rfl,y⟩:=y;exact hs i vs _ x (y xs (hl i vs _ (cZ hi) p).2) hi p
theorem zJ{lo:Int}{n:Nat}(Pv:Nat->List V->Hp->Prop)(h0:Pv 0 [] (upd H1 l (.lst [])))
  (hl:∀i vs H,i<=n->Pv i vs H->H l=some (.lst vs)) (hd:∀vs H,Pv n vs H->Q H)
  (hs:∀i vs H,i<n->Pv i vs H->g (.int (lo+i)) (cW k fi σ) H fun σ2 H4=>tc σ2 H4 fun b H5 =>
   if b=true then te σ2 H5 fun v H6=>H6 l=some (.lst vs)/\vs.length<aj/\∃m',m'<n-i/\Wc n Pv (i+1) m' (vs++[v]) (upd H6 l (.lst (vs++[v])))else ∃m',m'<n-i/\Wc n Pv (i+1) m' vs H5) :
  dU k fi σ (Gu lo n) g tc te H1 l Q:=by
 refine kY n Pv h0 hl (fun i vs H hi p=>hi) (fun vs H p=>⟨aA _,hd vs H p⟩) fun i vs H x H3 hi p y=>?_;obtain⟨rfl,rfl⟩:=y;exact hs i vs _ hi p
theorem DV{x:Str}(Pv:Nat->List V->Hp->Prop)(h0:Pv 0 [] (upd H1 l (.lst [])))
  (hl:∀i vs H,i<=x.cps.size->Pv i vs H->H l=some (.lst vs)) (hd:∀vs H,Pv x.cps.size vs H->Q H)
  (hs:∀i vs H c,x.cps[i]?=some c->i<x.cps.size->Pv i vs H->g (.str ⟨#[c]⟩) (cW k fi σ) H fun σ2 H4=>tc σ2 H4 fun b H5 =>
   if b=true then te σ2 H5 fun v H6=>H6 l=some (.lst vs)/\vs.length<aj/\∃m',m'<x.cps.size-i/\Wc x.cps.size Pv (i+1) m' (vs++[v]) (upd H6 l (.lst (vs++[v])))else ∃m',m'<x.cps.size-i/\Wc x.cps.size Pv (i+1) m' vs H5) :
  dU k fi σ (Ho x) g tc te H1 l Q:=by
 refine kY x.cps.size Pv h0 hl (fun i vs H hi p=>hi) (fun vs H p=>⟨aA _,hd vs H p⟩) fun i vs H y H3 hi p yl=>?_;obtain⟨rfl,c,hc,rfl⟩:=yl;exact hs i vs _ c hc hi p
end
theorem gN{j:Nat}{x:V}{σ:St}{H:Hp}{Q:St->Hp->Prop}(h:Q (σ.set j (some x)) H):dH j x σ H Q:=h
theorem lK{σ:St}{H:Hp}{A B:Hp->Prop}(h:A H):gV σ H (fun b H5=>if b=true then A H5 else B H5):=by
 show(if(true:Bool)=true then A H else B H)
 exact h
theorem ux{α β:Type}{F:α->β->Prop}:∀{l₁:List α}{l₂:List β},Paired F l₁ l₂->∀{i:Nat}{a:α}{b:β},l₁[i]?=some a->l₂[i]?=some b->F a b
 |_,_,.nil,_,_,_,h,_=>by simp at h
 |_,_,.cons r t,0,_,_,h,h'=>by simp at h h';subst h h';exact r
 |_,_,.cons r t,i+1,_,_,h,h'=>by simp at h h';exact ux t h h'
end L2
namespace L2
open PySem PySem.W
section
variable{X:Cx}
theorem Am:∀{ns:List Int}{its:Zf},ba (ns.map V.int) its->∃xs:List (Int×Tok),its=xs.map (fun p=>Value.int p.1 p.2)/\xs.map (·.1)=ns
 |[],_,r=>by cases r;exact⟨[],rfl,rfl⟩
 |n::ns,_,r=>by
  cases r with
  |cons r1 r2 =>
   obtain⟨t,rfl⟩:=r1;obtain⟨xs,e1,e2⟩:=Am r2;exact⟨(n,t)::xs,by rw[e1];rfl,by rw[bj,e2]⟩
end
def CF(K:Za)(td ty tv:TE):TS:=fun D σ H=>tv σ H fun v H1=>td σ H1 fun x H2=>ty σ H2 fun y H3 =>
 ∃(a b:Addr) (kvs:List (TK×V)) (k:TK),x=.ref a/\y=.ref b/\H3 a=some (.dT kvs)/\p7 K H3 k (.ref b)/\k.depth<=8/\kvs.length<aj/\D.nx σ (upd H3 a (.dT (cH kvs k v)))
section
variable{X:Cx}{o i value:Expr}{pos pos':Pos}{td ty tv:TE}
theorem C_(hu:X.A.units+16<cLine)(ho:PE X o td)(hi:PE X i ty)(hv:PE X value tv)(hs:pM value (some (.Subscript o i pos')) pos.line X.env=pure false):
  PS X (.Assign [.Subscript o i pos'] value pos) (CF X.K td ty tv):=by
 intro J2 s σ H D I h;refine wpAny_Assign_Subscript (cq (hv J2 s σ H _ I h) fun r s1 ⟨v,H1,I1,rv,q1⟩=>cq (ho J2 s1 σ H1 _ I1 q1) fun u s2 ⟨x,H2,I2,rx,q2⟩=>cq (hi J2 s2 σ H2 _ I2 q2) fun iv s3 ⟨y,H3,I3,ry,a,b,kvs,k,ex,ey,e,eb,e8,l,q3⟩=>?_) hs;subst ex;subst ey;obtain rfl:u=Value.ref a:=rx;exact zH hu I3 e eb e8 l ry rv fun s4 I4=>⟨σ,_,I4,q3⟩
end
theorem ut{K:Za}{H:Hp}:∀xs:List Str,TKCs K H (xs.map fun x=>TK.k (some (.inr x))) (xs.map V.str)
 |[]=>by show TKCs K H [] [];unfold TKCs;rfl
 |x::xs=>by
  rw[bj,bj];unfold TKCs;refine⟨_,_,rfl,?_,ut xs⟩;unfold p7
  rfl
theorem CA{K:Za}{H:Hp}{a:Addr}{xs:Zb}(h:gj K H a (xs.map V.str)):p7 K H (.t (xs.map fun x=>TK.k (some (.inr x)))) (.ref a):=by
 unfold p7;exact⟨a,_,rfl,h,ut xs⟩
end L2
end

section
set_option Elab.async false
set_option linter.all false
set_option maxRecDepth 100000
namespace L2
open PySem PySem.Spec PyProof.Rows PySem.W
def Fw:Expr->List Str
 |.Name x _=>[x]
 |.Tuple es _ _=>es.filterMap fun e=>match e with | .Name x _=>some x|_=>none
 |_=>[]
theorem bK{X:Cx}{b:List Stmt}{t:TS}{D:qz}{σ:St}{H:Hp}(r:t D σ H)(p:yz X b t):∃t,yz X b t/\t D σ H:=⟨t,p,r⟩
section
variable{X:Cx}{k k0:Nat}{ps:Zb}{sp:Sp}{x m:Str}{C:Addr}{p pos J4:Pos}{o e a b:Expr}{es:List Expr}{t:TA}{ta tb te:TE}
theorem qf(hr:ei k0 X.A)(D:fV X.prog X.w X.K X.mg X.base x ps k sp)(ha:PA X (e::es) t)(hk:k<=k0:=by decide)(hg:Gl X x:=by rfl)(hdb:(x==("__debug__":Str))=false:=by decide)
  (he:aK (e::es) X.env=(false,eval e X.env)::aK es X.env:=by rfl) (hpl:(backTo pos (aK es X.env)).any (·.1)=false:=by rfl) :
  PE X (.Call (.Name x p) (e::es) [] pos) (aI sp t):=FE D (hr.mono hk) hg ha hdb he hpl
theorem qm{pl:Sem Bool}(hr:ei k0 X.A)(M:pD X.prog X.w X.K X.mg X.base C m ps k sp)(he:PE X o ta)(ha:PA X (e::es) t)(hk:k<=k0:=by decide)
  (hst:aK (e::es) X.env=(false,eval e X.env)::aK es X.env:=by rfl) (hpl:(backTo pos (aK es X.env)).any (·.1)=false:=by rfl)
  (ht:eval (.Call (.Attribute o m J4) (e::es) [] pos) X.env=(do
   let ov <- eval o X.env
   pN J4.atName
   let(f,first) <- km [ov] (pJ ov m pl)
   ug pos f first (backTo pos (aK (e::es) X.env)) (np pos (nn [] X.env))):=by rfl) :
  PE X (.Call (.Attribute o m J4) (e::es) [] pos) (bY C m sp [] E0 ta t):=Gd (pl:=pl) M (hr.mono hk) he ha hst hpl ht
theorem C8{pl:Sem Bool}(hr:ei k0 X.A)(M:pD X.prog X.w X.K X.mg X.base C m ps k sp)(he:PE X o ta)(hk:k<=k0:=by decide)
  (ht:eval (.Call (.Attribute o m J4) [] [] pos) X.env=(do
   let ov <- eval o X.env
   pN J4.atName
   let(f,first) <- km [ov] (pJ ov m pl)
   ug pos f first (backTo pos (aK [] X.env)) (np pos (nn [] X.env))):=by rfl) :
  PE X (.Call (.Attribute o m J4) [] [] pos) (bY C m sp [] E0 ta bm):=ER (pl:=pl) M (hr.mono hk) he ht
theorem xl(ha:PE X a ta)(hb:PE X b tb)(hs:Cc b:=by exact fun _ _=>rfl):PE X (.Subscript a b pos) (aJ (dk X.K) ta tb):=Aw AJ ha hb hs
theorem xt(ha:PE X a ta)(hb:PE X b tb)(hs:Cc b:=by exact fun _ _=>rfl):PE X (.Subscript a b pos) (aJ (o5 X.K) ta tb):=Aw Dv ha hb hs
theorem xq(ha:PE X a ta)(hb:PE X b tb)(hs:Cc b:=by exact fun _ _=>rfl):PE X (.Subscript a b pos) (aJ (pT X.K) ta tb):=Aw Gi ha hb hs
theorem xs'(ha:PE X a ta)(hb:PE X b tb)(hs:Cc b:=by exact fun _ _=>rfl):PE X (.Subscript a b pos) (aJ C4 ta tb):=Aw Dw ha hb hs
theorem i9{op:CmpOp}{r:R2}(ho:mS X (eL op) r)(ha:PE X a ta)(hb:PE X b tb)(hm:j4 op b=false:=by exact Dk _):PT X (.Compare a [op] [b] pos) (aV (aJ r ta tb)):=Au ho ha hb hm
theorem GY{op:CmpOp}{r:R2}(ho:mS X (eL op) r)(ha:PE X a ta)(hb:PE X b tb)(hm:j4 op b=false:=by exact Dk _):PE X (.Compare a [op] [b] pos) (aJ r ta tb):=Ax ho ha hb hm
theorem Es{op:CmpOp}{r:R2}(ho:mS X (eL op) r)(ha:PE X a ta)(hb:PE X b tb)(hm:j4 op b=false:=by with_unfolding_all rfl):PT X (.Compare a [op] [b] pos) (aV (aJ r ta tb)):=Au ho ha hb hm
theorem eci{op:CmpOp}{r:R2}(ho:mS X (eL op) r)(ha:PE X a ta)(hb:PE X b tb)(hm:j4 op b=false:=by with_unfolding_all rfl):PE X (.Compare a [op] [b] pos) (aJ r ta tb):=Ax ho ha hb hm
theorem qB{id:String}{r:List V->Hp->VK->Prop}(hc:fj X (.builtin id) r)(hm:X.mg x=none)(hv:i7 x=some (.builtin id))(ha:PA X (e::es) t)(hg:Gl X x:=by rfl)(hn:x≠"__name__":=by decide)(hdb:(x==("__debug__":Str))=false:=by decide)
  (he:aK (e::es) X.env=(false,eval e X.env)::aK es X.env:=by rfl) (hpl:(backTo pos (aK es X.env)).any (·.1)=false:=by rfl):PE X (.Call (.Name x p) (e::es) [] pos) (fE r t):=xB hc hg hm hv ha hn hdb he hpl
theorem qL(hc:X.calm=true)(hm:X.mg "list"=none)(ha:PA X (e::es) t)(hg:Gl X "list":=by rfl)
  (he:aK (e::es) X.env=(false,eval e X.env)::aK es X.env:=by rfl) (hpl:(backTo pos (aK es X.env)).any (·.1)=false:=by rfl):PE X (.Call (.Name "list" p) (e::es) [] pos) (fE (da X.K) t):=gf (zM hc) hg hm zN ha (by decide) (by decide) he hpl
theorem ql(hm:X.mg "len"=none)(ha:PA X (e::es) t)(hg:Gl X "len":=by rfl)
  (he:aK (e::es) X.env=(false,eval e X.env)::aK es X.env:=by rfl) (hpl:(backTo pos (aK es X.env)).any (·.1)=false:=by rfl):PE X (.Call (.Name "len" p) (e::es) [] pos) (fE (gH X.K) t):=xB B_ hg hm PySem.boot_len ha (by decide) (by decide) he hpl
theorem qs(i:Nat){pos':Pos}(hN:X.N.Nodup)(he:PE X e te)(hi:X.N[i]?=some x:=by rfl)(hx:Loc X.env.scope x:=by first|exact Or.inl rfl|exact Or.inr rfl)(hs:pM e (some (.Name x pos')) pos.line X.env=pure false:=by rfl)(hf:X.fn x=true∨X.env.scope.names.lookup x=some .local:=by first|exact .inl rfl|exact .inr rfl|assumption):
  PS X (.Assign [.Name x pos'] e pos) (aM te (dH i)):=F0 hN hi hx he hs hf
theorem gn(i:Nat)(hN:X.N.Nodup)(hi:X.N[i]?=some x:=by rfl)(hx:Loc X.env.scope x:=by first|exact Or.inl rfl|exact Or.inr rfl)(hf:X.fn x=true∨X.env.scope.names.lookup x=some .local:=by first|exact .inl rfl|exact .inr rfl|assumption):PG X (.Name x pos) (dH i):=Av hN hi hx hf
theorem gc(i:Nat)(hN:X.N.Nodup:=by exact of_decide_eq_true (by with_unfolding_all rfl))(hi:X.N[i]?=some x:=by rfl)(hx:Loc X.env.scope x:=by exact Or.inl rfl)(hf:X.fn x=true∨X.env.scope.names.lookup x=some .local:=by first|exact .inl rfl|exact .inr rfl|assumption):PG X (.Name x pos) (dH i):=Av hN hi hx hf
theorem a1(ha:PE X a ta)(hs:aK [a] X.env=(false,eval a X.env)::aK [] X.env:=by rfl):PA X [a] (ao ta bm):=aQ ha cM hs
theorem a2(ha:PE X a ta)(hb:PE X b tb)(hs:aK [a,b] X.env=(false,eval a X.env)::aK [b] X.env:=by rfl)(hs2:aK [b] X.env=(false,eval b X.env)::aK [] X.env:=by rfl):PA X [a,b] (ao ta (ao tb bm)):=aQ ha (aQ hb cM hs2) hs
theorem a3{c:Expr}{tc:TE}(ha:PE X a ta)(hb:PE X b tb)(hc:PE X c tc)(hs:aK [a,b,c] X.env=(false,eval a X.env)::aK [b,c] X.env:=by rfl)(hs1:aK [b,c] X.env=(false,eval b X.env)::aK [c] X.env:=by rfl)(hs2:aK [c] X.env=(false,eval c X.env)::aK [] X.env:=by rfl):PA X [a,b,c] (ao ta (ao tb (ao tc bm))):=aQ ha (a2 hb hc hs1 hs2) hs
variable{elt iter tg:Expr}{ifs:List Expr}{scope:Scope}{fi:List Nat}{wi:TI}{g:TG}{tc:TT}
theorem qc(hi:PI X tg iter wi)(ho:yi k g)
  (h:∀C cl s₀ H₀ ex pn,PG (df X (Fw tg++fi.map fun i=>X.N.getD i "") scope C cl s₀ H₀ ex pn) tg g/\FR (df X (Fw tg++fi.map fun i=>X.N.getD i "") scope C cl s₀ H₀ ex pn) ifs tc/\PE (df X (Fw tg++fi.map fun i=>X.N.getD i "") scope C cl s₀ H₀ ex pn) elt te)
  (hS:lG X.env.scope scope k (Fw tg++fi.map fun i=>X.N.getD i "") X.N fi=true:=by with_unfolding_all rfl) (hc:X.calm=true:=by rfl)
  (hs:∀x,wT iter X.env x=pure x:=by intro _;rfl):PE X (.ListComp elt [⟨tg,iter,ifs,0⟩] scope pos) (b_ k fi wi g tc te) :=
 EV hS hc hi (fun _ _ _ _ _ _=>(h _ _ _ _ _ _).1) ho (fun _ _ _ _ _ _=>(h _ _ _ _ _ _).2.1) (fun _ _ _ _ _ _=>(h _ _ _ _ _ _).2.2) hs
theorem FZ(j:Nat){y:Str}{spos py:Pos}(hN:X.N.Nodup)(hi:PI X tg iter wi)(ho:yi k g)
  (h:∀C cl s₀ H₀ ex pn,PG (df X (Fw tg++fi.map fun i=>X.N.getD i "") scope C cl s₀ H₀ ex pn) tg g/\FR (df X (Fw tg++fi.map fun i=>X.N.getD i "") scope C cl s₀ H₀ ex pn) ifs tc/\PE (df X (Fw tg++fi.map fun i=>X.N.getD i "") scope C cl s₀ H₀ ex pn) elt te)
  (hj:X.N[j]?=some y:=by rfl) (hy:Loc X.env.scope y:=by first|exact Or.inl rfl|exact Or.inr rfl)
  (hS:lG X.env.scope scope k (Fw tg++fi.map fun i=>X.N.getD i "") X.N fi=true:=by with_unfolding_all rfl) (hc:X.calm=true:=by rfl)
  (hsw:pM (.ListComp elt [⟨tg,iter,ifs,0⟩] scope pos) (some (.Name y py)) spos.line X.env=pure true:=by rfl)
  (hs:∀x,wT iter X.env x=pure x:=by intro _;rfl) (hf:X.fn y=true∨X.env.scope.names.lookup y=some .local:=by first|exact .inl rfl|exact .inr rfl|assumption) :
  PS X (.Assign [.Name y py] (.ListComp elt [⟨tg,iter,ifs,0⟩] scope pos) spos) (aM (b_ k fi wi g tc te) (dH j)) :=
 zd hN hj hy hS hc hi (fun _ _ _ _ _ _=>(h _ _ _ _ _ _).1) ho (fun _ _ _ _ _ _=>(h _ _ _ _ _ _).2.1) (fun _ _ _ _ _ _=>(h _ _ _ _ _ _).2.2) hsw hs hf
end
end L2
end

section
set_option Elab.async false
set_option linter.all false
set_option maxRecDepth 100000
namespace L2
open PySem PySem.Spec PyProof.Rows
structure Ea(h:Heap)(d:Addr)(es:Array kz)(ep:Nat):Prop where
 ex:∃o,h.get? d=some o/\o.ExactDict/\o.data=.dict es ep
section
variable{prog:bM}{w:World}{A:Around}{E:Zc}{s:Shared}{d v it:Addr}{es:Array kz}{ep i:Nat}
theorem Ea.ty(h:Ea s.heap d es ep):s.TypeIs (.ref d) "dict":=let⟨o,ho,e,_⟩:=h.ex;⟨o,ho,e.1⟩
end
structure Gv(P:bM)(w:World)(K:Za)(d:Addr)(o:Obj)(u:HO)(n:Nat)(ent:Nat->Hp->V->V->Prop)(es:Array kz)(ep:Nat):Prop where
 ex:o.ExactDict
 dat:o.data=.dict es ep
 sz:es.size=n
 get:∀{H:Hp}{h:Heap}{i:Nat}(hi:i<es.size),lI P w K H h->H d=some (.frz o u)->∃a b,ent i H a b/\RelV a es[i].key/\RelV b es[i].val
def Fg(K:Za)(kvs:List (TK×V)):Nat->Hp->V->V->Prop:=fun i H a b=>∃k,kvs[i]?=some (k,b)/\p7 K H k a
theorem uG{P:bM}{w:World}{K:Za}{H:Hp}{h:Heap}{d:Addr}{o:Obj}{kvs:List (TK×V)}(hok:lI P w K H h)(e:H d=some (.frz o (.dT kvs))):
  (d==g6)=false/\∃es ep,Gv P w K d o (.dT kvs) kvs.length (Fg K kvs) es ep:=by
 obtain⟨g,z,hsys,xs,rel,o',es,ep,ho',ex,hd,hes,nd⟩:=(show ca P w K H h d (.frz o (.dT kvs))from hok d _ e);rw[g]at ho';cases ho';have hl:es.size=xs.length:=by rw[<-lY,hes,ah]
 refine⟨hsys,es,ep,ex,hd,by rw[hl,Paired.length rel],fun{H' h' i} hi hok' e'=>?_⟩;obtain⟨g',z',hsys',xs',rel',o'',es',ep',ho'',ex',hd',hes',nd'⟩:=(show ca P w K H' h' d (.frz o (.dT kvs))from hok' d _ e');rw[g']at ho'';cases ho'';rw[hd]at hd';cases hd';have hl':es.size=xs'.length:=by rw[<-lY,hes',ah]
 have hi':i<xs'.length:=by omega
 have hk:i<kvs.length:=by rw[Paired.length rel'];exact hi'
 have hp:=ux rel' (i:=i) (a:=kvs[i]) (b:=xs'[i]) (by simp[hk]) (by simp[hi']);have he:es[i]=entryOfKey (dL P w) xs'[i]:=by
  have:es.toList[i]?=some es[i]:=by simp[hi]
  rw[hes',cS,iT hi']at this;injection this with this;exact this.symm
 refine⟨.ref xs'[i].2.1,kvs[i].2,⟨kvs[i].1,by simp[hk],hp.2.1⟩,?_,?_⟩
 ·rw[he];exact rfl
 ·rw[he];exact hp.2.2.2
end L2
end

section
set_option Elab.async false
set_option linter.all false
set_option maxRecDepth 100000
namespace L2
open PySem PySem.Spec PyProof.Rows
section
variable{prog:bM}{w:World}{A:Around}{E:Zc}{s:Shared}{d v it:Addr}{es:Array kz}{ep i:Nat}
theorem BD{Q:Zc}(hd:(d==g6)=false)(h:Ea s.heap d es ep)
  (q:∀h',h'.IsKeyIter s.heap.objs.size d 0 es.size ep->(∀b o,s.heap.get? b=some o->h'.get? b=some o)->Q (.ref s.heap.objs.size) { s with heap:=h' }):wpAny (model prog w) A (pyIter (.ref d)) Q E s:=by
 obtain⟨o,ho,hx,hdat⟩:=h.ex;refine wpAny_pyIter_slot h.ty F.slot_dict_iter <| uS F.slot_dict_iter h.ty F.entry_dict_iter ?_ (F.args_dict_iter_1 _);unfold cF.«dict.__iter__»;refine ap ?_;unfold cF.Dict.dictSlotNone;refine ap <| wpAny_notOrdered_dict h.ty <| ?_;refine aX (show wpAny _ _ (cF.Dict.showsAll d >>= _) _ _ s from ?_);unfold cF.Dict.showsAll;rw[if_neg (fun z=>by rw[hd]at z;cases z)];refine ap <| aX <| ap <| u6 ho hdat <| ap <| wpAny_dictEpoch ho hdat ?_;refine ap (oI (aX ⟨_,rfl,"dict_keyiterator",_,⟨_,cQ _ rfl,rfl⟩,qV.lookup,?_⟩));exact q _ ⟨_,cQ _ rfl,rfl,by simp[rawInt]⟩ fun b o e=>bv _ e
theorem BB{Q:Option Value->Shared->Prop}(hit:s.heap.IsKeyIter it d i es.size ep)(h:Ea s.heap d es ep)(hi:i<es.size)
  (q:∀h',h'.IsKeyIter it d (i+1) es.size ep->iE it s.heap h'->Q (some es[i].key) { s with heap:=h' }):wpAny (model prog w) A (pyNext (.ref it)) Q E s:=by
 obtain⟨ov,hov,hcv,hdv⟩:=id hit;obtain⟨o,ho,hx,hdat⟩:=h.ex;have hT:=hit.typeIs;unfold pyNext;refine ap <| va <| oG (name:=oF "__next__") hT qV <| uS qV hT F.entry_dict_keyiterator_next ?_ (F.args_dict_keyiterator_next_1 _);refine ap <| aX <| ap <| ap ?_
 first|refine ap <| u4 hT <| aX ?_|refine ap <| u3 hT <| aX ?_
 refine ap <| wpAny_fieldsOf hov hdv ?_;simp only[show cF.Dict_items.ownsTuple "dict_keyiterator"=false by decide,qY,if_false];show wpAny _ _ (if(Value.ref d==Value.none)=true then _ else _) _ _ _
 rw[if_neg (show ¬((Value.ref d==Value.none)=true)from gD)];refine ap <| aX <| ap <| u6 ho hdat ?_;rw[if_neg (by simp)];refine ap <| aX <| ap <| wpAny_dictEpoch ho hdat ?_;rw[if_neg (by simp)];refine aX ?_;simp only[show ¬((i:Int)<0)from by omega,if_false,kC,Array.getElem?_eq_getElem hi];refine ap ?_
 first|refine ap <| u4 hT <| aX ?_|refine ap <| u3 hT <| aX ?_
 refine ap <| wpAny_isOneOf_keyiter hT ?_;show wpAny _ _ (setField (.ref it) 1 (rawInt ((i:Int)+1)) >>= _) _ _ s;refine ap <| vf hov hdv (by simp) ?_;have n1:(s.heap.update it (Obj.mapFields (·.setIfInBounds 1 (rawInt ((i:Int)+1))))).IsKeyIter it d (i+1) es.size ep:=⟨_,vp _ hov (Obj.isFreed_of_fields (ve hdv _)),(Obj.cls_mapFields ..).trans hcv,by rw[ve hdv];simp[rawInt]⟩;have T1:=Heap.IsKeyIter.typeIs (s:={ s with heap:=s.heap.update it (Obj.mapFields (·.setIfInBounds 1 (rawInt ((i:Int)+1)))) }) n1;refine ap <| pR <| ap <| wpAny_isOneOf_keyiter T1 ?_;show wpAny _ _ (pure es[i].key) _ _ _;exact aX <| aX ⟨_,rfl,aX <| q _ n1 (mm ..)⟩
theorem CY{Q:Option Value->Shared->Prop}(hh:A.handled=none)(hit:s.heap.IsKeyIter it d i es.size ep)(h:Ea s.heap d es ep)(hi:es.size<=i)
  (q:∀h',Heap.ExtBut it s.heap h'->Q none { s with heap:=h' }):wpAny (model prog w) A (pyNext (.ref it)) Q E s:=by
 obtain⟨ov,hov,hcv,hdv⟩:=id hit;obtain⟨o,ho,hx,hdat⟩:=h.ex;have hT:=hit.typeIs;unfold pyNext;refine ap <| va <| oG (name:=oF "__next__") hT qV <| uS qV hT F.entry_dict_keyiterator_next ?_ (F.args_dict_keyiterator_next_1 _);refine ap <| aX <| ap <| ap ?_
 first|refine ap <| u4 hT <| aX ?_|refine ap <| u3 hT <| aX ?_
 refine ap <| wpAny_fieldsOf hov hdv ?_;simp only[show cF.Dict_items.ownsTuple "dict_keyiterator"=false by decide,qY,if_false];show wpAny _ _ (if(Value.ref d==Value.none)=true then _ else _) _ _ _
 rw[if_neg (show ¬((Value.ref d==Value.none)=true)from gD)];refine ap <| aX <| ap <| u6 ho hdat ?_;rw[if_neg (by simp)];refine ap <| aX <| ap <| wpAny_dictEpoch ho hdat ?_;rw[if_neg (by simp)];refine aX ?_;simp only[show ¬((i:Int)<0)from by omega,if_false,kC,Array.getElem?_eq_none hi];refine ap ?_
 first|refine ap <| u4 hT <| aX ?_|refine ap <| u3 hT <| aX ?_
 show wpAny _ _ (setField (.ref it) 0 .none >>= _) _ _ s;refine ap <| vf hov hdv (by simp) ?_;show wpAny _ _ (newExc (.type "StopIteration") [] >>= _) _ _ _;refine ap ?_;simp only[newExc,newTuple];refine ap <| oI ?_ (by size_fits);refine ap (m:=vd _ _) <| wpAny_of_eq (a:=Value.none) (by first|rfl|(simp only[vd];rfl)) <| oI ?_ (by size_fits)
 simp only[raiseNew];refine ap <| wpAny_handled ?_;rw[show A.in1.handled=none from hh];refine ap <| aX <| wpAny_throw ?_;refine ap (Ai (b:=true) (T:="StopIteration") ⟨_,cQ _ rfl,rfl⟩ isSubtype_stop (aX (q _ (((mm ..).extBut.push _).push _))))
end
def GB(d:Addr)(o:Obj)(u:HO)(n:Nat)(ent:Nat->Hp->V->V->Prop):It :=
 ⟨fun i H=>H d=some (.frz o u)/\i<n,fun i H x H'=>H'=H/\∃b,ent i H x b,fun i H=>H d=some (.frz o u)/\n<=i⟩
theorem Bb{P:bM}{w:World}{K:Za}{tg:Expr}{d it:Addr}{o:Obj}{u:HO}{n:Nat}{ent:Nat->Hp->V->V->Prop}{es:Array kz}{ep:Nat}(X0:Gv P w K d o u n ent es ep):
  sU P w K tg (GB d o u n ent) [it] it (fun i h=>h.IsKeyIter it d i n ep) where
 mem:=by simp
 obj:=fun i h st b hb=>by
  have e:b=it:=by simpa using hb
  subst e;obtain⟨o,e,c,d⟩:=st;exact⟨o,e,fun v z=>by rw[d]at z;cases z⟩
 keep:=fun i h h' st k=>st.at fun o e=>k it (by simp) o e
 item:=by
  intro X hP hw hK hc i J2 s σ H E I hf st hg;subst hP hw hK;obtain⟨hd,hi⟩:=hg;have hi':i<es.size:=by rw[X0.sz];exact hi
  obtain⟨g,ou⟩:=(show ca X.prog X.w X.K H s.heap d (.frz o u)from I.hok d _ hd);obtain⟨a,b,en,ra,rb⟩:=X0.get hi' I.hok hd;obtain⟨f0,f1,f2,f3,f4,f5⟩:=hf it (by simp);rw[<-X0.sz]at st;refine BB st ⟨o,g,X0.ex,X0.dat⟩ hi' fun h' st' sb=>?_;have I1:Inv X J2 σ H { s with heap:=h' }:=I.turned (t':=s.toks) (fun b o hb e=>(sb.2 b hb).trans e) f0 f1 f3 f4 f5;obtain⟨oi,e,c,dd⟩:=id st';exact⟨_,rfl,uF (s:={ s with heap:=h' }) e c dd (by decide) ⟨a,H,I1,ra,⟨rfl,b,en⟩,by rw[<-X0.sz];exact st',fun b hb=>(hf b hb).1⟩⟩
 done:=by
  intro X hP hw hK hc i J2 s σ H E I hf st hg;subst hP hw hK;obtain⟨hd,hi⟩:=hg;obtain⟨g,ou⟩:=(show ca X.prog X.w X.K H s.heap d (.frz o u)from I.hok d _ hd);obtain⟨f0,f1,f2,f3,f4,f5⟩:=hf it (by simp);rw[<-X0.sz]at st;exact CY (I.ok.hd hc) st ⟨o,g,X0.ex,X0.dat⟩ (by rw[X0.sz];exact hi) fun h' eb=>⟨rfl,I.turned (t':=s.toks) (fun b o hb e=>eb b o hb e) f0 f1 f3 f4 f5⟩
 self:=fun _ _ _ _ _ st h=>wpAny_pyIter_keyiter st h
def Dz(K:Za)(tl:TE):TI:=fun σ H R=>tl σ H fun x H1=>∃d kvs,x=.ref d /\
 ((H1 d=some (.dT kvs)/\∀o,R (GB d o (.dT kvs) kvs.length (Fg K kvs)) (upd H1 d (.frz o (.dT kvs))))∨∃o,H1 d=some (.frz o (.dT kvs))/\R (GB d o (.dT kvs) kvs.length (Fg K kvs)) H1)
section
variable{X:Cx}{J2:Zd}{σ:St}{l tg:Expr}{tl:TE}
theorem uB{R:It->Hp->Prop}{H2:Hp}{s1:Shared}{d:Addr}{o:Obj}{u:HO}{n:Nat}{ent:Nat->Hp->V->V->Prop}{es:Array kz}{ep:Nat}(X0:Gv X.prog X.w X.K d o u n ent es ep)(hsys:(d==g6)=false)(I2:Inv X J2 σ H2 s1)(e:H2 d=some (.frz o u))(q:R (GB d o u n ent) H2):
  wpAny (model X.prog X.w) X.A (pyIter (.ref d)) (PIE X J2 σ tg R) X.xe s1:=by
 obtain⟨g,_⟩:=(show ca X.prog X.w X.K H2 s1.heap d (.frz o u)from I2.hok d _ e);refine BD hsys ⟨o,g,X0.ex,X0.dat⟩ fun h' hit hk=>?_;have I3:Inv X J2 σ H2 { s1 with heap:=h',toks:=s1.toks }:=I2.kept (t':=s1.toks) hk;refine⟨_,[_],_,_,H2,rfl,I3,Bb X0,by rw[<-X0.sz];exact hit,fun b hb=>?_,q⟩;have e:b=s1.heap.objs.size:=by simpa using hb
 subst e;exact I2.fpOk (aA _) (I2.hok.fresh (aA _))
theorem Dc(hl:PE X l tl):PI X tg l (Dz X.K tl):=by
 intro J2 s σ H R I h;refine cq (hl J2 s σ H _ I h) fun v s1 ⟨x,H1,I1,r1,d,kvs,ex,q⟩=>?_;subst ex;cases r1;rcases q with⟨e,q⟩|⟨o,e,q⟩
 ·obtain⟨z,hsys,xs',rel,o,es,ep,ho,r⟩:=id (show ca X.prog X.w X.K H1 s1.heap d (.dT kvs)from I1.hok d _ e);have I2:Inv X J2 σ (upd H1 d (.frz o (.dT kvs))) { s1 with heap:=s1.heap,toks:=s1.toks } :=
   I1.write (x:=d) (e:=d) (t':=s1.toks) (by rw[e];trivial) (.inl rfl) (fun _ _ _ q=>q) ⟨o,ho⟩ ⟨ho,z,hsys,xs',Paired.mapP rel (fun p q r=>⟨r.1,p7.keeps (fun b ys eb=>by rw[ai (fun z=>by rw[z,e]at eb;cases eb)];exact eb) 8 r.2.2.1 r.2.1,r.2.2⟩),o,es,ep,ho,r⟩
  obtain⟨hsys',es',ep',X0⟩:=uG I2.hok (aa (H:=H1) (a:=d));exact uB X0 hsys' I2 aa (q o)
 ·obtain⟨hsys',es',ep',X0⟩:=uG I1.hok e;exact uB X0 hsys' I1 e q
end
end L2
end

section
set_option Elab.async false
set_option linter.all false
set_option maxRecDepth 100000
namespace HT
open PySem PySem.Spec PyProof.Rows
end HT
namespace L2
open PySem PySem.Spec PyProof.Rows
end L2
namespace HT
open PySem PySem.Spec PyProof.Rows
end HT
namespace L2
open PySem PySem.Spec PyProof.Rows
end L2
end

section
set_option Elab.async false
set_option linter.all false
set_option maxRecDepth 100000
namespace HT
open PySem PyProof.Rows
end HT
namespace L2
open PySem PySem.Spec PyProof.Rows
end L2
end

section
set_option Elab.async false
set_option linter.all false
set_option maxRecDepth 100000
namespace L2
open PySem PySem.Spec PyProof.Rows
abbrev C0(K:Za):List V->Hp->VK->Prop:=fun xs H Q=>∃(p:Addr) (ns:List Int),xs=[.ref p]/\ax K H p (ns.map V.int)/\Q (.int ns.sum) H
abbrev C2:R2:=rI IntMulOk fun i j=>.int (i * j)
section
variable{X:Cx}
theorem uL(hc:X.calm=true):fj X (.builtin "sum") (C0 X.K):=by
 intro J2 s σ H xs us Q I r h;obtain⟨p,ns,rfl,hq,q⟩:=h;obtain⟨u,rfl,ru⟩:=vals1 r;cases ru;obtain⟨its,rv,pl,hz⟩:=I.list hq;obtain⟨zs,rfl,ens⟩:=Am rv;have isl:s.heap.IsList p (intItems zs.toArray):=by
  have:=pl.isList;have e:intItems zs.toArray=(zs.map fun p=>Value.int p.1 p.2).toArray:=by simp[intItems]
  rw[e];exact this
 refine sum_intListG (I.ok.hd hc) isl fun h' tk t' hk=>?_;rw[preSum_eq,u1 (by simp)];exact⟨.int ns.sum,H,I.kept hk,⟨t',by rw[<-ens]⟩,q⟩
theorem AB:mS X (lX .Mult) C2:=GP fun _ _ _ _ _ _ _ hc q=>mul_int q hc
end
abbrev GI:List V->Hp->VK->Prop:=fun xs H Q=>∃i j,xs=[.int i,.int j]/\Q (.int (if j > i then j else i)) H
end L2
end
set_option Elab.async false
set_option linter.all false
set_option maxRecDepth 100000
set_option maxHeartbeats 4000000
namespace Mum
open PySem PySem.Spec PyProof.Rows L2
def vE(K:Za):TS :=
 ar (cz (aV (aJ rGeI V0 (aJ FB (tC (.int 10)) (tC (.int 18))))) (a_ V0) (bH))
 (ar (aM (aJ iK (aJ dq (aJ dq (aJ kL (aJ iK V0 (tC (.int 1000000007))) (tC (.int 69069))) (aJ kL V1 (tC (.int 40503)))) (tC (.int 977))) (tC (.int 2147483629))) U2)
 (ar (aM (aJ iK (aJ dq (aJ dq (aJ kL V2 V2) (aJ kL V1 (tC (.int 7919)))) (aJ iK V0 (tC (.int 65537)))) (tC (.int 2147483587))) U3)
 (ar (aM (aJ iK (aJ dq (aJ dq (aJ kL V3 V3) (aJ kL V2 (tC (.int 31)))) (tC (.int 5))) (tC (.int 2147483563))) U4)
 (a_ (aJ dq (aJ kL (aJ dq (aJ kL V2 (tC (.int 2147483659))) V3) (tC (.int 2147483693))) V4)))))
def wI:List Str:=["cell","at","one","two","three"]
def yJ(K:Za):TS :=
 ar (aM (fE (da K) (ay (Ap (rZ K) V0 (fC) (gE (tC (.int 12)))))) U1)
 (ar (dZ (uE K (ay (Ap (rZ K) V0 (gE (tC (.int 12))) (gE (tC (.int 63)))))) (lS K 2 (bI U2 (bI U3 (kS)))) (aM (aJ dq (aJ (dk K) V1 (aJ iK V2 (tC (.int 12)))) V3) (zF V1 (aJ iK V2 (tC (.int 12))) r8)))
 (a_ (cK (bX V1 (tC (.int 0)) (tC (.int 0))))))
def zW:List Str:=["script","cells","k","cell"]
def yM(K:Za):TS :=
 ar (aM (tC (.int 0)) (zF V0 (tC (.int 2)) r8))
 (a_ V0)
def zY:List Str:=["pen"]
def yI(K:Za)(sp_law_spread:Sp):TS :=
 ar (cz (aV (aJ C3 (aJ (dk K) V0 (tC (.int 2))) V1)) (ar (aM (aJ (dk K) V0 (tC (.int 1))) U2)
 (ar (aM (tC (.int 0)) U3)
 (ar (cz (aV (aJ C3 V2 (fE (gH K) (ay (aJ (dk K) V0 (tC (.int 0))))))) (aM (aJ (dk K) (aJ (dk K) V0 (tC (.int 0))) V2) U3) (cz (aV (aJ C5 (fE (gH K) (ay (aJ (dk K) V0 (tC (.int 0))))) (tC (.int 0)))) (aM (aJ iK (aJ (dk K) (aJ (dk K) V0 (tC (.int 0))) (aJ iK (aJ dq (aJ kL V2 (tC (.int 5))) (tC (.int 3))) (fE (gH K) (ay (aJ (dk K) V0 (tC (.int 0))))))) (aJ dq (aJ FB (tC (.int 10)) (tC (.int 17))) V2)) U3) (bH)))
 (ar (aM (aJ dq V2 (tC (.int 1))) (zF V0 (tC (.int 1)) r8))
 (aM (aI sp_law_spread (aS V3 V2)) (zF V0 (tC (.int 2)) r8)))))) (bH))
 (ar (aM (aJ iK (aJ (dk K) V0 (tC (.int 2))) V1) U4)
 (ar (aM (aJ C6 (aJ (dk K) V0 (tC (.int 2))) V1) (zF V0 (tC (.int 2)) r8))
 (a_ V4)))
def zV:List Str:=["pen","many","at","cell","found"]
def w8(K:Za)(sp_law_take:Sp):TS :=
 ar (aM (tC (.str "abcdefghijklmnopqrstuvwxyz")) U2)
 (ar (aM (Bk K "str" (FC K) (tC (.str "")) (ao (b_ 1 [2,0] (uD (ay (tC (.int 7)))) U0 (gV) (aJ C4 V1 (aI sp_law_take (aS V2 (tC (.int 26)))))) bm)) U3)
 (ar (aM (aI sp_law_take (aS V0 (tC (.int 3)))) U4)
 (ar (aM (aI sp_law_take (aS V0 (tC (.int 26)))) U5)
 (ar (aM (aI sp_law_take (aS V0 (tC (.int 8)))) U6)
 (ar (aM (cK (bm)) U7)
 (ar (dZ (uD (ay V1)) U8 (ar (aM (aJ C4 V2 (aJ iK (aJ dq V5 (aJ kL (tC (.int 3)) V8)) (tC (.int 26)))) U9)
 (ar (aM (Ap EN V3 (fC) (gE (aJ iK (aJ dq V6 (aJ kL V8 (aJ iK V4 (tC (.int 2))))) (tC (.int 8))))) G3)
 (ar (aM (aJ (dk K) (cK (bX (tC (.int 0)) (fE (gH K) (ay Ej)) (aJ C6 (fE (gH K) (ay Ej)) (tC (.int 2))))) V4) U11)
 (cr (Bk K "list" hE V7 (ay (aJ FD (aJ FD (Ap EN Ej (fC) (gE V11)) V9) (Ap EN Ej (gE V11) (fC))))))))))
 (a_ V7)))))))
def yn:List Str:=["pen","many","letters","base","way","turn","size","found","k","sign","part","at"]
def Bg(K:Za):TS :=
 cz (aV (aJ (nS K true) V1 V0)) (cr (Bk K "list" hE V0 (ay V1))) (bH)
def Cf:List Str:=["doors","door"]
def oQ(K:Za)(sp_law_take:Sp)(sp_law_put:Sp):TS :=
 ar (aM (cK (bm)) U5)
 (ar (aM (aI sp_law_take (aS V0 (tC (.int 2)))) U6)
 (ar (dZ (uE K (ay V3)) (lS K 2 (bI U7 (bI U8 (kS)))) (ar (dZ (uD (ao (aJ (dk K) (cK (ao (tC (.int 0)) (bX (tC (.int 1)) (tC (.int 1)) (tC (.int 2))))) (aI sp_law_take (aS V0 (tC (.int 4))))) bm)) U9 (ar (aM (bo (ao (tC (.str "say")) (ao (aJ (dk K) V2 (aI sp_law_take (aS V0 (fE (gH K) (ay V2))))) bm))) G3)
 (cr (aI sp_law_put (ao V5 (ao (bo (ao V8 (ao Ej (ao (aJ (dk K) V3 (aI sp_law_take (aS V0 (fE (gH K) (ay V3))))) bm)))) bm))))))
 (ar (dZ (bq K V1) U11 (dZ (uD (ao (aJ (dk K) (cK (ao V4 (bX (tC (.int 1)) (tC (.int 1)) (tC (.int 2))))) (aI sp_law_take (aS V0 (tC (.int 4))))) bm)) U9 (cr (aI sp_law_put (ao V5 (ao (bo (ao V8 (ao (bo (aS (tC (.str "ask")) V11)) (ao (aJ (dk K) V3 (aI sp_law_take (aS V0 (fE (gH K) (ay V3))))) bm)))) bm))))))
 (ar (aM (aJ (dk K) (cK (ao (Ap (rZ K) V3 (gE (aJ dq V7 (tC (.int 1)))) (fC)) (ay (Ap (rZ K) V3 (fC) (gE V7))))) V6) U12)
 (cz (rL (aV (aJ (xy K) V12 (cK (bm)))) (aV (aJ v5 (aI sp_law_take (aS V0 (tC (.int 3)))) (tC (.int 0))))) (cr (aI sp_law_put (ao V5 (ao (bo (ao V8 (ao (bo (ay (tC (.str "still")))) (ao (aJ (pT K) V12 (aI sp_law_take (aS V0 (fE (gH K) (ay V12))))) bm)))) bm)))) (bH))))))
 (a_ V5)))
def pp:List Str:=["pen","asks","says","rooms","full","doors","down","k","room","turn","sign","ask","later"]
def w_(K:Za)(sp_law_draw_doors:Sp)(sp_law_names:Sp)(sp_law_take:Sp)(sp_law_anew:Sp):TS :=
 ar (cr (aI sp_law_anew (ay V0)))
 (ar (aM (aI sp_law_names (aS V0 (tC (.int 8)))) U3)
 (ar (aM (Ap (rZ K) V3 (fC) (gE (aJ dq (tC (.int 1)) (aJ (dk K) (cK (ao (tC (.int 0)) (ao (tC (.int 1)) (ao (tC (.int 1)) (bX (tC (.int 2)) (tC (.int 2)) (tC (.int 3))))))) (aI sp_law_take (aS V0 (tC (.int 6)))))))) U4)
 (ar (aM (Ap (rZ K) V3 (gE (tC (.int 4))) (gE (aJ dq (tC (.int 5)) (aJ (dk K) (cK (ao (tC (.int 0)) (ao (tC (.int 1)) (ao (tC (.int 1)) (bX (tC (.int 2)) (tC (.int 2)) (tC (.int 3))))))) (aI sp_law_take (aS V0 (tC (.int 6)))))))) U5)
 (ar (aM (aI sp_law_names (aS V0 (aJ dq (tC (.int 1)) (aI sp_law_take (ao V0 (ay V1)))))) U6)
 (ar (aM (aI sp_law_draw_doors (ao V0 (ao V4 (bX V5 V6 V2)))) U7)
 (a_ (bo (ao V4 (bX V5 V6 V7)))))))))
def yo:List Str:=["pen","most","full","words","asks","says","rooms","doors"]
def tz(K:Za)(C_Machine:Addr)(sp_Machine_init:Sp):TS :=
 a_ (rF C_Machine sp_Machine_init [] E0 (ao (fE (da K) (ay (aJ (pT K) V0 (tC (.int 0))))) (ao (fE (da K) (ay (aJ (pT K) V0 (tC (.int 1))))) (ao (fE (da K) (ay (aJ (pT K) V0 (tC (.int 2))))) (ao (fE (da K) (ay (aJ (pT K) V0 (tC (.int 3))))) bm)))))
def uc:List Str:=["told"]
def Bh(K:Za):TS :=
 a_ (xk (aJ Hl V0 (tC (.str ""))) (xk (aJ rLeI (fE (gH K) (ay V0)) (tC (.int 8))) (fE (GK K) (ay (b_ 1 [] (GU V0) U0 (gV) (aJ rInS V0 (tC (.str "abcdefghijklmnopqrstuvwxyz"))))))))
def Cg:List Str:=["text"]
def Bi(K:Za):TS :=
 ar (aM (o0) U1)
 (ar (dZ (bq K V0) U2 (ir V1 V2 (tC (.bl true))))
 (a_ V1))
def Ch:List Str:=["things","keys","thing"]
def mw(K:Za)(sp_is_name:Sp)(sp_as_keys:Sp):TS :=
 ar (cz (aV (aJ v5 (fE (gH K) (ay V0)) (tC (.int 0)))) (a_ (tC (.int 0))) (bH))
 (ar (aM (aI sp_as_keys (ay V2)) U3)
 (ar (dZ (uE K (ay V0)) (lS K 2 (bI U4 (bI U5 (kS)))) (ar (cz (Eg (aV (aJ v5 V4 V1)) (Eg (tB (Bj K V5 V3)) (Ev (tB (aI sp_is_name (ay V5)))))) (a_ V4) (bH))
 (ir V3 V5 (tC (.bl true)))))
 (a_ (tC .non))))
def mT:List Str:=["names","most","taken","ahead","number","name"]
def vJ(K:Za)(a_STILL:Addr):TS :=
 a_ (aJ kb (aJ kb (b_ 1 [] (bq K V0) U0 (gV) (bo (aS (tC (.str "ask")) V0))) (b_ 1 [] (bq K V1) U0 (gV) (bo (aS (tC (.str "say")) V0)))) (cK (ay (tC (.ref a_STILL)))))
def wN:List Str:=["asks","says"]
def my(K:Za)(sp_as_keys:Sp):TS :=
 ar (aM (aI sp_as_keys (ay V1)) U3)
 (ar (aM (iV) U4)
 (ar (dZ (uE K (ay V0)) (lS K 2 (bI U5 (bI U6 (kS)))) (ar (cz (Eg (aV (aJ v5 V5 (tC (.int 2000)))) (tB (Bj K V6 V4))) (a_ V5) (bH))
 (ar (cz (Eg (tB (fD K (aJ (pT K) V6 (tC (.int 0))) V3)) (Eg (aV (aJ (nS K true) (aJ (pT K) V6 (tC (.int 1))) V2)) (tB (fD K (aJ (pT K) V6 (tC (.int 2))) V3)))) (a_ V5) (bH))
 (ir V4 V6 (tC (.bl true))))))
 (a_ (tC .non))))
def mU:List Str:=["doors","rooms","signs","own_rooms","ahead","number","door"]
def iC(K:Za):TS :=
 ar (aM (iV) U1)
 (ar (dZ (bq K V0) (lS K 3 (bI U2 (bI U3 (bI U4 (kS))))) (cr (Bk K "list" hE (Bk K "dict" Ar V1 (aS (bo (ao V2 (ay V3))) (cK (bm)))) (ay V4))))
 (a_ V1))
def iD:List Str:=["doors","goals","start","sign","goal"]
def rA(K:Za)(a_STILL:Addr):TS :=
 ar (aM (o0) U2)
 (ar (aM (cK (ay V1)) U3)
 (ar (yN (aV (aJ C5 (fE (gH K) (ay V3)) (tC (.int 0)))) (ar (aM (GF K "list" GH V3) U4)
 (dZ (GV K (vT K V0 (bo (aS V4 (tC (.ref a_STILL)))) (bo (bm)))) U5 (cz (tB (fD K V5 V2)) (ar (ir V2 V5 (tC (.bl true)))
 (cr (Bk K "list" hE V3 (ay V5)))) (bH)))))
 (a_ V2)))
def sV:List Str:=["goals","room","led","waiting","here","goal"]
def nz(K:Za):TS :=
 ar (dZ (uE K (ay V0)) (lS K 2 (bI U2 (bI U3 (kS)))) (cz (tB (Bj K V3 (fW K V1 V3))) (a_ V2) (bH)))
 (a_ (tC .non))
def ox:List Str:=["rooms","led","number","room"]
def wY(K:Za):TS :=
 cz (tB (Fy V1)) (rE) (bH)
def yj:List Str:=["part","number"]
def vB(K:Za)(sp_need_none:Sp)(sp_first_wrong_door:Sp)(sp_door_signs:Sp)(sp_first_wrong_name:Sp):TS :=
 ar (cr (aI sp_need_none (aS (tC (.str "asks")) (aI sp_first_wrong_name (bX V0 (tC (.int 4)) (cK (bm)))))))
 (ar (cr (aI sp_need_none (aS (tC (.str "says")) (aI sp_first_wrong_name (bX V1 (tC (.int 4)) V0)))))
 (ar (cr (aI sp_need_none (aS (tC (.str "rooms")) (aI sp_first_wrong_name (bX V2 (tC (.int 150)) (cK (bm)))))))
 (cr (aI sp_need_none (ao (tC (.str "doors")) (ay (aI sp_first_wrong_door (bX V3 V2 (aI sp_door_signs (aS V0 V1))))))))))
def wF:List Str:=["asks","says","rooms","doors"]
def oT(K:Za):TS :=
 ar (aM (o0) U2)
 (ar (dZ (bq K V0) U3 (ir V2 V3 (cK (bm))))
 (ar (dZ (bq K V1) U4 (cr (Bk K "list" hE (fW K V2 (aJ (pT K) V4 (tC (.int 0)))) (ay V4))))
 (a_ V2)))
def pB:List Str:=["rooms","doors","leaving","room","door"]
def oS(K:Za):TS :=
 a_ (fE (GK K) (ao (b_ 1 [] (bq K V0) U0 (gV) (aJ v5 (aJ (pT K) (aJ (pT K) V0 (tC (.int 1))) (tC (.int 0))) (tC (.str "ask")))) bm))
def pA:List Str:=["doors"]
def mC(K:Za)(sp_need_none:Sp)(sp_first_led_round:Sp)(sp_led_by_still:Sp)(sp_goals_by_start_and_sign:Sp)(sp_as_keys:Sp)(sp_has_asks_alone:Sp)(sp_doors_by_start:Sp)(sp_need_parts:Sp):TS :=
 ar (cr (aI sp_need_parts (ao V1 (bX V2 V3 V4))))
 (ar (ka K V0 (fE (da K) (ay V1)) "own_asks")
 (ar (ka K V0 (fE (da K) (ay V2)) "own_says")
 (ar (ka K V0 (fE (da K) (ay V3)) "own_rooms")
 (ar (ka K V0 (fE (da K) (ay V4)) "own_doors")
 (ar (ka K V0 (aI sp_doors_by_start (aS V3 V4)) "leaving")
 (ar (ka K V0 (aI sp_as_keys (ao (b_ 1 [0] (bq K V3) U0 (tB (aI sp_has_asks_alone (ay (fW K (eN K V1 "leaving") V0)))) V0) bm)) "quiet")
 (ar (ka K V0 (aI sp_goals_by_start_and_sign (ay V4)) "sign_goals")
 (ar (ka K V0 (fE (EO K) (ao (b_ 1 [0] (bq K V3) U0 (gV) (bo (aS V0 (aI sp_led_by_still (ao (eN K V1 "sign_goals") (ay V0)))))) bm)) "still_led")
 (cr (aI sp_need_none (aS (tC (.str "still")) (aI sp_first_led_round (ao V3 (ay (eN K V0 "still_led")))))))))))))))
def mY:List Str:=["self","asks","says","rooms","doors"]
def mB(K:Za):TS :=
 a_ (Bj K V1 (eN K V0 "quiet"))
def mW:List Str:=["self","room"]
def l_(K:Za)(sp_with_still:Sp)(C_Machine:Addr)(sp_Machine_goals:Sp)(a_HUSH:Addr)(sp_Machine_is_quiet:Sp):TS :=
 ar (cz (aV (aJ (o6 K) V2 (tC (.ref a_HUSH)))) (a_ (fE (xx K) (ay (b_ 1 [0] (Fc K V1) U0 (tB (bY C_Machine "is_quiet" sp_Machine_is_quiet [] E0 V1 (ay V0))) V0)))) (bH))
 (ar (aM (cK (bm)) U3)
 (ar (dZ (Fc K V1) U4 (cr (Bk K "list" At V3 (ay (bY C_Machine "goals" sp_Machine_goals [] E0 V0 (aS V4 V2))))))
 (a_ (aI sp_with_still (aS V0 V3)))))
def mh:List Str:=["M","face","sign","goals","room"]
def bu(p:Addr)(H H':Hp):Prop:=∀b o,H b=some o->b≠p->H' b=some o
theorem bu.refl(p:Addr)(H:Hp):bu p H H:=fun _ _ h _=>h
theorem bu.trans{p:Addr}{H H1 H2:Hp}(a:bu p H H1)(b:bu p H1 H2):bu p H H2:=fun c o h n=>b c o (a c o h n) n
theorem ab.exB{p:Addr}{H H':Hp}(a:ab H H'):bu p H H':=fun b o h _=>a b o h
theorem bu.upd(p:Addr)(H:Hp)(o:HO):bu p H (upd H p o):=fun b u h n=>by rw[ai n];exact h
theorem ab.new{H:Hp}{a:Addr}{o:HO}(h:H a=none):ab H (upd H a o):=fun b u e=>by rw[ai (ae e h)];exact e
theorem bu.free{p:Addr}{H H':Hp}(e:bu p H H'){u:HO}(hp:H' p=some u){l:Addr}(h:H' l=none):H l=none:=by
 cases q:H l with
 |none=>rfl
 |some o =>
  by_cases z:l=p
  ·subst z;rw[hp]at h;cases h
  ·rw[e l o q z]at h;cases h
theorem kp{H:Hp}{a b:Addr}{o x:HO}(h:H b=some o)(n:H a=none):upd H a x b=some o:=by rw[ai (ae h n)];exact h
structure A6(H:Hp)(p c:Addr)(at_ rest:Int)(ns:List Int):Prop where
 pen:H p=some (.lst [.ref c,.int at_,.int rest])
 cells:H c=some (.lst (ns.map V.int))
 at0:0<=at_
 rest0:0<=rest
theorem A6.ne{H:Hp}{p c:Addr}{a r:Int}{ns:List Int}(h:A6 H p c a r ns):c≠p:=by
 intro e;have h1:=h.pen;have h2:=h.cells;rw[e,h1]at h2;injection h2 with h2;injection h2 with h2;cases ns with
 |nil=>cases h2
 |cons n ns=>injection h2 with h2;cases h2
def fZ(H:Hp)(p c:Addr):Prop:=∃a r ns,A6 H p c a r ns
theorem fZ.ex{H H':Hp}{p c:Addr}(h:fZ H p c)(e:ab H H'):fZ H' p c:=by
 obtain⟨a,r,ns,h1,h2,h3,h4⟩:=h;exact⟨a,r,ns,e _ _ h1,e _ _ h2,h3,h4⟩
theorem fZ.pen{H:Hp}{p c:Addr}(h:fZ H p c):∃o,H p=some o:=by
 obtain⟨a,r,ns,h1,_⟩:=h;exact⟨_,h1⟩
theorem fZ.cell{H:Hp}{p c:Addr}(h:fZ H p c):∃o,H c=some o:=by
 obtain⟨a,r,ns,_,h1,_⟩:=h;exact⟨_,h1⟩
theorem fZ.upd{H:Hp}{p c l:Addr}{o:HO}(h:fZ H p c)(h1:p≠l)(h2:c≠l):fZ (upd H l o) p c:=by
 obtain⟨a,r,ns,g1,g2,g3,g4⟩:=h;exact⟨a,r,ns,by rw[ai h1];exact g1,by rw[ai h2];exact g2,g3,g4⟩
theorem fZ.nep{H:Hp}{p c l:Addr}(h:fZ H p c)(hl:H l=none):p≠l:=let⟨_,e⟩:=h.pen;ae e hl
theorem fZ.nec{H:Hp}{p c l:Addr}(h:fZ H p c)(hl:H l=none):c≠l:=let⟨_,e⟩:=h.cell;ae e hl
theorem bu.new{p:Addr}{H:Hp}{a:Addr}{o:HO}(h:H a=none):bu p H (L2.upd H a o):=fun b u e _=>by rw[ai (ae e h)];exact e
inductive k_ (vs:List V)(H:Hp)(Q:VK)(E:XK):Prop
 |mk (c a:Int):(vs=[.int c,.int a])->(0<=a)->(∀r:Int,0<=r->Q (.int r) H)->k_  vs H Q E
theorem on{i j:Int}(h1:-(2 ^ 64)<j)(h2:j<2 ^ 64):Ef i j:=.inr ⟨h1,h2⟩
theorem Bp{K:Za}{vs:List V}{H:Hp}{Q:VK}{E:XK}(h:k_ vs H Q E):vE K (bd Q) (start wI vs) H:=by
 obtain⟨c,a,rfl,ha,k⟩:=h;refine⟨_,rfl,_,_,rfl,rfl,⟨by decide,by decide,by decide⟩,_,_,rfl,rfl,_,rfl,?_⟩;refine hU (fun h=>?_) (fun _=>?_)
 ·refine⟨_,rfl,k _ ?_⟩;have:=of_decide_eq_true h;have e:((10:Int) ^ (18:Int).toNat)=1000000000000000000:=by decide
  omega
 ·have one:∀z:Int,0<=z % 2147483629/\z % 2147483629<2147483629:=fun z=>⟨oC _ (by decide),oB _ (by decide)⟩;have two:∀z:Int,0<=z % 2147483587/\z % 2147483587<2147483587:=fun z=>⟨oC _ (by decide),oB _ (by decide)⟩;have three:∀z:Int,0<=z % 2147483563/\z % 2147483563<2147483563:=fun z=>⟨oC _ (by decide),oB _ (by decide)⟩;refine⟨_,rfl,_,_,rfl,rfl,(by show(0:Int)<1000000007;decide),_,_,rfl,rfl,on (by decide) (by decide),_,rfl,_,_,rfl,rfl,on (by decide) (by decide),_,_,rfl,rfl,_,_,rfl,rfl,_,_,rfl,rfl,(by show(0:Int)<2147483629;decide),?_⟩;generalize hz1:(c % 1000000007 * 69069+a * 40503+977)=z1;obtain⟨o1,o2⟩:=one z1;generalize z1 % 2147483629=o at o1 o2 ⊢;refine⟨_,rfl,_,rfl,_,_,rfl,rfl,on (by omega) (by omega),_,rfl,_,_,rfl,rfl,on (by decide) (by decide),_,_,rfl,rfl,_,rfl,_,_,rfl,rfl,(by show(0:Int)<65537;decide),_,_,rfl,rfl,_,_,rfl,rfl,(by show(0:Int)<2147483587;decide),?_⟩;generalize hz2:(o * o+a * 7919+c % 65537)=z2;obtain⟨p1,p2⟩:=two z2;generalize z2 % 2147483587=q at p1 p2 ⊢;refine⟨_,rfl,_,rfl,_,_,rfl,rfl,on (by omega) (by omega),_,rfl,_,_,rfl,rfl,on (by decide) (by decide),_,_,rfl,rfl,_,_,rfl,rfl,_,_,rfl,rfl,(by show(0:Int)<2147483563;decide),?_⟩;generalize hz3:(q * q+o * 31+5)=z3;obtain⟨r1,r2⟩:=three z3;generalize z3 % 2147483563=r at r1 r2 ⊢;refine⟨_,rfl,_,_,rfl,rfl,on (by decide) (by decide),_,rfl,_,_,rfl,rfl,_,_,rfl,rfl,on (by decide) (by decide),_,rfl,_,_,rfl,rfl,k _ ?_⟩;omega
def qF:Sp:=fun vs H Q _=>∃p c,vs=[.ref p]/\fZ H p c/\∀H',fZ H' p c->bu p H H'->Q (.ref p) H'
theorem EM{K:Za}{vs:List V}{H:Hp}{Q:VK}{E:XK}(h:qF vs H Q E):yM K (bd Q) (start zY vs) H:=by
 obtain⟨p,c,rfl,⟨a,r,ns,h⟩,k⟩:=h;refine⟨_,rfl,p,_,_,_,rfl,rfl,h.pen,rfl,_,rfl,k _ ⟨a,0,ns,aa,?_,h.at0,Int.le_refl 0⟩ (bu.upd _ _ _)⟩;rw[ai h.ne];exact h.cells
theorem AX{ns:List Int}{a:Int}(h0:0<=a)(h1:a<ns.length):∃z,ye (ns.map V.int) a=some (.int z):=by
 obtain⟨n,rfl⟩:=iS h0;have hn:n<ns.length:=by omega
 exact⟨ns[n],cy (by simp[hn])⟩
inductive d6 (vs:List V)(H:Hp)(Q:VK)(E:XK):Prop
 |mk (p c:Addr) (m:Int):(vs=[.ref p,.int m])->(fZ H p c)->(0<m)->(m<1073741824)->(∀(r:Int) (H':Hp),0<=r->r<m->fZ H' p c->bu p H H'->Q (.int r) H')->d6  vs H Q E
theorem c9{H:Hp}{Q:VK}{E:XK}{p c:Addr}{m:Int}(hp:fZ H p c)(m0:0<m)(m1:m<1073741824)(k:∀(r:Int) (H':Hp),0<=r->r<m->fZ H' p c->bu p H H'->Q (.int r) H'):d6 [.ref p,.int m] H Q E:=by
 exact⟨p,c,m,rfl,hp,m0,m1,k⟩
theorem EE{K:Za}{vs:List V}{H:Hp}{Q:VK}{E:XK}(h:d6 vs H Q E):yI K k_ (bd Q) (start zV vs) H:=by
 obtain⟨p,c,m,rfl,⟨a,r,ns,h⟩,hm,hm2,k⟩:=h;have fin:∀(H':Hp) (a' r':Int) (x y:Option V),A6 H' p c a' r' ns->bu p H H' ->
   (ar (aM (aJ iK (aJ (dk K) V0 (tC (.int 2))) V1) U4) (ar (aM (aJ C6 (aJ (dk K) V0 (tC (.int 2))) V1) (zF V0 (tC (.int 2)) r8)) (a_ V4)))
    (bd Q) [some (.ref p),some (.int m),x,y,none] H':=by
  intro H' a' r' x y h' ex;refine⟨_,rfl,p,_,2,_,rfl,rfl,ax.of h'.pen,rfl,_,rfl,_,_,rfl,rfl,hm,?_⟩;refine⟨_,rfl,p,_,2,_,rfl,rfl,ax.of h'.pen,rfl,_,rfl,_,_,rfl,rfl,⟨hm,hm2⟩,_,rfl,p,_,_,_,rfl,rfl,h'.pen,rfl,?_⟩;refine⟨_,rfl,k _ _ (oC _ (by omega)) (oB _ hm) ⟨a',_,ns,aa,?_,h'.at0,Int.ediv_nonneg h'.rest0 (by omega)⟩ (ex.trans (bu.upd _ _ _))⟩;rw[ai h'.ne];exact h'.cells
 refine⟨_,rfl,p,_,2,_,rfl,rfl,ax.of h.pen,rfl,_,rfl,_,_,rfl,rfl,_,rfl,?_⟩;refine hU (fun h1=>?_) (fun h1=>?_)
 ·-- at=pen[1];cell=0;if at<len(pen[0])
  refine⟨_,rfl,p,_,1,_,rfl,rfl,ax.of h.pen,rfl,?_⟩;have la:(V.int ((ns.map V.int).length:Nat))=V.int (ns.length:Nat):=by rw[ah]
  refine⟨_,rfl,_,rfl,p,_,0,_,rfl,rfl,ax.of h.pen,rfl,.inl ⟨c,_,rfl,.inl (ax.of h.cells),_,_,rfl,la,_,rfl,?_⟩⟩;refine hU (fun h2=>?_) (fun h2=>?_)
  ·obtain⟨z,hz⟩:=AX (ns:=ns) h.at0 (of_decide_eq_true h2);refine⟨_,rfl,p,_,0,_,rfl,rfl,ax.of h.pen,rfl,_,rfl,c,_,_,_,rfl,rfl,ax.of h.cells,hz,?_⟩;refine⟨_,rfl,_,_,rfl,rfl,_,rfl,p,_,_,_,rfl,rfl,h.pen,rfl,?_⟩;refine⟨_,rfl,_,rfl,_,_,rfl,h.at0,fun q hq=>⟨_,rfl,p,_,_,_,rfl,rfl,aa,rfl,?_⟩⟩;rw[qA];refine fin _ (a+1) q _ _ ⟨aa,by rw[ai h.ne];exact h.cells,by have:=h.at0;omega,hq⟩ (bu.upd _ _ _)
  ·refine⟨_,rfl,p,_,0,_,rfl,rfl,ax.of h.pen,rfl,.inl ⟨c,_,rfl,.inl (ax.of h.cells),_,_,la,rfl,_,rfl,?_⟩⟩;refine hU (fun h3=>?_) (fun h3=>?_)
   ·have hl:(0:Int)<ns.length:=of_decide_eq_true h3;obtain⟨z,hz⟩:=AX (ns:=ns) (a:=(a * 5+3) % (ns.length:Int)) (oC _ (by omega)) (oB _ hl);refine⟨_,rfl,p,_,0,_,rfl,rfl,ax.of h.pen,rfl,_,rfl,_,_,rfl,rfl,on (by decide) (by decide),_,_,rfl,rfl,_,rfl,p,_,0,_,rfl,rfl,ax.of h.pen,rfl,.inl ⟨c,_,rfl,.inl (ax.of h.cells),_,_,rfl,la,hl,c,_,_,_,rfl,rfl,ax.of h.cells,hz,?_⟩⟩;refine⟨_,_,rfl,rfl,⟨by decide,by decide,by decide⟩,_,rfl,_,_,rfl,rfl,_,_,rfl,rfl,?_,?_⟩
    ·have e:((10:Int) ^ (17:Int).toNat)=100000000000000000:=by decide
     have:=h.at0;show(0:Int)<10 ^ (17:Int).toNat+a;omega
    refine⟨_,rfl,_,_,rfl,rfl,_,rfl,p,_,_,_,rfl,rfl,h.pen,rfl,?_⟩;refine⟨_,rfl,_,rfl,_,_,rfl,h.at0,fun q hq=>⟨_,rfl,p,_,_,_,rfl,rfl,aa,rfl,?_⟩⟩;rw[qA];refine fin _ (a+1) q _ _ ⟨aa,by rw[ai h.ne];exact h.cells,by have:=h.at0;omega,hq⟩ (bu.upd _ _ _)
   ·refine⟨_,rfl,_,_,rfl,rfl,_,rfl,p,_,_,_,rfl,rfl,h.pen,rfl,?_⟩;refine⟨_,rfl,_,rfl,_,_,rfl,h.at0,fun q hq=>⟨_,rfl,p,_,_,_,rfl,rfl,aa,rfl,?_⟩⟩;rw[qA];refine fin _ (a+1) q _ _ ⟨aa,by rw[ai h.ne];exact h.cells,by have:=h.at0;omega,hq⟩ (bu.upd _ _ _)
 ·exact fin H a r _ _ h (bu.refl _ _)
inductive qC(K:Za)(vs:List V)(H:Hp)(Q:VK)(E:XK):Prop
 |mk (a:Addr) (ns:List Int):(vs=[.ref a])->(ax K H a (ns.map V.int))->(ns.length<=63)->(∀(p c:Addr) (H':Hp),H p=none->fZ H' p c->ab H H'->Q (.ref p) H')->qC K vs H Q E
theorem uI(ns:List Int)(lo hi:Option Int):∃ms:List Int,gL (ns.map V.int) lo hi=ms.map V.int/\ms.length=(gL (ns.map V.int) lo hi).length:=by
 refine⟨(ns.drop (HT.sIx (ns.map V.int).length 0 lo)).take (HT.sIx (ns.map V.int).length (ns.map V.int).length hi-HT.sIx (ns.map V.int).length 0 lo),?_,?_⟩
 ·unfold gL;rw[qU,uZ]
 ·unfold gL;rw[az,az,fA,fA,ah]
theorem EG{K:Za}{vs:List V}{H:Hp}{Q:VK}{E:XK}(h:qC K vs H Q E):yJ K (bd Q) (start zW vs) H:=by
 obtain⟨a,ns,rfl,hs,hn,k⟩:=h;obtain⟨c0,e0,l0⟩:=uI ns none (some 12);obtain⟨c1,e1,l1⟩:=uI ns (some 12) (some 63);have hlen:c1≠[]->c0.length=12:=by
  intro hne;have hc1:0<c1.length:=by cases c1 with|nil=>exact absurd rfl hne|cons _ _=>simp
  rw[l1]at hc1;rw[l0];unfold gL at hc1 ⊢;rw[az,fA,ah]at hc1;rw[az,fA,ah];have s1:HT.sIx ns.length 0 (some 12)=min 12 ns.length:=HT.sIx_nat _ _ 12;have s2:HT.sIx ns.length ns.length (some 12)=min 12 ns.length:=HT.sIx_nat _ _ 12;rw[HT.sIx_none,s2];rw[s1]at hc1;omega
 refine⟨_,rfl,_,rfl,a,_,rfl,hs,fun q hq=>.inl ⟨q,_,rfl,.inl (ax.of aa),fun c hc=>?_⟩⟩;rw[e0]at hc ⊢;have hcH:H c=none:=by
  have:c≠q:=fun z=>by subst z;rw[aa]at hc;cases hc
  rw[ai this]at hc;exact hc
 have hS:ab H (upd (upd H q (.lst (c0.map V.int))) c (.lst (c0.map V.int))):=(ab.new hq).trans (ab.new hc);refine⟨_,rfl,_,rfl,_,rfl,a,_,rfl,hS.seq hs,fun r hr=>⟨r,rfl,⟨_,ax.of aa⟩,?_⟩⟩;rw[e1];have hcr:c≠r:=ae aa hr;refine kT (xs:=c1.map V.int) (fun i σ H'=>∃(ms:List Int) (x y:Option V),σ=[some (.ref a),some (.ref c),x,y]/\H' c=some (.lst (ms.map V.int))/\ms.length=c0.length/\H' r=some (.lst (c1.map V.int))/\ab H H')
  ⟨c0,none,none,rfl,kp aa hr,rfl,aa,hS.trans (ab.new hr)⟩ (fun i σ H' _ ⟨ms,x,y,_,_,_,h,_⟩=>ax.of h) ?_ ?_
 ·rintro i x σ H' t hi ⟨ms,u,v,rfl,hcell,hml,hr',hS'⟩ ht;have hi':i<c1.length:=by
   have:=(bP.mp hi).1;rwa[ah]at this
  have h12:=hlen (fun z=>by rw[z]at hi';simp at hi');obtain⟨z,rfl⟩:∃z,x=V.int z:=by
   rw[cS,iT hi']at hi;exact⟨_,(eD hi).symm⟩
  have hcell1:upd H' t (.tup [.int i,.int z]) c=some (.lst (ms.map V.int)):=kp hcell ht;have hidx:(i:Int) % 12=((i % 12:Nat):Int):=by omega
  have hlt:i % 12<ms.length:=by omega
  refine⟨t,_,rfl,bA.of aa,rfl,_,_,rfl,_,_,rfl,rfl,?_⟩;have hat:ye (ms.map V.int) ((i:Int) % 12)=some (.int ms[i % 12]):=by rw[hidx];exact cy (by simp[hlt])
  refine⟨_,rfl,_,rfl,_,_,rfl,rfl,(by show(0:Int)<12;decide),c,_,_,_,rfl,rfl,ax.of hcell1,hat,_,rfl,_,_,rfl,rfl,_,rfl,_,rfl,_,_,rfl,rfl,(by show(0:Int)<12;decide),c,_,_,i % 12,rfl,rfl,hcell1,?_,?_⟩
  ·rw[hidx];unfold Ei;rw[if_pos (by omega),if_pos (by rw[ah];omega)];rw[kC]
  ·refine⟨ms.set (i % 12) (ms[i % 12]+z),_,_,rfl,?_,by rw[List.length_set];exact hml,?_,?_⟩
   ·rw[aa,List.map_set]
   ·rw[ai hcr.symm];exact kp hr' ht
   ·intro b o e;rw[ai (ae e hcH)];exact kp (hS' b o e) ht
 ·rintro σ H' ⟨ms,x,y,rfl,hcell,hml,hr',hS'⟩;refine⟨_,rfl,(by show 3<=aj;decide),fun p hp=>k p c _ (hS'.free hp) ⟨0,0,ms,aa,kp hcell hp,Int.le_refl _,Int.le_refl _⟩ (hS'.trans (ab.new hp))⟩
def wd(c:Nat):Prop:=97<=c/\c<=122
structure pE(w:Str):Prop where
 lo:1<=w.length
 hi:w.length<=8
 al:∀c∈w.cps.toList,wd c
theorem AZ:∀n:Nat,n<26->(("abcdefghijklmnopqrstuvwxyz":Str).cps.toList)[n]?=some (97+n):=by decide +kernel
theorem AY:("abcdefghijklmnopqrstuvwxyz":Str).length<=aj:=by decide +kernel
theorem DZ{r:Int}(h0:0<=r)(h1:r<26):ye (("abcdefghijklmnopqrstuvwxyz":Str).cps.toList) r=some (97+r.toNat):=by
 obtain⟨n,rfl⟩:=iS h0;rw[kC];exact cy (AZ n (by omega))
theorem t4(cs:List Nat):∀acc:Array Nat,((cs.map fun c=>(⟨#[c]⟩:Str)).foldl (fun acc p=>acc++("":Str).cps++p.cps) acc).toList=acc.toList++cs:=by
 have e:("":Str).cps=#[]:=by decide +kernel
 induction cs with
 |nil=>intro acc;simp
 |cons c cs ih =>
  intro acc;rw[bj,List.foldl_cons,ih,e];simp
theorem zv(cs:List Nat):(u7 "" (cs.map fun c=>(⟨#[c]⟩:Str))).cps.toList=cs:=by
 unfold u7 cF.Str.glued;cases cs with
 |nil=>rfl
 |cons c cs =>
  rw[bj];show((cs.map fun c=>(⟨#[c]⟩:Str)).foldl (fun acc p=>acc++("":Str).cps++p.cps) #[c]).toList=_;rw[t4]
  rfl
theorem Ez{a b:Str}(h:a.cps.toList=b.cps.toList):a=b:=by
 cases a with|mk x=>cases b with|mk y=>exact congrArg Str.mk (Array.toList_inj.mp h)
theorem eQ(a:Str):a.length=a.cps.toList.length:=by simp[Str.length]
theorem wB(a b:Str):(a++b).cps.toList=a.cps.toList++b.cps.toList:=by
 show(a.cps++b.cps).toList=_;simp
theorem DR(z:Str)(m:Nat):(sN z none (some (m:Int))).cps.toList=z.cps.toList.take m:=by
 unfold sN;rw[HT.sIx_none,HT.sIx_nat,qW,Nat.sub_zero,eQ];show List.take _ _=_;rw[List.take_eq_take_iff];omega
theorem DS(z:Str)(m:Nat):(sN z (some (m:Int)) none).cps.toList=z.cps.toList.drop m:=by
 unfold sN;rw[HT.sIx_none,HT.sIx_nat,eQ];show List.take _ _=_;rw[u1 (by rw[fA];omega)];by_cases h:m<=z.cps.toList.length
 ·rw[qT h]
 ·rw[Nat.min_eq_right (by omega),List.drop_length,u5 (by omega)]
def eI(way size k:Nat):Nat:=(size+k * (way % 2)) % 8
def yy(way m:Nat):Nat:=if way=0 then 0 else if way=1 then m else m / 2
def l9(b:List Nat)(way turn size k:Nat):List Nat :=
 (b.take (eI way size k)).take (yy way (eI way size k))++[97+(turn+3 * k) % 26]++(b.take (eI way size k)).drop (yy way (eI way size k))
def wV(b:List Nat)(way turn size k:Nat):Str:=⟨(l9 b way turn size k).toArray⟩
theorem oN{b:List Nat}(hb:b.length=7)(way turn size k:Nat):(l9 b way turn size k).length=eI way size k+1:=by
 have h8:eI way size k<8:=qS _ (by decide);unfold l9;rw[aZ,aZ,az,fA,az,hb];have:yy way (eI way size k)<=eI way size k:=by unfold yy;split;omega;split;omega;omega
 simp;omega
theorem Em{b:List Nat}(hb:b.length=7)(hl:∀c∈b,wd c)(way turn size k:Nat):pE (wV b way turn size k):=by
 have h8:eI way size k<8:=qS _ (by decide);have hlen:=oN hb way turn size k;have e:(wV b way turn size k).cps.toList=l9 b way turn size k:=by simp[wV]
 refine⟨?_,?_,?_⟩
 ·rw[eQ,e];omega
 ·rw[eQ,e];omega
 ·rw[e];intro c hc;unfold l9 at hc;rcases bw.mp hc with hc|hc
  ·rcases bw.mp hc with hc|hc
   ·exact hl c (f6 (f6 hc))
   ·have:c=97+(turn+3 * k) % 26:=by simpa using hc
    subst this;have:(turn+3 * k) % 26<26:=qS _ (by decide);exact⟨by omega,by omega⟩
  ·exact hl c (f6 (List.mem_of_mem_drop hc))
theorem Cr{b:List Nat}(hb:b.length=7){way turn size:Nat}(hw:way<3){j k:Nat}(hj:j<26)(hk:k<26)(h:wV b way turn size j=wV b way turn size k):j=k:=by
 have h8:∀i,eI way size i<8:=fun i=>qS _ (by decide);have e:l9 b way turn size j=l9 b way turn size k:=by
  have:=congrArg (fun s=>Str.cps s |>.toList) h;simpa[wV]using this
 have el:eI way size j=eI way size k:=by
  have:=congrArg List.length e;rw[oN hb,oN hb]at this;omega
 have key:97+(turn+3 * j) % 26=97+(turn+3 * k) % 26:=by
  have hat:∀i,yy way (eI way size i)<=eI way size i:=fun i=>by unfold yy;split;omega;split;omega;omega
  have get:∀i,(l9 b way turn size i)[yy way (eI way size i)]?=some (97+(turn+3 * i) % 26):=by
   intro i;unfold l9;have hl:((b.take (eI way size i)).take (yy way (eI way size i))).length=yy way (eI way size i):=by
    rw[az,az,hb];have:=h8 i;have:=hat i;omega
   rw[eG,List.getElem?_append_right (by omega),hl,Nat.sub_self]
   rfl
  have g1:=get j;have g2:=get k;rw[e,el]at g1;rw[g1]at g2;exact eD g2
 omega
def jN(ws:Zb):Prop:=ws.Nodup/\∀w∈ws,pE w
def jw(b:List Nat)(way turn size n:Nat):List Str:=(lZ n).map (wV b way turn size)
theorem yD{b:List Nat}(hb:b.length=7)(hl:∀c∈b,wd c){way turn size n:Nat}(hw:way<3)(hn:n<=26):jN (jw b way turn size n):=by
 refine⟨?_,fun w hm=>?_⟩
 ·unfold jw;rw[uY,List.pairwise_map];refine(List.nodup_range (n:=n)).imp_of_mem ?_;intro j k hj hk hne h;exact hne (Cr hb hw (by have:=List.mem_range.mp hj;omega) (by have:=List.mem_range.mp hk;omega) h)
 ·obtain⟨k,_,rfl⟩:=aL.mp hm;exact Em hb hl _ _ _ _
inductive kH (vs:List V)(H:Hp)(Q:VK)(E:XK):Prop
 |mk (p c:Addr) (n:Nat):(vs=[.ref p,.int n])->(fZ H p c)->(n<=26)->(∀(l:Addr) (ws:Zb) (H':Hp),jN ws->ws.length=n->H l=none->H' l=some (.lst (ws.map V.str))->fZ H' p c->bu p H H'->Q (.ref l) H')->kH  vs H Q E
theorem CM{K:Za}{vs:List V}{H:Hp}{Q:VK}{E:XK}(h:kH vs H Q E):w8 K d6 (bd Q) (start yn vs) H:=by
 obtain⟨p,c,n,rfl,hp,hn,k⟩:=h;refine⟨rfl,7,rfl,by decide,by decide,fun l hl=>?_⟩;refine zJ (lo:=0) (n:=Int.toNat 7) (fun i vs H'=>∃cs:List Nat,vs=cs.map (fun c=>V.str ⟨#[c]⟩)/\cs.length=i/\(∀c∈cs,wd c)/\fZ H' p c/\bu p H H'/\H' l=some (.lst vs))
  ⟨[],rfl,rfl,(fun _ h=>nomatch h),hp.ex (ab.new hl),bu.new hl,aa⟩ (fun i vs H' _ ⟨_,_,_,_,_,_,h⟩=>h) ?_ ?_
 rotate_left
 ·rintro i vs H' hi ⟨cs,rfl,hlen,hlet,hp',hex,hl'⟩;have hlp:=hp.nep hl;have hlc:=hp.nec hl;refine gN (lK ?_);refine⟨_,rfl,_,rfl,c9 hp' (by decide) (by decide) fun r H2 h0 h1 hp2 hex2=>⟨_,r,_,rfl,rfl,AY,DZ h0 h1,?_⟩⟩;have hl2:=hex2 l _ hl' hlp.symm;refine⟨hl2,by rw[ah,hlen];exact am (by omega),ke hi ⟨cs++[97+r.toNat],by rw[aq];rfl,by rw[aZ,hlen];rfl,?_,hp2.upd hlp hlc,?_,aa⟩⟩
  ·intro x hc;rcases bw.mp hc with hc|hc
   ·exact hlet x hc
   ·have:x=97+r.toNat:=by simpa using hc
    subst this;exact⟨by omega,by omega⟩
  ·intro b o' e nb;rw[ai (ae e hl)];exact hex2 b o' (hex b o' e nb) nb
 ·rintro vs H1 ⟨cs,rfl,hlen,hlet,hp1,hex1,hl1⟩;refine⟨"",l,cs.map fun c=>(⟨#[c]⟩:Str),rfl,rfl,ax.of (by rw[hl1,iR];rfl),?_,?_⟩
  ·have e0:("":Str).length=0:=by decide +kernel
   rw[e0,Nat.mul_zero,iR];have:∀cs:List Nat,(cs.map ((fun x=>Str.length x) ∘ fun c=>(⟨#[c]⟩:Str))).sum=cs.length:=by
    intro cs
    induction cs with
    |nil=>rfl
    |cons c cs ih=>rw[bj,uX,ih,fb];show 1+_=_;omega
   rw[this,hlen];decide
  refine⟨_,rfl,c9 hp1 (by decide) (by decide) fun way H2 w0 w1 hp2 hex2=>?_⟩;refine⟨_,rfl,c9 hp2 (by decide) (by decide) fun turn H3 t0 t1 hp3 hex3=>?_⟩;refine⟨_,rfl,c9 hp3 (by decide) (by decide) fun size H4 s0 s1 hp4 hex4=>?_⟩;have ex4:bu p H H4:=((hex1.trans hex2).trans hex3).trans hex4;obtain⟨wy,rfl⟩:=iS w0;obtain⟨tn,rfl⟩:=iS t0;obtain⟨sz,rfl⟩:=iS s0;have hb:=zv cs;generalize u7 "" (cs.map fun c=>(⟨#[c]⟩:Str))=base at hb ⊢;refine⟨(by show 0<=aj;decide),fun f hf=>?_⟩;obtain⟨op,hop⟩:=hp4.pen;have hfH:H f=none:=ex4.free hop hf;have hfp:=hp.nep hfH;have hfc:=hp.nec hfH;refine⟨_,rfl,n,rfl,by omega,by omega,lF (lo:=0) (n:=((n:Int)).toNat) (fun i σ H'=>∃(a b c' d:Option V),σ=[some (.ref p),some (.int n),some (.str "abcdefghijklmnopqrstuvwxyz"),some (.str base),some (.int wy),some (.int tn),some (.int sz),some (.ref f),a,b,c',d] /\
   fZ H' p c/\bu p H H'/\H' f=some (.lst ((jw cs wy tn sz i).map V.str)))
   ⟨_,_,_,_,rfl,hp4.upd hfp hfc,ex4.trans (bu.new hf),aa⟩ ?_ ?_⟩
  ·rintro i σ H' hi ⟨a,b,c',d,rfl,hp',hex',hf'⟩;have hi':i<n:=by omega
   have hwy:wy<3:=by omega
   have e26:((tn:Int)+3 * (0+(i:Int))) % 26=(((tn+3 * i) % 26:Nat):Int):=by omega
   refine⟨_,rfl,_,rfl,_,rfl,_,_,rfl,rfl,.inl ⟨by decide,by decide⟩,_,_,rfl,rfl,_,_,rfl,rfl,(by show(0:Int)<26;decide),_,_,_,rfl,rfl,AY,DZ (oC _ (by decide)) (oB _ (by decide)),?_⟩;have blen:base.length<=aj:=by rw[eQ,hb,hlen];decide
   have e8:((sz:Int)+(0+(i:Int)) * ((wy:Int) % 2)) % 8=((eI wy sz i:Nat):Int):=by
    unfold eI;have:wy=0∨wy=1∨wy=2:=by omega
    rcases this with rfl|rfl|rfl<;>simp<;>omega
   refine⟨_,rfl,_,rfl,_,rfl,_,rfl,_,_,rfl,rfl,(by show(0:Int)<2;decide),_,_,rfl,rfl,.inr ⟨by omega,by omega⟩,_,_,rfl,rfl,_,_,rfl,rfl,(by show(0:Int)<8;decide),_,rfl,base,rfl,blen,?_⟩;rw[e8];have hpart:=DR base (eI wy sz i);rw[hb]at hpart;generalize sN base none (some ((eI wy sz i:Nat):Int))=part at hpart ⊢;have h8:eI wy sz i<8:=qS _ (by decide);have plen:part.length=eI wy sz i:=by rw[eQ,hpart,az,hlen];omega
   have pz:part.length<=aj:=by rw[plen];exact cZ (am (by omega))
   refine⟨_,rfl,.inr ⟨part,rfl,pz,_,rfl,.inr ⟨part,rfl,pz,_,_,rfl,rfl,⟨by decide,by decide⟩,(by show 3<=aj;decide),fun q hq=>?_⟩⟩⟩;have hqH:H q=none:=by
    obtain⟨op',hop'⟩:=hp'.pen;exact hex'.free hop' hq
   have hat:ye [V.int 0,V.int (part.length:Nat),V.int ((part.length:Int) / 2)] (wy:Int)=some (.int (yy wy (eI wy sz i):Nat)):=by
    rw[plen];have:wy=0∨wy=1∨wy=2:=by omega
    rcases this with rfl|rfl|rfl
    ·rfl
    ·rfl
    ·show some (V.int (((eI 2 sz i:Nat):Int) / 2))=some (V.int ((yy 2 (eI 2 sz i):Nat):Int));have:yy 2 (eI 2 sz i)=eI 2 sz i / 2:=rfl;rw[this];congr 2
   refine⟨_,rfl,q,_,_,_,rfl,rfl,ax.of aa,hat,?_⟩;have hf2:upd H' q (.lst [V.int 0,V.int (part.length:Nat),V.int ((part.length:Int) / 2)]) f=some (.lst ((jw cs wy tn sz i).map V.str)):=kp hf' hq;have c1:=DR part (yy wy (eI wy sz i));have c2:=DS part (yy wy (eI wy sz i));have l1:(sN part none (some ((yy wy (eI wy sz i):Nat):Int))).length<=8:=by rw[eQ,c1,az,hpart,az,hlen];omega
   have l2:(sN part (some ((yy wy (eI wy sz i):Nat):Int)) none).length<=8:=by rw[eQ,c2,fA,hpart,az,hlen];omega
   refine⟨_,rfl,.inl ⟨rfl,_,ax.of hf2⟩,_,rfl,_,rfl,_,rfl,part,rfl,pz,_,rfl,_,_,rfl,rfl,?_,_,rfl,_,rfl,_,rfl,part,rfl,pz,_,_,rfl,rfl,?_,f,_,_,rfl,rfl,hf2,?_,?_⟩
   ·have:Str.length ⟨#[97+(((tn:Int)+3 * (0+(i:Int))) % 26).toNat]⟩=1:=rfl;rw[this];exact cZ (am (by omega))
   ·rw[eQ,wB,aZ,<-eQ,<-eQ];have:Str.length ⟨#[97+(((tn:Int)+3 * (0+(i:Int))) % 26).toNat]⟩=1:=rfl;rw[this];exact cZ (am (by omega))
   ·rw[ah];unfold jw;rw[ah,List.length_range];exact am (by omega)
   ·refine⟨_,_,_,_,rfl,(hp'.upd (hp.nep hqH) (hp.nec hqH)).upd hfp hfc,?_,?_⟩
    ·intro b' o' e nb;rw[ai (ae e hfH)];exact kp (hex' b' o' e nb) hq
    ·rw[aa];unfold jw;rw[List.range_succ,aq,aq];congr 3;show[V.str _]=[V.str _];congr 2;refine Ez ?_;rw[wB,wB,c1,c2,hpart,e26,kC];simp[wV,l9]
  ·rintro σ H' ⟨a,b,c',d,rfl,hp',hex',hf'⟩;have en:((n:Int)).toNat=n:=by omega
   rw[en]at hf';exact⟨_,rfl,k f _ H' (yD hlen hlet (by omega) hn) (by unfold jw;rw[ah,List.length_range]) hfH hf' hp' hex'⟩
structure ak where
 a:Str
 sg:List Str
 b:Str
deriving DecidableEq
def SignAt(H:Hp)(s:Addr)(sg:Zb):Prop:=H s=some (.tup (sg.map V.str))
def gk(H:Hp)(t:Addr)(d:ak):Prop:=∃s,H t=some (.tup [.str d.a,.ref s,.str d.b])/\SignAt H s d.sg
def iB(H H':Hp):Prop:=∀b xs,H b=some (.tup xs)->H' b=some (.tup xs)
theorem gk.kt{H H':Hp}{t:Addr}{d:ak}(k:iB H H')(h:gk H t d):gk H' t d:=by
 obtain⟨s,h1,h2⟩:=h;exact⟨s,k _ _ h1,k _ _ h2⟩
theorem bu.kt{p:Addr}{H H':Hp}{xs:List V}(e:bu p H H')(hp:H p=some (.lst xs)):iB H H':=fun b ys h=>e b _ h (fun z=>by rw[z,hp]at h;cases h)
theorem ab.kt{H H':Hp}(e:ab H H'):iB H H':=fun b ys h=>e b _ h
theorem iB.trans{H H1 H2:Hp}(a:iB H H1)(b:iB H1 H2):iB H H2:=fun x xs h=>b x xs (a x xs h)
theorem fP{H:Hp}{l:Addr}{xs:List V}{o:HO}(h:H l=some (.lst xs)):iB H (upd H l o):=fun b ys e=>by
 rw[ai (fun z=>by rw[z,h]at e;cases e)];exact e
abbrev cn(H:Hp)(ts:Ze)(ds:List ak):Prop:=Paired (gk H) ts ds
theorem Paired.get{α β:Type}{R:α->β->Prop}:∀{xs:List α}{ys:List β}{i:Nat}{y:β},Paired R xs ys->ys[i]?=some y->∃x,xs[i]?=some x/\R x y
 |_,_,i,y,.nil,h=>by simp at h
 |_,_,0,y,.cons r t,h=>by simp at h;subst h;exact⟨_,rfl,r⟩
 |_,_,i+1,y,.cons r t,h=>by
  simp at h;obtain⟨x,h1,h2⟩:=Paired.get t h;exact⟨x,by simpa using h1,h2⟩
theorem Paired.getL{α β:Type}{R:α->β->Prop}:∀{xs:List α}{ys:List β}{i:Nat}{x:α},Paired R xs ys->xs[i]?=some x->∃y,ys[i]?=some y/\R x y
 |_,_,i,y,.nil,h=>by simp at h
 |_,_,0,y,.cons r t,h=>by simp at h;subst h;exact⟨_,rfl,r⟩
 |_,_,i+1,y,.cons r t,h=>by
  simp at h;obtain⟨x,h1,h2⟩:=Paired.getL t h;exact⟨x,by simpa using h1,h2⟩
theorem cn.kt{H H':Hp}{ts:Ze}{ds:List ak}(k:iB H H')(h:cn H ts ds):cn H' ts ds:=Paired.mapP h fun _ _ r=>r.kt k
theorem FT{H:Hp}{a:Addr}{o:HO}(h:H a=some o):upd H a o=H:=by
 funext b;by_cases e:b=a
 ·subst e;rw[aa,h]
 ·rw[ai e]
def gR(x:Str):DT:=.k (.inr x)
def wt(d:ak):DT:=.t [gR d.a,.t (d.sg.map gR),gR d.b]
theorem nQ{x y:Str}(h:gR x=gR y):x=y:=by
 unfold gR at h;injection h with h;injection h
theorem gK:∀{x y:Zb},x.map gR=y.map gR->x=y
 |[],[],_=>rfl
 |[],_::_,h=>by cases h
 |_::_,[],h=>by cases h
 |a::x,b::y,h=>by
  rw[bj,bj]at h;injection h with h1 h2;rw[nQ h1,gK h2]
theorem Fl{x y:ak}(h:wt x=wt y):x=y:=by
 unfold wt at h;injection h with h;injection h with h1 h;injection h with h2 h;injection h with h3 h;injection h2 with h2;cases x;cases y;simp only at *;rw[nQ h1,gK h2,nQ h3]
theorem dR(xs:Zb):DT.depths (xs.map gR)=0:=by
 induction xs with
 |nil=>rfl
 |cons x xs ih=>rw[bj];show max (DT.depth (gR x)) (DT.depths _)=0;rw[ih];rfl
theorem wr(d:ak):(wt d).depth=2:=by
 show DT.depths [gR d.a,.t (d.sg.map gR),gR d.b]+1=2;show max (DT.depth (gR d.a)) (max (DT.depths (d.sg.map gR)+1) (max (DT.depth (gR d.b)) 0))+1=2;rw[dR]
 rfl
theorem BS(ds:List ak):DT.depths (ds.map wt)<=8:=by
 induction ds with
 |nil=>exact eK _
 |cons x xs ih=>rw[bj];show max (DT.depth (wt x)) (DT.depths _)<=8;rw[wr];omega
theorem jK{K:Za}{H:Hp}:∀xs:List Str,DIns K H (xs.map gR) (xs.map V.str)
 |[]=>by show DIns K H [] [];unfold DIns;rfl
 |x::xs=>by
  rw[bj,bj];unfold DIns;refine⟨_,_,rfl,?_,jK xs⟩;unfold gR ni
  rfl
theorem mf{K:Za}{H:Hp}(x:Str):ni K H (gR x) (.str x):=by unfold gR ni;rfl
theorem bt{K:Za}{H:Hp}{s:Addr}{sg:Zb}(h:bA K H s (sg.map V.str)):ni K H (.t (sg.map gR)) (.ref s):=by
 unfold ni;exact⟨s,_,rfl,h,jK _⟩
theorem gk.dIn{K:Za}{H:Hp}{t:Addr}{d:ak}(h:gk H t d):ni K H (wt d) (.ref t):=by
 obtain⟨s,h1,h2⟩:=h;unfold wt;unfold ni;refine⟨t,_,rfl,bA.of h1,?_⟩;unfold DIns;refine⟨_,_,rfl,mf _,?_⟩;unfold DIns;refine⟨_,_,rfl,bt (bA.of h2),?_⟩;unfold DIns;refine⟨_,_,rfl,mf _,?_⟩;unfold DIns
 rfl
theorem cn.dIns{K:Za}{H:Hp}:∀{ts:Ze}{ds:List ak},cn H ts ds->DIns K H (ds.map wt) (ts.map V.ref)
 |_,_,.nil=>by show DIns K H [] [];unfold DIns;rfl
 |_,_,.cons r t=>by
  rw[bj,bj];unfold DIns;exact⟨_,_,rfl,r.dIn,cn.dIns t⟩
theorem AI{d:ak}{ds:List ak}:wt d∈ds.map wt↔d∈ds:=by
 constructor
 ·intro h;obtain⟨x,hx,e⟩:=aL.mp h;rw[<-Fl e];exact hx
 ·exact oA
def kN(ds:List ak)(d:ak):List ak:=if d∈ds then ds else ds++[d]
inductive jC (vs:List V)(H:Hp)(Q:VK)(E:XK):Prop
 |mk (l t:Addr) (ts:Ze) (ds:List ak) (d:ak):(vs=[.ref l,.ref t])->(H l=some (.lst (ts.map V.ref)))->(cn H ts ds)->(gk H t d)->(ds.length<=1000)->(∀ts':List Addr,cn H ts' (kN ds d)->Q .non (upd H l (.lst (ts'.map V.ref))))->jC  vs H Q E
theorem FW{K:Za}{vs:List V}{H:Hp}{Q:VK}{E:XK}(h:jC vs H Q E):Bg K (bd Q) (start Cf vs) H:=by
 obtain⟨l,t,ts,ds,d,rfl,hl,hd,ht,hz,k⟩:=h;refine⟨_,rfl,_,rfl,wt d,ds.map wt,l,_,ht.dIn,rfl,.inl (ax.of hl),hd.dIns,by rw[wr];decide,BS ds,_,rfl,?_⟩;by_cases hm:d∈ds
 ·rw[if_pos rfl,zzr1 (AI.mpr hm)];refine bS ?_;have:=k ts (by unfold kN;rw[if_pos hm];exact hd);rw[FT hl]at this;exact this
 ·rw[if_pos rfl,zzr0 (fun z=>hm (AI.mp z))];refine cj ?_;refine⟨_,rfl,.inl ⟨rfl,_,ax.of hl⟩,_,rfl,l,_,_,rfl,rfl,hl,?_,?_⟩
  ·rw[ah,Paired.length hd];exact am hz
  ·have:=k (ts++[t]) (by unfold kN;rw[if_neg hm];exact f8 hd ht);rw[aq]at this;exact this
structure DI(R:ak->Prop)(H0:Hp)(p c l:Addr)(m:Nat)(H:Hp):Prop where
 pen:fZ H p c
 ds:∃ts ds,H l=some (.lst (ts.map V.ref))/\cn H ts ds/\ds.Nodup/\(∀d∈ds,R d)/\ds.length<=m
 ex:bu p H0 H
 fr:H0 l=none
 pl:p≠l
 cl:c≠l
section
variable{R:ak->Prop}{H0 H H':Hp}{p c l:Addr}{m:Nat}
theorem fZ.lst{H:Hp}{p c:Addr}(h:fZ H p c):∃xs,H p=some (.lst xs):=by
 obtain⟨a,r,ns,h1,_⟩:=h;exact⟨_,h1⟩
theorem DI.took(h:DI R H0 p c l m H)(hp:fZ H' p c)(e:bu p H H'):DI R H0 p c l m H':=by
 obtain⟨ts,ds,h1,h2,h3⟩:=h.ds;obtain⟨xs,hx⟩:=h.pen.lst;exact⟨hp,⟨ts,ds,e _ _ h1 h.pl.symm,h2.kt (e.kt hx),h3⟩,h.ex.trans e,h.fr,h.pl,h.cl⟩
theorem DI.new(h:DI R H0 p c l m H){q:Addr}{o:HO}(hq:H q=none):DI R H0 p c l m (upd H q o) :=
 h.took (h.pen.ex (ab.new hq)) (bu.new hq)
theorem DI.up(h:DI R H0 p c l m H){n:Nat}(hn:m<=n):DI R H0 p c l n H:=by
 obtain⟨ts,ds,h1,h2,h3,h4,h5⟩:=h.ds;exact⟨h.pen,⟨ts,ds,h1,h2,h3,h4,aD h5 hn⟩,h.ex,h.fr,h.pl,h.cl⟩
theorem DI.put(h:DI R H0 p c l m H){t:Addr}{d:ak}{Q:VK}{E:XK}(ht:gk H t d)(hR:R d)(hm:m<=1000)(k:∀H',DI R H0 p c l (m+1) H'->Q .non H'):jC [.ref l,.ref t] H Q E:=by
 obtain⟨ts,ds,h1,h2,h3,h4,h5⟩:=h.ds;refine⟨l,t,ts,ds,d,rfl,h1,h2,ht,aD h5 hm,fun ts' h'=>k _ ⟨h.pen.upd h.pl h.cl,⟨ts',kN ds d,aa,h'.kt (fP h1),?_,?_,?_⟩,?_,h.fr,h.pl,h.cl⟩⟩
 ·unfold kN;split
  ·exact h3
  ·next hn =>
   rw[cR];refine⟨h3,by simp,?_⟩;intro a ha b hb e;have:b=d:=by simpa using hb
   subst this;exact hn (e▸ha)
 ·intro x hx;unfold kN at hx;split at hx
  ·exact h4 x hx
  ·rcases bw.mp hx with hx|hx
   ·exact h4 x hx
   ·have:x=d:=by simpa using hx
    rw[this];exact hR
 ·unfold kN;split
  ·omega
  ·rw[aZ];show ds.length+1<=m+1;omega
 ·intro b o e n;rw[ai (ae e h.fr)];exact h.ex b o e n
end
theorem fZ.ne_strs{H:Hp}{p c a:Addr}{ws:Zb}(hp:fZ H p c)(ha:H a=some (.lst (ws.map V.str))):a≠p:=by
 intro e;obtain⟨x,y,ns,h1,_⟩:=hp;rw[e,h1]at ha;injection ha with ha;injection ha with ha;cases ws with
 |nil=>cases ha
 |cons w ws=>injection ha with ha;cases ha
theorem iJ{K:Za}{r:R2}(hr:∀x y H Q,dk K x y H Q->r x y H Q){σ:L2.St}{H:Hp}{Q:VK}{p c a:Addr}{j:Nat}{ws:Zb}(h0:σ[0]?=some (some (.ref p)))(hj:σ[j]?=some (some (.ref a)))(hp:fZ H p c)
  (ha:H a=some (.lst (ws.map V.str))) (hne:ws≠[]) (hlen:ws.length<=1000) (k:∀w∈ws,∀H',fZ H' p c->bu p H H'->Q (.str w) H') :
  ∃v,σ[j]?=some (some v)/\∃v0,σ[0]?=some (some v0)/\∃v1,σ[j]?=some (some v1)/\gH K [v1] H fun y H1=>d6 [v0,y] H1 (fun y H2=>r v y H2 Q) E0:=by
 have hl:0<ws.length:=by cases ws with|nil=>exact absurd rfl hne|cons _ _=>simp
 have la:(V.int ((ws.map V.str).length:Nat))=V.int (ws.length:Nat):=by rw[ah]
 have hpa:=hp.ne_strs ha;have fin:∀(x:Int) (H':Hp),0<=x->x<(ws.length:Int)->fZ H' p c->bu p H H'->dk K (.ref a) (.int x) H' Q:=by
  intro x H' x0 x1 hp' ex;obtain⟨n,rfl⟩:=iS x0;have hn:n<ws.length:=by omega
  exact⟨a,_,(n:Int),.str ws[n],rfl,rfl,ax.of (ex _ _ ha hpa),cy (by simp[hn]),k _ (List.getElem_mem hn) H' hp' ex⟩
 exact⟨_,hj,_,h0,_,hj,.inl ⟨a,_,rfl,.inl (ax.of ha),by rw[la];exact c9 hp (by omega) (by omega) fun x H' x0 x1 hp' ex=>hr _ _ _ _ (fin x H' x0 x1 hp' ex)⟩⟩
def Up(up:Bool)(rooms:Zb)(a b:Str):Prop:=∃i j:Nat,rooms[i]?=some a/\rooms[j]?=some b/\(if up=true then i<j else j<i)
structure k4(J0 J1 rooms:Zb)(up:Bool)(d:ak):Prop where
 a:d.a∈rooms
 b:d.b∈rooms
 sg:(∃w∈J0,d.sg=[("ask":Str),w])∨(∃w∈J1,d.sg=[("say":Str),w])∨(d.sg=[("still":Str)]/\Up up rooms d.a d.b)
def av:List Str:=[("still":Str)]
structure yv(J0 J1 rooms:Zb)(d:ak):Prop where
 a:d.a∈rooms
 b:d.b∈rooms
 sg:(∃w∈J0,d.sg=[("ask":Str),w])∨(∃w∈J1,d.sg=[("say":Str),w])∨d.sg=av
theorem k4.d{J0 J1 rooms:Zb}{up:Bool}{d:ak}(h:k4 J0 J1 rooms up d):yv J0 J1 rooms d:=⟨h.a,h.b,h.sg.imp id (Or.imp id And.left)⟩
inductive Reach(ds:List ak)(a:Str):Str->Prop
 |one {b:Str}(h:(⟨a,av,b⟩:ak)∈ds):Reach ds a b
 |step {b c:Str}(r:Reach ds a b) (h:(⟨b,av,c⟩:ak)∈ds):Reach ds a c
theorem qI{rooms:Zb}(nd:rooms.Nodup){i j:Nat}{a:Str}(hi:rooms[i]?=some a)(hj:rooms[j]?=some a):i=j:=by
 obtain⟨h1,e1⟩:=bP.mp hi;obtain⟨h2,e2⟩:=bP.mp hj;have pw:=List.pairwise_iff_getElem.mp nd;rcases Nat.lt_trichotomy i j with h|h|h
 ·exact absurd (e1.trans e2.symm) (pw i j h1 h2 h)
 ·exact h
 ·exact absurd (e2.trans e1.symm) (pw j i h2 h1 h)
theorem Up.trans{up:Bool}{rooms:Zb}(nd:rooms.Nodup){a b c:Str}(h1:Up up rooms a b)(h2:Up up rooms b c):Up up rooms a c:=by
 obtain⟨i,j,e1,e2,h⟩:=h1;obtain⟨j',k,e3,e4,h'⟩:=h2;have:=qI nd e2 e3;subst this;refine⟨i,k,e1,e4,?_⟩;cases up
 ·simp at h h' ⊢;omega
 ·simp at h h' ⊢;omega
theorem Up.irr{up:Bool}{rooms:Zb}(nd:rooms.Nodup){a:Str}(h:Up up rooms a a):False:=by
 obtain⟨i,j,e1,e2,h⟩:=h;have:=qI nd e1 e2;subst this;cases up
 ·simp at h
 ·simp at h
theorem Cu{J0 J1 rooms:Zb}{ds:List ak}{up:Bool}(nd:rooms.Nodup)(m:∀d∈ds,k4 J0 J1 rooms up d){a b:Str}(h:Reach ds a b):Up up rooms a b:=by
 have edge:∀{a b:Str},(⟨a,av,b⟩:ak)∈ds->Up up rooms a b:=by
  intro a b h;rcases(m _ h).sg with⟨w,_,e⟩|⟨w,_,e⟩|⟨_,e⟩
  ·cases e
  ·cases e
  ·exact e
 induction h with
 |one h=>exact edge h
 |step r h ih=>exact ih.trans nd (edge h)
inductive gx (vs:List V)(H:Hp)(Q:VK)(E:XK):Prop
 |mk (p c l1 l2 l3:Addr) (J0 J1 rooms:Zb) (full:Int):(vs=[.ref p,.ref l1,.ref l2,.ref l3,.int full])->(fZ H p c)->(H l1=some (.lst (J0.map V.str)))->(H l2=some (.lst (J1.map V.str)))->(H l3=some (.lst (rooms.map V.str)))->(J0.length<=4)->(J1≠[])->(J1.length<=4)->(rooms≠[])->(rooms.length<=26)->(0<=full)->(full<=2)->(∀(l:Addr) (ts:Ze) (ds:List ak) (up:Bool) (H':Hp),H l=none->H' l=some (.lst (ts.map V.ref))->cn H' ts ds->ds.Nodup->(∀d∈ds,k4 J0 J1 rooms up d)->ds.length<=600->fZ H' p c->bu p H H'->Q (.ref l) H')->gx  vs H Q E
theorem at4{x r:Int}(x0:0<=x)(x2:x<=2)(r0:0<=r)(r4:r<4):∃j:Int,ye [V.int x,.int 1,.int 1,.int 2] r=some (.int j)/\0<=j/\j<=2:=by
 have:r=0∨r=1∨r=2∨r=3:=by omega
 rcases this with rfl|rfl|rfl|rfl
 ·exact⟨x,rfl,x0,x2⟩
 ·exact⟨1,rfl,by decide,by decide⟩
 ·exact⟨1,rfl,by decide,by decide⟩
 ·exact⟨2,rfl,by decide,by decide⟩
theorem uJ(ws:Zb)(k:Nat):gL (ws.map V.str) (some (k:Int)) none=(ws.drop k).map V.str:=by
 unfold gL;rw[HT.sIx_none,HT.sIx_nat,ah,u1 (by rw[fA,ah];omega),uZ];by_cases h:k<=ws.length
 ·rw[qT h]
 ·rw[Nat.min_eq_right (by omega),u5 (by simp),u5 (by rw[ah];omega)]
theorem qM(ws:Zb)(k:Nat):gL (ws.map V.str) none (some (k:Int))=(ws.take k).map V.str:=by
 unfold gL;rw[HT.sIx_none,HT.sIx_nat,ah,qW,Nat.sub_zero,qU,List.take_eq_take_iff,ah];omega
theorem sM{K:Za}{H:Hp}{a:Addr}{ws:Zb}(h:ax K H a (ws.map V.str)):ni K H (.s (ws.map gR)) (.ref a):=by
 unfold ni;exact⟨a,_,rfl,h,jK _⟩
theorem Fk{K:Za}{H:Hp}{a:Addr}(h:ax K H a []):ni K H (.s []) (.ref a):=by
 unfold ni;refine⟨a,_,rfl,h,?_⟩;unfold DIns
 rfl
theorem tW{K:Za}{vs:List V}{H:Hp}{Q:VK}{E:XK}(h:gx vs H Q E):oQ K d6 jC (bd Q) (start pp vs) H:=by
 obtain⟨p,c,l1,l2,l3,J0,J1,rooms,full,rfl,hp,h1,h2,h3,ha,hs0,hs,hr0,hr,f0,f2,k⟩:=h;have n1:=hp.ne_strs h1;have n2:=hp.ne_strs h2;have n3:=hp.ne_strs h3;refine⟨(by show 0<=aj;decide),fun l hl=>?_⟩;have hpl:=hp.nep hl;have hcl:=hp.nec hl;refine⟨_,rfl,c9 (hp.ex (ab.new hl)) (by decide) (by decide) fun dn H1 d0 d1 hp1 ex1=>?_⟩;generalize hG:k4 J0 J1 rooms (decide (dn=0))=G;have base:DI G H p c l 0 H1:=⟨hp1,⟨[],[],ex1 _ _ aa hpl.symm,.nil,rf,by simp,eK _⟩,(bu.new hl).trans ex1,hl,hpl,hcl⟩;refine⟨_,rfl,l3,rfl,⟨_,ax.of (base.ex _ _ h3 n3)⟩,?_⟩;refine kT (xs:=rooms.map V.str) (fun i σ H'=>∃a7 a8 a9 a10 a11 a12:Option V,σ=[some (.ref p),some (.ref l1),some (.ref l2),some (.ref l3),some (.int full),some (.ref l),some (.int dn),a7,a8,a9,a10,a11,a12]/\DI G H p c l (11 * i) H')
  ⟨_,_,_,_,_,_,rfl,base⟩ (fun i σ H' _ ⟨_,_,_,_,_,_,_,D⟩=>ax.of (D.ex _ _ h3 n3)) ?_ ?_
 ·rintro i x σ H' t hi ⟨a7,a8,a9,a10,a11,a12,rfl,D⟩ ht;obtain⟨room,hroom,rfl⟩:∃room,rooms[i]?=some room/\x=V.str room:=by
   rw[cS]at hi;cases q:rooms[i]? with
   |none=>rw[q]at hi;cases hi
   |some r=>rw[q]at hi;exact⟨r,rfl,(eD hi).symm⟩
  have hiL:i<rooms.length:=(bP.mp hroom).1;have hmem:room∈rooms:=bJ hroom;refine⟨t,_,rfl,bA.of aa,rfl,_,_,rfl,_,_,rfl,rfl,?_⟩;have D1:=D.new ht (o:=.tup [.int i,.str room]);refine⟨(by show 4<=aj;decide),fun q hq=>⟨_,rfl,c9 (D1.new hq).pen (by decide) (by decide) fun r H2 r0 r1 hp2 ex2=>?_⟩⟩;obtain⟨j,hj,j0,j2⟩:=at4 (x:=0) (by decide) (by decide) r0 r1;have D2:=(D1.new hq).took hp2 ex2;refine⟨q,_,_,_,rfl,rfl,ax.of (ex2 q _ aa (D1.pen.nep hq).symm),hj,j,rfl,by omega,by omega,?_⟩;refine lF (lo:=0) (n:=j.toNat) (fun i' σ H''=>∃a9 a10:Option V,σ=[some (.ref p),some (.ref l1),some (.ref l2),some (.ref l3),some (.int full),some (.ref l),some (.int dn),some (.int i),some (.str room),a9,a10,a11,a12]/\DI G H p c l (11 * i+i') H'')
   ⟨_,_,rfl,D2⟩ ?_ ?_
  ·rintro i' σ H3 hi' ⟨a9,a10,rfl,D3⟩;refine iJ (fun _ _ _ _ h=>h) rfl rfl D3.pen (D3.ex _ _ h2 n2) hs0 (by omega) fun w hw H4 hp4 ex4=>?_;have D4:=D3.took hp4 ex4;refine⟨(by show 2<=aj;decide),fun sg hsg=>?_⟩;have D5:=D4.new hsg (o:=.tup [.str "say",.str w]);refine⟨_,rfl,_,rfl,_,rfl,iJ (fun _ _ _ _ h=>h) rfl rfl D5.pen (D5.ex _ _ h3 n3) hr0 (by omega) fun w2 hw2 H6 hp6 ex6=>?_⟩;have D6:=D5.took hp6 ex6;refine⟨(by show 3<=aj;decide),fun dr hdr=>?_⟩;have D7:=D6.new hdr (o:=.tup [.str room,.ref sg,.str w2]);have hsg6:H6 sg=some (.tup [.str "say",.str w]):=ex6 _ _ aa (D4.pen.nep hsg).symm;refine D7.put (d:=⟨room,["say",w],w2⟩) ⟨sg,aa,kp hsg6 hdr⟩ ?_ (by omega) fun H8 D8=>⟨_,_,rfl,D8⟩;rw[<-hG];exact⟨hmem,hw2,.inr (.inl ⟨w,hw,rfl⟩)⟩
  rintro σ H3 ⟨a9,a10,rfl,D3'⟩;have D3:DI G H p c l (11 * i+2) H3:=D3'.up (by omega);clear D3';refine⟨_,rfl,l1,rfl,⟨_,ax.of (D3.ex _ _ h1 n1)⟩,?_⟩;refine bD (xs:=J0.map V.str) (fun i' σ H''=>∃a9 a11:Option V,σ=[some (.ref p),some (.ref l1),some (.ref l2),some (.ref l3),some (.int full),some (.ref l),some (.int dn),some (.int i),some (.str room),a9,a10,a11,a12]/\DI G H p c l (11 * i+2+2 * i') H'')
   ⟨_,_,rfl,D3⟩ (fun i σ H' _ ⟨_,_,_,D⟩=>ax.of (D.ex _ _ h1 n1)) ?_ ?_
  ·rintro i' x σ H4 hi' ⟨a9,a11,rfl,D4⟩;obtain⟨ask,hask,rfl⟩:∃ask,J0[i']?=some ask/\x=V.str ask:=by
    rw[cS]at hi';cases q:J0[i']? with
    |none=>rw[q]at hi';cases hi'
    |some r=>rw[q]at hi';exact⟨r,rfl,(eD hi').symm⟩
   have hi2:i'<J0.length:=(bP.mp hask).1;have hm2:ask∈J0:=bJ hask;refine⟨_,rfl,(by show 4<=aj;decide),fun q hq=>⟨_,rfl,c9 (D4.new hq).pen (by decide) (by decide) fun r H5 r0 r1 hp5 ex5=>?_⟩⟩;obtain⟨j,hj,j0,j2⟩:=at4 f0 f2 r0 r1;have D5:=(D4.new hq).took hp5 ex5;refine⟨q,_,_,_,rfl,rfl,ax.of (ex5 q _ aa (D4.pen.nep hq).symm),hj,j,rfl,by omega,by omega,?_⟩;refine lF (lo:=0) (n:=j.toNat) (fun i'' σ H''=>∃a9:Option V,σ=[some (.ref p),some (.ref l1),some (.ref l2),some (.ref l3),some (.int full),some (.ref l),some (.int dn),some (.int i),some (.str room),a9,a10,some (.str ask),a12]/\DI G H p c l (11 * i+2+2 * i'+i'') H'')
    ⟨_,rfl,D5⟩ ?_ ?_
   ·rintro i'' σ H6 hi'' ⟨a9,rfl,D6⟩;refine⟨_,rfl,_,rfl,_,rfl,(by show 2<=aj;decide),fun sg hsg=>?_⟩;have D7:=D6.new hsg (o:=.tup [.str "ask",.str ask]);refine iJ (fun _ _ _ _ h=>h) rfl rfl D7.pen (D7.ex _ _ h3 n3) hr0 (by omega) fun w2 hw2 H8 hp8 ex8=>?_;have D8:=D7.took hp8 ex8;refine⟨(by show 3<=aj;decide),fun dr hdr=>?_⟩;have D9:=D8.new hdr (o:=.tup [.str room,.ref sg,.str w2]);have hsg8:H8 sg=some (.tup [.str "ask",.str ask]):=ex8 _ _ aa (D6.pen.nep hsg).symm;refine D9.put (d:=⟨room,["ask",ask],w2⟩) ⟨sg,aa,kp hsg8 hdr⟩ ?_ (by omega) fun H8 D8=>⟨_,rfl,D8⟩;rw[<-hG];exact⟨hmem,hw2,.inl ⟨ask,hm2,rfl⟩⟩
   ·rintro σ H6 ⟨a9,rfl,D6⟩;exact⟨_,_,rfl,D6.up (by omega)⟩
  rintro σ H4 ⟨a9,a11,rfl,D4'⟩;have D4:DI G H p c l (11 * i+10) H4:=D4'.up (by rw[ah];omega);clear D4';have hnext:∀(H9:Hp) (a12:Option V),DI G H p c l (11 * i+11) H9->∃a7 a8 a9' a10' a11' a12':Option V,[some (.ref p),some (.ref l1),some (.ref l2),some (.ref l3),some (.int full),some (.ref l),some (.int dn),some (.int i),some (.str room),a9,a10,a11,a12] =
    [some (.ref p),some (.ref l1),some (.ref l2),some (.ref l3),some (.int full),some (.ref l),some (.int dn),a7,a8,a9',a10',a11',a12']/\DI G H p c l (11 * (i+1)) H9:=fun H9 a12 D9=>⟨_,_,_,_,_,_,rfl,D9.up (by omega)⟩
  refine⟨_,rfl,_,rfl,_,_,rfl,rfl,_,rfl,l3,_,rfl,ax.of (D4.ex _ _ h3 n3),fun q1 hq1=>?_⟩;have D5:=D4.new hq1 (o:=.lst (gL (rooms.map V.str) (some ((i:Int)+1)) none));refine⟨_,rfl,_,rfl,_,rfl,l3,_,rfl,ax.of (D5.ex _ _ h3 n3),fun q2 hq2=>?_⟩;have e1:gL (rooms.map V.str) (some ((i:Int)+1)) none=(rooms.drop (i+1)).map V.str:=uJ rooms (i+1);rw[qM];have D6:=D5.new hq2 (o:=.lst ((rooms.take i).map V.str));refine⟨(by show 2<=aj;decide),fun q3 hq3=>?_⟩;have D7:=D6.new hq3 (o:=.lst [.ref q1,.ref q2]);obtain⟨lt,q,hq,hlt,hgood⟩:∃(lt:Zb) (q:Addr),ye [V.ref q1,.ref q2] dn=some (.ref q) /\
    upd (upd (upd H4 q1 (.lst (gL (rooms.map V.str) (some ((i:Int)+1)) none))) q2 (.lst ((rooms.take i).map V.str))) q3 (.lst [.ref q1,.ref q2]) q=some (.lst (lt.map V.str))/\lt.length<=26 /\
    ∀w∈lt,w∈rooms/\Up (decide (dn=0)) rooms room w:=by
   have:dn=0∨dn=1:=by omega
   rcases this with rfl|rfl
   ·refine⟨rooms.drop (i+1),q1,rfl,?_,by rw[fA];omega,fun w hw=>⟨List.mem_of_mem_drop hw,?_⟩⟩
    ·refine(kp (kp aa hq2) hq3).trans ?_;rw[e1]
    ·obtain⟨n,hn⟩:=oz hw;rw[List.getElem?_drop]at hn;exact⟨i,i+1+n,hroom,hn,by rw[if_pos (by decide)];omega⟩
   ·refine⟨rooms.take i,q2,rfl,?_,by rw[az];omega,fun w hw=>⟨f6 hw,?_⟩⟩
    ·exact kp aa hq3
    ·obtain⟨n,hn⟩:=oz hw;have hnl:n<i:=by
      have:=(bP.mp hn).1;rw[az]at this;omega
     rw[List.getElem?_take_of_lt hnl]at hn;exact⟨i,n,hroom,hn,by rw[if_neg (by decide)];omega⟩
  refine⟨_,rfl,q3,_,_,_,rfl,rfl,ax.of aa,hq,?_⟩;generalize upd (upd (upd H4 q1 (.lst (gL (rooms.map V.str) (some ((i:Int)+1)) none))) q2 (.lst ((rooms.take i).map V.str))) q3 (.lst [.ref q1,.ref q2])=H7 at D7 hlt ⊢;refine⟨_,rfl,(by show 0<=aj;decide),fun e he=>⟨.s (lt.map gR),.s [],sM (ax.of (kp hlt he)),Fk (ax.of aa),?_,by decide,_,rfl,?_⟩⟩
  ·show DT.depths (lt.map gR)+1<=8;rw[dR];decide
  have D8:=D7.new he (o:=.lst []);by_cases hz:lt=[]
  ·have ez:(!decide (DT.s (lt.map gR)=DT.s []))=false:=by rw[hz,zzr1 (by rfl)];rfl
   rw[ez];exact bS (bS (hnext _ _ (D8.up (by omega))))
  ·have ez:(!decide (DT.s (lt.map gR)=DT.s []))=true:=by
    rw[zzr0 (fun z=>hz (gK (y:=[]) (by injection z)))];rfl
   rw[ez];refine cj ?_;refine⟨_,rfl,c9 D8.pen (by decide) (by decide) fun r H9 r0 r1 hp9 ex9=>⟨rfl,_,rfl,?_⟩⟩;have D9:=D8.took hp9 ex9;refine hU (fun _=>?_) (fun _=>hnext _ _ (D9.up (by omega)));refine⟨_,rfl,_,rfl,(by show 1<=aj;decide),fun sg hsg=>?_⟩;have D10:=D9.new hsg (o:=.tup [.str "still"]);have hlt10:upd H9 sg (.tup [.str "still"]) q=some (.lst (lt.map V.str)):=kp (ex9 _ _ (kp hlt he) (D8.pen.ne_strs (kp hlt he))) hsg;refine iJ (fun _ _ _ _ h=>.inl h) rfl rfl D10.pen hlt10 hz (by omega) fun w2 hw2 H11 hp11 ex11=>?_;have D11:=D10.took hp11 ex11;refine⟨(by show 3<=aj;decide),fun dr hdr=>?_⟩;have D12:=D11.new hdr (o:=.tup [.str room,.ref sg,.str w2]);have hsg11:H11 sg=some (.tup [.str "still"]):=ex11 _ _ aa (D9.pen.nep hsg).symm;refine D12.put (d:=⟨room,[("still":Str)],w2⟩) ⟨sg,aa,kp hsg11 hdr⟩ ?_ (by omega) fun H13 D13=>hnext _ _ D13;rw[<-hG];exact⟨hmem,(hgood.2 w2 hw2).1,.inr (.inr ⟨rfl,(hgood.2 w2 hw2).2⟩)⟩
 ·rintro σ H' ⟨a7,a8,a9,a10,a11,a12,rfl,D⟩;obtain⟨ts,ds,g1,g2,g3,g4,g5⟩:=D.ds;rw[ah]at g5;rw[<-hG]at g4;exact⟨_,rfl,k l ts ds _ H' hl g1 g2 g3 g4 (by omega) D.pen D.ex⟩
structure aG(J0 J1 rooms:Zb)(ds:List ak):Prop where
 okA:jN J0
 okS:jN J1
 apart:∀w∈J1,w∉J0
 okR:jN rooms
 asks0:J0≠[]
 says0:J1≠[]
 rooms0:rooms≠[]
 asks4:J0.length<=4
 says4:J1.length<=4
 rooms26:rooms.length<=150
 nodup:ds.Nodup
 good:∀d∈ds,yv J0 J1 rooms d
 few:ds.length<=1000
 noround:∀r,¬Reach ds r r
structure fT(H:Hp)(t l1 l2 l3 l4:Addr)(ts:Ze)(J0 J1 rooms:Zb)(ds:List ak):Prop where
 t:H t=some (.tup [.ref l1,.ref l2,.ref l3,.ref l4])
 a1:H l1=some (.lst (J0.map V.str))
 a2:H l2=some (.lst (J1.map V.str))
 a3:H l3=some (.lst (rooms.map V.str))
 a4:H l4=some (.lst (ts.map V.ref))
 ds:cn H ts ds
theorem fZ.ne_refs{H:Hp}{p c a:Addr}{ts:Ze}(hp:fZ H p c)(ha:H a=some (.lst (ts.map V.ref))):a≠p:=by
 intro e;obtain⟨x,y,ns,h1,_⟩:=hp;rw[e,h1]at ha;injection ha with ha;injection ha with ha;cases ts with
 |nil=>cases ha
 |cons w ws =>
  injection ha with _ ha;cases ws with
  |nil=>cases ha
  |cons w ws=>injection ha with ha;cases ha
theorem fT.ex{H H':Hp}{p c t l1 l2 l3 l4:Addr}{ts:Ze}{J0 J1 rooms:Zb}{ds:List ak}(h:fT H t l1 l2 l3 l4 ts J0 J1 rooms ds)(hp:fZ H p c)(e:bu p H H'):fT H' t l1 l2 l3 l4 ts J0 J1 rooms ds:=by
 obtain⟨xs,hx⟩:=hp.lst;exact⟨e.kt hx _ _ h.t,e _ _ h.a1 (hp.ne_strs h.a1),e _ _ h.a2 (hp.ne_strs h.a2),e _ _ h.a3 (hp.ne_strs h.a3),e _ _ h.a4 (hp.ne_refs h.a4),h.ds.kt (e.kt hx)⟩
theorem fT.same{H H':Hp}{t l1 l2 l3 l4:Addr}{ts:Ze}{J0 J1 rooms:Zb}{ds:List ak}(h:fT H t l1 l2 l3 l4 ts J0 J1 rooms ds)(e:ab H H'):fT H' t l1 l2 l3 l4 ts J0 J1 rooms ds :=
 ⟨e _ _ h.t,e _ _ h.a1,e _ _ h.a2,e _ _ h.a3,e _ _ h.a4,h.ds.kt (ab.kt e)⟩
inductive nJ (vs:List V)(H:Hp)(Q:VK)(E:XK):Prop
 |mk (p c:Addr) (most full:Int):(vs=[.ref p,.int most,.int full])->(fZ H p c)->(0<most)->(most<=25)->(0<=full)->(full<=2)->(∀(t l1 l2 l3 l4:Addr) (ts:Ze) (J0 J1 rooms:Zb) (ds:List ak) (H':Hp),fT H' t l1 l2 l3 l4 ts J0 J1 rooms ds->aG J0 J1 rooms ds->rooms.length<=most.toNat->ds.length<=600->fZ H' p c->bu p H H'->Q (.ref t) H')->nJ  vs H Q E
theorem at6{r:Int}(r0:0<=r)(r6:r<6):∃n:Nat,ye [V.int 0,.int 1,.int 1,.int 2,.int 2,.int 3] r=some (.int n)/\n<=3:=by
 have:r=0∨r=1∨r=2∨r=3∨r=4∨r=5:=by omega
 rcases this with rfl|rfl|rfl|rfl|rfl|rfl
 ·exact⟨0,rfl,by decide⟩
 ·exact⟨1,rfl,by decide⟩
 ·exact⟨1,rfl,by decide⟩
 ·exact⟨2,rfl,by decide⟩
 ·exact⟨2,rfl,by decide⟩
 ·exact⟨3,rfl,by decide⟩
theorem DU{ws:Zb}(hw:ws.length=8){n:Nat}(hn:n<=3):gL (ws.map V.str) (some 4) (some (5+(n:Int)))=((ws.drop 4).take (1+n)).map V.str:=by
 unfold gL;have s1:HT.sIx (ws.map V.str).length 0 (some 4)=min 4 (ws.map V.str).length:=HT.sIx_nat _ _ 4;have s2:HT.sIx (ws.map V.str).length (ws.map V.str).length (some (5+(n:Int)))=min (5+n) (ws.map V.str).length:=HT.sIx_nat _ _ (5+n);rw[s1,s2,ah,hw,qU,uZ];have e1:min 4 8=4:=by decide
 have e2:min (5+n) 8-4=1+n:=by omega
 rw[e1,e2]
theorem CN{K:Za}{vs:List V}{H:Hp}{Q:VK}{E:XK}(h:nJ vs H Q E):w_ K gx kH d6 qF (bd Q) (start yo vs) H:=by
 obtain⟨p,c,most,full,rfl,hp,m0,m1,f0,f2,k⟩:=h;refine⟨_,rfl,p,c,rfl,hp,fun H1 hp1 ex1=>?_⟩;refine⟨_,rfl,p,c,8,rfl,hp1,by decide,fun lw ws H2 ok len fr hl hp2 ex2=>?_⟩;have e2:=ex1.trans ex2;have nw:=hp2.ne_strs hl;refine⟨_,rfl,(by show 6<=aj;decide),fun q hq=>⟨_,rfl,c9 (hp2.ex (ab.new hq)) (by decide) (by decide) fun r H3 r0 r1 hp3 ex3=>?_⟩⟩;obtain⟨n,hn,n3⟩:=at6 r0 r1;have hl3:H3 lw=some (.lst (ws.map V.str)):=ex3 _ _ (kp hl hq) nw;refine⟨q,_,_,_,rfl,rfl,ax.of (ex3 _ _ aa (hp2.nep hq).symm),hn,_,_,rfl,rfl,_,rfl,lw,_,rfl,ax.of hl3,fun l1 hl1=>?_⟩;have ea:gL (ws.map V.str) none (some (1+(n:Int)))=(ws.take (1+n)).map V.str:=qM ws (1+n);rw[ea];have e3:bu p H H3:=e2.trans ((bu.new hq).trans ex3);have hp4:fZ (upd H3 l1 (.lst ((ws.take (1+n)).map V.str))) p c:=hp3.ex (ab.new hl1);have e4:bu p H (upd H3 l1 (.lst ((ws.take (1+n)).map V.str))):=e3.trans (bu.new hl1);have hl4:upd H3 l1 (.lst ((ws.take (1+n)).map V.str)) lw=some (.lst (ws.map V.str)):=kp hl3 hl1;have ha4:upd H3 l1 (.lst ((ws.take (1+n)).map V.str)) l1=some (.lst ((ws.take (1+n)).map V.str)):=aa;generalize upd H3 l1 (.lst ((ws.take (1+n)).map V.str))=H4 at hp4 e4 hl4 ha4 ⊢;refine⟨_,rfl,_,rfl,(by show 6<=aj;decide),fun q hq=>⟨_,rfl,c9 (hp4.ex (ab.new hq)) (by decide) (by decide) fun r H5 r0 r1 hp5 ex5=>?_⟩⟩;obtain⟨m,hm,m3⟩:=at6 r0 r1;have hl5:H5 lw=some (.lst (ws.map V.str)):=ex5 _ _ (kp hl4 hq) nw;have ha5:H5 l1=some (.lst ((ws.take (1+n)).map V.str)):=ex5 _ _ (kp ha4 hq) (hp4.ne_strs ha4);refine⟨q,_,_,_,rfl,rfl,ax.of (ex5 _ _ aa (hp4.nep hq).symm),hm,_,_,rfl,rfl,_,rfl,lw,_,rfl,ax.of hl5,fun l2 hl2=>?_⟩;rw[DU len m3];have e5:bu p H H5:=e4.trans ((bu.new hq).trans ex5);have hp6:fZ (upd H5 l2 (.lst (((ws.drop 4).take (1+m)).map V.str))) p c:=hp5.ex (ab.new hl2);have e6:bu p H (upd H5 l2 (.lst (((ws.drop 4).take (1+m)).map V.str))):=e5.trans (bu.new hl2);have ha6:upd H5 l2 (.lst (((ws.drop 4).take (1+m)).map V.str)) l1=some (.lst ((ws.take (1+n)).map V.str)):=kp ha5 hl2;have hb6:upd H5 l2 (.lst (((ws.drop 4).take (1+m)).map V.str)) l2=some (.lst (((ws.drop 4).take (1+m)).map V.str)):=aa;generalize upd H5 l2 (.lst (((ws.drop 4).take (1+m)).map V.str))=H6 at hp6 e6 ha6 hb6 ⊢;refine⟨_,rfl,_,rfl,_,rfl,c9 hp6 m0 (by omega) fun r H7 r0 r1 hp7 ex7=>?_⟩;obtain⟨rn,rfl⟩:=iS r0;have ha7:=ex7 _ _ ha6 (hp6.ne_strs ha6);have hb7:=ex7 _ _ hb6 (hp6.ne_strs hb6);refine⟨_,_,rfl,rfl,p,c,1+rn,rfl,hp7,by omega,fun l3 rooms H8 okr lenr fr3 hl3' hp8 ex8=>?_⟩;have ha8:=ex8 _ _ ha7 (hp7.ne_strs ha7);have hb8:=ex8 _ _ hb7 (hp7.ne_strs hb7);have hs0:(ws.drop 4).take (1+m)≠[]:=by
  intro z;have:=congrArg List.length z;rw[az,fA,len]at this;simp at this
 have ha0:ws.take (1+n)≠[]:=by
  intro z;have:=congrArg List.length z;rw[az,len]at this;simp at this
 have hr0:rooms≠[]:=by
  intro z;rw[z]at lenr;simp at lenr;omega
 refine⟨_,rfl,_,rfl,_,rfl,_,rfl,_,rfl,p,c,l1,l2,l3,_,_,rooms,full,rfl,hp8,ha8,hb8,hl3',by rw[az];omega,hs0,by rw[az];omega,hr0,by omega,f0,f2,fun l4 ts ds up H9 fr4 hl4' hds nod good few hp9 ex9=>?_⟩;have ha9:=ex9 _ _ ha8 (hp8.ne_strs ha8);have hb9:=ex9 _ _ hb8 (hp8.ne_strs hb8);have hc9:=ex9 _ _ hl3' (hp8.ne_strs hl3');refine⟨_,rfl,_,rfl,_,rfl,_,rfl,(by show 4<=aj;decide),fun t ht=>k t l1 l2 l3 l4 ts _ _ rooms ds _ ⟨aa,kp ha9 ht,kp hb9 ht,kp hc9 ht,kp hl4' ht,hds.kt (ab.kt (ab.new ht))⟩ ?_ ?_ few (hp9.ex (ab.new ht)) ?_⟩
 ·refine⟨⟨?_,fun w h=>ok.2 w (f6 h)⟩,⟨?_,fun w h=>ok.2 w (List.mem_of_mem_drop (f6 h))⟩,?_,okr,ha0,hs0,hr0,by rw[az];omega,by rw[az];omega,by omega,nod,fun d hd=>(good d hd).d,by omega,fun r z=>(Cu okr.1 good z).irr okr.1⟩
  ·exact ok.1.sublist (List.take_sublist _ _)
  ·exact ok.1.sublist ((List.take_sublist _ _).trans (List.drop_sublist _ _))
  ·intro w h1 h2;have h3:w∈ws.drop 4:=f6 h1;have h4:w∈ws.take 4:=by
    have:ws.take (1+n)=(ws.take 4).take (1+n):=by rw[List.take_take];congr 1;omega
    rw[this]at h2;exact f6 h2
   have:=ok.1;rw[<-uW 4 ws,cR]at this;exact this.2.2 w h4 w h3 rfl
 ·omega
 ·exact(((e6.trans ex7).trans ex8).trans ex9).trans (bu.new ht)
theorem bf{ws:Zb}{i:Nat}{x:V}(h:(ws.map V.str)[i]?=some x):∃w,ws[i]?=some w/\x=.str w:=by
 rw[cS]at h;cases q:ws[i]? with
 |none=>rw[q]at h;cases h
 |some r=>rw[q]at h;exact⟨r,rfl,(eD h).symm⟩
theorem take_snoc{α:Type}{ws:List α}{i:Nat}{w:α}(h:ws[i]?=some w):ws.take (i+1)=ws.take i++[w]:=by
 obtain⟨hi,rfl⟩:=bP.mp h;rw[List.take_succ_eq_append_getElem hi]
def nW(w:Str):Bool:=!decide (w=("":Str)) && (decide (w.length<=8) && w.cps.toList.all fun c=>decide (c∈("abcdefghijklmnopqrstuvwxyz":Str).cps.toList))
theorem pE.b{w:Str}(h:pE w):nW w=true:=by
 unfold nW;have h1:¬(w=("":Str)):=fun e=>by
  have:=h.lo;rw[e]at this;exact absurd this (by decide +kernel)
 rw[zzr0 h1,zzr1 h.hi,Bool.not_false,qR,qR,List.all_eq_true];intro c hc;obtain⟨c1,c2⟩:=h.al c hc;refine zzr1 ?_;have:=AZ (c-97) (by omega);have e:97+(c-97)=c:=by omega
 rw[e]at this;exact bJ this
inductive sp_is_name (vs:List V)(H:Hp)(Q:VK)(E:XK):Prop
 |mk (w:Str):(vs=[.str w])->(w.length<=1000)->(∀H',ab H H'->Q (.bl (nW w)) H')->sp_is_name  vs H Q E
theorem y9{K:Za}{vs:List V}{H:Hp}{Q:VK}{E:XK}(h:sp_is_name vs H Q E):Bh K (bd Q) (start Cg vs) H:=by
 obtain⟨w,rfl,hz,k⟩:=h;refine⟨_,rfl,rfl,_,rfl,?_⟩;have ed:(!decide (V.str w=V.str ("":Str)))=!decide (w=("":Str)):=by
  congr 1;by_cases e:w=("":Str)
  ·rw[zzr1 e,zzr1 (by rw[e])]
  ·rw[zzr0 e,zzr0 (fun z=>e (by injection z))]
 rw[ed];refine hU (fun h1=>?_) (fun h1=>?_)
 ·refine⟨_,rfl,.inr ⟨w,rfl,cZ (am hz),_,_,rfl,rfl,_,rfl,?_⟩⟩;refine hU (fun h2=>?_) (fun h2=>?_)
  ·refine⟨_,rfl,w,rfl,fun l hl=>?_⟩;refine DV (fun i vs H'=>vs=((w.cps.toList.take i).map fun c=>V.bl (decide (c∈("abcdefghijklmnopqrstuvwxyz":Str).cps.toList)))/\ab H H'/\H' l=some (.lst vs))
    ⟨rfl,ab.new hl,aa⟩ (fun i vs H' _ h=>h.2.2) ?_ ?_
   ·rintro vs H' ⟨rfl,hS,hl'⟩;refine⟨l,w.cps.toList.map fun c=>decide (c∈("abcdefghijklmnopqrstuvwxyz":Str).cps.toList),rfl,ax.of ?_,?_⟩
    ·rw[hl',iR];have:w.cps.toList.take w.cps.size=w.cps.toList:=by
      rw[u1];simp
     rw[this]
     rfl
    ·have:=k H' hS;have h2':decide (w.length<=8)=true:=zzr1 (by have:=of_decide_eq_true h2;omega);unfold nW at this;rw[h1,h2',qR,qR]at this;rw[List.all_map];exact this
   ·rintro i vs H' c hc hi ⟨rfl,hS,hl'⟩;refine gN (lK ?_);refine⟨_,rfl,c,_,rfl,rfl,hl',?_,ke hi ⟨?_,?_,aa⟩⟩
    ·rw[ah,az];have:w.length=w.cps.toList.length:=eQ w;exact am (by omega)
    ·rw[take_snoc (by rw[<-hc];simp),aq]
     rfl
    ·intro b o e;rw[ai (ae e hl)];exact hS b o e
  ·have:=k H (ab.refl H);have h2':decide (w.length<=8)=false:=zzr0 (fun z=>h2 (zzr1 (by omega)));unfold nW at this;rw[h1,h2',qR,Ae]at this;exact this
 ·have:=k H (ab.refl H);unfold nW at this;rw[Bool.eq_false_iff.mpr h1,Ae]at this;exact this
def aR(ws:Zb):List (em×V):=ws.foldl (fun acc w=>cH acc (.inr w) (.bl true)) []
theorem c7(ws:Zb)(w:Str):aR (ws++[w])=cH (aR ws) (.inr w) (.bl true):=by
 unfold aR;rw[List.foldl_append]
 rfl
theorem xz{κ:Type}[DecidableEq κ](kvs:List (κ×V))(k:κ)(v:V):(cH kvs k v).length<=kvs.length+1:=by
 unfold cH;split
 ·rw[ah];omega
 ·rw[aZ];exact aA _
theorem i_{α:Type}(P:List α->Prop)(h0:P [])(hs:∀ws w,P ws->P (ws++[w]))(ws:List α):P ws:=by
 have:∀n (ws:List α),ws.length=n->P ws:=by
  intro n
  induction n with
  |zero=>intro ws h;rw[List.length_eq_zero_iff.mp h];exact h0
  |succ n ih =>
   intro ws h;have hne:ws≠[]:=fun z=>by rw[z]at h;cases h
   rw[<-List.dropLast_concat_getLast hne];exact hs _ _ (ih _ (by rw[List.length_dropLast,h];rfl))
 exact this _ ws rfl
theorem jH(ws:Zb):(aR ws).length<=ws.length:=by
 refine i_ (fun ws=>(aR ws).length<=ws.length) (aA _) (fun ws w h=>?_) ws;show(aR (ws++[w])).length<=(ws++[w]).length;rw[c7,aZ];have:=xz (aR ws) (.inr w) (.bl true);show _<=ws.length+1;omega
theorem sF(ws:Zb)(x:Str):aU (aR ws) (.inr x)=if x∈ws then some (.bl true)else none:=by
 refine i_ (fun ws=>aU (aR ws) (.inr x)=if x∈ws then some (.bl true)else none) rfl (fun ws w h=>?_) ws
 show aU (aR (ws++[w])) (.inr x)=_;rw[c7,fB,h];by_cases e:x=w
 ·subst e;rw[if_pos rfl,if_pos (by simp)]
 ·have e1:¬((Sum.inr x:em)=.inr w):=fun z=>e (by injection z);rw[if_neg e1];by_cases m:x∈ws
  ·rw[if_pos m,if_pos (dj _ m)]
  ·rw[if_neg m,if_neg (fun z=>by rcases bw.mp z with z|z;exact m z;exact e (by simpa using z))]
theorem eg(ws:Zb)(x:Str):(aU (aR ws) (.inr x)).isSome=decide (x∈ws):=by
 rw[sF];by_cases m:x∈ws
 ·rw[if_pos m,zzr1 m];rfl
 ·rw[if_neg m,zzr0 m];rfl
inductive sp_as_keys(K:Za)(vs:List V)(H:Hp)(Q:VK)(E:XK):Prop
 |mk (l:Addr) (ws:Zb):(vs=[.ref l])->(ax K H l (ws.map V.str))->(ws.length<=1000)->(∀d,H d=none->Q (.ref d) (upd H d (.dK (aR ws))))->sp_as_keys K vs H Q E
theorem y_{K:Za}{vs:List V}{H:Hp}{Q:VK}{E:XK}(h:sp_as_keys K vs H Q E):Bi K (bd Q) (start Ch vs) H:=by
 obtain⟨l,ws,rfl,hl,hz,k⟩:=h;refine fun d hd=>?_;have key:∀kvs,ax K (upd H d (.dK kvs)) l (ws.map V.str):=fun kvs=>(ab.new hd).seq hl;refine⟨_,rfl,l,rfl,⟨_,key _⟩,?_⟩;refine bD (xs:=ws.map V.str) (fun i σ H'=>∃x,σ=[some (.ref l),some (.ref d),x]/\H'=upd H d (.dK (aR (ws.take i)))) ⟨_,rfl,rfl⟩ (fun i σ H' _ ⟨_,_,e⟩=>by rw[e];exact key _) ?_ ?_
 ·rintro i x σ H' hi ⟨y,rfl,rfl⟩;obtain⟨w,hw,rfl⟩:=bf hi;have hlen:(aR (ws.take i)).length<aj:=am (aD (jH _) (by rw[az];omega));refine⟨_,rfl,_,rfl,d,_,rfl,.inl ⟨_,.inr w,aa,rfl,hlen,rfl⟩,_,rfl,?_⟩;rw[qA,take_snoc hw,c7]
 ·rintro σ H' ⟨x,rfl,rfl⟩;rw[ah,aT];exact⟨_,rfl,k d hd⟩
def DE(most:Nat):Nat->List Str->List Str->Option Nat
 |_,_,[]=>none
 |i,ahead,n::ns=>if i=most∨n∈ahead∨nW n=false then some i else DE most (i+1) (ahead++[n]) ns
def cu(names:Zb)(most:Nat)(taken:Zb):Option Nat:=if names=[]then some 0 else DE most 0 taken names
def oV:Option Nat->V
 |none=>.non
 |some i=>.int i
inductive sp_first_wrong_name(K:Za)(vs:List V)(H:Hp)(Q:VK)(E:XK):Prop
 |mk (l t:Addr) (names taken:Zb) (most:Nat):(vs=[.ref l,.int most,.ref t])->(ax K H l (names.map V.str))->(ax K H t (taken.map V.str))->(names.length+taken.length<=1000)->((∀w∈names,w.length<=1000))->(∀H',ab H H'->Q (oV (cu names most taken)) H')->sp_first_wrong_name K vs H Q E
theorem pi{K:Za}{H:Hp}{Q:VK}{E:XK}{l:Addr}{ws:Zb}(hl:ax K H l (ws.map V.str))(hz:ws.length<=1000)(k:∀d,H d=none->Q (.ref d) (upd H d (.dK (aR ws)))):sp_as_keys K [.ref l] H Q E:=by
 exact⟨l,ws,rfl,hl,hz,k⟩
theorem BN{H:Hp}{Q:VK}{E:XK}{w:Str}(hz:w.length<=1000)(k:∀H',ab H H'->Q (.bl (nW w)) H'):sp_is_name [.str w] H Q E:=by
 exact⟨w,rfl,hz,k⟩
theorem lQ{K:Za}{vs:List V}{H:Hp}{Q:VK}{E:XK}(h:sp_first_wrong_name K vs H Q E):mw K sp_is_name (sp_as_keys K) (bd Q) (start mT vs) H:=by
 obtain⟨l,t,names,taken,most,rfl,hl,ht,hz,hw,k⟩:=h;refine⟨_,rfl,.inl ⟨l,_,rfl,.inl hl,rfl,_,rfl,?_⟩⟩;by_cases h0:names=[]
 ·subst h0;refine cj ?_;have:=k H (ab.refl H);exact this
 have e0:decide (V.int ((names.map V.str).length:Nat)=V.int 0)=false:=zzr0 (fun z=>h0 (by
  injection z with z;rw[ah]at z;exact List.length_eq_zero_iff.mp (by omega)))
 rw[e0];refine bS ?_;have hk:∀H',ab H H'->Q (oV (DE most 0 taken names)) H':=by
  unfold cu at k;rw[if_neg h0]at k;exact k
 refine⟨_,rfl,pi ht (by omega) fun d hd=>?_⟩;refine⟨_,rfl,l,rfl,⟨_,(ab.new hd).seq hl⟩,?_⟩;refine kT (xs:=names.map V.str) (fun i σ H'=>∃x y,σ=[some (.ref l),some (.int most),some (.ref t),some (.ref d),x,y]/\ab H H'/\H' d=some (.dK (aR (taken++names.take i)))/\DE most i (taken++names.take i) (names.drop i)=DE most 0 taken names)
  ⟨_,_,rfl,ab.new hd,by rw[List.take_zero,dD];exact aa,by rw[List.take_zero,dD,qW]⟩ (fun i σ H' _ ⟨_,_,_,hS,_⟩=>hS.seq hl) ?_ ?_
 ·rintro i x σ H' q hi ⟨x4,x5,rfl,hS,hd',hf⟩ hq;obtain⟨w,hw',rfl⟩:=bf hi;have hil:i<names.length:=(bP.mp hw').1;have ed:names.drop i=w::names.drop (i+1):=by
   rw[List.drop_eq_getElem_cons hil];congr 1;exact(bP.mp hw').2
  rw[ed]at hf;have hd2:upd H' q (.tup [.int i,.str w]) d=some (.dK (aR (taken++names.take i))):=kp hd' hq;have hS2:ab H (upd H' q (.tup [.int i,.str w])):=hS.trans (ab.new hq);have hww:w.length<=1000:=hw w (bJ hw');refine⟨q,_,rfl,bA.of aa,rfl,_,_,rfl,_,_,rfl,rfl,?_⟩;generalize upd H' q (.tup [.int i,.str w])=H2 at hd2 hS2 ⊢;refine⟨_,rfl,_,rfl,rfl,_,rfl,?_⟩;by_cases c1:i=most
  ·have e1:decide (V.int (i:Nat)=V.int (most:Nat))=true:=zzr1 (by rw[c1]);rw[e1];refine cj (cj ?_);refine⟨_,rfl,?_⟩;have:=hk H2 hS2;rw[<-hf]at this;unfold DE at this;rw[if_pos (.inl c1)]at this;exact this
  have e1:decide (V.int (i:Nat)=V.int (most:Nat))=false:=zzr0 (fun z=>c1 (by injection z with z;omega));rw[e1];refine bS ?_;refine⟨_,rfl,_,rfl,d,_,rfl,.inl ⟨_,.inr w,.inl hd2,rfl,rfl⟩,_,rfl,?_⟩;rw[eg];by_cases c2:w∈taken++names.take i
  ·rw[zzr1 c2];refine cj (cj ?_);refine⟨_,rfl,?_⟩;have:=hk H2 hS2;rw[<-hf]at this;unfold DE at this;rw[if_pos (.inr (.inl c2))]at this;exact this
  rw[zzr0 c2];refine bS ?_;refine⟨_,rfl,BN hww fun H3 hS3=>⟨_,rfl,?_⟩⟩;have hd3:=hS3 _ _ hd2;cases c3:nW w with
  |false =>
   refine cj ?_;refine⟨_,rfl,?_⟩;have:=hk H3 (hS2.trans hS3);rw[<-hf]at this;unfold DE at this;rw[if_pos (.inr (.inr c3))]at this;exact this
  |true =>
   refine bS ?_;have hlen:(aR (taken++names.take i)).length<aj:=am (aD (jH _) (by rw[aZ,az];omega));refine⟨_,rfl,_,rfl,d,_,rfl,.inl ⟨_,.inr w,hd3,rfl,hlen,rfl⟩,_,_,rfl,?_,?_,?_⟩
   ·intro b o e;rw[ai (ae e hd)];exact hS3 _ _ (hS2 _ _ e)
   ·rw[aa,take_snoc hw',<-eG,c7]
   ·rw[<-hf,take_snoc hw',<-eG]
    conv=>rhs;unfold DE
    rw[if_neg];rintro(z|z|z)
    ·exact c1 z
    ·exact c2 z
    ·rw[c3]at z;cases z
 ·rintro σ H' ⟨x,y,rfl,hS,_,hf⟩;rw[ah,List.drop_length]at hf;have:=hk H' hS;rw[<-hf]at this;exact this
theorem xP{most:Nat}:∀(ns ahead:Zb) (i:Nat),i+ns.length<=most->(ahead++ns).Nodup->(∀w∈ns,pE w)->DE most i ahead ns=none
 |[],_,_,_,_,_=>rfl
 |n::ns,ahead,i,h1,h2,h3=>by
  rw[fb]at h1;unfold DE;rw[if_neg]
  ·refine xP ns (ahead++[n]) (i+1) (by omega) (by rw[eG];exact h2) fun w hw=>h3 w (fq _ hw)
  ·rintro(z|z|z)
   ·omega
   ·rw[cR]at h2;exact h2.2.2 n z n (fx) rfl
   ·rw[(h3 n fx).b]at z;cases z
theorem gW{most:Nat}{ns taken:Zb}(h0:ns≠[])(h1:ns.length<=most)(h2:(taken++ns).Nodup)(h3:∀w∈ns,pE w):cu ns most taken=none:=by
 unfold cu;rw[if_neg h0];exact xP ns taken 0 (by omega) h2 h3
theorem gb{n:Nat}(h:n<=9000):n<aj:=Nat.lt_of_le_of_lt h (by decide)
def nP(x:Str):TK:=.k (some (.inr x))
def eE(sg:Zb):TK:=.t (sg.map nP)
def AU(d:ak):TK:=.t [nP d.a,eE d.sg,nP d.b]
theorem qG{x y:Str}(h:nP x=nP y):x=y:=by
 unfold nP at h;injection h with h;injection h with h;injection h
theorem pW:∀{x y:Zb},x.map nP=y.map nP->x=y
 |[],[],_=>rfl
 |[],_::_,h=>by cases h
 |_::_,[],h=>by cases h
 |a::x,b::y,h=>by
  rw[bj,bj]at h;injection h with h1 h2;rw[qG h1,pW h2]
theorem eS{x y:Zb}(h:eE x=eE y):x=y:=by
 unfold eE at h;injection h with h;exact pW h
theorem Fj{x y:ak}(h:AU x=AU y):x=y:=by
 unfold AU at h;injection h with h;injection h with h1 h;injection h with h2 h;injection h with h3 h;cases x;cases y;simp only at *;rw[qG h1,eS h2,qG h3]
theorem yG(xs:Zb):TK.depths (xs.map nP)=0:=by
 induction xs with
 |nil=>rfl
 |cons x xs ih=>rw[bj];show max (TK.depth (nP x)) (TK.depths _)=0;rw[ih];rfl
theorem f_(sg:Zb):(eE sg).depth=1:=by
 show TK.depths (sg.map nP)+1=1;rw[yG]
theorem uq(d:ak):(AU d).depth=2:=by
 show max (TK.depth (nP d.a)) (max (TK.depth (eE d.sg)) (max (TK.depth (nP d.b)) 0))+1=2;rw[f_]
 rfl
theorem Ao{H:Hp}:∀xs:List Str,TKAts H (xs.map nP) (xs.map V.str)
 |[]=>by show TKAts H [] [];unfold TKAts;rfl
 |x::xs=>by
  rw[bj,bj];unfold TKAts;refine⟨_,_,rfl,?_,Ao xs⟩;unfold nP cC
  rfl
theorem vy{H:Hp}(x:Str):cC H (nP x) (.str x):=by unfold nP cC;rfl
theorem SignAt.tk{H:Hp}{s:Addr}{sg:Zb}(h:SignAt H s sg):cC H (eE sg) (.ref s):=by
 unfold eE cC;exact⟨s,_,rfl,h,Ao _⟩
theorem gk.tk{H:Hp}{t:Addr}{d:ak}(h:gk H t d):cC H (AU d) (.ref t):=by
 obtain⟨s,h1,h2⟩:=h;unfold AU cC;refine⟨t,_,rfl,h1,?_⟩;unfold TKAts;refine⟨_,_,rfl,vy _,?_⟩;unfold TKAts;refine⟨_,_,rfl,SignAt.tk h2,?_⟩;unfold TKAts;refine⟨_,_,rfl,vy _,?_⟩;unfold TKAts
 rfl
section
variable{κ:Type}[DecidableEq κ]
def j7(ks:List κ):List (κ×V):=ks.foldl (fun acc k=>cH acc k (.bl true)) []
theorem mM(ws:List κ)(w:κ):j7 (ws++[w])=cH (j7 ws) w (.bl true):=by
 unfold j7;rw[List.foldl_append]
 rfl
theorem BL(ws:List κ):(j7 ws).length<=ws.length:=by
 refine i_ (fun ws=>(j7 ws).length<=ws.length) (aA _) (fun ws w h=>?_) ws;show(j7 (ws++[w])).length<=(ws++[w]).length;rw[mM,aZ];have:=xz (j7 ws) w (.bl true);show _<=ws.length+1;omega
theorem Du(ws:List κ)(x:κ):(aU (j7 ws) x).isSome=decide (x∈ws):=by
 refine i_ (fun ws=>(aU (j7 ws) x).isSome=decide (x∈ws)) rfl (fun ws w h=>?_) ws;show(aU (j7 (ws++[w])) x).isSome=_;rw[mM,fB];by_cases e:x=w
 ·subst e;rw[if_pos rfl,zzr1 (by simp)]
  rfl
 ·rw[if_neg e,h];by_cases m:x∈ws
  ·rw[zzr1 m,zzr1 (dj _ m)]
  ·rw[zzr0 m,zzr0 (fun z=>by rcases bw.mp z with z|z;exact m z;exact e (by simpa using z))]
end
theorem AH{d:ak}{ds:List ak}:AU d∈ds.map AU↔d∈ds:=by
 constructor
 ·intro h;obtain⟨x,hx,e⟩:=aL.mp h;rw[<-Fj e];exact hx
 ·exact oA
def mQ(K:Za)(H:Hp)(v:V)(sg:Zb):Prop:=∃s,v=.ref s/\bA K H s (sg.map V.str)
theorem ab.sqT{K:Za}{H H':Hp}{a:Addr}{xs:List V}(e:ab H H')(h:bA K H a xs):bA K H' a xs:=by
 rcases h with(h|⟨o,h⟩)|h
 ·exact .inl (.inl (e _ _ h))
 ·exact .inl (.inr ⟨o,e _ _ h⟩)
 ·exact .inr h
theorem Signs.same{K:Za}{H H':Hp}(e:ab H H'){xs:List V}{sgs:List (List Str)}(h:Paired (mQ K H) xs sgs):Paired (mQ K H') xs sgs :=
 Paired.mapP h fun _ _ ⟨s,h1,h2⟩=>⟨s,h1,ab.sqT e h2⟩
def lT(sg:Zb):DT:=.t (sg.map gR)
theorem AN{x y:Zb}(h:lT x=lT y):x=y:=by
 unfold lT at h;injection h with h;exact gK h
theorem bW(sg:Zb):(lT sg).depth=1:=by
 show DT.depths (sg.map gR)+1=1;rw[dR]
theorem BR(sgs:List (List Str)):DT.depths (sgs.map lT)<=8:=by
 induction sgs with
 |nil=>exact eK _
 |cons x xs ih=>rw[bj];show max (DT.depth (lT x)) (DT.depths _)<=8;rw[bW];omega
theorem Signs.dIns{K:Za}{H:Hp}:∀{xs:List V}{sgs:List (List Str)},Paired (mQ K H) xs sgs->DIns K H (sgs.map lT) xs
 |_,_,.nil=>by show DIns K H [] [];unfold DIns;rfl
 |_,_,.cons ⟨s,e,r⟩ t=>by
  rw[bj];unfold DIns;refine⟨_,_,rfl,?_,Signs.dIns t⟩;rw[e];exact bt r
theorem AG{d:Zb}{ds:List (List Str)}:lT d∈ds.map lT↔d∈ds:=by
 constructor
 ·intro h;obtain⟨x,hx,e⟩:=aL.mp h;rw[<-AN e];exact hx
 ·exact oA
theorem Paired.app{α β:Type}{R:α->β->Prop}:∀{a:List α}{b:List β}{c:List α}{d:List β},Paired R a b->Paired R c d->Paired R (a++c) (b++d)
 |_,_,_,_,.nil,h=>h
 |_,_,_,_,.cons r t,h=>.cons r (Paired.app t h)
def bE(w:Str):List Str:=[("ask":Str),w]
def fH(w:Str):List Str:=[("say":Str),w]
def jo(J0 J1:Zb):List (List Str):=J0.map bE++J1.map fH++[av]
theorem rV{K:Za}{kw:Str}{σ:L2.St}{H:Hp}{a l:Addr}{ws:Zb}{Q:Hp->Prop}(ha:H a=some (.lst (ws.map V.str)))(hl:H l=none)(hz:ws.length<=1000)
  (k:∀(xs:List V) (H':Hp),Paired (mQ K H') xs (ws.map fun w=>[kw,w])->ab H H'->H' l=some (.lst xs)->Q H') :
  dU 1 [] σ (Ee K a) U0 gV (bo (aS (tC (.str kw)) V0)) H l Q:=by
 refine bh (xs:=ws.map V.str) (fun i vs H'=>Paired (mQ K H') vs ((ws.take i).map fun w=>[kw,w])/\ab H H'/\H' l=some (.lst vs))
  ⟨.nil,ab.new hl,aa⟩ (fun i vs H' _ ⟨_,hS,h'⟩=>⟨h',ax.of (hS _ _ ha)⟩) ?_ ?_
 ·rintro vs H' ⟨h1,h2,h3⟩;rw[ah,aT]at h1;exact k vs H' h1 h2 h3
 ·rintro i vs H' x hx hi ⟨h1,h2,h3⟩;obtain⟨w,hw,rfl⟩:=bf hx;refine gN (lK ?_);refine⟨_,rfl,(by show 2<=aj;decide),fun t ht=>⟨kp h3 ht,?_,ke hi ⟨?_,?_,aa⟩⟩⟩
  ·rw[Paired.length h1,ah,az];exact am (by omega)
  ·rw[take_snoc hw,aq];have hS2:iB (upd H' t (.tup [.str kw,.str w])) (upd (upd H' t (.tup [.str kw,.str w])) l (.lst (vs++[.ref t]))):=fP (kp h3 ht);have hS3:iB H' (upd (upd H' t (.tup [.str kw,.str w])) l (.lst (vs++[.ref t]))):=(ab.kt (ab.new ht)).trans hS2;refine Paired.app (Paired.mapP h1 fun v sg ⟨s,e1,e2⟩=>⟨s,e1,?_⟩) (.cons ⟨t,rfl,bA.of (hS2 _ _ aa)⟩ .nil);rcases e2 with(e2|⟨o,e2⟩)|e2
   ·exact .inl (.inl (hS3 _ _ e2))
   ·refine .inl (.inr ⟨o,?_⟩);rw[ai (fun z=>by rw[z,h3]at e2;cases e2)];exact kp e2 ht
   ·exact .inr e2
  ·intro b o e;rw[ai (ae e hl)];exact kp (h2 _ _ e) ht
inductive sp_door_signs(K:Za)(vs:List V)(H:Hp)(Q:VK)(E:XK):Prop
 |mk (l1 l2:Addr) (J0 J1:Zb):(vs=[.ref l1,.ref l2])->(H l1=some (.lst (J0.map V.str)))->(H l2=some (.lst (J1.map V.str)))->(J0.length<=100)->(J1.length<=100)->(∀(l:Addr) (xs:List V) (H':Hp),Paired (mQ K H') xs (jo J0 J1)->ab H H'->H' l=some (.lst xs)->Q (.ref l) H')->sp_door_signs K vs H Q E
theorem tX{K:Za}{st:Addr}(hst:∀H,bA K H st (av.map V.str)){vs:List V}{H:Hp}{Q:VK}{E:XK}(h:sp_door_signs K vs H Q E):vJ K st (bd Q) (start wN vs) H:=by
 obtain⟨l1,l2,J0,J1,rfl,h1,h2,z1,z2,k⟩:=h;refine⟨_,rfl,l1,rfl,⟨_,ax.of h1⟩,fun a ha=>?_⟩;refine rV h1 ha (by omega) fun xs1 H1 p1 s1 g1=>?_;refine⟨_,rfl,l2,rfl,⟨_,ax.of (s1 _ _ h2)⟩,fun b hb=>?_⟩;refine rV (s1 _ _ h2) hb (by omega) fun xs2 H2 p2 s2 g2=>?_;have len1:xs1.length<=100:=by rw[Paired.length p1,ah];exact z1
 have len2:xs2.length<=100:=by rw[Paired.length p2,ah];exact z2
 refine⟨a,b,xs1,xs2,rfl,rfl,s2 _ _ g1,g2,cZ (am (by omega)),fun c hc=>?_⟩;refine⟨(by show 1<=aj;decide),fun d hd=>?_⟩;refine⟨c,d,_,_,rfl,rfl,kp aa hd,aa,?_,fun e he=>k e _ _ ?_ ?_ aa⟩
 ·rw[aZ];show _+1<=aj;exact cZ (am (by omega))
 ·have sx:ab H2 (upd (upd (upd H2 c (.lst (xs1++xs2))) d (.lst [.ref st])) e (.lst (xs1++xs2++[.ref st]))):=((ab.new hc).trans (ab.new hd)).trans (ab.new he);exact Paired.app (Paired.app (Signs.same (s2.trans sx) p1) (Signs.same sx p2)) (.cons ⟨st,rfl,hst _⟩ .nil)
 ·exact(((s1.trans s2).trans (ab.new hc)).trans (ab.new hd)).trans (ab.new he)
def Ff(rooms:Zb)(sgs:List (List Str)):Nat->List ak->List ak->Option Nat
 |_,_,[]=>none
 |i,ahead,d::ds=>if i=2000∨d∈ahead∨d.a∉rooms∨d.sg∉sgs∨d.b∉rooms then some i else Ff rooms sgs (i+1) (ahead++[d]) ds
inductive sp_first_wrong_door(K:Za)(vs:List V)(H:Hp)(Q:VK)(E:XK):Prop
 |mk (l l3 sl:Addr) (ts:Ze) (ds:List ak) (rooms:Zb) (xs:List V) (sgs:List (List Str)):(vs=[.ref l,.ref l3,.ref sl])->(H l=some (.lst (ts.map V.ref)))->(cn H ts ds)->(H l3=some (.lst (rooms.map V.str)))->(rooms.length<=1000)->(H sl=some (.lst xs))->(Paired (mQ K H) xs sgs)->(ds.length<=9000)->(∀H',ab H H'->Q (oV (Ff rooms sgs 0 [] ds)) H')->sp_first_wrong_door K vs H Q E
theorem bQ{ws:Ze}{i:Nat}{x:V}(h:(ws.map V.ref)[i]?=some x):∃w,ws[i]?=some w/\x=.ref w:=by
 rw[cS]at h;cases q:ws[i]? with
 |none=>rw[q]at h;cases h
 |some r=>rw[q]at h;exact⟨r,rfl,(eD h).symm⟩
theorem lR{K:Za}{vs:List V}{H:Hp}{Q:VK}{E:XK}(h:sp_first_wrong_door K vs H Q E):my K (sp_as_keys K) (bd Q) (start mU vs) H:=by
 obtain⟨l,l3,sl,ts,ds,rooms,xs,sgs,rfl,hl,hds,h3,hr,hsl,hsg,hz,k⟩:=h;refine⟨_,rfl,pi (ax.of h3) hr fun d hd=>?_⟩;refine fun e he=>?_;have hS0:ab H (upd (upd H d (.dK (aR rooms))) e (.dT [])):=(ab.new hd).trans (ab.new he);have heH:H e=none:=(ab.new hd).free he;refine⟨_,rfl,l,rfl,⟨_,ax.of (hS0 _ _ hl)⟩,?_⟩;refine kT (xs:=ts.map V.ref) (fun i σ H'=>∃x y,σ=[some (.ref l),some (.ref l3),some (.ref sl),some (.ref d),some (.ref e),x,y]/\ab H H'/\H' d=some (.dK (aR rooms))/\H' e=some (.dT (j7 ((ds.take i).map AU)))/\Ff rooms sgs i (ds.take i) (ds.drop i)=Ff rooms sgs 0 [] ds)
  ⟨_,_,rfl,hS0,kp aa he,aa,rfl⟩ (fun i σ H' _ ⟨_,_,_,hS,_⟩=>ax.of (hS _ _ hl)) ?_ ?_
 ·rintro i x σ H' q hi ⟨x5,x6,rfl,hS,hd',he',hf⟩ hq;obtain⟨t,ht,rfl⟩:=bQ hi;obtain⟨dr,hdr,hat⟩:=Paired.getL hds ht;have hil:i<ds.length:=(bP.mp hdr).1;have ed:ds.drop i=dr::ds.drop (i+1):=by
   rw[List.drop_eq_getElem_cons hil];congr 1;exact(bP.mp hdr).2
  rw[ed]at hf;have hS2:ab H (upd H' q (.tup [.int i,.ref t])):=hS.trans (ab.new hq);have hd2:upd H' q (.tup [.int i,.ref t]) d=_:=kp hd' hq;have he2:upd H' q (.tup [.int i,.ref t]) e=_:=kp he' hq;refine⟨q,_,rfl,bA.of aa,rfl,_,_,rfl,_,_,rfl,rfl,?_⟩;generalize upd H' q (.tup [.int i,.ref t])=H2 at hd2 he2 hS2 ⊢;have hat2:=hat.kt (ab.kt hS2);have hin:lU K H2 (AU dr) (.ref t):=cC.isIn 8 (by rw[uq];decide) hat2.tk;have hd8:(AU dr).depth<=8:=by rw[uq];decide
  obtain⟨s,ht2,hs2⟩:=hat2;have bad:(i=2000∨dr∈ds.take i∨dr.a∉rooms∨dr.sg∉sgs∨dr.b∉rooms)->Q (.int i) H2:=by
   intro c;have:=k H2 hS2;rw[<-hf]at this;unfold Ff at this;rw[if_pos c]at this;exact this
  refine⟨_,rfl,rfl,_,rfl,?_⟩;by_cases c1:i=2000
  ·have e1:decide (V.int (i:Nat)=V.int 2000)=true:=zzr1 (by rw[c1];rfl);rw[e1];exact cj (cj ⟨_,rfl,bad (.inl c1)⟩)
  have e1:decide (V.int (i:Nat)=V.int 2000)=false:=zzr0 (fun z=>c1 (by injection z with z;omega));rw[e1];refine bS ?_;refine⟨_,rfl,_,rfl,e,_,rfl,.inr ⟨_,AU dr,t,.inl he2,rfl,hin,hd8,rfl⟩,_,rfl,?_⟩;rw[Du];by_cases c2:dr∈ds.take i
  ·rw[zzr1 (AH.mpr c2)];exact cj ⟨_,rfl,bad (.inr (.inl c2))⟩
  rw[zzr0 (fun z=>c2 (AH.mp z))];refine bS ?_;refine⟨_,rfl,.inr (.inl ⟨t,_,0,_,rfl,rfl,bA.of ht2,rfl,_,rfl,d,_,rfl,.inl ⟨_,.inr dr.a,.inl hd2,rfl,rfl⟩,_,rfl,?_⟩)⟩;rw[eg];by_cases c3:dr.a∈rooms;rotate_left
  ·rw[zzr0 c3];exact cj (cj ⟨_,rfl,bad (.inr (.inr (.inl c3)))⟩)
  rw[zzr1 c3];refine bS ?_;refine⟨_,rfl,.inr (.inl ⟨t,_,1,_,rfl,rfl,bA.of ht2,rfl,_,rfl,lT dr.sg,sgs.map lT,sl,xs,bt (bA.of hs2),rfl,.inl (ax.of (hS2 _ _ hsl)),Signs.dIns (Signs.same hS2 hsg),by rw[bW];decide,BR _,_,rfl,?_⟩)⟩;rw[if_pos rfl];by_cases c4:dr.sg∈sgs;rotate_left
  ·rw[zzr0 (fun z=>c4 (AG.mp z))];exact cj (cj ⟨_,rfl,bad (.inr (.inr (.inr (.inl c4))))⟩)
  rw[zzr1 (AG.mpr c4)];refine bS ?_;refine⟨_,rfl,.inr (.inl ⟨t,_,2,_,rfl,rfl,bA.of ht2,rfl,_,rfl,d,_,rfl,.inl ⟨_,.inr dr.b,.inl hd2,rfl,rfl⟩,_,rfl,?_⟩)⟩;rw[eg];by_cases c5:dr.b∈rooms;rotate_left
  ·rw[zzr0 c5];exact cj ⟨_,rfl,bad (.inr (.inr (.inr (.inr c5))))⟩
  rw[zzr1 c5];refine bS ?_;have hlen:(j7 ((ds.take i).map AU)).length<aj:=gb (aD (BL _) (by rw[ah,az];omega));refine⟨_,rfl,_,rfl,e,_,rfl,.inr ⟨_,AU dr,t,he2,rfl,gk.tk ⟨s,ht2,hs2⟩,hd8,hlen,rfl⟩,_,_,rfl,?_,?_,?_,?_⟩
  ·intro b o q;rw[ai (ae q heH)];exact hS2 _ _ q
  ·rw[ai (fun z=>by rw[z,he2]at hd2;cases hd2)];exact hd2
  ·rw[aa,take_snoc hdr,aq];exact congrArg (fun z=>some (HO.dT z)) (mM _ _).symm
  ·rw[<-hf,take_snoc hdr]
   conv=>rhs;unfold Ff
   rw[if_neg];rintro(z|z|z|z|z)
   ·exact c1 z
   ·exact c2 z
   ·exact z c3
   ·exact z c4
   ·exact z c5
 ·rintro σ H' ⟨x,y,rfl,hS,_,_,hf⟩;have:=k H' hS;rw[<-hf,ah,Paired.length hds,List.drop_length]at this;exact this
theorem xQ{rooms:Zb}{sgs:List (List Str)}:∀(ds ahead:List ak) (i:Nat),i+ds.length<=2000->(ahead++ds).Nodup->(∀d∈ds,d.a∈rooms/\d.sg∈sgs/\d.b∈rooms)->Ff rooms sgs i ahead ds=none
 |[],_,_,_,_,_=>rfl
 |n::ns,ahead,i,h1,h2,h3=>by
  rw[fb]at h1;unfold Ff;rw[if_neg]
  ·refine xQ ns (ahead++[n]) (i+1) (by omega) (by rw[eG];exact h2) fun w hw=>h3 w (fq _ hw)
  ·have:=h3 n fx;rintro(z|z|z|z|z)
   ·omega
   ·rw[cR]at h2;exact h2.2.2 n z n (fx) rfl
   ·exact z this.1
   ·exact z this.2.1
   ·exact z this.2.2
inductive sp_need_none (vs:List V)(H:Hp)(Q:VK)(E:XK):Prop
 |mk (x:V):(vs=[x,.non])->(Q .non H)->sp_need_none  vs H Q E
theorem vZ{K:Za}{vs:List V}{H:Hp}{Q:VK}{E:XK}(h:sp_need_none vs H Q E):wY K (bd Q) (start yj vs) H:=by
 obtain⟨x,rfl,k⟩:=h;refine⟨_,rfl,_,rfl,?_⟩;have e:(!decide (V.non=V.non))=false:=by rw[zzr1 rfl];rfl
 rw[e];exact bS k
structure Lists(H:Hp)(l1 l2 l3 l4:Addr)(ts:Ze)(J0 J1 rooms:Zb)(ds:List ak):Prop where
 a1:H l1=some (.lst (J0.map V.str))
 a2:H l2=some (.lst (J1.map V.str))
 a3:H l3=some (.lst (rooms.map V.str))
 a4:H l4=some (.lst (ts.map V.ref))
 ds:cn H ts ds
theorem Lists.same{H H':Hp}{l1 l2 l3 l4:Addr}{ts:Ze}{J0 J1 rooms:Zb}{ds:List ak}(h:Lists H l1 l2 l3 l4 ts J0 J1 rooms ds)(e:ab H H'):Lists H' l1 l2 l3 l4 ts J0 J1 rooms ds :=
 ⟨e _ _ h.a1,e _ _ h.a2,e _ _ h.a3,e _ _ h.a4,h.ds.kt (ab.kt e)⟩
inductive sp_need_parts (vs:List V)(H:Hp)(Q:VK)(E:XK):Prop
 |mk (l1 l2 l3 l4:Addr) (ts:Ze) (J0 J1 rooms:Zb) (ds:List ak):(vs=[.ref l1,.ref l2,.ref l3,.ref l4])->(Lists H l1 l2 l3 l4 ts J0 J1 rooms ds)->(aG J0 J1 rooms ds)->(∀H',ab H H'->Q .non H')->sp_need_parts  vs H Q E
theorem aG.signs{J0 J1 rooms:Zb}{ds:List ak}(m:aG J0 J1 rooms ds):∀d∈ds,d.a∈rooms/\d.sg∈jo J0 J1/\d.b∈rooms:=by
 intro d hd;have g:=m.good d hd;refine⟨g.a,?_,g.b⟩;unfold jo;rcases g.sg with⟨w,hw,e⟩|⟨w,hw,e⟩|e
 ·rw[e];exact dj _ (dj _ (aL.mpr ⟨w,hw,rfl⟩))
 ·rw[e];exact dj _ (dJ _ (aL.mpr ⟨w,hw,rfl⟩))
 ·rw[e];exact dJ _ (by simp[av])
theorem o9{ws:Zb}(h:jN ws):∀w∈ws,w.length<=1000:=fun w hw=>aD (h.2 w hw).hi (by decide)
theorem tT{K:Za}{vs:List V}{H:Hp}{Q:VK}{E:XK}(h:sp_need_parts vs H Q E):vB K sp_need_none (sp_first_wrong_door K) (sp_door_signs K) (sp_first_wrong_name K) (bd Q) (start wF vs) H:=by
 obtain⟨l1,l2,l3,l4,ts,J0,J1,rooms,ds,rfl,L,m,k⟩:=h;have w1:cu J0 4 []=none:=gW m.asks0 m.asks4 m.okA.1 m.okA.2;have w2:cu J1 4 J0=none:=gW m.says0 m.says4 (by
  rw[cR];exact⟨m.okA.1,m.okS.1,fun a ha b hb e=>m.apart b hb (e▸ha)⟩) m.okS.2
 have w3:cu rooms 150 []=none:=gW m.rooms0 (by have:=m.rooms26;omega) m.okR.1 m.okR.2;have w4:Ff rooms (jo J0 J1) 0 [] ds=none:=xQ ds [] 0 (by have:=m.few;omega) m.nodup m.signs;have z1:=m.asks4;have z2:=m.says4;have z3:=m.rooms26;have z4:=m.few;refine⟨_,rfl,(by show 0<=aj;decide),fun e he=>⟨l1,e,J0,[],4,rfl,ax.of (kp L.a1 he),ax.of aa,by simp;omega,o9 m.okA,fun H1 s1=>?_⟩⟩;rw[w1];refine⟨_,rfl,?_⟩;have S1:=(ab.new he).trans s1;refine⟨_,rfl,_,rfl,l2,l1,J1,J0,4,rfl,ax.of (S1 _ _ L.a2),ax.of (S1 _ _ L.a1),by omega,o9 m.okS,fun H2 s2=>?_⟩;rw[w2];refine⟨_,rfl,?_⟩;have S2:=S1.trans s2;refine⟨_,rfl,(by show 0<=aj;decide),fun e he=>⟨l3,e,rooms,[],150,rfl,ax.of (kp (S2 _ _ L.a3) he),ax.of aa,by simp;omega,o9 m.okR,fun H3 s3=>?_⟩⟩;rw[w3];refine⟨_,rfl,?_⟩;have S3:=(S2.trans (ab.new he)).trans s3;refine⟨_,rfl,_,rfl,_,rfl,_,rfl,l1,l2,J0,J1,rfl,S3 _ _ L.a1,S3 _ _ L.a2,by omega,by omega,fun sl xs H4 hx s4 hsl=>?_⟩;have S4:=S3.trans s4;have L4:=L.same S4;refine⟨l4,l3,sl,ts,ds,rooms,xs,jo J0 J1,rfl,L4.a4,L4.ds,L4.a3,by omega,hsl,hx,by omega,fun H5 s5=>?_⟩;rw[w4];exact⟨_,rfl,k H5 (S4.trans s5)⟩
section
variable{κ ι:Type}[DecidableEq κ]{e:ι->κ}
def de(e:ι->κ)(ps:List (ι×Addr)):List (κ×V):=ps.map fun x=>(e x.1,V.ref x.2)
theorem lz(inj:∀x y,e x=e y->x=y){i:ι}:∀{ps:List (ι×Addr)},i∉ps.map (·.1)->aU (de e ps) (e i)=none
 |[],_=>rfl
 |x::ps,h=>by
  rw[bj,cA]at h;show aU ((e x.1,V.ref x.2)::de e ps) (e i)=none;rw[cG (fun z=>h (.inl (inj _ _ z).symm))];exact lz inj (fun z=>h (.inr z))
theorem ef(inj:∀x y,e x=e y->x=y){i:ι}{a:Addr}:∀{ps:List (ι×Addr)},(ps.map (·.1)).Nodup->(i,a)∈ps->aU (de e ps) (e i)=some (.ref a)
 |[],_,h=>by cases h
 |x::ps,nd,h=>by
  rw[bj,kD]at nd;show aU ((e x.1,V.ref x.2)::de e ps) (e i)=_;rcases cA.mp h with h|h
  ·rw[<-h];exact cT rfl
  ·rw[cG (fun z=>nd.1 (by rw[inj _ _ z];exact aL.mpr ⟨_,h,rfl⟩))];exact ef inj nd.2 h
theorem uA(ps:List (ι×Addr))(i:ι)(a:Addr):de e (ps++[(i,a)])=de e ps++[(e i,.ref a)]:=by
 unfold de;rw[aq]
 rfl
end
structure DL{ι:Type}(H0 H:Hp)(d:Addr)(ps:List (ι×Addr)):Prop where
 nd:(ps.map (·.1)).Nodup
 na:(ps.map (·.2)).Nodup
 fr:∀x∈ps,H0 x.2=none
 frd:H0 d=none
 ned:∀x∈ps,x.2≠d
 same:ab H0 H
theorem DL.snoc{ι:Type}{H0 H H':Hp}{d:Addr}{ps:List (ι×Addr)}{i:ι}{a:Addr}(h:DL H0 H d ps)(hi:i∉ps.map (·.1))(ha:∀x∈ps,x.2≠a)(fr:H0 a=none)(nd:a≠d)(s:ab H0 H'):DL H0 H' d (ps++[(i,a)]):=by
 refine⟨?_,?_,?_,h.frd,?_,s⟩
 ·rw[aq,cR];refine⟨h.nd,by simp,fun x hx y hy e=>?_⟩;have:y=i:=by simpa using hy
  exact hi (by rw[<-this,<-e];exact hx)
 ·rw[aq,cR];refine⟨h.na,by simp,fun x hx y hy e=>?_⟩;have:y=a:=by simpa using hy
  obtain⟨z,hz,rfl⟩:=aL.mp hx;exact ha z hz (e.trans this)
 ·intro x hx;rcases bw.mp hx with hx|hx
  ·exact h.fr x hx
  ·have:x=(i,a):=by simpa using hx
   rw[this];exact fr
 ·intro x hx;rcases bw.mp hx with hx|hx
  ·exact h.ned x hx
  ·have:x=(i,a):=by simpa using hx
   rw[this];exact nd
theorem Dp{ι:Type}:∀{ps:List (ι×Addr)},(ps.map (·.2)).Nodup->∀{x y:ι×Addr},x∈ps->y∈ps->x.2=y.2->x=y
 |[],_,x,_,h,_,_=>by cases h
 |p::ps,nd,x,y,hx,hy,e=>by
  rw[bj,kD]at nd;rcases cA.mp hx with hx'|hx'<;>rcases cA.mp hy with hy'|hy'
  ·rw[hx',hy']
  ·exact absurd (aL.mpr ⟨y,hy',by rw[<-e,hx']⟩) nd.1
  ·exact absurd (aL.mpr ⟨x,hx',by rw[e,hy']⟩) nd.1
  ·exact Dp nd.2 hx' hy' e
theorem iL:∀x y:Str,(Sum.inr x:em)=Sum.inr y->x=y:=fun x y h=>by injection h
def b0(ds:List ak)(r:Str):List ak:=ds.filter fun d=>decide (d.a=r)
inductive sp_doors_by_start (vs:List V)(H:Hp)(Q:VK)(E:XK):Prop
 |mk (l3 l4:Addr) (ts:Ze) (rooms:Zb) (ds:List ak):(vs=[.ref l3,.ref l4])->(H l3=some (.lst (rooms.map V.str)))->(H l4=some (.lst (ts.map V.ref)))->(cn H ts ds)->(rooms.Nodup)->(rooms.length<=1000)->(ds.length<=9000)->((∀d∈ds,d.a∈rooms))->(∀(d:Addr) (ps:List (Str×Addr)) (H':Hp),ps.map (·.1)=rooms->H' d=some (.dK (de Sum.inr ps))->(∀x∈ps,∃us,H' x.2=some (.lst (us.map V.ref))/\cn H' us (b0 ds x.1))->ab H H'->Q (.ref d) H')->sp_doors_by_start  vs H Q E
def kQ(d:ak):Bool:=match d.sg with
 |s::_=>decide (s=("ask":Str))
 |[]=>false
inductive sp_has_asks_alone (vs:List V)(H:Hp)(Q:VK)(E:XK):Prop
 |mk (a:Addr) (us:Ze) (ds:List ak):(vs=[.ref a])->(H a=some (.lst (us.map V.ref)))->(cn H us ds)->(ds.length<=9000)->((∀d∈ds,d.sg≠[]))->(∀H',ab H H'->Q (.bl (ds.all kQ)) H')->sp_has_asks_alone  vs H Q E
theorem nR{K:Za}{vs:List V}{H:Hp}{Q:VK}{E:XK}(h:sp_has_asks_alone vs H Q E):oS K (bd Q) (start pA vs) H:=by
 obtain⟨a,us,ds,rfl,ha,hds,hz,hne,k⟩:=h;refine⟨_,rfl,a,rfl,⟨_,ax.of ha⟩,fun l hl=>?_⟩;refine bh (xs:=us.map V.ref) (fun i vs H'=>vs=(ds.take i).map (fun d=>V.bl (kQ d))/\ab H H'/\H' l=some (.lst vs))
  ⟨rfl,ab.new hl,aa⟩ (fun i vs H' _ ⟨_,hS,h'⟩=>⟨h',ax.of (hS _ _ ha)⟩) ?_ ?_
 ·rintro vs H' ⟨rfl,hS,h'⟩;rw[ah,Paired.length hds,aT]at h';refine⟨l,ds.map kQ,rfl,ax.of (by rw[h',iR];rfl),?_⟩;rw[List.all_map];exact k H' hS
 ·rintro i vs H' x hx hi ⟨rfl,hS,h'⟩;obtain⟨t,ht,rfl⟩:=bQ hx;obtain⟨dr,hdr,hat⟩:=Paired.getL hds ht;obtain⟨s,ht2,hs2⟩:=hat.kt (ab.kt hS);have hmem:=bJ hdr;obtain⟨s0,rest,hsg⟩:∃s0 rest,dr.sg=s0::rest:=by
   cases q:dr.sg with
   |nil=>exact absurd q (hne dr hmem)
   |cons x y=>exact⟨x,y,rfl⟩
  unfold SignAt at hs2;rw[hsg]at hs2;refine gN (lK ?_);refine⟨_,rfl,.inr (.inl ⟨t,_,1,_,rfl,rfl,bA.of ht2,rfl,.inr (.inl ⟨s,_,0,.str s0,rfl,rfl,bA.of hs2,cy (j:=0) rfl,rfl,h',?_,ke hi ⟨?_,?_,aa⟩⟩)⟩)⟩
  ·rw[ah,az];exact gb (by omega)
  ·rw[take_snoc hdr,aq];congr 1;show[V.bl _]=[V.bl _];congr 2;unfold kQ;rw[hsg];show decide (V.str s0=V.str _)=decide (s0=_);by_cases c:s0=("ask":Str)
   ·rw[zzr1 c,zzr1 (by rw[c])]
   ·rw[zzr0 c,zzr0 (fun z=>c (by injection z))]
  ·intro b o e;rw[ai (ae e hl)];exact hS _ _ e
def tm(x:Str×List Str):TK:=.t [nP x.1,eE x.2]
theorem hC:∀x y:Str×List Str,tm x=tm y->x=y:=by
 intro x y h;unfold tm at h;injection h with h;injection h with h1 h;injection h with h2 h;cases x;cases y;simp only at *;rw[qG h1,eS h2]
theorem lp(x:Str×List Str):(tm x).depth<=8:=by
 show max (TK.depth (nP x.1)) (max (TK.depth (eE x.2)) 0)+1<=8;rw[f_];show max 0 (max 1 0)+1<=8
 decide
def be(ds:List ak)(x:Str×List Str):List Str:=(ds.filter fun d=>decide (d.a=x.1/\d.sg=x.2)).map (·.b)
theorem wq(ds:List ak)(d:ak)(x:Str×List Str):be (ds++[d]) x=be ds x++(if(d.a,d.sg)=x then[d.b]else[]):=by
 unfold be;rw[gS,aq];congr 1;by_cases c:(d.a,d.sg)=x
 ·subst c;simp
 ·rw[if_neg c];have:¬(d.a=x.1/\d.sg=x.2):=fun z=>c (by cases x;simp only at z;rw[z.1,z.2]);simp[List.filter_cons];intro h1 h2;exact this ⟨h1,h2⟩
theorem kR{ds:List ak}{x:Str×List Str}(h:∀d∈ds,(d.a,d.sg)≠x):be ds x=[]:=by
 unfold be;rw[List.map_eq_nil_iff,List.filter_eq_nil_iff];intro d hd;have:¬(d.a=x.1/\d.sg=x.2):=fun z=>h d hd (by cases x;simp only at z;rw[z.1,z.2]);simp;intro h1 h2;exact this ⟨h1,h2⟩
theorem dP{ds:List ak}{x:Str×List Str}{b:Str}:b∈be ds x↔(⟨x.1,x.2,b⟩:ak)∈ds:=by
 unfold be;rw[aL];constructor
 ·rintro⟨d,hd,rfl⟩;rw[fg]at hd;obtain⟨h1,h2⟩:=hd;obtain⟨h3,h4⟩:=of_decide_eq_true h2;cases d;simp only at h3 h4;rw[<-h3,<-h4];exact h1
 ·intro h;exact⟨_,fg.mpr ⟨h,zzr1 ⟨rfl,rfl⟩⟩,rfl⟩
structure jP(H:Hp)(g:Addr)(ps:List ((Str×List Str)×Addr))(ds:List ak):Prop where
 nd:(ps.map (·.1)).Nodup
 g:H g=some (.dT (de tm ps))
 ls:∀x∈ps,H x.2=some (.lst ((be ds x.1).map V.str))
 all:∀d∈ds,(d.a,d.sg)∈ps.map (·.1)
theorem jP.same{H H':Hp}{g:Addr}{ps:List ((Str×List Str)×Addr)}{ds:List ak}(h:jP H g ps ds)(s:ab H H'):jP H' g ps ds:=⟨h.nd,s _ _ h.g,fun x hx=>s _ _ (h.ls x hx),h.all⟩
theorem kP:∀{L R:Zb},L.Nodup->(∀y∈L,y∈R)->L.length<=R.length
 |[],_,_,_=>eK _
 |x::L,R,nd,h=>by
  rw[kD]at nd;have hx:=h x fx;have:=kP (L:=L) (R:=R.erase x) nd.2 fun y hy=>(List.mem_erase_of_ne (fun e:y=x=>nd.1 (by rw[<-e];exact hy))).mpr (h y (fq _ hy));rw[List.length_erase_of_mem hx]at this;have:0<R.length:=List.length_pos_of_mem hx;rw[fb];omega
theorem Reach.in_{ds:List ak}{a b:Str}{rooms:Zb}(hr:∀d∈ds,d.b∈rooms)(h:Reach ds a b):b∈rooms:=by
 cases h with
 |one h=>exact hr _ h
 |step r h=>exact hr _ h
inductive vX (vs:List V)(H:Hp)(Q:VK)(E:XK):Prop
 |mk (g:Addr) (room:Str) (ps:List ((Str×List Str)×Addr)) (ds:List ak) (rooms:Zb):(vs=[.ref g,.str room])->(jP H g ps ds)->((∀d∈ds,d.b∈rooms))->(rooms.length<=1000)->(∀(d:Addr) (L:Zb) (H':Hp),H' d=some (.dK (aR L))->L.Nodup->(∀w,w∈L↔Reach ds room w)->H d=none->ab H H'->Q (.ref d) H')->vX  vs H Q E
structure GA(H0 H:Hp)(ds:List ak)(room:Str)(d w:Addr)(L W:Zb)(open_:Str->Prop):Prop where
 d:H d=some (.dK (aR L))
 w:H w=some (.lst (W.map V.str))
 same:ab H0 H
 nd:L.Nodup
 sound:∀y∈L,Reach ds room y
 wait:∀y∈W,y=room∨y∈L
 closed:∀y,(y=room∨y∈L)->y∉W->¬open_ y->∀c∈be ds (y,av),c∈L
theorem qo{K:Za}{st:Addr}(hst:∀H,bA K H st (av.map V.str)){vs:List V}{H:Hp}{Q:VK}{E:XK}(h:vX vs H Q E):rA K st (bd Q) (start sV vs) H:=by
 obtain⟨g,room,ps,ds,rooms,rfl,G,hin,hz,k⟩:=h;refine fun d hd=>?_;refine⟨_,rfl,(by show 1<=aj;decide),fun w hw=>?_⟩;have hwH:H w=none:=(ab.new hd).free hw;have hdw:d≠w:=ae aa hw;refine⟨fun m σ H'=>∃(L W:Zb) (x y:Option V),σ=[some (.ref g),some (.str room),some (.ref d),some (.ref w),x,y]/\GA H H' ds room d w L W (fun _=>False)/\m=2 * (rooms.length-L.length)+W.length/\m<=2 * rooms.length+1,
  ⟨_,[],[room],_,_,rfl,⟨kp aa hw,aa,(ab.new hd).trans (ab.new hw),rf,by simp,by simp,?_⟩,rfl,aA _⟩,?_⟩
 ·intro y hy hn;rcases hy with rfl|hy
  ·simp at hn
  ·cases hy
 rintro m σ H1 ⟨L,W,x4,x5,rfl,D,rfl,hbound⟩;have lenL:∀{L':Zb},L'.Nodup->(∀y∈L',Reach ds room y)->L'.length<=rooms.length:=fun nd sd=>kP nd fun y hy=>(sd y hy).in_ hin;refine⟨_,rfl,.inl ⟨w,_,rfl,.inl (ax.of D.w),_,_,rfl,rfl,_,rfl,?_⟩⟩;refine hU (fun hpos=>?_) (fun hpos=>?_)
 ·have hne:W≠[]:=by
   intro z;rw[z]at hpos;exact absurd (of_decide_eq_true hpos) (by decide)
  obtain⟨W',here,rfl⟩:∃W' here,W=W'++[here]:=⟨W.dropLast,W.getLast hne,(List.dropLast_concat_getLast hne).symm⟩;have hhere:here=room∨here∈L:=D.wait here (by simp);refine⟨fun σ' H'=>∃(L' W2:Zb) (x y:Option V),σ'=[some (.ref g),some (.str room),some (.ref d),some (.ref w),x,y]/\GA H H' ds room d w L' W2 (fun _=>False)/\2 * (rooms.length-L'.length)+W2.length<2 * (rooms.length-L.length)+(W'++[here]).length,
   fun σ' H' ⟨L',W2,x,y,e,D',hm⟩=>⟨_,hm,L',W2,x,y,e,D',rfl,by omega⟩,?_⟩
  have hlast:((W'++[here]).map V.str)[((W'++[here]).map V.str).length-1]?=some (.str here):=by simp
  have hdrop:((W'++[here]).map V.str).dropLast=W'.map V.str:=by rw[aq];simp
  refine⟨_,rfl,.inl ⟨rfl,_,ax.of D.w⟩,w,_,_,rfl,rfl,D.w,hlast,?_⟩;rw[hdrop];have hd1:upd H1 w (.lst (W'.map V.str)) d=some (.dK (aR L)):=by rw[ai hdw];exact D.d
  have hw1:upd H1 w (.lst (W'.map V.str)) w=some (.lst (W'.map V.str)):=aa;have S1:ab H (upd H1 w (.lst (W'.map V.str))):=fun b o q=>by rw[ai (ae q hwH)];exact D.same _ _ q
  generalize upd H1 w (.lst (W'.map V.str))=H2 at hd1 hw1 S1 ⊢;have G2:=G.same S1;refine⟨_,rfl,g,rfl,.inr ⟨_,.inl G2.g⟩,_,rfl,(by show 2<=aj;decide),fun kt hkt=>⟨(by show 0<=aj;decide),fun et het=>⟨aU (de tm ps) (tm (here,av)),.inr ⟨_,tm (here,av),kt,.inl ?_,rfl,?_,lp _,rfl⟩,?_⟩⟩⟩
  ·exact kp (kp G2.g hkt) het
  ·unfold tm lU;refine⟨kt,_,rfl,bA.of (kp aa het),?_⟩;unfold TKIns;refine⟨_,_,rfl,?_,?_⟩
   ·unfold nP lU;rfl
   unfold TKIns;refine⟨_,_,rfl,?_,?_⟩
   ·unfold eE lU;refine⟨st,_,rfl,hst _,?_⟩;unfold av;show TKIns K _ [nP _] [V.str _];unfold TKIns;refine⟨_,_,rfl,?_,?_⟩
    ·unfold nP lU;rfl
    unfold TKIns;rfl
   unfold TKIns;rfl
  have S3:ab H2 (upd (upd H2 kt (.tup [.str here,.ref st])) et (.tup [])):=(ab.new hkt).trans (ab.new het);have het3:upd (upd H2 kt (.tup [.str here,.ref st])) et (.tup []) et=some (.tup []):=aa;generalize upd (upd H2 kt (.tup [.str here,.ref st])) et (.tup [])=H3 at S3 het3 ⊢;have D3:GA H H3 ds room d w L W' (fun y=>y=here):=⟨S3 _ _ hd1,S3 _ _ hw1,S1.trans S3,D.nd,D.sound,fun y hy=>D.wait y (dj _ hy),fun y hy hn ho=>D.closed y hy (fun z=>by rcases bw.mp z with z|z;exact hn z;exact ho (by simpa using z)) (fun z=>z)⟩;have hm3:2 * (rooms.length-L.length)+W'.length<2 * (rooms.length-L.length)+(W'++[here]).length:=by rw[aZ];show _<_+(_+1);omega
  have fin:∀(H4:Hp) (L' W2:Zb) (x y:Option V),GA H H4 ds room d w L' W2 (fun y=>y=here)->(∀c∈be ds (here,av),c∈L')->2 * (rooms.length-L'.length)+W2.length<2 * (rooms.length-L.length)+(W'++[here]).length ->
    ∃(L' W2:Zb) (x' y':Option V),[some (V.ref g),some (.str room),some (.ref d),some (.ref w),x,y]=[some (.ref g),some (.str room),some (.ref d),some (.ref w),x',y']/\GA H H4 ds room d w L' W2 (fun _=>False)/\2 * (rooms.length-L'.length)+W2.length<2 * (rooms.length-L.length)+(W'++[here]).length:=by
   intro H4 L' W2 x y D4 hc hm;refine⟨L',W2,x,y,rfl,⟨D4.d,D4.w,D4.same,D4.nd,D4.sound,D4.wait,fun y hy hn _=>?_⟩,hm⟩;by_cases e:y=here
   ·rw[e];exact hc
   ·exact D4.closed y hy hn e
  by_cases hmem:(here,av)∈ps.map (·.1)
  ·obtain⟨⟨r,a⟩,hra,er⟩:=aL.mp hmem;obtain rfl:r=(here,av):=er;rw[ef hC G.nd hra];have hla:=G.ls _ hra;refine⟨a,rfl,.inl ⟨⟨_,ax.of ((S1.trans S3) _ _ hla)⟩,?_⟩⟩;refine bD (xs:=(be ds (here,av)).map V.str) (fun j σ H'=>∃(L' W2:Zb) (y:Option V),σ=[some (.ref g),some (.str room),some (.ref d),some (.ref w),some (.str here),y]/\GA H H' ds room d w L' W2 (fun y=>y=here)/\(here=room∨here∈L')/\(∀c∈(be ds (here,av)).take j,c∈L') /\
     2 * (rooms.length-L'.length)+W2.length<2 * (rooms.length-L.length)+(W'++[here]).length)
    ⟨L,W',_,rfl,D3,hhere,by simp,hm3⟩ (fun j σ H' _ ⟨_,_,_,_,D',_⟩=>ax.of (D'.same _ _ hla)) ?_ ?_
   ·rintro j x σ H4 hj ⟨L',W2,y,rfl,D4,hh,hc,hm⟩;obtain⟨goal,hgoal,rfl⟩:=bf hj;have hedge:(⟨here,av,goal⟩:ak)∈ds:=dP.mp (bJ hgoal);have hreach:Reach ds room goal:=by
     rcases hh with hh|hh
     ·rw[hh]at hedge;exact .one hedge
     ·exact .step (D4.sound _ hh) hedge
    have hlen':=lenL D4.nd D4.sound;refine⟨_,rfl,_,rfl,d,_,rfl,.inl ⟨_,.inr goal,.inl D4.d,rfl,rfl⟩,_,rfl,?_⟩;rw[eg];by_cases c:goal∈L'
    ·rw[zzr1 c];refine bS ⟨L',W2,_,rfl,D4,hh,?_,hm⟩;intro c' hc';rw[take_snoc hgoal]at hc';rcases bw.mp hc' with h|h
     ·exact hc c' h
     ·have:c'=goal:=by simpa using h
      rw[this];exact c
    ·rw[zzr0 c];refine cj ?_;have nd':(L'++[goal]).Nodup:=by
      rw[cR];refine⟨D4.nd,by simp,fun a ha b hb e=>?_⟩;have:b=goal:=by simpa using hb
      exact c (by rw[<-this,<-e];exact ha)
     have sd':∀y∈L'++[goal],Reach ds room y:=by
      intro y hy;rcases bw.mp hy with hy|hy
      ·exact D4.sound y hy
      ·have:y=goal:=by simpa using hy
       rw[this];exact hreach
     have hlen2:=lenL nd' sd';rw[aZ]at hlen2;have hlen3:L'.length+1<=rooms.length:=hlen2;have hWl:W2.length<=9000:=by omega
     refine⟨_,rfl,_,rfl,d,_,rfl,.inl ⟨_,.inr goal,D4.d,rfl,am (aD (jH _) (by omega)),rfl⟩,?_⟩;have hw5:upd H4 d (.dK (cH (aR L') (.inr goal) (.bl true))) w=some (.lst (W2.map V.str)):=by rw[ai hdw.symm];exact D4.w
     refine⟨_,rfl,.inl ⟨rfl,_,ax.of hw5⟩,_,rfl,w,_,_,rfl,rfl,hw5,by rw[ah];exact gb hWl,L'++[goal],W2++[goal],_,rfl,⟨?_,?_,?_,nd',sd',?_,?_⟩,?_,?_,?_⟩
     ·rw[ai hdw,aa,c7]
     ·rw[aa,aq];rfl
     ·intro b o q;rw[ai (ae q hwH),ai (ae q hd)];exact D4.same _ _ q
     ·intro y hy;rcases bw.mp hy with hy|hy
      ·rcases D4.wait y hy with h|h
       ·exact .inl h
       ·exact .inr (dj _ h)
      ·exact .inr (dJ _ hy)
     ·intro y hy hn ho c' hc';have hn1:y∉W2:=fun z=>hn (dj _ z);have hyg:y≠goal:=fun z=>hn (dJ _ (by simp[z]));refine dj _ (D4.closed y ?_ hn1 ho c' hc');rcases hy with hy|hy
      ·exact .inl hy
      ·rcases bw.mp hy with hy|hy
       ·exact .inr hy
       ·exact absurd (by simpa using hy) hyg
     ·rcases hh with h|h
      ·exact .inl h
      ·exact .inr (dj _ h)
     ·intro c' hc';rw[take_snoc hgoal]at hc';rcases bw.mp hc' with h|h
      ·exact dj _ (hc c' h)
      ·exact dJ _ h
     ·rw[aZ,aZ];show 2 * (rooms.length-(L'.length+1))+(W2.length+1)<_;omega
   ·rintro σ H4 ⟨L',W2,y,rfl,D4,hh,hc,hm⟩;rw[ah,aT]at hc;exact fin H4 L' W2 _ _ D4 hc hm
  ·rw[lz hC hmem];refine⟨et,rfl,.inr ⟨⟨_,bA.of het3⟩,?_⟩⟩;have hnil:be ds (here,av)=[]:=kR fun x hx z=>hmem (by rw[<-z];exact G.all x hx);refine AO (xs:=[]) (fun j σ H'=>σ=[some (.ref g),some (.str room),some (.ref d),some (.ref w),some (.str here),x5]/\H'=H3) ⟨rfl,rfl⟩ (fun j σ H' _ ⟨_,e⟩=>by rw[e];exact bA.of het3) (fun j x σ H' hj=>by cases hj) ?_;rintro σ H' ⟨rfl,rfl⟩;exact fin _ L W' _ _ D3 (by rw[hnil];simp) hm3
 ·have hnil:W=[]:=by
   cases W with
   |nil=>rfl
   |cons a W=>exact absurd (zzr1 (by rw[ah,fb];omega)) hpos
  subst hnil;refine⟨_,rfl,k d L H1 D.d D.nd (fun w=>⟨D.sound w,fun hr=>?_⟩) hd D.same⟩
  induction hr with
  |one h=>exact D.closed room (.inl rfl) (by simp) (fun z=>z) _ (dP.mpr h)
  |step r h ih=>exact D.closed _ (.inr ih) (by simp) (fun z=>z) _ (dP.mpr h)
inductive sp_first_led_round (vs:List V)(H:Hp)(Q:VK)(E:XK):Prop
 |mk (l3 d:Addr) (rooms:Zb) (ps:List (Str×Addr)):(vs=[.ref l3,.ref d])->(H l3=some (.lst (rooms.map V.str)))->(H d=some (.dK (de Sum.inr ps)))->(ps.map (·.1)=rooms)->(rooms.Nodup)->((∀x∈ps,∃L,H x.2=some (.dK (aR L))/\x.1∉L))->(∀H',ab H H'->Q .non H')->sp_first_led_round  vs H Q E
theorem mJ{K:Za}{vs:List V}{H:Hp}{Q:VK}{E:XK}(h:sp_first_led_round vs H Q E):nz K (bd Q) (start ox vs) H:=by
 obtain⟨l3,d,rooms,ps,rfl,h3,hd,hps,nod,hL,k⟩:=h;refine⟨_,rfl,l3,rfl,⟨_,ax.of h3⟩,?_⟩;refine kT (xs:=rooms.map V.str) (fun i σ H'=>∃x y,σ=[some (.ref l3),some (.ref d),x,y]/\ab H H') ⟨_,_,rfl,ab.refl H⟩ (fun i σ H' _ ⟨_,_,_,S⟩=>ax.of (S _ _ h3)) ?_ ?_
 ·rintro i x σ H' t hi ⟨x2,x3,rfl,S⟩ ht;obtain⟨w,hw,rfl⟩:=bf hi;refine⟨t,_,rfl,bA.of aa,rfl,_,_,rfl,_,_,rfl,rfl,?_⟩;have S2:ab H (upd H' t (.tup [.int i,.str w])):=S.trans (ab.new ht);generalize upd H' t (.tup [.int i,.str w])=H2 at S2 ⊢;have hmem:w∈ps.map (·.1):=by rw[hps];exact bJ hw
  obtain⟨⟨r,a⟩,hra,er⟩:=aL.mp hmem;obtain rfl:r=w:=er;obtain⟨L,hLa,hn⟩:=hL _ hra;refine⟨_,rfl,_,rfl,_,rfl,d,.ref a,rfl,.inl ⟨_,.inr r,.inl (S2 _ _ hd),rfl,(ef iL (by rw[hps];exact nod) hra).symm⟩,a,_,rfl,.inl ⟨_,.inr r,.inl (S2 _ _ hLa),rfl,rfl⟩,_,rfl,?_⟩;rw[eg,zzr0 hn];exact bS ⟨_,_,rfl,S2⟩
 ·rintro σ H' ⟨x,y,rfl,S⟩;exact k H' S
abbrev lk(f:Str)(fs:List (Str×V)):Option V:=fs.lookup f
def fI(ds:List ak)(r:Str):Bool:=(b0 ds r).all kQ
structure aW(C:Addr)(H:Hp)(x:Addr)(J0 J1 rooms:Zb)(ds:List ak):Prop where
 at_:∃(dx:Addr) (fs:List (Str×V)) (o1 o2 o3 o4 lv qu sg sl:Addr) (ts:Ze) (lps:List (Str×Addr)) (gps:List ((Str×List Str)×Addr)) (sps:List (Str×Addr)),
  H x=some (.ins C dx fs)/\lk "is_quiet" fs=none/\lk "goals" fs=none/\lk "led_from" fs=none/\lk "rooms" fs=none /\
  lk "own_asks" fs=some (.ref o1)/\lk "own_says" fs=some (.ref o2)/\lk "own_rooms" fs=some (.ref o3)/\lk "own_doors" fs=some (.ref o4) /\
  lk "leaving" fs=some (.ref lv)/\lk "quiet" fs=some (.ref qu)/\lk "sign_goals" fs=some (.ref sg)/\lk "still_led" fs=some (.ref sl) /\
  Lists H o1 o2 o3 o4 ts J0 J1 rooms ds /\
  lps.map (·.1)=rooms/\H lv=some (.dK (de Sum.inr lps))/\(∀x∈lps,∃us,H x.2=some (.lst (us.map V.ref))/\cn H us (b0 ds x.1)) /\
  H qu=some (.dK (aR (rooms.filter (fI ds))))/\jP H sg gps ds /\
  sps.map (·.1)=rooms/\H sl=some (.dK (de Sum.inr sps))/\(∀x∈sps,∃L,H x.2=some (.dK (aR L))/\L.Nodup/\∀w,w∈L↔Reach ds x.1 w)
 ok:aG J0 J1 rooms ds
 more:∃(dx:Addr) (fs:List (Str×V)),H x=some (.ins C dx fs)/\lk "asks" fs=none/\lk "says" fs=none/\lk "doors" fs=none/\lk "doors_from" fs=none
theorem cI(f:Str)(v:V):∀fs:List (Str×V),(cp f v fs).length<=fs.length+1
 |[]=>aA _
 | (g,x)::r=>by
  unfold cp;split
  ·exact uf _
  ·rw[fb,fb];have:=cI f v r;omega
theorem sw:∀(ps qs:List (Str×Addr)),((qs++ps).map (·.1)).Nodup->iX (de Sum.inr qs) (de Sum.inr ps)=de Sum.inr (qs++ps)
 |[],qs,_=>by rw[dD];rfl
 |p::ps,qs,nd=>by
  show iX (cH (de Sum.inr qs) (Sum.inr p.1) (.ref p.2)) (de Sum.inr ps)=_;have e:qs++p::ps=(qs++[p])++ps:=by simp
  rw[e]at nd ⊢;have hnew:p.1∉qs.map (·.1):=by
   rw[aq,aq,cR]at nd;have:=nd.1;rw[cR]at this;intro z;exact this.2.2 _ z _ (by simp) rfl
  rw[gJ _ (lz iL hnew)];have:=sw ps (qs++[p]) nd;rw[<-this];have e2:de (Sum.inr:Str->em) (qs++[p])=de Sum.inr qs++[(Sum.inr p.1,V.ref p.2)]:=by
   unfold de;rw[aq];rfl
  rw[e2]
theorem Lists.exI{H H':Hp}{x C dx:Addr}{fs:List (Str×V)}{l1 l2 l3 l4:Addr}{ts:Ze}{J0 J1 rooms:Zb}{ds:List ak}(h:Lists H l1 l2 l3 l4 ts J0 J1 rooms ds)(hx:H x=some (.ins C dx fs))(e:bu x H H'):Lists H' l1 l2 l3 l4 ts J0 J1 rooms ds:=by
 have ne:∀{b:Addr}{xs:List V},H b=some (.lst xs)->b≠x:=fun hb z=>by rw[z,hx]at hb;cases hb
 exact⟨e _ _ h.a1 (ne h.a1),e _ _ h.a2 (ne h.a2),e _ _ h.a3 (ne h.a3),e _ _ h.a4 (ne h.a4),h.ds.kt fun b xs hb=>e _ _ hb fun z=>by rw[z,hx]at hb;cases hb⟩
theorem bu.ktI{H H':Hp}{x C dx:Addr}{fs:List (Str×V)}(e:bu x H H')(hx:H x=some (.ins C dx fs)):iB H H':=fun b xs hb=>e _ _ hb fun z=>by rw[z,hx]at hb;cases hb
theorem bu.neI{H:Hp}{x C dx:Addr}{fs:List (Str×V)}(hx:H x=some (.ins C dx fs)){b:Addr}{xs:List V}(hb:H b=some (.lst xs)):b≠x:=fun z=>by rw[z,hx]at hb;cases hb
theorem Do{H:Hp}{x C dx:Addr}{fs:List (Str×V)}(hx:H x=some (.ins C dx fs)){b:Addr}{kvs:List (em×V)}(hb:H b=some (.dK kvs)):b≠x:=fun z=>by rw[z,hx]at hb;cases hb
theorem FF{H:Hp}{x C dx:Addr}{fs:List (Str×V)}(hx:H x=some (.ins C dx fs)){b:Addr}{kvs:List (TK×V)}(hb:H b=some (.dT kvs)):b≠x:=fun z=>by rw[z,hx]at hb;cases hb
structure MC(K:Za)(C:Addr):Prop where
 cls:yB K C
 a1:cw K C "own_asks"
 a2:cw K C "own_says"
 a3:cw K C "own_rooms"
 a4:cw K C "own_doors"
 a5:cw K C "leaving"
 a6:cw K C "quiet"
 a7:cw K C "sign_goals"
 a8:cw K C "still_led"
theorem kU{H:Hp}{x C dx:Addr}{fs:List (Str×V)}(f:Str)(y:V)(hx:H x=some (.ins C dx fs)):∃H',H'=upd H x (.ins C dx (cp f y fs))/\H' x=some (.ins C dx (cp f y fs))/\bu x H H' :=
 ⟨_,rfl,aa,bu.upd _ _ _⟩
theorem bU{p:Str->Bool}{ws:Zb}{i:Nat}{w:Str}(h:ws[i]?=some w):(ws.take (i+1)).filter p=(ws.take i).filter p++(if p w=true then[w]else[]):=by
 rw[take_snoc h,gS];congr 1;by_cases c:p w=true
 ·rw[if_pos c];simp[c]
 ·rw[if_neg c];simp[c]
theorem zt(ds:List ak)(r:Str):(b0 ds r).length<=ds.length:=cB _ _
theorem aG.sg0{J0 J1 rooms:Zb}{ds:List ak}(m:aG J0 J1 rooms ds){r:Str}:∀d∈b0 ds r,d.sg≠[]:=by
 intro d hd;have:=m.good d (fg.mp hd).1;rcases this.sg with⟨w,_,e⟩|⟨w,_,e⟩|e<;>rw[e]<;>exact List.cons_ne_nil _ _
theorem Fh(a b:Str):decide (gR a=gR b)=decide (a=b):=by
 by_cases e:a=b
 ·rw[zzr1 e,zzr1 (by rw[e])]
 ·rw[zzr0 e,zzr0 (fun z=>e (nQ z))]
theorem aW.by{C:Addr}{H H':Hp}{x:Addr}{J0 J1 rooms:Zb}{ds:List ak}(h:aW C H x J0 J1 rooms ds)
  (hs:∀b ws,H b=some (.lst (List.map V.str ws))->H' b=some (.lst (List.map V.str ws))) (hr:∀b ts,H b=some (.lst (List.map V.ref ts))->H' b=some (.lst (List.map V.ref ts))) (ht:iB H H')
  (hd:∀b kvs,H b=some (.dK kvs)->H' b=some (.dK kvs)) (hT:∀b kvs,H b=some (.dT kvs)->H' b=some (.dT kvs)) (hi:∀b C dx fs,H b=some (.ins C dx fs)->H' b=some (.ins C dx fs)):aW C H' x J0 J1 rooms ds:=by
 obtain⟨dx,fs,o1,o2,o3,o4,lv,qu,sg,sl,ts,lps,gps,sps,g1,a1,a2,a3,a4,b1,b2,b3,b4,b5,b6,b7,b8,L,c1,c2,c3,c4,G,d1,d2,d3⟩:=h.at_;refine⟨⟨dx,fs,o1,o2,o3,o4,lv,qu,sg,sl,ts,lps,gps,sps,hi _ _ _ _ g1,a1,a2,a3,a4,b1,b2,b3,b4,b5,b6,b7,b8,⟨hs _ _ L.a1,hs _ _ L.a2,hs _ _ L.a3,hr _ _ L.a4,L.ds.kt ht⟩,c1,hd _ _ c2,fun y hy=>?_,hd _ _ c4,⟨G.nd,hT _ _ G.g,fun y hy=>hs _ _ (G.ls y hy),G.all⟩,d1,hd _ _ d2,fun y hy=>?_⟩,h.ok,by obtain⟨dx,fs,g,r⟩:=h.more;exact⟨dx,fs,hi _ _ _ _ g,r⟩⟩
 ·obtain⟨us,e1,e2⟩:=c3 y hy;exact⟨us,hr _ _ e1,e2.kt ht⟩
 ·obtain⟨L0,e1,e2⟩:=d3 y hy;exact⟨L0,hd _ _ e1,e2⟩
theorem aW.same{C:Addr}{H H':Hp}{x:Addr}{J0 J1 rooms:Zb}{ds:List ak}(h:aW C H x J0 J1 rooms ds)(S:ab H H'):aW C H' x J0 J1 rooms ds :=
 h.by (fun _ _ e=>S _ _ e) (fun _ _ e=>S _ _ e) (ab.kt S) (fun _ _ e=>S _ _ e) (fun _ _ e=>S _ _ e) (fun _ _ _ _ e=>S _ _ e)
theorem aW.ex{C:Addr}{H H':Hp}{x p c:Addr}{J0 J1 rooms:Zb}{ds:List ak}(h:aW C H x J0 J1 rooms ds)(hp:fZ H p c)(S:bu p H H'):aW C H' x J0 J1 rooms ds:=by
 obtain⟨xs,hx⟩:=hp.lst;exact h.by (fun _ _ e=>S _ _ e (hp.ne_strs e)) (fun _ _ e=>S _ _ e (hp.ne_refs e)) (S.kt hx) (fun _ _ e=>S _ _ e (fun z=>by rw[z,hx]at e;cases e)) (fun _ _ e=>S _ _ e (fun z=>by rw[z,hx]at e;cases e)) (fun _ _ _ _ e=>S _ _ e (fun z=>by rw[z,hx]at e;cases e))
inductive iI(C:Addr)(vs:List V)(H:Hp)(Q:VK)(E:XK):Prop
 |mk (x:Addr) (w:Str) (J0 J1 rooms:Zb) (ds:List ak):(vs=[.ref x,.str w])->(aW C H x J0 J1 rooms ds)->(Q (.bl (decide (w∈rooms.filter (fI ds)))) H)->iI C vs H Q E
theorem xw{K:Za}{C:Addr}(M:MC K C){vs:List V}{H:Hp}{Q:VK}{E:XK}(h:iI C vs H Q E):mB K (bd Q) (start mW vs) H:=by
 obtain⟨x,w,J0,J1,rooms,ds,rfl,h,k⟩:=h;obtain⟨dx,fs,o1,o2,o3,o4,lv,qu,sg,sl,ts,lps,gps,sps,g1,a1,a2,a3,a4,b1,b2,b3,b4,b5,b6,b7,b8,L,c1,c2,c3,c4,_⟩:=h.at_;refine⟨_,rfl,_,rfl,x,C,dx,fs,.ref qu,rfl,g1,M.cls,M.a6,b6,qu,_,rfl,.inl ⟨_,.inr w,.inl c4,rfl,rfl⟩,?_⟩;rw[eg];exact k
def b9:List Str:=[("hush":Str)]
def fO(ds:List ak):List Str:=(ds.filter fun d=>!kQ d).map (·.a)
theorem zb(ds:List ak)(r:Str):fI ds r=decide (r∉fO ds):=by
 unfold fI fO b0;rw[uj,List.all_eq_true,decide_eq_true_iff];constructor
 ·intro h z;obtain⟨d,hd,rfl⟩:=aL.mp z;rw[fg]at hd;have:=h d (fg.mpr ⟨hd.1,zzr1 rfl⟩);rw[this]at hd;exact absurd hd.2 (by decide)
 ·intro h d hd;rw[fg]at hd;cases q:kQ d with
  |true=>rfl
  |false =>
   refine absurd (aL.mpr ⟨d,fg.mpr ⟨hd.1,by rw[q];rfl⟩,?_⟩) h;exact of_decide_eq_true hd.2
theorem lr{w:Str}{ws:Zb}:gR w∈ws.map gR↔w∈ws:=by
 constructor
 ·intro h;obtain⟨x,hx,e⟩:=aL.mp h;rw[<-nQ e];exact hx
 ·exact oA
theorem uy{ds:List ak}{i:Nat}{d:ak}(h:ds[i]?=some d):fO (ds.take (i+1))=fO (ds.take i)++(if(!kQ d)=true then[d.a]else[]):=by
 unfold fO;rw[take_snoc h,gS,aq];congr 1;by_cases c:(!kQ d)=true
 ·rw[if_pos c];simp[List.filter_cons,c]
 ·rw[if_neg c];simp[List.filter_cons,c]
def vA(K:Za)(C_Machine:Addr)(sp_Machine_rooms:Sp)(sp_Machine_led_from:Sp):TS :=
 ar (aM (o0) U2)
 (ar (dZ (bq K V1) U3 (cz (tB (fD K V3 V2)) (ar (ir V2 V3 (tC (.bl true)))
 (dZ (bq K (bY C_Machine "led_from" sp_Machine_led_from [] E0 V0 (ay V3))) U4 (ir V2 V4 (tC (.bl true))))) (bH)))
 (a_ (fE (xx K) (ay (b_ 1 [2] (bq K (bY C_Machine "rooms" sp_Machine_rooms [] E0 V0 bm)) U0 (tB (Bj K V0 V1)) V0)))))
def wE:List Str:=["M","rooms","found","room","led"]
def qe(K:Za):TS :=
 a_ (fE (da K) (ay (eN K V0 "own_rooms")))
def qx:List Str:=["self"]
def mz(K:Za):TS :=
 a_ (fE (da K) (ay (vT K (eN K V0 "still_led") V1 (bo (bm)))))
def mV:List Str:=["self","room"]
def qg(K:Za):TS :=
 a_ (fE (da K) (ay (vT K (eN K V0 "sign_goals") (bo (aS V1 V2)) (bo (bm)))))
def qy:List Str:=["self","room","sign"]
def rB(K:Za):TS :=
 ar (aM (fE (da K) (ay V1)) U2)
 (ar (aM (tC (.int 0)) U3)
 (ar (yN (aV (aJ C3 V3 (fE (gH K) (ay V2)))) (ar (dZ (bq K V0) (lS K 3 (bI U4 (bI U5 (bI U6 (kS))))) (cz (rL (aV (aJ (o6 K) V4 (aJ (pT K) V2 V3))) (rL (aV (aJ (o6 K) V5 (bo (ay (tC (.str "still")))))) (aV (aJ (nS K true) V6 V2)))) (cr (Bk K "list" hE V2 (ay V6))) (bH)))
 (aM (aJ dq V3 (tC (.int 1))) U3)))
 (a_ V2)))
def sW:List Str:=["doors","rooms","found","at","room","sign","other"]
inductive jd(C:Addr)(vs:List V)(H:Hp)(Q:VK)(E:XK):Prop
 |mk (x:Addr) (J0 J1 rooms:Zb) (ds:List ak):(vs=[.ref x])->(aW C H x J0 J1 rooms ds)->(∀l,H l=none->Q (.ref l) (upd H l (.lst (rooms.map V.str))))->jd C vs H Q E
theorem CK{K:Za}{C:Addr}(M:MC K C){vs:List V}{H:Hp}{Q:VK}{E:XK}(h:jd C vs H Q E):qe K (bd Q) (start qx vs) H:=by
 obtain⟨x,J0,J1,rooms,ds,rfl,h,k⟩:=h;obtain⟨dx,fs,o1,o2,o3,o4,lv,qu,sg,sl,ts,lps,gps,sps,g1,a1,a2,a3,a4,b1,b2,b3,b4,b5,b6,b7,b8,L,_⟩:=h.at_;exact⟨_,rfl,x,C,dx,fs,.ref o3,rfl,g1,M.cls,M.a3,b3,.inl ⟨o3,_,rfl,.inl (ax.of L.a3),k⟩⟩
theorem xN:∀{L:Zb},L.Nodup->(aR L).map (fun kv=>kV kv.1)=L.map V.str:=by
 intro L;refine i_ (fun L=>L.Nodup->(aR L).map (fun kv=>kV kv.1)=L.map V.str) (fun _=>rfl) (fun ws w ih nd=>?_) L;rw[cR]at nd;have hn:aU (aR ws) (.inr w)=none:=by
  rw[sF,if_neg (fun z=>nd.2.2 w z w (by simp) rfl)]
 show(aR (ws++[w])).map _=_;rw[c7,gJ _ hn,aq,ih nd.1,aq]
 rfl
inductive gF(C:Addr)(vs:List V)(H:Hp)(Q:VK)(E:XK):Prop
 |mk (x:Addr) (r:Str) (J0 J1 rooms:Zb) (ds:List ak):(vs=[.ref x,.str r])->(aW C H x J0 J1 rooms ds)->(r∈rooms)->(∀(l:Addr) (L:Zb) (H':Hp),H' l=some (.lst (L.map V.str))->L.Nodup->(∀w,w∈L↔Reach ds r w)->H l=none->ab H H'->Q (.ref l) H')->gF C vs H Q E
theorem xv{K:Za}{C:Addr}(M:MC K C){vs:List V}{H:Hp}{Q:VK}{E:XK}(h:gF C vs H Q E):mz K (bd Q) (start mV vs) H:=by
 obtain⟨x,r,J0,J1,rooms,ds,rfl,h,hr,k⟩:=h;obtain⟨dx,fs,o1,o2,o3,o4,lv,qu,sg,sl,ts,lps,gps,sps,g1,a1,a2,a3,a4,b1,b2,b3,b4,b5,b6,b7,b8,L,c1,c2,c3,c4,G,d1,d2,d3⟩:=h.at_;have nod:=h.ok.okR.1;obtain⟨⟨r',a⟩,hra,er⟩:=aL.mp (show r∈sps.map (·.1) by rw[d1];exact hr);obtain rfl:r'=r:=er;obtain⟨L0,e1,e2,e3⟩:=d3 _ hra;refine⟨_,rfl,x,C,dx,fs,.ref sl,rfl,g1,M.cls,M.a8,b8,sl,rfl,.inl ⟨_,.inl d2⟩,_,rfl,(by show 0<=aj;decide),fun et het=>⟨_,.inl ⟨_,.inr r',.inl (kp d2 het),rfl,rfl⟩,?_⟩⟩;rw[ef iL (by rw[d1];exact nod) hra];refine .inr ⟨a,_,rfl,.inl (kp e1 het),fun l hl=>k l L0 _ ?_ e2 e3 ((ab.new het).free hl) ((ab.new het).trans (ab.new hl))⟩;rw[aa,xN e2]
inductive ia(C:Addr)(vs:List V)(H:Hp)(Q:VK)(E:XK):Prop
 |mk (x s:Addr) (r:Str) (sg J0 J1 rooms:Zb) (ds:List ak):(vs=[.ref x,.str r,.ref s])->(aW C H x J0 J1 rooms ds)->(H s=some (.tup (sg.map V.str)))->(∀(l:Addr) (H':Hp),H' l=some (.lst ((be ds (r,sg)).map V.str))->H l=none->ab H H'->Q (.ref l) H')->ia C vs H Q E
theorem Bu{K:Za}{C:Addr}(M:MC K C){vs:List V}{H:Hp}{Q:VK}{E:XK}(h:ia C vs H Q E):qg K (bd Q) (start qy vs) H:=by
 obtain⟨x,s,r,sgn,J0,J1,rooms,ds,rfl,h,hs,k⟩:=h;obtain⟨dx,fs,o1,o2,o3,o4,lv,qu,sg,sl,ts,lps,gps,sps,g1,a1,a2,a3,a4,b1,b2,b3,b4,b5,b6,b7,b8,L,c1,c2,c3,c4,G,d1,d2,d3⟩:=h.at_;have nod:=h.ok.okR.1;refine⟨_,rfl,x,C,dx,fs,.ref sg,rfl,g1,M.cls,M.a7,b7,sg,rfl,.inr ⟨_,.inl G.g⟩,_,rfl,_,rfl,(by show 2<=aj;decide),fun kt hkt=>⟨(by show 0<=aj;decide),fun et het=>⟨aU (de tm gps) (tm (r,sgn)),.inr ⟨_,tm (r,sgn),kt,.inl (kp (kp G.g hkt) het),rfl,?_,lp _,rfl⟩,?_⟩⟩⟩
 ·refine cC.isIn 8 (lp _) ?_;unfold tm cC;refine⟨kt,_,rfl,kp aa het,?_⟩;unfold TKAts;refine⟨_,_,rfl,vy _,?_⟩;unfold TKAts;refine⟨_,_,rfl,SignAt.tk (kp (kp hs hkt) het),?_⟩;unfold TKAts
  rfl
 have S2:ab H (upd (upd H kt (.tup [.str r,.ref s])) et (.tup [])):=(ab.new hkt).trans (ab.new het);by_cases hmem:(r,sgn)∈gps.map (·.1)
 ·obtain⟨⟨y,a⟩,hra,er⟩:=aL.mp hmem;obtain rfl:y=(r,sgn):=er;rw[ef hC G.nd hra];exact .inl ⟨a,_,rfl,.inl (ax.of (S2 _ _ (G.ls _ hra))),fun l hl=>k l _ aa (S2.free hl) (S2.trans (ab.new hl))⟩
 ·rw[lz hC hmem];have hnil:be ds (r,sgn)=[]:=kR fun y hy z=>hmem (by rw[<-z];exact G.all y hy);refine .inl ⟨et,[],rfl,.inr (bA.of aa),fun l hl=>k l _ ?_ (S2.free hl) (S2.trans (ab.new hl))⟩;rw[hnil];exact aa
theorem Reach.trans{ds:List ak}{a b c:Str}(h1:Reach ds a b)(h2:Reach ds b c):Reach ds a c:=by
 induction h2 with
 |one h=>exact .step h1 h
 |step r h ih=>exact .step ih h
def gP(ds:List ak)(gs:Zb)(w:Str):Prop:=∃g∈gs,w=g∨Reach ds g w
theorem gP.in_{ds:List ak}{gs rooms:Zb}{w:Str}(hg:∀g∈gs,g∈rooms)(hd:∀d∈ds,d.b∈rooms)(h:gP ds gs w):w∈rooms:=by
 obtain⟨g,h1,rfl|h2⟩:=h
 ·exact hg _ h1
 ·exact h2.in_ hd
def qq(F:Zb)(w:Str):List Str:=if w∈F then F else F++[w]
theorem xM(F:Zb):∀kv∈aR F,kv.2=.bl true:=by
 refine i_ (fun F=>∀kv∈aR F,kv.2=.bl true) (by intro kv h;cases h) (fun ws w ih=>?_) F;intro kv hkv;rw[c7]at hkv;unfold cH at hkv;split at hkv
 ·obtain⟨x,hx,rfl⟩:=aL.mp hkv;split
  ·rfl
  ·exact ih x hx
 ·rcases bw.mp hkv with h|h
  ·exact ih kv h
  ·have:kv=(.inr w,.bl true):=by simpa using h
   rw[this]
theorem sG(F:Zb)(w:Str):cH (aR F) (.inr w) (.bl true)=aR (qq F w):=by
 unfold qq;by_cases c:w∈F
 ·rw[if_pos c];have h1:((aR F).any fun kv=>decide (kv.1=(.inr w:em)))=true:=by
   rw[i8,eg,zzr1 c]
  unfold cH;rw[if_pos h1];have:∀l:List (em×V),(∀kv∈l,kv.2=.bl true)->l.map (fun kv=>if kv.1=(.inr w:em)then(kv.1,V.bl true)else kv)=l:=by
   intro l
   induction l with
   |nil=>intro _;rfl
   |cons x l ih =>
    intro h;rw[bj,ih fun kv hkv=>h kv (fq _ hkv)];congr 1;split
    ·rw[<-h x fx]
    ·rfl
  exact this _ (xM F)
 ·rw[if_neg c,c7]
theorem sT{F:Zb}(h:F.Nodup)(w:Str):(qq F w).Nodup:=by
 unfold qq;split
 ·exact h
 ·next c =>
  rw[cR];refine⟨h,by simp,fun a ha b hb e=>?_⟩;have:b=w:=by simpa using hb
  exact c (by rw[<-this,<-e];exact ha)
theorem xL{F:Zb}{w y:Str}:y∈qq F w↔y∈F∨y=w:=by
 unfold qq;split
 ·next c=>exact⟨.inl,fun h=>h.elim id fun e=>by rw[e];exact c⟩
 ·rw[bw];simp
inductive sp_with_still(C:Addr)(vs:List V)(H:Hp)(Q:VK)(E:XK):Prop
 |mk (x l:Addr) (gs J0 J1 rooms:Zb) (ds:List ak):(vs=[.ref x,.ref l])->(aW C H x J0 J1 rooms ds)->(H l=some (.lst (gs.map V.str)))->((∀g∈gs,g∈rooms))->(∀(t:Addr) (F:Zb) (H':Hp),H' t=some (.tup ((rooms.filter fun r=>decide (r∈F)).map V.str))->(∀w,w∈F↔gP ds gs w)->ab H H'->Q (.ref t) H')->sp_with_still C vs H Q E
theorem tS{K:Za}{C:Addr}{vs:List V}{H:Hp}{Q:VK}{E:XK}(h:sp_with_still C vs H Q E):vA K C (jd C) (gF C) (bd Q) (start wE vs) H:=by
 obtain⟨x,l,gs,J0,J1,rooms,ds,rfl,M,hl,hg,k⟩:=h;have hdb:∀d∈ds,d.b∈rooms:=fun d hd=>(M.ok.good d hd).b;have z3:=M.ok.rooms26;refine fun d hd=>?_;refine⟨_,rfl,l,rfl,⟨_,ax.of (kp hl hd)⟩,?_⟩;refine bD (xs:=gs.map V.str) (fun i σ H'=>∃(F:Zb) (x3 x4:Option V),σ=[some (.ref x),some (.ref l),some (.ref d),x3,x4]/\H' d=some (.dK (aR F))/\ab H H'/\F.Nodup/\∀w,w∈F↔gP ds (gs.take i) w)
  ⟨[],_,_,rfl,aa,ab.new hd,rf,fun w=>⟨fun h=>(by cases h),fun⟨g,h,_⟩=>(by cases h)⟩⟩ (fun i σ H' _ ⟨_,_,_,_,_,S,_⟩=>ax.of (S _ _ hl)) ?_ ?_
 ·rintro i y σ H1 hi ⟨F,x3,x4,rfl,hd1,S1,nd,hF⟩;obtain⟨r,hr,rfl⟩:=bf hi;have hrm:r∈rooms:=hg r (bJ hr);have hsub:∀w∈F,w∈rooms:=fun w hw=>((hF w).mp hw).in_ (fun g hg'=>hg g (f6 hg')) hdb;refine⟨_,rfl,_,rfl,d,_,rfl,.inl ⟨_,.inr r,.inl hd1,rfl,rfl⟩,_,rfl,?_⟩;rw[eg];have hstep:∀w,gP ds (gs.take (i+1)) w↔(gP ds (gs.take i) w∨w=r∨Reach ds r w):=by
   intro w;rw[take_snoc hr];constructor
   ·rintro⟨g,hg',h⟩;rcases bw.mp hg' with hg'|hg'
    ·exact .inl ⟨g,hg',h⟩
    ·have:g=r:=by simpa using hg'
     subst this;exact .inr h
   ·rintro(⟨g,hg',h⟩|h)
    ·exact⟨g,dj _ hg',h⟩
    ·exact⟨r,dJ _ (by simp),h⟩
  by_cases c:r∈F
  ·rw[zzr1 c];refine bS ⟨F,_,_,rfl,hd1,S1,nd,fun w=>?_⟩;rw[hstep,hF];refine⟨.inl,fun h=>h.elim id fun h=>?_⟩;obtain⟨g,hg',hgr⟩:=(hF r).mp c;rcases h with h|h
   ·rw[h];exact⟨g,hg',hgr⟩
   ·refine⟨g,hg',.inr ?_⟩;rcases hgr with e|hgr
    ·rw[<-e];exact h
    ·exact hgr.trans h
  ·rw[zzr0 c];refine cj ?_;have hlen:∀{F:Zb},F.Nodup->(∀w∈F,w∈rooms)->(aR F).length<aj:=fun nd hs=>am (aD (jH _) (aD (kP nd hs) (by omega)));refine⟨_,rfl,_,rfl,d,_,rfl,.inl ⟨_,.inr r,hd1,rfl,hlen nd hsub,rfl⟩,?_⟩;rw[sG];have S2:ab H (upd H1 d (.dK (aR (qq F r)))):=fun b o q=>by rw[ai (ae q hd)];exact S1 _ _ q
   have hd2:upd H1 d (.dK (aR (qq F r))) d=some (.dK (aR (qq F r))):=aa;generalize upd H1 d (.dK (aR (qq F r)))=H2 at S2 hd2 ⊢;have M2:=M.same S2;obtain⟨dx,fs,o1,o2,o3,o4,lv,qu,sg,sl,ts,lps,gps,sps,g1,a1,a2,a3,a4,_⟩:=M2.at_;refine⟨_,rfl,x,dx,fs,rfl,g1,a3,_,rfl,x,r,J0,J1,rooms,ds,rfl,M2,hrm,fun ll L H3 hll ndL hL frl S3=>⟨ll,rfl,⟨_,ax.of hll⟩,?_⟩⟩;have hd3:=S3 _ _ hd2;have llH:H ll=none:=S2.free frl;have lld:ll≠d:=fun z=>by rw[z,hd2]at frl;cases frl
   refine bD (xs:=L.map V.str) (fun j σ H'=>∃(F':Zb) (x4:Option V),σ=[some (.ref x),some (.ref l),some (.ref d),some (.str r),x4]/\H' d=some (.dK (aR F'))/\H' ll=some (.lst (L.map V.str))/\ab H H'/\F'.Nodup/\∀w,w∈F'↔(gP ds (gs.take i) w∨w=r∨w∈L.take j))
    ⟨qq F r,_,rfl,hd3,hll,S2.trans S3,sT nd r,fun w=>?_⟩ (fun j σ H' _ ⟨_,_,_,_,h,_⟩=>ax.of h) ?_ ?_
   ·rw[xL,hF];simp
   ·rintro j y σ H4 hj ⟨F',x4',rfl,hd4,hll4,S4,nd4,hF4⟩;obtain⟨v,hv,rfl⟩:=bf hj;have hsub4:∀w∈F',w∈rooms:=by
     intro w hw;rcases(hF4 w).mp hw with h|h|h
     ·exact h.in_ (fun g hg'=>hg g (f6 hg')) hdb
     ·rw[h];exact hrm
     ·exact((hL w).mp (f6 h)).in_ hdb
    refine⟨_,rfl,_,rfl,d,_,rfl,.inl ⟨_,.inr v,hd4,rfl,hlen nd4 hsub4,rfl⟩,qq F' v,_,rfl,?_,?_,?_,sT nd4 v,fun w=>?_⟩
    ·rw[aa,sG]
    ·rw[ai lld];exact hll4
    ·intro b o q;rw[ai (ae q hd)];exact S4 _ _ q
    ·rw[xL,hF4,take_snoc hv,bw];simp only[eW];constructor
     ·rintro((h|h|h)|h)
      ·exact .inl h
      ·exact .inr (.inl h)
      ·exact .inr (.inr (.inl h))
      ·exact .inr (.inr (.inr h))
     ·rintro(h|h|h|h)
      ·exact .inl (.inl h)
      ·exact .inl (.inr (.inl h))
      ·exact .inl (.inr (.inr h))
      ·exact .inr h
   ·rintro σ H4 ⟨F',x4',rfl,hd4,hll4,S4,nd4,hF4⟩;rw[ah,aT]at hF4;refine⟨F',_,_,rfl,hd4,S4,nd4,fun w=>?_⟩;rw[hstep,hF4,hL]
 ·rintro σ H1 ⟨F,x3,x4,rfl,hd1,S1,nd,hF⟩;rw[ah,aT]at hF;have M1:=M.same S1;obtain⟨dx,fs,o1,o2,o3,o4,lv,qu,sg,sl,ts,lps,gps,sps,g1,a1,a2,a3,a4,_⟩:=M1.at_;refine⟨_,rfl,x,dx,fs,rfl,g1,a4,x,J0,J1,rooms,ds,rfl,M1,fun rl hrl=>⟨rl,rfl,⟨_,ax.of aa⟩,fun f hf=>?_⟩⟩;have S2:ab H (upd H1 rl (.lst (rooms.map V.str))):=S1.trans (ab.new hrl);have hd2:upd H1 rl (.lst (rooms.map V.str)) d=some (.dK (aR F)):=kp hd1 hrl;have hrl2:upd H1 rl (.lst (rooms.map V.str)) rl=some (.lst (rooms.map V.str)):=aa;generalize upd H1 rl (.lst (rooms.map V.str))=H2 at S2 hd2 hrl2 hf ⊢;refine bh (xs:=rooms.map V.str) (fun i vs H'=>vs=((rooms.take i).filter fun r=>decide (r∈F)).map V.str/\ab H2 H'/\H' f=some (.lst vs)) ⟨rfl,ab.new hf,aa⟩ (fun i vs H' _ ⟨_,S,h'⟩=>⟨h',ax.of (S _ _ hrl2)⟩) ?_ ?_
  ·rintro vs H' ⟨rfl,S,f'⟩;rw[ah,aT]at f';exact⟨f,_,rfl,.inl ⟨ax.of f',fun t ht=>k t F _ aa hF (S2.trans (S.trans (ab.new ht)))⟩⟩
  ·rintro i vs H' x' hx' hi ⟨rfl,S,f'⟩;obtain⟨r,hr,rfl⟩:=bf hx';refine gN ?_;refine⟨_,rfl,_,rfl,d,_,rfl,.inl ⟨_,.inr r,.inl (S _ _ hd2),rfl,rfl⟩,_,rfl,?_⟩;rw[eg];have hlen:(((rooms.take i).filter fun r=>decide (r∈F)).map V.str).length<aj:=by
    rw[ah];refine am (aD (cB _ _) ?_);rw[az];omega
   refine hU (fun hq=>?_) (fun hq=>?_)
   ·refine⟨_,rfl,f',hlen,ke hi ⟨?_,?_,aa⟩⟩
    ·rw[bU hr,if_pos hq,aq];rfl
    ·intro b o q;rw[ai (ae q hf)];exact S _ _ q
   ·refine ke hi ⟨?_,S,f'⟩;rw[bU hr,if_neg hq,dD]
inductive c6(K:Za)(vs:List V)(H:Hp)(Q:VK)(E:XK):Prop
 |mk (l4 l:Addr) (ts:Ze) (ds:List ak) (gs rooms:Zb):(vs=[.ref l4,.ref l])->(H l4=some (.lst (ts.map V.ref)))->(cn H ts ds)->(H l=some (.lst (gs.map V.str)))->((∀d∈ds,d.b∈rooms))->(rooms.length<=1000)->(gs.length<=1000)->(∀(f:Addr) (F:Zb) (H':Hp),H' f=some (.lst (F.map V.str))->(∀w,w∈F↔gP ds gs w)->F.length<=2000->H f=none->ab H H'->Q (.ref f) H')->c6 K vs H Q E
structure SO(H0 H:Hp)(ds:List ak)(gs:Zb)(f:Addr)(X:Zb):Prop where
 f:H f=some (.lst ((gs++X).map V.str))
 same:ab H0 H
 nd:X.Nodup
 new:∀y∈X,y∉gs
 sound:∀y∈X,gP ds gs y
theorem gP.step{ds:List ak}{gs:Zb}{a b:Str}(h:gP ds gs a)(e:(⟨a,av,b⟩:ak)∈ds):gP ds gs b:=by
 obtain⟨g,hg,rfl|h⟩:=h
 ·exact⟨_,hg,.inr (.one e)⟩
 ·exact⟨g,hg,.inr (.step h e)⟩
theorem hW(a b:Zb):decide (lT a=lT b)=decide (a=b):=by
 by_cases e:a=b
 ·rw[zzr1 e,zzr1 (by rw[e])]
 ·rw[zzr0 e,zzr0 (fun z=>e (AN z))]
theorem xp{K:Za}{vs:List V}{H:Hp}{Q:VK}{E:XK}(h:c6 K vs H Q E):rB K (bd Q) (start sW vs) H:=by
 obtain⟨l4,l,ts,ds,gs,rooms,rfl,h4,hds,hl,hin,hz,hz2,k⟩:=h;refine⟨_,rfl,.inl ⟨l,_,rfl,.inl (ax.of hl),fun f hf=>?_⟩⟩;have lenX:∀{X:Zb},X.Nodup->(∀y∈X,y∉gs)->(∀y∈X,gP ds gs y)->X.length<=rooms.length:=fun nd nw sd=>kP nd fun y hy=>by
  obtain⟨g,hg,e|h⟩:=sd y hy
  ·exact absurd (by rw[e];exact hg) (nw y hy)
  ·exact h.in_ hin
 refine⟨fun m σ H'=>∃(X:Zb) (at_:Nat) (x y z:Option V),σ=[some (.ref l4),some (.ref l),some (.ref f),some (.int at_),x,y,z]/\SO H H' ds gs f X/\at_<=(gs++X).length/\(∀i y,i<at_->(gs++X)[i]?=some y->∀c,(⟨y,av,c⟩:ak)∈ds->c∈gs++X)/\m=gs.length+rooms.length-at_,
  ⟨_,[],0,_,_,_,rfl,⟨by rw[dD];exact aa,ab.new hf,rf,by simp,by simp⟩,eK _,fun i y h=>by omega,rfl⟩,?_⟩
 rintro m σ H1 ⟨X,at_,x4,x5,x6,rfl,D,hat,hcl,rfl⟩;have hXl:=lenX D.nd D.new D.sound;refine⟨_,rfl,_,rfl,.inl ⟨f,_,rfl,.inl (ax.of D.f),_,_,rfl,rfl,_,rfl,?_⟩⟩;refine hU (fun hlt=>?_) (fun hlt=>?_)
 ·have hlt':at_<(gs++X).length:=by
   have:=of_decide_eq_true hlt;rw[ah]at this;omega
  have hat0:at_<gs.length+rooms.length:=by rw[aZ]at hlt';omega
  generalize hhere:(gs++X)[at_]=here;have hget:(gs++X)[at_]?=some here:=by rw[<-hhere];exact iT hlt'
  have hfrom:∀{Y:Zb}{y:Str},(∀y∈Y,gP ds gs y)->y∈gs++Y->gP ds gs y:=fun sd hy=>by
   rcases bw.mp hy with hy|hy
   ·exact⟨_,hy,.inl rfl⟩
   ·exact sd _ hy
  refine⟨fun σ' H'=>∃(X':Zb) (x y z:Option V),σ'=[some (.ref l4),some (.ref l),some (.ref f),some (.int ((at_+1:Nat):Int)),x,y,z]/\SO H H' ds gs f X'/\at_+1<=(gs++X').length/\(∀i y,i<at_+1->(gs++X')[i]?=some y->∀c,(⟨y,av,c⟩:ak)∈ds->c∈gs++X'),
   fun σ' H' ⟨X',x,y,z,e,D',h1,h2⟩=>⟨_,(by omega:gs.length+rooms.length-(at_+1)<gs.length+rooms.length-at_),X',at_+1,x,y,z,e,D',h1,h2,rfl⟩,?_⟩
  refine⟨_,rfl,l4,rfl,⟨_,ax.of (D.same _ _ h4)⟩,?_⟩;refine bD (xs:=ts.map V.ref) (fun j σ H'=>∃(X' Y:Zb) (x y z:Option V),σ=[some (.ref l4),some (.ref l),some (.ref f),some (.int at_),x,y,z]/\X'=X++Y/\SO H H' ds gs f X'/\∀d∈ds.take j,d.a=here->d.sg=av->d.b∈gs++X')
   ⟨X,[],_,_,_,rfl,by simp,D,by simp⟩ (fun j σ H' _ ⟨_,_,_,_,_,_,_,D',_⟩=>ax.of (D'.same _ _ h4)) ?_ ?_
  ·rintro j y σ H2 hj ⟨X',Y,x4',x5',x6',rfl,rfl,D2,hdone⟩;obtain⟨t,ht,rfl⟩:=bQ hj;obtain⟨dr,hdr,hatd⟩:=Paired.getL hds ht;obtain⟨s,ht2,hs2⟩:=hatd.kt (ab.kt D2.same);have hmem:=bJ hdr;have hXl2:=lenX D2.nd D2.new D2.sound;have hget2:(gs++(X++Y))[at_]?=some here:=by
    rw[<-eG,rk hlt'];exact hget
   refine⟨t,_,rfl,bA.of ht2,rfl,_,_,rfl,_,_,rfl,_,_,rfl,rfl,?_⟩;have nextI:∀(H3:Hp) (X3 Y3:Zb) (q4 q5 q6:Option V),X3=X++Y3->SO H H3 ds gs f X3->(∀y∈X++Y,y∈X3)->(dr.a=here->dr.sg=av->dr.b∈gs++X3) ->
     ∃(X' Y:Zb) (x y z:Option V),[some (.ref l4),some (.ref l),some (.ref f),some (.int at_),q4,q5,q6]=[some (.ref l4),some (.ref l),some (.ref f),some (.int at_),x,y,z]/\X'=X++Y/\SO H H3 ds gs f X'/\∀d∈ds.take (j+1),d.a=here->d.sg=av->d.b∈gs++X':=by
    intro H3 X3 Y3 q4 q5 q6 e D3 hsub hnew;refine⟨X3,Y3,q4,q5,q6,rfl,e,D3,fun d hd e1 e2=>?_⟩;rw[take_snoc hdr]at hd;rcases bw.mp hd with hd|hd
    ·rcases bw.mp (hdone d hd e1 e2)with h|h
     ·exact dj _ h
     ·exact dJ _ (hsub _ h)
    ·have:d=dr:=by simpa using hd
     subst this;exact hnew e1 e2
   refine⟨_,rfl,_,rfl,_,rfl,.inl ⟨f,_,_,_,rfl,rfl,ax.of D2.f,cy (j:=at_) (by rw[cS,hget2];rfl),gR dr.a,gR here,mf _,mf _,(by show 0<=8;decide),(by show 0<=8;decide),_,rfl,?_⟩⟩;rw[Fh];by_cases c1:dr.a=here;rotate_left
   ·rw[zzr0 c1];exact bS (bS (nextI H2 _ _ _ _ _ rfl D2 (fun _ h=>h) fun e=>absurd e c1))
   rw[zzr1 c1];refine cj ?_;refine⟨_,rfl,(by show 1<=aj;decide),fun st hst=>⟨lT dr.sg,lT av,bt (bA.of (kp hs2 hst)),bt (bA.of aa),by rw[bW];decide,by rw[bW];decide,_,rfl,?_⟩⟩;rw[hW];have D3:SO H (upd H2 st (.tup [.str "still"])) ds gs f (X++Y):=⟨kp D2.f hst,D2.same.trans (ab.new hst),D2.nd,D2.new,D2.sound⟩;have hstS:H st=none:=D2.same.free hst;generalize upd H2 st (.tup [.str "still"])=H3 at D3 ⊢;by_cases c2:dr.sg=av;rotate_left
   ·rw[zzr0 c2];exact bS (bS (nextI H3 _ _ _ _ _ rfl D3 (fun _ h=>h) fun _ e=>absurd e c2))
   rw[zzr1 c2];refine cj ?_;refine⟨_,rfl,_,rfl,gR dr.b,(gs++(X++Y)).map gR,f,_,mf _,rfl,.inl (ax.of D3.f),jK _,(by show 0<=8;decide),by rw[dR];decide,_,rfl,?_⟩;rw[if_pos rfl];by_cases c3:dr.b∈gs++(X++Y)
   ·rw[zzr1 (lr.mpr c3)];exact bS (nextI H3 _ _ _ _ _ rfl D3 (fun _ h=>h) fun _ _=>c3)
   rw[zzr0 (fun z=>c3 (lr.mp z))];refine cj ?_;refine⟨_,rfl,.inl ⟨rfl,_,ax.of D3.f⟩,_,rfl,f,_,_,rfl,rfl,D3.f,by rw[ah,aZ];exact gb (by omega),?_⟩;have hedge:(⟨here,av,dr.b⟩:ak)∈ds:=by
    have:dr=⟨here,av,dr.b⟩:=by cases dr;simp only at c1 c2;rw[c1,c2]
    rw[<-this];exact hmem
   refine nextI _ (X++(Y++[dr.b])) _ _ _ _ rfl ⟨?_,?_,?_,?_,?_⟩ ?_ ?_
   ·rw[aa];have:gs++(X++(Y++[dr.b]))=gs++(X++Y)++[dr.b]:=by simp
    rw[this,aq (l₂:=[dr.b])]
    rfl
   ·intro b o q;rw[ai (ae q hf)];exact D3.same _ _ q
   ·rw[<-eG,cR];refine⟨D3.nd,by simp,fun a ha b hb e=>?_⟩;have:b=dr.b:=by simpa using hb
    exact c3 (dJ _ (by rw[<-this,<-e];exact ha))
   ·intro y hy;rw[<-eG]at hy;rcases bw.mp hy with hy|hy
    ·exact D3.new y hy
    ·have:y=dr.b:=by simpa using hy
     rw[this];exact fun z=>c3 (dj _ z)
   ·intro y hy;rw[<-eG]at hy;rcases bw.mp hy with hy|hy
    ·exact D3.sound y hy
    ·have:y=dr.b:=by simpa using hy
     rw[this];exact(hfrom D.sound (bJ hget)).step hedge
   ·intro y hy;rw[<-eG];exact dj _ hy
   ·intro _ _;exact dJ _ (by simp)
  ·rintro σ H2 ⟨X',Y,x4',x5',x6',rfl,rfl,D2,hdone⟩;rw[ah,Paired.length hds,aT]at hdone;refine⟨_,rfl,_,_,rfl,rfl,X++Y,_,_,_,rfl,D2,?_,fun i y hi hy c hc=>?_⟩
   ·rw[<-eG,aZ];omega
   ·by_cases e:i=at_
    ·subst e;rw[<-eG,rk hlt',hget]at hy;have:=eD hy;subst this;exact hdone _ hc rfl rfl
    ·have hi':i<at_:=by omega
     rw[<-eG,rk (by omega)]at hy;have:=hcl i y hi' hy c hc;rw[<-eG];exact dj _ this
 ·have hend:at_=(gs++X).length:=by
   have:¬(at_<(gs++X).length):=fun z=>hlt (zzr1 (by rw[ah];omega));omega
  refine⟨_,rfl,k f (gs++X) H1 D.f (fun w=>⟨fun hw=>?_,fun hw=>?_⟩) (by rw[aZ];omega) hf D.same⟩
  ·rcases bw.mp hw with hw|hw
   ·exact⟨_,hw,.inl rfl⟩
   ·exact D.sound _ hw
  ·have closed:∀y∈gs++X,∀c,(⟨y,av,c⟩:ak)∈ds->c∈gs++X:=fun y hy c hc=>by
    obtain⟨n,hn⟩:=oz hy;exact hcl n y (by rw[hend];exact(bP.mp hn).1) hn c hc
   obtain⟨g,hg,rfl|h⟩:=hw
   ·exact dj _ hg
   ·induction h with
    |one e=>exact closed _ (dj _ hg) _ e
    |step r e ih=>exact closed _ ih _ e

theorem yY{ds:List ak}{a b:Str}(h:¬gP ds [b] a){x y:Str}(r:Reach (ds++[⟨a,av,b⟩]) x y):Reach ds x y∨((x=a∨Reach ds x a)/\(y=b∨Reach ds b y)):=by
 have edge:∀{u v:Str},(⟨u,av,v⟩:ak)∈ds++[⟨a,av,b⟩]->(⟨u,av,v⟩:ak)∈ds∨(u=a/\v=b):=by
  intro u v e;rcases bw.mp e with e|e
  ·exact .inl e
  ·have:(⟨u,av,v⟩:ak)=⟨a,av,b⟩:=by simpa using e
   injection this with h1 h2 h3;exact .inr ⟨h1,h3⟩
 induction r with
 |one e =>
  rcases edge e with e|⟨rfl,rfl⟩
  ·exact .inl (.one e)
  ·exact .inr ⟨.inl rfl,.inl rfl⟩
 |step r e0 ih =>
  rcases edge e0 with e|⟨rfl,rfl⟩
  ·rcases ih with ih|⟨h1,h2⟩
   ·exact .inl (.step ih e)
   ·refine .inr ⟨h1,.inr ?_⟩;rcases h2 with h2|h2
    ·exact .one (by rw[<-h2];exact e)
    ·exact .step h2 e
  ·rcases ih with ih|⟨h1,h2⟩
   ·exact .inr ⟨.inr ih,.inl rfl⟩
   ·exact absurd ⟨_,by simp,h2⟩ h
theorem v9{ds:List ak}{a b:Str}(hn:∀r,¬Reach ds r r)(h:¬gP ds [b] a):∀r,¬Reach (ds++[⟨a,av,b⟩]) r r:=by
 intro r z;have no:¬(a=b∨Reach ds b a):=fun z=>h ⟨b,by simp,z⟩;rcases yY h z with z|⟨h1,h2⟩
 ·exact hn r z
 ·rcases h1 with rfl|h1
  ·exact no h2
  ·rcases h2 with rfl|h2
   ·exact no (.inr h1)
   ·exact no (.inr (h2.trans h1))
theorem aG.putStill{J0 J1 rooms:Zb}{ds:List ak}{a b:Str}(m:aG J0 J1 rooms ds)(ha:a∈rooms)(hb:b∈rooms)(h:¬gP ds [b] a)(hf:ds.length<=699):aG J0 J1 rooms (kN ds ⟨a,av,b⟩):=by
 unfold kN;split
 ·exact m
 ·next hn =>
  refine{ m with nodup:=?_,good:=?_,few:=?_,noround:=v9 m.noround h }
  ·rw[cR];refine⟨m.nodup,by simp,fun x hx y hy e=>?_⟩;have:y=⟨a,av,b⟩:=by simpa using hy
   subst this;exact hn (e▸hx)
  ·intro d hd;rcases bw.mp hd with hd|hd
   ·exact m.good d hd
   ·have:d=⟨a,av,b⟩:=by simpa using hd
    subst this;exact⟨ha,hb,.inr (.inr rfl)⟩
  ·rw[aZ];show ds.length+1<=1000;omega
theorem r9(ds:List ak)(d:ak):(kN ds d).length<=ds.length+1:=by
 unfold kN;split
 ·omega
 ·rw[aZ];exact aA _
def cV(ds:List ak)(sg:Zb)(J5:Zb):List Str:=J5.flatMap fun r=>be ds (r,sg)
theorem t5{ds:List ak}{sg J5:Zb}{i:Nat}{r:Str}(h:J5[i]?=some r):cV ds sg (J5.take (i+1))=cV ds sg (J5.take i)++be ds (r,sg):=by
 unfold cV;rw[take_snoc h,List.flatMap_append];simp
theorem p0(ds:List ak)(x:Str×List Str):(be ds x).length<=ds.length:=by
 unfold be;rw[ah];exact cB _ _
theorem n6(ds:List ak)(sg:Zb):∀J5:List Str,(cV ds sg J5).length<=J5.length * ds.length
 |[]=>eK _
 |r::J5=>by
  show((be ds (r,sg))++cV ds sg J5).length<=(J5.length+1) * ds.length;rw[aZ,im];have h1:=p0 ds (r,sg);have h2:=n6 ds sg J5;omega
theorem nX{ds:List ak}{sg J5:Zb}{b:Str}:b∈cV ds sg J5↔∃r∈J5,(⟨r,sg,b⟩:ak)∈ds:=by
 unfold cV;rw[List.mem_flatMap];constructor
 ·rintro⟨r,hr,h⟩;exact⟨r,hr,dP.mp h⟩
 ·rintro⟨r,hr,h⟩;exact⟨r,hr,dP.mpr h⟩
inductive nM(C:Addr)(vs:List V)(H:Hp)(Q:VK)(E:XK):Prop
 |mk (x t s:Addr) (J5 sg J0 J1 rooms:Zb) (ds:List ak):(vs=[.ref x,.ref t,.ref s])->(aW C H x J0 J1 rooms ds)->(H t=some (.tup (J5.map V.str)))->(H s=some (.tup (sg.map V.str)))->(sg≠b9)->(J5.length<=1000)->(∀(t':Addr) (F:Zb) (H':Hp),H' t'=some (.tup ((rooms.filter fun r=>decide (r∈F)).map V.str))->(∀w,w∈F↔gP ds (cV ds sg J5) w)->ab H H'->Q (.ref t') H')->nM C vs H Q E
theorem v4{K:Za}{C hu:Addr}(hhu:∀H,bA K H hu (b9.map V.str)){sp2:Sp}{vs:List V}{H:Hp}{Q:VK}{E:XK}(h:nM C vs H Q E):
  l_ K (sp_with_still C) C (ia C) hu sp2 (bd Q) (start mh vs) H:=by
 obtain⟨x,t,s,J5,sg,J0,J1,rooms,ds,rfl,M,ht,hs,hne,hz,k⟩:=h;have hdb:∀d∈ds,d.b∈rooms:=fun d hd=>(M.ok.good d hd).b;have z4:=M.ok.few;refine⟨_,rfl,lT sg,lT b9,bt (bA.of hs),bt (hhu _),by rw[bW];decide,by rw[bW];decide,_,rfl,?_⟩;rw[hW,zzr0 hne];refine bS ?_;refine⟨(by show 0<=aj;decide),fun g hg=>?_⟩;refine⟨_,rfl,t,rfl,⟨_,bA.of (kp ht hg)⟩,?_⟩;refine AO (xs:=J5.map V.str) (fun i σ H'=>∃x4:Option V,σ=[some (.ref x),some (.ref t),some (.ref s),some (.ref g),x4]/\H' g=some (.lst ((cV ds sg (J5.take i)).map V.str))/\ab H H')
  ⟨_,rfl,aa,ab.new hg⟩ (fun i σ H' _ ⟨_,_,_,S⟩=>bA.of (S _ _ ht)) ?_ ?_
 ·rintro i y σ H1 hi ⟨x4,rfl,hg1,S1⟩;obtain⟨r,hr,rfl⟩:=bf hi;have M1:=M.same S1;obtain⟨dx,fs,o1,o2,o3,o4,lv,qu,sgA,sl,ts,lps,gps,sps,g1,a1,a2,a3,a4,_⟩:=M1.at_;refine⟨_,rfl,.inl ⟨rfl,_,ax.of hg1⟩,_,rfl,x,dx,fs,rfl,g1,a2,_,rfl,_,rfl,x,s,r,sg,J0,J1,rooms,ds,rfl,M1,S1 _ _ hs,fun l H2 hl fr S2=>?_⟩;have hg2:=S2 _ _ hg1;have hlen:((cV ds sg (J5.take i)).map V.str).length+((be ds (r,sg)).map V.str).length<=aj:=by
   rw[ah,ah];have h1:=n6 ds sg (J5.take i);have h2:=p0 ds (r,sg);have h3:(J5.take i).length * ds.length<=1000 * 1000:=Nat.mul_le_mul (by rw[az];omega) z4;have:(1001000:Nat)<=aj:=by decide
   omega
  refine⟨g,l,_,_,rfl,rfl,hg2,hl,hlen,_,rfl,?_,?_⟩
  ·rw[aa,t5 hr,aq]
  ·intro b o q;rw[ai (ae q hg)];exact S2 _ _ (S1 _ _ q)
 ·rintro σ H1 ⟨x4,rfl,hg1,S1⟩;rw[ah,aT]at hg1;refine⟨_,rfl,_,rfl,x,g,cV ds sg J5,J0,J1,rooms,ds,rfl,M.same S1,hg1,fun w hw=>?_,fun t' F H' h1 h2 S2=>k t' F H' h1 h2 (S1.trans S2)⟩;obtain⟨r,_,h⟩:=nX.mp hw;exact hdb _ h
theorem jJ{ds:List ak}{i:Nat}{d:ak}{p:ak->Bool}(h:ds[i]?=some d):(ds.take (i+1)).filter p=(ds.take i).filter p++(if p d=true then[d]else[]):=by
 rw[take_snoc h,gS];congr 1;by_cases c:p d=true
 ·rw[if_pos c];simp[c]
 ·rw[if_neg c];simp[c]
def vI(K:Za)(sp_with_still:Sp)(C_Machine:Addr)(sp_Machine_rooms:Sp):TS :=
 a_ (aI sp_with_still (aS V0 (Ap (rZ K) (bY C_Machine "rooms" sp_Machine_rooms [] E0 V0 bm) (fC) (gE (tC (.int 1))))))
def wM:List Str:=["M"]
def tw(K:Za)(sp_law_take:Sp)(sp_law_names:Sp):TS :=
 ar (aM V1 (lS K 4 (bI U2 (bI U3 (bI U4 (bI U5 (kS)))))))
 (ar (aM (o0) U6)
 (ar (dZ (FK K (ao V4 (ay (aI sp_law_names (aS V0 (fE (gH K) (ay V4))))))) (lS K 2 (bI U7 (bI U8 (kS)))) (ir V6 V7 V8))
 (ar (aM (b_ 1 [6] (bq K V4) U0 (gV) (fW K V1 V0)) U9)
 (ar (aM (aJ dq (tC (.int 1)) (aI sp_law_take (aS V0 (fE (gH K) (ay V4))))) G3)
 (ar (aM (aJ kb (aJ kb (Ap (rZ K) V9 (fC) (gE (tC (.int 1)))) (Ap (rZ K) V9 (gE Ej) (fC))) (Ap (rZ K) V9 (gE (tC (.int 1))) (gE Ej))) U9)
 (ar (aM (b_ 3 [6] (bq K V5) (lS K 3 (bI U0 (bI U1 (bI U2 (kS))))) (gV) (bo (bX (fW K V3 V0) V1 (fW K V3 V2)))) U5)
 (a_ (bo (ao V2 (bX V3 V9 V5))))))))))
def ub:List Str:=["pen","told","asks","says","rooms","doors","names","room","name","some","at"]
inductive cL(C:Addr)(vs:List V)(H:Hp)(Q:VK)(E:XK):Prop
 |mk (x:Addr) (J0 J1 rooms:Zb) (ds:List ak):(vs=[.ref x])->(aW C H x J0 J1 rooms ds)->(∀(t':Addr) (F:Zb) (H':Hp),H' t'=some (.tup ((rooms.filter fun r=>decide (r∈F)).map V.str))->(∀w,w∈F↔gP ds (rooms.take 1) w)->ab H H'->Q (.ref t') H')->cL C vs H Q E
theorem tV{K:Za}{C:Addr}{vs:List V}{H:Hp}{Q:VK}{E:XK}(h:cL C vs H Q E):vI K (sp_with_still C) C (jd C) (bd Q) (start wM vs) H:=by
 obtain⟨x,J0,J1,rooms,ds,rfl,M,k⟩:=h;obtain⟨dx,fs,o1,o2,o3,o4,lv,qu,sgA,sl,ts,lps,gps,sps,g1,a1,a2,a3,a4,_⟩:=M.at_;have c1:gL (rooms.map V.str) none (some 1)=(rooms.take 1).map V.str:=qM rooms 1;refine⟨_,rfl,_,rfl,x,dx,fs,rfl,g1,a4,x,J0,J1,rooms,ds,rfl,M,fun rl hrl=>⟨_,rfl,rl,_,rfl,ax.of aa,fun l hl=>?_⟩⟩;rw[c1];have S:ab H (upd (upd H rl (.lst (rooms.map V.str))) l (.lst ((rooms.take 1).map V.str))):=(ab.new hrl).trans (ab.new hl);exact⟨x,l,rooms.take 1,J0,J1,rooms,ds,rfl,M.same S,aa,fun g hg=>f6 hg,fun t' F H' h1 h2 S2=>k t' F H' h1 h2 (S.trans S2)⟩
theorem DG{K:Za}{a b:Addr}{xs ys:List V}{g:TG}{tb:TS}{D:qz}{σ:L2.St}{H:Hp}(hxy:xs.length=ys.length)(Pv:Nat->L2.St->Hp->Prop)(h0:Pv 0 σ H)(hl:∀i σ H,i<=xs.length->Pv i σ H->ax K H a xs/\ax K H b ys)
  (hs:∀i x y σ H p,xs[i]?=some x->ys[i]?=some y->Pv i σ H->H p=none->g (.ref p) σ (upd H p (.tup [x,y])) fun σ2 H2=>tb { D with nx:=Pv (i+1),ct:=Pv (i+1),bk:=D.nx } σ2 H2) (hd:∀σ H,Pv xs.length σ H->D.nx σ H) :
  ∃W:Nat->Nat->L2.St->Hp->Prop,(∃m,W 0 m σ H)/\∀i m σ H,W i m σ H ->
   ((G7 K a b).stop i H/\D.nx σ H)∨((G7 K a b).go i H/\∃N:L2.St->Hp->Prop,(∀σ' H',N σ' H'->∃m',m'<m/\W (i+1) m' σ' H')/\∀x H',(G7 K a b).yld i H x H'->g x σ H' fun σ2 H2=>tb { D with nx:=N,ct:=N,bk:=D.nx } σ2 H2):=by
 refine⟨fun i m σ H=>m=xs.length-i/\i<=xs.length/\Pv i σ H,⟨xs.length,by simp,eK _,h0⟩,?_⟩;rintro i m σ H ⟨rfl,hi,p⟩;obtain⟨q1,q2⟩:=hl i σ H hi p;by_cases hlt:i<xs.length
 ·have hlt2:i<ys.length:=by omega
  refine .inr ⟨⟨xs,ys,xs[i],ys[i],q1,q2,by simp[hlt],by simp[hlt2]⟩,Pv (i+1),fun σ' H' p'=>⟨xs.length-(i+1),by omega,rfl,hlt,p'⟩,fun x H' y=>?_⟩;obtain⟨t,u,v,rfl,hn,hu,hv,rfl⟩:=y;exact hs i u v σ H t (hu xs q1) (hv ys q2) p hn
 ·have e:i=xs.length:=by omega
  subst e;exact .inl ⟨⟨xs,ys,q1,q2,.inl (aA _)⟩,hd σ H p⟩
def Ci(ps:List (Str×Str)):List (em×V):=ps.map fun x=>(.inr x.1,.str x.2)
def Eh:List (Str×Str)->Str->Str
 |[],r=>r
 | (a,b)::ps,r=>if a=r then b else Eh ps r
theorem AE{r:Str}:∀{ps:List (Str×Str)},r∈ps.map (·.1)->aU (Ci ps) (.inr r:em)=some (.str (Eh ps r))
 |[],h=>by cases h
 | (a,b)::ps,h=>by
  unfold Ci aU Eh;rw[bj,kB];by_cases c:a=r
  ·rw[if_pos c,zzr1 (by rw[c])]
   rfl
  ·rw[if_neg c,zzr0 (fun z=>c (by injection z))];have:r∈ps.map (·.1):=by
    rcases cA.mp h with z|z
    ·exact absurd z.symm c
    ·exact z
   exact AE this
theorem xH{r:Str}:∀{ps:List (Str×Str)},r∉ps.map (·.1)->aU (Ci ps) (.inr r:em)=none
 |[],_=>rfl
 | (a,b)::ps,h=>by
  unfold Ci aU;rw[bj,kB,zzr0 (fun z=>h (by injection z with z;rw[bj];exact cA.mpr (.inl z.symm)))];exact xH fun z=>h (by rw[bj];exact fq _ z)
theorem Dl{ps:List (Str×Str)}{r w:Str}(h:r∉ps.map (·.1)):cH (Ci ps) (.inr r) (.str w)=Ci (ps++[(r,w)]):=by
 rw[gJ _ (xH h)];unfold Ci;rw[aq]
 rfl
theorem vw:∀{rs ws:Zb},ws.length=rs.length->(rs.zip ws).map (·.1)=rs
 |[],_,_=>by simp
 |_::_,[],h=>by cases h
 |r::rs,w::ws,h=>by
  rw[List.zip_cons_cons,bj,vw (by simpa using h)]
theorem Aq:∀{rs ws:Zb},rs.Nodup->ws.length=rs.length->rs.map (Eh (rs.zip ws))=ws
 |[],[],_,_=>rfl
 |[],_::_,_,h=>by cases h
 |_::_,[],_,h=>by cases h
 |r::rs,w::ws,nd,h=>by
  rw[List.zip_cons_cons,bj];have nd':=kD.mp nd;have e1:Eh ((r,w)::rs.zip ws) r=w:=by unfold Eh;rw[if_pos rfl]
  have e2:rs.map (Eh ((r,w)::rs.zip ws))=rs.map (Eh (rs.zip ws)):=by
   refine List.map_congr_left fun x hx=>?_;show(if r=x then w else Eh (rs.zip ws) x)=_
   rw[if_neg (fun z=>nd'.1 (by rw[z];exact hx))]
  rw[e1,e2,Aq nd'.2 (by simpa using h)]
def tR(f:Str->Str)(d:ak):ak:=⟨f d.a,d.sg,f d.b⟩
theorem Gj{rooms ws:Zb}{f:Str->Str}(hf:rooms.map f=ws)(nd:ws.Nodup){a b:Str}(ha:a∈rooms)(hb:b∈rooms)(e:f a=f b):a=b:=by
 obtain⟨i,hi⟩:=oz ha;obtain⟨j,hj⟩:=oz hb;have h1:ws[i]?=some (f a):=by rw[<-hf,cS,hi];rfl
 have h2:ws[j]?=some (f a):=by rw[<-hf,cS,hj,e];rfl
 have:=qI nd h1 h2;subst this;rw[hi]at hj;exact eD hj
theorem Bn{rooms:Zb}{f:Str->Str}{ds:List ak}(inj:∀a∈rooms,∀b∈rooms,f a=f b->a=b)(hin:∀d∈ds,d.a∈rooms/\d.b∈rooms){x y:Str}(h:Reach (ds.map (tR f)) x y):
  ∃a∈rooms,∃b∈rooms,x=f a/\y=f b/\Reach ds a b:=by
 have edge:∀{u v:Str},(⟨u,av,v⟩:ak)∈ds.map (tR f)->∃a b,(⟨a,av,b⟩:ak)∈ds/\u=f a/\v=f b:=by
  intro u v e;obtain⟨⟨a,s,b⟩,hd,e⟩:=aL.mp e;unfold tR at e;injection e with e1 e2 e3;simp only at e2;subst e2;exact⟨a,b,hd,e1.symm,e3.symm⟩
 induction h with
 |one e =>
  obtain⟨a,b,hd,rfl,rfl⟩:=edge e;exact⟨a,(hin _ hd).1,b,(hin _ hd).2,rfl,rfl,.one hd⟩
 |step r e ih =>
  obtain⟨a,ha,b,hb,e1,e2,hr⟩:=ih;obtain⟨a',b',hd,e3,rfl⟩:=edge e;have:b=a':=inj b hb a' (hin _ hd).1 (e2.symm.trans e3);subst this;exact⟨a,ha,b',(hin _ hd).2,e1,rfl,.step hr hd⟩
theorem aG.renamed{J0 J1 rooms ws rooms':Zb}{ds:List ak}{f:Str->Str}(m:aG J0 J1 rooms ds)(okw:jN ws)(hf:rooms.map f=ws)(hp:rooms'.Perm ws):aG J0 J1 rooms' (ds.map (tR f)):=by
 have hlen:rooms'.length=rooms.length:=by rw[hp.length_eq,<-hf,ah]
 have inj:∀a∈rooms,∀b∈rooms,f a=f b->a=b:=fun a ha b hb e=>Gj hf okw.1 ha hb e;have hin:∀d∈ds,d.a∈rooms/\d.b∈rooms:=fun d hd=>⟨(m.good d hd).a,(m.good d hd).b⟩;have hmem:∀a∈rooms,f a∈rooms':=fun a ha=>hp.mem_iff.mpr (by rw[<-hf];exact oA ha);refine{ m with okR:=⟨hp.nodup_iff.mpr okw.1,fun w hw=>okw.2 w (hp.mem_iff.mp hw)⟩,rooms0:=?_,rooms26:=by rw[hlen];exact m.rooms26,nodup:=?_,good:=?_,few:=by rw[ah];exact m.few,noround:=?_ }
 ·intro z;rw[z]at hlen;exact m.rooms0 (List.eq_nil_of_length_eq_zero hlen.symm)
 ·refine List.Pairwise.map _ ?_ (List.Pairwise.and_mem.mp m.nodup);rintro⟨a,s,b⟩ ⟨a',s',b'⟩ ⟨h1,h2,hne⟩ e;unfold tR at e;injection e with e1 e2 e3;simp only at e1 e2 e3;refine hne ?_;rw[inj a (hin _ h1).1 a' (hin _ h2).1 e1,e2,inj b (hin _ h1).2 b' (hin _ h2).2 e3]
 ·intro d hd;obtain⟨d0,hd0,rfl⟩:=aL.mp hd;exact⟨hmem _ (hin _ hd0).1,hmem _ (hin _ hd0).2,(m.good d0 hd0).sg⟩
 ·intro r z;obtain⟨a,ha,b,hb,e1,e2,hr⟩:=Bn inj hin z;have:=inj a ha b hb (e1.symm.trans e2);subst this;exact m.noround a hr
theorem BW(ws:Zb){j k:Nat}(hj:j<=k)(hk:k<=ws.length):gL (ws.map V.str) (some (j:Int)) (some (k:Int))=((ws.drop j).take (k-j)).map V.str:=by
 unfold gL;rw[HT.sIx_nat,HT.sIx_nat,ah,qT hk,qT (aD hj hk),qU,uZ]
theorem wX(ws:Zb)(n:Nat):(ws.take 1++ws.drop (1+n)++(ws.drop 1).take (1+n-1)).Perm ws:=by
 have e:ws.drop (1+n)=(ws.drop 1).drop n:=by rw[List.drop_drop]
 have e2:1+n-1=n:=by omega
 rw[e,e2,eG];have h:ws=ws.take 1++((ws.drop 1).take n++(ws.drop 1).drop n):=by rw[uW,uW]
 exact(List.Perm.append_left _ List.perm_append_comm).trans (by rw[<-h])
theorem qJ(o:Str)(L:Zb):decide (gR o∈L.map gR)=decide (o∈L):=by
 by_cases c:o∈L
 ·rw[zzr1 (lr.mpr c),zzr1 c]
 ·rw[zzr0 (fun z=>c (lr.mp z)),zzr0 c]
theorem bA.same{K:Za}{H H':Hp}{a:Addr}{xs:List V}(S:ab H H')(h:bA K H a xs):bA K H' a xs:=by
 rcases h with(h|⟨o,h⟩)|h
 ·exact .inl (.inl (S _ _ h))
 ·exact .inl (.inr ⟨o,S _ _ h⟩)
 ·exact .inr h
theorem ax.same{K:Za}{H H':Hp}{a:Addr}{xs:List V}(S:ab H H')(h:ax K H a xs):ax K H' a xs:=by
 rcases h with(h|⟨o,h⟩)|h
 ·exact .inl (.inl (S _ _ h))
 ·exact .inl (.inr ⟨o,S _ _ h⟩)
 ·exact .inr h
mutual
theorem ni.same{K:Za}{H H':Hp}(S:ab H H'):∀{d:DT}{v:V},ni K H d v->ni K H' d v
 |.k a,v,h=>by unfold ni at h ⊢;exact h
 |.t l,v,h=>by
  unfold ni at h ⊢;obtain⟨b,xs,e,q,r⟩:=h;exact⟨b,xs,e,bA.same S q,DIns.same S r⟩
 |.s l,v,h=>by
  unfold ni at h ⊢;obtain⟨b,xs,e,q,r⟩:=h;exact⟨b,xs,e,ax.same S q,DIns.same S r⟩
theorem DIns.same{K:Za}{H H':Hp}(S:ab H H'):∀{ds:List DT}{vs:List V},DIns K H ds vs->DIns K H' ds vs
 |[],vs,h=>by unfold DIns at h ⊢;exact h
 |d::ds,vs,h=>by
  unfold DIns at h ⊢;obtain⟨v,us,e,q,r⟩:=h;exact⟨v,us,e,ni.same S q,DIns.same S r⟩
end
open Classical in
def closF(rooms:Zb)(ds:List ak)(gs:Zb):List Str:=rooms.filter fun r=>decide (gP ds gs r)
open Classical in
theorem kZ{rooms F gs:Zb}{ds:List ak}(hF:∀w,w∈F↔gP ds gs w):rooms.filter (fun r=>decide (r∈F))=closF rooms ds gs:=by
 unfold closF;refine List.filter_congr fun r _=>?_;by_cases c:r∈F
 ·rw[zzr1 c,zzr1 ((hF r).mp c)]
 ·rw[zzr0 c,zzr0 fun z=>c ((hF r).mpr z)]
open Classical in
theorem xX{rooms gs gs':Zb}{ds:List ak}(h:∀g,g∈gs↔g∈gs'):closF rooms ds gs=closF rooms ds gs':=by
 have:∀r,gP ds gs r↔gP ds gs' r:=fun r=>⟨fun⟨g,hg,e⟩=>⟨g,(h g).mp hg,e⟩,fun⟨g,hg,e⟩=>⟨g,(h g).mpr hg,e⟩⟩;unfold closF;refine List.filter_congr fun r _=>?_;by_cases c:gP ds gs r
 ·rw[zzr1 c,zzr1 ((this r).mp c)]
 ·rw[zzr0 c,zzr0 fun z=>c ((this r).mpr z)]
theorem lH{rooms gs:Zb}{ds:List ak}:∀r∈closF rooms ds gs,r∈rooms:=fun r h=>(fg.mp h).1
theorem gh{rooms gs:Zb}{ds:List ak}:(closF rooms ds gs).length<=rooms.length:=cB _ _
def behF(rooms:Zb)(ds:List ak)(J5 sg:Zb):List Str:=if sg=b9 then J5.filter (fun r=>decide (r∉fO ds))else closF rooms ds (cV ds sg J5)
theorem sS{rooms J5 sg:Zb}{ds:List ak}(hf:∀r∈J5,r∈rooms):∀r∈behF rooms ds J5 sg,r∈rooms:=by
 intro r h;unfold behF at h;split at h
 ·exact hf r (fg.mp h).1
 ·exact lH r h
theorem jq{rooms J5 sg:Zb}{ds:List ak}(hr:rooms.length<=1000)(hf:J5.length<=1000):(behF rooms ds J5 sg).length<=1000:=by
 unfold behF;split
 ·exact aD (cB _ _) hf
 ·exact aD gh hr
theorem C7{rooms:Zb}{ds:List ak}{fc:Zb}(hfc:∀r∈fc,r∈rooms):(fc.filter fun r=>decide (r∈rooms.filter (fI ds)))=fc.filter fun r=>decide (r∉fO ds):=by
 refine List.filter_congr fun r hr=>?_;rw[<-zb];cases q:fI ds r with
 |true=>exact zzr1 (fg.mpr ⟨hfc r hr,q⟩)
 |false=>exact zzr0 (fun z=>by rw[(fg.mp z).2]at q;cases q)
inductive qE(K:Za)(C:Addr)(vs:List V)(H:Hp)(Q:VK)(E:XK):Prop
 |mk (x t s:Addr) (J5 sg J0 J1 rooms:Zb) (ds:List ak):(vs=[.ref x,.ref t,.ref s])->(aW C H x J0 J1 rooms ds)->(H t=some (.tup (J5.map V.str)))->(bA K H s (sg.map V.str))->((sg=b9∨H s=some (.tup (sg.map V.str))))->((∀r∈J5,r∈rooms))->(J5.length<=1000)->(∀(t':Addr) (H':Hp),H' t'=some (.tup ((behF rooms ds J5 sg).map V.str))->ab H H'->Q (.ref t') H')->qE K C vs H Q E
theorem EJ{K:Za}{C hu:Addr}(hhu:∀H,bA K H hu (b9.map V.str)){vs:List V}{H:Hp}{Q:VK}{E:XK}(h:qE K C vs H Q E):
  l_ K (sp_with_still C) C (ia C) hu (iI C) (bd Q) (start mh vs) H:=by
 obtain⟨x,t,s,J5,sg,J0,J1,rooms,ds,rfl,M,ht,hs,hor,hsub,hz,k⟩:=h;by_cases hh:sg=b9;rotate_left
 ·refine v4 (E:=E) hhu ⟨x,t,s,J5,sg,J0,J1,rooms,ds,rfl,M,ht,hor.resolve_left hh,hh,hz,fun t' F H' h1 hF S=>k t' H' ?_ S⟩;rw[h1,kZ hF];unfold behF;rw[if_neg hh]
 subst hh;refine⟨_,rfl,lT b9,lT b9,bt hs,bt (hhu _),by rw[bW];decide,by rw[bW];decide,_,rfl,?_⟩;rw[zzr1 rfl];refine cj ?_;refine⟨_,rfl,t,rfl,⟨_,bA.of ht⟩,fun f hf=>?_⟩;refine xU (xs:=J5.map V.str) (fun i vs H'=>vs=((J5.take i).filter fun r=>decide (r∈rooms.filter (fI ds))).map V.str/\ab H H'/\H' f=some (.lst vs)) ⟨rfl,ab.new hf,aa⟩ (fun i vs H' _ ⟨_,S,h'⟩=>⟨h',bA.of (S _ _ ht)⟩) ?_ ?_
 ·rintro vs H' ⟨rfl,S,f'⟩;rw[ah,aT]at f';refine⟨f,_,rfl,.inl ⟨ax.of f',fun t' ht'=>k t' _ ?_ (S.trans (ab.new ht'))⟩⟩;rw[aa,C7 hsub];unfold behF;rw[if_pos rfl]
 ·rintro i vs H' x' hx' hi ⟨rfl,S,f'⟩;obtain⟨r,hr,rfl⟩:=bf hx';have M':=M.same S;obtain⟨dx,fs,o1,o2,o3,o4,lv,qu,sgA,sl,ts,lps,gps,sps,g1,a1,_⟩:=M'.at_;refine gN ?_;refine⟨_,rfl,x,dx,fs,rfl,g1,a1,_,rfl,x,r,J0,J1,rooms,ds,rfl,M',_,rfl,?_⟩;have hlen:(((J5.take i).filter fun r=>decide (r∈rooms.filter (fI ds))).map V.str).length<aj:=by
   rw[ah];refine am (aD (cB _ _) ?_);rw[az];omega
  refine hU (fun hq=>?_) (fun hq=>?_)
  ·refine⟨_,rfl,f',hlen,ke hi ⟨?_,?_,aa⟩⟩
   ·rw[bU hr,if_pos hq,aq];rfl
   ·intro b o q;rw[ai (ae q hf)];exact S _ _ q
  ·refine ke hi ⟨?_,S,f'⟩;rw[bU hr,if_neg hq,dD]
theorem sL(ds:List ak):DT.depths (ds.map wt)<=2:=by
 induction ds with
 |nil=>exact eK _
 |cons x xs ih=>rw[bj];show max (DT.depth (wt x)) (DT.depths _)<=2;rw[wr];omega
theorem uv{J0 J1 rooms:Zb}{dr:ak}(g:yv J0 J1 rooms dr):∃s0 rest,dr.sg=s0::rest/\(!decide (V.str s0=V.str ("ask":Str)))=!kQ dr:=by
 obtain⟨s0,rest,hsg⟩:∃s0 rest,dr.sg=s0::rest:=by
  rcases g.sg with⟨w,_,e⟩|⟨w,_,e⟩|e<;>exact⟨_,_,e⟩
 refine⟨s0,rest,hsg,?_⟩;unfold kQ;rw[hsg];congr 1;show _=decide (s0=("ask":Str));by_cases c:s0=("ask":Str)
 ·rw[zzr1 c,zzr1 (by rw[c])]
 ·rw[zzr0 c,zzr0 (fun z=>c (by injection z))]
inductive rT(K:Za)(vs:List V)(H:Hp)(Q:VK)(E:XK):Prop
 |mk (t ft s l1 l2 l3 l4:Addr) (ts:Ze) (J0 J1 rooms J5 sg:Zb) (ds:List ak):(vs=[.ref t,.ref ft,.ref s])->(fT H t l1 l2 l3 l4 ts J0 J1 rooms ds)->(aG J0 J1 rooms ds)->(H ft=some (.tup (J5.map V.str)))->(bA K H s (sg.map V.str))->(J5.length<=1000)->(∀(t':Addr) (H':Hp),H' t'=some (.tup ((behF rooms ds J5 sg).map V.str))->ab H H'->Q (.ref t') H')->rT K vs H Q E
abbrev jM(H:Hp)(us:Ze)(L:List (List Str)):Prop:=Paired (SignAt H) us L
theorem jM.kt{H H':Hp}{us:Ze}{L:List (List Str)}(k:iB H H')(h:jM H us L):jM H' us L:=Paired.mapP h fun _ _ r=>k _ _ r
def bR(J0 J1:Zb):List (List Str):=J0.map bE++J1.map fH++[b9]
theorem jL{K:Za}{σ:L2.St}{H:Hp}{a l:Addr}{ws:Zb}{kd:Str}{Q:Hp->Prop}(ha:H a=some (.lst (ws.map V.str)))(hz:ws.length<=1000)(hl:H l=none)
  (k:∀(us:Ze) (H':Hp),H' l=some (.lst (us.map V.ref))->jM H' us (ws.map fun w=>[kd,w])->ab H H'->Q H') :
  dU 1 [] σ (Ee K a) U0 gV (bo (aS (tC (.str kd)) V0)) H l Q:=by
 refine bh (xs:=ws.map V.str) (fun i vs H'=>∃us:List Addr,vs=us.map V.ref/\ab H H'/\H' l=some (.lst vs)/\jM H' us ((ws.take i).map fun w=>[kd,w])) ⟨[],rfl,ab.new hl,aa,.nil⟩ (fun i vs H' _ ⟨_,_,S,h',_⟩=>⟨h',ax.of (S _ _ ha)⟩) ?_ ?_
 ·rintro vs H' ⟨us,rfl,S,h',hP⟩;rw[ah,aT]at hP;exact k us H' h' hP S
 ·rintro i vs H' x' hx' hi ⟨us,rfl,S,f',hP⟩;obtain⟨w,hw,rfl⟩:=bf hx';refine gN (lK ?_);refine⟨_,rfl,(by show 2<=aj;decide),fun u hu=>⟨kp f' hu,?_,ke hi ⟨us++[u],by rw[aq];rfl,?_,aa,?_⟩⟩⟩
  ·rw[ah,Paired.length hP,ah,az];exact am (by omega)
  ·intro b o q;rw[ai (ae q hl)];exact kp (S _ _ q) hu
  ·rw[take_snoc hw,aq];have hk:iB H' (upd (upd H' u (.tup [.str kd,.str w])) l (.lst (us.map V.ref++[.ref u]))):=(ab.kt (ab.new hu)).trans (fP (kp f' hu));exact f8 (jM.kt hk hP) ((fP (kp f' hu)) _ _ aa)
def rD(K:Za):TS :=
 a_ (fE (da K) (ay (eN K V0 "own_asks")))
def sY:List Str:=["self"]
def rC(K:Za):TS :=
 a_ (fE (da K) (ay (eN K V0 "own_says")))
def sX:List Str:=["self"]
theorem rS{C x:Addr}{H:Hp}{J0 J1 rooms:Zb}{ds:List ak}(h:aW C H x J0 J1 rooms ds):∃(dx:Addr) (fs:List (Str×V)) (o1 o2 lv:Addr) (lps:List (Str×Addr)),H x=some (.ins C dx fs)/\lk "asks" fs=none/\lk "says" fs=none/\lk "doors_from" fs=none/\lk "is_quiet" fs=none/\lk "own_asks" fs=some (.ref o1)/\lk "own_says" fs=some (.ref o2)/\lk "leaving" fs=some (.ref lv) /\
  H o1=some (.lst (J0.map V.str))/\H o2=some (.lst (J1.map V.str))/\lps.map (·.1)=rooms/\H lv=some (.dK (de Sum.inr lps))/\(∀x∈lps,∃us,H x.2=some (.lst (us.map V.ref))/\cn H us (b0 ds x.1)):=by
 obtain⟨dx,fs,o1,o2,o3,o4,lv,qu,sg,sl,ts,lps,gps,sps,g1,a1,a2,a3,a4,b1,b2,b3,b4,b5,b6,b7,b8,L,c1,c2,c3,c4,G,d1,d2,d3⟩:=h.at_;obtain⟨dx',fs',g1',e1,e2,e3,e4⟩:=h.more;rw[g1]at g1';cases g1';exact⟨dx,fs,o1,o2,lv,lps,g1,e1,e2,e4,a1,b1,b2,b5,L.a1,L.a2,c1,c2,c3⟩
inductive ln(C:Addr)(vs:List V)(H:Hp)(Q:VK)(E:XK):Prop
 |mk (x:Addr) (J0 J1 rooms:Zb) (ds:List ak):(vs=[.ref x])->(aW C H x J0 J1 rooms ds)->(∀l,H l=none->Q (.ref l) (upd H l (.lst (J0.map V.str))))->ln C vs H Q E
theorem EL{K:Za}{C:Addr}(M:MC K C){vs:List V}{H:Hp}{Q:VK}{E:XK}(h:ln C vs H Q E):rD K (bd Q) (start sY vs) H:=by
 obtain⟨x,J0,J1,rooms,ds,rfl,h,k⟩:=h;obtain⟨dx,fs,o1,o2,lv,lps,g1,a1,a2,a3,a4,b1,b2,b3,c1,c2,_⟩:=rS h;exact⟨_,rfl,x,C,dx,fs,.ref o1,rfl,g1,M.cls,M.a1,b1,.inl ⟨o1,_,rfl,.inl (ax.of c1),k⟩⟩
inductive lb(C:Addr)(vs:List V)(H:Hp)(Q:VK)(E:XK):Prop
 |mk (x:Addr) (J0 J1 rooms:Zb) (ds:List ak):(vs=[.ref x])->(aW C H x J0 J1 rooms ds)->(∀l,H l=none->Q (.ref l) (upd H l (.lst (J1.map V.str))))->lb C vs H Q E
theorem EF{K:Za}{C:Addr}(M:MC K C){vs:List V}{H:Hp}{Q:VK}{E:XK}(h:lb C vs H Q E):rC K (bd Q) (start sX vs) H:=by
 obtain⟨x,J0,J1,rooms,ds,rfl,h,k⟩:=h;obtain⟨dx,fs,o1,o2,lv,lps,g1,a1,a2,a3,a4,b1,b2,b3,c1,c2,_⟩:=rS h;exact⟨_,rfl,x,C,dx,fs,.ref o2,rfl,g1,M.cls,M.a2,b2,.inl ⟨o2,_,rfl,.inl (ax.of c2),k⟩⟩
inductive c_ (vs:List V)(H:Hp)(Q:VK)(E:XK):Prop
 |mk (l3 l4:Addr) (ts:Ze) (rooms:Zb) (ds:List ak):(vs=[.ref l3,.ref l4])->(H l3=some (.lst (rooms.map V.str)))->(H l4=some (.lst (ts.map V.ref)))->(cn H ts ds)->(rooms.Nodup)->(rooms.length<=1000)->(ds.length<=9000)->((∀d∈ds,d.a∈rooms))->(∀(d:Addr) (ps:List (Str×Addr)) (H':Hp),ps.map (·.1)=rooms->H' d=some (.dK (de Sum.inr ps))->(∀x∈ps,∃us,H' x.2=some (.lst (us.map V.ref))/\cn H' us (b0 ds x.1))->ab H H'->(∀x∈ps,H x.2=none)->Q (.ref d) H')->c_  vs H Q E
theorem mK{K:Za}{vs:List V}{H:Hp}{Q:VK}{E:XK}(h:c_ vs H Q E):oT K (bd Q) (start pB vs) H:=by
 obtain⟨l3,l4,ts,rooms,ds,rfl,h3,h4,hds,nod,hz,hz2,hin,k⟩:=h;refine fun d hd=>?_;refine⟨_,rfl,l3,rfl,⟨_,ax.of (kp h3 hd)⟩,?_⟩;refine bD (xs:=rooms.map V.str) (fun i σ H'=>∃x y,σ=[some (.ref l3),some (.ref l4),some (.ref d),x,y]/\∃ps:List (Str×Addr),ps.map (·.1)=rooms.take i/\H' d=some (.dK (de Sum.inr ps))/\DL H H' d ps/\∀x∈ps,H' x.2=some (.lst []))
  ⟨_,_,rfl,[],rfl,aa,⟨by simp,by simp,by simp,hd,by simp,ab.new hd⟩,by simp⟩ (fun i σ H' _ ⟨_,_,_,_,_,_,D,_⟩=>ax.of (D.same _ _ h3)) ?_ ?_
 ·rintro i x σ H' hi ⟨x3,x4,rfl,ps,hps,hd',D,hls⟩;obtain⟨w,hw,rfl⟩:=bf hi;have hnew:w∉ps.map (·.1):=by
   rw[hps];intro z;have:=nod;rw[<-uW (i+1) rooms,take_snoc hw,cR]at this;have:=this.1;rw[cR]at this;exact this.2.2 w z w (by simp) rfl
  refine⟨(by show 0<=aj;decide),fun a ha=>?_⟩;have hlen:(de (Sum.inr:Str->em) ps).length<aj:=am (by
   unfold de;rw[ah,<-ah (f:=(·.1)) (as:=ps),hps,az];omega)
  have haH:H a=none:=D.same.free ha;have nda:a≠d:=(ae hd' ha).symm;have hneA:∀x∈ps,x.2≠a:=fun x hx=>ae (hls x hx) ha;refine⟨_,rfl,_,rfl,d,_,rfl,.inl ⟨_,.inr w,kp hd' ha,rfl,hlen,rfl⟩,_,_,rfl,ps++[(w,a)],?_,?_,?_,?_⟩
  ·rw[aq,hps,take_snoc hw];rfl
  ·rw[aa,gJ _ (lz iL hnew),uA]
  ·refine D.snoc hnew hneA haH nda ?_;intro b o q;rw[ai (ae q hd)];exact kp (D.same _ _ q) ha
  ·intro x hx;rcases bw.mp hx with hx|hx
   ·rw[ai (D.ned x hx)];exact kp (hls x hx) ha
   ·have:x=(w,a):=by simpa using hx
    rw[this,ai nda];exact aa
 ·rintro σ H1 ⟨x3,x4,rfl,ps,hps,hd1,D1,hls⟩;rw[ah,aT]at hps;refine⟨_,rfl,l4,rfl,⟨_,ax.of (D1.same _ _ h4)⟩,?_⟩;refine bD (xs:=ts.map V.ref) (fun i σ H'=>∃x4,σ=[some (.ref l3),some (.ref l4),some (.ref d),x3,x4]/\H' d=some (.dK (de Sum.inr ps))/\DL H H' d ps/\∀x∈ps,∃us,H' x.2=some (.lst (us.map V.ref))/\cn H' us (b0 (ds.take i) x.1))
   ⟨_,rfl,hd1,D1,fun x hx=>⟨[],hls x hx,.nil⟩⟩ (fun i σ H' _ ⟨_,_,_,D,_⟩=>ax.of (D.same _ _ h4)) ?_ ?_
  ·rintro i x σ H' hi ⟨x4,rfl,hd',D,hls⟩;obtain⟨t,ht,rfl⟩:=bQ hi;obtain⟨dr,hdr,hat⟩:=Paired.getL hds ht;have hat':=hat.kt (ab.kt D.same);have hat2:=hat';obtain⟨s,ht2,hs2⟩:=hat';have hmem:dr.a∈ps.map (·.1):=by rw[hps];exact hin dr (bJ hdr)
   obtain⟨⟨r,a⟩,hra,er⟩:=aL.mp hmem;obtain rfl:r=dr.a:=er;obtain⟨us,hus,hdo⟩:=hls _ hra;have hil:i<ds.length:=(bP.mp hdr).1;have hlu:us.length<=9000:=by
    rw[Paired.length hdo];refine aD (cB _ _) ?_;rw[az];omega
   have KT:iB H' (upd H' a (.lst (us.map V.ref++[.ref t]))):=fP hus;refine⟨_,rfl,_,rfl,.inr (.inl ⟨t,_,0,_,rfl,rfl,bA.of ht2,rfl,d,.ref a,rfl,.inl ⟨_,.inr dr.a,.inl hd',rfl,(ef iL D.nd hra).symm⟩,.inl ⟨rfl,_,ax.of hus⟩,_,rfl,a,_,_,rfl,rfl,hus,?_,_,rfl,?_,?_,?_⟩)⟩
   ·rw[ah];exact gb hlu
   ·rw[ai (D.ned _ hra).symm];exact hd'
   ·refine⟨D.nd,D.na,D.fr,D.frd,D.ned,fun b o q=>?_⟩;rw[ai (ae q (D.fr _ hra))];exact D.same _ _ q
   ·intro x hx;have hfl:∀r',b0 (ds.take (i+1)) r'=b0 (ds.take i) r'++(if dr.a=r' then[dr]else[]):=by
     intro r';unfold b0;rw[take_snoc hdr,gS];congr 1;by_cases c:dr.a=r'
     ·rw[if_pos c];simp[c]
     ·rw[if_neg c];simp[c]
    by_cases c:x.2=a
    ·have ex:=Dp D.na hx hra c;subst ex;refine⟨us++[t],?_,?_⟩
     ·show upd H' a _ a=_;rw[aa,aq];rfl
     ·rw[hfl];show cn _ _ (b0 (ds.take i) dr.a++(if dr.a=dr.a then[dr]else[]))
      rw[if_pos rfl];exact Paired.app (hdo.kt KT) (.cons (hat2.kt KT) .nil)
    ·obtain⟨us',h1,h2⟩:=hls x hx;have hne:¬(dr.a=x.1):=fun z=>by
      have e1:=ef (e:=(Sum.inr:Str->em)) iL D.nd hra;have e2:=ef (e:=(Sum.inr:Str->em)) (i:=x.1) (a:=x.2) iL D.nd hx;rw[<-z,e1]at e2;injection e2 with e2;injection e2 with e2;exact c e2.symm
     refine⟨us',by rw[ai c];exact h1,?_⟩;rw[hfl,if_neg hne,dD];exact h2.kt KT
  ·rintro σ H' ⟨x4,rfl,hd',D,hls⟩;rw[ah,Paired.length hds,aT]at hls;exact⟨_,rfl,k d ps H' hps hd' hls D.same D.fr⟩
inductive lh (vs:List V)(H:Hp)(Q:VK)(E:XK):Prop
 |mk (l4:Addr) (ts:Ze) (ds:List ak):(vs=[.ref l4])->(H l4=some (.lst (ts.map V.ref)))->(cn H ts ds)->(ds.length<=9000)->(∀(g:Addr) (ps:List ((Str×List Str)×Addr)) (H':Hp),jP H' g ps ds->ab H H'->(∀x∈ps,H x.2=none)->Q (.ref g) H')->lh  vs H Q E
theorem Bz{K:Za}{vs:List V}{H:Hp}{Q:VK}{E:XK}(h:lh vs H Q E):iC K (bd Q) (start iD vs) H:=by
 obtain⟨l4,ts,ds,rfl,h4,hds,hz,k⟩:=h;refine fun g hg=>?_;refine⟨_,rfl,l4,rfl,⟨_,ax.of (kp h4 hg)⟩,?_⟩;refine bD (xs:=ts.map V.ref) (fun i σ H'=>∃x y z,σ=[some (.ref l4),some (.ref g),x,y,z]/\∃ps:List ((Str×List Str)×Addr),DL H H' g ps/\H' g=some (.dT (de tm ps))/\ps.length<=i/\(∀x∈ps,H' x.2=some (.lst ((be (ds.take i) x.1).map V.str)))/\∀d∈ds.take i,(d.a,d.sg)∈ps.map (·.1))
  ⟨_,_,_,rfl,[],⟨by simp,by simp,by simp,hg,by simp,ab.new hg⟩,aa,by simp,by simp,by simp⟩ (fun i σ H' _ ⟨_,_,_,_,_,D,_⟩=>ax.of (D.same _ _ h4)) ?_ ?_
 ·rintro i x σ H' hi ⟨x2,x3,x4,rfl,ps,D,hg',hlen,hls,hall⟩;obtain⟨t,ht,rfl⟩:=bQ hi;obtain⟨dr,hdr,hat⟩:=Paired.getL hds ht;have hil:i<ds.length:=(bP.mp hdr).1;obtain⟨s,ht2,hs2⟩:=hat.kt (ab.kt D.same);refine⟨t,_,rfl,bA.of ht2,rfl,_,_,rfl,_,_,rfl,_,_,rfl,rfl,?_⟩;refine⟨_,rfl,.inr (.inr (.inl ⟨rfl,.inr ⟨_,hg'⟩⟩)),_,rfl,_,rfl,(by show 2<=aj;decide),fun kt hkt=>⟨(by show 0<=aj;decide),fun nl hnl=>?_⟩⟩;have S2:ab H' (upd (upd H' kt (.tup [.str dr.a,.ref s])) nl (.lst [])):=(ab.new hkt).trans (ab.new hnl);have hkt2:upd (upd H' kt (.tup [.str dr.a,.ref s])) nl (.lst []) kt=some (.tup [.str dr.a,.ref s]):=kp aa hnl;have hnl2:upd (upd H' kt (.tup [.str dr.a,.ref s])) nl (.lst []) nl=some (.lst []):=aa;have hnlH':H' nl=none:=(ab.new hkt).free hnl;generalize upd (upd H' kt (.tup [.str dr.a,.ref s])) nl (.lst [])=H2 at S2 hkt2 hnl2 ⊢;have htk:cC H2 (tm (dr.a,dr.sg)) (.ref kt):=by
   unfold tm cC;refine⟨kt,_,rfl,hkt2,?_⟩;unfold TKAts;refine⟨_,_,rfl,vy _,?_⟩;unfold TKAts;refine⟨_,_,rfl,SignAt.tk (S2 _ _ hs2),?_⟩;unfold TKAts
   rfl
  have hlk:(de tm ps).length<aj:=gb (by unfold de;rw[ah];omega);have hgo:∀x,be (ds.take (i+1)) x=be (ds.take i) x++(if(dr.a,dr.sg)=x then[dr.b]else[]):=fun x=>by rw[take_snoc hdr,wq]
  have hgl:∀x,(be (ds.take i) x).length<=9000:=fun x=>by
   unfold be;rw[ah];refine aD (cB _ _) ?_;rw[az];omega
  refine⟨g,kt,_,tm (dr.a,dr.sg),.ref nl,rfl,rfl,S2 _ _ hg',htk,lp _,hlk,fun v hv=>?_,fun hv=>?_⟩
  ·-- there already
   have hmem:(dr.a,dr.sg)∈ps.map (·.1):=by
    refine Classical.byContradiction fun z=>?_;rw[lz hC z]at hv;cases hv
   obtain⟨⟨r,a⟩,hra,er⟩:=aL.mp hmem;obtain rfl:r=(dr.a,dr.sg):=er;rw[ef hC D.nd hra]at hv;injection hv with hv;subst hv;have hla:=S2 _ _ (hls _ hra);refine⟨.inl ⟨rfl,_,ax.of hla⟩,_,rfl,a,_,_,rfl,rfl,hla,by rw[ah];exact gb (hgl _),_,_,_,rfl,ps,⟨D.nd,D.na,D.fr,D.frd,D.ned,fun b o q=>?_⟩,?_,by omega,?_,?_⟩
   ·rw[ai (ae q (D.fr _ hra))];exact S2 _ _ (D.same _ _ q)
   ·rw[ai (D.ned _ hra).symm];exact S2 _ _ hg'
   ·intro x hx;by_cases c:x.2=a
    ·have ex:=Dp D.na hx hra c;subst ex;show upd H2 a _ a=_;rw[aa,hgo,if_pos rfl,aq];rfl
    ·have hne:¬((dr.a,dr.sg)=x.1):=fun z=>by
      have e1:=ef (e:=tm) hC D.nd hra;have e2:=ef (e:=tm) (i:=x.1) (a:=x.2) hC D.nd hx;rw[<-z,e1]at e2;injection e2 with e2;injection e2 with e2;exact c e2.symm
     rw[ai c,hgo,if_neg hne,dD];exact S2 _ _ (hls x hx)
   ·intro d hd;rw[take_snoc hdr]at hd;rcases bw.mp hd with hd|hd
    ·exact hall d hd
    ·have:d=dr:=by simpa using hd
     rw[this];exact hmem
  ·-- a new list
   have hnew:(dr.a,dr.sg)∉ps.map (·.1):=by
    intro z;obtain⟨⟨r,a⟩,hra,er⟩:=aL.mp z;obtain rfl:r=(dr.a,dr.sg):=er;rw[ef hC D.nd hra]at hv;cases hv
   have hgne:nl≠g:=(ae hg' hnlH').symm;have hnl3:upd H2 g (.dT (de tm ps++[(tm (dr.a,dr.sg),.ref nl)])) nl=some (.lst []):=by rw[ai hgne];exact hnl2
   refine⟨.inl ⟨rfl,_,ax.of hnl3⟩,_,rfl,nl,_,_,rfl,rfl,hnl3,(by show 0<aj;decide),_,_,_,rfl,ps++[((dr.a,dr.sg),nl)],?_,?_,?_,?_,?_⟩
   ·refine D.snoc hnew (fun x hx=>ae (hls x hx) hnlH') (D.same.free hnlH') hgne ?_;intro b o q;rw[ai (ae q (D.same.free hnlH')),ai (ae q hg)];exact S2 _ _ (D.same _ _ q)
   ·rw[ai hgne.symm,aa,uA]
   ·rw[aZ];show _+1<=_;omega
   ·intro x hx;rcases bw.mp hx with hx|hx
    ·have hne:¬((dr.a,dr.sg)=x.1):=fun z=>hnew (by rw[z];exact aL.mpr ⟨x,hx,rfl⟩);rw[ai (ae (hls x hx) hnlH'),ai (D.ned x hx),hgo,if_neg hne,dD];exact S2 _ _ (hls x hx)
    ·have:x=((dr.a,dr.sg),nl):=by simpa using hx
     subst this;have hnil:be (ds.take i) (dr.a,dr.sg)=[]:=kR fun d hd z=>hnew (by rw[<-z];exact hall d hd);show upd _ nl _ nl=_;rw[aa,hgo,if_pos rfl,hnil]
     rfl
   ·intro d hd;rw[aq];rw[take_snoc hdr]at hd;rcases bw.mp hd with hd|hd
    ·exact dj _ (hall d hd)
    ·have:d=dr:=by simpa using hd
     rw[this];exact dJ _ (by simp)
 ·rintro σ H' ⟨x2,x3,x4,rfl,ps,D,hg',hlen,hls,hall⟩;rw[ah,Paired.length hds,aT]at hls hall;exact⟨_,rfl,k g ps H' ⟨D.nd,hg',hls,hall⟩ D.same D.fr⟩
inductive nK(C:Addr)(vs:List V)(H:Hp)(Q:VK)(E:XK):Prop
 |mk (x dx l1 l2 l3 l4:Addr) (ts:Ze) (J0 J1 rooms:Zb) (ds:List ak):(vs=[.ref x,.ref l1,.ref l2,.ref l3,.ref l4])->(H x=some (.ins C dx []))->(Lists H l1 l2 l3 l4 ts J0 J1 rooms ds)->(aG J0 J1 rooms ds)->(∀H',(∀J,(∀b o,H' b=some o->(H b=none∨∀xs,o≠.lst xs)->J b=some o)->aW C J x J0 J1 rooms ds)->bu x H H'->Q .non H')->nK C vs H Q E
theorem CP{K:Za}{C:Addr}(M:MC K C){vs:List V}{H:Hp}{Q:VK}{E:XK}(h:nK C vs H Q E):
  mC K sp_need_none sp_first_led_round vX lh (sp_as_keys K) sp_has_asks_alone c_ sp_need_parts (bd Q) (start mY vs) H:=by
 obtain⟨x,dx,l1,l2,l3,l4,ts,J0,J1,rooms,ds,rfl,hx,L,m,k⟩:=h;have z3:=m.rooms26;have z4:=m.few;refine⟨_,rfl,_,rfl,_,rfl,_,rfl,l1,l2,l3,l4,ts,J0,J1,rooms,ds,rfl,L,m,fun H1 S1=>?_⟩;have hx1:=S1 _ _ hx;have L1:=L.same S1;have E1:bu x H H1:=ab.exB S1;refine⟨_,rfl,.inl ⟨l1,_,rfl,.inl (ax.of L1.a1),fun o1 ho1=>⟨_,rfl,x,C,dx,_,rfl,kp hx1 ho1,M.cls,M.a1,(by show 0<1000;decide),?_⟩⟩⟩;obtain⟨H2,e2,hx2,F2⟩:=kU "own_asks" (.ref o1) (kp (x:=.lst (J0.map V.str)) hx1 ho1);rw[<-e2];have n1:o1≠x:=(ae hx1 ho1).symm;have f1:=F2 _ _ aa n1;have E2:bu x H1 H2:=(bu.new ho1).trans F2;have L2':=L1.exI hx1 E2;have len2:(cp ("own_asks":Str) (.ref o1) []).length<=1:=cI _ _ _;clear e2 F2;refine⟨_,rfl,.inl ⟨l2,_,rfl,.inl (ax.of L2'.a2),fun o2 ho2=>⟨_,rfl,x,C,dx,_,rfl,kp hx2 ho2,M.cls,M.a2,by omega,?_⟩⟩⟩;obtain⟨H3,e3,hx3,F3⟩:=kU "own_says" (.ref o2) (kp (x:=.lst (J1.map V.str)) hx2 ho2);rw[<-e3];have n2:o2≠x:=(ae hx2 ho2).symm;have f2:=F3 _ _ aa n2;have E3:bu x H2 H3:=(bu.new ho2).trans F3;have L3:=L2'.exI hx2 E3;have len3:=cI ("own_says":Str) (.ref o2) (cp ("own_asks":Str) (.ref o1) []);clear e3 F3;refine⟨_,rfl,.inl ⟨l3,_,rfl,.inl (ax.of L3.a3),fun o3 ho3=>⟨_,rfl,x,C,dx,_,rfl,kp hx3 ho3,M.cls,M.a3,by omega,?_⟩⟩⟩;obtain⟨H4,e4,hx4,F4⟩:=kU "own_rooms" (.ref o3) (kp (x:=.lst (rooms.map V.str)) hx3 ho3);rw[<-e4];have n3:o3≠x:=(ae hx3 ho3).symm;have f3:=F4 _ _ aa n3;have E4:bu x H3 H4:=(bu.new ho3).trans F4;have L4:=L3.exI hx3 E4;have len4:=cI ("own_rooms":Str) (.ref o3) (cp ("own_says":Str) (.ref o2) (cp ("own_asks":Str) (.ref o1) []));clear e4 F4;refine⟨_,rfl,.inl ⟨l4,_,rfl,.inl (ax.of L4.a4),fun o4 ho4=>⟨_,rfl,x,C,dx,_,rfl,kp hx4 ho4,M.cls,M.a4,by omega,?_⟩⟩⟩;obtain⟨H5,e5,hx5,F5⟩:=kU "own_doors" (.ref o4) (kp (x:=.lst (ts.map V.ref)) hx4 ho4);rw[<-e5];have n4:o4≠x:=(ae hx4 ho4).symm;have f4:=F5 _ _ aa n4;have E5:bu x H4 H5:=(bu.new ho4).trans F5;have L5:=L4.exI hx4 E5;generalize hfs4:cp ("own_doors":Str) (.ref o4) (cp ("own_rooms":Str) (.ref o3) (cp ("own_says":Str) (.ref o2) (cp ("own_asks":Str) (.ref o1) [])))=fs4 at hx5;have len5:fs4.length<=4:=by
  rw[<-hfs4];have:=cI ("own_doors":Str) (.ref o4) (cp ("own_rooms":Str) (.ref o3) (cp ("own_says":Str) (.ref o2) (cp ("own_asks":Str) (.ref o1) [])));omega
 clear e5 F5;refine⟨_,rfl,_,rfl,l3,l4,ts,rooms,ds,rfl,L5.a3,L5.a4,L5.ds,m.okR.1,by omega,by omega,fun d hd=>(m.good d hd).a,fun lv lps H6' hlps flv' hlv' S6 nlv=>⟨_,rfl,x,C,dx,fs4,rfl,S6 _ _ hx5,M.cls,M.a5,by omega,?_⟩⟩;obtain⟨H6,e6,hx6,F6⟩:=kU "leaving" (.ref lv) (S6 _ _ hx5);rw[<-e6];have E6:bu x H5 H6:=(ab.exB S6).trans F6;have L6:=L5.exI hx5 E6;have flv:=F6 _ _ flv' (Do (S6 _ _ hx5) flv');have hlv:∀y∈lps,∃us,H6 y.2=some (.lst (us.map V.ref))/\cn H6 us (b0 ds y.1):=fun y hy=>by
  obtain⟨us,g1,g2⟩:=hlv' y hy;exact⟨us,F6 _ _ g1 (bu.neI (S6 _ _ hx5) g1),g2.kt (F6.ktI (S6 _ _ hx5))⟩
 have ndl:(lps.map (·.1)).Nodup:=by rw[hlps];exact m.okR.1
 have len6:=cI ("leaving":Str) (.ref lv) fs4;have lk5:lk "leaving" (cp ("leaving":Str) (.ref lv) fs4)=some (.ref lv):=by
  show eC _ _=_;rw[aO,if_pos rfl]
 clear e6 F6 flv' hlv';refine⟨_,rfl,l3,rfl,⟨_,ax.of L6.a3⟩,fun f hf=>?_⟩;refine bh (xs:=rooms.map V.str) (fun i vs H'=>vs=((rooms.take i).filter (fI ds)).map V.str/\ab H6 H'/\H' f=some (.lst vs)) ⟨rfl,ab.new hf,aa⟩ (fun i vs H' _ ⟨_,S,h'⟩=>⟨h',ax.of (S _ _ L6.a3)⟩) ?_ ?_;rotate_left
 ·rintro i vs H' x' hx' hi ⟨rfl,S,f'⟩;obtain⟨r,hr,rfl⟩:=bf hx';obtain⟨⟨r',a⟩,hra,er⟩:=aL.mp (show r∈lps.map (·.1) by rw[hlps];exact bJ hr);obtain rfl:r'=r:=er;obtain⟨us,hus,hdo⟩:=hlv _ hra;refine gN ?_;refine⟨_,rfl,x,C,dx,_,.ref lv,rfl,S _ _ hx6,M.cls,M.a5,lk5,_,rfl,lv,.ref a,rfl,.inl ⟨_,.inr r',.inl (S _ _ flv),rfl,(ef iL ndl hra).symm⟩,a,us,b0 ds r',rfl,S _ _ hus,hdo.kt (ab.kt S),aD (zt _ _) (by omega),m.sg0,fun H'' S''=>⟨_,rfl,?_⟩⟩;have hlen:(((rooms.take i).filter (fI ds)).map V.str).length<aj:=by
   rw[ah];refine am (aD (cB _ _) ?_);rw[az];omega
  refine hU (fun hq=>?_) (fun hq=>?_)
  ·refine⟨_,rfl,S'' _ _ f',hlen,ke hi ⟨?_,?_,aa⟩⟩
   ·rw[bU hr,if_pos (show fI ds r'=true from hq),aq];rfl
   ·intro b o q;rw[ai (ae q hf)];exact S'' _ _ (S _ _ q)
  ·refine ke hi ⟨?_,S.trans S'',?_⟩
   ·rw[bU hr,if_neg (show ¬fI ds r'=true from hq),dD]
   ·exact S'' _ _ f'
 rintro vs H7' ⟨rfl,S7,f7⟩;rw[ah,aT]at f7;refine pi (ws:=rooms.filter (fI ds)) (ax.of f7) (aD (cB _ _) (by omega)) fun qu hqu=>⟨_,rfl,x,C,dx,_,rfl,kp (S7 _ _ hx6) hqu,M.cls,M.a6,by omega,?_⟩;obtain⟨H7,e7,hx7,F7⟩:=kU "quiet" (.ref qu) (kp (x:=.dK (aR (rooms.filter (fI ds)))) (S7 _ _ hx6) hqu);rw[<-e7];have n7:qu≠x:=(ae (S7 _ _ hx6) hqu).symm;have fqu:=F7 _ _ aa n7;have E7:bu x H6 H7:=((ab.exB S7).trans (bu.new hqu)).trans F7;have L7:=L6.exI hx6 E7;have len7:=cI ("quiet":Str) (.ref qu) (cp ("leaving":Str) (.ref lv) fs4);clear e7 F7;refine⟨_,rfl,l4,ts,ds,rfl,L7.a4,L7.ds,by omega,fun sg gps H8' G' S8 ngp=>⟨_,rfl,x,C,dx,_,rfl,S8 _ _ hx7,M.cls,M.a7,by omega,?_⟩⟩;obtain⟨H8,e8,hx8,F8⟩:=kU "sign_goals" (.ref sg) (S8 _ _ hx7);rw[<-e8];have E8:bu x H7 H8:=(ab.exB S8).trans F8;have L8:=L7.exI hx7 E8;have G8:jP H8 sg gps ds:=⟨G'.nd,F8 _ _ G'.g (FF (S8 _ _ hx7) G'.g),fun y hy=>F8 _ _ (G'.ls y hy) (bu.neI (S8 _ _ hx7) (G'.ls y hy)),G'.all⟩;have len8:=cI ("sign_goals":Str) (.ref sg) (cp ("quiet":Str) (.ref qu) (cp ("leaving":Str) (.ref lv) fs4));have lk7:lk "sign_goals" (cp ("sign_goals":Str) (.ref sg) (cp ("quiet":Str) (.ref qu) (cp ("leaving":Str) (.ref lv) fs4)))=some (.ref sg):=by
  show eC _ _=_;rw[aO,if_pos rfl]
 clear e8 F8 G';refine⟨_,rfl,l3,rfl,⟨_,ax.of L8.a3⟩,fun f2' hf2=>?_⟩;refine bh (xs:=rooms.map V.str) (fun i vs H'=>∃(us:Ze) (pl:List (Str×Addr)),vs=us.map V.ref/\Paired (fun t (p:Str×Addr)=>H' t=some (.tup [.str p.1,.ref p.2])) us pl/\pl.map (·.1)=rooms.take i/\(∀p∈pl,∃L,H' p.2=some (.dK (aR L))/\L.Nodup/\∀w,w∈L↔Reach ds p.1 w)/\ab H8 H'/\H' f2'=some (.lst vs))
  ⟨[],[],rfl,.nil,rfl,by simp,ab.new hf2,aa⟩ (fun i vs H' _ ⟨_,_,_,_,_,_,S,h'⟩=>⟨h',ax.of (S _ _ L8.a3)⟩) ?_ ?_
 rotate_left
 ·rintro i vs H' x' hx' hi ⟨us,pl,rfl,hpa,hpl,hle,S,f'⟩;obtain⟨r,hr,rfl⟩:=bf hx';have hilen:us.length<=150:=by
   rw[Paired.length hpa,<-ah (f:=(·.1)) (as:=pl),hpl,az];omega
  refine gN (lK ?_);refine⟨_,rfl,_,rfl,x,C,dx,_,.ref sg,rfl,S _ _ hx8,M.cls,M.a7,lk7,_,rfl,sg,r,gps,ds,rooms,rfl,G8.same S,fun d hd=>(m.good d hd).b,by omega,fun ld Lr H'' hld nd hLr hfr S''=>⟨(by show 2<=aj;decide),fun t ht=>⟨?_,?_,ke hi ⟨us++[t],pl++[(r,ld)],?_,?_,?_,?_,?_,aa⟩⟩⟩⟩
  ·exact kp (S'' _ _ f') ht
  ·rw[ah];exact am (by omega)
  ·rw[aq];rfl
  ·have KT:iB (upd H'' t (.tup [.str r,.ref ld])) (upd (upd H'' t (.tup [.str r,.ref ld])) f2' (.lst (us.map V.ref++[.ref t]))):=fP (kp (S'' _ _ f') ht);exact Paired.app (Paired.mapP hpa fun t' p' e=>KT _ _ (kp (S'' _ _ e) ht)) (.cons (KT _ _ aa) .nil)
  ·rw[aq,hpl,take_snoc hr];rfl
  ·have ned:∀{b:Addr}{kvs:List (em×V)},upd H'' t (.tup [.str r,.ref ld]) b=some (.dK kvs)->b≠f2':=fun hb z=>by rw[z,kp (S'' _ _ f') ht]at hb;cases hb
   intro p hp;rcases bw.mp hp with hp|hp
   ·obtain⟨L0,g1,g2⟩:=hle p hp;refine⟨L0,?_,g2⟩;have:=kp (x:=.tup [.str r,.ref ld]) (S'' _ _ g1) ht;rw[ai (ned this)];exact this
   ·have:p=(r,ld):=by simpa using hp
    subst this;refine⟨Lr,?_,nd,hLr⟩;have:=kp (x:=.tup [.str r,.ref ld]) hld ht;rw[ai (ned this)];exact this
  ·intro b o q;rw[ai (ae q hf2)];exact kp (S'' _ _ (S _ _ q)) ht
 rintro vs H9' ⟨us,sps,rfl,hpa,hsps,hled,S9,f9⟩;rw[ah,aT]at hsps;have nds:(sps.map (·.1)).Nodup:=by rw[hsps];exact m.okR.1
 refine⟨f2',us,de Sum.inr sps,rfl,ax.of f9,?_,?_,fun sl hsl=>⟨_,rfl,x,C,dx,_,rfl,kp (S9 _ _ hx8) hsl,M.cls,M.a8,by omega,?_⟩⟩
 ·rw[Paired.length hpa];unfold de;rw[ah]
 ·intro j t kv hj hkv;obtain⟨p,hp,e⟩:=Paired.getL hpa hj;unfold de at hkv;rw[cS,hp]at hkv;have:=eD hkv;rw[<-this];exact e
 have emerge:iX [] (de Sum.inr sps)=de Sum.inr sps:=sw sps [] nds;rw[emerge];obtain⟨H9,e9,hx9,F9⟩:=kU "still_led" (.ref sl) (kp (x:=.dK (de Sum.inr sps)) (S9 _ _ hx8) hsl);rw[<-e9];have n9:sl≠x:=(ae (S9 _ _ hx8) hsl).symm;have fsl:=F9 _ _ aa n9;have E9:bu x H8 H9:=((ab.exB S9).trans (bu.new hsl)).trans F9;have L9:=L8.exI hx8 E9;have hled9:∀p∈sps,∃L,H9 p.2=some (.dK (aR L))/\L.Nodup/\∀w,w∈L↔Reach ds p.1 w:=fun p hp=>by
  obtain⟨L0,g1,g2⟩:=hled p hp;have g3:=kp (x:=.dK (de Sum.inr sps)) g1 hsl;exact⟨L0,F9 _ _ g3 (Do (kp (S9 _ _ hx8) hsl) g3),g2⟩
 clear e9 F9;have lk8:lk "still_led" (cp ("still_led":Str) (.ref sl) (cp ("sign_goals":Str) (.ref sg) (cp ("quiet":Str) (.ref qu) (cp ("leaving":Str) (.ref lv) fs4))))=some (.ref sl):=by
  show eC _ _=_;rw[aO,if_pos rfl]
 refine⟨_,rfl,_,rfl,x,C,dx,_,.ref sl,rfl,hx9,M.cls,M.a8,lk8,l3,sl,rooms,sps,rfl,L9.a3,fsl,hsps,m.okR.1,fun p hp=>?_,fun H10 S10=>⟨_,rfl,k H10 ?_ ?_⟩⟩
 ·obtain⟨L0,g1,g2,g3⟩:=hled9 p hp;exact⟨L0,g1,fun z=>m.noround _ ((g3 _).mp z)⟩
 ·intro J off;have X69:bu x H6 H9:=(E7.trans E8).trans E9;have X59:=((E6.trans E7).trans E8).trans E9;have fr:∀{b:Addr}{J:Hp},bu x H J->b≠x->J b=none->H b=none:=fun{b J} e n h=>by
   cases q:H b with
   |none=>rfl
   |some o=>rw[e _ _ q n]at h;cases h
  have W:∀{b:Addr}{o:HO},H10 b=some o->H b=none->J b=some o:=fun h q=>off _ _ h (.inl q);have Z:∀{b:Addr}{o:HO},H10 b=some o->(∀xs,o≠.lst xs)->J b=some o:=fun h n=>off _ _ h (.inr n);have Y:∀{b:Addr}{o:HO},H9 b=some o->(∀xs,o≠.lst xs)->J b=some o:=fun h n=>Z (S10 _ _ h) n;have kt:iB H10 J:=fun b xs h=>Z h (by intro _ z;cases z);have LL:Lists H5 o1 o2 o3 o4 ts J0 J1 rooms ds:=⟨(E3.trans (E4.trans E5)) _ _ f1 n1,(E4.trans E5) _ _ f2 n2,E5 _ _ f3 n3,f4,L5.ds⟩;have LM:=(LL.exI hx5 X59).same S10;have r1:H o1=none:=S1.free ho1;have r2:H o2=none:=fr (E1.trans E2) n2 ho2;have r3:H o3=none:=fr ((E1.trans E2).trans E3) n3 ho3;have r4:H o4=none:=fr (((E1.trans E2).trans E3).trans E4) n4 ho4;have X05:=(((E1.trans E2).trans E3).trans E4).trans E5;have X07:=(X05.trans E6).trans E7;refine⟨⟨dx,_,o1,o2,o3,o4,lv,qu,sg,sl,ts,lps,gps,sps,Y hx9 (by intro _ z;cases z),?_,?_,?_,?_,?_,?_,?_,?_,?_,?_,?_,lk8,⟨W LM.a1 r1,W LM.a2 r2,W LM.a3 r3,W LM.a4 r4,LM.ds.kt kt⟩,hlps,?_,?_,?_,?_,hsps,Y fsl (by intro _ z;cases z),fun p hp=>?_⟩,m,⟨dx,_,Y hx9 (by intro _ z;cases z),?_,?_,?_,?_⟩⟩
  rotate_right 9
  ·exact Y (X69 _ _ flv (Do hx6 flv)) (by intro _ z;cases z)
  ·intro y hy;obtain⟨us',g1,g2⟩:=hlv y hy;have ny:y.2≠x:=bu.neI hx6 g1;exact⟨us',W (S10 _ _ (X69 _ _ g1 ny)) (fr X05 ny (nlv y hy)),((g2.kt (X69.ktI hx6)).kt (ab.kt S10)).kt kt⟩
  ·exact Y ((E8.trans E9) _ _ fqu n7) (by intro _ z;cases z)
  ·refine⟨G8.nd,Y (E9 _ _ G8.g (FF hx8 G8.g)) (by intro _ z;cases z),fun y hy=>?_,G8.all⟩;have ny:y.2≠x:=bu.neI hx8 (G8.ls y hy);exact W (S10 _ _ (E9 _ _ (G8.ls y hy) ny)) (fr X07 ny (ngp y hy))
  ·obtain⟨L0,g1,g2⟩:=hled9 p hp;exact⟨L0,Y g1 (by intro _ z;cases z),g2⟩
  all_goals(show eC _ _=_;subst hfs4;repeat (rw[aO];first|rw[if_pos rfl] | rw[if_neg (by decide +kernel)]))
  all_goals rfl
 ·exact((((((((E1.trans E2).trans E3).trans E4).trans E5).trans E6).trans E7).trans E8).trans E9).trans (ab.exB S10)

mutual
def DT.sm:DT->Bool
 |.k _=>true
 |.t l=>decide (l.length<=1000000) && DT.sms l
 |.s l=>decide (l.length<=1000000) && DT.sms l
def DT.sms:List DT->Bool
 |[]=>true
 |a::r=>DT.sm a && DT.sms r
end
abbrev Hm:Str:="abcdefghijklmnopqrstuvwxyz"
theorem Fb{n j:Nat}(h:j<n):Ei n (j:Int)=some j:=by
 unfold Ei;rw[if_pos (Int.natCast_nonneg j),if_pos (by omega)]
 rfl
theorem Reach.mono{ds ds':List ak}(h:∀a b,(⟨a,av,b⟩:ak)∈ds->(⟨a,av,b⟩:ak)∈ds'){a b:Str}(r:Reach ds a b):Reach ds' a b:=by
 induction r with
 |one e=>exact .one (h _ _ e)
 |step _ e ih=>exact .step ih (h _ _ e)
theorem Dn{K:Za}{H:Hp}{l q:Addr}{ts:Ze}{ds:List ak}{Q:VK}(hl:H l=some (.lst (ts.map V.ref)))(hd:cn H ts ds)(hq:H q=some (.lst []))(h1:ds≠[]->Q (.bl true) H)(h2:ds=[]->Q (.bl false) H):xy K (.ref l) (.ref q) H Q:=by
 refine⟨.s (ds.map wt),.s [],(by unfold ni;exact⟨l,_,rfl,ax.of hl,hd.dIns⟩),(by unfold ni;exact⟨q,_,rfl,ax.of hq,by unfold DIns;rfl⟩),?_,(by decide),?_⟩
 ·show DT.depths _+1<=8;have:=sL ds;omega
 ·by_cases c:ds=[]
  ·subst c;rw[zzr1 (show DT.s (([]:List ak).map wt)=DT.s []from rfl)];exact h2 rfl
  ·rw[zzr0 (fun z=>c (by injection z with z;exact List.map_eq_nil_iff.mp z))];exact h1 c
def Et(K:Za)(C_Machine:Addr)(sp_Machine_led_from:Sp)(sp_Machine_goals:Sp):TS :=
 a_ (fE (rAny K) (ao (b_ 1 [0,2] (bq K (aJ kb (cK (ay V1)) (bY C_Machine "led_from" sp_Machine_led_from [] E0 V0 (ay V1)))) U0 (gV) (aJ C5 (fE (gH K) (ao (bY C_Machine "goals" sp_Machine_goals [] E0 V1 (aS V0 (bo (ao (tC (.str "ask")) (ay V2))))) bm)) (tC (.int 0)))) bm))
def Ft:List Str:=["I","room","ask"]
def tu(K:Za)(sp_law_put:Sp)(sp_law_take:Sp)(sp_law_still_on:Sp):TS :=
 ar (aM V1 (lS K 4 (bI U2 (bI U3 (bI U4 (bI U5 (kS)))))))
 (ar (aM (fE (da K) (ay V5)) U5)
 (ar (dZ (bq K V4) U6 (dZ (bq K V2) U7 (ar (aM (aI sp_law_still_on (aS V5 (cK (ay V6)))) U8)
 (cz (aV (aJ (o6 K) (b_ 1 [8,7] (bq K V5) U0 (rL (aV (aJ (nS K false) (aJ (pT K) V0 (tC (.int 0))) V1)) (aV (aJ (o6 K) (aJ (pT K) V0 (tC (.int 1))) (bo (aS (tC (.str "ask")) V2))))) V0) (cK (bm)))) (ar (aM (aJ (dk K) (cK (ao V6 (ao (aJ (dk K) V4 (aI sp_law_take (aS V0 (fE (gH K) (ay V4))))) bm))) (aI sp_law_take (aS V0 (tC (.int 2))))) U9)
 (cr (aI sp_law_put (ao V5 (ao (bo (bX V6 (bo (aS (tC (.str "ask")) V7)) V9)) bm))))) (bH)))))
 (a_ (bo (ao V2 (bX V3 V4 V5))))))
def t_:List Str:=["pen","told","asks","says","rooms","doors","room","ask","there","other"]
def fX(ds:List ak)(r a:Str):Prop:=∃h,(h=r∨Reach ds r h)/\∃b,(⟨h,bE a,b⟩:ak)∈ds
open Classical in
def takesB(ds:List ak)(r a:Str):Bool:=decide (fX ds r a)
theorem kE{ds:List ak}{r a:Str}:takesB ds r a=true↔fX ds r a:=by unfold takesB;exact @decide_eq_true_iff _ (Classical.propDecidable _)
theorem vz{ds:List ak}{r a:Str}:takesB ds r a=false↔¬fX ds r a:=by unfold takesB;exact @decide_eq_false_iff_not _ (Classical.propDecidable _)
theorem pZ{ds:List ak}{h:Str}{sg:Zb}:0<(be ds (h,sg)).length↔∃b,(⟨h,sg,b⟩:ak)∈ds:=by
 rw[List.length_pos_iff_exists_mem];constructor
 ·rintro⟨b,hb⟩;exact⟨b,dP.mp hb⟩
 ·rintro⟨b,hb⟩;exact⟨b,dP.mpr hb⟩
theorem Be{ds:List ak}{r a:Str}{L:Zb}(hL:∀w,w∈L↔Reach ds r w):((r::L).map fun h=>decide ((0:Int)<(be ds (h,bE a)).length)).any id=takesB ds r a:=by
 rw[uj,kE,List.any_eq_true];constructor
 ·rintro⟨b,hb,e⟩;obtain⟨h,hh,rfl⟩:=aL.mp hb;have:=of_decide_eq_true e;refine⟨h,?_,pZ.mp (by omega)⟩;rcases cA.mp hh with e|e
  ·exact .inl e
  ·exact .inr ((hL h).mp e)
 ·rintro⟨h,hh,hb⟩;refine⟨true,aL.mpr ⟨h,?_,zzr1 (by have:=pZ.mpr hb;omega)⟩,rfl⟩;rcases hh with e|e
  ·rw[e];exact fx
  ·exact fq _ ((hL h).mpr e)
inductive jc(C:Addr)(vs:List V)(H:Hp)(Q:VK)(E:XK):Prop
 |mk (x:Addr) (r a:Str) (J0 J1 rooms:Zb) (ds:List ak):(vs=[.ref x,.str r,.str a])->(aW C H x J0 J1 rooms ds)->(r∈rooms)->(∀H',ab H H'->Q (.bl (takesB ds r a)) H')->jc C vs H Q E
theorem CI{K:Za}{C:Addr}{vs:List V}{H:Hp}{Q:VK}{E:XK}(h:jc C vs H Q E):Et K C (gF C) (ia C) (bd Q) (start Ft vs) H:=by
 obtain⟨x,r,a,J0,J1,rooms,ds,rfl,M,hr,k⟩:=h;refine⟨_,rfl,(by show 1<=aj;decide),fun l1 hl1=>?_⟩;have S1:ab H (upd H l1 (.lst [.str r])):=ab.new hl1;have e1:upd H l1 (.lst [.str r]) l1=some (.lst [.str r]):=aa;generalize upd H l1 (.lst [.str r])=H1 at S1 e1 ⊢;have M1:=M.same S1;obtain⟨dx,fs,o1,o2,o3,o4,lv,qu,sgA,sl,ts,lps,gps,sps,g1,a1,a2,a3,a4,_⟩:=id M1.at_;refine⟨_,rfl,x,dx,fs,rfl,g1,a3,_,rfl,x,r,J0,J1,rooms,ds,rfl,M1,hr,fun l2 L H2 e2 nd hL _ S2=>?_⟩;have hin:∀w∈L,w∈rooms:=fun w hw=>((hL w).mp hw).in_ fun d hd=>(M.ok.good d hd).b;have zL:=kP nd hin;have z3:=M.ok.rooms26;refine⟨l1,l2,_,_,rfl,rfl,S2 _ _ e1,e2,by rw[ah];show 1+L.length<=aj;exact cZ (am (by omega)),fun l3 hl3=>?_⟩;have eq:([.str r]++L.map V.str:List V)=(r::L).map V.str:=rfl;rw[eq];have S3:ab H (upd H2 l3 (.lst ((r::L).map V.str))):=(S1.trans S2).trans (ab.new hl3);have e3:upd H2 l3 (.lst ((r::L).map V.str)) l3=some (.lst ((r::L).map V.str)):=aa;generalize upd H2 l3 (.lst ((r::L).map V.str))=H3 at S3 e3 ⊢;refine⟨l3,rfl,⟨_,ax.of e3⟩,fun q hq=>?_⟩;refine bh (xs:=(r::L).map V.str) (fun i vs H'=>vs=(((r::L).take i).map fun h=>decide ((0:Int)<(be ds (h,bE a)).length)).map V.bl/\ab H3 H'/\H' q=some (.lst vs)) ⟨rfl,ab.new hq,aa⟩ (fun i vs H' _ ⟨_,S,h⟩=>⟨h,ax.of (S _ _ e3)⟩) ?_ ?_
 ·rintro vs H' ⟨rfl,S,h⟩;rw[ah,aT]at h;refine⟨q,_,rfl,ax.of h,?_⟩;rw[Be hL];exact k H' (S3.trans S)
 ·rintro i vs H' y hy hi ⟨rfl,S,h⟩;obtain⟨w,hw,rfl⟩:=bf hy;refine gN (lK ?_);have M':=M.same (S3.trans S);obtain⟨dx,fs,o1,o2,o3,o4,lv,qu,sgA,sl,ts,lps,gps,sps,g1,a1,a2,a3,a4,_⟩:=id M'.at_;refine⟨_,rfl,x,dx,fs,rfl,g1,a2,_,rfl,_,rfl,(by show 2<=aj;decide),fun s hs=>?_⟩;have S4:ab H' (upd H' s (.tup ((bE a).map V.str))):=ab.new hs;refine⟨x,s,w,bE a,J0,J1,rooms,ds,rfl,M'.same S4,aa,fun g H5 hg _ S5=>?_⟩;have S45:=S4.trans S5;refine .inl ⟨g,_,rfl,.inl (ax.of hg),_,_,rfl,rfl,S45 _ _ h,?_,?_⟩
  ·rw[ah,ah,az];exact am (by rw[fb];omega)
  refine ke hi ⟨?_,fun b o e=>?_,aa⟩
  ·rw[take_snoc hw,aq,aq];show _++[V.bl (decide ((0:Int)<(((be ds (w,bE a)).map V.str).length:Nat)))]=_;rw[ah];rfl
  ·rw[ai (ae e hq)];exact S45 _ _ (S _ _ e)
theorem AF{K:Za}{H:Hp}{l m:Addr}{a b:Zb}{Q:VK}(hl:H l=some (.lst (a.map V.str)))(hm:H m=some (.lst (b.map V.str)))(k:Q (.bl (!decide (a=b))) H):xy K (.ref l) (.ref m) H Q:=by
 refine⟨.s (a.map gR),.s (b.map gR),sM (ax.of hl),sM (ax.of hm),?_,?_,?_⟩
 ·show DT.depths _+1<=8;rw[dR];decide
 ·show DT.depths _+1<=8;rw[dR];decide
 ·rw[decide_eq_decide.mpr (show DT.s (a.map gR)=DT.s (b.map gR)↔a=b from⟨fun h=>gK (by injection h),fun h=>by rw[h]⟩)];exact k
def yg(F:Zb)(a:Str)(d:ak):Bool:=decide (d.a∈F) && decide (d.sg=bE a)
theorem yf{ds:List ak}{F:Zb}{r a:Str}(hF:∀w,w∈F↔gP ds [r] w):ds.filter (yg F a)=[]↔takesB ds r a=false:=by
 rw[vz,List.filter_eq_nil_iff];constructor
 ·rintro h ⟨w,hw,b,hb⟩;refine h _ hb ?_;unfold yg;rw[zzr1,zzr1]
  ·rfl
  ·rfl
  ·exact(hF w).mpr ⟨r,fx,hw⟩
 ·intro n d hd q;unfold yg at q;rw[vi]at q;have q1:=of_decide_eq_true q.1;have q2:=of_decide_eq_true q.2;obtain⟨g,hg,e⟩:=(hF _).mp q1;have:g=r:=by simpa using hg
  subst this;obtain⟨x,sg,b⟩:=d;exact n ⟨x,e,b,by rw[<-q2];exact hd⟩
theorem DY{K:Za}{σ:L2.St}{jt ja:Nat}{l4 f l:Addr}{ts:Ze}{ds:List ak}{F:Zb}{a:Str}{H1:Hp}{Q:Hp->Prop}(st:σ[jt]?=some (some (.ref f)))(sa:σ[ja]?=some (some (.str a)))
  (h4:H1 l4=some (.lst (ts.map V.ref))) (hd:cn H1 ts ds) (hf:H1 f=some (.lst (F.map V.str))) (z:ds.length<=1000) (hl:H1 l=none)
  (k:∀(us:Ze) (H':Hp),H' l=some (.lst (us.map V.ref))->cn H' us (ds.filter (yg F a))->ab H1 H'->Q H') :
  dU 1 [jt,ja] σ (Ee K l4) U0 (rL (aV (aJ (nS K false) (aJ (pT K) V0 (tC (.int 0))) V1)) (aV (aJ (o6 K) (aJ (pT K) V0 (tC (.int 1))) (bo (aS (tC (.str "ask")) V2))))) V0 H1 l Q:=by
 have cs:cW 1 [jt,ja] σ=[none,some (.ref f),some (.str a)]:=by simp[cW,st,sa]
 refine bh (xs:=ts.map V.ref) (fun i vs H'=>∃us:List Addr,vs=us.map V.ref/\cn H' us ((ds.take i).filter (yg F a))/\ab H1 H'/\H' l=some (.lst vs))
  ⟨[],rfl,.nil,ab.new hl,aa⟩ (fun i vs H' _ ⟨_,_,_,S,h'⟩=>⟨h',ax.of (S _ _ h4)⟩) ?_ ?_
 ·rintro vs H' ⟨us,rfl,D,S,h'⟩;rw[ah,Paired.length hd,aT]at D;exact k us H' h' D S
 ·rintro i vs H' y hy hi ⟨us,rfl,D,S,h'⟩;obtain⟨u,hu,rfl⟩:=bQ hy;obtain⟨dr,hdr,hat⟩:=Paired.getL hd hu;obtain⟨sb,ht2,hs2⟩:=hat.kt (ab.kt S);have hi':i<ds.length:=(bP.mp hdr).1;have zu:us.length<=i:=by
   have:=Paired.length D;rw[this];refine aD (cB _ _) ?_;rw[az];omega
  rw[cs];refine gN ?_;refine⟨_,rfl,.inr (.inl ⟨u,_,0,_,rfl,rfl,bA.of ht2,rfl,_,rfl,gR dr.a,F.map gR,f,_,mf _,rfl,.inl (ax.of (S _ _ hf)),jK _,(by show 0<=8;decide),by rw[dR];decide,_,rfl,?_⟩)⟩;rw[if_neg gD,qJ];by_cases c1:dr.a∈F;rotate_left
  ·rw[zzr0 c1];refine bS (bS (ke hi ⟨us,rfl,?_,S,h'⟩));rw[jJ hdr,if_neg (by unfold yg;rw[zzr0 c1,Ae];decide),dD];exact D
  rw[zzr1 c1];refine cj ?_;refine⟨_,rfl,.inr (.inl ⟨u,_,1,_,rfl,rfl,bA.of ht2,rfl,_,rfl,(by show 2<=aj;decide),fun s hs=>?_⟩)⟩;have S2:ab H' (upd H' s (.tup ((bE a).map V.str))):=ab.new hs;have e2:upd H' s (.tup ((bE a).map V.str)) s=some (.tup ((bE a).map V.str)):=aa;have e2':(.tup [.str "ask",.str a]:HO)=.tup ((bE a).map V.str):=rfl;rw[e2'];generalize upd H' s (.tup ((bE a).map V.str))=H2 at S2 e2 ⊢;have D2:=D.kt (ab.kt S2);refine⟨lT dr.sg,lT (bE a),bt (bA.of (S2 _ _ hs2)),bt (bA.of e2),by rw[bW];decide,by rw[bW];decide,_,rfl,?_⟩;rw[hW];by_cases c2:dr.sg=bE a;rotate_left
  ·rw[zzr0 c2];refine bS (ke hi ⟨us,rfl,?_,S.trans S2,S2 _ _ h'⟩);rw[jJ hdr,if_neg (by unfold yg;rw[zzr0 c2,vm];decide),dD];exact D2
  rw[zzr1 c2];refine cj ?_;have S3:ab H1 (upd H2 l (.lst (us.map V.ref++[.ref u]))):=fun b o q=>by
   rw[ai (ae q hl)];exact S2 _ _ (S _ _ q)
  have kt:iB H2 (upd H2 l (.lst (us.map V.ref++[.ref u]))):=fun b xs q=>by
   rw[ai (fun z=>by rw[z,S2 _ _ h']at q;cases q)];exact q
  refine⟨_,rfl,S2 _ _ h',by rw[ah];exact am (by omega),ke hi ⟨us++[u],by rw[aq];rfl,?_,S3,aa⟩⟩;rw[jJ hdr,if_pos (by unfold yg;rw[zzr1 c1,zzr1 c2];rfl)];exact f8 (D2.kt kt) ⟨sb,kt _ _ (S2 _ _ ht2),kt _ _ (S2 _ _ hs2)⟩
theorem DJ{K:Za}{H:Hp}{l q:Addr}{ts:Ze}{ds:List ak}{Q:VK}(hl:H l=some (.lst (ts.map V.ref)))(hd:cn H ts ds)(hq:H q=some (.lst []))(h:Q (.bl (decide (ds=[]))) H):o6 K (.ref l) (.ref q) H Q:=by
 refine⟨.s (ds.map wt),.s [],(by unfold ni;exact⟨l,_,rfl,ax.of hl,hd.dIns⟩),(by unfold ni;exact⟨q,_,rfl,ax.of hq,by unfold DIns;rfl⟩),?_,(by decide),?_⟩
 ·show DT.depths _+1<=8;have:=sL ds;omega
 ·rw[decide_eq_decide.mpr (show DT.s (ds.map wt)=DT.s []↔ds=[]from⟨fun z=>List.map_eq_nil_iff.mp (by injection z),fun z=>by rw[z];rfl⟩)];exact h
theorem Reach.unask{ds:List ak}{d:ak}(n:d.sg≠av){a b:Str}(r:Reach (ds++[d]) a b):Reach ds a b:=by
 have key:∀{x y:Str},(⟨x,av,y⟩:ak)∈ds++[d]->(⟨x,av,y⟩:ak)∈ds:=fun q=>by
  rcases bw.mp q with q|q
  ·exact q
  ·have e:=eW.mp q;exact absurd (by rw[<-e]) n
 induction r with
 |one q=>exact .one (key q)
 |step _ q ih=>exact .step ih (key q)
theorem fX.mono{ds es:List ak}(h:∀d∈ds,d∈es){r a:Str}:fX ds r a->fX es r a:=fun⟨w,hw,b,hb⟩=>⟨w,hw.imp id (Reach.mono fun x y=>h _),b,h _ hb⟩
theorem mem_putD{ds:List ak}{d x:ak}:x∈kN ds d↔x∈ds∨x=d:=by
 unfold kN;split
 ·rename_i h;exact⟨.inl,fun z=>z.elim id fun e=>by rw[e];exact h⟩
 ·simp
theorem aG.putOne{J0 J1 rooms:Zb}{ds:List ak}{d:ak}(m:aG J0 J1 rooms ds)(g:yv J0 J1 rooms d)(n:d.sg≠av)(z:ds.length+1<=1000):aG J0 J1 rooms (kN ds d):=by
 refine⟨m.okA,m.okS,m.apart,m.okR,m.asks0,m.says0,m.rooms0,m.asks4,m.says4,m.rooms26,?_,fun x hx=>?_,?_,fun r q=>?_⟩
 ·unfold kN;split
  ·exact m.nodup
  ·rename_i h;rw[cR];exact⟨m.nodup,by simp,fun a ha b hb e=>h (by rw[<-eW.1 hb,<-e];exact ha)⟩
 ·rcases mem_putD.mp hx with h|h
  ·exact m.good x h
  ·rw[h];exact g
 ·have:=r9 ds d;omega
 ·refine m.noround r ?_;unfold kN at q;split at q
  ·exact q
  ·exact q.unask n
theorem uQ(a:Str):bE a≠av:=by unfold bE av;intro h;injection h with _ h;cases h
structure TX(H0:Hp)(p c l:Addr)(R:List ak->Prop)(H:Hp):Prop where
 pen:fZ H p c
 ds:∃ts ds,H l=some (.lst (ts.map V.ref))/\cn H ts ds/\R ds
 ex:bu p H0 H
 fr:H0 l=none
 pl:p≠l
 cl:c≠l
section
variable{H0 H H':Hp}{p c l:Addr}{R R':List ak->Prop}
theorem TX.took(h:TX H0 p c l R H)(hp:fZ H' p c)(e:bu p H H'):TX H0 p c l R H':=by
 obtain⟨ts,ds,h1,h2,h3⟩:=h.ds;obtain⟨xs,hx⟩:=h.pen.lst;exact⟨hp,⟨ts,ds,e _ _ h1 h.pl.symm,h2.kt (e.kt hx),h3⟩,h.ex.trans e,h.fr,h.pl,h.cl⟩
theorem TX.same(h:TX H0 p c l R H)(S:ab H H'):TX H0 p c l R H':=h.took (h.pen.ex S) (ab.exB S)
theorem TX.imp(h:TX H0 p c l R H)(q:∀ds,R ds->R' ds):TX H0 p c l R' H:=by
 obtain⟨ts,ds,h1,h2,h3⟩:=h.ds;exact⟨h.pen,⟨ts,ds,h1,h2,q _ h3⟩,h.ex,h.fr,h.pl,h.cl⟩
theorem TX.put{ts:Ze}{ds:List ak}(h:TX H0 p c l R H)(hl:∃xs,H l=some (.lst xs))(hd:cn H ts ds)(r:R' ds):TX H0 p c l R' (upd H l (.lst (ts.map V.ref))):=by
 obtain⟨xs,hx⟩:=hl;refine⟨h.pen.upd h.pl h.cl,⟨ts,ds,aa,hd.kt fun b ys q=>?_,r⟩,fun b o q n=>?_,h.fr,h.pl,h.cl⟩
 ·rw[ai (fun z=>by rw[z,hx]at q;cases q)];exact q
 ·rw[ai (ae q h.fr)];exact h.ex _ _ q n
end
def WR(J0 J1 rooms:Zb)(D:List (Str×Str))(n:Nat)(ds:List ak):Prop:=aG J0 J1 rooms ds/\ds.length<=n/\∀x∈D,fX ds x.1 x.2
theorem WR.up{J0 J1 rooms:Zb}{D:List (Str×Str)}{n n':Nat}{ds:List ak}(h:WR J0 J1 rooms D n ds)(z:n<=n'):WR J0 J1 rooms D n' ds:=⟨h.1,aD h.2.1 z,h.2.2⟩
inductive jA (vs:List V)(H:Hp)(Q:VK)(E:XK):Prop
 |mk (p c t l1 l2 l3 l4:Addr) (ts:Ze) (J0 J1 rooms:Zb) (ds:List ak):(vs=[.ref p,.ref t])->(fZ H p c)->(fT H t l1 l2 l3 l4 ts J0 J1 rooms ds)->(aG J0 J1 rooms ds)->(rooms.length<=26)->(ds.length<=800)->(∀(t' l4':Addr) (ts':Ze) (ds':List ak) (H':Hp),fT H' t' l1 l2 l3 l4' ts' J0 J1 rooms ds'->aG J0 J1 rooms ds'->(∀r∈rooms,∀a∈J0,fX ds' r a)->ds'.length<=ds.length+4 * rooms.length->fZ H' p c->bu p H H'->Q (.ref t') H')->jA  vs H Q E
theorem yZ{K:Za}{vs:List V}{H:Hp}{Q:VK}{E:XK}(h:jA vs H Q E):tu K jC d6 (c6 K) (bd Q) (start t_ vs) H:=by
 obtain⟨p,c,t,l1,l2,l3,l4,ts,J0,J1,rooms,ds,rfl,hp,T,m,z26,z8,k⟩:=h;have a4:=m.asks4;refine⟨_,rfl,t,_,rfl,bA.of T.t,rfl,_,_,rfl,_,_,rfl,_,_,rfl,_,_,rfl,rfl,?_⟩;refine⟨_,rfl,.inl ⟨l4,_,rfl,.inl (ax.of T.a4),fun f hf=>?_⟩⟩;have B0:TX H p c f (WR J0 J1 rooms [] ds.length) (upd H f (.lst (ts.map V.ref))):=⟨hp.ex (ab.new hf),⟨ts,ds,aa,T.ds.kt (ab.kt (ab.new hf)),m,aA _,by simp⟩,bu.new hf,hf,hp.nep hf,hp.nec hf⟩;generalize upd H f (.lst (ts.map V.ref))=H1 at B0 ⊢;have keep:∀{H':Hp}{R:List ak->Prop},TX H p c f R H'->H' l1=some (.lst (J0.map V.str))/\H' l2=some (.lst (J1.map V.str))/\H' l3=some (.lst (rooms.map V.str)):=fun B =>
  ⟨B.ex _ _ T.a1 (hp.ne_strs T.a1),B.ex _ _ T.a2 (hp.ne_strs T.a2),B.ex _ _ T.a3 (hp.ne_strs T.a3)⟩
 refine⟨_,rfl,l3,rfl,⟨_,ax.of (keep B0).2.2⟩,?_⟩;refine bD (xs:=rooms.map V.str) (fun i σ H'=>∃a6 a7 a8 a9:Option V,σ=[some (.ref p),some (.ref t),some (.ref l1),some (.ref l2),some (.ref l3),some (.ref f),a6,a7,a8,a9]/\TX H p c f (WR J0 J1 rooms ((rooms.take i).flatMap fun r=>J0.map fun a=>(r,a)) (ds.length+4 * i)) H')
  ⟨_,_,_,_,rfl,B0⟩ (fun i σ H' _ ⟨_,_,_,_,_,B⟩=>ax.of (keep B).2.2) ?_ ?_
 ·rintro i v σ H2 hi ⟨a6,a7,a8,a9,rfl,B2⟩;obtain⟨r,hr,rfl⟩:=bf hi;have hir:i<rooms.length:=(bP.mp hr).1;have hrm:=bJ hr;refine⟨_,rfl,l1,rfl,⟨_,ax.of (keep B2).1⟩,?_⟩;refine bD (xs:=J0.map V.str) (fun j σ H'=>∃a7 a8 a9:Option V,σ=[some (.ref p),some (.ref t),some (.ref l1),some (.ref l2),some (.ref l3),some (.ref f),some (.str r),a7,a8,a9]/\TX H p c f (WR J0 J1 rooms ((rooms.take i).flatMap (fun r=>J0.map fun a=>(r,a))++(J0.take j).map fun a=>(r,a)) (ds.length+4 * i+j)) H')
   ⟨_,_,_,rfl,B2.imp fun ds h=>by simpa using h⟩ (fun i σ H' _ ⟨_,_,_,_,B⟩=>ax.of (keep B).1) ?_ ?_
  ·rintro j v σ H3 hj ⟨a7,a8,a9,rfl,B3⟩;obtain⟨a,ha,rfl⟩:=bf hj;have hja:j<J0.length:=(bP.mp ha).1;have ham:=bJ ha;have fin:∀es n,WR J0 J1 rooms ((rooms.take i).flatMap (fun r=>J0.map fun a=>(r,a))++(J0.take j).map fun a=>(r,a)) n es->fX es r a->WR J0 J1 rooms ((rooms.take i).flatMap (fun r=>J0.map fun a=>(r,a))++(J0.take (j+1)).map fun a=>(r,a)) n es:=fun es n w tk=>by
    refine⟨w.1,w.2.1,fun x hx=>?_⟩;rw[take_snoc ha,aq,<-eG]at hx;rcases bw.mp hx with h|h
    ·exact w.2.2 x h
    ·have:x=(r,a):=by simpa using h
     rw[this];exact tk
   refine⟨_,rfl,_,rfl,(by show 1<=aj;decide),fun q hq=>?_⟩;have B4:=B3.same (ab.new (o:=.lst [.str r]) hq);have q4:upd H3 q (.lst [.str r]) q=some (.lst [.str r]):=aa;generalize upd H3 q (.lst [.str r])=H4 at B4 q4 ⊢;obtain⟨us,es,g1,g2,g3⟩:=B4.ds;refine⟨f,q,us,es,[r],rooms,rfl,g1,g2,q4,fun d hd=>(g3.1.good d hd).b,by omega,(by show 1<=1000;decide),fun th F H5 hth hF _ _ S5=>?_⟩;have B5:=B4.same S5;have f5:=S5 _ _ g1;have d5:=g2.kt (ab.kt S5);refine⟨_,rfl,f,rfl,⟨_,ax.of f5⟩,fun l hl=>?_⟩;refine DY (K:=K) (jt:=8) (ja:=7) rfl rfl f5 d5 hth g3.1.few hl fun vs H6 h6 D6 S6=>⟨(by show 0<=aj;decide),fun e he=>?_⟩;refine DJ (kp h6 he) (D6.kt (ab.kt (ab.new he))) aa ⟨_,rfl,?_⟩;have S7:ab H5 (upd H6 e (.lst [])):=S6.trans (ab.new he);generalize upd H6 e (.lst [])=H7 at S7 ⊢;have f7:=S7 _ _ f5;have d7:=d5.kt (ab.kt S7);have B7:TX H p c f (fun ds'=>ds'=es) H7:=by
    have B:=B5.same S7;exact⟨B.pen,⟨us,es,f7,d7,rfl⟩,B.ex,B.fr,B.pl,B.cl⟩
   cases q:takesB es r a with
   |true =>
    rw[zzr0 (fun z=>by rw[yf hF,q]at z;cases z)];exact bS ⟨_,_,_,rfl,B7.imp fun ds' e=>by rw[e];exact fin _ _ (g3.up (by omega)) (kE.mp q)⟩
   |false =>
    rw[zzr1 ((yf hF).mpr q)];refine cj ?_;have l37:=(keep B7).2.2;refine⟨_,rfl,_,rfl,_,rfl,_,rfl,.inl ⟨l3,_,rfl,.inl (ax.of l37),?_⟩⟩;rw[ah];refine c9 B7.pen (by omega) (by omega) fun x H8 x0 x1 hp8 ex8=>?_;obtain⟨n,rfl⟩:=iS x0;have B8:=B7.took hp8 ex8;obtain⟨w,hw⟩:∃w,rooms[n]?=some w:=⟨_,iT (by omega)⟩;refine⟨l3,_,(n:Int),.str w,rfl,rfl,ax.of (keep B8).2.2,cy (j:=n) (by rw[cS,hw];rfl),(by show 2<=aj;decide),fun u hu=>?_⟩;have B9:=B8.same (ab.new (o:=.lst [.str r,.str w]) hu);have u9:upd H8 u (.lst [.str r,.str w]) u=some (.lst ([r,w].map V.str)):=aa;generalize upd H8 u (.lst [.str r,.str w])=H9 at B9 u9 ⊢;refine⟨_,rfl,c9 B9.pen (by decide) (by decide) fun y H10 y0 y1 hp10 ex10=>?_⟩;have B10:=B9.took hp10 ex10;obtain⟨g,hg,hgm⟩:∃g,ye ([r,w].map V.str) y=some (.str g)/\g∈rooms:=by
     have:y=0∨y=1:=by omega
     rcases this with rfl|rfl
     ·exact⟨r,rfl,hrm⟩
     ·exact⟨w,rfl,bJ hw⟩
    refine⟨u,_,y,.str g,rfl,rfl,ax.of (ex10 _ _ u9 (B9.pen.ne_strs u9)),hg,?_⟩;refine⟨_,rfl,_,rfl,_,rfl,(by show 2<=aj;decide),fun s hs=>⟨_,rfl,(by show 3<=aj;decide),fun d hd=>?_⟩⟩;have S12:ab H10 (upd (upd H10 s (.tup [.str "ask",.str a])) d (.tup [.str r,.ref s,.str g])):=(ab.new hs).trans (ab.new hd);have at12:gk (upd (upd H10 s (.tup [.str "ask",.str a])) d (.tup [.str r,.ref s,.str g])) d ⟨r,bE a,g⟩:=⟨s,aa,kp aa hd⟩;generalize upd (upd H10 s (.tup [.str "ask",.str a])) d (.tup [.str r,.ref s,.str g])=H12 at S12 at12 ⊢;have B12:=B10.same S12;obtain⟨us',es',k1,k2,rfl⟩:=id B12.ds;have zz:=g3.2.1;have good:yv J0 J1 rooms ⟨r,bE a,g⟩:=⟨hrm,hgm,.inl ⟨a,ham,rfl⟩⟩;refine⟨f,d,us',_,⟨r,bE a,g⟩,rfl,k1,k2,at12,g3.1.few,fun us2 D2=>?_⟩;refine⟨_,_,_,rfl,B12.put ⟨_,k1⟩ D2 (fin _ _ ⟨g3.1.putOne good (uQ a) (by omega),?_,fun x hx=>(g3.2.2 x hx).mono fun y hy=>mem_putD.mpr (.inl hy)⟩ ⟨r,.inl rfl,g,mem_putD.mpr (.inr rfl)⟩)⟩;have:=r9 es' ⟨r,bE a,g⟩;omega
  ·rintro σ H3 ⟨a7,a8,a9,rfl,B3⟩;refine⟨_,_,_,_,rfl,B3.imp fun es h=>?_⟩;rw[ah]at h;refine⟨h.1,by have:=h.2.1;omega,fun x hx=>h.2.2 x ?_⟩;rw[take_snoc hr,List.flatMap_append]at hx;rw[aT];simpa using hx
 ·rintro σ H2 ⟨a6,a7,a8,a9,rfl,B2⟩;rw[ah,aT]at B2;obtain⟨us,es,g1,g2,g3⟩:=B2.ds;obtain⟨q1,q2,q3⟩:=keep B2;refine⟨_,rfl,_,rfl,_,rfl,_,rfl,(by show 4<=aj;decide),fun t' ht'=>?_⟩;have S3:=ab.new (o:=.tup [.ref l1,.ref l2,.ref l3,.ref f]) ht';exact k t' f us es _ ⟨aa,S3 _ _ q1,S3 _ _ q2,S3 _ _ q3,S3 _ _ g1,g2.kt (ab.kt S3)⟩ g3.1 (fun r hr a ha=>g3.2.2 (r,a) (List.mem_flatMap.mpr ⟨r,hr,aL.mpr ⟨a,ha,rfl⟩⟩)) g3.2.1 (B2.pen.ex S3) (B2.ex.trans (ab.exB S3))
def oO(K:Za)(C_Machine:Addr)(sp_Machine_asks:Sp)(sp_Machine_says:Sp)(a_HUSH:Addr):TS :=
 a_ (aJ kb (aJ kb (b_ 1 [] (bq K (bY C_Machine "asks" sp_Machine_asks [] E0 V0 bm)) U0 (gV) (bo (aS (tC (.str "ask")) V0))) (b_ 1 [] (bq K (bY C_Machine "says" sp_Machine_says [] E0 V0 bm)) U0 (gV) (bo (aS (tC (.str "say")) V0)))) (cK (ay (tC (.ref a_HUSH)))))
def pj:List Str:=["M"]
def yH(K:Za)(sp_signs_in_order:Sp)(sp_face_behind:Sp):TS :=
 ar (aM (iV) U2)
 (ar (dZ (bq K (aI sp_signs_in_order (ay V0))) U3 (ar (aM (aI sp_face_behind (bX V0 V1 V3)) U4)
 (cz (aV (aJ C5 (fE (gH K) (ay V4)) (tC (.int 0)))) (CF K V2 V3 V4) (bH))))
 (a_ V2))
def zU:List Str:=["M","face","steps","sign","behind"]
abbrev Sg:=List Str
def stepsF(J0 J1 rooms:Zb)(ds:List ak)(J5:Zb):List (Sg×List Str):=((bR J0 J1).map fun sg=>(sg,behF rooms ds J5 sg)).filter fun p=>decide (p.2≠[])
structure FMs where
 fs:List (List Str)
 ss:List (List Sg)
abbrev FMst:=FMs×List (List (Sg×Nat))
def Fp(hu:Addr)(H:Hp)(u:Addr)(sg:Zb):Prop:=H u=some (.tup (sg.map V.str))∨(u=hu/\sg=b9)
theorem Fp.same{hu:Addr}{H H':Hp}{u:Addr}{sg:Zb}(h:Fp hu H u sg)(S:ab H H'):Fp hu H' u sg:=h.imp (S _ _) id
theorem Al{K:Za}{a:Addr}{xs:List V}(h:∀H,bA K H a xs)(H:Hp):gj K H a xs:=by
 rcases h (fun _=>none)with(h|⟨o,h⟩)|h
 ·cases h
 ·cases h
 ·exact .inr h
section
variable{K:Za}{hu:Addr}(hh:∀H,bA K H hu (b9.map V.str))
include hh
theorem Fp.tup{H:Hp}{u:Addr}{sg:Zb}(h:Fp hu H u sg):gj K H u (sg.map V.str):=by
 rcases h with h|⟨rfl,rfl⟩
 ·exact .inl h
 ·exact Al hh H
theorem Fp.sq{H:Hp}{u:Addr}{sg:Zb}(h:Fp hu H u sg):bA K H u (sg.map V.str):=by
 rcases h with h|⟨rfl,rfl⟩
 ·exact bA.of h
 ·exact hh H
end
inductive vW(C hu:Addr)(vs:List V)(H:Hp)(Q:VK)(E:XK):Prop
 |mk (x:Addr) (J0 J1 rooms:Zb) (ds:List ak):(vs=[.ref x])->(aW C H x J0 J1 rooms ds)->(∀(l:Addr) (us:Ze) (H':Hp),H' l=some (.lst (us.map V.ref))->Paired (Fp hu H') us (bR J0 J1)->ab H H'->Q (.ref l) H')->vW C hu vs H Q E
theorem FV{K:Za}{C hu:Addr}{vs:List V}{H:Hp}{Q:VK}{E:XK}(h:vW C hu vs H Q E):oO K C (ln C) (lb C) hu (bd Q) (start pj vs) H:=by
 obtain⟨x,J0,J1,rooms,ds,rfl,M,k⟩:=h;have z1:=M.ok.asks4;have z2:=M.ok.says4;obtain⟨dx,fs,o1,o2,lv,lps,g1,a1,a2,_⟩:=rS M;refine⟨_,rfl,x,dx,fs,rfl,g1,a1,x,J0,J1,rooms,ds,rfl,M,fun w1 hw1=>⟨w1,rfl,⟨_,ax.of aa⟩,fun la hla=>?_⟩⟩;have S0:ab H (upd H w1 (.lst (J0.map V.str))):=ab.new hw1;refine jL (kd:="ask") (ws:=J0) aa (by omega) hla fun ua H1 h1 hP1 S1=>?_;have M1:=M.same (S0.trans S1);obtain⟨dx,fs,o1,o2,lv,lps,g1,a1,a2,_⟩:=rS M1;refine⟨_,rfl,x,dx,fs,rfl,g1,a2,x,J0,J1,rooms,ds,rfl,M1,fun w2 hw2=>⟨w2,rfl,⟨_,ax.of aa⟩,fun ls hls=>?_⟩⟩;have S2:ab H1 (upd H1 w2 (.lst (J1.map V.str))):=ab.new hw2;refine jL (kd:="say") (ws:=J1) aa (by omega) hls fun us H2 h2 hP2 S3=>?_;have S23:=S2.trans S3;have h12:=S23 _ _ h1;have hP12:=jM.kt (ab.kt S23) hP1;refine⟨la,ls,_,_,rfl,rfl,h12,h2,?_,fun c1 hc1=>?_⟩
 ·rw[ah,ah,Paired.length hP1,Paired.length hP2,ah,ah];exact cZ (am (by omega))
 refine⟨(by show 1<=aj;decide),fun hl hhl=>?_⟩;refine⟨c1,hl,_,_,rfl,rfl,kp aa hhl,aa,?_,fun r hr=>?_⟩
 ·rw[aZ,ah,ah,Paired.length hP1,Paired.length hP2,ah,ah];exact cZ (am (by show _+1<=1000;omega))
 have S4:=((ab.new (o:=.lst (ua.map V.ref++us.map V.ref)) hc1).trans (ab.new (o:=.lst [.ref hu]) hhl)).trans (ab.new (o:=.lst (ua.map V.ref++us.map V.ref++[.ref hu])) hr);refine k r (ua++us++[hu]) _ ?_ ?_ (((S0.trans S1).trans S23).trans S4)
 ·rw[aa,aq,aq];rfl
 ·exact Paired.app (Paired.app (Paired.mapP (jM.kt (ab.kt S4) hP12) fun _ _ r=>.inl r) (Paired.mapP (jM.kt (ab.kt S4) hP2) fun _ _ r=>.inl r)) (.cons (.inr ⟨rfl,rfl⟩) .nil)
theorem sD{J0 J1 rooms:Zb}{ds:List ak}(m:aG J0 J1 rooms ds):(bR J0 J1).Nodup:=by
 unfold bR;have i1:∀a b:Str,bE a=bE b->a=b:=fun a b h=>by unfold bE at h;injection h with _ h;injection h
 have i2:∀a b:Str,fH a=fH b->a=b:=fun a b h=>by unfold fH at h;injection h with _ h;injection h
 have nd:∀{f:Str->List Str}{l:Zb},(∀a b,f a=f b->a=b)->l.Nodup->(l.map f).Nodup:=by
  intro f l hf hl;rw[uY,List.pairwise_map];exact(uY.1 hl).imp fun h e=>h (hf _ _ e)
 rw[cR,cR];refine⟨⟨nd i1 m.okA.1,nd i2 m.okS.1,?_⟩,by simp,?_⟩
 ·intro x hx y hy e;obtain⟨a,_,rfl⟩:=aL.1 hx;obtain⟨b,_,rfl⟩:=aL.1 hy;unfold bE fH at e;injection e with e _;exact absurd e (by decide)
 ·intro x hx y hy e;rw[eW.1 hy]at e;rcases bw.1 hx with hx|hx
  ·obtain⟨a,_,rfl⟩:=aL.1 hx;unfold bE b9 at e;injection e with _ e;cases e
  ·obtain⟨a,_,rfl⟩:=aL.1 hx;unfold fH b9 at e;injection e with _ e;cases e
abbrev jr(H:Hp)(kvs:List (TK×V))(L:List (Sg×List Str)):Prop:=Paired (fun(kv:TK×V) (p:Sg×List Str)=>kv.1=eE p.1/\∃u,kv.2=.ref u/\H u=some (.tup (p.2.map V.str))) kvs L
theorem Eo{κ:Type}[DecidableEq κ]{kvs:List (κ×V)}{k:κ}(h:∀kv∈kvs,kv.1≠k):aU kvs k=none:=by
 unfold aU;rw[List.find?_eq_none.2 fun kv hkv=>by simpa using h kv hkv]
 rfl
theorem eh(sg:Zb):(eE sg).depth<=8:=by
 have:∀l:List Str,TK.depths (l.map nP)=0:=by
  intro l
  induction l with
  |nil=>rfl
  |cons a l ih=>show max (TK.depth (nP a)) (TK.depths _)=0;rw[ih];rfl
 show TK.depths (sg.map nP)+1<=8;rw[this];decide
def stG(rooms:Zb)(ds:List ak)(J5:Zb)(L:List (List Str)):List (Sg×List Str):=(L.map fun sg=>(sg,behF rooms ds J5 sg)).filter fun p=>decide (p.2≠[])
theorem xo(rooms:Zb)(ds:List ak)(J5:Zb)(L:List (List Str))(sg:Zb):stG rooms ds J5 (L++[sg])=stG rooms ds J5 L++if behF rooms ds J5 sg=[]then[]else[(sg,behF rooms ds J5 sg)]:=by
 unfold stG;rw[aq,gS];congr 1;by_cases c:behF rooms ds J5 sg=[]
 ·rw[if_pos c];simp[c]
 ·rw[if_neg c];simp[c]
theorem EA{rooms:Zb}{ds:List ak}{J5:Zb}{L:List (List Str)}{p:Sg×List Str}(h:p∈stG rooms ds J5 L):p.1∈L:=by
 obtain⟨sg,hs,rfl⟩:=aL.1 (fg.1 h).1;exact hs
theorem EB{rooms:Zb}{ds:List ak}{J5:Zb}{L:List (List Str)}:(stG rooms ds J5 L).length<=L.length:=by
 unfold stG;exact aD (cB _ _) (by rw[ah];exact aA _)
theorem jr.kt{H H':Hp}{kvs:List (TK×V)}{L:List (Sg×List Str)}(k:iB H H')(h:jr H kvs L):jr H' kvs L:=Paired.mapP h fun _ _ ⟨e,u,e2,r⟩=>⟨e,u,e2,k _ _ r⟩
theorem jr.no{H:Hp}{kvs:List (TK×V)}{L:List (Sg×List Str)}(h:jr H kvs L){sg:Sg}(n:∀p∈L,p.1≠sg):aU kvs (eE sg)=none:=by
 refine Eo ?_
 induction h with
 |nil=>intro kv hk;exact nomatch hk
 |@cons a b as bs r t ih =>
  intro kv hk;rcases cA.1 hk with rfl|hk
  ·rw[r.1];exact fun e=>n b fx (eS e)
  ·exact ih (fun p hp=>n p (fq _ hp)) kv hk
theorem wc{α:Type}{L:List α}(nd:L.Nodup){i:Nat}{x:α}(e:L[i]?=some x):¬x∈L.take i:=by
 intro h;obtain⟨j,hj,ej⟩:=List.getElem_of_mem h;rw[az]at hj;have hi:i<L.length:=by rcases Nat.lt_or_ge i L.length with z|z;exact z;rw[List.getElem?_eq_none z]at e;cases e
 rw[List.getElem_take]at ej;rw[iT hi]at e;injection e with e;exact List.pairwise_iff_getElem.1 (uY.1 nd) j i (by omega) hi (by omega) (ej.trans e.symm)
theorem FH{H:Hp}{d:Addr}{kvs:List (TK×V)}{o:HO}(h:H d=some (.dT kvs)):iB H (upd H d o):=fun b xs e=>by rw[ai (fun z=>by rw[z,h]at e;cases e)];exact e
theorem ifQ{b:Bool}{P X Y:Prop}(h:b=true↔P)(h1:P->X)(h2:¬P->Y):if b=true then X else Y:=by
 cases b with
 |true=>exact h1 (h.1 rfl)
 |false=>exact h2 fun z=>by cases h.2 z
inductive jB(C:Addr)(vs:List V)(H:Hp)(Q:VK)(E:XK):Prop
 |mk (x t:Addr) (J5 J0 J1 rooms:Zb) (ds:List ak):(vs=[.ref x,.ref t])->(aW C H x J0 J1 rooms ds)->(H t=some (.tup (J5.map V.str)))->((∀r∈J5,r∈rooms))->(J5.length<=1000)->(∀(d:Addr) (kvs:List (TK×V)) (H':Hp),H' d=some (.dT kvs)->jr H' kvs (stepsF J0 J1 rooms ds J5)->H d=none->ab H H'->Q (.ref d) H')->jB C vs H Q E
theorem y8{K:Za}{C hu:Addr}(hh:∀H,bA K H hu (b9.map V.str)){vs:List V}{H:Hp}{Q:VK}{E:XK}(h:jB C vs H Q E):yH K (vW C hu) (qE K C) (bd Q) (start zU vs) H:=by
 obtain⟨x,t,J5,J0,J1,rooms,ds,rfl,M,ht,hsub,hz,k⟩:=h;have z1:=M.ok.asks4;have z2:=M.ok.says4;have zl:(bR J0 J1).length<=9:=by unfold bR;rw[aZ,aZ,ah,ah];show _+1<=9;omega
 have nd:=sD M.ok;refine fun d hd=>?_;have S0:ab H (upd H d (.dT [])):=ab.new hd;refine⟨_,rfl,x,J0,J1,rooms,ds,rfl,M.same S0,fun l us H1 hl hP S1=>⟨l,rfl,⟨_,ax.of hl⟩,?_⟩⟩;refine bD (xs:=us.map V.ref) (fun i σ H'=>∃(kvs:List (TK×V)) (x3 x4:Option V),σ=[some (.ref x),some (.ref t),some (.ref d),x3,x4]/\H' d=some (.dT kvs)/\ab H H'/\(∀b o,H1 b=some o->b≠d->H' b=some o)/\jr H' kvs (stG rooms ds J5 ((bR J0 J1).take i)))
  ⟨[],_,_,rfl,S1 _ _ aa,S0.trans S1,fun _ _ e _=>e,.nil⟩ (fun i σ H' _ ⟨_,_,_,_,_,_,S,_⟩=>ax.of (S _ _ hl fun e=>by subst e;have:=S1 _ _ (aa (H:=H) (a:=l) (o:=.dT []));rw[hl]at this;cases this)) ?_ ?_
 ·rintro i y σ H2 hi ⟨kvs,x3,x4,rfl,h2,S2,S12,st⟩;obtain⟨u,hu',rfl⟩:=bQ hi;obtain⟨sg,hsg,hat⟩:=Paired.getL hP hu';have hat2:Fp hu H2 u sg:=hat.imp (fun e=>S12 _ _ e fun z=>by subst z;have:=S1 _ _ (aa (H:=H) (a:=u) (o:=.dT []));rw[e]at this;cases this) id;refine⟨_,rfl,_,rfl,_,rfl,x,t,u,J5,sg,J0,J1,rooms,ds,rfl,M.same S2,S2 _ _ ht,hat2.sq hh,hat2.symm.imp (fun e=>e.2) id,hsub,hz,fun f H3 hf S3=>?_⟩;have h3:=S3 _ _ h2;refine⟨_,rfl,.inl ⟨f,_,rfl,.inr (bA.of hf),_,_,rfl,rfl,?_⟩⟩;refine⟨_,rfl,?_⟩;have hat3:=hat2.same S3;have S13:∀b o,H1 b=some o->b≠d->H3 b=some o:=fun b o e n=>S3 _ _ (S12 b o e n);have st3:=st.kt (ab.kt S3);refine ifQ (P:=behF rooms ds J5 sg≠[]) ?_ (fun c=>?_) (fun c=>?_)
  ·rw[ah];constructor
   ·intro h z;rw[z]at h;exact absurd h (by decide)
   ·intro h;exact zzr1 (by have:=List.length_pos_iff.mpr h;omega)
  rotate_left
  ·have c:=Classical.not_not.1 c;refine⟨kvs,_,_,rfl,h3,S2.trans S3,S13,?_⟩;rw[take_snoc hsg,xo,if_pos c,dD];exact st3
  ·have no:aU kvs (eE sg)=none:=st3.no fun p hp e=>by
    have h1:=EA hp;rw[e]at h1;exact wc nd hsg h1
   have ll:kvs.length<aj:=by
    rw[Paired.length st];refine am ?_;have h1:=EB (rooms:=rooms) (ds:=ds) (J5:=J5) (L:=(bR J0 J1).take i);rw[az]at h1;omega
   refine⟨_,rfl,_,rfl,_,rfl,d,u,kvs,eE sg,rfl,rfl,h3,CA (hat3.tup hh),eh sg,ll,_,_,_,rfl,aa,?_,?_,?_⟩
   ·intro b o e;rw[ai (ae e hd)];exact S3 _ _ (S2 _ _ e)
   ·intro b o e n;rw[ai n];exact S13 b o e n
   ·rw[gJ _ no,take_snoc hsg,xo,if_neg c];have kt:iB H3 (upd H3 d (.dT (kvs++[(eE sg,.ref f)]))):=FH h3;exact f8 (st3.kt kt) ⟨rfl,f,rfl,kt _ _ hf⟩
 ·rintro σ H2 ⟨kvs,x3,x4,rfl,h2,S2,_,st⟩;rw[ah,Paired.length hP,aT]at st;exact⟨_,rfl,k d kvs H2 h2 st hd S2⟩
abbrev dI(K:Za)(H:Hp)(w:Addr)(s:List Sg):Prop:=∃gs:List Addr,H w=some (.lst (gs.map V.ref))/\Paired (fun g (sg:Sg)=>gj K H g (sg.map V.str)) gs s
theorem gj.kt{K:Za}{H H':Hp}{a:Addr}{xs:List V}(k:iB H H')(h:gj K H a xs):gj K H' a xs:=h.keeps k
theorem dI.kt{K:Za}{H H':Hp}{w:Addr}{s:List Sg}(k:iB H H')(e:∀o,H w=some o->H' w=some o)(h:dI K H w s):dI K H' w s:=by
 obtain⟨gs,h1,h2⟩:=h;exact⟨gs,e _ h1,Paired.mapP h2 fun _ _ r=>gj.kt k r⟩
theorem ur{K:Za}{H:Hp}:∀{sg:Zb}{xs:List V},TKCs K H (sg.map nP) xs->xs=sg.map V.str
 |[],xs,h=>by rw[q_]at h;unfold TKCs at h;exact h
 |s::sg,xs,h=>by
  rw[bj]at h;unfold TKCs at h;obtain⟨v,us,rfl,h1,h2⟩:=h;unfold nP p7 at h1;rw[h1,ur h2]
  rfl
theorem Cy{K:Za}{H:Hp}{sg:Zb}{a:V}(h:p7 K H (eE sg) a):∃b,a=.ref b/\gj K H b (sg.map V.str):=by
 unfold eE p7 at h;obtain⟨b,xs,rfl,h1,h2⟩:=h;rw[ur h2]at h1;exact⟨b,rfl,h1⟩
theorem preSum_eq{α:Type}(c:List (α×Int))(val:Nat->Int)(hv:∀(i:Nat) p,c[i]?=some p->val i=p.2):preSum val c.length=(c.map (·.2)).sum:=by
 have key:∀j,j<=c.length->preSum val j=((c.take j).map (·.2)).sum:=by
  intro j
  induction j with
  |zero=>intro _;rfl
  |succ j ih =>
   intro h;have hp:c[j]?=some c[j]:=iT (by omega);rw[take_snoc hp,aq,uV];show preSum val j+val j=_;rw[ih (by omega),hv j _ hp];simp
 have:=key c.length (aA _);rw[aT]at this;exact this
theorem An{K:Za}{H:Hp}:∀xs:List Str,TKIns K H (xs.map nP) (xs.map V.str)
 |[]=>by show TKIns K H [] [];unfold TKIns;rfl
 |x::xs=>by
  rw[bj,bj];unfold TKIns;refine⟨_,_,rfl,?_,An xs⟩;unfold nP lU
  rfl
theorem gj.sq{K:Za}{H:Hp}{a:Addr}{xs:List V}(h:gj K H a xs):bA K H a xs:=h.imp .inl id
theorem vx{K:Za}{H:Hp}{a:Addr}{f:Zb}(h:gj K H a (f.map V.str)):lU K H (eE f) (.ref a):=by
 unfold eE lU;exact⟨a,_,rfl,gj.sq h,An f⟩
theorem BX{k:Nat}{fi:List Nat}{d l:Addr}{o:Obj}{u:HO}{n:Nat}{ent:Nat->Hp->V->V->Prop}{g:TG}{tc:TT}{te:TE}{σ:L2.St}{H1:Hp}{Q:Hp->Prop}(Pv:Nat->List V->Hp->Prop)(h0:Pv 0 [] (upd H1 l (.lst [])))
  (hl:∀i vs H,i<=n->Pv i vs H->H l=some (.lst vs)/\H d=some (.frz o u)) (hd:∀vs H,Pv n vs H->Q H)
  (hs:∀i vs H a b,i<n->Pv i vs H->ent i H a b->g a (cW k fi σ) H fun σ2 H4=>tc σ2 H4 fun b H5 =>
   if b=true then te σ2 H5 fun v H6=>H6 l=some (.lst vs)/\vs.length<aj/\∃m',m'<n-i/\Wc n Pv (i+1) m' (vs++[v]) (upd H6 l (.lst (vs++[v])))else ∃m',m'<n-i/\Wc n Pv (i+1) m' vs H5) :
  dU k fi σ (GB d o u n ent) g tc te H1 l Q:=by
 refine kY n Pv h0 (fun i vs H hi p=>(hl i vs H hi p).1) (fun i vs H hi p=>⟨(hl i vs H (cZ hi) p).2,hi⟩) (fun vs H p=>⟨⟨(hl n vs H (aA _) p).2,aA _⟩,hd vs H p⟩) fun i vs H x H3 hi p y=>?_;obtain⟨rfl,b,en⟩:=y;exact hs i vs _ x b hi p en
def tq(K:Za)(C_Machine:Addr)(sp_Machine_says:Sp)(sp_Machine_asks:Sp):TS :=
 cz (Eg (aV (aJ (xy K) (bY C_Machine "asks" sp_Machine_asks [] E0 V0 bm) (bY C_Machine "asks" sp_Machine_asks [] E0 V1 bm))) (aV (aJ (xy K) (bY C_Machine "says" sp_Machine_says [] E0 V0 bm) (bY C_Machine "says" sp_Machine_says [] E0 V1 bm)))) (rE) (bH)
def t9:List Str:=["M","I"]
def jx(K:Za)(C_Machine:Addr)(sp_Machine_rooms:Sp)(sp_Machine_asks:Sp)(jc:Sp):TS :=
 dZ (bq K (bY C_Machine "rooms" sp_Machine_rooms [] E0 V0 bm)) U1 (dZ (bq K (bY C_Machine "asks" sp_Machine_asks [] E0 V0 bm)) U2 (cz (Ev (tB (aI jc (bX V0 V1 V2)))) (rE) (bH)))
def jO:List Str:=["I","room","ask"]
def tp(K:Za)(sp_need_all_asks_taken:Sp)(sp_need_match:Sp):TS :=
 ar (cr (aI sp_need_match (aS V0 V1)))
 (cr (aI sp_need_all_asks_taken (ay V1)))
def t8:List Str:=["M","I"]
def vD(K:Za)(sp_law_put:Sp)(sp_law_take:Sp)(sp_law_still_on:Sp):TS :=
 ar (aM V1 (lS K 4 (bI U2 (bI U3 (bI U4 (bI U5 (kS)))))))
 (ar (aM (fE (da K) (ay V5)) U5)
 (ar (aM (aI sp_law_take (aS V0 (tC (.int 6)))) U6)
 (ar (aM (aI sp_law_take (ao V0 (ay (fE GI (aS (tC (.int 1)) (fE (gH K) (ay V5))))))) U7)
 (ar (aM (aJ (dk K) V4 (aI sp_law_take (aS V0 (fE (gH K) (ay V4))))) U8)
 (ar (aM (aJ (dk K) V4 (aI sp_law_take (aS V0 (fE (gH K) (ay V4))))) U9)
 (ar (cz (aV (aJ v5 V6 (tC (.int 0)))) (cr (aI sp_law_put (ao V5 (ao (bo (ao V8 (ao (bo (ao (tC (.str "say")) (ao (aJ (dk K) V3 (aI sp_law_take (aS V0 (fE (gH K) (ay V3))))) bm))) (ay V9)))) bm)))) (cz (aV (aJ v5 V6 (tC (.int 1)))) (cr (aI sp_law_put (ao V5 (ao (bo (ao V8 (ao (bo (ao (tC (.str "ask")) (ao (aJ (dk K) V2 (aI sp_law_take (aS V0 (fE (gH K) (ay V2))))) bm))) (ay V9)))) bm)))) (cz (rL (aV (aJ C3 V6 (tC (.int 4)))) (rL (aV (aJ (xy K) V5 (cK (bm)))) (aV (aJ Hl (aJ (o5 K) (aJ (o5 K) (aJ (dk K) V5 V7) (tC (.int 1))) (tC (.int 0))) (tC (.str "still")))))) (ar (aM (Bk K "list" C1 V5 (ay V7)) G3)
 (cz (aV (aJ v5 V6 (tC (.int 3)))) (cr (aI sp_law_put (ao V5 (ao (bo (bX (aJ (o5 K) Ej (tC (.int 0))) (aJ (o5 K) Ej (tC (.int 1))) V9)) bm)))) (bH))) (cz (rL (aV (aJ v5 V6 (tC (.int 4)))) (aV (aJ (nS K true) V8 (aI sp_law_still_on (aS V5 (cK (ay V9))))))) (cr (aI sp_law_put (ao V5 (ao (bo (bX V8 (bo (ay (tC (.str "still")))) V9)) bm)))) (bH)))))
 (a_ (bo (ao V2 (bX V3 V4 V5))))))))))
def wH:List Str:=["pen","told","asks","says","rooms","doors","way","at","room","other","door"]
def yL(K:Za)(sp_law_take:Sp)(sp_law_renamed:Sp)(sp_law_willing:Sp)(sp_law_turned:Sp)(sp_law_anew:Sp):TS :=
 ar (cr (aI sp_law_anew (ay V0)))
 (ar (dZ (uD (ao (aI sp_law_take (aS V0 (aJ dq V2 (tC (.int 1))))) bm)) U3 (aM (aI sp_law_turned (aS V0 V1)) U1))
 (ar (aM (aI sp_law_willing (aS V0 V1)) U1)
 (ar (cz (aV (aJ v5 (aI sp_law_take (aS V0 (tC (.int 2)))) (tC (.int 0)))) (aM (aI sp_law_renamed (aS V0 V1)) U1) (bH))
 (a_ V1))))
def zX:List Str:=["pen","told","most","turn"]
inductive fG(C:Addr)(vs:List V)(H:Hp)(Q:VK)(E:XK):Prop
 |mk (x y:Addr) (J0 J1 rooms rooms':Zb) (ds ds':List ak):(vs=[.ref x,.ref y])->(aW C H x J0 J1 rooms ds)->(aW C H y J0 J1 rooms' ds')->(∀H',ab H H'->Q .non H')->fG C vs H Q E
theorem rY{K:Za}{C:Addr}{vs:List V}{H:Hp}{Q:VK}{E:XK}(h:fG C vs H Q E):tq K C (lb C) (ln C) (bd Q) (start t9 vs) H:=by
 obtain⟨x,y,J0,J1,rooms,rooms',ds,ds',rfl,M,N,k⟩:=h;obtain⟨dx,fs,g1,a1,a2,_⟩:=id M.more;obtain⟨dy,gs,g2,b1,b2,_⟩:=id N.more;refine⟨_,rfl,x,dx,fs,rfl,g1,a1,x,J0,J1,rooms,ds,rfl,M,fun l1 h1=>?_⟩;have S1:ab H (upd H l1 (.lst (J0.map V.str))):=ab.new h1;have e1:upd H l1 (.lst (J0.map V.str)) l1=some (.lst (J0.map V.str)):=aa;generalize upd H l1 (.lst (J0.map V.str))=H1 at S1 e1 ⊢;refine⟨_,rfl,y,dy,gs,rfl,S1 _ _ g2,b1,y,J0,J1,rooms',ds',rfl,N.same S1,fun l2 h2=>?_⟩;have S2:ab H (upd H1 l2 (.lst (J0.map V.str))):=S1.trans (ab.new h2);refine AF (kp e1 h2) aa ⟨_,rfl,?_⟩;generalize upd H1 l2 (.lst (J0.map V.str))=H2 at S2 ⊢;rw[zzr1 rfl];refine bS ?_;refine⟨_,rfl,x,dx,fs,rfl,S2 _ _ g1,a2,x,J0,J1,rooms,ds,rfl,M.same S2,fun l3 h3=>?_⟩;have S3:ab H (upd H2 l3 (.lst (J1.map V.str))):=S2.trans (ab.new h3);have e3:upd H2 l3 (.lst (J1.map V.str)) l3=some (.lst (J1.map V.str)):=aa;generalize upd H2 l3 (.lst (J1.map V.str))=H3 at S3 e3 ⊢;refine⟨_,rfl,y,dy,gs,rfl,S3 _ _ g2,b2,y,J0,J1,rooms',ds',rfl,N.same S3,fun l4 h4=>?_⟩;have S4:ab H (upd H3 l4 (.lst (J1.map V.str))):=S3.trans (ab.new h4);refine AF (kp e3 h4) aa ⟨_,rfl,?_⟩;rw[zzr1 rfl];exact bS (k _ S4)
inductive g_(C:Addr)(vs:List V)(H:Hp)(Q:VK)(E:XK):Prop
 |mk (x:Addr) (J0 J1 rooms:Zb) (ds:List ak):(vs=[.ref x])->(aW C H x J0 J1 rooms ds)->((∀r∈rooms,∀a∈J0,fX ds r a))->(∀H',ab H H'->Q .non H')->g_ C vs H Q E
theorem v3{K:Za}{C:Addr}{vs:List V}{H:Hp}{Q:VK}{E:XK}(h:g_ C vs H Q E):jx K C (jd C) (ln C) (jc C) (bd Q) (start jO vs) H:=by
 obtain⟨x,J0,J1,rooms,ds,rfl,M,tk,k⟩:=h;obtain⟨dx,fs,o1,o2,o3,o4,lv,qu,sgA,sl,ts,lps,gps,sps,g1,a1,a2,a3,a4,_⟩:=id M.at_;refine⟨_,rfl,x,dx,fs,rfl,g1,a4,x,J0,J1,rooms,ds,rfl,M,fun l1 h1=>?_⟩;have S1:ab H (upd H l1 (.lst (rooms.map V.str))):=ab.new h1;have e1:upd H l1 (.lst (rooms.map V.str)) l1=some (.lst (rooms.map V.str)):=aa;generalize upd H l1 (.lst (rooms.map V.str))=H1 at S1 e1 ⊢;refine⟨l1,rfl,⟨_,ax.of e1⟩,?_⟩;refine bD (xs:=rooms.map V.str) (fun i σ H'=>∃y z,σ=[some (.ref x),y,z]/\ab H1 H') ⟨_,_,rfl,ab.refl _⟩ (fun i σ H' _ ⟨_,_,_,S⟩=>ax.of (S _ _ e1)) ?_ ?_
 ·rintro i v σ H2 hi ⟨y,z,rfl,S2⟩;obtain⟨r,hr,rfl⟩:=bf hi;have M2:=M.same (S1.trans S2);obtain⟨dx,fs,g1,a1,_⟩:=id M2.more;refine⟨_,rfl,x,dx,fs,rfl,g1,a1,x,J0,J1,rooms,ds,rfl,M2,fun l2 h2=>?_⟩;have S3:ab H1 (upd H2 l2 (.lst (J0.map V.str))):=S2.trans (ab.new h2);have e2:upd H2 l2 (.lst (J0.map V.str)) l2=some (.lst (J0.map V.str)):=aa;generalize upd H2 l2 (.lst (J0.map V.str))=H3 at S3 e2 ⊢;refine⟨l2,rfl,⟨_,ax.of e2⟩,?_⟩;refine bD (xs:=J0.map V.str) (fun j σ H'=>∃z,σ=[some (.ref x),some (.str r),z]/\ab H3 H') ⟨_,rfl,ab.refl _⟩ (fun i σ H' _ ⟨_,_,S⟩=>ax.of (S _ _ e2)) ?_ ?_
  ·rintro j v σ H4 hj ⟨z,rfl,S4⟩;obtain⟨a,ha,rfl⟩:=bf hj;refine⟨_,rfl,_,rfl,_,rfl,x,r,a,J0,J1,rooms,ds,rfl,M.same ((S1.trans S3).trans S4),bJ hr,fun H5 S5=>⟨_,rfl,?_⟩⟩;rw[kE.2 (tk r (bJ hr) a (bJ ha))];exact bS ⟨_,rfl,S4.trans S5⟩
  ·rintro σ H4 ⟨z,rfl,S4⟩;exact⟨_,_,rfl,S3.trans S4⟩
 ·rintro σ H2 ⟨y,z,rfl,S2⟩;exact k H2 (S1.trans S2)
inductive fF(C:Addr)(vs:List V)(H:Hp)(Q:VK)(E:XK):Prop
 |mk (x y:Addr) (J0 J1 rooms rooms':Zb) (ds ds':List ak):(vs=[.ref x,.ref y])->(aW C H x J0 J1 rooms ds)->(aW C H y J0 J1 rooms' ds')->((∀r∈rooms',∀a∈J0,fX ds' r a))->(∀H',ab H H'->Q .non H')->fF C vs H Q E
theorem rX{K:Za}{C:Addr}{vs:List V}{H:Hp}{Q:VK}{E:XK}(h:fF C vs H Q E):tp K (g_ C) (fG C) (bd Q) (start t8 vs) H:=by
 obtain⟨x,y,J0,J1,rooms,rooms',ds,ds',rfl,M,N,tk,k⟩:=h;exact⟨_,rfl,_,rfl,x,y,J0,J1,rooms,rooms',ds,ds',rfl,M,N,fun H1 S1=>⟨_,rfl,y,J0,J1,rooms',ds',rfl,N.same S1,tk,fun H2 S2=>k H2 (S1.trans S2)⟩⟩
theorem aG.out{J0 J1 rooms:Zb}{ds:List ak}(m:aG J0 J1 rooms ds)(k:Nat):aG J0 J1 rooms (ds.eraseIdx k):=by
 have sub:(ds.eraseIdx k).Sublist ds:=List.eraseIdx_sublist ds k;exact{ m with nodup:=m.nodup.sublist sub,good:=fun d hd=>m.good d (sub.mem hd),few:=aD sub.length_le m.few,noround:=fun r z=>m.noround r (z.mono fun x y h=>sub.mem h) }
theorem Paired.out{α β:Type}{R:α->β->Prop}:∀{as:List α}{bs:List β}(k:Nat),Paired R as bs->Paired R (as.eraseIdx k) (bs.eraseIdx k)
 |_,_,_,.nil=>.nil
 |_,_,0,.cons _ t=>t
 |_,_,k+1,.cons r t=>.cons r (Paired.out k t)
theorem uH{α β:Type}(f:α->β):∀(l:List α) (n:Nat),(l.map f).eraseIdx n=(l.eraseIdx n).map f
 |[],_=>rfl
 |_::_,0=>rfl
 |a::l,n+1=>by show f a::_=f a::_;rw[uH f l n]
def TR(J0 J1 rooms:Zb)(n:Nat)(ds:List ak):Prop:=aG J0 J1 rooms ds/\ds.length<=n
inductive k9 (vs:List V)(H:Hp)(Q:VK)(E:XK):Prop
 |mk (p c t l1 l2 l3 l4:Addr) (ts:Ze) (J0 J1 rooms:Zb) (ds:List ak):(vs=[.ref p,.ref t])->(fZ H p c)->(fT H t l1 l2 l3 l4 ts J0 J1 rooms ds)->(aG J0 J1 rooms ds)->(ds.length<=690)->(∀(t' l4':Addr) (ts':Ze) (ds':List ak) (H':Hp),fT H' t' l1 l2 l3 l4' ts' J0 J1 rooms ds'->aG J0 J1 rooms ds'->ds'.length<=ds.length+1->fZ H' p c->bu p H H'->Q (.ref t') H')->k9  vs H Q E
theorem Bo{K:Za}{vs:List V}{H:Hp}{Q:VK}{E:XK}(h:k9 vs H Q E):vD K jC d6 (c6 K) (bd Q) (start wH vs) H:=by
 obtain⟨p,c,t,l1,l2,l3,l4,ts,J0,J1,rooms,ds,rfl,hp,T,m,z8,k⟩:=h;have a4:=m.asks4;have s4:=m.says4;have r4:=m.rooms26;refine⟨_,rfl,t,_,rfl,bA.of T.t,rfl,_,_,rfl,_,_,rfl,_,_,rfl,_,_,rfl,rfl,?_⟩;refine⟨_,rfl,.inl ⟨l4,_,rfl,.inl (ax.of T.a4),fun f hf=>?_⟩⟩;have B0:TX H p c f (fun x=>x=ds) (upd H f (.lst (ts.map V.ref))):=⟨hp.ex (ab.new hf),⟨ts,ds,aa,T.ds.kt (ab.kt (ab.new hf)),rfl⟩,bu.new hf,hf,hp.nep hf,hp.nec hf⟩;generalize upd H f (.lst (ts.map V.ref))=H1 at B0 ⊢;have keep:∀{H':Hp}{R:List ak->Prop},TX H p c f R H'->H' l1=some (.lst (J0.map V.str))/\H' l2=some (.lst (J1.map V.str))/\H' l3=some (.lst (rooms.map V.str)):=fun B =>
  ⟨B.ex _ _ T.a1 (hp.ne_strs T.a1),B.ex _ _ T.a2 (hp.ne_strs T.a2),B.ex _ _ T.a3 (hp.ne_strs T.a3)⟩
 refine⟨_,rfl,c9 B0.pen (by decide) (by decide) fun way H2 w0 w1 hp2 ex2=>?_⟩;have B2:=B0.took hp2 ex2;obtain⟨us,es,g1,g2,rfl⟩:=id B2.ds;refine⟨_,rfl,_,rfl,.inl ⟨f,_,rfl,.inl (ax.of g1),_,_,rfl,?_⟩⟩;have lu:us.length=es.length:=Paired.length g2;refine c9 B2.pen (by split<;>omega) (by rw[ah,lu];split<;>omega) fun at_ H3 n0 n1 hp3 ex3=>?_;have B3:=B2.took hp3 ex3;rw[ah,lu]at n1;refine iJ (fun _ _ _ _ h=>h) rfl rfl B3.pen (keep B3).2.2 m.rooms0 (by omega) fun room hroom H4 hp4 ex4=>?_;have B4:=B3.took hp4 ex4;refine iJ (fun _ _ _ _ h=>h) rfl rfl B4.pen (keep B4).2.2 m.rooms0 (by omega) fun other hother H5 hp5 ex5=>?_;have B5:=B4.took hp5 ex5;clear B0 B2 B3 B4 hp2 hp3 hp4 hp5 ex2 ex3 ex4 ex5 g1 g2;have fin:∀{H6:Hp}(x10:Option V),TX H p c f (TR J0 J1 rooms (es.length+1)) H6->(a_ (bo (ao V2 (bX V3 V4 V5)))) (bd Q) [some (.ref p),some (.ref t),some (.ref l1),some (.ref l2),some (.ref l3),some (.ref f),some (.int way),some (.int at_),some (.str room),some (.str other),x10] H6:=fun x10 B=>by
  obtain⟨us,fs,g1,g2,g3⟩:=B.ds;obtain⟨q1,q2,q3⟩:=keep B;refine⟨_,rfl,_,rfl,_,rfl,_,rfl,(by show 4<=aj;decide),fun t' ht'=>?_⟩;have S3:=ab.new (o:=.tup [.ref l1,.ref l2,.ref l3,.ref f]) ht';exact k t' f us fs _ ⟨aa,S3 _ _ q1,S3 _ _ q2,S3 _ _ q3,S3 _ _ g1,g2.kt (ab.kt S3)⟩ g3.1 g3.2 (B.pen.ex S3) (B.ex.trans (ab.exB S3))
 have put:∀{H6:Hp}{fs:List ak}{d:Addr}{x:ak}(x10:Option V),TX H p c f (fun y=>y=fs) H6->fs.length<=es.length->gk H6 d x->aG J0 J1 rooms (kN fs x)->jC [.ref f,.ref d] H6 (fun _ H'=>(a_ (bo (ao V2 (bX V3 V4 V5)))) (bd Q) [some (.ref p),some (.ref t),some (.ref l1),some (.ref l2),some (.ref l3),some (.ref f),some (.int way),some (.int at_),some (.str room),some (.str other),x10] H') E0:=fun x10 B le hat ok=>by
  obtain⟨us',fs',k1,k2,rfl⟩:=id B.ds;refine⟨f,_,us',_,_,rfl,k1,k2,hat,by omega,fun us2 D2=>fin x10 (B.put ⟨_,k1⟩ D2 ⟨ok,?_⟩)⟩;exact aD (r9 _ _) (by omega)
 refine⟨_,rfl,rfl,_,rfl,?_⟩;refine hU (fun _=>?_) (fun _=>?_)
 ·refine⟨_,rfl,_,rfl,iJ (fun _ _ _ _ h=>h) rfl rfl B5.pen (keep B5).2.1 m.says0 (by omega) fun w hw H6 hp6 ex6=>⟨(by show 2<=aj;decide),fun s hs=>⟨_,rfl,(by show 3<=aj;decide),fun d hd=>?_⟩⟩⟩;have B6:=B5.took hp6 ex6;have S:ab H6 (upd (upd H6 s (.tup [.str "say",.str w])) d (.tup [.str room,.ref s,.str other])):=(ab.new hs).trans (ab.new hd);exact put (x:=⟨room,fH w,other⟩) _ (B6.same S) (aA _) ⟨s,aa,kp aa hd⟩ (m.putOne ⟨hroom,hother,.inr (.inl ⟨w,hw,rfl⟩)⟩ (by unfold fH av;intro h;injection h with _ h;cases h) (by omega))
 refine⟨_,rfl,rfl,_,rfl,?_⟩;refine hU (fun _=>?_) (fun _=>?_)
 ·refine⟨_,rfl,_,rfl,iJ (fun _ _ _ _ h=>h) rfl rfl B5.pen (keep B5).1 m.asks0 (by omega) fun w hw H6 hp6 ex6=>⟨(by show 2<=aj;decide),fun s hs=>⟨_,rfl,(by show 3<=aj;decide),fun d hd=>?_⟩⟩⟩;have B6:=B5.took hp6 ex6;have S:ab H6 (upd (upd H6 s (.tup [.str "ask",.str w])) d (.tup [.str room,.ref s,.str other])):=(ab.new hs).trans (ab.new hd);exact put (x:=⟨room,bE w,other⟩) _ (B6.same S) (aA _) ⟨s,aa,kp aa hd⟩ (m.putOne ⟨hroom,hother,.inl ⟨w,hw,rfl⟩⟩ (uQ w) (by omega))
 have still:∀{H6:Hp},TX H p c f (fun y=>y=es) H6->(cz (rL (aV (aJ v5 V6 (tC (.int 4)))) (aV (aJ (nS K true) V8 (aI (c6 K) (aS V5 (cK (ay V9))))))) (cr (aI jC (ao V5 (ao (bo (bX V8 (bo (ay (tC (.str "still")))) V9)) bm)))) (bH)) { nx:=(a_ (bo (ao V2 (bX V3 V4 V5)))) (bd Q),rt:=Q } [some (.ref p),some (.ref t),some (.ref l1),some (.ref l2),some (.ref l3),some (.ref f),some (.int way),some (.int at_),some (.str room),some (.str other),none] H6:=fun{H6} B=>by
  have idle:TX H p c f (TR J0 J1 rooms (es.length+1)) H6:=B.imp fun y e=>by rw[e];exact⟨m,uf _⟩
  refine⟨_,rfl,rfl,_,rfl,?_⟩;refine hU (fun _=>?_) (fun _=>bS (fin _ idle));refine⟨_,rfl,_,rfl,_,rfl,(by show 1<=aj;decide),fun bl hbl=>?_⟩;have B7:=B.same (ab.new (o:=.lst [.str other]) hbl);have e7:upd H6 bl (.lst [.str other]) bl=some (.lst [.str other]):=aa;generalize upd H6 bl (.lst [.str other])=H7 at B7 e7 ⊢;obtain⟨us,fs,g1,g2,rfl⟩:=id B7.ds;refine⟨f,bl,us,fs,[other],rooms,rfl,g1,g2,e7,fun d hd=>(m.good d hd).b,by omega,(by show 1<=1000;decide),fun g F H8 hg hF _ _ S8=>?_⟩;have B8:=B7.same S8;refine⟨gR room,F.map gR,g,_,mf room,rfl,.inl (ax.of hg),jK _,(by show 0<=8;decide),by rw[dR];decide,_,rfl,?_⟩;rw[if_pos rfl];by_cases c1:room∈F
  ·rw[zzr1 (lr.mpr c1)];exact bS (fin _ (B8.imp fun y e=>by rw[e];exact⟨m,uf _⟩))
  rw[zzr0 (fun z=>c1 (lr.mp z))];refine cj ?_;refine⟨_,rfl,_,rfl,(by show 1<=aj;decide),fun s hs=>⟨_,rfl,(by show 3<=aj;decide),fun d hd=>?_⟩⟩;have S:ab H8 (upd (upd H8 s (.tup [.str "still"])) d (.tup [.str room,.ref s,.str other])):=(ab.new hs).trans (ab.new hd);exact put (x:=⟨room,av,other⟩) _ (B8.same S) (aA _) ⟨s,aa,kp aa hd⟩ (m.putStill hroom hother (fun z=>c1 ((hF room).mpr z)) (by omega))
 refine⟨_,rfl,_,_,rfl,rfl,_,rfl,?_⟩;refine hU (fun _=>?_) (fun _=>bS (still B5));refine⟨_,rfl,(by show 0<=aj;decide),fun q hq=>?_⟩;have B6:=B5.same (ab.new (o:=.lst []) hq);have e6:upd H5 q (.lst []) q=some (.lst []):=aa;generalize upd H5 q (.lst [])=H6 at B6 e6 ⊢;obtain⟨us,fs,g1,g2,rfl⟩:=id B6.ds;refine Dn g1 g2 e6 (fun c1=>⟨_,rfl,cj ?_⟩) (fun _=>⟨_,rfl,bS (bS (still B6))⟩);have fl:0<fs.length:=List.length_pos_iff.2 c1;have n2:at_<fs.length:=by split at n1<;>omega
 obtain⟨n,rfl⟩:=iS n0;have n3:n<fs.length:=by omega
 have hdr:fs[n]?=some fs[n]:=iT n3;obtain⟨u,hu,hat⟩:=Paired.get g2 hdr;generalize fs[n]=dr at hdr hat;have hm:=bJ hdr;obtain⟨sb,ht2,hs2⟩:=hat;obtain⟨s0,rest,hsg,_⟩:=uv (m.good dr hm);have at0:ye (dr.sg.map V.str) 0=some (.str s0):=by rw[hsg];exact cy (j:=0) rfl
 have atu:(us.map V.ref)[n]?=some (.ref u):=by rw[cS,hu];rfl
 refine⟨_,rfl,_,rfl,f,_,_,_,rfl,rfl,ax.of g1,cy atu,u,_,1,_,rfl,rfl,bA.of ht2,rfl,sb,_,0,_,rfl,rfl,bA.of hs2,at0,rfl,_,rfl,?_⟩;refine hU (fun c2=>?_) (fun _=>still B6);have ns:dr.sg≠av:=fun z=>by
  rw[hsg]at z;injection z with z;rw[z]at c2;simp at c2
 have six:vt (n:Int) (us.map V.ref).length=some n:=(wn (Fb (by rw[ah,Paired.length g2];exact n3))).1;refine⟨_,rfl,.inl ⟨rfl,_,ax.of g1⟩,_,rfl,f,_,_,n,.ref u,rfl,rfl,g1,by omega,by omega,six,atu,?_⟩;have ee:(us.map V.ref).eraseIdx n=(us.eraseIdx n).map V.ref:=uH _ us n;rw[ee];have k6:iB H6 (upd H6 f (.lst ((us.eraseIdx n).map V.ref))):=fP g1;have B7:TX H p c f (fun y=>y=fs.eraseIdx n) (upd H6 f (.lst ((us.eraseIdx n).map V.ref))):=B6.put ⟨_,g1⟩ (Paired.out n g2) rfl;have t7:=k6 _ _ ht2;have s7:=k6 _ _ hs2;generalize upd H6 f (.lst ((us.eraseIdx n).map V.ref))=H7 at B7 t7 s7 ⊢;have m7:=m.out n;have l7:(fs.eraseIdx n).length<=fs.length:=(List.eraseIdx_sublist fs n).length_le;refine⟨_,rfl,rfl,_,rfl,?_⟩;refine hU (fun _=>?_) (fun _=>fin _ (B7.imp fun y e=>by rw[e];exact⟨m7,by omega⟩));refine⟨_,rfl,_,rfl,u,_,0,_,rfl,rfl,bA.of t7,rfl,_,rfl,u,_,1,_,rfl,rfl,bA.of t7,rfl,_,rfl,(by show 3<=aj;decide),fun d hd=>?_⟩;have S:ab H7 (upd H7 d (.tup [.str dr.a,.ref sb,.str other])):=ab.new hd;exact put (x:=⟨dr.a,dr.sg,other⟩) _ (B7.same S) l7 ⟨sb,aa,S _ _ s7⟩ (m7.putOne ⟨(m.good dr hm).a,hother,(m.good dr hm).sg⟩ ns (by omega))
theorem Reach.ren{ds:List ak}{f:Str->Str}{x y:Str}(h:Reach ds x y):Reach (ds.map (tR f)) (f x) (f y):=by
 induction h with
 |one e=>exact .one (aL.2 ⟨_,e,rfl⟩)
 |step _ e ih=>exact .step ih (aL.2 ⟨_,e,rfl⟩)
theorem fX.ren{ds:List ak}{f:Str->Str}{r a:Str}:fX ds r a->fX (ds.map (tR f)) (f r) a:=fun⟨w,hw,b,hb⟩ =>
 ⟨f w,hw.imp (fun e=>by rw[e]) Reach.ren,f b,aL.2 ⟨_,hb,rfl⟩⟩
inductive iF (vs:List V)(H:Hp)(Q:VK)(E:XK):Prop
 |mk (p c t l1 l2 l3 l4:Addr) (ts:Ze) (J0 J1 rooms:Zb) (ds:List ak):(vs=[.ref p,.ref t])->(fZ H p c)->(fT H t l1 l2 l3 l4 ts J0 J1 rooms ds)->(aG J0 J1 rooms ds)->(rooms.length<=26)->(∀(t' l3' l4':Addr) (ts':Ze) (rooms':Zb) (f:Str->Str) (H':Hp),fT H' t' l1 l2 l3' l4' ts' J0 J1 rooms' (ds.map (tR f))->aG J0 J1 rooms' (ds.map (tR f))->rooms'.Perm (rooms.map f)->fZ H' p c->bu p H H'->Q (.ref t') H')->iF  vs H Q E
theorem xr{K:Za}{vs:List V}{H:Hp}{Q:VK}{E:XK}(h:iF vs H Q E):tw K d6 kH (bd Q) (start ub vs) H:=by
 obtain⟨p,c,t,l1,l2,l3,l4,ts,J0,J1,rooms,ds,rfl,hp,T,m,z3,k⟩:=h;have z4:=m.few;have hr0:0<rooms.length:=by
  cases hq:rooms with
  |nil=>exact absurd hq m.rooms0
  |cons _ _=>simp
 refine⟨_,rfl,t,_,rfl,bA.of T.t,rfl,_,_,rfl,_,_,rfl,_,_,rfl,_,_,rfl,rfl,?_⟩;refine fun d hd=>?_;have dp:=hp.nep hd;have dc:=hp.nec hd;have T1:=T.same (ab.new (o:=.dK []) hd);have hp1:=hp.ex (ab.new (o:=.dK []) hd);have hd1:upd H d (.dK []) d=some (.dK (Ci [])):=aa;have ex1:bu p H (upd H d (.dK [])):=bu.new hd;generalize upd H d (.dK [])=H1 at T1 hp1 hd1 ex1 ⊢;refine⟨_,rfl,_,rfl,_,rfl,.inl ⟨l3,_,rfl,.inl (ax.of T1.a3),p,c,(rooms.map V.str).length,rfl,hp1,by rw[ah];exact z3,fun lw ws H2 okw lenw frw hlw hp2 ex2=>?_⟩⟩;rw[ah]at lenw;have T2:=T1.ex hp1 ex2;have hd2:=ex2 _ _ hd1 dp.symm;have lwd:lw≠d:=fun z=>by rw[z,hd1]at frw;cases frw
 have lwp:=hp2.ne_strs hlw;refine⟨l3,lw,rfl,.inl ⟨⟨_,ax.of T2.a3⟩,⟨_,ax.of hlw⟩,?_⟩⟩;have ez:(rooms.zip ws).length=rooms.length:=by rw[List.length_zip,lenw,Nat.min_self]
 refine DG (xs:=rooms.map V.str) (ys:=ws.map V.str) (by rw[ah,ah,lenw]) (fun i σ H'=>∃x7 x8:Option V,σ=[some (.ref p),some (.ref t),some (.ref l1),some (.ref l2),some (.ref l3),some (.ref l4),some (.ref d),x7,x8,none,none]/\H' d=some (.dK (Ci ((rooms.zip ws).take i)))/\H' lw=some (.lst (ws.map V.str))/\fZ H' p c/\bu p H H')
  ⟨_,_,rfl,hd2,hlw,hp2,ex1.trans ex2⟩ (fun i σ H' _ ⟨_,_,_,_,h1,_,ex⟩=>⟨ax.of (ex _ _ T.a3 (hp.ne_strs T.a3)),ax.of h1⟩) ?_ ?_
 ·rintro i x y σ H3 q hx hy ⟨x7,x8,rfl,hd3,hlw3,hp3,ex3⟩ hq;obtain⟨r,hr,rfl⟩:=bf hx;obtain⟨w,hw,rfl⟩:=bf hy;have hi:i<rooms.length:=(bP.mp hr).1;refine⟨q,_,rfl,bA.of aa,rfl,_,_,rfl,_,_,rfl,rfl,?_⟩;have hlen:(Ci ((rooms.zip ws).take i)).length<aj:=by
   unfold Ci;rw[ah,az];exact am (by omega)
  refine⟨_,rfl,_,rfl,_,rfl,d,_,rfl,.inl ⟨_,.inr r,kp hd3 hq,rfl,hlen,rfl⟩,_,_,rfl,?_,?_,?_,?_⟩
  ·have hz:(rooms.zip ws)[i]?=some (r,w):=by
    rw[List.getElem?_zip_eq_some];exact⟨hr,hw⟩
   have hn:r∉((rooms.zip ws).take i).map (·.1):=by
    rw[qU,vw lenw];intro z;obtain⟨j,hj⟩:=oz z;have hjl:j<i:=by
     have:=(bP.mp hj).1;rw[az]at this;omega
    rw[List.getElem?_take_of_lt hjl]at hj;have:=qI m.okR.1 hj hr;omega
   rw[aa,Dl hn,take_snoc hz]
  ·rw[ai lwd];exact kp hlw3 hq
  ·exact(hp3.ex (ab.new hq)).upd dp dc
  ·intro b o e n;rw[ai (ae e hd)];exact kp (ex3 _ _ e n) hq
 rintro σ H3 ⟨x7,x8,rfl,hd3,hlw3,hp3,ex3⟩;rw[ah,<-ez,aT]at hd3;have T3:=T.ex hp ex3;generalize hρ:Eh (rooms.zip ws)=ρ;have hmap:rooms.map ρ=ws:=by rw[<-hρ];exact Aq m.okR.1 lenw
 have hval:∀r∈rooms,aU (Ci (rooms.zip ws)) (.inr r:em)=some (.str (ρ r)):=fun r hr=>by
  rw[<-hρ];exact AE (by rw[vw lenw];exact hr)
 refine⟨_,rfl,l3,rfl,⟨_,ax.of T3.a3⟩,fun f hf=>?_⟩;refine bh (xs:=rooms.map V.str) (fun i vs H'=>vs=((rooms.take i).map ρ).map V.str/\ab H3 H'/\H' f=some (.lst vs)) ⟨rfl,ab.new hf,aa⟩ (fun i vs H' _ ⟨_,S,h'⟩=>⟨h',ax.of (S _ _ T3.a3)⟩) ?_ ?_;rotate_left
 ·rintro i vs H' x' hx' hi ⟨rfl,S,f'⟩;obtain⟨r,hr,rfl⟩:=bf hx';refine gN (lK ?_);refine⟨_,rfl,_,rfl,d,.str (ρ r),rfl,.inl ⟨_,.inr r,.inl (S _ _ hd3),rfl,(hval r (bJ hr)).symm⟩,f',?_,ke hi ⟨?_,?_,aa⟩⟩
  ·rw[ah,ah,az];exact am (by omega)
  ·rw[take_snoc hr,aq,aq];rfl
  ·intro b o q;rw[ai (ae q hf)];exact S _ _ q
 rintro vs H4 ⟨rfl,S4,f4⟩;rw[ah,aT,hmap]at f4;have T4:=T3.same S4;have hp4:=hp3.ex S4;have hd4:=S4 _ _ hd3;refine⟨_,rfl,_,rfl,.inl ⟨l3,_,rfl,.inl (ax.of T4.a3),c9 (m:=((rooms.map V.str).length:Nat)) hp4 (by rw[ah];omega) (by rw[ah];omega) fun r H5 r0 r1 hp5 ex5=>⟨_,_,rfl,rfl,?_⟩⟩⟩;rw[ah]at r1;obtain⟨n,rfl⟩:=iS r0;have T5:=T4.ex hp4 ex5;have f5:=ex5 _ _ f4 (hp4.ne_strs f4);have hd5:=ex5 _ _ hd4 dp.symm;have exx5:bu p H H5:=(ex3.trans (ab.exB S4)).trans ex5;have c1:gL (ws.map V.str) none (some 1)=(ws.take 1).map V.str:=qM ws 1;have c2:gL (ws.map V.str) (some (1+(n:Int))) none=(ws.drop (1+n)).map V.str:=uJ ws (1+n);have c3:gL (ws.map V.str) (some 1) (some (1+(n:Int)))=((ws.drop 1).take (1+n-1)).map V.str:=BW ws (j:=1) (k:=1+n) (by omega) (by omega);refine⟨_,rfl,_,rfl,f,_,rfl,ax.of f5,fun q1 hq1=>⟨_,rfl,_,rfl,_,rfl,f,_,rfl,ax.of (kp f5 hq1),fun q2 hq2=>⟨q1,q2,_,_,rfl,rfl,kp aa hq2,aa,?_,fun q3 hq3=>⟨_,rfl,_,rfl,_,rfl,_,rfl,f,_,rfl,ax.of (kp (kp (kp f5 hq1) hq2) hq3),fun q4 hq4=>⟨q3,q4,_,_,rfl,rfl,kp aa hq4,aa,?_,fun q5 hq5=>?_⟩⟩⟩⟩⟩
 ·rw[c1,c2,ah,ah,az,fA];exact cZ (am (by omega))
 ·rw[c1,c2,c3,aZ,ah,ah,ah,az,fA,az,fA];exact cZ (am (by omega))
 rw[c1,c2,c3]at hq5 ⊢;have m1:(ws.take 1).map V.str++(ws.drop (1+n)).map V.str=(ws.take 1++ws.drop (1+n)).map V.str:=aq.symm;have m2:(ws.take 1++ws.drop (1+n)).map V.str++((ws.drop 1).take (1+n-1)).map V.str=(ws.take 1++ws.drop (1+n)++(ws.drop 1).take (1+n-1)).map V.str:=aq.symm;rw[m1]at hq5 ⊢;rw[m2];have S6:=((((ab.new (o:=.lst ((ws.take 1).map V.str)) hq1).trans (ab.new (o:=.lst ((ws.drop (1+n)).map V.str)) (by rw[<-c1];exact hq2))).trans (ab.new (o:=.lst ((ws.take 1++ws.drop (1+n)).map V.str)) (by rw[<-c1,<-c2];exact hq3))).trans (ab.new (o:=.lst (((ws.drop 1).take (1+n-1)).map V.str)) (by rw[aq,<-c1,<-c2];exact hq4))).trans (ab.new (o:=.lst ((ws.take 1++ws.drop (1+n)++(ws.drop 1).take (1+n-1)).map V.str)) hq5);have hperm:=wX ws n;generalize ws.take 1++ws.drop (1+n)++(ws.drop 1).take (1+n-1)=rooms' at S6 hperm hq5 ⊢;have hr':(upd (upd (upd (upd (upd H5 q1 (.lst ((ws.take 1).map V.str))) q2 (.lst ((ws.drop (1+n)).map V.str))) q3 (.lst ((ws.take 1++ws.drop (1+n)).map V.str))) q4 (.lst (((ws.drop 1).take (1+n-1)).map V.str))) q5 (.lst (rooms'.map V.str))) q5=some (.lst (rooms'.map V.str)):=aa;generalize(upd (upd (upd (upd (upd H5 q1 (.lst ((ws.take 1).map V.str))) q2 (.lst ((ws.drop (1+n)).map V.str))) q3 (.lst ((ws.take 1++ws.drop (1+n)).map V.str))) q4 (.lst (((ws.drop 1).take (1+n-1)).map V.str))) q5 (.lst (rooms'.map V.str)))=H6 at S6 hr' ⊢;have T6:=T5.same S6;have hd6:=S6 _ _ hd5;refine⟨_,rfl,l4,rfl,⟨_,ax.of T6.a4⟩,fun g hg=>?_⟩;refine bh (xs:=ts.map V.ref) (fun i vs H'=>∃us:List Addr,vs=us.map V.ref/\ab H6 H'/\H' g=some (.lst vs)/\cn H' us ((ds.take i).map (tR ρ))) ⟨[],rfl,ab.new hg,aa,.nil⟩ (fun i vs H' _ ⟨_,_,S,h',_⟩=>⟨h',ax.of (S _ _ T6.a4)⟩) ?_ ?_;rotate_left
 ·rintro i vs H' x' hx' hi ⟨us,rfl,S,g',hP⟩;obtain⟨u,hu,rfl⟩:=bQ hx';obtain⟨dr,hdr,hatd⟩:=Paired.getL T6.ds hu;obtain⟨sb,ht2,hs2⟩:=hatd.kt (ab.kt S);have hmem:=bJ hdr;have hda:=hval dr.a (m.good dr hmem).a;have hdb:=hval dr.b (m.good dr hmem).b;refine⟨u,_,rfl,bA.of ht2,rfl,_,_,rfl,_,_,rfl,_,_,rfl,rfl,?_⟩;refine lK ?_;refine⟨_,rfl,_,rfl,d,.str (ρ dr.a),rfl,.inl ⟨_,.inr dr.a,.inl (S _ _ hd6),rfl,hda.symm⟩,_,rfl,_,rfl,_,rfl,d,.str (ρ dr.b),rfl,.inl ⟨_,.inr dr.b,.inl (S _ _ hd6),rfl,hdb.symm⟩,(by show 3<=aj;decide),fun w hw=>⟨kp g' hw,?_,ke hi ⟨us++[w],by rw[aq];rfl,?_,aa,?_⟩⟩⟩
  ·rw[ah,Paired.length hP,ah,az];exact am (by omega)
  ·intro b o q;rw[ai (ae q hg)];exact kp (S _ _ q) hw
  ·rw[take_snoc hdr,aq];have hk:iB H' (upd (upd H' w (.tup [.str (ρ dr.a),.ref sb,.str (ρ dr.b)])) g (.lst (us.map V.ref++[.ref w]))):=(ab.kt (ab.new hw)).trans (fP (kp g' hw));refine f8 (hP.kt hk) ⟨sb,?_,hk _ _ hs2⟩;exact(fP (kp g' hw)) _ _ aa
 rintro vs H7 ⟨us,rfl,S7,g7,hP⟩;rw[ah,Paired.length T.ds,aT]at hP;have T7:=T6.same S7;have hp7:=(hp5.ex S6).ex S7;have ex7:bu p H H7:=exx5.trans (ab.exB (S6.trans S7));refine⟨_,rfl,_,rfl,_,rfl,_,rfl,(by show 4<=aj;decide),fun t' ht'=>k t' q5 g us rooms' ρ _ ⟨aa,kp T7.a1 ht',kp T7.a2 ht',kp (S7 _ _ hr') ht',kp g7 ht',hP.kt (ab.kt (ab.new ht'))⟩ (m.renamed okw hmap hperm) (by rw[hmap];exact hperm) (hp7.ex (ab.new ht')) (ex7.trans (bu.new ht'))⟩
inductive qD (vs:List V)(H:Hp)(Q:VK)(E:XK):Prop
 |mk (p c t l1 l2 l3 l4:Addr) (ts:Ze) (J0 J1 rooms:Zb) (ds:List ak) (n:Nat):(vs=[.ref p,.ref t,.int (n:Nat)])->(fZ H p c)->(fT H t l1 l2 l3 l4 ts J0 J1 rooms ds)->(aG J0 J1 rooms ds)->(rooms.length<=26)->(ds.length<=650)->(n<=8)->(∀(t' l3' l4':Addr) (ts':Ze) (rooms':Zb) (ds':List ak) (H':Hp),fT H' t' l1 l2 l3' l4' ts' J0 J1 rooms' ds'->aG J0 J1 rooms' ds'->(∀r∈rooms',∀a∈J0,fX ds' r a)->rooms'.length=rooms.length->ds'.length<=ds.length+n+4 * rooms.length->fZ H' p c->bu p H H'->Q (.ref t') H')->qD  vs H Q E
theorem EH{K:Za}{vs:List V}{H:Hp}{Q:VK}{E:XK}(h:qD vs H Q E):yL K d6 iF jA k9 qF (bd Q) (start zX vs) H:=by
 obtain⟨p,c,t,l1,l2,l3,l4,ts,J0,J1,rooms,ds,n,rfl,hp,T,m,z3,z4,zn,k⟩:=h;refine⟨_,rfl,p,c,rfl,hp,fun H1 hp1 ex1=>?_⟩;have T1:=T.ex hp ex1;refine⟨_,rfl,_,rfl,_,_,rfl,rfl,c9 hp1 (by omega) (by omega) fun x H2 x0 x1 hp2 ex2=>?_⟩;have T2:=T1.ex hp1 ex2;refine⟨x,rfl,by omega,by omega,?_⟩;refine lF (lo:=0) (n:=x.toNat) (fun i σ H'=>∃(t' l4':Addr) (ts':Ze) (ds':List ak) (x3:Option V),σ=[some (.ref p),some (.ref t'),some (.int (n:Nat)),x3]/\fT H' t' l1 l2 l3 l4' ts' J0 J1 rooms ds'/\aG J0 J1 rooms ds'/\ds'.length<=ds.length+i/\fZ H' p c/\bu p H H')
  ⟨t,l4,ts,ds,_,rfl,T2,m,aA _,hp2,ex1.trans ex2⟩ ?_ ?_
 ·rintro i σ H3 hi ⟨t',l4',ts',ds',x3,rfl,T3,m3,z,hp3,ex3⟩;refine⟨_,rfl,_,rfl,p,c,t',l1,l2,l3,l4',ts',J0,J1,rooms,ds',rfl,hp3,T3,m3,by omega,fun t2 l42 ts2 ds2 H4 T4 m4 z4 hp4 ex4=>?_⟩;exact⟨t2,l42,ts2,ds2,_,rfl,T4,m4,by omega,hp4,ex3.trans ex4⟩
 ·rintro σ H3 ⟨t',l4',ts',ds',x3,rfl,T3,m3,z,hp3,ex3⟩;refine⟨_,rfl,_,rfl,p,c,t',l1,l2,l3,l4',ts',J0,J1,rooms,ds',rfl,hp3,T3,m3,z3,by omega,fun t2 l42 ts2 ds2 H4 T4 m4 tk4 zw hp4 ex4=>?_⟩;refine⟨_,rfl,c9 hp4 (by decide) (by decide) fun w H5 w0 w1 hp5 ex5=>⟨rfl,_,rfl,?_⟩⟩;have T5:=T4.ex hp4 ex5;refine hU (fun _=>?_) (fun _=>?_)
  ·refine⟨_,rfl,_,rfl,p,c,t2,l1,l2,l3,l42,ts2,J0,J1,rooms,ds2,rfl,hp5,T5,m4,z3,fun t3 l33 l43 ts3 rooms3 f H6 T6 m6 pr hp6 ex6=>⟨_,rfl,?_⟩⟩;refine k t3 l33 l43 ts3 rooms3 _ H6 T6 m6 (fun r hr a ha=>?_) (by rw[pr.length_eq,ah]) (by rw[ah];omega) hp6 (((ex3.trans ex4).trans ex5).trans ex6);obtain⟨r0,hr0,rfl⟩:=aL.1 (pr.mem_iff.1 hr);exact(tk4 r0 hr0 a ha).ren
  ·exact⟨_,rfl,k t2 l3 l42 ts2 rooms ds2 H5 T5 m4 tk4 rfl (by omega) hp5 ((ex3.trans ex4).trans ex5)⟩
theorem Paired.mapM{α β:Type}{F G:α->β->Prop}:∀{as:List α}{bs:List β},Paired F as bs->(∀a b,a∈as->F a b->G a b)->Paired G as bs
 |_,_,.nil,_=>.nil
 |_,_,.cons r t,h=>.cons (h _ _ fx r) (Mum.Paired.mapM t fun a b ha=>h a b (fq _ ha))
theorem jr.find{H:Hp}{sg:Sg}:∀{kvs:List (TK×V)}{L:List (Sg×List Str)},jr H kvs L->((∀p∈L,p.1≠sg)/\aU kvs (eE sg)=none)∨∃p∈L,p.1=sg/\∃u,aU kvs (eE sg)=some (.ref u)/\H u=some (.tup (p.2.map V.str))
 |_,_,.nil=>.inl ⟨fun _ h=>(nomatch h),rfl⟩
 |kv::_,p::_,.cons ⟨e,u,e2,hu⟩ t=>by
  by_cases c:p.1=sg
  ·refine .inr ⟨p,fx,c,u,?_,hu⟩;rw[cT (by rw[e,c]),e2]
  ·rw[cG (fun z=>c (eS (by rw[<-e,z])))];rcases jr.find t with⟨h1,h2⟩|⟨q,hq,h⟩
   ·exact .inl ⟨fun x hx=>(cA.1 hx).elim (fun z=>by rw[z];exact c) (h1 x),h2⟩
   ·exact .inr ⟨q,fq _ hq,h⟩
theorem jr.look{H:Hp}{kvs:List (TK×V)}{J0 J1 rooms f:Zb}{ds:List ak}(h:jr H kvs (stepsF J0 J1 rooms ds f)){sg:Sg}(hs:sg∈bR J0 J1):
  (behF rooms ds f sg=[]/\aU kvs (eE sg)=none)∨(behF rooms ds f sg≠[]/\∃u,aU kvs (eE sg)=some (.ref u)/\H u=some (.tup ((behF rooms ds f sg).map V.str))):=by
 rcases jr.find (sg:=sg) h with⟨h1,h2⟩|⟨p,hp,e,u,h1,h2⟩
 ·refine .inl ⟨?_,h2⟩;refine Classical.not_not.1 fun z=>h1 (sg,behF rooms ds f sg) ?_ rfl;exact fg.2 ⟨aL.2 ⟨sg,hs,rfl⟩,zzr1 z⟩
 ·obtain⟨h3,h4⟩:=fg.1 hp;obtain⟨s,_,rfl⟩:=aL.1 h3;cases e;exact .inr ⟨of_decide_eq_true h4,u,h1,h2⟩
def j8(K:Za):TS :=
 ar (ka K V0 V1 "machine")
 (ka K V0 (iV) "known")
def kg:List Str:=["self","M"]
def jb(K:Za)(sp_steps_at:Sp):TS :=
 ar (cz (tB (fD K V1 (eN K V0 "known"))) (ir (eN K V0 "known") V1 (aI sp_steps_at (aS (eN K V0 "machine") V1))) (bH))
 (a_ (fW K (eN K V0 "known") V1))
def js:List Str:=["self","face"]
def vC(K:Za):TS :=
 cz (Eg (aV (aJ C3 V0 (tC (.int 0)))) (aV (aJ C5 V0 (tC (.int 4))))) (rE) (bH)
def wG:List Str:=["d"]
def Bf(K:Za):TS :=
 ar (aM (tC (.int 1)) U1)
 (ar (dZ (bq K V0) U2 (aM (aJ C2 V1 V2) U1))
 (a_ V1))
def Ce:List Str:=["numbers","whole","number"]
def qd(K:Za)(C_KnownSteps:Addr)(sp_KnownSteps_init:Sp)(C_Machine:Addr)(sp_Machine_says:Sp):TS :=
 ar (ka K V0 (b_ 1 [] (bq K (bY C_Machine "says" sp_Machine_says [] E0 V1 bm)) U0 (gV) (bo (aS (tC (.str "say")) V0))) "says_signs")
 (ar (ka K V0 (rF C_KnownSteps sp_KnownSteps_init [] E0 (ay V1)) "known_steps")
 (ka K V0 (iV) "known_counts"))
def qw:List Str:=["self","M"]
def nA(K:Za)(C_KnownSteps:Addr)(sp_KnownSteps_steps_from:Sp):TS :=
 a_ (bY C_KnownSteps "steps_from" sp_KnownSteps_steps_from [] E0 (eN K V0 "known_steps") (ay V1))
def oy:List Str:=["self","face"]
def p_(K:Za)(a_HUSH:Addr)(C_Made:Addr)(sp_Made_steps_from:Sp):TS :=
 ar (aM (b_ 1 [] (Dz K (bY C_Made "steps_from" sp_Made_steps_from [] E0 V0 (ay V1))) U0 (aV (aJ v5 (aJ (pT K) V0 (tC (.int 0))) (tC (.str "ask")))) V0) U2)
 (a_ (aJ kb (b_ 1 [0] (bq K V2) U0 (gV) (aJ kb (cK (ay V0)) (eN K V1 "says_signs"))) (cK (ao (aJ kb (eN K V0 "says_signs") (cK (ay (tC (.ref a_HUSH))))) bm))))
def qr:List Str:=["self","face","asks"]
def qa(K:Za)(sp_product:Sp)(C_Made:Addr)(sp_Made_count_at:Sp)(sp_Made_steps_from:Sp):TS :=
 ar (aM (bY C_Made "steps_from" sp_Made_steps_from [] E0 V0 (ay V1)) U4)
 (a_ (aI sp_product (ao (b_ 1 [0,2,4] (bq K V3) U0 (gV) (bY C_Made "count_at" sp_Made_count_at [] E0 V1 (aS (vU K V3 V0) (aJ uw V2 (tC (.int 1)))))) bm)))
def qt:List Str:=["self","face","d","signs","steps"]
def qb(K:Za)(C_Made:Addr)(sp_Made_kinds_at:Sp)(sp_Made_count_of:Sp):TS :=
 ar (cz (Eg (tB (CB V1)) (aV (aJ v5 V2 (tC (.int 0))))) (a_ (tC (.int 1))) (bH))
 (ar (cz (tB (fD K (bo (aS V1 V2)) (eN K V0 "known_counts"))) (ar (aM (b_ 1 [1,2,0] (bq K (bY C_Made "kinds_at" sp_Made_kinds_at [] E0 V0 (ay V1))) U0 (gV) (bY C_Made "count_of" sp_Made_count_of [] E0 V3 (bX V1 V2 V0))) U3)
 (ir (eN K V0 "known_counts") (bo (aS V1 V2)) (aJ dq (tC (.int 1)) (fE (C0 K) (ay V3))))) (bH))
 (a_ (fW K (eN K V0 "known_counts") (bo (aS V1 V2)))))
def qv:List Str:=["self","face","d","counts"]
def tD(K:Za)(sp_law_still_on:Sp):TS :=
 ar (aM V0 (lS K 4 (bI U3 (bI U4 (bI U5 (bI U6 (kS)))))))
 (ar (cz (aV (aJ (o6 K) V2 (bo (ay (tC (.str "hush")))))) (ar (aM (b_ 1 [] (bq K V6) U0 (aV (aJ Hl (aJ (o5 K) (aJ (o5 K) V0 (tC (.int 1))) (tC (.int 0))) (tC (.str "ask")))) (aJ (o5 K) V0 (tC (.int 0)))) U7)
 (a_ (fE (xx K) (ay (b_ 1 [7] (Fc K V1) U0 (aV (aJ (nS K true) V0 V1)) V0))))) (bH))
 (ar (aM (aI sp_law_still_on (ao V6 (ao (b_ 1 [1,2] (bq K V6) U0 (rL (aV (aJ (nS K false) (aJ (o5 K) V0 (tC (.int 0))) V1)) (aV (aJ (o6 K) (aJ (o5 K) V0 (tC (.int 1))) V2))) (aJ (o5 K) V0 (tC (.int 2)))) bm))) U8)
 (a_ (fE (xx K) (ay (b_ 1 [8] (bq K V5) U0 (aV (aJ (nS K false) V0 V1)) V0))))))
def ud:List Str:=["told","face","sign","asks","says","rooms","doors","loud","there"]
def xa(K:Za)(sp_law_still_on:Sp):TS :=
 ar (aM (aI sp_law_still_on (ao (aJ (pT K) V0 (tC (.int 3))) (ao (cK (ay (aJ (pT K) (aJ (pT K) V0 (tC (.int 2))) (tC (.int 0))))) bm))) U1)
 (a_ (fE (xx K) (ao (b_ 1 [1] (bq K (aJ (pT K) V0 (tC (.int 2)))) U0 (aV (aJ (nS K false) V0 V1)) V0) bm)))
def yq:List Str:=["told","there"]
def oP(K:Za):TS :=
 ar (aM (b_ 1 [] (bq K (aJ (pT K) V0 (tC (.int 1)))) U0 (gV) (bo (aS (tC (.str "say")) V0))) U2)
 (ar (cz (tB (CB V1)) (a_ (aJ kb V2 (cK (ay (bo (ay (tC (.str "hush")))))))) (bH))
 (a_ (aJ kb (cK (ay (bo (aS (tC (.str "ask")) V1)))) V2)))
def pk:List Str:=["told","ask","says"]
def xc(K:Za)(sp_law_behind:Sp):TS :=
 ar (cz (tB (fD K (bo (aS V2 V3)) V1)) (ir V1 (bo (aS V2 V3)) (aI sp_law_behind (bX V0 V2 V3))) (bH))
 (a_ (fW K V1 (bo (aS V2 V3))))
def yt:List Str:=["told","known","face","sign"]
def xb(K:Za)(sp_law_after:Sp):TS :=
 a_ (b_ 1 [0,1,2] (bq K (aJ (pT K) V0 (tC (.int 0)))) U0 (aV (aJ (xy K) (aI sp_law_after (ao V1 (bX V2 V3 (bo (aS (tC (.str "ask")) V0))))) (bo (bm)))) V0)
def yr:List Str:=["told","known","face"]
def w6(K:Za)(sp_law_part_signs:Sp)(sp_law_count:Sp)(sp_law_after:Sp):TS :=
 ar (aM (cK (bm)) U5)
 (ar (dZ (bq K (aI sp_law_part_signs (aS V0 V3))) U6 (cr (Bk K "list" hE V5 (ao (aI sp_law_count (ao V0 (ao V1 (aS (aI sp_law_after (ao V0 (bX V1 V2 V6))) (aJ uw V4 (tC (.int 1))))))) bm))))
 (a_ V5))
def ym:List Str:=["told","known","face","ask","deep","found","sign"]
def wZ(K:Za):TS :=
 ar (aM (tC (.int 1)) U1)
 (ar (dZ (bq K V0) U2 (aM (aJ C2 V1 V2) U1))
 (a_ V1))
def yk:List Str:=["numbers","found","number"]
def vH(K:Za)(sp_law_asked:Sp)(sp_law_times:Sp)(sp_law_sizes:Sp):TS :=
 ar (cz (Eg (aV (aJ (o6 K) V2 (bo (bm)))) (aV (aJ v5 V3 (tC (.int 0))))) (a_ (tC (.int 1))) (bH))
 (ar (cz (tB (fD K (bo (aS V2 V3)) V1)) (ar (aM (tC (.int 1)) U4)
 (ar (dZ (bq K (aJ kb (aI sp_law_asked (bX V0 V1 V2)) (cK (ay (tC .non))))) U5 (aM (aJ dq V4 (aI sp_law_times (ay (aI sp_law_sizes (ao V0 (ao V1 (bX V2 V5 V3))))))) U4))
 (ir V1 (bo (aS V2 V3)) V4))) (bH))
 (a_ (fW K V1 (bo (aS V2 V3)))))
def wL:List Str:=["told","known","face","deep","many","ask"]
open Builtin.Int (intBits)
def kindsF(J0 J1 rooms:Zb)(ds:List ak)(J5:Zb):List (List Sg) :=
 ((J0.filter fun a=>decide (behF rooms ds J5 (bE a)≠[])).map fun a=>bE a::J1.map fH)++[J1.map fH++[b9]]
def eO(l:List Int):Int:=l.foldl (· * ·) 1
def cntM(J0 J1 rooms:Zb)(ds:List ak):Nat->List Str->Int
 |0,_=>1
 |d+1,J5=>if J5=[]then 1 else 1+((kindsF J0 J1 rooms ds J5).map fun k=>eO (k.map fun sg=>cntM J0 J1 rooms ds d (behF rooms ds J5 sg))).sum
theorem xW(J0 J1 rooms:Zb)(ds:List ak):∀d,cntM J0 J1 rooms ds d []=1
 |0=>by unfold cntM;rfl
 |d+1=>by unfold cntM;rw[if_pos rfl]
theorem se(l:List Int)(x:Int):eO (l++[x])=eO l * x:=by unfold eO;rw[List.foldl_append];rfl
def bB:Nat->Nat
 |0=>1
 |d+1=>5 * bB d+7
theorem o7{b:Nat}(l:List Int)(h:∀x∈l,intBits x<=b):intBits (eO l)<=1+l.length * b:=by
 have key:∀n,n<=l.length->intBits (eO (l.take n))<=1+n * b:=by
  intro n
  induction n with
  |zero=>intro _;show intBits 1<=1+0 * b;have:intBits 1<=1:=(by decide);omega
  |succ n ih =>
   intro hn;have e:l[n]?=some l[n]:=iT hn;rw[take_snoc e,se];have h1:=intBits_mul_le (ih (by omega)) (h l[n] (List.getElem_mem _));rw[im];omega
 have:=key l.length (aA _);rw[aT]at this;exact this
theorem rM{b:Nat}:∀(l:List Int),(∀x∈l,intBits x<=b)->intBits l.sum<=b+l.length
 |[],_=>by show intBits 0<=_;have:intBits 0<=0:=(by decide);omega
 |x::l,h=>by
  rw[uX,fb];have h1:=intBits_add_le (h x fx) (rM l fun y hy=>h y (fq _ hy));omega
theorem lC{J0 J1 rooms J5:Zb}{ds:List ak}(h1:J0.length<=4):(kindsF J0 J1 rooms ds J5).length<=5:=by
 unfold kindsF;rw[aZ,ah];have:=cB (fun a=>decide (behF rooms ds J5 (bE a)≠[])) J0;show _+1<=5;omega
theorem lA{J0 J1 rooms J5:Zb}{ds:List ak}{k:List Sg}(h:k∈kindsF J0 J1 rooms ds J5):k.length=J1.length+1/\∀sg∈k,sg∈bR J0 J1:=by
 unfold kindsF at h;unfold bR;rcases bw.1 h with h|h
 ·obtain⟨a,ha,rfl⟩:=aL.1 h;refine⟨by rw[fb,ah],fun sg hs=>?_⟩;rcases cA.1 hs with rfl|hs
  ·exact dj _ (dj _ (oA (fg.1 ha).1))
  ·exact dj _ (dJ _ hs)
 ·rw[eW.1 h];refine⟨by rw[aZ,ah];rfl,fun sg hs=>?_⟩;rcases bw.1 hs with hs|hs
  ·exact dj _ (dJ _ hs)
  ·exact dJ _ hs
theorem om{J0 J1 rooms:Zb}{ds:List ak}(h1:J0.length<=4)(h2:J1.length<=4):∀(d:Nat) (J5:Zb),intBits (cntM J0 J1 rooms ds d J5)<=bB d
 |0,_=>by unfold cntM bB;decide
 |d+1,J5=>by
  unfold cntM bB;split
  ·have:intBits 1<=1:=by decide
   omega
  ·have hp:∀x∈(kindsF J0 J1 rooms ds J5).map (fun k=>eO (k.map fun sg=>cntM J0 J1 rooms ds d (behF rooms ds J5 sg))),intBits x<=1+5 * bB d:=by
    intro x hx;obtain⟨k,hk,rfl⟩:=aL.1 hx;have:=o7 (b:=bB d) (k.map fun sg=>cntM J0 J1 rooms ds d (behF rooms ds J5 sg)) fun y hy=>by
     obtain⟨sg,_,rfl⟩:=aL.1 hy;exact om h1 h2 d _
    rw[ah,(lA hk).1]at this;have h3:(J1.length+1) * bB d<=5 * bB d:=c8 _ (by omega);omega
   have h3:=rM _ hp;rw[ah]at h3;have h4:=lC (J1:=J1) (rooms:=rooms) (ds:=ds) (J5:=J5) h1;have h5:=intBits_add_le (show intBits (1:Int)<=1 by decide) h3;omega
theorem AW:∀d,d<=4->bB d<=2000:=by
 intro d hd
 match d,hd with
 |0,_=>decide
 |1,_=>decide
 |2,_=>decide
 |3,_=>decide
 |4,_=>decide
inductive sp_product(vs:List V)(H:Hp)(Q:VK)(E:XK):Prop
 |mk (l:Addr) (ns:List Int) (b:Nat):(vs=[.ref l])->(H l=some (.lst (ns.map V.int)))->(∀x∈ns,intBits x<=b)->(b<=10000)->(ns.length<=1000)->(Q (.int (eO ns)) H)->sp_product vs H Q E
theorem ints_get{ns:List Int}{i:Nat}{x:V}(h:(ns.map V.int)[i]?=some x):∃n,ns[i]?=some n/\x=.int n:=by
 rw[cS]at h;obtain⟨n,e,rfl⟩:=kq.1 h;exact⟨n,e,rfl⟩
theorem rW{K:Za}{vs:List V}{H:Hp}{Q:VK}{E:XK}(h:sp_product vs H Q E):Bf K (bd Q) (start Ce vs) H:=by
 obtain⟨l,ns,b,rfl,hl,hb,b1,z,k⟩:=h;refine⟨_,rfl,l,rfl,⟨_,ax.of hl⟩,?_⟩;refine bD (xs:=ns.map V.int) (fun i σ H'=>∃x2,σ=[some (.ref l),some (.int (eO (ns.take i))),x2]/\H'=H) ⟨_,rfl,rfl⟩ (fun i σ H' _ ⟨_,_,e⟩=>by rw[e];exact ax.of hl) ?_ ?_
 ·rintro i y σ H' hi ⟨x2,rfl,rfl⟩;obtain⟨n,hn,rfl⟩:=ints_get hi;have hi':i<ns.length:=(bP.1 hn).1;have p:=o7 (b:=b) (ns.take i) fun x hx=>hb x (f6 hx);rw[az,qT (by omega)]at p;refine⟨_,rfl,_,rfl,_,_,rfl,rfl,IntMulOk.of_le p (hb n (bJ hn)) ?_,?_⟩
  ·have:i * b<=1000 * 10000:=Nat.mul_le_mul (by omega) b1;omega
  ·exact⟨_,by rw[take_snoc hn,se];rfl,rfl⟩
 ·rintro σ H' ⟨x2,rfl,rfl⟩;rw[ah,aT];exact⟨_,rfl,k⟩
theorem CH{K:Za}{vs:List V}{H:Hp}{Q:VK}{E:XK}(h:sp_product vs H Q E):wZ K (bd Q) (start yk vs) H:=rW h
inductive dv(vs:List V)(H:Hp)(Q:VK)(E:XK):Prop
 |mk (d:Nat):(vs=[.int (d:Nat)])->(d<=4)->(Q .non H)->dv vs H Q E
theorem tU{K:Za}{vs:List V}{H:Hp}{Q:VK}{E:XK}(h:dv vs H Q E):vC K (bd Q) (start wG vs) H:=by
 obtain⟨d,rfl,hd,k⟩:=h;refine⟨_,rfl,_,_,rfl,rfl,_,rfl,?_⟩;rw[zzr0 (by omega)];refine bS ⟨_,rfl,_,_,rfl,rfl,_,rfl,?_⟩;rw[zzr0 (by omega)];exact bS k
def GQ:HO->Bool
 |.dT _=>false
 |.frz _ _=>false
 |_=>true
def Kp(H H':Hp):Prop:=∀b o,H b=some o->GQ o=true->H' b=some o
theorem Kp.trans{H H1 H2:Hp}(a:Kp H H1)(b:Kp H1 H2):Kp H H2:=fun c o e n=>b c o (a c o e n) n
theorem Kp.kt{H H':Hp}(k:Kp H H'):iB H H':=fun b xs e=>k b _ e rfl
theorem ab.kp{H H':Hp}(S:ab H H'):Kp H H':=fun b o e _=>S b o e
theorem Kp.upd{H:Hp}{d:Addr}{o x:HO}(h:H d=some x)(n:GQ x=false):Kp H (upd H d o):=fun b u e z=>by
 rw[ai (fun q:b=d=>by rw[q,h]at e;cases e;rw[n]at z;cases z)];exact e
theorem Kp.exB{H H':Hp}{d:Addr}{x:HO}(h:H d=some x)(n:GQ x=false)(e:bu d H H'):Kp H H':=fun b u q z=>e b u q fun w=>by
 rw[w,h]at q;cases q;rw[n]at z;cases z
theorem gB{H H':Hp}{d:Addr}{x:HO}(k:∀o,H d=some o->H' d=some o)(h:Rd H d x):Rd H' d x:=h.imp (k _) fun⟨o,e⟩=>⟨o,k _ e⟩
theorem eM{kvs:List (TK×V)}{k:TK}{v:V}(h:aU kvs k=some v):(k,v)∈kvs:=by
 unfold aU at h;obtain⟨p,hp,rfl⟩:=kq.1 h;have h1:=List.mem_of_find?_eq_some hp;have h2:decide (p.1=k)=true:=by have:=List.find?_some hp;exact this
 rw[<-of_decide_eq_true h2];exact h1
def Gr(kv kv':List (TK×V)):Prop:=∀k v,aU kv k=some v->aU kv' k=some v
theorem Gr.refl(kv:List (TK×V)):Gr kv kv:=fun _ _ h=>h
theorem Gr.trans{a b c:List (TK×V)}(h:Gr a b)(k:Gr b c):Gr a c:=fun x v e=>k x v (h x v e)
theorem Gr.snoc{kv:List (TK×V)}{k:TK}{v:V}(h:aU kv k=none):Gr kv (kv++[(k,v)]):=fun x w e=>by
 rw[<-gJ v h,fB,if_neg (fun z=>by rw[z,h]at e;cases e)];exact e
structure KC(K:Za)(C:Addr):Prop where
 cls:yB K C
 a1:cw K C "machine"
 a2:cw K C "known"
structure yu(Cm Ck:Addr)(H0:Hp)(y M kd:Addr)(J0 J1 rooms:Zb)(ds:List ak):Prop where
 mach:aW Cm H0 M J0 J1 rooms ds
 ob:∃(dy:Addr) (fs:List (Str×V)),H0 y=some (.ins Ck dy fs)/\lk "machine" fs=some (.ref M)/\lk "known" fs=some (.ref kd)/\lk "steps_from" fs=none
 kdn:H0 kd=none
structure dS(H0 H:Hp)(kd:Addr)(kv:List (TK×V))(J0 J1 rooms:Zb)(ds:List ak)(n:Nat):Prop where
 same:ab H0 H
 hkd:H kd=some (.dT kv)
 kok:∀p∈kv,∃(J5:Zb) (d:Addr) (kvs:List (TK×V)),p=(eE J5,.ref d)/\d≠kd/\H0 d=none/\Rd H d (.dT kvs)/\jr H kvs (stepsF J0 J1 rooms ds J5)
 len:kv.length<=n
theorem dS.up{H0 H H':Hp}{kd:Addr}{kv:List (TK×V)}{J0 J1 rooms:Zb}{ds:List ak}{n:Nat}(h:dS H0 H kd kv J0 J1 rooms ds n)(S:ab H H'):dS H0 H' kd kv J0 J1 rooms ds n :=
 ⟨h.same.trans S,S _ _ h.hkd,fun p hp=>by obtain⟨f,d,kvs,e,n1,n2,r,st⟩:=h.kok p hp;exact⟨f,d,kvs,e,n1,n2,gB (S d) r,st.kt (ab.kt S)⟩,h.len⟩
theorem dS.more{H0 H:Hp}{kd:Addr}{kv:List (TK×V)}{J0 J1 rooms:Zb}{ds:List ak}{n m:Nat}(h:dS H0 H kd kv J0 J1 rooms ds n)(l:n<=m):dS H0 H kd kv J0 J1 rooms ds m:=⟨h.same,h.hkd,h.kok,aD h.len l⟩
theorem dS.frz{H0 H:Hp}{kd d:Addr}{o:Obj}{kv kvs:List (TK×V)}{k:TK}{J0 J1 rooms:Zb}{ds:List ak}{n:Nat}(h:dS H0 H kd kv J0 J1 rooms ds n)(v:aU kv k=some (.ref d))(hd:H d=some (.dT kvs)):
  dS H0 (upd H d (.frz o (.dT kvs))) kd kv J0 J1 rooms ds n:=by
 obtain⟨_,d1,_,e1,n1,n2,_,_⟩:=h.kok _ (eM v);injection e1 with _ e1;injection e1 with e1;subst e1;refine⟨fun b u e=>?_,by rw[ai n1.symm];exact h.hkd,fun p hp=>?_,h.len⟩
 ·rw[ai (ae e n2)];exact h.same _ _ e
 ·obtain⟨f,d2,kv2,e,q1,q2,r,st⟩:=h.kok p hp;refine⟨f,d2,kv2,e,q1,q2,?_,st.kt (FH hd)⟩;by_cases c:d2=d
  ·subst c;rcases r with r|⟨o',r⟩
   ·rw[hd]at r;cases r;exact .inr ⟨o,aa⟩
   ·rw[hd]at r;cases r
  ·exact gB (fun u e=>by rw[ai c];exact e) r
theorem dS.keep{H0 H:Hp}{kd a:Addr}{o:HO}{kv:List (TK×V)}{J0 J1 rooms:Zb}{ds:List ak}{n:Nat}(h:dS H0 H kd kv J0 J1 rooms ds n)(ha:H a=some o)(na:a≠kd)(nv:∀k,(k,V.ref a)∉kv):dS (upd H0 a o) H kd kv J0 J1 rooms ds n:=by
 refine⟨fun b u e=>?_,h.hkd,fun p hp=>?_,h.len⟩
 ·by_cases c:b=a
  ·subst c;rw[aa]at e;cases e;exact ha
  ·rw[ai c]at e;exact h.same _ _ e
 ·obtain⟨f,d2,kv2,e,q1,q2,r⟩:=h.kok p hp;refine⟨f,d2,kv2,e,q1,?_,r⟩;rw[ai (fun z=>nv (eE f) (by rw[<-z,<-e];exact hp))];exact q2
inductive jg(Cm Ck:Addr)(vs:List V)(H:Hp)(Q:VK)(E:XK):Prop
 |mk (H0:Hp) (y M kd u:Addr) (kv:List (TK×V)) (n:Nat) (J5 J0 J1 rooms:Zb) (ds:List ak):(vs=[.ref y,.ref u])->(yu Cm Ck H0 y M kd J0 J1 rooms ds)->(dS H0 H kd kv J0 J1 rooms ds n)->(H u=some (.tup (J5.map V.str)))->(∀r∈J5,r∈rooms)->(J5.length<=1000)->(n<=1000000) ->
  (∀(d:Addr) (kv' kvs:List (TK×V)) (H':Hp),dS H0 H' kd kv' J0 J1 rooms ds (n+1)->aU kv' (eE J5)=some (.ref d)->Rd H' d (.dT kvs)->jr H' kvs (stepsF J0 J1 rooms ds J5)->bu kd H H'->Gr kv kv'->Q (.ref d) H')->jg Cm Ck vs H Q E
theorem By{K:Za}{Cm Ck:Addr}(c:KC K Ck){vs:List V}{H:Hp}{Q:VK}{E:XK}(h:jg Cm Ck vs H Q E):jb K (jB Cm) (bd Q) (start js vs) H:=by
 obtain⟨H0,y,M,kd,u,kv,n,J5,J0,J1,rooms,ds,rfl,St,Dy,hu,hsub,hz,hn,k⟩:=h;obtain⟨dy,fs,g0,l1,l2,l3⟩:=St.ob;have g:=Dy.same _ _ g0;have tk:lU K H (eE J5) (.ref u):=cC.isIn 8 (eh J5) (SignAt.tk hu);have g1:lW K H kd (.ref u) (aU kv (eE J5)):=.inr ⟨_,_,_,.inl Dy.hkd,rfl,tk,eh J5,rfl⟩;refine⟨_,rfl,_,rfl,y,Ck,dy,fs,.ref kd,rfl,g,c.cls,c.a2,l2,kd,_,rfl,g1,_,rfl,?_⟩;cases v:aU kv (eE J5)with
 |some w =>
  obtain⟨f,d,kvs,e,n1,n2,r,st⟩:=Dy.kok _ (eM v);injection e with e1 e2;cases eS e1;subst e2;refine bS ?_;rw[v]at g1;exact⟨_,rfl,y,Ck,dy,fs,.ref kd,rfl,g,c.cls,c.a2,l2,_,rfl,kd,_,rfl,g1,k d kv kvs H (Dy.more (by omega)) v r st (bu.refl _ _) (.refl _)⟩
 |none =>
  refine cj ?_;refine⟨_,rfl,y,Ck,dy,fs,.ref M,rfl,g,c.cls,c.a1,l1,_,rfl,M,u,J5,J0,J1,rooms,ds,rfl,St.mach.same Dy.same,hu,hsub,hz,fun d kvs H1 hd st dn S1=>?_⟩;have D1:=Dy.up S1;have nd:d≠kd:=(ae Dy.hkd dn).symm;refine⟨_,rfl,y,Ck,dy,fs,.ref kd,rfl,S1 _ _ g,c.cls,c.a2,l2,_,rfl,kd,_,rfl,.inr ⟨_,eE J5,u,D1.hkd,rfl,SignAt.tk (S1 _ _ hu),eh J5,?_,rfl⟩,?_⟩
  ·have:=Dy.len;rw[pL];omega
  rw[gJ _ v];have kt:iB H1 (upd H1 kd (.dT (kv++[(eE J5,.ref d)]))):=FH D1.hkd;have v2:aU (kv++[(eE J5,V.ref d)]) (eE J5)=some (.ref d):=by rw[<-gJ (.ref d) v,fB,if_pos rfl]
  have D2:dS H0 (upd H1 kd (.dT (kv++[(eE J5,.ref d)]))) kd (kv++[(eE J5,.ref d)]) J0 J1 rooms ds (n+1):=by
   refine⟨fun b o e=>?_,aa,fun p hp=>?_,?_⟩
   ·rw[ai (ae e St.kdn)];exact D1.same _ _ e
   ·rcases bw.1 hp with hp|hp
    ·obtain⟨f,d2,kv2,e,q1,q2,r,st'⟩:=D1.kok p hp;exact⟨f,d2,kv2,e,q1,q2,gB (fun o e=>by rw[ai q1];exact e) r,st'.kt kt⟩
    ·rw[eW.1 hp];exact⟨J5,d,kvs,rfl,nd,Dy.same.free dn,.inl (by rw[ai nd];exact hd),st.kt kt⟩
   ·rw[aZ];show _+1<=_;have:=Dy.len;omega
  have g5:lW K (upd H1 kd (.dT (kv++[(eE J5,.ref d)]))) kd (.ref u) (some (.ref d)):=.inr ⟨_,eE J5,u,.inl aa,rfl,cC.isIn 8 (eh J5) (SignAt.tk (kt _ _ (S1 _ _ hu))),eh J5,v2.symm⟩;exact⟨_,rfl,y,Ck,dy,fs,.ref kd,rfl,D2.same _ _ g0,c.cls,c.a2,l2,_,rfl,kd,_,rfl,g5,k d _ kvs _ D2 v2 (.inl (by rw[ai nd];exact hd)) (st.kt kt) (fun b o e nb=>by rw[ai nb];exact S1 _ _ e) (.snoc v)⟩
inductive jf(Ck:Addr)(vs:List V)(H:Hp)(Q:VK)(E:XK):Prop
 |mk (x dx M:Addr):(vs=[.ref x,.ref M])->(H x=some (.ins Ck dx []))->(∀(kd:Addr) (fs:List (Str×V)) (H':Hp),H' x=some (.ins Ck dx fs)->lk "machine" fs=some (.ref M)->lk "known" fs=some (.ref kd)->lk "steps_from" fs=none->H' kd=some (.dT [])->H kd=none->bu x H H'->Q .non H')->jf Ck vs H Q E
theorem Bx{K:Za}{Ck:Addr}(c:KC K Ck){vs:List V}{H:Hp}{Q:VK}{E:XK}(h:jf Ck vs H Q E):j8 K (bd Q) (start kg vs) H:=by
 obtain⟨x,dx,M,rfl,hx,k⟩:=h;refine⟨_,rfl,_,rfl,x,Ck,dx,[],rfl,hx,c.cls,c.a1,(by decide),?_⟩;obtain⟨H1,e1,hx1,X1⟩:=kU "machine" (.ref M) hx;rw[<-e1];have len1:(cp ("machine":Str) (.ref M) []).length<=1:=cI _ _ _;refine fun kd hkd=>⟨_,rfl,x,Ck,dx,_,rfl,kp hx1 hkd,c.cls,c.a2,by omega,?_⟩;obtain⟨H2,e2,hx2,X2⟩:=kU "known" (.ref kd) (kp (x:=.dT []) hx1 hkd);rw[<-e2];have nk:kd≠x:=(ae hx1 hkd).symm;refine k kd _ H2 hx2 ?_ ?_ ?_ (X2 _ _ aa nk) ?_ fun b o e n=>X2 _ _ (kp (X1 _ _ e n) hkd) n
 ·show eC _ _=_;repeat (rw[aO];first|rw[if_pos rfl] | rw[if_neg (by decide +kernel)])
 ·show eC _ _=_;repeat (rw[aO];first|rw[if_pos rfl] | rw[if_neg (by decide +kernel)])
 ·show eC _ _=_;repeat (rw[aO];first|rw[if_pos rfl] | rw[if_neg (by decide +kernel)])
  rfl
 ·cases e:H kd with
  |none=>rfl
  |some o=>have:=X1 _ _ e nk;rw[hkd]at this;cases this
def oo(J5:Zb)(d:Nat):TK:=.t [eE J5,.k (some (.inl (d:Int)))]
theorem AV{f g:Zb}{d e:Nat}(h:oo f d=oo g e):f=g/\d=e:=by
 unfold oo at h;injection h with h;injection h with h1 h2;injection h2 with h2 _;injection h2 with h2;injection h2 with h2;injection h2 with h2;exact⟨eS h1,by omega⟩
theorem dA(f:Zb)(d:Nat):(oo f d).depth<=8:=by
 show max (eE f).depth (max 0 0)+1<=8;rw[f_];decide
structure DC(K:Za)(C:Addr):Prop where
 cls:yB K C
 a1:cw K C "says_signs"
 a2:cw K C "known_steps"
 a3:cw K C "known_counts"
structure sZ(Cm Ck Cd:Addr)(H0:Hp)(x sl y M kd cd:Addr)(us:Ze)(J0 J1 rooms:Zb)(ds:List ak):Prop where
 ks:yu Cm Ck H0 y M kd J0 J1 rooms ds
 ob:∃(dx:Addr) (fs:List (Str×V)),H0 x=some (.ins Cd dx fs)/\lk "says_signs" fs=some (.ref sl)/\lk "known_steps" fs=some (.ref y)/\lk "known_counts" fs=some (.ref cd)/\∀f:Str,f≠"says_signs"->f≠"known_steps"->f≠"known_counts"->lk f fs=none
 hsl:H0 sl=some (.lst (us.map V.ref))
 sg:jM H0 us (J1.map fH)
 cdn:H0 cd=none
 ne:kd≠cd
structure cY(H0 H:Hp)(kd cd:Addr)(kv cv:List (TK×V))(J0 J1 rooms:Zb)(ds:List ak)(n:Nat):Prop where
 ks:dS H0 H kd kv J0 J1 rooms ds n
 ncd:∀k,(k,V.ref cd)∉kv
 hcd:H cd=some (.dT cv)
 cok:∀p∈cv,∃(J5:Zb) (d:Nat),p=(oo J5 d,.int (cntM J0 J1 rooms ds d J5))
 clen:cv.length<=n
section
variable{H0 H H1 H':Hp}{kd cd d:Addr}{o:Obj}{kv cv kvs:List (TK×V)}{k:TK}{J0 J1 rooms:Zb}{ds:List ak}{n m:Nat}
theorem dS.weak(S:ab H0 H1)(h:dS H1 H kd kv J0 J1 rooms ds n):dS H0 H kd kv J0 J1 rooms ds n :=
 ⟨S.trans h.same,h.hkd,fun p hp=>by obtain⟨f,d,kvs,e,n1,n2,r⟩:=h.kok p hp;exact⟨f,d,kvs,e,n1,S.free n2,r⟩,h.len⟩
theorem cY.up(h:cY H0 H kd cd kv cv J0 J1 rooms ds n)(S:ab H H'):cY H0 H' kd cd kv cv J0 J1 rooms ds n:=⟨h.ks.up S,h.ncd,S _ _ h.hcd,h.cok,h.clen⟩
theorem dS.cell{f:Addr}{xs ys:List V}(h:dS H0 H kd kv J0 J1 rooms ds n)(h0:H0 f=none)(hf:H f=some (.lst xs)):dS H0 (L2.upd H f (.lst ys)) kd kv J0 J1 rooms ds n :=
 ⟨fun b o e=>by rw[ai (ae e h0)];exact h.same _ _ e,by rw[ai (fun z=>by have:=h.hkd;rw[z,hf]at this;cases this)];exact h.hkd,fun p hp=>by
  obtain⟨g,d,kvs,e,n1,n2,r,st⟩:=h.kok p hp;refine⟨g,d,kvs,e,n1,n2,gB (fun o e=>?_) r,st.kt (fP hf)⟩;rw[ai (fun z=>by rw[z]at r;rcases r with r|⟨_,r⟩<;>(rw[hf]at r;cases r))];exact e,h.len⟩
theorem cY.cell{f:Addr}{xs ys:List V}(h:cY H0 H kd cd kv cv J0 J1 rooms ds n)(h0:H0 f=none)(hf:H f=some (.lst xs)):cY H0 (L2.upd H f (.lst ys)) kd cd kv cv J0 J1 rooms ds n :=
 ⟨h.ks.cell h0 hf,h.ncd,by rw[ai (fun z=>by have:=h.hcd;rw[z,hf]at this;cases this)];exact h.hcd,h.cok,h.clen⟩
theorem cY.more(h:cY H0 H kd cd kv cv J0 J1 rooms ds n)(l:n<=m):cY H0 H kd cd kv cv J0 J1 rooms ds m:=⟨h.ks.more l,h.ncd,h.hcd,h.cok,aD h.clen l⟩
theorem cY.frz(h:cY H0 H kd cd kv cv J0 J1 rooms ds n)(v:aU kv k=some (.ref d))(hd:H d=some (.dT kvs)):cY H0 (upd H d (.frz o (.dT kvs))) kd cd kv cv J0 J1 rooms ds n :=
 ⟨h.ks.frz v hd,h.ncd,by rw[ai (fun z=>h.ncd k (by rw[z];exact eM v))];exact h.hcd,h.cok,h.clen⟩
end
theorem dI.kp{K:Za}{H H':Hp}{w:Addr}{s:List Sg}(k:Kp H H')(h:dI K H w s):dI K H' w s:=by
 obtain⟨gs,h1,h2⟩:=h;exact⟨gs,k _ _ h1 rfl,Paired.mapP h2 fun _ _ r=>gj.kt k.kt r⟩
inductive ib(Cm Ck Cd:Addr)(vs:List V)(H:Hp)(Q:VK)(E:XK):Prop
 |mk (H0:Hp) (x sl y M kd cd u:Addr) (us:Ze) (kv cv:List (TK×V)) (n:Nat) (J5 J0 J1 rooms:Zb) (ds:List ak):(vs=[.ref x,.ref u])->(sZ Cm Ck Cd H0 x sl y M kd cd us J0 J1 rooms ds)->(cY H0 H kd cd kv cv J0 J1 rooms ds n)->(H u=some (.tup (J5.map V.str)))->(∀r∈J5,r∈rooms)->(J5.length<=1000)->(n<=1000000) ->
  (∀(d:Addr) (kv' kvs:List (TK×V)) (H':Hp),cY H0 H' kd cd kv' cv J0 J1 rooms ds (n+1)->aU kv' (eE J5)=some (.ref d)->Rd H' d (.dT kvs)->jr H' kvs (stepsF J0 J1 rooms ds J5)->bu kd H H'->Gr kv kv'->Q (.ref d) H')->ib Cm Ck Cd vs H Q E
theorem Bw{K:Za}{Cm Ck Cd:Addr}(c:DC K Cd){vs:List V}{H:Hp}{Q:VK}{E:XK}(h:ib Cm Ck Cd vs H Q E):nA K Ck (jg Cm Ck) (bd Q) (start oy vs) H:=by
 obtain⟨H0,x,sl,y,M,kd,cd,u,us,kv,cv,n,J5,J0,J1,rooms,ds,rfl,St,Dy,hu,hsub,hz,hn,k⟩:=h;obtain⟨dx,fs,g0,l1,l2,l3,l4⟩:=St.ob;obtain⟨dy,fy,gy,m1,m2,m3⟩:=id St.ks.ob;have S0:ab H0 (upd H0 cd (.dT cv)):=ab.new St.cdn;have St':yu Cm Ck (upd H0 cd (.dT cv)) y M kd J0 J1 rooms ds:=⟨St.ks.mach.same S0,⟨dy,fy,S0 _ _ gy,m1,m2,m3⟩,by rw[ai St.ne];exact St.ks.kdn⟩;refine⟨_,rfl,x,Cd,dx,fs,.ref y,rfl,Dy.ks.same _ _ g0,c.cls,c.a2,l2,y,dy,fy,rfl,Dy.ks.same _ _ gy,m3,_,rfl,upd H0 cd (.dT cv),y,M,kd,u,kv,n,J5,J0,J1,rooms,ds,rfl,St',Dy.ks.keep Dy.hcd St.ne.symm Dy.ncd,hu,hsub,hz,hn,fun d kv' kvs H' D' v r st ex gr=>?_⟩;refine k d kv' kvs H' ⟨D'.weak S0,fun q hq=>?_,D'.same _ _ aa,Dy.cok,by have:=Dy.clen;omega⟩ v r st ex gr;obtain⟨_,_,_,e,_,z,_⟩:=D'.kok _ hq;injection e with _ e;injection e with e;rw[<-e,aa]at z;cases z
def iy(sg:Sg):Bool:=decide (sg.head?=some ("ask":Str))
theorem mH{rooms J5:Zb}{ds:List ak}{g:Str->Sg}{b:Bool}(hb:∀a,iy (g a)=b):∀A:List Str,((((A.map g).map fun sg=>(sg,behF rooms ds J5 sg)).filter fun p=>decide (p.2≠[])).filter fun p=>iy p.1).map (·.1)=if b=true then(A.filter fun a=>decide (behF rooms ds J5 (g a)≠[])).map g else[]
 |[]=>by cases b<;>rfl
 |a::A=>by
  have ih:=mH (rooms:=rooms) (J5:=J5) (ds:=ds) hb A;rw[bj,bj];by_cases c:behF rooms ds J5 (g a)=[]
  ·rw[uU (by simp[c]),ih,uU (by simp[c])]
  ·rw[uT (by simp[c]),uT (p:=fun a=>decide (behF rooms ds J5 (g a)≠[])) (by simp[c])];cases b with
   |true=>rw[uT (by exact hb a),bj,ih];rfl
   |false=>rw[uU (by show ¬iy (g a)=true;rw[hb a];decide),ih];rfl
def askS(J0 rooms:Zb)(ds:List ak)(J5:Zb):List Sg:=(J0.filter fun a=>decide (behF rooms ds J5 (bE a)≠[])).map bE
theorem xn(J0 J1 rooms:Zb)(ds:List ak)(J5:Zb):((stepsF J0 J1 rooms ds J5).filter fun p=>iy p.1).map (·.1)=askS J0 rooms ds J5:=by
 unfold stepsF bR;rw[aq,aq,gS,gS,gS,gS,aq,aq,mH (b:=true) (fun a=>by unfold iy bE;rfl),mH (b:=false) (fun a=>by unfold iy fH;rfl)];rw[if_pos rfl,if_neg (by decide)];have:((([b9].map fun sg=>(sg,behF rooms ds J5 sg)).filter fun p=>decide (p.2≠[])).filter fun p=>iy p.1)=[]:=by
  rw[List.filter_eq_nil_iff];intro p hp;obtain⟨sg,hs,rfl⟩:=aL.1 (fg.1 hp).1;rw[eW.1 hs];show ¬iy b9=true
  decide
 rw[this,dD];show _++[]=_;rw[dD];rfl
theorem EC{J0 J1:Zb}{sg:Sg}(h:sg∈bR J0 J1):∃s0 rest,sg=s0::rest:=by
 unfold bR at h;rcases bw.1 h with h|h
 ·rcases bw.1 h with h|h
  ·obtain⟨a,_,rfl⟩:=aL.1 h;exact⟨_,_,rfl⟩
  ·obtain⟨a,_,rfl⟩:=aL.1 h;exact⟨_,_,rfl⟩
 ·rw[eW.1 h];exact⟨_,_,rfl⟩
theorem Bl{J0 J1 rooms J5:Zb}{ds:List ak}(m:aG J0 J1 rooms ds):(stepsF J0 J1 rooms ds J5).length<=9:=by
 have z1:=m.asks4;have z2:=m.says4;unfold stepsF;refine aD (cB _ _) ?_;unfold bR;rw[ah,aZ,aZ,ah,ah];show _+1<=9;omega
abbrev FQ(K:Za)(H:Hp)(us:Ze)(L:List Sg):Prop:=Paired (fun s (sg:Sg)=>gj K H s (sg.map V.str)) us L
theorem FQ.kt{K:Za}{H H':Hp}{us:Ze}{L:List Sg}(k:iB H H')(h:FQ K H us L):FQ K H' us L:=Paired.mapP h fun _ _ r=>gj.kt k r
theorem uK{K:Za}{σ:L2.St}{H:Hp}{d l:Addr}{o:Obj}{kvs:List (TK×V)}{J0 J1 rooms J5:Zb}{ds:List ak}{Q:Hp->Prop}(m:aG J0 J1 rooms ds)(hd:H d=some (.frz o (.dT kvs)))(st:jr H kvs (stepsF J0 J1 rooms ds J5))(hl:H l=none)
  (k:∀(us:Ze) (H':Hp),H' l=some (.lst (us.map V.ref))->FQ K H' us (askS J0 rooms ds J5)->ab H H'->Q H') :
  dU 1 [] σ (GB d o (.dT kvs) kvs.length (Fg K kvs)) U0 (aV (aJ v5 (aJ (pT K) V0 (tC (.int 0))) (tC (.str "ask")))) V0 H l Q:=by
 have zs:=Bl (J5:=J5) m;refine BX (fun i vs H'=>∃us:List Addr,vs=us.map V.ref/\ab H H'/\H' l=some (.lst vs)/\FQ K H' us ((((stepsF J0 J1 rooms ds J5).take i).filter fun p=>iy p.1).map (·.1))) ⟨[],rfl,ab.new hl,aa,.nil⟩ (fun i vs H' _ ⟨_,_,S,h',_⟩=>⟨h',S _ _ hd⟩) ?_ ?_
 ·rintro vs H' ⟨us,rfl,S,h',hP⟩;rw[Paired.length st,aT,xn]at hP;exact k us H' h' hP S
 ·rintro i vs H' a b hi ⟨us,rfl,S,h',hP⟩ ⟨key,ek,tkc⟩;obtain⟨p,hp,e,_⟩:=Paired.getL st ek;have e:key=eE p.1:=e;rw[e]at tkc;obtain⟨s,rfl,tc⟩:=Cy tkc;obtain⟨sg,hsg,ep⟩:=aL.1 (fg.1 (bJ hp)).1;have e1:p.1=sg:=by rw[<-ep]
  obtain⟨s0,rest,e2⟩:=EC hsg;have tc':=tc;rw[e1,e2]at tc';have hd':(decide (V.str s0=V.str ("ask":Str)))=iy p.1:=by
   unfold iy;rw[e1,e2];by_cases c:s0=("ask":Str)
   ·rw[c];simp
   ·rw[zzr0 (fun z=>c (by injection z)),zzr0 (fun z=>c (by simpa using z))]
  refine gN ?_;refine⟨_,rfl,.inr (.inl ⟨s,_,0,.str s0,rfl,rfl,gj.sq tc',cy (j:=0) rfl,rfl,_,rfl,?_⟩)⟩;rw[hd'];refine hU (fun hq=>?_) (fun hq=>?_)
  ·refine⟨_,rfl,h',?_,ke hi ⟨us++[s],by rw[aq];rfl,?_,aa,?_⟩⟩
   ·rw[ah,Paired.length hP,ah];refine am (aD (cB _ _) ?_);rw[az];omega
   ·intro b o q;rw[ai (ae q hl)];exact S _ _ q
   ·rw[take_snoc hp,gS,aq,uT (by exact hq)];have hk:iB H' (upd H' l (.lst (us.map V.ref++[.ref s]))):=fP h';exact f8 (hP.kt hk) (gj.kt hk tc)
  ·refine ke hi ⟨us,rfl,S,h',?_⟩;rw[take_snoc hp,gS,aq,uU (by exact hq)];show FQ K H' us (_++[]);rw[dD];exact hP
theorem sE{K:Za}{Cm Ck Cd hu:Addr}(c:DC K Cd)(hh:∀H,bA K H hu (b9.map V.str)){H0 H:Hp}{x sl y M kd cd u al:Addr}{us as:Ze}{J0 J1 rooms J5:Zb}{ds:List ak}{Q:VK}{nx:L2.St->Hp->Prop}
  (St:sZ Cm Ck Cd H0 x sl y M kd cd us J0 J1 rooms ds) (S:ab H0 H) (hal:H al=some (.lst (as.map V.ref))) (hA:FQ K H as (askS J0 rooms ds J5))
  (k:∀(l:Addr) (ks:Ze) (H':Hp),H' l=some (.lst (ks.map V.ref))->Paired (dI K H') ks (kindsF J0 J1 rooms ds J5)->ab H H'->Q (.ref l) H') :
  (a_ (aJ kb (b_ 1 [0] (bq K V2) U0 (gV) (aJ kb (cK (ay V0)) (eN K V1 "says_signs"))) (cK (ao (aJ kb (eN K V0 "says_signs") (cK (ay (tC (.ref hu))))) bm)))) { nx:=nx,rt:=Q } [some (.ref x),some (.ref u),some (.ref al)] H:=by
 obtain⟨dx,fs,g0,l1,l2,l3,l4⟩:=St.ob;have mo:=St.ks.mach.ok;have z1:=mo.asks4;have z2:=mo.says4;have zu:us.length<=4:=by rw[Paired.length St.sg,ah];exact z2
 have za:(askS J0 rooms ds J5).length<=4:=by unfold askS;rw[ah];exact aD (cB _ _) z1
 have sgT:∀{H':Hp},ab H0 H'->FQ K H' us (J1.map fH):=fun S'=>Paired.mapP (jM.kt (ab.kt S') St.sg) fun _ _ r=>.inl r;refine⟨_,rfl,al,rfl,⟨_,ax.of hal⟩,fun kl hkl=>?_⟩;refine bh (xs:=as.map V.ref) (fun i vs H'=>∃ks:List Addr,vs=ks.map V.ref/\ab H H'/\H' kl=some (.lst vs)/\Paired (dI K H') ks (((askS J0 rooms ds J5).take i).map fun sg=>sg::J1.map fH)/\∀q∈ks,q≠kl) ⟨[],rfl,ab.new hkl,aa,.nil,fun _ h=>by cases h⟩ (fun i vs H' _ ⟨_,_,S',h',_⟩=>⟨h',ax.of (S' _ _ hal)⟩) ?_ ?_;rotate_left
 ·rintro i vs H1 v hv hi ⟨ks,rfl,S1,h1,hK,nk⟩;obtain⟨s,hs,rfl⟩:=bQ hv;obtain⟨sg,hsg,hat⟩:=Paired.getL hA hs;refine gN (lK ?_);refine⟨_,rfl,(by show 1<=aj;decide),fun ll hll=>?_⟩;have S2:ab H1 (upd H1 ll (.lst [.ref s])):=ab.new hll;have ll2:upd H1 ll (.lst [.ref s]) ll=some (.lst [.ref s]):=aa;generalize upd H1 ll (.lst [.ref s])=H2 at S2 ll2 ⊢;have S02:=(S.trans S1).trans S2;refine⟨_,rfl,x,Cd,dx,fs,.ref sl,rfl,S02 _ _ g0,c.cls,c.a1,l1,ll,sl,_,_,rfl,rfl,ll2,S02 _ _ St.hsl,?_,fun c1 hc1=>?_⟩
  ·rw[ah];exact cZ (am (by show 1+_<=1000;omega))
  have S3:ab H2 (upd H2 c1 (.lst ([V.ref s]++us.map V.ref))):=ab.new hc1;have c3:upd H2 c1 (.lst ([V.ref s]++us.map V.ref)) c1=some (.lst ((s::us).map V.ref)):=aa;have nc:c1≠kl:=(ae (S2 _ _ h1) hc1).symm;generalize upd H2 c1 (.lst ([V.ref s]++us.map V.ref))=H3 at S3 c3 ⊢;have S13:=S2.trans S3;have S03:=(S.trans S1).trans S13;have kl3:=S13 _ _ h1;have hk:iB H3 (upd H3 kl (.lst (ks.map V.ref++[.ref c1]))):=fP kl3;refine⟨kl3,?_,ke hi ⟨ks++[c1],by rw[aq];rfl,?_,aa,?_,fun q hq=>?_⟩⟩
  ·rw[ah,Paired.length hK,ah,az];exact am (by omega)
  ·intro b o q;rw[ai (ae q hkl)];exact S13 _ _ (S1 _ _ q)
  ·rw[take_snoc hsg,aq];have cell:∀{q:Addr}{L:List Sg},q≠kl->dI K H3 q L->dI K (upd H3 kl (.lst (ks.map V.ref++[.ref c1]))) q L:=fun n h=>h.kt hk fun o e=>by rw[ai n];exact e
   refine f8 ?_ (cell nc ⟨s::us,c3,.cons (gj.kt (ab.kt (S1.trans S13)) hat) (sgT S03)⟩);refine Paired.mapM hK fun q L hq r=>cell (nk q hq) (r.kt (ab.kt S13) fun o e=>S13 _ _ e)
  ·rcases bw.1 hq with hq|hq
   ·exact nk q hq
   ·rw[eW.1 hq];exact nc
 ·rintro vs H1 ⟨ks,rfl,S1,h1,hK,_⟩;rw[ah,Paired.length hA,aT]at hK;have S01:=S.trans S1;refine⟨_,rfl,x,Cd,dx,fs,.ref sl,rfl,S01 _ _ g0,c.cls,c.a1,l1,(by show 1<=aj;decide),fun hl hhl=>?_⟩;have S2:ab H1 (upd H1 hl (.lst [.ref hu])):=ab.new hhl;have hl2:upd H1 hl (.lst [.ref hu]) hl=some (.lst [.ref hu]):=aa;generalize upd H1 hl (.lst [.ref hu])=H2 at S2 hl2 ⊢;have S02:=S01.trans S2;refine⟨sl,hl,_,_,rfl,rfl,S02 _ _ St.hsl,hl2,?_,fun c2 hc2=>?_⟩
  ·rw[ah];exact cZ (am (by show _+1<=1000;omega))
  have S3:ab H2 (upd H2 c2 (.lst (us.map V.ref++[.ref hu]))):=ab.new hc2;have c3:upd H2 c2 (.lst (us.map V.ref++[.ref hu])) c2=some (.lst ((us++[hu]).map V.ref)):=by rw[aa,aq];rfl
  generalize upd H2 c2 (.lst (us.map V.ref++[.ref hu]))=H3 at S3 c3 ⊢;refine⟨(by show 1<=aj;decide),fun ol hol=>?_⟩;have S4:ab H3 (upd H3 ol (.lst [.ref c2])):=ab.new hol;have ol4:upd H3 ol (.lst [.ref c2]) ol=some (.lst [.ref c2]):=aa;generalize upd H3 ol (.lst [.ref c2])=H4 at S4 ol4 ⊢;have S14:=(S2.trans S3).trans S4;refine⟨kl,ol,_,_,rfl,rfl,S14 _ _ h1,ol4,?_,fun r hr=>?_⟩
  ·rw[ah,Paired.length hK,ah];exact cZ (am (by show _+1<=1000;omega))
  have S5:ab H4 (upd H4 r (.lst (ks.map V.ref++[.ref c2]))):=ab.new hr;refine k r (ks++[c2]) _ (by rw[aa,aq];rfl) ?_ ((S1.trans S14).trans S5);have S15:=S14.trans S5;have e:kindsF J0 J1 rooms ds J5=((askS J0 rooms ds J5).map fun sg=>sg::J1.map fH)++[J1.map fH++[b9]]:=by
   unfold kindsF askS;rw[iR];rfl
  rw[e];refine f8 (Paired.mapP hK fun _ _ h=>h.kt (ab.kt S15) fun o e=>S15 _ _ e) ⟨us++[hu],S5 _ _ (S4 _ _ c3),?_⟩;exact Paired.app (sgT (S01.trans S15)) (.cons (Al hh _) .nil)
inductive je(K:Za)(Cm Ck Cd:Addr)(vs:List V)(H:Hp)(Q:VK)(E:XK):Prop
 |mk (H0:Hp) (x sl y M kd cd u:Addr) (us:Ze) (kv cv:List (TK×V)) (n:Nat) (J5 J0 J1 rooms:Zb) (ds:List ak):(vs=[.ref x,.ref u])->(sZ Cm Ck Cd H0 x sl y M kd cd us J0 J1 rooms ds)->(cY H0 H kd cd kv cv J0 J1 rooms ds n)->(H u=some (.tup (J5.map V.str)))->(∀r∈J5,r∈rooms)->(J5.length<=1000)->(n<=1000000) ->
  (∀(l:Addr) (ks:Ze) (kv':List (TK×V)) (H':Hp),H' l=some (.lst (ks.map V.ref))->Paired (dI K H') ks (kindsF J0 J1 rooms ds J5)->cY H0 H' kd cd kv' cv J0 J1 rooms ds (n+1)->Kp H H'->Gr kv kv'->Q (.ref l) H')->je K Cm Ck Cd vs H Q E
theorem Bt{K:Za}{Cm Ck Cd hu:Addr}(c:DC K Cd)(hh:∀H,bA K H hu (b9.map V.str)){vs:List V}{H:Hp}{Q:VK}{E:XK}(h:je K Cm Ck Cd vs H Q E):p_ K hu Cd (ib Cm Ck Cd) (bd Q) (start qr vs) H:=by
 obtain⟨H0,x,sl,y,M,kd,cd,u,us,kv,cv,n,J5,J0,J1,rooms,ds,rfl,St,Dy,hu',hsub,hz,hn,k⟩:=h;obtain⟨dx,fs,g0,l1,l2,l3,l4⟩:=St.ob;have mo:=St.ks.mach.ok;refine⟨_,rfl,x,dx,fs,rfl,Dy.ks.same _ _ g0,l4 "steps_from" (by decide +kernel) (by decide +kernel) (by decide +kernel),_,rfl,H0,x,sl,y,M,kd,cd,u,us,kv,cv,n,J5,J0,J1,rooms,ds,rfl,St,Dy,hu',hsub,hz,hn,fun d kv' kvs H1 D1 v1 r1 st1 ex1 gr=>⟨d,kvs,rfl,?_⟩⟩;have kp1:Kp H H1:=Kp.exB Dy.ks.hkd rfl ex1;rcases r1 with r1|⟨o,r1⟩
 ·refine .inl ⟨r1,fun o l hl=>?_⟩;have D2:=D1.frz (o:=o) v1 r1;have kp2:Kp H1 (upd H1 d (.frz o (.dT kvs))):=Kp.upd r1 rfl;refine uK mo aa (st1.kt (FH r1)) hl fun as H2 h2 hA S2=>?_;exact sE c hh St (D2.ks.same.trans S2) h2 hA fun r ks H3 h3 hK S3=>k r ks kv' H3 h3 hK ((D2.up S2).up S3) ((kp1.trans kp2).trans (ab.kp (S2.trans S3))) gr
 ·refine .inr ⟨o,r1,fun l hl=>?_⟩;refine uK mo r1 st1 hl fun as H2 h2 hA S2=>?_;exact sE c hh St (D1.ks.same.trans S2) h2 hA fun r ks H3 h3 hK S3=>k r ks kv' H3 h3 hK ((D1.up S2).up S3) (kp1.trans (ab.kp (S2.trans S3))) gr
def nB:Nat->Nat
 |0=>0
 |d+1=>7+25 * nB d
def Ha(H:Hp)(v:V)(J5:Zb):Prop:=(v=.non/\J5=[])∨∃u,v=.ref u/\H u=some (.tup (J5.map V.str))
inductive gG(Cm Ck Cd:Addr)(D:Nat)(vs:List V)(H:Hp)(Q:VK)(E:XK):Prop
 |mk (H0:Hp) (x sl y M kd cd:Addr) (us:Ze) (v:V) (kv cv:List (TK×V)) (n d:Nat) (J5 J0 J1 rooms:Zb) (ds:List ak):(vs=[.ref x,v,.int (d:Nat)])->(d<=D)->(sZ Cm Ck Cd H0 x sl y M kd cd us J0 J1 rooms ds)->(cY H0 H kd cd kv cv J0 J1 rooms ds n)->(Ha H v J5)->(v≠.non->J5≠[])->(∀r∈J5,r∈rooms)->(J5.length<=1000)->(n+nB d<=1000000) ->
  (∀(kv' cv':List (TK×V)) (H':Hp),cY H0 H' kd cd kv' cv' J0 J1 rooms ds (n+nB d)->Kp H H'->Gr kv kv'->Q (.int (cntM J0 J1 rooms ds d J5)) H')->gG Cm Ck Cd D vs H Q E
inductive kI(K:Za)(Cm Ck Cd:Addr)(D:Nat)(vs:List V)(H:Hp)(Q:VK)(E:XK):Prop
 |mk (H0:Hp) (x sl y M kd cd u kl:Addr) (us:Ze) (kv cv:List (TK×V)) (n d:Nat) (kind:List Sg) (J5 J0 J1 rooms:Zb) (ds:List ak):(vs=[.ref x,.ref u,.int ((d+1:Nat)),.ref kl])->(d<=D)->(d<=4)->(sZ Cm Ck Cd H0 x sl y M kd cd us J0 J1 rooms ds)->(cY H0 H kd cd kv cv J0 J1 rooms ds n)->(H u=some (.tup (J5.map V.str)))->(∀r∈J5,r∈rooms)->(J5.length<=1000)->(dI K H kl kind)->(∀sg∈kind,sg∈bR J0 J1)->(kind.length<=5)->(n+1+5 * nB d<=1000000) ->
  (∀(kv' cv':List (TK×V)) (H':Hp),cY H0 H' kd cd kv' cv' J0 J1 rooms ds (n+1+5 * nB d)->Kp H H'->Gr kv kv'->Q (.int (eO (kind.map fun sg=>cntM J0 J1 rooms ds d (behF rooms ds J5 sg)))) H')->kI K Cm Ck Cd D vs H Q E
theorem CS{K:Za}{Cm Ck Cd:Addr}{D:Nat}{vs:List V}{H:Hp}{Q:VK}{E:XK}(h:kI K Cm Ck Cd D vs H Q E):qa K sp_product Cd (gG Cm Ck Cd D) (ib Cm Ck Cd) (bd Q) (start qt vs) H:=by
 obtain⟨H0,x,sl,y,M,kd,cd,u,kl,us,kv,cv,n,d,kind,J5,J0,J1,rooms,ds,rfl,hD,d4,St,Dy,hu,hsub,hz,hk,hin,zk,hn,k⟩:=h;obtain⟨dx,fs,g0,l1,l2,l3,l4⟩:=St.ob;have mo:=St.ks.mach.ok;have z1:=mo.asks4;have z2:=mo.says4;have z3:=mo.rooms26;refine⟨_,rfl,x,dx,fs,rfl,Dy.ks.same _ _ g0,l4 "steps_from" (by decide +kernel) (by decide +kernel) (by decide +kernel),_,rfl,H0,x,sl,y,M,kd,cd,u,us,kv,cv,n,J5,J0,J1,rooms,ds,rfl,St,Dy,hu,hsub,hz,by omega,fun sd kv1 kvs H1 D1 v1 _ _ ex1 gr1=>?_⟩;have kp1:Kp H H1:=Kp.exB Dy.ks.hkd rfl ex1;obtain⟨ss,hkl,hss⟩:=hk;have kl1:=kp1 _ _ hkl rfl;refine⟨_,rfl,kl,rfl,⟨_,ax.of kl1⟩,fun f hf=>?_⟩;refine bh (xs:=ss.map V.ref) (fun i vs H'=>∃(kv' cv':List (TK×V)),vs=((kind.take i).map fun sg=>cntM J0 J1 rooms ds d (behF rooms ds J5 sg)).map V.int/\H' f=some (.lst vs)/\Kp H1 H'/\cY H0 H' kd cd kv' cv' J0 J1 rooms ds (n+1+i * nB d)/\Gr kv1 kv')
  ⟨kv1,cv,rfl,aa,ab.kp (ab.new hf),(D1.up (ab.new hf)).more (by omega),.refl _⟩ (fun i vs H' _ ⟨_,_,_,h',kp',_⟩=>⟨h',ax.of (kp' _ _ kl1 rfl)⟩) ?_ ?_
 rotate_left
 ·rintro i vs H2 w hw hi ⟨kv2,cv2,rfl,f2,kp2,D2,gr2⟩;obtain⟨s,hs,rfl⟩:=bQ hw;obtain⟨sg,hsg,hat⟩:=Paired.getL hss hs;have il:i<kind.length:=(bP.1 hsg).1;have hsi:=hin sg (bJ hsg);have hat2:gj K H2 s (sg.map V.str):=gj.kt (kp1.trans kp2).kt hat;obtain⟨f',sd',kvs2,e',_,_,r2,st2⟩:=D2.ks.kok _ (eM (gr2 _ _ v1));injection e' with e1 e2;cases eS e1;cases e2;have gd:lW K H2 sd (.ref s) (aU kvs2 (eE sg)):=.inr ⟨_,eE sg,s,r2,rfl,vx hat2,eh _,rfl⟩;have mul:(i+1) * nB d=i * nB d+nB d:=im _ _;have mul5:(i+1) * nB d<=5 * nB d:=c8 _ (by omega);refine gN (lK ?_);refine⟨_,rfl,x,dx,fs,rfl,D2.ks.same _ _ g0,l4 "count_at" (by decide +kernel) (by decide +kernel) (by decide +kernel),_,rfl,sd,rfl,.inr ⟨_,r2⟩,_,rfl,_,gd,_,rfl,_,_,rfl,rfl,H0,x,sl,y,M,kd,cd,us,(aU kvs2 (eE sg)).getD .non,kv2,cv2,_,d,behF rooms ds J5 sg,J0,J1,rooms,ds,?_,hD,St,D2,?_,?_,sS hsub,jq (by omega) hz,by omega,fun kv3 cv3 H3 D3 kp3 gr3=>?_⟩
  ·show[V.ref x,_,V.int (((d+1:Nat):Int)-1)]=_;rw[show(((d+1:Nat):Int)-1)=(d:Nat) by omega]
  ·rcases st2.look hsi with⟨e1,e2⟩|⟨e1,u2,e2,e3⟩
   ·rw[e1,e2];exact .inl ⟨rfl,rfl⟩
   ·rw[e2];exact .inr ⟨u2,rfl,e3⟩
  ·rcases st2.look hsi with⟨e1,e2⟩|⟨e1,u2,e2,e3⟩
   ·rw[e2];exact fun z=>absurd rfl z
   ·exact fun _=>e1
  have f3:=kp3 _ _ f2 rfl;refine⟨f3,?_,ke hi ⟨kv3,cv3,?_,aa,?_,?_,gr2.trans gr3⟩⟩
  ·rw[ah,ah,az];exact am (by omega)
  ·rw[take_snoc hsg,aq,aq];rfl
  ·exact fun b o e no=>by rw[ai (ae e hf)];exact kp3 _ _ (kp2 _ _ e no) no
  ·exact(D3.more (m:=n+1+(i+1) * nB d) (by omega)).cell (D1.ks.same.free hf) f3
 ·rintro vs H2 ⟨kv2,cv2,rfl,f2,kp2,D2,gr2⟩;rw[ah,Paired.length hss,aT]at f2;rw[ah,Paired.length hss]at D2;have m5:kind.length * nB d<=5 * nB d:=c8 _ zk;refine⟨f,_,bB d,rfl,f2,fun z hz'=>?_,by have:=AW d d4;omega,by rw[ah];omega,k kv2 cv2 H2 (D2.more (by omega)) (kp1.trans kp2) (gr1.trans gr2)⟩;obtain⟨sg,_,rfl⟩:=aL.1 hz';exact om z1 z2 d _
theorem sy{kvs:List (TK×V)}{k:TK}{v:V}{p:TK×V}(h:p∈cH kvs k v):p∈kvs∨p=(k,v):=by
 unfold cH at h;split at h
 ·obtain⟨q,hq,rfl⟩:=aL.1 h;split
  ·next e=>exact .inr (by rw[e])
  ·exact .inl hq
 ·rcases bw.1 h with h|h
  ·exact .inl h
  ·exact .inr (eW.1 h)
theorem ph{H:Hp}{p u:Addr}{J5:Zb}{d:Nat}(hp:H p=some (.tup [.ref u,.int (d:Nat)]))(hu:H u=some (.tup (J5.map V.str))):cC H (oo J5 d) (.ref p):=by
 unfold oo cC;refine⟨p,_,rfl,hp,?_⟩;unfold TKAts;refine⟨_,_,rfl,SignAt.tk hu,?_⟩;unfold TKAts;refine⟨_,_,rfl,by unfold cC;rfl,by unfold TKAts;rfl⟩
section
variable{H0 H:Hp}{kd cd:Addr}{kv cv:List (TK×V)}{J0 J1 rooms J5:Zb}{ds:List ak}{n d:Nat}{w:V}
theorem cY.val(h:cY H0 H kd cd kv cv J0 J1 rooms ds n)(v:aU cv (oo J5 d)=some w):w=.int (cntM J0 J1 rooms ds d J5):=by
 obtain⟨f,e,q⟩:=h.cok _ (eM v);injection q with q1 q2;obtain⟨rfl,rfl⟩:=AV q1;exact q2
theorem cY.put(h:cY H0 H kd cd kv cv J0 J1 rooms ds n)(h0:H0 cd=none)(ne:kd≠cd):cY H0 (upd H cd (.dT (cH cv (oo J5 d) (.int (cntM J0 J1 rooms ds d J5))))) kd cd kv (cH cv (oo J5 d) (.int (cntM J0 J1 rooms ds d J5))) J0 J1 rooms ds (n+1):=by
 refine⟨⟨fun b o e=>by rw[ai (ae e h0)];exact h.ks.same _ _ e,by rw[ai ne];exact h.ks.hkd,fun p hp=>?_,Nat.le_succ_of_le h.ks.len⟩,h.ncd,aa,fun p hp=>?_,aD (dQ _ _ _) (vn h.clen)⟩
 ·obtain⟨g,d,kvs,e,n1,n2,r,st⟩:=h.ks.kok p hp;exact⟨g,d,kvs,e,n1,n2,gB (fun o q=>by rw[ai (fun z=>h.ncd (eE g) (by rw[<-z,<-e];exact hp))];exact q) r,st.kt (FH h.hcd)⟩
 ·rcases sy hp with hp|rfl
  ·exact h.cok p hp
  ·exact⟨_,_,rfl⟩
end
theorem CT{K:Za}{Cm Ck Cd:Addr}(c:DC K Cd){D:Nat}{spO:Sp}(d5:D<=4)(hO:∀m,D=m+1->spO=kI K Cm Ck Cd m){vs:List V}{H:Hp}{Q:VK}{E:XK}(h:gG Cm Ck Cd D vs H Q E):qb K Cd (je K Cm Ck Cd) spO (bd Q) (start qv vs) H:=by
 obtain⟨H0,x,sl,y,M,kd,cd,us,v,kv,cv,n,d,J5,J0,J1,rooms,ds,rfl,hD,St,Dy,hv,hne,hsub,hz,hn,k⟩:=h;obtain⟨dx,fs,g0,l1,l2,l3,l4⟩:=St.ob;have mo:=St.ks.mach.ok;have z1:=mo.asks4;have z2:=mo.says4;have one:cntM J0 J1 rooms ds d J5=1->Q (.int 1) H:=fun e=>by
  have:=k kv cv H (Dy.more (by omega)) (fun _ _ e _=>e) (.refl _);rw[e]at this;exact this
 refine⟨_,rfl,_,rfl,?_⟩;rcases hv with⟨rfl,rfl⟩|⟨u,rfl,hu⟩
 ·refine cj ?_;refine cj ?_;exact one (xW _ _ _ _ _)
 have hne:=hne (by intro z;cases z);refine bS ?_;refine⟨_,rfl,rfl,_,rfl,?_⟩
 match d,hD,hn,k,one with
 |0,_,_,_,one =>
  refine cj ?_;exact one (by unfold cntM;rfl)
 |d+1,hD,hn,k,one =>
 rw[zzr0 (by intro z;injection z with z;omega)];refine bS ?_;obtain⟨m,rfl⟩:∃m,D=m+1:=⟨D-1,by omega⟩;cases hO m rfl;have eq:cntM J0 J1 rooms ds (d+1) J5=1+((kindsF J0 J1 rooms ds J5).map fun k=>eO (k.map fun sg=>cntM J0 J1 rooms ds d (behF rooms ds J5 sg))).sum:=by
  conv=>lhs;unfold cntM
  rw[if_neg hne]
 have nb:nB (d+1)=7+25 * nB d:=rfl;have fin:∀{kv' cv':List (TK×V)}{H':Hp}{σ3:Option V},cY H0 H' kd cd kv' cv' J0 J1 rooms ds (n+nB (d+1))->Kp H H'->Gr kv kv'->aU cv' (oo J5 (d+1))=some (.int (cntM J0 J1 rooms ds (d+1) J5))->(a_ (fW K (eN K V0 "known_counts") (bo (aS V1 V2)))) (bd Q) [some (.ref x),some (.ref u),some (.int ((d+1:Nat))),σ3] H':=by
  intro kv' cv' H' σ3 D' kp' gr' v';refine⟨_,rfl,x,Cd,dx,fs,.ref cd,rfl,D'.ks.same _ _ g0,c.cls,c.a3,l3,_,rfl,_,rfl,(by show 2<=aj;decide),fun p hp=>?_⟩;have S:ab H' (upd H' p (.tup [.ref u,.int ((d+1:Nat))])):=ab.new hp;have tk:=ph (d:=d+1) (aa (H:=H') (a:=p)) (S _ _ (kp' _ _ hu rfl));refine⟨cd,_,rfl,.inr ⟨_,oo J5 (d+1),p,.inl (S _ _ D'.hcd),rfl,cC.isIn 8 (dA _ _) tk,dA _ _,v'.symm⟩,k kv' cv' _ (D'.up S) (kp'.trans (ab.kp S)) gr'⟩
 refine⟨_,rfl,_,rfl,(by show 2<=aj;decide),fun p hp=>?_⟩;have S:ab H (upd H p (.tup [.ref u,.int ((d+1:Nat))])):=ab.new hp;have tk:=ph (d:=d+1) (aa (H:=H) (a:=p)) (S _ _ hu);generalize upd H p (.tup [.ref u,.int ((d+1:Nat))])=H1 at S tk ⊢;have D1:=Dy.up S;refine⟨_,rfl,x,Cd,dx,fs,.ref cd,rfl,D1.ks.same _ _ g0,c.cls,c.a3,l3,cd,_,rfl,.inr ⟨_,oo J5 (d+1),p,.inl D1.hcd,rfl,cC.isIn 8 (dA _ _) tk,dA _ _,rfl⟩,_,rfl,?_⟩;cases hval:aU cv (oo J5 (d+1))with
 |some w =>
  refine bS ?_;exact fin (D1.more (by omega)) (ab.kp S) (.refl _) (by rw[hval,Dy.val hval])
 |none =>
  refine cj ?_;refine⟨_,rfl,x,dx,fs,rfl,D1.ks.same _ _ g0,l4 "kinds_at" (by decide +kernel) (by decide +kernel) (by decide +kernel),_,rfl,H0,x,sl,y,M,kd,cd,u,us,kv,cv,n,J5,J0,J1,rooms,ds,rfl,St,D1,S _ _ hu,hsub,hz,by omega,fun l ks kv1 H2 hl hK D2 kp2 gr2=>⟨l,rfl,⟨_,ax.of hl⟩,fun f hf=>?_⟩⟩;have u2:=kp2 _ _ (S _ _ hu) rfl;have kl:=lC (J1:=J1) (rooms:=rooms) (ds:=ds) (J5:=J5) z1;refine bh (xs:=ks.map V.ref) (fun i vs H'=>∃(kv' cv':List (TK×V)),vs=(((kindsF J0 J1 rooms ds J5).take i).map fun k=>eO (k.map fun sg=>cntM J0 J1 rooms ds d (behF rooms ds J5 sg))).map V.int/\H' f=some (.lst vs)/\Kp H2 H'/\cY H0 H' kd cd kv' cv' J0 J1 rooms ds (n+1+i * (1+5 * nB d))/\Gr kv1 kv')
   ⟨kv1,cv,rfl,aa,ab.kp (ab.new hf),(D2.up (ab.new hf)).more (by omega),.refl _⟩ (fun i vs H' _ ⟨_,_,_,h',kp',_⟩=>⟨h',ax.of (kp' _ _ hl rfl)⟩) ?_ ?_
  rotate_left
  ·rintro i vs H3 w hw hi ⟨kv3,cv3,rfl,f3,kp3,D3,gr3⟩;obtain⟨q,hq,rfl⟩:=bQ hw;obtain⟨kind,hkd,hat⟩:=Paired.getL hK hq;have il:i<(kindsF J0 J1 rooms ds J5).length:=(bP.1 hkd).1;obtain⟨e1,e2⟩:=lA (bJ hkd);have mul:(i+1) * (1+5 * nB d)=i * (1+5 * nB d)+(1+5 * nB d):=im _ _;have mul5:(i+1) * (1+5 * nB d)<=5 * (1+5 * nB d):=c8 _ (by omega);refine gN (lK ?_);refine⟨_,rfl,x,dx,fs,rfl,D3.ks.same _ _ g0,l4 "count_of" (by decide +kernel) (by decide +kernel) (by decide +kernel),_,rfl,_,rfl,_,rfl,H0,x,sl,y,M,kd,cd,u,q,us,kv3,cv3,_,d,kind,J5,J0,J1,rooms,ds,rfl,by omega,by omega,St,D3,kp3 _ _ u2 rfl,hsub,hz,hat.kp kp3,e2,by omega,by omega,fun kv4 cv4 H4 D4 kp4 gr4=>?_⟩;have f4:=kp4 _ _ f3 rfl;refine⟨f4,?_,ke hi ⟨kv4,cv4,?_,aa,?_,?_,gr3.trans gr4⟩⟩
   ·rw[ah,ah,az];exact am (by omega)
   ·rw[take_snoc hkd,aq,aq];rfl
   ·exact fun b o e no=>by rw[ai (ae e hf)];exact kp4 _ _ (kp3 _ _ e no) no
   ·exact(D4.more (m:=n+1+(i+1) * (1+5 * nB d)) (by omega)).cell (D2.ks.same.free hf) f4
  ·rintro vs H3 ⟨kv3,cv3,rfl,f3,kp3,D3,gr3⟩;rw[ah,Paired.length hK,aT]at f3;rw[ah,Paired.length hK]at D3;have m5:(kindsF J0 J1 rooms ds J5).length * (1+5 * nB d)<=5 * (1+5 * nB d):=c8 _ kl;have D3':cY H0 H3 kd cd kv3 cv3 J0 J1 rooms ds (n+6+25 * nB d):=D3.more (by omega);have kp13:Kp H H3:=(ab.kp S).trans (kp2.trans kp3);refine⟨_,rfl,f,_,rfl,ax.of f3,_,_,rfl,rfl,_,rfl,x,Cd,dx,fs,.ref cd,rfl,D3.ks.same _ _ g0,c.cls,c.a3,l3,_,rfl,_,rfl,(by show 2<=aj;decide),fun p2 hp2=>?_⟩;have S4:ab H3 (upd H3 p2 (.tup [.ref u,.int ((d+1:Nat))])):=ab.new hp2;have tk4:=ph (d:=d+1) (aa (H:=H3) (a:=p2)) (S4 _ _ (kp13 _ _ hu rfl));generalize upd H3 p2 (.tup [.ref u,.int ((d+1:Nat))])=H4 at S4 tk4 ⊢;have D4:=D3'.up S4;have cl:=D4.clen;refine⟨cd,_,rfl,.inr ⟨_,oo J5 (d+1),p2,D4.hcd,rfl,tk4,dA _ _,by rw[pL];omega,rfl⟩,?_⟩;dsimp only;rw[<-eq];have D5:=D4.put (J5:=J5) (d:=d+1) St.cdn St.ne;refine fin (D5.more (by omega)) ((kp13.trans (ab.kp S4)).trans (Kp.upd D4.hcd rfl)) (gr2.trans gr3) ?_;rw[fB,if_pos rfl]
def jI(H:Hp)(a:Addr):Hp:=fun b=>if b=a then none else H b
theorem ig(H:Hp)(a:Addr):jI H a a=none:=if_pos rfl
theorem fQ{H:Hp}{a b:Addr}(h:b≠a):jI H a b=H b:=if_neg h
theorem pe{H:Hp}{a:Addr}:ab (jI H a) H:=fun b o e=>by
 by_cases c:b=a
 ·rw[c,ig]at e;cases e
 ·rw[fQ c]at e;exact e
theorem AL{H0 H:Hp}{a:Addr}(S:ab H0 H)(h:H0 a=none):ab H0 (jI H a):=fun b o e=>by rw[fQ (ae e h)];exact S _ _ e
inductive lg(Cm Ck Cd:Addr)(vs:List V)(H:Hp)(Q:VK)(E:XK):Prop
 |mk (H0:Hp) (x dx M:Addr) (J0 J1 rooms:Zb) (ds:List ak):(vs=[.ref x,.ref M])->(H x=some (.ins Cd dx []))->(aW Cm H0 M J0 J1 rooms ds)->(H0 x=none)->(ab H0 H) ->
  (∀(Hs:Hp) (sl y kd cd:Addr) (us:Ze) (H':Hp),sZ Cm Ck Cd Hs x sl y M kd cd us J0 J1 rooms ds->cY Hs H' kd cd [] [] J0 J1 rooms ds 0->ab H0 Hs->Q .non H')->lg Cm Ck Cd vs H Q E
theorem Bv{K:Za}{Cm Ck Cd:Addr}(c:DC K Cd){vs:List V}{H:Hp}{Q:VK}{E:XK}(h:lg Cm Ck Cd vs H Q E):qd K Ck (jf Ck) Cm (lb Cm) (bd Q) (start qw vs) H:=by
 obtain⟨H0,x,dx,M,J0,J1,rooms,ds,rfl,hx,MA,hx0,S0,k⟩:=h;have up:∀{H1 H2:Hp}{o:HO},ab H0 H1->H2=upd H1 x o->ab H0 H2:=fun S e b o q=>by rw[e,ai (ae q hx0)];exact S _ _ q
 have z2:=MA.ok.says4;have M0:=MA.same S0;obtain⟨dm,fm,o1,o2,lv,lps,g1,a1,a2,_⟩:=rS M0;refine⟨_,rfl,M,dm,fm,rfl,g1,a2,M,J0,J1,rooms,ds,rfl,M0,fun w hw=>⟨w,rfl,⟨_,ax.of aa⟩,fun sl hsl=>?_⟩⟩;have Sw:ab H (upd H w (.lst (J1.map V.str))):=ab.new hw;refine jL (kd:="say") (ws:=J1) aa (by omega) hsl fun us H2 h2 hP2 S2=>?_;have Sa:=Sw.trans S2;refine⟨_,rfl,x,Cd,dx,[],rfl,Sa _ _ hx,c.cls,c.a1,(by decide),?_⟩;obtain⟨H3,e3,hx3,X3⟩:=kU "says_signs" (.ref sl) (Sa _ _ hx);rw[<-e3];have S3:=up (S0.trans Sa) e3;have len1:(cp ("says_signs":Str) (.ref sl) []).length<=1:=cI _ _ _;have nsl:sl≠x:=fun z=>by rw[z]at h2;rw[Sa _ _ hx]at h2;cases h2
 have sl3:=X3 _ _ h2 nsl;have kt3:iB H2 H3:=fun b xs e=>X3 _ _ e fun z=>by rw[z,Sa _ _ hx]at e;cases e
 have sg3:=jM.kt kt3 hP2;refine⟨_,rfl,fun y dy hy hdy ney=>?_⟩;have S4:ab H3 (upd (upd H3 dy (.own y)) y (.ins Ck dy [])):=fun b o e=>by rw[ai (ae e hy)];exact kp e hdy
 generalize hH4:upd (upd H3 dy (.own y)) y (.ins Ck dy [])=H4 at S4 ⊢;have y4:H4 y=some (.ins Ck dy []):=by rw[<-hH4];exact aa
 refine⟨y,dy,M,rfl,y4,fun kd fy H5 y5 m1 m2 m3 kd5 kdn ex5=>⟨rfl,?_⟩⟩;have n3:∀{b:Addr}{o:HO},H3 b=some o->H5 b=some o:=fun e=>ex5 _ _ (S4 _ _ e) (ae e hy);have hx5:=n3 hx3;refine⟨_,rfl,x,Cd,dx,_,rfl,hx5,c.cls,c.a2,by omega,?_⟩;obtain⟨H6,e6,hx6,X6⟩:=kU "known_steps" (.ref y) hx5;rw[<-e6];have S6:ab H0 H6:=up (fun b o e=>n3 (S3 _ _ e)) e6;have len2:=cI ("known_steps":Str) (.ref y) (cp ("says_signs":Str) (.ref sl) []);have nyx:y≠x:=(ae hx3 hy).symm;have nkx:kd≠x:=(ae (S4 _ _ hx3) kdn).symm;have y6:=X6 _ _ y5 nyx;have kd6:=X6 _ _ kd5 nkx;have sl6:=X6 _ _ (n3 sl3) nsl;have kt6:iB H3 H6:=fun b xs e=>X6 _ _ (n3 e) fun z=>by rw[z,hx3]at e;cases e
 have sg6:=jM.kt kt6 sg3;have kd0:H0 kd=none:=(S3.trans S4).free kdn;refine fun cd hcd=>⟨_,rfl,x,Cd,dx,_,rfl,kp hx6 hcd,c.cls,c.a3,by omega,?_⟩;obtain⟨H8,e8,hx8,X8⟩:=kU "known_counts" (.ref cd) (kp (x:=.dT []) hx6 hcd);rw[<-e8];have S8:ab H0 H8:=up (S6.trans (ab.new hcd)) e8;have ncx:cd≠x:=(ae hx6 hcd).symm;have cd8:=X8 _ _ aa ncx;have n8:∀{b:Addr}{o:HO},H6 b=some o->b≠x->H8 b=some o:=fun e n=>X8 _ _ (kp e hcd) n;have cd0:H0 cd=none:=S6.free hcd;have nkc:kd≠cd:=ae kd6 hcd;have kt8:iB H6 (jI (jI H8 kd) cd):=fun b xs e=>by
  rw[fQ (ae e hcd),fQ (fun z=>by rw[z,kd6]at e;cases e)];exact n8 e fun z=>by rw[z,hx6]at e;cases e
 have nd:∀{b:Addr}{o:HO},H8 b=some o->b≠kd->b≠cd->jI (jI H8 kd) cd b=some o:=fun e n1 n2=>by rw[fQ n2,fQ n1];exact e
 have ndk:∀{b:Addr}{o:HO},H6 b=some o->GQ o=true->b≠kd/\b≠cd:=fun e n=>⟨fun z=>(by rw[z,kd6]at e;cases e;cases n),ae e hcd⟩;have SH:ab H0 (jI (jI H8 kd) cd):=AL (AL S8 kd0) cd0;have SS:ab (jI (jI H8 kd) cd) H8:=pe.trans pe;refine k (jI (jI H8 kd) cd) sl y kd cd us H8 ⟨⟨MA.same SH,⟨dy,fy,?_,m1,m2,m3⟩,?_⟩,⟨dx,_,nd hx8 nkx.symm ncx.symm,?_,?_,?_,?_⟩,?_,jM.kt kt8 sg6,ig _ _,nkc⟩ ⟨⟨SS,n8 kd6 nkx,fun _ h=>(by cases h),aA _⟩,fun _ h=>(by cases h),cd8,fun _ h=>(by cases h),aA _⟩ SH
 ·obtain⟨q1,q2⟩:=ndk y6 rfl;exact nd (n8 y6 nyx) q1 q2
 ·rw[fQ nkc];exact ig _ _
 ·show eC _ _=_;repeat (rw[aO];first|rw[if_pos rfl] | rw[if_neg (by decide +kernel)])
 ·show eC _ _=_;repeat (rw[aO];first|rw[if_pos rfl] | rw[if_neg (by decide +kernel)])
 ·show eC _ _=_;repeat (rw[aO];first|rw[if_pos rfl] | rw[if_neg (by decide +kernel)])
 ·intro f q1 q2 q3;show eC _ _=_;rw[aO,if_neg q3,aO,if_neg q2,aO,if_neg q1];rfl
 ·obtain⟨q1,q2⟩:=ndk sl6 rfl;exact nd (n8 sl6 nsl) q1 q2
open Classical in
theorem xY{rooms:Zb}{ds:List ak}(h:rooms≠[]):closF rooms ds (rooms.take 1)≠[]:=by
 cases rooms with
 |nil=>exact absurd rfl h
 |cons r rs =>
  intro z;have:r∈closF (r::rs) ds ((r::rs).take 1):=fg.2 ⟨fx,zzr1 ⟨r,by simp,.inl rfl⟩⟩;rw[z]at this;cases this
theorem GR:∀d,d<=4->nB d<=200000:=by
 intro d hd
 match d,hd with
 |0,_=>decide
 |1,_=>decide
 |2,_=>decide
 |3,_=>decide
 |4,_=>decide
theorem xV{K:Za}{fi:List Nat}{σ:L2.St}{H:Hp}{a th l:Addr}{ws F:Zb}{Q:Hp->Prop}(e:cW 1 fi σ=[none,some (.ref th)])(ha:H a=some (.lst (ws.map V.str)))(hth:H th=some (.lst (F.map V.str)))(hz:ws.length<=1000)(hl:H l=none)
  (k:∀H',H' l=some (.lst ((ws.filter fun r=>decide (r∈F)).map V.str))->ab H H'->Q H') :
  dU 1 fi σ (Ee K a) U0 (aV (aJ (nS K false) V0 V1)) V0 H l Q:=by
 refine bh (xs:=ws.map V.str) (fun i vs H'=>vs=((ws.take i).filter fun r=>decide (r∈F)).map V.str/\ab H H'/\H' l=some (.lst vs)) ⟨rfl,ab.new hl,aa⟩ (fun i vs H' _ ⟨_,S,h'⟩=>⟨h',ax.of (S _ _ ha)⟩) ?_ ?_
 ·rintro vs H' ⟨rfl,S,f'⟩;rw[ah,aT]at f';exact k H' f' S
 ·rintro i vs H' x' hx' hi ⟨rfl,S,f'⟩;obtain⟨r,hr,rfl⟩:=bf hx';rw[e];refine gN ?_;refine⟨_,rfl,_,rfl,gR r,F.map gR,th,_,mf r,rfl,.inl (ax.of (S _ _ hth)),jK _,(by show 0<=8;decide),by rw[dR];decide,_,rfl,?_⟩;rw[if_neg gD,qJ];have hlen:(((ws.take i).filter fun r=>decide (r∈F)).map V.str).length<aj:=by
   rw[ah];refine am (aD (cB _ _) ?_);rw[az];omega
  refine hU (fun hq=>?_) (fun hq=>?_)
  ·refine⟨_,rfl,f',hlen,ke hi ⟨?_,?_,aa⟩⟩
   ·rw[bU hr,if_pos hq,aq];rfl
   ·intro b o q;rw[ai (ae q hl)];exact S _ _ q
  ·refine ke hi ⟨?_,S,f'⟩;rw[bU hr,if_neg hq,dD]
theorem EK{K:Za}{vs:List V}{H:Hp}{Q:VK}{E:XK}(h:rT K vs H Q E):tD K (c6 K) (bd Q) (start ud vs) H:=by
 obtain⟨t,ft,s,l1,l2,l3,l4,ts,J0,J1,rooms,J5,sg,ds,rfl,T,m,hft,hs,hz,k⟩:=h;have z3:=m.rooms26;have z4:=m.few;refine⟨_,rfl,t,_,rfl,bA.of T.t,rfl,_,_,rfl,_,_,rfl,_,_,rfl,_,_,rfl,rfl,?_⟩;refine⟨_,rfl,(by show 1<=aj;decide),fun hh hhh=>⟨lT sg,lT b9,bt (bA.same (ab.new hhh) hs),bt (bA.of aa),by rw[bW];decide,by rw[bW];decide,_,rfl,?_⟩⟩;rw[hW];have Sn:ab H (upd H hh (.tup [.str "hush"])):=ab.new hhh;generalize upd H hh (.tup [.str "hush"])=H1 at Sn ⊢;have T1:=T.same Sn;have ft1:=Sn _ _ hft;have hs1:=bA.same Sn hs;by_cases c:sg=b9
 ·rw[zzr1 c];refine cj ?_;refine⟨_,rfl,l4,rfl,⟨_,ax.of T1.a4⟩,fun f hf=>?_⟩;refine bh (xs:=ts.map V.ref) (fun i vs H'=>vs=(fO (ds.take i)).map V.str/\ab H1 H'/\H' f=some (.lst vs)) ⟨rfl,ab.new hf,aa⟩ (fun i vs H' _ ⟨_,S,h'⟩=>⟨h',ax.of (S _ _ T1.a4)⟩) ?_ ?_;rotate_left
  ·rintro i vs H' x' hx' hi ⟨rfl,S,f'⟩;obtain⟨t',ht',rfl⟩:=bQ hx';obtain⟨dr,hdr,hat⟩:=Paired.getL T1.ds ht';obtain⟨s',ht2,hs2⟩:=hat.kt (ab.kt S);obtain⟨s0,rest,hsg,ea⟩:=uv (m.good dr (bJ hdr));unfold SignAt at hs2;rw[hsg]at hs2;refine gN ?_;refine⟨_,rfl,t',_,1,_,rfl,rfl,bA.of ht2,rfl,s',_,0,.str s0,rfl,rfl,bA.of hs2,cy (j:=0) rfl,rfl,_,rfl,?_⟩;rw[ea];refine hU (fun hq=>?_) (fun hq=>?_)
   ·refine⟨_,rfl,t',_,0,_,rfl,rfl,bA.of ht2,rfl,f',?_,ke hi ⟨?_,?_,aa⟩⟩
    ·rw[ah];unfold fO;rw[ah];refine am (aD (cB _ _) ?_);rw[az];omega
    ·rw[uy hdr,if_pos hq,aq];rfl
    ·intro b o q;rw[ai (ae q hf)];exact S _ _ q
   ·refine ke hi ⟨?_,S,f'⟩;rw[uy hdr,if_neg hq,dD]
  rintro vs H2 ⟨rfl,S2,f2⟩;rw[ah,Paired.length T1.ds,aT]at f2;have ft2:=S2 _ _ ft1;refine⟨_,rfl,ft,rfl,⟨_,bA.of ft2⟩,fun g hg=>?_⟩;refine xU (xs:=J5.map V.str) (fun i vs H'=>vs=((J5.take i).filter fun r=>decide (r∉fO ds)).map V.str/\ab H2 H'/\H' g=some (.lst vs)) ⟨rfl,ab.new hg,aa⟩ (fun i vs H' _ ⟨_,S,h'⟩=>⟨h',bA.of (S _ _ ft2)⟩) ?_ ?_
  ·rintro vs H' ⟨rfl,S,f'⟩;rw[ah,aT]at f';refine⟨g,_,rfl,.inl ⟨ax.of f',fun t' ht'=>k t' _ ?_ (((Sn.trans S2).trans S).trans (ab.new ht'))⟩⟩;rw[aa];unfold behF;rw[if_pos c]
  ·rintro i vs H' x' hx' hi ⟨rfl,S,f'⟩;obtain⟨r,hr,rfl⟩:=bf hx';refine gN ?_;refine⟨_,rfl,_,rfl,gR r,(fO ds).map gR,f,_,mf r,rfl,.inl (ax.of (S _ _ f2)),jK _,(by show 0<=8;decide),by rw[dR];decide,_,rfl,?_⟩;rw[if_pos rfl,qJ];have ed:(!decide (r∈fO ds))=decide (r∉fO ds):=by simp
   rw[ed];have hlen:(((J5.take i).filter fun r=>decide (r∉fO ds)).map V.str).length<aj:=by
    rw[ah];refine am (aD (cB _ _) ?_);rw[az];omega
   refine hU (fun hq=>?_) (fun hq=>?_)
   ·refine⟨_,rfl,f',hlen,ke hi ⟨?_,?_,aa⟩⟩
    ·rw[bU hr,if_pos hq,aq];rfl
    ·intro b o q;rw[ai (ae q hg)];exact S _ _ q
   ·refine ke hi ⟨?_,S,f'⟩;rw[bU hr,if_neg hq,dD]
 ·rw[zzr0 c];refine bS ?_;refine⟨_,rfl,_,rfl,l4,rfl,⟨_,ax.of T1.a4⟩,fun f hf=>?_⟩;refine bh (xs:=ts.map V.ref) (fun i vs H'=>∃G:List Str,vs=G.map V.str/\ab H1 H'/\H' f=some (.lst vs)/\G.length<=i/\∀g,g∈G↔∃d∈ds.take i,d.a∈J5/\d.sg=sg/\d.b=g)
   ⟨[],rfl,ab.new hf,aa,aA _,fun g=>⟨fun h=>(by cases h),fun⟨_,h,_⟩=>by simp at h⟩⟩ (fun i vs H' _ ⟨_,_,S,h',_⟩=>⟨h',ax.of (S _ _ T1.a4)⟩) ?_ ?_
  rotate_left
  ·rintro i vs H' x' hx' hi ⟨G,rfl,S,f',hl,hG⟩;obtain⟨u,hu,rfl⟩:=bQ hx';obtain⟨dr,hdr,hatd⟩:=Paired.getL T1.ds hu;obtain⟨sb,ht2,hs2⟩:=hatd.kt (ab.kt S);have hi':i<ds.length:=(bP.mp hdr).1;have hstep:∀g,(∃d∈ds.take (i+1),d.a∈J5/\d.sg=sg/\d.b=g)↔((∃d∈ds.take i,d.a∈J5/\d.sg=sg/\d.b=g)∨(dr.a∈J5/\dr.sg=sg/\dr.b=g)):=by
    intro g;rw[take_snoc hdr];simp only[bw,eW,or_and_right,exists_or,exists_eq_left]
   have keep:¬(dr.a∈J5/\dr.sg=sg)->∃m',m'<(ts.map V.ref).length-i/\Wc (ts.map V.ref).length (fun i vs H'=>∃G:List Str,vs=G.map V.str/\ab H1 H'/\H' f=some (.lst vs)/\G.length<=i/\∀g,g∈G↔∃d∈ds.take i,d.a∈J5/\d.sg=sg/\d.b=g) (i+1) m' (G.map V.str) H':=by
    intro z;refine ke hi ⟨G,rfl,S,f',by omega,fun g=>?_⟩;rw[hstep,hG];exact⟨.inl,fun h=>h.elim id fun h=>absurd ⟨h.1,h.2.1⟩ z⟩
   refine gN ?_;refine⟨_,rfl,u,_,0,_,rfl,rfl,bA.of ht2,rfl,_,rfl,gR dr.a,J5.map gR,ft,_,mf _,rfl,.inr (bA.of (S _ _ ft1)),jK _,(by show 0<=8;decide),by rw[dR];decide,_,rfl,?_⟩;rw[if_neg gD,qJ];by_cases c1:dr.a∈J5;rotate_left
   ·rw[zzr0 c1];exact bS (bS (keep fun z=>c1 z.1))
   rw[zzr1 c1];refine cj ?_;refine⟨_,rfl,u,_,1,_,rfl,rfl,bA.of ht2,rfl,_,rfl,lT dr.sg,lT sg,bt (bA.of hs2),bt (bA.same S hs1),by rw[bW];decide,by rw[bW];decide,_,rfl,?_⟩;rw[hW];by_cases c2:dr.sg=sg;rotate_left
   ·rw[zzr0 c2];exact bS (keep fun z=>c2 z.2)
   rw[zzr1 c2];refine cj ?_;refine⟨_,rfl,u,_,2,_,rfl,rfl,bA.of ht2,rfl,f',by rw[ah];exact am (by omega),ke hi ⟨G++[dr.b],by rw[aq];rfl,?_,aa,by rw[aZ];show G.length+1<=i+1;omega,fun g=>?_⟩⟩
   ·intro b o q;rw[ai (ae q hf)];exact S _ _ q
   ·rw[hstep,<-hG,bw];simp only[eW];exact⟨fun h=>h.imp id fun h=>⟨c1,c2,h.symm⟩,fun h=>h.imp id fun h=>h.2.2.symm⟩
  rintro vs H2 ⟨G,rfl,S2,f2,hl,hG⟩;rw[ah,Paired.length T.ds]at hl;rw[ah,Paired.length T.ds,aT]at hG;have T2:=T1.same S2;refine⟨l4,f,ts,ds,G,rooms,rfl,T2.a4,T2.ds,f2,fun d hd=>(m.good d hd).b,by omega,by omega,fun th F H3 hth hF hFl fr S3=>?_⟩;have T3:=T2.same S3;refine⟨_,rfl,l3,rfl,⟨_,ax.of T3.a3⟩,fun g hg=>?_⟩;refine xV rfl T3.a3 hth (by omega) hg fun H4 h4 S4=>?_;refine⟨g,_,rfl,.inl ⟨ax.of h4,fun t' ht'=>k t' _ ?_ ((((Sn.trans S2).trans S3).trans S4).trans (ab.new ht'))⟩⟩;rw[aa,kZ hF];unfold behF;rw[if_neg c]
  suffices e0:closF rooms ds G=closF rooms ds (cV ds sg J5) by rw[e0]
  refine xX fun g=>?_;rw[hG,nX];constructor
  ·rintro⟨⟨a,sgd,b⟩,hd,h1,h2,h3⟩;simp only at h1 h2 h3;subst h2 h3;exact⟨a,h1,hd⟩
  ·rintro⟨r,hr,h⟩;exact⟨_,h,hr,rfl,rfl⟩
inductive nN(vs:List V)(H:Hp)(Q:VK)(E:XK):Prop
 |mk (t l1 l2 l3 l4:Addr) (ts:Ze) (J0 J1 rooms:Zb) (ds:List ak):(vs=[.ref t])->(fT H t l1 l2 l3 l4 ts J0 J1 rooms ds)->(aG J0 J1 rooms ds)->(∀(t':Addr) (H':Hp),H' t'=some (.tup ((closF rooms ds (rooms.take 1)).map V.str))->ab H H'->Q (.ref t') H')->nN vs H Q E
theorem CU{K:Za}{vs:List V}{H:Hp}{Q:VK}{E:XK}(h:nN vs H Q E):xa K (c6 K) (bd Q) (start yq vs) H:=by
 obtain⟨t,l1,l2,l3,l4,ts,J0,J1,rooms,ds,rfl,T,m,k⟩:=h;have z3:=m.rooms26;obtain⟨r0,rs,e⟩:∃r0 rs,rooms=r0::rs:=by
  cases e:rooms with
  |nil=>exact absurd e m.rooms0
  |cons a b=>exact⟨a,b,rfl⟩
 have at0:ye (rooms.map V.str) 0=some (.str r0):=by rw[e];exact cy (j:=0) rfl
 have e1:rooms.take 1=[r0]:=by rw[e];rfl
 refine⟨_,rfl,.inr (.inl ⟨t,_,3,_,rfl,rfl,bA.of T.t,rfl,_,rfl,.inr (.inl ⟨t,_,2,_,rfl,rfl,bA.of T.t,rfl,.inl ⟨l3,_,0,_,rfl,rfl,ax.of T.a3,at0,(by show 1<=aj;decide),fun l hl=>?_⟩⟩)⟩)⟩;have S1:ab H (upd H l (.lst [.str r0])):=ab.new hl;have h1:upd H l (.lst [.str r0]) l=some (.lst ([r0].map V.str)):=aa;generalize upd H l (.lst [.str r0])=H1 at S1 h1 ⊢;have T1:=T.same S1;refine⟨l4,l,ts,ds,[r0],rooms,rfl,T1.a4,T1.ds,h1,fun d hd=>(m.good d hd).b,by omega,by show 1<=1000;decide,fun th F H2 hth hF hFl fr S2=>?_⟩;have T2:=T1.same S2;refine⟨_,rfl,.inr (.inl ⟨t,_,2,_,rfl,rfl,bA.of T2.t,rfl,l3,rfl,⟨_,ax.of T2.a3⟩,fun g hg=>?_⟩)⟩;refine xV rfl T2.a3 hth (by omega) hg fun H4 h4 S4=>?_;refine⟨g,_,rfl,.inl ⟨ax.of h4,fun t' ht'=>k t' _ ?_ (((S1.trans S2).trans S4).trans (ab.new ht'))⟩⟩;rw[aa,kZ hF,e1]
def mD(K:Za)(C_KnownSteps:Addr)(sp_KnownSteps_init:Sp)(C_Made:Addr)(sp_Made_init:Sp):TS :=
 ar (ka K V0 (rF C_Made sp_Made_init [] E0 (ay V1)) "made")
 (ar (ka K V0 (rF C_KnownSteps sp_KnownSteps_init [] E0 (ay V2)) "own_steps")
 (ar (ka K V0 (iV) "known_harmless")
 (ka K V0 (iV) "known_firsts")))
def mZ:List Str:=["self","M","I"]
def oU(K:Za)(C_KnownSteps:Addr)(sp_KnownSteps_steps_from:Sp)(C_Made:Addr)(sp_Made_steps_from:Sp):TS :=
 ar (aM (bY C_Made "steps_from" sp_Made_steps_from [] E0 (eN K V0 "made") (ay V1)) U4)
 (ar (aM (bY C_KnownSteps "steps_from" sp_KnownSteps_steps_from [] E0 (eN K V0 "own_steps") (ay V2)) U5)
 (a_ (b_ 1 [4,5] (bq K V3) U0 (gV) (bo (aS (vU K V1 V0) (vU K V2 V0))))))
def pC:List Str:=["self","face","mine","signs","steps","own"]
def j_(K:Za)(C_Made:Addr)(sp_Made_kinds_at:Sp)(C_Blamers:Addr)(sp_Blamers_harmless_of:Sp)(sp_Made_count_at:Sp):TS :=
 ar (cz (tB (CB V2)) (a_ (bY C_Made "count_at" sp_Made_count_at [] E0 (eN K V0 "made") (aS V1 V3))) (bH))
 (ar (cz (tB (CB V1)) (a_ (tC (.int 0))) (bH))
 (ar (cz (aV (aJ v5 V3 (tC (.int 0)))) (a_ (tC (.int 1))) (bH))
 (ar (cz (tB (fD K (bo (bX V1 V2 V3)) (eN K V0 "known_harmless"))) (ar (aM (b_ 1 [1,2,3,0] (bq K (bY C_Made "kinds_at" sp_Made_kinds_at [] E0 (eN K V0 "made") (ay V1))) U0 (gV) (bY C_Blamers "harmless_of" sp_Blamers_harmless_of [] E0 V4 (ao V1 (bX V2 V3 V0)))) U4)
 (ir (eN K V0 "known_harmless") (bo (bX V1 V2 V3)) (aJ dq (tC (.int 1)) (fE (C0 K) (ay V4))))) (bH))
 (a_ (fW K (eN K V0 "known_harmless") (bo (bX V1 V2 V3)))))))
def ki:List Str:=["self","face","mine","d","counts"]
def j9(K:Za)(sp_product:Sp)(C_Blamers:Addr)(sp_Blamers_places:Sp)(sp_Blamers_harmless_at:Sp):TS :=
 a_ (aI sp_product (ao (b_ 2 [0,3] (bq K (bY C_Blamers "places" sp_Blamers_places [] E0 V0 (bX V1 V2 V4))) (lS K 2 (bI U0 (bI U1 (kS)))) (gV) (bY C_Blamers "harmless_at" sp_Blamers_harmless_at [] E0 V2 (bX V0 V1 (aJ uw V3 (tC (.int 1)))))) bm))
def kh:List Str:=["self","face","mine","d","signs"]
def oR(K:Za)(C_Made:Addr)(sp_Made_count_at:Sp)(C_Blamers:Addr)(sp_Blamers_harmless_at:Sp)(cL:Sp)(sp_Blamers_init:Sp)(dv:Sp)(sp_need_taker:Sp):TS :=
 ar (cr (aI sp_need_taker (aS V0 V2)))
 (ar (cr (aI dv (ay V1)))
 (ar (aM (rF C_Blamers sp_Blamers_init [] E0 (aS V0 V2)) U3)
 (ar (aM (aI cL (ay V0)) U4)
 (a_ (aJ uw (bY C_Made "count_at" sp_Made_count_at [] E0 (eN K V3 "made") (aS V4 V1)) (bY C_Blamers "harmless_at" sp_Blamers_harmless_at [] E0 V3 (bX V4 (aI cL (ay V2)) V1)))))))
def pq:List Str:=["M","d","I","blamers","face"]
def vF(K:Za)(sp_law_asked:Sp)(sp_law_times:Sp)(sp_law_part_signs:Sp)(sp_law_spared:Sp)(sp_law_after:Sp)(sp_law_behind:Sp)(sp_law_count:Sp):TS :=
 ar (cz (aV (aJ (o6 K) V3 (bo (bm)))) (a_ (aI sp_law_count (ao V0 (bX V2 V4 V5)))) (bH))
 (ar (cz (aV (aJ (o6 K) V4 (bo (bm)))) (a_ (tC (.int 0))) (bH))
 (ar (cz (aV (aJ v5 V5 (tC (.int 0)))) (a_ (tC (.int 1))) (bH))
 (ar (cz (tB (fD K (bo (bX V3 V4 V5)) V2)) (ar (aM (tC (.int 1)) U6)
 (ar (dZ (bq K (aJ kb (aI sp_law_asked (bX V0 V2 V4)) (cK (ay (tC .non))))) U7 (ar (aM (cK (bm)) U8)
 (ar (dZ (bq K (aI sp_law_part_signs (aS V0 V7))) U9 (ar (aM (aI sp_law_behind (bX V1 V3 V9)) G3)
 (cr (Bk K "list" hE V8 (ao (aI sp_law_spared (ao V0 (ao V1 (ao V2 (ao Ej (aS (aI sp_law_after (ao V0 (bX V2 V4 V9))) (aJ uw V5 (tC (.int 1))))))))) bm)))))
 (aM (aJ dq V6 (aI sp_law_times (ay V8))) U6))))
 (ir V2 (bo (bX V3 V4 V5)) V6))) (bH))
 (a_ (fW K V2 (bo (bX V3 V4 V5)))))))
def wJ:List Str:=["told","other","known","own","face","deep","many","ask","some","sign","one"]
def vG(K:Za)(sp_how_many_blame:Sp)(sp_law_spared:Sp)(sp_law_begin:Sp)(sp_law_count:Sp):TS :=
 ar (aM (aI sp_law_count (ao V0 (bX V5 (aI sp_law_begin (ay V0)) V4))) U6)
 (ar (aM (aJ uw V6 (aI sp_law_spared (ao V0 (ao V2 (ao V5 (bX (aI sp_law_begin (ay V2)) (aI sp_law_begin (ay V0)) V4)))))) U6)
 (ar (aM (aI sp_how_many_blame (bX V1 V4 V3)) U7)
 (a_ (xk (fE (GJ K) (aS V7 (tC (.ty "int")))) (xk (Fx (fE (GJ K) (aS V7 (tC (.ty "bool"))))) (aJ v5 V7 V6))))))
def wK:List Str:=["told","model","other","machine","deep","known","due","found"]
def Eu(K:Za)(sp_law_right:Sp)(sp_law_machine:Sp)(sp_law_near:Sp)(sp_law_model:Sp)(sp_law_take:Sp)(sp_law_open:Sp):TS :=
 ar (aM (aI sp_law_open (ay V0)) U1)
 (ar (aM (aI sp_law_model (ao V1 (ao (tC (.int 6)) (ay (aI sp_law_take (aS V1 (tC (.int 2)))))))) U2)
 (ar (aM (aI sp_law_machine (ay V2)) U3)
 (ar (aM (cK (aS (aI sp_law_near (bX V1 V2 (tC (.int 4)))) (aI sp_law_near (bX V1 V2 (tC (.int 2)))))) U4)
 (ar (aM (b_ 1 [] (bq K V4) U0 (gV) (aI sp_law_machine (ay V0))) U5)
 (ar (aM (cK (aS (iV) (iV))) U6)
 (ar (dZ (bq K (cK (ao (tC (.int 4)) (ao (tC (.int 2)) (bX (tC (.int 0)) (tC (.int 3)) (tC (.int 1))))))) U7 (dZ (bq K (cK (bX (tC (.int 0)) (tC (.int 1)) (tC (.int 0))))) U8 (cz (Ev (tB (aI sp_law_right (ao V2 (ao V3 (ao (aJ (dk K) V4 V8) (bX (aJ (dk K) V5 V8) V7 (aJ (dk K) V6 V8)))))))) (a_ (tC (.bl false))) (bH))))
 (a_ (tC (.bl true)))))))))
def A8:List Str:=["script","pen","told","model","others","machines","known","deep","k"]
def C9:List Str:=["script"]
def t6:Option Str->V
 |none=>.non
 |some a=>.str a
def iu(J1:Zb):Option Str->List Sg
 |none=>J1.map fH++[b9]
 |some a=>bE a::J1.map fH
inductive kG(vs:List V)(H:Hp)(Q:VK)(E:XK):Prop
 |mk (t l1 l2 l3 l4:Addr) (ts:Ze) (ask:Option Str) (J0 J1 rooms:Zb) (ds:List ak):(vs=[.ref t,t6 ask])->(fT H t l1 l2 l3 l4 ts J0 J1 rooms ds)->(J1.length<=4)->(∀(l:Addr) (us:Ze) (H':Hp),H' l=some (.lst (us.map V.ref))->jM H' us (iu J1 ask)->ab H H'->Q (.ref l) H')->kG vs H Q E
theorem CL{K:Za}{vs:List V}{H:Hp}{Q:VK}{E:XK}(h:kG vs H Q E):oP K (bd Q) (start pk vs) H:=by
 obtain⟨t,l1,l2,l3,l4,ts,ask,J0,J1,rooms,ds,rfl,T,z2,k⟩:=h;refine⟨_,rfl,.inr (.inl ⟨t,_,1,_,rfl,rfl,bA.of T.t,rfl,l2,rfl,⟨_,ax.of T.a2⟩,fun ls hls=>?_⟩)⟩;refine jL (kd:="say") (ws:=J1) T.a2 (by omega) hls fun us H1 h1 hP S1=>?_;have zu:us.length<=4:=by rw[Paired.length hP,ah];exact z2
 refine⟨_,rfl,_,rfl,?_⟩;cases ask with
 |none =>
  refine cj ⟨_,rfl,(by show 1<=aj;decide),fun ht hht=>⟨(by show 1<=aj;decide),fun hl hhl=>?_⟩⟩;have S2:ab H1 (upd (upd H1 ht (.tup [.str "hush"])) hl (.lst [.ref ht])):=(ab.new hht).trans (ab.new hhl);have ht2:upd (upd H1 ht (.tup [.str "hush"])) hl (.lst [.ref ht]) ht=some (.tup (b9.map V.str)):=kp aa hhl;have hl2:upd (upd H1 ht (.tup [.str "hush"])) hl (.lst [.ref ht]) hl=some (.lst [.ref ht]):=aa;generalize upd (upd H1 ht (.tup [.str "hush"])) hl (.lst [.ref ht])=H2 at S2 ht2 hl2 ⊢;refine⟨ls,hl,_,_,rfl,rfl,S2 _ _ h1,hl2,by rw[ah];exact cZ (am (by show _+1<=1000;omega)),fun r hr=>?_⟩;have S3:ab H2 (upd H2 r (.lst (us.map V.ref++[.ref ht]))):=ab.new hr;exact k r (us++[ht]) _ (by rw[aa,aq];rfl) (Paired.app (jM.kt (ab.kt (S2.trans S3)) hP) (.cons (S3 _ _ ht2) .nil)) ((S1.trans S2).trans S3)
 |some a =>
  refine bS ⟨_,rfl,(by show 2<=aj;decide),fun ht hht=>⟨(by show 1<=aj;decide),fun hl hhl=>?_⟩⟩;have S2:ab H1 (upd (upd H1 ht (.tup [.str "ask",.str a])) hl (.lst [.ref ht])):=(ab.new hht).trans (ab.new hhl);have ht2:upd (upd H1 ht (.tup [.str "ask",.str a])) hl (.lst [.ref ht]) ht=some (.tup ((bE a).map V.str)):=kp aa hhl;have hl2:upd (upd H1 ht (.tup [.str "ask",.str a])) hl (.lst [.ref ht]) hl=some (.lst [.ref ht]):=aa;generalize hH2:upd (upd H1 ht (.tup [.str "ask",.str a])) hl (.lst [.ref ht])=H2 at S2 ht2 hl2;have S2':=S2;refine⟨_,rfl,hl,ls,_,_,rfl,rfl,(by show upd (upd H1 ht (.tup [.str "ask",.str a])) hl (.lst [.ref ht]) hl=_;exact aa),(by show upd (upd H1 ht (.tup [.str "ask",.str a])) hl (.lst [.ref ht]) ls=_;rw[hH2];exact S2 _ _ h1),by rw[ah];exact cZ (am (by show 1+_<=1000;omega)),fun r hr=>?_⟩
  change upd (upd H1 ht (.tup [.str "ask",.str a])) hl (.lst [.ref ht]) r=none at hr
  show Q (.ref r) (upd (upd (upd H1 ht (.tup [.str "ask",.str a])) hl (.lst [.ref ht])) r (.lst ([.ref ht]++us.map V.ref)));rw[hH2]at hr ⊢;have S3:ab H2 (upd H2 r (.lst ([.ref ht]++us.map V.ref))):=ab.new hr;exact k r (ht::us) _ aa (.cons (S3 _ _ ht2) (jM.kt (ab.kt (S2.trans S3)) hP)) ((S1.trans S2).trans S3)
def uR(J5:Zb)(sg:Sg):TK:=.t [eE J5,eE sg]
theorem Fo{f g:Zb}{a b:Sg}(h:uR f a=uR g b):f=g/\a=b:=by
 unfold uR at h;injection h with h;injection h with h1 h2;injection h2 with h2 _;exact⟨eS h1,eS h2⟩
theorem A5{f g:Zb}{a:Sg}{d:Nat}(h:uR f a=oo g d):False:=by
 unfold uR oo eE at h;injection h with h;injection h with h1 h2;injection h2 with h2 _;cases h2
theorem jp(f:Zb)(a:Sg):(uR f a).depth<=8:=by
 show max (eE f).depth (max (eE a).depth 0)+1<=8;rw[f_,f_];decide
theorem zQ{H:Hp}{p u s:Addr}{J5:Zb}{sg:Sg}(hp:H p=some (.tup [.ref u,.ref s]))(hu:H u=some (.tup (J5.map V.str)))(hs:H s=some (.tup (sg.map V.str))):cC H (uR J5 sg) (.ref p):=by
 unfold uR cC;refine⟨p,_,rfl,hp,?_⟩;unfold TKAts;refine⟨_,_,rfl,SignAt.tk hu,?_⟩;unfold TKAts;exact⟨_,_,rfl,SignAt.tk hs,by unfold TKAts;rfl⟩
def Go(X:TK×V->Prop):Prop:=∀p,X p->(∀f s,p.1≠uR f s)/\∀f d,p.1≠oo f d
structure cO(X:TK×V->Prop)(H:Hp)(kd:Addr)(kv:List (TK×V))(J0 J1 rooms:Zb)(ds:List ak)(n:Nat):Prop where
 hkd:H kd=some (.dT kv)
 kok:∀p∈kv,(∃(J5:Zb) (sg:Sg) (u:Addr),p=(uR J5 sg,.ref u)/\H u=some (.tup ((behF rooms ds J5 sg).map V.str)))∨(∃(J5:Zb) (d:Nat),p=(oo J5 d,.int (cntM J0 J1 rooms ds d J5)))∨X p
 len:kv.length<=n
section
variable{X:TK×V->Prop}{H H':Hp}{kd f:Addr}{kv:List (TK×V)}{J0 J1 rooms J5:Zb}{ds:List ak}{n m:Nat}
theorem cO.kt(h:cO X H kd kv J0 J1 rooms ds n)(e:H' kd=some (.dT kv))(k:iB H H'):cO X H' kd kv J0 J1 rooms ds n:=⟨e,fun p hp=>(h.kok p hp).imp (fun⟨f,s,u,e,q⟩=>⟨f,s,u,e,k _ _ q⟩) id,h.len⟩
theorem cO.up(h:cO X H kd kv J0 J1 rooms ds n)(S:ab H H'):cO X H' kd kv J0 J1 rooms ds n:=h.kt (S _ _ h.hkd) (ab.kt S)
theorem cO.more(h:cO X H kd kv J0 J1 rooms ds n)(l:n<=m):cO X H kd kv J0 J1 rooms ds m:=⟨h.hkd,h.kok,aD h.len l⟩
theorem cO.cell{xs ys:List V}(h:cO X H kd kv J0 J1 rooms ds n)(hf:H f=some (.lst xs)):cO X (upd H f (.lst ys)) kd kv J0 J1 rooms ds n:=h.kt (by rw[ai (fun z=>by have:=h.hkd;rw[z,hf]at this;cases this)];exact h.hkd) (fP hf)
theorem cO.put{k:TK}{v:V}(h:cO X H kd kv J0 J1 rooms ds n)(q:(∃(J5:Zb) (sg:Sg) (u:Addr),(k,v)=(uR J5 sg,.ref u)/\H u=some (.tup ((behF rooms ds J5 sg).map V.str)))∨(∃(J5:Zb) (d:Nat),(k,v)=(oo J5 d,.int (cntM J0 J1 rooms ds d J5)))∨X (k,v)):
  cO X (upd H kd (.dT (cH kv k v))) kd (cH kv k v) J0 J1 rooms ds (n+1):=by
 have kt:iB H (upd H kd (.dT (cH kv k v))):=FH h.hkd;refine⟨aa,fun p hp=>?_,aD (dQ _ _ _) (vn h.len)⟩;rcases sy hp with hp|rfl
 ·exact(h.kok p hp).imp (fun⟨f,s,u,e,q⟩=>⟨f,s,u,e,kt _ _ q⟩) id
 ·exact q.imp (fun⟨f,s,u,e,q⟩=>⟨f,s,u,e,kt _ _ q⟩) id
theorem cO.val(hX:Go X){sg:Sg}{w:V}(h:cO X H kd kv J0 J1 rooms ds n)(v:aU kv (uR J5 sg)=some w):∃u,w=.ref u/\H u=some (.tup ((behF rooms ds J5 sg).map V.str)):=by
 rcases h.kok _ (eM v)with⟨f,s,u,e,q⟩|⟨f,d,e⟩|hx
 ·injection e with e1 e2;obtain⟨rfl,rfl⟩:=Fo e1;exact⟨u,e2,q⟩
 ·injection e with e1 _;exact(A5 e1).elim
 ·exact absurd rfl ((hX _ hx).1 J5 sg)
theorem cO.cnt(hX:Go X){d:Nat}{w:V}(h:cO X H kd kv J0 J1 rooms ds n)(v:aU kv (oo J5 d)=some w):w=.int (cntM J0 J1 rooms ds d J5):=by
 rcases h.kok _ (eM v)with⟨f,s,u,e,q⟩|⟨f,d',e⟩|hx
 ·injection e with e1 _;exact(A5 e1.symm).elim
 ·injection e with e1 e2;obtain⟨rfl,rfl⟩:=AV e1;exact e2
 ·exact absurd rfl ((hX _ hx).2 J5 d)
end
theorem bu.sameH{p:Addr}{H0 H H':Hp}(S:ab H0 H)(h:H0 p=none)(e:bu p H H'):ab H0 H':=fun b o q=>e b o (S b o q) (ae q h)
theorem ab.exBs{p:Addr}{H H':Hp}(S:ab H H'):bu p H H':=fun b o e _=>S b o e
theorem bu.trs{p:Addr}{H H1 H2:Hp}(a:bu p H H1)(b:bu p H1 H2):bu p H H2:=fun c o e n=>b c o (a c o e n) n
theorem bu.ktd{p:Addr}{H H':Hp}{kv:List (TK×V)}(h:H p=some (.dT kv))(e:bu p H H'):iB H H':=fun b xs q=>e b _ q fun z=>by rw[z,h]at q;cases q
inductive jh(K:Za)(vs:List V)(H:Hp)(Q:VK)(E:XK):Prop
 |mk (X:TK×V->Prop) (hX:Go X) (H0:Hp) (t l1 l2 l3 l4 kd fu su:Addr) (ts:Ze) (kv:List (TK×V)) (n:Nat) (sg:Sg) (J5 J0 J1 rooms:Zb) (ds:List ak):(vs=[.ref t,.ref kd,.ref fu,.ref su])->(fT H0 t l1 l2 l3 l4 ts J0 J1 rooms ds)->(aG J0 J1 rooms ds)->(H0 kd=none)->(ab H0 H)->(cO X H kd kv J0 J1 rooms ds n)->(H fu=some (.tup (J5.map V.str)))->(H su=some (.tup (sg.map V.str)))->(J5.length<=1000)->(n<=8000000) ->
  (∀(u:Addr) (kv':List (TK×V)) (H':Hp),H' u=some (.tup ((behF rooms ds J5 sg).map V.str))->cO X H' kd kv' J0 J1 rooms ds (n+1)->bu kd H H'->Q (.ref u) H')->jh K vs H Q E
theorem CW{K:Za}{vs:List V}{H:Hp}{Q:VK}{E:XK}(h:jh K vs H Q E):xc K (rT K) (bd Q) (start yt vs) H:=by
 obtain⟨X,hX,H0,t,l1,l2,l3,l4,kd,fu,su,ts,kv,n,sg,J5,J0,J1,rooms,ds,rfl,T,m,h0,S0,D,hf,hs,hz,hn,k⟩:=h;have fin:∀{kv':List (TK×V)}{H':Hp}{u:Addr},cO X H' kd kv' J0 J1 rooms ds (n+1)->bu kd H H'->aU kv' (uR J5 sg)=some (.ref u)->H' u=some (.tup ((behF rooms ds J5 sg).map V.str))->(a_ (fW K V1 (bo (aS V2 V3)))) (bd Q) [some (.ref t),some (.ref kd),some (.ref fu),some (.ref su)] H':=by
  intro kv' H' u D' ex v' hu;refine⟨_,rfl,_,rfl,_,rfl,(by show 2<=aj;decide),fun p hp=>?_⟩;have S:ab H' (upd H' p (.tup [.ref fu,.ref su])):=ab.new hp;have kt:=bu.ktd D.hkd ex;have tk:=zQ (aa (H:=H') (a:=p)) (S _ _ (kt _ _ hf)) (S _ _ (kt _ _ hs));exact⟨kd,_,rfl,.inr ⟨_,uR J5 sg,p,.inl (S _ _ D'.hkd),rfl,cC.isIn 8 (jp _ _) tk,jp _ _,v'.symm⟩,k u kv' _ (S _ _ hu) (D'.up S) (ex.trs (ab.exBs S))⟩
 refine⟨_,rfl,_,rfl,(by show 2<=aj;decide),fun p hp=>?_⟩;have S:ab H (upd H p (.tup [.ref fu,.ref su])):=ab.new hp;have tk:=zQ (aa (H:=H) (a:=p)) (S _ _ hf) (S _ _ hs);generalize upd H p (.tup [.ref fu,.ref su])=H1 at S tk ⊢;have D1:=D.up S;refine⟨_,rfl,kd,_,rfl,.inr ⟨_,uR J5 sg,p,.inl D1.hkd,rfl,cC.isIn 8 (jp _ _) tk,jp _ _,rfl⟩,_,rfl,?_⟩;cases hval:aU kv (uR J5 sg)with
 |some w =>
  obtain⟨u,rfl,hu⟩:=D1.val hX hval;exact bS (fin (D1.more (by omega)) (ab.exBs S) hval hu)
 |none =>
  refine cj ?_;refine⟨_,rfl,_,rfl,_,rfl,t,fu,su,l1,l2,l3,l4,ts,J0,J1,rooms,J5,sg,ds,rfl,T.same (S0.trans S),m,S _ _ hf,bA.of (S _ _ hs),hz,fun u H2 hu S2=>?_⟩;refine⟨_,rfl,_,rfl,_,rfl,(by show 2<=aj;decide),fun p2 hp2=>?_⟩;have S3:ab H2 (upd H2 p2 (.tup [.ref fu,.ref su])):=ab.new hp2;have S12:=S.trans S2;have tk3:=zQ (aa (H:=H2) (a:=p2)) (S3 _ _ (S12 _ _ hf)) (S3 _ _ (S12 _ _ hs));generalize upd H2 p2 (.tup [.ref fu,.ref su])=H3 at S3 tk3 ⊢;have D3:=(D1.up S2).up S3;have cl:=D3.len;refine⟨kd,_,rfl,.inr ⟨_,uR J5 sg,p2,D3.hkd,rfl,tk3,jp _ _,by rw[pL];omega,rfl⟩,?_⟩;have D4:=D3.put (k:=uR J5 sg) (v:=.ref u) (.inl ⟨J5,sg,u,rfl,S3 _ _ hu⟩);exact fin D4 ((ab.exBs (S12.trans S3)).trs fun b o e nb=>by rw[ai nb];exact e) (by rw[fB,if_pos rfl]) (FH D3.hkd _ _ (S3 _ _ hu))
def askedF(J0 rooms:Zb)(ds:List ak)(J5:Zb):List Str:=J0.filter fun a=>decide (behF rooms ds J5 (bE a)≠[])
inductive kJ(K:Za)(vs:List V)(H:Hp)(Q:VK)(E:XK):Prop
 |mk (X:TK×V->Prop) (hX:Go X) (H0:Hp) (t l1 l2 l3 l4 kd fu:Addr) (ts:Ze) (kv:List (TK×V)) (n:Nat) (J5 J0 J1 rooms:Zb) (ds:List ak):(vs=[.ref t,.ref kd,.ref fu])->(fT H0 t l1 l2 l3 l4 ts J0 J1 rooms ds)->(aG J0 J1 rooms ds)->(H0 kd=none)->(ab H0 H)->(cO X H kd kv J0 J1 rooms ds n)->(H fu=some (.tup (J5.map V.str)))->(J5.length<=1000)->(n+4<=8000000) ->
  (∀(l:Addr) (kv':List (TK×V)) (H':Hp),H' l=some (.lst ((askedF J0 rooms ds J5).map V.str))->cO X H' kd kv' J0 J1 rooms ds (n+4)->bu kd H H'->Q (.ref l) H')->kJ K vs H Q E
theorem CV{K:Za}{vs:List V}{H:Hp}{Q:VK}{E:XK}(h:kJ K vs H Q E):xb K (jh K) (bd Q) (start yr vs) H:=by
 obtain⟨X,hX,H0,t,l1,l2,l3,l4,kd,fu,ts,kv,n,J5,J0,J1,rooms,ds,rfl,T,m,h0,S0,D,hf,hz,hn,k⟩:=h;have z1:=m.asks4;have T':=T.same S0;have a1:=T'.a1;have n1:l1≠kd:=fun z=>by have:=D.hkd;rw[<-z,a1]at this;cases this
 refine⟨_,rfl,.inr (.inl ⟨t,_,0,_,rfl,rfl,bA.of T'.t,rfl,l1,rfl,⟨_,ax.of a1⟩,fun l hl=>?_⟩)⟩;have nl:l≠kd:=(ae D.hkd hl).symm;refine bh (xs:=J0.map V.str) (fun i vs H'=>∃kv':List (TK×V),vs=((J0.take i).filter fun a=>decide (behF rooms ds J5 (bE a)≠[])).map V.str/\H' l=some (.lst vs)/\cO X H' kd kv' J0 J1 rooms ds (n+i)/\bu kd H H')
  ⟨kv,rfl,aa,D.up (ab.new hl),ab.exBs (ab.new hl)⟩ (fun i vs H' _ ⟨_,_,h',_,ex⟩=>⟨h',ax.of (ex _ _ a1 n1)⟩) ?_ ?_
 ·rintro vs H' ⟨kv',rfl,h',D',ex⟩;rw[ah,aT]at h';rw[ah]at D';exact k l kv' H' h' (D'.more (by omega)) ex
 ·rintro i vs H1 v hv hi ⟨kv1,rfl,h1,D1,ex1⟩;obtain⟨a,ha,rfl⟩:=bf hv;have il:i<J0.length:=(bP.1 ha).1;refine gN ?_;refine⟨_,rfl,_,rfl,_,rfl,_,rfl,(by show 2<=aj;decide),fun s hs=>?_⟩;have S2:ab H1 (upd H1 s (.tup [.str "ask",.str a])):=ab.new hs;have s2:upd H1 s (.tup [.str "ask",.str a]) s=some (.tup ((bE a).map V.str)):=aa;generalize upd H1 s (.tup [.str "ask",.str a])=H2 at S2 s2 ⊢;have ktf:=bu.ktd D.hkd ex1;refine⟨X,hX,H0,t,l1,l2,l3,l4,kd,fu,s,ts,kv1,n+i,bE a,J5,J0,J1,rooms,ds,rfl,T,m,h0,(bu.sameH S0 h0 ex1).trans S2,D1.up S2,S2 _ _ (ktf _ _ hf),s2,hz,by omega,fun u kv3 H3 hu D3 ex3=>?_⟩;refine⟨(by show 0<=aj;decide),fun e he=>⟨lT (behF rooms ds J5 (bE a)),lT [],bt (bA.of (kp hu he)),bt (bA.of aa),by rw[bW];decide,by rw[bW];decide,_,rfl,?_⟩⟩;rw[hW];have S4:ab H3 (upd H3 e (.tup [])):=ab.new he;generalize upd H3 e (.tup [])=H4 at S4 ⊢;have l4':=S4 _ _ (ex3 _ _ (S2 _ _ h1) nl);have D4:=D3.up S4;have ex4:bu kd H H4:=(ex1.trs (ab.exBs S2)).trs (ex3.trs (ab.exBs S4));have ed:(!decide (behF rooms ds J5 (bE a)=[]))=decide (behF rooms ds J5 (bE a)≠[]):=by simp
  rw[ed];refine hU (fun hq=>?_) (fun hq=>?_)
  ·refine⟨_,rfl,l4',?_,ke hi ⟨kv3,?_,aa,D4.cell l4',fun b o q nb=>?_⟩⟩
   ·rw[ah];refine am (aD (cB _ _) ?_);rw[az];omega
   ·rw[bU ha,if_pos hq,aq];rfl
   ·rw[ai (ae q hl)];exact ex4 _ _ q nb
  ·refine ke hi ⟨kv3,?_,l4',D4,ex4⟩;rw[bU ha,if_neg hq,dD]
def lB:Nat->Nat
 |0=>0
 |d+1=>30+25 * lB d
theorem pY(J0 J1 rooms:Zb)(ds:List ak)(J5:Zb):kindsF J0 J1 rooms ds J5=((askedF J0 rooms ds J5).map some++[none]).map (iu J1):=by
 unfold kindsF askedF;rw[aq,iR];rfl
inductive iH(K:Za)(D:Nat)(vs:List V)(H:Hp)(Q:VK)(E:XK):Prop
 |mk (X:TK×V->Prop) (hX:Go X) (H0:Hp) (t l1 l2 l3 l4 kd fu:Addr) (ts:Ze) (kv:List (TK×V)) (n d:Nat) (J5 J0 J1 rooms:Zb) (ds:List ak):(vs=[.ref t,.ref kd,.ref fu,.int (d:Nat)])->(d<=D)->(fT H0 t l1 l2 l3 l4 ts J0 J1 rooms ds)->(aG J0 J1 rooms ds)->(H0 kd=none)->(ab H0 H)->(cO X H kd kv J0 J1 rooms ds n)->(H fu=some (.tup (J5.map V.str)))->(J5.length<=1000)->(n+lB d<=8000000) ->
  (∀(kv':List (TK×V)) (H':Hp),cO X H' kd kv' J0 J1 rooms ds (n+lB d)->bu kd H H'->Q (.int (cntM J0 J1 rooms ds d J5)) H')->iH K D vs H Q E
inductive kF(K:Za)(D:Nat)(vs:List V)(H:Hp)(Q:VK)(E:XK):Prop
 |mk (X:TK×V->Prop) (hX:Go X) (H0:Hp) (t l1 l2 l3 l4 kd fu:Addr) (ts:Ze) (ask:Option Str) (kv:List (TK×V)) (n d:Nat) (J5 J0 J1 rooms:Zb) (ds:List ak):(vs=[.ref t,.ref kd,.ref fu,t6 ask,.int ((d+1:Nat))])->(d<=D)->(fT H0 t l1 l2 l3 l4 ts J0 J1 rooms ds)->(aG J0 J1 rooms ds)->(H0 kd=none)->(ab H0 H)->(cO X H kd kv J0 J1 rooms ds n)->(H fu=some (.tup (J5.map V.str)))->(J5.length<=1000)->(n+5 * (1+lB d)<=8000000) ->
  (∀(l:Addr) (kv':List (TK×V)) (H':Hp),H' l=some (.lst (((iu J1 ask).map fun sg=>cntM J0 J1 rooms ds d (behF rooms ds J5 sg)).map V.int))->cO X H' kd kv' J0 J1 rooms ds (n+5 * (1+lB d))->bu kd H H'->Q (.ref l) H')->kF K D vs H Q E
theorem ic(J1:Zb)(ask:Option Str):(iu J1 ask).length=J1.length+1:=by
 cases ask with
 |none=>unfold iu;rw[aZ,ah];rfl
 |some a=>unfold iu;rw[fb,ah]
theorem CJ{K:Za}{D:Nat}{vs:List V}{H:Hp}{Q:VK}{E:XK}(h:kF K D vs H Q E):w6 K kG (iH K D) (jh K) (bd Q) (start ym vs) H:=by
 obtain⟨X,hX,H0,t,l1,l2,l3,l4,kd,fu,ts,ask,kv,n,d,J5,J0,J1,rooms,ds,rfl,hD,T,m,h0,S0,Dy,hf,hz,hn,k⟩:=h;have z2:=m.says4;have z3:=m.rooms26;refine⟨(by show 0<=aj;decide),fun l hl=>?_⟩;have S1:ab H (upd H l (.lst [])):=ab.new hl;have nl:l≠kd:=(ae Dy.hkd hl).symm;have l1':upd H l (.lst []) l=some (.lst []):=aa;generalize upd H l (.lst [])=H1 at S1 l1' ⊢;refine⟨_,rfl,_,rfl,t,l1,l2,l3,l4,ts,ask,J0,J1,rooms,ds,rfl,(T.same S0).same S1,z2,fun pl us H2 hpl hP S2=>⟨pl,rfl,⟨_,ax.of hpl⟩,?_⟩⟩;have S12:=S1.trans S2;have D2:=Dy.up S12;have npl:pl≠kd:=fun z=>by have:=D2.hkd;rw[<-z,hpl]at this;cases this
 have zu:us.length=J1.length+1:=by rw[Paired.length hP,ic]
 have npl2:pl≠l:=fun z=>by
  rw[z,S2 _ _ l1']at hpl;injection hpl with hpl;injection hpl with hpl;rw[List.map_eq_nil_iff.1 hpl.symm]at zu;cases zu
 have l0:H0 l=none:=S0.free hl;have l2':=S2 _ _ l1';have S02:=S0.trans S12;have f2:=S12 _ _ hf;refine bD (xs:=us.map V.ref) (fun i σ H'=>∃(kv':List (TK×V)) (x6:Option V),σ=[some (.ref t),some (.ref kd),some (.ref fu),some (t6 ask),some (.int ((d+1:Nat))),some (.ref l),x6]/\H' l=some (.lst ((((iu J1 ask).take i).map fun sg=>cntM J0 J1 rooms ds d (behF rooms ds J5 sg)).map V.int))/\cO X H' kd kv' J0 J1 rooms ds (n+i * (1+lB d))/\∀b o,H2 b=some o->b≠kd->b≠l->H' b=some o)
  ⟨kv,_,rfl,l2',D2.more (by omega),fun _ _ e _ _=>e⟩ (fun i σ H' _ ⟨_,_,_,_,_,ex⟩=>ax.of (ex _ _ hpl npl npl2)) ?_ ?_
 ·rintro i v σ H3 hi ⟨kv3,x6,rfl,l3',D3,ex3⟩;obtain⟨s,hs,rfl⟩:=bQ hi;obtain⟨sg,hsg,hat⟩:=Paired.getL hP hs;have il:i<(iu J1 ask).length:=(bP.1 hsg).1;rw[ic]at il;have kt3:iB H2 H3:=fun b xs e=>ex3 _ _ e (fun z=>by rw[z,D2.hkd]at e;cases e) (fun z=>by rw[z,l2']at e;cases e);have S03:ab H0 H3:=fun b o e=>ex3 _ _ (S02 _ _ e) (ae e h0) (ae e l0);have mul:(i+1) * (1+lB d)=i * (1+lB d)+(1+lB d):=im _ _;have mul5:(i+1) * (1+lB d)<=5 * (1+lB d):=c8 _ (by omega);refine⟨_,rfl,.inl ⟨rfl,_,ax.of l3'⟩,_,rfl,_,rfl,_,rfl,_,rfl,_,rfl,_,rfl,X,hX,H0,t,l1,l2,l3,l4,kd,fu,s,ts,kv3,_,sg,J5,J0,J1,rooms,ds,rfl,T,m,h0,S03,D3,kt3 _ _ f2,kt3 _ _ hat,hz,by omega,fun u kv4 H4 hu D4 ex4=>?_⟩;refine⟨_,rfl,_,_,rfl,rfl,X,hX,H0,t,l1,l2,l3,l4,kd,u,ts,kv4,_,d,behF rooms ds J5 sg,J0,J1,rooms,ds,?_,hD,T,m,h0,bu.sameH S03 h0 ex4,D4,hu,jq (by omega) hz,by omega,fun kv5 H5 D5 ex5=>?_⟩
  ·show[V.ref t,V.ref kd,V.ref u,V.int (((d+1:Nat):Int)-1)]=_;rw[show(((d+1:Nat):Int)-1)=(d:Nat) by omega]
  have l5:=ex5 _ _ (ex4 _ _ l3' nl) nl;refine⟨l,_,_,rfl,rfl,l5,?_,kv5,_,rfl,?_,(D5.more (m:=n+(i+1) * (1+lB d)) (by omega)).cell l5,fun b o e n1 n2=>?_⟩
  ·rw[ah,ah,az];exact am (by omega)
  ·rw[aa,take_snoc hsg,aq,aq];rfl
  ·rw[ai n2];exact ex5 _ _ (ex4 _ _ (ex3 _ _ e n1 n2) n1) n1
 ·rintro σ H3 ⟨kv3,x6,rfl,l3',D3,ex3⟩;rw[ah,Paired.length hP,aT]at l3';rw[ah,zu]at D3;have m5:(J1.length+1) * (1+lB d)<=5 * (1+lB d):=c8 _ (by omega);exact⟨_,rfl,k l kv3 H3 l3' (D3.more (by omega)) fun b o e nb=>ex3 _ _ (S12 _ _ e) nb (ae e hl)⟩
theorem EI{K:Za}{D:Nat}{spS:Sp}(d5:D<=4)(hS:∀m,D=m+1->spS=kF K m){vs:List V}{H:Hp}{Q:VK}{E:XK}(h:iH K D vs H Q E):vH K (kJ K) sp_product spS (bd Q) (start wL vs) H:=by
 obtain⟨X,hX,H0,t,l1,l2,l3,l4,kd,fu,ts,kv,n,d,J5,J0,J1,rooms,ds,rfl,hD,T,m,h0,S0,Dy,hf,hz,hn,k⟩:=h;have z1:=m.asks4;have z2:=m.says4;refine⟨_,rfl,(by show 0<=aj;decide),fun e he=>⟨lT J5,lT [],bt (bA.of (kp hf he)),bt (bA.of aa),by rw[bW];decide,by rw[bW];decide,_,rfl,?_⟩⟩;rw[hW];have Se:ab H (upd H e (.tup [])):=ab.new he;generalize upd H e (.tup [])=He at Se ⊢;have De:=Dy.up Se;have one:cntM J0 J1 rooms ds d J5=1->Q (.int 1) He:=fun e=>by
  have:=k kv He (De.more (by omega)) (ab.exBs Se);rw[e]at this;exact this
 by_cases hne:J5=[]
 ·rw[zzr1 hne];refine cj ?_;refine cj ?_;exact one (by rw[hne];exact xW _ _ _ _ _)
 rw[zzr0 hne];refine bS ?_;refine⟨_,rfl,rfl,_,rfl,?_⟩
 match d,hD,hn,k,one with
 |0,_,_,_,one =>
  refine cj ?_;exact one (by unfold cntM;rfl)
 |d+1,hD,hn,k,one =>
 rw[zzr0 (by intro z;injection z with z;omega)];refine bS ?_;obtain⟨w,rfl⟩:∃w,D=w+1:=⟨D-1,by omega⟩;cases hS w rfl;have eq:cntM J0 J1 rooms ds (d+1) J5=1+((kindsF J0 J1 rooms ds J5).map fun k=>eO (k.map fun sg=>cntM J0 J1 rooms ds d (behF rooms ds J5 sg))).sum:=by
  conv=>lhs;unfold cntM
  rw[if_neg hne]
 have nb:lB (d+1)=30+25 * lB d:=rfl;have fe:=Se _ _ hf;have S0e:=S0.trans Se;have fin:∀{kv':List (TK×V)}{H':Hp}{x4 x5:Option V},cO X H' kd kv' J0 J1 rooms ds (n+lB (d+1))->bu kd He H'->aU kv' (oo J5 (d+1))=some (.int (cntM J0 J1 rooms ds (d+1) J5))->(a_ (fW K V1 (bo (aS V2 V3)))) (bd Q) [some (.ref t),some (.ref kd),some (.ref fu),some (.int ((d+1:Nat))),x4,x5] H':=by
  intro kv' H' x4 x5 D' ex v';refine⟨_,rfl,_,rfl,_,rfl,(by show 2<=aj;decide),fun p hp=>?_⟩;have S:ab H' (upd H' p (.tup [.ref fu,.int ((d+1:Nat))])):=ab.new hp;have tk:=ph (d:=d+1) (aa (H:=H') (a:=p)) (S _ _ (bu.ktd De.hkd ex _ _ fe));exact⟨kd,_,rfl,.inr ⟨_,oo J5 (d+1),p,.inl (S _ _ D'.hkd),rfl,cC.isIn 8 (dA _ _) tk,dA _ _,v'.symm⟩,k kv' _ (D'.up S) ((ab.exBs Se).trs (ex.trs (ab.exBs S)))⟩
 refine⟨_,rfl,_,rfl,(by show 2<=aj;decide),fun p hp=>?_⟩;have S:ab He (upd He p (.tup [.ref fu,.int ((d+1:Nat))])):=ab.new hp;have tk:=ph (d:=d+1) (aa (H:=He) (a:=p)) (S _ _ fe);generalize upd He p (.tup [.ref fu,.int ((d+1:Nat))])=H1 at S tk ⊢;have D1:=De.up S;refine⟨_,rfl,kd,_,rfl,.inr ⟨_,oo J5 (d+1),p,.inl D1.hkd,rfl,cC.isIn 8 (dA _ _) tk,dA _ _,rfl⟩,_,rfl,?_⟩;cases hval:aU kv (oo J5 (d+1))with
 |some w' =>
  refine bS ?_;exact fin (D1.more (by omega)) (ab.exBs S) (by rw[hval,D1.cnt hX hval])
 |none =>
  refine cj ?_;refine⟨_,rfl,_,rfl,_,rfl,X,hX,H0,t,l1,l2,l3,l4,kd,fu,ts,kv,n,J5,J0,J1,rooms,ds,rfl,T,m,h0,S0e.trans S,D1,S _ _ fe,hz,by omega,fun al kv2 H2 hal D2 ex2=>⟨(by show 1<=aj;decide),fun nl hnl=>?_⟩⟩;have za:(askedF J0 rooms ds J5).length<=4:=aD (cB _ _) z1;have S3:ab H2 (upd H2 nl (.lst [.non])):=ab.new hnl;have nl3:upd H2 nl (.lst [.non]) nl=some (.lst [.non]):=aa;generalize upd H2 nl (.lst [.non])=H3 at S3 nl3 ⊢;refine⟨al,nl,_,_,rfl,rfl,S3 _ _ hal,nl3,by rw[ah];exact cZ (am (by show _+1<=1000;omega)),fun cl hcl=>?_⟩;have S4:ab H3 (upd H3 cl (.lst ((askedF J0 rooms ds J5).map V.str++[.non]))):=ab.new hcl;have cl4:upd H3 cl (.lst ((askedF J0 rooms ds J5).map V.str++[.non])) cl=some (.lst (((askedF J0 rooms ds J5).map some++[none]).map t6)):=by
   rw[aa,aq,iR];rfl
  generalize upd H3 cl (.lst ((askedF J0 rooms ds J5).map V.str++[.non]))=H4 at S4 cl4 ⊢;have D4:=(D2.up S3).up S4;have ex4:bu kd He H4:=(ab.exBs S).trs (ex2.trs (ab.exBs (S3.trans S4)));have ncl:cl≠kd:=fun z=>by have:=D4.hkd;rw[<-z,cl4]at this;cases this
  generalize hA:((askedF J0 rooms ds J5).map some++[none]:List (Option Str))=A at cl4;have zA:A.length<=5:=by rw[<-hA,aZ,ah];show _+1<=5;omega
  have eA:kindsF J0 J1 rooms ds J5=A.map (iu J1):=by rw[<-hA];exact pY _ _ _ _ _
  rw[eA,iR]at eq;refine⟨cl,rfl,⟨_,ax.of cl4⟩,?_⟩;refine bD (xs:=A.map t6) (fun i σ H'=>∃(kv':List (TK×V)) (x5:Option V),σ=[some (.ref t),some (.ref kd),some (.ref fu),some (.int ((d+1:Nat))),some (.int (1+((A.take i).map ((fun k=>eO (k.map fun sg=>cntM J0 J1 rooms ds d (behF rooms ds J5 sg))) ∘ iu J1)).sum)),x5]/\cO X H' kd kv' J0 J1 rooms ds (n+4+i * (5 * (1+lB d)))/\bu kd H4 H')
   ⟨kv2,_,rfl,D4.more (by omega),bu.refl _ _⟩ (fun i σ H' _ ⟨_,_,_,_,ex⟩=>ax.of (ex _ _ cl4 ncl)) ?_ ?_
  ·rintro i v σ H5 hi ⟨kv5,x5,rfl,D5,ex5⟩;rw[cS]at hi;obtain⟨ask,hask,rfl⟩:=kq.1 hi;have il:i<A.length:=(bP.1 hask).1;have ex05:=ex4.trs ex5;have mul:(i+1) * (5 * (1+lB d))=i * (5 * (1+lB d))+5 * (1+lB d):=im _ _;have mul5:(i+1) * (5 * (1+lB d))<=5 * (5 * (1+lB d)):=c8 _ (by omega);refine⟨_,rfl,_,rfl,_,rfl,_,rfl,_,rfl,_,rfl,X,hX,H0,t,l1,l2,l3,l4,kd,fu,ts,ask,kv5,_,d,J5,J0,J1,rooms,ds,rfl,by omega,T,m,h0,bu.sameH S0e h0 ex05,D5,bu.ktd De.hkd ex05 _ _ fe,hz,by omega,fun sl kv6 H6 hsl D6 ex6=>?_⟩;refine⟨sl,_,bB d,rfl,hsl,fun z hz'=>?_,by have:=AW d (by omega);omega,by rw[ah,ic];omega,_,_,rfl,rfl,kv6,some (t6 ask),?_,D6.more (by omega),ex5.trs ex6⟩
   ·obtain⟨sg,_,rfl⟩:=aL.1 hz';exact om z1 z2 d _
   ·have es:∀(f:Option Str->Int),1+((A.take (i+1)).map f).sum=1+((A.take i).map f).sum+f ask:=fun f=>by
     rw[take_snoc hask,aq,uV,bj,q_,uX,List.sum_nil,Int.add_zero,Int.add_assoc]
    rw[es];rfl
  ·rintro σ H5 ⟨kv5,x5,rfl,D5,ex5⟩;rw[ah]at D5;rw[ah,aT,<-eq];have m5:A.length * (5 * (1+lB d))<=5 * (5 * (1+lB d)):=c8 _ zA;have ex05:=ex4.trs ex5;refine⟨_,rfl,_,rfl,_,rfl,_,rfl,(by show 2<=aj;decide),fun p2 hp2=>?_⟩;have S6:ab H5 (upd H5 p2 (.tup [.ref fu,.int ((d+1:Nat))])):=ab.new hp2;have tk6:=ph (d:=d+1) (aa (H:=H5) (a:=p2)) (S6 _ _ (bu.ktd De.hkd ex05 _ _ fe));generalize upd H5 p2 (.tup [.ref fu,.int ((d+1:Nat))])=H6 at S6 tk6 ⊢;have D6:=D5.up S6;have cl:=D6.len;refine⟨kd,_,rfl,.inr ⟨_,oo J5 (d+1),p2,D6.hkd,rfl,tk6,dA _ _,by rw[pL];omega,rfl⟩,?_⟩;have D7:=D6.put (k:=oo J5 (d+1)) (v:=.int (cntM J0 J1 rooms ds (d+1) J5)) (.inr (.inl ⟨_,_,rfl⟩));exact fin (D7.more (by omega)) ((ex05.trs (ab.exBs S6)).trs fun b o e nb=>by rw[ai nb];exact e) (by rw[fB,if_pos rfl])
open Builtin.Int (intBits)
section
variable(J0 J1 rooms rooms':Zb)(ds ds':List ak)
def sprM:Nat->List Str->List Str->Int
 |0,own,J5=>if own=[]then cntM J0 J1 rooms ds 0 J5 else if J5=[]then 0 else 1
 |d+1,own,J5=>if own=[]then cntM J0 J1 rooms ds (d+1) J5 else if J5=[]then 0 else 1+((kindsF J0 J1 rooms ds J5).map fun k=>eO (k.map fun sg=>sprM d (behF rooms' ds' own sg) (behF rooms ds J5 sg))).sum
theorem vV(d:Nat)(J5:Zb):sprM J0 J1 rooms rooms' ds ds' d [] J5=cntM J0 J1 rooms ds d J5:=by
 cases d<;>(unfold sprM;rw[if_pos rfl])
theorem rP(d:Nat){own:Zb}(h:own≠[]):sprM J0 J1 rooms rooms' ds ds' d own []=0:=by
 cases d<;>(unfold sprM;rw[if_neg h,if_pos rfl])
theorem rN{own J5:Zb}(h:own≠[])(h':J5≠[]):sprM J0 J1 rooms rooms' ds ds' 0 own J5=1:=by
 unfold sprM;rw[if_neg h,if_neg h']
theorem rO(d:Nat){own J5:Zb}(h:own≠[])(h':J5≠[]):sprM J0 J1 rooms rooms' ds ds' (d+1) own J5=1+((kindsF J0 J1 rooms ds J5).map fun k=>eO (k.map fun sg=>sprM J0 J1 rooms rooms' ds ds' d (behF rooms' ds' own sg) (behF rooms ds J5 sg))).sum:=by
 conv=>lhs;unfold sprM
 rw[if_neg h,if_neg h']
theorem rQ(h1:J0.length<=4)(h2:J1.length<=4):∀(d:Nat) (own J5:Zb),intBits (sprM J0 J1 rooms rooms' ds ds' d own J5)<=bB d
 |d,own,J5=>by
  by_cases c:own=[]
  ·rw[c,vV];exact om h1 h2 d J5
  by_cases c':J5=[]
  ·rw[c',rP _ _ _ _ _ _ d c];have:intBits 0<=0:=(by decide);omega
  match d with
  |0=>rw[rN _ _ _ _ _ _ c c'];unfold bB;decide
  |d+1 =>
   rw[rO _ _ _ _ _ _ d c c'];unfold bB;have hp:∀x∈(kindsF J0 J1 rooms ds J5).map (fun k=>eO (k.map fun sg=>sprM J0 J1 rooms rooms' ds ds' d (behF rooms' ds' own sg) (behF rooms ds J5 sg))),intBits x<=1+5 * bB d:=by
    intro x hx;obtain⟨k,hk,rfl⟩:=aL.1 hx;have:=o7 (b:=bB d) (k.map fun sg=>sprM J0 J1 rooms rooms' ds ds' d (behF rooms' ds' own sg) (behF rooms ds J5 sg)) fun y hy=>by
     obtain⟨sg,_,rfl⟩:=aL.1 hy;exact rQ h1 h2 d _ _
    rw[ah,(lA hk).1]at this;have h3:(J1.length+1) * bB d<=5 * bB d:=c8 _ (by omega);omega
   have h3:=rM _ hp;rw[ah]at h3;have h4:=lC (J1:=J1) (rooms:=rooms) (ds:=ds) (J5:=J5) h1;have h5:=intBits_add_le (show intBits (1:Int)<=1 by decide) h3;omega
end
def n5(a b:Zb)(d:Nat):TK:=.t [eE a,eE b,.k (some (.inl (d:Int)))]
theorem AM{a b a' b':Zb}{d d':Nat}(h:n5 a b d=n5 a' b' d'):a=a'/\b=b'/\d=d':=by
 unfold n5 at h;injection h with h;injection h with h1 h2;injection h2 with h2 h3;injection h3 with h3 _;injection h3 with h3;injection h3 with h3;injection h3 with h3;exact⟨eS h1,eS h2,by omega⟩
theorem dz(a b:Zb)(d:Nat):(n5 a b d).depth<=8:=by
 show max (eE a).depth (max (eE b).depth (max 0 0))+1<=8;rw[f_,f_];decide
theorem pd{H:Hp}{p u w:Addr}{a b:Zb}{d:Nat}(hp:H p=some (.tup [.ref u,.ref w,.int (d:Nat)]))(hu:H u=some (.tup (a.map V.str)))(hw:H w=some (.tup (b.map V.str))):cC H (n5 a b d) (.ref p):=by
 unfold n5 cC;refine⟨p,_,rfl,hp,?_⟩;unfold TKAts;refine⟨_,_,rfl,SignAt.tk hu,?_⟩;unfold TKAts;refine⟨_,_,rfl,SignAt.tk hw,?_⟩;unfold TKAts;exact⟨_,_,rfl,by unfold cC;rfl,by unfold TKAts;rfl⟩
def exH(H:Hp)(P:Addr->Prop):Hp:=fun b=>open Classical in if P b then none else H b
theorem pf{H:Hp}{P:Addr->Prop}{b:Addr}(h:P b):exH H P b=none:=by unfold exH;rw[if_pos h]
theorem n_{H:Hp}{P:Addr->Prop}{b:Addr}(h:¬P b):exH H P b=H b:=by unfold exH;rw[if_neg h]
theorem xR{H:Hp}{P:Addr->Prop}:ab (exH H P) H:=fun b o e=>by
 by_cases c:P b
 ·rw[pf c]at e;cases e
 ·rw[n_ c]at e;exact e
theorem sK{H0 H:Hp}{P:Addr->Prop}(S:ab H0 H)(h:∀b,P b->H0 b=none):ab H0 (exH H P):=fun b o e=>by
 rw[n_ (fun c=>by rw[h b c]at e;cases e)];exact S _ _ e
def Fa(kd:Addr)(kv:List (TK×V))(b:Addr):Prop:=b=kd∨∃k,(k,V.ref b)∈kv
def Dr(kd cd:Addr)(kv:List (TK×V))(b:Addr):Prop:=b=cd∨Fa kd kv b
section
variable{Cm Ck Cd:Addr}{H0 H1 H:Hp}{x sl y M kd cd:Addr}{us:Ze}{kv cv:List (TK×V)}{J0 J1 rooms:Zb}{ds:List ak}{n:Nat}
theorem yu.up(h:yu Cm Ck H0 y M kd J0 J1 rooms ds)(S:ab H0 H1)(e:H1 kd=none):yu Cm Ck H1 y M kd J0 J1 rooms ds:=by
 obtain⟨dy,fs,g,r⟩:=h.ob;exact⟨h.mach.same S,⟨dy,fs,S _ _ g,r⟩,e⟩
theorem sZ.up(h:sZ Cm Ck Cd H0 x sl y M kd cd us J0 J1 rooms ds)(S:ab H0 H1)(e:H1 kd=none)(e':H1 cd=none):sZ Cm Ck Cd H1 x sl y M kd cd us J0 J1 rooms ds:=by
 obtain⟨dx,fs,g,r⟩:=h.ob;exact⟨h.ks.up S e,⟨dx,fs,S _ _ g,r⟩,S _ _ h.hsl,jM.kt (ab.kt S) h.sg,e',h.ne⟩
theorem dS.noneP(h:dS H0 H kd kv J0 J1 rooms ds n)(e:H0 kd=none):∀b,Fa kd kv b->H0 b=none
 |_,.inl z=>by rw[z];exact e
 |_,.inr ⟨k,hk⟩=>by
  obtain⟨_,_,_,q,_,r,_⟩:=h.kok _ hk;injection q with _ q;injection q with q;rw[q];exact r
theorem cY.noneP(h:cY H0 H kd cd kv cv J0 J1 rooms ds n)(e:H0 kd=none)(e':H0 cd=none):∀b,Dr kd cd kv b->H0 b=none
 |_,.inl z=>by rw[z];exact e'
 |_,.inr z=>h.ks.noneP e _ z
theorem dS.max(h:dS H0 H kd kv J0 J1 rooms ds n){P:Addr->Prop}(hP:∀b,Fa kd kv b->P b):dS (exH H P) H kd kv J0 J1 rooms ds n :=
 ⟨xR,h.hkd,fun p hp=>by obtain⟨f,d,kvs,e,n1,_,r⟩:=h.kok p hp;exact⟨f,d,kvs,e,n1,pf (hP _ (.inr ⟨eE f,by rw[<-e];exact hp⟩)),r⟩,h.len⟩
theorem cY.max(h:cY H0 H kd cd kv cv J0 J1 rooms ds n):cY (exH H (Dr kd cd kv)) H kd cd kv cv J0 J1 rooms ds n:=⟨h.ks.max fun _ z=>.inr z,h.ncd,h.hcd,h.cok,h.clen⟩
theorem cY.weak(S:ab H0 H1)(h:cY H1 H kd cd kv cv J0 J1 rooms ds n):cY H0 H kd cd kv cv J0 J1 rooms ds n:=⟨h.ks.weak S,h.ncd,h.hcd,h.cok,h.clen⟩
theorem dS.fresh(h:dS H0 H kd kv J0 J1 rooms ds n){k:TK}{b:Addr}(q:(k,V.ref b)∈kv):b≠kd/\H0 b=none/\∃kvs,Rd H b (.dT kvs):=by
 obtain⟨_,_,kvs,e,n1,n2,r,_⟩:=h.kok _ q;injection e with _ e;injection e with e;rw[e];exact⟨n1,n2,kvs,r⟩
end
structure s_(Cm Ck Cd Cb:Addr)(H0:Hp)(x mx sl y M kd cd y2 I kd2 hd:Addr)(us:Ze)(J0 J1 rooms rooms':Zb)(ds ds':List ak):Prop where
 md:sZ Cm Ck Cd H0 mx sl y M kd cd us J0 J1 rooms ds
 ks:yu Cm Ck H0 y2 I kd2 J0 J1 rooms' ds'
 ob:∃(dx:Addr) (fs:List (Str×V)),H0 x=some (.ins Cb dx fs)/\lk "made" fs=some (.ref mx)/\lk "own_steps" fs=some (.ref y2)/\lk "known_harmless" fs=some (.ref hd)/\∀f:Str,f≠"made"->f≠"own_steps"->f≠"known_harmless"->f≠"known_firsts"->lk f fs=none
 hdn:H0 hd=none
 n1:kd2≠kd/\kd2≠cd
 n2:hd≠kd/\hd≠cd/\hd≠kd2
structure eJ(H0 H:Hp)(kd cd kd2 hd:Addr)(kv cv kv2 hv:List (TK×V))(J0 J1 rooms rooms':Zb)(ds ds':List ak)(n:Nat):Prop where
 md:cY H0 H kd cd kv cv J0 J1 rooms ds n
 ks:dS H0 H kd2 kv2 J0 J1 rooms' ds' n
 hhd:H hd=some (.dT hv)
 hok:∀p∈hv,∃(J5 own:Zb) (d:Nat),p=(n5 J5 own d,.int (sprM J0 J1 rooms rooms' ds ds' d own J5))
 hlen:hv.length<=n
 d1:∀k b,(k,V.ref b)∈kv->b≠kd2/\b≠hd/\∀k',(k',V.ref b)∉kv2
 d2:∀k b,(k,V.ref b)∈kv2->b≠kd/\b≠cd/\b≠hd
section
variable{Cm Ck Cd Cb:Addr}{H0 H H':Hp}{x mx sl y M kd cd y2 I kd2 hd:Addr}{us:Ze}{kv cv kv2 hv kv' cv':List (TK×V)}{J0 J1 rooms rooms' J5 own:Zb}{ds ds':List ak}{n m d:Nat}
theorem eJ.up(h:eJ H0 H kd cd kd2 hd kv cv kv2 hv J0 J1 rooms rooms' ds ds' n)(S:ab H H'):eJ H0 H' kd cd kd2 hd kv cv kv2 hv J0 J1 rooms rooms' ds ds' n:=⟨h.md.up S,h.ks.up S,S _ _ h.hhd,h.hok,h.hlen,h.d1,h.d2⟩
theorem eJ.more(h:eJ H0 H kd cd kd2 hd kv cv kv2 hv J0 J1 rooms rooms' ds ds' n)(l:n<=m):eJ H0 H kd cd kd2 hd kv cv kv2 hv J0 J1 rooms rooms' ds ds' m:=⟨h.md.more l,h.ks.more l,h.hhd,h.hok,aD h.hlen l,h.d1,h.d2⟩
theorem eJ.cell{f:Addr}{xs ys:List V}(h:eJ H0 H kd cd kd2 hd kv cv kv2 hv J0 J1 rooms rooms' ds ds' n)(h0:H0 f=none)(hf:H f=some (.lst xs)):eJ H0 (upd H f (.lst ys)) kd cd kd2 hd kv cv kv2 hv J0 J1 rooms rooms' ds ds' n :=
 ⟨h.md.cell h0 hf,h.ks.cell h0 hf,by rw[ai (fun z=>by have:=h.hhd;rw[z,hf]at this;cases this)];exact h.hhd,h.hok,h.hlen,h.d1,h.d2⟩
theorem eJ.step(h:eJ H0 H kd cd kd2 hd kv cv kv2 hv J0 J1 rooms rooms' ds ds' n)(St:s_ Cm Ck Cd Cb H0 x mx sl y M kd cd y2 I kd2 hd us J0 J1 rooms rooms' ds ds')(D:cY (exH H (Dr kd cd kv)) H' kd cd kv' cv' J0 J1 rooms ds m)(l:n<=m):eJ H0 H' kd cd kd2 hd kv' cv' kv2 hv J0 J1 rooms rooms' ds ds' m:=by
 have S0:ab H0 (exH H (Dr kd cd kv)):=sK h.md.ks.same (h.md.noneP St.md.ks.kdn St.md.cdn);have out:∀{b:Addr}{o:HO},H b=some o->b≠kd->b≠cd->(∀k,(k,V.ref b)∉kv)->exH H (Dr kd cd kv) b=some o:=fun e n1 n2 n3=>by
  rw[n_ (fun z=>z.elim n2 fun z=>z.elim n1 fun⟨k,q⟩=>n3 k q)];exact e
 have k2:=out h.ks.hkd St.n1.1 St.n1.2 fun k q=>(h.d1 k _ q).1 rfl;have hh:=out h.hhd St.n2.1 St.n2.2.1 fun k q=>(h.d1 k _ q).2.1 rfl;have own:∀{k:TK}{b:Addr},(k,V.ref b)∈kv2->∀o,H b=some o->exH H (Dr kd cd kv) b=some o:=fun q o e=>out e (h.d2 _ _ q).1 (h.d2 _ _ q).2.1 fun k' q'=>(h.d1 k' _ q').2.2 _ q;have kt:iB H H':=fun b xs e=>D.ks.same _ _ (out e (fun z=>by rw[z,h.md.ks.hkd]at e;cases e) (fun z=>by rw[z,h.md.hcd]at e;cases e) fun k q=>by obtain⟨_,_,kvs,r⟩:=h.md.ks.fresh q;rcases r with r|⟨_,r⟩<;>(rw[r]at e;cases e));refine⟨D.weak S0,⟨S0.trans D.ks.same,D.ks.same _ _ k2,fun p hp=>?_,aD h.ks.len l⟩,D.ks.same _ _ hh,h.hok,aD h.hlen l,fun k b q=>?_,h.d2⟩
 ·obtain⟨f,d,kvs,e,q1,q2,r,st⟩:=h.ks.kok p hp;exact⟨f,d,kvs,e,q1,q2,gB (fun o eo=>D.ks.same _ _ (own (by rw[<-e];exact hp) o eo)) r,st.kt kt⟩
 ·obtain⟨_,z,_⟩:=D.ks.fresh q;refine⟨fun w=>(by rw[w,k2]at z;cases z),fun w=>(by rw[w,hh]at z;cases z),fun k' q'=>?_⟩;obtain⟨_,_,kvs,r⟩:=h.ks.fresh q';rcases r with r|⟨_,r⟩<;>(rw[own q' _ r]at z;cases z)
theorem eJ.stepK(h:eJ H0 H kd cd kd2 hd kv cv kv2 hv J0 J1 rooms rooms' ds ds' n)(St:s_ Cm Ck Cd Cb H0 x mx sl y M kd cd y2 I kd2 hd us J0 J1 rooms rooms' ds ds')(D:dS (exH H (Fa kd2 kv2)) H' kd2 kv' J0 J1 rooms' ds' m)(l:n<=m):eJ H0 H' kd cd kd2 hd kv cv kv' hv J0 J1 rooms rooms' ds ds' m:=by
 have S0:ab H0 (exH H (Fa kd2 kv2)):=sK h.ks.same (h.ks.noneP St.ks.kdn);have out:∀{b:Addr}{o:HO},H b=some o->b≠kd2->(∀k,(k,V.ref b)∉kv2)->exH H (Fa kd2 kv2) b=some o:=fun e n1 n3=>by
  rw[n_ (fun z=>z.elim n1 fun⟨k,q⟩=>n3 k q)];exact e
 have k1:=out h.md.ks.hkd St.n1.1.symm fun k q=>(h.d2 k _ q).1 rfl;have k3:=out h.md.hcd St.n1.2.symm fun k q=>(h.d2 k _ q).2.1 rfl;have hh:=out h.hhd St.n2.2.2 fun k q=>(h.d2 k _ q).2.2 rfl;have own:∀{k:TK}{b:Addr},(k,V.ref b)∈kv->∀o,H b=some o->exH H (Fa kd2 kv2) b=some o:=fun q o e=>out e (h.d1 _ _ q).1 (h.d1 _ _ q).2.2;have kt:iB H H':=fun b xs e=>D.same _ _ (out e (fun z=>by rw[z,h.ks.hkd]at e;cases e) fun k q=>by obtain⟨_,_,kvs,r⟩:=h.ks.fresh q;rcases r with r|⟨_,r⟩<;>(rw[r]at e;cases e));refine⟨⟨⟨S0.trans D.same,D.same _ _ k1,fun p hp=>?_,aD h.md.ks.len l⟩,h.md.ncd,D.same _ _ k3,h.md.cok,aD h.md.clen l⟩,D.weak S0,D.same _ _ hh,h.hok,aD h.hlen l,fun k b q=>⟨(h.d1 k b q).1,(h.d1 k b q).2.1,fun k' q'=>?_⟩,fun k b q=>?_⟩
 ·obtain⟨f,d,kvs,e,q1,q2,r,st⟩:=h.md.ks.kok p hp;exact⟨f,d,kvs,e,q1,q2,gB (fun o eo=>D.same _ _ (own (by rw[<-e];exact hp) o eo)) r,st.kt kt⟩
 ·obtain⟨_,z,_⟩:=D.fresh q';obtain⟨_,_,kvs,r⟩:=h.md.ks.fresh q;rcases r with r|⟨_,r⟩<;>(rw[own q _ r]at z;cases z)
 ·obtain⟨_,z,_⟩:=D.fresh q;exact⟨fun w=>(by rw[w,k1]at z;cases z),fun w=>(by rw[w,k3]at z;cases z),fun w=>by rw[w,hh]at z;cases z⟩
theorem eJ.val{w:V}(h:eJ H0 H kd cd kd2 hd kv cv kv2 hv J0 J1 rooms rooms' ds ds' n)(v:aU hv (n5 J5 own d)=some w):w=.int (sprM J0 J1 rooms rooms' ds ds' d own J5):=by
 obtain⟨f,g,e,q⟩:=h.hok _ (eM v);injection q with q1 q2;obtain⟨rfl,rfl,rfl⟩:=AM q1;exact q2
theorem eJ.put(h:eJ H0 H kd cd kd2 hd kv cv kv2 hv J0 J1 rooms rooms' ds ds' n)(St:s_ Cm Ck Cd Cb H0 x mx sl y M kd cd y2 I kd2 hd us J0 J1 rooms rooms' ds ds'):
  eJ H0 (upd H hd (.dT (cH hv (n5 J5 own d) (.int (sprM J0 J1 rooms rooms' ds ds' d own J5))))) kd cd kd2 hd kv cv kv2 (cH hv (n5 J5 own d) (.int (sprM J0 J1 rooms rooms' ds ds' d own J5))) J0 J1 rooms rooms' ds ds' (n+1):=by
 have kt:iB H (upd H hd (.dT (cH hv (n5 J5 own d) (.int (sprM J0 J1 rooms rooms' ds ds' d own J5))))):=FH h.hhd;have ksu:∀{kd0:Addr}{kv0:List (TK×V)}{rs:Zb}{dd:List ak},dS H0 H kd0 kv0 J0 J1 rs dd n->hd≠kd0->(∀k b,(k,V.ref b)∈kv0->b≠hd)->dS H0 (upd H hd (.dT (cH hv (n5 J5 own d) (.int (sprM J0 J1 rooms rooms' ds ds' d own J5))))) kd0 kv0 J0 J1 rs dd (n+1):=fun q n1 n2 =>
  ⟨fun b o e=>by rw[ai (ae e St.hdn)];exact q.same _ _ e,by rw[ai n1.symm];exact q.hkd,fun p hp=>by
   obtain⟨f,d,kvs,e,q1,q2,r,st⟩:=q.kok p hp;exact⟨f,d,kvs,e,q1,q2,gB (fun o eo=>by rw[ai (n2 (eE f) d (by rw[<-e];exact hp))];exact eo) r,st.kt kt⟩,Nat.le_succ_of_le q.len⟩
 refine⟨⟨ksu h.md.ks St.n2.1 fun k b q=>(h.d1 k b q).2.1,h.md.ncd,by rw[ai St.n2.2.1.symm];exact h.md.hcd,h.md.cok,Nat.le_succ_of_le h.md.clen⟩,ksu h.ks St.n2.2.2 fun k b q=>(h.d2 k b q).2.2,aa,fun p hp=>?_,aD (dQ _ _ _) (vn h.hlen),h.d1,h.d2⟩;rcases sy hp with hp|rfl
 ·exact h.hok p hp
 ·exact⟨_,_,_,rfl⟩
theorem s_.mdM(St:s_ Cm Ck Cd Cb H0 x mx sl y M kd cd y2 I kd2 hd us J0 J1 rooms rooms' ds ds')(h:eJ H0 H kd cd kd2 hd kv cv kv2 hv J0 J1 rooms rooms' ds ds' n):sZ Cm Ck Cd (exH H (Dr kd cd kv)) mx sl y M kd cd us J0 J1 rooms ds :=
 St.md.up (sK h.md.ks.same (h.md.noneP St.md.ks.kdn St.md.cdn)) (pf (.inr (.inl rfl))) (pf (.inl rfl))
theorem s_.ksM(St:s_ Cm Ck Cd Cb H0 x mx sl y M kd cd y2 I kd2 hd us J0 J1 rooms rooms' ds ds')(h:eJ H0 H kd cd kd2 hd kv cv kv2 hv J0 J1 rooms rooms' ds ds' n):yu Cm Ck (exH H (Fa kd2 kv2)) y2 I kd2 J0 J1 rooms' ds' :=
 St.ks.up (sK h.ks.same (h.ks.noneP St.ks.kdn)) (pf (.inl rfl))
end
structure BC(K:Za)(C:Addr):Prop where
 cls:yB K C
 a1:cw K C "made"
 a2:cw K C "own_steps"
 a3:cw K C "known_harmless"
 a4:cw K C "known_firsts"
def FS(H:Hp)(v:V)(J5:Zb):Prop:=(v=.non/\J5=[])∨∃u,v=.ref u/\J5≠[]/\H u=some (.tup (J5.map V.str))
theorem FS.kt{H H':Hp}{v:V}{J5:Zb}(k:iB H H')(h:FS H v J5):FS H' v J5:=h.imp id fun⟨u,e,n,q⟩=>⟨u,e,n,k _ _ q⟩
def Eb(H:Hp)(p:Addr)(q:List Str×List Str):Prop:=∃v w,H p=some (.tup [v,w])/\FS H v q.1/\FS H w q.2
theorem Eb.kt{H H':Hp}{p:Addr}{q:List Str×List Str}(k:iB H H')(h:Eb H p q):Eb H' p q:=by
 obtain⟨v,w,e,h1,h2⟩:=h;exact⟨v,w,k _ _ e,h1.kt k,h2.kt k⟩
theorem jr.fcV{H:Hp}{kvs:List (TK×V)}{J0 J1 rooms f:Zb}{ds:List ak}(h:jr H kvs (stepsF J0 J1 rooms ds f)){sg:Sg}(hs:sg∈bR J0 J1):FS H ((aU kvs (eE sg)).getD .non) (behF rooms ds f sg):=by
 rcases h.look hs with⟨e1,e2⟩|⟨e1,u,e2,e3⟩
 ·rw[e2];exact .inl ⟨rfl,e1⟩
 ·rw[e2];exact .inr ⟨u,rfl,e1,e3⟩
theorem dS.find{H0 H:Hp}{kd d:Addr}{kv:List (TK×V)}{J0 J1 rooms J5:Zb}{ds:List ak}{n:Nat}(h:dS H0 H kd kv J0 J1 rooms ds n)(v:aU kv (eE J5)=some (.ref d)):∃kvs,Rd H d (.dT kvs)/\jr H kvs (stepsF J0 J1 rooms ds J5):=by
 obtain⟨f,d',kvs,e,_,_,r,st⟩:=h.kok _ (eM v);injection e with e1 e2;cases eS e1;cases e2;exact⟨kvs,r,st⟩
def hB:Nat->Nat
 |0=>0
 |d+1=>12+25 * hB d
theorem FG:∀d,nB d<=hB d
 |0=>aA _
 |d+1=>by have:=FG d;show 7+25 * nB d<=12+25 * hB d;omega
inductive lf(K:Za)(Cm Ck Cd Cb:Addr)(vs:List V)(H:Hp)(Q:VK)(E:XK):Prop
 |mk (H0:Hp) (x mx sl y M kd cd y2 I kd2 hd u w kl:Addr) (us:Ze) (kv cv kv2 hv:List (TK×V)) (n:Nat) (kind:List Sg) (J5 own J0 J1 rooms rooms':Zb) (ds ds':List ak):(vs=[.ref x,.ref u,.ref w,.ref kl])->(s_ Cm Ck Cd Cb H0 x mx sl y M kd cd y2 I kd2 hd us J0 J1 rooms rooms' ds ds')->(eJ H0 H kd cd kd2 hd kv cv kv2 hv J0 J1 rooms rooms' ds ds' n)->(H u=some (.tup (J5.map V.str)))->(∀r∈J5,r∈rooms)->(J5.length<=1000)->(H w=some (.tup (own.map V.str)))->(∀r∈own,r∈rooms')->(own.length<=1000)->(dI K H kl kind)->(∀sg∈kind,sg∈bR J0 J1)->(kind.length<=5)->(n+2<=1000000) ->
  (∀(l:Addr) (ps:Ze) (kv' kv2':List (TK×V)) (H':Hp),H' l=some (.lst (ps.map V.ref))->Paired (Eb H') ps (kind.map fun sg=>(behF rooms ds J5 sg,behF rooms' ds' own sg))->eJ H0 H' kd cd kd2 hd kv' cv kv2' hv J0 J1 rooms rooms' ds ds' (n+2)->Kp H H'->Q (.ref l) H')->lf K Cm Ck Cd Cb vs H Q E
theorem Bs{K:Za}{Cm Ck Cd Cb:Addr}(c:BC K Cb){vs:List V}{H:Hp}{Q:VK}{E:XK}(h:lf K Cm Ck Cd Cb vs H Q E):oU K Ck (jg Cm Ck) Cd (ib Cm Ck Cd) (bd Q) (start pC vs) H:=by
 obtain⟨H0,x,mx,sl,y,M,kd,cd,y2,I,kd2,hd,u,w,kl,us,kv,cv,kv2,hv,n,kind,J5,own,J0,J1,rooms,rooms',ds,ds',rfl,St,Dy,hu,hsu,hzu,hw,hsw,hzw,hk,hin,zk,hn,k⟩:=h;obtain⟨dx,fs,g0,l1,l2,l3,l4⟩:=St.ob;obtain⟨dm,fm,gm,_,_,_,m4⟩:=St.md.ob;obtain⟨dy,fy,gy,_,_,y3⟩:=St.ks.ob;refine⟨_,rfl,x,Cb,dx,fs,.ref mx,rfl,Dy.ks.same _ _ g0,c.cls,c.a1,l1,mx,dm,fm,rfl,Dy.ks.same _ _ gm,m4 "steps_from" (by decide +kernel) (by decide +kernel) (by decide +kernel),_,rfl,exH H (Dr kd cd kv),mx,sl,y,M,kd,cd,u,us,kv,cv,n,J5,J0,J1,rooms,ds,rfl,St.mdM Dy,Dy.md.max,hu,hsu,hzu,by omega,fun sd kv1 _ H1 D1 v1 _ _ ex1 _=>?_⟩;have Dy1:=Dy.step St D1 (by omega);have kp1:Kp H H1:=Kp.exB Dy.md.ks.hkd rfl ex1;refine⟨_,rfl,x,Cb,dx,fs,.ref y2,rfl,Dy1.ks.same _ _ g0,c.cls,c.a2,l2,y2,dy,fy,rfl,Dy1.ks.same _ _ gy,y3,_,rfl,exH H1 (Fa kd2 kv2),y2,I,kd2,w,kv2,n+1,own,J0,J1,rooms',ds',rfl,St.ksM Dy1,Dy1.ks.max fun _ z=>z,kp1 _ _ hw rfl,hsw,hzw,by omega,fun sd2 kv3 _ H2 D2 v2 _ _ ex2 _=>?_⟩;have Dy2:=Dy1.stepK St D2 (by omega);have kp2:Kp H1 H2:=Kp.exB Dy1.ks.hkd rfl ex2;have kp12:=kp1.trans kp2;obtain⟨kvs1,r1,st1⟩:=Dy2.md.ks.find v1;obtain⟨kvs2,r2,st2⟩:=Dy2.ks.find v2;obtain⟨ss,hkl,hss⟩:=hk;have kl2:=kp12 _ _ hkl rfl;refine⟨_,rfl,kl,rfl,⟨_,ax.of kl2⟩,fun f hf=>?_⟩;refine bh (xs:=ss.map V.ref) (fun i vs H'=>∃ps:List Addr,vs=ps.map V.ref/\ab H2 H'/\H' f=some (.lst vs)/\Paired (Eb H') ps ((kind.take i).map fun sg=>(behF rooms ds J5 sg,behF rooms' ds' own sg))) ⟨[],rfl,ab.new hf,aa,.nil⟩ (fun i vs H' _ ⟨_,_,S,h',_⟩=>⟨h',ax.of (S _ _ kl2)⟩) ?_ ?_
 ·rintro vs H3 ⟨ps,rfl,S3,f3,hP⟩;rw[ah,Paired.length hss,aT]at hP;exact k f ps kv1 kv3 H3 f3 hP (Dy2.up S3) (kp12.trans (ab.kp S3))
 ·rintro i vs H3 z hz hi ⟨ps,rfl,S3,f3,hP⟩;obtain⟨s,hs,rfl⟩:=bQ hz;obtain⟨sg,hsg,hat⟩:=Paired.getL hss hs;have hsi:=hin sg (bJ hsg);have hat3:gj K H3 s (sg.map V.str):=gj.kt (kp12.trans (ab.kp S3)).kt hat;have r13:=gB (S3 sd) r1;have r23:=gB (S3 sd2) r2;have gd1:lW K H3 sd (.ref s) (aU kvs1 (eE sg)):=.inr ⟨_,eE sg,s,r13,rfl,vx hat3,eh _,rfl⟩;have gd2:lW K H3 sd2 (.ref s) (aU kvs2 (eE sg)):=.inr ⟨_,eE sg,s,r23,rfl,vx hat3,eh _,rfl⟩;refine gN (lK ?_);refine⟨_,rfl,sd,rfl,.inr ⟨_,r13⟩,_,rfl,_,gd1,_,rfl,sd2,rfl,.inr ⟨_,r23⟩,_,rfl,_,gd2,(by show 2<=aj;decide),fun p hp=>⟨kp f3 hp,?_,ke hi ⟨ps++[p],by rw[aq];rfl,?_,aa,?_⟩⟩⟩
  ·rw[ah,Paired.length hP,ah,az];exact am (by omega)
  ·intro b o q;rw[ai (ae q hf)];exact kp (S3 _ _ q) hp
  ·rw[take_snoc hsg,aq];have k1:iB H3 (upd H3 p (.tup [(aU kvs1 (eE sg)).getD .non,(aU kvs2 (eE sg)).getD .non])):=ab.kt (ab.new hp);have k2:=fP (o:=.lst (ps.map V.ref++[.ref p])) (kp (x:=.tup [(aU kvs1 (eE sg)).getD .non,(aU kvs2 (eE sg)).getD .non]) f3 hp);have hk:=k1.trans k2;have S23:=(ab.kt S3).trans hk;exact f8 (Paired.mapP hP fun _ _ r=>r.kt hk) ⟨_,_,k2 _ _ aa,(st1.fcV hsi).kt S23,(st2.fcV hsi).kt S23⟩
inductive mI(Cm Ck Cd Cb:Addr)(D:Nat)(vs:List V)(H:Hp)(Q:VK)(E:XK):Prop
 |mk (H0:Hp) (x mx sl y M kd cd y2 I kd2 hd:Addr) (v w:V) (us:Ze) (kv cv kv2 hv:List (TK×V)) (n d:Nat) (J5 own J0 J1 rooms rooms':Zb) (ds ds':List ak):(vs=[.ref x,v,w,.int (d:Nat)])->(d<=D)->(s_ Cm Ck Cd Cb H0 x mx sl y M kd cd y2 I kd2 hd us J0 J1 rooms rooms' ds ds')->(eJ H0 H kd cd kd2 hd kv cv kv2 hv J0 J1 rooms rooms' ds ds' n)->(FS H v J5)->(∀r∈J5,r∈rooms)->(J5.length<=1000)->(FS H w own)->(∀r∈own,r∈rooms')->(own.length<=1000)->(n+hB d<=1000000) ->
  (∀(kv' cv' kv2' hv':List (TK×V)) (H':Hp),eJ H0 H' kd cd kd2 hd kv' cv' kv2' hv' J0 J1 rooms rooms' ds ds' (n+hB d)->Kp H H'->Q (.int (sprM J0 J1 rooms rooms' ds ds' d own J5)) H')->mI Cm Ck Cd Cb D vs H Q E
inductive rR(K:Za)(Cm Ck Cd Cb:Addr)(D:Nat)(vs:List V)(H:Hp)(Q:VK)(E:XK):Prop
 |mk (H0:Hp) (x mx sl y M kd cd y2 I kd2 hd u w kl:Addr) (us:Ze) (kv cv kv2 hv:List (TK×V)) (n d:Nat) (kind:List Sg) (J5 own J0 J1 rooms rooms':Zb) (ds ds':List ak):(vs=[.ref x,.ref u,.ref w,.int ((d+1:Nat)),.ref kl])->(d<=D)->(d<=4)->(s_ Cm Ck Cd Cb H0 x mx sl y M kd cd y2 I kd2 hd us J0 J1 rooms rooms' ds ds')->(eJ H0 H kd cd kd2 hd kv cv kv2 hv J0 J1 rooms rooms' ds ds' n)->(H u=some (.tup (J5.map V.str)))->(∀r∈J5,r∈rooms)->(J5.length<=1000)->(H w=some (.tup (own.map V.str)))->(∀r∈own,r∈rooms')->(own.length<=1000)->(dI K H kl kind)->(∀sg∈kind,sg∈bR J0 J1)->(kind.length<=5)->(n+2+5 * hB d<=1000000) ->
  (∀(kv' cv' kv2' hv':List (TK×V)) (H':Hp),eJ H0 H' kd cd kd2 hd kv' cv' kv2' hv' J0 J1 rooms rooms' ds ds' (n+2+5 * hB d)->Kp H H'->Q (.int (eO (kind.map fun sg=>sprM J0 J1 rooms rooms' ds ds' d (behF rooms' ds' own sg) (behF rooms ds J5 sg)))) H')->rR K Cm Ck Cd Cb D vs H Q E
theorem FX{K:Za}{Cm Ck Cd Cb:Addr}{D:Nat}{vs:List V}{H:Hp}{Q:VK}{E:XK}(h:rR K Cm Ck Cd Cb D vs H Q E):j9 K sp_product Cb (lf K Cm Ck Cd Cb) (mI Cm Ck Cd Cb D) (bd Q) (start kh vs) H:=by
 obtain⟨H0,x,mx,sl,y,M,kd,cd,y2,I,kd2,hd,u,w,kl,us,kv,cv,kv2,hv,n,d,kind,J5,own,J0,J1,rooms,rooms',ds,ds',rfl,hD,d4,St,Dy,hu,hsu,hzu,hw,hsw,hzw,hk,hin,zk,hn,k⟩:=h;obtain⟨dx,fs,g0,l1,l2,l3,l4⟩:=St.ob;have mo:=St.md.ks.mach.ok;have mo':=St.ks.mach.ok;have z1:=mo.asks4;have z2:=mo.says4;have z3:=mo.rooms26;have z4:=mo'.rooms26;refine⟨_,rfl,x,dx,fs,rfl,Dy.ks.same _ _ g0,l4 "places" (by decide +kernel) (by decide +kernel) (by decide +kernel) (by decide +kernel),_,rfl,_,rfl,_,rfl,H0,x,mx,sl,y,M,kd,cd,y2,I,kd2,hd,u,w,kl,us,kv,cv,kv2,hv,n,kind,J5,own,J0,J1,rooms,rooms',ds,ds',rfl,St,Dy,hu,hsu,hzu,hw,hsw,hzw,hk,hin,zk,by omega,fun l ps kv1 kv21 H1 hl hP Dy1 kp1=>⟨l,rfl,⟨_,ax.of hl⟩,fun f hf=>?_⟩⟩;refine bh (xs:=ps.map V.ref) (fun i vs H'=>∃(kv' cv' kv2' hv':List (TK×V)),vs=((kind.take i).map fun sg=>sprM J0 J1 rooms rooms' ds ds' d (behF rooms' ds' own sg) (behF rooms ds J5 sg)).map V.int/\H' f=some (.lst vs)/\Kp H1 H'/\eJ H0 H' kd cd kd2 hd kv' cv' kv2' hv' J0 J1 rooms rooms' ds ds' (n+2+i * hB d))
  ⟨kv1,cv,kv21,hv,rfl,aa,ab.kp (ab.new hf),(Dy1.up (ab.new hf)).more (by omega)⟩ (fun i vs H' _ ⟨_,_,_,_,_,h',kp',_⟩=>⟨h',ax.of (kp' _ _ hl rfl)⟩) ?_ ?_
 rotate_left
 ·rintro i vs H2 z hz hi ⟨kv',cv',kv2',hv',rfl,f2,kp2,Dy2⟩;obtain⟨p,hp,rfl⟩:=bQ hz;obtain⟨q,hq,v1,w1,e,fv,fw⟩:=Paired.getL hP hp;rw[cS]at hq;obtain⟨sg,hsg,rfl⟩:=kq.1 hq;have il:i<kind.length:=(bP.1 hsg).1;have mul:(i+1) * hB d=i * hB d+hB d:=im _ _;have mul5:(i+1) * hB d<=5 * hB d:=c8 _ (by omega);refine⟨p,_,rfl,bA.of (kp2 _ _ e rfl),rfl,_,_,rfl,_,_,rfl,rfl,lK ?_⟩;refine⟨_,rfl,x,dx,fs,rfl,Dy2.ks.same _ _ g0,l4 "harmless_at" (by decide +kernel) (by decide +kernel) (by decide +kernel) (by decide +kernel),_,rfl,_,rfl,_,rfl,_,_,rfl,rfl,H0,x,mx,sl,y,M,kd,cd,y2,I,kd2,hd,v1,w1,us,kv',cv',kv2',hv',_,d,behF rooms ds J5 sg,behF rooms' ds' own sg,J0,J1,rooms,rooms',ds,ds',?_,hD,St,Dy2,fv.kt kp2.kt,sS hsu,jq (by omega) hzu,fw.kt kp2.kt,sS hsw,jq (by omega) hzw,by omega,fun kv3 cv3 kv23 hv3 H3 Dy3 kp3=>?_⟩
  ·show[V.ref x,v1,w1,V.int (((d+1:Nat):Int)-1)]=_;rw[show(((d+1:Nat):Int)-1)=(d:Nat) by omega]
  have f3:=kp3 _ _ f2 rfl;refine⟨f3,?_,ke hi ⟨kv3,cv3,kv23,hv3,?_,aa,?_,?_⟩⟩
  ·rw[ah,ah,az];exact am (by omega)
  ·rw[take_snoc hsg,aq,aq];rfl
  ·exact fun b o e no=>by rw[ai (ae e hf)];exact kp3 _ _ (kp2 _ _ e no) no
  ·exact(Dy3.more (m:=n+2+(i+1) * hB d) (by omega)).cell (Dy1.ks.same.free hf) f3
 ·rintro vs H2 ⟨kv',cv',kv2',hv',rfl,f2,kp2,Dy2⟩;have zp:ps.length=kind.length:=by rw[Paired.length hP,ah]
  rw[ah,zp,aT]at f2;rw[ah,zp]at Dy2;have m5:kind.length * hB d<=5 * hB d:=c8 _ zk;refine⟨f,_,bB d,rfl,f2,fun z hz'=>?_,by have:=AW d d4;omega,by rw[ah];omega,k kv' cv' kv2' hv' H2 (Dy2.more (by omega)) (kp1.trans kp2)⟩;obtain⟨sg,_,rfl⟩:=aL.1 hz';exact rQ _ _ _ _ _ _ z1 z2 d _ _
theorem FY{K:Za}{Cm Ck Cd Cb:Addr}(c:BC K Cb){D:Nat}{spO:Sp}(d5:D<=4)(hO:∀m,D=m+1->spO=rR K Cm Ck Cd Cb m){vs:List V}{H:Hp}{Q:VK}{E:XK}(h:mI Cm Ck Cd Cb D vs H Q E):j_ K Cd (je K Cm Ck Cd) Cb spO (gG Cm Ck Cd 4) (bd Q) (start ki vs) H:=by
 obtain⟨H0,x,mx,sl,y,M,kd,cd,y2,I,kd2,hd,v,w,us,kv,cv,kv2,hv,n,d,J5,own,J0,J1,rooms,rooms',ds,ds',rfl,hD,St,Dy,fv,hsu,hzu,fw,hsw,hzw,hn,k⟩:=h;obtain⟨dx,fs,g0,l1,l2,l3,l4⟩:=St.ob;obtain⟨dm,fm,gm,_,_,_,m4⟩:=St.md.ob;have mo:=St.md.ks.mach.ok;have z1:=mo.asks4;have z2:=mo.says4;have nh:=FG d;refine⟨_,rfl,_,rfl,?_⟩;rcases fw with⟨rfl,rfl⟩|⟨wa,rfl,nw,hw⟩
 ·refine cj ?_;refine⟨_,rfl,x,Cb,dx,fs,.ref mx,rfl,Dy.ks.same _ _ g0,c.cls,c.a1,l1,mx,dm,fm,rfl,Dy.ks.same _ _ gm,m4 "count_at" (by decide +kernel) (by decide +kernel) (by decide +kernel),_,rfl,_,rfl,exH H (Dr kd cd kv),mx,sl,y,M,kd,cd,us,v,kv,cv,n,d,J5,J0,J1,rooms,ds,rfl,by omega,St.mdM Dy,Dy.md.max,?_,?_,hsu,hzu,by omega,fun kv' cv' H' D' kp' _=>?_⟩
  ·exact fv.imp id fun⟨u,e,_,q⟩=>⟨u,e,q⟩
  ·rcases fv with⟨rfl,_⟩|⟨u,rfl,q,_⟩
   ·exact fun z=>absurd rfl z
   ·exact fun _=>q
  ·have:=k kv' cv' kv2 hv H' ((Dy.step St D' (by omega)).more (by omega)) kp';rw[vV]at this;exact this
 refine bS ?_;refine⟨_,rfl,_,rfl,?_⟩;rcases fv with⟨rfl,rfl⟩|⟨u,rfl,nf,hu⟩
 ·refine cj ?_;have:=k kv cv kv2 hv H (Dy.more (by omega)) (fun _ _ e _=>e);rw[rP _ _ _ _ _ _ d nw]at this;exact this
 refine bS ?_;refine⟨_,rfl,rfl,_,rfl,?_⟩
 match d,hD,hn,k with
 |0,_,_,k =>
  refine cj ?_;have:=k kv cv kv2 hv H (Dy.more (by omega)) (fun _ _ e _=>e);rw[rN _ _ _ _ _ _ nw nf]at this;exact this
 |d+1,hD,hn,k =>
 rw[zzr0 (by intro z;injection z with z;omega)];refine bS ?_;obtain⟨m,rfl⟩:∃m,D=m+1:=⟨D-1,by omega⟩;cases hO m rfl;have eq:=rO J0 J1 rooms rooms' ds ds' d nw nf;have nb:hB (d+1)=12+25 * hB d:=rfl;have fin:∀{kv' cv' kv2' hv':List (TK×V)}{H':Hp}{σ4:Option V},eJ H0 H' kd cd kd2 hd kv' cv' kv2' hv' J0 J1 rooms rooms' ds ds' (n+hB (d+1))->Kp H H'->aU hv' (n5 J5 own (d+1))=some (.int (sprM J0 J1 rooms rooms' ds ds' (d+1) own J5))->(a_ (fW K (eN K V0 "known_harmless") (bo (bX V1 V2 V3)))) (bd Q) [some (.ref x),some (.ref u),some (.ref wa),some (.int ((d+1:Nat))),σ4] H':=by
  intro kv' cv' kv2' hv' H' σ4 D' kp' v';refine⟨_,rfl,x,Cb,dx,fs,.ref hd,rfl,D'.ks.same _ _ g0,c.cls,c.a3,l3,_,rfl,_,rfl,_,rfl,(by show 3<=aj;decide),fun p hp=>?_⟩;have S:ab H' (upd H' p (.tup [.ref u,.ref wa,.int ((d+1:Nat))])):=ab.new hp;have tk:=pd (d:=d+1) (aa (H:=H') (a:=p)) (S _ _ (kp' _ _ hu rfl)) (S _ _ (kp' _ _ hw rfl));exact⟨hd,_,rfl,.inr ⟨_,n5 J5 own (d+1),p,.inl (S _ _ D'.hhd),rfl,cC.isIn 8 (dz _ _ _) tk,dz _ _ _,v'.symm⟩,k kv' cv' kv2' hv' _ (D'.up S) (kp'.trans (ab.kp S))⟩
 refine⟨_,rfl,_,rfl,_,rfl,(by show 3<=aj;decide),fun p hp=>?_⟩;have S:ab H (upd H p (.tup [.ref u,.ref wa,.int ((d+1:Nat))])):=ab.new hp;have tk:=pd (d:=d+1) (aa (H:=H) (a:=p)) (S _ _ hu) (S _ _ hw);generalize upd H p (.tup [.ref u,.ref wa,.int ((d+1:Nat))])=H1 at S tk ⊢;have D1:=Dy.up S;refine⟨_,rfl,x,Cb,dx,fs,.ref hd,rfl,D1.ks.same _ _ g0,c.cls,c.a3,l3,hd,_,rfl,.inr ⟨_,n5 J5 own (d+1),p,.inl D1.hhd,rfl,cC.isIn 8 (dz _ _ _) tk,dz _ _ _,rfl⟩,_,rfl,?_⟩;cases hval:aU hv (n5 J5 own (d+1))with
 |some w' =>
  refine bS ?_;exact fin (D1.more (by omega)) (ab.kp S) (by rw[hval,Dy.val hval])
 |none =>
  refine cj ?_;refine⟨_,rfl,x,Cb,dx,fs,.ref mx,rfl,D1.ks.same _ _ g0,c.cls,c.a1,l1,mx,dm,fm,rfl,D1.ks.same _ _ gm,m4 "kinds_at" (by decide +kernel) (by decide +kernel) (by decide +kernel),_,rfl,exH H1 (Dr kd cd kv),mx,sl,y,M,kd,cd,u,us,kv,cv,n,J5,J0,J1,rooms,ds,rfl,St.mdM D1,D1.md.max,S _ _ hu,hsu,hzu,by omega,fun l ks kv1 H2 hl hK E2 kp2 _=>⟨l,rfl,⟨_,ax.of hl⟩,fun f hf=>?_⟩⟩;have D2:=D1.step St E2 (by omega);have u2:=kp2 _ _ (S _ _ hu) rfl;have w2:=kp2 _ _ (S _ _ hw) rfl;have kl:=lC (J1:=J1) (rooms:=rooms) (ds:=ds) (J5:=J5) z1;refine bh (xs:=ks.map V.ref) (fun i vs H'=>∃(kv' cv' kv2' hv':List (TK×V)),vs=(((kindsF J0 J1 rooms ds J5).take i).map fun k=>eO (k.map fun sg=>sprM J0 J1 rooms rooms' ds ds' d (behF rooms' ds' own sg) (behF rooms ds J5 sg))).map V.int/\H' f=some (.lst vs)/\Kp H2 H'/\eJ H0 H' kd cd kd2 hd kv' cv' kv2' hv' J0 J1 rooms rooms' ds ds' (n+1+i * (2+5 * hB d)))
   ⟨kv1,cv,kv2,hv,rfl,aa,ab.kp (ab.new hf),(D2.up (ab.new hf)).more (by omega)⟩ (fun i vs H' _ ⟨_,_,_,_,_,h',kp',_⟩=>⟨h',ax.of (kp' _ _ hl rfl)⟩) ?_ ?_
  rotate_left
  ·rintro i vs H3 z hz hi ⟨kv3,cv3,kv23,hv3,rfl,f3,kp3,D3⟩;obtain⟨q,hq,rfl⟩:=bQ hz;obtain⟨kind,hkd,hat⟩:=Paired.getL hK hq;have il:i<(kindsF J0 J1 rooms ds J5).length:=(bP.1 hkd).1;obtain⟨e1,e2⟩:=lA (bJ hkd);have mul:(i+1) * (2+5 * hB d)=i * (2+5 * hB d)+(2+5 * hB d):=im _ _;have mul5:(i+1) * (2+5 * hB d)<=5 * (2+5 * hB d):=c8 _ (by omega);refine gN (lK ?_);refine⟨_,rfl,x,dx,fs,rfl,D3.ks.same _ _ g0,l4 "harmless_of" (by decide +kernel) (by decide +kernel) (by decide +kernel) (by decide +kernel),_,rfl,_,rfl,_,rfl,_,rfl,H0,x,mx,sl,y,M,kd,cd,y2,I,kd2,hd,u,wa,q,us,kv3,cv3,kv23,hv3,_,d,kind,J5,own,J0,J1,rooms,rooms',ds,ds',rfl,by omega,by omega,St,D3,kp3 _ _ u2 rfl,hsu,hzu,kp3 _ _ w2 rfl,hsw,hzw,hat.kp kp3,e2,by omega,by omega,fun kv4 cv4 kv24 hv4 H4 D4 kp4=>?_⟩;have f4:=kp4 _ _ f3 rfl;refine⟨f4,?_,ke hi ⟨kv4,cv4,kv24,hv4,?_,aa,?_,?_⟩⟩
   ·rw[ah,ah,az];exact am (by omega)
   ·rw[take_snoc hkd,aq,aq];rfl
   ·exact fun b o e no=>by rw[ai (ae e hf)];exact kp4 _ _ (kp3 _ _ e no) no
   ·exact(D4.more (m:=n+1+(i+1) * (2+5 * hB d)) (by omega)).cell (D2.ks.same.free hf) f4
  ·rintro vs H3 ⟨kv3,cv3,kv23,hv3,rfl,f3,kp3,D3⟩;rw[ah,Paired.length hK,aT]at f3;rw[ah,Paired.length hK]at D3;have m5:(kindsF J0 J1 rooms ds J5).length * (2+5 * hB d)<=5 * (2+5 * hB d):=c8 _ kl;have D3':eJ H0 H3 kd cd kd2 hd kv3 cv3 kv23 hv3 J0 J1 rooms rooms' ds ds' (n+11+25 * hB d):=D3.more (by omega);have kp13:Kp H H3:=(ab.kp S).trans (kp2.trans kp3);refine⟨_,rfl,f,_,rfl,ax.of f3,_,_,rfl,rfl,_,rfl,x,Cb,dx,fs,.ref hd,rfl,D3.ks.same _ _ g0,c.cls,c.a3,l3,_,rfl,_,rfl,_,rfl,(by show 3<=aj;decide),fun p2 hp2=>?_⟩;have S4:ab H3 (upd H3 p2 (.tup [.ref u,.ref wa,.int ((d+1:Nat))])):=ab.new hp2;have tk4:=pd (d:=d+1) (aa (H:=H3) (a:=p2)) (S4 _ _ (kp13 _ _ hu rfl)) (S4 _ _ (kp13 _ _ hw rfl));generalize upd H3 p2 (.tup [.ref u,.ref wa,.int ((d+1:Nat))])=H4 at S4 tk4 ⊢;have D4:=D3'.up S4;have cl:=D4.hlen;refine⟨hd,_,rfl,.inr ⟨_,n5 J5 own (d+1),p2,D4.hhd,rfl,tk4,dz _ _ _,by rw[pL];omega,rfl⟩,?_⟩;dsimp only;rw[<-eq];have D5:=D4.put (J5:=J5) (own:=own) (d:=d+1) St;exact fin (D5.more (by omega)) ((kp13.trans (ab.kp S4)).trans (Kp.upd D4.hhd rfl)) (by rw[fB,if_pos rfl])
inductive lm(Cm Ck Cd Cb:Addr)(vs:List V)(H:Hp)(Q:VK)(E:XK):Prop
 |mk (H0:Hp) (x dx M I:Addr) (J0 J1 rooms rooms':Zb) (ds ds':List ak):(vs=[.ref x,.ref M,.ref I])->(H x=some (.ins Cb dx []))->(aW Cm H0 M J0 J1 rooms ds)->(aW Cm H0 I J0 J1 rooms' ds')->(H0 x=none)->(ab H0 H) ->
  (∀(Hs:Hp) (mx sl y kd cd y2 kd2 hd:Addr) (us:Ze) (H':Hp),s_ Cm Ck Cd Cb Hs x mx sl y M kd cd y2 I kd2 hd us J0 J1 rooms rooms' ds ds'->eJ Hs H' kd cd kd2 hd [] [] [] [] J0 J1 rooms rooms' ds ds' 0->ab H0 Hs->Q .non H')->lm Cm Ck Cd Cb vs H Q E
theorem BA{K:Za}{Cm Ck Cd Cb:Addr}(c:BC K Cb){vs:List V}{H:Hp}{Q:VK}{E:XK}(h:lm Cm Ck Cd Cb vs H Q E):mD K Ck (jf Ck) Cd (lg Cm Ck Cd) (bd Q) (start mZ vs) H:=by
 obtain⟨H0,x,dx,M,I,J0,J1,rooms,rooms',ds,ds',rfl,hx,MA,IA,hx0,S0,k⟩:=h;have up:∀{H1 H2:Hp}{o:HO},ab H0 H1->H2=upd H1 x o->ab H0 H2:=fun S e b o q=>by rw[e,ai (ae q hx0)];exact S _ _ q
 refine⟨_,rfl,fun mx dm hmx hdm nem=>?_⟩;have Sm:ab H (upd (upd H dm (.own mx)) mx (.ins Cd dm [])):=fun b o e=>by rw[ai (ae e hmx)];exact kp e hdm
 refine⟨H,mx,dm,M,J0,J1,rooms,ds,rfl,aa,MA.same S0,hmx,Sm,fun Hs1 sl y kd cd us H1 St1 Dy1 S1=>⟨rfl,?_⟩⟩;have S11:ab H H1:=S1.trans Dy1.ks.same;have hx1:=S11 _ _ hx;obtain⟨dxm,fsm,gm,p1,p2,p3,p4⟩:=St1.ob;obtain⟨dy,fy,gy,q1,q2,q3⟩:=St1.ks.ob;refine⟨_,rfl,x,Cb,dx,[],rfl,hx1,c.cls,c.a1,(by decide),?_⟩;obtain⟨H2,e2,hx2,X2⟩:=kU "made" (.ref mx) hx1;rw[<-e2];have S2:=up (S0.trans S11) e2;have len1:(cp ("made":Str) (.ref mx) []).length<=1:=cI _ _ _;refine⟨_,rfl,fun y2 dy2 hy2 hdy2 ne2=>?_⟩;have S3:ab H2 (upd (upd H2 dy2 (.own y2)) y2 (.ins Ck dy2 [])):=fun b o e=>by rw[ai (ae e hy2)];exact kp e hdy2
 generalize hH3:upd (upd H2 dy2 (.own y2)) y2 (.ins Ck dy2 [])=H3 at S3 ⊢;have y23:H3 y2=some (.ins Ck dy2 []):=by rw[<-hH3];exact aa
 refine⟨y2,dy2,I,rfl,y23,fun kd2 fy2 H4 y24 m1 m2 m3 kd24 kd2n ex4=>⟨rfl,?_⟩⟩;have n4:∀{b:Addr}{o:HO},H2 b=some o->H4 b=some o:=fun e=>ex4 _ _ (S3 _ _ e) (ae e hy2);have hx4:=n4 hx2;refine⟨_,rfl,x,Cb,dx,_,rfl,hx4,c.cls,c.a2,by omega,?_⟩;obtain⟨H5,e5,hx5,X5⟩:=kU "own_steps" (.ref y2) hx4;rw[<-e5];have S5:ab H0 H5:=up (fun b o e=>n4 (S2 _ _ e)) e5;have len2:=cI ("own_steps":Str) (.ref y2) (cp ("made":Str) (.ref mx) []);refine fun hd hhd=>⟨_,rfl,x,Cb,dx,_,rfl,kp hx5 hhd,c.cls,c.a3,by omega,?_⟩;obtain⟨H7,e7,hx7,X7⟩:=kU "known_harmless" (.ref hd) (kp (x:=.dT []) hx5 hhd);rw[<-e7];have S7:ab H0 H7:=up (S5.trans (ab.new hhd)) e7;have len3:=cI ("known_harmless":Str) (.ref hd) (cp ("own_steps":Str) (.ref y2) (cp ("made":Str) (.ref mx) []));refine fun fd hfd=>⟨_,rfl,x,Cb,dx,_,rfl,kp hx7 hfd,c.cls,c.a4,by omega,?_⟩;obtain⟨H9,e9,hx9,X9⟩:=kU "known_firsts" (.ref fd) (kp (x:=.dT []) hx7 hfd);rw[<-e9];have S9:ab H0 H9:=up (S7.trans (ab.new hfd)) e9;have n59:∀{b:Addr}{o:HO},H5 b=some o->b≠x->H9 b=some o:=fun e n=>X9 _ _ (kp (X7 _ _ (kp e hhd) n) hfd) n;have n29:∀{b:Addr}{o:HO},H2 b=some o->b≠x->H9 b=some o:=fun e n=>n59 (X5 _ _ (n4 e) n) n;have n19:∀{b:Addr}{o:HO},H1 b=some o->b≠x->H9 b=some o:=fun e n=>n29 (X2 _ _ e n) n;have ny2:y2≠x:=(ae hx2 hy2).symm;have nk2:kd2≠x:=(ae (S3 _ _ hx2) kd2n).symm;have nhd:hd≠x:=(ae hx5 hhd).symm;have nkd:kd≠x:=fun z=>by have:=Dy1.ks.hkd;rw[z,hx1]at this;cases this
 have ncd:cd≠x:=fun z=>by have:=Dy1.hcd;rw[z,hx1]at this;cases this
 have kd9:=n19 Dy1.ks.hkd nkd;have cd9:=n19 Dy1.hcd ncd;have k29:=n59 (X5 _ _ kd24 nk2) nk2;have hd9:H9 hd=some (.dT []):=X9 _ _ (kp (X7 _ _ aa nhd) hfd) nhd;have y29:=n59 (X5 _ _ y24 ny2) ny2;have kd20:H0 kd2=none:=(S2.trans S3).free kd2n;have hd0:H0 hd=none:=S5.free hhd;have e1:kd2≠kd:=fun z=>by rw[z]at kd2n;have:=S3 _ _ (X2 _ _ Dy1.ks.hkd nkd);rw[kd2n]at this;cases this
 have e2':kd2≠cd:=fun z=>by rw[z]at kd2n;have:=S3 _ _ (X2 _ _ Dy1.hcd ncd);rw[kd2n]at this;cases this
 have e3:hd≠kd:=fun z=>by rw[z]at hhd;have:=X5 _ _ (n4 (X2 _ _ Dy1.ks.hkd nkd)) nkd;rw[hhd]at this;cases this
 have e4:hd≠cd:=fun z=>by rw[z]at hhd;have:=X5 _ _ (n4 (X2 _ _ Dy1.hcd ncd)) ncd;rw[hhd]at this;cases this
 have e5':hd≠kd2:=fun z=>by rw[z]at hhd;have:=X5 _ _ kd24 nk2;rw[hhd]at this;cases this
 have kd0:H0 kd=none:=(S0.trans S1).free St1.ks.kdn;have cd0:H0 cd=none:=(S0.trans S1).free St1.cdn;have SH:ab H0 (exH H9 fun b=>b=kd∨b=cd∨b=kd2∨b=hd):=sK S9 fun b z=>by rcases z with rfl|rfl|rfl|rfl<;>assumption
 have st:∀{b:Addr}{o:HO},H9 b=some o->GQ o=true->exH H9 (fun b=>b=kd∨b=cd∨b=kd2∨b=hd) b=some o:=fun e n=>by
  rw[n_ (fun z=>?_)]
  ·exact e
  ·rcases z with rfl|rfl|rfl|rfl
   ·rw[kd9]at e;cases e;cases n
   ·rw[cd9]at e;cases e;cases n
   ·rw[k29]at e;cases e;cases n
   ·rw[hd9]at e;cases e;cases n
 have SS:ab (exH H9 fun b=>b=kd∨b=cd∨b=kd2∨b=hd) H9:=xR;generalize hHs:exH H9 (fun b=>b=kd∨b=cd∨b=kd2∨b=hd)=Hs at SH st SS;have out:∀b,(b=kd∨b=cd∨b=kd2∨b=hd)->Hs b=none:=fun b z=>by rw[<-hHs];exact pf z
 have ins:∀{b C' d':Addr}{fs:List (Str×V)}{f:Str}{v:V},H1 b=some (.ins C' d' fs)->lk f fs=some v->b≠x:=fun e l z=>by
  rw[z,hx1]at e;cases e;cases l
 have kt:iB Hs1 Hs:=fun b xs e=>st (n19 (Dy1.ks.same _ _ e) fun z=>by have:=Dy1.ks.same _ _ e;rw[z,hx1]at this;cases this) rfl;have gm1:=Dy1.ks.same _ _ gm;have gy1:=Dy1.ks.same _ _ gy;have sl1:=Dy1.ks.same _ _ St1.hsl;refine k Hs mx sl y kd cd y2 kd2 hd us H9 ⟨⟨⟨MA.same SH,⟨dy,fy,st (n19 gy1 (ins gy1 q1)) rfl,q1,q2,q3⟩,out _ (.inl rfl)⟩,⟨dxm,fsm,st (n19 gm1 (ins gm1 p1)) rfl,p1,p2,p3,p4⟩,st (n19 sl1 fun z=>by rw[z,hx1]at sl1;cases sl1) rfl,jM.kt kt St1.sg,out _ (.inr (.inl rfl)),St1.ne⟩,⟨IA.same SH,⟨dy2,fy2,st y29 rfl,m1,m2,m3⟩,out _ (.inr (.inr (.inl rfl)))⟩,⟨dx,_,st hx9 rfl,?_,?_,?_,?_⟩,out _ (.inr (.inr (.inr rfl))),⟨e1,e2'⟩,⟨e3,e4,e5'⟩⟩
  ⟨⟨⟨SS,kd9,fun _ h=>(by cases h),aA _⟩,fun _ h=>(by cases h),cd9,fun _ h=>(by cases h),aA _⟩,⟨SS,k29,fun _ h=>(by cases h),aA _⟩,hd9,fun _ h=>(by cases h),aA _,fun _ _ h=>(by cases h),fun _ _ h=>(by cases h)⟩ SH
 ·show eC _ _=_;repeat (rw[aO];first|rw[if_pos rfl] | rw[if_neg (by decide +kernel)])
 ·show eC _ _=_;repeat (rw[aO];first|rw[if_pos rfl] | rw[if_neg (by decide +kernel)])
 ·show eC _ _=_;repeat (rw[aO];first|rw[if_pos rfl] | rw[if_neg (by decide +kernel)])
 ·intro f r1 r2 r3 r4;show eC _ _=_;rw[aO,if_neg r4,aO,if_neg r3,aO,if_neg r2,aO,if_neg r1];rfl
inductive nL(Cm:Addr)(vs:List V)(H:Hp)(Q:VK)(E:XK):Prop
 |mk (M I:Addr) (d:Nat) (J0 J1 rooms rooms':Zb) (ds ds':List ak):(vs=[.ref M,.int (d:Nat),.ref I])->(d<=4)->(aW Cm H M J0 J1 rooms ds)->(aW Cm H I J0 J1 rooms' ds')->(∀r∈rooms',∀a∈J0,fX ds' r a)->(∀H',ab H H'->Q (.int (cntM J0 J1 rooms ds d (closF rooms ds (rooms.take 1))-sprM J0 J1 rooms rooms' ds ds' d (closF rooms' ds' (rooms'.take 1)) (closF rooms ds (rooms.take 1)))) H')->nL Cm vs H Q E
theorem GW:∀d,d<=4->hB d<=300000:=by
 intro d hd
 match d,hd with
 |0,_=>decide
 |1,_=>decide
 |2,_=>decide
 |3,_=>decide
 |4,_=>decide
theorem CQ{K:Za}{Cm Ck Cd Cb:Addr}(c:BC K Cb){vs:List V}{H:Hp}{Q:VK}{E:XK}(h:nL Cm vs H Q E):oR K Cd (gG Cm Ck Cd 4) Cb (mI Cm Ck Cd Cb 4) (cL Cm) (lm Cm Ck Cd Cb) dv (fF Cm) (bd Q) (start pq vs) H:=by
 obtain⟨M,I,d,J0,J1,rooms,rooms',ds,ds',rfl,hd,MA,IA,tk,k⟩:=h;have z3:=MA.ok.rooms26;have z4:=IA.ok.rooms26;refine⟨_,rfl,_,rfl,M,I,J0,J1,rooms,rooms',ds,ds',rfl,MA,IA,tk,fun H1 S1=>?_⟩;refine⟨_,rfl,d,rfl,hd,?_⟩;have M1:=MA.same S1;have I1:=IA.same S1;refine⟨_,rfl,_,rfl,fun x dx hx hdx ne=>?_⟩;have S2:ab H1 (upd (upd H1 dx (.own x)) x (.ins Cb dx [])):=fun b o e=>by rw[ai (ae e hx)];exact kp e hdx
 refine⟨H1,x,dx,M,I,J0,J1,rooms,rooms',ds,ds',rfl,aa,M1,I1,hx,S2,fun Hs mx sl y kd cd y2 kd2 hd' us H3 St Dy S3=>⟨rfl,?_⟩⟩;obtain⟨dx1,fs1,g1,l1,_,_,l4⟩:=St.ob;obtain⟨dm,fm,gm,_,_,_,m4⟩:=St.md.ob;refine⟨_,rfl,M,J0,J1,rooms,ds,rfl,St.md.ks.mach.same Dy.ks.same,fun t F H4 ht hF S4=>?_⟩;rw[kZ hF]at ht;have Dy4:=Dy.up S4;have b1:=GR d hd;have b2:=GW d hd;have ne1:=xY (ds:=ds) MA.ok.rooms0;have ne2:=xY (ds:=ds') IA.ok.rooms0;refine⟨_,rfl,x,Cb,dx1,fs1,.ref mx,rfl,Dy4.ks.same _ _ g1,c.cls,c.a1,l1,mx,dm,fm,rfl,Dy4.ks.same _ _ gm,m4 "count_at" (by decide +kernel) (by decide +kernel) (by decide +kernel),_,rfl,_,rfl,exH H4 (Dr kd cd []),mx,sl,y,M,kd,cd,us,.ref t,[],[],0,d,_,J0,J1,rooms,ds,rfl,hd,St.mdM Dy4,Dy4.md.max,.inr ⟨t,rfl,ht⟩,fun _=>ne1,lH,aD gh (by omega),by omega,fun kv5 cv5 H5 D5 kp5 _=>?_⟩;have Dy5:=Dy4.step St D5 (by omega);refine⟨_,rfl,x,dx1,fs1,rfl,Dy5.ks.same _ _ g1,l4 "harmless_at" (by decide +kernel) (by decide +kernel) (by decide +kernel) (by decide +kernel),_,rfl,_,rfl,I,J0,J1,rooms',ds',rfl,St.ks.mach.same Dy5.ks.same,fun t' F' H6 ht' hF' S6=>?_⟩;rw[kZ hF']at ht';refine⟨_,rfl,Hs,x,mx,sl,y,M,kd,cd,y2,I,kd2,hd',.ref t,.ref t',us,kv5,cv5,[],[],0+nB d,d,_,_,J0,J1,rooms,rooms',ds,ds',rfl,hd,St,Dy5.up S6,.inr ⟨t,rfl,ne1,S6 _ _ (kp5 _ _ ht rfl)⟩,lH,aD gh (by omega),.inr ⟨t',rfl,ne2,ht'⟩,lH,aD gh (by omega),by omega,fun kv7 cv7 kv27 hv7 H7 D7 _=>⟨_,_,rfl,rfl,k H7 ((S1.trans S3).trans D7.ks.same)⟩⟩
def yh(J0 J1 rooms rooms':Zb)(ds ds':List ak)(p:TK×V):Prop:=∃(own J5:Zb) (d:Nat),p=(n5 own J5 d,.int (sprM J0 J1 rooms rooms' ds ds' d own J5))
theorem rU{J0 J1 rooms rooms':Zb}{ds ds':List ak}:Go (yh J0 J1 rooms rooms' ds ds'):=by
 rintro p ⟨own,J5,d,rfl⟩;refine⟨fun f s e=>?_,fun f d e=>?_⟩
 ·have e:n5 own J5 d=uR f s:=e;unfold n5 uR at e;injection e with e;injection e with _ e;injection e with _ e;cases e
 ·rename_i d0;have e:n5 own J5 d0=oo f d:=e;unfold n5 oo at e;injection e with e;injection e with _ e;injection e with _ e;cases e
theorem yh.val{J0 J1 rooms rooms' own J5:Zb}{ds ds':List ak}{H:Hp}{kd:Addr}{kv:List (TK×V)}{n d:Nat}{w:V}(h:cO (yh J0 J1 rooms rooms' ds ds') H kd kv J0 J1 rooms ds n)(v:aU kv (n5 own J5 d)=some w):w=.int (sprM J0 J1 rooms rooms' ds ds' d own J5):=by
 have ok:=rU (J0:=J0) (J1:=J1) (rooms:=rooms) (rooms':=rooms') (ds:=ds) (ds':=ds') _ ⟨own,J5,d,rfl⟩;rcases h.kok _ (eM v)with⟨f,s,u,e,_⟩|⟨f,d',e⟩|⟨o',f',d',e⟩
 ·injection e with e _;exact absurd e (ok.1 f s)
 ·injection e with e _;exact absurd e (ok.2 f d')
 ·injection e with e1 e2;obtain⟨rfl,rfl,rfl⟩:=AM e1;exact e2
inductive ga(K:Za)(D:Nat)(vs:List V)(H:Hp)(Q:VK)(E:XK):Prop
 |mk (H0:Hp) (t l1 l2 l3 l4 t' m1 m2 m3 m4 kd ow fu:Addr) (ts ts':Ze) (kv:List (TK×V)) (n d:Nat) (own J5 J0 J1 rooms rooms':Zb) (ds ds':List ak):(vs=[.ref t,.ref t',.ref kd,.ref ow,.ref fu,.int (d:Nat)])->(d<=D)->(fT H0 t l1 l2 l3 l4 ts J0 J1 rooms ds)->(aG J0 J1 rooms ds)->(fT H0 t' m1 m2 m3 m4 ts' J0 J1 rooms' ds')->(aG J0 J1 rooms' ds')->(H0 kd=none)->(ab H0 H)->(cO (yh J0 J1 rooms rooms' ds ds') H kd kv J0 J1 rooms ds n)->(H ow=some (.tup (own.map V.str)))->(own.length<=1000)->(H fu=some (.tup (J5.map V.str)))->(J5.length<=1000)->(n+lB d<=8000000) ->
  (∀(kv':List (TK×V)) (H':Hp),cO (yh J0 J1 rooms rooms' ds ds') H' kd kv' J0 J1 rooms ds (n+lB d)->bu kd H H'->Q (.int (sprM J0 J1 rooms rooms' ds ds' d own J5)) H')->ga K D vs H Q E
theorem Bq{K:Za}{D:Nat}{spR:Sp}(d5:D<=4)(hR:∀m,D=m+1->spR=ga K m){vs:List V}{H:Hp}{Q:VK}{E:XK}(h:ga K D vs H Q E):vF K (kJ K) sp_product kG spR (jh K) (rT K) (iH K 4) (bd Q) (start wJ vs) H:=by
 obtain⟨H0,t,l1,l2,l3,l4,t',m1,m2,m3,m4,kd,ow,fu,ts,ts',kv,n,d,own,J5,J0,J1,rooms,rooms',ds,ds',rfl,hD,T,m,T',m',h0,S0,Dy,ho,zo,hf,zf,hn,k⟩:=h;have z1:=m.asks4;have z2:=m.says4;have z3:=m.rooms26;have z4:=m'.rooms26;refine⟨_,rfl,(by show 0<=aj;decide),fun e he=>⟨lT own,lT [],bt (bA.of (kp ho he)),bt (bA.of aa),by rw[bW];decide,by rw[bW];decide,_,rfl,?_⟩⟩;rw[hW];have Se:ab H (upd H e (.tup [])):=ab.new he;generalize upd H e (.tup [])=He at Se ⊢;have De:=Dy.up Se;by_cases no:own=[]
 ·rw[zzr1 no];refine cj ?_;refine⟨_,rfl,_,rfl,_,rfl,_,rfl,yh J0 J1 rooms rooms' ds ds',rU,H0,t,l1,l2,l3,l4,kd,fu,ts,kv,n,d,J5,J0,J1,rooms,ds,rfl,by omega,T,m,h0,S0.trans Se,De,Se _ _ hf,zf,hn,fun kv' H' D' ex=>?_⟩;have:=k kv' H' D' ((ab.exBs Se).trs ex);rw[no,vV]at this;exact this
 rw[zzr0 no];refine bS ?_;refine⟨_,rfl,(by show 0<=aj;decide),fun e2 he2=>⟨lT J5,lT [],bt (bA.of (kp (Se _ _ hf) he2)),bt (bA.of aa),by rw[bW];decide,by rw[bW];decide,_,rfl,?_⟩⟩;rw[hW];have Sf:ab He (upd He e2 (.tup [])):=ab.new he2;generalize upd He e2 (.tup [])=Hf at Sf ⊢;have Df:=De.up Sf;have Sef:=Se.trans Sf;by_cases nf:J5=[]
 ·rw[zzr1 nf];refine cj ?_;have:=k kv Hf (Df.more (by omega)) (ab.exBs Sef);rw[nf,rP _ _ _ _ _ _ d no]at this;exact this
 rw[zzr0 nf];refine bS ?_;refine⟨_,rfl,rfl,_,rfl,?_⟩
 match d,hD,hn,k with
 |0,_,_,k =>
  refine cj ?_;have:=k kv Hf (Df.more (by omega)) (ab.exBs Sef);rw[rN _ _ _ _ _ _ no nf]at this;exact this
 |d+1,hD,hn,k =>
 rw[zzr0 (by intro z;injection z with z;omega)];refine bS ?_;obtain⟨w,rfl⟩:∃w,D=w+1:=⟨D-1,by omega⟩;cases hR w rfl;have eq:=rO J0 J1 rooms rooms' ds ds' d no nf;have nb:lB (d+1)=30+25 * lB d:=rfl;have fo:=Sef _ _ ho;have ff:=Sef _ _ hf;have S0f:=S0.trans Sef;have fin:∀{kv':List (TK×V)}{H':Hp}{x6 x7 x8 x9 x10:Option V},cO (yh J0 J1 rooms rooms' ds ds') H' kd kv' J0 J1 rooms ds (n+lB (d+1))->bu kd Hf H'->aU kv' (n5 own J5 (d+1))=some (.int (sprM J0 J1 rooms rooms' ds ds' (d+1) own J5))->(a_ (fW K V2 (bo (bX V3 V4 V5)))) (bd Q) [some (.ref t),some (.ref t'),some (.ref kd),some (.ref ow),some (.ref fu),some (.int ((d+1:Nat))),x6,x7,x8,x9,x10] H':=by
  intro kv' H' x6 x7 x8 x9 x10 D' ex v';refine⟨_,rfl,_,rfl,_,rfl,_,rfl,(by show 3<=aj;decide),fun p hp=>?_⟩;have S:ab H' (upd H' p (.tup [.ref ow,.ref fu,.int ((d+1:Nat))])):=ab.new hp;have kt:=bu.ktd Df.hkd ex;have tk:=pd (d:=d+1) (aa (H:=H') (a:=p)) (S _ _ (kt _ _ fo)) (S _ _ (kt _ _ ff));exact⟨kd,_,rfl,.inr ⟨_,n5 own J5 (d+1),p,.inl (S _ _ D'.hkd),rfl,cC.isIn 8 (dz _ _ _) tk,dz _ _ _,v'.symm⟩,k kv' _ (D'.up S) ((ab.exBs Sef).trs (ex.trs (ab.exBs S)))⟩
 refine⟨_,rfl,_,rfl,_,rfl,(by show 3<=aj;decide),fun p hp=>?_⟩;have S:ab Hf (upd Hf p (.tup [.ref ow,.ref fu,.int ((d+1:Nat))])):=ab.new hp;have tk:=pd (d:=d+1) (aa (H:=Hf) (a:=p)) (S _ _ fo) (S _ _ ff);generalize upd Hf p (.tup [.ref ow,.ref fu,.int ((d+1:Nat))])=H1 at S tk ⊢;have D1:=Df.up S;refine⟨_,rfl,kd,_,rfl,.inr ⟨_,n5 own J5 (d+1),p,.inl D1.hkd,rfl,cC.isIn 8 (dz _ _ _) tk,dz _ _ _,rfl⟩,_,rfl,?_⟩;cases hval:aU kv (n5 own J5 (d+1))with
 |some w' =>
  refine bS ?_;exact fin (D1.more (by omega)) (ab.exBs S) (by rw[hval,yh.val D1 hval])
 |none =>
  refine cj ?_;refine⟨_,rfl,_,rfl,_,rfl,yh J0 J1 rooms rooms' ds ds',rU,H0,t,l1,l2,l3,l4,kd,fu,ts,kv,n,J5,J0,J1,rooms,ds,rfl,T,m,h0,S0f.trans S,D1,S _ _ ff,zf,by omega,fun al kv2 H2 hal D2 ex2=>⟨(by show 1<=aj;decide),fun nl hnl=>?_⟩⟩;have za:(askedF J0 rooms ds J5).length<=4:=aD (cB _ _) z1;have S3:ab H2 (upd H2 nl (.lst [.non])):=ab.new hnl;have nl3:upd H2 nl (.lst [.non]) nl=some (.lst [.non]):=aa;generalize upd H2 nl (.lst [.non])=H3 at S3 nl3 ⊢;refine⟨al,nl,_,_,rfl,rfl,S3 _ _ hal,nl3,by rw[ah];exact cZ (am (by show _+1<=1000;omega)),fun cl hcl=>?_⟩;have S4:ab H3 (upd H3 cl (.lst ((askedF J0 rooms ds J5).map V.str++[.non]))):=ab.new hcl;have cl4:upd H3 cl (.lst ((askedF J0 rooms ds J5).map V.str++[.non])) cl=some (.lst (((askedF J0 rooms ds J5).map some++[none]).map t6)):=by
   rw[aa,aq,iR];rfl
  generalize upd H3 cl (.lst ((askedF J0 rooms ds J5).map V.str++[.non]))=H4 at S4 cl4 ⊢;have D4:=(D2.up S3).up S4;have ex4:bu kd Hf H4:=(ab.exBs S).trs (ex2.trs (ab.exBs (S3.trans S4)));have ncl:cl≠kd:=fun z=>by have:=D4.hkd;rw[<-z,cl4]at this;cases this
  generalize hA:((askedF J0 rooms ds J5).map some++[none]:List (Option Str))=A at cl4;have zA:A.length<=5:=by rw[<-hA,aZ,ah];show _+1<=5;omega
  have eA:kindsF J0 J1 rooms ds J5=A.map (iu J1):=by rw[<-hA];exact pY _ _ _ _ _
  rw[eA,iR]at eq;refine⟨cl,rfl,⟨_,ax.of cl4⟩,?_⟩;refine bD (xs:=A.map t6) (fun i σ H'=>∃(kv':List (TK×V)) (x7 x8 x9 x10:Option V),σ=[some (.ref t),some (.ref t'),some (.ref kd),some (.ref ow),some (.ref fu),some (.int ((d+1:Nat))),some (.int (1+((A.take i).map ((fun k=>eO (k.map fun sg=>sprM J0 J1 rooms rooms' ds ds' d (behF rooms' ds' own sg) (behF rooms ds J5 sg))) ∘ iu J1)).sum)),x7,x8,x9,x10]/\cO (yh J0 J1 rooms rooms' ds ds') H' kd kv' J0 J1 rooms ds (n+4+i * (5 * (1+lB d)))/\bu kd H4 H')
   ⟨kv2,_,_,_,_,rfl,D4.more (by omega),bu.refl _ _⟩ (fun i σ H' _ ⟨_,_,_,_,_,_,_,ex⟩=>ax.of (ex _ _ cl4 ncl)) ?_ ?_
  ·rintro i v σ H5 hi ⟨kv5,x7,x8,x9,x10,rfl,D5,ex5⟩;rw[cS]at hi;obtain⟨ask,hask,rfl⟩:=kq.1 hi;have il:i<A.length:=(bP.1 hask).1;have ex05:=ex4.trs ex5;have mul:(i+1) * (5 * (1+lB d))=i * (5 * (1+lB d))+5 * (1+lB d):=im _ _;have mul5:(i+1) * (5 * (1+lB d))<=5 * (5 * (1+lB d)):=c8 _ (by omega);have S05:=bu.sameH S0f h0 ex05;refine⟨(by show 0<=aj;decide),fun sl hsl=>?_⟩;have S6:ab H5 (upd H5 sl (.lst [])):=ab.new hsl;have nsl:sl≠kd:=(ae D5.hkd hsl).symm;have sl0:H0 sl=none:=S05.free hsl;have sl6:upd H5 sl (.lst []) sl=some (.lst []):=aa;generalize upd H5 sl (.lst [])=H6 at S6 sl6 ⊢;refine⟨_,rfl,_,rfl,t,l1,l2,l3,l4,ts,ask,J0,J1,rooms,ds,rfl,(T.same S05).same S6,z2,fun pl us H7 hpl hP S7=>⟨pl,rfl,⟨_,ax.of hpl⟩,?_⟩⟩;have S67:=S6.trans S7;have D7:=D5.up S67;have npl:pl≠kd:=fun z=>by have:=D7.hkd;rw[<-z,hpl]at this;cases this
   have sl7:=S7 _ _ sl6;have zu:us.length=J1.length+1:=by rw[Paired.length hP,ic]
   have npl2:pl≠sl:=fun z=>by
    rw[z,sl7]at hpl;injection hpl with hpl;injection hpl with hpl;rw[List.map_eq_nil_iff.1 hpl.symm]at zu;cases zu
   have S07:=S05.trans S67;have kt5:=bu.ktd Df.hkd ex05;have fo7:=S67 _ _ (kt5 _ _ fo);have ff7:=S67 _ _ (kt5 _ _ ff);refine bD (xs:=us.map V.ref) (fun j σ H'=>∃(kv':List (TK×V)) (x9 x10:Option V),σ=[some (.ref t),some (.ref t'),some (.ref kd),some (.ref ow),some (.ref fu),some (.int ((d+1:Nat))),some (.int (1+((A.take i).map ((fun k=>eO (k.map fun sg=>sprM J0 J1 rooms rooms' ds ds' d (behF rooms' ds' own sg) (behF rooms ds J5 sg))) ∘ iu J1)).sum)),some (t6 ask),some (.ref sl),x9,x10]/\H' sl=some (.lst ((((iu J1 ask).take j).map fun sg=>sprM J0 J1 rooms rooms' ds ds' d (behF rooms' ds' own sg) (behF rooms ds J5 sg)).map V.int))/\cO (yh J0 J1 rooms rooms' ds ds') H' kd kv' J0 J1 rooms ds (n+4+i * (5 * (1+lB d))+j * (1+lB d))/\∀b o,H7 b=some o->b≠kd->b≠sl->H' b=some o)
    ⟨kv5,_,_,rfl,sl7,D7.more (by omega),fun _ _ e _ _=>e⟩ (fun j σ H' _ ⟨_,_,_,_,_,_,ex⟩=>ax.of (ex _ _ hpl npl npl2)) ?_ ?_
   ·rintro j v σ H8 hj ⟨kv8,x9,x10,rfl,sl8,D8,ex8⟩;obtain⟨s,hs,rfl⟩:=bQ hj;obtain⟨sg,hsg,hat⟩:=Paired.getL hP hs;have jl:j<(iu J1 ask).length:=(bP.1 hsg).1;rw[ic]at jl;have kt8:iB H7 H8:=fun b xs e=>ex8 _ _ e (fun z=>by rw[z,D7.hkd]at e;cases e) (fun z=>by rw[z,sl7]at e;cases e);have S08:ab H0 H8:=fun b o e=>ex8 _ _ (S07 _ _ e) (ae e h0) (ae e sl0);have mj:(j+1) * (1+lB d)=j * (1+lB d)+(1+lB d):=im _ _;have mj5:(j+1) * (1+lB d)<=5 * (1+lB d):=c8 _ (by omega);refine⟨_,rfl,_,rfl,_,rfl,t',ow,s,m1,m2,m3,m4,ts',J0,J1,rooms',own,sg,ds',rfl,T'.same S08,m',kt8 _ _ fo7,bA.of (kt8 _ _ hat),zo,fun u9 H9 hu9 S9=>?_⟩;have D9:=D8.up S9;have S09:=S08.trans S9;refine⟨_,rfl,.inl ⟨rfl,_,ax.of (S9 _ _ sl8)⟩,_,rfl,_,rfl,_,rfl,_,rfl,_,rfl,_,rfl,_,rfl,_,rfl,yh J0 J1 rooms rooms' ds ds',rU,H0,t,l1,l2,l3,l4,kd,fu,s,ts,kv8,_,sg,J5,J0,J1,rooms,ds,rfl,T,m,h0,S09,D9,S9 _ _ (kt8 _ _ ff7),S9 _ _ (kt8 _ _ hat),zf,by omega,fun u kv10 H10 hu10 D10 ex10=>?_⟩;refine⟨_,rfl,_,_,rfl,rfl,H0,t,l1,l2,l3,l4,t',m1,m2,m3,m4,kd,u9,u,ts,ts',kv10,_,d,behF rooms' ds' own sg,behF rooms ds J5 sg,J0,J1,rooms,rooms',ds,ds',?_,by omega,T,m,T',m',h0,bu.sameH S09 h0 ex10,D10,bu.ktd D9.hkd ex10 _ _ hu9,jq (by omega) zo,hu10,jq (by omega) zf,by omega,fun kv11 H11 D11 ex11=>?_⟩
    ·show[V.ref t,V.ref t',V.ref kd,V.ref u9,V.ref u,V.int (((d+1:Nat):Int)-1)]=_;rw[show(((d+1:Nat):Int)-1)=(d:Nat) by omega]
    have sl11:=ex11 _ _ (ex10 _ _ (S9 _ _ sl8) nsl) nsl;refine⟨sl,_,_,rfl,rfl,sl11,?_,kv11,_,_,rfl,?_,(D11.more (m:=n+4+i * (5 * (1+lB d))+(j+1) * (1+lB d)) (by omega)).cell sl11,fun b o e n1 n2=>?_⟩
    ·rw[ah,ah,az];exact am (by omega)
    ·rw[aa,take_snoc hsg,aq,aq];rfl
    ·rw[ai n2];exact ex11 _ _ (ex10 _ _ (S9 _ _ (ex8 _ _ e n1 n2)) n1) n1
   ·rintro σ H8 ⟨kv8,x9,x10,rfl,sl8,D8,ex8⟩;rw[ah,Paired.length hP,aT]at sl8;rw[ah,zu]at D8;have mj5:(J1.length+1) * (1+lB d)<=5 * (1+lB d):=c8 _ (by omega);refine⟨_,rfl,_,rfl,sl,_,bB d,rfl,sl8,fun z hz'=>?_,by have:=AW d (by omega);omega,by rw[ah,ic];omega,_,_,rfl,rfl,kv8,some (t6 ask),some (.ref sl),x9,x10,?_,D8.more (by omega),fun b o e nb=>ex8 _ _ (S67 _ _ (ex5 _ _ e nb)) nb (ae (ex5 _ _ e nb) hsl)⟩
    ·obtain⟨sg,_,rfl⟩:=aL.1 hz';exact rQ _ _ _ _ _ _ z1 z2 d _ _
    ·have es:∀(f:Option Str->Int),1+((A.take (i+1)).map f).sum=1+((A.take i).map f).sum+f ask:=fun f=>by
      rw[take_snoc hask,aq,uV,bj,q_,uX,List.sum_nil,Int.add_zero,Int.add_assoc]
     rw[es];rfl
  ·rintro σ H5 ⟨kv5,x7,x8,x9,x10,rfl,D5,ex5⟩;rw[ah]at D5;rw[ah,aT,<-eq];have m5:A.length * (5 * (1+lB d))<=5 * (5 * (1+lB d)):=c8 _ zA;have ex05:=ex4.trs ex5;refine⟨_,rfl,_,rfl,_,rfl,_,rfl,_,rfl,(by show 3<=aj;decide),fun p2 hp2=>?_⟩;have S6:ab H5 (upd H5 p2 (.tup [.ref ow,.ref fu,.int ((d+1:Nat))])):=ab.new hp2;have kt5:=bu.ktd Df.hkd ex05;have tk6:=pd (d:=d+1) (aa (H:=H5) (a:=p2)) (S6 _ _ (kt5 _ _ fo)) (S6 _ _ (kt5 _ _ ff));generalize upd H5 p2 (.tup [.ref ow,.ref fu,.int ((d+1:Nat))])=H6 at S6 tk6 ⊢;have D6:=D5.up S6;have cl:=D6.len;refine⟨kd,_,rfl,.inr ⟨_,n5 own J5 (d+1),p2,D6.hkd,rfl,tk6,dz _ _ _,by rw[pL];omega,rfl⟩,?_⟩;have D7:=D6.put (k:=n5 own J5 (d+1)) (v:=.int (sprM J0 J1 rooms rooms' ds ds' (d+1) own J5)) (.inr (.inr ⟨_,_,_,rfl⟩));exact fin (D7.more (by omega)) ((ex05.trs (ab.exBs S6)).trs fun b o e nb=>by rw[ai nb];exact e) (by rw[fB,if_pos rfl])
inductive iG(C:Addr)(vs:List V)(H:Hp)(Q:VK)(E:XK):Prop
 |mk (t l1 l2 l3 l4:Addr) (ts:Ze) (J0 J1 rooms:Zb) (ds:List ak):(vs=[.ref t])->(fT H t l1 l2 l3 l4 ts J0 J1 rooms ds)->(aG J0 J1 rooms ds)->(∀(x:Addr) (H':Hp),(∀J:Hp,(∀b o,H' b=some o->(H b=none∨∀xs,o≠.lst xs)->J b=some o)->aW C J x J0 J1 rooms ds)->ab H H'->Q (.ref x) H')->iG C vs H Q E
theorem xu{K:Za}{C:Addr}{vs:List V}{H:Hp}{Q:VK}{E:XK}(h:iG C vs H Q E):tz K C (nK C) (bd Q) (start uc vs) H:=by
 obtain⟨t,l1,l2,l3,l4,ts,J0,J1,rooms,ds,rfl,T,m,k⟩:=h;refine⟨_,rfl,.inr (.inl ⟨t,_,0,_,rfl,rfl,bA.of T.t,rfl,.inl ⟨l1,_,rfl,.inl (ax.of T.a1),fun m1 h1=>?_⟩⟩)⟩;have T1:=T.same (ab.new (o:=.lst (J0.map V.str)) h1);refine⟨_,rfl,.inr (.inl ⟨t,_,1,_,rfl,rfl,bA.of T1.t,rfl,.inl ⟨l2,_,rfl,.inl (ax.of T1.a2),fun m2 h2=>?_⟩⟩)⟩;have T2:=T1.same (ab.new (o:=.lst (J1.map V.str)) h2);refine⟨_,rfl,.inr (.inl ⟨t,_,2,_,rfl,rfl,bA.of T2.t,rfl,.inl ⟨l3,_,rfl,.inl (ax.of T2.a3),fun m3 h3=>?_⟩⟩)⟩;have T3:=T2.same (ab.new (o:=.lst (rooms.map V.str)) h3);refine⟨_,rfl,.inr (.inl ⟨t,_,3,_,rfl,rfl,bA.of T3.t,rfl,.inl ⟨l4,_,rfl,.inl (ax.of T3.a4),fun m4 h4=>?_⟩⟩)⟩;have S4:=(((ab.new (o:=.lst (J0.map V.str)) h1).trans (ab.new (o:=.lst (J1.map V.str)) h2)).trans (ab.new (o:=.lst (rooms.map V.str)) h3)).trans (ab.new (o:=.lst (ts.map V.ref)) h4);refine fun x dx hx hdx hne=>?_;have S5:ab H (upd (upd (upd (upd (upd (upd H m1 (.lst (J0.map V.str))) m2 (.lst (J1.map V.str))) m3 (.lst (rooms.map V.str))) m4 (.lst (ts.map V.ref))) dx (.own x)) x (.ins C dx [])) :=
  (S4.trans (ab.new hdx)).trans (ab.new (by rw[ai hne.symm];exact hx))
 have hxx:upd (upd (upd (upd (upd H m1 (.lst (J0.map V.str))) m2 (.lst (J1.map V.str))) m3 (.lst (rooms.map V.str))) m4 (.lst (ts.map V.ref))) dx (.own x) x=none:=by rw[ai hne.symm];exact hx
 refine⟨x,dx,m1,m2,m3,m4,ts,J0,J1,rooms,ds,rfl,aa,⟨?_,?_,?_,?_,T.ds.kt (ab.kt S5)⟩,m,fun H' M ex=>⟨rfl,k x H' (fun J hJ=>M J fun b o e c=>hJ b o e (c.imp (fun z=>S5.free z) id)) fun b o q=>?_⟩⟩
 ·exact kp (kp (kp (kp (kp aa h2) h3) h4) hdx) hxx
 ·exact kp (kp (kp (kp aa h3) h4) hdx) hxx
 ·exact kp (kp (kp aa h4) hdx) hxx
 ·exact kp (kp aa hdx) hxx
 ·have hq:=S5 _ _ q;exact ex _ _ hq (ae (S4.trans (ab.new hdx) _ _ q) hxx)
theorem Fd{a:Addr}{H H':Hp}(e:ab H H'):ab (jI H a) (jI H' a):=fun b o q=>by
 by_cases c:b=a
 ·rw[c,ig]at q;cases q
 ·rw[fQ c]at q ⊢;exact e _ _ q
theorem DB{a:Addr}{H:Hp}{o:HO}:jI (upd H a o) a=jI H a:=funext fun b=>by
 by_cases c:b=a
 ·rw[c,ig,ig]
 ·rw[fQ c,fQ c,ai c]
inductive lc(C:Addr)(vs:List V)(H:Hp)(Q:VK)(E:XK):Prop
 |mk (H0:Hp) (t l1 l2 l3 l4 t' m1 m2 m3 m4 M I kd:Addr) (ts ts':Ze) (kv:List (TK×V)) (n d:Nat) (J0 J1 rooms rooms':Zb) (ds ds':List ak):(vs=[.ref t,.ref M,.ref t',.ref I,.int (d:Nat),.ref kd])->(d<=4)->(fT H0 t l1 l2 l3 l4 ts J0 J1 rooms ds)->(aG J0 J1 rooms ds)->(fT H0 t' m1 m2 m3 m4 ts' J0 J1 rooms' ds')->(aG J0 J1 rooms' ds')->(aW C H0 M J0 J1 rooms ds)->(aW C H0 I J0 J1 rooms' ds')->(∀r∈rooms',∀a∈J0,fX ds' r a)->(H0 kd=none)->(ab H0 H)->(cO (yh J0 J1 rooms rooms' ds ds') H kd kv J0 J1 rooms ds n)->(n+2 * lB d<=8000000) ->
  (∀(kv':List (TK×V)) (H':Hp),cO (yh J0 J1 rooms rooms' ds ds') H' kd kv' J0 J1 rooms ds (n+2 * lB d)->bu kd H H'->Q (.bl true) H')->lc C vs H Q E
theorem Br{K:Za}{C:Addr}{vs:List V}{H:Hp}{Q:VK}{E:XK}(h:lc C vs H Q E):vG K (nL C) (ga K 4) nN (iH K 4) (bd Q) (start wK vs) H:=by
 obtain⟨H0,t,l1,l2,l3,l4,t',m1,m2,m3,m4,M,I,kd,ts,ts',kv,n,d,J0,J1,rooms,rooms',ds,ds',rfl,hd,T,m,T',m',MA,IA,tk,h0,S0,D,hn,k⟩:=h;have z3:=m.rooms26;have z4:=m'.rooms26;refine⟨_,rfl,_,rfl,_,rfl,t,l1,l2,l3,l4,ts,J0,J1,rooms,ds,rfl,T.same S0,m,fun f H1 hf S1=>?_⟩;have S01:=S0.trans S1;refine⟨_,rfl,yh J0 J1 rooms rooms' ds ds',rU,H0,t,l1,l2,l3,l4,kd,f,ts,kv,n,d,_,J0,J1,rooms,ds,rfl,hd,T,m,h0,S01,D.up S1,hf,aD gh (by omega),by omega,fun kv2 H2 D2 ex2=>?_⟩;have S02:=bu.sameH S01 h0 ex2;refine⟨_,rfl,_,rfl,_,rfl,_,rfl,_,rfl,t',m1,m2,m3,m4,ts',J0,J1,rooms',ds',rfl,T'.same S02,m',fun g H3 hg S3=>?_⟩;have S03:=S02.trans S3;refine⟨_,rfl,t,l1,l2,l3,l4,ts,J0,J1,rooms,ds,rfl,T.same S03,m,fun f4 H4 hf4 S4=>?_⟩;have S04:=S03.trans S4;refine⟨_,rfl,H0,t,l1,l2,l3,l4,t',m1,m2,m3,m4,kd,g,f4,ts,ts',kv2,_,d,_,_,J0,J1,rooms,rooms',ds,ds',rfl,hd,T,m,T',m',h0,S04,(D2.up S3).up S4,S4 _ _ hg,aD gh (by omega),hf4,aD gh (by omega),by omega,fun kv5 H5 D5 ex5=>?_⟩;have S05:=bu.sameH S04 h0 ex5;refine⟨_,_,rfl,rfl,_,rfl,_,rfl,_,rfl,M,I,d,J0,J1,rooms,rooms',ds,ds',rfl,hd,MA.same S05,IA.same S05,tk,fun H6 S6=>?_⟩;refine⟨_,rfl,.int _,"int",_,true,rfl,.inl (mP.int _),rfl,_,rfl,cj ?_⟩;refine⟨_,rfl,.int _,"bool",_,false,rfl,.inl (mP.int _),rfl,_,rfl,_,rfl,cj ?_⟩;refine⟨_,rfl,_,rfl,rfl,?_⟩;rw[zzr1 rfl];exact k kv5 H6 ((D5.up S6).more (by omega)) ((ab.exBs S1).trs (ex2.trs ((ab.exBs (S3.trans S4)).trs (ex5.trs (ab.exBs S6)))))
structure Gx where
 t:Addr
 rooms:List Str
 ds:List ak
def zS(J:Hp)(J0 J1:Zb)(e:Gx):Prop:=∃(l1 l2 l3 l4:Addr) (ts:Ze),fT J e.t l1 l2 l3 l4 ts J0 J1 e.rooms e.ds/\aG J0 J1 e.rooms e.ds/\∀r∈e.rooms,∀a∈J0,fX e.ds r a
theorem zS.same{J J':Hp}{J0 J1:Zb}{e:Gx}(h:zS J J0 J1 e)(S:ab J J'):zS J' J0 J1 e:=by
 obtain⟨l1,l2,l3,l4,ts,T,r⟩:=h;exact⟨l1,l2,l3,l4,ts,T.same S,r⟩
inductive sp_law46(K:Za)(vs:List V)(H:Hp)(Q:VK)(E:XK):Prop
 |mk (a:Addr) (ns:List Int):(vs=[.ref a])->(ax K H a (ns.map V.int))->(ns.length<=63)->(∀H',Q (.bl true) H')->sp_law46 K vs H Q E
def iz:List Nat:=[4,2,0,3,1]
theorem BT:∀i,i<=5->6 * ((iz.take i).map lB).sum<=4000000:=by
 intro i hi
 match i,hi with
 |0,_=>decide
 |1,_=>decide
 |2,_=>decide
 |3,_=>decide
 |4,_=>decide
 |5,_=>decide
structure D_(J0 J1 rooms:Zb)(ds:List ak)(e0 e1:Gx)(k0 k1:Addr)(H8 H:Hp)(n:Nat):Prop where
 a:∃kv,cO (yh J0 J1 rooms e0.rooms ds e0.ds) H k0 kv J0 J1 rooms ds n
 b:∃kv,cO (yh J0 J1 rooms e1.rooms ds e1.ds) H k1 kv J0 J1 rooms ds n
 ex:∀b o,H8 b=some o->b≠k0->b≠k1->H b=some o
theorem CO{K:Za}{C:Addr}{vs:List V}{H:Hp}{Q:VK}{E:XK}(h:sp_law46 K vs H Q E):Eu K (lc C) (iG C) qD nJ d6 (qC K) (bd Q) (start A8 vs) H:=by
 obtain⟨a,ns,rfl,hs,hn,k⟩:=h;refine⟨_,rfl,a,ns,rfl,hs,hn,fun p c H1 _ hp1 S1=>?_⟩;refine⟨_,rfl,_,rfl,p,c,2,rfl,hp1,by decide,by decide,fun r H2 r0 r2 hp2 ex2=>?_⟩;refine⟨p,c,6,r,rfl,hp2,by decide,by decide,r0,by omega,fun t l1 l2 l3 l4 ts J0 J1 rooms ds H3 T3 m hrl few hp3 ex3=>?_⟩;have zr:rooms.length<=6:=hrl;refine⟨_,rfl,t,l1,l2,l3,l4,ts,J0,J1,rooms,ds,rfl,T3,m,fun M H4 M4' S4=>?_⟩;have M4:aW C H4 M J0 J1 rooms ds:=M4' _ fun b o e _=>e;have T4:=T3.same S4;have hp4:=hp3.ex S4;refine⟨_,rfl,_,rfl,p,c,t,l1,l2,l3,l4,ts,J0,J1,rooms,ds,4,rfl,hp4,T4,m,by omega,by omega,by omega,fun t1 n3 n4 ts1 r1 d1 H5 T5 m1 tk1 _ _ hp5 ex5=>?_⟩;have T5':=T4.ex hp4 ex5;have M5:=M4.ex hp4 ex5;refine⟨_,rfl,_,rfl,p,c,t,l1,l2,l3,l4,ts,J0,J1,rooms,ds,2,rfl,hp5,T5',m,by omega,by omega,by omega,fun t2 n3' n4' ts2 r2' d2 H6 T6 m2 tk2 _ _ hp6 ex6=>?_⟩;have T6':=T5'.ex hp5 ex6;have M6:=M5.ex hp5 ex6;have O1:zS H6 J0 J1 ⟨t1,r1,d1⟩:=⟨l1,l2,n3,n4,ts1,T5.ex hp5 ex6,m1,tk1⟩;have O2:zS H6 J0 J1 ⟨t2,r2',d2⟩:=⟨l1,l2,n3',n4',ts2,T6,m2,tk2⟩;refine⟨(by show 2<=aj;decide),fun ol hol=>?_⟩;have S7:ab H6 (upd H6 ol (.lst [.ref t1,.ref t2])):=ab.new hol;generalize hL:([⟨t1,r1,d1⟩,⟨t2,r2',d2⟩]:List Gx)=L;have ol7:upd H6 ol (.lst [.ref t1,.ref t2]) ol=some (.lst ((L.map (·.t)).map V.ref)):=by rw[<-hL];exact aa
 have OL:∀e∈L,zS (upd H6 ol (.lst [.ref t1,.ref t2])) J0 J1 e:=fun e he=>by
  rw[<-hL]at he;rcases cA.1 he with rfl|he
  ·exact O1.same S7
  ·rw[eW.1 he];exact O2.same S7
 have T7:=T6'.same S7;have M7:=M6.same S7;generalize upd H6 ol (.lst [.ref t1,.ref t2])=H7 at S7 ol7 OL T7 M7 ⊢;refine⟨_,rfl,ol,rfl,⟨_,ax.of ol7⟩,fun ml hml=>?_⟩;refine bh (xs:=(L.map (·.t)).map V.ref) (fun i vs H'=>∃ms:List Addr,vs=ms.map V.ref/\ab H7 H'/\H' ml=some (.lst vs)/\Paired (fun x (e:Gx)=>aW C (jI H' ml) x J0 J1 e.rooms e.ds) ms (L.take i)) ⟨[],rfl,ab.new hml,aa,.nil⟩ (fun i vs H' _ ⟨_,_,S,h',_⟩=>⟨h',ax.of (S _ _ ol7)⟩) ?_ ?_;rotate_left
 ·rintro i vs H8 v hv hi ⟨ms,rfl,S8,h8,hM⟩;obtain⟨u,hu,rfl⟩:=bQ hv;rw[cS]at hu;obtain⟨e,he,rfl⟩:=kq.1 hu;obtain⟨q1,q2,q3,q4,tse,Te,me,_⟩:=(OL e (bJ he)).same S8;have il:i<L.length:=(bP.1 he).1;have l2':L.length=2:=by rw[<-hL];rfl
  refine gN (lK ?_);refine⟨_,rfl,e.t,q1,q2,q3,q4,tse,J0,J1,e.rooms,e.ds,rfl,Te,me,fun x H9 M9 S9=>?_⟩;have h9:=S9 _ _ h8;refine⟨h9,?_,ke hi ⟨ms++[x],by rw[aq];rfl,?_,aa,?_⟩⟩
  ·rw[ah,Paired.length hM,az];exact am (by omega)
  ·intro b o q;rw[ai (ae q hml)];exact S9 _ _ (S8 _ _ q)
  ·rw[DB,take_snoc he];refine f8 (Paired.mapP hM fun _ _ r=>r.same (Fd S9)) (M9 _ fun b o q cc=>?_);rw[fQ (fun z=>?_)]
   ·exact q
   ·rw[z]at q cc;rcases cc with cc|cc
    ·rw[h8]at cc;cases cc
    ·rw[h9]at q;cases q;exact cc _ rfl
 rintro vs H8 ⟨ms,rfl,S8,ml8,hM⟩;have lL:L.length=2:=by rw[<-hL];rfl
 rw[ah,ah,aT]at hM;have ol8:=S8 _ _ ol7;have hM8:Paired (fun x (e:Gx)=>aW C H8 x J0 J1 e.rooms e.ds) ms L:=Paired.mapP hM fun _ _ r=>r.same pe;have OL8:∀e∈L,zS H8 J0 J1 e:=fun e he=>(OL e he).same S8;have T8:=T7.same S8;have M8:=M7.same S8;obtain⟨x1,x2,rfl,X1,X2⟩:∃x1 x2,ms=[x1,x2]/\aW C H8 x1 J0 J1 r1 d1/\aW C H8 x2 J0 J1 r2' d2:=by
  rw[<-hL]at hM8;cases hM8 with
  |cons h1 h2=>cases h2 with
   |cons h2 h3=>cases h3;exact⟨_,_,rfl,h1,h2⟩
 have O1':=OL8 ⟨t1,r1,d1⟩ (by rw[<-hL];simp);have O2':=OL8 ⟨t2,r2',d2⟩ (by rw[<-hL];simp);rw[<-hL]at ol8;refine fun k0 hk0=>fun k1 hk1=>⟨(by show 2<=aj;decide),fun kl hkl=>?_⟩;have n01:k0≠k1:=ae (aa (H:=H8) (a:=k0)) hk1;have hk1':H8 k1=none:=by rw[ai n01.symm]at hk1;exact hk1
 have S9:ab H8 (upd (upd (upd H8 k0 (.dT [])) k1 (.dT [])) kl (.lst [.ref k0,.ref k1])):=((ab.new hk0).trans (ab.new hk1)).trans (ab.new hkl);have k09:upd (upd (upd H8 k0 (.dT [])) k1 (.dT [])) kl (.lst [.ref k0,.ref k1]) k0=some (.dT []):=kp (kp aa hk1) hkl;have k19:upd (upd (upd H8 k0 (.dT [])) k1 (.dT [])) kl (.lst [.ref k0,.ref k1]) k1=some (.dT []):=kp aa hkl;have kl9:upd (upd (upd H8 k0 (.dT [])) k1 (.dT [])) kl (.lst [.ref k0,.ref k1]) kl=some (.lst [.ref k0,.ref k1]):=aa;generalize upd (upd (upd H8 k0 (.dT [])) k1 (.dT [])) kl (.lst [.ref k0,.ref k1])=H9 at S9 k09 k19 kl9 ⊢;refine⟨(by show 5<=aj;decide),fun dl hdl=>?_⟩;have S10:ab H9 (upd H9 dl (.lst [.int 4,.int 2,.int 0,.int 3,.int 1])):=ab.new hdl;have dl10:upd H9 dl (.lst [.int 4,.int 2,.int 0,.int 3,.int 1]) dl=some (.lst (iz.map fun d=>V.int (d:Nat))):=aa;generalize upd H9 dl (.lst [.int 4,.int 2,.int 0,.int 3,.int 1])=H10 at S10 dl10 ⊢;have S810:=S9.trans S10;have k010:=S10 _ _ k09;have k110:=S10 _ _ k19;have nd:∀{b:Addr}{xs:List V},H10 b=some (.lst xs)->b≠k0/\b≠k1:=fun e=>⟨fun z=>(by rw[z,k010]at e;cases e),fun z=>by rw[z,k110]at e;cases e⟩;have ol10:=S810 _ _ ol8;have ml10:=S810 _ _ ml8;have kl10:=S10 _ _ kl9;refine⟨dl,rfl,⟨_,ax.of dl10⟩,?_⟩;refine bD (xs:=iz.map fun d=>V.int (d:Nat)) (fun i σ H'=>∃x7 x8:Option V,σ=[some (.ref a),some (.ref p),some (.ref t),some (.ref M),some (.ref ol),some (.ref ml),some (.ref kl),x7,x8]/\D_ J0 J1 rooms ds ⟨t1,r1,d1⟩ ⟨t2,r2',d2⟩ k0 k1 H10 H' (6 * ((iz.take i).map lB).sum))
  ⟨_,_,rfl,⟨[],k010,fun _ h=>(by cases h),eK _⟩,⟨[],k110,fun _ h=>(by cases h),eK _⟩,fun _ _ e _ _=>e⟩ (fun i σ H' _ ⟨_,_,_,W⟩=>ax.of (W.ex _ _ dl10 (nd dl10).1 (nd dl10).2)) ?_ ?_
 ·rintro i w σ H11 hi ⟨x7,x8,rfl,W⟩;rw[cS]at hi;obtain⟨d,hd,rfl⟩:=kq.1 hi;have il:i<5:=(bP.1 hd).1;have d4:d<=4:=(show ∀d∈iz,d<=4 by decide) d (bJ hd);have sm:=BT (i+1) (by omega);have es:((iz.take (i+1)).map lB).sum=((iz.take i).map lB).sum+lB d:=by rw[take_snoc hd,aq,uV];rfl
  refine⟨(by show 3<=aj;decide),fun jl hjl=>?_⟩;have S12:ab H11 (upd H11 jl (.lst [.int 0,.int 1,.int 0])):=ab.new hjl;have jl12:upd H11 jl (.lst [.int 0,.int 1,.int 0]) jl=some (.lst [.int 0,.int 1,.int 0]):=aa;generalize upd H11 jl (.lst [.int 0,.int 1,.int 0])=H12 at S12 jl12 ⊢;obtain⟨⟨kva,Da⟩,⟨kvb,Db⟩,exW⟩:=W;have W12:D_ J0 J1 rooms ds ⟨t1,r1,d1⟩ ⟨t2,r2',d2⟩ k0 k1 H12 H12 (6 * ((iz.take i).map lB).sum+0 * (2 * lB d)):=⟨⟨kva,(Da.up S12).more (by omega)⟩,⟨kvb,(Db.up S12).more (by omega)⟩,fun _ _ e _ _=>e⟩;have nj:jl≠k0/\jl≠k1:=⟨(ae Da.hkd hjl).symm,(ae Db.hkd hjl).symm⟩;have ex12:∀b o,H10 b=some o->b≠k0->b≠k1->H12 b=some o:=fun b o e n1 n2=>S12 _ _ (exW b o e n1 n2);refine⟨jl,rfl,⟨_,ax.of jl12⟩,?_⟩;refine bD (xs:=[.int 0,.int 1,.int 0]) (fun j σ H'=>∃x8:Option V,σ=[some (.ref a),some (.ref p),some (.ref t),some (.ref M),some (.ref ol),some (.ref ml),some (.ref kl),some (.int (d:Nat)),x8]/\D_ J0 J1 rooms ds ⟨t1,r1,d1⟩ ⟨t2,r2',d2⟩ k0 k1 H12 H' (6 * ((iz.take i).map lB).sum+j * (2 * lB d)))
   ⟨_,rfl,W12⟩ (fun j σ H' _ ⟨_,_,W⟩=>ax.of (W.ex _ _ jl12 nj.1 nj.2)) ?_ ?_
  ·rintro j v σ H13 hj ⟨x8,rfl,⟨kv0,D0⟩,⟨kv1,D1⟩,ex13⟩;have jl3:j<3:=(bP.1 hj).1;have ex1013:∀b o,H10 b=some o->b≠k0->b≠k1->H13 b=some o:=fun b o e n1 n2=>ex13 b o (ex12 b o e n1 n2) n1 n2;have S813:ab H8 H13:=fun b o e=>ex1013 _ _ (S810 _ _ e) (ae e hk0) (ae e hk1');have ol13:=ex1013 _ _ ol10 (nd ol10).1 (nd ol10).2;have ml13:=ex1013 _ _ ml10 (nd ml10).1 (nd ml10).2;have kl13:=ex1013 _ _ kl10 (nd kl10).1 (nd kl10).2;have mj:(j+1) * (2 * lB d)=j * (2 * lB d)+2 * lB d:=im _ _;have mj3:(j+1) * (2 * lB d)<=3 * (2 * lB d):=c8 _ (by omega);have hv:v=.int 0∨v=.int 1:=by
    match j,jl3,hj with
    |0,_,hj=>exact .inl (by injection hj with hj;exact hj.symm)
    |1,_,hj=>exact .inr (by injection hj with hj;exact hj.symm)
    |2,_,hj=>exact .inl (by injection hj with hj;exact hj.symm)
   rcases hv with rfl|rfl
   ·obtain⟨q1,q2,q3,q4,tse,Te,me,tke⟩:=O1';refine⟨_,rfl,_,rfl,_,rfl,_,rfl,ol,_,0,_,rfl,rfl,ax.of ol13,cy (j:=0) rfl,_,rfl,_,rfl,ml,_,0,_,rfl,rfl,ax.of ml13,cy (j:=0) rfl,_,rfl,_,rfl,_,rfl,kl,_,0,_,rfl,rfl,ax.of kl13,cy (j:=0) rfl,H8,t,l1,l2,l3,l4,t1,q1,q2,q3,q4,M,x1,k0,ts,tse,kv0,_,d,J0,J1,rooms,r1,ds,d1,rfl,d4,T8,m,Te,me,M8,X1,tke,hk0,S813,D0,by omega,fun kv' H14 D14 ex14=>⟨_,rfl,?_⟩⟩;refine bS ⟨_,rfl,⟨kv',D14.more (by omega)⟩,⟨kv1,(D1.kt (ex14 _ _ D1.hkd n01.symm) (bu.ktd D0.hkd ex14)).more (by omega)⟩,fun b o e n1 n2=>ex14 _ _ (ex13 b o e n1 n2) n1⟩
   ·obtain⟨q1,q2,q3,q4,tse,Te,me,tke⟩:=O2';refine⟨_,rfl,_,rfl,_,rfl,_,rfl,ol,_,1,_,rfl,rfl,ax.of ol13,cy (j:=1) rfl,_,rfl,_,rfl,ml,_,1,_,rfl,rfl,ax.of ml13,cy (j:=1) rfl,_,rfl,_,rfl,_,rfl,kl,_,1,_,rfl,rfl,ax.of kl13,cy (j:=1) rfl,H8,t,l1,l2,l3,l4,t2,q1,q2,q3,q4,M,x2,k1,ts,tse,kv1,_,d,J0,J1,rooms,r2',ds,d2,rfl,d4,T8,m,Te,me,M8,X2,tke,hk1',S813,D1,by omega,fun kv' H14 D14 ex14=>⟨_,rfl,?_⟩⟩;refine bS ⟨_,rfl,⟨kv0,(D0.kt (ex14 _ _ D0.hkd n01) (bu.ktd D1.hkd ex14)).more (by omega)⟩,⟨kv',D14.more (by omega)⟩,fun b o e n1 n2=>ex14 _ _ (ex13 b o e n1 n2) n2⟩
  ·rintro σ H13 ⟨x8,rfl,⟨kv0,D0⟩,⟨kv1,D1⟩,ex13⟩;have e3:6 * ((iz.take i).map lB).sum+3 * (2 * lB d)=6 * ((iz.take (i+1)).map lB).sum:=by rw[es];omega
   exact⟨_,_,rfl,⟨kv0,D0.more (Aa e3)⟩,⟨kv1,D1.more (Aa e3)⟩,fun b o e n1 n2=>ex13 b o (ex12 b o e n1 n2) n1 n2⟩
 ·rintro σ H11 ⟨x7,x8,rfl,W⟩;exact k H11
def dY(i:Nat):Stmt:=PySem.Challenge.pw_mumtrial_k46_blamers_counted.main.body.getD i (.Pass ⟨0,0,0,0⟩)
local macro_rules | `(tactic| walk_at "s")=>`(tactic| exact⟨rfl,rfl,rfl,by decide +kernel,rfl,by decide +kernel,by decide +kernel⟩)
local macro_rules | `(tactic| walk_at "l")=>`(tactic| (intro _ _ _ _ h;first|exact len_h h|exact len_g h|(cases h;subst_vars;rfl)|(obtain⟨_,_,h,_⟩:=h;subst h;rfl)|((repeat obtain⟨_,h⟩:=h);subst_vars;rfl)))
theorem zzlS{us:List Value}{n:Nat}(h:us.length=n+1):∃ a t,us=a::t∧t.length=n:=by
  cases us with
  |nil=>cases h
  |cons a t=>exact⟨a,t,rfl,Nat.succ.inj h⟩
local macro_rules | `(tactic| walk_at "b")=>`(tactic| (intro _ _ _ _ _ _ us hl;(repeat (have h:=zzlS hl;clear hl;obtain⟨_,_,e,hl⟩:=h;subst e));cases List.eq_nil_of_length_eq_zero hl;rfl))
def G_(K:Za)(x qual:Str)(st:Stmt)(f:Addr):Prop:=∃(oc:Value) (od an:Option Addr) (sl:Array (Option Value)) (kV dc pm cd ct:Value),
 K.lookup f=some ⟨oc,od,.func (ip x qual (hV st) (fR st) (bT st) .none kV dc pm an cd ct),sl⟩/\mv K cd qual=true/\fk K (.ref f)=true
theorem DH{K:Za}{x qual:Str}{st:Stmt}{f:Addr}{oc:Value}{od an:Option Addr}{sl:Array (Option Value)}{kV dc pm cd ct:Value}(l:K.lookup f=some ⟨oc,od,.func (ip x qual (hV st) (fR st) (bT st) .none kV dc pm an cd ct),sl⟩)
  (c:mv K cd qual=true) (k:fk K (.ref f)=true):G_ K x qual st f:=⟨oc,od,an,sl,kV,dc,pm,cd,ct,l,c,k⟩
def gX(K:Za)(x:Str)(st:Stmt):Prop:=∃f,bV K bG x=some (some (.ref f))/\G_ K x x st f
theorem fnG_mk{K:Za}{x:Str}{st:Stmt}{f:Addr}{oc:Value}{od an:Option Addr}{sl:Array (Option Value)}{kV dc pm cd ct:Value}(a:bV K bG x=some (some (.ref f)))(l:K.lookup f=some ⟨oc,od,.func (ip x x (hV st) (fR st) (bT st) .none kV dc pm an cd ct),sl⟩)
  (c:mv K cd x=true) (k:fk K (.ref f)=true):gX K x st:=⟨f,a,DH l c k⟩
def ue(K:Za)(C:Addr)(m qual:Str)(st:Stmt):Prop:=∃f,ck K (.ref C) m=some (some (.ref f))/\wS K (.ref f)=true/\G_ K m qual st f
theorem fnM_mk{K:Za}{C:Addr}{m qual:Str}{st:Stmt}{f:Addr}{oc:Value}{od an:Option Addr}{sl:Array (Option Value)}{kV dc pm cd ct:Value}(a:ck K (.ref C) m=some (some (.ref f)))(i:wS K (.ref f)=true)
  (l:K.lookup f=some ⟨oc,od,.func (ip m qual (hV st) (fR st) (bT st) .none kV dc pm an cd ct),sl⟩) (c:mv K cd qual=true) (k:fk K (.ref f)=true):ue K C m qual st:=⟨f,a,i,DH l c k⟩
theorem G_.fun_{K:Za}{x qual:Str}{st:Stmt}{f:Addr}(T:G_ K x qual st f):∃fd,GC K x qual st f fd:=by
 obtain⟨oc,od,an,sl,kV,dc,pm,cd,ct,l,c,k⟩:=T;exact⟨_,DF (st:=st) l c k⟩
def CD:Sp:=fun _ _ _ _=>False
theorem AD{P:bM}{w:World}{K:Za}{mg:Str->Option Value}{base:Heap}{k:Nat}{f:Addr}{fd:j3}{ps:Zb}:k5 P w K mg base CX0 k f fd ps CD:=⟨fun _ _ _ _ h=>h.elim,fun _ _ _ _ _ _ _ _ _ _ _ _ _ h=>h.elim⟩
def Gp(K:Za)(a:Addr)(ws:Zb):Prop:=∀H,bA K H a (ws.map V.str)
theorem Ak{K:Za}{a:Addr}{ws:Zb}{o:Obj}{its:Array Value}{n:Nat}(l:K.lookup a=some o)(c:o.cls=.type "tuple")(d:o.data=.seq its n)(z:its.size<=aj)(v:ba (ws.map V.str) its.toList):Gp K a ws :=
 fun _=>.inr ⟨o,its,n,l,c,d,z,v⟩
section
variable{P:bM}{w:World}{K:Za}{mg:Str->Option Value}{base h:Heap}{C:Addr}{x qual:Str}{st:Stmt}{N ps:Zb}{k:Nat}{sp:Sp}
abbrev Ed(ps:Zb)(sp:Sp):Prop:=∀vs H Q E,sp vs H Q E->vs.length=ps.length
abbrev BodyOk(CX:Co)(P:bM)(w:World)(K:Za)(mg:Str->Option Value)(base:Heap)(qual:Str)(st:Stmt)(N:Zb)(k:Nat)(sp:Sp)(nox:Cx->Cx):Prop:=N.Nodup->∀(f:Addr) (cdv:Value) (A:Around) (outer:List Env) (s:Shared) (H:Hp) (vs:List V) (Q:VK) (E:XK),ei k (A.deeper (envOfC qual (bT st) s.heap.objs.size f cdv))->(A.deeper (envOfC qual (bT st) s.heap.objs.size f cdv)).units+16<cLine->sp vs H Q E ->
 ∃t,yz (nox (zI CX P w K mg base N qual (bT st) f cdv A outer s H E)) (fR st) t/\t (bd Q) (start N vs) H
abbrev z0(x qual:Str)(st:Stmt)(ps:Zb):Prop:=∀(kV doc pm:Value) (an:Option Addr) (cdv ct:Value) (us:Zf),us.length=ps.length->bindArgs (ip x qual (hV st) (fR st) (bT st) .none kV doc pm an cdv ct) ⟨us,[]⟩=pure (ps.zip us)
theorem dG(X:K.In h)(G:h.Ns bG mg)(T:gX K x st)(b:BodyOk CX0 P w K mg base x st N k sp Cx.nox)(bi:z0 x x st ps)(S:jQ N ps (bT st):=by walk_at "s")(l:Ed ps sp:=by walk_at "l"):fV P w K mg base x ps (k+1) sp:=by
 obtain⟨f,a,t⟩:=T;obtain⟨fd,F⟩:=t.fun_;exact⟨f,fd,F.ok S l fun cdv A outer s H vs Q E hr h=>b S.nd f cdv A outer s H vs Q E hr (AK hr) h,eF X G a,F.kp,F.binds bi⟩
theorem dM(cl:yB K C)(T:ue K C x qual st)(b:BodyOk CX0 P w K mg base qual st N k sp Cx.nox)(bi:z0 x qual st ps)(S:jQ N ps (bT st):=by walk_at "s")(l:Ed ps sp:=by walk_at "l"):pD P w K mg base C x ps (k+1) sp:=by
 obtain⟨f,a,i,t⟩:=T;obtain⟨fd,F⟩:=t.fun_;exact⟨f,fd,F.ok S l fun cdv A outer s H vs Q E hr h=>b S.nd f cdv A outer s H vs Q E hr (AK hr) h,cl,⟨a,i,F.kp⟩,F.binds bi⟩
theorem dN{y:Str}(cm:mg y=some (.ref C))(mk:kj K C=true)(kc:fk K (.ref C)=true)(T:ue K C "__init__" qual st)(b:BodyOk CX0 P w K mg base qual st N k sp Cx.nox)(bi:z0 "__init__" qual st ps)(S:jQ N ps (bT st):=by walk_at "s")(l:Ed ps sp:=by walk_at "l"):Gy P w K mg base y C ps (k+1) sp:=by
 obtain⟨f,a,i,t⟩:=T;obtain⟨fd,F⟩:=t.fun_;exact⟨f,fd,F.ok S l fun cdv A outer s H vs Q E hr h=>b S.nd f cdv A outer s H vs Q E hr (AK hr) h,cm,⟨mk,a,i,kc⟩,F.binds bi⟩
end
structure Zs(mg:Str->Option Value):Prop where
 all:mg "all"=none
 any:mg "any"=none
 bool:mg "bool"=none
 dict:mg "dict"=none
 enumerate:mg "enumerate"=none
 int:mg "int"=none
 isinstance:mg "isinstance"=none
 len:mg "len"=none
 list:mg "list"=none
 max:mg "max"=none
 range:mg "range"=none
 sum:mg "sum"=none
 tuple:mg "tuple"=none
 zip:mg "zip"=none
structure Cs(K:Za)(mg:Str->Option Value)(C Ck Cd Cb a_STILL a_HUSH:Addr):Prop where
 LETTERS:Gc mg "LETTERS" (.str "abcdefghijklmnopqrstuvwxyz")
 LONGEST_NAME:Gc mg "LONGEST_NAME" (.int 8)
 MOST_WORDS:Gc mg "MOST_WORDS" (.int 4)
 MOST_ROOMS:Gc mg "MOST_ROOMS" (.int 150)
 MOST_DOORS:Gc mg "MOST_DOORS" (.int 2000)
 DEEPEST:Gc mg "DEEPEST" (.int 4)
 STILL:Gc mg "STILL" (.ref a_STILL)
 HUSH:Gc mg "HUSH" (.ref a_HUSH)
 still:Gp K a_STILL av
 hush:Gp K a_HUSH b9
 mc:MC K C
 cm:mg "Machine"=some (.ref C)
 makes:kj K C=true
 kc:fk K (.ref C)=true
 ksc:KC K Ck
 cmksc:mg "KnownSteps"=some (.ref Ck)
 makesksc:kj K Ck=true
 kcksc:fk K (.ref Ck)=true
 dc:DC K Cd
 cmdc:mg "Made"=some (.ref Cd)
 makesdc:kj K Cd=true
 kcdc:fk K (.ref Cd)=true
 bc:BC K Cb
 cmbc:mg "Blamers"=some (.ref Cb)
 makesbc:kj K Cb=true
 kcbc:fk K (.ref Cb)=true
structure Ts(K:Za)(C Ck Cd Cb:Addr):Prop where
 f_law_spread:gX K "_law_spread" (dY 49)
 f_law_open:gX K "_law_open" (dY 50)
 f_law_anew:gX K "_law_anew" (dY 51)
 f_law_take:gX K "_law_take" (dY 52)
 f_law_names:gX K "_law_names" (dY 53)
 f_law_put:gX K "_law_put" (dY 55)
 f_law_draw_doors:gX K "_law_draw_doors" (dY 56)
 f_law_model:gX K "_law_model" (dY 57)
 f_is_name:gX K "is_name" (dY 22)
 f_as_keys:gX K "as_keys" (dY 23)
 f_first_wrong_name:gX K "first_wrong_name" (dY 24)
 f_door_signs:gX K "door_signs" (dY 25)
 f_first_wrong_door:gX K "first_wrong_door" (dY 26)
 f_goals_by_start_and_sign:gX K "goals_by_start_and_sign" (dY 27)
 f_led_by_still:gX K "led_by_still" (dY 28)
 f_first_led_round:gX K "first_led_round" (dY 29)
 f_need_none:gX K "need_none" (dY 30)
 f_need_parts:gX K "need_parts" (dY 31)
 f_doors_by_start:gX K "doors_by_start" (dY 32)
 f_has_asks_alone:gX K "has_asks_alone" (dY 33)
 f_Machine___init__:ue K C "__init__" "Machine.__init__" (cx (dY 34) 0)
 f_law_machine:gX K "_law_machine" (dY 68)
 f_Machine_rooms:ue K C "rooms" "Machine.rooms" (cx (dY 34) 3)
 f_Machine_led_from:ue K C "led_from" "Machine.led_from" (cx (dY 34) 8)
 f_with_still:gX K "with_still" (dY 10)
 f_Machine_goals:ue K C "goals" "Machine.goals" (cx (dY 34) 7)
 f_Machine_is_quiet:ue K C "is_quiet" "Machine.is_quiet" (cx (dY 34) 5)
 f_law_still_on:gX K "_law_still_on" (dY 54)
 f_Machine_asks:ue K C "asks" "Machine.asks" (cx (dY 34) 1)
 f_Machine_says:ue K C "says" "Machine.says" (cx (dY 34) 2)
 f_first_face:gX K "first_face" (dY 11)
 f_face_behind:gX K "face_behind" (dY 12)
 f_signs_in_order:gX K "signs_in_order" (dY 9)
 f_steps_at:gX K "steps_at" (dY 13)
 f_KnownSteps___init__:ue K Ck "__init__" "KnownSteps.__init__" (cx (dY 14) 0)
 f_KnownSteps_steps_from:ue K Ck "steps_from" "KnownSteps.steps_from" (cx (dY 14) 1)
 f_need_depth:gX K "need_depth" (dY 42)
 f_product:gX K "product" (dY 43)
 f_Made___init__:ue K Cd "__init__" "Made.__init__" (cx (dY 44) 0)
 f_Made_steps_from:ue K Cd "steps_from" "Made.steps_from" (cx (dY 44) 1)
 f_Made_kinds_at:ue K Cd "kinds_at" "Made.kinds_at" (cx (dY 44) 2)
 f_Made_count_of:ue K Cd "count_of" "Made.count_of" (cx (dY 44) 4)
 f_Made_count_at:ue K Cd "count_at" "Made.count_at" (cx (dY 44) 3)
 f_takes:gX K "takes" (dY 37)
 f_need_match:gX K "need_match" (dY 36)
 f_need_all_asks_taken:gX K "need_all_asks_taken" (dY 38)
 f_need_taker:gX K "need_taker" (dY 39)
 f_Blamers___init__:ue K Cb "__init__" "Blamers.__init__" (cx (dY 46) 0)
 f_Blamers_places:ue K Cb "places" "Blamers.places" (cx (dY 46) 1)
 f_Blamers_harmless_of:ue K Cb "harmless_of" "Blamers.harmless_of" (cx (dY 46) 3)
 f_Blamers_harmless_at:ue K Cb "harmless_at" "Blamers.harmless_at" (cx (dY 46) 2)
 f_how_many_blame:gX K "how_many_blame" (dY 47)
 f_law_willing:gX K "_law_willing" (dY 58)
 f_law_turned:gX K "_law_turned" (dY 59)
 f_law_renamed:gX K "_law_renamed" (dY 60)
 f_law_near:gX K "_law_near" (dY 61)
 f_law_behind:gX K "_law_behind" (dY 62)
 f_law_begin:gX K "_law_begin" (dY 63)
 f_law_part_signs:gX K "_law_part_signs" (dY 64)
 f_law_after:gX K "_law_after" (dY 70)
 f_law_asked:gX K "_law_asked" (dY 71)
 f_law_times:gX K "_law_times" (dY 66)
 f_law_sizes:gX K "_law_sizes" (dY 65)
 f_law_count:gX K "_law_count" (dY 67)
 f_law_spared:gX K "_law_spared" (dY 69)
 f_law_right:gX K "_law_right" (dY 72)
 f_law46:gX K "law" (dY 73)
section
variable{P:bM}{w:World}{K:Za}{mg:Str->Option Value}{base h:Heap}{C Ck Cd Cb a_STILL a_HUSH:Addr}
section
variable(P:bM)(w:World)(K:Za)(mg:Str->Option Value)(C Ck Cd Cb a_STILL a_HUSH:Addr)
abbrev jW:Prop:=∀base,fV P w K mg base "_law_spread" ["cell","at"] 1 k_
abbrev tf:Prop:=∀base,fV P w K mg base "_law_open" ["script"] 1 (qC K)
abbrev jY:Prop:=∀base,fV P w K mg base "_law_anew" ["pen"] 1 qF
abbrev dg:Prop:=∀base,fV P w K mg base "_law_take" ["pen","many"] 2 d6
abbrev iO:Prop:=∀base,fV P w K mg base "_law_names" ["pen","many"] 3 kH
abbrev ju:Prop:=∀base,fV P w K mg base "_law_put" ["doors","door"] 1 jC
abbrev gp:Prop:=∀base,fV P w K mg base "_law_draw_doors" ["pen","asks","says","rooms","full"] 3 gx
abbrev p9:Prop:=∀base,fV P w K mg base "_law_model" ["pen","most","full"] 4 nJ
abbrev pF:Prop:=∀base,fV P w K mg base "is_name" ["text"] 1 sp_is_name
abbrev jv:Prop:=∀base,fV P w K mg base "as_keys" ["things"] 1 (sp_as_keys K)
abbrev eX:Prop:=∀base,fV P w K mg base "first_wrong_name" ["names","most","taken"] 2 (sp_first_wrong_name K)
abbrev j1:Prop:=∀base,fV P w K mg base "door_signs" ["asks","says"] 1 (sp_door_signs K)
abbrev eZ:Prop:=∀base,fV P w K mg base "first_wrong_door" ["doors","rooms","signs"] 2 (sp_first_wrong_door K)
abbrev cD:Prop:=∀base,fV P w K mg base "goals_by_start_and_sign" ["doors"] 1 lh
abbrev iA:Prop:=∀base,fV P w K mg base "led_by_still" ["goals","room"] 1 vX
abbrev fU:Prop:=∀base,fV P w K mg base "first_led_round" ["rooms","led"] 1 sp_first_led_round
abbrev iM:Prop:=∀base,fV P w K mg base "need_none" ["part","number"] 1 sp_need_none
abbrev jS:Prop:=∀base,fV P w K mg base "need_parts" ["asks","says","rooms","doors"] 3 sp_need_parts
abbrev gv:Prop:=∀base,fV P w K mg base "doors_by_start" ["rooms","doors"] 1 c_
abbrev gu:Prop:=∀base,fV P w K mg base "has_asks_alone" ["doors"] 1 sp_has_asks_alone
abbrev pG:Prop:=∀base,Gy P w K mg base "Machine" C ["self","asks","says","rooms","doors"] 4 (nK C)
abbrev mi:Prop:=∀base,fV P w K mg base "_law_machine" ["told"] 6 (iG C)
abbrev du:Prop:=∀base,pD P w K mg base C "rooms" ["self"] 1 (jd C)
abbrev dh:Prop:=∀base,pD P w K mg base C "led_from" ["self","room"] 1 (gF C)
abbrev hZ:Prop:=∀base,fV P w K mg base "with_still" ["M","rooms"] 2 (sp_with_still C)
abbrev eV:Prop:=∀base,pD P w K mg base C "goals" ["self","room","sign"] 1 (ia C)
abbrev e_:Prop:=∀base,pD P w K mg base C "is_quiet" ["self","room"] 1 (iI C)
abbrev cX:Prop:=∀base,fV P w K mg base "_law_still_on" ["doors","rooms"] 1 (c6 K)
abbrev dX:Prop:=∀base,pD P w K mg base C "asks" ["self"] 1 (ln C)
abbrev dW:Prop:=∀base,pD P w K mg base C "says" ["self"] 1 (lb C)
abbrev jZ:Prop:=∀base,fV P w K mg base "first_face" ["M"] 3 (cL C)
abbrev i0:Prop:=∀base,fV P w K mg base "face_behind" ["M","face","sign"] 3 (qE K C)
abbrev gl:Prop:=∀base,fV P w K mg base "signs_in_order" ["M"] 2 (vW C a_HUSH)
abbrev ng:Prop:=∀base,fV P w K mg base "steps_at" ["M","face"] 4 (jB C)
abbrev h_:Prop:=∀base,Gy P w K mg base "KnownSteps" Ck ["self","M"] 1 (jf Ck)
abbrev cf:Prop:=∀base,pD P w K mg base Ck "steps_from" ["self","face"] 5 (jg C Ck)
abbrev jU:Prop:=∀base,fV P w K mg base "need_depth" ["d"] 1 dv
abbrev lJ:Prop:=∀base,fV P w K mg base "product" ["numbers"] 1 sp_product
abbrev z5:Prop:=∀base,Gy P w K mg base "Made" Cd ["self","M"] 3 (lg C Ck Cd)
abbrev cJ:Prop:=∀base,pD P w K mg base Cd "steps_from" ["self","face"] 6 (ib C Ck Cd)
abbrev eT:Prop:=∀base,pD P w K mg base Cd "kinds_at" ["self","face"] 7 (je K C Ck Cd)
abbrev eU:Prop:=∀base,pD P w K mg base Cd "count_at" ["self","face","d"] 16 (gG C Ck Cd 4)
abbrev wQ:Prop:=∀base,fV P w K mg base "takes" ["I","room","ask"] 2 (jc C)
abbrev jT:Prop:=∀base,fV P w K mg base "need_match" ["M","I"] 2 (fG C)
abbrev dB:Prop:=∀base,fV P w K mg base "need_all_asks_taken" ["I"] 4 (g_ C)
abbrev jR:Prop:=∀base,fV P w K mg base "need_taker" ["M","I"] 5 (fF C)
abbrev pH:Prop:=∀base,Gy P w K mg base "Blamers" Cb ["self","M","I"] 5 (lm C Ck Cd Cb)
abbrev gw:Prop:=∀base,pD P w K mg base Cb "places" ["self","face","mine","signs"] 7 (lf K C Ck Cd Cb)
abbrev dC:Prop:=∀base,pD P w K mg base Cb "harmless_at" ["self","face","mine","d"] 25 (mI C Ck Cd Cb 4)
abbrev gq:Prop:=∀base,fV P w K mg base "how_many_blame" ["M","d","I"] 26 (nL C)
abbrev iY:Prop:=∀base,fV P w K mg base "_law_willing" ["pen","told"] 3 jA
abbrev jV:Prop:=∀base,fV P w K mg base "_law_turned" ["pen","told"] 3 k9
abbrev iZ:Prop:=∀base,fV P w K mg base "_law_renamed" ["pen","told"] 4 iF
abbrev tj:Prop:=∀base,fV P w K mg base "_law_near" ["pen","told","most"] 5 qD
abbrev h7:Prop:=∀base,fV P w K mg base "_law_behind" ["told","face","sign"] 2 (rT K)
abbrev k7:Prop:=∀base,fV P w K mg base "_law_begin" ["told"] 2 nN
abbrev eB:Prop:=∀base,fV P w K mg base "_law_part_signs" ["told","ask"] 1 kG
abbrev gQ:Prop:=∀base,fV P w K mg base "_law_after" ["told","known","face","sign"] 3 (jh K)
abbrev iQ:Prop:=∀base,fV P w K mg base "_law_asked" ["told","known","face"] 4 (kJ K)
abbrev iN:Prop:=∀base,fV P w K mg base "_law_times" ["numbers"] 1 sp_product
abbrev iP:Prop:=∀base,fV P w K mg base "_law_count" ["told","known","face","deep"] 13 (iH K 4)
abbrev jX:Prop:=∀base,fV P w K mg base "_law_spared" ["told","other","known","own","face","deep"] 18 (ga K 4)
abbrev p8:Prop:=∀base,fV P w K mg base "_law_right" ["told","model","other","machine","deep","known"] 27 (lc C)
end
section
variable(X:K.In h)(G:h.Ns bG mg)(z:Zs mg)(c:Cs K mg C Ck Cd Cb a_STILL a_HUSH)(T:Ts K C Ck Cd Cb)
include X G z c T
theorem tK:jW P w K mg:=fun base=>dG X G T.f_law_spread (fun S _ _ _ _ _ _ _ _ _ hr hu h=>bK (Bp (K:=K) h) (ac (bz (i9 GN (pv 0) (aH Dh ag ag)) (af (au (pv 0))) aP) (ac (qs 2 S (aH gg (aH cg (aH cg (aH iw (aH gg (pv 0) ag) ag) (aH iw (pv 1) ag)) ag) ag)) (ac (qs 3 S (aH gg (aH cg (aH cg (aH iw (pv 2) (pv 2)) (aH iw (pv 1) ag)) (aH gg (pv 0) ag)) ag)) (ac (qs 4 S (aH gg (aH cg (aH cg (aH iw (pv 3) (pv 3)) (aH iw (pv 2) ag)) ag) ag)) (af (au (aH cg (aH iw (aH cg (aH iw (pv 2) ag) (pv 3)) ag) (pv 4))))))))) (by walk_at "b")
theorem xh:tf P w K mg:=fun base=>dG X G T.f_law_open (fun S _ _ _ _ _ _ _ _ _ hr hu h=>bK (EG h) (ac (qs 1 S (qL rfl z.list (a1 (cU gA (pv 0) gC (cP ag))))) (ac (bx br rfl (nV rfl z.enumerate (a1 (cU gA (pv 0) (cP ag) (cP ag)))) (fL rfl (aF (gn 2 S) (aF (gn 3 S) dF))) (af (jD (aH cg (xl (pv 1) (aH gg (pv 2) ag)) (pv 3)) (sh (pv 1) (aH gg (pv 2) ag) kK)))) (af (au (bg (a3 (pv 1) ag ag))))))) (by walk_at "b")
theorem xj:jY P w K mg:=fun base=>dG X G T.f_law_anew (fun S _ _ _ _ _ _ _ _ _ hr hu h=>bK (EM (K:=K) h) (ac (jD ag (sh (pv 0) ag kK)) (af (au (pv 0))))) (by walk_at "b")
theorem xg(D_law_spread:jW P w K mg):dg P w K mg:=fun base=>dG X G T.f_law_take (fun S _ _ _ _ _ _ _ _ _ hr hu h=>bK (EE h) (ac (bz (i9 xD (xl (pv 0) ag) (pv 1)) (ac (qs 2 S (xl (pv 0) ag)) (ac (qs 3 S ag) (ac (bz (i9 xD (pv 2) (ql z.len (a1 (xl (pv 0) ag)))) (af (qs 3 S (xl (xl (pv 0) ag) (pv 2)))) (af (bz (i9 xE (ql z.len (a1 (xl (pv 0) ag))) ag) (af (qs 3 S (aH gg (xl (xl (pv 0) ag) (aH gg (aH cg (aH iw (pv 2) ag) ag) (ql z.len (a1 (xl (pv 0) ag))))) (aH cg (aH Dh ag ag) (pv 2))))) aP))) (ac (jD (aH cg (pv 2) ag) (sh (pv 0) ag kK)) (af (jD (qf hr (D_law_spread base) (a2 (pv 3) (pv 2))) (sh (pv 0) ag kK))))))) aP) (ac (qs 4 S (aH gg (xl (pv 0) ag) (pv 1))) (ac (jD (aH AC (xl (pv 0) ag) (pv 1)) (sh (pv 0) ag kK)) (af (au (pv 4))))))) (by walk_at "b")
theorem vN(D_law_take:dg P w K mg):iO P w K mg:=fun base=>dG X G T.f_law_names (fun S _ _ _ _ _ _ _ _ _ hr hu h=>bK (CM h) (ac (qs 2 S bC) (ac (qs 3 S (j6 PySem.F.plainAttrs_str PySem.F.slot_str_join PySem.F.type_str_join E_ bC (a1 (qc (ji rfl z.range (a1 ag)) (aN (by decide)) fun _ _ _ _ _ _=>⟨gc 0,bN,xs' (pv 1) (qf hr (D_law_take base) (a2 (pv 2) ag))⟩)))) (ac (qs 4 S (qf hr (D_law_take base) (a2 (pv 0) ag))) (ac (qs 5 S (qf hr (D_law_take base) (a2 (pv 0) ag))) (ac (qs 6 S (qf hr (D_law_take base) (a2 (pv 0) ag))) (ac (qs 7 S (bg cM)) (ac (bx br rfl (ji rfl z.range (a1 (pv 1))) (gn 8 S) (ac (qs 9 S (xs' (pv 2) (aH gg (aH cg (pv 5) (aH iw ag (pv 8))) ag))) (ac (qs 10 S (cU yV (pv 3) gC (cP (aH gg (aH cg (pv 6) (aH iw (pv 8) (aH gg (pv 4) ag))) ag)))) (ac (qs 11 S (xl (bg (a3 ag (ql z.len (a1 (pv 10))) (aH AC (ql z.len (a1 (pv 10))) ag))) (pv 4))) (af (bp (j6 ik ko kn d9 (pv 7) (a1 (aH sv (aH sv (cU yV (pv 10) gC (cP (pv 11))) (pv 9)) (cU yV (pv 10) (cP (pv 11)) gC)))))))))) (af (au (pv 7))))))))))) (by walk_at "b")
theorem yP:ju P w K mg:=fun base=>dG X G T.f_law_put (fun S _ _ _ _ _ _ _ _ _ hr hu h=>bK (FW h) (af (bz (Es (jk hu) (pv 1) (pv 0)) (af (bp (j6 ik ko kn d9 (pv 0) (a1 (pv 1))))) aP))) (by walk_at "b")
theorem nF(D_law_take:dg P w K mg)(D_law_put:ju P w K mg):gp P w K mg:=fun base=>dG X G T.f_law_draw_doors (fun S _ _ _ _ _ _ _ _ _ hr hu h=>bK (tW h) (ac (qs 5 S (bg cM)) (ac (qs 6 S (qf hr (D_law_take base) (a2 (pv 0) ag))) (ac (bx br rfl (nV rfl z.enumerate (a1 (pv 3))) (fL rfl (aF (gn 7 S) (aF (gn 8 S) dF))) (ac (bx br rfl (ji rfl z.range (a1 (xl (bg (aQ ag (a3 ag ag ag))) (qf hr (D_law_take base) (a2 (pv 0) ag))))) (gn 9 S) (ac (qs 10 S (aB (a2 bC (xl (pv 2) (qf hr (D_law_take base) (a2 (pv 0) (ql z.len (a1 (pv 2))))))))) (af (bp (qf hr (D_law_put base) (a2 (pv 5) (aB (a3 (pv 8) (pv 10) (xl (pv 3) (qf hr (D_law_take base) (a2 (pv 0) (ql z.len (a1 (pv 3)))))))))))))) (ac (bx br rfl (aE (pv 1)) (gn 11 S) (af (bx br rfl (ji rfl z.range (a1 (xl (bg (aQ (pv 4) (a3 ag ag ag))) (qf hr (D_law_take base) (a2 (pv 0) ag))))) (gn 9 S) (af (bp (qf hr (D_law_put base) (a2 (pv 5) (aB (a3 (pv 8) (aB (a2 bC (pv 11))) (xl (pv 3) (qf hr (D_law_take base) (a2 (pv 0) (ql z.len (a1 (pv 3))))))))))))))) (ac (qs 12 S (xl (bg (a2 (cU gA (pv 3) (cP (aH cg (pv 7) ag)) gC) (cU gA (pv 3) gC (cP (pv 7))))) (pv 6))) (af (bz (PW.pt (kM (i9 (sr hu) (pv 12) (bg cM)) (lq (i9 g8 (qf hr (D_law_take base) (a2 (pv 0) ag)) ag)))) (af (bp (qf hr (D_law_put base) (a2 (pv 5) (aB (a3 (pv 8) (aB (a1 bC)) (xq (pv 12) (qf hr (D_law_take base) (a2 (pv 0) (ql z.len (a1 (pv 12)))))))))))) aP)))))) (af (au (pv 5))))))) (by walk_at "b")
theorem vO(D_law_anew:jY P w K mg)(D_law_take:dg P w K mg)(D_law_names:iO P w K mg)(D_law_draw_doors:gp P w K mg):p9 P w K mg:=fun base=>dG X G T.f_law_model (fun S _ _ _ _ _ _ _ _ _ hr hu h=>bK (CN h) (ac (bp (qf hr (D_law_anew base) (a1 (pv 0)))) (ac (qs 3 S (qf hr (D_law_names base) (a2 (pv 0) ag))) (ac (qs 4 S (cU gA (pv 3) gC (cP (aH cg ag (xl (bg (aQ ag (aQ ag (aQ ag (a3 ag ag ag))))) (qf hr (D_law_take base) (a2 (pv 0) ag))))))) (ac (qs 5 S (cU gA (pv 3) (cP ag) (cP (aH cg ag (xl (bg (aQ ag (aQ ag (aQ ag (a3 ag ag ag))))) (qf hr (D_law_take base) (a2 (pv 0) ag))))))) (ac (qs 6 S (qf hr (D_law_names base) (a2 (pv 0) (aH cg ag (qf hr (D_law_take base) (a2 (pv 0) (pv 1))))))) (ac (qs 7 S (qf hr (D_law_draw_doors base) (aQ (pv 0) (aQ (pv 4) (a3 (pv 5) (pv 6) (pv 2)))))) (af (au (aB (aQ (pv 4) (a3 (pv 5) (pv 6) (pv 7))))))))))))) (by walk_at "b")
theorem yQ:pF P w K mg:=fun base=>dG X G T.f_is_name (fun S _ _ _ _ _ _ _ _ _ hr hu h=>bK (y9 h) (af (au (v6 (GY Di (pv 0) bC) (v6 (GY GL (ql z.len (a1 (pv 0))) (j5 rfl c.LONGEST_NAME)) (Dd (qB (p6 rfl) z.all boot_all (a1 (qc (F1 (pv 0)) (aN (by decide)) fun _ _ _ _ _ _=>⟨gc 0,bN,eci zh (pv 0) (j5 rfl c.LETTERS)⟩))))))))) (by walk_at "b")
theorem yR:jv P w K mg:=fun base=>dG X G T.f_as_keys (fun S _ _ _ _ _ _ _ _ _ hr hu h=>bK (y_ h) (ac (qs 1 S kO) (ac (bx br rfl (aE (pv 0)) (gn 2 S) (af (dE hu (pv 1) (pv 2) pU rfl))) (af (au (pv 1)))))) (by walk_at "b")
theorem lO(D_is_name:pF P w K mg)(D_as_keys:jv P w K mg):eX P w K mg:=fun base=>dG X G T.f_first_wrong_name (fun S _ _ _ _ _ _ _ _ _ hr hu h=>bK (lQ h) (ac (bz (i9 g8 (ql z.len (a1 (pv 0))) ag) (af (au ag)) aP) (ac (qs 3 S (qf hr (D_as_keys base) (a1 (pv 2)))) (ac (bx br rfl (nV rfl z.enumerate (a1 (pv 0))) (fL rfl (aF (gn 4 S) (aF (gn 5 S) dF))) (ac (bz (PW.pt (nT (i9 g8 (pv 4) (pv 1)) (nT (db (so hu (pv 5) (pv 3))) (mL (zc (r_ (qf hr (D_is_name base) (a1 (pv 5))))))))) (af (au (pv 4))) aP) (af (dE hu (pv 3) (pv 5) pU rfl)))) (af (au si)))))) (by walk_at "b")
theorem tO:j1 P w K mg:=fun base=>dG X G T.f_door_signs (fun S _ _ _ _ _ _ _ _ _ hr hu h=>bK (tX c.still h) (af (au (aH fN (aH fN (qc (aE (pv 0)) (aN (by decide)) fun _ _ _ _ _ _=>⟨gc 0,bN,aB (a2 bC (pv 0))⟩) (qc (aE (pv 1)) (aN (by decide)) fun _ _ _ _ _ _=>⟨gc 0,bN,aB (a2 bC (pv 0))⟩)) (bg (a1 (j5 rfl c.STILL))))))) (by walk_at "b")
theorem lP(D_as_keys:jv P w K mg):eZ P w K mg:=fun base=>dG X G T.f_first_wrong_door (fun S _ _ _ _ _ _ _ _ _ hr hu h=>bK (lR h) (ac (qs 3 S (qf hr (D_as_keys base) (a1 (pv 1)))) (ac (qs 4 S fM) (ac (bx br rfl (nV rfl z.enumerate (a1 (pv 0))) (fL rfl (aF (gn 5 S) (aF (gn 6 S) dF))) (ac (bz (PW.pt (nT (i9 g8 (pv 5) (j5 rfl c.MOST_DOORS)) (mL (db (so hu (pv 6) (pv 4)))))) (af (au (pv 5))) aP) (ac (bz (PW.pt (nT (db (dw hu (xq (pv 6) ag) (pv 3))) (nT (Es (jk hu) (xq (pv 6) ag) (pv 2)) (mL (db (dw hu (xq (pv 6) ag) (pv 3))))))) (af (au (pv 5))) aP) (af (dE hu (pv 4) (pv 6) pU rfl))))) (af (au si)))))) (by walk_at "b")
theorem iq:cD P w K mg:=fun base=>dG X G T.f_goals_by_start_and_sign (fun S _ _ _ _ _ _ _ _ _ hr hu h=>bK (Bz h) (ac (qs 1 S fM) (ac (bx br rfl (aE (pv 0)) (fL rfl (aF (gn 2 S) (aF (gn 3 S) (aF (gn 4 S) dF)))) (af (bp (j6 ik ko kn d9 (j6 PySem.F.plainAttrs_dict PySem.F.slot_dict_setdefault PySem.F.type_dict_setdefault (BH hu) (pv 1) (a2 (aB (a2 (pv 2) (pv 3))) (bg cM))) (a1 (pv 4)))))) (af (au (pv 1)))))) (by walk_at "b")
theorem qj:iA P w K mg:=fun base=>dG X G T.f_led_by_still (fun S _ _ _ _ _ _ _ _ _ hr hu h=>bK (qo c.still h) (ac (qs 2 S kO) (ac (qs 3 S (bg (a1 (pv 1)))) (ac (xA br (i9 xE (ql z.len (a1 (pv 3))) ag) (ac (qs 4 S (Gf ik PySem.F.slot_list_pop PySem.F.type_list_pop Gg (pv 3))) (af (bx br rfl (F_ (sk hu (pv 0) (aB (a2 (pv 4) (j5 rfl c.STILL))) (aB cM) ⟨rfl,rfl,rfl,rfl⟩)) (gn 5 S) (af (bz (db (dw hu (pv 5) (pv 2))) (ac (dE hu (pv 2) (pv 5) pU rfl) (af (bp (j6 ik ko kn d9 (pv 3) (a1 (pv 5)))))) aP)))))) (af (au (pv 2))))))) (by walk_at "b")
theorem mG:fU P w K mg:=fun base=>dG X G T.f_first_led_round (fun S _ _ _ _ _ _ _ _ _ hr hu h=>bK (mJ h) (ac (bx br rfl (nV rfl z.enumerate (a1 (pv 0))) (fL rfl (aF (gn 2 S) (aF (gn 3 S) dF))) (af (bz (db (so hu (pv 3) (eR hu (pv 1) (pv 3) (fun _ _=>rfl)))) (af (au (pv 2))) aP))) (af (au si)))) (by walk_at "b")
theorem vK:iM P w K mg:=fun base=>dG X G T.f_need_none (fun S _ _ _ _ _ _ _ _ _ hr hu h=>bK (vZ (K:=K) h) (af (bz (db (EX (pv 1))) (af (nU)) aP))) (by walk_at "b")
theorem tG(D_first_wrong_name:eX P w K mg)(D_door_signs:j1 P w K mg)(D_first_wrong_door:eZ P w K mg)(D_need_none:iM P w K mg):jS P w K mg:=fun base=>dG X G T.f_need_parts (fun S _ _ _ _ _ _ _ _ _ hr hu h=>bK (tT (K:=K) h) (ac (bp (qf hr (D_need_none base) (a2 bC (qf hr (D_first_wrong_name base) (a3 (pv 0) (j5 rfl c.MOST_WORDS) (bg cM)))))) (ac (bp (qf hr (D_need_none base) (a2 bC (qf hr (D_first_wrong_name base) (a3 (pv 1) (j5 rfl c.MOST_WORDS) (pv 0)))))) (ac (bp (qf hr (D_need_none base) (a2 bC (qf hr (D_first_wrong_name base) (a3 (pv 2) (j5 rfl c.MOST_ROOMS) (bg cM)))))) (af (bp (qf hr (D_need_none base) (a2 bC (qf hr (D_first_wrong_door base) (a3 (pv 3) (pv 2) (qf hr (D_door_signs base) (a2 (pv 0) (pv 1))))))))))))) (by walk_at "b")
theorem nI:gv P w K mg:=fun base=>dG X G T.f_doors_by_start (fun S _ _ _ _ _ _ _ _ _ hr hu h=>bK (mK h) (ac (qs 2 S kO) (ac (bx br rfl (aE (pv 0)) (gn 3 S) (af (dE hu (pv 2) (pv 3) (bg cM) rfl))) (ac (bx br rfl (aE (pv 1)) (gn 4 S) (af (bp (j6 ik ko kn d9 (eR hu (pv 2) (xq (pv 4) ag) (fun _ _=>rfl)) (a1 (pv 4)))))) (af (au (pv 2))))))) (by walk_at "b")
theorem nH:gu P w K mg:=fun base=>dG X G T.f_has_asks_alone (fun S _ _ _ _ _ _ _ _ _ hr hu h=>bK (nR h) (af (au (qB (p6 rfl) z.all boot_all (a1 (qc (aE (pv 0)) (aN (by decide)) fun _ _ _ _ _ _=>⟨gc 0,bN,GY g8 (xq (xq (pv 0) ag) ag) bC⟩)))))) (by walk_at "b")
theorem yS(D_as_keys:jv P w K mg)(D_goals_by_start_and_sign:cD P w K mg)(D_led_by_still:iA P w K mg)(D_first_led_round:fU P w K mg)(D_need_none:iM P w K mg)(D_need_parts:jS P w K mg)(D_doors_by_start:gv P w K mg)(D_has_asks_alone:gu P w K mg):pG P w K mg C:=fun base=>dN c.cm c.makes c.kc T.f_Machine___init__ (fun S _ _ _ _ _ _ _ _ _ hr hu h=>bK (CP c.mc h) (ac (bp (qf hr (D_need_parts base) (aQ (pv 1) (a3 (pv 2) (pv 3) (pv 4))))) (ac (dO (pv 0) (qL rfl z.list (a1 (pv 1))) rfl) (ac (dO (pv 0) (qL rfl z.list (a1 (pv 2))) rfl) (ac (dO (pv 0) (qL rfl z.list (a1 (pv 3))) rfl) (ac (dO (pv 0) (qL rfl z.list (a1 (pv 4))) rfl) (ac (dO (pv 0) (qf hr (D_doors_by_start base) (a2 (pv 3) (pv 4))) rfl) (ac (dO (pv 0) (qf hr (D_as_keys base) (a1 (qc (aE (pv 3)) (aN (by decide)) fun _ _ _ _ _ _=>⟨gc 0,fK (r_ (qf hr (D_has_asks_alone base) (a1 (eR hu (bZ (pv 1) rfl) (pv 0) (fun _ _=>rfl))))),pv 0⟩))) rfl) (ac (dO (pv 0) (qf hr (D_goals_by_start_and_sign base) (a1 (pv 4))) rfl) (ac (dO (pv 0) (gf (wz rfl) rfl z.dict zO (a1 (qc (aE (pv 3)) (aN (by decide)) fun _ _ _ _ _ _=>⟨gc 0,bN,aB (a2 (pv 0) (qf hr (D_led_by_still base) (a2 (bZ (pv 1) rfl) (pv 0))))⟩))) rfl) (af (bp (qf hr (D_need_none base) (a2 bC (qf hr (D_first_led_round base) (a2 (pv 3) (bZ (pv 0) rfl))))))))))))))))) (by walk_at "b")
theorem rJ(D_Machine:pG P w K mg C):mi P w K mg C:=fun base=>dG X G T.f_law_machine (fun S _ _ _ _ _ _ _ _ _ hr hu h=>bK (xu h) (af (au (sj (D_Machine base) (hr.mono (by decide)) rfl (aQ (qL rfl z.list (a1 (xq (pv 0) ag))) (a3 (qL rfl z.list (a1 (xq (pv 0) ag))) (qL rfl z.list (a1 (xq (pv 0) ag))) (qL rfl z.list (a1 (xq (pv 0) ag))))))))) (by walk_at "b")
theorem oY:du P w K mg C:=fun base=>dM c.mc.cls T.f_Machine_rooms (fun S _ _ _ _ _ _ _ _ _ hr hu h=>bK (CK c.mc h) (af (au (qL rfl z.list (a1 (bZ (pv 0) rfl)))))) (by walk_at "b")
theorem lM:dh P w K mg C:=fun base=>dM c.mc.cls T.f_Machine_led_from (fun S _ _ _ _ _ _ _ _ _ hr hu h=>bK (xv c.mc h) (af (au (qL rfl z.list (a1 (sk hu (bZ (pv 0) rfl) (pv 1) (aB cM) ⟨rfl,rfl,rfl,rfl⟩)))))) (by walk_at "b")
theorem tE(M_Machine_rooms:du P w K mg C)(M_Machine_led_from:dh P w K mg C):hZ P w K mg C:=fun base=>dG X G T.f_with_still (fun S _ _ _ _ _ _ _ _ _ hr hu h=>bK (tS h) (ac (qs 2 S kO) (ac (bx br rfl (aE (pv 1)) (gn 3 S) (af (bz (db (dw hu (pv 3) (pv 2))) (ac (dE hu (pv 2) (pv 3) pU rfl) (af (bx br rfl (aE (qm hr (M_Machine_led_from base) (pv 0) (a1 (pv 3)))) (gn 4 S) (af (dE hu (pv 2) (pv 4) pU rfl))))) aP))) (af (au (gf eP rfl z.tuple gM (a1 (qc (aE (C8 hr (M_Machine_rooms base) (pv 0))) (aN (by decide)) fun _ _ _ _ _ _=>⟨gc 0,fK (db (so hu (pv 0) (pv 1))),pv 0⟩)))))))) (by walk_at "b")
theorem oZ:eV P w K mg C:=fun base=>dM c.mc.cls T.f_Machine_goals (fun S _ _ _ _ _ _ _ _ _ hr hu h=>bK (Bu c.mc h) (af (au (qL rfl z.list (a1 (sk hu (bZ (pv 0) rfl) (aB (a2 (pv 1) (pv 2))) (aB cM) ⟨rfl,rfl,rfl,rfl⟩)))))) (by walk_at "b")
theorem lN:e_ P w K mg C:=fun base=>dM c.mc.cls T.f_Machine_is_quiet (fun S _ _ _ _ _ _ _ _ _ hr hu h=>bK (xw c.mc h) (af (au (Ge (so hu (pv 1) (bZ (pv 0) rfl)))))) (by walk_at "b")
theorem qk:cX P w K mg:=fun base=>dG X G T.f_law_still_on (fun S _ _ _ _ _ _ _ _ _ hr hu h=>bK (xp h) (ac (qs 2 S (qL rfl z.list (a1 (pv 1)))) (ac (qs 3 S ag) (ac (xA br (i9 xD (pv 3) (ql z.len (a1 (pv 2)))) (ac (bx br rfl (aE (pv 0)) (fL rfl (aF (gn 4 S) (aF (gn 5 S) (aF (gn 6 S) dF)))) (af (bz (PW.pt (kM (i9 (iW hu) (pv 4) (xq (pv 2) (pv 3))) (kM (i9 (iW hu) (pv 5) (aB (a1 bC))) (lq (Es (jk hu) (pv 6) (pv 2)))))) (af (bp (j6 ik ko kn d9 (pv 2) (a1 (pv 6))))) aP))) (af (qs 3 S (aH cg (pv 3) ag))))) (af (au (pv 2))))))) (by walk_at "b")
theorem qi:dX P w K mg C:=fun base=>dM c.mc.cls T.f_Machine_asks (fun S _ _ _ _ _ _ _ _ _ hr hu h=>bK (EL c.mc h) (af (au (qL rfl z.list (a1 (bZ (pv 0) rfl)))))) (by walk_at "b")
theorem qh:dW P w K mg C:=fun base=>dM c.mc.cls T.f_Machine_says (fun S _ _ _ _ _ _ _ _ _ hr hu h=>bK (EF c.mc h) (af (au (qL rfl z.list (a1 (bZ (pv 0) rfl)))))) (by walk_at "b")
theorem tN(M_Machine_rooms:du P w K mg C)(D_with_still:hZ P w K mg C):jZ P w K mg C:=fun base=>dG X G T.f_first_face (fun S _ _ _ _ _ _ _ _ _ hr hu h=>bK (tV h) (af (au (qf hr (D_with_still base) (a2 (pv 0) (cU gA (C8 hr (M_Machine_rooms base) (pv 0)) gC (cP ag))))))) (by walk_at "b")
theorem rK(D_with_still:hZ P w K mg C)(M_Machine_goals:eV P w K mg C)(M_Machine_is_quiet:e_ P w K mg C):i0 P w K mg C:=fun base=>dG X G T.f_face_behind (fun S _ _ _ _ _ _ _ _ _ hr hu h=>bK (EJ c.hush h) (ac (bz (i9 (iW hu) (pv 2) (j5 rfl c.HUSH)) (af (au (gf eP rfl z.tuple gM (a1 (qc (ze (pv 1)) (aN (by decide)) fun _ _ _ _ _ _=>⟨gc 0,fK (r_ (qm hr (M_Machine_is_quiet base) (pv 1) (a1 (pv 0)))),pv 0⟩))))) aP) (ac (qs 3 S (bg cM)) (ac (bx br rfl (ze (pv 1)) (gn 4 S) (af (bp (j6 ik PySem.F.slot_list_extend PySem.F.type_list_extend BI (pv 3) (a1 (qm hr (M_Machine_goals base) (pv 0) (a2 (pv 4) (pv 2)))))))) (af (au (qf hr (D_with_still base) (a2 (pv 0) (pv 3))))))))) (by walk_at "b")
theorem nD(M_Machine_asks:dX P w K mg C)(M_Machine_says:dW P w K mg C):gl P w K mg C a_HUSH:=fun base=>dG X G T.f_signs_in_order (fun S _ _ _ _ _ _ _ _ _ hr hu h=>bK (FV h) (af (au (aH fN (aH fN (qc (aE (C8 hr (M_Machine_asks base) (pv 0))) (aN (by decide)) fun _ _ _ _ _ _=>⟨gc 0,bN,aB (a2 bC (pv 0))⟩) (qc (aE (C8 hr (M_Machine_says base) (pv 0))) (aN (by decide)) fun _ _ _ _ _ _=>⟨gc 0,bN,aB (a2 bC (pv 0))⟩)) (bg (a1 (j5 rfl c.HUSH))))))) (by walk_at "b")
theorem xf(D_face_behind:i0 P w K mg C)(D_signs_in_order:gl P w K mg C a_HUSH):ng P w K mg C:=fun base=>dG X G T.f_steps_at (fun S _ _ _ _ _ _ _ _ _ hr hu h=>bK (y8 c.hush h) (ac (qs 2 S fM) (ac (bx br rfl (aE (qf hr (D_signs_in_order base) (a1 (pv 0)))) (gn 3 S) (ac (qs 4 S (qf hr (D_face_behind base) (a3 (pv 0) (pv 1) (pv 3)))) (af (bz (i9 xE (ql z.len (a1 (pv 4))) ag) (af (C_ hu (pv 2) (pv 3) (pv 4) rfl)) aP)))) (af (au (pv 2)))))) (by walk_at "b")
theorem tP:h_ P w K mg Ck:=fun base=>dN c.cmksc c.makesksc c.kcksc T.f_KnownSteps___init__ (fun S _ _ _ _ _ _ _ _ _ hr hu h=>bK (Bx c.ksc h) (ac (dO (pv 0) (pv 1) rfl) (af (dO (pv 0) fM rfl)))) (by walk_at "b")
theorem iU(D_steps_at:ng P w K mg C):cf P w K mg C Ck:=fun base=>dM c.ksc.cls T.f_KnownSteps_steps_from (fun S _ _ _ _ _ _ _ _ _ hr hu h=>bK (By c.ksc h) (ac (bz (db (dw hu (pv 1) (bZ (pv 0) rfl))) (af (dE hu (bZ (pv 0) rfl) (pv 1) (qf hr (D_steps_at base) (a2 (bZ (pv 0) rfl) (pv 1))) rfl)) aP) (af (au (eR hu (bZ (pv 0) rfl) (pv 1) (fun _ _=>rfl)))))) (by walk_at "b")
theorem tI:jU P w K mg:=fun base=>dG X G T.f_need_depth (fun S _ _ _ _ _ _ _ _ _ hr hu h=>bK (tU (K:=K) h) (af (bz (PW.pt (nT (i9 xD (pv 0) ag) (mL (i9 xE (pv 0) (j5 rfl c.DEEPEST))))) (af (nU)) aP))) (by walk_at "b")
theorem yO:lJ P w K mg:=fun base=>dG X G T.f_product (fun S _ _ _ _ _ _ _ _ _ hr hu h=>bK (rW h) (ac (qs 1 S ag) (ac (bx br rfl (aE (pv 0)) (gn 2 S) (af (qs 1 S (aH AB (pv 1) (pv 2))))) (af (au (pv 1)))))) (by walk_at "b")
theorem Ew(M_Machine_says:dW P w K mg C)(D_KnownSteps:h_ P w K mg Ck):z5 P w K mg C Ck Cd:=fun base=>dN c.cmdc c.makesdc c.kcdc T.f_Made___init__ (fun S _ _ _ _ _ _ _ _ _ hr hu h=>bK (Bv c.dc h) (ac (dO (pv 0) (qc (aE (C8 hr (M_Machine_says base) (pv 1))) (aN (by decide)) fun _ _ _ _ _ _=>⟨gc 0,bN,aB (a2 bC (pv 0))⟩) rfl) (ac (dO (pv 0) (sj (D_KnownSteps base) (hr.mono (by decide)) rfl (a1 (pv 1))) rfl) (af (dO (pv 0) fM rfl))))) (by walk_at "b")
theorem mF(M_KnownSteps_steps_from:cf P w K mg C Ck):cJ P w K mg C Ck Cd:=fun base=>dM c.dc.cls T.f_Made_steps_from (fun S _ _ _ _ _ _ _ _ _ hr hu h=>bK (Bw c.dc h) (af (au (qm hr (M_KnownSteps_steps_from base) (bZ (pv 0) rfl) (a1 (pv 1)))))) (by walk_at "b")
theorem oW(M_Made_steps_from:cJ P w K mg C Ck Cd):eT P w K mg C Ck Cd:=fun base=>dM c.dc.cls T.f_Made_kinds_at (fun S _ _ _ _ _ _ _ _ _ hr hu h=>bK (Bt c.dc c.hush h) (ac (FZ 2 S (Dc (qm hr (M_Made_steps_from base) (pv 0) (a1 (pv 1)))) (aN (by decide)) fun _ _ _ _ _ _=>⟨gc 0,fK (i9 g8 (xq (pv 0) ag) bC),pv 0⟩) (af (au (aH fN (qc (aE (pv 2)) (aN (by decide)) fun _ _ _ _ _ _=>⟨gc 0,bN,aH fN (bg (a1 (pv 0))) (bZ (pv 1) rfl)⟩) (bg (a1 (aH fN (bZ (pv 0) rfl) (bg (a1 (j5 rfl c.HUSH))))))))))) (by walk_at "b")
theorem oX(D_product:lJ P w K mg)(M_Made_steps_from:cJ P w K mg C Ck Cd)(M_Made_kinds_at:eT P w K mg C Ck Cd):eU P w K mg C Ck Cd:=fun base=>by
  have E0:pD P w K mg base Cd "count_of" ["self","face","d","signs"] 7 CD:=by
   obtain⟨f,a,i,t⟩:=T.f_Made_count_of;obtain⟨fd,F⟩:=t.fun_;exact⟨f,fd,AD,c.dc.cls,⟨a,i,F.kp⟩,F.binds (ps:=["self","face","d","signs"]) (by walk_at "b")⟩
  have sA:∀(n D:Nat) (sp:Sp),7<=n->D<=4->(∀m,D=m+1->sp=(kI K C Ck Cd m))->pD P w K mg base Cd "count_of" ["self","face","d","signs"] n sp->pD P w K mg base Cd "count_at" ["self","face","d"] (n+1) (gG C Ck Cd D):=fun n D sp hb hD hS Mr=>dM c.dc.cls T.f_Made_count_at (fun S _ _ _ _ _ _ _ _ _ hr hu h=>bK (CT c.dc hD hS h) (ac (bz (PW.pt (nT (db (v7 (pv 1))) (mL (i9 g8 (pv 2) ag)))) (af (au ag)) aP) (ac (bz (db (dw hu (aB (a2 (pv 1) (pv 2))) (bZ (pv 0) rfl))) (ac (FZ 3 S (aE (qm (k0:=7) (hr.mono (aD (by decide) hb)) (M_Made_kinds_at base) (pv 0) (a1 (pv 1)))) (aN (by decide)) fun _ _ _ _ _ _=>⟨gc 0,bN,qm (hk:=aA _) hr Mr (pv 3) (a3 (pv 1) (pv 2) (pv 0))⟩) (af (dE hu (bZ (pv 0) rfl) (aB (a2 (pv 1) (pv 2))) (aH cg ag (qB (uL rfl) z.sum boot_sum (a1 (pv 3)))) rfl))) aP) (af (au (eR hu (bZ (pv 0) rfl) (aB (a2 (pv 1) (pv 2))) (fun _ _=>rfl))))))) (by walk_at "b");have sB:∀n D:Nat,7<=n->pD P w K mg base Cd "count_at" ["self","face","d"] n (gG C Ck Cd D)->pD P w K mg base Cd "count_of" ["self","face","d","signs"] (n+1) (kI K C Ck Cd D):=fun n D hb Mr=>dM c.dc.cls T.f_Made_count_of (fun S _ _ _ _ _ _ _ _ _ hr hu h=>bK (CS h) (ac (qs 4 S (qm (k0:=6) (hr.mono (aD (by decide) hb)) (M_Made_steps_from base) (pv 0) (a1 (pv 1)))) (af (au (qf (k0:=1) (hr.mono (aD (by decide) hb)) (D_product base) (a1 (qc (aE (pv 3)) (aN (by decide)) fun _ _ _ _ _ _=>⟨gc 0,bN,qm (hk:=aA _) hr Mr (pv 1) (a2 (sn hu (pv 3) (pv 0) ⟨rfl,rfl,rfl,rfl⟩) (aH o8 (pv 2) ag))⟩))))))) (by walk_at "b");have A0:=sA 7 0 _ (by decide) (by decide) (fun m e=>by cases e) E0;have B0:=sB 8 0 (by decide) A0;have A1:=sA 9 1 _ (by decide) (by decide) (fun m e=>by cases e;rfl) B0;have B1:=sB 10 1 (by decide) A1;have A2:=sA 11 2 _ (by decide) (by decide) (fun m e=>by cases e;rfl) B1;have B2:=sB 12 2 (by decide) A2;have A3:=sA 13 3 _ (by decide) (by decide) (fun m e=>by cases e;rfl) B2;have B3:=sB 14 3 (by decide) A3;have A4:=sA 15 4 _ (by decide) (by decide) (fun m e=>by cases e;rfl) B3;exact A4
theorem CC(M_Machine_led_from:dh P w K mg C)(M_Machine_goals:eV P w K mg C):wQ P w K mg C:=fun base=>dG X G T.f_takes (fun S _ _ _ _ _ _ _ _ _ hr hu h=>bK (CI h) (af (au (qB (yb rfl) z.any boot_any (a1 (qc (aE (aH fN (bg (a1 (pv 1))) (qm hr (M_Machine_led_from base) (pv 0) (a1 (pv 1))))) (aN (by decide)) fun _ _ _ _ _ _=>⟨gc 0,bN,GY xE (ql z.len (a1 (qm hr (M_Machine_goals base) (pv 1) (a2 (pv 0) (aB (a2 bC (pv 2))))))) ag⟩)))))) (by walk_at "b")
theorem tH(M_Machine_asks:dX P w K mg C)(M_Machine_says:dW P w K mg C):jT P w K mg C:=fun base=>dG X G T.f_need_match (fun S _ _ _ _ _ _ _ _ _ hr hu h=>bK (rY h) (af (bz (PW.pt (nT (i9 (sr hu) (C8 hr (M_Machine_asks base) (pv 0)) (C8 hr (M_Machine_asks base) (pv 1))) (mL (i9 (sr hu) (C8 hr (M_Machine_says base) (pv 0)) (C8 hr (M_Machine_says base) (pv 1)))))) (af (nU)) aP))) (by walk_at "b")
theorem jz(M_Machine_rooms:du P w K mg C)(M_Machine_asks:dX P w K mg C)(D_takes:wQ P w K mg C):dB P w K mg C:=fun base=>dG X G T.f_need_all_asks_taken (fun S _ _ _ _ _ _ _ _ _ hr hu h=>bK (v3 h) (af (bx br rfl (aE (C8 hr (M_Machine_rooms base) (pv 0))) (gn 1 S) (af (bx br rfl (aE (C8 hr (M_Machine_asks base) (pv 0))) (gn 2 S) (af (bz (zc (r_ (qf hr (D_takes base) (a3 (pv 0) (pv 1) (pv 2))))) (af (nU)) aP))))))) (by walk_at "b")
theorem tF(D_need_match:jT P w K mg C)(D_need_all_asks_taken:dB P w K mg C):jR P w K mg C:=fun base=>dG X G T.f_need_taker (fun S _ _ _ _ _ _ _ _ _ hr hu h=>bK (rX (K:=K) h) (ac (bp (qf hr (D_need_match base) (a2 (pv 0) (pv 1)))) (af (bp (qf hr (D_need_all_asks_taken base) (a1 (pv 1))))))) (by walk_at "b")
theorem yT(D_KnownSteps:h_ P w K mg Ck)(D_Made:z5 P w K mg C Ck Cd):pH P w K mg C Ck Cd Cb:=fun base=>dN c.cmbc c.makesbc c.kcbc T.f_Blamers___init__ (fun S _ _ _ _ _ _ _ _ _ hr hu h=>bK (BA c.bc h) (ac (dO (pv 0) (sj (D_Made base) (hr.mono (by decide)) rfl (a1 (pv 1))) rfl) (ac (dO (pv 0) (sj (D_KnownSteps base) (hr.mono (by decide)) rfl (a1 (pv 2))) rfl) (ac (dO (pv 0) fM rfl) (af (dO (pv 0) fM rfl)))))) (by walk_at "b")
theorem nC(M_KnownSteps_steps_from:cf P w K mg C Ck)(M_Made_steps_from:cJ P w K mg C Ck Cd):gw P w K mg C Ck Cd Cb:=fun base=>dM c.bc.cls T.f_Blamers_places (fun S _ _ _ _ _ _ _ _ _ hr hu h=>bK (Bs c.bc h) (ac (qs 4 S (qm hr (M_Made_steps_from base) (bZ (pv 0) rfl) (a1 (pv 1)))) (ac (qs 5 S (qm hr (M_KnownSteps_steps_from base) (bZ (pv 0) rfl) (a1 (pv 2)))) (af (au (qc (aE (pv 3)) (aN (by decide)) fun _ _ _ _ _ _=>⟨gc 0,bN,aB (a2 (sn hu (pv 1) (pv 0) ⟨rfl,rfl,rfl,rfl⟩) (sn hu (pv 2) (pv 0) ⟨rfl,rfl,rfl,rfl⟩))⟩)))))) (by walk_at "b")
theorem jy(D_product:lJ P w K mg)(M_Made_kinds_at:eT P w K mg C Ck Cd)(M_Made_count_at:eU P w K mg C Ck Cd)(M_Blamers_places:gw P w K mg C Ck Cd Cb):dC P w K mg C Ck Cd Cb:=fun base=>by
  have E0:pD P w K mg base Cb "harmless_of" ["self","face","mine","d","signs"] 16 CD:=by
   obtain⟨f,a,i,t⟩:=T.f_Blamers_harmless_of;obtain⟨fd,F⟩:=t.fun_;exact⟨f,fd,AD,c.bc.cls,⟨a,i,F.kp⟩,F.binds (ps:=["self","face","mine","d","signs"]) (by walk_at "b")⟩
  have sA:∀(n D:Nat) (sp:Sp),16<=n->D<=4->(∀m,D=m+1->sp=(rR K C Ck Cd Cb m))->pD P w K mg base Cb "harmless_of" ["self","face","mine","d","signs"] n sp->pD P w K mg base Cb "harmless_at" ["self","face","mine","d"] (n+1) (mI C Ck Cd Cb D):=fun n D sp hb hD hS Mr=>dM c.bc.cls T.f_Blamers_harmless_at (fun S _ _ _ _ _ _ _ _ _ hr hu h=>bK (FY c.bc hD hS h) (ac (bz (db (v7 (pv 2))) (af (au (qm (k0:=16) (hr.mono (aD (by decide) hb)) (M_Made_count_at base) (bZ (pv 0) rfl) (a2 (pv 1) (pv 3))))) aP) (ac (bz (db (v7 (pv 1))) (af (au ag)) aP) (ac (bz (i9 g8 (pv 3) ag) (af (au ag)) aP) (ac (bz (db (dw hu (aB (a3 (pv 1) (pv 2) (pv 3))) (bZ (pv 0) rfl))) (ac (FZ 4 S (aE (qm (k0:=7) (hr.mono (aD (by decide) hb)) (M_Made_kinds_at base) (bZ (pv 0) rfl) (a1 (pv 1)))) (aN (by decide)) fun _ _ _ _ _ _=>⟨gc 0,bN,qm (hk:=aA _) hr Mr (pv 4) (aQ (pv 1) (a3 (pv 2) (pv 3) (pv 0)))⟩) (af (dE hu (bZ (pv 0) rfl) (aB (a3 (pv 1) (pv 2) (pv 3))) (aH cg ag (qB (uL rfl) z.sum boot_sum (a1 (pv 4)))) rfl))) aP) (af (au (eR hu (bZ (pv 0) rfl) (aB (a3 (pv 1) (pv 2) (pv 3))) (fun _ _=>rfl))))))))) (by walk_at "b");have sB:∀n D:Nat,16<=n->pD P w K mg base Cb "harmless_at" ["self","face","mine","d"] n (mI C Ck Cd Cb D)->pD P w K mg base Cb "harmless_of" ["self","face","mine","d","signs"] (n+1) (rR K C Ck Cd Cb D):=fun n D hb Mr=>dM c.bc.cls T.f_Blamers_harmless_of (fun S _ _ _ _ _ _ _ _ _ hr hu h=>bK (FX h) (af (au (qf (k0:=1) (hr.mono (aD (by decide) hb)) (D_product base) (a1 (qc (aE (qm (k0:=7) (hr.mono (aD (by decide) hb)) (M_Blamers_places base) (pv 0) (a3 (pv 1) (pv 2) (pv 4)))) (AA (jj (aN (by decide)) d_ (jj (aN (by decide)) d_ (xC) (jm)) (jF d_ (jm)))) fun _ _ _ _ _ _=>⟨fL rfl (aF (gc 0) (aF (gc 1) dF)),bN,qm (hk:=aA _) hr Mr (pv 2) (a3 (pv 0) (pv 1) (aH o8 (pv 3) ag))⟩)))))) (by walk_at "b");have A0:=sA 16 0 _ (by decide) (by decide) (fun m e=>by cases e) E0;have B0:=sB 17 0 (by decide) A0;have A1:=sA 18 1 _ (by decide) (by decide) (fun m e=>by cases e;rfl) B0;have B1:=sB 19 1 (by decide) A1;have A2:=sA 20 2 _ (by decide) (by decide) (fun m e=>by cases e;rfl) B1;have B2:=sB 21 2 (by decide) A2;have A3:=sA 22 3 _ (by decide) (by decide) (fun m e=>by cases e;rfl) B2;have B3:=sB 23 3 (by decide) A3;have A4:=sA 24 4 _ (by decide) (by decide) (fun m e=>by cases e;rfl) B3;exact A4
theorem nG(D_first_face:jZ P w K mg C)(D_need_depth:jU P w K mg)(M_Made_count_at:eU P w K mg C Ck Cd)(D_need_taker:jR P w K mg C)(D_Blamers:pH P w K mg C Ck Cd Cb)(M_Blamers_harmless_at:dC P w K mg C Ck Cd Cb):gq P w K mg C:=fun base=>dG X G T.f_how_many_blame (fun S _ _ _ _ _ _ _ _ _ hr hu h=>bK (CQ c.bc h) (ac (bp (qf hr (D_need_taker base) (a2 (pv 0) (pv 2)))) (ac (bp (qf hr (D_need_depth base) (a1 (pv 1)))) (ac (qs 3 S (sj (D_Blamers base) (hr.mono (by decide)) rfl (a2 (pv 0) (pv 2)))) (ac (qs 4 S (qf hr (D_first_face base) (a1 (pv 0)))) (af (au (aH o8 (qm hr (M_Made_count_at base) (bZ (pv 3) rfl) (a2 (pv 4) (pv 1))) (qm hr (M_Blamers_harmless_at base) (pv 3) (a3 (pv 4) (qf hr (D_first_face base) (a1 (pv 2))) (pv 1))))))))))) (by walk_at "b")
theorem rG(D_law_take:dg P w K mg)(D_law_put:ju P w K mg)(D_law_still_on:cX P w K mg):iY P w K mg:=fun base=>dG X G T.f_law_willing (fun S _ _ _ _ _ _ _ _ _ hr hu h=>bK (yZ h) (ac (jD (pv 1) (fL rfl (aF (gn 2 S) (aF (gn 3 S) (aF (gn 4 S) (aF (gn 5 S) dF)))))) (ac (qs 5 S (qL rfl z.list (a1 (pv 5)))) (ac (bx br rfl (aE (pv 4)) (gn 6 S) (af (bx br rfl (aE (pv 2)) (gn 7 S) (ac (qs 8 S (qf hr (D_law_still_on base) (a2 (pv 5) (bg (a1 (pv 6)))))) (af (bz (i9 (iW hu) (qc (aE (pv 5)) (aN (by decide)) fun _ _ _ _ _ _=>⟨gc 0,fK (PW.pt (kM (Es (v8 hu) (xq (pv 0) ag) (pv 1)) (lq (i9 (iW hu) (xq (pv 0) ag) (aB (a2 bC (pv 2))))))),pv 0⟩) (bg cM)) (ac (qs 9 S (xl (bg (a2 (pv 6) (xl (pv 4) (qf hr (D_law_take base) (a2 (pv 0) (ql z.len (a1 (pv 4)))))))) (qf hr (D_law_take base) (a2 (pv 0) ag)))) (af (bp (qf hr (D_law_put base) (a2 (pv 5) (aB (a3 (pv 6) (aB (a2 bC (pv 7))) (pv 9)))))))) aP)))))) (af (au (aB (aQ (pv 2) (a3 (pv 3) (pv 4) (pv 5)))))))))) (by walk_at "b")
theorem tJ(D_law_take:dg P w K mg)(D_law_put:ju P w K mg)(D_law_still_on:cX P w K mg):jV P w K mg:=fun base=>dG X G T.f_law_turned (fun S _ _ _ _ _ _ _ _ _ hr hu h=>bK (Bo h) (ac (jD (pv 1) (fL rfl (aF (gn 2 S) (aF (gn 3 S) (aF (gn 4 S) (aF (gn 5 S) dF)))))) (ac (qs 5 S (qL rfl z.list (a1 (pv 5)))) (ac (qs 6 S (qf hr (D_law_take base) (a2 (pv 0) ag))) (ac (qs 7 S (qf hr (D_law_take base) (a2 (pv 0) (qB (BZ rfl) z.max PyProof.Rows.boot_max (a2 ag (ql z.len (a1 (pv 5)))))))) (ac (qs 8 S (xl (pv 4) (qf hr (D_law_take base) (a2 (pv 0) (ql z.len (a1 (pv 4))))))) (ac (qs 9 S (xl (pv 4) (qf hr (D_law_take base) (a2 (pv 0) (ql z.len (a1 (pv 4))))))) (ac (bz (i9 g8 (pv 6) ag) (af (bp (qf hr (D_law_put base) (a2 (pv 5) (aB (a3 (pv 8) (aB (a2 bC (xl (pv 3) (qf hr (D_law_take base) (a2 (pv 0) (ql z.len (a1 (pv 3)))))))) (pv 9))))))) (af (bz (i9 g8 (pv 6) ag) (af (bp (qf hr (D_law_put base) (a2 (pv 5) (aB (a3 (pv 8) (aB (a2 bC (xl (pv 2) (qf hr (D_law_take base) (a2 (pv 0) (ql z.len (a1 (pv 2)))))))) (pv 9))))))) (af (bz (PW.pt (kM (i9 xD (pv 6) ag) (kM (i9 (sr hu) (pv 5) (bg cM)) (lq (i9 Di (xt (xt (xl (pv 5) (pv 7)) ag) ag) bC))))) (ac (qs 10 S (j6 ik PySem.F.slot_list_pop PySem.F.type_list_pop Dq (pv 5) (a1 (pv 7)))) (af (bz (i9 g8 (pv 6) ag) (af (bp (qf hr (D_law_put base) (a2 (pv 5) (aB (a3 (xt (pv 10) ag) (xt (pv 10) ag) (pv 9))))))) aP))) (af (bz (PW.pt (kM (i9 g8 (pv 6) ag) (lq (Es (jk hu) (pv 8) (qf hr (D_law_still_on base) (a2 (pv 5) (bg (a1 (pv 9))))))))) (af (bp (qf hr (D_law_put base) (a2 (pv 5) (aB (a3 (pv 8) (aB (a1 bC)) (pv 9))))))) aP))))))) (af (au (aB (aQ (pv 2) (a3 (pv 3) (pv 4) (pv 5)))))))))))))) (by walk_at "b")
theorem rH(D_law_take:dg P w K mg)(D_law_names:iO P w K mg):iZ P w K mg:=fun base=>dG X G T.f_law_renamed (fun S _ _ _ _ _ _ _ _ _ hr hu h=>bK (xr h) (ac (jD (pv 1) (fL rfl (aF (gn 2 S) (aF (gn 3 S) (aF (gn 4 S) (aF (gn 5 S) dF)))))) (ac (qs 6 S kO) (ac (bx br rfl (EQ rfl z.zip (a2 (pv 4) (qf hr (D_law_names base) (a2 (pv 0) (ql z.len (a1 (pv 4))))))) (fL rfl (aF (gn 7 S) (aF (gn 8 S) dF))) (af (dE hu (pv 6) (pv 7) (pv 8) rfl))) (ac (FZ 9 S (aE (pv 4)) (aN (by decide)) fun _ _ _ _ _ _=>⟨gc 0,bN,eR hu (pv 1) (pv 0) (fun _ _=>rfl)⟩) (ac (qs 10 S (aH cg ag (qf hr (D_law_take base) (a2 (pv 0) (ql z.len (a1 (pv 4))))))) (ac (qs 9 S (aH fN (aH fN (cU gA (pv 9) gC (cP ag)) (cU gA (pv 9) (cP (pv 10)) gC)) (cU gA (pv 9) (cP ag) (cP (pv 10))))) (ac (FZ 5 S (aE (pv 5)) (AA (jj (aN (by decide)) d_ (jj (aN (by decide)) d_ (jj (aN (by decide)) d_ (xC) (jm)) (jF d_ (jm))) (jF d_ (jF d_ (jm))))) fun _ _ _ _ _ _=>⟨fL rfl (aF (gc 0) (aF (gc 1) (aF (gc 2) dF))),bN,aB (a3 (eR hu (pv 3) (pv 0) (fun _ _=>rfl)) (pv 1) (eR hu (pv 3) (pv 2) (fun _ _=>rfl)))⟩) (af (au (aB (aQ (pv 2) (a3 (pv 3) (pv 9) (pv 5)))))))))))))) (by walk_at "b")
theorem xi(D_law_anew:jY P w K mg)(D_law_take:dg P w K mg)(D_law_willing:iY P w K mg)(D_law_turned:jV P w K mg)(D_law_renamed:iZ P w K mg):tj P w K mg:=fun base=>dG X G T.f_law_near (fun S _ _ _ _ _ _ _ _ _ hr hu h=>bK (EH (K:=K) h) (ac (bp (qf hr (D_law_anew base) (a1 (pv 0)))) (ac (bx br rfl (ji rfl z.range (a1 (qf hr (D_law_take base) (a2 (pv 0) (aH cg (pv 2) ag))))) (gn 3 S) (af (qs 1 S (qf hr (D_law_turned base) (a2 (pv 0) (pv 1)))))) (ac (qs 1 S (qf hr (D_law_willing base) (a2 (pv 0) (pv 1)))) (ac (bz (i9 g8 (qf hr (D_law_take base) (a2 (pv 0) ag)) ag) (af (qs 1 S (qf hr (D_law_renamed base) (a2 (pv 0) (pv 1))))) aP) (af (au (pv 1)))))))) (by walk_at "b")
theorem tM(D_law_still_on:cX P w K mg):h7 P w K mg:=fun base=>dG X G T.f_law_behind (fun S _ _ _ _ _ _ _ _ _ hr hu h=>bK (EK h) (ac (jD (pv 0) (fL rfl (aF (gn 3 S) (aF (gn 4 S) (aF (gn 5 S) (aF (gn 6 S) dF)))))) (ac (bz (i9 (iW hu) (pv 2) (aB (a1 bC))) (ac (qs 7 S (qc (aE (pv 6)) (aN (by decide)) fun _ _ _ _ _ _=>⟨gc 0,fK (i9 Di (xt (xt (pv 0) ag) ag) bC),xt (pv 0) ag⟩)) (af (au (gf eP rfl z.tuple gM (a1 (qc (ze (pv 1)) (aN (by decide)) fun _ _ _ _ _ _=>⟨gc 0,fK (Es (jk hu) (pv 0) (pv 1)),pv 0⟩)))))) aP) (ac (qs 8 S (qf hr (D_law_still_on base) (a2 (pv 6) (qc (aE (pv 6)) (aN (by decide)) fun _ _ _ _ _ _=>⟨gc 0,fK (PW.pt (kM (Es (v8 hu) (xt (pv 0) ag) (pv 1)) (lq (i9 (iW hu) (xt (pv 0) ag) (pv 2))))),xt (pv 0) ag⟩)))) (af (au (gf eP rfl z.tuple gM (a1 (qc (aE (pv 5)) (aN (by decide)) fun _ _ _ _ _ _=>⟨gc 0,fK (Es (v8 hu) (pv 0) (pv 1)),pv 0⟩))))))))) (by walk_at "b")
theorem vQ(D_law_still_on:cX P w K mg):k7 P w K mg:=fun base=>dG X G T.f_law_begin (fun S _ _ _ _ _ _ _ _ _ hr hu h=>bK (CU h) (ac (qs 1 S (qf hr (D_law_still_on base) (a2 (xq (pv 0) ag) (bg (a1 (xq (xq (pv 0) ag) ag)))))) (af (au (gf eP rfl z.tuple gM (a1 (qc (aE (xq (pv 0) ag)) (aN (by decide)) fun _ _ _ _ _ _=>⟨gc 0,fK (Es (v8 hu) (pv 0) (pv 1)),pv 0⟩))))))) (by walk_at "b")
theorem nE:eB P w K mg:=fun base=>dG X G T.f_law_part_signs (fun S _ _ _ _ _ _ _ _ _ hr hu h=>bK (CL h) (ac (FZ 2 S (aE (xq (pv 0) ag)) (aN (by decide)) fun _ _ _ _ _ _=>⟨gc 0,bN,aB (a2 bC (pv 0))⟩) (ac (bz (db (v7 (pv 1))) (af (au (aH fN (pv 2) (bg (a1 (aB (a1 bC))))))) aP) (af (au (aH fN (bg (a1 (aB (a2 bC (pv 1))))) (pv 2))))))) (by walk_at "b")
theorem vS(D_law_behind:h7 P w K mg):gQ P w K mg:=fun base=>dG X G T.f_law_after (fun S _ _ _ _ _ _ _ _ _ hr hu h=>bK (CW h) (ac (bz (db (dw hu (aB (a2 (pv 2) (pv 3))) (pv 1))) (af (dE hu (pv 1) (aB (a2 (pv 2) (pv 3))) (qf hr (D_law_behind base) (a3 (pv 0) (pv 2) (pv 3))) rfl)) aP) (af (au (eR hu (pv 1) (aB (a2 (pv 2) (pv 3))) (fun _ _=>rfl)))))) (by walk_at "b")
theorem vR(D_law_after:gQ P w K mg):iQ P w K mg:=fun base=>dG X G T.f_law_asked (fun S _ _ _ _ _ _ _ _ _ hr hu h=>bK (CV h) (af (au (qc (aE (xq (pv 0) ag)) (aN (by decide)) fun _ _ _ _ _ _=>⟨gc 0,fK (i9 (sr hu) (qf hr (D_law_after base) (aQ (pv 1) (a3 (pv 2) (pv 3) (aB (a2 bC (pv 0)))))) (aB cM)),pv 0⟩)))) (by walk_at "b")
theorem vL:iN P w K mg:=fun base=>dG X G T.f_law_times (fun S _ _ _ _ _ _ _ _ _ hr hu h=>bK (CH h) (ac (qs 1 S ag) (ac (bx br rfl (aE (pv 0)) (gn 2 S) (af (qs 1 S (aH AB (pv 1) (pv 2))))) (af (au (pv 1)))))) (by walk_at "b")
theorem vP(D_law_part_signs:eB P w K mg)(D_law_after:gQ P w K mg)(D_law_asked:iQ P w K mg)(D_law_times:iN P w K mg):iP P w K mg:=fun base=>by
  have E0:fV P w K mg base "_law_sizes" ["told","known","face","ask","deep"] 4 CD:=by
   obtain⟨f,a,t⟩:=T.f_law_sizes;obtain⟨fd,F⟩:=t.fun_;exact⟨f,fd,AD,eF X G a,F.kp,F.binds (ps:=["told","known","face","ask","deep"]) (by walk_at "b")⟩
  have sA:∀(n D:Nat) (sp:Sp),4<=n->D<=4->(∀m,D=m+1->sp=(kF K m))->fV P w K mg base "_law_sizes" ["told","known","face","ask","deep"] n sp->fV P w K mg base "_law_count" ["told","known","face","deep"] (n+1) (iH K D):=fun n D sp hb hD hS Mr=>dG X G T.f_law_count (fun S _ _ _ _ _ _ _ _ _ hr hu h=>bK (EI hD hS h) (ac (bz (PW.pt (nT (i9 (iW hu) (pv 2) (aB cM)) (mL (i9 g8 (pv 3) ag)))) (af (au ag)) aP) (ac (bz (db (dw hu (aB (a2 (pv 2) (pv 3))) (pv 1))) (ac (qs 4 S ag) (ac (bx br rfl (aE (aH fN (qf (k0:=4) (hr.mono (aD (by decide) hb)) (D_law_asked base) (a3 (pv 0) (pv 1) (pv 2))) (bg (a1 si)))) (gn 5 S) (af (qs 4 S (aH cg (pv 4) (qf (k0:=1) (hr.mono (aD (by decide) hb)) (D_law_times base) (a1 (qf (hk:=aA _) hr Mr (aQ (pv 0) (aQ (pv 1) (a3 (pv 2) (pv 5) (pv 3))))))))))) (af (dE hu (pv 1) (aB (a2 (pv 2) (pv 3))) (pv 4) rfl)))) aP) (af (au (eR hu (pv 1) (aB (a2 (pv 2) (pv 3))) (fun _ _=>rfl))))))) (by walk_at "b");have sB:∀n D:Nat,4<=n->fV P w K mg base "_law_count" ["told","known","face","deep"] n (iH K D)->fV P w K mg base "_law_sizes" ["told","known","face","ask","deep"] (n+1) (kF K D):=fun n D hb Mr=>dG X G T.f_law_sizes (fun S _ _ _ _ _ _ _ _ _ hr hu h=>bK (CJ h) (ac (qs 5 S (bg cM)) (ac (bx br rfl (aE (qf (k0:=1) (hr.mono (aD (by decide) hb)) (D_law_part_signs base) (a2 (pv 0) (pv 3)))) (gn 6 S) (af (bp (j6 ik ko kn d9 (pv 5) (a1 (qf (hk:=aA _) hr Mr (aQ (pv 0) (a3 (pv 1) (qf (k0:=3) (hr.mono (aD (by decide) hb)) (D_law_after base) (aQ (pv 0) (a3 (pv 1) (pv 2) (pv 6)))) (aH o8 (pv 4) ag))))))))) (af (au (pv 5)))))) (by walk_at "b");have A0:=sA 4 0 _ (by decide) (by decide) (fun m e=>by cases e) E0;have B0:=sB 5 0 (by decide) A0;have A1:=sA 6 1 _ (by decide) (by decide) (fun m e=>by cases e;rfl) B0;have B1:=sB 7 1 (by decide) A1;have A2:=sA 8 2 _ (by decide) (by decide) (fun m e=>by cases e;rfl) B1;have B2:=sB 9 2 (by decide) A2;have A3:=sA 10 3 _ (by decide) (by decide) (fun m e=>by cases e;rfl) B2;have B3:=sB 11 3 (by decide) A3;have A4:=sA 12 4 _ (by decide) (by decide) (fun m e=>by cases e;rfl) B3;exact A4
theorem tL(D_law_behind:h7 P w K mg)(D_law_part_signs:eB P w K mg)(D_law_after:gQ P w K mg)(D_law_asked:iQ P w K mg)(D_law_times:iN P w K mg)(D_law_count:iP P w K mg):jX P w K mg:=fun base=>by
  have E0:fV P w K mg base "_law_spared" ["told","other","known","own","face","deep"] 13 CD:=by
   obtain⟨f,a,t⟩:=T.f_law_spared;obtain⟨fd,F⟩:=t.fun_;exact⟨f,fd,AD,eF X G a,F.kp,F.binds (ps:=["told","other","known","own","face","deep"]) (by walk_at "b")⟩
  have sA:∀(n D:Nat) (sp:Sp),13<=n->D<=4->(∀m,D=m+1->sp=(ga K m))->fV P w K mg base "_law_spared" ["told","other","known","own","face","deep"] n sp->fV P w K mg base "_law_spared" ["told","other","known","own","face","deep"] (n+1) (ga K D):=fun n D sp hb hD hS Mr=>dG X G T.f_law_spared (fun S _ _ _ _ _ _ _ _ _ hr hu h=>bK (Bq hD hS h) (ac (bz (i9 (iW hu) (pv 3) (aB cM)) (af (au (qf (k0:=13) (hr.mono (aD (by decide) hb)) (D_law_count base) (aQ (pv 0) (a3 (pv 2) (pv 4) (pv 5)))))) aP) (ac (bz (i9 (iW hu) (pv 4) (aB cM)) (af (au ag)) aP) (ac (bz (i9 g8 (pv 5) ag) (af (au ag)) aP) (ac (bz (db (dw hu (aB (a3 (pv 3) (pv 4) (pv 5))) (pv 2))) (ac (qs 6 S ag) (ac (bx br rfl (aE (aH fN (qf (k0:=4) (hr.mono (aD (by decide) hb)) (D_law_asked base) (a3 (pv 0) (pv 2) (pv 4))) (bg (a1 si)))) (gn 7 S) (ac (qs 8 S (bg cM)) (ac (bx br rfl (aE (qf (k0:=1) (hr.mono (aD (by decide) hb)) (D_law_part_signs base) (a2 (pv 0) (pv 7)))) (gn 9 S) (ac (qs 10 S (qf (k0:=2) (hr.mono (aD (by decide) hb)) (D_law_behind base) (a3 (pv 1) (pv 3) (pv 9)))) (af (bp (j6 ik ko kn d9 (pv 8) (a1 (FE Mr hr rfl (aQ (pv 0) (aQ (pv 1) (aQ (pv 2) (a3 (pv 10) (qf (k0:=3) (hr.mono (aD (by decide) hb)) (D_law_after base) (aQ (pv 0) (a3 (pv 2) (pv 4) (pv 9)))) (aH o8 (pv 5) ag)))))))))))) (af (qs 6 S (aH cg (pv 6) (qf (k0:=1) (hr.mono (aD (by decide) hb)) (D_law_times base) (a1 (pv 8))))))))) (af (dE hu (pv 2) (aB (a3 (pv 3) (pv 4) (pv 5))) (pv 6) rfl)))) aP) (af (au (eR hu (pv 2) (aB (a3 (pv 3) (pv 4) (pv 5))) (fun _ _=>rfl))))))))) (by walk_at "b");have A0:=sA 13 0 _ (by decide) (by decide) (fun m e=>by cases e) E0;have A1:=sA 14 1 _ (by decide) (by decide) (fun m e=>by cases e;rfl) A0;have A2:=sA 15 2 _ (by decide) (by decide) (fun m e=>by cases e;rfl) A1;have A3:=sA 16 3 _ (by decide) (by decide) (fun m e=>by cases e;rfl) A2;have A4:=sA 17 4 _ (by decide) (by decide) (fun m e=>by cases e;rfl) A3;exact A4
theorem vM(D_how_many_blame:gq P w K mg C)(D_law_begin:k7 P w K mg)(D_law_count:iP P w K mg)(D_law_spared:jX P w K mg):p8 P w K mg C:=fun base=>dG X G T.f_law_right (fun S _ _ _ _ _ _ _ _ _ hr hu h=>bK (Br h) (ac (qs 6 S (qf hr (D_law_count base) (aQ (pv 0) (a3 (pv 5) (qf hr (D_law_begin base) (a1 (pv 0))) (pv 4))))) (ac (qs 6 S (aH o8 (pv 6) (qf hr (D_law_spared base) (aQ (pv 0) (aQ (pv 2) (aQ (pv 5) (a3 (qf hr (D_law_begin base) (a1 (pv 2))) (qf hr (D_law_begin base) (a1 (pv 0))) (pv 4)))))))) (ac (qs 7 S (qf hr (D_how_many_blame base) (a3 (pv 1) (pv 4) (pv 3)))) (af (au (v6 (qB ya z.isinstance yd (a2 (pv 7) (BE rfl z.int))) (v6 (Gb (qB ya z.isinstance yd (a2 (pv 7) (zg rfl z.bool)))) (Dd (GY g8 (pv 7) (pv 6))))))))))) (by walk_at "b")
end
theorem Gh(X:K.In h)(G:h.Ns bG mg)(z:Zs mg)(c:Cs K mg C Ck Cd Cb a_STILL a_HUSH)(T:Ts K C Ck Cd Cb):∃f fd,mg "law"=some (.ref f)/\(∀(s:Shared) (v:Value),qO s fd ⟨[v],[]⟩ [("script",v)])/\∀base:Heap,k5 P w K mg base CX0 28 f fd ["script"] (sp_law46 K):=by
 have D_law_spread:jW P w K mg:=tK X G z c T;have D_law_open:tf P w K mg:=xh X G z c T;have D_law_anew:jY P w K mg:=xj X G z c T;have D_law_take:dg P w K mg:=xg X G z c T D_law_spread;have D_law_names:iO P w K mg:=vN X G z c T D_law_take;have D_law_put:ju P w K mg:=yP X G z c T;have D_law_draw_doors:gp P w K mg:=nF X G z c T D_law_take D_law_put;have D_law_model:p9 P w K mg:=vO X G z c T D_law_anew D_law_take D_law_names D_law_draw_doors;have D_is_name:pF P w K mg:=yQ X G z c T;have D_as_keys:jv P w K mg:=yR X G z c T;have D_first_wrong_name:eX P w K mg:=lO X G z c T D_is_name D_as_keys;have D_door_signs:j1 P w K mg:=tO X G z c T;have D_first_wrong_door:eZ P w K mg:=lP X G z c T D_as_keys;have D_goals_by_start_and_sign:cD P w K mg:=iq X G z c T;have D_led_by_still:iA P w K mg:=qj X G z c T;have D_first_led_round:fU P w K mg:=mG X G z c T;have D_need_none:iM P w K mg:=vK X G z c T;have D_need_parts:jS P w K mg:=tG X G z c T D_first_wrong_name D_door_signs D_first_wrong_door D_need_none;have D_doors_by_start:gv P w K mg:=nI X G z c T;have D_has_asks_alone:gu P w K mg:=nH X G z c T;have D_Machine:pG P w K mg C:=yS X G z c T D_as_keys D_goals_by_start_and_sign D_led_by_still D_first_led_round D_need_none D_need_parts D_doors_by_start D_has_asks_alone;have D_law_machine:mi P w K mg C:=rJ X G z c T D_Machine;have M_Machine_rooms:du P w K mg C:=oY X G z c T;have M_Machine_led_from:dh P w K mg C:=lM X G z c T;have D_with_still:hZ P w K mg C:=tE X G z c T M_Machine_rooms M_Machine_led_from
 have M_Machine_goals:eV P w K mg C:=oZ X G z c T;have M_Machine_is_quiet:e_ P w K mg C:=lN X G z c T;have D_law_still_on:cX P w K mg:=qk X G z c T;have M_Machine_asks:dX P w K mg C:=qi X G z c T;have M_Machine_says:dW P w K mg C:=qh X G z c T;have D_first_face:jZ P w K mg C:=tN X G z c T M_Machine_rooms D_with_still;have D_face_behind:i0 P w K mg C:=rK X G z c T D_with_still M_Machine_goals M_Machine_is_quiet;have D_signs_in_order:gl P w K mg C a_HUSH:=nD X G z c T M_Machine_asks M_Machine_says;have D_steps_at:ng P w K mg C:=xf X G z c T D_face_behind D_signs_in_order;have D_KnownSteps:h_ P w K mg Ck:=tP X G z c T;have M_KnownSteps_steps_from:cf P w K mg C Ck:=iU X G z c T D_steps_at;have D_need_depth:jU P w K mg:=tI X G z c T;have D_product:lJ P w K mg:=yO X G z c T;have D_Made:z5 P w K mg C Ck Cd:=Ew X G z c T M_Machine_says D_KnownSteps;have M_Made_steps_from:cJ P w K mg C Ck Cd:=mF X G z c T M_KnownSteps_steps_from
 have M_Made_kinds_at:eT P w K mg C Ck Cd:=oW X G z c T M_Made_steps_from
 have M_Made_count_at:eU P w K mg C Ck Cd:=oX X G z c T D_product M_Made_steps_from M_Made_kinds_at;have D_takes:wQ P w K mg C:=CC X G z c T M_Machine_led_from M_Machine_goals;have D_need_match:jT P w K mg C:=tH X G z c T M_Machine_asks M_Machine_says;have D_need_all_asks_taken:dB P w K mg C:=jz X G z c T M_Machine_rooms M_Machine_asks D_takes;have D_need_taker:jR P w K mg C:=tF X G z c T D_need_match D_need_all_asks_taken;have D_Blamers:pH P w K mg C Ck Cd Cb:=yT X G z c T D_KnownSteps D_Made;have M_Blamers_places:gw P w K mg C Ck Cd Cb:=nC X G z c T M_KnownSteps_steps_from M_Made_steps_from
 have M_Blamers_harmless_at:dC P w K mg C Ck Cd Cb:=jy X G z c T D_product M_Made_kinds_at M_Made_count_at M_Blamers_places;have D_how_many_blame:gq P w K mg C:=nG X G z c T D_first_face D_need_depth M_Made_count_at D_need_taker D_Blamers M_Blamers_harmless_at;have D_law_willing:iY P w K mg:=rG X G z c T D_law_take D_law_put D_law_still_on;have D_law_turned:jV P w K mg:=tJ X G z c T D_law_take D_law_put D_law_still_on;have D_law_renamed:iZ P w K mg:=rH X G z c T D_law_take D_law_names;have D_law_near:tj P w K mg:=xi X G z c T D_law_anew D_law_take D_law_willing D_law_turned D_law_renamed;have D_law_behind:h7 P w K mg:=tM X G z c T D_law_still_on;have D_law_begin:k7 P w K mg:=vQ X G z c T D_law_still_on;have D_law_part_signs:eB P w K mg:=nE X G z c T;have D_law_after:gQ P w K mg:=vS X G z c T D_law_behind;have D_law_asked:iQ P w K mg:=vR X G z c T D_law_after;have D_law_times:iN P w K mg:=vL X G z c T;have D_law_count:iP P w K mg:=vP X G z c T D_law_part_signs D_law_after D_law_asked D_law_times;have D_law_spared:jX P w K mg:=tL X G z c T D_law_behind D_law_part_signs D_law_after D_law_asked D_law_times D_law_count;have D_law_right:p8 P w K mg C:=vM X G z c T D_how_many_blame D_law_begin D_law_count D_law_spared;obtain⟨f,a,t⟩:=T.f_law46;obtain⟨oc,od,an,sl,kV,dc,pm,cd,ct,l,c1,k1⟩:=t;have F:=DF (st:=(dY 73)) l c1 k1;have sc:jQ A8 C9 (bT (dY 73)):=by walk_at "s"
 have S:=sc.nd;exact⟨f,_,eF X G a,fun s v=>.of_eq rfl,fun base=>F.ok (k:=27) sc (by walk_at "l") (fun _ _ _ _ _ _ _ _ hr h=>by have hu:=AK hr;exact bK (CO (C:=C) h) (ac (qs 1 S (qf hr (D_law_open base) (a1 (pv 0)))) (ac (qs 2 S (qf hr (D_law_model base) (a3 (pv 1) ag (qf hr (D_law_take base) (a2 (pv 1) ag))))) (ac (qs 3 S (qf hr (D_law_machine base) (a1 (pv 2)))) (ac (qs 4 S (bg (a2 (qf hr (D_law_near base) (a3 (pv 1) (pv 2) ag)) (qf hr (D_law_near base) (a3 (pv 1) (pv 2) ag))))) (ac (FZ 5 S (aE (pv 4)) (aN (by decide)) fun _ _ _ _ _ _=>⟨gc 0,bN,qf hr (D_law_machine base) (a1 (pv 0))⟩) (ac (qs 6 S (bg (a2 fM fM))) (ac (bx br rfl (aE (bg (aQ ag (aQ ag (a3 ag ag ag))))) (gn 7 S) (af (bx br rfl (aE (bg (a3 ag ag ag))) (gn 8 S) (af (bz (zc (r_ (qf hr (D_law_right base) (aQ (pv 2) (aQ (pv 3) (aQ (xl (pv 4) (pv 8)) (a3 (xl (pv 5) (pv 8)) (pv 7) (xl (pv 6) (pv 8))))))))) (af (au pU)) aP))))) (af (au pU))))))))))⟩
theorem all_mk{l:PySem.W.OpenLaw}{fa:Addr}{u_LETTERS:Value}{u_LONGEST_NAME:Value}{u_MOST_WORDS:Value}{u_MOST_ROOMS:Value}{u_MOST_DOORS:Value}{u_DEEPEST:Value}{o_STILL:Obj}{i_STILL:Array Value}{n_STILL:Nat}{o_HUSH:Obj}{i_HUSH:Array Value}{n_HUSH:Nat}(X:K.In h)(G:h.Ns bG mg)(hfa:mg "law"=some (.ref fa))
  (aC:bV K bG "Machine"=some (some (.ref C)))
  (pg:pK K C wR=true)
  (hd:qP K C=true)
  (po:ui K C=true)
  (sa:ck K (.ref C) "__setattr__"=some (some (.builtin "object.__setattr__")))
  (mk:kj K C=true)
  (kc:fk K (.ref C)=true)
  (na1:ck K (.ref C) "own_asks"=some none)
  (na2:ck K (.ref C) "own_says"=some none)
  (na3:ck K (.ref C) "own_rooms"=some none)
  (na4:ck K (.ref C) "own_doors"=some none)
  (na5:ck K (.ref C) "leaving"=some none)
  (na6:ck K (.ref C) "quiet"=some none)
  (na7:ck K (.ref C) "sign_goals"=some none)
  (na8:ck K (.ref C) "still_led"=some none)
  (aksc:bV K bG "KnownSteps"=some (some (.ref Ck)))
  (pgksc:pK K Ck wR=true)
  (hdksc:qP K Ck=true)
  (poksc:ui K Ck=true)
  (saksc:ck K (.ref Ck) "__setattr__"=some (some (.builtin "object.__setattr__")))
  (mkksc:kj K Ck=true)
  (kcksc:fk K (.ref Ck)=true)
  (nksc1:ck K (.ref Ck) "machine"=some none)
  (nksc2:ck K (.ref Ck) "known"=some none)
  (adc:bV K bG "Made"=some (some (.ref Cd)))
  (pgdc:pK K Cd wR=true)
  (hddc:qP K Cd=true)
  (podc:ui K Cd=true)
  (sadc:ck K (.ref Cd) "__setattr__"=some (some (.builtin "object.__setattr__")))
  (mkdc:kj K Cd=true)
  (kcdc:fk K (.ref Cd)=true)
  (ndc1:ck K (.ref Cd) "says_signs"=some none)
  (ndc2:ck K (.ref Cd) "known_steps"=some none)
  (ndc3:ck K (.ref Cd) "known_counts"=some none)
  (Hm:bV K bG "Blamers"=some (some (.ref Cb)))
  (pgbc:pK K Cb wR=true)
  (hdbc:qP K Cb=true)
  (pobc:ui K Cb=true)
  (sabc:ck K (.ref Cb) "__setattr__"=some (some (.builtin "object.__setattr__")))
  (mkbc:kj K Cb=true)
  (kcbc:fk K (.ref Cb)=true)
  (nbc1:ck K (.ref Cb) "made"=some none)
  (nbc2:ck K (.ref Cb) "own_steps"=some none)
  (nbc3:ck K (.ref Cb) "known_harmless"=some none)
  (nbc4:ck K (.ref Cb) "known_firsts"=some none)
  (z_all:bV K bG "all"=some none)
  (z_any:bV K bG "any"=some none)
  (z_bool:bV K bG "bool"=some none)
  (z_dict:bV K bG "dict"=some none)
  (z_enumerate:bV K bG "enumerate"=some none)
  (z_int:bV K bG "int"=some none)
  (z_isinstance:bV K bG "isinstance"=some none)
  (z_len:bV K bG "len"=some none)
  (z_list:bV K bG "list"=some none)
  (z_max:bV K bG "max"=some none)
  (z_range:bV K bG "range"=some none)
  (z_sum:bV K bG "sum"=some none)
  (z_tuple:bV K bG "tuple"=some none)
  (z_zip:bV K bG "zip"=some none)
  (g_LETTERS:bV K bG "LETTERS"=some (some u_LETTERS))
  (r_LETTERS:RelV (.str "abcdefghijklmnopqrstuvwxyz") u_LETTERS)
  (g_LONGEST_NAME:bV K bG "LONGEST_NAME"=some (some u_LONGEST_NAME))
  (r_LONGEST_NAME:RelV (.int 8) u_LONGEST_NAME)
  (g_MOST_WORDS:bV K bG "MOST_WORDS"=some (some u_MOST_WORDS))
  (r_MOST_WORDS:RelV (.int 4) u_MOST_WORDS)
  (g_MOST_ROOMS:bV K bG "MOST_ROOMS"=some (some u_MOST_ROOMS))
  (r_MOST_ROOMS:RelV (.int 150) u_MOST_ROOMS)
  (g_MOST_DOORS:bV K bG "MOST_DOORS"=some (some u_MOST_DOORS))
  (r_MOST_DOORS:RelV (.int 2000) u_MOST_DOORS)
  (g_DEEPEST:bV K bG "DEEPEST"=some (some u_DEEPEST))
  (r_DEEPEST:RelV (.int 4) u_DEEPEST)
  (g_STILL:bV K bG "STILL"=some (some (.ref a_STILL)))
  (l_STILL:K.lookup a_STILL=some o_STILL)
  (c_STILL:o_STILL.cls=.type "tuple")
  (d_STILL:o_STILL.data=.seq i_STILL n_STILL)
  (s_STILL:i_STILL.size<=aj)
  (v_STILL:ba (av.map V.str) i_STILL.toList)
  (g_HUSH:bV K bG "HUSH"=some (some (.ref a_HUSH)))
  (l_HUSH:K.lookup a_HUSH=some o_HUSH)
  (c_HUSH:o_HUSH.cls=.type "tuple")
  (d_HUSH:o_HUSH.data=.seq i_HUSH n_HUSH)
  (s_HUSH:i_HUSH.size<=aj)
  (v_HUSH:ba (b9.map V.str) i_HUSH.toList)
  (T:Ts K C Ck Cd Cb)
 :∃fd:j3,(∀(s:Shared) (v:Value),qO s fd ⟨[v],[]⟩ [("script",v)])/\∀base:Heap,K.In base->base.Ns bG mg->k5 l.prog w K mg base CX0 28 fa fd ["script"] (sp_law46 K):=by
 have z:Zs mg:=⟨fz X G z_all,fz X G z_any,fz X G z_bool,fz X G z_dict,fz X G z_enumerate,fz X G z_int,fz X G z_isinstance,fz X G z_len,fz X G z_list,fz X G z_max,fz X G z_range,fz X G z_sum,fz X G z_tuple,fz X G z_zip⟩;have c:Cs K mg C Ck Cd Cb a_STILL a_HUSH:=⟨⟨_,eF X G g_LETTERS,r_LETTERS⟩,⟨_,eF X G g_LONGEST_NAME,r_LONGEST_NAME⟩,⟨_,eF X G g_MOST_WORDS,r_MOST_WORDS⟩,⟨_,eF X G g_MOST_ROOMS,r_MOST_ROOMS⟩,⟨_,eF X G g_MOST_DOORS,r_MOST_DOORS⟩,⟨_,eF X G g_DEEPEST,r_DEEPEST⟩,⟨_,eF X G g_STILL,rfl⟩,⟨_,eF X G g_HUSH,rfl⟩,Ak l_STILL c_STILL d_STILL s_STILL v_STILL,Ak l_HUSH c_HUSH d_HUSH s_HUSH v_HUSH,⟨⟨pg,hd,po,sa⟩,na1,na2,na3,na4,na5,na6,na7,na8⟩,eF X G aC,mk,kc,⟨⟨pgksc,hdksc,poksc,saksc⟩,nksc1,nksc2⟩,eF X G aksc,mkksc,kcksc,⟨⟨pgdc,hddc,podc,sadc⟩,ndc1,ndc2,ndc3⟩,eF X G adc,mkdc,kcdc,⟨⟨pgbc,hdbc,pobc,sabc⟩,nbc1,nbc2,nbc3,nbc4⟩,eF X G Hm,mkbc,kcbc⟩;obtain⟨f,fd,e,b,k⟩:=Gh (P:=l.prog) (w:=w) X G z c T;have e0:=hfa.symm.trans e;cases e0;exact⟨fd,b,fun base _ _=>k base⟩
end
end Mum
namespace PySem.W.Fast
def tw3883040974985660221:=0
def tw6732293073560968047:=0
def tw16394323721893361949:=0
def tw1694486948981875242:=0
def tw10179242960984232224:=0
def tw10070549533507139396:=0
def tw12052788399994686104:=0
def tw3971727883785601916:=0
def tw1481542309542710980:=0
def tw17338222345227191508:=0
def tw12961917533746904540:=0
def tw1241000435425344784:=0
def tw4590940729841086150:=0
def tw9005255085473780927:=0
def tw11093027170036571145:=0
def tw4137976382833085506:=0
def tw12397691935827674885:=0
def tw14725653681236151633:=0
def tw6045951324098019154:=0
def tw3795374787215322251:=0
def tw3620354693755927354:=0
def tw5514203750489659920:=0
def tw1271964977131880952:=0
def tw3389979006962329531:=0
def tw10495678489005387552:=0
def tw13265433769939066834:=0
def tw6650851909357640550:=0
def tw14495251102517099249:=0
def tw18160864265149983948:=0
def tw9677856727140059517:=0
def tw7843529445219009322:=0
def tw10950788175062934022:=0
def tw12433404452558534744:=0
def tw11489480469543082429:=0
def tw15444823531653532996:=0
def tw2631950867104551711:=0
def tw9167347240803340206:=0
def tw5292949427454987777:=0
def tw940826520259060082:=0
def tw11524249501305924463:=0
def tw6802762287085024703:=0
def tw4254559265347892682:=0
def tw14453484313487291629:=0
def tw5052151285927127910:=0
def tw5092976894884764092:=0
def tw17024823629468926799:=0
def tw15609486403924595491:=0
def tw5517851409012129239:=0
def tw17866969393089197664:=0
def tw10914925166563071146:=0
def tw11808630048077864918:=0
def tw12721354371375538034:=0
def tw6550053029991212198:=0
def tw8307107057936846104:=0
def tw8909093015938224113:=0
def tw10882826236947642546:=0
def tw5441374678762276125:=0
def tw298327979049359617:=0
def tw15611511789980503945:=0
def tw6970761862200744619:=0
def tw3828640318315688607:=0
def tw5504593899402787958:=0
def tw18178244843173252000:=0
def tw2158815828932813832:=0
def tw4566425713072813671:=0
def tw10508615717213832382:=0
def tw16186699146037601985:=0
def tw8302556554907883439:=0
def tw7216125108437621247:=0
def tw16656263188464152564:=0
def tw14785052828887786313:=0
def tw17247111861377063976:=0
def tw11820373451817142399:=0
def tw13515366051650912308:=0
def tw3342150616455352456:=0
def tw6405568415448130647:=0
def tw11122788990006408695:=0
def tw6685520430195973200:=0
def tw2820757616839485757:=0
def tw10468321491588114947:=0
def tw16363854217667089763:=0
def tw1487623551381072212:=0
def tw15145600270337635719:=0
def tw16882026466914132540:=0
def tw3869667800100204948:=0
def tw15822627542581673053:=0
def tw7794127028901798587:=0
def tw8281723339478361781:=0
def tw1607305610176385532:=0
def tw15123124254119712445:=0
def tw17244286851289546299:=0
def tw12428322141126831524:=0
def tw13863688114910520067:=0
def tw10440479824140525468:=0
def tw12768979790733467077:=0
def tw18296297357472309745:=0
def tw12536738484450275509:=0
def tw9797947422375291328:=0
def tw16653722985871266833:=0
def tw803917174562223901:=0
def tw7124998699873905013:=0
def tw1636503120124192994:=0
def tw14920081719033220320:=0
def tw5020143158794294820:=0
def tw9650782925941287341:=0
def tw4114185716112620424:=0
def tw5017465864693870221:=0
def tw14837662150094812445:=0
def tw6858889907217172584:=0
def tw253816490744292649:=0
def tw4804819668658755972:=0
def tw16014830440754097274:=0
def tw6217684229885653867:=0
def tw12343274668037605233:=0
def tw9458694355561185758:=0
def tw17588024593009517467:=0
def tw7451530926965326611:=0
def tw15143656146809300236:=0
def tw927872176007928953:=0
def tw12406656263324426581:=0
def tw3516345788106577000:=0
def tw15536806361621496889:=0
def tw18111026473160642603:=0
def tw4164743494346690043:=0
def tw15680320969427837085:=0
def tw4928508793457253518:=0
def tw1243777539021515092:=0
def tw10650981861390054568:=0
def tw16018807767208491912:=0
def tw9975560190578599502:=0
def tw3922491717913377177:=0
def tw15599574926825712745:=0
def tw4257662642129703885:=0
def tw168362956061538730:=0
def tw17773046918096173153:=0
def tw8293056487731427685:=0
def tw17914763789607562679:=0
def tw7305755901922973488:=0
def tw14280301401130572306:=0
def tw14842228709088625850:=0
def tw4636617313204095928:=0
def tw17474601157297020721:=0
def tw10433215559524893270:=0
def tw10881776497319687600:=0
def tw7839156210199394079:=0
def tw8785042398689825714:=0
def tw17176362253703403695:=0
def tw3339210344528000112:=0
def tw16242144114698506011:=0
def tw9862194336818388602:=0
def tw4257925275725992514:=0
def tw9567030830154027041:=0
def tw15234853473708110848:=0
def tw4686131750438494468:=0
def tw5237910468969808263:=0
def tw3376095966536430966:=0
def tw4564350660098282130:=0
def tw14088569791163218366:=0
def tw11099180457413234852:=0
def tw15185354490089127798:=0
def tw7377392395008166113:=0
def tw3647780833874956430:=0
def tw7514260216487258311:=0
def tw4456093567264455580:=0
def tw2567206109576170316:=0
def tw13008721655226480772:=0
def tw14972718855052983983:=0
def tw6170877435711198571:=0
def tw12693053823767359833:=0
def tw9667465320758012982:=0
def tw6508926087471382338:=0
def tw5424348337846892754:=0
def tw3640026162524081013:=0
def tw8547727746378548243:=0
def tw13632239402957495379:=0
def tw9108584328334479283:=0
def tw14127193537067147200:=0
def tw4017307731816469295:=0
def tw4139209114362431676:=0
def tw8032545869518075857:=0
def tw10597552463820150607:=0
def tw15252696679961037961:=0
def tw2003007715961185488:=0
def tw14596696690042960317:=0
def tw11831567075347100684:=0
def tw728942560409988934:=0
def tw12353194296905714900:=0
def tw17590844290831727742:=0
def tw5332076773896383675:=0
def tw349279348657316550:=0
def tw7169836064125654428:=0
def tw15070139901618269657:=0
def tw8302706664534693551:=0
def tw13490606751838162533:=0
def tw1366731876645638222:=0
def tw9511332227993537457:=0
def tw73557207074283913:=0
def tw10774597516923546150:=0
def tw4339145291992324000:=0
def tw8106464447387831884:=0
def tw7237751474693576305:=0
def tw7831047392527666935:=0
def tw16923564332538046995:=0
def tw2341236665580310751:=0
def tw2804548497023363224:=0
def tw6690389229936584490:=0
def tw5649662806669040565:=0
def tw14665129786320122620:=0
def tw16750276011768192437:=0
def tw13920481260218654351:=0
def tw13765614103484761848:=0
def tw5126786867637462770:=0
def tw18129909898686445659:=0
def tw12560259780953222701:=0
def tw3104570388704204083:=0
def tw12318353387434420692:=0
def tw3228677234676488290:=0
def tw8432675473451269478:=0
def tw7845521619542793385:=0
def tw213493127341555133:=0
def tw17354162211438882779:=0
def tw1231176911668573942:=0
def tw10916282073244853996:=0
def tw12713299879138786932:=0
def tw18147849960330112243:=0
def tw3164425743602788990:=0
def tw18283559367845587382:=0
def tw9884553715352508435:=0
def tw11189581073989819170:=0
def tw17973420652182330765:=0
def tw11329650819776747891:=0
def tw14838191804549439849:=0
def tw15669778481263198326:=0
def tw3252414396657931775:=0
def tw18361094566671717696:=0
def tw365804135913148309:=0
def tw5624912862537058110:=0
def tw15990286688847244017:=0
def tw18365515051304536160:=0
def tw4308691314316672168:=0
def tw16291091279732824602:=0
def tw5038838018958523467:=0
def tw7612106960189784592:=0
def tw1760383381988893950:=0
def tw8686469226023954374:=0
def tw14554827120858048926:=0
def tw14608785823891785720:=0
def tw14548533247511709766:=0
def tw16394132852467921706:=0
def tw16645528863006261944:=0
def tw13259161311293395185:=0
def tw8844945162853311696:=0
def tw9253760068201908161:=0
def tw13104565336031929544:=0
def tw4569833981068048881:=0
def tw5591715644127955793:=0
def tw13152435439412298868:=0
def tw8451651154582733527:=0
def tw11236548590411295705:=0
def tw3772475003979675593:=0
def tw8582318208166064449:=0
def tw7948901132009678767:=0
def tw14561457043549557514:=0
def tw11252387390077639608:=0
def tw16342081045025115339:=0
def tw12649958523489335484:=0
def tw2710754836630434625:=0
def tw13677113975554032398:=0
def tw16685918050802346858:=0
def tw5341328095869988904:=0
def tw13498994197908820964:=0
def tw13218784318521286055:=0
def tw12077002590723121841:=0
def tw15078226715836542809:=0
def tw3825297419692929488:=0
def tw2377462084168437289:=0
def tw5222384012207906982:=0
def tw17588556667261343393:=0
def tw15539168582416547071:=0
def tw12434322305373840806:=0
def tw15557829817204468192:=0
def tw5446523096479986958:=0
def tw1029710754109349800:=0
def tw8815078964810439559:=0
def tw3806197497731162956:=0
def tw16905903303729192551:=0
def tw10595693695699050838:=0
def tw8851968804873709987:=0
def tw12299223776271323627:=0
def tw13168913368005557813:=0
def tw2759717996375041219:=0
def tw13119333874145586865:=0
def tw14424817023004376741:=0
def tw14342783633741476519:=0
def tw17958088650910378785:=0
def tw14564404352810512194:=0
def tw1589339520665275225:=0
def tw4881075458088422150:=0
def tw3191958975793092141:=0
def tw430532409504864141:=0
def tw11510949684799704302:=0
def tw13562593275995537769:=0
def tw18412312464500509854:=0
def tw6206175944757968825:=0
def tw858786151046606888:=0
def tw16490062395683281467:=0
def tw13997022871231225769:=0
def tw16019847070042645356:=0
def tw12772093149983633591:=0
def tw5526811728770910307:=0
def tw1039200277036082605:=0
def tw16370887605453866841:=0
def tw12338131616055027843:=0
def tw10137018797564169099:=0
def tw17593606053054249653:=0
def tw5603431228058957981:=0
def tw204134509453307405:=0
def tw9992781270732142631:=0
def tw12270147540164206936:=0
def tw1765034685268747026:=0
def tw7004956888659306690:=0
def tw8864564680583505870:=0
def tw7738184103467901978:=0
def tw4989641434968121102:=0
def tw15966403836548590685:=0
def tw12035603278710498303:=0
def tw1512674470477817483:=0
def tw6061137332704971617:=0
def tw567147538428854125:=0
def tw6495997843368321615:=0
def tw9104245345661450906:=0
def tw6101406421668255670:=0
def tw5603101727121100291:=0
def tw13731062486939114056:=0
def tw15784641279520133971:=0
def tw4169309772125145463:=0
def tw8037221262924971674:=0
def tw600774903311353783:=0
def tw1563295776173064495:=0
def tw12815817773159145317:=0
def tw10858827166822979932:=0
def tw3861242072921651049:=0
def tw3052962367638243099:=0
def tw15016086019045742819:=0
def tw14797061310482847048:=0
def tw1949846432071560937:=0
def tw2258848883163450655:=0
def tw7173966120790628358:=0
def tw819165385354560075:=0
def tw12015932822296731280:=0
def tw17829594061815653901:=0
def tw16619097006857098489:=0
def tw14871961621407116994:=0
def tw7337081587117398216:=0
def tw8065758614058499286:=0
def tw11101260446965399725:=0
def tw1008821858120762069:=0
def tw17674212098577917565:=0
def tw9777684386551140812:=0
def tw8448068499559162219:=0
def tw14687468410767622090:=0
def tw11809912960813937526:=0
def tw10916367172055573494:=0
def tw11751542475233846524:=0
def tw876297523421239993:=0
def tw16927614894103602981:=0
def tw17272348464862339968:=0
def tw12324915444130255089:=0
def tw9615536745926624677:=0
def tw2985443457214299728:=0
def tw10997855969956185056:=0
def tw15722950803155769251:=0
def tw440174139768185736:=0
def tw13663449454254086094:=0
def tw8944688546217251550:=0
def tw6062424448960931816:=0
def tw8642530687118642755:=0
def tw16006266684259147244:=0
def tw10402290991754438057:=0
def tw16368495064884294454:=0
def tw15953722148847132169:=0
def tw9096049418752009631:=0
def tw2626252127999480656:=0
def tw18069776038386632747:=0
def tw3402491755973651359:=0
end PySem.W.Fast
open PySem PySem.W PyProof.Rows
set_option maxRecDepth 100000 in
set_option maxHeartbeats 0 in
theorem PySem.Challenge.cw_mumtrial_k46_blamers_counted_holds : PySem.Challenge.rw_mumtrial_k46_blamers_counted.Holds := by
 w_on;o_law;k_head;(case hw=>w_witness2)
 k_fill
 refine L2.walk_ofK (l:=PySem.Challenge.rw_mumtrial_k46_blamers_counted) (n:=63) (k:=28) (x:="script") (CX:=L2.CX0) (sp:=Mum.sp_law46) rfl (by decide) rfl ⟨rfl,by decide,by decide⟩ (fun w h Y=>PySem.W.kIn_of Y) ?F (fun _ _ a ns hl _ hS=>⟨a,ns,rfl,hS,hl,fun _=>rfl⟩) (fun _ _ _ _ z=>z)
 case F =>
  intro w mg fa h KX G hmg;refine' Mum.all_mk KX G hmg ?aC ?pg ?hd ?po ?sa ?mk ?kc ?na1 ?na2 ?na3 ?na4 ?na5 ?na6 ?na7 ?na8 ?aksc ?pgksc ?hdksc ?poksc ?saksc ?mkksc ?kcksc ?nksc1 ?nksc2 ?adc ?pgdc ?hddc ?podc ?sadc ?mkdc ?kcdc ?ndc1 ?ndc2 ?ndc3 ?Hm ?pgbc ?hdbc ?pobc ?sabc ?mkbc ?kcbc ?nbc1 ?nbc2 ?nbc3 ?nbc4 ?z_all ?z_any ?z_bool ?z_dict ?z_enumerate ?z_int ?z_isinstance ?z_len ?z_list ?z_max ?z_range ?z_sum ?z_tuple ?z_zip ?g_LETTERS ?r_LETTERS ?g_LONGEST_NAME ?r_LONGEST_NAME ?g_MOST_WORDS ?r_MOST_WORDS ?g_MOST_ROOMS ?r_MOST_ROOMS ?g_MOST_DOORS ?r_MOST_DOORS ?g_DEEPEST ?r_DEEPEST ?g_STILL ?l_STILL ?c_STILL ?d_STILL ?s_STILL ?v_STILL ?g_HUSH ?l_HUSH ?c_HUSH ?d_HUSH ?s_HUSH ?v_HUSH ?T
  (case aC|pg|hd|po|sa|mk|kc|na1|na2|na3|na4|na5|na6|na7|na8|aksc|pgksc|hdksc|poksc|saksc|mkksc|kcksc|nksc1|nksc2|adc|pgdc|hddc|podc|sadc|mkdc|kcdc|ndc1|ndc2|ndc3|Hm|pgbc|hdbc|pobc|sabc|mkbc|kcbc|nbc1|nbc2|nbc3|nbc4|z_all|z_any|z_bool|z_dict|z_enumerate|z_int|z_isinstance|z_len|z_list|z_max|z_range|z_sum|z_tuple|z_zip|g_LETTERS=>k_is)
  (case r_LETTERS=>exact⟨_,rfl⟩)
  (case g_LONGEST_NAME=>k_is)
  (case r_LONGEST_NAME=>exact⟨_,rfl⟩)
  (case g_MOST_WORDS=>k_is)
  (case r_MOST_WORDS=>exact⟨_,rfl⟩)
  (case g_MOST_ROOMS=>k_is)
  (case r_MOST_ROOMS=>exact⟨_,rfl⟩)
  (case g_MOST_DOORS=>k_is)
  (case r_MOST_DOORS=>exact⟨_,rfl⟩)
  (case g_DEEPEST=>k_is)
  (case r_DEEPEST=>exact⟨_,rfl⟩)
  (case g_STILL|l_STILL=>k_is)
  (case c_STILL|d_STILL=>rfl)
  (case s_STILL=>decide)
  (case v_STILL=>exact .cons ⟨_,rfl⟩ .nil)
  (case g_HUSH|l_HUSH=>k_is)
  (case c_HUSH|d_HUSH=>rfl)
  (case s_HUSH=>decide)
  (case v_HUSH=>exact .cons ⟨_,rfl⟩ .nil)
  (case T=>constructor<;>first|(refine' Mum.fnG_mk ?a ?l ?c ?k;(case a=>k_is);(case l=>k_is);(case c=>k_is);(case k=>k_is))|(refine' Mum.fnM_mk ?a ?i ?l ?c ?k;(case a=>k_is);(case i=>k_is);(case l=>k_is);(case c=>k_is);(case k=>k_is)))
