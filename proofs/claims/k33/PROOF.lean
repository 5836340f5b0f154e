
import PyProof.Rows.All
import Wide.All
import OpenK.AllK
import Wide.FinOn
import Lean
import PyProof.EqAt
import PyProof.EqKinds
import PyProof.TupleCall
import PyProof.NeKinds
import PyProof.RaisesMany
import PyProof.RulesAs
import PyProof.NsDelKeeps
import PyProof.InstStoreFacts
import PyProof.ExcClass3
import PyProof.ExcInit
import KE.KTryMore
import PyProof.AutoSeq1
import PyProof.WalkInts
import PyProof.DictIter
import PyProof.DictWalks
import PyProof.DictItems
import PyProof.DictItemsLoops
import KE.KPairComp
import PyProof.DictValues
import PyProof.SumAny
import PyProof.Rows.SumAny
import PyProof.Rows.RuleDivmod
import KE.KRevIter
import PyProof.TupleOfGen
import KE.KMinKey
import PyProof.Rows.CallKwBuiltin
import KE.IntBitsLaws
import PySem.Challenge.RW_mumtrial_k33_whole_leaf_by_leaf
noncomputable section
open PySem renaming Program->bR,reduceHash->C5,wpAny_mono->nn,wpAny_bind->bp,wpAny_specialOf->ES,wpAny_pure->cI,wpAny_rule->wW,Builtin->g_,wpAny_holding->q_,wpAny_truthy_bool->pN,sizeLine->ah,sysModules->iy,mainGlobals->bO,bootBuiltins->jc,starEach->aK,compareOp->eh,behindInMarks->j7,standAt->pK,holding->kf,wpAny_execs_nil->AI,swapsWith->qP,assignEach->ue,wpAny_passesOwn->qO,letOwnedTupleGo->AH,wpAny_pyIter_list->wU,foldedSetIterable->wR,binaryOp->j6,sizeLine_eq->ke,getMethod->pI,codeAny->zzl72,attributeBase->ud,FuncData->j5,BindsTo->qM,codeAny_mono->AC,wpAny_Call_Name_kw->AB,callWith->uc,backToKw->nc,keywordEach->m_,NameKind->i8,mem_of_lookup->wM,getItem->mn,seqIndex?->vg,subscripted->vf,sliceBounds->mm,Keyword->oO,call_meets->rj,valueAt->ml,callerA->kn
open PySem.Builtin.Tuple renaming tupleHashOf->yP
open Bool renaming false_ne_true->iV,not_true->AJ,false_eq_true->wV,false_and->AG,eq_iff_iff->qN,and_eq_true->mj,true_and->qT
open Nat renaming add_assoc->ER,le_refl->aB,lt_of_lt_of_le->g6,lt_irrefl->pL,ne_of_lt->cQ,le_trans->bm,le_of_lt->cN,ne_of_gt->ni,zero_le->b_,lt_succ_self->wN,le_succ->pH,succ_le_succ->ve,lt_of_le_of_lt->vc,le_add_right->oK,min_eq_left->qY,mod_lt->qW,sub_self->mh,add_sub_cancel->u2
open List renaming append_nil->f6,range->l9,mem_filter->dO,mem_cons_self->du,mem_cons_of_mem->eI,mem_cons->cx,mem_append->be,mem_append_left->da,getElem?_eq_some_iff->ca,mem_append_right->c_,length_cons->e_,lookup->kb,map_cons->bu,length_map->ak,nodup_cons->pG,length_take->aQ,getElem?_append_right->m9,getElem?_append_left->wL,getElem?_map->eZ,mem_of_getElem?->cw,length_append->aF,size_toArray->bM,length_drop->cB,reverse_cons->oN,length_reverse->oM,find?_cons->fB,any_cons->ko,length_nil->vd,nodup_nil->rg,lookup_cons->g9,all_eq_true->va,mem_map->aV,any_toArray->u_,map_congr_left->u8,drop_zero->rc,take_length->a_,getElem?_eq_getElem->bY,mem_singleton->bX,map_append->au,nodup_append->de,drop_of_length_le->oJ,drop_eq_getElem_cons->mi,map_take->qZ,map_drop->u6,take_of_length_le->oG,drop_length->qX,mem_of_mem_take->g8,mem_of_mem_drop->qV,append_assoc->cA,map_map->qU,mem_map_of_mem->ki,getElem?_of_mem->oE,take_append_drop->u5,foldl_append->qS,take_zero->qR,length_filter_le->fA,filter_append->kh,map_eq_nil_iff->oC,length_zip->oB,zipWith->dA,length_zipWith->u4,reverse_append->qQ,dropLast_concat->uZ,find?_eq_none->uY
open Option.some renaming inj->ei
open PySem.W renaming instObj->pM,lookIn->AF,plainGet->wQ,hasDictIn->AE,findIn->eG,isFn->wP,makesIn->wO,emptyDict->nh,keepIn->i_,kitOne->AD,kia_one->i9,fnOf->hC,codeIn->mo,nsIn->bW,mg_of->dP,mg_none_of->f8
open PySem.Heap renaming lt_size->bv,SameBut->ix,get?_push_of_some->cC,get?_push_size->fy
open PyProof.Rows renaming AllBare->nk,callWith_type1->wS,IntsAre->rf
open Ne renaming symm->g0
open Array renaming length_toList->pJ
open False renaming elim->jb
open True renaming intro->iw
open Option renaming isSome_iff_exists->AA,map_some->rh
open Int renaming toNat_natCast->vh,emod_nonneg->oI,emod_lt_of_pos->oH,eq_ofNat_of_zero_le->iW
open PySem.Obj renaming mapSeq->rp
open PySem.Paired renaming snoc->cc
open ForInStep renaming yield->vb
open PySem.NameKind renaming free->km
open PySem.SeqAt renaming EqAt->bj
open PySem.Builtin.Str renaming strSliceIndices->re
open PySem.Txt renaming join->u7
open PySem.PassesOwn renaming never->bh
open PySem.F renaming plainAttrs_list->c7,slot_list_append->ga,type_list_append->f_,slot_list_pop->oA,type_list_pop->oy
theorem Q0:0<=PySem.sizeLine:=by decide
theorem Q1:1<=PySem.sizeLine:=by decide
theorem Q2:2<=PySem.sizeLine:=by decide
theorem Q3:3<=PySem.sizeLine:=by decide
theorem Q4:4<=PySem.sizeLine:=by decide
theorem Q6:6<=PySem.sizeLine:=by decide
theorem zzr0{p:Prop}[Decidable p](h:¬p):decide p=false:=decide_eq_false h
theorem zzr1{p:Prop}[Decidable p](h:p):decide p=true:=decide_eq_true h
abbrev Za:=PySem.W.Frag
abbrev Zb:=List PySem.Str
abbrev Zc:=PySem.Value->PySem.Shared->Prop
abbrev Zd:=List (PySem.Addr×PySem.Obj)
abbrev Ze:=List PySem.Addr
abbrev Zf:=List PySem.Value
section
set_option Elab.async false
set_option linter.all false
set_option maxRecDepth 100000
set_option maxHeartbeats 4000000
namespace L2
open PySem PySem.Spec PyProof.Rows
open Sem (wp)
abbrev b0:=Sum Int Str
def cT:b0->Value->Bool
 |.inl k,v=>Value.isInt k v
 |.inr x,v=>Value.isStrOf x v
def Hz(w:World):b0->Int
 |.inl k=>hashInt k
 |.inr x=>hashStr w x
theorem aE:∀{k:b0}{v:Value},cT k v=true->(∃i t,k=Sum.inl i/\v=Value.int i t)∨(∃x t,k=Sum.inr x/\v=Value.str x t)
 |.inl i,v,h=>by
  obtain⟨t,e⟩:=Value.isInt_shape (k:=i) (v:=v) h;exact .inl ⟨i,t,rfl,e⟩
 |.inr x,v,h=>by
  obtain⟨t,e⟩:=Value.isStrOf_shape (x:=x) (v:=v) h;exact .inr ⟨x,t,rfl,e⟩
theorem lE(i:Int)(t:Tok):cT (.inl i) (.int i t)=true:=by simp[cT,Value.isInt]
theorem lD(x:Str)(t:Tok):cT (.inr x) (.str x t)=true:=by simp[cT,Value.isStrOf]
theorem v9(a b:Int):decide ((Sum.inl a:b0)=Sum.inl b)=(a==b):=by
 by_cases e:a=b
 ·subst e;simp
 ·have h:¬(Sum.inl a:b0)=Sum.inl b:=fun q=>e (Sum.inl.inj q);rw[zzr0 h];exact(beq_eq_false_iff_ne.mpr e).symm
theorem v6(a b:Str):decide ((Sum.inr a:b0)=Sum.inr b)=decide (a=b):=by
 by_cases e:a=b
 ·subst e;simp
 ·have h:¬(Sum.inr a:b0)=Sum.inr b:=fun q=>e (Sum.inr.inj q);rw[zzr0 h,zzr0 e]
theorem v8(a:Int)(b:Str):decide ((Sum.inl a:b0)=Sum.inr b)=false:=zzr0 (fun q=>nomatch q)
theorem v7(a:Str)(b:Int):decide ((Sum.inr a:b0)=Sum.inl b)=false:=zzr0 (fun q=>nomatch q)
def bS(prog:bR)(w:World):PySem.KeyKind prog w b0 where
 is:=cT
 hash:=Hz w
 inj:=fun v a b ha hb=>by
  rcases aE ha with⟨i,t,rfl,rfl⟩|⟨x,t,rfl,rfl⟩
  ·rcases aE hb with⟨j,u,rfl,e⟩|⟨y,u,rfl,e⟩
   ·injection e with e1 _;rw[e1]
   ·exact nomatch e
  ·rcases aE hb with⟨j,u,rfl,e⟩|⟨y,u,rfl,e⟩
   ·exact nomatch e
   ·injection e with e1 _;rw[e1]
 byValue:=fun k v h=>by
  rcases aE h with⟨i,t,rfl,rfl⟩|⟨x,t,rfl,rfl⟩<;>rfl
 pyHash:=fun hv h=>by
  rcases aE hv with⟨i,t,rfl,rfl⟩|⟨x,t,rfl,rfl⟩
  ·exact wpAny_pyHash_int h
  ·exact wpAny_pyHash_str h
 eqBool:=fun hu hv h=>by
  rcases aE hu with⟨i,t,rfl,rfl⟩|⟨x,t,rfl,rfl⟩
  ·rcases aE hv with⟨j,u,rfl,rfl⟩|⟨y,u,rfl,rfl⟩
   ·rw[v9]at h;exact wpAny_eqBool_int h
   ·rw[v8]at h;exact bj.int_str i t y u _ _ _ _ h
  ·rcases aE hv with⟨j,u,rfl,rfl⟩|⟨y,u,rfl,rfl⟩
   ·rw[v7]at h;exact bj.str_int x t j u _ _ _ _ h
   ·rw[v6]at h;exact wpAny_eqBool_str h
 «strs»:=fun k x t v h=>by
  rcases aE h with⟨i,u,rfl,e⟩|⟨y,u,rfl,e⟩
  ·exact nomatch e
  ·injection e with e1 _;subst e1;cases v<;>rfl
theorem xW(a:bR)(w:World)(i:Int)(t:Tok):(bS a w).is (.inl i) (.int i t)=true:=lE i t
theorem xV(a:bR)(w:World)(x:Str)(t:Tok):(bS a w).is (.inr x) (.str x t)=true:=lD x t
end L2
namespace L2
open PySem PySem.Spec PyProof.Rows
open Sem (wp)
abbrev mV:=Option b0
def ie:mV->Value->Bool
 |none,v=>match v with
  |.none=>true
  |_=>false
 |some k,v=>cT k v
def Go(w:World):mV->Int
 |none=>C5 4238894112
 |some k=>Hz w k
theorem bJ:∀{k:mV}{v:Value},ie k v=true->(∃i t,k=some (Sum.inl i)/\v=Value.int i t)∨(∃x t,k=some (Sum.inr x)/\v=Value.str x t)∨(k=none/\v=Value.none)
 |none,v,h=>by
  refine .inr (.inr ⟨rfl,?_⟩);cases v<;>first|rfl|cases h
 |some k,v,h=>by
  rcases aE (show cT k v=true from h)with⟨i,t,rfl,rfl⟩|⟨i,t,rfl,rfl⟩
  ·exact .inl ⟨i,t,rfl,rfl⟩
  ·exact .inr (.inl ⟨i,t,rfl,rfl⟩)
theorem sn{a b:mV}{v:Value}(f:ie a v=true)(g:ie b v=true):a=b:=by
 rcases bJ f with⟨i,t,rfl,rfl⟩|⟨i,t,rfl,rfl⟩|⟨rfl,rfl⟩<;>rcases bJ g with⟨j,u,rfl,e⟩|⟨j,u,rfl,e⟩|⟨rfl,e⟩<;>first|rfl|(cases e;rfl)|cases e
def xU(prog:bR)(w:World):PySem.KeyKind prog w mV where
 is:=ie
 hash:=Go w
 inj:=fun v a b ha hb=>sn ha hb
 byValue:=fun k v h=>by
  rcases bJ h with⟨i,t,rfl,rfl⟩|⟨x,t,rfl,rfl⟩|⟨rfl,rfl⟩<;>rfl
 pyHash:=fun{A E s k v Q} hv h=>by
  rcases bJ hv with⟨i,t,rfl,rfl⟩|⟨x,t,rfl,rfl⟩|⟨rfl,rfl⟩
  ·exact wpAny_pyHash_int h
  ·exact wpAny_pyHash_str h
  ·refine PySem.W.pyHash_slot (T:="NoneType") rfl F.slot_NoneType_hash F.entry_NoneType_hash (F.args_NoneType_hash_1 _) (by rw[beq_builtin_none]) (.inl rfl) ?_;show wpAny _ _ (retInt 4238894112) _ _ _;refine nn (wpAny_ret_mkInt (Q:=fun v s'=>∃n t,v=Value.int n t/\Q (C5 n) s') ⟨_,_,rfl,h⟩) (fun fin s' ⟨v,e,n,t,e2,q⟩=>⟨n,t,by rw[e,e2],q⟩) (fun _ _ z=>z)
 eqBool:=fun{A E s a b u v Q} hu hv h=>by
  rcases bJ hu with⟨i,t,rfl,rfl⟩|⟨x,t,rfl,rfl⟩|⟨rfl,rfl⟩
  ·rcases bJ hv with⟨j,u,rfl,rfl⟩|⟨y,u,rfl,rfl⟩|⟨rfl,rfl⟩
   ·exact(bS prog w).eqBool (a:=.inl i) (b:=.inl j) (lE i t) (lE j u) (by rw[show decide ((Sum.inl i:b0)=Sum.inl j)=decide ((some (Sum.inl i):mV)=some (Sum.inl j))from decide_eq_decide.mpr ⟨fun z=>by rw[z],fun z=>by injection z⟩];exact h)
   ·rw[zzr0 (by intro z;injection z with z;cases z)]at h;exact bj.int_str i t y u _ _ _ _ h
   ·rw[zzr0 (by intro z;cases z)]at h;exact bj.int_none i t _ _ _ _ h
  ·rcases bJ hv with⟨j,u,rfl,rfl⟩|⟨y,u,rfl,rfl⟩|⟨rfl,rfl⟩
   ·rw[zzr0 (by intro z;injection z with z;cases z)]at h;exact bj.str_int x t j u _ _ _ _ h
   ·exact(bS prog w).eqBool (a:=.inr x) (b:=.inr y) (lD x t) (lD y u) (by rw[show decide ((Sum.inr x:b0)=Sum.inr y)=decide ((some (Sum.inr x):mV)=some (Sum.inr y))from decide_eq_decide.mpr ⟨fun z=>by rw[z],fun z=>by injection z⟩];exact h)
   ·rw[zzr0 (by intro z;cases z)]at h;exact bj.str_none x t _ _ _ _ h
  ·rcases bJ hv with⟨j,u,rfl,rfl⟩|⟨y,u,rfl,rfl⟩|⟨rfl,rfl⟩
   ·rw[zzr0 (by intro z;cases z)]at h;exact bj.none_int j u _ _ _ _ h
   ·rw[zzr0 (by intro z;cases z)]at h;exact bj.none_str y u _ _ _ _ h
   ·rw[zzr1 rfl]at h;exact bj.same _ _ _ _ _ h
 «strs»:=fun k x t v h=>by
  rcases bJ h with⟨i,u,rfl,e⟩|⟨y,u,rfl,e⟩|⟨rfl,e⟩
  ·exact nomatch e
  ·injection e with e1 _;subst e1;cases v<;>rfl
  ·exact nomatch e
inductive TK where
 |k (a:mV)
 |t (l:List TK)
mutual
def Gy:(x y:TK)->Decidable (x=y)
 |.k a,.k b=>if h:a=b then Decidable.isTrue (by rw[h])else Decidable.isFalse fun e=>h (by injection e)
 |.t l,.t m=>match decTKs l m with
  |Decidable.isTrue h=>Decidable.isTrue (by rw[h])
  |Decidable.isFalse h=>Decidable.isFalse fun e=>h (by injection e)
 |.k _,.t _=>Decidable.isFalse nofun
 |.t _,.k _=>Decidable.isFalse nofun
def decTKs:(x y:List TK)->Decidable (x=y)
 |[],[]=>Decidable.isTrue rfl
 |[],_::_=>Decidable.isFalse nofun
 |_::_,[]=>Decidable.isFalse nofun
 |a::l,b::m=>match Gy a b with
  |Decidable.isTrue h=>match decTKs l m with
   |Decidable.isTrue h'=>Decidable.isTrue (by rw[h,h'])
   |Decidable.isFalse h'=>Decidable.isFalse fun e=>h' (by injection e)
  |Decidable.isFalse h=>Decidable.isFalse fun e=>h (by injection e)
end
instance:DecidableEq TK:=Gy
mutual
def TK.depth:TK->Nat
 |.k _=>0
 |.t l=>TK.depths l+1
def TK.depths:List TK->Nat
 |[]=>0
 |a::r=>max (TK.depth a) (TK.depths r)
end
mutual
def TK.hash(w:World):TK->Int
 |.k a=>Go w a
 |.t l=>C5 (yP (TK.hashs w l))
def TK.hashs(w:World):List TK->List Int
 |[]=>[]
 |a::r=>TK.hash w a::TK.hashs w r
end
mutual
def TK.draws:TK->Nat
 |.k _=>1
 |.t l=>TK.drawss l+1
def TK.drawss:List TK->Nat
 |[]=>0
 |a::r=>TK.draws a+TK.drawss r
end
mutual
def lT(h:Heap):TK->Value->Prop
 |.k a,v=>ie a v=true
 |.t l,v=>∃a o items n,v=.ref a/\h.get? a=some o/\o.cls=.type "tuple"/\o.data=.seq items n/\TAts h l items.toList
def TAts(h:Heap):List TK->List Value->Prop
 |[],vs=>vs=[]
 |k::r,vs=>∃v us,vs=v::us/\lT h k v/\TAts h r us
end
theorem lT.inj{h:Heap}:∀(d:Nat) {x y:TK}{v:Value},x.depth<=d->lT h x v->lT h y v->x=y:=by
 have A:∀(d:Nat) (w:∀{x y:TK}{v:Value},x.depth<=d->lT h x v->lT h y v->x=y) (p j:List TK) (q:Zf),TK.depths p<=d->TAts h p q->TAts h j q->p=j:=by
  intro d w p
  induction p with
  |nil =>
   intro j q _ g f;have B:q=[]:=g;subst B;cases j with
   |nil=>rfl
   |cons y j=>obtain⟨_,_,e,_⟩:=f;cases e
  |cons x p C =>
   intro j q r g f;obtain⟨v,N,rfl,D,E⟩:=g;cases j with
   |nil=>have G:v::N=[]:=f;cases G
   |cons y j =>
    obtain⟨v',Q,e,H,I⟩:=f;cases e;have T:max x.depth (TK.depths p)<=d:=r;rw[w (by omega) D H,C j N (by omega) E I]
 have i:∀(a:mV) (l:List TK) (v:Value),lT h (.k a) v->lT h (.t l) v->False:=by
  intro a l v s J;obtain⟨b,o,items,n,rfl,_⟩:=J;rcases bJ (show ie a (.ref b)=true from s)with⟨_,_,_,e⟩|⟨_,_,_,e⟩|⟨_,e⟩<;>cases e
 have O:∀(a b:mV) (v:Value),ie a v=true->ie b v=true->a=b:=fun a b v s J=>sn s J;intro d
 induction d with
 |zero =>
  intro x y v r g f;cases x with
  |t l=>exact absurd r (by show ¬(TK.depths l+1<=0);omega)
  |k a =>
   cases y with
   |k b=>rw[O a b v g f]
   |t l=>exact(i a l v g f).elim
 |succ d w =>
  intro x y v r g f;cases x with
  |k a =>
   cases y with
   |k b=>rw[O a b v g f]
   |t l=>exact(i a l v g f).elim
  |t l =>
   cases y with
   |k b=>exact(i b l v f g).elim
   |t U =>
    obtain⟨a,o,items,n,rfl,Y,hc,L,hi⟩:=g;obtain⟨a',o',z,n',e,u,al,m,M⟩:=f;cases e;rw[Y]at u;cases u;rw[L]at m;injection m with e1 _;subst e1;rw[A d (fun s=>w s) l U items.toList (by have:TK.depths l+1<=d+1:=r;omega) hi M]
theorem lT.mono{h j:Heap}(k:∀a o items n,h.get? a=some o->o.cls=.type "tuple"->o.data=.seq items n->j.get? a=some o):∀(d:Nat) {x:TK}{v:Value},x.depth<=d->lT h x v->lT j x v:=by
 have q:∀(d:Nat) (m:∀{x:TK}{v:Value},x.depth<=d->lT h x v->lT j x v) (f:List TK) (p:Zf),TK.depths f<=d->TAts h f p->TAts j f p:=by
  intro d m f
  induction f with
  |nil=>intro p _ e;exact e
  |cons x f r =>
   intro p g e;obtain⟨v,w,rfl,s,u⟩:=e;have z:max x.depth (TK.depths f)<=d:=g;exact⟨v,w,rfl,m (by omega) s,r w (by omega) u⟩
 intro d
 induction d with
 |zero =>
  intro x v g e;cases x with
  |t l=>exact absurd g (by show ¬(TK.depths l+1<=0);omega)
  |k a=>exact e
 |succ d m =>
  intro x v g e;cases x with
  |k a=>exact e
  |t l =>
   obtain⟨a,o,items,n,rfl,A,y,i,B⟩:=e;exact⟨a,o,items,n,rfl,k a o items n A y i,y,i,q d (fun C=>m C) l _ (by have:TK.depths l+1<=d+1:=g;omega) B⟩
section
variable{prog:bR}{w:World}
theorem EW:∀(d:Nat) {A:Around}{E:Zc}{s:Shared}{k:TK}{v:Value}{Q:Int->Shared->Prop},k.depth<=d->A.units+d<cLine->lT s.heap k v->Q (k.hash w) { s with toks:=s.toks+k.draws } ->
  wpAny (model prog w) A (pyHash v) Q E s:=by
 intro d
 induction d with
 |zero =>
  intro A E s k v Q C hu u h;cases k with
  |t l=>exact absurd C (by show ¬(TK.depths l+1<=0);omega)
  |k a=>exact(xU prog w).pyHash (k:=a) u h
 |succ d ih =>
  intro A E s k v Q C hu u h;cases k with
  |k a=>exact(xU prog w).pyHash (k:=a) u h
  |t l =>
   obtain⟨a,o,items,n,rfl,U,hc,D,hi⟩:=u;have y:s.TypeIs (.ref a) "tuple":=⟨o,U,hc⟩;have G:TK.depths l<=d:=by have:TK.depths l+1<=d+1:=C;omega
   unfold pyHash
   first|unfold pyHashByItsType|skip
   first|refine bp (wpAny_cRoomFor_or (.inr (by omega)) ?_)|skip
   refine bp (ES y F.slot_tuple_hash.lookup ?_);show wpAny _ _ (if(some (Value.builtin "tuple.__hash__")==some Value.none)=true then _ else _) Q E s
   rw[if_neg (by rw[beq_builtin_none];exact iV)];refine bp (ES y F.slot_tuple_hash.lookup ?_);show wpAny _ _ (callSpecialIfBoundUnlessNone? (.ref a) "__hash__" _ >>= _) Q E s;refine bp (wpAny_callSpecialIfBoundUnlessNone?_slot y F.slot_tuple_hash (wpAny_call_entry F.slot_tuple_hash y F.entry_tuple_hash ?_ (F.args_tuple_hash_1 _)));show wpAny _ _ (g_.Tuple.tupleItemsOf (.ref a) >>= _) _ _ s;refine bp (wpAny_tupleItemsOf U D ?_);refine bp ?_;rw[<-Array.forIn_toList];refine wpAny_forIn_list _
    (fun g (b:Array Int) H=>∃done left,l=done++left/\TAts s.heap left g/\b.toList=TK.hashs w done/\H={ s with toks:=s.toks+TK.drawss done })
    _ ?_ ?_ _ _ ⟨[],l,rfl,hi,rfl,rfl⟩
   ·rintro x g b H ⟨done,left,e,z,j,rfl⟩;cases left with
    |nil=>have I:x::g=[]:=z;cases I
    |cons f left =>
     obtain⟨x',J,L,h1,Y⟩:=z;cases L;have M:f.depth<=d:=by
      have gen:∀(p:List TK),TK.depths (p++f::left)<=d->f.depth<=d:=by
       intro p
       induction p with
       |nil=>intro N;have O:max f.depth (TK.depths left)<=d:=N;omega
       |cons q p i=>intro N;have O:max q.depth (TK.depths (p++f::left))<=d:=N;exact i (by omega)
      exact gen done (by rw[<-e];exact G)
     have T:TK.hashs w (done++[f])=TK.hashs w done++[f.hash w]:=by
      clear e j
      induction done with
      |nil=>rfl
      |cons q p i=>show _::TK.hashs w (p++[f])=_;rw[i];rfl
     have m:TK.drawss (done++[f])=TK.drawss done+f.draws:=by
      clear e j T
      induction done with
      |nil=>show f.draws+0=0+f.draws;omega
      |cons q p i=>show q.draws+TK.drawss (p++[f])=q.draws+TK.drawss p+f.draws;rw[i];omega
     refine bp (ih (k:=f) M (by show A.units+1+d<cLine;omega) h1 ?_)
     first
      |exact cI ⟨done++[f],left,by rw[e];simp,Y,by rw[T];simp[j],by rw[m];simp[ER]⟩
      |exact bp (cI (cI ⟨done++[f],left,by rw[e];simp,Y,by rw[T];simp[j],by rw[m];simp[ER]⟩))
   ·rintro b H ⟨done,left,e,z,j,rfl⟩;cases left with
    |cons f left=>obtain⟨_,_,L,_⟩:=z;cases L
    |nil =>
     rw[f6]at e;subst e;show wpAny _ _ (retInt (yP b.toList)) _ _ _;rw[j];refine wpAny_ret_mkInt ?_;have r:Q (C5 (yP (TK.hashs w l))) { s with toks:=s.toks+(TK.drawss l+1) }:=h;show wpAny _ _ (if(decide (-(2:Int) ^ 63<=yP (TK.hashs w l)) && decide (yP (TK.hashs w l)<2 ^ 63))=true then _ else _) Q E _
     unfold C5 at r;by_cases B:(decide (-(2:Int) ^ 63<=yP (TK.hashs w l)) && decide (yP (TK.hashs w l)<2 ^ 63))=true
     ·rw[if_pos B];rw[if_pos B]at r;exact cI (by simpa[ER]using r)
     ·rw[if_neg B];rw[if_neg B]at r;exact bp (wW (cI (by simpa[ER]using r)))
theorem BD(d:Nat)(ih:∀{A:Around}{E:Zc}{s:Shared}{x y:TK}{u v:Value}{Q:Bool->Shared->Prop},x.depth<=d->y.depth<=d->A.units+d<cLine->lT s.heap x u->lT s.heap y v->Q (decide (x=y)) s->wpAny (model prog w) A (eqBool u v) Q E s)
  {A:Around}{E:Zc}{s:Shared}{x y:List TK}{a b:Addr}{P:Fin->Shared->Prop}{oa L:Obj}{q t:Array Value}{na nb:Nat}(hx:TK.depths x<=d) (hy:TK.depths y<=d) (hu:A.units+d<cLine)
  (N:s.heap.get? a=some oa) (O:oa.data=.seq q na) (T:TAts s.heap x q.toList) (B:s.heap.get? b=some L) (U:L.cls=.type "tuple") (Y:L.data=.seq t nb) (al:TAts s.heap y t.toList)
  (h:P (.done (.ret (.bool (decide (x=y))))) s):wpAny (model prog w) A (g_.«tuple.__eq__» ⟨[.ref a,.ref b],[]⟩) P E s:=by
 have an:s.TypeIs (.ref b) "tuple":=⟨L,B,U⟩;show wpAny _ _ (isInstance (.ref b) (.type "tuple") >>= _) _ _ s;refine bp (wpAny_isInstance an isSubtype_tuple_tuple ?_);simp only[AJ,wV,if_false];refine bp (wpAny_tupleItemsOf N O ?_);refine bp (wpAny_tupleItemsOf B Y ?_);refine bp ?_;refine wpAny_forIn_list _
  (fun l r M=>r.1=none/\M=s/\∃n m xs' f,l=List.zip xs' f/\TAts s.heap n xs'/\TAts s.heap m f/\TK.depths n<=d/\TK.depths m<=d/\decide (n=m)=decide (x=y)/\(xs'.length==f.length)=(q.size==t.size))
  _ ?_ ?_ _ _ ⟨rfl,rfl,x,y,q.toList,t.toList,rfl,T,al,hx,hy,rfl,by simp⟩
 ·rintro⟨u,v⟩ l r M ⟨hr,rfl,n,m,xs',f,z,j,g,dx,dy,i,k⟩;cases n with
  |nil =>
   have e:xs'=[]:=j;subst e;simp at z
  |cons k1 o =>
   obtain⟨u',C,rfl,h1,D⟩:=j;cases m with
   |nil =>
    have e:f=[]:=g;subst e;simp at z
   |cons k2 p =>
    obtain⟨v',G,rfl,h2,H⟩:=g;simp only[List.zip_cons_cons,List.cons.injEq,Prod.mk.injEq]at z;obtain⟨⟨rfl,rfl⟩,rfl⟩:=z;have as:max k1.depth (TK.depths o)<=d:=dx;have aC:max k2.depth (TK.depths p)<=d:=dy;refine bp (ih (x:=k1) (y:=k2) (by omega) (by omega) hu h1 h2 ?_);by_cases hk:k1=k2
    ·subst hk;rw[zzr1 rfl];simp only[AJ,wV,if_false];refine cI ⟨rfl,rfl,o,p,C,G,rfl,D,H,by omega,by omega,?_,by simpa using k⟩;rw[<-i];by_cases I:o=p
     ·simp[I]
     ·simp[I]
    ·rw[zzr0 hk];simp only[Bool.not_false,if_true];have hf:decide (x=y)=false:=by rw[<-i];simp[hk]
     rw[hf]at h;exact bp (cI (cI (cI h)))
 ·rintro⟨r1,r2⟩ M ⟨hr,rfl,n,m,xs',f,z,j,g,dx,dy,i,k⟩;simp only at hr;subst hr;refine cI ?_;have J:(q.size==t.size)=decide (x=y):=by
   rw[<-i,<-k];cases n with
   |nil =>
    have e:xs'=[]:=j;subst e;cases m with
    |nil=>have e:f=[]:=g;subst e;simp
    |cons _ _=>obtain⟨_,_,rfl,_⟩:=g;simp
   |cons _ _ =>
    obtain⟨_,_,rfl,_⟩:=j;cases m with
    |nil=>have e:f=[]:=g;subst e;simp
    |cons _ _=>obtain⟨_,_,rfl,_⟩:=g;simp at z
  show P (.done (.ret (.bool (q.size==t.size)))) M;rw[J];exact h
theorem Hi:∀(d:Nat) {A:Around}{E:Zc}{s:Shared}{x y:TK}{u v:Value}{Q:Bool->Shared->Prop},x.depth<=d->y.depth<=d->A.units+d<cLine->lT s.heap x u->lT s.heap y v->Q (decide (x=y)) s ->
  wpAny (model prog w) A (eqBool u v) Q E s:=by
 have j:∀{A:Around}{E:Zc}{s:Shared}{a:mV}{l:List TK}{u v:Value}{Q:Bool->Shared->Prop},A.units<cLine->lT s.heap (.k a) u->lT s.heap (.t l) v->Q false s->wpAny (model prog w) A (eqBool u v) Q E s:=by
  intro A E s a l u v Q p f g h;obtain⟨b,o,items,n,rfl,M,N,r,hi⟩:=g;have B:s.heap.IsTuple b items:=⟨o,M,N,n,r⟩;rcases bJ (show ie a u=true from f)with⟨i,t,rfl,rfl⟩|⟨i,t,rfl,rfl⟩|⟨rfl,rfl⟩
  ·exact bj.int_tuple i t B p prog w E Q h
  ·exact bj.str_tuple i t B p prog w E Q h
  ·exact bj.none_tuple B p prog w E Q h
 have q:∀{A:Around}{E:Zc}{s:Shared}{a:mV}{l:List TK}{u v:Value}{Q:Bool->Shared->Prop},A.units<cLine->lT s.heap (.t l) u->lT s.heap (.k a) v->Q false s->wpAny (model prog w) A (eqBool u v) Q E s:=by
  intro A E s a l u v Q p f g h;obtain⟨b,o,items,n,rfl,M,N,r,hi⟩:=f;have B:s.heap.IsTuple b items:=⟨o,M,N,n,r⟩;rcases bJ (show ie a v=true from g)with⟨i,t,rfl,rfl⟩|⟨i,t,rfl,rfl⟩|⟨rfl,rfl⟩
  ·exact bj.tuple_int i t B p prog w E Q h
  ·exact bj.tuple_str i t B p prog w E Q h
  ·exact bj.tuple_none B p prog w E Q h
 have leaves:∀{A:Around}{E:Zc}{s:Shared}{a b:mV}{u v:Value}{Q:Bool->Shared->Prop},lT s.heap (.k a) u->lT s.heap (.k b) v->Q (decide (TK.k a=TK.k b)) s->wpAny (model prog w) A (eqBool u v) Q E s:=by
  intro A E s a b u v Q f g h;refine(xU prog w).eqBool (a:=a) (b:=b) f g ?_;by_cases e:a=b
  ·subst e;simpa using h
  ·have:¬(TK.k a=TK.k b):=fun z=>e (by injection z);rw[zzr0 this]at h;rw[zzr0 e];exact h
 intro d
 induction d with
 |zero =>
  intro A E s x y u v Q C D p f g h;cases x with
  |t l=>exact absurd C (by show ¬(TK.depths l+1<=0);omega)
  |k a =>
   cases y with
   |t l=>exact absurd D (by show ¬(TK.depths l+1<=0);omega)
   |k b=>exact leaves f g h
 |succ d ih =>
  intro A E s x y u v Q C D p f g h;cases x with
  |k a =>
   cases y with
   |k b=>exact leaves f g h
   |t l =>
    rw[zzr0 (by intro z;cases z)]at h;exact j (by omega) f g h
  |t l =>
   cases y with
   |k b =>
    rw[zzr0 (by intro z;cases z)]at h;exact q (by omega) f g h
   |t m =>
    have hl:TK.depths l<=d:=by have:TK.depths l+1<=d+1:=C;omega
    have hm:TK.depths m<=d:=by have:TK.depths m+1<=d+1:=D;omega
    have O:=f;have T:=g;obtain⟨a,oa,xs,na,rfl,H,U,Y,al⟩:=f;obtain⟨b,ob,ys,nb,rfl,I,J,an,as⟩:=g;have L:s.TypeIs (.ref a) "tuple":=⟨oa,H,U⟩;have aC:s.TypeIs (.ref b) "tuple":=⟨ob,I,J⟩;have a0:decide (TK.t l=TK.t m)=decide (l=m):=by
     by_cases e:l=m
     ·subst e;simp
     ·have:¬(TK.t l=TK.t m):=fun z=>e (by injection z);rw[zzr0 this,zzr0 e]
    unfold eqBool
    try with_reducible refine q_ ?_
    show wpAny _ _ (if(Value.ref a==Value.ref b)=true then _ else _) Q E s
    by_cases G:(Value.ref a==Value.ref b)=true
    ·rw[if_pos G];have e:a=b:=by have:=eq_of_beq G;injection this
     subst e;have e2:TK.t l=TK.t m:=lT.inj _ (aB _) O T;rw[zzr1 e2]at h;exact bp (wW (cI h))
    ·rw[if_neg G];rw[a0]at h;exact bp (wpAny_richCompare_same_room (op:=.Eq) L aC F.slot_tuple_eq
      (wpAny_call_entry F.slot_tuple_eq L F.entry_tuple_eq (BD d (fun h1 h2 h3 h4 h5 h6=>ih h1 h2 h3 h4 h5 h6) hl hm (by show A.units+1+d<cLine;omega) H Y al I J an as ⟨_,rfl,(fun e=>nomatch e),pN h⟩) (F.args_tuple_eq_2 _ _)) (by omega))
theorem Dd:∀(d:Nat) {A:Around}{E:Zc}{s:Shared}{k:TK}{v:Value}{Q:Bool->Shared->Prop},k.depth<=d->lT s.heap k v->Q true s->wpAny (model prog w) A (eqIsQuiet d v) Q E s:=by
 intro d
 induction d with
 |zero =>
  intro A E s k v Q j i h;cases k with
  |t l=>exact absurd j (by show ¬(TK.depths l+1<=0);omega)
  |k a=>rw[eqIsQuiet_byValue _ ((xU prog w).byValue a v i)];exact cI h
 |succ d D =>
  intro A E s k v Q j i h;cases k with
  |k a=>rw[eqIsQuiet_byValue _ ((xU prog w).byValue a v i)];exact cI h
  |t l =>
   have G:TK.depths l<=d:=by have:TK.depths l+1<=d+1:=j;omega
   obtain⟨a,o,items,n,rfl,y,H,m,I⟩:=i;have z:s.TypeIs (.ref a) "tuple":=⟨o,y,H⟩;unfold eqIsQuiet;refine bp (ES z F.slot_tuple_eq.lookup ?_);show wpAny _ _ (isInstance (.ref a) (.type "tuple") >>= _) _ _ s;refine bp (wpAny_isInstance z isSubtype_tuple_tuple ?_);simp only[AJ,wV,if_false];refine bp (wpAny_seqItems y m ?_);refine bp ?_;show wpAny _ _ (forIn items _ _) _ _ s;rw[<-Array.forIn_toList];refine wpAny_forIn_list _ (fun f r p=>r.1=none/\p=s/\∃left,TAts s.heap left f/\TK.depths left<=d) _ ?_ ?_ _ _ ⟨rfl,rfl,l,I,G⟩
   ·rintro v f r p ⟨q,rfl,left,g,u⟩;cases left with
    |nil=>have e:v::f=[]:=g;cases e
    |cons B left =>
     obtain⟨M,x,e,J,L⟩:=g;cases e;have C:max B.depth (TK.depths left)<=d:=u;refine bp (D (k:=B) (by omega) J ?_);simp only[AJ,wV,if_false];exact cI ⟨rfl,rfl,left,L,by omega⟩
   ·rintro⟨N,O⟩ p ⟨q,rfl,_⟩;simp only at q;subst q;exact cI h
def fC(prog:bR)(w:World):HeapKind prog w TK where
 is:=fun h k a=>lT h k (.ref a)/\k.depth<=8
 hash:=TK.hash w
 draws:=TK.draws
 room:=fun A=>A.units+8<cLine
 inj:=fun hx hy=>lT.inj 8 hx.2 hx.1 hy.1
 keeps:=fun{h h' k a d o es ep} x ho hd hs=>⟨lT.mono (fun b ob items n hb _ hdb=>(hs.2 b fun e=>by
  subst e;rw[ho]at hb;cases hb;rw[hd]at hdb;cases hdb).trans hb) 8 x.2 x.1,x.2⟩
 pyHash:=fun hu hk h=>EW 8 hk.2 hu hk.1 h
 eqBool:=fun hu hx hy h=>Hi 8 hx.2 hy.2 hu hx.1 hy.1 h
 quiet:=fun hk h=>Dd 8 hk.2 hk.1 h
end
end L2
namespace L2
open PySem PySem.Spec PyProof.Rows
inductive V where
 |non|bl (b:Bool)|int (i:Int)|str (x:Str)|byt (b:Array UInt8)|flt (b:UInt64)|ref (a:Addr)|ty (n:String)
 deriving DecidableEq
def RelV:V->Value->Prop
 |.non,u=>u=Value.none
 |.bl b,u=>u=Value.bool b
 |.int i,u=>∃t,u=Value.int i t
 |.str x,u=>∃t,u=Value.str x t
 |.byt b,u=>∃t,u=Value.bytes b t
 |.flt b,u=>∃t,u=Value.float b t
 |.ref a,u=>u=Value.ref a
 |.ty n,u=>u=Value.type n
abbrev aZ:List V->List Value->Prop:=Paired RelV
theorem aZ.length{a:List V}{e:Zf}(r:aZ a e):a.length=e.length:=Paired.length r
theorem aZ.get:∀{a:List V}{f:Zf}{i:Nat}{x:V},aZ a f->a[i]?=some x->∃u,f[i]?=some u/\RelV x u
 |_,_,_,_,.nil,e=>by simp at e
 |_,_,0,_,.cons r _,e=>by simp at e;subst e;exact⟨_,rfl,r⟩
 |_,_,i+1,x,.cons _ t,e=>by
  obtain⟨u,g,h⟩:=aZ.get (i:=i) (x:=x) t (by simpa using e);exact⟨u,by simpa using g,h⟩
theorem aZ.set{x:V}{u:Value}(r:RelV x u):∀{a:List V}{e:Zf}(i:Nat),aZ a e->aZ (a.set i x) (e.set i u)
 |_,_,_,.nil=>.nil
 |_,_,0,.cons _ t=>.cons r t
 |_,_,i+1,.cons q t=>.cons q (aZ.set r i t)
theorem aZ.append:∀{a e:List V}{f g:Zf},aZ a f->aZ e g->aZ (a++e) (f++g)
 |_,_,_,_,.nil,s=>s
 |_,_,_,_,.cons r t,s=>.cons r (aZ.append t s)
theorem aZ.take:∀{a:List V}{e:Zf}(n:Nat),aZ a e->aZ (a.take n) (e.take n)
 |_,_,0,_=>.nil
 |_,_,_+1,.nil=>.nil
 |_,_,n+1,.cons r t=>.cons r (aZ.take n t)
theorem aZ.drop:∀{a:List V}{e:Zf}(n:Nat),aZ a e->aZ (a.drop n) (e.drop n)
 |_,_,0,r=>r
 |_,_,_+1,.nil=>.nil
 |_,_,n+1,.cons _ t=>aZ.drop n t
def ka:Option V->Option Value->Prop
 |some v,some u=>RelV v u
 |none,none=>True
 |_,_=>False
def KV{κ:Type}:List (κ×V)->List (κ×Value)->Prop:=Paired fun(p:κ×V) (q:κ×Value)=>p.1=q.1/\RelV p.2 q.2
def kV:b0->V
 |.inl i=>.int i
 |.inr x=>.str x
def Gp:mV->V
 |none=>.non
 |some k=>kV k
inductive HO where
 |lst (xs:List V)
 |tup (xs:List V)
 |dK (kvs:List (b0×V))|dT (kvs:List (TK×V))
 |set (S:Int->Bool) (n:Nat)
 |ins (C dx:Addr) (fs:List (Str×V))
 |own (x:Addr)
 |xd (fs:List (Str×V))
 |met (f x:Addr)
 |rng (lo hi:Int)
 |frz (o:Obj) (u:HO)
 |tbl (ps:Array Value)
 |ext (φ:Heap->Prop)
abbrev Hp:=Addr->Option HO
mutual
def ii(H:Hp):TK->V->Prop
 |.k a,v=>v=Gp a
 |.t l,v=>∃b xs,v=.ref b/\H b=some (.tup xs)/\TKAts H l xs
def TKAts(H:Hp):List TK->List V->Prop
 |[],vs=>vs=[]
 |k::r,vs=>∃v us,vs=v::us/\ii H k v/\TKAts H r us
end
def az(K:Za)(H:Hp)(a:Addr)(xs:List V):Prop :=
 H a=some (.tup xs)∨∃(o:Obj) (its:Array Value) (n:Nat),K.lookup a=some o/\o.cls=.type "tuple"/\o.data=.seq its n/\its.size<=ah/\aZ xs its.toList
theorem az.keeps{K:Za}{H e:Hp}{a:Addr}{xs:List V}(h:az K H a xs)(f:∀b xs,H b=some (.tup xs)->e b=some (.tup xs)):az K e a xs:=h.imp (f a xs) id
mutual
def yM(K:Za)(H:Hp):TK->V->Prop
 |.k a,v=>v=Gp a
 |.t l,v=>∃b xs,v=.ref b/\az K H b xs/\TKCs K H l xs
def TKCs(K:Za)(H:Hp):List TK->List V->Prop
 |[],vs=>vs=[]
 |k::r,vs=>∃v us,vs=v::us/\yM K H k v/\TKCs K H r us
end
theorem yM.keeps{K:Za}{H g:Hp}(q:∀b xs,H b=some (.tup xs)->g b=some (.tup xs)):∀(d:Nat) {k:TK}{v:V},k.depth<=d->yM K H k v->yM K g k v:=by
 have j:∀(d:Nat) (h:∀{k:TK}{v:V},k.depth<=d->yM K H k v->yM K g k v) (xs:List TK) (i:List V),TK.depths xs<=d->TKCs K H xs i->TKCs K g xs i:=by
  intro d h xs
  induction xs with
  |nil=>intro i _ e;exact e
  |cons x xs m =>
   intro i f e;obtain⟨v,p,rfl,n,o⟩:=e;have r:max x.depth (TK.depths xs)<=d:=f;exact⟨v,p,rfl,h (by omega) n,m p (by omega) o⟩
 intro d
 induction d with
 |zero =>
  intro k v f e;cases k with
  |t l=>exact absurd f (by show ¬(TK.depths l+1<=0);omega)
  |k a=>exact e
 |succ d h =>
  intro k v f e;cases k with
  |k a=>exact e
  |t l =>
   obtain⟨b,xs,rfl,s,u⟩:=e;exact⟨b,xs,rfl,s.keeps q,j d (fun w=>h w) l xs (by have:TK.depths l+1<=d+1:=f;omega) u⟩
theorem ii.c{K:Za}{H:Hp}:∀(d:Nat) {k:TK}{v:V},k.depth<=d->ii H k v->yM K H k v:=by
 have j:∀(d:Nat) (h:∀{k:TK}{v:V},k.depth<=d->ii H k v->yM K H k v) (e:List TK) (i:List V),TK.depths e<=d->TKAts H e i->TKCs K H e i:=by
  intro d h e
  induction e with
  |nil=>intro i _ f;exact f
  |cons x e m =>
   intro i g f;obtain⟨v,p,rfl,n,o⟩:=f;have q:max x.depth (TK.depths e)<=d:=g;exact⟨v,p,rfl,h (by omega) n,m p (by omega) o⟩
 intro d
 induction d with
 |zero =>
  intro k v g f;cases k with
  |t l=>exact absurd g (by show ¬(TK.depths l+1<=0);omega)
  |k a=>exact f
 |succ d h =>
  intro k v g f;cases k with
  |k a=>exact f
  |t l =>
   obtain⟨b,e,rfl,r,s⟩:=f;exact⟨b,e,rfl,.inl r,j d (fun u=>h u) l e (by have:TK.depths l+1<=d+1:=g;omega) s⟩
def upd(H:Hp)(a:Addr)(o:HO):Hp:=fun b=>if b=a then some o else H b
theorem aa{H:Hp}{a:Addr}{o:HO}:upd H a o a=some o:=by unfold upd;rw[if_pos rfl]
theorem aj{H:Hp}{a b:Addr}{o:HO}(h:b≠a):upd H a o b=H b:=by unfold upd;rw[if_neg h]
theorem qt{H:Hp}{a:Addr}{o u:HO}:upd (upd H a o) a u=upd H a u:=by
 funext b;unfold upd;split<;>rfl
theorem Gm{H:Hp}{a b:Addr}{o u:HO}(h:H a=some o)(f:H b=some u)(d:o≠u):a≠b:=by
 intro e;subst e;rw[h]at f;exact d (ei f)
theorem af{H:Hp}{a b:Addr}{o:HO}(h:H a=some o)(f:H b=none):a≠b:=by
 intro e;subst e;rw[h]at f;cases f
section
variable(P:bR)(w:World)(K:Za)
def cy(H:Hp)(h:Heap)(a:Addr):HO->Prop
 |.lst xs=>xs.length<=ah/\∃(its:Zf) (n:Nat),aZ xs its/\h.get? a=some { cls:=.type "list",data:=.seq its.toArray n }
 |.tup xs=>xs.length<=ah/\∃its:List Value,aZ xs its/\IsTup h a its.toArray
 |.dK kvs=>kvs.length<=ah/\(a==iy)=false/\∃vs,KV kvs vs/\h.DictOf (bS P w) a vs
 |.dT kvs=>kvs.length<=ah/\(a==iy)=false/\∃xs:List (TK×Addr×Value),
   Paired (fun(p:TK×V) (q:TK×Addr×Value)=>p.1=q.1/\yM K H p.1 (.ref q.2.1)/\p.1.depth<=8/\RelV p.2 q.2.2) kvs xs /\
   ∃o es ep,h.get? a=some o/\o.ExactDict/\o.data=.dict es ep/\es.toList=xs.map (entryOfKey (fC P w))/\(xs.map (·.1)).Nodup
 |.set S n=>h.SetOf (intKind P w) a S n
 |.ins C dx fs=>H dx=some (.own a)/\fs.length<=1000/\dx≠a/\h.get? a=some (pM C dx) /\
   ∃mA,h.Ns1 dx mA/\(∀f,ka (fs.lookup f) (mA f))/\PySem.Within mA (fs.map (·.1))
 |.own _=>∃o,h.get? a=some o
 |.xd fs=>∃mA,h.Ns1 a mA/\∀f,ka (fs.lookup f) (mA f)
 |.rng lo hi=>∃t u v,h.get? a=some { cls:=.type "range",data:=.fields #[.int lo t,.int hi u,.int 1 v] }
 |.frz o u=>h.get? a=some o/\cy H h a u
 |.tbl ps=>h.get? a=some { cls:=.none,data:=.fields ps }
 |.met f x=>h.get? a=some (PySem.W.methodObj (.ref f) (.ref x))
 |.ext φ=>φ h/\(∃o,h.get? a=some o)/\∀h1 h2:Heap,φ h1->(∀o,h1.get? a=some o->h2.get? a=some o)->φ h2
def lZ(H:Hp)(h:Heap):Prop:=∀a o,H a=some o->cy P w K H h a o
end
section
variable{P:bR}{w:World}{K:Za}{H H':Hp}{h h':Heap}{a:Addr}{o:HO}
theorem cy.lt(x:cy P w K H h a o):a<h.objs.size:=by
 cases o with
 |lst i=>obtain⟨_,_,_,_,e⟩:=x;exact bv e
 |tup i=>obtain⟨_,_,_,p⟩:=x;exact p.lt
 |dK g=>obtain⟨_,_,_,_,o,_,_,e,_⟩:=x;exact bv e
 |dT g=>obtain⟨_,_,_,_,o,_,_,e,_⟩:=x;exact bv e
 |set S n=>obtain⟨o,_,_,_,e,_⟩:=x;exact bv e
 |ins C j fs=>obtain⟨_,_,_,e,_⟩:=x;exact bv e
 |own y=>obtain⟨_,e⟩:=x;exact bv e
 |xd fs=>obtain⟨_,⟨_,_,_,e,_⟩,_⟩:=x;exact bv e
 |rng lo k=>obtain⟨_,_,_,e⟩:=x;exact bv e
 |frz l u=>obtain⟨e,_⟩:=x;exact bv e
 |tbl m=>exact bv (show h.get? a=some _ from x)
 |met f y=>exact bv (show h.get? a=some _ from x)
 |ext φ=>obtain⟨_,⟨_,e⟩,_⟩:=x;exact bv e
theorem Paired.mapP{α β:Type}{F G:α->β->Prop}:∀{e:List α}{g:List β},Paired F e g->(∀a b,F a b->G a b)->Paired G e g
 |_,_,.nil,_=>.nil
 |_,_,.cons r t,f=>.cons (f _ _ r) (Paired.mapP t f)
theorem cy.stay(x:cy P w K H h a o)(k:∀b u,(b=a∨H b=some (.own a))->h.get? b=some u->h'.get? b=some u)
  (E:∀b,H b=some (.own a)->H' b=some (.own a)) (G:∀b m,H b=some (.tup m)->H' b=some (.tup m)):cy P w K H' h' a o:=by
 induction o with
 |lst m=>obtain⟨z,l,n,r,e⟩:=x;exact⟨z,l,n,r,k _ _ (.inl rfl) e⟩
 |tup m=>obtain⟨z,l,r,g,e,c⟩:=x;exact⟨z,l,r,g,k _ _ (.inl rfl) e,c⟩
 |dK s=>obtain⟨z,y,I,r,g,i,j,e,c⟩:=x;exact⟨z,y,I,r,g,i,j,k _ _ (.inl rfl) e,c⟩
 |dT s =>
  obtain⟨z,y,m,r,g,i,j,e,c⟩:=x;exact⟨z,y,m,Paired.mapP r fun p q z=>⟨z.1,yM.keeps G 8 z.2.2.1 z.2.1,z.2.2⟩,g,i,j,k _ _ (.inl rfl) e,c⟩
 |set S n=>obtain⟨g,i,j,t,e,c⟩:=x;exact⟨g,i,j,t,k _ _ (.inl rfl) e,c⟩
 |ins C M fs =>
  obtain⟨d,z,ne,e,A,⟨B,i,j,J,c⟩,r⟩:=x;exact⟨E _ d,z,ne,k _ _ (.inl rfl) e,A,⟨B,i,j,k _ _ (.inr d) J,c⟩,r⟩
 |own y=>obtain⟨g,e⟩:=x;exact⟨g,k _ _ (.inl rfl) e⟩
 |xd fs=>obtain⟨A,⟨B,i,j,e,c⟩,r⟩:=x;exact⟨A,⟨B,i,j,k _ _ (.inl rfl) e,c⟩,r⟩
 |rng lo N=>obtain⟨t,u,v,e⟩:=x;exact⟨t,u,v,k _ _ (.inl rfl) e⟩
 |frz g u L=>obtain⟨e,q⟩:=x;exact⟨k _ _ (.inl rfl) e,L q⟩
 |tbl D =>
  have e:h.get? a=some { cls:=.none,data:=.fields D }:=x;show h'.get? a=some { cls:=.none,data:=.fields D };exact k a _ (.inl rfl) e
 |met f y =>
  have e:h.get? a=some (PySem.W.methodObj (.ref f) (.ref y)):=x;show h'.get? a=some (PySem.W.methodObj (.ref f) (.ref y));exact k a _ (.inl rfl) e
 |ext φ=>obtain⟨p,⟨o,e⟩,st⟩:=x;exact⟨st _ _ p fun o q=>k _ _ (.inl rfl) q,⟨o,k _ _ (.inl rfl) e⟩,st⟩
theorem lZ.lt(x:lZ P w K H h)(e:H a=some o):a<h.objs.size:=(x a o e).lt
theorem lZ.fresh(x:lZ P w K H h)(e:h.objs.size<=a):H a=none:=by
 cases q:H a with
 |none=>rfl
 |some u=>exact absurd (g6 (x.lt q) e) (pL _)
theorem lZ.kept(x:lZ P w K H h)(k:∀b u,h.get? b=some u->h'.get? b=some u):lZ P w K H h':=fun a o e =>
 (x a o e).stay (fun b u _ q=>k b u q) (fun _ q=>q) fun _ _ q=>q
theorem lZ.laid(x:lZ P w K H h)(k:∀b u,h.get? b=some u->h'.get? b=some u)(i:h.objs.size<=a)(new:cy P w K (upd H a o) h' a o):lZ P w K (upd H a o) h':=fun b u e=>by
 have f:=x.fresh i;by_cases g:b=a
 ·subst g;rw[aa]at e;cases e;exact new
 ·rw[aj g]at e;exact(x b u e).stay (fun c v _ q=>k c v q) (fun c q=>by rw[aj (af q f)];exact q) fun c j q=>by rw[aj (af q f)];exact q
end
def Rd(H:Hp)(a:Addr)(u:HO):Prop:=H a=some u∨∃o,H a=some (.frz o u)
theorem Rd.ok{P:bR}{w:World}{K:Za}{H:Hp}{h:Heap}{a:Addr}{u:HO}(r:Rd H a u)(x:lZ P w K H h):cy P w K H h a u:=by
 rcases r with r|⟨o,r⟩
 ·exact x a u r
 ·obtain⟨_,q⟩:=x a _ r;exact q
def HJ:Option HO->Prop
 |some (.lst _)=>True
 |some (.dK _)=>True
 |some (.dT _)=>True
 |some (.set _ _)=>True
 |some (.ins _ _ _)=>True
 |some (.ext _)=>True
 |_=>False
section
variable{P:bR}{w:World}{K:Za}{H:Hp}{h h':Heap}{x e:Addr}{o':HO}
theorem lZ.write(ok:lZ P w K H h)(i:HJ (H x))(n:e=x∨H e=some (.own x))(k:∀b u,b≠e->h.get? b=some u->h'.get? b=some u)(m:∃u,h'.get? e=some u)
  (new:cy P w K (upd H x o') h' x o'):lZ P w K (upd H x o') h':=fun b u q=>by
 have f:∀c y,H c=some (.own y)->c≠x:=fun c y r z=>by subst z;rw[r]at i;exact i
 have g:∀c j,H c=some (.tup j)->c≠x:=fun c j r z=>by subst z;rw[r]at i;exact i
 by_cases l:b=x
 ·subst l;rw[aa]at q;cases q;exact new
 ·rw[aj l]at q;by_cases a:b=e
  ·have o:H b=some (.own x):=by
    rcases n with z|z
    ·exact absurd (a.trans z) l
    ·rw[a];exact z
   rw[q]at o;cases o;obtain⟨v,p⟩:=m;exact⟨v,by rw[a];exact p⟩
  ·refine(ok b u q).stay (fun c v hc r=>k c v ?_ r) (fun c r=>by rw[aj (f c b r)];exact r) fun c j r=>by rw[aj (g c j r)];exact r
   rcases hc with rfl|hc
   ·exact a
   ·rintro rfl;rcases n with z|z
    ·exact f c b hc z
    ·rw[hc]at z;cases z;exact l rfl
end
structure Un(fs ex:Ze)(H H':Hp)(h h':Heap):Prop where
 keep:∀b o,h.get? b=some o->H b=none->b∉fs->b∉ex->h'.get? b=some o
 slot:∀b o,h.get? b=some o->H b=none->b∈fs->b∉ex->∃sl,h'.get? b=some { o with slots:=sl }
 free:∀b o,h.get? b=some o->H b=none->b∉ex->H' b=none
 there:∀b o,h.get? b=some o->b∉ex->∃o',h'.get? b=some o'
 tups:∀b xs,H b=some (.tup xs)->H' b=some (.tup xs)
 frzs:∀b o u,H b=some (.frz o u)->H' b=some (.frz o u)
 tbls:∀b ps,H b=some (.tbl ps)->∃more,H' b=some (.tbl (ps++more))
section
variable{fs fs' ex ex':Ze}{H H1 H2:Hp}{h h1 h2 h':Heap}{a x e:Addr}{o:HO}
theorem Un.any(u:Un fs ex H H1 h h1){b:Addr}{f:Obj}(q:h.get? b=some f)(n:H b=none)(g:b∉ex):∃j,h1.get? b=some { f with slots:=j }:=by
 by_cases i:b∈fs
 ·exact u.slot b f q n i g
 ·exact⟨f.slots,u.keep b f q n i g⟩
theorem Un.kept(k:∀b u,h.get? b=some u->h'.get? b=some u):Un fs ex H H h h' :=
 ⟨fun b f q _ _ _=>k b f q,fun b f q _ _ _=>⟨f.slots,k b f q⟩,fun _ _ _ n _=>n,fun b f q _=>⟨f,k b f q⟩,fun _ _ q=>q,fun _ _ _ q=>q,fun _ g q=>⟨#[],by rw[q];simp⟩⟩
theorem Un.refl:Un fs ex H H h h:=Un.kept fun _ _ q=>q
theorem Un.laid(k:∀b u,h.get? b=some u->h'.get? b=some u)(g:h.objs.size<=a)(f:H a=none):Un fs ex H (upd H a o) h h' where
 keep:=fun b u q _ _ _=>k b u q
 slot:=fun b u q _ _ _=>⟨u.slots,k b u q⟩
 free:=fun b u q n _=>by rw[aj (cQ (g6 (bv q) g))];exact n
 there:=fun b u q _=>⟨u,k b u q⟩
 tups:=fun b i q=>by rw[aj (af q f)];exact q
 frzs:=fun b u i q=>by rw[aj (af q f)];exact q
 tbls:=fun b j q=>⟨#[],by rw[aj (af q f),q];simp⟩
theorem Un.write(g:HJ (H x))(p:e=x∨H e=some (.own x))(k:∀b u,b≠e->h.get? b=some u->h'.get? b=some u)(i:∃u,h'.get? e=some u):Un fs ex H (upd H x o) h h':=by
 have l:∀b,H b=none->b≠x:=fun b n z=>by subst z;rw[n]at g;exact g
 have m:∀b,H b=none->b≠e:=fun b n z=>by
  subst z;rcases p with r|r
  ·exact l b n r
  ·rw[n]at r;cases r
 have j:∀b u,H b=some u->¬HJ (some u)->b≠x:=fun b u q s z=>by subst z;rw[q]at g;exact s g
 refine⟨fun b u q n _ _=>k b u (m b n) q,fun b u q n _ _=>⟨u.slots,k b u (m b n) q⟩,fun b u q n _=>by rw[aj (l b n)];exact n,fun b u q _=>?_,
  fun b t q=>by rw[aj (j b _ q fun z=>z)];exact q,fun b u t q=>by rw[aj (j b _ q fun z=>z)];exact q,fun b v q=>⟨#[],by rw[aj (j b _ q fun z=>z),q];simp⟩⟩
 by_cases f:b=e
 ·subst f;exact i
 ·exact⟨u,k b u f q⟩
end
def HP(h:Heap)(H:Hp):List Addr:=(l9 h.objs.size).filter fun a=>(H a).isSome
def wc(h:Heap)(H:Hp):Heap:=PySem.W.hideAll h (HP h H)
theorem Cv(h:Heap)(H:Hp):(wc h H).objs.size=h.objs.size:=PySem.W.hideAll_size _ _
theorem Ea{h:Heap}{H:Hp}{b:Addr}{o:Obj}(e:h.get? b=some o)(n:H b=none):(wc h H).get? b=some o :=
 PySem.W.hideAll_get _ e fun a=>by
  have q:(H b).isSome=true:=(dO.mp a).2;rw[n]at q;simp at q
theorem FB{h:Heap}{H:Hp}{b:Addr}{o:Obj}(e:(wc h H).get? b=some o):h.get? b=some o/\H b=none:=by
 have a:h.get? b=some o:=PySem.W.of_hideAll (HP h H) e;refine⟨a,?_⟩;cases q:H b with
 |none=>rfl
 |some x =>
  have f:b∈HP h H:=dO.mpr ⟨List.mem_range.mpr (bv a),by simp[q]⟩;have z:(wc h H).get? b=none:=PySem.W.hideAll_none (HP h H) f;rw[z]at e;cases e
end L2
namespace L2
open PySem PySem.Spec PyProof.Rows
structure Mod(K:Za)(mg:Str->Option Value)(base:Heap):Prop where
 kin:K.In base
 glob:base.Ns bO mg
 blt:∃mb,base.Ns builtinsNs mb/\∀x:Str,x≠"__name__"->mb x=jc x
 nolimit:base.NoLimit
structure Cx where
 prog:bR
 w:World
 K:Za
 mg:Str->Option Value
 base:Heap
 A:Around
 N:List Str
 s₀:Shared
 H₀:Hp
 env:Env
 outer:List Env
 stack:List Env
 ex:List Addr
 fn:Str->Bool
 calm:Bool
 pn:List (Addr×Obj)
 xe:Value->Shared->Prop
def C2(l:List Env):List Addr:=l.filterMap (·.frame)
abbrev Cx.fs(X:Cx):List Addr:=C2 X.outer
def Vis(sc:Scope)(x:Str):Prop:=sc.names.lookup x=some .local∨sc.names.lookup x=some .cell∨sc.names.lookup x=some .free
def Loc(sc:Scope)(x:Str):Prop:=sc.names.lookup x=some .local∨sc.names.lookup x=some .cell
def Look(env:Env)(h:Heap)(m:Str->Option Value)(x:Str)(u:Value):Prop :=
 (env.kindOf x=some .local/\m x=some u)∨((env.kindOf x=some .cell∨env.kindOf x=some .free)/\∃c,env.cells.lookup x=some c/\h.IsCell c (some u))
structure Cx.Ok(X:Cx):Prop where
 mod:Mod X.K X.mg X.base
 kind:X.env.scope.kind=.function
 glob:X.env.globals=bO
 blt:X.env.builtins=builtinsNs
 above:X.s₀.heap.objs.size<=X.env.locals
 inj:∀x y c,X.env.cells.lookup x=some c->X.env.cells.lookup y=some c->x=y
 has:∀x,(X.env.kindOf x=some .cell∨X.env.kindOf x=some .free)->∃c,X.env.cells.lookup x=some c
 cab:∀x c,X.fn x=true->X.env.cells.lookup x=some c->X.s₀.heap.objs.size<=c
 hd:X.calm=true->X.A.handled=none
 frames:X.A.frames=some X.stack
 stk:X.stack=X.outer∨(X.stack=X.env::X.outer/\X.env.frame=some X.env.locals)
 exf:∀b∈X.ex,b≠X.env.locals/\∀x c,X.env.cells.lookup x=some c->c≠b
 bs:∀b o,X.base.get? b=some o->X.s₀.heap.get? b=some o/\X.H₀ b=none
 bsz:X.base.objs.size<=X.s₀.heap.objs.size
 noex:∀b o,X.base.get? b=some o->b∉X.ex
 exfs:∀b∈X.ex,b∉X.fs
 funs:X.s₀.heap.FunFrames X.base X.outer
 frf:∀b∈X.fs,X.H₀ b=none
structure Inv(X:Cx)(J4:Zd)(σ:List (Option V))(H:Hp)(s:Shared):Prop where
 ok:X.Ok
 os:s.os=X.s₀.os
 bare:nk s.gens
 base:Un X.fs X.ex X.H₀ H X.s₀.heap s.heap
 loc:∃m,s.heap.Ns X.env.locals m/\∀(i:Nat) (x:Str) (v:V),X.N[i]?=some x->σ[i]?=some (some v)->Vis X.env.scope x->∃u,RelV v u/\Look X.env s.heap m x u
 cell:∀x c,X.env.cells.lookup x=some c->∃v,s.heap.IsCell c v
 free:H X.env.locals=none
 freeC:∀x c,X.env.cells.lookup x=some c->H c=none
 pin:∀p∈X.pn++J4,s.heap.get? p.1=some p.2/\H p.1=none/\p.1≠X.env.locals/\p.1∉X.fs/\∀v,p.2.data≠.cell v
 hok:lZ X.prog X.w X.K H s.heap
 len:σ.length=X.N.length
section
variable{X:Cx}{J4:Zd}{σ:List (Option V)}{H H':Hp}{s:Shared}{h':Heap}
theorem Cx.Ok.nofr(ok:X.Ok){b:Addr}{o:Obj}(e:X.base.get? b=some o):b∉X.fs:=fun a=>by
 have:=(ok.funs.mem a).1;rw[e]at this;cases this
theorem Inv.bs(I:Inv X J4 σ H s):∀b o,X.base.get? b=some o->s.heap.get? b=some o/\H b=none:=fun b o e =>
 ⟨I.base.keep b o (I.ok.bs b o e).1 (I.ok.bs b o e).2 (I.ok.nofr e) (I.ok.noex b o e),I.base.free b o (I.ok.bs b o e).1 (I.ok.bs b o e).2 (I.ok.noex b o e)⟩
theorem Inv.bk(I:Inv X J4 σ H s):∀b o,X.base.get? b=some o->s.heap.get? b=some o:=fun b o e=>(I.bs b o e).1
theorem Inv.mod(I:Inv X J4 σ H s):Mod X.K X.mg X.base:=I.ok.mod
theorem Inv.kIn(I:Inv X J4 σ H s):X.K.In s.heap:=I.ok.mod.kin.keeps I.bk
theorem Inv.fr(I:Inv X J4 σ H s):∃m,Fr X.base X.env.locals s.heap m :=
 let⟨m,a,_⟩:=I.loc
 ⟨m,a,I.bk,bm I.ok.bsz I.ok.above⟩
theorem Inv.lt(I:Inv X J4 σ H s):X.env.locals<s.heap.objs.size:=let⟨_,a,_⟩:=I.loc;a.lt
theorem Inv.sz(I:Inv X J4 σ H s):X.s₀.heap.objs.size<=s.heap.objs.size:=bm I.ok.above (cN I.lt)
theorem Inv.nofs(I:Inv X J4 σ H s){a:Addr}(h:s.heap.objs.size<=a):a∉X.fs:=fun e=>by
 obtain⟨_,o,f,_⟩:=I.ok.funs.mem e;exact absurd (g6 (bv f) (bm I.sz h)) (pL _)
theorem Inv.cne(I:Inv X J4 σ H s):∀x c,X.env.cells.lookup x=some c->c≠X.env.locals:=fun x c e z=>by
 obtain⟨v,o,g,h⟩:=I.cell x c e;obtain⟨m,⟨i,j,k,a,f,_⟩,_⟩:=I.loc;rw[z,a]at g;cases g;rw[f]at h;cases h
theorem Inv.funs(I:Inv X J4 σ H s):s.heap.FunFrames X.base X.outer:=by
 have all:∀(l:List Env),(∀b∈C2 l,b∈X.fs)->X.s₀.heap.FunFrames X.base l->s.heap.FunFrames X.base l:=by
  intro l
  induction l with
  |nil=>intro _ _;trivial
  |cons i r j =>
   intro h k;obtain⟨m,⟨L,o,a,n,p,q⟩,t⟩:=k;have f:L∈X.fs:=h L (by unfold C2;rw[List.filterMap_cons,a];exact du);obtain⟨u,e⟩:=I.base.slot L o p (I.ok.frf L f) f fun z=>I.ok.exfs L z f;exact⟨m,⟨L,_,a,n,e,q⟩,j (fun b g=>h b (by unfold C2;rw[List.filterMap_cons,a];exact eI _ g)) t⟩
 exact all X.outer (fun _ g=>g) I.ok.funs
theorem Inv.stack(I:Inv X J4 σ H s):s.heap.FunFrames X.base X.stack:=by
 rcases I.ok.stk with e|⟨e,a⟩
 ·rw[e];exact I.funs
 ·rw[e];obtain⟨m,f,_⟩:=I.loc;refine .cons (by rw[I.ok.kind];decide) a f ?_ I.funs;exact Heap.get?_none_of_le (bm I.ok.bsz I.ok.above)
theorem Inv.stkSub(I:Inv X J4 σ H s):∀b∈C2 X.stack,b∈X.env.locals::X.fs:=fun b a=>by
 rcases I.ok.stk with e|⟨e,f⟩
 ·rw[e]at a;exact eI _ a
 ·rw[e]at a;unfold C2 at a;rw[List.filterMap_cons,f]at a;exact a
theorem Inv.stkFree(I:Inv X J4 σ H s):∀b∈C2 X.stack,H b=none:=fun b hb=>by
 rcases cx.mp (I.stkSub b hb)with e|hb
 ·rw[e];exact I.free
 ·obtain⟨_,o,a,_⟩:=I.ok.funs.mem hb;exact I.base.free b o a (I.ok.frf b hb) fun z=>I.ok.exfs b z hb
theorem Inv.step{g':Array GenState}{t':Nat}{d':Drawn}{ch:Ze}(I:Inv X J4 σ H s)
  (f:∀b∈ch,(b∈X.ex∨X.s₀.heap.objs.size<=b)/\b≠X.env.locals/\(∀x c,X.env.cells.lookup x=some c->c≠b)/\∀p∈X.pn++J4,p.1≠b)
  (g:∀b o,b≠X.env.locals->b∉X.fs->b∉ch->s.heap.get? b=some o->H b=none->h'.get? b=some o)
  (y:∀b o,b≠X.env.locals->b∈X.fs->b∉ch->s.heap.get? b=some o->H b=none->∃Q,h'.get? b=some { o with slots:=Q }) (free:∀b o,b∉ch->s.heap.get? b=some o->H b=none->H' b=none)
  (there:∀b o,b∉ch->s.heap.get? b=some o->∃D,h'.get? b=some D)
  (E:∀b A,H b=some (.tup A)->H' b=some (.tup A)) (G:∀b o u,H b=some (.frz o u)->H' b=some (.frz o u)) (J:∀b O,H b=some (.tbl O)->∃L,H' b=some (.tbl (O++L)))
  (ns:∀m,s.heap.Ns X.env.locals m->h'.Ns X.env.locals m) (T:lZ X.prog X.w X.K H' h') (hg:nk g') :
  Inv X J4 σ H' { s with heap:=h',gens:=g',drawn:=d',toks:=t' }:=by
 have M:∀b o,X.s₀.heap.get? b=some o->b≠X.env.locals:=fun b o e=>cQ (g6 (bv e) I.ok.above);have j:∀b o,X.s₀.heap.get? b=some o->b∉X.ex->b∉ch:=fun b o e a B=>by
  rcases(f b B).1 with z|z
  ·exact a z
  ·exact absurd (g6 (bv e) z) (pL _)
 have cellK:∀x c,X.env.cells.lookup x=some c->∀v,s.heap.IsCell c v->h'.IsCell c v:=fun x c e v ⟨o,C,U⟩=>by
  have h:c∉ch:=fun z=>(f c z).2.2.1 x c e rfl;by_cases hc:c∈X.fs
  ·obtain⟨Q,q⟩:=y c o (I.cne x c e) hc h C (I.freeC x c e);exact⟨_,q,U⟩
  ·exact⟨o,g c o (I.cne x c e) hc h C (I.freeC x c e),U⟩
 refine⟨I.ok,I.os,hg,⟨fun b o e n B a=>?_,fun b o e n B a=>?_,fun b o e n a=>?_,fun b o e a=>?_,fun b A e=>E b A (I.base.tups b A e),fun b o A e=>G b o A (I.base.frzs b o A e),fun b O e=>?_⟩,?_,fun x c e=>?_,?_,fun x c e=>?_,fun p hp=>?_,T,I.len⟩
 ·exact g b o (M b o e) B (j b o e a) (I.base.keep b o e n B a) (I.base.free b o e n a)
 ·obtain⟨Q,t⟩:=I.base.slot b o e n B a;obtain⟨Y,N⟩:=y b _ (M b o e) B (j b o e a) t (I.base.free b o e n a);exact⟨Y,N⟩
 ·obtain⟨D,t⟩:=I.base.there b o e a;exact free b D (j b o e a) t (I.base.free b o e n a)
 ·obtain⟨D,t⟩:=I.base.there b o e a;exact there b D (j b o e a) t
 ·obtain⟨m1,t⟩:=I.base.tbls b O e;obtain⟨m2,N⟩:=J b _ t;exact⟨m1++m2,by rw[N,Array.append_assoc]⟩
 ·obtain⟨m,hn,hl⟩:=I.loc;refine⟨m,ns m hn,fun i x v t N e3=>?_⟩;obtain⟨u,r,l⟩:=hl i x v t N e3;refine⟨u,r,?_⟩;rcases l with l|⟨k,c,e,z⟩
  ·exact .inl l
  ·exact .inr ⟨k,c,e,cellK x c e _ z⟩
 ·obtain⟨v,z⟩:=I.cell x c e;exact⟨v,cellK x c e v z⟩
 ·obtain⟨m,⟨o,_,_,C,_⟩,_⟩:=I.loc;exact free _ o (fun z=>(f _ z).2.1 rfl) C I.free
 ·obtain⟨v,o,C,U⟩:=I.cell x c e;exact free c o (fun z=>(f c z).2.2.1 x c e rfl) C (I.freeC x c e)
 ·obtain⟨e,n,ne,nf,d⟩:=I.pin p hp;have h:p.1∉ch:=fun z=>(f p.1 z).2.2.2 p hp rfl;exact⟨g p.1 p.2 ne nf h e n,free p.1 p.2 h e n,ne,nf,d⟩
theorem Inv.un{t':Nat}(I:Inv X J4 σ H s)(u:Un X.fs [] H H' s.heap h')(f:lZ X.prog X.w X.K H' h'):Inv X J4 σ H' { s with heap:=h',toks:=t' }:=by
 obtain⟨m,⟨o,q,t,j,r⟩,_⟩:=id I.loc;obtain⟨v,k⟩:=u.any j I.free (by simp);exact I.step (g':=s.gens) (d':=s.drawn) (ch:=[]) (fun _ z=>nomatch z) (fun b o _ g _ e n=>u.keep b o e n g (by simp)) (fun b o _ g _ e n=>u.slot b o e n g (by simp)) (fun b o _ e n=>u.free b o e n (by simp)) (fun b o _ e=>u.there b o e (by simp)) u.tups u.frzs u.tbls (fun x l=>by
  obtain⟨y,h,i,a,p⟩:=l;rw[j]at a;cases a;exact⟨_,h,i,k,p⟩) f I.bare
theorem Inv.call{g':Array GenState}{t':Nat}{d':Drawn}{ch:Ze}(I:Inv X J4 σ H s)(u:Un (C2 X.stack) ch H H' s.heap h')(h:lZ X.prog X.w X.K H' h')(q:nk g')
  (f:∀b∈ch,(b∈X.ex∨X.s₀.heap.objs.size<=b)/\b≠X.env.locals/\(∀x c,X.env.cells.lookup x=some c->c≠b)/\∀p∈X.pn++J4,p.1≠b) :
  Inv X J4 σ H' { s with heap:=h',gens:=g',drawn:=d',toks:=t' }:=by
 obtain⟨m,⟨o,A,B,l,r⟩,_⟩:=id I.loc;obtain⟨C,i⟩:=u.any l I.free fun z=>(f _ z).2.1 rfl;exact I.step (ch:=ch) f (fun b o i t a e n=>u.keep b o e n (fun z=>(cx.mp (I.stkSub b z)).elim i t) a) (fun b o _ _ a e n=>u.any e n a) (fun b o a e n=>u.free b o e n a) (fun b o a e=>u.there b o e a) u.tups u.frzs u.tbls (fun D v=>by
  obtain⟨E,j,k,g,y⟩:=v;rw[l]at g;cases g;exact⟨_,j,k,i,y⟩) h q
theorem Inv.turned{t':Nat}{it:Addr}(I:Inv X J4 σ H s)(k:∀b o,b≠it->s.heap.get? b=some o->h'.get? b=some o)(h:H it=none)(g:it≠X.env.locals)
  (i:it∈X.ex∨X.s₀.heap.objs.size<=it) (j:∀x c,X.env.cells.lookup x=some c->c≠it) (l:∀p∈X.pn++J4,p.1≠it):Inv X J4 σ H { s with heap:=h',toks:=t' }:=by
 have f:∀b u,H b=some u->b≠it:=fun b u e z=>by rw[z,h]at e;cases e
 refine I.step (g':=s.gens) (d':=s.drawn) (ch:=[it]) (fun b t=>?_) (fun b o _ _ a e _=>k b o (fun z=>a (by simp[z])) e) (fun b o _ _ a e _=>⟨o.slots,k b o (fun z=>a (by simp[z])) e⟩) (fun _ _ _ _ n=>n)
  (fun b o a e=>⟨o,k b o (fun z=>a (by simp[z])) e⟩) (fun _ _ e=>e) (fun _ _ _ e=>e) (fun b C e=>⟨#[],by rw[e];simp⟩) (fun m w=>?_) (fun b u e=>?_) I.bare
 ·have e:b=it:=by simpa using t
  subst e;exact⟨i,g,j,l⟩
 ·obtain⟨o,y,A,B,r⟩:=w;exact⟨o,y,A,k _ o (g0 g) B,r⟩
 ·refine(I.hok b u e).stay (fun c v a q=>k c v ?_ q) (fun _ q=>q) fun _ _ q=>q;rcases a with z|z
  ·rw[z];exact f b u e
  ·exact f c _ z
theorem Inv.tok(I:Inv X J4 σ H s)(t:Nat):Inv X J4 σ H { s with toks:=t }:=I.un (h':=s.heap) (t':=t) Un.refl I.hok
theorem Inv.kept{t':Nat}(I:Inv X J4 σ H s)(k:∀b u,s.heap.get? b=some u->h'.get? b=some u):Inv X J4 σ H { s with heap:=h',toks:=t' }:=I.un (Un.kept k) (I.hok.kept k)
theorem Inv.laid{a:Addr}{o:HO}{t':Nat}(I:Inv X J4 σ H s)(k:∀b u,s.heap.get? b=some u->h'.get? b=some u)(e:s.heap.objs.size<=a)(new:cy X.prog X.w X.K (upd H a o) h' a o):
  Inv X J4 σ (upd H a o) { s with heap:=h',toks:=t' }:=I.un (Un.laid k e (I.hok.fresh e)) (I.hok.laid k e new)
theorem Inv.write{x e:Addr}{o:HO}{t':Nat}(I:Inv X J4 σ H s)(f:HJ (H x))(g:e=x∨H e=some (.own x))(k:∀b u,b≠e->s.heap.get? b=some u->h'.get? b=some u)(a:∃u,h'.get? e=some u)
  (new:cy X.prog X.w X.K (upd H x o) h' x o):Inv X J4 σ (upd H x o) { s with heap:=h',toks:=t' }:=I.un (Un.write f g k a) (I.hok.write f g k a new)
theorem Inv.weak{σ':List (Option V)}(I:Inv X J4 σ H s)(e:σ'.length=σ.length)(w:∀(i:Nat) v,σ'[i]?=some (some v)->σ[i]?=some (some v)):Inv X J4 σ' H s :=
 ⟨I.ok,I.os,I.bare,I.base,let⟨m,f,a⟩:=I.loc;⟨m,f,fun i x v g h j=>a i x v g (w i v h) j⟩,I.cell,I.free,I.freeC,I.pin,I.hok,e.trans I.len⟩
theorem Inv.pins_of{a:Zd}(I:Inv X J4 σ H s)(h:∀p∈a,s.heap.get? p.1=some p.2/\H p.1=none/\p.1≠X.env.locals/\p.1∉X.fs/\∀v,p.2.data≠.cell v):Inv X a σ H s :=
 ⟨I.ok,I.os,I.bare,I.base,I.loc,I.cell,I.free,I.freeC,fun p e=>(be.mp e).elim (fun z=>I.pin p (da _ z)) (h p),I.hok,I.len⟩
theorem xR{N:Zb}(e:N.Nodup){i j:Nat}{x:Str}(a:N[i]?=some x)(b:N[j]?=some x):i=j:=by
 obtain⟨h,f⟩:=ca.mp a;obtain⟨k,g⟩:=ca.mp b;exact(List.getElem_inj e).mp (f.trans g.symm)
theorem ul{M:Model}{A:Around}{E:Zc}{i:Nat}{x:Str}{v:V}{u:Value}{Q:Unit->Shared->Prop}(I:Inv X J4 σ H s)(hN:X.N.Nodup)(C:X.N[i]?=some x)(l:Loc X.env.scope x)(r:RelV v u)
  (h:∀s',Inv X J4 (σ.set i (some v)) H s'->(∃a,ix a s.heap s'.heap/\(a=X.env.locals∨X.env.cells.lookup x=some a))->Q () s') (hf:X.fn x=true∨X.env.scope.names.lookup x=some .local:=by first|exact .inl rfl|exact .inr rfl|assumption):wpAny M A (storeName X.env x u) Q E s:=by
 obtain⟨m,hn,hl⟩:=id I.loc;have L:(X.env.scope.kind==.class || (X.env.scope.kind==.module && X.env.locals != X.env.globals))=false:=by rw[I.ok.kind];rfl
 have Cσ:i<σ.length:=by rw[I.len];exact(ca.mp C).1
 have cne:=I.cne;have tracked:∀{a:Addr}{h':Heap},(∃o,s.heap.get? a=some o/\H a=none)->ix a s.heap h'->lZ X.prog X.w X.K H h':=fun{a h'} ha f b ob e=>by
  obtain⟨_,_,t⟩:=ha;refine(I.hok b ob e).stay (fun c w' hc q=>(f.2 c ?_).trans q) (fun _ q=>q) fun _ _ q=>q;rintro rfl;rcases hc with rfl|hc
  ·rw[t]at e;cases e
  ·rw[t]at hc;cases hc
 rcases l with hk|hk
 ·refine wpAny_storeName_local hk hn (fun h' al f=>?_) L;obtain⟨oL,_,_,an,_⟩:=id hn;refine h _ ⟨I.ok,I.os,I.bare,⟨fun b o e n D l=>?_,fun b o e n D l=>?_,I.base.free,fun b o e l=>?_,I.base.tups,I.base.frzs,I.base.tbls⟩,⟨_,al,fun j y v' g B e3=>?_⟩,fun y c e=>?_,I.free,I.freeC,fun p hp=>?_,tracked ⟨oL,an,I.free⟩ f,by simpa using I.len⟩ ⟨_,f,.inl rfl⟩
  ·exact(f.2 b (cQ (g6 (bv e) I.ok.above))).trans (I.base.keep b o e n D l)
  ·obtain⟨sl,g⟩:=I.base.slot b o e n D l;exact⟨sl,(f.2 b (cQ (g6 (bv e) I.ok.above))).trans g⟩
  ·obtain⟨o',g⟩:=I.base.there b o e l;exact⟨o',(f.2 b (cQ (g6 (bv e) I.ok.above))).trans g⟩
  ·by_cases G:j=i
   ·subst G;rw[C]at g;cases g;rw[List.getElem?_set_self Cσ]at B;cases B;exact⟨u,r,.inl ⟨hk,by simp⟩⟩
   ·rw[List.getElem?_set_ne (g0 G)]at B;obtain⟨u',r',q⟩:=hl j y v' g B e3;refine⟨u',r',?_⟩;rcases q with⟨k,e⟩|⟨k,c,e,z⟩
    ·refine .inl ⟨k,?_⟩;have:y≠x:=fun e=>G (xR hN g (e▸C));simp[this,e]
    ·exact .inr ⟨k,c,e,z.sameBut f (cne y c e)⟩
  ·obtain⟨w',z⟩:=I.cell y c e;exact⟨w',z.sameBut f (cne y c e)⟩
  ·obtain⟨e,n,ne,nf,d⟩:=I.pin p hp;exact⟨(f.2 p.1 ne).trans e,n,ne,nf,d⟩
 ·have J:X.fn x=true:=by
   rcases hf with z|z
   ·exact z
   ·rw[z]at hk;cases hk
  obtain⟨c,hc⟩:=I.ok.has x (.inl hk);obtain⟨w',z⟩:=I.cell x c hc;refine wpAny_storeName_cell I.ok.kind hk hc z (fun h' O f=>?_);obtain⟨oc,T,U⟩:=id z;refine h { s with heap:=h' } ⟨I.ok,I.os,I.bare,⟨fun b o e n D l=>?_,fun b o e n D l=>?_,I.base.free,fun b o e l=>?_,I.base.tups,I.base.frzs,I.base.tbls⟩,⟨m,hn.sameBut f (g0 (cne x c hc)),fun j y v' g B e3=>?_⟩,fun y c' e=>?_,I.free,I.freeC,fun p hp=>?_,tracked ⟨oc,T,I.freeC x c hc⟩ f,by simpa using I.len⟩ ⟨c,f,.inr hc⟩
  ·exact(f.2 b (cQ (g6 (bv e) (I.ok.cab x c J hc)))).trans (I.base.keep b o e n D l)
  ·obtain⟨sl,g⟩:=I.base.slot b o e n D l;exact⟨sl,(f.2 b (cQ (g6 (bv e) (I.ok.cab x c J hc)))).trans g⟩
  ·obtain⟨o',g⟩:=I.base.there b o e l;exact⟨o',(f.2 b (cQ (g6 (bv e) (I.ok.cab x c J hc)))).trans g⟩
  ·by_cases G:j=i
   ·subst G;rw[C]at g;cases g;rw[List.getElem?_set_self Cσ]at B;cases B;exact⟨u,r,.inr ⟨.inl hk,c,hc,O⟩⟩
   ·rw[List.getElem?_set_ne (g0 G)]at B;obtain⟨u',r',q⟩:=hl j y v' g B e3;refine⟨u',r',?_⟩;rcases q with q|⟨k,c',e,z'⟩
    ·exact .inl q
    ·refine .inr ⟨k,c',e,z'.sameBut f ?_⟩;rintro rfl;exact G (xR hN g (I.ok.inj _ _ _ e hc▸C))
  ·by_cases Y:c'=c
   ·subst Y;exact⟨_,O⟩
   ·obtain⟨w2,z2⟩:=I.cell y c' e;exact⟨w2,z2.sameBut f Y⟩
  ·obtain⟨e,n,ne,nf,d⟩:=I.pin p hp;refine⟨(f.2 p.1 ?_).trans e,n,ne,nf,d⟩;intro q;rw[q,T]at e;have q':oc=p.2:=ei e;exact d w' (by rw[<-q'];exact U)
theorem xw{M:Model}{A:Around}{E:Zc}{i:Nat}{x:Str}{v:V}{u:Value}{Q:Unit->Shared->Prop}(I:Inv X J4 σ H s)(e:X.N.Nodup)(f:X.N[i]?=some x)(g:Loc X.env.scope x)(r:RelV v u)
  (h:∀a,Inv X J4 (σ.set i (some v)) H a->Q () a) (j:X.fn x=true∨X.env.scope.names.lookup x=some .local:=by first|exact .inl rfl|exact .inr rfl|assumption):wpAny M A (storeName X.env x u) Q E s :=
 ul I e f g r (fun a k _=>h a k) j
theorem Inv.call'{a:Shared}{h:Ze}(I:Inv X J4 σ H s)(i:a.os=s.os)(u:Un (C2 X.stack) h H H' s.heap a.heap)(f:lZ X.prog X.w X.K H' a.heap)(j:nk a.gens)
  (g:∀b∈h,(b∈X.ex∨X.s₀.heap.objs.size<=b)/\b≠X.env.locals/\(∀x c,X.env.cells.lookup x=some c->c≠b)/\∀p∈X.pn++J4,p.1≠b):Inv X J4 σ H' a:=by
 obtain⟨h',k,l,m,n⟩:=a;have e:n=s.os:=i;subst e;exact I.call (g':=k) (t':=m) (d':=l) u f j g
end
abbrev XK:=Value->Option Addr->Hp->Prop
abbrev St:=List (Option V)
abbrev VK:=V->Hp->Prop
abbrev TE:=St->Hp->VK->Prop
abbrev TT:=St->Hp->(Bool->Hp->Prop)->Prop
abbrev TA:=St->Hp->(List V->Hp->Prop)->Prop
structure ox where
 nx:St->Hp->Prop
 rt:VK
 bk:St->Hp->Prop:=fun _ _=>False
 ct:St->Hp->Prop:=fun _ _=>False
abbrev bq(Q:VK):ox:={ nx:=fun _ H=>Q .non H,rt:=Q }
abbrev TS:=ox->St->Hp->Prop
def EP(X:Cx)(J4:Zd)(σ:St)(Q:VK)(u:Value)(s':Shared):Prop:=∃v H',Inv X J4 σ H' s'/\RelV v u/\Q v H'
def TP(X:Cx)(J4:Zd)(σ:St)(Q:Bool->Hp->Prop)(b:Bool)(s':Shared):Prop:=∃H',Inv X J4 σ H' s'/\Q b H'
def AP(X:Cx)(J4:Zd)(σ:St)(Q:List V->Hp->Prop)(us:Zf)(s':Shared):Prop:=∃vs H',Inv X J4 σ H' s'/\aZ vs us/\Q vs H'
def SP(X:Cx)(J4:Zd)(D:ox)(f:Flow)(s':Shared):Prop :=
 match f with
 |.next=>∃σ' H',Inv X J4 σ' H' s'/\D.nx σ' H'
 |.brk=>∃σ' H',Inv X J4 σ' H' s'/\D.bk σ' H'
 |.cont=>∃σ' H',Inv X J4 σ' H' s'/\D.ct σ' H'
 |.ret u=>∃v σ' H',Inv X J4 σ' H' s'/\RelV v u/\D.rt v H'
def PE(X:Cx)(e:Expr)(t:TE):Prop :=
 ∀(J4:Zd) (s:Shared) (σ:St) (H:Hp) (Q:VK),Inv X J4 σ H s->t σ H Q->wpAny (model X.prog X.w) X.A (eval e X.env) (EP X J4 σ Q) X.xe s
def PT(X:Cx)(e:Expr)(t:TT):Prop :=
 ∀(J4:Zd) (s:Shared) (σ:St) (H:Hp) (Q:Bool->Hp->Prop),Inv X J4 σ H s->t σ H Q->wpAny (model X.prog X.w) X.A (isTrue e X.env (eval e X.env)) (TP X J4 σ Q) X.xe s
def PW(X:Cx)(e:Expr)(t:TT):Prop :=
 ∀(whole:Sem Value) (J4:Zd) (s:Shared) (σ:St) (H:Hp) (Q:Bool->Hp->Prop),Inv X J4 σ H s->t σ H Q->wpAny (model X.prog X.w) X.A (isTrue e X.env whole) (TP X J4 σ Q) X.xe s
theorem PW.pt{X:Cx}{e:Expr}{t:TT}(h:PW X e t):PT X e t:=h _
def PA(X:Cx)(es:List Expr)(t:TA):Prop :=
 ∀(pos:Pos) (J4:Zd) (s:Shared) (σ:St) (H:Hp) (Q:List V->Hp->Prop),Inv X J4 σ H s->t σ H Q->wpAny (model X.prog X.w) X.A (spliced (backTo pos (aK es X.env))) (AP X J4 σ Q) X.xe s
def PS(X:Cx)(st:Stmt)(t:TS):Prop :=
 ∀(J4:Zd) (s:Shared) (σ:St) (H:Hp) (D:ox),Inv X J4 σ H s->t D σ H->wpAny (model X.prog X.w) X.A (exec st X.env) (SP X J4 D) X.xe s
def yN(X:Cx)(st:List Stmt)(t:TS):Prop :=
 ∀(J4:Zd) (s:Shared) (σ:St) (H:Hp) (D:ox),Inv X J4 σ H s->t D σ H->wpAny (model X.prog X.w) X.A (execs st X.env) (SP X J4 D) X.xe s
theorem cF{α:Type}{t:Sem α}{Q e:α->Shared->Prop}{M:Model}{A:Around}{E:Zc}{s:Shared}(h:wpAny M A t Q E s)(f:∀a s,Q a s->e a s):wpAny M A t e E s:=nn h f fun _ _ x=>x
end L2
namespace L2
open PySem PySem.Spec PyProof.Rows
section
variable{X:Cx}
def mz(i:Nat):TE:=fun σ H Q=>∃v,σ[i]?=some (some v)/\Q v H
abbrev V0:TE:=mz 0
abbrev V1:TE:=mz 1
abbrev V2:TE:=mz 2
abbrev V3:TE:=mz 3
abbrev V4:TE:=mz 4
abbrev V5:TE:=mz 5
abbrev V6:TE:=mz 6
abbrev V7:TE:=mz 7
abbrev V8:TE:=mz 8
abbrev V9:TE:=mz 9
abbrev FT:TE:=mz 10
abbrev V11:TE:=mz 11
abbrev V12:TE:=mz 12
def tC(v:V):TE:=fun _ H Q=>Q v H
theorem GN{i:Nat}{x:Str}{g:Pos}(o:X.N[i]?=some x)(p:Vis X.env.scope x)(j:(x==("__debug__":Str))=false:=by decide)(k:(x==("__classdict__":Str))=false:=by decide):PE X (.Name x g) (mz i):=by
 intro J4 s σ H Q I h;obtain⟨v,e,h⟩:=h;obtain⟨m,q,t⟩:=I.loc;obtain⟨u,r,l⟩:=t i x v o e p;have f:EP X J4 σ Q u s:=⟨v,H,I,r,h⟩;rcases l with⟨hk,w⟩|⟨hk,c,n,a⟩
 ·exact wpAny_Name (wpAny_loadName_local I.ok.kind hk q w f) j
 ·rcases hk with hk|hk
  ·exact wpAny_Name (wpAny_loadName_cell I.ok.kind hk n a f) j
  ·exact wpAny_Name (wpAny_loadName_free I.ok.kind hk n a f k) j
theorem ae{i j a}:PE X (.Constant (.int i) j a) (tC (.int i)):=fun _ _ _ H _ I h=>wpAny_Constant_int ⟨.int i,H,I.tok _,⟨_,rfl⟩,h⟩
theorem ji{b j a}:PE X (.Constant (.bool b) j a) (tC (.bl b)):=fun _ _ _ H _ I h=>Constant_bool ⟨.bl b,H,I,rfl,h⟩
theorem o_{j a}:PE X (.Constant .none j a) (tC .non):=fun _ _ _ H _ I h=>Constant_none ⟨.non,H,I,rfl,h⟩
theorem aT{x j a}:PE X (.Constant (.str x) j a) (tC (.str x)):=fun _ _ _ H _ I h=>Calls.Constant_str ⟨.str x,H,I.tok _,⟨_,rfl⟩,h⟩
def Gl(X:Cx)(x:Str):Prop:=X.env.kindOf x=some .globalImplicit
theorem v5{E:Zc}{e:Zd}{s:Shared}{σ:St}{H:Hp}{x:Str}{u:Value}{a:Pos}{Q:Zc}(I:Inv X e σ H s)(f:Gl X x)(g:X.mg x=some u)(h:Q u s)
  (i:(x==("__debug__":Str))=false:=by decide):wpAny (model X.prog X.w) X.A (eval (.Name x a) X.env) Q E s :=
 Calls.Name_function_global I.ok.kind f (Calls.loadGlobal_global (by rw[I.ok.glob];exact I.mod.glob.keeps I.bk) g h) i
theorem mJ{E:Zc}{e:Zd}{s:Shared}{σ:St}{H:Hp}{x:Str}{u:Value}{a:Pos}{Q:Zc}(I:Inv X e σ H s)(f:Gl X x)(g:X.mg x=none)(i:jc x=some u)(h:Q u s)
  (j:x≠"__name__":=by decide) (k:(x==("__debug__":Str))=false:=by decide):wpAny (model X.prog X.w) X.A (eval (.Name x a) X.env) Q E s:=by
 obtain⟨n,l,m⟩:=I.mod.blt;exact Calls.Name_function_global I.ok.kind f (Calls.loadGlobal_builtin (by rw[I.ok.glob];exact I.mod.glob.keeps I.bk) g (by rw[I.ok.blt];exact l.keeps I.bk) ((m x j).trans i) h) k
theorem Fv{x:Str}{v:V}{u:Value}{a:Pos}(e:Gl X x)(f:X.mg x=some u)(r:RelV v u)(g:(x==("__debug__":Str))=false:=by decide):PE X (.Name x a) (tC v) :=
 fun _ _ _ H _ I h=>v5 I e f ⟨v,H,I,r,h⟩ g
theorem A7{x:Str}{v:V}{u:Value}{a:Pos}(e:Gl X x)(f:X.mg x=none)(g:jc x=some u)(r:RelV v u)(i:x≠"__name__":=by decide)(j:(x==("__debug__":Str))=false:=by decide):PE X (.Name x a) (tC v) :=
 fun _ _ _ H _ I h=>mJ I e f g ⟨v,H,I,r,h⟩ i j
variable{a b:Expr}{ta tb:TE}{pos:Pos}
def PC(X:Cx)(op:CmpOp)(a b:Expr)(t:TE):Prop :=
 ∀(J4:Zd) (s:Shared) (σ:St) (H:Hp) (Q:VK),Inv X J4 σ H s->t σ H Q ->
  wpAny (model X.prog X.w) X.A (eval a X.env) (fun v s₁=>wpAny (model X.prog X.w) X.A (eval b X.env) (fun u s₂=>wpAny (model X.prog X.w) X.A (eh op v u) (EP X J4 σ Q) X.xe s₂) X.xe s₁) X.xe s
theorem xS(b:Expr){e:CmpOp}(h:e≠.In)(f:e≠.NotIn):j7 e b=false:=by
 have g:(e==CmpOp.In)=false:=by cases e<;>first|rfl|exact absurd rfl h
 have i:(e==CmpOp.NotIn)=false:=by cases e<;>first|rfl|exact absurd rfl f
 cases b<;>simp[j7,g,i]
def Hl(ta:TE):TE:=fun σ H Q=>ta σ H fun x H1=>Q (.bl (decide (x=.non))) H1
def xj(ta:TE):TE:=fun σ H Q=>ta σ H fun x H1=>Q (.bl (!decide (x=.non))) H1
theorem RelV.none_iff{x:V}{v:Value}(r:RelV x v):(v==Value.none)=decide (x=.non):=by
 cases x with
 |non=>cases r;rfl
 |bl _=>cases r;rfl
 |int _=>obtain⟨t,rfl⟩:=r;rfl
 |str _=>obtain⟨t,rfl⟩:=r;rfl
 |byt _=>obtain⟨t,rfl⟩:=r;rfl
 |flt _=>obtain⟨t,rfl⟩:=r;rfl
 |ref _=>cases r;rfl
 |ty _=>cases r;rfl
theorem GQ{j e}(g:PE X a ta):PC X .Is a (.Constant .none j e) (Hl ta):=by
 intro i s σ H Q I h;refine cF (g i s σ H _ I h) fun v o f=>?_;obtain⟨x,k,l,m,n⟩:=f;exact Constant_none (is_none_gen ⟨.bl _,k,l,by rw[m.none_iff];rfl,n⟩)
theorem qD{j e}(g:PE X a ta):PC X .IsNot a (.Constant .none j e) (xj ta):=by
 intro i s σ H Q I h;refine cF (g i s σ H _ I h) fun v o f=>?_;obtain⟨x,k,l,m,n⟩:=f;exact Constant_none (isnot_none_gen ⟨.bl _,k,l,by rw[m.none_iff];rfl,n⟩)
def tB(t:TE):TT:=fun σ H Q=>t σ H fun x H1=>∃c,x=.bl c/\Q c H1
theorem DG{e:CmpOp}{t:TE}(h:PC X e a b t)(f:j7 e b=false:=by first|exact xS _ (by decide) (by decide)|rfl):PE X (.Compare a [e] [b] pos) t:=fun g s σ H Q I i=>wpAny_Compare1 (h g s σ H Q I i) f
theorem h_{e:CmpOp}{t:TE}(h:PC X e a b t)(f:j7 e b=false:=by first|exact xS _ (by decide) (by decide)|rfl):PT X (.Compare a [e] [b] pos) (tB t):=by
 intro i s σ H Q I j;refine wpAny_isTrue_Compare1 (cF (h i s σ H _ I j) fun v p f=>cF f fun u r k=>cF k fun c w g=>?_) f;obtain⟨x,l,m,n,o⟩:=g;obtain⟨d,rfl,q⟩:=o;cases n;exact pN ⟨l,m,q⟩
theorem eS{e:Expr}{t:TE}(h:PE X e t)(g:∀whole,isTrue e X.env whole=(do let v <- whole;pK e.pos;kf [v] (truthy v)):=by intro _;rfl):PT X e (tB t):=by
 intro i s σ H Q I j;refine isTrue_plain (cF (h i s σ H _ I j) fun v o f=>?_) (g _);obtain⟨x,k,l,m,n⟩:=f;obtain⟨d,rfl,q⟩:=n;cases m;exact pN ⟨k,l,q⟩
variable{tA tB':TT}{rest:List Expr}
def kB(t u:TT):TT:=fun σ H Q=>t σ H fun c H1=>if c=true then u σ H1 Q else Q false H1
def AN(t u:TT):TT:=fun σ H Q=>t σ H fun c H1=>if c=true then Q true H1 else u σ H1 Q
def vx(t:TT):TT:=fun σ H Q=>t σ H fun c H1=>Q (!c) H1
theorem gA(f:PT X a tA):PW X (.BoolOp .And [a] pos) tA:=by
 intro i g s σ H Q I h;refine isTrue_and (cF (f g s σ H Q I h) fun c j e=>?_);cases c with
 |true=>exact isTrue_and_nil e
 |false=>exact e
theorem jH(f:PT X a tA):PW X (.BoolOp .Or [a] pos) tA:=by
 intro i g s σ H Q I h;refine isTrue_or (cF (f g s σ H Q I h) fun c j e=>?_);cases c with
 |false=>exact isTrue_or_nil e
 |true=>exact e
theorem gh(k:PT X a tA)(l:PW X (.BoolOp .And (b::rest) pos) tB'):PW X (.BoolOp .And (a::b::rest) pos) (kB tA tB'):=by
 intro m f s σ H Q I h;refine isTrue_and (cF (k f s σ H _ I h) fun c n e=>?_);obtain⟨g,i,j⟩:=e;cases c with
 |true=>exact l m f n σ g Q i j
 |false=>exact⟨g,i,j⟩
theorem jh(k:PT X a tA)(l:PW X (.BoolOp .Or (b::rest) pos) tB'):PW X (.BoolOp .Or (a::b::rest) pos) (AN tA tB'):=by
 intro m f s σ H Q I h;refine isTrue_or (cF (k f s σ H _ I h) fun c n e=>?_);obtain⟨g,i,j⟩:=e;cases c with
 |true=>exact⟨g,i,j⟩
 |false=>exact l m f n σ g Q i j
theorem kI(e:PT X a tA):PT X (.UnaryOp .Not a pos) (vx tA):=by
 intro f s σ H Q I h;exact isTrue_not (e f s σ H (fun c g=>Q (!c) g) I h)
def uk(ta tb:TE):TE:=fun σ H Q=>ta σ H fun x H1=>∃c,x=.bl c/\if c=true then tb σ H1 Q else Q (.bl false) H1
def Hk(ta tb:TE):TE:=fun σ H Q=>ta σ H fun x H1=>∃c,x=.bl c/\if c=true then Q (.bl true) H1 else tb σ H1 Q
theorem rZ{e}{t:TE}(h:PE X a t):PE X (.BoolOp e [a] pos) t:=fun f s σ H Q I g=>BoolOp_one (h f s σ H Q I g)
theorem r9(k:PE X a ta)(l:PE X (.BoolOp .And (b::rest) pos) tb):PE X (.BoolOp .And (a::b::rest) pos) (uk ta tb):=by
 intro g s σ H Q I h;refine BoolOp_and (cF (k g s σ H _ I h) fun v m f=>?_);obtain⟨x,i,j,n,e⟩:=f;obtain⟨c,rfl,e⟩:=e;cases n;refine pN ?_;cases c with
 |true=>exact l g m σ i Q j e
 |false=>exact⟨.bl false,i,j,rfl,e⟩
theorem Hu(k:PE X a ta)(l:PE X (.BoolOp .Or (b::rest) pos) tb):PE X (.BoolOp .Or (a::b::rest) pos) (Hk ta tb):=by
 intro g s σ H Q I h;refine BoolOp_or (cF (k g s σ H _ I h) fun v m f=>?_);obtain⟨x,i,j,n,e⟩:=f;obtain⟨c,rfl,e⟩:=e;cases n;refine pN ?_;cases c with
 |false=>exact l g m σ i Q j e
 |true=>exact⟨.bl true,i,j,rfl,e⟩
end
end L2
namespace L2
open PySem PySem.Spec PyProof.Rows
def ay(K:Za)(H:Hp)(a:Addr)(xs:List V):Prop :=
 Rd H a (.lst xs) ∨
  ∃(o:Obj) (its:Array Value) (n:Nat),K.lookup a=some o/\o.cls=.type "list"/\o.dict=none/\o.data=.seq its n/\its.size<=ah/\aZ xs its.toList
def bt(K:Za)(H:Hp)(a:Addr)(xs:List V):Prop :=
 Rd H a (.tup xs) ∨
  ∃(o:Obj) (its:Array Value) (n:Nat),K.lookup a=some o/\o.cls=.type "tuple"/\o.data=.seq its n/\its.size<=ah/\aZ xs its.toList
def absV:Value->Option V
 |.none=>some .non
 |.bool b=>some (.bl b)
 |.int i _=>some (.int i)
 |.str x _=>some (.str x)
 |.bytes b _=>some (.byt b)
 |.float b _=>some (.flt b)
 |.ref a=>some (.ref a)
 |.type n=>some (.ty n)
 |_=>none
theorem RelV.abs{x:V}{u:Value}(r:RelV x u):absV u=some x:=by
 cases x with
 |non=>cases r;rfl
 |bl _=>cases r;rfl
 |int _=>obtain⟨t,rfl⟩:=r;rfl
 |str _=>obtain⟨t,rfl⟩:=r;rfl
 |byt _=>obtain⟨t,rfl⟩:=r;rfl
 |flt _=>obtain⟨t,rfl⟩:=r;rfl
 |ref _=>cases r;rfl
 |ty _=>cases r;rfl
theorem RelV.inj{x y:V}{u:Value}(r:RelV x u)(q:RelV y u):x=y:=ei (r.abs.symm.trans q.abs)
theorem aZ.inj:∀{a e:List V}{f:Zf},aZ a f->aZ e f->a=e
 |_,_,_,.nil,.nil=>rfl
 |_,_,_,.cons r t,.cons g h=>by rw[r.inj g,aZ.inj t h]
section
variable{X:Cx}{J4:Zd}{σ:St}{H:Hp}{s:Shared}{a:Addr}{xs ys:List V}
theorem ay.of{K:Za}(h:H a=some (.lst xs)):ay K H a xs:=.inl (.inl h)
theorem bt.of{K:Za}(h:H a=some (.tup xs)):bt K H a xs:=.inl (.inl h)
theorem Inv.list(I:Inv X J4 σ H s)(h:ay X.K H a xs):∃f:List Value,aZ xs f/\PlainL s.heap a f.toArray/\xs.length<=ah:=by
 rcases h with h|⟨o,f,n,g,i,j,k,l,r⟩
 ·obtain⟨z,f,n,r,e⟩:=h.ok I.hok;exact⟨f,r,⟨_,n,e,rfl,rfl,rfl⟩,z⟩
 ·refine⟨f.toList,r,⟨o,n,I.kIn a o g,i,j,by simpa using k⟩,?_⟩;have e:=r.length;simp only[pJ]at e;omega
theorem Inv.tuple(I:Inv X J4 σ H s)(h:bt X.K H a xs):∃f:List Value,aZ xs f/\IsTup s.heap a f.toArray/\xs.length<=ah:=by
 rcases h with h|⟨o,f,n,g,i,j,k,r⟩
 ·obtain⟨z,f,r,p⟩:=h.ok I.hok;exact⟨f,r,p,z⟩
 ·refine⟨f.toList,r,⟨o,I.kIn a o g,i,n,by simpa using j⟩,?_⟩;have e:=r.length;simp only[pJ]at e;omega
theorem Inv.list_inj(I:Inv X J4 σ H s)(h:ay X.K H a xs)(k:ay X.K H a ys):xs=ys:=by
 obtain⟨g,r,⟨o,n,e,_,_,d⟩,_⟩:=I.list h;obtain⟨f,l,⟨p,q,i,_,_,j⟩,_⟩:=I.list k;rw[e]at i;cases i;rw[d]at j;injection j with m _;have:g=f:=by simpa using congrArg Array.toList m
 subst this;exact r.inj l
theorem Inv.tuple_inj(I:Inv X J4 σ H s)(h:bt X.K H a xs)(k:bt X.K H a ys):xs=ys:=by
 obtain⟨g,r,⟨o,e,_,n,d⟩,_⟩:=I.tuple h;obtain⟨f,l,⟨p,i,_,q,j⟩,_⟩:=I.tuple k;rw[e]at i;cases i;rw[d]at j;injection j with m _;have:g=f:=by simpa using congrArg Array.toList m
 subst this;exact r.inj l
end
abbrev Cx.wish(X:Cx)(E:Zc):Cx:={ X with xe:=E }
abbrev Cx.nox(X:Cx):Cx:=X.wish fun _ _=>False
theorem Cx.Ok.wish{X:Cx}(ok:X.Ok)(E:Zc):(X.wish E).Ok :=
 ⟨ok.mod,ok.kind,ok.glob,ok.blt,ok.above,ok.inj,ok.has,ok.cab,ok.hd,ok.frames,ok.stk,ok.exf,ok.bs,ok.bsz,ok.noex,ok.exfs,ok.funs,ok.frf⟩
theorem Cx.Ok.unwish{X:Cx}{E:Zc}(ok:(X.wish E).Ok):X.Ok :=
 ⟨ok.mod,ok.kind,ok.glob,ok.blt,ok.above,ok.inj,ok.has,ok.cab,ok.hd,ok.frames,ok.stk,ok.exf,ok.bs,ok.bsz,ok.noex,ok.exfs,ok.funs,ok.frf⟩
section
variable{X:Cx}{J4:Zd}{σ:St}{H:Hp}{s:Shared}{E:Zc}
theorem Inv.wish(I:Inv X J4 σ H s)(E:Zc):Inv (X.wish E) J4 σ H s:=⟨I.ok.wish E,I.os,I.bare,I.base,I.loc,I.cell,I.free,I.freeC,I.pin,I.hok,I.len⟩
theorem Inv.unwish(I:Inv (X.wish E) J4 σ H s):Inv X J4 σ H s:=⟨I.ok.unwish,I.os,I.bare,I.base,I.loc,I.cell,I.free,I.freeC,I.pin,I.hok,I.len⟩
theorem SP.unwish{D:ox}{f:Flow}{e:Shared}(h:SP (X.wish E) J4 D f e):SP X J4 D f e:=by
 cases f with
 |next=>obtain⟨σ',a,I,q⟩:=h;exact⟨σ',a,I.unwish,q⟩
 |brk=>obtain⟨σ',a,I,q⟩:=h;exact⟨σ',a,I.unwish,q⟩
 |cont=>obtain⟨σ',a,I,q⟩:=h;exact⟨σ',a,I.unwish,q⟩
 |ret u=>obtain⟨v,σ',a,I,r,q⟩:=h;exact⟨v,σ',a,I.unwish,r,q⟩
theorem yN.nox{st:List Stmt}{t:TS}(h:yN X.nox st t):yN X st t:=fun J4 s σ H D I a =>
 nn (h J4 s σ H D (I.wish _) a) (fun _ _ q=>q.unwish) fun _ _ z=>jb z
end
section
variable{X:Cx}{st:Stmt}{rest:List Stmt}{t u:TS}{e:Expr}{te:TE}{pos:Pos}
def br:TS:=fun D σ H=>D.nx σ H
def ar(t u:TS):TS:=fun D σ H=>t { D with nx:=u D } σ H
theorem aI:yN X [] br:=fun _ _ σ H _ I h=>AI ⟨σ,H,I,h⟩
theorem ac(g:PS X st t)(i:yN X rest u):yN X (st::rest) (ar t u):=by
 intro a s σ H D I h;refine wpAny_execs_cons (cF (g a s σ H { D with nx:=u D } I h) fun f j q=>?_);cases f with
 |next =>
  obtain⟨σ',k,l,q⟩:=q;exact i a j σ' k D l q
 |ret v=>exact q
 |brk=>exact q
 |cont=>exact q
theorem ag(a:PS X st t):yN X [st] t:=by
 intro g s σ H D I h;refine wpAny_execs_cons (cF (a g s σ H D I h) fun f i q=>?_);cases f with
 |next=>exact AI q
 |ret v=>exact q
 |brk=>exact q
 |cont=>exact q
theorem Inv.quiet{a:Zd}{σ:St}{H:Hp}{s:Shared}(I:Inv X a σ H s):interactive X.env=false:=by simp[interactive,I.ok.kind]
def bV(te:TE):TS:=fun D σ H=>te σ H fun _ H1=>D.nx σ H1
theorem ba(a:PE X e te)(f:qP e none pos.line X.env=pure false:=by rfl):PS X (.Expr e pos) (bV te):=by
 intro g s σ H D I h;exact wpAny_Expr_any (cF (a g s σ H _ I h) fun v l ⟨x,i,j,m,k⟩=>⟨σ,i,j,k⟩) I.quiet f
def aY(te:TE):TS:=fun D σ H=>te σ H D.rt
theorem av(a:PE X e te):PS X (.Return (some e) pos) (aY te):=by
 intro f s σ H D I h;exact wpAny_Return_some (cF (a f s σ H _ I h) fun v l ⟨x,g,i,j,k⟩=>⟨x,σ,g,i,j,k⟩)
def bU(c:TT)(t u:TS):TS:=fun D σ H=>c σ H fun b H1=>if b=true then t D σ H1 else u D σ H1
theorem bg{c:Expr}{a b:List Stmt}{i:TT}(n:PT X c i)(o:yN X a t)(p:yN X b u):PS X (.If c a b pos) (bU i t u):=by
 intro f s σ H D I h;refine wpAny_If (cF (n f s σ H _ I h) fun d j g=>?_);obtain⟨k,l,m⟩:=g;cases d with
 |true=>exact o f j σ k D l m
 |false=>exact p f j σ k D l m
def oZ:TS:=fun _ _ _=>False
theorem kK:PS X st oZ:=fun _ _ _ _ _ _ h=>h.elim
end
abbrev TG:=V->St->Hp->(St->Hp->Prop)->Prop
abbrev C3:=List V->St->Hp->(St->Hp->Prop)->Prop
def PG(X:Cx)(target:Expr)(t:TG):Prop :=
 ∀(J4:Zd) (s:Shared) (σ:St) (H:Hp) (v:V) (u:Value) (Q:St->Hp->Prop),Inv X J4 σ H s->RelV v u->t v σ H Q ->
  wpAny (model X.prog X.w) X.A (assign target X.env u) (fun _ s'=>∃σ' H',Inv X J4 σ' H' s'/\Q σ' H') X.xe s
def HU(X:Cx)(ts:List Expr)(t:C3):Prop :=
 ∀(J4:Zd) (s:Shared) (σ:St) (H:Hp) (vs:List V) (us:Zf) (Q:St->Hp->Prop),Inv X J4 σ H s->aZ vs us->t vs σ H Q ->
  wpAny (model X.prog X.w) X.A (assignInOrder ((ue ts X.env).map (·.2)) us) (fun _ s'=>∃σ' H',Inv X J4 σ' H' s'/\Q σ' H') X.xe s
abbrev G0:=V->V->V->Hp->(Hp->Prop)->Prop
def HH(X:Cx)(t:G0):Prop :=
 ∀(J4:Zd) (s:Shared) (σ:St) (H:Hp) (o i v:V) (ov iv u:Value) (Q:Hp->Prop),Inv X J4 σ H s->RelV o ov->RelV i iv->RelV v u->t o i v H Q ->
  wpAny (model X.prog X.w) X.A (setItem ov iv u) (fun _ s'=>∃H',Inv X J4 σ H' s'/\Q H') X.xe s
section
variable{X:Cx}{pos:Pos}
def dH(i:Nat):TG:=fun v σ H Q=>Q (σ.set i (some v)) H
abbrev U0:TG:=dH 0
abbrev U1:TG:=dH 1
abbrev U2:TG:=dH 2
abbrev U3:TG:=dH 3
abbrev U4:TG:=dH 4
abbrev U5:TG:=dH 5
abbrev U6:TG:=dH 6
abbrev U7:TG:=dH 7
abbrev U8:TG:=dH 8
abbrev U9:TG:=dH 9
abbrev HR:TG:=dH 10
abbrev U11:TG:=dH 11
abbrev U12:TG:=dH 12
theorem AX{i:Nat}{x:Str}(a:X.N.Nodup)(e:X.N[i]?=some x)(f:Loc X.env.scope x)(g:X.fn x=true∨X.env.scope.names.lookup x=some .local:=by first|exact .inl rfl|exact .inr rfl|assumption):PG X (.Name x pos) (dH i):=by
 intro k s σ H v u Q I r h;exact wpAny_assign_Name (xw I a e f r (fun l j=>⟨_,H,j,h⟩) g)
def fW:C3:=fun vs σ H Q=>vs=[]/\Q σ H
def aR(t:TG)(u:C3):C3:=fun vs σ H Q=>∃v r,vs=v::r/\t v σ H fun σ' H'=>u r σ' H' Q
theorem bH:HU X [] fW:=by
 intro a s σ H f g Q I r h;obtain⟨e,h⟩:=h;subst e;cases r;exact assignInOrder_nil ⟨σ,H,I,h⟩
theorem ao{e:Expr}{a:List Expr}{t:TG}{u:C3}(i:PG X e t)(j:HU X a u)
  (k:(ue (e::a) X.env).map (·.2)=assign e X.env::(ue a X.env).map (·.2):=by rfl):HU X (e::a) (aR t u):=by
 intro g s σ H w x Q I r h;obtain⟨v,y,l,h⟩:=h;subst l;cases r with
 |cons r m =>
  rw[k];refine assignInOrder_cons (cF (i g s σ H _ _ _ I r h) fun _ n f=>?_);obtain⟨σ1,o,p,q⟩:=f;exact j g n σ1 o _ _ Q p m q
def gp(K:Za)(n:Nat)(t:C3):TG:=fun v σ H Q=>∃a xs,v=.ref a/\bt K H a xs/\xs.length=n/\t xs σ H Q
theorem cu{f:List Expr}{k:Nat}{t:C3}{n:Nat}(m:X.calm=true)(h:HU X f t)
  (p:(ue f X.env).length=n:=by rfl) (g:(ue f X.env).findIdx? (·.1)=none:=by rfl):PG X (.Tuple f k pos) (gp X.K n t):=by
 intro j s σ H v u Q I r i;obtain⟨a,q,w,x,y,i⟩:=i;subst w;cases r;obtain⟨z,l,A,E⟩:=I.tuple x;refine assign_Tuple_tuple (I.ok.hd m) A (by simp[p,<-y,l.length]) g fun B C=>?_;have D:Inv X j σ H { s with heap:=B }:=I.kept (t':=s.toks) fun b o e=>C b o (cQ (bv e)) e;exact h j _ σ H q _ Q D (by simpa using l) i
def ya(to ti:TE)(t:G0):TG:=fun v σ H Q=>to σ H fun o H1=>ti σ H1 fun i H2=>t o i v H2 fun H3=>Q σ H3
theorem o9{o i:Expr}{to j:TE}{t:G0}(k:PE X o to)(l:PE X i j)(m:HH X t)
  (n:∀v,assign (.Subscript o i pos) X.env v=(do
   let e <- kf [v] (eval o X.env)
   let f <- kf [v,e] (eval i X.env)
   pK pos
   kf [v,e,f] (setItem e f v)
   release [v,e,f] []):=by intro _;rfl):PG X (.Subscript o i pos) (ya to j t):=by
 intro g s σ H v u Q I r h;rw[n];refine bp (q_ (cF (k g s σ H _ I h) fun e p a=>?_));obtain⟨x,q,w,z,A⟩:=a;refine bp (q_ (cF (l g p σ q _ w A) fun f B a=>?_));obtain⟨y,C,D,E,G⟩:=a;refine bp (wpAny_standAt (bp (q_ (cF (m g B σ C x y v e f u _ D z E r G) fun _ N a=>?_))));obtain⟨J,L,M⟩:=a;exact wpAny_release ⟨σ,J,L,M⟩
def aM(te:TE)(g:TG):TS:=fun D σ H=>te σ H fun x H1=>g x σ H1 D.nx
theorem ia{tg e:Expr}{f:TE}{g:TG}(j:PE X e f)(k:PG X tg g)(l:swapsWithSole [tg] e pos.line X.env=pure false:=by rfl)(m:swappedStores [tg] e X.env=pure none:=by rfl)
  (n:(ue [tg] X.env).map (·.2)=[assign tg X.env]:=by rfl):PS X (.Assign [tg] e pos) (aM f g):=by
 intro i s σ H D I h;refine wpAny_Assign_stores (cF (j i s σ H _ I h) fun v o a=>?_) l m;obtain⟨x,p,r,t,u⟩:=a;rw[n];exact cF (k i o σ p x v _ r t u) fun _ w q=>q
theorem GI{i:Nat}{x:Str}{e:Expr}{g:TE}{a:Pos}(j:X.N.Nodup)(k:X.N[i]?=some x)(l:Loc X.env.scope x)(m:PE X e g)(n:qP e (some (.Name x a)) pos.line X.env=pure false:=by rfl)(o:X.fn x=true∨X.env.scope.names.lookup x=some .local:=by first|exact .inl rfl|exact .inr rfl|assumption):
  PS X (.Assign [.Name x a] e pos) (aM g (dH i)):=by
 intro p s σ H D I h;refine wpAny_Assign_Name (cF (m p s σ H _ I h) fun v z f=>?_) n;obtain⟨y,q,r,t,u⟩:=f;exact xw r j k l t (fun A w=>⟨_,q,w,u⟩) o
end
section
variable{X:Cx}{pos:Pos}
def oY(c:TT)(tb:TS):TS:=fun D σ H=>∃W:Nat->St->Hp->Prop,(∃m,W m σ H)/\∀m σ H,W m σ H ->
 c σ H fun b H1=>if b=true then ∃N:St->Hp->Prop,(∀σ' H',N σ' H'->∃m',m'<m/\W m' σ' H')/\tb { D with nx:=N,ct:=N,bk:=D.nx } σ H1 else D.nx σ H1
theorem kJ{c:Expr}{a:List Stmt}{q:TT}{r:TS}(t:PassesOwn (model X.prog X.w) X.A X.env X.xe)(C:PT X c q)(E:yN X a r):PS X (.While c a [] pos) (oY q r):=by
 intro J4 s σ H D I h;obtain⟨W,⟨G,J⟩,turn⟩:=h;refine wpAny_While (codeAny_whileLoop (fun n L=>∃σ' u,Inv X J4 σ' u L/\W n σ' u) ?_ G ⟨σ,H,I,J⟩);rintro n M ⟨σ1,x,O,Q⟩;refine qO t (cF (C J4 M σ1 x _ O (turn n σ1 x Q)) fun b T j=>?_);obtain⟨y,z,g⟩:=j;cases b with
 |true =>
  obtain⟨N,B,g⟩:=g;rw[if_pos rfl];refine qO t (cF (E J4 T σ1 y _ z g) fun f U i=>?_);cases f with
  |next =>
   obtain⟨σ3,e,k,l⟩:=i;obtain⟨m,o,p⟩:=B σ3 e l;exact⟨m,o,σ3,e,k,p⟩
  |cont =>
   obtain⟨σ3,e,k,l⟩:=i;obtain⟨m,o,p⟩:=B σ3 e l;exact⟨m,o,σ3,e,k,p⟩
  |brk=>exact i
  |ret v=>exact i
 |false =>
  rw[if_neg iV];exact AI ⟨σ1,y,z,g⟩
end
structure It where
 go:Nat->Hp->Prop
 yld:Nat->Hp->V->Hp->Prop
 stop:Nat->Hp->Prop
def l6(X:Cx)(J4:Zd)(H:Hp)(b:Addr):Prop :=
 H b=none/\b≠X.env.locals/\b∉X.fs/\(b∈X.ex∨X.s₀.heap.objs.size<=b)/\(∀x c,X.env.cells.lookup x=some c->c≠b)/\∀p∈X.pn++J4,p.1≠b
theorem Inv.fpOk{X:Cx}{f:Zd}{σ:St}{H g:Hp}{s:Shared}{b:Addr}(I:Inv X f σ H s)(a:s.heap.objs.size<=b)(h:g b=none):l6 X f g b:=by
 refine⟨h,ni (g6 I.lt a),I.nofs a,.inr (bm I.sz a),fun x c e z=>?_,fun p i z=>?_⟩
 ·obtain⟨v,q⟩:=I.cell x c e;exact absurd (g6 q.lt (by rw[z];exact a)) (pL _)
 ·exact absurd (g6 (bv (I.pin p i).1) (by rw[z];exact a)) (pL _)
structure sP(P:bR)(w:World)(K:Za)(tg:Expr)(J:It)(fp:Ze)(it:Addr)(tn:Nat->Heap->Prop):Prop where
 mem:it∈fp
 obj:∀i h,tn i h->∀b∈fp,∃o,h.get? b=some o/\∀v,o.data≠.cell v
 keep:∀i h h',tn i h->(∀b∈fp,∀o,h.get? b=some o->h'.get? b=some o)->tn i h'
 item:∀(X:Cx),X.prog=P->X.w=w->X.K=K->X.calm=true->∀(i:Nat) (J4:Zd) (s:Shared) (σ:St) (H:Hp) (E:Zc),Inv X J4 σ H s->(∀b∈fp,l6 X J4 H b)->tn i s.heap->J.go i H ->
  wpAny (model P w) X.A (pyNext (.ref it)) (fun r s1=>∃u,r=some u /\
   wpAny (model P w) X.A (AH tg (.ref it) u) (fun _ s2=>∃x H',Inv X J4 σ H' s2/\RelV x u/\J.yld i H x H'/\tn (i+1) s2.heap/\∀b∈fp,H' b=none) E s1) E s
 done:∀(X:Cx),X.prog=P->X.w=w->X.K=K->X.calm=true->∀(i:Nat) (J4:Zd) (s:Shared) (σ:St) (H:Hp) (E:Zc),Inv X J4 σ H s->(∀b∈fp,l6 X J4 H b)->tn i s.heap->J.stop i H ->
  wpAny (model P w) X.A (pyNext (.ref it)) (fun r s1=>r=none/\Inv X J4 σ H s1) E s
 self:∀(A:Around) (i:Nat) (s:Shared) (Q:Zc) (E:Zc),tn i s.heap->Q (.ref it) s->wpAny (model P w) A (pyIter (.ref it)) Q E s
abbrev TI:=St->Hp->(It->Hp->Prop)->Prop
def PIE(X:Cx)(J4:Zd)(σ:St)(tg:Expr)(R:It->Hp->Prop)(itv:Value)(s2:Shared):Prop :=
 ∃(it:Addr) (fp:Ze) (tn:Nat->Heap->Prop) (J:It) (H':Hp),itv=.ref it/\Inv X J4 σ H' s2/\sP X.prog X.w X.K tg J fp it tn/\tn 0 s2.heap/\(∀b∈fp,l6 X J4 H' b)/\R J H'
def PI(X:Cx)(tg iter:Expr)(wi:TI):Prop :=
 ∀(J4:Zd) (s:Shared) (σ:St) (H:Hp) (R:It->Hp->Prop),Inv X J4 σ H s->wi σ H R ->
  wpAny (model X.prog X.w) X.A (eval iter X.env) (fun v s1=>wpAny (model X.prog X.w) X.A (pyIter v) (PIE X J4 σ tg R) X.xe s1) X.xe s
theorem so{M:Model}{A:Around}{E:Zc}{s:Shared}{e:Expr}{it:Addr}{u:Value}{o:Obj}{n:String}{f:Array Value}{Q:Unit->Shared->Prop}(g:s.heap.get? it=some o)(i:o.cls=.type n)(j:o.data=.fields f)
    (k:["enumerate","zip","dict_itemiterator","dict_reverseitemiterator","odict_iterator","itertools.zip_longest","itertools.pairwise"].contains n=false) (a:Q () s):wpAny M A (AH e (.ref it) u) Q E s:=by
  unfold AH;cases e<;>first
    |exact cI a
    | (cases u <;> first
        |exact cI a
        | (refine bp (wpAny_load g ?_)
           rw[i,j];show wpAny M A (if(["enumerate","zip","dict_itemiterator","dict_reverseitemiterator","odict_iterator","itertools.zip_longest","itertools.pairwise"].contains n && f[0]?==some (rawInt _))=true then _ else _) Q E s
           rw[if_neg (by intro h;rw[k,AG]at h;cases h)];exact cI a))
def F0(K:Za)(a:Addr):It :=
 ⟨fun i H=>∃xs x,ay K H a xs/\xs[i]?=some x,fun i H x H'=>H'=H/\∀xs,ay K H a xs->xs[i]?=some x,fun i H=>∃xs,ay K H a xs/\xs.length<=i⟩
def EH(K:Za)(a:Addr):It :=
 ⟨fun i H=>∃xs x,bt K H a xs/\xs[i]?=some x,fun i H x H'=>H'=H/\∀xs,bt K H a xs->xs[i]?=some x,fun i H=>∃xs,bt K H a xs/\xs.length<=i⟩
def G9(lo:Int)(n:Nat):It:=⟨fun i _=>i<n,fun i H x H'=>H'=H/\x=.int (lo+i),fun i _=>n<=i⟩
theorem uh{P:bR}{w:World}{K:Za}{O:Expr}(a it:Addr):sP P w K O (F0 K a) [it] it (fun i h=>h.IsListIter it a i) where
 mem:=by simp
 obj:=fun i h st b f=>by
  have e:b=it:=by simpa using f
  subst e;obtain⟨o,e,c,d⟩:=st;exact⟨o,e,fun v z=>by rw[d]at z;cases z⟩
 keep:=fun i h j st k=>st.at fun o e=>k it (by simp) o e
 item:=by
  intro X n q r M i N s σ H E I l st t;subst n q r;obtain⟨Q,x,m,y⟩:=t;obtain⟨A,B,p,T⟩:=I.list m;obtain⟨u,U,Y⟩:=B.get y;obtain⟨C,D,f2,G,J,L⟩:=l it (by simp);refine wpAny_pyNext_list_item st p.isList (x:=u) (by simpa using U) fun j g sb=>?_;have I1:Inv X N σ H { s with heap:=j }:=I.turned (t':=s.toks) (fun b o f e=>(sb.2 b f).trans e) C D G J L;obtain⟨o,e,c,d⟩:=id g;exact⟨u,rfl,so (s:={ s with heap:=j }) e c d (by decide) ⟨x,H,I1,Y,⟨rfl,fun ys hy=>by rw[I.list_inj hy m];exact y⟩,g,fun b f=>(l b f).1⟩⟩
 done:=by
  intro X n q r M i N s σ H E I l st t;subst n q r;obtain⟨Q,m,y⟩:=t;obtain⟨A,B,p,T⟩:=I.list m;obtain⟨C,D,f2,G,J,L⟩:=l it (by simp);have hl:=B.length;exact wpAny_pyNext_list_end (I.ok.hd M) st p.isList (by simp;omega) fun j eb=>⟨rfl,I.turned (t':=s.toks) (fun b o f e=>eb b o f e) C D G J L⟩
 self:=fun _ _ _ _ _ st h=>wpAny_pyIter_listiter st h
theorem rB{P:bR}{w:World}{K:Za}{O:Expr}(a it:Addr):sP P w K O (EH K a) [it] it (fun i h=>h.IsTupleIter it a i) where
 mem:=by simp
 obj:=fun i h st b f=>by
  have e:b=it:=by simpa using f
  subst e;obtain⟨o,e,c,d⟩:=st;exact⟨o,e,fun v z=>by rw[d]at z;cases z⟩
 keep:=fun i h l st k=>st.at fun o e=>k it (by simp) o e
 item:=by
  intro X q r t M i N s σ H E I m st y;subst q r t;obtain⟨Q,x,n,A⟩:=y;obtain⟨g,B,p,T⟩:=I.tuple n;obtain⟨u,U,Y⟩:=B.get A;obtain⟨C,D,f2,G,J,L⟩:=m it (by simp);refine wpAny_pyNext_tuple_item st (show s.heap.IsTuple a g.toArray from p) (x:=u) (by simpa using U) fun l j sb=>?_;have I1:Inv X N σ H { s with heap:=l }:=I.turned (t':=s.toks) (fun b o f e=>(sb.2 b f).trans e) C D G J L;obtain⟨o,e,c,d⟩:=id j;exact⟨u,rfl,so (s:={ s with heap:=l }) e c d (by decide) ⟨x,H,I1,Y,⟨rfl,fun ys hy=>by rw[I.tuple_inj hy n];exact A⟩,j,fun b f=>(m b f).1⟩⟩
 done:=by
  intro X q r t M i N s σ H E I m st y;subst q r t;obtain⟨Q,n,A⟩:=y;obtain⟨g,B,p,T⟩:=I.tuple n;obtain⟨C,D,f2,G,J,L⟩:=m it (by simp);have hl:=B.length;exact wpAny_pyNext_tuple_end (I.ok.hd M) st (show s.heap.IsTuple a g.toArray from p) (by simp;omega) fun l eb=>⟨rfl,I.turned (t':=s.toks) (fun b o f e=>eb b o f e) C D G J L⟩
 self:=fun _ _ _ _ _ st h=>wpAny_pyIter_tupleiter st h
theorem yR{P:bR}{w:World}{K:Za}{D:Expr}(it:Addr)(lo:Int)(n:Nat):sP P w K D (G9 lo n) [it] it (fun i h=>IsRangeIter h it (lo+(i:Nat) * 1) ((n:Int)-(i:Nat)) 1) where
 mem:=by simp
 obj:=fun i h st b a=>by
  have e:b=it:=by simpa using a
  subst e;exact⟨_,st,fun v z=>by
   have G:Data.fields _=Data.cell v:=z;cases G⟩
 keep:=fun i h g st k=>k it (by simp) _ st
 item:=by
  intro X l m p q i C s σ H E I j st r;subst l m p;obtain⟨u,x,J,y,A,B⟩:=j it (by simp);have W:=Walks.range (prog:=X.prog) (w:=X.w) (I.ok.hd q) it lo 1 n;refine W.item i s _ _ r st fun v g tk L f M=>?_;obtain⟨t,rfl⟩:=L;have N:Inv X C σ H { s with heap:=g,toks:=tk }:=I.turned (fun b o a e=>M b o (by simpa using a) e) u x y A B;refine⟨_,rfl,so (s:={ s with heap:=g,toks:=tk }) (n:="range_iterator") f rfl rfl (by decide) ⟨.int (lo+i),H,N,⟨t,?_⟩,⟨rfl,rfl⟩,f,fun b a=>(j b a).1⟩⟩;rw[Int.mul_one]
 done:=by
  intro X l m p q i C s σ H E I j st r;subst l m p;obtain⟨u,x,J,y,A,B⟩:=j it (by simp);exact wpAny_pyNext_range_end (I.ok.hd q) st (by have:n<=i:=r;omega) fun g O=>⟨rfl,I.turned (t':=s.toks) (fun b o a e=>O b o a e) u x y A B⟩
 self:=fun _ _ _ _ _ st h=>wpAny_pyIter_rangeiter st h
end L2
namespace L2
open PySem PySem.Spec PyProof.Rows
section
variable{X:Cx}{tg:Expr}
def cp(K:Za)(tl:TE):TI:=fun σ H R=>tl σ H fun x H1=>∃a,x=.ref a/\(∃xs,ay K H1 a xs)/\R (F0 K a) H1
def tV(K:Za)(tl:TE):TI:=fun σ H R=>tl σ H fun x H1=>∃a,x=.ref a/\(∃xs,bt K H1 a xs)/\R (EH K a) H1
theorem bf{l:Expr}{j:TE}(k:PE X l j):PI X tg l (cp X.K j):=by
 intro m s σ H R I h;refine cF (k m s σ H _ I h) fun v f i=>?_;obtain⟨x,n,g,r,t⟩:=i;obtain⟨a,e,⟨z,u⟩,q⟩:=t;subst e;cases r;obtain⟨w,A,p,B⟩:=g.list u;refine wU p.isList ?_;refine⟨f.heap.objs.size,[f.heap.objs.size],_,_,n,rfl,g.kept (t':=f.toks) fun b o e=>cC _ e,uh a _,⟨_,fy _ rfl,rfl,rfl⟩,fun b y=>?_,q⟩;have e:b=f.heap.objs.size:=by simpa using y
 subst e;exact g.fpOk (aB _) (g.hok.fresh (aB _))
theorem jJ{l:Expr}{k:TE}(m:PE X l k):PI X tg l (tV X.K k):=by
 intro n s σ H R I h;refine cF (m n s σ H _ I h) fun v f i=>?_;obtain⟨x,r,g,t,u⟩:=i;obtain⟨a,e,⟨z,w⟩,q⟩:=u;subst e;cases t;obtain⟨j,A,p,B⟩:=g.tuple w;refine wpAny_pyIter_tuple (show f.heap.IsTuple a j.toArray from p) ?_;refine⟨f.heap.objs.size,[f.heap.objs.size],_,_,r,rfl,g.kept (t':=f.toks) fun b o e=>cC _ e,rB a _,⟨_,fy _ rfl,rfl,rfl⟩,fun b y=>?_,q⟩;have e:b=f.heap.objs.size:=by simpa using y
 subst e;exact g.fpOk (aB _) (g.hok.fresh (aB _))
theorem Dw{f:Zd}{σ:St}{H:Hp}{s:Shared}{R:It->Hp->Prop}{E:Zc}{lo a:Int}{t u v:Tok}{tk:Nat}(I:Inv X f σ H s)(h:-(2 ^ 62)<=lo)(i:lo<2 ^ 62)(j:-(2 ^ 62)<=a)(k:a<2 ^ 62)
  (q:R (G9 lo (a-lo).toNat) H):wpAny (model X.prog X.w) X.A (pyIter (.ref s.heap.objs.size)) (PIE X f σ tg R) E { s with heap:=s.heap.push { cls:=.type "range",data:=.fields #[.int lo t,.int a u,.int 1 v] },toks:=tk }:=by
 refine wpAny_pyIter_range (IsRange.new ..) (small_one h i j k) ?_;have g:Inv X f σ H { s with heap:=s.heap.push { cls:=.type "range",data:=.fields #[.int lo t,.int a u,.int 1 v] },toks:=tk }:=I.kept fun b o e=>cC _ e;refine⟨(s.heap.push { cls:=.type "range",data:=.fields #[.int lo t,.int a u,.int 1 v] }).objs.size,[(s.heap.push { cls:=.type "range",data:=.fields #[.int lo t,.int a u,.int 1 v] }).objs.size],_,_,H,rfl,
  g.kept (t':=tk) fun b o e=>cC _ e,yR _ lo (a-lo).toNat,?_,fun b l=>?_,q⟩
 ·have m:lo+((0:Nat):Int) * 1=lo:=by simp
  have n:(((a-lo).toNat:Nat):Int)-((0:Nat):Int)=g_.Range.rangeSize lo a 1:=by rw[rangeSize_one];split<;>omega
  show IsRangeIter _ _ (lo+((0:Nat):Int) * 1) ((((a-lo).toNat:Nat):Int)-((0:Nat):Int)) 1;rw[m,n];exact fy _ rfl
 ·have e:b=(s.heap.push { cls:=.type "range",data:=.fields #[.int lo t,.int a u,.int 1 v] }).objs.size:=by simpa using l
  subst e;exact g.fpOk (aB _) (g.hok.fresh (aB _))
def pT(ta:TA):TI:=fun σ H R=>ta σ H fun vs H1=>∃j:Int,vs=[.int j]/\-(2 ^ 62)<=j/\j<2 ^ 62/\R (G9 0 j.toNat) H1
theorem gj{a:Expr}{k:TA}{p f:Pos}(l:Gl X "range")(m:X.mg "range"=none)(n:PA X [a] k)(o:aK [a] X.env=[(false,eval a X.env)]:=by rfl):PI X tg (.Call (.Name "range" p) [a] [] f) (pT k):=by
 intro u s σ H R I h;refine Call_ (mJ I l m boot_range (wS (cF (n f u s σ H _ I h) fun z A g=>?_) o rfl));obtain⟨B,C,v,w,i⟩:=g;obtain⟨j,e,i,x,q⟩:=i;subst e;cases w with
 |cons r y =>
  cases y;obtain⟨t,rfl⟩:=r;exact call_range_1 (Dw v (by omega) (by omega) i x (by simpa using q))
def dI(wi:TI)(g:TG)(tb:TS):TS:=fun D σ H=>wi σ H fun J H1=>∃W:Nat->Nat->St->Hp->Prop,(∃m,W 0 m σ H1)/\∀i m σ H,W i m σ H ->
 (J.stop i H/\D.nx σ H)∨(J.go i H/\∃N:St->Hp->Prop,(∀σ' H',N σ' H'->∃m',m'<m/\W (i+1) m' σ' H')/\∀x H',J.yld i H x H'->g x σ H' fun σ2 H2=>tb { D with nx:=N,ct:=N,bk:=D.nx } σ2 H2)
def rY(fp:Ze)(h:Heap):List (Addr×Obj):=fp.filterMap fun b=>(h.get? b).map fun o=>(b,o)
theorem jM{fp:Ze}{h:Heap}{b:Addr}{o:Obj}(a:b∈fp)(e:h.get? b=some o):(b,o)∈rY fp h:=List.mem_filterMap.mpr ⟨b,a,by rw[e];rfl⟩
theorem Cm{a:Ze}{h:Heap}{p:Addr×Obj}(f:p∈rY a h):p.1∈a/\h.get? p.1=some p.2:=by
 obtain⟨b,g,e⟩:=List.mem_filterMap.mp f;cases q:h.get? b with
 |none=>rw[q]at e;cases e
 |some o =>
  rw[q]at e;have i:(b,o)=p:=ei e;subst i;exact⟨g,q⟩
theorem Inv.pinned{a:Zd}{σ:St}{H:Hp}{s:Shared}{f:Ze}(I:Inv X a σ H s)(i:∀b∈f,l6 X a H b)(j:∀b∈f,∃o,s.heap.get? b=some o/\∀v,o.data≠.cell v):Inv X (a++rY f s.heap) σ H s :=
 I.pins_of fun p k=>(be.mp k).elim (fun z=>I.pin p (c_ _ z)) fun z=>by
  obtain⟨g,e⟩:=Cm z;obtain⟨l,m,n,_⟩:=i p.1 g;obtain⟨o,h,d⟩:=j p.1 g;rw[e]at h;cases h;exact⟨e,l,m,n,d⟩
theorem Inv.unpinned{a e:Zd}{σ:St}{H:Hp}{s:Shared}(I:Inv X (a++e) σ H s):Inv X a σ H s:=I.pins_of fun p f=>I.pin p (c_ _ (da _ f))
theorem bw{j:Expr}{y:List Stmt}{wi:TI}{g:TG}{tb:TS}{U:Pos}(E:PassesOwn (model X.prog X.w) X.A X.env X.xe)(hc:X.calm=true)(hi:PI X tg j wi)(hg:PG X tg g)(k:yN X y tb)
  (hs:∀x,wR j X.env x=pure x:=by intro _;rfl):PS X (.For tg j y [] U) (dI wi g tb):=by
 intro B s σ H D I h;refine wpAny_For (cF (hi B s σ H _ I h) fun v s1 h1=>cF h1 fun as s2 h2=>?_) hs;obtain⟨it,G,tn,J,H2,e,I2,T,Y,f2,W,⟨m0,w0⟩,turn⟩:=h2;subst e;have l:∀{t:Hp},(∀b∈G,t b=none)->∀b∈G,l6 X B t b:=fun hn b k=>⟨hn b k,(f2 b k).2⟩;refine codeAny_forLoop_any (fun n s'=>∃i σ' t,Inv X B σ' t s'/\tn i s'.heap/\(∀b∈G,t b=none)/\W i n σ' t) ?_ m0 ⟨0,σ,H2,I2,Y,fun b k=>(f2 b k).1,w0⟩;rintro n s3 ⟨i,σ3,Q,I3,L,M,w3⟩;rcases turn i n σ3 Q w3 with⟨stop,qn⟩|⟨go,N,hN,step⟩
 ·refine qO E (cF (T.done X rfl rfl rfl hc i B s3 σ3 Q X.xe I3 (l M) L stop) fun r s4 a=>?_);obtain⟨hr,I4⟩:=a;subst hr;exact AI ⟨σ3,Q,I4,qn⟩
 ·refine qO E (cF (T.item X rfl rfl rfl hc i B s3 σ3 Q X.xe I3 (l M) L go) fun r s4 a=>?_);obtain⟨u,hr,h4⟩:=a;subst hr;refine qO E (cF h4 fun _ s5 a=>?_);obtain⟨x,H5,I5,r5,y5,C,al⟩:=a;have an:=I5.pinned (l al) (T.obj _ _ C);refine qO E (cF (hg _ s5 σ3 H5 x u _ an r5 (step x H5 y5)) fun _ s6 a=>?_);obtain⟨σ6,H6,I6,q6⟩:=a;refine qO E (cF (k _ s6 σ6 H6 _ I6 q6) fun f s7 z=>?_);have again:∀{σ7:St}{p:Hp},Inv X (B++rY G s5.heap) σ7 p s7->N σ7 p->∃m,m<n/\∃i σ' t,Inv X B σ' t s7/\tn i s7.heap/\(∀b∈G,t b=none)/\W i m σ' t:=fun{σ7 p} q O=>by
   obtain⟨m',hm,w7⟩:=hN σ7 p O;refine⟨m',hm,i+1,σ7,p,q.unpinned,T.keep _ _ _ C fun b k o e=>(q.pin (b,o) (c_ _ (c_ _ (jM k e)))).1,fun b k=>?_,w7⟩;obtain⟨o,e,d⟩:=T.obj _ _ C b k;exact(q.pin (b,o) (c_ _ (c_ _ (jM k e)))).2.1
  cases f with
  |next=>obtain⟨σ7,p,q,O⟩:=z;exact again q O
  |cont=>obtain⟨σ7,p,q,O⟩:=z;exact again q O
  |brk=>obtain⟨σ7,p,q,z⟩:=z;exact⟨σ7,p,q.unpinned,z⟩
  |ret v=>obtain⟨x7,σ7,p,q,r7,z⟩:=z;exact⟨x7,σ7,p,q.unpinned,r7,z⟩
end
theorem bP{K:Za}{a:Addr}{xs:List V}{g:TG}{k:TS}{D:ox}{σ:St}{H:Hp}(Pv:Nat->St->Hp->Prop)(n:Pv 0 σ H)(o:∀i σ H,i<=xs.length->Pv i σ H->ay K H a xs)
  (r:∀i x σ H,xs[i]?=some x->Pv i σ H->g x σ H fun σ2 j=>k { D with nx:=Pv (i+1),ct:=Pv (i+1),bk:=D.nx } σ2 j) (s:∀σ H,Pv xs.length σ H->D.nx σ H) :
  ∃W:Nat->Nat->St->Hp->Prop,(∃m,W 0 m σ H)/\∀i m σ H,W i m σ H ->
   ((F0 K a).stop i H/\D.nx σ H)∨((F0 K a).go i H/\∃N:St->Hp->Prop,(∀σ' f,N σ' f->∃l,l<m/\W (i+1) l σ' f)/\∀x f,(F0 K a).yld i H x f->g x σ f fun σ2 j=>k { D with nx:=N,ct:=N,bk:=D.nx } σ2 j):=by
 refine⟨fun i m σ H=>m=xs.length-i/\i<=xs.length/\Pv i σ H,⟨xs.length,by simp,b_ _,n⟩,?_⟩;rintro i m σ H ⟨rfl,t,p⟩;have q:=o i σ H t p;by_cases h:i<xs.length
 ·refine .inr ⟨⟨xs,xs[i],q,by simp[h]⟩,Pv (i+1),fun σ' f u=>⟨xs.length-(i+1),by omega,rfl,h,u⟩,fun x f y=>?_⟩;obtain⟨e,y⟩:=y;subst e;exact r i x σ _ (y xs q) p
 ·have e:i=xs.length:=by omega
  subst e;exact .inl ⟨⟨xs,q,aB _⟩,s σ H p⟩
theorem FK{K:Za}{a:Addr}{xs:List V}{g:TG}{k:TS}{D:ox}{σ:St}{H:Hp}(Pv:Nat->St->Hp->Prop)(n:Pv 0 σ H)(o:∀i σ H,i<=xs.length->Pv i σ H->bt K H a xs)
  (r:∀i x σ H,xs[i]?=some x->Pv i σ H->g x σ H fun σ2 j=>k { D with nx:=Pv (i+1),ct:=Pv (i+1),bk:=D.nx } σ2 j) (s:∀σ H,Pv xs.length σ H->D.nx σ H) :
  ∃W:Nat->Nat->St->Hp->Prop,(∃m,W 0 m σ H)/\∀i m σ H,W i m σ H ->
   ((EH K a).stop i H/\D.nx σ H)∨((EH K a).go i H/\∃N:St->Hp->Prop,(∀σ' f,N σ' f->∃l,l<m/\W (i+1) l σ' f)/\∀x f,(EH K a).yld i H x f->g x σ f fun σ2 j=>k { D with nx:=N,ct:=N,bk:=D.nx } σ2 j):=by
 refine⟨fun i m σ H=>m=xs.length-i/\i<=xs.length/\Pv i σ H,⟨xs.length,by simp,b_ _,n⟩,?_⟩;rintro i m σ H ⟨rfl,t,p⟩;have q:=o i σ H t p;by_cases h:i<xs.length
 ·refine .inr ⟨⟨xs,xs[i],q,by simp[h]⟩,Pv (i+1),fun σ' f u=>⟨xs.length-(i+1),by omega,rfl,h,u⟩,fun x f y=>?_⟩;obtain⟨e,y⟩:=y;subst e;exact r i x σ _ (y xs q) p
 ·have e:i=xs.length:=by omega
  subst e;exact .inl ⟨⟨xs,q,aB _⟩,s σ H p⟩
theorem jo{lo:Int}{n:Nat}{g:TG}{j:TS}{D:ox}{σ:St}{H:Hp}(Pv:Nat->St->Hp->Prop)(l:Pv 0 σ H)
  (o:∀i σ H,i<n->Pv i σ H->g (.int (lo+i)) σ H fun σ2 h=>j { D with nx:=Pv (i+1),ct:=Pv (i+1),bk:=D.nx } σ2 h) (q:∀σ H,Pv n σ H->D.nx σ H) :
  ∃W:Nat->Nat->St->Hp->Prop,(∃m,W 0 m σ H)/\∀i m σ H,W i m σ H ->
   ((G9 lo n).stop i H/\D.nx σ H)∨((G9 lo n).go i H/\∃N:St->Hp->Prop,(∀σ' a,N σ' a->∃k,k<m/\W (i+1) k σ' a)/\∀x a,(G9 lo n).yld i H x a->g x σ a fun σ2 h=>j { D with nx:=N,ct:=N,bk:=D.nx } σ2 h):=by
 refine⟨fun i m σ H=>m=n-i/\i<=n/\Pv i σ H,⟨n,by simp,b_ _,l⟩,?_⟩;rintro i m σ H ⟨rfl,s,p⟩;by_cases f:i<n
 ·refine .inr ⟨f,Pv (i+1),fun σ' a r=>⟨n-(i+1),by omega,rfl,f,r⟩,fun x a y=>?_⟩;obtain⟨e,y⟩:=y;subst e y;exact o i σ _ f p
 ·have e:i=n:=by omega
  subst e;exact .inl ⟨aB _,q σ H p⟩
end L2
namespace L2
open PySem PySem.Spec PyProof.Rows
abbrev R2:=V->V->Hp->VK->Prop
def lV(X:Cx)(f:Value->Value->Sem Value)(r:R2):Prop :=
 ∀(J4:Zd) (s:Shared) (σ:St) (H:Hp) (x y:V) (v u:Value) (Q:VK),Inv X J4 σ H s->RelV x v->RelV y u->r x y H Q ->
  wpAny (model X.prog X.w) X.A (f v u) (EP X J4 σ Q) X.xe s
def UnR(X:Cx)(f:Value->Sem Value)(r:V->Hp->VK->Prop):Prop :=
 ∀(J4:Zd) (s:Shared) (σ:St) (H:Hp) (x:V) (v:Value) (Q:VK),Inv X J4 σ H s->RelV x v->r x H Q ->
  wpAny (model X.prog X.w) X.A (f v) (EP X J4 σ Q) X.xe s
def eM(X:Cx)(f:Value)(r:List V->Hp->VK->Prop):Prop :=
 ∀(J4:Zd) (s:Shared) (σ:St) (H:Hp) (xs:List V) (us:Zf) (Q:VK),Inv X J4 σ H s->aZ xs us->r xs H Q ->
  wpAny (model X.prog X.w) X.A (call f us) (EP X J4 σ Q) X.xe s
def ax(r:R2)(ta tb:TE):TE:=fun σ H Q=>ta σ H fun x H1=>tb σ H1 fun y H2=>r x y H2 Q
def Hj(r:V->Hp->VK->Prop)(ta:TE):TE:=fun σ H Q=>ta σ H fun x H1=>r x H1 Q
def rI(C:Int->Int->Prop)(g:Int->Int->V):R2:=fun x y H Q=>∃i j,x=.int i/\y=.int j/\C i j/\Q (g i j) H
def AT(g:Int->Int->V):R2:=fun x y H Q=>∃i j,x=.int i/\y=.int j/\Q (g i j) H
def rU(g:Int->V):V->Hp->VK->Prop:=fun x H Q=>∃i,x=.int i/\Q (g i) H
section
variable{X:Cx}{a b c:Expr}{ta tb tc:TE}{pos:Pos}
theorem GZ(n:PE X a ta)(o:PE X b tb){k:Zd}{s:Shared}{σ:St}{H:Hp}{R:V->V->Hp->Prop}(I:Inv X k σ H s)
  (h:ta σ H fun x m=>tb σ m fun y g=>R x y g) {Q:Zc}{f:Value->Value->Sem Value}
  (p:∀v u l x y g,Inv X k σ g l->RelV x v->RelV y u->R x y g->wpAny (model X.prog X.w) X.A (f v u) Q X.xe l) :
  wpAny (model X.prog X.w) X.A (eval a X.env) (fun v i=>wpAny (model X.prog X.w) X.A (eval b X.env) (fun u j=>wpAny (model X.prog X.w) X.A (f v u) Q X.xe j) X.xe i) X.xe s:=by
 refine cF (n k s σ H _ I h) fun v q e=>?_;obtain⟨x,m,r,t,z⟩:=e;refine cF (o k q σ m _ r z) fun u l e=>?_;obtain⟨y,g,B,C,D⟩:=e;exact p v u l x y g B t C D
theorem aO{e:Operator}{r:R2}(f:lV X (j6 e) r)(g:PE X a ta)(i:PE X b tb):PE X (.BinOp a e b pos) (ax r ta tb):=by
 intro j s σ H Q I h;exact wpAny_BinOp (GZ g i I h fun v u k x y l m n o q=>f j k σ l x y v u Q m n o q)
theorem AY{e:UnaryOp}{r:V->Hp->VK->Prop}(g:UnR X (unaryOp e) r)(i:PE X a ta):PE X (.UnaryOp e a pos) (Hj r ta):=by
 intro f s σ H Q I h;exact UnaryOp_ (cF (i f s σ H _ I h) fun v j ⟨x,k,l,m,n⟩=>g f j σ k x v Q l m n)
theorem HQ{f:Value->Value->Sem Value}{C:Int->Int->Prop}{g:Int->Int->Int}
  (rule:∀(i j:Int) (t u:Tok) (s:Shared) (Q:Zc) (E:Zc),C i j->Q (.int (g i j) s.toks) { s with toks:=s.toks+1 }->wpAny (model X.prog X.w) X.A (f (.int i t) (.int j u)) Q E s) :
  lV X f (rI C fun i j=>.int (g i j)):=by
 intro n s σ H x y v u Q I e k h;obtain⟨i,j,rfl,rfl,l,q⟩:=h;obtain⟨t,rfl⟩:=e;obtain⟨m,rfl⟩:=k;exact rule i j t m s _ _ l ⟨.int (g i j),H,I.tok _,⟨_,rfl⟩,q⟩
theorem Hy{f:Value->Value->Sem Value}{g:Int->Int->Int}
  (rule:∀(i j:Int) (t u:Tok) (s:Shared) (Q:Zc) (E:Zc),Q (.int (g i j) s.toks) { s with toks:=s.toks+1 }->wpAny (model X.prog X.w) X.A (f (.int i t) (.int j u)) Q E s) :
  lV X f (AT fun i j=>.int (g i j)):=by
 intro m s σ H x y v u Q I e k h;obtain⟨i,j,rfl,rfl,q⟩:=h;obtain⟨t,rfl⟩:=e;obtain⟨l,rfl⟩:=k;exact rule i j t l s _ _ ⟨.int (g i j),H,I.tok _,⟨_,rfl⟩,q⟩
theorem FA{f:Value->Value->Sem Value}{g:Int->Int->Bool}
  (rule:∀(i j:Int) (t u:Tok) (s:Shared) (Q:Zc) (E:Zc),Q (.bool (g i j)) s->wpAny (model X.prog X.w) X.A (f (.int i t) (.int j u)) Q E s) :
  lV X f (AT fun i j=>.bl (g i j)):=by
 intro m s σ H x y v u Q I e k h;obtain⟨i,j,rfl,rfl,q⟩:=h;obtain⟨t,rfl⟩:=e;obtain⟨l,rfl⟩:=k;exact rule i j t l s _ _ ⟨.bl (g i j),H,I,rfl,q⟩
def HN(i j:Int):Prop:=0<j/\j<1073741824
def HM(i j:Int):Prop:=0<=j/\j<=1000000/\i.natAbs<2 ^ 64
def EJ(i j:Int):Prop:=(-(2 ^ 64)<i/\i<2 ^ 64)∨(-(2 ^ 64)<j/\j<2 ^ 64)
theorem EJ.ok{i j:Int}(h:EJ i j):IntMulOk i j:=by
 rcases h with⟨e,f⟩|⟨e,f⟩
 ·exact .of_left (intBits_le_64 e f)
 ·exact .of_right (intBits_le_64 e f)
theorem cK:lV X (j6 .Add) (AT fun i j=>.int (i+j)):=Hy fun _ _ _ _ _ _ _ q=>add_int q
theorem DH:lV X (j6 .Sub) (AT fun i j=>.int (i-j)):=Hy fun _ _ _ _ _ _ _ q=>sub_int q
theorem ib:lV X (j6 .Mult) (rI EJ fun i j=>.int (i * j)):=HQ fun _ _ _ _ _ _ _ e q=>mul_int q e.ok
theorem A9:lV X (j6 .FloorDiv) (rI HN fun i j=>.int (i / j)):=HQ fun i j _ _ _ _ _ e q=>by
 have f:(0:Int)<j:=e.1;have g:j<1073741824:=e.2;exact floordiv_int (by omega) (by rw[Int.fdiv_eq_ediv_of_nonneg i (by omega)];exact q) (.inl (PyProof.noPylong_small (by omega)))
theorem gk:lV X (j6 .Mod) (rI (fun _ j=>0<j) fun i j=>.int (i % j)):=HQ fun i j _ _ _ _ _ e q=>by
 have f:(0:Int)<j:=e;exact mod_int' (by omega) (by rw[Int.fmod_eq_emod_of_nonneg i (by omega)];exact q)
theorem DJ:lV X (j6 .Pow) (rI HM fun i j=>.int (i ^ j.toNat)):=HQ fun _ _ _ _ _ _ _ e q=>pow_int_small e.1 e.2.1 e.2.2 q
theorem unI{f:Value->Sem Value}{g:Int->Int}
  (rule:∀(i:Int) (t:Tok) (s:Shared) (Q:Zc) (E:Zc),Q (.int (g i) s.toks) { s with toks:=s.toks+1 }->wpAny (model X.prog X.w) X.A (f (.int i t)) Q E s) :
  UnR X f (rU fun i=>.int (g i)):=by
 intro j s σ H x v Q I e h;obtain⟨i,rfl,q⟩:=h;obtain⟨t,rfl⟩:=e;exact rule i t s _ _ ⟨.int (g i),H,I.tok _,⟨_,rfl⟩,q⟩
theorem vj:UnR X (unaryOp .USub) (rU fun i=>.int (-i)):=unI fun _ _ _ _ _ q=>neg_int q
end
def Hn:V->V->Bool
 |.non,.non=>true | .non,.int _=>true | .int _,.non=>true | .non,.bl _=>true | .bl _,.non=>true | .non,.str _=>true | .str _,.non=>true
 |.int _,.int _=>true | .bl _,.bl _=>true | .str _,.str _=>true | .byt _,.byt _=>true
 |.int _,.str _=>true | .str _,.int _=>true | .bl _,.str _=>true | .str _,.bl _=>true
 |_,_=>false
def m5:R2:=fun x y H Q=>Hn x y=true/\Q (.bl (decide (x=y))) H
def Ha:R2:=fun x y H Q=>Hn x y=true/\Q (.bl (!decide (x=y))) H
theorem Bp{i j:Int}:decide (V.int i=V.int j)=(i==j):=by
 rw[qN];simp
theorem El{i j:Bool}:decide (V.bl i=V.bl j)=(i==j):=by
 rw[qN];simp
theorem dec_str{i j:Str}:decide (V.str i=V.str j)=(i==j):=by
 rw[qN];simp
theorem Bq{i j:Array UInt8}:decide (V.byt i=V.byt j)=(i.toList==j.toList):=by
 rw[qN];cases i;cases j;simp
section
variable{X:Cx}{a b c:Expr}{ta tb tc:TE}{pos:Pos}
theorem bN{f:Zd}{σ:St}{H:Hp}{s:Shared}{Q:VK}{k g:Bool}(I:Inv X f σ H s)(q:Q (.bl k) H)(e:k=g):EP X f σ Q (.bool g) s:=by
 subst e;exact⟨.bl k,H,I,rfl,q⟩
theorem cZ:lV X (eh .Eq) m5:=by
 intro l s σ H x y v u Q I k e h;obtain⟨g,q⟩:=h;cases x with
 |non =>
  cases k;cases y with
  |non=>cases e;exact PySem.EqNone.eq_none_none (bN I q (by simp))
  |bl j=>cases e;exact PySem.EqNone.eq_none_bool (bN I q (by simp))
  |int j=>obtain⟨f,rfl⟩:=e;exact PySem.EqNone.eq_none_int (bN I q (by simp))
  |str j=>obtain⟨f,rfl⟩:=e;exact PySem.EqNone.eq_none_str (bN I q (by simp))
  |_=>exact absurd (show false=true from g) iV
 |bl i =>
  cases k;cases y with
  |non=>cases e;exact PySem.EqNone.eq_bool_none (bN I q (by simp))
  |bl j=>cases e;exact eq_bool (bN I q El)
  |str j=>obtain⟨f,rfl⟩:=e;exact PySem.EqMixed.eq_bool_str (bN I q (by simp))
  |_=>exact absurd (show false=true from g) iV
 |int i =>
  obtain⟨t,rfl⟩:=k;cases y with
  |non=>cases e;exact PySem.EqNone.eq_int_none (bN I q (by simp))
  |int j=>obtain⟨f,rfl⟩:=e;exact eq_int (bN I q Bp)
  |str j=>obtain⟨f,rfl⟩:=e;exact PySem.EqMixed.eq_int_str (bN I q (by simp))
  |_=>exact absurd (show false=true from g) iV
 |str i =>
  obtain⟨t,rfl⟩:=k;cases y with
  |non=>cases e;exact PySem.EqNone.eq_str_none (bN I q (by simp))
  |bl j=>cases e;exact PySem.EqMixed.eq_str_bool (bN I q (by simp))
  |int j=>obtain⟨f,rfl⟩:=e;exact PySem.EqMixed.eq_str_int (bN I q (by simp))
  |str j=>obtain⟨f,rfl⟩:=e;exact eq_str (bN I q dec_str)
  |_=>exact absurd (show false=true from g) iV
 |byt i =>
  obtain⟨t,rfl⟩:=k;cases y with
  |byt j=>obtain⟨f,rfl⟩:=e;exact PySem.W.eq_bytes (bN I q Bq)
  |_=>exact absurd (show false=true from g) iV
 |_=>cases y<;>exact absurd (show false=true from g) iV
theorem xP:lV X (eh .NotEq) Ha:=by
 intro l s σ H x y v u Q I k e h;obtain⟨g,q⟩:=h;cases x with
 |non =>
  cases k;cases y with
  |non=>cases e;exact PySem.EqNone.ne_none_none (bN I q (by simp))
  |bl j=>cases e;exact PySem.EqNone.ne_none_bool (bN I q (by simp))
  |int j=>obtain⟨f,rfl⟩:=e;exact PySem.EqNone.ne_none_int (bN I q (by simp))
  |str j=>obtain⟨f,rfl⟩:=e;exact PySem.EqNone.ne_none_str (bN I q (by simp))
  |_=>exact absurd (show false=true from g) iV
 |bl i =>
  cases k;cases y with
  |non=>cases e;exact PySem.EqNone.ne_bool_none (bN I q (by simp))
  |bl j=>cases e;exact ne_bool (bN I q (congrArg not El))
  |str j=>obtain⟨f,rfl⟩:=e;exact PySem.EqMixed.ne_bool_str (bN I q (by simp))
  |_=>exact absurd (show false=true from g) iV
 |int i =>
  obtain⟨t,rfl⟩:=k;cases y with
  |non=>cases e;exact PySem.EqNone.ne_int_none (bN I q (by simp))
  |int j=>obtain⟨f,rfl⟩:=e;exact ne_int (bN I q (congrArg not Bp))
  |str j=>obtain⟨f,rfl⟩:=e;exact PySem.EqMixed.ne_int_str (bN I q (by simp))
  |_=>exact absurd (show false=true from g) iV
 |str i =>
  obtain⟨t,rfl⟩:=k;cases y with
  |non=>cases e;exact PySem.EqNone.ne_str_none (bN I q (by simp))
  |bl j=>cases e;exact PySem.EqMixed.ne_str_bool (bN I q (by simp))
  |int j=>obtain⟨f,rfl⟩:=e;exact PySem.EqMixed.ne_str_int (bN I q (by simp))
  |str j=>obtain⟨f,rfl⟩:=e;exact ne_str (bN I q (congrArg not dec_str))
  |_=>exact absurd (show false=true from g) iV
 |byt i =>
  obtain⟨t,rfl⟩:=k;cases y with
  |byt j=>obtain⟨f,rfl⟩:=e;exact PySem.W.ne_bytes (bN I q (congrArg not Bq))
  |_=>exact absurd (show false=true from g) iV
 |_=>cases y<;>exact absurd (show false=true from g) iV
theorem uu:lV X (eh .Lt) (AT fun i j=>.bl (decide (i<j))):=FA fun _ _ _ _ _ _ _ q=>lt_int q
theorem Hv:lV X (eh .LtE) (AT fun i j=>.bl (decide (i<=j))):=FA fun _ _ _ _ _ _ _ q=>le_int q
theorem uv:lV X (eh .Gt) (AT fun i j=>.bl (decide (j<i))):=FA fun _ _ _ _ _ _ _ q=>gt_int q
theorem Hw:lV X (eh .GtE) (AT fun i j=>.bl (decide (j<=i))):=FA fun _ _ _ _ _ _ _ q=>ge_int q
theorem Cj:lV X (eh .In) (fun x y H Q=>∃i j,x=.str i/\y=.str j/\Q (.bl (!(g_.Str.occurrences j i 0 j.length 1).isEmpty)) H):=by
 intro g s σ H x y v u Q I e f h;obtain⟨i,j,rfl,rfl,q⟩:=h;obtain⟨t,rfl⟩:=e;obtain⟨k,rfl⟩:=f;exact in_str (bN I q rfl)
theorem DM(b:Expr){e:CmpOp}(h:e≠.In:=by decide)(f:e≠.NotIn:=by decide):j7 e b=false:=by
 have g:(e==CmpOp.In)=false:=by cases e<;>first|rfl|exact absurd rfl h
 have i:(e==CmpOp.NotIn)=false:=by cases e<;>first|rfl|exact absurd rfl f
 cases b<;>simp[j7,g,i]
theorem A6{e:CmpOp}{r:R2}(f:lV X (eh e) r)(g:PE X a ta)(i:PE X b tb)(j:j7 e b=false):PE X (.Compare a [e] [b] pos) (ax r ta tb):=by
 intro k s σ H Q I h;exact wpAny_Compare1 (GZ g i I h fun v u l x y m n o p q=>f k l σ m x y v u Q n o p q) j
def aL(t:TE):TT:=fun σ H Q=>t σ H fun x H'=>∃k,x=.bl k/\Q k H'
theorem AU{f:CmpOp}{r:R2}(i:lV X (eh f) r)(j:PE X a ta)(l:PE X b tb)(m:j7 f b=false):PT X (.Compare a [f] [b] pos) (aL (ax r ta tb)):=by
 intro g s σ H Q I h;refine wpAny_isTrue_Compare1 (cF (j g s σ H _ I h) fun v n ⟨x,o,p,q,t⟩=>cF (l g n σ o _ p t) fun u w ⟨y,A,B,C,D⟩ =>
  cF (i g w σ A x y v u _ B q C D) fun c M ⟨z,E,G,J,k,e,L⟩=>?_) m
 subst e;cases J;exact pN ⟨E,G,L⟩
theorem pe:(ah:Nat)<2 ^ 63:=by rw[ke];decide
theorem sf:lV X (j6 .Add) (fun x y H Q=>∃i j,x=.str i/\y=.str j/\i.length+j.length<=ah/\Q (.str (i++j)) H):=by
 intro l s σ H x y v u Q I e f h;obtain⟨i,j,rfl,rfl,g,q⟩:=h;obtain⟨t,rfl⟩:=e;obtain⟨k,rfl⟩:=f;exact add_str (fun k tk=>⟨.str (i++j),H,I.tok _,⟨_,rfl⟩,q⟩) g
theorem vals1{x:V}{e:Zf}(r:aZ [x] e):∃u,e=[u]/\RelV x u:=by
 cases r with
 |cons f g=>cases g;exact⟨_,rfl,f⟩
theorem vals2{x y:V}{e:Zf}(r:aZ [x,y] e):∃u f,e=[u,f]/\RelV x u/\RelV y f:=by
 cases r with
 |cons g h =>
  cases h with
  |cons i j=>cases j;exact⟨_,_,rfl,g,i⟩
theorem CI(g:X.calm=true):eM X (.builtin "max") (fun f H Q=>∃i j,f=[.int i,.int j]/\Q (.int (if j > i then j else i)) H):=by
 intro l s σ H f m Q I r h;obtain⟨i,j,rfl,q⟩:=h;obtain⟨u,n,rfl,⟨t,rfl⟩,⟨o,rfl⟩⟩:=vals2 r;refine max_two_ints (I.ok.hd g) fun p tk k=>⟨_,H,I.kept k,?_,q⟩;by_cases e:j > i
 ·rw[if_pos e,if_pos e];exact⟨_,rfl⟩
 ·rw[if_neg e,if_neg e];exact⟨_,rfl⟩
theorem CK:eM X (.type "int") (fun e H Q=>(∃i,e=[.int i]/\Q (.int i) H)∨∃k,e=[.bl k]/\Q (.int (if k then 1 else 0)) H):=by
 intro g s σ H e j Q I r h;rcases h with⟨i,rfl,q⟩|⟨k,rfl,q⟩
 ·obtain⟨u,rfl,t,rfl⟩:=vals1 r;exact call_int_int ⟨.int i,H,I,⟨_,rfl⟩,q⟩
 ·obtain⟨u,rfl,f⟩:=vals1 r;cases f;exact call_int_bool ⟨.int (if k then 1 else 0),H,I.tok _,⟨_,rfl⟩,q⟩
end
end L2
namespace L2
open PySem PySem.Spec PyProof.Rows
structure Aq(h:Heap)(x dx C:Addr)(mA:Str->Option Value):Prop where
 obj:h.get? x=some (pM C dx)
 ns:h.Ns1 dx mA
 ne:dx≠x
theorem Cp{h:Heap}{g:Addr}{i:Str->Option Value}(n:h.Ns1 g i):∃j,h.get? g=some j/\∀name,AF name j=some (i name):=by
 obtain⟨o,k,v,l,m,p,_,r⟩:=n;refine⟨o,l,fun name=>?_⟩;have e:=r name;unfold nsFind findBy at e;rw[<-Array.find?_toList]at e;unfold AF;rw[m];dsimp only;split
 ·rename_i y q;rw[q]at e;exact congrArg some e
 ·rename_i q;rw[q]at e;have a:k.toList.any (·.refKey)=false:=by
   rw[List.any_eq_false];intro y s;obtain⟨z,t,f⟩:=p y (Array.mem_toList_iff.mp s);simp[DictEntry.refKey,f]
  have u:¬k.toList.any (·.refKey)=true:=by rw[a];exact iV
  rw[if_neg u];exact congrArg some e
theorem Aq.look{h:Heap}{x e C:Addr}{f:Str->Option Value}(I:Aq h x e C f):∃a,PySem.W.InstAt h x (pM C e) C (some a)/\∀name,AF name a=some (f name) :=
 let⟨a,g,i⟩:=Cp I.ns
 ⟨a,⟨I.obj,rfl,rfl,g⟩,i⟩
section
variable{prog:bR}{w:World}{A:Around}{E:Zc}{s:Shared}{K:Za}{x dx C f:Addr}{mA:Str->Option Value}{name:Str}{v:Value}
theorem FI{a:Bool}{Q:Zc}(X:K.In s.heap)(I:Aq s.heap x dx C mA)(g:wQ K C name=true)(i:AE K C=true)
  (j:eG K (.ref C) name=some none) (k:mA name=some v) (e:PySem.W.handedIn v=true) (h:Q v { s with toks:=s.toks+1 }) :
  wpAny (model prog w) A (getAttr (.ref x) name a) Q E s:=by
 obtain⟨m,J,l⟩:=I.look;exact PySem.W.get_value X J (PySem.W.plainGet_of g).1 (PySem.W.findObj_own i j rfl (by rw[l,k])) e h
theorem Ec{e:Sem Bool}{Q:Value×List Value->Shared->Prop}(X:K.In s.heap)(I:Aq s.heap x dx C mA)(a:wQ K C name=true)
  (g:eG K (.ref C) name=some (some (.ref f))) (i:wP K (.ref f)=true) (j:mA name=none) (h:Q (.ref f,[.ref x]) s) :
  wpAny (model prog w) A (pI (.ref x) name e) Q E s:=by
 obtain⟨k,J,l⟩:=I.look;exact PySem.W.method_fn X J (PySem.W.plainGet_of a).1 (PySem.W.plainGet_of a).2 g (beq_iff_eq.mp i) (by show(AF name k).map (·.isSome)=some false;rw[l,j];rfl) h
theorem Fe{n:Zb}{Q:Unit->Shared->Prop}(X:K.In s.heap)(I:Aq s.heap x dx C mA)
  (o:eG K (.ref C) "__setattr__"=some (some (.builtin "object.__setattr__"))) (p:PySem.W.plainOver K C=true) (q:PySem.W.takerIn K C name=some none) (t:AE K C=true)
  (u:PySem.Within mA n) (z:n.length<=ah)
  (h:∀i,Aq i x dx C (fun y=>if y=name then some v else mA y)->ix dx s.heap i->Q () { s with heap:=i,toks:=s.toks+2 }) :
  wpAny (model prog w) A (setAttr (.ref x) name v) Q E s:=by
 obtain⟨L,J,M⟩:=I.look;refine PySem.W.set_plain X J o (PySem.W.osa_open (s:={ s with toks:=s.toks+1 }) (r:=none) X J p q fun b=>?_);obtain⟨N,B,j⟩:=PySem.W.any_some t;have D:s.heap.get? x=some ⟨.ref C,some dx,.plain,#[]⟩:=I.obj;refine bp (cI (bp (bp (wpAny_loadPart D (bp (PySem.W.Looks.here (s:={ s with toks:=s.toks+1 }) (PySem.W.looks_clsIn X B) ?_))))));rw[j];refine cI (a:=some dx) (bp (cI (bp ?_)));refine wpAny_nsSet1 (s:={ s with toks:=s.toks+1 }) I.ns fun i e g=>?_;obtain⟨O,G,H,k,l,m⟩:=e.count (PySem.Within.cons name v u);refine bp (wpAny_lookBehind k (by rw[l];exact pastItsLine_dict (bm m (by rw[e_];omega))) ?_);exact cI (h _ ⟨(g.2 _ (g0 I.ne)).trans I.obj,e,I.ne⟩ g)
theorem DS{R:Result->Shared->Prop}{a:Zf}{e:List (Str×Value)}(X:K.In s.heap)(i:wO K C=true)
  (j:eG K (.ref C) "__init__"=some (some (.ref f))) (k:PySem.W.typeIn K (.ref f)=some (.type "function"))
  (h:zzl72 (model prog w) (A.under (.builtin "type.__call__" ⟨.ref C::a,e⟩)) (.call (.ref f) ⟨.ref (s.heap.objs.size+1)::a,e⟩) (PySem.W.InitBack (s.heap.objs.size+1) R)
   { s with heap:=(s.heap.push nh).push (pM C s.heap.objs.size) }) :
  zzl72 (model prog w) A (.call (.ref C) ⟨a,e⟩) R s:=by
 obtain⟨l,g,d,t,os⟩:=s;exact PySem.W.make_core (PySem.W.makes_of X i) (PySem.W.looks_findIn X j) (fun self=>PySem.W.bind_fn X self k) (.inl rfl) h
end
def c6(f:Str)(v:V):List (Str×V)->List (Str×V)
 |[]=>[(f,v)]
 | (g,x)::r=>if g=f then(g,v)::r else(g,x)::c6 f v r
theorem fg(f g:Str)(v:V):∀fs:List (Str×V),(c6 f v fs).lookup g=if g=f then some v else fs.lookup g
 |[]=>by
  show kb g [(f,v)]=_;by_cases h:g=f
  ·have a:(g==f)=true:=beq_iff_eq.mpr h;simp only[kb,a,if_pos h]
  ·have a:(g==f)=false:=beq_eq_false_iff_ne.mpr h;simp only[kb,a,if_neg h]
 | (k,x)::r=>by
  have j:=fg f g v r;rw[show c6 f v ((k,x)::r)=(if k=f then(k,v)::r else(k,x)::c6 f v r)from rfl]
  by_cases i:k=f
  ·rw[if_pos i];by_cases h:g=k
   ·have a:(g==k)=true:=beq_iff_eq.mpr h;simp only[kb,a,if_pos (h.trans i)]
   ·have a:(g==k)=false:=beq_eq_false_iff_ne.mpr h;simp only[kb,a,if_neg (fun e:g=f=>h (e.trans i.symm))]
  ·rw[if_neg i];by_cases h:g=k
   ·have a:(g==k)=true:=beq_iff_eq.mpr h;simp only[kb,a,if_neg (fun e:g=f=>i (h.symm.trans e))]
   ·have a:(g==k)=false:=beq_eq_false_iff_ne.mpr h;simp only[kb,a];exact j
theorem pi(f:Str)(v:V):∀fs:List (Str×V),f∈(c6 f v fs).map (·.1)/\∀g,g∈fs.map (·.1)->g∈(c6 f v fs).map (·.1)
 |[]=>⟨by simp[c6],fun g h=>by simp at h⟩
 | (k,x)::r=>by
  obtain⟨i,j⟩:=pi f v r;rw[show c6 f v ((k,x)::r)=(if k=f then(k,v)::r else(k,x)::c6 f v r)from rfl]
  by_cases a:k=f
  ·rw[if_pos a];subst a;exact⟨by simp,fun g h=>by simpa using h⟩
  ·rw[if_neg a];refine⟨?_,fun g h=>?_⟩
   ·rw[bu];exact eI _ i
   ·rw[bu]at h ⊢;rcases cx.mp h with e|e
    ·exact cx.mpr (.inl e)
    ·exact eI _ (j g e)
theorem pR(f:Str)(v:V):∀fs:List (Str×V),(c6 f v fs).length<=fs.length+1
 |[]=>by simp[c6]
 | (k,x)::r=>by
  have e:=pR f v r;rw[show c6 f v ((k,x)::r)=(if k=f then(k,v)::r else(k,x)::c6 f v r)from rfl]
  by_cases a:k=f
  ·rw[if_pos a,e_,e_];omega
  ·rw[if_neg a,e_,e_];omega
theorem ka.some_of{v:V}{o:Option Value}(r:ka (some v) o):∃u,o=some u/\RelV v u:=by
 cases o with
 |none=>exact(show False from r).elim
 |some u=>exact⟨u,rfl,r⟩
theorem ka.none_of{o:Option Value}(r:ka none o):o=none:=by
 cases o with
 |none=>rfl
 |some u=>exact(show False from r).elim
theorem CA{v:V}{u:Value}(r:RelV v u):PySem.W.handedIn u=true:=by
 cases v with
 |non=>cases(show u=Value.none from r);rfl
 |bl b=>cases(show u=Value.bool b from r);rfl
 |int i=>obtain⟨t,e⟩:=(show ∃t,u=Value.int i t from r);cases e;rfl
 |str x=>obtain⟨t,e⟩:=(show ∃t,u=Value.str x t from r);cases e;rfl
 |byt b=>obtain⟨t,e⟩:=(show ∃t,u=Value.bytes b t from r);cases e;rfl
 |flt b=>obtain⟨t,e⟩:=(show ∃t,u=Value.float b t from r);cases e;rfl
 |ref a=>cases(show u=Value.ref a from r);rfl
 |ty n=>cases(show u=Value.type n from r);rfl
section
variable{P:bR}{w:World}{H H':Hp}{h h':Heap}{a C dx:Addr}{fs fs':List (Str×V)}
theorem qE{K:Za}(i:lZ P w K H h)(e:H a=some (.ins C dx fs)):∃g,Aq h a dx C g/\(∀f,ka (fs.lookup f) (g f))/\PySem.Within g (fs.map (·.1))/\fs.length<=1000/\H dx=some (.own a):=by
 obtain⟨d,z,ne,j,g,n,r,q⟩:=(show cy P w K H h a (.ins C dx fs)from i a _ e);exact⟨g,⟨j,n,ne⟩,r,q,z,d⟩
end
structure CW(K:Za)(C:Addr):Prop where
 pg:wQ K C Str.empty=true
 hd:AE K C=true
 po:PySem.W.plainOver K C=true
 sa:eG K (.ref C) "__setattr__"=some (some (.builtin "object.__setattr__"))
theorem CW.get{K:Za}{C:Addr}(c:CW K C)(f:Str):wQ K C f=true:=c.pg
def fN(K:Za)(C:Addr)(f:Str):Prop:=eG K (.ref C) f=some none
theorem fN.taker{K:Za}{C:Addr}{f:Str}(n:fN K C f):PySem.W.takerIn K C f=some none:=by
 unfold PySem.W.takerIn;rw[show eG K (.ref C) f=some none from n]
 rfl
structure FY(K:Za)(C:Addr)(m:Str)(f:Addr):Prop where
 at_:eG K (.ref C) m=some (some (.ref f))
 fn:wP K (.ref f)=true
 kp:i_ K (.ref f)=true
section
variable{X:Cx}{J4:Zd}{σ:St}{H:Hp}{s:Shared}{a C dx:Addr}{fs:List (Str×V)}{f:Str}{v:V}{A:Around}{E:Zc}
theorem Ae{b:Bool}{Q:Zc}(I:Inv X J4 σ H s)(e:H a=some (.ins C dx fs))(c:CW X.K C)(n:fN X.K C f)(l:fs.lookup f=some v)
  (h:∀u g,Inv X J4 σ H g->RelV v u->Q u g):wpAny (model X.prog X.w) A (getAttr (.ref a) f b) Q E s:=by
 obtain⟨j,O,r,_,_,_⟩:=qE I.hok e;obtain⟨u,k,i⟩:=ka.some_of (v:=v) (o:=j f) (by rw[<-l];exact r f);exact FI I.kIn O (c.get f) c.hd n k (CA i) (h u _ (I.tok _) i)
theorem sr{m:Str}{g:Addr}{i:Sem Bool}{Q:Value×List Value->Shared->Prop}(I:Inv X J4 σ H s)(e:H a=some (.ins C dx fs))(c:CW X.K C)(k:FY X.K C m g)(l:fs.lookup m=none)
  (h:Q (.ref g,[.ref a]) s):wpAny (model X.prog X.w) A (pI (.ref a) m i) Q E s:=by
 obtain⟨j,O,r,_,_,_⟩:=qE I.hok e;have n:j m=none:=ka.none_of (by rw[<-l];exact r m);exact Ec I.kIn O (c.get m) k.at_ k.fn n h
theorem zB{y:V}{u:Value}{Q:Unit->Shared->Prop}(I:Inv X J4 σ H s)(e:H a=some (.ins C dx fs))(c:CW X.K C)(n:fN X.K C f)(N:fs.length<1000)(p:RelV y u)
  (h:∀j,Inv X J4 σ (upd H a (.ins C dx (c6 f y fs))) j->Q () j):wpAny (model X.prog X.w) A (setAttr (.ref a) f u) Q E s:=by
 obtain⟨k,O,r,l,_,m⟩:=qE I.hok e;have t:(fs.map (·.1)).length<=ah:=by rw[ak,ke];omega
 refine Fe I.kIn O c.sa c.po n.taker c.hd l t fun B i D=>h _ ?_;have G:∃o,B.get? dx=some o:=let⟨o,_,_,J,_⟩:=i.ns;⟨o,J⟩;refine I.write (x:=a) (e:=dx) (by rw[e];exact iw) (.inr m) (fun b q L z=>(D.2 b L).trans z) G ?_;refine⟨by rw[aj O.ne];exact m,?_,O.ne,i.obj,_,i.ns,fun g=>?_,fun g M=>?_⟩
 ·have:=pR f y fs;omega
 ·show ka ((c6 f y fs).lookup g) (if g=f then some u else k g)
  rw[fg];by_cases q:g=f
  ·rw[if_pos q,if_pos q];exact p
  ·rw[if_neg q,if_neg q];exact r g
 ·by_cases q:g=f
  ·rw[q];exact(pi f y fs).1
  ·refine(pi f y fs).2 g (l g fun z=>M ?_);show(if g=f then some u else k g)=none
   rw[if_neg q];exact z
theorem Inv.made(I:Inv X J4 σ H s):Inv X J4 σ (upd (upd H s.heap.objs.size (.own (s.heap.objs.size+1))) (s.heap.objs.size+1) (.ins C s.heap.objs.size []))
  { s with heap:=(s.heap.push nh).push (pM C s.heap.objs.size) }:=by
 have g:(s.heap.push nh).get? s.heap.objs.size=some nh:=fy s.heap rfl;have h:((s.heap.push nh).push (pM C s.heap.objs.size)).get? (s.heap.objs.size+1)=some (pM C s.heap.objs.size):=by
  have:=fy (s.heap.push nh) (o:=pM C s.heap.objs.size) rfl;rwa[Heap.size_push]at this
 have i:(s.heap.push nh).Ns s.heap.objs.size (fun _=>none):=⟨nh,#[],_,g,rfl,(fun e j=>absurd j (by simp)),fun _=>rfl⟩;have k:=I.laid (a:=s.heap.objs.size) (o:=.own (s.heap.objs.size+1)) (h':=s.heap.push nh) (t':=s.toks) (fun b u q=>cC _ q) (aB _) ⟨_,g⟩;refine k.laid (a:=s.heap.objs.size+1) (o:=.ins C s.heap.objs.size []) (t':=s.toks) (fun b u q=>cC _ q) (Nat.le_of_eq (Heap.size_push _ _)) ?_;have ne:s.heap.objs.size≠s.heap.objs.size+1:=cQ (wN _);refine⟨by rw[aj ne,aa],b_ _,ne,h,fun _=>none,(Heap.Ns1.of_empty i).at fun o q=>cC _ q,fun _=>iw,fun y l=>absurd rfl l⟩
theorem FS{g:bR}{w:World}{i:Env}{e:Expr}{f:Str}{k:Pos}{s:Shared}{Q:Zc}(l:ud e f i (eval e i)=eval e i)
  (h:wpAny (model g w) A (eval e i) (fun o j=>wpAny (model g w) A (getAttr o f true) Q E j) E s):wpAny (model g w) A (eval (.Attribute e f k) i) Q E s :=
 Attribute_any_ h (by rw[arm_eval_Attribute,l])
end
def tG(K:Za)(ta:TE)(f:Str):TE:=fun σ H Q=>ta σ H fun x H1=>∃a C dx fs v,x=.ref a/\H1 a=some (.ins C dx fs)/\CW K C/\fN K C f/\fs.lookup f=some v/\Q v H1
def vP(K:Za)(ta tv:TE)(f:Str):TS:=fun D σ H=>tv σ H fun y H1=>ta σ H1 fun x H2=>∃a C dx fs,x=.ref a/\H2 a=some (.ins C dx fs)/\CW K C/\fN K C f/\fs.length<1000 /\
 D.nx σ (upd H2 a (.ins C dx (c6 f y fs)))
section
variable{X:Cx}{o e value:Expr}{f:Str}{pos pos' J7:Pos}{ta tv:TE}
theorem jK(i:PE X e ta)(j:ud e f X.env (eval e X.env)=eval e X.env):PE X (.Attribute e f pos) (tG X.K ta f):=by
 intro k s σ H Q I h;refine FS j (cF (i k s σ H _ I h) fun u z g=>?_);obtain⟨x,m,p,r,a,C,A,fs,v,ex,t,c,n,l,q⟩:=g;subst ex;obtain rfl:u=Value.ref a:=r;exact Ae p t c n l fun B D w y=>⟨v,m,w,y,q⟩
theorem kL(j:PE X o ta)(k:PE X value tv)(m:qP value (some (.Attribute o f pos')) pos.line X.env=pure false):PS X (.Assign [.Attribute o f pos'] value pos) (vP X.K ta tv f):=by
 intro i s σ H D I h;refine plainObj_wpAny_Assign_Attribute (cF (k i s σ H _ I h) fun u p ⟨y,r,t,v,q⟩=>cF (j i p σ r _ t q) fun w J g=>?_) m;obtain⟨x,L,z,A,a,C,M,fs,ex,B,c,n,l,E⟩:=g;subst ex;obtain rfl:w=Value.ref a:=A;exact zB z B c n l v fun N G=>⟨σ,_,G,E⟩
end
section
variable{X:Cx}{J4:Zd}{σ:St}{H:Hp}{s:Shared}{A:Around}{E:Zc}{Q:Zc}{c:Value}{b:Bool}
inductive mN(K:Za)(H:Hp):V->Value->Prop where
 |non:mN K H .non (.type "NoneType")
 |bl (x:Bool):mN K H (.bl x) (.type "bool")
 |int (i:Int):mN K H (.int i) (.type "int")
 |str (x:Str):mN K H (.str x) (.type "str")
 |flt (x:UInt64):mN K H (.flt x) (.type "float")
 |lst {a:Addr}{xs:List V}(e:H a=some (.lst xs)):mN K H (.ref a) (.type "list")
 |frz {a:Addr}{o:Obj}{xs:List V}(e:H a=some (.frz o (.lst xs))):mN K H (.ref a) (.type "list")
 |tup {a:Addr}{xs:List V}(e:H a=some (.tup xs)):mN K H (.ref a) (.type "tuple")
 |dK {a:Addr}{kvs:List (b0×V)}(e:H a=some (.dK kvs)):mN K H (.ref a) (.type "dict")
 |dT {a:Addr}{kvs:List (TK×V)}(e:H a=some (.dT kvs)):mN K H (.ref a) (.type "dict")
 |ins {a C dx:Addr}{fs:List (Str×V)}(e:H a=some (.ins C dx fs)) (cl:CW K C) (ha:eG K (.ref C) "__class__"=some (some (.builtin "object.__class__")))
   (hn:PySem.W.specialIn K (.builtin "object.__class__") "__get__"=some (some (.builtin "getset_descriptor.__get__"))) (htk:PySem.W.takesIn K (.builtin "object.__class__")=some true)
   (hm:PySem.W.mroIn K C (.type "object")=some true):mN K H (.ref a) (.ref C)
theorem Cr{x:V}{u t:Value}(I:Inv X J4 σ H s)(f:RelV x u)(B:mN X.K H x t)(e:AD X.K t c=some b)(h:∀tk,Q (.bool b) { s with toks:=tk }):
  wpAny (model X.prog X.w) A (call (.builtin "isinstance") [u,c]) Q E s:=by
 cases B with
 |non=>cases(show u=Value.none from f);exact i9 PySem.W.kitx_none I.kIn iw e (fun z=>nomatch z) h
 |bl y=>cases(show u=Value.bool y from f);exact i9 PySem.W.kitx_bool I.kIn iw e (fun z=>nomatch z) h
 |int i=>obtain⟨t,q⟩:=(show ∃t,u=Value.int i t from f);cases q;exact i9 PySem.W.kitx_int I.kIn iw e (fun z=>nomatch z) h
 |str y=>obtain⟨t,q⟩:=(show ∃t,u=Value.str y t from f);cases q;exact i9 PySem.W.kitx_str I.kIn iw e (fun z=>nomatch z) h
 |flt y=>obtain⟨t,q⟩:=(show ∃t,u=Value.float y t from f);cases q;exact i9 PySem.W.kitx_float I.kIn iw e (fun z=>nomatch z) h
 |@lst a l g =>
  cases(show u=Value.ref a from f);obtain⟨_,_,n,_,j⟩:=(show cy X.prog X.w X.K H s.heap a (.lst l)from I.hok a _ g);exact i9 PySem.W.kitx_list I.kIn ⟨_,j,rfl⟩ e (fun z=>nomatch z) h
 |@frz a D l g =>
  cases(show u=Value.ref a from f);obtain⟨_,_,_,n,_,j⟩:=(show cy X.prog X.w X.K H s.heap a (.frz D (.lst l))from I.hok a _ g);exact i9 PySem.W.kitx_list I.kIn ⟨_,j,rfl⟩ e (fun z=>nomatch z) h
 |@tup a l g =>
  cases(show u=Value.ref a from f);obtain⟨_,_,_,p⟩:=(show cy X.prog X.w X.K H s.heap a (.tup l)from I.hok a _ g);obtain⟨o,j,m,_⟩:=p;exact i9 PySem.W.kitx_tuple I.kIn ⟨o,j,m⟩ e (fun z=>nomatch z) h
 |@dK a k g =>
  cases(show u=Value.ref a from f);obtain⟨_,_,U,_,p⟩:=(show cy X.prog X.w X.K H s.heap a (.dK k)from I.hok a _ g);obtain⟨o,G,L,j,m,_⟩:=p;exact i9 PySem.W.kitx_dict I.kIn ⟨o,j,m.1⟩ e (fun z=>nomatch z) h
 |@dT a k g =>
  cases(show u=Value.ref a from f);obtain⟨_,_,l,_,o,G,L,j,m,_⟩:=(show cy X.prog X.w X.K H s.heap a (.dT k)from I.hok a _ g);exact i9 PySem.W.kitx_dict I.kIn ⟨o,j,m.1⟩ e (fun z=>nomatch z) h
 |@ins a C Y fs g v M N r T =>
  cases(show u=Value.ref a from f);obtain⟨mA,O,_⟩:=qE I.hok g;obtain⟨od,J,_⟩:=O.look;exact i9 (PySem.W.kitx_own (v.get _) v.hd M N r T) I.kIn J e (fun z=>nomatch z) h
end
end L2
namespace L2
open PySem PySem.Spec PyProof.Rows
structure d9(k:Nat)(A:Around):Prop where
 hd:A.handled=none
 dp:A.depth+3 * k+5<recursionLimit
 un:A.units+16 * k+200<cLine
theorem d9.mono{j k:Nat}{A:Around}(r:d9 k A)(h:j<=k):d9 j A:=⟨r.hd,by have:=r.dp;omega,by have:=r.un;omega⟩
theorem d9.deeper{k:Nat}{A:Around}(r:d9 (k+1) A)(a:Env):d9 k (A.deeper a) :=
 ⟨r.hd,by have:=r.dp;show A.depth+1+3 * k+5<_;omega,by have:=r.un;show A.units+3+16 * k+200<_;omega⟩
theorem z0{A:Around}{C:Addr}{a:Zf}{e:List (Str×Value)}:(A.under (.builtin "type.__call__" ⟨.ref C::a,e⟩)).depth=A.depth+1:=by
 first|rfl|simp[Around.under,Code.weight,Code.isCreation,Code.isGuard,Code.isCaller,Code.frames,Code.isFrame,guardIds]
theorem zZ{A:Around}{C:Addr}{a:Zf}{e:List (Str×Value)}:(A.under (.builtin "type.__call__" ⟨.ref C::a,e⟩)).units=A.units+1:=by
 first|rfl|simp[Around.under,Code.cUnits,Code.frames,Code.isFrame]
theorem d9.make{k:Nat}{A:Around}(r:d9 (k+1) A)(C:Addr)(a:Zf)(e:List (Str×Value)):d9 k (A.under (.builtin "type.__call__" ⟨.ref C::a,e⟩)) :=
 ⟨r.hd,by have:=r.dp;rw[z0];omega,by have:=r.un;rw[zZ];omega⟩
theorem d9.depth{k:Nat}{A:Around}(r:d9 k A):A.depth<recursionLimit:=by have:=r.dp;omega
theorem d9.units{k:Nat}{A:Around}(r:d9 k A):A.units+64<cLine:=by have:=r.un;omega
def bd:TA:=fun _ H Q=>Q [] H
def ap(ta:TE)(tr:TA):TA:=fun σ H Q=>ta σ H fun x H1=>tr σ H1 fun xs H2=>Q (x::xs) H2
abbrev aw(a:TE):TA:=ap a bd
abbrev aW(a b:TE):TA:=ap a (ap b bd)
abbrev cE(a b c:TE):TA:=ap a (ap b (ap c bd))
section
variable{X:Cx}{e:Expr}{es:List Expr}{te:TE}{t:TA}{pos:Pos}
theorem bQ:PA X [] bd:=fun _ _ _ _ H Q I h=>Calls.spliced_nil ⟨[],H,I,.nil,h⟩
theorem bI(g:PE X e te)(i:PA X es t)(j:aK (e::es) X.env=(false,eval e X.env)::aK es X.env:=by rfl):PA X (e::es) (ap te t):=by
 intro pos f s σ H Q I h;rw[j];show wpAny _ _ (spliced ((false,eval e X.env)::backTo pos (aK es X.env))) _ _ s;refine Calls.spliced_cons (cF (g f s σ H _ I h) fun u k a=>?_);obtain⟨x,l,m,n,o⟩:=a;exact cF (i pos f k σ l _ m o) fun y z ⟨p,q,r,v,w⟩=>⟨x::p,q,r,.cons n v,w⟩
def bb(t:TA):TE:=fun σ H Q=>t σ H fun xs H1=>xs.length<=ah/\∀p,H1 p=none->Q (.ref p) (upd H1 p (.tup xs))
def cf(t:TA):TE:=fun σ H Q=>t σ H fun xs H1=>xs.length<=ah/\∀p,H1 p=none->Q (.ref p) (upd H1 p (.lst xs))
theorem aD{i}(h:PA X es t):PE X (.Tuple es i pos) (bb t):=by
 intro j s σ H Q I k;refine wpAny_Tuple_spliced (cF (h pos j s σ H _ I k) fun l a ⟨m,f,g,r,z,q⟩=>⟨by rw[<-r.length];exact z,?_⟩);have n:f a.heap.objs.size=none:=g.hok.fresh (aB _);refine⟨.ref a.heap.objs.size,upd f a.heap.objs.size (.tup m),g.laid (t':=a.toks) (fun b u e=>cC _ e) (aB _) ?_,rfl,q _ n⟩;exact⟨z,l,r,⟨_,fy _ rfl,rfl,_,rfl⟩⟩
theorem aX(h:PA X es t):PE X (.List es pos) (cf t):=by
 intro i s σ H Q I j;refine wpAny_List_spliced (cF (h pos i s σ H _ I j) fun k a ⟨l,f,g,r,z,q⟩=>⟨by rw[<-r.length];exact z,?_⟩);have m:f a.heap.objs.size=none:=g.hok.fresh (aB _);refine⟨.ref a.heap.objs.size,upd f a.heap.objs.size (.lst l),g.laid (t':=a.toks) (fun b u e=>cC _ e) (aB _) ?_,rfl,q _ m⟩;exact⟨z,k,0,r,fy _ rfl⟩
end
abbrev Sp:=List V->Hp->VK->XK->Prop
abbrev C4:=List Env->Hp->Shared->XK->Value->Shared->Prop
structure Ay(P:bR)(w:World)(K:Za)(mg:Str->Option Value)(base:Heap)(A:Around)(outer:List Env)(s:Shared)(H:Hp):Prop where
 frames:A.frames=some outer
 mod:Mod K mg base
 bs:∀b o,base.get? b=some o->s.heap.get? b=some o/\H b=none
 bsz:base.objs.size<=s.heap.objs.size
 funs:s.heap.FunFrames base outer
 frf:∀b∈C2 outer,H b=none
 hok:lZ P w K H s.heap
 bare:nk s.gens
def CE(outer:List Env)(P:bR)(w:World)(K:Za)(H:Hp)(s:Shared)(Q:VK)(u:Value)(s':Shared):Prop :=
 ∃v H',s'.os=s.os/\nk s'.gens/\Un (C2 outer) [] H H' s.heap s'.heap/\lZ P w K H' s'.heap/\RelV v u/\Q v H'
def CR(CX:C4)(outer:List Env)(P:bR)(w:World)(K:Za)(H:Hp)(s:Shared)(Q:VK)(E:XK)(r:Result)(s':Shared):Prop :=
 match r with
 |.ok (.ret u)=>CE outer P w K H s Q u s'
 |.ok _=>False
 |.error e=>CX outer H s E e s'
structure kY(P:bR)(w:World)(K:Za)(mg:Str->Option Value)(base:Heap)(CX:C4)(k:Nat)(f:Addr)(fd:j5)(ps:Zb)(sp:Sp):Prop where
 len:∀vs H Q E,sp vs H Q E->vs.length=ps.length
 run:∀(A:Around) (outer:List Env) (s:Shared) (H:Hp) (args:Args) (us:Zf) (vs:List V) (Q:VK) (E:XK),d9 k A->Ay P w K mg base A outer s H->qM s fd args (ps.zip us)->aZ vs us->sp vs H Q E ->
  zzl72 (model P w) A (.call (.ref f) args) (CR CX outer P w K H s Q E) s
theorem Ay.make{P:bR}{w:World}{K:Za}{a:Str->Option Value}{base:Heap}{A:Around}{outer:List Env}{s:Shared}{H:Hp}(e:Ay P w K a base A outer s H)(C:Addr)(f:Zf)(g:List (Str×Value)):
  Ay P w K a base (A.under (.builtin "type.__call__" ⟨.ref C::f,g⟩)) outer s H:=⟨by first|exact e.frames|(simpa[Around.under,Code.envs,Code.isFrame,pushEnvs]using e.frames),e.mod,e.bs,e.bsz,e.funs,e.frf,e.hok,e.bare⟩
section
variable{X:Cx}{J4:Zd}{σ:St}{H:Hp}{s s':Shared}
theorem Inv.env0(I:Inv X J4 σ H s):Ay X.prog X.w X.K X.mg X.base X.A X.stack s H :=
 ⟨I.ok.frames,I.ok.mod,I.bs,bm I.ok.bsz I.sz,I.stack,I.stkFree,I.hok,I.bare⟩
theorem Inv.after{Q:VK}{u:Value}(I:Inv X J4 σ H s)(h:CE X.stack X.prog X.w X.K H s Q u s'):EP X J4 σ Q u s':=by
 obtain⟨v,i,os,a,un,e,r,q⟩:=h;obtain⟨j,g,d,t,f⟩:=s';obtain rfl:f=s.os:=os;exact⟨v,i,I.call (h':=j) (g':=g) (d':=d) (t':=t) (ch:=[]) un e a (fun b z=>absurd z (by simp)),r,q⟩
end
def Ga(sp:Sp)(dvs:List V)(E:XK)(t:TA):TE:=fun σ H Q=>t σ H fun vs H1=>sp (vs++dvs) H1 Q E
def fb(C:Addr)(m:Str)(sp:Sp)(dvs:List V)(E:XK)(ta:TE)(t:TA):TE:=fun σ H Q=>ta σ H fun x H1=>∃a dx fs,x=.ref a/\H1 a=some (.ins C dx fs)/\fs.lookup m=none /\
 t σ H1 fun vs H2=>sp (x::(vs++dvs)) H2 Q E
def Dh(C:Addr)(sp:Sp)(dvs:List V)(E:XK)(t:TA):TE:=fun σ H Q=>t σ H fun vs H1=>∀x dx,H1 x=none->H1 dx=none->dx≠x ->
 sp (.ref x::(vs++dvs)) (upd (upd H1 dx (.own x)) x (.ins C dx [])) (fun v H2=>v=.non/\Q (.ref x) H2) E
def Binds(K:Za)(fd:j5)(ps:Zb)(ds:Zf):Prop :=
 ∀(s:Shared) (us:Zf),K.In s.heap->(us++ds).length=ps.length->qM s fd ⟨us,[]⟩ (ps.zip (us++ds))
theorem Binds.all{K:Za}{f:j5}{e:Zb}(h:∀a:List Value,a.length=e.length->bindArgs f ⟨a,[]⟩=pure (e.zip a)):Binds K f e []:=fun s a _ g=>by
 rw[f6]at g ⊢;exact .of_eq (h a g)
def mP(CX:C4)(X:Cx)(E:XK):Prop:=∀(J4:Zd) (σ:St) (H:Hp) (s:Shared) (e:Value) (s':Shared),Inv X J4 σ H s->CX X.stack H s E e s'->X.xe e s'
section
variable{X:Cx}{CX:C4}{k:Nat}{f C:Addr}{fd:j5}{ps:Zb}{sp:Sp}{dvs:List V}{ds:Zf}{E:XK}{x m:Str}{p pos J6:Pos}{e o:Expr}{es:List Expr}{ta:TE}{t:TA}
theorem zC{g:Zd}{σ:St}{H:Hp}{s:Shared}{Q:VK}{us:Zf}{vs:List V}(F:kY X.prog X.w X.K X.mg X.base CX k f fd ps sp)(j:d9 k X.A)(l:Binds X.K fd ps ds)(n:aZ dvs ds)(q:mP CX X E)
  (I:Inv X g σ H s) (r:aZ vs us) (h:sp (vs++dvs) H Q E):wpAny (model X.prog X.w) X.A (call (.ref f) us) (EP X g σ Q) X.xe s:=by
 have i:aZ (vs++dvs) (us++ds):=r.append n;have v:(us++ds).length=ps.length:=by rw[<-i.length];exact F.len _ _ _ _ h
 refine wpAny_call (AC (F.run X.A X.stack s H ⟨us,[]⟩ (us++ds) (vs++dvs) Q E j I.env0 (l s us I.kIn v) i h) fun r y a=>?_);cases r with
 |error e=>exact q g σ H s e y I a
 |ok z =>
  cases z with
  |ret u=>exact I.after a
  |next=>exact jb a
  |brk=>exact jb a
  |cont=>exact jb a
theorem Fy(F:kY X.prog X.w X.K X.mg X.base CX k f fd ps sp)(j:d9 k X.A)(l:Gl X x)(n:X.mg x=some (.ref f))(u:i_ X.K (.ref f)=true)(v:Binds X.K fd ps ds)(y:aZ dvs ds)(z:mP CX X E)
  (B:PA X (e::es) t) (a:(x==("__debug__":Str))=false:=by decide) (D:aK (e::es) X.env=(false,eval e X.env)::aK es X.env:=by rfl) (g:(backTo pos (aK es X.env)).any (·.1)=false:=by rfl) :
  PE X (.Call (.Name x p) (e::es) [] pos) (Ga sp dvs E t):=by
 intro G s σ H Q I h;refine AB (v5 I l n ?_ a);refine PySem.W.callWith_K (h₀:=X.base) I.ok.mod.kin u (cF (B pos G s σ H _ I h) fun J L ⟨M,N,i,r,q⟩=>⟨i.kIn,?_⟩) D g;exact zC F j v y z i r q
theorem Ft{pl:Sem Bool}(D:PE X o ta)(c:CW X.K C)(n:FY X.K C m f)(F:kY X.prog X.w X.K X.mg X.base CX k f fd ps sp)(G:d9 k X.A)(J:Binds X.K fd ps ds)(L:aZ dvs ds)(M:mP CX X E)(N:PA X (e::es) t)
  (g:aK (e::es) X.env=(false,eval e X.env)::aK es X.env:=by rfl) (i:(backTo pos (aK es X.env)).any (·.1)=false:=by rfl)
  (O:eval (.Call (.Attribute o m J6) (e::es) [] pos) X.env=(do
   let v <- eval o X.env
   pK J6.atName
   let(f,first) <- kf [v] (pI v m pl)
   uc pos f first (backTo pos (aK (e::es) X.env)) (nc pos (m_ [] X.env))):=by rfl) :
  PE X (.Call (.Attribute o m J6) (e::es) [] pos) (fb C m sp dvs E ta t):=by
 intro y s σ H Q I h;refine PySem.W.methodCall_KW (pl:=pl) (cF (D y s σ H _ I h) fun u T j=>?_) O;obtain⟨x,U,z,Y,a,dx,fs,ex,ea,l,q⟩:=j;subst ex;obtain rfl:u=Value.ref a:=Y;refine sr z ea c n l ?_;refine PySem.W.callWith_K (first:=[.ref a]) (h₀:=X.base) I.ok.mod.kin n.kp (cF (N pos y T σ U _ z q) fun us s2 ⟨vs,H2,B,r,q2⟩=>⟨B.kIn,?_⟩) g i
 exact zC (us:=.ref a::us) (vs:=.ref a::vs) F G J L M B (.cons rfl r) q2
theorem DF{pl:Sem Bool}(r:PE X o ta)(c:CW X.K C)(j:FY X.K C m f)(F:kY X.prog X.w X.K X.mg X.base CX k f fd ps sp)(v:d9 k X.A)(y:Binds X.K fd ps ds)(z:aZ dvs ds)(B:mP CX X E)
  (D:eval (.Call (.Attribute o m J6) [] [] pos) X.env=(do
   let n <- eval o X.env
   pK J6.atName
   let(f,first) <- kf [n] (pI n m pl)
   uc pos f first (backTo pos (aK [] X.env)) (nc pos (m_ [] X.env))):=by rfl) :
  PE X (.Call (.Attribute o m J6) [] [] pos) (fb C m sp dvs E ta bd):=by
 intro G s σ H Q I h;refine PySem.W.methodCall_KW (pl:=pl) (cF (r G s σ H _ I h) fun u M g=>?_) D;obtain⟨x,N,i,J,a,O,fs,ex,L,l,q⟩:=g;subst ex;obtain rfl:u=Value.ref a:=J;refine sr i L c j l ?_;exact PySem.W.callWith_K0 (first:=[.ref a]) i.kIn j.kp (zC (us:=[.ref a]) (vs:=[.ref a]) F v y z B i (.cons rfl .nil) q)
structure Mk(K:Za)(C f:Addr):Prop where
 makes:wO K C=true
 init:eG K (.ref C) "__init__"=some (some (.ref f))
 fn:wP K (.ref f)=true
 kp:i_ K (.ref C)=true
theorem Dn{l:Zd}{σ:St}{H:Hp}{s:Shared}{Q:VK}{g:Zf}{n:List V}(M:Mk X.K C f)(F:kY X.prog X.w X.K X.mg X.base CX k f fd ps sp)(z:d9 (k+1) X.A)(B:Binds X.K fd ps ds)(D:aZ dvs ds)
  (G:mP CX X E) (I:Inv X l σ H s) (r:aZ n g)
  (h:∀x i,H x=none->H i=none->i≠x->sp (.ref x::(n++dvs)) (upd (upd H i (.own x)) x (.ins C i [])) (fun v J=>v=.non/\Q (.ref x) J) E) :
  wpAny (model X.prog X.w) X.A (call (.ref C) g) (EP X l σ Q) X.xe s:=by
 have q:=h (s.heap.objs.size+1) s.heap.objs.size (I.hok.fresh (pH _)) (I.hok.fresh (aB _)) (cQ (wN _));have j:=Inv.made (C:=C) I;have y:aZ (V.ref (s.heap.objs.size+1)::(n++dvs)) (Value.ref (s.heap.objs.size+1)::(g++ds)):=.cons rfl (r.append D);have L:(Value.ref (s.heap.objs.size+1)::g++ds).length=ps.length:=by
  have e:=y.length;rw[F.len _ _ _ _ q]at e;exact e.symm
 refine wpAny_call (DS (f:=f) I.kIn M.makes M.init (beq_iff_eq.mp M.fn) (AC (F.run _ X.stack _ _ ⟨Value.ref (s.heap.objs.size+1)::g,[]⟩ (Value.ref (s.heap.objs.size+1)::(g++ds)) _ _ E (z.make C g [])
  (j.env0.make C g []) (B _ (Value.ref (s.heap.objs.size+1)::g) j.kIn L) y q) fun r N a=>?_))
 cases r with
 |error e=>exact G l σ _ _ e N j a
 |ok O =>
  cases O with
  |ret u =>
   obtain⟨v,T,U,Y,ev,q3⟩:=j.after a;subst ev;exact⟨Y,⟨V.ref (s.heap.objs.size+1),T,U,rfl,q3⟩⟩
  |next=>exact jb a
  |brk=>exact jb a
  |cont=>exact jb a
theorem Fu(M:Mk X.K C f)(F:kY X.prog X.w X.K X.mg X.base CX k f fd ps sp)(j:d9 (k+1) X.A)(l:Gl X x)(n:X.mg x=some (.ref C))(u:Binds X.K fd ps ds)(v:aZ dvs ds)(y:mP CX X E)
  (z:PA X (e::es) t) (a:(x==("__debug__":Str))=false:=by decide) (B:aK (e::es) X.env=(false,eval e X.env)::aK es X.env:=by rfl) (g:(backTo pos (aK es X.env)).any (·.1)=false:=by rfl) :
  PE X (.Call (.Name x p) (e::es) [] pos) (Dh C sp dvs E t):=by
 intro D s σ H Q I h;refine AB (v5 I l n ?_ a);refine PySem.W.callWith_K (h₀:=X.base) I.ok.mod.kin M.kp (cF (z pos D s σ H _ I h) fun G J ⟨L,N,i,r,q⟩=>⟨i.kIn,?_⟩) B g;exact Dn M F j u v y i r q
end
structure jU(N P:Zb)(sc:Scope):Prop where
 kind:sc.kind=.function
 co:sc.isCoroutine=false
 gen:sc.isGenerator=false
 nd:N.Nodup
 pre:N.take P.length=P
 par:∀x∈P,sc.names.lookup x=some .local∨sc.names.lookup x=some .cell
 nofree:∀y∈sc.names,y.2≠.free
theorem uS{kindOf:Str->Option i8}{x:Str}:∀{binds:List (Str×Value)}{m:Str->Option Value},(∀v,(x,v)∉binds)->bindL kindOf binds m x=m x
 |[],_,_=>rfl
 | (n,v)::r,m,h=>by
  unfold bindL;rw[uS fun w a=>h w (eI _ a)];split
  ·have:x≠n:=by rintro rfl;exact h v du
   simp[this]
  ·rfl
theorem uU{kindOf:Str->Option i8}{x:Str}:∀{binds:List (Str×Value)}{m:Str->Option Value},(∀v,(x,v)∉binds)->bindC kindOf binds m x=m x
 |[],_,_=>rfl
 | (n,v)::r,m,h=>by
  unfold bindC;rw[uU fun w a=>h w (eI _ a)];split
  ·rfl
  ·have:x≠n:=by rintro rfl;exact h v du
   simp[this]
theorem uT{kindOf:Str->Option i8}{x:Str}{v:Value}:∀{P:Zb}{a:Zf}{i:Nat}{m:Str->Option Value},P.Nodup->P[i]?=some x->a[i]?=some v->kindOf x=some .local ->
  bindL kindOf (P.zip a) m x=some v
 |[],_,_,_,_,h,_,_=>by simp at h
 |_::_,[],_,_,_,_,h,_=>by simp at h
 |p::P,w::a,0,m,g,e,f,j=>by
  simp at e f;subst e;subst f;show bindL kindOf ((p,w)::P.zip a) m p=_;unfold bindL;rw[uS fun v k=>(pG.mp g).1 (List.of_mem_zip k).1,if_pos j];simp
 |p::P,w::a,i+1,m,g,e,f,j=>by
  show bindL kindOf ((p,w)::P.zip a) m x=_;unfold bindL;exact uT (i:=i) (pG.mp g).2 (by simpa using e) (by simpa using f) j
theorem uV{kindOf:Str->Option i8}{x:Str}{v:Value}:∀{P:Zb}{a:Zf}{i:Nat}{m:Str->Option Value},P.Nodup->P[i]?=some x->a[i]?=some v->kindOf x≠some .local ->
  bindC kindOf (P.zip a) m x=some v
 |[],_,_,_,_,h,_,_=>by simp at h
 |_::_,[],_,_,_,_,h,_=>by simp at h
 |p::P,w::a,0,m,g,e,f,j=>by
  simp at e f;subst e;subst f;show bindC kindOf ((p,w)::P.zip a) m p=_;unfold bindC;rw[uU fun v k=>(pG.mp g).1 (List.of_mem_zip k).1,if_neg j];simp
 |p::P,w::a,i+1,m,g,e,f,j=>by
  show bindC kindOf ((p,w)::P.zip a) m x=_;unfold bindC;exact uV (i:=i) (pG.mp g).2 (by simpa using e) (by simpa using f) j
def start(N:Zb)(vs:List V):St:=vs.map some++List.replicate (N.length-vs.length) none
def Ak(CX:C4)(P:bR)(w:World)(K:Za)(mg:Str->Option Value)(base:Heap)(N:Zb)(qual:Str)(scope:Scope)(f:Addr)(cd:Value)(A:Around)(outer:List Env)(s:Shared)(H:Hp)(E:XK):Cx where
 prog:=P
 w:=w
 K:=K
 mg:=mg
 base:=base
 A:=A.deeper (envOfC qual scope s.heap.objs.size f cd)
 N:=N
 s₀:=s
 H₀:=H
 env:=envOfC qual scope s.heap.objs.size f cd
 outer:=outer
 stack:=envOfC qual scope s.heap.objs.size f cd::outer
 ex:=[]
 calm:=true
 fn:=fun _=>true
 pn:=[]
 xe:=fun e s'=>wpAny (model P w) (A.deeper (envOfC qual scope s.heap.objs.size f cd)) (leaving (envOfC qual scope s.heap.objs.size f cd) e) (fun _ s''=>CX outer H s E e s'') (fun e' s''=>CX outer H s E e' s'') s'
theorem yq{a:Scope}{n:Nat}{x:Str}(h:a.names.lookup x=some .cell):∃c,(cellsFrom n a.names []).lookup x=some c:=by
 have q:=PySem.W.cellsFrom_some a.names n [] (.inl h);exact AA.mp q
theorem Cu{M:C4}{P:bR}{w:World}{K:Za}{J:Str->Option Value}{base:Heap}{N m:Zb}{g:Str}{scope:Scope}{f:Addr}{D:Value}{A:Around}{outer:List Env}{s O:Shared}{H:Hp}{E:XK}{L:Zf}{o:List V}
  (S:jU N m scope) (U:A.handled=none) (l:Ay P w K J base A outer s H) (hl:o.length=m.length) (r:aZ o L)
  (x:InCallC s s.heap.objs.size (bindL (envOfC g scope s.heap.objs.size f D).kindOf (m.zip L) fun _=>none) (cellsFrom (s.heap.objs.size+1) scope.names []) (bindC (envOfC g scope s.heap.objs.size f D).kindOf (m.zip L) fun _=>none) O) :
  Inv (Ak M P w K J base N g scope f D A outer s H E) [] (start N o) H O:=by
 have Y:m.length<=N.length:=by have:=congrArg List.length S.pre;rw[aQ]at this;omega
 obtain⟨G,tk,rfl,Q⟩:=x.done;have t:∀b:Addr,b∉(Ak M P w K J base N g scope f D A outer s H E).ex:=fun b z=>absurd (show b∈([]:Ze)from z) (by simp);refine⟨⟨l.mod,S.kind,rfl,rfl,aB _,fun y z c G j=>?_,fun y hy=>?_,fun y c _ h=>?_,fun _=>U,Around.frames_deeper l.frames,.inr ⟨rfl,rfl⟩,fun b z=>absurd z (t b),l.bs,l.bsz,fun b _ _=>t b,fun b z=>absurd z (t b),l.funs,l.frf⟩,
  rfl,l.bare,Un.kept Q,⟨_,x.toInCall.ns,fun i y v G j h3=>?_⟩,fun y c h=>⟨_,x.cell y c h⟩,l.hok.fresh (aB _),fun y c h=>?_,fun p B=>absurd (show p∈([]:Zd)from B) (by simp),l.hok.kept Q,?_⟩
 ·exact name_of_addr x.apart (wM G) (wM j)
 ·have hy:scope.names.lookup y=some .cell∨scope.names.lookup y=some .free:=hy;rcases hy with hy|hy
  ·exact yq hy
  ·exact absurd rfl (S.nofree _ (wM hy))
 ·exact cN (x.above y c (wM h))
 ·have I:i<o.length:=by
   unfold start at j;by_cases I:i<o.length
   ·exact I
   ·rw[m9 (by simpa using I)]at j;rw[List.getElem?_replicate]at j;split at j<;>cases j
  have ha:o[i]?=some v:=by
   unfold start at j;rw[wL (by simpa using I),eZ]at j;cases e:o[i]? with
   |none=>rw[e]at j;cases j
   |some a=>rw[e]at j;cases j;rfl
  obtain⟨u,T,rv⟩:=r.get ha;have B:m[i]?=some y:=by
   rw[<-S.pre,List.getElem?_take_of_lt (by omega)];exact G
  have C:m.Nodup:=by rw[<-S.pre];exact S.nd.sublist (List.take_sublist _ _)
  refine⟨u,rv,?_⟩;rcases S.par y (cw B)with k|k
  ·exact .inl ⟨k,uT C B T k⟩
  ·obtain⟨c,e⟩:=yq (n:=s.heap.objs.size+1) k;refine .inr ⟨.inl k,c,e,?_⟩;have q:=x.cell y c e;rw[uV C B T (by show scope.names.lookup y≠_;rw[k];decide)]at q;exact q
 ·exact l.hok.fresh (cN (x.above y c (wM h)))
 ·unfold start;show _=N.length;rw[aF,ak,List.length_replicate];omega
theorem HD{D:C4}{P:bR}{w:World}{K:Za}{G:Str->Option Value}{base:Heap}{k:Nat}{f:Addr}{name a:Str}{params:Arguments}{h:List Stmt}{scope:Scope}{dV kV doc pm g ct oc:Value}{an od:Option Addr}
  {L:Array (Option Value)}{N ps:Zb}{M:Sp}(lk:K.lookup f=some ⟨oc,od,.func (hC name a params h scope dV kV doc pm an g ct),L⟩) (O:mo K g a=true) (S:jU N ps scope)
  (len:∀i H Q E,M i H Q E->i.length=ps.length)
  (j:∀(A:Around) (outer:List Env) (s:Shared) (H:Hp) (i:List V) (Q:VK) (E:XK),d9 k (A.deeper (envOfC a scope s.heap.objs.size f g))->M i H Q E ->
   ∃t,yN (Ak D P w K G base N a scope f g A outer s H E) h t/\t (bq Q) (start N i) H) :
  kY P w K G base D (k+1) f (hC name a params h scope dV kV doc pm an g ct) ps M:=by
 refine⟨len,fun A outer s H args us i Q E T z hb r B=>?_⟩;have hl:=len _ _ _ _ B;have KX:K.In s.heap:=z.mod.kin.keeps fun b o e=>(z.bs b o e).1;have U:s.heap.NoLimit:=z.mod.nolimit.keeps fun b o e=>(z.bs b o e).1;have l:∀y∈ps.zip us,scope.names.lookup y.1=some .local∨(scope.names.lookup y.1=some .cell/\((cellsFrom (s.heap.objs.size+1) scope.names []).lookup y.1).isSome=true):=fun⟨n,v⟩ hy=>by
  rcases S.par n (List.of_mem_zip hy).1 with q|q
  ·exact .inl q
  ·exact .inr ⟨q,PySem.W.cellsFrom_some _ _ _ (.inl q)⟩
 refine codeAny_call_function T.depth (KX _ _ lk) rfl S.co S.gen rfl (PySem.W.codeRec_of KX O) (hb _ _ _ _ ?_);refine wpAny_newFunctionEnv_cells S.kind l fun al he s1 x=>?_;subst he;refine⟨U.keeps x.toInCall.keep,codeAny_func ?_⟩;obtain⟨t,ht,hq⟩:=j A outer s H i Q E (T.deeper _) B;have I:Inv (Ak D P w K G base N a scope f g A outer s H E) [] (start N i) H s1:=Cu S T.hd z hl r x;refine nn (ht [] s1 (start N i) H _ I hq) (fun fl Y m=>?_) fun e Y m=>m;have C:∀{σ':St}{p:Hp}{v:V}{u:Value},Inv (Ak D P w K G base N a scope f g A outer s H E) [] σ' p Y->RelV v u->Q v p->CE outer P w K H s Q u Y :=
  fun{σ' p v u} J rv q=>⟨v,p,J.os,J.bare,J.base,J.hok,rv,q⟩
 cases fl with
 |ret u =>
  obtain⟨v,σ',p,J,rv,q⟩:=m;exact C J rv q
 |next =>
  obtain⟨σ',p,J,q⟩:=m;exact C (v:=V.non) (u:=Value.none) J rfl q
 |brk =>
  obtain⟨_,_,_,q⟩:=m;exact jb q
 |cont =>
  obtain⟨_,_,_,q⟩:=m;exact jb q
end L2
namespace L2
open PySem PySem.Spec PyProof.Rows
section
variable{X:Cx}{x:Str}{p pos:Pos}{e:Expr}{es:List Expr}{t:TA}{id T:String}{r:List V->Hp->VK->Prop}
def dJ(r:List V->Hp->VK->Prop)(t:TA):TE:=fun σ H Q=>t σ H fun vs H1=>r vs H1 Q
theorem xM(i:eM X (.builtin id) r)(j:Gl X x)(k:X.mg x=none)(l:jc x=some (.builtin id))(m:PA X (e::es) t)(n:x≠"__name__":=by decide)(a:(x==("__debug__":Str))=false:=by decide)
  (o:aK (e::es) X.env=(false,eval e X.env)::aK es X.env:=by rfl) (f:(backTo pos (aK es X.env)).any (·.1)=false:=by rfl):PE X (.Call (.Name x p) (e::es) [] pos) (dJ r t):=by
 intro g s σ H Q I h;refine AB (mJ I j k l ?_ n a);exact PyProof.Rows.callWith_builtin1 (cF (m pos g s σ H _ I h) fun q u ⟨v,w,y,z,A⟩=>i g u σ w v q Q y z A) o f
theorem gV(i:eM X (.type T) r)(j:Gl X x)(k:X.mg x=none)(l:jc x=some (.type T))(m:PA X (e::es) t)(n:x≠"__name__":=by decide)(a:(x==("__debug__":Str))=false:=by decide)
  (o:aK (e::es) X.env=(false,eval e X.env)::aK es X.env:=by rfl) (f:(backTo pos (aK es X.env)).any (·.1)=false:=by rfl):PE X (.Call (.Name x p) (e::es) [] pos) (dJ r t):=by
 intro g s σ H Q I h;refine AB (mJ I j k l ?_ n a);exact wS (cF (m pos g s σ H _ I h) fun q u ⟨v,w,y,z,A⟩=>i g u σ w v q Q y z A) o f
end
end L2
namespace HT
open PySem PyProof.Rows
section
variable{prog:bR}{w:World}{A:Around}{E:Zc}{s:Shared}
theorem cat_tup{t b:Addr}{g a:Zf}{Q:Zc}(z:IsTup s.heap t g.toArray)(B:IsTup s.heap b a.toArray)(p:g≠[])
  (C:a=[]->Q (.ref t) s) (D:a≠[]->Q (.ref s.heap.objs.size) { s with heap:=s.heap.push { cls:=.type "tuple",data:=.seq (g++a).toArray } })
  (o:g.length+a.length<=ah):wpAny (model prog w) A (j6 .Add (.ref t) (.ref b)) Q E s:=by
 obtain⟨⟨cls,q,data,r⟩,l,u,n,v⟩:=id z;obtain⟨⟨x,h,data2,i⟩,f,j,y,k⟩:=id B;simp only at u v j k;subst u v j k;have e:g.toArray++a.toArray=(g++a).toArray:=by simp
 by_cases m:a=[]
 ·exact concat_meets ⟨_,l,rfl⟩ ⟨_,f,rfl⟩ noFill_tuple_add seq_tuple_add PySem.F.slot_tuple_add PySem.F.entry_tuple_add (PySem.F.args_tuple_add_2 _ _)
   (tuple_addW1 t b g.toArray a.toArray n y q h r i (by simpa using p) (by simp[m])) ⟨l,f,C m⟩
 ·refine concat_meets ⟨_,l,rfl⟩ ⟨_,f,rfl⟩ noFill_tuple_add seq_tuple_add PySem.F.slot_tuple_add PySem.F.entry_tuple_add (PySem.F.args_tuple_add_2 _ _)
   (tuple_addW2 t b g.toArray a.toArray n y q h r i (by simpa using p) (by simpa using m) (by rw[bM,bM];exact o)) ⟨l,f,?_⟩
  rw[e];exact D m
def sIx(n d:Nat):Option Int->Nat
 |none=>d
 |some v=>if v<0 then(v+(n:Int)).toNat else min v.toNat n
theorem sIx_none(n d:Nat):sIx n d none=d:=rfl
theorem sIx_nat(n d k:Nat):sIx n d (some (k:Int))=min k n:=by
 show(if(k:Int)<0 then((k:Int)+(n:Int)).toNat else min (k:Int).toNat n)=min k n
 rw[if_neg (by omega),vh]
theorem sIx_le(n d:Nat)(e:d<=n)(o:Option Int):sIx n d o<=n:=by
 cases o with
 |none=>exact e
 |some v =>
  show(if v<0 then(v+(n:Int)).toNat else min v.toNat n)<=n
  by_cases a:v<0
  ·rw[if_pos a];omega
  ·rw[if_neg a];exact Nat.min_le_right _ _
theorem clip_eq(v:Int)(n d:Nat):(if v<0 then max (v+(n:Int)) 0 else min v (n:Int))=((sIx n d (some v):Nat):Int):=by
 show(if v<0 then max (v+(n:Int)) 0 else min v (n:Int))=(((if v<0 then(v+(n:Int)).toNat else min v.toNat n):Nat):Int)
 by_cases a:v<0
 ·simp only[if_pos a];omega
 ·simp only[if_neg a];omega
end
end HT
namespace L2
open PySem PySem.Spec PyProof.Rows
abbrev TO:=St->Hp->(Option Int->Hp->Prop)->Prop
def PO(X:Cx)(e:Option Expr)(t:TO):Prop :=
 ∀(J4:Zd) (s:Shared) (σ:St) (H:Hp) (Q:Option Int->Hp->Prop),Inv X J4 σ H s->t σ H Q ->
  wpAny (model X.prog X.w) X.A (evalPart e X.env) (fun u s'=>∃o H',Inv X J4 σ H' s'/\IsPart u o/\Q o H') X.xe s
def dY:TO:=fun _ H Q=>Q none H
def fD(t:TE):TO:=fun σ H Q=>t σ H fun x H1=>∃i,x=.int i/\Q (some i) H1
section
variable{X:Cx}{e:Expr}{te:TE}{lo hi:Option Expr}{tl th:TO}{pos p2:Pos}
theorem eP:PO X none dY:=by
 intro a s σ H Q I h;rw[evalPart_none];exact cI ⟨none,H,I,.none,h⟩
theorem cM(h:PE X e te):PO X (some e) (fD te):=by
 intro f s σ H Q I g;rw[evalPart_some];refine cF (h f s σ H _ I g) fun u n a=>?_;obtain⟨x,j,k,l,m⟩:=a;obtain⟨i,rfl,q⟩:=m;obtain⟨t,rfl⟩:=l;exact⟨some i,j,k,.int i t,q⟩
def GA(X:Cx)(r:V->Option Int->Option Int->Hp->VK->Prop):Prop :=
 ∀(J4:Zd) (s:Shared) (σ:St) (H:Hp) (x:V) (v vl vu:Value) (lo hi:Option Int) (sl:Addr) (Q:VK),Inv X J4 σ H s->RelV x v->s.heap.IsSliceOf sl vl vu .none->IsPart vl lo->IsPart vu hi->r x lo hi H Q ->
  ∃T id,typeLookup (.type T) "__getitem__"=pure (some (.builtin id))/\s.TypeIs v T/\wpAny (model X.prog X.w) X.A (mn v (.ref sl)) (EP X J4 σ Q) X.xe s
theorem GA.or{r a:V->Option Int->Option Int->Hp->VK->Prop}(h:GA X r)(o:GA X a):GA X (fun x lo hi H Q=>r x lo hi H Q∨a x lo hi H Q):=by
 intro f s σ H x v g i lo hi j Q I k l m n q;rcases q with q|q
 ·exact h f s σ H x v g i lo hi j Q I k l m n q
 ·exact o f s σ H x v g i lo hi j Q I k l m n q
def yL(r:V->Option Int->Option Int->Hp->VK->Prop)(te:TE)(tl th:TO):TE:=fun σ H Q=>te σ H fun x H1=>tl σ H1 fun l H2=>th σ H2 fun u H3=>r x l u H3 Q
theorem cJ{r:V->Option Int->Option Int->Hp->VK->Prop}(m:GA X r)(n:PE X e te)(o:PO X lo tl)(p:PO X hi th):PE X (.Subscript e (.Slice lo hi none p2) pos) (yL r te tl th):=by
 intro g s σ H Q I h;refine Subscript_ (cF (n g s σ H _ I h) fun v t f=>?_);obtain⟨x,y,z,B,C⟩:=f;refine wpAny_Slice (cF (o g t σ y _ z C) fun i D ⟨l,E,G,J,L⟩=>cF (p g D σ E _ G L) fun j a f=>?_);obtain⟨u,k,M,N,O⟩:=f;rw[evalPart_none];refine cI ?_;have U:Inv X g σ k { a with heap:=a.heap.push { cls:=.type "slice",data:=.fields #[i,j,.none] } }:=M.kept (t':=a.toks) fun b ob q=>cC _ q;obtain⟨T,id,Y,ht,hg⟩:=m g { a with heap:=a.heap.push { cls:=.type "slice",data:=.fields #[i,j,.none] } } σ k x v i j l u a.heap.objs.size Q U B (Heap.IsSliceOf.new ..) J N O;show wpAny (model X.prog X.w) X.A (subscriptTail e (.Slice lo hi none p2) v (.ref a.heap.objs.size)) (EP X g σ Q) X.xe { a with heap:=a.heap.push { cls:=.type "slice",data:=.fields #[i,j,.none] } };exact tail_any (ops:=[.ref a.heap.objs.size,v]) ht Y hg (by with_unfolding_all rfl)
def fw(xs:List V)(lo hi:Option Int):List V:=(xs.drop (HT.sIx xs.length 0 lo)).take (HT.sIx xs.length xs.length hi-HT.sIx xs.length 0 lo)
theorem yj(a:List V)(lo hi:Option Int):(fw a lo hi).length<=a.length:=by
 unfold fw;rw[aQ,cB];omega
def Hs(K:Za):R2:=fun x y H Q=>∃a b xs ys,x=.ref a/\y=.ref b/\bt K H a xs/\bt K H b ys/\xs≠[]/\xs.length+ys.length<=ah /\
 (ys=[]->Q (.ref a) H)/\(ys≠[]->∀p,H p=none->Q (.ref p) (upd H p (.tup (xs++ys))))
theorem aZ.nil_iff{a:List V}{f:Zf}(r:aZ a f):f=[]↔a=[]:=by
 cases r with
 |nil=>simp
 |cons _ _=>simp
theorem Fz:lV X (j6 .Add) (Hs X.K):=by
 intro E s σ H x y v u Q I k l h;obtain⟨a,b,m,n,rfl,rfl,p,r,t,i,A,B⟩:=h;cases k;cases l;obtain⟨C,g,D,_⟩:=I.tuple p;obtain⟨j,f,p2,_⟩:=I.tuple r;refine HT.cat_tup D p2 (fun z=>t (g.nil_iff.mp z)) (fun z=>⟨.ref a,H,I,rfl,A (f.nil_iff.mp z)⟩) (fun z=>?_) (by rw[<-g.length,<-f.length];exact i);refine⟨.ref s.heap.objs.size,_,I.laid (t':=s.toks) (o:=.tup (m++n)) (fun b G q=>cC _ q) (aB _) ?_,rfl,B (fun w=>z (f.nil_iff.mpr w)) _ (I.hok.fresh (aB _))⟩;exact⟨by rw[aF];exact i,_,g.append f,IsTup.new _ _⟩
end
end L2
namespace L2
open PySem PySem.Spec PyProof.Rows
def CZ(n:Nat)(i:Int):Option Nat:=if 0<=i then(if i<n then some i.toNat else none)else if -(n:Int)<=i then some (i+n).toNat else none
def ww{α:Type}(xs:List α)(i:Int):Option α:=(CZ xs.length i).bind fun j=>xs[j]?
theorem wb{n:Nat}{i:Int}{j:Nat}(h:CZ n i=some j):vg i n=some j/\j<n/\-(n:Int)<=i/\i<n:=by
 unfold CZ at h;by_cases f:0<=i
 ·rw[if_pos f]at h;by_cases a:i<n
  ·rw[if_pos a]at h;have e:i.toNat=j:=ei h;exact⟨by rw[seqIndex_of f a,e],by omega,by omega,a⟩
  ·rw[if_neg a]at h;cases h
 ·rw[if_neg f]at h;by_cases a:-(n:Int)<=i
  ·rw[if_pos a]at h;have e:(i+n).toNat=j:=ei h;exact⟨by rw[seqIndex_neg (by omega) a,e],by omega,a,by omega⟩
  ·rw[if_neg a]at h;cases h
theorem wv{α:Type}{a:List α}{i:Int}{v:α}(h:ww a i=some v):∃j,vg i a.length=some j/\a[j]?=some v/\j<a.length/\-(a.length:Int)<=i/\i<a.length:=by
 unfold ww at h;cases e:CZ a.length i with
 |none=>rw[e]at h;cases h
 |some j =>
  rw[e]at h;obtain⟨f,g,k,l⟩:=wb e;exact⟨j,f,h,g,k,l⟩
theorem aG{α:Type}{a:List α}{j:Nat}{v:α}(h:a[j]?=some v):ww a (j:Int)=some v:=by
 have f:j<a.length:=(ca.mp h).1;have e:CZ a.length (j:Int)=some j:=by
  unfold CZ;rw[if_pos (by omega),if_pos (by omega)];simp
 unfold ww;rw[e];exact h
theorem sO{α:Type}(a:List α)(v:α):ww (a++[v]) (-1)=some v:=by
 have f:(a++[v]).length=a.length+1:=by simp
 have e:CZ (a++[v]).length (-1)=some a.length:=by
  unfold CZ;rw[f,if_neg (by decide),if_pos (by omega)];congr 1;omega
 unfold ww;rw[e];show(a++[v])[a.length]?=some v;simp
def FV(b:Expr):Prop:=∀o i,vf b false o i=operate [o,i] (mn o i)
def FZ(X:Cx)(r:R2):Prop :=
 ∀(value slice:Expr) (J4:Zd) (s:Shared) (σ:St) (H:Hp) (x y:V) (v u:Value) (Q:VK),Inv X J4 σ H s->RelV x v->RelV y u->r x y H Q ->
  vf slice false v u=operate [v,u] (mn v u)->wpAny (model X.prog X.w) X.A (subscriptTail value slice v u) (EP X J4 σ Q) X.xe s
def MtR(X:Cx)(id:String)(r:V->List V->Hp->VK->Prop):Prop :=
 ∀(J4:Zd) (s:Shared) (σ:St) (H:Hp) (x:V) (xs:List V) (v:Value) (us:Zf) (Q:VK),Inv X J4 σ H s->RelV x v->aZ xs us->r x xs H Q ->
  wpAny (model X.prog X.w) X.A (call (.builtin id) (v::us)) (EP X J4 σ Q) X.xe s
section
variable{X:Cx}{a b:Expr}{ta tb:TE}{pos:Pos}
theorem FZ.or{r e:R2}(h:FZ X r)(k:FZ X e):FZ X (fun x y H Q=>r x y H Q∨e x y H Q):=by
 intro value slice f s σ H x y v u Q I g i q j;rcases q with q|q
 ·exact h value slice f s σ H x y v u Q I g i q j
 ·exact k value slice f s σ H x y v u Q I g i q j
theorem AZ{r:R2}(e:FZ X r)(f:PE X a ta)(g:PE X b tb)(i:FV b):PE X (.Subscript a b pos) (ax r ta tb):=by
 intro j s σ H Q I h;exact Subscript_ (GZ f g I h fun v u k x y l m n o q=>e a b j k σ l x y v u Q m n o q (i _ _))
def cg(K:Za):R2:=fun x y H Q=>∃p xs i v,x=.ref p/\y=.int i/\ay K H p xs/\ww xs i=some v/\Q v H
def bA(K:Za):R2:=fun x y H Q=>∃p xs i v,x=.ref p/\y=.int i/\bt K H p xs/\ww xs i=some v/\Q v H
def Dz:R2:=fun x y H Q=>∃z i c,x=.str z/\y=.int i/\z.length<=ah/\ww z.cps.toList i=some c/\Q (.str ⟨#[c]⟩) H
theorem Bg:FZ X (cg X.K):=by
 intro value slice n s σ H x y v u Q I C D h o;obtain⟨p,T,i,z,rfl,rfl,E,G,q⟩:=h;cases C;obtain⟨t,rfl⟩:=D;obtain⟨g,r,k,U⟩:=I.list E;obtain⟨j,f,J,Y,L,M⟩:=wv G;obtain⟨w,A,l⟩:=r.get J;have N:=r.length;have hn:=pe;have e:EP X n σ Q w s:=⟨z,H,I,l,q⟩;by_cases B:0<=i
 ·have m:i.toNat=j:=by
   rw[seqIndex_of B M]at f;exact ei f
  exact item_listR k.isList B (by omega) (by rw[m];simpa using A) e o
 ·have m:(i+(g.toArray.size:Int)).toNat=j:=by
   rw[seqIndex_neg (by omega) L]at f;rw[bM,<-N];exact ei f
  exact subscriptTail_builtinR (x:=w) k.isList.typeIs slot_list_getitem.lookup
   (wpAny_getItem_list_neg (Q:=fun r O=>r=w/\EP X n σ Q r O) k.isList (by omega) (by rw[bM]<;>omega) (by omega) (by rw[m];simpa using A) ⟨rfl,e⟩) o
theorem DZ:FZ X (bA X.K):=by
 intro value slice g s σ H x y v u Q I l m h n;obtain⟨p,L,i,z,rfl,rfl,o,A,q⟩:=h;cases l;obtain⟨t,rfl⟩:=m;obtain⟨B,r,k,M⟩:=I.tuple o;obtain⟨j,C,D,N,O,T⟩:=wv A;obtain⟨w,E,e⟩:=r.get D;have G:=r.length;have U:=pe;have f:EP X g σ Q w s:=⟨z,H,I,e,q⟩;exact subscriptTail_builtinR (x:=w) k.typeIs slot_tuple_getitem.lookup
  (getItem_tuple (j:=j) (Q:=fun r J=>r=w/\EP X g σ Q r J) k (by omega) (by omega) (by rw[bM,<-G];exact C) (by simpa using E) ⟨rfl,f⟩) n
theorem D0:FZ X Dz:=by
 intro value slice A s σ H x y v u Q I f g h k;obtain⟨z,i,c,rfl,rfl,B,l,q⟩:=h;obtain⟨t,rfl⟩:=f;obtain⟨C,rfl⟩:=g;obtain⟨j,e,m,D,n,o⟩:=wv l;have p:z.cps.toList.length=z.length:=by simp[Str.length]
 rw[p]at e n o;have E:=pe;exact tail_any (typeIs_str s z t) slot_str_getitem.lookup (getItem_str (c:=c) (by
  have r:decide (i < -(2 ^ 63:Int))=false:=zzr0 (by omega);have w:decide (i ≥ 2 ^ 63)=false:=zzr0 (by omega);rw[r,w,Bool.or_false]) (by rw[e];simpa using m) ⟨.str ⟨#[c]⟩,H,I.tok _,⟨_,rfl⟩,q⟩) k
def tT(K:Za):R2:=fun x y H Q=>cg K x y H Q∨bA K x y H Q∨Dz x y H Q
theorem GU:FZ X (tT X.K):=Bg.or (DZ.or D0)
theorem zY(e:Zf)(n j:Nat)(u:Value):rp (·.setIfInBounds j u) { cls:=.type "list",data:=.seq e.toArray n }={ cls:=.type "list",data:=.seq (e.set j u).toArray n }:=by
 simp[rp]
theorem Inv.lst{i:Zd}{σ:St}{H:Hp}{s:Shared}{p:Addr}{g:List V}(I:Inv X i σ H s)(h:H p=some (.lst g)):
  ∃(f:Zf) (n:Nat),aZ g f/\s.heap.get? p=some { cls:=.type "list",data:=.seq f.toArray n }/\g.length<=ah:=by
 obtain⟨z,f,n,r,e⟩:=I.hok p _ h;exact⟨f,n,r,e,z⟩
theorem Inv.lstUpd{l:Zd}{σ:St}{H:Hp}{s:Shared}{p:Addr}{o j:List V}{i g:Zf}{n k:Nat}{f:Obj->Obj}(I:Inv X l σ H s)(h:H p=some (.lst o))
  (v:s.heap.get? p=some { cls:=.type "list",data:=.seq i.toArray n }) (m:f { cls:=.type "list",data:=.seq i.toArray n }={ cls:=.type "list",data:=.seq g.toArray k }) (r:aZ j g) (w:j.length<=ah) (t:Nat) :
  Inv X l σ (upd H p (.lst j)) { s with heap:=s.heap.update p f,toks:=t }:=by
 have e:(s.heap.update p f).get? p=some { cls:=.type "list",data:=.seq g.toArray k }:=by
  rw[Heap.get?_update_self f v (by rw[m]<;>rfl),m]
 refine I.write (x:=p) (e:=p) (by rw[h];trivial) (.inl rfl) (fun b u y q=>(Heap.get?_update_other _ _ (g0 y)).trans q) ⟨_,e⟩ ?_;exact⟨w,g,k,r,e⟩
def pP:V->V->V->Hp->(Hp->Prop)->Prop:=fun o i v H Q=>∃p xs k j,o=.ref p/\i=.int k/\H p=some (.lst xs)/\CZ xs.length k=some j/\Q (upd H p (.lst (xs.set j v)))
theorem jg:HH X pP:=by
 intro B s σ H o i v M N u Q I C D E h;obtain⟨p,G,k,j,rfl,rfl,w,J,q⟩:=h;cases C;obtain⟨t,rfl⟩:=D;obtain⟨e,n,r,g,L⟩:=I.lst w;obtain⟨f,O,x,y⟩:=wb J;have l:=r.length;have T:=pe;have z:Inv X B σ (upd H p (.lst (G.set j v))) { s with heap:=s.heap.update p (rp (·.setIfInBounds j u)) } :=
  I.lstUpd w g (zY e n j u) (r.set E j) (by rw[List.length_set];exact L) s.toks
 by_cases A:0<=k
 ·have m:k.toNat=j:=by
   rw[seqIndex_of A y]at f;exact ei f
  exact PySem.W.ki_setAt g A (by omega) (by rw[bM,<-l];exact y) (by rw[m];exact⟨_,z,q⟩)
 ·have m:(k+(e.toArray.size:Int)).toNat=j:=by
   rw[seqIndex_neg (by omega) x]at f;rw[bM,<-l];exact ei f
  exact PySem.W.ki_setBack g (by omega) (by rw[bM,<-l];exact x) (by omega) (by rw[m];exact⟨_,z,q⟩)
theorem vN(lo e:Option Int)(n:Nat):(mm lo e none n).1=((HT.sIx n 0 lo:Nat):Int)/\(mm lo e none n).2.1=((HT.sIx n n e:Nat):Int)/\(mm lo e none n).2.2=1:=by
 refine⟨?_,?_,rfl⟩
 ·cases lo with
  |none=>simp[mm,HT.sIx]
  |some i =>
   simp only[mm,HT.sIx,Option.getD_none,show(1:Int) > 0 by decide,if_true];by_cases h:i<0
   ·simp only[h,if_true]<;>omega
   ·simp only[h,if_false]<;>omega
 ·cases e with
  |none=>simp[mm,HT.sIx]
  |some i =>
   simp only[mm,HT.sIx,Option.getD_none,show(1:Int) > 0 by decide,if_true];by_cases h:i<0
   ·simp only[h,if_true]<;>omega
   ·simp only[h,if_false]<;>omega
theorem tO(e:Zf)(lo f:Option Int):slicePick e.toArray lo f none=((e.drop (HT.sIx e.length 0 lo)).take (HT.sIx e.length e.length f-HT.sIx e.length 0 lo)).toArray:=by
 obtain⟨g,h,i⟩:=vN lo f e.toArray.size;unfold slicePick;rw[g,h,i];simp only[sliceRange_one,pick_run,bM]<;>rfl
def nQ(K:Za):V->Option Int->Option Int->Hp->VK->Prop:=fun x lo hi H Q=>∃a xs,x=.ref a/\ay K H a xs/\∀p,H p=none->Q (.ref p) (upd H p (.lst (fw xs lo hi)))
theorem eO:GA X (nQ X.K):=by
 intro u s σ H x v w y lo g z Q I j k l m h;obtain⟨a,e,rfl,n,q⟩:=h;cases j;obtain⟨p,r,i,t⟩:=I.list n;have f:=r.length;refine⟨"list",_,slot_list_getitem.lookup,i.isList.typeIs,?_⟩;refine wpAny_getItem_list_slice i.isList k l m .none (by simp) ?_ (by rw[bM]<;>omega);rw[tO,<-f];refine⟨.ref s.heap.objs.size,_,I.laid (t':=s.toks) (o:=.lst (fw e lo g)) (fun b A q=>cC _ q) (aB _) ?_,rfl,q _ (I.hok.fresh (aB _))⟩;exact⟨bm (yj e lo g) t,_,0,(r.drop (HT.sIx e.length 0 lo)).take (HT.sIx e.length e.length g-HT.sIx e.length 0 lo),fy _ rfl⟩
theorem wo:eM X (.builtin "len") (fun k H Q=>∃p f,k=[.ref p]/\(ay X.K H p f∨bt X.K H p f)/\Q (.int f.length) H):=by
 intro n s σ H k o Q I r h;obtain⟨p,f,rfl,hq,q⟩:=h;obtain⟨u,rfl,l⟩:=vals1 r;cases l;have t:=pe;rcases hq with hq|hq
 ·obtain⟨g,i,j,m⟩:=I.list hq;have e:=i.length;exact Calls.call_len_list j.isList (by simp only[bM]<;>omega) ⟨.int f.length,H,I.tok _,⟨s.toks+1,by rw[bM,e]⟩,q⟩
 ·obtain⟨g,i,j,m⟩:=I.tuple hq;have e:=i.length;exact len_tuple j (by simp only[bM]<;>omega) ⟨.int f.length,H,I.tok _,⟨s.toks+1,by rw[bM,e]⟩,q⟩
theorem wn:eM X (.builtin "len") (fun e H Q=>∃z,e=[.str z]/\z.length<=ah/\Q (.int z.length) H):=by
 intro f s σ H e g Q I r h;obtain⟨z,rfl,i,q⟩:=h;obtain⟨u,rfl,t,rfl⟩:=vals1 r;have j:=pe;exact len_str (by omega) ⟨.int z.length,H,I.tok _,⟨_,rfl⟩,q⟩
theorem eM.or{f:Value}{r g:List V->Hp->VK->Prop}(h:eM X f r)(l:eM X f g):eM X f (fun e H Q=>r e H Q∨g e H Q):=by
 intro i s σ H e j Q I k q;rcases q with q|q
 ·exact h i s σ H e j Q I k q
 ·exact l i s σ H e j Q I k q
theorem wm:eM X (.type "list") (fun B H Q=>∃p i,B=[.ref p]/\(ay X.K H p i∨bt X.K H p i)/\∀l,H l=none->Q (.ref l) (upd H l (.lst i))):=by
 intro D s σ H B G Q I r h;obtain⟨p,i,rfl,hq,q⟩:=h;obtain⟨u,rfl,E⟩:=vals1 r;cases E;have m:∀(f:Zf),aZ i f->i.length<=ah->∀(g:Heap) (j:Nat),(∀b C,s.heap.get? b=some C->g.get? b=some C) ->
   g.get? s.heap.objs.size=some { cls:=.type "list",dict:=none,data:=.seq f.toArray j,slots:=#[] }->EP X D σ Q (.ref s.heap.objs.size) { s with heap:=g }:=fun f k t g j kp e =>
  ⟨.ref s.heap.objs.size,_,I.laid (t':=s.toks) kp (aB _) (show cy X.prog X.w X.K _ g _ (.lst i)from⟨t,f,j,k,e⟩),rfl,q _ (I.hok.fresh (aB _))⟩
 rcases hq with hq|hq
 ·obtain⟨f,k,x,t⟩:=I.list hq;have v:=k.length;obtain⟨o,y,z,n,A⟩:=x.isList;exact call_list_seq p (.inl rfl) y z A (fun g j kp e=>m f k t g j kp e) (by simp only[bM]<;>omega)
 ·obtain⟨f,k,x,t⟩:=I.tuple hq;have v:=k.length;obtain⟨o,y,z,n,A⟩:=x;exact call_list_seq p (.inr rfl) y z A (fun g j kp e=>m f k t g j kp e) (by simp only[bM]<;>omega)
theorem iY:eM X (.type "tuple") (fun n H Q=>∃p g,n=[.ref p]/\((ay X.K H p g/\∀l,H l=none->Q (.ref l) (upd H l (.tup g)))∨(bt X.K H p g/\Q (.ref p) H))):=by
 intro t s σ H n B Q I r h;obtain⟨p,g,rfl,h⟩:=h;obtain⟨u,rfl,z⟩:=vals1 r;cases z;rcases h with⟨j,q⟩|⟨j,q⟩
 ·obtain⟨f,k,m,v⟩:=I.list j;have x:=k.length;refine call_tuple_list m.isList (fun i kp=>?_) (by simp only[bM]<;>omega);have y:Inv X t σ H { s with heap:=i }:=I.kept (t':=s.toks) kp;have A:Inv X t σ (upd H i.objs.size (.tup g)) { s with heap:=i.push { cls:=.type "tuple",data:=.seq f.toArray } } :=
   y.laid (t':=s.toks) (fun b o e=>cC _ e) (aB _) (show cy X.prog X.w X.K _ _ _ (.tup g)from⟨v,f,k,IsTup.new _ _⟩)
  exact⟨.ref i.objs.size,_,A,rfl,q _ (y.hok.fresh (aB _))⟩
 ·obtain⟨f,k,m,v⟩:=I.tuple j;exact call_tuple_same m ⟨.ref p,H,I,rfl,q⟩
def tyV(K:Za)(T:String)(x:V)(H:Hp):Prop:=match x with
 |.str _=>T="str"
 |.int _=>T="int"
 |.ref p=>(T="list"/\∃xs,ay K H p xs)∨(T="tuple"/\∃o,K.lookup p=some o/\o.cls=.type "tuple"/\o.dict=none) ∨
   (T="dict"/\((∃kvs,H p=some (.dK kvs))∨∃kvs,H p=some (.dT kvs)))∨(T="set"/\∃S n,H p=some (.set S n))
 |_=>False
theorem C_{q:Zd}{σ:St}{H:Hp}{s:Shared}{T:String}{x:V}{v:Value}(I:Inv X q σ H s)(r:RelV x v)(g:tyV X.K T x H):
  s.TypeIs v T/\∀a,v=.ref a->∃l,s.heap.get? a=some l/\l.dict=none:=by
 cases x with
 |str z =>
  obtain⟨t,rfl⟩:=r;cases(show T="str" from g);exact⟨typeIs_str s z t,fun _ e=>nomatch e⟩
 |int i =>
  obtain⟨t,rfl⟩:=r;cases(show T="int" from g);exact⟨typeIs_int s i t,fun _ e=>nomatch e⟩
 |ref p =>
  cases r;rcases g with⟨rfl,A,u⟩|⟨rfl,o,f,w,h⟩|⟨rfl,f⟩|⟨rfl,S,n,f⟩
  ·obtain⟨y,_,m,_⟩:=I.list u;refine⟨m.isList.typeIs,fun a e=>?_⟩;cases e;obtain⟨o,n,e,c,h,_⟩:=m;exact⟨o,e,h⟩
  ·refine⟨⟨o,I.kIn p o f,w⟩,fun a e=>?_⟩;cases e;exact⟨o,I.kIn _ o f,h⟩
  ·have z:∃o,s.heap.get? p=some o/\o.ExactDict:=by
    rcases f with⟨j,f⟩|⟨j,f⟩
    ·obtain⟨_,_,_,_,o,_,_,e,ex,_⟩:=I.hok p _ f;exact⟨o,e,ex⟩
    ·obtain⟨_,_,_,_,o,_,_,e,ex,_⟩:=I.hok p _ f;exact⟨o,e,ex⟩
   obtain⟨o,e,ex⟩:=z;refine⟨⟨o,e,ex.1⟩,fun a k=>?_⟩;cases k;exact⟨o,e,ex.2.1⟩
  ·obtain⟨o,_,_,_,e,ex,_⟩:=I.hok p _ f;refine⟨⟨o,e,ex.1⟩,fun a k=>?_⟩;cases k;exact⟨o,e,ex.2.1⟩
 |_=>exact jb g
def zj(K:Za)(T:String)(r:V->List V->Hp->VK->Prop)(to:TE):TE:=fun σ H Q=>to σ H fun x H1=>tyV K T x H1/\r x [] H1 Q
def xu(K:Za)(T:String)(r:V->List V->Hp->VK->Prop)(to:TE)(t:TA):TE:=fun σ H Q=>to σ H fun x H1=>tyV K T x H1/\t σ H1 fun xs H2=>r x xs H2 Q
variable{o e:Expr}{es:List Expr}{to:TE}{t:TA}{name:Str}{J6 J5:Pos}{T id:String}{r:V->List V->Hp->VK->Prop}
theorem pb(p:PlainAttrs T)(i:Slot T name id)(j:typeOf (.builtin id)=pure (.type "method_descriptor"))(q:MtR X id r)(u:PE X o to)
  (f:ud o name X.env (eval o X.env)=eval o X.env:=by rfl) (g:(J6.endLine==J5.line)=true:=by rfl):PE X (.Call (.Attribute o name J6) [] [] J5) (zj X.K T r to):=by
 intro l s σ H Q I h;refine wpAny_Call_method0_late f g (cF (u l s σ H _ I h) fun v w k=>?_);obtain⟨x,y,m,n,z,A⟩:=k;obtain⟨B,C⟩:=C_ m n z;exact⟨T,id,p,i,j,B,C,Calls.callWith_builtin rfl (PySem.evalArgs_none (q l w σ y x [] v [] Q m n .nil A))⟩
theorem gJ(w:PlainAttrs T)(j:Slot T name id)(l:typeOf (.builtin id)=pure (.type "method_descriptor"))(y:MtR X id r)(z:PE X o to)(A:PA X (e::es) t)
  (g:ud o name X.env (eval o X.env)=eval o X.env:=by rfl)
  (k:((backTo J5 (aK (e::es) X.env)).all (fun x=>!x.1) && (nc J5 (m_ [] X.env)).all (fun x=>x.1.isSome)
   && decide ((e::es).length+([]:List oO).length+(if([]:List oO).isEmpty then 0 else 1)<30))=true:=by rfl)
  (i:(J6.endLine==J5.line)=true:=by rfl) (B:aK (e::es) X.env=(false,eval e X.env)::aK es X.env:=by rfl) (f:(backTo J5 (aK es X.env)).any (·.1)=false:=by rfl) :
  PE X (.Call (.Attribute o name J6) (e::es) [] J5) (xu X.K T r to t):=by
 intro m s σ H Q I h;refine wpAny_Call_method_late g k i rfl (cF (z m s σ H _ I h) fun v C n=>?_);obtain⟨x,D,p,q,E,G⟩:=n;obtain⟨J,L⟩:=C_ p q E;refine⟨T,id,w,j,l,J,L,?_⟩;have u:=A J5 m C σ D _ p G;rw[B]at u ⊢;refine Calls.callWith_builtin (by show(false || (backTo J5 (aK es X.env)).any (·.1))=false;rw[f]<;>rfl) (Calls.evalArgs_plain ?_);exact cF u fun M N ⟨O,U,Y,r2,q2⟩=>y m N σ U x O v M Q Y q r2 q2
end
end L2
namespace L2
open PySem PySem.Spec PyProof.Rows
def Hd(X:Cx)(id:String)(r:V->List V->Hp->VK->Prop):Prop :=
 ∀(J4:Zd) (s:Shared) (σ:St) (H:Hp) (x:V) (xs:List V) (v:Value) (us:Zf) (Q:VK),Inv X J4 σ H s->RelV x v->aZ xs us->r x xs H Q ->
  wpAny (model X.prog X.w) X.A (call (.builtin id) (v::us)) (EP X J4 σ Q) X.xe s
theorem aZ.one{x:V}{a:Zf}(h:aZ [x] a):∃u,a=[u]/\RelV x u:=by
 cases h with
 |cons r t=>cases t;exact⟨_,rfl,r⟩
theorem aZ.two{x y:V}{a:Zf}(h:aZ [x,y] a):∃u v,a=[u,v]/\RelV x u/\RelV y v:=by
 cases h with
 |cons r t =>
  obtain⟨v,e,q⟩:=aZ.one t;exact⟨_,v,by rw[e],r,q⟩
theorem aZ.zero:∀{a:Zf},aZ [] a->a=[]
 |_,.nil=>rfl
theorem aZ.dropLast{a:List V}{e:Zf}(h:aZ a e):aZ a.dropLast e.dropLast:=by
 induction h with
 |nil=>exact .nil
 |cons r t f =>
  cases t with
  |nil=>exact .nil
  |cons q g=>exact .cons r f
theorem aZ.eraseIdx:∀{a:List V}{e:Zf}(i:Nat),aZ a e->aZ (a.eraseIdx i) (e.eraseIdx i)
 |_,_,_,.nil=>.nil
 |_,_,0,.cons _ t=>t
 |_,_,i+1,.cons r t=>.cons r (aZ.eraseIdx i t)
theorem aZ.reverse{a:List V}{e:Zf}(h:aZ a e):aZ a.reverse e.reverse:=by
 induction h with
 |nil=>exact .nil
 |cons r t f=>rw[oN,oN];exact aZ.append f (.cons r .nil)
theorem Ag{α:Type}(l:List α):l.eraseIdx (l.length-1)=l.dropLast:=by
 induction l with
 |nil=>rfl
 |cons a r f =>
  cases r with
  |nil=>rfl
  |cons b r =>
   have e:(a::b::r).length-1=((b::r).length-1)+1:=by
    have g:(a::b::r).length=r.length+2:=rfl;have h:(b::r).length=r.length+1:=rfl;omega
   rw[e,List.eraseIdx_cons_succ,f]
   all_goals rfl
theorem uA{α:Type}:∀(l:List α) (i:Nat),(l.eraseIdx i).length<=l.length
 |[],_=>aB _
 |_::_,0=>pH _
 |_::r,i+1=>ve (uA r i)
section
variable{X:Cx}{J4:Zd}{σ:St}{H:Hp}{s:Shared}{l b:Addr}{xs ys zs:List V}
theorem Inv.lset{a its':Zf}{n:Nat}{f:Array Value->Array Value}{g:Nat}(I:Inv X J4 σ H s)(h:H l=some (.lst xs))
  (e:s.heap.get? l=some { cls:=.type "list",data:=.seq a.toArray n }) (i:f a.toArray=its'.toArray) (j:aZ ys its') (k:ys.length<=ah) :
  Inv X J4 σ (upd H l (.lst ys)) { s with heap:=s.heap.update l (rp f),toks:=g }:=by
 have q:=PySem.IsL.update e f;rw[i]at q;refine I.write (x:=l) (e:=l) (by rw[h];exact trivial) (.inl rfl) (fun p u m o=>(Heap.get?_update_other s.heap (rp f) (g0 m)).trans o) ⟨_,q⟩ ?_;exact⟨k,its',_,j,q⟩
theorem Inv.lnew{a:Zf}{t':Nat}(I:Inv X J4 σ H s)(e:aZ ys a)(f:ys.length<=ah):
  Inv X J4 σ (upd H s.heap.objs.size (.lst ys)) { s with heap:=s.heap.push { cls:=.type "list",data:=.seq a.toArray },toks:=t' } :=
 I.laid (fun _ _ q=>cC _ q) (aB _) ⟨f,a,0,e,fy _ rfl⟩
theorem Inv.fresh(I:Inv X J4 σ H s):H s.heap.objs.size=none:=I.hok.fresh (aB _)
theorem Inv.lstM(I:Inv X J4 σ H s)(f:H l=some (.lst xs)):xs.length<=ah/\∃(a:Zf) (n:Nat),aZ xs a/\xs.length=a.length/\s.heap.get? l=some { cls:=.type "list",data:=.seq a.toArray n }:=by
 obtain⟨z,a,n,r,e⟩:=I.hok l _ f;exact⟨z,a,n,r,r.length,e⟩
end
section
variable{X:Cx}
def dF:V->List V->Hp->VK->Prop:=fun x vs H Q=>∃l xs y,x=.ref l/\vs=[y]/\H l=some (.lst xs)/\xs.length<ah/\Q .non (upd H l (.lst (xs++[y])))
theorem cj:Hd X "list.append" dF:=by
 intro k s σ H x m v o Q I g i h;obtain⟨l,p,y,rfl,rfl,f,t,q⟩:=h;cases g;obtain⟨u,rfl,j⟩:=i.one;obtain⟨z,a,n,r,w,e⟩:=I.lstM f;refine rj F.slot_list_append ⟨_,e,rfl⟩ F.entry_list_append (F.args_list_append_2 _ _) (PySem.list_append l a.toArray n u (by rw[bM];omega)) ⟨e,?_⟩;refine⟨.non,_,I.lset (its':=a++[u]) f e (by simp) (r.append (.cons j .nil)) ?_,rfl,q⟩;rw[aF,List.length_singleton];omega
def Cf:V->List V->Hp->VK->Prop:=fun x vs H Q=>∃l xs y,x=.ref l/\vs=[]/\H l=some (.lst xs)/\xs[xs.length-1]?=some y/\Q y (upd H l (.lst xs.dropLast))
theorem si:Hd X "list.pop" Cf:=by
 intro w s σ H x A v B Q I j k h;obtain⟨l,C,y,rfl,rfl,i,m,q⟩:=h;cases j;have f:=k.zero;subst f;obtain⟨z,a,n,r,o,e⟩:=I.lstM i;obtain⟨u,p,t⟩:=r.get m;have g:a.toArray[a.toArray.size-1]?=some u:=by
  show a.toArray[a.length-1]?=some u;rw[<-Array.getElem?_toList,<-o];exact p
 refine rj F.slot_list_pop ⟨_,e,rfl⟩ F.entry_list_pop (F.args_list_pop_1 _) (MeetsSeq.list_pop_last l a.toArray n u g (by rw[bM];omega)) ⟨e,?_⟩;refine⟨y,_,I.lset (its':=a.dropLast) i e ?_ r.dropLast ?_,t,q⟩
 ·show a.toArray.eraseIdxIfInBounds (a.toArray.size-1)=a.dropLast.toArray;rw[bM,List.eraseIdxIfInBounds_toArray,Ag]
 ·rw[List.length_dropLast];omega
def Dy:V->List V->Hp->VK->Prop:=fun x vs H Q=>∃l xs i k y,x=.ref l/\vs=[.int i]/\H l=some (.lst xs)/\-(2 ^ 63)<=i/\i<2 ^ 63/\vg i xs.length=some k/\xs[k]?=some y/\Q y (upd H l (.lst (xs.eraseIdx k)))
theorem DR:Hd X "list.pop" Dy:=by
 intro J s σ H x L v M Q I j m h;obtain⟨l,o,i,k,y,rfl,rfl,g,p,A,B,C,q⟩:=h;cases j;obtain⟨u,rfl,D⟩:=m.one;obtain⟨t,rfl⟩:=D;obtain⟨z,a,n,r,E,e⟩:=I.lstM g;obtain⟨w,G,f⟩:=r.get C;refine rj F.slot_list_pop ⟨_,e,rfl⟩ F.entry_list_pop (F.args_list_pop_2 _ _)
  (MeetsSeq.list_pop_at l a.toArray n i t k w (fitsIndex_both p A) (by rw[bM,<-E];exact B) (by rw[<-Array.getElem?_toList];exact G) (by rw[bM];omega)) ⟨e,?_⟩
 refine⟨y,_,I.lset (its':=a.eraseIdx k) g e ?_ (r.eraseIdx k) ?_,f,q⟩
 ·show a.toArray.eraseIdxIfInBounds k=(a.eraseIdx k).toArray;rw[List.eraseIdxIfInBounds_toArray]
 ·have:=uA o k;omega
def xF:V->List V->Hp->VK->Prop:=fun x vs H Q=>∃l xs,x=.ref l/\vs=[]/\H l=some (.lst xs)/\Q .non (upd H l (.lst xs.reverse))
theorem zX:Hd X "list.reverse" xF:=by
 intro k s σ H x m v o Q I i j h;obtain⟨l,p,rfl,rfl,g,q⟩:=h;cases i;have f:=j.zero;subst f;obtain⟨z,a,n,r,t,e⟩:=I.lstM g;refine rj F.slot_list_reverse ⟨_,e,rfl⟩ F.entry_list_reverse (F.args_list_reverse_1 _) (AutoSeq1.list_reverse_list_0 l a.toArray n (by rw[bM];omega)) ⟨e,?_⟩;refine⟨.non,_,I.lset (its':=a.reverse) g e (by simp) r.reverse ?_,rfl,q⟩;rw[oM];omega
def mH:R2:=fun x y H Q=>∃l b xs zs,x=.ref l/\y=.ref b/\H l=some (.lst xs)/\H b=some (.lst zs)/\xs.length+zs.length<=ah/\∀p,H p=none->Q (.ref p) (upd H p (.lst (xs++zs)))
theorem fH:lV X (j6 .Add) mH:=by
 intro t s σ H x y v u Q I g i h;obtain⟨l,b,w,A,rfl,rfl,j,hB,B,q⟩:=h;cases g;cases i;obtain⟨z,f,n,r,C,e⟩:=I.lstM j;obtain⟨D,a,E,k,m,o⟩:=I.lstM hB;refine PySem.P.add_list e o ?_ (by rw[bM,bM];omega);have p:f.toArray++a.toArray=(f++a).toArray:=by simp
 rw[p];exact⟨.ref _,_,I.lnew (t':=s.toks) (r.append k) (by rw[aF];omega),rfl,q _ I.fresh⟩
end
end L2
namespace L2
open PySem PySem.Spec PyProof.Rows
section
variable{κ:Type}[DecidableEq κ]
def cr(kvs:List (κ×V))(k:κ):Option V:=(kvs.find? fun kv=>decide (kv.1=k)).map (·.2)
def di(kvs:List (κ×V))(k:κ)(v:V):List (κ×V) :=
 if(kvs.any fun kv=>decide (kv.1=k))=true then kvs.map (fun kv=>if kv.1=k then(kv.1,v)else kv)else kvs++[(k,v)]
theorem dv{p:κ×V}{r:List (κ×V)}{k:κ}(e:p.1=k):cr (p::r) k=some p.2:=by simp[cr,fB,e]
theorem c8{p:κ×V}{r:List (κ×V)}{k:κ}(e:¬p.1=k):cr (p::r) k=cr r k:=by simp[cr,fB,e]
theorem kq(k:κ):∀a:List (κ×V),(a.any fun f=>decide (f.1=k))=(cr a k).isSome
 |[]=>rfl
 |p::r=>by
  rw[ko];by_cases e:p.1=k
  ·simp only[dv e,zzr1 e,Bool.true_or,Option.isSome_some]
  ·rw[c8 e,zzr0 e,Bool.false_or];exact kq k r
theorem wZ(k j:κ)(y:V):∀a:List (κ×V),cr (a.map fun f=>if f.1=k then(f.1,y)else f) j=(cr a j).map fun x=>if j=k then y else x
 |[]=>rfl
 |p::r=>by
  have g:=wZ k j y r;rw[bu];by_cases h:p.1=k
  ·rw[if_pos h];by_cases e:p.1=j
   ·rw[dv (p:=(p.1,y)) e,dv e,rh,if_pos (e.symm.trans h)]
   ·rw[c8 (p:=(p.1,y)) e,c8 e,g]
  ·rw[if_neg h];by_cases e:p.1=j
   ·rw[dv (p:=p) e,dv e,rh,if_neg (fun z=>h (e.trans z))]
   ·rw[c8 (p:=p) e,c8 e,g]
theorem ug(k j:κ)(y:V):∀a:List (κ×V),cr a k=none->cr (a++[(k,y)]) j=if j=k then some y else cr a j
 |[],_=>by
  by_cases e:k=j
  ·rw[if_pos e.symm];exact dv (p:=(k,y)) e
  ·rw[if_neg (fun z=>e z.symm)];exact c8 (p:=(k,y)) e
 |p::r,f=>by
  rw[List.cons_append];have g:¬p.1=k:=fun z=>by rw[dv z]at f;cases f
  rw[c8 g]at f;have h:=ug k j y r f;by_cases e:p.1=j
  ·rw[dv e,dv e,if_neg (fun z=>g (e.trans z))]
  ·rw[c8 e,c8 e,h]
theorem wY(f:List (κ×V))(k j:κ)(y:V):cr (di f k y) j=if j=k then some y else cr f j:=by
 unfold di;by_cases a:(f.any fun g=>decide (g.1=k))=true
 ·rw[if_pos a,wZ];rw[kq]at a;by_cases e:j=k
  ·obtain⟨x,h⟩:=AA.mp a;rw[if_pos e,e,h,rh,if_pos rfl]
  ·rw[if_neg e];cases cr f j with
   |none=>rfl
   |some x=>rw[rh,if_neg e]
 ·rw[if_neg a];refine ug k j y f ?_;rw[kq]at a;cases q:cr f k with
  |none=>rfl
  |some x=>rw[q]at a;exact(a rfl).elim
theorem kP(a:List (κ×V))(k:κ)(v:V):(di a k v).length<=a.length+1:=by
 unfold di;split
 ·rw[ak];omega
 ·rw[aF,e_,vd];omega
theorem nR{a:List (κ×V)}{k:κ}(v:V)(h:cr a k=none):di a k v=a++[(k,v)]:=by
 unfold di;rw[kq,h];exact if_neg (by decide)
theorem ka.isSome_eq{o:Option V}{u:Option Value}(r:ka o u):o.isSome=u.isSome:=by
 cases o with
 |none=>cases u with
  |none=>rfl
  |some _=>exact(show False from r).elim
 |some _=>cases u with
  |none=>exact(show False from r).elim
  |some _=>rfl
theorem ka.getD{o:Option V}{u:Option Value}{d:V}{a:Value}(r:ka o u)(e:RelV d a):RelV (o.getD d) (u.getD a):=by
 cases o with
 |none=>cases u with
  |none=>exact e
  |some _=>exact(show False from r).elim
 |some _=>cases u with
  |none=>exact(show False from r).elim
  |some _=>exact r
theorem KV.val{a:List (κ×V)}{g:List (κ×Value)}(r:KV a g)(k:κ):ka (cr a k) (ml g k):=by
 unfold KV at r
 induction r with
 |nil=>exact iw
 |@cons p q m qs h t j =>
  obtain⟨i,l⟩:=h;by_cases e:p.1=k
  ·have f:q.1=k:=i.symm.trans e;have b:ml (q::qs) k=some q.2:=by simp[ml,fB,f]
   rw[dv e,b];exact l
  ·have f:¬q.1=k:=fun z=>e (i.trans z);have b:ml (q::qs) k=ml qs k:=by simp[ml,fB,f]
   rw[c8 e,b];exact j
theorem KV.any{a:List (κ×V)}{f:List (κ×Value)}(r:KV a f)(k:κ):(a.any fun e=>decide (e.1=k))=f.any fun e=>decide (e.1=k):=by
 unfold KV at r
 induction r with
 |nil=>rfl
 |cons h t g=>rw[ko,ko,g,h.1]
theorem KV.repl{f:List (κ×V)}{i:List (κ×Value)}(r:KV f i)(k:κ){y:V}{u:Value}(j:RelV y u):
  KV (f.map fun a=>if a.1=k then(a.1,y)else a) (i.map fun a=>if a.1=k then(a.1,u)else a):=by
 unfold KV at r ⊢
 induction r with
 |nil=>exact .nil
 |@cons p q n qs h t l =>
  rw[bu,bu];refine .cons ?_ l;obtain⟨g,m⟩:=h;by_cases e:p.1=k
  ·rw[if_pos e,if_pos (g.symm.trans e)];exact⟨g,j⟩
  ·rw[if_neg e,if_neg (fun z=>e (g.trans z))];exact⟨g,m⟩
theorem KV.put{a:List (κ×V)}{f:List (κ×Value)}(r:KV a f)(k:κ){y:V}{u:Value}(g:RelV y u):KV (di a k y) (stored f k u):=by
 unfold di stored;rw[r.any k];by_cases e:(f.any fun h=>decide (h.1=k))=true
 ·rw[if_pos e,if_pos e];exact r.repl k g
 ·rw[if_neg e,if_neg e];exact cc r ⟨rfl,g⟩
theorem KV.length{a:List (κ×V)}{e:List (κ×Value)}(r:KV a e):a.length=e.length:=Paired.length r
end
theorem nV{P:bR}{w:World}{k:b0}{u:Value}(r:RelV (kV k) u):(bS P w).is k u=true:=by
 cases k with
 |inl i=>obtain⟨t,e⟩:=(show ∃t,u=Value.int i t from r);subst e;exact xW P w i t
 |inr x=>obtain⟨t,e⟩:=(show ∃t,u=Value.str x t from r);subst e;exact xV P w x t
theorem wa:∀{k:mV}{u:Value},RelV (Gp k) u->ie k u=true
 |none,u,r=>by cases(show u=Value.none from r);rfl
 |some (.inl i),u,r=>by obtain⟨t,rfl⟩:=r;exact lE i t
 |some (.inr x),u,r=>by obtain⟨t,rfl⟩:=r;exact lD x t
abbrev KT(K:Za)(H:Hp):List (TK×V)->List (TK×Addr×Value)->Prop:=Paired fun p q=>p.1=q.1/\yM K H p.1 (.ref q.2.1)/\p.1.depth<=8/\RelV p.2 q.2.2
theorem KT.val{K:Za}{H:Hp}{a:List (TK×V)}{g:List (TK×Addr×Value)}(r:KT K H a g)(k:TK):ka (cr a k) ((atKey g k).map (·.2)):=by
 induction r with
 |nil=>exact iw
 |@cons p q m qs h t j =>
  obtain⟨i,_,_,l⟩:=h;by_cases e:p.1=k
  ·have f:q.1=k:=i.symm.trans e;have b:atKey (q::qs) k=some q.2:=by simp[atKey,fB,f]
   rw[dv e,b];exact l
  ·have f:¬q.1=k:=fun z=>e (i.trans z);have b:atKey (q::qs) k=atKey qs k:=by simp[atKey,fB,f]
   rw[c8 e,b];exact j
theorem KT.repl{K:Za}{H:Hp}{a:List (TK×V)}{i:List (TK×Addr×Value)}(r:KT K H a i)(k:TK){y:V}{u:Value}(m:RelV y u):
  KT K H (a.map fun g=>if g.1=k then(g.1,y)else g) (i.map (putAt k u)):=by
 induction r with
 |nil=>exact .nil
 |@cons p q o qs h t n =>
  rw[bu,bu];refine .cons ?_ n;obtain⟨f,j,l⟩:=h;unfold putAt;by_cases e:p.1=k
  ·rw[if_pos e,if_pos (f.symm.trans e)];exact⟨f,j,l.1,m⟩
  ·rw[if_neg e,if_neg (fun z=>e (f.trans z))];exact⟨f,j,l⟩
theorem KT.put{K:Za}{H:Hp}{a:List (TK×V)}{f:List (TK×Addr×Value)}(r:KT K H a f)(k:TK){b:Addr}{y:V}{u:Value}(h:yM K H k (.ref b))(i:k.depth<=8)(g:RelV y u):
  KT K H (di a k y) (storedH f k b u):=by
 have e:(a.any fun j=>decide (j.1=k))=(atKey f k).isSome:=by
  rw[kq,(r.val k).isSome_eq,Option.isSome_map]
 unfold di storedH;rw[e];by_cases q:(atKey f k).isSome=true
 ·rw[if_pos q,if_pos q];exact r.repl k g
 ·rw[if_neg q,if_neg q];exact cc r ⟨rfl,h,i,g⟩
theorem KT.keeps{K:Za}{H a:Hp}{kvs:List (TK×V)}{xs:List (TK×Addr×Value)}(r:KT K H kvs xs)(f:∀b e,H b=some (.tup e)->a b=some (.tup e)):KT K a kvs xs :=
 Paired.mapP r fun _ _ z=>⟨z.1,yM.keeps f 8 z.2.2.1 z.2.1,z.2.2⟩
section
variable{P:bR}{w:World}{K:Za}{H:Hp}{h:Heap}{a:Addr}
theorem Ge{u:HO}(ok:lZ P w K H h)(e:Rd H a u):cy P w K H h a u:=e.ok ok
theorem oh{f:List (b0×V)}(ok:lZ P w K H h)(e:Rd H a (.dK f)):f.length<=ah/\(a==iy)=false/\∃g,KV f g/\h.DictOf (bS P w) a g :=
 show cy P w K H h a (.dK f)from Ge ok e
theorem Gv{f:List (b0×V)}(ok:lZ P w K H h)(e:H a=some (.dK f)):f.length<=ah/\(a==iy)=false/\∃g,KV f g/\h.DictOf (bS P w) a g:=oh ok (.inl e)
theorem GD(ok:lZ P w K H h)(kin:K.In h):∀(d:Nat) {k:TK}{v:V}{u:Value},k.depth<=d->yM K H k v->RelV v u->lT h k u:=by
 have z:∀(d:Nat) (x:∀{k:TK}{v:V}{u:Value},k.depth<=d->yM K H k v->RelV v u->lT h k u) (i:List TK) (j:List V) (y:Zf),TK.depths i<=d->TKCs K H i j->aZ j y->TAts h i y:=by
  intro d x i
  induction i with
  |nil =>
   intro j y _ g r;have e:j=[]:=g;subst e;cases r
   rfl
  |cons k i A =>
   intro j y m g r;obtain⟨v,B,rfl,q,C⟩:=g;cases r with
   |@cons _ u _ s I J =>
    have L:max k.depth (TK.depths i)<=d:=m;exact⟨u,s,rfl,x (by omega) q I,A B s (by omega) C J⟩
 intro d
 induction d with
 |zero =>
  intro k v u m g r;cases k with
  |t l=>exact absurd m (by show ¬(TK.depths l+1<=0);omega)
  |k b =>
   have e:v=Gp b:=g;subst e;exact wa r
 |succ d x =>
  intro k v u m g r;cases k with
  |k b =>
   have e:v=Gp b:=g;subst e;exact wa r
  |t l =>
   obtain⟨b,D,rfl,E,M⟩:=g;cases(show u=Value.ref b from r);obtain⟨f,G,N,q,C,n,O⟩:∃f:List Value,aZ D f/\IsTup h b f.toArray:=by
    rcases E with E|⟨o,f,n,Q,T,U,Y,r⟩
    ·obtain⟨_,f,G,p⟩:=(show cy P w K H h b (.tup D)from ok b _ E);exact⟨f,G,p⟩
    ·exact⟨f.toList,r,o,kin b o Q,T,n,by simpa using U⟩
   exact⟨b,N,f.toArray,n,rfl,q,C,O,by simpa using z d (fun q=>x q) l D f (by have:TK.depths l+1<=d+1:=m;omega) M G⟩
theorem z9{k:TK}(ok:lZ P w K H h)(kin:K.In h)(e:yM K H k (.ref a))(f:k.depth<=8):(fC P w).is h k a:=⟨GD ok kin 8 f e rfl,f⟩
theorem sw{f:List (TK×V)}(ok:lZ P w K H h)(kin:K.In h)(e:Rd H a (.dT f)):f.length<=ah/\(a==iy)=false /\
  ∃g,KT K H f g/\h.DictOfH (fC P w) a g:=by
 obtain⟨z,y,g,r,o,j,k,n,s,u,v,A⟩:=(show cy P w K H h a (.dT f)from Ge ok e);refine⟨z,y,g,r,o,j,k,n,s,u,v,fun x hx=>?_,A⟩;have all:∀{l:List (TK×V)}{m:List (TK×Addr×Value)},KT K H l m->∀x∈m,(fC P w).is h x.1 x.2.1:=by
  intro l m q
  induction q with
  |nil=>intro x hx;exact nomatch hx
  |@cons p q C qs i t B =>
   intro x hx;rcases cx.mp hx with e|hx
   ·subst e;exact z9 ok kin (by rw[<-i.1];exact i.2.1) (by rw[<-i.1];exact i.2.2.1)
   ·exact B x hx
 exact all r x hx
theorem Gs{f:List (TK×V)}(ok:lZ P w K H h)(kin:K.In h)(e:H a=some (.dT f)):f.length<=ah/\(a==iy)=false /\
  ∃g,KT K H f g/\h.DictOfH (fC P w) a g:=sw ok kin (.inl e)
end
mutual
def lS(K:Za)(H:Hp):TK->V->Prop
 |.k a,v=>v=Gp a
 |.t l,v=>∃b xs,v=.ref b/\bt K H b xs/\TKIns K H l xs
def TKIns(K:Za)(H:Hp):List TK->List V->Prop
 |[],vs=>vs=[]
 |k::r,vs=>∃v us,vs=v::us/\lS K H k v/\TKIns K H r us
end
theorem ii.isIn{K:Za}{H:Hp}:∀(d:Nat) {k:TK}{v:V},k.depth<=d->ii H k v->lS K H k v:=by
 have j:∀(d:Nat) (h:∀{k:TK}{v:V},k.depth<=d->ii H k v->lS K H k v) (e:List TK) (i:List V),TK.depths e<=d->TKAts H e i->TKIns K H e i:=by
  intro d h e
  induction e with
  |nil=>intro i _ f;exact f
  |cons x e m =>
   intro i g f;obtain⟨v,p,rfl,n,o⟩:=f;have q:max x.depth (TK.depths e)<=d:=g;exact⟨v,p,rfl,h (by omega) n,m p (by omega) o⟩
 intro d
 induction d with
 |zero =>
  intro k v g f;cases k with
  |t l=>exact absurd g (by show ¬(TK.depths l+1<=0);omega)
  |k a=>exact f
 |succ d h =>
  intro k v g f;cases k with
  |k a=>exact f
  |t l =>
   obtain⟨b,e,rfl,r,s⟩:=f;exact⟨b,e,rfl,bt.of r,j d (fun u=>h u) l e (by have:TK.depths l+1<=d+1:=g;omega) s⟩
theorem EX{X:Cx}{z:Zd}{σ:St}{H:Hp}{s:Shared}(I:Inv X z σ H s):∀(d:Nat) {k:TK}{v:V}{u:Value},k.depth<=d->lS X.K H k v->RelV v u->lT s.heap k u:=by
 have q:∀(d:Nat) (o:∀{k:TK}{v:V}{u:Value},k.depth<=d->lS X.K H k v->RelV v u->lT s.heap k u) (f:List TK) (g:List V) (p:Zf),TK.depths f<=d->TKIns X.K H f g->aZ g p->TAts s.heap f p:=by
  intro d o f
  induction f with
  |nil =>
   intro g p _ a r;have e:g=[]:=a;subst e;cases r
   rfl
  |cons k f w =>
   intro g p h a r;obtain⟨v,x,rfl,i,y⟩:=a;cases r with
   |@cons _ u _ j A B =>
    have C:max k.depth (TK.depths f)<=d:=h;exact⟨u,j,rfl,o (by omega) i A,w x j (by omega) y B⟩
 intro d
 induction d with
 |zero =>
  intro k v u h a r;cases k with
  |t l=>exact absurd h (by show ¬(TK.depths l+1<=0);omega)
  |k b =>
   have e:v=Gp b:=a;subst e;exact wa r
 |succ d o =>
  intro k v u h a r;cases k with
  |k b =>
   have e:v=Gp b:=a;subst e;exact wa r
  |t l =>
   obtain⟨b,D,rfl,E,G⟩:=a;cases(show u=Value.ref b from r);obtain⟨m,J,⟨L,i,y,n,M⟩,_⟩:=I.tuple E;exact⟨b,L,m.toArray,n,rfl,i,y,M,by simpa using q d (fun i=>o i) l D m (by have:TK.depths l+1<=d+1:=h;omega) G J⟩
theorem v_{X:Cx}{f:Zd}{σ:St}{H:Hp}{s:Shared}{k:TK}{b:Addr}(I:Inv X f σ H s)(e:lS X.K H k (.ref b))(a:k.depth<=8):(fC X.prog X.w).is s.heap k b:=⟨EX I 8 a e rfl,a⟩
theorem gU{P:bR}{w:World}{A:Around}(a:A.units+16<cLine):(fC P w).room A.in1:=by
 show A.units+1+8<cLine;omega
def wI(K:Za)(H:Hp)(a:Addr)(y:V)(r:Option V):Prop :=
 (∃kvs k,Rd H a (.dK kvs)/\y=kV k/\r=cr kvs k)∨∃kvs k b,Rd H a (.dT kvs)/\y=.ref b/\lS K H k (.ref b)/\k.depth<=8/\r=cr kvs k
def HL(H:Hp)(a:Addr)(y v:V)(H':Hp):Prop :=
 (∃kvs k,H a=some (.dK kvs)/\y=kV k/\kvs.length<ah/\H'=upd H a (.dK (di kvs k v))) ∨
 ∃kvs k b,H a=some (.dT kvs)/\y=.ref b/\ii H k (.ref b)/\k.depth<=8/\kvs.length<ah/\H'=upd H a (.dT (di kvs k v))
section
variable{X:Cx}{J4:Zd}{σ:St}{H:Hp}{s:Shared}{a:Addr}{y v:V}{u r:Value}{o:Option V}{A:Around}{E:Zc}
theorem Inv.big(I:Inv X J4 σ H s):iy<s.heap.objs.size:=by
 have h:bO<s.heap.objs.size:=(I.mod.glob.keeps I.bk).lt;exact Nat.lt_trans (by decide) h
theorem CF{Q:Zc}(D:A.units+16<cLine)(I:Inv X J4 σ H s)(g:wI X.K H a y (some v))(B:RelV y u)(h:∀j C,Inv X J4 σ H C->RelV v j->Q j C):
  wpAny (model X.prog X.w) A (mn (.ref a) u) Q E s:=by
 rcases g with⟨m,k,e,n,l⟩|⟨m,k,b,e,n,G,J,l⟩
 ·subst n;obtain⟨z,L,M,f,q⟩:=oh I.hok e;obtain⟨j,t,i⟩:=ka.some_of (v:=v) (o:=ml M k) (by rw[l];exact f.val k);exact wpAny_getItem_of (nV B) q.mapOf t (h j _ (I.tok _) i)
 ·subst n;cases(show u=Value.ref b from B);obtain⟨z,L,N,f,q⟩:=sw I.hok I.kIn e;obtain⟨j,t,i⟩:=ka.some_of (v:=v) (o:=(atKey N k).map (·.2)) (by rw[l];exact f.val k);obtain⟨p,O,x⟩:=Option.map_eq_some_iff.mp t;refine wpAny_getItem_heap (gU D) (v_ I G J) q O ?_;rw[x];exact h j _ (I.tok _) i
theorem d_in{Q:Zc}(t:A.units+16<cLine)(I:Inv X J4 σ H s)(g:wI X.K H a y o)(n:RelV y u)(h:∀p,Inv X J4 σ H p->Q (.bool o.isSome) p):
  wpAny (model X.prog X.w) A (eh .In u (.ref a)) Q E s:=by
 rcases g with⟨i,k,e,j,l⟩|⟨i,k,b,e,j,x,B,l⟩
 ·subst j;obtain⟨z,hd,C,f,m⟩:=oh I.hok e;refine wpAny_in_of (nV n) hd m.mapOf ?_;rw[<-(f.val k).isSome_eq,<-l];exact h _ (I.tok _)
 ·subst j;cases(show u=Value.ref b from n);obtain⟨z,hd,D,f,m⟩:=sw I.hok I.kIn e;refine wpAny_in_heap (gU t) (v_ I x B) hd m ?_;have q:=(f.val k).isSome_eq;rw[Option.isSome_map]at q;rw[<-q,<-l];exact h _ (I.tok _)
theorem FO{Q:Zc}(t:A.units+16<cLine)(I:Inv X J4 σ H s)(g:wI X.K H a y o)(n:RelV y u)(h:∀p,Inv X J4 σ H p->Q (.bool (!o.isSome)) p):
  wpAny (model X.prog X.w) A (eh .NotIn u (.ref a)) Q E s:=by
 rcases g with⟨i,k,e,j,l⟩|⟨i,k,b,e,j,x,B,l⟩
 ·subst j;obtain⟨z,hd,C,f,m⟩:=oh I.hok e;refine wpAny_notIn_of (nV n) hd m.mapOf ?_;rw[<-(f.val k).isSome_eq,<-l];exact h _ (I.tok _)
 ·subst j;cases(show u=Value.ref b from n);obtain⟨z,hd,D,f,m⟩:=sw I.hok I.kIn e;refine wpAny_notIn_heap (gU t) (v_ I x B) hd m ?_;have q:=(f.val k).isSome_eq;rw[Option.isSome_map]at q;rw[<-q,<-l];exact h _ (I.tok _)
theorem qI{f:Heap}{g:Nat}{ob:HO}(I:Inv X J4 σ H s)(h:HJ (H a))(i:ix a s.heap f)(j:∃q,f.get? a=some q)(new:cy X.prog X.w X.K (upd H a ob) f a ob):
  Inv X J4 σ (upd H a ob) { s with heap:=f,toks:=g } :=
 I.write (x:=a) (e:=a) h (.inl rfl) (fun b q k z=>(i.2 b k).trans z) j new
theorem Ah{P:bR}{w:World}{K:Za}{i:Hp}{h:Heap}{e:List (b0×V)}{f:List (b0×Value)}(z:e.length<=ah)(j:(a==iy)=false)(g:KV e f)(k:h.DictOf (bS P w) a f):
  cy P w K i h a (.dK e):=⟨z,j,f,g,k⟩
theorem CD{J:Hp}{Q:Unit->Shared->Prop}(Y:A.units+16<cLine)(I:Inv X J4 σ H s)(g:HL H a y v J)(L:RelV y u)(M:RelV v r)(h:∀N,Inv X J4 σ J N->Q () N):
  wpAny (model X.prog X.w) A (setItem (.ref a) u r) Q E s:=by
 rcases g with⟨f,k,e,p,l,t⟩|⟨f,k,b,e,p,O,m,l,t⟩
 ·subst p t;obtain⟨z,x,vs,i,B⟩:=Gv I.hok e;have C:vs.length<=ah:=by rw[<-i.length];exact z
  have D:(di f k v).length<=ah:=by have:=kP f k v;omega
  refine wpAny_setItem_pairs (hsz:=C) (nV L) B fun T j G=>h _ ?_;have he:∃q,T.get? a=some q:=let⟨q,_,_,n,_⟩:=j;⟨q,n⟩;exact qI I (by rw[e];exact iw) G he (Ah D x (i.put k M) j)
 ·subst p t;cases(show u=Value.ref b from L);obtain⟨z,x,xs,i,B⟩:=Gs I.hok I.kIn e;have C:xs.length<=ah:=by rw[<-Paired.length i];exact z
  have D:(di f k v).length<=ah:=by have:=kP f k v;omega
  refine wpAny_setItem_heap (hsz:=C) (gU Y) (z9 I.hok I.kIn (ii.c 8 m O) m) B fun T j G=>h _ ?_;obtain⟨q,es,ep,n,h2,h3,h4,_,h5⟩:=j;refine qI I (by rw[e];exact iw) G ⟨q,n⟩ ⟨D,x,_,(i.put k (ii.c 8 m O) m M).keeps fun c ys U=>?_,q,es,ep,n,h2,h3,h4,h5⟩;rw[aj (Gm U e (fun z=>nomatch z))];exact U
end
section
variable{X:Cx}{J4:Zd}{σ:St}{H:Hp}{s:Shared}{a:Addr}{kvs:List (b0×V)}{k:b0}{u:Value}{A:Around}{E:Zc}
theorem HG{Q:Zc}(I:Inv X J4 σ H s)(e:Rd H a (.dK kvs))(h:∀t g,Inv X J4 σ H g->Q (.int kvs.length t) g):wpAny (model X.prog X.w) A (call (.builtin "len") [.ref a]) Q E s:=by
 obtain⟨z,i,l,f,j⟩:=oh I.hok e;refine call_len_dict i j (by rw[<-f.length];rw[ke]at z;omega) ?_;rw[<-f.length];exact h _ _ (I.tok _)
end
def CO(i:Expr):Prop:=∀ov iv,vf i false ov iv=operate [ov,iv] (mn ov iv)
theorem Fa{a:bR}{w:World}{A:Around}{E:Zc}{s:Shared}{k:Env}{value slice:Expr}{p:Pos}{T id:String}{Q:Zc}
  (t:typeLookup (.type T) "__getitem__"=pure (some (.builtin id))) (u:CO slice)
  (h:wpAny (model a w) A (eval value k) (fun o g=>wpAny (model a w) A (eval slice k) (fun i e=>e.TypeIs o T/\wpAny (model a w) A (mn o i) Q E e) E g) E s) :
  wpAny (model a w) A (eval (.Subscript value slice p) k) Q E s:=by
 refine Subscript_ (nn h (fun o g m=>nn m (fun i e f=>?_) fun _ _ x=>x) fun _ _ x=>x);obtain⟨q,f⟩:=f;unfold subscriptTail;refine bp ?_;rw[getitemInPython_of_ne q.not_modules];refine bp (ES q t ?_);have l:wpAny (model a w) A (vf slice false o i) (fun r j=>wpAny (model a w) A (letTemporaryGo value o r >>= fun _=>pure r) Q E j) E e:=by
  rw[u o i];exact wpAny_operating (nn f (fun r j n=>bp (wpAny_letTemporaryGo (cI n))) fun _ _ x=>x)
 first
  |exact cI (bp l)
  |exact bp (cI (bp l))
  |exact bp l
theorem yi{X:Cx}{i:Zd}{σ:St}{H:Hp}{s:Shared}{a:Addr}{y:V}{o:Option V}(I:Inv X i σ H s)(g:wI X.K H a y o):s.TypeIs (.ref a) "dict":=by
 rcases g with⟨f,k,e,_,_⟩|⟨f,k,b,e,_,_,_⟩
 ·obtain⟨_,_,j,_,h⟩:=oh I.hok e;exact h.typeIs
 ·obtain⟨_,_,l,_,h⟩:=sw I.hok I.kIn e;exact h.typeIs
def nF(K:Za)(td ty:TE):TE:=fun σ H Q=>td σ H fun x H1=>ty σ H1 fun y H2=>∃a v,x=.ref a/\wI K H2 a y (some v)/\Q v H2
def Dj(K:Za)(ty td:TE):TE:=fun σ H Q=>ty σ H fun y H1=>td σ H1 fun x H2=>∃a o,x=.ref a/\wI K H2 a y o/\Q (.bl o.isSome) H2
def nE(K:Za)(ty td:TE):TE:=fun σ H Q=>ty σ H fun y H1=>td σ H1 fun x H2=>∃a o,x=.ref a/\wI K H2 a y o/\Q (.bl (!o.isSome)) H2
def md(td ty tv:TE):TS:=fun D σ H=>tv σ H fun v H1=>td σ H1 fun x H2=>ty σ H2 fun y H3=>∃a H4,x=.ref a/\HL H3 a y v H4/\D.nx σ H4
section
variable{X:Cx}{o i e value:Expr}{pos pos' J7:Pos}{td ty tv:TE}
theorem iL(m:X.A.units+16<cLine)(n:PE X o td)(p:PE X i ty)(q:CO i):PE X (.Subscript o i pos) (nF X.K td ty):=by
 intro k s σ H Q I h;refine Fa PySem.F.slot_dict_getitem.lookup q (cF (n k s σ H _ I h) fun u r ⟨x,t,w,z,B⟩=>cF (p k r σ t _ w B) fun J L f=>?_);obtain⟨y,C,l,D,a,v,ex,g,E⟩:=f;subst ex;obtain rfl:u=Value.ref a:=z;exact⟨yi l g,CF m l g D fun M N G j=>⟨v,C,G,j,E⟩⟩
theorem vV(k:X.A.units+16<cLine)(l:PE X i ty)(m:PE X o td):PC X .In i o (Dj X.K ty td):=by
 intro j s σ H Q I h;refine cF (l j s σ H _ I h) fun E n ⟨y,p,q,r,t⟩=>cF (m j n σ p _ q t) fun u G f=>?_;obtain⟨x,v,w,z,a,B,ex,g,C⟩:=f;subst ex;obtain rfl:u=Value.ref a:=z;exact d_in k w g r fun J D=>⟨.bl B.isSome,v,D,rfl,C⟩
theorem lz(k:X.A.units+16<cLine)(l:PE X i ty)(m:PE X o td):PC X .NotIn i o (nE X.K ty td):=by
 intro j s σ H Q I h;refine cF (l j s σ H _ I h) fun E n ⟨y,p,q,r,t⟩=>cF (m j n σ p _ q t) fun u G f=>?_;obtain⟨x,v,w,z,a,B,ex,g,C⟩:=f;subst ex;obtain rfl:u=Value.ref a:=z;exact FO k w g r fun J D=>⟨.bl (!B.isSome),v,D,rfl,C⟩
theorem gR(k:X.A.units+16<cLine)(l:PE X o td)(m:PE X i ty)(n:PE X value tv)(p:qP value (some (.Subscript o i pos')) pos.line X.env=pure false):
  PS X (.Assign [.Subscript o i pos'] value pos) (md td ty tv):=by
 intro f s σ H D I h;refine wpAny_Assign_Subscript (cF (n f s σ H _ I h) fun r q ⟨v,t,w,z,B⟩=>cF (l f q σ t _ w B) fun u C ⟨x,E,G,J,L⟩=>cF (m f C σ E _ G L) fun U Y j=>?_) p;obtain⟨y,H3,M,N,a,O,ex,g,Q⟩:=j;subst ex;obtain rfl:u=Value.ref a:=J;exact CD k M g N z fun s4 T=>⟨σ,O,T,Q⟩
end
theorem yh{P:bR}{w:World}{K:Za}{H:Hp}(h:Heap)(a:iy<h.objs.size):cy P w K H (h.push { cls:=.type "dict",data:=.dict #[] }) h.objs.size (.dK []) :=
 ⟨b_ _,beq_eq_false_iff_ne.mpr (g0 (cQ a)),[],.nil,Heap.DictOf.new h⟩
theorem Ej{P:bR}{w:World}{K:Za}{H:Hp}(h:Heap)(a:iy<h.objs.size):cy P w K H (h.push { cls:=.type "dict",data:=.dict #[] }) h.objs.size (.dT []) :=
 ⟨b_ _,beq_eq_false_iff_ne.mpr (g0 (cQ a)),[],.nil,_,#[],0,fy _ rfl,⟨rfl,rfl,rfl⟩,rfl,rfl,rg⟩
def o6:TE:=fun _ H Q=>∀p,H p=none->Q (.ref p) (upd H p (.dK []))
def zi:TE:=fun _ H Q=>∀p,H p=none->Q (.ref p) (upd H p (.dT []))
section
variable{X:Cx}{pos:Pos}
theorem kM:PE X (.Dict [] [] pos) o6:=fun e s σ H Q I h =>
 wpAny_Dict_empty ⟨.ref s.heap.objs.size,_,I.laid (a:=s.heap.objs.size) (o:=.dK []) (t':=s.toks) (fun _ _ q=>cC _ q) (aB _) (yh s.heap I.big),rfl,h _ (I.hok.fresh (aB _))⟩
theorem xL:PE X (.Dict [] [] pos) zi:=fun e s σ H Q I h =>
 wpAny_Dict_empty ⟨.ref s.heap.objs.size,_,I.laid (a:=s.heap.objs.size) (o:=.dT []) (t':=s.toks) (fun _ _ q=>cC _ q) (aB _) (Ej s.heap I.big),rfl,h _ (I.hok.fresh (aB _))⟩
end
def y4:List (TE×TE)->St->Hp->(List (V×V)->Hp->Prop)->Prop
 |[],_,H,Q=>Q [] H
 | (tk,tv)::r,σ,H,Q=>tk σ H fun x H1=>tv σ H1 fun y H2=>y4 r σ H2 fun ps H3=>Q ((x,y)::ps) H3
abbrev VV:List (V×V)->List (Value×Value)->Prop:=Paired fun p q=>RelV p.1 q.1/\RelV p.2 q.2
def HS(X:Cx)(pos:Pos)(keys:List (Option Expr))(values:List Expr)(trs:List (TE×TE)):Prop :=
 ∀(J4:Zd) (s:Shared) (σ:St) (H:Hp) (Q:List (V×V)->Hp->Prop),Inv X J4 σ H s->y4 trs σ H Q ->
  wpAny (model X.prog X.w) X.A (evalPairs (pairTrees keys values X.env pos)) (fun vs s'=>∃ps H',Inv X J4 σ H' s'/\VV ps vs/\Q ps H') X.xe s
theorem Fp{X:Cx}{a:Pos}:HS X a [] [] []:=fun e s σ H Q I h=>pairTrees_nil_walk ⟨[],H,I,.nil,h⟩
theorem DE{X:Cx}{a:Pos}{k v:Expr}{g:List (Option Expr)}{i:List Expr}{tk j:TE}{trs:List (TE×TE)}(l:PE X k tk)(m:PE X v j)(n:HS X a g i trs):
  HS X a (some k::g) (v::i) ((tk,j)::trs):=fun e s σ H Q I h =>
 pairTrees_cons_walk (cF (l e s σ H _ I h) fun u o ⟨x,p,q,r,t⟩=>cF (m e o σ p _ q t) fun L w ⟨y,z,A,B,C⟩ =>
  cF (n e w σ z _ A C) fun M N ⟨D,E,G,f,J⟩=>⟨(x,y)::D,E,G,.cons ⟨r,B⟩ f,J⟩)
def eC(kvs more:List (b0×V)):List (b0×V):=more.foldl (fun acc kv=>di acc kv.1 kv.2) kvs
theorem KV.merge:∀{a:List (b0×V)}{i:List (b0×Value)}{f:List (b0×V)}{g:List (b0×Value)},KV a i->KV f g->KV (eC f a) (merged g i):=by
 intro a i f g r;unfold KV at r
 induction r generalizing f g with
 |nil=>intro q;exact q
 |@cons p q l qs h t j =>
  intro k;have e:KV (di f p.1 p.2) (stored g q.1 q.2):=by
   have:=k.put p.1 h.2;rw[<-h.1];exact this
  exact j e
theorem iX:∀(e a:List (b0×V)),(eC a e).length<=a.length+e.length
 |[],a=>by show a.length<=a.length+0;omega
 |p::r,a=>by
  have f:=iX r (di a p.1 p.2);have g:=kP a p.1 p.2;show(eC (di a p.1 p.2) r).length<=_;rw[e_];omega
theorem sJ{P:bR}{w:World}:∀{e:List (b0×V)}{g:List (Value×Value)},VV (e.map fun i=>(kV i.1,i.2)) g->∃f,Carries (bS P w) g f/\KV e f
 |[],_,r=>by rw[List.map_nil]at r;cases r;exact⟨[],iw,.nil⟩
 |p::e,_,r=>by
  rw[bu]at r;cases r with
  |@cons a b k bs h t =>
   obtain⟨f,c,q⟩:=sJ (P:=P) (w:=w) t;obtain⟨l,j⟩:=b;exact⟨(p.1,j)::f,⟨nV h.1,rfl,c⟩,.cons ⟨rfl,h.2⟩ q⟩
def F_(trs:List (TE×TE)):TE:=fun σ H Q=>∀p,H p=none->y4 trs σ (upd H p (.dK [])) fun ps H2=>H2 p=some (.dK [])/\∃kvs:List (b0×V),ps=kvs.map (fun kv=>(kV kv.1,kv.2))/\kvs.length<=15/\Q (.ref p) (upd H2 p (.dK (eC [] kvs)))
theorem Fw{X:Cx}{f:Pos}{keys:List (Option Expr)}{values:List Expr}{trs:List (TE×TE)}(h:HS X f keys values trs)(g:keys.all (·.isSome)=true)(p:keys.length=values.length)(r:keys≠[])
  (k:keys.length<=15):PE X (.Dict keys values f) (F_ trs):=by
 intro t s σ H Q I q;have u:=I.hok.fresh (aB s.heap.objs.size);have v:=I.laid (a:=s.heap.objs.size) (o:=.dK []) (h':=s.heap.push { cls:=.type "dict",data:=.dict #[] }) (t':=s.toks) (fun _ _ q=>cC _ q) (aB _) (yh s.heap I.big);refine wpAny_Dict_walk (knd:=bS X.prog X.w) g p r k (cF (h t _ σ _ _ v (q _ u)) fun T U l=>?_);obtain⟨Y,H2,n,m,e,i,x,lk,y⟩:=l;subst x;obtain⟨A,c,B⟩:=sJ (P:=X.prog) (w:=X.w) m;obtain⟨z,C,D,E,G⟩:=Gv n.hok e;cases E;refine⟨A,c,G,fun h' j J=>⟨.ref s.heap.objs.size,_,?_,rfl,y⟩⟩;have L:(eC [] i).length<=ah:=by
  have M:=iX i [];rw[vd]at M;rw[ke];omega
 have N:∃q,h'.get? s.heap.objs.size=some q:=let⟨q,_,_,O,_⟩:=j;⟨q,O⟩;exact qI n (by rw[e];exact iw) J N (Ah L C (B.merge .nil) j)
structure M1(X:Cx)(o:Expr)(m:Str)(J6:Pos)(e:Expr)(J5:Pos):Prop where
 base:ud o m X.env (eval o X.env)=eval o X.env
 few:((backTo J5 (aK [e] X.env)).all (fun x=>!x.1) && (nc J5 (m_ [] X.env)).all (fun x=>x.1.isSome)
  && decide (([e]:List Expr).length+([]:List oO).length+(if([]:List oO).isEmpty then 0 else 1)<30))=true
 line:(J6.endLine==J5.line)=true
 trees:backTo J5 (aK [e] X.env)=[(false,eval e X.env)]
structure M2(X:Cx)(o:Expr)(m:Str)(J6:Pos)(e f:Expr)(J5:Pos):Prop where
 base:ud o m X.env (eval o X.env)=eval o X.env
 few:((backTo J5 (aK [e,f] X.env)).all (fun x=>!x.1) && (nc J5 (m_ [] X.env)).all (fun x=>x.1.isSome)
  && decide (([e,f]:List Expr).length+([]:List oO).length+(if([]:List oO).isEmpty then 0 else 1)<30))=true
 line:(J6.endLine==J5.line)=true
 trees:backTo J5 (aK [e,f] X.env)=[(false,eval e X.env),(false,eval f X.env)]
def IsD(H:Hp)(a:Addr):Prop:=(∃kvs,Rd H a (.dK kvs))∨∃kvs,Rd H a (.dT kvs)
theorem GV{X:Cx}{l:Zd}{σ:St}{H:Hp}{s:Shared}{a:Addr}(I:Inv X l σ H s)(d:IsD H a):
  s.TypeIs (.ref a) "dict"/\(∀b,Value.ref a=.ref b->∃f,s.heap.get? b=some f/\f.dict=none)/\(a==iy)=false:=by
 rcases d with⟨h,e⟩|⟨h,e⟩
 ·obtain⟨_,i,m,_,g⟩:=oh I.hok e;refine⟨g.typeIs,fun b q=>?_,i⟩;cases q;obtain⟨f,_,_,j,k,_⟩:=g;exact⟨f,j,k.2.1⟩
 ·obtain⟨_,i,n,_,g⟩:=sw I.hok I.kIn e;refine⟨g.typeIs,fun b q=>?_,i⟩;cases q;obtain⟨f,_,_,j,k,_⟩:=g;exact⟨f,j,k.2.1⟩
section
variable{X:Cx}{J4:Zd}{σ:St}{H:Hp}{s:Shared}{a:Addr}{y d:V}{u r:Value}{o:Option V}{A:Around}{E:Zc}
theorem GY{Q:Zc}(x:A.units+16<cLine)(I:Inv X J4 σ H s)(g:wI X.K H a y o)(p:RelV y u)(q:RelV d r)(h:∀t v,Inv X J4 σ H v->RelV (o.getD d) t->Q t v):
  wpAny (model X.prog X.w) A (call (.builtin "dict.get") [.ref a,u,r]) Q E s:=by
 rcases g with⟨j,k,e,m,l⟩|⟨j,k,b,e,m,B,C,l⟩
 ·subst m;obtain⟨z,n,G,f,i⟩:=oh I.hok e;refine call_meetsIn PySem.F.slot_dict_get i.typeIs PySem.F.entry_dict_get (PySem.F.args_dict_get_3 _ _ _) (meets_dict_get_default (bS X.prog X.w) a (nV p) n r) ⟨_,i.mapOf,h _ _ (I.tok _) ?_⟩;rw[l];exact(f.val k).getD q
 ·subst m;cases(show u=Value.ref b from p);obtain⟨z,n,D,f,i⟩:=sw I.hok I.kIn e;refine call_meetsIn PySem.F.slot_dict_get i.typeIs PySem.F.entry_dict_get (PySem.F.args_dict_get_3 _ _ _) (meetsH_dict_get_default (fC X.prog X.w) a b n r) ⟨gU x,k,D,v_ I B C,i,h _ _ (I.tok _) ?_⟩;rw[l];exact(f.val k).getD q
end
def vI(K:Za)(td ty tx:TE):TE:=fun σ H Q=>td σ H fun x H1=>∃a,x=.ref a/\IsD H1 a/\ty σ H1 fun y H2=>tx σ H2 fun z H3=>∃o,wI K H3 a y o/\Q (o.getD z) H3
section
variable{X:Cx}{o e f:Expr}{J6 J5:Pos}{td ty tx:TE}
theorem r8(n:X.A.units+16<cLine)(p:PE X o td)(q:PE X e ty)(r:PE X f tx)(m:M2 X o "get" J6 e f J5):PE X (.Call (.Attribute o "get" J6) [e,f] [] J5) (vI X.K td ty tx):=by
 intro i s σ H Q I h;refine wpAny_Call_method m.base m.few m.line PySem.F.plainAttrs_dict PySem.F.slot_dict_get PySem.F.type_dict_get (cF (p i s σ H _ I h) fun u t j=>?_);obtain⟨x,v,l,w,a,ex,d,B⟩:=j;subst ex;obtain rfl:u=Value.ref a:=w;obtain⟨C,D,_⟩:=GV l d;refine⟨C,D,?_⟩;rw[m.trees];refine Calls.callWith_builtin rfl (Calls.evalArgs_plain (Calls.spliced_cons (cF (q i t σ v _ l B) fun iv E ⟨y,G,J,L,M⟩ =>
  Calls.spliced_cons (cF (r i E σ G _ J M) fun fv s3 ⟨z,N,O,T,ov,g,U⟩=>Calls.spliced_nil ?_))))
 exact GY n O g L T fun w' s4 Y k=>⟨_,N,Y,k,U⟩
end
end L2
namespace Att
open PySem PySem.W PySem.Calls PyProof.Rows
theorem ints_of_wellAll{P:Params}{h:Heap}:∀(e:List Int) (vs:Zf),WellAll P h vs (e.map WData.int)->rf vs e:=by
 intro e
 induction e with
 |nil =>
  intro vs w;rw[List.map_nil]at w;cases w;exact .nil
 |cons n e f =>
  intro vs w;rw[bu]at w;cases w with
  |cons a b =>
   cases a;exact .cons _ _ (f _ b)
theorem script_of{l:OpenLaw}{n:Nat}(u:l.most=some n){P:Params}{h:Heap}{args:List WData}{f:Zf}
  (g:l.row.toRowW.claim.pre args=true) (o:WellAll P h f args) :
  ∃a s e,f=[Value.ref a]/\args=[WData.list (e.map WData.int)]/\h.get? a=some { cls:=.type "list",data:=.seq s.toArray }/\rf s e/\e.length<=n:=by
 have p:WShape.hasAll [] args [.list .int]=true:=(pre_splitW g).1;have t:l.pre.holds [] { args:=args }=true:=(pre_splitW g).2;obtain⟨d,r,rfl,v,w⟩:=hasAllW_cons p;obtain rfl:=hasAllW_nil w;obtain⟨C,rfl,x⟩:=hasW_list v;obtain⟨e,rfl⟩:=items_int x;have i:e.length<=n:=by
  unfold OpenLaw.pre at t;have k:(WTm.not (.lt (.lit (.int (n:Int))) (.len (.arg 0)))).holds [] { args:=[.list (e.map .int)] }=true:=by
   have k:=(holds_andW t).1;rw[u]at k;exact k
  have m:=condW_of k (w_not (w_lt w_lit (w_len_list (w_arg rfl))));rw[ak]at m;refine Nat.le_of_not_lt fun q=>?_;have y:(n:Int)<((e.length:Nat):Int):=by omega
  first
   | (rw[zzr1 y]at m;exact absurd m (by decide))
   | (simp at m;omega)
 cases o with
 |cons z A =>
  cases A;cases z with
  |list B j=>exact⟨_,_,e,rfl,rfl,B,ints_of_wellAll e _ j,i⟩
theorem post_true(l:OpenLaw)(args:List WData):l.row.toRowW.claim.post args (.bool true) args=true :=
 postW_of (r:=l.row.toRowW) (X:=(true==true))
  (show WShape.has [] (.bool true) .bool=true by first|rfl|decide|simp[WShape.has,WShape.arms,WShape.armsAll])
  (show(WTm.eq .res (.lit (.bool true))).value [] { args:=args,res:=some (.bool true),after:=args }=some (.bool (true==true))from w_eq_bool (w_res rfl) w_lit) rfl
theorem attach_call{l:OpenLaw}{n:Nat}{q:bR}{loose:Zb}{C:(Str->Option Value)->Heap->Prop}{D:World->Heap->Prop}{d:DefRec}
  (J:l.most=some n) (v:d.params.defaults=[])
  (call:∀(w:World) (g e:Shared) (p x:Str->Option Value) (i:Addr) (o:Obj) (y s doc:Value) (a:Addr) (h:Zf) (t:List Int),
   Ground q loose [] C w g p x e.heap->D w e.heap ->
   e.heap.get? i=some o->o.data=.func (docDef d.name d.params d.body d.scope y s doc)->e.heap.CodeRec s d.name->p d.name=some (.ref i) ->
   e.heap.get? a=some { cls:=.type "list",data:=.seq h.toArray }->rf h t->t.length<=n->e.gens=#[] ->
   zzl72 (model l.prog w) kn (.call (.ref i) ⟨[.ref a],[]⟩) (fun r u=>r=.ok (.ret (.bool true))/\OldK e.heap u.heap/\u.os=e.os/\nk u.gens) e) :
  WalkO q loose C D l.row.toRowW d [] (fun f h=>PySem.call f h):=by
 intro w g e p x G Y i o y s doc L kV M N z E A O args H as j I Q B T;obtain rfl:L=.none:=Dflts.none E v;obtain rfl:kV=.none:=Dflts.noKw E;obtain⟨a,h,t,rfl,rfl,k,hints,m⟩:=script_of J j B;refine enter_call (AC (call w g e p x i o y s doc a h t G Y M (fd_plain N) z A k hints m O) fun r u U=>?_);obtain⟨rfl,h2,h3,h4⟩:=U;exact⟨.inl ⟨.bool true,.bool true,[],rfl,fun _=>rfl,.bool true,post_true l _,fun _=>⟨List.Pairwise.nil,fun _ hm=>(nomatch hm)⟩⟩,h2,h3,h4⟩
end Att
namespace L2
open PySem PySem.Spec PyProof.Rows
theorem uf:∀{a:Zf}{e:List Int},rf a e->aZ (e.map V.int) a
 |_,_,.nil=>.nil
 |_,_,.cons n t h=>.cons ⟨t,rfl⟩ (uf h)
def FW(H:Hp):Prop:=∀b,H b=none∨∃o xs,H b=some (.frz o (.lst xs))
theorem DV{P:bR}{w:World}{K:Za}{A T:Str->Option Value}{CX:C4}{k:Nat}{U a:Addr}{fd:j5}{x:Str}{sp:Sp}{f:Shared}{t:Zf}{B:List Int}
  (KX:K.In f.heap) (C:f.heap.Ns bO A) (i:f.heap.Ns builtinsNs T) (Y:∀x:Str,x≠"__name__"->T x=jc x) (D:f.heap.NoLimit) (hg:f.gens=#[])
  (Q:f.heap.get? a=some { cls:=.type "list",data:=.seq t.toArray }) (hi:rf t B) (hl:B.length<=ah) (hr:d9 k kn)
  (F:∀base:Heap,K.In base->base.Ns bO A->kY P w K A base CX k U fd [x] sp) (y:∀(s:Shared) (u:Value),qM s fd ⟨[u],[]⟩ [(x,u)])
  (al:∀H:Hp,FW H->ay K H a (B.map V.int)->sp [.ref a] H (fun v _=>v=.bl true) fun _ _ _=>False)
  (an:∀H e j,CX [] H f (fun _ _ _=>False) e j->False) :
  zzl72 (model P w) kn (.call (.ref U) ⟨[.ref a],[]⟩) (fun r j=>r=.ok (.ret (.bool true))/\OldK f.heap j.heap/\j.os=f.os/\nk j.gens) f:=by
 have rv:=uf hi;have E:=hi.length;have p:∀H:Hp,FW H->ay K H a (B.map V.int)->lZ P w K H f.heap->(∀b,H b≠none->b=a)->(H a≠none->K.lookup a=none) ->
   zzl72 (model P w) kn (.call (.ref U) ⟨[.ref a],[]⟩) (fun r j=>r=.ok (.ret (.bool true))/\OldK f.heap j.heap/\j.os=f.os/\nk j.gens) f:=by
  intro H hO hS G hA hK;have g:∀{b:Addr}{o:Obj},f.heap.get? b=some o->H b=none->(wc f.heap H).get? b=some o:=fun e n=>Ea e n;have as:∀{b:Addr}{o:Obj}{I:Array DictEntry}{J:Nat},f.heap.get? b=some o->o.data=.dict I J->H b=none:=fun{b o I J} e d=>by
   cases q:H b with
   |none=>rfl
   |some u =>
    have e':b=a:=hA b (by rw[q];simp);subst e';rw[Q]at e;cases e;have d':Data.seq t.toArray _=Data.dict I J:=d;cases d'
  have l:∀{b:Addr}{m:Str->Option Value},f.heap.Ns b m->(wc f.heap H).Ns b m:=fun{b m} ⟨o,I,J,e,d,r⟩=>⟨o,I,J,g e (as e d),d,r⟩;have L:K.In (wc f.heap H):=fun b o e=>g (KX b o e) (by
   cases q:H b with
   |none=>rfl
   |some u =>
    have e':b=a:=hA b (by rw[q];simp);subst e';rw[hK (by rw[q];simp)]at e;cases e)
  have hM:Mod K A (wc f.heap H):=⟨L,l C,⟨T,l i,Y⟩,let⟨mc,h1,h2⟩:=D;⟨mc,l h1,h2⟩⟩;have e0:Ay P w K A (wc f.heap H) kn [] f H:=⟨rfl,hM,fun b o e=>FB e,Nat.le_of_eq (Cv _ _),trivial,fun b i=>absurd (show b∈([]:Ze)from i) (by simp),G,.of_eq hg⟩;refine AC ((F _ L (l C)).run kn [] f H ⟨[.ref a],[]⟩ [.ref a] [.ref a] _ _ hr e0 (y f (.ref a)) (.cons rfl .nil) (al H hO hS)) fun r j h=>?_;cases r with
  |error e=>exact(an H e j h).elim
  |ok fl =>
   cases fl with
   |next=>exact jb h
   |brk=>exact jb h
   |cont=>exact jb h
   |ret u =>
    obtain⟨v,H',os,M,un,N,r',q⟩:=h;have q':v=.bl true:=q;subst q';obtain rfl:u=Value.bool true:=r';refine⟨rfl,OldK.of_keep fun b o e=>?_,os,M⟩;cases q:H b with
    |none=>exact un.keep b o e q (by intro z;exact absurd (show b∈([]:Ze)from z) (by simp)) (by simp)
    |some u =>
     rcases hO b with z|⟨ob,xs,z⟩
     ·rw[q]at z;cases z
     ·have z2:=un.frzs b ob _ z;obtain⟨e1,_⟩:=G b _ z;obtain⟨e2,_⟩:=N b _ z2;rw[e]at e1;cases e1;exact e2
 cases hk:K.lookup a with
 |some o =>
  have e:=KX a o hk;rw[Q]at e;cases e;refine p (fun _=>none) (fun _=>.inl rfl) (.inr ⟨_,t.toArray,_,hk,rfl,rfl,rfl,by rw[bM,E];exact hl,by simpa using rv⟩) (fun b u z=>by have O:(none:Option HO)=some u:=z;cases O) (fun b z=>absurd rfl z) fun z=>absurd rfl z
 |none =>
  refine p (fun b=>if b=a then some (.frz { cls:=.type "list",data:=.seq t.toArray } (.lst (B.map V.int)))else none) (fun b=>?_) (.inl (.inr ⟨{ cls:=.type "list",data:=.seq t.toArray },if_pos rfl⟩)) (fun b u z=>?_) (fun b z=>?_) fun _=>hk
  ·by_cases i:b=a
   ·exact .inr ⟨_,_,if_pos i⟩
   ·exact .inl (if_neg i)
  ·by_cases i:b=a
   ·have O:=(if_pos i).symm.trans z;cases O;subst i;exact⟨Q,by rw[ak];exact hl,t,_,rv,Q⟩
   ·have O:=(if_neg i).symm.trans z;cases O
  ·by_cases i:b=a
   ·exact i
   ·exact absurd (if_neg i) z
end L2
namespace L2
open PySem PySem.Spec PyProof.Rows
theorem EV{l:PySem.W.OpenLaw}{n k:Nat}{q:bR}{loose:Zb}{N:(Str->Option Value)->Heap->Prop}{I:World->Heap->Prop}{d:DefRec}{K:Params->Za}{CX:World->C4}{sp:World->Sp}{x:Str}
  (O:l.most=some n) (y:n<=ah) (z:d.params.defaults=[]) (Q:d9 k kn)
  (U:∀(w:World) (h:Heap),I w h->(K w.params).In h)
  (F:∀(w:World) (j:Str->Option Value) (r:Addr) (h:Heap),(K w.params).In h->h.Ns bO j->j d.name=some (.ref r) ->
   ∃A:j5,(∀(s:Shared) (u:Value),qM s A ⟨[u],[]⟩ [(x,u)]) /\
    ∀base:Heap,(K w.params).In base->base.Ns bO j->kY l.prog w (K w.params) j base (CX w) k r A [x] (sp w))
  (B:∀(w:World) (H:Hp) (a:Addr) (t:List Int),t.length<=n->FW H->ay (K w.params) H a (t.map V.int)->sp w [.ref a] H (fun v _=>v=.bl true) fun _ _ _=>False)
  (C:∀(w:World) (H:Hp) (s:Shared) (e:Value) (D:Shared),CX w [] H s (fun _ _ _=>False) e D->False) :
  PySem.W.WalkO q loose N I l.row.toRowW d [] (fun f J=>PySem.call f J):=by
 refine Att.attach_call O z fun w L m j mb r o pm cd doc a J t G Y ho hd al E p hints i hg=>?_;have M:=U w _ Y;obtain⟨A,hb,hF⟩:=F w j r _ M G.T.g E;exact DV M G.T.g G.T.b G.T.builtins G.T.nolimit hg p hints (bm i y) Q hF hb (fun H hO hS=>B w H a t i hO hS) fun H e D=>C w H m e D
theorem walk_ofK{l:PySem.W.OpenLaw}{n k:Nat}{q:bR}{loose:Zb}{A:(Str->Option Value)->Heap->Prop}{t:World->Heap->Prop}{d:DefRec}{K:Params->Za}{CX:C4}{sp:Za->Sp}{x:Str}
  (B:l.most=some n) (j:n<=ah) (m:d.params.defaults=[]) (C:d9 k kn)
  (D:∀(w:World) (h:Heap),t w h->(K w.params).In h)
  (F:∀(w:World) (g:Str->Option Value) (y:Addr) (h:Heap),(K w.params).In h->h.Ns bO g->g d.name=some (.ref y) ->
   ∃z:j5,(∀(s:Shared) (u:Value),qM s z ⟨[u],[]⟩ [(x,u)]) /\
    ∀base:Heap,(K w.params).In base->base.Ns bO g->kY l.prog w (K w.params) g base CX k y z [x] (sp (K w.params)))
  (o:∀(K:Za) (H:Hp) (a:Addr) (i:List Int),i.length<=n->FW H->ay K H a (i.map V.int)->sp K [.ref a] H (fun v _=>v=.bl true) fun _ _ _=>False)
  (p:∀(H:Hp) (s:Shared) (e:Value) (r:Shared),CX [] H s (fun _ _ _=>False) e r->False) :
  PySem.W.WalkO q loose A t l.row.toRowW d [] (fun f E=>PySem.call f E) :=
 EV (K:=K) (CX:=fun _=>CX) (sp:=fun w=>sp (K w.params)) B j m C D F (fun w H a i G I J=>o (K w.params) H a i G I J) fun _ H s e r=>p H s e r
end L2
namespace L2
open PySem PySem.Spec PyProof.Rows
def jP(s:Stmt)(j:Nat):Stmt:=match s with
 |.ClassDef _ _ _ body _ _ _ _ _ _ _=>body.getD j (.Pass ⟨0,0,0,0⟩)
 |_=>.Pass ⟨0,0,0,0⟩
def gT(s:Stmt):Arguments:=match s with
 |.FunctionDef _ a _ _ _ _ _ _ _ _=>a
 |_=>{ posonlyargs:=[],args:=[],vararg:=none,kwonlyargs:=[],kw_defaults:=[],kwarg:=none,defaults:=[] }
def fK(s:Stmt):List Stmt:=match s with
 |.FunctionDef _ _ b _ _ _ _ _ _ _=>b
 |_=>[]
def bT(s:Stmt):Scope:=match s with
 |.FunctionDef _ _ _ _ _ _ sc _ _ _=>sc
 |_=>{ kind:=.function,names:=[],isGenerator:=false,isCoroutine:=false }
abbrev CX0:C4:=fun _ _ _ _ _ _=>False
abbrev E0:XK:=fun _ _ _=>False
abbrev aH(sp:Sp)(a:TA):TE:=Ga sp [] E0 a
theorem A8{X:Cx}:mP CX0 X E0:=fun _ _ _ _ _ _ _ h=>h.elim
structure Hh(K:Za)(x qual:Str)(st:Stmt)(f:Addr)(fd:j5):Prop where
 ex:∃(oc:Value) (od:Option Addr) (kV doc pm:Value) (an:Option Addr) (cdv ct:Value) (osl:Array (Option Value)),
  fd=hC x qual (gT st) (fK st) (bT st) .none kV doc pm an cdv ct/\K.lookup f=some ⟨oc,od,.func fd,osl⟩/\mo K cdv qual=true
 kp:i_ K (.ref f)=true
section
variable{P:bR}{w:World}{K:Za}{mg:Str->Option Value}{base:Heap}
theorem Hh.ok{x a:Str}{st:Stmt}{f:Addr}{o:j5}{N j:Zb}{k:Nat}{l:Sp}(F:Hh K x a st f o)(S:jU N j (bT st))(len:∀g H Q E,l g H Q E->g.length=j.length)
  (i:∀(e:Value) (A:Around) (outer:List Env) (s:Shared) (H:Hp) (g:List V) (Q:VK) (E:XK),d9 k (A.deeper (envOfC a (bT st) s.heap.objs.size f e))->l g H Q E ->
   ∃t,yN (Ak CX0 P w K mg base N a (bT st) f e A outer s H E).nox (fK st) t/\t (bq Q) (start N g) H):kY P w K mg base CX0 (k+1) f o j l:=by
 obtain⟨u,v,kV,doc,y,z,e,B,p,rfl,lk,m⟩:=F.ex;refine HD lk m S len fun A outer s H g Q E r n=>?_;obtain⟨t,h,q⟩:=i e A outer s H g Q E r n;exact⟨t,h.nox,q⟩
theorem Hh.binds{x a:Str}{st:Stmt}{f:Addr}{l:j5}{ps:Zb}(F:Hh K x a st f l)
  (h:∀(kV doc g:Value) (i:Option Addr) (e j:Value) (k:Zf),k.length=ps.length->bindArgs (hC x a (gT st) (fK st) (bT st) .none kV doc g i e j) ⟨k,[]⟩=pure (ps.zip k)):Binds K l ps []:=by
 obtain⟨o,p,kV,doc,g,i,e,j,m,rfl,lk,n⟩:=F.ex;exact .all (h kV doc g i e j)
theorem Ee{x a:Str}{st:Stmt}{f:Addr}{m:Value}{n h:Option Addr}{g:Array (Option Value)}{kV doc i e j:Value}(l:K.lookup f=some ⟨m,n,.func (hC x a (gT st) (fK st) (bT st) .none kV doc i h e j),g⟩)
  (c:mo K e a=true) (k:i_ K (.ref f)=true):Hh K x a st f (hC x a (gT st) (fK st) (bT st) .none kV doc i h e j):=⟨⟨m,n,kV,doc,i,h,e,j,g,rfl,l,c⟩,k⟩
end
theorem Bh{A:Around}{k:Nat}(a:d9 k A):A.units+16<cLine:=vc (Nat.add_le_add_left (by decide:16<=64) _) a.units
theorem aq{n:Nat}(h:n<=1000):n<ah:=vc h (by decide)
section
variable{X:Cx}
theorem pv(i:Nat){x:Str}{a:Pos}(f:X.N[i]?=some x:=by rfl)(g:Vis X.env.scope x:=by first|exact Or.inl rfl|exact Or.inr (Or.inl rfl)|exact Or.inr (Or.inr rfl))(h:(x==("__debug__":Str))=false:=by decide)
  (e:(x==("__classdict__":Str))=false:=by decide):PE X (.Name x a) (mz i):=GN f g h e
end
theorem aU{A B:Prop}(h:B):if false=true then A else B:=by
 rw[if_neg iV];exact h
theorem bx{A B:Prop}(h:A):if true=true then A else B:=by
 rw[if_pos rfl];exact h
theorem jO{c A B:Prop}[Decidable c](a:c->A)(e:¬c->B):if c then A else B:=by
 by_cases h:c
 ·rw[if_pos h];exact a h
 ·rw[if_neg h];exact e h
def ab(H H':Hp):Prop:=∀b o,H b=some o->H' b=some o
theorem ab.refl(H:Hp):ab H H:=fun _ _ h=>h
theorem ab.trans{H e f:Hp}(a:ab H e)(b:ab e f):ab H f:=fun c o h=>b c o (a c o h)
theorem ab.free{H a:Hp}(e:ab H a){l:Addr}(h:a l=Option.none):H l=Option.none:=by
 cases q:H l with
 |none=>rfl
 |some o =>
  rw[e l o q]at h;cases h
theorem ab.seq{K:Za}{H f:Hp}{a:Addr}{g:List V}(e:ab H f)(h:ay K H a g):ay K f a g:=by
 rcases h with(h|⟨o,h⟩)|h
 ·exact .inl (.inl (e _ _ h))
 ·exact .inl (.inr ⟨o,e _ _ h⟩)
 ·exact .inr h
section
variable{prog:bR}{w:World}{A:Around}{R:Result->Shared->Prop}{s:Shared}
abbrev XF:Value->Shared->Prop:=fun _ _=>False
abbrev Ac(ifs:List Expr)(env:Env):Sem Bool:=forIn ifs true fun c r=>if r=true then do let ok <- isTrue c env (eval c env);pure (vb ok)else pure (vb r)
theorem wg{t target j:Expr}{u:List Expr}{scope:Scope}{B:Pos}{it y:Value}{a:Env}(I:Nat->Shared->Prop)
  (turn:∀n s,I n s->wpAny (model prog w) A (pyNext it) (fun r e=>match r with
   |none=>R (.ok .next) e
   |some v=>wpAny (model prog w) A (AH target it v) (fun _ f=>wpAny (model prog w) A (assign target a v) (fun _ k =>
     wpAny (model prog w) A (Ac u a) (fun ok g =>
      if ok=true then wpAny (model prog w) A (eval t a) (fun x l =>
       wpAny (model prog w) A (call (.builtin "list.append") [y,x]) (fun _ o=>∃m,m<n/\I m o) XF l) XF g
      else ∃m,m<n/\I m g) XF k) XF f) XF e) XF s)
  (n:Nat) (h:I n s):zzl72 (model prog w) A (.compLoop (.ListComp t [⟨target,j,u,0⟩] scope B) 0 it y a) R s:=by
 refine codeAny_loop rfl I (fun n s G=>?_) n h;show wpAny _ A ((compTurn (.ListComp t [⟨target,j,u,0⟩] scope B) 0 it y a).onRaise (fun x=>do noteFrame x a;theTreesLotGoes x)) _ _ s
 refine wpAny_noted ?_;rw[compTurn_list];refine bp (wpAny_standAt (bp (nn (turn n s G) (fun r e p=>?_) fun _ _ i=>i.elim)));cases r with
 |none=>exact cI p
 |some v =>
  refine bp (nn p (fun _ f z=>?_) fun _ _ i=>i.elim);refine bp (nn z (fun _ k C=>bp (nn C (fun ok g q=>?_) fun _ _ i=>i.elim)) fun _ _ i=>i.elim);cases ok with
  |false=>exact cI ⟨rfl,q⟩
  |true =>
   exact bp (bp (nn q (fun x l D=>bp (nn D (fun _ o E=>cI (cI ⟨rfl,E⟩)) fun _ _ i=>i.elim)) fun _ _ i=>i.elim))
end
theorem mM{env:Env}:∀(names:List (Str×i8)) (a:List (Str×Addr)),(∀y∈names,y.2=.free->∃c,env.cells.lookup y.1=some c)->(∀x c,a.lookup x=some c->env.cells.lookup x=some c) ->
  ∃f:List (Str×Addr),(forIn names a fun(x:Str×i8) (r:List (Str×Addr))=>if(x.2==km)=true then(cellOf env x.1 >>= fun c=>(pure (vb ((x.1,c)::r)):Sem (ForInStep (List (Str×Addr)))))else pure (vb r))=pure f /\
   (∀x c,f.lookup x=some c->env.cells.lookup x=some c)/\(∀x,(a.lookup x).isSome=true->(f.lookup x).isSome=true)/\∀y∈names,y.2=.free->(f.lookup y.1).isSome=true
 |[],a,_,p=>⟨a,rfl,p,fun _ h=>h,fun _ h=>nomatch h⟩
 | (n,k)::r,a,m,p=>by
  have w:∀y∈r,y.2=.free->∃c,env.cells.lookup y.1=some c:=fun y hy=>m y (eI _ hy);by_cases t:k=.free
  ·subst t;obtain⟨c,z⟩:=m (n,.free) du rfl;obtain⟨f,e,u,q,v⟩:=mM r ((n,c)::a) w (fun x d o=>by
    rw[g9]at o;cases g:x==n with
    |true =>
     rw[g]at o;have:x=n:=by simpa using g
     subst this;cases o;exact z
    |false=>rw[g]at o;exact p x d o)
   have i:(((n,c)::a).lookup n).isSome=true:=by rw[g9,beq_self_eq_true];rfl
   have j:∀x,(a.lookup x).isSome=true->(((n,c)::a).lookup x).isSome=true:=fun x g=>by
    rw[g9];cases x==n with
    |true=>rfl
    |false=>exact g
   refine⟨f,?_,u,fun x g=>q x (j x g),fun y hy s=>?_⟩
   ·rw[List.forIn_cons];have l:cellOf env n=pure c:=by unfold cellOf;rw[z]
    simp only[beq_self_eq_true,if_true,l];exact e
   ·rcases cx.mp hy with rfl|hy
    ·exact q _ i
    ·exact v y hy s
  ·obtain⟨f,e,u,q,v⟩:=mM r a w p;refine⟨f,?_,u,q,fun y hy s=>?_⟩
   ·rw[List.forIn_cons];have A:(k==km)=false:=by simpa using t
    simp only[A,wV,if_false];exact e
   ·rcases cx.mp hy with rfl|hy
    ·exact absurd s t
    ·exact v y hy s
theorem sI{env:Env}{scope:Scope}(f:∀y∈scope.names,y.2=.free->∃c,env.cells.lookup y.1=some c):
  ∃a:List (Str×Addr),closureFor scope env=pure a/\(∀x c,a.lookup x=some c->env.cells.lookup x=some c)/\∀y∈scope.names,y.2=.free->(a.lookup y.1).isSome=true:=by
 obtain⟨a,e,g,_,i⟩:=mM (env:=env) scope.names [] f (fun _ _ h=>nomatch h);refine⟨a,?_,g,i⟩;unfold closureFor
 first
  |exact e
  | (simp only[bind_pure];exact e)
  | (rw[show(forIn scope.names [] _:Sem (List (Str×Addr)))=pure a from e];rfl)
def dj(X:Cx)(N:Zb)(scope:Scope)(C:Addr)(cl:List (Str×Addr))(s₀:Shared)(H₀:Hp)(ex:Ze)(pn:Zd):Cx where
 prog:=X.prog
 w:=X.w
 K:=X.K
 mg:=X.mg
 base:=X.base
 A:=X.A
 N:=N
 s₀:=s₀
 H₀:=H₀
 env:=compEnvC scope cl C X.env
 outer:=X.stack
 stack:=X.stack
 ex:=ex
 fn:=fun _=>false
 calm:=X.calm
 pn:=pn
 xe:=XF
def lG(sc scope:Scope)(k:Nat)(N XN:Zb)(fi:List Nat):Bool :=
 decide (scope.kind=.function) &&
 (scope.names.all fun y=>decide (y.2≠.cell) && (decide (y.2≠.local) || decide (scope.names.lookup y.1=some .local)) && (decide (y.2≠.free) || decide (sc.names.lookup y.1=some .cell) || decide (sc.names.lookup y.1=some .free))) &&
 decide (N.length=k+fi.length) &&
 ((l9 fi.length).all fun j=>match fi[j]? with
  |some i=>match N[k+j]?,XN[i]? with
   |some x,some y=>decide (x=y) && decide (scope.names.lookup x=some .free)
   |_,_=>false
  |none=>false)
structure mW(sc scope:Scope)(k:Nat)(N XN:Zb)(fi:List Nat):Prop where
 kind:scope.kind=.function
 cell:∀y∈scope.names,y.2≠.cell
 nm:∀y∈scope.names,y.2=.local->scope.names.lookup y.1=some .local
 fr:∀y∈scope.names,y.2=.free->sc.names.lookup y.1=some .cell∨sc.names.lookup y.1=some .free
 len:N.length=k+fi.length
 sl:∀j i,fi[j]?=some i->∃x,N[k+j]?=some x/\XN[i]?=some x/\scope.names.lookup x=some .free
theorem mW.of{sc scope:Scope}{k:Nat}{N g:Zb}{l:List Nat}(h:lG sc scope k N g l=true):mW sc scope k N g l:=by
 unfold lG at h;simp only[mj,va,Bool.or_eq_true,decide_eq_true_eq]at h;obtain⟨⟨⟨n,m⟩,o⟩,p⟩:=h;refine⟨n,fun y f=>(m y f).1.1,fun y f e=>((m y f).1.2).resolve_left fun z=>z e,fun y f e=>?_,o,fun j i e=>?_⟩
 ·rcases(m y f).2 with(z|z)|z
  ·exact absurd e z
  ·exact .inl z
  ·exact .inr z
 ·have r:j<l.length:=(ca.mp e).1;have q:=p j (List.mem_range.mpr r);rw[e]at q;dsimp only at q;cases a:N[k+j]? with
  |none=>rw[a]at q;cases q
  |some x =>
   cases b:g[i]? with
   |none=>rw[a,b]at q;cases q
   |some y =>
    rw[a,b]at q;simp only[mj,decide_eq_true_eq]at q;exact⟨x,rfl,by rw[q.1],q.2⟩
theorem gK{a:Env}:∀{names:List (Str×i8)}{x:Str},names.lookup x=some .free ->
  (names.map fun(n,k)=>if(k==km && a.scope.kind==.function && a.kindOf n==some .cell)then(n,i8.cell)else(n,k)).lookup x=some .cell ∨
  (names.map fun(n,k)=>if(k==km && a.scope.kind==.function && a.kindOf n==some .cell)then(n,i8.cell)else(n,k)).lookup x=some .free
 |[],_,h=>by simp at h
 | (n,k)::r,x,h=>by
  have g:=@gK a r x;simp only[bu];cases e:x==n with
  |true =>
   simp only[g9,e]at h;cases h;by_cases f:(km==km && a.scope.kind==.function && a.kindOf n==some .cell)=true
   ·left;rw[if_pos f];simp[g9,e]
   ·right;rw[if_neg f];simp[g9,e]
  |false =>
   simp only[g9,e]at h;by_cases f:(k==km && a.scope.kind==.function && a.kindOf n==some .cell)=true
   ·rw[if_pos f];simp only[g9,e];exact g h
   ·rw[if_neg f];simp only[g9,e];exact g h
def cW(k:Nat)(fi:List Nat)(σ:St):St:=List.replicate k none++fi.map fun i=>(σ[i]?).join
theorem Am(k:Nat)(a:List Nat)(σ:St):(cW k a σ).length=k+a.length:=by simp[cW]
theorem sH{k:Nat}{f:List Nat}{σ:St}{i:Nat}{v:V}(h:(cW k f σ)[i]?=some (some v)):∃j t,i=k+j/\f[j]?=some t/\σ[t]?=some (some v):=by
 unfold cW at h;by_cases g:i<k
 ·rw[wL (by simpa using g),List.getElem?_replicate_of_lt g]at h;cases h
 ·rw[m9 (by simp;omega),List.length_replicate,eZ]at h;refine⟨i-k,?_⟩;cases e:f[i-k]? with
  |none=>rw[e]at h;cases h
  |some t =>
   rw[e]at h;simp only[rh]at h;refine⟨t,by omega,rfl,?_⟩;have a:=ei h;cases l:σ[t]? with
   |none=>rw[l]at a;cases a
   |some o=>rw[l]at a;simp only[Option.join]at a;first|(rw[a])|(subst a;rfl)|(simpa using a)
def yz(k:Nat)(g:TG):Prop:=∀x σ H Q,g x σ H Q->g x σ H fun σ2 H2=>Q σ2 H2/\σ2.length=σ.length/\∀i,k<=i->σ2[i]?=σ[i]?
def By(k:Nat)(g:C3):Prop:=∀x σ H Q,g x σ H Q->g x σ H fun σ2 H2=>Q σ2 H2/\σ2.length=σ.length/\∀i,k<=i->σ2[i]?=σ[i]?
theorem aN{k i:Nat}(h:i<k):yz k (dH i):=fun x σ H Q q=>⟨q,by simp,fun j a=>by rw[List.getElem?_set_ne (by omega)]⟩
theorem jj{k:Nat}:By k fW:=fun x σ H Q ⟨e,q⟩=>⟨e,q,rfl,fun _ _=>rfl⟩
def EF(g:TG):Prop:=∀x σ H Q Q',(∀σ2 H2,Q σ2 H2->Q' σ2 H2)->g x σ H Q->g x σ H Q'
def wH(g:C3):Prop:=∀x σ H Q Q',(∀σ2 H2,Q σ2 H2->Q' σ2 H2)->g x σ H Q->g x σ H Q'
theorem bc{i:Nat}:EF (dH i):=fun _ _ _ _ _ f q=>f _ _ q
theorem ck:wH fW:=fun _ _ _ _ _ f ⟨e,q⟩=>⟨e,f _ _ q⟩
theorem cV{g:TG}{u:C3}(a:EF g)(h:wH u):wH (aR g u):=fun _ _ _ _ _ f ⟨v,r,e,q⟩=>⟨v,r,e,a _ _ _ _ _ (fun _ _ q=>h _ _ _ _ _ f q) q⟩
theorem ci{k:Nat}{g:TG}{u:C3}(f:yz k g)(h:EF g)(j:By k u)(m:wH u):By k (aR g u):=fun x σ H Q ⟨v,r,e,q⟩ =>
 ⟨v,r,e,h _ _ _ _ _ (fun σ2 t ⟨q,l,s⟩=>m _ _ _ _ _ (fun σ3 w ⟨n,o,p⟩=>⟨n,o.trans l,fun i a=>(p i a).trans (s i a)⟩) (j _ _ _ _ q)) (f _ _ _ _ q)⟩
theorem lA{K:Za}{k n:Nat}{t:C3}(h:By k t):yz k (gp K n t):=fun x σ H Q ⟨a,f,e,g,i,q⟩=>⟨a,f,e,g,i,h _ _ _ _ q⟩
def GB(X:Cx)(ifs:List Expr)(t:TT):Prop :=
 ∀(J4:Zd) (s:Shared) (σ:St) (H:Hp) (Q:Bool->Hp->Prop),Inv X J4 σ H s->t σ H Q->wpAny (model X.prog X.w) X.A (Ac ifs X.env) (TP X J4 σ Q) X.xe s
def fV:TT:=fun _ H Q=>Q true H
theorem bG{X:Cx}:GB X [] fV:=fun a s σ H Q I h=>cI ⟨H,I,h⟩
theorem jI{X:Cx}{c:Expr}{t:TT}(h:PT X c t):GB X [c] t:=by
 intro a s σ H Q I e;unfold Ac;rw[List.forIn_cons];simp only[if_true];refine bp (bp (cF (h a s σ H Q I e) fun b f q=>cI ?_));exact cI q
def cD(k:Nat)(fi:List Nat)(wi:TI)(g:TG)(tc:TT)(te:TE):TE:=fun σ H Q=>wi σ H fun J H1=>∀l,H1 l=none->∃W:Nat->Nat->List V->Hp->Prop,(∃m,W 0 m [] (upd H1 l (.lst [])))/\∀i m vs H2,W i m vs H2->H2 l=some (.lst vs) /\
 ((J.stop i H2/\Q (.ref l) H2)∨(J.go i H2/\∀x H3,J.yld i H2 x H3->g x (cW k fi σ) H3 fun σ2 H4=>tc σ2 H4 fun b H5 =>
  if b=true then te σ2 H5 fun v H6=>H6 l=some (.lst vs)/\vs.length<ah/\∃m',m'<m/\W (i+1) m' (vs++[v]) (upd H6 l (.lst (vs++[v])))else ∃m',m'<m/\W (i+1) m' vs H5))
section
variable{X:Cx}{J4:Zd}{σ:St}
theorem FR{k:Nat}{N:Zb}{scope:Scope}{J:List Nat}{H:Hp}{s:Shared}{t:List (Str×Addr)}{u:Ze}(S:mW X.env.scope scope k N X.N J)(I:Inv X J4 σ H s)
  (g:∀x c,t.lookup x=some c->X.env.cells.lookup x=some c) (v:∀y∈scope.names,y.2=.free->(t.lookup y.1).isSome=true) (w:∀b∈u,l6 X J4 H b) (A:∀b∈u,b<s.heap.objs.size) :
  (dj X N scope s.heap.objs.size t s H u (X.pn++J4)).Ok where
 mod:=I.ok.mod
 kind:=S.kind
 glob:=I.ok.glob
 blt:=I.ok.blt
 above:=aB _
 inj:=fun x y c L M=>I.ok.inj x y c (g x c L) (g y c M)
 has:=fun x h=>by
  have B:∃y∈scope.names,y.1=x/\y.2=.free:=by
   have h':(relabel scope X.env).names.lookup x=some .cell∨(relabel scope X.env).names.lookup x=some .free:=h;have j:∀(l:List (Str×i8)) (f:i8),l.lookup x=some f->(x,f)∈l:=by
    intro l
    induction l with
    |nil=>intro f e;cases e
    |cons a r O =>
     intro f e;obtain⟨n,C⟩:=a;rw[g9]at e;cases D:x==n with
     |true =>
      rw[D]at e;have:x=n:=by simpa using D
      subst this;cases e;exact du
     |false=>rw[D]at e;exact eI _ (O f e)
   have back:∀f,(x,f)∈(relabel scope X.env).names->f=.cell∨f=.free->∃y∈scope.names,y.1=x/\y.2=.free:=by
    intro f Q E;obtain⟨⟨n,C⟩,m,e⟩:=aV.mp Q;dsimp only at e;by_cases p:(C==km && X.env.scope.kind==.function && X.env.kindOf n==some .cell)=true
    ·have G:C=.free:=by
      simp only[mj]at p;simpa using p.1.1
     rw[if_pos p]at e;cases e;exact⟨_,m,rfl,G⟩
    ·rw[if_neg p]at e;cases e;rcases E with rfl|rfl
     ·exact absurd rfl (S.cell _ m)
     ·exact⟨_,m,rfl,rfl⟩
   rcases h' with h'|h'
   ·exact back _ (j _ _ h') (.inl rfl)
   ·exact back _ (j _ _ h') (.inr rfl)
  obtain⟨y,m,rfl,E⟩:=B;exact AA.mp (v y m E)
 cab:=fun x c h=>by cases h
 hd:=I.ok.hd
 frames:=I.ok.frames
 stk:=.inl rfl
 exf:=fun b i=>⟨cQ (A b i),fun x c e=>(w b i).2.2.2.2.1 x c (g x c e)⟩
 bs:=I.bs
 bsz:=bm I.ok.bsz I.sz
 noex:=fun b o e i=>by
  rcases(w b i).2.2.2.1 with z|z
  ·exact I.ok.noex b o e z
  ·exact absurd (g6 (bv (I.ok.bs b o e).1) z) (pL _)
 exfs:=fun b i z=>by
  obtain⟨_,T,U,_⟩:=w b i;rcases cx.mp (I.stkSub b z)with q|q
  ·exact T q
  ·exact U q
 funs:=I.stack
 frf:=I.stkFree
theorem Es{k:Nat}{N:Zb}{scope:Scope}{Y:List Nat}{H:Hp}{s:Shared}{G:List (Str×Addr)}{J:Ze}{f:Heap}{t':Nat}{m:Str->Option Value}(S:mW X.env.scope scope k N X.N Y)(I:Inv X J4 σ H s)
  (h:∀x c,G.lookup x=some c->X.env.cells.lookup x=some c) (B:∀y∈scope.names,y.2=.free->(G.lookup y.1).isSome=true) (hf:∀b∈J,l6 X J4 H b) (L:∀b∈J,b<s.heap.objs.size)
  (hn:f.Ns s.heap.objs.size m) (g:∀b o,s.heap.get? b=some o->f.get? b=some o) :
  Inv (dj X N scope s.heap.objs.size G s H J (X.pn++J4)) [] (cW k Y σ) H { s with heap:=f,toks:=t' }:=by
 have A:∀(l:List (Str×i8)) (x:Str) (C:i8),l.lookup x=some C->(x,C)∈l:=by
  intro l
  induction l with
  |nil=>intro x C e;cases e
  |cons a r ih =>
   intro x C e;obtain⟨n,k'⟩:=a;rw[g9]at e;cases M:x==n with
   |true =>
    rw[M]at e;have:x=n:=by simpa using M
    subst this;cases e;exact du
   |false=>rw[M]at e;exact eI _ (ih x C e)
 refine⟨FR S I h B hf L,rfl,I.bare,Un.kept g,⟨m,hn,fun i x v e1 e2 e3=>?_⟩,fun x c e=>?_,I.hok.fresh (aB _),fun x c e=>I.freeC x c (h x c e),fun p hp=>?_,I.hok.kept g,?_⟩
 ·obtain⟨j,t,rfl,ht,hv⟩:=sH e2;obtain⟨y,hy,O,D⟩:=S.sl j t ht;have E:N[k+j]?=some x:=e1;rw[hy]at E;cases E;have w:=A _ _ _ D;obtain⟨c,hc⟩:=AA.mp (B _ w rfl);have hX:=h _ _ hc;obtain⟨mX,al,Q⟩:=I.loc;have kX:=S.fr _ w rfl;obtain⟨u,ru,lk⟩:=Q t x v O hv (by rcases kX with z|z;exact .inr (.inl z);exact .inr (.inr z));refine⟨u,ru,.inr ⟨?_,c,hc,?_⟩⟩
  ·exact gK D
  ·rcases lk with⟨z,_⟩|⟨_,c',e',q⟩
   ·have z':X.env.scope.names.lookup x=some .local:=z;rcases kX with kX|kX<;>rw[z']at kX<;>cases kX
   ·rw[hX]at e';cases e';obtain⟨o,T,U⟩:=q;exact⟨o,g _ o T,U⟩
 ·obtain⟨v,o,T,U⟩:=I.cell x c (h x c e);exact⟨v,o,g _ o T,U⟩
 ·rw[f6]at hp;obtain⟨e,n,ne,nf,d⟩:=I.pin p hp;refine⟨g _ _ e,n,cQ (bv e),fun z=>?_,d⟩;rcases cx.mp (I.stkSub _ z)with q|q
  ·exact ne q
  ·exact nf q
 ·rw[Am];exact S.len.symm
structure wJ(X:Cx)(J4:Zd)(H:Hp)(C:Addr):Prop where
 free:H C=none
 loc:C≠X.env.locals
 young:X.s₀.heap.objs.size<=C
 cells:∀x c,X.env.cells.lookup x=some c->c≠C
 pin:∀p∈X.pn++J4,p.1≠C
theorem sG{elt iter tg:Expr}{ifs:List Expr}{scope:Scope}{pos:Pos}{k:Nat}{N:Zb}{fi:List Nat}{cl:List (Str×Addr)}{g:TG}{tc:TT}{te:TE}{it:Addr}{fp:Ze}{tn:Nat->Heap->Prop}{J:It}{s:Hp}{s2:Shared}{Q:VK}
  {E:Zc}{RR:Value->Addr->Result->Shared->Prop}
  (S:mW X.env.scope scope k N X.N fi) (hc:X.calm=true) (b1:∀x c,cl.lookup x=some c->X.env.cells.lookup x=some c) (ct:∀y∈scope.names,y.2=.free->(cl.lookup y.1).isSome=true)
  (hg:∀C cl G H ex pn,PG (dj X N scope C cl G H ex pn) tg g) (ho:yz k g) (ht:∀C cl G H ex pn,GB (dj X N scope C cl G H ex pn) ifs tc) (he:∀C cl G H ex pn,PE (dj X N scope C cl G H ex pn) elt te)
  (I2:Inv X J4 σ s s2) (T:sP X.prog X.w X.K tg J fp it tn) (b2:tn 0 s2.heap) (f2:∀b∈fp,l6 X J4 s b)
  (hw:∀l,s l=none->∃W:Nat->Nat->List V->Hp->Prop,(∃m,W 0 m [] (upd s l (.lst [])))/\∀i m O s,W i m O s->s l=some (.lst O) /\
   ((J.stop i s/\Q (.ref l) s)∨(J.go i s/\∀x H3,J.yld i s x H3->g x (cW k fi σ) H3 fun σ2 H4=>tc σ2 H4 fun b H5 =>
    if b=true then te σ2 H5 fun v H6=>H6 l=some (.lst O)/\O.length<ah/\∃U,U<m/\W (i+1) U (O++[v]) (upd H6 l (.lst (O++[v])))else ∃U,U<m/\W (i+1) U O H5)))
  (hR:∀D C L s' U,Inv X J4 σ L s'->s'.heap.Ns C U->wJ X J4 L C->Q (.ref D) L->RR (.ref D) C (.ok .next) s') :
  wpAny (model X.prog X.w) X.A (newList []) (fun acc s₃=>wpAny (model X.prog X.w) X.A (newFunctionEnv scope X.env.globals cl [] X.env.qual none .none (some X.env)) (fun a0 s₄ =>
   zzl72 (model X.prog X.w) X.A (.compStart (.ListComp elt [⟨tg,iter,ifs,0⟩] scope pos) 0 (.ref it) acc { a0 with scope:=relabel scope X.env }) (RR acc a0.locals) s₄) E s₃) E s2:=by
 have as:s s2.heap.objs.size=none:=I2.fresh;obtain⟨W,⟨m0,w0⟩,turn⟩:=hw _ as;refine wpAny_newObj_type (wpAny_newFunctionEnv S.cell (by intro y hy;simp at hy) (fun I al an=>?_) S.kind);dsimp only at al an ⊢;have I3:Inv X J4 σ (upd s s2.heap.objs.size (.lst [])) { s2 with heap:=s2.heap.push { cls:=.type "list",data:=.seq ([]:Zf).toArray },toks:=s2.toks }:=I2.lnew (ys:=[]) .nil (b_ _);generalize b3:({ s2 with heap:=s2.heap.push { cls:=.type "list",data:=.seq ([]:Zf).toArray },toks:=s2.toks }:Shared)=B at I3;have aC:B.heap=s2.heap.push { cls:=.type "list",data:=.seq ([]:Zf).toArray }:=by rw[<-b3]
 have c0:B.heap.objs.size=s2.heap.objs.size+1:=by rw[aC,Heap.size_push]
 have b4:∀b∈fp,b<s2.heap.objs.size:=fun b f=>by
  obtain⟨o,e,_⟩:=T.obj 0 _ b2 b f;exact bv e
 have f3:∀b∈fp,l6 X J4 (upd s s2.heap.objs.size (.lst [])) b:=fun b f=>⟨by rw[aj (cQ (b4 b f))];exact(f2 b f).1,(f2 b f).2⟩;have a4:∀b∈fp,b<B.heap.objs.size:=fun b f=>by rw[c0];exact Nat.lt_succ_of_lt (b4 b f)
 have b5:∀b o,B.heap.get? b=some o->I.get? b=some o:=fun b o e=>by
  have f:b≠B.heap.objs.size:=cQ (bv e);rw[aC]at e f;exact an.extBut b o f (cC _ e)
 have c1:I.Ns B.heap.objs.size (fun x=>([]:List (Str×Value)).reverse.lookup x):=by rw[aC];exact al
 have I4:Inv (dj X N scope B.heap.objs.size cl B (upd s s2.heap.objs.size (.lst [])) fp (X.pn++J4)) [] (cW k fi σ) (upd s s2.heap.objs.size (.lst [])) { B with heap:=I,toks:=s2.toks+([]:List (Str×Value)).length } :=
  Es S I3 b1 ct f3 a4 c1 b5
 have b6:tn 0 I:=T.keep _ _ _ b2 fun b f o e=>b5 b o (by rw[aC];exact cC _ e);generalize M:dj X N scope B.heap.objs.size cl B (upd s s2.heap.objs.size (.lst [])) fp (X.pn++J4)=Y at I4;have yp:Y.prog=X.prog:=by rw[<-M];rfl
 have yw:Y.w=X.w:=by rw[<-M];rfl
 have yK:Y.K=X.K:=by rw[<-M];rfl
 have yA:Y.A=X.A:=by rw[<-M];rfl
 have yx:Y.xe=XF:=by rw[<-M];rfl
 have yc:Y.calm=true:=by rw[<-M];exact hc
 have gY:PG Y tg g:=by rw[<-M];exact hg _ _ _ _ _ _
 have tY:GB Y ifs tc:=by rw[<-M];exact ht _ _ _ _ _ _
 have eY:PE Y elt te:=by rw[<-M];exact he _ _ _ _ _ _
 have b7:Y.env=compEnvC scope cl B.heap.objs.size X.env:=by rw[<-M];rfl
 have fY:∀{L:Hp},(∀b∈fp,L b=none)->∀b∈fp,l6 Y [] L b:=fun hn b f=>by
  obtain⟨f0,f1,b8,b9,f4,f5⟩:=f3 b f;rw[<-M];refine⟨hn b f,cQ (a4 b f),fun z=>?_,.inl f,fun x c e=>f4 x c (b1 x c e),fun p hp=>?_⟩
  ·rcases cx.mp (I3.stkSub _ z)with q|q
   ·exact f1 q
   ·exact b8 q
  ·rw[f6]at hp;exact f5 p hp
 have a5:∀s4:Shared,s4={ B with heap:=I,toks:=s2.toks+([]:List (Str×Value)).length } ->
   zzl72 (model X.prog X.w) X.A (.compLoop (.ListComp elt [⟨tg,iter,ifs,0⟩] scope pos) 0 (.ref it) (.ref s2.heap.objs.size) Y.env) (RR (.ref s2.heap.objs.size) B.heap.objs.size) s4:=by
  rintro s4 rfl;refine wg (fun n s'=>∃i O L,Inv Y [] (cW k fi σ) L s'/\tn i s'.heap/\(∀b∈fp,L b=none)/\W i n O L) ?_ m0 ⟨0,[],_,I4,b6,fun b f=>(f3 b f).1,w0⟩;rintro n s5 ⟨i,O,H5,I5,cb,cd,w5⟩;obtain⟨dr,a6⟩:=turn i n O H5 w5;rcases a6 with⟨stop,q⟩|⟨go,step⟩
  ·have d:=T.done Y yp yw yK yc i [] s5 _ H5 XF I5 (fY cd) cb stop;rw[yA]at d;refine cF d fun r s6 a=>?_;obtain⟨hr,I6⟩:=a;subst hr;have hu:Un (C2 X.stack) fp (upd s s2.heap.objs.size (.lst [])) H5 B.heap s6.heap:=by have:=I6.base;rw[<-M]at this;exact this
   have c2:s6.os=B.os:=by have:=I6.os;rw[<-M]at this;exact this
   have ce:lZ X.prog X.w X.K H5 s6.heap:=by have:=I6.hok;rw[<-M]at this;exact this
   have c3:H5 B.heap.objs.size=none:=by have:=I6.free;rw[<-M]at this;exact this
   obtain⟨m6,ch,_⟩:=I6.loc;have cm:s6.heap.Ns B.heap.objs.size m6:=by rw[<-M]at ch;exact ch
   have IX:Inv X J4 σ H5 s6:=I3.call' c2 hu ce I6.bare fun b f=>by
    obtain⟨f0,f1,b8,b9,f4,f5⟩:=f3 b f;exact⟨b9,f1,f4,f5⟩
   refine hR _ _ H5 s6 m6 IX cm ⟨c3,ni I3.lt,I3.sz,fun x c e z=>?_,fun p hp z=>?_⟩ q
   ·obtain⟨v,o,ho,_⟩:=I3.cell x c e;exact absurd (bv ho) (by rw[z];exact pL _)
   ·exact absurd (bv (I3.pin p hp).1) (by rw[z];exact pL _)
  ·have d:=T.item Y yp yw yK yc i [] s5 _ H5 XF I5 (fY cd) cb go;rw[yA]at d;refine cF d fun r s6 a=>?_;obtain⟨u,hr,h6⟩:=a;subst hr;refine cF h6 fun _ s7 a=>?_;obtain⟨x,H7,I7,r7,y7,bi,c4⟩:=a;have c5:=I7.pinned (fY c4) (T.obj _ _ bi);have a7:=gY _ s7 _ H7 x u _ c5 r7 (ho _ _ _ _ (step x H7 y7));rw[yp,yw,yA,yx]at a7;refine cF a7 fun _ s8 a=>?_;obtain⟨σ8,H8,I8,q8,l8,k8⟩:=a;have a8:=tY _ s8 σ8 H8 _ I8 q8;rw[yp,yw,yA,yx]at a8;have again:∀{H9:Hp}{s9:Shared}{bl:List V}{U:Nat},Inv Y ([]++rY fp s7.heap) σ8 H9 s9->U<n->W (i+1) U bl H9->∃m,m<n/\∃i O L,Inv Y [] (cW k fi σ) L s9/\tn i s9.heap/\(∀b∈fp,L b=none)/\W i m O L:=fun{H9 s9 bl U} I9 hm w9=>by
    refine⟨U,hm,i+1,bl,H9,(I9.unpinned).weak l8.symm (fun j v e=>?_),T.keep _ _ _ bi fun b f o e=>(I9.pin (b,o) (c_ _ (c_ _ (jM f e)))).1,fun b f=>?_,w9⟩
    ·obtain⟨j',t,rfl,_,_⟩:=sH e;rw[k8 _ (oK _ _)];exact e
    ·obtain⟨o,e,_⟩:=T.obj _ _ bi b f;exact(I9.pin (b,o) (c_ _ (c_ _ (jM f e)))).2.1
   refine cF a8 fun b s9 a=>?_;obtain⟨H9,I9,q9⟩:=a;cases b with
   |false =>
    rw[if_neg iV]at q9 ⊢;obtain⟨U,hm,w9⟩:=q9;exact again I9 hm w9
   |true =>
    rw[if_pos rfl]at q9 ⊢;have a9:=eY _ s9 σ8 H9 _ I9 q9;rw[yp,yw,yA,yx]at a9;refine cF a9 fun y dc a=>?_;obtain⟨v,co,dd,dk,cq,bn,U,hm,dm⟩:=a;have cs:=cj (X:=Y) _ dc σ8 co (.ref s2.heap.objs.size) [v] (.ref s2.heap.objs.size) [y] (fun z L=>z=.non/\L=upd co s2.heap.objs.size (.lst (O++[v]))) dd rfl (.cons dk .nil) ⟨_,O,v,rfl,rfl,cq,bn,rfl,rfl⟩;rw[yp,yw,yA,yx]at cs;refine cF cs fun _ ds a=>?_;obtain⟨_,dx,dn,_,_,dp⟩:=a;subst dp;exact again dn hm dm
 have h:=codeAny_compStart_list (prog:=X.prog) (w:=X.w) (A:=X.A) (elt:=elt) (target:=tg) (iter:=iter) (ifs:=ifs) (rest:=[]) (scope:=scope) (pos:=pos) (it:=.ref it) (acc:=.ref s2.heap.objs.size) (env:=Y.env) (a5 _ rfl) (T.self _ 0 _ _ _ b6 (a5 _ rfl));rw[b7]at h;rw[<-b3]at h;exact h
end
section
variable{X:Cx}
theorem wJ.turned{a:Zd}{σ:St}{H:Hp}{s:Shared}{C:Addr}{f:Heap}(c:wJ X a H C)(I:Inv X a σ H s)(g:ix C s.heap f):Inv X a σ H { s with heap:=f } :=
 I.turned (t':=s.toks) (fun b o h e=>g.extBut b o h e) c.free c.loc (.inr c.young) c.cells c.pin
theorem Fx{m i p:Expr}{n:List Expr}{scope:Scope}{r:Pos}{k:Nat}{N:Zb}{G:List Nat}{L:TI}{g:TG}{M:TT}{O:TE}(Y:lG X.env.scope scope k N X.N G=true)(hc:X.calm=true)(hi:PI X p i L)
  (hg:∀C l a f ex o,PG (dj X N scope C l a f ex o) p g) (ho:yz k g) (ht:∀C l a f ex o,GB (dj X N scope C l a f ex o) n M) (he:∀C l a f ex o,PE (dj X N scope C l a f ex o) m O)
  (hs:∀x,wR i X.env x=pure x:=by intro _;rfl):PE X (.ListComp m [⟨p,i,n,0⟩] scope r) (cD k G L g M O):=by
 intro U s σ H Q I h;have S:=mW.of Y;obtain⟨l,j,t,u⟩:=sI (env:=X.env) (scope:=scope) fun y hy e=>I.ok.has y.1 (S.fr y hy e);rw[eval_ListComp];refine wpAny_comprehension_free (use:=none) rfl hs j S.kind S.nm (cF (hi U s σ H _ I h) fun v s1 h1=>cF h1 fun al s2 h2=>?_);obtain⟨it,fp,tn,J,H2,e,I2,T,z,f2,hw⟩:=h2;subst e;refine sG (RR:=fun B C=>compPost (model X.prog X.w) X.A X.xe none (EP X U σ Q) B C) S hc t u hg ho ht he I2 T z f2 hw ?_;intro D C H' s' m' I' hn ce q;exact⟨m',hn,fun h' E=>⟨.ref D,H',ce.turned I' E,rfl,q⟩⟩
theorem zR{m f B:Expr}{n:List Expr}{scope:Scope}{p o t:Pos}{k:Nat}{N:Zb}{fi:List Nat}{wi:TI}{g:TG}{tc:TT}{te:TE}{j:Nat}{y:Str}(hN:X.N.Nodup)(hj:X.N[j]?=some y)(L:Loc X.env.scope y)(hS:lG X.env.scope scope k N X.N fi=true)(hc:X.calm=true)(hi:PI X B f wi)
  (hg:∀C u i l ex E,PG (dj X N scope C u i l ex E) B g) (ho:yz k g) (ht:∀C u i l ex E,GB (dj X N scope C u i l ex E) n tc) (he:∀C u i l ex E,PE (dj X N scope C u i l ex E) m te)
  (M:qP (.ListComp m [⟨B,f,n,0⟩] scope p) (some (.Name y t)) o.line X.env=pure true:=by rfl)
  (hs:∀x,wR f X.env x=pure x:=by intro _;rfl) (hf:X.fn y=true∨X.env.scope.names.lookup y=some .local:=by first|exact .inl rfl|exact .inr rfl|assumption) :
  PS X (.Assign [.Name y t] (.ListComp m [⟨B,f,n,0⟩] scope p) o) (aM (cD k fi wi g tc te) (dH j)):=by
 intro O s σ H D I h;have S:=mW.of hS;obtain⟨u,r,U,Y⟩:=sI (env:=X.env) (scope:=scope) fun y L e=>I.ok.has y.1 (S.fr y L e);rw[exec_Assign_Name_used _ _ _ _ M];refine bp (wpAny_standAt (bp ?_));show wpAny _ X.A (do let _ <- comprehension (.ListComp m [⟨B,f,n,0⟩] scope p) scope X.env _ (newList []) false (eval f X.env) (some (assign (.Name y t) X.env))) _ _ s
 refine bp (nn (wpAny_comprehension_free (use:=some (assign (.Name y t) X.env)) (Q:=fun _ G=>SP X O D .next G) rfl hs r S.kind S.nm
  (cF (hi O s σ H _ I h) fun v s1 h1=>cF h1 fun a6 s2 h2=>?_)) (fun _ G hq=>cI (cI hq)) fun _ _ e=>e)
 obtain⟨it,fp,tn,J,H2,e,I2,T,al,f2,hw⟩:=h2;subst e;refine sG (RR:=fun an C=>compPost (model X.prog X.w) X.A X.xe (some (assign (.Name y t) X.env)) (fun _ G=>SP X O D .next G) an C) (Q:=fun x H1=>dH j x σ H1 D.nx) S hc U Y hg ho ht he I2 T al f2 hw ?_;intro A C H' G m' I' hn ce q;show wpAny _ X.A (assign (.Name y t) X.env (.ref A)) _ _ _;refine wpAny_assign_Name (ul I' hN hj L (v:=.ref A) rfl (fun a7 as aC=>?_) hf);obtain⟨a,a0,ha⟩:=aC;have a4:C≠a:=by
  rcases ha with z|z
  ·rw[z];exact ce.loc
  ·exact g0 (ce.cells y a z)
 refine⟨m',hn.sameBut a0 a4,fun h' a5=>?_⟩;exact⟨_,H',ce.turned as a5,q⟩
end
theorem Inv.turnedNew{X:Cx}{i:Zd}{σ:St}{H:Hp}{s:Shared}{g:Heap}{t:Nat}{ch:Ze}{o:HO}(I:Inv X i σ H s)(j:∀b∈ch,l6 X i H b)
  (k:∀b q,b∉ch->s.heap.get? b=some q->g.get? b=some q) (N:∃q,g.get? s.heap.objs.size=some q) (x:∀y,o≠.own y) (new:cy X.prog X.w X.K (upd H s.heap.objs.size o) g s.heap.objs.size o) :
  Inv X i σ (upd H s.heap.objs.size o) { s with heap:=g,toks:=t }:=by
 have a:H s.heap.objs.size=none:=I.fresh;have l:∀b q,s.heap.get? b=some q->b≠s.heap.objs.size:=fun b q e=>cQ (bv e);have p:∀b u,H b=some u->b∉ch:=fun b u e z=>by rw[(j b z).1]at e;cases e
 refine I.step (g':=s.gens) (d':=s.drawn) (ch:=ch) (fun b h=>?_) (fun b q _ _ f e _=>k b q f e) (fun b q _ _ f e _=>⟨q.slots,k b q f e⟩) (fun b q _ e n=>by rw[aj (l b q e)];exact n) (fun b q f e=>⟨q,k b q f e⟩)
  (fun b A e=>by rw[aj (af e a)];exact e) (fun b q u e=>by rw[aj (af e a)];exact e) (fun b O e=>⟨#[],by rw[aj (af e a),e];simp⟩) (fun m B=>?_) (fun b u e=>?_) I.bare
 ·obtain⟨Q,C,T,D,E,G⟩:=j b h;exact⟨D,C,E,G⟩
 ·obtain⟨q,J,L,M,r⟩:=B;exact⟨q,J,L,k _ q (fun z=>(j _ z).2.1 rfl) M,r⟩
 ·by_cases h:b=s.heap.objs.size
  ·subst h;rw[aa]at e;cases e;exact new
  ·rw[aj h]at e;refine(I.hok b u e).stay (fun c v f q=>k c v ?_ q) (fun c q=>by rw[aj (af q a)];exact q) fun c A q=>by rw[aj (af q a)];exact q
   rcases f with z|z
   ·subst z;exact p _ _ e
   ·exact p _ _ z
def Hg(K:Za)(a:Addr):It :=
 ⟨fun i H=>∃xs x,ay K H a xs/\xs[i]?=some x,fun i H x H'=>∃p v,x=.ref p/\H p=none/\(∀xs,ay K H a xs->xs[i]?=some v)/\H'=upd H p (.tup [.int i,v]),fun i H=>∃xs,ay K H a xs/\xs.length<=i⟩
theorem BB{P:bR}{w:World}{K:Za}{es:List Expr}{kx:Nat}{J7:Pos}(a e it:Addr)(n:e≠it):
  sP P w K (.Tuple es kx J7) (Hg K a) [e,it] e (fun i h=>(∃f,IsEnum h e it i f)/\h.IsListIter it a i) where
 mem:=by simp
 obj:=fun i h st b m=>by
  obtain⟨⟨f,j⟩,o,J,L,hd⟩:=st;rcases cx.mp m with z|z
  ·subst z;exact⟨_,j,fun v z=>by cases z⟩
  ·have M:b=it:=by simpa using z
   subst M;exact⟨o,J,fun v z=>by rw[hd]at z;cases z⟩
 keep:=fun i h D st k=>⟨let⟨f,j⟩:=st.1;⟨f,k e (by simp) _ j⟩,st.2.at fun o e=>k it (by simp) o e⟩
 item:=by
  intro X N O Q L i J4 s σ H E I r st T;subst N O Q;obtain⟨⟨f,j⟩,l⟩:=st;obtain⟨xs,x,G,U⟩:=T;obtain⟨Y,rv,p,hz⟩:=I.list G;obtain⟨u,hu,ru⟩:=rv.get U;obtain⟨e0,e1,e2,e3,e4,e5⟩:=r e (by simp);obtain⟨f0,f1,f2,f3,f4,f5⟩:=r it (by simp);refine wpAny_pyNext_enum_item j l p.isList (x:=u) (by simpa using hu) n fun D al t an a9 as=>?_;refine⟨_,rfl,wpAny_letOwnedTupleGo_enum (s:={ s with heap:=D,toks:=s.toks+1 }) al fun h2 aC a0=>?_⟩;have g:ix e D h2:=a0;have A:s.heap.objs.size≠e:=ni (bv j);have B:h2.get? s.heap.objs.size=some { cls:=.type "tuple",data:=.seq #[.int i s.toks,u] }:=g.extBut _ _ A an;have a4:H s.heap.objs.size=none:=I.fresh;have a5:upd H s.heap.objs.size (.tup [.int i,x]) e=none:=by rw[aj (g0 A)];exact e0
  have a6:s.heap.objs.size≠it:=by
   obtain⟨o,J,_⟩:=l;exact ni (bv J)
  have a7:upd H s.heap.objs.size (.tup [.int i,x]) it=none:=by rw[aj (g0 a6)];exact f0
  have I2:Inv X J4 σ (upd H s.heap.objs.size (.tup [.int i,x])) { s with heap:=h2,toks:=s.toks+1 }:=by
   refine I.turnedNew (ch:=[e,it]) r (fun b o m q=>?_) ⟨_,B⟩ (fun _ z=>nomatch z) ⟨by show 2<=ah;decide,[.int i s.toks,u],.cons ⟨_,rfl⟩ (.cons ru .nil),⟨_,B,rfl,_,rfl⟩⟩;have C:b≠e:=fun z=>m (by simp[z]);have a8:b≠it:=fun z=>m (by simp[z]);exact g.extBut _ _ C (as b o C a8 q)
  refine⟨.ref s.heap.objs.size,_,I2,rfl,⟨_,x,rfl,a4,fun ys hy=>by rw[I.list_inj hy G];exact U,rfl⟩,⟨⟨u,by simpa using aC⟩,t.at fun o y=>(g.2 it (g0 n)).trans y⟩,fun b m=>?_⟩;rcases cx.mp m with z|z
  ·subst z;exact a5
  ·have M:b=it:=by simpa using z
   subst M;exact a7
 done:=by
  intro X N O Q L i J4 s σ H E I r st T;subst N O Q;obtain⟨⟨f,j⟩,l⟩:=st;obtain⟨xs,G,U⟩:=T;obtain⟨Y,rv,p,hz⟩:=I.list G;obtain⟨f0,f1,f2,f3,f4,f5⟩:=r it (by simp);have hl:=rv.length;exact wpAny_pyNext_enum_end (I.ok.hd L) j l p.isList (by simp;omega) fun D eb=>⟨rfl,I.turned (t':=s.toks) (fun b o m e=>eb b o m e) f0 f1 f3 f4 f5⟩
 self:=fun _ _ _ _ _ st h=>let⟨_,j⟩:=st.1;wpAny_pyIter_enum j h
section
variable{X:Cx}{p pos:Pos}{es:List Expr}{kx:Nat}{J7:Pos}
def nY(K:Za)(ta:TA):TI:=fun σ H R=>ta σ H fun vs H1=>∃a,vs=[.ref a]/\(∃xs,ay K H1 a xs)/\R (Hg K a) H1
theorem iK{a:Expr}{n:TA}(w:Gl X "enumerate")(x:X.mg "enumerate"=none)(y:PA X [a] n)(A:aK [a] X.env=[(false,eval a X.env)]:=by rfl):PI X (.Tuple es kx J7) (.Call (.Name "enumerate" p) [a] [] pos) (nY X.K n):=by
 intro r s σ H R I h;refine Call_ (mJ I w x boot_enumerate (wS (cF (y pos r s σ H _ I h) fun T s1 i=>?_) A rfl));obtain⟨U,t,g,B,C⟩:=i;obtain⟨l,e,⟨Y,D⟩,q⟩:=C;subst e;obtain⟨u,rfl,E⟩:=vals1 B;cases E;obtain⟨G,rv,J,hz⟩:=g.list D;refine call_enumerate_list J.isList fun j v k L M=>?_;refine wpAny_pyIter_enum (s:={ s1 with heap:=j }) v ?_;have m:∀b o,s1.heap.get? b=some o->j.get? b=some o:=M;have N:Inv X r σ t { s1 with heap:=j }:=g.kept (t':=s1.toks) m;refine⟨_,[s1.heap.objs.size+1,s1.heap.objs.size],_,_,t,rfl,N,BB l _ _ (Nat.succ_ne_self _),⟨⟨_,v⟩,k⟩,fun b O=>?_,q⟩;have f:s1.heap.objs.size<=b:=by
  rcases cx.mp O with z|z
  ·rw[z];exact pH _
  ·have Q:b=s1.heap.objs.size:=by simpa using z
   rw[Q];exact aB _
 exact g.fpOk f (g.hok.fresh f)
end
def HX(x:Str):It:=⟨fun i _=>i<x.cps.size,fun i H y H'=>H'=H/\∃c,x.cps[i]?=some c/\y=.str ⟨#[c]⟩,fun i _=>x.cps.size<=i⟩
theorem yS{P:bR}{w:World}{K:Za}{J:Expr}(x:Str)(t:Tok)(it:Addr):sP P w K J (HX x) [it] it (fun i h=>h.IsStrIter it "str_ascii_iterator" x t i) where
 mem:=by simp
 obj:=fun i h st b a=>by
  have e:b=it:=by simpa using a
  subst e;obtain⟨o,e,c,d⟩:=st;exact⟨o,e,fun v z=>by rw[d]at z;cases z⟩
 keep:=fun i h g st k=>by
  obtain⟨o,e,c,d⟩:=st;exact⟨o,k it (by simp) o e,c,d⟩
 item:=by
  intro X l m n C i D s σ H E I j st p;subst l m n;have q:i<x.cps.size:=p;obtain⟨r,u,L,y,A,B⟩:=j it (by simp);have G:x.cps[i]?=some x.cps[i]:=by simp[q]
  refine wpAny_pyNext_ascii_item st G fun g f M=>?_;have N:Inv X D σ H { s with heap:=g,toks:=s.toks+1 }:=I.turned (t':=s.toks+1) (fun b o a e=>(M.2 b a).trans e) r u y A B;obtain⟨o,e,c,d⟩:=id f;exact⟨_,rfl,so (s:={ s with heap:=g,toks:=s.toks+1 }) e c d (by decide) ⟨.str ⟨#[x.cps[i]]⟩,H,N,⟨_,rfl⟩,⟨rfl,_,G,rfl⟩,f,fun b a=>(j b a).1⟩⟩
 done:=by
  intro X l m n C i D s σ H E I j st p;subst l m n;have O:x.cps.size<=i:=p;obtain⟨r,u,L,y,A,B⟩:=j it (by simp);exact wpAny_pyNext_ascii_end (I.ok.hd C) st (by simp;omega) fun g Q=>⟨rfl,I.turned (t':=s.toks) (fun b o a e=>Q b o a e) r u y A B⟩
 self:=fun _ _ _ _ _ st h=>wpAny_pyIter_striter_ascii st h
theorem BA{P:bR}{w:World}{K:Za}{J:Expr}(x:Str)(t:Tok)(it:Addr):sP P w K J (HX x) [it] it (fun i h=>h.IsStrIter it "str_iterator" x t i) where
 mem:=by simp
 obj:=fun i h st b a=>by
  have e:b=it:=by simpa using a
  subst e;obtain⟨o,e,c,d⟩:=st;exact⟨o,e,fun v z=>by rw[d]at z;cases z⟩
 keep:=fun i h g st k=>by
  obtain⟨o,e,c,d⟩:=st;exact⟨o,k it (by simp) o e,c,d⟩
 item:=by
  intro X l m n C i D s σ H E I j st p;subst l m n;have q:i<x.cps.size:=p;obtain⟨r,u,L,y,A,B⟩:=j it (by simp);have G:x.cps[i]?=some x.cps[i]:=by simp[q]
  refine wpAny_pyNext_wide_item st G fun g f M=>?_;have N:Inv X D σ H { s with heap:=g,toks:=s.toks+1 }:=I.turned (t':=s.toks+1) (fun b o a e=>(M.2 b a).trans e) r u y A B;obtain⟨o,e,c,d⟩:=id f;exact⟨_,rfl,so (s:={ s with heap:=g,toks:=s.toks+1 }) e c d (by decide) ⟨.str ⟨#[x.cps[i]]⟩,H,N,⟨_,rfl⟩,⟨rfl,_,G,rfl⟩,f,fun b a=>(j b a).1⟩⟩
 done:=by
  intro X l m n C i D s σ H E I j st p;subst l m n;have O:x.cps.size<=i:=p;obtain⟨r,u,L,y,A,B⟩:=j it (by simp);exact wpAny_pyNext_wide_end (I.ok.hd C) st (by simp;omega) fun g Q=>⟨rfl,I.turned (t':=s.toks) (fun b o a e=>Q b o a e) r u y A B⟩
 self:=fun _ _ _ _ _ st h=>wpAny_pyIter_striter_wide st h
section
variable{X:Cx}{p pos:Pos}{tg:Expr}
def HA(tl:TE):TI:=fun σ H R=>tl σ H fun v H1=>∃x,v=.str x/\R (HX x) H1
theorem GJ{l:Expr}{k:TE}(r:PE X l k):PI X tg l (HA k):=by
 intro m s σ H R I h;refine cF (r m s σ H _ I h) fun v a i=>?_;obtain⟨y,j,g,u,w⟩:=i;obtain⟨x,e,q⟩:=w;subst e;obtain⟨t,rfl⟩:=u;have f:∀b∈[a.heap.objs.size],l6 X m j b:=fun b z=>by
  have e:b=a.heap.objs.size:=by simpa using z
  subst e;exact g.fpOk (aB _) (g.hok.fresh (aB _))
 cases n:x.cps.all (·<128)
 ·refine wpAny_pyIter_wide n ?_;exact⟨a.heap.objs.size,[a.heap.objs.size],_,_,j,rfl,g.kept (t':=a.toks) fun b o e=>cC _ e,BA x t _,⟨_,fy _ rfl,rfl,rfl⟩,f,q⟩
 ·refine wpAny_pyIter_ascii n ?_;exact⟨a.heap.objs.size,[a.heap.objs.size],_,_,j,rfl,g.kept (t':=a.toks) fun b o e=>cC _ e,yS x t _,⟨_,fy _ rfl,rfl,rfl⟩,f,q⟩
end
def Hf(K:Za)(a b:Addr):It :=
  ⟨fun i H=>∃xs ys x y,ay K H a xs/\ay K H b ys/\xs[i]?=some x/\ys[i]?=some y,
   fun i H x H'=>∃p u v,x=.ref p/\H p=none/\(∀xs,ay K H a xs->xs[i]?=some u)/\(∀ys,ay K H b ys->ys[i]?=some v)/\H'=upd H p (.tup [u,v]),
   fun i H=>∃xs ys,ay K H a xs/\ay K H b ys/\(xs.length<=i∨ys.length<=i)⟩
theorem Db{P:bR}{w:World}{K:Za}{es:List Expr}{kx:Nat}{J7:Pos}(a b z TI TO t A:Addr)(D:ZipApart z TI TO t A a b):
  sP P w K (.Tuple es kx J7) (Hf K a b) [z,TI,TO,t,A] z (fun i h=>IsZip h z TI TO .none/\IsPair h TI (.ref t) (.ref A)/\(∃a b,IsPair h TO a b)/\h.IsListIter t a i/\h.IsListIter A b i) where
 mem:=by simp
 obj:=fun i h st c f=>by
  obtain⟨p,j,⟨u,v,l⟩,G,J⟩:=st;simp only[cx,List.not_mem_nil,or_false]at f;rcases f with rfl|rfl|rfl|rfl|rfl
  ·exact⟨_,p,fun v z=>by cases z⟩
  ·exact⟨_,j,fun v z=>by cases z⟩
  ·exact⟨_,l,fun v z=>by cases z⟩
  ·obtain⟨o,e,c,d⟩:=G;exact⟨o,e,fun v z=>by rw[d]at z;cases z⟩
  ·obtain⟨o,e,c,d⟩:=J;exact⟨o,e,fun v z=>by rw[d]at z;cases z⟩
 keep:=fun i h N st k=>by
  obtain⟨p,j,⟨u,v,l⟩,G,J⟩:=st;exact⟨k z (by simp) _ p,k TI (by simp) _ j,⟨u,v,k TO (by simp) _ l⟩,G.at fun o e=>k t (by simp) o e,J.at fun o e=>k A (by simp) o e⟩
 item:=by
  intro X hP hw hK f i J4 s σ H E I M st hg;subst hP hw hK;obtain⟨p,j,⟨u0,v0,l⟩,G,J⟩:=st;obtain⟨xs,ys,x,y,B,C,hx,hy⟩:=hg;obtain⟨aC,rx,px,zx⟩:=I.list B;obtain⟨a0,ry,py,zy⟩:=I.list C;obtain⟨u,hu,ru⟩:=rx.get hx;obtain⟨v,hv,rv⟩:=ry.get hy;refine wpAny_pyNext_zip_item D p j l G J px.isList py.isList (x:=u) (y:=v) (by simpa using hu) (by simpa using hv) fun N a1 a2 a3 a4 a5 a6 hk=>?_;refine⟨_,rfl,wpAny_letOwnedTupleGo_zip (s:={ s with heap:=N }) a1 fun L a7 a8=>?_⟩;have g:ix z N L:=a8;have O:s.heap.objs.size≠z:=ni (bv p);have Q:s.heap.objs.size≠TO:=ni (bv l);have T:s.heap.objs.size≠TI:=ni (bv j);have U:s.heap.objs.size≠t:=by obtain⟨o,Y,_⟩:=G;exact ni (bv Y)
  have al:s.heap.objs.size≠A:=by obtain⟨o,Y,_⟩:=J;exact ni (bv Y)
  have an:IsPair L s.heap.objs.size u v:=g.extBut _ _ O a5;have I2:Inv X J4 σ (upd H s.heap.objs.size (.tup [x,y])) { s with heap:=L,toks:=s.toks }:=by
   refine I.turnedNew (ch:=[z,TI,TO,t,A]) M (fun c o f q=>?_) ⟨_,an⟩ (fun _ z=>nomatch z) ⟨by show 2<=ah;decide,[u,v],.cons ru (.cons rv .nil),⟨_,an,rfl,_,rfl⟩⟩;have n1:c≠z:=fun q=>f (by simp[q]);exact g.extBut _ _ n1 (hk c o n1 (fun q=>f (by simp[q])) (fun q=>f (by simp[q])) (fun q=>f (by simp[q])) q)
  refine⟨.ref s.heap.objs.size,_,I2,rfl,⟨_,x,y,rfl,I.fresh,fun zs p=>by rw[I.list_inj p B];exact hx,fun zs p=>by rw[I.list_inj p C];exact hy,rfl⟩,⟨a7,g.extBut _ _ D.TIz (hk _ _ D.TIz D.TITO D.TIi1 D.TIi2 j),⟨_,_,g.extBut _ _ D.TOz a2⟩,a3.at fun o e=>g.extBut _ _ D.i1z e,a4.at fun o e=>g.extBut _ _ D.i2z e⟩,fun c f=>?_⟩;have a9:=(M c f).1;simp only[cx,List.not_mem_nil,or_false]at f;have ne:c≠s.heap.objs.size:=by
   rcases f with rfl|rfl|rfl|rfl|rfl
   ·exact O.symm
   ·exact T.symm
   ·exact Q.symm
   ·exact U.symm
   ·exact al.symm
  rw[aj ne];exact a9
 done:=by
  intro X hP hw hK f i J4 s σ H E I M st hg;subst hP hw hK;obtain⟨p,j,⟨u0,v0,l⟩,G,J⟩:=st;obtain⟨xs,ys,B,C,as⟩:=hg;obtain⟨aC,rx,px,zx⟩:=I.list B;obtain⟨a0,ry,py,zy⟩:=I.list C;have lx:=rx.length;have ly:=ry.length;refine wpAny_pyNext_zip_end (I.ok.hd f) D p j l G J px.isList py.isList (by rcases as with q|q;exact .inl (by simp;omega);exact .inr (by simp;omega)) fun N hk=>⟨rfl,?_⟩;have tr:∀c q,H c=some q->c∉[z,TI,TO,t,A]:=fun c q e m=>by rw[(M c m).1]at e;cases e
  have kk:∀c o,c∉[z,TI,TO,t,A]->s.heap.get? c=some o->N.get? c=some o:=fun c o f q=>hk c o (fun q=>f (by simp[q])) (fun q=>f (by simp[q])) (fun q=>f (by simp[q])) (fun q=>f (by simp[q])) q;refine I.step (g':=s.gens) (d':=s.drawn) (t':=s.toks) (ch:=[z,TI,TO,t,A]) (fun c f=>?_) (fun c o _ _ f e _=>kk c o f e) (fun c o _ _ f e _=>⟨o.slots,kk c o f e⟩) (fun _ _ _ _ n=>n) (fun c o f e=>⟨o,kk c o f e⟩) (fun _ _ e=>e) (fun _ _ _ e=>e) (fun c ps e=>⟨#[],by rw[e];simp⟩) (fun m hm=>?_) (fun c q e=>?_) I.bare
  ·obtain⟨f0,f1,f2,f3,f4,f5⟩:=M c f;exact⟨f3,f1,f4,f5⟩
  ·obtain⟨q,bi,ep,Y,r⟩:=hm;exact⟨q,bi,ep,kk _ q (fun z=>(M _ z).2.1 rfl) Y,r⟩
  ·refine(I.hok c q e).stay (fun d v hd q'=>kk d v ?_ q') (fun _ q=>q) fun _ _ q=>q;rcases hd with z|z
   ·subst z;exact tr _ _ e
   ·exact tr _ _ z
 self:=fun _ _ _ _ _ st h=>wpAny_pyIter_zip st.1 h
section
variable{X:Cx}{p pos:Pos}{es:List Expr}{kx:Nat}{J7:Pos}
def D_(K:Za)(ta:TA):TI:=fun σ H R=>ta σ H fun vs H1=>∃a b,vs=[.ref a,.ref b]/\(((∃xs,ay K H1 a xs)/\(∃ys,ay K H1 b ys)/\R (Hf K a b) H1)∨False)
theorem AW{a b:Expr}{t:TA}(z:Gl X "zip")(A:X.mg "zip"=none)(B:PA X [a,b] t)(C:aK [a,b] X.env=[(false,eval a X.env),(false,eval b X.env)]:=by rfl)(f:aK [b] X.env=[(false,eval b X.env)]:=by rfl):
  PI X (.Tuple es kx J7) (.Call (.Name "zip" p) [a,b] [] pos) (D_ X.K t):=by
 intro j s σ H R I h;refine Call_ (mJ I z A boot_zip (wS (cF (B pos j s σ H _ I h) fun us s1 k=>?_) (by rw[C,f]) (by rw[f];rfl)));obtain⟨vs,l,g,D,E⟩:=k;obtain⟨G,J,e,q⟩:=E;subst e;obtain⟨u,v,rfl,L,M⟩:=vals2 D;cases L;cases M;have m:∀b∈[s1.heap.objs.size+4,s1.heap.objs.size+2,s1.heap.objs.size+3,s1.heap.objs.size,s1.heap.objs.size+1],l6 X j l b:=fun b w=>by
  have i:s1.heap.objs.size<=b:=by
   simp only[cx,List.not_mem_nil,or_false]at w;rcases w with rfl|rfl|rfl|rfl|rfl<;>omega
  exact g.fpOk i (g.hok.fresh i)
 rcases q with⟨⟨xs,N⟩,⟨ys,O⟩,q⟩|q
 ·obtain⟨Q,rx,x,zx⟩:=g.list N;obtain⟨T,ry,y,zy⟩:=g.list O;obtain⟨o1,n1,U,_⟩:=id x;obtain⟨o2,n2,Y,_⟩:=id y;refine call_zip_2 x.isList y.isList fun n a1 a2 a3 a4 a5 a6 hk=>?_;refine wpAny_pyIter_zip (s:={ s1 with heap:=n }) a1 ?_;have r:∀b o,s1.heap.get? b=some o->n.get? b=some o:=hk;have I2:Inv X j σ l { s1 with heap:=n }:=g.kept (t':=s1.toks) r;exact⟨_,_,_,_,l,rfl,I2,Db G J _ _ _ _ _ (zipApart_new (bv U) (bv Y)),⟨a1,a2,⟨_,_,a3⟩,a4,a5⟩,m,q⟩
 ·exact q.elim
end
inductive DT where
 |k (a:b0)
 |t (l:List DT)
 |s (l:List DT)
mutual
def Gz:(x y:DT)->Decidable (x=y)
 |.k a,.k b=>if h:a=b then Decidable.isTrue (by rw[h])else Decidable.isFalse fun e=>h (by injection e)
 |.t l,.t m=>match decDTs l m with
  |Decidable.isTrue h=>Decidable.isTrue (by rw[h])
  |Decidable.isFalse h=>Decidable.isFalse fun e=>h (by injection e)
 |.s l,.s m=>match decDTs l m with
  |Decidable.isTrue h=>Decidable.isTrue (by rw[h])
  |Decidable.isFalse h=>Decidable.isFalse fun e=>h (by injection e)
 |.k _,.t _=>Decidable.isFalse nofun
 |.k _,.s _=>Decidable.isFalse nofun
 |.t _,.k _=>Decidable.isFalse nofun
 |.t _,.s _=>Decidable.isFalse nofun
 |.s _,.k _=>Decidable.isFalse nofun
 |.s _,.t _=>Decidable.isFalse nofun
def decDTs:(x y:List DT)->Decidable (x=y)
 |[],[]=>Decidable.isTrue rfl
 |[],_::_=>Decidable.isFalse nofun
 |_::_,[]=>Decidable.isFalse nofun
 |a::l,b::m=>match Gz a b with
  |Decidable.isTrue h=>match decDTs l m with
   |Decidable.isTrue h'=>Decidable.isTrue (by rw[h,h'])
   |Decidable.isFalse h'=>Decidable.isFalse fun e=>h' (by injection e)
  |Decidable.isFalse h=>Decidable.isFalse fun e=>h (by injection e)
end
instance:DecidableEq DT:=Gz
mutual
def DT.depth:DT->Nat
 |.k _=>0
 |.t l=>DT.depths l+1
 |.s l=>DT.depths l+1
def DT.depths:List DT->Nat
 |[]=>0
 |a::r=>max (DT.depth a) (DT.depths r)
end
mutual
def qK(h:Heap):DT->Value->Prop
 |.k a,v=>cT a v=true
 |.t l,v=>∃a items,v=.ref a/\h.IsTuple a items/\DAts h l items.toList
 |.s l,v=>∃a items,v=.ref a/\h.IsList a items/\DAts h l items.toList
def DAts(h:Heap):List DT->List Value->Prop
 |[],vs=>vs=[]
 |k::r,vs=>∃v us,vs=v::us/\qK h k v/\DAts h r us
end
theorem DAts.length{h:Heap}:∀{f:List DT}{a:Zf},DAts h f a->f.length=a.length
 |[],a,e=>by have g:a=[]:=e;rw[g];rfl
 |x::f,a,e=>by
  obtain⟨v,j,rfl,_,i⟩:=e;simp[DAts.length i]
theorem DAts.get{h:Heap}:∀{f:List DT}{a:Zf}{i:Nat}{v:Value},DAts h f a->a[i]?=some v->∃x,f[i]?=some x/\qK h x v
 |[],a,i,v,e,q=>by have g:a=[]:=e;subst g;simp at q
 |x::f,a,i,v,e,q=>by
  obtain⟨u,n,rfl,j,k⟩:=e;cases i with
  |zero =>
   simp at q;subst q;exact⟨x,rfl,j⟩
  |succ i =>
   obtain⟨y,l,m⟩:=DAts.get k (i:=i) (v:=v) (by simpa using q);exact⟨y,by simpa using l,m⟩
theorem DT.depths_get{l:List DT}{x:DT}{i d:Nat}(h:DT.depths l<=d)(e:l[i]?=some x):x.depth<=d:=by
 induction l generalizing i with
 |nil=>simp at e
 |cons a r f =>
  have g:max a.depth (DT.depths r)<=d:=h;cases i with
  |zero=>simp at e;subst e;omega
  |succ i=>exact f (by omega) (by simpa using e)
theorem Ab{h:Heap}{a:Addr}{i j:Array Value}(x:h.IsList a i)(y:h.IsList a j):i=j:=by
 obtain⟨o,g,_,n,k⟩:=x;obtain⟨l,e,_,m,f⟩:=y;rw[g]at e;cases e;rw[k]at f;injection f
theorem x9{h:Heap}{a:Addr}{i j:Array Value}(x:h.IsTuple a i)(y:h.IsTuple a j):i=j:=by
 obtain⟨o,g,_,n,k⟩:=x;obtain⟨l,e,_,m,f⟩:=y;rw[g]at e;cases e;rw[k]at f;injection f
theorem jm{h:Heap}{a:Addr}{i j:Array Value}(x:h.IsList a i)(y:h.IsTuple a j):False:=by
 obtain⟨o,g,k,_⟩:=x;obtain⟨l,e,f,_⟩:=y;rw[g]at e;cases e;rw[k]at f;simp at f
theorem uE{a b:b0}{v:Value}(g:cT a v=true)(f:cT b v=true):a=b:=by
 rcases aE g with⟨i,t,rfl,rfl⟩|⟨i,t,rfl,rfl⟩
 ·rcases aE f with⟨j,u,rfl,e⟩|⟨j,u,rfl,e⟩
  ·cases e;rfl
  ·cases e
 ·rcases aE f with⟨j,u,rfl,e⟩|⟨j,u,rfl,e⟩
  ·cases e
  ·cases e;rfl
theorem gZ{a:b0}{b:Addr}(h:cT a (.ref b)=true):False:=by
 rcases aE h with⟨_,_,_,e⟩|⟨_,_,_,e⟩<;>cases e
theorem qK.inj{h:Heap}:∀(d:Nat) {x y:DT}{v:Value},x.depth<=d->qK h x v->qK h y v->x=y:=by
 have r:∀(d:Nat) (u:∀{x y:DT}{v:Value},x.depth<=d->qK h x v->qK h y v->x=y) (o n:List DT) (w:Zf),DT.depths o<=d->DAts h o w->DAts h n w->o=n:=by
  intro d u o
  induction o with
  |nil =>
   intro n w _ g f;have A:w=[]:=g;subst A;cases n with
   |nil=>rfl
   |cons y n=>obtain⟨_,_,e,_⟩:=f;cases e
  |cons x o B =>
   intro n w p g f;obtain⟨v,L,rfl,C,D⟩:=g;cases n with
   |nil=>have E:v::L=[]:=f;cases E
   |cons y n =>
    obtain⟨O,M,e,G,H⟩:=f;cases e;have N:max x.depth (DT.depths o)<=d:=p;rw[u (by omega) C G,B n L (by omega) D H]
 intro d
 induction d with
 |zero =>
  intro x y v p g f;cases x with
  |t l=>exact absurd p (by show ¬(DT.depths l+1<=0);omega)
  |s l=>exact absurd p (by show ¬(DT.depths l+1<=0);omega)
  |k a =>
   cases y with
   |k b=>rw[uE g f]
   |t l=>obtain⟨b,_,rfl,_⟩:=f;exact(gZ g).elim
   |s l=>obtain⟨b,_,rfl,_⟩:=f;exact(gZ g).elim
 |succ d u =>
  intro x y v p g f;cases x with
  |k a =>
   cases y with
   |k b=>rw[uE g f]
   |t l=>obtain⟨b,_,rfl,_⟩:=f;exact(gZ g).elim
   |s l=>obtain⟨b,_,rfl,_⟩:=f;exact(gZ g).elim
  |t l =>
   obtain⟨a,i,rfl,z,g⟩:=g;cases y with
   |k b=>exact(gZ f).elim
   |t m =>
    obtain⟨I,j,e,q,f⟩:=f;cases e;rw[x9 q z]at f;rw[r d (fun J=>u J) l m i.toList (by have:DT.depths l+1<=d+1:=p;omega) g f]
   |s m =>
    obtain⟨I,j,e,q,f⟩:=f;cases e;exact(jm q z).elim
  |s l =>
   obtain⟨a,i,rfl,z,g⟩:=g;cases y with
   |k b=>exact(gZ f).elim
   |s m =>
    obtain⟨I,j,e,q,f⟩:=f;cases e;rw[Ab q z]at f;rw[r d (fun J=>u J) l m i.toList (by have:DT.depths l+1<=d+1:=p;omega) g f]
   |t m =>
    obtain⟨I,j,e,q,f⟩:=f;cases e;exact(jm z q).elim
theorem fL{l m:List DT}(g:l.length=m.length):((l9 l.length).all fun j=>decide (l[j]?=m[j]?))=decide (l=m):=by
 by_cases e:l=m
 ·subst e;simp
 ·rw[zzr0 e];rw[List.all_eq_false];apply Classical.byContradiction;intro h;apply e;apply List.ext_getElem?;intro i;by_cases f:i<l.length
  ·apply Classical.byContradiction;intro a;exact h ⟨i,List.mem_range.mpr f,by simpa using a⟩
  ·rw[List.getElem?_eq_none (by omega),List.getElem?_eq_none (by omega)]
section
variable{s:Shared}
theorem Gu:∀(d:Nat) {A:Around}{x y:DT}{u v:Value},y.depth<=d->A.units+d<cLine->qK s.heap x u->qK s.heap y v->bj A s u v (decide (x=y)):=by
 have leaves:∀{A:Around}{a b:b0}{u v:Value},cT a u=true->cT b v=true->bj A s u v (decide (DT.k a=DT.k b)):=by
  intro A a b u v D I;have M:decide (DT.k a=DT.k b)=decide (a=b):=by
   by_cases e:a=b
   ·subst e;simp
   ·have:¬(DT.k a=DT.k b):=fun z=>e (by injection z);rw[zzr0 this,zzr0 e]
  rw[M];rcases aE D with⟨i,t,rfl,rfl⟩|⟨i,t,rfl,rfl⟩
  ·rcases aE I with⟨j,u,rfl,rfl⟩|⟨j,u,rfl,rfl⟩
   ·rw[v9];exact bj.int_int i t j u
   ·rw[v8];exact bj.int_str i t j u
  ·rcases aE I with⟨j,u,rfl,rfl⟩|⟨j,u,rfl,rfl⟩
   ·rw[v7];exact bj.str_int i t j u
   ·rw[v6];have:=bj.str_str (A:=A) (s:=s) i t j u;rwa[show(i==j)=decide (i=j)from by by_cases e:i=j<;>simp[e]]at this
 have kt:∀{A:Around}{a:b0}{u:Value}{b:Addr}{items:Array Value},A.units<cLine->cT a u=true->s.heap.IsTuple b items->bj A s u (.ref b) false/\bj A s (.ref b) u false:=by
  intro A a u b items p D C;rcases aE D with⟨i,t,rfl,rfl⟩|⟨i,t,rfl,rfl⟩
  ·exact⟨bj.int_tuple i t C p,bj.tuple_int i t C p⟩
  ·exact⟨bj.str_tuple i t C p,bj.tuple_str i t C p⟩
 have N:∀{A:Around}{a:b0}{u:Value}{b:Addr}{items:Array Value},A.units<cLine->cT a u=true->s.heap.IsList b items->bj A s u (.ref b) false/\bj A s (.ref b) u false:=by
  intro A a u b items p D C;rcases aE D with⟨i,t,rfl,rfl⟩|⟨i,t,rfl,rfl⟩
  ·exact⟨bj.int_list i t C p,bj.list_int i t C p⟩
  ·exact⟨bj.str_list i t C p,bj.list_str i t C p⟩
 intro d
 induction d with
 |zero =>
  intro A x y u v w p g f;cases y with
  |t l=>exact absurd w (by show ¬(DT.depths l+1<=0);omega)
  |s l=>exact absurd w (by show ¬(DT.depths l+1<=0);omega)
  |k b =>
   cases x with
   |t l =>
    obtain⟨a,i,rfl,h,_⟩:=g;rw[zzr0 (by intro z;cases z)];exact(kt (by omega) f h).2
   |s l =>
    obtain⟨a,i,rfl,h,_⟩:=g;rw[zzr0 (by intro z;cases z)];exact(N (by omega) f h).2
   |k a=>exact leaves g f
 |succ d U =>
  intro A x y u v w p g f;have items:∀{l m:List DT}{i j:Array Value},DT.depths m<=d->DAts s.heap l i.toList->DAts s.heap m j.toList->∀n (D:n<i.size) (I:n<j.size),bj A.in1 s i[n] j[n] (decide (l[n]?=m[n]?)):=by
   intro l m i j J h B n D I;obtain⟨x,ex,g⟩:=h.get (i:=n) (v:=i[n]) (by simp[D]);obtain⟨y,T,f⟩:=B.get (i:=n) (v:=j[n]) (by simp[I]);rw[ex,T];have M:decide ((some x:Option DT)=some y)=decide (x=y):=by
    by_cases e:x=y
    ·subst e;simp
    ·rw[zzr0 e,zzr0 fun z=>e (ei z)]
   rw[M];exact U (DT.depths_get J T) (by show A.units+1+d<cLine;omega) g f
  cases x with
  |k a =>
   cases y with
   |k b=>exact leaves g f
   |t l =>
    obtain⟨b,i,rfl,h,_⟩:=f;rw[zzr0 (by intro z;cases z)];exact(kt (by omega) g h).1
   |s l =>
    obtain⟨b,i,rfl,h,_⟩:=f;rw[zzr0 (by intro z;cases z)];exact(N (by omega) g h).1
  |t l =>
   have E:=g;obtain⟨a,i,rfl,h,g⟩:=g;cases y with
   |k b =>
    rw[zzr0 (by intro z;cases z)];exact(kt (by omega) f h).2
   |s m =>
    obtain⟨b,j,rfl,B,_⟩:=f;rw[zzr0 (by intro z;cases z)];exact bj.tuple_list h B (by omega)
   |t m =>
    have J:DT.depths m<=d:=by have:DT.depths m+1<=d+1:=w;omega
    have G:=f;obtain⟨b,j,rfl,B,f⟩:=f;by_cases o:a=b
    ·subst o;have e:DT.t l=DT.t m:=qK.inj _ (aB _) E G;rw[zzr1 e];exact bj.same _
    ·have r:=SeqAt.RcAt.tuples (A:=A) h B (by omega) (items J g f);have L:=g.length;have O:=f.length;simp only[pJ]at L O;have q:((l9 (min i.size j.size)).all (fun n=>decide (l[n]?=m[n]?)) && i.size==j.size)=decide (DT.t l=DT.t m):=by
      by_cases e:l.length=m.length
      ·have Q:i.size=j.size:=by omega
       rw[<-Q,Nat.min_self,<-L,fL e];by_cases H:l=m
       ·subst H;simp
       ·have:¬(DT.t l=DT.t m):=fun z=>H (by injection z);rw[zzr0 this,zzr0 H];rfl
      ·have Q:(i.size==j.size)=false:=by simp;omega
       have:¬(DT.t l=DT.t m):=fun z=>e (by injection z with z;rw[z]);rw[Q,zzr0 this,Bool.and_false]
     rw[q]at r;exact .of_refs o r
  |s l =>
   have E:=g;obtain⟨a,i,rfl,h,g⟩:=g;cases y with
   |k b =>
    rw[zzr0 (by intro z;cases z)];exact(N (by omega) f h).2
   |t m =>
    obtain⟨b,j,rfl,B,_⟩:=f;rw[zzr0 (by intro z;cases z)];exact bj.list_tuple h B (by omega)
   |s m =>
    have J:DT.depths m<=d:=by have:DT.depths m+1<=d+1:=w;omega
    have G:=f;obtain⟨b,j,rfl,B,f⟩:=f;by_cases o:a=b
    ·subst o;have e:DT.s l=DT.s m:=qK.inj _ (aB _) E G;rw[zzr1 e];exact bj.same _
    ·have L:=g.length;have O:=f.length;simp only[pJ]at L O;by_cases e:l.length=m.length
     ·have r:=SeqAt.RcAt.lists (A:=A) h B (by omega) (by omega) (items J g f);rw[<-L,fL e]at r;have q:decide (l=m)=decide (DT.s l=DT.s m):=by
       by_cases H:l=m
       ·subst H;simp
       ·have:¬(DT.s l=DT.s m):=fun z=>H (by injection z);rw[zzr0 this,zzr0 H]
      rw[q]at r;exact .of_refs o r
     ·have:¬(DT.s l=DT.s m):=fun z=>e (by injection z with z;rw[z]);rw[zzr0 this];exact .of_refs o (SeqAt.RcAt.lists_lengths h B (by simp;omega) (by omega))
end
theorem Bo(a b:b0):decide (DT.k a=DT.k b)=decide (a=b):=by
 by_cases e:a=b
 ·subst e;simp
 ·rw[zzr0 e,zzr0 fun z=>e (by injection z)]
theorem Gw(l m:List DT):decide (DT.t l=DT.t m)=decide (l=m):=by
 by_cases e:l=m
 ·subst e;simp
 ·rw[zzr0 e,zzr0 fun z=>e (by injection z)]
theorem Gx(l m:List DT):decide (DT.s l=DT.s m)=decide (l=m):=by
 by_cases e:l=m
 ·subst e;simp
 ·rw[zzr0 e,zzr0 fun z=>e (by injection z)]
theorem Ek(x y:DT):decide ((some x:Option DT)=some y)=decide (x=y):=by
 by_cases e:x=y
 ·subst e;simp
 ·rw[zzr0 e,zzr0 fun z=>e (ei z)]
section
variable{A:Around}{s:Shared}
theorem n_{d:Nat}(g:A.units+1+d<cLine){l m:List DT}{i j:Array Value}(h:DT.depths m<=d)(k:DAts s.heap l i.toList)(o:DAts s.heap m j.toList):
  ∀n (a:n<i.size) (e:n<j.size),bj A.in1 s i[n] j[n] (decide (l[n]?=m[n]?)):=by
 intro n a e;obtain⟨x,ex,p⟩:=k.get (i:=n) (v:=i[n]) (by simp[a]);obtain⟨y,f,q⟩:=o.get (i:=n) (v:=j[n]) (by simp[e]);rw[ex,f,Ek];exact Gu d (DT.depths_get h f) g p q
theorem AK{l m:List DT}{i j:Array Value}(g:DAts s.heap l i.toList)(h:DAts s.heap m j.toList):((l9 (min i.size j.size)).all (fun n=>decide (l[n]?=m[n]?)) && i.size==j.size)=decide (l=m):=by
 have f:=g.length;have k:=h.length;simp only[pJ]at f k;by_cases e:l.length=m.length
 ·have a:i.size=j.size:=by omega
  rw[<-a,Nat.min_self,<-f,fL e];simp
 ·have a:(i.size==j.size)=false:=by simp;omega
  rw[a,zzr0 fun z=>e (by rw[z]),Bool.and_false]
theorem Gr{x y:DT}{u v:Value}(q:y.depth<=14)(C:A.units+16<cLine)(o:qK s.heap x u)(f:qK s.heap y v):SeqAt.RcAt A s u v (decide (x=y)):=by
 cases x with
 |k a =>
  rcases aE (show cT a u=true from o)with⟨i,t,rfl,rfl⟩|⟨i,t,rfl,rfl⟩
  ·cases y with
   |k b =>
    rw[Bo];rcases aE (show cT b v=true from f)with⟨j,h,rfl,rfl⟩|⟨j,h,rfl,rfl⟩
    ·rw[v9];exact SeqAt.RcAt.int_int i t j h
    ·rw[v8];exact SeqAt.RcAt.int_str i t j h
   |t m=>obtain⟨b,j,rfl,g,_⟩:=f;rw[zzr0 (by intro z;cases z)];exact SeqAt.RcAt.int_tuple i t g (by omega)
   |s m=>obtain⟨b,j,rfl,g,_⟩:=f;rw[zzr0 (by intro z;cases z)];exact SeqAt.RcAt.int_list i t g (by omega)
  ·cases y with
   |k b =>
    rw[Bo];rcases aE (show cT b v=true from f)with⟨j,h,rfl,rfl⟩|⟨j,h,rfl,rfl⟩
    ·rw[v7];exact SeqAt.RcAt.str_int i t j h
    ·rw[v6];have:=SeqAt.RcAt.str_str (A:=A) (s:=s) i t j h;rwa[show(i==j)=decide (i=j)from by by_cases e:i=j<;>simp[e]]at this
   |t m=>obtain⟨b,j,rfl,g,_⟩:=f;rw[zzr0 (by intro z;cases z)];exact SeqAt.RcAt.str_tuple i t g (by omega)
   |s m=>obtain⟨b,j,rfl,g,_⟩:=f;rw[zzr0 (by intro z;cases z)];exact SeqAt.RcAt.str_list i t g (by omega)
 |t l =>
  obtain⟨a,i,rfl,n,o⟩:=o;cases y with
  |k b =>
   rw[zzr0 (by intro z;cases z)];rcases aE (show cT b v=true from f)with⟨j,h,rfl,rfl⟩|⟨j,h,rfl,rfl⟩
   ·exact SeqAt.RcAt.tuple_int j h n (by omega)
   ·exact SeqAt.RcAt.tuple_str j h n (by omega)
  |t m =>
   obtain⟨b,j,rfl,g,f⟩:=f;have p:DT.depths m<=13:=by have:DT.depths m+1<=14:=q;omega
   have r:=SeqAt.RcAt.tuples (A:=A) n g (by omega) (n_ (by omega) p o f);rw[AK o f]at r;rw[Gw];exact r
  |s m=>obtain⟨b,j,rfl,g,_⟩:=f;rw[zzr0 (by intro z;cases z)];exact SeqAt.RcAt.tuple_list n g (by omega)
 |s l =>
  obtain⟨a,i,rfl,n,o⟩:=o;cases y with
  |k b =>
   rw[zzr0 (by intro z;cases z)];rcases aE (show cT b v=true from f)with⟨j,h,rfl,rfl⟩|⟨j,h,rfl,rfl⟩
   ·exact SeqAt.RcAt.list_int j h n (by omega)
   ·exact SeqAt.RcAt.list_str j h n (by omega)
  |t m=>obtain⟨b,j,rfl,g,_⟩:=f;rw[zzr0 (by intro z;cases z)];exact SeqAt.RcAt.list_tuple n g (by omega)
  |s m =>
   obtain⟨b,j,rfl,g,f⟩:=f;have p:DT.depths m<=13:=by have:DT.depths m+1<=14:=q;omega
   have w:=o.length;have B:=f.length;simp only[pJ]at w B;rw[Gx];by_cases e:l.length=m.length
   ·have r:=SeqAt.RcAt.lists (A:=A) n g (by omega) (by omega) (n_ (by omega) p o f);rw[<-w,fL e]at r;exact r
   ·rw[zzr0 fun z=>e (by rw[z])];exact SeqAt.RcAt.lists_lengths n g (by simp;omega) (by omega)
theorem HE{x y:DT}{u v:Value}(q:y.depth<=14)(C:A.units+16<cLine)(o:qK s.heap x u)(f:qK s.heap y v):SeqAt.RcNeAt A s u v (!decide (x=y)):=by
 cases x with
 |k a =>
  rcases aE (show cT a u=true from o)with⟨i,t,rfl,rfl⟩|⟨i,t,rfl,rfl⟩
  ·cases y with
   |k b =>
    rw[Bo];rcases aE (show cT b v=true from f)with⟨j,h,rfl,rfl⟩|⟨j,h,rfl,rfl⟩
    ·rw[v9];exact SeqAt.RcNeAt.int_int i t j h
    ·rw[v8];exact SeqAt.RcNeAt.int_str i t j h
   |t m=>obtain⟨b,j,rfl,g,_⟩:=f;rw[zzr0 (by intro z;cases z)];exact SeqAt.RcNeAt.int_tuple i t g (by omega)
   |s m=>obtain⟨b,j,rfl,g,_⟩:=f;rw[zzr0 (by intro z;cases z)];exact SeqAt.RcNeAt.int_list i t g (by omega)
  ·cases y with
   |k b =>
    rw[Bo];rcases aE (show cT b v=true from f)with⟨j,h,rfl,rfl⟩|⟨j,h,rfl,rfl⟩
    ·rw[v7];exact SeqAt.RcNeAt.str_int i t j h
    ·rw[v6];have:=SeqAt.RcNeAt.str_str (A:=A) (s:=s) i t j h;rwa[show(i==j)=decide (i=j)from by by_cases e:i=j<;>simp[e]]at this
   |t m=>obtain⟨b,j,rfl,g,_⟩:=f;rw[zzr0 (by intro z;cases z)];exact SeqAt.RcNeAt.str_tuple i t g (by omega)
   |s m=>obtain⟨b,j,rfl,g,_⟩:=f;rw[zzr0 (by intro z;cases z)];exact SeqAt.RcNeAt.str_list i t g (by omega)
 |t l =>
  obtain⟨a,i,rfl,n,o⟩:=o;cases y with
  |k b =>
   rw[zzr0 (by intro z;cases z)];rcases aE (show cT b v=true from f)with⟨j,h,rfl,rfl⟩|⟨j,h,rfl,rfl⟩
   ·exact SeqAt.RcNeAt.tuple_int j h n (by omega)
   ·exact SeqAt.RcNeAt.tuple_str j h n (by omega)
  |t m =>
   obtain⟨b,j,rfl,g,f⟩:=f;have p:DT.depths m<=13:=by have:DT.depths m+1<=14:=q;omega
   have r:=SeqAt.RcNeAt.tuples (A:=A) n g (by omega) (n_ (by omega) p o f);rw[AK o f]at r;rw[Gw];exact r
  |s m=>obtain⟨b,j,rfl,g,_⟩:=f;rw[zzr0 (by intro z;cases z)];exact SeqAt.RcNeAt.tuple_list n g (by omega)
 |s l =>
  obtain⟨a,i,rfl,n,o⟩:=o;cases y with
  |k b =>
   rw[zzr0 (by intro z;cases z)];rcases aE (show cT b v=true from f)with⟨j,h,rfl,rfl⟩|⟨j,h,rfl,rfl⟩
   ·exact SeqAt.RcNeAt.list_int j h n (by omega)
   ·exact SeqAt.RcNeAt.list_str j h n (by omega)
  |t m=>obtain⟨b,j,rfl,g,_⟩:=f;rw[zzr0 (by intro z;cases z)];exact SeqAt.RcNeAt.list_tuple n g (by omega)
  |s m =>
   obtain⟨b,j,rfl,g,f⟩:=f;have p:DT.depths m<=13:=by have:DT.depths m+1<=14:=q;omega
   have w:=o.length;have B:=f.length;simp only[pJ]at w B;rw[Gx];by_cases e:l.length=m.length
   ·have r:=SeqAt.RcNeAt.lists (A:=A) n g (by omega) (by omega) (n_ (by omega) p o f);rw[<-w,fL e]at r;exact r
   ·rw[zzr0 fun z=>e (by rw[z])];exact SeqAt.RcNeAt.lists_lengths n g (by simp;omega) (by omega)
end
mutual
def jr(K:Za)(H:Hp):DT->V->Prop
 |.k a,v=>v=kV a
 |.t l,v=>∃b xs,v=.ref b/\bt K H b xs/\DIns K H l xs
 |.s l,v=>∃b xs,v=.ref b/\ay K H b xs/\DIns K H l xs
def DIns(K:Za)(H:Hp):List DT->List V->Prop
 |[],vs=>vs=[]
 |k::r,vs=>∃v us,vs=v::us/\jr K H k v/\DIns K H r us
end
section
variable{X:Cx}{J4:Zd}{σ:St}{H:Hp}{s:Shared}
theorem jR(I:Inv X J4 σ H s):∀(d:Nat) {k:DT}{v:V}{u:Value},k.depth<=d->jr X.K H k v->RelV v u->qK s.heap k u:=by
 have i:∀(d:Nat) (j:∀{k:DT}{v:V}{u:Value},k.depth<=d->jr X.K H k v->RelV v u->qK s.heap k u) (g:List DT) (m:List V) (p:Zf),DT.depths g<=d->DIns X.K H g m->aZ m p->DAts s.heap g p:=by
  intro d j g
  induction g with
  |nil =>
   intro m p _ f r;have e:m=[]:=f;subst e;cases r
   rfl
  |cons k g q =>
   intro m p h f r;obtain⟨v,x,rfl,n,D⟩:=f;cases r with
   |@cons _ u _ o E G =>
    have J:max k.depth (DT.depths g)<=d:=h;exact⟨u,o,rfl,j (by omega) n E,q x o (by omega) D G⟩
 intro d
 induction d with
 |zero =>
  intro k v u h f r;cases k with
  |t l=>exact absurd h (by show ¬(DT.depths l+1<=0);omega)
  |s l=>exact absurd h (by show ¬(DT.depths l+1<=0);omega)
  |k b =>
   have e:v=kV b:=f;subst e;exact nV (P:=X.prog) (w:=X.w) r
 |succ d j =>
  intro k v u h f r;cases k with
  |k b =>
   have e:v=kV b:=f;subst e;exact nV (P:=X.prog) (w:=X.w) r
  |t l =>
   obtain⟨b,y,rfl,z,A⟩:=f;cases(show u=Value.ref b from r);obtain⟨a,B,C,_⟩:=I.tuple z;exact⟨b,a.toArray,rfl,C,by simpa using i d (fun n=>j n) l y a (by have:DT.depths l+1<=d+1:=h;omega) A B⟩
  |s l =>
   obtain⟨b,y,rfl,z,A⟩:=f;cases(show u=Value.ref b from r);obtain⟨a,B,C,_⟩:=I.list z;exact⟨b,a.toArray,rfl,C.isList,by simpa using i d (fun n=>j n) l y a (by have:DT.depths l+1<=d+1:=h;omega) A B⟩
theorem oj(I:Inv X J4 σ H s):∀{a:List DT}{f:List V}{g:Zf},DT.depths a<=8->DIns X.K H a f->aZ f g->DAts s.heap a g
 |[],f,g,_,h,r=>by
  have e:f=[]:=h;subst e;cases r
  rfl
 |k::a,f,g,j,h,r=>by
  obtain⟨v,l,rfl,m,n⟩:=h;cases r with
  |@cons _ u _ i o p =>
   have q:max k.depth (DT.depths a)<=8:=j;exact⟨u,i,rfl,jR I 8 (by omega) m o,oj I (by omega) n p⟩
end
def mG(K:Za):R2:=fun x y H Q=>∃d e:DT,jr K H d x/\jr K H e y/\d.depth<=8/\e.depth<=8/\Q (.bl (decide (d=e))) H
def qk(K:Za):R2:=fun x y H Q=>∃d e:DT,jr K H d x/\jr K H e y/\d.depth<=8/\e.depth<=8/\Q (.bl (!decide (d=e))) H
section
variable{X:Cx}
theorem gH(f:X.A.units+16<cLine):lV X (eh .Eq) (mG X.K):=by
 intro m s σ H x y v u Q I g i h;obtain⟨d,e,j,k,l,a,q⟩:=h;exact Gr (bm a (by decide)) f (jR I 8 l j g) (jR I 8 a k i) X.prog X.w X.xe _ ⟨.bl _,H,I,rfl,q⟩
theorem kN(f:X.A.units+16<cLine):lV X (eh .NotEq) (qk X.K):=by
 intro m s σ H x y v u Q I g i h;obtain⟨d,e,j,k,l,a,q⟩:=h;exact HE (bm a (by decide)) f (jR I 8 l j g) (jR I 8 a k i) X.prog X.w X.xe _ ⟨.bl _,H,I,rfl,q⟩
def xG(K:Za):R2:=fun x y H Q=>∃d e:DT,jr K H d x/\jr K H e y/\d.depth<=40/\e.depth<=14/\Q (.bl (decide (d=e))) H
theorem zV(f:X.A.units+16<cLine):lV X (eh .Eq) (xG X.K):=by
 intro m s σ H x y v u Q I g i h;obtain⟨d,e,j,k,l,a,q⟩:=h;exact Gr a f (jR I 40 l j g) (jR I 14 a k i) X.prog X.w X.xe _ ⟨.bl _,H,I,rfl,q⟩
def mF(K:Za)(neg:Bool):R2:=fun x y H Q=>∃(d:DT) (ds:List DT) (p:Addr) (xs:List V),jr K H d x/\y=.ref p/\(ay K H p xs∨bt K H p xs)/\DIns K H ds xs/\d.depth<=8/\DT.depths ds<=8/\Q (.bl (if neg then !decide (d∈ds)else decide (d∈ds))) H
open Classical in
theorem oo{h:Heap}{d:DT}(g:d.depth<=8):∀{a:List DT}{f:Zf},DAts h a f->DT.depths a<=8->f.any (fun u=>@decide (qK h d u) (propDecidable _))=decide (d∈a)
 |[],f,e,_=>by
  have j:f=[]:=e;subst j
  rfl
 |x::a,f,e,k=>by
  obtain⟨u,l,rfl,i,m⟩:=e;have o:max x.depth (DT.depths a)<=8:=k;rw[ko,oo g m (by omega)];by_cases q:d=x
  ·subst q;simp[i]
  ·have n:¬qK h d u:=fun z=>q (qK.inj 8 g z i);simp[n,q]
open Classical in
theorem sk{A:Around}{s:Shared}{d:DT}{v:Value}(g:d.depth<=8)(i:A.units+8<cLine)(j:qK s.heap d v):∀{f:List DT}{a:Zf},DAts s.heap f a->DT.depths f<=8->∀u∈a,bj A s u v (@decide (qK s.heap d u) (propDecidable _))
 |[],a,e,_,u,hm=>by
  have k:a=[]:=e;subst k;cases hm
 |x::f,a,e,l,u,hm=>by
  obtain⟨r,m,rfl,h,o⟩:=e;have p:max x.depth (DT.depths f)<=8:=l;rcases cx.mp hm with rfl|hm
  ·have q:=Gu 8 (A:=A) g i h j;by_cases z:x=d
   ·subst z;rw[zzr1 h];rwa[zzr1 rfl]at q
   ·have n:¬qK s.heap d u:=fun w=>z (qK.inj 8 g w h).symm;rw[zzr0 n];rwa[zzr0 z]at q
  ·exact sk g i j o (by omega) u hm
theorem vW(B:X.A.units+16<cLine):lV X (eh .In) (mF X.K false):=by
 intro C s σ H x y v u Q I n o h;obtain⟨d,D,p,E,t,rfl,hq,e,f,a,q⟩:=h;cases o;have m:=jR I 8 f t n;have g:X.A.in1.units+8<cLine:=by show X.A.units+1+8<cLine;omega
 rcases hq with hq|hq
 ·obtain⟨j,r,k,z⟩:=I.list hq;have i:=oj I a e r;refine SeqAt.in_listAt _ k.isList (fun w l=>sk f g m i a w (by simpa using l)) ⟨.bl _,H,I,rfl,?_⟩;rw[u_,oo f i a];exact q
 ·obtain⟨j,r,k,z⟩:=I.tuple hq;have i:=oj I a e r;refine SeqAt.in_tupleAt _ k (fun w l=>sk f g m i a w (by simpa using l)) ⟨.bl _,H,I,rfl,?_⟩;rw[u_,oo f i a];exact q
theorem gW(B:X.A.units+16<cLine):lV X (eh .NotIn) (mF X.K true):=by
 intro C s σ H x y v u Q I n o h;obtain⟨d,D,p,E,t,rfl,hq,e,f,a,q⟩:=h;cases o;have m:=jR I 8 f t n;have g:X.A.in1.units+8<cLine:=by show X.A.units+1+8<cLine;omega
 rcases hq with hq|hq
 ·obtain⟨j,r,k,z⟩:=I.list hq;have i:=oj I a e r;refine SeqAt.notIn_listAt _ k.isList (fun w l=>sk f g m i a w (by simpa using l)) ⟨.bl _,H,I,rfl,?_⟩;rw[u_,oo f i a];exact q
 ·obtain⟨j,r,k,z⟩:=I.tuple hq;have i:=oj I a e r;refine SeqAt.notIn_tupleAt _ k (fun w l=>sk f g m i a w (by simpa using l)) ⟨.bl _,H,I,rfl,?_⟩;rw[u_,oo f i a];exact q
end
def sD(z:Str)(lo hi:Option Int):Str:=⟨((z.cps.toList.drop (HT.sIx z.length 0 lo)).take (HT.sIx z.length z.length hi-HT.sIx z.length 0 lo)).toArray⟩
theorem sliceRange_one(a b:Nat):sliceRange (a:Int) (b:Int) 1=(l9 (b-a)).map (fun k=>a+k):=by
 unfold sliceRange;simp only[show(1:Int) > 0 from by decide,if_true];by_cases h:(a:Int)<(b:Int)
 ·have e:(if(a:Int)<(b:Int)then((b:Int)-a+1-1) / 1 else 0).toNat=b-a:=by rw[if_pos h];omega
  rw[e];exact u8 fun k _=>by omega
 ·have e:(if(a:Int)<(b:Int)then((b:Int)-a+1-1) / 1 else 0).toNat=b-a:=by rw[if_neg h];omega
  rw[e];exact u8 fun k _=>by omega
theorem yo(v:Option Int)(n d:Nat):(match v with|none=>(d:Int)|some i=>max 0 (min (if i<0 then i+(n:Int)else i) (n:Int)))=((HT.sIx n d v:Nat):Int):=by
 cases v with
 |none=>rfl
 |some i =>
  rw[<-HT.clip_eq i n d];dsimp only;by_cases h:i<0
  ·rw[if_pos h,if_pos h];omega
  ·rw[if_neg h,if_neg h];omega
theorem nL(lo a:Option Int)(n:Nat):re lo a 1 n=(l9 (HT.sIx n n a-HT.sIx n 0 lo)).map (fun k=>HT.sIx n 0 lo+k):=by
 have e:=yo lo n 0;have f:=yo a n n;rw[<-sliceRange_one,<-e,<-f];unfold re;simp only[show(1:Int) > 0 from by decide,if_true];cases lo<;>cases a<;>rfl
theorem BN(z:Str)(lo e:Option Int):Txt.slice z lo e=sD z lo e:=by
 have l:HT.sIx z.length 0 lo<=z.length:=HT.sIx_le _ _ (b_ _) _;have m:HT.sIx z.length z.length e<=z.length:=HT.sIx_le _ _ (aB _) _;have g:z.cps.toList.length=z.length:=by simp[Str.length]
 have f:(re lo e 1 z.length).filterMap (z.cps[·]?)=(z.cps.toList.drop (HT.sIx z.length 0 lo)).take (HT.sIx z.length z.length e-HT.sIx z.length 0 lo):=by
  rw[nL];generalize HT.sIx z.length 0 lo=a at *;generalize HT.sIx z.length z.length e=b at *;have h:=StrLaws.picks z.cps.toList (b-a) a (by omega);simpa using h
 unfold Txt.slice;by_cases h:((1:Int)==1 && (re lo e 1 z.length).length==z.length)=true
 ·rw[if_pos h];have i:(re lo e 1 z.length).length=z.length:=by simpa using h
  rw[nL,ak,List.length_range]at i;unfold sD;have j:HT.sIx z.length 0 lo=0:=by omega
  have k:HT.sIx z.length z.length e-HT.sIx z.length 0 lo=z.cps.toList.length:=by omega
  rw[k,j,rc,a_]
 ·rw[if_neg h];unfold sD;rw[f]
section
variable{X:Cx}
def Cd:V->Option Int->Option Int->Hp->VK->Prop:=fun x lo hi H Q=>∃z,x=.str z/\z.length<=ah/\Q (.str (sD z lo hi)) H
theorem vO:GA X Cd:=by
 intro g s σ H x v m n lo p r Q I y B C f h;obtain⟨z,rfl,D,q⟩:=h;obtain⟨t,rfl⟩:=y;rw[<-BN]at q;refine⟨"str",_,F.slot_str_getitem.lookup,typeIs_str _ _ _,?_⟩;obtain⟨o,E,G,J⟩:=B;have a:∀(l u:Option (Int×Tok)),m=partValue l->n=partValue u->lo=l.map (·.1)->p=u.map (·.1)->wpAny (model X.prog X.w) X.A (mn (.str z t) (.ref r)) (EP X g σ Q) X.xe s:=by
  rintro l u rfl rfl rfl rfl;refine wpAny_getItem_str_slice (l:=l) (u:=u) (st:=none) ⟨o,E,G,J⟩ rfl (post_val_or_str ⟨bm (Txt.slice_le z _ _) D,fun e k=>⟨.str _,H,I.tok _,⟨_,rfl⟩,q⟩⟩)
 cases C with
 |none =>
  cases f with
  |none=>exact a none none rfl rfl rfl rfl
  |int j u=>exact a none (some (j,u)) rfl rfl rfl rfl
 |int i e =>
  cases f with
  |none=>exact a (some (i,e)) none rfl rfl rfl rfl
  |int j u=>exact a (some (i,e)) (some (j,u)) rfl rfl rfl rfl
theorem GF:GA X (fun x lo a H Q=>nQ X.K x lo a H Q∨Cd x lo a H Q):=eO.or vO
def Gi(K:Za):V->List V->Hp->VK->Prop:=fun x vs H Q=>∃z p ys,x=.str z/\vs=[.ref p]/\ay K H p (ys.map V.str)/\(ys.map (·.length)).sum+ys.length * z.length<=16777216/\Q (.str (u7 z ys)) H
theorem Fb{a:Zb}:∀{us:Zf},aZ (a.map V.str) us->StrsAre us a:=by
 induction a with
 |nil=>intro us r;cases r;exact .nil
 |cons y a e =>
  intro us r;cases r with
  |cons f g =>
   obtain⟨t,rfl⟩:=f;exact .cons _ _ (e g)
theorem FC:Hd X "str.join" (Gi X.K):=by
 intro m s σ H x n v o Q I a e h;obtain⟨z,p,w,rfl,rfl,f,g,q⟩:=h;obtain⟨t,rfl⟩:=a;obtain⟨u,rfl,i⟩:=e.one;cases i;obtain⟨j,r,l,_⟩:=I.list f;exact join_list l.isList (by simpa using Fb r) g fun y k=>⟨.str _,H,I.tok _,⟨_,rfl⟩,q⟩
end
section
variable{X:Cx}
def TyX(K:Za)(H:Hp)(x:V)(t:Value):Prop:=mN K H x t∨(∃a xs,x=.ref a/\t=.type "tuple"/\bt K H a xs)∨(∃a xs,x=.ref a/\t=.type "list"/\ay K H a xs)
theorem Aa{l:Zd}{σ:St}{H:Hp}{s:Shared}{A:Around}{E:Zc}{Q:Zc}{c:Value}{b:Bool}{x:V}{u t:Value}(I:Inv X l σ H s)(f:RelV x u)(g:TyX X.K H x t)(e:AD X.K t c=some b)(h:∀tk,Q (.bool b) { s with toks:=tk }):
  wpAny (model X.prog X.w) A (call (.builtin "isinstance") [u,c]) Q E s:=by
 rcases g with g|⟨a,m,rfl,rfl,q⟩|⟨a,m,rfl,rfl,q⟩
 ·exact Cr I f g e h
 ·cases(show u=Value.ref a from f);obtain⟨i,r,p,v⟩:=I.tuple q;obtain⟨o,j,k,_⟩:=p;exact i9 PySem.W.kitx_tuple I.kIn ⟨o,j,k⟩ e (fun z=>nomatch z) h
 ·cases(show u=Value.ref a from f);obtain⟨i,r,p,v⟩:=I.list q;obtain⟨o,n,j,k,_⟩:=p;exact i9 PySem.W.kitx_list I.kIn ⟨o,j,k⟩ e (fun z=>nomatch z) h
theorem yr:eM X (.builtin "isinstance") (fun a H Q=>∃x c t b,a=[x,.ty c]/\TyX X.K H x t/\AD X.K t (.type c)=some b/\Q (.bl b) H):=by
 intro j s σ H a k Q I r h;obtain⟨x,c,t,b,rfl,e,f,q⟩:=h;obtain⟨u,v,rfl,g,i⟩:=vals2 r;cases(show v=Value.type c from i);exact Aa I g e f fun tk=>⟨.bl b,H,I.tok _,rfl,q⟩
theorem Eu{bs:List Bool}{a:Zf}(r:aZ (bs.map V.bl) a){i:Nat}{v:Value}(h:a[i]?=some v):v=.bool ((bs[i]?).getD false)/\i<bs.length:=by
 have k:i<a.length:=(ca.mp h).1;have g:=r.length;rw[ak]at g;have e:i<bs.length:=by omega
 obtain⟨u,f,j⟩:=r.get (i:=i) (x:=V.bl bs[i]) (by simp[e]);rw[h]at f;cases f;refine⟨?_,e⟩;rw[bY e];exact j
theorem wA(bs:List Bool):((l9 bs.length).all fun i=>(bs[i]?).getD false)=bs.all id:=by
 induction bs with
 |nil=>rfl
 |cons b bs a =>
  rw[e_,List.range_succ_eq_map,List.all_cons,List.all_map,List.all_cons,<-a]
  rfl
theorem wz(bs:List Bool):((l9 bs.length).any fun i=>(bs[i]?).getD false)=bs.any id:=by
 induction bs with
 |nil=>rfl
 |cons b bs a =>
  rw[e_,List.range_succ_eq_map,ko,List.any_map,ko,<-a]
  rfl
theorem kS(m:X.calm=true):eM X (.builtin "all") (fun j H Q=>∃(p:Addr) (bs:List Bool),j=[.ref p]/\ay X.K H p (bs.map V.bl)/\Q (.bl (bs.all id)) H):=by
 intro t s σ H j G Q I r h;obtain⟨p,bs,rfl,x,q⟩:=h;obtain⟨u,rfl,y⟩:=vals1 r;cases y;obtain⟨a,k,f,J⟩:=I.list x;obtain⟨o,n,z,_⟩:=id f;have l:=k.length;rw[ak]at l;refine call_all_walk (wU f.isList ?_);refine⟨s.heap.objs.size,_,_,_,_,_,fun i=>(bs[i]?).getD false,rfl,Walks.list (prog:=X.prog) (w:=X.w) (A:=X.A.in1) (I.ok.hd m) s.heap.objs.size p (cQ (bv z)) a.toArray,⟨⟨_,fy _ rfl,rfl,rfl⟩,f.isList.push _⟩,?_,?_⟩
 ·intro i v L M N B g;obtain⟨e,_⟩:=Eu k (i:=i) (v:=v) (by simpa using B);rw[e];exact pN g
 ·intro C tk D;have E:Inv X t σ H { s with heap:=C,toks:=tk }:=I.kept fun b o e=>D b o (by simp;exact cQ (bv e)) (cC _ e);rw[bM,<-l,wA];exact⟨.bl _,H,E,rfl,q⟩
theorem yt(m:X.calm=true):eM X (.builtin "any") (fun j H Q=>∃(p:Addr) (bs:List Bool),j=[.ref p]/\ay X.K H p (bs.map V.bl)/\Q (.bl (bs.any id)) H):=by
 intro t s σ H j G Q I r h;obtain⟨p,bs,rfl,x,q⟩:=h;obtain⟨u,rfl,y⟩:=vals1 r;cases y;obtain⟨a,k,f,J⟩:=I.list x;obtain⟨o,n,z,_⟩:=id f;have l:=k.length;rw[ak]at l;refine call_any_walk (wU f.isList ?_);refine⟨s.heap.objs.size,_,_,_,_,_,fun i=>(bs[i]?).getD false,rfl,Walks.list (prog:=X.prog) (w:=X.w) (A:=X.A.in1) (I.ok.hd m) s.heap.objs.size p (cQ (bv z)) a.toArray,⟨⟨_,fy _ rfl,rfl,rfl⟩,f.isList.push _⟩,?_,?_⟩
 ·intro i v L M N B g;obtain⟨e,_⟩:=Eu k (i:=i) (v:=v) (by simpa using B);rw[e];exact pN g
 ·intro C tk D;have E:Inv X t σ H { s with heap:=C,toks:=tk }:=I.kept fun b o e=>D b o (by simp;exact cQ (bv e)) (cC _ e);rw[bM,<-l,wz];exact⟨.bl _,H,E,rfl,q⟩
theorem zU:lV X (eh .In) (fun x y H Q=>∃c j,x=.str ⟨#[c]⟩/\y=.str j/\Q (.bl (decide (c∈j.cps.toList))) H):=by
 intro a s σ H x y v u Q I e f h;obtain⟨c,j,rfl,rfl,q⟩:=h;rw[<-StrLaws.found_one]at q;exact Cj a s σ H _ _ v u Q I e f ⟨_,_,rfl,rfl,q⟩
theorem sK(T:X.calm=true):eM X (.type "list") (fun M H Q=>∃(d:Addr) (f:List (b0×V)),M=[.ref d]/\Rd H d (.dK f)/\∀l,H l=none->Q (.ref l) (upd H l (.lst (f.map fun g=>kV g.1)))):=by
 intro J4 s σ H M us Q I r h;obtain⟨d,f,rfl,U,q⟩:=h;obtain⟨u,rfl,Y⟩:=vals1 r;cases Y;obtain⟨z,n,N,y,dd⟩:=oh I.hok U;obtain⟨ep,E⟩:=dd.dictAt;have hl:=y.length;refine PySem.W.kdl_call (PySem.W.kdl_dict (knd:=bS X.prog X.w) (kvs:=N) (ep:=ep) n) (I.ok.hd T) E (by rw[<-hl];exact z) fun h' tk m c G hD A=>?_;have B:aZ (f.map fun g=>kV g.1) m.toList:=by
  obtain⟨hn,hP⟩:=A;have J:∀(a:Zf) (L:List (b0×V)) (C:List (b0×Value)),KV L C->a.length=C.length->(∀(j:Nat) (v:Value),a[j]?=some v->∃k x,C[j]?=some (k,x)/\(bS X.prog X.w).is k v=true)->aZ (L.map fun g=>kV g.1) a:=by
   intro a L C rl
   induction rl generalizing a with
   |nil=>intro D _;cases a with
    |nil=>exact .nil
    |cons _ _=>cases D
   |@cons p w' ps al hp _ ih =>
    intro D O;cases a with
    |nil=>cases D
    |cons v a =>
     obtain⟨k,x,e,G⟩:=O 0 v rfl;have e':w'=(k,x):=by simpa using e
     refine .cons ?_ (ih a (by simpa using D) fun j v B=>by simpa using O (j+1) v (by simpa using B));have ek:p.1=k:=by rw[hp.1,e']
     show RelV (kV p.1) v;rw[ek];rcases aE (show cT k v=true from G)with⟨i,t,rfl,rfl⟩|⟨i,t,rfl,rfl⟩
     ·exact⟨t,rfl⟩
     ·exact⟨t,rfl⟩
  exact J m.toList f N y (by rw[pJ];exact hn) fun j v B=>hP j v (by rw[<-Array.getElem?_toList];exact B)
 refine⟨.ref s.heap.objs.size,_,I.laid (o:=.lst (f.map fun g=>kV g.1)) G (aB _) ⟨by rw[ak];exact z,m.toList,c,B,by rw[Array.toArray_toList];exact hD⟩,rfl,q _ I.fresh⟩
end
section
variable{prog:bR}{w:World}{K:Type}[DecidableEq K]{knd:HeapKind prog w K}{A:Around}{E:Zc}{s:Shared}
theorem rq{d a:Addr}{h:List (K×Addr×Value)}{k:K}{v:Value}{Q:Zc}(u:knd.room A)(f:knd.is s.heap k a)(C:s.heap.DictOfH knd d h)
  (there:∀p,atKey h k=some p->Q p.2 { s with toks:=s.toks+knd.draws k })
  (new:atKey h k=none->∀r,r.DictOfH knd d (h++[(k,a,v)])->ix d s.heap r->Q v { s with heap:=r,toks:=s.toks+knd.draws k })
  (D:h.length<=ah):wpAny (model prog w) A (dictSetDefault d (.ref a) v) Q E s:=by
 obtain⟨o,I,G,i,H,g,q,l,t⟩:=C;unfold dictSetDefault
 try with_reducible refine q_ ?_
 refine bp (knd.pyHash u f ?_);refine bp (wpAny_dictFind_heap (s:={ s with toks:=s.toks+knd.draws k }) u f i g q l t ?_ ?_)
 ·intro m;have n:k∉h.map (·.1):=not_mem_keys_of_get m;refine bp (wW (bp (wpAny_updateDictKeys (hz:=by have e:=size_of_entries q;omega) (s:={ s with toks:=s.toks+knd.draws k }) i g (cI (new (atKey_none_of_get m) _ ⟨_,_,G+1,Heap.get?_update_self _ i (Obj.isFreed_of_dict (Obj.data_mapDictKeys g _)),
   H.mapDictKeys _,Obj.data_mapDictKeys g _,?_,?_,?_⟩ (ix.update ..))))))
  ·simp[q,entryOfKey]
  ·intro x hx;rcases be.mp hx with hx|hx
   ·exact knd.keeps (l x hx) i g (ix.update ..)
   ·simp only[bX]at hx;subst hx;exact knd.keeps f i g (ix.update ..)
  ·rw[au,de];refine⟨t,by simp,?_⟩;intro x hx y z;simp only[bu,List.map_nil,bX]at z;subst z;exact fun e=>n (e▸hx)
 ·intro j p B;refine bp (wpAny_dictEntries (s:={ s with toks:=s.toks+knd.draws k }) i g ?_);rw[entry_at q j,B];exact bp (wW (cI (there p (atKey_of_get t B))))
theorem nT(knd:HeapKind prog w K)(d a:Addr)(l:(d==iy)=false)(dflt:Value):
  MeetsIn prog w (g_.«dict.setdefault» ⟨[.ref d,.ref a,dflt],[]⟩) (fun A R s=>knd.room A.in1/\∃k e,knd.is s.heap k a/\s.heap.DictOfH knd d e/\e.length<=ah /\
   (∀p,atKey e k=some p->R (.ok (.ret p.2)) { s with toks:=s.toks+knd.draws k }) /\
   (atKey e k=none->∀f,f.DictOfH knd d (e++[(k,a,dflt)])->ix d s.heap f->R (.ok (.ret dflt)) { s with heap:=f,toks:=s.toks+knd.draws k })) :=
 .of_wp fun A R s ⟨m,k,e,g,j,n,o,q⟩=>by
  unfold g_.«dict.setdefault»;refine bp ?_;unfold g_.Dict.keyAndDefault;refine bp (wpAny_notOrdered_dict j.typeIs ?_);show wpAny _ _ (pure (d,Value.ref a,some dflt)) _ _ s;refine cI ?_;show wpAny _ _ (if(d==iy)=true then _ else(dictSetDefault d (.ref a) dflt >>= _)) _ _ s
  rw[if_neg (by rw[l];exact iV)];exact bp (rq m g j (fun p r=>cI ⟨p.2,rfl,o p r⟩) (fun t f h i=>cI ⟨dflt,rfl,q t f h i⟩) n)
end
section
variable{X:Cx}
def AS:V->List V->Hp->VK->Prop:=fun x vs H Q=>∃(d b:Addr) (kvs:List (TK×V)) (k:TK) (z:V),x=.ref d/\vs=[.ref b,z]/\H d=some (.dT kvs)/\ii H k (.ref b)/\k.depth<=8/\kvs.length<ah /\
 (∀v,cr kvs k=some v->Q v H)/\(cr kvs k=none->Q z (upd H d (.dT (kvs++[(k,z)]))))
theorem Cn(D:X.A.units+16<cLine):Hd X "dict.setdefault" AS:=by
 intro J4 s σ H x vs v us Q I E G h;obtain⟨d,b,a,k,z,rfl,rfl,l,q,j,hz,J,L⟩:=h;cases E;obtain⟨u,v,rfl,M,r⟩:=G.two;cases M;obtain⟨_,g,m,f,t⟩:=Gs I.hok I.kIn l;have hl:a.length=m.length:=Paired.length f;refine call_meetsIn PySem.F.slot_dict_setdefault t.typeIs PySem.F.entry_dict_setdefault (PySem.F.args_dict_setdefault_3 _ _ _) (nT (fC X.prog X.w) d b g v)
  ⟨gU D,k,m,z9 I.hok I.kIn (ii.c 8 j q) j,t,by omega,fun p N=>?_,fun O h' n T=>?_⟩
 ·have e:=f.val k;rw[N]at e;cases i:cr a k with
  |none=>rw[i]at e;exact e.elim
  |some y =>
   rw[i]at e;exact⟨y,H,I.tok _,e,J y i⟩
 ·have e:=f.val k;rw[O]at e;have i:cr a k=none:=by
   cases i:cr a k with
   |none=>rfl
   |some y=>rw[i]at e;exact e.elim
  obtain⟨o,U,Y,B,h2,h3,h4,_,h5⟩:=n;refine⟨z,_,qI (ob:=.dT (a++[(k,z)])) I (by rw[l];exact iw) T ⟨o,B⟩ ⟨by rw[aF,List.length_singleton];omega,g,_,KT.keeps (kvs:=a++[(k,z)]) (xs:=m++[(k,b,v)]) (cc f ⟨rfl,ii.c 8 j q,j,r⟩) fun c ys C=>?_,o,U,Y,B,h2,h3,h4,h5⟩,r,L i⟩;rw[aj (Gm C l (fun z=>nomatch z))];exact C
end
theorem kR:entryFor table "dict.update.loop"=some g_.«dict.update.loop»:=entryFor_of_fast (by kernel_rfl)
theorem fG:plainId "dict.update.loop"=true:=by decide +kernel
theorem v2:typeLookup (.type "list") "keys"=pure none:=am_miss_of_fast (by decide +kernel)
section
variable{prog:bR}{w:World}{A:Around}{E:Zc}{s:Shared}
theorem Co{a:Addr}{o:Obj}{m:Array Value}{k:Nat}{Q:Option Value->Shared->Prop}(n:s.heap.get? a=some o)(p:o.cls=.type "list")(f:o.data=.seq m k)(q:o.dict=none)(u:A.handled=none)
  (h:∀l tk,(∀b r,s.heap.get? b=some r->l.get? b=some r)->Q none { s with heap:=l,toks:=tk }):wpAny (model prog w) A (getAttr? (.ref a) "keys") Q E s:=by
 obtain⟨c,v,x,y⟩:=o;simp only at p f q;subst p f q;obtain⟨z,g,d,tk,os⟩:=s;have t:∀i,(⟨z,g,d,i,os⟩:Shared).TypeIs (.ref a) "list":=fun _=>⟨_,n,rfl⟩;have B:=sub_AttributeError;have C:=F.slot_list_getattribute.lookup;have D:=F.slot_list_getattribute.bind (.ref a);have G:=am_list_getattr_none;unfold getAttr? getAttrBy? getAttrBy
 repeat (any_goals (first|assumption|exact t _|((with_reducible show wpAny _ _ (call (Value.builtin "list.__getattribute__") _ _) _ _ _);refine rj F.slot_list_getattribute (t _) am_entry_list_getattribute (F.args_list_getattribute_2 _ _) (meets_getattribute_miss_list a m k y "keys" _ v2 (by decide +kernel) (by decide +kernel)) ⟨n,u,fun l i e j=>?_⟩)|wp_step))
 obtain⟨H,I,J⟩:=j.there;show wpAny _ _ (getattributeRaised _ _ _ _ _ _ _) _ _ _;unfold getattributeRaised hookOrError attributeErrorLeaves
 repeat (any_goals (first|assumption|wp_step))
 all_goals first|exact h _ _ j.keeps|trace_state
def Ap(h:Heap)(u:Value)(kv:b0×Value):Prop:=∃t ku,u=.ref t/\h.IsTuple t #[ku,kv.2]/\cT kv.1 ku=true
theorem zm{κ:Type}[DecidableEq κ](a:List (κ×Value))(k:κ)(v:Value):(stored a k v).length<=a.length+1:=by
 unfold stored;split
 ·rw[ak];omega
 ·rw[aF,List.length_singleton];exact aB _
theorem C8{R:Result->Shared->Prop}(hh:A.handled=none){D it l:Addr}{items:Array Value}{ps:List (b0×Value)}(B:D≠it)(T:l≠it)(U:l≠D)(bl:ps.length=items.size):
  ∀(n i:Nat) (s:Shared) (a:List (b0×Value)),items.size-i=n->i<=items.size->a.length+(items.size-i)<=ah->s.heap.IsListIter it l i->s.heap.IsList l items->s.heap.DictOf (bS prog w) D a ->
   (∀(j:Nat) (u:Value) (N:b0×Value),items[j]?=some u->ps[j]?=some N->Ap s.heap u N) ->
   (∀z tk,z.DictOf (bS prog w) D (merged a (ps.drop i))->(∀b o,b≠D->b≠it->s.heap.get? b=some o->z.get? b=some o)->R (.ok (.ret .none)) { s with heap:=z,toks:=tk }) ->
   zzl72 (model prog w) A (.builtin "dict.update.loop" ⟨[.ref D,.ref it,rawInt i,.none],[]⟩) R s:=by
 intro n
 induction n with
 |zero =>
  intro i s a hn hi hz p O Q Y hR;have e:i=items.size:=by omega
  subst e;refine codeAny_builtin kR ?_;rw[Around.under_plainId fG _];show wpAny _ A.in1 (pyNext (.ref it) >>= _) _ _ s;refine bp (wpAny_pyNext_list_end hh p O (by simp) fun z eb=>?_);show wpAny _ _ (g_.Dict.addKeywords D [] >>= _) _ _ _;refine bp (cI (cI ?_));have C:z.DictOf (bS prog w) D a:=Q.extBut eb B;have q:=hR z s.toks (by rw[oJ (by omega)];exact C) fun b o _ hb e=>eb b o hb e;exact q
 |succ n ih =>
  intro i s a hn hi hz p O Q Y hR;have I:i<items.size:=by omega
  refine codeAny_builtin kR ?_;rw[Around.under_plainId fG _];show wpAny _ A.in1 (pyNext (.ref it) >>= _) _ _ s;have hu:items[i]?=some items[i]:=by simp[I]
  have hk:ps[i]?=some ps[i]:=bY (by omega);obtain⟨t,ku,eu,ht,al⟩:=Y i _ _ hu hk;refine bp (wpAny_pyNext_list_item p O (x:=items[i]) hu fun h J an=>?_);rw[eu];have m:ix it s.heap h:=an;have nt:t≠it:=by
   rintro rfl;obtain⟨o,G,L,_⟩:=ht;obtain⟨o',f,g,_⟩:=p;rw[G]at f;cases f;rw[L]at g;simp at g
  have M:h.IsTuple t #[ku,ps[i].2]:=ht.extBut m.extBut nt;have as:Shared.TypeIs { s with heap:=h } (.ref t) "tuple":=M.typeIs (s:={ s with heap:=h });obtain⟨ot,aC,bn,b1,a0⟩:=id M;refine bp (q_ ?_);refine bp (wpAny_tryCatch ?_);unfold g_.Dict.pairItems;refine bp (wpAny_typeOf as ?_);rw[if_pos (by decide)];refine bp (wpAny_seqItems aC a0 (cI ?_));show wpAny _ _ (kf [ku,ps[i].2] (dictSet D ku ps[i].2)) _ _ _;have a4:h.DictOf (bS prog w) D a:=Q.extBut m.extBut B;refine q_ (wpAny_dictSet_pairs (knd:=bS prog w) (k:=ps[i].1) al a4 (fun y a5 a6=>?_) (by omega));have v:ix D h y:=a6;show wpAny _ _ (again _) _ _ _;refine cI ⟨plainId_quiet fG _,?_⟩;have a7:h.IsList l items:=O.extBut m.extBut T;have kp:∀b o,b≠D->b≠it->s.heap.get? b=some o->y.get? b=some o:=fun b o h y e=>v.extBut b o h (m.extBut b o y e);refine ih (i+1) _ (stored a ps[i].1 ps[i].2) (by omega) I (by have:=zm a ps[i].1 ps[i].2;omega) (J.extBut v.extBut (g0 B)) (a7.extBut v.extBut U) a5 (fun j u N h y=>?_) fun z tk C a8=>?_
  ·obtain⟨t2,a9,e2,H,bi⟩:=Y j u N h y;have n1:t2≠it:=by
    rintro rfl;obtain⟨o,G,L,_⟩:=H;obtain⟨o',f,g,_⟩:=p;rw[G]at f;cases f;rw[L]at g;simp at g
   have n2:t2≠D:=by
    rintro rfl;obtain⟨o,G,L,_⟩:=H;obtain⟨o',_,_,f,g,_⟩:=Q;rw[G]at f;cases f;have:=g.1;rw[L]at this;simp at this
   obtain⟨o,G,r⟩:=H;exact⟨t2,a9,e2,⟨o,kp _ o n2 n1 G,r⟩,bi⟩
  ·refine hR z tk ?_ fun b o h y e=>a8 b o h y (kp b o h y e);have ed:ps.drop i=ps[i]::ps.drop (i+1):=mi (by omega);rw[ed];exact C
theorem qp{l:Addr}{o:Obj}{items:Array Value}{n:Nat}{ps:List (b0×Value)}{Q:Zc}(T:A.handled=none)(U:s.heap.get? l=some o)(J:o.cls=.type "list")(v:o.data=.seq items n)(L:o.dict=none)
  (M:ps.length=items.size) (hp:∀(j:Nat) (u:Value) (H:b0×Value),items[j]?=some u->ps[j]?=some H->Ap s.heap u H) (hz:items.size<=ah)
  (h:∀x tk,x.DictOf (bS prog w) s.heap.objs.size (merged [] ps)->(∀b o,s.heap.get? b=some o->x.get? b=some o)->Q (.ref s.heap.objs.size) { s with heap:=x,toks:=tk }) :
  wpAny (model prog w) A (call (.type "dict") [.ref l]) Q E s:=by
 refine callType_codes (Q₁:=fun y m=>y=.ref s.heap.objs.size/\m={ s with heap:=s.heap.push { cls:=.type "dict",data:=.dict #[] } }) F.kt_called_dict (F.kt_typeCall_dict_1 _) F.entry_dict_init (kt_code_dict_new _ ⟨rfl,rfl⟩) ?_;rintro y m ⟨rfl,rfl⟩;have f:(s.heap.push { cls:=.type "dict",data:=.dict #[] }).DictOf (bS prog w) s.heap.objs.size []:=Heap.DictOf.new s.heap;have p:(s.heap.push { cls:=.type "dict",data:=.dict #[] }).get? l=some o:=cC _ U;have z:l<s.heap.objs.size:=bv U;refine⟨f.typeIs,F.args_dict_init_2 _ _,?_⟩;unfold g_.«dict.__init__»;refine bp ?_;unfold g_.Dict.selfAndRest;refine bp (wpAny_notOrdered_dict f.typeIs ?_);show wpAny _ _ (pure (s.heap.objs.size,[Value.ref l])) _ _ _;refine cI ?_;show wpAny _ _ (g_.Dict.updateFrom "dict.__init__" s.heap.objs.size (.ref l) [] .none) _ _ _;unfold g_.Dict.updateFrom;have N:Shared.TypeIs { s with heap:=s.heap.push { cls:=.type "dict",data:=.dict #[] } } (.ref l) "list":=⟨o,p,J⟩;refine bp (wpAny_typeOf N ?_);rw[if_pos (by decide)];refine bp (Co p J v L T fun q O k1=>?_);have k:∀b I,(s.heap.push { cls:=.type "dict",data:=.dict #[] }).get? b=some I->q.get? b=some I:=k1;rw[if_pos (by rfl:(none:Option Value).isNone=true)];refine bp (wW ?_);have B:q.IsList l items:=⟨o,k _ _ p,J,n,v⟩;refine bp (wU (s:={ s with heap:=q,toks:=O }) B ?_);have C:q.DictOf (bS prog w) s.heap.objs.size []:=by
  obtain⟨Y,es,ep,g,r⟩:=f;exact⟨Y,es,ep,k _ _ g,r⟩
 have i:s.heap.objs.size<q.objs.size:=by
  obtain⟨Y,es,ep,g,r⟩:=C;exact bv g
 refine cI ⟨plainId_quiet fG _,?_⟩;refine C8 (A:=A.in1) (prog:=prog) (w:=w) T (D:=s.heap.objs.size) (it:=q.objs.size) (l:=l) (items:=items) (ps:=ps) (cQ i) (cQ (Nat.lt_trans z i)) (cQ z) M items.size 0 _ [] (Nat.sub_zero _) (b_ _) (by rw[vd];omega)
  ⟨_,fy _ rfl,rfl,rfl⟩ (B.push _) (C.push _) (fun j u H a b=>?_) fun x tk G kp=>?_
 ·obtain⟨t,ku,e,ht,hk⟩:=hp j u H a b;obtain⟨ot,g,r⟩:=ht;exact⟨t,ku,e,⟨ot,cC _ (k _ _ (cC _ g)),r⟩,hk⟩
 ·rw[rc]at G;refine⟨rfl,h x tk G fun b I e=>kp b I (cQ (bv e)) (cQ (Nat.lt_trans (bv e) i)) (cC _ (k _ _ (cC _ e)))⟩
end
section
variable{X:Cx}
theorem wu(hc:X.calm=true):eM X (.type "dict") (fun Y H Q=>∃(l:Addr) (k:Ze) (f:List (b0×V)),Y=[.ref l]/\ay X.K H l (k.map V.ref)/\k.length=f.length /\
  (∀(j:Nat) (t:Addr) (g:b0×V),k[j]?=some t->f[j]?=some g->H t=some (.tup [kV g.1,g.2]))/\∀p,H p=none->Q (.ref p) (upd H p (.dK (eC [] f)))):=by
 intro J4 s σ H Y us Q I r h;obtain⟨l,k,f,rfl,v,z,D,q⟩:=h;obtain⟨u,rfl,ru⟩:=vals1 r;cases ru;obtain⟨E,rv,⟨o,n,ho,G,J,L⟩,M⟩:=I.list v;have N:∀(k:Ze) (f:List (b0×V)),k.length=f.length->(∀(j:Nat) (t:Addr) (g:b0×V),k[j]?=some t->f[j]?=some g->H t=some (.tup [kV g.1,g.2]))->∃y:List (b0×Value),KV f y/\∀(j:Nat) (t:Addr) (g:b0×Value),k[j]?=some t->y[j]?=some g->Ap s.heap (.ref t) g:=by
  intro k
  induction k with
  |nil =>
   intro f v _;cases f with
   |nil=>exact⟨[],.nil,fun j t g e=>by simp at e⟩
   |cons _ _=>cases v
  |cons t k ih =>
   intro f v D;cases f with
   |nil=>cases v
   |cons g f =>
    obtain⟨y,O,r2⟩:=ih f (by simpa using v) fun j T m a b=>D (j+1) T m (by simpa using a) (by simpa using b);obtain⟨_,al,rt,p⟩:=(show cy X.prog X.w X.K H s.heap t (.tup [kV g.1,g.2])from I.hok t _ (D 0 t g rfl rfl));obtain⟨a,b,e,ra,rb⟩:=rt.two;subst e;refine⟨(g.1,b)::y,.cons ⟨rfl,rb⟩ O,fun j T m A U=>?_⟩;cases j with
    |zero =>
     simp at A U;subst A U;exact⟨t,a,rfl,p,nV (P:=X.prog) (w:=X.w) ra⟩
    |succ j=>exact r2 j T m (by simpa using A) (by simpa using U)
 obtain⟨y,B,pa⟩:=N k f z D;have C:=rv.length;rw[ak]at C;have an:=B.length;refine qp (prog:=X.prog) (w:=X.w) (ps:=y) (I.ok.hd hc) ho G L J (by rw[bM];omega) (fun j u g a b=>?_) (by rw[bM,<-C];rw[ak]at M;exact M) fun h' tk hD kp=>?_
 ·have a':E[j]?=some u:=by simpa using a
  have hj:j<k.length:=by
   have:=(ca.mp a').1;omega
  obtain⟨u',e1,O⟩:=rv.get (i:=j) (x:=V.ref k[j]) (by simp[hj]);rw[a']at e1;cases e1;cases(show u=Value.ref k[j]from O);exact pa j k[j] g (by simp[hj]) b
 ·have hm:(eC [] f).length<=ah:=by
   have A:=iX f [];rw[vd]at A;rw[ak]at M;omega
  exact⟨.ref s.heap.objs.size,_,I.laid (o:=.dK (eC [] f)) kp (aB _) (Ah hm (beq_eq_false_iff_ne.mpr (g0 (cQ I.big))) (B.merge .nil) hD),rfl,q _ I.fresh⟩
end
abbrev dR:R2:=AT fun i j=>.int (i+j)
abbrev Gf:R2:=AT fun i j=>.int (i-j)
abbrev kG:R2:=rI EJ fun i j=>.int (i * j)
abbrev iJ:R2:=rI (fun _ j=>0<j) fun i j=>.int (i % j)
abbrev DA:R2:=rI HN fun i j=>.int (i / j)
abbrev Gg:R2:=rI HM fun i j=>.int (i ^ j.toNat)
abbrev Cg:R2:=AT fun i j=>.bl (decide (i<j))
abbrev rLeI:R2:=AT fun i j=>.bl (decide (i<=j))
abbrev Ch:R2:=AT fun i j=>.bl (decide (j<i))
abbrev rGeI:R2:=AT fun i j=>.bl (decide (j<=i))
abbrev Gk:R2:=fun x y H Q=>∃i j,x=.str i/\y=.str j/\i.length+j.length<=ah/\Q (.str (i++j)) H
abbrev rInS:R2:=fun x y H Q=>∃c j,x=.str ⟨#[c]⟩/\y=.str j/\Q (.bl (decide (c∈j.cps.toList))) H
abbrev rSlA(K:Za):V->Option Int->Option Int->Hp->VK->Prop:=fun x lo hi H Q=>nQ K x lo hi H Q∨Cd x lo hi H Q
abbrev Hr(K:Za):List V->Hp->VK->Prop:=fun xs H Q=>∃x c t b,xs=[x,.ty c]/\TyX K H x t/\AD K t (.type c)=some b/\Q (.bl b) H
abbrev GH(K:Za):List V->Hp->VK->Prop:=fun xs H Q=>∃(p:Addr) (bs:List Bool),xs=[.ref p]/\ay K H p (bs.map V.bl)/\Q (.bl (bs.all id)) H
abbrev rAny(K:Za):List V->Hp->VK->Prop:=fun xs H Q=>∃(p:Addr) (bs:List Bool),xs=[.ref p]/\ay K H p (bs.map V.bl)/\Q (.bl (bs.any id)) H
abbrev Dx(K:Za):List V->Hp->VK->Prop:=fun xs H Q=>∃p ys,xs=[.ref p]/\((ay K H p ys/\∀l,H l=none->Q (.ref l) (upd H l (.tup ys)))∨(bt K H p ys/\Q (.ref p) H))
abbrev Fn(K:Za):List V->Hp->VK->Prop:=fun xs H Q=>∃(l:Addr) (ts:Ze) (kvs:List (b0×V)),xs=[.ref l]/\ay K H l (ts.map V.ref)/\ts.length=kvs.length /\
  (∀(j:Nat) (t:Addr) (kv:b0×V),ts[j]?=some t->kvs[j]?=some kv->H t=some (.tup [kV kv.1,kv.2]))/\∀p,H p=none->Q (.ref p) (upd H p (.dK (eC [] kvs)))
abbrev cU(K:Za):List V->Hp->VK->Prop:=fun xs H Q =>
 (∃p ys,xs=[.ref p]/\(ay K H p ys∨bt K H p ys)/\∀l,H l=none->Q (.ref l) (upd H l (.lst ys))) ∨
 (∃(d:Addr) (kvs:List (b0×V)),xs=[.ref d]/\Rd H d (.dK kvs)/\∀l,H l=none->Q (.ref l) (upd H l (.lst (kvs.map fun kv=>kV kv.1))))
abbrev dh(K:Za):List V->Hp->VK->Prop:=fun xs H Q =>
 (∃p ys,xs=[.ref p]/\(ay K H p ys∨bt K H p ys)/\Q (.int ys.length) H)∨(∃z,xs=[.str z]/\z.length<=ah/\Q (.int z.length) H)
theorem yu:jc "isinstance"=some (.builtin "isinstance"):=by decide +kernel
theorem sM:jc "list"=some (.type "list"):=by decide +kernel
theorem iO:jc "tuple"=some (.type "tuple"):=by decide +kernel
theorem Ao:jc "dict"=some (.type "dict"):=by decide +kernel
theorem CL:jc "int"=some (.type "int"):=by decide +kernel
section
variable{X:Cx}{p pos:Pos}
theorem uQ:eM X (.builtin "len") (dh X.K):=wo.or wn
theorem An(a:X.calm=true):eM X (.type "list") (cU X.K):=wm.or (sK a)
theorem zS(a:Gl X "list")(e:X.mg "list"=none):PE X (.Name "list" pos) (tC (.ty "list")):=A7 a e sM rfl
theorem xK(a:Gl X "tuple")(e:X.mg "tuple"=none):PE X (.Name "tuple" pos) (tC (.ty "tuple")):=A7 a e iO rfl
end
def Gc(mg:Str->Option Value)(x:Str)(v:V):Prop:=∃u,mg x=some u/\RelV v u
theorem fZ{X:Cx}{x:Str}{v:V}{a:Pos}(e:Gl X x)(h:Gc X.mg x v)(f:(x==("__debug__":Str))=false:=by decide):PE X (.Name x a) (tC v):=by
 obtain⟨u,g,r⟩:=h;exact Fv e g r f
structure d_(P:bR)(w:World)(K:Za)(mg:Str->Option Value)(base:Heap)(x:Str)(ps:Zb)(k:Nat)(sp:Sp):Prop where
 ex:∃f fd,kY P w K mg base CX0 k f fd ps sp/\mg x=some (.ref f)/\i_ K (.ref f)=true/\Binds K fd ps []
structure New(P:bR)(w:World)(K:Za)(mg:Str->Option Value)(base:Heap)(x:Str)(C:Addr)(ps:Zb)(k:Nat)(sp:Sp):Prop where
 ex:∃f fd,kY P w K mg base CX0 k f fd ps sp/\mg x=some (.ref C)/\Mk K C f/\Binds K fd ps []
structure EE(P:bR)(w:World)(K:Za)(mg:Str->Option Value)(base:Heap)(C:Addr)(m:Str)(ps:Zb)(k:Nat)(sp:Sp):Prop where
 ex:∃f fd,kY P w K mg base CX0 k f fd ps sp/\CW K C/\FY K C m f/\Binds K fd ps []
section
variable{X:Cx}{k:Nat}{ps:Zb}{sp:Sp}{x m:Str}{C:Addr}{p pos J6:Pos}{o e:Expr}{es:List Expr}{t:TA}{ta:TE}
theorem A5(D:d_ X.prog X.w X.K X.mg X.base x ps k sp)(h:d9 k X.A)(i:Gl X x)(j:PA X (e::es) t)(a:(x==("__debug__":Str))=false:=by decide)
  (l:aK (e::es) X.env=(false,eval e X.env)::aK es X.env:=by rfl) (g:(backTo pos (aK es X.env)).any (·.1)=false:=by rfl) :
  PE X (.Call (.Name x p) (e::es) [] pos) (aH sp t):=by
 obtain⟨f,s,F,n,q,r⟩:=D.ex;exact Fy F h i n q r .nil A8 j a l g
theorem GO(D:New X.prog X.w X.K X.mg X.base x C ps k sp)(h:d9 (k+1) X.A)(i:Gl X x)(j:PA X (e::es) t)(a:(x==("__debug__":Str))=false:=by decide)
  (l:aK (e::es) X.env=(false,eval e X.env)::aK es X.env:=by rfl) (g:(backTo pos (aK es X.env)).any (·.1)=false:=by rfl) :
  PE X (.Call (.Name x p) (e::es) [] pos) (Dh C sp [] E0 t):=by
 obtain⟨f,r,F,n,M,q⟩:=D.ex;exact Fu M F h i n q .nil A8 j a l g
theorem GP{pl:Sem Bool}(M:EE X.prog X.w X.K X.mg X.base C m ps k sp)(i:d9 k X.A)(j:PE X o ta)(l:PA X (e::es) t)
  (a:aK (e::es) X.env=(false,eval e X.env)::aK es X.env:=by rfl) (g:(backTo pos (aK es X.env)).any (·.1)=false:=by rfl)
  (n:eval (.Call (.Attribute o m J6) (e::es) [] pos) X.env=(do
   let h <- eval o X.env
   pK J6.atName
   let(f,first) <- kf [h] (pI h m pl)
   uc pos f first (backTo pos (aK (e::es) X.env)) (nc pos (m_ [] X.env))):=by rfl) :
  PE X (.Call (.Attribute o m J6) (e::es) [] pos) (fb C m sp [] E0 ta t):=by
 obtain⟨f,s,F,c,q,r⟩:=M.ex;exact Ft j c q F i r .nil A8 l a g n
theorem Fs{pl:Sem Bool}(M:EE X.prog X.w X.K X.mg X.base C m ps k sp)(g:d9 k X.A)(h:PE X o ta)
  (i:eval (.Call (.Attribute o m J6) [] [] pos) X.env=(do
   let a <- eval o X.env
   pK J6.atName
   let(f,first) <- kf [a] (pI a m pl)
   uc pos f first (backTo pos (aK [] X.env)) (nc pos (m_ [] X.env))):=by rfl) :
  PE X (.Call (.Attribute o m J6) [] [] pos) (fb C m sp [] E0 ta bd):=by
 obtain⟨f,n,F,c,j,l⟩:=M.ex;exact DF h c j F g l .nil A8 i
end
def HB(K:Za)(tl:TE):TI:=fun σ H R=>tl σ H fun x H1=>∃a,x=.ref a/\(((∃xs,ay K H1 a xs)/\R (F0 K a) H1)∨((∃xs,bt K H1 a xs)/\R (EH K a) H1))
theorem GK{X:Cx}{u l:Expr}{r:TE}(w:PE X l r):PI X u l (HB X.K r):=by
 intro t s σ H R I h;refine cF (w t s σ H _ I h) fun v f j=>?_;obtain⟨x,k,g,y,z⟩:=j;obtain⟨a,e,q⟩:=z;subst e;cases y;have i:∀b∈[f.heap.objs.size],l6 X t k b:=fun b A=>by
  have e:b=f.heap.objs.size:=by simpa using A
  subst e;exact g.fpOk (aB _) (g.hok.fresh (aB _))
 rcases q with⟨⟨B,m⟩,q⟩|⟨⟨B,m⟩,q⟩
 ·obtain⟨n,C,p,D⟩:=g.list m;refine wU p.isList ?_;exact⟨f.heap.objs.size,[f.heap.objs.size],_,_,k,rfl,g.kept (t':=f.toks) fun b o e=>cC _ e,uh a _,⟨_,fy _ rfl,rfl,rfl⟩,i,q⟩
 ·obtain⟨n,C,p,D⟩:=g.tuple m;refine wpAny_pyIter_tuple p ?_;exact⟨f.heap.objs.size,[f.heap.objs.size],_,_,k,rfl,g.kept (t':=f.toks) fun b o e=>cC _ e,rB a _,⟨_,fy _ rfl,rfl,rfl⟩,i,q⟩
theorem ig{K:Za}{a:Addr}{xs:List V}{g:TG}{k:TS}{D:ox}{σ:St}{H:Hp}(Pv:Nat->St->Hp->Prop)(n:Pv 0 σ H)(o:∀i σ H,i<=xs.length->Pv i σ H->ay K H a xs)
  (r:∀i x σ H p,xs[i]?=some x->Pv i σ H->H p=none->g (.ref p) σ (upd H p (.tup [.int i,x])) fun σ2 j=>k { D with nx:=Pv (i+1),ct:=Pv (i+1),bk:=D.nx } σ2 j) (s:∀σ H,Pv xs.length σ H->D.nx σ H) :
  ∃W:Nat->Nat->St->Hp->Prop,(∃m,W 0 m σ H)/\∀i m σ H,W i m σ H ->
   ((Hg K a).stop i H/\D.nx σ H)∨((Hg K a).go i H/\∃N:St->Hp->Prop,(∀σ' f,N σ' f->∃l,l<m/\W (i+1) l σ' f)/\∀x f,(Hg K a).yld i H x f->g x σ f fun σ2 j=>k { D with nx:=N,ct:=N,bk:=D.nx } σ2 j):=by
 refine⟨fun i m σ H=>m=xs.length-i/\i<=xs.length/\Pv i σ H,⟨xs.length,by simp,b_ _,n⟩,?_⟩;rintro i m σ H ⟨rfl,u,p⟩;have q:=o i σ H u p;by_cases h:i<xs.length
 ·refine .inr ⟨⟨xs,xs[i],q,by simp[h]⟩,Pv (i+1),fun σ' f w=>⟨xs.length-(i+1),by omega,rfl,h,w⟩,fun x f y=>?_⟩;obtain⟨t,v,rfl,z,A,rfl⟩:=y;exact r i v σ H t (A xs q) p z
 ·have e:i=xs.length:=by omega
  subst e;exact .inl ⟨⟨xs,q,aB _⟩,s σ H p⟩
def Wc(n:Nat)(Pv:Nat->List V->Hp->Prop):Nat->Nat->List V->Hp->Prop:=fun i m vs H=>m=n-i/\i<=n/\Pv i vs H
theorem m8{n i:Nat}{Pv:Nat->List V->Hp->Prop}{a:List V}{H:Hp}(f:i<n)(p:Pv (i+1) a H):∃e,e<n-i/\Wc n Pv (i+1) e a H:=⟨n-(i+1),by omega,rfl,f,p⟩
abbrev c9(k:Nat)(fi:List Nat)(σ:St)(J:It)(g:TG)(tc:TT)(te:TE)(H1:Hp)(l:Addr)(Q:Hp->Prop):Prop :=
 ∃W:Nat->Nat->List V->Hp->Prop,(∃m,W 0 m [] (upd H1 l (.lst [])))/\∀i m vs H2,W i m vs H2->H2 l=some (.lst vs) /\
  ((J.stop i H2/\Q H2)∨(J.go i H2/\∀x H3,J.yld i H2 x H3->g x (cW k fi σ) H3 fun σ2 H4=>tc σ2 H4 fun b H5 =>
   if b=true then te σ2 H5 fun v H6=>H6 l=some (.lst vs)/\vs.length<ah/\∃m',m'<m/\W (i+1) m' (vs++[v]) (upd H6 l (.lst (vs++[v])))else ∃m',m'<m/\W (i+1) m' vs H5))
theorem jq{k:Nat}{r:List Nat}{J:It}{g:TG}{s:TT}{t:TE}{σ:St}{u:Hp}{Q:Hp->Prop}{l:Addr}(n:Nat)(Pv:Nat->List V->Hp->Prop)(A:Pv 0 [] (upd u l (.lst [])))
  (B:∀i a H,i<=n->Pv i a H->H l=some (.lst a)) (o:∀i a H,i<n->Pv i a H->J.go i H) (q:∀a H,Pv n a H->J.stop n H/\Q H)
  (C:∀i a H x j,i<n->Pv i a H->J.yld i H x j->g x (cW k r σ) j fun σ2 D=>s σ2 D fun b w =>
   if b=true then t σ2 w fun v z=>z l=some (.lst a)/\a.length<ah/\∃f,f<n-i/\Wc n Pv (i+1) f (a++[v]) (upd z l (.lst (a++[v])))else ∃f,f<n-i/\Wc n Pv (i+1) f a w) :
  c9 k r σ J g s t u l Q:=by
 refine⟨Wc n Pv,⟨n,by simp[Wc],b_ _,A⟩,?_⟩;rintro i m a H ⟨rfl,E,p⟩;refine⟨B i a H E p,?_⟩;by_cases h:i<n
 ·exact .inr ⟨o i a H h p,fun x j y=>C i a H x j h p y⟩
 ·have e:i=n:=by omega
  subst e;exact .inl (q a H p)
section
variable{K:Za}{k:Nat}{fi:List Nat}{g:TG}{tc:TT}{te:TE}{σ:St}{H1:Hp}{Q:Hp->Prop}{l:Addr}
theorem cG{a:Addr}{xs:List V}(Pv:Nat->List V->Hp->Prop)(o:Pv 0 [] (upd H1 l (.lst [])))
  (j:∀i e H,i<=xs.length->Pv i e H->H l=some (.lst e)/\ay K H a xs) (q:∀e H,Pv xs.length e H->Q H)
  (r:∀i e H x,xs[i]?=some x->i<xs.length->Pv i e H->g x (cW k fi σ) H fun σ2 s=>tc σ2 s fun b m =>
   if b=true then te σ2 m fun v n=>n l=some (.lst e)/\e.length<ah/\∃h,h<xs.length-i/\Wc xs.length Pv (i+1) h (e++[v]) (upd n l (.lst (e++[v])))else ∃h,h<xs.length-i/\Wc xs.length Pv (i+1) h e m) :
  c9 k fi σ (F0 K a) g tc te H1 l Q:=by
 refine jq xs.length Pv o (fun i e H f p=>(j i e H f p).1) (fun i e H f p=>⟨xs,xs[i],(j i e H (cN f) p).2,by simp[f]⟩) (fun e H p=>⟨⟨xs,(j _ e H (aB _) p).2,aB _⟩,q e H p⟩) fun i e H x t f p y=>?_;obtain⟨rfl,y⟩:=y;exact r i e _ x (y xs (j i e _ (cN f) p).2) f p
theorem ol{a:Addr}{xs:List V}(Pv:Nat->List V->Hp->Prop)(o:Pv 0 [] (upd H1 l (.lst [])))
  (j:∀i e H,i<=xs.length->Pv i e H->H l=some (.lst e)/\bt K H a xs) (q:∀e H,Pv xs.length e H->Q H)
  (r:∀i e H x,xs[i]?=some x->i<xs.length->Pv i e H->g x (cW k fi σ) H fun σ2 s=>tc σ2 s fun b m =>
   if b=true then te σ2 m fun v n=>n l=some (.lst e)/\e.length<ah/\∃h,h<xs.length-i/\Wc xs.length Pv (i+1) h (e++[v]) (upd n l (.lst (e++[v])))else ∃h,h<xs.length-i/\Wc xs.length Pv (i+1) h e m) :
  c9 k fi σ (EH K a) g tc te H1 l Q:=by
 refine jq xs.length Pv o (fun i e H f p=>(j i e H f p).1) (fun i e H f p=>⟨xs,xs[i],(j i e H (cN f) p).2,by simp[f]⟩) (fun e H p=>⟨⟨xs,(j _ e H (aB _) p).2,aB _⟩,q e H p⟩) fun i e H x t f p y=>?_;obtain⟨rfl,y⟩:=y;exact r i e _ x (y xs (j i e _ (cN f) p).2) f p
theorem sE{lo:Int}{n:Nat}(Pv:Nat->List V->Hp->Prop)(m:Pv 0 [] (upd H1 l (.lst [])))
  (o:∀i a H,i<=n->Pv i a H->H l=some (.lst a)) (q:∀a H,Pv n a H->Q H)
  (r:∀i a H,i<n->Pv i a H->g (.int (lo+i)) (cW k fi σ) H fun σ2 s=>tc σ2 s fun b h =>
   if b=true then te σ2 h fun v j=>j l=some (.lst a)/\a.length<ah/\∃e,e<n-i/\Wc n Pv (i+1) e (a++[v]) (upd j l (.lst (a++[v])))else ∃e,e<n-i/\Wc n Pv (i+1) e a h) :
  c9 k fi σ (G9 lo n) g tc te H1 l Q:=by
 refine jq n Pv m o (fun i a H f p=>f) (fun a H p=>⟨aB _,q a H p⟩) fun i a H x t f p y=>?_;obtain⟨rfl,rfl⟩:=y;exact r i a _ f p
theorem Er{x:Str}(Pv:Nat->List V->Hp->Prop)(m:Pv 0 [] (upd H1 l (.lst [])))
  (n:∀i a H,i<=x.cps.size->Pv i a H->H l=some (.lst a)) (o:∀a H,Pv x.cps.size a H->Q H)
  (q:∀i a H c,x.cps[i]?=some c->i<x.cps.size->Pv i a H->g (.str ⟨#[c]⟩) (cW k fi σ) H fun σ2 r=>tc σ2 r fun b h =>
   if b=true then te σ2 h fun v j=>j l=some (.lst a)/\a.length<ah/\∃e,e<x.cps.size-i/\Wc x.cps.size Pv (i+1) e (a++[v]) (upd j l (.lst (a++[v])))else ∃e,e<x.cps.size-i/\Wc x.cps.size Pv (i+1) e a h) :
  c9 k fi σ (HX x) g tc te H1 l Q:=by
 refine jq x.cps.size Pv m n (fun i a H f p=>f) (fun a H p=>⟨aB _,o a H p⟩) fun i a H y u f p s=>?_;obtain⟨rfl,c,t,rfl⟩:=s;exact q i a _ c t f p
end
theorem gN{j:Nat}{x:V}{σ:St}{H:Hp}{Q:St->Hp->Prop}(h:Q (σ.set j (some x)) H):dH j x σ H Q:=h
theorem mq{σ:St}{H:Hp}{A B:Hp->Prop}(h:A H):fV σ H (fun b a=>if b=true then A a else B a):=by
 show(if(true:Bool)=true then A H else B H)
 exact h
inductive G7{T0 T1:Type}(P:T0->T1->Prop):Prop
 |mk (x0:T0) (x1:T1):P x0 x1->G7 P
inductive HI{T0 T1 T2:Type}(P:T0->T1->T2->Prop):Prop
 |mk (x0:T0) (x1:T1) (x2:T2):P x0 x1 x2->HI P
inductive Hb{T0 T1 T2 T3:Type}(P:T0->T1->T2->T3->Prop):Prop
 |mk (x0:T0) (x1:T1) (x2:T2) (x3:T3):P x0 x1 x2 x3->Hb P
inductive NE5{T0 T1 T2 T3 T4:Type}(P:T0->T1->T2->T3->T4->Prop):Prop
 |mk (x0:T0) (x1:T1) (x2:T2) (x3:T3) (x4:T4):P x0 x1 x2 x3 x4->NE5 P
inductive NE6{T0 T1 T2 T3 T4 T5:Type}(P:T0->T1->T2->T3->T4->T5->Prop):Prop
 |mk (x0:T0) (x1:T1) (x2:T2) (x3:T3) (x4:T4) (x5:T5):P x0 x1 x2 x3 x4 x5->NE6 P
inductive HW(p0 p1 p2:Prop):Prop
 |mk:p0->p1->p2->HW p0 p1 p2
inductive Hc(p0 p1 p2 p3 p4:Prop):Prop
 |mk:p0->p1->p2->p3->p4->Hc p0 p1 p2 p3 p4
inductive HV(p0 p1 p2 p3 p4 p5:Prop):Prop
 |mk:p0->p1->p2->p3->p4->p5->HV p0 p1 p2 p3 p4 p5
end L2
namespace L2
open PySem PySem.W
end L2
end

section
set_option Elab.async false
set_option linter.all false
set_option maxRecDepth 100000
namespace L2
open PySem PySem.Spec PyProof.Rows PySem.W
def F1:Expr->List Str
 |.Name x _=>[x]
 |.Tuple es _ _=>es.filterMap fun e=>match e with | .Name x _=>some x|_=>none
 |_=>[]
theorem bK{X:Cx}{b:List Stmt}{t:TS}{D:ox}{σ:St}{H:Hp}(r:t D σ H)(p:yN X b t):∃t,yN X b t/\t D σ H:=⟨t,p,r⟩
section
variable{X:Cx}{k k0:Nat}{ps:Zb}{sp:Sp}{x m:Str}{C:Addr}{p pos J6:Pos}{o e a b:Expr}{es:List Expr}{t:TA}{ta tb te:TE}
theorem qf(h:d9 k0 X.A)(D:d_ X.prog X.w X.K X.mg X.base x ps k sp)(i:PA X (e::es) t)(j:k<=k0:=by decide)(l:Gl X x:=by rfl)(f:(x==("__debug__":Str))=false:=by decide)
  (n:aK (e::es) X.env=(false,eval e X.env)::aK es X.env:=by rfl) (g:(backTo pos (aK es X.env)).any (·.1)=false:=by rfl) :
  PE X (.Call (.Name x p) (e::es) [] pos) (aH sp t):=A5 D (h.mono j) l i f n g
theorem qm{pl:Sem Bool}(j:d9 k0 X.A)(M:EE X.prog X.w X.K X.mg X.base C m ps k sp)(l:PE X o ta)(n:PA X (e::es) t)(q:k<=k0:=by decide)
  (g:aK (e::es) X.env=(false,eval e X.env)::aK es X.env:=by rfl) (h:(backTo pos (aK es X.env)).any (·.1)=false:=by rfl)
  (r:eval (.Call (.Attribute o m J6) (e::es) [] pos) X.env=(do
   let i <- eval o X.env
   pK J6.atName
   let(f,first) <- kf [i] (pI i m pl)
   uc pos f first (backTo pos (aK (e::es) X.env)) (nc pos (m_ [] X.env))):=by rfl) :
  PE X (.Call (.Attribute o m J6) (e::es) [] pos) (fb C m sp [] E0 ta t):=GP (pl:=pl) M (j.mono q) l n g h r
theorem Fo{pl:Sem Bool}(h:d9 k0 X.A)(M:EE X.prog X.w X.K X.mg X.base C m ps k sp)(i:PE X o ta)(j:k<=k0:=by decide)
  (l:eval (.Call (.Attribute o m J6) [] [] pos) X.env=(do
   let g <- eval o X.env
   pK J6.atName
   let(f,first) <- kf [g] (pI g m pl)
   uc pos f first (backTo pos (aK [] X.env)) (nc pos (m_ [] X.env))):=by rfl) :
  PE X (.Call (.Attribute o m J6) [] [] pos) (fb C m sp [] E0 ta bd):=Fs (pl:=pl) M (h.mono j) i l
theorem xl(f:PE X a ta)(g:PE X b tb)(h:CO b:=by exact fun _ _=>rfl):PE X (.Subscript a b pos) (ax (cg X.K) ta tb):=AZ Bg f g h
theorem xt(f:PE X a ta)(g:PE X b tb)(h:CO b:=by exact fun _ _=>rfl):PE X (.Subscript a b pos) (ax (bA X.K) ta tb):=AZ DZ f g h
theorem xq(f:PE X a ta)(g:PE X b tb)(h:CO b:=by exact fun _ _=>rfl):PE X (.Subscript a b pos) (ax (tT X.K) ta tb):=AZ GU f g h
theorem xs'(f:PE X a ta)(g:PE X b tb)(h:CO b:=by exact fun _ _=>rfl):PE X (.Subscript a b pos) (ax Dz ta tb):=AZ D0 f g h
theorem fU{f:CmpOp}{r:R2}(g:lV X (eh f) r)(h:PE X a ta)(i:PE X b tb)(j:j7 f b=false:=by exact DM _):PT X (.Compare a [f] [b] pos) (aL (ax r ta tb)):=AU g h i j
theorem CB{f:CmpOp}{r:R2}(g:lV X (eh f) r)(h:PE X a ta)(i:PE X b tb)(j:j7 f b=false:=by exact DM _):PE X (.Compare a [f] [b] pos) (ax r ta tb):=A6 g h i j
theorem EY{f:CmpOp}{r:R2}(g:lV X (eh f) r)(h:PE X a ta)(i:PE X b tb)(j:j7 f b=false:=by with_unfolding_all rfl):PT X (.Compare a [f] [b] pos) (aL (ax r ta tb)):=AU g h i j
theorem eci{f:CmpOp}{r:R2}(g:lV X (eh f) r)(h:PE X a ta)(i:PE X b tb)(j:j7 f b=false:=by with_unfolding_all rfl):PE X (.Compare a [f] [b] pos) (ax r ta tb):=A6 g h i j
theorem qB{id:String}{r:List V->Hp->VK->Prop}(h:eM X (.builtin id) r)(i:X.mg x=none)(j:jc x=some (.builtin id))(l:PA X (e::es) t)(n:Gl X x:=by rfl)(q:x≠"__name__":=by decide)(f:(x==("__debug__":Str))=false:=by decide)
  (s:aK (e::es) X.env=(false,eval e X.env)::aK es X.env:=by rfl) (g:(backTo pos (aK es X.env)).any (·.1)=false:=by rfl):PE X (.Call (.Name x p) (e::es) [] pos) (dJ r t):=xM h n i j l q f s g
theorem qL(g:X.calm=true)(h:X.mg "list"=none)(i:PA X (e::es) t)(j:Gl X "list":=by rfl)
  (l:aK (e::es) X.env=(false,eval e X.env)::aK es X.env:=by rfl) (f:(backTo pos (aK es X.env)).any (·.1)=false:=by rfl):PE X (.Call (.Name "list" p) (e::es) [] pos) (dJ (cU X.K) t):=gV (An g) j h sM i (by decide) (by decide) l f
theorem ql(g:X.mg "len"=none)(h:PA X (e::es) t)(i:Gl X "len":=by rfl)
  (j:aK (e::es) X.env=(false,eval e X.env)::aK es X.env:=by rfl) (f:(backTo pos (aK es X.env)).any (·.1)=false:=by rfl):PE X (.Call (.Name "len" p) (e::es) [] pos) (dJ (dh X.K) t):=xM uQ i g PySem.boot_len h (by decide) (by decide) j f
theorem qs(i:Nat){f:Pos}(g:X.N.Nodup)(h:PE X e te)(j:X.N[i]?=some x:=by rfl)(l:Loc X.env.scope x:=by first|exact Or.inl rfl|exact Or.inr rfl)(n:qP e (some (.Name x f)) pos.line X.env=pure false:=by rfl)(q:X.fn x=true∨X.env.scope.names.lookup x=some .local:=by first|exact .inl rfl|exact .inr rfl|assumption):
  PS X (.Assign [.Name x f] e pos) (aM te (dH i)):=GI g j l h n q
theorem gn(i:Nat)(f:X.N.Nodup)(g:X.N[i]?=some x:=by rfl)(h:Loc X.env.scope x:=by first|exact Or.inl rfl|exact Or.inr rfl)(j:X.fn x=true∨X.env.scope.names.lookup x=some .local:=by first|exact .inl rfl|exact .inr rfl|assumption):PG X (.Name x pos) (dH i):=AX f g h j
theorem gc(i:Nat)(f:X.N.Nodup:=by exact of_decide_eq_true (by with_unfolding_all rfl))(g:X.N[i]?=some x:=by rfl)(h:Loc X.env.scope x:=by exact Or.inl rfl)(j:X.fn x=true∨X.env.scope.names.lookup x=some .local:=by first|exact .inl rfl|exact .inr rfl|assumption):PG X (.Name x pos) (dH i):=AX f g h j
theorem a1(f:PE X a ta)(g:aK [a] X.env=(false,eval a X.env)::aK [] X.env:=by rfl):PA X [a] (ap ta bd):=bI f bQ g
theorem a2(g:PE X a ta)(h:PE X b tb)(i:aK [a,b] X.env=(false,eval a X.env)::aK [b] X.env:=by rfl)(f:aK [b] X.env=(false,eval b X.env)::aK [] X.env:=by rfl):PA X [a,b] (ap ta (ap tb bd)):=bI g (bI h bQ f) i
theorem a3{c:Expr}{h:TE}(i:PE X a ta)(j:PE X b tb)(l:PE X c h)(n:aK [a,b,c] X.env=(false,eval a X.env)::aK [b,c] X.env:=by rfl)(f:aK [b,c] X.env=(false,eval b X.env)::aK [c] X.env:=by rfl)(g:aK [c] X.env=(false,eval c X.env)::aK [] X.env:=by rfl):PA X [a,b,c] (ap ta (ap tb (ap h bd))):=bI i (a2 j l f g) n
variable{elt iter tg:Expr}{ifs:List Expr}{scope:Scope}{fi:List Nat}{wi:TI}{g:TG}{tc:TT}
theorem qc(q:PI X tg iter wi)(r:yz k g)
  (h:∀C l f j ex n,PG (dj X (F1 tg++fi.map fun i=>X.N.getD i "") scope C l f j ex n) tg g/\GB (dj X (F1 tg++fi.map fun i=>X.N.getD i "") scope C l f j ex n) ifs tc/\PE (dj X (F1 tg++fi.map fun i=>X.N.getD i "") scope C l f j ex n) elt te)
  (s:lG X.env.scope scope k (F1 tg++fi.map fun i=>X.N.getD i "") X.N fi=true:=by with_unfolding_all rfl) (u:X.calm=true:=by rfl)
  (v:∀x,wR iter X.env x=pure x:=by intro _;rfl):PE X (.ListComp elt [⟨tg,iter,ifs,0⟩] scope pos) (cD k fi wi g tc te) :=
 Fx s u q (fun _ _ _ _ _ _=>(h _ _ _ _ _ _).1) r (fun _ _ _ _ _ _=>(h _ _ _ _ _ _).2.1) (fun _ _ _ _ _ _=>(h _ _ _ _ _ _).2.2) v
theorem Ht(j:Nat){y:Str}{n u:Pos}(v:X.N.Nodup)(w:PI X tg iter wi)(z:yz k g)
  (h:∀C q f l ex r,PG (dj X (F1 tg++fi.map fun i=>X.N.getD i "") scope C q f l ex r) tg g/\GB (dj X (F1 tg++fi.map fun i=>X.N.getD i "") scope C q f l ex r) ifs tc/\PE (dj X (F1 tg++fi.map fun i=>X.N.getD i "") scope C q f l ex r) elt te)
  (A:X.N[j]?=some y:=by rfl) (B:Loc X.env.scope y:=by first|exact Or.inl rfl|exact Or.inr rfl)
  (D:lG X.env.scope scope k (F1 tg++fi.map fun i=>X.N.getD i "") X.N fi=true:=by with_unfolding_all rfl) (E:X.calm=true:=by rfl)
  (s:qP (.ListComp elt [⟨tg,iter,ifs,0⟩] scope pos) (some (.Name y u)) n.line X.env=pure true:=by rfl)
  (G:∀x,wR iter X.env x=pure x:=by intro _;rfl) (H:X.fn y=true∨X.env.scope.names.lookup y=some .local:=by first|exact .inl rfl|exact .inr rfl|assumption) :
  PS X (.Assign [.Name y u] (.ListComp elt [⟨tg,iter,ifs,0⟩] scope pos) n) (aM (cD k fi wi g tc te) (dH j)) :=
 zR v A B D E w (fun _ _ _ _ _ _=>(h _ _ _ _ _ _).1) z (fun _ _ _ _ _ _=>(h _ _ _ _ _ _).2.1) (fun _ _ _ _ _ _=>(h _ _ _ _ _ _).2.2) s G H
end
end L2
end

section
set_option Elab.async false
set_option linter.all false
set_option maxRecDepth 100000
namespace L2
open PySem PySem.Spec PyProof.Rows
def G_(d:Addr)(o:Obj)(kvs:List (b0×V)):It :=
 ⟨fun i H=>H d=some (.frz o (.dK kvs))/\i<kvs.length,fun i H x H'=>H'=H/\∃kv,kvs[i]?=some kv/\x=kV kv.1,fun i H=>H d=some (.frz o (.dK kvs))/\kvs.length<=i⟩
theorem GS{k:b0}{v:Value}(h:cT k v=true):RelV (kV k) v:=by
 rcases aE h with⟨i,t,rfl,rfl⟩|⟨i,t,rfl,rfl⟩
 ·exact⟨t,rfl⟩
 ·exact⟨t,rfl⟩
theorem ut{α β:Type}{F:α->β->Prop}:∀{e:List α}{f:List β},Paired F e f->∀{i:Nat}{a:α}{b:β},e[i]?=some a->f[i]?=some b->F a b
 |_,_,.nil,_,_,_,h,_=>by simp at h
 |_,_,.cons r t,0,_,_,h,g=>by simp at h g;subst h g;exact r
 |_,_,.cons r t,i+1,_,_,h,g=>by simp at h g;exact ut t h g
theorem sv{P:bR}{w:World}{K:Za}{H:Hp}{h:Heap}{d:Addr}{o:Obj}{a:List (b0×V)}{k:Array DictEntry}{n:Nat}(l:lZ P w K H h)(e:H d=some (.frz o (.dK a)))(p:o.data=.dict k n):
  (d==iy)=false/\∃j,KV a j/\h.DictAt (bS P w) d j n:=by
 obtain⟨g,_,f,j,m,s⟩:=(show cy P w K H h d (.frz o (.dK a))from l d _ e);obtain⟨t,v,x,i,u,q,r⟩:=s.dictAt;rw[g]at i;cases i;rw[p]at q;cases q;exact⟨f,j,m,o,_,g,u,p,r⟩
theorem BC{P:bR}{w:World}{K:Za}{tg:Expr}(d it:Addr)(o:Obj)(a:List (b0×V)){t:Array DictEntry}{O:Nat}(Q:o.data=.dict t O):sP P w K tg (G_ d o a) [it] it (fun i h=>h.IsKeyIter it d i a.length O) where
 mem:=by simp
 obj:=fun i h st b g=>by
  have e:b=it:=by simpa using g
  subst e;obtain⟨o,e,c,d⟩:=st;exact⟨o,e,fun v z=>by rw[d]at z;cases z⟩
 keep:=fun i h p st k=>by
  obtain⟨T,e,c⟩:=st;exact⟨T,k it (by simp) T e,c⟩
 item:=by
  intro X u x y U i Y s σ H E I q st A;subst u x y;obtain⟨hd,hi⟩:=A;obtain⟨m,l,f,B⟩:=sv I.hok hd Q;have r:=f.length;obtain⟨C,D,f2,G,J,L⟩:=q it (by simp);have M:i<l.length:=by omega
  have hx:l[i]?=some (l[i].1,l[i].2):=by simp[M]
  rw[r]at st;refine wpAny_pyNext_dict_item st B hx fun N p hk j sb=>?_;have I1:Inv X Y σ H { s with heap:=p }:=I.turned (t':=s.toks) (fun b o g e=>(sb.2 b g).trans e) C D G J L;obtain⟨oi,e,c,dd⟩:=id j;have n:a[i]?=some a[i]:=by simp[hi]
  have ek:a[i].1=l[i].1:=(ut f n hx).1;rw[<-r]at j;exact⟨N,rfl,so (s:={ s with heap:=p }) e c dd (by decide) ⟨kV a[i].1,H,I1,GS (by rw[ek];exact hk),⟨rfl,a[i],n,rfl⟩,j,fun b g=>(q b g).1⟩⟩
 done:=by
  intro X u x y U i Y s σ H E I q st A;subst u x y;obtain⟨hd,hi⟩:=A;obtain⟨m,l,f,B⟩:=sv I.hok hd Q;have r:=f.length;obtain⟨C,D,f2,G,J,L⟩:=q it (by simp);rw[r]at st;exact wpAny_pyNext_dict_end (I.ok.hd U) st B (by simp;omega) fun p eb=>⟨rfl,I.turned (t':=s.toks) (fun b o g e=>eb b o g e) C D G J L⟩
 self:=fun _ _ _ _ _ st h=>wpAny_pyIter_keyiter st h
def Gq(tl:TE):TI:=fun σ H R=>tl σ H fun x H1=>∃d kvs,x=.ref d /\
 ((H1 d=some (.dK kvs)/\∀o,R (G_ d o kvs) (upd H1 d (.frz o (.dK kvs))))∨∃o,H1 d=some (.frz o (.dK kvs))/\R (G_ d o kvs) H1)
theorem Ef{P:bR}{w:World}{K:Za}{H:Hp}{h:Heap}{d:Addr}{o:Obj}{e:List (b0×V)}(x:cy P w K H h d (.frz o (.dK e))):∃f i,o.data=.dict f i:=by
 obtain⟨g,_,_,m,_,j⟩:=x;obtain⟨k,n,p,a,q,l,r⟩:=j.dictAt;rw[g]at a;cases a;exact⟨_,_,l⟩
theorem Fq{X:Cx}{B l:Expr}{C:TE}(p:PE X l C):PI X B l (Gq C):=by
 intro n s σ H R I h;refine cF (p n s σ H _ I h) fun v s1 t=>?_;obtain⟨x,u,y,G,J⟩:=t;obtain⟨d,a,e,q⟩:=J;subst e;cases G;have g:∀(k:Hp) (o:Obj),Inv X n σ k s1->k d=some (.frz o (.dK a))->R (G_ d o a) k->wpAny (model X.prog X.w) X.A (pyIter (.ref d)) (PIE X n σ B R) X.xe s1:=by
  intro k o i e q;obtain⟨L,M,m⟩:=Ef (i.hok d _ e);obtain⟨f,D,j,N⟩:=sv i.hok e m;have p:=j.length;refine wpAny_pyIter_dict f N ?_;refine⟨s1.heap.objs.size,[s1.heap.objs.size],_,_,k,rfl,i.kept (t':=s1.toks) fun b o e=>cC _ e,BC d _ o a m,?_,fun b O=>?_,q⟩
  ·rw[p];exact⟨_,fy _ rfl,rfl,rfl⟩
  ·have e:b=s1.heap.objs.size:=by simpa using O
   subst e;exact i.fpOk (aB _) (i.hok.fresh (aB _))
 rcases q with⟨e,q⟩|⟨o,e,q⟩
 ·obtain⟨z,f,D,j,E⟩:=(show cy X.prog X.w X.K u s1.heap d (.dK a)from y.hok d _ e);obtain⟨M,o,Q,m,r⟩:=id E.dictAt;have i:Inv X n σ (upd u d (.frz o (.dK a))) { s1 with heap:=s1.heap,toks:=s1.toks } :=
   y.write (x:=d) (e:=d) (t':=s1.toks) (by rw[e];trivial) (.inl rfl) (fun _ _ _ q=>q) ⟨o,m⟩ ⟨m,z,f,D,j,E⟩
  exact g _ o i aa (q o)
 ·exact g u o y e q
abbrev Gh(K:Za):List V->Hp->VK->Prop:=fun xs H Q=>dh K xs H Q∨∃(d:Addr) (kvs:List (b0×V)),xs=[.ref d]/\Rd H d (.dK kvs)/\Q (.int kvs.length) H
theorem CJ{X:Cx}:eM X (.builtin "len") (Gh X.K):=by
 refine uQ.or ?_;intro i s σ H j k Q I r h;obtain⟨d,a,rfl,e,q⟩:=h;obtain⟨u,rfl,f⟩:=vals1 r;cases f;exact HG I e fun t l g=>⟨.int a.length,H,g,⟨t,rfl⟩,q⟩
end L2
end

section
set_option Elab.async false
set_option linter.all false
set_option maxRecDepth 100000
namespace L2
open PySem PySem.Spec PyProof.Rows
abbrev Hq:List V->Hp->VK->Prop:=fun xs H Q=>∃i j,xs=[.int i,.int j]/\Q (.int (if j > i then j else i)) H
end L2
end

section
set_option Elab.async false
set_option linter.all false
set_option maxRecDepth 100000
namespace HT
open PySem PySem.Spec PyProof.Rows
end HT
namespace L2
open PySem PySem.Spec PyProof.Rows
end L2
namespace HT
open PySem PySem.Spec PyProof.Rows
end HT
namespace L2
open PySem PySem.Spec PyProof.Rows
end L2
end

section
set_option Elab.async false
set_option linter.all false
set_option maxRecDepth 100000
namespace L2
open PySem PySem.Spec PyProof.Rows
def EI(K:Za)(a:Addr)(n:Nat):It :=
 ⟨fun i H=>i<n/\∃xs,ay K H a xs/\xs.length=n,fun i H x H'=>H'=H/\∀xs,ay K H a xs->xs[n-1-i]?=some x,fun i _=>n<=i⟩
def HC(K:Za)(ta:TA):TI:=fun σ H R=>ta σ H fun vs H1=>∃a xs,vs=[.ref a]/\ay K H1 a xs/\R (EI K a xs.length) H1
theorem FL{K:Za}{a:Addr}{xs:List V}{g:TG}{j:TS}{D:ox}{σ:St}{H:Hp}(Pv:Nat->St->Hp->Prop)(l:Pv 0 σ H)(n:∀i σ H,i<=xs.length->Pv i σ H->ay K H a xs)
  (o:∀i x σ H,xs[xs.length-1-i]?=some x->i<xs.length->Pv i σ H->g x σ H fun σ2 h=>j { D with nx:=Pv (i+1),ct:=Pv (i+1),bk:=D.nx } σ2 h) (r:∀σ H,Pv xs.length σ H->D.nx σ H) :
  ∃W:Nat->Nat->St->Hp->Prop,(∃m,W 0 m σ H)/\∀i m σ H,W i m σ H ->
   ((EI K a xs.length).stop i H/\D.nx σ H)∨((EI K a xs.length).go i H/\∃N:St->Hp->Prop,(∀σ' f,N σ' f->∃k,k<m/\W (i+1) k σ' f)/\∀x f,(EI K a xs.length).yld i H x f->g x σ f fun σ2 h=>j { D with nx:=N,ct:=N,bk:=D.nx } σ2 h):=by
 refine⟨fun i m σ H=>m=xs.length-i/\i<=xs.length/\Pv i σ H,⟨xs.length,by simp,b_ _,l⟩,?_⟩;rintro i m σ H ⟨rfl,s,p⟩;have q:=n i σ H s p;by_cases lt:i<xs.length
 ·refine .inr ⟨⟨lt,xs,q,rfl⟩,Pv (i+1),fun σ' f t=>⟨xs.length-(i+1),by omega,rfl,lt,t⟩,fun x f y=>?_⟩;obtain⟨rfl,y⟩:=y;exact o i x σ _ (y xs q) lt p
 ·have e:i=xs.length:=by omega
  subst e;exact .inl ⟨aB _,r σ H p⟩
theorem sL:jc "reversed"=some (.type "reversed"):=by decide +kernel
section
variable{X:Cx}
theorem Dc{P:bR}{w:World}{K:Za}{Q:Expr}(a it:Addr)(n:Nat):sP P w K Q (EI K a n) [it] it (fun i h=>i<=n/\h.IsRevIter it a ((n:Int)-1-(i:Int))) where
 mem:=by simp
 obj:=fun i h st b g=>by
  have e:b=it:=by simpa using g
  subst e;obtain⟨_,o,e,c,d⟩:=st;exact⟨o,e,fun v z=>by rw[d]at z;cases z⟩
 keep:=fun i h l st k=>⟨st.1,st.2.at fun o e=>k it (by simp) o e⟩
 item:=by
  intro X r t y L i M s σ H E I m st q;subst r t y;obtain⟨T,U,N,hx⟩:=q;obtain⟨Y,O,p,hz⟩:=I.list N;have hl:=O.length;obtain⟨x,ex⟩:∃x,U[n-1-i]?=some x:=⟨_,bY (by omega)⟩;obtain⟨u,hu,ru⟩:=O.get ex;obtain⟨A,B,f2,C,D,G⟩:=m it (by simp);have J:(n:Int)-1-(i:Int)=((n-1-i:Nat):Int):=by omega
  have f:=st.2;rw[J]at f;refine wpAny_pyNext_rev_item f p.isList (x:=u) (by simpa using hu) fun l j sb=>?_;have I1:Inv X M σ H { s with heap:=l }:=I.turned (t':=s.toks) (fun b o g e=>(sb.2 b g).trans e) A B C D G;have e2:((n-1-i:Nat):Int)-1=(n:Int)-1-((i+1:Nat):Int):=by omega
  rw[e2]at j;obtain⟨o,e,c,d⟩:=id j;exact⟨u,rfl,so (s:={ s with heap:=l }) e c d (by decide) ⟨x,H,I1,ru,⟨rfl,fun ys hy=>by rw[I.list_inj hy N];exact ex⟩,⟨T,j⟩,fun b g=>(m b g).1⟩⟩
 done:=by
  intro X r t y L i M s σ H E I m st q;subst r t y;obtain⟨A,B,f2,C,D,G⟩:=m it (by simp);have q:n<=i:=q;have J:(n:Int)-1-(i:Int)=-1:=by have:=st.1;omega
  have f:=st.2;rw[J]at f;exact wpAny_pyNext_rev_end (I.ok.hd L) f fun l eb=>⟨rfl,I.turned (t':=s.toks) (fun b o g e=>eb b o g e) A B C D G⟩
 self:=fun _ _ _ _ _ st h=>wpAny_pyIter_revIter st.2 h
variable{tg l:Expr}{ta:TA}{p pos:Pos}
theorem GL(t:Gl X "reversed")(v:X.mg "reversed"=none)(w:PA X [l] ta)(x:aK [l] X.env=[(false,eval l X.env)]:=by rfl):PI X tg (.Call (.Name "reversed" p) [l] [] pos) (HC X.K ta):=by
 intro n s σ H R I h;refine Call_ (mJ I t v sL (wS (cF (w pos n s σ H _ I h) fun J s1 j=>?_) (by rw[x];rfl) (by rfl)));obtain⟨L,r,g,y,z⟩:=j;obtain⟨a,i,e,A,q⟩:=z;subst e;obtain⟨u,rfl,B⟩:=vals1 y;cases B;obtain⟨k,C,D,M⟩:=g.list A;have E:=C.length;refine call_reversed_list D.isList ?_;have e:((k.toArray.size:Nat):Int)-1=(i.length:Int)-1-((0:Nat):Int):=by rw[bM,E];omega
 rw[e];have f:(s1.heap.push (revObj a ((i.length:Int)-1-((0:Nat):Int)))).IsRevIter s1.heap.objs.size a ((i.length:Int)-1-((0:Nat):Int)):=⟨_,fy _ rfl,rfl,rfl⟩;refine wpAny_pyIter_revIter (s:={ s1 with heap:=s1.heap.push (revObj a ((i.length:Int)-1-((0:Nat):Int))) }) f ?_;have m:∀b∈[s1.heap.objs.size],l6 X n r b:=fun b G=>by
  have e:b=s1.heap.objs.size:=by simpa using G
  subst e;exact g.fpOk (aB _) (g.hok.fresh (aB _))
 exact⟨s1.heap.objs.size,[s1.heap.objs.size],_,_,r,rfl,g.kept (t':=s1.toks) fun b o e=>cC _ e,Dc a _ _,⟨b_ _,f⟩,m,q⟩
end
end L2
namespace L2
open PySem PySem.Spec PyProof.Rows
end L2
end

section
set_option Elab.async false
set_option linter.all false
set_option maxRecDepth 100000
namespace L2
open PySem PySem.Spec PyProof.Rows
def rV(K:Za):R2:=fun x y H Q=>∃a b xs ys,x=.ref a/\y=.ref b/\bt K H a xs/\bt K H b ys/\ys≠[]/\xs.length+ys.length<=ah /\
 (xs=[]->Q (.ref b) H)/\(xs≠[]->∀p,H p=none->Q (.ref p) (upd H p (.tup (xs++ys))))
section
variable{X:Cx}
theorem vX:lV X (j6 .Add) (rV X.K):=by
 intro E s σ H x y v u Q I o p h;obtain⟨a,b,q,G,rfl,rfl,r,t,J,L,M,N⟩:=h;by_cases j:q=[]
 ·cases o;cases p;obtain⟨k,O,T,_⟩:=I.tuple r;obtain⟨e,r2,U,_⟩:=I.tuple t;have Y:k=[]:=O.nil_iff.mpr j;subst Y;obtain⟨⟨al,dd,w,sl⟩,A,B,n,C⟩:=id T;obtain⟨⟨D,l,data2,m⟩,f,g,n2,i⟩:=id U;simp only at B C g i;subst B C g i;exact concat_meets ⟨_,A,rfl⟩ ⟨_,f,rfl⟩ noFill_tuple_add seq_tuple_add PySem.F.slot_tuple_add PySem.F.entry_tuple_add (PySem.F.args_tuple_add_2 _ _)
   (tuple_addW0 a b _ e.toArray n n2 dd l sl m (by simp)) ⟨A,f,⟨.ref b,H,I,rfl,M j⟩⟩
 ·exact Fz E s σ H _ _ v u Q I o p ⟨a,b,q,G,rfl,rfl,r,t,j,L,fun z=>absurd z J,fun _=>N j⟩
end
end L2
end

section
set_option Elab.async false
set_option linter.all false
set_option maxRecDepth 100000
namespace HT
open PySem PyProof.Rows
end HT
namespace L2
open PySem PySem.Spec PyProof.Rows
end L2
end
set_option Elab.async false
set_option linter.all false
set_option maxRecDepth 100000
set_option maxHeartbeats 4000000
namespace Mum
open PySem PySem.Spec PyProof.Rows L2
def vq(K:Za):TS :=
 ar (bU (aL (ax rGeI V0 (ax Gg (tC (.int 10)) (tC (.int 18))))) (aY V0) (br))
 (ar (aM (ax iJ (ax dR (ax dR (ax kG (ax iJ V0 (tC (.int 1000000007))) (tC (.int 69069))) (ax kG V1 (tC (.int 40503)))) (tC (.int 977))) (tC (.int 2147483629))) U2)
 (ar (aM (ax iJ (ax dR (ax dR (ax kG V2 V2) (ax kG V1 (tC (.int 7919)))) (ax iJ V0 (tC (.int 65537)))) (tC (.int 2147483587))) U3)
 (ar (aM (ax iJ (ax dR (ax dR (ax kG V3 V3) (ax kG V2 (tC (.int 31)))) (tC (.int 5))) (tC (.int 2147483563))) U4)
 (aY (ax dR (ax kG (ax dR (ax kG V2 (tC (.int 2147483659))) V3) (tC (.int 2147483693))) V4)))))
def wD:List Str:=["cell","at","one","two","three"]
def yX(K:Za):TS :=
 ar (aM (dJ (cU K) (aw (yL (nQ K) V0 (dY) (fD (tC (.int 12)))))) U1)
 (ar (dI (nY K (aw (yL (nQ K) V0 (fD (tC (.int 12))) (fD (tC (.int 63)))))) (gp K 2 (aR U2 (aR U3 (fW)))) (aM (ax dR (ax (cg K) V1 (ax iJ V2 (tC (.int 12)))) V3) (ya V1 (ax iJ V2 (tC (.int 12))) pP)))
 (aY (cf (cE V1 (tC (.int 0)) (tC (.int 0))))))
def At:List Str:=["script","cells","k","cell"]
def y3(K:Za):TS :=
 ar (aM (tC (.int 0)) (ya V0 (tC (.int 2)) pP))
 (aY V0)
def Ax:List Str:=["pen"]
def yW(K:Za)(sp_law_spread:Sp):TS :=
 ar (bU (aL (ax Cg (ax (cg K) V0 (tC (.int 2))) V1)) (ar (aM (ax (cg K) V0 (tC (.int 1))) U2)
 (ar (aM (tC (.int 0)) U3)
 (ar (bU (aL (ax Cg V2 (dJ (dh K) (aw (ax (cg K) V0 (tC (.int 0))))))) (aM (ax (cg K) (ax (cg K) V0 (tC (.int 0))) V2) U3) (bU (aL (ax Ch (dJ (dh K) (aw (ax (cg K) V0 (tC (.int 0))))) (tC (.int 0)))) (aM (ax iJ (ax (cg K) (ax (cg K) V0 (tC (.int 0))) (ax iJ (ax dR (ax kG V2 (tC (.int 5))) (tC (.int 3))) (dJ (dh K) (aw (ax (cg K) V0 (tC (.int 0))))))) (ax dR (ax Gg (tC (.int 10)) (tC (.int 17))) V2)) U3) (br)))
 (ar (aM (ax dR V2 (tC (.int 1))) (ya V0 (tC (.int 1)) pP))
 (aM (aH sp_law_spread (aW V3 V2)) (ya V0 (tC (.int 2)) pP)))))) (br))
 (ar (aM (ax iJ (ax (cg K) V0 (tC (.int 2))) V1) U4)
 (ar (aM (ax DA (ax (cg K) V0 (tC (.int 2))) V1) (ya V0 (tC (.int 2)) pP))
 (aY V4)))
def As:List Str:=["pen","many","at","cell","found"]
def xh(K:Za)(sp_law_take:Sp):TS :=
 ar (aM (tC (.str "abcdefghijklmnopqrstuvwxyz")) U2)
 (ar (aM (xu K "str" (Gi K) (tC (.str "")) (ap (cD 1 [2,0] (pT (aw (tC (.int 7)))) U0 (fV) (ax Dz V1 (aH sp_law_take (aW V2 (tC (.int 26)))))) bd)) U3)
 (ar (aM (aH sp_law_take (aW V0 (tC (.int 3)))) U4)
 (ar (aM (aH sp_law_take (aW V0 (tC (.int 26)))) U5)
 (ar (aM (aH sp_law_take (aW V0 (tC (.int 8)))) U6)
 (ar (aM (cf (bd)) U7)
 (ar (dI (pT (aw V1)) U8 (ar (aM (ax Dz V2 (ax iJ (ax dR V5 (ax kG (tC (.int 3)) V8)) (tC (.int 26)))) U9)
 (ar (aM (yL Cd V3 (dY) (fD (ax iJ (ax dR V6 (ax kG V8 (ax iJ V4 (tC (.int 2))))) (tC (.int 8))))) HR)
 (ar (aM (ax (cg K) (cf (cE (tC (.int 0)) (dJ (dh K) (aw FT)) (ax DA (dJ (dh K) (aw FT)) (tC (.int 2))))) V4) U11)
 (bV (xu K "list" dF V7 (aw (ax Gk (ax Gk (yL Cd FT (dY) (fD V11)) V9) (yL Cd FT (fD V11) (dY))))))))))
 (aY V7)))))))
def yG:List Str:=["pen","many","letters","base","way","turn","size","found","k","sign","part","at"]
def BG(K:Za):TS :=
 bU (aL (ax (mF K true) V1 V0)) (bV (xu K "list" dF V0 (aw V1))) (br)
def CQ:List Str:=["doors","door"]
def oT(K:Za)(sp_law_take:Sp)(sp_law_put:Sp):TS :=
 ar (aM (cf (bd)) U5)
 (ar (aM (aH sp_law_take (aW V0 (tC (.int 2)))) U6)
 (ar (dI (nY K (aw V3)) (gp K 2 (aR U7 (aR U8 (fW)))) (ar (dI (pT (ap (ax (cg K) (cf (ap (tC (.int 0)) (cE (tC (.int 1)) (tC (.int 1)) (tC (.int 2))))) (aH sp_law_take (aW V0 (tC (.int 4))))) bd)) U9 (ar (aM (bb (ap (tC (.str "say")) (ap (ax (cg K) V2 (aH sp_law_take (aW V0 (dJ (dh K) (aw V2))))) bd))) HR)
 (bV (aH sp_law_put (ap V5 (ap (bb (ap V8 (ap FT (ap (ax (cg K) V3 (aH sp_law_take (aW V0 (dJ (dh K) (aw V3))))) bd)))) bd))))))
 (ar (dI (cp K V1) U11 (dI (pT (ap (ax (cg K) (cf (ap V4 (cE (tC (.int 1)) (tC (.int 1)) (tC (.int 2))))) (aH sp_law_take (aW V0 (tC (.int 4))))) bd)) U9 (bV (aH sp_law_put (ap V5 (ap (bb (ap V8 (ap (bb (aW (tC (.str "ask")) V11)) (ap (ax (cg K) V3 (aH sp_law_take (aW V0 (dJ (dh K) (aw V3))))) bd)))) bd))))))
 (ar (aM (ax (cg K) (cf (ap (yL (nQ K) V3 (fD (ax dR V7 (tC (.int 1)))) (dY)) (aw (yL (nQ K) V3 (dY) (fD V7))))) V6) U12)
 (bU (kB (aL (ax (qk K) V12 (cf (bd)))) (aL (ax m5 (aH sp_law_take (aW V0 (tC (.int 3)))) (tC (.int 0))))) (bV (aH sp_law_put (ap V5 (ap (bb (ap V8 (ap (bb (aw (tC (.str "still")))) (ap (ax (tT K) V12 (aH sp_law_take (aW V0 (dJ (dh K) (aw V12))))) bd)))) bd)))) (br))))))
 (aY V5)))
def pq:List Str:=["pen","asks","says","rooms","full","doors","down","k","room","turn","sign","ask","later"]
def xi(K:Za)(sp_law_draw_doors:Sp)(sp_law_names:Sp)(sp_law_take:Sp)(sp_law_anew:Sp):TS :=
 ar (bV (aH sp_law_anew (aw V0)))
 (ar (aM (aH sp_law_names (aW V0 (tC (.int 8)))) U3)
 (ar (aM (yL (nQ K) V3 (dY) (fD (ax dR (tC (.int 1)) (ax (cg K) (cf (ap (tC (.int 0)) (ap (tC (.int 1)) (ap (tC (.int 1)) (cE (tC (.int 2)) (tC (.int 2)) (tC (.int 3))))))) (aH sp_law_take (aW V0 (tC (.int 6)))))))) U4)
 (ar (aM (yL (nQ K) V3 (fD (tC (.int 4))) (fD (ax dR (tC (.int 5)) (ax (cg K) (cf (ap (tC (.int 0)) (ap (tC (.int 1)) (ap (tC (.int 1)) (cE (tC (.int 2)) (tC (.int 2)) (tC (.int 3))))))) (aH sp_law_take (aW V0 (tC (.int 6)))))))) U5)
 (ar (aM (aH sp_law_names (aW V0 (ax dR (tC (.int 1)) (aH sp_law_take (ap V0 (aw V1)))))) U6)
 (ar (aM (aH sp_law_draw_doors (ap V0 (ap V4 (cE V5 V6 V2)))) U7)
 (aY (bb (ap V4 (cE V5 V6 V7)))))))))
def yH:List Str:=["pen","most","full","words","asks","says","rooms","doors"]
def tD(K:Za)(C_Machine:Addr)(sp_Machine_init:Sp):TS :=
 aY (Dh C_Machine sp_Machine_init [] E0 (ap (dJ (cU K) (aw (ax (tT K) V0 (tC (.int 0))))) (ap (dJ (cU K) (aw (ax (tT K) V0 (tC (.int 1))))) (ap (dJ (cU K) (aw (ax (tT K) V0 (tC (.int 2))))) (ap (dJ (cU K) (aw (ax (tT K) V0 (tC (.int 3))))) bd)))))
def t_:List Str:=["told"]
def BJ(K:Za):TS :=
 aY (uk (ax Ha V0 (tC (.str ""))) (uk (ax rLeI (dJ (dh K) (aw V0)) (tC (.int 8))) (dJ (GH K) (aw (cD 1 [] (HA V0) U0 (fV) (ax rInS V0 (tC (.str "abcdefghijklmnopqrstuvwxyz"))))))))
def CU:List Str:=["text"]
def BK(K:Za):TS :=
 ar (aM (o6) U1)
 (ar (dI (cp K V0) U2 (md V1 V2 (tC (.bl true))))
 (aY V1))
def CV:List Str:=["things","keys","thing"]
def mr(K:Za)(sp_is_name:Sp)(sp_as_keys:Sp):TS :=
 ar (bU (aL (ax m5 (dJ (dh K) (aw V0)) (tC (.int 0)))) (aY (tC (.int 0))) (br))
 (ar (aM (aH sp_as_keys (aw V2)) U3)
 (ar (dI (nY K (aw V0)) (gp K 2 (aR U4 (aR U5 (fW)))) (ar (bU (AN (aL (ax m5 V4 V1)) (AN (tB (Dj K V5 V3)) (vx (tB (aH sp_is_name (aw V5)))))) (aY V4) (br))
 (md V3 V5 (tC (.bl true)))))
 (aY (tC .non))))
def mQ:List Str:=["names","most","taken","ahead","number","name"]
def vw(K:Za)(a_STILL:Addr):TS :=
 aY (ax mH (ax mH (cD 1 [] (cp K V0) U0 (fV) (bb (aW (tC (.str "ask")) V0))) (cD 1 [] (cp K V1) U0 (fV) (bb (aW (tC (.str "say")) V0)))) (cf (aw (tC (.ref a_STILL)))))
def wG:List Str:=["asks","says"]
def mv(K:Za)(sp_as_keys:Sp):TS :=
 ar (aM (aH sp_as_keys (aw V1)) U3)
 (ar (aM (zi) U4)
 (ar (dI (nY K (aw V0)) (gp K 2 (aR U5 (aR U6 (fW)))) (ar (bU (AN (aL (ax m5 V5 (tC (.int 2000)))) (tB (Dj K V6 V4))) (aY V5) (br))
 (ar (bU (AN (tB (nE K (ax (tT K) V6 (tC (.int 0))) V3)) (AN (aL (ax (mF K true) (ax (tT K) V6 (tC (.int 1))) V2)) (tB (nE K (ax (tT K) V6 (tC (.int 2))) V3)))) (aY V5) (br))
 (md V4 V6 (tC (.bl true))))))
 (aY (tC .non))))
def mR:List Str:=["doors","rooms","signs","own_rooms","ahead","number","door"]
def ip(K:Za):TS :=
 ar (aM (zi) U1)
 (ar (dI (cp K V0) (gp K 3 (aR U2 (aR U3 (aR U4 (fW))))) (bV (xu K "list" dF (xu K "dict" AS V1 (aW (bb (ap V2 (aw V3))) (cf (bd)))) (aw V4))))
 (aY V1))
def iu:List Str:=["doors","goals","start","sign","goal"]
def rE(K:Za)(a_STILL:Addr):TS :=
 ar (aM (o6) U2)
 (ar (aM (cf (aw V1)) U3)
 (ar (oY (aL (ax Ch (dJ (dh K) (aw V3)) (tC (.int 0)))) (ar (aM (zj K "list" Cf V3) U4)
 (dI (HB K (vI K V0 (bb (aW V4 (tC (.ref a_STILL)))) (bb (bd)))) U5 (bU (tB (nE K V5 V2)) (ar (md V2 V5 (tC (.bl true)))
 (bV (xu K "list" dF V3 (aw V5)))) (br)))))
 (aY V2)))
def sS:List Str:=["goals","room","led","waiting","here","goal"]
def ny(K:Za):TS :=
 ar (dI (nY K (aw V0)) (gp K 2 (aR U2 (aR U3 (fW)))) (bU (tB (Dj K V3 (nF K V1 V3))) (aY V2) (br)))
 (aY (tC .non))
def ou:List Str:=["rooms","led","number","room"]
def xb(K:Za):TS :=
 bU (tB (xj V1)) (oZ) (br)
def yC:List Str:=["part","number"]
def vo(K:Za)(sp_need_none:Sp)(sp_first_wrong_door:Sp)(sp_door_signs:Sp)(sp_first_wrong_name:Sp):TS :=
 ar (bV (aH sp_need_none (aW (tC (.str "asks")) (aH sp_first_wrong_name (cE V0 (tC (.int 4)) (cf (bd)))))))
 (ar (bV (aH sp_need_none (aW (tC (.str "says")) (aH sp_first_wrong_name (cE V1 (tC (.int 4)) V0)))))
 (ar (bV (aH sp_need_none (aW (tC (.str "rooms")) (aH sp_first_wrong_name (cE V2 (tC (.int 150)) (cf (bd)))))))
 (bV (aH sp_need_none (ap (tC (.str "doors")) (aw (aH sp_first_wrong_door (cE V3 V2 (aH sp_door_signs (aW V0 V1))))))))))
def wB:List Str:=["asks","says","rooms","doors"]
def oX(K:Za):TS :=
 ar (aM (o6) U2)
 (ar (dI (cp K V0) U3 (md V2 V3 (cf (bd))))
 (ar (dI (cp K V1) U4 (bV (xu K "list" dF (nF K V2 (ax (tT K) V4 (tC (.int 0)))) (aw V4))))
 (aY V2)))
def pB:List Str:=["rooms","doors","leaving","room","door"]
def oU(K:Za):TS :=
 aY (dJ (GH K) (ap (cD 1 [] (cp K V0) U0 (fV) (ax m5 (ax (tT K) (ax (tT K) V0 (tC (.int 1))) (tC (.int 0))) (tC (.str "ask")))) bd))
def pA:List Str:=["doors"]
def my(K:Za)(sp_need_none:Sp)(sp_first_led_round:Sp)(sp_led_by_still:Sp)(sp_goals_by_start_and_sign:Sp)(sp_as_keys:Sp)(sp_has_asks_alone:Sp)(sp_doors_by_start:Sp)(sp_need_parts:Sp):TS :=
 ar (bV (aH sp_need_parts (ap V1 (cE V2 V3 V4))))
 (ar (vP K V0 (dJ (cU K) (aw V1)) "own_asks")
 (ar (vP K V0 (dJ (cU K) (aw V2)) "own_says")
 (ar (vP K V0 (dJ (cU K) (aw V3)) "own_rooms")
 (ar (vP K V0 (dJ (cU K) (aw V4)) "own_doors")
 (ar (vP K V0 (aH sp_doors_by_start (aW V3 V4)) "leaving")
 (ar (vP K V0 (aH sp_as_keys (ap (cD 1 [0] (cp K V3) U0 (tB (aH sp_has_asks_alone (aw (nF K (tG K V1 "leaving") V0)))) V0) bd)) "quiet")
 (ar (vP K V0 (aH sp_goals_by_start_and_sign (aw V4)) "sign_goals")
 (ar (vP K V0 (dJ (Fn K) (ap (cD 1 [0] (cp K V3) U0 (fV) (bb (aW V0 (aH sp_led_by_still (ap (tG K V1 "sign_goals") (aw V0)))))) bd)) "still_led")
 (bV (aH sp_need_none (aW (tC (.str "still")) (aH sp_first_led_round (ap V3 (aw (tG K V0 "still_led")))))))))))))))
def mU:List Str:=["self","asks","says","rooms","doors"]
def mx(K:Za):TS :=
 aY (Dj K V1 (tG K V0 "quiet"))
def mT:List Str:=["self","room"]
def cH(p:Addr)(H H':Hp):Prop:=∀b o,H b=some o->b≠p->H' b=some o
theorem cH.refl(p:Addr)(H:Hp):cH p H H:=fun _ _ h _=>h
theorem cH.trans{p:Addr}{H e f:Hp}(a:cH p H e)(b:cH p e f):cH p H f:=fun c o h n=>b c o (a c o h n) n
theorem ab.exB{p:Addr}{H e:Hp}(a:ab H e):cH p H e:=fun b o h _=>a b o h
theorem cH.upd(p:Addr)(H:Hp)(o:HO):cH p H (upd H p o):=fun b u h n=>by rw[aj n];exact h
theorem ab.new{H:Hp}{a:Addr}{o:HO}(h:H a=none):ab H (upd H a o):=fun b u e=>by rw[aj (af e h)];exact e
theorem cH.free{p:Addr}{H a:Hp}(e:cH p H a){u:HO}(f:a p=some u){l:Addr}(h:a l=none):H l=none:=by
 cases q:H l with
 |none=>rfl
 |some o =>
  by_cases z:l=p
  ·subst z;rw[f]at h;cases h
  ·rw[e l o q z]at h;cases h
theorem kp{H:Hp}{a b:Addr}{o x:HO}(h:H b=some o)(n:H a=none):upd H a x b=some o:=by rw[aj (af h n)];exact h
structure Bx(H:Hp)(p c:Addr)(at_ rest:Int)(ns:List Int):Prop where
 pen:H p=some (.lst [.ref c,.int at_,.int rest])
 cells:H c=some (.lst (ns.map V.int))
 at0:0<=at_
 rest0:0<=rest
theorem Bx.ne{H:Hp}{p c:Addr}{a r:Int}{g:List Int}(h:Bx H p c a r g):c≠p:=by
 intro e;have i:=h.pen;have f:=h.cells;rw[e,i]at f;injection f with f;injection f with f;cases g with
 |nil=>cases f
 |cons n g=>injection f with f;cases f
def eK(H:Hp)(p c:Addr):Prop:=∃a r ns,Bx H p c a r ns
theorem eK.ex{H H':Hp}{p c:Addr}(h:eK H p c)(e:ab H H'):eK H' p c:=by
 obtain⟨a,r,f,g,i,j,k⟩:=h;exact⟨a,r,f,e _ _ g,e _ _ i,j,k⟩
theorem eK.pen{H:Hp}{p c:Addr}(h:eK H p c):∃o,H p=some o:=by
 obtain⟨a,r,f,e,_⟩:=h;exact⟨_,e⟩
theorem eK.cell{H:Hp}{p c:Addr}(h:eK H p c):∃o,H c=some o:=by
 obtain⟨a,r,f,_,e,_⟩:=h;exact⟨_,e⟩
theorem eK.upd{H:Hp}{p c l:Addr}{o:HO}(h:eK H p c)(e:p≠l)(f:c≠l):eK (upd H l o) p c:=by
 obtain⟨a,r,g,i,j,k,m⟩:=h;exact⟨a,r,g,by rw[aj e];exact i,by rw[aj f];exact j,k,m⟩
theorem eK.nep{H:Hp}{p c l:Addr}(h:eK H p c)(a:H l=none):p≠l:=let⟨_,e⟩:=h.pen;af e a
theorem eK.nec{H:Hp}{p c l:Addr}(h:eK H p c)(a:H l=none):c≠l:=let⟨_,e⟩:=h.cell;af e a
theorem cH.new{p:Addr}{H:Hp}{a:Addr}{o:HO}(h:H a=none):cH p H (L2.upd H a o):=fun b u e _=>by rw[aj (af e h)];exact e
inductive lb (vs:List V)(H:Hp)(Q:VK)(E:XK):Prop
 |mk (c a:Int):(vs=[.int c,.int a])->(0<=a)->(∀r:Int,0<=r->Q (.int r) H)->lb  vs H Q E
theorem om{i j:Int}(a:-(2 ^ 64)<j)(e:j<2 ^ 64):EJ i j:=.inr ⟨a,e⟩
theorem BS{K:Za}{f:List V}{H:Hp}{Q:VK}{E:XK}(h:lb f H Q E):vq K (bq Q) (start wD f) H:=by
 obtain⟨c,a,rfl,x,k⟩:=h;refine⟨_,rfl,_,_,rfl,rfl,⟨by decide,by decide,by decide⟩,_,_,rfl,rfl,_,rfl,?_⟩;refine jO (fun h=>?_) (fun _=>?_)
 ·refine⟨_,rfl,k _ ?_⟩;have:=of_decide_eq_true h;have e:((10:Int) ^ (18:Int).toNat)=1000000000000000000:=by decide
  omega
 ·have one:∀z:Int,0<=z % 2147483629/\z % 2147483629<2147483629:=fun z=>⟨oI _ (by decide),oH _ (by decide)⟩;have two:∀z:Int,0<=z % 2147483587/\z % 2147483587<2147483587:=fun z=>⟨oI _ (by decide),oH _ (by decide)⟩;have three:∀z:Int,0<=z % 2147483563/\z % 2147483563<2147483563:=fun z=>⟨oI _ (by decide),oH _ (by decide)⟩;refine⟨_,rfl,_,_,rfl,rfl,(by show(0:Int)<1000000007;decide),_,_,rfl,rfl,om (by decide) (by decide),_,rfl,_,_,rfl,rfl,om (by decide) (by decide),_,_,rfl,rfl,_,_,rfl,rfl,_,_,rfl,rfl,(by show(0:Int)<2147483629;decide),?_⟩;generalize l:(c % 1000000007 * 69069+a * 40503+977)=g;obtain⟨m,n⟩:=one g;generalize g % 2147483629=o at m n ⊢;refine⟨_,rfl,_,rfl,_,_,rfl,rfl,om (by omega) (by omega),_,rfl,_,_,rfl,rfl,om (by decide) (by decide),_,_,rfl,rfl,_,rfl,_,_,rfl,rfl,(by show(0:Int)<65537;decide),_,_,rfl,rfl,_,_,rfl,rfl,(by show(0:Int)<2147483587;decide),?_⟩;generalize p:(o * o+a * 7919+c % 65537)=i;obtain⟨s,t⟩:=two i;generalize i % 2147483587=q at s t ⊢;refine⟨_,rfl,_,rfl,_,_,rfl,rfl,om (by omega) (by omega),_,rfl,_,_,rfl,rfl,om (by decide) (by decide),_,_,rfl,rfl,_,_,rfl,rfl,_,_,rfl,rfl,(by show(0:Int)<2147483563;decide),?_⟩;generalize u:(q * q+o * 31+5)=j;obtain⟨v,w⟩:=three j;generalize j % 2147483563=r at v w ⊢;refine⟨_,rfl,_,_,rfl,rfl,om (by decide) (by decide),_,rfl,_,_,rfl,rfl,_,_,rfl,rfl,om (by decide) (by decide),_,rfl,_,_,rfl,rfl,k _ ?_⟩;omega
def qA:Sp:=fun vs H Q _=>∃p c,vs=[.ref p]/\eK H p c/\∀H',eK H' p c->cH p H H'->Q (.ref p) H'
theorem Fm{K:Za}{e:List V}{H:Hp}{Q:VK}{E:XK}(h:qA e H Q E):y3 K (bq Q) (start Ax e) H:=by
 obtain⟨p,c,rfl,⟨a,r,f,h⟩,k⟩:=h;refine⟨_,rfl,p,_,_,_,rfl,rfl,h.pen,rfl,_,rfl,k _ ⟨a,0,f,aa,?_,h.at0,Int.le_refl 0⟩ (cH.upd _ _ _)⟩;rw[aj h.ne];exact h.cells
theorem Bt{ns:List Int}{a:Int}(e:0<=a)(g:a<ns.length):∃z,ww (ns.map V.int) a=some (.int z):=by
 obtain⟨n,rfl⟩:=iW e;have f:n<ns.length:=by omega
 exact⟨ns[n],aG (by simp[f])⟩
inductive dg (vs:List V)(H:Hp)(Q:VK)(E:XK):Prop
 |mk (p c:Addr) (m:Int):(vs=[.ref p,.int m])->(eK H p c)->(0<m)->(m<1073741824)->(∀(r:Int) (H':Hp),0<=r->r<m->eK H' p c->cH p H H'->Q (.int r) H')->dg  vs H Q E
theorem df{H:Hp}{Q:VK}{E:XK}{p c:Addr}{m:Int}(e:eK H p c)(f:0<m)(g:m<1073741824)(k:∀(r:Int) (a:Hp),0<=r->r<m->eK a p c->cH p H a->Q (.int r) a):dg [.ref p,.int m] H Q E:=by
 exact⟨p,c,m,rfl,e,f,g,k⟩
theorem Ff{K:Za}{t:List V}{H:Hp}{Q:VK}{E:XK}(h:dg t H Q E):yW K lb (bq Q) (start As t) H:=by
 obtain⟨p,c,m,rfl,⟨a,r,ns,h⟩,j,l,k⟩:=h;have f:∀(H':Hp) (n u:Int) (x y:Option V),Bx H' p c n u ns->cH p H H' ->
   (ar (aM (ax iJ (ax (cg K) V0 (tC (.int 2))) V1) U4) (ar (aM (ax DA (ax (cg K) V0 (tC (.int 2))) V1) (ya V0 (tC (.int 2)) pP)) (aY V4)))
    (bq Q) [some (.ref p),some (.int m),x,y,none] H':=by
  intro H' n u x y g ex;refine⟨_,rfl,p,_,2,_,rfl,rfl,ay.of g.pen,rfl,_,rfl,_,_,rfl,rfl,j,?_⟩;refine⟨_,rfl,p,_,2,_,rfl,rfl,ay.of g.pen,rfl,_,rfl,_,_,rfl,rfl,⟨j,l⟩,_,rfl,p,_,_,_,rfl,rfl,g.pen,rfl,?_⟩;refine⟨_,rfl,k _ _ (oI _ (by omega)) (oH _ j) ⟨n,_,ns,aa,?_,g.at0,Int.ediv_nonneg g.rest0 (by omega)⟩ (ex.trans (cH.upd _ _ _))⟩;rw[aj g.ne];exact g.cells
 refine⟨_,rfl,p,_,2,_,rfl,rfl,ay.of h.pen,rfl,_,rfl,_,_,rfl,rfl,_,rfl,?_⟩;refine jO (fun B=>?_) (fun B=>?_)
 ·-- at=pen[1];cell=0;if at<len(pen[0])
  refine⟨_,rfl,p,_,1,_,rfl,rfl,ay.of h.pen,rfl,?_⟩;have o:(V.int ((ns.map V.int).length:Nat))=V.int (ns.length:Nat):=by rw[ak]
  refine⟨_,rfl,_,rfl,p,_,0,_,rfl,rfl,ay.of h.pen,rfl,.inl ⟨c,_,rfl,.inl (ay.of h.cells),_,_,rfl,o,_,rfl,?_⟩⟩;refine jO (fun v=>?_) (fun v=>?_)
  ·obtain⟨z,s⟩:=Bt (ns:=ns) h.at0 (of_decide_eq_true v);refine⟨_,rfl,p,_,0,_,rfl,rfl,ay.of h.pen,rfl,_,rfl,c,_,_,_,rfl,rfl,ay.of h.cells,s,?_⟩;refine⟨_,rfl,_,_,rfl,rfl,_,rfl,p,_,_,_,rfl,rfl,h.pen,rfl,?_⟩;refine⟨_,rfl,_,rfl,_,_,rfl,h.at0,fun q i=>⟨_,rfl,p,_,_,_,rfl,rfl,aa,rfl,?_⟩⟩;rw[qt];refine f _ (a+1) q _ _ ⟨aa,by rw[aj h.ne];exact h.cells,by have:=h.at0;omega,i⟩ (cH.upd _ _ _)
  ·refine⟨_,rfl,p,_,0,_,rfl,rfl,ay.of h.pen,rfl,.inl ⟨c,_,rfl,.inl (ay.of h.cells),_,_,o,rfl,_,rfl,?_⟩⟩;refine jO (fun w=>?_) (fun w=>?_)
   ·have A:(0:Int)<ns.length:=of_decide_eq_true w;obtain⟨z,s⟩:=Bt (ns:=ns) (a:=(a * 5+3) % (ns.length:Int)) (oI _ (by omega)) (oH _ A);refine⟨_,rfl,p,_,0,_,rfl,rfl,ay.of h.pen,rfl,_,rfl,_,_,rfl,rfl,om (by decide) (by decide),_,_,rfl,rfl,_,rfl,p,_,0,_,rfl,rfl,ay.of h.pen,rfl,.inl ⟨c,_,rfl,.inl (ay.of h.cells),_,_,rfl,o,A,c,_,_,_,rfl,rfl,ay.of h.cells,s,?_⟩⟩;refine⟨_,_,rfl,rfl,⟨by decide,by decide,by decide⟩,_,rfl,_,_,rfl,rfl,_,_,rfl,rfl,?_,?_⟩
    ·have e:((10:Int) ^ (17:Int).toNat)=100000000000000000:=by decide
     have:=h.at0;show(0:Int)<10 ^ (17:Int).toNat+a;omega
    refine⟨_,rfl,_,_,rfl,rfl,_,rfl,p,_,_,_,rfl,rfl,h.pen,rfl,?_⟩;refine⟨_,rfl,_,rfl,_,_,rfl,h.at0,fun q i=>⟨_,rfl,p,_,_,_,rfl,rfl,aa,rfl,?_⟩⟩;rw[qt];refine f _ (a+1) q _ _ ⟨aa,by rw[aj h.ne];exact h.cells,by have:=h.at0;omega,i⟩ (cH.upd _ _ _)
   ·refine⟨_,rfl,_,_,rfl,rfl,_,rfl,p,_,_,_,rfl,rfl,h.pen,rfl,?_⟩;refine⟨_,rfl,_,rfl,_,_,rfl,h.at0,fun q i=>⟨_,rfl,p,_,_,_,rfl,rfl,aa,rfl,?_⟩⟩;rw[qt];refine f _ (a+1) q _ _ ⟨aa,by rw[aj h.ne];exact h.cells,by have:=h.at0;omega,i⟩ (cH.upd _ _ _)
 ·exact f H a r _ _ h (cH.refl _ _)
inductive qw(K:Za)(vs:List V)(H:Hp)(Q:VK)(E:XK):Prop
 |mk (a:Addr) (ns:List Int):(vs=[.ref a])->(ay K H a (ns.map V.int))->(ns.length<=63)->(∀(p c:Addr) (H':Hp),H p=none->eK H' p c->ab H H'->Q (.ref p) H')->qw K vs H Q E
theorem uL(a:List Int)(lo e:Option Int):∃f:List Int,fw (a.map V.int) lo e=f.map V.int/\f.length=(fw (a.map V.int) lo e).length:=by
 refine⟨(a.drop (HT.sIx (a.map V.int).length 0 lo)).take (HT.sIx (a.map V.int).length (a.map V.int).length e-HT.sIx (a.map V.int).length 0 lo),?_,?_⟩
 ·unfold fw;rw[qZ,u6]
 ·unfold fw;rw[aQ,aQ,cB,cB,ak]
theorem Fh{K:Za}{vs:List V}{H:Hp}{Q:VK}{E:XK}(h:qw K vs H Q E):yX K (bq Q) (start At vs) H:=by
 obtain⟨a,s,rfl,hs,hn,k⟩:=h;obtain⟨D,e0,l0⟩:=uL s none (some 12);obtain⟨B,e1,l1⟩:=uL s (some 12) (some 63);have G:B≠[]->D.length=12:=by
  intro L;have l:0<B.length:=by cases B with|nil=>exact absurd rfl L|cons _ _=>simp
  rw[l1]at l;rw[l0];unfold fw at l ⊢;rw[aQ,cB,ak]at l;rw[aQ,cB,ak];have s1:HT.sIx s.length 0 (some 12)=min 12 s.length:=HT.sIx_nat _ _ 12;have s2:HT.sIx s.length s.length (some 12)=min 12 s.length:=HT.sIx_nat _ _ 12;rw[HT.sIx_none,s2];rw[s1]at l;omega
 refine⟨_,rfl,_,rfl,a,_,rfl,hs,fun q hq=>.inl ⟨q,_,rfl,.inl (ay.of aa),fun c C=>?_⟩⟩;rw[e0]at C ⊢;have M:H c=none:=by
  have:c≠q:=fun z=>by subst z;rw[aa]at C;cases C
  rw[aj this]at C;exact C
 have hS:ab H (upd (upd H q (.lst (D.map V.int))) c (.lst (D.map V.int))):=(ab.new hq).trans (ab.new C);refine⟨_,rfl,_,rfl,_,rfl,a,_,rfl,hS.seq hs,fun r N=>⟨r,rfl,⟨_,ay.of aa⟩,?_⟩⟩;rw[e1];have O:c≠r:=af aa N
 let T:Nat->L2.St->Hp->Prop:=fun i σ w=>HI fun(j:List Int) (x y:Option V)=>Hc (σ=[some (.ref a),some (.ref c),x,y]) (w c=some (.lst (j.map V.int))) (j.length=D.length) (w r=some (.lst (B.map V.int))) (ab H w)
 refine ig (xs:=B.map V.int) T
  ⟨D,none,none,rfl,kp aa N,rfl,aa,hS.trans (ab.new N)⟩ (fun i σ w _ zq=>by obtain⟨j,x,y,_,_,_,h,_⟩:=zq;exact ay.of h) ?_ ?_
 ·rintro i x σ w t U ⟨j,u,v,rfl,f,I,J,m⟩ Y;have A:i<B.length:=by
   have:=(ca.mp U).1;rwa[ak]at this
  have as:=G (fun z=>by rw[z]at A;simp at A);obtain⟨z,rfl⟩:∃z,x=V.int z:=by
   rw[eZ,bY A]at U;exact⟨_,(ei U).symm⟩
  have g:upd w t (.tup [.int i,.int z]) c=some (.lst (j.map V.int)):=kp f Y;have n:(i:Int) % 12=((i % 12:Nat):Int):=by omega
  have al:i % 12<j.length:=by omega
  refine⟨t,_,rfl,bt.of aa,rfl,_,_,rfl,_,_,rfl,rfl,?_⟩;have an:ww (j.map V.int) ((i:Int) % 12)=some (.int j[i % 12]):=by rw[n];exact aG (by simp[al])
  refine⟨_,rfl,_,rfl,_,_,rfl,rfl,(by show(0:Int)<12;decide),c,_,_,_,rfl,rfl,ay.of g,an,_,rfl,_,_,rfl,rfl,_,rfl,_,rfl,_,_,rfl,rfl,(by show(0:Int)<12;decide),c,_,_,i % 12,rfl,rfl,g,?_,?_⟩
  ·rw[n];unfold CZ;rw[if_pos (by omega),if_pos (by rw[ak];omega)];rw[vh]
  ·refine⟨j.set (i % 12) (j[i % 12]+z),_,_,rfl,?_,by rw[List.length_set];exact I,?_,?_⟩
   ·rw[aa,List.map_set]
   ·rw[aj O.symm];exact kp J Y
   ·intro b o e;rw[aj (af e M)];exact kp (m b o e) Y
 ·rintro σ w ⟨j,x,y,rfl,f,I,J,m⟩;refine⟨_,rfl,(by show 3<=ah;decide),fun p hp=>k p c _ (m.free hp) ⟨0,0,j,aa,kp f hp,Int.le_refl _,Int.le_refl _⟩ (m.trans (ab.new hp))⟩
def v4(c:Nat):Prop:=97<=c/\c<=122
structure pC(w:Str):Prop where
 lo:1<=w.length
 hi:w.length<=8
 al:∀c∈w.cps.toList,v4 c
theorem Bw:∀n:Nat,n<26->(("abcdefghijklmnopqrstuvwxyz":Str).cps.toList)[n]?=some (97+n):=by decide +kernel
theorem Bv:("abcdefghijklmnopqrstuvwxyz":Str).length<=ah:=by decide +kernel
theorem Ey{r:Int}(a:0<=r)(e:r<26):ww (("abcdefghijklmnopqrstuvwxyz":Str).cps.toList) r=some (97+r.toNat):=by
 obtain⟨n,rfl⟩:=iW a;rw[vh];exact aG (Bw n (by omega))
theorem tU(f:List Nat):∀a:Array Nat,((f.map fun c=>(⟨#[c]⟩:Str)).foldl (fun a p=>a++("":Str).cps++p.cps) a).toList=a.toList++f:=by
 have e:("":Str).cps=#[]:=by decide +kernel
 induction f with
 |nil=>intro a;simp
 |cons c f g =>
  intro a;rw[bu,List.foldl_cons,g,e];simp
theorem z_(a:List Nat):(u7 "" (a.map fun c=>(⟨#[c]⟩:Str))).cps.toList=a:=by
 unfold u7 g_.Str.glued;cases a with
 |nil=>rfl
 |cons c a =>
  rw[bu];show((a.map fun c=>(⟨#[c]⟩:Str)).foldl (fun e p=>e++("":Str).cps++p.cps) #[c]).toList=_;rw[tU]
  rfl
theorem Fc{a b:Str}(h:a.cps.toList=b.cps.toList):a=b:=by
 cases a with|mk x=>cases b with|mk y=>exact congrArg Str.mk (Array.toList_inj.mp h)
theorem eN(a:Str):a.length=a.cps.toList.length:=by simp[Str.length]
theorem wx(a b:Str):(a++b).cps.toList=a.cps.toList++b.cps.toList:=by
 show(a.cps++b.cps).toList=_;simp
theorem Em(z:Str)(m:Nat):(sD z none (some (m:Int))).cps.toList=z.cps.toList.take m:=by
 unfold sD;rw[HT.sIx_none,HT.sIx_nat,rc,Nat.sub_zero,eN];show List.take _ _=_;rw[List.take_eq_take_iff];omega
theorem Eo(z:Str)(m:Nat):(sD z (some (m:Int)) none).cps.toList=z.cps.toList.drop m:=by
 unfold sD;rw[HT.sIx_none,HT.sIx_nat,eN];show List.take _ _=_;rw[oG (by rw[cB];omega)];by_cases h:m<=z.cps.toList.length
 ·rw[qY h]
 ·rw[Nat.min_eq_right (by omega),qX,oJ (by omega)]
def ej(way size k:Nat):Nat:=(size+k * (way % 2)) % 8
def yJ(way m:Nat):Nat:=if way=0 then 0 else if way=1 then m else m / 2
def l_(b:List Nat)(way turn size k:Nat):List Nat :=
 (b.take (ej way size k)).take (yJ way (ej way size k))++[97+(turn+3 * k) % 26]++(b.take (ej way size k)).drop (yJ way (ej way size k))
def wX(b:List Nat)(way turn size k:Nat):Str:=⟨(l_ b way turn size k).toArray⟩
theorem oQ{b:List Nat}(e:b.length=7)(way turn a k:Nat):(l_ b way turn a k).length=ej way a k+1:=by
 have f:ej way a k<8:=qW _ (by decide);unfold l_;rw[aF,aF,aQ,cB,aQ,e];have:yJ way (ej way a k)<=ej way a k:=by unfold yJ;split;omega;split;omega;omega
 simp;omega
theorem ET{b:List Nat}(h:b.length=7)(f:∀c∈b,v4 c)(way turn a k:Nat):pC (wX b way turn a k):=by
 have i:ej way a k<8:=qW _ (by decide);have g:=oQ h way turn a k;have e:(wX b way turn a k).cps.toList=l_ b way turn a k:=by simp[wX]
 refine⟨?_,?_,?_⟩
 ·rw[eN,e];omega
 ·rw[eN,e];omega
 ·rw[e];intro c hc;unfold l_ at hc;rcases be.mp hc with hc|hc
  ·rcases be.mp hc with hc|hc
   ·exact f c (g8 (g8 hc))
   ·have:c=97+(turn+3 * k) % 26:=by simpa using hc
    subst this;have:(turn+3 * k) % 26<26:=qW _ (by decide);exact⟨by omega,by omega⟩
  ·exact f c (g8 (qV hc))
theorem C6{b:List Nat}(f:b.length=7){way turn a:Nat}(r:way<3){j k:Nat}(t:j<26)(u:k<26)(h:wX b way turn a j=wX b way turn a k):j=k:=by
 have n:∀i,ej way a i<8:=fun i=>qW _ (by decide);have e:l_ b way turn a j=l_ b way turn a k:=by
  have:=congrArg (fun s=>Str.cps s |>.toList) h;simpa[wX]using this
 have o:ej way a j=ej way a k:=by
  have:=congrArg List.length e;rw[oQ f,oQ f]at this;omega
 have p:97+(turn+3 * j) % 26=97+(turn+3 * k) % 26:=by
  have g:∀i,yJ way (ej way a i)<=ej way a i:=fun i=>by unfold yJ;split;omega;split;omega;omega
  have get:∀i,(l_ b way turn a i)[yJ way (ej way a i)]?=some (97+(turn+3 * i) % 26):=by
   intro i;unfold l_;have q:((b.take (ej way a i)).take (yJ way (ej way a i))).length=yJ way (ej way a i):=by
    rw[aQ,aQ,f];have:=n i;have:=g i;omega
   rw[cA,m9 (by omega),q,mh]
   rfl
  have l:=get j;have m:=get k;rw[e,o]at l;rw[l]at m;exact ei m
 omega
def jS(ws:Zb):Prop:=ws.Nodup/\∀w∈ws,pC w
def jv(b:List Nat)(way turn size n:Nat):List Str:=(l9 n).map (wX b way turn size)
theorem yQ{b:List Nat}(g:b.length=7)(i:∀c∈b,v4 c){a turn e n:Nat}(l:a<3)(q:n<=26):jS (jv b a turn e n):=by
 refine⟨?_,fun w m=>?_⟩
 ·unfold jv;rw[List.nodup_iff_pairwise_ne,List.pairwise_map];refine(List.nodup_range (n:=n)).imp_of_mem ?_;intro j k o p f h;exact f (C6 g l (by have:=List.mem_range.mp o;omega) (by have:=List.mem_range.mp p;omega) h)
 ·obtain⟨k,_,rfl⟩:=aV.mp m;exact ET g i _ _ _ _
inductive kE (vs:List V)(H:Hp)(Q:VK)(E:XK):Prop
 |mk (p c:Addr) (n:Nat):(vs=[.ref p,.int n])->(eK H p c)->(n<=26)->(∀(l:Addr) (ws:Zb) (H':Hp),jS ws->ws.length=n->H l=none->H' l=some (.lst (ws.map V.str))->eK H' p c->cH p H H'->Q (.ref l) H')->kE  vs H Q E
theorem Dr{K:Za}{A:List V}{H:Hp}{Q:VK}{E:XK}(h:kE A H Q E):xh K dg (bq Q) (start yG A) H:=by
 obtain⟨p,c,n,rfl,C,hn,k⟩:=h;refine⟨rfl,7,rfl,by decide,by decide,fun l I=>?_⟩
 let a0:Nat->List V->Hp->Prop:=fun i A u=>∃o:List Nat,A=o.map (fun c=>V.str ⟨#[c]⟩)/\o.length=i/\(∀c∈o,v4 c)/\eK u p c/\cH p H u/\u l=some (.lst A)
 refine sE (lo:=0) (n:=Int.toNat 7) a0
  ⟨[],rfl,rfl,(fun _ h=>nomatch h),C.ex (ab.new I),cH.new I,aa⟩ (fun i A u _ zq=>by obtain⟨_,_,_,_,_,_,h⟩:=zq;exact h) ?_ ?_
 rotate_left
 ·rintro i A u hi ⟨o,rfl,g,w,v,a4,a5⟩;have J:=C.nep I;have a6:=C.nec I;refine gN (mq ?_);refine⟨_,rfl,_,rfl,df v (by decide) (by decide) fun r H2 h0 h1 D s=>⟨_,r,_,rfl,rfl,Bv,Ey h0 h1,?_⟩⟩;have a7:=s l _ a5 J.symm;refine⟨a7,by rw[ak,g];exact aq (by omega),m8 hi ⟨o++[97+r.toNat],by rw[au];rfl,by rw[aF,g];rfl,?_,D.upd J a6,?_,aa⟩⟩
  ·intro x hc;rcases be.mp hc with hc|hc
   ·exact w x hc
   ·have:x=97+r.toNat:=by simpa using hc
    subst this;exact⟨by omega,by omega⟩
  ·intro b o' e nb;rw[aj (af e I)];exact s b o' (a4 b o' e nb) nb
 ·rintro A H1 ⟨o,rfl,g,w,a8,L,a9⟩;refine⟨"",l,o.map fun c=>(⟨#[c]⟩:Str),rfl,rfl,ay.of (by rw[a9,qU];rfl),?_,?_⟩
  ·have e0:("":Str).length=0:=by decide +kernel
   rw[e0,Nat.mul_zero,qU];have:∀o:List Nat,(o.map ((fun x=>Str.length x) ∘ fun c=>(⟨#[c]⟩:Str))).sum=o.length:=by
    intro o
    induction o with
    |nil=>rfl
    |cons c o ih=>rw[bu,List.sum_cons,ih,e_];show 1+_=_;omega
   rw[this,g];decide
  refine⟨_,rfl,df a8 (by decide) (by decide) fun b3 H2 w0 w1 D s=>?_⟩;refine⟨_,rfl,df D (by decide) (by decide) fun turn H3 t0 t1 bi M=>?_⟩;refine⟨_,rfl,df bi (by decide) (by decide) fun b2 H4 s0 s1 N O=>?_⟩;have T:cH p H H4:=((L.trans s).trans M).trans O;obtain⟨j,rfl⟩:=iW w0;obtain⟨G,rfl⟩:=iW t0;obtain⟨sz,rfl⟩:=iW s0;have hb:=z_ o;generalize u7 "" (o.map fun c=>(⟨#[c]⟩:Str))=base at hb ⊢;refine⟨(by show 0<=ah;decide),fun f hf=>?_⟩;obtain⟨op,bl⟩:=N.pen;have y:H f=none:=T.free bl hf;have U:=C.nep y;have Y:=C.nec y;refine⟨_,rfl,n,rfl,by omega,by omega,jo (lo:=0) (n:=((n:Int)).toNat) (fun i σ u=>∃(a b c' d:Option V),σ=[some (.ref p),some (.int n),some (.str "abcdefghijklmnopqrstuvwxyz"),some (.str base),some (.int j),some (.int G),some (.int sz),some (.ref f),a,b,c',d] /\
   eK u p c/\cH p H u/\u f=some (.lst ((jv o j G sz i).map V.str)))
   ⟨_,_,_,_,rfl,N.upd U Y,T.trans (cH.new hf),aa⟩ ?_ ?_⟩
  ·rintro i σ u hi ⟨a,b,c',d,rfl,v,t,z⟩;have b4:i<n:=by omega
   have b5:j<3:=by omega
   have bn:((G:Int)+3 * (0+(i:Int))) % 26=(((G+3 * i) % 26:Nat):Int):=by omega
   refine⟨_,rfl,_,rfl,_,rfl,_,_,rfl,rfl,.inl ⟨by decide,by decide⟩,_,_,rfl,rfl,_,_,rfl,rfl,(by show(0:Int)<26;decide),_,_,_,rfl,rfl,Bv,Ey (oI _ (by decide)) (oH _ (by decide)),?_⟩;have al:base.length<=ah:=by rw[eN,hb,g];decide
   have e8:((sz:Int)+(0+(i:Int)) * ((j:Int) % 2)) % 8=((ej j sz i:Nat):Int):=by
    unfold ej;have:j=0∨j=1∨j=2:=by omega
    rcases this with rfl|rfl|rfl<;>simp<;>omega
   refine⟨_,rfl,_,rfl,_,rfl,_,rfl,_,_,rfl,rfl,(by show(0:Int)<2;decide),_,_,rfl,rfl,.inr ⟨by omega,by omega⟩,_,_,rfl,rfl,_,_,rfl,rfl,(by show(0:Int)<8;decide),_,rfl,base,rfl,al,?_⟩;rw[e8];have m:=Em base (ej j sz i);rw[hb]at m;generalize sD base none (some ((ej j sz i:Nat):Int))=part at m ⊢;have h8:ej j sz i<8:=qW _ (by decide);have B:part.length=ej j sz i:=by rw[eN,m,aQ,g];omega
   have pz:part.length<=ah:=by rw[B];exact cN (aq (by omega))
   refine⟨_,rfl,.inr ⟨part,rfl,pz,_,rfl,.inr ⟨part,rfl,pz,_,_,rfl,rfl,⟨by decide,by decide⟩,(by show 3<=ah;decide),fun q hq=>?_⟩⟩⟩;have an:H q=none:=by
    obtain⟨b6,as⟩:=v.pen;exact t.free as hq
   have b1:ww [V.int 0,V.int (part.length:Nat),V.int ((part.length:Int) / 2)] (j:Int)=some (.int (yJ j (ej j sz i):Nat)):=by
    rw[B];have:j=0∨j=1∨j=2:=by omega
    rcases this with rfl|rfl|rfl
    ·rfl
    ·rfl
    ·show some (V.int (((ej 2 sz i:Nat):Int) / 2))=some (V.int ((yJ 2 (ej 2 sz i):Nat):Int));have:yJ 2 (ej 2 sz i)=ej 2 sz i / 2:=rfl;rw[this];congr 2
   refine⟨_,rfl,q,_,_,_,rfl,rfl,ay.of aa,b1,?_⟩;have aC:upd u q (.lst [V.int 0,V.int (part.length:Nat),V.int ((part.length:Int) / 2)]) f=some (.lst ((jv o j G sz i).map V.str)):=kp z hq;have c1:=Em part (yJ j (ej j sz i));have c2:=Eo part (yJ j (ej j sz i));have l1:(sD part none (some ((yJ j (ej j sz i):Nat):Int))).length<=8:=by rw[eN,c1,aQ,m,aQ,g];omega
   have l2:(sD part (some ((yJ j (ej j sz i):Nat):Int)) none).length<=8:=by rw[eN,c2,cB,m,aQ,g];omega
   refine⟨_,rfl,.inl ⟨rfl,_,ay.of aC⟩,_,rfl,_,rfl,_,rfl,part,rfl,pz,_,rfl,_,_,rfl,rfl,?_,_,rfl,_,rfl,_,rfl,part,rfl,pz,_,_,rfl,rfl,?_,f,_,_,rfl,rfl,aC,?_,?_⟩
   ·have:Str.length ⟨#[97+(((G:Int)+3 * (0+(i:Int))) % 26).toNat]⟩=1:=rfl;rw[this];exact cN (aq (by omega))
   ·rw[eN,wx,aF,<-eN,<-eN];have:Str.length ⟨#[97+(((G:Int)+3 * (0+(i:Int))) % 26).toNat]⟩=1:=rfl;rw[this];exact cN (aq (by omega))
   ·rw[ak];unfold jv;rw[ak,List.length_range];exact aq (by omega)
   ·refine⟨_,_,_,_,rfl,(v.upd (C.nep an) (C.nec an)).upd U Y,?_,?_⟩
    ·intro b' o' e nb;rw[aj (af e y)];exact kp (t b' o' e nb) hq
    ·rw[aa];unfold jv;rw[List.range_succ,au,au];congr 3;show[V.str _]=[V.str _];congr 2;refine Fc ?_;rw[wx,wx,c1,c2,m,bn,vh];simp[wX,l_]
  ·rintro σ u ⟨a,b,c',d,rfl,v,t,z⟩;have en:((n:Int)).toNat=n:=by omega
   rw[en]at z;exact⟨_,rfl,k f _ u (yQ g w (by omega) hn) (by unfold jv;rw[ak,List.length_range]) y z v t⟩
structure ai where
 a:Str
 sg:List Str
 b:Str
deriving DecidableEq
def SignAt(H:Hp)(s:Addr)(sg:Zb):Prop:=H s=some (.tup (sg.map V.str))
def gt(H:Hp)(t:Addr)(d:ai):Prop:=∃s,H t=some (.tup [.str d.a,.ref s,.str d.b])/\SignAt H s d.sg
def fO(H H':Hp):Prop:=∀b xs,H b=some (.tup xs)->H' b=some (.tup xs)
theorem gt.kt{H H':Hp}{t:Addr}{d:ai}(k:fO H H')(h:gt H t d):gt H' t d:=by
 obtain⟨s,a,e⟩:=h;exact⟨s,k _ _ a,k _ _ e⟩
theorem cH.kt{p:Addr}{H a:Hp}{f:List V}(e:cH p H a)(g:H p=some (.lst f)):fO H a:=fun b i h=>e b _ h (fun z=>by rw[z,g]at h;cases h)
theorem ab.kt{H a:Hp}(e:ab H a):fO H a:=fun b f h=>e b _ h
theorem fO.trans{H e f:Hp}(a:fO H e)(b:fO e f):fO H f:=fun x g h=>b x g (a x g h)
theorem cO{H:Hp}{l:Addr}{a:List V}{o:HO}(h:H l=some (.lst a)):fO H (upd H l o):=fun b f e=>by
 rw[aj (fun z=>by rw[z,h]at e;cases e)];exact e
abbrev cz(H:Hp)(ts:Ze)(ds:List ai):Prop:=Paired (gt H) ts ds
theorem Paired.get{α β:Type}{R:α->β->Prop}:∀{a:List α}{e:List β}{i:Nat}{y:β},Paired R a e->e[i]?=some y->∃x,a[i]?=some x/\R x y
 |_,_,i,y,.nil,h=>by simp at h
 |_,_,0,y,.cons r t,h=>by simp at h;subst h;exact⟨_,rfl,r⟩
 |_,_,i+1,y,.cons r t,h=>by
  simp at h;obtain⟨x,f,g⟩:=Paired.get t h;exact⟨x,by simpa using f,g⟩
theorem Paired.getL{α β:Type}{R:α->β->Prop}:∀{a:List α}{e:List β}{i:Nat}{x:α},Paired R a e->a[i]?=some x->∃y,e[i]?=some y/\R x y
 |_,_,i,y,.nil,h=>by simp at h
 |_,_,0,y,.cons r t,h=>by simp at h;subst h;exact⟨_,rfl,r⟩
 |_,_,i+1,y,.cons r t,h=>by
  simp at h;obtain⟨x,f,g⟩:=Paired.getL t h;exact⟨x,by simpa using f,g⟩
theorem cz.kt{H H':Hp}{a:Ze}{e:List ai}(k:fO H H')(h:cz H a e):cz H' a e:=Paired.mapP h fun _ _ r=>r.kt k
theorem GC{H:Hp}{a:Addr}{o:HO}(h:H a=some o):upd H a o=H:=by
 funext b;by_cases e:b=a
 ·subst e;rw[aa,h]
 ·rw[aj e]
def dE(x:Str):DT:=.k (.inr x)
def qo(d:ai):DT:=.t [dE d.a,.t (d.sg.map dE),dE d.b]
theorem nN{x y:Str}(h:dE x=dE y):x=y:=by
 unfold dE at h;injection h with h;injection h
theorem gE:∀{x y:Zb},x.map dE=y.map dE->x=y
 |[],[],_=>rfl
 |[],_::_,h=>by cases h
 |_::_,[],h=>by cases h
 |a::x,b::y,h=>by
  rw[bu,bu]at h;injection h with e f;rw[nN e,gE f]
theorem FQ{x y:ai}(h:qo x=qo y):x=y:=by
 unfold qo at h;injection h with h;injection h with e h;injection h with a h;injection h with f h;injection a with a;cases x;cases y;simp only at *;rw[nN e,gE a,nN f]
theorem dU(a:Zb):DT.depths (a.map dE)=0:=by
 induction a with
 |nil=>rfl
 |cons x a e=>rw[bu];show max (DT.depth (dE x)) (DT.depths _)=0;rw[e];rfl
theorem qG(d:ai):(qo d).depth=2:=by
 show DT.depths [dE d.a,.t (d.sg.map dE),dE d.b]+1=2;show max (DT.depth (dE d.a)) (max (DT.depths (d.sg.map dE)+1) (max (DT.depth (dE d.b)) 0))+1=2;rw[dU]
 rfl
theorem uK(a:List ai):DT.depths (a.map qo)<=8:=by
 induction a with
 |nil=>exact b_ _
 |cons x e f=>rw[bu];show max (DT.depth (qo x)) (DT.depths _)<=8;rw[qG];omega
theorem jQ{K:Za}{H:Hp}:∀a:List Str,DIns K H (a.map dE) (a.map V.str)
 |[]=>by show DIns K H [] [];unfold DIns;rfl
 |x::a=>by
  rw[bu,bu];unfold DIns;refine⟨_,_,rfl,?_,jQ a⟩;unfold dE jr
  rfl
theorem j_{K:Za}{H:Hp}(x:Str):jr K H (dE x) (.str x):=by unfold dE jr;rfl
theorem aS{K:Za}{H:Hp}{s:Addr}{a:Zb}(h:bt K H s (a.map V.str)):jr K H (.t (a.map dE)) (.ref s):=by
 unfold jr;exact⟨s,_,rfl,h,jQ _⟩
theorem gt.dIn{K:Za}{H:Hp}{t:Addr}{d:ai}(h:gt H t d):jr K H (qo d) (.ref t):=by
 obtain⟨s,a,e⟩:=h;unfold qo;unfold jr;refine⟨t,_,rfl,bt.of a,?_⟩;unfold DIns;refine⟨_,_,rfl,j_ _,?_⟩;unfold DIns;refine⟨_,_,rfl,aS (bt.of e),?_⟩;unfold DIns;refine⟨_,_,rfl,j_ _,?_⟩;unfold DIns
 rfl
theorem cz.dIns{K:Za}{H:Hp}:∀{a:Ze}{e:List ai},cz H a e->DIns K H (e.map qo) (a.map V.ref)
 |_,_,.nil=>by show DIns K H [] [];unfold DIns;rfl
 |_,_,.cons r t=>by
  rw[bu,bu];unfold DIns;exact⟨_,_,rfl,r.dIn,cz.dIns t⟩
theorem v3{d:ai}{a:List ai}:qo d∈a.map qo↔d∈a:=by
 constructor
 ·intro h;obtain⟨x,f,e⟩:=aV.mp h;rw[<-FQ e];exact f
 ·exact ki
def kH(ds:List ai)(d:ai):List ai:=if d∈ds then ds else ds++[d]
inductive jA (vs:List V)(H:Hp)(Q:VK)(E:XK):Prop
 |mk (l t:Addr) (ts:Ze) (ds:List ai) (d:ai):(vs=[.ref l,.ref t])->(H l=some (.lst (ts.map V.ref)))->(cz H ts ds)->(gt H t d)->(ds.length<=1000)->(∀ts':List Addr,cz H ts' (kH ds d)->Q .non (upd H l (.lst (ts'.map V.ref))))->jA  vs H Q E
theorem GG{K:Za}{i:List V}{H:Hp}{Q:VK}{E:XK}(h:jA i H Q E):BG K (bq Q) (start CQ i) H:=by
 obtain⟨l,t,j,g,d,rfl,a,e,m,n,k⟩:=h;refine⟨_,rfl,_,rfl,qo d,g.map qo,l,_,m.dIn,rfl,.inl (ay.of a),e.dIns,by rw[qG];decide,uK g,_,rfl,?_⟩;by_cases f:d∈g
 ·rw[if_pos rfl,zzr1 (v3.mpr f)];refine aU ?_;have:=k j (by unfold kH;rw[if_pos f];exact e);rw[GC a]at this;exact this
 ·rw[if_pos rfl,zzr0 (fun z=>f (v3.mp z))];refine bx ?_;refine⟨_,rfl,.inl ⟨rfl,_,ay.of a⟩,_,rfl,l,_,_,rfl,rfl,a,?_,?_⟩
  ·rw[ak,Paired.length e];exact aq n
  ·have:=k (j++[t]) (by unfold kH;rw[if_neg f];exact cc e m);rw[au]at this;exact this
structure DI(R:ai->Prop)(H0:Hp)(p c l:Addr)(m:Nat)(H:Hp):Prop where
 pen:eK H p c
 ds:∃ts ds,H l=some (.lst (ts.map V.ref))/\cz H ts ds/\ds.Nodup/\(∀d∈ds,R d)/\ds.length<=m
 ex:cH p H0 H
 fr:H0 l=none
 pl:p≠l
 cl:c≠l
section
variable{R:ai->Prop}{H0 H H':Hp}{p c l:Addr}{m:Nat}
theorem eK.lst{H:Hp}{p c:Addr}(h:eK H p c):∃e,H p=some (.lst e):=by
 obtain⟨a,r,g,f,_⟩:=h;exact⟨_,f⟩
theorem DI.took(h:DI R H0 p c l m H)(a:eK H' p c)(e:cH p H H'):DI R H0 p c l m H':=by
 obtain⟨f,g,i,j,k⟩:=h.ds;obtain⟨o,n⟩:=h.pen.lst;exact⟨a,⟨f,g,e _ _ i h.pl.symm,j.kt (e.kt n),k⟩,h.ex.trans e,h.fr,h.pl,h.cl⟩
theorem DI.new(h:DI R H0 p c l m H){q:Addr}{o:HO}(a:H q=none):DI R H0 p c l m (upd H q o) :=
 h.took (h.pen.ex (ab.new a)) (cH.new a)
theorem DI.up(h:DI R H0 p c l m H){n:Nat}(a:m<=n):DI R H0 p c l n H:=by
 obtain⟨e,f,g,i,j,k,o⟩:=h.ds;exact⟨h.pen,⟨e,f,g,i,j,k,bm o a⟩,h.ex,h.fr,h.pl,h.cl⟩
theorem DI.put(h:DI R H0 p c l m H){t:Addr}{d:ai}{Q:VK}{E:XK}(r:gt H t d)(s:R d)(u:m<=1000)(k:∀H',DI R H0 p c l (m+1) H'->Q .non H'):jA [.ref l,.ref t] H Q E:=by
 obtain⟨v,f,i,w,j,q,y⟩:=h.ds;refine⟨l,t,v,f,d,rfl,i,w,r,bm y u,fun g z=>k _ ⟨h.pen.upd h.pl h.cl,⟨g,kH f d,aa,z.kt (cO i),?_,?_,?_⟩,?_,h.fr,h.pl,h.cl⟩⟩
 ·unfold kH;split
  ·exact j
  ·next A =>
   rw[de];refine⟨j,by simp,?_⟩;intro a B b C e;have:b=d:=by simpa using C
   subst this;exact A (e▸B)
 ·intro x hx;unfold kH at hx;split at hx
  ·exact q x hx
  ·rcases be.mp hx with hx|hx
   ·exact q x hx
   ·have:x=d:=by simpa using hx
    rw[this];exact s
 ·unfold kH;split
  ·omega
  ·rw[aF];show f.length+1<=m+1;omega
 ·intro b o e n;rw[aj (af e h.fr)];exact h.ex b o e n
end
theorem eK.ne_strs{H:Hp}{p c a:Addr}{g:Zb}(h:eK H p c)(f:H a=some (.lst (g.map V.str))):a≠p:=by
 intro e;obtain⟨x,y,j,i,_⟩:=h;rw[e,i]at f;injection f with f;injection f with f;cases g with
 |nil=>cases f
 |cons w g=>injection f with f;cases f
theorem iI{K:Za}{r:R2}(B:∀x y H Q,cg K x y H Q->r x y H Q){σ:L2.St}{H:Hp}{Q:VK}{p c a:Addr}{j:Nat}{e:Zb}(C:σ[0]?=some (some (.ref p)))(o:σ[j]?=some (some (.ref a)))(q:eK H p c)
  (g:H a=some (.lst (e.map V.str))) (h:e≠[]) (s:e.length<=1000) (k:∀w∈e,∀H',eK H' p c->cH p H H'->Q (.str w) H') :
  ∃v,σ[j]?=some (some v)/\∃t,σ[0]?=some (some t)/\∃u,σ[j]?=some (some u)/\dh K [u] H fun y D=>dg [t,y] D (fun y E=>r v y E Q) E0:=by
 have I:0<e.length:=by cases e with|nil=>exact absurd rfl h|cons _ _=>simp
 have G:(V.int ((e.map V.str).length:Nat))=V.int (e.length:Nat):=by rw[ak]
 have i:=q.ne_strs g;have l:∀(x:Int) (H':Hp),0<=x->x<(e.length:Int)->eK H' p c->cH p H H'->cg K (.ref a) (.int x) H' Q:=by
  intro x H' m z f ex;obtain⟨n,rfl⟩:=iW m;have A:n<e.length:=by omega
  exact⟨a,_,(n:Int),.str e[n],rfl,rfl,ay.of (ex _ _ g i),aG (by simp[A]),k _ (List.getElem_mem A) H' f ex⟩
 exact⟨_,o,_,C,_,o,.inl ⟨a,_,rfl,.inl (ay.of g),by rw[G];exact df q (by omega) (by omega) fun x H' m z f ex=>B _ _ _ _ (l x H' m z f ex)⟩⟩
def Up(up:Bool)(rooms:Zb)(a b:Str):Prop:=∃i j:Nat,rooms[i]?=some a/\rooms[j]?=some b/\(if up=true then i<j else j<i)
structure kW(J0 J2 rooms:Zb)(up:Bool)(d:ai):Prop where
 a:d.a∈rooms
 b:d.b∈rooms
 sg:(∃w∈J0,d.sg=[("ask":Str),w])∨(∃w∈J2,d.sg=[("say":Str),w])∨(d.sg=[("still":Str)]/\Up up rooms d.a d.b)
def am:List Str:=[("still":Str)]
structure uX(J0 J2 rooms:Zb)(d:ai):Prop where
 a:d.a∈rooms
 b:d.b∈rooms
 sg:(∃w∈J0,d.sg=[("ask":Str),w])∨(∃w∈J2,d.sg=[("say":Str),w])∨d.sg=am
theorem kW.d{J0 e rooms:Zb}{up:Bool}{d:ai}(h:kW J0 e rooms up d):uX J0 e rooms d:=⟨h.a,h.b,h.sg.imp id (Or.imp id And.left)⟩
inductive Reach(ds:List ai)(a:Str):Str->Prop
 |one {b:Str}(h:(⟨a,am,b⟩:ai)∈ds):Reach ds a b
 |step {b c:Str}(r:Reach ds a b) (h:(⟨b,am,c⟩:ai)∈ds):Reach ds a c
theorem qF{rooms:Zb}(m:rooms.Nodup){i j:Nat}{a:Str}(n:rooms[i]?=some a)(o:rooms[j]?=some a):i=j:=by
 obtain⟨e,f⟩:=ca.mp n;obtain⟨g,k⟩:=ca.mp o;have l:=List.pairwise_iff_getElem.mp m;rcases Nat.lt_trichotomy i j with h|h|h
 ·exact absurd (f.trans k.symm) (l i j e g h)
 ·exact h
 ·exact absurd (k.trans f.symm) (l j i g e h)
theorem Up.trans{up:Bool}{rooms:Zb}(f:rooms.Nodup){a b c:Str}(g:Up up rooms a b)(l:Up up rooms b c):Up up rooms a c:=by
 obtain⟨i,j,m,n,h⟩:=g;obtain⟨q,k,o,p,e⟩:=l;have:=qF f n o;subst this;refine⟨i,k,m,p,?_⟩;cases up
 ·simp at h e ⊢;omega
 ·simp at h e ⊢;omega
theorem Up.irr{up:Bool}{rooms:Zb}(e:rooms.Nodup){a:Str}(h:Up up rooms a a):False:=by
 obtain⟨i,j,f,g,h⟩:=h;have:=qF e f g;subst this;cases up
 ·simp at h
 ·simp at h
theorem C9{i j rooms:Zb}{g:List ai}{up:Bool}(k:rooms.Nodup)(m:∀d∈g,kW i j rooms up d){a b:Str}(h:Reach g a b):Up up rooms a b:=by
 have f:∀{a b:Str},(⟨a,am,b⟩:ai)∈g->Up up rooms a b:=by
  intro a b h;rcases(m _ h).sg with⟨w,_,e⟩|⟨w,_,e⟩|⟨_,e⟩
  ·cases e
  ·cases e
  ·exact e
 induction h with
 |one h=>exact f h
 |step r h l=>exact l.trans k (f h)
inductive gz (vs:List V)(H:Hp)(Q:VK)(E:XK):Prop
 |mk (p c l1 l2 l3:Addr) (J0 J2 rooms:Zb) (full:Int):(vs=[.ref p,.ref l1,.ref l2,.ref l3,.int full])->(eK H p c)->(H l1=some (.lst (J0.map V.str)))->(H l2=some (.lst (J2.map V.str)))->(H l3=some (.lst (rooms.map V.str)))->(J0.length<=4)->(J2≠[])->(J2.length<=4)->(rooms≠[])->(rooms.length<=26)->(0<=full)->(full<=2)->(∀(l:Addr) (ts:Ze) (ds:List ai) (up:Bool) (H':Hp),H l=none->H' l=some (.lst (ts.map V.ref))->cz H' ts ds->ds.Nodup->(∀d∈ds,kW J0 J2 rooms up d)->ds.length<=600->eK H' p c->cH p H H'->Q (.ref l) H')->gz  vs H Q E
theorem at4{x r:Int}(a:0<=x)(e:x<=2)(f:0<=r)(g:r<4):∃j:Int,ww [V.int x,.int 1,.int 1,.int 2] r=some (.int j)/\0<=j/\j<=2:=by
 have:r=0∨r=1∨r=2∨r=3:=by omega
 rcases this with rfl|rfl|rfl|rfl
 ·exact⟨x,rfl,a,e⟩
 ·exact⟨1,rfl,by decide,by decide⟩
 ·exact⟨1,rfl,by decide,by decide⟩
 ·exact⟨2,rfl,by decide,by decide⟩
theorem uM(a:Zb)(k:Nat):fw (a.map V.str) (some (k:Int)) none=(a.drop k).map V.str:=by
 unfold fw;rw[HT.sIx_none,HT.sIx_nat,ak,oG (by rw[cB,ak];omega),u6];by_cases h:k<=a.length
 ·rw[qY h]
 ·rw[Nat.min_eq_right (by omega),oJ (by simp),oJ (by rw[ak];omega)]
theorem qJ(a:Zb)(k:Nat):fw (a.map V.str) none (some (k:Int))=(a.take k).map V.str:=by
 unfold fw;rw[HT.sIx_none,HT.sIx_nat,ak,rc,Nat.sub_zero,qZ,List.take_eq_take_iff,ak];omega
theorem sB{K:Za}{H:Hp}{a:Addr}{e:Zb}(h:ay K H a (e.map V.str)):jr K H (.s (e.map dE)) (.ref a):=by
 unfold jr;exact⟨a,_,rfl,h,jQ _⟩
theorem Bs{K:Za}{H:Hp}{a:Addr}(h:ay K H a []):jr K H (.s []) (.ref a):=by
 unfold jr;refine⟨a,_,rfl,h,?_⟩;unfold DIns
 rfl
inductive DdI(G:ai->Prop)(H:Hp)(p c l l1 l2 l3:Addr)(full dn:Int)(i:Nat)(σ:L2.St)(H':Hp):Prop
 |mk (a7 a8 a9 a10 a11 a12:Option V):σ=[some (.ref p),some (.ref l1),some (.ref l2),some (.ref l3),some (.int full),some (.ref l),some (.int dn),a7,a8,a9,a10,a11,a12]->DI G H p c l (11 * i) H'->DdI G H p c l l1 l2 l3 full dn i σ H'
theorem tR{K:Za}{vs:List V}{H:Hp}{Q:VK}{E:XK}(h:gz vs H Q E):oT K dg jA (bq Q) (start pq vs) H:=by
 obtain⟨p,c,l1,l2,l3,J0,J2,rooms,a,rfl,hp,h1,h2,h3,ha,ce,hs,a5,hr,f0,f2,k⟩:=h;have n1:=hp.ne_strs h1;have n2:=hp.ne_strs h2;have n3:=hp.ne_strs h3;refine⟨(by show 0<=ah;decide),fun l hl=>?_⟩;have a6:=hp.nep hl;have ch:=hp.nec hl;refine⟨_,rfl,df (hp.ex (ab.new hl)) (by decide) (by decide) fun M H1 d0 d1 cl bi=>?_⟩;generalize hG:kW J0 J2 rooms (decide (M=0))=G;have base:DI G H p c l 0 H1:=⟨cl,⟨[],[],bi _ _ aa a6.symm,.nil,rg,by simp,b_ _⟩,(cH.new hl).trans bi,hl,a6,ch⟩;refine⟨_,rfl,l3,rfl,⟨_,ay.of (base.ex _ _ h3 n3)⟩,?_⟩;refine ig (xs:=rooms.map V.str) (DdI G H p c l l1 l2 l3 a M)
  ⟨_,_,_,_,_,_,rfl,base⟩ (fun i σ H' _ zq=>by obtain⟨_,_,_,_,_,_,_,D⟩:=zq;exact ay.of (D.ex _ _ h3 n3)) ?_ ?_
 ·rintro i x σ H' t hi ⟨a7,a8,C,m,v,A,rfl,D⟩ ht;obtain⟨room,f,rfl⟩:∃room,rooms[i]?=some room/\x=V.str room:=by
   rw[eZ]at hi;cases q:rooms[i]? with
   |none=>rw[q]at hi;cases hi
   |some r=>rw[q]at hi;exact⟨r,rfl,(ei hi).symm⟩
  have dK:i<rooms.length:=(ca.mp f).1;have N:room∈rooms:=cw f;refine⟨t,_,rfl,bt.of aa,rfl,_,_,rfl,_,_,rfl,rfl,?_⟩;have D1:=D.new ht (o:=.tup [.int i,.str room]);refine⟨(by show 4<=ah;decide),fun q hq=>⟨_,rfl,df (D1.new hq).pen (by decide) (by decide) fun r H2 r0 r1 cm bl=>?_⟩⟩;obtain⟨j,hj,j0,j2⟩:=at4 (x:=0) (by decide) (by decide) r0 r1;have D2:=(D1.new hq).took cm bl;refine⟨q,_,_,_,rfl,rfl,ay.of (bl q _ aa (D1.pen.nep hq).symm),hj,j,rfl,by omega,by omega,?_⟩
  let co:Nat->L2.St->Hp->Prop:=fun i' σ O=>G7 fun(C m:Option V)=>σ=[some (.ref p),some (.ref l1),some (.ref l2),some (.ref l3),some (.int a),some (.ref l),some (.int M),some (.int i),some (.str room),C,m,v,A]/\DI G H p c l (11 * i+i') O
  refine jo (lo:=0) (n:=j.toNat) co
   ⟨_,_,rfl,D2⟩ ?_ ?_
  ·rintro i' σ H3 I ⟨C,m,rfl,D3⟩;refine iI (fun _ _ _ _ h=>h) rfl rfl D3.pen (D3.ex _ _ h2 n2) ce (by omega) fun w hw H4 cq cs=>?_;have D4:=D3.took cq cs;refine⟨(by show 2<=ah;decide),fun L g=>?_⟩;have D5:=D4.new g (o:=.tup [.str "say",.str w]);refine⟨_,rfl,_,rfl,_,rfl,iI (fun _ _ _ _ h=>h) rfl rfl D5.pen (D5.ex _ _ h3 n3) a5 (by omega) fun U J H6 ct bn=>?_⟩;have D6:=D5.took ct bn;refine⟨(by show 3<=ah;decide),fun dr u=>?_⟩;have D7:=D6.new u (o:=.tup [.str room,.ref L,.str U]);have b1:H6 L=some (.tup [.str "say",.str w]):=bn _ _ aa (D4.pen.nep g).symm;refine D7.put (d:=⟨room,["say",w],U⟩) ⟨L,aa,kp b1 u⟩ ?_ (by omega) fun H8 Y=>⟨_,_,rfl,Y⟩;rw[<-hG];exact⟨N,J,.inr (.inl ⟨w,hw,rfl⟩)⟩
  rintro σ H3 ⟨C,m,rfl,b2⟩;have D3:DI G H p c l (11 * i+2) H3:=b2.up (by omega);clear b2;refine⟨_,rfl,l1,rfl,⟨_,ay.of (D3.ex _ _ h1 n1)⟩,?_⟩
  let c0:Nat->L2.St->Hp->Prop:=fun i' σ O=>G7 fun(C v:Option V)=>σ=[some (.ref p),some (.ref l1),some (.ref l2),some (.ref l3),some (.int a),some (.ref l),some (.int M),some (.int i),some (.str room),C,m,v,A]/\DI G H p c l (11 * i+2+2 * i') O
  refine bP (xs:=J0.map V.str) c0
   ⟨_,_,rfl,D3⟩ (fun i σ H' _ zq=>by obtain⟨_,_,_,D⟩:=zq;exact ay.of (D.ex _ _ h1 n1)) ?_ ?_
  ·rintro i' x σ H4 I ⟨C,v,rfl,D4⟩;obtain⟨ask,an,rfl⟩:∃ask,J0[i']?=some ask/\x=V.str ask:=by
    rw[eZ]at I;cases q:J0[i']? with
    |none=>rw[q]at I;cases I
    |some r=>rw[q]at I;exact⟨r,rfl,(ei I).symm⟩
   have dT:i'<J0.length:=(ca.mp an).1;have c1:ask∈J0:=cw an;refine⟨_,rfl,(by show 4<=ah;decide),fun q hq=>⟨_,rfl,df (D4.new hq).pen (by decide) (by decide) fun r H5 r0 r1 c2 b3=>?_⟩⟩;obtain⟨j,hj,j0,j2⟩:=at4 f0 f2 r0 r1;have D5:=(D4.new hq).took c2 b3;refine⟨q,_,_,_,rfl,rfl,ay.of (b3 q _ aa (D4.pen.nep hq).symm),hj,j,rfl,by omega,by omega,?_⟩
   let c3:Nat->L2.St->Hp->Prop:=fun b4 σ O=>∃C:Option V,σ=[some (.ref p),some (.ref l1),some (.ref l2),some (.ref l3),some (.int a),some (.ref l),some (.int M),some (.int i),some (.str room),C,m,some (.str ask),A]/\DI G H p c l (11 * i+2+2 * i'+b4) O
   refine jo (lo:=0) (n:=j.toNat) c3
    ⟨_,rfl,D5⟩ ?_ ?_
   ·rintro b4 σ H6 dy ⟨C,rfl,D6⟩;refine⟨_,rfl,_,rfl,_,rfl,(by show 2<=ah;decide),fun L g=>?_⟩;have D7:=D6.new g (o:=.tup [.str "ask",.str ask]);refine iI (fun _ _ _ _ h=>h) rfl rfl D7.pen (D7.ex _ _ h3 n3) a5 (by omega) fun U J H8 c4 b5=>?_;have Y:=D7.took c4 b5;refine⟨(by show 3<=ah;decide),fun dr u=>?_⟩;have D9:=Y.new u (o:=.tup [.str room,.ref L,.str U]);have b6:H8 L=some (.tup [.str "ask",.str ask]):=b5 _ _ aa (D6.pen.nep g).symm;refine D9.put (d:=⟨room,["ask",ask],U⟩) ⟨L,aa,kp b6 u⟩ ?_ (by omega) fun H8 Y=>⟨_,rfl,Y⟩;rw[<-hG];exact⟨N,J,.inl ⟨ask,c1,rfl⟩⟩
   ·rintro σ H6 ⟨C,rfl,D6⟩;exact⟨_,_,rfl,D6.up (by omega)⟩
  rintro σ H4 ⟨C,v,rfl,b7⟩;have D4:DI G H p c l (11 * i+10) H4:=b7.up (by rw[ak];omega);clear b7;have B:∀(H9:Hp) (A:Option V),DI G H p c l (11 * i+11) H9->DdI G H p c l l1 l2 l3 a M (i+1) [some (.ref p),some (.ref l1),some (.ref l2),some (.ref l3),some (.int a),some (.ref l),some (.int M),some (.int i),some (.str room),C,m,v,A] H9:=fun H9 A D9=>⟨_,_,_,_,_,_,rfl,D9.up (by omega)⟩;refine⟨_,rfl,_,rfl,_,_,rfl,rfl,_,rfl,l3,_,rfl,ay.of (D4.ex _ _ h3 n3),fun q1 c5=>?_⟩;have D5:=D4.new c5 (o:=.lst (fw (rooms.map V.str) (some ((i:Int)+1)) none));refine⟨_,rfl,_,rfl,_,rfl,l3,_,rfl,ay.of (D5.ex _ _ h3 n3),fun q2 b8=>?_⟩;have e1:fw (rooms.map V.str) (some ((i:Int)+1)) none=(rooms.drop (i+1)).map V.str:=uM rooms (i+1);rw[qJ];have D6:=D5.new b8 (o:=.lst ((rooms.take i).map V.str));refine⟨(by show 2<=ah;decide),fun q3 aC=>?_⟩;have D7:=D6.new aC (o:=.lst [.ref q1,.ref q2]);obtain⟨lt,q,hq,al,T⟩:∃(lt:Zb) (q:Addr),ww [V.ref q1,.ref q2] M=some (.ref q) /\
    upd (upd (upd H4 q1 (.lst (fw (rooms.map V.str) (some ((i:Int)+1)) none))) q2 (.lst ((rooms.take i).map V.str))) q3 (.lst [.ref q1,.ref q2]) q=some (.lst (lt.map V.str))/\lt.length<=26 /\
    ∀w∈lt,w∈rooms/\Up (decide (M=0)) rooms room w:=by
   have:M=0∨M=1:=by omega
   rcases this with rfl|rfl
   ·refine⟨rooms.drop (i+1),q1,rfl,?_,by rw[cB];omega,fun w hw=>⟨qV hw,?_⟩⟩
    ·refine(kp (kp aa b8) aC).trans ?_;rw[e1]
    ·obtain⟨n,hn⟩:=oE hw;rw[List.getElem?_drop]at hn;exact⟨i,i+1+n,f,hn,by rw[if_pos (by decide)];omega⟩
   ·refine⟨rooms.take i,q2,rfl,?_,by rw[aQ];omega,fun w hw=>⟨g8 hw,?_⟩⟩
    ·exact kp aa aC
    ·obtain⟨n,hn⟩:=oE hw;have dc:n<i:=by
      have:=(ca.mp hn).1;rw[aQ]at this;omega
     rw[List.getElem?_take_of_lt dc]at hn;exact⟨i,n,f,hn,by rw[if_neg (by decide)];omega⟩
  refine⟨_,rfl,q3,_,_,_,rfl,rfl,ay.of aa,hq,?_⟩;generalize upd (upd (upd H4 q1 (.lst (fw (rooms.map V.str) (some ((i:Int)+1)) none))) q2 (.lst ((rooms.take i).map V.str))) q3 (.lst [.ref q1,.ref q2])=H7 at D7 al ⊢;refine⟨_,rfl,(by show 0<=ah;decide),fun e he=>⟨.s (lt.map dE),.s [],sB (ay.of (kp al he)),Bs (ay.of aa),?_,by decide,_,rfl,?_⟩⟩
  ·show DT.depths (lt.map dE)+1<=8;rw[dU];decide
  have Y:=D7.new he (o:=.lst []);by_cases hz:lt=[]
  ·have ez:(!decide (DT.s (lt.map dE)=DT.s []))=false:=by rw[hz,zzr1 (by rfl)];rfl
   rw[ez];exact aU (aU (B _ _ (Y.up (by omega))))
  ·have ez:(!decide (DT.s (lt.map dE)=DT.s []))=true:=by
    rw[zzr0 (fun z=>hz (gE (y:=[]) (by injection z)))];rfl
   rw[ez];refine bx ?_;refine⟨_,rfl,df Y.pen (by decide) (by decide) fun r H9 r0 r1 dd b9=>⟨rfl,_,rfl,?_⟩⟩;have D9:=Y.took dd b9;refine jO (fun _=>?_) (fun _=>B _ _ (D9.up (by omega)));refine⟨_,rfl,_,rfl,(by show 1<=ah;decide),fun L g=>?_⟩;have cb:=D9.new g (o:=.tup [.str "still"]);have a0:upd H9 L (.tup [.str "still"]) q=some (.lst (lt.map V.str)):=kp (b9 _ _ (kp al he) (Y.pen.ne_strs (kp al he))) g;refine iI (fun _ _ _ _ h=>.inl h) rfl rfl cb.pen a0 hz (by omega) fun U J dk cd as=>?_;have dm:=cb.took cd as;refine⟨(by show 3<=ah;decide),fun dr u=>?_⟩;have dp:=dm.new u (o:=.tup [.str room,.ref L,.str U]);have a4:dk L=some (.tup [.str "still"]):=as _ _ aa (D9.pen.nep g).symm;refine dp.put (d:=⟨room,[("still":Str)],U⟩) ⟨L,aa,kp a4 u⟩ ?_ (by omega) fun dV dx=>B _ _ dx;rw[<-hG];exact⟨N,(T.2 U J).1,.inr (.inr ⟨rfl,(T.2 U J).2⟩)⟩
 ·rintro σ H' ⟨a7,a8,C,m,v,A,rfl,D⟩;obtain⟨ts,ds,g1,g2,g3,g4,g5⟩:=D.ds;rw[ak]at g5;rw[<-hG]at g4;exact⟨_,rfl,k l ts ds _ H' hl g1 g2 g3 g4 (by omega) D.pen D.ex⟩
structure aJ(J0 J2 rooms:Zb)(ds:List ai):Prop where
 okA:jS J0
 okS:jS J2
 apart:∀w∈J2,w∉J0
 okR:jS rooms
 asks0:J0≠[]
 says0:J2≠[]
 rooms0:rooms≠[]
 asks4:J0.length<=4
 says4:J2.length<=4
 rooms26:rooms.length<=150
 nodup:ds.Nodup
 good:∀d∈ds,uX J0 J2 rooms d
 few:ds.length<=1000
 noround:∀r,¬Reach ds r r
structure eJ(H:Hp)(t l1 l2 l3 l4:Addr)(ts:Ze)(J0 J2 rooms:Zb)(ds:List ai):Prop where
 t:H t=some (.tup [.ref l1,.ref l2,.ref l3,.ref l4])
 a1:H l1=some (.lst (J0.map V.str))
 a2:H l2=some (.lst (J2.map V.str))
 a3:H l3=some (.lst (rooms.map V.str))
 a4:H l4=some (.lst (ts.map V.ref))
 ds:cz H ts ds
theorem eK.ne_refs{H:Hp}{p c a:Addr}{g:Ze}(i:eK H p c)(f:H a=some (.lst (g.map V.ref))):a≠p:=by
 intro e;obtain⟨x,y,k,j,_⟩:=i;rw[e,j]at f;injection f with f;injection f with f;cases g with
 |nil=>cases f
 |cons w h =>
  injection f with _ f;cases h with
  |nil=>cases f
  |cons w h=>injection f with f;cases f
theorem eJ.ex{H f:Hp}{p c t g i l3 j:Addr}{k:Ze}{l m rooms:Zb}{n:List ai}(h:eJ H t g i l3 j k l m rooms n)(a:eK H p c)(e:cH p H f):eJ f t g i l3 j k l m rooms n:=by
 obtain⟨q,o⟩:=a.lst;exact⟨e.kt o _ _ h.t,e _ _ h.a1 (a.ne_strs h.a1),e _ _ h.a2 (a.ne_strs h.a2),e _ _ h.a3 (a.ne_strs h.a3),e _ _ h.a4 (a.ne_refs h.a4),h.ds.kt (e.kt o)⟩
theorem eJ.same{H a:Hp}{t f g l3 i:Addr}{j:Ze}{k l rooms:Zb}{m:List ai}(h:eJ H t f g l3 i j k l rooms m)(e:ab H a):eJ a t f g l3 i j k l rooms m :=
 ⟨e _ _ h.t,e _ _ h.a1,e _ _ h.a2,e _ _ h.a3,e _ _ h.a4,h.ds.kt (ab.kt e)⟩
inductive nJ (vs:List V)(H:Hp)(Q:VK)(E:XK):Prop
 |mk (p c:Addr) (most full:Int):(vs=[.ref p,.int most,.int full])->(eK H p c)->(0<most)->(most<=25)->(0<=full)->(full<=2)->(∀(t l1 l2 l3 l4:Addr) (ts:Ze) (J0 J2 rooms:Zb) (ds:List ai) (H':Hp),eJ H' t l1 l2 l3 l4 ts J0 J2 rooms ds->aJ J0 J2 rooms ds->rooms.length<=most.toNat->ds.length<=600->eK H' p c->cH p H H'->Q (.ref t) H')->nJ  vs H Q E
theorem at6{r:Int}(a:0<=r)(e:r<6):∃n:Nat,ww [V.int 0,.int 1,.int 1,.int 2,.int 2,.int 3] r=some (.int n)/\n<=3:=by
 have:r=0∨r=1∨r=2∨r=3∨r=4∨r=5:=by omega
 rcases this with rfl|rfl|rfl|rfl|rfl|rfl
 ·exact⟨0,rfl,by decide⟩
 ·exact⟨1,rfl,by decide⟩
 ·exact⟨1,rfl,by decide⟩
 ·exact⟨2,rfl,by decide⟩
 ·exact⟨2,rfl,by decide⟩
 ·exact⟨3,rfl,by decide⟩
theorem Ep{a:Zb}(e:a.length=8){n:Nat}(j:n<=3):fw (a.map V.str) (some 4) (some (5+(n:Int)))=((a.drop 4).take (1+n)).map V.str:=by
 unfold fw;have f:HT.sIx (a.map V.str).length 0 (some 4)=min 4 (a.map V.str).length:=HT.sIx_nat _ _ 4;have g:HT.sIx (a.map V.str).length (a.map V.str).length (some (5+(n:Int)))=min (5+n) (a.map V.str).length:=HT.sIx_nat _ _ (5+n);rw[f,g,ak,e,qZ,u6];have h:min 4 8=4:=by decide
 have i:min (5+n) 8-4=1+n:=by omega
 rw[h,i]
theorem Ds{K:Za}{vs:List V}{H:Hp}{Q:VK}{E:XK}(h:nJ vs H Q E):xi K gz kE dg qA (bq Q) (start yH vs) H:=by
 obtain⟨p,c,cb,al,rfl,hp,m0,m1,f0,f2,k⟩:=h;refine⟨_,rfl,p,c,rfl,hp,fun H1 a7 a8=>?_⟩;refine⟨_,rfl,p,c,8,rfl,a7,by decide,fun lw a H2 ok len fr hl A a9=>?_⟩;have e2:=a8.trans a9;have nw:=A.ne_strs hl;refine⟨_,rfl,(by show 6<=ah;decide),fun q f=>⟨_,rfl,df (A.ex (ab.new f)) (by decide) (by decide) fun r B r0 r1 bi C=>?_⟩⟩;obtain⟨n,hn,n3⟩:=at6 r0 r1;have an:B lw=some (.lst (a.map V.str)):=C _ _ (kp hl f) nw;refine⟨q,_,_,_,rfl,rfl,ay.of (C _ _ aa (A.nep f).symm),hn,_,_,rfl,rfl,_,rfl,lw,_,rfl,ay.of an,fun g D=>?_⟩;have ea:fw (a.map V.str) none (some (1+(n:Int)))=(a.take (1+n)).map V.str:=qJ a (1+n);rw[ea];have e3:cH p H B:=e2.trans ((cH.new f).trans C);have i:eK (upd B g (.lst ((a.take (1+n)).map V.str))) p c:=bi.ex (ab.new D);have e4:cH p H (upd B g (.lst ((a.take (1+n)).map V.str))):=e3.trans (cH.new D);have as:upd B g (.lst ((a.take (1+n)).map V.str)) lw=some (.lst (a.map V.str)):=kp an D;have G:upd B g (.lst ((a.take (1+n)).map V.str)) g=some (.lst ((a.take (1+n)).map V.str)):=aa;generalize upd B g (.lst ((a.take (1+n)).map V.str))=H4 at i e4 as G ⊢;refine⟨_,rfl,_,rfl,(by show 6<=ah;decide),fun q f=>⟨_,rfl,df (i.ex (ab.new f)) (by decide) (by decide) fun r u r0 r1 bl j=>?_⟩⟩;obtain⟨m,hm,m3⟩:=at6 r0 r1;have bn:u lw=some (.lst (a.map V.str)):=j _ _ (kp as f) nw;have b1:u g=some (.lst ((a.take (1+n)).map V.str)):=j _ _ (kp G f) (i.ne_strs G);refine⟨q,_,_,_,rfl,rfl,ay.of (j _ _ aa (i.nep f).symm),hm,_,_,rfl,rfl,_,rfl,lw,_,rfl,ay.of bn,fun v I=>?_⟩;rw[Ep len m3];have e5:cH p H u:=e4.trans ((cH.new f).trans j);have l:eK (upd u v (.lst (((a.drop 4).take (1+m)).map V.str))) p c:=bl.ex (ab.new I);have e6:cH p H (upd u v (.lst (((a.drop 4).take (1+m)).map V.str))):=e5.trans (cH.new I);have J:upd u v (.lst (((a.drop 4).take (1+m)).map V.str)) g=some (.lst ((a.take (1+n)).map V.str)):=kp b1 I;have L:upd u v (.lst (((a.drop 4).take (1+m)).map V.str)) v=some (.lst (((a.drop 4).take (1+m)).map V.str)):=aa;generalize upd u v (.lst (((a.drop 4).take (1+m)).map V.str))=H6 at l e6 J L ⊢;refine⟨_,rfl,_,rfl,_,rfl,df l m0 (by omega) fun r H7 r0 r1 M N=>?_⟩;obtain⟨rn,rfl⟩:=iW r0;have aC:=N _ _ J (l.ne_strs J);have a0:=N _ _ L (l.ne_strs L);refine⟨_,_,rfl,rfl,p,c,1+rn,rfl,M,by omega,fun l3 rooms H8 O x cd e o T=>?_⟩;have U:=T _ _ aC (M.ne_strs aC);have Y:=T _ _ a0 (M.ne_strs a0);have a4:(a.drop 4).take (1+m)≠[]:=by
  intro z;have:=congrArg List.length z;rw[aQ,cB,len]at this;simp at this
 have b2:a.take (1+n)≠[]:=by
  intro z;have:=congrArg List.length z;rw[aQ,len]at this;simp at this
 have a5:rooms≠[]:=by
  intro z;rw[z]at x;simp at x;omega
 refine⟨_,rfl,_,rfl,_,rfl,_,rfl,_,rfl,p,c,g,v,l3,_,_,rooms,al,rfl,o,U,Y,e,by rw[aQ];omega,a4,by rw[aQ];omega,a5,by omega,f0,f2,fun l4 ts ds up H9 ce a6 b3 b4 y b5 b6 s=>?_⟩;have b7:=s _ _ U (o.ne_strs U);have b8:=s _ _ Y (o.ne_strs Y);have b9:=s _ _ e (o.ne_strs e);refine⟨_,rfl,_,rfl,_,rfl,_,rfl,(by show 4<=ah;decide),fun t ht=>k t g v l3 l4 ts _ _ rooms ds _ ⟨aa,kp b7 ht,kp b8 ht,kp b9 ht,kp a6 ht,b3.kt (ab.kt (ab.new ht))⟩ ?_ ?_ b5 (b6.ex (ab.new ht)) ?_⟩
 ·refine⟨⟨?_,fun w h=>ok.2 w (g8 h)⟩,⟨?_,fun w h=>ok.2 w (qV (g8 h))⟩,?_,O,b2,a4,a5,by rw[aQ];omega,by rw[aQ];omega,by omega,b4,fun d hd=>(y d hd).d,by omega,fun r z=>(C9 O.1 y z).irr O.1⟩
  ·exact ok.1.sublist (List.take_sublist _ _)
  ·exact ok.1.sublist ((List.take_sublist _ _).trans (List.drop_sublist _ _))
  ·intro w h1 h2;have h3:w∈a.drop 4:=g8 h1;have h4:w∈a.take 4:=by
    have:a.take (1+n)=(a.take 4).take (1+n):=by rw[List.take_take];congr 1;omega
    rw[this]at h2;exact g8 h2
   have:=ok.1;rw[<-u5 4 a,de]at this;exact this.2.2 w h4 w h3 rfl
 ·omega
 ·exact(((e6.trans N).trans T).trans s).trans (cH.new ht)
theorem bE{a:Zb}{i:Nat}{x:V}(h:(a.map V.str)[i]?=some x):∃w,a[i]?=some w/\x=.str w:=by
 rw[eZ]at h;cases q:a[i]? with
 |none=>rw[q]at h;cases h
 |some r=>rw[q]at h;exact⟨r,rfl,(ei h).symm⟩
theorem take_snoc{α:Type}{a:List α}{i:Nat}{w:α}(h:a[i]?=some w):a.take (i+1)=a.take i++[w]:=by
 obtain⟨e,rfl⟩:=ca.mp h;rw[List.take_succ_eq_append_getElem e]
def nS(w:Str):Bool:=!decide (w=("":Str)) && (decide (w.length<=8) && w.cps.toList.all fun c=>decide (c∈("abcdefghijklmnopqrstuvwxyz":Str).cps.toList))
theorem pC.b{w:Str}(h:pC w):nS w=true:=by
 unfold nS;have a:¬(w=("":Str)):=fun e=>by
  have:=h.lo;rw[e]at this;exact absurd this (by decide +kernel)
 rw[zzr0 a,zzr1 h.hi,Bool.not_false,qT,qT,va];intro c f;obtain⟨g,i⟩:=h.al c f;refine zzr1 ?_;have:=Bw (c-97) (by omega);have e:97+(c-97)=c:=by omega
 rw[e]at this;exact cw this
inductive sp_is_name (vs:List V)(H:Hp)(Q:VK)(E:XK):Prop
 |mk (w:Str):(vs=[.str w])->(w.length<=1000)->(∀H',ab H H'->Q (.bl (nS w)) H')->sp_is_name  vs H Q E
theorem zM{K:Za}{a:List V}{H:Hp}{Q:VK}{E:XK}(h:sp_is_name a H Q E):BJ K (bq Q) (start CU a) H:=by
 obtain⟨w,rfl,s,k⟩:=h;refine⟨_,rfl,rfl,_,rfl,?_⟩;have t:(!decide (V.str w=V.str ("":Str)))=!decide (w=("":Str)):=by
  congr 1;by_cases e:w=("":Str)
  ·rw[zzr1 e,zzr1 (by rw[e])]
  ·rw[zzr0 e,zzr0 (fun z=>e (by injection z))]
 rw[t];refine jO (fun m=>?_) (fun m=>?_)
 ·refine⟨_,rfl,.inr ⟨w,rfl,cN (aq s),_,_,rfl,rfl,_,rfl,?_⟩⟩;refine jO (fun n=>?_) (fun n=>?_)
  ·refine⟨_,rfl,w,rfl,fun l r=>?_⟩
   let p:Nat->List V->Hp->Prop:=fun i a j=>a=((w.cps.toList.take i).map fun c=>V.bl (decide (c∈("abcdefghijklmnopqrstuvwxyz":Str).cps.toList)))/\ab H j/\j l=some (.lst a)
   refine Er p
    ⟨rfl,ab.new r,aa⟩ (fun i a j _ h=>h.2.2) ?_ ?_
   ·rintro a j ⟨rfl,q,f⟩;refine⟨l,w.cps.toList.map fun c=>decide (c∈("abcdefghijklmnopqrstuvwxyz":Str).cps.toList),rfl,ay.of ?_,?_⟩
    ·rw[f,qU];have:w.cps.toList.take w.cps.size=w.cps.toList:=by
      rw[oG];simp
     rw[this]
     rfl
    ·have:=k j q;have g:decide (w.length<=8)=true:=zzr1 (by have:=of_decide_eq_true n;omega);unfold nS at this;rw[m,g,qT,qT]at this;rw[List.all_map];exact this
   ·rintro i a j c u v ⟨rfl,q,f⟩;refine gN (mq ?_);refine⟨_,rfl,c,_,rfl,rfl,f,?_,m8 v ⟨?_,?_,aa⟩⟩
    ·rw[ak,aQ];have:w.length=w.cps.toList.length:=eN w;exact aq (by omega)
    ·rw[take_snoc (by rw[<-u];simp),au]
     rfl
    ·intro b o e;rw[aj (af e r)];exact q b o e
  ·have:=k H (ab.refl H);have g:decide (w.length<=8)=false:=zzr0 (fun z=>n (zzr1 (by omega)));unfold nS at this;rw[m,g,qT,AG]at this;exact this
 ·have:=k H (ab.refl H);unfold nS at this;rw[Bool.eq_false_iff.mpr m,AG]at this;exact this
def bB(ws:Zb):List (b0×V):=ws.foldl (fun acc w=>di acc (.inr w) (.bl true)) []
theorem fh(a:Zb)(w:Str):bB (a++[w])=di (bB a) (.inr w) (.bl true):=by
 unfold bB;rw[qS]
 rfl
theorem xH{κ:Type}[DecidableEq κ](a:List (κ×V))(k:κ)(v:V):(di a k v).length<=a.length+1:=by
 unfold di;split
 ·rw[ak];omega
 ·rw[aF];exact aB _
theorem ky{α:Type}(P:List α->Prop)(f:P [])(g:∀a w,P a->P (a++[w]))(a:List α):P a:=by
 have:∀n (a:List α),a.length=n->P a:=by
  intro n
  induction n with
  |zero=>intro a h;rw[List.length_eq_zero_iff.mp h];exact f
  |succ n i =>
   intro a h;have e:a≠[]:=fun z=>by rw[z]at h;cases h
   rw[<-List.dropLast_concat_getLast e];exact g _ _ (i _ (by rw[List.length_dropLast,h];rfl))
 exact this _ a rfl
theorem mK(a:Zb):(bB a).length<=a.length:=by
 refine ky (fun a=>(bB a).length<=a.length) (aB _) (fun a w h=>?_) a;show(bB (a++[w])).length<=(a++[w]).length;rw[fh,aF];have:=xH (bB a) (.inr w) (.bl true);show _<=a.length+1;omega
theorem sm(a:Zb)(x:Str):cr (bB a) (.inr x)=if x∈a then some (.bl true)else none:=by
 refine ky (fun a=>cr (bB a) (.inr x)=if x∈a then some (.bl true)else none) rfl (fun a w h=>?_) a
 show cr (bB (a++[w])) (.inr x)=_;rw[fh,wY,h];by_cases e:x=w
 ·subst e;rw[if_pos rfl,if_pos (by simp)]
 ·have f:¬((Sum.inr x:b0)=.inr w):=fun z=>e (by injection z);rw[if_neg f];by_cases m:x∈a
  ·rw[if_pos m,if_pos (da _ m)]
  ·rw[if_neg m,if_neg (fun z=>by rcases be.mp z with z|z;exact m z;exact e (by simpa using z))]
theorem gX(a:Zb)(x:Str):(cr (bB a) (.inr x)).isSome=decide (x∈a):=by
 rw[sm];by_cases m:x∈a
 ·rw[if_pos m,zzr1 m];rfl
 ·rw[if_neg m,zzr0 m];rfl
inductive sp_as_keys(K:Za)(vs:List V)(H:Hp)(Q:VK)(E:XK):Prop
 |mk (l:Addr) (ws:Zb):(vs=[.ref l])->(ay K H l (ws.map V.str))->(ws.length<=1000)->(∀d,H d=none->Q (.ref d) (upd H d (.dK (bB ws))))->sp_as_keys K vs H Q E
theorem zQ{K:Za}{o:List V}{H:Hp}{Q:VK}{E:XK}(h:sp_as_keys K o H Q E):BK K (bq Q) (start CV o) H:=by
 obtain⟨l,j,rfl,q,u,k⟩:=h;refine fun d p=>?_;have a:∀f,ay K (upd H d (.dK f)) l (j.map V.str):=fun f=>(ab.new p).seq q;refine⟨_,rfl,l,rfl,⟨_,a _⟩,?_⟩
 let n:Nat->L2.St->Hp->Prop:=fun i σ m=>∃x,σ=[some (.ref l),some (.ref d),x]/\m=upd H d (.dK (bB (j.take i)))
 refine bP (xs:=j.map V.str) n ⟨_,rfl,rfl⟩ (fun i σ m _ r=>by obtain⟨_,_,e⟩:=r;exact by rw[e];exact a _) ?_ ?_
 ·rintro i x σ m s ⟨y,rfl,rfl⟩;obtain⟨w,t,rfl⟩:=bE s;have g:(bB (j.take i)).length<ah:=aq (bm (mK _) (by rw[aQ];omega));refine⟨_,rfl,_,rfl,d,_,rfl,.inl ⟨_,.inr w,aa,rfl,g,rfl⟩,_,rfl,?_⟩;rw[qt,take_snoc t,fh]
 ·rintro σ m ⟨x,rfl,rfl⟩;rw[ak,a_];exact⟨_,rfl,k d p⟩
def Ed(most:Nat):Nat->List Str->List Str->Option Nat
 |_,_,[]=>none
 |i,ahead,n::ns=>if i=most∨n∈ahead∨nS n=false then some i else Ed most (i+1) (ahead++[n]) ns
def cL(names:Zb)(most:Nat)(taken:Zb):Option Nat:=if names=[]then some 0 else Ed most 0 taken names
def oV:Option Nat->V
 |none=>.non
 |some i=>.int i
inductive sp_first_wrong_name(K:Za)(vs:List V)(H:Hp)(Q:VK)(E:XK):Prop
 |mk (l t:Addr) (names taken:Zb) (most:Nat):(vs=[.ref l,.int most,.ref t])->(ay K H l (names.map V.str))->(ay K H t (taken.map V.str))->(names.length+taken.length<=1000)->((∀w∈names,w.length<=1000))->(∀H',ab H H'->Q (oV (cL names most taken)) H')->sp_first_wrong_name K vs H Q E
theorem pk{K:Za}{H:Hp}{Q:VK}{E:XK}{l:Addr}{ws:Zb}(a:ay K H l (ws.map V.str))(e:ws.length<=1000)(k:∀d,H d=none->Q (.ref d) (upd H d (.dK (bB ws)))):sp_as_keys K [.ref l] H Q E:=by
 exact⟨l,ws,rfl,a,e,k⟩
theorem Ct{H:Hp}{Q:VK}{E:XK}{w:Str}(e:w.length<=1000)(k:∀a,ab H a->Q (.bl (nS w)) a):sp_is_name [.str w] H Q E:=by
 exact⟨w,rfl,e,k⟩
theorem lP{K:Za}{N:List V}{H:Hp}{Q:VK}{E:XK}(h:sp_first_wrong_name K N H Q E):mr K sp_is_name (sp_as_keys K) (bq Q) (start mQ N) H:=by
 obtain⟨l,t,names,taken,a,rfl,A,Y,hz,hw,k⟩:=h;refine⟨_,rfl,.inl ⟨l,_,rfl,.inl A,rfl,_,rfl,?_⟩⟩;by_cases B:names=[]
 ·subst B;refine bx ?_;have:=k H (ab.refl H);exact this
 have e0:decide (V.int ((names.map V.str).length:Nat)=V.int 0)=false:=zzr0 (fun z=>B (by
  injection z with z;rw[ak]at z;exact List.length_eq_zero_iff.mp (by omega)))
 rw[e0];refine aU ?_;have s:∀H',ab H H'->Q (oV (Ed a 0 taken names)) H':=by
  unfold cL at k;rw[if_neg B]at k;exact k
 refine⟨_,rfl,pk Y (by omega) fun d C=>?_⟩;refine⟨_,rfl,l,rfl,⟨_,(ab.new C).seq A⟩,?_⟩
 let D:Nat->L2.St->Hp->Prop:=fun i σ H'=>∃x y,σ=[some (.ref l),some (.int a),some (.ref t),some (.ref d),x,y]/\ab H H'/\H' d=some (.dK (bB (taken++names.take i)))/\Ed a i (taken++names.take i) (names.drop i)=Ed a 0 taken names
 refine ig (xs:=names.map V.str) D
  ⟨_,_,rfl,ab.new C,by rw[qR,f6];exact aa,by rw[qR,f6,rc]⟩ (fun i σ H' _ zq=>by obtain⟨_,_,_,p,_⟩:=zq;exact p.seq A) ?_ ?_
 ·rintro i x σ H' q hi ⟨x4,x5,rfl,p,G,j⟩ O;obtain⟨w,f,rfl⟩:=bE hi;have I:i<names.length:=(ca.mp f).1;have ed:names.drop i=w::names.drop (i+1):=by
   rw[mi I];congr 1;exact(ca.mp f).2
  rw[ed]at j;have m:upd H' q (.tup [.int i,.str w]) d=some (.dK (bB (taken++names.take i))):=kp G O;have g:ab H (upd H' q (.tup [.int i,.str w])):=p.trans (ab.new O);have J:w.length<=1000:=hw w (cw f);refine⟨q,_,rfl,bt.of aa,rfl,_,_,rfl,_,_,rfl,rfl,?_⟩;generalize upd H' q (.tup [.int i,.str w])=T at m g ⊢;refine⟨_,rfl,_,rfl,rfl,_,rfl,?_⟩;by_cases u:i=a
  ·have L:decide (V.int (i:Nat)=V.int (a:Nat))=true:=zzr1 (by rw[u]);rw[L];refine bx (bx ?_);refine⟨_,rfl,?_⟩;have:=s T g;rw[<-j]at this;unfold Ed at this;rw[if_pos (.inl u)]at this;exact this
  have L:decide (V.int (i:Nat)=V.int (a:Nat))=false:=zzr0 (fun z=>u (by injection z with z;omega));rw[L];refine aU ?_;refine⟨_,rfl,_,rfl,d,_,rfl,.inl ⟨_,.inr w,.inl m,rfl,rfl⟩,_,rfl,?_⟩;rw[gX];by_cases v:w∈taken++names.take i
  ·rw[zzr1 v];refine bx (bx ?_);refine⟨_,rfl,?_⟩;have:=s T g;rw[<-j]at this;unfold Ed at this;rw[if_pos (.inr (.inl v))]at this;exact this
  rw[zzr0 v];refine aU ?_;refine⟨_,rfl,Ct J fun H3 n=>⟨_,rfl,?_⟩⟩;have M:=n _ _ m;cases U:nS w with
  |false =>
   refine bx ?_;refine⟨_,rfl,?_⟩;have:=s H3 (g.trans n);rw[<-j]at this;unfold Ed at this;rw[if_pos (.inr (.inr U))]at this;exact this
  |true =>
   refine aU ?_;have r:(bB (taken++names.take i)).length<ah:=aq (bm (mK _) (by rw[aF,aQ];omega));refine⟨_,rfl,_,rfl,d,_,rfl,.inl ⟨_,.inr w,M,rfl,r,rfl⟩,_,_,rfl,?_,?_,?_⟩
   ·intro b o e;rw[aj (af e C)];exact n _ _ (g _ _ e)
   ·rw[aa,take_snoc f,<-cA,fh]
   ·rw[<-j,take_snoc f,<-cA]
    conv=>rhs;unfold Ed
    rw[if_neg];rintro(z|z|z)
    ·exact u z
    ·exact v z
    ·rw[U]at z;cases z
 ·rintro σ H' ⟨x,y,rfl,p,_,j⟩;rw[ak,qX]at j;have:=s H' p;rw[<-j]at this;exact this
theorem yb{a:Nat}:∀(e ahead:Zb) (i:Nat),i+e.length<=a->(ahead++e).Nodup->(∀w∈e,pC w)->Ed a i ahead e=none
 |[],_,_,_,_,_=>rfl
 |n::e,ahead,i,h,f,g=>by
  rw[e_]at h;unfold Ed;rw[if_neg]
  ·refine yb e (ahead++[n]) (i+1) (by omega) (by rw[cA];exact f) fun w j=>g w (eI _ j)
  ·rintro(z|z|z)
   ·omega
   ·rw[de]at f;exact f.2.2 n z n (du) rfl
   ·rw[(g n du).b]at z;cases z
theorem gI{a:Nat}{e taken:Zb}(f:e≠[])(i:e.length<=a)(g:(taken++e).Nodup)(h:∀w∈e,pC w):cL e a taken=none:=by
 unfold cL;rw[if_neg f];exact yb e taken 0 (by omega) g h
theorem gb{n:Nat}(h:n<=9000):n<ah:=vc h (by decide)
def qh(x:Str):TK:=.k (some (.inr x))
def C1(sg:Zb):TK:=.t (sg.map qh)
def Br(d:ai):TK:=.t [qh d.a,C1 d.sg,qh d.b]
theorem qC{x y:Str}(h:qh x=qh y):x=y:=by
 unfold qh at h;injection h with h;injection h with h;injection h
theorem pQ:∀{x y:Zb},x.map qh=y.map qh->x=y
 |[],[],_=>rfl
 |[],_::_,h=>by cases h
 |_::_,[],h=>by cases h
 |a::x,b::y,h=>by
  rw[bu,bu]at h;injection h with e f;rw[qC e,pQ f]
theorem Bk{x y:Zb}(h:C1 x=C1 y):x=y:=by
 unfold C1 at h;injection h with h;exact pQ h
theorem FP{x y:ai}(h:Br x=Br y):x=y:=by
 unfold Br at h;injection h with h;injection h with a h;injection h with e h;injection h with f h;cases x;cases y;simp only at *;rw[qC a,Bk e,qC f]
theorem yT(a:Zb):TK.depths (a.map qh)=0:=by
 induction a with
 |nil=>rfl
 |cons x a e=>rw[bu];show max (TK.depth (qh x)) (TK.depths _)=0;rw[e];rfl
theorem ui(a:Zb):(C1 a).depth=1:=by
 show TK.depths (a.map qh)+1=1;rw[yT]
theorem uj(d:ai):(Br d).depth=2:=by
 show max (TK.depth (qh d.a)) (max (TK.depth (C1 d.sg)) (max (TK.depth (qh d.b)) 0))+1=2;rw[ui]
 rfl
theorem AM{H:Hp}:∀a:List Str,TKAts H (a.map qh) (a.map V.str)
 |[]=>by show TKAts H [] [];unfold TKAts;rfl
 |x::a=>by
  rw[bu,bu];unfold TKAts;refine⟨_,_,rfl,?_,AM a⟩;unfold qh ii
  rfl
theorem yU{H:Hp}(x:Str):ii H (qh x) (.str x):=by unfold qh ii;rfl
theorem SignAt.tk{H:Hp}{s:Addr}{a:Zb}(h:SignAt H s a):ii H (C1 a) (.ref s):=by
 unfold C1 ii;exact⟨s,_,rfl,h,AM _⟩
theorem gt.tk{H:Hp}{t:Addr}{d:ai}(h:gt H t d):ii H (Br d) (.ref t):=by
 obtain⟨s,a,e⟩:=h;unfold Br ii;refine⟨t,_,rfl,a,?_⟩;unfold TKAts;refine⟨_,_,rfl,yU _,?_⟩;unfold TKAts;refine⟨_,_,rfl,SignAt.tk e,?_⟩;unfold TKAts;refine⟨_,_,rfl,yU _,?_⟩;unfold TKAts
 rfl
section
variable{κ:Type}[DecidableEq κ]
def j9(ks:List κ):List (κ×V):=ks.foldl (fun acc k=>di acc k (.bl true)) []
theorem mL(a:List κ)(w:κ):j9 (a++[w])=di (j9 a) w (.bl true):=by
 unfold j9;rw[qS]
 rfl
theorem Cq(a:List κ):(j9 a).length<=a.length:=by
 refine ky (fun a=>(j9 a).length<=a.length) (aB _) (fun a w h=>?_) a;show(j9 (a++[w])).length<=(a++[w]).length;rw[mL,aF];have:=xH (j9 a) w (.bl true);show _<=a.length+1;omega
theorem DY(a:List κ)(x:κ):(cr (j9 a) x).isSome=decide (x∈a):=by
 refine ky (fun a=>(cr (j9 a) x).isSome=decide (x∈a)) rfl (fun a w h=>?_) a;show(cr (j9 (a++[w])) x).isSome=_;rw[mL,wY];by_cases e:x=w
 ·subst e;rw[if_pos rfl,zzr1 (by simp)]
  rfl
 ·rw[if_neg e,h];by_cases m:x∈a
  ·rw[zzr1 m,zzr1 (da _ m)]
  ·rw[zzr0 m,zzr0 (fun z=>by rcases be.mp z with z|z;exact m z;exact e (by simpa using z))]
end
theorem Be{d:ai}{a:List ai}:Br d∈a.map Br↔d∈a:=by
 constructor
 ·intro h;obtain⟨x,f,e⟩:=aV.mp h;rw[<-FP e];exact f
 ·exact ki
def mO(K:Za)(H:Hp)(v:V)(sg:Zb):Prop:=∃s,v=.ref s/\bt K H s (sg.map V.str)
theorem ab.sqT{K:Za}{H f:Hp}{a:Addr}{g:List V}(e:ab H f)(h:bt K H a g):bt K f a g:=by
 rcases h with(h|⟨o,h⟩)|h
 ·exact .inl (.inl (e _ _ h))
 ·exact .inl (.inr ⟨o,e _ _ h⟩)
 ·exact .inr h
theorem Signs.same{K:Za}{H f:Hp}(e:ab H f){xs:List V}{a:List (List Str)}(h:Paired (mO K H) xs a):Paired (mO K f) xs a :=
 Paired.mapP h fun _ _ ⟨s,g,i⟩=>⟨s,g,ab.sqT e i⟩
def fu(sg:Zb):DT:=.t (sg.map dE)
theorem Bl{x y:Zb}(h:fu x=fu y):x=y:=by
 unfold fu at h;injection h with h;exact gE h
theorem bC(a:Zb):(fu a).depth=1:=by
 show DT.depths (a.map dE)+1=1;rw[dU]
theorem CC(a:List (List Str)):DT.depths (a.map fu)<=8:=by
 induction a with
 |nil=>exact b_ _
 |cons x e f=>rw[bu];show max (DT.depth (fu x)) (DT.depths _)<=8;rw[bC];omega
theorem Signs.dIns{K:Za}{H:Hp}:∀{f:List V}{a:List (List Str)},Paired (mO K H) f a->DIns K H (a.map fu) f
 |_,_,.nil=>by show DIns K H [] [];unfold DIns;rfl
 |_,_,.cons ⟨s,e,r⟩ t=>by
  rw[bu];unfold DIns;refine⟨_,_,rfl,?_,Signs.dIns t⟩;rw[e];exact aS r
theorem Bd{d:Zb}{a:List (List Str)}:fu d∈a.map fu↔d∈a:=by
 constructor
 ·intro h;obtain⟨x,f,e⟩:=aV.mp h;rw[<-Bl e];exact f
 ·exact ki
theorem Paired.app{α β:Type}{R:α->β->Prop}:∀{a:List α}{b:List β}{c:List α}{d:List β},Paired R a b->Paired R c d->Paired R (a++c) (b++d)
 |_,_,_,_,.nil,h=>h
 |_,_,_,_,.cons r t,h=>.cons r (Paired.app t h)
def db(w:Str):List Str:=[("ask":Str),w]
def iH(w:Str):List Str:=[("say":Str),w]
def jp(J0 J2:Zb):List (List Str):=J0.map db++J2.map iH++[am]
theorem rR{K:Za}{h:Str}{σ:L2.St}{H:Hp}{a l:Addr}{j:Zb}{Q:Hp->Prop}(B:H a=some (.lst (j.map V.str)))(A:H l=none)(M:j.length<=1000)
  (k:∀(xs:List V) (f:Hp),Paired (mO K f) xs (j.map fun w=>[h,w])->ab H f->f l=some (.lst xs)->Q f) :
  c9 1 [] σ (F0 K a) U0 fV (bb (aW (tC (.str h)) V0)) H l Q:=by
 let r:Nat->List V->Hp->Prop:=fun i g f=>Paired (mO K f) g ((j.take i).map fun w=>[h,w])/\ab H f/\f l=some (.lst g)
 refine cG (xs:=j.map V.str) r
  ⟨.nil,ab.new A,aa⟩ (fun i g f _ C=>by obtain⟨_,D,E⟩:=C;exact⟨E,ay.of (D _ _ B)⟩) ?_ ?_
 ·rintro g f ⟨m,u,n⟩;rw[ak,a_]at m;exact k g f m u n
 ·rintro i g f x G I ⟨m,u,n⟩;obtain⟨w,J,rfl⟩:=bE G;refine gN (mq ?_);refine⟨_,rfl,(by show 2<=ah;decide),fun t p=>⟨kp n p,?_,m8 I ⟨?_,?_,aa⟩⟩⟩
  ·rw[Paired.length m,ak,aQ];exact aq (by omega)
  ·rw[take_snoc J,au];have q:fO (upd f t (.tup [.str h,.str w])) (upd (upd f t (.tup [.str h,.str w])) l (.lst (g++[.ref t]))):=cO (kp n p);have y:fO f (upd (upd f t (.tup [.str h,.str w])) l (.lst (g++[.ref t]))):=(ab.kt (ab.new p)).trans q;refine Paired.app (Paired.mapP m fun v N ⟨s,L,e2⟩=>⟨s,L,?_⟩) (.cons ⟨t,rfl,bt.of (q _ _ aa)⟩ .nil);rcases e2 with(e2|⟨o,e2⟩)|e2
   ·exact .inl (.inl (y _ _ e2))
   ·refine .inl (.inr ⟨o,?_⟩);rw[aj (fun z=>by rw[z,n]at e2;cases e2)];exact kp e2 p
   ·exact .inr e2
  ·intro b o e;rw[aj (af e A)];exact kp (u _ _ e) p
inductive sp_door_signs(K:Za)(vs:List V)(H:Hp)(Q:VK)(E:XK):Prop
 |mk (l1 l2:Addr) (J0 J2:Zb):(vs=[.ref l1,.ref l2])->(H l1=some (.lst (J0.map V.str)))->(H l2=some (.lst (J2.map V.str)))->(J0.length<=100)->(J2.length<=100)->(∀(l:Addr) (xs:List V) (H':Hp),Paired (mO K H') xs (jp J0 J2)->ab H H'->H' l=some (.lst xs)->Q (.ref l) H')->sp_door_signs K vs H Q E
theorem tS{K:Za}{st:Addr}(i:∀H,bt K H st (am.map V.str)){n:List V}{H:Hp}{Q:VK}{E:XK}(h:sp_door_signs K n H Q E):vw K st (bq Q) (start wG n) H:=by
 obtain⟨y,z,J,L,rfl,o,p,A,B,k⟩:=h;refine⟨_,rfl,y,rfl,⟨_,ay.of o⟩,fun a C=>?_⟩;refine rR o C (by omega) fun f M q j D=>?_;refine⟨_,rfl,z,rfl,⟨_,ay.of (j _ _ p)⟩,fun b G=>?_⟩;refine rR (j _ _ p) G (by omega) fun g r s l I=>?_;have t:f.length<=100:=by rw[Paired.length q,ak];exact A
 have u:g.length<=100:=by rw[Paired.length s,ak];exact B
 refine⟨a,b,f,g,rfl,rfl,l _ _ D,I,cN (aq (by omega)),fun c v=>?_⟩;refine⟨(by show 1<=ah;decide),fun d m=>?_⟩;refine⟨c,d,_,_,rfl,rfl,kp aa m,aa,?_,fun e w=>k e _ _ ?_ ?_ aa⟩
 ·rw[aF];show _+1<=ah;exact cN (aq (by omega))
 ·have x:ab r (upd (upd (upd r c (.lst (f++g))) d (.lst [.ref st])) e (.lst (f++g++[.ref st]))):=((ab.new v).trans (ab.new m)).trans (ab.new w);exact Paired.app (Paired.app (Signs.same (l.trans x) q) (Signs.same x s)) (.cons ⟨st,rfl,i _⟩ .nil)
 ·exact(((j.trans l).trans (ab.new v)).trans (ab.new m)).trans (ab.new w)
def FJ(rooms:Zb)(sgs:List (List Str)):Nat->List ai->List ai->Option Nat
 |_,_,[]=>none
 |i,ahead,d::ds=>if i=2000∨d∈ahead∨d.a∉rooms∨d.sg∉sgs∨d.b∉rooms then some i else FJ rooms sgs (i+1) (ahead++[d]) ds
inductive sp_first_wrong_door(K:Za)(vs:List V)(H:Hp)(Q:VK)(E:XK):Prop
 |mk (l l3 sl:Addr) (ts:Ze) (ds:List ai) (rooms:Zb) (xs:List V) (sgs:List (List Str)):(vs=[.ref l,.ref l3,.ref sl])->(H l=some (.lst (ts.map V.ref)))->(cz H ts ds)->(H l3=some (.lst (rooms.map V.str)))->(rooms.length<=1000)->(H sl=some (.lst xs))->(Paired (mO K H) xs sgs)->(ds.length<=9000)->(∀H',ab H H'->Q (oV (FJ rooms sgs 0 [] ds)) H')->sp_first_wrong_door K vs H Q E
theorem bF{a:Ze}{i:Nat}{x:V}(h:(a.map V.ref)[i]?=some x):∃w,a[i]?=some w/\x=.ref w:=by
 rw[eZ]at h;cases q:a[i]? with
 |none=>rw[q]at h;cases h
 |some r=>rw[q]at h;exact⟨r,rfl,(ei h).symm⟩
theorem lQ{K:Za}{vs:List V}{H:Hp}{Q:VK}{E:XK}(h:sp_first_wrong_door K vs H Q E):mv K (sp_as_keys K) (bq Q) (start mR vs) H:=by
 obtain⟨l,l3,sl,ts,p,rooms,xs,m,rfl,hl,A,h3,hr,U,Y,hz,k⟩:=h;refine⟨_,rfl,pk (ay.of h3) hr fun d hd=>?_⟩;refine fun e he=>?_;have B:ab H (upd (upd H d (.dK (bB rooms))) e (.dT [])):=(ab.new hd).trans (ab.new he);have al:H e=none:=(ab.new hd).free he;refine⟨_,rfl,l,rfl,⟨_,ay.of (B _ _ hl)⟩,?_⟩
 let an:Nat->L2.St->Hp->Prop:=fun i σ H'=>∃x y,σ=[some (.ref l),some (.ref l3),some (.ref sl),some (.ref d),some (.ref e),x,y]/\ab H H'/\H' d=some (.dK (bB rooms))/\H' e=some (.dT (j9 ((p.take i).map Br)))/\FJ rooms m i (p.take i) (p.drop i)=FJ rooms m 0 [] p
 refine ig (xs:=ts.map V.ref) an
  ⟨_,_,rfl,B,kp aa he,aa,rfl⟩ (fun i σ H' _ zq=>by obtain⟨_,_,_,C,_⟩:=zq;exact ay.of (C _ _ hl)) ?_ ?_
 ·rintro i x σ H' q hi ⟨x5,x6,rfl,C,as,aC,D⟩ hq;obtain⟨t,ht,rfl⟩:=bF hi;obtain⟨f,r,a0⟩:=Paired.getL A ht;have a4:i<p.length:=(ca.mp r).1;have ed:p.drop i=f::p.drop (i+1):=by
   rw[mi a4];congr 1;exact(ca.mp r).2
  rw[ed]at D;have g:ab H (upd H' q (.tup [.int i,.ref t])):=C.trans (ab.new hq);have j:upd H' q (.tup [.int i,.ref t]) d=_:=kp as hq;have u:upd H' q (.tup [.int i,.ref t]) e=_:=kp aC hq;refine⟨q,_,rfl,bt.of aa,rfl,_,_,rfl,_,_,rfl,rfl,?_⟩;generalize upd H' q (.tup [.int i,.ref t])=H2 at j u g ⊢;have w:=a0.kt (ab.kt g);have a5:lS K H2 (Br f) (.ref t):=ii.isIn 8 (by rw[uj];decide) w.tk;have G:(Br f).depth<=8:=by rw[uj];decide
  obtain⟨s,v,I⟩:=w;have n:(i=2000∨f∈p.take i∨f.a∉rooms∨f.sg∉m∨f.b∉rooms)->Q (.int i) H2:=by
   intro c;have:=k H2 g;rw[<-D]at this;unfold FJ at this;rw[if_pos c]at this;exact this
  refine⟨_,rfl,rfl,_,rfl,?_⟩;by_cases L:i=2000
  ·have e1:decide (V.int (i:Nat)=V.int 2000)=true:=zzr1 (by rw[L];rfl);rw[e1];exact bx (bx ⟨_,rfl,n (.inl L)⟩)
  have e1:decide (V.int (i:Nat)=V.int 2000)=false:=zzr0 (fun z=>L (by injection z with z;omega));rw[e1];refine aU ?_;refine⟨_,rfl,_,rfl,e,_,rfl,.inr ⟨_,Br f,t,.inl u,rfl,a5,G,rfl⟩,_,rfl,?_⟩;rw[DY];by_cases M:f∈p.take i
  ·rw[zzr1 (Be.mpr M)];exact bx ⟨_,rfl,n (.inr (.inl M))⟩
  rw[zzr0 (fun z=>M (Be.mp z))];refine aU ?_;refine⟨_,rfl,.inr (.inl ⟨t,_,0,_,rfl,rfl,bt.of v,rfl,_,rfl,d,_,rfl,.inl ⟨_,.inr f.a,.inl j,rfl,rfl⟩,_,rfl,?_⟩)⟩;rw[gX];by_cases N:f.a∈rooms;rotate_left
  ·rw[zzr0 N];exact bx (bx ⟨_,rfl,n (.inr (.inr (.inl N)))⟩)
  rw[zzr1 N];refine aU ?_;refine⟨_,rfl,.inr (.inl ⟨t,_,1,_,rfl,rfl,bt.of v,rfl,_,rfl,fu f.sg,m.map fu,sl,xs,aS (bt.of I),rfl,.inl (ay.of (g _ _ U)),Signs.dIns (Signs.same g Y),by rw[bC];decide,CC _,_,rfl,?_⟩)⟩;rw[if_pos rfl];by_cases O:f.sg∈m;rotate_left
  ·rw[zzr0 (fun z=>O (Bd.mp z))];exact bx (bx ⟨_,rfl,n (.inr (.inr (.inr (.inl O))))⟩)
  rw[zzr1 (Bd.mpr O)];refine aU ?_;refine⟨_,rfl,.inr (.inl ⟨t,_,2,_,rfl,rfl,bt.of v,rfl,_,rfl,d,_,rfl,.inl ⟨_,.inr f.b,.inl j,rfl,rfl⟩,_,rfl,?_⟩)⟩;rw[gX];by_cases T:f.b∈rooms;rotate_left
  ·rw[zzr0 T];exact bx ⟨_,rfl,n (.inr (.inr (.inr (.inr T))))⟩
  rw[zzr1 T];refine aU ?_;have J:(j9 ((p.take i).map Br)).length<ah:=gb (bm (Cq _) (by rw[ak,aQ];omega));refine⟨_,rfl,_,rfl,e,_,rfl,.inr ⟨_,Br f,t,u,rfl,gt.tk ⟨s,v,I⟩,G,J,rfl⟩,_,_,rfl,?_,?_,?_,?_⟩
  ·intro b o q;rw[aj (af q al)];exact g _ _ q
  ·rw[aj (fun z=>by rw[z,u]at j;cases j)];exact j
  ·rw[aa,take_snoc r,au];exact congrArg (fun z=>some (HO.dT z)) (mL _ _).symm
  ·rw[<-D,take_snoc r]
   conv=>rhs;unfold FJ
   rw[if_neg];rintro(z|z|z|z|z)
   ·exact L z
   ·exact M z
   ·exact z N
   ·exact z O
   ·exact z T
 ·rintro σ H' ⟨x,y,rfl,C,_,_,D⟩;have:=k H' C;rw[<-D,ak,Paired.length A,qX]at this;exact this
theorem yd{rooms:Zb}{e:List (List Str)}:∀(f ahead:List ai) (i:Nat),i+f.length<=2000->(ahead++f).Nodup->(∀d∈f,d.a∈rooms/\d.sg∈e/\d.b∈rooms)->FJ rooms e i ahead f=none
 |[],_,_,_,_,_=>rfl
 |n::j,ahead,i,k,g,h=>by
  rw[e_]at k;unfold FJ;rw[if_neg]
  ·refine yd j (ahead++[n]) (i+1) (by omega) (by rw[cA];exact g) fun w l=>h w (eI _ l)
  ·have:=h n du;rintro(z|z|z|z|z)
   ·omega
   ·rw[de]at g;exact g.2.2 n z n (du) rfl
   ·exact z this.1
   ·exact z this.2.1
   ·exact z this.2.2
inductive sp_need_none (vs:List V)(H:Hp)(Q:VK)(E:XK):Prop
 |mk (x:V):(vs=[x,.non])->(Q .non H)->sp_need_none  vs H Q E
theorem vS{K:Za}{a:List V}{H:Hp}{Q:VK}{E:XK}(h:sp_need_none a H Q E):xb K (bq Q) (start yC a) H:=by
 obtain⟨x,rfl,k⟩:=h;refine⟨_,rfl,_,rfl,?_⟩;have e:(!decide (V.non=V.non))=false:=by rw[zzr1 rfl];rfl
 rw[e];exact aU k
structure Lists(H:Hp)(l1 l2 l3 l4:Addr)(ts:Ze)(J0 J2 rooms:Zb)(ds:List ai):Prop where
 a1:H l1=some (.lst (J0.map V.str))
 a2:H l2=some (.lst (J2.map V.str))
 a3:H l3=some (.lst (rooms.map V.str))
 a4:H l4=some (.lst (ts.map V.ref))
 ds:cz H ts ds
theorem Lists.same{H a:Hp}{f g l3 i:Addr}{j:Ze}{k l rooms:Zb}{m:List ai}(h:Lists H f g l3 i j k l rooms m)(e:ab H a):Lists a f g l3 i j k l rooms m :=
 ⟨e _ _ h.a1,e _ _ h.a2,e _ _ h.a3,e _ _ h.a4,h.ds.kt (ab.kt e)⟩
inductive sp_need_parts (vs:List V)(H:Hp)(Q:VK)(E:XK):Prop
 |mk (l1 l2 l3 l4:Addr) (ts:Ze) (J0 J2 rooms:Zb) (ds:List ai):(vs=[.ref l1,.ref l2,.ref l3,.ref l4])->(Lists H l1 l2 l3 l4 ts J0 J2 rooms ds)->(aJ J0 J2 rooms ds)->(∀H',ab H H'->Q .non H')->sp_need_parts  vs H Q E
theorem aJ.signs{J0 h rooms:Zb}{i:List ai}(m:aJ J0 h rooms i):∀d∈i,d.a∈rooms/\d.sg∈jp J0 h/\d.b∈rooms:=by
 intro d j;have g:=m.good d j;refine⟨g.a,?_,g.b⟩;unfold jp;rcases g.sg with⟨w,f,e⟩|⟨w,f,e⟩|e
 ·rw[e];exact da _ (da _ (aV.mpr ⟨w,f,rfl⟩))
 ·rw[e];exact da _ (c_ _ (aV.mpr ⟨w,f,rfl⟩))
 ·rw[e];exact c_ _ (by simp[am])
theorem pd{a:Zb}(h:jS a):∀w∈a,w.length<=1000:=fun w e=>bm (h.2 w e).hi (by decide)
theorem tQ{K:Za}{r:List V}{H:Hp}{Q:VK}{E:XK}(h:sp_need_parts r H Q E):vo K sp_need_none (sp_first_wrong_door K) (sp_door_signs K) (sp_first_wrong_name K) (bq Q) (start wB r) H:=by
 obtain⟨j,s,t,w,x,f,g,rooms,l,rfl,L,m,k⟩:=h;have y:cL f 4 []=none:=gI m.asks0 m.asks4 m.okA.1 m.okA.2;have z:cL g 4 f=none:=gI m.says0 m.says4 (by
  rw[de];exact⟨m.okA.1,m.okS.1,fun a A b B e=>m.apart b B (e▸A)⟩) m.okS.2
 have C:cL rooms 150 []=none:=gI m.rooms0 (by have:=m.rooms26;omega) m.okR.1 m.okR.2;have D:FJ rooms (jp f g) 0 [] l=none:=yd l [] 0 (by have:=m.few;omega) m.nodup m.signs;have z1:=m.asks4;have z2:=m.says4;have z3:=m.rooms26;have z4:=m.few;refine⟨_,rfl,(by show 0<=ah;decide),fun e i=>⟨j,e,f,[],4,rfl,ay.of (kp L.a1 i),ay.of aa,by simp;omega,pd m.okA,fun H1 G=>?_⟩⟩;rw[y];refine⟨_,rfl,?_⟩;have n:=(ab.new i).trans G;refine⟨_,rfl,_,rfl,s,j,g,f,4,rfl,ay.of (n _ _ L.a2),ay.of (n _ _ L.a1),by omega,pd m.okS,fun H2 I=>?_⟩;rw[z];refine⟨_,rfl,?_⟩;have u:=n.trans I;refine⟨_,rfl,(by show 0<=ah;decide),fun e i=>⟨t,e,rooms,[],150,rfl,ay.of (kp (u _ _ L.a3) i),ay.of aa,by simp;omega,pd m.okR,fun H3 J=>?_⟩⟩;rw[C];refine⟨_,rfl,?_⟩;have o:=(u.trans (ab.new i)).trans J;refine⟨_,rfl,_,rfl,_,rfl,_,rfl,j,s,f,g,rfl,o _ _ L.a1,o _ _ L.a2,by omega,by omega,fun M N H4 O T p=>?_⟩;have v:=o.trans T;have q:=L.same v;refine⟨w,t,M,x,l,rooms,N,jp f g,rfl,q.a4,q.ds,q.a3,by omega,p,O,by omega,fun U Y=>?_⟩;rw[D];exact⟨_,rfl,k U (v.trans Y)⟩
section
variable{κ ι:Type}[DecidableEq κ]{e:ι->κ}
def dw(e:ι->κ)(ps:List (ι×Addr)):List (κ×V):=ps.map fun x=>(e x.1,V.ref x.2)
theorem lC(inj:∀x y,e x=e y->x=y){i:ι}:∀{a:List (ι×Addr)},i∉a.map (·.1)->cr (dw e a) (e i)=none
 |[],_=>rfl
 |x::a,h=>by
  rw[bu,cx]at h;show cr ((e x.1,V.ref x.2)::dw e a) (e i)=none;rw[c8 (fun z=>h (.inl (inj _ _ z).symm))];exact lC inj (fun z=>h (.inr z))
theorem dZ(inj:∀x y,e x=e y->x=y){i:ι}{a:Addr}:∀{f:List (ι×Addr)},(f.map (·.1)).Nodup->(i,a)∈f->cr (dw e f) (e i)=some (.ref a)
 |[],_,h=>by cases h
 |x::f,g,h=>by
  rw[bu,pG]at g;show cr ((e x.1,V.ref x.2)::dw e f) (e i)=_;rcases cx.mp h with h|h
  ·rw[<-h];exact dv rfl
  ·rw[c8 (fun z=>g.1 (by rw[inj _ _ z];exact aV.mpr ⟨_,h,rfl⟩))];exact dZ inj g.2 h
theorem uB(f:List (ι×Addr))(i:ι)(a:Addr):dw e (f++[(i,a)])=dw e f++[(e i,.ref a)]:=by
 unfold dw;rw[au]
 rfl
end
structure DL{ι:Type}(H0 H:Hp)(d:Addr)(ps:List (ι×Addr)):Prop where
 nd:(ps.map (·.1)).Nodup
 na:(ps.map (·.2)).Nodup
 fr:∀x∈ps,H0 x.2=none
 frd:H0 d=none
 ned:∀x∈ps,x.2≠d
 same:ab H0 H
theorem DL.snoc{ι:Type}{f H k:Hp}{d:Addr}{g:List (ι×Addr)}{i:ι}{a:Addr}(h:DL f H d g)(l:i∉g.map (·.1))(m:∀x∈g,x.2≠a)(fr:f a=none)(n:a≠d)(s:ab f k):DL f k d (g++[(i,a)]):=by
 refine⟨?_,?_,?_,h.frd,?_,s⟩
 ·rw[au,de];refine⟨h.nd,by simp,fun x hx y j e=>?_⟩;have:y=i:=by simpa using j
  exact l (by rw[<-this,<-e];exact hx)
 ·rw[au,de];refine⟨h.na,by simp,fun x hx y j e=>?_⟩;have:y=a:=by simpa using j
  obtain⟨z,o,rfl⟩:=aV.mp hx;exact m z o (e.trans this)
 ·intro x hx;rcases be.mp hx with hx|hx
  ·exact h.fr x hx
  ·have:x=(i,a):=by simpa using hx
   rw[this];exact fr
 ·intro x hx;rcases be.mp hx with hx|hx
  ·exact h.ned x hx
  ·have:x=(i,a):=by simpa using hx
   rw[this];exact n
theorem DQ{ι:Type}:∀{a:List (ι×Addr)},(a.map (·.2)).Nodup->∀{x y:ι×Addr},x∈a->y∈a->x.2=y.2->x=y
 |[],_,x,_,h,_,_=>by cases h
 |p::a,f,x,y,g,i,e=>by
  rw[bu,pG]at f;rcases cx.mp g with hx'|hx'<;>rcases cx.mp i with hy'|hy'
  ·rw[hx',hy']
  ·exact absurd (aV.mpr ⟨y,hy',by rw[<-e,hx']⟩) f.1
  ·exact absurd (aV.mpr ⟨x,hx',by rw[e,hy']⟩) f.1
  ·exact DQ f.2 hx' hy' e
theorem iM:∀x y:Str,(Sum.inr x:b0)=Sum.inr y->x=y:=fun x y h=>by injection h
def cn(ds:List ai)(r:Str):List ai:=ds.filter fun d=>decide (d.a=r)
inductive sp_doors_by_start (vs:List V)(H:Hp)(Q:VK)(E:XK):Prop
 |mk (l3 l4:Addr) (ts:Ze) (rooms:Zb) (ds:List ai):(vs=[.ref l3,.ref l4])->(H l3=some (.lst (rooms.map V.str)))->(H l4=some (.lst (ts.map V.ref)))->(cz H ts ds)->(rooms.Nodup)->(rooms.length<=1000)->(ds.length<=9000)->((∀d∈ds,d.a∈rooms))->(∀(d:Addr) (ps:List (Str×Addr)) (H':Hp),ps.map (·.1)=rooms->H' d=some (.dK (dw Sum.inr ps))->(∀x∈ps,∃us,H' x.2=some (.lst (us.map V.ref))/\cz H' us (cn ds x.1))->ab H H'->Q (.ref d) H')->sp_doors_by_start  vs H Q E
theorem nP{K:Za}{vs:List V}{H:Hp}{Q:VK}{E:XK}(h:sp_doors_by_start vs H Q E):oX K (bq Q) (start pB vs) H:=by
 obtain⟨l3,l4,ts,rooms,L,rfl,h3,h4,M,a0,hz,b2,a4,k⟩:=h;refine fun d hd=>?_;refine⟨_,rfl,l3,rfl,⟨_,ay.of (kp h3 hd)⟩,?_⟩
 let a5:Nat->L2.St->Hp->Prop:=fun i σ j=>∃x y,σ=[some (.ref l3),some (.ref l4),some (.ref d),x,y]/\∃l:List (Str×Addr),l.map (·.1)=rooms.take i/\j d=some (.dK (dw Sum.inr l))/\DL H j d l/\∀x∈l,j x.2=some (.lst [])
 refine bP (xs:=rooms.map V.str) a5
  ⟨_,_,rfl,[],rfl,aa,⟨by simp,by simp,by simp,hd,by simp,ab.new hd⟩,by simp⟩ (fun i σ j _ zq=>by obtain⟨_,_,_,_,_,_,D,_⟩:=zq;exact ay.of (D.same _ _ h3)) ?_ ?_
 ·rintro i x σ j hi ⟨x3,N,rfl,l,m,n,D,g⟩;obtain⟨w,hw,rfl⟩:=bE hi;have v:w∉l.map (·.1):=by
   rw[m];intro z;have:=a0;rw[<-u5 (i+1) rooms,take_snoc hw,de]at this;have:=this.1;rw[de]at this;exact this.2.2 w z w (by simp) rfl
  refine⟨(by show 0<=ah;decide),fun a G=>?_⟩;have O:(dw (Sum.inr:Str->b0) l).length<ah:=aq (by
   unfold dw;rw[ak,<-ak (f:=(·.1)) (as:=l),m,aQ];omega)
  have a6:H a=none:=D.same.free G;have T:a≠d:=(af n G).symm;have U:∀x∈l,x.2≠a:=fun x hx=>af (g x hx) G;refine⟨_,rfl,_,rfl,d,_,rfl,.inl ⟨_,.inr w,kp n G,rfl,O,rfl⟩,_,_,rfl,l++[(w,a)],?_,?_,?_,?_⟩
  ·rw[au,m,take_snoc hw];rfl
  ·rw[aa,nR _ (lC iM v),uB]
  ·refine D.snoc v U a6 T ?_;intro b o q;rw[aj (af q hd)];exact kp (D.same _ _ q) G
  ·intro x hx;rcases be.mp hx with hx|hx
   ·rw[aj (D.ned x hx)];exact kp (g x hx) G
   ·have:x=(w,a):=by simpa using hx
    rw[this,aj T];exact aa
 ·rintro σ H1 ⟨x3,N,rfl,l,m,a7,D1,g⟩;rw[ak,a_]at m;refine⟨_,rfl,l4,rfl,⟨_,ay.of (D1.same _ _ h4)⟩,?_⟩
  let a8:Nat->L2.St->Hp->Prop:=fun i σ j=>∃N,σ=[some (.ref l3),some (.ref l4),some (.ref d),x3,N]/\j d=some (.dK (dw Sum.inr l))/\DL H j d l/\∀x∈l,∃I,j x.2=some (.lst (I.map V.ref))/\cz j I (cn (L.take i) x.1)
  refine bP (xs:=ts.map V.ref) a8
   ⟨_,rfl,a7,D1,fun x hx=>⟨[],g x hx,.nil⟩⟩ (fun i σ j _ zq=>by obtain⟨_,_,_,D,_⟩:=zq;exact ay.of (D.same _ _ h4)) ?_ ?_
  ·rintro i x σ j hi ⟨N,rfl,n,D,g⟩;obtain⟨t,ht,rfl⟩:=bF hi;obtain⟨u,B,a9⟩:=Paired.getL M ht;have A:=a9.kt (ab.kt D.same);have Y:=A;obtain⟨s,bi,b3⟩:=A;have al:u.a∈l.map (·.1):=by rw[m];exact a4 u (cw B)
   obtain⟨⟨r,a⟩,p,er⟩:=aV.mp al;obtain rfl:r=u.a:=er;obtain⟨I,C,an⟩:=g _ p;have b4:i<L.length:=(ca.mp B).1;have bl:I.length<=9000:=by
    rw[Paired.length an];refine bm (fA _ _) ?_;rw[aQ];omega
   have KT:fO j (upd j a (.lst (I.map V.ref++[.ref t]))):=cO C;refine⟨_,rfl,_,rfl,.inr (.inl ⟨t,_,0,_,rfl,rfl,bt.of bi,rfl,d,.ref a,rfl,.inl ⟨_,.inr u.a,.inl n,rfl,(dZ iM D.nd p).symm⟩,.inl ⟨rfl,_,ay.of C⟩,_,rfl,a,_,_,rfl,rfl,C,?_,_,rfl,?_,?_,?_⟩)⟩
   ·rw[ak];exact gb bl
   ·rw[aj (D.ned _ p).symm];exact n
   ·refine⟨D.nd,D.na,D.fr,D.frd,D.ned,fun b o q=>?_⟩;rw[aj (af q (D.fr _ p))];exact D.same _ _ q
   ·intro x hx;have aC:∀r',cn (L.take (i+1)) r'=cn (L.take i) r'++(if u.a=r' then[u]else[]):=by
     intro r';unfold cn;rw[take_snoc B,kh];congr 1;by_cases c:u.a=r'
     ·rw[if_pos c];simp[c]
     ·rw[if_neg c];simp[c]
    by_cases c:x.2=a
    ·have ex:=DQ D.na hx p c;subst ex;refine⟨I++[t],?_,?_⟩
     ·show upd j a _ a=_;rw[aa,au];rfl
     ·rw[aC];show cz _ _ (cn (L.take i) u.a++(if u.a=u.a then[u]else[]))
      rw[if_pos rfl];exact Paired.app (an.kt KT) (.cons (Y.kt KT) .nil)
    ·obtain⟨bn,h1,h2⟩:=g x hx;have b1:¬(u.a=x.1):=fun z=>by
      have e1:=dZ (e:=(Sum.inr:Str->b0)) iM D.nd p;have J:=dZ (e:=(Sum.inr:Str->b0)) (i:=x.1) (a:=x.2) iM D.nd hx;rw[<-z,e1]at J;injection J with J;injection J with J;exact c J.symm
     refine⟨bn,by rw[aj c];exact h1,?_⟩;rw[aC,if_neg b1,f6];exact h2.kt KT
  ·rintro σ j ⟨N,rfl,n,D,g⟩;rw[ak,Paired.length M,a_]at g;exact⟨_,rfl,k d l j m n g D.same⟩
def gL(d:ai):Bool:=match d.sg with
 |s::_=>decide (s=("ask":Str))
 |[]=>false
inductive sp_has_asks_alone (vs:List V)(H:Hp)(Q:VK)(E:XK):Prop
 |mk (a:Addr) (us:Ze) (ds:List ai):(vs=[.ref a])->(H a=some (.lst (us.map V.ref)))->(cz H us ds)->(ds.length<=9000)->((∀d∈ds,d.sg≠[]))->(∀H',ab H H'->Q (.bl (ds.all gL)) H')->sp_has_asks_alone  vs H Q E
theorem nO{K:Za}{f:List V}{H:Hp}{Q:VK}{E:XK}(h:sp_has_asks_alone f H Q E):oU K (bq Q) (start pA f) H:=by
 obtain⟨a,O,L,rfl,M,v,hz,C,k⟩:=h;refine⟨_,rfl,a,rfl,⟨_,ay.of M⟩,fun l N=>?_⟩
 let D:Nat->List V->Hp->Prop:=fun i f n=>f=(L.take i).map (fun d=>V.bl (gL d))/\ab H n/\n l=some (.lst f)
 refine cG (xs:=O.map V.ref) D
  ⟨rfl,ab.new N,aa⟩ (fun i f n _ T=>by obtain⟨_,p,r⟩:=T;exact⟨r,ay.of (p _ _ M)⟩) ?_ ?_
 ·rintro f n ⟨rfl,p,r⟩;rw[ak,Paired.length v,a_]at r;refine⟨l,L.map gL,rfl,ay.of (by rw[r,qU];rfl),?_⟩;rw[List.all_map];exact k n p
 ·rintro i f n x U Y ⟨rfl,p,r⟩;obtain⟨t,ht,rfl⟩:=bF U;obtain⟨G,w,I⟩:=Paired.getL v ht;obtain⟨s,J,m⟩:=I.kt (ab.kt p);have A:=cw w;obtain⟨u,g,B⟩:∃u g,G.sg=u::g:=by
   cases q:G.sg with
   |nil=>exact absurd q (C G A)
   |cons x y=>exact⟨x,y,rfl⟩
  unfold SignAt at m;rw[B]at m;refine gN (mq ?_);refine⟨_,rfl,.inr (.inl ⟨t,_,1,_,rfl,rfl,bt.of J,rfl,.inr (.inl ⟨s,_,0,.str u,rfl,rfl,bt.of m,aG (j:=0) rfl,rfl,r,?_,m8 Y ⟨?_,?_,aa⟩⟩)⟩)⟩
  ·rw[ak,aQ];exact gb (by omega)
  ·rw[take_snoc w,au];congr 1;show[V.bl _]=[V.bl _];congr 2;unfold gL;rw[B];show decide (V.str u=V.str _)=decide (u=_);by_cases c:u=("ask":Str)
   ·rw[zzr1 c,zzr1 (by rw[c])]
   ·rw[zzr0 c,zzr0 (fun z=>c (by injection z))]
  ·intro b o e;rw[aj (af e N)];exact p _ _ e
def tj(x:Str×List Str):TK:=.t [qh x.1,C1 x.2]
theorem gQ:∀x y:Str×List Str,tj x=tj y->x=y:=by
 intro x y h;unfold tj at h;injection h with h;injection h with a h;injection h with e h;cases x;cases y;simp only at *;rw[qC a,Bk e]
theorem o7(x:Str×List Str):(tj x).depth<=8:=by
 show max (TK.depth (qh x.1)) (max (TK.depth (C1 x.2)) 0)+1<=8;rw[ui];show max 0 (max 1 0)+1<=8
 decide
def aP(ds:List ai)(x:Str×List Str):List Str:=(ds.filter fun d=>decide (d.a=x.1/\d.sg=x.2)).map (·.b)
theorem wd(e:List ai)(d:ai)(x:Str×List Str):aP (e++[d]) x=aP e x++(if(d.a,d.sg)=x then[d.b]else[]):=by
 unfold aP;rw[kh,au];congr 1;by_cases c:(d.a,d.sg)=x
 ·subst c;simp
 ·rw[if_neg c];have:¬(d.a=x.1/\d.sg=x.2):=fun z=>c (by cases x;simp only at z;rw[z.1,z.2]);simp[List.filter_cons];intro f g;exact this ⟨f,g⟩
theorem kQ{e:List ai}{x:Str×List Str}(h:∀d∈e,(d.a,d.sg)≠x):aP e x=[]:=by
 unfold aP;rw[oC,List.filter_eq_nil_iff];intro d f;have:¬(d.a=x.1/\d.sg=x.2):=fun z=>h d f (by cases x;simp only at z;rw[z.1,z.2]);simp;intro g i;exact this ⟨g,i⟩
theorem bo{a:List ai}{x:Str×List Str}{b:Str}:b∈aP a x↔(⟨x.1,x.2,b⟩:ai)∈a:=by
 unfold aP;rw[aV];constructor
 ·rintro⟨d,e,rfl⟩;rw[dO]at e;obtain⟨i,j⟩:=e;obtain⟨f,g⟩:=of_decide_eq_true j;cases d;simp only at f g;rw[<-f,<-g];exact i
 ·intro h;exact⟨_,dO.mpr ⟨h,zzr1 ⟨rfl,rfl⟩⟩,rfl⟩
structure iP(H:Hp)(g:Addr)(ps:List ((Str×List Str)×Addr))(ds:List ai):Prop where
 nd:(ps.map (·.1)).Nodup
 g:H g=some (.dT (dw tj ps))
 ls:∀x∈ps,H x.2=some (.lst ((aP ds x.1).map V.str))
 all:∀d∈ds,(d.a,d.sg)∈ps.map (·.1)
theorem iP.same{H H':Hp}{g:Addr}{a:List ((Str×List Str)×Addr)}{e:List ai}(h:iP H g a e)(s:ab H H'):iP H' g a e:=⟨h.nd,s _ _ h.g,fun x f=>s _ _ (h.ls x f),h.all⟩
inductive nK (vs:List V)(H:Hp)(Q:VK)(E:XK):Prop
 |mk (l4:Addr) (ts:Ze) (ds:List ai):(vs=[.ref l4])->(H l4=some (.lst (ts.map V.ref)))->(cz H ts ds)->(ds.length<=9000)->(∀(g:Addr) (ps:List ((Str×List Str)×Addr)) (H':Hp),iP H' g ps ds->ab H H'->Q (.ref g) H')->nK  vs H Q E
theorem h7{K:Za}{vs:List V}{H:Hp}{Q:VK}{E:XK}(h:nK vs H Q E):ip K (bq Q) (start iu vs) H:=by
 obtain⟨l4,ts,T,rfl,h4,al,hz,k⟩:=h;refine fun g hg=>?_;refine⟨_,rfl,l4,rfl,⟨_,ay.of (kp h4 hg)⟩,?_⟩
 let a5:Nat->L2.St->Hp->Prop:=fun i σ u=>∃x y z,σ=[some (.ref l4),some (.ref g),x,y,z]/\∃p:List ((Str×List Str)×Addr),DL H u g p/\u g=some (.dT (dw tj p))/\p.length<=i/\(∀x∈p,u x.2=some (.lst ((aP (T.take i) x.1).map V.str)))/\∀d∈T.take i,(d.a,d.sg)∈p.map (·.1)
 refine bP (xs:=ts.map V.ref) a5
  ⟨_,_,_,rfl,[],⟨by simp,by simp,by simp,hg,by simp,ab.new hg⟩,aa,by simp,by simp,by simp⟩ (fun i σ u _ zq=>by obtain⟨_,_,_,_,_,D,_⟩:=zq;exact ay.of (D.same _ _ h4)) ?_ ?_
 ·rintro i x σ u hi ⟨x2,x3,x4,rfl,p,D,w,an,m,l⟩;obtain⟨t,ht,rfl⟩:=bF hi;obtain⟨f,C,a6⟩:=Paired.getL al ht;have bn:i<T.length:=(ca.mp C).1;obtain⟨s,a7,a8⟩:=a6.kt (ab.kt D.same);refine⟨t,_,rfl,bt.of a7,rfl,_,_,rfl,_,_,rfl,_,_,rfl,rfl,?_⟩;refine⟨_,rfl,.inr (.inr (.inl ⟨rfl,.inr ⟨_,w⟩⟩)),_,rfl,_,rfl,(by show 2<=ah;decide),fun kt as=>⟨(by show 0<=ah;decide),fun nl U=>?_⟩⟩;have G:ab u (upd (upd u kt (.tup [.str f.a,.ref s])) nl (.lst [])):=(ab.new as).trans (ab.new U);have L:upd (upd u kt (.tup [.str f.a,.ref s])) nl (.lst []) kt=some (.tup [.str f.a,.ref s]):=kp aa U;have M:upd (upd u kt (.tup [.str f.a,.ref s])) nl (.lst []) nl=some (.lst []):=aa;have j:u nl=none:=(ab.new as).free U;generalize upd (upd u kt (.tup [.str f.a,.ref s])) nl (.lst [])=H2 at G L M ⊢;have a9:ii H2 (tj (f.a,f.sg)) (.ref kt):=by
   unfold tj ii;refine⟨kt,_,rfl,L,?_⟩;unfold TKAts;refine⟨_,_,rfl,yU _,?_⟩;unfold TKAts;refine⟨_,_,rfl,SignAt.tk (G _ _ a8),?_⟩;unfold TKAts
   rfl
  have bi:(dw tj p).length<ah:=gb (by unfold dw;rw[ak];omega);have I:∀x,aP (T.take (i+1)) x=aP (T.take i) x++(if(f.a,f.sg)=x then[f.b]else[]):=fun x=>by rw[take_snoc C,wd]
  have bl:∀x,(aP (T.take i) x).length<=9000:=fun x=>by
   unfold aP;rw[ak];refine bm (fA _ _) ?_;rw[aQ];omega
  refine⟨g,kt,_,tj (f.a,f.sg),.ref nl,rfl,rfl,G _ _ w,a9,o7 _,bi,fun v J=>?_,fun J=>?_⟩
  ·-- there aC
   have N:(f.a,f.sg)∈p.map (·.1):=by
    refine Classical.byContradiction fun z=>?_;rw[lC gQ z]at J;cases J
   obtain⟨⟨r,a⟩,n,er⟩:=aV.mp N;obtain rfl:r=(f.a,f.sg):=er;rw[dZ gQ D.nd n]at J;injection J with J;subst J;have a0:=G _ _ (m _ n);refine⟨.inl ⟨rfl,_,ay.of a0⟩,_,rfl,a,_,_,rfl,rfl,a0,by rw[ak];exact gb (bl _),_,_,_,rfl,p,⟨D.nd,D.na,D.fr,D.frd,D.ned,fun b o q=>?_⟩,?_,by omega,?_,?_⟩
   ·rw[aj (af q (D.fr _ n))];exact G _ _ (D.same _ _ q)
   ·rw[aj (D.ned _ n).symm];exact G _ _ w
   ·intro x hx;by_cases c:x.2=a
    ·have ex:=DQ D.na hx n c;subst ex;show upd H2 a _ a=_;rw[aa,I,if_pos rfl,au];rfl
    ·have Y:¬((f.a,f.sg)=x.1):=fun z=>by
      have e1:=dZ (e:=tj) gQ D.nd n;have e2:=dZ (e:=tj) (i:=x.1) (a:=x.2) gQ D.nd hx;rw[<-z,e1]at e2;injection e2 with e2;injection e2 with e2;exact c e2.symm
     rw[aj c,I,if_neg Y,f6];exact G _ _ (m x hx)
   ·intro d hd;rw[take_snoc C]at hd;rcases be.mp hd with hd|hd
    ·exact l d hd
    ·have:d=f:=by simpa using hd
     rw[this];exact N
  ·-- a new list
   have A:(f.a,f.sg)∉p.map (·.1):=by
    intro z;obtain⟨⟨r,a⟩,n,er⟩:=aV.mp z;obtain rfl:r=(f.a,f.sg):=er;rw[dZ gQ D.nd n]at J;cases J
   have B:nl≠g:=(af w j).symm;have O:upd H2 g (.dT (dw tj p++[(tj (f.a,f.sg),.ref nl)])) nl=some (.lst []):=by rw[aj B];exact M
   refine⟨.inl ⟨rfl,_,ay.of O⟩,_,rfl,nl,_,_,rfl,rfl,O,(by show 0<ah;decide),_,_,_,rfl,p++[((f.a,f.sg),nl)],?_,?_,?_,?_,?_⟩
   ·refine D.snoc A (fun x hx=>af (m x hx) j) (D.same.free j) B ?_;intro b o q;rw[aj (af q (D.same.free j)),aj (af q hg)];exact G _ _ (D.same _ _ q)
   ·rw[aj B.symm,aa,uB]
   ·rw[aF];show _+1<=_;omega
   ·intro x hx;rcases be.mp hx with hx|hx
    ·have Y:¬((f.a,f.sg)=x.1):=fun z=>A (by rw[z];exact aV.mpr ⟨x,hx,rfl⟩);rw[aj (af (m x hx) j),aj (D.ned x hx),I,if_neg Y,f6];exact G _ _ (m x hx)
    ·have:x=((f.a,f.sg),nl):=by simpa using hx
     subst this;have a4:aP (T.take i) (f.a,f.sg)=[]:=kQ fun d hd z=>A (by rw[<-z];exact l d hd);show upd _ nl _ nl=_;rw[aa,I,if_pos rfl,a4]
     rfl
   ·intro d hd;rw[au];rw[take_snoc C]at hd;rcases be.mp hd with hd|hd
    ·exact da _ (l d hd)
    ·have:d=f:=by simpa using hd
     rw[this];exact c_ _ (by simp)
 ·rintro σ u ⟨x2,x3,x4,rfl,p,D,w,an,m,l⟩;rw[ak,Paired.length al,a_]at m l;exact⟨_,rfl,k g p u ⟨D.nd,w,m,l⟩ D.same⟩
theorem jk:∀{L R:Zb},L.Nodup->(∀y∈L,y∈R)->L.length<=R.length
 |[],_,_,_=>b_ _
 |x::L,R,a,h=>by
  rw[pG]at a;have f:=h x du;have:=jk (L:=L) (R:=R.erase x) a.2 fun y g=>(List.mem_erase_of_ne (fun e:y=x=>a.1 (by rw[<-e];exact g))).mpr (h y (eI _ g));rw[List.length_erase_of_mem f]at this;have:0<R.length:=List.length_pos_of_mem f;rw[e_];omega
theorem Reach.in_{e:List ai}{a b:Str}{rooms:Zb}(f:∀d∈e,d.b∈rooms)(h:Reach e a b):b∈rooms:=by
 cases h with
 |one h=>exact f _ h
 |step r h=>exact f _ h
inductive vK (vs:List V)(H:Hp)(Q:VK)(E:XK):Prop
 |mk (g:Addr) (room:Str) (ps:List ((Str×List Str)×Addr)) (ds:List ai) (rooms:Zb):(vs=[.ref g,.str room])->(iP H g ps ds)->((∀d∈ds,d.b∈rooms))->(rooms.length<=1000)->(∀(d:Addr) (L:Zb) (H':Hp),H' d=some (.dK (bB L))->L.Nodup->(∀w,w∈L↔Reach ds room w)->H d=none->ab H H'->Q (.ref d) H')->vK  vs H Q E
structure He(H0 H:Hp)(ds:List ai)(room:Str)(d w:Addr)(L W:Zb)(open_:Str->Prop):Prop where
 d:H d=some (.dK (bB L))
 w:H w=some (.lst (W.map V.str))
 same:ab H0 H
 nd:L.Nodup
 sound:∀y∈L,Reach ds room y
 wait:∀y∈W,y=room∨y∈L
 closed:∀y,(y=room∨y∈L)->y∉W->¬open_ y->∀c∈aP ds (y,am),c∈L
theorem qj{K:Za}{st:Addr}(b4:∀H,bt K H st (am.map V.str)){vs:List V}{H:Hp}{Q:VK}{E:XK}(h:vK vs H Q E):rE K st (bq Q) (start sS vs) H:=by
 obtain⟨g,room,ps,ds,rooms,rfl,G,b5,hz,k⟩:=h;refine fun d hd=>?_;refine⟨_,rfl,(by show 1<=ah;decide),fun w hw=>?_⟩;have a0:H w=none:=(ab.new hd).free hw;have U:d≠w:=af aa hw;refine⟨fun m σ B=>∃(L W:Zb) (x y:Option V),σ=[some (.ref g),some (.str room),some (.ref d),some (.ref w),x,y]/\He H B ds room d w L W (fun _=>False)/\m=2 * (rooms.length-L.length)+W.length/\m<=2 * rooms.length+1,
  ⟨_,[],[room],_,_,rfl,⟨kp aa hw,aa,(ab.new hd).trans (ab.new hw),rg,by simp,by simp,?_⟩,rfl,aB _⟩,?_⟩
 ·intro y hy O;rcases hy with rfl|hy
  ·simp at O
  ·cases hy
 rintro m σ H1 ⟨L,W,x4,x5,rfl,D,rfl,hbound⟩;have T:∀{l:Zb},l.Nodup->(∀y∈l,Reach ds room y)->l.length<=rooms.length:=fun nd sd=>jk nd fun y hy=>(sd y hy).in_ b5;refine⟨_,rfl,.inl ⟨w,_,rfl,.inl (ay.of D.w),_,_,rfl,rfl,_,rfl,?_⟩⟩;refine jO (fun A=>?_) (fun A=>?_)
 ·have a4:W≠[]:=by
   intro z;rw[z]at A;exact absurd (of_decide_eq_true A) (by decide)
  obtain⟨s,f,rfl⟩:∃s f,W=s++[f]:=⟨W.dropLast,W.getLast a4,(List.dropLast_concat_getLast a4).symm⟩;have Y:f=room∨f∈L:=D.wait f (by simp);refine⟨fun σ' B=>∃(l n:Zb) (x y:Option V),σ'=[some (.ref g),some (.str room),some (.ref d),some (.ref w),x,y]/\He H B ds room d w l n (fun _=>False)/\2 * (rooms.length-l.length)+n.length<2 * (rooms.length-L.length)+(s++[f]).length,
   fun σ' B ⟨l,n,x,y,e,D',hm⟩=>⟨_,hm,l,n,x,y,e,D',rfl,by omega⟩,?_⟩
  have al:((s++[f]).map V.str)[((s++[f]).map V.str).length-1]?=some (.str f):=by simp
  have an:((s++[f]).map V.str).dropLast=s.map V.str:=by rw[au];simp
  refine⟨_,rfl,.inl ⟨rfl,_,ay.of D.w⟩,w,_,_,rfl,rfl,D.w,al,?_⟩;rw[an];have a5:upd H1 w (.lst (s.map V.str)) d=some (.dK (bB L)):=by rw[aj U];exact D.d
  have a6:upd H1 w (.lst (s.map V.str)) w=some (.lst (s.map V.str)):=aa;have S1:ab H (upd H1 w (.lst (s.map V.str))):=fun b o q=>by rw[aj (af q a0)];exact D.same _ _ q
  generalize upd H1 w (.lst (s.map V.str))=H2 at a5 a6 S1 ⊢;have G2:=G.same S1;refine⟨_,rfl,g,rfl,.inr ⟨_,.inl G2.g⟩,_,rfl,(by show 2<=ah;decide),fun kt a7=>⟨(by show 0<=ah;decide),fun et as=>⟨cr (dw tj ps) (tj (f,am)),.inr ⟨_,tj (f,am),kt,.inl ?_,rfl,?_,o7 _,rfl⟩,?_⟩⟩⟩
  ·exact kp (kp G2.g a7) as
  ·unfold tj lS;refine⟨kt,_,rfl,bt.of (kp aa as),?_⟩;unfold TKIns;refine⟨_,_,rfl,?_,?_⟩
   ·unfold qh lS;rfl
   unfold TKIns;refine⟨_,_,rfl,?_,?_⟩
   ·unfold C1 lS;refine⟨st,_,rfl,b4 _,?_⟩;unfold am;show TKIns K _ [qh _] [V.str _];unfold TKIns;refine⟨_,_,rfl,?_,?_⟩
    ·unfold qh lS;rfl
    unfold TKIns;rfl
   unfold TKIns;rfl
  have S3:ab H2 (upd (upd H2 kt (.tup [.str f,.ref st])) et (.tup [])):=(ab.new a7).trans (ab.new as);have C:upd (upd H2 kt (.tup [.str f,.ref st])) et (.tup []) et=some (.tup []):=aa;generalize upd (upd H2 kt (.tup [.str f,.ref st])) et (.tup [])=H3 at S3 C ⊢;have D3:He H H3 ds room d w L s (fun y=>y=f):=⟨S3 _ _ a5,S3 _ _ a6,S1.trans S3,D.nd,D.sound,fun y hy=>D.wait y (da _ hy),fun y hy O ho=>D.closed y hy (fun z=>by rcases be.mp z with z|z;exact O z;exact ho (by simpa using z)) (fun z=>z)⟩;have a8:2 * (rooms.length-L.length)+s.length<2 * (rooms.length-L.length)+(s++[f]).length:=by rw[aF];show _<_+(_+1);omega
  have a9:∀(H4:Hp) (l n:Zb) (x y:Option V),He H H4 ds room d w l n (fun y=>y=f)->(∀c∈aP ds (f,am),c∈l)->2 * (rooms.length-l.length)+n.length<2 * (rooms.length-L.length)+(s++[f]).length ->
    ∃(l n:Zb) (x' y':Option V),[some (V.ref g),some (.str room),some (.ref d),some (.ref w),x,y]=[some (.ref g),some (.str room),some (.ref d),some (.ref w),x',y']/\He H H4 ds room d w l n (fun _=>False)/\2 * (rooms.length-l.length)+n.length<2 * (rooms.length-L.length)+(s++[f]).length:=by
   intro H4 l n x y p hc hm;refine⟨l,n,x,y,rfl,⟨p.d,p.w,p.same,p.nd,p.sound,p.wait,fun y hy O _=>?_⟩,hm⟩;by_cases e:y=f
   ·rw[e];exact hc
   ·exact p.closed y hy O e
  by_cases I:(f,am)∈ps.map (·.1)
  ·obtain⟨⟨r,a⟩,bi,er⟩:=aV.mp I;obtain rfl:r=(f,am):=er;rw[dZ gQ G.nd bi];have bn:=G.ls _ bi;refine⟨a,rfl,.inl ⟨⟨_,ay.of ((S1.trans S3) _ _ bn)⟩,?_⟩⟩
   let aC:Nat->L2.St->Hp->Prop:=fun j σ B=>HI fun(l n:Zb) (y:Option V)=>Hc (σ=[some (.ref g),some (.str room),some (.ref d),some (.ref w),some (.str f),y]) (He H B ds room d w l n (fun y=>y=f)) ((f=room∨f∈l)) ((∀c∈(aP ds (f,am)).take j,c∈l)) (2 * (rooms.length-l.length)+n.length<2 * (rooms.length-L.length)+(s++[f]).length)
   refine bP (xs:=(aP ds (f,am)).map V.str) aC
    ⟨L,s,_,rfl,D3,Y,by simp,a8⟩ (fun j σ B _ zq=>by obtain⟨_,_,_,_,D',_,_,_⟩:=zq;exact ay.of (D'.same _ _ bn)) ?_ ?_
   ·rintro j x σ H4 hj ⟨l,n,y,rfl,p,hh,hc,hm⟩;obtain⟨i,t,rfl⟩:=bE hj;have u:(⟨f,am,i⟩:ai)∈ds:=bo.mp (cw t);have N:Reach ds room i:=by
     rcases hh with hh|hh
     ·rw[hh]at u;exact .one u
     ·exact .step (p.sound _ hh) u
    have b6:=T p.nd p.sound;refine⟨_,rfl,_,rfl,d,_,rfl,.inl ⟨_,.inr i,.inl p.d,rfl,rfl⟩,_,rfl,?_⟩;rw[gX];by_cases c:i∈l
    ·rw[zzr1 c];refine aU ⟨l,n,_,rfl,p,hh,?_,hm⟩;intro c' v;rw[take_snoc t]at v;rcases be.mp v with h|h
     ·exact hc c' h
     ·have:c'=i:=by simpa using h
      rw[this];exact c
    ·rw[zzr0 c];refine bx ?_;have b1:(l++[i]).Nodup:=by
      rw[de];refine⟨p.nd,by simp,fun a ha b hb e=>?_⟩;have:b=i:=by simpa using hb
      exact c (by rw[<-this,<-e];exact ha)
     have b2:∀y∈l++[i],Reach ds room y:=by
      intro y hy;rcases be.mp hy with hy|hy
      ·exact p.sound y hy
      ·have:y=i:=by simpa using hy
       rw[this];exact N
     have J:=T b1 b2;rw[aF]at J;have b7:l.length+1<=rooms.length:=J;have b8:n.length<=9000:=by omega
     refine⟨_,rfl,_,rfl,d,_,rfl,.inl ⟨_,.inr i,p.d,rfl,aq (bm (mK _) (by omega)),rfl⟩,?_⟩;have b3:upd H4 d (.dK (di (bB l) (.inr i) (.bl true))) w=some (.lst (n.map V.str)):=by rw[aj U.symm];exact p.w
     refine⟨_,rfl,.inl ⟨rfl,_,ay.of b3⟩,_,rfl,w,_,_,rfl,rfl,b3,by rw[ak];exact gb b8,l++[i],n++[i],_,rfl,⟨?_,?_,?_,b1,b2,?_,?_⟩,?_,?_,?_⟩
     ·rw[aj U,aa,fh]
     ·rw[aa,au];rfl
     ·intro b o q;rw[aj (af q a0),aj (af q hd)];exact p.same _ _ q
     ·intro y hy;rcases be.mp hy with hy|hy
      ·rcases p.wait y hy with h|h
       ·exact .inl h
       ·exact .inr (da _ h)
      ·exact .inr (c_ _ hy)
     ·intro y hy O ho c' v;have b9:y∉n:=fun z=>O (da _ z);have cb:y≠i:=fun z=>O (c_ _ (by simp[z]));refine da _ (p.closed y ?_ b9 ho c' v);rcases hy with hy|hy
      ·exact .inl hy
      ·rcases be.mp hy with hy|hy
       ·exact .inr hy
       ·exact absurd (by simpa using hy) cb
     ·rcases hh with h|h
      ·exact .inl h
      ·exact .inr (da _ h)
     ·intro c' v;rw[take_snoc t]at v;rcases be.mp v with h|h
      ·exact da _ (hc c' h)
      ·exact c_ _ h
     ·rw[aF,aF];show 2 * (rooms.length-(l.length+1))+(n.length+1)<_;omega
   ·rintro σ H4 ⟨l,n,y,rfl,p,hh,hc,hm⟩;rw[ak,a_]at hc;exact a9 H4 l n _ _ p hc hm
  ·rw[lC gQ I];refine⟨et,rfl,.inr ⟨⟨_,bt.of C⟩,?_⟩⟩;have M:aP ds (f,am)=[]:=kQ fun x hx z=>I (by rw[<-z];exact G.all x hx)
   let aC:Nat->L2.St->Hp->Prop:=fun j σ B=>σ=[some (.ref g),some (.str room),some (.ref d),some (.ref w),some (.str f),x5]/\B=H3
   refine FK (xs:=[]) aC ⟨rfl,rfl⟩ (fun j σ B _ zq=>by obtain⟨_,e⟩:=zq;exact by rw[e];exact bt.of C) (fun j x σ B hj=>by cases hj) ?_;rintro σ B ⟨rfl,rfl⟩;exact a9 _ L s _ _ D3 (by rw[M];simp) a8
 ·have M:W=[]:=by
   cases W with
   |nil=>rfl
   |cons a W=>exact absurd (zzr1 (by rw[ak,e_];omega)) A
  subst M;refine⟨_,rfl,k d L H1 D.d D.nd (fun w=>⟨D.sound w,fun hr=>?_⟩) hd D.same⟩
  induction hr with
  |one h=>exact D.closed room (.inl rfl) (by simp) (fun z=>z) _ (bo.mpr h)
  |step r h ih=>exact D.closed _ (.inr ih) (by simp) (fun z=>z) _ (bo.mpr h)
inductive sp_first_led_round (vs:List V)(H:Hp)(Q:VK)(E:XK):Prop
 |mk (l3 d:Addr) (rooms:Zb) (ps:List (Str×Addr)):(vs=[.ref l3,.ref d])->(H l3=some (.lst (rooms.map V.str)))->(H d=some (.dK (dw Sum.inr ps)))->(ps.map (·.1)=rooms)->(rooms.Nodup)->((∀x∈ps,∃L,H x.2=some (.dK (bB L))/\x.1∉L))->(∀H',ab H H'->Q .non H')->sp_first_led_round  vs H Q E
theorem mE{K:Za}{p:List V}{H:Hp}{Q:VK}{E:XK}(h:sp_first_led_round p H Q E):ny K (bq Q) (start ou p) H:=by
 obtain⟨q,d,rooms,u,rfl,s,v,f,m,z,k⟩:=h;refine⟨_,rfl,q,rfl,⟨_,ay.of s⟩,?_⟩
 let n:Nat->L2.St->Hp->Prop:=fun i σ e=>∃x y,σ=[some (.ref q),some (.ref d),x,y]/\ab H e
 refine ig (xs:=rooms.map V.str) n ⟨_,_,rfl,ab.refl H⟩ (fun i σ e _ A=>by obtain⟨_,_,_,S⟩:=A;exact ay.of (S _ _ s)) ?_ ?_
 ·rintro i x σ e t B ⟨J,M,rfl,S⟩ C;obtain⟨w,D,rfl⟩:=bE B;refine⟨t,_,rfl,bt.of aa,rfl,_,_,rfl,_,_,rfl,rfl,?_⟩;have l:ab H (upd e t (.tup [.int i,.str w])):=S.trans (ab.new C);generalize upd e t (.tup [.int i,.str w])=N at l ⊢;have g:w∈u.map (·.1):=by rw[f];exact cw D
  obtain⟨⟨r,a⟩,j,G⟩:=aV.mp g;obtain rfl:r=w:=G;obtain⟨L,o,I⟩:=z _ j;refine⟨_,rfl,_,rfl,_,rfl,d,.ref a,rfl,.inl ⟨_,.inr r,.inl (l _ _ v),rfl,(dZ iM (by rw[f];exact m) j).symm⟩,a,_,rfl,.inl ⟨_,.inr r,.inl (l _ _ o),rfl,rfl⟩,_,rfl,?_⟩;rw[gX,zzr0 I];exact aU ⟨_,_,rfl,l⟩
 ·rintro σ e ⟨x,y,rfl,S⟩;exact k e S
abbrev lk(f:Str)(fs:List (Str×V)):Option V:=fs.lookup f
def dS(ds:List ai)(r:Str):Bool:=(cn ds r).all gL
structure bD(C:Addr)(H:Hp)(x:Addr)(J0 J2 rooms:Zb)(ds:List ai):Prop where
 at_:∃(dx:Addr) (fs:List (Str×V)) (o1 o2 o3 o4 lv qu sg sl:Addr) (ts:Ze) (lps:List (Str×Addr)) (gps:List ((Str×List Str)×Addr)) (sps:List (Str×Addr)),
  H x=some (.ins C dx fs)/\lk "is_quiet" fs=none/\lk "goals" fs=none/\lk "led_from" fs=none/\lk "rooms" fs=none /\
  lk "own_asks" fs=some (.ref o1)/\lk "own_says" fs=some (.ref o2)/\lk "own_rooms" fs=some (.ref o3)/\lk "own_doors" fs=some (.ref o4) /\
  lk "leaving" fs=some (.ref lv)/\lk "quiet" fs=some (.ref qu)/\lk "sign_goals" fs=some (.ref sg)/\lk "still_led" fs=some (.ref sl) /\
  Lists H o1 o2 o3 o4 ts J0 J2 rooms ds /\
  lps.map (·.1)=rooms/\H lv=some (.dK (dw Sum.inr lps))/\(∀x∈lps,∃us,H x.2=some (.lst (us.map V.ref))/\cz H us (cn ds x.1)) /\
  H qu=some (.dK (bB (rooms.filter (dS ds))))/\iP H sg gps ds /\
  sps.map (·.1)=rooms/\H sl=some (.dK (dw Sum.inr sps))/\(∀x∈sps,∃L,H x.2=some (.dK (bB L))/\L.Nodup/\∀w,w∈L↔Reach ds x.1 w)
 ok:aJ J0 J2 rooms ds
 more:∃(dx:Addr) (fs:List (Str×V)),H x=some (.ins C dx fs)/\lk "asks" fs=none/\lk "says" fs=none/\lk "doors" fs=none/\lk "doors_from" fs=none
theorem gD(f:Str)(v:V):∀fs:List (Str×V),(c6 f v fs).length<=fs.length+1
 |[]=>aB _
 | (g,x)::r=>by
  unfold c6;split
  ·exact pH _
  ·rw[e_,e_];have:=gD f v r;omega
theorem sj:∀(a qs:List (Str×Addr)),((qs++a).map (·.1)).Nodup->eC (dw Sum.inr qs) (dw Sum.inr a)=dw Sum.inr (qs++a)
 |[],qs,_=>by rw[f6];rfl
 |p::a,qs,g=>by
  show eC (di (dw Sum.inr qs) (Sum.inr p.1) (.ref p.2)) (dw Sum.inr a)=_;have e:qs++p::a=(qs++[p])++a:=by simp
  rw[e]at g ⊢;have f:p.1∉qs.map (·.1):=by
   rw[au,au,de]at g;have:=g.1;rw[de]at this;intro z;exact this.2.2 _ z _ (by simp) rfl
  rw[nR _ (lC iM f)];have:=sj a (qs++[p]) g;rw[<-this];have h:dw (Sum.inr:Str->b0) (qs++[p])=dw Sum.inr qs++[(Sum.inr p.1,V.ref p.2)]:=by
   unfold dw;rw[au];rfl
  rw[h]
inductive qz(C:Addr)(vs:List V)(H:Hp)(Q:VK)(E:XK):Prop
 |mk (x dx l1 l2 l3 l4:Addr) (ts:Ze) (J0 J2 rooms:Zb) (ds:List ai):(vs=[.ref x,.ref l1,.ref l2,.ref l3,.ref l4])->(H x=some (.ins C dx []))->(Lists H l1 l2 l3 l4 ts J0 J2 rooms ds)->(aJ J0 J2 rooms ds)->(∀H',bD C H' x J0 J2 rooms ds->cH x H H'->Q .non H')->qz C vs H Q E
theorem Lists.exI{H f:Hp}{x C q:Addr}{fs:List (Str×V)}{g i l3 j:Addr}{k:Ze}{l m rooms:Zb}{n:List ai}(h:Lists H g i l3 j k l m rooms n)(o:H x=some (.ins C q fs))(e:cH x H f):Lists f g i l3 j k l m rooms n:=by
 have ne:∀{b:Addr}{p:List V},H b=some (.lst p)->b≠x:=fun a z=>by rw[z,o]at a;cases a
 exact⟨e _ _ h.a1 (ne h.a1),e _ _ h.a2 (ne h.a2),e _ _ h.a3 (ne h.a3),e _ _ h.a4 (ne h.a4),h.ds.kt fun b p a=>e _ _ a fun z=>by rw[z,o]at a;cases a⟩
theorem cH.ktI{H f:Hp}{x C g:Addr}{fs:List (Str×V)}(e:cH x H f)(h:H x=some (.ins C g fs)):fO H f:=fun b i a=>e _ _ a fun z=>by rw[z,h]at a;cases a
theorem cH.neI{H:Hp}{x C e:Addr}{fs:List (Str×V)}(f:H x=some (.ins C e fs)){b:Addr}{g:List V}(a:H b=some (.lst g)):b≠x:=fun z=>by rw[z,f]at a;cases a
theorem DP{H:Hp}{x C f:Addr}{fs:List (Str×V)}(g:H x=some (.ins C f fs)){b:Addr}{a:List (b0×V)}(e:H b=some (.dK a)):b≠x:=fun z=>by rw[z,g]at e;cases e
theorem Gn{H:Hp}{x C f:Addr}{fs:List (Str×V)}(g:H x=some (.ins C f fs)){b:Addr}{a:List (TK×V)}(e:H b=some (.dT a)):b≠x:=fun z=>by rw[z,g]at e;cases e
structure MC(K:Za)(C:Addr):Prop where
 cls:CW K C
 a1:fN K C "own_asks"
 a2:fN K C "own_says"
 a3:fN K C "own_rooms"
 a4:fN K C "own_doors"
 a5:fN K C "leaving"
 a6:fN K C "quiet"
 a7:fN K C "sign_goals"
 a8:fN K C "still_led"
theorem ye{H:Hp}{x C a:Addr}{fs:List (Str×V)}(f:Str)(y:V)(g:H x=some (.ins C a fs)):∃e,e=upd H x (.ins C a (c6 f y fs))/\e x=some (.ins C a (c6 f y fs))/\cH x H e :=
 ⟨_,rfl,aa,cH.upd _ _ _⟩
theorem fo{p:Str->Bool}{a:Zb}{i:Nat}{w:Str}(h:a[i]?=some w):(a.take (i+1)).filter p=(a.take i).filter p++(if p w=true then[w]else[]):=by
 rw[take_snoc h,kh];congr 1;by_cases c:p w=true
 ·rw[if_pos c];simp[c]
 ·rw[if_neg c];simp[c]
theorem z6(a:List ai)(r:Str):(cn a r).length<=a.length:=fA _ _
theorem aJ.sg0{a f rooms:Zb}{ds:List ai}(m:aJ a f rooms ds){r:Str}:∀d∈cn ds r,d.sg≠[]:=by
 intro d g;have:=m.good d (dO.mp g).1;rcases this.sg with⟨w,_,e⟩|⟨w,_,e⟩|e<;>rw[e]<;>exact List.cons_ne_nil _ _
theorem Fk{K:Za}{C:Addr}(M:MC K C){B:List V}{H:Hp}{Q:VK}{E:XK}(h:qz C B H Q E):
  my K sp_need_none sp_first_led_round vK nK (sp_as_keys K) sp_has_asks_alone sp_doors_by_start sp_need_parts (bq Q) (start mU B) H:=by
 obtain⟨x,G,l1,l2,l3,l4,ts,J0,J2,rooms,ds,rfl,hx,L,m,k⟩:=h;have z3:=m.rooms26;have z4:=m.few;refine⟨_,rfl,_,rfl,_,rfl,_,rfl,l1,l2,l3,l4,ts,J0,J2,rooms,ds,rfl,L,m,fun H1 S1=>?_⟩;have a9:=S1 _ _ hx;have L1:=L.same S1;have E1:cH x H H1:=ab.exB S1;refine⟨_,rfl,.inl ⟨l1,_,rfl,.inl (ay.of L1.a1),fun o1 bi=>⟨_,rfl,x,C,G,_,rfl,kp a9 bi,M.cls,M.a1,(by show 0<1000;decide),?_⟩⟩⟩;obtain⟨H2,e2,bl,F2⟩:=ye "own_asks" (.ref o1) (kp (x:=.lst (J0.map V.str)) a9 bi);rw[<-e2];have n1:o1≠x:=(af a9 bi).symm;have f1:=F2 _ _ aa n1;have E2:cH x H1 H2:=(cH.new bi).trans F2;have cs:=L1.exI a9 E2;have eb:(c6 ("own_asks":Str) (.ref o1) []).length<=1:=gD _ _ _;clear e2 F2;refine⟨_,rfl,.inl ⟨l2,_,rfl,.inl (ay.of cs.a2),fun o2 bn=>⟨_,rfl,x,C,G,_,rfl,kp bl bn,M.cls,M.a2,by omega,?_⟩⟩⟩;obtain⟨H3,e3,b1,F3⟩:=ye "own_says" (.ref o2) (kp (x:=.lst (J2.map V.str)) bl bn);rw[<-e3];have n2:o2≠x:=(af bl bn).symm;have f2:=F3 _ _ aa n2;have E3:cH x H2 H3:=(cH.new bn).trans F3;have L3:=cs.exI bl E3;have ec:=gD ("own_says":Str) (.ref o2) (c6 ("own_asks":Str) (.ref o1) []);clear e3 F3;refine⟨_,rfl,.inl ⟨l3,_,rfl,.inl (ay.of L3.a3),fun o3 b2=>⟨_,rfl,x,C,G,_,rfl,kp b1 b2,M.cls,M.a3,by omega,?_⟩⟩⟩;obtain⟨H4,e4,b3,F4⟩:=ye "own_rooms" (.ref o3) (kp (x:=.lst (rooms.map V.str)) b1 b2);rw[<-e4];have n3:o3≠x:=(af b1 b2).symm;have f3:=F4 _ _ aa n3;have E4:cH x H3 H4:=(cH.new b2).trans F4;have L4:=L3.exI b1 E4;have ed:=gD ("own_rooms":Str) (.ref o3) (c6 ("own_says":Str) (.ref o2) (c6 ("own_asks":Str) (.ref o1) []));clear e4 F4;refine⟨_,rfl,.inl ⟨l4,_,rfl,.inl (ay.of L4.a4),fun o4 b4=>⟨_,rfl,x,C,G,_,rfl,kp b3 b4,M.cls,M.a4,by omega,?_⟩⟩⟩;obtain⟨H5,e5,n,F5⟩:=ye "own_doors" (.ref o4) (kp (x:=.lst (ts.map V.ref)) b3 b4);rw[<-e5];have n4:o4≠x:=(af b3 b4).symm;have f4:=F5 _ _ aa n4;have E5:cH x H4 H5:=(cH.new b4).trans F5;have L5:=L4.exI b3 E5;generalize cb:c6 ("own_doors":Str) (.ref o4) (c6 ("own_rooms":Str) (.ref o3) (c6 ("own_says":Str) (.ref o2) (c6 ("own_asks":Str) (.ref o1) [])))=s at n;have ee:s.length<=4:=by
  rw[<-cb];have:=gD ("own_doors":Str) (.ref o4) (c6 ("own_rooms":Str) (.ref o3) (c6 ("own_says":Str) (.ref o2) (c6 ("own_asks":Str) (.ref o1) [])));omega
 clear e5 F5;refine⟨_,rfl,_,rfl,l3,l4,ts,rooms,ds,rfl,L5.a3,L5.a4,L5.ds,m.okR.1,by omega,by omega,fun d hd=>(m.good d hd).a,fun N b5 el O T cd S6=>⟨_,rfl,x,C,G,s,rfl,S6 _ _ n,M.cls,M.a5,by omega,?_⟩⟩;obtain⟨H6,e6,u,F6⟩:=ye "leaving" (.ref N) (S6 _ _ n);rw[<-e6];have E6:cH x H5 H6:=(ab.exB S6).trans F6;have L6:=L5.exI n E6;have ce:=F6 _ _ T (DP (S6 _ _ n) T);have ct:∀y∈b5,∃A,H6 y.2=some (.lst (A.map V.ref))/\cz H6 A (cn ds y.1):=fun y hy=>by
  obtain⟨A,I,g2⟩:=cd y hy;exact⟨A,F6 _ _ I (cH.neI (S6 _ _ n) I),g2.kt (F6.ktI (S6 _ _ n))⟩
 have dm:(b5.map (·.1)).Nodup:=by rw[O];exact m.okR.1
 have ef:=gD ("leaving":Str) (.ref N) s;have dn:lk "leaving" (c6 ("leaving":Str) (.ref N) s)=some (.ref N):=by
  show kb _ _=_;rw[fg,if_pos rfl]
 clear e6 F6 T cd;refine⟨_,rfl,l3,rfl,⟨_,ay.of L6.a3⟩,fun f hf=>?_⟩
 let dp:Nat->List V->Hp->Prop:=fun i B U=>B=((rooms.take i).filter (dS ds)).map V.str/\ab H6 U/\U f=some (.lst B)
 refine cG (xs:=rooms.map V.str) dp ⟨rfl,ab.new hf,aa⟩ (fun i B U _ zq=>by obtain⟨_,S,h'⟩:=zq;exact⟨h',ay.of (S _ _ L6.a3)⟩) ?_ ?_;rotate_left
 ·rintro i B U x' ch hi ⟨rfl,S,f'⟩;obtain⟨r,hr,rfl⟩:=bE ch;obtain⟨⟨r',a⟩,c0,er⟩:=aV.mp (show r∈b5.map (·.1) by rw[O];exact cw hr);obtain rfl:r'=r:=er;obtain⟨A,dr,dy⟩:=ct _ c0;refine gN ?_;refine⟨_,rfl,x,C,G,_,.ref N,rfl,S _ _ u,M.cls,M.a5,dn,_,rfl,N,.ref a,rfl,.inl ⟨_,.inr r',.inl (S _ _ ce),rfl,(dZ iM dm c0).symm⟩,a,A,cn ds r',rfl,S _ _ dr,dy.kt (ab.kt S),bm (z6 _ _) (by omega),m.sg0,fun b6 l=>⟨_,rfl,?_⟩⟩;have c1:(((rooms.take i).filter (dS ds)).map V.str).length<ah:=by
   rw[ak];refine aq (bm (fA _ _) ?_);rw[aQ];omega
  refine jO (fun hq=>?_) (fun hq=>?_)
  ·refine⟨_,rfl,l _ _ f',c1,m8 hi ⟨?_,?_,aa⟩⟩
   ·rw[fo hr,if_pos (show dS ds r'=true from hq),au];rfl
   ·intro b o q;rw[aj (af q hf)];exact l _ _ (S _ _ q)
  ·refine m8 hi ⟨?_,S.trans l,?_⟩
   ·rw[fo hr,if_neg (show ¬dS ds r'=true from hq),f6]
   ·exact l _ _ f'
 rintro B em ⟨rfl,S7,f7⟩;rw[ak,a_]at f7;refine pk (ws:=rooms.filter (dS ds)) (ay.of f7) (bm (fA _ _) (by omega)) fun qu b7=>⟨_,rfl,x,C,G,_,rfl,kp (S7 _ _ u) b7,M.cls,M.a6,by omega,?_⟩;obtain⟨H7,e7,al,F7⟩:=ye "quiet" (.ref qu) (kp (x:=.dK (bB (rooms.filter (dS ds)))) (S7 _ _ u) b7);rw[<-e7];have n7:qu≠x:=(af (S7 _ _ u) b7).symm;have dT:=F7 _ _ aa n7;have E7:cH x H6 H7:=((ab.exB S7).trans (cH.new b7)).trans F7;have L7:=L6.exI u E7;have eg:=gD ("quiet":Str) (.ref qu) (c6 ("leaving":Str) (.ref N) s);clear e7 F7;refine⟨_,rfl,l4,ts,ds,rfl,L7.a4,L7.ds,by omega,fun sg cl en G' S8=>⟨_,rfl,x,C,G,_,rfl,S8 _ _ al,M.cls,M.a7,by omega,?_⟩⟩;obtain⟨H8,e8,v,F8⟩:=ye "sign_goals" (.ref sg) (S8 _ _ al);rw[<-e8];have E8:cH x H7 H8:=(ab.exB S8).trans F8;have L8:=L7.exI al E8;have G8:iP H8 sg cl ds:=⟨G'.nd,F8 _ _ G'.g (Gn (S8 _ _ al) G'.g),fun y hy=>F8 _ _ (G'.ls y hy) (cH.neI (S8 _ _ al) (G'.ls y hy)),G'.all⟩;have ek:=gD ("sign_goals":Str) (.ref sg) (c6 ("quiet":Str) (.ref qu) (c6 ("leaving":Str) (.ref N) s));have dV:lk "sign_goals" (c6 ("sign_goals":Str) (.ref sg) (c6 ("quiet":Str) (.ref qu) (c6 ("leaving":Str) (.ref N) s)))=some (.ref sg):=by
  show kb _ _=_;rw[fg,if_pos rfl]
 clear e8 F8 G';refine⟨_,rfl,l3,rfl,⟨_,ay.of L8.a3⟩,fun b8 c2=>?_⟩
 let d0:Nat->List V->Hp->Prop:=fun i B U=>G7 fun(A:Ze) (pl:List (Str×Addr))=>HV (B=A.map V.ref) (Paired (fun t (p:Str×Addr)=>U t=some (.tup [.str p.1,.ref p.2])) A pl) (pl.map (·.1)=rooms.take i) ((∀p∈pl,∃L,U p.2=some (.dK (bB L))/\L.Nodup/\∀w,w∈L↔Reach ds p.1 w)) (ab H8 U) (U b8=some (.lst B))
 refine cG (xs:=rooms.map V.str) d0
  ⟨[],[],rfl,.nil,rfl,by simp,ab.new c2,aa⟩ (fun i B U _ zq=>by obtain⟨_,_,_,_,_,_,S,h'⟩:=zq;exact⟨h',ay.of (S _ _ L8.a3)⟩) ?_ ?_
 rotate_left
 ·rintro i B U x' ch hi ⟨A,pl,rfl,an,c3,d1,S,f'⟩;obtain⟨r,hr,rfl⟩:=bE ch;have d2:A.length<=150:=by
   rw[Paired.length an,<-ak (f:=(·.1)) (as:=pl),c3,aQ];omega
  refine gN (mq ?_);refine⟨_,rfl,_,rfl,x,C,G,_,.ref sg,rfl,S _ _ v,M.cls,M.a7,dV,_,rfl,sg,r,cl,ds,rooms,rfl,G8.same S,fun d hd=>(m.good d hd).b,by omega,fun ld Lr b6 d3 nd d4 eo l=>⟨(by show 2<=ah;decide),fun t ht=>⟨?_,?_,m8 hi ⟨A++[t],pl++[(r,ld)],?_,?_,?_,?_,?_,aa⟩⟩⟩⟩
  ·exact kp (l _ _ f') ht
  ·rw[ak];exact aq (by omega)
  ·rw[au];rfl
  ·have KT:fO (upd b6 t (.tup [.str r,.ref ld])) (upd (upd b6 t (.tup [.str r,.ref ld])) b8 (.lst (A.map V.ref++[.ref t]))):=cO (kp (l _ _ f') ht);exact Paired.app (Paired.mapP an fun t' p' e=>KT _ _ (kp (l _ _ e) ht)) (.cons (KT _ _ aa) .nil)
  ·rw[au,c3,take_snoc hr];rfl
  ·have c4:∀{b:Addr}{d5:List (b0×V)},upd b6 t (.tup [.str r,.ref ld]) b=some (.dK d5)->b≠b8:=fun hb z=>by rw[z,kp (l _ _ f') ht]at hb;cases hb
   intro p hp;rcases be.mp hp with hp|hp
   ·obtain⟨L0,I,g2⟩:=d1 p hp;refine⟨L0,?_,g2⟩;have:=kp (x:=.tup [.str r,.ref ld]) (l _ _ I) ht;rw[aj (c4 this)];exact this
   ·have:p=(r,ld):=by simpa using hp
    subst this;refine⟨Lr,?_,nd,d4⟩;have:=kp (x:=.tup [.str r,.ref ld]) d3 ht;rw[aj (c4 this)];exact this
  ·intro b o q;rw[aj (af q c2)];exact kp (l _ _ (S _ _ q)) ht
 rintro B ep ⟨A,sps,rfl,an,D,c5,S9,f9⟩;rw[ak,a_]at D;have d7:(sps.map (·.1)).Nodup:=by rw[D];exact m.okR.1
 refine⟨b8,A,dw Sum.inr sps,rfl,ay.of f9,?_,?_,fun sl J=>⟨_,rfl,x,C,G,_,rfl,kp (S9 _ _ v) J,M.cls,M.a8,by omega,?_⟩⟩
 ·rw[Paired.length an];unfold dw;rw[ak]
 ·intro j t kv hj cm;obtain⟨p,hp,e⟩:=Paired.getL an hj;unfold dw at cm;rw[eZ,hp]at cm;have:=ei cm;rw[<-this];exact e
 have b9:eC [] (dw Sum.inr sps)=dw Sum.inr sps:=sj sps [] d7;rw[b9];obtain⟨H9,e9,co,F9⟩:=ye "still_led" (.ref sl) (kp (x:=.dK (dw Sum.inr sps)) (S9 _ _ v) J);rw[<-e9];have n9:sl≠x:=(af (S9 _ _ v) J).symm;have dc:=F9 _ _ aa n9;have E9:cH x H8 H9:=((ab.exB S9).trans (cH.new J)).trans F9;have L9:=L8.exI v E9;have aC:∀p∈sps,∃L,H9 p.2=some (.dK (bB L))/\L.Nodup/\∀w,w∈L↔Reach ds p.1 w:=fun p hp=>by
  obtain⟨L0,I,g2⟩:=c5 p hp;have g3:=kp (x:=.dK (dw Sum.inr sps)) I J;exact⟨L0,F9 _ _ g3 (DP (kp (S9 _ _ v) J) g3),g2⟩
 clear e9 F9;have dd:lk "still_led" (c6 ("still_led":Str) (.ref sl) (c6 ("sign_goals":Str) (.ref sg) (c6 ("quiet":Str) (.ref qu) (c6 ("leaving":Str) (.ref N) s))))=some (.ref sl):=by
  show kb _ _=_;rw[fg,if_pos rfl]
 refine⟨_,rfl,_,rfl,x,C,G,_,.ref sl,rfl,co,M.cls,M.a8,dd,l3,sl,rooms,sps,rfl,L9.a3,dc,D,m.okR.1,fun p hp=>?_,fun dk a0=>⟨_,rfl,k dk ?_ ?_⟩⟩
 ·obtain⟨L0,I,g2,g3⟩:=aC p hp;exact⟨L0,I,fun z=>m.noround _ ((g3 _).mp z)⟩
 ·have cq:cH x H6 H9:=(E7.trans E8).trans E9;have d8:=((E6.trans E7).trans E8).trans E9;have Y:∀{b:Addr}{o:HO},H9 b=some o->dk b=some o:=fun h=>a0 _ _ h;have LL:Lists H5 o1 o2 o3 o4 ts J0 J2 rooms ds:=⟨(E3.trans (E4.trans E5)) _ _ f1 n1,(E4.trans E5) _ _ f2 n2,E5 _ _ f3 n3,f4,L5.ds⟩;refine⟨⟨G,_,o1,o2,o3,o4,N,qu,sg,sl,ts,b5,cl,sps,Y co,?_,?_,?_,?_,?_,?_,?_,?_,?_,?_,?_,dd,(LL.exI n d8).same a0,O,?_,?_,?_,?_,D,Y dc,fun p hp=>?_⟩,m,⟨G,_,Y co,?_,?_,?_,?_⟩⟩
  rotate_right 9
  ·exact Y (cq _ _ ce (DP u ce))
  ·intro y hy;obtain⟨ea,I,g2⟩:=ct y hy;exact⟨ea,Y (cq _ _ I (cH.neI u I)),(g2.kt (cq.ktI u)).kt (ab.kt a0)⟩
  ·exact Y ((E8.trans E9) _ _ dT n7)
  ·exact iP.same ⟨G8.nd,E9 _ _ G8.g (Gn v G8.g),fun y hy=>E9 _ _ (G8.ls y hy) (cH.neI v (G8.ls y hy)),G8.all⟩ a0
  ·obtain⟨L0,I,g2⟩:=aC p hp;exact⟨L0,Y I,g2⟩
  all_goals(show kb _ _=_;subst cb;repeat (rw[fg];first|rw[if_pos rfl] | rw[if_neg (by decide +kernel)]))
  all_goals rfl
 ·exact((((((((E1.trans E2).trans E3).trans E4).trans E5).trans E6).trans E7).trans E8).trans E9).trans (ab.exB a0)
theorem FN(a b:Str):decide (dE a=dE b)=decide (a=b):=by
 by_cases e:a=b
 ·rw[zzr1 e,zzr1 (by rw[e])]
 ·rw[zzr0 e,zzr0 (fun z=>e (nN z))]
theorem bD.by{C:Addr}{H e:Hp}{x:Addr}{s t rooms:Zb}{u:List ai}(h:bD C H x s t rooms u)
  (j:∀b v,H b=some (.lst (List.map V.str v))->e b=some (.lst (List.map V.str v))) (w:∀b k,H b=some (.lst (List.map V.ref k))->e b=some (.lst (List.map V.ref k))) (z:fO H e)
  (l:∀b a,H b=some (.dK a)->e b=some (.dK a)) (B:∀b a,H b=some (.dT a)->e b=some (.dT a)) (A:∀b C f fs,H b=some (.ins C f fs)->e b=some (.ins C f fs)):bD C e x s t rooms u:=by
 obtain⟨f,fs,D,E,I,J,M,N,O,Q,k,m,n,o,T,a1,a2,a3,U,Y,b2,b3,b4,b5,b6,b7,b8,L,c1,c2,c3,c4,G,d1,d2,d3⟩:=h.at_;refine⟨⟨f,fs,D,E,I,J,M,N,O,Q,k,m,n,o,A _ _ _ _ T,a1,a2,a3,U,Y,b2,b3,b4,b5,b6,b7,b8,⟨j _ _ L.a1,j _ _ L.a2,j _ _ L.a3,w _ _ L.a4,L.ds.kt z⟩,c1,l _ _ c2,fun y i=>?_,l _ _ c4,⟨G.nd,B _ _ G.g,fun y i=>j _ _ (G.ls y i),G.all⟩,d1,l _ _ d2,fun y i=>?_⟩,h.ok,by obtain⟨f,fs,g,r⟩:=h.more;exact⟨f,fs,A _ _ _ _ g,r⟩⟩
 ·obtain⟨us,p,q⟩:=c3 y i;exact⟨us,w _ _ p,q.kt z⟩
 ·obtain⟨L0,p,q⟩:=d3 y i;exact⟨L0,l _ _ p,q⟩
theorem bD.same{C:Addr}{H a:Hp}{x:Addr}{f g rooms:Zb}{i:List ai}(h:bD C H x f g rooms i)(S:ab H a):bD C a x f g rooms i :=
 h.by (fun _ _ e=>S _ _ e) (fun _ _ e=>S _ _ e) (ab.kt S) (fun _ _ e=>S _ _ e) (fun _ _ e=>S _ _ e) (fun _ _ _ _ e=>S _ _ e)
inductive iG(C:Addr)(vs:List V)(H:Hp)(Q:VK)(E:XK):Prop
 |mk (x:Addr) (w:Str) (J0 J2 rooms:Zb) (ds:List ai):(vs=[.ref x,.str w])->(bD C H x J0 J2 rooms ds)->(Q (.bl (decide (w∈rooms.filter (dS ds)))) H)->iG C vs H Q E
theorem xE{K:Za}{C:Addr}(M:MC K C){a:List V}{H:Hp}{Q:VK}{E:XK}(h:iG C a H Q E):mx K (bq Q) (start mT a) H:=by
 obtain⟨x,w,o,p,rooms,q,rfl,h,k⟩:=h;obtain⟨f,fs,r,s,t,u,v,e,y,z,A,g,i,j,l,a1,a2,a3,B,D,G,I,J,N,m,O,T,L,U,Y,c3,n,_⟩:=h.at_;refine⟨_,rfl,_,rfl,x,C,f,fs,.ref e,rfl,l,M.cls,M.a6,m,e,_,rfl,.inl ⟨_,.inr w,.inl n,rfl,rfl⟩,?_⟩;rw[gX];exact k
def bz:List Str:=[("hush":Str)]
inductive jB(C:Addr)(vs:List V)(H:Hp)(Q:VK)(E:XK):Prop
 |mk (t l1 l2 l3 l4:Addr) (ts:Ze) (J0 J2 rooms:Zb) (ds:List ai):(vs=[.ref t])->(eJ H t l1 l2 l3 l4 ts J0 J2 rooms ds)->(aJ J0 J2 rooms ds)->(∀(x:Addr) (H':Hp),bD C H' x J0 J2 rooms ds->ab H H'->Q (.ref x) H')->jB C vs H Q E
theorem zI{K:Za}{C:Addr}{B:List V}{H:Hp}{Q:VK}{E:XK}(h:jB C B H Q E):tD K C (qz C) (bq Q) (start t_ B) H:=by
 obtain⟨t,L,N,O,U,f,g,i,rooms,Y,rfl,T,m,k⟩:=h;refine⟨_,rfl,.inr (.inl ⟨t,_,0,_,rfl,rfl,bt.of T.t,rfl,.inl ⟨L,_,rfl,.inl (ay.of T.a1),fun r D=>?_⟩⟩)⟩;have s:=T.same (ab.new (o:=.lst (g.map V.str)) D);refine⟨_,rfl,.inr (.inl ⟨t,_,1,_,rfl,rfl,bt.of s.t,rfl,.inl ⟨N,_,rfl,.inl (ay.of s.a2),fun u v=>?_⟩⟩)⟩;have w:=s.same (ab.new (o:=.lst (i.map V.str)) v);refine⟨_,rfl,.inr (.inl ⟨t,_,2,_,rfl,rfl,bt.of w.t,rfl,.inl ⟨O,_,rfl,.inl (ay.of w.a3),fun y n=>?_⟩⟩)⟩;have z:=w.same (ab.new (o:=.lst (rooms.map V.str)) n);refine⟨_,rfl,.inr (.inl ⟨t,_,3,_,rfl,rfl,bt.of z.t,rfl,.inl ⟨U,_,rfl,.inl (ay.of z.a4),fun A j=>?_⟩⟩)⟩;have T4:=z.same (ab.new (o:=.lst (f.map V.ref)) j);have G:=(((ab.new (o:=.lst (g.map V.str)) D).trans (ab.new (o:=.lst (i.map V.str)) v)).trans (ab.new (o:=.lst (rooms.map V.str)) n)).trans (ab.new (o:=.lst (f.map V.ref)) j);refine fun x p I a l=>?_;have J:ab H (upd (upd (upd (upd (upd (upd H r (.lst (g.map V.str))) u (.lst (i.map V.str))) y (.lst (rooms.map V.str))) A (.lst (f.map V.ref))) p (.own x)) x (.ins C p [])) :=
  (G.trans (ab.new a)).trans (ab.new (by rw[aj l.symm];exact I))
 have e:upd (upd (upd (upd (upd H r (.lst (g.map V.str))) u (.lst (i.map V.str))) y (.lst (rooms.map V.str))) A (.lst (f.map V.ref))) p (.own x) x=none:=by rw[aj l.symm];exact I
 refine⟨x,p,r,u,y,A,f,g,i,rooms,Y,rfl,aa,⟨?_,?_,?_,?_,T.ds.kt (ab.kt J)⟩,m,fun H' M ex=>⟨rfl,k x H' M fun b o q=>?_⟩⟩
 ·exact kp (kp (kp (kp (kp aa v) n) j) a) e
 ·exact kp (kp (kp (kp aa n) j) a) e
 ·exact kp (kp (kp aa j) a) e
 ·exact kp (kp aa a) e
 ·have hq:=J _ _ q;exact ex _ _ hq (af (G.trans (ab.new a) _ _ q) e)
def eD(ds:List ai):List Str:=(ds.filter fun d=>!gL d).map (·.a)
theorem mI(e:List ai)(r:Str):dS e r=decide (r∉eD e):=by
 unfold dS eD cn;rw[qN,va,decide_eq_true_iff];constructor
 ·intro h z;obtain⟨d,a,rfl⟩:=aV.mp z;rw[dO]at a;have:=h d (dO.mpr ⟨a.1,zzr1 rfl⟩);rw[this]at a;exact absurd a.2 (by decide)
 ·intro h d a;rw[dO]at a;cases q:gL d with
  |true=>rfl
  |false =>
   refine absurd (aV.mpr ⟨d,dO.mpr ⟨a.1,by rw[q];rfl⟩,?_⟩) h;exact of_decide_eq_true a.2
theorem lB{w:Str}{a:Zb}:dE w∈a.map dE↔w∈a:=by
 constructor
 ·intro h;obtain⟨x,f,e⟩:=aV.mp h;rw[<-nN e];exact f
 ·exact ki
def p7(K:Za):TS :=
 aY (dJ (cU K) (aw (tG K V0 "own_rooms")))
def qq:List Str:=["self"]
def mw(K:Za):TS :=
 aY (dJ (cU K) (aw (vI K (tG K V0 "still_led") V1 (bb (bd)))))
def mS:List Str:=["self","room"]
def p8(K:Za):TS :=
 aY (dJ (cU K) (aw (vI K (tG K V0 "sign_goals") (bb (aW V1 V2)) (bb (bd)))))
def qr:List Str:=["self","room","sign"]
def rF(K:Za):TS :=
 ar (aM (dJ (cU K) (aw V1)) U2)
 (ar (aM (tC (.int 0)) U3)
 (ar (oY (aL (ax Cg V3 (dJ (dh K) (aw V2)))) (ar (dI (cp K V0) (gp K 3 (aR U4 (aR U5 (aR U6 (fW))))) (bU (kB (aL (ax (mG K) V4 (ax (tT K) V2 V3))) (kB (aL (ax (mG K) V5 (bb (aw (tC (.str "still")))))) (aL (ax (mF K true) V6 V2)))) (bV (xu K "list" dF V2 (aw V6))) (br)))
 (aM (ax dR V3 (tC (.int 1))) U3)))
 (aY V2)))
def sT:List Str:=["doors","rooms","found","at","room","sign","other"]
inductive kD(C:Addr)(vs:List V)(H:Hp)(Q:VK)(E:XK):Prop
 |mk (x:Addr) (J0 J2 rooms:Zb) (ds:List ai):(vs=[.ref x])->(bD C H x J0 J2 rooms ds)->(∀l,H l=none->Q (.ref l) (upd H l (.lst (rooms.map V.str))))->kD C vs H Q E
theorem Dp{K:Za}{C:Addr}(M:MC K C){a:List V}{H:Hp}{Q:VK}{E:XK}(h:kD C a H Q E):p7 K (bq Q) (start qq a) H:=by
 obtain⟨x,n,o,rooms,p,rfl,h,k⟩:=h;obtain⟨f,fs,q,r,e,s,t,u,v,w,y,g,i,j,l,a1,a2,a3,z,A,B,m,D,G,I,J,N,L,_⟩:=h.at_;exact⟨_,rfl,x,C,f,fs,.ref e,rfl,l,M.cls,M.a3,m,.inl ⟨e,_,rfl,.inl (ay.of L.a3),k⟩⟩
theorem xZ:∀{L:Zb},L.Nodup->(bB L).map (fun a=>kV a.1)=L.map V.str:=by
 intro L;refine ky (fun L=>L.Nodup->(bB L).map (fun a=>kV a.1)=L.map V.str) (fun _=>rfl) (fun f w g e=>?_) L;rw[de]at e;have h:cr (bB f) (.inr w)=none:=by
  rw[sm,if_neg (fun z=>e.2.2 w z w (by simp) rfl)]
 show(bB (f++[w])).map _=_;rw[fh,nR _ h,au,g e.1,au]
 rfl
inductive iF(C:Addr)(vs:List V)(H:Hp)(Q:VK)(E:XK):Prop
 |mk (x:Addr) (r:Str) (J0 J2 rooms:Zb) (ds:List ai):(vs=[.ref x,.str r])->(bD C H x J0 J2 rooms ds)->(r∈rooms)->(∀(l:Addr) (L:Zb) (H':Hp),H' l=some (.lst (L.map V.str))->L.Nodup->(∀w,w∈L↔Reach ds r w)->H l=none->ab H H'->Q (.ref l) H')->iF C vs H Q E
theorem xD{K:Za}{C:Addr}(M:MC K C){j:List V}{H:Hp}{Q:VK}{E:XK}(h:iF C j H Q E):mw K (bq Q) (start mS j) H:=by
 obtain⟨x,r,N,O,rooms,T,rfl,h,t,k⟩:=h;obtain⟨u,fs,U,Y,o3,o4,lv,qu,sg,m,ts,v,w,g,y,a1,a2,a3,a4,b1,b2,b3,b4,b5,b6,b7,z,L,c1,c2,c3,c4,G,n,o,A⟩:=h.at_;have i:=h.ok.okR.1;obtain⟨⟨p,a⟩,f,B⟩:=aV.mp (show r∈g.map (·.1) by rw[n];exact t);obtain rfl:p=r:=B;obtain⟨D,I,q,J⟩:=A _ f;refine⟨_,rfl,x,C,u,fs,.ref m,rfl,y,M.cls,M.a8,z,m,rfl,.inl ⟨_,.inl o⟩,_,rfl,(by show 0<=ah;decide),fun et e=>⟨_,.inl ⟨_,.inr p,.inl (kp o e),rfl,rfl⟩,?_⟩⟩;rw[dZ iM (by rw[n];exact i) f];refine .inr ⟨a,_,rfl,.inl (kp I e),fun l s=>k l D _ ?_ q J ((ab.new e).free s) ((ab.new e).trans (ab.new s))⟩;rw[aa,xZ q]
theorem Reach.trans{ds:List ai}{a b c:Str}(e:Reach ds a b)(f:Reach ds b c):Reach ds a c:=by
 induction f with
 |one h=>exact .step e h
 |step r h g=>exact .step g h
def ij(ds:List ai)(gs:Zb)(w:Str):Prop:=∃g∈gs,w=g∨Reach ds g w
theorem ij.in_{a:List ai}{e rooms:Zb}{w:Str}(f:∀g∈e,g∈rooms)(i:∀d∈a,d.b∈rooms)(h:ij a e w):w∈rooms:=by
 obtain⟨g,j,rfl|h2⟩:=h
 ·exact f _ j
 ·exact h2.in_ i
inductive dQ(K:Za)(vs:List V)(H:Hp)(Q:VK)(E:XK):Prop
 |mk (l4 l:Addr) (ts:Ze) (ds:List ai) (gs rooms:Zb):(vs=[.ref l4,.ref l])->(H l4=some (.lst (ts.map V.ref)))->(cz H ts ds)->(H l=some (.lst (gs.map V.str)))->((∀d∈ds,d.b∈rooms))->(rooms.length<=1000)->(gs.length<=1000)->(∀(f:Addr) (F:Zb) (H':Hp),H' f=some (.lst (F.map V.str))->(∀w,w∈F↔ij ds gs w)->F.length<=2000->H f=none->ab H H'->Q (.ref f) H')->dQ K vs H Q E
structure SO(H0 H:Hp)(ds:List ai)(gs:Zb)(f:Addr)(X:Zb):Prop where
 f:H f=some (.lst ((gs++X).map V.str))
 same:ab H0 H
 nd:X.Nodup
 new:∀y∈X,y∉gs
 sound:∀y∈X,ij ds gs y
theorem ij.step{ds:List ai}{f:Zb}{a b:Str}(h:ij ds f a)(e:(⟨a,am,b⟩:ai)∈ds):ij ds f b:=by
 obtain⟨g,i,rfl|h⟩:=h
 ·exact⟨_,i,.inr (.one e)⟩
 ·exact⟨g,i,.inr (.step h e)⟩
theorem d6(a b:Zb):decide (fu a=fu b)=decide (a=b):=by
 by_cases e:a=b
 ·rw[zzr1 e,zzr1 (by rw[e])]
 ·rw[zzr0 e,zzr0 (fun z=>e (Bl z))]
inductive SoI(l4 l f:Addr)(at_:Int)(H:Hp)(ds:List ai)(gs X:Zb)(here:Str)(j:Nat)(σ:L2.St)(H':Hp):Prop
 |mk (X' Y:Zb) (x y z:Option V):σ=[some (.ref l4),some (.ref l),some (.ref f),some (.int at_),x,y,z]->X'=X++Y->SO H H' ds gs f X'->(∀d∈ds.take j,d.a=here->d.sg=am->d.b∈gs++X')->SoI l4 l f at_ H ds gs X here j σ H'
theorem xA{K:Za}{vs:List V}{H:Hp}{Q:VK}{E:XK}(h:dQ K vs H Q E):rF K (bq Q) (start sT vs) H:=by
 obtain⟨l4,l,ts,ds,p,rooms,rfl,h4,an,hl,a8,hz,b6,k⟩:=h;refine⟨_,rfl,.inl ⟨l,_,rfl,.inl (ay.of hl),fun f hf=>?_⟩⟩;have L:∀{X:Zb},X.Nodup->(∀y∈X,y∉p)->(∀y∈X,ij ds p y)->X.length<=rooms.length:=fun nd nw sd=>jk nd fun y hy=>by
  obtain⟨g,hg,e|h⟩:=sd y hy
  ·exact absurd (by rw[e];exact hg) (nw y hy)
  ·exact h.in_ a8
 refine⟨fun m σ H'=>∃(X:Zb) (at_:Nat) (x y z:Option V),σ=[some (.ref l4),some (.ref l),some (.ref f),some (.int at_),x,y,z]/\SO H H' ds p f X/\at_<=(p++X).length/\(∀i y,i<at_->(p++X)[i]?=some y->∀c,(⟨y,am,c⟩:ai)∈ds->c∈p++X)/\m=p.length+rooms.length-at_,
  ⟨_,[],0,_,_,_,rfl,⟨by rw[f6];exact aa,ab.new hf,rg,by simp,by simp⟩,b_ _,fun i y h=>by omega,rfl⟩,?_⟩
 rintro m σ H1 ⟨X,at_,x4,x5,x6,rfl,D,b7,as,rfl⟩;have b8:=L D.nd D.new D.sound;refine⟨_,rfl,_,rfl,.inl ⟨f,_,rfl,.inl (ay.of D.f),_,_,rfl,rfl,_,rfl,?_⟩⟩;refine jO (fun N=>?_) (fun N=>?_)
 ·have B:at_<(p++X).length:=by
   have:=of_decide_eq_true N;rw[ak]at this;omega
  have b3:at_<p.length+rooms.length:=by rw[aF]at B;omega
  generalize O:(p++X)[at_]=here;have I:(p++X)[at_]?=some here:=by rw[<-O];exact bY B
  have T:∀{Y:Zb}{y:Str},(∀y∈Y,ij ds p y)->y∈p++Y->ij ds p y:=fun sd hy=>by
   rcases be.mp hy with hy|hy
   ·exact⟨_,hy,.inl rfl⟩
   ·exact sd _ hy
  refine⟨fun σ' H'=>∃(M:Zb) (x y z:Option V),σ'=[some (.ref l4),some (.ref l),some (.ref f),some (.int ((at_+1:Nat):Int)),x,y,z]/\SO H H' ds p f M/\at_+1<=(p++M).length/\(∀i y,i<at_+1->(p++M)[i]?=some y->∀c,(⟨y,am,c⟩:ai)∈ds->c∈p++M),
   fun σ' H' ⟨M,x,y,z,e,D',h1,h2⟩=>⟨_,(by omega:p.length+rooms.length-(at_+1)<p.length+rooms.length-at_),M,at_+1,x,y,z,e,D',h1,h2,rfl⟩,?_⟩
  refine⟨_,rfl,l4,rfl,⟨_,ay.of (D.same _ _ h4)⟩,?_⟩;refine bP (xs:=ts.map V.ref) (SoI l4 l f at_ H ds p X here)
   ⟨X,[],_,_,_,rfl,by simp,D,by simp⟩ (fun j σ H' _ zq=>by obtain⟨_,_,_,_,_,_,_,D',_⟩:=zq;exact ay.of (D'.same _ _ h4)) ?_ ?_
  ·rintro j y σ H2 hj ⟨M,Y,a9,bi,bl,rfl,rfl,C,v⟩;obtain⟨t,ht,rfl⟩:=bF hj;obtain⟨u,aC,a0⟩:=Paired.getL an ht;obtain⟨s,bn,b1⟩:=a0.kt (ab.kt C.same);have a4:=cw aC;have b4:=L C.nd C.new C.sound;have U:(p++(X++Y))[at_]?=some here:=by
    rw[<-cA,wL B];exact I
   refine⟨t,_,rfl,bt.of bn,rfl,_,_,rfl,_,_,rfl,_,_,rfl,rfl,?_⟩;have A:∀(H3:Hp) (X3 Y3:Zb) (q4 q5 q6:Option V),X3=X++Y3->SO H H3 ds p f X3->(∀y∈X++Y,y∈X3)->(u.a=here->u.sg=am->u.b∈p++X3) ->
     SoI l4 l f at_ H ds p X here (j+1) [some (.ref l4),some (.ref l),some (.ref f),some (.int at_),q4,q5,q6] H3:=by
    intro H3 X3 Y3 q4 q5 q6 e G a5 a6;refine⟨X3,Y3,q4,q5,q6,rfl,e,G,fun d hd e1 e2=>?_⟩;rw[take_snoc aC]at hd;rcases be.mp hd with hd|hd
    ·rcases be.mp (v d hd e1 e2)with h|h
     ·exact da _ h
     ·exact c_ _ (a5 _ h)
    ·have:d=u:=by simpa using hd
     subst this;exact a6 e1 e2
   refine⟨_,rfl,_,rfl,_,rfl,.inl ⟨f,_,_,_,rfl,rfl,ay.of C.f,aG (j:=at_) (by rw[eZ,U];rfl),dE u.a,dE here,j_ _,j_ _,(by show 0<=8;decide),(by show 0<=8;decide),_,rfl,?_⟩⟩;rw[FN];by_cases c1:u.a=here;rotate_left
   ·rw[zzr0 c1];exact aU (aU (A H2 _ _ _ _ _ rfl C (fun _ h=>h) fun e=>absurd e c1))
   rw[zzr1 c1];refine bx ?_;refine⟨_,rfl,(by show 1<=ah;decide),fun st J=>⟨fu u.sg,fu am,aS (bt.of (kp b1 J)),aS (bt.of aa),by rw[bC];decide,by rw[bC];decide,_,rfl,?_⟩⟩;rw[d6];have G:SO H (upd H2 st (.tup [.str "still"])) ds p f (X++Y):=⟨kp C.f J,C.same.trans (ab.new J),C.nd,C.new,C.sound⟩;have b5:H st=none:=C.same.free J;generalize upd H2 st (.tup [.str "still"])=H3 at G ⊢;by_cases c2:u.sg=am;rotate_left
   ·rw[zzr0 c2];exact aU (aU (A H3 _ _ _ _ _ rfl G (fun _ h=>h) fun _ e=>absurd e c2))
   rw[zzr1 c2];refine bx ?_;refine⟨_,rfl,_,rfl,dE u.b,(p++(X++Y)).map dE,f,_,j_ _,rfl,.inl (ay.of G.f),jQ _,(by show 0<=8;decide),by rw[dU];decide,_,rfl,?_⟩;rw[if_pos rfl];by_cases c3:u.b∈p++(X++Y)
   ·rw[zzr1 (lB.mpr c3)];exact aU (A H3 _ _ _ _ _ rfl G (fun _ h=>h) fun _ _=>c3)
   rw[zzr0 (fun z=>c3 (lB.mp z))];refine bx ?_;refine⟨_,rfl,.inl ⟨rfl,_,ay.of G.f⟩,_,rfl,f,_,_,rfl,rfl,G.f,by rw[ak,aF];exact gb (by omega),?_⟩;have al:(⟨here,am,u.b⟩:ai)∈ds:=by
    have:u=⟨here,am,u.b⟩:=by cases u;simp only at c1 c2;rw[c1,c2]
    rw[<-this];exact a4
   refine A _ (X++(Y++[u.b])) _ _ _ _ rfl ⟨?_,?_,?_,?_,?_⟩ ?_ ?_
   ·rw[aa];have:p++(X++(Y++[u.b]))=p++(X++Y)++[u.b]:=by simp
    rw[this,au (l₂:=[u.b])]
    rfl
   ·intro b o q;rw[aj (af q hf)];exact G.same _ _ q
   ·rw[<-cA,de];refine⟨G.nd,by simp,fun a ha b hb e=>?_⟩;have:b=u.b:=by simpa using hb
    exact c3 (c_ _ (by rw[<-this,<-e];exact ha))
   ·intro y hy;rw[<-cA]at hy;rcases be.mp hy with hy|hy
    ·exact G.new y hy
    ·have:y=u.b:=by simpa using hy
     rw[this];exact fun z=>c3 (da _ z)
   ·intro y hy;rw[<-cA]at hy;rcases be.mp hy with hy|hy
    ·exact G.sound y hy
    ·have:y=u.b:=by simpa using hy
     rw[this];exact(T D.sound (cw I)).step al
   ·intro y hy;rw[<-cA];exact da _ hy
   ·intro _ _;exact c_ _ (by simp)
  ·rintro σ H2 ⟨M,Y,a9,bi,bl,rfl,rfl,C,v⟩;rw[ak,Paired.length an,a_]at v;refine⟨_,rfl,_,_,rfl,rfl,X++Y,_,_,_,rfl,C,?_,fun i y hi hy c hc=>?_⟩
   ·rw[<-cA,aF];omega
   ·by_cases e:i=at_
    ·subst e;rw[<-cA,wL B,I]at hy;have:=ei hy;subst this;exact v _ hc rfl rfl
    ·have b2:i<at_:=by omega
     rw[<-cA,wL (by omega)]at hy;have:=as i y b2 hy c hc;rw[<-cA];exact da _ this
 ·have a7:at_=(p++X).length:=by
   have:¬(at_<(p++X).length):=fun z=>N (zzr1 (by rw[ak];omega));omega
  refine⟨_,rfl,k f (p++X) H1 D.f (fun w=>⟨fun hw=>?_,fun hw=>?_⟩) (by rw[aF];omega) hf D.same⟩
  ·rcases be.mp hw with hw|hw
   ·exact⟨_,hw,.inl rfl⟩
   ·exact D.sound _ hw
  ·have closed:∀y∈p++X,∀c,(⟨y,am,c⟩:ai)∈ds->c∈p++X:=fun y hy c hc=>by
    obtain⟨n,hn⟩:=oE hy;exact as n y (by rw[a7];exact(ca.mp hn).1) hn c hc
   obtain⟨g,hg,rfl|h⟩:=hw
   ·exact da _ hg
   ·induction h with
    |one e=>exact closed _ (da _ hg) _ e
    |step r e ih=>exact closed _ ih _ e

theorem zE{g:List ai}{a b:Str}(h:¬ij g [b] a){x y:Str}(r:Reach (g++[⟨a,am,b⟩]) x y):Reach g x y∨((x=a∨Reach g x a)/\(y=b∨Reach g b y)):=by
 have f:∀{u v:Str},(⟨u,am,v⟩:ai)∈g++[⟨a,am,b⟩]->(⟨u,am,v⟩:ai)∈g∨(u=a/\v=b):=by
  intro u v e;rcases be.mp e with e|e
  ·exact .inl e
  ·have:(⟨u,am,v⟩:ai)=⟨a,am,b⟩:=by simpa using e
   injection this with j h2 k;exact .inr ⟨j,k⟩
 induction r with
 |one e =>
  rcases f e with e|⟨rfl,rfl⟩
  ·exact .inl (.one e)
  ·exact .inr ⟨.inl rfl,.inl rfl⟩
 |step r l i =>
  rcases f l with e|⟨rfl,rfl⟩
  ·rcases i with i|⟨j,h2⟩
   ·exact .inl (.step i e)
   ·refine .inr ⟨j,.inr ?_⟩;rcases h2 with h2|h2
    ·exact .one (by rw[<-h2];exact e)
    ·exact .step h2 e
  ·rcases i with i|⟨j,h2⟩
   ·exact .inr ⟨.inr i,.inl rfl⟩
   ·exact absurd ⟨_,by simp,h2⟩ h
theorem vZ{e:List ai}{a b:Str}(g:∀r,¬Reach e r r)(h:¬ij e [b] a):∀r,¬Reach (e++[⟨a,am,b⟩]) r r:=by
 intro r z;have f:¬(a=b∨Reach e b a):=fun z=>h ⟨b,by simp,z⟩;rcases zE h z with z|⟨h1,h2⟩
 ·exact g r z
 ·rcases h1 with rfl|h1
  ·exact f h2
  ·rcases h2 with rfl|h2
   ·exact f (.inr h1)
   ·exact f (.inr (h2.trans h1))
theorem aJ.putStill{g i rooms:Zb}{f:List ai}{a b:Str}(m:aJ g i rooms f)(j:a∈rooms)(k:b∈rooms)(h:¬ij f [b] a)(p:f.length<=699):aJ g i rooms (kH f ⟨a,am,b⟩):=by
 unfold kH;split
 ·exact m
 ·next l =>
  refine{ m with nodup:=?_,good:=?_,few:=?_,noround:=vZ m.noround h }
  ·rw[de];refine⟨m.nodup,by simp,fun x n y o e=>?_⟩;have:y=⟨a,am,b⟩:=by simpa using o
   subst this;exact l (e▸n)
  ·intro d hd;rcases be.mp hd with hd|hd
   ·exact m.good d hd
   ·have:d=⟨a,am,b⟩:=by simpa using hd
    subst this;exact⟨j,k,.inr (.inr rfl)⟩
  ·rw[aF];show f.length+1<=1000;omega
theorem rW(a:List ai)(d:ai):(kH a d).length<=a.length+1:=by
 unfold kH;split
 ·omega
 ·rw[aF];exact aB _
def jn(ds:List ai)(sg:Zb)(face:Zb):List Str:=face.flatMap fun r=>aP ds (r,sg)
theorem jN{e:List ai}{f face:Zb}{b:Str}:b∈jn e f face↔∃r∈face,(⟨r,f,b⟩:ai)∈e:=by
 unfold jn;rw[List.mem_flatMap];constructor
 ·rintro⟨r,a,h⟩;exact⟨r,a,bo.mp h⟩
 ·rintro⟨r,a,h⟩;exact⟨r,a,bo.mpr h⟩
theorem fJ{a:List ai}{i:Nat}{d:ai}{p:ai->Bool}(h:a[i]?=some d):(a.take (i+1)).filter p=(a.take i).filter p++(if p d=true then[d]else[]):=by
 rw[take_snoc h,kh];congr 1;by_cases c:p d=true
 ·rw[if_pos c];simp[c]
 ·rw[if_neg c];simp[c]
def tz(K:Za)(sp_law_take:Sp)(sp_law_names:Sp):TS :=
 ar (aM V1 (gp K 4 (aR U2 (aR U3 (aR U4 (aR U5 (fW)))))))
 (ar (aM (o6) U6)
 (ar (dI (D_ K (ap V4 (aw (aH sp_law_names (aW V0 (dJ (dh K) (aw V4))))))) (gp K 2 (aR U7 (aR U8 (fW)))) (md V6 V7 V8))
 (ar (aM (cD 1 [6] (cp K V4) U0 (fV) (nF K V1 V0)) U9)
 (ar (aM (ax dR (tC (.int 1)) (aH sp_law_take (aW V0 (dJ (dh K) (aw V4))))) HR)
 (ar (aM (ax mH (ax mH (yL (nQ K) V9 (dY) (fD (tC (.int 1)))) (yL (nQ K) V9 (fD FT) (dY))) (yL (nQ K) V9 (fD (tC (.int 1))) (fD FT))) U9)
 (ar (aM (cD 3 [6] (cp K V5) (gp K 3 (aR U0 (aR U1 (aR U2 (fW))))) (fV) (bb (cE (nF K V3 V0) V1 (nF K V3 V2)))) U5)
 (aY (bb (ap V2 (cE V3 V9 V5))))))))))
def t9:List Str:=["pen","told","asks","says","rooms","doors","names","room","name","some","at"]
theorem Eg{K:Za}{a b:Addr}{xs ys:List V}{g:TG}{o:TS}{D:ox}{σ:L2.St}{H:Hp}(r:xs.length=ys.length)(Pv:Nat->L2.St->Hp->Prop)(s:Pv 0 σ H)(w:∀i σ H,i<=xs.length->Pv i σ H->ay K H a xs/\ay K H b ys)
  (z:∀i x y σ H p,xs[i]?=some x->ys[i]?=some y->Pv i σ H->H p=none->g (.ref p) σ (upd H p (.tup [x,y])) fun σ2 k=>o { D with nx:=Pv (i+1),ct:=Pv (i+1),bk:=D.nx } σ2 k) (A:∀σ H,Pv xs.length σ H->D.nx σ H) :
  ∃W:Nat->Nat->L2.St->Hp->Prop,(∃m,W 0 m σ H)/\∀i m σ H,W i m σ H ->
   ((Hf K a b).stop i H/\D.nx σ H)∨((Hf K a b).go i H/\∃N:L2.St->Hp->Prop,(∀σ' f,N σ' f->∃q,q<m/\W (i+1) q σ' f)/\∀x f,(Hf K a b).yld i H x f->g x σ f fun σ2 k=>o { D with nx:=N,ct:=N,bk:=D.nx } σ2 k):=by
 refine⟨fun i m σ H=>m=xs.length-i/\i<=xs.length/\Pv i σ H,⟨xs.length,by simp,b_ _,s⟩,?_⟩;rintro i m σ H ⟨rfl,B,p⟩;obtain⟨l,n⟩:=w i σ H B p;by_cases h:i<xs.length
 ·have j:i<ys.length:=by omega
  refine .inr ⟨⟨xs,ys,xs[i],ys[i],l,n,by simp[h],by simp[j]⟩,Pv (i+1),fun σ' f C=>⟨xs.length-(i+1),by omega,rfl,h,C⟩,fun x f y=>?_⟩;obtain⟨t,u,v,rfl,E,G,I,rfl⟩:=y;exact z i u v σ H t (G xs l) (I ys n) p E
 ·have e:i=xs.length:=by omega
  subst e;exact .inl ⟨⟨xs,ys,l,n,.inl (aB _)⟩,A σ H p⟩
def CY(ps:List (Str×Str)):List (b0×V):=ps.map fun x=>(.inr x.1,.str x.2)
def EL:List (Str×Str)->Str->Str
 |[],r=>r
 | (a,b)::ps,r=>if a=r then b else EL ps r
theorem Bb{r:Str}:∀{e:List (Str×Str)},r∈e.map (·.1)->cr (CY e) (.inr r:b0)=some (.str (EL e r))
 |[],h=>by cases h
 | (a,b)::e,h=>by
  unfold CY cr EL;rw[bu,fB];by_cases c:a=r
  ·rw[if_pos c,zzr1 (by rw[c])]
   rfl
  ·rw[if_neg c,zzr0 (fun z=>c (by injection z))];have:r∈e.map (·.1):=by
    rcases cx.mp h with z|z
    ·exact absurd z.symm c
    ·exact z
   exact Bb this
theorem xT{r:Str}:∀{e:List (Str×Str)},r∉e.map (·.1)->cr (CY e) (.inr r:b0)=none
 |[],_=>rfl
 | (a,b)::e,h=>by
  unfold CY cr;rw[bu,fB,zzr0 (fun z=>h (by injection z with z;rw[bu];exact cx.mpr (.inl z.symm)))];exact xT fun z=>h (by rw[bu];exact eI _ z)
theorem DN{a:List (Str×Str)}{r w:Str}(h:r∉a.map (·.1)):di (CY a) (.inr r) (.str w)=CY (a++[(r,w)]):=by
 rw[nR _ (xT h)];unfold CY;rw[au]
 rfl
theorem vi:∀{a e:Zb},e.length=a.length->(a.zip e).map (·.1)=a
 |[],_,_=>by simp
 |_::_,[],h=>by cases h
 |r::a,w::e,h=>by
  rw[List.zip_cons_cons,bu,vi (by simpa using h)]
theorem AR:∀{a e:Zb},a.Nodup->e.length=a.length->a.map (EL (a.zip e))=e
 |[],[],_,_=>rfl
 |[],_::_,_,h=>by cases h
 |_::_,[],_,h=>by cases h
 |r::a,w::e,g,h=>by
  rw[List.zip_cons_cons,bu];have f:=pG.mp g;have i:EL ((r,w)::a.zip e) r=w:=by unfold EL;rw[if_pos rfl]
  have j:a.map (EL ((r,w)::a.zip e))=a.map (EL (a.zip e)):=by
   refine u8 fun x k=>?_;show(if r=x then w else EL (a.zip e) x)=_
   rw[if_neg (fun z=>f.1 (by rw[z];exact k))]
  rw[i,j,AR f.2 (by simpa using h)]
def tP(f:Str->Str)(d:ai):ai:=⟨f d.a,d.sg,f d.b⟩
theorem GW{rooms g:Zb}{f:Str->Str}(k:rooms.map f=g)(m:g.Nodup){a b:Str}(n:a∈rooms)(o:b∈rooms)(e:f a=f b):a=b:=by
 obtain⟨i,l⟩:=oE n;obtain⟨j,h⟩:=oE o;have p:g[i]?=some (f a):=by rw[<-k,eZ,l];rfl
 have q:g[j]?=some (f a):=by rw[<-k,eZ,h,e];rfl
 have:=qF m p q;subst this;rw[l]at h;exact ei h
theorem BO{rooms:Zb}{f:Str->Str}{ds:List ai}(inj:∀a∈rooms,∀b∈rooms,f a=f b->a=b)(g:∀d∈ds,d.a∈rooms/\d.b∈rooms){x y:Str}(h:Reach (ds.map (tP f)) x y):
  ∃a∈rooms,∃b∈rooms,x=f a/\y=f b/\Reach ds a b:=by
 have j:∀{u v:Str},(⟨u,am,v⟩:ai)∈ds.map (tP f)->∃a b,(⟨a,am,b⟩:ai)∈ds/\u=f a/\v=f b:=by
  intro u v e;obtain⟨⟨a,s,b⟩,i,e⟩:=aV.mp e;unfold tP at e;injection e with l k m;simp only at k;subst k;exact⟨a,b,i,l.symm,m.symm⟩
 induction h with
 |one e =>
  obtain⟨a,b,i,rfl,rfl⟩:=j e;exact⟨a,(g _ i).1,b,(g _ i).2,rfl,rfl,.one i⟩
 |step r e o =>
  obtain⟨a,p,b,q,l,k,t⟩:=o;obtain⟨n,w,i,m,rfl⟩:=j e;have:b=n:=inj b q n (g _ i).1 (k.symm.trans m);subst this;exact⟨a,p,w,(g _ i).2,l,rfl,.step t i⟩
theorem aJ.renamed{B C rooms u g:Zb}{v:List ai}{f:Str->Str}(m:aJ B C rooms v)(k:jS u)(x:rooms.map f=u)(o:g.Perm u):aJ B C g (v.map (tP f)):=by
 have i:g.length=rooms.length:=by rw[o.length_eq,<-x,ak]
 have inj:∀a∈rooms,∀b∈rooms,f a=f b->a=b:=fun a n b y e=>GW x k.1 n y e;have h:∀d∈v,d.a∈rooms/\d.b∈rooms:=fun d p=>⟨(m.good d p).a,(m.good d p).b⟩;have j:∀a∈rooms,f a∈g:=fun a n=>o.mem_iff.mpr (by rw[<-x];exact ki n);refine{ m with okR:=⟨o.nodup_iff.mpr k.1,fun w H=>k.2 w (o.mem_iff.mp H)⟩,rooms0:=?_,rooms26:=by rw[i];exact m.rooms26,nodup:=?_,good:=?_,few:=by rw[ak];exact m.few,noround:=?_ }
 ·intro z;rw[z]at i;exact m.rooms0 (List.eq_nil_of_length_eq_zero i.symm)
 ·refine List.Pairwise.map _ ?_ (List.Pairwise.and_mem.mp m.nodup);rintro⟨a,s,b⟩ ⟨I,N,J⟩ ⟨D,E,A⟩ e;unfold tP at e;injection e with q t G;simp only at q t G;refine A ?_;rw[inj a (h _ D).1 I (h _ E).1 q,t,inj b (h _ D).2 J (h _ E).2 G]
 ·intro d p;obtain⟨L,l,rfl⟩:=aV.mp p;exact⟨j _ (h _ l).1,j _ (h _ l).2,(m.good L l).sg⟩
 ·intro r z;obtain⟨a,n,b,y,q,t,M⟩:=BO inj h z;have:=inj a n b y (q.symm.trans t);subst this;exact m.noround a M
theorem CG(a:Zb){j k:Nat}(f:j<=k)(e:k<=a.length):fw (a.map V.str) (some (j:Int)) (some (k:Int))=((a.drop j).take (k-j)).map V.str:=by
 unfold fw;rw[HT.sIx_nat,HT.sIx_nat,ak,qY e,qY (bm f e),qZ,u6]
theorem w8(a:Zb)(n:Nat):(a.take 1++a.drop (1+n)++(a.drop 1).take (1+n-1)).Perm a:=by
 have e:a.drop (1+n)=(a.drop 1).drop n:=by rw[List.drop_drop]
 have f:1+n-1=n:=by omega
 rw[e,f,cA];have h:a=a.take 1++((a.drop 1).take n++(a.drop 1).drop n):=by rw[u5,u5]
 exact(List.Perm.append_left _ List.perm_append_comm).trans (by rw[<-h])
theorem qH(o:Str)(L:Zb):decide (dE o∈L.map dE)=decide (o∈L):=by
 by_cases c:o∈L
 ·rw[zzr1 (lB.mpr c),zzr1 c]
 ·rw[zzr0 (fun z=>c (lB.mp z)),zzr0 c]
theorem bt.same{K:Za}{H e:Hp}{a:Addr}{f:List V}(S:ab H e)(h:bt K H a f):bt K e a f:=by
 rcases h with(h|⟨o,h⟩)|h
 ·exact .inl (.inl (S _ _ h))
 ·exact .inl (.inr ⟨o,S _ _ h⟩)
 ·exact .inr h
theorem ay.same{K:Za}{H e:Hp}{a:Addr}{f:List V}(S:ab H e)(h:ay K H a f):ay K e a f:=by
 rcases h with(h|⟨o,h⟩)|h
 ·exact .inl (.inl (S _ _ h))
 ·exact .inl (.inr ⟨o,S _ _ h⟩)
 ·exact .inr h
mutual
theorem jr.same{K:Za}{H g:Hp}(S:ab H g):∀{d:DT}{v:V},jr K H d v->jr K g d v
 |.k a,v,h=>by unfold jr at h ⊢;exact h
 |.t l,v,h=>by
  unfold jr at h ⊢;obtain⟨b,f,e,q,r⟩:=h;exact⟨b,f,e,bt.same S q,DIns.same S r⟩
 |.s l,v,h=>by
  unfold jr at h ⊢;obtain⟨b,f,e,q,r⟩:=h;exact⟨b,f,e,ay.same S q,DIns.same S r⟩
theorem DIns.same{K:Za}{H g:Hp}(S:ab H g):∀{f:List DT}{a:List V},DIns K H f a->DIns K g f a
 |[],a,h=>by unfold DIns at h ⊢;exact h
 |d::f,a,h=>by
  unfold DIns at h ⊢;obtain⟨v,i,e,q,r⟩:=h;exact⟨v,i,e,jr.same S q,DIns.same S r⟩
end
def Df(K:Za)(sp_law_still_on:Sp):TS :=
 ar (aM (aH sp_law_still_on (aW (ax (tT K) V0 (tC (.int 3))) V1)) U2)
 (aY (dJ (Dx K) (ap (cD 1 [2] (cp K (ax (tT K) V0 (tC (.int 2)))) U0 (aL (ax (mF K false) V0 V1)) V0) bd)))
def EC:List Str:=["told","some","there"]
open Classical in
def closF(rooms:Zb)(ds:List ai)(gs:Zb):List Str:=rooms.filter fun r=>decide (ij ds gs r)
open Classical in
theorem Et{rooms F a:Zb}{e:List ai}(f:∀w,w∈F↔ij e a w):rooms.filter (fun r=>decide (r∈F))=closF rooms e a:=by
 unfold closF;refine List.filter_congr fun r _=>?_;by_cases c:r∈F
 ·rw[zzr1 c,zzr1 ((f r).mp c)]
 ·rw[zzr0 c,zzr0 fun z=>c ((f r).mpr z)]
open Classical in
theorem yn{rooms i a:Zb}{f:List ai}(h:∀g,g∈i↔g∈a):closF rooms f i=closF rooms f a:=by
 have:∀r,ij f i r↔ij f a r:=fun r=>⟨fun⟨g,j,e⟩=>⟨g,(h g).mp j,e⟩,fun⟨g,j,e⟩=>⟨g,(h g).mpr j,e⟩⟩;unfold closF;refine List.filter_congr fun r _=>?_;by_cases c:ij f i r
 ·rw[zzr1 c,zzr1 ((this r).mp c)]
 ·rw[zzr0 c,zzr0 fun z=>c ((this r).mpr z)]
theorem uO{rooms a:Zb}{e:List ai}:∀r∈closF rooms e a,r∈rooms:=fun r h=>(dO.mp h).1
theorem uP{rooms a:Zb}{e:List ai}:(closF rooms e a).length<=rooms.length:=fA _ _
def behF(rooms:Zb)(ds:List ai)(face sg:Zb):List Str:=if sg=bz then face.filter (fun r=>decide (r∉eD ds))else closF rooms ds (jn ds sg face)
theorem Ev{rooms face a:Zb}{e:List ai}(f:∀r∈face,r∈rooms):∀r∈behF rooms e face a,r∈rooms:=by
 intro r h;unfold behF at h;split at h
 ·exact f r (dO.mp h).1
 ·exact uO r h
theorem Ew{rooms face a:Zb}{e:List ai}(f:rooms.length<=1000)(g:face.length<=1000):(behF rooms e face a).length<=1000:=by
 unfold behF;split
 ·exact bm (fA _ _) g
 ·exact bm uP f
inductive xy (vs:List V)(H:Hp)(Q:VK)(E:XK):Prop
 |mk (t l l1 l2 l3 l4:Addr) (ts:Ze) (J0 J2 rooms gs:Zb) (ds:List ai):(vs=[.ref t,.ref l])->(eJ H t l1 l2 l3 l4 ts J0 J2 rooms ds)->(aJ J0 J2 rooms ds)->(H l=some (.lst (gs.map V.str)))->(gs.length<=1000)->(∀(t':Addr) (H':Hp),H' t'=some (.tup ((closF rooms ds gs).map V.str))->ab H H'->Q (.ref t') H')->xy  vs H Q E
theorem Ho{K:Za}{a:List V}{H:Hp}{Q:VK}{E:XK}(h:xy a H Q E):Df K (dQ K) (bq Q) (start EC a) H:=by
 obtain⟨t,l,l1,l2,B,C,D,J0,J2,rooms,G,I,rfl,T,m,J,L,k⟩:=h;have z3:=m.rooms26;refine⟨_,rfl,.inr (.inl ⟨t,_,3,_,rfl,rfl,bt.of T.t,rfl,_,rfl,C,l,D,I,G,rooms,rfl,T.a4,T.ds,J,fun d M=>(m.good d M).b,by omega,L,fun N F O n U Y fr x=>?_⟩)⟩;have p:=T.same x;refine⟨_,rfl,.inr (.inl ⟨t,_,2,_,rfl,rfl,bt.of p.t,rfl,B,rfl,⟨_,ay.of p.a3⟩,fun f y=>?_⟩)⟩
 let s:Nat->List V->Hp->Prop:=fun i a e=>a=((rooms.take i).filter fun r=>decide (r∈F)).map V.str/\ab O e/\e f=some (.lst a)
 refine cG (xs:=rooms.map V.str) s ⟨rfl,ab.new y,aa⟩ (fun i a e _ zq=>by obtain⟨_,S,h'⟩:=zq;exact⟨h',ay.of (S _ _ p.a3)⟩) ?_ ?_
 ·rintro a e ⟨rfl,S,g⟩;rw[ak,a_,Et U]at g;exact⟨f,_,rfl,.inl ⟨ay.of g,fun t' u=>k t' _ aa ((x.trans S).trans (ab.new u))⟩⟩
 ·rintro i a e x' v z ⟨rfl,S,g⟩;obtain⟨r,A,rfl⟩:=bE v;refine gN ?_;refine⟨_,rfl,_,rfl,dE r,F.map dE,N,_,j_ r,rfl,.inl (ay.of (S _ _ n)),jQ _,(by show 0<=8;decide),by rw[dU];decide,_,rfl,?_⟩;rw[if_neg iV,qH];have j:(((rooms.take i).filter fun r=>decide (r∈F)).map V.str).length<ah:=by
   rw[ak];refine aq (bm (fA _ _) ?_);rw[aQ];omega
  refine jO (fun w=>?_) (fun w=>?_)
  ·refine⟨_,rfl,g,j,m8 z ⟨?_,?_,aa⟩⟩
   ·rw[fo A,if_pos w,au];rfl
   ·intro b o q;rw[aj (af q y)];exact S _ _ q
  ·refine m8 z ⟨?_,S,g⟩;rw[fo A,if_neg w,f6]
theorem sy(a:List ai):DT.depths (a.map qo)<=2:=by
 induction a with
 |nil=>exact b_ _
 |cons x e f=>rw[bu];show max (DT.depth (qo x)) (DT.depths _)<=2;rw[qG];omega
theorem uq{j k rooms:Zb}{i:ai}(g:uX j k rooms i):∃f a,i.sg=f::a/\(!decide (V.str f=V.str ("ask":Str)))=!gL i:=by
 obtain⟨f,a,h⟩:∃f a,i.sg=f::a:=by
  rcases g.sg with⟨w,_,e⟩|⟨w,_,e⟩|e<;>exact⟨_,_,e⟩
 refine⟨f,a,h,?_⟩;unfold gL;rw[h];congr 1;show _=decide (f=("ask":Str));by_cases c:f=("ask":Str)
 ·rw[zzr1 c,zzr1 (by rw[c])]
 ·rw[zzr0 c,zzr0 (fun z=>c (by injection z))]
inductive jf (vs:List V)(H:Hp)(Q:VK)(E:XK):Prop
 |mk (t l1 l2 l3 l4:Addr) (ts:Ze) (J0 J2 rooms:Zb) (ds:List ai) (r:Str):(vs=[.ref t,.str r])->(eJ H t l1 l2 l3 l4 ts J0 J2 rooms ds)->(aJ J0 J2 rooms ds)->(∀H',ab H H'->Q (.bl (decide (r∉eD ds))) H')->jf  vs H Q E
inductive vM(K:Za)(vs:List V)(H:Hp)(Q:VK)(E:XK):Prop
 |mk (t ft s l1 l2 l3 l4:Addr) (ts:Ze) (J0 J2 rooms face sg:Zb) (ds:List ai):(vs=[.ref t,.ref ft,.ref s])->(eJ H t l1 l2 l3 l4 ts J0 J2 rooms ds)->(aJ J0 J2 rooms ds)->(H ft=some (.tup (face.map V.str)))->(bt K H s (sg.map V.str))->(face.length<=1000)->(∀(t':Addr) (H':Hp),H' t'=some (.tup ((behF rooms ds face sg).map V.str))->ab H H'->Q (.ref t') H')->vM K vs H Q E
theorem Ai(L:List (List Str)):DT.depths (L.map fu)<=1:=by
 induction L with
 |nil=>exact b_ _
 |cons x a e=>rw[bu];show max (DT.depth (fu x)) (DT.depths _)<=1;rw[bC];omega
theorem sC(a:List V)(k:Nat):fw a (some (k:Int)) none=a.drop k:=by
 unfold fw;rw[HT.sIx_none,HT.sIx_nat,oG (by rw[cB];omega)];by_cases h:k<=a.length
 ·rw[qY h]
 ·rw[Nat.min_eq_right (by omega),oJ (by simp),oJ (by omega)]
theorem Paired.takeP{α β:Type}{R:α->β->Prop}:∀(n:Nat) {a:List α}{e:List β},Paired R a e->Paired R (a.take n) (e.take n)
 |0,_,_,_=>by rw[qR,qR];exact .nil
 |_+1,_,_,.nil=>.nil
 |n+1,_,_,.cons r t=>.cons r (Paired.takeP n t)
theorem Paired.dropP{α β:Type}{R:α->β->Prop}:∀(n:Nat) {a:List α}{e:List β},Paired R a e->Paired R (a.drop n) (e.drop n)
 |0,_,_,h=>h
 |_+1,_,_,.nil=>.nil
 |n+1,_,_,.cons r t=>Paired.dropP n t
def faceOf(rooms:Zb)(ds:List ai)(story:List (List Str)):List Str:=story.foldl (behF rooms ds) (closF rooms ds (rooms.take 1))
theorem pV(rooms:Zb)(e:List ai)(a:List (List Str))(f:Zb):faceOf rooms e (a++[f])=behF rooms e (faceOf rooms e a) f:=by
 unfold faceOf;rw[qS]
 rfl
theorem pj{rooms:Zb}{ds:List ai}(i:rooms.length<=1000)(a:List (List Str)):(∀r∈faceOf rooms ds a,r∈rooms)/\(faceOf rooms ds a).length<=1000:=by
 have e:∀(L:List (List Str)) (f:Zb),(∀r∈f,r∈rooms)->f.length<=1000->(∀r∈L.foldl (behF rooms ds) f,r∈rooms)/\(L.foldl (behF rooms ds) f).length<=1000:=by
  intro L
  induction L with
  |nil=>intro f g h;exact⟨g,h⟩
  |cons k L j=>intro f g h;exact j _ (Ev g) (Ew i h)
 exact e a _ uO (bm uP i)
def rH(K:Za):TS :=
 aY (dJ (cU K) (aw (tG K V0 "own_asks")))
def sV:List Str:=["self"]
def rG(K:Za):TS :=
 aY (dJ (cU K) (aw (tG K V0 "own_says")))
def sU:List Str:=["self"]
def y2(K:Za)(sp_law_behind:Sp)(sp_law_on:Sp):TS :=
 ar (aM (aH sp_law_on (aW V0 (yL (rSlA K) (ax (tT K) V0 (tC (.int 2))) (dY) (fD (tC (.int 1)))))) U2)
 (ar (dI (cp K V1) U3 (aM (aH sp_law_behind (cE V0 V2 V3)) U2))
 (aY V2))
def Aw:List Str:=["told","story","face","sign"]


theorem vL{C x:Addr}{H:Hp}{k l rooms:Zb}{m:List ai}(h:bD C H x k l rooms m):∃(j:Addr) (fs:List (Str×V)) (f g i:Addr) (a:List (Str×Addr)),H x=some (.ins C j fs)/\lk "asks" fs=none/\lk "says" fs=none/\lk "doors_from" fs=none/\lk "is_quiet" fs=none/\lk "own_asks" fs=some (.ref f)/\lk "own_says" fs=some (.ref g)/\lk "leaving" fs=some (.ref i) /\
  H f=some (.lst (k.map V.str))/\H g=some (.lst (l.map V.str))/\a.map (·.1)=rooms/\H i=some (.dK (dw Sum.inr a))/\(∀x∈a,∃n,H x.2=some (.lst (n.map V.ref))/\cz H n (cn m x.1)):=by
 obtain⟨j,fs,f,g,E,I,i,J,M,N,O,a,p,q,o,a1,a2,a3,Q,r,s,T,U,t,Y,b7,b8,L,u,v,w,c4,G,d1,d2,d3⟩:=h.at_;obtain⟨y,z,e,A,B,e3,D⟩:=h.more;rw[o]at e;cases e;exact⟨j,fs,f,g,i,a,o,A,B,D,a1,r,s,t,L.a1,L.a2,u,v,w⟩
inductive ln(C:Addr)(vs:List V)(H:Hp)(Q:VK)(E:XK):Prop
 |mk (x:Addr) (J0 J2 rooms:Zb) (ds:List ai):(vs=[.ref x])->(bD C H x J0 J2 rooms ds)->(∀l,H l=none->Q (.ref l) (upd H l (.lst (J0.map V.str))))->ln C vs H Q E
theorem Fl{K:Za}{C:Addr}(M:MC K C){a:List V}{H:Hp}{Q:VK}{E:XK}(h:ln C a H Q E):rH K (bq Q) (start sV a) H:=by
 obtain⟨x,m,n,rooms,o,rfl,h,k⟩:=h;obtain⟨f,fs,e,p,q,g,i,a1,a2,a3,r,j,s,t,l,u,_⟩:=vL h;exact⟨_,rfl,x,C,f,fs,.ref e,rfl,i,M.cls,M.a1,j,.inl ⟨e,_,rfl,.inl (ay.of l),k⟩⟩
inductive nI(C:Addr)(vs:List V)(H:Hp)(Q:VK)(E:XK):Prop
 |mk (x:Addr) (J0 J2 rooms:Zb) (ds:List ai):(vs=[.ref x])->(bD C H x J0 J2 rooms ds)->(∀l,H l=none->Q (.ref l) (upd H l (.lst (J2.map V.str))))->nI C vs H Q E
theorem Fg{K:Za}{C:Addr}(M:MC K C){a:List V}{H:Hp}{Q:VK}{E:XK}(h:nI C a H Q E):rG K (bq Q) (start sU a) H:=by
 obtain⟨x,m,n,rooms,o,rfl,h,k⟩:=h;obtain⟨f,fs,p,e,q,g,i,a1,a2,a3,r,s,j,t,u,l,_⟩:=vL h;exact⟨_,rfl,x,C,f,fs,.ref e,rfl,i,M.cls,M.a2,j,.inl ⟨e,_,rfl,.inl (ay.of l),k⟩⟩
open Classical in
theorem uy{rooms a:Zb}{e:List ai}{r:Str}:r∈closF rooms e a↔r∈rooms/\ij e a r:=by
 unfold closF;rw[dO,decide_eq_true_iff]
theorem EN(a:Zb):(fu a).depth<=8:=by rw[bC];decide
theorem HF(L:List (List Str)):(DT.s (L.map fu)).depth<=8:=by
 have:=Ai L;show DT.depths _+1<=8;omega
inductive Ce where
 |lst (xs:List Sl)
 |dk (kvs:List (b0×Sl))
 |dt (kvs:List (TK×Sl))
 |ins (C:Addr) (fs:List (Str×Sl))
 |fk (o:Obj) (l:List (b0×V)) (kvs:List (b0×Sl))







abbrev Gj:List V->Hp->VK->Prop:=fun xs H Q=>(∃i,xs=[.int i]/\Q (.int i) H)∨∃k,xs=[.bl k]/\Q (.int (if k then 1 else 0)) H

def EZ(K:Za)(C_Machine:Addr)(sp_Machine_led_from:Sp)(sp_Machine_goals:Sp):TS :=
 aY (dJ (rAny K) (ap (cD 1 [0,2] (cp K (ax mH (cf (aw V1)) (fb C_Machine "led_from" sp_Machine_led_from [] E0 V0 (aw V1)))) U0 (fV) (ax Ch (dJ (dh K) (ap (fb C_Machine "goals" sp_Machine_goals [] E0 V1 (aW V0 (bb (ap (tC (.str "ask")) (aw V2))))) bd)) (tC (.int 0)))) bd))
def FX:List Str:=["I","room","ask"]
def tu(K:Za)(sp_law_put:Sp)(sp_law_take:Sp)(sp_law_still_on:Sp):TS :=
 ar (aM V1 (gp K 4 (aR U2 (aR U3 (aR U4 (aR U5 (fW)))))))
 (ar (aM (dJ (cU K) (aw V5)) U5)
 (ar (dI (cp K V4) U6 (dI (cp K V2) U7 (ar (aM (aH sp_law_still_on (aW V5 (cf (aw V6)))) U8)
 (bU (aL (ax (mG K) (cD 1 [8,7] (cp K V5) U0 (kB (aL (ax (mF K false) (ax (tT K) V0 (tC (.int 0))) V1)) (aL (ax (mG K) (ax (tT K) V0 (tC (.int 1))) (bb (aW (tC (.str "ask")) V2))))) V0) (cf (bd)))) (ar (aM (ax (cg K) (cf (ap V6 (ap (ax (cg K) V4 (aH sp_law_take (aW V0 (dJ (dh K) (aw V4))))) bd))) (aH sp_law_take (aW V0 (tC (.int 2))))) U9)
 (bV (aH sp_law_put (ap V5 (ap (bb (cE V6 (bb (aW (tC (.str "ask")) V7)) V9)) bd))))) (br)))))
 (aY (bb (ap V2 (cE V3 V4 V5))))))
def t4:List Str:=["pen","told","asks","says","rooms","doors","room","ask","there","other"]
def tt(K:Za)(C_Machine:Addr)(sp_Machine_says:Sp)(sp_Machine_asks:Sp):TS :=
 bU (AN (aL (ax (qk K) (fb C_Machine "asks" sp_Machine_asks [] E0 V0 bd) (fb C_Machine "asks" sp_Machine_asks [] E0 V1 bd))) (aL (ax (qk K) (fb C_Machine "says" sp_Machine_says [] E0 V0 bd) (fb C_Machine "says" sp_Machine_says [] E0 V1 bd)))) (oZ) (br)
def tZ:List Str:=["M","I"]
def jw(K:Za)(C_Machine:Addr)(sp_Machine_rooms:Sp)(sp_Machine_asks:Sp)(sp_takes:Sp):TS :=
 dI (cp K (fb C_Machine "rooms" sp_Machine_rooms [] E0 V0 bd)) U1 (dI (cp K (fb C_Machine "asks" sp_Machine_asks [] E0 V0 bd)) U2 (bU (vx (tB (aH sp_takes (cE V0 V1 V2)))) (oZ) (br)))
def jT:List Str:=["I","room","ask"]
def tq(K:Za)(sp_need_all_asks_taken:Sp)(sp_need_match:Sp):TS :=
 ar (bV (aH sp_need_match (aW V0 V1)))
 (bV (aH sp_need_all_asks_taken (aw V1)))
def tX:List Str:=["M","I"]
def vp(K:Za)(sp_law_put:Sp)(sp_law_take:Sp)(sp_law_still_on:Sp):TS :=
 ar (aM V1 (gp K 4 (aR U2 (aR U3 (aR U4 (aR U5 (fW)))))))
 (ar (aM (dJ (cU K) (aw V5)) U5)
 (ar (aM (aH sp_law_take (aW V0 (tC (.int 6)))) U6)
 (ar (aM (aH sp_law_take (ap V0 (aw (dJ Hq (aW (tC (.int 1)) (dJ (dh K) (aw V5))))))) U7)
 (ar (aM (ax (cg K) V4 (aH sp_law_take (aW V0 (dJ (dh K) (aw V4))))) U8)
 (ar (aM (ax (cg K) V4 (aH sp_law_take (aW V0 (dJ (dh K) (aw V4))))) U9)
 (ar (bU (aL (ax m5 V6 (tC (.int 0)))) (bV (aH sp_law_put (ap V5 (ap (bb (ap V8 (ap (bb (ap (tC (.str "say")) (ap (ax (cg K) V3 (aH sp_law_take (aW V0 (dJ (dh K) (aw V3))))) bd))) (aw V9)))) bd)))) (bU (aL (ax m5 V6 (tC (.int 1)))) (bV (aH sp_law_put (ap V5 (ap (bb (ap V8 (ap (bb (ap (tC (.str "ask")) (ap (ax (cg K) V2 (aH sp_law_take (aW V0 (dJ (dh K) (aw V2))))) bd))) (aw V9)))) bd)))) (bU (kB (aL (ax Cg V6 (tC (.int 4)))) (kB (aL (ax (qk K) V5 (cf (bd)))) (aL (ax Ha (ax (bA K) (ax (bA K) (ax (cg K) V5 V7) (tC (.int 1))) (tC (.int 0))) (tC (.str "still")))))) (ar (aM (xu K "list" Dy V5 (aw V7)) HR)
 (bU (aL (ax m5 V6 (tC (.int 3)))) (bV (aH sp_law_put (ap V5 (ap (bb (cE (ax (bA K) FT (tC (.int 0))) (ax (bA K) FT (tC (.int 1))) V9)) bd)))) (br))) (bU (kB (aL (ax m5 V6 (tC (.int 4)))) (aL (ax (mF K true) V8 (aH sp_law_still_on (aW V5 (cf (aw V9))))))) (bV (aH sp_law_put (ap V5 (ap (bb (cE V8 (bb (aw (tC (.str "still")))) V9)) bd)))) (br)))))
 (aY (bb (ap V2 (cE V3 V4 V5))))))))))
def wC:List Str:=["pen","told","asks","says","rooms","doors","way","at","room","other","door"]
def yZ(K:Za)(sp_law_take:Sp)(sp_law_renamed:Sp)(sp_law_willing:Sp)(sp_law_turned:Sp)(sp_law_anew:Sp):TS :=
 ar (bV (aH sp_law_anew (aw V0)))
 (ar (dI (pT (ap (aH sp_law_take (aW V0 (ax dR V2 (tC (.int 1))))) bd)) U3 (aM (aH sp_law_turned (aW V0 V1)) U1))
 (ar (aM (aH sp_law_willing (aW V0 V1)) U1)
 (ar (bU (aL (ax m5 (aH sp_law_take (aW V0 (tC (.int 2)))) (tC (.int 0)))) (aM (aH sp_law_renamed (aW V0 V1)) U1) (br))
 (aY V1))))
def Av:List Str:=["pen","told","most","turn"]


theorem FF{n j:Nat}(h:j<n):CZ n (j:Int)=some j:=by
 unfold CZ;rw[if_pos (Int.natCast_nonneg j),if_pos (by omega)]
 rfl
theorem Reach.mono{g f:List ai}(h:∀a b,(⟨a,am,b⟩:ai)∈g->(⟨a,am,b⟩:ai)∈f){a b:Str}(r:Reach g a b):Reach f a b:=by
 induction r with
 |one e=>exact .one (h _ _ e)
 |step _ e i=>exact .step i (h _ _ e)
theorem DO{K:Za}{H:Hp}{l q:Addr}{e:Ze}{a:List ai}{Q:VK}(f:H l=some (.lst (e.map V.ref)))(g:cz H e a)(h:H q=some (.lst []))(i:a≠[]->Q (.bl true) H)(j:a=[]->Q (.bl false) H):qk K (.ref l) (.ref q) H Q:=by
 refine⟨.s (a.map qo),.s [],(by unfold jr;exact⟨l,_,rfl,ay.of f,g.dIns⟩),(by unfold jr;exact⟨q,_,rfl,ay.of h,by unfold DIns;rfl⟩),?_,(by decide),?_⟩
 ·show DT.depths _+1<=8;have:=sy a;omega
 ·by_cases c:a=[]
  ·subst c;rw[zzr1 (show DT.s (([]:List ai).map qo)=DT.s []from rfl)];exact j rfl
  ·rw[zzr0 (fun z=>c (by injection z with z;exact oC.mp z))];exact i c
def gG(ds:List ai)(r a:Str):Prop:=∃h,(h=r∨Reach ds r h)/\∃b,(⟨h,db a,b⟩:ai)∈ds
open Classical in
def takesB(ds:List ai)(r a:Str):Bool:=decide (gG ds r a)
theorem kr{ds:List ai}{r a:Str}:takesB ds r a=true↔gG ds r a:=by unfold takesB;exact @decide_eq_true_iff _ (Classical.propDecidable _)
theorem vn{ds:List ai}{r a:Str}:takesB ds r a=false↔¬gG ds r a:=by unfold takesB;exact @decide_eq_false_iff_not _ (Classical.propDecidable _)
theorem pU{e:List ai}{h:Str}{f:Zb}:0<(aP e (h,f)).length↔∃b,(⟨h,f,b⟩:ai)∈e:=by
 rw[List.length_pos_iff_exists_mem];constructor
 ·rintro⟨b,a⟩;exact⟨b,bo.mp a⟩
 ·rintro⟨b,a⟩;exact⟨b,bo.mpr a⟩
theorem BE{ds:List ai}{r a:Str}{L:Zb}(i:∀w,w∈L↔Reach ds r w):((r::L).map fun h=>decide ((0:Int)<(aP ds (h,db a)).length)).any id=takesB ds r a:=by
 rw[qN,kr,List.any_eq_true];constructor
 ·rintro⟨b,f,e⟩;obtain⟨h,g,rfl⟩:=aV.mp f;have:=of_decide_eq_true e;refine⟨h,?_,pU.mp (by omega)⟩;rcases cx.mp g with e|e
  ·exact .inl e
  ·exact .inr ((i h).mp e)
 ·rintro⟨h,g,f⟩;refine⟨true,aV.mpr ⟨h,?_,zzr1 (by have:=pU.mpr f;omega)⟩,rfl⟩;rcases g with e|e
  ·rw[e];exact du
  ·exact eI _ ((i h).mpr e)
inductive sp_takes(C:Addr)(vs:List V)(H:Hp)(Q:VK)(E:XK):Prop
 |mk (x:Addr) (r a:Str) (J0 J2 rooms:Zb) (ds:List ai):(vs=[.ref x,.str r,.str a])->(bD C H x J0 J2 rooms ds)->(r∈rooms)->(∀H',ab H H'->Q (.bl (takesB ds r a)) H')->sp_takes C vs H Q E
theorem Bc{K:Za}{H:Hp}{l m:Addr}{a b:Zb}{Q:VK}(e:H l=some (.lst (a.map V.str)))(f:H m=some (.lst (b.map V.str)))(k:Q (.bl (!decide (a=b))) H):qk K (.ref l) (.ref m) H Q:=by
 refine⟨.s (a.map dE),.s (b.map dE),sB (ay.of e),sB (ay.of f),?_,?_,?_⟩
 ·show DT.depths _+1<=8;rw[dU];decide
 ·show DT.depths _+1<=8;rw[dU];decide
 ·rw[decide_eq_decide.mpr (show DT.s (a.map dE)=DT.s (b.map dE)↔a=b from⟨fun h=>gE (by injection h),fun h=>by rw[h]⟩)];exact k
def yy(F:Zb)(a:Str)(d:ai):Bool:=decide (d.a∈F) && decide (d.sg=db a)
theorem yv{f:List ai}{F:Zb}{r a:Str}(i:∀w,w∈F↔ij f [r] w):f.filter (yy F a)=[]↔takesB f r a=false:=by
 rw[vn,List.filter_eq_nil_iff];constructor
 ·rintro h ⟨w,j,b,k⟩;refine h _ k ?_;unfold yy;rw[zzr1,zzr1]
  ·rfl
  ·rfl
  ·exact(i w).mpr ⟨r,du,j⟩
 ·intro n d hd q;unfold yy at q;rw[mj]at q;have l:=of_decide_eq_true q.1;have m:=of_decide_eq_true q.2;obtain⟨g,o,e⟩:=(i _).mp l;have:g=r:=by simpa using o
  subst this;obtain⟨x,p,b⟩:=d;exact n ⟨x,e,b,by rw[<-m];exact hd⟩
theorem Ex{K:Za}{σ:L2.St}{jt ja:Nat}{J f l:Addr}{B:Ze}{r:List ai}{F:Zb}{a:Str}{m:Hp}{Q:Hp->Prop}(st:σ[jt]?=some (some (.ref f)))(O:σ[ja]?=some (some (.str a)))
  (T:m J=some (.lst (B.map V.ref))) (hd:cz m B r) (U:m f=some (.lst (F.map V.str))) (z:r.length<=1000) (L:m l=none)
  (k:∀(g:Ze) (e:Hp),e l=some (.lst (g.map V.ref))->cz e g (r.filter (yy F a))->ab m e->Q e) :
  c9 1 [jt,ja] σ (F0 K J) U0 (kB (aL (ax (mF K false) (ax (tT K) V0 (tC (.int 0))) V1)) (aL (ax (mG K) (ax (tT K) V0 (tC (.int 1))) (bb (aW (tC (.str "ask")) V2))))) V0 m l Q:=by
 have Y:cW 1 [jt,ja] σ=[none,some (.ref f),some (.str a)]:=by simp[cW,st,O]
 let C:Nat->List V->Hp->Prop:=fun i t e=>∃g:List Addr,t=g.map V.ref/\cz e g ((r.take i).filter (yy F a))/\ab m e/\e l=some (.lst t)
 refine cG (xs:=B.map V.ref) C
  ⟨[],rfl,.nil,ab.new L,aa⟩ (fun i t e _ zq=>by obtain⟨_,_,_,S,n⟩:=zq;exact⟨n,ay.of (S _ _ T)⟩) ?_ ?_
 ·rintro t e ⟨g,rfl,D,S,n⟩;rw[ak,Paired.length hd,a_]at D;exact k g e n D S
 ·rintro i t e y hy E ⟨g,rfl,D,S,n⟩;obtain⟨u,hu,rfl⟩:=bF hy;obtain⟨w,j,G⟩:=Paired.getL hd hu;obtain⟨sb,p,v⟩:=G.kt (ab.kt S);have al:i<r.length:=(ca.mp j).1;have zu:g.length<=i:=by
   have:=Paired.length D;rw[this];refine bm (fA _ _) ?_;rw[aQ];omega
  rw[Y];refine gN ?_;refine⟨_,rfl,.inr (.inl ⟨u,_,0,_,rfl,rfl,bt.of p,rfl,_,rfl,dE w.a,F.map dE,f,_,j_ _,rfl,.inl (ay.of (S _ _ U)),jQ _,(by show 0<=8;decide),by rw[dU];decide,_,rfl,?_⟩)⟩;rw[if_neg iV,qH];by_cases x:w.a∈F;rotate_left
  ·rw[zzr0 x];refine aU (aU (m8 E ⟨g,rfl,?_,S,n⟩));rw[fJ j,if_neg (by unfold yy;rw[zzr0 x,AG];decide),f6];exact D
  rw[zzr1 x];refine bx ?_;refine⟨_,rfl,.inr (.inl ⟨u,_,1,_,rfl,rfl,bt.of p,rfl,_,rfl,(by show 2<=ah;decide),fun s hs=>?_⟩)⟩;have h:ab e (upd e s (.tup ((db a).map V.str))):=ab.new hs;have M:upd e s (.tup ((db a).map V.str)) s=some (.tup ((db a).map V.str)):=aa;have H:(.tup [.str "ask",.str a]:HO)=.tup ((db a).map V.str):=rfl;rw[H];generalize upd e s (.tup ((db a).map V.str))=I at h M ⊢;have N:=D.kt (ab.kt h);refine⟨fu w.sg,fu (db a),aS (bt.of (h _ _ v)),aS (bt.of M),by rw[bC];decide,by rw[bC];decide,_,rfl,?_⟩;rw[d6];by_cases A:w.sg=db a;rotate_left
  ·rw[zzr0 A];refine aU (m8 E ⟨g,rfl,?_,S.trans h,h _ _ n⟩);rw[fJ j,if_neg (by unfold yy;rw[zzr0 A,Bool.and_false];decide),f6];exact N
  rw[zzr1 A];refine bx ?_;have S3:ab m (upd I l (.lst (g.map V.ref++[.ref u]))):=fun b o q=>by
   rw[aj (af q L)];exact h _ _ (S _ _ q)
  have kt:fO I (upd I l (.lst (g.map V.ref++[.ref u]))):=fun b xs q=>by
   rw[aj (fun z=>by rw[z,h _ _ n]at q;cases q)];exact q
  refine⟨_,rfl,h _ _ n,by rw[ak];exact aq (by omega),m8 E ⟨g++[u],by rw[au];rfl,?_,S3,aa⟩⟩;rw[fJ j,if_pos (by unfold yy;rw[zzr1 x,zzr1 A];rfl)];exact cc (N.kt kt) ⟨sb,kt _ _ (h _ _ p),kt _ _ (h _ _ v)⟩
theorem Ei{K:Za}{H:Hp}{l q:Addr}{e:Ze}{a:List ai}{Q:VK}(f:H l=some (.lst (e.map V.ref)))(g:cz H e a)(i:H q=some (.lst []))(h:Q (.bl (decide (a=[]))) H):mG K (.ref l) (.ref q) H Q:=by
 refine⟨.s (a.map qo),.s [],(by unfold jr;exact⟨l,_,rfl,ay.of f,g.dIns⟩),(by unfold jr;exact⟨q,_,rfl,ay.of i,by unfold DIns;rfl⟩),?_,(by decide),?_⟩
 ·show DT.depths _+1<=8;have:=sy a;omega
 ·rw[decide_eq_decide.mpr (show DT.s (a.map qo)=DT.s []↔a=[]from⟨fun z=>oC.mp (by injection z),fun z=>by rw[z];rfl⟩)];exact h
theorem Reach.unask{ds:List ai}{d:ai}(n:d.sg≠am){a b:Str}(r:Reach (ds++[d]) a b):Reach ds a b:=by
 have f:∀{x y:Str},(⟨x,am,y⟩:ai)∈ds++[d]->(⟨x,am,y⟩:ai)∈ds:=fun q=>by
  rcases be.mp q with q|q
  ·exact q
  ·have e:=bX.mp q;exact absurd (by rw[<-e]) n
 induction r with
 |one q=>exact .one (f q)
 |step _ q g=>exact .step g (f q)
theorem gG.mono{ds e:List ai}(h:∀d∈ds,d∈e){r a:Str}:gG ds r a->gG e r a:=fun⟨w,f,b,g⟩=>⟨w,f.imp id (Reach.mono fun x y=>h _),b,h _ g⟩
theorem mem_putD{a:List ai}{d x:ai}:x∈kH a d↔x∈a∨x=d:=by
 unfold kH;split
 ·rename_i h;exact⟨.inl,fun z=>z.elim id fun e=>by rw[e];exact h⟩
 ·simp
theorem aJ.putOne{i j rooms:Zb}{f:List ai}{d:ai}(m:aJ i j rooms f)(g:uX i j rooms d)(n:d.sg≠am)(z:f.length+1<=1000):aJ i j rooms (kH f d):=by
 refine⟨m.okA,m.okS,m.apart,m.okR,m.asks0,m.says0,m.rooms0,m.asks4,m.says4,m.rooms26,?_,fun x k=>?_,?_,fun r q=>?_⟩
 ·unfold kH;split
  ·exact m.nodup
  ·rename_i h;rw[de];exact⟨m.nodup,by simp,fun a l b o e=>h (by rw[<-bX.1 o,<-e];exact l)⟩
 ·rcases mem_putD.mp k with h|h
  ·exact m.good x h
  ·rw[h];exact g
 ·have:=rW f d;omega
 ·refine m.noround r ?_;unfold kH at q;split at q
  ·exact q
  ·exact q.unask n
theorem uW(a:Str):db a≠am:=by unfold db am;intro h;injection h with _ h;cases h
structure TX(H0:Hp)(p c l:Addr)(R:List ai->Prop)(H:Hp):Prop where
 pen:eK H p c
 ds:∃ts ds,H l=some (.lst (ts.map V.ref))/\cz H ts ds/\R ds
 ex:cH p H0 H
 fr:H0 l=none
 pl:p≠l
 cl:c≠l
section
variable{H0 H H':Hp}{p c l:Addr}{R R':List ai->Prop}
theorem TX.took(h:TX H0 p c l R H)(a:eK H' p c)(e:cH p H H'):TX H0 p c l R H':=by
 obtain⟨f,g,i,j,k⟩:=h.ds;obtain⟨n,m⟩:=h.pen.lst;exact⟨a,⟨f,g,e _ _ i h.pl.symm,j.kt (e.kt m),k⟩,h.ex.trans e,h.fr,h.pl,h.cl⟩
theorem TX.same(h:TX H0 p c l R H)(S:ab H H'):TX H0 p c l R H':=h.took (h.pen.ex S) (ab.exB S)
theorem TX.imp(h:TX H0 p c l R H)(q:∀a,R a->R' a):TX H0 p c l R' H:=by
 obtain⟨e,a,f,g,i⟩:=h.ds;exact⟨h.pen,⟨e,a,f,g,q _ i⟩,h.ex,h.fr,h.pl,h.cl⟩
theorem TX.put{a:Ze}{e:List ai}(h:TX H0 p c l R H)(g:∃f,H l=some (.lst f))(i:cz H a e)(r:R' e):TX H0 p c l R' (upd H l (.lst (a.map V.ref))):=by
 obtain⟨f,j⟩:=g;refine⟨h.pen.upd h.pl h.cl,⟨a,e,aa,i.kt fun b k q=>?_,r⟩,fun b o q n=>?_,h.fr,h.pl,h.cl⟩
 ·rw[aj (fun z=>by rw[z,j]at q;cases q)];exact q
 ·rw[aj (af q h.fr)];exact h.ex _ _ q n
end
def WR(J0 J2 rooms:Zb)(D:List (Str×Str))(n:Nat)(ds:List ai):Prop:=aJ J0 J2 rooms ds/\ds.length<=n/\∀x∈D,gG ds x.1 x.2
theorem WR.up{J0 a rooms:Zb}{D:List (Str×Str)}{n e:Nat}{f:List ai}(h:WR J0 a rooms D n f)(z:n<=e):WR J0 a rooms D e f:=⟨h.1,bm h.2.1 z,h.2.2⟩
inductive jy (vs:List V)(H:Hp)(Q:VK)(E:XK):Prop
 |mk (p c t l1 l2 l3 l4:Addr) (ts:Ze) (J0 J2 rooms:Zb) (ds:List ai):(vs=[.ref p,.ref t])->(eK H p c)->(eJ H t l1 l2 l3 l4 ts J0 J2 rooms ds)->(aJ J0 J2 rooms ds)->(rooms.length<=26)->(ds.length<=800)->(∀(t' l4':Addr) (ts':Ze) (ds':List ai) (H':Hp),eJ H' t' l1 l2 l3 l4' ts' J0 J2 rooms ds'->aJ J0 J2 rooms ds'->(∀r∈rooms,∀a∈J0,gG ds' r a)->ds'.length<=ds.length+4 * rooms.length->eK H' p c->cH p H H'->Q (.ref t') H')->jy  vs H Q E
theorem zF{K:Za}{vs:List V}{H:Hp}{Q:VK}{E:XK}(h:jy vs H Q E):tu K jA dg (dQ K) (bq Q) (start t4 vs) H:=by
 obtain⟨p,c,t,l1,l2,N,l4,ts,J0,O,rooms,ds,rfl,hp,T,m,cd,z8,k⟩:=h;have a4:=m.asks4;refine⟨_,rfl,t,_,rfl,bt.of T.t,rfl,_,_,rfl,_,_,rfl,_,_,rfl,_,_,rfl,rfl,?_⟩;refine⟨_,rfl,.inl ⟨l4,_,rfl,.inl (ay.of T.a4),fun f hf=>?_⟩⟩;have B0:TX H p c f (WR J0 O rooms [] ds.length) (upd H f (.lst (ts.map V.ref))):=⟨hp.ex (ab.new hf),⟨ts,ds,aa,T.ds.kt (ab.kt (ab.new hf)),m,aB _,by simp⟩,cH.new hf,hf,hp.nep hf,hp.nec hf⟩;generalize upd H f (.lst (ts.map V.ref))=H1 at B0 ⊢;have A:∀{G:Hp}{R:List ai->Prop},TX H p c f R G->G l1=some (.lst (J0.map V.str))/\G l2=some (.lst (O.map V.str))/\G N=some (.lst (rooms.map V.str)):=fun B =>
  ⟨B.ex _ _ T.a1 (hp.ne_strs T.a1),B.ex _ _ T.a2 (hp.ne_strs T.a2),B.ex _ _ T.a3 (hp.ne_strs T.a3)⟩
 refine⟨_,rfl,N,rfl,⟨_,ay.of (A B0).2.2⟩,?_⟩
 let bl:Nat->L2.St->Hp->Prop:=fun i σ G=>Hb fun(a6 U Y a9:Option V)=>σ=[some (.ref p),some (.ref t),some (.ref l1),some (.ref l2),some (.ref N),some (.ref f),a6,U,Y,a9]/\TX H p c f (WR J0 O rooms ((rooms.take i).flatMap fun r=>J0.map fun a=>(r,a)) (ds.length+4 * i)) G
 refine bP (xs:=rooms.map V.str) bl
  ⟨_,_,_,_,rfl,B0⟩ (fun i σ G _ zq=>by obtain⟨_,_,_,_,_,B⟩:=zq;exact ay.of (A B).2.2) ?_ ?_
 ·rintro i v σ H2 hi ⟨a6,U,Y,a9,rfl,J⟩;obtain⟨r,hr,rfl⟩:=bE hi;have ce:i<rooms.length:=(ca.mp hr).1;have al:=cw hr;refine⟨_,rfl,l1,rfl,⟨_,ay.of (A J).1⟩,?_⟩
  let bn:Nat->L2.St->Hp->Prop:=fun j σ G=>HI fun(U Y a9:Option V)=>σ=[some (.ref p),some (.ref t),some (.ref l1),some (.ref l2),some (.ref N),some (.ref f),some (.str r),U,Y,a9]/\TX H p c f (WR J0 O rooms ((rooms.take i).flatMap (fun r=>J0.map fun a=>(r,a))++(J0.take j).map fun a=>(r,a)) (ds.length+4 * i+j)) G
  refine bP (xs:=J0.map V.str) bn
   ⟨_,_,_,rfl,J.imp fun ds h=>by simpa using h⟩ (fun i σ G _ zq=>by obtain⟨_,_,_,_,B⟩:=zq;exact ay.of (A B).1) ?_ ?_
  ·rintro j v σ H3 hj ⟨U,Y,a9,rfl,B3⟩;obtain⟨a,ha,rfl⟩:=bE hj;have ch:j<J0.length:=(ca.mp ha).1;have b1:=cw ha;have an:∀C n,WR J0 O rooms ((rooms.take i).flatMap (fun r=>J0.map fun a=>(r,a))++(J0.take j).map fun a=>(r,a)) n C->gG C r a->WR J0 O rooms ((rooms.take i).flatMap (fun r=>J0.map fun a=>(r,a))++(J0.take (j+1)).map fun a=>(r,a)) n C:=fun C n w tk=>by
    refine⟨w.1,w.2.1,fun x hx=>?_⟩;rw[take_snoc ha,au,<-cA]at hx;rcases be.mp hx with h|h
    ·exact w.2.2 x h
    ·have:x=(r,a):=by simpa using h
     rw[this];exact tk
   refine⟨_,rfl,_,rfl,(by show 1<=ah;decide),fun q hq=>?_⟩;have B4:=B3.same (ab.new (o:=.lst [.str r]) hq);have q4:upd H3 q (.lst [.str r]) q=some (.lst [.str r]):=aa;generalize upd H3 q (.lst [.str r])=H4 at B4 q4 ⊢;obtain⟨us,C,g1,g2,D⟩:=B4.ds;refine⟨f,q,us,C,[r],rooms,rfl,g1,g2,q4,fun d hd=>(D.1.good d hd).b,by omega,(by show 1<=1000;decide),fun th F H5 b2 hF _ _ S5=>?_⟩;have B5:=B4.same S5;have f5:=S5 _ _ g1;have d5:=g2.kt (ab.kt S5);refine⟨_,rfl,f,rfl,⟨_,ay.of f5⟩,fun l hl=>?_⟩;refine Ex (K:=K) (jt:=8) (ja:=7) rfl rfl f5 d5 b2 D.1.few hl fun vs H6 h6 D6 S6=>⟨(by show 0<=ah;decide),fun e he=>?_⟩;refine Ei (kp h6 he) (D6.kt (ab.kt (ab.new he))) aa ⟨_,rfl,?_⟩;have S7:ab H5 (upd H6 e (.lst [])):=S6.trans (ab.new he);generalize upd H6 e (.lst [])=H7 at S7 ⊢;have f7:=S7 _ _ f5;have d7:=d5.kt (ab.kt S7);have B7:TX H p c f (fun as=>as=C) H7:=by
    have B:=B5.same S7;exact⟨B.pen,⟨us,C,f7,d7,rfl⟩,B.ex,B.fr,B.pl,B.cl⟩
   cases q:takesB C r a with
   |true =>
    rw[zzr0 (fun z=>by rw[yv hF,q]at z;cases z)];exact aU ⟨_,_,_,rfl,B7.imp fun as e=>by rw[e];exact an _ _ (D.up (by omega)) (kr.mp q)⟩
   |false =>
    rw[zzr1 ((yv hF).mpr q)];refine bx ?_;have b3:=(A B7).2.2;refine⟨_,rfl,_,rfl,_,rfl,_,rfl,.inl ⟨N,_,rfl,.inl (ay.of b3),?_⟩⟩;rw[ak];refine df B7.pen (by omega) (by omega) fun x H8 x0 x1 b4 b5=>?_;obtain⟨n,rfl⟩:=iW x0;have B8:=B7.took b4 b5;obtain⟨w,hw⟩:∃w,rooms[n]?=some w:=⟨_,bY (by omega)⟩;refine⟨N,_,(n:Int),.str w,rfl,rfl,ay.of (A B8).2.2,aG (j:=n) (by rw[eZ,hw];rfl),(by show 2<=ah;decide),fun u hu=>?_⟩;have B9:=B8.same (ab.new (o:=.lst [.str r,.str w]) hu);have u9:upd H8 u (.lst [.str r,.str w]) u=some (.lst ([r,w].map V.str)):=aa;generalize upd H8 u (.lst [.str r,.str w])=H9 at B9 u9 ⊢;refine⟨_,rfl,df B9.pen (by decide) (by decide) fun y I y0 y1 aC L=>?_⟩;have b6:=B9.took aC L;obtain⟨g,hg,b7⟩:∃g,ww ([r,w].map V.str) y=some (.str g)/\g∈rooms:=by
     have:y=0∨y=1:=by omega
     rcases this with rfl|rfl
     ·exact⟨r,rfl,al⟩
     ·exact⟨w,rfl,cw hw⟩
    refine⟨u,_,y,.str g,rfl,rfl,ay.of (L _ _ u9 (B9.pen.ne_strs u9)),hg,?_⟩;refine⟨_,rfl,_,rfl,_,rfl,(by show 2<=ah;decide),fun s hs=>⟨_,rfl,(by show 3<=ah;decide),fun d hd=>?_⟩⟩;have a0:ab I (upd (upd I s (.tup [.str "ask",.str a])) d (.tup [.str r,.ref s,.str g])):=(ab.new hs).trans (ab.new hd);have M:gt (upd (upd I s (.tup [.str "ask",.str a])) d (.tup [.str r,.ref s,.str g])) d ⟨r,db a,g⟩:=⟨s,aa,kp aa hd⟩;generalize upd (upd I s (.tup [.str "ask",.str a])) d (.tup [.str r,.ref s,.str g])=cm at a0 M ⊢;have a5:=b6.same a0;obtain⟨b8,b9,k1,k2,rfl⟩:=id a5.ds;have zz:=D.2.1;have bi:uX J0 O rooms ⟨r,db a,g⟩:=⟨al,b7,.inl ⟨a,b1,rfl⟩⟩;refine⟨f,d,b8,_,⟨r,db a,g⟩,rfl,k1,k2,M,D.1.few,fun co D2=>?_⟩;refine⟨_,_,_,rfl,a5.put ⟨_,k1⟩ D2 (an _ _ ⟨D.1.putOne bi (uW a) (by omega),?_,fun x hx=>(D.2.2 x hx).mono fun y hy=>mem_putD.mpr (.inl hy)⟩ ⟨r,.inl rfl,g,mem_putD.mpr (.inr rfl)⟩)⟩;have:=rW b9 ⟨r,db a,g⟩;omega
  ·rintro σ H3 ⟨U,Y,a9,rfl,B3⟩;refine⟨_,_,_,_,rfl,B3.imp fun C h=>?_⟩;rw[ak]at h;refine⟨h.1,by have:=h.2.1;omega,fun x hx=>h.2.2 x ?_⟩;rw[take_snoc hr,List.flatMap_append]at hx;rw[a_];simpa using hx
 ·rintro σ H2 ⟨a6,U,Y,a9,rfl,J⟩;rw[ak,a_]at J;obtain⟨us,C,g1,g2,D⟩:=J.ds;obtain⟨q1,q2,q3⟩:=A J;refine⟨_,rfl,_,rfl,_,rfl,_,rfl,(by show 4<=ah;decide),fun t' cb=>?_⟩;have S3:=ab.new (o:=.tup [.ref l1,.ref l2,.ref N,.ref f]) cb;exact k t' f us C _ ⟨aa,S3 _ _ q1,S3 _ _ q2,S3 _ _ q3,S3 _ _ g1,g2.kt (ab.kt S3)⟩ D.1 (fun r hr a ha=>D.2.2 (r,a) (List.mem_flatMap.mpr ⟨r,hr,aV.mpr ⟨a,ha,rfl⟩⟩)) D.2.1 (J.pen.ex S3) (J.ex.trans (ab.exB S3))
abbrev Sg:=List Str
structure FMs where
 fs:List (List Str)
 ss:List (List Sg)
abbrev FMst:=FMs×List (List (Sg×Nat))
theorem vk{K:Za}{a:Addr}{e:List V}(h:∀H,bt K H a e)(H:Hp):az K H a e:=by
 rcases h (fun _=>none)with(h|⟨o,h⟩)|h
 ·cases h
 ·cases h
 ·exact .inr h
theorem ifQ{b:Bool}{P X Y:Prop}(h:b=true↔P)(a:P->X)(e:¬P->Y):if b=true then X else Y:=by
 cases b with
 |true=>exact a (h.1 rfl)
 |false=>exact e fun z=>by cases h.2 z
abbrev dq(K:Za)(H:Hp)(w:Addr)(s:List Sg):Prop:=∃gs:List Addr,H w=some (.lst (gs.map V.ref))/\Paired (fun g (sg:Sg)=>az K H g (sg.map V.str)) gs s
theorem az.kt{K:Za}{H e:Hp}{a:Addr}{f:List V}(k:fO H e)(h:az K H a f):az K e a f:=h.keeps k
theorem az.sq{K:Za}{H:Hp}{a:Addr}{e:List V}(h:az K H a e):bt K H a e:=h.imp .inl id
theorem Paired.rev{α β:Type}{R:α->β->Prop}:∀{a:List α}{b:List β},Paired R a b->Paired R a.reverse b.reverse
 |_,_,.nil=>.nil
 |_,_,.cons r t=>by
  rw[oN,oN];exact Paired.app (Paired.rev t) (.cons r .nil)
inductive fF(C:Addr)(vs:List V)(H:Hp)(Q:VK)(E:XK):Prop
 |mk (x y:Addr) (J0 J2 rooms rooms':Zb) (ds ds':List ai):(vs=[.ref x,.ref y])->(bD C H x J0 J2 rooms ds)->(bD C H y J0 J2 rooms' ds')->(∀H',ab H H'->Q .non H')->fF C vs H Q E
theorem rT{K:Za}{C:Addr}{p:List V}{H:Hp}{Q:VK}{E:XK}(h:fF C p H Q E):tt K C (nI C) (ln C) (bq Q) (start tZ p) H:=by
 obtain⟨x,y,e,f,rooms,a,q,g,rfl,M,N,k⟩:=h;obtain⟨r,fs,s,a1,a2,_⟩:=id M.more;obtain⟨t,u,v,I,J,_⟩:=id N.more;refine⟨_,rfl,x,r,fs,rfl,s,a1,x,e,f,rooms,q,rfl,M,fun i L=>?_⟩;have j:ab H (upd H i (.lst (e.map V.str))):=ab.new L;have w:upd H i (.lst (e.map V.str)) i=some (.lst (e.map V.str)):=aa;generalize upd H i (.lst (e.map V.str))=z at j w ⊢;refine⟨_,rfl,y,t,u,rfl,j _ _ v,I,y,e,f,a,g,rfl,N.same j,fun A B=>?_⟩;have l:ab H (upd z A (.lst (e.map V.str))):=j.trans (ab.new B);refine Bc (kp w B) aa ⟨_,rfl,?_⟩;generalize upd z A (.lst (e.map V.str))=o at l ⊢;rw[zzr1 rfl];refine aU ?_;refine⟨_,rfl,x,r,fs,rfl,l _ _ s,a2,x,e,f,rooms,q,rfl,M.same l,fun m O=>?_⟩;have n:ab H (upd o m (.lst (f.map V.str))):=l.trans (ab.new O);have D:upd o m (.lst (f.map V.str)) m=some (.lst (f.map V.str)):=aa;generalize upd o m (.lst (f.map V.str))=T at n D ⊢;refine⟨_,rfl,y,t,u,rfl,n _ _ v,J,y,e,f,a,g,rfl,N.same n,fun U G=>?_⟩;have Y:ab H (upd T U (.lst (f.map V.str))):=n.trans (ab.new G);refine Bc (kp D G) aa ⟨_,rfl,?_⟩;rw[zzr1 rfl];exact aU (k _ Y)
inductive gP(C:Addr)(vs:List V)(H:Hp)(Q:VK)(E:XK):Prop
 |mk (x:Addr) (J0 J2 rooms:Zb) (ds:List ai):(vs=[.ref x])->(bD C H x J0 J2 rooms ds)->((∀r∈rooms,∀a∈J0,gG ds r a))->(∀H',ab H H'->Q .non H')->gP C vs H Q E
theorem vT{K:Za}{C:Addr}{J:List V}{H:Hp}{Q:VK}{E:XK}(h:gP C J H Q E):jw K C (kD C) (ln C) (sp_takes C) (bq Q) (start jT J) H:=by
 obtain⟨x,e,q,rooms,s,rfl,M,tk,k⟩:=h;obtain⟨t,fs,o1,o2,o3,o4,lv,qu,O,sl,ts,T,U,Y,u,a1,a2,a3,a4,_⟩:=id M.at_;refine⟨_,rfl,x,t,fs,rfl,u,a4,x,e,q,rooms,s,rfl,M,fun f h1=>?_⟩;have n:ab H (upd H f (.lst (rooms.map V.str))):=ab.new h1;have w:upd H f (.lst (rooms.map V.str)) f=some (.lst (rooms.map V.str)):=aa;generalize upd H f (.lst (rooms.map V.str))=L at n w ⊢;refine⟨f,rfl,⟨_,ay.of w⟩,?_⟩
 let A:Nat->L2.St->Hp->Prop:=fun i σ g=>∃y z,σ=[some (.ref x),y,z]/\ab L g
 refine bP (xs:=rooms.map V.str) A ⟨_,_,rfl,ab.refl _⟩ (fun i σ g _ B=>by obtain⟨_,_,_,S⟩:=B;exact ay.of (S _ _ w)) ?_ ?_
 ·rintro i v σ l hi ⟨y,z,rfl,o⟩;obtain⟨r,N,rfl⟩:=bE hi;have M2:=M.same (n.trans o);obtain⟨t,fs,u,a1,_⟩:=id M2.more;refine⟨_,rfl,x,t,fs,rfl,u,a1,x,e,q,rooms,s,rfl,M2,fun m h2=>?_⟩;have D:ab L (upd l m (.lst (e.map V.str))):=o.trans (ab.new h2);have G:upd l m (.lst (e.map V.str)) m=some (.lst (e.map V.str)):=aa;generalize upd l m (.lst (e.map V.str))=H3 at D G ⊢;refine⟨m,rfl,⟨_,ay.of G⟩,?_⟩
  let I:Nat->L2.St->Hp->Prop:=fun j σ g=>∃z,σ=[some (.ref x),some (.str r),z]/\ab H3 g
  refine bP (xs:=e.map V.str) I ⟨_,rfl,ab.refl _⟩ (fun i σ g _ B=>by obtain⟨_,_,S⟩:=B;exact ay.of (S _ _ G)) ?_ ?_
  ·rintro j v σ H4 hj ⟨z,rfl,p⟩;obtain⟨a,ha,rfl⟩:=bE hj;refine⟨_,rfl,_,rfl,_,rfl,x,r,a,e,q,rooms,s,rfl,M.same ((n.trans D).trans p),cw N,fun H5 S5=>⟨_,rfl,?_⟩⟩;rw[kr.2 (tk r (cw N) a (cw ha))];exact aU ⟨_,rfl,p.trans S5⟩
  ·rintro σ H4 ⟨z,rfl,p⟩;exact⟨_,_,rfl,D.trans p⟩
 ·rintro σ l ⟨y,z,rfl,o⟩;exact k l (n.trans o)
inductive fE(C:Addr)(vs:List V)(H:Hp)(Q:VK)(E:XK):Prop
 |mk (x y:Addr) (J0 J2 rooms rooms':Zb) (ds ds':List ai):(vs=[.ref x,.ref y])->(bD C H x J0 J2 rooms ds)->(bD C H y J0 J2 rooms' ds')->((∀r∈rooms',∀a∈J0,gG ds' r a))->(∀H',ab H H'->Q .non H')->fE C vs H Q E
theorem rS{K:Za}{C:Addr}{f:List V}{H:Hp}{Q:VK}{E:XK}(h:fE C f H Q E):tq K (gP C) (fF C) (bq Q) (start tX f) H:=by
 obtain⟨x,y,g,i,rooms,a,l,e,rfl,M,N,tk,k⟩:=h;exact⟨_,rfl,_,rfl,x,y,g,i,rooms,a,l,e,rfl,M,N,fun o j=>⟨_,rfl,y,g,i,a,e,rfl,N.same j,tk,fun m n=>k m (j.trans n)⟩⟩
theorem aJ.out{a e rooms:Zb}{ds:List ai}(m:aJ a e rooms ds)(k:Nat):aJ a e rooms (ds.eraseIdx k):=by
 have sub:(ds.eraseIdx k).Sublist ds:=List.eraseIdx_sublist ds k;exact{ m with nodup:=m.nodup.sublist sub,good:=fun d f=>m.good d (sub.mem f),few:=bm sub.length_le m.few,noround:=fun r z=>m.noround r (z.mono fun x y h=>sub.mem h) }
theorem Paired.out{α β:Type}{R:α->β->Prop}:∀{a:List α}{bs:List β}(k:Nat),Paired R a bs->Paired R (a.eraseIdx k) (bs.eraseIdx k)
 |_,_,_,.nil=>.nil
 |_,_,0,.cons _ t=>t
 |_,_,k+1,.cons r t=>.cons r (Paired.out k t)
theorem uI{α β:Type}(f:α->β):∀(l:List α) (n:Nat),(l.map f).eraseIdx n=(l.eraseIdx n).map f
 |[],_=>rfl
 |_::_,0=>rfl
 |a::l,n+1=>by show f a::_=f a::_;rw[uI f l n]
def TR(J0 J2 rooms:Zb)(n:Nat)(ds:List ai):Prop:=aJ J0 J2 rooms ds/\ds.length<=n
inductive k_ (vs:List V)(H:Hp)(Q:VK)(E:XK):Prop
 |mk (p c t l1 l2 l3 l4:Addr) (ts:Ze) (J0 J2 rooms:Zb) (ds:List ai):(vs=[.ref p,.ref t])->(eK H p c)->(eJ H t l1 l2 l3 l4 ts J0 J2 rooms ds)->(aJ J0 J2 rooms ds)->(ds.length<=690)->(∀(t' l4':Addr) (ts':Ze) (ds':List ai) (H':Hp),eJ H' t' l1 l2 l3 l4' ts' J0 J2 rooms ds'->aJ J0 J2 rooms ds'->ds'.length<=ds.length+1->eK H' p c->cH p H H'->Q (.ref t') H')->k_  vs H Q E
theorem BP{K:Za}{vs:List V}{H:Hp}{Q:VK}{E:XK}(h:k_ vs H Q E):vp K jA dg (dQ K) (bq Q) (start wC vs) H:=by
 obtain⟨p,c,t,l1,l2,l3,l4,ts,J0,J2,rooms,ds,rfl,hp,T,m,z8,k⟩:=h;have a4:=m.asks4;have s4:=m.says4;have r4:=m.rooms26;refine⟨_,rfl,t,_,rfl,bt.of T.t,rfl,_,_,rfl,_,_,rfl,_,_,rfl,_,_,rfl,rfl,?_⟩;refine⟨_,rfl,.inl ⟨l4,_,rfl,.inl (ay.of T.a4),fun f hf=>?_⟩⟩;have B0:TX H p c f (fun x=>x=ds) (upd H f (.lst (ts.map V.ref))):=⟨hp.ex (ab.new hf),⟨ts,ds,aa,T.ds.kt (ab.kt (ab.new hf)),rfl⟩,cH.new hf,hf,hp.nep hf,hp.nec hf⟩;generalize upd H f (.lst (ts.map V.ref))=H1 at B0 ⊢;have r:∀{H':Hp}{R:List ai->Prop},TX H p c f R H'->H' l1=some (.lst (J0.map V.str))/\H' l2=some (.lst (J2.map V.str))/\H' l3=some (.lst (rooms.map V.str)):=fun B =>
  ⟨B.ex _ _ T.a1 (hp.ne_strs T.a1),B.ex _ _ T.a2 (hp.ne_strs T.a2),B.ex _ _ T.a3 (hp.ne_strs T.a3)⟩
 refine⟨_,rfl,df B0.pen (by decide) (by decide) fun Y H2 w0 w1 aC a0=>?_⟩;have B2:=B0.took aC a0;obtain⟨C,es,D,J,rfl⟩:=id B2.ds;refine⟨_,rfl,_,rfl,.inl ⟨f,_,rfl,.inl (ay.of D),_,_,rfl,?_⟩⟩;have lu:C.length=es.length:=Paired.length J;refine df B2.pen (by split<;>omega) (by rw[ak,lu];split<;>omega) fun at_ H3 n0 n1 a5 a6=>?_;have B3:=B2.took a5 a6;rw[ak,lu]at n1;refine iI (fun _ _ _ _ h=>h) rfl rfl B3.pen (r B3).2.2 m.rooms0 (by omega) fun room v H4 a7 a8=>?_;have B4:=B3.took a7 a8;refine iI (fun _ _ _ _ h=>h) rfl rfl B4.pen (r B4).2.2 m.rooms0 (by omega) fun other i H5 a9 bi=>?_;have O:=B4.took a9 bi;clear B0 B2 B3 B4 aC a5 a7 a9 a0 a6 a8 bi D J;have L:∀{l:Hp}(G:Option V),TX H p c f (TR J0 J2 rooms (es.length+1)) l->(aY (bb (ap V2 (cE V3 V4 V5)))) (bq Q) [some (.ref p),some (.ref t),some (.ref l1),some (.ref l2),some (.ref l3),some (.ref f),some (.int Y),some (.int at_),some (.str room),some (.str other),G] l:=fun G B=>by
  obtain⟨C,fs,D,J,g3⟩:=B.ds;obtain⟨q1,q2,q3⟩:=r B;refine⟨_,rfl,_,rfl,_,rfl,_,rfl,(by show 4<=ah;decide),fun t' b5=>?_⟩;have S3:=ab.new (o:=.tup [.ref l1,.ref l2,.ref l3,.ref f]) b5;exact k t' f C fs _ ⟨aa,S3 _ _ q1,S3 _ _ q2,S3 _ _ q3,S3 _ _ D,J.kt (ab.kt S3)⟩ g3.1 g3.2 (B.pen.ex S3) (B.ex.trans (ab.exB S3))
 have put:∀{l:Hp}{fs:List ai}{d:Addr}{x:ai}(G:Option V),TX H p c f (fun y=>y=fs) l->fs.length<=es.length->gt l d x->aJ J0 J2 rooms (kH fs x)->jA [.ref f,.ref d] l (fun _ H'=>(aY (bb (ap V2 (cE V3 V4 V5)))) (bq Q) [some (.ref p),some (.ref t),some (.ref l1),some (.ref l2),some (.ref l3),some (.ref f),some (.int Y),some (.int at_),some (.str room),some (.str other),G] H') E0:=fun G B le M ok=>by
  obtain⟨b6,cd,k1,k2,rfl⟩:=id B.ds;refine⟨f,_,b6,_,_,rfl,k1,k2,M,by omega,fun ce D2=>L G (B.put ⟨_,k1⟩ D2 ⟨ok,?_⟩)⟩;exact bm (rW _ _) (by omega)
 refine⟨_,rfl,rfl,_,rfl,?_⟩;refine jO (fun _=>?_) (fun _=>?_)
 ·refine⟨_,rfl,_,rfl,iI (fun _ _ _ _ h=>h) rfl rfl O.pen (r O).2.1 m.says0 (by omega) fun w hw l al an=>⟨(by show 2<=ah;decide),fun s hs=>⟨_,rfl,(by show 3<=ah;decide),fun d I=>?_⟩⟩⟩;have N:=O.took al an;have S:ab l (upd (upd l s (.tup [.str "say",.str w])) d (.tup [.str room,.ref s,.str other])):=(ab.new hs).trans (ab.new I);exact put (x:=⟨room,iH w,other⟩) _ (N.same S) (aB _) ⟨s,aa,kp aa I⟩ (m.putOne ⟨v,i,.inr (.inl ⟨w,hw,rfl⟩)⟩ (by unfold iH am;intro h;injection h with _ h;cases h) (by omega))
 refine⟨_,rfl,rfl,_,rfl,?_⟩;refine jO (fun _=>?_) (fun _=>?_)
 ·refine⟨_,rfl,_,rfl,iI (fun _ _ _ _ h=>h) rfl rfl O.pen (r O).1 m.asks0 (by omega) fun w hw l al an=>⟨(by show 2<=ah;decide),fun s hs=>⟨_,rfl,(by show 3<=ah;decide),fun d I=>?_⟩⟩⟩;have N:=O.took al an;have S:ab l (upd (upd l s (.tup [.str "ask",.str w])) d (.tup [.str room,.ref s,.str other])):=(ab.new hs).trans (ab.new I);exact put (x:=⟨room,db w,other⟩) _ (N.same S) (aB _) ⟨s,aa,kp aa I⟩ (m.putOne ⟨v,i,.inl ⟨w,hw,rfl⟩⟩ (uW w) (by omega))
 have A:∀{l:Hp},TX H p c f (fun y=>y=es) l->(bU (kB (aL (ax m5 V6 (tC (.int 4)))) (aL (ax (mF K true) V8 (aH (dQ K) (aW V5 (cf (aw V9))))))) (bV (aH jA (ap V5 (ap (bb (cE V8 (bb (aw (tC (.str "still")))) V9)) bd)))) (br)) { nx:=(aY (bb (ap V2 (cE V3 V4 V5)))) (bq Q),rt:=Q } [some (.ref p),some (.ref t),some (.ref l1),some (.ref l2),some (.ref l3),some (.ref f),some (.int Y),some (.int at_),some (.str room),some (.str other),none] l:=fun{l} B=>by
  have bn:TX H p c f (TR J0 J2 rooms (es.length+1)) l:=B.imp fun y e=>by rw[e];exact⟨m,pH _⟩
  refine⟨_,rfl,rfl,_,rfl,?_⟩;refine jO (fun _=>?_) (fun _=>aU (L _ bn));refine⟨_,rfl,_,rfl,_,rfl,(by show 1<=ah;decide),fun bl b7=>?_⟩;have B7:=B.same (ab.new (o:=.lst [.str other]) b7);have e7:upd l bl (.lst [.str other]) bl=some (.lst [.str other]):=aa;generalize upd l bl (.lst [.str other])=H7 at B7 e7 ⊢;obtain⟨C,fs,D,J,rfl⟩:=id B7.ds;refine⟨f,bl,C,fs,[other],rooms,rfl,D,J,e7,fun d I=>(m.good d I).b,by omega,(by show 1<=1000;decide),fun g F H8 hg hF _ _ S8=>?_⟩;have B8:=B7.same S8;refine⟨dE room,F.map dE,g,_,j_ room,rfl,.inl (ay.of hg),jQ _,(by show 0<=8;decide),by rw[dU];decide,_,rfl,?_⟩;rw[if_pos rfl];by_cases c1:room∈F
  ·rw[zzr1 (lB.mpr c1)];exact aU (L _ (B8.imp fun y e=>by rw[e];exact⟨m,pH _⟩))
  rw[zzr0 (fun z=>c1 (lB.mp z))];refine bx ?_;refine⟨_,rfl,_,rfl,(by show 1<=ah;decide),fun s hs=>⟨_,rfl,(by show 3<=ah;decide),fun d I=>?_⟩⟩;have S:ab H8 (upd (upd H8 s (.tup [.str "still"])) d (.tup [.str room,.ref s,.str other])):=(ab.new hs).trans (ab.new I);exact put (x:=⟨room,am,other⟩) _ (B8.same S) (aB _) ⟨s,aa,kp aa I⟩ (m.putStill v i (fun z=>c1 ((hF room).mpr z)) (by omega))
 refine⟨_,rfl,_,_,rfl,rfl,_,rfl,?_⟩;refine jO (fun _=>?_) (fun _=>aU (A O));refine⟨_,rfl,(by show 0<=ah;decide),fun q hq=>?_⟩;have N:=O.same (ab.new (o:=.lst []) hq);have e6:upd H5 q (.lst []) q=some (.lst []):=aa;generalize upd H5 q (.lst [])=l at N e6 ⊢;obtain⟨C,fs,D,J,rfl⟩:=id N.ds;refine DO D J e6 (fun c1=>⟨_,rfl,bx ?_⟩) (fun _=>⟨_,rfl,aU (aU (A N))⟩);have fl:0<fs.length:=List.length_pos_iff.2 c1;have n2:at_<fs.length:=by split at n1<;>omega
 obtain⟨n,rfl⟩:=iW n0;have n3:n<fs.length:=by omega
 have as:fs[n]?=some fs[n]:=bY n3;obtain⟨u,hu,M⟩:=Paired.get J as;generalize fs[n]=U at as M;have hm:=cw as;obtain⟨sb,b1,b2⟩:=M;obtain⟨s0,cb,b3,_⟩:=uq (m.good U hm);have b8:ww (U.sg.map V.str) 0=some (.str s0):=by rw[b3];exact aG (j:=0) rfl
 have b4:(C.map V.ref)[n]?=some (.ref u):=by rw[eZ,hu];rfl
 refine⟨_,rfl,_,rfl,f,_,_,_,rfl,rfl,ay.of D,aG b4,u,_,1,_,rfl,rfl,bt.of b1,rfl,sb,_,0,_,rfl,rfl,bt.of b2,b8,rfl,_,rfl,?_⟩;refine jO (fun c2=>?_) (fun _=>A N);have ns:U.sg≠am:=fun z=>by
  rw[b3]at z;injection z with z;rw[z]at c2;simp at c2
 have b9:vg (n:Int) (C.map V.ref).length=some n:=(wb (FF (by rw[ak,Paired.length J];exact n3))).1;refine⟨_,rfl,.inl ⟨rfl,_,ay.of D⟩,_,rfl,f,_,_,n,.ref u,rfl,rfl,D,by omega,by omega,b9,b4,?_⟩;have ee:(C.map V.ref).eraseIdx n=(C.eraseIdx n).map V.ref:=uI _ C n;rw[ee];have k6:fO l (upd l f (.lst ((C.eraseIdx n).map V.ref))):=cO D;have B7:TX H p c f (fun y=>y=fs.eraseIdx n) (upd l f (.lst ((C.eraseIdx n).map V.ref))):=N.put ⟨_,D⟩ (Paired.out n J) rfl;have t7:=k6 _ _ b1;have s7:=k6 _ _ b2;generalize upd l f (.lst ((C.eraseIdx n).map V.ref))=H7 at B7 t7 s7 ⊢;have m7:=m.out n;have l7:(fs.eraseIdx n).length<=fs.length:=(List.eraseIdx_sublist fs n).length_le;refine⟨_,rfl,rfl,_,rfl,?_⟩;refine jO (fun _=>?_) (fun _=>L _ (B7.imp fun y e=>by rw[e];exact⟨m7,by omega⟩));refine⟨_,rfl,_,rfl,u,_,0,_,rfl,rfl,bt.of t7,rfl,_,rfl,u,_,1,_,rfl,rfl,bt.of t7,rfl,_,rfl,(by show 3<=ah;decide),fun d I=>?_⟩;have S:ab H7 (upd H7 d (.tup [.str U.a,.ref sb,.str other])):=ab.new I;exact put (x:=⟨U.a,U.sg,other⟩) _ (B7.same S) l7 ⟨sb,aa,S _ _ s7⟩ (m7.putOne ⟨(m.good U hm).a,i,(m.good U hm).sg⟩ ns (by omega))
theorem Reach.ren{a:List ai}{f:Str->Str}{x y:Str}(h:Reach a x y):Reach (a.map (tP f)) (f x) (f y):=by
 induction h with
 |one e=>exact .one (aV.2 ⟨_,e,rfl⟩)
 |step _ e g=>exact .step g (aV.2 ⟨_,e,rfl⟩)
theorem gG.ren{g:List ai}{f:Str->Str}{r a:Str}:gG g r a->gG (g.map (tP f)) (f r) a:=fun⟨w,h,b,i⟩ =>
 ⟨f w,h.imp (fun e=>by rw[e]) Reach.ren,f b,aV.2 ⟨_,i,rfl⟩⟩
inductive iE (vs:List V)(H:Hp)(Q:VK)(E:XK):Prop
 |mk (p c t l1 l2 l3 l4:Addr) (ts:Ze) (J0 J2 rooms:Zb) (ds:List ai):(vs=[.ref p,.ref t])->(eK H p c)->(eJ H t l1 l2 l3 l4 ts J0 J2 rooms ds)->(aJ J0 J2 rooms ds)->(rooms.length<=26)->(∀(t' l3' l4':Addr) (ts':Ze) (rooms':Zb) (f:Str->Str) (H':Hp),eJ H' t' l1 l2 l3' l4' ts' J0 J2 rooms' (ds.map (tP f))->aJ J0 J2 rooms' (ds.map (tP f))->rooms'.Perm (rooms.map f)->eK H' p c->cH p H H'->Q (.ref t') H')->iE  vs H Q E
theorem xC{K:Za}{D:List V}{H:Hp}{Q:VK}{E:XK}(h:iE D H Q E):tz K dg kE (bq Q) (start t9 D) H:=by
 obtain⟨p,c,t,l1,l2,l3,l4,ts,J0,J2,rooms,ds,rfl,hp,T,m,z3,k⟩:=h;have z4:=m.few;have dm:0<rooms.length:=by
  cases hq:rooms with
  |nil=>exact absurd hq m.rooms0
  |cons _ _=>simp
 refine⟨_,rfl,t,_,rfl,bt.of T.t,rfl,_,_,rfl,_,_,rfl,_,_,rfl,_,_,rfl,rfl,?_⟩;refine fun d hd=>?_;have dp:=hp.nep hd;have dc:=hp.nec hd;have T1:=T.same (ab.new (o:=.dK []) hd);have an:=hp.ex (ab.new (o:=.dK []) hd);have as:upd H d (.dK []) d=some (.dK (CY [])):=aa;have bi:cH p H (upd H d (.dK [])):=cH.new hd;generalize upd H d (.dK [])=H1 at T1 an as bi ⊢;refine⟨_,rfl,_,rfl,_,rfl,.inl ⟨l3,_,rfl,.inl (ay.of T1.a3),p,c,(rooms.map V.str).length,rfl,an,by rw[ak];exact z3,fun lw l H2 b9 v bl aC bn a0=>?_⟩⟩;rw[ak]at v;have T2:=T1.ex an a0;have cb:=a0 _ _ as dp.symm;have cd:lw≠d:=fun z=>by rw[z,as]at bl;cases bl
 have dn:=bn.ne_strs aC;refine⟨l3,lw,rfl,.inl ⟨⟨_,ay.of T2.a3⟩,⟨_,ay.of aC⟩,?_⟩⟩;have ez:(rooms.zip l).length=rooms.length:=by rw[oB,v,Nat.min_self]
 let ce:Nat->L2.St->Hp->Prop:=fun i σ A=>G7 fun(x7 x8:Option V)=>Hc (σ=[some (.ref p),some (.ref t),some (.ref l1),some (.ref l2),some (.ref l3),some (.ref l4),some (.ref d),x7,x8,none,none]) (A d=some (.dK (CY ((rooms.zip l).take i)))) (A lw=some (.lst (l.map V.str))) (eK A p c) (cH p H A)
 refine Eg (xs:=rooms.map V.str) (ys:=l.map V.str) (by rw[ak,ak,v]) ce
  ⟨_,_,rfl,cb,aC,bn,bi.trans a0⟩ (fun i σ A _ zq=>by obtain⟨_,_,_,_,h1,_,ex⟩:=zq;exact⟨ay.of (ex _ _ T.a3 (hp.ne_strs T.a3)),ay.of h1⟩) ?_ ?_
 ·rintro i x y σ H3 q hx hy ⟨x7,x8,rfl,G,U,a5,M⟩ hq;obtain⟨r,Y,rfl⟩:=bE hx;obtain⟨w,hw,rfl⟩:=bE hy;have hi:i<rooms.length:=(ca.mp Y).1;refine⟨q,_,rfl,bt.of aa,rfl,_,_,rfl,_,_,rfl,rfl,?_⟩;have b1:(CY ((rooms.zip l).take i)).length<ah:=by
   unfold CY;rw[ak,aQ];exact aq (by omega)
  refine⟨_,rfl,_,rfl,_,rfl,d,_,rfl,.inl ⟨_,.inr r,kp G hq,rfl,b1,rfl⟩,_,_,rfl,?_,?_,?_,?_⟩
  ·have hz:(rooms.zip l)[i]?=some (r,w):=by
    rw[List.getElem?_zip_eq_some];exact⟨Y,hw⟩
   have hn:r∉((rooms.zip l).take i).map (·.1):=by
    rw[qZ,vi v];intro z;obtain⟨j,hj⟩:=oE z;have ch:j<i:=by
     have:=(ca.mp hj).1;rw[aQ]at this;omega
    rw[List.getElem?_take_of_lt ch]at hj;have:=qF m.okR.1 hj Y;omega
   rw[aa,DN hn,take_snoc hz]
  ·rw[aj cd];exact kp U hq
  ·exact(a5.ex (ab.new hq)).upd dp dc
  ·intro b o e n;rw[aj (af e hd)];exact kp (M _ _ e n) hq
 rintro σ H3 ⟨x7,x8,rfl,G,U,a5,M⟩;rw[ak,<-ez,a_]at G;have T3:=T.ex hp M;generalize hρ:EL (rooms.zip l)=ρ;have I:rooms.map ρ=l:=by rw[<-hρ];exact AR m.okR.1 v
 have J:∀r∈rooms,cr (CY (rooms.zip l)) (.inr r:b0)=some (.str (ρ r)):=fun r Y=>by
  rw[<-hρ];exact Bb (by rw[vi v];exact Y)
 refine⟨_,rfl,l3,rfl,⟨_,ay.of T3.a3⟩,fun f hf=>?_⟩
 let cl:Nat->List V->Hp->Prop:=fun i D A=>D=((rooms.take i).map ρ).map V.str/\ab H3 A/\A f=some (.lst D)
 refine cG (xs:=rooms.map V.str) cl ⟨rfl,ab.new hf,aa⟩ (fun i D A _ zq=>by obtain⟨_,S,h'⟩:=zq;exact⟨h',ay.of (S _ _ T3.a3)⟩) ?_ ?_;rotate_left
 ·rintro i D A x' a6 hi ⟨rfl,S,f'⟩;obtain⟨r,Y,rfl⟩:=bE a6;refine gN (mq ?_);refine⟨_,rfl,_,rfl,d,.str (ρ r),rfl,.inl ⟨_,.inr r,.inl (S _ _ G),rfl,(J r (cw Y)).symm⟩,f',?_,m8 hi ⟨?_,?_,aa⟩⟩
  ·rw[ak,ak,aQ];exact aq (by omega)
  ·rw[take_snoc Y,au,au];rfl
  ·intro b o q;rw[aj (af q hf)];exact S _ _ q
 rintro D H4 ⟨rfl,S4,f4⟩;rw[ak,a_,I]at f4;have T4:=T3.same S4;have a7:=a5.ex S4;have cm:=S4 _ _ G;refine⟨_,rfl,_,rfl,.inl ⟨l3,_,rfl,.inl (ay.of T4.a3),df (m:=((rooms.map V.str).length:Nat)) a7 (by rw[ak];omega) (by rw[ak];omega) fun r H5 r0 r1 co N=>⟨_,_,rfl,rfl,?_⟩⟩⟩;rw[ak]at r1;obtain⟨n,rfl⟩:=iW r0;have T5:=T4.ex a7 N;have f5:=N _ _ f4 (a7.ne_strs f4);have cq:=N _ _ cm dp.symm;have b2:cH p H H5:=(M.trans (ab.exB S4)).trans N;have c1:fw (l.map V.str) none (some 1)=(l.take 1).map V.str:=qJ l 1;have c2:fw (l.map V.str) (some (1+(n:Int))) none=(l.drop (1+n)).map V.str:=uM l (1+n);have c3:fw (l.map V.str) (some 1) (some (1+(n:Int)))=((l.drop 1).take (1+n-1)).map V.str:=CG l (j:=1) (k:=1+n) (by omega) (by omega);refine⟨_,rfl,_,rfl,f,_,rfl,ay.of f5,fun q1 a8=>⟨_,rfl,_,rfl,_,rfl,f,_,rfl,ay.of (kp f5 a8),fun q2 a9=>⟨q1,q2,_,_,rfl,rfl,kp aa a9,aa,?_,fun q3 b3=>⟨_,rfl,_,rfl,_,rfl,_,rfl,f,_,rfl,ay.of (kp (kp (kp f5 a8) a9) b3),fun q4 b4=>⟨q3,q4,_,_,rfl,rfl,kp aa b4,aa,?_,fun q5 O=>?_⟩⟩⟩⟩⟩
 ·rw[c1,c2,ak,ak,aQ,cB];exact cN (aq (by omega))
 ·rw[c1,c2,c3,aF,ak,ak,ak,aQ,cB,aQ,cB];exact cN (aq (by omega))
 rw[c1,c2,c3]at O ⊢;have m1:(l.take 1).map V.str++(l.drop (1+n)).map V.str=(l.take 1++l.drop (1+n)).map V.str:=au.symm;have m2:(l.take 1++l.drop (1+n)).map V.str++((l.drop 1).take (1+n-1)).map V.str=(l.take 1++l.drop (1+n)++(l.drop 1).take (1+n-1)).map V.str:=au.symm;rw[m1]at O ⊢;rw[m2];have S6:=((((ab.new (o:=.lst ((l.take 1).map V.str)) a8).trans (ab.new (o:=.lst ((l.drop (1+n)).map V.str)) (by rw[<-c1];exact a9))).trans (ab.new (o:=.lst ((l.take 1++l.drop (1+n)).map V.str)) (by rw[<-c1,<-c2];exact b3))).trans (ab.new (o:=.lst (((l.drop 1).take (1+n-1)).map V.str)) (by rw[au,<-c1,<-c2];exact b4))).trans (ab.new (o:=.lst ((l.take 1++l.drop (1+n)++(l.drop 1).take (1+n-1)).map V.str)) O);have B:=w8 l n;generalize l.take 1++l.drop (1+n)++(l.drop 1).take (1+n-1)=s at S6 B O ⊢;have b5:(upd (upd (upd (upd (upd H5 q1 (.lst ((l.take 1).map V.str))) q2 (.lst ((l.drop (1+n)).map V.str))) q3 (.lst ((l.take 1++l.drop (1+n)).map V.str))) q4 (.lst (((l.drop 1).take (1+n-1)).map V.str))) q5 (.lst (s.map V.str))) q5=some (.lst (s.map V.str)):=aa;generalize(upd (upd (upd (upd (upd H5 q1 (.lst ((l.take 1).map V.str))) q2 (.lst ((l.drop (1+n)).map V.str))) q3 (.lst ((l.take 1++l.drop (1+n)).map V.str))) q4 (.lst (((l.drop 1).take (1+n-1)).map V.str))) q5 (.lst (s.map V.str)))=H6 at S6 b5 ⊢;have T6:=T5.same S6;have b6:=S6 _ _ cq;refine⟨_,rfl,l4,rfl,⟨_,ay.of T6.a4⟩,fun g hg=>?_⟩
 let cs:Nat->List V->Hp->Prop:=fun i D A=>∃us:List Addr,D=us.map V.ref/\ab H6 A/\A g=some (.lst D)/\cz A us ((ds.take i).map (tP ρ))
 refine cG (xs:=ts.map V.ref) cs ⟨[],rfl,ab.new hg,aa,.nil⟩ (fun i D A _ zq=>by obtain⟨_,_,S,h',_⟩:=zq;exact⟨h',ay.of (S _ _ T6.a4)⟩) ?_ ?_;rotate_left
 ·rintro i D A x' a6 hi ⟨us,rfl,S,g',hP⟩;obtain⟨u,hu,rfl⟩:=bF a6;obtain⟨L,b7,b8⟩:=Paired.getL T6.ds hu;obtain⟨sb,ct,c0⟩:=b8.kt (ab.kt S);have al:=cw b7;have c4:=J L.a (m.good L al).a;have c5:=J L.b (m.good L al).b;refine⟨u,_,rfl,bt.of ct,rfl,_,_,rfl,_,_,rfl,_,_,rfl,rfl,?_⟩;refine mq ?_;refine⟨_,rfl,_,rfl,d,.str (ρ L.a),rfl,.inl ⟨_,.inr L.a,.inl (S _ _ b6),rfl,c4.symm⟩,_,rfl,_,rfl,_,rfl,d,.str (ρ L.b),rfl,.inl ⟨_,.inr L.b,.inl (S _ _ b6),rfl,c5.symm⟩,(by show 3<=ah;decide),fun w hw=>⟨kp g' hw,?_,m8 hi ⟨us++[w],by rw[au];rfl,?_,aa,?_⟩⟩⟩
  ·rw[ak,Paired.length hP,ak,aQ];exact aq (by omega)
  ·intro b o q;rw[aj (af q hg)];exact kp (S _ _ q) hw
  ·rw[take_snoc b7,au];have hk:fO A (upd (upd A w (.tup [.str (ρ L.a),.ref sb,.str (ρ L.b)])) g (.lst (us.map V.ref++[.ref w]))):=(ab.kt (ab.new hw)).trans (cO (kp g' hw));refine cc (hP.kt hk) ⟨sb,?_,hk _ _ c0⟩;exact(cO (kp g' hw)) _ _ aa
 rintro D H7 ⟨us,rfl,S7,g7,hP⟩;rw[ak,Paired.length T.ds,a_]at hP;have T7:=T6.same S7;have dd:=(co.ex S6).ex S7;have dk:cH p H H7:=b2.trans (ab.exB (S6.trans S7));refine⟨_,rfl,_,rfl,_,rfl,_,rfl,(by show 4<=ah;decide),fun t' C=>k t' q5 g us s ρ _ ⟨aa,kp T7.a1 C,kp T7.a2 C,kp (S7 _ _ b5) C,kp g7 C,hP.kt (ab.kt (ab.new C))⟩ (m.renamed b9 I B) (by rw[I];exact B) (dd.ex (ab.new C)) (dk.trans (cH.new C))⟩
inductive qx (vs:List V)(H:Hp)(Q:VK)(E:XK):Prop
 |mk (p c t l1 l2 l3 l4:Addr) (ts:Ze) (J0 J2 rooms:Zb) (ds:List ai) (n:Nat):(vs=[.ref p,.ref t,.int (n:Nat)])->(eK H p c)->(eJ H t l1 l2 l3 l4 ts J0 J2 rooms ds)->(aJ J0 J2 rooms ds)->(rooms.length<=26)->(ds.length<=650)->(n<=8)->(∀(t' l3' l4':Addr) (ts':Ze) (rooms':Zb) (ds':List ai) (H':Hp),eJ H' t' l1 l2 l3' l4' ts' J0 J2 rooms' ds'->aJ J0 J2 rooms' ds'->(∀r∈rooms',∀a∈J0,gG ds' r a)->rooms'.length=rooms.length->ds'.length<=ds.length+n+4 * rooms.length->eK H' p c->cH p H H'->Q (.ref t') H')->qx  vs H Q E
theorem Fi{K:Za}{vs:List V}{H:Hp}{Q:VK}{E:XK}(h:qx vs H Q E):yZ K dg iE jy k_ qA (bq Q) (start Av vs) H:=by
 obtain⟨p,c,t,U,Y,D,l4,ts,G,I,rooms,ds,n,rfl,hp,T,m,z3,z4,zn,k⟩:=h;refine⟨_,rfl,p,c,rfl,hp,fun H1 J L=>?_⟩;have T1:=T.ex hp L;refine⟨_,rfl,_,rfl,_,_,rfl,rfl,df J (by omega) (by omega) fun x H2 x0 x1 al M=>?_⟩;have T2:=T1.ex J M;refine⟨x,rfl,by omega,by omega,?_⟩
 let an:Nat->L2.St->Hp->Prop:=fun i σ H'=>NE5 fun(C g:Addr) (j:Ze) (e:List ai) (x3:Option V)=>HV (σ=[some (.ref p),some (.ref C),some (.int (n:Nat)),x3]) (eJ H' C U Y D g j G I rooms e) (aJ G I rooms e) (e.length<=ds.length+i) (eK H' p c) (cH p H H')
 refine jo (lo:=0) (n:=x.toNat) an
  ⟨t,l4,ts,ds,_,rfl,T2,m,aB _,al,L.trans M⟩ ?_ ?_
 ·rintro i σ H3 hi ⟨C,g,j,e,x3,rfl,T3,m3,z,A,l⟩;refine⟨_,rfl,_,rfl,p,c,C,U,Y,D,g,j,G,I,rooms,e,rfl,A,T3,m3,by omega,fun t2 o q s H4 T4 m4 z4 u v=>?_⟩;exact⟨t2,o,q,s,_,rfl,T4,m4,by omega,u,l.trans v⟩
 ·rintro σ H3 ⟨C,g,j,e,x3,rfl,T3,m3,z,A,l⟩;refine⟨_,rfl,_,rfl,p,c,C,U,Y,D,g,j,G,I,rooms,e,rfl,A,T3,m3,z3,by omega,fun t2 o q s H4 T4 m4 N zw u v=>?_⟩;refine⟨_,rfl,df u (by decide) (by decide) fun w H5 w0 w1 O B=>⟨rfl,_,rfl,?_⟩⟩;have T5:=T4.ex u B;refine jO (fun _=>?_) (fun _=>?_)
  ·refine⟨_,rfl,_,rfl,p,c,t2,U,Y,D,o,q,G,I,rooms,s,rfl,O,T5,m4,z3,fun t3 as aC a0 y f H6 T6 m6 pr a4 a5=>⟨_,rfl,?_⟩⟩;refine k t3 as aC a0 y _ H6 T6 m6 (fun r hr a ha=>?_) (by rw[pr.length_eq,ak]) (by rw[ak];omega) a4 (((l.trans v).trans B).trans a5);obtain⟨r0,a6,rfl⟩:=aV.1 (pr.mem_iff.1 hr);exact(N r0 a6 a ha).ren
  ·exact⟨_,rfl,k t2 D o q rooms s H5 T5 m4 N rfl (by omega) O ((l.trans v).trans B)⟩
abbrev FPr:=List Str×List Str
open Builtin.Int (intBits)
def gS(H:Hp)(a:Addr):Hp:=fun b=>if b=a then none else H b
theorem gm(H:Hp)(a:Addr):gS H a a=none:=if_pos rfl
theorem fI{H:Hp}{a b:Addr}(h:b≠a):gS H a b=H b:=if_neg h
theorem fj{H:Hp}{a:Addr}:ab (gS H a) H:=fun b o e=>by
 by_cases c:b=a
 ·rw[c,gm]at e;cases e
 ·rw[fI c]at e;exact e
theorem FH{f H:Hp}{a:Addr}(S:ab f H)(h:f a=none):ab f (gS H a):=fun b o e=>by rw[fI (af e h)];exact S _ _ e
def cS(J2:Zb):Option Str->List Sg
 |none=>J2.map iH++[bz]
 |some a=>db a::J2.map iH
theorem pc(e:Zb)(ask:Option Str):(cS e ask).length=e.length+1:=by
 cases ask with
 |none=>unfold cS;rw[aF,ak];rfl
 |some a=>unfold cS;rw[e_,ak]

mutual
def cX(K:Za)(H:Hp):DT->V->Prop
 |.k a,v=>v=kV a
 |.t l,v=>∃b xs,v=.ref b/\az K H b xs/\TrCs K H l xs
 |.s _,_=>False
def TrCs(K:Za)(H:Hp):List DT->List V->Prop
 |[],vs=>vs=[]
 |k::r,vs=>∃v us,vs=v::us/\cX K H k v/\TrCs K H r us
end
mutual
theorem cX.kt{K:Za}{H a:Hp}(k:fO H a):∀(d:DT) (v:V),cX K H d v->cX K a d v
 |.k _,_,h=>h
 |.t l,v,h=>by
  obtain⟨b,f,e,t,r⟩:=h;exact⟨b,f,e,az.kt k t,TrCs.kt k l f r⟩
 |.s _,_,h=>h
theorem TrCs.kt{K:Za}{H f:Hp}(k:fO H f):∀(l:List DT) (a:List V),TrCs K H l a->TrCs K f l a
 |[],_,h=>h
 |d::r,a,h=>by
  obtain⟨v,g,e,t,q⟩:=h;exact⟨v,g,e,cX.kt k d v t,TrCs.kt k r g q⟩
end
mutual
theorem cX.dIn{K:Za}{H:Hp}:∀(d:DT) (v:V),cX K H d v->jr K H d v
 |.k _,_,h=>h
 |.t l,v,h=>by
  obtain⟨b,a,e,t,r⟩:=h;exact⟨b,a,e,az.sq t,TrCs.dIn l a r⟩
 |.s _,_,h=>h.elim
theorem TrCs.dIn{K:Za}{H:Hp}:∀(l:List DT) (a:List V),TrCs K H l a->DIns K H l a
 |[],_,h=>h
 |d::r,a,h=>by
  obtain⟨v,f,e,t,q⟩:=h;exact⟨v,f,e,cX.dIn d v t,TrCs.dIn r f q⟩
end
abbrev fX(K:Za)(H:Hp)(vs:List V)(ps:List DT):Prop:=Paired (fun v d=>cX K H d v) vs ps
theorem fX.kt{K:Za}{H a:Hp}{e:List V}{f:List DT}(k:fO H a)(h:fX K H e f):fX K a e f:=Paired.mapP h fun v d r=>cX.kt k d v r
theorem fX.all{K:Za}{H:Hp}:∀{e:List V}{f:List DT},fX K H e f->TrCs K H f e
 |_,_,.nil=>rfl
 |_,_,.cons a r=>⟨_,_,rfl,a,fX.all r⟩
theorem nr{K:Za}{H:Hp}(s:Str):cX K H (dE s) (.str s):=rfl
def gB:Sg:=["blame"]
def iN:Sg:=["end"]
theorem vm{K:Za}{H:Hp}{b:Addr}:∀{a:Sg},az K H b (a.map V.str)->cX K H (fu a) (.ref b):=fun{a} h=>by
 refine⟨b,_,rfl,h,?_⟩;clear h
 induction a with
 |nil=>rfl
 |cons s r e=>exact⟨_,_,rfl,nr s,e⟩
def ff(w:Str)(d:DT):DT:=.t [dE w,d]
def eA(J2:Zb):Option Str->List DT->DT
 |none,ps=>.t [dE "wait",.t (dA ff J2 (ps.take J2.length)),(ps[J2.length]?).getD (fu iN)]
 |some a,ps=>.t [dE "tell",dE a,(ps[0]?).getD (fu iN),.t (dA ff J2 (ps.drop 1))]
def dB:Nat->Nat
 |0=>1
 |d+1=>dB d+3
theorem oP{b:Nat}:∀(e:Zb) (a:List DT),(∀p∈a,p.depth<=b)->DT.depths (dA ff e a)<=b+1
 |[],_,_=>by simp[DT.depths]
 |_::_,[],_=>by simp[DT.depths]
 |w::e,p::a,h=>by
  show max (ff w p).depth (DT.depths (dA ff e a))<=b+1;have g:=oP e a fun q f=>h q (eI _ f);have i:=h p du;have j:(ff w p).depth=max 0 (max p.depth 0)+1:=rfl;omega
theorem w_{g:Zb}{a:Option Str}{f:List DT}{b:Nat}(l:1<=b)(h:∀p∈f,p.depth<=b):(eA g a f).depth<=b+3:=by
 have k:∀i:Nat,((f[i]?).getD (fu iN)).depth<=b:=fun i=>by
  cases e:f[i]? with
  |none=>show(fu iN).depth<=b;rw[bC];exact l
  |some p=>exact h p (cw e)
 cases a with
 |none =>
  have m:=oP g (f.take g.length) fun p j=>h p (g8 j);have n:=k g.length;show max 0 (max (DT.depths _+1) (max _ 0))+1<=b+3;omega
 |some a =>
  have m:=oP g (f.drop 1) fun p j=>h p (qV j);have n:=k 0;show max 0 (max 0 (max _ (max (DT.depths _+1) 0)))+1<=b+3;omega
theorem Aj:∀d,1<=dB d
 |0=>aB _
 |d+1=>by show 1<=dB d+3;omega
theorem CH{K:Za}{k:Nat}{q:List Nat}{g:TG}{r:TT}{s:TE}{σ:L2.St}{w:Hp}{Q:Hp->Prop}{l a b:Addr}{xs ys:List V}(B:xs.length<=ys.length)(Pv:Nat->List V->Hp->Prop)(C:Pv 0 [] (upd w l (.lst [])))
  (n:∀i e H,i<=xs.length->Pv i e H->H l=some (.lst e)/\ay K H a xs/\ay K H b ys) (D:∀e H,Pv xs.length e H->Q H)
  (E:∀i e H x y p,xs[i]?=some x->ys[i]?=some y->i<xs.length->Pv i e H->H p=none->g (.ref p) (cW k q σ) (upd H p (.tup [x,y])) fun σ2 G=>r σ2 G fun b z =>
   if b=true then s σ2 z fun v A=>A l=some (.lst e)/\e.length<ah/\∃h,h<xs.length-i/\Wc xs.length Pv (i+1) h (e++[v]) (upd A l (.lst (e++[v])))else ∃h,h<xs.length-i/\Wc xs.length Pv (i+1) h e z) :
  c9 k q σ (Hf K a b) g r s w l Q:=by
 refine jq xs.length Pv C (fun i e H f p=>(n i e H f p).1) (fun i e H f p=>?_) (fun e H p=>?_) fun i e H x M f p y=>?_
 ·obtain⟨_,j,m⟩:=n i e H (cN f) p;have o:i<ys.length:=by omega
  exact⟨xs,ys,xs[i],ys[i],j,m,by simp[f],by simp[o]⟩
 ·obtain⟨_,j,m⟩:=n _ e H (aB _) p;exact⟨⟨xs,ys,j,m,.inl (aB _)⟩,D e H p⟩
 ·obtain⟨_,j,m⟩:=n i e H (cN f) p;obtain⟨t,u,v,rfl,I,J,L,rfl⟩:=y;exact E i e H u v t (J xs j) (L ys m) f p I
theorem Bu{a:List V}{n:Nat}{v:V}(f:n+1=a.length)(h:a[n]?=some v):ww a (-1)=some v:=by
 have e:a=a.take n++[v]:=by rw[<-take_snoc h,f,a_]
 rw[e];exact sO _ _
theorem iA{a:Zb}{e:List DT}{d:DT}(h:e[a.length]?=some d):eA a none e=.t [dE "wait",.t (dA ff a (e.take a.length)),d]:=by
 show DT.t [_,_,(e[a.length]?).getD _]=_;rw[h];rfl
theorem iz{f:Zb}{e:List DT}{a:Str}{d:DT}(h:e[0]?=some d):eA f (some a) e=.t [dE "tell",dE a,d,.t (dA ff f (e.drop 1))]:=by
 show DT.t [_,_,(e[0]?).getD _,_]=_;rw[h];rfl
open Builtin.Int (intBits)
theorem Eb{a:Addr}{H f:Hp}(e:ab H f):ab (gS H a) (gS f a):=fun b o q=>by
 by_cases c:b=a
 ·rw[c,gm]at q;cases q
 ·rw[fI c]at q ⊢;exact e _ _ q
theorem eK.hid2{H:Hp}{p c a:Addr}(h:eK H p c)(e:p≠a)(f:c≠a):eK (gS H a) p c:=by
 obtain⟨x,r,g,i⟩:=h;refine⟨x,r,g,?_⟩;cases i;constructor<;>first|assumption|(rw[fI e];assumption)|(rw[fI f];assumption)
def BI(K:Za):TS :=
 aY (uk (ax m5 (dJ (dh K) (aw V0)) (tC (.int 4))) (ax m5 (ax (bA K) V0 (tC (.int 0))) (tC (.str "tell"))))
def CT:List Str:=["trial"]
def BH(K:Za):TS :=
 aY (uk (ax m5 (dJ (dh K) (aw V0)) (tC (.int 3))) (ax m5 (ax (bA K) V0 (tC (.int 0))) (tC (.str "wait"))))
def CS:List Str:=["trial"]
def oS(K:Za):TS :=
 aY (cD 2 [] (tV K V0) (gp K 2 (aR U0 (aR U1 (fW)))) (fV) (bb (aW (bb (ap (tC (.str "say")) (aw V0))) V1)))
def pp:List Str:=["pairs"]
def rC(K:Za)(sp_is_wait:Sp)(sp_says_and_parts:Sp)(a_HUSH:Addr)(sp_is_tell:Sp):TS :=
 ar (bU (tB (aH sp_is_tell (aw V0))) (aY (ax mH (cf (ap (bb (ap (bb (aW (tC (.str "ask")) (ax (bA K) V0 (tC (.int 1))))) (aw (ax (bA K) V0 (tC (.int 2)))))) bd)) (aH sp_says_and_parts (aw (ax (bA K) V0 (tC (.int 3))))))) (br))
 (ar (bU (tB (aH sp_is_wait (aw V0))) (aY (ax mH (aH sp_says_and_parts (aw (ax (bA K) V0 (tC (.int 1))))) (cf (ap (bb (aW (tC (.ref a_HUSH)) (ax (bA K) V0 (tC (.int 2))))) bd)))) (br))
 (aY (cf (bd))))
def sQ:List Str:=["trial"]
def rD(K:Za)(sp_signed_parts:Sp):TS :=
 ar (aM (cf (bd)) U3)
 (ar (dI (nY K (aw (aH sp_signed_parts (aw V2)))) (gp K 2 (aR U4 (aR U5 (fW)))) (ar (aM V5 (gp K 2 (aR U6 (aR U7 (fW)))))
 (bV (xu K "list" dF V3 (ap (bb (cE (ax (rV K) V0 (bb (aw V4))) (ax mH V1 (cf (aw V6))) V7)) bd)))))
 (aY V3))
def sR:List Str:=["way","story","trial","behind","number","signed","sign","part"]
def xa(K:Za)(sp_parts_behind:Sp):TS :=
 ar (aM (cf (bd)) U1)
 (ar (aM (cf (aw (bb (cE (bb (bd)) (cf (bd)) V0)))) U2)
 (ar (oY (aL (ax Ch (dJ (dh K) (aw V2)) (tC (.int 0)))) (ar (aM (zj K "list" Cf V2) (gp K 3 (aR U3 (aR U4 (aR U5 (fW))))))
 (ar (bV (xu K "list" dF V1 (aw (bb (cE V3 V4 V5)))))
 (ar (dI (HC K (aw (aH sp_parts_behind (cE V3 V4 V5)))) U6 (bV (xu K "list" dF V2 (aw V6))))
 (bU (AN (aL (ax m5 (dJ (dh K) (aw V3)) (tC (.int 8)))) (aL (ax Ch (ax dR (dJ (dh K) (aw V1)) (dJ (dh K) (aw V2))) (tC (.int 1000))))) (oZ) (br))))))
 (aY V1)))
def yB:List Str:=["trial","found","waiting","way","story","here","one"]
def lJ(K:Za)(C_Machine:Addr)(sp_Machine_says:Sp):TS :=
 aY (ax (mG K) (cD 2 [] (tV K V1) (gp K 2 (aR U0 (aR U1 (fW)))) (fV) V0) (fb C_Machine "says" sp_Machine_says [] E0 V0 bd))
def lW:List Str:=["M","pairs"]
def nv(K:Za)(a_BLAME:Addr)(a_END:Addr)(sp_is_wait:Sp)(sp_has_says_in_order:Sp)(sp_is_tell:Sp)(C_Machine:Addr)(sp_Machine_asks:Sp):TS :=
 ar (bU (tB (aH sp_is_tell (aw V1))) (aY (uk (ax (mF K false) (ax (bA K) V1 (tC (.int 1))) (fb C_Machine "asks" sp_Machine_asks [] E0 V0 bd)) (aH sp_has_says_in_order (aW V0 (ax (bA K) V1 (tC (.int 3))))))) (br))
 (ar (bU (tB (aH sp_is_wait (aw V1))) (aY (aH sp_has_says_in_order (aW V0 (ax (bA K) V1 (tC (.int 1)))))) (br))
 (aY (Hk (ax (mG K) V1 (tC (.ref a_END))) (ax (mG K) V1 (tC (.ref a_BLAME))))))
def oq:List Str:=["M","trial"]
def lK(K:Za)(sp_is_so_by_itself:Sp)(sp_with_ways:Sp):TS :=
 ar (aM (aH sp_with_ways (aw V1)) U2)
 (ar (dI (cp K V2) (gp K 3 (aR U3 (aR U4 (aR U5 (fW))))) (bU (vx (tB (aH sp_is_so_by_itself (aW V0 V5)))) (oZ) (br)))
 (aY V2))
def lX:List Str:=["M","trial","found","way","story","here"]
inductive Tr where
 |bl
 |en
 |nd (a:Option Str) (ps:List Tr)
mutual
def Tr.dt(J2:Zb):Tr->DT
 |.bl=>fu gB
 |.en=>fu iN
 |.nd a ps=>eA J2 a (Tr.dts J2 ps)
def Tr.dts(J2:Zb):List Tr->List DT
 |[]=>[]
 |t::r=>Tr.dt J2 t::Tr.dts J2 r
end
theorem Tr.dts_map(a:Zb):∀l:List Tr,Tr.dts a l=l.map (Tr.dt a)
 |[]=>rfl
 |t::r=>by rw[Tr.dts,Tr.dts_map a r];rfl
mutual
def Tr.wf(J0 J2:Zb):Tr->Prop
 |.bl=>True
 |.en=>True
 |.nd a ps=>ps.length=J2.length+1/\(∀w,a=some w->w∈J0)/\Tr.wfs J0 J2 ps
def Tr.wfs(J0 J2:Zb):List Tr->Prop
 |[]=>True
 |t::r=>Tr.wf J0 J2 t/\Tr.wfs J0 J2 r
end
theorem Tr.wfs_mem{a e:Zb}:∀{l:List Tr},Tr.wfs a e l↔∀t∈l,Tr.wf a e t
 |[]=>by simp[Tr.wfs]
 |t::r=>by
  rw[Tr.wfs,Tr.wfs_mem (l:=r)];simp
structure En where
 way:List Nat
 story:List Sg
 tr:Tr
mutual
def iq(J2:Zb)(w:List Nat)(s:List Sg):Tr->List En
 |.bl=>[⟨w,s,.bl⟩]
 |.en=>[⟨w,s,.en⟩]
 |.nd a ps=>⟨w,s,.nd a ps⟩::preEs J2 w s (cS J2 a) 0 ps
def preEs(J2:Zb)(w:List Nat)(s:List Sg)(sgs:List Sg)(i:Nat):List Tr->List En
 |[]=>[]
 |p::ps=>iq J2 (w++[i]) (s++(sgs.take 1)) p++preEs J2 w s (sgs.drop 1) (i+1) ps
end
def nU(w:List Nat)(s:List Sg)(sgs:List Sg)(i:Nat):List Tr->List En
 |[]=>[]
 |p::ps=>⟨w++[i],s++sgs.take 1,p⟩::nU w s (sgs.drop 1) (i+1) ps
def pf(J2:Zb)(e:En):List En :=
 match e.tr with
 |.nd a ps=>nU e.way e.story (cS J2 a) 0 ps
 |_=>[]
def o8(J2:Zb)(e:En):List En:=iq J2 e.way e.story e.tr
theorem rX(f:Zb)(w:List Nat)(s:List Sg):∀(e:List Tr) (a:List Sg) (i:Nat),preEs f w s a i e=(nU w s a i e).flatMap (o8 f)
 |[],_,_=>rfl
 |p::e,a,i=>by
  rw[preEs,rX f w s e];show _=List.flatMap _ (_::_);rw[List.flatMap_cons];rfl
theorem ur(f:Zb)(e:En):o8 f e=e::(pf f e).flatMap (o8 f):=by
 obtain⟨w,s,t⟩:=e;unfold o8 pf;cases t with
 |bl=>rfl
 |en=>rfl
 |nd a g =>
  show _::preEs f w s (cS f a) 0 g=_;rw[rX];rfl
theorem DD(a:Zb)(e:En):0<(o8 a e).length:=by rw[ur];exact Nat.succ_pos _
theorem xY{g j:Zb}{w:List Nat}{s:List Sg}:∀{f:List Tr}{a:List Sg}{i:Nat},(∀p∈f,Tr.wf g j p)->∀e∈nU w s a i f,Tr.wf g j e.tr
 |[],_,_,_,e,he=>by cases he
 |p::f,a,i,h,e,he=>by
  rcases cx.1 he with rfl|he
  ·exact h p du
  ·exact xY (fun q k=>h q (eI _ k)) e he
theorem FE{g J2:Zb}{e:En}(h:Tr.wf g J2 e.tr):∀k∈pf J2 e,Tr.wf g J2 k.tr:=by
 obtain⟨w,s,t⟩:=e;cases t with
 |bl=>intro k f;cases f
 |en=>intro k f;cases f
 |nd a j =>
  obtain⟨_,_,i⟩:=h;exact xY (Tr.wfs_mem.1 i)
mutual
def Tr.hgt:Tr->Nat
 |.bl=>0
 |.en=>0
 |.nd _ ps=>Tr.hgts ps+1
def Tr.hgts:List Tr->Nat
 |[]=>0
 |t::r=>max t.hgt (Tr.hgts r)
end
mutual
theorem xI(f:Zb):∀(t:Tr) (w:List Nat) (s:List Sg),∀e∈iq f w s t,e.way.length<=w.length+t.hgt
 |.bl,w,s,e,he=>by rw[bX.1 he];exact oK _ _
 |.en,w,s,e,he=>by rw[bX.1 he];exact oK _ _
 |.nd a g,w,s,e,he=>by
  rcases cx.1 he with rfl|he
  ·exact oK _ _
  ·have:=preEs_way f g w s _ 0 e he;show _<=w.length+(Tr.hgts g+1);omega
theorem preEs_way(g:Zb):∀(a:List Tr) (w:List Nat) (s f:List Sg) (i:Nat),∀e∈preEs g w s f i a,e.way.length<=w.length+1+Tr.hgts a
 |[],_,_,_,_,e,he=>by cases he
 |p::a,w,s,f,i,e,he=>by
  have h:Tr.hgts (p::a)=max p.hgt (Tr.hgts a):=rfl;rcases be.1 he with he|he
  ·have:=xI g p _ _ e he;rw[aF]at this;have j:([i]:List Nat).length=1:=rfl;omega
  ·have:=preEs_way g a w s _ (i+1) e he;omega
end
def Gb:Nat->Nat
 |0=>1
 |h+1=>1+5 * Gb h
mutual
theorem xJ{i e:Zb}(z:e.length<=4):∀(h:Nat) (t:Tr) (w:List Nat) (s:List Sg),Tr.wf i e t->t.hgt<=h->(iq e w s t).length<=Gb h
 |0,.bl,_,_,_,_=>aB _
 |0,.en,_,_,_,_=>aB _
 |0,.nd a f,_,_,_,g=>absurd g (by show ¬Tr.hgts f+1<=0;omega)
 |h+1,.bl,_,_,_,_=>by show 1<=1+_;omega
 |h+1,.en,_,_,_,_=>by show 1<=1+_;omega
 |h+1,.nd a f,w,s,j,g=>by
  obtain⟨l,_,k⟩:=j;have g:Tr.hgts f+1<=h+1:=g;have:=preEs_len z h f w s (cS e a) 0 k (by omega);show(preEs e w s (cS e a) 0 f).length+1<=1+5 * Gb h;have:f.length * Gb h<=5 * Gb h:=Nat.mul_le_mul_right _ (by omega);omega
theorem preEs_len{j f:Zb}(z:f.length<=4):∀(h:Nat) (e:List Tr) (w:List Nat) (s a:List Sg) (i:Nat),Tr.wfs j f e->Tr.hgts e<=h->(preEs f w s a i e).length<=e.length * Gb h
 |h,[],_,_,_,_,_,_=>b_ _
 |h,p::e,w,s,a,i,g,k=>by
  have l:Tr.hgts (p::e)=max p.hgt (Tr.hgts e):=rfl;have m:=xJ z h p (w++[i]) (s++a.take 1) g.1 (by omega);have n:=preEs_len z h e w s (a.drop 1) (i+1) g.2 (by omega);show(iq f (w++[i]) (s++a.take 1) p++preEs f w s (a.drop 1) (i+1) e).length<=(e.length+1) * Gb h;rw[aF,Nat.succ_mul];omega
end
theorem fX.of{K:Za}{H:Hp}:∀{e:List DT}{a:List V},TrCs K H e a->fX K H a e
 |[],a,h=>by
  have h:a=[]:=h;rw[h];exact .nil
 |p::e,a,h=>by
  obtain⟨v,i,rfl,f,g⟩:=h;exact .cons f (fX.of g)
inductive jD(K:Za)(n:Nat)(w:Str)(vs:List V)(H:Hp)(Q:VK)(E:XK):Prop
 |mk (v:V) (s:Str) (r:List DT):(vs=[v])->(cX K H (.t (dE s::r)) v)->(Q (.bl (decide (r.length+1=n) && decide (s=w))) H)->jD K n w vs H Q E
theorem Bn{a:List V}{r:List DT}{n:Nat}(h:a.length=r.length+1):decide (V.int (a.length:Nat)=V.int (n:Nat))=decide (r.length+1=n):=by
 rw[h];exact decide_eq_decide.2 ⟨fun z=>by injection z with z;omega,fun z=>by rw[z]⟩
theorem dec_str{s w:Str}:decide (V.str s=V.str w)=decide (s=w):=decide_eq_decide.2 ⟨fun z=>by injection z,fun z=>by rw[z]⟩
theorem B_{K:Za}{e:List V}{H:Hp}{Q:VK}{E:XK}(h:jD K 4 "tell" e H Q E):BI K (bq Q) (start CT e) H:=by
 obtain⟨v,s,r,rfl,⟨b,o,rfl,f,g⟩,k⟩:=h;have i:=fX.of g;have l:=Paired.length i;obtain⟨y,m,rfl,a,_⟩:=g;have a:y=V.str s:=a;subst a;refine⟨_,rfl,.inl ⟨b,_,rfl,.inr (az.sq f),rfl,_,rfl,?_⟩⟩;rw[show decide (V.int ((V.str s::m).length:Nat)=V.int 4)=decide (r.length+1=4)from Bn (n:=4) l];by_cases c:r.length+1=4
 ·rw[zzr1 c]at k ⊢;refine bx ⟨_,rfl,b,_,0,.str s,rfl,rfl,az.sq f,aG (j:=0) rfl,rfl,?_⟩;rw[dec_str];exact k
 ·rw[zzr0 c]at k ⊢;exact aU k
theorem B1{K:Za}{e:List V}{H:Hp}{Q:VK}{E:XK}(h:jD K 3 "wait" e H Q E):BH K (bq Q) (start CS e) H:=by
 obtain⟨v,s,r,rfl,⟨b,o,rfl,f,g⟩,k⟩:=h;have i:=fX.of g;have l:=Paired.length i;obtain⟨y,m,rfl,a,_⟩:=g;have a:y=V.str s:=a;subst a;refine⟨_,rfl,.inl ⟨b,_,rfl,.inr (az.sq f),rfl,_,rfl,?_⟩⟩;rw[show decide (V.int ((V.str s::m).length:Nat)=V.int 3)=decide (r.length+1=3)from Bn (n:=3) l];by_cases c:r.length+1=3
 ·rw[zzr1 c]at k ⊢;refine bx ⟨_,rfl,b,_,0,.str s,rfl,rfl,az.sq f,aG (j:=0) rfl,rfl,?_⟩;rw[dec_str];exact k
 ·rw[zzr0 c]at k ⊢;exact aU k
def FU(K:Za)(H:Hp)(q:Addr)(p:Sg×DT):Prop:=∃s v,H q=some (.tup [.ref s,v])/\az K H s (p.1.map V.str)/\cX K H p.2 v
theorem FU.kt{K:Za}{H a:Hp}{q:Addr}{p:Sg×DT}(k:fO H a)(h:FU K H q p):FU K a q p:=by
 obtain⟨s,v,e,f,g⟩:=h;exact⟨s,v,k _ _ e,az.kt k f,cX.kt k _ _ g⟩
abbrev kU(K:Za)(H:Hp)(qs:Ze)(L:List (Sg×DT)):Prop:=Paired (FU K H) qs L
theorem kU.kt{K:Za}{H a:Hp}{qs:Ze}{L:List (Sg×DT)}(k:fO H a)(h:kU K H qs L):kU K a qs L:=Paired.mapP h fun _ _ r=>r.kt k
inductive gO(K:Za)(vs:List V)(H:Hp)(Q:VK)(E:XK):Prop
 |mk (v:V) (ws:Zb) (ps:List DT):(vs=[v])->(cX K H (.t (dA ff ws ps)) v)->(ws.length=ps.length)->(ws.length<=1000)->(∀(l:Addr) (qs:Ze) (H':Hp),H' l=some (.lst (qs.map V.ref))->kU K H' qs ((ws.map iH).zip ps)->ab H H'->Q (.ref l) H')->gO K vs H Q E
theorem vR{K:Za}{O:List V}{H:Hp}{Q:VK}{E:XK}(h:gO K O H Q E):oS K (bq Q) (start pp O) H:=by
 obtain⟨v,A,T,rfl,⟨b,xs,rfl,U,hx⟩,zl,z,k⟩:=h;have Y:=fX.of hx;have hl:=Paired.length Y;rw[u4]at hl;refine⟨_,rfl,b,rfl,⟨_,az.sq U⟩,fun l m=>?_⟩
 let B:Nat->List V->Hp->Prop:=fun i n g=>∃qs:List Addr,n=qs.map V.ref/\ab H g/\g l=some (.lst n)/\kU K g qs (((A.take i).map iH).zip (T.take i))
 refine ol (xs:=xs) B ⟨[],rfl,ab.new m,aa,.nil⟩ (fun i n g _ zq=>by obtain⟨_,_,S,C,_⟩:=zq;exact⟨C,az.sq (az.kt (ab.kt S) U)⟩) ?_ ?_
 ·rintro n g ⟨qs,rfl,S,C,r⟩;have e1:xs.length=A.length:=by omega
  rw[e1,a_,zl,a_]at r;exact k l qs g C r S
 ·rintro i n a x D hi ⟨qs,rfl,S,h1,r⟩;obtain⟨d,hd⟩:∃d,T[i]?=some d:=⟨_,bY (by omega)⟩;obtain⟨w,hw⟩:∃w,A[i]?=some w:=⟨_,bY (by omega)⟩;obtain⟨y,u,s⟩:=Paired.getL Y D;rw[List.getElem?_zipWith,hw,hd]at u;injection u with u;rw[<-u]at s;obtain⟨c,al,rfl,hc,x1,an,rfl,G,j,I,rfl,J,L⟩:=s;have L:I=[]:=L;subst L;cases G;have M:=az.kt (ab.kt S) hc;refine⟨c,_,rfl,az.sq M,rfl,_,_,rfl,_,_,rfl,rfl,mq ?_⟩;refine⟨_,rfl,(by show 2<=ah;decide),fun p N=>⟨_,rfl,(by show 2<=ah;decide),fun q t=>?_⟩⟩;have S2:ab a (upd a p (.tup [.str "say",.str w])):=ab.new N;have p2:upd a p (.tup [.str "say",.str w]) p=some (.tup ((iH w).map V.str)):=aa
  change upd a p (.tup [.str "say",.str w]) q=none at t
  have S3:ab (upd a p (.tup [.str "say",.str w])) (upd (upd a p (.tup [.str "say",.str w])) q (.tup [.ref p,j])):=ab.new t;have q3:upd (upd a p (.tup [.str "say",.str w])) q (.tup [.ref p,j]) q=some (.tup [.ref p,j]):=aa;have p3:=S3 _ _ p2;have f:=S2.trans S3;have h3:=f _ _ h1;refine⟨h3,?_,m8 hi ⟨qs++[q],by rw[au];rfl,fun b o e=>?_,aa,?_⟩⟩
  ·rw[ak,Paired.length r,oB,ak,aQ];exact aq (by omega)
  ·rw[aj (af e m)];exact f _ _ (S _ _ e)
  ·have kt:fO (upd (upd a p (.tup [.str "say",.str w])) q (.tup [.ref p,j])) (upd (upd (upd a p (.tup [.str "say",.str w])) q (.tup [.ref p,j])) l (.lst (qs.map V.ref++[.ref q]))):=cO h3;rw[take_snoc hw,take_snoc hd,au,List.zip_append (by rw[ak,aQ,aQ];omega)];refine cc (kU.kt (fun b xs e=>kt _ _ (ab.kt f _ _ e)) r) ?_;exact⟨p,j,kt _ _ q3,.inl (kt _ _ p3),cX.kt (fun b xs e=>kt _ _ (ab.kt (S.trans f) _ _ e)) _ _ J⟩
def Hm(J2:Zb):Tr->List (Sg×DT)
 |.nd a ps=>(cS J2 a).zip (Tr.dts J2 ps)
 |_=>[]
def Tr.ok(J2:Zb):Tr->Prop
 |.nd _ ps=>ps.length=J2.length+1
 |_=>True
theorem Tr.wf.ok{e a:Zb}:∀{t:Tr},t.wf e a->t.ok a
 |.bl,_=>trivial
 |.en,_=>trivial
 |.nd _ _,h=>h.1
inductive lg(K:Za)(vs:List V)(H:Hp)(Q:VK)(E:XK):Prop
 |mk (v:V) (T:Tr) (J2:Zb):(vs=[v])->(cX K H (T.dt J2) v)->(T.ok J2)->(J2.length<=4)->(∀(l:Addr) (qs:Ze) (H':Hp),H' l=some (.lst (qs.map V.ref))->kU K H' qs (Hm J2 T)->ab H H'->Q (.ref l) H')->lg K vs H Q E
theorem BU{K:Za}{t:Addr}(hh:∀H,bt K H t (bz.map V.str)){vs:List V}{H:Hp}{Q:VK}{E:XK}(h:lg K vs H Q E):rC K (jD K 3 "wait") (gO K) t (jD K 4 "tell") (bq Q) (start sQ vs) H:=by
 obtain⟨v,T,o,rfl,p,ok,z4,k⟩:=h;cases T with
 |bl =>
  refine⟨_,rfl,v,"blame",[],rfl,p,_,rfl,?_⟩;refine aU ⟨_,rfl,v,"blame",[],rfl,p,_,rfl,?_⟩;refine aU ⟨(by show 0<=ah;decide),fun l A=>k l [] _ aa .nil (ab.new A)⟩
 |en =>
  refine⟨_,rfl,v,"end",[],rfl,p,_,rfl,?_⟩;refine aU ⟨_,rfl,v,"end",[],rfl,p,_,rfl,?_⟩;refine aU ⟨(by show 0<=ah;decide),fun l A=>k l [] _ aa .nil (ab.new A)⟩
 |nd a N =>
  have ok:N.length=o.length+1:=ok;have zd:(Tr.dts o N).length=o.length+1:=by rw[Tr.dts_map,ak,ok]
  have p:cX K H (eA o a (Tr.dts o N)) v:=p;have k:∀(l:Addr) (qs:Ze) (H':Hp),H' l=some (.lst (qs.map V.ref))->kU K H' qs ((cS o a).zip (Tr.dts o N))->ab H H'->Q (.ref l) H':=k;generalize Tr.dts o N=g at zd p k;cases a with
  |some a =>
   obtain⟨d0,i⟩:∃d,g[0]?=some d:=⟨_,bY (by omega)⟩;rw[iz i]at p;have ec:g=d0::g.drop 1:=by
    cases g with
    |nil=>cases i
    |cons x r=>injection i with i;rw[i];rfl
   refine⟨_,rfl,v,"tell",_,rfl,p,_,rfl,?_⟩;obtain⟨b,xs,rfl,L,x0,al,rfl,e0,x1,an,rfl,e1,f,O,rfl,e2,x3,as,rfl,e3,B⟩:=p;have B:as=[]:=B;subst B;cases e0;cases e1;refine bx ?_;refine⟨_,rfl,b,_,1,.str a,rfl,rfl,az.sq L,aG (j:=1) rfl,(by show 2<=ah;decide),fun q aC=>?_⟩;have C:ab H (upd H q (.tup [.str "ask",.str a])):=ab.new aC;have U:upd H q (.tup [.str "ask",.str a]) q=some (.tup ((db a).map V.str)):=aa;generalize upd H q (.tup [.str "ask",.str a])=m at C U ⊢;refine⟨_,rfl,b,_,2,f,rfl,rfl,az.sq (az.kt (ab.kt C) L),aG (j:=2) rfl,(by show 2<=ah;decide),fun e D=>⟨(by show 1<=ah;decide),fun s u=>?_⟩⟩;have S2:ab m (upd m e (.tup [.ref q,f])):=ab.new D;have G:upd m e (.tup [.ref q,f]) e=some (.tup [.ref q,f]):=aa
   change upd m e (.tup [.ref q,f]) s=none at u
   have Y:ab (upd m e (.tup [.ref q,f])) (upd (upd m e (.tup [.ref q,f])) s (.lst [.ref e])):=ab.new u;have w:upd (upd m e (.tup [.ref q,f])) s (.lst [.ref e]) s=some (.lst [.ref e]):=aa;have y:=Y _ _ G;have n:=S2.trans Y;generalize upd (upd m e (.tup [.ref q,f])) s (.lst [.ref e])=H3 at n w y ⊢;have z:=C.trans n;refine⟨_,rfl,b,_,3,x3,rfl,rfl,az.sq (az.kt (ab.kt z) L),aG (j:=3) rfl,x3,o,g.drop 1,rfl,cX.kt (ab.kt z) _ _ e3,by rw[cB];omega,by omega,fun l2 qs H4 h4 hq S4=>?_⟩;have zq:qs.length<=4:=by rw[Paired.length hq,oB,ak];omega
   refine⟨s,l2,_,_,rfl,rfl,S4 _ _ w,h4,by rw[ak];exact cN (aq (by show 1+_<=1000;omega)),fun l A=>?_⟩;have M:ab H4 (upd H4 l (.lst ([V.ref e]++qs.map V.ref))):=ab.new A;refine k l (e::qs) _ aa ?_ ((z.trans S4).trans M);rw[ec];have I:=S4.trans M;exact .cons ⟨q,f,I _ _ y,.inl (I _ _ (n _ _ U)),cX.kt (ab.kt (z.trans I)) _ _ e2⟩ (kU.kt (ab.kt M) hq)
  |none =>
   obtain⟨d0,i⟩:∃d,g[o.length]?=some d:=⟨_,bY (by omega)⟩;rw[iA i]at p;have ec:g=g.take o.length++[d0]:=by rw[<-take_snoc i,<-zd,a_]
   refine⟨_,rfl,v,"wait",_,rfl,p,_,rfl,?_⟩;refine aU ⟨_,rfl,v,"wait",_,rfl,p,_,rfl,?_⟩;obtain⟨b,xs,rfl,L,x0,al,rfl,e0,x1,an,rfl,e1,f,O,rfl,e2,B⟩:=p;have B:O=[]:=B;subst B;cases e0;refine bx ?_;refine⟨_,rfl,b,_,1,x1,rfl,rfl,az.sq L,aG (j:=1) rfl,x1,o,g.take o.length,rfl,e1,by rw[aQ];omega,by omega,fun l2 qs m h1 hq C=>?_⟩;have zq:qs.length<=4:=by rw[Paired.length hq,oB,ak];omega
   refine⟨_,rfl,b,_,2,f,rfl,rfl,az.sq (az.kt (ab.kt C) L),aG (j:=2) rfl,(by show 2<=ah;decide),fun e D=>⟨(by show 1<=ah;decide),fun s u=>?_⟩⟩;have S2:ab m (upd m e (.tup [.ref t,f])):=ab.new D;have G:upd m e (.tup [.ref t,f]) e=some (.tup [.ref t,f]):=aa
   change upd m e (.tup [.ref t,f]) s=none at u
   have Y:ab (upd m e (.tup [.ref t,f])) (upd (upd m e (.tup [.ref t,f])) s (.lst [.ref e])):=ab.new u;have w:upd (upd m e (.tup [.ref t,f])) s (.lst [.ref e]) s=some (.lst [.ref e]):=aa;have y:=Y _ _ G;have n:=S2.trans Y;generalize upd (upd m e (.tup [.ref t,f])) s (.lst [.ref e])=H3 at n w y ⊢;refine⟨l2,s,_,_,rfl,rfl,n _ _ h1,w,by rw[ak];exact cN (aq (by show _+1<=1000;omega)),fun l A=>?_⟩;have M:ab H3 (upd H3 l (.lst (qs.map V.ref++[.ref e]))):=ab.new A;have J:=n.trans M;refine k l (qs++[e]) _ (by rw[aa,au];rfl) ?_ (C.trans J);rw[ec];show kU K _ _ ((o.map iH++[bz]).zip _);rw[List.zip_append (by rw[ak,aQ];omega)];exact cc (kU.kt (ab.kt J) hq) ⟨t,f,M _ _ y,vk hh _,cX.kt (ab.kt (C.trans J)) _ _ e2⟩
def jd(w:List Nat):List V:=w.map fun(n:Nat)=>V.int n
def kZ(K:Za)(J2:Zb)(J:Hp)(q:Addr)(e:En):Prop:=∃(wr st:Addr) (v:V),J q=some (.tup [.ref wr,.ref st,v])/\J wr=some (.tup (jd e.way))/\dq K J st e.story/\cX K J (e.tr.dt J2) v
theorem kZ.same{K:Za}{a:Zb}{J f:Hp}{q:Addr}{e:En}(S:ab J f)(h:kZ K a J q e):kZ K a f q e:=by
 obtain⟨g,st,v,i,j,⟨k,l,m⟩,n⟩:=h;exact⟨g,st,v,S _ _ i,S _ _ j,⟨k,S _ _ l,Paired.mapP m fun _ _ r=>az.kt (ab.kt S) r⟩,cX.kt (ab.kt S) _ _ n⟩
theorem wj{K:Za}{H:Hp}{f e:Addr}{a:List Nat}{i:Nat}{R:VK}(l:H f=some (.tup (jd a)))(h:H e=some (.tup [.int (i:Nat)]))(n:a.length<=999)(k:∀(j:Addr) (g:Hp),g j=some (.tup (jd (a++[i])))->ab H g->R (.ref j) g):rV K (.ref f) (.ref e) H R:=by
 refine⟨f,e,_,_,rfl,rfl,bt.of l,bt.of h,(by intro z;cases z),?_,fun z=>?_,fun z p m=>?_⟩
 ·have:(jd a).length=a.length:=ak _;rw[this];exact cN (aq (by show _+1<=1000;omega))
 ·have:a=[]:=oC.1 z;subst this;exact k e H h (ab.refl _)
 ·refine k p _ ?_ (ab.new m);rw[aa];unfold jd;rw[au];rfl
theorem uD{w:List Nat}{s:List Sg}:∀{ps:List Tr}{sgs:List Sg}{i j:Nat}{p:Tr}{sg:Sg},ps[j]?=some p->sgs[j]?=some sg->(nU w s sgs i ps)[j]?=some ⟨w++[i+j],s++[sg],p⟩
 |[],_,_,_,_,_,h,_=>by cases h
 |p0::ps,[],_,_,_,_,_,h=>by cases h
 |p0::ps,sg0::sgs,i,0,p,sg,a,e=>by
  injection a with a;injection e with e;rw[<-a,<-e];rfl
 |p0::ps,sg0::sgs,i,j+1,p,sg,a,e=>by
  have:=uD (w:=w) (s:=s) (i:=i+1) (ps:=ps) (sgs:=sgs) (j:=j) (p:=p) (sg:=sg) a e;rw[show i+(j+1)=i+1+j by omega];exact this
theorem uC{w:List Nat}{s:List Sg}:∀{e:List Tr}{a:List Sg}{i:Nat},(nU w s a i e).length=e.length
 |[],_,_=>rfl
 |p0::e,a,i=>by
  show(nU w s (a.drop 1) (i+1) e).length+1=e.length+1;rw[uC]
theorem DW{J2:Zb}{e:En}(h:e.tr.ok J2):(pf J2 e).length=(Hm J2 e.tr).length:=by
 obtain⟨w,s,t⟩:=e;cases t with
 |bl=>rfl
 |en=>rfl
 |nd a f =>
  have h:f.length=J2.length+1:=h;show(nU w s (cS J2 a) 0 f).length=((cS J2 a).zip (Tr.dts J2 f)).length;rw[uC,oB,pc,Tr.dts_map,ak];omega
theorem DX{f:Zb}{e:En}{i:Nat}{x:Sg×DT}(h:e.tr.ok f)(g:(Hm f e.tr)[i]?=some x):∃p:Tr,(pf f e)[i]?=some ⟨e.way++[i],e.story++[x.1],p⟩/\p.dt f=x.2:=by
 obtain⟨w,s,t⟩:=e;cases t with
 |bl=>cases g
 |en=>cases g
 |nd a j =>
  have h:j.length=f.length+1:=h;have g:((cS f a).zip (Tr.dts f j))[i]?=some x:=g;rw[List.getElem?_zip_eq_some]at g;obtain⟨l,k⟩:=g;rw[Tr.dts_map,eZ]at k;obtain⟨p,m,n⟩:=Option.map_eq_some_iff.1 k;refine⟨p,?_,n⟩;have:=uD (w:=w) (s:=s) (i:=0) m l;rw[Nat.zero_add]at this;exact this
def EA(H:Hp)(c:Addr)(H' J:Hp):Prop:=(∀b o,H' b=some o->H b=none->b≠c->J b=some o)/\fO H' J
inductive lh(K:Za)(vs:List V)(H:Hp)(Q:VK)(E:XK):Prop
 |mk (wr st:Addr) (v:V) (e:En) (J2:Zb):(vs=[.ref wr,.ref st,v])->(H wr=some (.tup (jd e.way)))->(dq K H st e.story)->(cX K H (e.tr.dt J2) v)->(e.tr.ok J2)->(J2.length<=4)->(e.way.length<=900)->(e.story.length<=900) ->
  (∀(l:Addr) (qs:Ze) (H':Hp),H' l=some (.lst (qs.map V.ref))->H l=none->(∀J,EA H l H' J->Paired (kZ K J2 J) qs (pf J2 e))->ab H H'->Q (.ref l) H')->lh K vs H Q E
theorem BW{K:Za}{vs:List V}{H:Hp}{Q:VK}{E:XK}(h:lh K vs H Q E):rD K (lg K) (bq Q) (start sR vs) H:=by
 obtain⟨wr,st,v,e,J2,rfl,hw,⟨D,a0,I⟩,hv,ok,z4,zw,zs,k⟩:=h;refine⟨(by show 0<=ah;decide),fun bl l=>?_⟩;have S1:ab H (upd H bl (.lst [])):=ab.new l;have b1:upd H bl (.lst []) bl=some (.lst []):=aa;generalize upd H bl (.lst [])=H1 at S1 b1 ⊢;refine⟨_,rfl,v,e.tr,J2,rfl,cX.kt (ab.kt S1) _ _ hv,ok,z4,fun sl sq H2 f L S2=>⟨sl,rfl,⟨_,ay.of f⟩,?_⟩⟩;have w:=S1.trans S2;have b2:=S2 _ _ b1;have a4:sl≠bl∨sq=[]:=by
  by_cases c:sl=bl
  ·right
   rw[c,b2]at f;injection f with f;injection f with f;exact oC.1 f.symm
  ·exact .inl c
 have kl:=DW (J2:=J2) (e:=e) ok;have ql:=Paired.length L;have q5:(Hm J2 e.tr).length<=5:=by
  generalize e.tr=T at ok;cases T with
  |bl=>exact b_ _
  |en=>exact b_ _
  |nd a ps=>show((cS J2 a).zip _).length<=5;rw[oB,pc];omega
 let a5:Nat->L2.St->Hp->Prop:=fun i σ H'=>∃(qs:Ze) (x4 x5 x6 x7:Option V),σ=[some (.ref wr),some (.ref st),some v,some (.ref bl),x4,x5,x6,x7]/\H' bl=some (.lst (qs.map V.ref))/\qs.length=i/\(∀b o,H2 b=some o->b≠bl->H' b=some o)/\∀J,EA H bl H' J->Paired (kZ K J2 J) qs ((pf J2 e).take i)
 refine ig (xs:=sq.map V.ref) a5
  ⟨[],_,_,_,_,rfl,b2,rfl,fun _ _ q _=>q,fun J _=>.nil⟩ (fun i σ H' hi ⟨qs,_,_,_,_,_,u,M,ex,_⟩=>?_) ?_ ?_
 ·rcases a4 with n|n
  ·exact ay.of (ex _ _ f n)
  ·rw[n]at hi f ⊢;by_cases c:sl=bl
   ·have:qs=[]:=by cases qs with|nil=>rfl|cons a r=>exact absurd hi (by rw[<-M];show ¬_<=0;simp)
    rw[this]at u;rw[c];exact ay.of u
   ·exact ay.of (ex _ _ f c)
 ·rintro i x σ m p hi ⟨qs,x4,x5,x6,x7,rfl,u,M,ex,hk⟩ hp;obtain⟨q,hq,rfl⟩:=bF hi;obtain⟨y,hy,s,pv,a6,hs,a7⟩:=Paired.getL L hq;obtain⟨T,hT,eT⟩:=DX ok hy;have il:i<(Hm J2 e.tr).length:=(ca.1 hy).1;have nb:∀{b xs},H2 b=some (.tup xs)->m b=some (.tup xs):=fun{b xs} q=>ex _ _ q fun z=>by rw[z,b2]at q;cases q
  have S4:ab m (upd m p (.tup [.int (i:Nat),.ref q])):=ab.new hp;have p4:upd m p (.tup [.int (i:Nat),.ref q]) p=some (.tup [.int (i:Nat),.ref q]):=aa;generalize upd m p (.tup [.int (i:Nat),.ref q])=H4 at S4 p4 ⊢;refine⟨p,_,rfl,bt.of p4,rfl,_,_,rfl,_,_,rfl,rfl,?_⟩;refine⟨_,rfl,q,_,rfl,bt.of (S4 _ _ (nb a6)),rfl,_,_,rfl,_,_,rfl,rfl,?_⟩;refine⟨_,rfl,.inl ⟨rfl,_,ay.of (S4 _ _ u)⟩,_,rfl,_,rfl,(by show 1<=ah;decide),fun t1 a8=>?_⟩;have S5:ab H4 (upd H4 t1 (.tup [.int (i:Nat)])):=ab.new a8;have t5:upd H4 t1 (.tup [.int (i:Nat)]) t1=some (.tup [.int (i:Nat)]):=aa;generalize upd H4 t1 (.tup [.int (i:Nat)])=H5 at S5 t5 ⊢;have N:=S4.trans S5;have A:∀{b o},H b=some o->m b=some o:=fun{b o} q=>ex _ _ (w _ _ q) (af q l);refine wj (N _ _ (A hw)) t5 (by omega) fun O H6 a9 S6=>?_;have bi:=N.trans S6;refine⟨_,rfl,_,rfl,(by show 1<=ah;decide),fun U bn=>?_⟩;have S7:ab H6 (upd H6 U (.lst [.ref s])):=ab.new bn;have Y:upd H6 U (.lst [.ref s]) U=some (.lst [.ref s]):=aa;generalize upd H6 U (.lst [.ref s])=H7 at S7 Y ⊢;have t:=bi.trans S7;have gl:D.length=e.story.length:=Paired.length I;refine⟨st,U,_,_,rfl,rfl,t _ _ (A a0),Y,by rw[ak];exact cN (aq (by show _+1<=1000;omega)),fun g B=>?_⟩;have S8:ab H7 (upd H7 g (.lst (D.map V.ref++[.ref s]))):=ab.new B;have al:upd H7 g (.lst (D.map V.ref++[.ref s])) g=some (.lst ((D++[s]).map V.ref)):=by rw[aa,au];rfl
  have b3:H g=none:=by
   cases c:H g with
   |none=>rfl
   |some o=>have:=t _ _ (A c);rw[B]at this;cases this
  generalize upd H7 g (.lst (D.map V.ref++[.ref s]))=H8 at S8 al ⊢;have b4:=t.trans S8;refine⟨_,rfl,(by show 3<=ah;decide),fun G b5=>?_⟩;have S9:ab H8 (upd H8 G (.tup [.ref O,.ref g,pv])):=ab.new b5;have an:upd H8 G (.tup [.ref O,.ref g,pv]) G=some (.tup [.ref O,.ref g,pv]):=aa;generalize upd H8 G (.tup [.ref O,.ref g,pv])=H9 at S9 an ⊢;have j:=b4.trans S9;have as:=j _ _ u;have aC:g≠bl:=fun z=>by have:=t _ _ u;rw[<-z,B]at this;cases this
  have b6:fO H9 (upd H9 bl (.lst (qs.map V.ref++[.ref G]))):=cO as;refine⟨bl,_,_,rfl,rfl,as,by rw[ak,M];exact aq (by omega),qs++[G],_,_,_,_,rfl,by rw[aa,au];rfl,by rw[aF,M];rfl,fun b o q n=>?_,fun J nj=>?_⟩
  ·rw[aj n];exact j _ _ (ex _ _ q n)
  ·have kj:fO H9 J:=fun b xs q=>nj.2 _ _ (b6 _ _ q);have b7:EA H bl m J:=⟨fun b o q n1 n2=>nj.1 b o (by rw[aj n2];exact j _ _ q) n1 n2,fun b xs q=>kj _ _ (ab.kt j _ _ q)⟩;rw[take_snoc hT];refine cc (hk J b7) ?_;have C:fO H2 J:=fun b xs q=>kj _ _ (ab.kt j _ _ (nb q));refine⟨O,g,pv,kj _ _ an,kj _ _ (S9 _ _ (S8 _ _ (S7 _ _ a9))),⟨D++[s],nj.1 g _ (by rw[aj aC];exact S9 _ _ al) b3 aC,?_⟩,?_⟩
   ·exact cc (Paired.mapP I fun _ _ r=>az.kt (fun b xs q=>C _ _ (ab.kt w _ _ q)) r) (az.kt C hs)
   ·show cX K J (T.dt J2) pv;rw[eT];exact cX.kt C _ _ a7
 ·rintro σ m ⟨qs,x4,x5,x6,x7,rfl,u,M,ex,hk⟩;rw[ak,ql,<-kl,a_]at hk;exact⟨_,rfl,k bl qs m u l hk fun b o q=>ex _ _ (w _ _ q) (af q l)⟩
def dL(H:Hp)(f w:Addr):Hp:=fun b=>if b=f∨b=w then none else H b
theorem nZ{H:Hp}{f w b:Addr}(a:b≠f)(e:b≠w):dL H f w b=H b:=if_neg (by rintro(z|z)<;>contradiction)
theorem uG{H:Hp}{f w b:Addr}{o:HO}(h:dL H f w b=some o):b≠f/\b≠w/\H b=some o:=by
 unfold dL at h;split at h
 ·cases h
 ·next c=>exact⟨fun z=>c (.inl z),fun z=>c (.inr z),h⟩
theorem lF{H:Hp}{f w:Addr}:ab (dL H f w) H:=fun b o e=>(uG e).2.2
theorem Bi{H a:Hp}{f w:Addr}(S:ab H a):ab (dL H f w) (dL a f w):=fun b o e=>by
 obtain⟨g,h,i⟩:=uG e;rw[nZ g h];exact S _ _ i
theorem Cy{H:Hp}{f w:Addr}{o:HO}:dL (upd H f o) f w=dL H f w:=funext fun b=>by
 unfold dL;split
 ·rfl
 ·next c=>exact aj fun z=>c (.inl z)
theorem uF{H:Hp}{f w:Addr}{o:HO}:dL (upd H w o) f w=dL H f w:=funext fun b=>by
 unfold dL;split
 ·rfl
 ·next c=>exact aj fun z=>c (.inr z)
theorem EnAts.same{K:Za}{a:Zb}{J e:Hp}{qs:Ze}{L:List En}(S:ab J e)(h:Paired (kZ K a J) qs L):Paired (kZ K a e) qs L:=Paired.mapP h fun _ _ r=>r.same S
theorem yf{J2:Zb}:∀L:List En,L.length<=(L.flatMap (o8 J2)).length
 |[]=>aB _
 |e::r=>by
  rw[List.flatMap_cons,aF,e_];have:=DD J2 e;have:=yf (J2:=J2) r;omega
theorem pS{w:List Nat}{s:List Sg}(h:s.length<=w.length):∀{f:List Tr}{a:List Sg}{i:Nat},∀e∈nU w s a i f,e.story.length<=e.way.length
 |[],_,_,e,he=>by cases he
 |p::f,a,i,e,he=>by
  rcases cx.1 he with rfl|he
  ·show(s++a.take 1).length<=(w++[i]).length;rw[aF,aF,aQ];have:([i]:List Nat).length=1:=rfl;omega
  ·exact pS h e he
theorem z7{g:Zb}{e:En}(h:e.story.length<=e.way.length):∀k∈pf g e,k.story.length<=k.way.length:=by
 obtain⟨w,s,t⟩:=e;cases t with
 |bl=>intro k f;cases f
 |en=>intro k f;cases f
 |nd a i=>exact pS h
inductive iC(K:Za)(vs:List V)(H:Hp)(Q:VK)(E:XK):Prop
 |mk (v:V) (T:Tr) (J0 J2:Zb):(vs=[v])->(cX K H (T.dt J2) v)->(T.wf J0 J2)->(J2.length<=4)->((iq J2 [] [] T).length<=1000)->(∀e∈iq J2 [] [] T,e.way.length<8) ->
  (∀(l:Addr) (qs:Ze) (H':Hp),H' l=some (.lst (qs.map V.ref))->Paired (kZ K J2 H') qs (iq J2 [] [] T)->(∀e∈iq J2 [] [] T,e.tr.wf J0 J2)->ab H H'->Q (.ref l) H')->iC K vs H Q E
theorem xz{K:Za}{vs:List V}{H:Hp}{Q:VK}{E:XK}(h:iC K vs H Q E):xa K (lh K) (bq Q) (start yB vs) H:=by
 obtain⟨v,T,J0,J2,rfl,hv,wf,z4,zp,zw,k⟩:=h;refine⟨(by show 0<=ah;decide),fun f bn=>?_⟩;have S1:ab H (upd H f (.lst [])):=ab.new bn;have f1:upd H f (.lst []) f=some (.lst []):=aa;generalize upd H f (.lst [])=H1 at S1 f1 ⊢;refine⟨(by show 0<=ah;decide),fun D c2=>?_⟩;have S2:ab H1 (upd H1 D (.tup [])):=ab.new c2;have w2:upd H1 D (.tup []) D=some (.tup (jd [])):=aa;generalize upd H1 D (.tup [])=H2 at S2 w2 ⊢;refine⟨(by show 0<=ah;decide),fun st cb=>?_⟩;have S3:ab H2 (upd H2 st (.lst [])):=ab.new cb;have s3:upd H2 st (.lst []) st=some (.lst (([]:Ze).map V.ref)):=aa;generalize upd H2 st (.lst [])=H3 at S3 s3 ⊢;refine⟨_,rfl,(by show 3<=ah;decide),fun C c3=>⟨(by show 1<=ah;decide),fun a J=>?_⟩⟩;have S4:ab H3 (upd H3 C (.tup [.ref D,.ref st,v])):=ab.new c3;have q4:upd H3 C (.tup [.ref D,.ref st,v]) C=some (.tup [.ref D,.ref st,v]):=aa
 change upd H3 C (.tup [.ref D,.ref st,v]) a=none at J
 have S5:ab (upd H3 C (.tup [.ref D,.ref st,v])) (upd (upd H3 C (.tup [.ref D,.ref st,v])) a (.lst [.ref C])):=ab.new J;have l5:upd (upd H3 C (.tup [.ref D,.ref st,v])) a (.lst [.ref C]) a=some (.lst (([C]:Ze).map V.ref)):=aa;have c4:st≠f:=(af (S2 _ _ f1) cb).symm;have c5:st≠a:=af (S4 _ _ s3) J;have O:f≠a:=af (S4 _ _ (S3 _ _ (S2 _ _ f1))) J;have cd:H a=none:=(S1.trans (S2.trans (S3.trans S4))).free J;have f5:=S5 _ _ (S4 _ _ (S3 _ _ (S2 _ _ f1)));have s5:=S5 _ _ (S4 _ _ s3);have w5:=S5 _ _ (S4 _ _ (S3 _ _ w2));have q5:=S5 _ _ q4;have a6:ab H _:=S1.trans (S2.trans (S3.trans (S4.trans S5)));generalize upd (upd H3 C (.tup [.ref D,.ref st,v])) a (.lst [.ref C])=H5 at a6 l5 f5 s5 w5 q5 ⊢;have ce:∀{G:Hp}{xs ys:List V},G f=some (.lst xs)->G a=some (.lst ys)->fO G (dL G f a):=fun{G xs ys} e1 e2 b zs q=>by
  rw[nZ (fun z=>by rw[z,e1]at q;cases q) (fun z=>by rw[z,e2]at q;cases q)];exact q
 have a7:=ce f5 l5;have dc:kZ K J2 (dL H5 f a) C ⟨[],[],T⟩:=⟨D,st,v,a7 _ _ q5,a7 _ _ w5,⟨[],by rw[nZ c4 c5];exact s5,.nil⟩,cX.kt (fun b xs q=>a7 _ _ (ab.kt a6 _ _ q)) _ _ hv⟩;refine⟨fun m σ G=>∃(s A:Ze) (F W:List En) (x3 x4 x5 N:Option V),σ=[some v,some (.ref f),some (.ref a),x3,x4,x5,N]/\G f=some (.lst (s.map V.ref))/\G a=some (.lst (A.map V.ref))/\Paired (kZ K J2 (dL G f a)) s F/\Paired (kZ K J2 (dL G f a)) A W/\F++W.reverse.flatMap (o8 J2)=iq J2 [] [] T/\m=(W.reverse.flatMap (o8 J2)).length/\(∀e∈W,e.tr.wf J0 J2/\e.story.length<=e.way.length)/\(∀e∈F,e.tr.wf J0 J2)/\ab H G,
  ⟨_,[],[C],[],[⟨[],[],T⟩],_,_,_,_,rfl,f5,l5,.nil,.cons dc .nil,by show _++List.flatMap _ [_]=_;rw[List.nil_append,List.flatMap_singleton];rfl,rfl,fun e he=>?_,fun e he=>(by cases he),a6⟩,?_⟩
 ·rw[bX.1 he];exact⟨wf,aB _⟩
 rintro m σ G ⟨s,A,F,W,x3,x4,x5,N,rfl,gf,gw,hF,hW,eq,em,oW,oF,SG⟩;have lw:=Paired.length hW;have lf:=Paired.length hF;refine⟨_,rfl,.inl ⟨a,_,rfl,.inl (ay.of gw),_,_,rfl,rfl,_,rfl,?_⟩⟩;rw[ak];rcases List.eq_nil_or_concat W with e0|⟨B,e,e1⟩
 ·rw[e0]at lw;rw[zzr0 (by show ¬(0:Int)<(A.length:Nat);rw[lw];decide)];refine aU ⟨_,rfl,?_⟩;rw[e0]at eq;have eq:F++[]=_:=eq;rw[f6]at eq;rw[eq]at hF oF;exact k f s G gf (EnAts.same lF hF) oF SG
 rw[List.concat_eq_append]at e1;subst e1;rw[zzr1 (by show(0:Int)<(A.length:Nat);rw[lw,aF];show(0:Int)<((B.length+1:Nat));omega)];refine bx ?_;obtain⟨q,hq,ea⟩:=Paired.get (i:=B.length) (y:=e) hW (by rw[m9 (aB _),mh];rfl);have dd:A.length=B.length+1:=by rw[lw,aF];rfl
 have ch:A=A.take B.length++[q]:=by rw[<-take_snoc hq,<-dd,a_]
 have U:Paired (kZ K J2 (dL G f a)) (A.take B.length) B:=by
  have:=Paired.takeP B.length hW;rw[List.take_left' rfl]at this;exact this
 generalize A.take B.length=j at ch U;subst ch;obtain⟨oe,se⟩:=oW e (c_ _ (bX.2 rfl));obtain⟨t,u,v1,a1,a2,a3,a4⟩:=id ea;have a8:(B++[e]).reverse.flatMap (o8 J2)=e::((pf J2 e)++B.reverse).flatMap (o8 J2):=by
  rw[qQ];show List.flatMap _ (e::B.reverse)=_;rw[List.flatMap_cons,ur,List.flatMap_append];rfl
 rw[a8]at eq em;have dk:e∈iq J2 [] [] T:=by rw[<-eq];exact c_ _ du
 have we:=zw e dk;have d2:F.length+1+((pf J2 e).length+B.length)<=1000:=by
  have h1:(F++e::((pf J2 e)++B.reverse).flatMap (o8 J2)).length<=1000:=by rw[eq];exact zp
  have h2:=yf (J2:=J2) ((pf J2 e)++B.reverse);rw[aF,oM]at h2;rw[aF,e_]at h1;omega
 refine⟨fun σ' w=>∃(s A:Ze) (F W:List En) (x3 x4 x5 N:Option V),σ'=[some v,some (.ref f),some (.ref a),x3,x4,x5,N]/\w f=some (.lst (s.map V.ref))/\w a=some (.lst (A.map V.ref))/\Paired (kZ K J2 (dL w f a)) s F/\Paired (kZ K J2 (dL w f a)) A W/\F++W.reverse.flatMap (o8 J2)=iq J2 [] [] T/\(W.reverse.flatMap (o8 J2)).length<m/\(∀e∈W,e.tr.wf J0 J2/\e.story.length<=e.way.length)/\(∀e∈F,e.tr.wf J0 J2)/\ab H w,?_,?_⟩
 ·rintro σ' w ⟨s,A,F,W,x3,x4,x5,N,rfl,b1,b2,b3,b4,b5,b6,b7,b8,b9⟩;exact⟨_,b6,s,A,F,W,x3,x4,x5,N,rfl,b1,b2,b3,b4,b5,rfl,b7,b8,b9⟩
 refine⟨_,rfl,.inl ⟨rfl,_,ay.of gw⟩,a,_,.ref q,rfl,rfl,gw,?_,?_⟩
 ·rw[au,aF,m9 (by show _<=_+1-1;omega)];show[V.ref q][_+1-1-_]?=_;rw[u2,mh];rfl
 have dm:((j++[q]).map V.ref).dropLast=j.map V.ref:=by
  rw[au];exact uZ
 rw[dm];have cl:f≠a:=O;have a9:upd G a (.lst (j.map V.ref)) a=some (.lst (j.map V.ref)):=aa;have Y:upd G a (.lst (j.map V.ref)) f=some (.lst (s.map V.ref)):=by rw[aj O];exact gf
 have J1:dL (upd G a (.lst (j.map V.ref))) f a=dL G f a:=uF;have cm:ab H (upd G a (.lst (j.map V.ref))):=fun b o q=>by rw[aj (af q cd)];exact SG _ _ q
 generalize upd G a (.lst (j.map V.ref))=G1 at a9 Y J1 cm ⊢;rw[<-J1]at hF U ea a1 a2 a3 a4;have b1:=lF _ _ a1;refine⟨q,_,rfl,bt.of b1,rfl,_,_,rfl,_,_,rfl,_,_,rfl,rfl,?_⟩;refine⟨_,rfl,.inl ⟨rfl,_,ay.of Y⟩,_,rfl,_,rfl,_,rfl,(by show 3<=ah;decide),fun p hp=>?_⟩;have L:ab G1 (upd G1 p (.tup [.ref t,.ref u,v1])):=ab.new hp;have p2:upd G1 p (.tup [.ref t,.ref u,v1]) p=some (.tup [.ref t,.ref u,v1]):=aa;have dn:p≠f:=(af Y hp).symm;have dp:p≠a:=(af a9 hp).symm;generalize upd G1 p (.tup [.ref t,.ref u,v1])=G2 at L p2 ⊢;have dr:=L _ _ Y;have ds:=L _ _ a9;refine⟨f,_,_,rfl,rfl,dr,by rw[ak,lf];exact aq (by omega),?_⟩;have al:upd G2 f (.lst (s.map V.ref++[.ref p])) f=some (.lst ((s++[p]).map V.ref)):=by rw[aa,au];rfl
 have an:upd G2 f (.lst (s.map V.ref++[.ref p])) a=some (.lst (j.map V.ref)):=by rw[aj O.symm];exact ds
 have J3:dL (upd G2 f (.lst (s.map V.ref++[.ref p]))) f a=dL G2 f a:=Cy;have co:ab H (upd G2 f (.lst (s.map V.ref++[.ref p]))):=fun b o q=>by rw[aj (af q bn)];exact L _ _ (cm _ _ q)
 generalize upd G2 f (.lst (s.map V.ref++[.ref p]))=G3 at al an J3 co ⊢;have g:ab (dL G1 f a) (dL G3 f a):=by rw[J3];exact Bi L
 have ep:kZ K J2 (dL G3 f a) p e:=by
  have:=ea.same g;obtain⟨bi,h1,h2⟩:=a3;exact⟨t,u,v1,by rw[J3,nZ dn dp];exact p2,g _ _ a2,⟨bi,g _ _ h1,Paired.mapP h2 fun _ _ r=>az.kt (ab.kt g) r⟩,cX.kt (ab.kt g) _ _ a4⟩
 have dx:=EnAts.same g hF;have dy:=EnAts.same g U;have as:ab (dL G1 f a) G3:=g.trans lF;have dK:dq K G3 u e.story:=by
  obtain⟨bi,h1,h2⟩:=a3;exact⟨bi,as _ _ h1,Paired.mapP h2 fun _ _ r=>az.kt (ab.kt as) r⟩
 refine⟨_,rfl,_,rfl,_,rfl,t,u,v1,e,J2,rfl,as _ _ a2,dK,cX.kt (ab.kt as) _ _ a4,oe.ok,z4,by omega,by omega,fun l qs G4 hl cq hk aC=>⟨l,_,rfl,ay.of hl,?_⟩⟩;have cs:=aC _ _ al;have ct:=aC _ _ an;have d3:l≠f:=(af al cq).symm;have cl:l≠a:=(af an cq).symm;have M:=hk (dL G4 f a) ⟨fun b o q n1 n2=>by rw[nZ (fun z=>by rw[z,al]at n1;cases n1) (fun z=>by rw[z,an]at n1;cases n1)];exact q,ce cs ct⟩;have a5:ab (dL G3 f a) (dL G4 f a):=Bi aC;have lq:=Paired.length M;have d4:=Paired.length U
 let dT:Nat->L2.St->Hp->Prop:=fun i σ' w=>∃N:Option V,σ'=[some v,some (.ref f),some (.ref a),some (.ref t),some (.ref u),some v1,N]/\w a=some (.lst ((j++qs.reverse.take i).map V.ref))/\(∀b o,G4 b=some o->b≠a->w b=some o)/\dL w f a=dL G4 f a
 refine FL (xs:=qs.map V.ref) dT
  ⟨_,rfl,by rw[qR,f6];exact ct,fun _ _ q _=>q,rfl⟩ (fun i σ' w _ zq=>by obtain⟨_,_,_,ex,_⟩:=zq;exact ay.of (ex _ _ hl cl)) ?_ ?_
 ·rintro i x σ' w hx hi ⟨N,rfl,I,a0,J'⟩;rw[ak]at hx hi;obtain⟨y,hy,rfl⟩:=bF hx;have c0:qs.reverse[i]?=some y:=by rw[List.getElem?_reverse hi];exact hy
  refine⟨_,rfl,.inl ⟨rfl,_,ay.of I⟩,_,rfl,a,_,_,rfl,rfl,I,?_,_,rfl,?_,fun b o q n=>?_,?_⟩
  ·rw[ak,aF,aQ,oM];exact aq (by omega)
  ·rw[aa,take_snoc c0,<-cA,au (l₂:=[y])];rfl
  ·rw[aj n];exact a0 _ _ q n
  ·rw[uF];exact J'
 ·rintro σ' w ⟨N,rfl,I,a0,J'⟩;rw[ak,<-oM,a_]at I;have c1:=a0 _ _ cs O;have dV:ab (dL G1 f a) (dL w f a):=by rw[J'];exact g.trans a5
  have d0:=lF _ _ (dV _ _ a2);have d1:ab H w:=fun b o q=>a0 _ _ (aC _ _ (co _ _ q)) (af q cd);refine⟨_,rfl,.inl ⟨t,_,rfl,.inr (bt.of d0),rfl,_,rfl,?_⟩⟩;have ew:(jd e.way).length=e.way.length:=ak _;rw[ew,zzr0 (by intro z;injection z with z;omega)];refine aU ⟨_,rfl,.inl ⟨f,_,rfl,.inl (ay.of c1),_,rfl,.inl ⟨a,_,rfl,.inl (ay.of I),_,_,rfl,rfl,_,_,rfl,rfl,_,rfl,?_⟩⟩⟩;rw[ak,ak,aF,aF,oM];rw[zzr0 (by show ¬(1000:Int)<((s.length+1:Nat):Int)+((j.length+qs.length:Nat):Int);omega)];refine aU ?_;have bl:ab (dL G3 f a) (dL w f a):=by rw[J'];exact a5
  refine⟨s++[p],j++qs.reverse,F++[e],B++(pf J2 e).reverse,_,_,_,_,rfl,c1,I,cc (EnAts.same bl dx) (ep.same bl),Paired.app (EnAts.same bl dy) (Paired.rev (by rw[J'];exact M)),?_,?_,fun x hx=>?_,fun x hx=>?_,d1⟩
  ·rw[qQ,List.reverse_reverse,cA];exact eq
  ·rw[qQ,List.reverse_reverse,em];exact wN _
  ·rcases be.1 hx with hx|hx
   ·exact oW x (da _ hx)
   ·exact⟨FE oe x (List.mem_reverse.1 hx),z7 se x (List.mem_reverse.1 hx)⟩
  ·rcases be.1 hx with hx|hx
   ·exact oF x hx
   ·rw[bX.1 hx];exact oe
theorem nM{K:Za}{H:Hp}:∀a:List Str,DIns K H (a.map dE) (a.map V.str)
 |[]=>rfl
 |w::a=>⟨_,_,rfl,rfl,nM a⟩
theorem jG:∀a:List Str,DT.depths (a.map dE)=0
 |[]=>rfl
 |w::a=>by
  show max 0 (DT.depths (a.map dE))=0;rw[jG a];rfl
inductive jE(K:Za)(C:Addr)(vs:List V)(H:Hp)(Q:VK)(E:XK):Prop
 |mk (M:Addr) (v:V) (ps:List DT) (J0 J2 rooms:Zb) (ds:List ai):(vs=[.ref M,v])->(bD C H M J0 J2 rooms ds)->(cX K H (.t (dA ff J2 ps)) v)->(J2.length=ps.length)->(∀H',ab H H'->Q (.bl true) H')->jE K C vs H Q E
theorem zN{K:Za}{C:Addr}{G:List V}{H:Hp}{Q:VK}{E:XK}(h:jE K C G H Q E):lJ K C (nI C) (bq Q) (start lW G) H:=by
 obtain⟨M,v,N,O,a,rooms,T,rfl,r,⟨b,xs,rfl,I,U⟩,zl,k⟩:=h;have z4:=r.ok.says4;have J:=fX.of U;have Y:=Paired.length J;rw[u4]at Y;refine⟨_,rfl,b,rfl,⟨_,az.sq I⟩,fun l g=>?_⟩
 let t:Nat->List V->Hp->Prop:=fun i j u=>j=(a.take i).map V.str/\ab H u/\u l=some (.lst j)
 refine ol (xs:=xs) t ⟨rfl,ab.new g,aa⟩ (fun i j u _ zq=>by obtain⟨_,S,h'⟩:=zq;exact⟨h',az.sq (az.kt (ab.kt S) I)⟩) ?_ ?_
 ·rintro j z ⟨rfl,S,n⟩;have e1:xs.length=a.length:=by omega
  rw[e1,a_]at n;obtain⟨dm,fm,o1,o2,lv,al,g1,a1,a2,_⟩:=vL (r.same S);refine⟨_,rfl,M,dm,fm,rfl,g1,a2,M,O,a,rooms,T,rfl,r.same S,fun w p=>?_⟩;have L:ab z (upd z w (.lst (a.map V.str))):=ab.new p;refine⟨.s (a.map dE),.s (a.map dE),⟨l,_,rfl,ay.of (L _ _ n),nM a⟩,⟨w,_,rfl,ay.of aa,nM a⟩,?_,?_,?_⟩
  ·show DT.depths _+1<=8;rw[jG];decide
  ·show DT.depths _+1<=8;rw[jG];decide
  ·rw[zzr1 rfl];exact k _ (S.trans L)
 ·rintro i j z x A hi ⟨rfl,S,n⟩;obtain⟨d,hd⟩:∃d,N[i]?=some d:=⟨_,bY (by omega)⟩;obtain⟨w,p⟩:∃w,a[i]?=some w:=⟨_,bY (by omega)⟩;obtain⟨y,q,m⟩:=Paired.getL J A;rw[List.getElem?_zipWith,p,hd]at q;injection q with q;rw[<-q]at m;obtain⟨c,an,rfl,hc,x1,as,rfl,f,x2,B,rfl,aC,D⟩:=m;have D:B=[]:=D;subst D;have f:x1=V.str w:=f;subst f;refine⟨c,_,rfl,az.sq (az.kt (ab.kt S) hc),rfl,_,_,rfl,_,_,rfl,rfl,mq ?_⟩;refine⟨_,rfl,n,?_,m8 hi ⟨by rw[take_snoc p,au];rfl,fun b o e=>?_,aa⟩⟩
  ·rw[ak,aQ];exact aq (by omega)
  ·rw[aj (af e g)];exact S _ _ e
inductive qy(K:Za)(C:Addr)(vs:List V)(H:Hp)(Q:VK)(E:XK):Prop
 |mk (M:Addr) (v:V) (T:Tr) (J0 J2 rooms:Zb) (ds:List ai):(vs=[.ref M,v])->(bD C H M J0 J2 rooms ds)->(cX K H (T.dt J2) v)->(T.wf J0 J2)->(∀H',ab H H'->Q (.bl true) H')->qy K C vs H Q E
theorem Fj{K:Za}{C bl en:Addr}(J:∀H,bt K H bl (gB.map V.str))(D:∀H,bt K H en (iN.map V.str)){G:List V}{H:Hp}{Q:VK}{E:XK}(h:qy K C G H Q E):nv K bl en (jD K 3 "wait") (jE K C) (jD K 4 "tell") C (ln C) (bq Q) (start oq G) H:=by
 obtain⟨M,v,T,g,f,rooms,t,rfl,n,e,wf,k⟩:=h;have z4:=n.ok.says4;cases T with
 |bl =>
  refine⟨_,rfl,v,"blame",[],rfl,e,_,rfl,?_⟩;refine aU ⟨_,rfl,v,"blame",[],rfl,e,_,rfl,?_⟩;refine aU ⟨_,rfl,fu gB,fu iN,cX.dIn _ _ e,aS (D H),by rw[bC];decide,by rw[bC];decide,_,rfl,?_⟩;rw[d6,zzr0 (by decide)];refine aU ⟨_,rfl,fu gB,fu gB,cX.dIn _ _ e,aS (J H),by rw[bC];decide,by rw[bC];decide,?_⟩;rw[zzr1 rfl];exact k H (ab.refl _)
 |en =>
  refine⟨_,rfl,v,"end",[],rfl,e,_,rfl,?_⟩;refine aU ⟨_,rfl,v,"end",[],rfl,e,_,rfl,?_⟩;refine aU ⟨_,rfl,fu iN,fu iN,cX.dIn _ _ e,aS (D H),by rw[bC];decide,by rw[bC];decide,_,rfl,?_⟩;rw[zzr1 rfl];exact bx (k H (ab.refl _))
 |nd a u =>
  obtain⟨ok,L,_⟩:=wf;have N:(Tr.dts f u).length=f.length+1:=by rw[Tr.dts_map,ak,ok]
  have e:cX K H (eA f a (Tr.dts f u)) v:=e;generalize Tr.dts f u=i at N e;cases a with
  |some a =>
   obtain⟨O,l⟩:∃d,i[0]?=some d:=⟨_,bY (by omega)⟩;rw[iz l]at e;refine⟨_,rfl,v,"tell",_,rfl,e,_,rfl,?_⟩;obtain⟨b,U,rfl,q,Y,x,rfl,e0,r,y,rfl,o,x2,p,rfl,e2,I,z,rfl,e3,m⟩:=e;have m:z=[]:=m;subst m;have o:r=V.str a:=o;subst o;refine bx ?_;obtain⟨dm,fm,o1,o2,lv,al,g1,a1,a2,_⟩:=vL n;refine⟨_,rfl,b,_,1,.str a,rfl,rfl,az.sq q,aG (j:=1) rfl,_,rfl,M,dm,fm,rfl,g1,a1,M,g,f,rooms,t,rfl,n,fun w hw=>?_⟩;have s:ab H (upd H w (.lst (g.map V.str))):=ab.new hw;refine⟨dE a,g.map dE,w,_,rfl,rfl,.inl (ay.of aa),nM g,b_ _,by rw[jG];decide,_,rfl,?_⟩;have ma:dE a∈g.map dE:=ki (L a rfl);have hc:(if false=true then !decide (dE a∈g.map dE)else decide (dE a∈g.map dE))=true:=zzr1 ma
   rw[hc];refine bx ⟨_,rfl,_,rfl,b,_,3,I,rfl,rfl,az.sq (az.kt (ab.kt s) q),aG (j:=3) rfl,M,I,i.drop 1,g,f,rooms,t,rfl,n.same s,cX.kt (ab.kt s) _ _ e3,by rw[cB];omega,fun A B=>k A (s.trans B)⟩
  |none =>
   obtain⟨O,l⟩:∃d,i[f.length]?=some d:=⟨_,bY (by omega)⟩;rw[iA l]at e;refine⟨_,rfl,v,"wait",_,rfl,e,_,rfl,?_⟩;refine aU ⟨_,rfl,v,"wait",_,rfl,e,_,rfl,?_⟩;obtain⟨b,U,rfl,q,Y,x,rfl,e0,r,y,rfl,o,x2,p,rfl,e2,m⟩:=e;have m:p=[]:=m;subst m;exact bx ⟨_,rfl,_,rfl,b,_,1,r,rfl,rfl,az.sq q,aG (j:=1) rfl,M,r,i.take f.length,g,f,rooms,t,rfl,n,o,by rw[aQ];omega,fun A B=>k A B⟩
inductive jF(K:Za)(C:Addr)(vs:List V)(H:Hp)(Q:VK)(E:XK):Prop
 |mk (M:Addr) (v:V) (T:Tr) (J0 J2 rooms:Zb) (ds:List ai):(vs=[.ref M,v])->(bD C H M J0 J2 rooms ds)->(cX K H (T.dt J2) v)->(T.wf J0 J2)->((iq J2 [] [] T).length<=1000)->(∀e∈iq J2 [] [] T,e.way.length<8) ->
  (∀(l:Addr) (qs:Ze) (H':Hp),H' l=some (.lst (qs.map V.ref))->Paired (kZ K J2 H') qs (iq J2 [] [] T)->ab H H'->Q (.ref l) H')->jF K C vs H Q E
theorem zO{K:Za}{C:Addr}{s:List V}{H:Hp}{Q:VK}{E:XK}(h:jF K C s H Q E):lK K (qy K C) (iC K) (bq Q) (start lX s) H:=by
 obtain⟨M,v,T,t,u,rooms,D,rfl,w,G,wf,I,J,k⟩:=h;have L:=w.ok.says4;refine⟨_,rfl,v,T,t,u,rfl,G,wf,L,I,J,fun l qs N f y g z=>?_⟩;refine⟨_,rfl,l,rfl,⟨_,ay.of f⟩,?_⟩
 let j:Nat->L2.St->Hp->Prop:=fun i σ A=>∃m n o:Option V,σ=[some (.ref M),some v,some (.ref l),m,n,o]/\ab N A
 refine bP (xs:=qs.map V.ref) j ⟨_,_,_,rfl,ab.refl _⟩ (fun i σ A _ O=>by obtain⟨_,_,_,_,S⟩:=O;exact ay.of (S _ _ f)) ?_ ?_
 ·rintro i x σ B U ⟨m,n,o,rfl,a⟩;obtain⟨q,p,rfl⟩:=bF U;obtain⟨e,Y,r⟩:=Paired.getL y p;obtain⟨wr,st,v1,a1,a2,a3,a4⟩:=r.same a;refine⟨q,_,rfl,bt.of a1,rfl,_,_,rfl,_,_,rfl,_,_,rfl,rfl,?_⟩;refine⟨_,rfl,_,rfl,M,v1,e.tr,t,u,rooms,D,rfl,w.same (z.trans a),a4,g e (cw Y),fun H3 S3=>⟨_,rfl,?_⟩⟩;exact aU ⟨_,_,_,rfl,a.trans S3⟩
 ·rintro σ B ⟨m,n,o,rfl,a⟩;exact⟨_,rfl,k l qs B (a _ _ f) (EnAts.same a y) (z.trans a)⟩
open Builtin.Int (intBits)
open Builtin.Int (intBits)
theorem n5:∀{l:List Tr}{t:Tr},t∈l->t.hgt<=Tr.hgts l
 |x::l,t,h=>by
  show t.hgt<=max x.hgt (Tr.hgts l);rcases cx.1 h with rfl|h
  ·omega
  ·have:=n5 h;omega
theorem yg(e:Zb):∀(h:Nat) (T:Tr),T.hgt<=h->(T.dt e).depth<=dB h
 |h,.bl,_=>by show(fu gB).depth<=_;rw[bC];exact Aj h
 |h,.en,_=>by show(fu iN).depth<=_;rw[bC];exact Aj h
 |0,.nd a f,g=>absurd g (by show ¬Tr.hgts f+1<=0;omega)
 |h+1,.nd a f,g=>by
  have g:Tr.hgts f+1<=h+1:=g;show(eA e a (Tr.dts e f)).depth<=dB h+3;refine w_ (Aj h) fun p i=>?_;rw[Tr.dts_map]at i;obtain⟨t,j,rfl⟩:=aV.1 i;have:=n5 j;exact yg e h t (by omega)
open Builtin.Int (intBits)
def exH(H:Hp)(P:Addr->Prop):Hp:=fun b=>open Classical in if P b then none else H b
def hB:Nat->Nat
 |0=>0
 |d+1=>12+25 * hB d
open Builtin.Int (intBits)
open Builtin.Int (intBits)
theorem x_{H:Hp}{a:Addr}{o:HO}(h:H a=none):gS (upd H a o) a=H:=funext fun b=>by
 by_cases c:b=a
 ·rw[c,gm,h]
 ·rw[fI c,aj c]
theorem Cw{a:Addr}{H:Hp}{o:HO}:gS (upd H a o) a=gS H a:=funext fun b=>by
 by_cases c:b=a
 ·rw[c,gm,gm]
 ·rw[fI c,fI c,aj c]
mutual
def Tr.sz:Tr->Nat
 |.bl=>1
 |.en=>1
 |.nd _ ps=>Tr.szs ps+1
def Tr.szs:List Tr->Nat
 |[]=>0
 |t::r=>t.sz+Tr.szs r
end
mutual
theorem vU(e:Zb):∀(t:Tr) (w:List Nat) (s:List Sg),(iq e w s t).length=t.sz
 |.bl,_,_=>rfl
 |.en,_,_=>rfl
 |.nd a f,w,s=>by
  show(preEs e w s (cS e a) 0 f).length+1=Tr.szs f+1;rw[preEs_sz e f]
theorem preEs_sz(e:Zb):∀(a:List Tr) (w:List Nat) (s f:List Sg) (i:Nat),(preEs e w s f i a).length=Tr.szs a
 |[],_,_,_,_=>rfl
 |p::a,w,s,f,i=>by
  show(iq e _ _ p++preEs e _ _ _ _ a).length=p.sz+Tr.szs a;rw[aF,vU e p,preEs_sz e a]
end
theorem AO{t u:Tr}:∀{l:List Tr}{i:Nat},l[i]?=some t->Tr.szs (l.set i u)+t.sz=Tr.szs l+u.sz
 |[],_,h=>by cases h
 |x::l,0,h=>by
  injection h with h;show u.sz+Tr.szs l+t.sz=x.sz+Tr.szs l+u.sz;rw[h];omega
 |x::l,i+1,h=>by
  have:=AO (u:=u) (l:=l) (i:=i) h;show x.sz+Tr.szs (l.set i u)+t.sz=x.sz+Tr.szs l+u.sz;omega
theorem Bj{n:Nat}:∀{l:List Tr},(∀t∈l,t.hgt<=n)->Tr.hgts l<=n
 |[],_=>b_ _
 |t::r,h=>by
  have e:=h t du;have f:=Bj fun q a=>h q (eI _ a);show max t.hgt (Tr.hgts r)<=n;omega

abbrev lU(K:Za)(H:Hp)(gs:Ze)(s:List Sg):Prop:=Paired (fun g (sg:Sg)=>az K H g (sg.map V.str)) gs s
theorem lU.same{K:Za}{H a:Hp}{e:Ze}{s:List Sg}(S:ab H a)(h:lU K H e s):lU K a e s:=Paired.mapP h fun _ _ r=>az.kt (ab.kt S) r
def nz(K:Za)(C_Machine:Addr)(sp_Machine_goals:Sp)(a_STILL:Addr):TS :=
 ar (aM (dJ (cU K) (aw V1)) U2)
 (oY (aL (ax Ch (dJ (dh K) (aw V2)) (tC (.int 0)))) (ar (aM (zj K "list" Cf V2) U3)
 (dI (cp K (fb C_Machine "goals" sp_Machine_goals [] E0 V0 (aW V3 (tC (.ref a_STILL))))) U4 (bU (tB (nE K V4 V1)) (ar (md V1 V4 (bb (cE V3 (tC (.ref a_STILL)) V4)))
 (bV (xu K "list" dF V2 (aw V4)))) (br)))))
def ow:List Str:=["M","steps","waiting","room","goal"]
def yV(K:Za)(a_HUSH:Addr)(C_Machine:Addr)(sp_Machine_is_quiet:Sp)(sp_Machine_goals:Sp):TS :=
 ar (aM (o6) U3)
 (ar (dI (Gq V1) U4 (bU (aL (ax (mG K) V2 (tC (.ref a_HUSH)))) (bU (tB (fb C_Machine "is_quiet" sp_Machine_is_quiet [] E0 V0 (aw V4))) (md V3 V4 (bb (cE V4 (tC (.ref a_HUSH)) V4))) (br)) (dI (cp K (fb C_Machine "goals" sp_Machine_goals [] E0 V0 (aW V4 V2))) U5 (md V3 V5 (bb (cE V4 V2 V5))))))
 (aY V3))
def Ar:List Str:=["M","rooms","sign","steps","room","goal"]
def tm(K:Za)(sp_add_still_steps:Sp)(sp_steps_by:Sp)(C_Machine:Addr)(sp_Machine_rooms:Sp):TS :=
 ar (aM (F_ [(ax (cg K) (fb C_Machine "rooms" sp_Machine_rooms [] E0 V0 bd) (tC (.int 0)),tC .non)]) U2)
 (ar (aM (cf (aw V2)) U3)
 (ar (bV (aH sp_add_still_steps (aW V0 V2)))
 (ar (dI (cp K V1) U4 (ar (aM (aH sp_steps_by (cE V0 V2 V4)) U2)
 (ar (bV (xu K "list" dF V3 (aw V2)))
 (bV (aH sp_add_still_steps (aW V0 V2))))))
 (aY V3))))
def tW:List Str:=["M","story","steps","along","sign"]
def BF(K:Za)(a_STILL:Addr)(sp_steps_along:Sp):TS :=
 ar (aM (aH sp_steps_along (aW V0 V1)) U2)
 (ar (bU (aL (ax m5 (dJ (Gh K) (aw (ax (cg K) V2 (Hj (rU fun i=>.int (-i)) (tC (.int 1)))))) (tC (.int 0)))) (aY (tC .non)) (br))
 (ar (aM (ax (cg K) (dJ (cU K) (aw (ax (cg K) V2 (Hj (rU fun i=>.int (-i)) (tC (.int 1)))))) (tC (.int 0))) U3)
 (ar (aM (cf (bd)) U4)
 (ar (aM (zj K "list" Cf V2) U5)
 (ar (oY (tB (xj (nF K V5 V3))) (ar (aM (nF K V5 V3) U6)
 (ar (bV (xu K "list" dF V4 (aw V6)))
 (ar (aM (ax (bA K) V6 (tC (.int 0))) U3)
 (bU (aL (ax (qk K) (ax (bA K) V6 (tC (.int 1))) (tC (.ref a_STILL)))) (aM (zj K "list" Cf V2) U5) (br))))))
 (ar (bV (zj K "list" xF V4))
 (aY V4)))))))
def CP:List Str:=["M","story","along","room","walk","steps","step"]
def hV(K:Za)(C:Addr):Sp:=fun vs H Q _=>∃(x s:Addr) (r:Str) (sg J0 J2 rooms:Zb) (ds:List ai),vs=[.ref x,.str r,.ref s]/\bD C H x J0 J2 rooms ds/\bt K H s (sg.map V.str) /\
 ∀(l:Addr) (H':Hp),H' l=some (.lst ((aP ds (r,sg)).map V.str))->H l=none->ab H H'->Q (.ref l) H'
theorem AL{K:Za}{H:Hp}:∀a:List Str,TKIns K H (a.map qh) (a.map V.str)
 |[]=>by unfold TKIns;rfl
 |x::a=>by
  rw[bu,bu];unfold TKIns;exact⟨_,_,rfl,by unfold qh lS;rfl,AL a⟩
theorem zH{K:Za}{C:Addr}(M:MC K C){t:List V}{H:Hp}{Q:VK}{E:XK}(h:hV K C t H Q E):p8 K (bq Q) (start qr t) H:=by
 obtain⟨x,s,r,e,Y,J2,rooms,w,rfl,h,A,k⟩:=h;obtain⟨B,fs,o1,o2,o3,o4,lv,qu,u,sl,ts,D,m,I,J,a1,a2,a3,a4,b1,b2,b3,b4,b5,b6,N,b8,L,c1,c2,c3,c4,G,d1,d2,d3⟩:=h.at_;have O:=h.ok.okR.1;refine⟨_,rfl,x,C,B,fs,.ref u,rfl,J,M.cls,M.a7,N,u,rfl,.inr ⟨_,.inl G.g⟩,_,rfl,_,rfl,(by show 2<=ah;decide),fun kt j=>⟨(by show 0<=ah;decide),fun v i=>⟨cr (dw tj m) (tj (r,e)),.inr ⟨_,tj (r,e),kt,.inl (kp (kp G.g j) i),rfl,?_,o7 _,rfl⟩,?_⟩⟩⟩
 ·unfold tj lS;refine⟨kt,_,rfl,bt.of (kp aa i),?_⟩;unfold TKIns;refine⟨_,_,rfl,by unfold qh lS;rfl,?_⟩;unfold TKIns;refine⟨_,_,rfl,?_,by unfold TKIns;rfl⟩;unfold C1 lS;exact⟨s,_,rfl,bt.same ((ab.new j).trans (ab.new i)) A,AL e⟩
 have n:ab H (upd (upd H kt (.tup [.str r,.ref s])) v (.tup [])):=(ab.new j).trans (ab.new i);by_cases f:(r,e)∈m.map (·.1)
 ·obtain⟨⟨y,a⟩,o,T⟩:=aV.mp f;obtain rfl:y=(r,e):=T;rw[dZ gQ G.nd o];exact .inl ⟨a,_,rfl,.inl (ay.of (n _ _ (G.ls _ o))),fun l p=>k l _ aa (n.free p) (n.trans (ab.new p))⟩
 ·rw[lC gQ f];have q:aP w (r,e)=[]:=kQ fun y U z=>f (by rw[<-z];exact G.all y U);refine .inl ⟨v,[],rfl,.inr (bt.of aa),fun l p=>k l _ ?_ (n.free p) (n.trans (ab.new p))⟩;rw[q];exact aa
abbrev aA:=List (Str×Option ai)
def gM(st:aA)(r:Str):Option (Option ai):=(st.find? fun p=>decide (p.1=r)).map (·.2)
def iB(st:aA)(r:Str)(d:Option ai):aA:=if(st.any fun p=>decide (p.1=r))=true then st.map (fun p=>if p.1=r then(p.1,d)else p)else st++[(r,d)]
section
variable{K:Za}
theorem k9{st:aA}{r:Str}:gM st r=none↔r∉st.map (·.1):=by
 unfold gM;rw[Option.map_eq_none_iff,uY];constructor
 ·intro h e;obtain⟨p,a,e⟩:=aV.mp e;exact h p a (zzr1 e)
 ·intro h p a e;exact h (aV.mpr ⟨p,a,of_decide_eq_true e⟩)
theorem um{st:aA}{r:Str}{d:Option ai}(h:r∉st.map (·.1)):iB st r d=st++[(r,d)]:=by
 unfold iB;rw[if_neg];intro e;obtain⟨p,a,e⟩:=List.any_eq_true.mp e;exact h (aV.mpr ⟨p,a,of_decide_eq_true e⟩)
inductive bL(ds:List ai):aA->aA->Prop
 |refl (st:aA):bL ds st st
 |step {st st':aA}{d:ai}(h:bL ds st st') (hd:d.sg=am) (ha:d.a∈st'.map (·.1)) (hb:d.b∈aP ds (d.a,d.sg)) (hn:d.b∉st'.map (·.1)):bL ds st (st'++[(d.b,some d)])
theorem bL.trans{ds:List ai}{a b c:aA}(x:bL ds a b)(y:bL ds b c):bL ds a c:=by
 induction y with
 |refl=>exact x
 |step _ e f g h i=>exact .step i e f g h
theorem bL.keys{e:List ai}{a b:aA}(x:bL e a b):∀r∈a.map (·.1),r∈b.map (·.1):=by
 induction x with
 |refl=>exact fun r h=>h
 |step _ _ _ _ _ f=>exact fun r h=>by rw[au];exact da _ (f r h)
theorem bL.nodup{f:List ai}{a b:aA}(x:bL f a b)(h:(a.map (·.1)).Nodup):(b.map (·.1)).Nodup:=by
 induction x with
 |refl=>exact h
 |@step g d _ m n o i j =>
  rw[au,de];refine⟨j,by simp,fun x k y l z=>?_⟩;have e:y=d.b:=by simpa using l
  exact i (by rw[<-e,<-z];exact k)
end
theorem bL.rooms{f:List ai}{rooms:Zb}{a b:aA}(x:bL f a b)(h:∀r∈a.map (·.1),r∈rooms)(k:∀d∈f,d.b∈rooms)(l:∀{w i g},g∈aP f (w,i)->(⟨w,i,g⟩:ai)∈f):∀r∈b.map (·.1),r∈rooms:=by
 induction x with
 |refl=>exact h
 |@step m d _ _ _ n _ o =>
  intro r j;rw[au]at j;rcases be.mp j with z|z
  ·exact o r z
  ·have e:r=d.b:=by simpa using z
   rw[e];exact k _ (l n)
structure Wt(ds:List ai)(st st':aA)(wait:Zb):Prop where
 on:bL ds st st'
 there:∀r∈wait,r∈st'.map (·.1)
 done:∀r∈st'.map (·.1),r∈wait∨∀g∈aP ds (r,am),g∈st'.map (·.1)

def gF(ds:List ai)(sg:Zb)(r:Str)(gs:Zb)(acc:aA):aA:=gs.foldl (fun acc g=>iB acc g (some ⟨r,sg,g⟩)) acc
def cR(rooms:Zb)(ds:List ai)(sg:Zb)(acc:aA)(r:Str):aA :=
 if sg=bz then(if r∈rooms.filter (dS ds)then iB acc r (some ⟨r,bz,r⟩)else acc)else gF ds sg r (aP ds (r,sg)) acc
def dD(rooms:Zb)(ds:List ai)(sg:Zb)(keys:Zb):aA:=keys.foldl (cR rooms ds sg) []
theorem rQ{st:aA}{r:Str}{d:Option ai}:(iB st r d).map (·.1)=if r∈st.map (·.1)then st.map (·.1)else st.map (·.1)++[r]:=by
 by_cases z:r∈st.map (·.1)
 ·rw[if_pos z];unfold iB;have:(st.any fun p=>decide (p.1=r))=true:=by
   obtain⟨p,a,e⟩:=aV.mp z;exact List.any_eq_true.mpr ⟨p,a,zzr1 e⟩
  rw[if_pos this,qU];apply u8;intro p _;show(if p.1=r then(p.1,d)else p).1=p.1
  by_cases y:p.1=r
  ·rw[if_pos y]
  ·rw[if_neg y]
 ·rw[if_neg z,um z,au];rfl
structure sW(rooms:Zb)(st:aA):Prop where
 nd:(st.map (·.1)).Nodup
 inr:∀r∈st.map (·.1),r∈rooms
theorem sW.put{rooms:Zb}{st:aA}{r:Str}{d:Option ai}(h:sW rooms st)(f:r∈rooms):sW rooms (iB st r d):=by
 refine⟨?_,?_⟩<;>rw[rQ]<;>by_cases z:r∈st.map (·.1)
 ·rw[if_pos z];exact h.nd
 ·rw[if_neg z,de];refine⟨h.nd,by simp,fun x a y g e=>z ?_⟩;have:y=r:=by simpa using g
  rw[<-this,<-e];exact a
 ·rw[if_pos z];exact h.inr
 ·rw[if_neg z];intro x a;rcases be.mp a with y|y
  ·exact h.inr x y
  ·have:x=r:=by simpa using y
   rw[this];exact f
theorem sW.len{rooms:Zb}{st:aA}(h:sW rooms st):st.length<=rooms.length:=by simpa using jk h.nd h.inr
theorem sW.goals{rooms:Zb}{ds:List ai}{sg:Zb}{r:Str}:∀{gs:Zb}{a:aA},sW rooms a->(∀g∈gs,g∈rooms)->sW rooms (gF ds sg r gs a)
 |[],_,h,_=>h
 |g::gs,a,h,e=>sW.goals (ds:=ds) (gs:=gs) (h.put (e g du)) fun x f=>e x (eI _ f)
theorem sW.room{rooms:Zb}{e:List ai}{f:Zb}{r:Str}{a:aA}(h:sW rooms a)(i:∀d∈e,d.b∈rooms):sW rooms (cR rooms e f a r):=by
 unfold cR;by_cases z:f=bz
 ·rw[if_pos z];by_cases y:r∈rooms.filter (dS e)
  ·rw[if_pos y];exact h.put (dO.mp y).1
  ·rw[if_neg y];exact h
 ·rw[if_neg z];exact h.goals fun g j=>i _ (bo.mp j)
theorem sW.by_{rooms:Zb}{e:List ai}{g:Zb}(f:∀d∈e,d.b∈rooms):∀(keys:Zb) {a:aA},sW rooms a->sW rooms (keys.foldl (cR rooms e g) a)
 |[],_,h=>h
 |r::keys,a,h=>sW.by_ f keys (h.room f)
theorem kC{rooms:Zb}{a:List ai}{e:Zb}(f:∀d∈a,d.b∈rooms)(keys:Zb):sW rooms (dD rooms a e keys):=sW.by_ f keys ⟨rg,by simp⟩
theorem vJ{rooms:Zb}{ds:List ai}{sg:Zb}{keys:Zb}{i:Nat}{r:Str}(h:keys[i]?=some r):dD rooms ds sg (keys.take (i+1))=cR rooms ds sg (dD rooms ds sg (keys.take i)) r:=by
 unfold dD;rw[List.take_add_one,h,qS];rfl


theorem FG:bz≠am:=by decide +kernel
def cv(rooms:Zb):Str:=rooms.headD ""
theorem aJ.first{a e rooms:Zb}{f:List ai}(m:aJ a e rooms f):rooms[0]?=some (cv rooms)/\cv rooms∈rooms:=by
 have:=m.rooms0;cases rooms with
 |nil=>exact absurd rfl this
 |cons r l=>exact⟨rfl,du⟩
theorem aJ.take1{a e rooms:Zb}{f:List ai}(m:aJ a e rooms f):rooms.take 1=[cv rooms]:=by
 have:=m.rooms0;cases rooms with
 |nil=>exact absurd rfl this
 |cons r l=>rfl
def C0(ds:List ai):Str->List ai->Bool
 |_,[]=>true
 |r,d::w=>decide (d.a=r) && ((if d.sg=bz then decide (d.b=r) && decide (r∉eD ds)else decide (d∈ds)) && C0 ds d.b w)
def bZ(w:List ai):List (List Str):=(w.filter fun d=>!decide (d.sg=am)).map (·.sg)
theorem uH(w v:List ai):bZ (w++v)=bZ w++bZ v:=by
 unfold bZ;rw[kh,au]
def Dk(ds:List ai)(d:ai):Prop:=(d.sg=bz->d.b=d.a/\d.a∉eD ds)/\(d.sg≠bz->d∈ds)
inductive EO(ds:List ai)(r0:Str):List ai->Str->Prop
 |nil:EO ds r0 [] r0
 |snoc {w:List ai}{d:ai}(h:EO ds r0 w d.a) (ok:Dk ds d):EO ds r0 (w++[d]) d.b
theorem EO.go{ds:List ai}{e:Str}{w:List ai}{r:Str}(h:EO ds e w r):∀v,C0 ds e (w++v)=C0 ds r v:=by
 induction h with
 |nil=>intro v;rfl
 |@snoc w d h ok f =>
  intro v;rw[cA,f];show(decide (d.a=d.a) && ((if d.sg=bz then decide (d.b=d.a) && decide (d.a∉eD ds)else decide (d∈ds)) && C0 ds d.b v))=C0 ds d.b v
  rw[zzr1 rfl];by_cases z:d.sg=bz
  ·rw[if_pos z,zzr1 (ok.1 z).1,zzr1 (ok.1 z).2];rfl
  ·rw[if_neg z,zzr1 (ok.2 z)];rfl
theorem EO.ok{a:List ai}{e:Str}{w:List ai}{r:Str}(h:EO a e w r):C0 a e w=true:=by
 have:=h.go [];rw[f6]at this;rw[this];rfl
theorem Dl{st:aA}{r:Str}{v:Option ai}(h:gM st r=some v):(r,v)∈st:=by
 unfold gM at h;obtain⟨p,a,rfl⟩:=Option.map_eq_some_iff.mp h;have f:=List.find?_some a;have g:=List.mem_of_find?_eq_some a;have e:p.1=r:=of_decide_eq_true f;rw[<-e];exact g
theorem uo{st:aA}{r:Str}(h:r∈st.map (·.1)):∃v,gM st r=some v:=by
 cases q:gM st r with
 |none=>exact absurd h (k9.mp q)
 |some v=>exact⟨v,rfl⟩
theorem Dm{st:aA}{x:aA}{r:Str}(h:r∈st.map (·.1)):gM (st++x) r=gM st r:=by
 obtain⟨v,a⟩:=uo h;rw[a];unfold gM at a ⊢;obtain⟨p,e,rfl⟩:=Option.map_eq_some_iff.mp a;rw[List.find?_append,e];rfl
theorem xx{st:aA}{r:Str}{v:Option ai}(h:r∉st.map (·.1)):gM (st++[(r,v)]) r=some v:=by
 have a:=k9.mpr h;unfold gM at a ⊢;rw[Option.map_eq_none_iff]at a;rw[List.find?_append,a];show((([(r,v)]:aA).find? fun p=>decide (p.1=r)).map (·.2))=some v;rw[fB,show decide ((r,v).1=r)=true from zzr1 rfl];rfl
theorem bL.at_{e:List ai}{a b:aA}(x:bL e a b){r:Str}(h:r∈a.map (·.1)):gM b r=gM a r:=by
 induction x with
 |refl=>rfl
 |step y _ _ _ _ f=>rw[Dm (y.keys r h),f]
theorem ux{st:aA}{r:Str}{d:Option ai}{p:Str×Option ai}(h:p∈iB st r d):p∈st∨p=(r,d):=by
 unfold iB at h;split at h
 ·obtain⟨q,a,e⟩:=aV.mp h;by_cases z:q.1=r
  ·rw[if_pos z]at e;rw[<-e,z];exact .inr rfl
  ·rw[if_neg z]at e;rw[<-e];exact .inl a
 ·rcases be.mp h with z|z
  ·exact .inl z
  ·exact .inr (by simpa using z)
theorem kO{st:aA}{r:Str}{d:Option ai}{x:Str}:x∈(iB st r d).map (·.1)↔x∈st.map (·.1)∨x=r:=by
 rw[rQ];by_cases z:r∈st.map (·.1)
 ·rw[if_pos z];exact⟨.inl,fun h=>h.elim id fun e=>by rw[e];exact z⟩
 ·rw[if_neg z,be];simp
def r_(rooms:Zb)(ds:List ai)(sg:Zb)(k:Str):List Str:=if sg=bz then(if k∈rooms.filter (dS ds)then[k]else[])else aP ds (k,sg)
def EK(ds:List ai)(sg:Zb)(ks:Zb)(p:Str×Option ai):Prop:=∃d,p.2=some d/\d.b=p.1/\d.sg=sg/\d.a∈ks/\Dk ds d
theorem n6{ds:List ai}{a:Zb}{r:Str}{P:Str×Option ai->Prop}:∀{gs:Zb}{acc:aA},(∀p∈acc,P p)->(∀g∈gs,P (g,some ⟨r,a,g⟩))->∀p∈gF ds a r gs acc,P p
 |[],_,h,_=>h
 |g::gs,acc,h,e=>n6 (ds:=ds) (gs:=gs) (acc:=iB acc g (some ⟨r,a,g⟩)) (fun p f=>by
   rcases ux f with z|z
   ·exact h p z
   ·rw[z];exact e g du) fun x i=>e x (eI _ i)
theorem me{ds:List ai}{e:Zb}{r x:Str}:∀{gs:Zb}{a:aA},x∈(gF ds e r gs a).map (·.1)↔x∈a.map (·.1)∨x∈gs
 |[],a=>by show x∈a.map (·.1)↔_;simp
 |g::gs,a=>by
  show x∈(gF ds e r gs (iB a g (some ⟨r,e,g⟩))).map (·.1)↔_;rw[me (ds:=ds) (gs:=gs),kO,cx];exact⟨fun h=>by rcases h with(h|h)|h;exact .inl h;exact .inr (.inl h);exact .inr (.inr h),fun h=>by rcases h with h|h|h;exact .inl (.inl h);exact .inl (.inr h);exact .inr h⟩
theorem vQ{rooms:Zb}{e:List ai}{f:Zb}{a:aA}{k x:Str}:x∈(cR rooms e f a k).map (·.1)↔x∈a.map (·.1)∨x∈r_ rooms e f k:=by
 unfold cR r_;by_cases z:f=bz
 ·rw[if_pos z,if_pos z];by_cases y:k∈rooms.filter (dS e)
  ·rw[if_pos y,if_pos y,kO];simp
  ·rw[if_neg y,if_neg y];simp
 ·rw[if_neg z,if_neg z,me]
theorem zD{rooms:Zb}{f:List ai}{sg:Zb}{a:aA}{k:Str}{i:Zb}(j:k∈i)(h:∀p∈a,EK f sg i p):∀p∈cR rooms f sg a k,EK f sg i p:=by
 unfold cR;by_cases z:sg=bz
 ·rw[if_pos z];by_cases y:k∈rooms.filter (dS f)
  ·rw[if_pos y];intro p l;rcases ux l with x|x
   ·exact h p x
   ·rw[x];have q:=(dO.mp y).2;rw[mI]at q;exact⟨⟨k,bz,k⟩,rfl,rfl,z.symm,j,fun _=>⟨rfl,of_decide_eq_true q⟩,fun n=>absurd rfl n⟩
  ·rw[if_neg y];exact h
 ·rw[if_neg z];exact n6 h fun g m=>⟨⟨k,sg,g⟩,rfl,rfl,rfl,j,fun e=>absurd e z,fun _=>bo.mp m⟩
theorem pW{rooms:Zb}{e:List ai}{f:Zb}{x:Str}:∀{ks:Zb}{a:aA},x∈(ks.foldl (cR rooms e f) a).map (·.1)↔x∈a.map (·.1)∨∃k∈ks,x∈r_ rooms e f k
 |[],a=>by show x∈a.map (·.1)↔_;simp
 |k::ks,a=>by
  show x∈(ks.foldl (cR rooms e f) (cR rooms e f a k)).map (·.1)↔_;rw[pW (ks:=ks),vQ];constructor
  ·rintro((h|h)|⟨j,hj,h⟩)
   ·exact .inl h
   ·exact .inr ⟨k,du,h⟩
   ·exact .inr ⟨j,eI _ hj,h⟩
  ·rintro(h|⟨j,hj,h⟩)
   ·exact .inl (.inl h)
   ·rcases cx.mp hj with rfl|hj
    ·exact .inl (.inr h)
    ·exact .inr ⟨j,hj,h⟩
theorem uR{rooms:Zb}{e:List ai}{f:Zb}{K:Zb}:∀{ks:Zb}{a:aA},(∀k∈ks,k∈K)->(∀p∈a,EK e f K p)->∀p∈ks.foldl (cR rooms e f) a,EK e f K p
 |[],_,_,h=>h
 |k::ks,a,g,h=>uR (ks:=ks) (fun x i=>g x (eI _ i)) (zD (g k du) h)
theorem nG{rooms:Zb}{a:List ai}{e f:Zb}{x:Str}:x∈(dD rooms a e f).map (·.1)↔∃k∈f,x∈r_ rooms a e k:=by
 unfold dD;rw[pW];simp
theorem zA{rooms:Zb}{ds:List ai}{a e:Zb}:∀p∈dD rooms ds a e,EK ds a e p:=uR (fun _ h=>h) fun _ h=>nomatch h
def kT(ds:List ai)(a b:aA):Prop:=bL ds a b/\∀r∈b.map (·.1),∀g∈aP ds (r,am),g∈b.map (·.1)
inductive k4(rooms:Zb)(ds:List ai):List (List Str)->List aA->aA->Prop
 |nil {st:aA}(h:kT ds [(cv rooms,none)] st):k4 rooms ds [] [] st
 |snoc {story:List (List Str)}{fz:List aA}{st:aA}{sg:Zb}{st':aA}(a:k4 rooms ds story fz st) (h:kT ds (dD rooms ds sg (st.map (·.1))) st'):k4 rooms ds (story++[sg]) (st::fz) st'
theorem kT.from_{k:List ai}{a b:aA}(h:kT k a b){r:Str}:r∈b.map (·.1)↔ij k (a.map (·.1)) r:=by
 obtain⟨on,l⟩:=h;constructor
 ·clear l;intro m
  induction on generalizing r with
  |refl=>exact⟨r,m,.inl rfl⟩
  |@step n d y o p s t j =>
   rw[au]at m;rcases be.mp m with z|z
   ·exact j z
   ·have e:r=d.b:=by simpa using z
    have f:(⟨d.a,am,d.b⟩:ai)∈k:=by
     have:=bo.mp s;rw[o]at this;exact this
    obtain⟨g,i,q⟩:=j p;rw[e];rcases q with q|q
    ·exact⟨g,i,.inr (.one (by rw[<-q];exact f))⟩
    ·exact⟨g,i,.inr (.step q f)⟩
 ·rintro⟨g,i,rfl|q⟩
  ·exact on.keys _ i
  ·induction q with
   |one e=>exact l g (on.keys _ i) _ (bo.mpr e)
   |step _ e j=>exact l _ j _ (bo.mpr e)
theorem Ci{a:List ai}{r:Str}(h:r∉eD a){g:Str}:(⟨r,am,g⟩:ai)∉a:=fun z=>h (aV.mpr ⟨_,dO.mpr ⟨z,by show(!decide (("still":Str)="ask"))=true;decide +kernel⟩,rfl⟩)
theorem Af{ds:List ai}{a:Zb}(h:∀g∈a,g∉eD ds){r:Str}:ij ds a r↔r∈a:=by
 constructor
 ·rintro⟨g,f,rfl|q⟩
  ·exact f
  ·exfalso;have:∀{x},Reach ds g x->∃y,(⟨g,am,y⟩:ai)∈ds:=by
    intro x q
    induction q with
    |one e=>exact⟨_,e⟩
    |step _ _ i=>exact i
   obtain⟨y,j⟩:=this q;exact Ci (h g f) j
 ·exact fun k=>⟨r,k,.inl rfl⟩
section
variable{J0 J2 rooms:Zb}{ds:List ai}
theorem k4.face(m:aJ J0 J2 rooms ds){f:List (List Str)}{t:List aA}{st:aA}(h:k4 rooms ds f t st):∀r,r∈st.map (·.1)↔r∈faceOf rooms ds f:=by
 have l:∀d∈ds,d.b∈rooms:=fun d l=>(m.good d l).b
 induction h with
 |@nil st h =>
  intro r;rw[h.from_];show _↔r∈closF rooms ds (rooms.take 1);rw[uy,m.take1];have u:∀g∈[cv rooms],g∈rooms:=fun g i=>by
   rw[bX.mp i];exact m.first.2
  exact⟨fun q=>⟨q.in_ u l,q⟩,fun q=>q.2⟩
 |@snoc f t st n v a h p =>
  intro r;rw[h.from_,pV];have s:∀k∈st.map (·.1),k∈rooms:=fun k j=>(pj (by have:=m.rooms26;omega) f).1 k ((p k).mp j);unfold behF;by_cases z:n=bz
  ·rw[if_pos z,dO,decide_eq_true_iff,<-p r];have o:∀g,g∈(dD rooms ds n (st.map (·.1))).map (·.1)↔g∈st.map (·.1)/\g∉eD ds:=by
    intro g;rw[nG];constructor
    ·rintro⟨k,j,i⟩;unfold r_ at i;rw[if_pos z]at i;by_cases y:k∈rooms.filter (dS ds)
     ·rw[if_pos y]at i;have e:g=k:=by simpa using i
      have q:=(dO.mp y).2;rw[mI]at q;rw[e];exact⟨j,of_decide_eq_true q⟩
     ·rw[if_neg y]at i;cases i
    ·rintro⟨j,w⟩;refine⟨g,j,?_⟩;unfold r_;rw[if_pos z,if_pos (dO.mpr ⟨s g j,by rw[mI];exact zzr1 w⟩)];exact du
   rw[Af fun g i=>((o g).mp i).2,o]
  ·rw[if_neg z,uy];have o:∀g,g∈(dD rooms ds n (st.map (·.1))).map (·.1)↔g∈jn ds n (faceOf rooms ds f):=by
    intro g;rw[nG,jN];unfold r_;simp only[if_neg z];exact⟨fun⟨k,j,i⟩=>⟨k,(p k).mp j,bo.mp i⟩,fun⟨k,j,i⟩=>⟨k,(p k).mpr j,bo.mpr i⟩⟩
   constructor
   ·rintro⟨g,i,q⟩;have fr:ij ds (jn ds n (faceOf rooms ds f)) r:=⟨g,(o g).mp i,q⟩;exact⟨fr.in_ (fun x A=>by obtain⟨y,_,B⟩:=jN.mp A;exact l _ B) l,fr⟩
   ·rintro⟨_,g,i,q⟩;exact⟨g,(o g).mpr i,q⟩
theorem k4.kin(m:aJ J0 J2 rooms ds){e:List (List Str)}{g:List aA}{st:aA}(h:k4 rooms ds e g st):sW rooms st:=by
 have f:∀d∈ds,d.b∈rooms:=fun d f=>(m.good d f).b;refine⟨?_,fun r i=>(pj (by have:=m.rooms26;omega) e).1 r ((h.face m r).mp i)⟩;cases h with
 |nil h=>exact h.1.nodup (by simp)
 |snoc a h=>exact h.1.nodup (kC f _).nd
end
inductive sX:List aA->aA->Str->List ai->Prop
 |stop {fz:List aA}{st:aA}{r:Str}(h:gM st r=some none):sX fz st r []
 |still {fz:List aA}{st:aA}{r:Str}{d:ai}{ws:List ai}(h:gM st r=some (some d)) (e:d.sg=am) (b:sX fz st d.a ws):sX fz st r (d::ws)
 |pop {fz:List aA}{st st':aA}{r:Str}{d:ai}{ws:List ai}(h:gM st r=some (some d)) (e:d.sg≠am) (b:sX fz st' d.a ws):sX (st'::fz) st r (d::ws)
section
variable{J0 J2 rooms:Zb}{ds:List ai}
theorem sN{q:List aA}{a st:aA}{f:List (List Str)}{N:Nat}(h:bL ds a st)(base:∀r∈a.map (·.1),∃w,EO ds (cv rooms) w r/\bZ w=f/\w.length<=N+a.length/\sX q st r w.reverse):
  ∀{b:aA},bL ds a b->bL ds b st->∀r∈b.map (·.1),∃w,EO ds (cv rooms) w r/\bZ w=f/\w.length<=N+b.length/\sX q st r w.reverse:=by
 intro b j
 induction j with
 |refl=>exact fun _=>base
 |@step b d y k s j t u =>
  intro on r v;have g:bL ds b st:=(bL.step (.refl b) k s j t).trans on;rw[au]at v;rcases be.mp v with z|z
  ·obtain⟨w,l,m,x,n⟩:=u g r z;exact⟨w,l,m,by rw[aF];omega,n⟩
  ·have e:r=d.b:=by simpa using z
   obtain⟨w,l,m,x,n⟩:=u g d.a s;have i:d.b∈(b++[(d.b,some d)]).map (·.1):=by rw[au];exact c_ _ (by simp)
   have o:gM st d.b=some (some d):=by rw[on.at_ i,xx t]
   have p:d∈ds:=bo.mp j;have A:d.sg≠bz:=by rw[k];exact fun z=>FG z.symm
   rw[e];refine⟨w++[d],.snoc l ⟨fun z=>absurd z A,fun _=>p⟩,?_,?_,?_⟩
   ·rw[uH,m];have:bZ [d]=[]:=by unfold bZ;rw[List.filter_cons_of_neg (by rw[k];simp)];rfl
    rw[this,f6]
   ·rw[aF,aF];show w.length+1<=N+(b.length+1);omega
   ·rw[qQ];exact .still o k n
theorem k4.back(m:aJ J0 J2 rooms ds){f:List (List Str)}{l:List aA}{st:aA}(h:k4 rooms ds f l st):(∀g∈f,g≠am)->∀r∈st.map (·.1),∃w,EO ds (cv rooms) w r/\bZ w=f/\w.length<=f.length * 151+st.length/\sX l st r w.reverse:=by
 induction h with
 |@nil st h =>
  intro _;refine sN (N:=0) h.1 (fun r i=>?_) h.1 (.refl _);have e:r=cv rooms:=by simpa using i
  refine⟨[],by rw[e];exact .nil,rfl,b_ _,.stop ?_⟩;rw[h.1.at_ i,e];exact xx (st:=[]) (by simp)
 |@snoc f l st g u a h x =>
  intro q;have n:∀s∈f,s≠am:=fun s y=>q s (da _ y);have j:g≠am:=q g (c_ _ (by simp));have I:=(a.kin m).len;have z:=m.rooms26;refine sN (N:=(f++[g]).length * 151) h.1 (fun r i=>?_) h.1 (.refl _);obtain⟨v,t⟩:=uo i;obtain⟨d,A,B,o,C,D⟩:=zA (r,v) (Dl t);have p:v=some d:=A;have k:d.b=r:=B;subst p;obtain⟨w,E,G,J,H⟩:=x n d.a C;rw[<-k];refine⟨w++[d],.snoc E D,?_,?_,?_⟩
  ·rw[uH,G];have:bZ [d]=[g]:=by unfold bZ;rw[List.filter_cons_of_pos (by rw[o];simp[j])];show[d.sg]=_;rw[o]
   rw[this]
  ·rw[aF,aF];show w.length+1<=(f.length+1) * 151+_;omega
  ·rw[qQ];exact .pop (by rw[k,h.1.at_ i];exact t) (by rw[o];exact j) H
end
def CN(K:Za)(H:Hp)(v:V):Option ai->Prop
 |none=>v=.non
 |some d=>∃t s,v=.ref t/\H t=some (.tup [.str d.a,.ref s,.str d.b])/\az K H s (d.sg.map V.str)
theorem CN.kt{K:Za}{H a:Hp}{v:V}{o:Option ai}(k:fO H a)(h:CN K H v o):CN K a v o:=by
 cases o with
 |none=>exact h
 |some d =>
  obtain⟨t,s,e,f,g⟩:=h;exact⟨t,s,e,k _ _ f,az.kt k g⟩
def KvAt(K:Za)(H:Hp)(kv:b0×V)(p:Str×Option ai):Prop:=kv.1=.inr p.1/\CN K H kv.2 p.2
abbrev fM(K:Za)(H:Hp)(kvs:List (b0×V))(st:aA):Prop:=Paired (KvAt K H) kvs st
theorem fM.kt{K:Za}{H e:Hp}{a:List (b0×V)}{st:aA}(k:fO H e)(h:fM K H a st):fM K e a st:=Paired.mapP h fun _ _ r=>⟨r.1,r.2.kt k⟩
theorem fM.look{K:Za}{H:Hp}{r:Str}:∀{e:List (b0×V)}{st:aA},fM K H e st->(cr e (.inr r:b0)=none/\gM st r=none)∨∃v o,cr e (.inr r:b0)=some v/\gM st r=some o/\CN K H v o
 |_,_,.nil=>.inl ⟨rfl,rfl⟩
 |_,_,.cons (a:=f) (b:=p) (l₁:=e) (l₂:=st) h t=>by
  obtain⟨g,i⟩:=h;by_cases c:p.1=r
  ·refine .inr ⟨f.2,p.2,?_,?_,i⟩
   ·unfold cr;rw[fB,g,zzr1 (by rw[c])];rfl
   ·unfold gM;rw[fB,zzr1 c];rfl
  ·have j:cr (f::e) (.inr r:b0)=cr e (.inr r:b0):=by
    unfold cr;rw[fB,g,zzr0 (fun z=>c (by injection z))]
   have k:gM (p::st) r=gM st r:=by
    unfold gM;rw[fB,zzr0 c]
   rw[j,k];exact fM.look t
theorem fM.keys{K:Za}{H:Hp}:∀{a:List (b0×V)}{st:aA},fM K H a st->(a.map fun e=>kV e.1)=(st.map (·.1)).map V.str
 |_,_,.nil=>rfl
 |_,_,.cons h t=>by
  rw[bu,bu,bu,fM.keys t,h.1];rfl
theorem fM.put{K:Za}{H:Hp}{e:List (b0×V)}{st:aA}{r:Str}{v:V}{o:Option ai}(h:fM K H e st)(g:CN K H v o):fM K H (di e (.inr r:b0) v) (iB st r o):=by
 have i:(e.any fun j=>decide (j.1=(.inr r:b0)))=st.any fun p=>decide (p.1=r):=by
  induction h with
  |nil=>rfl
  |cons a t f =>
   rw[ko,ko,f,a.1];congr 1;exact decide_eq_decide.2 ⟨fun z=>by injection z,fun z=>by rw[z]⟩
 unfold di iB;rw[i];split
 ·next k =>
  clear i k
  induction h with
  |nil=>exact .nil
  |@cons j p e st a t f =>
   rw[bu,bu];refine .cons ?_ f;by_cases c:p.1=r
   ·rw[if_pos (by rw[a.1,c]),if_pos c];exact⟨a.1,g⟩
   ·rw[if_neg (by rw[a.1];intro z;exact c (by injection z)),if_neg c];exact a
 ·exact cc h ⟨rfl,g⟩
inductive lr(K:Za)(C:Addr)(vs:List V)(H:Hp)(Q:VK)(E:XK):Prop
 |mk (H0:Hp) (x d:Addr) (kvs:List (b0×V)) (st:aA) (J0 J2 rooms:Zb) (ds:List ai):(vs=[.ref x,.ref d])->(bD C H0 x J0 J2 rooms ds)->(H0 d=none)->(ab H0 H)->(H d=some (.dK kvs))->(fM K H kvs st)->(sW rooms st) ->
  (∀(kvs':List (b0×V)) (st':aA) (H':Hp),H' d=some (.dK kvs')->fM K H' kvs' st'->kT ds st st'->cH d H H'->Q .non H')->lr K C vs H Q E
theorem Cc{K:Za}{C a:Addr}(ha:∀H,bt K H a (am.map V.str)){vs:List V}{H:Hp}{Q:VK}{E:XK}(h:lr K C vs H Q E):nz K C (hV K C) a (bq Q) (start ow vs) H:=by
 obtain⟨H0,x,d,a6,st,J0,J2,rooms,A,rfl,MA,ch,S0,hd,a7,kin,k⟩:=h;have z3:=MA.ok.rooms26;have a8:=MA.ok.good;have gd:∀q∈A,q.b∈rooms:=fun q hq=>(a8 q hq).b;have rm:∀{j},bL A st j->j.length<=rooms.length:=fun{j} o=>by
  have:=jk (o.nodup kin.nd) (o.rooms kin.inr gd fun hg=>bo.mp hg);simpa using this
 refine⟨_,rfl,.inr ⟨d,a6,rfl,.inl hd,fun s B=>?_⟩⟩;rw[a7.keys];have S1:ab H (upd H s (.lst ((st.map (·.1)).map V.str))):=ab.new B;have a9:upd H s (.lst ((st.map (·.1)).map V.str)) s=some (.lst ((st.map (·.1)).map V.str)):=aa;have aC:s≠d:=(af hd B).symm;have dc:H0 s=none:=S0.free B;generalize upd H s (.lst ((st.map (·.1)).map V.str))=H1 at S1 a9 ⊢;refine⟨fun n σ G=>∃(m:List (b0×V)) (j:aA) (f:Zb) (x3 Y:Option V),σ=[some (.ref x),some (.ref d),some (.ref s),x3,Y]/\G d=some (.dK m)/\fM K G m j/\G s=some (.lst (f.map V.str))/\Wt A st j f/\n=f.length+2 * (rooms.length-j.length)/\n<=300/\∀b o,H b=some o->b≠d->G b=some o,
  ⟨_,a6,st,st.map (·.1),_,_,rfl,S1 _ _ hd,a7.kt (ab.kt S1),a9,⟨.refl _,fun r h=>h,fun r h=>.inl h⟩,rfl,by rw[ak];have:=rm (.refl st);omega,fun b o e _=>S1 _ _ e⟩,?_⟩
 rintro n σ G ⟨D,L,f,x3,Y,rfl,bi,al,M,W,rfl,c5,bl⟩;refine⟨_,rfl,.inl ⟨s,_,rfl,.inl (ay.of M),_,_,rfl,rfl,_,rfl,?_⟩⟩;rw[ak];rcases List.eq_nil_or_concat f with e0|⟨u,room,e1⟩
 ·rw[e0,zzr0 (by show ¬(0:Int)<(([]:Zb).length:Nat);decide)];refine aU (k D L G bi al ⟨W.on,fun r hr=>?_⟩ fun b o e nb=>bl b o e nb);rcases W.done r hr with z|z
  ·rw[e0]at z;cases z
  ·exact z
 rw[List.concat_eq_append]at e1;subst e1;rw[zzr1 (by show(0:Int)<((u++[room]).length:Nat);rw[aF];show(0:Int)<((u.length+1:Nat));omega)];refine bx ?_;have l1:=rm W.on;refine⟨fun σ' I=>∃(m:List (b0×V)) (j:aA) (f:Zb) (x3 Y:Option V),σ'=[some (.ref x),some (.ref d),some (.ref s),x3,Y]/\I d=some (.dK m)/\fM K I m j/\I s=some (.lst (f.map V.str))/\Wt A st j f/\f.length+2 * (rooms.length-j.length)<(u++[room]).length+2 * (rooms.length-L.length)/\∀b o,H b=some o->b≠d->I b=some o,?_,?_⟩
 ·rintro σ' I ⟨m,j,f,x3,Y,rfl,b1,b2,b3,b4,b5,b6⟩;exact⟨_,b5,m,j,f,x3,Y,rfl,b1,b2,b3,b4,rfl,by omega,b6⟩
 refine⟨_,rfl,.inl ⟨rfl,_,ay.of M⟩,s,_,.str room,rfl,rfl,M,?_,?_⟩
 ·rw[au,aF,m9 (by show _<=_+1-1;omega)];show[V.str room][_+1-1-_]?=_;rw[u2,mh];rfl
 have cl:((u++[room]).map V.str).dropLast=u.map V.str:=by
  rw[au];exact uZ
 rw[cl];have cm:fO G (upd G s (.lst (u.map V.str))):=cO M;have a0:upd G s (.lst (u.map V.str)) d=some (.dK D):=by rw[aj aC.symm];exact bi
 have a4:upd G s (.lst (u.map V.str)) s=some (.lst (u.map V.str)):=aa;have a5:∀b o,H b=some o->b≠d->upd G s (.lst (u.map V.str)) b=some o:=fun b o e nb=>by rw[aj (af e B)];exact bl b o e nb
 have an:=al.kt cm;generalize upd G s (.lst (u.map V.str))=G2 at a0 a4 a5 an ⊢;have co:ab H0 G2:=fun b o e=>a5 _ _ (S0 _ _ e) (af e ch);have M2:=MA.same co;obtain⟨dm,fm,_,_,_,_,_,_,_,_,_,_,_,_,q1,_,q2,_⟩:=M2.at_;refine⟨_,rfl,x,dm,fm,rfl,q1,q2,_,rfl,x,a,room,am,J0,J2,rooms,A,rfl,M2,ha _,fun gl G3 bn b7 S3=>⟨gl,rfl,⟨_,ay.of bn⟩,?_⟩⟩;have cq:gl≠d:=(af a0 b7).symm;have cs:gl≠s:=(af a4 b7).symm;refine bP (xs:=(aP A (room,am)).map V.str) (fun i σ' I=>∃(m:List (b0×V)) (j:aA) (f:Zb) (Y:Option V),σ'=[some (.ref x),some (.ref d),some (.ref s),some (.str room),Y]/\I d=some (.dK m)/\fM K I m j/\I s=some (.lst (f.map V.str))/\bL A st j/\room∈j.map (·.1)/\(∀r∈f,r∈j.map (·.1))/\(∀r∈j.map (·.1),r=room∨r∈f∨∀g∈aP A (r,am),g∈j.map (·.1))/\(∀g∈(aP A (room,am)).take i,g∈j.map (·.1))/\f.length+2 * (rooms.length-j.length)<(u++[room]).length+2 * (rooms.length-L.length)/\∀b o,G3 b=some o->b≠d->b≠s->I b=some o)
  ⟨D,L,u,_,rfl,S3 _ _ a0,an.kt (ab.kt S3),S3 _ _ a4,W.on,W.there room (by simp),fun r h=>W.there r (by simp[h]),fun r h=>?_,by simp,by simp,fun _ _ e _ _=>e⟩ (fun i σ' I _ zq=>by obtain⟨_,_,_,_,_,_,_,_,_,_,_,_,_,_,ex⟩:=zq;exact ay.of (ex _ _ bn cq cs)) ?_ ?_
 ·rcases W.done r h with z|z
  ·rcases be.mp z with z|z
   ·exact .inr (.inl z)
   ·exact .inl (by simpa using z)
  ·exact .inr (.inr z)
 ·rintro i y σ' G4 hy ⟨l,p,w4,ct,rfl,J,t,N,on,ir,th,dn,tk,lt,O⟩;obtain⟨g,hg,rfl⟩:=bE hy;have b8:∀{T:aA},g∈T.map (·.1)->(∀y∈p.map (·.1),y∈T.map (·.1))->∀y∈(aP A (room,am)).take (i+1),y∈T.map (·.1):=fun{T} h1 h2 y hy=>by
   rw[take_snoc hg]at hy;rcases be.mp hy with z|z
   ·exact h2 y (tk y z)
   ·rw[bX.1 z];exact h1
  have gi:g∈aP A (room,am):=cw hg;refine⟨_,rfl,_,rfl,d,_,rfl,.inl ⟨l,.inr g,.inl J,rfl,rfl⟩,_,rfl,?_⟩;rcases t.look (r:=g)with⟨e1,e2⟩|⟨v,o,e1,e2,_⟩
  ·rw[e1];refine bx ?_;have ng:g∉p.map (·.1):=k9.1 e2;refine⟨_,rfl,_,rfl,(by show 3<=ah;decide),fun w c0=>?_⟩;have S5:ab G4 (upd G4 w (.tup [.str room,.ref a,.str g])):=ab.new c0;have t5:upd G4 w (.tup [.str room,.ref a,.str g]) w=some (.tup [.str room,.ref a,.str g]):=aa;generalize upd G4 w (.tup [.str room,.ref a,.str g])=G5 at S5 t5 ⊢;have b9:=S5 _ _ J;have c1:=S5 _ _ N;have cb:bL A st (p++[(g,some (⟨room,am,g⟩:ai))]):=.step (d:=⟨room,am,g⟩) on rfl ir gi ng;have l3:=rm cb;rw[aF]at l3;have l3:p.length+1<=rooms.length:=l3;have zk:l.length=p.length:=Paired.length t;refine⟨_,rfl,_,rfl,d,_,rfl,.inl ⟨l,.inr g,b9,rfl,by rw[ke];omega,rfl⟩,?_⟩;have c2:fO G5 (upd G5 d (.dK (di l (.inr g) (.ref w)))):=fun b xs q=>by rw[aj (fun z=>by rw[z,b9]at q;cases q)];exact q
   have as:fM K (upd G5 d (.dK (di l (.inr g) (.ref w)))) (di l (.inr g) (.ref w)) (p++[(g,some (⟨room,am,g⟩:ai))]):=by
    rw[<-um ng];exact((t.kt (ab.kt S5)).put (o:=some (⟨room,am,g⟩:ai)) ⟨w,a,rfl,t5,vk ha _⟩).kt c2
   have U:upd G5 d (.dK (di l (.inr g) (.ref w))) s=some (.lst (w4.map V.str)):=by rw[aj aC];exact c1
   have cd:upd G5 d (.dK (di l (.inr g) (.ref w))) d=some (.dK (di l (.inr g) (.ref w))):=aa;have ce:∀b o,G5 b=some o->b≠d->upd G5 d (.dK (di l (.inr g) (.ref w))) b=some o:=fun b o q n=>by rw[aj n];exact q
   generalize upd G5 d (.dK (di l (.inr g) (.ref w)))=G6 at as U cd ce ⊢;have k3:∀y∈p.map (·.1),y∈(p++[(g,some (⟨room,am,g⟩:ai))]).map (·.1):=fun y h=>by rw[au];exact da _ h
   have kg:g∈(p++[(g,some (⟨room,am,g⟩:ai))]).map (·.1):=by rw[au];exact c_ _ (by simp)
   refine⟨_,rfl,.inl ⟨rfl,_,ay.of U⟩,_,rfl,s,_,_,rfl,rfl,U,by rw[ak];exact aq (by omega),?_⟩;have c3:fO G6 (upd G6 s (.lst (w4.map V.str++[.str g]))):=cO U;refine⟨_,_,w4++[g],_,rfl,by rw[aj aC.symm];exact cd,as.kt c3,by rw[aa,au];rfl,cb,k3 _ ir,fun r h=>?_,fun r h=>?_,b8 kg k3,?_,fun b o q n1 n2=>?_⟩
   ·rcases be.1 h with h|h
    ·exact k3 r (th r h)
    ·rw[bX.1 h];exact kg
   ·rw[au]at h;rcases be.1 h with h|h
    ·rcases dn r h with z|z|z
     ·exact .inl z
     ·exact .inr (.inl (da _ z))
     ·exact .inr (.inr fun y hy=>k3 y (z y hy))
    ·have:r=g:=by simpa using h
     rw[this];exact .inr (.inl (c_ _ (by simp)))
   ·rw[aF,aF];have:([g]:Zb).length=1:=rfl;have:([(g,some (⟨room,am,g⟩:ai))]:aA).length=1:=rfl;omega
   ·rw[aj n2];exact ce _ _ (S5 _ _ (O _ _ q n1 n2)) n1
  ·rw[e1];refine aU ?_;have c4:g∈p.map (·.1):=by
    cases Classical.em (g∈p.map (·.1))with
    |inl h=>exact h
    |inr h=>rw[k9.2 h]at e2;cases e2
   exact⟨l,p,w4,_,rfl,J,t,N,on,ir,th,dn,b8 c4 fun _ h=>h,lt,O⟩
 ·rintro σ' G4 ⟨l,p,w4,ct,rfl,J,t,N,on,ir,th,dn,tk,lt,O⟩;rw[ak,a_]at tk;refine⟨l,p,w4,_,_,rfl,J,t,N,⟨on,th,fun r h=>?_⟩,lt,fun b o e nb=>O _ _ (S3 _ _ (a5 b o e nb)) nb (af e B)⟩;rcases dn r h with z|z|z
  ·rw[z];exact .inr tk
  ·exact .inl z
  ·exact .inr z
theorem FM{d:Addr}{o:Obj}{a:List (b0×V)}{g:TG}{k:TS}{D:ox}{σ:L2.St}{H:Hp}(Pv:Nat->L2.St->Hp->Prop)(n:Pv 0 σ H)(r:∀i σ H,i<=a.length->Pv i σ H->H d=some (.frz o (.dK a)))
  (s:∀i h σ H,a[i]?=some h->Pv i σ H->g (kV h.1) σ H fun σ2 j=>k { D with nx:=Pv (i+1),ct:=Pv (i+1),bk:=D.nx } σ2 j) (t:∀σ H,Pv a.length σ H->D.nx σ H) :
  ∃W:Nat->Nat->L2.St->Hp->Prop,(∃m,W 0 m σ H)/\∀i m σ H,W i m σ H ->
   ((G_ d o a).stop i H/\D.nx σ H)∨((G_ d o a).go i H/\∃N:L2.St->Hp->Prop,(∀σ' f,N σ' f->∃l,l<m/\W (i+1) l σ' f)/\∀x f,(G_ d o a).yld i H x f->g x σ f fun σ2 j=>k { D with nx:=N,ct:=N,bk:=D.nx } σ2 j):=by
 refine⟨fun i m σ H=>m=a.length-i/\i<=a.length/\Pv i σ H,⟨a.length,by simp,b_ _,n⟩,?_⟩;rintro i m σ H ⟨rfl,u,p⟩;have q:=r i σ H u p;by_cases lt:i<a.length
 ·refine .inr ⟨⟨q,lt⟩,Pv (i+1),fun σ' f v=>⟨a.length-(i+1),by omega,rfl,lt,v⟩,fun x f y=>?_⟩;obtain⟨rfl,h,w,rfl⟩:=y;exact s i h σ _ w p
 ·have e:i=a.length:=by omega
  subst e;exact .inl ⟨⟨q,aB _⟩,t σ H p⟩
inductive iD(K:Za)(C:Addr)(vs:List V)(H:Hp)(Q:VK)(E:XK):Prop
 |mk (H0:Hp) (x d su:Addr) (kvs:List (b0×V)) (st:aA) (sg:Sg) (J0 J2 rooms:Zb) (ds:List ai):(vs=[.ref x,.ref d,.ref su])->(bD C H0 x J0 J2 rooms ds)->(H0 d=none)->(ab H0 H)->(H d=some (.dK kvs))->(fM K H kvs st)->(az K H su (sg.map V.str)) ->
  (∀(o:Obj) (d':Addr) (kvs':List (b0×V)) (H':Hp),H' d=some (.frz o (.dK kvs))->H' d'=some (.dK kvs')->H d'=none->fM K H' kvs' (dD rooms ds sg (st.map (·.1)))->cH d H H'->Q (.ref d') H')->iD K C vs H Q E
theorem xB{K:Za}{C J:Addr}(hh:∀H,bt K H J (bz.map V.str)){vs:List V}{H:Hp}{Q:VK}{E:XK}(h:iD K C vs H Q E):yV K J C (iG C) (hV K C) (bq Q) (start Ar vs) H:=by
 obtain⟨H0,x,d,D,f,st,sg,J0,J2,rooms,ds,rfl,MA,a7,S0,hd,al,a8,k⟩:=h;have z3:=MA.ok.rooms26;have an:∀q∈ds,q.b∈rooms:=fun q hq=>(MA.ok.good q hq).b;refine fun e m=>?_;have S1:ab H (upd H e (.dK [])):=ab.new m;have d1:upd H e (.dK []) e=some (.dK []):=aa;have L:e≠d:=(af hd m).symm;have b9:H0 e=none:=S0.free m;generalize upd H e (.dK [])=Y at S1 d1 ⊢;refine⟨_,rfl,d,f,rfl,.inl ⟨S1 _ _ hd,fun o=>?_⟩⟩;have a9:fO Y (upd Y d (.frz o (.dK f))):=fun b xs q=>by rw[aj (fun z=>by rw[z,S1 _ _ hd]at q;cases q)];exact q
 have d2:upd Y d (.frz o (.dK f)) d=some (.frz o (.dK f)):=aa;have as:upd Y d (.frz o (.dK f)) e=some (.dK []):=by rw[aj L];exact d1
 have M:∀b u,H b=some u->b≠d->upd Y d (.frz o (.dK f)) b=some u:=fun b u q n=>by rw[aj n];exact S1 _ _ q
 generalize upd Y d (.frz o (.dK f))=H2 at a9 d2 as M ⊢;have zk:f.length=(st.map (·.1)).length:=by rw[Paired.length al,ak]
 refine FM (fun i σ G=>∃(a:List (b0×V)) (x4 x5:Option V),σ=[some (.ref x),some (.ref d),some (.ref D),some (.ref e),x4,x5]/\G e=some (.dK a)/\fM K G a (dD rooms ds sg ((st.map (·.1)).take i))/\∀b u,H2 b=some u->b≠e->G b=some u)
  ⟨[],_,_,rfl,as,.nil,fun _ _ q _=>q⟩ (fun i σ G _ zq=>by obtain⟨_,_,_,_,_,_,ex⟩:=zq;exact ex _ _ d2 L.symm) ?_ ?_
 ·rintro i kv σ G hi ⟨a,x4,x5,rfl,N,I,ex⟩;obtain⟨p,hp,bi,_⟩:=Paired.getL al hi;have hr:(st.map (·.1))[i]?=some p.1:=by rw[eZ,hp];rfl
  have bl:kV kv.1=V.str p.1:=by rw[bi];rfl
  rw[bl];have es:=vJ (rooms:=rooms) (ds:=ds) (sg:=sg) hr;have exH:∀b u,H b=some u->b≠d->G b=some u:=fun b u q n=>ex _ _ (M b u q n) (af q m);have bn:ab H0 G:=fun b u q=>exH _ _ (S0 _ _ q) (af q a7);have b1:fO H G:=fun b xs q=>exH b _ q fun z=>by rw[z,hd]at q;cases q
  have MG:=MA.same bn;have kin:sW rooms (dD rooms ds sg ((st.map (·.1)).take i)):=kC an _;have aC:a.length<=150:=by rw[Paired.length I];exact bm kin.len z3
  generalize dD rooms ds sg ((st.map (·.1)).take i)=base at I kin es aC;obtain⟨dm,fm,_,_,_,_,_,_,_,_,_,_,_,_,q1,qi,q2,_⟩:=MG.at_;have t:=az.kt b1 a8;refine⟨_,rfl,fu sg,fu bz,aS (az.sq t),aS (hh G),by rw[bC];decide,by rw[bC];decide,_,rfl,?_⟩;rw[d6];by_cases cs:sg=bz
  ·rw[zzr1 cs];refine bx ?_;refine⟨_,rfl,x,dm,fm,rfl,q1,qi,_,rfl,x,p.1,J0,J2,rooms,ds,rfl,MG,_,rfl,?_⟩;by_cases cq:p.1∈rooms.filter (dS ds)
   ·rw[zzr1 cq];refine bx ⟨_,rfl,_,rfl,(by show 3<=ah;decide),fun s O=>?_⟩;have A:ab G (upd G s (.tup [.str p.1,.ref J,.str p.1])):=ab.new O;have t3:upd G s (.tup [.str p.1,.ref J,.str p.1]) s=some (.tup [.str p.1,.ref J,.str p.1]):=aa;have T:=A _ _ N;have a0:=I.kt (ab.kt A);refine⟨_,rfl,_,rfl,e,_,rfl,.inl ⟨a,.inr p.1,T,rfl,by rw[ke];omega,rfl⟩,?_⟩;generalize upd G s (.tup [.str p.1,.ref J,.str p.1])=G3 at A t3 T a0 ⊢;have b2:fO G3 (upd G3 e (.dK (di a (.inr p.1) (.ref s)))):=fun b xs q=>by rw[aj (fun z=>by rw[z,T]at q;cases q)];exact q
    refine⟨_,_,_,rfl,aa,?_,fun b u q n=>by rw[aj n];exact A _ _ (ex b u q n)⟩;rw[es];unfold cR;rw[if_pos cs,if_pos cq];exact(a0.put (o:=some (⟨p.1,bz,p.1⟩:ai)) ⟨s,J,rfl,t3,vk hh _⟩).kt b2
   ·rw[zzr0 cq];refine aU ⟨a,_,_,rfl,N,?_,ex⟩;rw[es];unfold cR;rw[if_pos cs,if_neg cq];exact I
  ·rw[zzr0 cs];refine aU ?_;refine⟨_,rfl,x,dm,fm,rfl,q1,q2,_,rfl,_,rfl,x,D,p.1,sg,J0,J2,rooms,ds,rfl,MG,az.sq t,fun gl G3 a4 b3 A=>⟨gl,rfl,⟨_,ay.of a4⟩,?_⟩⟩;have b4:gl≠e:=(af N b3).symm;have ep:∀acc:aA,cR rooms ds sg acc p.1=gF ds sg p.1 (aP ds (p.1,sg)) acc:=fun acc=>by unfold cR;rw[if_neg cs]
   have gg:∀g∈aP ds (p.1,sg),g∈rooms:=fun g hg=>an _ (bo.mp hg);refine bP (xs:=(aP ds (p.1,sg)).map V.str) (fun j σ G'=>∃(v:List (b0×V)) (x5:Option V),σ=[some (.ref x),some (.ref d),some (.ref D),some (.ref e),some (.str p.1),x5]/\G' e=some (.dK v)/\fM K G' v (gF ds sg p.1 ((aP ds (p.1,sg)).take j) base)/\∀b u,G3 b=some u->b≠e->G' b=some u)
    ⟨a,_,rfl,A _ _ N,I.kt (ab.kt A),fun _ _ q _=>q⟩ (fun j σ G' _ zq=>by obtain⟨_,_,_,_,_,b5⟩:=zq;exact ay.of (b5 _ _ a4 b4)) ?_ ?_
   ·rintro j y σ G4 hy ⟨l,b6,rfl,U,w,B⟩;obtain⟨g,hg,rfl⟩:=bE hy;have a5:=sW.goals (ds:=ds) (sg:=sg) (r:=p.1) (gs:=(aP ds (p.1,sg)).take j) kin fun g hg=>gg g (g8 hg);have z4:l.length<=150:=by rw[Paired.length w];exact bm a5.len z3
    refine⟨_,rfl,_,rfl,_,rfl,(by show 3<=ah;decide),fun s O=>?_⟩;have S5:ab G4 (upd G4 s (.tup [.str p.1,.ref D,.str g])):=ab.new O;have t5:upd G4 s (.tup [.str p.1,.ref D,.str g]) s=some (.tup [.str p.1,.ref D,.str g]):=aa;generalize upd G4 s (.tup [.str p.1,.ref D,.str g])=G5 at S5 t5 ⊢;have a6:=S5 _ _ U;have b7:fO G G5:=fun b xs q=>S5 _ _ (B _ _ (A _ _ q) fun z=>by rw[z,N]at q;cases q);refine⟨_,rfl,_,rfl,e,_,rfl,.inl ⟨l,.inr g,a6,rfl,by rw[ke];omega,rfl⟩,?_⟩;have b8:fO G5 (upd G5 e (.dK (di l (.inr g) (.ref s)))):=fun b xs q=>by rw[aj (fun z=>by rw[z,a6]at q;cases q)];exact q
    refine⟨_,_,rfl,aa,?_,fun b u q n=>by rw[aj n];exact S5 _ _ (B _ _ q n)⟩;rw[take_snoc hg];unfold gF;rw[qS];exact((w.kt (ab.kt S5)).put (o:=some (⟨p.1,sg,g⟩:ai)) ⟨s,D,rfl,t5,az.kt b7 t⟩).kt b8
   ·rintro σ G4 ⟨l,b6,rfl,U,w,B⟩;rw[ak,a_]at w;refine⟨l,_,_,rfl,U,?_,fun b u q n=>B _ _ (A _ _ (ex b u q n)) n⟩;rw[es,ep];exact w
 ·rintro σ G ⟨a,x4,x5,rfl,N,I,ex⟩;rw[zk,a_]at I;exact⟨_,rfl,k o e a G (ex _ _ d2 L.symm) N m I fun b u q n=>ex _ _ (M b u q n) (af q m)⟩
def iZ(K:Za)(H:Hp)(a:Addr)(st:aA):Prop:=∃(o:Obj) (kvs:List (b0×V)),H a=some (.frz o (.dK kvs))/\fM K H kvs st
theorem iZ.ex{K:Za}{H i:Hp}{a c:Addr}{st:aA}{f:List (b0×V)}(h:iZ K H a st)(j:H c=some (.dK f))(e:cH c H i):iZ K i a st:=by
 obtain⟨o,k,g,l⟩:=h;exact⟨o,k,e _ _ g (fun z=>by rw[z,j]at g;cases g),l.kt fun b m q=>e _ _ q fun z=>by rw[z,j]at q;cases q⟩
theorem iZ.same{K:Za}{H e:Hp}{a:Addr}{st:aA}(h:iZ K H a st)(S:ab H e):iZ K e a st:=by
 obtain⟨o,f,g,i⟩:=h;exact⟨o,f,S _ _ g,i.kt (ab.kt S)⟩
inductive lp(K:Za)(C:Addr)(vs:List V)(H:Hp)(Q:VK)(E:XK):Prop
 |mk (x sl:Addr) (story:List Sg) (J0 J2 rooms:Zb) (ds:List ai):(vs=[.ref x,.ref sl])->(bD C H x J0 J2 rooms ds)->(dq K H sl story)->(story.length<=1101) ->
  (∀(al d:Addr) (as:Ze) (kvs:List (b0×V)) (fz:List aA) (st:aA) (H':Hp),k4 rooms ds story fz st->H' al=some (.lst ((as++[d]).map V.ref))->H al=none->Paired (iZ K H') as fz.reverse->H' d=some (.dK kvs)->fM K H' kvs st->ab H H'->Q (.ref al) H')->lp K C vs H Q E
theorem Cb{K:Za}{C:Addr}{vs:List V}{H:Hp}{Q:VK}{E:XK}(h:lp K C vs H Q E):tm K (lr K C) (iD K C) C (kD C) (bq Q) (start tW vs) H:=by
 obtain⟨x,sl,l,J0,J2,rooms,ds,rfl,MA,⟨gs,a5,a6⟩,zs,k⟩:=h;have m:=MA.ok;have z3:=m.rooms26;obtain⟨ef,cl⟩:=m.first;refine fun d hd=>?_;have S1:ab H (upd H d (.dK [])):=ab.new hd;have d1:upd H d (.dK []) d=some (.dK []):=aa;generalize upd H d (.dK [])=H1 at S1 d1 ⊢;obtain⟨dm,fm,_,_,_,_,_,_,_,_,_,_,_,_,q1,_,_,_,q4,_⟩:=(MA.same S1).at_;refine⟨_,rfl,x,dm,fm,rfl,q1,q4,x,J0,J2,rooms,ds,rfl,MA.same S1,fun rl cm=>?_⟩;have S2:ab H1 (upd H1 rl (.lst (rooms.map V.str))):=ab.new cm;have r2:upd H1 rl (.lst (rooms.map V.str)) rl=some (.lst (rooms.map V.str)):=aa;generalize upd H1 rl (.lst (rooms.map V.str))=H2 at S2 r2 ⊢;have co:(rooms.map V.str)[0]?=some (.str (cv rooms)):=by rw[eZ,ef];rfl
 refine⟨rl,_,0,.str (cv rooms),rfl,rfl,ay.of r2,aG (j:=0) co,?_⟩;have d2:=S2 _ _ d1;refine⟨d2,[(.inr (cv rooms),.non)],rfl,(by show 1<=15;decide),?_⟩;have cq:fO H2 (upd H2 d (.dK (eC [] [(.inr (cv rooms),.non)]))):=fun b xs q=>by rw[aj (fun z=>by rw[z,d2]at q;cases q)];exact q
 have d3:upd H2 d (.dK (eC [] [(.inr (cv rooms),.non)])) d=some (.dK [(.inr (cv rooms),.non)]):=aa;have a7:∀b o,H b=some o->upd H2 d (.dK (eC [] [(.inr (cv rooms),.non)])) b=some o:=fun b o q=>by rw[aj (af q hd)];exact S2 _ _ (S1 _ _ q)
 generalize upd H2 d (.dK (eC [] [(.inr (cv rooms),.non)]))=H3 at cq d3 a7 ⊢;have O:ab H H3:=a7;refine⟨_,rfl,(by show 1<=ah;decide),fun g a8=>?_⟩;have S4:ab H3 (upd H3 g (.lst [.ref d])):=ab.new a8;have I:upd H3 g (.lst [.ref d]) g=some (.lst (([]++[d]:Ze).map V.ref)):=aa;have a9:H g=none:=O.free a8;generalize upd H3 g (.lst [.ref d])=H4 at S4 I ⊢;have d4:=S4 _ _ d3;have bi:fM K H4 [(.inr (cv rooms),.non)] [(cv rooms,none)]:=.cons ⟨rfl,rfl⟩ .nil;have bl:sW rooms [(cv rooms,none)]:=⟨by simp,fun r hr=>by have:r=cv rooms:=(by simpa using hr);rw[this];exact cl⟩;refine⟨_,rfl,_,rfl,H,x,d,_,_,J0,J2,rooms,ds,rfl,MA,hd,O.trans S4,d4,bi,bl,fun bn cs H5 d5 b1 ct b2=>?_⟩;have b3:ab H H5:=fun b o q=>b2 _ _ ((O.trans S4) _ _ q) (af q hd);have c0:g≠d:=fun z=>by rw[z,d4]at I;cases I
 refine⟨_,rfl,sl,rfl,⟨_,ay.of (b3 _ _ a5)⟩,?_⟩;have zg:gs.length=l.length:=Paired.length a6;refine bP (xs:=gs.map V.ref) (fun i σ G=>∃(e:Addr) (t:Ze) (p:List (b0×V)) (T:List aA) (st:aA) (x4:Option V),σ=[some (.ref x),some (.ref sl),some (.ref e),some (.ref g),x4]/\k4 rooms ds (l.take i) T st/\G g=some (.lst ((t++[e]).map V.ref))/\t.length=i/\Paired (iZ K G) t T.reverse/\G e=some (.dK p)/\fM K G p st/\H e=none/\ab H G)
  ⟨d,[],bn,[],cs,_,rfl,.nil ct,b2 _ _ I c0,rfl,.nil,d5,b1,hd,b3⟩ (fun i σ G _ zq=>by obtain⟨_,_,_,_,_,_,_,_,_,_,_,_,_,_,S⟩:=zq;exact ay.of (S _ _ a5)) ?_ ?_
 ·rintro i v σ G hi ⟨e,t,p,T,st,x4,rfl,A,y,za,U,Y,J,he,SG⟩;obtain⟨su,c1,rfl⟩:=bF hi;obtain⟨sg,b4,c2⟩:=Paired.getL a6 c1;have il:i<l.length:=(ca.1 b4).1;have c3:g≠e:=fun z=>by rw[z,Y]at y;cases y
  refine⟨_,rfl,_,rfl,_,rfl,H,x,e,su,p,st,sg,J0,J2,rooms,ds,rfl,MA,he,SG,Y,J,az.kt (ab.kt SG) c2,fun o B b5 D g1 b6 an b7 L=>?_⟩;have f:=L _ _ y c3;have dk:B≠e:=fun z=>by rw[z,Y]at an;cases an
  have N:g≠B:=fun z=>by rw[z,b6]at f;cases f
  have c4:ab H D:=fun b u q=>L _ _ (SG _ _ q) (af q he);have aC:H B=none:=SG.free an;have b8:Paired (iZ K D) t T.reverse:=Paired.mapP U fun _ _ r=>r.ex Y L;have c5:iZ K D e st:=⟨o,p,g1,J.kt fun b xs q=>L _ _ q fun z=>by rw[z,Y]at q;cases q⟩;refine⟨_,rfl,.inl ⟨rfl,_,ay.of f⟩,_,rfl,g,_,_,rfl,rfl,f,by rw[ak,aF,za];exact vc (m:=2000) (by show _+1<=2000;omega) (by rw[ke];decide),?_⟩;have b9:upd D g (.lst ((t++[e]).map V.ref++[.ref B])) g=some (.lst (((t++[e])++[B]).map V.ref)):=by rw[aa,au (l₁:=t++[e])];rfl
  have M:∀b u,D b=some u->b≠g->upd D g (.lst ((t++[e]).map V.ref++[.ref B])) b=some u:=fun b u q n=>by rw[aj n];exact q
  have a0:fO D (upd D g (.lst ((t++[e]).map V.ref++[.ref B]))):=cO f;generalize upd D g (.lst ((t++[e]).map V.ref++[.ref B]))=G2 at b9 M a0 ⊢;have cb:∀{a:Addr}{s:aA},iZ K D a s->iZ K G2 a s:=fun{a s} r=>by
   obtain⟨o,kv,h1,h2⟩:=r;exact⟨o,kv,M _ _ h1 (fun z=>by rw[z,f]at h1;cases h1),h2.kt a0⟩
  have a4:=M _ _ b6 N.symm;have cd:ab H G2:=fun b u q=>M _ _ (c4 _ _ q) (af q a9);refine⟨_,rfl,_,rfl,H,x,B,b5,_,J0,J2,rooms,ds,rfl,MA,aC,cd,a4,b7.kt a0,kC (fun q hq=>(m.good q hq).b) _,fun ce dc G3 g3 ch dd w=>?_⟩;refine⟨B,t++[e],ce,st::T,dc,_,rfl,?_,w _ _ b9 N,by rw[aF,za];rfl,?_,g3,ch,aC,fun b u q=>w _ _ (cd _ _ q) (af q aC)⟩
  ·rw[take_snoc b4];exact .snoc A dd
  ·rw[oN];exact cc (Paired.mapP b8 fun _ _ r=>(cb r).ex a4 w) ((cb c5).ex a4 w)
 ·rintro σ G ⟨e,t,p,T,st,x4,rfl,A,y,za,U,Y,J,he,SG⟩;rw[ak,zg,a_]at A;exact⟨_,rfl,k g e t p T st G A y a9 U Y J SG⟩
theorem Du{H H':Hp}{d:Addr}{x:HO}(k:∀o,H d=some o->H' d=some o)(h:Rd H d x):Rd H' d x:=h.imp (k _) fun⟨o,e⟩=>⟨o,k _ e⟩
def yO(K:Za)(H:Hp)(t:Addr)(d:ai):Prop:=∃s,H t=some (.tup [.str d.a,.ref s,.str d.b])/\az K H s (d.sg.map V.str)
theorem yO.kt{K:Za}{H a:Hp}{t:Addr}{d:ai}(k:fO H a)(h:yO K H t d):yO K a t d:=by
 obtain⟨s,e,f⟩:=h;exact⟨s,k _ _ e,az.kt k f⟩
theorem xO{α β:Type}{R:α->β->Prop}{f:List α}{bs:List β}{b:β}(h:Paired R f (bs++[b])):∃e a,f=e++[a]/\Paired R e bs/\R a b:=by
 have g:=Paired.length h;rw[aF]at g;have g:f.length=bs.length+1:=g;obtain⟨a,j,r⟩:=Paired.get (i:=bs.length) (y:=b) h (by rw[m9 (aB _),mh];rfl);refine⟨f.take bs.length,a,by rw[<-take_snoc j,<-g,a_],?_,r⟩;have:=Paired.takeP bs.length h;rw[List.take_left' rfl]at this;exact this
inductive nH(K:Za)(C:Addr)(vs:List V)(H:Hp)(Q:VK)(E:XK):Prop
 |mk (x sl:Addr) (story:List Sg) (J0 J2 rooms:Zb) (ds:List ai):(vs=[.ref x,.ref sl])->(bD C H x J0 J2 rooms ds)->(dq K H sl story)->(story.length<=1101)->(∀sg∈story,sg≠am)->(faceOf rooms ds story=[]->∀H',ab H H'->Q .non H') ->
  (faceOf rooms ds story≠[]->∀(l:Addr) (ts:Ze) (w:List ai) (H':Hp),H' l=some (.lst (ts.map V.ref))->H l=none->Paired (yO K H') ts w->C0 ds (cv rooms) w=true->bZ w=story->w.length<=200000->ab H H'->Q (.ref l) H')->nH K C vs H Q E
theorem Do{K:Za}{C a:Addr}(ha:∀H,bt K H a (am.map V.str)){vs:List V}{H:Hp}{Q:VK}{E:XK}(h:nH K C vs H Q E):BF K a (lp K C) (bq Q) (start CP vs) H:=by
 obtain⟨x,sl,D,J0,J2,rooms,ds,rfl,MA,hs,zs,cq,k0,k1⟩:=h;have m:=MA.ok;have z3:=m.rooms26;refine⟨_,rfl,_,rfl,x,sl,D,J0,J2,rooms,ds,rfl,MA,hs,zs,fun J d p f O st H1 A u cb an gd T S1=>?_⟩;have cs:(p++[d]).map V.ref=p.map V.ref++[.ref d]:=by rw[au];rfl
 rw[cs]at u;have zk:f.length=st.length:=Paired.length T;have face:=A.face m;refine⟨_,rfl,_,rfl,J,_,-1,.ref d,rfl,rfl,ay.of u,sO _ _,.inr ⟨d,f,rfl,.inl gd,rfl,_,rfl,?_⟩⟩;rcases st with _|⟨p0,L⟩
 ·rw[zzr1 (by rw[zk];rfl)];refine bx (k0 ?_ H1 S1);cases ef:faceOf rooms ds D with
  |nil=>rfl
  |cons r l=>exact absurd ((face r).2 (by rw[ef];exact du)) (by simp)
 have zk:f.length=L.length+1:=zk;rw[zzr0 (by intro z;injection z with z;omega)];refine aU ?_;have cd:p0.1∈(p0::L).map (·.1):=du;have ct:faceOf rooms ds D≠[]:=fun z=>by have:=(face p0.1).1 cd;rw[z]at this;cases this
 obtain⟨w,wk,hw,zw,bk⟩:=A.back m cq p0.1 cd;have dm:(p0::L).length<=150:=bm (A.kin m).len z3;have c0:w.length<=200000:=by have:D.length * 151<=1101 * 151:=Nat.mul_le_mul_right _ zs;omega
 refine⟨_,rfl,_,rfl,J,_,-1,.ref d,rfl,rfl,ay.of u,sO _ _,.inr ⟨d,f,rfl,.inl gd,fun kl c1=>?_⟩⟩;rw[T.keys];have S2:ab H1 (upd H1 kl (.lst (((p0::L).map (·.1)).map V.str))):=ab.new c1;have ce:upd H1 kl (.lst (((p0::L).map (·.1)).map V.str)) kl=some (.lst (((p0::L).map (·.1)).map V.str)):=aa;generalize upd H1 kl (.lst (((p0::L).map (·.1)).map V.str))=H2 at S2 ce ⊢;refine⟨kl,_,0,.str p0.1,rfl,rfl,ay.of ce,aG (j:=0) rfl,?_⟩;refine⟨(by show 0<=ah;decide),fun g bi=>?_⟩;have S3:ab H2 (upd H2 g (.lst [])):=ab.new bi;have ch:upd H2 g (.lst []) g=some (.lst (([]:Ze).map V.ref)):=aa;generalize upd H2 g (.lst [])=H3 at S3 ch ⊢;have aC:=S2.trans S3;have a0:=aC _ _ u;have a6:J≠g:=af (S2 _ _ u) bi;have a7:H g=none:=(S1.trans S2).free bi;refine⟨_,rfl,.inl ⟨rfl,_,ay.of a0⟩,J,_,.ref d,rfl,rfl,a0,?_,?_⟩
 ·rw[aF,m9 (by show _<=_+1-1;omega)];show[V.ref d][_+1-1-_]?=_;rw[u2,mh];rfl
 rw[show(p.map V.ref++[V.ref d]).dropLast=p.map V.ref from uZ];have popped:∀{G:Hp}{xs ys:List V},G J=some (.lst xs)->fO G (upd G J (.lst ys))/\(∀{b:Addr}{s:aA},iZ K G b s->iZ K (upd G J (.lst ys)) b s):=fun{G xs ys} e=>by
  have kt:fO G (upd G J (.lst ys)):=cO e;refine⟨kt,fun{b s} r=>?_⟩;obtain⟨o,kv,Y,h2⟩:=r;exact⟨o,kv,by rw[aj (fun z=>by rw[z,e]at Y;cases Y)];exact Y,h2.kt kt⟩
 obtain⟨c2,c3⟩:=popped (ys:=p.map V.ref) a0;have c4:J≠d:=fun z=>by rw[z,gd]at u;cases u
 refine⟨fun n σ G=>∃(e:Addr) (p:Ze) (f:List (b0×V)) (O:List aA) (st:aA) (r:Str) (i:Ze) (M I:List ai) (x6:Option V),σ=[some (.ref x),some (.ref sl),some (.ref J),some (.str r),some (.ref g),some (.ref e),x6]/\G J=some (.lst (p.map V.ref))/\Paired (iZ K G) p O.reverse/\Rd G e (.dK f)/\fM K G f st/\sX O st r I/\G g=some (.lst (i.map V.ref))/\Paired (yO K G) i M/\M++I=w.reverse/\n=I.length/\ab H G,
  ⟨_,d,p,f,O,p0::L,p0.1,[],[],w.reverse,_,rfl,aa,Paired.mapP an fun _ _ r=>c3 (r.same aC),.inl (by rw[aj c4.symm];exact aC _ _ gd),(T.kt (ab.kt aC)).kt c2,bk,by rw[aj a6.symm];exact ch,.nil,rfl,rfl,fun b o q=>by rw[aj (af q cb)];exact(S1.trans aC) _ _ q⟩,?_⟩
 rintro n σ G ⟨e,p,f,O,st,r,i,M,I,x6,rfl,u,an,rd,T,bk,k,a8,ew,rfl,SG⟩;have dp:i.length=M.length:=Paired.length a8;have dr:M.length+I.length=w.length:=by rw[<-aF,ew,oM]
 have go:∀{q:ai}{ws:List ai},gM st r=some (some q)->I=q::ws->∃t s,cr f (.inr r:b0)=some (.ref t)/\G t=some (.tup [.str q.a,.ref s,.str q.b])/\az K G s (q.sg.map V.str):=fun{q ws} Y _=>by
  rcases T.look (r:=r)with⟨_,U⟩|⟨v,o,e1,U,e3⟩
  ·rw[Y]at U;cases U
  ·rw[Y]at U;injection U with U;subst U;obtain⟨t,s,rfl,q1,q2⟩:=e3;exact⟨t,s,e1,q1,q2⟩
 cases bk with
 |stop hn =>
  rcases T.look (r:=r)with⟨_,U⟩|⟨v,o,e1,U,e3⟩
  ·rw[hn]at U;cases U
  rw[hn]at U;injection U with U;subst U;have e3:v=.non:=e3;subst e3;refine⟨_,rfl,_,rfl,e,_,rfl,.inl ⟨f,.inr r,rd,rfl,e1.symm⟩,_,rfl,?_⟩;refine aU ?_;rw[f6]at ew;refine⟨_,rfl,.inl ⟨rfl,_,ay.of k⟩,g,_,rfl,rfl,k,?_⟩;have kt:fO G (upd G g (.lst (i.map V.ref).reverse)):=cO k;refine⟨_,rfl,k1 ct g i.reverse w _ (by rw[aa,List.map_reverse]) a7 ?_ wk.ok hw c0 fun b o q=>by rw[aj (af q a7)];exact SG _ _ q⟩;have:=Paired.rev (Paired.mapP a8 fun _ _ r=>r.kt kt);rw[ew,List.reverse_reverse]at this;exact this
 |@still _ _ _ q ws hn es b =>
  obtain⟨t,s,e1,q1,q2⟩:=go hn rfl;refine⟨_,rfl,_,rfl,e,_,rfl,.inl ⟨f,.inr r,rd,rfl,e1.symm⟩,_,rfl,?_⟩;refine bx ⟨fun σ' N=>∃(e:Addr) (p:Ze) (f:List (b0×V)) (O:List aA) (st:aA) (r:Str) (i:Ze) (M I:List ai) (x6:Option V),σ'=[some (.ref x),some (.ref sl),some (.ref J),some (.str r),some (.ref g),some (.ref e),x6]/\N J=some (.lst (p.map V.ref))/\Paired (iZ K N) p O.reverse/\Rd N e (.dK f)/\fM K N f st/\sX O st r I/\N g=some (.lst (i.map V.ref))/\Paired (yO K N) i M/\M++I=w.reverse/\I.length<(q::ws).length/\ab H N,?_,?_⟩
  ·rintro σ' N ⟨e,p,f,O,st,r,i,M,I,x6,rfl,b1,b2,b3,b4,b5,b6,b7,b8,b9,bl⟩;exact⟨_,b9,e,p,f,O,st,r,i,M,I,x6,rfl,b1,b2,b3,b4,b5,b6,b7,b8,rfl,bl⟩
  refine⟨_,rfl,_,rfl,e,_,rfl,.inl ⟨f,.inr r,rd,rfl,e1.symm⟩,?_⟩;refine⟨_,rfl,.inl ⟨rfl,_,ay.of k⟩,_,rfl,g,_,_,rfl,rfl,k,by rw[ak,ke];show _<_;omega,?_⟩;have kt:fO G (upd G g (.lst (i.map V.ref++[.ref t]))):=cO k;have a4:upd G g (.lst (i.map V.ref++[.ref t])) g=some (.lst ((i++[t]).map V.ref)):=by rw[aa,au];rfl
  have y:∀b o,G b=some o->b≠g->upd G g (.lst (i.map V.ref++[.ref t])) b=some o:=fun b o q n=>by rw[aj n];exact q
  generalize upd G g (.lst (i.map V.ref++[.ref t]))=G2 at kt a4 y ⊢;have a9:∀{b:Addr}{s:aA},iZ K G b s->iZ K G2 b s:=fun{b s} r=>by
   obtain⟨o,kv,Y,h2⟩:=r;exact⟨o,kv,y _ _ Y (fun z=>by rw[z,k]at Y;cases Y),h2.kt kt⟩
  have c5:Rd G2 e (.dK f):=Du (fun o q=>y _ _ q fun z=>by rw[z,k]at q;rcases rd with r|⟨_,r⟩<;>(rw[z,k]at r;cases r)) rd;refine⟨_,rfl,t,_,0,_,rfl,rfl,bt.of (kt _ _ q1),aG (j:=0) rfl,?_⟩;refine⟨_,rfl,t,_,1,_,rfl,rfl,bt.of (kt _ _ q1),aG (j:=1) rfl,fu q.sg,fu am,aS (az.sq (az.kt kt q2)),aS (ha _),by rw[bC];decide,by rw[bC];decide,_,rfl,?_⟩;rw[d6,zzr1 es];refine aU ⟨e,p,f,O,st,q.a,i++[t],M++[q],ws,_,rfl,y _ _ u a6,Paired.mapP an fun _ _ r=>a9 r,c5,T.kt kt,b,a4,cc (Paired.mapP a8 fun _ _ r=>r.kt kt) ⟨s,kt _ _ q1,az.kt kt q2⟩,by rw[cA];exact ew,wN _,fun b o q=>y _ _ (SG _ _ q) (af q a7)⟩
 |@pop dc _ dd _ q ws hn es b =>
  obtain⟨t,s,e1,q1,q2⟩:=go hn rfl;refine⟨_,rfl,_,rfl,e,_,rfl,.inl ⟨f,.inr r,rd,rfl,e1.symm⟩,_,rfl,?_⟩;refine bx ⟨fun σ' N=>∃(e:Addr) (p:Ze) (f:List (b0×V)) (O:List aA) (st:aA) (r:Str) (i:Ze) (M I:List ai) (x6:Option V),σ'=[some (.ref x),some (.ref sl),some (.ref J),some (.str r),some (.ref g),some (.ref e),x6]/\N J=some (.lst (p.map V.ref))/\Paired (iZ K N) p O.reverse/\Rd N e (.dK f)/\fM K N f st/\sX O st r I/\N g=some (.lst (i.map V.ref))/\Paired (yO K N) i M/\M++I=w.reverse/\I.length<(q::ws).length/\ab H N,?_,?_⟩
  ·rintro σ' N ⟨e,p,f,O,st,r,i,M,I,x6,rfl,b1,b2,b3,b4,b5,b6,b7,b8,b9,bl⟩;exact⟨_,b9,e,p,f,O,st,r,i,M,I,x6,rfl,b1,b2,b3,b4,b5,b6,b7,b8,rfl,bl⟩
  refine⟨_,rfl,_,rfl,e,_,rfl,.inl ⟨f,.inr r,rd,rfl,e1.symm⟩,?_⟩;refine⟨_,rfl,.inl ⟨rfl,_,ay.of k⟩,_,rfl,g,_,_,rfl,rfl,k,by rw[ak,ke];show _<_;omega,?_⟩;have kt:fO G (upd G g (.lst (i.map V.ref++[.ref t]))):=cO k;have a4:upd G g (.lst (i.map V.ref++[.ref t])) g=some (.lst ((i++[t]).map V.ref)):=by rw[aa,au];rfl
  have y:∀b o,G b=some o->b≠g->upd G g (.lst (i.map V.ref++[.ref t])) b=some o:=fun b o q n=>by rw[aj n];exact q
  generalize upd G g (.lst (i.map V.ref++[.ref t]))=G2 at kt a4 y ⊢;have a9:∀{b:Addr}{s:aA},iZ K G b s->iZ K G2 b s:=fun{b s} r=>by
   obtain⟨o,kv,Y,h2⟩:=r;exact⟨o,kv,y _ _ Y (fun z=>by rw[z,k]at Y;cases Y),h2.kt kt⟩
  refine⟨_,rfl,t,_,0,_,rfl,rfl,bt.of (kt _ _ q1),aG (j:=0) rfl,?_⟩;refine⟨_,rfl,t,_,1,_,rfl,rfl,bt.of (kt _ _ q1),aG (j:=1) rfl,fu q.sg,fu am,aS (az.sq (az.kt kt q2)),aS (ha _),by rw[bC];decide,by rw[bC];decide,_,rfl,?_⟩;rw[d6,zzr0 es];refine bx ?_;rw[oN]at an;obtain⟨a5,e',rfl,cl,fe⟩:=xO an;have B:=y _ _ u a6;rw[au]at B;have B:G2 J=some (.lst (a5.map V.ref++[.ref e'])):=B;refine⟨_,rfl,.inl ⟨rfl,_,ay.of B⟩,J,_,.ref e',rfl,rfl,B,?_,?_⟩
  ·rw[aF,m9 (by show _<=_+1-1;omega)];show[V.ref e'][_+1-1-_]?=_;rw[u2,mh];rfl
  rw[show(a5.map V.ref++[V.ref e']).dropLast=a5.map V.ref from uZ];obtain⟨bn,cm⟩:=popped (ys:=a5.map V.ref) B;obtain⟨o',co,g',dk⟩:=cm (a9 fe);refine⟨e',a5,co,dc,dd,q.a,i++[t],M++[q],ws,_,rfl,aa,Paired.mapP cl fun _ _ r=>cm (a9 r),.inr ⟨o',g'⟩,dk,b,by rw[aj a6.symm];exact a4,cc (Paired.mapP a8 fun _ _ r=>(r.kt kt).kt bn) ⟨s,bn _ _ (kt _ _ q1),az.kt bn (az.kt kt q2)⟩,by rw[cA];exact ew,wN _,fun b o q=>by rw[aj (af q cb)];exact y _ _ (SG _ _ q) (af q a7)⟩

def De(K:Za)(sp_checked_with_ways:Sp):TS :=
 aY (cD 3 [] (cp K (aH sp_checked_with_ways (aW V0 V1))) (gp K 3 (aR U0 (aR U1 (aR U2 (fW))))) (aL (ax m5 (dJ (dh K) (aw V2)) (tC (.int 1)))) (bb (cE V0 V1 (ax (bA K) V2 (tC (.int 0))))))
def EB:List Str:=["M","trial"]
def Dg(K:Za)(sp_leaves:Sp)(sp_walk_of:Sp)(sp_need_taker:Sp):TS :=
 ar (bV (aH sp_need_taker (aW V0 V2)))
 (ar (dI (cp K (aH sp_leaves (aW V0 V1))) (gp K 3 (aR U3 (aR U4 (aR U5 (fW))))) (bU (aL (ax m5 V5 (tC (.str "blame")))) (ar (aM (aH sp_walk_of (aW V2 V4)) U6)
 (bU (tB (xj V6)) (aY V6) (br))) (br)))
 (aY (tC .non)))
def ED:List Str:=["M","trial","I","way","story","word","walk"]
def xf(K:Za):TS :=
 ar (aM (cD 1 [1] (cp K (ax (bA K) V0 (tC (.int 3)))) U0 (aL (ax m5 (ax (bA K) V0 (tC (.int 0))) V1)) V0) U2)
 (aY (dJ (GH K) (ap (cD 1 [] (cp K V2) U0 (fV) (ax m5 (ax (bA K) (ax (bA K) V0 (tC (.int 1))) (tC (.int 0))) (tC (.str "ask")))) bd)))
def yE:List Str:=["told","room","doors"]
def tF(K:Za)(sp_law_in_order:Sp)(sp_law_quiet:Sp):TS :=
 ar (bU (aL (ax (mG K) V2 (bb (aw (tC (.str "hush")))))) (aY (dJ (Dx K) (aw (cD 1 [0] (tV K V1) U0 (tB (aH sp_law_quiet (aW V1 V0))) V0)))) (br))
 (ar (aM (cf (bd)) U3)
 (ar (dI (cp K (ax (bA K) V0 (tC (.int 3)))) (gp K 3 (aR U4 (aR U5 (aR U6 (fW))))) (bU (kB (aL (ax (mF K false) V4 V1)) (kB (aL (ax (mG K) V5 V2)) (aL (ax (mF K true) V6 V3)))) (bV (xu K "list" dF V3 (aw V6))) (br)))
 (aY (aH sp_law_in_order (aW V0 V3)))))
def ub:List Str:=["told","face","sign","some","room","own","other"]
def pO(K:Za):TS :=
 ar (bU (kB (aL (ax m5 (ax (bA K) V0 (tC (.int 0))) (tC (.str "tell")))) (aL (ax m5 (dJ (dh K) (aw V0)) (tC (.int 4))))) (aY (ax mH (cf (aw (ax (bA K) V0 (tC (.int 2))))) (cD 1 [] (tV K (ax (bA K) V0 (tC (.int 3)))) U0 (fV) (ax (bA K) V0 (tC (.int 1)))))) (br))
 (ar (bU (kB (aL (ax m5 (ax (bA K) V0 (tC (.int 0))) (tC (.str "wait")))) (aL (ax m5 (dJ (dh K) (aw V0)) (tC (.int 3))))) (aY (ax mH (cD 1 [] (tV K (ax (bA K) V0 (tC (.int 1)))) U0 (fV) (ax (bA K) V0 (tC (.int 1)))) (cf (aw (ax (bA K) V0 (tC (.int 2))))))) (br))
 (aY (cf (bd))))
def pX:List Str:=["trial"]
def vt(K:Za):TS :=
 ar (bU (aL (ax m5 (ax (bA K) V0 (tC (.int 0))) (tC (.str "tell")))) (aY (ax mH (cf (ap (bb (aW (tC (.str "ask")) (ax (bA K) V0 (tC (.int 1))))) bd)) (cD 1 [] (tV K (ax (bA K) V0 (tC (.int 3)))) U0 (fV) (bb (aW (tC (.str "say")) (ax (bA K) V0 (tC (.int 0)))))))) (br))
 (aY (ax mH (cD 1 [] (tV K (ax (bA K) V0 (tC (.int 1)))) U0 (fV) (bb (aW (tC (.str "say")) (ax (bA K) V0 (tC (.int 0)))))) (cf (aw (bb (aw (tC (.str "hush"))))))))
def wE:List Str:=["trial"]
def vv(K:Za)(sp_law_signs:Sp)(sp_law_leaves:Sp)(sp_law_inner:Sp):TS :=
 ar (aM (aH sp_law_inner (aw V0)) U3)
 (ar (bU (aL (ax (xG K) V3 (cf (bd)))) (aY (cf (ap (bb (cE V1 V2 (ax (bA K) V0 (tC (.int 0))))) bd))) (br))
 (ar (aM (cf (bd)) U4)
 (ar (dI (nY K (aw (aH sp_law_signs (aw V0)))) (gp K 2 (aR U5 (aR U6 (fW)))) (aM (ax mH V4 (aH sp_law_leaves (cE (ax (cg K) V3 V5) (ax (rV K) V1 (bb (aw V5))) (ax mH V2 (cf (aw V6)))))) U4))
 (aY V4))))
def wF:List Str:=["trial","way","story","some","found","k","sign"]
def xg(K:Za):TS :=
 aY (dJ (Dx K) (ap (cD 2 [] (D_ K (aW V0 V1)) (gp K 2 (aR U0 (aR U1 (fW)))) (fV) (bb (aW V0 V1))) bd))
def yF:List Str:=["says","some"]
def xc(K:Za)(sp_law_pairs:Sp)(sp_law_take:Sp)(sp_law_trial:Sp):TS :=
 ar (aM (ax Gf (ax (cg K) V3 (tC (.int 0))) (tC (.int 1))) (ya V3 (tC (.int 0)) pP))
 (ar (aM (aH sp_law_take (aW V0 (tC (.int 6)))) U4)
 (ar (bU (AN (aL (ax m5 V2 (tC (.int 0)))) (AN (aL (ax Cg (ax (cg K) V3 (tC (.int 0))) (tC (.int 0)))) (aL (ax m5 V4 (tC (.int 0)))))) (aY (ax (cg K) (cf (aW (bb (aw (tC (.str "end")))) (bb (aw (tC (.str "blame")))))) (aH sp_law_take (aW V0 (tC (.int 2)))))) (br))
 (ar (aM (cD 1 [0,1,3,2] (pT (ap (ax dR (dJ (dh K) (aw (ax (bA K) V1 (tC (.int 1))))) (tC (.int 1))) bd)) U0 (fV) (aH sp_law_trial (ap V1 (cE V2 (ax Gf V4 (tC (.int 1))) V3)))) U5)
 (ar (bU (aL (ax Cg V4 (tC (.int 4)))) (ar (aM (ax (cg K) (ax (bA K) V1 (tC (.int 0))) (aH sp_law_take (ap V0 (ap (dJ (dh K) (aw (ax (bA K) V1 (tC (.int 0))))) bd)))) U6)
 (aY (bb (ap (tC (.str "tell")) (ap V6 (ap (ax (cg K) V5 (tC (.int 0))) (ap (aH sp_law_pairs (aW (ax (bA K) V1 (tC (.int 1))) (yL (nQ K) V5 (fD (tC (.int 1))) (dY)))) bd))))))) (br))
 (aY (bb (ap (tC (.str "wait")) (ap (aH sp_law_pairs (aW (ax (bA K) V1 (tC (.int 1))) V5)) (aw (ax (cg K) V5 (Hj (rU fun i=>.int (-i)) (tC (.int 1)))))))))))))
def yD:List Str:=["pen","told","deep","left","way","some","ask"]
def yY(K:Za)(sp_law_pairs:Sp)(sp_law_inner:Sp)(sp_law_only:Sp):TS :=
 ar (aM (cD 2 [1,2] (nY K (aw (aH sp_law_inner (aw V0)))) (gp K 2 (aR U0 (aR U1 (fW)))) (fV) (aH sp_law_only (cE V1 V2 (ax (rV K) V3 (bb (aw V0)))))) U3)
 (ar (bU (aL (ax (xG K) V3 (cf (bd)))) (aY (ax (cg K) (cf (aW (bb (aw (tC (.str "end")))) (bb (aw (tC (.str "blame")))))) (dJ Gj (aw (ax (xG K) V2 V1))))) (br))
 (ar (bU (aL (ax m5 (ax (bA K) V0 (tC (.int 0))) (tC (.str "tell")))) (aY (bb (ap (tC (.str "tell")) (ap (ax (bA K) V0 (tC (.int 1))) (ap (ax (cg K) V3 (tC (.int 0))) (ap (aH sp_law_pairs (ap (cD 1 [] (tV K (ax (bA K) V0 (tC (.int 3)))) U0 (fV) (ax (bA K) V0 (tC (.int 0)))) (aw (yL (nQ K) V3 (fD (tC (.int 1))) (dY))))) bd)))))) (br))
 (aY (bb (ap (tC (.str "wait")) (ap (aH sp_law_pairs (ap (cD 1 [] (tV K (ax (bA K) V0 (tC (.int 1)))) U0 (fV) (ax (bA K) V0 (tC (.int 0)))) (aw V3))) (aw (ax (cg K) V3 (Hj (rU fun i=>.int (-i)) (tC (.int 1)))))))))))
def Au:List Str:=["trial","goal","here","some"]
def tE(K:Za)(sp_law_quiet:Sp):TS :=
 ar (aM (ax (cg K) (ax (bA K) V0 (tC (.int 2))) (tC (.int 0))) U2)
 (ar (dI (cp K V1) U3 (ar (bU (AN (vx (tB (dJ (Hr K) (aW V3 (tC (.ty "tuple")))))) (AN (aL (ax Ha (dJ (dh K) (aw V3)) (tC (.int 3)))) (aL (ax Ha (ax (bA K) V3 (tC (.int 0))) V2)))) (aY (tC (.bl false))) (br))
 (ar (bU (kB (aL (ax (mG K) (ax (bA K) V3 (tC (.int 1))) (bb (aw (tC (.str "hush")))))) (AN (aL (ax Ha (ax (bA K) V3 (tC (.int 2))) V2)) (vx (tB (aH sp_law_quiet (aW V0 V2)))))) (aY (tC (.bl false))) (br))
 (ar (bU (kB (aL (ax (qk K) (ax (bA K) V3 (tC (.int 1))) (bb (aw (tC (.str "hush")))))) (aL (ax (mF K true) V3 (ax (bA K) V0 (tC (.int 3)))))) (aY (tC (.bl false))) (br))
 (aM (ax (bA K) V3 (tC (.int 2))) U2)))))
 (aY (tC (.bl true))))
def ua:List Str:=["told","walk","here","step"]
def tw(K:Za)(sp_blames:Sp)(sp_law_only:Sp)(sp_law_leaves:Sp)(sp_law_face_at:Sp)(sp_law_is_walk:Sp):TS :=
 ar (dI (cp K (aH sp_law_leaves (cE V3 (bb (bd)) (cf (bd))))) (gp K 3 (aR U4 (aR U5 (aR U6 (fW))))) (ar (aM (aH sp_blames (ap V0 (aW (aH sp_law_only (cE V3 V4 (bb (bd)))) V1))) U7)
 (bU (aL (ax (mG K) (aH sp_law_face_at (aW V2 V5)) (bb (bd)))) (bU (tB (xj V7)) (aY (tC (.bl false))) (br)) (bU (AN (vx (tB (dJ (Hr K) (aW V7 (tC (.ty "list")))))) (vx (tB (aH sp_law_is_walk (aW V2 V7))))) (aY (tC (.bl false))) (bU (aL (ax (qk K) (cD 1 [] (cp K V7) U0 (aL (ax (qk K) (ax (bA K) V0 (tC (.int 1))) (bb (aw (tC (.str "still")))))) (ax (bA K) V0 (tC (.int 1)))) V5)) (aY (tC (.bl false))) (br))))))
 (aY (Hl (aH sp_blames (ap V0 (ap (aH sp_law_only (cE V3 (bb (aw (tC (.int 9)))) (bb (bd)))) (aw V1))))))
def t8:List Str:=["model","taker","told","trial","way","story","word","found"]
def E_(K:Za)(sp_law_right:Sp)(sp_law_machine:Sp)(sp_law_trial:Sp)(sp_law_near:Sp)(sp_law_model:Sp)(sp_law_open:Sp):TS :=
 ar (aM (aH sp_law_open (aw V0)) U1)
 (ar (dI (pT (aw (tC (.int 2)))) U2 (ar (aM (aH sp_law_model (cE V1 (tC (.int 6)) (tC (.int 1)))) U3)
 (ar (aM (aH sp_law_near (cE V1 V3 (tC (.int 3)))) U4)
 (ar (aM (aH sp_law_trial (ap V1 (cE V3 (tC (.int 3)) (cf (aw (tC (.int 8))))))) U5)
 (bU (vx (tB (aH sp_law_right (ap (aH sp_law_machine (aw V3)) (cE (aH sp_law_machine (aw V4)) V4 V5))))) (aY (tC (.bl false))) (br))))))
 (aY (tC (.bl true))))
def Bz:List Str:=["script","pen","turn","told","own","trial"]
def DB:List Str:=["script"]
theorem CM{f:List ai}{r:Str}:((f.filter fun d=>decide (d.a=r)).map gL).all id=decide (r∉eD f):=by
 by_cases c:r∈eD f
 ·rw[zzr0 (fun z=>z c),List.all_eq_false];unfold eD at c;obtain⟨d,g,i⟩:=aV.mp c;obtain⟨h,e⟩:=dO.mp g;refine⟨gL d,ki (dO.mpr ⟨h,zzr1 i⟩),?_⟩;intro z;have z:gL d=true:=z;rw[z]at e;cases e
 ·rw[zzr1 c,va];intro b j;obtain⟨d,g,rfl⟩:=aV.mp j;obtain⟨h,e⟩:=dO.mp g;show gL d=true;cases q:gL d with
  |true=>rfl
  |false=>exact absurd (aV.mpr ⟨d,dO.mpr ⟨h,by rw[q];rfl⟩,of_decide_eq_true e⟩) c
theorem BV{K:Za}{e:List V}{H:Hp}{Q:VK}{E:XK}(h:jf e H Q E):xf K (bq Q) (start yE e) H:=by
 obtain⟨t,l1,l2,l3,l4,ts,J0,J2,rooms,C,r,rfl,T,m,k⟩:=h;have z4:=m.few;refine⟨_,rfl,t,_,3,_,rfl,rfl,bt.of T.t,rfl,l4,rfl,⟨_,ay.of T.a4⟩,fun f hf=>?_⟩
 let I:Nat->List V->Hp->Prop:=fun i e n=>∃v:List Addr,e=v.map V.ref/\ab H n/\n f=some (.lst e)/\cz n v ((C.take i).filter fun d=>decide (d.a=r))
 refine cG (xs:=ts.map V.ref) I ⟨[],rfl,ab.new hf,aa,.nil⟩ (fun i e n _ J=>by obtain⟨_,_,S,L,_⟩:=J;exact⟨L,ay.of (S _ _ T.a4)⟩) ?_ ?_;rotate_left
 ·rintro i e n x' x D ⟨v,rfl,S,M,w⟩;obtain⟨u,N,rfl⟩:=bF x;obtain⟨A,p,l⟩:=Paired.getL T.ds N;have B:=l.kt (ab.kt S);obtain⟨sb,y,s⟩:=l.kt (ab.kt S);refine gN ?_;refine⟨_,rfl,u,_,0,_,rfl,rfl,bt.of y,rfl,_,rfl,rfl,_,rfl,?_⟩;have e1:decide (V.str A.a=V.str r)=decide (A.a=r):=decide_eq_decide.2 ⟨fun z=>by injection z,fun z=>by rw[z]⟩;rw[e1];by_cases G:A.a=r
  ·rw[zzr1 G];refine bx ?_;refine⟨_,rfl,M,?_,m8 D ⟨v++[u],by rw[au];rfl,?_,aa,?_⟩⟩
   ·rw[ak,Paired.length w];refine aq (bm (fA _ _) ?_);rw[aQ];omega
   ·intro b o q;rw[aj (af q hf)];exact S _ _ q
   ·rw[fJ p,if_pos (zzr1 G)];have hk:fO n (upd n f (.lst (v.map V.ref++[.ref u]))):=cO M;exact cc (w.kt hk) (B.kt hk)
  ·rw[zzr0 G];refine aU (m8 D ⟨v,rfl,S,M,?_⟩);rw[fJ p,if_neg (by rw[zzr0 G];decide),f6];exact w
 rintro e H1 ⟨v,rfl,S1,f1,w⟩;rw[ak,Paired.length T.ds,a_]at w;refine⟨_,rfl,f,rfl,⟨_,ay.of f1⟩,fun g hg=>?_⟩;have zf:(C.filter fun d=>decide (d.a=r)).length<=1000:=bm (fA _ _) z4;have gd:∀d∈C.filter fun d=>decide (d.a=r),uX J0 J2 rooms d:=fun d hd=>m.good d (dO.1 hd).1;rw[<-CM]at k;generalize(C.filter fun d=>decide (d.a=r))=F at w zf gd k
 let O:Nat->List V->Hp->Prop:=fun i e n=>e=((F.take i).map gL).map V.bl/\ab H1 n/\n g=some (.lst e)
 refine cG (xs:=v.map V.ref) O ⟨rfl,ab.new hg,aa⟩ (fun i e n _ J=>by obtain⟨_,S,L⟩:=J;exact⟨L,ay.of (S _ _ f1)⟩) ?_ ?_
 ·rintro e H2 ⟨rfl,S2,g2⟩;rw[ak,Paired.length w,a_]at g2;exact⟨g,_,rfl,ay.of g2,k H2 (S1.trans S2)⟩
 ·rintro i e n x' x D ⟨rfl,S,g'⟩;obtain⟨u,N,rfl⟩:=bF x;obtain⟨A,p,l⟩:=Paired.getL w N;obtain⟨sb,y,s⟩:=l.kt (ab.kt S);obtain⟨s0,al,U,Y⟩:=uq (gd A (cw p));unfold SignAt at s;rw[U]at s;refine gN (mq ?_);refine⟨_,rfl,u,_,1,_,rfl,rfl,bt.of y,rfl,sb,_,0,.str s0,rfl,rfl,bt.of s,aG (j:=0) rfl,rfl,g',?_,m8 D ⟨?_,?_,aa⟩⟩
  ·rw[ak,ak,aQ];exact aq (by omega)
  ·have Y:decide (V.str s0=V.str ("ask":Str))=gL A:=by
    have:=congrArg (!·) Y;simpa using this
   rw[take_snoc p,au,au,Y];rfl
  ·intro b o q;rw[aj (af q hg)];exact S _ _ q
theorem Ca{K:Za}{x:List V}{H:Hp}{Q:VK}{E:XK}(h:vM K x H Q E):tF K xy jf (bq Q) (start ub x) H:=by
 obtain⟨t,ft,s,l1,l2,l3,M,ts,J0,J2,rooms,face,w,n,rfl,T,m,an,hs,hz,k⟩:=h;have z4:=m.few;refine⟨_,rfl,(by show 1<=ah;decide),fun hh N=>⟨fu w,fu bz,aS (bt.same (ab.new N) hs),aS (bt.of aa),by rw[bC];decide,by rw[bC];decide,_,rfl,?_⟩⟩;rw[d6];have D:ab H (upd H hh (.tup [.str "hush"])):=ab.new N;generalize upd H hh (.tup [.str "hush"])=y at D ⊢;have I:=T.same D;have B:=D _ _ an;have as:=bt.same D hs;by_cases c:w=bz
 ·rw[zzr1 c];refine bx ?_;refine⟨_,rfl,ft,rfl,⟨_,bt.of B⟩,fun f J=>?_⟩
  let aC:Nat->List V->Hp->Prop:=fun i x H'=>x=((face.take i).filter fun r=>decide (r∉eD n)).map V.str/\ab y H'/\H' f=some (.lst x)
  refine ol (xs:=face.map V.str) aC ⟨rfl,ab.new J,aa⟩ (fun i x H' _ zq=>by obtain⟨_,S,h'⟩:=zq;exact⟨h',bt.of (S _ _ B)⟩) ?_ ?_
  ·rintro x H' ⟨rfl,S,l⟩;rw[ak,a_]at l;refine⟨f,_,rfl,.inl ⟨ay.of l,fun t' a0=>k t' _ ?_ ((D.trans S).trans (ab.new a0))⟩⟩;rw[aa];unfold behF;rw[if_pos c]
  ·rintro i x H' x' C hi ⟨rfl,S,l⟩;obtain⟨r,hr,rfl⟩:=bE C;refine gN ?_;refine⟨_,rfl,_,rfl,t,l1,l2,l3,M,ts,J0,J2,rooms,n,r,rfl,I.same S,m,fun H2 A=>⟨_,rfl,?_⟩⟩;have O:(((face.take i).filter fun r=>decide (r∉eD n)).map V.str).length<ah:=by
    rw[ak];refine aq (bm (fA _ _) ?_);rw[aQ];omega
   refine jO (fun hq=>?_) (fun hq=>?_)
   ·refine⟨_,rfl,A _ _ l,O,m8 hi ⟨?_,?_,aa⟩⟩
    ·rw[fo hr,if_pos hq,au];rfl
    ·intro b o q;rw[aj (af q J)];exact A _ _ (S _ _ q)
   ·refine m8 hi ⟨?_,S.trans A,A _ _ l⟩;rw[fo hr,if_neg hq,f6]
 rw[zzr0 c];refine aU ?_;refine⟨(by show 0<=ah;decide),fun f J=>?_⟩;have A:ab y (upd y f (.lst [])):=ab.new J;have f2:upd y f (.lst []) f=some (.lst []):=aa;generalize upd y f (.lst [])=H2 at A f2 ⊢;have T2:=I.same A;have n4:M≠f:=af I.a4 J;refine⟨_,rfl,t,_,3,.ref M,rfl,rfl,bt.of T2.t,rfl,M,rfl,⟨_,ay.of T2.a4⟩,?_⟩
 let U:Nat->L2.St->Hp->Prop:=fun i σ H'=>Hb fun(G:Zb) (x4 x5 x6:Option V)=>Hc (σ=[some (.ref t),some (.ref ft),some (.ref s),some (.ref f),x4,x5,x6]) (H' f=some (.lst (G.map V.str))) (∀b o,y b=some o->H' b=some o) (G.length<=i) (∀g,g∈G↔∃d∈n.take i,d.a∈face/\d.sg=w/\d.b=g)
 refine bP (xs:=ts.map V.ref) U ⟨[],_,_,_,rfl,f2,fun b o e=>A _ _ e,aB _,fun g=>⟨fun h=>(by cases h),fun⟨_,h,_⟩=>(by simp at h)⟩⟩ (fun i σ H' _ zq=>by obtain⟨_,_,_,_,_,_,S,_,_⟩:=zq;exact ay.of (S _ _ I.a4)) ?_ ?_
 ·rintro i x' σ H' C ⟨G,x4,x5,x6,rfl,l,S,hl,L⟩;have S:ab y H':=S;obtain⟨u,hu,rfl⟩:=bF C;obtain⟨j,Y,al⟩:=Paired.getL I.ds hu;obtain⟨sb,a5,a6⟩:=al.kt (ab.kt S);have a7:i<n.length:=(ca.mp Y).1;have p:∀g,(∃d∈n.take (i+1),d.a∈face/\d.sg=w/\d.b=g)↔((∃d∈n.take i,d.a∈face/\d.sg=w/\d.b=g)∨(j.a∈face/\j.sg=w/\j.b=g)):=by
   intro g;rw[take_snoc Y];constructor
   ·rintro⟨d,hd,h⟩;rcases be.mp hd with hd|hd
    ·exact .inl ⟨d,hd,h⟩
    ·have:d=j:=by simpa using hd
     subst this;exact .inr h
   ·rintro(⟨d,hd,h⟩|h)
    ·exact⟨d,da _ hd,h⟩
    ·exact⟨j,c_ _ (by simp),h⟩
  refine⟨u,_,rfl,bt.of a5,rfl,_,_,rfl,_,_,rfl,_,_,rfl,rfl,?_⟩;have v:¬(j.a∈face/\j.sg=w/\j.b∉G)->U (i+1) [some (.ref t),some (.ref ft),some (.ref s),some (.ref f),some (.str j.a),some (.ref sb),some (.str j.b)] H':=fun z=>by
   refine⟨G,_,_,_,rfl,l,S,by omega,fun g=>?_⟩;rw[p,L];refine⟨.inl,fun h=>h.elim id fun h=>?_⟩;rw[<-L];by_cases q:g∈G
   ·exact q
   ·exact absurd ⟨h.1,h.2.1,by rw[h.2.2];exact q⟩ z
  refine⟨_,rfl,_,rfl,dE j.a,face.map dE,ft,_,j_ _,rfl,.inr (bt.of (S _ _ B)),jQ _,(by show 0<=8;decide),by rw[dU];decide,_,rfl,?_⟩;rw[if_neg iV,qH];by_cases c1:j.a∈face;rotate_left
  ·rw[zzr0 c1];exact aU (aU (v fun z=>c1 z.1))
  rw[zzr1 c1];refine bx ?_;refine⟨_,rfl,_,rfl,fu j.sg,fu w,aS (bt.of a6),aS (bt.same S as),by rw[bC];decide,by rw[bC];decide,_,rfl,?_⟩;rw[d6];by_cases c2:j.sg=w;rotate_left
  ·rw[zzr0 c2];exact aU (aU (v fun z=>c2 z.2.1))
  rw[zzr1 c2];refine bx ?_;refine⟨_,rfl,_,rfl,dE j.b,G.map dE,f,_,j_ _,rfl,.inl (ay.of l),jQ _,(by show 0<=8;decide),by rw[dU];decide,_,rfl,?_⟩;rw[if_pos rfl,qH];by_cases c3:j.b∈G
  ·rw[zzr1 c3];exact aU (v fun z=>z.2.2 c3)
  rw[zzr0 c3];refine bx ?_;refine⟨_,rfl,.inl ⟨rfl,_,ay.of l⟩,_,rfl,f,_,_,rfl,rfl,l,by rw[ak];exact aq (by omega),G++[j.b],_,_,_,rfl,by rw[aa,au];rfl,fun b o e=>?_,by rw[aF];show G.length+1<=i+1;omega,fun g=>?_⟩
  ·rw[aj (af e J)];exact S _ _ e
  ·rw[p,<-L,be];simp only[bX];exact⟨fun h=>h.imp id fun h=>⟨c1,c2,h.symm⟩,fun h=>h.imp id fun h=>h.2.2.symm⟩
 ·rintro σ H' ⟨G,x4,x5,x6,rfl,l,S,hl,L⟩;have S:ab y H':=S;rw[ak,Paired.length T.ds]at hl;rw[ak,Paired.length T.ds,a_]at L;refine⟨_,rfl,_,rfl,t,f,l1,l2,l3,M,ts,J0,J2,rooms,G,n,rfl,I.same S,m,l,by omega,fun t' H' h1 S'=>k t' H' ?_ ((D.trans S).trans S')⟩;rw[h1];unfold behF;rw[if_neg c]
  suffices e0:closF rooms n G=closF rooms n (jn n w face) by rw[e0]
  refine yn fun g=>?_;rw[L,jN];constructor
  ·rintro⟨⟨a,a8,b⟩,hd,h1,h2,h3⟩;simp only at h1 h2 h3;subst h2 h3;exact⟨a,h1,hd⟩
  ·rintro⟨r,hr,h⟩;exact⟨_,h,hr,rfl,rfl⟩
theorem sF{K:Za}{G:List Nat}{I:TE}{σ:L2.St}{H:Hp}{b l:Addr}{xs:List V}{h:Zb}{q:List DT}{Q:Hp->Prop}(T:az K H b xs)(J:fX K H xs (dA ff h q))(zl:h.length=q.length)(z:h.length<=1000)(s:H l=none)
  (W:Nat->List V->Hp->Prop) (U:∀f,ab H f->W 0 [] f) (Y:∀i a f,W i a f->a.length<=i)
  (step:∀i w d c v a g (R:VK),h[i]?=some w->q[i]?=some d->az K g c [.str w,v]->cX K g d v->W i a g->(∀y m,ab g m->(∀L,fO m L->W (i+1) (a++[y]) L)->R y m)->I ((cW 1 G σ).set 0 (some (.ref c))) g R)
  (k:∀(a:List V) (f:Hp),f l=some (.lst a)->W h.length a f->ab H f->Q f):c9 1 G σ (EH K b) U0 fV I H l Q:=by
 have hz:=Paired.length J;rw[u4]at hz
 let t:Nat->List V->Hp->Prop:=fun i a f=>ab H f/\f l=some (.lst a)/\W i a f
 refine ol (xs:=xs) t ⟨ab.new s,aa,U _ (ab.new s)⟩ (fun i a f _ zq=>by obtain⟨S,u,_⟩:=zq;exact⟨u,az.sq (az.kt (ab.kt S) T)⟩) ?_ ?_
 ·rintro a f ⟨S,u,n⟩;have e1:xs.length=h.length:=by omega
  rw[e1]at n;exact k a f u n S
 ·rintro i a g x A hi ⟨S,M,n⟩;obtain⟨d,N⟩:∃d,q[i]?=some d:=⟨_,bY (by omega)⟩;obtain⟨w,O⟩:∃w,h[i]?=some w:=⟨_,bY (by omega)⟩;obtain⟨y,r,p⟩:=Paired.getL J A;rw[List.getElem?_zipWith,O,N]at r;injection r with r;rw[<-r]at p;obtain⟨c,al,rfl,hc,x1,an,rfl,j,x2,B,rfl,C,D⟩:=p;have D:B=[]:=D;have j:x1=.str w:=j;subst D j;refine gN (mq (step i w d c x2 a g _ O N (az.kt (ab.kt S) hc) (cX.kt (ab.kt S) _ _ C) n fun y m E kk=>?_));have kt:fO m (upd m l (.lst (a++[y]))):=cO (E _ _ M);refine⟨E _ _ M,?_,m8 hi ⟨fun b o e=>?_,aa,kk _ kt⟩⟩
  ·have:=Y i a g n;exact aq (by omega)
  ·rw[aj (af e s)];exact E _ _ (S _ _ e)
theorem ym{K:Za}{σ:L2.St}{H:Hp}{b l:Addr}{f:List V}{ws:Zb}{ps:List DT}{Q:Hp->Prop}(n:az K H b f)(o:fX K H f (dA ff ws ps))(g:ws.length=ps.length)(z:ws.length<=1000)(p:H l=none)
  (k:∀(e:List V) (a:Hp),a l=some (.lst e)->fX K a e ps->ab H a->Q a):c9 1 [] σ (EH K b) U0 fV (ax (bA K) V0 (tC (.int 1))) H l Q:=by
 refine sF n o g z p (fun i e a=>fX K a e (ps.take i)) (fun _ _=>.nil) (fun i e a h=>by rw[Paired.length h,aQ];omega) (fun i w d c v e q R A r s t u x=>?_) fun e a y m S=>?_
 ·exact⟨_,rfl,c,_,1,v,rfl,rfl,az.sq s,aG (j:=1) rfl,x v q (ab.refl _) fun B kt=>by rw[take_snoc r];exact cc (fX.kt kt u) (cX.kt kt _ _ t)⟩
 ·rw[g,a_]at m;exact k e a y m S
theorem yk{K:Za}{σ:L2.St}{H:Hp}{b l:Addr}{f:List V}{ws:Zb}{ps:List DT}{Q:Hp->Prop}(m:az K H b f)(n:fX K H f (dA ff ws ps))(o:ws.length=ps.length)(z:ws.length<=1000)(p:H l=none)
  (k:∀(a:Hp),a l=some (.lst (ws.map V.str))->ab H a->Q a):c9 1 [] σ (EH K b) U0 fV (ax (bA K) V0 (tC (.int 0))) H l Q:=by
 refine sF m n o z p (fun i e a=>e=(ws.take i).map V.str) (fun _ _=>rfl) (fun i e a h=>by rw[h,ak,aQ];omega) (fun i w d c v e q R r y s A t u=>?_) fun e a x g S=>?_
 ·exact⟨_,rfl,c,_,0,.str w,rfl,rfl,az.sq s,aG (j:=0) rfl,u _ q (ab.refl _) fun B kt=>by rw[take_snoc r,au,t];rfl⟩
 ·rw[a_]at g;exact k a (by rw[<-g];exact x) S
theorem uN{K:Za}{σ:L2.St}{H:Hp}{b l:Addr}{m:List V}{ws:Zb}{ps:List DT}{Q:Hp->Prop}(o:az K H b m)(p:fX K H m (dA ff ws ps))(q:ws.length=ps.length)(z:ws.length<=1000)(s:H l=none)
  (k:∀(a:Ze) (e:Hp),e l=some (.lst (a.map V.ref))->lU K e a (ws.map iH)->ab H e->Q e):c9 1 [] σ (EH K b) U0 fV (bb (aW (tC (.str "say")) (ax (bA K) V0 (tC (.int 0))))) H l Q:=by
 refine sF o p q z s (fun i f e=>∃a:List Addr,f=a.map V.ref/\lU K e a ((ws.take i).map iH)) (fun _ _=>⟨[],rfl,.nil⟩) (fun i f e ⟨a,h,r⟩=>by rw[h,ak,Paired.length r,ak,aQ];omega) (fun i w d c v f D R t E x G ⟨a,y,g⟩ A=>?_) fun f e B ⟨a,C,g⟩ S=>?_
 ·refine⟨_,rfl,c,_,0,.str w,rfl,rfl,az.sq x,aG (j:=0) rfl,(by show 2<=ah;decide),fun u n=>A _ _ (ab.new n) fun I kt=>⟨a++[u],by rw[au,y];rfl,?_⟩⟩;rw[take_snoc t,au];exact cc (Paired.mapP g fun _ _ r=>az.kt kt (az.kt (ab.kt (ab.new n)) r)) (.inl (kt _ _ aa))
 ·rw[a_]at g;exact k a e (by rw[<-C];exact B) g S
def j8:Tr->List Tr
 |.nd _ ps=>ps
 |_=>[]
inductive kF(K:Za)(vs:List V)(H:Hp)(Q:VK)(E:XK):Prop
 |mk (v:V) (T:Tr) (J2:Zb):(vs=[v])->(cX K H (T.dt J2) v)->(T.ok J2)->(J2.length<=4)->(∀(l:Addr) (us:List V) (H':Hp),H' l=some (.lst us)->fX K H' us (Tr.dts J2 (j8 T))->ab H H'->Q (.ref l) H')->kF K vs H Q E
theorem jl{K:Za}{H:Hp}{w:Str}{v:V}(h:cX K H (fu [w]) v):∃b,v=.ref b/\az K H b [.str w]:=by
 obtain⟨b,j,rfl,g,i,a,rfl,e,f⟩:=h;have f:a=[]:=f;have e:i=V.str w:=e;subst f e;exact⟨b,rfl,g⟩
theorem nu{K:Za}{H:Hp}{l:Zb}{a:Str}{g:List DT}{v:V}(D:g.length=l.length+1)(h:cX K H (eA l (some a) g) v):∃b i j f k,v=.ref b/\az K H b [.str "tell",.str a,i,.ref j]/\az K H j f/\cX K H k i/\fX K H f (dA ff l (g.drop 1))/\g=k::g.drop 1:=by
 obtain⟨k,e⟩:∃d,g[0]?=some d:=⟨_,bY (by omega)⟩;rw[iz e]at h;obtain⟨b,E,rfl,t,u,w,rfl,m,y,z,rfl,n,i,A,rfl,B,G,o,rfl,C,p⟩:=h;have p:o=[]:=p;have m:u=V.str "tell":=m;have n:y=V.str a:=n;subst p m n;obtain⟨j,f,rfl,q,s⟩:=C;refine⟨b,i,j,f,k,rfl,t,q,B,fX.of s,?_⟩;cases g with
 |nil=>cases e
 |cons x r=>injection e with e;rw[e];rfl
theorem np{K:Za}{H:Hp}{e:Zb}{f:List DT}{v:V}(q:f.length=e.length+1)(h:cX K H (eA e none f) v):∃b i a j k,v=.ref b/\az K H b [.str "wait",.ref i,j]/\az K H i a/\cX K H k j/\fX K H a (dA ff e (f.take e.length))/\f=f.take e.length++[k]:=by
 obtain⟨k,g⟩:∃d,f[e.length]?=some d:=⟨_,bY (by omega)⟩;rw[iA g]at h;obtain⟨b,y,rfl,r,s,t,rfl,l,z,u,rfl,w,j,m,rfl,x,n⟩:=h;have n:m=[]:=n;have l:s=V.str "wait":=l;subst n l;obtain⟨i,a,rfl,o,p⟩:=w;exact⟨b,i,a,j,k,rfl,r,o,x,fX.of p,by rw[<-take_snoc g,<-q,a_]⟩
theorem Dv{K:Za}{vs:List V}{H:Hp}{Q:VK}{E:XK}(h:kF K vs H Q E):pO K (bq Q) (start pX vs) H:=by
 obtain⟨v,T,n,rfl,p,ok,z4,k⟩:=h;have i:∀(w:Str) (b:Addr),w≠("tell":Str)->w≠("wait":Str)->az K H b [.str w]->j8 T=[]->pO K (bq Q) (start pX [.ref b]) H:=fun w b n1 n2 f e=>by
  refine⟨_,rfl,b,_,0,_,rfl,rfl,az.sq f,aG (j:=0) rfl,rfl,_,rfl,?_⟩;rw[zzr0 (fun z=>n1 (by injection z))];refine aU (aU ?_);refine⟨_,rfl,b,_,0,_,rfl,rfl,az.sq f,aG (j:=0) rfl,rfl,_,rfl,?_⟩;rw[zzr0 (fun z=>n2 (by injection z))];refine aU (aU ?_);refine⟨(by show 0<=ah;decide),fun l hl=>?_⟩;exact k l [] _ aa (by rw[e];exact .nil) (ab.new hl)
 cases T with
 |bl =>
  obtain⟨b,rfl,f⟩:=jl p;exact i _ b (by decide) (by decide) f rfl
 |en =>
  obtain⟨b,rfl,f⟩:=jl p;exact i _ b (by decide) (by decide) f rfl
 |nd a ps =>
  have ok:ps.length=n.length+1:=ok;have L:(Tr.dts n ps).length=n.length+1:=by rw[Tr.dts_map,ak,ok]
  have p:cX K H (eA n a (Tr.dts n ps)) v:=p;have M:∀(l:Addr) (o:List V) (H':Hp),H' l=some (.lst o)->fX K H' o (Tr.dts n ps)->ab H H'->Q (.ref l) H':=k;generalize Tr.dts n ps=dp at L p M;cases a with
  |some a =>
   obtain⟨b,g,b3,al,d0,rfl,f,B,N,O,U⟩:=nu L p;refine⟨_,rfl,b,_,0,_,rfl,rfl,az.sq f,aG (j:=0) rfl,rfl,_,rfl,?_⟩;rw[zzr1 rfl];refine bx ⟨_,rfl,.inl ⟨b,_,rfl,.inr (az.sq f),rfl,_,rfl,?_⟩⟩;refine bx ?_;refine⟨_,rfl,b,_,2,g,rfl,rfl,az.sq f,aG (j:=2) rfl,(by show 1<=ah;decide),fun m q=>?_⟩;have x:ab H (upd H m (.lst [g])):=ab.new q;have C:upd H m (.lst [g]) m=some (.lst [g]):=aa;generalize upd H m (.lst [g])=H1 at x C ⊢;refine⟨_,rfl,b,_,3,.ref b3,rfl,rfl,az.sq (az.kt (ab.kt x) f),aG (j:=3) rfl,b3,rfl,⟨_,az.sq (az.kt (ab.kt x) B)⟩,fun Y s=>?_⟩;refine ym (ws:=n) (ps:=dp.drop 1) (az.kt (ab.kt x) B) (fX.kt (ab.kt x) O) (by rw[cB];omega) (by omega) s fun o t c2 D y=>?_;have zu:o.length<=4:=by rw[Paired.length D,cB];omega
   refine⟨m,Y,_,_,rfl,rfl,y _ _ C,c2,cN (aq (by show 1+_<=1000;omega)),fun r hr=>?_⟩;have A:ab t (upd t r (.lst ([g]++o))):=ab.new hr;have G:=x.trans (y.trans A);refine M r (g::o) _ aa ?_ G;rw[U];exact .cons (cX.kt (ab.kt G) _ _ N) (fX.kt (ab.kt A) D)
  |none =>
   obtain⟨b,b1,an,g,d0,rfl,f,I,N,O,U⟩:=np L p;refine⟨_,rfl,b,_,0,_,rfl,rfl,az.sq f,aG (j:=0) rfl,rfl,_,rfl,?_⟩;rw[zzr0 (by intro z;injection z with z;exact absurd z (by decide))];refine aU (aU ?_);refine⟨_,rfl,b,_,0,_,rfl,rfl,az.sq f,aG (j:=0) rfl,rfl,_,rfl,?_⟩;rw[zzr1 rfl];refine bx ⟨_,rfl,.inl ⟨b,_,rfl,.inr (az.sq f),rfl,_,rfl,?_⟩⟩;refine bx ?_;refine⟨_,rfl,b,_,1,.ref b1,rfl,rfl,az.sq f,aG (j:=1) rfl,b1,rfl,⟨_,az.sq I⟩,fun Y s=>?_⟩;refine ym (ws:=n) (ps:=dp.take n.length) I O (by rw[aQ];omega) (by omega) s fun o t c2 D y=>?_;have zu:o.length<=4:=by rw[Paired.length D,aQ];omega
   refine⟨_,rfl,b,_,2,g,rfl,rfl,az.sq (az.kt (ab.kt y) f),aG (j:=2) rfl,(by show 1<=ah;decide),fun m q=>?_⟩;have A:ab t (upd t m (.lst [g])):=ab.new q;have J:upd t m (.lst [g]) m=some (.lst [g]):=aa;generalize upd t m (.lst [g])=H3 at A J ⊢;refine⟨Y,m,_,_,rfl,rfl,A _ _ c2,J,cN (aq (by show _+1<=1000;omega)),fun r hr=>?_⟩;have S4:ab H3 (upd H3 r (.lst (o++[g]))):=ab.new hr;have u:=A.trans S4;refine M r (o++[g]) _ aa ?_ (y.trans u);rw[U];exact cc (fX.kt (ab.kt u) D) (cX.kt (ab.kt (y.trans u)) _ _ N)
inductive lc(K:Za)(vs:List V)(H:Hp)(Q:VK)(E:XK):Prop
 |mk (v:V) (a:Option Str) (ps:List Tr) (J2:Zb):(vs=[v])->(cX K H ((Tr.nd a ps).dt J2) v)->(ps.length=J2.length+1)->(J2.length<=4)->(∀(l:Addr) (ss:Ze) (H':Hp),H' l=some (.lst (ss.map V.ref))->lU K H' ss (cS J2 a)->ab H H'->Q (.ref l) H')->lc K vs H Q E
theorem BT{K:Za}{M:List V}{H:Hp}{Q:VK}{E:XK}(h:lc K M H Q E):vt K (bq Q) (start wE M) H:=by
 obtain⟨v,a,ps,g,rfl,q,ok,z4,k⟩:=h;have B:(Tr.dts g ps).length=g.length+1:=by rw[Tr.dts_map,ak,ok]
 have q:cX K H (eA g a (Tr.dts g ps)) v:=q;generalize Tr.dts g ps=N at B q;cases a with
 |some a =>
  obtain⟨b,x2,O,al,d0,rfl,o,s,h2,C,ec⟩:=nu B q;refine⟨_,rfl,b,_,0,_,rfl,rfl,az.sq o,aG (j:=0) rfl,rfl,_,rfl,?_⟩;rw[zzr1 rfl];refine bx ?_;refine⟨_,rfl,b,_,1,.str a,rfl,rfl,az.sq o,aG (j:=1) rfl,(by show 2<=ah;decide),fun u D=>⟨(by show 1<=ah;decide),fun e f=>?_⟩⟩;have p:ab H (upd (upd H u (.tup [.str "ask",.str a])) e (.lst [.ref u])):=(ab.new D).trans (ab.new f);have T:upd (upd H u (.tup [.str "ask",.str a])) e (.lst [.ref u]) u=some (.tup ((db a).map V.str)):=kp aa f;have t:upd (upd H u (.tup [.str "ask",.str a])) e (.lst [.ref u]) e=some (.lst [.ref u]):=aa;generalize upd (upd H u (.tup [.str "ask",.str a])) e (.lst [.ref u])=H1 at p T t ⊢;refine⟨_,rfl,b,_,3,.ref O,rfl,rfl,az.sq (az.kt (ab.kt p) o),aG (j:=3) rfl,O,rfl,⟨_,az.sq (az.kt (ab.kt p) s)⟩,fun G m=>?_⟩;refine uN (ws:=g) (ps:=N.drop 1) (az.kt (ab.kt p) s) (fX.kt (ab.kt p) C) (by rw[cB];omega) (by omega) m fun n i I w x=>?_;have zu:n.length<=4:=by rw[Paired.length w,ak];omega
  refine⟨e,G,_,_,rfl,rfl,x _ _ t,I,by rw[ak];exact cN (aq (by show 1+_<=1000;omega)),fun r J=>?_⟩;have l:ab i (upd i r (.lst ([.ref u]++n.map V.ref))):=ab.new J;exact k r (u::n) _ aa (.cons (.inl ((x.trans l) _ _ T)) (Paired.mapP w fun _ _ r=>az.kt (ab.kt l) r)) (p.trans (x.trans l))
 |none =>
  obtain⟨b,U,an,x2,d0,rfl,o,y,h2,C,ec⟩:=np B q;refine⟨_,rfl,b,_,0,_,rfl,rfl,az.sq o,aG (j:=0) rfl,rfl,_,rfl,?_⟩;rw[zzr0 (by intro z;injection z with z;exact absurd z (by decide))];refine aU ?_;refine⟨_,rfl,b,_,1,.ref U,rfl,rfl,az.sq o,aG (j:=1) rfl,U,rfl,⟨_,az.sq y⟩,fun G m=>?_⟩;refine uN (ws:=g) (ps:=N.take g.length) y C (by rw[aQ];omega) (by omega) m fun n i I w x=>?_;have zu:n.length<=4:=by rw[Paired.length w,ak];omega
  refine⟨(by show 1<=ah;decide),fun u D=>⟨(by show 1<=ah;decide),fun e f=>?_⟩⟩;have l:ab i (upd (upd i u (.tup [.str "hush"])) e (.lst [.ref u])):=(ab.new D).trans (ab.new f);have Y:upd (upd i u (.tup [.str "hush"])) e (.lst [.ref u]) u=some (.tup (bz.map V.str)):=kp aa f;have A:upd (upd i u (.tup [.str "hush"])) e (.lst [.ref u]) e=some (.lst [.ref u]):=aa;generalize upd (upd i u (.tup [.str "hush"])) e (.lst [.ref u])=H3 at l Y A ⊢;refine⟨G,e,_,_,rfl,rfl,l _ _ I,A,by rw[ak];exact cN (aq (by show _+1<=1000;omega)),fun r J=>?_⟩;have L:ab H3 (upd H3 r (.lst (n.map V.ref++[.ref u]))):=ab.new J;exact k r (n++[u]) _ (by rw[aa,au];rfl) (cc (Paired.mapP w fun _ _ r=>az.kt (ab.kt (l.trans L)) r) (.inl (L _ _ Y))) (x.trans (l.trans L))
inductive je(K:Za)(vs:List V)(H:Hp)(Q:VK)(E:XK):Prop
 |mk (a b:Addr) (ws:Zb) (us:List V) (ps:List DT):(vs=[.ref a,.ref b])->(H a=some (.lst (ws.map V.str)))->(H b=some (.lst us))->(fX K H us ps)->(ws.length<=ps.length)->(ws.length<=4)->(∀(q:Addr) (xs:List V) (H':Hp),H' q=some (.tup xs)->fX K H' xs (dA ff ws (ps.take ws.length))->ab H H'->Q (.ref q) H')->je K vs H Q E
theorem BX{K:Za}{f:List V}{H:Hp}{Q:VK}{E:XK}(h:je K f H Q E):xg K (bq Q) (start yF f) H:=by
 obtain⟨a,b,B,C,ps,rfl,D,G,I,zl,z4,k⟩:=h;have zu:=Paired.length I;refine⟨_,rfl,_,rfl,a,b,rfl,.inl ⟨⟨_,ay.of D⟩,⟨_,ay.of G⟩,fun l J=>?_⟩⟩
 let u:Nat->List V->Hp->Prop:=fun i f r=>ab H r/\r l=some (.lst f)/\fX K r f (dA ff (B.take i) (ps.take i))
 refine CH (xs:=B.map V.str) (ys:=C) (by rw[ak];omega) u ⟨ab.new J,aa,.nil⟩ (fun i C r _ zq=>by obtain⟨S,h',_⟩:=zq;exact⟨h',ay.of (S _ _ D),ay.of (S _ _ G)⟩) ?_ ?_
 ·rintro f j ⟨S,y,m⟩;rw[ak,a_]at m;refine⟨l,f,rfl,.inl ⟨ay.of y,fun q s=>k q f _ aa (fX.kt (ab.kt (ab.new s)) m) (S.trans (ab.new s))⟩⟩
 ·rintro i f j x v p hx hv L ⟨S,y,m⟩ z;obtain⟨w,hw,rfl⟩:=bE hx;obtain⟨d,hd,A⟩:=Paired.getL I hv;have M:ab j (upd j p (.tup [.str w,v])):=ab.new z;have N:upd j p (.tup [.str w,v]) p=some (.tup [.str w,v]):=aa;generalize upd j p (.tup [.str w,v])=t at M N ⊢;refine⟨p,_,rfl,bt.of N,rfl,_,_,rfl,_,_,rfl,rfl,mq ?_⟩;refine⟨_,rfl,_,rfl,(by show 2<=ah;decide),fun q s=>?_⟩;have O:ab t (upd t q (.tup [.str w,v])):=ab.new s;have T:upd t q (.tup [.str w,v]) q=some (.tup [.str w,v]):=aa;generalize upd t q (.tup [.str w,v])=U at O T ⊢;have g:=M.trans O;have Y:=g _ _ y;have kt:fO U (upd U l (.lst (f++[.ref q]))):=cO Y;have n:f.length<=1000:=by
   rw[Paired.length m,u4,aQ];omega
  refine⟨Y,aq n,m8 L ⟨fun b o e=>?_,aa,?_⟩⟩
  ·rw[aj (af e J)];exact g _ _ (S _ _ e)
  ·rw[take_snoc hw,take_snoc hd,List.zipWith_append (by rw[aQ,aQ];rw[ak]at L;omega)];refine cc (fX.kt (fun b xs e=>kt _ _ (ab.kt g _ _ e)) m) ?_;exact⟨q,_,rfl,.inl (kt _ _ T),_,_,rfl,nr w,_,_,rfl,cX.kt (fun b xs e=>kt _ _ (ab.kt g _ _ (ab.kt S _ _ e))) _ _ A,rfl⟩
mutual
def lR(J2:Zb)(w:List Nat)(s:List Sg):Tr->List En
 |.bl=>[⟨w,s,.bl⟩]
 |.en=>[⟨w,s,.en⟩]
 |.nd a ps=>lvEs J2 w s (cS J2 a) 0 ps
def lvEs(J2:Zb)(w:List Nat)(s:List Sg)(sgs:List Sg)(i:Nat):List Tr->List En
 |[]=>[]
 |p::ps=>lR J2 (w++[i]) (s++(sgs.take 1)) p++lvEs J2 w s (sgs.drop 1) (i+1) ps
end
mutual
theorem FD(e:Zb):∀(t:Tr) (w:List Nat) (s:List Sg),(lR e w s t).length<=t.sz
 |.bl,_,_=>aB _
 |.en,_,_=>aB _
 |.nd a f,w,s=>bm (lvEs_len e f w s _ 0) (pH _)
theorem lvEs_len(f:Zb):∀(e:List Tr) (w:List Nat) (s a:List Sg) (i:Nat),(lvEs f w s a i e).length<=Tr.szs e
 |[],_,_,_,_=>aB _
 |p::e,w,s,a,i=>by
  have g:=FD f p (w++[i]) (s++a.take 1);have h:=lvEs_len f e w s (a.drop 1) (i+1);show(lR f _ _ p++lvEs f _ _ _ _ e).length<=p.sz+Tr.szs e;rw[aF];omega
end
def nX(e:En):Bool:=match e.tr with
 |.nd _ _=>false
 |_=>true
mutual
theorem DC(e:Zb):∀(t:Tr) (w:List Nat) (s:List Sg),(iq e w s t).filter nX=lR e w s t
 |.bl,_,_=>rfl
 |.en,_,_=>rfl
 |.nd a f,w,s=>pres_lv e f w s _ 0
theorem pres_lv(a:Zb):∀(f:List Tr) (w:List Nat) (s e:List Sg) (i:Nat),(preEs a w s e i f).filter nX=lvEs a w s e i f
 |[],_,_,_,_=>rfl
 |p::f,w,s,e,i=>by
  show(iq a _ _ p++preEs a _ _ _ _ f).filter nX=lR a _ _ p++lvEs a _ _ _ _ f;rw[kh,DC a p,pres_lv a f]
end
def EM(e:En):Str:=match e.tr with
 |.bl=>"blame"
 |_=>"end"
def lY(K:Za)(J:Hp)(q:Addr)(e:En):Prop:=∃wr st:Addr,J q=some (.tup [.ref wr,.ref st,.str (EM e)])/\J wr=some (.tup (jd e.way))/\dq K J st e.story
theorem dq.same{K:Za}{J a:Hp}{st:Addr}{s:List Sg}(S:ab J a)(h:dq K J st s):dq K a st s:=by
 obtain⟨e,f,g⟩:=h;exact⟨e,S _ _ f,Paired.mapP g fun _ _ r=>az.kt (ab.kt S) r⟩
theorem lY.same{K:Za}{J a:Hp}{q:Addr}{e:En}(S:ab J a)(h:lY K J q e):lY K a q e:=by
 obtain⟨f,st,g,i,j⟩:=h;exact⟨f,st,S _ _ g,S _ _ i,dq.same S j⟩
theorem uJ(a:Zb){h:Nat}:∀{ps:List Tr},Tr.hgts ps<=h->DT.depths (Tr.dts a ps)<=dB h
 |[],_=>b_ _
 |p::ps,e=>by
  have f:Tr.hgts (p::ps)=max p.hgt (Tr.hgts ps):=rfl;have g:=yg a h p (by omega);have i:=uJ a (h:=h) (ps:=ps) (by omega);show max (p.dt a).depth (DT.depths (Tr.dts a ps))<=dB h;omega
theorem xX{T:Tr}{h:Nat}(e:T.hgt<=h):Tr.hgts (j8 T)<=h:=by
 cases T with
 |bl=>exact b_ _
 |en=>exact b_ _
 |nd a f=>exact bm (pH _) e
theorem Bm{K:Za}{H:Hp}{l e:Addr}{g:List V}{f:Zb}{a:List Tr}{Q:VK}(h:H l=some (.lst g))(i:fX K H g (Tr.dts f a))(j:H e=some (.lst []))(k:Tr.hgts a<=6)(q:Q (.bl (decide (a=[]))) H):xG K (.ref l) (.ref e) H Q:=by
 refine⟨.s (Tr.dts f a),.s [],?_,Bs (ay.of j),?_,by decide,?_⟩
 ·unfold jr;exact⟨l,g,rfl,ay.of h,TrCs.dIn _ _ (fX.all i)⟩
 ·show DT.depths _+1<=40;have:=uJ f k;have:dB 6=19:=rfl;omega
 ·have:decide (DT.s (Tr.dts f a)=DT.s [])=decide (a=[]):=decide_eq_decide.2 ⟨fun z=>by
   injection z with z;rw[Tr.dts_map]at z;exact oC.1 z,fun z=>by rw[z];rfl⟩
  rw[this];exact q
inductive eR(K:Za)(D:Nat)(vs:List V)(H:Hp)(Q:VK)(E:XK):Prop
 |mk (v:V) (wr st:Addr) (T:Tr) (way:List Nat) (story:List Sg) (J0 J2:Zb):(vs=[v,.ref wr,.ref st])->(T.hgt<=D)->(cX K H (T.dt J2) v)->(T.wf J0 J2)->(J2.length<=4)->(T.sz<=1000)->(H wr=some (.tup (jd way)))->(dq K H st story)->(way.length+T.hgt<=100)->(story.length+T.hgt<=100)->(∀(l:Addr) (qs:Ze) (H':Hp),H' l=some (.lst (qs.map V.ref))->Paired (lY K H') qs (lR J2 way story T)->ab H H'->Q (.ref l) H')->eR K D vs H Q E
theorem zJ{K:Za}{D:Nat}{as:Sp}(d5:D<=4)(hR:∀m,D=m+1->as=eR K m){vs:List V}{H:Hp}{Q:VK}{E:XK}(h:eR K D vs H Q E):vv K (lc K) as (kF K) (bq Q) (start wF vs) H:=by
 obtain⟨v,wr,st,T,g,f,J0,n,rfl,hg,hv,wf,z4,zT,hw,hs,zw,zs,k⟩:=h;refine⟨_,rfl,v,T,n,rfl,hv,wf.ok,z4,fun il us H1 aC hU S1=>?_⟩;refine⟨_,rfl,(by show 0<=ah;decide),fun e he=>?_⟩;have S2:ab H1 (upd H1 e (.lst [])):=ab.new he;have e2:upd H1 e (.lst []) e=some (.lst []):=aa;show xG K (.ref il) (.ref e) (upd H1 e (.lst [])) _;generalize upd H1 e (.lst [])=G at S2 e2 ⊢;have o:=S1.trans S2;have A:=fX.kt (ab.kt S2) hU;have a0:=cX.kt (ab.kt o) _ _ hv;refine Bm (S2 _ _ aC) A e2 (xX (by omega)) ⟨_,rfl,?_⟩;have L:∀(b:Addr) (w:Str),v=.ref b->az K G b [.str w]->EM ⟨g,f,T⟩=w->lR n g f T=[⟨g,f,T⟩] ->
   (aY (cf (ap (bb (cE V1 V2 (ax (bA K) V0 (tC (.int 0))))) bd))) (bq Q) [some v,some (.ref wr),some (.ref st),some (.ref il),none,none,none] G:=by
  rintro b w rfl Y ew el;refine⟨_,rfl,_,rfl,_,rfl,b,_,0,_,rfl,rfl,az.sq Y,aG (j:=0) rfl,(by show 3<=ah;decide),fun q hq=>⟨(by show 1<=ah;decide),fun l hl=>?_⟩⟩;have S3:ab G (upd (upd G q (.tup [.ref wr,.ref st,.str w])) l (.lst [.ref q])):=(ab.new hq).trans (ab.new hl);refine k l [q] _ aa ?_ (o.trans S3);rw[el];exact .cons ⟨wr,st,by rw[ew];exact kp aa hl,S3 _ _ (o _ _ hw),dq.same (o.trans S3) hs⟩ .nil
 cases T with
 |bl =>
  obtain⟨b,e,Y⟩:=jl (w:="blame") a0;exact bx (L b _ e Y rfl rfl)
 |en =>
  obtain⟨b,e,Y⟩:=jl (w:="end") a0;exact bx (L b _ e Y rfl rfl)
 |nd a ps =>
 obtain⟨w1,w2,w3⟩:=id wf;have w3:=Tr.wfs_mem.1 w3;have hg:Tr.hgts ps+1<=D:=hg;have zT:Tr.szs ps+1<=1000:=zT;have zw:g.length+(Tr.hgts ps+1)<=100:=zw;have zs:f.length+(Tr.hgts ps+1)<=100:=zs;have A:fX K G us (Tr.dts n ps):=A;obtain⟨w,rfl⟩:∃w,D=w+1:=⟨D-1,by omega⟩;cases hR w rfl;have ne:decide (j8 (.nd a ps)=[])=false:=zzr0 fun z=>by
  have z:ps=[]:=z;rw[z]at w1;cases w1
 rw[ne];refine aU ?_;refine⟨(by show 0<=ah;decide),fun f0 b7=>?_⟩;have S3:ab G (upd G f0 (.lst [])):=ab.new b7;have a4:upd G f0 (.lst []) f0=some (.lst []):=aa;generalize upd G f0 (.lst [])=H3 at S3 a4 ⊢;have a5:=o.trans S3;refine⟨_,rfl,v,a,ps,n,rfl,cX.kt (ab.kt a5) _ _ hv,w1,z4,fun sl ss H4 a6 hS S4=>⟨sl,rfl,⟨_,ay.of a6⟩,?_⟩⟩;have zk:=pc n a;have a7:ss.length=ps.length:=by rw[Paired.length hS,zk,w1]
 have zu:us.length=ps.length:=by rw[Paired.length A,Tr.dts_map,ak]
 have a8:=a5.trans S4;have a9:=S3.trans S4;have b8:=a9 _ _ (S2 _ _ aC);have lt:=lvEs_len n ps g f (cS n a) 0;have k:∀(l:Addr) (qs:Ze) (H':Hp),H' l=some (.lst (qs.map V.ref))->Paired (lY K H') qs (lvEs n g f (cS n a) 0 ps)->ab H H'->Q (.ref l) H':=k;generalize hE:lvEs n g f (cS n a) 0 ps=LE at lt k
 let b9:Nat->L2.St->Hp->Prop:=fun i σ H'=>NE6 fun(fl:Addr) (qs:Ze) (M:List En) (x5 x6:Option V) (_:Unit)=>Hc (σ=[some v,some (.ref wr),some (.ref st),some (.ref il),some (.ref fl),x5,x6]) (H' fl=some (.lst (qs.map V.ref))) (Paired (lY K H') qs M) (LE=M++lvEs n g f ((cS n a).drop i) i (ps.drop i)) (ab H4 H')
 refine ig (xs:=ss.map V.ref) b9 ⟨f0,[],[],_,_,(),rfl,S4 _ _ a4,.nil,hE.symm,ab.refl _⟩ (fun i σ H' _ zq=>by obtain⟨_,_,_,_,_,_,_,_,_,_,S⟩:=zq;exact ay.of (S _ _ a6)) ?_ ?_
 ·rintro i x σ H5 t hi ⟨fl,qs,M,x5,x6,_,rfl,al,hP,I,S5⟩ Y;obtain⟨s,bi,rfl⟩:=bF hi;obtain⟨sg,cb,cd⟩:=Paired.getL hS bi;have ce:i<ps.length:=by rw[<-a7];exact(ca.1 bi).1
  obtain⟨pt,y⟩:∃p,ps[i]?=some p:=⟨_,bY ce⟩;obtain⟨pv,bn⟩:∃p,us[i]?=some p:=⟨_,bY (by omega)⟩;have ch:cX K G (pt.dt n) pv:=by
   obtain⟨d,e,h⟩:=Paired.getL A bn;rw[Tr.dts_map,eZ,y]at e;injection e with e;rw[e];exact h
  have cl:(cS n a).drop i=sg::(cS n a).drop (i+1):=by
   obtain⟨h1,h2⟩:=ca.1 cb;rw[mi h1,h2]
  have cm:ps.drop i=pt::ps.drop (i+1):=by
   obtain⟨h1,h2⟩:=ca.1 y;rw[mi h1,h2]
  have I:LE=M++(lR n (g++[i]) (f++[sg]) pt++lvEs n g f ((cS n a).drop (i+1)) (i+1) (ps.drop (i+1))):=by
   rw[I,cl,cm];rfl
  have S6:ab H5 (upd H5 t (.tup [.int i,.ref s])):=ab.new Y;have t6:upd H5 t (.tup [.int i,.ref s]) t=some (.tup [.int i,.ref s]):=aa;generalize upd H5 t (.tup [.int i,.ref s])=H6 at S6 t6 ⊢;refine⟨t,_,rfl,bt.of t6,rfl,_,_,rfl,_,_,rfl,rfl,?_⟩;have an:=S5.trans S6;have b1:=a8.trans an;refine⟨_,rfl,_,rfl,_,rfl,il,_,i,pv,rfl,rfl,ay.of (an _ _ b8),aG bn,_,rfl,_,rfl,(by show 1<=ah;decide),fun t1 co=>?_⟩;have S7:ab H6 (upd H6 t1 (.tup [.int (i:Nat)])):=ab.new co;have b2:upd H6 t1 (.tup [.int (i:Nat)]) t1=some (.tup [.int (i:Nat)]):=aa;show rV K (.ref wr) (.ref t1) (upd H6 t1 (.tup [.int (i:Nat)])) _;generalize upd H6 t1 (.tup [.int (i:Nat)])=H7 at S7 b2 ⊢;refine wj ((b1.trans S7) _ _ hw) b2 (by omega) fun wt H8 cq S8=>?_;have cs:=(b1.trans S7).trans S8;obtain⟨gs,ct,b3⟩:=dq.same cs hs;have dc:gs.length=f.length:=Paired.length b3;refine⟨_,rfl,_,rfl,(by show 1<=ah;decide),fun l1 c0=>?_⟩;have S9:ab H8 (upd H8 l1 (.lst [.ref s])):=ab.new c0;have b4:upd H8 l1 (.lst [.ref s]) l1=some (.lst [.ref s]):=aa;generalize upd H8 l1 (.lst [.ref s])=H9 at S9 b4 ⊢;refine⟨st,l1,_,_,rfl,rfl,S9 _ _ ct,b4,by rw[ak];exact cN (aq (by show _+1<=1000;omega)),fun sx c1=>?_⟩;have b5:ab H9 (upd H9 sx (.lst (gs.map V.ref++[.ref s]))):=ab.new c1;have N:upd H9 sx (.lst (gs.map V.ref++[.ref s])) sx=some (.lst ((gs++[s]).map V.ref)):=by rw[aa,au];rfl
  generalize upd H9 sx (.lst (gs.map V.ref++[.ref s]))=c2 at b5 N ⊢;have B:=S9.trans b5;have O:=S7.trans (S8.trans B);have U:=an.trans O;have J:dq K c2 sx (f++[sg]):=⟨gs++[s],N,cc (Paired.mapP b3 fun _ _ r=>az.kt (ab.kt B) r) (az.kt (ab.kt U) cd)⟩;have dd:=n5 (cw y);have dk:pt.sz<=Tr.szs ps:=by
   have h1:=AO (u:=pt) y;have:∀(l:List Tr) (t:Tr),t∈l->t.sz<=Tr.szs l:=fun l t=>by
    induction l with
    |nil=>intro h;cases h
    |cons x r ih =>
     intro h;show t.sz<=x.sz+Tr.szs r;rcases cx.1 h with rfl|h
     ·omega
     ·have:=ih h;omega
   exact this ps pt (cw y)
  refine⟨pv,wt,sx,pt,g++[i],f++[sg],J0,n,rfl,by omega,cX.kt (ab.kt (a9.trans U)) _ _ ch,w3 pt (cw y),z4,by omega,B _ _ cq,J,by rw[aF];show g.length+1+_<=100;omega,by rw[aF];show f.length+1+_<=100;omega,fun rl rs b6 c3 hR c4=>?_⟩;have C:=S6.trans (O.trans c4);have zq:=Paired.length hP;have zr:=Paired.length hR;have zl:LE.length=M.length+((lR n (g++[i]) (f++[sg]) pt).length+(lvEs n g f ((cS n a).drop (i+1)) (i+1) (ps.drop (i+1))).length):=by rw[I,aF,aF]
  refine⟨fl,rl,_,_,rfl,rfl,C _ _ al,c3,by rw[ak,ak];exact cN (aq (by omega)),fun fr c5=>?_⟩;have o:ab b6 (upd b6 fr (.lst (qs.map V.ref++rs.map V.ref))):=ab.new c5;exact⟨fr,qs++rs,M++lR n (g++[i]) (f++[sg]) pt,_,_,(),rfl,by rw[aa,au],Paired.app (Paired.mapP hP fun _ _ r=>lY.same (C.trans o) r) (Paired.mapP hR fun _ _ r=>lY.same o r),by rw[I,cA],S5.trans (C.trans o)⟩
 ·rintro σ H5 ⟨fl,qs,M,x5,x6,_,rfl,al,hP,I,S5⟩;rw[ak,a7,qX]at I;have I:LE=M++[]:=I;rw[f6]at I;refine⟨_,rfl,k fl qs H5 al ?_ (a8.trans S5)⟩;rw[I];exact hP
mutual
theorem uz{i:Zb}{P:Sg->Prop}(j:∀a,∀f∈cS i a,P f):∀(t:Tr) (w:List Nat) (s:List Sg),(∀f∈s,P f)->∀e∈lR i w s t,(∀f∈e.story,P f)/\e.story.length<=s.length+t.hgt
 |.bl,w,s,h,e,g=>by rw[bX.1 g];exact⟨h,oK _ _⟩
 |.en,w,s,h,e,g=>by rw[bX.1 g];exact⟨h,oK _ _⟩
 |.nd a k,w,s,h,e,g=>lvEs_story j k w s (cS i a) 0 h (j a) e g
theorem lvEs_story{m:Zb}{P:Sg->Prop}(n:∀a,∀f∈cS m a,P f):∀(k:List Tr) (w:List Nat) (s g:List Sg) (i:Nat),(∀f∈s,P f)->(∀f∈g,P f)->∀e∈lvEs m w s g i k,(∀f∈e.story,P f)/\e.story.length<=s.length+(Tr.hgts k+1)
 |[],_,_,_,_,_,_,e,he=>by cases he
 |p::k,w,s,g,i,h,o,e,he=>by
  have t:Tr.hgts (p::k)=max p.hgt (Tr.hgts k):=rfl;rcases be.1 he with he|he
  ·obtain⟨l,r⟩:=uz n p (w++[i]) (s++g.take 1) (fun f j=>(be.1 j).elim (h f) fun q=>o f (g8 q)) e he;refine⟨l,?_⟩;rw[aF,aQ]at r;omega
  ·obtain⟨l,r⟩:=lvEs_story n k w s (g.drop 1) (i+1) h (fun f j=>o f (qV j)) e he;exact⟨l,by omega⟩
end
theorem xN(f:Zb)(a:Option Str):∀g∈cS f a,g≠am:=fun g h e=>by
 subst e;have i:∀w:Str,iH w≠am:=fun w z=>by have z:([("say":Str),w]:Zb)=[("still":Str)]:=z;injection z with z _;exact absurd z (by decide)
 cases a with
 |none =>
  rcases be.1 (show am∈f.map iH++[bz]from h)with h|h
  ·obtain⟨w,_,e⟩:=aV.1 h;exact i w e
  ·exact absurd (bX.1 h) (by decide)
 |some w =>
  rcases cx.1 (show am∈db w::f.map iH from h)with h|h
  ·have z:([("still":Str)]:Zb)=[("ask":Str),w]:=h;injection z with z _;exact absurd z (by decide)
  ·obtain⟨w,_,e⟩:=aV.1 h;exact i w e
inductive jC(K:Za)(C:Addr)(vs:List V)(H:Hp)(Q:VK)(E:XK):Prop
 |mk (M:Addr) (v:V) (T:Tr) (J0 J2 rooms:Zb) (ds:List ai):(vs=[.ref M,v])->(bD C H M J0 J2 rooms ds)->(cX K H (T.dt J2) v)->(T.wf J0 J2)->(T.sz<=1000)->(T.hgt<=7)->(∀(l:Addr) (qs:Ze) (H':Hp),H' l=some (.lst (qs.map V.ref))->Paired (lY K H') qs (lR J2 [] [] T)->ab H H'->Q (.ref l) H')->jC K C vs H Q E
theorem GX{K:Za}{H:Hp}{g:Zb}{T:Tr}{v:V}(ok:T.ok g)(h:cX K H (T.dt g) v):∃b i,v=.ref b/\az K H b i/\((T=.bl/\i=[.str "blame"])∨(T=.en/\i=[.str "end"])∨(∃a j,T=.nd a j/\(i.length=3∨i.length=4))):=by
 cases T with
 |bl =>
  obtain⟨b,e,f⟩:=jl (w:="blame") h;exact⟨b,_,e,f,.inl ⟨rfl,rfl⟩⟩
 |en =>
  obtain⟨b,e,f⟩:=jl (w:="end") h;exact⟨b,_,e,f,.inr (.inl ⟨rfl,rfl⟩)⟩
 |nd a j =>
  have ok:j.length=g.length+1:=ok;have k:(Tr.dts g j).length=g.length+1:=by rw[Tr.dts_map,ak,ok]
  cases a with
  |none =>
   obtain⟨b,p,l,m,n,e,f,_⟩:=np k h;exact⟨b,_,e,f,.inr (.inr ⟨_,_,rfl,.inl rfl⟩)⟩
  |some a =>
   obtain⟨b,m,q,o,n,e,f,_⟩:=nu k h;exact⟨b,_,e,f,.inr (.inr ⟨_,_,rfl,.inr rfl⟩)⟩
mutual
theorem AV{J0 f:Zb}:∀(t:Tr) (w:List Nat) (s:List Sg),t.wf J0 f->∀e∈iq f w s t,e.tr.wf J0 f
 |.bl,w,s,_,e,he=>by rw[bX.1 he];trivial
 |.en,w,s,_,e,he=>by rw[bX.1 he];trivial
 |.nd a g,w,s,h,e,he=>by
  rcases cx.1 he with rfl|he
  ·exact h
  ·exact preEs_wf g w s _ 0 h.2.2 e he
theorem preEs_wf{j g:Zb}:∀(f:List Tr) (w:List Nat) (s a:List Sg) (i:Nat),Tr.wfs j g f->∀e∈preEs g w s a i f,e.tr.wf j g
 |[],_,_,_,_,_,e,he=>by cases he
 |p::f,w,s,a,i,h,e,he=>by
  rcases be.1 he with he|he
  ·exact AV p _ _ h.1 e he
  ·exact preEs_wf f w s _ (i+1) h.2 e he
end
theorem n8{l:List En}{i:Nat}{e:En}(h:l[i]?=some e):(l.take (i+1)).filter nX=(l.take i).filter nX++(if nX e=true then[e]else[]):=by
 rw[take_snoc h,kh];by_cases c:nX e=true
 ·rw[if_pos c];simp[c]
 ·rw[if_neg c];simp[c]
theorem zK{K:Za}{C:Addr}{vs:List V}{H:Hp}{Q:VK}{E:XK}(h:jC K C vs H Q E):De K (jF K C) (bq Q) (start EB vs) H:=by
 obtain⟨M,v,T,J0,O,rooms,ds,rfl,MA,hv,wf,zT,hg,k⟩:=h;have zp:(iq O [] [] T).length<=1000:=by rw[vU];exact zT
 refine⟨_,rfl,_,rfl,M,v,T,J0,O,rooms,ds,rfl,MA,hv,wf,zp,fun e p=>?_,fun cl qs H1 u hP S1=>⟨cl,rfl,⟨_,ay.of u⟩,fun l hl=>?_⟩⟩
 ·have:=xI O T [] [] e p;have:([]:List Nat).length=0:=rfl;omega
 have y:=AV (J0:=J0) T ([]:List Nat) ([]:List Sg) wf;rw[<-DC]at k;generalize iq O [] [] T=L at zp hP y k
 let n:Nat->List V->Hp->Prop:=fun i U Y=>∃g:List Addr,U=g.map V.ref/\ab H1 Y/\Y l=some (.lst U)/\Paired (lY K (gS Y l)) g ((L.take i).filter nX)
 have A:∀{f:Hp}{q:Addr}{e:En},lY K (gS f l) q e->lY K f q e:=fun h=>lY.same fj h;refine cG (xs:=qs.map V.ref) n ⟨[],rfl,ab.new hl,aa,.nil⟩ (fun i vs Y _ zq=>by obtain⟨_,_,S,h',_⟩:=zq;exact⟨h',ay.of (S _ _ u)⟩) ?_ ?_
 ·rintro U f ⟨g,rfl,S,B,s⟩;rw[ak,Paired.length hP,a_]at s;exact k l g f B (Paired.mapP s fun _ _ r=>A r) (S1.trans S)
 ·rintro i U f x hx hi ⟨g,rfl,S,B,s⟩;obtain⟨q,hq,rfl⟩:=bF hx;obtain⟨e,p,al⟩:=Paired.getL hP hq;have i1:i<L.length:=(ca.1 p).1;have an:ab H1 (gS f l):=FH S hl;obtain⟨D,st,as,g1,g2,g3,g4⟩:=kZ.same an al;have gq:f q=some (.tup [.ref D,.ref st,as]):=fj _ _ g1;refine⟨q,_,rfl,bt.of gq,rfl,_,_,rfl,_,_,rfl,_,_,rfl,rfl,?_⟩;obtain⟨b,xs,rfl,ht,hc⟩:=GX (y e (cw p)).ok g4;have G:az K f b xs:=az.kt (ab.kt fj) ht;refine⟨_,rfl,.inl ⟨b,xs,rfl,.inr (az.sq G),rfl,_,rfl,?_⟩⟩;have zr:=Paired.length s;have zf:((L.take i).filter nX).length<=i:=bm (fA _ _) (by rw[aQ];omega);have m:∀w:Str,xs=[.str w]->nX e=true->EM e=w->(bb (cE V0 V1 (ax (bA K) V2 (tC (.int 0))))) [some (.ref D),some (.ref st),some (.ref b)] f fun v H6=>H6 l=some (.lst (g.map V.ref))/\(g.map V.ref).length<ah/\∃I,I<(qs.map V.ref).length-i/\Wc (qs.map V.ref).length n (i+1) I (g.map V.ref++[v]) (upd H6 l (.lst (g.map V.ref++[v]))):=by
   rintro w rfl c1 c2;refine⟨_,rfl,_,rfl,_,rfl,b,_,0,_,rfl,rfl,az.sq G,aG (j:=0) rfl,(by show 3<=ah;decide),fun J N=>?_⟩;have nq:l≠J:=af B N;have S3:ab f (upd f J (.tup [.ref D,.ref st,.str w])):=ab.new N;refine⟨S3 _ _ B,by rw[ak];exact aq (by omega),m8 hi ⟨g++[J],by rw[au];rfl,fun b o e=>?_,aa,?_⟩⟩
   ·rw[aj (af e hl)];exact S3 _ _ (S _ _ e)
   ·have Sh:ab (gS f l) (gS (upd (upd f J (.tup [.ref D,.ref st,.str w])) l (.lst (g.map V.ref++[.ref J]))) l):=by rw[Cw];exact Eb S3
    rw[n8 p,if_pos c1];refine cc (Paired.mapP s fun _ _ r=>lY.same Sh r) ⟨D,st,?_,Sh _ _ g2,dq.same Sh g3⟩;rw[fI nq.symm,aj nq.symm,c2,aa]
  have skip:nX e=false->∃I,I<(qs.map V.ref).length-i/\Wc (qs.map V.ref).length n (i+1) I (g.map V.ref) f:=fun c=>by
   refine m8 hi ⟨g,rfl,S,B,?_⟩;rw[n8 p,if_neg (by rw[c];decide),f6];exact s
  rcases hc with⟨c,t⟩|⟨c,t⟩|⟨a,ps,c,t⟩
  ·rw[zzr1 (by rw[t];rfl)];exact bx (m _ t (by unfold nX;rw[c]) (by unfold EM;rw[c]))
  ·rw[zzr1 (by rw[t];rfl)];exact bx (m _ t (by unfold nX;rw[c]) (by unfold EM;rw[c]))
  ·rw[zzr0 (by intro z;injection z with z;omega)];exact aU (skip (by unfold nX;rw[c]))
open Classical in
def firstB(rooms:Zb)(ds:List ai)(L:List En):Option En:=L.find? fun e=>decide (EM e=("blame":Str)/\faceOf rooms ds e.story≠[])
inductive hZ(K:Za)(C:Addr)(vs:List V)(H:Hp)(Q:VK)(E:XK):Prop
 |mk (M I:Addr) (v:V) (T:Tr) (J0 J2 rooms r1:Zb) (ds d1:List ai):(vs=[.ref M,v,.ref I])->(bD C H M J0 J2 rooms ds)->(bD C H I J0 J2 r1 d1)->(∀r∈r1,∀a∈J0,gG d1 r a)->(cX K H (T.dt J2) v)->(T.wf J0 J2)->(T.sz<=1000)->(T.hgt<=7)->(firstB r1 d1 (lR J2 [] [] T)=none->∀H',ab H H'->Q .non H') ->
  (∀e,firstB r1 d1 (lR J2 [] [] T)=some e->∀(l:Addr) (ts:Ze) (w:List ai) (H':Hp),H' l=some (.lst (ts.map V.ref))->Paired (yO K H') ts w->C0 d1 (cv r1) w=true->bZ w=e.story->w.length<=200000->ab H H'->Q (.ref l) H')->hZ K C vs H Q E
theorem zP{K:Za}{C:Addr}{O:List V}{H:Hp}{Q:VK}{E:XK}(h:hZ K C O H Q E):Dg K (jC K C) (nH K C) (fE C) (bq Q) (start ED O) H:=by
 obtain⟨M,I,v,T,o,g,rooms,m,U,n,rfl,Y,IA,tk,hv,wf,zT,hg,k1,k2⟩:=h;refine⟨_,rfl,_,rfl,M,I,o,g,rooms,m,U,n,rfl,Y,IA,tk,fun H1 p=>?_⟩;refine⟨_,rfl,_,rfl,M,v,T,o,g,rooms,U,rfl,Y.same p,cX.kt (ab.kt p) _ _ hv,wf,zT,hg,fun l qs H2 hl r S2=>⟨l,rfl,⟨_,ay.of hl⟩,?_⟩⟩;have st:=uz (xN g) T [] [] (fun _ h=>(by cases h));generalize lR g [] [] T=L at r k1 k2 st;have j:=p.trans S2
 let s:Nat->L2.St->Hp->Prop:=fun i σ H'=>Hb fun(t u y A:Option V)=>HW (σ=[some (.ref M),some v,some (.ref I),t,u,y,A]) (firstB m n L=firstB m n (L.drop i)) (ab H2 H')
 refine bP (xs:=qs.map V.ref) s ⟨_,_,_,_,rfl,rfl,ab.refl _⟩ (fun i σ H' _ zq=>by obtain⟨_,_,_,_,_,_,S⟩:=zq;exact ay.of (S _ _ hl)) ?_ ?_
 ·rintro i x σ H3 hx ⟨t,u,y,A,rfl,a,f⟩;obtain⟨q,hq,rfl⟩:=bF hx;obtain⟨e,he,B⟩:=Paired.getL r hq;obtain⟨wr,sx,g1,g2,g3⟩:=lY.same f B;obtain⟨e1,e2⟩:=st e (cw he);have ed:L.drop i=e::L.drop (i+1):=by
   obtain⟨h1,h2⟩:=ca.1 he;rw[mi h1,h2]
  rw[ed]at a;unfold firstB at a;rw[fB]at a;refine⟨q,_,rfl,bt.of g1,rfl,_,_,rfl,_,_,rfl,_,_,rfl,rfl,?_⟩;refine⟨_,rfl,rfl,_,rfl,?_⟩;by_cases c:EM e=("blame":Str);rotate_left
  ·rw[zzr0 (fun z=>c (by injection z))];rw[zzr0 (fun z=>c z.1)]at a;exact aU ⟨_,_,_,_,rfl,a,f⟩
  rw[zzr1 (by rw[c])];refine bx ?_;have k:=j.trans f;refine⟨_,rfl,_,rfl,I,sx,e.story,o,g,m,n,rfl,IA.same k,g3,by have:([]:List Sg).length=0:=rfl;omega,e1,fun D H4 G=>?_,fun D wl ts w H4 J _ N gw hw zw G=>?_⟩
  ·rw[zzr0 (fun z=>z.2 D)]at a;refine⟨_,rfl,_,rfl,?_⟩;exact aU ⟨_,_,_,_,rfl,a,f.trans G⟩
  ·rw[zzr1 ⟨c,D⟩]at a;refine⟨_,rfl,_,rfl,?_⟩;exact bx ⟨_,rfl,k2 e a wl ts w H4 J N gw hw zw (k.trans G)⟩
 ·rintro σ H3 ⟨t,u,y,A,rfl,a,f⟩;rw[ak,Paired.length r,qX]at a;exact k1 a H3 (j.trans f)
mutual
def ic(goal here:List Nat):Tr->Tr
 |.nd a ps=>.nd a (onlyTs goal here 0 ps)
 |.bl=>if here=goal then .bl else .en
 |.en=>if here=goal then .bl else .en
def onlyTs(goal here:List Nat)(i:Nat):List Tr->List Tr
 |[]=>[]
 |p::ps=>ic goal (here++[i]) p::onlyTs goal here (i+1) ps
end
theorem jL(a e:List Nat):∀(f:List Tr) (i:Nat),(onlyTs a e i f).length=f.length
 |[],_=>rfl
 |p::f,i=>by
  show(onlyTs a e (i+1) f).length+1=f.length+1;rw[jL a e f]
theorem nW{c:Prop}[Decidable c]{P:Tr->Prop}(a:P .bl)(e:P .en):P (if c then .bl else .en):=by split;exact a;exact e
mutual
theorem xQ{g i:Zb}(f:List Nat):∀(t:Tr) (e:List Nat),t.wf g i->(ic f e t).wf g i
 |.bl,_,_=>nW trivial trivial
 |.en,_,_=>nW trivial trivial
 |.nd a j,e,h=>⟨by rw[jL];exact h.1,h.2.1,onlyTs_wf f j e 0 h.2.2⟩
theorem onlyTs_wf{g j:Zb}(a:List Nat):∀(f:List Tr) (e:List Nat) (i:Nat),Tr.wfs g j f->Tr.wfs g j (onlyTs a e i f)
 |[],_,_,h=>h
 |p::f,e,i,h=>⟨xQ a p _ h.1,onlyTs_wf a f e (i+1) h.2⟩
end
mutual
theorem uw(f:List Nat):∀(t:Tr) (e:List Nat),(ic f e t).hgt<=t.hgt/\(ic f e t).sz=t.sz
 |.bl,e=>nW (P:=fun x=>x.hgt<=_/\x.sz=_) ⟨aB _,rfl⟩ ⟨aB _,rfl⟩
 |.en,e=>nW (P:=fun x=>x.hgt<=_/\x.sz=_) ⟨aB _,rfl⟩ ⟨aB _,rfl⟩
 |.nd a g,e=>by
  obtain⟨h,i⟩:=onlyTs_hgt f g e 0;exact⟨ve h,congrArg (·+1) i⟩
theorem onlyTs_hgt(e:List Nat):∀(f:List Tr) (a:List Nat) (i:Nat),Tr.hgts (onlyTs e a i f)<=Tr.hgts f/\Tr.szs (onlyTs e a i f)=Tr.szs f
 |[],_,_=>⟨aB _,rfl⟩
 |p::f,a,i=>by
  obtain⟨j,g⟩:=uw e p (a++[i]);obtain⟨k,h⟩:=onlyTs_hgt e f a (i+1);refine⟨?_,?_⟩
  ·show max _ _<=max _ _;omega
  ·show _+_=_+_;rw[g,h]
end
def Gd(goal:List Nat)(e:En):En:=⟨e.way,e.story,if e.way=goal then .bl else .en⟩
mutual
theorem vY(f:Zb)(e:List Nat):∀(t:Tr) (w:List Nat) (s:List Sg),lR f w s (ic e w t)=(lR f w s t).map (Gd e)
 |.bl,w,s=>by
  show lR f w s (if w=e then .bl else .en)=[⟨w,s,if w=e then .bl else .en⟩]
  split<;>rfl
 |.en,w,s=>by
  show lR f w s (if w=e then .bl else .en)=[⟨w,s,if w=e then .bl else .en⟩]
  split<;>rfl
 |.nd a g,w,s=>onlys_lv f e g w s _ 0
theorem onlys_lv(e:Zb)(a:List Nat):∀(g:List Tr) (w:List Nat) (s f:List Sg) (i:Nat),lvEs e w s f i (onlyTs a w i g)=(lvEs e w s f i g).map (Gd a)
 |[],_,_,_,_=>rfl
 |p::g,w,s,f,i=>by
  show lR e _ _ (ic a (w++[i]) p)++lvEs e _ _ _ _ (onlyTs a w (i+1) g)=(lR e _ _ p++lvEs e _ _ _ _ g).map (Gd a);rw[au,vY e a p,onlys_lv e a g]
end
mutual
theorem DU{g:Zb}:∀(t:Tr) (w:List Nat) (s:List Sg),∀e∈lR g w s t,∃u,e.way=w++u
 |.bl,w,s,e,f=>by rw[bX.1 f];exact⟨[],(f6 _).symm⟩
 |.en,w,s,e,f=>by rw[bX.1 f];exact⟨[],(f6 _).symm⟩
 |.nd a i,w,s,e,f=>by
  obtain⟨j,u,_,_,h⟩:=lvs_pre i w s _ 0 e f;exact⟨_,h⟩
theorem lvs_pre{g:Zb}:∀(a:List Tr) (w:List Nat) (s f:List Sg) (i:Nat),∀e∈lvEs g w s f i a,∃j u,i<=j/\j<i+a.length/\e.way=w++j::u
 |[],_,_,_,_,e,he=>by cases he
 |p::a,w,s,f,i,e,he=>by
  rcases be.1 he with he|he
  ·obtain⟨u,h⟩:=DU p (w++[i]) _ e he;exact⟨i,u,aB _,by show i<i+(a.length+1);omega,by rw[h,cA];rfl⟩
  ·obtain⟨j,u,l,m,k⟩:=lvs_pre a w s _ (i+1) e he;exact⟨j,u,by omega,by show j<i+(a.length+1);omega,k⟩
end
mutual
theorem Bf{j:Zb}:∀(t:Tr) (w:List Nat) (s:List Sg),∀e∈lR j w s t,∀f∈lR j w s t,e.way=f.way->e.story=f.story
 |.bl,w,s,e,g,f,i,_=>by rw[bX.1 g,bX.1 i]
 |.en,w,s,e,g,f,i,_=>by rw[bX.1 g,bX.1 i]
 |.nd a k,w,s,e,g,f,i,h=>lvs_uniq k w s _ 0 e g f i h
theorem lvs_uniq{m:Zb}:∀(l:List Tr) (w:List Nat) (s g:List Sg) (i:Nat),∀e∈lvEs m w s g i l,∀f∈lvEs m w s g i l,e.way=f.way->e.story=f.story
 |[],_,_,_,_,e,he,_,_,_=>by cases he
 |p::l,w,s,g,i,e,he,f,hf,h=>by
  have k:∀a b:En,a∈lR m (w++[i]) (s++g.take 1) p->b∈lvEs m w s (g.drop 1) (i+1) l->a.way≠b.way:=fun a b n o z=>by
   obtain⟨u,q⟩:=DU p _ _ a n;obtain⟨j,t,v,_,r⟩:=lvs_pre l w s _ (i+1) b o;rw[q,r,cA]at z;have z:=List.append_cancel_left z;injection z with z _;omega
  rcases be.1 he with he|he
  ·rcases be.1 hf with hf|hf
   ·exact Bf p _ _ e he f hf h
   ·exact absurd h (k e f he hf)
  ·rcases be.1 hf with hf|hf
   ·exact absurd h.symm (k f e hf he)
   ·exact lvs_uniq l w s _ (i+1) e he f hf h
end
theorem z5(a:List Nat)(e:En):EM (Gd a e)=("blame":Str)↔e.way=a:=by
 unfold EM Gd;by_cases h:e.way=a
 ·rw[if_pos h];exact⟨fun _=>h,fun _=>rfl⟩
 ·rw[if_neg h];exact⟨fun z=>absurd z (show ¬(("end":Str)="blame") by decide),fun z=>absurd z h⟩
theorem zW{a rooms:Zb}{ds:List ai}{T:Tr}{e:En}(l:e∈lR a [] [] T):(faceOf rooms ds e.story=[]->firstB rooms ds (lR a [] [] (ic e.way [] T))=none)/\(faceOf rooms ds e.story≠[]->∃f,firstB rooms ds (lR a [] [] (ic e.way [] T))=some f/\f.story=e.story):=by
 rw[vY];have h:∀f∈(lR a [] [] T).map (Gd e.way),EM f=("blame":Str)->f.story=e.story:=fun f j n=>by
  obtain⟨g,o,rfl⟩:=aV.1 j;exact Bf T [] [] g o e l ((z5 _ g).1 n)
 constructor
 ·intro k;unfold firstB;rw[uY];intro f j z;obtain⟨p,m⟩:=of_decide_eq_true z;rw[h f j p]at m;exact m k
 ·intro k;cases i:firstB rooms ds ((lR a [] [] T).map (Gd e.way))with
  |none =>
   unfold firstB at i;exact absurd (zzr1 ⟨(z5 _ e).2 rfl,k⟩) (uY.1 i (Gd e.way e) (ki l))
  |some f =>
   unfold firstB at i;have q:=List.find?_some i;exact⟨f,rfl,h f (List.mem_of_find?_eq_some i) (of_decide_eq_true q).1⟩
theorem Ck{l i rooms:Zb}{m:List ai}{T:Tr}(wf:T.wf l i)(z:i.length<=4):firstB rooms m (lR i [] [] (ic [9] [] T))=none:=by
 rw[vY];unfold firstB;rw[uY];intro f n q;obtain⟨o,_⟩:=of_decide_eq_true q;obtain⟨g,k,rfl⟩:=aV.1 n;have e:=(z5 _ g).1 o;cases T with
 |bl=>rw[bX.1 k]at e;cases e
 |en=>rw[bX.1 k]at e;cases e
 |nd a p =>
  obtain⟨j,u,_,r,h⟩:=lvs_pre p [] [] _ 0 g k;rw[e]at h;have h:([9]:List Nat)=j::u:=h;injection h with h _;have:=wf.1;omega
theorem Al{K:Za}{k:Nat}{m:List Nat}{g:TG}{n:TT}{o:TE}{σ:L2.St}{q:Hp}{Q:Hp->Prop}{l a:Addr}{xs:List V}(Pv:Nat->List V->Hp->Prop)(w:Pv 0 [] (upd q l (.lst [])))
  (j:∀i e H,i<=xs.length->Pv i e H->H l=some (.lst e)/\ay K H a xs) (z:∀e H,Pv xs.length e H->Q H)
  (A:∀i e H x p,xs[i]?=some x->i<xs.length->Pv i e H->H p=none->g (.ref p) (cW k m σ) (upd H p (.tup [.int i,x])) fun σ2 B=>n σ2 B fun b r =>
   if b=true then o σ2 r fun v s=>s l=some (.lst e)/\e.length<ah/\∃h,h<xs.length-i/\Wc xs.length Pv (i+1) h (e++[v]) (upd s l (.lst (e++[v])))else ∃h,h<xs.length-i/\Wc xs.length Pv (i+1) h e r) :
  c9 k m σ (Hg K a) g n o q l Q:=by
 refine jq xs.length Pv w (fun i e H f p=>(j i e H f p).1) (fun i e H f p=>?_) (fun e H p=>?_) fun i e H x E f p y=>?_
 ·exact⟨xs,xs[i],(j i e H (cN f) p).2,by simp[f]⟩
 ·exact⟨⟨xs,(j _ e H (aB _) p).2,aB _⟩,z e H p⟩
 ·obtain⟨t,u,rfl,C,D,rfl⟩:=y;exact A i e H u t (D xs (j i e H (cN f) p).2) f p C
inductive gC(K:Za)(D:Nat)(vs:List V)(H:Hp)(Q:VK)(E:XK):Prop
 |mk (v:V) (gr hr:Addr) (T:Tr) (goal here:List Nat) (J0 J2:Zb):(vs=[v,.ref gr,.ref hr])->(T.hgt<=D)->(cX K H (T.dt J2) v)->(T.wf J0 J2)->(J2.length<=4)->(H gr=some (.tup (jd goal)))->(H hr=some (.tup (jd here)))->(here.length+T.hgt<=100)->(∀(r:V) (H':Hp),cX K H' ((ic goal here T).dt J2) r->ab H H'->Q r H')->gC K D vs H Q E
def C7(n:Nat):DT:=.k (.inl n)
theorem rA{K:Za}{H:Hp}:∀w:List Nat,DIns K H (w.map C7) (jd w)
 |[]=>by show DIns K H [] [];unfold DIns;rfl
 |n::w=>by
  show DIns K H (C7 n::w.map C7) (.int n::jd w);unfold DIns;refine⟨_,_,rfl,?_,rA w⟩;unfold C7 jr
  rfl
theorem oR:∀w:List Nat,DT.depths (w.map C7)=0
 |[]=>rfl
 |n::w=>by
  show max (C7 n).depth (DT.depths (w.map C7))=0;rw[oR w];rfl
theorem EU{a b:List Nat}(h:DT.t (a.map C7)=DT.t (b.map C7)):a=b:=by
 injection h with h
 revert b
 induction a with
 |nil=>intro b h;cases b with
  |nil=>rfl
  |cons x r=>cases h
 |cons x a f=>intro b h;cases b with
  |nil=>cases h
  |cons y b =>
   injection h with e g;injection e with e;injection e with e;rw[f g,Int.ofNat.inj e]
theorem Ba{K:Za}{H:Hp}{f:Zb}{a:Str}{g:List DT}{q h:Addr}{i:V}{e:List V}{j:DT}(l:H q=some (.tup [.str "tell",.str a,i,.ref h]))(m:H h=some (.tup e))(n:g[0]?=some j)(o:cX K H j i)(k:fX K H e (dA ff f ((g.drop 1).take f.length)))(p:g.length=f.length+1):cX K H (eA f (some a) g) (.ref q):=by
 rw[iz n];rw[oG (by rw[cB];omega)]at k;exact⟨q,_,rfl,.inl l,_,_,rfl,nr _,_,_,rfl,nr _,_,_,rfl,o,_,_,rfl,⟨h,_,rfl,.inl m,fX.all k⟩,rfl⟩
theorem A_{K:Za}{H:Hp}{e:Zb}{f:List DT}{q g:Addr}{h:V}{a:List V}{i:DT}(j:H q=some (.tup [.str "wait",.ref g,h]))(k:H g=some (.tup a))(l:f[e.length]?=some i)(m:cX K H i h)(n:fX K H a (dA ff e (f.take e.length))):cX K H (eA e none f) (.ref q):=by
 rw[iA l];exact⟨q,_,rfl,.inl j,_,_,rfl,nr _,_,_,rfl,⟨g,_,rfl,.inl k,fX.all n⟩,_,_,rfl,m,rfl⟩
theorem sh(a e:List Nat):∀{ps:List Tr}{i j:Nat}{t:Tr},ps[j]?=some t->(onlyTs a e i ps)[j]?=some (ic a (e++[i+j]) t)
 |p::ps,i,0,t,h=>by injection h with h;rw[h];rfl
 |p::ps,i,j+1,t,h=>by
  show(onlyTs a e (i+1) ps)[j]?=_;rw[sh a e (ps:=ps) (i:=i+1) (j:=j) h,show i+1+j=i+(j+1) by omega]
theorem Dq{K:Za}{D:Nat}{b2:Sp}(d5:D<=4)(hR:∀m,D=m+1->b2=gC K m){s:List V}{H:Hp}{Q:VK}{E:XK}(h:gC K D s H Q E):yY K (je K) (kF K) b2 (bq Q) (start Au s) H:=by
 obtain⟨v,gr,hr,T,g,f,J0,n,rfl,hg,hv,wf,z4,b4,b5,zh,k⟩:=h;refine⟨_,rfl,v,T,n,rfl,hv,wf.ok,z4,fun il us H1 an hU S1=>⟨il,rfl,⟨_,ay.of an⟩,fun L as=>?_⟩⟩;have zu:us.length=(j8 T).length:=by rw[Paired.length hU,Tr.dts_map,ak]
 have c5:il≠L:=af an as;have kw:∀p∈j8 T,p.wf J0 n/\p.hgt+1<=T.hgt:=fun p hp=>by
  cases T with
  |bl=>cases hp
  |en=>cases hp
  |nd a ps=>exact⟨Tr.wfs_mem.1 wf.2.2 p hp,ve (n5 hp)⟩
 have zk:(j8 T).length<=5:=by
  cases T with
  |bl=>exact b_ _
  |en=>exact b_ _
  |nd a ps=>have:ps.length=n.length+1:=wf.1;show ps.length<=5;omega
 let cq:Nat->List V->Hp->Prop:=fun i s Y=>ab H1 Y/\Y L=some (.lst s)/\fX K Y s (Tr.dts n ((onlyTs g f 0 (j8 T)).take i))
 refine Al (xs:=us) cq ⟨ab.new as,aa,.nil⟩ (fun i s Y _ zq=>by obtain⟨S,h',_⟩:=zq;exact⟨h',ay.of (S _ _ an)⟩) ?_ ?_;rotate_left
 ·rintro i s J x t hx hi ⟨S2,h2,hP⟩ ht;obtain⟨pt,aC⟩:∃p,(j8 T)[i]?=some p:=⟨_,bY (by omega)⟩;have cs:cX K H1 (pt.dt n) x:=by
   obtain⟨d,e,h⟩:=Paired.getL hU hx;rw[Tr.dts_map,eZ,aC]at e;injection e with e;rw[e];exact h
  obtain⟨pw,ph⟩:=kw pt (cw aC);obtain⟨w,rfl⟩:∃w,D=w+1:=⟨D-1,by omega⟩;cases hR w rfl;have S3:ab J (upd J t (.tup [.int i,x])):=ab.new ht;have t3:upd J t (.tup [.int i,x]) t=some (.tup [.int i,x]):=aa;generalize upd J t (.tup [.int i,x])=u at S3 t3 ⊢;refine⟨t,_,rfl,bt.of t3,rfl,_,_,rfl,_,_,rfl,rfl,mq ?_⟩;refine⟨_,rfl,_,rfl,_,rfl,_,rfl,(by show 1<=ah;decide),fun t1 M=>?_⟩;have G:ab u (upd u t1 (.tup [.int (i:Nat)])):=ab.new M;have b6:upd u t1 (.tup [.int (i:Nat)]) t1=some (.tup [.int (i:Nat)]):=aa;show rV K (.ref hr) (.ref t1) (upd u t1 (.tup [.int (i:Nat)])) _;generalize upd u t1 (.tup [.int (i:Nat)])=N at G b6 ⊢;have a0:=S3.trans G;have y:=(S1.trans S2).trans a0;refine wj (y _ _ b5) b6 (by omega) fun wt H5 ct S5=>?_;have c0:=y.trans S5;refine⟨x,gr,wt,pt,g,f++[i],J0,n,rfl,by omega,cX.kt (ab.kt ((S2.trans a0).trans S5)) _ _ cs,pw,z4,c0 _ _ b4,ct,by rw[aF];show f.length+1+_<=100;omega,fun r H6 c1 S6=>?_⟩;have a4:=(a0.trans S5).trans S6;have h6:=a4 _ _ h2;have kt:fO H6 (upd H6 L (.lst (s++[r]))):=cO h6;have zv:=Paired.length hP;rw[Tr.dts_map,ak,aQ]at zv;refine⟨h6,aq (by omega),m8 hi ⟨fun b o e=>?_,aa,?_⟩⟩
  ·rw[aj (af e as)];exact a4 _ _ (S2 _ _ e)
  ·have eg:=sh g f (i:=0) aC;rw[Nat.zero_add]at eg;rw[take_snoc eg,Tr.dts_map,au,<-Tr.dts_map];exact cc (fX.kt (fun b xs e=>kt _ _ (ab.kt a4 _ _ e)) hP) (cX.kt kt _ _ c1)
 rintro s J ⟨S2,h2,hP⟩;rw[zu,oG (by rw[jL];exact aB _)]at hP;have c2:=S1.trans S2;refine⟨_,rfl,(by show 0<=ah;decide),fun e he=>?_⟩;have S3:ab J (upd J e (.lst [])):=ab.new he;have e3:upd J e (.lst []) e=some (.lst []):=aa;show xG K (.ref L) (.ref e) (upd J e (.lst [])) _;generalize upd J e (.lst [])=u at S3 e3 ⊢;have O:=c2.trans S3;have b7:=fX.kt (ab.kt S3) hP;have dc:=(onlyTs_hgt g (j8 T) f 0).1;have dd:=xX (T:=T) (h:=4) (by omega);refine Bm (S3 _ _ h2) b7 e3 (by omega) ⟨_,rfl,?_⟩;have al:j8 T=[]->ic g f T=(if f=g then .bl else .en)->(aY (ax (cg K) (cf (aW (bb (aw (tC (.str "end")))) (bb (aw (tC (.str "blame")))))) (dJ Gj (aw (ax (xG K) V2 V1))))) (bq Q) [some v,some (.ref gr),some (.ref hr),some (.ref L)] u:=fun _ eo=>by
  refine⟨(by show 1<=ah;decide),fun A c3=>⟨(by show 1<=ah;decide),fun B b8=>⟨(by show 2<=ah;decide),fun l hl=>?_⟩⟩⟩;have G:ab u (upd (upd (upd u A (.tup [.str "end"])) B (.tup [.str "blame"])) l (.lst [.ref A,.ref B])):=((ab.new c3).trans (ab.new b8)).trans (ab.new hl);have b9:upd (upd (upd u A (.tup [.str "end"])) B (.tup [.str "blame"])) l (.lst [.ref A,.ref B]) A=some (.tup (iN.map V.str)):=kp (kp aa b8) hl;have cb:upd (upd (upd u A (.tup [.str "end"])) B (.tup [.str "blame"])) l (.lst [.ref A,.ref B]) B=some (.tup (gB.map V.str)):=kp aa hl;have l4:upd (upd (upd u A (.tup [.str "end"])) B (.tup [.str "blame"])) l (.lst [.ref A,.ref B]) l=some (.lst [.ref A,.ref B]):=aa;generalize upd (upd (upd u A (.tup [.str "end"])) B (.tup [.str "blame"])) l (.lst [.ref A,.ref B])=N at G b9 cb l4 ⊢;have y:=O.trans G;refine⟨_,rfl,_,rfl,.t (f.map C7),.t (g.map C7),?_,?_,?_,?_,.inr ⟨_,rfl,?_⟩⟩
  ·unfold jr;exact⟨hr,_,rfl,bt.of (y _ _ b5),rA f⟩
  ·unfold jr;exact⟨gr,_,rfl,bt.of (y _ _ b4),rA g⟩
  ·show DT.depths _+1<=40;rw[oR];decide
  ·show DT.depths _+1<=14;rw[oR];decide
  by_cases c:f=g
  ·rw[zzr1 (by rw[c])];refine⟨l,_,1,.ref B,rfl,rfl,ay.of l4,rfl,k _ N ?_ y⟩;rw[eo,if_pos c];exact vm (.inl cb)
  ·rw[zzr0 (fun z=>c (EU z))];refine⟨l,_,0,.ref A,rfl,rfl,ay.of l4,rfl,k _ N ?_ y⟩;rw[eo,if_neg c];exact vm (.inl b9)
 cases T with
 |bl=>exact bx (al rfl rfl)
 |en=>exact bx (al rfl rfl)
 |nd a ps =>
 have w1:ps.length=n.length+1:=wf.1;have zo:(onlyTs g f 0 ps).length=n.length+1:=by rw[jL,w1]
 have ne:decide (onlyTs g f 0 (j8 (.nd a ps))=[])=false:=zzr0 fun z=>by
  have z:onlyTs g f 0 ps=[]:=z;rw[z]at zo;cases zo
 rw[ne];refine aU ?_;have zd:(Tr.dts n ps).length=n.length+1:=by rw[Tr.dts_map,ak,w1]
 have C:fX K u s (Tr.dts n (onlyTs g f 0 ps)):=b7;have k2:∀(r:V) (Y:Hp),cX K Y (eA n a (Tr.dts n (onlyTs g f 0 ps))) r->ab H Y->Q r Y:=k;have zp:(Tr.dts n (onlyTs g f 0 ps)).length=n.length+1:=by rw[Tr.dts_map,ak,zo]
 generalize Tr.dts n (onlyTs g f 0 ps)=dp at C k2 zp;have zv:s.length=n.length+1:=by rw[Paired.length C,zp]
 have cd:cX K u (eA n a (Tr.dts n ps)) v:=cX.kt (ab.kt O) _ _ hv;have U:=S3 _ _ h2;cases a with
 |some a =>
  obtain⟨b,x2,b3,dk,d0,rfl,ht,ce,_,h3,_⟩:=nu zd cd;refine⟨_,rfl,b,_,0,_,rfl,rfl,az.sq ht,aG (j:=0) rfl,rfl,_,rfl,?_⟩;rw[zzr1 rfl];refine bx ?_;obtain⟨v0,I⟩:∃v,s[0]?=some v:=⟨_,bY (by omega)⟩;obtain⟨d1,a5,a6⟩:=Paired.getL C I;refine⟨_,rfl,b,_,1,.str a,rfl,rfl,az.sq ht,aG (j:=1) rfl,_,rfl,L,_,0,v0,rfl,rfl,ay.of U,aG (j:=0) I,_,rfl,b,_,3,.ref b3,rfl,rfl,az.sq ht,aG (j:=3) rfl,b3,rfl,⟨_,az.sq ce⟩,fun wl a7=>?_⟩;refine yk (ws:=n) (ps:=(Tr.dts n ps).drop 1) ce h3 (by rw[cB];omega) (by omega) a7 fun N a8 G=>?_;refine⟨_,rfl,_,rfl,L,_,rfl,ay.of (G _ _ U),fun dl c4=>?_⟩;rw[show fw s (some 1) none=s.drop 1 from sC _ 1];have S5:ab N (upd N dl (.lst (s.drop 1))):=ab.new c4;have ch:upd N dl (.lst (s.drop 1)) dl=some (.lst (s.drop 1)):=aa;generalize upd N dl (.lst (s.drop 1))=H5 at S5 ch ⊢;have cm:=G.trans S5;refine⟨wl,dl,n,s.drop 1,dp.drop 1,rfl,S5 _ _ a8,ch,Paired.dropP 1 (fX.kt (ab.kt cm) C),by rw[cB];omega,z4,fun q xs H6 hq a9 S6=>⟨(by show 4<=ah;decide),fun r bi=>?_⟩⟩;have S7:ab H6 (upd H6 r (.tup [.str "tell",.str a,v0,.ref q])):=ab.new bi;have co:=cm.trans (S6.trans S7);exact k2 _ _ (Ba aa (S7 _ _ hq) a5 (cX.kt (ab.kt co) _ _ a6) (fX.kt (ab.kt S7) a9) zp) (O.trans co)
 |none =>
  obtain⟨b,b1,dm,x2,d0,rfl,ht,M,_,h3,_⟩:=np zd cd;refine⟨_,rfl,b,_,0,_,rfl,rfl,az.sq ht,aG (j:=0) rfl,rfl,_,rfl,?_⟩;rw[zzr0 (by intro z;injection z with z;exact absurd z (by decide))];refine aU ?_;obtain⟨v0,I⟩:∃v,s[n.length]?=some v:=⟨_,bY (by omega)⟩;obtain⟨d1,a5,a6⟩:=Paired.getL C I;refine⟨_,rfl,b,_,1,.ref b1,rfl,rfl,az.sq ht,aG (j:=1) rfl,b1,rfl,⟨_,az.sq M⟩,fun wl a7=>?_⟩;refine yk (ws:=n) (ps:=(Tr.dts n ps).take n.length) M h3 (by rw[aQ];omega) (by omega) a7 fun N a8 G=>?_;refine⟨_,rfl,wl,L,n,s,dp,rfl,a8,G _ _ U,fX.kt (ab.kt G) C,by omega,z4,fun q xs H6 hq a9 S6=>?_⟩;have bn:=G.trans S6;refine⟨_,rfl,_,rfl,L,_,-1,v0,rfl,rfl,ay.of (bn _ _ U),Bu zv.symm I,(by show 3<=ah;decide),fun r bi=>?_⟩;have S7:ab H6 (upd H6 r (.tup [.str "wait",.ref q,v0])):=ab.new bi;exact k2 _ _ (A_ aa (S7 _ _ hq) a5 (cX.kt (ab.kt (bn.trans S7)) _ _ a6) (fX.kt (ab.kt S7) a9)) (O.trans (bn.trans S7))
def yI(p f:Addr)(H H':Hp):Prop:=∀b o,H b=some o->b≠p->b≠f->H' b=some o
theorem yI.trs{p f:Addr}{H h g:Hp}(a:yI p f H h)(b:yI p f h g):yI p f H g:=fun x o e i j=>b x o (a x o e i j) i j
theorem yI.ofS{p f:Addr}{H g:Hp}(a:ab H g):yI p f H g:=fun x o e _ _=>a x o e
theorem yI.ofB{p f:Addr}{H g:Hp}(a:cH p H g):yI p f H g:=fun x o e n _=>a x o e n
theorem yI.hid{p f:Addr}{H g:Hp}(a:yI p f H g):cH p (gS H f) (gS g f):=fun b o e n=>by
 by_cases c:b=f
 ·rw[c,gm]at e;cases e
 ·rw[fI c]at e ⊢;exact a b o e n c
theorem yI.kt{p f:Addr}{H g:Hp}{h i:List V}(a:yI p f H g)(j:H p=some (.lst h))(k:H f=some (.lst i)):fO H g:=fun b l e=>a b _ e (fun z=>by rw[z,j]at e;cases e) (fun z=>by rw[z,k]at e;cases e)
inductive fc(K:Za)(D:Nat)(vs:List V)(H:Hp)(Q:VK)(E:XK):Prop
 |mk (p c t l1 l2 l3 l4 lf:Addr) (ts:Ze) (d:Nat) (n:Int) (J0 J2 rooms:Zb) (ds:List ai):(vs=[.ref p,.ref t,.int (d:Nat),.ref lf])->(d<=D)->(eK H p c)->(lf≠p)->(lf≠c)->(eJ (gS H lf) t l1 l2 l3 l4 ts J0 J2 rooms ds)->(aJ J0 J2 rooms ds)->(H lf=some (.lst [.int n])) ->
  (∀(v:V) (T:Tr) (n':Int) (H':Hp),cX K H' (T.dt J2) v->T.wf J0 J2->T.hgt<=d->eK H' p c->H' lf=some (.lst [.int n'])->yI p lf H H'->Q v H')->fc K D vs H Q E
theorem BQ{K:Za}{D:Nat}{b6:Sp}(d5:D<=4)(hR:∀m,D=m+1->b6=fc K m){vs:List V}{H:Hp}{Q:VK}{E:XK}(h:fc K D vs H Q E):xc K (je K) dg b6 (bq Q) (start yD vs) H:=by
 obtain⟨p,c,t,l1,M,l3,l4,f,ts,d,n,J0,s,rooms,ds,rfl,hd,hp,n1,n2,Tt,m,b7,k⟩:=h;have z1:=m.asks4;have z2:=m.says4;have za:0<J0.length:=List.length_pos_iff.2 m.asks0;refine⟨_,rfl,f,_,0,.int n,rfl,rfl,ay.of b7,rfl,_,_,rfl,rfl,_,rfl,f,[.int n],0,0,rfl,rfl,b7,rfl,?_⟩;have b8:eK (upd H f (.lst [.int (n-1)])) p c:=hp.upd n1.symm n2.symm;have b9:upd H f (.lst [.int (n-1)]) f=some (.lst [.int (n-1)]):=aa;have cd:yI p f H (upd H f (.lst [.int (n-1)])):=fun b o e _ nf=>by rw[aj nf];exact e
 show(ar _ _) _ _ (upd H f (.lst [.int (n-1)]));generalize upd H f (.lst [.int (n-1)])=H1 at b8 b9 cd ⊢;refine⟨_,rfl,p,c,6,rfl,b8,by decide,by decide,fun w N w0 w6 G a7=>?_⟩;have a8:=cd.trs (.ofB a7);have as:=a7 _ _ b9 n1;have T2:eJ (gS N f) t l1 M l3 l4 ts J0 s rooms ds:=Tt.ex (hp.hid2 n1.symm n2.symm) a8.hid;have g:(aY (ax (cg K) (cf (aW (bb (aw (tC (.str "end")))) (bb (aw (tC (.str "blame")))))) (aH dg (aW V0 (tC (.int 2)))))) (bq Q) [some (.ref p),some (.ref t),some (.int (d:Nat)),some (.ref f),some (.int w),none,none] N:=by
  refine⟨(by show 1<=ah;decide),fun y ce=>⟨(by show 1<=ah;decide),fun A a9=>⟨(by show 2<=ah;decide),fun l hl=>?_⟩⟩⟩;have S4:ab N (upd (upd (upd N y (.tup [.str "end"])) A (.tup [.str "blame"])) l (.lst [.ref y,.ref A])):=((ab.new ce).trans (ab.new a9)).trans (ab.new hl);have ch:upd (upd (upd N y (.tup [.str "end"])) A (.tup [.str "blame"])) l (.lst [.ref y,.ref A]) y=some (.tup (iN.map V.str)):=kp (kp aa a9) hl;have cm:upd (upd (upd N y (.tup [.str "end"])) A (.tup [.str "blame"])) l (.lst [.ref y,.ref A]) A=some (.tup (gB.map V.str)):=kp aa hl;have bi:upd (upd (upd N y (.tup [.str "end"])) A (.tup [.str "blame"])) l (.lst [.ref y,.ref A]) l=some (.lst [.ref y,.ref A]):=aa;have co:l≠p:=((G.ex ((ab.new ce).trans (ab.new a9))).nep hl).symm;show(aH dg (aW V0 (tC (.int 2)))) _ (upd (upd (upd N y (.tup [.str "end"])) A (.tup [.str "blame"])) l (.lst [.ref y,.ref A])) _;generalize upd (upd (upd N y (.tup [.str "end"])) A (.tup [.str "blame"])) l (.lst [.ref y,.ref A])=L at S4 ch cm bi ⊢;have I:=G.ex S4;refine⟨_,rfl,p,c,2,rfl,I,by decide,by decide,fun r H5 r0 r2 cq O=>?_⟩;have cs:fO L H5:=by obtain⟨xs,hx⟩:=I.lst;exact O.kt hx
  have ct:yI p f H H5:=(a8.trs (.ofS S4)).trs (.ofB O);have c0:=O _ _ (S4 _ _ as) n1;have:r=0∨r=1:=by omega
  rcases this with rfl|rfl
  ·exact⟨l,_,0,.ref y,rfl,rfl,ay.of (O _ _ bi co),rfl,k _ .en _ H5 (vm (.inl (cs _ _ ch))) trivial (b_ _) cq c0 ct⟩
  ·exact⟨l,_,1,.ref A,rfl,rfl,ay.of (O _ _ bi co),rfl,k _ .bl _ H5 (vm (.inl (cs _ _ cm))) trivial (b_ _) cq c0 ct⟩
 refine⟨_,rfl,rfl,_,rfl,?_⟩
 match d,hd,k,g with
 |0,_,_,g=>exact bx (bx g)
 |d+1,hd,k,g =>
 rw[zzr0 (by intro z;injection z with z;omega)];refine aU ?_;refine⟨_,rfl,f,_,0,.int (n-1),rfl,rfl,ay.of as,rfl,_,_,rfl,rfl,_,rfl,?_⟩;by_cases c1:n-1<0
 ·rw[zzr1 c1];exact bx (bx g)
 rw[zzr0 c1];refine aU ?_;refine⟨_,rfl,rfl,_,rfl,?_⟩;by_cases c2:w=0
 ·rw[zzr1 (by rw[c2])];exact bx g
 rw[zzr0 (fun z=>c2 (by injection z))];refine aU ?_;clear g;obtain⟨w',rfl⟩:∃w',D=w'+1:=⟨D-1,by omega⟩;cases hR w' rfl;have c3:=T2.same fj;refine⟨_,rfl,t,_,1,.ref M,rfl,rfl,bt.of c3.t,rfl,.inl ⟨M,_,rfl,.inl (ay.of c3.a2),_,_,rfl,rfl,(s.length:Int)+1,by rw[ak],by omega,by omega,fun cl aC=>?_⟩⟩;have a0:cl≠p:=(G.nep aC).symm;have c5:cl≠c:=(G.nec aC).symm;have bn:cl≠f:=(af as aC).symm;have dc:∀{b:Addr}{o:HO},N b=some o->b≠cl:=fun e=>af e aC
 let dr:Nat->List V->Hp->Prop:=fun i x B=>HI fun(Ts:List Tr) (n':Int) (_:Unit)=>HV (B cl=some (.lst x)) (fX K B x (Tr.dts s Ts)) (Ts.length=i/\∀T∈Ts,T.wf J0 s/\T.hgt<=d) (eK B p c) (B f=some (.lst [.int n'])) (∀b o,N b=some o->b≠p->b≠f->B b=some o)
 refine sE (lo:=0) (n:=s.length+1) dr ⟨[],_,(),aa,.nil,⟨rfl,fun _ h=>(by cases h)⟩,G.upd a0.symm c5.symm,by rw[aj bn.symm];exact as,fun b o e _ _=>by rw[aj (dc e)];exact e⟩ (fun i x B _ zq=>by obtain⟨_,_,_,h',_,_,_,_,_⟩:=zq;exact h') ?_ ?_;rotate_left
 ·rintro i x H3 hi ⟨Ts,n',_,h3,hP,⟨zt,hT⟩,J,U,a4⟩;have T3:eJ (gS H3 f) t l1 M l3 l4 ts J0 s rooms ds:=by
   refine T2.ex (G.hid2 n1.symm n2.symm) fun b o e nb=>?_;by_cases cb:b=f
   ·rw[cb,gm]at e;cases e
   ·rw[fI cb]at e ⊢;exact a4 b o e nb cb
  refine gN (mq ?_);refine⟨_,rfl,_,rfl,_,rfl,_,_,rfl,rfl,_,rfl,p,c,t,l1,M,l3,l4,f,ts,d,n',J0,s,rooms,ds,?_,by omega,J,n1,n2,T3,m,U,fun v T n4 L hv wT dx I dy u=>?_⟩
  ·show[V.ref p,V.ref t,V.int (((d+1:Nat):Int)-1),V.ref f]=_;rw[show(((d+1:Nat):Int)-1)=(d:Nat) by omega]
  have h4:=u _ _ h3 a0 bn;have Y:fO H3 L:=by obtain⟨xs,hx⟩:=J.lst;exact u.kt hx U
  have kt:fO L (upd L cl (.lst (x++[v]))):=cO h4;have zu:x.length=i:=by rw[Paired.length hP,Tr.dts_map,ak,zt]
  refine⟨h4,aq (by omega),m8 hi ⟨Ts++[T],n4,(),aa,?_,⟨by rw[aF,zt];rfl,fun X hX=>?_⟩,I.upd a0.symm c5.symm,by rw[aj bn.symm];exact dy,fun b o e nb nf=>by rw[aj (dc e)];exact u _ _ (a4 _ _ e nb nf) nb nf⟩⟩
  ·rw[Tr.dts_map,au,<-Tr.dts_map];exact cc (fX.kt (fun b xs e=>kt _ _ (Y _ _ e)) hP) (cX.kt kt _ _ hv)
  ·rcases be.1 hX with hX|hX
   ·exact hT X hX
   ·rw[bX.1 hX];exact⟨wT,dx⟩
 rintro x H3 ⟨Ts,n',_,h3,hP,⟨zt,hT⟩,J,U,a4⟩;have C:yI p f H H3:=a8.trs a4;have T3:eJ (gS H3 f) t l1 M l3 l4 ts J0 s rooms ds:=Tt.ex (hp.hid2 n1.symm n2.symm) C.hid;have al:=T3.same fj;have zp:(Tr.dts s Ts).length=s.length+1:=by rw[Tr.dts_map,ak,zt]
 have zv:x.length=s.length+1:=by rw[Paired.length hP,zp]
 have dd:∀a:Option Str,(∀w,a=some w->w∈J0)->(Tr.nd a Ts).wf J0 s:=fun a ha=>⟨zt,ha,Tr.wfs_mem.2 fun T h=>(hT T h).1⟩;have dk:∀a:Option Str,(Tr.nd a Ts).hgt<=d+1:=fun a=>ve (Bj fun T h=>(hT T h).2);have k2:∀(a:Option Str) (v:V) (n':Int) (B:Hp),(∀w,a=some w->w∈J0)->cX K B (eA s a (Tr.dts s Ts)) v->eK B p c->B f=some (.lst [.int n'])->yI p f H B->Q v B:=fun a v n' B ha hv q1 q2 q3=>k v (.nd a Ts) n' B hv (dd a ha) (dk a) q1 q2 q3;clear k hT dd dk;generalize Tr.dts s Ts=dp at hP zp k2;refine⟨_,rfl,_,_,rfl,rfl,_,rfl,?_⟩;by_cases c4:w<4
 ·rw[zzr1 c4];refine bx ?_;refine⟨_,rfl,t,_,0,.ref l1,rfl,rfl,bt.of al.t,rfl,_,rfl,_,rfl,t,_,0,.ref l1,rfl,rfl,bt.of al.t,rfl,.inl ⟨l1,_,rfl,.inl (ay.of al.a1),p,c,J0.length,(by rw[ak];rfl),J,by omega,by omega,fun r L r0 r1 I u=>?_⟩⟩;have T4:eJ (gS L f) t l1 M l3 l4 ts J0 s rooms ds:=Tt.ex (hp.hid2 n1.symm n2.symm) (C.trs (.ofB u)).hid;have b1:=T4.same fj;obtain⟨j,rfl⟩:∃j:Nat,r=j:=⟨r.toNat,by omega⟩;obtain⟨a,ha⟩:∃w,J0[j]?=some w:=⟨_,bY (by omega)⟩;refine⟨l1,_,j,.str a,rfl,rfl,ay.of b1.a1,aG (by rw[eZ,ha];rfl),?_⟩;have h4:=u _ _ h3 a0;have Y:fO H3 L:=by obtain⟨xs,hx⟩:=J.lst;exact u.kt hx
  have dm:=fX.kt Y hP;obtain⟨v0,an⟩:∃v,x[0]?=some v:=⟨_,bY (by omega)⟩;obtain⟨d1,b2,b3⟩:=Paired.getL dm an;refine⟨_,rfl,_,rfl,cl,_,0,v0,rfl,rfl,ay.of h4,aG (j:=0) an,_,rfl,t,_,1,.ref M,rfl,rfl,bt.of b1.t,rfl,_,rfl,_,rfl,cl,_,rfl,ay.of h4,fun dl dK=>?_⟩;rw[show fw x (some 1) none=x.drop 1 from sC _ 1];have S5:ab L (upd L dl (.lst (x.drop 1))):=ab.new dK;have dn:upd L dl (.lst (x.drop 1)) dl=some (.lst (x.drop 1)):=aa;generalize upd L dl (.lst (x.drop 1))=H5 at S5 dn ⊢;refine⟨M,dl,s,x.drop 1,dp.drop 1,rfl,S5 _ _ b1.a2,dn,Paired.dropP 1 (fX.kt (ab.kt S5) dm),by rw[cB];omega,z2,fun q xs H6 hq b4 S6=>⟨(by show 4<=ah;decide),fun r b5=>?_⟩⟩;have S7:ab H6 (upd H6 r (.tup [.str "tell",.str a,v0,.ref q])):=ab.new b5;have a5:=S5.trans (S6.trans S7);exact k2 (some a) _ _ _ (fun w e=>by injection e with e;rw[<-e];exact cw ha) (Ba aa (S7 _ _ hq) b2 (cX.kt (ab.kt a5) _ _ b3) (fX.kt (ab.kt S7) b4) zp) (I.ex a5) (a5 _ _ (u _ _ U n1)) ((C.trs (.ofB u)).trs (.ofS a5))
 ·rw[zzr0 c4];refine aU ?_;obtain⟨v0,an⟩:∃v,x[s.length]?=some v:=⟨_,bY (by omega)⟩;obtain⟨d1,b2,b3⟩:=Paired.getL hP an;refine⟨_,rfl,t,_,1,.ref M,rfl,rfl,bt.of al.t,rfl,_,rfl,M,cl,s,x,dp,rfl,al.a2,h3,hP,by omega,z2,fun q xs H6 hq b4 S6=>?_⟩;refine⟨_,rfl,_,rfl,cl,_,-1,v0,rfl,rfl,ay.of (S6 _ _ h3),Bu zv.symm an,(by show 3<=ah;decide),fun r b5=>?_⟩;have S7:ab H6 (upd H6 r (.tup [.str "wait",.ref q,v0])):=ab.new b5;have a6:=S6.trans S7;exact k2 none _ _ _ (fun w e=>(by cases e)) (A_ aa (S7 _ _ hq) b2 (cX.kt (ab.kt a6) _ _ b3) (fX.kt (ab.kt S7) b4)) (J.ex a6) (a6 _ _ U) (C.trs (.ofS a6))
theorem Cz{w:List ai}{i:Nat}{d:ai}(h:w[i]?=some d):bZ (w.take (i+1))=bZ (w.take i)++(if(!decide (d.sg=am))=true then[d.sg]else[]):=by
 unfold bZ;rw[take_snoc h,kh,au];by_cases c:(!decide (d.sg=am))=true
 ·rw[if_pos c];simp only[List.filter,c];rfl
 ·rw[if_neg c];simp only[List.filter,Bool.not_eq_true _▸c];rfl
theorem yO.dIn{K:Za}{H:Hp}{t:Addr}{d:ai}(h:yO K H t d):jr K H (qo d) (.ref t):=by
 obtain⟨s,a,e⟩:=h;unfold qo;unfold jr;refine⟨t,_,rfl,bt.of a,?_⟩;unfold DIns;refine⟨_,_,rfl,j_ _,?_⟩;unfold DIns;refine⟨_,_,rfl,aS (az.sq e),?_⟩;unfold DIns;refine⟨_,_,rfl,j_ _,?_⟩;unfold DIns
 rfl
theorem lU.dIns{K:Za}{H:Hp}:∀{a:Ze}{s:List Sg},lU K H a s->DIns K H (s.map fu) (a.map V.ref)
 |_,_,.nil=>by show DIns K H [] [];unfold DIns;rfl
 |_,_,.cons r t=>by
  rw[bu,bu];unfold DIns;exact⟨_,_,rfl,aS (az.sq r),lU.dIns t⟩
theorem xv{K:Za}{H:Hp}{l:Addr}{a:Ze}{s:List Sg}(h:H l=some (.lst (a.map V.ref)))(r:lU K H a s):jr K H (.s (s.map fu)) (.ref l):=by
 unfold jr;exact⟨l,_,rfl,ay.of h,lU.dIns r⟩
theorem Ad(w:List ai):(bZ w).length<=w.length:=by unfold bZ;rw[ak];exact fA _ _
inductive ll(K:Za)(vs:List V)(H:Hp)(Q:VK)(E:XK):Prop
 |mk (t st l1 l2 l3 l4:Addr) (ts us:Ze) (story:List Sg) (J0 J2 rooms:Zb) (ds:List ai):(vs=[.ref t,.ref st])->(eJ H t l1 l2 l3 l4 ts J0 J2 rooms ds)->(aJ J0 J2 rooms ds)->(H st=some (.lst (us.map V.ref)))->(lU K H us story)->(∀(t':Addr) (H':Hp),H' t'=some (.tup ((faceOf rooms ds story).map V.str))->ab H H'->Q (.ref t') H')->ll K vs H Q E
theorem BY{K:Za}{x:List V}{H:Hp}{Q:VK}{E:XK}(h:ll K x H Q E):y2 K (vM K) xy (bq Q) (start Aw x) H:=by
 obtain⟨t,st,z,A,l,B,C,O,a,D,G,rooms,ds,rfl,T,m,e,I,k⟩:=h;have z3:=m.rooms26;have U:fw (rooms.map V.str) none (some 1)=(rooms.take 1).map V.str:=qJ rooms 1;refine⟨_,rfl,_,rfl,.inr (.inl ⟨t,_,2,_,rfl,rfl,bt.of T.t,rfl,_,rfl,.inl ⟨l,_,rfl,ay.of T.a3,fun J n=>?_⟩⟩)⟩;rw[U];have L:ab H (upd H J (.lst ((rooms.take 1).map V.str))):=ab.new n;refine⟨t,J,z,A,l,B,C,D,G,rooms,rooms.take 1,ds,rfl,T.same L,m,aa,by rw[aQ];omega,fun Y H1 o p=>?_⟩;have M:=L.trans p;refine⟨_,rfl,st,rfl,⟨_,ay.of (M _ _ e)⟩,?_⟩;refine bP (xs:=O.map V.ref) (fun i σ q=>G7 fun(f:Addr) (r:Option V)=>HW (σ=[some (.ref t),some (.ref st),some (.ref f),r]) (q f=some (.tup ((faceOf rooms ds (a.take i)).map V.str))) (ab H q))
  ⟨Y,_,rfl,o,M⟩ (fun i σ q _ zq=>by obtain⟨_,_,_,_,S⟩:=zq;exact ay.of (S _ _ e)) ?_ ?_
 ·rintro i y σ N hi ⟨f,r,rfl,j,g⟩;obtain⟨u,hu,rfl⟩:=bF hi;obtain⟨sg,s,v⟩:=Paired.getL I hu;obtain⟨o1,o2⟩:=pj (ds:=ds) (show rooms.length<=1000 by omega) (a.take i);refine⟨_,rfl,_,rfl,_,rfl,t,f,u,z,A,l,B,C,D,G,rooms,_,sg,ds,rfl,T.same g,m,j,az.sq (az.kt (ab.kt g) v),o2,fun f' H3 w S3=>⟨f',_,rfl,?_,g.trans S3⟩⟩;rw[take_snoc s,pV];exact w
 ·rintro σ N ⟨f,r,rfl,j,g⟩;rw[ak,Paired.length I,a_]at j;exact⟨_,rfl,k f N j g⟩
inductive lm(K:Za)(vs:List V)(H:Hp)(Q:VK)(E:XK):Prop
 |mk (t wl l1 l2 l3 l4:Addr) (ts us:Ze) (w:List ai) (J0 J2 rooms:Zb) (ds:List ai):(vs=[.ref t,.ref wl])->(eJ H t l1 l2 l3 l4 ts J0 J2 rooms ds)->(aJ J0 J2 rooms ds)->(H wl=some (.lst (us.map V.ref)))->(Paired (yO K H) us w)->(C0 ds (cv rooms) w=true)->(∀H',ab H H'->Q (.bl true) H')->lm K vs H Q E
theorem AQ(a b:Str):decide (V.str a=V.str b)=decide (a=b):=decide_eq_decide.2 ⟨fun z=>by injection z,fun z=>by rw[z]⟩
theorem BZ{K:Za}{vs:List V}{H:Hp}{Q:VK}{E:XK}(h:lm K vs H Q E):tE K jf (bq Q) (start ua vs) H:=by
 obtain⟨t,J,l1,l2,N,O,ts,us,w,J0,J2,rooms,l,rfl,T,m,B,U,gw,k⟩:=h;obtain⟨f1,f2⟩:=m.first;refine⟨_,rfl,t,_,2,.ref N,rfl,rfl,bt.of T.t,rfl,N,_,0,_,rfl,rfl,ay.of T.a3,aG (j:=0) (by rw[eZ,f1];rfl),?_⟩;refine⟨_,rfl,J,rfl,⟨_,ay.of B⟩,?_⟩
 let f:Nat->L2.St->Hp->Prop:=fun i σ q=>G7 fun(r:Str) (Y:Option V)=>HW (σ=[some (.ref t),some (.ref J),some (.str r),Y]) (C0 l r (w.drop i)=true) (ab H q)
 refine bP (xs:=us.map V.ref) f ⟨_,_,rfl,gw,ab.refl _⟩ (fun i σ q _ zq=>by obtain⟨_,_,_,_,S⟩:=zq;exact ay.of (S _ _ B)) ?_ ?_
 ·rintro i y σ v hi ⟨r,Y,rfl,hg,x⟩;obtain⟨u,hu,rfl⟩:=bF hi;obtain⟨d,hd,C⟩:=Paired.getL U hu;have al:=C.kt (ab.kt x);obtain⟨s,e,hs⟩:=C.kt (ab.kt x);have ed:w.drop i=d::w.drop (i+1):=by
   obtain⟨h1,h2⟩:=ca.1 hd;rw[mi h1,h2]
  rw[ed]at hg;have D:(decide (d.a=r) && ((if d.sg=bz then decide (d.b=r) && decide (r∉eD l)else decide (d∈l)) && C0 l d.b (w.drop (i+1))))=true:=hg
  rw[mj,mj]at D;obtain⟨g1,L,g3⟩:=D;refine⟨_,rfl,.ref u,"tuple",_,true,rfl,.inl (mN.tup e),rfl,_,rfl,aU ?_⟩;refine⟨_,rfl,.inl ⟨u,_,rfl,.inr (bt.of e),rfl,_,rfl,?_⟩⟩;refine ifQ (P:=False) (by simp) (fun z=>z.elim) fun _=>?_;refine⟨_,rfl,u,_,0,_,rfl,rfl,bt.of e,rfl,_,rfl,rfl,_,rfl,?_⟩;rw[AQ,g1];refine aU ?_;refine⟨_,rfl,u,_,1,_,rfl,rfl,bt.of e,rfl,(by show 1<=ah;decide),fun p G=>⟨fu d.sg,fu bz,aS (az.sq (az.kt (ab.kt (ab.new G)) hs)),aS (bt.of aa),EN _,EN _,_,rfl,?_⟩⟩;rw[d6];have I:ab v (upd v p (.tup [.str "hush"])):=ab.new G;generalize upd v p (.tup [.str "hush"])=H3 at I ⊢;have g:∀o,ab v o->(d.sg≠bz->d∈l)->(ar (bU (kB (aL (ax (qk K) (ax (bA K) V3 (tC (.int 1))) (bb (aw (tC (.str "hush")))))) (aL (ax (mF K true) V3 (ax (bA K) V0 (tC (.int 3)))))) (aY (tC (.bl false))) (br))
    (aM (ax (bA K) V3 (tC (.int 2))) U2)) { nx:=f (i+1),ct:=f (i+1),bk:=fun σ q=>Q (.bl true) q,rt:=Q } [some (.ref t),some (.ref J),some (.str r),some (.ref u)] o:=by
   intro o A an;have e4:=A _ _ e;have as:=x.trans A;refine⟨_,rfl,u,_,1,_,rfl,rfl,bt.of e4,rfl,(by show 1<=ah;decide),fun p G=>⟨fu d.sg,fu bz,aS (az.sq (az.kt (ab.kt (A.trans (ab.new G))) hs)),aS (bt.of aa),EN _,EN _,_,rfl,?_⟩⟩;rw[d6];have M:ab o (upd o p (.tup [.str "hush"])):=ab.new G;generalize upd o p (.tup [.str "hush"])=H5 at M ⊢;have aC:=A.trans M;have n:=as.trans M;have nx:(aM (ax (bA K) V3 (tC (.int 2))) U2) { nx:=f (i+1),ct:=f (i+1),bk:=fun σ q=>Q (.bl true) q,rt:=Q } [some (.ref t),some (.ref J),some (.str r),some (.ref u)] H5:=⟨_,rfl,u,_,2,_,rfl,rfl,bt.of (M _ _ e4),rfl,_,_,rfl,g3,n⟩;by_cases c:d.sg=bz
   ·rw[zzr1 c];exact aU (aU nx)
   ·rw[zzr0 c];refine bx ?_;refine⟨_,rfl,_,rfl,t,_,3,.ref O,rfl,rfl,bt.of (n _ _ T.t),rfl,qo d,l.map qo,O,_,(al.kt (ab.kt aC)).dIn,rfl,.inl (ay.of (n _ _ T.a4)),cz.dIns (T.same n).ds,by rw[qG];decide,uK _,_,rfl,?_⟩;rw[if_pos rfl,show decide (qo d∈l.map qo)=decide (d∈l)from by rw[qN,decide_eq_true_iff,decide_eq_true_iff];exact v3,zzr1 (an c)];exact aU nx
  by_cases c:d.sg=bz
  ·rw[zzr1 c];rw[if_pos c,mj]at L;obtain⟨b1,b2⟩:=L;refine bx ⟨_,rfl,u,_,2,_,rfl,rfl,bt.of (I _ _ e),rfl,_,rfl,rfl,_,rfl,?_⟩;rw[AQ,b1];refine aU ⟨_,rfl,_,rfl,t,l1,l2,N,O,ts,J0,J2,rooms,l,r,rfl,T.same (x.trans I),m,fun o A=>⟨_,rfl,?_⟩⟩;rw[b2];exact aU (g o (I.trans A) fun z=>absurd c z)
  ·rw[zzr0 c];rw[if_neg c]at L;exact aU (aU (g H3 I fun _=>of_decide_eq_true L))
 ·rintro σ v ⟨r,Y,rfl,hg,x⟩;exact k v x
inductive jz(K:Za)(C:Addr)(vs:List V)(H:Hp)(Q:VK)(E:XK):Prop
 |mk (M I t n1 n2 n3 n4:Addr) (ts:Ze) (v:V) (T:Tr) (J0 J2 rooms r1:Zb) (ds d1:List ai):(vs=[.ref M,.ref I,.ref t,v])->(bD C H M J0 J2 rooms ds)->(bD C H I J0 J2 r1 d1)->(∀r∈r1,∀a∈J0,gG d1 r a)->(eJ H t n1 n2 n3 n4 ts J0 J2 r1 d1)->(aJ J0 J2 r1 d1)->(cX K H (T.dt J2) v)->(T.wf J0 J2)->(T.hgt<=4)->(T.sz<=1000)->(∀H',ab H H'->Q (.bl true) H')->jz K C vs H Q E
theorem zG{K:Za}{C:Addr}{vs:List V}{H:Hp}{Q:VK}{E:XK}(h:jz K C vs H Q E):tw K (hZ K C) (gC K 4) (eR K 4) (ll K) (lm K) (bq Q) (start t8 vs) H:=by
 obtain⟨M,I,t,n1,n2,n3,n4,ts,v,T,J0,J2,rooms,D,ds,G,rfl,MA,IA,tk,Tt,m,hv,wf,hg,zT,k⟩:=h;have z2:=m.says4;refine⟨_,rfl,(by show 0<=ah;decide),fun e1 ce=>⟨(by show 0<=ah;decide),fun e2 b1=>?_⟩⟩;have S1:ab H (upd (upd H e1 (.tup [])) e2 (.lst [])):=(ab.new ce).trans (ab.new b1);have b2:upd (upd H e1 (.tup [])) e2 (.lst []) e1=some (.tup (jd [])):=kp aa b1;have b3:upd (upd H e1 (.tup [])) e2 (.lst []) e2=some (.lst (([]:Ze).map V.ref)):=aa;generalize upd (upd H e1 (.tup [])) e2 (.lst [])=H1 at S1 b2 b3 ⊢;refine⟨v,e1,e2,T,[],[],J0,J2,rfl,hg,cX.kt (ab.kt S1) _ _ hv,wf,z2,zT,b2,⟨[],b3,.nil⟩,by show 0+_<=100;omega,by show 0+_<=100;omega,fun l qs H2 hl hP S2=>⟨l,rfl,⟨_,ay.of hl⟩,?_⟩⟩;have b4:=S1.trans S2;have only:∀(a:List Nat) {n:Hp}{Q0:VK}{E1:XK}(Y:Addr),ab H n->n Y=some (.tup (jd a))->∀(o:Addr),n o=some (.tup (jd [])) ->
   (∀(r:V) (H4:Hp),(∀(R:VK) (E2:XK),(firstB D G (lR J2 [] [] (ic a [] T))=none->∀g,ab n g->R .non g) ->
    (∀e,firstB D G (lR J2 [] [] (ic a [] T))=some e->∀(l:Addr) (ts:Ze) (w:List ai) (g:Hp),g l=some (.lst (ts.map V.ref))->Paired (yO K g) ts w->C0 G (cv D) w=true->bZ w=e.story->w.length<=200000->ab n g->R (.ref l) g)->hZ K C [.ref M,r,.ref I] H4 R E2)->Q0 r H4)->gC K 4 [v,.ref Y,.ref o] n Q0 E1:=by
  intro a n Q0 E1 Y S3 a6 o ho k0;refine⟨v,Y,o,T,a,[],J0,J2,rfl,hg,cX.kt (ab.kt S3) _ _ hv,wf,z2,a6,ho,by show 0+_<=100;omega,fun r H4 hr J=>k0 r H4 fun R E2 k1 k2=>?_⟩;obtain⟨og,oz⟩:=uw a T [];exact⟨M,I,r,ic a [] T,J0,J2,rooms,D,ds,G,rfl,(MA.same S3).same J,(IA.same S3).same J,tk,hr,xQ a T [] wf,by omega,by omega,fun f0 g S'=>k1 f0 g (J.trans S'),fun e he l ts w g a1 a2 a3 a4 a5 S'=>k2 e he l ts w g a1 a2 a3 a4 a5 (J.trans S')⟩
 let ch:Nat->L2.St->Hp->Prop:=fun i σ g=>Hb fun(x4 x5 x6 x7:Option V)=>σ=[some (.ref M),some (.ref I),some (.ref t),some v,x4,x5,x6,x7]/\ab H2 g
 refine bP (xs:=qs.map V.ref) ch ⟨_,_,_,_,rfl,ab.refl _⟩ (fun i σ g _ zq=>by obtain⟨_,_,_,_,_,S⟩:=zq;exact ay.of (S _ _ hl)) ?_ ?_
 ·rintro i x σ n hx ⟨x4,x5,x6,x7,rfl,S3⟩;obtain⟨q,hq,rfl⟩:=bF hx;obtain⟨e,he,cm⟩:=Paired.getL hP hq;obtain⟨wr,sx,g1,g2,gs,g3,g4⟩:=lY.same S3 cm;obtain⟨o1,o2⟩:=zW (rooms:=D) (ds:=G) (cw he);refine⟨q,_,rfl,bt.of g1,rfl,_,_,rfl,_,_,rfl,_,_,rfl,rfl,?_⟩;refine⟨_,rfl,_,rfl,_,rfl,(by show 0<=ah;decide),fun o ho=>?_⟩;have J:ab n (upd n o (.tup [])):=ab.new ho;have o4:upd n o (.tup []) o=some (.tup (jd [])):=aa;generalize upd n o (.tup [])=H4 at J o4 ⊢;have L:=(b4.trans S3).trans J;refine only e.way wr L (J _ _ g2) o o4 fun r _ bl=>⟨_,rfl,bl _ _ (fun f0 H5 S5=>?_) (fun e' N wl an w H5 a7 b5 gw hw zw S5=>?_)⟩
  ·-- nothing cd
   have fe:faceOf D G e.story=[]:=by
    by_cases c:faceOf D G e.story=[]
    ·exact c
    ·obtain⟨f,h1,_⟩:=o2 c;rw[f0]at h1;cases h1
   have A:=J.trans S5;have as:=L.trans S5;refine⟨_,rfl,_,rfl,t,sx,n1,n2,n3,n4,ts,gs,e.story,J0,J2,D,G,rfl,Tt.same as,m,A _ _ g3,Paired.mapP g4 fun _ _ r=>az.kt (ab.kt A) r,fun t' H6 a8 S6=>⟨(by show 0<=ah;decide),fun e0 al=>?_⟩⟩;refine⟨fu (faceOf D G e.story),fu [],aS (bt.of (kp a8 al)),aS (bt.of aa),EN _,EN _,_,rfl,?_⟩;rw[d6,zzr1 fe];refine bx ⟨_,rfl,_,rfl,?_⟩;exact aU ⟨_,_,_,_,rfl,S3.trans ((A.trans S6).trans (ab.new al))⟩
  ·have fe:faceOf D G e.story≠[]:=fun z=>by rw[o1 z]at N;cases N
   obtain⟨f,h1,h2⟩:=o2 fe;rw[h1]at N;injection N with N;rw[<-N,h2]at hw;have A:=J.trans S5;have as:=L.trans S5;refine⟨_,rfl,_,rfl,t,sx,n1,n2,n3,n4,ts,gs,e.story,J0,J2,D,G,rfl,Tt.same as,m,A _ _ g3,Paired.mapP g4 fun _ _ r=>az.kt (ab.kt A) r,fun t' H6 a8 S6=>⟨(by show 0<=ah;decide),fun e0 al=>?_⟩⟩;refine⟨fu (faceOf D G e.story),fu [],aS (bt.of (kp a8 al)),aS (bt.of aa),EN _,EN _,_,rfl,?_⟩;rw[d6,zzr0 fe];refine aU ?_;have S7:ab H6 (upd H6 e0 (.tup [])):=ab.new al;generalize upd H6 e0 (.tup [])=H7 at S7 ⊢;have O:=S6.trans S7;have co:=as.trans O;have cq:=A.trans O;have aC:Paired (yO K H7) an w:=Paired.mapP b5 fun _ _ r=>yO.kt (ab.kt O) r;refine⟨_,rfl,.ref wl,"list",_,true,rfl,.inl (mN.lst (O _ _ a7)),rfl,_,rfl,aU ?_⟩;refine⟨_,rfl,_,rfl,t,wl,n1,n2,n3,n4,ts,an,w,J0,J2,D,G,rfl,Tt.same co,m,O _ _ a7,aC,gw,fun H8 S8=>⟨_,rfl,aU ?_⟩⟩;have b6:=S8 _ _ (O _ _ a7);have b7:Paired (yO K H8) an w:=Paired.mapP aC fun _ _ r=>yO.kt (ab.kt S8) r;refine⟨_,rfl,wl,rfl,⟨_,ay.of b6⟩,fun cl b8=>?_⟩
   let cs:Nat->List V->Hp->Prop:=fun j us g=>∃U:List Addr,us=U.map V.ref/\ab H8 g/\g cl=some (.lst us)/\lU K g U (bZ (w.take j))
   have b9:∀(j:Nat) (U:Ze) (g:Hp),lU K g U (bZ (w.take j))->(U.map V.ref).length<ah:=fun j U g h=>by
    have z1:=Paired.length h;have z3:=Ad (w.take j);rw[aQ]at z3;rw[ak,ke];omega
   refine cG (xs:=an.map V.ref) cs ⟨[],rfl,ab.new b8,aa,.nil⟩ (fun j vs g _ zq=>by obtain⟨_,_,S,h',_⟩:=zq;exact⟨h',ay.of (S _ _ b6)⟩) ?_ ?_;rotate_left
   ·rintro j us H9 y hy hj ⟨U,rfl,S9,h9,hR⟩;obtain⟨u,hu,rfl⟩:=bF hy;obtain⟨d,hd,cb⟩:=Paired.getL b7 hu;obtain⟨s,es,hs⟩:=cb.kt (ab.kt S9);have hn:=Cz hd;refine gN ?_;refine⟨_,rfl,u,_,1,_,rfl,rfl,bt.of es,rfl,(by show 1<=ah;decide),fun p hp=>⟨fu d.sg,fu am,aS (az.sq (az.kt (ab.kt (ab.new hp)) hs)),aS (bt.of aa),EN _,EN _,_,rfl,?_⟩⟩;rw[d6];have B:ab H9 (upd H9 p (.tup [.str "still"])):=ab.new hp;generalize upd H9 p (.tup [.str "still"])=a9 at B ⊢;have bi:=B _ _ h9;have a0:=lU.same B hR;by_cases c:d.sg=am
    ·rw[zzr1 c]at hn ⊢;refine aU (m8 hj ⟨U,rfl,S9.trans B,bi,?_⟩);rw[hn];show lU K a9 U (_++[]);rw[f6];exact a0
    ·rw[zzr0 c]at hn ⊢;refine bx ⟨_,rfl,u,_,1,_,rfl,rfl,bt.of (B _ _ es),rfl,bi,b9 j U H9 hR,m8 hj ⟨U++[s],by rw[au];rfl,fun b o q=>?_,aa,?_⟩⟩
     ·rw[aj (af q b8)];exact B _ _ (S9 _ _ q)
     ·have kt:fO a9 (upd a9 cl (.lst (U.map V.ref++[.ref s]))):=cO bi;rw[hn];exact cc (Paired.mapP a0 fun _ _ r=>az.kt kt r) (az.kt kt (az.kt (ab.kt B) hs))
   rintro us H9 ⟨U,rfl,S9,h9,hR⟩;rw[ak,Paired.length b5,a_,hw]at hR;have bn:=cq.trans (S8.trans S9);refine⟨_,rfl,.s (e.story.map fu),.s (e.story.map fu),xv h9 hR,xv (bn _ _ g3) (Paired.mapP g4 fun _ _ r=>az.kt (ab.kt bn) r),HF _,HF _,_,rfl,?_⟩;rw[zzr1 rfl];exact aU ⟨_,_,_,_,rfl,S3.trans bn⟩
 ·rintro σ n ⟨x4,x5,x6,x7,rfl,S3⟩;refine⟨_,rfl,_,rfl,(by show 1<=ah;decide),fun Y a6=>⟨(by show 0<=ah;decide),fun o ho=>?_⟩⟩;have J:ab n (upd (upd n Y (.tup [.int 9])) o (.tup [])):=(ab.new a6).trans (ab.new ho);have g4:upd (upd n Y (.tup [.int 9])) o (.tup []) Y=some (.tup (jd [9])):=kp aa ho;have o4:upd (upd n Y (.tup [.int 9])) o (.tup []) o=some (.tup (jd [])):=aa;generalize upd (upd n Y (.tup [.int 9])) o (.tup [])=H4 at J g4 o4 ⊢;have L:=(b4.trans S3).trans J;refine only ([9]) Y L g4 o o4 fun r _ bl=>⟨_,rfl,bl _ _ (fun _ H5 S5=>(by show Q (.bl (decide (V.non=V.non))) H5;rw[zzr1 rfl];exact k H5 (L.trans S5))) (fun e he=>?_)⟩;rw[Ck wf z2]at he;cases he
inductive sp_law33(K:Za)(vs:List V)(H:Hp)(Q:VK)(E:XK):Prop
 |mk (a:Addr) (ns:List Int):(vs=[.ref a])->(ay K H a (ns.map V.int))->(ns.length<=63)->(∀H',Q (.bl true) H')->sp_law33 K vs H Q E
theorem Dt{K:Za}{C:Addr}{vs:List V}{H:Hp}{Q:VK}{E:XK}(h:sp_law33 K vs H Q E):E_ K (jz K C) (jB C) (fc K 4) qx nJ (qw K) (bq Q) (start Bz vs) H:=by
 obtain⟨a,ns,rfl,hs,hn,k⟩:=h;refine⟨_,rfl,a,ns,rfl,hs,hn,fun p c H1 _ al S1=>?_⟩;refine⟨2,rfl,by decide,by decide,?_⟩
 let an:Nat->L2.St->Hp->Prop:=fun i σ H'=>Hb fun(x2 x3 x4 x5:Option V)=>σ=[some (.ref a),some (.ref p),x2,x3,x4,x5]/\eK H' p c
 refine jo (lo:=0) (n:=Int.toNat 2) an ⟨_,_,_,_,rfl,al⟩ ?_ ?_;rotate_left
 ·rintro σ G ⟨x2,x3,x4,x5,rfl,_⟩;exact k G
 rintro i σ H2 hi ⟨x2,x3,x4,x5,rfl,as⟩;refine⟨_,rfl,p,c,6,1,rfl,as,by decide,by decide,by decide,by decide,fun t f g l3 A B j l rooms y H3 T3 m aC a6 D a7=>?_⟩;have zr:rooms.length<=6:=aC;refine⟨_,rfl,_,rfl,p,c,t,f,g,l3,A,B,j,l,rooms,y,3,rfl,D,T3,m,by omega,by omega,by omega,fun N O U o Y d1 z O4 m1 a0 _ _ w a4=>?_⟩;have T4:=T3.ex D a4;refine⟨_,rfl,_,rfl,(by show 1<=ah;decide),fun e q=>?_⟩;have r:e≠p:=(w.nep q).symm;have s:e≠c:=(w.nec q).symm;have T5:eJ (gS (upd z e (.lst [.int 8])) e) t f g l3 A B j l rooms y:=by rw[x_ q];exact T4
 have O5:eJ (gS (upd z e (.lst [.int 8])) e) N f g O U o j l Y d1:=by rw[x_ q];exact O4
 have u:eK (upd z e (.lst [.int 8])) p c:=w.upd r.symm s.symm;have J:upd z e (.lst [.int 8]) e=some (.lst [.int 8]):=aa;show fc K 4 [.ref p,.ref t,.int 3,.ref e] (upd z e (.lst [.int 8])) _ _;generalize upd z e (.lst [.int 8])=H5 at T5 O5 u J ⊢;refine⟨p,c,t,f,g,l3,A,e,B,3,8,j,l,rooms,y,rfl,by decide,u,r,s,T5,m,J,fun v T n' H6 hv wf hg a5 a8 L=>?_⟩;have T6:eJ H6 t f g l3 A B j l rooms y:=(T5.ex (u.hid2 r.symm s.symm) L.hid).same fj;have O6:eJ H6 N f g O U o j l Y d1:=(O5.ex (u.hid2 r.symm s.symm) L.hid).same fj;have sz:=xJ m.says4 3 T ([]:List Nat) ([]:List Sg) wf hg;rw[vU]at sz;have s3:Gb 3=156:=rfl;refine⟨_,rfl,t,f,g,l3,A,B,j,l,rooms,y,rfl,T6,m,fun M H7 M7 S7=>?_⟩;refine⟨_,rfl,N,f,g,O,U,o,j,l,Y,d1,rfl,O6.same S7,m1,fun I H8 I8 S8=>?_⟩;have x:=S7.trans S8;refine⟨_,rfl,_,rfl,M,I,N,f,g,O,U,o,v,T,j,l,rooms,Y,y,d1,rfl,M7.same S8,I8,a0,O6.same x,m1,cX.kt (ab.kt x) _ _ hv,wf,by omega,by omega,fun H9 S9=>⟨_,rfl,?_⟩⟩;exact aU ⟨_,_,_,_,rfl,a5.ex (x.trans S9)⟩
theorem BR{K:Za}{C:Addr}{f:List V}{H:Hp}{Q:VK}{E:XK}(h:sp_takes C f H Q E):EZ K C (iF C) (hV K C) (bq Q) (start FX f) H:=by
 obtain⟨x,r,a,J0,J2,rooms,p,rfl,M,hr,k⟩:=h;refine⟨_,rfl,(by show 1<=ah;decide),fun l t=>?_⟩;have u:ab H (upd H l (.lst [.str r])):=ab.new t;have e1:upd H l (.lst [.str r]) l=some (.lst [.str r]):=aa;generalize upd H l (.lst [.str r])=H1 at u e1 ⊢;have M1:=M.same u;obtain⟨v,fs,o1,o2,o3,o4,lv,qu,z,sl,ts,A,B,D,G,a1,a2,a3,a4,_⟩:=id M1.at_;refine⟨_,rfl,x,v,fs,rfl,G,a3,_,rfl,x,r,J0,J2,rooms,p,rfl,M1,hr,fun l2 L I e2 nd hL _ S2=>?_⟩;have J:∀w∈L,w∈rooms:=fun w N=>((hL w).mp N).in_ fun d hd=>(M.ok.good d hd).b;have zL:=jk nd J;have z3:=M.ok.rooms26;refine⟨l,l2,_,_,rfl,rfl,S2 _ _ e1,e2,by rw[ak];show 1+L.length<=ah;exact cN (aq (by omega)),fun m O=>?_⟩;have eq:([.str r]++L.map V.str:List V)=(r::L).map V.str:=rfl;rw[eq];have T:ab H (upd I m (.lst ((r::L).map V.str))):=(u.trans S2).trans (ab.new O);have U:upd I m (.lst ((r::L).map V.str)) m=some (.lst ((r::L).map V.str)):=aa;generalize upd I m (.lst ((r::L).map V.str))=H3 at T U ⊢;refine⟨m,rfl,⟨_,ay.of U⟩,fun q hq=>?_⟩
 let Y:Nat->List V->Hp->Prop:=fun i f j=>f=(((r::L).take i).map fun h=>decide ((0:Int)<(aP p (h,db a)).length)).map V.bl/\ab H3 j/\j q=some (.lst f)
 refine cG (xs:=(r::L).map V.str) Y ⟨rfl,ab.new hq,aa⟩ (fun i f j _ zq=>by obtain⟨_,S,h⟩:=zq;exact⟨h,ay.of (S _ _ U)⟩) ?_ ?_
 ·rintro f j ⟨rfl,S,h⟩;rw[ak,a_]at h;refine⟨q,_,rfl,ay.of h,?_⟩;rw[BE hL];exact k j (T.trans S)
 ·rintro i f j y hy hi ⟨rfl,S,h⟩;obtain⟨w,N,rfl⟩:=bE hy;refine gN (mq ?_);have M':=M.same (T.trans S);obtain⟨v,fs,o1,o2,o3,o4,lv,qu,z,sl,ts,A,B,D,G,a1,a2,a3,a4,_⟩:=id M'.at_;refine⟨_,rfl,x,v,fs,rfl,G,a2,_,rfl,_,rfl,(by show 2<=ah;decide),fun s hs=>?_⟩;have S4:ab j (upd j s (.tup ((db a).map V.str))):=ab.new hs;refine⟨x,s,w,db a,J0,J2,rooms,p,rfl,M'.same S4,bt.of aa,fun g H5 hg _ S5=>?_⟩;have n:=S4.trans S5;refine .inl ⟨g,_,rfl,.inl (ay.of hg),_,_,rfl,rfl,n _ _ h,?_,?_⟩
  ·rw[ak,ak,aQ];exact aq (by rw[e_];omega)
  refine m8 hi ⟨?_,fun b o e=>?_,aa⟩
  ·rw[take_snoc N,au,au];show _++[V.bl (decide ((0:Int)<(((aP p (w,db a)).map V.str).length:Nat)))]=_;rw[ak];rfl
  ·rw[aj (af e hq)];exact n _ _ (S _ _ e)
def eB(i:Nat):Stmt:=PySem.Challenge.pw_mumtrial_k33_whole_leaf_by_leaf.main.body.getD i (.Pass ⟨0,0,0,0⟩)
local macro_rules | `(tactic| walk_at "s")=>`(tactic| exact⟨rfl,rfl,rfl,by decide +kernel,rfl,by decide +kernel,by decide +kernel⟩)
local macro_rules | `(tactic| walk_at "l")=>`(tactic| (intro _ _ _ _ h;first|exact len_h h|exact len_g h|(cases h;subst_vars;rfl)|(obtain⟨_,_,h,_⟩:=h;subst h;rfl)|((repeat obtain⟨_,h⟩:=h);subst_vars;rfl)))
theorem zzlS{e:List Value}{n:Nat}(h:e.length=n+1):∃ a t,e=a::t∧t.length=n:=by
  cases e with
  |nil=>cases h
  |cons a t=>exact⟨a,t,rfl,Nat.succ.inj h⟩
local macro_rules | `(tactic| walk_at "b")=>`(tactic| (intro _ _ _ _ _ _ us hl;(repeat (have h:=zzlS hl;clear hl;obtain⟨_,_,e,hl⟩:=h;subst e));cases List.eq_nil_of_length_eq_zero hl;rfl))
def HK(K:Za)(x qual:Str)(st:Stmt)(f:Addr):Prop:=∃(oc:Value) (od an:Option Addr) (sl:Array (Option Value)) (kV dc pm cd ct:Value),
 K.lookup f=some ⟨oc,od,.func (hC x qual (gT st) (fK st) (bT st) .none kV dc pm an cd ct),sl⟩/\mo K cd qual=true/\i_ K (.ref f)=true
theorem Eh{K:Za}{x a:Str}{st:Stmt}{f:Addr}{g:Value}{h i:Option Addr}{j:Array (Option Value)}{kV m n e o:Value}(l:K.lookup f=some ⟨g,h,.func (hC x a (gT st) (fK st) (bT st) .none kV m n i e o),j⟩)
  (c:mo K e a=true) (k:i_ K (.ref f)=true):HK K x a st f:=⟨g,h,i,j,kV,m,n,e,o,l,c,k⟩
def fx(K:Za)(x:Str)(st:Stmt):Prop:=∃f,bW K bO x=some (some (.ref f))/\HK K x x st f
theorem fnG_mk{K:Za}{x:Str}{st:Stmt}{f:Addr}{g:Value}{h i:Option Addr}{j:Array (Option Value)}{kV m n e o:Value}(a:bW K bO x=some (some (.ref f)))(l:K.lookup f=some ⟨g,h,.func (hC x x (gT st) (fK st) (bT st) .none kV m n i e o),j⟩)
  (c:mo K e x=true) (k:i_ K (.ref f)=true):fx K x st:=⟨f,a,Eh l c k⟩
def EQ(K:Za)(C:Addr)(m qual:Str)(st:Stmt):Prop:=∃f,eG K (.ref C) m=some (some (.ref f))/\wP K (.ref f)=true/\HK K m qual st f
theorem fnM_mk{K:Za}{C:Addr}{m e:Str}{st:Stmt}{f:Addr}{h:Value}{j n:Option Addr}{o:Array (Option Value)}{kV p q g r:Value}(a:eG K (.ref C) m=some (some (.ref f)))(i:wP K (.ref f)=true)
  (l:K.lookup f=some ⟨h,j,.func (hC m e (gT st) (fK st) (bT st) .none kV p q n g r),o⟩) (c:mo K g e=true) (k:i_ K (.ref f)=true):EQ K C m e st:=⟨f,a,i,Eh l c k⟩
theorem HK.fun_{K:Za}{x a:Str}{st:Stmt}{f:Addr}(T:HK K x a st f):∃e,Hh K x a st f e:=by
 obtain⟨g,h,i,j,kV,m,n,o,p,l,c,k⟩:=T;exact⟨_,Ee (st:=st) l c k⟩
def Fd:Sp:=fun _ _ _ _=>False
theorem DK{P:bR}{w:World}{K:Za}{a:Str->Option Value}{base:Heap}{k:Nat}{f:Addr}{e:j5}{g:Zb}:kY P w K a base CX0 k f e g Fd:=⟨fun _ _ _ _ h=>h.elim,fun _ _ _ _ _ _ _ _ _ _ _ _ _ h=>h.elim⟩
def Ez(K:Za)(a:Addr)(ws:Zb):Prop:=∀H,bt K H a (ws.map V.str)
theorem qv{K:Za}{a:Addr}{f:Zb}{o:Obj}{e:Array Value}{n:Nat}(l:K.lookup a=some o)(c:o.cls=.type "tuple")(d:o.data=.seq e n)(z:e.size<=ah)(v:aZ (f.map V.str) e.toList):Ez K a f :=
 fun _=>.inr ⟨o,e,n,l,c,d,z,v⟩
section
variable{P:bR}{w:World}{K:Za}{mg:Str->Option Value}{base h:Heap}{C:Addr}{x qual:Str}{st:Stmt}{N ps:Zb}{k:Nat}{sp:Sp}
abbrev EG(ps:Zb)(sp:Sp):Prop:=∀vs H Q E,sp vs H Q E->vs.length=ps.length
abbrev BodyOk(CX:C4)(P:bR)(w:World)(K:Za)(mg:Str->Option Value)(base:Heap)(qual:Str)(st:Stmt)(N:Zb)(k:Nat)(sp:Sp)(nox:Cx->Cx):Prop:=N.Nodup->∀(f:Addr) (cdv:Value) (A:Around) (outer:List Env) (s:Shared) (H:Hp) (vs:List V) (Q:VK) (E:XK),d9 k (A.deeper (envOfC qual (bT st) s.heap.objs.size f cdv))->(A.deeper (envOfC qual (bT st) s.heap.objs.size f cdv)).units+16<cLine->sp vs H Q E ->
 ∃t,yN (nox (Ak CX P w K mg base N qual (bT st) f cdv A outer s H E)) (fK st) t/\t (bq Q) (start N vs) H
abbrev Az(x qual:Str)(st:Stmt)(ps:Zb):Prop:=∀(kV doc pm:Value) (an:Option Addr) (cdv ct:Value) (us:Zf),us.length=ps.length->bindArgs (hC x qual (gT st) (fK st) (bT st) .none kV doc pm an cdv ct) ⟨us,[]⟩=pure (ps.zip us)
theorem dG(X:K.In h)(G:h.Ns bO mg)(T:fx K x st)(b:BodyOk CX0 P w K mg base x st N k sp Cx.nox)(i:Az x x st ps)(S:jU N ps (bT st):=by walk_at "s")(l:EG ps sp:=by walk_at "l"):d_ P w K mg base x ps (k+1) sp:=by
 obtain⟨f,a,t⟩:=T;obtain⟨j,F⟩:=t.fun_;exact⟨f,j,F.ok S l fun e A outer s H m Q E g h=>b S.nd f e A outer s H m Q E g (Bh g) h,dP X G a,F.kp,F.binds i⟩
theorem dM(j:CW K C)(T:EQ K C x qual st)(b:BodyOk CX0 P w K mg base qual st N k sp Cx.nox)(m:Az x qual st ps)(S:jU N ps (bT st):=by walk_at "s")(l:EG ps sp:=by walk_at "l"):EE P w K mg base C x ps (k+1) sp:=by
 obtain⟨f,a,i,t⟩:=T;obtain⟨n,F⟩:=t.fun_;exact⟨f,n,F.ok S l fun e A outer s H o Q E g h=>b S.nd f e A outer s H o Q E g (Bh g) h,j,⟨a,i,F.kp⟩,F.binds m⟩
theorem dN{y:Str}(j:mg y=some (.ref C))(m:wO K C=true)(n:i_ K (.ref C)=true)(T:EQ K C "__init__" qual st)(b:BodyOk CX0 P w K mg base qual st N k sp Cx.nox)(o:Az "__init__" qual st ps)(S:jU N ps (bT st):=by walk_at "s")(l:EG ps sp:=by walk_at "l"):New P w K mg base y C ps (k+1) sp:=by
 obtain⟨f,a,i,t⟩:=T;obtain⟨p,F⟩:=t.fun_;exact⟨f,p,F.ok S l fun e A outer s H q Q E g h=>b S.nd f e A outer s H q Q E g (Bh g) h,j,⟨m,a,i,n⟩,F.binds o⟩
end
structure Zs(mg:Str->Option Value):Prop where
 all:mg "all"=none
 any:mg "any"=none
 dict:mg "dict"=none
 enumerate:mg "enumerate"=none
 int:mg "int"=none
 isinstance:mg "isinstance"=none
 len:mg "len"=none
 list:mg "list"=none
 max:mg "max"=none
 range:mg "range"=none
 reversed:mg "reversed"=none
 tuple:mg "tuple"=none
 zip:mg "zip"=none
structure Cs(K:Za)(mg:Str->Option Value)(C a_STILL a_HUSH a_BLAME a_END:Addr):Prop where
 LETTERS:Gc mg "LETTERS" (.str "abcdefghijklmnopqrstuvwxyz")
 LONGEST_NAME:Gc mg "LONGEST_NAME" (.int 8)
 MOST_WORDS:Gc mg "MOST_WORDS" (.int 4)
 MOST_ROOMS:Gc mg "MOST_ROOMS" (.int 150)
 MOST_DOORS:Gc mg "MOST_DOORS" (.int 2000)
 MOST_WITHIN:Gc mg "MOST_WITHIN" (.int 8)
 MOST_TRIALS:Gc mg "MOST_TRIALS" (.int 1000)
 STILL:Gc mg "STILL" (.ref a_STILL)
 HUSH:Gc mg "HUSH" (.ref a_HUSH)
 BLAME:Gc mg "BLAME" (.ref a_BLAME)
 END:Gc mg "END" (.ref a_END)
 still:Ez K a_STILL am
 hush:Ez K a_HUSH bz
 blm:Ez K a_BLAME gB
 enD:Ez K a_END iN
 mc:MC K C
 cm:mg "Machine"=some (.ref C)
 makes:wO K C=true
 kc:i_ K (.ref C)=true
structure Ts(K:Za)(C:Addr):Prop where
 f_law_spread:fx K "_law_spread" (eB 55)
 f_law_open:fx K "_law_open" (eB 56)
 f_law_anew:fx K "_law_anew" (eB 57)
 f_law_take:fx K "_law_take" (eB 58)
 f_law_names:fx K "_law_names" (eB 59)
 f_law_put:fx K "_law_put" (eB 61)
 f_law_draw_doors:fx K "_law_draw_doors" (eB 62)
 f_law_model:fx K "_law_model" (eB 63)
 f_is_name:fx K "is_name" (eB 15)
 f_as_keys:fx K "as_keys" (eB 16)
 f_first_wrong_name:fx K "first_wrong_name" (eB 17)
 f_door_signs:fx K "door_signs" (eB 18)
 f_first_wrong_door:fx K "first_wrong_door" (eB 19)
 f_goals_by_start_and_sign:fx K "goals_by_start_and_sign" (eB 20)
 f_led_by_still:fx K "led_by_still" (eB 21)
 f_first_led_round:fx K "first_led_round" (eB 22)
 f_need_none:fx K "need_none" (eB 23)
 f_need_parts:fx K "need_parts" (eB 24)
 f_doors_by_start:fx K "doors_by_start" (eB 25)
 f_has_asks_alone:fx K "has_asks_alone" (eB 26)
 f_Machine___init__:EQ K C "__init__" "Machine.__init__" (jP (eB 27) 0)
 f_law_machine:fx K "_law_machine" (eB 77)
 f_Machine_rooms:EQ K C "rooms" "Machine.rooms" (jP (eB 27) 3)
 f_Machine_led_from:EQ K C "led_from" "Machine.led_from" (jP (eB 27) 8)
 f_Machine_goals:EQ K C "goals" "Machine.goals" (jP (eB 27) 7)
 f_Machine_is_quiet:EQ K C "is_quiet" "Machine.is_quiet" (jP (eB 27) 5)
 f_law_still_on:fx K "_law_still_on" (eB 60)
 f_Machine_asks:EQ K C "asks" "Machine.asks" (jP (eB 27) 1)
 f_Machine_says:EQ K C "says" "Machine.says" (jP (eB 27) 2)
 f_takes:fx K "takes" (eB 30)
 f_need_match:fx K "need_match" (eB 29)
 f_need_all_asks_taken:fx K "need_all_asks_taken" (eB 31)
 f_need_taker:fx K "need_taker" (eB 32)
 f_add_still_steps:fx K "add_still_steps" (eB 34)
 f_steps_by:fx K "steps_by" (eB 35)
 f_steps_along:fx K "steps_along" (eB 36)
 f_walk_of:fx K "walk_of" (eB 37)
 f_is_tell:fx K "is_tell" (eB 43)
 f_is_wait:fx K "is_wait" (eB 44)
 f_says_and_parts:fx K "says_and_parts" (eB 45)
 f_signed_parts:fx K "signed_parts" (eB 46)
 f_parts_behind:fx K "parts_behind" (eB 47)
 f_with_ways:fx K "with_ways" (eB 48)
 f_has_says_in_order:fx K "has_says_in_order" (eB 49)
 f_is_so_by_itself:fx K "is_so_by_itself" (eB 50)
 f_checked_with_ways:fx K "checked_with_ways" (eB 51)
 f_leaves:fx K "leaves" (eB 52)
 f_blames:fx K "blames" (eB 53)
 f_law_willing:fx K "_law_willing" (eB 64)
 f_law_turned:fx K "_law_turned" (eB 65)
 f_law_renamed:fx K "_law_renamed" (eB 66)
 f_law_near:fx K "_law_near" (eB 67)
 f_law_quiet:fx K "_law_quiet" (eB 68)
 f_law_in_order:fx K "_law_in_order" (eB 69)
 f_law_face_on:fx K "_law_face_on" (eB 70)
 f_law_face_at:fx K "_law_face_at" (eB 71)
 f_law_inner:fx K "_law_inner" (eB 72)
 f_law_signs:fx K "_law_signs" (eB 73)
 f_law_leaves:fx K "_law_leaves" (eB 74)
 f_law_pairs:fx K "_law_pairs" (eB 75)
 f_law_trial:fx K "_law_trial" (eB 76)
 f_law_only:fx K "_law_only" (eB 79)
 f_law_is_walk:fx K "_law_is_walk" (eB 78)
 f_law_right:fx K "_law_right" (eB 80)
 f_law33:fx K "law" (eB 81)
section
variable{P:bR}{w:World}{K:Za}{mg:Str->Option Value}{base h:Heap}{C a_STILL a_HUSH a_BLAME a_END:Addr}
section
variable(P:bR)(w:World)(K:Za)(mg:Str->Option Value)(C a_STILL a_HUSH a_BLAME a_END:Addr)
abbrev jZ:Prop:=∀base,d_ P w K mg base "_law_spread" ["cell","at"] 1 lb
abbrev sZ:Prop:=∀base,d_ P w K mg base "_law_open" ["script"] 1 (qw K)
abbrev j3:Prop:=∀base,d_ P w K mg base "_law_anew" ["pen"] 1 qA
abbrev cY:Prop:=∀base,d_ P w K mg base "_law_take" ["pen","many"] 2 dg
abbrev iT:Prop:=∀base,d_ P w K mg base "_law_names" ["pen","many"] 3 kE
abbrev js:Prop:=∀base,d_ P w K mg base "_law_put" ["doors","door"] 1 jA
abbrev gv:Prop:=∀base,d_ P w K mg base "_law_draw_doors" ["pen","asks","says","rooms","full"] 3 gz
abbrev p6:Prop:=∀base,d_ P w K mg base "_law_model" ["pen","most","full"] 4 nJ
abbrev pE:Prop:=∀base,d_ P w K mg base "is_name" ["text"] 1 sp_is_name
abbrev ju:Prop:=∀base,d_ P w K mg base "as_keys" ["things"] 1 (sp_as_keys K)
abbrev eU:Prop:=∀base,d_ P w K mg base "first_wrong_name" ["names","most","taken"] 2 (sp_first_wrong_name K)
abbrev j4:Prop:=∀base,d_ P w K mg base "door_signs" ["asks","says"] 1 (sp_door_signs K)
abbrev eV:Prop:=∀base,d_ P w K mg base "first_wrong_door" ["doors","rooms","signs"] 2 (sp_first_wrong_door K)
abbrev cP:Prop:=∀base,d_ P w K mg base "goals_by_start_and_sign" ["doors"] 1 nK
abbrev io:Prop:=∀base,d_ P w K mg base "led_by_still" ["goals","room"] 1 vK
abbrev fR:Prop:=∀base,d_ P w K mg base "first_led_round" ["rooms","led"] 1 sp_first_led_round
abbrev iQ:Prop:=∀base,d_ P w K mg base "need_none" ["part","number"] 1 sp_need_none
abbrev jW:Prop:=∀base,d_ P w K mg base "need_parts" ["asks","says","rooms","doors"] 3 sp_need_parts
abbrev gy:Prop:=∀base,d_ P w K mg base "doors_by_start" ["rooms","doors"] 1 sp_doors_by_start
abbrev gx:Prop:=∀base,d_ P w K mg base "has_asks_alone" ["doors"] 1 sp_has_asks_alone
abbrev pF:Prop:=∀base,New P w K mg base "Machine" C ["self","asks","says","rooms","doors"] 4 (qz C)
abbrev mf:Prop:=∀base,d_ P w K mg base "_law_machine" ["told"] 6 (jB C)
abbrev eQ:Prop:=∀base,EE P w K mg base C "rooms" ["self"] 1 (kD C)
abbrev eW:Prop:=∀base,EE P w K mg base C "led_from" ["self","room"] 1 (iF C)
abbrev dz:Prop:=∀base,EE P w K mg base C "goals" ["self","room","sign"] 1 (hV K C)
abbrev eX:Prop:=∀base,EE P w K mg base C "is_quiet" ["self","room"] 1 (iG C)
abbrev dW:Prop:=∀base,d_ P w K mg base "_law_still_on" ["doors","rooms"] 1 (dQ K)
abbrev dX:Prop:=∀base,EE P w K mg base C "asks" ["self"] 1 (ln C)
abbrev fT:Prop:=∀base,EE P w K mg base C "says" ["self"] 1 (nI C)
abbrev wK:Prop:=∀base,d_ P w K mg base "takes" ["I","room","ask"] 2 (sp_takes C)
abbrev jX:Prop:=∀base,d_ P w K mg base "need_match" ["M","I"] 2 (fF C)
abbrev dC:Prop:=∀base,d_ P w K mg base "need_all_asks_taken" ["I"] 4 (gP C)
abbrev jV:Prop:=∀base,d_ P w K mg base "need_taker" ["M","I"] 5 (fE C)
abbrev fS:Prop:=∀base,d_ P w K mg base "add_still_steps" ["M","steps"] 2 (lr K C)
abbrev mY:Prop:=∀base,d_ P w K mg base "steps_by" ["M","rooms","sign"] 2 (iD K C)
abbrev i0:Prop:=∀base,d_ P w K mg base "steps_along" ["M","story"] 3 (lp K C)
abbrev pD:Prop:=∀base,d_ P w K mg base "walk_of" ["M","story"] 4 (nH K C)
abbrev lI:Prop:=∀base,d_ P w K mg base "is_tell" ["trial"] 1 (jD K 4 "tell")
abbrev lH:Prop:=∀base,d_ P w K mg base "is_wait" ["trial"] 1 (jD K 3 "wait")
abbrev gu:Prop:=∀base,d_ P w K mg base "says_and_parts" ["pairs"] 1 (gO K)
abbrev ik:Prop:=∀base,d_ P w K mg base "signed_parts" ["trial"] 2 (lg K)
abbrev im:Prop:=∀base,d_ P w K mg base "parts_behind" ["way","story","trial"] 3 (lh K)
abbrev k5:Prop:=∀base,d_ P w K mg base "with_ways" ["trial"] 4 (iC K)
abbrev eE:Prop:=∀base,d_ P w K mg base "has_says_in_order" ["M","pairs"] 2 (jE K C)
abbrev fQ:Prop:=∀base,d_ P w K mg base "is_so_by_itself" ["M","trial"] 3 (qy K C)
abbrev eF:Prop:=∀base,d_ P w K mg base "checked_with_ways" ["M","trial"] 5 (jF K C)
abbrev sY:Prop:=∀base,d_ P w K mg base "leaves" ["M","trial"] 6 (jC K C)
abbrev tf:Prop:=∀base,d_ P w K mg base "blames" ["M","trial","I"] 7 (hZ K C)
abbrev i3:Prop:=∀base,d_ P w K mg base "_law_willing" ["pen","told"] 3 jy
abbrev jY:Prop:=∀base,d_ P w K mg base "_law_turned" ["pen","told"] 3 k_
abbrev i4:Prop:=∀base,d_ P w K mg base "_law_renamed" ["pen","told"] 4 iE
abbrev s_:Prop:=∀base,d_ P w K mg base "_law_near" ["pen","told","most"] 5 qx
abbrev iR:Prop:=∀base,d_ P w K mg base "_law_quiet" ["told","room"] 1 jf
abbrev fP:Prop:=∀base,d_ P w K mg base "_law_in_order" ["told","some"] 2 xy
abbrev i6:Prop:=∀base,d_ P w K mg base "_law_face_on" ["told","face","sign"] 3 (vM K)
abbrev i7:Prop:=∀base,d_ P w K mg base "_law_face_at" ["told","story"] 4 (ll K)
abbrev iU:Prop:=∀base,d_ P w K mg base "_law_inner" ["trial"] 1 (kF K)
abbrev k7:Prop:=∀base,d_ P w K mg base "_law_signs" ["trial"] 1 (lc K)
abbrev j1:Prop:=∀base,d_ P w K mg base "_law_leaves" ["trial","way","story"] 6 (eR K 4)
abbrev iS:Prop:=∀base,d_ P w K mg base "_law_pairs" ["says","some"] 1 (je K)
abbrev pY:Prop:=∀base,d_ P w K mg base "_law_trial" ["pen","told","deep","left"] 7 (fc K 4)
abbrev mZ:Prop:=∀base,d_ P w K mg base "_law_only" ["trial","goal","here"] 6 (gC K 4)
abbrev i5:Prop:=∀base,d_ P w K mg base "_law_is_walk" ["told","walk"] 2 (lm K)
abbrev pZ:Prop:=∀base,d_ P w K mg base "_law_right" ["model","taker","told","trial"] 8 (jz K C)
end
section
variable(X:K.In h)(G:h.Ns bO mg)(z:Zs mg)(c:Cs K mg C a_STILL a_HUSH a_BLAME a_END)(T:Ts K C)
include X G z c T
theorem tL:jZ P w K mg:=fun base=>dG X G T.f_law_spread (fun S _ _ _ _ _ _ _ _ _ a e h=>bK (BS (K:=K) h) (ac (bg (fU Hw (pv 0) (aO DJ ae ae)) (ag (av (pv 0))) aI) (ac (qs 2 S (aO gk (aO cK (aO cK (aO ib (aO gk (pv 0) ae) ae) (aO ib (pv 1) ae)) ae) ae)) (ac (qs 3 S (aO gk (aO cK (aO cK (aO ib (pv 2) (pv 2)) (aO ib (pv 1) ae)) (aO gk (pv 0) ae)) ae)) (ac (qs 4 S (aO gk (aO cK (aO cK (aO ib (pv 3) (pv 3)) (aO ib (pv 2) ae)) ae) ae)) (ag (av (aO cK (aO ib (aO cK (aO ib (pv 2) ae) (pv 3)) ae) (pv 4))))))))) (by walk_at "b")
theorem xn:sZ P w K mg:=fun base=>dG X G T.f_law_open (fun S _ _ _ _ _ _ _ _ _ a e h=>bK (Fh h) (ac (qs 1 S (qL rfl z.list (a1 (cJ eO (pv 0) eP (cM ae))))) (ac (bw bh rfl (iK rfl z.enumerate (a1 (cJ eO (pv 0) (cM ae) (cM ae)))) (cu rfl (ao (gn 2 S) (ao (gn 3 S) bH))) (ag (ia (aO cK (xl (pv 1) (aO gk (pv 2) ae)) (pv 3)) (o9 (pv 1) (aO gk (pv 2) ae) jg)))) (ag (av (aX (a3 (pv 1) ae ae))))))) (by walk_at "b")
theorem xr:j3 P w K mg:=fun base=>dG X G T.f_law_anew (fun S _ _ _ _ _ _ _ _ _ a e h=>bK (Fm (K:=K) h) (ac (ia ae (o9 (pv 0) ae jg)) (ag (av (pv 0))))) (by walk_at "b")
theorem xm(a:jZ P w K mg):cY P w K mg:=fun base=>dG X G T.f_law_take (fun S _ _ _ _ _ _ _ _ _ e f h=>bK (Ff h) (ac (bg (fU uu (xl (pv 0) ae) (pv 1)) (ac (qs 2 S (xl (pv 0) ae)) (ac (qs 3 S ae) (ac (bg (fU uu (pv 2) (ql z.len (a1 (xl (pv 0) ae)))) (ag (qs 3 S (xl (xl (pv 0) ae) (pv 2)))) (ag (bg (fU uv (ql z.len (a1 (xl (pv 0) ae))) ae) (ag (qs 3 S (aO gk (xl (xl (pv 0) ae) (aO gk (aO cK (aO ib (pv 2) ae) ae) (ql z.len (a1 (xl (pv 0) ae))))) (aO cK (aO DJ ae ae) (pv 2))))) aI))) (ac (ia (aO cK (pv 2) ae) (o9 (pv 0) ae jg)) (ag (ia (qf e (a base) (a2 (pv 3) (pv 2))) (o9 (pv 0) ae jg))))))) aI) (ac (qs 4 S (aO gk (xl (pv 0) ae) (pv 1))) (ac (ia (aO A9 (xl (pv 0) ae) (pv 1)) (o9 (pv 0) ae jg)) (ag (av (pv 4))))))) (by walk_at "b")
theorem vF(a:cY P w K mg):iT P w K mg:=fun base=>dG X G T.f_law_names (fun S _ _ _ _ _ _ _ _ _ e f h=>bK (Dr h) (ac (qs 2 S aT) (ac (qs 3 S (gJ PySem.F.plainAttrs_str PySem.F.slot_str_join PySem.F.type_str_join FC aT (a1 (qc (gj rfl z.range (a1 ae)) (aN (by decide)) fun _ _ _ _ _ _=>⟨gc 0,bG,xs' (pv 1) (qf e (a base) (a2 (pv 2) ae))⟩)))) (ac (qs 4 S (qf e (a base) (a2 (pv 0) ae))) (ac (qs 5 S (qf e (a base) (a2 (pv 0) ae))) (ac (qs 6 S (qf e (a base) (a2 (pv 0) ae))) (ac (qs 7 S (aX bQ)) (ac (bw bh rfl (gj rfl z.range (a1 (pv 1))) (gn 8 S) (ac (qs 9 S (xs' (pv 2) (aO gk (aO cK (pv 5) (aO ib ae (pv 8))) ae))) (ac (qs 10 S (cJ vO (pv 3) eP (cM (aO gk (aO cK (pv 6) (aO ib (pv 8) (aO gk (pv 4) ae))) ae)))) (ac (qs 11 S (xl (aX (a3 ae (ql z.len (a1 (pv 10))) (aO A9 (ql z.len (a1 (pv 10))) ae))) (pv 4))) (ag (ba (gJ c7 ga f_ cj (pv 7) (a1 (aO sf (aO sf (cJ vO (pv 10) eP (cM (pv 11))) (pv 9)) (cJ vO (pv 10) (cM (pv 11)) eP)))))))))) (ag (av (pv 7))))))))))) (by walk_at "b")
theorem y8:js P w K mg:=fun base=>dG X G T.f_law_put (fun S _ _ _ _ _ _ _ _ _ e a h=>bK (GG h) (ag (bg (EY (gW a) (pv 1) (pv 0)) (ag (ba (gJ c7 ga f_ cj (pv 0) (a1 (pv 1))))) aI))) (by walk_at "b")
theorem nB(a:cY P w K mg)(e:js P w K mg):gv P w K mg:=fun base=>dG X G T.f_law_draw_doors (fun S _ _ _ _ _ _ _ _ _ f g h=>bK (tR h) (ac (qs 5 S (aX bQ)) (ac (qs 6 S (qf f (a base) (a2 (pv 0) ae))) (ac (bw bh rfl (iK rfl z.enumerate (a1 (pv 3))) (cu rfl (ao (gn 7 S) (ao (gn 8 S) bH))) (ac (bw bh rfl (gj rfl z.range (a1 (xl (aX (bI ae (a3 ae ae ae))) (qf f (a base) (a2 (pv 0) ae))))) (gn 9 S) (ac (qs 10 S (aD (a2 aT (xl (pv 2) (qf f (a base) (a2 (pv 0) (ql z.len (a1 (pv 2))))))))) (ag (ba (qf f (e base) (a2 (pv 5) (aD (a3 (pv 8) (pv 10) (xl (pv 3) (qf f (a base) (a2 (pv 0) (ql z.len (a1 (pv 3)))))))))))))) (ac (bw bh rfl (bf (pv 1)) (gn 11 S) (ag (bw bh rfl (gj rfl z.range (a1 (xl (aX (bI (pv 4) (a3 ae ae ae))) (qf f (a base) (a2 (pv 0) ae))))) (gn 9 S) (ag (ba (qf f (e base) (a2 (pv 5) (aD (a3 (pv 8) (aD (a2 aT (pv 11))) (xl (pv 3) (qf f (a base) (a2 (pv 0) (ql z.len (a1 (pv 3))))))))))))))) (ac (qs 12 S (xl (aX (a2 (cJ eO (pv 3) (cM (aO cK (pv 7) ae)) eP) (cJ eO (pv 3) eP (cM (pv 7))))) (pv 6))) (ag (bg (PW.pt (gh (fU (kN g) (pv 12) (aX bQ)) (gA (fU cZ (qf f (a base) (a2 (pv 0) ae)) ae)))) (ag (ba (qf f (e base) (a2 (pv 5) (aD (a3 (pv 8) (aD (a1 aT)) (xq (pv 12) (qf f (a base) (a2 (pv 0) (ql z.len (a1 (pv 12)))))))))))) aI)))))) (ag (av (pv 5))))))) (by walk_at "b")
theorem vG(g:j3 P w K mg)(a:cY P w K mg)(e:iT P w K mg)(f:gv P w K mg):p6 P w K mg:=fun base=>dG X G T.f_law_model (fun S _ _ _ _ _ _ _ _ _ i j h=>bK (Ds h) (ac (ba (qf i (g base) (a1 (pv 0)))) (ac (qs 3 S (qf i (e base) (a2 (pv 0) ae))) (ac (qs 4 S (cJ eO (pv 3) eP (cM (aO cK ae (xl (aX (bI ae (bI ae (bI ae (a3 ae ae ae))))) (qf i (a base) (a2 (pv 0) ae))))))) (ac (qs 5 S (cJ eO (pv 3) (cM ae) (cM (aO cK ae (xl (aX (bI ae (bI ae (bI ae (a3 ae ae ae))))) (qf i (a base) (a2 (pv 0) ae))))))) (ac (qs 6 S (qf i (e base) (a2 (pv 0) (aO cK ae (qf i (a base) (a2 (pv 0) (pv 1))))))) (ac (qs 7 S (qf i (f base) (bI (pv 0) (bI (pv 4) (a3 (pv 5) (pv 6) (pv 2)))))) (ag (av (aD (bI (pv 4) (a3 (pv 5) (pv 6) (pv 7))))))))))))) (by walk_at "b")
theorem zb:pE P w K mg:=fun base=>dG X G T.f_is_name (fun S _ _ _ _ _ _ _ _ _ a e h=>bK (zM h) (ag (av (r9 (CB xP (pv 0) aT) (r9 (CB Hv (ql z.len (a1 (pv 0))) (fZ rfl c.LONGEST_NAME)) (rZ (qB (kS rfl) z.all boot_all (a1 (qc (GJ (pv 0)) (aN (by decide)) fun _ _ _ _ _ _=>⟨gc 0,bG,eci zU (pv 0) (fZ rfl c.LETTERS)⟩))))))))) (by walk_at "b")
theorem zc:ju P w K mg:=fun base=>dG X G T.f_as_keys (fun S _ _ _ _ _ _ _ _ _ e a h=>bK (zQ h) (ac (qs 1 S kM) (ac (bw bh rfl (bf (pv 0)) (gn 2 S) (ag (gR a (pv 1) (pv 2) ji rfl))) (ag (av (pv 1)))))) (by walk_at "b")
theorem lN(a:pE P w K mg)(e:ju P w K mg):eU P w K mg:=fun base=>dG X G T.f_first_wrong_name (fun S _ _ _ _ _ _ _ _ _ f g h=>bK (lP h) (ac (bg (fU cZ (ql z.len (a1 (pv 0))) ae) (ag (av ae)) aI) (ac (qs 3 S (qf f (e base) (a1 (pv 2)))) (ac (bw bh rfl (iK rfl z.enumerate (a1 (pv 0))) (cu rfl (ao (gn 4 S) (ao (gn 5 S) bH))) (ac (bg (PW.pt (jh (fU cZ (pv 4) (pv 1)) (jh (h_ (vV g (pv 5) (pv 3))) (jH (kI (eS (qf f (a base) (a1 (pv 5))))))))) (ag (av (pv 4))) aI) (ag (gR g (pv 3) (pv 5) ji rfl)))) (ag (av o_)))))) (by walk_at "b")
theorem tN:j4 P w K mg:=fun base=>dG X G T.f_door_signs (fun S _ _ _ _ _ _ _ _ _ a e h=>bK (tS c.still h) (ag (av (aO fH (aO fH (qc (bf (pv 0)) (aN (by decide)) fun _ _ _ _ _ _=>⟨gc 0,bG,aD (a2 aT (pv 0))⟩) (qc (bf (pv 1)) (aN (by decide)) fun _ _ _ _ _ _=>⟨gc 0,bG,aD (a2 aT (pv 0))⟩)) (aX (a1 (fZ rfl c.STILL))))))) (by walk_at "b")
theorem lO(a:ju P w K mg):eV P w K mg:=fun base=>dG X G T.f_first_wrong_door (fun S _ _ _ _ _ _ _ _ _ f e h=>bK (lQ h) (ac (qs 3 S (qf f (a base) (a1 (pv 1)))) (ac (qs 4 S xL) (ac (bw bh rfl (iK rfl z.enumerate (a1 (pv 0))) (cu rfl (ao (gn 5 S) (ao (gn 6 S) bH))) (ac (bg (PW.pt (jh (fU cZ (pv 5) (fZ rfl c.MOST_DOORS)) (jH (h_ (vV e (pv 6) (pv 4)))))) (ag (av (pv 5))) aI) (ac (bg (PW.pt (jh (h_ (lz e (xq (pv 6) ae) (pv 3))) (jh (EY (gW e) (xq (pv 6) ae) (pv 2)) (jH (h_ (lz e (xq (pv 6) ae) (pv 3))))))) (ag (av (pv 5))) aI) (ag (gR e (pv 4) (pv 6) ji rfl))))) (ag (av o_)))))) (by walk_at "b")
theorem hJ:cP P w K mg:=fun base=>dG X G T.f_goals_by_start_and_sign (fun S _ _ _ _ _ _ _ _ _ e a h=>bK (h7 h) (ac (qs 1 S xL) (ac (bw bh rfl (bf (pv 0)) (cu rfl (ao (gn 2 S) (ao (gn 3 S) (ao (gn 4 S) bH)))) (ag (ba (gJ c7 ga f_ cj (gJ PySem.F.plainAttrs_dict PySem.F.slot_dict_setdefault PySem.F.type_dict_setdefault (Cn a) (pv 1) (a2 (aD (a2 (pv 2) (pv 3))) (aX bQ))) (a1 (pv 4)))))) (ag (av (pv 1)))))) (by walk_at "b")
theorem qd:io P w K mg:=fun base=>dG X G T.f_led_by_still (fun S _ _ _ _ _ _ _ _ _ e a h=>bK (qj c.still h) (ac (qs 2 S kM) (ac (qs 3 S (aX (a1 (pv 1)))) (ac (kJ bh (fU uv (ql z.len (a1 (pv 3))) ae) (ac (qs 4 S (pb c7 oA oy si (pv 3))) (ag (bw bh rfl (GK (r8 a (pv 0) (aD (a2 (pv 4) (fZ rfl c.STILL))) (aD bQ) ⟨rfl,rfl,rfl,rfl⟩)) (gn 5 S) (ag (bg (h_ (lz a (pv 5) (pv 2))) (ac (gR a (pv 2) (pv 5) ji rfl) (ag (ba (gJ c7 ga f_ cj (pv 3) (a1 (pv 5)))))) aI)))))) (ag (av (pv 2))))))) (by walk_at "b")
theorem mC:fR P w K mg:=fun base=>dG X G T.f_first_led_round (fun S _ _ _ _ _ _ _ _ _ e a h=>bK (mE h) (ac (bw bh rfl (iK rfl z.enumerate (a1 (pv 0))) (cu rfl (ao (gn 2 S) (ao (gn 3 S) bH))) (ag (bg (h_ (vV a (pv 3) (iL a (pv 1) (pv 3) (fun _ _=>rfl)))) (ag (av (pv 2))) aI))) (ag (av o_)))) (by walk_at "b")
theorem vz:iQ P w K mg:=fun base=>dG X G T.f_need_none (fun S _ _ _ _ _ _ _ _ _ a e h=>bK (vS (K:=K) h) (ag (bg (h_ (qD (pv 1))) (ag (kK)) aI))) (by walk_at "b")
theorem tI(a:eU P w K mg)(g:j4 P w K mg)(f:eV P w K mg)(e:iQ P w K mg):jW P w K mg:=fun base=>dG X G T.f_need_parts (fun S _ _ _ _ _ _ _ _ _ i j h=>bK (tQ (K:=K) h) (ac (ba (qf i (e base) (a2 aT (qf i (a base) (a3 (pv 0) (fZ rfl c.MOST_WORDS) (aX bQ)))))) (ac (ba (qf i (e base) (a2 aT (qf i (a base) (a3 (pv 1) (fZ rfl c.MOST_WORDS) (pv 0)))))) (ac (ba (qf i (e base) (a2 aT (qf i (a base) (a3 (pv 2) (fZ rfl c.MOST_ROOMS) (aX bQ)))))) (ag (ba (qf i (e base) (a2 aT (qf i (f base) (a3 (pv 3) (pv 2) (qf i (g base) (a2 (pv 0) (pv 1))))))))))))) (by walk_at "b")
theorem nD:gy P w K mg:=fun base=>dG X G T.f_doors_by_start (fun S _ _ _ _ _ _ _ _ _ e a h=>bK (nP h) (ac (qs 2 S kM) (ac (bw bh rfl (bf (pv 0)) (gn 3 S) (ag (gR a (pv 2) (pv 3) (aX bQ) rfl))) (ac (bw bh rfl (bf (pv 1)) (gn 4 S) (ag (ba (gJ c7 ga f_ cj (iL a (pv 2) (xq (pv 4) ae) (fun _ _=>rfl)) (a1 (pv 4)))))) (ag (av (pv 2))))))) (by walk_at "b")
theorem nC:gx P w K mg:=fun base=>dG X G T.f_has_asks_alone (fun S _ _ _ _ _ _ _ _ _ a e h=>bK (nO h) (ag (av (qB (kS rfl) z.all boot_all (a1 (qc (bf (pv 0)) (aN (by decide)) fun _ _ _ _ _ _=>⟨gc 0,bG,CB cZ (xq (xq (pv 0) ae) ae) aT⟩)))))) (by walk_at "b")
theorem ze(l:ju P w K mg)(a:cP P w K mg)(i:io P w K mg)(e:fR P w K mg)(k:iQ P w K mg)(j:jW P w K mg)(f:gy P w K mg)(g:gx P w K mg):pF P w K mg C:=fun base=>dN c.cm c.makes c.kc T.f_Machine___init__ (fun S _ _ _ _ _ _ _ _ _ m n h=>bK (Fk c.mc h) (ac (ba (qf m (j base) (bI (pv 1) (a3 (pv 2) (pv 3) (pv 4))))) (ac (kL (pv 0) (qL rfl z.list (a1 (pv 1))) rfl) (ac (kL (pv 0) (qL rfl z.list (a1 (pv 2))) rfl) (ac (kL (pv 0) (qL rfl z.list (a1 (pv 3))) rfl) (ac (kL (pv 0) (qL rfl z.list (a1 (pv 4))) rfl) (ac (kL (pv 0) (qf m (f base) (a2 (pv 3) (pv 4))) rfl) (ac (kL (pv 0) (qf m (l base) (a1 (qc (bf (pv 3)) (aN (by decide)) fun _ _ _ _ _ _=>⟨gc 0,jI (eS (qf m (g base) (a1 (iL n (jK (pv 1) rfl) (pv 0) (fun _ _=>rfl))))),pv 0⟩))) rfl) (ac (kL (pv 0) (qf m (a base) (a1 (pv 4))) rfl) (ac (kL (pv 0) (gV (wu rfl) rfl z.dict Ao (a1 (qc (bf (pv 3)) (aN (by decide)) fun _ _ _ _ _ _=>⟨gc 0,bG,aD (a2 (pv 0) (qf m (i base) (a2 (jK (pv 1) rfl) (pv 0))))⟩))) rfl) (ag (ba (qf m (k base) (a2 aT (qf m (e base) (a2 (pv 3) (jK (pv 0) rfl))))))))))))))))) (by walk_at "b")
theorem rM(a:pF P w K mg C):mf P w K mg C:=fun base=>dG X G T.f_law_machine (fun S _ _ _ _ _ _ _ _ _ e f h=>bK (zI h) (ag (av (GO (a base) (e.mono (by decide)) rfl (bI (qL rfl z.list (a1 (xq (pv 0) ae))) (a3 (qL rfl z.list (a1 (xq (pv 0) ae))) (qL rfl z.list (a1 (xq (pv 0) ae))) (qL rfl z.list (a1 (xq (pv 0) ae))))))))) (by walk_at "b")
theorem o0:eQ P w K mg C:=fun base=>dM c.mc.cls T.f_Machine_rooms (fun S _ _ _ _ _ _ _ _ _ a e h=>bK (Dp c.mc h) (ag (av (qL rfl z.list (a1 (jK (pv 0) rfl)))))) (by walk_at "b")
theorem lL:eW P w K mg C:=fun base=>dM c.mc.cls T.f_Machine_led_from (fun S _ _ _ _ _ _ _ _ _ e a h=>bK (xD c.mc h) (ag (av (qL rfl z.list (a1 (r8 a (jK (pv 0) rfl) (pv 1) (aD bQ) ⟨rfl,rfl,rfl,rfl⟩)))))) (by walk_at "b")
theorem o5:dz P w K mg C:=fun base=>dM c.mc.cls T.f_Machine_goals (fun S _ _ _ _ _ _ _ _ _ e a h=>bK (zH c.mc h) (ag (av (qL rfl z.list (a1 (r8 a (jK (pv 0) rfl) (aD (a2 (pv 1) (pv 2))) (aD bQ) ⟨rfl,rfl,rfl,rfl⟩)))))) (by walk_at "b")
theorem lM:eX P w K mg C:=fun base=>dM c.mc.cls T.f_Machine_is_quiet (fun S _ _ _ _ _ _ _ _ _ e a h=>bK (xE c.mc h) (ag (av (DG (vV a (pv 1) (jK (pv 0) rfl)))))) (by walk_at "b")
theorem qe:dW P w K mg:=fun base=>dG X G T.f_law_still_on (fun S _ _ _ _ _ _ _ _ _ e a h=>bK (xA h) (ac (qs 2 S (qL rfl z.list (a1 (pv 1)))) (ac (qs 3 S ae) (ac (kJ bh (fU uu (pv 3) (ql z.len (a1 (pv 2)))) (ac (bw bh rfl (bf (pv 0)) (cu rfl (ao (gn 4 S) (ao (gn 5 S) (ao (gn 6 S) bH)))) (ag (bg (PW.pt (gh (fU (gH a) (pv 4) (xq (pv 2) (pv 3))) (gh (fU (gH a) (pv 5) (aD (a1 aT))) (gA (EY (gW a) (pv 6) (pv 2)))))) (ag (ba (gJ c7 ga f_ cj (pv 2) (a1 (pv 6))))) aI))) (ag (qs 3 S (aO cK (pv 3) ae))))) (ag (av (pv 2))))))) (by walk_at "b")
theorem p_:dX P w K mg C:=fun base=>dM c.mc.cls T.f_Machine_asks (fun S _ _ _ _ _ _ _ _ _ a e h=>bK (Fl c.mc h) (ag (av (qL rfl z.list (a1 (jK (pv 0) rfl)))))) (by walk_at "b")
theorem p9:fT P w K mg C:=fun base=>dM c.mc.cls T.f_Machine_says (fun S _ _ _ _ _ _ _ _ _ a e h=>bK (Fg c.mc h) (ag (av (qL rfl z.list (a1 (jK (pv 0) rfl)))))) (by walk_at "b")
theorem Di(a:eW P w K mg C)(e:dz P w K mg C):wK P w K mg C:=fun base=>dG X G T.f_takes (fun S _ _ _ _ _ _ _ _ _ f g h=>bK (BR h) (ag (av (qB (yt rfl) z.any boot_any (a1 (qc (bf (aO fH (aX (a1 (pv 1))) (qm f (a base) (pv 0) (a1 (pv 1))))) (aN (by decide)) fun _ _ _ _ _ _=>⟨gc 0,bG,CB uv (ql z.len (a1 (qm f (e base) (pv 1) (a2 (pv 0) (aD (a2 aT (pv 2))))))) ae⟩)))))) (by walk_at "b")
theorem tJ(a:dX P w K mg C)(e:fT P w K mg C):jX P w K mg C:=fun base=>dG X G T.f_need_match (fun S _ _ _ _ _ _ _ _ _ f g h=>bK (rT h) (ag (bg (PW.pt (jh (fU (kN g) (Fo f (a base) (pv 0)) (Fo f (a base) (pv 1))) (jH (fU (kN g) (Fo f (e base) (pv 0)) (Fo f (e base) (pv 1)))))) (ag (kK)) aI))) (by walk_at "b")
theorem jx(a:eQ P w K mg C)(e:dX P w K mg C)(f:wK P w K mg C):dC P w K mg C:=fun base=>dG X G T.f_need_all_asks_taken (fun S _ _ _ _ _ _ _ _ _ g i h=>bK (vT h) (ag (bw bh rfl (bf (Fo g (a base) (pv 0))) (gn 1 S) (ag (bw bh rfl (bf (Fo g (e base) (pv 0))) (gn 2 S) (ag (bg (kI (eS (qf g (f base) (a3 (pv 0) (pv 1) (pv 2))))) (ag (kK)) aI))))))) (by walk_at "b")
theorem tH(e:jX P w K mg C)(a:dC P w K mg C):jV P w K mg C:=fun base=>dG X G T.f_need_taker (fun S _ _ _ _ _ _ _ _ _ f g h=>bK (rS (K:=K) h) (ac (ba (qf f (e base) (a2 (pv 0) (pv 1)))) (ag (ba (qf f (a base) (a1 (pv 1))))))) (by walk_at "b")
theorem mD(a:dz P w K mg C):fS P w K mg C:=fun base=>dG X G T.f_add_still_steps (fun S _ _ _ _ _ _ _ _ _ f e h=>bK (Cc c.still h) (ac (qs 2 S (qL rfl z.list (a1 (pv 1)))) (ag (kJ bh (fU uv (ql z.len (a1 (pv 2))) ae) (ac (qs 3 S (pb c7 oA oy si (pv 2))) (ag (bw bh rfl (bf (qm f (a base) (pv 0) (a2 (pv 3) (fZ rfl c.STILL)))) (gn 4 S) (ag (bg (h_ (lz e (pv 4) (pv 1))) (ac (gR e (pv 1) (pv 4) (aD (a3 (pv 3) (fZ rfl c.STILL) (pv 4))) rfl) (ag (ba (gJ c7 ga f_ cj (pv 2) (a1 (pv 4)))))) aI))))))))) (by walk_at "b")
theorem xk(e:dz P w K mg C)(a:eX P w K mg C):mY P w K mg C:=fun base=>dG X G T.f_steps_by (fun S _ _ _ _ _ _ _ _ _ g f h=>bK (xB c.hush h) (ac (qs 3 S kM) (ac (bw bh rfl (Fq (pv 1)) (gn 4 S) (ag (bg (fU (gH f) (pv 2) (fZ rfl c.HUSH)) (ag (bg (eS (qm g (a base) (pv 0) (a1 (pv 4)))) (ag (gR f (pv 3) (pv 4) (aD (a3 (pv 4) (fZ rfl c.HUSH) (pv 4))) rfl)) aI)) (ag (bw bh rfl (bf (qm g (e base) (pv 0) (a2 (pv 4) (pv 2)))) (gn 5 S) (ag (gR f (pv 3) (pv 5) (aD (a3 (pv 4) (pv 2) (pv 5))) rfl))))))) (ag (av (pv 3)))))) (by walk_at "b")
theorem rJ(e:eQ P w K mg C)(a:fS P w K mg C)(f:mY P w K mg C):i0 P w K mg C:=fun base=>dG X G T.f_steps_along (fun S _ _ _ _ _ _ _ _ _ g i h=>bK (Cb h) (ac (qs 2 S (Fw (DE (xl (Fo g (e base) (pv 0)) ae) o_ Fp) rfl rfl nofun (by decide))) (ac (qs 3 S (aX (a1 (pv 2)))) (ac (ba (qf g (a base) (a2 (pv 0) (pv 2)))) (ac (bw bh rfl (bf (pv 1)) (gn 4 S) (ac (qs 2 S (qf g (f base) (a3 (pv 0) (pv 2) (pv 4)))) (ac (ba (gJ c7 ga f_ cj (pv 3) (a1 (pv 2)))) (ag (ba (qf g (a base) (a2 (pv 0) (pv 2)))))))) (ag (av (pv 3)))))))) (by walk_at "b")
theorem y6(a:i0 P w K mg C):pD P w K mg C:=fun base=>dG X G T.f_walk_of (fun S _ _ _ _ _ _ _ _ _ f e h=>bK (Do c.still h) (ac (qs 2 S (qf f (a base) (a2 (pv 0) (pv 1)))) (ac (bg (fU cZ (qB CJ z.len PySem.boot_len (a1 (xl (pv 2) (AY vj ae)))) ae) (ag (av o_)) aI) (ac (qs 3 S (xl (qL rfl z.list (a1 (xl (pv 2) (AY vj ae)))) ae)) (ac (qs 4 S (aX bQ)) (ac (qs 5 S (pb c7 oA oy si (pv 2))) (ac (kJ bh (h_ (qD (iL e (pv 5) (pv 3) (fun _ _=>rfl)))) (ac (qs 6 S (iL e (pv 5) (pv 3) (fun _ _=>rfl))) (ac (ba (gJ c7 ga f_ cj (pv 4) (a1 (pv 6)))) (ac (qs 3 S (xt (pv 6) ae)) (ag (bg (fU (kN e) (xt (pv 6) ae) (fZ rfl c.STILL)) (ag (qs 5 S (pb c7 oA oy si (pv 2)))) aI)))))) (ac (ba (pb c7 PySem.F.slot_list_reverse PySem.F.type_list_reverse zX (pv 4))) (ag (av (pv 4))))))))))) (by walk_at "b")
theorem y_:lI P w K mg:=fun base=>dG X G T.f_is_tell (fun S _ _ _ _ _ _ _ _ _ a e h=>bK (B_ h) (ag (av (r9 (CB cZ (ql z.len (a1 (pv 0))) ae) (rZ (CB cZ (xt (pv 0) ae) aT)))))) (by walk_at "b")
theorem y9:lH P w K mg:=fun base=>dG X G T.f_is_wait (fun S _ _ _ _ _ _ _ _ _ a e h=>bK (B1 h) (ag (av (r9 (CB cZ (ql z.len (a1 (pv 0))) ae) (rZ (CB cZ (xt (pv 0) ae) aT)))))) (by walk_at "b")
theorem nA:gu P w K mg:=fun base=>dG X G T.f_says_and_parts (fun S _ _ _ _ _ _ _ _ _ a e h=>bK (vR h) (ag (av (qc (jJ (pv 0)) (lA (ci (aN (by decide)) bc (ci (aN (by decide)) bc (jj) (ck)) (cV bc (ck)))) fun _ _ _ _ _ _=>⟨cu rfl (ao (gc 0) (ao (gc 1) bH)),bG,aD (a2 (aD (a2 aT (pv 0))) (pv 1))⟩)))) (by walk_at "b")
theorem qa(e:lI P w K mg)(f:lH P w K mg)(a:gu P w K mg):ik P w K mg:=fun base=>dG X G T.f_signed_parts (fun S _ _ _ _ _ _ _ _ _ g i h=>bK (BU c.hush h) (ac (bg (eS (qf g (e base) (a1 (pv 0)))) (ag (av (aO fH (aX (a1 (aD (a2 (aD (a2 aT (xt (pv 0) ae))) (xt (pv 0) ae))))) (qf g (a base) (a1 (xt (pv 0) ae)))))) aI) (ac (bg (eS (qf g (f base) (a1 (pv 0)))) (ag (av (aO fH (qf g (a base) (a1 (xt (pv 0) ae))) (aX (a1 (aD (a2 (fZ rfl c.HUSH) (xt (pv 0) ae)))))))) aI) (ag (av (aX bQ)))))) (by walk_at "b")
theorem qb(a:ik P w K mg):im P w K mg:=fun base=>dG X G T.f_parts_behind (fun S _ _ _ _ _ _ _ _ _ e f h=>bK (BW h) (ac (qs 3 S (aX bQ)) (ac (bw bh rfl (iK rfl z.enumerate (a1 (qf e (a base) (a1 (pv 2))))) (cu rfl (ao (gn 4 S) (ao (gn 5 S) bH))) (ac (ia (pv 5) (cu rfl (ao (gn 6 S) (ao (gn 7 S) bH)))) (ag (ba (gJ c7 ga f_ cj (pv 3) (a1 (aD (a3 (aO vX (pv 0) (aD (a1 (pv 4)))) (aO fH (pv 1) (aX (a1 (pv 6)))) (pv 7))))))))) (ag (av (pv 3)))))) (by walk_at "b")
theorem vy(a:im P w K mg):k5 P w K mg:=fun base=>dG X G T.f_with_ways (fun S _ _ _ _ _ _ _ _ _ e f h=>bK (xz h) (ac (qs 1 S (aX bQ)) (ac (qs 2 S (aX (a1 (aD (a3 (aD bQ) (aX bQ) (pv 0)))))) (ac (kJ bh (fU uv (ql z.len (a1 (pv 2))) ae) (ac (ia (pb c7 oA oy si (pv 2)) (cu rfl (ao (gn 3 S) (ao (gn 4 S) (ao (gn 5 S) bH))))) (ac (ba (gJ c7 ga f_ cj (pv 1) (a1 (aD (a3 (pv 3) (pv 4) (pv 5)))))) (ac (bw bh rfl (GL rfl z.reversed (a1 (qf e (a base) (a3 (pv 3) (pv 4) (pv 5))))) (gn 6 S) (ag (ba (gJ c7 ga f_ cj (pv 2) (a1 (pv 6)))))) (ag (bg (PW.pt (jh (fU cZ (ql z.len (a1 (pv 3))) (fZ rfl c.MOST_WITHIN)) (jH (fU uv (aO cK (ql z.len (a1 (pv 1))) (ql z.len (a1 (pv 2)))) (fZ rfl c.MOST_TRIALS))))) (ag (kK)) aI)))))) (ag (av (pv 1))))))) (by walk_at "b")
theorem kz(a:fT P w K mg C):eE P w K mg C:=fun base=>dG X G T.f_has_says_in_order (fun S _ _ _ _ _ _ _ _ _ e f h=>bK (zN h) (ag (av (CB (gH f) (qc (jJ (pv 1)) (lA (ci (aN (by decide)) bc (ci (aN (by decide)) bc (jj) (ck)) (cV bc (ck)))) fun _ _ _ _ _ _=>⟨cu rfl (ao (gc 0) (ao (gc 1) bH)),bG,pv 0⟩) (Fo e (a base) (pv 0)))))) (by walk_at "b")
theorem mB(e:dX P w K mg C)(f:lI P w K mg)(g:lH P w K mg)(a:eE P w K mg C):fQ P w K mg C:=fun base=>dG X G T.f_is_so_by_itself (fun S _ _ _ _ _ _ _ _ _ i j h=>bK (Fj c.blm c.enD h) (ac (bg (eS (qf i (f base) (a1 (pv 1)))) (ag (av (r9 (eci (vW j) (xt (pv 1) ae) (Fo i (e base) (pv 0))) (rZ (qf i (a base) (a2 (pv 0) (xt (pv 1) ae))))))) aI) (ac (bg (eS (qf i (g base) (a1 (pv 1)))) (ag (av (qf i (a base) (a2 (pv 0) (xt (pv 1) ae))))) aI) (ag (av (Hu (CB (gH j) (pv 1) (fZ rfl c.END)) (rZ (CB (gH j) (pv 1) (fZ rfl c.BLAME))))))))) (by walk_at "b")
theorem kA(e:k5 P w K mg)(a:fQ P w K mg C):eF P w K mg C:=fun base=>dG X G T.f_checked_with_ways (fun S _ _ _ _ _ _ _ _ _ f g h=>bK (zO h) (ac (qs 2 S (qf f (e base) (a1 (pv 1)))) (ac (bw bh rfl (bf (pv 2)) (cu rfl (ao (gn 3 S) (ao (gn 4 S) (ao (gn 5 S) bH)))) (ag (bg (kI (eS (qf f (a base) (a2 (pv 0) (pv 5))))) (ag (kK)) aI))) (ag (av (pv 2)))))) (by walk_at "b")
theorem BL(a:eF P w K mg C):sY P w K mg C:=fun base=>dG X G T.f_leaves (fun S _ _ _ _ _ _ _ _ _ e f h=>bK (zK h) (ag (av (qc (bf (qf e (a base) (a2 (pv 0) (pv 1)))) (lA (ci (aN (by decide)) bc (ci (aN (by decide)) bc (ci (aN (by decide)) bc (jj) (ck)) (cV bc (ck))) (cV bc (cV bc (ck))))) fun _ _ _ _ _ _=>⟨cu rfl (ao (gc 0) (ao (gc 1) (ao (gc 2) bH))),jI (fU cZ (ql z.len (a1 (pv 2))) ae),aD (a3 (pv 0) (pv 1) (xt (pv 2) ae))⟩)))) (by walk_at "b")
theorem BM(a:jV P w K mg C)(e:pD P w K mg C)(f:sY P w K mg C):tf P w K mg C:=fun base=>dG X G T.f_blames (fun S _ _ _ _ _ _ _ _ _ g i h=>bK (zP h) (ac (ba (qf g (a base) (a2 (pv 0) (pv 2)))) (ac (bw bh rfl (bf (qf g (f base) (a2 (pv 0) (pv 1)))) (cu rfl (ao (gn 3 S) (ao (gn 4 S) (ao (gn 5 S) bH)))) (ag (bg (fU cZ (pv 5) aT) (ac (qs 6 S (qf g (e base) (a2 (pv 2) (pv 4)))) (ag (bg (h_ (qD (pv 6))) (ag (av (pv 6))) aI))) aI))) (ag (av o_))))) (by walk_at "b")
theorem rK(a:cY P w K mg)(f:js P w K mg)(e:dW P w K mg):i3 P w K mg:=fun base=>dG X G T.f_law_willing (fun S _ _ _ _ _ _ _ _ _ g i h=>bK (zF h) (ac (ia (pv 1) (cu rfl (ao (gn 2 S) (ao (gn 3 S) (ao (gn 4 S) (ao (gn 5 S) bH)))))) (ac (qs 5 S (qL rfl z.list (a1 (pv 5)))) (ac (bw bh rfl (bf (pv 4)) (gn 6 S) (ag (bw bh rfl (bf (pv 2)) (gn 7 S) (ac (qs 8 S (qf g (e base) (a2 (pv 5) (aX (a1 (pv 6)))))) (ag (bg (fU (gH i) (qc (bf (pv 5)) (aN (by decide)) fun _ _ _ _ _ _=>⟨gc 0,jI (PW.pt (gh (EY (vW i) (xq (pv 0) ae) (pv 1)) (gA (fU (gH i) (xq (pv 0) ae) (aD (a2 aT (pv 2))))))),pv 0⟩) (aX bQ)) (ac (qs 9 S (xl (aX (a2 (pv 6) (xl (pv 4) (qf g (a base) (a2 (pv 0) (ql z.len (a1 (pv 4)))))))) (qf g (a base) (a2 (pv 0) ae)))) (ag (ba (qf g (f base) (a2 (pv 5) (aD (a3 (pv 6) (aD (a2 aT (pv 7))) (pv 9)))))))) aI)))))) (ag (av (aD (bI (pv 2) (a3 (pv 3) (pv 4) (pv 5)))))))))) (by walk_at "b")
theorem tK(a:cY P w K mg)(e:js P w K mg)(f:dW P w K mg):jY P w K mg:=fun base=>dG X G T.f_law_turned (fun S _ _ _ _ _ _ _ _ _ g i h=>bK (BP h) (ac (ia (pv 1) (cu rfl (ao (gn 2 S) (ao (gn 3 S) (ao (gn 4 S) (ao (gn 5 S) bH)))))) (ac (qs 5 S (qL rfl z.list (a1 (pv 5)))) (ac (qs 6 S (qf g (a base) (a2 (pv 0) ae))) (ac (qs 7 S (qf g (a base) (a2 (pv 0) (qB (CI rfl) z.max PyProof.Rows.boot_max (a2 ae (ql z.len (a1 (pv 5)))))))) (ac (qs 8 S (xl (pv 4) (qf g (a base) (a2 (pv 0) (ql z.len (a1 (pv 4))))))) (ac (qs 9 S (xl (pv 4) (qf g (a base) (a2 (pv 0) (ql z.len (a1 (pv 4))))))) (ac (bg (fU cZ (pv 6) ae) (ag (ba (qf g (e base) (a2 (pv 5) (aD (a3 (pv 8) (aD (a2 aT (xl (pv 3) (qf g (a base) (a2 (pv 0) (ql z.len (a1 (pv 3)))))))) (pv 9))))))) (ag (bg (fU cZ (pv 6) ae) (ag (ba (qf g (e base) (a2 (pv 5) (aD (a3 (pv 8) (aD (a2 aT (xl (pv 2) (qf g (a base) (a2 (pv 0) (ql z.len (a1 (pv 2)))))))) (pv 9))))))) (ag (bg (PW.pt (gh (fU uu (pv 6) ae) (gh (fU (kN i) (pv 5) (aX bQ)) (gA (fU xP (xt (xt (xl (pv 5) (pv 7)) ae) ae) aT))))) (ac (qs 10 S (gJ c7 oA oy DR (pv 5) (a1 (pv 7)))) (ag (bg (fU cZ (pv 6) ae) (ag (ba (qf g (e base) (a2 (pv 5) (aD (a3 (xt (pv 10) ae) (xt (pv 10) ae) (pv 9))))))) aI))) (ag (bg (PW.pt (gh (fU cZ (pv 6) ae) (gA (EY (gW i) (pv 8) (qf g (f base) (a2 (pv 5) (aX (a1 (pv 9))))))))) (ag (ba (qf g (e base) (a2 (pv 5) (aD (a3 (pv 8) (aD (a1 aT)) (pv 9))))))) aI))))))) (ag (av (aD (bI (pv 2) (a3 (pv 3) (pv 4) (pv 5)))))))))))))) (by walk_at "b")
theorem rL(e:cY P w K mg)(a:iT P w K mg):i4 P w K mg:=fun base=>dG X G T.f_law_renamed (fun S _ _ _ _ _ _ _ _ _ g f h=>bK (xC h) (ac (ia (pv 1) (cu rfl (ao (gn 2 S) (ao (gn 3 S) (ao (gn 4 S) (ao (gn 5 S) bH)))))) (ac (qs 6 S kM) (ac (bw bh rfl (AW rfl z.zip (a2 (pv 4) (qf g (a base) (a2 (pv 0) (ql z.len (a1 (pv 4))))))) (cu rfl (ao (gn 7 S) (ao (gn 8 S) bH))) (ag (gR f (pv 6) (pv 7) (pv 8) rfl))) (ac (Ht 9 S (bf (pv 4)) (aN (by decide)) fun _ _ _ _ _ _=>⟨gc 0,bG,iL f (pv 1) (pv 0) (fun _ _=>rfl)⟩) (ac (qs 10 S (aO cK ae (qf g (e base) (a2 (pv 0) (ql z.len (a1 (pv 4))))))) (ac (qs 9 S (aO fH (aO fH (cJ eO (pv 9) eP (cM ae)) (cJ eO (pv 9) (cM (pv 10)) eP)) (cJ eO (pv 9) (cM ae) (cM (pv 10))))) (ac (Ht 5 S (bf (pv 5)) (lA (ci (aN (by decide)) bc (ci (aN (by decide)) bc (ci (aN (by decide)) bc (jj) (ck)) (cV bc (ck))) (cV bc (cV bc (ck))))) fun _ _ _ _ _ _=>⟨cu rfl (ao (gc 0) (ao (gc 1) (ao (gc 2) bH))),bG,aD (a3 (iL f (pv 3) (pv 0) (fun _ _=>rfl)) (pv 1) (iL f (pv 3) (pv 2) (fun _ _=>rfl)))⟩) (ag (av (aD (bI (pv 2) (a3 (pv 3) (pv 9) (pv 5)))))))))))))) (by walk_at "b")
theorem xp(i:j3 P w K mg)(a:cY P w K mg)(e:i3 P w K mg)(g:jY P w K mg)(f:i4 P w K mg):s_ P w K mg:=fun base=>dG X G T.f_law_near (fun S _ _ _ _ _ _ _ _ _ j k h=>bK (Fi (K:=K) h) (ac (ba (qf j (i base) (a1 (pv 0)))) (ac (bw bh rfl (gj rfl z.range (a1 (qf j (a base) (a2 (pv 0) (aO cK (pv 2) ae))))) (gn 3 S) (ag (qs 1 S (qf j (g base) (a2 (pv 0) (pv 1)))))) (ac (qs 1 S (qf j (e base) (a2 (pv 0) (pv 1)))) (ac (bg (fU cZ (qf j (a base) (a2 (pv 0) ae)) ae) (ag (qs 1 S (qf j (f base) (a2 (pv 0) (pv 1))))) aI) (ag (av (pv 1)))))))) (by walk_at "b")
theorem vD:iR P w K mg:=fun base=>dG X G T.f_law_quiet (fun S _ _ _ _ _ _ _ _ _ a e h=>bK (BV h) (ac (Ht 2 S (bf (xt (pv 0) ae)) (aN (by decide)) fun _ _ _ _ _ _=>⟨gc 0,jI (fU cZ (xt (pv 0) ae) (pv 1)),pv 0⟩) (ag (av (qB (kS rfl) z.all boot_all (a1 (qc (bf (pv 2)) (aN (by decide)) fun _ _ _ _ _ _=>⟨gc 0,bG,CB cZ (xt (xt (pv 0) ae) ae) aT⟩))))))) (by walk_at "b")
theorem qg(a:dW P w K mg):fP P w K mg:=fun base=>dG X G T.f_law_in_order (fun S _ _ _ _ _ _ _ _ _ e f h=>bK (Ho h) (ac (qs 2 S (qf e (a base) (a2 (xq (pv 0) ae) (pv 1)))) (ag (av (gV iY rfl z.tuple iO (a1 (qc (bf (xq (pv 0) ae)) (aN (by decide)) fun _ _ _ _ _ _=>⟨gc 0,jI (EY (vW f) (pv 0) (pv 1)),pv 0⟩))))))) (by walk_at "b")
theorem rO(e:iR P w K mg)(a:fP P w K mg):i6 P w K mg:=fun base=>dG X G T.f_law_face_on (fun S _ _ _ _ _ _ _ _ _ g f h=>bK (Ca h) (ac (bg (fU (gH f) (pv 2) (aD (a1 aT))) (ag (av (gV iY rfl z.tuple iO (a1 (qc (jJ (pv 1)) (aN (by decide)) fun _ _ _ _ _ _=>⟨gc 0,jI (eS (qf g (e base) (a2 (pv 1) (pv 0)))),pv 0⟩))))) aI) (ac (qs 3 S (aX bQ)) (ac (bw bh rfl (bf (xt (pv 0) ae)) (cu rfl (ao (gn 4 S) (ao (gn 5 S) (ao (gn 6 S) bH)))) (ag (bg (PW.pt (gh (EY (vW f) (pv 4) (pv 1)) (gh (fU (gH f) (pv 5) (pv 2)) (gA (EY (gW f) (pv 6) (pv 3)))))) (ag (ba (gJ c7 ga f_ cj (pv 3) (a1 (pv 6))))) aI))) (ag (av (qf g (a base) (a2 (pv 0) (pv 3))))))))) (by walk_at "b")
theorem rP(a:fP P w K mg)(e:i6 P w K mg):i7 P w K mg:=fun base=>dG X G T.f_law_face_at (fun S _ _ _ _ _ _ _ _ _ f g h=>bK (BY h) (ac (qs 2 S (qf f (a base) (a2 (pv 0) (cJ GF (xq (pv 0) ae) eP (cM ae))))) (ac (bw bh rfl (bf (pv 1)) (gn 3 S) (ag (qs 2 S (qf f (e base) (a3 (pv 0) (pv 2) (pv 3)))))) (ag (av (pv 2)))))) (by walk_at "b")
theorem vH:iU P w K mg:=fun base=>dG X G T.f_law_inner (fun S _ _ _ _ _ _ _ _ _ a e h=>bK (Dv h) (ac (bg (PW.pt (gh (fU cZ (xt (pv 0) ae) aT) (gA (fU cZ (ql z.len (a1 (pv 0))) ae)))) (ag (av (aO fH (aX (a1 (xt (pv 0) ae))) (qc (jJ (xt (pv 0) ae)) (aN (by decide)) fun _ _ _ _ _ _=>⟨gc 0,bG,xt (pv 0) ae⟩)))) aI) (ac (bg (PW.pt (gh (fU cZ (xt (pv 0) ae) aT) (gA (fU cZ (ql z.len (a1 (pv 0))) ae)))) (ag (av (aO fH (qc (jJ (xt (pv 0) ae)) (aN (by decide)) fun _ _ _ _ _ _=>⟨gc 0,bG,xt (pv 0) ae⟩) (aX (a1 (xt (pv 0) ae)))))) aI) (ag (av (aX bQ)))))) (by walk_at "b")
theorem vB:k7 P w K mg:=fun base=>dG X G T.f_law_signs (fun S _ _ _ _ _ _ _ _ _ a e h=>bK (BT h) (ac (bg (fU cZ (xt (pv 0) ae) aT) (ag (av (aO fH (aX (a1 (aD (a2 aT (xt (pv 0) ae))))) (qc (jJ (xt (pv 0) ae)) (aN (by decide)) fun _ _ _ _ _ _=>⟨gc 0,bG,aD (a2 aT (xt (pv 0) ae))⟩)))) aI) (ag (av (aO fH (qc (jJ (xt (pv 0) ae)) (aN (by decide)) fun _ _ _ _ _ _=>⟨gc 0,bG,aD (a2 aT (xt (pv 0) ae))⟩) (aX (a1 (aD (a1 aT))))))))) (by walk_at "b")
theorem tM(g:iU P w K mg)(i:k7 P w K mg):j1 P w K mg:=fun base=>by
  have E0:d_ P w K mg base "_law_leaves" ["trial","way","story"] 1 Fd:=by
   obtain⟨f,a,t⟩:=T.f_law_leaves;obtain⟨p,F⟩:=t.fun_;exact⟨f,p,DK,dP X G a,F.kp,F.binds (ps:=["trial","way","story"]) (by walk_at "b")⟩
  have j:∀(n D:Nat) (k:Sp),1<=n->D<=4->(∀m,D=m+1->k=(eR K m))->d_ P w K mg base "_law_leaves" ["trial","way","story"] n k->d_ P w K mg base "_law_leaves" ["trial","way","story"] (n+1) (eR K D):=fun n D k o q r s=>dG X G T.f_law_leaves (fun S _ _ _ _ _ _ _ _ _ l u h=>bK (zJ q r h) (ac (qs 3 S (qf (k0:=1) (l.mono (bm (by decide) o)) (g base) (a1 (pv 0)))) (ac (bg (fU (zV u) (pv 3) (aX bQ)) (ag (av (aX (a1 (aD (a3 (pv 1) (pv 2) (xt (pv 0) ae))))))) aI) (ac (qs 4 S (aX bQ)) (ac (bw bh rfl (iK rfl z.enumerate (a1 (qf (k0:=1) (l.mono (bm (by decide) o)) (i base) (a1 (pv 0))))) (cu rfl (ao (gn 5 S) (ao (gn 6 S) bH))) (ag (qs 4 S (aO fH (pv 4) (A5 s l rfl (a3 (xl (pv 3) (pv 5)) (aO vX (pv 1) (aD (a1 (pv 5)))) (aO fH (pv 2) (aX (a1 (pv 6)))))))))) (ag (av (pv 4)))))))) (by walk_at "b");have v:=j 1 0 _ (by decide) (by decide) (fun m e=>by cases e) E0;have x:=j 2 1 _ (by decide) (by decide) (fun m e=>by cases e;rfl) v;have y:=j 3 2 _ (by decide) (by decide) (fun m e=>by cases e;rfl) x;have A:=j 4 3 _ (by decide) (by decide) (fun m e=>by cases e;rfl) y;have B:=j 5 4 _ (by decide) (by decide) (fun m e=>by cases e;rfl) A;exact B
theorem vE:iS P w K mg:=fun base=>dG X G T.f_law_pairs (fun S _ _ _ _ _ _ _ _ _ a e h=>bK (BX h) (ag (av (gV iY rfl z.tuple iO (a1 (qc (AW rfl z.zip (a2 (pv 0) (pv 1))) (lA (ci (aN (by decide)) bc (ci (aN (by decide)) bc (jj) (ck)) (cV bc (ck)))) fun _ _ _ _ _ _=>⟨cu rfl (ao (gc 0) (ao (gc 1) bH)),bG,aD (a2 (pv 0) (pv 1))⟩)))))) (by walk_at "b")
theorem vA(g:cY P w K mg)(i:iS P w K mg):pY P w K mg:=fun base=>by
  have E0:d_ P w K mg base "_law_trial" ["pen","told","deep","left"] 2 Fd:=by
   obtain⟨f,a,t⟩:=T.f_law_trial;obtain⟨p,F⟩:=t.fun_;exact⟨f,p,DK,dP X G a,F.kp,F.binds (ps:=["pen","told","deep","left"]) (by walk_at "b")⟩
  have k:∀(n D:Nat) (o:Sp),2<=n->D<=4->(∀m,D=m+1->o=(fc K m))->d_ P w K mg base "_law_trial" ["pen","told","deep","left"] n o->d_ P w K mg base "_law_trial" ["pen","told","deep","left"] (n+1) (fc K D):=fun n D o l q r s=>dG X G T.f_law_trial (fun S _ _ _ _ _ _ _ _ _ j B h=>bK (BQ q r h) (ac (ia (aO DH (xl (pv 3) ae) ae) (o9 (pv 3) ae jg)) (ac (qs 4 S (qf (k0:=2) (j.mono (bm (by decide) l)) (g base) (a2 (pv 0) ae))) (ac (bg (PW.pt (jh (fU cZ (pv 2) ae) (jh (fU uu (xl (pv 3) ae) ae) (jH (fU cZ (pv 4) ae))))) (ag (av (xl (aX (a2 (aD (a1 aT)) (aD (a1 aT)))) (qf (k0:=2) (j.mono (bm (by decide) l)) (g base) (a2 (pv 0) ae))))) aI) (ac (Ht 5 S (gj rfl z.range (a1 (aO cK (ql z.len (a1 (xt (pv 1) ae))) ae))) (aN (by decide)) fun _ _ _ _ _ _=>⟨gc 0,bG,A5 s j rfl (bI (pv 1) (a3 (pv 2) (aO DH (pv 4) ae) (pv 3)))⟩) (ac (bg (fU uu (pv 4) ae) (ac (qs 6 S (xl (xt (pv 1) ae) (qf (k0:=2) (j.mono (bm (by decide) l)) (g base) (a2 (pv 0) (ql z.len (a1 (xt (pv 1) ae))))))) (ag (av (aD (bI aT (a3 (pv 6) (xl (pv 5) ae) (qf (k0:=1) (j.mono (bm (by decide) l)) (i base) (a2 (xt (pv 1) ae) (cJ eO (pv 5) (cM ae) eP))))))))) aI) (ag (av (aD (a3 aT (qf (k0:=1) (j.mono (bm (by decide) l)) (i base) (a2 (xt (pv 1) ae) (pv 5))) (xl (pv 5) (AY vj ae)))))))))))) (by walk_at "b");have u:=k 2 0 _ (by decide) (by decide) (fun m e=>by cases e) E0;have v:=k 3 1 _ (by decide) (by decide) (fun m e=>by cases e;rfl) u;have x:=k 4 2 _ (by decide) (by decide) (fun m e=>by cases e;rfl) v;have y:=k 5 3 _ (by decide) (by decide) (fun m e=>by cases e;rfl) x;have A:=k 6 4 _ (by decide) (by decide) (fun m e=>by cases e;rfl) y;exact A
theorem xo(i:iU P w K mg)(g:iS P w K mg):mZ P w K mg:=fun base=>by
  have E0:d_ P w K mg base "_law_only" ["trial","goal","here"] 1 Fd:=by
   obtain⟨f,a,t⟩:=T.f_law_only;obtain⟨q,F⟩:=t.fun_;exact⟨f,q,DK,dP X G a,F.kp,F.binds (ps:=["trial","goal","here"]) (by walk_at "b")⟩
  have j:∀(n D:Nat) (l:Sp),1<=n->D<=4->(∀m,D=m+1->l=(gC K m))->d_ P w K mg base "_law_only" ["trial","goal","here"] n l->d_ P w K mg base "_law_only" ["trial","goal","here"] (n+1) (gC K D):=fun n D l o r s u=>dG X G T.f_law_only (fun S _ _ _ _ _ _ _ _ _ k p h=>bK (Dq r s h) (ac (Ht 3 S (iK rfl z.enumerate (a1 (qf (k0:=1) (k.mono (bm (by decide) o)) (i base) (a1 (pv 0))))) (lA (ci (aN (by decide)) bc (ci (aN (by decide)) bc (jj) (ck)) (cV bc (ck)))) fun _ _ _ _ _ _=>⟨cu rfl (ao (gc 0) (ao (gc 1) bH)),bG,A5 u k rfl (a3 (pv 1) (pv 2) (aO vX (pv 3) (aD (a1 (pv 0)))))⟩) (ac (bg (fU (zV p) (pv 3) (aX bQ)) (ag (av (xl (aX (a2 (aD (a1 aT)) (aD (a1 aT)))) (gV CK rfl z.int CL (a1 (CB (zV p) (pv 2) (pv 1))))))) aI) (ac (bg (fU cZ (xt (pv 0) ae) aT) (ag (av (aD (bI aT (a3 (xt (pv 0) ae) (xl (pv 3) ae) (qf (k0:=1) (k.mono (bm (by decide) o)) (g base) (a2 (qc (jJ (xt (pv 0) ae)) (aN (by decide)) fun _ _ _ _ _ _=>⟨gc 0,bG,xt (pv 0) ae⟩) (cJ eO (pv 3) (cM ae) eP)))))))) aI) (ag (av (aD (a3 aT (qf (k0:=1) (k.mono (bm (by decide) o)) (g base) (a2 (qc (jJ (xt (pv 0) ae)) (aN (by decide)) fun _ _ _ _ _ _=>⟨gc 0,bG,xt (pv 0) ae⟩) (pv 3))) (xl (pv 3) (AY vj ae)))))))))) (by walk_at "b");have v:=j 1 0 _ (by decide) (by decide) (fun m e=>by cases e) E0;have x:=j 2 1 _ (by decide) (by decide) (fun m e=>by cases e;rfl) v;have y:=j 3 2 _ (by decide) (by decide) (fun m e=>by cases e;rfl) x;have A:=j 4 3 _ (by decide) (by decide) (fun m e=>by cases e;rfl) y;have B:=j 5 4 _ (by decide) (by decide) (fun m e=>by cases e;rfl) A;exact B
theorem rN(a:iR P w K mg):i5 P w K mg:=fun base=>dG X G T.f_law_is_walk (fun S _ _ _ _ _ _ _ _ _ f e h=>bK (BZ h) (ac (qs 2 S (xl (xt (pv 0) ae) ae)) (ac (bw bh rfl (bf (pv 1)) (gn 3 S) (ac (bg (PW.pt (jh (kI (eS (qB yr z.isinstance yu (a2 (pv 3) (xK rfl z.tuple))))) (jh (fU xP (ql z.len (a1 (pv 3))) ae) (jH (fU xP (xt (pv 3) ae) (pv 2)))))) (ag (av ji)) aI) (ac (bg (PW.pt (gh (fU (gH e) (xt (pv 3) ae) (aD (a1 aT))) (gA (PW.pt (jh (fU xP (xt (pv 3) ae) (pv 2)) (jH (kI (eS (qf f (a base) (a2 (pv 0) (pv 2))))))))))) (ag (av ji)) aI) (ac (bg (PW.pt (gh (fU (kN e) (xt (pv 3) ae) (aD (a1 aT))) (gA (EY (gW e) (pv 3) (xt (pv 0) ae))))) (ag (av ji)) aI) (ag (qs 2 S (xt (pv 3) ae))))))) (ag (av ji))))) (by walk_at "b")
theorem vC(i:tf P w K mg C)(e:i7 P w K mg)(g:j1 P w K mg)(a:mZ P w K mg)(f:i5 P w K mg):pZ P w K mg C:=fun base=>dG X G T.f_law_right (fun S _ _ _ _ _ _ _ _ _ j k h=>bK (zG h) (ac (bw bh rfl (bf (qf j (g base) (a3 (pv 3) (aD bQ) (aX bQ)))) (cu rfl (ao (gn 4 S) (ao (gn 5 S) (ao (gn 6 S) bH)))) (ac (qs 7 S (qf j (i base) (a3 (pv 0) (qf j (a base) (a3 (pv 3) (pv 4) (aD bQ))) (pv 1)))) (ag (bg (fU (gH k) (qf j (e base) (a2 (pv 2) (pv 5))) (aD bQ)) (ag (bg (h_ (qD (pv 7))) (ag (av ji)) aI)) (ag (bg (PW.pt (jh (kI (eS (qB yr z.isinstance yu (a2 (pv 7) (zS rfl z.list))))) (jH (kI (eS (qf j (f base) (a2 (pv 2) (pv 7)))))))) (ag (av ji)) (ag (bg (fU (kN k) (qc (bf (pv 7)) (aN (by decide)) fun _ _ _ _ _ _=>⟨gc 0,jI (fU (kN k) (xt (pv 0) ae) (aD (a1 aT))),xt (pv 0) ae⟩) (pv 5)) (ag (av ji)) aI)))))))) (ag (av (DG (GQ (qf j (i base) (a3 (pv 0) (qf j (a base) (a3 (pv 3) (aD (a1 ae)) (aD bQ))) (pv 1))))))))) (by walk_at "b")
end
theorem GR(X:K.In h)(G:h.Ns bO mg)(z:Zs mg)(c:Cs K mg C a_STILL a_HUSH a_BLAME a_END)(T:Ts K C):∃f fd,mg "law"=some (.ref f)/\(∀(s:Shared) (v:Value),qM s fd ⟨[v],[]⟩ [("script",v)])/\∀base:Heap,kY P w K mg base CX0 9 f fd ["script"] (sp_law33 K):=by
 have b3:jZ P w K mg:=tL X G z c T;have co:sZ P w K mg:=xn X G z c T;have a0:j3 P w K mg:=xr X G z c T;have e:cY P w K mg:=xm X G z c T b3;have M:iT P w K mg:=vF X G z c T e;have E:js P w K mg:=y8 X G z c T;have N:gv P w K mg:=nB X G z c T e E;have cb:p6 P w K mg:=vG X G z c T a0 e M N;have c2:pE P w K mg:=zb X G z c T;have H:ju P w K mg:=zc X G z c T;have y:eU P w K mg:=lN X G z c T c2 H;have b4:j4 P w K mg:=tN X G z c T;have A:eV P w K mg:=lO X G z c T H;have m:cP P w K mg:=hJ X G z c T;have a4:io P w K mg:=qd X G z c T;have I:fR P w K mg:=mC X G z c T;have O:iQ P w K mg:=vz X G z c T;have b5:jW P w K mg:=tI X G z c T y b4 A O;have Q:gy P w K mg:=nD X G z c T;have U:gx P w K mg:=nC X G z c T;have c3:pF P w K mg C:=ze X G z c T H m a4 I O b5 Q U;have r:mf P w K mg C:=rM X G z c T c3;have n:eQ P w K mg C:=o0 X G z c T;have B:eW P w K mg C:=lL X G z c T;have g:dz P w K mg C:=o5 X G z c T;have D:eX P w K mg C:=lM X G z c T;have i:dW P w K mg:=qe X G z c T;have j:dX P w K mg C:=p_ X G z c T;have p:fT P w K mg C:=p9 X G z c T;have dk:wK P w K mg C:=Di X G z c T B g;have b6:jX P w K mg C:=tJ X G z c T j p;have o:dC P w K mg C:=jx X G z c T n j dk;have b7:jV P w K mg C:=tH X G z c T b6 o;have J:fS P w K mg C:=mD X G z c T g;have cq:mY P w K mg C:=xk X G z c T g D;have a7:i0 P w K mg C:=rJ X G z c T n J cq;have c4:pD P w K mg C:=y6 X G z c T a7;have a8:lI P w K mg:=y_ X G z c T;have a9:lH P w K mg:=y9 X G z c T;have Y:gu P w K mg:=nA X G z c T;have a5:ik P w K mg:=qa X G z c T a8 a9 Y;have a6:im P w K mg:=qb X G z c T a5;have ce:k5 P w K mg:=vy X G z c T a6;have u:eE P w K mg C:=kz X G z c T p;have L:fQ P w K mg C:=mB X G z c T j a8 a9 u;have x:eF P w K mg C:=kA X G z c T ce L;have c5:sY P w K mg C:=BL X G z c T x;have dd:tf P w K mg C:=BM X G z c T b7 c4 c5;have bi:i3 P w K mg:=rK X G z c T e E i;have b8:jY P w K mg:=tK X G z c T e E i;have bl:i4 P w K mg:=rL X G z c T e M;have cs:s_ P w K mg:=xp X G z c T a0 e bi b8 bl;have al:iR P w K mg:=vD X G z c T;have q:fP P w K mg:=qg X G z c T i;have bn:i6 P w K mg:=rO X G z c T al q;have b1:i7 P w K mg:=rP X G z c T q bn;have as:iU P w K mg:=vH X G z c T;have ch:k7 P w K mg:=vB X G z c T;have b9:j1 P w K mg:=tM X G z c T as ch;have aC:iS P w K mg:=vE X G z c T;have cl:pY P w K mg:=vA X G z c T e aC;have c0:mZ P w K mg:=xo X G z c T as aC;have b2:i5 P w K mg:=rN X G z c T al;have cm:pZ P w K mg C:=vC X G z c T dd b1 b9 c0 b2;obtain⟨f,a,t⟩:=T.f_law33;obtain⟨oc,od,an,sl,kV,dc,pm,cd,ct,l,c1,k1⟩:=t;have F:=Ee (st:=(eB 81)) l c1 k1;have sc:jU Bz DB (bT (eB 81)):=by walk_at "s"
 have S:=sc.nd;exact⟨f,_,dP X G a,fun s v=>.of_eq rfl,fun base=>F.ok (k:=8) sc (by walk_at "l") (fun _ _ _ _ _ _ _ _ hr h=>by have hu:=Bh hr;exact bK (Dt (K:=K) (C:=C) h) (ac (qs 1 S (qf hr (co base) (a1 (pv 0)))) (ac (bw bh rfl (gj rfl z.range (a1 ae)) (gn 2 S) (ac (qs 3 S (qf hr (cb base) (a3 (pv 1) ae ae))) (ac (qs 4 S (qf hr (cs base) (a3 (pv 1) (pv 3) ae))) (ac (qs 5 S (qf hr (cl base) (bI (pv 1) (a3 (pv 3) ae (aX (a1 ae)))))) (ag (bg (kI (eS (qf hr (cm base) (bI (qf hr (r base) (a1 (pv 3))) (a3 (qf hr (r base) (a1 (pv 4))) (pv 4) (pv 5)))))) (ag (av ji)) aI)))))) (ag (av ji)))))⟩
theorem all_mk{l:PySem.W.OpenLaw}{fa:Addr}{q:Value}{a:Value}{j:Value}{m:Value}{n:Value}{g:Value}{i:Value}{r:Obj}{t:Array Value}{a4:Nat}{O:Obj}{Q:Array Value}{b8:Nat}{u:Obj}{x:Array Value}{a5:Nat}{al:Obj}{an:Array Value}{cq:Nat}(X:K.In h)(G:h.Ns bO mg)(dn:mg "law"=some (.ref fa))
  (aC:bW K bO "Machine"=some (some (.ref C)))
  (pg:wQ K C Str.empty=true)
  (hd:AE K C=true)
  (po:PySem.W.plainOver K C=true)
  (sa:eG K (.ref C) "__setattr__"=some (some (.builtin "object.__setattr__")))
  (mk:wO K C=true)
  (kc:i_ K (.ref C)=true)
  (dp:eG K (.ref C) "own_asks"=some none)
  (dr:eG K (.ref C) "own_says"=some none)
  (ds:eG K (.ref C) "own_rooms"=some none)
  (dx:eG K (.ref C) "own_doors"=some none)
  (dy:eG K (.ref C) "leaving"=some none)
  (dK:eG K (.ref C) "quiet"=some none)
  (dT:eG K (.ref C) "sign_goals"=some none)
  (dV:eG K (.ref C) "still_led"=some none)
  (cs:bW K bO "all"=some none)
  (ct:bW K bO "any"=some none)
  (b9:bW K bO "dict"=some none)
  (U:bW K bO "enumerate"=some none)
  (c0:bW K bO "int"=some none)
  (E:bW K bO "isinstance"=some none)
  (c1:bW K bO "len"=some none)
  (cb:bW K bO "list"=some none)
  (c2:bW K bO "max"=some none)
  (a6:bW K bO "range"=some none)
  (Y:bW K bO "reversed"=some none)
  (a7:bW K bO "tuple"=some none)
  (c3:bW K bO "zip"=some none)
  (as:bW K bO "LETTERS"=some (some q))
  (a0:RelV (.str "abcdefghijklmnopqrstuvwxyz") q)
  (o:bW K bO "LONGEST_NAME"=some (some a))
  (p:RelV (.int 8) a)
  (H:bW K bO "MOST_WORDS"=some (some j))
  (I:RelV (.int 4) j)
  (J:bW K bO "MOST_ROOMS"=some (some m))
  (L:RelV (.int 150) m)
  (M:bW K bO "MOST_DOORS"=some (some n))
  (N:RelV (.int 2000) n)
  (y:bW K bO "MOST_WITHIN"=some (some g))
  (A:RelV (.int 8) g)
  (B:bW K bO "MOST_TRIALS"=some (some i))
  (D:RelV (.int 1000) i)
  (a8:bW K bO "STILL"=some (some (.ref a_STILL)))
  (a9:K.lookup a_STILL=some r)
  (bi:r.cls=.type "tuple")
  (bl:r.data=.seq t a4)
  (bn:t.size<=ah)
  (b1:aZ (am.map V.str) t.toList)
  (cd:bW K bO "HUSH"=some (some (.ref a_HUSH)))
  (ce:K.lookup a_HUSH=some O)
  (ch:O.cls=.type "tuple")
  (cl:O.data=.seq Q b8)
  (cm:Q.size<=ah)
  (co:aZ (bz.map V.str) Q.toList)
  (b2:bW K bO "BLAME"=some (some (.ref a_BLAME)))
  (b3:K.lookup a_BLAME=some u)
  (b4:u.cls=.type "tuple")
  (b5:u.data=.seq x a5)
  (b6:x.size<=ah)
  (b7:aZ (gB.map V.str) x.toList)
  (c4:bW K bO "END"=some (some (.ref a_END)))
  (c5:K.lookup a_END=some al)
  (dc:al.cls=.type "tuple")
  (dd:al.data=.seq an cq)
  (dk:an.size<=ah)
  (dm:aZ (iN.map V.str) an.toList)
  (T:Ts K C)
 :∃fd:j5,(∀(s:Shared) (v:Value),qM s fd ⟨[v],[]⟩ [("script",v)])/\∀base:Heap,K.In base->base.Ns bO mg->kY l.prog w K mg base CX0 9 fa fd ["script"] (sp_law33 K):=by
 have z:Zs mg:=⟨f8 X G cs,f8 X G ct,f8 X G b9,f8 X G U,f8 X G c0,f8 X G E,f8 X G c1,f8 X G cb,f8 X G c2,f8 X G a6,f8 X G Y,f8 X G a7,f8 X G c3⟩;have c:Cs K mg C a_STILL a_HUSH a_BLAME a_END:=⟨⟨_,dP X G as,a0⟩,⟨_,dP X G o,p⟩,⟨_,dP X G H,I⟩,⟨_,dP X G J,L⟩,⟨_,dP X G M,N⟩,⟨_,dP X G y,A⟩,⟨_,dP X G B,D⟩,⟨_,dP X G a8,rfl⟩,⟨_,dP X G cd,rfl⟩,⟨_,dP X G b2,rfl⟩,⟨_,dP X G c4,rfl⟩,qv a9 bi bl bn b1,qv ce ch cl cm co,qv b3 b4 b5 b6 b7,qv c5 dc dd dk dm,⟨⟨pg,hd,po,sa⟩,dp,dr,ds,dx,dy,dK,dT,dV⟩,dP X G aC,mk,kc⟩;obtain⟨f,fd,e,b,k⟩:=GR (P:=l.prog) (w:=w) X G z c T;have e0:=dn.symm.trans e;cases e0;exact⟨fd,b,fun base _ _=>k base⟩
end
end Mum
namespace PySem.W.Fast
def tw9556563729565186227:=0
def tw8707228057996776708:=0
def tw16593196422772525918:=0
def tw17665701259559673729:=0
def tw633795166582030249:=0
def tw10612603623078311821:=0
def tw15891242657438285354:=0
def tw11644330425243030473:=0
def tw11095566322233547032:=0
def tw15686436441929934808:=0
def tw10414042670529284269:=0
def tw6907510844593965118:=0
def tw9638842381725277967:=0
def tw9602890833457557083:=0
def tw3016888181169676681:=0
def tw11115640555158251571:=0
def tw8016309817277658083:=0
def tw1522938585260566764:=0
def tw7888768946309258721:=0
def tw7682319082111462570:=0
def tw13502940960900708403:=0
def tw550394501885914637:=0
def tw11252457370421044719:=0
def tw16251629189622063696:=0
def tw8940098241475489304:=0
def tw15406884744117186854:=0
def tw8685964308338067199:=0
def tw7141818336719789670:=0
def tw12182882479846749640:=0
def tw18162367660436521890:=0
def tw10057767460089131719:=0
def tw6174891724202332355:=0
def tw3229718923270290053:=0
def tw15805811374435236938:=0
def tw5891384135325195433:=0
def tw10475229916771986512:=0
def tw14802250708063977019:=0
def tw11153275450638636717:=0
def tw17476800758079335180:=0
def tw11839287347537581937:=0
def tw4007431049006642563:=0
def tw1055360440504777287:=0
def tw3164094359070981166:=0
def tw14121741889655329879:=0
def tw12397846264265339742:=0
def tw16295280652048392346:=0
def tw5802199673318505137:=0
def tw13466022590439932574:=0
def tw851838330628630383:=0
def tw56212747079360618:=0
def tw17214895518340211269:=0
def tw11557146824507658828:=0
def tw14566347242341478867:=0
def tw13963244742843524598:=0
def tw16356450836604252792:=0
def tw11914871244784955934:=0
def tw10375419630933033053:=0
def tw5694466905127278356:=0
def tw5561250000169762494:=0
def tw2667654255038179693:=0
def tw17104601512882090388:=0
def tw5705569342724817774:=0
def tw3848842541754218725:=0
def tw711847150961253464:=0
def tw8939657749401451927:=0
def tw4835050532400123876:=0
def tw6238094534230172707:=0
def tw6159560930880591483:=0
def tw10919789455157974519:=0
def tw5761620111124442498:=0
def tw148165791012432367:=0
def tw9720745465247718341:=0
def tw11815848190248004660:=0
def tw5049581948545605499:=0
def tw6491863172606206306:=0
def tw3341309278370177735:=0
def tw1479138502673427530:=0
def tw11952437413193594566:=0
def tw5042939857601461663:=0
def tw1626994180855498654:=0
def tw10644448751148905190:=0
def tw6889943019296465138:=0
def tw16440077936926953457:=0
def tw8612757026514832409:=0
def tw14311654278530628832:=0
def tw12934916151548091153:=0
def tw8938562904674579131:=0
def tw9101996723637394143:=0
def tw14351353952347047318:=0
def tw905698723077011446:=0
def tw70222389420644139:=0
def tw3598145020678669592:=0
def tw11010516610874510945:=0
def tw4454545168818628588:=0
def tw8677935017388178224:=0
def tw993508036842856202:=0
def tw12309077207598127026:=0
def tw249320143254436704:=0
def tw5406855781591092598:=0
def tw13778895898934086292:=0
def tw10900277152221441015:=0
def tw7981565469400582597:=0
def tw16250266467714698186:=0
def tw17588751577227536857:=0
def tw11138179045242098413:=0
def tw17823779169633134848:=0
def tw5316075431437751504:=0
def tw3131400464012743845:=0
def tw13154008091067942737:=0
def tw13379597074526744069:=0
def tw2098554049826698455:=0
def tw12015434689283944453:=0
def tw18063705301145147025:=0
def tw4784809461622798361:=0
def tw13701575045189307472:=0
def tw764101884446400716:=0
def tw10418249554652861849:=0
def tw12362753836280484370:=0
def tw14819322539554504296:=0
def tw12026769175667376359:=0
def tw5486434933439473371:=0
def tw8280729900417399956:=0
def tw447752131610954650:=0
def tw2632077186163962336:=0
def tw11791087715652116414:=0
def tw15927966143260908978:=0
def tw3948647600442764455:=0
def tw7335807350376106768:=0
def tw15073481568155735642:=0
def tw13657889313617788202:=0
def tw13727119195041437619:=0
def tw17635777549828181750:=0
def tw10413708910032957370:=0
def tw17121584527288673604:=0
def tw15452863395485984773:=0
def tw328352092093873617:=0
def tw7483009359383810587:=0
def tw9518353354137669817:=0
def tw3415989220589933317:=0
def tw17256026696623115019:=0
def tw14049783890900926333:=0
def tw9171072594746455290:=0
def tw4816745455436827549:=0
def tw5644420639615303460:=0
def tw6416805072708044538:=0
def tw1818132246819252469:=0
def tw1792562559347456486:=0
def tw4067400735804246760:=0
def tw3570565170835691716:=0
def tw16339788175170953099:=0
def tw887946428110066835:=0
def tw12626424019673884047:=0
def tw13527518295765973995:=0
def tw595686060341769501:=0
def tw3636243566506961932:=0
def tw8485914904162932286:=0
def tw4032741713469072775:=0
def tw13488570334149522142:=0
def tw16011702086035750277:=0
def tw4783542914703169188:=0
def tw9150687020063405368:=0
def tw13523192136051668236:=0
def tw12869567268602251641:=0
def tw15482469851480431198:=0
def tw9627902640256623941:=0
def tw8006295802820594202:=0
def tw10864535935658732043:=0
def tw13899519485894007797:=0
def tw8154118853558014928:=0
def tw11625422999515190557:=0
def tw150676484798896024:=0
def tw11963886498966062434:=0
def tw9194780887330388349:=0
def tw4555063377945927128:=0
def tw8001165746995901512:=0
def tw3236667550537658977:=0
def tw7841442992847624005:=0
def tw15081079453484851658:=0
def tw8977271348629763401:=0
def tw6122060866799483128:=0
def tw18002551528039821568:=0
def tw18019238380808961090:=0
def tw5962442640718564658:=0
def tw5386326376705323823:=0
def tw17954806236079970678:=0
def tw16963530497094902444:=0
def tw774885222271569733:=0
def tw18210032081927373727:=0
def tw4108372752232280962:=0
def tw7678774272095204026:=0
def tw17706268921545880801:=0
def tw4089817189126369244:=0
def tw15873730142805810277:=0
def tw15156648249671268422:=0
def tw18334119334332544232:=0
def tw6679498721976734087:=0
def tw7392854355037745770:=0
def tw14333567809932646408:=0
def tw8914580218016190197:=0
def tw10566942132112710902:=0
def tw13171671766020374306:=0
def tw3714703837918925528:=0
def tw2650835232679682591:=0
def tw11196221815193059990:=0
def tw6962867826189548481:=0
def tw13915430002215965015:=0
def tw2258722656351507356:=0
def tw3422086122853279568:=0
def tw14076126334451798735:=0
def tw18096022127457013661:=0
def tw1009920236162571622:=0
def tw61865676929695722:=0
def tw14311472120239979995:=0
def tw6352643967022758449:=0
def tw16936565430865619632:=0
def tw4735694397057663060:=0
def tw12557754891437309236:=0
def tw1378033392387365467:=0
def tw9944908592002905977:=0
def tw15585063682853988592:=0
def tw16868083890920116281:=0
def tw14036798982807735611:=0
def tw5040574075523521640:=0
def tw15266926841032694352:=0
def tw5248894050868577306:=0
def tw5795097954372405827:=0
def tw16742445941878046273:=0
def tw4115153502605681306:=0
def tw17176469362078734583:=0
def tw17211099847883630584:=0
def tw10125402624117541914:=0
def tw5014254917268615759:=0
def tw4145509935127707410:=0
def tw14500093409874144194:=0
def tw2251910551051196812:=0
def tw7936929801846776180:=0
def tw10160150831482457448:=0
def tw4866628381658789103:=0
def tw15137858755985411825:=0
def tw4237258642198446617:=0
def tw6998239809094424722:=0
def tw2394262872714635653:=0
def tw6834386570504217011:=0
def tw5342829645983754678:=0
def tw8891855940878349534:=0
def tw16233042908861404000:=0
def tw4938348148533709015:=0
def tw2991122418034058527:=0
def tw10903512775505591161:=0
def tw4605358187064114892:=0
def tw5627071892589442779:=0
def tw17319053431707575373:=0
def tw8431573526557381629:=0
def tw8467244310636860384:=0
def tw12190717906400206683:=0
def tw10920413497000509498:=0
def tw16665241943416358288:=0
def tw1662353825550588528:=0
def tw5069462599748914042:=0
def tw8908633472768938187:=0
def tw8684490907526548097:=0
def tw7711359203323104879:=0
def tw4081928376384514983:=0
def tw4339744446188634481:=0
def tw18024262545363637721:=0
def tw9653056907281057204:=0
def tw8197170922313695186:=0
def tw1373726383771723783:=0
def tw1245938113261234659:=0
def tw18257794075979858877:=0
def tw1466803922677434098:=0
def tw4154540751075068686:=0
def tw7591265408007775061:=0
def tw9810045662808129325:=0
def tw12499288241262077032:=0
def tw13007170343216272768:=0
def tw161055301331337054:=0
def tw9822805252773871664:=0
def tw18388455548832006275:=0
def tw12555865157710611903:=0
def tw9014556602634375190:=0
def tw17082653917806680257:=0
def tw1244839535455061087:=0
def tw6849528012204521421:=0
def tw18028573914298916961:=0
def tw15451230034714445652:=0
def tw18339126226338645997:=0
def tw10191243306991675917:=0
def tw10411356382195587363:=0
def tw15483712903530133142:=0
def tw6558779593365719035:=0
def tw17119326472897291755:=0
def tw3984418416059442986:=0
def tw4699608963650005727:=0
def tw4068492948767723330:=0
def tw9630570800298936547:=0
def tw8366891583907552251:=0
def tw13408379056803868958:=0
def tw6579986492835301440:=0
def tw9934238115029673575:=0
def tw7174855245710491894:=0
def tw5225372048919214223:=0
def tw8787559763414735508:=0
def tw5400803656855907560:=0
def tw959414722034361879:=0
def tw5430855489256861148:=0
def tw957194076306911084:=0
def tw11876670674273556266:=0
def tw9828397720443005592:=0
def tw10604705322772661319:=0
def tw1322537994242206879:=0
def tw16161780686505124326:=0
def tw5154848640074779932:=0
def tw8922104237712839400:=0
def tw13585813865842086235:=0
def tw5678665209156855649:=0
def tw11199987567263394393:=0
def tw596285791744939761:=0
def tw2662620587752047967:=0
def tw10074817934085901464:=0
def tw488053251058712120:=0
def tw15946158405959033612:=0
def tw17956275693478805249:=0
def tw4725932903398549506:=0
def tw11583900832403808319:=0
def tw2782301007270710848:=0
def tw3650267720593327331:=0
def tw3916187133101806849:=0
def tw11811691866893310408:=0
def tw6221407920836240676:=0
def tw311228719744788407:=0
def tw13530894497429581239:=0
def tw571467299291360730:=0
def tw13381836768297795485:=0
def tw5043303924797955844:=0
def tw12814231649890951630:=0
def tw7141756587922985594:=0
def tw15566881510181892557:=0
def tw1869454073242185406:=0
def tw6634287031303854248:=0
def tw9688010623271927937:=0
def tw7373329776123409810:=0
def tw17025060342955670822:=0
def tw16223919839580282852:=0
def tw11806824974136347550:=0
def tw5371307334543398565:=0
def tw3813103811095430556:=0
def tw9595326640625392521:=0
def tw9507228418671609993:=0
def tw14785360021363160244:=0
def tw12272587004341184816:=0
def tw3743542361257573602:=0
def tw13096712293499252981:=0
def tw18088751096803775153:=0
def tw9573980786359554177:=0
def tw990808529149720481:=0
def tw13916248398459467123:=0
def tw6474782265217438687:=0
def tw2756748652784558728:=0
def tw17693267936667689897:=0
def tw11918831656671174585:=0
def tw5943554533872879769:=0
def tw18036749006169021632:=0
def tw17277151416752930938:=0
def tw5494347495335858564:=0
def tw2427032952060923153:=0
def tw12437687134401408364:=0
def tw3667332571940785773:=0
def tw9359894722817795809:=0
def tw730627968428726448:=0
def tw8431555210900186132:=0
def tw4007344375253363609:=0
def tw2654233187219265721:=0
def tw14730569302234089880:=0
def tw7696662925534664434:=0
def tw15574768407587310761:=0
def tw14930156250513755599:=0
def tw3245567952904573576:=0
def tw2352472551064681888:=0
def tw12866782725192678276:=0
def tw6820847845618521894:=0
def tw14899722385067954513:=0
def tw3374282625640062564:=0
def tw5109870555974653596:=0
def tw10823205825300196071:=0
def tw13164324058951186623:=0
def tw8394267177174300267:=0
def tw5120263502773915428:=0
def tw17766322405839617721:=0
def tw16399748184660007304:=0
def tw8431795537896956646:=0
def tw5039954255933047583:=0
def tw11683909354554775223:=0
def tw2584653240843466845:=0
def tw175807526824831834:=0
def tw17729790549849702308:=0
def tw304016126541841278:=0
def tw15953834455545114911:=0
def tw13327506218754441316:=0
def tw14771568125336172795:=0
end PySem.W.Fast
open PySem PySem.W PyProof.Rows
set_option maxRecDepth 100000 in
set_option maxHeartbeats 0 in
theorem PySem.Challenge.cw_mumtrial_k33_whole_leaf_by_leaf_holds : PySem.Challenge.rw_mumtrial_k33_whole_leaf_by_leaf.Holds := by
 w_on;o_law;k_head;(case hw=>w_witness2)
 k_fill
 refine L2.walk_ofK (l:=PySem.Challenge.rw_mumtrial_k33_whole_leaf_by_leaf) (n:=63) (k:=9) (x:="script") (CX:=L2.CX0) (sp:=Mum.sp_law33) rfl (by decide) rfl ⟨rfl,by decide,by decide⟩ (fun w h Y=>PySem.W.kIn_of Y) ?F (fun _ _ a ns hl _ hS=>⟨a,ns,rfl,hS,hl,fun _=>rfl⟩) (fun _ _ _ _ z=>z)
 case F =>
  intro w mg fa h KX G hmg;refine' Mum.all_mk KX G hmg ?aC ?pg ?hd ?po ?sa ?mk ?kc ?na1 ?na2 ?na3 ?na4 ?na5 ?na6 ?na7 ?na8 ?z_all ?z_any ?z_dict ?z_enumerate ?z_int ?z_isinstance ?z_len ?z_list ?z_max ?z_range ?z_reversed ?z_tuple ?z_zip ?g_LETTERS ?r_LETTERS ?g_LONGEST_NAME ?r_LONGEST_NAME ?g_MOST_WORDS ?r_MOST_WORDS ?g_MOST_ROOMS ?r_MOST_ROOMS ?g_MOST_DOORS ?r_MOST_DOORS ?g_MOST_WITHIN ?r_MOST_WITHIN ?g_MOST_TRIALS ?r_MOST_TRIALS ?g_STILL ?l_STILL ?c_STILL ?d_STILL ?s_STILL ?v_STILL ?g_HUSH ?l_HUSH ?c_HUSH ?d_HUSH ?s_HUSH ?v_HUSH ?g_BLAME ?l_BLAME ?c_BLAME ?d_BLAME ?s_BLAME ?v_BLAME ?g_END ?l_END ?c_END ?d_END ?s_END ?v_END ?T
  (case aC|pg|hd|po|sa|mk|kc|na1|na2|na3|na4|na5|na6|na7|na8|z_all|z_any|z_dict|z_enumerate|z_int|z_isinstance|z_len|z_list|z_max|z_range|z_reversed|z_tuple|z_zip|g_LETTERS=>k_is)
  (case r_LETTERS=>exact⟨_,rfl⟩)
  (case g_LONGEST_NAME=>k_is)
  (case r_LONGEST_NAME=>exact⟨_,rfl⟩)
  (case g_MOST_WORDS=>k_is)
  (case r_MOST_WORDS=>exact⟨_,rfl⟩)
  (case g_MOST_ROOMS=>k_is)
  (case r_MOST_ROOMS=>exact⟨_,rfl⟩)
  (case g_MOST_DOORS=>k_is)
  (case r_MOST_DOORS=>exact⟨_,rfl⟩)
  (case g_MOST_WITHIN=>k_is)
  (case r_MOST_WITHIN=>exact⟨_,rfl⟩)
  (case g_MOST_TRIALS=>k_is)
  (case r_MOST_TRIALS=>exact⟨_,rfl⟩)
  (case g_STILL|l_STILL=>k_is)
  (case c_STILL|d_STILL=>rfl)
  (case s_STILL=>decide)
  (case v_STILL=>exact .cons ⟨_,rfl⟩ .nil)
  (case g_HUSH|l_HUSH=>k_is)
  (case c_HUSH|d_HUSH=>rfl)
  (case s_HUSH=>decide)
  (case v_HUSH=>exact .cons ⟨_,rfl⟩ .nil)
  (case g_BLAME|l_BLAME=>k_is)
  (case c_BLAME|d_BLAME=>rfl)
  (case s_BLAME=>decide)
  (case v_BLAME=>exact .cons ⟨_,rfl⟩ .nil)
  (case g_END|l_END=>k_is)
  (case c_END|d_END=>rfl)
  (case s_END=>decide)
  (case v_END=>exact .cons ⟨_,rfl⟩ .nil)
  (case T=>constructor<;>first|(refine' Mum.fnG_mk ?a ?l ?c ?k;(case a=>k_is);(case l=>k_is);(case c=>k_is);(case k=>k_is))|(refine' Mum.fnM_mk ?a ?i ?l ?c ?k;(case a=>k_is);(case i=>k_is);(case l=>k_is);(case c=>k_is);(case k=>k_is)))
