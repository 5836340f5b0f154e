
import PyProof.Rows.All
import Wide.All
import OpenK.AllK
import Wide.FinOn
import Lean
import PyProof.EqAt
import PyProof.EqKinds
import PyProof.TupleCall
import PyProof.NeKinds
import PyProof.RaisesMany
import PyProof.RulesAs
import PyProof.NsDelKeeps
import PyProof.InstStoreFacts
import PyProof.ExcClass3
import PyProof.ExcInit
import KE.KTryMore
import PyProof.AutoSeq1
import PyProof.WalkInts
import PyProof.DictIter
import PyProof.DictWalks
import PyProof.DictItems
import PyProof.DictItemsLoops
import KE.KPairComp
import PyProof.DictValues
import PyProof.SumAny
import PyProof.Rows.SumAny
import PyProof.Rows.RuleDivmod
import KE.KRevIter
import PyProof.TupleOfGen
import KE.KDictSum
import KE.IntBitsLaws
import PySem.Challenge.RW_mumtrial_k53_charges_step_by_step
noncomputable section
open PySem.Value renaming isStrOf->wc
open PySem renaming Program->bm,reduceHash->xf,wpAny_mono->hZ,wpAny_bind->ak,wpAny_specialOf->yZ,wpAny_call_entry->ue,wpAny_pure->aB,wpAny_rule->ml,Builtin->cf,wpAny_holding->ik,wpAny_truthy_bool->mj,sizeLine->aj,sysModules->fO,mainGlobals->bJ,bootBuiltins->jZ,starEach->aA,compareOp->cP,behindInMarks->hE,standAt->mh,holding->ie,wpAny_execs_nil->vA,swapsWith->mf,assignEach->pK,wpAny_passesOwn->nk,letOwnedTupleGo->vz,wpAny_pyIter_list->sE,foldedSetIterable->sD,binaryOp->md,sizeLine_eq->vy,getMethod->ma,codeAny->zzl72,attributeBase->pH,FuncData->ib,BindsTo->nj,codeAny_mono->sy,wpAny_Call_Name_kw->vv,callWith->pG,backToKw->jW,keywordEach->jV,NameKind->gE,mem_of_lookup->sw,getItem->jq,subscripted->qG,typeIs_str->qF,sliceBounds->jp,Keyword->lx,call_meets->qE,valueAt->jo,callerA->ir,DictEntry->iq,wpAny_newObj_type->nH,wpAny_dictEntries->qy,codeAny_builtin->qx,wpAny_typeOf->qv,wpAny_typeNameOfWhole_keyiter->qr,wpAny_typeNameOf_keyiter->qq,ItemsOf->nu
open PySem.Builtin.Tuple renaming tupleHashOf->uf
open Bool renaming false_ne_true->fN,not_true->sF,false_eq_true->io,eq_iff_iff->pI,and_eq_true->qC,true_and->nq
open Nat renaming add_assoc->vB,le_refl->az,lt_of_lt_of_le->ei,lt_irrefl->gH,ne_of_lt->bD,le_trans->aO,le_of_lt->dU,ne_of_gt->pJ,zero_le->cM,le_succ->vt,sub_zero->qt,mod_lt->nr
open List renaming append_nil->cR,range->jb,mem_filter->dh,mem_cons_self->cQ,mem_cons_of_mem->dO,mem_cons->cI,mem_append->aR,mem_append_left->cH,getElem?_eq_some_iff->bN,mem_append_right->cN,length_cons->eT,lookup->ic,map_cons->aY,length_map->af,nodup_cons->l9,length_take->aT,getElem?_append_left->sv,getElem?_map->gD,mem_of_getElem?->dJ,length_append->aW,length_drop->fj,size_toArray->bw,find?_cons->lp,any_cons->iu,nodup_nil->jn,lookup_cons->fQ,forIn_cons->qD,all_eq_true->nI,mem_map->aJ,any_toArray->qA,map_congr_left->lg,drop_zero->nF,take_length->aU,getElem?_eq_getElem->nE,all_cons->nD,all_map->nC,mem_singleton->bM,map_append->ar,nodup_append->cu,drop_of_length_le->lf,map_map->gU,map_drop->qi,take_of_length_le->qh,mem_of_mem_take->ff,append_assoc->dD,mem_map_of_mem->fP,length_filter_le->b_,filter_append->jl,filter_cons->k4,filter_congr->np,any_eq_true->nn
open Option.some renaming inj->di
open PySem.W renaming instObj->mi,lookIn->vx,plainGet->sC,hasDictIn->vw,findIn->dL,isFn->sB,makesIn->sA,emptyDict->jX,keepIn->gF,fnOf->h_,codeIn->ni,nsIn->cq,mg_of->gx,mg_none_of->gT
open PySem.Heap renaming lt_size->aP,SameBut->ig,get?_push_of_some->bj,get?_push_size->cO,get?_update_ne->qj
open PyProof.Rows renaming AllBare->jY,IntsAre->nJ,StrsAre->jm,tuples'->k_,listItems_at->qp,failedOf->ny,pendingOf->im,wpS_bind->bq,wpS_get->k9,wpS_pure->cc,wpS_forRange->k7,wpS_mono->qo,pairsOf->fh,sortedHeap->qk,pairsOf_size->nv
open Ne renaming symm->fw
open Array renaming length_toList->gf,getElem?_toList->lq,getElem?_eq_getElem->le
open False renaming elim->gG
open True renaming intro->l_
open Option renaming isSome_iff_exists->vq,map_some->nK
open Int renaming toNat_natCast->pF,emod_nonneg->k6,emod_lt_of_pos->k5,eq_ofNat_of_zero_le->ii
open PySem.Obj renaming mapSeq->dE
open PySem.Paired renaming snoc->dW
open ForInStep renaming yield->lh
open PySem.NameKind renaming free->ip
open PySem.SeqAt renaming EqAt->aI
open PySem.Builtin.Str renaming strSliceIndices->nG
open PySem.Txt renaming join->qz
open PySem.Heap.SameBut renaming update->nB
open PySem.Around renaming under_plainId->qw
open PySem.F renaming slot_dict_keyiterator_next->nA,plainAttrs_list->dC,slot_list_append->eo,type_list_append->em
open PySem.Builtin.List renaming listItems->nz
open Prod renaming snd->fg,fst->da
open PySem.PassesOwn renaming never->bg
theorem Q0:0<=PySem.sizeLine:=by decide
theorem Q1:1<=PySem.sizeLine:=by decide
theorem Q2:2<=PySem.sizeLine:=by decide
theorem Q3:3<=PySem.sizeLine:=by decide
theorem Q4:4<=PySem.sizeLine:=by decide
theorem Q6:6<=PySem.sizeLine:=by decide
theorem zzr0{p:Prop}[Decidable p](h:¬p):decide p=false:=decide_eq_false h
theorem zzr1{p:Prop}[Decidable p](h:p):decide p=true:=decide_eq_true h
abbrev Za:=PySem.W.Frag
abbrev Zb:=List PySem.Str
abbrev Zc:=PySem.Value->PySem.Shared->Prop
abbrev Zd:=List (PySem.Addr×PySem.Obj)
abbrev Ze:=List PySem.Addr
abbrev Zf:=List PySem.Value
section
set_option Elab.async false
set_option linter.all false
set_option maxRecDepth 100000
set_option maxHeartbeats 4000000
namespace L2
open PySem PySem.Spec PyProof.Rows
open Sem (wp)
abbrev dA:=Sum Int Str
def bY:dA->Value->Bool
 |.inl k,v=>Value.isInt k v
 |.inr x,v=>wc x v
def Be(w:World):dA->Int
 |.inl k=>hashInt k
 |.inr x=>hashStr w x
theorem ap:∀{k:dA}{v:Value},bY k v=true->(∃i t,k=Sum.inl i/\v=Value.int i t)∨(∃x t,k=Sum.inr x/\v=Value.str x t)
 |.inl i,v,h=>by
  obtain⟨t,e⟩:=Value.isInt_shape (k:=i) (v:=v) h;exact .inl ⟨i,t,rfl,e⟩
 |.inr x,v,h=>by
  obtain⟨t,e⟩:=Value.isStrOf_shape (x:=x) (v:=v) h;exact .inr ⟨x,t,rfl,e⟩
theorem iV(i:Int)(t:Tok):bY (.inl i) (.int i t)=true:=by simp[bY,Value.isInt]
theorem iU(x:Str)(t:Tok):bY (.inr x) (.str x t)=true:=by simp[bY,wc]
theorem rH(a b:Int):decide ((Sum.inl a:dA)=Sum.inl b)=(a==b):=by
 by_cases e:a=b
 ·subst e;simp
 ·have h:¬(Sum.inl a:dA)=Sum.inl b:=fun q=>e (Sum.inl.inj q);rw[zzr0 h];exact(beq_eq_false_iff_ne.mpr e).symm
theorem rD(a b:Str):decide ((Sum.inr a:dA)=Sum.inr b)=decide (a=b):=by
 by_cases e:a=b
 ·subst e;simp
 ·have h:¬(Sum.inr a:dA)=Sum.inr b:=fun q=>e (Sum.inr.inj q);rw[zzr0 h,zzr0 e]
theorem rG(a:Int)(b:Str):decide ((Sum.inl a:dA)=Sum.inr b)=false:=zzr0 (fun q=>nomatch q)
theorem rE(a:Str)(b:Int):decide ((Sum.inr a:dA)=Sum.inl b)=false:=zzr0 (fun q=>nomatch q)
def bG(prog:bm)(w:World):PySem.KeyKind prog w dA where
 is:=bY
 hash:=Be w
 inj:=fun v a b ha hb=>by
  rcases ap ha with⟨i,t,rfl,rfl⟩|⟨x,t,rfl,rfl⟩
  ·rcases ap hb with⟨j,u,rfl,e⟩|⟨y,u,rfl,e⟩
   ·injection e with e1 _;rw[e1]
   ·exact nomatch e
  ·rcases ap hb with⟨j,u,rfl,e⟩|⟨y,u,rfl,e⟩
   ·exact nomatch e
   ·injection e with e1 _;rw[e1]
 byValue:=fun k v h=>by
  rcases ap h with⟨i,t,rfl,rfl⟩|⟨x,t,rfl,rfl⟩<;>rfl
 pyHash:=fun hv h=>by
  rcases ap hv with⟨i,t,rfl,rfl⟩|⟨x,t,rfl,rfl⟩
  ·exact wpAny_pyHash_int h
  ·exact wpAny_pyHash_str h
 eqBool:=fun hu hv h=>by
  rcases ap hu with⟨i,t,rfl,rfl⟩|⟨x,t,rfl,rfl⟩
  ·rcases ap hv with⟨j,u,rfl,rfl⟩|⟨y,u,rfl,rfl⟩
   ·rw[rH]at h;exact wpAny_eqBool_int h
   ·rw[rG]at h;exact aI.int_str i t y u _ _ _ _ h
  ·rcases ap hv with⟨j,u,rfl,rfl⟩|⟨y,u,rfl,rfl⟩
   ·rw[rE]at h;exact aI.str_int x t j u _ _ _ _ h
   ·rw[rD]at h;exact wpAny_eqBool_str h
 «strs»:=fun k x t v h=>by
  rcases ap h with⟨i,u,rfl,e⟩|⟨y,u,rfl,e⟩
  ·exact nomatch e
  ·injection e with e1 _;subst e1;cases v<;>rfl
theorem tI(prog:bm)(w:World)(i:Int)(t:Tok):(bG prog w).is (.inl i) (.int i t)=true:=iV i t
theorem tH(prog:bm)(w:World)(x:Str)(t:Tok):(bG prog w).is (.inr x) (.str x t)=true:=iU x t
end L2
namespace L2
open PySem PySem.Spec PyProof.Rows
open Sem (wp)
abbrev jN:=Option dA
def fU:jN->Value->Bool
 |none,v=>match v with
  |.none=>true
  |_=>false
 |some k,v=>bY k v
def Ag(w:World):jN->Int
 |none=>xf 4238894112
 |some k=>Be w k
theorem bb:∀{k:jN}{v:Value},fU k v=true->(∃i t,k=some (Sum.inl i)/\v=Value.int i t)∨(∃x t,k=some (Sum.inr x)/\v=Value.str x t)∨(k=none/\v=Value.none)
 |none,v,h=>by
  refine .inr (.inr ⟨rfl,?_⟩);cases v<;>first|rfl|cases h
 |some k,v,h=>by
  rcases ap (show bY k v=true from h)with⟨i,t,rfl,rfl⟩|⟨i,t,rfl,rfl⟩
  ·exact .inl ⟨i,t,rfl,rfl⟩
  ·exact .inr (.inl ⟨i,t,rfl,rfl⟩)
theorem oz{a b:jN}{v:Value}(h1:fU a v=true)(h2:fU b v=true):a=b:=by
 rcases bb h1 with⟨i,t,rfl,rfl⟩|⟨i,t,rfl,rfl⟩|⟨rfl,rfl⟩<;>rcases bb h2 with⟨j,u,rfl,e⟩|⟨j,u,rfl,e⟩|⟨rfl,e⟩<;>first|rfl|(cases e;rfl)|cases e
def tG(prog:bm)(w:World):PySem.KeyKind prog w jN where
 is:=fU
 hash:=Ag w
 inj:=fun v a b ha hb=>oz ha hb
 byValue:=fun k v h=>by
  rcases bb h with⟨i,t,rfl,rfl⟩|⟨x,t,rfl,rfl⟩|⟨rfl,rfl⟩<;>rfl
 pyHash:=fun{A E s k v Q} hv h=>by
  rcases bb hv with⟨i,t,rfl,rfl⟩|⟨x,t,rfl,rfl⟩|⟨rfl,rfl⟩
  ·exact wpAny_pyHash_int h
  ·exact wpAny_pyHash_str h
  ·refine PySem.W.pyHash_slot (T:="NoneType") rfl F.slot_NoneType_hash F.entry_NoneType_hash (F.args_NoneType_hash_1 _) (by rw[beq_builtin_none]) (.inl rfl) ?_;show wpAny _ _ (retInt 4238894112) _ _ _;refine hZ (wpAny_ret_mkInt (Q:=fun v s'=>∃n t,v=Value.int n t/\Q (xf n) s') ⟨_,_,rfl,h⟩) (fun fin s' ⟨v,e,n,t,e2,q⟩=>⟨n,t,by rw[e,e2],q⟩) (fun _ _ z=>z)
 eqBool:=fun{A E s a b u v Q} hu hv h=>by
  rcases bb hu with⟨i,t,rfl,rfl⟩|⟨x,t,rfl,rfl⟩|⟨rfl,rfl⟩
  ·rcases bb hv with⟨j,u,rfl,rfl⟩|⟨y,u,rfl,rfl⟩|⟨rfl,rfl⟩
   ·exact(bG prog w).eqBool (a:=.inl i) (b:=.inl j) (iV i t) (iV j u) (by rw[show decide ((Sum.inl i:dA)=Sum.inl j)=decide ((some (Sum.inl i):jN)=some (Sum.inl j))from decide_eq_decide.mpr ⟨fun z=>by rw[z],fun z=>by injection z⟩];exact h)
   ·rw[zzr0 (by intro z;injection z with z;cases z)]at h;exact aI.int_str i t y u _ _ _ _ h
   ·rw[zzr0 (by intro z;cases z)]at h;exact aI.int_none i t _ _ _ _ h
  ·rcases bb hv with⟨j,u,rfl,rfl⟩|⟨y,u,rfl,rfl⟩|⟨rfl,rfl⟩
   ·rw[zzr0 (by intro z;injection z with z;cases z)]at h;exact aI.str_int x t j u _ _ _ _ h
   ·exact(bG prog w).eqBool (a:=.inr x) (b:=.inr y) (iU x t) (iU y u) (by rw[show decide ((Sum.inr x:dA)=Sum.inr y)=decide ((some (Sum.inr x):jN)=some (Sum.inr y))from decide_eq_decide.mpr ⟨fun z=>by rw[z],fun z=>by injection z⟩];exact h)
   ·rw[zzr0 (by intro z;cases z)]at h;exact aI.str_none x t _ _ _ _ h
  ·rcases bb hv with⟨j,u,rfl,rfl⟩|⟨y,u,rfl,rfl⟩|⟨rfl,rfl⟩
   ·rw[zzr0 (by intro z;cases z)]at h;exact aI.none_int j u _ _ _ _ h
   ·rw[zzr0 (by intro z;cases z)]at h;exact aI.none_str y u _ _ _ _ h
   ·rw[zzr1 rfl]at h;exact aI.same _ _ _ _ _ h
 «strs»:=fun k x t v h=>by
  rcases bb h with⟨i,u,rfl,e⟩|⟨y,u,rfl,e⟩|⟨rfl,e⟩
  ·exact nomatch e
  ·injection e with e1 _;subst e1;cases v<;>rfl
  ·exact nomatch e
inductive TK where
 |k (a:jN)
 |t (l:List TK)
mutual
def An:(x y:TK)->Decidable (x=y)
 |.k a,.k b=>if h:a=b then Decidable.isTrue (by rw[h])else Decidable.isFalse fun e=>h (by injection e)
 |.t l,.t m=>match decTKs l m with
  |Decidable.isTrue h=>Decidable.isTrue (by rw[h])
  |Decidable.isFalse h=>Decidable.isFalse fun e=>h (by injection e)
 |.k _,.t _=>Decidable.isFalse nofun
 |.t _,.k _=>Decidable.isFalse nofun
def decTKs:(x y:List TK)->Decidable (x=y)
 |[],[]=>Decidable.isTrue rfl
 |[],_::_=>Decidable.isFalse nofun
 |_::_,[]=>Decidable.isFalse nofun
 |a::l,b::m=>match An a b with
  |Decidable.isTrue h=>match decTKs l m with
   |Decidable.isTrue h'=>Decidable.isTrue (by rw[h,h'])
   |Decidable.isFalse h'=>Decidable.isFalse fun e=>h' (by injection e)
  |Decidable.isFalse h=>Decidable.isFalse fun e=>h (by injection e)
end
instance:DecidableEq TK:=An
mutual
def TK.depth:TK->Nat
 |.k _=>0
 |.t l=>TK.depths l+1
def TK.depths:List TK->Nat
 |[]=>0
 |a::r=>max (TK.depth a) (TK.depths r)
end
mutual
def TK.hash(w:World):TK->Int
 |.k a=>Ag w a
 |.t l=>xf (uf (TK.hashs w l))
def TK.hashs(w:World):List TK->List Int
 |[]=>[]
 |a::r=>TK.hash w a::TK.hashs w r
end
mutual
def TK.draws:TK->Nat
 |.k _=>1
 |.t l=>TK.drawss l+1
def TK.drawss:List TK->Nat
 |[]=>0
 |a::r=>TK.draws a+TK.drawss r
end
mutual
def i9(h:Heap):TK->Value->Prop
 |.k a,v=>fU a v=true
 |.t l,v=>∃a o items n,v=.ref a/\h.get? a=some o/\o.cls=.type "tuple"/\o.data=.seq items n/\TAts h l items.toList
def TAts(h:Heap):List TK->List Value->Prop
 |[],vs=>vs=[]
 |k::r,vs=>∃v us,vs=v::us/\i9 h k v/\TAts h r us
end
theorem i9.inj{h:Heap}:∀(d:Nat) {x y:TK}{v:Value},x.depth<=d->i9 h x v->i9 h y v->x=y:=by
 have key:∀(d:Nat) (ih:∀{x y:TK}{v:Value},x.depth<=d->i9 h x v->i9 h y v->x=y) (xs ys:List TK) (vs:Zf),TK.depths xs<=d->TAts h xs vs->TAts h ys vs->xs=ys:=by
  intro d ih xs
  induction xs with
  |nil =>
   intro ys vs _ hx hy;have hx':vs=[]:=hx;subst hx';cases ys with
   |nil=>rfl
   |cons y ys=>obtain⟨_,_,e,_⟩:=hy;cases e
  |cons x xs ihl =>
   intro ys vs hd hx hy;obtain⟨v,us,rfl,hx1,hx2⟩:=hx;cases ys with
   |nil=>have hy':v::us=[]:=hy;cases hy'
   |cons y ys =>
    obtain⟨v',us',e,hy1,hy2⟩:=hy;cases e;have hd':max x.depth (TK.depths xs)<=d:=hd;rw[ih (by omega) hx1 hy1,ihl ys us (by omega) hx2 hy2]
 have leaf:∀(a:jN) (l:List TK) (v:Value),i9 h (.k a) v->i9 h (.t l) v->False:=by
  intro a l v h1 h2;obtain⟨b,o,items,n,rfl,_⟩:=h2;rcases bb (show fU a (.ref b)=true from h1)with⟨_,_,_,e⟩|⟨_,_,_,e⟩|⟨_,e⟩<;>cases e
 have kk:∀(a b:jN) (v:Value),fU a v=true->fU b v=true->a=b:=fun a b v h1 h2=>oz h1 h2;intro d
 induction d with
 |zero =>
  intro x y v hd hx hy;cases x with
  |t l=>exact absurd hd (by show ¬(TK.depths l+1<=0);omega)
  |k a =>
   cases y with
   |k b=>rw[kk a b v hx hy]
   |t l=>exact(leaf a l v hx hy).elim
 |succ d ih =>
  intro x y v hd hx hy;cases x with
  |k a =>
   cases y with
   |k b=>rw[kk a b v hx hy]
   |t l=>exact(leaf a l v hx hy).elim
  |t l =>
   cases y with
   |k b=>exact(leaf b l v hy hx).elim
   |t l' =>
    obtain⟨a,o,items,n,rfl,ho,hc,hdt,hi⟩:=hx;obtain⟨a',o',items',n',e,ho',hc',hdt',hi'⟩:=hy;cases e;rw[ho]at ho';cases ho';rw[hdt]at hdt';injection hdt' with e1 _;subst e1;rw[key d (fun h1=>ih h1) l l' items.toList (by have:TK.depths l+1<=d+1:=hd;omega) hi hi']
theorem i9.mono{h h':Heap}(k:∀a o items n,h.get? a=some o->o.cls=.type "tuple"->o.data=.seq items n->h'.get? a=some o):∀(d:Nat) {x:TK}{v:Value},x.depth<=d->i9 h x v->i9 h' x v:=by
 have key:∀(d:Nat) (ih:∀{x:TK}{v:Value},x.depth<=d->i9 h x v->i9 h' x v) (xs:List TK) (vs:Zf),TK.depths xs<=d->TAts h xs vs->TAts h' xs vs:=by
  intro d ih xs
  induction xs with
  |nil=>intro vs _ hx;exact hx
  |cons x xs ihl =>
   intro vs hd hx;obtain⟨v,us,rfl,hx1,hx2⟩:=hx;have hd':max x.depth (TK.depths xs)<=d:=hd;exact⟨v,us,rfl,ih (by omega) hx1,ihl us (by omega) hx2⟩
 intro d
 induction d with
 |zero =>
  intro x v hd hx;cases x with
  |t l=>exact absurd hd (by show ¬(TK.depths l+1<=0);omega)
  |k a=>exact hx
 |succ d ih =>
  intro x v hd hx;cases x with
  |k a=>exact hx
  |t l =>
   obtain⟨a,o,items,n,rfl,ho,hc,hdt,hi⟩:=hx;exact⟨a,o,items,n,rfl,k a o items n ho hc hdt,hc,hdt,key d (fun h1=>ih h1) l _ (by have:TK.depths l+1<=d+1:=hd;omega) hi⟩
section
variable{prog:bm}{w:World}
theorem y8:∀(d:Nat) {A:Around}{E:Zc}{s:Shared}{k:TK}{v:Value}{Q:Int->Shared->Prop},k.depth<=d->A.units+d<cLine->i9 s.heap k v->Q (k.hash w) { s with toks:=s.toks+k.draws } ->
  wpAny (model prog w) A (pyHash v) Q E s:=by
 intro d
 induction d with
 |zero =>
  intro A E s k v Q hd hu hk h;cases k with
  |t l=>exact absurd hd (by show ¬(TK.depths l+1<=0);omega)
  |k a=>exact(tG prog w).pyHash (k:=a) hk h
 |succ d ih =>
  intro A E s k v Q hd hu hk h;cases k with
  |k a=>exact(tG prog w).pyHash (k:=a) hk h
  |t l =>
   obtain⟨a,o,items,n,rfl,ho,hc,hdt,hi⟩:=hk;have hT:s.TypeIs (.ref a) "tuple":=⟨o,ho,hc⟩;have hdl:TK.depths l<=d:=by have:TK.depths l+1<=d+1:=hd;omega
   unfold pyHash
   first|unfold pyHashByItsType|skip
   first|refine ak (wpAny_cRoomFor_or (.inr (by omega)) ?_)|skip
   refine ak (yZ hT F.slot_tuple_hash.lookup ?_);show wpAny _ _ (if(some (Value.builtin "tuple.__hash__")==some Value.none)=true then _ else _) Q E s
   rw[if_neg (by rw[beq_builtin_none];exact fN)];refine ak (yZ hT F.slot_tuple_hash.lookup ?_);show wpAny _ _ (callSpecialIfBoundUnlessNone? (.ref a) "__hash__" _ >>= _) Q E s;refine ak (wpAny_callSpecialIfBoundUnlessNone?_slot hT F.slot_tuple_hash (ue F.slot_tuple_hash hT F.entry_tuple_hash ?_ (F.args_tuple_hash_1 _)));show wpAny _ _ (cf.Tuple.tupleItemsOf (.ref a) >>= _) _ _ s;refine ak (wpAny_tupleItemsOf ho hdt ?_);refine ak ?_;rw[<-Array.forIn_toList];refine wpAny_forIn_list _
    (fun rest (b:Array Int) s'=>∃done left,l=done++left/\TAts s.heap left rest/\b.toList=TK.hashs w done/\s'={ s with toks:=s.toks+TK.drawss done })
    _ ?_ ?_ _ _ ⟨[],l,rfl,hi,rfl,rfl⟩
   ·rintro x rest b s' ⟨done,left,e,hl,hb,rfl⟩;cases left with
    |nil=>have hl':x::rest=[]:=hl;cases hl'
    |cons k' left =>
     obtain⟨x',rest',e',h1,h2⟩:=hl;cases e';have hdk:k'.depth<=d:=by
      have gen:∀(p:List TK),TK.depths (p++k'::left)<=d->k'.depth<=d:=by
       intro p
       induction p with
       |nil=>intro hp;have hp':max k'.depth (TK.depths left)<=d:=hp;omega
       |cons q p ihp=>intro hp;have hp':max q.depth (TK.depths (p++k'::left))<=d:=hp;exact ihp (by omega)
      exact gen done (by rw[<-e];exact hdl)
     have hs:TK.hashs w (done++[k'])=TK.hashs w done++[k'.hash w]:=by
      clear e hb
      induction done with
      |nil=>rfl
      |cons q p ihp=>show _::TK.hashs w (p++[k'])=_;rw[ihp];rfl
     have hdr:TK.drawss (done++[k'])=TK.drawss done+k'.draws:=by
      clear e hb hs
      induction done with
      |nil=>show k'.draws+0=0+k'.draws;omega
      |cons q p ihp=>show q.draws+TK.drawss (p++[k'])=q.draws+TK.drawss p+k'.draws;rw[ihp];omega
     refine ak (ih (k:=k') hdk (by show A.units+1+d<cLine;omega) h1 ?_)
     first
      |exact aB ⟨done++[k'],left,by rw[e];simp,h2,by rw[hs];simp[hb],by rw[hdr];simp[vB]⟩
      |exact ak (aB (aB ⟨done++[k'],left,by rw[e];simp,h2,by rw[hs];simp[hb],by rw[hdr];simp[vB]⟩))
   ·rintro b s' ⟨done,left,e,hl,hb,rfl⟩;cases left with
    |cons k' left=>obtain⟨_,_,e',_⟩:=hl;cases e'
    |nil =>
     rw[cR]at e;subst e;show wpAny _ _ (retInt (uf b.toList)) _ _ _;rw[hb];refine wpAny_ret_mkInt ?_;have h':Q (xf (uf (TK.hashs w l))) { s with toks:=s.toks+(TK.drawss l+1) }:=h;show wpAny _ _ (if(decide (-(2:Int) ^ 63<=uf (TK.hashs w l)) && decide (uf (TK.hashs w l)<2 ^ 63))=true then _ else _) Q E _
     unfold xf at h';by_cases hr:(decide (-(2:Int) ^ 63<=uf (TK.hashs w l)) && decide (uf (TK.hashs w l)<2 ^ 63))=true
     ·rw[if_pos hr];rw[if_pos hr]at h';exact aB (by simpa[vB]using h')
     ·rw[if_neg hr];rw[if_neg hr]at h';exact ak (ml (aB (by simpa[vB]using h')))
theorem wf(d:Nat)(ih:∀{A:Around}{E:Zc}{s:Shared}{x y:TK}{u v:Value}{Q:Bool->Shared->Prop},x.depth<=d->y.depth<=d->A.units+d<cLine->i9 s.heap x u->i9 s.heap y v->Q (decide (x=y)) s->wpAny (model prog w) A (eqBool u v) Q E s)
  {A:Around}{E:Zc}{s:Shared}{x y:List TK}{a b:Addr}{P:Fin->Shared->Prop}{oa ob:Obj}{xs ys:Array Value}{na nb:Nat}(hx:TK.depths x<=d) (hy:TK.depths y<=d) (hu:A.units+d<cLine)
  (hoa:s.heap.get? a=some oa) (hda:oa.data=.seq xs na) (hia:TAts s.heap x xs.toList) (hob:s.heap.get? b=some ob) (hcb:ob.cls=.type "tuple") (hdb:ob.data=.seq ys nb) (hib:TAts s.heap y ys.toList)
  (h:P (.done (.ret (.bool (decide (x=y))))) s):wpAny (model prog w) A (cf.«tuple.__eq__» ⟨[.ref a,.ref b],[]⟩) P E s:=by
 have hTb:s.TypeIs (.ref b) "tuple":=⟨ob,hob,hcb⟩;show wpAny _ _ (isInstance (.ref b) (.type "tuple") >>= _) _ _ s;refine ak (wpAny_isInstance hTb isSubtype_tuple_tuple ?_);simp only[sF,io,if_false];refine ak (wpAny_tupleItemsOf hoa hda ?_);refine ak (wpAny_tupleItemsOf hob hdb ?_);refine ak ?_;refine wpAny_forIn_list _
  (fun rest r s'=>r.1=none/\s'=s/\∃x' y' xs' ys',rest=List.zip xs' ys'/\TAts s.heap x' xs'/\TAts s.heap y' ys'/\TK.depths x'<=d/\TK.depths y'<=d/\decide (x'=y')=decide (x=y)/\(xs'.length==ys'.length)=(xs.size==ys.size))
  _ ?_ ?_ _ _ ⟨rfl,rfl,x,y,xs.toList,ys.toList,rfl,hia,hib,hx,hy,rfl,by simp⟩
 ·rintro⟨u,v⟩ rest r s' ⟨hr,rfl,x',y',xs',ys',hz,hx',hy',dx,dy,hdec,hlen⟩;cases x' with
  |nil =>
   have e:xs'=[]:=hx';subst e;simp at hz
  |cons k1 x'' =>
   obtain⟨u',xs'',rfl,h1,hx''⟩:=hx';cases y' with
   |nil =>
    have e:ys'=[]:=hy';subst e;simp at hz
   |cons k2 y'' =>
    obtain⟨v',ys'',rfl,h2,hy''⟩:=hy';simp only[List.zip_cons_cons,List.cons.injEq,Prod.mk.injEq]at hz;obtain⟨⟨rfl,rfl⟩,rfl⟩:=hz;have dx':max k1.depth (TK.depths x'')<=d:=dx;have dy':max k2.depth (TK.depths y'')<=d:=dy;refine ak (ih (x:=k1) (y:=k2) (by omega) (by omega) hu h1 h2 ?_);by_cases hk:k1=k2
    ·subst hk;rw[zzr1 rfl];simp only[sF,io,if_false];refine aB ⟨rfl,rfl,x'',y'',xs'',ys'',rfl,hx'',hy'',by omega,by omega,?_,by simpa using hlen⟩;rw[<-hdec];by_cases hxy:x''=y''
     ·simp[hxy]
     ·simp[hxy]
    ·rw[zzr0 hk];simp only[Bool.not_false,if_true];have hf:decide (x=y)=false:=by rw[<-hdec];simp[hk]
     rw[hf]at h;exact ak (aB (aB (aB h)))
 ·rintro⟨r1,r2⟩ s' ⟨hr,rfl,x',y',xs',ys',hz,hx',hy',dx,dy,hdec,hlen⟩;simp only at hr;subst hr;refine aB ?_;have hfin:(xs.size==ys.size)=decide (x=y):=by
   rw[<-hdec,<-hlen];cases x' with
   |nil =>
    have e:xs'=[]:=hx';subst e;cases y' with
    |nil=>have e:ys'=[]:=hy';subst e;simp
    |cons _ _=>obtain⟨_,_,rfl,_⟩:=hy';simp
   |cons _ _ =>
    obtain⟨_,_,rfl,_⟩:=hx';cases y' with
    |nil=>have e:ys'=[]:=hy';subst e;simp
    |cons _ _=>obtain⟨_,_,rfl,_⟩:=hy';simp at hz
  show P (.done (.ret (.bool (xs.size==ys.size)))) s';rw[hfin];exact h
theorem A4:∀(d:Nat) {A:Around}{E:Zc}{s:Shared}{x y:TK}{u v:Value}{Q:Bool->Shared->Prop},x.depth<=d->y.depth<=d->A.units+d<cLine->i9 s.heap x u->i9 s.heap y v->Q (decide (x=y)) s ->
  wpAny (model prog w) A (eqBool u v) Q E s:=by
 have mixed1:∀{A:Around}{E:Zc}{s:Shared}{a:jN}{l:List TK}{u v:Value}{Q:Bool->Shared->Prop},A.units<cLine->i9 s.heap (.k a) u->i9 s.heap (.t l) v->Q false s->wpAny (model prog w) A (eqBool u v) Q E s:=by
  intro A E s a l u v Q hu hx hy h;obtain⟨b,o,items,n,rfl,ho,hc,hdt,hi⟩:=hy;have ht:s.heap.IsTuple b items:=⟨o,ho,hc,n,hdt⟩;rcases bb (show fU a u=true from hx)with⟨i,t,rfl,rfl⟩|⟨i,t,rfl,rfl⟩|⟨rfl,rfl⟩
  ·exact aI.int_tuple i t ht hu prog w E Q h
  ·exact aI.str_tuple i t ht hu prog w E Q h
  ·exact aI.none_tuple ht hu prog w E Q h
 have mixed2:∀{A:Around}{E:Zc}{s:Shared}{a:jN}{l:List TK}{u v:Value}{Q:Bool->Shared->Prop},A.units<cLine->i9 s.heap (.t l) u->i9 s.heap (.k a) v->Q false s->wpAny (model prog w) A (eqBool u v) Q E s:=by
  intro A E s a l u v Q hu hx hy h;obtain⟨b,o,items,n,rfl,ho,hc,hdt,hi⟩:=hx;have ht:s.heap.IsTuple b items:=⟨o,ho,hc,n,hdt⟩;rcases bb (show fU a v=true from hy)with⟨i,t,rfl,rfl⟩|⟨i,t,rfl,rfl⟩|⟨rfl,rfl⟩
  ·exact aI.tuple_int i t ht hu prog w E Q h
  ·exact aI.tuple_str i t ht hu prog w E Q h
  ·exact aI.tuple_none ht hu prog w E Q h
 have leaves:∀{A:Around}{E:Zc}{s:Shared}{a b:jN}{u v:Value}{Q:Bool->Shared->Prop},i9 s.heap (.k a) u->i9 s.heap (.k b) v->Q (decide (TK.k a=TK.k b)) s->wpAny (model prog w) A (eqBool u v) Q E s:=by
  intro A E s a b u v Q hx hy h;refine(tG prog w).eqBool (a:=a) (b:=b) hx hy ?_;by_cases e:a=b
  ·subst e;simpa using h
  ·have:¬(TK.k a=TK.k b):=fun z=>e (by injection z);rw[zzr0 this]at h;rw[zzr0 e];exact h
 intro d
 induction d with
 |zero =>
  intro A E s x y u v Q hdx hdy hu hx hy h;cases x with
  |t l=>exact absurd hdx (by show ¬(TK.depths l+1<=0);omega)
  |k a =>
   cases y with
   |t l=>exact absurd hdy (by show ¬(TK.depths l+1<=0);omega)
   |k b=>exact leaves hx hy h
 |succ d ih =>
  intro A E s x y u v Q hdx hdy hu hx hy h;cases x with
  |k a =>
   cases y with
   |k b=>exact leaves hx hy h
   |t l =>
    rw[zzr0 (by intro z;cases z)]at h;exact mixed1 (by omega) hx hy h
  |t l =>
   cases y with
   |k b =>
    rw[zzr0 (by intro z;cases z)]at h;exact mixed2 (by omega) hx hy h
   |t m =>
    have hl:TK.depths l<=d:=by have:TK.depths l+1<=d+1:=hdx;omega
    have hm:TK.depths m<=d:=by have:TK.depths m+1<=d+1:=hdy;omega
    have hx0:=hx;have hy0:=hy;obtain⟨a,oa,xs,na,rfl,hoa,hca,hda,hia⟩:=hx;obtain⟨b,ob,ys,nb,rfl,hob,hcb,hdb,hib⟩:=hy;have hTa:s.TypeIs (.ref a) "tuple":=⟨oa,hoa,hca⟩;have hTb:s.TypeIs (.ref b) "tuple":=⟨ob,hob,hcb⟩;have hd':decide (TK.t l=TK.t m)=decide (l=m):=by
     by_cases e:l=m
     ·subst e;simp
     ·have:¬(TK.t l=TK.t m):=fun z=>e (by injection z);rw[zzr0 this,zzr0 e]
    unfold eqBool
    try with_reducible refine ik ?_
    show wpAny _ _ (if(Value.ref a==Value.ref b)=true then _ else _) Q E s
    by_cases hab:(Value.ref a==Value.ref b)=true
    ·rw[if_pos hab];have e:a=b:=by have:=eq_of_beq hab;injection this
     subst e;have e2:TK.t l=TK.t m:=i9.inj _ (az _) hx0 hy0;rw[zzr1 e2]at h;exact ak (ml (aB h))
    ·rw[if_neg hab];rw[hd']at h;exact ak (wpAny_richCompare_same_room (op:=.Eq) hTa hTb F.slot_tuple_eq
      (ue F.slot_tuple_eq hTa F.entry_tuple_eq (wf d (fun h1 h2 h3 h4 h5 h6=>ih h1 h2 h3 h4 h5 h6) hl hm (by show A.units+1+d<cLine;omega) hoa hda hia hob hcb hdb hib ⟨_,rfl,(fun e=>nomatch e),mj h⟩) (F.args_tuple_eq_2 _ _)) (by omega))
theorem xp:∀(d:Nat) {A:Around}{E:Zc}{s:Shared}{k:TK}{v:Value}{Q:Bool->Shared->Prop},k.depth<=d->i9 s.heap k v->Q true s->wpAny (model prog w) A (eqIsQuiet d v) Q E s:=by
 intro d
 induction d with
 |zero =>
  intro A E s k v Q hd hk h;cases k with
  |t l=>exact absurd hd (by show ¬(TK.depths l+1<=0);omega)
  |k a=>rw[eqIsQuiet_byValue _ ((tG prog w).byValue a v hk)];exact aB h
 |succ d ih =>
  intro A E s k v Q hd hk h;cases k with
  |k a=>rw[eqIsQuiet_byValue _ ((tG prog w).byValue a v hk)];exact aB h
  |t l =>
   have hl:TK.depths l<=d:=by have:TK.depths l+1<=d+1:=hd;omega
   obtain⟨a,o,items,n,rfl,ho,hc,hdt,hi⟩:=hk;have hT:s.TypeIs (.ref a) "tuple":=⟨o,ho,hc⟩;unfold eqIsQuiet;refine ak (yZ hT F.slot_tuple_eq.lookup ?_);show wpAny _ _ (isInstance (.ref a) (.type "tuple") >>= _) _ _ s;refine ak (wpAny_isInstance hT isSubtype_tuple_tuple ?_);simp only[sF,io,if_false];refine ak (wpAny_seqItems ho hdt ?_);refine ak ?_;show wpAny _ _ (forIn items _ _) _ _ s;rw[<-Array.forIn_toList];refine wpAny_forIn_list _ (fun rest r s'=>r.1=none/\s'=s/\∃left,TAts s.heap left rest/\TK.depths left<=d) _ ?_ ?_ _ _ ⟨rfl,rfl,l,hi,hl⟩
   ·rintro v rest r s' ⟨hr,rfl,left,hall,hdl⟩;cases left with
    |nil=>have e:v::rest=[]:=hall;cases e
    |cons k' left =>
     obtain⟨v',rest',e,h1,h2⟩:=hall;cases e;have hdl':max k'.depth (TK.depths left)<=d:=hdl;refine ak (ih (k:=k') (by omega) h1 ?_);simp only[sF,io,if_false];exact aB ⟨rfl,rfl,left,h2,by omega⟩
   ·rintro⟨r1,r2⟩ s' ⟨hr,rfl,_⟩;simp only at hr;subst hr;exact aB h
def dj(prog:bm)(w:World):HeapKind prog w TK where
 is:=fun h k a=>i9 h k (.ref a)/\k.depth<=8
 hash:=TK.hash w
 draws:=TK.draws
 room:=fun A=>A.units+8<cLine
 inj:=fun hx hy=>i9.inj 8 hx.2 hx.1 hy.1
 keeps:=fun{h h' k a d o es ep} x ho hd hs=>⟨i9.mono (fun b ob items n hb _ hdb=>(hs.2 b fun e=>by
  subst e;rw[ho]at hb;cases hb;rw[hd]at hdb;cases hdb).trans hb) 8 x.2 x.1,x.2⟩
 pyHash:=fun hu hk h=>y8 8 hk.2 hu hk.1 h
 eqBool:=fun hu hx hy h=>A4 8 hx.2 hy.2 hu hx.1 hy.1 h
 quiet:=fun hk h=>xp 8 hk.2 hk.1 h
end
end L2
namespace L2
open PySem PySem.Spec PyProof.Rows
inductive V where
 |non|bl (b:Bool)|int (i:Int)|str (x:Str)|byt (b:Array UInt8)|flt (b:UInt64)|ref (a:Addr)|ty (n:String)
 deriving DecidableEq
def RelV:V->Value->Prop
 |.non,u=>u=Value.none
 |.bl b,u=>u=Value.bool b
 |.int i,u=>∃t,u=Value.int i t
 |.str x,u=>∃t,u=Value.str x t
 |.byt b,u=>∃t,u=Value.bytes b t
 |.flt b,u=>∃t,u=Value.float b t
 |.ref a,u=>u=Value.ref a
 |.ty n,u=>u=Value.type n
abbrev aL:List V->List Value->Prop:=Paired RelV
theorem aL.length{xs:List V}{us:Zf}(r:aL xs us):xs.length=us.length:=Paired.length r
theorem aL.get:∀{xs:List V}{us:Zf}{i:Nat}{x:V},aL xs us->xs[i]?=some x->∃u,us[i]?=some u/\RelV x u
 |_,_,_,_,.nil,e=>by simp at e
 |_,_,0,_,.cons r _,e=>by simp at e;subst e;exact⟨_,rfl,r⟩
 |_,_,i+1,x,.cons _ t,e=>by
  obtain⟨u,h1,h2⟩:=aL.get (i:=i) (x:=x) t (by simpa using e);exact⟨u,by simpa using h1,h2⟩
theorem aL.set{x:V}{u:Value}(r:RelV x u):∀{xs:List V}{us:Zf}(i:Nat),aL xs us->aL (xs.set i x) (us.set i u)
 |_,_,_,.nil=>.nil
 |_,_,0,.cons _ t=>.cons r t
 |_,_,i+1,.cons q t=>.cons q (aL.set r i t)
theorem aL.append{xs ys:List V}{us ws:Zf}(h:aL xs us)(s:aL ys ws):aL (xs++ys) (us++ws):=by
 induction h with
 |nil=>exact s
 |cons r _ ih=>exact .cons r ih
theorem aL.take:∀{xs:List V}{us:Zf}(n:Nat),aL xs us->aL (xs.take n) (us.take n)
 |_,_,0,_=>.nil
 |_,_,_+1,.nil=>.nil
 |_,_,n+1,.cons r t=>.cons r (aL.take n t)
theorem aL.drop:∀{xs:List V}{us:Zf}(n:Nat),aL xs us->aL (xs.drop n) (us.drop n)
 |_,_,0,r=>r
 |_,_,_+1,.nil=>.nil
 |_,_,n+1,.cons _ t=>aL.drop n t
def h9:Option V->Option Value->Prop
 |some v,some u=>RelV v u
 |none,none=>True
 |_,_=>False
def KV{κ:Type}:List (κ×V)->List (κ×Value)->Prop:=Paired fun(p:κ×V) (q:κ×Value)=>p.1=q.1/\RelV p.2 q.2
def kV:dA->V
 |.inl i=>.int i
 |.inr x=>.str x
def Ah:jN->V
 |none=>.non
 |some k=>kV k
inductive HO where
 |lst (xs:List V)
 |tup (xs:List V)
 |dK (kvs:List (dA×V))|dT (kvs:List (TK×V))
 |set (S:Int->Bool) (n:Nat)
 |ins (C dx:Addr) (fs:List (Str×V))
 |own (x:Addr)
 |xd (fs:List (Str×V))
 |met (f x:Addr)
 |rng (lo hi:Int)
 |frz (o:Obj) (u:HO)
 |tbl (ps:Array Value)
 |ext (φ:Heap->Prop)
abbrev Hp:=Addr->Option HO
mutual
def fb(H:Hp):TK->V->Prop
 |.k a,v=>v=Ah a
 |.t l,v=>∃b xs,v=.ref b/\H b=some (.tup xs)/\TKAts H l xs
def TKAts(H:Hp):List TK->List V->Prop
 |[],vs=>vs=[]
 |k::r,vs=>∃v us,vs=v::us/\fb H k v/\TKAts H r us
end
def cG(K:Za)(H:Hp)(a:Addr)(xs:List V):Prop :=
 H a=some (.tup xs)∨∃(o:Obj) (its:Array Value) (n:Nat),K.lookup a=some o/\o.cls=.type "tuple"/\o.data=.seq its n/\its.size<=aj/\aL xs its.toList
theorem cG.keeps{K:Za}{H H':Hp}{a:Addr}{xs:List V}(h:cG K H a xs)(ht:∀b xs,H b=some (.tup xs)->H' b=some (.tup xs)):cG K H' a xs:=h.imp (ht a xs) id
mutual
def mR(K:Za)(H:Hp):TK->V->Prop
 |.k a,v=>v=Ah a
 |.t l,v=>∃b xs,v=.ref b/\cG K H b xs/\TKCs K H l xs
def TKCs(K:Za)(H:Hp):List TK->List V->Prop
 |[],vs=>vs=[]
 |k::r,vs=>∃v us,vs=v::us/\mR K H k v/\TKCs K H r us
end
theorem mR.keeps{K:Za}{H H':Hp}(ht:∀b xs,H b=some (.tup xs)->H' b=some (.tup xs)):∀(d:Nat) {k:TK}{v:V},k.depth<=d->mR K H k v->mR K H' k v:=by
 have key:∀(d:Nat) (ih:∀{k:TK}{v:V},k.depth<=d->mR K H k v->mR K H' k v) (xs:List TK) (vs:List V),TK.depths xs<=d->TKCs K H xs vs->TKCs K H' xs vs:=by
  intro d ih xs
  induction xs with
  |nil=>intro vs _ hx;exact hx
  |cons x xs ihl =>
   intro vs hd hx;obtain⟨v,us,rfl,hx1,hx2⟩:=hx;have hd':max x.depth (TK.depths xs)<=d:=hd;exact⟨v,us,rfl,ih (by omega) hx1,ihl us (by omega) hx2⟩
 intro d
 induction d with
 |zero =>
  intro k v hd hx;cases k with
  |t l=>exact absurd hd (by show ¬(TK.depths l+1<=0);omega)
  |k a=>exact hx
 |succ d ih =>
  intro k v hd hx;cases k with
  |k a=>exact hx
  |t l =>
   obtain⟨b,xs,rfl,hb,hi⟩:=hx;exact⟨b,xs,rfl,hb.keeps ht,key d (fun h1=>ih h1) l xs (by have:TK.depths l+1<=d+1:=hd;omega) hi⟩
theorem fb.c{K:Za}{H:Hp}:∀(d:Nat) {k:TK}{v:V},k.depth<=d->fb H k v->mR K H k v:=by
 have key:∀(d:Nat) (ih:∀{k:TK}{v:V},k.depth<=d->fb H k v->mR K H k v) (xs:List TK) (vs:List V),TK.depths xs<=d->TKAts H xs vs->TKCs K H xs vs:=by
  intro d ih xs
  induction xs with
  |nil=>intro vs _ hx;exact hx
  |cons x xs ihl =>
   intro vs hd hx;obtain⟨v,us,rfl,hx1,hx2⟩:=hx;have hd':max x.depth (TK.depths xs)<=d:=hd;exact⟨v,us,rfl,ih (by omega) hx1,ihl us (by omega) hx2⟩
 intro d
 induction d with
 |zero =>
  intro k v hd hx;cases k with
  |t l=>exact absurd hd (by show ¬(TK.depths l+1<=0);omega)
  |k a=>exact hx
 |succ d ih =>
  intro k v hd hx;cases k with
  |k a=>exact hx
  |t l =>
   obtain⟨b,xs,rfl,hb,hi⟩:=hx;exact⟨b,xs,rfl,.inl hb,key d (fun h1=>ih h1) l xs (by have:TK.depths l+1<=d+1:=hd;omega) hi⟩
def upd(H:Hp)(a:Addr)(o:HO):Hp:=fun b=>if b=a then some o else H b
theorem aa{H:Hp}{a:Addr}{o:HO}:upd H a o a=some o:=by unfold upd;rw[if_pos rfl]
theorem ai{H:Hp}{a b:Addr}{o:HO}(h:b≠a):upd H a o b=H b:=by unfold upd;rw[if_neg h]
theorem j1{H:Hp}{a:Addr}{o u:HO}:upd (upd H a o) a u=upd H a u:=by
 funext b;unfold upd;split<;>rfl
theorem yd{H:Hp}{a b:Addr}{o u:HO}(h:H a=some o)(h':H b=some u)(d:o≠u):a≠b:=by
 intro e;subst e;rw[h]at h';exact d (di h')
theorem ae{H:Hp}{a b:Addr}{o:HO}(h:H a=some o)(h':H b=none):a≠b:=by
 intro e;subst e;rw[h]at h';cases h'
section
variable(P:bm)(w:World)(K:Za)
def cj(H:Hp)(h:Heap)(a:Addr):HO->Prop
 |.lst xs=>xs.length<=aj/\∃(its:Zf) (n:Nat),aL xs its/\h.get? a=some { cls:=.type "list",data:=.seq its.toArray n }
 |.tup xs=>xs.length<=aj/\∃its:List Value,aL xs its/\IsTup h a its.toArray
 |.dK kvs=>kvs.length<=aj/\(a==fO)=false/\∃vs,KV kvs vs/\h.DictOf (bG P w) a vs
 |.dT kvs=>kvs.length<=aj/\(a==fO)=false/\∃xs:List (TK×Addr×Value),
   Paired (fun(p:TK×V) (q:TK×Addr×Value)=>p.1=q.1/\mR K H p.1 (.ref q.2.1)/\p.1.depth<=8/\RelV p.2 q.2.2) kvs xs /\
   ∃o es ep,h.get? a=some o/\o.ExactDict/\o.data=.dict es ep/\es.toList=xs.map (entryOfKey (dj P w))/\(xs.map (·.1)).Nodup
 |.set S n=>h.SetOf (intKind P w) a S n
 |.ins C dx fs=>H dx=some (.own a)/\fs.length<=1000/\dx≠a/\h.get? a=some (mi C dx) /\
   ∃mA,h.Ns1 dx mA/\(∀f,h9 (fs.lookup f) (mA f))/\PySem.Within mA (fs.map (·.1))
 |.own _=>∃o,h.get? a=some o
 |.xd fs=>∃mA,h.Ns1 a mA/\∀f,h9 (fs.lookup f) (mA f)
 |.rng lo hi=>∃t u v,h.get? a=some { cls:=.type "range",data:=.fields #[.int lo t,.int hi u,.int 1 v] }
 |.frz o u=>h.get? a=some o/\cj H h a u
 |.tbl ps=>h.get? a=some { cls:=.none,data:=.fields ps }
 |.met f x=>h.get? a=some (PySem.W.methodObj (.ref f) (.ref x))
 |.ext φ=>φ h/\(∃o,h.get? a=some o)/\∀h1 h2:Heap,φ h1->(∀o,h1.get? a=some o->h2.get? a=some o)->φ h2
def jh(H:Hp)(h:Heap):Prop:=∀a o,H a=some o->cj P w K H h a o
end
section
variable{P:bm}{w:World}{K:Za}{H H':Hp}{h h':Heap}{a:Addr}{o:HO}
theorem cj.lt(x:cj P w K H h a o):a<h.objs.size:=by
 cases o with
 |lst xs=>obtain⟨_,_,_,_,e⟩:=x;exact aP e
 |tup xs=>obtain⟨_,_,_,p⟩:=x;exact p.lt
 |dK kvs=>obtain⟨_,_,_,_,o,_,_,e,_⟩:=x;exact aP e
 |dT kvs=>obtain⟨_,_,_,_,o,_,_,e,_⟩:=x;exact aP e
 |set S n=>obtain⟨o,_,_,_,e,_⟩:=x;exact aP e
 |ins C dx fs=>obtain⟨_,_,_,e,_⟩:=x;exact aP e
 |own y=>obtain⟨_,e⟩:=x;exact aP e
 |xd fs=>obtain⟨_,⟨_,_,_,e,_⟩,_⟩:=x;exact aP e
 |rng lo hi=>obtain⟨_,_,_,e⟩:=x;exact aP e
 |frz ob u=>obtain⟨e,_⟩:=x;exact aP e
 |tbl ps=>exact aP (show h.get? a=some _ from x)
 |met f y=>exact aP (show h.get? a=some _ from x)
 |ext φ=>obtain⟨_,⟨_,e⟩,_⟩:=x;exact aP e
theorem Paired.mapP{α β:Type}{F G:α->β->Prop}{l₁:List α}{l₂:List β}(h:Paired F l₁ l₂)(f:∀a b,F a b->G a b):Paired G l₁ l₂:=by
 induction h with
 |nil=>exact .nil
 |cons r _ ih=>exact .cons (f _ _ r) ih
theorem cj.stay(x:cj P w K H h a o)(k:∀b u,(b=a∨H b=some (.own a))->h.get? b=some u->h'.get? b=some u)
  (ho:∀b,H b=some (.own a)->H' b=some (.own a)) (ht:∀b xs,H b=some (.tup xs)->H' b=some (.tup xs)):cj P w K H' h' a o:=by
 induction o with
 |lst xs=>obtain⟨z,its,n,r,e⟩:=x;exact⟨z,its,n,r,k _ _ (.inl rfl) e⟩
 |tup xs=>obtain⟨z,its,r,ob,e,c⟩:=x;exact⟨z,its,r,ob,k _ _ (.inl rfl) e,c⟩
 |dK kvs=>obtain⟨z,y,vs,r,ob,es,ep,e,c⟩:=x;exact⟨z,y,vs,r,ob,es,ep,k _ _ (.inl rfl) e,c⟩
 |dT kvs =>
  obtain⟨z,y,xs,r,ob,es,ep,e,c⟩:=x;exact⟨z,y,xs,Paired.mapP r fun p q z=>⟨z.1,mR.keeps ht 8 z.2.2.1 z.2.1,z.2.2⟩,ob,es,ep,k _ _ (.inl rfl) e,c⟩
 |set S n=>obtain⟨ob,es,ep,t,e,c⟩:=x;exact⟨ob,es,ep,t,k _ _ (.inl rfl) e,c⟩
 |ins C dx fs =>
  obtain⟨d,z,ne,e,mA,⟨od,es,ep,e2,c⟩,r⟩:=x;exact⟨ho _ d,z,ne,k _ _ (.inl rfl) e,mA,⟨od,es,ep,k _ _ (.inr d) e2,c⟩,r⟩
 |own y=>obtain⟨ob,e⟩:=x;exact⟨ob,k _ _ (.inl rfl) e⟩
 |xd fs=>obtain⟨mA,⟨od,es,ep,e,c⟩,r⟩:=x;exact⟨mA,⟨od,es,ep,k _ _ (.inl rfl) e,c⟩,r⟩
 |rng lo hi=>obtain⟨t,u,v,e⟩:=x;exact⟨t,u,v,k _ _ (.inl rfl) e⟩
 |frz ob u ih=>obtain⟨e,q⟩:=x;exact⟨k _ _ (.inl rfl) e,ih q⟩
 |tbl ps =>
  have e:h.get? a=some { cls:=.none,data:=.fields ps }:=x;show h'.get? a=some { cls:=.none,data:=.fields ps };exact k a _ (.inl rfl) e
 |met f y =>
  have e:h.get? a=some (PySem.W.methodObj (.ref f) (.ref y)):=x;show h'.get? a=some (PySem.W.methodObj (.ref f) (.ref y));exact k a _ (.inl rfl) e
 |ext φ=>obtain⟨p,⟨o,e⟩,st⟩:=x;exact⟨st _ _ p fun o q=>k _ _ (.inl rfl) q,⟨o,k _ _ (.inl rfl) e⟩,st⟩
theorem jh.lt(x:jh P w K H h)(e:H a=some o):a<h.objs.size:=(x a o e).lt
theorem jh.fresh(x:jh P w K H h)(e:h.objs.size<=a):H a=none:=by
 cases q:H a with
 |none=>rfl
 |some u=>exact absurd (ei (x.lt q) e) (gH _)
theorem jh.kept(x:jh P w K H h)(k:∀b u,h.get? b=some u->h'.get? b=some u):jh P w K H h':=fun a o e =>
 (x a o e).stay (fun b u _ q=>k b u q) (fun _ q=>q) fun _ _ q=>q
theorem jh.laid(x:jh P w K H h)(k:∀b u,h.get? b=some u->h'.get? b=some u)(hp:h.objs.size<=a)(new:cj P w K (upd H a o) h' a o):jh P w K (upd H a o) h':=fun b u e=>by
 have hn:=x.fresh hp;by_cases hb:b=a
 ·subst hb;rw[aa]at e;cases e;exact new
 ·rw[ai hb]at e;exact(x b u e).stay (fun c v _ q=>k c v q) (fun c q=>by rw[ai (ae q hn)];exact q) fun c xs q=>by rw[ai (ae q hn)];exact q
end
def Rd(H:Hp)(a:Addr)(u:HO):Prop:=H a=some u∨∃o,H a=some (.frz o u)
theorem Rd.ok{P:bm}{w:World}{K:Za}{H:Hp}{h:Heap}{a:Addr}{u:HO}(r:Rd H a u)(x:jh P w K H h):cj P w K H h a u:=by
 rcases r with r|⟨o,r⟩
 ·exact x a u r
 ·obtain⟨_,q⟩:=x a _ r;exact q
def Bk:Option HO->Prop
 |some (.lst _)=>True
 |some (.dK _)=>True
 |some (.dT _)=>True
 |some (.set _ _)=>True
 |some (.ins _ _ _)=>True
 |some (.ext _)=>True
 |_=>False
section
variable{P:bm}{w:World}{K:Za}{H:Hp}{h h':Heap}{x e:Addr}{o':HO}
theorem jh.write(ok:jh P w K H h)(mu:Bk (H x))(he:e=x∨H e=some (.own x))(k:∀b u,b≠e->h.get? b=some u->h'.get? b=some u)(heo:∃u,h'.get? e=some u)
  (new:cj P w K (upd H x o') h' x o'):jh P w K (upd H x o') h':=fun b u q=>by
 have nown:∀c y,H c=some (.own y)->c≠x:=fun c y r z=>by subst z;rw[r]at mu;exact mu
 have ntup:∀c xs,H c=some (.tup xs)->c≠x:=fun c xs r z=>by subst z;rw[r]at mu;exact mu
 by_cases hb:b=x
 ·subst hb;rw[aa]at q;cases q;exact new
 ·rw[ai hb]at q;by_cases hbe:b=e
  ·have q':H b=some (.own x):=by
    rcases he with z|z
    ·exact absurd (hbe.trans z) hb
    ·rw[hbe];exact z
   rw[q]at q';cases q';obtain⟨v,hv⟩:=heo;exact⟨v,by rw[hbe];exact hv⟩
  ·refine(ok b u q).stay (fun c v hc r=>k c v ?_ r) (fun c r=>by rw[ai (nown c b r)];exact r) fun c xs r=>by rw[ai (ntup c xs r)];exact r
   rcases hc with rfl|hc
   ·exact hbe
   ·rintro rfl;rcases he with z|z
    ·exact nown c b hc z
    ·rw[hc]at z;cases z;exact hb rfl
end
structure Un(fs ex:Ze)(H H':Hp)(h h':Heap):Prop where
 keep:∀b o,h.get? b=some o->H b=none->b∉fs->b∉ex->h'.get? b=some o
 slot:∀b o,h.get? b=some o->H b=none->b∈fs->b∉ex->∃sl,h'.get? b=some { o with slots:=sl }
 free:∀b o,h.get? b=some o->H b=none->b∉ex->H' b=none
 there:∀b o,h.get? b=some o->b∉ex->∃o',h'.get? b=some o'
 tups:∀b xs,H b=some (.tup xs)->H' b=some (.tup xs)
 frzs:∀b o u,H b=some (.frz o u)->H' b=some (.frz o u)
 tbls:∀b ps,H b=some (.tbl ps)->∃more,H' b=some (.tbl (ps++more))
section
variable{fs fs' ex ex':Ze}{H H1 H2:Hp}{h h1 h2 h':Heap}{a x e:Addr}{o:HO}
theorem Un.any(u:Un fs ex H H1 h h1){b:Addr}{ob:Obj}(q:h.get? b=some ob)(n:H b=none)(hx:b∉ex):∃sl,h1.get? b=some { ob with slots:=sl }:=by
 by_cases hb:b∈fs
 ·exact u.slot b ob q n hb hx
 ·exact⟨ob.slots,u.keep b ob q n hb hx⟩
theorem Un.kept(k:∀b u,h.get? b=some u->h'.get? b=some u):Un fs ex H H h h' :=
 ⟨fun b ob q _ _ _=>k b ob q,fun b ob q _ _ _=>⟨ob.slots,k b ob q⟩,fun _ _ _ n _=>n,fun b ob q _=>⟨ob,k b ob q⟩,fun _ _ q=>q,fun _ _ _ q=>q,fun _ ps q=>⟨#[],by rw[q];simp⟩⟩
theorem Un.refl:Un fs ex H H h h:=Un.kept fun _ _ q=>q
theorem Un.laid(k:∀b u,h.get? b=some u->h'.get? b=some u)(hp:h.objs.size<=a)(hn:H a=none):Un fs ex H (upd H a o) h h' where
 keep:=fun b u q _ _ _=>k b u q
 slot:=fun b u q _ _ _=>⟨u.slots,k b u q⟩
 free:=fun b u q n _=>by rw[ai (bD (ei (aP q) hp))];exact n
 there:=fun b u q _=>⟨u,k b u q⟩
 tups:=fun b xs q=>by rw[ai (ae q hn)];exact q
 frzs:=fun b u xs q=>by rw[ai (ae q hn)];exact q
 tbls:=fun b ps q=>⟨#[],by rw[ai (ae q hn),q];simp⟩
theorem Un.write(mu:Bk (H x))(he:e=x∨H e=some (.own x))(k:∀b u,b≠e->h.get? b=some u->h'.get? b=some u)(heo:∃u,h'.get? e=some u):Un fs ex H (upd H x o) h h':=by
 have hx:∀b,H b=none->b≠x:=fun b n z=>by subst z;rw[n]at mu;exact mu
 have hb:∀b,H b=none->b≠e:=fun b n z=>by
  subst z;rcases he with r|r
  ·exact hx b n r
  ·rw[n]at r;cases r
 have hm:∀b u,H b=some u->¬Bk (some u)->b≠x:=fun b u q nm z=>by subst z;rw[q]at mu;exact nm mu
 refine⟨fun b u q n _ _=>k b u (hb b n) q,fun b u q n _ _=>⟨u.slots,k b u (hb b n) q⟩,fun b u q n _=>by rw[ai (hx b n)];exact n,fun b u q _=>?_,
  fun b xs q=>by rw[ai (hm b _ q fun z=>z)];exact q,fun b u xs q=>by rw[ai (hm b _ q fun z=>z)];exact q,fun b ps q=>⟨#[],by rw[ai (hm b _ q fun z=>z),q];simp⟩⟩
 by_cases hbe:b=e
 ·subst hbe;exact heo
 ·exact⟨u,k b u hbe q⟩
end
def Br(h:Heap)(H:Hp):List Addr:=(jb h.objs.size).filter fun a=>(H a).isSome
def rM(h:Heap)(H:Hp):Heap:=PySem.W.hideAll h (Br h H)
theorem wK(h:Heap)(H:Hp):(rM h H).objs.size=h.objs.size:=PySem.W.hideAll_size _ _
theorem ym{h:Heap}{H:Hp}{b:Addr}{o:Obj}(e:h.get? b=some o)(n:H b=none):(rM h H).get? b=some o :=
 PySem.W.hideAll_get _ e fun hm=>by
  have q:(H b).isSome=true:=(dh.mp hm).2;rw[n]at q;simp at q
theorem zP{h:Heap}{H:Hp}{b:Addr}{o:Obj}(e:(rM h H).get? b=some o):h.get? b=some o/\H b=none:=by
 have e':h.get? b=some o:=PySem.W.of_hideAll (Br h H) e;refine⟨e',?_⟩;cases q:H b with
 |none=>rfl
 |some x =>
  have hm:b∈Br h H:=dh.mpr ⟨List.mem_range.mpr (aP e'),by simp[q]⟩;have z:(rM h H).get? b=none:=PySem.W.hideAll_none (Br h H) hm;rw[z]at e;cases e
end L2
namespace L2
open PySem PySem.Spec PyProof.Rows
structure Mod(K:Za)(mg:Str->Option Value)(base:Heap):Prop where
 kin:K.In base
 glob:base.Ns bJ mg
 blt:∃mb,base.Ns builtinsNs mb/\∀x:Str,x≠"__name__"->mb x=jZ x
 nolimit:base.NoLimit
structure Cx where
 prog:bm
 w:World
 K:Za
 mg:Str->Option Value
 base:Heap
 A:Around
 N:List Str
 s₀:Shared
 H₀:Hp
 env:Env
 outer:List Env
 stack:List Env
 ex:List Addr
 fn:Str->Bool
 calm:Bool
 pn:List (Addr×Obj)
 xe:Value->Shared->Prop
def w_(l:List Env):List Addr:=l.filterMap (·.frame)
abbrev Cx.fs(X:Cx):List Addr:=w_ X.outer
def Vis(sc:Scope)(x:Str):Prop:=sc.names.lookup x=some .local∨sc.names.lookup x=some .cell∨sc.names.lookup x=some .free
def Loc(sc:Scope)(x:Str):Prop:=sc.names.lookup x=some .local∨sc.names.lookup x=some .cell
def Look(env:Env)(h:Heap)(m:Str->Option Value)(x:Str)(u:Value):Prop :=
 (env.kindOf x=some .local/\m x=some u)∨((env.kindOf x=some .cell∨env.kindOf x=some .free)/\∃c,env.cells.lookup x=some c/\h.IsCell c (some u))
structure Cx.Ok(X:Cx):Prop where
 mod:Mod X.K X.mg X.base
 kind:X.env.scope.kind=.function
 glob:X.env.globals=bJ
 blt:X.env.builtins=builtinsNs
 above:X.s₀.heap.objs.size<=X.env.locals
 inj:∀x y c,X.env.cells.lookup x=some c->X.env.cells.lookup y=some c->x=y
 has:∀x,(X.env.kindOf x=some .cell∨X.env.kindOf x=some .free)->∃c,X.env.cells.lookup x=some c
 cab:∀x c,X.fn x=true->X.env.cells.lookup x=some c->X.s₀.heap.objs.size<=c
 hd:X.calm=true->X.A.handled=none
 frames:X.A.frames=some X.stack
 stk:X.stack=X.outer∨(X.stack=X.env::X.outer/\X.env.frame=some X.env.locals)
 exf:∀b∈X.ex,b≠X.env.locals/\∀x c,X.env.cells.lookup x=some c->c≠b
 bs:∀b o,X.base.get? b=some o->X.s₀.heap.get? b=some o/\X.H₀ b=none
 bsz:X.base.objs.size<=X.s₀.heap.objs.size
 noex:∀b o,X.base.get? b=some o->b∉X.ex
 exfs:∀b∈X.ex,b∉X.fs
 funs:X.s₀.heap.FunFrames X.base X.outer
 frf:∀b∈X.fs,X.H₀ b=none
structure Inv(X:Cx)(J3:Zd)(σ:List (Option V))(H:Hp)(s:Shared):Prop where
 ok:X.Ok
 os:s.os=X.s₀.os
 bare:jY s.gens
 base:Un X.fs X.ex X.H₀ H X.s₀.heap s.heap
 loc:∃m,s.heap.Ns X.env.locals m/\∀(i:Nat) (x:Str) (v:V),X.N[i]?=some x->σ[i]?=some (some v)->Vis X.env.scope x->∃u,RelV v u/\Look X.env s.heap m x u
 cell:∀x c,X.env.cells.lookup x=some c->∃v,s.heap.IsCell c v
 free:H X.env.locals=none
 freeC:∀x c,X.env.cells.lookup x=some c->H c=none
 pin:∀p∈X.pn++J3,s.heap.get? p.1=some p.2/\H p.1=none/\p.1≠X.env.locals/\p.1∉X.fs/\∀v,p.2.data≠.cell v
 hok:jh X.prog X.w X.K H s.heap
 len:σ.length=X.N.length
section
variable{X:Cx}{J3:Zd}{σ:List (Option V)}{H H':Hp}{s:Shared}{h':Heap}
theorem Cx.Ok.nofr(ok:X.Ok){b:Addr}{o:Obj}(e:X.base.get? b=some o):b∉X.fs:=fun hb=>by
 have:=(ok.funs.mem hb).1;rw[e]at this;cases this
theorem Inv.bs(I:Inv X J3 σ H s):∀b o,X.base.get? b=some o->s.heap.get? b=some o/\H b=none:=fun b o e =>
 ⟨I.base.keep b o (I.ok.bs b o e).1 (I.ok.bs b o e).2 (I.ok.nofr e) (I.ok.noex b o e),I.base.free b o (I.ok.bs b o e).1 (I.ok.bs b o e).2 (I.ok.noex b o e)⟩
theorem Inv.bk(I:Inv X J3 σ H s):∀b o,X.base.get? b=some o->s.heap.get? b=some o:=fun b o e=>(I.bs b o e).1
theorem Inv.mod(I:Inv X J3 σ H s):Mod X.K X.mg X.base:=I.ok.mod
theorem Inv.kIn(I:Inv X J3 σ H s):X.K.In s.heap:=I.ok.mod.kin.keeps I.bk
theorem Inv.fr(I:Inv X J3 σ H s):∃m,Fr X.base X.env.locals s.heap m :=
 let⟨m,hn,_⟩:=I.loc
 ⟨m,hn,I.bk,aO I.ok.bsz I.ok.above⟩
theorem Inv.lt(I:Inv X J3 σ H s):X.env.locals<s.heap.objs.size:=let⟨_,hn,_⟩:=I.loc;hn.lt
theorem Inv.sz(I:Inv X J3 σ H s):X.s₀.heap.objs.size<=s.heap.objs.size:=aO I.ok.above (dU I.lt)
theorem Inv.nofs(I:Inv X J3 σ H s){a:Addr}(h:s.heap.objs.size<=a):a∉X.fs:=fun hb=>by
 obtain⟨_,o,ho,_⟩:=I.ok.funs.mem hb;exact absurd (ei (aP ho) (aO I.sz h)) (gH _)
theorem Inv.cne(I:Inv X J3 σ H s):∀x c,X.env.cells.lookup x=some c->c≠X.env.locals:=fun x c e z=>by
 obtain⟨v,o,ho,hd⟩:=I.cell x c e;obtain⟨m,⟨o',es,ep,ho',hd',_⟩,_⟩:=I.loc;rw[z,ho']at ho;cases ho;rw[hd']at hd;cases hd
theorem Inv.funs(I:Inv X J3 σ H s):s.heap.FunFrames X.base X.outer:=by
 have all:∀(l:List Env),(∀b∈w_ l,b∈X.fs)->X.s₀.heap.FunFrames X.base l->s.heap.FunFrames X.base l:=by
  intro l
  induction l with
  |nil=>intro _ _;trivial
  |cons env r ih =>
   intro hs hl;obtain⟨hk,⟨L,o,hf,hn,ho,hd⟩,hr⟩:=hl;have hL:L∈X.fs:=hs L (by unfold w_;rw[List.filterMap_cons,hf];exact cQ);obtain⟨sl,e⟩:=I.base.slot L o ho (I.ok.frf L hL) hL fun z=>I.ok.exfs L z hL;exact⟨hk,⟨L,_,hf,hn,e,hd⟩,ih (fun b hb=>hs b (by unfold w_;rw[List.filterMap_cons,hf];exact dO _ hb)) hr⟩
 exact all X.outer (fun _ hb=>hb) I.ok.funs
theorem Inv.stack(I:Inv X J3 σ H s):s.heap.FunFrames X.base X.stack:=by
 rcases I.ok.stk with e|⟨e,hf⟩
 ·rw[e];exact I.funs
 ·rw[e];obtain⟨m,hn,_⟩:=I.loc;refine .cons (by rw[I.ok.kind];decide) hf hn ?_ I.funs;exact Heap.get?_none_of_le (aO I.ok.bsz I.ok.above)
theorem Inv.stkSub(I:Inv X J3 σ H s):∀b∈w_ X.stack,b∈X.env.locals::X.fs:=fun b hb=>by
 rcases I.ok.stk with e|⟨e,hf⟩
 ·rw[e]at hb;exact dO _ hb
 ·rw[e]at hb;unfold w_ at hb;rw[List.filterMap_cons,hf]at hb;exact hb
theorem Inv.stkFree(I:Inv X J3 σ H s):∀b∈w_ X.stack,H b=none:=fun b hb=>by
 rcases cI.mp (I.stkSub b hb)with e|hb
 ·rw[e];exact I.free
 ·obtain⟨_,o,ho,_⟩:=I.ok.funs.mem hb;exact I.base.free b o ho (I.ok.frf b hb) fun z=>I.ok.exfs b z hb
theorem Inv.step{g':Array GenState}{t':Nat}{d':Drawn}{ch:Ze}(I:Inv X J3 σ H s)
  (hch:∀b∈ch,(b∈X.ex∨X.s₀.heap.objs.size<=b)/\b≠X.env.locals/\(∀x c,X.env.cells.lookup x=some c->c≠b)/\∀p∈X.pn++J3,p.1≠b)
  (keep:∀b o,b≠X.env.locals->b∉X.fs->b∉ch->s.heap.get? b=some o->H b=none->h'.get? b=some o)
  (slot:∀b o,b≠X.env.locals->b∈X.fs->b∉ch->s.heap.get? b=some o->H b=none->∃sl,h'.get? b=some { o with slots:=sl }) (free:∀b o,b∉ch->s.heap.get? b=some o->H b=none->H' b=none)
  (there:∀b o,b∉ch->s.heap.get? b=some o->∃o',h'.get? b=some o')
  (tups:∀b xs,H b=some (.tup xs)->H' b=some (.tup xs)) (frzs:∀b o u,H b=some (.frz o u)->H' b=some (.frz o u)) (tbls:∀b ps,H b=some (.tbl ps)->∃more,H' b=some (.tbl (ps++more)))
  (ns:∀m,s.heap.Ns X.env.locals m->h'.Ns X.env.locals m) (hok:jh X.prog X.w X.K H' h') (hg:jY g') :
  Inv X J3 σ H' { s with heap:=h',gens:=g',drawn:=d',toks:=t' }:=by
 have neL:∀b o,X.s₀.heap.get? b=some o->b≠X.env.locals:=fun b o e=>bD (ei (aP e) I.ok.above);have neC:∀b o,X.s₀.heap.get? b=some o->b∉X.ex->b∉ch:=fun b o e hx hb=>by
  rcases(hch b hb).1 with z|z
  ·exact hx z
  ·exact absurd (ei (aP e) z) (gH _)
 have cellK:∀x c,X.env.cells.lookup x=some c->∀v,s.heap.IsCell c v->h'.IsCell c v:=fun x c e v ⟨o,ho,hd⟩=>by
  have nch:c∉ch:=fun z=>(hch c z).2.2.1 x c e rfl;by_cases hc:c∈X.fs
  ·obtain⟨sl,q⟩:=slot c o (I.cne x c e) hc nch ho (I.freeC x c e);exact⟨_,q,hd⟩
  ·exact⟨o,keep c o (I.cne x c e) hc nch ho (I.freeC x c e),hd⟩
 refine⟨I.ok,I.os,hg,⟨fun b o e n hb hx=>?_,fun b o e n hb hx=>?_,fun b o e n hx=>?_,fun b o e hx=>?_,fun b xs e=>tups b xs (I.base.tups b xs e),fun b o xs e=>frzs b o xs (I.base.frzs b o xs e),fun b ps e=>?_⟩,?_,fun x c e=>?_,?_,fun x c e=>?_,fun p hp=>?_,hok,I.len⟩
 ·exact keep b o (neL b o e) hb (neC b o e hx) (I.base.keep b o e n hb hx) (I.base.free b o e n hx)
 ·obtain⟨sl,e1⟩:=I.base.slot b o e n hb hx;obtain⟨sl',e2⟩:=slot b _ (neL b o e) hb (neC b o e hx) e1 (I.base.free b o e n hx);exact⟨sl',e2⟩
 ·obtain⟨o',e1⟩:=I.base.there b o e hx;exact free b o' (neC b o e hx) e1 (I.base.free b o e n hx)
 ·obtain⟨o',e1⟩:=I.base.there b o e hx;exact there b o' (neC b o e hx) e1
 ·obtain⟨m1,e1⟩:=I.base.tbls b ps e;obtain⟨m2,e2⟩:=tbls b _ e1;exact⟨m1++m2,by rw[e2,Array.append_assoc]⟩
 ·obtain⟨m,hn,hl⟩:=I.loc;refine⟨m,ns m hn,fun i x v e1 e2 e3=>?_⟩;obtain⟨u,r,l⟩:=hl i x v e1 e2 e3;refine⟨u,r,?_⟩;rcases l with l|⟨k,c,e,z⟩
  ·exact .inl l
  ·exact .inr ⟨k,c,e,cellK x c e _ z⟩
 ·obtain⟨v,z⟩:=I.cell x c e;exact⟨v,cellK x c e v z⟩
 ·obtain⟨m,⟨o,_,_,ho,_⟩,_⟩:=I.loc;exact free _ o (fun z=>(hch _ z).2.1 rfl) ho I.free
 ·obtain⟨v,o,ho,hd⟩:=I.cell x c e;exact free c o (fun z=>(hch c z).2.2.1 x c e rfl) ho (I.freeC x c e)
 ·obtain⟨e,n,ne,nf,d⟩:=I.pin p hp;have nch:p.1∉ch:=fun z=>(hch p.1 z).2.2.2 p hp rfl;exact⟨keep p.1 p.2 ne nf nch e n,free p.1 p.2 nch e n,ne,nf,d⟩
theorem Inv.un{t':Nat}(I:Inv X J3 σ H s)(u:Un X.fs [] H H' s.heap h')(hok:jh X.prog X.w X.K H' h'):Inv X J3 σ H' { s with heap:=h',toks:=t' }:=by
 obtain⟨m,⟨o,es,ep,ho,r⟩,_⟩:=id I.loc;obtain⟨sl,hL⟩:=u.any ho I.free (by simp);exact I.step (g':=s.gens) (d':=s.drawn) (ch:=[]) (fun _ z=>nomatch z) (fun b o _ hb _ e n=>u.keep b o e n hb (by simp)) (fun b o _ hb _ e n=>u.slot b o e n hb (by simp)) (fun b o _ e n=>u.free b o e n (by simp)) (fun b o _ e=>u.there b o e (by simp)) u.tups u.frzs u.tbls (fun m' hm=>by
  obtain⟨o',es',ep',ho',r'⟩:=hm;rw[ho]at ho';cases ho';exact⟨_,es',ep',hL,r'⟩) hok I.bare
theorem Inv.call{g':Array GenState}{t':Nat}{d':Drawn}{ch:Ze}(I:Inv X J3 σ H s)(u:Un (w_ X.stack) ch H H' s.heap h')(hok:jh X.prog X.w X.K H' h')(hg:jY g')
  (hch:∀b∈ch,(b∈X.ex∨X.s₀.heap.objs.size<=b)/\b≠X.env.locals/\(∀x c,X.env.cells.lookup x=some c->c≠b)/\∀p∈X.pn++J3,p.1≠b) :
  Inv X J3 σ H' { s with heap:=h',gens:=g',drawn:=d',toks:=t' }:=by
 obtain⟨m,⟨o,es,ep,ho,r⟩,_⟩:=id I.loc;obtain⟨sl,hL⟩:=u.any ho I.free fun z=>(hch _ z).2.1 rfl;exact I.step (ch:=ch) hch (fun b o hL hb hc e n=>u.keep b o e n (fun z=>(cI.mp (I.stkSub b z)).elim hL hb) hc) (fun b o _ _ hc e n=>u.any e n hc) (fun b o hc e n=>u.free b o e n hc) (fun b o hc e=>u.there b o e hc) u.tups u.frzs u.tbls (fun m' hm=>by
  obtain⟨o',es',ep',ho',r'⟩:=hm;rw[ho]at ho';cases ho';exact⟨_,es',ep',hL,r'⟩) hok hg
theorem Inv.turned{t':Nat}{it:Addr}(I:Inv X J3 σ H s)(k:∀b o,b≠it->s.heap.get? b=some o->h'.get? b=some o)(hn:H it=none)(hL:it≠X.env.locals)
  (h1:it∈X.ex∨X.s₀.heap.objs.size<=it) (h2:∀x c,X.env.cells.lookup x=some c->c≠it) (h3:∀p∈X.pn++J3,p.1≠it):Inv X J3 σ H { s with heap:=h',toks:=t' }:=by
 have nit:∀b u,H b=some u->b≠it:=fun b u e z=>by rw[z,hn]at e;cases e
 refine I.step (g':=s.gens) (d':=s.drawn) (ch:=[it]) (fun b hb=>?_) (fun b o _ _ hc e _=>k b o (fun z=>hc (by simp[z])) e) (fun b o _ _ hc e _=>⟨o.slots,k b o (fun z=>hc (by simp[z])) e⟩) (fun _ _ _ _ n=>n)
  (fun b o hc e=>⟨o,k b o (fun z=>hc (by simp[z])) e⟩) (fun _ _ e=>e) (fun _ _ _ e=>e) (fun b ps e=>⟨#[],by rw[e];simp⟩) (fun m hm=>?_) (fun b u e=>?_) I.bare
 ·have e:b=it:=by simpa using hb
  subst e;exact⟨h1,hL,h2,h3⟩
 ·obtain⟨o,es,ep,ho,r⟩:=hm;exact⟨o,es,ep,k _ o (fw hL) ho,r⟩
 ·refine(I.hok b u e).stay (fun c v hc q=>k c v ?_ q) (fun _ q=>q) fun _ _ q=>q;rcases hc with z|z
  ·rw[z];exact nit b u e
  ·exact nit c _ z
theorem Inv.tok(I:Inv X J3 σ H s)(t:Nat):Inv X J3 σ H { s with toks:=t }:=I.un (h':=s.heap) (t':=t) Un.refl I.hok
theorem Inv.kept{t':Nat}(I:Inv X J3 σ H s)(k:∀b u,s.heap.get? b=some u->h'.get? b=some u):Inv X J3 σ H { s with heap:=h',toks:=t' }:=I.un (Un.kept k) (I.hok.kept k)
theorem Inv.laid{a:Addr}{o:HO}{t':Nat}(I:Inv X J3 σ H s)(k:∀b u,s.heap.get? b=some u->h'.get? b=some u)(hp:s.heap.objs.size<=a)(new:cj X.prog X.w X.K (upd H a o) h' a o):
  Inv X J3 σ (upd H a o) { s with heap:=h',toks:=t' }:=I.un (Un.laid k hp (I.hok.fresh hp)) (I.hok.laid k hp new)
theorem Inv.write{x e:Addr}{o:HO}{t':Nat}(I:Inv X J3 σ H s)(mu:Bk (H x))(he:e=x∨H e=some (.own x))(k:∀b u,b≠e->s.heap.get? b=some u->h'.get? b=some u)(heo:∃u,h'.get? e=some u)
  (new:cj X.prog X.w X.K (upd H x o) h' x o):Inv X J3 σ (upd H x o) { s with heap:=h',toks:=t' }:=I.un (Un.write mu he k heo) (I.hok.write mu he k heo new)
theorem Inv.weak{σ':List (Option V)}(I:Inv X J3 σ H s)(hl:σ'.length=σ.length)(w:∀(i:Nat) v,σ'[i]?=some (some v)->σ[i]?=some (some v)):Inv X J3 σ' H s :=
 ⟨I.ok,I.os,I.bare,I.base,let⟨m,hn,hl'⟩:=I.loc;⟨m,hn,fun i x v e1 e2 e3=>hl' i x v e1 (w i v e2) e3⟩,I.cell,I.free,I.freeC,I.pin,I.hok,hl.trans I.len⟩
theorem Inv.pins_of{pins':Zd}(I:Inv X J3 σ H s)(h:∀p∈pins',s.heap.get? p.1=some p.2/\H p.1=none/\p.1≠X.env.locals/\p.1∉X.fs/\∀v,p.2.data≠.cell v):Inv X pins' σ H s :=
 ⟨I.ok,I.os,I.bare,I.base,I.loc,I.cell,I.free,I.freeC,fun p hp=>(aR.mp hp).elim (fun z=>I.pin p (cH _ z)) (h p),I.hok,I.len⟩
theorem tE{N:Zb}(hN:N.Nodup){i j:Nat}{x:Str}(a:N[i]?=some x)(b:N[j]?=some x):i=j:=by
 obtain⟨h1,e1⟩:=bN.mp a;obtain⟨h2,e2⟩:=bN.mp b;exact(List.getElem_inj hN).mp (e1.trans e2.symm)
theorem pV{M:Model}{A:Around}{E:Zc}{i:Nat}{x:Str}{v:V}{u:Value}{Q:Unit->Shared->Prop}(I:Inv X J3 σ H s)(hN:X.N.Nodup)(hi:X.N[i]?=some x)(hx:Loc X.env.scope x)(r:RelV v u)
  (h:∀s',Inv X J3 (σ.set i (some v)) H s'->(∃a,ig a s.heap s'.heap/\(a=X.env.locals∨X.env.cells.lookup x=some a))->Q () s') (hf:X.fn x=true∨X.env.scope.names.lookup x=some .local:=by first|exact .inl rfl|exact .inr rfl|assumption):wpAny M A (storeName X.env x u) Q E s:=by
 obtain⟨m,hn,hl⟩:=id I.loc;have hcls:(X.env.scope.kind==.class || (X.env.scope.kind==.module && X.env.locals != X.env.globals))=false:=by rw[I.ok.kind];rfl
 have hiσ:i<σ.length:=by rw[I.len];exact(bN.mp hi).1
 have cne:=I.cne;have tracked:∀{a:Addr}{h':Heap},(∃o,s.heap.get? a=some o/\H a=none)->ig a s.heap h'->jh X.prog X.w X.K H h':=fun{a h'} ha hs b ob e=>by
  obtain⟨_,_,hfree⟩:=ha;refine(I.hok b ob e).stay (fun c w' hc q=>(hs.2 c ?_).trans q) (fun _ q=>q) fun _ _ q=>q;rintro rfl;rcases hc with rfl|hc
  ·rw[hfree]at e;cases e
  ·rw[hfree]at hc;cases hc
 rcases hx with hk|hk
 ·refine wpAny_storeName_local hk hn (fun h' hn' hs=>?_) hcls;obtain⟨oL,_,_,hoL,_⟩:=id hn;refine h _ ⟨I.ok,I.os,I.bare,⟨fun b o e n hb hx=>?_,fun b o e n hb hx=>?_,I.base.free,fun b o e hx=>?_,I.base.tups,I.base.frzs,I.base.tbls⟩,⟨_,hn',fun j y v' e1 e2 e3=>?_⟩,fun y c e=>?_,I.free,I.freeC,fun p hp=>?_,tracked ⟨oL,hoL,I.free⟩ hs,by simpa using I.len⟩ ⟨_,hs,.inl rfl⟩
  ·exact(hs.2 b (bD (ei (aP e) I.ok.above))).trans (I.base.keep b o e n hb hx)
  ·obtain⟨sl,e1⟩:=I.base.slot b o e n hb hx;exact⟨sl,(hs.2 b (bD (ei (aP e) I.ok.above))).trans e1⟩
  ·obtain⟨o',e1⟩:=I.base.there b o e hx;exact⟨o',(hs.2 b (bD (ei (aP e) I.ok.above))).trans e1⟩
  ·by_cases hj:j=i
   ·subst hj;rw[hi]at e1;cases e1;rw[List.getElem?_set_self hiσ]at e2;cases e2;exact⟨u,r,.inl ⟨hk,by simp⟩⟩
   ·rw[List.getElem?_set_ne (fw hj)]at e2;obtain⟨u',r',q⟩:=hl j y v' e1 e2 e3;refine⟨u',r',?_⟩;rcases q with⟨k,e⟩|⟨k,c,e,z⟩
    ·refine .inl ⟨k,?_⟩;have:y≠x:=fun e=>hj (tE hN e1 (e▸hi));simp[this,e]
    ·exact .inr ⟨k,c,e,z.sameBut hs (cne y c e)⟩
  ·obtain⟨w',z⟩:=I.cell y c e;exact⟨w',z.sameBut hs (cne y c e)⟩
  ·obtain⟨e,n,ne,nf,d⟩:=I.pin p hp;exact⟨(hs.2 p.1 ne).trans e,n,ne,nf,d⟩
 ·have hfn:X.fn x=true:=by
   rcases hf with z|z
   ·exact z
   ·rw[z]at hk;cases hk
  obtain⟨c,hc⟩:=I.ok.has x (.inl hk);obtain⟨w',z⟩:=I.cell x c hc;refine wpAny_storeName_cell I.ok.kind hk hc z (fun h' hc' hs=>?_);obtain⟨oc,hoc,hocd⟩:=id z;refine h { s with heap:=h' } ⟨I.ok,I.os,I.bare,⟨fun b o e n hb hx=>?_,fun b o e n hb hx=>?_,I.base.free,fun b o e hx=>?_,I.base.tups,I.base.frzs,I.base.tbls⟩,⟨m,hn.sameBut hs (fw (cne x c hc)),fun j y v' e1 e2 e3=>?_⟩,fun y c' e=>?_,I.free,I.freeC,fun p hp=>?_,tracked ⟨oc,hoc,I.freeC x c hc⟩ hs,by simpa using I.len⟩ ⟨c,hs,.inr hc⟩
  ·exact(hs.2 b (bD (ei (aP e) (I.ok.cab x c hfn hc)))).trans (I.base.keep b o e n hb hx)
  ·obtain⟨sl,e1⟩:=I.base.slot b o e n hb hx;exact⟨sl,(hs.2 b (bD (ei (aP e) (I.ok.cab x c hfn hc)))).trans e1⟩
  ·obtain⟨o',e1⟩:=I.base.there b o e hx;exact⟨o',(hs.2 b (bD (ei (aP e) (I.ok.cab x c hfn hc)))).trans e1⟩
  ·by_cases hj:j=i
   ·subst hj;rw[hi]at e1;cases e1;rw[List.getElem?_set_self hiσ]at e2;cases e2;exact⟨u,r,.inr ⟨.inl hk,c,hc,hc'⟩⟩
   ·rw[List.getElem?_set_ne (fw hj)]at e2;obtain⟨u',r',q⟩:=hl j y v' e1 e2 e3;refine⟨u',r',?_⟩;rcases q with q|⟨k,c',e,z'⟩
    ·exact .inl q
    ·refine .inr ⟨k,c',e,z'.sameBut hs ?_⟩;rintro rfl;exact hj (tE hN e1 (I.ok.inj _ _ _ e hc▸hi))
  ·by_cases hcc:c'=c
   ·subst hcc;exact⟨_,hc'⟩
   ·obtain⟨w2,z2⟩:=I.cell y c' e;exact⟨w2,z2.sameBut hs hcc⟩
  ·obtain⟨e,n,ne,nf,d⟩:=I.pin p hp;refine⟨(hs.2 p.1 ?_).trans e,n,ne,nf,d⟩;intro q;rw[q,hoc]at e;have q':oc=p.2:=di e;exact d w' (by rw[<-q'];exact hocd)
theorem sY{M:Model}{A:Around}{E:Zc}{i:Nat}{x:Str}{v:V}{u:Value}{Q:Unit->Shared->Prop}(I:Inv X J3 σ H s)(hN:X.N.Nodup)(hi:X.N[i]?=some x)(hx:Loc X.env.scope x)(r:RelV v u)
  (h:∀s',Inv X J3 (σ.set i (some v)) H s'->Q () s') (hf:X.fn x=true∨X.env.scope.names.lookup x=some .local:=by first|exact .inl rfl|exact .inr rfl|assumption):wpAny M A (storeName X.env x u) Q E s :=
 pV I hN hi hx r (fun s' I' _=>h s' I') hf
theorem Inv.call'{s':Shared}{ch:Ze}(I:Inv X J3 σ H s)(ho:s'.os=s.os)(u:Un (w_ X.stack) ch H H' s.heap s'.heap)(hok:jh X.prog X.w X.K H' s'.heap)(hg:jY s'.gens)
  (hch:∀b∈ch,(b∈X.ex∨X.s₀.heap.objs.size<=b)/\b≠X.env.locals/\(∀x c,X.env.cells.lookup x=some c->c≠b)/\∀p∈X.pn++J3,p.1≠b):Inv X J3 σ H' s':=by
 obtain⟨h',g',d',t',o'⟩:=s';have e:o'=s.os:=ho;subst e;exact I.call (g':=g') (t':=t') (d':=d') u hok hg hch
end
abbrev XK:=Value->Option Addr->Hp->Prop
abbrev St:=List (Option V)
abbrev VK:=V->Hp->Prop
abbrev TE:=St->Hp->VK->Prop
abbrev TT:=St->Hp->(Bool->Hp->Prop)->Prop
abbrev TA:=St->Hp->(List V->Hp->Prop)->Prop
structure mV where
 nx:St->Hp->Prop
 rt:VK
 bk:St->Hp->Prop:=fun _ _=>False
 ct:St->Hp->Prop:=fun _ _=>False
abbrev bC(Q:VK):mV:={ nx:=fun _ H=>Q .non H,rt:=Q }
abbrev TS:=mV->St->Hp->Prop
def EP(X:Cx)(J3:Zd)(σ:St)(Q:VK)(u:Value)(s':Shared):Prop:=∃v H',Inv X J3 σ H' s'/\RelV v u/\Q v H'
def TP(X:Cx)(J3:Zd)(σ:St)(Q:Bool->Hp->Prop)(b:Bool)(s':Shared):Prop:=∃H',Inv X J3 σ H' s'/\Q b H'
def AP(X:Cx)(J3:Zd)(σ:St)(Q:List V->Hp->Prop)(us:Zf)(s':Shared):Prop:=∃vs H',Inv X J3 σ H' s'/\aL vs us/\Q vs H'
def SP(X:Cx)(J3:Zd)(D:mV)(f:Flow)(s':Shared):Prop :=
 match f with
 |.next=>∃σ' H',Inv X J3 σ' H' s'/\D.nx σ' H'
 |.brk=>∃σ' H',Inv X J3 σ' H' s'/\D.bk σ' H'
 |.cont=>∃σ' H',Inv X J3 σ' H' s'/\D.ct σ' H'
 |.ret u=>∃v σ' H',Inv X J3 σ' H' s'/\RelV v u/\D.rt v H'
def PE(X:Cx)(e:Expr)(t:TE):Prop :=
 ∀(J3:Zd) (s:Shared) (σ:St) (H:Hp) (Q:VK),Inv X J3 σ H s->t σ H Q->wpAny (model X.prog X.w) X.A (eval e X.env) (EP X J3 σ Q) X.xe s
def PT(X:Cx)(e:Expr)(t:TT):Prop :=
 ∀(J3:Zd) (s:Shared) (σ:St) (H:Hp) (Q:Bool->Hp->Prop),Inv X J3 σ H s->t σ H Q->wpAny (model X.prog X.w) X.A (isTrue e X.env (eval e X.env)) (TP X J3 σ Q) X.xe s
def PW(X:Cx)(e:Expr)(t:TT):Prop :=
 ∀(whole:Sem Value) (J3:Zd) (s:Shared) (σ:St) (H:Hp) (Q:Bool->Hp->Prop),Inv X J3 σ H s->t σ H Q->wpAny (model X.prog X.w) X.A (isTrue e X.env whole) (TP X J3 σ Q) X.xe s
theorem PW.pt{X:Cx}{e:Expr}{t:TT}(h:PW X e t):PT X e t:=h _
def PA(X:Cx)(es:List Expr)(t:TA):Prop :=
 ∀(pos:Pos) (J3:Zd) (s:Shared) (σ:St) (H:Hp) (Q:List V->Hp->Prop),Inv X J3 σ H s->t σ H Q->wpAny (model X.prog X.w) X.A (spliced (backTo pos (aA es X.env))) (AP X J3 σ Q) X.xe s
def PS(X:Cx)(st:Stmt)(t:TS):Prop :=
 ∀(J3:Zd) (s:Shared) (σ:St) (H:Hp) (D:mV),Inv X J3 σ H s->t D σ H->wpAny (model X.prog X.w) X.A (exec st X.env) (SP X J3 D) X.xe s
def uc(X:Cx)(st:List Stmt)(t:TS):Prop :=
 ∀(J3:Zd) (s:Shared) (σ:St) (H:Hp) (D:mV),Inv X J3 σ H s->t D σ H->wpAny (model X.prog X.w) X.A (execs st X.env) (SP X J3 D) X.xe s
theorem bU{α:Type}{t:Sem α}{Q Q':α->Shared->Prop}{M:Model}{A:Around}{E:Zc}{s:Shared}(h:wpAny M A t Q E s)(hQ:∀a s,Q a s->Q' a s):wpAny M A t Q' E s:=hZ h hQ fun _ _ x=>x
end L2
namespace L2
open PySem PySem.Spec PyProof.Rows
section
variable{X:Cx}
def jw(i:Nat):TE:=fun σ H Q=>∃v,σ[i]?=some (some v)/\Q v H
abbrev V0:TE:=jw 0
abbrev V1:TE:=jw 1
abbrev V2:TE:=jw 2
abbrev V3:TE:=jw 3
abbrev V4:TE:=jw 4
abbrev V5:TE:=jw 5
abbrev V6:TE:=jw 6
abbrev V7:TE:=jw 7
abbrev V8:TE:=jw 8
abbrev V9:TE:=jw 9
abbrev yP:TE:=jw 10
abbrev V11:TE:=jw 11
abbrev V12:TE:=jw 12
def tC(v:V):TE:=fun _ H Q=>Q v H
theorem AE{i:Nat}{x:Str}{pos:Pos}(hN:X.N[i]?=some x)(hv:Vis X.env.scope x)(hd:(x==("__debug__":Str))=false:=by decide)(hcd:(x==("__classdict__":Str))=false:=by decide):PE X (.Name x pos) (jw i):=by
 intro J3 s σ H Q I h;obtain⟨v,e,h⟩:=h;obtain⟨m,hn,hl⟩:=I.loc;obtain⟨u,r,l⟩:=hl i x v hN e hv;have fin:EP X J3 σ Q u s:=⟨v,H,I,r,h⟩;rcases l with⟨hk,hm⟩|⟨hk,c,hc,hcell⟩
 ·exact wpAny_Name (wpAny_loadName_local I.ok.kind hk hn hm fin) hd
 ·rcases hk with hk|hk
  ·exact wpAny_Name (wpAny_loadName_cell I.ok.kind hk hc hcell fin) hd
  ·exact wpAny_Name (wpAny_loadName_free I.ok.kind hk hc hcell fin hcd) hd
theorem ah{i j pos}:PE X (.Constant (.int i) j pos) (tC (.int i)):=fun _ _ _ H _ I h=>wpAny_Constant_int ⟨.int i,H,I.tok _,⟨_,rfl⟩,h⟩
theorem gO{b j pos}:PE X (.Constant (.bool b) j pos) (tC (.bl b)):=fun _ _ _ H _ I h=>Constant_bool ⟨.bl b,H,I,rfl,h⟩
theorem uP{j pos}:PE X (.Constant .none j pos) (tC .non):=fun _ _ _ H _ I h=>Constant_none ⟨.non,H,I,rfl,h⟩
theorem bh{x j pos}:PE X (.Constant (.str x) j pos) (tC (.str x)):=fun _ _ _ H _ I h=>Calls.Constant_str ⟨.str x,H,I.tok _,⟨_,rfl⟩,h⟩
def Gl(X:Cx)(x:Str):Prop:=X.env.kindOf x=some .globalImplicit
theorem rB{E:Zc}{J3:Zd}{s:Shared}{σ:St}{H:Hp}{x:Str}{u:Value}{pos:Pos}{Q:Zc}(I:Inv X J3 σ H s)(hg:Gl X x)(hm:X.mg x=some u)(h:Q u s)
  (hd:(x==("__debug__":Str))=false:=by decide):wpAny (model X.prog X.w) X.A (eval (.Name x pos) X.env) Q E s :=
 Calls.Name_function_global I.ok.kind hg (Calls.loadGlobal_global (by rw[I.ok.glob];exact I.mod.glob.keeps I.bk) hm h) hd
theorem rC{E:Zc}{J3:Zd}{s:Shared}{σ:St}{H:Hp}{x:Str}{u:Value}{pos:Pos}{Q:Zc}(I:Inv X J3 σ H s)(hg:Gl X x)(hm:X.mg x=none)(hv:jZ x=some u)(h:Q u s)
  (hn:x≠"__name__":=by decide) (hd:(x==("__debug__":Str))=false:=by decide):wpAny (model X.prog X.w) X.A (eval (.Name x pos) X.env) Q E s:=by
 obtain⟨mb,h1,h2⟩:=I.mod.blt;exact Calls.Name_function_global I.ok.kind hg (Calls.loadGlobal_builtin (by rw[I.ok.glob];exact I.mod.glob.keeps I.bk) hm (by rw[I.ok.blt];exact h1.keeps I.bk) ((h2 x hn).trans hv) h) hd
theorem zH{x:Str}{v:V}{u:Value}{pos:Pos}(hg:Gl X x)(hm:X.mg x=some u)(r:RelV v u)(hd:(x==("__debug__":Str))=false:=by decide):PE X (.Name x pos) (tC v) :=
 fun _ _ _ H _ I h=>rB I hg hm ⟨v,H,I,r,h⟩ hd
variable{a b:Expr}{ta tb:TE}{pos:Pos}
def PC(X:Cx)(op:CmpOp)(a b:Expr)(t:TE):Prop :=
 ∀(J3:Zd) (s:Shared) (σ:St) (H:Hp) (Q:VK),Inv X J3 σ H s->t σ H Q ->
  wpAny (model X.prog X.w) X.A (eval a X.env) (fun v s₁=>wpAny (model X.prog X.w) X.A (eval b X.env) (fun u s₂=>wpAny (model X.prog X.w) X.A (cP op v u) (EP X J3 σ Q) X.xe s₂) X.xe s₁) X.xe s
theorem tF(b:Expr){op:CmpOp}(h:op≠.In)(h2:op≠.NotIn):hE op b=false:=by
 have e1:(op==CmpOp.In)=false:=by cases op<;>first|rfl|exact absurd rfl h
 have e2:(op==CmpOp.NotIn)=false:=by cases op<;>first|rfl|exact absurd rfl h2
 cases b<;>simp[hE,e1,e2]
def z_(ta:TE):TE:=fun σ H Q=>ta σ H fun x H1=>Q (.bl (!decide (x=.non))) H1
theorem RelV.none_iff{x:V}{v:Value}(r:RelV x v):(v==Value.none)=decide (x=.non):=by
 cases x with
 |non=>cases r;rfl
 |bl _=>cases r;rfl
 |int _=>obtain⟨t,rfl⟩:=r;rfl
 |str _=>obtain⟨t,rfl⟩:=r;rfl
 |byt _=>obtain⟨t,rfl⟩:=r;rfl
 |flt _=>obtain⟨t,rfl⟩:=r;rfl
 |ref _=>cases r;rfl
 |ty _=>cases r;rfl
theorem zL{j pos'}(ha:PE X a ta):PC X .IsNot a (.Constant .none j pos') (z_ ta):=by
 intro J3 s σ H Q I h;refine bU (ha J3 s σ H _ I h) fun v s1 zq0=>?_;obtain⟨x,H1,I1,r1,q1⟩:=zq0;exact Constant_none (isnot_none_gen ⟨.bl _,H1,I1,by rw[r1.none_iff];rfl,q1⟩)
def tB(t:TE):TT:=fun σ H Q=>t σ H fun x H1=>∃c,x=.bl c/\Q c H1
theorem AI{op:CmpOp}{t:TE}(h:PC X op a b t)(h1:hE op b=false:=by first|exact tF _ (by decide) (by decide)|rfl):PE X (.Compare a [op] [b] pos) t:=fun J3 s σ H Q I hw=>wpAny_Compare1 (h J3 s σ H Q I hw) h1
theorem gy{op:CmpOp}{t:TE}(h:PC X op a b t)(h1:hE op b=false:=by first|exact tF _ (by decide) (by decide)|rfl):PT X (.Compare a [op] [b] pos) (tB t):=by
 intro J3 s σ H Q I hw;refine wpAny_isTrue_Compare1 (bU (h J3 s σ H _ I hw) fun v s1 h1=>bU h1 fun u s2 h2=>bU h2 fun c s3 zq0=>?_) h1;obtain⟨x,H1,I1,r1,q1⟩:=zq0;obtain⟨d,rfl,q⟩:=q1;cases r1;exact mj ⟨H1,I1,q⟩
theorem rj{e:Expr}{t:TE}(h:PE X e t)(he:∀whole,isTrue e X.env whole=(do let v <- whole;mh e.pos;ie [v] (truthy v)):=by intro _;rfl):PT X e (tB t):=by
 intro J3 s σ H Q I hw;refine isTrue_plain (bU (h J3 s σ H _ I hw) fun v s1 zq0=>?_) (he _);obtain⟨x,H1,I1,r1,q1⟩:=zq0;obtain⟨d,rfl,q⟩:=q1;cases r1;exact mj ⟨H1,I1,q⟩
variable{tA tB':TT}{rest:List Expr}
def wn(t u:TT):TT:=fun σ H Q=>t σ H fun c H1=>if c=true then u σ H1 Q else Q false H1
def AZ(t u:TT):TT:=fun σ H Q=>t σ H fun c H1=>if c=true then Q true H1 else u σ H1 Q
def A5(t:TT):TT:=fun σ H Q=>t σ H fun c H1=>Q (!c) H1
theorem m9(ha:PT X a tA):PW X (.BoolOp .And [a] pos) tA:=by
 intro wh J3 s σ H Q I h;refine isTrue_and (bU (ha J3 s σ H Q I h) fun c s1 e=>?_);cases c with
 |true=>exact isTrue_and_nil e
 |false=>exact e
theorem uM(ha:PT X a tA):PW X (.BoolOp .Or [a] pos) tA:=by
 intro wh J3 s σ H Q I h;refine isTrue_or (bU (ha J3 s σ H Q I h) fun c s1 e=>?_);cases c with
 |false=>exact isTrue_or_nil e
 |true=>exact e
theorem og(ha:PT X a tA)(hb:PW X (.BoolOp .And (b::rest) pos) tB'):PW X (.BoolOp .And (a::b::rest) pos) (wn tA tB'):=by
 intro wh J3 s σ H Q I h;refine isTrue_and (bU (ha J3 s σ H _ I h) fun c s1 zq0=>?_);obtain⟨H1,I1,q1⟩:=zq0;cases c with
 |true=>exact hb wh J3 s1 σ H1 Q I1 q1
 |false=>exact⟨H1,I1,q1⟩
theorem tu(ha:PT X a tA)(hb:PW X (.BoolOp .Or (b::rest) pos) tB'):PW X (.BoolOp .Or (a::b::rest) pos) (AZ tA tB'):=by
 intro wh J3 s σ H Q I h;refine isTrue_or (bU (ha J3 s σ H _ I h) fun c s1 zq0=>?_);obtain⟨H1,I1,q1⟩:=zq0;cases c with
 |true=>exact⟨H1,I1,q1⟩
 |false=>exact hb wh J3 s1 σ H1 Q I1 q1
theorem AA(ha:PT X a tA):PT X (.UnaryOp .Not a pos) (A5 tA):=by
 intro J3 s σ H Q I h;exact isTrue_not (ha J3 s σ H (fun c H1=>Q (!c) H1) I h)
def xx(ta tb:TE):TE:=fun σ H Q=>ta σ H fun x H1=>∃c,x=.bl c/\if c=true then tb σ H1 Q else Q (.bl false) H1
theorem AF{op}{t:TE}(h:PE X a t):PE X (.BoolOp op [a] pos) t:=fun J3 s σ H Q I hw=>BoolOp_one (h J3 s σ H Q I hw)
theorem xU(ha:PE X a ta)(hb:PE X (.BoolOp .And (b::rest) pos) tb):PE X (.BoolOp .And (a::b::rest) pos) (xx ta tb):=by
 intro J3 s σ H Q I h;refine BoolOp_and (bU (ha J3 s σ H _ I h) fun v s1 zq0=>?_);obtain⟨x,H1,I1,r1,q1⟩:=zq0;obtain⟨c,rfl,q1⟩:=q1;cases r1;refine mj ?_;cases c with
 |true=>exact hb J3 s1 σ H1 Q I1 q1
 |false=>exact⟨.bl false,H1,I1,rfl,q1⟩
end
end L2
namespace L2
open PySem PySem.Spec PyProof.Rows
def av(K:Za)(H:Hp)(a:Addr)(xs:List V):Prop :=
 Rd H a (.lst xs) ∨
  ∃(o:Obj) (its:Array Value) (n:Nat),K.lookup a=some o/\o.cls=.type "list"/\o.dict=none/\o.data=.seq its n/\its.size<=aj/\aL xs its.toList
def bp(K:Za)(H:Hp)(a:Addr)(xs:List V):Prop :=
 Rd H a (.tup xs) ∨
  ∃(o:Obj) (its:Array Value) (n:Nat),K.lookup a=some o/\o.cls=.type "tuple"/\o.data=.seq its n/\its.size<=aj/\aL xs its.toList
def absV:Value->Option V
 |.none=>some .non
 |.bool b=>some (.bl b)
 |.int i _=>some (.int i)
 |.str x _=>some (.str x)
 |.bytes b _=>some (.byt b)
 |.float b _=>some (.flt b)
 |.ref a=>some (.ref a)
 |.type n=>some (.ty n)
 |_=>none
theorem RelV.abs{x:V}{u:Value}(r:RelV x u):absV u=some x:=by
 cases x with
 |non=>cases r;rfl
 |bl _=>cases r;rfl
 |int _=>obtain⟨t,rfl⟩:=r;rfl
 |str _=>obtain⟨t,rfl⟩:=r;rfl
 |byt _=>obtain⟨t,rfl⟩:=r;rfl
 |flt _=>obtain⟨t,rfl⟩:=r;rfl
 |ref _=>cases r;rfl
 |ty _=>cases r;rfl
theorem RelV.inj{x y:V}{u:Value}(r:RelV x u)(q:RelV y u):x=y:=di (r.abs.symm.trans q.abs)
theorem aL.inj{xs ys:List V}{us:Zf}(h:aL xs us)(h':aL ys us):xs=ys:=by
 induction h generalizing ys with
 |nil=>cases h';rfl
 |cons r _ ih =>
  cases h' with
  |cons r' t'=>rw[r.inj r',ih t']
section
variable{X:Cx}{J3:Zd}{σ:St}{H:Hp}{s:Shared}{a:Addr}{xs ys:List V}
theorem av.of{K:Za}(h:H a=some (.lst xs)):av K H a xs:=.inl (.inl h)
theorem bp.of{K:Za}(h:H a=some (.tup xs)):bp K H a xs:=.inl (.inl h)
theorem Inv.list(I:Inv X J3 σ H s)(h:av X.K H a xs):∃its:List Value,aL xs its/\PlainL s.heap a its.toArray/\xs.length<=aj:=by
 rcases h with h|⟨o,its,n,hk,hc,hd,hs,hz,r⟩
 ·obtain⟨z,its,n,r,e⟩:=h.ok I.hok;exact⟨its,r,⟨_,n,e,rfl,rfl,rfl⟩,z⟩
 ·refine⟨its.toList,r,⟨o,n,I.kIn a o hk,hc,hd,by simpa using hs⟩,?_⟩;have e:=r.length;simp only[gf]at e;omega
theorem Inv.tuple(I:Inv X J3 σ H s)(h:bp X.K H a xs):∃its:List Value,aL xs its/\IsTup s.heap a its.toArray/\xs.length<=aj:=by
 rcases h with h|⟨o,its,n,hk,hc,hs,hz,r⟩
 ·obtain⟨z,its,r,p⟩:=h.ok I.hok;exact⟨its,r,p,z⟩
 ·refine⟨its.toList,r,⟨o,I.kIn a o hk,hc,n,by simpa using hs⟩,?_⟩;have e:=r.length;simp only[gf]at e;omega
theorem Inv.list_inj(I:Inv X J3 σ H s)(h:av X.K H a xs)(h':av X.K H a ys):xs=ys:=by
 obtain⟨its,r,⟨o,n,e,_,_,d⟩,_⟩:=I.list h;obtain⟨its',r',⟨o',n',e',_,_,d'⟩,_⟩:=I.list h';rw[e]at e';cases e';rw[d]at d';injection d' with d1 _;have:its=its':=by simpa using congrArg Array.toList d1
 subst this;exact r.inj r'
theorem Inv.tuple_inj(I:Inv X J3 σ H s)(h:bp X.K H a xs)(h':bp X.K H a ys):xs=ys:=by
 obtain⟨its,r,⟨o,e,_,n,d⟩,_⟩:=I.tuple h;obtain⟨its',r',⟨o',e',_,n',d'⟩,_⟩:=I.tuple h';rw[e]at e';cases e';rw[d]at d';injection d' with d1 _;have:its=its':=by simpa using congrArg Array.toList d1
 subst this;exact r.inj r'
end
abbrev Cx.wish(X:Cx)(E:Zc):Cx:={ X with xe:=E }
abbrev Cx.nox(X:Cx):Cx:=X.wish fun _ _=>False
theorem Cx.Ok.wish{X:Cx}(ok:X.Ok)(E:Zc):(X.wish E).Ok :=
 ⟨ok.mod,ok.kind,ok.glob,ok.blt,ok.above,ok.inj,ok.has,ok.cab,ok.hd,ok.frames,ok.stk,ok.exf,ok.bs,ok.bsz,ok.noex,ok.exfs,ok.funs,ok.frf⟩
theorem Cx.Ok.unwish{X:Cx}{E:Zc}(ok:(X.wish E).Ok):X.Ok :=
 ⟨ok.mod,ok.kind,ok.glob,ok.blt,ok.above,ok.inj,ok.has,ok.cab,ok.hd,ok.frames,ok.stk,ok.exf,ok.bs,ok.bsz,ok.noex,ok.exfs,ok.funs,ok.frf⟩
section
variable{X:Cx}{J3:Zd}{σ:St}{H:Hp}{s:Shared}{E:Zc}
theorem Inv.wish(I:Inv X J3 σ H s)(E:Zc):Inv (X.wish E) J3 σ H s:=⟨I.ok.wish E,I.os,I.bare,I.base,I.loc,I.cell,I.free,I.freeC,I.pin,I.hok,I.len⟩
theorem Inv.unwish(I:Inv (X.wish E) J3 σ H s):Inv X J3 σ H s:=⟨I.ok.unwish,I.os,I.bare,I.base,I.loc,I.cell,I.free,I.freeC,I.pin,I.hok,I.len⟩
theorem SP.unwish{D:mV}{f:Flow}{s':Shared}(h:SP (X.wish E) J3 D f s'):SP X J3 D f s':=by
 cases f with
 |next=>obtain⟨σ',H',I,q⟩:=h;exact⟨σ',H',I.unwish,q⟩
 |brk=>obtain⟨σ',H',I,q⟩:=h;exact⟨σ',H',I.unwish,q⟩
 |cont=>obtain⟨σ',H',I,q⟩:=h;exact⟨σ',H',I.unwish,q⟩
 |ret u=>obtain⟨v,σ',H',I,r,q⟩:=h;exact⟨v,σ',H',I.unwish,r,q⟩
theorem uc.nox{st:List Stmt}{t:TS}(h:uc X.nox st t):uc X st t:=fun J3 s σ H D I hw =>
 hZ (h J3 s σ H D (I.wish _) hw) (fun _ _ q=>q.unwish) fun _ _ z=>gG z
end
section
variable{X:Cx}{st:Stmt}{rest:List Stmt}{t u:TS}{e:Expr}{te:TE}{pos:Pos}
def ci:TS:=fun D σ H=>D.nx σ H
def aq(t u:TS):TS:=fun D σ H=>t { D with nx:=u D } σ H
theorem ba:uc X [] ci:=fun _ _ σ H _ I h=>vA ⟨σ,H,I,h⟩
theorem ab(h1:PS X st t)(h2:uc X rest u):uc X (st::rest) (aq t u):=by
 intro J3 s σ H D I h;refine wpAny_execs_cons (bU (h1 J3 s σ H { D with nx:=u D } I h) fun f s1 q=>?_);cases f with
 |next =>
  obtain⟨σ',H',I',q⟩:=q;exact h2 J3 s1 σ' H' D I' q
 |ret v=>exact q
 |brk=>exact q
 |cont=>exact q
theorem ag(h1:PS X st t):uc X [st] t:=by
 intro J3 s σ H D I h;refine wpAny_execs_cons (bU (h1 J3 s σ H D I h) fun f s1 q=>?_);cases f with
 |next=>exact vA q
 |ret v=>exact q
 |brk=>exact q
 |cont=>exact q
theorem Inv.quiet{J3:Zd}{σ:St}{H:Hp}{s:Shared}(I:Inv X J3 σ H s):interactive X.env=false:=by simp[interactive,I.ok.kind]
def cB(te:TE):TS:=fun D σ H=>te σ H fun _ H1=>D.nx σ H1
theorem bf(he:PE X e te)(hs:mf e none pos.line X.env=pure false:=by rfl):PS X (.Expr e pos) (cB te):=by
 intro J3 s σ H D I h;exact wpAny_Expr_any (bU (he J3 s σ H _ I h) fun v s1 ⟨x,H1,I1,r1,q1⟩=>⟨σ,H1,I1,q1⟩) I.quiet hs
def bo(te:TE):TS:=fun D σ H=>te σ H D.rt
theorem aw(he:PE X e te):PS X (.Return (some e) pos) (bo te):=by
 intro J3 s σ H D I h;exact wpAny_Return_some (bU (he J3 s σ H _ I h) fun v s1 ⟨x,H1,I1,r1,q1⟩=>⟨x,σ,H1,I1,r1,q1⟩)
def ef(c:TT)(t u:TS):TS:=fun D σ H=>c σ H fun b H1=>if b=true then t D σ H1 else u D σ H1
theorem cn{c:Expr}{a b:List Stmt}{tc:TT}(hc:PT X c tc)(ha:uc X a t)(hb:uc X b u):PS X (.If c a b pos) (ef tc t u):=by
 intro J3 s σ H D I h;refine wpAny_If (bU (hc J3 s σ H _ I h) fun d s1 zq0=>?_);obtain⟨H1,I1,q1⟩:=zq0;cases d with
 |true=>exact ha J3 s1 σ H1 D I1 q1
 |false=>exact hb J3 s1 σ H1 D I1 q1
def xv:TS:=fun _ _ _=>False
theorem xQ:PS X st xv:=fun _ _ _ _ _ _ h=>h.elim
end
abbrev TG:=V->St->Hp->(St->Hp->Prop)->Prop
abbrev AU:=List V->St->Hp->(St->Hp->Prop)->Prop
def PG(X:Cx)(target:Expr)(t:TG):Prop :=
 ∀(J3:Zd) (s:Shared) (σ:St) (H:Hp) (v:V) (u:Value) (Q:St->Hp->Prop),Inv X J3 σ H s->RelV v u->t v σ H Q ->
  wpAny (model X.prog X.w) X.A (assign target X.env u) (fun _ s'=>∃σ' H',Inv X J3 σ' H' s'/\Q σ' H') X.xe s
def Bv(X:Cx)(ts:List Expr)(t:AU):Prop :=
 ∀(J3:Zd) (s:Shared) (σ:St) (H:Hp) (vs:List V) (us:Zf) (Q:St->Hp->Prop),Inv X J3 σ H s->aL vs us->t vs σ H Q ->
  wpAny (model X.prog X.w) X.A (assignInOrder ((pK ts X.env).map (·.2)) us) (fun _ s'=>∃σ' H',Inv X J3 σ' H' s'/\Q σ' H') X.xe s
abbrev AT:=V->V->V->Hp->(Hp->Prop)->Prop
def Bj(X:Cx)(t:AT):Prop :=
 ∀(J3:Zd) (s:Shared) (σ:St) (H:Hp) (o i v:V) (ov iv u:Value) (Q:Hp->Prop),Inv X J3 σ H s->RelV o ov->RelV i iv->RelV v u->t o i v H Q ->
  wpAny (model X.prog X.w) X.A (setItem ov iv u) (fun _ s'=>∃H',Inv X J3 σ H' s'/\Q H') X.xe s
section
variable{X:Cx}{pos:Pos}
def cW(i:Nat):TG:=fun v σ H Q=>Q (σ.set i (some v)) H
abbrev U0:TG:=cW 0
abbrev U1:TG:=cW 1
abbrev U2:TG:=cW 2
abbrev U3:TG:=cW 3
abbrev U4:TG:=cW 4
abbrev U5:TG:=cW 5
abbrev U6:TG:=cW 6
abbrev U7:TG:=cW 7
abbrev U8:TG:=cW 8
abbrev U9:TG:=cW 9
abbrev Bu:TG:=cW 10
abbrev U11:TG:=cW 11
abbrev U12:TG:=cW 12
theorem vM{i:Nat}{x:Str}(hN:X.N.Nodup)(hi:X.N[i]?=some x)(hx:Loc X.env.scope x)(hf:X.fn x=true∨X.env.scope.names.lookup x=some .local:=by first|exact .inl rfl|exact .inr rfl|assumption):PG X (.Name x pos) (cW i):=by
 intro J3 s σ H v u Q I r h;exact wpAny_assign_Name (sY I hN hi hx r (fun s' I'=>⟨_,H,I',h⟩) hf)
def rP:AU:=fun vs σ H Q=>vs=[]/\Q σ H
def dq(t:TG)(u:AU):AU:=fun vs σ H Q=>∃v r,vs=v::r/\t v σ H fun σ' H'=>u r σ' H' Q
theorem gm:Bv X [] rP:=by
 intro J3 s σ H vs us Q I r h;obtain⟨e,h⟩:=h;subst e;cases r;exact assignInOrder_nil ⟨σ,H,I,h⟩
theorem be{e:Expr}{es:List Expr}{t:TG}{u:AU}(h1:PG X e t)(h2:Bv X es u)
  (hs:(pK (e::es) X.env).map (·.2)=assign e X.env::(pK es X.env).map (·.2):=by rfl):Bv X (e::es) (dq t u):=by
 intro J3 s σ H vs us Q I r h;obtain⟨v,vr,e1,h⟩:=h;subst e1;cases r with
 |cons r rr =>
  rw[hs];refine assignInOrder_cons (bU (h1 J3 s σ H _ _ _ I r h) fun _ s1 zq0=>?_);obtain⟨σ1,H1,I1,q1⟩:=zq0;exact h2 J3 s1 σ1 H1 _ _ Q I1 rr q1
def rO(K:Za)(n:Nat)(t:AU):TG:=fun v σ H Q=>∃a xs,v=.ref a/\bp K H a xs/\xs.length=n/\t xs σ H Q
theorem iD{es:List Expr}{k:Nat}{t:AU}{n:Nat}(hc:X.calm=true)(h:Bv X es t)
  (hn:(pK es X.env).length=n:=by rfl) (hst:(pK es X.env).findIdx? (·.1)=none:=by rfl):PG X (.Tuple es k pos) (rO X.K n t):=by
 intro J3 s σ H v u Q I r hw;obtain⟨a,xs,e1,hq,hl,hw⟩:=hw;subst e1;cases r;obtain⟨its,rv,ht,hz⟩:=I.tuple hq;refine assign_Tuple_tuple (I.ok.hd hc) ht (by simp[hn,<-hl,rv.length]) hst fun h' hx=>?_;have I1:Inv X J3 σ H { s with heap:=h' }:=I.kept (t':=s.toks) fun b o e=>hx b o (bD (aP e)) e;exact h J3 _ σ H xs _ Q I1 (by simpa using rv) hw
def uZ(to ti:TE)(t:AT):TG:=fun v σ H Q=>to σ H fun o H1=>ti σ H1 fun i H2=>t o i v H2 fun H3=>Q σ H3
theorem om{o i:Expr}{to ti:TE}{t:AT}(ho:PE X o to)(hi:PE X i ti)(hs:Bj X t)
  (ha:∀v,assign (.Subscript o i pos) X.env v=(do
   let ov <- ie [v] (eval o X.env)
   let iv <- ie [v,ov] (eval i X.env)
   mh pos
   ie [v,ov,iv] (setItem ov iv v)
   release [v,ov,iv] []):=by intro _;rfl):PG X (.Subscript o i pos) (uZ to ti t):=by
 intro J3 s σ H v u Q I r h;rw[ha];refine ak (ik (bU (ho J3 s σ H _ I h) fun ov s1 zq0=>?_));obtain⟨x,H1,I1,r1,q1⟩:=zq0;refine ak (ik (bU (hi J3 s1 σ H1 _ I1 q1) fun iv s2 zq0=>?_));obtain⟨y,H2,I2,r2,q2⟩:=zq0;refine ak (wpAny_standAt (ak (ik (bU (hs J3 s2 σ H2 x y v ov iv u _ I2 r1 r2 r q2) fun _ s3 zq0=>?_))));obtain⟨H3,I3,q3⟩:=zq0;exact wpAny_release ⟨σ,H3,I3,q3⟩
def aM(te:TE)(g:TG):TS:=fun D σ H=>te σ H fun x H1=>g x σ H1 D.nx
theorem lM{tg e:Expr}{te:TE}{g:TG}(he:PE X e te)(hg:PG X tg g)(hs:swapsWithSole [tg] e pos.line X.env=pure false:=by rfl)(hw:swappedStores [tg] e X.env=pure none:=by rfl)
  (h1:(pK [tg] X.env).map (·.2)=[assign tg X.env]:=by rfl):PS X (.Assign [tg] e pos) (aM te g):=by
 intro J3 s σ H D I h;refine wpAny_Assign_stores (bU (he J3 s σ H _ I h) fun v s1 zq0=>?_) hs hw;obtain⟨x,H1,I1,r1,q1⟩:=zq0;rw[h1];exact bU (hg J3 s1 σ H1 x v _ I1 r1 q1) fun _ s2 q=>q
theorem AB{i:Nat}{x:Str}{e:Expr}{te:TE}{pos':Pos}(hN:X.N.Nodup)(hi:X.N[i]?=some x)(hx:Loc X.env.scope x)(he:PE X e te)(hs:mf e (some (.Name x pos')) pos.line X.env=pure false:=by rfl)(hf:X.fn x=true∨X.env.scope.names.lookup x=some .local:=by first|exact .inl rfl|exact .inr rfl|assumption):
  PS X (.Assign [.Name x pos'] e pos) (aM te (cW i)):=by
 intro J3 s σ H D I h;refine wpAny_Assign_Name (bU (he J3 s σ H _ I h) fun v s1 zq0=>?_) hs;obtain⟨y,H1,I1,r1,q1⟩:=zq0;exact sY I1 hN hi hx r1 (fun s2 I2=>⟨_,H1,I2,q1⟩) hf
end
section
variable{X:Cx}{pos:Pos}
def uv(c:TT)(tb:TS):TS:=fun D σ H=>∃W:Nat->St->Hp->Prop,(∃m,W m σ H)/\∀m σ H,W m σ H ->
 c σ H fun b H1=>if b=true then ∃N:St->Hp->Prop,(∀σ' H',N σ' H'->∃m',m'<m/\W m' σ' H')/\tb { D with nx:=N,ct:=N,bk:=D.nx } σ H1 else D.nx σ H1
theorem tw{c:Expr}{body:List Stmt}{tc:TT}{tb:TS}(hp:PassesOwn (model X.prog X.w) X.A X.env X.xe)(hc:PT X c tc)(hb:uc X body tb):PS X (.While c body [] pos) (uv tc tb):=by
 intro J3 s σ H D I h;obtain⟨W,⟨m0,w0⟩,turn⟩:=h;refine wpAny_While (codeAny_whileLoop (fun n s'=>∃σ' H',Inv X J3 σ' H' s'/\W n σ' H') ?_ m0 ⟨σ,H,I,w0⟩);rintro n s1 ⟨σ1,H1,I1,w1⟩;refine nk hp (bU (hc J3 s1 σ1 H1 _ I1 (turn n σ1 H1 w1)) fun b s2 zq0=>?_);obtain⟨H2,I2,q2⟩:=zq0;cases b with
 |true =>
  obtain⟨N,hN,q2⟩:=q2;rw[if_pos rfl];refine nk hp (bU (hb J3 s2 σ1 H2 _ I2 q2) fun f s3 q3=>?_);cases f with
  |next =>
   obtain⟨σ3,H3,I3,n3⟩:=q3;obtain⟨m',hm,w3⟩:=hN σ3 H3 n3;exact⟨m',hm,σ3,H3,I3,w3⟩
  |cont =>
   obtain⟨σ3,H3,I3,n3⟩:=q3;obtain⟨m',hm,w3⟩:=hN σ3 H3 n3;exact⟨m',hm,σ3,H3,I3,w3⟩
  |brk=>exact q3
  |ret v=>exact q3
 |false =>
  rw[if_neg fN];exact vA ⟨σ1,H2,I2,q2⟩
end
structure It where
 go:Nat->Hp->Prop
 yld:Nat->Hp->V->Hp->Prop
 stop:Nat->Hp->Prop
def kY(X:Cx)(J3:Zd)(H:Hp)(b:Addr):Prop :=
 H b=none/\b≠X.env.locals/\b∉X.fs/\(b∈X.ex∨X.s₀.heap.objs.size<=b)/\(∀x c,X.env.cells.lookup x=some c->c≠b)/\∀p∈X.pn++J3,p.1≠b
theorem Inv.fpOk{X:Cx}{J3:Zd}{σ:St}{H H':Hp}{s:Shared}{b:Addr}(I:Inv X J3 σ H s)(hb:s.heap.objs.size<=b)(hn:H' b=none):kY X J3 H' b:=by
 refine⟨hn,pJ (ei I.lt hb),I.nofs hb,.inr (aO I.sz hb),fun x c e z=>?_,fun p hp z=>?_⟩
 ·obtain⟨v,q⟩:=I.cell x c e;exact absurd (ei q.lt (by rw[z];exact hb)) (gH _)
 ·exact absurd (ei (aP (I.pin p hp).1) (by rw[z];exact hb)) (gH _)
structure tZ(P:bm)(w:World)(K:Za)(tg:Expr)(J:It)(fp:Ze)(it:Addr)(tn:Nat->Heap->Prop):Prop where
 mem:it∈fp
 obj:∀i h,tn i h->∀b∈fp,∃o,h.get? b=some o/\∀v,o.data≠.cell v
 keep:∀i h h',tn i h->(∀b∈fp,∀o,h.get? b=some o->h'.get? b=some o)->tn i h'
 item:∀(X:Cx),X.prog=P->X.w=w->X.K=K->X.calm=true->∀(i:Nat) (J3:Zd) (s:Shared) (σ:St) (H:Hp) (E:Zc),Inv X J3 σ H s->(∀b∈fp,kY X J3 H b)->tn i s.heap->J.go i H ->
  wpAny (model P w) X.A (pyNext (.ref it)) (fun r s1=>∃u,r=some u /\
   wpAny (model P w) X.A (vz tg (.ref it) u) (fun _ s2=>∃x H',Inv X J3 σ H' s2/\RelV x u/\J.yld i H x H'/\tn (i+1) s2.heap/\∀b∈fp,H' b=none) E s1) E s
 done:∀(X:Cx),X.prog=P->X.w=w->X.K=K->X.calm=true->∀(i:Nat) (J3:Zd) (s:Shared) (σ:St) (H:Hp) (E:Zc),Inv X J3 σ H s->(∀b∈fp,kY X J3 H b)->tn i s.heap->J.stop i H ->
  wpAny (model P w) X.A (pyNext (.ref it)) (fun r s1=>r=none/\Inv X J3 σ H s1) E s
 self:∀(A:Around) (i:Nat) (s:Shared) (Q:Zc) (E:Zc),tn i s.heap->Q (.ref it) s->wpAny (model P w) A (pyIter (.ref it)) Q E s
abbrev TI:=St->Hp->(It->Hp->Prop)->Prop
def PIE(X:Cx)(J3:Zd)(σ:St)(tg:Expr)(R:It->Hp->Prop)(itv:Value)(s2:Shared):Prop :=
 ∃(it:Addr) (fp:Ze) (tn:Nat->Heap->Prop) (J:It) (H':Hp),itv=.ref it/\Inv X J3 σ H' s2/\tZ X.prog X.w X.K tg J fp it tn/\tn 0 s2.heap/\(∀b∈fp,kY X J3 H' b)/\R J H'
def PI(X:Cx)(tg iter:Expr)(wi:TI):Prop :=
 ∀(J3:Zd) (s:Shared) (σ:St) (H:Hp) (R:It->Hp->Prop),Inv X J3 σ H s->wi σ H R ->
  wpAny (model X.prog X.w) X.A (eval iter X.env) (fun v s1=>wpAny (model X.prog X.w) X.A (pyIter v) (PIE X J3 σ tg R) X.xe s1) X.xe s
theorem tM{M:Model}{A:Around}{E:Zc}{s:Shared}{tg:Expr}{it:Addr}{u:Value}{o:Obj}{n:String}{vs:Array Value}{Q:Unit->Shared->Prop}(ho:s.heap.get? it=some o)(hc:o.cls=.type n)(hd:o.data=.fields vs)
    (hn:["enumerate","zip","dict_itemiterator","dict_reverseitemiterator","odict_iterator","itertools.zip_longest","itertools.pairwise"].contains n=false) (hQ:Q () s):wpAny M A (vz tg (.ref it) u) Q E s:=by
  unfold vz;cases tg<;>first
    |exact aB hQ
    | (cases u <;> first
        |exact aB hQ
        | (refine ak (wpAny_load ho ?_)
           rw[hc,hd];show wpAny M A (if(["enumerate","zip","dict_itemiterator","dict_reverseitemiterator","odict_iterator","itertools.zip_longest","itertools.pairwise"].contains n && vs[0]?==some (rawInt _))=true then _ else _) Q E s
           rw[if_neg (by intro h;rw[hn,Bool.false_and]at h;cases h)];exact aB hQ))
def yY(K:Za)(a:Addr):It :=
 ⟨fun i H=>∃xs x,av K H a xs/\xs[i]?=some x,fun i H x H'=>H'=H/\∀xs,av K H a xs->xs[i]?=some x,fun i H=>∃xs,av K H a xs/\xs.length<=i⟩
def AX(K:Za)(a:Addr):It :=
 ⟨fun i H=>∃xs x,bp K H a xs/\xs[i]?=some x,fun i H x H'=>H'=H/\∀xs,bp K H a xs->xs[i]?=some x,fun i H=>∃xs,bp K H a xs/\xs.length<=i⟩
def AY(lo:Int)(n:Nat):It:=⟨fun i _=>i<n,fun i H x H'=>H'=H/\x=.int (lo+i),fun i _=>n<=i⟩
theorem pQ{P:bm}{w:World}{K:Za}{tg:Expr}(a it:Addr):tZ P w K tg (yY K a) [it] it (fun i h=>h.IsListIter it a i) where
 mem:=by simp
 obj:=fun i h st b hb=>by
  have e:b=it:=by simpa using hb
  subst e;obtain⟨o,e,c,d⟩:=st;exact⟨o,e,fun v z=>by rw[d]at z;cases z⟩
 keep:=fun i h h' st k=>st.at fun o e=>k it (by simp) o e
 item:=by
  intro X hP hw hK hc i J3 s σ H E I hf st hg;subst hP hw hK;obtain⟨xs,x,hq,hx⟩:=hg;obtain⟨its,rv,p,hz⟩:=I.list hq;obtain⟨u,hu,ru⟩:=rv.get hx;obtain⟨f0,f1,f2,f3,f4,f5⟩:=hf it (by simp);refine wpAny_pyNext_list_item st p.isList (x:=u) (by simpa using hu) fun h' st' sb=>?_;have I1:Inv X J3 σ H { s with heap:=h' }:=I.turned (t':=s.toks) (fun b o hb e=>(sb.2 b hb).trans e) f0 f1 f3 f4 f5;obtain⟨o,e,c,d⟩:=id st';exact⟨u,rfl,tM (s:={ s with heap:=h' }) e c d (by decide) ⟨x,H,I1,ru,⟨rfl,fun ys hy=>by rw[I.list_inj hy hq];exact hx⟩,st',fun b hb=>(hf b hb).1⟩⟩
 done:=by
  intro X hP hw hK hc i J3 s σ H E I hf st hg;subst hP hw hK;obtain⟨xs,hq,hx⟩:=hg;obtain⟨its,rv,p,hz⟩:=I.list hq;obtain⟨f0,f1,f2,f3,f4,f5⟩:=hf it (by simp);have hl:=rv.length;exact wpAny_pyNext_list_end (I.ok.hd hc) st p.isList (by simp;omega) fun h' eb=>⟨rfl,I.turned (t':=s.toks) (fun b o hb e=>eb b o hb e) f0 f1 f3 f4 f5⟩
 self:=fun _ _ _ _ _ st h=>wpAny_pyIter_listiter st h
theorem nN{P:bm}{w:World}{K:Za}{tg:Expr}(a it:Addr):tZ P w K tg (AX K a) [it] it (fun i h=>h.IsTupleIter it a i) where
 mem:=by simp
 obj:=fun i h st b hb=>by
  have e:b=it:=by simpa using hb
  subst e;obtain⟨o,e,c,d⟩:=st;exact⟨o,e,fun v z=>by rw[d]at z;cases z⟩
 keep:=fun i h h' st k=>st.at fun o e=>k it (by simp) o e
 item:=by
  intro X hP hw hK hc i J3 s σ H E I hf st hg;subst hP hw hK;obtain⟨xs,x,hq,hx⟩:=hg;obtain⟨its,rv,p,hz⟩:=I.tuple hq;obtain⟨u,hu,ru⟩:=rv.get hx;obtain⟨f0,f1,f2,f3,f4,f5⟩:=hf it (by simp);refine wpAny_pyNext_tuple_item st (show s.heap.IsTuple a its.toArray from p) (x:=u) (by simpa using hu) fun h' st' sb=>?_;have I1:Inv X J3 σ H { s with heap:=h' }:=I.turned (t':=s.toks) (fun b o hb e=>(sb.2 b hb).trans e) f0 f1 f3 f4 f5;obtain⟨o,e,c,d⟩:=id st';exact⟨u,rfl,tM (s:={ s with heap:=h' }) e c d (by decide) ⟨x,H,I1,ru,⟨rfl,fun ys hy=>by rw[I.tuple_inj hy hq];exact hx⟩,st',fun b hb=>(hf b hb).1⟩⟩
 done:=by
  intro X hP hw hK hc i J3 s σ H E I hf st hg;subst hP hw hK;obtain⟨xs,hq,hx⟩:=hg;obtain⟨its,rv,p,hz⟩:=I.tuple hq;obtain⟨f0,f1,f2,f3,f4,f5⟩:=hf it (by simp);have hl:=rv.length;exact wpAny_pyNext_tuple_end (I.ok.hd hc) st (show s.heap.IsTuple a its.toArray from p) (by simp;omega) fun h' eb=>⟨rfl,I.turned (t':=s.toks) (fun b o hb e=>eb b o hb e) f0 f1 f3 f4 f5⟩
 self:=fun _ _ _ _ _ st h=>wpAny_pyIter_tupleiter st h
theorem uh{P:bm}{w:World}{K:Za}{tg:Expr}(it:Addr)(lo:Int)(n:Nat):tZ P w K tg (AY lo n) [it] it (fun i h=>IsRangeIter h it (lo+(i:Nat) * 1) ((n:Int)-(i:Nat)) 1) where
 mem:=by simp
 obj:=fun i h st b hb=>by
  have e:b=it:=by simpa using hb
  subst e;exact⟨_,st,fun v z=>by
   have z':Data.fields _=Data.cell v:=z;cases z'⟩
 keep:=fun i h h' st k=>k it (by simp) _ st
 item:=by
  intro X hP hw hK hc i J3 s σ H E I hf st hg;subst hP hw hK;obtain⟨f0,f1,f2,f3,f4,f5⟩:=hf it (by simp);have W:=Walks.range (prog:=X.prog) (w:=X.w) (I.ok.hd hc) it lo 1 n;refine W.item i s _ _ hg st fun v h' tk hv st' kk=>?_;obtain⟨t,rfl⟩:=hv;have I1:Inv X J3 σ H { s with heap:=h',toks:=tk }:=I.turned (fun b o hb e=>kk b o (by simpa using hb) e) f0 f1 f3 f4 f5;refine⟨_,rfl,tM (s:={ s with heap:=h',toks:=tk }) (n:="range_iterator") st' rfl rfl (by decide) ⟨.int (lo+i),H,I1,⟨t,?_⟩,⟨rfl,rfl⟩,st',fun b hb=>(hf b hb).1⟩⟩;rw[Int.mul_one]
 done:=by
  intro X hP hw hK hc i J3 s σ H E I hf st hg;subst hP hw hK;obtain⟨f0,f1,f2,f3,f4,f5⟩:=hf it (by simp);exact wpAny_pyNext_range_end (I.ok.hd hc) st (by have:n<=i:=hg;omega) fun h' eb=>⟨rfl,I.turned (t':=s.toks) (fun b o hb e=>eb b o hb e) f0 f1 f3 f4 f5⟩
 self:=fun _ _ _ _ _ st h=>wpAny_pyIter_rangeiter st h
end L2
namespace L2
open PySem PySem.Spec PyProof.Rows
section
variable{X:Cx}{tg:Expr}
def bE(K:Za)(tl:TE):TI:=fun σ H R=>tl σ H fun x H1=>∃a,x=.ref a/\(∃xs,av K H1 a xs)/\R (yY K a) H1
def wJ(K:Za)(tl:TE):TI:=fun σ H R=>tl σ H fun x H1=>∃a,x=.ref a/\(∃xs,bp K H1 a xs)/\R (AX K a) H1
theorem aH{l:Expr}{tl:TE}(hl:PE X l tl):PI X tg l (bE X.K tl):=by
 intro J3 s σ H R I h;refine bU (hl J3 s σ H _ I h) fun v s1 zq0=>?_;obtain⟨x,H1,I1,r1,q1⟩:=zq0;obtain⟨a,e,⟨xs,hq⟩,q⟩:=q1;subst e;cases r1;obtain⟨its,rv,p,hz⟩:=I1.list hq;refine sE p.isList ?_;refine⟨s1.heap.objs.size,[s1.heap.objs.size],_,_,H1,rfl,I1.kept (t':=s1.toks) fun b o e=>bj _ e,pQ a _,⟨_,cO _ rfl,rfl,rfl⟩,fun b hb=>?_,q⟩;have e:b=s1.heap.objs.size:=by simpa using hb
 subst e;exact I1.fpOk (az _) (I1.hok.fresh (az _))
theorem oj{l:Expr}{tl:TE}(hl:PE X l tl):PI X tg l (wJ X.K tl):=by
 intro J3 s σ H R I h;refine bU (hl J3 s σ H _ I h) fun v s1 zq0=>?_;obtain⟨x,H1,I1,r1,q1⟩:=zq0;obtain⟨a,e,⟨xs,hq⟩,q⟩:=q1;subst e;cases r1;obtain⟨its,rv,p,hz⟩:=I1.tuple hq;refine wpAny_pyIter_tuple (show s1.heap.IsTuple a its.toArray from p) ?_;refine⟨s1.heap.objs.size,[s1.heap.objs.size],_,_,H1,rfl,I1.kept (t':=s1.toks) fun b o e=>bj _ e,nN a _,⟨_,cO _ rfl,rfl,rfl⟩,fun b hb=>?_,q⟩;have e:b=s1.heap.objs.size:=by simpa using hb
 subst e;exact I1.fpOk (az _) (I1.hok.fresh (az _))
theorem xK{J3:Zd}{σ:St}{H:Hp}{s:Shared}{R:It->Hp->Prop}{E:Zc}{lo hi:Int}{t u v:Tok}{tk:Nat}(I:Inv X J3 σ H s)(h1:-(2 ^ 62)<=lo)(h2:lo<2 ^ 62)(h3:-(2 ^ 62)<=hi)(h4:hi<2 ^ 62)
  (q:R (AY lo (hi-lo).toNat) H):wpAny (model X.prog X.w) X.A (pyIter (.ref s.heap.objs.size)) (PIE X J3 σ tg R) E { s with heap:=s.heap.push { cls:=.type "range",data:=.fields #[.int lo t,.int hi u,.int 1 v] },toks:=tk }:=by
 refine wpAny_pyIter_range (IsRange.new ..) (small_one h1 h2 h3 h4) ?_;have I1:Inv X J3 σ H { s with heap:=s.heap.push { cls:=.type "range",data:=.fields #[.int lo t,.int hi u,.int 1 v] },toks:=tk }:=I.kept fun b o e=>bj _ e;refine⟨(s.heap.push { cls:=.type "range",data:=.fields #[.int lo t,.int hi u,.int 1 v] }).objs.size,[(s.heap.push { cls:=.type "range",data:=.fields #[.int lo t,.int hi u,.int 1 v] }).objs.size],_,_,H,rfl,
  I1.kept (t':=tk) fun b o e=>bj _ e,uh _ lo (hi-lo).toNat,?_,fun b hb=>?_,q⟩
 ·have e1:lo+((0:Nat):Int) * 1=lo:=by simp
  have e2:(((hi-lo).toNat:Nat):Int)-((0:Nat):Int)=cf.Range.rangeSize lo hi 1:=by rw[rangeSize_one];split<;>omega
  show IsRangeIter _ _ (lo+((0:Nat):Int) * 1) ((((hi-lo).toNat:Nat):Int)-((0:Nat):Int)) 1;rw[e1,e2];exact cO _ rfl
 ·have e:b=(s.heap.push { cls:=.type "range",data:=.fields #[.int lo t,.int hi u,.int 1 v] }).objs.size:=by simpa using hb
  subst e;exact I1.fpOk (az _) (I1.hok.fresh (az _))
def mq(ta:TA):TI:=fun σ H R=>ta σ H fun vs H1=>∃j:Int,vs=[.int j]/\-(2 ^ 62)<=j/\j<2 ^ 62/\R (AY 0 j.toNat) H1
theorem eD{a:Expr}{ta:TA}{p pos:Pos}(hg:Gl X "range")(hm:X.mg "range"=none)(ha:PA X [a] ta)(hs:aA [a] X.env=[(false,eval a X.env)]:=by rfl):PI X tg (.Call (.Name "range" p) [a] [] pos) (mq ta):=by
 intro J3 s σ H R I h;refine Call_ (rC I hg hm boot_range (PyProof.Rows.callWith_type1 (bU (ha pos J3 s σ H _ I h) fun us s1 zq0=>?_) hs rfl));obtain⟨vs,H1,I1,r1,q1⟩:=zq0;obtain⟨j,e,q1,q2,q⟩:=q1;subst e;cases r1 with
 |cons r rr =>
  cases rr;obtain⟨t,rfl⟩:=r;exact call_range_1 (xK I1 (by omega) (by omega) q1 q2 (by simpa using q))
def dX(wi:TI)(g:TG)(tb:TS):TS:=fun D σ H=>wi σ H fun J H1=>∃W:Nat->Nat->St->Hp->Prop,(∃m,W 0 m σ H1)/\∀i m σ H,W i m σ H ->
 (J.stop i H/\D.nx σ H)∨(J.go i H/\∃N:St->Hp->Prop,(∀σ' H',N σ' H'->∃m',m'<m/\W (i+1) m' σ' H')/\∀x H',J.yld i H x H'->g x σ H' fun σ2 H2=>tb { D with nx:=N,ct:=N,bk:=D.nx } σ2 H2)
def oi(fp:Ze)(h:Heap):List (Addr×Obj):=fp.filterMap fun b=>(h.get? b).map fun o=>(b,o)
theorem gX{fp:Ze}{h:Heap}{b:Addr}{o:Obj}(hb:b∈fp)(e:h.get? b=some o):(b,o)∈oi fp h:=List.mem_filterMap.mpr ⟨b,hb,by rw[e];rfl⟩
theorem wA{fp:Ze}{h:Heap}{p:Addr×Obj}(hp:p∈oi fp h):p.1∈fp/\h.get? p.1=some p.2:=by
 obtain⟨b,hb,e⟩:=List.mem_filterMap.mp hp;cases q:h.get? b with
 |none=>rw[q]at e;cases e
 |some o =>
  rw[q]at e;have e':(b,o)=p:=di e;subst e';exact⟨hb,q⟩
theorem Inv.pinned{J3:Zd}{σ:St}{H:Hp}{s:Shared}{fp:Ze}(I:Inv X J3 σ H s)(hf:∀b∈fp,kY X J3 H b)(ho:∀b∈fp,∃o,s.heap.get? b=some o/\∀v,o.data≠.cell v):Inv X (J3++oi fp s.heap) σ H s :=
 I.pins_of fun p hp=>(aR.mp hp).elim (fun z=>I.pin p (cN _ z)) fun z=>by
  obtain⟨hb,e⟩:=wA z;obtain⟨f0,f1,f2,_⟩:=hf p.1 hb;obtain⟨o,e',d⟩:=ho p.1 hb;rw[e]at e';cases e';exact⟨e,f0,f1,f2,d⟩
theorem Inv.unpinned{J3 pl:Zd}{σ:St}{H:Hp}{s:Shared}(I:Inv X (J3++pl) σ H s):Inv X J3 σ H s:=I.pins_of fun p hp=>I.pin p (cN _ (cH _ hp))
theorem bx{iter:Expr}{body:List Stmt}{wi:TI}{g:TG}{tb:TS}{pos:Pos}(hp:PassesOwn (model X.prog X.w) X.A X.env X.xe)(hc:X.calm=true)(hi:PI X tg iter wi)(hg:PG X tg g)(hb:uc X body tb)
  (hs:∀x,sD iter X.env x=pure x:=by intro _;rfl):PS X (.For tg iter body [] pos) (dX wi g tb):=by
 intro J3 s σ H D I h;refine wpAny_For (bU (hi J3 s σ H _ I h) fun v s1 h1=>bU h1 fun itv s2 h2=>?_) hs;obtain⟨it,fp,tn,J,H2,e,I2,T,st2,f2,W,⟨m0,w0⟩,turn⟩:=h2;subst e;have stat:∀{H':Hp},(∀b∈fp,H' b=none)->∀b∈fp,kY X J3 H' b:=fun hn b hb=>⟨hn b hb,(f2 b hb).2⟩;refine codeAny_forLoop_any (fun n s'=>∃i σ' H',Inv X J3 σ' H' s'/\tn i s'.heap/\(∀b∈fp,H' b=none)/\W i n σ' H') ?_ m0 ⟨0,σ,H2,I2,st2,fun b hb=>(f2 b hb).1,w0⟩;rintro n s3 ⟨i,σ3,H3,I3,st3,fr3,w3⟩;rcases turn i n σ3 H3 w3 with⟨stop,qn⟩|⟨go,N,hN,step⟩
 ·refine nk hp (bU (T.done X rfl rfl rfl hc i J3 s3 σ3 H3 X.xe I3 (stat fr3) st3 stop) fun r s4 zq0=>?_);obtain⟨hr,I4⟩:=zq0;subst hr;exact vA ⟨σ3,H3,I4,qn⟩
 ·refine nk hp (bU (T.item X rfl rfl rfl hc i J3 s3 σ3 H3 X.xe I3 (stat fr3) st3 go) fun r s4 zq0=>?_);obtain⟨u,hr,h4⟩:=zq0;subst hr;refine nk hp (bU h4 fun _ s5 zq0=>?_);obtain⟨x,H5,I5,r5,y5,st5,fr5⟩:=zq0;have I5':=I5.pinned (stat fr5) (T.obj _ _ st5);refine nk hp (bU (hg _ s5 σ3 H5 x u _ I5' r5 (step x H5 y5)) fun _ s6 zq0=>?_);obtain⟨σ6,H6,I6,q6⟩:=zq0;refine nk hp (bU (hb _ s6 σ6 H6 _ I6 q6) fun f s7 q7=>?_);have again:∀{σ7:St}{H7:Hp},Inv X (J3++oi fp s5.heap) σ7 H7 s7->N σ7 H7->∃m,m<n/\∃i σ' H',Inv X J3 σ' H' s7/\tn i s7.heap/\(∀b∈fp,H' b=none)/\W i m σ' H':=fun{σ7 H7} I7 n7=>by
   obtain⟨m',hm,w7⟩:=hN σ7 H7 n7;refine⟨m',hm,i+1,σ7,H7,I7.unpinned,T.keep _ _ _ st5 fun b hb o e=>(I7.pin (b,o) (cN _ (cN _ (gX hb e)))).1,fun b hb=>?_,w7⟩;obtain⟨o,e,d⟩:=T.obj _ _ st5 b hb;exact(I7.pin (b,o) (cN _ (cN _ (gX hb e)))).2.1
  cases f with
  |next=>obtain⟨σ7,H7,I7,n7⟩:=q7;exact again I7 n7
  |cont=>obtain⟨σ7,H7,I7,n7⟩:=q7;exact again I7 n7
  |brk=>obtain⟨σ7,H7,I7,q7⟩:=q7;exact⟨σ7,H7,I7.unpinned,q7⟩
  |ret v=>obtain⟨x7,σ7,H7,I7,r7,q7⟩:=q7;exact⟨x7,σ7,H7,I7.unpinned,r7,q7⟩
end
theorem bP{K:Za}{a:Addr}{xs:List V}{g:TG}{tb:TS}{D:mV}{σ:St}{H:Hp}(Pv:Nat->St->Hp->Prop)(h0:Pv 0 σ H)(hl:∀i σ H,i<=xs.length->Pv i σ H->av K H a xs)
  (hs:∀i x σ H,xs[i]?=some x->Pv i σ H->g x σ H fun σ2 H2=>tb { D with nx:=Pv (i+1),ct:=Pv (i+1),bk:=D.nx } σ2 H2) (hd:∀σ H,Pv xs.length σ H->D.nx σ H) :
  ∃W:Nat->Nat->St->Hp->Prop,(∃m,W 0 m σ H)/\∀i m σ H,W i m σ H ->
   ((yY K a).stop i H/\D.nx σ H)∨((yY K a).go i H/\∃N:St->Hp->Prop,(∀σ' H',N σ' H'->∃m',m'<m/\W (i+1) m' σ' H')/\∀x H',(yY K a).yld i H x H'->g x σ H' fun σ2 H2=>tb { D with nx:=N,ct:=N,bk:=D.nx } σ2 H2):=by
 refine⟨fun i m σ H=>m=xs.length-i/\i<=xs.length/\Pv i σ H,⟨xs.length,by simp,cM _,h0⟩,?_⟩;rintro i m σ H ⟨rfl,hi,p⟩;have q:=hl i σ H hi p;by_cases hlt:i<xs.length
 ·refine .inr ⟨⟨xs,xs[i],q,by simp[hlt]⟩,Pv (i+1),fun σ' H' p'=>⟨xs.length-(i+1),by omega,rfl,hlt,p'⟩,fun x H' y=>?_⟩;obtain⟨e,y⟩:=y;subst e;exact hs i x σ _ (y xs q) p
 ·have e:i=xs.length:=by omega
  subst e;exact .inl ⟨⟨xs,q,az _⟩,hd σ H p⟩
theorem rQ{K:Za}{a:Addr}{xs:List V}{g:TG}{tb:TS}{D:mV}{σ:St}{H:Hp}(Pv:Nat->St->Hp->Prop)(h0:Pv 0 σ H)(hl:∀i σ H,i<=xs.length->Pv i σ H->bp K H a xs)
  (hs:∀i x σ H,xs[i]?=some x->Pv i σ H->g x σ H fun σ2 H2=>tb { D with nx:=Pv (i+1),ct:=Pv (i+1),bk:=D.nx } σ2 H2) (hd:∀σ H,Pv xs.length σ H->D.nx σ H) :
  ∃W:Nat->Nat->St->Hp->Prop,(∃m,W 0 m σ H)/\∀i m σ H,W i m σ H ->
   ((AX K a).stop i H/\D.nx σ H)∨((AX K a).go i H/\∃N:St->Hp->Prop,(∀σ' H',N σ' H'->∃m',m'<m/\W (i+1) m' σ' H')/\∀x H',(AX K a).yld i H x H'->g x σ H' fun σ2 H2=>tb { D with nx:=N,ct:=N,bk:=D.nx } σ2 H2):=by
 refine⟨fun i m σ H=>m=xs.length-i/\i<=xs.length/\Pv i σ H,⟨xs.length,by simp,cM _,h0⟩,?_⟩;rintro i m σ H ⟨rfl,hi,p⟩;have q:=hl i σ H hi p;by_cases hlt:i<xs.length
 ·refine .inr ⟨⟨xs,xs[i],q,by simp[hlt]⟩,Pv (i+1),fun σ' H' p'=>⟨xs.length-(i+1),by omega,rfl,hlt,p'⟩,fun x H' y=>?_⟩;obtain⟨e,y⟩:=y;subst e;exact hs i x σ _ (y xs q) p
 ·have e:i=xs.length:=by omega
  subst e;exact .inl ⟨⟨xs,q,az _⟩,hd σ H p⟩
theorem fM{lo:Int}{n:Nat}{g:TG}{tb:TS}{D:mV}{σ:St}{H:Hp}(Pv:Nat->St->Hp->Prop)(h0:Pv 0 σ H)
  (hs:∀i σ H,i<n->Pv i σ H->g (.int (lo+i)) σ H fun σ2 H2=>tb { D with nx:=Pv (i+1),ct:=Pv (i+1),bk:=D.nx } σ2 H2) (hd:∀σ H,Pv n σ H->D.nx σ H) :
  ∃W:Nat->Nat->St->Hp->Prop,(∃m,W 0 m σ H)/\∀i m σ H,W i m σ H ->
   ((AY lo n).stop i H/\D.nx σ H)∨((AY lo n).go i H/\∃N:St->Hp->Prop,(∀σ' H',N σ' H'->∃m',m'<m/\W (i+1) m' σ' H')/\∀x H',(AY lo n).yld i H x H'->g x σ H' fun σ2 H2=>tb { D with nx:=N,ct:=N,bk:=D.nx } σ2 H2):=by
 refine⟨fun i m σ H=>m=n-i/\i<=n/\Pv i σ H,⟨n,by simp,cM _,h0⟩,?_⟩;rintro i m σ H ⟨rfl,hi,p⟩;by_cases hlt:i<n
 ·refine .inr ⟨hlt,Pv (i+1),fun σ' H' p'=>⟨n-(i+1),by omega,rfl,hlt,p'⟩,fun x H' y=>?_⟩;obtain⟨e,y⟩:=y;subst e y;exact hs i σ _ hlt p
 ·have e:i=n:=by omega
  subst e;exact .inl ⟨az _,hd σ H p⟩
end L2
namespace L2
open PySem PySem.Spec PyProof.Rows
abbrev R2:=V->V->Hp->VK->Prop
def jH(X:Cx)(f:Value->Value->Sem Value)(r:R2):Prop :=
 ∀(J3:Zd) (s:Shared) (σ:St) (H:Hp) (x y:V) (v u:Value) (Q:VK),Inv X J3 σ H s->RelV x v->RelV y u->r x y H Q ->
  wpAny (model X.prog X.w) X.A (f v u) (EP X J3 σ Q) X.xe s
def d7(X:Cx)(f:Value)(r:List V->Hp->VK->Prop):Prop :=
 ∀(J3:Zd) (s:Shared) (σ:St) (H:Hp) (xs:List V) (us:Zf) (Q:VK),Inv X J3 σ H s->aL xs us->r xs H Q ->
  wpAny (model X.prog X.w) X.A (call f us) (EP X J3 σ Q) X.xe s
def aF(r:R2)(ta tb:TE):TE:=fun σ H Q=>ta σ H fun x H1=>tb σ H1 fun y H2=>r x y H2 Q
def rI(C:Int->Int->Prop)(g:Int->Int->V):R2:=fun x y H Q=>∃i j,x=.int i/\y=.int j/\C i j/\Q (g i j) H
def w8(g:Int->Int->V):R2:=fun x y H Q=>∃i j,x=.int i/\y=.int j/\Q (g i j) H
section
variable{X:Cx}{a b c:Expr}{ta tb tc:TE}{pos:Pos}
theorem AR(ha:PE X a ta)(hb:PE X b tb){J3:Zd}{s:Shared}{σ:St}{H:Hp}{R:V->V->Hp->Prop}(I:Inv X J3 σ H s)
  (h:ta σ H fun x H1=>tb σ H1 fun y H2=>R x y H2) {Q:Zc}{f:Value->Value->Sem Value}
  (hf:∀v u s2 x y H2,Inv X J3 σ H2 s2->RelV x v->RelV y u->R x y H2->wpAny (model X.prog X.w) X.A (f v u) Q X.xe s2) :
  wpAny (model X.prog X.w) X.A (eval a X.env) (fun v s₁=>wpAny (model X.prog X.w) X.A (eval b X.env) (fun u s₂=>wpAny (model X.prog X.w) X.A (f v u) Q X.xe s₂) X.xe s₁) X.xe s:=by
 refine bU (ha J3 s σ H _ I h) fun v s1 zq0=>?_;obtain⟨x,H1,I1,r1,q1⟩:=zq0;refine bU (hb J3 s1 σ H1 _ I1 q1) fun u s2 zq0=>?_;obtain⟨y,H2,I2,r2,q2⟩:=zq0;exact hf v u s2 x y H2 I2 r1 r2 q2
theorem aE{op:Operator}{r:R2}(ho:jH X (md op) r)(ha:PE X a ta)(hb:PE X b tb):PE X (.BinOp a op b pos) (aF r ta tb):=by
 intro J3 s σ H Q I h;exact wpAny_BinOp (AR ha hb I h fun v u s2 x y H2 I2 rx ry q=>ho J3 s2 σ H2 x y v u Q I2 rx ry q)
theorem Bt{f:Value->Value->Sem Value}{C:Int->Int->Prop}{g:Int->Int->Int}
  (rule:∀(i j:Int) (t u:Tok) (s:Shared) (Q:Zc) (E:Zc),C i j->Q (.int (g i j) s.toks) { s with toks:=s.toks+1 }->wpAny (model X.prog X.w) X.A (f (.int i t) (.int j u)) Q E s) :
  jH X f (rI C fun i j=>.int (g i j)):=by
 intro J3 s σ H x y v u Q I rx ry h;obtain⟨i,j,rfl,rfl,hc,q⟩:=h;obtain⟨t,rfl⟩:=rx;obtain⟨t',rfl⟩:=ry;exact rule i j t t' s _ _ hc ⟨.int (g i j),H,I.tok _,⟨_,rfl⟩,q⟩
theorem opI0{f:Value->Value->Sem Value}{g:Int->Int->Int}
  (rule:∀(i j:Int) (t u:Tok) (s:Shared) (Q:Zc) (E:Zc),Q (.int (g i j) s.toks) { s with toks:=s.toks+1 }->wpAny (model X.prog X.w) X.A (f (.int i t) (.int j u)) Q E s) :
  jH X f (w8 fun i j=>.int (g i j)):=by
 intro J3 s σ H x y v u Q I rx ry h;obtain⟨i,j,rfl,rfl,q⟩:=h;obtain⟨t,rfl⟩:=rx;obtain⟨t',rfl⟩:=ry;exact rule i j t t' s _ _ ⟨.int (g i j),H,I.tok _,⟨_,rfl⟩,q⟩
theorem zO{f:Value->Value->Sem Value}{g:Int->Int->Bool}
  (rule:∀(i j:Int) (t u:Tok) (s:Shared) (Q:Zc) (E:Zc),Q (.bool (g i j)) s->wpAny (model X.prog X.w) X.A (f (.int i t) (.int j u)) Q E s) :
  jH X f (w8 fun i j=>.bl (g i j)):=by
 intro J3 s σ H x y v u Q I rx ry h;obtain⟨i,j,rfl,rfl,q⟩:=h;obtain⟨t,rfl⟩:=rx;obtain⟨t',rfl⟩:=ry;exact rule i j t t' s _ _ ⟨.bl (g i j),H,I,rfl,q⟩
def Bq(i j:Int):Prop:=0<j/\j<1073741824
def Bp(i j:Int):Prop:=0<=j/\j<=1000000/\i.natAbs<2 ^ 64
def yV(i j:Int):Prop:=(-(2 ^ 64)<i/\i<2 ^ 64)∨(-(2 ^ 64)<j/\j<2 ^ 64)
theorem yV.ok{i j:Int}(h:yV i j):IntMulOk i j:=by
 rcases h with⟨h1,h2⟩|⟨h1,h2⟩
 ·exact .of_left (intBits_le_64 h1 h2)
 ·exact .of_right (intBits_le_64 h1 h2)
theorem bS:jH X (md .Add) (w8 fun i j=>.int (i+j)):=opI0 fun _ _ _ _ _ _ _ q=>add_int q
theorem fT:jH X (md .Mult) (rI yV fun i j=>.int (i * j)):=Bt fun _ _ _ _ _ _ _ hc q=>mul_int q hc.ok
theorem vQ:jH X (md .FloorDiv) (rI Bq fun i j=>.int (i / j)):=Bt fun i j _ _ _ _ _ hc q=>by
 have h1:(0:Int)<j:=hc.1;have h2:j<1073741824:=hc.2;exact floordiv_int (by omega) (by rw[Int.fdiv_eq_ediv_of_nonneg i (by omega)];exact q) (.inl (PyProof.noPylong_small (by omega)))
theorem eF:jH X (md .Mod) (rI (fun _ j=>0<j) fun i j=>.int (i % j)):=Bt fun i j _ _ _ _ _ hc q=>by
 have h1:(0:Int)<j:=hc;exact mod_int' (by omega) (by rw[Int.fmod_eq_emod_of_nonneg i (by omega)];exact q)
theorem xV:jH X (md .Pow) (rI Bp fun i j=>.int (i ^ j.toNat)):=Bt fun _ _ _ _ _ _ _ hc q=>pow_int_small hc.1 hc.2.1 hc.2.2 q
end
def A7:V->V->Bool
 |.non,.non=>true | .non,.int _=>true | .int _,.non=>true | .non,.bl _=>true | .bl _,.non=>true | .non,.str _=>true | .str _,.non=>true
 |.int _,.int _=>true | .bl _,.bl _=>true | .str _,.str _=>true | .byt _,.byt _=>true
 |.int _,.str _=>true | .str _,.int _=>true | .bl _,.str _=>true | .str _,.bl _=>true
 |_,_=>false
def Az:R2:=fun x y H Q=>A7 x y=true/\Q (.bl (decide (x=y))) H
def Bs:R2:=fun x y H Q=>A7 x y=true/\Q (.bl (!decide (x=y))) H
theorem v4{i j:Int}:decide (V.int i=V.int j)=(i==j):=by
 rw[pI];simp
theorem yD{i j:Bool}:decide (V.bl i=V.bl j)=(i==j):=by
 rw[pI];simp
theorem v2{i j:Str}:decide (V.str i=V.str j)=(i==j):=by
 rw[pI];simp
theorem v5{i j:Array UInt8}:decide (V.byt i=V.byt j)=(i.toList==j.toList):=by
 rw[pI];cases i;cases j;simp
section
variable{X:Cx}{a b c:Expr}{ta tb tc:TE}{pos:Pos}
theorem bd{J3:Zd}{σ:St}{H:Hp}{s:Shared}{Q:VK}{k k':Bool}(I:Inv X J3 σ H s)(q:Q (.bl k) H)(e:k=k'):EP X J3 σ Q (.bool k') s:=by
 subst e;exact⟨.bl k,H,I,rfl,q⟩
theorem pW:jH X (cP .Eq) Az:=by
 intro J3 s σ H x y v u Q I rx ry h;obtain⟨hs,q⟩:=h;cases x with
 |non =>
  cases rx;cases y with
  |non=>cases ry;exact PySem.EqNone.eq_none_none (bd I q (by simp))
  |bl j=>cases ry;exact PySem.EqNone.eq_none_bool (bd I q (by simp))
  |int j=>obtain⟨t',rfl⟩:=ry;exact PySem.EqNone.eq_none_int (bd I q (by simp))
  |str j=>obtain⟨t',rfl⟩:=ry;exact PySem.EqNone.eq_none_str (bd I q (by simp))
  |_=>exact absurd (show false=true from hs) fN
 |bl i =>
  cases rx;cases y with
  |non=>cases ry;exact PySem.EqNone.eq_bool_none (bd I q (by simp))
  |bl j=>cases ry;exact eq_bool (bd I q yD)
  |str j=>obtain⟨t',rfl⟩:=ry;exact PySem.EqMixed.eq_bool_str (bd I q (by simp))
  |_=>exact absurd (show false=true from hs) fN
 |int i =>
  obtain⟨t,rfl⟩:=rx;cases y with
  |non=>cases ry;exact PySem.EqNone.eq_int_none (bd I q (by simp))
  |int j=>obtain⟨t',rfl⟩:=ry;exact eq_int (bd I q v4)
  |str j=>obtain⟨t',rfl⟩:=ry;exact PySem.EqMixed.eq_int_str (bd I q (by simp))
  |_=>exact absurd (show false=true from hs) fN
 |str i =>
  obtain⟨t,rfl⟩:=rx;cases y with
  |non=>cases ry;exact PySem.EqNone.eq_str_none (bd I q (by simp))
  |bl j=>cases ry;exact PySem.EqMixed.eq_str_bool (bd I q (by simp))
  |int j=>obtain⟨t',rfl⟩:=ry;exact PySem.EqMixed.eq_str_int (bd I q (by simp))
  |str j=>obtain⟨t',rfl⟩:=ry;exact eq_str (bd I q v2)
  |_=>exact absurd (show false=true from hs) fN
 |byt i =>
  obtain⟨t,rfl⟩:=rx;cases y with
  |byt j=>obtain⟨t',rfl⟩:=ry;exact PySem.W.eq_bytes (bd I q v5)
  |_=>exact absurd (show false=true from hs) fN
 |_=>cases y<;>exact absurd (show false=true from hs) fN
theorem xW:jH X (cP .NotEq) Bs:=by
 intro J3 s σ H x y v u Q I rx ry h;obtain⟨hs,q⟩:=h;cases x with
 |non =>
  cases rx;cases y with
  |non=>cases ry;exact PySem.EqNone.ne_none_none (bd I q (by simp))
  |bl j=>cases ry;exact PySem.EqNone.ne_none_bool (bd I q (by simp))
  |int j=>obtain⟨t',rfl⟩:=ry;exact PySem.EqNone.ne_none_int (bd I q (by simp))
  |str j=>obtain⟨t',rfl⟩:=ry;exact PySem.EqNone.ne_none_str (bd I q (by simp))
  |_=>exact absurd (show false=true from hs) fN
 |bl i =>
  cases rx;cases y with
  |non=>cases ry;exact PySem.EqNone.ne_bool_none (bd I q (by simp))
  |bl j=>cases ry;exact ne_bool (bd I q (congrArg not yD))
  |str j=>obtain⟨t',rfl⟩:=ry;exact PySem.EqMixed.ne_bool_str (bd I q (by simp))
  |_=>exact absurd (show false=true from hs) fN
 |int i =>
  obtain⟨t,rfl⟩:=rx;cases y with
  |non=>cases ry;exact PySem.EqNone.ne_int_none (bd I q (by simp))
  |int j=>obtain⟨t',rfl⟩:=ry;exact ne_int (bd I q (congrArg not v4))
  |str j=>obtain⟨t',rfl⟩:=ry;exact PySem.EqMixed.ne_int_str (bd I q (by simp))
  |_=>exact absurd (show false=true from hs) fN
 |str i =>
  obtain⟨t,rfl⟩:=rx;cases y with
  |non=>cases ry;exact PySem.EqNone.ne_str_none (bd I q (by simp))
  |bl j=>cases ry;exact PySem.EqMixed.ne_str_bool (bd I q (by simp))
  |int j=>obtain⟨t',rfl⟩:=ry;exact PySem.EqMixed.ne_str_int (bd I q (by simp))
  |str j=>obtain⟨t',rfl⟩:=ry;exact ne_str (bd I q (congrArg not v2))
  |_=>exact absurd (show false=true from hs) fN
 |byt i =>
  obtain⟨t,rfl⟩:=rx;cases y with
  |byt j=>obtain⟨t',rfl⟩:=ry;exact PySem.W.ne_bytes (bd I q (congrArg not v5))
  |_=>exact absurd (show false=true from hs) fN
 |_=>cases y<;>exact absurd (show false=true from hs) fN
theorem xX:jH X (cP .Lt) (w8 fun i j=>.bl (decide (i<j))):=zO fun _ _ _ _ _ _ _ q=>lt_int q
theorem Bc:jH X (cP .LtE) (w8 fun i j=>.bl (decide (i<=j))):=zO fun _ _ _ _ _ _ _ q=>le_int q
theorem xY:jH X (cP .Gt) (w8 fun i j=>.bl (decide (j<i))):=zO fun _ _ _ _ _ _ _ q=>gt_int q
theorem Bd:jH X (cP .GtE) (w8 fun i j=>.bl (decide (j<=i))):=zO fun _ _ _ _ _ _ _ q=>ge_int q
theorem wz:jH X (cP .In) (fun x y H Q=>∃i j,x=.str i/\y=.str j/\Q (.bl (!(cf.Str.occurrences j i 0 j.length 1).isEmpty)) H):=by
 intro J3 s σ H x y v u Q I rx ry h;obtain⟨i,j,rfl,rfl,q⟩:=h;obtain⟨t,rfl⟩:=rx;obtain⟨t',rfl⟩:=ry;exact in_str (bd I q rfl)
theorem yb(b:Expr){op:CmpOp}(h:op≠.In:=by decide)(h2:op≠.NotIn:=by decide):hE op b=false:=by
 have e1:(op==CmpOp.In)=false:=by cases op<;>first|rfl|exact absurd rfl h
 have e2:(op==CmpOp.NotIn)=false:=by cases op<;>first|rfl|exact absurd rfl h2
 cases b<;>simp[hE,e1,e2]
theorem vO{op:CmpOp}{r:R2}(ho:jH X (cP op) r)(ha:PE X a ta)(hb:PE X b tb)(hm:hE op b=false):PE X (.Compare a [op] [b] pos) (aF r ta tb):=by
 intro J3 s σ H Q I h;exact wpAny_Compare1 (AR ha hb I h fun v u s2 x y H2 I2 rx ry q=>ho J3 s2 σ H2 x y v u Q I2 rx ry q) hm
def bc(t:TE):TT:=fun σ H Q=>t σ H fun x H'=>∃k,x=.bl k/\Q k H'
theorem vL{op:CmpOp}{r:R2}(ho:jH X (cP op) r)(ha:PE X a ta)(hb:PE X b tb)(hm:hE op b=false):PT X (.Compare a [op] [b] pos) (bc (aF r ta tb)):=by
 intro J3 s σ H Q I h;refine wpAny_isTrue_Compare1 (bU (ha J3 s σ H _ I h) fun v s1 ⟨x,H1,I1,r1,q1⟩=>bU (hb J3 s1 σ H1 _ I1 q1) fun u s2 ⟨y,H2,I2,r2,q2⟩ =>
  bU (ho J3 s2 σ H2 x y v u _ I2 r1 r2 q2) fun c s3 ⟨z,H3,I3,r3,k,e,q3⟩=>?_) hm
 subst e;cases r3;exact mj ⟨H3,I3,q3⟩
theorem lR:(aj:Nat)<2 ^ 63:=by rw[vy];decide
theorem oq:jH X (md .Add) (fun x y H Q=>∃i j,x=.str i/\y=.str j/\i.length+j.length<=aj/\Q (.str (i++j)) H):=by
 intro J3 s σ H x y v u Q I rx ry h;obtain⟨i,j,rfl,rfl,hz,q⟩:=h;obtain⟨t,rfl⟩:=rx;obtain⟨t',rfl⟩:=ry;exact add_str (fun t' tk=>⟨.str (i++j),H,I.tok _,⟨_,rfl⟩,q⟩) hz
theorem vals1{x:V}{us:Zf}(r:aL [x] us):∃u,us=[u]/\RelV x u:=by
 cases r with
 |cons r1 r2=>cases r2;exact⟨_,rfl,r1⟩
end
end L2
namespace L2
open PySem PySem.Spec PyProof.Rows
structure ve(h:Heap)(x dx C:Addr)(mA:Str->Option Value):Prop where
 obj:h.get? x=some (mi C dx)
 ns:h.Ns1 dx mA
 ne:dx≠x
theorem wE{h:Heap}{dx:Addr}{mA:Str->Option Value}(n:h.Ns1 dx mA):∃od,h.get? dx=some od/\∀name,vx name od=some (mA name):=by
 obtain⟨o,es,ep,ho,hd,hk,_,hm⟩:=n;refine⟨o,ho,fun name=>?_⟩;have e:=hm name;unfold nsFind findBy at e;rw[<-Array.find?_toList]at e;unfold vx;rw[hd];dsimp only;split
 ·rename_i y q;rw[q]at e;exact congrArg some e
 ·rename_i q;rw[q]at e;have a:es.toList.any (·.refKey)=false:=by
   rw[List.any_eq_false];intro y hy;obtain⟨z,t,hkey⟩:=hk y (Array.mem_toList_iff.mp hy);simp[iq.refKey,hkey]
  have a':¬es.toList.any (·.refKey)=true:=by rw[a];exact fN
  rw[if_neg a'];exact congrArg some e
theorem ve.look{h:Heap}{x dx C:Addr}{mA:Str->Option Value}(I:ve h x dx C mA):∃od,PySem.W.InstAt h x (mi C dx) C (some od)/\∀name,vx name od=some (mA name) :=
 let⟨od,ho,hl⟩:=wE I.ns
 ⟨od,⟨I.obj,rfl,rfl,ho⟩,hl⟩
section
variable{prog:bm}{w:World}{A:Around}{E:Zc}{s:Shared}{K:Za}{x dx C f:Addr}{mA:Str->Option Value}{name:Str}{v:Value}
theorem zR{expr:Bool}{Q:Zc}(X:K.In s.heap)(I:ve s.heap x dx C mA)(hg:sC K C name=true)(hh:vw K C=true)
  (ha:dL K (.ref C) name=some none) (hv:mA name=some v) (hv':PySem.W.handedIn v=true) (h:Q v { s with toks:=s.toks+1 }) :
  wpAny (model prog w) A (getAttr (.ref x) name expr) Q E s:=by
 obtain⟨od,J,hl⟩:=I.look;exact PySem.W.get_value X J (PySem.W.plainGet_of hg).1 (PySem.W.findObj_own hh ha rfl (by rw[hl,hv])) hv' h
theorem yn{pl:Sem Bool}{Q:Value×List Value->Shared->Prop}(X:K.In s.heap)(I:ve s.heap x dx C mA)(hg:sC K C name=true)
  (hf:dL K (.ref C) name=some (some (.ref f))) (ht:sB K (.ref f)=true) (hv:mA name=none) (h:Q (.ref f,[.ref x]) s) :
  wpAny (model prog w) A (ma (.ref x) name pl) Q E s:=by
 obtain⟨od,J,hl⟩:=I.look;exact PySem.W.method_fn X J (PySem.W.plainGet_of hg).1 (PySem.W.plainGet_of hg).2 hf (beq_iff_eq.mp ht) (by show(vx name od).map (·.isSome)=some false;rw[hl,hv];rfl) h
theorem ze{ns:Zb}{Q:Unit->Shared->Prop}(X:K.In s.heap)(I:ve s.heap x dx C mA)
  (hs:dL K (.ref C) "__setattr__"=some (some (.builtin "object.__setattr__"))) (hp:PySem.W.plainOver K C=true) (ht:PySem.W.takerIn K C name=some none) (hh:vw K C=true)
  (hw:PySem.Within mA ns) (hsz:ns.length<=aj)
  (h:∀h',ve h' x dx C (fun y=>if y=name then some v else mA y)->ig dx s.heap h'->Q () { s with heap:=h',toks:=s.toks+2 }) :
  wpAny (model prog w) A (setAttr (.ref x) name v) Q E s:=by
 obtain⟨od,J,hl⟩:=I.look;refine PySem.W.set_plain X J hs (PySem.W.osa_open (s:={ s with toks:=s.toks+1 }) (r:=none) X J hp ht fun b=>?_);obtain⟨cd,hc,hd'⟩:=PySem.W.any_some hh;have hx:s.heap.get? x=some ⟨.ref C,some dx,.plain,#[]⟩:=I.obj;refine ak (aB (ak (ak (wpAny_loadPart hx (ak (PySem.W.Looks.here (s:={ s with toks:=s.toks+1 }) (PySem.W.looks_clsIn X hc) ?_))))));rw[hd'];refine aB (a:=some dx) (ak (aB (ak ?_)));refine wpAny_nsSet1 (s:={ s with toks:=s.toks+1 }) I.ns fun h' hn2 hs2=>?_;obtain⟨oD,esD,epD,hoD,hdD,hcD⟩:=hn2.count (PySem.Within.cons name v hw);refine ak (wpAny_lookBehind hoD (by rw[hdD];exact pastItsLine_dict (aO hcD (by rw[eT];omega))) ?_);exact aB (h _ ⟨(hs2.2 _ (fw I.ne)).trans I.obj,hn2,I.ne⟩ hs2)
theorem yg{R:Result->Shared->Prop}{vs:Zf}{kw:List (Str×Value)}(X:K.In s.heap)(hm:sA K C=true)
  (hi:dL K (.ref C) "__init__"=some (some (.ref f))) (hf:PySem.W.typeIn K (.ref f)=some (.type "function"))
  (h:zzl72 (model prog w) (A.under (.builtin "type.__call__" ⟨.ref C::vs,kw⟩)) (.call (.ref f) ⟨.ref (s.heap.objs.size+1)::vs,kw⟩) (PySem.W.InitBack (s.heap.objs.size+1) R)
   { s with heap:=(s.heap.push jX).push (mi C s.heap.objs.size) }) :
  zzl72 (model prog w) A (.call (.ref C) ⟨vs,kw⟩) R s:=by
 obtain⟨hh,g,d,t,os⟩:=s;exact PySem.W.make_core (PySem.W.makes_of X hm) (PySem.W.looks_findIn X hi) (fun self=>PySem.W.bind_fn X self hf) (.inl rfl) h
end
def ca(f:Str)(v:V):List (Str×V)->List (Str×V)
 |[]=>[(f,v)]
 | (g,x)::r=>if g=f then(g,v)::r else(g,x)::ca f v r
theorem dR(f g:Str)(v:V):∀fs:List (Str×V),(ca f v fs).lookup g=if g=f then some v else fs.lookup g
 |[]=>by
  show ic g [(f,v)]=_;by_cases h:g=f
  ·have hb:(g==f)=true:=beq_iff_eq.mpr h;simp only[ic,hb,if_pos h]
  ·have hb:(g==f)=false:=beq_eq_false_iff_ne.mpr h;simp only[ic,hb,if_neg h]
 | (k,x)::r=>by
  have ih:=dR f g v r;rw[show ca f v ((k,x)::r)=(if k=f then(k,v)::r else(k,x)::ca f v r)from rfl]
  by_cases hk:k=f
  ·rw[if_pos hk];by_cases h:g=k
   ·have hb:(g==k)=true:=beq_iff_eq.mpr h;simp only[ic,hb,if_pos (h.trans hk)]
   ·have hb:(g==k)=false:=beq_eq_false_iff_ne.mpr h;simp only[ic,hb,if_neg (fun e:g=f=>h (e.trans hk.symm))]
  ·rw[if_neg hk];by_cases h:g=k
   ·have hb:(g==k)=true:=beq_iff_eq.mpr h;simp only[ic,hb,if_neg (fun e:g=f=>hk (h.symm.trans e))]
   ·have hb:(g==k)=false:=beq_eq_false_iff_ne.mpr h;simp only[ic,hb];exact ih
theorem lT(f:Str)(v:V):∀fs:List (Str×V),f∈(ca f v fs).map (·.1)/\∀g,g∈fs.map (·.1)->g∈(ca f v fs).map (·.1)
 |[]=>⟨by simp[ca],fun g h=>by simp at h⟩
 | (k,x)::r=>by
  obtain⟨i1,i2⟩:=lT f v r;rw[show ca f v ((k,x)::r)=(if k=f then(k,v)::r else(k,x)::ca f v r)from rfl]
  by_cases hk:k=f
  ·rw[if_pos hk];subst hk;exact⟨by simp,fun g h=>by simpa using h⟩
  ·rw[if_neg hk];refine⟨?_,fun g h=>?_⟩
   ·rw[aY];exact dO _ i1
   ·rw[aY]at h ⊢;rcases cI.mp h with e|e
    ·exact cI.mpr (.inl e)
    ·exact dO _ (i2 g e)
theorem mn(f:Str)(v:V):∀fs:List (Str×V),(ca f v fs).length<=fs.length+1
 |[]=>by simp[ca]
 | (k,x)::r=>by
  have ih:=mn f v r;rw[show ca f v ((k,x)::r)=(if k=f then(k,v)::r else(k,x)::ca f v r)from rfl]
  by_cases hk:k=f
  ·rw[if_pos hk,eT,eT];omega
  ·rw[if_neg hk,eT,eT];omega
theorem h9.some_of{v:V}{o:Option Value}(r:h9 (some v) o):∃u,o=some u/\RelV v u:=by
 cases o with
 |none=>exact(show False from r).elim
 |some u=>exact⟨u,rfl,r⟩
theorem h9.none_of{o:Option Value}(r:h9 none o):o=none:=by
 cases o with
 |none=>rfl
 |some u=>exact(show False from r).elim
theorem wL{v:V}{u:Value}(r:RelV v u):PySem.W.handedIn u=true:=by
 cases v with
 |non=>cases(show u=Value.none from r);rfl
 |bl b=>cases(show u=Value.bool b from r);rfl
 |int i=>obtain⟨t,e⟩:=(show ∃t,u=Value.int i t from r);cases e;rfl
 |str x=>obtain⟨t,e⟩:=(show ∃t,u=Value.str x t from r);cases e;rfl
 |byt b=>obtain⟨t,e⟩:=(show ∃t,u=Value.bytes b t from r);cases e;rfl
 |flt b=>obtain⟨t,e⟩:=(show ∃t,u=Value.float b t from r);cases e;rfl
 |ref a=>cases(show u=Value.ref a from r);rfl
 |ty n=>cases(show u=Value.type n from r);rfl
section
variable{P:bm}{w:World}{H H':Hp}{h h':Heap}{a C dx:Addr}{fs fs':List (Str×V)}
theorem rL{K:Za}(hok:jh P w K H h)(e:H a=some (.ins C dx fs)):∃mA,ve h a dx C mA/\(∀f,h9 (fs.lookup f) (mA f))/\PySem.Within mA (fs.map (·.1))/\fs.length<=1000/\H dx=some (.own a):=by
 obtain⟨d,z,ne,ob,mA,n,r,q⟩:=(show cj P w K H h a (.ins C dx fs)from hok a _ e);exact⟨mA,⟨ob,n,ne⟩,r,q,z,d⟩
end
structure xb(K:Za)(C:Addr):Prop where
 pg:sC K C Str.empty=true
 hd:vw K C=true
 po:PySem.W.plainOver K C=true
 sa:dL K (.ref C) "__setattr__"=some (some (.builtin "object.__setattr__"))
theorem xb.get{K:Za}{C:Addr}(c:xb K C)(f:Str):sC K C f=true:=c.pg
def d6(K:Za)(C:Addr)(f:Str):Prop:=dL K (.ref C) f=some none
theorem d6.taker{K:Za}{C:Addr}{f:Str}(n:d6 K C f):PySem.W.takerIn K C f=some none:=by
 unfold PySem.W.takerIn;rw[show dL K (.ref C) f=some none from n]
 rfl
structure z6(K:Za)(C:Addr)(m:Str)(f:Addr):Prop where
 at_:dL K (.ref C) m=some (some (.ref f))
 fn:sB K (.ref f)=true
 kp:gF K (.ref f)=true
section
variable{X:Cx}{J3:Zd}{σ:St}{H:Hp}{s:Shared}{a C dx:Addr}{fs:List (Str×V)}{f:Str}{v:V}{A:Around}{E:Zc}
theorem uY{b:Bool}{Q:Zc}(I:Inv X J3 σ H s)(e:H a=some (.ins C dx fs))(c:xb X.K C)(n:d6 X.K C f)(l:fs.lookup f=some v)
  (h:∀u s',Inv X J3 σ H s'->RelV v u->Q u s'):wpAny (model X.prog X.w) A (getAttr (.ref a) f b) Q E s:=by
 obtain⟨mA,O,r,_,_,_⟩:=rL I.hok e;obtain⟨u,hu,ru⟩:=h9.some_of (v:=v) (o:=mA f) (by rw[<-l];exact r f);exact zR I.kIn O (c.get f) c.hd n hu (wL ru) (h u _ (I.tok _) ru)
theorem oA{m:Str}{g:Addr}{pl:Sem Bool}{Q:Value×List Value->Shared->Prop}(I:Inv X J3 σ H s)(e:H a=some (.ins C dx fs))(c:xb X.K C)(k:z6 X.K C m g)(l:fs.lookup m=none)
  (h:Q (.ref g,[.ref a]) s):wpAny (model X.prog X.w) A (ma (.ref a) m pl) Q E s:=by
 obtain⟨mA,O,r,_,_,_⟩:=rL I.hok e;have hn:mA m=none:=h9.none_of (by rw[<-l];exact r m);exact yn I.kIn O (c.get m) k.at_ k.fn hn h
theorem uF{y:V}{u:Value}{Q:Unit->Shared->Prop}(I:Inv X J3 σ H s)(e:H a=some (.ins C dx fs))(c:xb X.K C)(n:d6 X.K C f)(hl:fs.length<1000)(ry:RelV y u)
  (h:∀s',Inv X J3 σ (upd H a (.ins C dx (ca f y fs))) s'->Q () s'):wpAny (model X.prog X.w) A (setAttr (.ref a) f u) Q E s:=by
 obtain⟨mA,O,r,wi,_,ho⟩:=rL I.hok e;have hz:(fs.map (·.1)).length<=aj:=by rw[af,vy];omega
 refine ze I.kIn O c.sa c.po n.taker c.hd wi hz fun h' O' sb=>h _ ?_;have hd:∃o,h'.get? dx=some o:=let⟨o,_,_,e',_⟩:=O'.ns;⟨o,e'⟩;refine I.write (x:=a) (e:=dx) (by rw[e];exact l_) (.inr ho) (fun b q hb z=>(sb.2 b hb).trans z) hd ?_;refine⟨by rw[ai O.ne];exact ho,?_,O.ne,O'.obj,_,O'.ns,fun g=>?_,fun g hg=>?_⟩
 ·have:=mn f y fs;omega
 ·show h9 ((ca f y fs).lookup g) (if g=f then some u else mA g)
  rw[dR];by_cases q:g=f
  ·rw[if_pos q,if_pos q];exact ry
  ·rw[if_neg q,if_neg q];exact r g
 ·by_cases q:g=f
  ·rw[q];exact(lT f y fs).1
  ·refine(lT f y fs).2 g (wi g fun z=>hg ?_);show(if g=f then some u else mA g)=none
   rw[if_neg q];exact z
theorem Inv.made(I:Inv X J3 σ H s):Inv X J3 σ (upd (upd H s.heap.objs.size (.own (s.heap.objs.size+1))) (s.heap.objs.size+1) (.ins C s.heap.objs.size []))
  { s with heap:=(s.heap.push jX).push (mi C s.heap.objs.size) }:=by
 have e1:(s.heap.push jX).get? s.heap.objs.size=some jX:=cO s.heap rfl;have e2:((s.heap.push jX).push (mi C s.heap.objs.size)).get? (s.heap.objs.size+1)=some (mi C s.heap.objs.size):=by
  have:=cO (s.heap.push jX) (o:=mi C s.heap.objs.size) rfl;rwa[Heap.size_push]at this
 have e3:(s.heap.push jX).Ns s.heap.objs.size (fun _=>none):=⟨jX,#[],_,e1,rfl,(fun e he=>absurd he (by simp)),fun _=>rfl⟩;have I1:=I.laid (a:=s.heap.objs.size) (o:=.own (s.heap.objs.size+1)) (h':=s.heap.push jX) (t':=s.toks) (fun b u q=>bj _ q) (az _) ⟨_,e1⟩;refine I1.laid (a:=s.heap.objs.size+1) (o:=.ins C s.heap.objs.size []) (t':=s.toks) (fun b u q=>bj _ q) (Nat.le_of_eq (Heap.size_push _ _)) ?_;have ne:s.heap.objs.size≠s.heap.objs.size+1:=bD (Nat.lt_succ_self _);refine⟨by rw[ai ne,aa],cM _,ne,e2,fun _=>none,(Heap.Ns1.of_empty e3).at fun o q=>bj _ q,fun _=>l_,fun y hy=>absurd rfl hy⟩
theorem zY{prog:bm}{w:World}{env:Env}{e:Expr}{f:Str}{pos:Pos}{s:Shared}{Q:Zc}(hb:pH e f env (eval e env)=eval e env)
  (h:wpAny (model prog w) A (eval e env) (fun o s₁=>wpAny (model prog w) A (getAttr o f true) Q E s₁) E s):wpAny (model prog w) A (eval (.Attribute e f pos) env) Q E s :=
 Attribute_any_ h (by rw[arm_eval_Attribute,hb])
end
def nT(K:Za)(ta:TE)(f:Str):TE:=fun σ H Q=>ta σ H fun x H1=>∃a C dx fs v,x=.ref a/\H1 a=some (.ins C dx fs)/\xb K C/\d6 K C f/\fs.lookup f=some v/\Q v H1
def q0(K:Za)(ta tv:TE)(f:Str):TS:=fun D σ H=>tv σ H fun y H1=>ta σ H1 fun x H2=>∃a C dx fs,x=.ref a/\H2 a=some (.ins C dx fs)/\xb K C/\d6 K C f/\fs.length<1000 /\
 D.nx σ (upd H2 a (.ins C dx (ca f y fs)))
section
variable{X:Cx}{o e value:Expr}{f:Str}{pos pos' J7:Pos}{ta tv:TE}
theorem gz(he:PE X e ta)(hb:pH e f X.env (eval e X.env)=eval e X.env):PE X (.Attribute e f pos) (nT X.K ta f):=by
 intro J3 s σ H Q I h;refine zY hb (bU (he J3 s σ H _ I h) fun u s1 zq0=>?_);obtain⟨x,H1,I1,rx,a,C,dx,fs,v,ex,ea,c,n,l,q⟩:=zq0;subst ex;obtain rfl:u=Value.ref a:=rx;exact uY I1 ea c n l fun u' s2 I2 ru=>⟨v,H1,I2,ru,q⟩
theorem iC(ha:PE X o ta)(hv:PE X value tv)(hs:mf value (some (.Attribute o f pos')) pos.line X.env=pure false):PS X (.Assign [.Attribute o f pos'] value pos) (q0 X.K ta tv f):=by
 intro J3 s σ H D I h;refine plainObj_wpAny_Assign_Attribute (bU (hv J3 s σ H _ I h) fun u s1 ⟨y,H1,I1,ry,q⟩=>bU (ha J3 s1 σ H1 _ I1 q) fun ov s2 zq0=>?_) hs;obtain⟨x,H2,I2,rx,a,C,dx,fs,ex,ea,c,n,l,q2⟩:=zq0;subst ex;obtain rfl:ov=Value.ref a:=rx;exact uF I2 ea c n l ry fun s3 I3=>⟨σ,_,I3,q2⟩
end
end L2
namespace L2
open PySem PySem.Spec PyProof.Rows
structure c_(k:Nat)(A:Around):Prop where
 hd:A.handled=none
 dp:A.depth+3 * k+5<recursionLimit
 un:A.units+16 * k+200<cLine
theorem c_.mono{j k:Nat}{A:Around}(r:c_ k A)(h:j<=k):c_ j A:=⟨r.hd,by have:=r.dp;omega,by have:=r.un;omega⟩
theorem c_.deeper{k:Nat}{A:Around}(r:c_ (k+1) A)(env:Env):c_ k (A.deeper env) :=
 ⟨r.hd,by have:=r.dp;show A.depth+1+3 * k+5<_;omega,by have:=r.un;show A.units+3+16 * k+200<_;omega⟩
theorem uT{A:Around}{C:Addr}{us:Zf}{kw:List (Str×Value)}:(A.under (.builtin "type.__call__" ⟨.ref C::us,kw⟩)).depth=A.depth+1:=by
 first|rfl|simp[Around.under,Code.weight,Code.isCreation,Code.isGuard,Code.isCaller,Code.frames,Code.isFrame,guardIds]
theorem uS{A:Around}{C:Addr}{us:Zf}{kw:List (Str×Value)}:(A.under (.builtin "type.__call__" ⟨.ref C::us,kw⟩)).units=A.units+1:=by
 first|rfl|simp[Around.under,Code.cUnits,Code.frames,Code.isFrame]
theorem c_.make{k:Nat}{A:Around}(r:c_ (k+1) A)(C:Addr)(us:Zf)(kw:List (Str×Value)):c_ k (A.under (.builtin "type.__call__" ⟨.ref C::us,kw⟩)) :=
 ⟨r.hd,by have:=r.dp;rw[uT];omega,by have:=r.un;rw[uS];omega⟩
theorem c_.depth{k:Nat}{A:Around}(r:c_ k A):A.depth<recursionLimit:=by have:=r.dp;omega
theorem c_.units{k:Nat}{A:Around}(r:c_ k A):A.units+64<cLine:=by have:=r.un;omega
def bA:TA:=fun _ H Q=>Q [] H
def ay(ta:TE)(tr:TA):TA:=fun σ H Q=>ta σ H fun x H1=>tr σ H1 fun xs H2=>Q (x::xs) H2
abbrev au(a:TE):TA:=ay a bA
abbrev bI(a b:TE):TA:=ay a (ay b bA)
abbrev fB(a b c:TE):TA:=ay a (ay b (ay c bA))
section
variable{X:Cx}{e:Expr}{es:List Expr}{te:TE}{t:TA}{pos:Pos}
theorem cw:PA X [] bA:=fun _ _ _ _ H Q I h=>Calls.spliced_nil ⟨[],H,I,.nil,h⟩
theorem bX(ha:PE X e te)(hr:PA X es t)(hs:aA (e::es) X.env=(false,eval e X.env)::aA es X.env:=by rfl):PA X (e::es) (ay te t):=by
 intro pos J3 s σ H Q I h;rw[hs];show wpAny _ _ (spliced ((false,eval e X.env)::backTo pos (aA es X.env))) _ _ s;refine Calls.spliced_cons (bU (ha J3 s σ H _ I h) fun u s1 zq0=>?_);obtain⟨x,H1,I1,r1,q1⟩:=zq0;exact bU (hr pos J3 s1 σ H1 _ I1 q1) fun us s2 ⟨xs,H2,I2,r2,q2⟩=>⟨x::xs,H2,I2,.cons r1 r2,q2⟩
def cS(t:TA):TE:=fun σ H Q=>t σ H fun xs H1=>xs.length<=aj/\∀p,H1 p=none->Q (.ref p) (upd H1 p (.tup xs))
def dS(t:TA):TE:=fun σ H Q=>t σ H fun xs H1=>xs.length<=aj/\∀p,H1 p=none->Q (.ref p) (upd H1 p (.lst xs))
theorem a_{x1}(h:PA X es t):PE X (.Tuple es x1 pos) (cS t):=by
 intro J3 s σ H Q I hq;refine wpAny_Tuple_spliced (bU (h pos J3 s σ H _ I hq) fun us s1 ⟨xs,H1,I1,r,z,q⟩=>⟨by rw[<-r.length];exact z,?_⟩);have hf:H1 s1.heap.objs.size=none:=I1.hok.fresh (az _);refine⟨.ref s1.heap.objs.size,upd H1 s1.heap.objs.size (.tup xs),I1.laid (t':=s1.toks) (fun b u e=>bj _ e) (az _) ?_,rfl,q _ hf⟩;exact⟨z,us,r,⟨_,cO _ rfl,rfl,_,rfl⟩⟩
theorem bt(h:PA X es t):PE X (.List es pos) (dS t):=by
 intro J3 s σ H Q I hq;refine wpAny_List_spliced (bU (h pos J3 s σ H _ I hq) fun us s1 ⟨xs,H1,I1,r,z,q⟩=>⟨by rw[<-r.length];exact z,?_⟩);have hf:H1 s1.heap.objs.size=none:=I1.hok.fresh (az _);refine⟨.ref s1.heap.objs.size,upd H1 s1.heap.objs.size (.lst xs),I1.laid (t':=s1.toks) (fun b u e=>bj _ e) (az _) ?_,rfl,q _ hf⟩;exact⟨z,us,0,r,cO _ rfl⟩
end
abbrev Sp:=List V->Hp->VK->XK->Prop
abbrev xc:=List Env->Hp->Shared->XK->Value->Shared->Prop
structure vo(P:bm)(w:World)(K:Za)(mg:Str->Option Value)(base:Heap)(A:Around)(outer:List Env)(s:Shared)(H:Hp):Prop where
 frames:A.frames=some outer
 mod:Mod K mg base
 bs:∀b o,base.get? b=some o->s.heap.get? b=some o/\H b=none
 bsz:base.objs.size<=s.heap.objs.size
 funs:s.heap.FunFrames base outer
 frf:∀b∈w_ outer,H b=none
 hok:jh P w K H s.heap
 bare:jY s.gens
def CE(outer:List Env)(P:bm)(w:World)(K:Za)(H:Hp)(s:Shared)(Q:VK)(u:Value)(s':Shared):Prop :=
 ∃v H',s'.os=s.os/\jY s'.gens/\Un (w_ outer) [] H H' s.heap s'.heap/\jh P w K H' s'.heap/\RelV v u/\Q v H'
def CR(CX:xc)(outer:List Env)(P:bm)(w:World)(K:Za)(H:Hp)(s:Shared)(Q:VK)(E:XK)(r:Result)(s':Shared):Prop :=
 match r with
 |.ok (.ret u)=>CE outer P w K H s Q u s'
 |.ok _=>False
 |.error e=>CX outer H s E e s'
structure i_(P:bm)(w:World)(K:Za)(mg:Str->Option Value)(base:Heap)(CX:xc)(k:Nat)(f:Addr)(fd:ib)(ps:Zb)(sp:Sp):Prop where
 len:∀vs H Q E,sp vs H Q E->vs.length=ps.length
 run:∀(A:Around) (outer:List Env) (s:Shared) (H:Hp) (args:Args) (us:Zf) (vs:List V) (Q:VK) (E:XK),c_ k A->vo P w K mg base A outer s H->nj s fd args (ps.zip us)->aL vs us->sp vs H Q E ->
  zzl72 (model P w) A (.call (.ref f) args) (CR CX outer P w K H s Q E) s
theorem vo.make{P:bm}{w:World}{K:Za}{mg:Str->Option Value}{base:Heap}{A:Around}{outer:List Env}{s:Shared}{H:Hp}(e:vo P w K mg base A outer s H)(C:Addr)(us:Zf)(kw:List (Str×Value)):
  vo P w K mg base (A.under (.builtin "type.__call__" ⟨.ref C::us,kw⟩)) outer s H:=⟨by first|exact e.frames|(simpa[Around.under,Code.envs,Code.isFrame,pushEnvs]using e.frames),e.mod,e.bs,e.bsz,e.funs,e.frf,e.hok,e.bare⟩
section
variable{X:Cx}{J3:Zd}{σ:St}{H:Hp}{s s':Shared}
theorem Inv.env0(I:Inv X J3 σ H s):vo X.prog X.w X.K X.mg X.base X.A X.stack s H :=
 ⟨I.ok.frames,I.ok.mod,I.bs,aO I.ok.bsz I.sz,I.stack,I.stkFree,I.hok,I.bare⟩
theorem Inv.after{Q:VK}{u:Value}(I:Inv X J3 σ H s)(h:CE X.stack X.prog X.w X.K H s Q u s'):EP X J3 σ Q u s':=by
 obtain⟨v,H',os,bare,un,hok,r,q⟩:=h;obtain⟨hh,g,d,t,os'⟩:=s';obtain rfl:os'=s.os:=os;exact⟨v,H',I.call (h':=hh) (g':=g) (d':=d) (t':=t) (ch:=[]) un hok bare (fun b z=>absurd z (by simp)),r,q⟩
end
def Aa(sp:Sp)(dvs:List V)(E:XK)(t:TA):TE:=fun σ H Q=>t σ H fun vs H1=>sp (vs++dvs) H1 Q E
def fy(C:Addr)(m:Str)(sp:Sp)(dvs:List V)(E:XK)(ta:TE)(t:TA):TE:=fun σ H Q=>ta σ H fun x H1=>∃a dx fs,x=.ref a/\H1 a=some (.ins C dx fs)/\fs.lookup m=none /\
 t σ H1 fun vs H2=>sp (x::(vs++dvs)) H2 Q E
def xw(C:Addr)(sp:Sp)(dvs:List V)(E:XK)(t:TA):TE:=fun σ H Q=>t σ H fun vs H1=>∀x dx,H1 x=none->H1 dx=none->dx≠x ->
 sp (.ref x::(vs++dvs)) (upd (upd H1 dx (.own x)) x (.ins C dx [])) (fun v H2=>v=.non/\Q (.ref x) H2) E
def Binds(K:Za)(fd:ib)(ps:Zb)(ds:Zf):Prop :=
 ∀(s:Shared) (us:Zf),K.In s.heap->(us++ds).length=ps.length->nj s fd ⟨us,[]⟩ (ps.zip (us++ds))
theorem Binds.all{K:Za}{fd:ib}{ps:Zb}(h:∀us:List Value,us.length=ps.length->bindArgs fd ⟨us,[]⟩=pure (ps.zip us)):Binds K fd ps []:=fun s us _ hl=>by
 rw[cR]at hl ⊢;exact .of_eq (h us hl)
def jG(CX:xc)(X:Cx)(E:XK):Prop:=∀(J3:Zd) (σ:St) (H:Hp) (s:Shared) (e:Value) (s':Shared),Inv X J3 σ H s->CX X.stack H s E e s'->X.xe e s'
section
variable{X:Cx}{CX:xc}{k:Nat}{f C:Addr}{fd:ib}{ps:Zb}{sp:Sp}{dvs:List V}{ds:Zf}{E:XK}{x m:Str}{p pos J5:Pos}{e o:Expr}{es:List Expr}{ta:TE}{t:TA}
theorem uG{J3:Zd}{σ:St}{H:Hp}{s:Shared}{Q:VK}{us:Zf}{vs:List V}(F:i_ X.prog X.w X.K X.mg X.base CX k f fd ps sp)(hr:c_ k X.A)(hb:Binds X.K fd ps ds)(hd:aL dvs ds)(hx:jG CX X E)
  (I:Inv X J3 σ H s) (r:aL vs us) (h:sp (vs++dvs) H Q E):wpAny (model X.prog X.w) X.A (call (.ref f) us) (EP X J3 σ Q) X.xe s:=by
 have r2:aL (vs++dvs) (us++ds):=r.append hd;have hl:(us++ds).length=ps.length:=by rw[<-r2.length];exact F.len _ _ _ _ h
 refine wpAny_call (sy (F.run X.A X.stack s H ⟨us,[]⟩ (us++ds) (vs++dvs) Q E hr I.env0 (hb s us I.kIn hl) r2 h) fun r s' hq=>?_);cases r with
 |error e=>exact hx J3 σ H s e s' I hq
 |ok fl =>
  cases fl with
  |ret u=>exact I.after hq
  |next=>exact gG hq
  |brk=>exact gG hq
  |cont=>exact gG hq
theorem zK(F:i_ X.prog X.w X.K X.mg X.base CX k f fd ps sp)(hr:c_ k X.A)(hg:Gl X x)(hm:X.mg x=some (.ref f))(hk:gF X.K (.ref f)=true)(hb:Binds X.K fd ps ds)(hd:aL dvs ds)(hx:jG CX X E)
  (ha:PA X (e::es) t) (hdb:(x==("__debug__":Str))=false:=by decide) (he:aA (e::es) X.env=(false,eval e X.env)::aA es X.env:=by rfl) (hpl:(backTo pos (aA es X.env)).any (·.1)=false:=by rfl) :
  PE X (.Call (.Name x p) (e::es) [] pos) (Aa sp dvs E t):=by
 intro J3 s σ H Q I h;refine vv (rB I hg hm ?_ hdb);refine PySem.W.callWith_K (h₀:=X.base) I.ok.mod.kin hk (bU (ha pos J3 s σ H _ I h) fun us s1 ⟨vs,H1,I1,r,q⟩=>⟨I1.kIn,?_⟩) he hpl;exact uG F hr hb hd hx I1 r q
theorem zF{pl:Sem Bool}(he:PE X o ta)(c:xb X.K C)(hm:z6 X.K C m f)(F:i_ X.prog X.w X.K X.mg X.base CX k f fd ps sp)(hr:c_ k X.A)(hb:Binds X.K fd ps ds)(hd:aL dvs ds)(hx:jG CX X E)(ha:PA X (e::es) t)
  (hst:aA (e::es) X.env=(false,eval e X.env)::aA es X.env:=by rfl) (hpl:(backTo pos (aA es X.env)).any (·.1)=false:=by rfl)
  (ht:eval (.Call (.Attribute o m J5) (e::es) [] pos) X.env=(do
   let ov <- eval o X.env
   mh J5.atName
   let(f,first) <- ie [ov] (ma ov m pl)
   pG pos f first (backTo pos (aA (e::es) X.env)) (jW pos (jV [] X.env))):=by rfl) :
  PE X (.Call (.Attribute o m J5) (e::es) [] pos) (fy C m sp dvs E ta t):=by
 intro J3 s σ H Q I h;refine PySem.W.methodCall_KW (pl:=pl) (bU (he J3 s σ H _ I h) fun u s1 zq0=>?_) ht;obtain⟨x,H1,I1,rx,a,dx,fs,ex,ea,l,q⟩:=zq0;subst ex;obtain rfl:u=Value.ref a:=rx;refine oA I1 ea c hm l ?_;refine PySem.W.callWith_K (first:=[.ref a]) (h₀:=X.base) I.ok.mod.kin hm.kp (bU (ha pos J3 s1 σ H1 _ I1 q) fun us s2 ⟨vs,H2,I2,r,q2⟩=>⟨I2.kIn,?_⟩) hst hpl
 exact uG (us:=.ref a::us) (vs:=.ref a::vs) F hr hb hd hx I2 (.cons rfl r) q2
theorem xT{pl:Sem Bool}(he:PE X o ta)(c:xb X.K C)(hm:z6 X.K C m f)(F:i_ X.prog X.w X.K X.mg X.base CX k f fd ps sp)(hr:c_ k X.A)(hb:Binds X.K fd ps ds)(hd:aL dvs ds)(hx:jG CX X E)
  (ht:eval (.Call (.Attribute o m J5) [] [] pos) X.env=(do
   let ov <- eval o X.env
   mh J5.atName
   let(f,first) <- ie [ov] (ma ov m pl)
   pG pos f first (backTo pos (aA [] X.env)) (jW pos (jV [] X.env))):=by rfl) :
  PE X (.Call (.Attribute o m J5) [] [] pos) (fy C m sp dvs E ta bA):=by
 intro J3 s σ H Q I h;refine PySem.W.methodCall_KW (pl:=pl) (bU (he J3 s σ H _ I h) fun u s1 zq0=>?_) ht;obtain⟨x,H1,I1,rx,a,dx,fs,ex,ea,l,q⟩:=zq0;subst ex;obtain rfl:u=Value.ref a:=rx;refine oA I1 ea c hm l ?_;exact PySem.W.callWith_K0 (first:=[.ref a]) I1.kIn hm.kp (uG (us:=[.ref a]) (vs:=[.ref a]) F hr hb hd hx I1 (.cons rfl .nil) q)
structure Mk(K:Za)(C f:Addr):Prop where
 makes:sA K C=true
 init:dL K (.ref C) "__init__"=some (some (.ref f))
 fn:sB K (.ref f)=true
 kp:gF K (.ref C)=true
theorem xB{J3:Zd}{σ:St}{H:Hp}{s:Shared}{Q:VK}{us:Zf}{vs:List V}(M:Mk X.K C f)(F:i_ X.prog X.w X.K X.mg X.base CX k f fd ps sp)(hr:c_ (k+1) X.A)(hb:Binds X.K fd ps ds)(hd:aL dvs ds)
  (hx:jG CX X E) (I:Inv X J3 σ H s) (r:aL vs us)
  (h:∀x dx,H x=none->H dx=none->dx≠x->sp (.ref x::(vs++dvs)) (upd (upd H dx (.own x)) x (.ins C dx [])) (fun v H2=>v=.non/\Q (.ref x) H2) E) :
  wpAny (model X.prog X.w) X.A (call (.ref C) us) (EP X J3 σ Q) X.xe s:=by
 have hq:=h (s.heap.objs.size+1) s.heap.objs.size (I.hok.fresh (vt _)) (I.hok.fresh (az _)) (bD (Nat.lt_succ_self _));have I2:=Inv.made (C:=C) I;have r2:aL (V.ref (s.heap.objs.size+1)::(vs++dvs)) (Value.ref (s.heap.objs.size+1)::(us++ds)):=.cons rfl (r.append hd);have hl:(Value.ref (s.heap.objs.size+1)::us++ds).length=ps.length:=by
  have e:=r2.length;rw[F.len _ _ _ _ hq]at e;exact e.symm
 refine wpAny_call (yg (f:=f) I.kIn M.makes M.init (beq_iff_eq.mp M.fn) (sy (F.run _ X.stack _ _ ⟨Value.ref (s.heap.objs.size+1)::us,[]⟩ (Value.ref (s.heap.objs.size+1)::(us++ds)) _ _ E (hr.make C us [])
  (I2.env0.make C us []) (hb _ (Value.ref (s.heap.objs.size+1)::us) I2.kIn hl) r2 hq) fun r s' hq'=>?_))
 cases r with
 |error e=>exact hx J3 σ _ _ e s' I2 hq'
 |ok fl =>
  cases fl with
  |ret u =>
   obtain⟨v,H',I3,rv,ev,q3⟩:=I2.after hq';subst ev;exact⟨rv,⟨V.ref (s.heap.objs.size+1),H',I3,rfl,q3⟩⟩
  |next=>exact gG hq'
  |brk=>exact gG hq'
  |cont=>exact gG hq'
theorem zG(M:Mk X.K C f)(F:i_ X.prog X.w X.K X.mg X.base CX k f fd ps sp)(hr:c_ (k+1) X.A)(hg:Gl X x)(hm:X.mg x=some (.ref C))(hb:Binds X.K fd ps ds)(hd:aL dvs ds)(hx:jG CX X E)
  (ha:PA X (e::es) t) (hdb:(x==("__debug__":Str))=false:=by decide) (he:aA (e::es) X.env=(false,eval e X.env)::aA es X.env:=by rfl) (hpl:(backTo pos (aA es X.env)).any (·.1)=false:=by rfl) :
  PE X (.Call (.Name x p) (e::es) [] pos) (xw C sp dvs E t):=by
 intro J3 s σ H Q I h;refine vv (rB I hg hm ?_ hdb);refine PySem.W.callWith_K (h₀:=X.base) I.ok.mod.kin M.kp (bU (ha pos J3 s σ H _ I h) fun us s1 ⟨vs,H1,I1,r,q⟩=>⟨I1.kIn,?_⟩) he hpl;exact xB M F hr hb hd hx I1 r q
end
structure g6(N P:Zb)(sc:Scope):Prop where
 kind:sc.kind=.function
 co:sc.isCoroutine=false
 gen:sc.isGenerator=false
 nd:N.Nodup
 pre:N.take P.length=P
 par:∀x∈P,sc.names.lookup x=some .local∨sc.names.lookup x=some .cell
 nofree:∀y∈sc.names,y.2≠.free
theorem p_{kindOf:Str->Option gE}{x:Str}:∀{binds:List (Str×Value)}{m:Str->Option Value},(∀v,(x,v)∉binds)->bindL kindOf binds m x=m x
 |[],_,_=>rfl
 | (n,v)::r,m,h=>by
  unfold bindL;rw[p_ fun w hw=>h w (dO _ hw)];split
  ·have:x≠n:=by rintro rfl;exact h v cQ
   simp[this]
  ·rfl
theorem qb{kindOf:Str->Option gE}{x:Str}:∀{binds:List (Str×Value)}{m:Str->Option Value},(∀v,(x,v)∉binds)->bindC kindOf binds m x=m x
 |[],_,_=>rfl
 | (n,v)::r,m,h=>by
  unfold bindC;rw[qb fun w hw=>h w (dO _ hw)];split
  ·rfl
  ·have:x≠n:=by rintro rfl;exact h v cQ
   simp[this]
theorem qa{kindOf:Str->Option gE}{x:Str}{v:Value}:∀{P:Zb}{vs:Zf}{i:Nat}{m:Str->Option Value},P.Nodup->P[i]?=some x->vs[i]?=some v->kindOf x=some .local ->
  bindL kindOf (P.zip vs) m x=some v
 |[],_,_,_,_,h,_,_=>by simp at h
 |_::_,[],_,_,_,_,h,_=>by simp at h
 |p::P,w::vs,0,m,nd,h1,h2,hk=>by
  simp at h1 h2;subst h1;subst h2;show bindL kindOf ((p,w)::P.zip vs) m p=_;unfold bindL;rw[p_ fun v hv=>(l9.mp nd).1 (List.of_mem_zip hv).1,if_pos hk];simp
 |p::P,w::vs,i+1,m,nd,h1,h2,hk=>by
  show bindL kindOf ((p,w)::P.zip vs) m x=_;unfold bindL;exact qa (i:=i) (l9.mp nd).2 (by simpa using h1) (by simpa using h2) hk
theorem qd{kindOf:Str->Option gE}{x:Str}{v:Value}:∀{P:Zb}{vs:Zf}{i:Nat}{m:Str->Option Value},P.Nodup->P[i]?=some x->vs[i]?=some v->kindOf x≠some .local ->
  bindC kindOf (P.zip vs) m x=some v
 |[],_,_,_,_,h,_,_=>by simp at h
 |_::_,[],_,_,_,_,h,_=>by simp at h
 |p::P,w::vs,0,m,nd,h1,h2,hk=>by
  simp at h1 h2;subst h1;subst h2;show bindC kindOf ((p,w)::P.zip vs) m p=_;unfold bindC;rw[qb fun v hv=>(l9.mp nd).1 (List.of_mem_zip hv).1,if_neg hk];simp
 |p::P,w::vs,i+1,m,nd,h1,h2,hk=>by
  show bindC kindOf ((p,w)::P.zip vs) m x=_;unfold bindC;exact qd (i:=i) (l9.mp nd).2 (by simpa using h1) (by simpa using h2) hk
def start(N:Zb)(vs:List V):St:=vs.map some++List.replicate (N.length-vs.length) none
def u5(CX:xc)(P:bm)(w:World)(K:Za)(mg:Str->Option Value)(base:Heap)(N:Zb)(qual:Str)(scope:Scope)(f:Addr)(cd:Value)(A:Around)(outer:List Env)(s:Shared)(H:Hp)(E:XK):Cx where
 prog:=P
 w:=w
 K:=K
 mg:=mg
 base:=base
 A:=A.deeper (envOfC qual scope s.heap.objs.size f cd)
 N:=N
 s₀:=s
 H₀:=H
 env:=envOfC qual scope s.heap.objs.size f cd
 outer:=outer
 stack:=envOfC qual scope s.heap.objs.size f cd::outer
 ex:=[]
 calm:=true
 fn:=fun _=>true
 pn:=[]
 xe:=fun e s'=>wpAny (model P w) (A.deeper (envOfC qual scope s.heap.objs.size f cd)) (leaving (envOfC qual scope s.heap.objs.size f cd) e) (fun _ s''=>CX outer H s E e s'') (fun e' s''=>CX outer H s E e' s'') s'
theorem tV{sc:Scope}{n:Nat}{x:Str}(h:sc.names.lookup x=some .cell):∃c,(cellsFrom n sc.names []).lookup x=some c:=by
 have q:=PySem.W.cellsFrom_some sc.names n [] (.inl h);exact vq.mp q
theorem wI{CX:xc}{P:bm}{w:World}{K:Za}{mg:Str->Option Value}{base:Heap}{N ps:Zb}{qual:Str}{scope:Scope}{f:Addr}{cd:Value}{A:Around}{outer:List Env}{s s1:Shared}{H:Hp}{E:XK}{us:Zf}{vs:List V}
  (S:g6 N ps scope) (hd:A.handled=none) (e0:vo P w K mg base A outer s H) (hl:vs.length=ps.length) (r:aL vs us)
  (x:InCallC s s.heap.objs.size (bindL (envOfC qual scope s.heap.objs.size f cd).kindOf (ps.zip us) fun _=>none) (cellsFrom (s.heap.objs.size+1) scope.names []) (bindC (envOfC qual scope s.heap.objs.size f cd).kindOf (ps.zip us) fun _=>none) s1) :
  Inv (u5 CX P w K mg base N qual scope f cd A outer s H E) [] (start N vs) H s1:=by
 have hpl:ps.length<=N.length:=by have:=congrArg List.length S.pre;rw[aT]at this;omega
 obtain⟨h1,tk,rfl,hk⟩:=x.done;have noA:∀b:Addr,b∉(u5 CX P w K mg base N qual scope f cd A outer s H E).ex:=fun b z=>absurd (show b∈([]:Ze)from z) (by simp);refine⟨⟨e0.mod,S.kind,rfl,rfl,az _,fun y z c h1 h2=>?_,fun y hy=>?_,fun y c _ h=>?_,fun _=>hd,Around.frames_deeper e0.frames,.inr ⟨rfl,rfl⟩,fun b z=>absurd z (noA b),e0.bs,e0.bsz,fun b _ _=>noA b,fun b z=>absurd z (noA b),e0.funs,e0.frf⟩,
  rfl,e0.bare,Un.kept hk,⟨_,x.toInCall.ns,fun i y v h1 h2 h3=>?_⟩,fun y c h=>⟨_,x.cell y c h⟩,e0.hok.fresh (az _),fun y c h=>?_,fun p hp=>absurd (show p∈([]:Zd)from hp) (by simp),e0.hok.kept hk,?_⟩
 ·exact name_of_addr x.apart (sw h1) (sw h2)
 ·have hy:scope.names.lookup y=some .cell∨scope.names.lookup y=some .free:=hy;rcases hy with hy|hy
  ·exact tV hy
  ·exact absurd rfl (S.nofree _ (sw hy))
 ·exact dU (x.above y c (sw h))
 ·have hi:i<vs.length:=by
   unfold start at h2;by_cases hi:i<vs.length
   ·exact hi
   ·rw[List.getElem?_append_right (by simpa using hi)]at h2;rw[List.getElem?_replicate]at h2;split at h2<;>cases h2
  have ha:vs[i]?=some v:=by
   unfold start at h2;rw[sv (by simpa using hi),gD]at h2;cases e:vs[i]? with
   |none=>rw[e]at h2;cases h2
   |some a=>rw[e]at h2;cases h2;rfl
  obtain⟨u,hu,rv⟩:=r.get ha;have hp:ps[i]?=some y:=by
   rw[<-S.pre,List.getElem?_take_of_lt (by omega)];exact h1
  have ndP:ps.Nodup:=by rw[<-S.pre];exact S.nd.sublist (List.take_sublist _ _)
  refine⟨u,rv,?_⟩;rcases S.par y (dJ hp)with k|k
  ·exact .inl ⟨k,qa ndP hp hu k⟩
  ·obtain⟨c,e⟩:=tV (n:=s.heap.objs.size+1) k;refine .inr ⟨.inl k,c,e,?_⟩;have q:=x.cell y c e;rw[qd ndP hp hu (by show scope.names.lookup y≠_;rw[k];decide)]at q;exact q
 ·exact e0.hok.fresh (dU (x.above y c (sw h)))
 ·unfold start;show _=N.length;rw[aW,af,List.length_replicate];omega
theorem Bh{CX:xc}{P:bm}{w:World}{K:Za}{mg:Str->Option Value}{base:Heap}{k:Nat}{f:Addr}{name qual:Str}{params:Arguments}{body:List Stmt}{scope:Scope}{dV kV doc pm cdv ct oc:Value}{an od:Option Addr}
  {osl:Array (Option Value)}{N ps:Zb}{sp:Sp}(lk:K.lookup f=some ⟨oc,od,.func (h_ name qual params body scope dV kV doc pm an cdv ct),osl⟩) (hcd:ni K cdv qual=true) (S:g6 N ps scope)
  (len:∀vs H Q E,sp vs H Q E->vs.length=ps.length)
  (hbody:∀(A:Around) (outer:List Env) (s:Shared) (H:Hp) (vs:List V) (Q:VK) (E:XK),c_ k (A.deeper (envOfC qual scope s.heap.objs.size f cdv))->sp vs H Q E ->
   ∃t,uc (u5 CX P w K mg base N qual scope f cdv A outer s H E) body t/\t (bC Q) (start N vs) H) :
  i_ P w K mg base CX (k+1) f (h_ name qual params body scope dV kV doc pm an cdv ct) ps sp:=by
 refine⟨len,fun A outer s H args us vs Q E hr e0 hb r hsp=>?_⟩;have hl:=len _ _ _ _ hsp;have KX:K.In s.heap:=e0.mod.kin.keeps fun b o e=>(e0.bs b o e).1;have lim:s.heap.NoLimit:=e0.mod.nolimit.keeps fun b o e=>(e0.bs b o e).1;have hkind:∀y∈ps.zip us,scope.names.lookup y.1=some .local∨(scope.names.lookup y.1=some .cell/\((cellsFrom (s.heap.objs.size+1) scope.names []).lookup y.1).isSome=true):=fun⟨n,v⟩ hy=>by
  rcases S.par n (List.of_mem_zip hy).1 with q|q
  ·exact .inl q
  ·exact .inr ⟨q,PySem.W.cellsFrom_some _ _ _ (.inl q)⟩
 refine codeAny_call_function hr.depth (KX _ _ lk) rfl S.co S.gen rfl (PySem.W.codeRec_of KX hcd) (hb _ _ _ _ ?_);refine wpAny_newFunctionEnv_cells S.kind hkind fun env he s1 x=>?_;subst he;refine⟨lim.keeps x.toInCall.keep,codeAny_func ?_⟩;obtain⟨t,ht,hq⟩:=hbody A outer s H vs Q E (hr.deeper _) hsp;have I:Inv (u5 CX P w K mg base N qual scope f cdv A outer s H E) [] (start N vs) H s1:=wI S hr.hd e0 hl r x;refine hZ (ht [] s1 (start N vs) H _ I hq) (fun fl s' hs=>?_) fun e s' hs=>hs;have fin:∀{σ':St}{H':Hp}{v:V}{u:Value},Inv (u5 CX P w K mg base N qual scope f cdv A outer s H E) [] σ' H' s'->RelV v u->Q v H'->CE outer P w K H s Q u s' :=
  fun{σ' H' v u} J rv q=>⟨v,H',J.os,J.bare,J.base,J.hok,rv,q⟩
 cases fl with
 |ret u =>
  obtain⟨v,σ',H',J,rv,q⟩:=hs;exact fin J rv q
 |next =>
  obtain⟨σ',H',J,q⟩:=hs;exact fin (v:=V.non) (u:=Value.none) J rfl q
 |brk =>
  obtain⟨_,_,_,q⟩:=hs;exact gG q
 |cont =>
  obtain⟨_,_,_,q⟩:=hs;exact gG q
end L2
namespace L2
open PySem PySem.Spec PyProof.Rows
section
variable{X:Cx}{x:Str}{p pos:Pos}{e:Expr}{es:List Expr}{t:TA}{id T:String}{r:List V->Hp->VK->Prop}
def eh(r:List V->Hp->VK->Prop)(t:TA):TE:=fun σ H Q=>t σ H fun vs H1=>r vs H1 Q
theorem tz(hc:d7 X (.builtin id) r)(hg:Gl X x)(hm:X.mg x=none)(hv:jZ x=some (.builtin id))(ha:PA X (e::es) t)(hn:x≠"__name__":=by decide)(hdb:(x==("__debug__":Str))=false:=by decide)
  (he:aA (e::es) X.env=(false,eval e X.env)::aA es X.env:=by rfl) (hpl:(backTo pos (aA es X.env)).any (·.1)=false:=by rfl):PE X (.Call (.Name x p) (e::es) [] pos) (eh r t):=by
 intro J3 s σ H Q I h;refine vv (rC I hg hm hv ?_ hn hdb);exact PyProof.Rows.callWith_builtin1 (bU (ha pos J3 s σ H _ I h) fun us s1 ⟨vs,H1,I1,r1,q1⟩=>hc J3 s1 σ H1 vs us Q I1 r1 q1) he hpl
theorem eE(hc:d7 X (.type T) r)(hg:Gl X x)(hm:X.mg x=none)(hv:jZ x=some (.type T))(ha:PA X (e::es) t)(hn:x≠"__name__":=by decide)(hdb:(x==("__debug__":Str))=false:=by decide)
  (he:aA (e::es) X.env=(false,eval e X.env)::aA es X.env:=by rfl) (hpl:(backTo pos (aA es X.env)).any (·.1)=false:=by rfl):PE X (.Call (.Name x p) (e::es) [] pos) (eh r t):=by
 intro J3 s σ H Q I h;refine vv (rC I hg hm hv ?_ hn hdb);exact PyProof.Rows.callWith_type1 (bU (ha pos J3 s σ H _ I h) fun us s1 ⟨vs,H1,I1,r1,q1⟩=>hc J3 s1 σ H1 vs us Q I1 r1 q1) he hpl
end
end L2
namespace HT
open PySem PyProof.Rows
section
variable{prog:bm}{w:World}{A:Around}{E:Zc}{s:Shared}
def sIx(n d:Nat):Option Int->Nat
 |none=>d
 |some v=>if v<0 then(v+(n:Int)).toNat else min v.toNat n
theorem sIx_none(n d:Nat):sIx n d none=d:=rfl
theorem sIx_nat(n d k:Nat):sIx n d (some (k:Int))=min k n:=by
 show(if(k:Int)<0 then((k:Int)+(n:Int)).toNat else min (k:Int).toNat n)=min k n
 rw[if_neg (by omega),pF]
theorem sIx_le(n d:Nat)(hd:d<=n)(o:Option Int):sIx n d o<=n:=by
 cases o with
 |none=>exact hd
 |some v =>
  show(if v<0 then(v+(n:Int)).toNat else min v.toNat n)<=n
  by_cases hv:v<0
  ·rw[if_pos hv];omega
  ·rw[if_neg hv];exact Nat.min_le_right _ _
theorem clip_eq(v:Int)(n d:Nat):(if v<0 then max (v+(n:Int)) 0 else min v (n:Int))=((sIx n d (some v):Nat):Int):=by
 show(if v<0 then max (v+(n:Int)) 0 else min v (n:Int))=(((if v<0 then(v+(n:Int)).toNat else min v.toNat n):Nat):Int)
 by_cases hv:v<0
 ·simp only[if_pos hv];omega
 ·simp only[if_neg hv];omega
end
end HT
namespace L2
open PySem PySem.Spec PyProof.Rows
abbrev TO:=St->Hp->(Option Int->Hp->Prop)->Prop
def PO(X:Cx)(e:Option Expr)(t:TO):Prop :=
 ∀(J3:Zd) (s:Shared) (σ:St) (H:Hp) (Q:Option Int->Hp->Prop),Inv X J3 σ H s->t σ H Q ->
  wpAny (model X.prog X.w) X.A (evalPart e X.env) (fun u s'=>∃o H',Inv X J3 σ H' s'/\IsPart u o/\Q o H') X.xe s
def eP:TO:=fun _ H Q=>Q none H
def gg(t:TE):TO:=fun σ H Q=>t σ H fun x H1=>∃i,x=.int i/\Q (some i) H1
section
variable{X:Cx}{e:Expr}{te:TE}{lo hi:Option Expr}{tl th:TO}{pos p2:Pos}
theorem fD:PO X none eP:=by
 intro J3 s σ H Q I h;rw[evalPart_none];exact aB ⟨none,H,I,.none,h⟩
theorem c6(h:PE X e te):PO X (some e) (gg te):=by
 intro J3 s σ H Q I hw;rw[evalPart_some];refine bU (h J3 s σ H _ I hw) fun u s1 zq0=>?_;obtain⟨x,H1,I1,r1,q1⟩:=zq0;obtain⟨i,rfl,q⟩:=q1;obtain⟨t,rfl⟩:=r1;exact⟨some i,H1,I1,.int i t,q⟩
def SlR(X:Cx)(r:V->Option Int->Option Int->Hp->VK->Prop):Prop :=
 ∀(J3:Zd) (s:Shared) (σ:St) (H:Hp) (x:V) (v vl vu:Value) (lo hi:Option Int) (sl:Addr) (Q:VK),Inv X J3 σ H s->RelV x v->s.heap.IsSliceOf sl vl vu .none->IsPart vl lo->IsPart vu hi->r x lo hi H Q ->
  ∃T id,typeLookup (.type T) "__getitem__"=pure (some (.builtin id))/\s.TypeIs v T/\wpAny (model X.prog X.w) X.A (jq v (.ref sl)) (EP X J3 σ Q) X.xe s
def w6(r:V->Option Int->Option Int->Hp->VK->Prop)(te:TE)(tl th:TO):TE:=fun σ H Q=>te σ H fun x H1=>tl σ H1 fun l H2=>th σ H2 fun u H3=>r x l u H3 Q
theorem cV{r:V->Option Int->Option Int->Hp->VK->Prop}(hr:SlR X r)(he:PE X e te)(hl:PO X lo tl)(hu:PO X hi th):PE X (.Subscript e (.Slice lo hi none p2) pos) (w6 r te tl th):=by
 intro J3 s σ H Q I h;refine Subscript_ (bU (he J3 s σ H _ I h) fun v s1 zq0=>?_);obtain⟨x,H1,I1,r1,q1⟩:=zq0;refine wpAny_Slice (bU (hl J3 s1 σ H1 _ I1 q1) fun vl s2 ⟨l,H2,I2,pl,q2⟩=>bU (hu J3 s2 σ H2 _ I2 q2) fun vu s3 zq0=>?_);obtain⟨u,H3,I3,pu,q3⟩:=zq0;rw[evalPart_none];refine aB ?_;have I4:Inv X J3 σ H3 { s3 with heap:=s3.heap.push { cls:=.type "slice",data:=.fields #[vl,vu,.none] } }:=I3.kept (t':=s3.toks) fun b ob q=>bj _ q;obtain⟨T,id,hT,ht,hg⟩:=hr J3 { s3 with heap:=s3.heap.push { cls:=.type "slice",data:=.fields #[vl,vu,.none] } } σ H3 x v vl vu l u s3.heap.objs.size Q I4 r1 (Heap.IsSliceOf.new ..) pl pu q3;show wpAny (model X.prog X.w) X.A (subscriptTail e (.Slice lo hi none p2) v (.ref s3.heap.objs.size)) (EP X J3 σ Q) X.xe { s3 with heap:=s3.heap.push { cls:=.type "slice",data:=.fields #[vl,vu,.none] } };exact tail_any (ops:=[.ref s3.heap.objs.size,v]) ht hT hg (by with_unfolding_all rfl)
def fW(xs:List V)(lo hi:Option Int):List V:=(xs.drop (HT.sIx xs.length 0 lo)).take (HT.sIx xs.length xs.length hi-HT.sIx xs.length 0 lo)
theorem tR(xs:List V)(lo hi:Option Int):(fW xs lo hi).length<=xs.length:=by
 unfold fW;rw[aT,fj];omega
end
end L2
namespace L2
open PySem PySem.Spec PyProof.Rows
def Ai(n:Nat)(i:Int):Option Nat:=if 0<=i then(if i<n then some i.toNat else none)else if -(n:Int)<=i then some (i+n).toNat else none
def vc{α:Type}(xs:List α)(i:Int):Option α:=(Ai xs.length i).bind fun j=>xs[j]?
theorem vV{n:Nat}{i:Int}{j:Nat}(h:Ai n i=some j):seqIndex? i n=some j/\j<n/\-(n:Int)<=i/\i<n:=by
 unfold Ai at h;by_cases h0:0<=i
 ·rw[if_pos h0]at h;by_cases h1:i<n
  ·rw[if_pos h1]at h;have e:i.toNat=j:=di h;exact⟨by rw[seqIndex_of h0 h1,e],by omega,by omega,h1⟩
  ·rw[if_neg h1]at h;cases h
 ·rw[if_neg h0]at h;by_cases h1:-(n:Int)<=i
  ·rw[if_pos h1]at h;have e:(i+n).toNat=j:=di h;exact⟨by rw[seqIndex_neg (by omega) h1,e],by omega,h1,by omega⟩
  ·rw[if_neg h1]at h;cases h
theorem rY{α:Type}{xs:List α}{i:Int}{v:α}(h:vc xs i=some v):∃j,seqIndex? i xs.length=some j/\xs[j]?=some v/\j<xs.length/\-(xs.length:Int)<=i/\i<xs.length:=by
 unfold vc at h;cases e:Ai xs.length i with
 |none=>rw[e]at h;cases h
 |some j =>
  rw[e]at h;obtain⟨h1,h2,h3,h4⟩:=vV e;exact⟨j,h1,h,h2,h3,h4⟩
theorem dz{α:Type}{xs:List α}{j:Nat}{v:α}(h:xs[j]?=some v):vc xs (j:Int)=some v:=by
 have hj:j<xs.length:=(bN.mp h).1;have e:Ai xs.length (j:Int)=some j:=by
  unfold Ai;rw[if_pos (by omega),if_pos (by omega)];simp
 unfold vc;rw[e];exact h
def zZ(b:Expr):Prop:=∀o i,qG b false o i=operate [o,i] (jq o i)
def z7(X:Cx)(r:R2):Prop :=
 ∀(value slice:Expr) (J3:Zd) (s:Shared) (σ:St) (H:Hp) (x y:V) (v u:Value) (Q:VK),Inv X J3 σ H s->RelV x v->RelV y u->r x y H Q ->
  qG slice false v u=operate [v,u] (jq v u)->wpAny (model X.prog X.w) X.A (subscriptTail value slice v u) (EP X J3 σ Q) X.xe s
def MtR(X:Cx)(id:String)(r:V->List V->Hp->VK->Prop):Prop :=
 ∀(J3:Zd) (s:Shared) (σ:St) (H:Hp) (x:V) (xs:List V) (v:Value) (us:Zf) (Q:VK),Inv X J3 σ H s->RelV x v->aL xs us->r x xs H Q ->
  wpAny (model X.prog X.w) X.A (call (.builtin id) (v::us)) (EP X J3 σ Q) X.xe s
section
variable{X:Cx}{a b:Expr}{ta tb:TE}{pos:Pos}
theorem z7.or{r r':R2}(h:z7 X r)(h':z7 X r'):z7 X (fun x y H Q=>r x y H Q∨r' x y H Q):=by
 intro value slice J3 s σ H x y v u Q I rx ry q hs;rcases q with q|q
 ·exact h value slice J3 s σ H x y v u Q I rx ry q hs
 ·exact h' value slice J3 s σ H x y v u Q I rx ry q hs
theorem vN{r:R2}(hr:z7 X r)(ha:PE X a ta)(hb:PE X b tb)(hs:zZ b):PE X (.Subscript a b pos) (aF r ta tb):=by
 intro J3 s σ H Q I h;exact Subscript_ (AR ha hb I h fun v u s2 x y H2 I2 rx ry q=>hr a b J3 s2 σ H2 x y v u Q I2 rx ry q (hs _ _))
def dk(K:Za):R2:=fun x y H Q=>∃p xs i v,x=.ref p/\y=.int i/\av K H p xs/\vc xs i=some v/\Q v H
def iB(K:Za):R2:=fun x y H Q=>∃p xs i v,x=.ref p/\y=.int i/\bp K H p xs/\vc xs i=some v/\Q v H
def xM:R2:=fun x y H Q=>∃z i c,x=.str z/\y=.int i/\z.length<=aj/\vc z.cps.toList i=some c/\Q (.str ⟨#[c]⟩) H
theorem vU:z7 X (dk X.K):=by
 intro value slice J3 s σ H x y v u Q I rx ry h hs;obtain⟨p,xs,i,z,rfl,rfl,hq,he,q⟩:=h;cases rx;obtain⟨t,rfl⟩:=ry;obtain⟨its,r,pl,hz⟩:=I.list hq;obtain⟨j,h1,h2,h3,h4,h5⟩:=rY he;obtain⟨w,ew,rw'⟩:=r.get h2;have hl:=r.length;have hn:=lR;have fin:EP X J3 σ Q w s:=⟨z,H,I,rw',q⟩;by_cases h0:0<=i
 ·have hj:i.toNat=j:=by
   rw[seqIndex_of h0 h5]at h1;exact di h1
  exact item_listR pl.isList h0 (by omega) (by rw[hj];simpa using ew) fin hs
 ·have hj:(i+(its.toArray.size:Int)).toNat=j:=by
   rw[seqIndex_neg (by omega) h4]at h1;rw[bw,<-hl];exact di h1
  exact subscriptTail_builtinR (x:=w) pl.isList.typeIs slot_list_getitem.lookup
   (wpAny_getItem_list_neg (Q:=fun r s'=>r=w/\EP X J3 σ Q r s') pl.isList (by omega) (by rw[bw]<;>omega) (by omega) (by rw[hj];simpa using ew) ⟨rfl,fin⟩) hs
theorem yj:z7 X (iB X.K):=by
 intro value slice J3 s σ H x y v u Q I rx ry h hs;obtain⟨p,xs,i,z,rfl,rfl,hq,he,q⟩:=h;cases rx;obtain⟨t,rfl⟩:=ry;obtain⟨its,r,pl,hz⟩:=I.tuple hq;obtain⟨j,h1,h2,h3,h4,h5⟩:=rY he;obtain⟨w,ew,rw'⟩:=r.get h2;have hl:=r.length;have hn:=lR;have fin:EP X J3 σ Q w s:=⟨z,H,I,rw',q⟩;exact subscriptTail_builtinR (x:=w) pl.typeIs slot_tuple_getitem.lookup
  (getItem_tuple (j:=j) (Q:=fun r s'=>r=w/\EP X J3 σ Q r s') pl (by omega) (by omega) (by rw[bw,<-hl];exact h1) (by simpa using ew) ⟨rfl,fin⟩) hs
theorem yk:z7 X xM:=by
 intro value slice J3 s σ H x y v u Q I rx ry h hs;obtain⟨z,i,c,rfl,rfl,hz,he,q⟩:=h;obtain⟨t,rfl⟩:=rx;obtain⟨t',rfl⟩:=ry;obtain⟨j,h1,h2,h3,h4,h5⟩:=rY he;have hl:z.cps.toList.length=z.length:=by simp[Str.length]
 rw[hl]at h1 h4 h5;have hn:=lR;exact tail_any (qF s z t) slot_str_getitem.lookup (getItem_str (c:=c) (by
  have e1:decide (i < -(2 ^ 63:Int))=false:=zzr0 (by omega);have e2:decide (i ≥ 2 ^ 63)=false:=zzr0 (by omega);rw[e1,e2,Bool.or_false]) (by rw[h1];simpa using h2) ⟨.str ⟨#[c]⟩,H,I.tok _,⟨_,rfl⟩,q⟩) hs
def rg(K:Za):R2:=fun x y H Q=>dk K x y H Q∨iB K x y H Q∨xM x y H Q
theorem AN:z7 X (rg X.K):=vU.or (yj.or yk)
theorem uR(its:Zf)(n j:Nat)(u:Value):dE (·.setIfInBounds j u) { cls:=.type "list",data:=.seq its.toArray n }={ cls:=.type "list",data:=.seq (its.set j u).toArray n }:=by
 simp[dE]
theorem Inv.lst{J3:Zd}{σ:St}{H:Hp}{s:Shared}{p:Addr}{xs:List V}(I:Inv X J3 σ H s)(h:H p=some (.lst xs)):
  ∃(its:Zf) (n:Nat),aL xs its/\s.heap.get? p=some { cls:=.type "list",data:=.seq its.toArray n }/\xs.length<=aj:=by
 obtain⟨z,its,n,r,e⟩:=I.hok p _ h;exact⟨its,n,r,e,z⟩
theorem Inv.lstUpd{J3:Zd}{σ:St}{H:Hp}{s:Shared}{p:Addr}{xs ys:List V}{its its':Zf}{n n':Nat}{f:Obj->Obj}(I:Inv X J3 σ H s)(h:H p=some (.lst xs))
  (ho:s.heap.get? p=some { cls:=.type "list",data:=.seq its.toArray n }) (hf:f { cls:=.type "list",data:=.seq its.toArray n }={ cls:=.type "list",data:=.seq its'.toArray n' }) (r:aL ys its') (hz:ys.length<=aj) (t:Nat) :
  Inv X J3 σ (upd H p (.lst ys)) { s with heap:=s.heap.update p f,toks:=t }:=by
 have e:(s.heap.update p f).get? p=some { cls:=.type "list",data:=.seq its'.toArray n' }:=by
  rw[Heap.get?_update_self f ho (by rw[hf]<;>rfl),hf]
 refine I.write (x:=p) (e:=p) (by rw[h];trivial) (.inl rfl) (fun b u hb q=>(Heap.get?_update_other _ _ (fw hb)).trans q) ⟨_,e⟩ ?_;exact⟨hz,its',n',r,e⟩
def n8:V->V->V->Hp->(Hp->Prop)->Prop:=fun o i v H Q=>∃p xs k j,o=.ref p/\i=.int k/\H p=some (.lst xs)/\Ai xs.length k=some j/\Q (upd H p (.lst (xs.set j v)))
theorem iz:Bj X n8:=by
 intro J3 s σ H o i v ov iv u Q I ro ri rv h;obtain⟨p,xs,k,j,rfl,rfl,hp,hj,q⟩:=h;cases ro;obtain⟨t,rfl⟩:=ri;obtain⟨its,n,r,ho,hz⟩:=I.lst hp;obtain⟨h1,h2,h3,h4⟩:=vV hj;have hl:=r.length;have hn:=lR;have I':Inv X J3 σ (upd H p (.lst (xs.set j v))) { s with heap:=s.heap.update p (dE (·.setIfInBounds j u)) } :=
  I.lstUpd hp ho (uR its n j u) (r.set rv j) (by rw[List.length_set];exact hz) s.toks
 by_cases h0:0<=k
 ·have hk:k.toNat=j:=by
   rw[seqIndex_of h0 h4]at h1;exact di h1
  exact PySem.W.ki_setAt ho h0 (by omega) (by rw[bw,<-hl];exact h4) (by rw[hk];exact⟨_,I',q⟩)
 ·have hk:(k+(its.toArray.size:Int)).toNat=j:=by
   rw[seqIndex_neg (by omega) h3]at h1;rw[bw,<-hl];exact di h1
  exact PySem.W.ki_setBack ho (by omega) (by rw[bw,<-hl];exact h3) (by omega) (by rw[hk];exact⟨_,I',q⟩)
theorem qZ(lo hi:Option Int)(n:Nat):(jp lo hi none n).1=((HT.sIx n 0 lo:Nat):Int)/\(jp lo hi none n).2.1=((HT.sIx n n hi:Nat):Int)/\(jp lo hi none n).2.2=1:=by
 refine⟨?_,?_,rfl⟩
 ·cases lo with
  |none=>simp[jp,HT.sIx]
  |some i =>
   simp only[jp,HT.sIx,Option.getD_none,show(1:Int) > 0 by decide,if_true];by_cases h:i<0
   ·simp only[h,if_true]<;>omega
   ·simp only[h,if_false]<;>omega
 ·cases hi with
  |none=>simp[jp,HT.sIx]
  |some i =>
   simp only[jp,HT.sIx,Option.getD_none,show(1:Int) > 0 by decide,if_true];by_cases h:i<0
   ·simp only[h,if_true]<;>omega
   ·simp only[h,if_false]<;>omega
theorem o_(its:Zf)(lo hi:Option Int):slicePick its.toArray lo hi none=((its.drop (HT.sIx its.length 0 lo)).take (HT.sIx its.length its.length hi-HT.sIx its.length 0 lo)).toArray:=by
 obtain⟨h1,h2,h3⟩:=qZ lo hi its.toArray.size;unfold slicePick;rw[h1,h2,h3];simp only[sliceRange_one,pick_run,bw]<;>rfl
def rf(K:Za):V->Option Int->Option Int->Hp->VK->Prop:=fun x lo hi H Q=>∃a xs,x=.ref a/\av K H a xs/\∀p,H p=none->Q (.ref p) (upd H p (.lst (fW xs lo hi)))
theorem gi:SlR X (rf X.K):=by
 intro J3 s σ H x v vl vu lo hi sl Q I rx hs pl pu h;obtain⟨a,xs,rfl,hx,q⟩:=h;cases rx;obtain⟨its,r,ht,hz⟩:=I.list hx;have hlen:=r.length;refine⟨"list",_,slot_list_getitem.lookup,ht.isList.typeIs,?_⟩;refine wpAny_getItem_list_slice ht.isList hs pl pu .none (by simp) ?_ (by rw[bw]<;>omega);rw[o_,<-hlen];refine⟨.ref s.heap.objs.size,_,I.laid (t':=s.toks) (o:=.lst (fW xs lo hi)) (fun b ob q=>bj _ q) (az _) ?_,rfl,q _ (I.hok.fresh (az _))⟩;exact⟨aO (tR xs lo hi) hz,_,0,(r.drop (HT.sIx xs.length 0 lo)).take (HT.sIx xs.length xs.length hi-HT.sIx xs.length 0 lo),cO _ rfl⟩
theorem rW:d7 X (.builtin "len") (fun xs H Q=>∃p ys,xs=[.ref p]/\(av X.K H p ys∨bp X.K H p ys)/\Q (.int ys.length) H):=by
 intro J3 s σ H xs us Q I r h;obtain⟨p,ys,rfl,hq,q⟩:=h;obtain⟨u,rfl,rx⟩:=vals1 r;cases rx;have hn:=lR;rcases hq with hq|hq
 ·obtain⟨its,r',pl,hz⟩:=I.list hq;have hlen:=r'.length;exact Calls.call_len_list pl.isList (by simp only[bw]<;>omega) ⟨.int ys.length,H,I.tok _,⟨s.toks+1,by rw[bw,hlen]⟩,q⟩
 ·obtain⟨its,r',pl,hz⟩:=I.tuple hq;have hlen:=r'.length;exact len_tuple pl (by simp only[bw]<;>omega) ⟨.int ys.length,H,I.tok _,⟨s.toks+1,by rw[bw,hlen]⟩,q⟩
theorem rV:d7 X (.builtin "len") (fun xs H Q=>∃z,xs=[.str z]/\z.length<=aj/\Q (.int z.length) H):=by
 intro J3 s σ H xs us Q I r h;obtain⟨z,rfl,hz,q⟩:=h;obtain⟨u,rfl,t,rfl⟩:=vals1 r;have hn:=lR;exact len_str (by omega) ⟨.int z.length,H,I.tok _,⟨_,rfl⟩,q⟩
theorem d7.or{f:Value}{r r':List V->Hp->VK->Prop}(h:d7 X f r)(h':d7 X f r'):d7 X f (fun xs H Q=>r xs H Q∨r' xs H Q):=by
 intro J3 s σ H xs us Q I rs q;rcases q with q|q
 ·exact h J3 s σ H xs us Q I rs q
 ·exact h' J3 s σ H xs us Q I rs q
theorem rU:d7 X (.type "list") (fun xs H Q=>∃p ys,xs=[.ref p]/\(av X.K H p ys∨bp X.K H p ys)/\∀l,H l=none->Q (.ref l) (upd H l (.lst ys))):=by
 intro J3 s σ H xs us Q I r h;obtain⟨p,ys,rfl,hq,q⟩:=h;obtain⟨u,rfl,rx⟩:=vals1 r;cases rx;have fin:∀(its:Zf),aL ys its->ys.length<=aj->∀(h':Heap) (c':Nat),(∀b o',s.heap.get? b=some o'->h'.get? b=some o') ->
   h'.get? s.heap.objs.size=some { cls:=.type "list",dict:=none,data:=.seq its.toArray c',slots:=#[] }->EP X J3 σ Q (.ref s.heap.objs.size) { s with heap:=h' }:=fun its r' hz h' c' kp e =>
  ⟨.ref s.heap.objs.size,_,I.laid (t':=s.toks) kp (az _) (show cj X.prog X.w X.K _ h' _ (.lst ys)from⟨hz,its,c',r',e⟩),rfl,q _ (I.hok.fresh (az _))⟩
 rcases hq with hq|hq
 ·obtain⟨its,r',pl,hz⟩:=I.list hq;have hlen:=r'.length;obtain⟨o,ho,hc,n,hd⟩:=pl.isList;exact call_list_seq p (.inl rfl) ho hc hd (fun h' c' kp e=>fin its r' hz h' c' kp e) (by simp only[bw]<;>omega)
 ·obtain⟨its,r',pl,hz⟩:=I.tuple hq;have hlen:=r'.length;obtain⟨o,ho,hc,n,hd⟩:=pl;exact call_list_seq p (.inr rfl) ho hc hd (fun h' c' kp e=>fin its r' hz h' c' kp e) (by simp only[bw]<;>omega)
theorem dt:d7 X (.type "tuple") (fun xs H Q=>∃p ys,xs=[.ref p]/\((av X.K H p ys/\∀l,H l=none->Q (.ref l) (upd H l (.tup ys)))∨(bp X.K H p ys/\Q (.ref p) H))):=by
 intro J3 s σ H xs us Q I r h;obtain⟨p,ys,rfl,h⟩:=h;obtain⟨u,rfl,rx⟩:=vals1 r;cases rx;rcases h with⟨hq,q⟩|⟨hq,q⟩
 ·obtain⟨its,r',pl,hz⟩:=I.list hq;have hlen:=r'.length;refine call_tuple_list pl.isList (fun h' kp=>?_) (by simp only[bw]<;>omega);have I1:Inv X J3 σ H { s with heap:=h' }:=I.kept (t':=s.toks) kp;have I2:Inv X J3 σ (upd H h'.objs.size (.tup ys)) { s with heap:=h'.push { cls:=.type "tuple",data:=.seq its.toArray } } :=
   I1.laid (t':=s.toks) (fun b o e=>bj _ e) (az _) (show cj X.prog X.w X.K _ _ _ (.tup ys)from⟨hz,its,r',IsTup.new _ _⟩)
  exact⟨.ref h'.objs.size,_,I2,rfl,q _ (I1.hok.fresh (az _))⟩
 ·obtain⟨its,r',pl,hz⟩:=I.tuple hq;exact call_tuple_same pl ⟨.ref p,H,I,rfl,q⟩
def tyV(K:Za)(T:String)(x:V)(H:Hp):Prop:=match x with
 |.str _=>T="str"
 |.int _=>T="int"
 |.ref p=>(T="list"/\∃xs,av K H p xs)∨(T="tuple"/\∃o,K.lookup p=some o/\o.cls=.type "tuple"/\o.dict=none) ∨
   (T="dict"/\((∃kvs,H p=some (.dK kvs))∨∃kvs,H p=some (.dT kvs)))∨(T="set"/\∃S n,H p=some (.set S n))
 |_=>False
theorem xj{J3:Zd}{σ:St}{H:Hp}{s:Shared}{T:String}{x:V}{v:Value}(I:Inv X J3 σ H s)(r:RelV x v)(ty:tyV X.K T x H):
  s.TypeIs v T/\∀a,v=.ref a->∃ob,s.heap.get? a=some ob/\ob.dict=none:=by
 cases x with
 |str z =>
  obtain⟨t,rfl⟩:=r;cases(show T="str" from ty);exact⟨qF s z t,fun _ e=>nomatch e⟩
 |int i =>
  obtain⟨t,rfl⟩:=r;cases(show T="int" from ty);exact⟨typeIs_int s i t,fun _ e=>nomatch e⟩
 |ref p =>
  cases r;rcases ty with⟨rfl,xs,hq⟩|⟨rfl,o,hk,hc,hd⟩|⟨rfl,hk⟩|⟨rfl,S,n,hk⟩
  ·obtain⟨its,_,pl,_⟩:=I.list hq;refine⟨pl.isList.typeIs,fun a e=>?_⟩;cases e;obtain⟨o,n,e,c,hd,_⟩:=pl;exact⟨o,e,hd⟩
  ·refine⟨⟨o,I.kIn p o hk,hc⟩,fun a e=>?_⟩;cases e;exact⟨o,I.kIn _ o hk,hd⟩
  ·have z:∃o,s.heap.get? p=some o/\o.ExactDict:=by
    rcases hk with⟨kvs,hk⟩|⟨kvs,hk⟩
    ·obtain⟨_,_,_,_,o,_,_,e,ex,_⟩:=I.hok p _ hk;exact⟨o,e,ex⟩
    ·obtain⟨_,_,_,_,o,_,_,e,ex,_⟩:=I.hok p _ hk;exact⟨o,e,ex⟩
   obtain⟨o,e,ex⟩:=z;refine⟨⟨o,e,ex.1⟩,fun a e2=>?_⟩;cases e2;exact⟨o,e,ex.2.1⟩
  ·obtain⟨o,_,_,_,e,ex,_⟩:=I.hok p _ hk;refine⟨⟨o,e,ex.1⟩,fun a e2=>?_⟩;cases e2;exact⟨o,e,ex.2.1⟩
 |_=>exact gG ty
def A6(K:Za)(T:String)(r:V->List V->Hp->VK->Prop)(to:TE):TE:=fun σ H Q=>to σ H fun x H1=>tyV K T x H1/\r x [] H1 Q
def sX(K:Za)(T:String)(r:V->List V->Hp->VK->Prop)(to:TE)(t:TA):TE:=fun σ H Q=>to σ H fun x H1=>tyV K T x H1/\t σ H1 fun xs H2=>r x xs H2 Q
variable{o e:Expr}{es:List Expr}{to:TE}{t:TA}{name:Str}{J5 J4:Pos}{T id:String}{r:V->List V->Hp->VK->Prop}
theorem AJ(pa:PlainAttrs T)(slot:Slot T name id)(hty:typeOf (.builtin id)=pure (.type "method_descriptor"))(hm:MtR X id r)(ho:PE X o to)
  (hbase:pH o name X.env (eval o X.env)=eval o X.env:=by rfl) (hline:(J5.endLine==J4.line)=true:=by rfl):PE X (.Call (.Attribute o name J5) [] [] J4) (A6 X.K T r to):=by
 intro J3 s σ H Q I h;refine wpAny_Call_method0_late hbase hline (bU (ho J3 s σ H _ I h) fun v s1 zq0=>?_);obtain⟨x,H1,I1,r1,ty,q1⟩:=zq0;obtain⟨h1,h2⟩:=xj I1 r1 ty;exact⟨T,id,pa,slot,hty,h1,h2,Calls.callWith_builtin rfl (PySem.evalArgs_none (hm J3 s1 σ H1 x [] v [] Q I1 r1 .nil q1))⟩
theorem fz(pa:PlainAttrs T)(slot:Slot T name id)(hty:typeOf (.builtin id)=pure (.type "method_descriptor"))(hm:MtR X id r)(ho:PE X o to)(ha:PA X (e::es) t)
  (hbase:pH o name X.env (eval o X.env)=eval o X.env:=by rfl)
  (hfew:((backTo J4 (aA (e::es) X.env)).all (fun x=>!x.1) && (jW J4 (jV [] X.env)).all (fun x=>x.1.isSome)
   && decide ((e::es).length+([]:List lx).length+(if([]:List lx).isEmpty then 0 else 1)<30))=true:=by rfl)
  (hline:(J5.endLine==J4.line)=true:=by rfl) (hs:aA (e::es) X.env=(false,eval e X.env)::aA es X.env:=by rfl) (hplain:(backTo J4 (aA es X.env)).any (·.1)=false:=by rfl) :
  PE X (.Call (.Attribute o name J5) (e::es) [] J4) (sX X.K T r to t):=by
 intro J3 s σ H Q I h;refine wpAny_Call_method_late hbase hfew hline rfl (bU (ho J3 s σ H _ I h) fun v s1 zq0=>?_);obtain⟨x,H1,I1,r1,ty,q1⟩:=zq0;obtain⟨h1,h2⟩:=xj I1 r1 ty;refine⟨T,id,pa,slot,hty,h1,h2,?_⟩;have hA:=ha J4 J3 s1 σ H1 _ I1 q1;rw[hs]at hA ⊢;refine Calls.callWith_builtin (by show(false || (backTo J4 (aA es X.env)).any (·.1))=false;rw[hplain]<;>rfl) (Calls.evalArgs_plain ?_);exact bU hA fun us s2 ⟨vs,H2,I2,r2,q2⟩=>hm J3 s2 σ H2 x vs v us Q I2 r1 r2 q2
end
end L2
namespace L2
open PySem PySem.Spec PyProof.Rows
def Bl(X:Cx)(id:String)(r:V->List V->Hp->VK->Prop):Prop :=
 ∀(J3:Zd) (s:Shared) (σ:St) (H:Hp) (x:V) (xs:List V) (v:Value) (us:Zf) (Q:VK),Inv X J3 σ H s->RelV x v->aL xs us->r x xs H Q ->
  wpAny (model X.prog X.w) X.A (call (.builtin id) (v::us)) (EP X J3 σ Q) X.xe s
theorem aL.one{x:V}{us:Zf}(h:aL [x] us):∃u,us=[u]/\RelV x u:=by
 cases h with
 |cons r t=>cases t;exact⟨_,rfl,r⟩
theorem aL.two{x y:V}{us:Zf}(h:aL [x,y] us):∃u v,us=[u,v]/\RelV x u/\RelV y v:=by
 cases h with
 |cons r t =>
  obtain⟨v,e,q⟩:=aL.one t;exact⟨_,v,by rw[e],r,q⟩
theorem aL.zero:∀{us:Zf},aL [] us->us=[]
 |_,.nil=>rfl
theorem aL.dropLast{xs:List V}{us:Zf}(h:aL xs us):aL xs.dropLast us.dropLast:=by
 induction h with
 |nil=>exact .nil
 |cons r t ih =>
  cases t with
  |nil=>exact .nil
  |cons q t'=>exact .cons r ih
theorem u2{α:Type}(l:List α):l.eraseIdx (l.length-1)=l.dropLast:=by
 induction l with
 |nil=>rfl
 |cons a r ih =>
  cases r with
  |nil=>rfl
  |cons b r =>
   have e:(a::b::r).length-1=((b::r).length-1)+1:=by
    have h1:(a::b::r).length=r.length+2:=rfl;have h2:(b::r).length=r.length+1:=rfl;omega
   rw[e,List.eraseIdx_cons_succ,ih]
   all_goals rfl
section
variable{X:Cx}{J3:Zd}{σ:St}{H:Hp}{s:Shared}{l b:Addr}{xs ys zs:List V}
theorem Inv.lset{its its':Zf}{n:Nat}{f:Array Value->Array Value}{t':Nat}(I:Inv X J3 σ H s)(hH:H l=some (.lst xs))
  (e:s.heap.get? l=some { cls:=.type "list",data:=.seq its.toArray n }) (hf:f its.toArray=its'.toArray) (hv:aL ys its') (hz:ys.length<=aj) :
  Inv X J3 σ (upd H l (.lst ys)) { s with heap:=s.heap.update l (dE f),toks:=t' }:=by
 have q:=PySem.IsL.update e f;rw[hf]at q;refine I.write (x:=l) (e:=l) (by rw[hH];exact trivial) (.inl rfl) (fun b' u hb hu=>(Heap.get?_update_other s.heap (dE f) (fw hb)).trans hu) ⟨_,q⟩ ?_;exact⟨hz,its',_,hv,q⟩
theorem Inv.lnew{its:Zf}{t':Nat}(I:Inv X J3 σ H s)(hv:aL ys its)(hz:ys.length<=aj):
  Inv X J3 σ (upd H s.heap.objs.size (.lst ys)) { s with heap:=s.heap.push { cls:=.type "list",data:=.seq its.toArray },toks:=t' } :=
 I.laid (fun _ _ q=>bj _ q) (az _) ⟨hz,its,0,hv,cO _ rfl⟩
theorem Inv.fresh(I:Inv X J3 σ H s):H s.heap.objs.size=none:=I.hok.fresh (az _)
theorem Inv.lstM(I:Inv X J3 σ H s)(hH:H l=some (.lst xs)):xs.length<=aj/\∃(its:Zf) (n:Nat),aL xs its/\xs.length=its.length/\s.heap.get? l=some { cls:=.type "list",data:=.seq its.toArray n }:=by
 obtain⟨z,its,n,r,e⟩:=I.hok l _ hH;exact⟨z,its,n,r,r.length,e⟩
theorem ya{n:Nat}(h:n<=aj):cf.List.listTooLong n=false:=by
 unfold cf.List.listTooLong;exact zzr0 (by omega)
end
section
variable{X:Cx}
def cJ:V->List V->Hp->VK->Prop:=fun x vs H Q=>∃l xs y,x=.ref l/\vs=[y]/\H l=some (.lst xs)/\xs.length<aj/\Q .non (upd H l (.lst (xs++[y])))
theorem bF:Bl X "list.append" cJ:=by
 intro J3 s σ H x vs v us Q I rx rv h;obtain⟨l,xs,y,rfl,rfl,hH,hz,q⟩:=h;cases rx;obtain⟨u,rfl,ru⟩:=rv.one;obtain⟨z,its,n,r,hl,e⟩:=I.lstM hH;refine qE F.slot_list_append ⟨_,e,rfl⟩ F.entry_list_append (F.args_list_append_2 _ _) (PySem.list_append l its.toArray n u (by rw[bw];omega)) ⟨e,?_⟩;refine⟨.non,_,I.lset (its':=its++[u]) hH e (by simp) (r.append (.cons ru .nil)) ?_,rfl,q⟩;rw[aW,List.length_singleton];omega
def vK:V->List V->Hp->VK->Prop:=fun x vs H Q=>∃l b xs zs,x=.ref l/\vs=[.ref b]/\H l=some (.lst xs)/\H b=some (.lst zs)/\xs.length+zs.length<=aj/\Q .non (upd H l (.lst (xs++zs)))
theorem wC:Bl X "list.extend" vK:=by
 intro J3 s σ H x vs v us Q I rx rv h;obtain⟨l,b,xs,zs,rfl,rfl,hH,hB,hz,q⟩:=h;cases rx;obtain⟨u,rfl,ru⟩:=rv.one;cases ru;obtain⟨z,its,n,r,hl,e⟩:=I.lstM hH;obtain⟨z2,its2,n2,r2,hl2,e2⟩:=I.lstM hB;have hsz:its.toArray.size+its2.toArray.size<=aj:=by rw[bw,bw];omega
 have hlong:¬(!its.toArray.isEmpty && cf.List.listTooLong (its.toArray.size+its2.toArray.size))=true:=by
  rw[ya hsz,Bool.and_false];exact fN
 refine qE F.slot_list_extend ⟨_,e,rfl⟩ F.entry_list_extend (F.args_list_extend_2 _ _)
  (AutoSeq1.list_extend_list_list_0 l its.toArray n b its2.toArray n2 hlong (by rw[bw];omega) (by omega)) ⟨e,e2,?_⟩
 refine⟨.non,_,I.lset (its':=its++its2) hH e (by simp) (r.append r2) ?_,rfl,q⟩;rw[aW];omega
def A8:V->List V->Hp->VK->Prop:=fun x vs H Q=>∃l xs y,x=.ref l/\vs=[]/\H l=some (.lst xs)/\xs[xs.length-1]?=some y/\Q y (upd H l (.lst xs.dropLast))
theorem AL:Bl X "list.pop" A8:=by
 intro J3 s σ H x vs v us Q I rx rv h;obtain⟨l,xs,y,rfl,rfl,hH,hy,q⟩:=h;cases rx;have hus:=rv.zero;subst hus;obtain⟨z,its,n,r,hl,e⟩:=I.lstM hH;obtain⟨u,hu,ru⟩:=r.get hy;have hy':its.toArray[its.toArray.size-1]?=some u:=by
  show its.toArray[its.length-1]?=some u;rw[<-lq,<-hl];exact hu
 refine qE F.slot_list_pop ⟨_,e,rfl⟩ F.entry_list_pop (F.args_list_pop_1 _) (MeetsSeq.list_pop_last l its.toArray n u hy' (by rw[bw];omega)) ⟨e,?_⟩;refine⟨y,_,I.lset (its':=its.dropLast) hH e ?_ r.dropLast ?_,ru,q⟩
 ·show its.toArray.eraseIdxIfInBounds (its.toArray.size-1)=its.dropLast.toArray;rw[bw,List.eraseIdxIfInBounds_toArray,u2]
 ·rw[List.length_dropLast];omega
def rh:R2:=fun x y H Q=>∃l b xs zs,x=.ref l/\y=.ref b/\H l=some (.lst xs)/\H b=some (.lst zs)/\xs.length+zs.length<=aj/\∀p,H p=none->Q (.ref p) (upd H p (.lst (xs++zs)))
theorem jA:jH X (md .Add) rh:=by
 intro J3 s σ H x y v u Q I rx ry h;obtain⟨l,b,xs,zs,rfl,rfl,hH,hB,hz,q⟩:=h;cases rx;cases ry;obtain⟨z,its,n,r,hl,e⟩:=I.lstM hH;obtain⟨z2,its2,n2,r2,hl2,e2⟩:=I.lstM hB;refine PySem.P.add_list e e2 ?_ (by rw[bw,bw];omega);have ea:its.toArray++its2.toArray=(its++its2).toArray:=by simp
 rw[ea];exact⟨.ref _,_,I.lnew (t':=s.toks) (r.append r2) (by rw[aW];omega),rfl,q _ I.fresh⟩
end
end L2
namespace L2
open PySem PySem.Spec PyProof.Rows
section
variable{κ:Type}[DecidableEq κ]
def bV(kvs:List (κ×V))(k:κ):Option V:=(kvs.find? fun kv=>decide (kv.1=k)).map (·.2)
def cU(kvs:List (κ×V))(k:κ)(v:V):List (κ×V) :=
 if(kvs.any fun kv=>decide (kv.1=k))=true then kvs.map (fun kv=>if kv.1=k then(kv.1,v)else kv)else kvs++[(k,v)]
theorem cA{p:κ×V}{r:List (κ×V)}{k:κ}(e:p.1=k):bV (p::r) k=some p.2:=by simp[bV,lp,e]
theorem cg{p:κ×V}{r:List (κ×V)}{k:κ}(e:¬p.1=k):bV (p::r) k=bV r k:=by simp[bV,lp,e]
theorem gI(k:κ):∀kvs:List (κ×V),(kvs.any fun kv=>decide (kv.1=k))=(bV kvs k).isSome
 |[]=>rfl
 |p::r=>by
  rw[iu];by_cases e:p.1=k
  ·simp only[cA e,zzr1 e,Bool.true_or,Option.isSome_some]
  ·rw[cg e,zzr0 e,Bool.false_or];exact gI k r
theorem sJ(k j:κ)(y:V):∀kvs:List (κ×V),bV (kvs.map fun kv=>if kv.1=k then(kv.1,y)else kv) j=(bV kvs j).map fun x=>if j=k then y else x
 |[]=>rfl
 |p::r=>by
  have ih:=sJ k j y r;rw[aY];by_cases h:p.1=k
  ·rw[if_pos h];by_cases e:p.1=j
   ·rw[cA (p:=(p.1,y)) e,cA e,nK,if_pos (e.symm.trans h)]
   ·rw[cg (p:=(p.1,y)) e,cg e,ih]
  ·rw[if_neg h];by_cases e:p.1=j
   ·rw[cA (p:=p) e,cA e,nK,if_neg (fun z=>h (e.trans z))]
   ·rw[cg (p:=p) e,cg e,ih]
theorem pN(k j:κ)(y:V):∀kvs:List (κ×V),bV kvs k=none->bV (kvs++[(k,y)]) j=if j=k then some y else bV kvs j
 |[],_=>by
  by_cases e:k=j
  ·rw[if_pos e.symm];exact cA (p:=(k,y)) e
  ·rw[if_neg (fun z=>e z.symm)];exact cg (p:=(k,y)) e
 |p::r,hn=>by
  rw[List.cons_append];have hk:¬p.1=k:=fun z=>by rw[cA z]at hn;cases hn
  rw[cg hk]at hn;have ih:=pN k j y r hn;by_cases e:p.1=j
  ·rw[cA e,cA e,if_neg (fun z=>hk (e.trans z))]
  ·rw[cg e,cg e,ih]
theorem nM(kvs:List (κ×V))(k j:κ)(y:V):bV (cU kvs k y) j=if j=k then some y else bV kvs j:=by
 unfold cU;by_cases a:(kvs.any fun kv=>decide (kv.1=k))=true
 ·rw[if_pos a,sJ];rw[gI]at a;by_cases e:j=k
  ·obtain⟨x,hx⟩:=vq.mp a;rw[if_pos e,e,hx,nK,if_pos rfl]
  ·rw[if_neg e];cases bV kvs j with
   |none=>rfl
   |some x=>rw[nK,if_neg e]
 ·rw[if_neg a];refine pN k j y kvs ?_;rw[gI]at a;cases q:bV kvs k with
  |none=>rfl
  |some x=>rw[q]at a;exact(a rfl).elim
theorem gq(kvs:List (κ×V))(k:κ)(v:V):(cU kvs k v).length<=kvs.length+1:=by
 unfold cU;split
 ·rw[af];omega
 ·rw[aW,eT,List.length_nil];omega
theorem kG{kvs:List (κ×V)}{k:κ}(v:V)(h:bV kvs k=none):cU kvs k v=kvs++[(k,v)]:=by
 unfold cU;rw[gI,h];exact if_neg (by decide)
theorem h9.isSome_eq{o:Option V}{u:Option Value}(r:h9 o u):o.isSome=u.isSome:=by
 cases o with
 |none=>cases u with
  |none=>rfl
  |some _=>exact(show False from r).elim
 |some _=>cases u with
  |none=>exact(show False from r).elim
  |some _=>rfl
theorem h9.getD{o:Option V}{u:Option Value}{d:V}{d':Value}(r:h9 o u)(rd:RelV d d'):RelV (o.getD d) (u.getD d'):=by
 cases o with
 |none=>cases u with
  |none=>exact rd
  |some _=>exact(show False from r).elim
 |some _=>cases u with
  |none=>exact(show False from r).elim
  |some _=>exact r
theorem KV.val{kvs:List (κ×V)}{vs:List (κ×Value)}(r:KV kvs vs)(k:κ):h9 (bV kvs k) (jo vs k):=by
 unfold KV at r
 induction r with
 |nil=>exact l_
 |@cons p q ps qs h t ih =>
  obtain⟨h1,h2⟩:=h;by_cases e:p.1=k
  ·have e':q.1=k:=h1.symm.trans e;have b:jo (q::qs) k=some q.2:=by simp[jo,lp,e']
   rw[cA e,b];exact h2
  ·have e':¬q.1=k:=fun z=>e (h1.trans z);have b:jo (q::qs) k=jo qs k:=by simp[jo,lp,e']
   rw[cg e,b];exact ih
theorem KV.any{kvs:List (κ×V)}{vs:List (κ×Value)}(r:KV kvs vs)(k:κ):(kvs.any fun kv=>decide (kv.1=k))=vs.any fun kv=>decide (kv.1=k):=by
 unfold KV at r
 induction r with
 |nil=>rfl
 |cons h t ih=>rw[iu,iu,ih,h.1]
theorem KV.repl{kvs:List (κ×V)}{vs:List (κ×Value)}(r:KV kvs vs)(k:κ){y:V}{u:Value}(ry:RelV y u):
  KV (kvs.map fun kv=>if kv.1=k then(kv.1,y)else kv) (vs.map fun kv=>if kv.1=k then(kv.1,u)else kv):=by
 unfold KV at r ⊢
 induction r with
 |nil=>exact .nil
 |@cons p q ps qs h t ih =>
  rw[aY,aY];refine .cons ?_ ih;obtain⟨h1,h2⟩:=h;by_cases e:p.1=k
  ·rw[if_pos e,if_pos (h1.symm.trans e)];exact⟨h1,ry⟩
  ·rw[if_neg e,if_neg (fun z=>e (h1.trans z))];exact⟨h1,h2⟩
theorem KV.put{kvs:List (κ×V)}{vs:List (κ×Value)}(r:KV kvs vs)(k:κ){y:V}{u:Value}(ry:RelV y u):KV (cU kvs k y) (stored vs k u):=by
 unfold cU stored;rw[r.any k];by_cases e:(vs.any fun kv=>decide (kv.1=k))=true
 ·rw[if_pos e,if_pos e];exact r.repl k ry
 ·rw[if_neg e,if_neg e];exact dW r ⟨rfl,ry⟩
theorem KV.length{kvs:List (κ×V)}{vs:List (κ×Value)}(r:KV kvs vs):kvs.length=vs.length:=Paired.length r
end
theorem mo{P:bm}{w:World}{k:dA}{u:Value}(r:RelV (kV k) u):(bG P w).is k u=true:=by
 cases k with
 |inl i=>obtain⟨t,e⟩:=(show ∃t,u=Value.int i t from r);subst e;exact tI P w i t
 |inr x=>obtain⟨t,e⟩:=(show ∃t,u=Value.str x t from r);subst e;exact tH P w x t
theorem rK:∀{k:jN}{u:Value},RelV (Ah k) u->fU k u=true
 |none,u,r=>by cases(show u=Value.none from r);rfl
 |some (.inl i),u,r=>by obtain⟨t,rfl⟩:=r;exact iV i t
 |some (.inr x),u,r=>by obtain⟨t,rfl⟩:=r;exact iU x t
abbrev KT(K:Za)(H:Hp):List (TK×V)->List (TK×Addr×Value)->Prop:=Paired fun p q=>p.1=q.1/\mR K H p.1 (.ref q.2.1)/\p.1.depth<=8/\RelV p.2 q.2.2
theorem KT.val{K:Za}{H:Hp}{kvs:List (TK×V)}{xs:List (TK×Addr×Value)}(r:KT K H kvs xs)(k:TK):h9 (bV kvs k) ((atKey xs k).map (·.2)):=by
 induction r with
 |nil=>exact l_
 |@cons p q ps qs h t ih =>
  obtain⟨h1,_,_,h2⟩:=h;by_cases e:p.1=k
  ·have e':q.1=k:=h1.symm.trans e;have b:atKey (q::qs) k=some q.2:=by simp[atKey,lp,e']
   rw[cA e,b];exact h2
  ·have e':¬q.1=k:=fun z=>e (h1.trans z);have b:atKey (q::qs) k=atKey qs k:=by simp[atKey,lp,e']
   rw[cg e,b];exact ih
theorem KT.repl{K:Za}{H:Hp}{kvs:List (TK×V)}{xs:List (TK×Addr×Value)}(r:KT K H kvs xs)(k:TK){y:V}{u:Value}(ry:RelV y u):
  KT K H (kvs.map fun kv=>if kv.1=k then(kv.1,y)else kv) (xs.map (putAt k u)):=by
 induction r with
 |nil=>exact .nil
 |@cons p q ps qs h t ih =>
  rw[aY,aY];refine .cons ?_ ih;obtain⟨h1,h2,h3⟩:=h;unfold putAt;by_cases e:p.1=k
  ·rw[if_pos e,if_pos (h1.symm.trans e)];exact⟨h1,h2,h3.1,ry⟩
  ·rw[if_neg e,if_neg (fun z=>e (h1.trans z))];exact⟨h1,h2,h3⟩
theorem KT.put{K:Za}{H:Hp}{kvs:List (TK×V)}{xs:List (TK×Addr×Value)}(r:KT K H kvs xs)(k:TK){b:Addr}{y:V}{u:Value}(hb:mR K H k (.ref b))(h8:k.depth<=8)(ry:RelV y u):
  KT K H (cU kvs k y) (storedH xs k b u):=by
 have e:(kvs.any fun kv=>decide (kv.1=k))=(atKey xs k).isSome:=by
  rw[gI,(r.val k).isSome_eq,Option.isSome_map]
 unfold cU storedH;rw[e];by_cases q:(atKey xs k).isSome=true
 ·rw[if_pos q,if_pos q];exact r.repl k ry
 ·rw[if_neg q,if_neg q];exact dW r ⟨rfl,hb,h8,ry⟩
theorem KT.keeps{K:Za}{H H':Hp}{kvs:List (TK×V)}{xs:List (TK×Addr×Value)}(r:KT K H kvs xs)(ht:∀b ys,H b=some (.tup ys)->H' b=some (.tup ys)):KT K H' kvs xs :=
 Paired.mapP r fun _ _ z=>⟨z.1,mR.keeps ht 8 z.2.2.1 z.2.1,z.2.2⟩
section
variable{P:bm}{w:World}{K:Za}{H:Hp}{h:Heap}{a:Addr}
theorem Ab{u:HO}(ok:jh P w K H h)(e:Rd H a u):cj P w K H h a u:=e.ok ok
theorem mw{kvs:List (dA×V)}(ok:jh P w K H h)(e:Rd H a (.dK kvs)):kvs.length<=aj/\(a==fO)=false/\∃vs,KV kvs vs/\h.DictOf (bG P w) a vs :=
 show cj P w K H h a (.dK kvs)from Ab ok e
theorem Bi{kvs:List (dA×V)}(ok:jh P w K H h)(e:H a=some (.dK kvs)):kvs.length<=aj/\(a==fO)=false/\∃vs,KV kvs vs/\h.DictOf (bG P w) a vs:=mw ok (.inl e)
theorem As(ok:jh P w K H h)(kin:K.In h):∀(d:Nat) {k:TK}{v:V}{u:Value},k.depth<=d->mR K H k v->RelV v u->i9 h k u:=by
 have key:∀(d:Nat) (ih:∀{k:TK}{v:V}{u:Value},k.depth<=d->mR K H k v->RelV v u->i9 h k u) (ks:List TK) (vs:List V) (us:Zf),TK.depths ks<=d->TKCs K H ks vs->aL vs us->TAts h ks us:=by
  intro d ih ks
  induction ks with
  |nil =>
   intro vs us _ hx r;have e:vs=[]:=hx;subst e;cases r
   rfl
  |cons k ks ihl =>
   intro vs us hd hx r;obtain⟨v,vs',rfl,h1,h2⟩:=hx;cases r with
   |@cons _ u _ us' r1 r2 =>
    have hd':max k.depth (TK.depths ks)<=d:=hd;exact⟨u,us',rfl,ih (by omega) h1 r1,ihl vs' us' (by omega) h2 r2⟩
 intro d
 induction d with
 |zero =>
  intro k v u hd hx r;cases k with
  |t l=>exact absurd hd (by show ¬(TK.depths l+1<=0);omega)
  |k b =>
   have e:v=Ah b:=hx;subst e;exact rK r
 |succ d ih =>
  intro k v u hd hx r;cases k with
  |k b =>
   have e:v=Ah b:=hx;subst e;exact rK r
  |t l =>
   obtain⟨b,xs,rfl,hb,hi⟩:=hx;cases(show u=Value.ref b from r);obtain⟨its,rv,ob,h1,h2,n,h3⟩:∃its:List Value,aL xs its/\IsTup h b its.toArray:=by
    rcases hb with hb|⟨o,its,n,hk,hc,hs,hz,r⟩
    ·obtain⟨_,its,rv,p⟩:=(show cj P w K H h b (.tup xs)from ok b _ hb);exact⟨its,rv,p⟩
    ·exact⟨its.toList,r,o,kin b o hk,hc,n,by simpa using hs⟩
   exact⟨b,ob,its.toArray,n,rfl,h1,h2,h3,by simpa using key d (fun h1=>ih h1) l xs its (by have:TK.depths l+1<=d+1:=hd;omega) hi rv⟩
theorem rF{k:TK}(ok:jh P w K H h)(kin:K.In h)(e:mR K H k (.ref a))(h8:k.depth<=8):(dj P w).is h k a:=⟨As ok kin 8 h8 e rfl,h8⟩
theorem oB{kvs:List (TK×V)}(ok:jh P w K H h)(kin:K.In h)(e:Rd H a (.dT kvs)):kvs.length<=aj/\(a==fO)=false /\
  ∃xs,KT K H kvs xs/\h.DictOfH (dj P w) a xs:=by
 obtain⟨z,y,xs,r,o,es,ep,h1,h2,h3,h4,h5⟩:=(show cj P w K H h a (.dT kvs)from Ab ok e);refine⟨z,y,xs,r,o,es,ep,h1,h2,h3,h4,fun x hx=>?_,h5⟩;have all:∀{l:List (TK×V)}{m:List (TK×Addr×Value)},KT K H l m->∀x∈m,(dj P w).is h x.1 x.2.1:=by
  intro l m q
  induction q with
  |nil=>intro x hx;exact nomatch hx
  |@cons p q ps qs hq t ih =>
   intro x hx;rcases cI.mp hx with e|hx
   ·subst e;exact rF ok kin (by rw[<-hq.1];exact hq.2.1) (by rw[<-hq.1];exact hq.2.2.1)
   ·exact ih x hx
 exact all r x hx
theorem yu{kvs:List (TK×V)}(ok:jh P w K H h)(kin:K.In h)(e:H a=some (.dT kvs)):kvs.length<=aj/\(a==fO)=false /\
  ∃xs,KT K H kvs xs/\h.DictOfH (dj P w) a xs:=oB ok kin (.inl e)
end
mutual
def mQ(K:Za)(H:Hp):TK->V->Prop
 |.k a,v=>v=Ah a
 |.t l,v=>∃b xs,v=.ref b/\bp K H b xs/\TKIns K H l xs
def TKIns(K:Za)(H:Hp):List TK->List V->Prop
 |[],vs=>vs=[]
 |k::r,vs=>∃v us,vs=v::us/\mQ K H k v/\TKIns K H r us
end
theorem fb.isIn{K:Za}{H:Hp}:∀(d:Nat) {k:TK}{v:V},k.depth<=d->fb H k v->mQ K H k v:=by
 have key:∀(d:Nat) (ih:∀{k:TK}{v:V},k.depth<=d->fb H k v->mQ K H k v) (xs:List TK) (vs:List V),TK.depths xs<=d->TKAts H xs vs->TKIns K H xs vs:=by
  intro d ih xs
  induction xs with
  |nil=>intro vs _ hx;exact hx
  |cons x xs ihl =>
   intro vs hd hx;obtain⟨v,us,rfl,hx1,hx2⟩:=hx;have hd':max x.depth (TK.depths xs)<=d:=hd;exact⟨v,us,rfl,ih (by omega) hx1,ihl us (by omega) hx2⟩
 intro d
 induction d with
 |zero =>
  intro k v hd hx;cases k with
  |t l=>exact absurd hd (by show ¬(TK.depths l+1<=0);omega)
  |k a=>exact hx
 |succ d ih =>
  intro k v hd hx;cases k with
  |k a=>exact hx
  |t l =>
   obtain⟨b,xs,rfl,hb,hi⟩:=hx;exact⟨b,xs,rfl,bp.of hb,key d (fun h1=>ih h1) l xs (by have:TK.depths l+1<=d+1:=hd;omega) hi⟩
theorem y9{X:Cx}{J3:Zd}{σ:St}{H:Hp}{s:Shared}(I:Inv X J3 σ H s):∀(d:Nat) {k:TK}{v:V}{u:Value},k.depth<=d->mQ X.K H k v->RelV v u->i9 s.heap k u:=by
 have key:∀(d:Nat) (ih:∀{k:TK}{v:V}{u:Value},k.depth<=d->mQ X.K H k v->RelV v u->i9 s.heap k u) (ks:List TK) (vs:List V) (us:Zf),TK.depths ks<=d->TKIns X.K H ks vs->aL vs us->TAts s.heap ks us:=by
  intro d ih ks
  induction ks with
  |nil =>
   intro vs us _ hx r;have e:vs=[]:=hx;subst e;cases r
   rfl
  |cons k ks ihl =>
   intro vs us hd hx r;obtain⟨v,vs',rfl,h1,h2⟩:=hx;cases r with
   |@cons _ u _ us' r1 r2 =>
    have hd':max k.depth (TK.depths ks)<=d:=hd;exact⟨u,us',rfl,ih (by omega) h1 r1,ihl vs' us' (by omega) h2 r2⟩
 intro d
 induction d with
 |zero =>
  intro k v u hd hx r;cases k with
  |t l=>exact absurd hd (by show ¬(TK.depths l+1<=0);omega)
  |k b =>
   have e:v=Ah b:=hx;subst e;exact rK r
 |succ d ih =>
  intro k v u hd hx r;cases k with
  |k b =>
   have e:v=Ah b:=hx;subst e;exact rK r
  |t l =>
   obtain⟨b,xs,rfl,hb,hi⟩:=hx;cases(show u=Value.ref b from r);obtain⟨its,rv,⟨ob,h1,h2,n,h3⟩,_⟩:=I.tuple hb;exact⟨b,ob,its.toArray,n,rfl,h1,h2,h3,by simpa using key d (fun h1=>ih h1) l xs its (by have:TK.depths l+1<=d+1:=hd;omega) hi rv⟩
theorem rJ{X:Cx}{J3:Zd}{σ:St}{H:Hp}{s:Shared}{k:TK}{b:Addr}(I:Inv X J3 σ H s)(e:mQ X.K H k (.ref b))(h8:k.depth<=8):(dj X.prog X.w).is s.heap k b:=⟨y9 I 8 h8 e rfl,h8⟩
theorem eB{P:bm}{w:World}{A:Around}(hu:A.units+16<cLine):(dj P w).room A.in1:=by
 show A.units+1+8<cLine;omega
def so(K:Za)(H:Hp)(a:Addr)(y:V)(r:Option V):Prop :=
 (∃kvs k,Rd H a (.dK kvs)/\y=kV k/\r=bV kvs k)∨∃kvs k b,Rd H a (.dT kvs)/\y=.ref b/\mQ K H k (.ref b)/\k.depth<=8/\r=bV kvs k
def Bo(H:Hp)(a:Addr)(y v:V)(H':Hp):Prop :=
 (∃kvs k,H a=some (.dK kvs)/\y=kV k/\kvs.length<aj/\H'=upd H a (.dK (cU kvs k v))) ∨
 ∃kvs k b,H a=some (.dT kvs)/\y=.ref b/\fb H k (.ref b)/\k.depth<=8/\kvs.length<aj/\H'=upd H a (.dT (cU kvs k v))
section
variable{X:Cx}{J3:Zd}{σ:St}{H:Hp}{s:Shared}{a:Addr}{y v:V}{u r:Value}{o:Option V}{A:Around}{E:Zc}
theorem Inv.big(I:Inv X J3 σ H s):fO<s.heap.objs.size:=by
 have h:bJ<s.heap.objs.size:=(I.mod.glob.keeps I.bk).lt;exact Nat.lt_trans (by decide) h
theorem wQ{Q:Zc}(hu:A.units+16<cLine)(I:Inv X J3 σ H s)(g:so X.K H a y (some v))(ry:RelV y u)(h:∀w' s',Inv X J3 σ H s'->RelV v w'->Q w' s'):
  wpAny (model X.prog X.w) A (jq (.ref a) u) Q E s:=by
 rcases g with⟨kvs,k,e,ey,l⟩|⟨kvs,k,b,e,ey,eb,e8,l⟩
 ·subst ey;obtain⟨z,hd,vs,rel,dd⟩:=mw I.hok e;obtain⟨w',hw,rw'⟩:=h9.some_of (v:=v) (o:=jo vs k) (by rw[l];exact rel.val k);exact wpAny_getItem_of (mo ry) dd.mapOf hw (h w' _ (I.tok _) rw')
 ·subst ey;cases(show u=Value.ref b from ry);obtain⟨z,hd,xs,rel,dd⟩:=oB I.hok I.kIn e;obtain⟨w',hw,rw'⟩:=h9.some_of (v:=v) (o:=(atKey xs k).map (·.2)) (by rw[l];exact rel.val k);obtain⟨p,hp,hp2⟩:=Option.map_eq_some_iff.mp hw;refine wpAny_getItem_heap (eB hu) (rJ I eb e8) dd hp ?_;rw[hp2];exact h w' _ (I.tok _) rw'
theorem d_in{Q:Zc}(hu:A.units+16<cLine)(I:Inv X J3 σ H s)(g:so X.K H a y o)(ry:RelV y u)(h:∀s',Inv X J3 σ H s'->Q (.bool o.isSome) s'):
  wpAny (model X.prog X.w) A (cP .In u (.ref a)) Q E s:=by
 rcases g with⟨kvs,k,e,ey,l⟩|⟨kvs,k,b,e,ey,eb,e8,l⟩
 ·subst ey;obtain⟨z,hd,vs,rel,dd⟩:=mw I.hok e;refine wpAny_in_of (mo ry) hd dd.mapOf ?_;rw[<-(rel.val k).isSome_eq,<-l];exact h _ (I.tok _)
 ·subst ey;cases(show u=Value.ref b from ry);obtain⟨z,hd,xs,rel,dd⟩:=oB I.hok I.kIn e;refine wpAny_in_heap (eB hu) (rJ I eb e8) hd dd ?_;have q:=(rel.val k).isSome_eq;rw[Option.isSome_map]at q;rw[<-q,<-l];exact h _ (I.tok _)
theorem zU{Q:Zc}(hu:A.units+16<cLine)(I:Inv X J3 σ H s)(g:so X.K H a y o)(ry:RelV y u)(h:∀s',Inv X J3 σ H s'->Q (.bool (!o.isSome)) s'):
  wpAny (model X.prog X.w) A (cP .NotIn u (.ref a)) Q E s:=by
 rcases g with⟨kvs,k,e,ey,l⟩|⟨kvs,k,b,e,ey,eb,e8,l⟩
 ·subst ey;obtain⟨z,hd,vs,rel,dd⟩:=mw I.hok e;refine wpAny_notIn_of (mo ry) hd dd.mapOf ?_;rw[<-(rel.val k).isSome_eq,<-l];exact h _ (I.tok _)
 ·subst ey;cases(show u=Value.ref b from ry);obtain⟨z,hd,xs,rel,dd⟩:=oB I.hok I.kIn e;refine wpAny_notIn_heap (eB hu) (rJ I eb e8) hd dd ?_;have q:=(rel.val k).isSome_eq;rw[Option.isSome_map]at q;rw[<-q,<-l];exact h _ (I.tok _)
theorem ng{h':Heap}{t':Nat}{ob:HO}(I:Inv X J3 σ H s)(mu:Bk (H a))(hs:ig a s.heap h')(he:∃q,h'.get? a=some q)(new:cj X.prog X.w X.K (upd H a ob) h' a ob):
  Inv X J3 σ (upd H a ob) { s with heap:=h',toks:=t' } :=
 I.write (x:=a) (e:=a) mu (.inl rfl) (fun b q hb z=>(hs.2 b hb).trans z) he new
theorem yz{P:bm}{w:World}{K:Za}{H':Hp}{h':Heap}{kvs:List (dA×V)}{vs:List (dA×Value)}(z:kvs.length<=aj)(hd:(a==fO)=false)(rel:KV kvs vs)(dd:h'.DictOf (bG P w) a vs):
  cj P w K H' h' a (.dK kvs):=⟨z,hd,vs,rel,dd⟩
theorem wP{H':Hp}{Q:Unit->Shared->Prop}(hu:A.units+16<cLine)(I:Inv X J3 σ H s)(g:Bo H a y v H')(ry:RelV y u)(rv:RelV v r)(h:∀s',Inv X J3 σ H' s'->Q () s'):
  wpAny (model X.prog X.w) A (setItem (.ref a) u r) Q E s:=by
 rcases g with⟨kvs,k,e,ey,l,eH⟩|⟨kvs,k,b,e,ey,eb,e8,l,eH⟩
 ·subst ey eH;obtain⟨z,hd,vs,rel,dd⟩:=Bi I.hok e;have hz:vs.length<=aj:=by rw[<-rel.length];exact z
  have hl:(cU kvs k v).length<=aj:=by have:=gq kvs k v;omega
  refine wpAny_setItem_pairs (hsz:=hz) (mo ry) dd fun h' dd' hs=>h _ ?_;have he:∃q,h'.get? a=some q:=let⟨q,_,_,hq,_⟩:=dd';⟨q,hq⟩;exact ng I (by rw[e];exact l_) hs he (yz hl hd (rel.put k rv) dd')
 ·subst ey eH;cases(show u=Value.ref b from ry);obtain⟨z,hd,xs,rel,dd⟩:=yu I.hok I.kIn e;have hz:xs.length<=aj:=by rw[<-Paired.length rel];exact z
  have hl:(cU kvs k v).length<=aj:=by have:=gq kvs k v;omega
  refine wpAny_setItem_heap (hsz:=hz) (eB hu) (rF I.hok I.kIn (fb.c 8 e8 eb) e8) dd fun h' dd' hs=>h _ ?_;obtain⟨q,es,ep,hq,h2,h3,h4,_,h5⟩:=dd';refine ng I (by rw[e];exact l_) hs ⟨q,hq⟩ ⟨hl,hd,_,(rel.put k (fb.c 8 e8 eb) e8 rv).keeps fun c ys ec=>?_,q,es,ep,hq,h2,h3,h4,h5⟩;rw[ai (yd ec e (fun z=>nomatch z))];exact ec
theorem u4{b:Addr}{kvs:List (TK×V)}{k:TK}{Q:Unit->Shared->Prop}(hu:A.units+16<cLine)(I:Inv X J3 σ H s)(e:H a=some (.dT kvs))(eb:mR X.K H k (.ref b))(e8:k.depth<=8)(l:kvs.length<aj)(ry:RelV (.ref b) u)(rv:RelV v r)(h:∀s',Inv X J3 σ (upd H a (.dT (cU kvs k v))) s'->Q () s'):
  wpAny (model X.prog X.w) A (setItem (.ref a) u r) Q E s:=by
 cases(show u=Value.ref b from ry);obtain⟨z,hd,xs,rel,dd⟩:=yu I.hok I.kIn e;have hz:xs.length<=aj:=by rw[<-Paired.length rel];exact z
 have hl:(cU kvs k v).length<=aj:=by have:=gq kvs k v;omega
 refine wpAny_setItem_heap (hsz:=hz) (eB hu) (rF I.hok I.kIn (eb) e8) dd fun h' dd' hs=>h _ ?_;obtain⟨q,es,ep,hq,h2,h3,h4,_,h5⟩:=dd';refine ng I (by rw[e];exact l_) hs ⟨q,hq⟩ ⟨hl,hd,_,(rel.put k (eb) e8 rv).keeps fun c ys ec=>?_,q,es,ep,hq,h2,h3,h4,h5⟩;rw[ai (yd ec e (fun z=>nomatch z))];exact ec
end
def wW(i:Expr):Prop:=∀ov iv,qG i false ov iv=operate [ov,iv] (jq ov iv)
theorem za{prog:bm}{w:World}{A:Around}{E:Zc}{s:Shared}{env:Env}{value slice:Expr}{pos:Pos}{T id:String}{Q:Zc}
  (hl:typeLookup (.type T) "__getitem__"=pure (some (.builtin id))) (hs:wW slice)
  (h:wpAny (model prog w) A (eval value env) (fun o s₁=>wpAny (model prog w) A (eval slice env) (fun i s₂=>s₂.TypeIs o T/\wpAny (model prog w) A (jq o i) Q E s₂) E s₁) E s) :
  wpAny (model prog w) A (eval (.Subscript value slice pos) env) Q E s:=by
 refine Subscript_ (hZ h (fun o s₁ h₁=>hZ h₁ (fun i s₂ h₂=>?_) fun _ _ x=>x) fun _ _ x=>x);obtain⟨hT,h₂⟩:=h₂;unfold subscriptTail;refine ak ?_;rw[getitemInPython_of_ne hT.not_modules];refine ak (yZ hT hl ?_);have fin:wpAny (model prog w) A (qG slice false o i) (fun r s₃=>wpAny (model prog w) A (letTemporaryGo value o r >>= fun _=>pure r) Q E s₃) E s₂:=by
  rw[hs o i];exact wpAny_operating (hZ h₂ (fun r s₃ h₃=>ak (wpAny_letTemporaryGo (aB h₃))) fun _ _ x=>x)
 first
  |exact aB (ak fin)
  |exact ak (aB (ak fin))
  |exact ak fin
theorem tQ{X:Cx}{J3:Zd}{σ:St}{H:Hp}{s:Shared}{a:Addr}{y:V}{o:Option V}(I:Inv X J3 σ H s)(g:so X.K H a y o):s.TypeIs (.ref a) "dict":=by
 rcases g with⟨kvs,k,e,_,_⟩|⟨kvs,k,b,e,_,_,_⟩
 ·obtain⟨_,_,vs,_,dd⟩:=mw I.hok e;exact dd.typeIs
 ·obtain⟨_,_,xs,_,dd⟩:=oB I.hok I.kIn e;exact dd.typeIs
def vH(K:Za)(td ty:TE):TE:=fun σ H Q=>td σ H fun x H1=>ty σ H1 fun y H2=>∃a v,x=.ref a/\so K H2 a y (some v)/\Q v H2
def uC(K:Za)(ty td:TE):TE:=fun σ H Q=>ty σ H fun y H1=>td σ H1 fun x H2=>∃a o,x=.ref a/\so K H2 a y o/\Q (.bl o.isSome) H2
def j8(K:Za)(ty td:TE):TE:=fun σ H Q=>ty σ H fun y H1=>td σ H1 fun x H2=>∃a o,x=.ref a/\so K H2 a y o/\Q (.bl (!o.isSome)) H2
def kD(td ty tv:TE):TS:=fun D σ H=>tv σ H fun v H1=>td σ H1 fun x H2=>ty σ H2 fun y H3=>∃a H4,x=.ref a/\Bo H3 a y v H4/\D.nx σ H4
section
variable{X:Cx}{o i e value:Expr}{pos pos' J7:Pos}{td ty tv:TE}
theorem rm(hu:X.A.units+16<cLine)(ho:PE X o td)(hi:PE X i ty)(hs:wW i):PE X (.Subscript o i pos) (vH X.K td ty):=by
 intro J3 s σ H Q I h;refine za PySem.F.slot_dict_getitem.lookup hs (bU (ho J3 s σ H _ I h) fun u s1 ⟨x,H1,I1,rx,q1⟩=>bU (hi J3 s1 σ H1 _ I1 q1) fun iv s2 zq0=>?_);obtain⟨y,H2,I2,ry,a,v,ex,g,q2⟩:=zq0;subst ex;obtain rfl:u=Value.ref a:=rx;exact⟨tQ I2 g,wQ hu I2 g ry fun w' s3 I3 rw'=>⟨v,H2,I3,rw',q2⟩⟩
theorem lO(hu:X.A.units+16<cLine)(hi:PE X i ty)(ho:PE X o td):PC X .In i o (uC X.K ty td):=by
 intro J3 s σ H Q I h;refine bU (hi J3 s σ H _ I h) fun iv s1 ⟨y,H1,I1,ry,q1⟩=>bU (ho J3 s1 σ H1 _ I1 q1) fun u s2 zq0=>?_;obtain⟨x,H2,I2,rx,a,ov,ex,g,q2⟩:=zq0;subst ex;obtain rfl:u=Value.ref a:=rx;exact d_in hu I2 g ry fun s3 I3=>⟨.bl ov.isSome,H2,I3,rfl,q2⟩
theorem iS(hu:X.A.units+16<cLine)(hi:PE X i ty)(ho:PE X o td):PC X .NotIn i o (j8 X.K ty td):=by
 intro J3 s σ H Q I h;refine bU (hi J3 s σ H _ I h) fun iv s1 ⟨y,H1,I1,ry,q1⟩=>bU (ho J3 s1 σ H1 _ I1 q1) fun u s2 zq0=>?_;obtain⟨x,H2,I2,rx,a,ov,ex,g,q2⟩:=zq0;subst ex;obtain rfl:u=Value.ref a:=rx;exact zU hu I2 g ry fun s3 I3=>⟨.bl (!ov.isSome),H2,I3,rfl,q2⟩
theorem gl(hu:X.A.units+16<cLine)(ho:PE X o td)(hi:PE X i ty)(hv:PE X value tv)(hs:mf value (some (.Subscript o i pos')) pos.line X.env=pure false):
  PS X (.Assign [.Subscript o i pos'] value pos) (kD td ty tv):=by
 intro J3 s σ H D I h;refine wpAny_Assign_Subscript (bU (hv J3 s σ H _ I h) fun r s1 ⟨v,H1,I1,rv,q1⟩=>bU (ho J3 s1 σ H1 _ I1 q1) fun u s2 ⟨x,H2,I2,rx,q2⟩=>bU (hi J3 s2 σ H2 _ I2 q2) fun iv s3 zq0=>?_) hs;obtain⟨y,H3,I3,ry,a,H4,ex,g,q3⟩:=zq0;subst ex;obtain rfl:u=Value.ref a:=rx;exact wP hu I3 g ry rv fun s4 I4=>⟨σ,H4,I4,q3⟩
end
theorem yB{P:bm}{w:World}{K:Za}{H:Hp}(h:Heap)(hb:fO<h.objs.size):cj P w K H (h.push { cls:=.type "dict",data:=.dict #[] }) h.objs.size (.dK []) :=
 ⟨cM _,beq_eq_false_iff_ne.mpr (fw (bD hb)),[],.nil,Heap.DictOf.new h⟩
theorem yv{P:bm}{w:World}{K:Za}{H:Hp}(h:Heap)(hb:fO<h.objs.size):cj P w K H (h.push { cls:=.type "dict",data:=.dict #[] }) h.objs.size (.dT []) :=
 ⟨cM _,beq_eq_false_iff_ne.mpr (fw (bD hb)),[],.nil,_,#[],0,cO _ rfl,⟨rfl,rfl,rfl⟩,rfl,rfl,jn⟩
def nY:TE:=fun _ H Q=>∀p,H p=none->Q (.ref p) (upd H p (.dK []))
def nX:TE:=fun _ H Q=>∀p,H p=none->Q (.ref p) (upd H p (.dT []))
section
variable{X:Cx}{pos:Pos}
theorem kJ:PE X (.Dict [] [] pos) nY:=fun J3 s σ H Q I h =>
 wpAny_Dict_empty ⟨.ref s.heap.objs.size,_,I.laid (a:=s.heap.objs.size) (o:=.dK []) (t':=s.toks) (fun _ _ q=>bj _ q) (az _) (yB s.heap I.big),rfl,h _ (I.hok.fresh (az _))⟩
theorem kI:PE X (.Dict [] [] pos) nX:=fun J3 s σ H Q I h =>
 wpAny_Dict_empty ⟨.ref s.heap.objs.size,_,I.laid (a:=s.heap.objs.size) (o:=.dT []) (t':=s.toks) (fun _ _ q=>bj _ q) (az _) (yv s.heap I.big),rfl,h _ (I.hok.fresh (az _))⟩
end
def gA(kvs more:List (dA×V)):List (dA×V):=more.foldl (fun acc kv=>cU acc kv.1 kv.2) kvs
theorem KV.merge:∀{more:List (dA×V)}{rs:List (dA×Value)}{kvs:List (dA×V)}{vs:List (dA×Value)},KV more rs->KV kvs vs->KV (gA kvs more) (merged vs rs):=by
 intro more rs kvs vs r;unfold KV at r
 induction r generalizing kvs vs with
 |nil=>intro q;exact q
 |@cons p q ps qs h t ih =>
  intro r0;have e:KV (cU kvs p.1 p.2) (stored vs q.1 q.2):=by
   have:=r0.put p.1 h.2;rw[<-h.1];exact this
  exact ih e
theorem jf:∀(more kvs:List (dA×V)),(gA kvs more).length<=kvs.length+more.length
 |[],kvs=>by show kvs.length<=kvs.length+0;omega
 |p::r,kvs=>by
  have h1:=jf r (cU kvs p.1 p.2);have h2:=gq kvs p.1 p.2;show(gA (cU kvs p.1 p.2) r).length<=_;rw[eT];omega
structure M1(X:Cx)(o:Expr)(m:Str)(J5:Pos)(e:Expr)(J4:Pos):Prop where
 base:pH o m X.env (eval o X.env)=eval o X.env
 few:((backTo J4 (aA [e] X.env)).all (fun x=>!x.1) && (jW J4 (jV [] X.env)).all (fun x=>x.1.isSome)
  && decide (([e]:List Expr).length+([]:List lx).length+(if([]:List lx).isEmpty then 0 else 1)<30))=true
 line:(J5.endLine==J4.line)=true
 trees:backTo J4 (aA [e] X.env)=[(false,eval e X.env)]
structure M2(X:Cx)(o:Expr)(m:Str)(J5:Pos)(e f:Expr)(J4:Pos):Prop where
 base:pH o m X.env (eval o X.env)=eval o X.env
 few:((backTo J4 (aA [e,f] X.env)).all (fun x=>!x.1) && (jW J4 (jV [] X.env)).all (fun x=>x.1.isSome)
  && decide (([e,f]:List Expr).length+([]:List lx).length+(if([]:List lx).isEmpty then 0 else 1)<30))=true
 line:(J5.endLine==J4.line)=true
 trees:backTo J4 (aA [e,f] X.env)=[(false,eval e X.env),(false,eval f X.env)]
def IsD(H:Hp)(a:Addr):Prop:=(∃kvs,Rd H a (.dK kvs))∨∃kvs,Rd H a (.dT kvs)
theorem AO{X:Cx}{J3:Zd}{σ:St}{H:Hp}{s:Shared}{a:Addr}(I:Inv X J3 σ H s)(d:IsD H a):
  s.TypeIs (.ref a) "dict"/\(∀b,Value.ref a=.ref b->∃ob,s.heap.get? b=some ob/\ob.dict=none)/\(a==fO)=false:=by
 rcases d with⟨kvs,e⟩|⟨kvs,e⟩
 ·obtain⟨_,hd,vs,_,dd⟩:=mw I.hok e;refine⟨dd.typeIs,fun b q=>?_,hd⟩;cases q;obtain⟨ob,_,_,h1,h2,_⟩:=dd;exact⟨ob,h1,h2.2.1⟩
 ·obtain⟨_,hd,xs,_,dd⟩:=oB I.hok I.kIn e;refine⟨dd.typeIs,fun b q=>?_,hd⟩;cases q;obtain⟨ob,_,_,h1,h2,_⟩:=dd;exact⟨ob,h1,h2.2.1⟩
section
variable{X:Cx}{J3:Zd}{σ:St}{H:Hp}{s:Shared}{a:Addr}{y d:V}{u r:Value}{o:Option V}{A:Around}{E:Zc}
theorem AQ{Q:Zc}(hu:A.units+16<cLine)(I:Inv X J3 σ H s)(g:so X.K H a y o)(ry:RelV y u)(rd:RelV d r)(h:∀w' s',Inv X J3 σ H s'->RelV (o.getD d) w'->Q w' s'):
  wpAny (model X.prog X.w) A (call (.builtin "dict.get") [.ref a,u,r]) Q E s:=by
 rcases g with⟨kvs,k,e,ey,l⟩|⟨kvs,k,b,e,ey,eb,e8,l⟩
 ·subst ey;obtain⟨z,hd,vs,rel,dd⟩:=mw I.hok e;refine call_meetsIn PySem.F.slot_dict_get dd.typeIs PySem.F.entry_dict_get (PySem.F.args_dict_get_3 _ _ _) (meets_dict_get_default (bG X.prog X.w) a (mo ry) hd r) ⟨_,dd.mapOf,h _ _ (I.tok _) ?_⟩;rw[l];exact(rel.val k).getD rd
 ·subst ey;cases(show u=Value.ref b from ry);obtain⟨z,hd,xs,rel,dd⟩:=oB I.hok I.kIn e;refine call_meetsIn PySem.F.slot_dict_get dd.typeIs PySem.F.entry_dict_get (PySem.F.args_dict_get_3 _ _ _) (meetsH_dict_get_default (dj X.prog X.w) a b hd r) ⟨eB hu,k,xs,rJ I eb e8,dd,h _ _ (I.tok _) ?_⟩;rw[l];exact(rel.val k).getD rd
end
def nZ(K:Za)(td ty tx:TE):TE:=fun σ H Q=>td σ H fun x H1=>∃a,x=.ref a/\IsD H1 a/\ty σ H1 fun y H2=>tx σ H2 fun z H3=>∃o,so K H3 a y o/\Q (o.getD z) H3
section
variable{X:Cx}{o e f:Expr}{J5 J4:Pos}{td ty tx:TE}
theorem kK(hu:X.A.units+16<cLine)(ho:PE X o td)(he:PE X e ty)(hf:PE X f tx)(m:M2 X o "get" J5 e f J4):PE X (.Call (.Attribute o "get" J5) [e,f] [] J4) (nZ X.K td ty tx):=by
 intro J3 s σ H Q I h;refine wpAny_Call_method m.base m.few m.line PySem.F.plainAttrs_dict PySem.F.slot_dict_get PySem.F.type_dict_get (bU (ho J3 s σ H _ I h) fun u s1 zq0=>?_);obtain⟨x,H1,I1,rx,a,ex,d,q1⟩:=zq0;subst ex;obtain rfl:u=Value.ref a:=rx;obtain⟨t1,t2,_⟩:=AO I1 d;refine⟨t1,t2,?_⟩;rw[m.trees];refine Calls.callWith_builtin rfl (Calls.evalArgs_plain (Calls.spliced_cons (bU (he J3 s1 σ H1 _ I1 q1) fun iv s2 ⟨y,H2,I2,ry,q2⟩ =>
  Calls.spliced_cons (bU (hf J3 s2 σ H2 _ I2 q2) fun fv s3 ⟨z,H3,I3,rz,ov,g,q3⟩=>Calls.spliced_nil ?_))))
 exact AQ hu I3 g ry rz fun w' s4 I4 rw'=>⟨_,H3,I4,rw',q3⟩
end
end L2
namespace Att
open PySem PySem.W PySem.Calls PyProof.Rows
theorem ints_of_wellAll{P:Params}{h:Heap}:∀(ns:List Int) (vs:Zf),WellAll P h vs (ns.map WData.int)->nJ vs ns:=by
 intro ns
 induction ns with
 |nil =>
  intro vs w;rw[List.map_nil]at w;cases w;exact .nil
 |cons n ns ih =>
  intro vs w;rw[aY]at w;cases w with
  |cons a b =>
   cases a;exact .cons _ _ (ih _ b)
theorem script_of{l:OpenLaw}{n:Nat}(hn:l.most=some n){P:Params}{h:Heap}{args:List WData}{vals:Zf}
  (hpre:l.row.toRowW.claim.pre args=true) (hwl:WellAll P h vals args) :
  ∃a vs ns,vals=[Value.ref a]/\args=[WData.list (ns.map WData.int)]/\h.get? a=some { cls:=.type "list",data:=.seq vs.toArray }/\nJ vs ns/\ns.length<=n:=by
 have hsh:WShape.hasAll [] args [.list .int]=true:=(pre_splitW hpre).1;have hc:l.pre.holds [] { args:=args }=true:=(pre_splitW hpre).2;obtain⟨d,r,rfl,h1,h2⟩:=hasAllW_cons hsh;obtain rfl:=hasAllW_nil h2;obtain⟨xs,rfl,h3⟩:=hasW_list h1;obtain⟨ns,rfl⟩:=items_int h3;have hlen:ns.length<=n:=by
  unfold OpenLaw.pre at hc;have h4:(WTm.not (.lt (.lit (.int (n:Int))) (.len (.arg 0)))).holds [] { args:=[.list (ns.map .int)] }=true:=by
   have h4:=(holds_andW hc).1;rw[hn]at h4;exact h4
  have h5:=condW_of h4 (w_not (w_lt w_lit (w_len_list (w_arg rfl))));rw[af]at h5;refine Nat.le_of_not_lt fun q=>?_;have q':(n:Int)<((ns.length:Nat):Int):=by omega
  first
   | (rw[zzr1 q']at h5;exact absurd h5 (by decide))
   | (simp at h5;omega)
 cases hwl with
 |cons w1 w2 =>
  cases w2;cases w1 with
  |list ho hall=>exact⟨_,_,ns,rfl,rfl,ho,ints_of_wellAll ns _ hall,hlen⟩
theorem post_true(l:OpenLaw)(args:List WData):l.row.toRowW.claim.post args (.bool true) args=true :=
 postW_of (r:=l.row.toRowW) (X:=(true==true))
  (show WShape.has [] (.bool true) .bool=true by first|rfl|decide|simp[WShape.has,WShape.arms,WShape.armsAll])
  (show(WTm.eq .res (.lit (.bool true))).value [] { args:=args,res:=some (.bool true),after:=args }=some (.bool (true==true))from w_eq_bool (w_res rfl) w_lit) rfl
theorem attach_call{l:OpenLaw}{n:Nat}{q:bm}{loose:Zb}{XP:(Str->Option Value)->Heap->Prop}{YP:World->Heap->Prop}{d:DefRec}
  (hn:l.most=some n) (hdf:d.params.defaults=[])
  (call:∀(w:World) (s₀ s₁:Shared) (mg mb:Str->Option Value) (fa:Addr) (o:Obj) (pm cd doc:Value) (a:Addr) (vs:Zf) (ns:List Int),
   Ground q loose [] XP w s₀ mg mb s₁.heap->YP w s₁.heap ->
   s₁.heap.get? fa=some o->o.data=.func (docDef d.name d.params d.body d.scope pm cd doc)->s₁.heap.CodeRec cd d.name->mg d.name=some (.ref fa) ->
   s₁.heap.get? a=some { cls:=.type "list",data:=.seq vs.toArray }->nJ vs ns->ns.length<=n->s₁.gens=#[] ->
   zzl72 (model l.prog w) ir (.call (.ref fa) ⟨[.ref a],[]⟩) (fun r s'=>r=.ok (.ret (.bool true))/\OldK s₁.heap s'.heap/\s'.os=s₁.os/\jY s'.gens) s₁) :
  WalkO q loose XP YP l.row.toRowW d [] (fun f vs=>PySem.call f vs):=by
 intro w s₀ s₁ mg mb G Y fa o pm cd doc dV kV ho hd hcd hD hmg hg args vals as hpre hlay hrd hwl hlo;obtain rfl:dV=.none:=Dflts.none hD hdf;obtain rfl:kV=.none:=Dflts.noKw hD;obtain⟨a,vs,ns,rfl,rfl,hobj,hints,hlen⟩:=script_of hn hpre hwl;refine enter_call (sy (call w s₀ s₁ mg mb fa o pm cd doc a vs ns G Y ho (fd_plain hd) hcd hmg hobj hints hlen hg) fun r s' hq=>?_);obtain⟨rfl,h2,h3,h4⟩:=hq;exact⟨.inl ⟨.bool true,.bool true,[],rfl,fun _=>rfl,.bool true,post_true l _,fun _=>⟨List.Pairwise.nil,fun _ hm=>(nomatch hm)⟩⟩,h2,h3,h4⟩
end Att
namespace L2
open PySem PySem.Spec PyProof.Rows
theorem pM:∀{vs:Zf}{ns:List Int},nJ vs ns->aL (ns.map V.int) vs
 |_,_,.nil=>.nil
 |_,_,.cons n t h=>.cons ⟨t,rfl⟩ (pM h)
def z0(H:Hp):Prop:=∀b,H b=none∨∃o xs,H b=some (.frz o (.lst xs))
theorem yh{P:bm}{w:World}{K:Za}{mg mb:Str->Option Value}{CX:xc}{k:Nat}{fa a:Addr}{fd:ib}{x:Str}{sp:Sp}{s₁:Shared}{vs:Zf}{ns:List Int}
  (KX:K.In s₁.heap) (hns:s₁.heap.Ns bJ mg) (hb:s₁.heap.Ns builtinsNs mb) (hbb:∀x:Str,x≠"__name__"->mb x=jZ x) (hlim:s₁.heap.NoLimit) (hg:s₁.gens=#[])
  (ha:s₁.heap.get? a=some { cls:=.type "list",data:=.seq vs.toArray }) (hi:nJ vs ns) (hl:ns.length<=aj) (hr:c_ k ir)
  (F:∀base:Heap,K.In base->base.Ns bJ mg->i_ P w K mg base CX k fa fd [x] sp) (hbind:∀(s:Shared) (u:Value),nj s fd ⟨[u],[]⟩ [(x,u)])
  (hsp:∀H:Hp,z0 H->av K H a (ns.map V.int)->sp [.ref a] H (fun v _=>v=.bl true) fun _ _ _=>False)
  (hCX:∀H e s',CX [] H s₁ (fun _ _ _=>False) e s'->False) :
  zzl72 (model P w) ir (.call (.ref fa) ⟨[.ref a],[]⟩) (fun r s'=>r=.ok (.ret (.bool true))/\OldK s₁.heap s'.heap/\s'.os=s₁.os/\jY s'.gens) s₁:=by
 have rv:=pM hi;have lenV:=hi.length;have core:∀H:Hp,z0 H->av K H a (ns.map V.int)->jh P w K H s₁.heap->(∀b,H b≠none->b=a)->(H a≠none->K.lookup a=none) ->
   zzl72 (model P w) ir (.call (.ref fa) ⟨[.ref a],[]⟩) (fun r s'=>r=.ok (.ret (.bool true))/\OldK s₁.heap s'.heap/\s'.os=s₁.os/\jY s'.gens) s₁:=by
  intro H hO hS hok hA hK;have base_of:∀{b:Addr}{o:Obj},s₁.heap.get? b=some o->H b=none->(rM s₁.heap H).get? b=some o:=fun e n=>ym e n;have noA:∀{b:Addr}{o:Obj}{es:Array iq}{ep:Nat},s₁.heap.get? b=some o->o.data=.dict es ep->H b=none:=fun{b o es ep} e d=>by
   cases q:H b with
   |none=>rfl
   |some u =>
    have e':b=a:=hA b (by rw[q];simp);subst e';rw[ha]at e;cases e;have d':Data.seq vs.toArray _=Data.dict es ep:=d;cases d'
  have nsK:∀{b:Addr}{m:Str->Option Value},s₁.heap.Ns b m->(rM s₁.heap H).Ns b m:=fun{b m} ⟨o,es,ep,e,d,r⟩=>⟨o,es,ep,base_of e (noA e d),d,r⟩;have hKb:K.In (rM s₁.heap H):=fun b o e=>base_of (KX b o e) (by
   cases q:H b with
   |none=>rfl
   |some u =>
    have e':b=a:=hA b (by rw[q];simp);subst e';rw[hK (by rw[q];simp)]at e;cases e)
  have hM:Mod K mg (rM s₁.heap H):=⟨hKb,nsK hns,⟨mb,nsK hb,hbb⟩,let⟨mc,h1,h2⟩:=hlim;⟨mc,nsK h1,h2⟩⟩;have e0:vo P w K mg (rM s₁.heap H) ir [] s₁ H:=⟨rfl,hM,fun b o e=>zP e,Nat.le_of_eq (wK _ _),trivial,fun b hb=>absurd (show b∈([]:Ze)from hb) (by simp),hok,.of_eq hg⟩;refine sy ((F _ hKb (nsK hns)).run ir [] s₁ H ⟨[.ref a],[]⟩ [.ref a] [.ref a] _ _ hr e0 (hbind s₁ (.ref a)) (.cons rfl .nil) (hsp H hO hS)) fun r s' h=>?_;cases r with
  |error e=>exact(hCX H e s' h).elim
  |ok fl =>
   cases fl with
   |next=>exact gG h
   |brk=>exact gG h
   |cont=>exact gG h
   |ret u =>
    obtain⟨v,H',os,bare,un,hok',r',q⟩:=h;have q':v=.bl true:=q;subst q';obtain rfl:u=Value.bool true:=r';refine⟨rfl,OldK.of_keep fun b o e=>?_,os,bare⟩;cases q:H b with
    |none=>exact un.keep b o e q (by intro z;exact absurd (show b∈([]:Ze)from z) (by simp)) (by simp)
    |some u =>
     rcases hO b with z|⟨ob,xs,z⟩
     ·rw[q]at z;cases z
     ·have z2:=un.frzs b ob _ z;obtain⟨e1,_⟩:=hok b _ z;obtain⟨e2,_⟩:=hok' b _ z2;rw[e]at e1;cases e1;exact e2
 cases hk:K.lookup a with
 |some o =>
  have e:=KX a o hk;rw[ha]at e;cases e;refine core (fun _=>none) (fun _=>.inl rfl) (.inr ⟨_,vs.toArray,_,hk,rfl,rfl,rfl,by rw[bw,lenV];exact hl,by simpa using rv⟩) (fun b u z=>by have z':(none:Option HO)=some u:=z;cases z') (fun b z=>absurd rfl z) fun z=>absurd rfl z
 |none =>
  refine core (fun b=>if b=a then some (.frz { cls:=.type "list",data:=.seq vs.toArray } (.lst (ns.map V.int)))else none) (fun b=>?_) (.inl (.inr ⟨{ cls:=.type "list",data:=.seq vs.toArray },if_pos rfl⟩)) (fun b u z=>?_) (fun b z=>?_) fun _=>hk
  ·by_cases hb:b=a
   ·exact .inr ⟨_,_,if_pos hb⟩
   ·exact .inl (if_neg hb)
  ·by_cases hb:b=a
   ·have z':=(if_pos hb).symm.trans z;cases z';subst hb;exact⟨ha,by rw[af];exact hl,vs,_,rv,ha⟩
   ·have z':=(if_neg hb).symm.trans z;cases z'
  ·by_cases hb:b=a
   ·exact hb
   ·exact absurd (if_neg hb) z
end L2
namespace L2
open PySem PySem.Spec PyProof.Rows
theorem y3{l:PySem.W.OpenLaw}{n k:Nat}{q:bm}{loose:Zb}{XP:(Str->Option Value)->Heap->Prop}{YP:World->Heap->Prop}{d:DefRec}{K:Params->Za}{CX:World->xc}{sp:World->Sp}{x:Str}
  (hn:l.most=some n) (hn2:n<=aj) (hdf:d.params.defaults=[]) (hr:c_ k ir)
  (hY:∀(w:World) (h:Heap),YP w h->(K w.params).In h)
  (F:∀(w:World) (mg:Str->Option Value) (fa:Addr) (h:Heap),(K w.params).In h->h.Ns bJ mg->mg d.name=some (.ref fa) ->
   ∃fd:ib,(∀(s:Shared) (u:Value),nj s fd ⟨[u],[]⟩ [(x,u)]) /\
    ∀base:Heap,(K w.params).In base->base.Ns bJ mg->i_ l.prog w (K w.params) mg base (CX w) k fa fd [x] (sp w))
  (hsp:∀(w:World) (H:Hp) (a:Addr) (ns:List Int),ns.length<=n->z0 H->av (K w.params) H a (ns.map V.int)->sp w [.ref a] H (fun v _=>v=.bl true) fun _ _ _=>False)
  (hCX:∀(w:World) (H:Hp) (s:Shared) (e:Value) (s':Shared),CX w [] H s (fun _ _ _=>False) e s'->False) :
  PySem.W.WalkO q loose XP YP l.row.toRowW d [] (fun f vs=>PySem.call f vs):=by
 refine Att.attach_call hn hdf fun w s₀ s₁ mg mb fa o pm cd doc a vs ns G Y ho hd hcd hmg hobj hints hlen hg=>?_;have KX:=hY w _ Y;obtain⟨fd,hb,hF⟩:=F w mg fa _ KX G.T.g hmg;exact yh KX G.T.g G.T.b G.T.builtins G.T.nolimit hg hobj hints (aO hlen hn2) hr hF hb (fun H hO hS=>hsp w H a ns hlen hO hS) fun H e s'=>hCX w H s₁ e s'
theorem walk_ofK{l:PySem.W.OpenLaw}{n k:Nat}{q:bm}{loose:Zb}{XP:(Str->Option Value)->Heap->Prop}{YP:World->Heap->Prop}{d:DefRec}{K:Params->Za}{CX:xc}{sp:Za->Sp}{x:Str}
  (hn:l.most=some n) (hn2:n<=aj) (hdf:d.params.defaults=[]) (hr:c_ k ir)
  (hY:∀(w:World) (h:Heap),YP w h->(K w.params).In h)
  (F:∀(w:World) (mg:Str->Option Value) (fa:Addr) (h:Heap),(K w.params).In h->h.Ns bJ mg->mg d.name=some (.ref fa) ->
   ∃fd:ib,(∀(s:Shared) (u:Value),nj s fd ⟨[u],[]⟩ [(x,u)]) /\
    ∀base:Heap,(K w.params).In base->base.Ns bJ mg->i_ l.prog w (K w.params) mg base CX k fa fd [x] (sp (K w.params)))
  (hsp:∀(K:Za) (H:Hp) (a:Addr) (ns:List Int),ns.length<=n->z0 H->av K H a (ns.map V.int)->sp K [.ref a] H (fun v _=>v=.bl true) fun _ _ _=>False)
  (hCX:∀(H:Hp) (s:Shared) (e:Value) (s':Shared),CX [] H s (fun _ _ _=>False) e s'->False) :
  PySem.W.WalkO q loose XP YP l.row.toRowW d [] (fun f vs=>PySem.call f vs) :=
 y3 (K:=K) (CX:=fun _=>CX) (sp:=fun w=>sp (K w.params)) hn hn2 hdf hr hY F (fun w H a ns h1 h2 h3=>hsp (K w.params) H a ns h1 h2 h3) fun _ H s e s'=>hCX H s e s'
end L2
namespace L2
open PySem PySem.Spec PyProof.Rows
def gr(s:Stmt)(j:Nat):Stmt:=match s with
 |.ClassDef _ _ _ body _ _ _ _ _ _ _=>body.getD j (.Pass ⟨0,0,0,0⟩)
 |_=>.Pass ⟨0,0,0,0⟩
def fG(s:Stmt):Arguments:=match s with
 |.FunctionDef _ a _ _ _ _ _ _ _ _=>a
 |_=>{ posonlyargs:=[],args:=[],vararg:=none,kwonlyargs:=[],kw_defaults:=[],kwarg:=none,defaults:=[] }
def d4(s:Stmt):List Stmt:=match s with
 |.FunctionDef _ _ b _ _ _ _ _ _ _=>b
 |_=>[]
def bu(s:Stmt):Scope:=match s with
 |.FunctionDef _ _ _ _ _ _ sc _ _ _=>sc
 |_=>{ kind:=.function,names:=[],isGenerator:=false,isCoroutine:=false }
abbrev CX0:xc:=fun _ _ _ _ _ _=>False
abbrev E0:XK:=fun _ _ _=>False
abbrev aG(sp:Sp)(a:TA):TE:=Aa sp [] E0 a
theorem vP{X:Cx}:jG CX0 X E0:=fun _ _ _ _ _ _ _ h=>h.elim
structure A3(K:Za)(x qual:Str)(st:Stmt)(f:Addr)(fd:ib):Prop where
 ex:∃(oc:Value) (od:Option Addr) (kV doc pm:Value) (an:Option Addr) (cdv ct:Value) (osl:Array (Option Value)),
  fd=h_ x qual (fG st) (d4 st) (bu st) .none kV doc pm an cdv ct/\K.lookup f=some ⟨oc,od,.func fd,osl⟩/\ni K cdv qual=true
 kp:gF K (.ref f)=true
section
variable{P:bm}{w:World}{K:Za}{mg:Str->Option Value}{base:Heap}
theorem A3.ok{x qual:Str}{st:Stmt}{f:Addr}{fd:ib}{N ps:Zb}{k:Nat}{sp:Sp}(F:A3 K x qual st f fd)(S:g6 N ps (bu st))(len:∀vs H Q E,sp vs H Q E->vs.length=ps.length)
  (hbody:∀(cdv:Value) (A:Around) (outer:List Env) (s:Shared) (H:Hp) (vs:List V) (Q:VK) (E:XK),c_ k (A.deeper (envOfC qual (bu st) s.heap.objs.size f cdv))->sp vs H Q E ->
   ∃t,uc (u5 CX0 P w K mg base N qual (bu st) f cdv A outer s H E).nox (d4 st) t/\t (bC Q) (start N vs) H):i_ P w K mg base CX0 (k+1) f fd ps sp:=by
 obtain⟨oc,od,kV,doc,pm,an,cdv,ct,osl,rfl,lk,hcd⟩:=F.ex;refine Bh lk hcd S len fun A outer s H vs Q E hr hsp=>?_;obtain⟨t,h,q⟩:=hbody cdv A outer s H vs Q E hr hsp;exact⟨t,h.nox,q⟩
theorem A3.binds{x qual:Str}{st:Stmt}{f:Addr}{fd:ib}{ps:Zb}(F:A3 K x qual st f fd)
  (h:∀(kV doc pm:Value) (an:Option Addr) (cdv ct:Value) (us:Zf),us.length=ps.length->bindArgs (h_ x qual (fG st) (d4 st) (bu st) .none kV doc pm an cdv ct) ⟨us,[]⟩=pure (ps.zip us)):Binds K fd ps []:=by
 obtain⟨oc,od,kV,doc,pm,an,cdv,ct,osl,rfl,lk,hcd⟩:=F.ex;exact .all (h kV doc pm an cdv ct)
theorem yq{x qual:Str}{st:Stmt}{f:Addr}{oc:Value}{od an:Option Addr}{osl:Array (Option Value)}{kV doc pm cdv ct:Value}(l:K.lookup f=some ⟨oc,od,.func (h_ x qual (fG st) (d4 st) (bu st) .none kV doc pm an cdv ct),osl⟩)
  (c:ni K cdv qual=true) (k:gF K (.ref f)=true):A3 K x qual st f (h_ x qual (fG st) (d4 st) (bu st) .none kV doc pm an cdv ct):=⟨⟨oc,od,kV,doc,pm,an,cdv,ct,osl,rfl,l,c⟩,k⟩
end
theorem vX{A:Around}{k:Nat}(hr:c_ k A):A.units+16<cLine:=Nat.lt_of_le_of_lt (Nat.add_le_add_left (by decide:16<=64) _) hr.units
theorem am{n:Nat}(h:n<=1000):n<aj:=Nat.lt_of_le_of_lt h (by decide)
section
variable{X:Cx}
theorem pv(i:Nat){x:Str}{pos:Pos}(hN:X.N[i]?=some x:=by rfl)(hv:Vis X.env.scope x:=by first|exact Or.inl rfl|exact Or.inr (Or.inl rfl)|exact Or.inr (Or.inr rfl))(hd:(x==("__debug__":Str))=false:=by decide)
  (hcd:(x==("__classdict__":Str))=false:=by decide):PE X (.Name x pos) (jw i):=AE hN hv hd hcd
end
theorem ck{A B:Prop}(h:B):if false=true then A else B:=by
 rw[if_neg fN];exact h
theorem c9{A B:Prop}(h:A):if true=true then A else B:=by
 rw[if_pos rfl];exact h
theorem iE{c A B:Prop}[Decidable c](h1:c->A)(h2:¬c->B):if c then A else B:=by
 by_cases h:c
 ·rw[if_pos h];exact h1 h
 ·rw[if_neg h];exact h2 h
def ac(H H':Hp):Prop:=∀b o,H b=some o->H' b=some o
theorem ac.refl(H:Hp):ac H H:=fun _ _ h=>h
theorem ac.trans{H H1 H2:Hp}(a:ac H H1)(b:ac H1 H2):ac H H2:=fun c o h=>b c o (a c o h)
theorem ac.free{H H':Hp}(e:ac H H'){l:Addr}(h:H' l=Option.none):H l=Option.none:=by
 cases q:H l with
 |none=>rfl
 |some o =>
  rw[e l o q]at h;cases h
theorem ac.seq{K:Za}{H H':Hp}{a:Addr}{xs:List V}(e:ac H H')(h:av K H a xs):av K H' a xs:=by
 rcases h with(h|⟨o,h⟩)|h
 ·exact .inl (.inl (e _ _ h))
 ·exact .inl (.inr ⟨o,e _ _ h⟩)
 ·exact .inr h
section
variable{prog:bm}{w:World}{A:Around}{R:Result->Shared->Prop}{s:Shared}
abbrev XF:Value->Shared->Prop:=fun _ _=>False
abbrev uX(ifs:List Expr)(env:Env):Sem Bool:=forIn ifs true fun c r=>if r=true then do let ok <- isTrue c env (eval c env);pure (lh ok)else pure (lh r)
theorem rT{elt target iter:Expr}{ifs:List Expr}{scope:Scope}{pos:Pos}{it acc:Value}{env:Env}(I:Nat->Shared->Prop)
  (turn:∀n s,I n s->wpAny (model prog w) A (pyNext it) (fun r s₁=>match r with
   |none=>R (.ok .next) s₁
   |some v=>wpAny (model prog w) A (vz target it v) (fun _ s₁'=>wpAny (model prog w) A (assign target env v) (fun _ s₂ =>
     wpAny (model prog w) A (uX ifs env) (fun ok s₃ =>
      if ok=true then wpAny (model prog w) A (eval elt env) (fun x s₄ =>
       wpAny (model prog w) A (call (.builtin "list.append") [acc,x]) (fun _ s₅=>∃m,m<n/\I m s₅) XF s₄) XF s₃
      else ∃m,m<n/\I m s₃) XF s₂) XF s₁') XF s₁) XF s)
  (n:Nat) (h:I n s):zzl72 (model prog w) A (.compLoop (.ListComp elt [⟨target,iter,ifs,0⟩] scope pos) 0 it acc env) R s:=by
 refine codeAny_loop rfl I (fun n s hI=>?_) n h;show wpAny _ A ((compTurn (.ListComp elt [⟨target,iter,ifs,0⟩] scope pos) 0 it acc env).onRaise (fun x=>do noteFrame x env;theTreesLotGoes x)) _ _ s
 refine wpAny_noted ?_;rw[compTurn_list];refine ak (wpAny_standAt (ak (hZ (turn n s hI) (fun r s₁ h₁=>?_) fun _ _ h'=>h'.elim)));cases r with
 |none=>exact aB h₁
 |some v =>
  refine ak (hZ h₁ (fun _ s₁' h₁'=>?_) fun _ _ h'=>h'.elim);refine ak (hZ h₁' (fun _ s₂ h₂=>ak (hZ h₂ (fun ok s₃ h₃=>?_) fun _ _ h'=>h'.elim)) fun _ _ h'=>h'.elim);cases ok with
  |false=>exact aB ⟨rfl,h₃⟩
  |true =>
   exact ak (ak (hZ h₃ (fun x s₄ h₄=>ak (hZ h₄ (fun _ s₅ h₅=>aB (aB ⟨rfl,h₅⟩)) fun _ _ h'=>h'.elim)) fun _ _ h'=>h'.elim))
end
theorem jE{env:Env}:∀(names:List (Str×gE)) (cs0:List (Str×Addr)),(∀y∈names,y.2=.free->∃c,env.cells.lookup y.1=some c)->(∀x c,cs0.lookup x=some c->env.cells.lookup x=some c) ->
  ∃cs:List (Str×Addr),(forIn names cs0 fun(x:Str×gE) (r:List (Str×Addr))=>if(x.2==ip)=true then(cellOf env x.1 >>= fun c=>(pure (lh ((x.1,c)::r)):Sem (ForInStep (List (Str×Addr)))))else pure (lh r))=pure cs /\
   (∀x c,cs.lookup x=some c->env.cells.lookup x=some c)/\(∀x,(cs0.lookup x).isSome=true->(cs.lookup x).isSome=true)/\∀y∈names,y.2=.free->(cs.lookup y.1).isSome=true
 |[],cs0,_,h0=>⟨cs0,rfl,h0,fun _ h=>h,fun _ h=>nomatch h⟩
 | (n,k)::r,cs0,has,h0=>by
  have hr:∀y∈r,y.2=.free->∃c,env.cells.lookup y.1=some c:=fun y hy=>has y (dO _ hy);by_cases hk:k=.free
  ·subst hk;obtain⟨c,hc⟩:=has (n,.free) cQ rfl;obtain⟨cs,e,p1,p2,p3⟩:=jE r ((n,c)::cs0) hr (fun x d hd=>by
    rw[fQ]at hd;cases hx:x==n with
    |true =>
     rw[hx]at hd;have:x=n:=by simpa using hx
     subst this;cases hd;exact hc
    |false=>rw[hx]at hd;exact h0 x d hd)
   have hself:(((n,c)::cs0).lookup n).isSome=true:=by rw[fQ,beq_self_eq_true];rfl
   have hmono:∀x,(cs0.lookup x).isSome=true->(((n,c)::cs0).lookup x).isSome=true:=fun x hx=>by
    rw[fQ];cases x==n with
    |true=>rfl
    |false=>exact hx
   refine⟨cs,?_,p1,fun x hx=>p2 x (hmono x hx),fun y hy hf=>?_⟩
   ·rw[qD];have hcell:cellOf env n=pure c:=by unfold cellOf;rw[hc]
    simp only[beq_self_eq_true,if_true,hcell];exact e
   ·rcases cI.mp hy with rfl|hy
    ·exact p2 _ hself
    ·exact p3 y hy hf
  ·obtain⟨cs,e,p1,p2,p3⟩:=jE r cs0 hr h0;refine⟨cs,?_,p1,p2,fun y hy hf=>?_⟩
   ·rw[qD];have hb:(k==ip)=false:=by simpa using hk
    simp only[hb,io,if_false];exact e
   ·rcases cI.mp hy with rfl|hy
    ·exact absurd hf hk
    ·exact p3 y hy hf
theorem oH{env:Env}{scope:Scope}(has:∀y∈scope.names,y.2=.free->∃c,env.cells.lookup y.1=some c):
  ∃cs:List (Str×Addr),closureFor scope env=pure cs/\(∀x c,cs.lookup x=some c->env.cells.lookup x=some c)/\∀y∈scope.names,y.2=.free->(cs.lookup y.1).isSome=true:=by
 obtain⟨cs,e,p1,_,p3⟩:=jE (env:=env) scope.names [] has (fun _ _ h=>nomatch h);refine⟨cs,?_,p1,p3⟩;unfold closureFor
 first
  |exact e
  | (simp only[bind_pure];exact e)
  | (rw[show(forIn scope.names [] _:Sem (List (Str×Addr)))=pure cs from e];rfl)
def cx(X:Cx)(N:Zb)(scope:Scope)(C:Addr)(cl:List (Str×Addr))(s₀:Shared)(H₀:Hp)(ex:Ze)(pn:Zd):Cx where
 prog:=X.prog
 w:=X.w
 K:=X.K
 mg:=X.mg
 base:=X.base
 A:=X.A
 N:=N
 s₀:=s₀
 H₀:=H₀
 env:=compEnvC scope cl C X.env
 outer:=X.stack
 stack:=X.stack
 ex:=ex
 fn:=fun _=>false
 calm:=X.calm
 pn:=pn
 xe:=XF
def iY(sc scope:Scope)(k:Nat)(N XN:Zb)(fi:List Nat):Bool :=
 decide (scope.kind=.function) &&
 (scope.names.all fun y=>decide (y.2≠.cell) && (decide (y.2≠.local) || decide (scope.names.lookup y.1=some .local)) && (decide (y.2≠.free) || decide (sc.names.lookup y.1=some .cell) || decide (sc.names.lookup y.1=some .free))) &&
 decide (N.length=k+fi.length) &&
 ((jb fi.length).all fun j=>match fi[j]? with
  |some i=>match N[k+j]?,XN[i]? with
   |some x,some y=>decide (x=y) && decide (scope.names.lookup x=some .free)
   |_,_=>false
  |none=>false)
structure jO(sc scope:Scope)(k:Nat)(N XN:Zb)(fi:List Nat):Prop where
 kind:scope.kind=.function
 cell:∀y∈scope.names,y.2≠.cell
 nm:∀y∈scope.names,y.2=.local->scope.names.lookup y.1=some .local
 fr:∀y∈scope.names,y.2=.free->sc.names.lookup y.1=some .cell∨sc.names.lookup y.1=some .free
 len:N.length=k+fi.length
 sl:∀j i,fi[j]?=some i->∃x,N[k+j]?=some x/\XN[i]?=some x/\scope.names.lookup x=some .free
theorem jO.of{sc scope:Scope}{k:Nat}{N XN:Zb}{fi:List Nat}(h:iY sc scope k N XN fi=true):jO sc scope k N XN fi:=by
 unfold iY at h;simp only[qC,nI,Bool.or_eq_true,decide_eq_true_eq]at h;obtain⟨⟨⟨h1,h2⟩,h3⟩,h4⟩:=h;refine⟨h1,fun y hy=>(h2 y hy).1.1,fun y hy e=>((h2 y hy).1.2).resolve_left fun z=>z e,fun y hy e=>?_,h3,fun j i e=>?_⟩
 ·rcases(h2 y hy).2 with(z|z)|z
  ·exact absurd e z
  ·exact .inl z
  ·exact .inr z
 ·have hj:j<fi.length:=(bN.mp e).1;have q:=h4 j (List.mem_range.mpr hj);rw[e]at q;dsimp only at q;cases a:N[k+j]? with
  |none=>rw[a]at q;cases q
  |some x =>
   cases b:XN[i]? with
   |none=>rw[a,b]at q;cases q
   |some y =>
    rw[a,b]at q;simp only[qC,decide_eq_true_eq]at q;exact⟨x,rfl,by rw[q.1],q.2⟩
theorem fA{env:Env}:∀{names:List (Str×gE)}{x:Str},names.lookup x=some .free ->
  (names.map fun(n,k)=>if(k==ip && env.scope.kind==.function && env.kindOf n==some .cell)then(n,gE.cell)else(n,k)).lookup x=some .cell ∨
  (names.map fun(n,k)=>if(k==ip && env.scope.kind==.function && env.kindOf n==some .cell)then(n,gE.cell)else(n,k)).lookup x=some .free
 |[],_,h=>by simp at h
 | (n,k)::r,x,h=>by
  have ih:=@fA env r x;simp only[aY];cases hx:x==n with
  |true =>
   simp only[fQ,hx]at h;cases h;by_cases hc:(ip==ip && env.scope.kind==.function && env.kindOf n==some .cell)=true
   ·left;rw[if_pos hc];simp[fQ,hx]
   ·right;rw[if_neg hc];simp[fQ,hx]
  |false =>
   simp only[fQ,hx]at h;by_cases hc:(k==ip && env.scope.kind==.function && env.kindOf n==some .cell)=true
   ·rw[if_pos hc];simp only[fQ,hx];exact ih h
   ·rw[if_neg hc];simp only[fQ,hx];exact ih h
def cX(k:Nat)(fi:List Nat)(σ:St):St:=List.replicate k none++fi.map fun i=>(σ[i]?).join
theorem u8(k:Nat)(fi:List Nat)(σ:St):(cX k fi σ).length=k+fi.length:=by simp[cX]
theorem oG{k:Nat}{fi:List Nat}{σ:St}{i:Nat}{v:V}(h:(cX k fi σ)[i]?=some (some v)):∃j t,i=k+j/\fi[j]?=some t/\σ[t]?=some (some v):=by
 unfold cX at h;by_cases hi:i<k
 ·rw[sv (by simpa using hi),List.getElem?_replicate_of_lt hi]at h;cases h
 ·rw[List.getElem?_append_right (by simp;omega),List.length_replicate,gD]at h;refine⟨i-k,?_⟩;cases e:fi[i-k]? with
  |none=>rw[e]at h;cases h
  |some t =>
   rw[e]at h;simp only[nK]at h;refine⟨t,by omega,rfl,?_⟩;have h':=di h;cases e2:σ[t]? with
   |none=>rw[e2]at h';cases h'
   |some o=>rw[e2]at h';simp only[Option.join]at h';first|(rw[h'])|(subst h';rfl)|(simpa using h')
def wV(k:Nat)(g:TG):Prop:=∀x σ H Q,g x σ H Q->g x σ H fun σ2 H2=>Q σ2 H2/\σ2.length=σ.length/\∀i,k<=i->σ2[i]?=σ[i]?
theorem aQ{k i:Nat}(h:i<k):wV k (cW i):=fun x σ H Q q=>⟨q,by simp,fun j hj=>by rw[List.getElem?_set_ne (by omega)]⟩
def Ap(X:Cx)(ifs:List Expr)(t:TT):Prop :=
 ∀(J3:Zd) (s:Shared) (σ:St) (H:Hp) (Q:Bool->Hp->Prop),Inv X J3 σ H s->t σ H Q->wpAny (model X.prog X.w) X.A (uX ifs X.env) (TP X J3 σ Q) X.xe s
def i0:TT:=fun _ H Q=>Q true H
theorem cC{X:Cx}:Ap X [] i0:=fun J3 s σ H Q I h=>aB ⟨H,I,h⟩
theorem c7{X:Cx}{c:Expr}{t:TT}(h:PT X c t):Ap X [c] t:=by
 intro J3 s σ H Q I hw;unfold uX;rw[qD];simp only[if_true];refine ak (ak (bU (h J3 s σ H Q I hw) fun b s1 q=>aB ?_));exact aB q
def bW(k:Nat)(fi:List Nat)(wi:TI)(g:TG)(tc:TT)(te:TE):TE:=fun σ H Q=>wi σ H fun J H1=>∀l,H1 l=none->∃W:Nat->Nat->List V->Hp->Prop,(∃m,W 0 m [] (upd H1 l (.lst [])))/\∀i m vs H2,W i m vs H2->H2 l=some (.lst vs) /\
 ((J.stop i H2/\Q (.ref l) H2)∨(J.go i H2/\∀x H3,J.yld i H2 x H3->g x (cX k fi σ) H3 fun σ2 H4=>tc σ2 H4 fun b H5 =>
  if b=true then te σ2 H5 fun v H6=>H6 l=some (.lst vs)/\vs.length<aj/\∃m',m'<m/\W (i+1) m' (vs++[v]) (upd H6 l (.lst (vs++[v])))else ∃m',m'<m/\W (i+1) m' vs H5))
section
variable{X:Cx}{J3:Zd}{σ:St}
theorem zX{k:Nat}{N:Zb}{scope:Scope}{fi:List Nat}{H:Hp}{s:Shared}{cl:List (Str×Addr)}{fp:Ze}(S:jO X.env.scope scope k N X.N fi)(I:Inv X J3 σ H s)
  (hcl:∀x c,cl.lookup x=some c->X.env.cells.lookup x=some c) (hcf:∀y∈scope.names,y.2=.free->(cl.lookup y.1).isSome=true) (hf:∀b∈fp,kY X J3 H b) (hlt:∀b∈fp,b<s.heap.objs.size) :
  (cx X N scope s.heap.objs.size cl s H fp (X.pn++J3)).Ok where
 mod:=I.ok.mod
 kind:=S.kind
 glob:=I.ok.glob
 blt:=I.ok.blt
 above:=az _
 inj:=fun x y c e1 e2=>I.ok.inj x y c (hcl x c e1) (hcl y c e2)
 has:=fun x h=>by
  have key:∃y∈scope.names,y.1=x/\y.2=.free:=by
   have h':(relabel scope X.env).names.lookup x=some .cell∨(relabel scope X.env).names.lookup x=some .free:=h;have mem:∀(l:List (Str×gE)) (kd:gE),l.lookup x=some kd->(x,kd)∈l:=by
    intro l
    induction l with
    |nil=>intro kd e;cases e
    |cons a r ih =>
     intro kd e;obtain⟨n,k'⟩:=a;rw[fQ]at e;cases hx:x==n with
     |true =>
      rw[hx]at e;have:x=n:=by simpa using hx
      subst this;cases e;exact cQ
     |false=>rw[hx]at e;exact dO _ (ih kd e)
   have back:∀kd,(x,kd)∈(relabel scope X.env).names->kd=.cell∨kd=.free->∃y∈scope.names,y.1=x/\y.2=.free:=by
    intro kd hm hk;obtain⟨⟨n,k'⟩,hy,e⟩:=aJ.mp hm;dsimp only at e;by_cases hc:(k'==ip && X.env.scope.kind==.function && X.env.kindOf n==some .cell)=true
    ·have hk':k'=.free:=by
      simp only[qC]at hc;simpa using hc.1.1
     rw[if_pos hc]at e;cases e;exact⟨_,hy,rfl,hk'⟩
    ·rw[if_neg hc]at e;cases e;rcases hk with rfl|rfl
     ·exact absurd rfl (S.cell _ hy)
     ·exact⟨_,hy,rfl,rfl⟩
   rcases h' with h'|h'
   ·exact back _ (mem _ _ h') (.inl rfl)
   ·exact back _ (mem _ _ h') (.inr rfl)
  obtain⟨y,hy,rfl,hk⟩:=key;exact vq.mp (hcf y hy hk)
 cab:=fun x c h=>by cases h
 hd:=I.ok.hd
 frames:=I.ok.frames
 stk:=.inl rfl
 exf:=fun b hb=>⟨bD (hlt b hb),fun x c e=>(hf b hb).2.2.2.2.1 x c (hcl x c e)⟩
 bs:=I.bs
 bsz:=aO I.ok.bsz I.sz
 noex:=fun b o e hb=>by
  rcases(hf b hb).2.2.2.1 with z|z
  ·exact I.ok.noex b o e z
  ·exact absurd (ei (aP (I.ok.bs b o e).1) z) (gH _)
 exfs:=fun b hb z=>by
  obtain⟨_,f1,f2,_⟩:=hf b hb;rcases cI.mp (I.stkSub b z)with q|q
  ·exact f1 q
  ·exact f2 q
 funs:=I.stack
 frf:=I.stkFree
theorem yJ{k:Nat}{N:Zb}{scope:Scope}{fi:List Nat}{H:Hp}{s:Shared}{cl:List (Str×Addr)}{fp:Ze}{h₁:Heap}{t':Nat}{m:Str->Option Value}(S:jO X.env.scope scope k N X.N fi)(I:Inv X J3 σ H s)
  (hcl:∀x c,cl.lookup x=some c->X.env.cells.lookup x=some c) (hcf:∀y∈scope.names,y.2=.free->(cl.lookup y.1).isSome=true) (hf:∀b∈fp,kY X J3 H b) (hlt:∀b∈fp,b<s.heap.objs.size)
  (hn:h₁.Ns s.heap.objs.size m) (old:∀b o,s.heap.get? b=some o->h₁.get? b=some o) :
  Inv (cx X N scope s.heap.objs.size cl s H fp (X.pn++J3)) [] (cX k fi σ) H { s with heap:=h₁,toks:=t' }:=by
 have memOf:∀(l:List (Str×gE)) (x:Str) (kd:gE),l.lookup x=some kd->(x,kd)∈l:=by
  intro l
  induction l with
  |nil=>intro x kd e;cases e
  |cons a r ih =>
   intro x kd e;obtain⟨n,k'⟩:=a;rw[fQ]at e;cases hx:x==n with
   |true =>
    rw[hx]at e;have:x=n:=by simpa using hx
    subst this;cases e;exact cQ
   |false=>rw[hx]at e;exact dO _ (ih x kd e)
 refine⟨zX S I hcl hcf hf hlt,rfl,I.bare,Un.kept old,⟨m,hn,fun i x v e1 e2 e3=>?_⟩,fun x c e=>?_,I.hok.fresh (az _),fun x c e=>I.freeC x c (hcl x c e),fun p hp=>?_,I.hok.kept old,?_⟩
 ·obtain⟨j,t,rfl,ht,hv⟩:=oG e2;obtain⟨y,hy,hXN,hfr⟩:=S.sl j t ht;have e1':N[k+j]?=some x:=e1;rw[hy]at e1';cases e1';have hmem:=memOf _ _ _ hfr;obtain⟨c,hc⟩:=vq.mp (hcf _ hmem rfl);have hX:=hcl _ _ hc;obtain⟨mX,hnX,hlX⟩:=I.loc;have kX:=S.fr _ hmem rfl;obtain⟨u,ru,lk⟩:=hlX t x v hXN hv (by rcases kX with z|z;exact .inr (.inl z);exact .inr (.inr z));refine⟨u,ru,.inr ⟨?_,c,hc,?_⟩⟩
  ·exact fA hfr
  ·rcases lk with⟨z,_⟩|⟨_,c',e',q⟩
   ·have z':X.env.scope.names.lookup x=some .local:=z;rcases kX with kX|kX<;>rw[z']at kX<;>cases kX
   ·rw[hX]at e';cases e';obtain⟨o,ho,hd⟩:=q;exact⟨o,old _ o ho,hd⟩
 ·obtain⟨v,o,ho,hd⟩:=I.cell x c (hcl x c e);exact⟨v,o,old _ o ho,hd⟩
 ·rw[cR]at hp;obtain⟨e,n,ne,nf,d⟩:=I.pin p hp;refine⟨old _ _ e,n,bD (aP e),fun z=>?_,d⟩;rcases cI.mp (I.stkSub _ z)with q|q
  ·exact ne q
  ·exact nf q
 ·rw[u8];exact S.len.symm
structure sr(X:Cx)(J3:Zd)(H:Hp)(C:Addr):Prop where
 free:H C=none
 loc:C≠X.env.locals
 young:X.s₀.heap.objs.size<=C
 cells:∀x c,X.env.cells.lookup x=some c->c≠C
 pin:∀p∈X.pn++J3,p.1≠C
theorem oF{elt iter tg:Expr}{ifs:List Expr}{scope:Scope}{pos:Pos}{k:Nat}{N:Zb}{fi:List Nat}{cl:List (Str×Addr)}{g:TG}{tc:TT}{te:TE}{it:Addr}{fp:Ze}{tn:Nat->Heap->Prop}{J:It}{H2:Hp}{s2:Shared}{Q:VK}
  {E:Zc}{RR:Value->Addr->Result->Shared->Prop}
  (S:jO X.env.scope scope k N X.N fi) (hc:X.calm=true) (hcl:∀x c,cl.lookup x=some c->X.env.cells.lookup x=some c) (hcf:∀y∈scope.names,y.2=.free->(cl.lookup y.1).isSome=true)
  (hg:∀C cl s₀ H₀ ex pn,PG (cx X N scope C cl s₀ H₀ ex pn) tg g) (ho:wV k g) (ht:∀C cl s₀ H₀ ex pn,Ap (cx X N scope C cl s₀ H₀ ex pn) ifs tc) (he:∀C cl s₀ H₀ ex pn,PE (cx X N scope C cl s₀ H₀ ex pn) elt te)
  (I2:Inv X J3 σ H2 s2) (T:tZ X.prog X.w X.K tg J fp it tn) (st2:tn 0 s2.heap) (f2:∀b∈fp,kY X J3 H2 b)
  (hw:∀l,H2 l=none->∃W:Nat->Nat->List V->Hp->Prop,(∃m,W 0 m [] (upd H2 l (.lst [])))/\∀i m vs H2,W i m vs H2->H2 l=some (.lst vs) /\
   ((J.stop i H2/\Q (.ref l) H2)∨(J.go i H2/\∀x H3,J.yld i H2 x H3->g x (cX k fi σ) H3 fun σ2 H4=>tc σ2 H4 fun b H5 =>
    if b=true then te σ2 H5 fun v H6=>H6 l=some (.lst vs)/\vs.length<aj/\∃m',m'<m/\W (i+1) m' (vs++[v]) (upd H6 l (.lst (vs++[v])))else ∃m',m'<m/\W (i+1) m' vs H5)))
  (hR:∀D C H' s' m',Inv X J3 σ H' s'->s'.heap.Ns C m'->sr X J3 H' C->Q (.ref D) H'->RR (.ref D) C (.ok .next) s') :
  wpAny (model X.prog X.w) X.A (newList []) (fun acc s₃=>wpAny (model X.prog X.w) X.A (newFunctionEnv scope X.env.globals cl [] X.env.qual none .none (some X.env)) (fun cenv s₄ =>
   zzl72 (model X.prog X.w) X.A (.compStart (.ListComp elt [⟨tg,iter,ifs,0⟩] scope pos) 0 (.ref it) acc { cenv with scope:=relabel scope X.env }) (RR acc cenv.locals) s₄) E s₃) E s2:=by
 have hfresh:H2 s2.heap.objs.size=none:=I2.fresh;obtain⟨W,⟨m0,w0⟩,turn⟩:=hw _ hfresh;refine nH (wpAny_newFunctionEnv S.cell (by intro y hy;simp at hy) (fun h₁ hns₁ hsb₁=>?_) S.kind);dsimp only at hns₁ hsb₁ ⊢;have I3:Inv X J3 σ (upd H2 s2.heap.objs.size (.lst [])) { s2 with heap:=s2.heap.push { cls:=.type "list",data:=.seq ([]:Zf).toArray },toks:=s2.toks }:=I2.lnew (ys:=[]) .nil (cM _);generalize hs3:({ s2 with heap:=s2.heap.push { cls:=.type "list",data:=.seq ([]:Zf).toArray },toks:=s2.toks }:Shared)=s3 at I3;have hh3:s3.heap=s2.heap.push { cls:=.type "list",data:=.seq ([]:Zf).toArray }:=by rw[<-hs3]
 have hsz:s3.heap.objs.size=s2.heap.objs.size+1:=by rw[hh3,Heap.size_push]
 have hlt:∀b∈fp,b<s2.heap.objs.size:=fun b hb=>by
  obtain⟨o,e,_⟩:=T.obj 0 _ st2 b hb;exact aP e
 have f3:∀b∈fp,kY X J3 (upd H2 s2.heap.objs.size (.lst [])) b:=fun b hb=>⟨by rw[ai (bD (hlt b hb))];exact(f2 b hb).1,(f2 b hb).2⟩;have hlt3:∀b∈fp,b<s3.heap.objs.size:=fun b hb=>by rw[hsz];exact Nat.lt_succ_of_lt (hlt b hb)
 have old:∀b o,s3.heap.get? b=some o->h₁.get? b=some o:=fun b o e=>by
  have hb:b≠s3.heap.objs.size:=bD (aP e);rw[hh3]at e hb;exact hsb₁.extBut b o hb (bj _ e)
 have hns:h₁.Ns s3.heap.objs.size (fun x=>([]:List (Str×Value)).reverse.lookup x):=by rw[hh3];exact hns₁
 have I4:Inv (cx X N scope s3.heap.objs.size cl s3 (upd H2 s2.heap.objs.size (.lst [])) fp (X.pn++J3)) [] (cX k fi σ) (upd H2 s2.heap.objs.size (.lst [])) { s3 with heap:=h₁,toks:=s2.toks+([]:List (Str×Value)).length } :=
  yJ S I3 hcl hcf f3 hlt3 hns old
 have st4:tn 0 h₁:=T.keep _ _ _ st2 fun b hb o e=>old b o (by rw[hh3];exact bj _ e);generalize hY:cx X N scope s3.heap.objs.size cl s3 (upd H2 s2.heap.objs.size (.lst [])) fp (X.pn++J3)=Y at I4;have yp:Y.prog=X.prog:=by rw[<-hY];rfl
 have yw:Y.w=X.w:=by rw[<-hY];rfl
 have yK:Y.K=X.K:=by rw[<-hY];rfl
 have yA:Y.A=X.A:=by rw[<-hY];rfl
 have yx:Y.xe=XF:=by rw[<-hY];rfl
 have yc:Y.calm=true:=by rw[<-hY];exact hc
 have gY:PG Y tg g:=by rw[<-hY];exact hg _ _ _ _ _ _
 have tY:Ap Y ifs tc:=by rw[<-hY];exact ht _ _ _ _ _ _
 have eY:PE Y elt te:=by rw[<-hY];exact he _ _ _ _ _ _
 have yenv:Y.env=compEnvC scope cl s3.heap.objs.size X.env:=by rw[<-hY];rfl
 have fY:∀{H':Hp},(∀b∈fp,H' b=none)->∀b∈fp,kY Y [] H' b:=fun hn b hb=>by
  obtain⟨f0,f1,f2',f3',f4,f5⟩:=f3 b hb;rw[<-hY];refine⟨hn b hb,bD (hlt3 b hb),fun z=>?_,.inl hb,fun x c e=>f4 x c (hcl x c e),fun p hp=>?_⟩
  ·rcases cI.mp (I3.stkSub _ z)with q|q
   ·exact f1 q
   ·exact f2' q
  ·rw[cR]at hp;exact f5 p hp
 have loop:∀s4:Shared,s4={ s3 with heap:=h₁,toks:=s2.toks+([]:List (Str×Value)).length } ->
   zzl72 (model X.prog X.w) X.A (.compLoop (.ListComp elt [⟨tg,iter,ifs,0⟩] scope pos) 0 (.ref it) (.ref s2.heap.objs.size) Y.env) (RR (.ref s2.heap.objs.size) s3.heap.objs.size) s4:=by
  rintro s4 rfl;refine rT (fun n s'=>∃i vs H',Inv Y [] (cX k fi σ) H' s'/\tn i s'.heap/\(∀b∈fp,H' b=none)/\W i n vs H') ?_ m0 ⟨0,[],_,I4,st4,fun b hb=>(f3 b hb).1,w0⟩;rintro n s5 ⟨i,vs,H5,I5,st5,fr5,w5⟩;obtain⟨hl5,hcase⟩:=turn i n vs H5 w5;rcases hcase with⟨stop,q⟩|⟨go,step⟩
  ·have d:=T.done Y yp yw yK yc i [] s5 _ H5 XF I5 (fY fr5) st5 stop;rw[yA]at d;refine bU d fun r s6 zq0=>?_;obtain⟨hr,I6⟩:=zq0;subst hr;have hu:Un (w_ X.stack) fp (upd H2 s2.heap.objs.size (.lst [])) H5 s3.heap s6.heap:=by have:=I6.base;rw[<-hY]at this;exact this
   have ho6:s6.os=s3.os:=by have:=I6.os;rw[<-hY]at this;exact this
   have hok6:jh X.prog X.w X.K H5 s6.heap:=by have:=I6.hok;rw[<-hY]at this;exact this
   have hC6:H5 s3.heap.objs.size=none:=by have:=I6.free;rw[<-hY]at this;exact this
   obtain⟨m6,hn6,_⟩:=I6.loc;have hn6':s6.heap.Ns s3.heap.objs.size m6:=by rw[<-hY]at hn6;exact hn6
   have IX:Inv X J3 σ H5 s6:=I3.call' ho6 hu hok6 I6.bare fun b hb=>by
    obtain⟨f0,f1,f2',f3',f4,f5⟩:=f3 b hb;exact⟨f3',f1,f4,f5⟩
   refine hR _ _ H5 s6 m6 IX hn6' ⟨hC6,pJ I3.lt,I3.sz,fun x c e z=>?_,fun p hp z=>?_⟩ q
   ·obtain⟨v,o,ho,_⟩:=I3.cell x c e;exact absurd (aP ho) (by rw[z];exact gH _)
   ·exact absurd (aP (I3.pin p hp).1) (by rw[z];exact gH _)
  ·have d:=T.item Y yp yw yK yc i [] s5 _ H5 XF I5 (fY fr5) st5 go;rw[yA]at d;refine bU d fun r s6 zq0=>?_;obtain⟨u,hr,h6⟩:=zq0;subst hr;refine bU h6 fun _ s7 zq0=>?_;obtain⟨x,H7,I7,r7,y7,st7,fr7⟩:=zq0;have I7':=I7.pinned (fY fr7) (T.obj _ _ st7);have a7:=gY _ s7 _ H7 x u _ I7' r7 (ho _ _ _ _ (step x H7 y7));rw[yp,yw,yA,yx]at a7;refine bU a7 fun _ s8 zq0=>?_;obtain⟨σ8,H8,I8,q8,l8,k8⟩:=zq0;have a8:=tY _ s8 σ8 H8 _ I8 q8;rw[yp,yw,yA,yx]at a8;have again:∀{H9:Hp}{s9:Shared}{vs':List V}{m':Nat},Inv Y ([]++oi fp s7.heap) σ8 H9 s9->m'<n->W (i+1) m' vs' H9->∃m,m<n/\∃i vs H',Inv Y [] (cX k fi σ) H' s9/\tn i s9.heap/\(∀b∈fp,H' b=none)/\W i m vs H':=fun{H9 s9 vs' m'} I9 hm w9=>by
    refine⟨m',hm,i+1,vs',H9,(I9.unpinned).weak l8.symm (fun j v e=>?_),T.keep _ _ _ st7 fun b hb o e=>(I9.pin (b,o) (cN _ (cN _ (gX hb e)))).1,fun b hb=>?_,w9⟩
    ·obtain⟨j',t,rfl,_,_⟩:=oG e;rw[k8 _ (Nat.le_add_right _ _)];exact e
    ·obtain⟨o,e,_⟩:=T.obj _ _ st7 b hb;exact(I9.pin (b,o) (cN _ (cN _ (gX hb e)))).2.1
   refine bU a8 fun b s9 zq0=>?_;obtain⟨H9,I9,q9⟩:=zq0;cases b with
   |false =>
    rw[if_neg fN]at q9 ⊢;obtain⟨m',hm,w9⟩:=q9;exact again I9 hm w9
   |true =>
    rw[if_pos rfl]at q9 ⊢;have a9:=eY _ s9 σ8 H9 _ I9 q9;rw[yp,yw,yA,yx]at a9;refine bU a9 fun y s10 zq0=>?_;obtain⟨v,H10,I10,r10,hl10,hsz10,m',hm,w10⟩:=zq0;have a10:=bF (X:=Y) _ s10 σ8 H10 (.ref s2.heap.objs.size) [v] (.ref s2.heap.objs.size) [y] (fun z H'=>z=.non/\H'=upd H10 s2.heap.objs.size (.lst (vs++[v]))) I10 rfl (.cons r10 .nil) ⟨_,vs,v,rfl,rfl,hl10,hsz10,rfl,rfl⟩;rw[yp,yw,yA,yx]at a10;refine bU a10 fun _ s11 zq0=>?_;obtain⟨_,H11,I11,_,_,e11⟩:=zq0;subst e11;exact again I11 hm w10
 have hstart:=codeAny_compStart_list (prog:=X.prog) (w:=X.w) (A:=X.A) (elt:=elt) (target:=tg) (iter:=iter) (ifs:=ifs) (rest:=[]) (scope:=scope) (pos:=pos) (it:=.ref it) (acc:=.ref s2.heap.objs.size) (env:=Y.env) (loop _ rfl) (T.self _ 0 _ _ _ st4 (loop _ rfl));rw[yenv]at hstart;rw[<-hs3]at hstart;exact hstart
end
section
variable{X:Cx}
theorem sr.turned{J3:Zd}{σ:St}{H:Hp}{s:Shared}{C:Addr}{h':Heap}(c:sr X J3 H C)(I:Inv X J3 σ H s)(hs:ig C s.heap h'):Inv X J3 σ H { s with heap:=h' } :=
 I.turned (t':=s.toks) (fun b o hb e=>hs.extBut b o hb e) c.free c.loc (.inr c.young) c.cells c.pin
theorem zJ{elt iter tg:Expr}{ifs:List Expr}{scope:Scope}{pos:Pos}{k:Nat}{N:Zb}{fi:List Nat}{wi:TI}{g:TG}{tc:TT}{te:TE}(hS:iY X.env.scope scope k N X.N fi=true)(hc:X.calm=true)(hi:PI X tg iter wi)
  (hg:∀C cl s₀ H₀ ex pn,PG (cx X N scope C cl s₀ H₀ ex pn) tg g) (ho:wV k g) (ht:∀C cl s₀ H₀ ex pn,Ap (cx X N scope C cl s₀ H₀ ex pn) ifs tc) (he:∀C cl s₀ H₀ ex pn,PE (cx X N scope C cl s₀ H₀ ex pn) elt te)
  (hs:∀x,sD iter X.env x=pure x:=by intro _;rfl):PE X (.ListComp elt [⟨tg,iter,ifs,0⟩] scope pos) (bW k fi wi g tc te):=by
 intro J3 s σ H Q I h;have S:=jO.of hS;obtain⟨cl,hclos,hcl,hcf⟩:=oH (env:=X.env) (scope:=scope) fun y hy e=>I.ok.has y.1 (S.fr y hy e);rw[eval_ListComp];refine wpAny_comprehension_free (use:=none) rfl hs hclos S.kind S.nm (bU (hi J3 s σ H _ I h) fun v s1 h1=>bU h1 fun itv s2 h2=>?_);obtain⟨it,fp,tn,J,H2,e,I2,T,st2,f2,hw⟩:=h2;subst e;refine oF (RR:=fun acc C=>compPost (model X.prog X.w) X.A X.xe none (EP X J3 σ Q) acc C) S hc hcl hcf hg ho ht he I2 T st2 f2 hw ?_;intro D C H' s' m' I' hn ce q;exact⟨m',hn,fun h' hs'=>⟨.ref D,H',ce.turned I' hs',rfl,q⟩⟩
theorem uO{elt iter tg:Expr}{ifs:List Expr}{scope:Scope}{pos spos py:Pos}{k:Nat}{N:Zb}{fi:List Nat}{wi:TI}{g:TG}{tc:TT}{te:TE}{j:Nat}{y:Str}(hN:X.N.Nodup)(hj:X.N[j]?=some y)(hy:Loc X.env.scope y)(hS:iY X.env.scope scope k N X.N fi=true)(hc:X.calm=true)(hi:PI X tg iter wi)
  (hg:∀C cl s₀ H₀ ex pn,PG (cx X N scope C cl s₀ H₀ ex pn) tg g) (ho:wV k g) (ht:∀C cl s₀ H₀ ex pn,Ap (cx X N scope C cl s₀ H₀ ex pn) ifs tc) (he:∀C cl s₀ H₀ ex pn,PE (cx X N scope C cl s₀ H₀ ex pn) elt te)
  (hsw:mf (.ListComp elt [⟨tg,iter,ifs,0⟩] scope pos) (some (.Name y py)) spos.line X.env=pure true:=by rfl)
  (hs:∀x,sD iter X.env x=pure x:=by intro _;rfl) (hf:X.fn y=true∨X.env.scope.names.lookup y=some .local:=by first|exact .inl rfl|exact .inr rfl|assumption) :
  PS X (.Assign [.Name y py] (.ListComp elt [⟨tg,iter,ifs,0⟩] scope pos) spos) (aM (bW k fi wi g tc te) (cW j)):=by
 intro J3 s σ H D I h;have S:=jO.of hS;obtain⟨cl,hclos,hcl,hcf⟩:=oH (env:=X.env) (scope:=scope) fun y hy e=>I.ok.has y.1 (S.fr y hy e);rw[exec_Assign_Name_used _ _ _ _ hsw];refine ak (wpAny_standAt (ak ?_));show wpAny _ X.A (do let _ <- comprehension (.ListComp elt [⟨tg,iter,ifs,0⟩] scope pos) scope X.env _ (newList []) false (eval iter X.env) (some (assign (.Name y py) X.env))) _ _ s
 refine ak (hZ (wpAny_comprehension_free (use:=some (assign (.Name y py) X.env)) (Q:=fun _ s'=>SP X J3 D .next s') rfl hs hclos S.kind S.nm
  (bU (hi J3 s σ H _ I h) fun v s1 h1=>bU h1 fun itv s2 h2=>?_)) (fun _ s' hq=>aB (aB hq)) fun _ _ e=>e)
 obtain⟨it,fp,tn,J,H2,e,I2,T,st2,f2,hw⟩:=h2;subst e;refine oF (RR:=fun acc C=>compPost (model X.prog X.w) X.A X.xe (some (assign (.Name y py) X.env)) (fun _ s'=>SP X J3 D .next s') acc C) (Q:=fun x H1=>cW j x σ H1 D.nx) S hc hcl hcf hg ho ht he I2 T st2 f2 hw ?_;intro A C H' s' m' I' hn ce q;show wpAny _ X.A (assign (.Name y py) X.env (.ref A)) _ _ _;refine wpAny_assign_Name (pV I' hN hj hy (v:=.ref A) rfl (fun s'' I'' hsb=>?_) hf);obtain⟨a,hsa,ha⟩:=hsb;have hCa:C≠a:=by
  rcases ha with z|z
  ·rw[z];exact ce.loc
  ·exact fw (ce.cells y a z)
 refine⟨m',hn.sameBut hsa hCa,fun h' hs'=>?_⟩;exact⟨_,H',ce.turned I'' hs',q⟩
end
theorem Inv.turnedNew{X:Cx}{J3:Zd}{σ:St}{H:Hp}{s:Shared}{h2:Heap}{t':Nat}{ch:Ze}{o:HO}(I:Inv X J3 σ H s)(hf:∀b∈ch,kY X J3 H b)
  (k:∀b q,b∉ch->s.heap.get? b=some q->h2.get? b=some q) (hq:∃q,h2.get? s.heap.objs.size=some q) (hno:∀y,o≠.own y) (new:cj X.prog X.w X.K (upd H s.heap.objs.size o) h2 s.heap.objs.size o) :
  Inv X J3 σ (upd H s.heap.objs.size o) { s with heap:=h2,toks:=t' }:=by
 have hn0:H s.heap.objs.size=none:=I.fresh;have nsz:∀b q,s.heap.get? b=some q->b≠s.heap.objs.size:=fun b q e=>bD (aP e);have tr:∀b u,H b=some u->b∉ch:=fun b u e z=>by rw[(hf b z).1]at e;cases e
 refine I.step (g':=s.gens) (d':=s.drawn) (ch:=ch) (fun b hb=>?_) (fun b q _ _ hc e _=>k b q hc e) (fun b q _ _ hc e _=>⟨q.slots,k b q hc e⟩) (fun b q _ e n=>by rw[ai (nsz b q e)];exact n) (fun b q hc e=>⟨q,k b q hc e⟩)
  (fun b xs e=>by rw[ai (ae e hn0)];exact e) (fun b q u e=>by rw[ai (ae e hn0)];exact e) (fun b ps e=>⟨#[],by rw[ai (ae e hn0),e];simp⟩) (fun m hm=>?_) (fun b u e=>?_) I.bare
 ·obtain⟨f0,f1,f2,f3,f4,f5⟩:=hf b hb;exact⟨f3,f1,f4,f5⟩
 ·obtain⟨q,es,ep,ho,r⟩:=hm;exact⟨q,es,ep,k _ q (fun z=>(hf _ z).2.1 rfl) ho,r⟩
 ·by_cases hb:b=s.heap.objs.size
  ·subst hb;rw[aa]at e;cases e;exact new
  ·rw[ai hb]at e;refine(I.hok b u e).stay (fun c v hc q=>k c v ?_ q) (fun c q=>by rw[ai (ae q hn0)];exact q) fun c xs q=>by rw[ai (ae q hn0)];exact q
   rcases hc with z|z
   ·subst z;exact tr _ _ e
   ·exact tr _ _ z
def Bm(K:Za)(a:Addr):It :=
 ⟨fun i H=>∃xs x,av K H a xs/\xs[i]?=some x,fun i H x H'=>∃p v,x=.ref p/\H p=none/\(∀xs,av K H a xs->xs[i]?=some v)/\H'=upd H p (.tup [.int i,v]),fun i H=>∃xs,av K H a xs/\xs.length<=i⟩
theorem we{P:bm}{w:World}{K:Za}{es:List Expr}{kx:Nat}{J7:Pos}(a e it:Addr)(hne:e≠it):
  tZ P w K (.Tuple es kx J7) (Bm K a) [e,it] e (fun i h=>(∃old,IsEnum h e it i old)/\h.IsListIter it a i) where
 mem:=by simp
 obj:=fun i h st b hb=>by
  obtain⟨⟨old,he⟩,o,ho,hc,hd⟩:=st;rcases cI.mp hb with z|z
  ·subst z;exact⟨_,he,fun v z=>by cases z⟩
  ·have z':b=it:=by simpa using z
   subst z';exact⟨o,ho,fun v z=>by rw[hd]at z;cases z⟩
 keep:=fun i h h' st k=>⟨let⟨old,he⟩:=st.1;⟨old,k e (by simp) _ he⟩,st.2.at fun o e=>k it (by simp) o e⟩
 item:=by
  intro X hP hw hK hc i J3 s σ H E I hf st hg;subst hP hw hK;obtain⟨⟨old,he⟩,hit⟩:=st;obtain⟨xs,x,hq,hx⟩:=hg;obtain⟨its,rv,p,hz⟩:=I.list hq;obtain⟨u,hu,ru⟩:=rv.get hx;obtain⟨e0,e1,e2,e3,e4,e5⟩:=hf e (by simp);obtain⟨f0,f1,f2,f3,f4,f5⟩:=hf it (by simp);refine wpAny_pyNext_enum_item he hit p.isList (x:=u) (by simpa using hu) hne fun h' ho' hit' ht' hsz' hk'=>?_;refine⟨_,rfl,wpAny_letOwnedTupleGo_enum (s:={ s with heap:=h',toks:=s.toks+1 }) ho' fun h2 he2 hs2=>?_⟩;have hs2':ig e h' h2:=hs2;have hpe:s.heap.objs.size≠e:=pJ (aP he);have ht2:h2.get? s.heap.objs.size=some { cls:=.type "tuple",data:=.seq #[.int i s.toks,u] }:=hs2'.extBut _ _ hpe ht';have hn0:H s.heap.objs.size=none:=I.fresh;have hue:upd H s.heap.objs.size (.tup [.int i,x]) e=none:=by rw[ai (fw hpe)];exact e0
  have hpi:s.heap.objs.size≠it:=by
   obtain⟨o,ho,_⟩:=hit;exact pJ (aP ho)
  have hui:upd H s.heap.objs.size (.tup [.int i,x]) it=none:=by rw[ai (fw hpi)];exact f0
  have I2:Inv X J3 σ (upd H s.heap.objs.size (.tup [.int i,x])) { s with heap:=h2,toks:=s.toks+1 }:=by
   refine I.turnedNew (ch:=[e,it]) hf (fun b o hb q=>?_) ⟨_,ht2⟩ (fun _ z=>nomatch z) ⟨by show 2<=aj;decide,[.int i s.toks,u],.cons ⟨_,rfl⟩ (.cons ru .nil),⟨_,ht2,rfl,_,rfl⟩⟩;have nb1:b≠e:=fun z=>hb (by simp[z]);have nb2:b≠it:=fun z=>hb (by simp[z]);exact hs2'.extBut _ _ nb1 (hk' b o nb1 nb2 q)
  refine⟨.ref s.heap.objs.size,_,I2,rfl,⟨_,x,rfl,hn0,fun ys hy=>by rw[I.list_inj hy hq];exact hx,rfl⟩,⟨⟨u,by simpa using he2⟩,hit'.at fun o y=>(hs2'.2 it (fw hne)).trans y⟩,fun b hb=>?_⟩;rcases cI.mp hb with z|z
  ·subst z;exact hue
  ·have z':b=it:=by simpa using z
   subst z';exact hui
 done:=by
  intro X hP hw hK hc i J3 s σ H E I hf st hg;subst hP hw hK;obtain⟨⟨old,he⟩,hit⟩:=st;obtain⟨xs,hq,hx⟩:=hg;obtain⟨its,rv,p,hz⟩:=I.list hq;obtain⟨f0,f1,f2,f3,f4,f5⟩:=hf it (by simp);have hl:=rv.length;exact wpAny_pyNext_enum_end (I.ok.hd hc) he hit p.isList (by simp;omega) fun h' eb=>⟨rfl,I.turned (t':=s.toks) (fun b o hb e=>eb b o hb e) f0 f1 f3 f4 f5⟩
 self:=fun _ _ _ _ _ st h=>let⟨_,he⟩:=st.1;wpAny_pyIter_enum he h
section
variable{X:Cx}{p pos:Pos}{es:List Expr}{kx:Nat}{J7:Pos}
def p7(K:Za)(ta:TA):TI:=fun σ H R=>ta σ H fun vs H1=>∃a,vs=[.ref a]/\(∃xs,av K H1 a xs)/\R (Bm K a) H1
theorem kH{a:Expr}{ta:TA}(hg:Gl X "enumerate")(hm:X.mg "enumerate"=none)(ha:PA X [a] ta)(hs:aA [a] X.env=[(false,eval a X.env)]:=by rfl):PI X (.Tuple es kx J7) (.Call (.Name "enumerate" p) [a] [] pos) (p7 X.K ta):=by
 intro J3 s σ H R I h;refine Call_ (rC I hg hm boot_enumerate (PyProof.Rows.callWith_type1 (bU (ha pos J3 s σ H _ I h) fun us s1 zq0=>?_) hs rfl));obtain⟨vs,H1,I1,r1,q1⟩:=zq0;obtain⟨l,e,⟨xs,hq⟩,q⟩:=q1;subst e;obtain⟨u,rfl,ru⟩:=vals1 r1;cases ru;obtain⟨its,rv,pl,hz⟩:=I1.list hq;refine call_enumerate_list pl.isList fun h' he hit hsz hk=>?_;refine wpAny_pyIter_enum (s:={ s1 with heap:=h' }) he ?_;have hk':∀b o,s1.heap.get? b=some o->h'.get? b=some o:=hk;have I2:Inv X J3 σ H1 { s1 with heap:=h' }:=I1.kept (t':=s1.toks) hk';refine⟨_,[s1.heap.objs.size+1,s1.heap.objs.size],_,_,H1,rfl,I2,we l _ _ (Nat.succ_ne_self _),⟨⟨_,he⟩,hit⟩,fun b hb=>?_,q⟩;have hb':s1.heap.objs.size<=b:=by
  rcases cI.mp hb with z|z
  ·rw[z];exact vt _
  ·have z':b=s1.heap.objs.size:=by simpa using z
   rw[z'];exact az _
 exact I1.fpOk hb' (I1.hok.fresh hb')
end
def Bw(x:Str):It:=⟨fun i _=>i<x.cps.size,fun i H y H'=>H'=H/\∃c,x.cps[i]?=some c/\y=.str ⟨#[c]⟩,fun i _=>x.cps.size<=i⟩
theorem ui{P:bm}{w:World}{K:Za}{tg:Expr}(x:Str)(t:Tok)(it:Addr):tZ P w K tg (Bw x) [it] it (fun i h=>h.IsStrIter it "str_ascii_iterator" x t i) where
 mem:=by simp
 obj:=fun i h st b hb=>by
  have e:b=it:=by simpa using hb
  subst e;obtain⟨o,e,c,d⟩:=st;exact⟨o,e,fun v z=>by rw[d]at z;cases z⟩
 keep:=fun i h h' st k=>by
  obtain⟨o,e,c,d⟩:=st;exact⟨o,k it (by simp) o e,c,d⟩
 item:=by
  intro X hP hw hK hc i J3 s σ H E I hf st hg;subst hP hw hK;have hlt:i<x.cps.size:=hg;obtain⟨f0,f1,f2,f3,f4,f5⟩:=hf it (by simp);have hx:x.cps[i]?=some x.cps[i]:=by simp[hlt]
  refine wpAny_pyNext_ascii_item st hx fun h' st' sb=>?_;have I1:Inv X J3 σ H { s with heap:=h',toks:=s.toks+1 }:=I.turned (t':=s.toks+1) (fun b o hb e=>(sb.2 b hb).trans e) f0 f1 f3 f4 f5;obtain⟨o,e,c,d⟩:=id st';exact⟨_,rfl,tM (s:={ s with heap:=h',toks:=s.toks+1 }) e c d (by decide) ⟨.str ⟨#[x.cps[i]]⟩,H,I1,⟨_,rfl⟩,⟨rfl,_,hx,rfl⟩,st',fun b hb=>(hf b hb).1⟩⟩
 done:=by
  intro X hP hw hK hc i J3 s σ H E I hf st hg;subst hP hw hK;have hge:x.cps.size<=i:=hg;obtain⟨f0,f1,f2,f3,f4,f5⟩:=hf it (by simp);exact wpAny_pyNext_ascii_end (I.ok.hd hc) st (by simp;omega) fun h' eb=>⟨rfl,I.turned (t':=s.toks) (fun b o hb e=>eb b o hb e) f0 f1 f3 f4 f5⟩
 self:=fun _ _ _ _ _ st h=>wpAny_pyIter_striter_ascii st h
theorem wd{P:bm}{w:World}{K:Za}{tg:Expr}(x:Str)(t:Tok)(it:Addr):tZ P w K tg (Bw x) [it] it (fun i h=>h.IsStrIter it "str_iterator" x t i) where
 mem:=by simp
 obj:=fun i h st b hb=>by
  have e:b=it:=by simpa using hb
  subst e;obtain⟨o,e,c,d⟩:=st;exact⟨o,e,fun v z=>by rw[d]at z;cases z⟩
 keep:=fun i h h' st k=>by
  obtain⟨o,e,c,d⟩:=st;exact⟨o,k it (by simp) o e,c,d⟩
 item:=by
  intro X hP hw hK hc i J3 s σ H E I hf st hg;subst hP hw hK;have hlt:i<x.cps.size:=hg;obtain⟨f0,f1,f2,f3,f4,f5⟩:=hf it (by simp);have hx:x.cps[i]?=some x.cps[i]:=by simp[hlt]
  refine wpAny_pyNext_wide_item st hx fun h' st' sb=>?_;have I1:Inv X J3 σ H { s with heap:=h',toks:=s.toks+1 }:=I.turned (t':=s.toks+1) (fun b o hb e=>(sb.2 b hb).trans e) f0 f1 f3 f4 f5;obtain⟨o,e,c,d⟩:=id st';exact⟨_,rfl,tM (s:={ s with heap:=h',toks:=s.toks+1 }) e c d (by decide) ⟨.str ⟨#[x.cps[i]]⟩,H,I1,⟨_,rfl⟩,⟨rfl,_,hx,rfl⟩,st',fun b hb=>(hf b hb).1⟩⟩
 done:=by
  intro X hP hw hK hc i J3 s σ H E I hf st hg;subst hP hw hK;have hge:x.cps.size<=i:=hg;obtain⟨f0,f1,f2,f3,f4,f5⟩:=hf it (by simp);exact wpAny_pyNext_wide_end (I.ok.hd hc) st (by simp;omega) fun h' eb=>⟨rfl,I.turned (t':=s.toks) (fun b o hb e=>eb b o hb e) f0 f1 f3 f4 f5⟩
 self:=fun _ _ _ _ _ st h=>wpAny_pyIter_striter_wide st h
section
variable{X:Cx}{p pos:Pos}{tg:Expr}
def Bf(tl:TE):TI:=fun σ H R=>tl σ H fun v H1=>∃x,v=.str x/\R (Bw x) H1
theorem AC{l:Expr}{tl:TE}(hl:PE X l tl):PI X tg l (Bf tl):=by
 intro J3 s σ H R I h;refine bU (hl J3 s σ H _ I h) fun v s1 zq0=>?_;obtain⟨y,H1,I1,r1,q1⟩:=zq0;obtain⟨x,e,q⟩:=q1;subst e;obtain⟨t,rfl⟩:=r1;have fin:∀b∈[s1.heap.objs.size],kY X J3 H1 b:=fun b hb=>by
  have e:b=s1.heap.objs.size:=by simpa using hb
  subst e;exact I1.fpOk (az _) (I1.hok.fresh (az _))
 cases ha:x.cps.all (·<128)
 ·refine wpAny_pyIter_wide ha ?_;exact⟨s1.heap.objs.size,[s1.heap.objs.size],_,_,H1,rfl,I1.kept (t':=s1.toks) fun b o e=>bj _ e,wd x t _,⟨_,cO _ rfl,rfl,rfl⟩,fin,q⟩
 ·refine wpAny_pyIter_ascii ha ?_;exact⟨s1.heap.objs.size,[s1.heap.objs.size],_,_,H1,rfl,I1.kept (t':=s1.toks) fun b o e=>bj _ e,ui x t _,⟨_,cO _ rfl,rfl,rfl⟩,fin,q⟩
end
inductive DT where
 |k (a:dA)
 |t (l:List DT)
 |s (l:List DT)
mutual
def Ao:(x y:DT)->Decidable (x=y)
 |.k a,.k b=>if h:a=b then Decidable.isTrue (by rw[h])else Decidable.isFalse fun e=>h (by injection e)
 |.t l,.t m=>match decDTs l m with
  |Decidable.isTrue h=>Decidable.isTrue (by rw[h])
  |Decidable.isFalse h=>Decidable.isFalse fun e=>h (by injection e)
 |.s l,.s m=>match decDTs l m with
  |Decidable.isTrue h=>Decidable.isTrue (by rw[h])
  |Decidable.isFalse h=>Decidable.isFalse fun e=>h (by injection e)
 |.k _,.t _=>Decidable.isFalse nofun
 |.k _,.s _=>Decidable.isFalse nofun
 |.t _,.k _=>Decidable.isFalse nofun
 |.t _,.s _=>Decidable.isFalse nofun
 |.s _,.k _=>Decidable.isFalse nofun
 |.s _,.t _=>Decidable.isFalse nofun
def decDTs:(x y:List DT)->Decidable (x=y)
 |[],[]=>Decidable.isTrue rfl
 |[],_::_=>Decidable.isFalse nofun
 |_::_,[]=>Decidable.isFalse nofun
 |a::l,b::m=>match Ao a b with
  |Decidable.isTrue h=>match decDTs l m with
   |Decidable.isTrue h'=>Decidable.isTrue (by rw[h,h'])
   |Decidable.isFalse h'=>Decidable.isFalse fun e=>h' (by injection e)
  |Decidable.isFalse h=>Decidable.isFalse fun e=>h (by injection e)
end
instance:DecidableEq DT:=Ao
mutual
def DT.depth:DT->Nat
 |.k _=>0
 |.t l=>DT.depths l+1
 |.s l=>DT.depths l+1
def DT.depths:List DT->Nat
 |[]=>0
 |a::r=>max (DT.depth a) (DT.depths r)
end
mutual
def nh(h:Heap):DT->Value->Prop
 |.k a,v=>bY a v=true
 |.t l,v=>∃a items,v=.ref a/\h.IsTuple a items/\DAts h l items.toList
 |.s l,v=>∃a items,v=.ref a/\h.IsList a items/\DAts h l items.toList
def DAts(h:Heap):List DT->List Value->Prop
 |[],vs=>vs=[]
 |k::r,vs=>∃v us,vs=v::us/\nh h k v/\DAts h r us
end
theorem DAts.length{h:Heap}:∀{xs:List DT}{vs:Zf},DAts h xs vs->xs.length=vs.length
 |[],vs,e=>by have e':vs=[]:=e;rw[e'];rfl
 |x::xs,vs,e=>by
  obtain⟨v,us,rfl,_,h2⟩:=e;simp[DAts.length h2]
theorem DAts.get{h:Heap}:∀{xs:List DT}{vs:Zf}{i:Nat}{v:Value},DAts h xs vs->vs[i]?=some v->∃x,xs[i]?=some x/\nh h x v
 |[],vs,i,v,e,q=>by have e':vs=[]:=e;subst e';simp at q
 |x::xs,vs,i,v,e,q=>by
  obtain⟨u,us,rfl,h1,h2⟩:=e;cases i with
  |zero =>
   simp at q;subst q;exact⟨x,rfl,h1⟩
  |succ i =>
   obtain⟨y,e1,e2⟩:=DAts.get h2 (i:=i) (v:=v) (by simpa using q);exact⟨y,by simpa using e1,e2⟩
theorem DT.depths_get{l:List DT}{x:DT}{i d:Nat}(h:DT.depths l<=d)(e:l[i]?=some x):x.depth<=d:=by
 induction l generalizing i with
 |nil=>simp at e
 |cons a r ih =>
  have h':max a.depth (DT.depths r)<=d:=h;cases i with
  |zero=>simp at e;subst e;omega
  |succ i=>exact ih (by omega) (by simpa using e)
theorem uW{h:Heap}{a:Addr}{i j:Array Value}(x:h.IsList a i)(y:h.IsList a j):i=j:=by
 obtain⟨o,ho,_,n,hd⟩:=x;obtain⟨o',ho',_,n',hd'⟩:=y;rw[ho]at ho';cases ho';rw[hd]at hd';injection hd'
theorem isTuple_inj{h:Heap}{a:Addr}{i j:Array Value}(x:h.IsTuple a i)(y:h.IsTuple a j):i=j:=by
 obtain⟨o,ho,_,n,hd⟩:=x;obtain⟨o',ho',_,n',hd'⟩:=y;rw[ho]at ho';cases ho';rw[hd]at hd';injection hd'
theorem gQ{h:Heap}{a:Addr}{i j:Array Value}(x:h.IsList a i)(y:h.IsTuple a j):False:=by
 obtain⟨o,ho,hc,_⟩:=x;obtain⟨o',ho',hc',_⟩:=y;rw[ho]at ho';cases ho';rw[hc]at hc';simp at hc'
theorem pZ{a b:dA}{v:Value}(h1:bY a v=true)(h2:bY b v=true):a=b:=by
 rcases ap h1 with⟨i,t,rfl,rfl⟩|⟨i,t,rfl,rfl⟩
 ·rcases ap h2 with⟨j,u,rfl,e⟩|⟨j,u,rfl,e⟩
  ·cases e;rfl
  ·cases e
 ·rcases ap h2 with⟨j,u,rfl,e⟩|⟨j,u,rfl,e⟩
  ·cases e
  ·cases e;rfl
theorem fL{a:dA}{b:Addr}(h:bY a (.ref b)=true):False:=by
 rcases ap h with⟨_,_,_,e⟩|⟨_,_,_,e⟩<;>cases e
theorem nh.inj{h:Heap}:∀(d:Nat) {x y:DT}{v:Value},x.depth<=d->nh h x v->nh h y v->x=y:=by
 have key:∀(d:Nat) (ih:∀{x y:DT}{v:Value},x.depth<=d->nh h x v->nh h y v->x=y) (xs ys:List DT) (vs:Zf),DT.depths xs<=d->DAts h xs vs->DAts h ys vs->xs=ys:=by
  intro d ih xs
  induction xs with
  |nil =>
   intro ys vs _ hx hy;have hx':vs=[]:=hx;subst hx';cases ys with
   |nil=>rfl
   |cons y ys=>obtain⟨_,_,e,_⟩:=hy;cases e
  |cons x xs ihl =>
   intro ys vs hd hx hy;obtain⟨v,us,rfl,hx1,hx2⟩:=hx;cases ys with
   |nil=>have hy':v::us=[]:=hy;cases hy'
   |cons y ys =>
    obtain⟨v',us',e,hy1,hy2⟩:=hy;cases e;have hd':max x.depth (DT.depths xs)<=d:=hd;rw[ih (by omega) hx1 hy1,ihl ys us (by omega) hx2 hy2]
 intro d
 induction d with
 |zero =>
  intro x y v hd hx hy;cases x with
  |t l=>exact absurd hd (by show ¬(DT.depths l+1<=0);omega)
  |s l=>exact absurd hd (by show ¬(DT.depths l+1<=0);omega)
  |k a =>
   cases y with
   |k b=>rw[pZ hx hy]
   |t l=>obtain⟨b,_,rfl,_⟩:=hy;exact(fL hx).elim
   |s l=>obtain⟨b,_,rfl,_⟩:=hy;exact(fL hx).elim
 |succ d ih =>
  intro x y v hd hx hy;cases x with
  |k a =>
   cases y with
   |k b=>rw[pZ hx hy]
   |t l=>obtain⟨b,_,rfl,_⟩:=hy;exact(fL hx).elim
   |s l=>obtain⟨b,_,rfl,_⟩:=hy;exact(fL hx).elim
  |t l =>
   obtain⟨a,i,rfl,hi,hx⟩:=hx;cases y with
   |k b=>exact(fL hy).elim
   |t m =>
    obtain⟨a',j,e,hj,hy⟩:=hy;cases e;rw[isTuple_inj hj hi]at hy;rw[key d (fun h1=>ih h1) l m i.toList (by have:DT.depths l+1<=d+1:=hd;omega) hx hy]
   |s m =>
    obtain⟨a',j,e,hj,hy⟩:=hy;cases e;exact(gQ hj hi).elim
  |s l =>
   obtain⟨a,i,rfl,hi,hx⟩:=hx;cases y with
   |k b=>exact(fL hy).elim
   |s m =>
    obtain⟨a',j,e,hj,hy⟩:=hy;cases e;rw[uW hj hi]at hy;rw[key d (fun h1=>ih h1) l m i.toList (by have:DT.depths l+1<=d+1:=hd;omega) hx hy]
   |t m =>
    obtain⟨a',j,e,hj,hy⟩:=hy;cases e;exact(gQ hi hj).elim
theorem d5{l m:List DT}(hl:l.length=m.length):((jb l.length).all fun j=>decide (l[j]?=m[j]?))=decide (l=m):=by
 by_cases e:l=m
 ·subst e;simp
 ·rw[zzr0 e];rw[List.all_eq_false];apply Classical.byContradiction;intro h;apply e;apply List.ext_getElem?;intro i;by_cases hi:i<l.length
  ·apply Classical.byContradiction;intro hne;exact h ⟨i,List.mem_range.mpr hi,by simpa using hne⟩
  ·rw[List.getElem?_eq_none (by omega),List.getElem?_eq_none (by omega)]
section
variable{s:Shared}
theorem dt_eq:∀(d:Nat) {A:Around}{x y:DT}{u v:Value},y.depth<=d->A.units+d<cLine->nh s.heap x u->nh s.heap y v->aI A s u v (decide (x=y)):=by
 have leaves:∀{A:Around}{a b:dA}{u v:Value},bY a u=true->bY b v=true->aI A s u v (decide (DT.k a=DT.k b)):=by
  intro A a b u v h1 h2;have hd:decide (DT.k a=DT.k b)=decide (a=b):=by
   by_cases e:a=b
   ·subst e;simp
   ·have:¬(DT.k a=DT.k b):=fun z=>e (by injection z);rw[zzr0 this,zzr0 e]
  rw[hd];rcases ap h1 with⟨i,t,rfl,rfl⟩|⟨i,t,rfl,rfl⟩
  ·rcases ap h2 with⟨j,u,rfl,rfl⟩|⟨j,u,rfl,rfl⟩
   ·rw[rH];exact aI.int_int i t j u
   ·rw[rG];exact aI.int_str i t j u
  ·rcases ap h2 with⟨j,u,rfl,rfl⟩|⟨j,u,rfl,rfl⟩
   ·rw[rE];exact aI.str_int i t j u
   ·rw[rD];have:=aI.str_str (A:=A) (s:=s) i t j u;rwa[show(i==j)=decide (i=j)from by by_cases e:i=j<;>simp[e]]at this
 have kt:∀{A:Around}{a:dA}{u:Value}{b:Addr}{items:Array Value},A.units<cLine->bY a u=true->s.heap.IsTuple b items->aI A s u (.ref b) false/\aI A s (.ref b) u false:=by
  intro A a u b items hu h1 ht;rcases ap h1 with⟨i,t,rfl,rfl⟩|⟨i,t,rfl,rfl⟩
  ·exact⟨aI.int_tuple i t ht hu,aI.tuple_int i t ht hu⟩
  ·exact⟨aI.str_tuple i t ht hu,aI.tuple_str i t ht hu⟩
 have kl:∀{A:Around}{a:dA}{u:Value}{b:Addr}{items:Array Value},A.units<cLine->bY a u=true->s.heap.IsList b items->aI A s u (.ref b) false/\aI A s (.ref b) u false:=by
  intro A a u b items hu h1 ht;rcases ap h1 with⟨i,t,rfl,rfl⟩|⟨i,t,rfl,rfl⟩
  ·exact⟨aI.int_list i t ht hu,aI.list_int i t ht hu⟩
  ·exact⟨aI.str_list i t ht hu,aI.list_str i t ht hu⟩
 intro d
 induction d with
 |zero =>
  intro A x y u v hdy hu hx hy;cases y with
  |t l=>exact absurd hdy (by show ¬(DT.depths l+1<=0);omega)
  |s l=>exact absurd hdy (by show ¬(DT.depths l+1<=0);omega)
  |k b =>
   cases x with
   |t l =>
    obtain⟨a,i,rfl,hi,_⟩:=hx;rw[zzr0 (by intro z;cases z)];exact(kt (by omega) hy hi).2
   |s l =>
    obtain⟨a,i,rfl,hi,_⟩:=hx;rw[zzr0 (by intro z;cases z)];exact(kl (by omega) hy hi).2
   |k a=>exact leaves hx hy
 |succ d ih =>
  intro A x y u v hdy hu hx hy;have items:∀{l m:List DT}{i j:Array Value},DT.depths m<=d->DAts s.heap l i.toList->DAts s.heap m j.toList->∀n (h1:n<i.size) (h2:n<j.size),aI A.in1 s i[n] j[n] (decide (l[n]?=m[n]?)):=by
   intro l m i j hm hi hj n h1 h2;obtain⟨x,ex,hx⟩:=hi.get (i:=n) (v:=i[n]) (by simp[h1]);obtain⟨y,ey,hy⟩:=hj.get (i:=n) (v:=j[n]) (by simp[h2]);rw[ex,ey];have hd:decide ((some x:Option DT)=some y)=decide (x=y):=by
    by_cases e:x=y
    ·subst e;simp
    ·rw[zzr0 e,zzr0 fun z=>e (di z)]
   rw[hd];exact ih (DT.depths_get hm ey) (by show A.units+1+d<cLine;omega) hx hy
  cases x with
  |k a =>
   cases y with
   |k b=>exact leaves hx hy
   |t l =>
    obtain⟨b,i,rfl,hi,_⟩:=hy;rw[zzr0 (by intro z;cases z)];exact(kt (by omega) hx hi).1
   |s l =>
    obtain⟨b,i,rfl,hi,_⟩:=hy;rw[zzr0 (by intro z;cases z)];exact(kl (by omega) hx hi).1
  |t l =>
   have hx0:=hx;obtain⟨a,i,rfl,hi,hx⟩:=hx;cases y with
   |k b =>
    rw[zzr0 (by intro z;cases z)];exact(kt (by omega) hy hi).2
   |s m =>
    obtain⟨b,j,rfl,hj,_⟩:=hy;rw[zzr0 (by intro z;cases z)];exact aI.tuple_list hi hj (by omega)
   |t m =>
    have hm:DT.depths m<=d:=by have:DT.depths m+1<=d+1:=hdy;omega
    have hy0:=hy;obtain⟨b,j,rfl,hj,hy⟩:=hy;by_cases hab:a=b
    ·subst hab;have e:DT.t l=DT.t m:=nh.inj _ (az _) hx0 hy0;rw[zzr1 e];exact aI.same _
    ·have r:=SeqAt.RcAt.tuples (A:=A) hi hj (by omega) (items hm hx hy);have li:=hx.length;have lj:=hy.length;simp only[gf]at li lj;have q:((jb (min i.size j.size)).all (fun n=>decide (l[n]?=m[n]?)) && i.size==j.size)=decide (DT.t l=DT.t m):=by
      by_cases e:l.length=m.length
      ·have e1:i.size=j.size:=by omega
       rw[<-e1,Nat.min_self,<-li,d5 e];by_cases e2:l=m
       ·subst e2;simp
       ·have:¬(DT.t l=DT.t m):=fun z=>e2 (by injection z);rw[zzr0 this,zzr0 e2];rfl
      ·have e1:(i.size==j.size)=false:=by simp;omega
       have:¬(DT.t l=DT.t m):=fun z=>e (by injection z with z;rw[z]);rw[e1,zzr0 this,Bool.and_false]
     rw[q]at r;exact .of_refs hab r
  |s l =>
   have hx0:=hx;obtain⟨a,i,rfl,hi,hx⟩:=hx;cases y with
   |k b =>
    rw[zzr0 (by intro z;cases z)];exact(kl (by omega) hy hi).2
   |t m =>
    obtain⟨b,j,rfl,hj,_⟩:=hy;rw[zzr0 (by intro z;cases z)];exact aI.list_tuple hi hj (by omega)
   |s m =>
    have hm:DT.depths m<=d:=by have:DT.depths m+1<=d+1:=hdy;omega
    have hy0:=hy;obtain⟨b,j,rfl,hj,hy⟩:=hy;by_cases hab:a=b
    ·subst hab;have e:DT.s l=DT.s m:=nh.inj _ (az _) hx0 hy0;rw[zzr1 e];exact aI.same _
    ·have li:=hx.length;have lj:=hy.length;simp only[gf]at li lj;by_cases e:l.length=m.length
     ·have r:=SeqAt.RcAt.lists (A:=A) hi hj (by omega) (by omega) (items hm hx hy);rw[<-li,d5 e]at r;have q:decide (l=m)=decide (DT.s l=DT.s m):=by
       by_cases e2:l=m
       ·subst e2;simp
       ·have:¬(DT.s l=DT.s m):=fun z=>e2 (by injection z);rw[zzr0 this,zzr0 e2]
      rw[q]at r;exact .of_refs hab r
     ·have:¬(DT.s l=DT.s m):=fun z=>e (by injection z with z;rw[z]);rw[zzr0 this];exact .of_refs hab (SeqAt.RcAt.lists_lengths hi hj (by simp;omega) (by omega))
end
theorem v3(a b:dA):decide (DT.k a=DT.k b)=decide (a=b):=by
 by_cases e:a=b
 ·subst e;simp
 ·rw[zzr0 e,zzr0 fun z=>e (by injection z)]
theorem Al(l m:List DT):decide (DT.t l=DT.t m)=decide (l=m):=by
 by_cases e:l=m
 ·subst e;simp
 ·rw[zzr0 e,zzr0 fun z=>e (by injection z)]
theorem Am(l m:List DT):decide (DT.s l=DT.s m)=decide (l=m):=by
 by_cases e:l=m
 ·subst e;simp
 ·rw[zzr0 e,zzr0 fun z=>e (by injection z)]
theorem yC(x y:DT):decide ((some x:Option DT)=some y)=decide (x=y):=by
 by_cases e:x=y
 ·subst e;simp
 ·rw[zzr0 e,zzr0 fun z=>e (di z)]
section
variable{A:Around}{s:Shared}
theorem kQ{d:Nat}(hu:A.units+1+d<cLine){l m:List DT}{i j:Array Value}(hm:DT.depths m<=d)(hi:DAts s.heap l i.toList)(hj:DAts s.heap m j.toList):
  ∀n (h1:n<i.size) (h2:n<j.size),aI A.in1 s i[n] j[n] (decide (l[n]?=m[n]?)):=by
 intro n h1 h2;obtain⟨x,ex,hx⟩:=hi.get (i:=n) (v:=i[n]) (by simp[h1]);obtain⟨y,ey,hy⟩:=hj.get (i:=n) (v:=j[n]) (by simp[h2]);rw[ex,ey,yC];exact dt_eq d (DT.depths_get hm ey) hu hx hy
theorem vE{l m:List DT}{i j:Array Value}(hi:DAts s.heap l i.toList)(hj:DAts s.heap m j.toList):((jb (min i.size j.size)).all (fun n=>decide (l[n]?=m[n]?)) && i.size==j.size)=decide (l=m):=by
 have li:=hi.length;have lj:=hj.length;simp only[gf]at li lj;by_cases e:l.length=m.length
 ·have e1:i.size=j.size:=by omega
  rw[<-e1,Nat.min_self,<-li,d5 e];simp
 ·have e1:(i.size==j.size)=false:=by simp;omega
  rw[e1,zzr0 fun z=>e (by rw[z]),Bool.and_false]
theorem Aj{x y:DT}{u v:Value}(dy:y.depth<=14)(hu:A.units+16<cLine)(hx:nh s.heap x u)(hy:nh s.heap y v):SeqAt.RcAt A s u v (decide (x=y)):=by
 cases x with
 |k a =>
  rcases ap (show bY a u=true from hx)with⟨i,t,rfl,rfl⟩|⟨i,t,rfl,rfl⟩
  ·cases y with
   |k b =>
    rw[v3];rcases ap (show bY b v=true from hy)with⟨j,t',rfl,rfl⟩|⟨j,t',rfl,rfl⟩
    ·rw[rH];exact SeqAt.RcAt.int_int i t j t'
    ·rw[rG];exact SeqAt.RcAt.int_str i t j t'
   |t m=>obtain⟨b,j,rfl,hj,_⟩:=hy;rw[zzr0 (by intro z;cases z)];exact SeqAt.RcAt.int_tuple i t hj (by omega)
   |s m=>obtain⟨b,j,rfl,hj,_⟩:=hy;rw[zzr0 (by intro z;cases z)];exact SeqAt.RcAt.int_list i t hj (by omega)
  ·cases y with
   |k b =>
    rw[v3];rcases ap (show bY b v=true from hy)with⟨j,t',rfl,rfl⟩|⟨j,t',rfl,rfl⟩
    ·rw[rE];exact SeqAt.RcAt.str_int i t j t'
    ·rw[rD];have:=SeqAt.RcAt.str_str (A:=A) (s:=s) i t j t';rwa[show(i==j)=decide (i=j)from by by_cases e:i=j<;>simp[e]]at this
   |t m=>obtain⟨b,j,rfl,hj,_⟩:=hy;rw[zzr0 (by intro z;cases z)];exact SeqAt.RcAt.str_tuple i t hj (by omega)
   |s m=>obtain⟨b,j,rfl,hj,_⟩:=hy;rw[zzr0 (by intro z;cases z)];exact SeqAt.RcAt.str_list i t hj (by omega)
 |t l =>
  obtain⟨a,i,rfl,hi,hx⟩:=hx;cases y with
  |k b =>
   rw[zzr0 (by intro z;cases z)];rcases ap (show bY b v=true from hy)with⟨j,t',rfl,rfl⟩|⟨j,t',rfl,rfl⟩
   ·exact SeqAt.RcAt.tuple_int j t' hi (by omega)
   ·exact SeqAt.RcAt.tuple_str j t' hi (by omega)
  |t m =>
   obtain⟨b,j,rfl,hj,hy⟩:=hy;have dm:DT.depths m<=13:=by have:DT.depths m+1<=14:=dy;omega
   have r:=SeqAt.RcAt.tuples (A:=A) hi hj (by omega) (kQ (by omega) dm hx hy);rw[vE hx hy]at r;rw[Al];exact r
  |s m=>obtain⟨b,j,rfl,hj,_⟩:=hy;rw[zzr0 (by intro z;cases z)];exact SeqAt.RcAt.tuple_list hi hj (by omega)
 |s l =>
  obtain⟨a,i,rfl,hi,hx⟩:=hx;cases y with
  |k b =>
   rw[zzr0 (by intro z;cases z)];rcases ap (show bY b v=true from hy)with⟨j,t',rfl,rfl⟩|⟨j,t',rfl,rfl⟩
   ·exact SeqAt.RcAt.list_int j t' hi (by omega)
   ·exact SeqAt.RcAt.list_str j t' hi (by omega)
  |t m=>obtain⟨b,j,rfl,hj,_⟩:=hy;rw[zzr0 (by intro z;cases z)];exact SeqAt.RcAt.list_tuple hi hj (by omega)
  |s m =>
   obtain⟨b,j,rfl,hj,hy⟩:=hy;have dm:DT.depths m<=13:=by have:DT.depths m+1<=14:=dy;omega
   have li:=hx.length;have lj:=hy.length;simp only[gf]at li lj;rw[Am];by_cases e:l.length=m.length
   ·have r:=SeqAt.RcAt.lists (A:=A) hi hj (by omega) (by omega) (kQ (by omega) dm hx hy);rw[<-li,d5 e]at r;exact r
   ·rw[zzr0 fun z=>e (by rw[z])];exact SeqAt.RcAt.lists_lengths hi hj (by simp;omega) (by omega)
theorem Ak{x y:DT}{u v:Value}(dy:y.depth<=14)(hu:A.units+16<cLine)(hx:nh s.heap x u)(hy:nh s.heap y v):SeqAt.RcNeAt A s u v (!decide (x=y)):=by
 cases x with
 |k a =>
  rcases ap (show bY a u=true from hx)with⟨i,t,rfl,rfl⟩|⟨i,t,rfl,rfl⟩
  ·cases y with
   |k b =>
    rw[v3];rcases ap (show bY b v=true from hy)with⟨j,t',rfl,rfl⟩|⟨j,t',rfl,rfl⟩
    ·rw[rH];exact SeqAt.RcNeAt.int_int i t j t'
    ·rw[rG];exact SeqAt.RcNeAt.int_str i t j t'
   |t m=>obtain⟨b,j,rfl,hj,_⟩:=hy;rw[zzr0 (by intro z;cases z)];exact SeqAt.RcNeAt.int_tuple i t hj (by omega)
   |s m=>obtain⟨b,j,rfl,hj,_⟩:=hy;rw[zzr0 (by intro z;cases z)];exact SeqAt.RcNeAt.int_list i t hj (by omega)
  ·cases y with
   |k b =>
    rw[v3];rcases ap (show bY b v=true from hy)with⟨j,t',rfl,rfl⟩|⟨j,t',rfl,rfl⟩
    ·rw[rE];exact SeqAt.RcNeAt.str_int i t j t'
    ·rw[rD];have:=SeqAt.RcNeAt.str_str (A:=A) (s:=s) i t j t';rwa[show(i==j)=decide (i=j)from by by_cases e:i=j<;>simp[e]]at this
   |t m=>obtain⟨b,j,rfl,hj,_⟩:=hy;rw[zzr0 (by intro z;cases z)];exact SeqAt.RcNeAt.str_tuple i t hj (by omega)
   |s m=>obtain⟨b,j,rfl,hj,_⟩:=hy;rw[zzr0 (by intro z;cases z)];exact SeqAt.RcNeAt.str_list i t hj (by omega)
 |t l =>
  obtain⟨a,i,rfl,hi,hx⟩:=hx;cases y with
  |k b =>
   rw[zzr0 (by intro z;cases z)];rcases ap (show bY b v=true from hy)with⟨j,t',rfl,rfl⟩|⟨j,t',rfl,rfl⟩
   ·exact SeqAt.RcNeAt.tuple_int j t' hi (by omega)
   ·exact SeqAt.RcNeAt.tuple_str j t' hi (by omega)
  |t m =>
   obtain⟨b,j,rfl,hj,hy⟩:=hy;have dm:DT.depths m<=13:=by have:DT.depths m+1<=14:=dy;omega
   have r:=SeqAt.RcNeAt.tuples (A:=A) hi hj (by omega) (kQ (by omega) dm hx hy);rw[vE hx hy]at r;rw[Al];exact r
  |s m=>obtain⟨b,j,rfl,hj,_⟩:=hy;rw[zzr0 (by intro z;cases z)];exact SeqAt.RcNeAt.tuple_list hi hj (by omega)
 |s l =>
  obtain⟨a,i,rfl,hi,hx⟩:=hx;cases y with
  |k b =>
   rw[zzr0 (by intro z;cases z)];rcases ap (show bY b v=true from hy)with⟨j,t',rfl,rfl⟩|⟨j,t',rfl,rfl⟩
   ·exact SeqAt.RcNeAt.list_int j t' hi (by omega)
   ·exact SeqAt.RcNeAt.list_str j t' hi (by omega)
  |t m=>obtain⟨b,j,rfl,hj,_⟩:=hy;rw[zzr0 (by intro z;cases z)];exact SeqAt.RcNeAt.list_tuple hi hj (by omega)
  |s m =>
   obtain⟨b,j,rfl,hj,hy⟩:=hy;have dm:DT.depths m<=13:=by have:DT.depths m+1<=14:=dy;omega
   have li:=hx.length;have lj:=hy.length;simp only[gf]at li lj;rw[Am];by_cases e:l.length=m.length
   ·have r:=SeqAt.RcNeAt.lists (A:=A) hi hj (by omega) (by omega) (kQ (by omega) dm hx hy);rw[<-li,d5 e]at r;exact r
   ·rw[zzr0 fun z=>e (by rw[z])];exact SeqAt.RcNeAt.lists_lengths hi hj (by simp;omega) (by omega)
end
mutual
def iM(K:Za)(H:Hp):DT->V->Prop
 |.k a,v=>v=kV a
 |.t l,v=>∃b xs,v=.ref b/\bp K H b xs/\DIns K H l xs
 |.s l,v=>∃b xs,v=.ref b/\av K H b xs/\DIns K H l xs
def DIns(K:Za)(H:Hp):List DT->List V->Prop
 |[],vs=>vs=[]
 |k::r,vs=>∃v us,vs=v::us/\iM K H k v/\DIns K H r us
end
section
variable{X:Cx}{J3:Zd}{σ:St}{H:Hp}{s:Shared}
theorem fm(I:Inv X J3 σ H s):∀(d:Nat) {k:DT}{v:V}{u:Value},k.depth<=d->iM X.K H k v->RelV v u->nh s.heap k u:=by
 have key:∀(d:Nat) (ih:∀{k:DT}{v:V}{u:Value},k.depth<=d->iM X.K H k v->RelV v u->nh s.heap k u) (ks:List DT) (vs:List V) (us:Zf),DT.depths ks<=d->DIns X.K H ks vs->aL vs us->DAts s.heap ks us:=by
  intro d ih ks
  induction ks with
  |nil =>
   intro vs us _ hx r;have e:vs=[]:=hx;subst e;cases r
   rfl
  |cons k ks ihl =>
   intro vs us hd hx r;obtain⟨v,vs',rfl,h1,h2⟩:=hx;cases r with
   |@cons _ u _ us' r1 r2 =>
    have hd':max k.depth (DT.depths ks)<=d:=hd;exact⟨u,us',rfl,ih (by omega) h1 r1,ihl vs' us' (by omega) h2 r2⟩
 intro d
 induction d with
 |zero =>
  intro k v u hd hx r;cases k with
  |t l=>exact absurd hd (by show ¬(DT.depths l+1<=0);omega)
  |s l=>exact absurd hd (by show ¬(DT.depths l+1<=0);omega)
  |k b =>
   have e:v=kV b:=hx;subst e;exact mo (P:=X.prog) (w:=X.w) r
 |succ d ih =>
  intro k v u hd hx r;cases k with
  |k b =>
   have e:v=kV b:=hx;subst e;exact mo (P:=X.prog) (w:=X.w) r
  |t l =>
   obtain⟨b,xs,rfl,hb,hi⟩:=hx;cases(show u=Value.ref b from r);obtain⟨its,rv,ht,_⟩:=I.tuple hb;exact⟨b,its.toArray,rfl,ht,by simpa using key d (fun h1=>ih h1) l xs its (by have:DT.depths l+1<=d+1:=hd;omega) hi rv⟩
  |s l =>
   obtain⟨b,xs,rfl,hb,hi⟩:=hx;cases(show u=Value.ref b from r);obtain⟨its,rv,ht,_⟩:=I.list hb;exact⟨b,its.toArray,rfl,ht.isList,by simpa using key d (fun h1=>ih h1) l xs its (by have:DT.depths l+1<=d+1:=hd;omega) hi rv⟩
theorem iX(I:Inv X J3 σ H s):∀{ks:List DT}{vs:List V}{us:Zf},DT.depths ks<=8->DIns X.K H ks vs->aL vs us->DAts s.heap ks us
 |[],vs,us,_,hx,r=>by
  have e:vs=[]:=hx;subst e;cases r
  rfl
 |k::ks,vs,us,hd,hx,r=>by
  obtain⟨v,vs',rfl,h1,h2⟩:=hx;cases r with
  |@cons _ u _ us' r1 r2 =>
   have hd':max k.depth (DT.depths ks)<=8:=hd;exact⟨u,us',rfl,fm I 8 (by omega) h1 r1,iX I (by omega) h2 r2⟩
end
def ww(K:Za):R2:=fun x y H Q=>∃d e:DT,iM K H d x/\iM K H e y/\d.depth<=8/\e.depth<=8/\Q (.bl (decide (d=e))) H
def A9(K:Za):R2:=fun x y H Q=>∃d e:DT,iM K H d x/\iM K H e y/\d.depth<=8/\e.depth<=8/\Q (.bl (!decide (d=e))) H
section
variable{X:Cx}
theorem oo(hu:X.A.units+16<cLine):jH X (cP .Eq) (ww X.K):=by
 intro J3 s σ H x y v u Q I rx ry h;obtain⟨d,e,hx,hy,dx,dy,q⟩:=h;exact Aj (aO dy (by decide)) hu (fm I 8 dx hx rx) (fm I 8 dy hy ry) X.prog X.w X.xe _ ⟨.bl _,H,I,rfl,q⟩
theorem AK(hu:X.A.units+16<cLine):jH X (cP .NotEq) (A9 X.K):=by
 intro J3 s σ H x y v u Q I rx ry h;obtain⟨d,e,hx,hy,dx,dy,q⟩:=h;exact Ak (aO dy (by decide)) hu (fm I 8 dx hx rx) (fm I 8 dy hy ry) X.prog X.w X.xe _ ⟨.bl _,H,I,rfl,q⟩
def xN(K:Za):R2:=fun x y H Q=>∃d e:DT,iM K H d x/\iM K H e y/\d.depth<=40/\e.depth<=14/\Q (.bl (decide (d=e))) H
def n_(K:Za):R2:=fun x y H Q=>∃d e:DT,iM K H d x/\iM K H e y/\d.depth<=40/\e.depth<=14/\Q (.bl (!decide (d=e))) H
theorem xZ(hu:X.A.units+16<cLine):jH X (cP .Eq) (xN X.K):=by
 intro J3 s σ H x y v u Q I rx ry h;obtain⟨d,e,hx,hy,dx,dy,q⟩:=h;exact Aj dy hu (fm I 40 dx hx rx) (fm I 14 dy hy ry) X.prog X.w X.xe _ ⟨.bl _,H,I,rfl,q⟩
theorem on(hu:X.A.units+16<cLine):jH X (cP .NotEq) (n_ X.K):=by
 intro J3 s σ H x y v u Q I rx ry h;obtain⟨d,e,hx,hy,dx,dy,q⟩:=h;exact Ak dy hu (fm I 40 dx hx rx) (fm I 14 dy hy ry) X.prog X.w X.xe _ ⟨.bl _,H,I,rfl,q⟩
def lK(K:Za)(neg:Bool):R2:=fun x y H Q=>∃(d:DT) (ds:List DT) (p:Addr) (xs:List V),iM K H d x/\y=.ref p/\(av K H p xs∨bp K H p xs)/\DIns K H ds xs/\d.depth<=8/\DT.depths ds<=8/\Q (.bl (if neg then !decide (d∈ds)else decide (d∈ds))) H
open Classical in
theorem kU{h:Heap}{d:DT}(d8:d.depth<=8):∀{ds:List DT}{us:Zf},DAts h ds us->DT.depths ds<=8->us.any (fun u=>@decide (nh h d u) (propDecidable _))=decide (d∈ds)
 |[],us,e,_=>by
  have e':us=[]:=e;subst e'
  rfl
 |x::ds,us,e,hd=>by
  obtain⟨u,us',rfl,h1,h2⟩:=e;have hd':max x.depth (DT.depths ds)<=8:=hd;rw[iu,kU d8 h2 (by omega)];by_cases q:d=x
  ·subst q;simp[h1]
  ·have n:¬nh h d u:=fun z=>q (nh.inj 8 d8 z h1);simp[n,q]
open Classical in
theorem ow{A:Around}{s:Shared}{d:DT}{v:Value}(d8:d.depth<=8)(hu:A.units+8<cLine)(hd:nh s.heap d v):∀{ds:List DT}{us:Zf},DAts s.heap ds us->DT.depths ds<=8->∀u∈us,aI A s u v (@decide (nh s.heap d u) (propDecidable _))
 |[],us,e,_,u,hm=>by
  have e':us=[]:=e;subst e';cases hm
 |x::ds,us,e,h8,u,hm=>by
  obtain⟨u',us',rfl,h1,h2⟩:=e;have h8':max x.depth (DT.depths ds)<=8:=h8;rcases cI.mp hm with rfl|hm
  ·have q:=dt_eq 8 (A:=A) d8 hu h1 hd;by_cases z:x=d
   ·subst z;rw[zzr1 h1];rwa[zzr1 rfl]at q
   ·have n:¬nh s.heap d u:=fun w=>z (nh.inj 8 d8 w h1).symm;rw[zzr0 n];rwa[zzr0 z]at q
  ·exact ow d8 hu hd h2 (by omega) u hm
theorem rp(hu:X.A.units+16<cLine):jH X (cP .In) (lK X.K false):=by
 intro J3 s σ H x y v u Q I rx ry h;obtain⟨d,ds,p,xs,hx,rfl,hq,hds,d8,ds8,q⟩:=h;cases ry;have hd:=fm I 8 d8 hx rx;have hu':X.A.in1.units+8<cLine:=by show X.A.units+1+8<cLine;omega
 rcases hq with hq|hq
 ·obtain⟨its,r,pl,hz⟩:=I.list hq;have hi:=iX I ds8 hds r;refine SeqAt.in_listAt _ pl.isList (fun w hw=>ow d8 hu' hd hi ds8 w (by simpa using hw)) ⟨.bl _,H,I,rfl,?_⟩;rw[qA,kU d8 hi ds8];exact q
 ·obtain⟨its,r,pl,hz⟩:=I.tuple hq;have hi:=iX I ds8 hds r;refine SeqAt.in_tupleAt _ pl (fun w hw=>ow d8 hu' hd hi ds8 w (by simpa using hw)) ⟨.bl _,H,I,rfl,?_⟩;rw[qA,kU d8 hi ds8];exact q
theorem fK(hu:X.A.units+16<cLine):jH X (cP .NotIn) (lK X.K true):=by
 intro J3 s σ H x y v u Q I rx ry h;obtain⟨d,ds,p,xs,hx,rfl,hq,hds,d8,ds8,q⟩:=h;cases ry;have hd:=fm I 8 d8 hx rx;have hu':X.A.in1.units+8<cLine:=by show X.A.units+1+8<cLine;omega
 rcases hq with hq|hq
 ·obtain⟨its,r,pl,hz⟩:=I.list hq;have hi:=iX I ds8 hds r;refine SeqAt.notIn_listAt _ pl.isList (fun w hw=>ow d8 hu' hd hi ds8 w (by simpa using hw)) ⟨.bl _,H,I,rfl,?_⟩;rw[qA,kU d8 hi ds8];exact q
 ·obtain⟨its,r,pl,hz⟩:=I.tuple hq;have hi:=iX I ds8 hds r;refine SeqAt.notIn_tupleAt _ pl (fun w hw=>ow d8 hu' hd hi ds8 w (by simpa using hw)) ⟨.bl _,H,I,rfl,?_⟩;rw[qA,kU d8 hi ds8];exact q
end
def oC(z:Str)(lo hi:Option Int):Str:=⟨((z.cps.toList.drop (HT.sIx z.length 0 lo)).take (HT.sIx z.length z.length hi-HT.sIx z.length 0 lo)).toArray⟩
theorem sliceRange_one(a b:Nat):sliceRange (a:Int) (b:Int) 1=(jb (b-a)).map (fun k=>a+k):=by
 unfold sliceRange;simp only[show(1:Int) > 0 from by decide,if_true];by_cases h:(a:Int)<(b:Int)
 ·have e:(if(a:Int)<(b:Int)then((b:Int)-a+1-1) / 1 else 0).toNat=b-a:=by rw[if_pos h];omega
  rw[e];exact lg fun k _=>by omega
 ·have e:(if(a:Int)<(b:Int)then((b:Int)-a+1-1) / 1 else 0).toNat=b-a:=by rw[if_neg h];omega
  rw[e];exact lg fun k _=>by omega
theorem tU(v:Option Int)(n d:Nat):(match v with|none=>(d:Int)|some i=>max 0 (min (if i<0 then i+(n:Int)else i) (n:Int)))=((HT.sIx n d v:Nat):Int):=by
 cases v with
 |none=>rfl
 |some i =>
  rw[<-HT.clip_eq i n d];dsimp only;by_cases h:i<0
  ·rw[if_pos h,if_pos h];omega
  ·rw[if_neg h,if_neg h];omega
theorem kA(lo hi:Option Int)(n:Nat):nG lo hi 1 n=(jb (HT.sIx n n hi-HT.sIx n 0 lo)).map (fun k=>HT.sIx n 0 lo+k):=by
 have e1:=tU lo n 0;have e2:=tU hi n n;rw[<-sliceRange_one,<-e1,<-e2];unfold nG;simp only[show(1:Int) > 0 from by decide,if_true];cases lo<;>cases hi<;>rfl
theorem wo(z:Str)(lo hi:Option Int):Txt.slice z lo hi=oC z lo hi:=by
 have ha:HT.sIx z.length 0 lo<=z.length:=HT.sIx_le _ _ (cM _) _;have hb:HT.sIx z.length z.length hi<=z.length:=HT.sIx_le _ _ (az _) _;have hlen:z.cps.toList.length=z.length:=by simp[Str.length]
 have pick:(nG lo hi 1 z.length).filterMap (z.cps[·]?)=(z.cps.toList.drop (HT.sIx z.length 0 lo)).take (HT.sIx z.length z.length hi-HT.sIx z.length 0 lo):=by
  rw[kA];generalize HT.sIx z.length 0 lo=a at *;generalize HT.sIx z.length z.length hi=b at *;have h:=StrLaws.picks z.cps.toList (b-a) a (by omega);simpa using h
 unfold Txt.slice;by_cases h:((1:Int)==1 && (nG lo hi 1 z.length).length==z.length)=true
 ·rw[if_pos h];have hl:(nG lo hi 1 z.length).length=z.length:=by simpa using h
  rw[kA,af,List.length_range]at hl;unfold oC;have a0:HT.sIx z.length 0 lo=0:=by omega
  have bn:HT.sIx z.length z.length hi-HT.sIx z.length 0 lo=z.cps.toList.length:=by omega
  rw[bn,a0,nF,aU]
 ·rw[if_neg h];unfold oC;rw[pick]
section
variable{X:Cx}
def zA:V->Option Int->Option Int->Hp->VK->Prop:=fun x lo hi H Q=>∃z,x=.str z/\z.length<=aj/\Q (.str (oC z lo hi)) H
theorem uE:SlR X zA:=by
 intro J3 s σ H x v vl vu lo hi sl Q I rx hs pl pu h;obtain⟨z,rfl,hz,q⟩:=h;obtain⟨t,rfl⟩:=rx;rw[<-wo]at q;refine⟨"str",_,F.slot_str_getitem.lookup,qF _ _ _,?_⟩;obtain⟨o,ho,hc,hd⟩:=hs;have fin:∀(l u:Option (Int×Tok)),vl=partValue l->vu=partValue u->lo=l.map (·.1)->hi=u.map (·.1)->wpAny (model X.prog X.w) X.A (jq (.str z t) (.ref sl)) (EP X J3 σ Q) X.xe s:=by
  rintro l u rfl rfl rfl rfl;refine wpAny_getItem_str_slice (l:=l) (u:=u) (st:=none) ⟨o,ho,hc,hd⟩ rfl (post_val_or_str ⟨aO (Txt.slice_le z _ _) hz,fun t' k=>⟨.str _,H,I.tok _,⟨_,rfl⟩,q⟩⟩)
 cases pl with
 |none =>
  cases pu with
  |none=>exact fin none none rfl rfl rfl rfl
  |int j u=>exact fin none (some (j,u)) rfl rfl rfl rfl
 |int i t' =>
  cases pu with
  |none=>exact fin (some (i,t')) none rfl rfl rfl rfl
  |int j u=>exact fin (some (i,t')) (some (j,u)) rfl rfl rfl rfl
def Ad(K:Za):V->List V->Hp->VK->Prop:=fun x vs H Q=>∃z p ys,x=.str z/\vs=[.ref p]/\av K H p (ys.map V.str)/\(ys.map (·.length)).sum+ys.length * z.length<=16777216/\Q (.str (qz z ys)) H
theorem zb{ys:Zb}:∀{us:Zf},aL (ys.map V.str) us->jm us ys:=by
 induction ys with
 |nil=>intro us r;cases r;exact .nil
 |cons y ys ih =>
  intro us r;cases r with
  |cons r1 r2 =>
   obtain⟨t,rfl⟩:=r1;exact .cons _ _ (ih r2)
theorem zQ:Bl X "str.join" (Ad X.K):=by
 intro J3 s σ H x vs v us Q I rx rv h;obtain⟨z,p,ys,rfl,rfl,hq,hz,q⟩:=h;obtain⟨t,rfl⟩:=rx;obtain⟨u,rfl,ru⟩:=rv.one;cases ru;obtain⟨its,r,pl,_⟩:=I.list hq;exact join_list pl.isList (by simpa using zb r) hz fun t' k=>⟨.str _,H,I.tok _,⟨_,rfl⟩,q⟩
end
section
variable{X:Cx}
theorem yM{bs:List Bool}{us:Zf}(r:aL (bs.map V.bl) us){i:Nat}{v:Value}(h:us[i]?=some v):v=.bool ((bs[i]?).getD false)/\i<bs.length:=by
 have hi:i<us.length:=(bN.mp h).1;have hl:=r.length;rw[af]at hl;have hb:i<bs.length:=by omega
 obtain⟨u,hu,ru⟩:=r.get (i:=i) (x:=V.bl bs[i]) (by simp[hb]);rw[h]at hu;cases hu;refine⟨?_,hb⟩;rw[nE hb];exact ru
theorem r9(bs:List Bool):((jb bs.length).all fun i=>(bs[i]?).getD false)=bs.all id:=by
 induction bs with
 |nil=>rfl
 |cons b bs ih =>
  rw[eT,List.range_succ_eq_map,nD,nC,nD,<-ih]
  rfl
theorem r8(bs:List Bool):((jb bs.length).any fun i=>(bs[i]?).getD false)=bs.any id:=by
 induction bs with
 |nil=>rfl
 |cons b bs ih =>
  rw[eT,List.range_succ_eq_map,iu,List.any_map,iu,<-ih]
  rfl
theorem mz(hc:X.calm=true):d7 X (.builtin "all") (fun xs H Q=>∃(p:Addr) (bs:List Bool),xs=[.ref p]/\av X.K H p (bs.map V.bl)/\Q (.bl (bs.all id)) H):=by
 intro J3 s σ H xs us Q I r h;obtain⟨p,bs,rfl,hq,q⟩:=h;obtain⟨u,rfl,ru⟩:=vals1 r;cases ru;obtain⟨its,rv,pl,hz⟩:=I.list hq;obtain⟨o,n,ho,_⟩:=id pl;have hl:=rv.length;rw[af]at hl;refine call_all_walk (sE pl.isList ?_);refine⟨s.heap.objs.size,_,_,_,_,_,fun i=>(bs[i]?).getD false,rfl,Walks.list (prog:=X.prog) (w:=X.w) (A:=X.A.in1) (I.ok.hd hc) s.heap.objs.size p (bD (aP ho)) its.toArray,⟨⟨_,cO _ rfl,rfl,rfl⟩,pl.isList.push _⟩,?_,?_⟩
 ·intro i v s' Q' E' hv hq';obtain⟨e,_⟩:=yM rv (i:=i) (v:=v) (by simpa using hv);rw[e];exact mj hq'
 ·intro h' tk hk;have I':Inv X J3 σ H { s with heap:=h',toks:=tk }:=I.kept fun b o e=>hk b o (by simp;exact bD (aP e)) (bj _ e);rw[bw,<-hl,r9];exact⟨.bl _,H,I',rfl,q⟩
theorem tW(hc:X.calm=true):d7 X (.builtin "any") (fun xs H Q=>∃(p:Addr) (bs:List Bool),xs=[.ref p]/\av X.K H p (bs.map V.bl)/\Q (.bl (bs.any id)) H):=by
 intro J3 s σ H xs us Q I r h;obtain⟨p,bs,rfl,hq,q⟩:=h;obtain⟨u,rfl,ru⟩:=vals1 r;cases ru;obtain⟨its,rv,pl,hz⟩:=I.list hq;obtain⟨o,n,ho,_⟩:=id pl;have hl:=rv.length;rw[af]at hl;refine call_any_walk (sE pl.isList ?_);refine⟨s.heap.objs.size,_,_,_,_,_,fun i=>(bs[i]?).getD false,rfl,Walks.list (prog:=X.prog) (w:=X.w) (A:=X.A.in1) (I.ok.hd hc) s.heap.objs.size p (bD (aP ho)) its.toArray,⟨⟨_,cO _ rfl,rfl,rfl⟩,pl.isList.push _⟩,?_,?_⟩
 ·intro i v s' Q' E' hv hq';obtain⟨e,_⟩:=yM rv (i:=i) (v:=v) (by simpa using hv);rw[e];exact mj hq'
 ·intro h' tk hk;have I':Inv X J3 σ H { s with heap:=h',toks:=tk }:=I.kept fun b o e=>hk b o (by simp;exact bD (aP e)) (bj _ e);rw[bw,<-hl,r8];exact⟨.bl _,H,I',rfl,q⟩
theorem uQ:jH X (cP .In) (fun x y H Q=>∃c j,x=.str ⟨#[c]⟩/\y=.str j/\Q (.bl (decide (c∈j.cps.toList))) H):=by
 intro J3 s σ H x y v u Q I rx ry h;obtain⟨c,j,rfl,rfl,q⟩:=h;rw[<-StrLaws.found_one]at q;exact wz J3 s σ H _ _ v u Q I rx ry ⟨_,_,rfl,rfl,q⟩
theorem oK(hc:X.calm=true):d7 X (.type "list") (fun xs H Q=>∃(d:Addr) (kvs:List (dA×V)),xs=[.ref d]/\Rd H d (.dK kvs)/\∀l,H l=none->Q (.ref l) (upd H l (.lst (kvs.map fun kv=>kV kv.1)))):=by
 intro J3 s σ H xs us Q I r h;obtain⟨d,kvs,rfl,hd,q⟩:=h;obtain⟨u,rfl,ru⟩:=vals1 r;cases ru;obtain⟨z,hsys,vs,rel,dd⟩:=mw I.hok hd;obtain⟨ep,hat⟩:=dd.dictAt;have hl:=rel.length;refine PySem.W.kdl_call (PySem.W.kdl_dict (knd:=bG X.prog X.w) (kvs:=vs) (ep:=ep) hsys) (I.ok.hd hc) hat (by rw[<-hl];exact z) fun h' tk acc c hk hD hacc=>?_;have hv:aL (kvs.map fun kv=>kV kv.1) acc.toList:=by
  obtain⟨hn,hP⟩:=hacc;have key:∀(a:Zf) (ks:List (dA×V)) (ws:List (dA×Value)),KV ks ws->a.length=ws.length->(∀(j:Nat) (v:Value),a[j]?=some v->∃k x,ws[j]?=some (k,x)/\(bG X.prog X.w).is k v=true)->aL (ks.map fun kv=>kV kv.1) a:=by
   intro a ks ws rl
   induction rl generalizing a with
   |nil=>intro ha _;cases a with
    |nil=>exact .nil
    |cons _ _=>cases ha
   |@cons p w' ps ws' hp _ ih =>
    intro ha hj;cases a with
    |nil=>cases ha
    |cons v a =>
     obtain⟨k,x,e,hk⟩:=hj 0 v rfl;have e':w'=(k,x):=by simpa using e
     refine .cons ?_ (ih a (by simpa using ha) fun j v hv=>by simpa using hj (j+1) v (by simpa using hv));have ek:p.1=k:=by rw[hp.1,e']
     show RelV (kV p.1) v;rw[ek];rcases ap (show bY k v=true from hk)with⟨i,t,rfl,rfl⟩|⟨i,t,rfl,rfl⟩
     ·exact⟨t,rfl⟩
     ·exact⟨t,rfl⟩
  exact key acc.toList kvs vs rel (by rw[gf];exact hn) fun j v hv=>hP j v (by rw[<-lq];exact hv)
 refine⟨.ref s.heap.objs.size,_,I.laid (o:=.lst (kvs.map fun kv=>kV kv.1)) hk (az _) ⟨by rw[af];exact z,acc.toList,c,hv,by rw[Array.toArray_toList];exact hD⟩,rfl,q _ I.fresh⟩
end
section
variable{prog:bm}{w:World}{K:Type}[DecidableEq K]{knd:HeapKind prog w K}{A:Around}{E:Zc}{s:Shared}
theorem nL{d a:Addr}{xs:List (K×Addr×Value)}{k:K}{v:Value}{Q:Zc}(hu:knd.room A)(hkey:knd.is s.heap k a)(hm:s.heap.DictOfH knd d xs)
  (there:∀p,atKey xs k=some p->Q p.2 { s with toks:=s.toks+knd.draws k })
  (new:atKey xs k=none->∀h',h'.DictOfH knd d (xs++[(k,a,v)])->ig d s.heap h'->Q v { s with heap:=h',toks:=s.toks+knd.draws k })
  (hsz:xs.length<=aj):wpAny (model prog w) A (dictSetDefault d (.ref a) v) Q E s:=by
 obtain⟨o,es,ep,ho,hc,hd,he,his,hn⟩:=hm;unfold dictSetDefault
 try with_reducible refine ik ?_
 refine ak (knd.pyHash hu hkey ?_);refine ak (wpAny_dictFind_heap (s:={ s with toks:=s.toks+knd.draws k }) hu hkey ho hd he his hn ?_ ?_)
 ·intro hno;have hnot:k∉xs.map (·.1):=not_mem_keys_of_get hno;refine ak (ml (ak (wpAny_updateDictKeys (hz:=by have e:=size_of_entries he;omega) (s:={ s with toks:=s.toks+knd.draws k }) ho hd (aB (new (atKey_none_of_get hno) _ ⟨_,_,ep+1,Heap.get?_update_self _ ho (Obj.isFreed_of_dict (Obj.data_mapDictKeys hd _)),
   hc.mapDictKeys _,Obj.data_mapDictKeys hd _,?_,?_,?_⟩ (nB ..))))))
  ·simp[he,entryOfKey]
  ·intro x hx;rcases aR.mp hx with hx|hx
   ·exact knd.keeps (his x hx) ho hd (nB ..)
   ·simp only[bM]at hx;subst hx;exact knd.keeps hkey ho hd (nB ..)
  ·rw[ar,cu];refine⟨hn,by simp,?_⟩;intro x hx y hy;simp only[aY,List.map_nil,bM]at hy;subst hy;exact fun e=>hnot (e▸hx)
 ·intro j p hj;refine ak (qy (s:={ s with toks:=s.toks+knd.draws k }) ho hd ?_);rw[entry_at he j,hj];exact ak (ml (aB (there p (atKey_of_get hn hj))))
theorem kN(knd:HeapKind prog w K)(d a:Addr)(hd:(d==fO)=false)(dflt:Value):
  MeetsIn prog w (cf.«dict.setdefault» ⟨[.ref d,.ref a,dflt],[]⟩) (fun A R s=>knd.room A.in1/\∃k xs,knd.is s.heap k a/\s.heap.DictOfH knd d xs/\xs.length<=aj /\
   (∀p,atKey xs k=some p->R (.ok (.ret p.2)) { s with toks:=s.toks+knd.draws k }) /\
   (atKey xs k=none->∀h',h'.DictOfH knd d (xs++[(k,a,dflt)])->ig d s.heap h'->R (.ok (.ret dflt)) { s with heap:=h',toks:=s.toks+knd.draws k })) :=
 .of_wp fun A R s ⟨hu,k,xs,hkey,hm,hz,h1,h2⟩=>by
  unfold cf.«dict.setdefault»;refine ak ?_;unfold cf.Dict.keyAndDefault;refine ak (wpAny_notOrdered_dict hm.typeIs ?_);show wpAny _ _ (pure (d,Value.ref a,some dflt)) _ _ s;refine aB ?_;show wpAny _ _ (if(d==fO)=true then _ else(dictSetDefault d (.ref a) dflt >>= _)) _ _ s
  rw[if_neg (by rw[hd];exact fN)];exact ak (nL hu hkey hm (fun p hp=>aB ⟨p.2,rfl,h1 p hp⟩) (fun hn h' hm' hs'=>aB ⟨dflt,rfl,h2 hn h' hm' hs'⟩) hz)
end
section
variable{X:Cx}
def vJ:V->List V->Hp->VK->Prop:=fun x vs H Q=>∃(d b:Addr) (kvs:List (TK×V)) (k:TK) (z:V),x=.ref d/\vs=[.ref b,z]/\H d=some (.dT kvs)/\fb H k (.ref b)/\k.depth<=8/\kvs.length<aj /\
 (∀v,bV kvs k=some v->Q v H)/\(bV kvs k=none->Q z (upd H d (.dT (kvs++[(k,z)]))))
theorem wB(hu:X.A.units+16<cLine):Bl X "dict.setdefault" vJ:=by
 intro J3 s σ H x vs v us Q I rx rv h;obtain⟨d,b,kvs,k,z,rfl,rfl,hd,hb,h8,hz,q1,q2⟩:=h;cases rx;obtain⟨u,v,rfl,ru,rz⟩:=rv.two;cases ru;obtain⟨_,hsys,xs,rel,dd⟩:=yu I.hok I.kIn hd;have hl:kvs.length=xs.length:=Paired.length rel;refine call_meetsIn PySem.F.slot_dict_setdefault dd.typeIs PySem.F.entry_dict_setdefault (PySem.F.args_dict_setdefault_3 _ _ _) (kN (dj X.prog X.w) d b hsys v)
  ⟨eB hu,k,xs,rF I.hok I.kIn (fb.c 8 h8 hb) h8,dd,by omega,fun p hp=>?_,fun hn h' dd' hs=>?_⟩
 ·have e:=rel.val k;rw[hp]at e;cases e2:bV kvs k with
  |none=>rw[e2]at e;exact e.elim
  |some y =>
   rw[e2]at e;exact⟨y,H,I.tok _,e,q1 y e2⟩
 ·have e:=rel.val k;rw[hn]at e;have e2:bV kvs k=none:=by
   cases e2:bV kvs k with
   |none=>rfl
   |some y=>rw[e2]at e;exact e.elim
  obtain⟨o,es,ep,hq,h2,h3,h4,_,h5⟩:=dd';refine⟨z,_,ng (ob:=.dT (kvs++[(k,z)])) I (by rw[hd];exact l_) hs ⟨o,hq⟩ ⟨by rw[aW,List.length_singleton];omega,hsys,_,KT.keeps (kvs:=kvs++[(k,z)]) (xs:=xs++[(k,b,v)]) (dW rel ⟨rfl,fb.c 8 h8 hb,h8,rz⟩) fun c ys ec=>?_,o,es,ep,hq,h2,h3,h4,h5⟩,rz,q2 e2⟩;rw[ai (yd ec hd (fun z=>nomatch z))];exact ec
end
theorem iI:entryFor table "dict.update.loop"=some cf.«dict.update.loop»:=entryFor_of_fast (by kernel_rfl)
theorem dY:plainId "dict.update.loop"=true:=by decide +kernel
theorem rq:typeLookup (.type "list") "keys"=pure none:=am_miss_of_fast (by decide +kernel)
section
variable{prog:bm}{w:World}{A:Around}{E:Zc}{s:Shared}
theorem wD{a:Addr}{o:Obj}{xs:Array Value}{k:Nat}{Q:Option Value->Shared->Prop}(hx:s.heap.get? a=some o)(hc:o.cls=.type "list")(hdat:o.data=.seq xs k)(hd:o.dict=none)(hA:A.handled=none)
  (h:∀h' tk,(∀b ob,s.heap.get? b=some ob->h'.get? b=some ob)->Q none { s with heap:=h',toks:=tk }):wpAny (model prog w) A (getAttr? (.ref a) "keys") Q E s:=by
 obtain⟨c,dct,dat,sl⟩:=o;simp only at hc hdat hd;subst hc hdat hd;obtain⟨hp,g,d,tk,os⟩:=s;have hT:∀tk',(⟨hp,g,d,tk',os⟩:Shared).TypeIs (.ref a) "list":=fun _=>⟨_,hx,rfl⟩;have f1:=sub_AttributeError;have f3:=F.slot_list_getattribute.lookup;have f4:=F.slot_list_getattribute.bind (.ref a);have f5:=am_list_getattr_none;unfold getAttr? getAttrBy? getAttrBy
 repeat (any_goals (first|assumption|exact hT _|((with_reducible show wpAny _ _ (call (Value.builtin "list.__getattribute__") _ _) _ _ _);refine qE F.slot_list_getattribute (hT _) am_entry_list_getattribute (F.args_list_getattribute_2 _ _) (meets_getattribute_miss_list a xs k sl "keys" _ rq (by decide +kernel) (by decide +kernel)) ⟨hx,hA,fun h' tk' e hx'=>?_⟩)|wp_step))
 obtain⟨t',u',he⟩:=hx'.there;show wpAny _ _ (getattributeRaised _ _ _ _ _ _ _) _ _ _;unfold getattributeRaised hookOrError attributeErrorLeaves
 repeat (any_goals (first|assumption|wp_step))
 all_goals first|exact h _ _ hx'.keeps|trace_state
def vd(h:Heap)(u:Value)(kv:dA×Value):Prop:=∃t ku,u=.ref t/\h.IsTuple t #[ku,kv.2]/\bY kv.1 ku=true
theorem uD{κ:Type}[DecidableEq κ](kvs:List (κ×Value))(k:κ)(v:Value):(stored kvs k v).length<=kvs.length+1:=by
 unfold stored;split
 ·rw[af];omega
 ·rw[aW,List.length_singleton];exact az _
theorem xh{R:Result->Shared->Prop}(hh:A.handled=none){D it l:Addr}{items:Array Value}{ps:List (dA×Value)}(hDi:D≠it)(hli:l≠it)(hlD:l≠D)(hps:ps.length=items.size):
  ∀(n i:Nat) (s:Shared) (acc:List (dA×Value)),items.size-i=n->i<=items.size->acc.length+(items.size-i)<=aj->s.heap.IsListIter it l i->s.heap.IsList l items->s.heap.DictOf (bG prog w) D acc ->
   (∀(j:Nat) (u:Value) (kv:dA×Value),items[j]?=some u->ps[j]?=some kv->vd s.heap u kv) ->
   (∀h' tk,h'.DictOf (bG prog w) D (merged acc (ps.drop i))->(∀b o,b≠D->b≠it->s.heap.get? b=some o->h'.get? b=some o)->R (.ok (.ret .none)) { s with heap:=h',toks:=tk }) ->
   zzl72 (model prog w) A (.builtin "dict.update.loop" ⟨[.ref D,.ref it,rawInt i,.none],[]⟩) R s:=by
 intro n
 induction n with
 |zero =>
  intro i s acc hn hi hz hit hl hD hp hR;have e:i=items.size:=by omega
  subst e;refine qx iI ?_;rw[qw dY _];show wpAny _ A.in1 (pyNext (.ref it) >>= _) _ _ s;refine ak (wpAny_pyNext_list_end hh hit hl (by simp) fun h' eb=>?_);show wpAny _ _ (cf.Dict.addKeywords D [] >>= _) _ _ _;refine ak (aB (aB ?_));have hD':h'.DictOf (bG prog w) D acc:=hD.extBut eb hDi;have q:=hR h' s.toks (by rw[lf (by omega)];exact hD') fun b o _ hb e=>eb b o hb e;exact q
 |succ n ih =>
  intro i s acc hn hi hz hit hl hD hp hR;have hlt:i<items.size:=by omega
  refine qx iI ?_;rw[qw dY _];show wpAny _ A.in1 (pyNext (.ref it) >>= _) _ _ s;have hu:items[i]?=some items[i]:=by simp[hlt]
  have hk:ps[i]?=some ps[i]:=nE (by omega);obtain⟨t,ku,eu,ht,hku⟩:=hp i _ _ hu hk;refine ak (wpAny_pyNext_list_item hit hl (x:=items[i]) hu fun h1 hit1 hs1=>?_);rw[eu];have hs1':ig it s.heap h1:=hs1;have nt:t≠it:=by
   rintro rfl;obtain⟨o,ho,hc,_⟩:=ht;obtain⟨o',ho',hc',_⟩:=hit;rw[ho]at ho';cases ho';rw[hc]at hc';simp at hc'
  have ht1:h1.IsTuple t #[ku,ps[i].2]:=ht.extBut hs1'.extBut nt;have hT1:Shared.TypeIs { s with heap:=h1 } (.ref t) "tuple":=ht1.typeIs (s:={ s with heap:=h1 });obtain⟨ot,got,hct,nt',hdt⟩:=id ht1;refine ak (ik ?_);refine ak (wpAny_tryCatch ?_);unfold cf.Dict.pairItems;refine ak (qv hT1 ?_);rw[if_pos (by decide)];refine ak (wpAny_seqItems got hdt (aB ?_));show wpAny _ _ (ie [ku,ps[i].2] (dictSet D ku ps[i].2)) _ _ _;have hD1:h1.DictOf (bG prog w) D acc:=hD.extBut hs1'.extBut hDi;refine ik (wpAny_dictSet_pairs (knd:=bG prog w) (k:=ps[i].1) hku hD1 (fun h2 hD2 hs2=>?_) (by omega));have hs2':ig D h1 h2:=hs2;show wpAny _ _ (again _) _ _ _;refine aB ⟨plainId_quiet dY _,?_⟩;have hl1:h1.IsList l items:=hl.extBut hs1'.extBut hli;have kp:∀b o,b≠D->b≠it->s.heap.get? b=some o->h2.get? b=some o:=fun b o h1 h2 e=>hs2'.extBut b o h1 (hs1'.extBut b o h2 e);refine ih (i+1) _ (stored acc ps[i].1 ps[i].2) (by omega) hlt (by have:=uD acc ps[i].1 ps[i].2;omega) (hit1.extBut hs2'.extBut (fw hDi)) (hl1.extBut hs2'.extBut hlD) hD2 (fun j u kv h1 h2=>?_) fun h' tk hD' kp'=>?_
  ·obtain⟨t2,ku2,e2,ht2,hk2⟩:=hp j u kv h1 h2;have n1:t2≠it:=by
    rintro rfl;obtain⟨o,ho,hc,_⟩:=ht2;obtain⟨o',ho',hc',_⟩:=hit;rw[ho]at ho';cases ho';rw[hc]at hc';simp at hc'
   have n2:t2≠D:=by
    rintro rfl;obtain⟨o,ho,hc,_⟩:=ht2;obtain⟨o',_,_,ho',hc',_⟩:=hD;rw[ho]at ho';cases ho';have:=hc'.1;rw[hc]at this;simp at this
   obtain⟨o,ho,r⟩:=ht2;exact⟨t2,ku2,e2,⟨o,kp _ o n2 n1 ho,r⟩,hk2⟩
  ·refine hR h' tk ?_ fun b o h1 h2 e=>kp' b o h1 h2 (kp b o h1 h2 e);have ed:ps.drop i=ps[i]::ps.drop (i+1):=List.drop_eq_getElem_cons (by omega);rw[ed];exact hD'
theorem mO{l:Addr}{o:Obj}{items:Array Value}{n:Nat}{ps:List (dA×Value)}{Q:Zc}(hh:A.handled=none)(ho:s.heap.get? l=some o)(hc:o.cls=.type "list")(hdt:o.data=.seq items n)(hod:o.dict=none)
  (hps:ps.length=items.size) (hp:∀(j:Nat) (u:Value) (kv:dA×Value),items[j]?=some u->ps[j]?=some kv->vd s.heap u kv) (hz:items.size<=aj)
  (h:∀h' tk,h'.DictOf (bG prog w) s.heap.objs.size (merged [] ps)->(∀b o,s.heap.get? b=some o->h'.get? b=some o)->Q (.ref s.heap.objs.size) { s with heap:=h',toks:=tk }) :
  wpAny (model prog w) A (call (.type "dict") [.ref l]) Q E s:=by
 refine callType_codes (Q₁:=fun obj s₁=>obj=.ref s.heap.objs.size/\s₁={ s with heap:=s.heap.push { cls:=.type "dict",data:=.dict #[] } }) F.kt_called_dict (F.kt_typeCall_dict_1 _) F.entry_dict_init (kt_code_dict_new _ ⟨rfl,rfl⟩) ?_;rintro obj s₁ ⟨rfl,rfl⟩;have hnew:(s.heap.push { cls:=.type "dict",data:=.dict #[] }).DictOf (bG prog w) s.heap.objs.size []:=Heap.DictOf.new s.heap;have ho1:(s.heap.push { cls:=.type "dict",data:=.dict #[] }).get? l=some o:=bj _ ho;have hlt:l<s.heap.objs.size:=aP ho;refine⟨hnew.typeIs,F.args_dict_init_2 _ _,?_⟩;unfold cf.«dict.__init__»;refine ak ?_;unfold cf.Dict.selfAndRest;refine ak (wpAny_notOrdered_dict hnew.typeIs ?_);show wpAny _ _ (pure (s.heap.objs.size,[Value.ref l])) _ _ _;refine aB ?_;show wpAny _ _ (cf.Dict.updateFrom "dict.__init__" s.heap.objs.size (.ref l) [] .none) _ _ _;unfold cf.Dict.updateFrom;have hTl:Shared.TypeIs { s with heap:=s.heap.push { cls:=.type "dict",data:=.dict #[] } } (.ref l) "list":=⟨o,ho1,hc⟩;refine ak (qv hTl ?_);rw[if_pos (by decide)];refine ak (wD ho1 hc hdt hod hh fun h1 tk1 k1=>?_);have k1':∀b ob,(s.heap.push { cls:=.type "dict",data:=.dict #[] }).get? b=some ob->h1.get? b=some ob:=k1;rw[if_pos (by rfl:(none:Option Value).isNone=true)];refine ak (ml ?_);have hl1:h1.IsList l items:=⟨o,k1' _ _ ho1,hc,n,hdt⟩;refine ak (sE (s:={ s with heap:=h1,toks:=tk1 }) hl1 ?_);have hD1:h1.DictOf (bG prog w) s.heap.objs.size []:=by
  obtain⟨od,es,ep,g,r⟩:=hnew;exact⟨od,es,ep,k1' _ _ g,r⟩
 have hDlt:s.heap.objs.size<h1.objs.size:=by
  obtain⟨od,es,ep,g,r⟩:=hD1;exact aP g
 refine aB ⟨plainId_quiet dY _,?_⟩;refine xh (A:=A.in1) (prog:=prog) (w:=w) hh (D:=s.heap.objs.size) (it:=h1.objs.size) (l:=l) (items:=items) (ps:=ps) (bD hDlt) (bD (Nat.lt_trans hlt hDlt)) (bD hlt) hps items.size 0 _ [] (qt _) (cM _) (by rw[List.length_nil];omega)
  ⟨_,cO _ rfl,rfl,rfl⟩ (hl1.push _) (hD1.push _) (fun j u kv a b=>?_) fun h' tk hD' kp=>?_
 ·obtain⟨t,ku,e,ht,hk⟩:=hp j u kv a b;obtain⟨ot,g,r⟩:=ht;exact⟨t,ku,e,⟨ot,bj _ (k1' _ _ (bj _ g)),r⟩,hk⟩
 ·rw[nF]at hD';refine⟨rfl,h h' tk hD' fun b ob e=>kp b ob (bD (aP e)) (bD (Nat.lt_trans (aP e) hDlt)) (bj _ (k1' _ _ (bj _ e)))⟩
end
section
variable{X:Cx}
theorem rX(hc:X.calm=true):d7 X (.type "dict") (fun xs H Q=>∃(l:Addr) (ts:Ze) (kvs:List (dA×V)),xs=[.ref l]/\av X.K H l (ts.map V.ref)/\ts.length=kvs.length /\
  (∀(j:Nat) (t:Addr) (kv:dA×V),ts[j]?=some t->kvs[j]?=some kv->H t=some (.tup [kV kv.1,kv.2]))/\∀p,H p=none->Q (.ref p) (upd H p (.dK (gA [] kvs)))):=by
 intro J3 s σ H xs us Q I r h;obtain⟨l,ts,kvs,rfl,hl,hlen,ht,q⟩:=h;obtain⟨u,rfl,ru⟩:=vals1 r;cases ru;obtain⟨its,rv,⟨o,n,ho,hcl,hod,hdt⟩,hz⟩:=I.list hl;have key:∀(ts:Ze) (kvs:List (dA×V)),ts.length=kvs.length->(∀(j:Nat) (t:Addr) (kv:dA×V),ts[j]?=some t->kvs[j]?=some kv->H t=some (.tup [kV kv.1,kv.2]))->∃ps:List (dA×Value),KV kvs ps/\∀(j:Nat) (t:Addr) (kv:dA×Value),ts[j]?=some t->ps[j]?=some kv->vd s.heap (.ref t) kv:=by
  intro ts
  induction ts with
  |nil =>
   intro kvs hl _;cases kvs with
   |nil=>exact⟨[],.nil,fun j t kv e=>by simp at e⟩
   |cons _ _=>cases hl
  |cons t ts ih =>
   intro kvs hl ht;cases kvs with
   |nil=>cases hl
   |cons kv kvs =>
    obtain⟨ps,r1,r2⟩:=ih kvs (by simpa using hl) fun j t' kv' a b=>ht (j+1) t' kv' (by simpa using a) (by simpa using b);obtain⟨_,itt,rt,p⟩:=(show cj X.prog X.w X.K H s.heap t (.tup [kV kv.1,kv.2])from I.hok t _ (ht 0 t kv rfl rfl));obtain⟨a,b,e,ra,rb⟩:=rt.two;subst e;refine⟨(kv.1,b)::ps,.cons ⟨rfl,rb⟩ r1,fun j t' kv' h1 h2=>?_⟩;cases j with
    |zero =>
     simp at h1 h2;subst h1 h2;exact⟨t,a,rfl,p,mo (P:=X.prog) (w:=X.w) ra⟩
    |succ j=>exact r2 j t' kv' (by simpa using h1) (by simpa using h2)
 obtain⟨ps,rel,pa⟩:=key ts kvs hlen ht;have hl1:=rv.length;rw[af]at hl1;have hl2:=rel.length;refine mO (prog:=X.prog) (w:=X.w) (ps:=ps) (I.ok.hd hc) ho hcl hdt hod (by rw[bw];omega) (fun j u kv a b=>?_) (by rw[bw,<-hl1];rw[af]at hz;exact hz) fun h' tk hD kp=>?_
 ·have a':its[j]?=some u:=by simpa using a
  have hj:j<ts.length:=by
   have:=(bN.mp a').1;omega
  obtain⟨u',e1,r1⟩:=rv.get (i:=j) (x:=V.ref ts[j]) (by simp[hj]);rw[a']at e1;cases e1;cases(show u=Value.ref ts[j]from r1);exact pa j ts[j] kv (by simp[hj]) b
 ·have hm:(gA [] kvs).length<=aj:=by
   have h1:=jf kvs [];rw[List.length_nil]at h1;rw[af]at hz;omega
  exact⟨.ref s.heap.objs.size,_,I.laid (o:=.dK (gA [] kvs)) kp (az _) (yz hm (beq_eq_false_iff_ne.mpr (fw (bD I.big))) (rel.merge .nil) hD),rfl,q _ I.fresh⟩
end
abbrev cK:R2:=w8 fun i j=>.int (i+j)
abbrev iA:R2:=rI yV fun i j=>.int (i * j)
abbrev gk:R2:=rI (fun _ j=>0<j) fun i j=>.int (i % j)
abbrev xO:R2:=rI Bq fun i j=>.int (i / j)
abbrev Ac:R2:=rI Bp fun i j=>.int (i ^ j.toNat)
abbrev Ax:R2:=w8 fun i j=>.bl (decide (i<j))
abbrev rLeI:R2:=w8 fun i j=>.bl (decide (i<=j))
abbrev Ay:R2:=w8 fun i j=>.bl (decide (j<i))
abbrev rGeI:R2:=w8 fun i j=>.bl (decide (j<=i))
abbrev Ae:R2:=fun x y H Q=>∃i j,x=.str i/\y=.str j/\i.length+j.length<=aj/\Q (.str (i++j)) H
abbrev rInS:R2:=fun x y H Q=>∃c j,x=.str ⟨#[c]⟩/\y=.str j/\Q (.bl (decide (c∈j.cps.toList))) H
abbrev A_(K:Za):List V->Hp->VK->Prop:=fun xs H Q=>∃(p:Addr) (bs:List Bool),xs=[.ref p]/\av K H p (bs.map V.bl)/\Q (.bl (bs.all id)) H
abbrev rAny(K:Za):List V->Hp->VK->Prop:=fun xs H Q=>∃(p:Addr) (bs:List Bool),xs=[.ref p]/\av K H p (bs.map V.bl)/\Q (.bl (bs.any id)) H
abbrev tt(K:Za):List V->Hp->VK->Prop:=fun xs H Q=>∃p ys,xs=[.ref p]/\((av K H p ys/\∀l,H l=none->Q (.ref l) (upd H l (.tup ys)))∨(bp K H p ys/\Q (.ref p) H))
abbrev zB(K:Za):List V->Hp->VK->Prop:=fun xs H Q=>∃(l:Addr) (ts:Ze) (kvs:List (dA×V)),xs=[.ref l]/\av K H l (ts.map V.ref)/\ts.length=kvs.length /\
  (∀(j:Nat) (t:Addr) (kv:dA×V),ts[j]?=some t->kvs[j]?=some kv->H t=some (.tup [kV kv.1,kv.2]))/\∀p,H p=none->Q (.ref p) (upd H p (.dK (gA [] kvs)))
abbrev bO(K:Za):List V->Hp->VK->Prop:=fun xs H Q =>
 (∃p ys,xs=[.ref p]/\(av K H p ys∨bp K H p ys)/\∀l,H l=none->Q (.ref l) (upd H l (.lst ys))) ∨
 (∃(d:Addr) (kvs:List (dA×V)),xs=[.ref d]/\Rd H d (.dK kvs)/\∀l,H l=none->Q (.ref l) (upd H l (.lst (kvs.map fun kv=>kV kv.1))))
abbrev gd(K:Za):List V->Hp->VK->Prop:=fun xs H Q =>
 (∃p ys,xs=[.ref p]/\(av K H p ys∨bp K H p ys)/\Q (.int ys.length) H)∨(∃z,xs=[.str z]/\z.length<=aj/\Q (.int z.length) H)
theorem va:jZ "list"=some (.type "list"):=by decide +kernel
theorem e_:jZ "tuple"=some (.type "tuple"):=by decide +kernel
theorem vb:jZ "dict"=some (.type "dict"):=by decide +kernel
section
variable{X:Cx}{p pos:Pos}
theorem wT:d7 X (.builtin "len") (gd X.K):=rW.or rV
theorem u_(hc:X.calm=true):d7 X (.type "list") (bO X.K):=rU.or (oK hc)
end
def Gc(mg:Str->Option Value)(x:Str)(v:V):Prop:=∃u,mg x=some u/\RelV v u
theorem hU{X:Cx}{x:Str}{v:V}{pos:Pos}(hg:Gl X x)(h:Gc X.mg x v)(hd:(x==("__debug__":Str))=false:=by decide):PE X (.Name x pos) (tC v):=by
 obtain⟨u,hm,r⟩:=h;exact zH hg hm r hd
structure Def(P:bm)(w:World)(K:Za)(mg:Str->Option Value)(base:Heap)(x:Str)(ps:Zb)(k:Nat)(sp:Sp):Prop where
 ex:∃f fd,i_ P w K mg base CX0 k f fd ps sp/\mg x=some (.ref f)/\gF K (.ref f)=true/\Binds K fd ps []
structure New(P:bm)(w:World)(K:Za)(mg:Str->Option Value)(base:Heap)(x:Str)(C:Addr)(ps:Zb)(k:Nat)(sp:Sp):Prop where
 ex:∃f fd,i_ P w K mg base CX0 k f fd ps sp/\mg x=some (.ref C)/\Mk K C f/\Binds K fd ps []
structure xa(P:bm)(w:World)(K:Za)(mg:Str->Option Value)(base:Heap)(C:Addr)(m:Str)(ps:Zb)(k:Nat)(sp:Sp):Prop where
 ex:∃f fd,i_ P w K mg base CX0 k f fd ps sp/\xb K C/\z6 K C m f/\Binds K fd ps []
section
variable{X:Cx}{k:Nat}{ps:Zb}{sp:Sp}{x m:Str}{C:Addr}{p pos J5:Pos}{o e:Expr}{es:List Expr}{t:TA}{ta:TE}
theorem Bb(D:Def X.prog X.w X.K X.mg X.base x ps k sp)(hr:c_ k X.A)(hg:Gl X x)(ha:PA X (e::es) t)(hdb:(x==("__debug__":Str))=false:=by decide)
  (he:aA (e::es) X.env=(false,eval e X.env)::aA es X.env:=by rfl) (hpl:(backTo pos (aA es X.env)).any (·.1)=false:=by rfl) :
  PE X (.Call (.Name x p) (e::es) [] pos) (aG sp t):=by
 obtain⟨f,fd,F,hm,hk,hb⟩:=D.ex;exact zK F hr hg hm hk hb .nil vP ha hdb he hpl
theorem AG(D:New X.prog X.w X.K X.mg X.base x C ps k sp)(hr:c_ (k+1) X.A)(hg:Gl X x)(ha:PA X (e::es) t)(hdb:(x==("__debug__":Str))=false:=by decide)
  (he:aA (e::es) X.env=(false,eval e X.env)::aA es X.env:=by rfl) (hpl:(backTo pos (aA es X.env)).any (·.1)=false:=by rfl) :
  PE X (.Call (.Name x p) (e::es) [] pos) (xw C sp [] E0 t):=by
 obtain⟨f,fd,F,hm,M,hb⟩:=D.ex;exact zG M F hr hg hm hb .nil vP ha hdb he hpl
theorem AH{pl:Sem Bool}(M:xa X.prog X.w X.K X.mg X.base C m ps k sp)(hr:c_ k X.A)(he:PE X o ta)(ha:PA X (e::es) t)
  (hst:aA (e::es) X.env=(false,eval e X.env)::aA es X.env:=by rfl) (hpl:(backTo pos (aA es X.env)).any (·.1)=false:=by rfl)
  (ht:eval (.Call (.Attribute o m J5) (e::es) [] pos) X.env=(do
   let ov <- eval o X.env
   mh J5.atName
   let(f,first) <- ie [ov] (ma ov m pl)
   pG pos f first (backTo pos (aA (e::es) X.env)) (jW pos (jV [] X.env))):=by rfl) :
  PE X (.Call (.Attribute o m J5) (e::es) [] pos) (fy C m sp [] E0 ta t):=by
 obtain⟨f,fd,F,c,hm,hb⟩:=M.ex;exact zF he c hm F hr hb .nil vP ha hst hpl ht
theorem zE{pl:Sem Bool}(M:xa X.prog X.w X.K X.mg X.base C m ps k sp)(hr:c_ k X.A)(he:PE X o ta)
  (ht:eval (.Call (.Attribute o m J5) [] [] pos) X.env=(do
   let ov <- eval o X.env
   mh J5.atName
   let(f,first) <- ie [ov] (ma ov m pl)
   pG pos f first (backTo pos (aA [] X.env)) (jW pos (jV [] X.env))):=by rfl) :
  PE X (.Call (.Attribute o m J5) [] [] pos) (fy C m sp [] E0 ta bA):=by
 obtain⟨f,fd,F,c,hm,hb⟩:=M.ex;exact xT he c hm F hr hb .nil vP ht
end
def Bg(K:Za)(tl:TE):TI:=fun σ H R=>tl σ H fun x H1=>∃a,x=.ref a/\(((∃xs,av K H1 a xs)/\R (yY K a) H1)∨((∃xs,bp K H1 a xs)/\R (AX K a) H1))
theorem AD{X:Cx}{tg l:Expr}{tl:TE}(hl:PE X l tl):PI X tg l (Bg X.K tl):=by
 intro J3 s σ H R I h;refine bU (hl J3 s σ H _ I h) fun v s1 zq0=>?_;obtain⟨x,H1,I1,r1,q1⟩:=zq0;obtain⟨a,e,q⟩:=q1;subst e;cases r1;have fin:∀b∈[s1.heap.objs.size],kY X J3 H1 b:=fun b hb=>by
  have e:b=s1.heap.objs.size:=by simpa using hb
  subst e;exact I1.fpOk (az _) (I1.hok.fresh (az _))
 rcases q with⟨⟨xs,hq⟩,q⟩|⟨⟨xs,hq⟩,q⟩
 ·obtain⟨its,rv,p,hz⟩:=I1.list hq;refine sE p.isList ?_;exact⟨s1.heap.objs.size,[s1.heap.objs.size],_,_,H1,rfl,I1.kept (t':=s1.toks) fun b o e=>bj _ e,pQ a _,⟨_,cO _ rfl,rfl,rfl⟩,fin,q⟩
 ·obtain⟨its,rv,p,hz⟩:=I1.tuple hq;refine wpAny_pyIter_tuple p ?_;exact⟨s1.heap.objs.size,[s1.heap.objs.size],_,_,H1,rfl,I1.kept (t':=s1.toks) fun b o e=>bj _ e,nN a _,⟨_,cO _ rfl,rfl,rfl⟩,fin,q⟩
theorem iH{K:Za}{a:Addr}{xs:List V}{g:TG}{tb:TS}{D:mV}{σ:St}{H:Hp}(Pv:Nat->St->Hp->Prop)(h0:Pv 0 σ H)(hl:∀i σ H,i<=xs.length->Pv i σ H->av K H a xs)
  (hs:∀i x σ H p,xs[i]?=some x->Pv i σ H->H p=none->g (.ref p) σ (upd H p (.tup [.int i,x])) fun σ2 H2=>tb { D with nx:=Pv (i+1),ct:=Pv (i+1),bk:=D.nx } σ2 H2) (hd:∀σ H,Pv xs.length σ H->D.nx σ H) :
  ∃W:Nat->Nat->St->Hp->Prop,(∃m,W 0 m σ H)/\∀i m σ H,W i m σ H ->
   ((Bm K a).stop i H/\D.nx σ H)∨((Bm K a).go i H/\∃N:St->Hp->Prop,(∀σ' H',N σ' H'->∃m',m'<m/\W (i+1) m' σ' H')/\∀x H',(Bm K a).yld i H x H'->g x σ H' fun σ2 H2=>tb { D with nx:=N,ct:=N,bk:=D.nx } σ2 H2):=by
 refine⟨fun i m σ H=>m=xs.length-i/\i<=xs.length/\Pv i σ H,⟨xs.length,by simp,cM _,h0⟩,?_⟩;rintro i m σ H ⟨rfl,hi,p⟩;have q:=hl i σ H hi p;by_cases hlt:i<xs.length
 ·refine .inr ⟨⟨xs,xs[i],q,by simp[hlt]⟩,Pv (i+1),fun σ' H' p'=>⟨xs.length-(i+1),by omega,rfl,hlt,p'⟩,fun x H' y=>?_⟩;obtain⟨t,v,rfl,hn,hv,rfl⟩:=y;exact hs i v σ H t (hv xs q) p hn
 ·have e:i=xs.length:=by omega
  subst e;exact .inl ⟨⟨xs,q,az _⟩,hd σ H p⟩
def Wc(n:Nat)(Pv:Nat->List V->Hp->Prop):Nat->Nat->List V->Hp->Prop:=fun i m vs H=>m=n-i/\i<=n/\Pv i vs H
theorem je{n i:Nat}{Pv:Nat->List V->Hp->Prop}{vs:List V}{H:Hp}(hi:i<n)(p:Pv (i+1) vs H):∃m',m'<n-i/\Wc n Pv (i+1) m' vs H:=⟨n-(i+1),by omega,rfl,hi,p⟩
abbrev fe(k:Nat)(fi:List Nat)(σ:St)(J:It)(g:TG)(tc:TT)(te:TE)(H1:Hp)(l:Addr)(Q:Hp->Prop):Prop :=
 ∃W:Nat->Nat->List V->Hp->Prop,(∃m,W 0 m [] (upd H1 l (.lst [])))/\∀i m vs H2,W i m vs H2->H2 l=some (.lst vs) /\
  ((J.stop i H2/\Q H2)∨(J.go i H2/\∀x H3,J.yld i H2 x H3->g x (cX k fi σ) H3 fun σ2 H4=>tc σ2 H4 fun b H5 =>
   if b=true then te σ2 H5 fun v H6=>H6 l=some (.lst vs)/\vs.length<aj/\∃m',m'<m/\W (i+1) m' (vs++[v]) (upd H6 l (.lst (vs++[v])))else ∃m',m'<m/\W (i+1) m' vs H5))
theorem kR{k:Nat}{fi:List Nat}{J:It}{g:TG}{tc:TT}{te:TE}{σ:St}{H1:Hp}{Q:Hp->Prop}{l:Addr}(n:Nat)(Pv:Nat->List V->Hp->Prop)(h0:Pv 0 [] (upd H1 l (.lst [])))
  (hl:∀i vs H,i<=n->Pv i vs H->H l=some (.lst vs)) (hgo:∀i vs H,i<n->Pv i vs H->J.go i H) (hst:∀vs H,Pv n vs H->J.stop n H/\Q H)
  (hs:∀i vs H x H3,i<n->Pv i vs H->J.yld i H x H3->g x (cX k fi σ) H3 fun σ2 H4=>tc σ2 H4 fun b H5 =>
   if b=true then te σ2 H5 fun v H6=>H6 l=some (.lst vs)/\vs.length<aj/\∃m',m'<n-i/\Wc n Pv (i+1) m' (vs++[v]) (upd H6 l (.lst (vs++[v])))else ∃m',m'<n-i/\Wc n Pv (i+1) m' vs H5) :
  fe k fi σ J g tc te H1 l Q:=by
 refine⟨Wc n Pv,⟨n,by simp[Wc],cM _,h0⟩,?_⟩;rintro i m vs H ⟨rfl,hi,p⟩;refine⟨hl i vs H hi p,?_⟩;by_cases hlt:i<n
 ·exact .inr ⟨hgo i vs H hlt p,fun x H3 y=>hs i vs H x H3 hlt p y⟩
 ·have e:i=n:=by omega
  subst e;exact .inl (hst vs H p)
section
variable{K:Za}{k:Nat}{fi:List Nat}{g:TG}{tc:TT}{te:TE}{σ:St}{H1:Hp}{Q:Hp->Prop}{l:Addr}
theorem bB{a:Addr}{xs:List V}(Pv:Nat->List V->Hp->Prop)(h0:Pv 0 [] (upd H1 l (.lst [])))
  (hl:∀i vs H,i<=xs.length->Pv i vs H->H l=some (.lst vs)/\av K H a xs) (hd:∀vs H,Pv xs.length vs H->Q H)
  (hs:∀i vs H x,xs[i]?=some x->i<xs.length->Pv i vs H->g x (cX k fi σ) H fun σ2 H4=>tc σ2 H4 fun b H5 =>
   if b=true then te σ2 H5 fun v H6=>H6 l=some (.lst vs)/\vs.length<aj/\∃m',m'<xs.length-i/\Wc xs.length Pv (i+1) m' (vs++[v]) (upd H6 l (.lst (vs++[v])))else ∃m',m'<xs.length-i/\Wc xs.length Pv (i+1) m' vs H5) :
  fe k fi σ (yY K a) g tc te H1 l Q:=by
 refine kR xs.length Pv h0 (fun i vs H hi p=>(hl i vs H hi p).1) (fun i vs H hi p=>⟨xs,xs[i],(hl i vs H (dU hi) p).2,by simp[hi]⟩) (fun vs H p=>⟨⟨xs,(hl _ vs H (az _) p).2,az _⟩,hd vs H p⟩) fun i vs H x H3 hi p y=>?_;obtain⟨rfl,y⟩:=y;exact hs i vs _ x (y xs (hl i vs _ (dU hi) p).2) hi p
theorem oE{a:Addr}{xs:List V}(Pv:Nat->List V->Hp->Prop)(h0:Pv 0 [] (upd H1 l (.lst [])))
  (hl:∀i vs H,i<=xs.length->Pv i vs H->H l=some (.lst vs)/\bp K H a xs) (hd:∀vs H,Pv xs.length vs H->Q H)
  (hs:∀i vs H x,xs[i]?=some x->i<xs.length->Pv i vs H->g x (cX k fi σ) H fun σ2 H4=>tc σ2 H4 fun b H5 =>
   if b=true then te σ2 H5 fun v H6=>H6 l=some (.lst vs)/\vs.length<aj/\∃m',m'<xs.length-i/\Wc xs.length Pv (i+1) m' (vs++[v]) (upd H6 l (.lst (vs++[v])))else ∃m',m'<xs.length-i/\Wc xs.length Pv (i+1) m' vs H5) :
  fe k fi σ (AX K a) g tc te H1 l Q:=by
 refine kR xs.length Pv h0 (fun i vs H hi p=>(hl i vs H hi p).1) (fun i vs H hi p=>⟨xs,xs[i],(hl i vs H (dU hi) p).2,by simp[hi]⟩) (fun vs H p=>⟨⟨xs,(hl _ vs H (az _) p).2,az _⟩,hd vs H p⟩) fun i vs H x H3 hi p y=>?_;obtain⟨rfl,y⟩:=y;exact hs i vs _ x (y xs (hl i vs _ (dU hi) p).2) hi p
theorem u7{lo:Int}{n:Nat}(Pv:Nat->List V->Hp->Prop)(h0:Pv 0 [] (upd H1 l (.lst [])))
  (hl:∀i vs H,i<=n->Pv i vs H->H l=some (.lst vs)) (hd:∀vs H,Pv n vs H->Q H)
  (hs:∀i vs H,i<n->Pv i vs H->g (.int (lo+i)) (cX k fi σ) H fun σ2 H4=>tc σ2 H4 fun b H5 =>
   if b=true then te σ2 H5 fun v H6=>H6 l=some (.lst vs)/\vs.length<aj/\∃m',m'<n-i/\Wc n Pv (i+1) m' (vs++[v]) (upd H6 l (.lst (vs++[v])))else ∃m',m'<n-i/\Wc n Pv (i+1) m' vs H5) :
  fe k fi σ (AY lo n) g tc te H1 l Q:=by
 refine kR n Pv h0 hl (fun i vs H hi p=>hi) (fun vs H p=>⟨az _,hd vs H p⟩) fun i vs H x H3 hi p y=>?_;obtain⟨rfl,rfl⟩:=y;exact hs i vs _ hi p
theorem yI{x:Str}(Pv:Nat->List V->Hp->Prop)(h0:Pv 0 [] (upd H1 l (.lst [])))
  (hl:∀i vs H,i<=x.cps.size->Pv i vs H->H l=some (.lst vs)) (hd:∀vs H,Pv x.cps.size vs H->Q H)
  (hs:∀i vs H c,x.cps[i]?=some c->i<x.cps.size->Pv i vs H->g (.str ⟨#[c]⟩) (cX k fi σ) H fun σ2 H4=>tc σ2 H4 fun b H5 =>
   if b=true then te σ2 H5 fun v H6=>H6 l=some (.lst vs)/\vs.length<aj/\∃m',m'<x.cps.size-i/\Wc x.cps.size Pv (i+1) m' (vs++[v]) (upd H6 l (.lst (vs++[v])))else ∃m',m'<x.cps.size-i/\Wc x.cps.size Pv (i+1) m' vs H5) :
  fe k fi σ (Bw x) g tc te H1 l Q:=by
 refine kR x.cps.size Pv h0 hl (fun i vs H hi p=>hi) (fun vs H p=>⟨az _,hd vs H p⟩) fun i vs H y H3 hi p yl=>?_;obtain⟨rfl,c,hc,rfl⟩:=yl;exact hs i vs _ c hc hi p
end
theorem gN{j:Nat}{x:V}{σ:St}{H:Hp}{Q:St->Hp->Prop}(h:Q (σ.set j (some x)) H):cW j x σ H Q:=h
theorem sH{σ:St}{H:Hp}{A B:Hp->Prop}(h:A H):i0 σ H (fun b H5=>if b=true then A H5 else B H5):=by
 show(if(true:Bool)=true then A H else B H)
 exact h
inductive yX{T0 T1:Type}(P:T0->T1->Prop):Prop
 |mk (x0:T0) (x1:T1):P x0 x1->yX P
inductive Aq{T0 T1 T2:Type}(P:T0->T1->T2->Prop):Prop
 |mk (x0:T0) (x1:T1) (x2:T2):P x0 x1 x2->Aq P
inductive NE4{T0 T1 T2 T3:Type}(P:T0->T1->T2->T3->Prop):Prop
 |mk (x0:T0) (x1:T1) (x2:T2) (x3:T3):P x0 x1 x2 x3->NE4 P
inductive NE6{T0 T1 T2 T3 T4 T5:Type}(P:T0->T1->T2->T3->T4->T5->Prop):Prop
 |mk (x0:T0) (x1:T1) (x2:T2) (x3:T3) (x4:T4) (x5:T5):P x0 x1 x2 x3 x4 x5->NE6 P
inductive NE8{T0 T1 T2 T3 T4 T5 T6 T7:Type}(P:T0->T1->T2->T3->T4->T5->T6->T7->Prop):Prop
 |mk (x0:T0) (x1:T1) (x2:T2) (x3:T3) (x4:T4) (x5:T5) (x6:T6) (x7:T7):P x0 x1 x2 x3 x4 x5 x6 x7->NE8 P
inductive A1(p0 p1 p2 p3:Prop):Prop
 |mk:p0->p1->p2->p3->A1 p0 p1 p2 p3
inductive AW(p0 p1 p2 p3 p4:Prop):Prop
 |mk:p0->p1->p2->p3->p4->AW p0 p1 p2 p3 p4
inductive A0(p0 p1 p2 p3 p4 p5:Prop):Prop
 |mk:p0->p1->p2->p3->p4->p5->A0 p0 p1 p2 p3 p4 p5
inductive NA7(p0 p1 p2 p3 p4 p5 p6:Prop):Prop
 |mk:p0->p1->p2->p3->p4->p5->p6->NA7 p0 p1 p2 p3 p4 p5 p6
end L2
namespace L2
open PySem PySem.W
def xA(K:Za)(td ty tv:TE):TS:=fun D σ H=>tv σ H fun v H1=>td σ H1 fun x H2=>ty σ H2 fun y H3 =>
 ∃(a b:Addr) (kvs:List (TK×V)) (k:TK),x=.ref a/\y=.ref b/\H3 a=some (.dT kvs)/\mR K H3 k (.ref b)/\k.depth<=8/\kvs.length<aj/\D.nx σ (upd H3 a (.dT (cU kvs k v)))
section
variable{X:Cx}{o i value:Expr}{pos pos':Pos}{td ty tv:TE}
theorem xS(hu:X.A.units+16<cLine)(ho:PE X o td)(hi:PE X i ty)(hv:PE X value tv)(hs:mf value (some (.Subscript o i pos')) pos.line X.env=pure false):
  PS X (.Assign [.Subscript o i pos'] value pos) (xA X.K td ty tv):=by
 intro J3 s σ H D I h;refine wpAny_Assign_Subscript (bU (hv J3 s σ H _ I h) fun r s1 ⟨v,H1,I1,rv,q1⟩=>bU (ho J3 s1 σ H1 _ I1 q1) fun u s2 ⟨x,H2,I2,rx,q2⟩=>bU (hi J3 s2 σ H2 _ I2 q2) fun iv s3 zq0=>?_) hs;obtain⟨y,H3,I3,ry,a,b,kvs,k,ex,ey,e,eb,e8,l,q3⟩:=zq0;subst ex;subst ey;obtain rfl:u=Value.ref a:=rx;exact u4 hu I3 e eb e8 l ry rv fun s4 I4=>⟨σ,_,I4,q3⟩
end
theorem pS{K:Za}{H:Hp}:∀xs:List Str,TKCs K H (xs.map fun x=>TK.k (some (.inr x))) (xs.map V.str)
 |[]=>by show TKCs K H [] [];unfold TKCs;rfl
 |x::xs=>by
  rw[aY,aY];unfold TKCs;refine⟨_,_,rfl,?_,pS xs⟩;unfold mR
  rfl
theorem xr{K:Za}{H:Hp}{a:Addr}{xs:Zb}(h:cG K H a (xs.map V.str)):mR K H (.t (xs.map fun x=>TK.k (some (.inr x)))) (.ref a):=by
 unfold mR;exact⟨a,_,rfl,h,pS xs⟩
end L2
end

section
set_option Elab.async false
set_option linter.all false
set_option maxRecDepth 100000
namespace L2
open PySem PySem.Spec PyProof.Rows PySem.W
def z9:Expr->List Str
 |.Name x _=>[x]
 |.Tuple es _ _=>es.filterMap fun e=>match e with | .Name x _=>some x|_=>none
 |_=>[]
theorem bK{X:Cx}{b:List Stmt}{t:TS}{D:mV}{σ:St}{H:Hp}(r:t D σ H)(p:uc X b t):∃t,uc X b t/\t D σ H:=⟨t,p,r⟩
section
variable{X:Cx}{k k0:Nat}{ps:Zb}{sp:Sp}{x m:Str}{C:Addr}{p pos J5:Pos}{o e a b:Expr}{es:List Expr}{t:TA}{ta tb te:TE}
theorem qf(hr:c_ k0 X.A)(D:Def X.prog X.w X.K X.mg X.base x ps k sp)(ha:PA X (e::es) t)(hk:k<=k0:=by decide)(hg:Gl X x:=by rfl)(hdb:(x==("__debug__":Str))=false:=by decide)
  (he:aA (e::es) X.env=(false,eval e X.env)::aA es X.env:=by rfl) (hpl:(backTo pos (aA es X.env)).any (·.1)=false:=by rfl) :
  PE X (.Call (.Name x p) (e::es) [] pos) (aG sp t):=Bb D (hr.mono hk) hg ha hdb he hpl
theorem qm{pl:Sem Bool}(hr:c_ k0 X.A)(M:xa X.prog X.w X.K X.mg X.base C m ps k sp)(he:PE X o ta)(ha:PA X (e::es) t)(hk:k<=k0:=by decide)
  (hst:aA (e::es) X.env=(false,eval e X.env)::aA es X.env:=by rfl) (hpl:(backTo pos (aA es X.env)).any (·.1)=false:=by rfl)
  (ht:eval (.Call (.Attribute o m J5) (e::es) [] pos) X.env=(do
   let ov <- eval o X.env
   mh J5.atName
   let(f,first) <- ie [ov] (ma ov m pl)
   pG pos f first (backTo pos (aA (e::es) X.env)) (jW pos (jV [] X.env))):=by rfl) :
  PE X (.Call (.Attribute o m J5) (e::es) [] pos) (fy C m sp [] E0 ta t):=AH (pl:=pl) M (hr.mono hk) he ha hst hpl ht
theorem Ba{pl:Sem Bool}(hr:c_ k0 X.A)(M:xa X.prog X.w X.K X.mg X.base C m ps k sp)(he:PE X o ta)(hk:k<=k0:=by decide)
  (ht:eval (.Call (.Attribute o m J5) [] [] pos) X.env=(do
   let ov <- eval o X.env
   mh J5.atName
   let(f,first) <- ie [ov] (ma ov m pl)
   pG pos f first (backTo pos (aA [] X.env)) (jW pos (jV [] X.env))):=by rfl) :
  PE X (.Call (.Attribute o m J5) [] [] pos) (fy C m sp [] E0 ta bA):=zE (pl:=pl) M (hr.mono hk) he ht
theorem xl(ha:PE X a ta)(hb:PE X b tb)(hs:wW b:=by exact fun _ _=>rfl):PE X (.Subscript a b pos) (aF (dk X.K) ta tb):=vN vU ha hb hs
theorem xt(ha:PE X a ta)(hb:PE X b tb)(hs:wW b:=by exact fun _ _=>rfl):PE X (.Subscript a b pos) (aF (iB X.K) ta tb):=vN yj ha hb hs
theorem xq(ha:PE X a ta)(hb:PE X b tb)(hs:wW b:=by exact fun _ _=>rfl):PE X (.Subscript a b pos) (aF (rg X.K) ta tb):=vN AN ha hb hs
theorem xs'(ha:PE X a ta)(hb:PE X b tb)(hs:wW b:=by exact fun _ _=>rfl):PE X (.Subscript a b pos) (aF xM ta tb):=vN yk ha hb hs
theorem lA{op:CmpOp}{r:R2}(ho:jH X (cP op) r)(ha:PE X a ta)(hb:PE X b tb)(hm:hE op b=false:=by exact yb _):PT X (.Compare a [op] [b] pos) (bc (aF r ta tb)):=vL ho ha hb hm
theorem ecm{op:CmpOp}{r:R2}(ho:jH X (cP op) r)(ha:PE X a ta)(hb:PE X b tb)(hm:hE op b=false:=by exact yb _):PE X (.Compare a [op] [b] pos) (aF r ta tb):=vO ho ha hb hm
theorem yW{op:CmpOp}{r:R2}(ho:jH X (cP op) r)(ha:PE X a ta)(hb:PE X b tb)(hm:hE op b=false:=by with_unfolding_all rfl):PT X (.Compare a [op] [b] pos) (bc (aF r ta tb)):=vL ho ha hb hm
theorem eci{op:CmpOp}{r:R2}(ho:jH X (cP op) r)(ha:PE X a ta)(hb:PE X b tb)(hm:hE op b=false:=by with_unfolding_all rfl):PE X (.Compare a [op] [b] pos) (aF r ta tb):=vO ho ha hb hm
theorem qB{id:String}{r:List V->Hp->VK->Prop}(hc:d7 X (.builtin id) r)(hm:X.mg x=none)(hv:jZ x=some (.builtin id))(ha:PA X (e::es) t)(hg:Gl X x:=by rfl)(hn:x≠"__name__":=by decide)(hdb:(x==("__debug__":Str))=false:=by decide)
  (he:aA (e::es) X.env=(false,eval e X.env)::aA es X.env:=by rfl) (hpl:(backTo pos (aA es X.env)).any (·.1)=false:=by rfl):PE X (.Call (.Name x p) (e::es) [] pos) (eh r t):=tz hc hg hm hv ha hn hdb he hpl
theorem qL(hc:X.calm=true)(hm:X.mg "list"=none)(ha:PA X (e::es) t)(hg:Gl X "list":=by rfl)
  (he:aA (e::es) X.env=(false,eval e X.env)::aA es X.env:=by rfl) (hpl:(backTo pos (aA es X.env)).any (·.1)=false:=by rfl):PE X (.Call (.Name "list" p) (e::es) [] pos) (eh (bO X.K) t):=eE (u_ hc) hg hm va ha (by decide) (by decide) he hpl
theorem ql(hm:X.mg "len"=none)(ha:PA X (e::es) t)(hg:Gl X "len":=by rfl)
  (he:aA (e::es) X.env=(false,eval e X.env)::aA es X.env:=by rfl) (hpl:(backTo pos (aA es X.env)).any (·.1)=false:=by rfl):PE X (.Call (.Name "len" p) (e::es) [] pos) (eh (gd X.K) t):=tz wT hg hm PySem.boot_len ha (by decide) (by decide) he hpl
theorem qs(i:Nat){pos':Pos}(hN:X.N.Nodup)(he:PE X e te)(hi:X.N[i]?=some x:=by rfl)(hx:Loc X.env.scope x:=by first|exact Or.inl rfl|exact Or.inr rfl)(hs:mf e (some (.Name x pos')) pos.line X.env=pure false:=by rfl)(hf:X.fn x=true∨X.env.scope.names.lookup x=some .local:=by first|exact .inl rfl|exact .inr rfl|assumption):
  PS X (.Assign [.Name x pos'] e pos) (aM te (cW i)):=AB hN hi hx he hs hf
theorem gn(i:Nat)(hN:X.N.Nodup)(hi:X.N[i]?=some x:=by rfl)(hx:Loc X.env.scope x:=by first|exact Or.inl rfl|exact Or.inr rfl)(hf:X.fn x=true∨X.env.scope.names.lookup x=some .local:=by first|exact .inl rfl|exact .inr rfl|assumption):PG X (.Name x pos) (cW i):=vM hN hi hx hf
theorem gc(i:Nat)(hN:X.N.Nodup:=by exact of_decide_eq_true (by with_unfolding_all rfl))(hi:X.N[i]?=some x:=by rfl)(hx:Loc X.env.scope x:=by exact Or.inl rfl)(hf:X.fn x=true∨X.env.scope.names.lookup x=some .local:=by first|exact .inl rfl|exact .inr rfl|assumption):PG X (.Name x pos) (cW i):=vM hN hi hx hf
theorem a1(ha:PE X a ta)(hs:aA [a] X.env=(false,eval a X.env)::aA [] X.env:=by rfl):PA X [a] (ay ta bA):=bX ha cw hs
theorem a2(ha:PE X a ta)(hb:PE X b tb)(hs:aA [a,b] X.env=(false,eval a X.env)::aA [b] X.env:=by rfl)(hs2:aA [b] X.env=(false,eval b X.env)::aA [] X.env:=by rfl):PA X [a,b] (ay ta (ay tb bA)):=bX ha (bX hb cw hs2) hs
theorem a3{c:Expr}{tc:TE}(ha:PE X a ta)(hb:PE X b tb)(hc:PE X c tc)(hs:aA [a,b,c] X.env=(false,eval a X.env)::aA [b,c] X.env:=by rfl)(hs1:aA [b,c] X.env=(false,eval b X.env)::aA [c] X.env:=by rfl)(hs2:aA [c] X.env=(false,eval c X.env)::aA [] X.env:=by rfl):PA X [a,b,c] (ay ta (ay tb (ay tc bA))):=bX ha (a2 hb hc hs1 hs2) hs
variable{elt iter tg:Expr}{ifs:List Expr}{scope:Scope}{fi:List Nat}{wi:TI}{g:TG}{tc:TT}
theorem qc(hi:PI X tg iter wi)(ho:wV k g)
  (h:∀C cl s₀ H₀ ex pn,PG (cx X (z9 tg++fi.map fun i=>X.N.getD i "") scope C cl s₀ H₀ ex pn) tg g/\Ap (cx X (z9 tg++fi.map fun i=>X.N.getD i "") scope C cl s₀ H₀ ex pn) ifs tc/\PE (cx X (z9 tg++fi.map fun i=>X.N.getD i "") scope C cl s₀ H₀ ex pn) elt te)
  (hS:iY X.env.scope scope k (z9 tg++fi.map fun i=>X.N.getD i "") X.N fi=true:=by with_unfolding_all rfl) (hc:X.calm=true:=by rfl)
  (hs:∀x,sD iter X.env x=pure x:=by intro _;rfl):PE X (.ListComp elt [⟨tg,iter,ifs,0⟩] scope pos) (bW k fi wi g tc te) :=
 zJ hS hc hi (fun _ _ _ _ _ _=>(h _ _ _ _ _ _).1) ho (fun _ _ _ _ _ _=>(h _ _ _ _ _ _).2.1) (fun _ _ _ _ _ _=>(h _ _ _ _ _ _).2.2) hs
theorem qsc(j:Nat){y:Str}{spos py:Pos}(hN:X.N.Nodup)(hi:PI X tg iter wi)(ho:wV k g)
  (h:∀C cl s₀ H₀ ex pn,PG (cx X (z9 tg++fi.map fun i=>X.N.getD i "") scope C cl s₀ H₀ ex pn) tg g/\Ap (cx X (z9 tg++fi.map fun i=>X.N.getD i "") scope C cl s₀ H₀ ex pn) ifs tc/\PE (cx X (z9 tg++fi.map fun i=>X.N.getD i "") scope C cl s₀ H₀ ex pn) elt te)
  (hj:X.N[j]?=some y:=by rfl) (hy:Loc X.env.scope y:=by first|exact Or.inl rfl|exact Or.inr rfl)
  (hS:iY X.env.scope scope k (z9 tg++fi.map fun i=>X.N.getD i "") X.N fi=true:=by with_unfolding_all rfl) (hc:X.calm=true:=by rfl)
  (hsw:mf (.ListComp elt [⟨tg,iter,ifs,0⟩] scope pos) (some (.Name y py)) spos.line X.env=pure true:=by rfl)
  (hs:∀x,sD iter X.env x=pure x:=by intro _;rfl) (hf:X.fn y=true∨X.env.scope.names.lookup y=some .local:=by first|exact .inl rfl|exact .inr rfl|assumption) :
  PS X (.Assign [.Name y py] (.ListComp elt [⟨tg,iter,ifs,0⟩] scope pos) spos) (aM (bW k fi wi g tc te) (cW j)) :=
 uO hN hj hy hS hc hi (fun _ _ _ _ _ _=>(h _ _ _ _ _ _).1) ho (fun _ _ _ _ _ _=>(h _ _ _ _ _ _).2.1) (fun _ _ _ _ _ _=>(h _ _ _ _ _ _).2.2) hsw hs hf
end
end L2
end

section
set_option Elab.async false
set_option linter.all false
set_option maxRecDepth 100000
namespace L2
open PySem PySem.Spec PyProof.Rows
structure pA(h:Heap)(d:Addr)(es:Array iq)(ep:Nat):Prop where
 ex:∃o,h.get? d=some o/\o.ExactDict/\o.data=.dict es ep
section
variable{prog:bm}{w:World}{A:Around}{E:Zc}{s:Shared}{d v it:Addr}{es:Array iq}{ep i:Nat}
theorem pA.ty(h:pA s.heap d es ep):s.TypeIs (.ref d) "dict":=let⟨o,ho,e,_⟩:=h.ex;⟨o,ho,e.1⟩
end
end L2
end

section
set_option Elab.async false
set_option linter.all false
set_option maxRecDepth 100000
namespace L2
open PySem PySem.Spec PyProof.Rows
section
variable{prog:bm}{w:World}{A:Around}{E:Zc}{s:Shared}{d v it:Addr}{es:Array iq}{ep i:Nat}
theorem wv{Q:Option Value->Shared->Prop}(hit:s.heap.IsKeyIter it d i es.size ep)(h:pA s.heap d es ep)(hi:i<es.size)
  (q:∀h',h'.IsKeyIter it d (i+1) es.size ep->ig it s.heap h'->Q (some es[i].key) { s with heap:=h' }):wpAny (model prog w) A (pyNext (.ref it)) Q E s:=by
 obtain⟨ov,hov,hcv,hdv⟩:=id hit;obtain⟨o,ho,hx,hdat⟩:=h.ex;have hT:=hit.typeIs;unfold pyNext;refine ak <| wpAny_attempt <| wpAny_callSpecial?_slot (name:=Str.ofString "__next__") hT nA <| ue nA hT F.entry_dict_keyiterator_next ?_ (F.args_dict_keyiterator_next_1 _);refine ak <| aB <| ak <| ak ?_
 first|refine ak <| qr hT <| aB ?_|refine ak <| qq hT <| aB ?_
 refine ak <| wpAny_fieldsOf hov hdv ?_;simp only[show cf.Dict_items.ownsTuple "dict_keyiterator"=false by decide,io,if_false];show wpAny _ _ (if(Value.ref d==Value.none)=true then _ else _) _ _ _
 rw[if_neg (show ¬((Value.ref d==Value.none)=true)from fN)];refine ak <| aB <| ak <| qy ho hdat ?_;rw[if_neg (by simp)];refine ak <| aB <| ak <| wpAny_dictEpoch ho hdat ?_;rw[if_neg (by simp)];refine aB ?_;simp only[show ¬((i:Int)<0)from by omega,if_false,pF,le hi];refine ak ?_
 first|refine ak <| qr hT <| aB ?_|refine ak <| qq hT <| aB ?_
 refine ak <| wpAny_isOneOf_keyiter hT ?_;show wpAny _ _ (setField (.ref it) 1 (rawInt ((i:Int)+1)) >>= _) _ _ s;refine ak <| wpAny_setField hov hdv (by simp) ?_;have n1:(s.heap.update it (Obj.mapFields (·.setIfInBounds 1 (rawInt ((i:Int)+1))))).IsKeyIter it d (i+1) es.size ep:=⟨_,Heap.get?_update_self _ hov (Obj.isFreed_of_fields (Obj.data_mapFields hdv _)),(Obj.cls_mapFields ..).trans hcv,by rw[Obj.data_mapFields hdv];simp[rawInt]⟩;have T1:=Heap.IsKeyIter.typeIs (s:={ s with heap:=s.heap.update it (Obj.mapFields (·.setIfInBounds 1 (rawInt ((i:Int)+1)))) }) n1;refine ak <| ik <| ak <| wpAny_isOneOf_keyiter T1 ?_;show wpAny _ _ (pure es[i].key) _ _ _;exact aB <| aB ⟨_,rfl,aB <| q _ n1 (nB ..)⟩
theorem xJ{Q:Option Value->Shared->Prop}(hh:A.handled=none)(hit:s.heap.IsKeyIter it d i es.size ep)(h:pA s.heap d es ep)(hi:es.size<=i)
  (q:∀h',Heap.ExtBut it s.heap h'->Q none { s with heap:=h' }):wpAny (model prog w) A (pyNext (.ref it)) Q E s:=by
 obtain⟨ov,hov,hcv,hdv⟩:=id hit;obtain⟨o,ho,hx,hdat⟩:=h.ex;have hT:=hit.typeIs;unfold pyNext;refine ak <| wpAny_attempt <| wpAny_callSpecial?_slot (name:=Str.ofString "__next__") hT nA <| ue nA hT F.entry_dict_keyiterator_next ?_ (F.args_dict_keyiterator_next_1 _);refine ak <| aB <| ak <| ak ?_
 first|refine ak <| qr hT <| aB ?_|refine ak <| qq hT <| aB ?_
 refine ak <| wpAny_fieldsOf hov hdv ?_;simp only[show cf.Dict_items.ownsTuple "dict_keyiterator"=false by decide,io,if_false];show wpAny _ _ (if(Value.ref d==Value.none)=true then _ else _) _ _ _
 rw[if_neg (show ¬((Value.ref d==Value.none)=true)from fN)];refine ak <| aB <| ak <| qy ho hdat ?_;rw[if_neg (by simp)];refine ak <| aB <| ak <| wpAny_dictEpoch ho hdat ?_;rw[if_neg (by simp)];refine aB ?_;simp only[show ¬((i:Int)<0)from by omega,if_false,pF,Array.getElem?_eq_none hi];refine ak ?_
 first|refine ak <| qr hT <| aB ?_|refine ak <| qq hT <| aB ?_
 show wpAny _ _ (setField (.ref it) 0 .none >>= _) _ _ s;refine ak <| wpAny_setField hov hdv (by simp) ?_;show wpAny _ _ (newExc (.type "StopIteration") [] >>= _) _ _ _;refine ak ?_;simp only[newExc,newTuple];refine ak <| nH ?_ (by size_fits);refine ak (m:=firstArgMember _ _) <| wpAny_of_eq (a:=Value.none) (by first|rfl|(simp only[firstArgMember];rfl)) <| nH ?_ (by size_fits)
 simp only[raiseNew];refine ak <| wpAny_handled ?_;rw[show A.in1.handled=none from hh];refine ak <| aB <| wpAny_throw ?_;refine ak (wpAny_isInstance (b:=true) (T:="StopIteration") ⟨_,cO _ rfl,rfl⟩ isSubtype_stop (aB (q _ (((nB ..).extBut.push _).push _))))
end
end L2
end

section
set_option Elab.async false
set_option linter.all false
set_option maxRecDepth 100000
namespace HT
open PySem PySem.Spec PyProof.Rows
end HT
namespace L2
open PySem PySem.Spec PyProof.Rows
end L2
namespace HT
open PySem PySem.Spec PyProof.Rows
end HT
namespace L2
open PySem PySem.Spec PyProof.Rows
end L2
end

section
set_option Elab.async false
set_option linter.all false
set_option maxRecDepth 100000
namespace L2
open PySem PySem.Spec PyProof.Rows
section
variable{X:Cx}{J3:Zd}{σ:St}{H:Hp}{s:Shared}{h':Heap}
theorem Inv.many{H':Hp}{N:Ze}{t':Nat}(I:Inv X J3 σ H s)(k:∀b u,s.heap.get? b=some u->h'.get? b=some u)(hN:∀a∈N,s.heap.objs.size<=a)(out:∀b,b∉N->H' b=H b)(new:∀a∈N,∀o,H' a=some o->cj X.prog X.w X.K H' h' a o):
  Inv X J3 σ H' { s with heap:=h',toks:=t' }:=by
 have old:∀b o,H b=some o->b∉N:=fun b o e q=>gH _ (ei (I.hok.lt e) (hN b q));have same:∀b o,H b=some o->H' b=some o:=fun b o e=>by rw[out b (old b o e)];exact e
 refine I.un ⟨fun b u q _ _ _=>k b u q,fun b u q _ _ _=>⟨u.slots,k b u q⟩,fun b u q n _=>?_,fun b u q _=>⟨u,k b u q⟩,fun b xs q=>same b _ q,fun b o u q=>same b _ q,fun b ps q=>⟨#[],by rw[same b _ q];simp⟩⟩ fun b o e=>?_
 ·rw[out b fun z=>gH _ (ei (aP q) (hN b z))];exact n
 ·by_cases hb:b∈N
  ·exact new b hb o e
  ·rw[out b hb]at e;exact(I.hok b o e).stay (fun c v _ q=>k c v q) (fun c q=>same c _ q) fun c xs q=>same c _ q
variable{p p2 pos pos2:Pos}
end
end L2
namespace L2
open PySem PySem.Spec PyProof.Rows
end L2
end

section
set_option Elab.async false
set_option linter.all false
set_option maxRecDepth 100000
namespace L2
open PySem PySem.Spec PyProof.Rows
end L2
end

section
set_option Elab.async false
set_option linter.all false
set_option maxRecDepth 100000
namespace HT
open PySem PyProof.Rows
theorem firstOf_eq(v:Value):firstOfTuple' v=(do
  if(<- typeOf v) != .type "tuple" then return none
  return (<- nz v)[0]?):=rfl
end HT
namespace L2
open PySem PySem.Spec PyProof.Rows
end L2
end

section
set_option Elab.async false
set_option linter.all false
set_option maxRecDepth 100000
namespace HT
open PySem PyProof.Rows
def sLt(x y:Str):Bool:=strKind.blt x.cps.toList y.cps.toList
def lexT:List Str->List Str->Bool
 |[],[]=>false
 |[],_::_=>true
 |_::_,[]=>false
 |x::xs,y::ys=>if x=y then lexT xs ys else sLt x y
theorem lexT_cons(x y:Str)(xs ys:Zb):lexT (x::xs) (y::ys)=if x=y then lexT xs ys else sLt x y:=rfl
theorem sLt_irr(x:Str):sLt x x=false:=strKind.irrefl _
theorem sLt_trans{x y z:Str}(h:sLt x y=true)(k:sLt y z=true):sLt x z=true:=strKind.trans _ _ _ h k
theorem str_cps{x y:Str}(h:x.cps.toList=y.cps.toList):x=y:=by
 cases x;cases y;congr 1;exact Array.toList_inj.1 h
theorem sLt_tot{x y:Str}(h:x≠y):sLt x y=true∨sLt y x=true:=by
 cases c:sLt x y with
 |true=>exact .inl rfl
 |false=>cases d:sLt y x with
  |true=>exact .inr rfl
  |false=>exact absurd (str_cps (strKind.total _ _ c d)) h
theorem sLt_ne{x y:Str}(h:sLt x y=true):x≠y:=fun e=>by rw[e,sLt_irr]at h;cases h
theorem lexT_irr:∀f:List Str,lexT f f=false
 |[]=>rfl
 |x::f=>by rw[lexT_cons,if_pos rfl];exact lexT_irr f
theorem lexT_trans:∀{f g k:Zb},lexT f g=true->lexT g k=true->lexT f k=true
 |[],[],_,h,_=>by cases h
 |_::_,[],_,h,_=>by cases h
 |_,_::_,[],_,h=>by cases h
 |[],_::_,_::_,_,_=>rfl
 |x::f,y::g,z::k,h,h'=>by
  rw[lexT_cons]at h h' ⊢;by_cases e1:x=y
  ·rw[if_pos e1]at h;subst e1;by_cases e2:x=z
   ·rw[if_pos e2]at h' ⊢;exact lexT_trans h h'
   ·rw[if_neg e2]at h' ⊢;exact h'
  ·rw[if_neg e1]at h;by_cases e2:y=z
   ·subst e2;rw[if_neg e1];exact h
   ·rw[if_neg e2]at h';have:=sLt_trans h h';rw[if_neg (sLt_ne this)];exact this
theorem lexT_tot:∀{f g:Zb},f≠g->lexT f g=true∨lexT g f=true
 |[],[],h=>absurd rfl h
 |[],_::_,_=>.inl rfl
 |_::_,[],_=>.inr rfl
 |x::f,y::g,h=>by
  rw[lexT_cons,lexT_cons];by_cases e:x=y
  ·subst e;rw[if_pos rfl,if_pos rfl];exact lexT_tot fun z=>h (by rw[z])
  ·rw[if_neg e,if_neg (fw e)];exact sLt_tot e
def stepT(x:(Value×Value)×Nat)(_:Option Bool×PUnit):Sem (ForInStep (Option Bool×PUnit)):=do
 if !(<- eqBool x.1.1 x.1.2)then
  let c <- oneLt' (true && x.2==0) x.1.1 x.1.2
  pure (ForInStep.done (some c,()))
 else pure (lh (none,()))
theorem keyLtS0_eq(x y:Value):keyLt' (k_ true) x y=(do
  let xs <- nz x;let ys <- nz y
  for ((p,q),i)in(xs.toList.zip ys.toList).zipIdx do
   if !(<- eqBool p q)then return <- oneLt' (true && i==0) p q
  return xs.size<ys.size):=rfl
theorem keyLtS_eq(x y:Value):keyLt' (k_ true) x y=(do
  let xs <- nz x;let ys <- nz y
  let r <- forIn ((xs.toList.zip ys.toList).zipIdx) ((none,()):Option Bool×PUnit) stepT
  match r.1 with
  |some b=>pure b
  |none=>pure (decide (xs.size<ys.size))):=by
 rw[keyLtS0_eq];congr 1;funext xs;congr 1;funext ys;congr 1;funext r;obtain⟨a,b⟩:=r;cases a<;>rfl
def FcV(h:Heap)(f:Zb)(v:Value):Prop:=∃a items,v=.ref a/\h.IsTuple a items/\jm items.toList f
theorem FcV.mono{h h':Heap}{f:Zb}{v:Value}(m:∀b o,h.get? b=some o->o.cls=.type "tuple"->h'.get? b=some o)(q:FcV h f v):FcV h' f v:=by
 obtain⟨a,items,rfl,⟨o,h1,h2,h3⟩,hi⟩:=q;exact⟨a,items,rfl,⟨o,m _ _ h1 h2,h2,h3⟩,hi⟩
section
variable{prog:bm}{w:World}{A:Around}{E:Zc}{s:Shared}
theorem eqS{x y:Str}{t u:Tok}{Q:Bool->Shared->Prop}(hu:A.units+8<cLine)(h:Q (decide (x=y)) s):wpAny (model prog w) A (eqBool (.str x t) (.str y u)) Q E s:=by
 have q:=L2.dt_eq (s:=s) 8 (A:=A) (x:=.k (.inr x)) (y:=.k (.inr y)) (u:=.str x t) (v:=.str y u) (cM _) hu (by show wc x (.str x t)=true;simp[wc]) (by show wc y (.str y u)=true;simp[wc]);refine q prog w _ _ ?_;have:decide (L2.DT.k (.inr x)=L2.DT.k (.inr y))=decide (x=y):=decide_eq_decide.2 ⟨fun z=>by injection z with z;injection z,fun z=>by rw[z]⟩;rw[this];exact h
theorem loopT(hu:A.units+8<cLine):∀{f g:Zb}{its its2:Zf}(n:Nat) {Q:Option Bool×PUnit->Shared->Prop},jm its f->jm its2 g ->
  (Q (some (lexT f g),()) s)->(lexT f g=decide (f.length<g.length)->Q (none,()) s)->wpAny (model prog w) A (forIn ((its.zip its2).zipIdx n) ((none,()):Option Bool×PUnit) stepT) Q E s
 |[],[],_,_,n,Q,.nil,.nil,_,h2=>by exact aB (h2 rfl)
 |[],_::_,_,_,n,Q,.nil,.cons _ _ _,_,h2=>by exact aB (h2 rfl)
 |_::_,[],_,_,n,Q,.cons _ _ _,.nil,_,h2=>by exact aB (h2 rfl)
 |x::f,y::g,_,_,n,Q,.cons _ t a,.cons _ u b,h1,h2=>by
  rw[List.zip_cons_cons,List.zipIdx_cons,qD];refine ak ?_;unfold stepT;dsimp only;refine ak (eqS hu ?_);rw[lexT_cons]at h1 h2;by_cases e:x=y
  ·rw[if_pos e]at h1 h2;rw[if_neg (by rw[zzr1 e];decide)];refine aB ?_;exact loopT hu (n+1) a b h1 fun z=>h2 (by rw[z];simp)
  ·rw[if_neg e]at h1;rw[if_pos (by rw[zzr0 e];rfl)];have fin:wpAny (model prog w) A (oneLt' (true && n==0) (.str x t) (.str y u)) (fun c s'=>c=sLt x y/\s'=s) E s:=by
    cases n with
    |zero=>exact oneLt_str ⟨rfl,rfl⟩
    |succ n =>
     show wpAny _ _ (oneLt' false (.str x t) (.str y u)) _ _ _;rw[oneLt'_eq];simp only[io,if_false];have lt:wpAny (model prog w) A (richCompare .Lt (.str x t) (.str y u)) (fun v s'=>v=.bool (sLt x y)/\s'=s) E s:=PyProof.Rows.lt_str ⟨rfl,rfl⟩;refine ak (hZ lt (fun v s' hv=>?_) fun _ _ z=>z);obtain⟨rfl,rfl⟩:=hv;exact mj ⟨rfl,rfl⟩
   refine ak (hZ fin (fun c s' hc=>?_) fun _ _ z=>z);obtain⟨rfl,rfl⟩:=hc;exact aB (aB h1)
theorem keyLt_fcs{f g:Zb}{x y:Value}{Q:Bool->Shared->Prop}(hx:FcV s.heap f x)(hy:FcV s.heap g y)(hu:A.units+8<cLine)(h:Q (lexT f g) s):wpAny (model prog w) A (keyLt' (k_ true) x y) Q E s:=by
 obtain⟨a,items,rfl,⟨o,h1,h2,n,h3⟩,hi⟩:=hx;obtain⟨a',items',rfl,⟨o',h1',h2',n',h3'⟩,hi'⟩:=hy;rw[keyLtS_eq];refine ak (qp h1 h3 (ak (qp h1' h3' (ak (loopT hu 0 hi hi' ?_ fun e=>?_)))))
 ·exact aB h
 ·refine aB ?_;have l1:items.size=f.length:=by rw[<-gf,hi.length]
  have l2:items'.size=g.length:=by rw[<-gf,hi'.length]
  rw[l1,l2,<-e];exact h
theorem first_fc{f:Zb}{v:Value}{Q:Option Value->Shared->Prop}(hw:FcV s.heap f v)(ne:f≠[])(h:∀x t,Q (some (.str x t)) s):wpAny (model prog w) A (firstOfTuple' v) Q E s:=by
 obtain⟨a,items,rfl,⟨o,h1,h2,n,h3⟩,hi⟩:=hw;rw[firstOf_eq];refine ak (qv (T:="tuple") ⟨o,h1,h2⟩ ?_);rw[if_neg (by decide)];refine ak (qp h1 h3 ?_);obtain⟨x,t,e⟩:∃x t,items[0]?=some (.str x t):=by
  rw[<-lq];generalize items.toList=L at hi;cases hi with
  |nil=>exact absurd rfl ne
  |cons y t r=>exact⟨y,t,rfl⟩
 rw[e];exact aB (h x t)
inductive Fcs(h:Heap):List (List Str)->List Value->Prop
 |nil:Fcs h [] []
 |cons {f fs v vs}:FcV h f v->f≠[]->Fcs h fs vs->Fcs h (f::fs) (v::vs)
theorem Fcs.mono{h h':Heap}(m:∀b o,h.get? b=some o->o.cls=.type "tuple"->h'.get? b=some o):∀{fs:List (List Str)}{vs:Zf},Fcs h fs vs->Fcs h' fs vs
 |_,_,.nil=>.nil
 |_,_,.cons q n r=>.cons (q.mono m) n (r.mono m)
theorem firsts_fc:∀{fs:List (List Str)}{vs:Zf}{Q:List (Option Value)->Shared->Prop},Fcs s.heap fs vs->(∀us:List Value,(∀u∈us,s.TypeIs u "str")->us.length=vs.length->Q (us.map some) s)->wpAny (model prog w) A (vs.mapM firstOfTuple') Q E s
 |_,_,Q,.nil,h=>by rw[List.mapM_nil];exact aB (h [] (fun f hf=>by cases hf) rfl)
 |_,_,Q,.cons (vs:=vs) q n r,h=>by
  rw[List.mapM_cons];refine ak (first_fc q n fun x t=>ak (firsts_fc r fun fs hf hz=>aB ?_));refine h (.str x t::fs) (fun f hm=>?_) (congrArg (·+1) hz);rcases cI.1 hm with rfl|hm
  ·exact qF _ _ _
  ·exact hf f hm
theorem typesS_wp:∀{fs:Zf}{Q:List Value->Shared->Prop},(∀f∈fs,s.TypeIs f "str")->Q (fs.map fun _=>.type "str") s->wpAny (model prog w) A (fs.mapM typeOf) Q E s
 |[],Q,_,h=>by rw[List.mapM_nil];exact aB h
 |f::fs,Q,hf,h=>by
  rw[List.mapM_cons];exact ak (qv (hf f cQ) (ak (typesS_wp (fun g hg=>hf g (dO _ hg)) (aB h))))
theorem keyKind_fcs{v₁ v₂:Value}{vs:Zf}{fs:List (List Str)}{Q:SortKind->Shared->Prop}(hW:Fcs s.heap fs (v₁::v₂::vs))(h:Q (k_ true) s):wpAny (model prog w) A (keyKind' (v₁::v₂::vs).toArray) Q E s:=by
 rw[keyKind'_eq,List.mapM_toArray];refine ak (wpAny_map (firsts_fc hW fun us hf hz=>?_));have e1:((us.map some).toArray.all fun x=>x.isSome)=true:=by
  simp only[List.all_toArray,nC,nI];intro _ _;rfl
 rw[if_pos e1];refine ak (ml ?_);have e2:(us.map some).toArray.filterMap id=us.toArray:=by simp
 rw[e2,oneTypeOnly'_eq,List.mapM_toArray];refine ak (ak (wpAny_map (typesS_wp hf ?_)));obtain⟨f,us',rfl⟩:∃f us',us=f::us':=by
  cases us with
  |nil=>cases hz
  |cons f us'=>exact⟨f,us',rfl⟩
 have h0:(List.map (fun _=>Value.type "str") (f::us')).toArray[0]?=some (Value.type "str"):=by simp
 rw[h0];have hall:((List.map (fun _=>Value.type "str") (f::us')).toArray.all fun x=>x==Value.type "str")=true:=by
  simp only[List.all_toArray,nC,nI];intro _ _;rfl
 refine aB ?_;rw[if_pos hall];exact aB h
def Kx(ky:Value->List Str)(xs:Array Keyed)(i:Nat):List Str:=(xs[i]?).elim [] fun p=>ky p.1
abbrev kLt(ky:Value->List Str)(xs:Array Keyed)(i j:Nat):Prop:=lexT (Kx ky xs i) (Kx ky xs j)=true
def Up(ky:Value->List Str)(xs:Array Keyed)(k:Nat):Prop:=∀i j,i<j->j<k->kLt ky xs i j
def Down(ky:Value->List Str)(xs:Array Keyed)(k:Nat):Prop:=∀i j,i<j->j<k->kLt ky xs j i
structure SF(ky:Value->List Str)(a₀:Array Keyed)(st:SortSt):Prop where
 pm:(arrOf st).Perm a₀
 kd:kindOf st=k_ true
 fl:ny st=none
 pe:im st=#[]
 nd:((arrOf st).toList.map fun p=>ky p.1).Nodup
theorem SF.sz{ky:Value->List Str}{a₀:Array Keyed}{st:SortSt}(h:SF ky a₀ st):(arrOf st).size=a₀.size:=h.pm.size_eq
theorem SF.put{ky:Value->List Str}{a₀:Array Keyed}{st:SortSt}(h:SF ky a₀ st){xs:Array Keyed}(hp:xs.Perm (arrOf st)):SF ky a₀ (setArr st xs) :=
 ⟨hp.trans h.pm,h.kd,h.fl,h.pe,((Array.perm_iff_toList_perm.mp hp).map _).nodup_iff.2 h.nd⟩
theorem kx_get{ky:Value->List Str}{xs ys:Array Keyed}{i j:Nat}(h:xs[i]?=ys[j]?):Kx ky xs i=Kx ky ys j:=by unfold Kx;rw[h]
theorem SF.ne{ky:Value->List Str}{a₀:Array Keyed}{st:SortSt}(h:SF ky a₀ st){i j:Nat}(ij:i<j)(hj:j<a₀.size):Kx ky (arrOf st) i≠Kx ky (arrOf st) j:=by
 have sj:j<(arrOf st).size:=by rw[h.sz];exact hj
 have si:i<(arrOf st).size:=by omega
 have:=List.pairwise_iff_getElem.1 h.nd i j (by rw[af,gf];exact si) (by rw[af,gf];exact sj) ij;unfold Kx;rw[le si,le sj];simpa using this
theorem SF.lt{ky:Value->List Str}{a₀:Array Keyed}{st:SortSt}(h:SF ky a₀ st){i j:Nat}(hi:i<a₀.size)(hj:j<a₀.size)(ne:i≠j)(no:lexT (Kx ky (arrOf st) i) (Kx ky (arrOf st) j)=false):kLt ky (arrOf st) j i:=by
 have n:Kx ky (arrOf st) i≠Kx ky (arrOf st) j:=by
  rcases Nat.lt_or_gt_of_ne ne with z|z
  ·exact h.ne z hj
  ·exact(h.ne z hi).symm
 rcases lexT_tot n with c|c
 ·rw[no]at c;cases c
 ·exact c
theorem Up.one{ky:Value->List Str}{xs:Array Keyed}{k:Nat}(h:k<=1):Up ky xs k:=fun i j ij jk=>by omega
theorem Down.one{ky:Value->List Str}{xs:Array Keyed}{k:Nat}(h:k<=1):Down ky xs k:=fun i j ij jk=>by omega
theorem Up.more{ky:Value->List Str}{xs:Array Keyed}{x:Nat}(h:Up ky xs x)(x1:1<=x)(l:kLt ky xs (x-1) x):Up ky xs (x+1):=fun i j ij jk=>by
 by_cases c:j<x
 ·exact h i j ij c
 ·have:j=x:=by omega
  subst this;by_cases d:i=j-1
  ·rw[d];exact l
  ·exact lexT_trans (h i (j-1) (by omega) (by omega)) l
theorem Down.more{ky:Value->List Str}{xs:Array Keyed}{x:Nat}(h:Down ky xs x)(x1:1<=x)(l:kLt ky xs x (x-1)):Down ky xs (x+1):=fun i j ij jk=>by
 by_cases c:j<x
 ·exact h i j ij c
 ·have:j=x:=by omega
  subst this;by_cases d:i=j-1
  ·rw[d];exact l
  ·exact lexT_trans l (h i (j-1) (by omega) (by omega))
section
variable{a₀:Array Keyed}{ky:Value->List Str}{st:SortSt}
theorem lt_at{i j:Nat}{Q:Option Bool->SortSt->Prop}(hF:∀p∈a₀.toList,FcV s.heap (ky p.1) p.1)(hu:A.units+8<cLine)(hB:SF ky a₀ st)(hi:i<a₀.size)(hj:j<a₀.size)(h:Q (some (lexT (Kx ky (arrOf st) i) (Kx ky (arrOf st) j))) st):wpS (model prog w) A E s (ltAt' i j) Q st:=by
 have get:∀{n:Nat},n<a₀.size->∃p,(arrOf st)[n]?=some p/\FcV s.heap (ky p.1) p.1:=fun{n} hn=>by
  have sn:n<(arrOf st).size:=by rw[hB.sz];exact hn
  exact⟨_,le sn,hF _ ((Array.perm_iff_toList_perm.mp hB.pm).mem_iff.mp (by simp))⟩
 obtain⟨p,ep,fp⟩:=get hi;obtain⟨q,eq,fq⟩:=get hj;have kp:Kx ky (arrOf st) i=ky p.1:=by unfold Kx;rw[ep];rfl
 have kq:Kx ky (arrOf st) j=ky q.1:=by unfold Kx;rw[eq];rfl
 rw[kp,kq]at h;rw[ltAt'_eq];refine bq (k9 ?_);show wpS _ _ _ _ (do let x <- elem' (arrOf st) i;let y <- elem' (arrOf st) j;lt' x y) Q st
 rw[elem'_eq,elem'_eq,ep,eq];refine bq (cc (bq (cc ?_)));rw[lt'_eq];refine bq (k9 ?_);rw[hB.kd];refine bq (wpS_lift (wpAny_attempt (keyLt_fcs fp fq hu ⟨rfl,?_⟩)));exact cc h
theorem asc_fc{a n:Nat}{Q:AscSt->SortSt->Prop}(hF:∀p∈a₀.toList,FcV s.heap (ky p.1) p.1)(hu:A.units+8<cLine)(hB:SF ky a₀ st)(hn:n<=a₀.size)(ha:1<=a)(han:a<=n)(up:Up ky (arrOf st) a)
  (h:∀m,a<=m->m<=n->Up ky (arrOf st) m->(m<n->kLt ky (arrOf st) m (m-1))->Q (none,m) st):wpS (model prog w) A E s (ascLoop a n) Q st:=by
 unfold ascLoop;refine k7 (I:=fun x c st'=>st'=st/\c=(none,x)/\Up ky (arrOf st) x) (fun x c st' ax xn hI=>?_) (fun c st' hI=>?_) ⟨rfl,rfl,up⟩
 ·obtain⟨rfl,rfl,ux⟩:=hI;refine bq (lt_at hF hu hB (by omega) (by omega) ?_);show wpS _ _ _ _ (if lexT (Kx ky (arrOf st') x) (Kx ky (arrOf st') (x-1))=true then _ else _) _ _
  by_cases c:lexT (Kx ky (arrOf st') x) (Kx ky (arrOf st') (x-1))=true
  ·rw[if_pos c];exact cc (h x ax (by omega) ux fun _=>c)
  ·rw[if_neg c];refine cc ⟨rfl,rfl,ux.more (by omega) (hB.lt (by omega) (by omega) (by omega) (by simpa using c))⟩
 ·obtain⟨rfl,rfl,ux⟩:=hI;have e:max a n=n:=by omega
  rw[e]at ux ⊢;exact h n han (az _) ux fun z=>absurd z (gH _)
theorem desc_fc{a n:Nat}{Q:DescSt->SortSt->Prop}(hF:∀p∈a₀.toList,FcV s.heap (ky p.1) p.1)(hu:A.units+8<cLine)(hB:SF ky a₀ st)(hn:n<=a₀.size)(ha:1<=a)(han:a<=n)(dn:Down ky (arrOf st) a)
  (h:∀m,a<=m->m<=n->Down ky (arrOf st) m->Q (none,m,0) st):wpS (model prog w) A E s (descLoop a n) Q st:=by
 unfold descLoop;refine k7 (I:=fun x c st'=>st'=st/\c=(none,x,0)/\Down ky (arrOf st) x) (fun x c st' ax xn hI=>?_) (fun c st' hI=>?_) ⟨rfl,rfl,dn⟩
 ·obtain⟨rfl,rfl,dx⟩:=hI;refine bq (lt_at (i:=x) (j:=x-1) hF hu hB (by omega) (by omega) ?_);show wpS _ _ _ _ (if lexT (Kx ky (arrOf st') x) (Kx ky (arrOf st') (x-1))=true then _ else _) _ _
  by_cases c:lexT (Kx ky (arrOf st') x) (Kx ky (arrOf st') (x-1))=true
  ·rw[if_pos c,if_neg (gH 0)];exact cc ⟨rfl,rfl,dx.more (by omega) c⟩
  ·rw[if_neg c];refine bq (lt_at (i:=x-1) (j:=x) hF hu hB (by omega) (by omega) ?_);have l:=hB.lt (i:=x) (j:=x-1) (by omega) (by omega) (by omega) (by simpa using c);show wpS _ _ _ _ (if lexT (Kx ky (arrOf st') (x-1)) (Kx ky (arrOf st') x)=true then _ else _) _ _
   rw[if_pos l];exact cc (h x ax (by omega) dx)
 ·obtain⟨rfl,rfl,dx⟩:=hI;have e:max a n=n:=by omega
  rw[e]at dx ⊢;exact h n han (az _) dx
theorem tail_fc{a n:Nat}{Q:Option Nat->SortSt->Prop}(hF:∀p∈a₀.toList,FcV s.heap (ky p.1) p.1)(hu:A.units+8<cLine)(hB:SF ky a₀ st)(hn:n<=a₀.size)(ha:1<=a)(han:a<=n)(dn:Down ky (arrOf st) a)
  (h:∀m st',SF ky a₀ st'->1<=m->m<=n->Up ky (arrOf st') m->Q (some m) st'):wpS (model prog w) A E s (tail3 a n) Q st:=by
 unfold tail3;have hz:a<=(arrOf st).size:=by rw[hB.sz];omega
 refine bq (wpS_reverse ?_);have hB':=hB.put (mirror_perm (arrOf st) 0 a ((a-0) / 2));have km:∀i,i<a->Kx ky (mirror (arrOf st) 0 a ((a-0) / 2)) i=Kx ky (arrOf st) (a-1-i):=fun i hi=>by
  have e:=getElem?_mirror_all (i:=0) hz i;rw[if_pos ⟨cM _,hi⟩,Nat.zero_add]at e;exact kx_get e
 refine bq (asc_fc hF hu hB' hn ha han (fun i j ij ja=>?_) fun m m1 m2 um _=>cc (h m _ hB' (by omega) m2 um));show lexT (Kx ky (mirror (arrOf st) 0 a ((a-0) / 2)) i) (Kx ky (mirror (arrOf st) 0 a ((a-0) / 2)) j)=true;rw[km i (by omega),km j ja];exact dn _ _ (by omega) (by omega)
theorem count_fc{n:Nat}{Q:Option Nat->SortSt->Prop}(hF:∀p∈a₀.toList,FcV s.heap (ky p.1) p.1)(hu:A.units+8<cLine)(hB:SF ky a₀ st)(hn:n<=a₀.size)(n1:1<=n)
  (h:∀m st',SF ky a₀ st'->1<=m->m<=n->Up ky (arrOf st') m->Q (some m) st'):wpS (model prog w) A E s (countRun' 0 n) Q st:=by
 rw[countRun0_eq];refine bq (asc_fc hF hu hB hn (az 1) n1 (Up.one (az 1)) fun m m1 m2 um lm=>?_);dsimp only;by_cases c:m=n
 ·rw[if_pos (by simpa using c)];exact cc (h m st hB m1 m2 um)
 rw[if_neg (by simpa using c)];have dl:=lm (by omega);by_cases d:m > 1
 ·rw[if_pos d];refine bq (lt_at hF hu hB (by omega) (by omega) ?_);show wpS _ _ _ _ (if lexT (Kx ky (arrOf st) 0) (Kx ky (arrOf st) (m-1))=true then _ else _) _ _
  rw[if_pos (um 0 (m-1) (by omega) (by omega))];exact cc (h m st hB m1 m2 um)
 ·rw[if_neg d];have:m=1:=by omega
  subst this;unfold descPart;refine bq (wpS_lift (ml ⟨rfl,?_⟩));refine bq (desc_fc hF hu hB hn (a:=2) (by decide) (by omega) ((Down.one (az 1)).more (az 1) dl) fun m' a1 a2 dm=>?_);dsimp only;rw[if_neg (gH 0)];exact tail_fc hF hu hB hn (by omega) a2 dm h
theorem insert_fc{n ok:Nat}{Q:Bool->SortSt->Prop}(hF:∀p∈a₀.toList,FcV s.heap (ky p.1) p.1)(hu:A.units+8<cLine)(hB:SF ky a₀ st)(hn:n<=a₀.size)(ok1:1<=ok)(okn:ok<=n)(up:Up ky (arrOf st) ok)
  (h:∀st',SF ky a₀ st'->Up ky (arrOf st') n->Q true st'):wpS (model prog w) A E s (binarySort' 0 n ok) Q st:=by
 rw[binarySort'_eq];simp only[Nat.zero_add];have mx:max ok 1=ok:=by omega
 rw[mx];refine bq (qo (k7 (I:=fun k c st'=>c=(none,())/\SF ky a₀ st'/\Up ky (arrOf st') k) (Q:=fun c st'=>c=(none,())/\SF ky a₀ st'/\Up ky (arrOf st') n) (fun k c st' h1 h2 hI=>?_) (fun c st' hI=>?_) ⟨rfl,hB,up⟩) fun c st' hQ=>?_)
 ·obtain⟨rfl,hB',ux⟩:=hI;have kz:k<a₀.size:=by omega
  refine bq (qo (k7 (I:=fun x c st2=>st2=st'/\∃l r,c=(none,l,r)/\l<=r/\r<=k/\r+x<=k+l/\(∀i,i<l->kLt ky (arrOf st') i k)/\∀i,r<=i->i<k->kLt ky (arrOf st') k i)
   (Q:=fun c st2=>st2=st'/\∃l r,c=(none,l,r)/\l<=k/\(∀i,i<l->kLt ky (arrOf st') i k)/\∀i,l<=i->i<k->kLt ky (arrOf st') k i) (fun x c st2 y1 y2 hJ=>?_) (fun c st2 hJ=>?_) ⟨rfl,0,k,rfl,cM _,az _,by omega,fun i z=>absurd z (Nat.not_lt_zero _),fun i z1 z2=>absurd z2 (by omega)⟩) fun c st2 hK=>?_)
  ·obtain⟨rfl,l,r,rfl,lr,rk,sz,lo,hi⟩:=hJ;dsimp only;by_cases g:l ≥ r
   ·rw[if_pos g];exact cc ⟨rfl,l,r,rfl,by omega,lo,fun i z1 z2=>hi i (by omega) z2⟩
   ·rw[if_neg g];refine bq (lt_at hF hu hB' kz (by omega) ?_);show wpS _ _ _ _ (if lexT (Kx ky (arrOf st2) k) (Kx ky (arrOf st2) ((l+r) / 2))=true then _ else _) _ _
    by_cases c:lexT (Kx ky (arrOf st2) k) (Kx ky (arrOf st2) ((l+r) / 2))=true
    ·rw[if_pos c];refine cc ⟨rfl,l,(l+r) / 2,rfl,by omega,by omega,by omega,lo,fun i z1 z2=>?_⟩;by_cases e:(l+r) / 2=i
     ·rw[<-e];exact c
     ·exact lexT_trans c (ux _ i (by omega) z2)
    ·rw[if_neg c];have c':=hB'.lt (i:=k) (j:=(l+r) / 2) kz (by omega) (by omega) (by simpa using c);refine cc ⟨rfl,(l+r) / 2+1,r,rfl,by omega,rk,by omega,fun i z=>?_,hi⟩;by_cases e:i=(l+r) / 2
     ·rw[e];exact c'
     ·exact lexT_trans (ux i _ (by omega) (by omega)) c'
  ·obtain⟨rfl,l,r,rfl,lr,rk,sz,lo,hi⟩:=hJ;have e:max 0 k=k:=by omega
   rw[e]at sz;exact⟨rfl,l,r,rfl,by omega,lo,fun i z1 z2=>hi i (by omega) z2⟩
  ·obtain⟨rfl,l,r,rfl,lk,lo,hi⟩:=hK;show wpS _ _ _ _ (do moveDown' k l;pure (lh (none,()))) _ _
   rw[moveDown'_eq];have ks:k<(arrOf st2).size:=by rw[hB'.sz];exact kz
   refine bq (wpS_modify (cc ⟨rfl,hB'.put (bubble_perm _ _ _),fun i j ij jk=>?_⟩));have kb:∀m,Kx ky (bubble (arrOf st2) k (k-l)) m=if m=l then Kx ky (arrOf st2) k else if l<m/\m<=k then Kx ky (arrOf st2) (m-1)else Kx ky (arrOf st2) m:=fun m=>by
    have e:=getElem?_bubble ks (k-l) (by omega) m;rw[show k-(k-l)=l by omega]at e;by_cases c1:m=l
    ·rw[if_pos c1]at e ⊢;exact kx_get e
    ·rw[if_neg c1]at e ⊢;by_cases c2:l<m/\m<=k
     ·rw[if_pos c2]at e ⊢;exact kx_get e
     ·rw[if_neg c2]at e ⊢;exact kx_get e
   show lexT (Kx ky (bubble (arrOf st2) k (k-l)) i) (Kx ky (bubble (arrOf st2) k (k-l)) j)=true;rw[kb,kb];by_cases a1:i=l
   ·rw[if_pos a1,if_neg (by omega),if_pos (by omega)];exact hi _ (by omega) (by omega)
   ·rw[if_neg a1];by_cases a2:j=l
    ·rw[if_pos a2,if_neg (by omega)];exact lo i (by omega)
    ·rw[if_neg a2];by_cases b1:l<i
     ·rw[if_pos (by omega),if_pos (by omega)];exact ux _ _ (by omega) (by omega)
     ·rw[if_neg (by omega)];by_cases b2:l<j
      ·rw[if_pos (by omega)];exact ux _ _ (by omega) (by omega)
      ·rw[if_neg (by omega)];exact ux _ _ ij (by omega)
 ·obtain⟨hc,hB',ux⟩:=hI;have e:max ok n=n:=by omega
  rw[e]at ux;exact⟨hc,hB',ux⟩
 ·obtain⟨rfl,hB',ux⟩:=hQ;exact cc (h st' hB' ux)
theorem runs_fc{Q:Unit->SortSt->Prop}(hF:∀p∈a₀.toList,FcV s.heap (ky p.1) p.1)(hu:A.units+8<cLine)(hB:SF ky a₀ st)(n2:2<=a₀.size)(n64:a₀.size<64)
  (h:∀st',(arrOf st').Perm a₀->ny st'=none->Up ky (arrOf st') a₀.size->Q () st'):wpS (model prog w) A E s sortRuns' Q st:=by
 rw[sortRuns'_eq];refine bq (k9 ?_);dsimp only;rw[hB.sz];have mr:minRun' a₀.size a₀.size 0=a₀.size:=by
  obtain⟨f,hf⟩:∃f,a₀.size=f+1:=⟨a₀.size-1,by omega⟩;have e:minRun' (f+1) a₀.size 0=a₀.size:=by rw[minRun'_succ,if_pos n64];rfl
  rw[<-hf]at e;exact e
 rw[mr];refine bq (qo (k7
  (I:=fun x c st'=>(x=0/\c=(none,0)/\SF ky a₀ st')∨(1<=x/\c=(none,a₀.size)/\(arrOf st').Perm a₀/\ny st'=none/\Up ky (arrOf st') a₀.size/\im st'=#[(0,a₀.size,0)]))
  (Q:=fun c st'=>c=(none,a₀.size)/\(arrOf st').Perm a₀/\ny st'=none/\Up ky (arrOf st') a₀.size/\im st'=#[(0,a₀.size,0)]) (fun x c st' _ xn hI=>?_) (fun c st' hI=>?_) (.inl ⟨rfl,rfl,hB⟩)) fun c st' hQ=>?_)
 ·rcases hI with⟨rfl,rfl,hB'⟩|⟨x1,rfl,hD⟩
  ·dsimp only;rw[if_neg (by omega)];simp only[qt,Nat.zero_add,Nat.min_self];refine bq (count_fc hF hu hB' (az _) (by omega) fun m st2 hB2 m1 m2 um=>?_);dsimp only;have push:∀st3,SF ky a₀ st3->Up ky (arrOf st3) a₀.size->(setPending st3 ((im st3).push (0,a₀.size,0))=setPending st3 #[(0,a₀.size,0)]):=fun st3 hB3 _=>by rw[hB3.pe];rfl
   by_cases c:m<a₀.size
   ·rw[if_pos c];refine bq (wpS_lift (ml ⟨rfl,?_⟩));refine bq (insert_fc hF hu hB2 (az _) m1 m2 um fun st3 hB3 u3=>?_);simp only[sF,io,if_false];refine bq (k9 ?_);rw[show(im st3).back?=none by rw[hB3.pe];rfl];dsimp only;refine bq (wpS_modify (cc (.inr ⟨by omega,rfl,hB3.pm,hB3.fl,u3,?_⟩)));show(im st3).push _=_;rw[hB3.pe];rfl
   ·rw[if_neg c];have:m=a₀.size:=by omega
    subst this;refine bq (k9 ?_);rw[show(im st2).back?=none by rw[hB2.pe];rfl];dsimp only;refine bq (wpS_modify (cc (.inr ⟨by omega,rfl,hB2.pm,hB2.fl,um,?_⟩)));show(im st2).push _=_;rw[hB2.pe];rfl
  ·dsimp only;rw[if_pos (az _)];exact cc ⟨rfl,hD⟩
 ·rcases hI with⟨hx,_,_⟩|⟨_,hc,hD⟩
  ·omega
  ·exact⟨hc,hD⟩
 ·obtain⟨rfl,hD⟩:=hQ;dsimp only;refine bq (qo (k7 (I:=fun _ c st2=>st2=st'/\c=(none,())) (Q:=fun c st2=>st2=st'/\c=(none,())) (fun x c st2 _ _ hI=>?_) (fun _ _ z=>z) ⟨rfl,rfl⟩) fun c st2 hI=>?_)
  ·obtain⟨rfl,rfl⟩:=hI;refine bq (k9 ?_);rw[if_pos (by rw[hD.2.2.2];exact az 1)];exact cc ⟨rfl,rfl⟩
  ·obtain⟨rfl,rfl⟩:=hI;exact cc (h _ hD.1 hD.2.1 hD.2.2.1)
end
end
theorem strsAre_inj:∀{vs:Zf}{f g:Zb},jm vs f->jm vs g->f=g
 |_,_,_,.nil,.nil=>rfl
 |_,_,_,.cons y t a,b=>by
  cases b with
  |cons _ _ b=>rw[strsAre_inj a b]
theorem FcV.inj{h:Heap}{f g:Zb}{v:Value}(a:FcV h f v)(b:FcV h g v):f=g:=by
 obtain⟨p,i,rfl,h1,h2⟩:=a;obtain⟨q,j,e,h3,h4⟩:=b;cases e;rw[L2.isTuple_inj h1 h3]at h2;exact strsAre_inj h2 h4
open Classical in
def kyOf(h:Heap)(v:Value):List Str:=if e:∃f,FcV h f v then e.choose else[]
theorem kyOf_eq{h:Heap}{f:Zb}{v:Value}(a:FcV h f v):kyOf h v=f:=by
 have e:∃f,FcV h f v:=⟨f,a⟩;unfold kyOf;rw[dif_pos e];exact e.choose_spec.inj a
theorem kyOf_map{h:Heap}:∀{fs:List (List Str)}{vs:Zf},Fcs h fs vs->vs.map (kyOf h)=fs
 |_,_,.nil=>rfl
 |_,_,.cons q _ r=>by rw[aY,kyOf_eq q,kyOf_map r]
theorem Fcs.all{h:Heap}:∀{fs:List (List Str)}{vs:Zf},Fcs h fs vs->∀v∈vs,FcV h (kyOf h v) v
 |_,_,.nil,v,hv=>by cases hv
 |_,_,.cons q _ r,v,hv=>by
  rcases cI.1 hv with rfl|hv
  ·rw[kyOf_eq q];exact q
  ·exact r.all v hv
section
variable{prog:bm}{w:World}{A:Around}{E:Zc}{s:Shared}
theorem pairs_fst(vs:Zf):(fh vs).toList.map (·.1)=vs:=by rw[pairsOf_toList,List.map_fst_zip (az _)]
theorem pairs_same{vs:Zf}{p:Keyed}(h:p∈(fh vs).toList):p.1=p.2/\p.1∈vs:=by rw[pairsOf_toList]at h;exact mem_zip_self h
theorem out_perm{vs:Zf}{xs:Array Keyed}(h:xs.Perm (fh vs)):(xs.map (·.2)).toList.Perm vs/\(xs.map (·.2)).toList=xs.toList.map (·.1):=by
 have hl:=Array.perm_iff_toList_perm.mp h;have e:(xs.map (·.2)).toList=xs.toList.map (·.1):=by
  rw[Array.toList_map];exact lg fun p hp=>(pairs_same (hl.mem_iff.mp hp)).1.symm
 refine⟨?_,e⟩;rw[e];have:=hl.map (fun p:Keyed=>p.1);rw[pairs_fst]at this;exact this
def OutOk(h:Heap)(vs:Zf)(out:Array Value):Prop:=out.toList.Perm vs/\(out.toList.map (kyOf h)).Pairwise fun a b=>lexT a b=true
theorem up_out{h:Heap}{vs:Zf}{xs:Array Keyed}(hp:xs.Perm (fh vs))(up:Up (kyOf h) xs (fh vs).size):OutOk h vs (xs.map (·.2)):=by
 obtain⟨h1,h2⟩:=out_perm hp;refine⟨h1,?_⟩;rw[h2,gU];refine List.pairwise_iff_getElem.2 fun i j hi hj ij=>?_;rw[af,gf]at hi hj;have:=up i j ij (by rw[<-hp.size_eq];exact hj);unfold kLt Kx at this;rw[le hi,le hj]at this;simpa using this
theorem sort_fcs{a:Addr}{vs:Zf}{fs:List (List Str)}{n:Nat}{P:Fin->Shared->Prop}(ho:s.heap.get? a=some (seqObj "list" vs.toArray n))
  (hW:Fcs s.heap fs vs) (nd:fs.Nodup) (hz:vs.length<64) (hu:A.units+8<cLine)
  (h:∀out,OutOk s.heap vs out->P (.done (.ret .none)) { s with heap:=qk s.heap a vs out }) :
  wpAny (model prog w) A (cf.«list.sort» ⟨[.ref a],[]⟩) P E s:=by
 rw[list_sort_plain];have ha:a<s.heap.objs.size:=aP ho;refine ak (qp ho rfl (ak (listUpdate_at ho rfl ?_)));obtain⟨e1,ho1⟩:∃e1,(s.heap.update a (dE fun _=>#[])).get? a=some (seqObj "list" #[] e1):=⟨_,get?_update_seq ho (fun _=>#[])⟩;refine ak (seqEpoch_at ho1 rfl (ak (wpAny_newTuple (ak (wpAny_newList (ik ?_))))));have ho6:(((s.heap.update a (dE fun _=>#[])).push (seqObj "tuple" vs.toArray 0)).push (seqObj "list" #[] 0)).get? a=some (seqObj "list" #[] e1):=by
  rw[Heap.get?_push_ne _ _ _ (by rw[size_push',Heap.size_update];exact bD (Nat.lt_succ_of_lt ha)),Heap.get?_push_ne _ _ _ (by rw[Heap.size_update];exact bD ha)];exact ho1
 have keep:∀b o,s.heap.get? b=some o->o.cls=.type "tuple"->(((s.heap.update a (dE fun _=>#[])).push (seqObj "tuple" vs.toArray 0)).push (seqObj "list" #[] 0)).get? b=some o:=fun b o q c=>by
  have nb:b≠a:=fun z=>by
   rw[z,ho]at q;injection q with q;rw[<-q]at c;simp at c
  exact bj _ (bj _ (by rw[qj _ _ _ _ nb];exact q))
 show wpAny (model prog w) A _ P E { s with heap:=((s.heap.update a (dE fun _=>#[])).push (seqObj "tuple" vs.toArray 0)).push (seqObj "list" #[] 0) };dsimp only;by_cases h2:vs.toArray.size<2
 ·rw[if_pos h2,if_pos h2];refine ak (aB ?_);rw[StateT.run_pure];refine ak (aB ?_);dsimp only;refine ak (seqEpoch_at ho6 rfl (ak (listUpdate_at ho6 rfl ?_ (hsz2:=by rw[Array.size_map];show(fh vs).size<=_;rw[nv,vy];omega))));simp only[bne_self_eq_false,io,if_false];refine aB (h _ (up_out (Array.Perm.refl _) (Up.one ?_)));rw[nv];have:vs.toArray.size=vs.length:=by simp
  omega
 ·rw[if_neg h2,if_neg h2];obtain⟨v₁,v₂,rest,rfl⟩:∃v₁ v₂ rest,vs=v₁::v₂::rest:=by
   cases vs with
   |nil=>simp at h2
   |cons v₁ vs=>cases vs with
    |nil=>simp at h2
    |cons v₂ rest=>exact⟨v₁,v₂,rest,rfl⟩
  have hW':=hW.mono keep;have al:=hW'.all;have ek:∀v∈v₁::v₂::rest,kyOf (((s.heap.update a (dE fun _=>#[])).push (seqObj "tuple" (v₁::v₂::rest).toArray 0)).push (seqObj "list" #[] 0)) v=kyOf s.heap v:=fun v hv=>kyOf_eq ((hW.all v hv).mono keep);refine ak (keyKind_fcs hW' ?_);refine ak (hZ (runs_fc (ky:=kyOf s.heap) (a₀:=fh (v₁::v₂::rest)) (st:=SortSt.mk' (k_ true) ((v₁::v₂::rest).toArray.zip (v₁::v₂::rest).toArray) #[] 7 none)
   (Q:=fun _ st'=>(arrOf st').Perm (fh (v₁::v₂::rest))/\ny st'=none/\Up (kyOf s.heap) (arrOf st') (fh (v₁::v₂::rest)).size)
   (fun p hp=>by obtain⟨_,hm⟩:=pairs_same hp;rw[<-ek _ hm];exact al _ hm) hu ⟨Array.Perm.refl _,rfl,rfl,rfl,?_⟩ (by rw[nv];simp) (by rw[nv];exact hz) fun st' a1 a2 a3=>⟨a1,a2,a3⟩) ?_ fun _ _ e=>e)
  ·show((fh (v₁::v₂::rest)).toList.map fun p=>kyOf s.heap p.1).Nodup;have:((fh (v₁::v₂::rest)).toList.map fun p=>kyOf s.heap p.1)=((fh (v₁::v₂::rest)).toList.map (·.1)).map (kyOf s.heap):=by rw[gU];rfl
   rw[this,pairs_fst,kyOf_map hW];exact nd
  rintro⟨⟨⟩,st'⟩ s' ⟨rfl,hp,hf,up⟩;dsimp only at hp hf up ⊢;refine ak (seqEpoch_at ho6 rfl (ak (listUpdate_at ho6 rfl ?_ (hsz2:=by refine aO (Nat.le_of_eq ((Array.size_map ..).trans (hp.size_eq.trans (nv _)))) ?_;rw[vy];omega))));rw[hf];simp only[bne_self_eq_false,io,if_false];exact aB (h _ (up_out hp up))
theorem sorted_fcs{l:Addr}{vs:Zf}{fs:List (List Str)}{Q:Zc}(hl:s.heap.IsList l vs.toArray)(hW:Fcs s.heap fs vs)(nd:fs.Nodup)(hz:vs.length<64)(hu:A.units+16<cLine)
  (h:∀out,OutOk s.heap vs out->Q (.ref (s.heap.objs.size+1)) { s with heap:=sortedAll s.heap vs out }) :
  wpAny (model prog w) A (call (.builtin "sorted") [.ref l]) Q E s:=by
 refine Calls.call_function_entry kind_sorted plain_sorted entry_sorted (args_sorted1 _) ?_;unfold cf.«sorted»;refine ak (m:=checkCount "sorted" 1 1 _) (aB ?_);refine ak (collect_list hl (ak (wpAny_newList ?_)));have hsz:((s.heap.push (seqObj "list" #[] 0)).update s.heap.objs.size (dE (·++vs.toArray))).objs.size=s.heap.objs.size+1:=by
  rw[Heap.size_update,size_push']
 have hoL:(((s.heap.push (seqObj "list" #[] 0)).update s.heap.objs.size (dE (·++vs.toArray))).push (seqObj "list" vs.toArray 0)).get? (s.heap.objs.size+1)=some (seqObj "list" vs.toArray 0):=by
  rw[<-hsz];exact cO _ rfl
 have keep:∀b o,s.heap.get? b=some o->o.cls=.type "tuple"->(((s.heap.push (seqObj "list" #[] 0)).update s.heap.objs.size (dE (·++vs.toArray))).push (seqObj "list" vs.toArray 0)).get? b=some o:=fun b o q c =>
  bj _ (by rw[qj _ _ _ _ (bD (aP q))];exact bj _ q)
 show wpAny _ _ _ _ _ { s with heap:=((s.heap.push (seqObj "list" #[] 0)).update s.heap.objs.size (dE (·++vs.toArray))).push (seqObj "list" vs.toArray 0) };rw[hsz];refine ak (ik (ue slot_list_sort ⟨_,hoL,rfl⟩ entry_list_sort (sort_fcs hoL (hW.mono keep) nd hz (by show A.units+1+1+8<cLine;omega) fun out ok=>⟨_,rfl,?_⟩) (args_list_sort _)));refine aB ⟨_,rfl,h out ⟨ok.1,?_⟩⟩;have e:∀v∈out.toList,kyOf (((s.heap.push (seqObj "list" #[] 0)).update s.heap.objs.size (dE (·++vs.toArray))).push (seqObj "list" vs.toArray 0)) v=kyOf s.heap v:=fun v hv=>kyOf_eq ((hW.all v (ok.1.mem_iff.1 hv)).mono keep);rw[<-lg e];exact ok.2
end
end HT
end

section
set_option Elab.async false
set_option linter.all false
set_option maxRecDepth 100000
namespace L2
open PySem PySem.Spec PyProof.Rows
def z8(f:Zb):DT:=.t (f.map fun x=>DT.k (.inr x))
inductive T3(R:V->Value->List Str->Prop):List V->List Value->List (List Str)->Prop
 |nil:T3 R [] [] []
 |cons {v u f vs us fs}:R v u f->T3 R vs us fs->T3 R (v::vs) (u::us) (f::fs)
theorem T3.perm{R:V->Value->List Str->Prop}{us us':Zf}(p:us'.Perm us):∀{vs:List V}{fs:List (List Str)},T3 R vs us fs->∃vs' fs',T3 R vs' us' fs'/\(vs'.zip fs').Perm (vs.zip fs):=by
 induction p with
 |nil=>intro vs fs h;exact⟨vs,fs,h,.refl _⟩
 |cons x _ ih =>
  intro vs fs h;cases h with
  |cons r t =>
   obtain⟨vs',fs',h1,h2⟩:=ih t;exact⟨_,_,.cons r h1,h2.cons _⟩
 |swap x y l =>
  intro vs fs h;cases h with
  |cons r t =>
   cases t with
   |cons r' t'=>exact⟨_,_,.cons r' (.cons r t'),.swap _ _ _⟩
 |trans _ _ ih1 ih2 =>
  intro vs fs h;obtain⟨vs',fs',h1,h2⟩:=ih2 h;obtain⟨vs'',fs'',k1,k2⟩:=ih1 h1;exact⟨vs'',fs'',k1,k2.trans h2⟩
abbrev re(K:Za):List V->Hp->VK->Prop:=fun xs H Q=>∃(a:Addr) (vs:List V) (fs:List (List Str)),xs=[.ref a]/\av K H a vs/\DIns K H (fs.map z8) vs/\(∀f∈fs,f≠[])/\fs.Nodup/\vs.length<64 /\
 ∀(p:Addr) (zs:List (V×List Str)),H p=none->zs.Perm (vs.zip fs)->(zs.map fg).Pairwise (fun f g=>HT.lexT f g=true)->Q (.ref p) (upd H p (.lst (zs.map da)))
section
variable{X:Cx}
theorem lz:∀fs:List (List Str),DT.depths (fs.map z8)<=8
 |[]=>cM _
 |f::fs=>by
  refine Nat.max_le.2 ⟨?_,lz fs⟩;have:∀f:List Str,DT.depths (f.map fun x=>DT.k (.inr x))=0:=fun f=>by
   induction f with
   |nil=>rfl
   |cons a r ih=>show max 0 (DT.depths _)=0;rw[ih];rfl
  show DT.depths (f.map fun x=>DT.k (.inr x))+1<=8;rw[this];decide
theorem lI{h:Heap}:∀{f:Zb}{vs:Zf},DAts h (f.map fun x=>DT.k (.inr x)) vs->jm vs f
 |[],vs,e=>by have e:vs=[]:=e;subst e;exact .nil
 |n::ns,vs,e=>by
  obtain⟨v,us,rfl,h1,h2⟩:=e;obtain⟨t,rfl⟩:∃t,v=.str n t:=by
   have h1:bY (.inr n) v=true:=h1;rcases ap h1 with⟨i,t,e,_⟩|⟨i,t,e,rfl⟩
   ·cases e
   ·cases e;exact⟨t,rfl⟩
  exact .cons n t (lI h2)
theorem yt{h:Heap}{K:Za}{H:Hp}:∀{fs:List (List Str)}{vs:List V}{us:Zf},(∀f∈fs,f≠[])->DIns K H (fs.map z8) vs->DAts h (fs.map z8) us->aL vs us->HT.Fcs h fs us/\T3 (fun v u f=>RelV v u/\iM K H (z8 f) v/\HT.FcV h f u) vs us fs
 |[],vs,us,_,a,b,_=>by
  have a:vs=[]:=a;have b:us=[]:=b;subst a b;exact⟨.nil,.nil⟩
 |f::fs,vs,us,ne,a,b,r=>by
  obtain⟨v,vs',rfl,a1,a2⟩:=a;obtain⟨u,us',rfl,⟨p,items,e,hi,hd⟩,b2⟩:=b;cases r with
  |cons r1 r2 =>
   obtain⟨h1,h2⟩:=yt (fun g hg=>ne g (dO _ hg)) a2 b2 r2;have fv:HT.FcV h f u:=⟨p,items,e,hi,lI hd⟩;exact⟨.cons fv (ne f cQ) h1,.cons ⟨r1,a1,fv⟩ h2⟩
theorem jy{R:V->Value->List Str->Prop}:∀{vs:List V}{us:Zf}{fs:List (List Str)},T3 R vs us fs->(vs.zip fs).map da=vs/\(vs.zip fs).map fg=fs
 |_,_,_,.nil=>⟨rfl,rfl⟩
 |_,_,_,.cons r t=>by
  obtain⟨h1,h2⟩:=jy t;exact⟨congrArg (_::·) h1,congrArg (_::·) h2⟩
theorem xy{h:Heap}{K:Za}{H:Hp}:∀{fs:List (List Str)}{vs:List V}{us:Zf},T3 (fun v u f=>RelV v u/\iM K H (z8 f) v/\HT.FcV h f u) vs us fs->aL vs us/\DIns K H (fs.map z8) vs/\us.map (HT.kyOf h)=fs
 |_,_,_,.nil=>⟨.nil,rfl,rfl⟩
 |_,_,_,.cons r t=>by
  obtain⟨h1,h2,h3⟩:=xy t;exact⟨.cons r.1 h1,⟨_,_,rfl,r.2.1,h2⟩,by rw[aY,h3,HT.kyOf_eq r.2.2]⟩
theorem oJ(hu:X.A.units+16<cLine):d7 X (.builtin "sorted") (re X.K):=by
 intro J3 s σ H xs us Q I r h;obtain⟨a,vs,fs,rfl,hq,hd,ne,nd,hz,q⟩:=h;obtain⟨u,rfl,ru⟩:=vals1 r;cases ru;obtain⟨its,rv,pl,_⟩:=I.list hq;have il:=rv.length;obtain⟨hW,h3⟩:=yt ne hd (iX I (lz fs) hd rv) rv;refine HT.sorted_fcs pl.isList hW nd (by omega) hu fun out ok=>?_;obtain⟨vs',fs',t3,pz⟩:=h3.perm ok.1;obtain⟨z1,z2⟩:=jy t3;obtain⟨z3,_⟩:=jy h3;have pv:vs'.Perm vs:=by have:=pz.map da;rw[z1,z3]at this;exact this
 obtain⟨rv',hd',ek⟩:=xy t3;have sorted:=ok.2;rw[ek]at sorted;obtain⟨e,he⟩:=sortedAll_at s.heap its out;have D:s.heap.objs.size<=s.heap.objs.size+1:=Nat.le_add_right _ _;refine⟨.ref (s.heap.objs.size+1),upd H (s.heap.objs.size+1) (.lst vs'),I.many (N:=[s.heap.objs.size+1]) (t':=s.toks) (fun b o e=>sortedAll_old e) (fun b hb=>?_) (fun b hb=>?_) fun b hb o ho=>?_,rfl,?_⟩
 ·rw[bM.1 hb];exact D
 ·rw[ai fun z=>hb (by rw[z];exact bM.2 rfl)]
 ·rw[bM.1 hb]at ho ⊢;rw[aa]at ho;cases ho;refine⟨?_,out.toList,e,rv',by simpa using he⟩;have:=pv.length_eq;have:64<=aj:=by decide
  omega
 ·have:=q _ (vs'.zip fs') (I.hok.fresh D) pz (by rw[z2];exact sorted);rw[z1]at this;exact this
end
theorem sZ{f g:List (List Str)}(p:f.Perm g)(a:f.Pairwise fun x y=>HT.lexT x y=true)(b:g.Pairwise fun x y=>HT.lexT x y=true):f=g:=by
 induction f generalizing g with
 |nil=>exact(List.Perm.nil_eq p)
 |cons x f ih =>
  cases g with
  |nil=>exact absurd p.length_eq (by simp)
  |cons y g =>
   rw[List.pairwise_cons]at a b;have e:x=y:=by
    by_cases c:x=y
    ·exact c
    ·have h1:y∈f:=by
      rcases cI.1 (p.symm.subset cQ)with z|z
      ·exact absurd z.symm c
      ·exact z
     have h2:x∈g:=by
      rcases cI.1 (p.subset cQ)with z|z
      ·exact absurd z c
      ·exact z
     have:=HT.lexT_trans (a.1 y h1) (b.1 x h2);rw[HT.lexT_irr]at this;cases this
   subst e;rw[ih (List.Perm.cons_inv p) a.2 b.2]
section
variable{prog:bm}{w:World}{A:Around}{E:Zc}{s:Shared}{d v it:Addr}{es:Array iq}{ep i:Nat}
theorem uL(hd:(d==fO)=false)(h:pA s.heap d es ep):∃oI:Obj,(∀(E Q:Zc),Q (.ref s.heap.objs.size) { s with heap:=s.heap.push oI }->wpAny (model prog w) A (pyIter (.ref d)) Q E s)/\(s.heap.push oI).IsKeyIter s.heap.objs.size d 0 es.size ep:=by
 obtain⟨o,ho,hx,hdat⟩:=h.ex;refine⟨{ cls:=.type "dict_keyiterator",data:=.fields #[.ref d,rawInt 0,rawInt es.size,rawInt ep] },fun E Q q=>?_,⟨_,cO _ rfl,rfl,by simp[rawInt]⟩⟩;refine wpAny_pyIter_slot h.ty F.slot_dict_iter <| ue F.slot_dict_iter h.ty F.entry_dict_iter ?_ (F.args_dict_iter_1 _);unfold cf.«dict.__iter__»;refine ak ?_;unfold cf.Dict.dictSlotNone;refine ak <| wpAny_notOrdered_dict h.ty <| ?_;refine aB (show wpAny _ _ (cf.Dict.showsAll d >>= _) _ _ s from ?_);unfold cf.Dict.showsAll;rw[if_neg (fun z=>by rw[hd]at z;cases z)];refine ak <| aB <| ak <| qy ho hdat <| ak <| wpAny_dictEpoch ho hdat ?_;exact ak (nH (aB ⟨_,rfl,"dict_keyiterator",_,⟨_,cO _ rfl,rfl⟩,nA.lookup,q⟩))
end
theorem pA.kept{h h':Heap}{d:Addr}{es:Array iq}{ep:Nat}(r:pA h d es ep)(k:∀o,h.get? d=some o->h'.get? d=some o):pA h' d es ep:=let⟨o,ho,e⟩:=r.ex;⟨o,k o ho,e⟩
theorem zy{prog:bm}{w:World}{d:Addr}{es:Array iq}{ep:Nat}(hd:(d==fO)=false):PySem.W.KdlSrc prog w "dict" d d es.size (fun i v=>(es[i]?).map (·.key)=some v) fun h=>pA h d es ep where
 type:=fun s r=>r.ty
 there:=fun h r=>by obtain⟨o,ho,_⟩:=r.ex;exact⟨aP ho,aP ho⟩
 keep:=fun h h' r k=>r.kept (k d (.inl rfl))
 notList:=by decide
 notTuple:=by decide
 hint:=fun A E s Q r q=>PySem.W.kdl_hint_dict r.ty q
 iter:=fun A s hh r=>by
  obtain⟨oI,h1,h2⟩:=uL (prog:=prog) (w:=w) (A:=A) hd r;have ne:d≠s.heap.objs.size:=by obtain⟨o,ho,_⟩:=r.ex;exact bD (aP ho)
  refine⟨oI,fun i h=>h.IsKeyIter s.heap.objs.size d i es.size ep/\pA h d es ep,h1,⟨by simp,?_,?_,?_,?_⟩,h2,r.kept fun o e=>bj _ e⟩
  ·rintro i h h' ⟨a,b⟩ k;obtain⟨o,e,c⟩:=a;exact⟨⟨o,k _ (by simp) o e,c⟩,b.kept fun o e=>k d (by simp) o e⟩
  ·rintro i s' Q E hi ⟨a,b⟩ q;refine wv a b hi fun h' a' sb=>q _ _ _ (by simp[hi]) ⟨a',b.kept fun o e=>(sb.2 d ne).trans e⟩ fun b o nb e=>(sb.2 b (by simpa using nb)).trans e
  ·rintro s' Q E ⟨a,b⟩ q;exact xJ hh a b (az _) fun h' eb=>q _ _ fun b o nb e=>eb b o (by simpa using nb) e
  ·rintro i s' Q E ⟨a,b⟩ q;exact wpAny_pyIter_keyiter a q
end L2
end

section
set_option Elab.async false
set_option linter.all false
set_option maxRecDepth 100000
namespace HT
open PySem PyProof.Rows
theorem sortedHeap_at{h:Heap}{a:Addr}{xs:Array Value}{n:Nat}{vs:Zf}{out:Array Value}(ho:h.get? a=some (seqObj "list" xs n)):∃e,(qk h a vs out).get? a=some (seqObj "list" out e):=by
 have h1:=get?_update_seq ho (fun _=>#[]);have h2:=bj (seqObj "list" #[] 0) (bj (seqObj "tuple" vs.toArray 0) h1);exact⟨_,get?_update_seq h2 (fun _=>out)⟩
theorem sortedHeap_old{h:Heap}{a b:Addr}{o:Obj}{vs:Zf}{out:Array Value}(hb:b≠a)(e:h.get? b=some o):(qk h a vs out).get? b=some o:=by
 unfold qk;rw[qj _ _ _ _ hb];exact bj _ (bj _ (by rw[qj _ _ _ _ hb];exact e))
section
variable{prog:bm}{w:World}{A:Around}{E:Zc}{s:Shared}{T:String}{r d:Addr}{n:Nat}{P:Nat->Value->Prop}{OK:Heap->Prop}
open PySem.Calls PyProof.V PySem.Spec in
theorem collect_src{R:List Value->Shared->Prop}(K:PySem.W.KdlSrc prog w T r d n P OK)(hh:A.handled=none)(hok:OK s.heap)(hn:n<=aj)
  (h:∀(h':Heap) (tk:Nat) (acc:Array Value),(∀b o,s.heap.get? b=some o->h'.get? b=some o)->s.heap.objs.size<=h'.objs.size->nu P acc n->R acc.toList { s with heap:=h',toks:=tk }) :
  wpAny (model prog w) A (collect (.ref r)) R E s:=by
 obtain⟨l1,l2⟩:=K.there _ hok;unfold collect;refine ak (wpAny_runValue (qx entry_proto_collect' ?_));rw[qw PySem.F.plain_proto_collect _];refine ak (m:=newList []) (nH (aB ⟨plainId_quiet PySem.F.plain_list_iadd _,qx entry_list_iadd' ?_⟩));rw[qw PySem.F.plain_list_iadd _];have S1:(s.heap.push { cls:=.type "list",data:=.seq ([]:Zf).toArray }).get? s.heap.objs.size=some { cls:=.type "list",data:=.seq #[] }:=cO _ rfl
 let G:Result->Shared->Prop:=fun q s'=>∃(h':Heap) (tk:Nat) (acc:Array Value) (c:Nat),q=.ok (.ret (.ref s.heap.objs.size))/\s'={ s with heap:=h',toks:=tk }/\(∀b o,s.heap.get? b=some o->h'.get? b=some o)/\h'.get? s.heap.objs.size=some { cls:=.type "list",dict:=none,data:=.seq acc c,slots:=#[] }/\nu P acc n
 have key:=PySem.W.kdl_extend (A:=A) (s:={ s with heap:=s.heap.push { cls:=.type "list",data:=.seq ([]:Zf).toArray } }) (R:=G) K hh (K.keep _ _ hok fun b _ o e=>bj _ e) s.heap.objs.size (pJ l1) (pJ l2) (.ref s.heap.objs.size) 0 S1
  (fun h' tk acc c hk hS ia=>⟨h',tk,acc,c,rfl,rfl,fun b o e=>hk b o (bD (aP e)) (bj _ e),hS,ia⟩) hn
 have fin:∀(h':Heap) (tk:Nat) (acc:Array Value) (c:Nat),(∀b o,s.heap.get? b=some o->h'.get? b=some o)->h'.get? s.heap.objs.size=some { cls:=.type "list",dict:=none,data:=.seq acc c,slots:=#[] }->nu P acc n->wpAny (model prog w) A (load s.heap.objs.size >>= fun o=>match o.data with
   |.seq xs _=>pure xs.toList
   |_=>unsupported "internal:collect") R E { s with heap:=h',toks:=tk }:=fun h' tk acc c hk hS ia=>ak (wpAny_load hS (aB (h h' tk acc hk (dU (aP hS)) ia)))
 refine hZ key (fun f s' x=>?_) fun e s' x=>?_
 ·cases f with
  |done f =>
   obtain⟨h',tk,acc,c,e,rfl,hk,hS,ia⟩:=x;cases e;exact fin h' tk acc c hk hS ia
  |again c1 =>
   refine⟨x.1,sy x.2 fun q s2 y=>?_⟩;obtain⟨h',tk,acc,c,rfl,rfl,hk,hS,ia⟩:=y;exact fin h' tk acc c hk hS ia
 ·obtain⟨_,_,_,_,e',_⟩:=x;cases e'
theorem sorted_src{vs:Zf}{fs:List (List Str)}{Q:Zc}(K:PySem.W.KdlSrc prog w T r d n P OK)(hh:A.handled=none)(hok:OK s.heap)(hn:n<=aj)(hacc:∀acc,nu P acc n->acc.toList=vs)
  (hW:Fcs s.heap fs vs) (nd:fs.Nodup) (hz:vs.length<64) (hu:A.units+16<cLine)
  (h:∀(h':Heap) (p:Addr) (tk:Nat) (out:Array Value) (e:Nat),OutOk s.heap vs out->(∀b o,s.heap.get? b=some o->h'.get? b=some o)->s.heap.objs.size<=p->h'.get? p=some (seqObj "list" out e)->Q (.ref p) { s with heap:=h',toks:=tk }) :
  wpAny (model prog w) A (call (.builtin "sorted") [.ref r]) Q E s:=by
 refine Calls.call_function_entry kind_sorted plain_sorted entry_sorted (args_sorted1 _) ?_;unfold cf.«sorted»;refine ak (m:=checkCount "sorted" 1 1 _) (aB ?_);refine ak (collect_src (A:=A.in1) K hh hok hn fun h1 tk acc k1 hle ia=>?_);rw[hacc acc ia];refine ak (wpAny_newList ?_);have hoL:(h1.push (seqObj "list" vs.toArray 0)).get? h1.objs.size=some (seqObj "list" vs.toArray 0):=cO _ rfl;have k2:∀b o,s.heap.get? b=some o->(h1.push (seqObj "list" vs.toArray 0)).get? b=some o:=fun b o e=>bj _ (k1 b o e);show wpAny _ _ _ _ _ { s with heap:=h1.push (seqObj "list" vs.toArray 0),toks:=tk };refine ak (ik (ue slot_list_sort ⟨_,hoL,rfl⟩ entry_list_sort (sort_fcs hoL (hW.mono fun b o e _=>k2 b o e) nd hz (by show A.units+1+1+8<cLine;omega) fun out ok=>⟨_,rfl,?_⟩) (args_list_sort _)));obtain⟨e,he⟩:=sortedHeap_at (vs:=vs) (out:=out) hoL;refine aB ⟨_,rfl,h _ _ tk out e ⟨ok.1,?_⟩ (fun b o q=>sortedHeap_old (bD (ei (aP q) hle)) (k2 b o q)) hle he⟩;have ek:∀v∈out.toList,kyOf (h1.push (seqObj "list" vs.toArray 0)) v=kyOf s.heap v:=fun v hv=>kyOf_eq ((hW.all v (ok.1.mem_iff.1 hv)).mono fun b o e _=>k2 b o e);rw[<-lg ek];exact ok.2
end
end HT
end

section
set_option Elab.async false
set_option linter.all false
set_option maxRecDepth 100000
namespace L2
open PySem PySem.Spec PyProof.Rows
def txK(f:Zb):TK:=.t (f.map fun x=>TK.k (some (.inr x)))
theorem pO{K:Za}{H:Hp}:∀{sg:Zb}{xs:List V},TKCs K H (sg.map fun x=>TK.k (some (.inr x))) xs->xs=sg.map V.str
 |[],xs,h=>by rw[List.map_nil]at h;unfold TKCs at h;exact h
 |s::sg,xs,h=>by
  rw[aY]at h;unfold TKCs at h;obtain⟨v,us,rfl,h1,h2⟩:=h;unfold mR at h1;rw[h1,pO h2]
  rfl
theorem xk{K:Za}{H:Hp}{f:Zb}{a:V}(h:mR K H (txK f) a):∃b,a=.ref b/\cG K H b (f.map V.str):=by
 unfold txK mR at h;obtain⟨b,xs,rfl,h1,h2⟩:=h;rw[pO h2]at h1;exact⟨b,rfl,h1⟩
theorem xo{K:Za}{H:Hp}{a:Addr}{f:Zb}(h:cG K H a (f.map V.str)):iM K H (z8 f) (.ref a):=by
 have:∀f:List Str,DIns K H (f.map fun x=>DT.k (.inr x)) (f.map V.str):=fun f=>by
  induction f with
  |nil=>exact rfl
  |cons x f ih=>exact⟨_,_,rfl,rfl,ih⟩
 exact⟨a,_,rfl,h.imp .inl id,this f⟩
abbrev xL(K:Za):List V->Hp->VK->Prop:=fun xs H Q=>∃(d:Addr) (kvs:List (TK×V)) (fs:List (List Str)),xs=[.ref d]/\H d=some (.dT kvs)/\kvs.map da=fs.map txK/\(∀f∈fs,f≠[])/\fs.Nodup/\kvs.length<64 /\
 ∀(p:Addr) (zs:List (Addr×List Str)),H p=none->(∀z∈zs,cG K H z.1 (z.2.map V.str))->(zs.map fg).Perm fs->(zs.map fg).Pairwise (fun f g=>HT.lexT f g=true)->Q (.ref p) (upd H p (.lst (zs.map fun z=>V.ref z.1)))
def DkR(K:Za)(H:Hp)(h:Heap)(v:V)(u:Value)(f:Zb):Prop:=RelV v u/\(∃a,v=.ref a/\cG K H a (f.map V.str))/\HT.FcV h f u
theorem yy{K:Za}{H:Hp}{h:Heap}:∀{vs:List V}{us:Zf}{fs:List (List Str)},T3 (DkR K H h) vs us fs->∃zs:List (Addr×List Str),vs=zs.map (fun z=>V.ref z.1)/\fs=zs.map fg/\(∀z∈zs,cG K H z.1 (z.2.map V.str))/\aL vs us/\us.map (HT.kyOf h)=fs
 |_,_,_,.nil=>⟨[],rfl,rfl,(fun z hz=>by cases hz),.nil,rfl⟩
 |_,_,_,.cons (f:=f) r t=>by
  obtain⟨zs,h1,h2,h3,h4,h5⟩:=yy t;obtain⟨r1,⟨a,ea,ta⟩,r3⟩:=r;refine⟨(a,f)::zs,by rw[ea,h1];rfl,by rw[h2];rfl,fun z hz=>?_,.cons r1 h4,by rw[aY,h5,HT.kyOf_eq r3]⟩;rcases cI.1 hz with rfl|hz
  ·exact ta
  ·exact h3 z hz
theorem u9{X:Cx}(hc:X.calm=true)(hu:X.A.units+16<cLine):d7 X (.builtin "sorted") (xL X.K):=by
 intro J3 s σ H xs us Q I r h;obtain⟨d,kvs,fs,rfl,e,ek,ne,nd,hz,q⟩:=h;obtain⟨u,rfl,ru⟩:=vals1 r;cases ru;obtain⟨z,hsys,xs,rel,o,es,ep,ho,ex,hd,hes,nd2⟩:=id (show cj X.prog X.w X.K H s.heap d (.dT kvs)from I.hok d _ e);have hl:=Paired.length rel;have hs:es.size=xs.length:=by rw[<-gf,hes,af]
 have acc:∀acc:Array Value,nu (fun i v=>(es[i]?).map (·.key)=some v) acc es.size->acc.toList=xs.map fun x=>Value.ref x.2.1:=fun acc ia=>by
  obtain⟨hn,hP⟩:=ia;apply List.ext_getElem?;intro j;by_cases hj:j<acc.size
  ·have e1:acc[j]?=some acc[j]:=by simp[hj]
   have e2:=hP j _ e1;have e3:es[j]?=(xs[j]?).map fun x=>entryOfKey (dj X.prog X.w) x:=by rw[<-lq,hes,gD]
   rw[lq,e1,gD,<-e2,e3];cases xs[j]?<;>rfl
  ·have e1:acc[j]?=none:=by simp;omega
   rw[lq,e1,gD,List.getElem?_eq_none (by omega)]
   rfl
 have pr:Paired (fun u (kv:TK×V)=>mR X.K H kv.1 (.ref u)) (xs.map (·.2.1)) kvs:=by
  clear hl hs hes e ek q z hz acc nd2
  induction rel with
  |nil=>exact .nil
  |cons h _ ih=>exact .cons h.2.1 ih
 have t3:HT.Fcs s.heap fs (xs.map fun x=>Value.ref x.2.1)/\T3 (DkR X.K H s.heap) ((xs.map (·.2.1)).map V.ref) (xs.map fun x=>Value.ref x.2.1) fs:=by
  have e0:(xs.map fun x=>Value.ref x.2.1)=(xs.map (·.2.1)).map Value.ref:=by rw[gU];rfl
  rw[e0];generalize xs.map (·.2.1)=as at pr;clear hl hs hes e q z hz acc rel nd e0 nd2
  induction pr generalizing fs with
  |nil =>
   cases fs with
   |nil=>exact⟨.nil,.nil⟩
   |cons f fs=>cases ek
  |@cons b0 kv _ _ h _ ih =>
   cases fs with
   |nil=>cases ek
   |cons f fs =>
    rw[aY,aY]at ek;injection ek with e1 e2;obtain⟨h1,h2⟩:=ih fs e2 (fun g hg=>ne g (dO _ hg));rw[e1]at h;obtain⟨b,eb,tb⟩:=xk h;injection eb with eb;rw[<-eb]at tb;have dv:=fm I 8 (aO (Nat.le_max_left _ _) (lz [f])) (xo tb) (rfl:RelV (.ref _) (.ref _));obtain⟨p,items,ep,hi,hdd⟩:=dv;have fv:HT.FcV s.heap f (.ref b0):=⟨p,items,ep,hi,lI hdd⟩;exact⟨.cons fv (ne f cQ) h1,.cons ⟨rfl,⟨b0,rfl,tb⟩,fv⟩ h2⟩
 refine HT.sorted_src (zy hsys) (I.ok.hd hc) ⟨o,ho,ex,hd⟩ (by rw[hs,<-hl];exact z) acc t3.1 nd (by rw[af];omega) hu fun h' p tk out ep' ok k1 hp hD=>?_;obtain⟨vs',fs',t3',pz⟩:=t3.2.perm ok.1;obtain⟨zs,z1,z2,z3,z4,z5⟩:=yy t3';have sorted:=ok.2;rw[z5,z2]at sorted;have pf:fs'.Perm fs:=by
  have:=pz.map fg;rw[(jy t3').2,(jy t3.2).2]at this;exact this
 have pv:vs'.length=kvs.length:=by
  have:=pz.length_eq;rw[<-af (f:=da),<-af (f:=da) (as:=List.zip _ _),(jy t3').1,(jy t3.2).1,af,af]at this;omega
 rw[z2]at pf;have fin:=q p zs (I.hok.fresh hp) z3 pf sorted;rw[<-z1]at fin;refine⟨.ref p,_,I.laid (o:=.lst vs') k1 hp ⟨?_,out.toList,ep',z4,by rw[Array.toArray_toList];exact hD⟩,rfl,fin⟩;have:64<=aj:=by decide
 omega
end L2
end
set_option Elab.async false
set_option linter.all false
set_option maxRecDepth 100000
set_option maxHeartbeats 4000000
namespace Mum
open PySem PySem.Spec PyProof.Rows L2
def qK(K:Za):TS :=
 aq (ef (bc (aF rGeI V0 (aF Ac (tC (.int 10)) (tC (.int 18))))) (bo V0) (ci))
 (aq (aM (aF gk (aF cK (aF cK (aF iA (aF gk V0 (tC (.int 1000000007))) (tC (.int 69069))) (aF iA V1 (tC (.int 40503)))) (tC (.int 977))) (tC (.int 2147483629))) U2)
 (aq (aM (aF gk (aF cK (aF cK (aF iA V2 V2) (aF iA V1 (tC (.int 7919)))) (aF gk V0 (tC (.int 65537)))) (tC (.int 2147483587))) U3)
 (aq (aM (aF gk (aF cK (aF cK (aF iA V3 V3) (aF iA V2 (tC (.int 31)))) (tC (.int 5))) (tC (.int 2147483563))) U4)
 (bo (aF cK (aF iA (aF cK (aF iA V2 (tC (.int 2147483659))) V3) (tC (.int 2147483693))) V4)))))
def sf:List Str:=["cell","at","one","two","three"]
def uq(K:Za):TS :=
 aq (aM (eh (bO K) (au (w6 (rf K) V0 (eP) (gg (tC (.int 12)))))) U1)
 (aq (dX (p7 K (au (w6 (rf K) V0 (gg (tC (.int 12))) (gg (tC (.int 63)))))) (rO K 2 (dq U2 (dq U3 (rP)))) (aM (aF cK (aF (dk K) V1 (aF gk V2 (tC (.int 12)))) V3) (uZ V1 (aF gk V2 (tC (.int 12))) n8)))
 (bo (dS (fB V1 (tC (.int 0)) (tC (.int 0))))))
def vi:List Str:=["script","cells","k","cell"]
def ut(K:Za):TS :=
 aq (aM (tC (.int 0)) (uZ V0 (tC (.int 2)) n8))
 (bo V0)
def vk:List Str:=["pen"]
def uo(K:Za)(sp_law_spread:Sp):TS :=
 aq (ef (bc (aF Ax (aF (dk K) V0 (tC (.int 2))) V1)) (aq (aM (aF (dk K) V0 (tC (.int 1))) U2)
 (aq (aM (tC (.int 0)) U3)
 (aq (ef (bc (aF Ax V2 (eh (gd K) (au (aF (dk K) V0 (tC (.int 0))))))) (aM (aF (dk K) (aF (dk K) V0 (tC (.int 0))) V2) U3) (ef (bc (aF Ay (eh (gd K) (au (aF (dk K) V0 (tC (.int 0))))) (tC (.int 0)))) (aM (aF gk (aF (dk K) (aF (dk K) V0 (tC (.int 0))) (aF gk (aF cK (aF iA V2 (tC (.int 5))) (tC (.int 3))) (eh (gd K) (au (aF (dk K) V0 (tC (.int 0))))))) (aF cK (aF Ac (tC (.int 10)) (tC (.int 17))) V2)) U3) (ci)))
 (aq (aM (aF cK V2 (tC (.int 1))) (uZ V0 (tC (.int 1)) n8))
 (aM (aG sp_law_spread (bI V3 V2)) (uZ V0 (tC (.int 2)) n8)))))) (ci))
 (aq (aM (aF gk (aF (dk K) V0 (tC (.int 2))) V1) U4)
 (aq (aM (aF xO (aF (dk K) V0 (tC (.int 2))) V1) (uZ V0 (tC (.int 2)) n8))
 (bo V4)))
def vh:List Str:=["pen","many","at","cell","found"]
def sL(K:Za)(sp_law_take:Sp):TS :=
 aq (aM (tC (.str "abcdefghijklmnopqrstuvwxyz")) U2)
 (aq (aM (sX K "str" (Ad K) (tC (.str "")) (ay (bW 1 [2,0] (mq (au (tC (.int 7)))) U0 (i0) (aF xM V1 (aG sp_law_take (bI V2 (tC (.int 26)))))) bA)) U3)
 (aq (aM (aG sp_law_take (bI V0 (tC (.int 3)))) U4)
 (aq (aM (aG sp_law_take (bI V0 (tC (.int 26)))) U5)
 (aq (aM (aG sp_law_take (bI V0 (tC (.int 8)))) U6)
 (aq (aM (dS (bA)) U7)
 (aq (dX (mq (au V1)) U8 (aq (aM (aF xM V2 (aF gk (aF cK V5 (aF iA (tC (.int 3)) V8)) (tC (.int 26)))) U9)
 (aq (aM (w6 zA V3 (eP) (gg (aF gk (aF cK V6 (aF iA V8 (aF gk V4 (tC (.int 2))))) (tC (.int 8))))) Bu)
 (aq (aM (aF (dk K) (dS (fB (tC (.int 0)) (eh (gd K) (au yP)) (aF xO (eh (gd K) (au yP)) (tC (.int 2))))) V4) U11)
 (cB (sX K "list" cJ V7 (au (aF Ae (aF Ae (w6 zA yP (eP) (gg V11)) V9) (w6 zA yP (gg V11) (eP))))))))))
 (bo V7)))))))
def t5:List Str:=["pen","many","letters","base","way","turn","size","found","k","sign","part","at"]
def wj(K:Za):TS :=
 ef (bc (aF (lK K true) V1 V0)) (cB (sX K "list" cJ V0 (au V1))) (ci)
def wY:List Str:=["doors","door"]
def lC(K:Za)(sp_law_take:Sp)(sp_law_put:Sp):TS :=
 aq (aM (dS (bA)) U5)
 (aq (aM (aG sp_law_take (bI V0 (tC (.int 2)))) U6)
 (aq (dX (p7 K (au V3)) (rO K 2 (dq U7 (dq U8 (rP)))) (aq (dX (mq (ay (aF (dk K) (dS (ay (tC (.int 0)) (fB (tC (.int 1)) (tC (.int 1)) (tC (.int 2))))) (aG sp_law_take (bI V0 (tC (.int 4))))) bA)) U9 (aq (aM (cS (ay (tC (.str "say")) (ay (aF (dk K) V2 (aG sp_law_take (bI V0 (eh (gd K) (au V2))))) bA))) Bu)
 (cB (aG sp_law_put (ay V5 (ay (cS (ay V8 (ay yP (ay (aF (dk K) V3 (aG sp_law_take (bI V0 (eh (gd K) (au V3))))) bA)))) bA))))))
 (aq (dX (bE K V1) U11 (dX (mq (ay (aF (dk K) (dS (ay V4 (fB (tC (.int 1)) (tC (.int 1)) (tC (.int 2))))) (aG sp_law_take (bI V0 (tC (.int 4))))) bA)) U9 (cB (aG sp_law_put (ay V5 (ay (cS (ay V8 (ay (cS (bI (tC (.str "ask")) V11)) (ay (aF (dk K) V3 (aG sp_law_take (bI V0 (eh (gd K) (au V3))))) bA)))) bA))))))
 (aq (aM (aF (dk K) (dS (ay (w6 (rf K) V3 (gg (aF cK V7 (tC (.int 1)))) (eP)) (au (w6 (rf K) V3 (eP) (gg V7))))) V6) U12)
 (ef (wn (bc (aF (A9 K) V12 (dS (bA)))) (bc (aF Az (aG sp_law_take (bI V0 (tC (.int 3)))) (tC (.int 0))))) (cB (aG sp_law_put (ay V5 (ay (cS (ay V8 (ay (cS (au (tC (.str "still")))) (ay (aF (rg K) V12 (aG sp_law_take (bI V0 (eh (gd K) (au V12))))) bA)))) bA)))) (ci))))))
 (bo V5)))
def lW:List Str:=["pen","asks","says","rooms","full","doors","down","k","room","turn","sign","ask","later"]
def sM(K:Za)(sp_law_draw_doors:Sp)(sp_law_names:Sp)(sp_law_take:Sp)(sp_law_anew:Sp):TS :=
 aq (cB (aG sp_law_anew (au V0)))
 (aq (aM (aG sp_law_names (bI V0 (tC (.int 8)))) U3)
 (aq (aM (w6 (rf K) V3 (eP) (gg (aF cK (tC (.int 1)) (aF (dk K) (dS (ay (tC (.int 0)) (ay (tC (.int 1)) (ay (tC (.int 1)) (fB (tC (.int 2)) (tC (.int 2)) (tC (.int 3))))))) (aG sp_law_take (bI V0 (tC (.int 6)))))))) U4)
 (aq (aM (w6 (rf K) V3 (gg (tC (.int 4))) (gg (aF cK (tC (.int 5)) (aF (dk K) (dS (ay (tC (.int 0)) (ay (tC (.int 1)) (ay (tC (.int 1)) (fB (tC (.int 2)) (tC (.int 2)) (tC (.int 3))))))) (aG sp_law_take (bI V0 (tC (.int 6)))))))) U5)
 (aq (aM (aG sp_law_names (bI V0 (aF cK (tC (.int 1)) (aG sp_law_take (ay V0 (au V1)))))) U6)
 (aq (aM (aG sp_law_draw_doors (ay V0 (ay V4 (fB V5 V6 V2)))) U7)
 (bo (cS (ay V4 (fB V5 V6 V7)))))))))
def t6:List Str:=["pen","most","full","words","asks","says","rooms","doors"]
def oX(K:Za)(C_Machine:Addr)(sp_Machine_init:Sp):TS :=
 bo (xw C_Machine sp_Machine_init [] E0 (ay (eh (bO K) (au (aF (rg K) V0 (tC (.int 0))))) (ay (eh (bO K) (au (aF (rg K) V0 (tC (.int 1))))) (ay (eh (bO K) (au (aF (rg K) V0 (tC (.int 2))))) (ay (eh (bO K) (au (aF (rg K) V0 (tC (.int 3))))) bA)))))
def pD:List Str:=["told"]
def wk(K:Za):TS :=
 bo (xx (aF Bs V0 (tC (.str ""))) (xx (aF rLeI (eh (gd K) (au V0)) (tC (.int 8))) (eh (A_ K) (au (bW 1 [] (Bf V0) U0 (i0) (aF rInS V0 (tC (.str "abcdefghijklmnopqrstuvwxyz"))))))))
def wZ:List Str:=["text"]
def wl(K:Za):TS :=
 aq (aM (nY) U1)
 (aq (dX (bE K V0) U2 (kD V1 V2 (tC (.bl true))))
 (bo V1))
def qe:List Str:=["things","keys","thing"]
def jr(K:Za)(sp_is_name:Sp)(sp_as_keys:Sp):TS :=
 aq (ef (bc (aF Az (eh (gd K) (au V0)) (tC (.int 0)))) (bo (tC (.int 0))) (ci))
 (aq (aM (aG sp_as_keys (au V2)) U3)
 (aq (dX (p7 K (au V0)) (rO K 2 (dq U4 (dq U5 (rP)))) (aq (ef (AZ (bc (aF Az V4 V1)) (AZ (tB (uC K V5 V3)) (A5 (tB (aG sp_is_name (au V5)))))) (bo V4) (ci))
 (kD V3 V5 (tC (.bl true)))))
 (bo (tC .non))))
def jI:List Str:=["names","most","taken","ahead","number","name"]
def qO(K:Za)(a_STILL:Addr):TS :=
 bo (aF rh (aF rh (bW 1 [] (bE K V0) U0 (i0) (cS (bI (tC (.str "ask")) V0))) (bW 1 [] (bE K V1) U0 (i0) (cS (bI (tC (.str "say")) V0)))) (dS (au (tC (.ref a_STILL)))))
def sm:List Str:=["asks","says"]
def js(K:Za)(sp_as_keys:Sp):TS :=
 aq (aM (aG sp_as_keys (au V1)) U3)
 (aq (aM (nX) U4)
 (aq (dX (p7 K (au V0)) (rO K 2 (dq U5 (dq U6 (rP)))) (aq (ef (AZ (bc (aF Az V5 (tC (.int 2000)))) (tB (uC K V6 V4))) (bo V5) (ci))
 (aq (ef (AZ (tB (j8 K (aF (rg K) V6 (tC (.int 0))) V3)) (AZ (bc (aF (lK K true) (aF (rg K) V6 (tC (.int 1))) V2)) (tB (j8 K (aF (rg K) V6 (tC (.int 2))) V3)))) (bo V5) (ci))
 (kD V4 V6 (tC (.bl true))))))
 (bo (tC .non))))
def jJ:List Str:=["doors","rooms","signs","own_rooms","ahead","number","door"]
def gb(K:Za):TS :=
 aq (aM (nX) U1)
 (aq (dX (bE K V0) (rO K 3 (dq U2 (dq U3 (dq U4 (rP))))) (cB (sX K "list" cJ (sX K "dict" vJ V1 (bI (cS (ay V2 (au V3))) (dS (bA)))) (au V4))))
 (bo V1))
def ge:List Str:=["doors","goals","start","sign","goal"]
def nO(K:Za)(a_STILL:Addr):TS :=
 aq (aM (nY) U2)
 (aq (aM (dS (au V1)) U3)
 (aq (uv (bc (aF Ay (eh (gd K) (au V3)) (tC (.int 0)))) (aq (aM (A6 K "list" A8 V3) U4)
 (dX (Bg K (nZ K V0 (cS (bI V4 (tC (.ref a_STILL)))) (cS (bA)))) U5 (ef (tB (j8 K V5 V2)) (aq (kD V2 V5 (tC (.bl true)))
 (cB (sX K "list" cJ V3 (au V5)))) (ci)))))
 (bo V2)))
def oN:List Str:=["goals","room","led","waiting","here","goal"]
def j3(K:Za):TS :=
 aq (dX (p7 K (au V0)) (rO K 2 (dq U2 (dq U3 (rP)))) (ef (tB (uC K V3 (vH K V1 V3))) (bo V2) (ci)))
 (bo (tC .non))
def kW:List Str:=["rooms","led","number","room"]
def sK(K:Za):TS :=
 ef (tB (z_ V1)) (xv) (ci)
def t4:List Str:=["part","number"]
def qJ(K:Za)(sp_need_none:Sp)(sp_first_wrong_door:Sp)(sp_door_signs:Sp)(sp_first_wrong_name:Sp):TS :=
 aq (cB (aG sp_need_none (bI (tC (.str "asks")) (aG sp_first_wrong_name (fB V0 (tC (.int 4)) (dS (bA)))))))
 (aq (cB (aG sp_need_none (bI (tC (.str "says")) (aG sp_first_wrong_name (fB V1 (tC (.int 4)) V0)))))
 (aq (cB (aG sp_need_none (bI (tC (.str "rooms")) (aG sp_first_wrong_name (fB V2 (tC (.int 150)) (dS (bA)))))))
 (cB (aG sp_need_none (ay (tC (.str "doors")) (au (aG sp_first_wrong_door (fB V3 V2 (aG sp_door_signs (bI V0 V1))))))))))
def se:List Str:=["asks","says","rooms","doors"]
def lE(K:Za):TS :=
 aq (aM (nY) U2)
 (aq (dX (bE K V0) U3 (kD V2 V3 (dS (bA))))
 (aq (dX (bE K V1) U4 (cB (sX K "list" cJ (vH K V2 (aF (rg K) V4 (tC (.int 0)))) (au V4))))
 (bo V2)))
def lY:List Str:=["rooms","doors","leaving","room","door"]
def lD(K:Za):TS :=
 bo (eh (A_ K) (ay (bW 1 [] (bE K V0) U0 (i0) (aF Az (aF (rg K) (aF (rg K) V0 (tC (.int 1))) (tC (.int 0))) (tC (.str "ask")))) bA))
def lX:List Str:=["doors"]
def jv(K:Za)(sp_need_none:Sp)(sp_first_led_round:Sp)(sp_led_by_still:Sp)(sp_goals_by_start_and_sign:Sp)(sp_as_keys:Sp)(sp_has_asks_alone:Sp)(sp_doors_by_start:Sp)(sp_need_parts:Sp):TS :=
 aq (cB (aG sp_need_parts (ay V1 (fB V2 V3 V4))))
 (aq (q0 K V0 (eh (bO K) (au V1)) "own_asks")
 (aq (q0 K V0 (eh (bO K) (au V2)) "own_says")
 (aq (q0 K V0 (eh (bO K) (au V3)) "own_rooms")
 (aq (q0 K V0 (eh (bO K) (au V4)) "own_doors")
 (aq (q0 K V0 (aG sp_doors_by_start (bI V3 V4)) "leaving")
 (aq (q0 K V0 (aG sp_as_keys (ay (bW 1 [0] (bE K V3) U0 (tB (aG sp_has_asks_alone (au (vH K (nT K V1 "leaving") V0)))) V0) bA)) "quiet")
 (aq (q0 K V0 (aG sp_goals_by_start_and_sign (au V4)) "sign_goals")
 (aq (q0 K V0 (eh (zB K) (ay (bW 1 [0] (bE K V3) U0 (i0) (cS (bI V0 (aG sp_led_by_still (ay (nT K V1 "sign_goals") (au V0)))))) bA)) "still_led")
 (cB (aG sp_need_none (bI (tC (.str "still")) (aG sp_first_led_round (ay V3 (au (nT K V0 "still_led")))))))))))))))
def jM:List Str:=["self","asks","says","rooms","doors"]
def ju(K:Za):TS :=
 bo (uC K V1 (nT K V0 "quiet"))
def jL:List Str:=["self","room"]
def jd(K:Za)(sp_with_still:Sp)(C_Machine:Addr)(sp_Machine_goals:Sp)(a_HUSH:Addr)(sp_Machine_is_quiet:Sp):TS :=
 aq (ef (bc (aF (ww K) V2 (tC (.ref a_HUSH)))) (bo (eh (tt K) (au (bW 1 [0] (wJ K V1) U0 (tB (fy C_Machine "is_quiet" sp_Machine_is_quiet [] E0 V1 (au V0))) V0)))) (ci))
 (aq (aM (dS (bA)) U3)
 (aq (dX (wJ K V1) U4 (cB (sX K "list" vK V3 (au (fy C_Machine "goals" sp_Machine_goals [] E0 V0 (bI V4 V2))))))
 (bo (aG sp_with_still (bI V0 V3)))))
def jg:List Str:=["M","face","sign","goals","room"]
def cz(p:Addr)(H H':Hp):Prop:=∀b o,H b=some o->b≠p->H' b=some o
theorem cz.refl(p:Addr)(H:Hp):cz p H H:=fun _ _ h _=>h
theorem cz.trans{p:Addr}{H H1 H2:Hp}(a:cz p H H1)(b:cz p H1 H2):cz p H H2:=fun c o h n=>b c o (a c o h n) n
theorem ac.exB{p:Addr}{H H':Hp}(a:ac H H'):cz p H H':=fun b o h _=>a b o h
theorem cz.upd(p:Addr)(H:Hp)(o:HO):cz p H (upd H p o):=fun b u h n=>by rw[ai n];exact h
theorem ac.new{H:Hp}{a:Addr}{o:HO}(h:H a=none):ac H (upd H a o):=fun b u e=>by rw[ai (ae e h)];exact e
theorem cz.free{p:Addr}{H H':Hp}(e:cz p H H'){u:HO}(hp:H' p=some u){l:Addr}(h:H' l=none):H l=none:=by
 cases q:H l with
 |none=>rfl
 |some o =>
  by_cases z:l=p
  ·subst z;rw[hp]at h;cases h
  ·rw[e l o q z]at h;cases h
theorem kp{H:Hp}{a b:Addr}{o x:HO}(h:H b=some o)(n:H a=none):upd H a x b=some o:=by rw[ai (ae h n)];exact h
structure wa(H:Hp)(p c:Addr)(at_ rest:Int)(ns:List Int):Prop where
 pen:H p=some (.lst [.ref c,.int at_,.int rest])
 cells:H c=some (.lst (ns.map V.int))
 at0:0<=at_
 rest0:0<=rest
theorem wa.ne{H:Hp}{p c:Addr}{a r:Int}{ns:List Int}(h:wa H p c a r ns):c≠p:=by
 intro e;have h1:=h.pen;have h2:=h.cells;rw[e,h1]at h2;injection h2 with h2;injection h2 with h2;cases ns with
 |nil=>cases h2
 |cons n ns=>injection h2 with h2;cases h2
def fH(H:Hp)(p c:Addr):Prop:=∃a r ns,wa H p c a r ns
theorem fH.ex{H H':Hp}{p c:Addr}(h:fH H p c)(e:ac H H'):fH H' p c:=by
 obtain⟨a,r,ns,h1,h2,h3,h4⟩:=h;exact⟨a,r,ns,e _ _ h1,e _ _ h2,h3,h4⟩
theorem fH.pen{H:Hp}{p c:Addr}(h:fH H p c):∃o,H p=some o:=by
 obtain⟨a,r,ns,h1,_⟩:=h;exact⟨_,h1⟩
theorem fH.cell{H:Hp}{p c:Addr}(h:fH H p c):∃o,H c=some o:=by
 obtain⟨a,r,ns,_,h1,_⟩:=h;exact⟨_,h1⟩
theorem fH.upd{H:Hp}{p c l:Addr}{o:HO}(h:fH H p c)(h1:p≠l)(h2:c≠l):fH (upd H l o) p c:=by
 obtain⟨a,r,ns,g1,g2,g3,g4⟩:=h;exact⟨a,r,ns,by rw[ai h1];exact g1,by rw[ai h2];exact g2,g3,g4⟩
theorem fH.nep{H:Hp}{p c l:Addr}(h:fH H p c)(hl:H l=none):p≠l:=let⟨_,e⟩:=h.pen;ae e hl
theorem fH.nec{H:Hp}{p c l:Addr}(h:fH H p c)(hl:H l=none):c≠l:=let⟨_,e⟩:=h.cell;ae e hl
theorem cz.new{p:Addr}{H:Hp}{a:Addr}{o:HO}(h:H a=none):cz p H (L2.upd H a o):=fun b u e _=>by rw[ai (ae e h)];exact e
inductive iQ (vs:List V)(H:Hp)(Q:VK)(E:XK):Prop
 |mk (c a:Int):(vs=[.int c,.int a])->(0<=a)->(∀r:Int,0<=r->Q (.int r) H)->iQ  vs H Q E
theorem kS{i j:Int}(h1:-(2 ^ 64)<j)(h2:j<2 ^ 64):yV i j:=.inr ⟨h1,h2⟩
theorem wr{K:Za}{vs:List V}{H:Hp}{Q:VK}{E:XK}(h:iQ vs H Q E):qK K (bC Q) (start sf vs) H:=by
 obtain⟨c,a,rfl,ha,k⟩:=h;refine⟨_,rfl,_,_,rfl,rfl,⟨by decide,by decide,by decide⟩,_,_,rfl,rfl,_,rfl,?_⟩;refine iE (fun h=>?_) (fun _=>?_)
 ·refine⟨_,rfl,k _ ?_⟩;have:=of_decide_eq_true h;have e:((10:Int) ^ (18:Int).toNat)=1000000000000000000:=by decide
  omega
 ·have one:∀z:Int,0<=z % 2147483629/\z % 2147483629<2147483629:=fun z=>⟨k6 _ (by decide),k5 _ (by decide)⟩;have two:∀z:Int,0<=z % 2147483587/\z % 2147483587<2147483587:=fun z=>⟨k6 _ (by decide),k5 _ (by decide)⟩;have three:∀z:Int,0<=z % 2147483563/\z % 2147483563<2147483563:=fun z=>⟨k6 _ (by decide),k5 _ (by decide)⟩;refine⟨_,rfl,_,_,rfl,rfl,(by show(0:Int)<1000000007;decide),_,_,rfl,rfl,kS (by decide) (by decide),_,rfl,_,_,rfl,rfl,kS (by decide) (by decide),_,_,rfl,rfl,_,_,rfl,rfl,_,_,rfl,rfl,(by show(0:Int)<2147483629;decide),?_⟩;generalize hz1:(c % 1000000007 * 69069+a * 40503+977)=z1;obtain⟨o1,o2⟩:=one z1;generalize z1 % 2147483629=o at o1 o2 ⊢;refine⟨_,rfl,_,rfl,_,_,rfl,rfl,kS (by omega) (by omega),_,rfl,_,_,rfl,rfl,kS (by decide) (by decide),_,_,rfl,rfl,_,rfl,_,_,rfl,rfl,(by show(0:Int)<65537;decide),_,_,rfl,rfl,_,_,rfl,rfl,(by show(0:Int)<2147483587;decide),?_⟩;generalize hz2:(o * o+a * 7919+c % 65537)=z2;obtain⟨p1,p2⟩:=two z2;generalize z2 % 2147483587=q at p1 p2 ⊢;refine⟨_,rfl,_,rfl,_,_,rfl,rfl,kS (by omega) (by omega),_,rfl,_,_,rfl,rfl,kS (by decide) (by decide),_,_,rfl,rfl,_,_,rfl,rfl,_,_,rfl,rfl,(by show(0:Int)<2147483563;decide),?_⟩;generalize hz3:(q * q+o * 31+5)=z3;obtain⟨r1,r2⟩:=three z3;generalize z3 % 2147483563=r at r1 r2 ⊢;refine⟨_,rfl,_,_,rfl,rfl,kS (by decide) (by decide),_,rfl,_,_,rfl,rfl,_,_,rfl,rfl,kS (by decide) (by decide),_,rfl,_,_,rfl,rfl,k _ ?_⟩;omega
def qY:Sp:=fun vs H Q _=>∃p c,vs=[.ref p]/\fH H p c/\∀H',fH H' p c->cz p H H'->Q (.ref p) H'
theorem zx{K:Za}{vs:List V}{H:Hp}{Q:VK}{E:XK}(h:qY vs H Q E):ut K (bC Q) (start vk vs) H:=by
 obtain⟨p,c,rfl,⟨a,r,ns,h⟩,k⟩:=h;refine⟨_,rfl,p,_,_,_,rfl,rfl,h.pen,rfl,_,rfl,k _ ⟨a,0,ns,aa,?_,h.at0,Int.le_refl 0⟩ (cz.upd _ _ _)⟩;rw[ai h.ne];exact h.cells
theorem v8{ns:List Int}{a:Int}(h0:0<=a)(h1:a<ns.length):∃z,vc (ns.map V.int) a=some (.int z):=by
 obtain⟨n,rfl⟩:=ii h0;have hn:n<ns.length:=by omega
 exact⟨ns[n],dz (by simp[hn])⟩
inductive eQ (vs:List V)(H:Hp)(Q:VK)(E:XK):Prop
 |mk (p c:Addr) (m:Int):(vs=[.ref p,.int m])->(fH H p c)->(0<m)->(m<1073741824)->(∀(r:Int) (H':Hp),0<=r->r<m->fH H' p c->cz p H H'->Q (.int r) H')->eQ  vs H Q E
theorem de{H:Hp}{Q:VK}{E:XK}{p c:Addr}{m:Int}(hp:fH H p c)(m0:0<m)(m1:m<1073741824)(k:∀(r:Int) (H':Hp),0<=r->r<m->fH H' p c->cz p H H'->Q (.int r) H'):eQ [.ref p,.int m] H Q E:=by
 exact⟨p,c,m,rfl,hp,m0,m1,k⟩
theorem zf{K:Za}{vs:List V}{H:Hp}{Q:VK}{E:XK}(h:eQ vs H Q E):uo K iQ (bC Q) (start vh vs) H:=by
 obtain⟨p,c,m,rfl,⟨a,r,ns,h⟩,hm,hm2,k⟩:=h;have fin:∀(H':Hp) (a' r':Int) (x y:Option V),wa H' p c a' r' ns->cz p H H' ->
   (aq (aM (aF gk (aF (dk K) V0 (tC (.int 2))) V1) U4) (aq (aM (aF xO (aF (dk K) V0 (tC (.int 2))) V1) (uZ V0 (tC (.int 2)) n8)) (bo V4)))
    (bC Q) [some (.ref p),some (.int m),x,y,none] H':=by
  intro H' a' r' x y h' ex;refine⟨_,rfl,p,_,2,_,rfl,rfl,av.of h'.pen,rfl,_,rfl,_,_,rfl,rfl,hm,?_⟩;refine⟨_,rfl,p,_,2,_,rfl,rfl,av.of h'.pen,rfl,_,rfl,_,_,rfl,rfl,⟨hm,hm2⟩,_,rfl,p,_,_,_,rfl,rfl,h'.pen,rfl,?_⟩;refine⟨_,rfl,k _ _ (k6 _ (by omega)) (k5 _ hm) ⟨a',_,ns,aa,?_,h'.at0,Int.ediv_nonneg h'.rest0 (by omega)⟩ (ex.trans (cz.upd _ _ _))⟩;rw[ai h'.ne];exact h'.cells
 refine⟨_,rfl,p,_,2,_,rfl,rfl,av.of h.pen,rfl,_,rfl,_,_,rfl,rfl,_,rfl,?_⟩;refine iE (fun h1=>?_) (fun h1=>?_)
 ·-- at=pen[1];cell=0;if at<len(pen[0])
  refine⟨_,rfl,p,_,1,_,rfl,rfl,av.of h.pen,rfl,?_⟩;have la:(V.int ((ns.map V.int).length:Nat))=V.int (ns.length:Nat):=by rw[af]
  refine⟨_,rfl,_,rfl,p,_,0,_,rfl,rfl,av.of h.pen,rfl,.inl ⟨c,_,rfl,.inl (av.of h.cells),_,_,rfl,la,_,rfl,?_⟩⟩;refine iE (fun h2=>?_) (fun h2=>?_)
  ·obtain⟨z,hz⟩:=v8 (ns:=ns) h.at0 (of_decide_eq_true h2);refine⟨_,rfl,p,_,0,_,rfl,rfl,av.of h.pen,rfl,_,rfl,c,_,_,_,rfl,rfl,av.of h.cells,hz,?_⟩;refine⟨_,rfl,_,_,rfl,rfl,_,rfl,p,_,_,_,rfl,rfl,h.pen,rfl,?_⟩;refine⟨_,rfl,_,rfl,_,_,rfl,h.at0,fun q hq=>⟨_,rfl,p,_,_,_,rfl,rfl,aa,rfl,?_⟩⟩;rw[j1];refine fin _ (a+1) q _ _ ⟨aa,by rw[ai h.ne];exact h.cells,by have:=h.at0;omega,hq⟩ (cz.upd _ _ _)
  ·refine⟨_,rfl,p,_,0,_,rfl,rfl,av.of h.pen,rfl,.inl ⟨c,_,rfl,.inl (av.of h.cells),_,_,la,rfl,_,rfl,?_⟩⟩;refine iE (fun h3=>?_) (fun h3=>?_)
   ·have hl:(0:Int)<ns.length:=of_decide_eq_true h3;obtain⟨z,hz⟩:=v8 (ns:=ns) (a:=(a * 5+3) % (ns.length:Int)) (k6 _ (by omega)) (k5 _ hl);refine⟨_,rfl,p,_,0,_,rfl,rfl,av.of h.pen,rfl,_,rfl,_,_,rfl,rfl,kS (by decide) (by decide),_,_,rfl,rfl,_,rfl,p,_,0,_,rfl,rfl,av.of h.pen,rfl,.inl ⟨c,_,rfl,.inl (av.of h.cells),_,_,rfl,la,hl,c,_,_,_,rfl,rfl,av.of h.cells,hz,?_⟩⟩;refine⟨_,_,rfl,rfl,⟨by decide,by decide,by decide⟩,_,rfl,_,_,rfl,rfl,_,_,rfl,rfl,?_,?_⟩
    ·have e:((10:Int) ^ (17:Int).toNat)=100000000000000000:=by decide
     have:=h.at0;show(0:Int)<10 ^ (17:Int).toNat+a;omega
    refine⟨_,rfl,_,_,rfl,rfl,_,rfl,p,_,_,_,rfl,rfl,h.pen,rfl,?_⟩;refine⟨_,rfl,_,rfl,_,_,rfl,h.at0,fun q hq=>⟨_,rfl,p,_,_,_,rfl,rfl,aa,rfl,?_⟩⟩;rw[j1];refine fin _ (a+1) q _ _ ⟨aa,by rw[ai h.ne];exact h.cells,by have:=h.at0;omega,hq⟩ (cz.upd _ _ _)
   ·refine⟨_,rfl,_,_,rfl,rfl,_,rfl,p,_,_,_,rfl,rfl,h.pen,rfl,?_⟩;refine⟨_,rfl,_,rfl,_,_,rfl,h.at0,fun q hq=>⟨_,rfl,p,_,_,_,rfl,rfl,aa,rfl,?_⟩⟩;rw[j1];refine fin _ (a+1) q _ _ ⟨aa,by rw[ai h.ne];exact h.cells,by have:=h.at0;omega,hq⟩ (cz.upd _ _ _)
 ·exact fin H a r _ _ h (cz.refl _ _)
inductive mW(K:Za)(vs:List V)(H:Hp)(Q:VK)(E:XK):Prop
 |mk (a:Addr) (ns:List Int):(vs=[.ref a])->(av K H a (ns.map V.int))->(ns.length<=63)->(∀(p c:Addr) (H':Hp),H p=none->fH H' p c->ac H H'->Q (.ref p) H')->mW K vs H Q E
theorem p9(ns:List Int)(lo hi:Option Int):∃ms:List Int,fW (ns.map V.int) lo hi=ms.map V.int/\ms.length=(fW (ns.map V.int) lo hi).length:=by
 refine⟨(ns.drop (HT.sIx (ns.map V.int).length 0 lo)).take (HT.sIx (ns.map V.int).length (ns.map V.int).length hi-HT.sIx (ns.map V.int).length 0 lo),?_,?_⟩
 ·unfold fW;rw[List.map_take,qi]
 ·unfold fW;rw[aT,aT,fj,fj,af]
theorem zh{K:Za}{vs:List V}{H:Hp}{Q:VK}{E:XK}(h:mW K vs H Q E):uq K (bC Q) (start vi vs) H:=by
 obtain⟨a,ns,rfl,hs,hn,k⟩:=h;obtain⟨c0,e0,l0⟩:=p9 ns none (some 12);obtain⟨c1,e1,l1⟩:=p9 ns (some 12) (some 63);have hlen:c1≠[]->c0.length=12:=by
  intro hne;have hc1:0<c1.length:=by cases c1 with|nil=>exact absurd rfl hne|cons _ _=>simp
  rw[l1]at hc1;rw[l0];unfold fW at hc1 ⊢;rw[aT,fj,af]at hc1;rw[aT,fj,af];have s1:HT.sIx ns.length 0 (some 12)=min 12 ns.length:=HT.sIx_nat _ _ 12;have s2:HT.sIx ns.length ns.length (some 12)=min 12 ns.length:=HT.sIx_nat _ _ 12;rw[HT.sIx_none,s2];rw[s1]at hc1;omega
 refine⟨_,rfl,_,rfl,a,_,rfl,hs,fun q hq=>.inl ⟨q,_,rfl,.inl (av.of aa),fun c hc=>?_⟩⟩;rw[e0]at hc ⊢;have hcH:H c=none:=by
  have:c≠q:=fun z=>by subst z;rw[aa]at hc;cases hc
  rw[ai this]at hc;exact hc
 have hS:ac H (upd (upd H q (.lst (c0.map V.int))) c (.lst (c0.map V.int))):=(ac.new hq).trans (ac.new hc);refine⟨_,rfl,_,rfl,_,rfl,a,_,rfl,hS.seq hs,fun r hr=>⟨r,rfl,⟨_,av.of aa⟩,?_⟩⟩;rw[e1];have hcr:c≠r:=ae aa hr
 let zI0:Nat->L2.St->Hp->Prop:=fun i σ H'=>Aq fun(ms:List Int) (x y:Option V)=>AW (σ=[some (.ref a),some (.ref c),x,y]) (H' c=some (.lst (ms.map V.int))) (ms.length=c0.length) (H' r=some (.lst (c1.map V.int))) (ac H H')
 refine iH (xs:=c1.map V.int) zI0
  ⟨c0,none,none,rfl,kp aa hr,rfl,aa,hS.trans (ac.new hr)⟩ (fun i σ H' _ zq=>by obtain⟨ms,x,y,_,_,_,h,_⟩:=zq;exact av.of h) ?_ ?_
 ·rintro i x σ H' t hi ⟨ms,u,v,rfl,hcell,hml,hr',hS'⟩ ht;have hi':i<c1.length:=by
   have:=(bN.mp hi).1;rwa[af]at this
  have h12:=hlen (fun z=>by rw[z]at hi';simp at hi');obtain⟨z,rfl⟩:∃z,x=V.int z:=by
   rw[gD,nE hi']at hi;exact⟨_,(di hi).symm⟩
  have hcell1:upd H' t (.tup [.int i,.int z]) c=some (.lst (ms.map V.int)):=kp hcell ht;have hidx:(i:Int) % 12=((i % 12:Nat):Int):=by omega
  have hlt:i % 12<ms.length:=by omega
  refine⟨t,_,rfl,bp.of aa,rfl,_,_,rfl,_,_,rfl,rfl,?_⟩;have hat:vc (ms.map V.int) ((i:Int) % 12)=some (.int ms[i % 12]):=by rw[hidx];exact dz (by simp[hlt])
  refine⟨_,rfl,_,rfl,_,_,rfl,rfl,(by show(0:Int)<12;decide),c,_,_,_,rfl,rfl,av.of hcell1,hat,_,rfl,_,_,rfl,rfl,_,rfl,_,rfl,_,_,rfl,rfl,(by show(0:Int)<12;decide),c,_,_,i % 12,rfl,rfl,hcell1,?_,?_⟩
  ·rw[hidx];unfold Ai;rw[if_pos (by omega),if_pos (by rw[af];omega)];rw[pF]
  ·refine⟨ms.set (i % 12) (ms[i % 12]+z),_,_,rfl,?_,by rw[List.length_set];exact hml,?_,?_⟩
   ·rw[aa,List.map_set]
   ·rw[ai hcr.symm];exact kp hr' ht
   ·intro b o e;rw[ai (ae e hcH)];exact kp (hS' b o e) ht
 ·rintro σ H' ⟨ms,x,y,rfl,hcell,hml,hr',hS'⟩;refine⟨_,rfl,(by show 3<=aj;decide),fun p hp=>k p c _ (hS'.free hp) ⟨0,0,ms,aa,kp hcell hp,Int.le_refl _,Int.le_refl _⟩ (hS'.trans (ac.new hp))⟩
def rA(c:Nat):Prop:=97<=c/\c<=122
structure lZ(w:Str):Prop where
 lo:1<=w.length
 hi:w.length<=8
 al:∀c∈w.cps.toList,rA c
theorem v_:∀n:Nat,n<26->(("abcdefghijklmnopqrstuvwxyz":Str).cps.toList)[n]?=some (97+n):=by decide +kernel
theorem v9:("abcdefghijklmnopqrstuvwxyz":Str).length<=aj:=by decide +kernel
theorem yO{r:Int}(h0:0<=r)(h1:r<26):vc (("abcdefghijklmnopqrstuvwxyz":Str).cps.toList) r=some (97+r.toNat):=by
 obtain⟨n,rfl⟩:=ii h0;rw[pF];exact dz (v_ n (by omega))
theorem pq(cs:List Nat):∀acc:Array Nat,((cs.map fun c=>(⟨#[c]⟩:Str)).foldl (fun acc p=>acc++("":Str).cps++p.cps) acc).toList=acc.toList++cs:=by
 have e:("":Str).cps=#[]:=by decide +kernel
 induction cs with
 |nil=>intro acc;simp
 |cons c cs ih =>
  intro acc;rw[aY,List.foldl_cons,ih,e];simp
theorem uV(cs:List Nat):(qz "" (cs.map fun c=>(⟨#[c]⟩:Str))).cps.toList=cs:=by
 unfold qz cf.Str.glued;cases cs with
 |nil=>rfl
 |cons c cs =>
  rw[aY];show((cs.map fun c=>(⟨#[c]⟩:Str)).foldl (fun acc p=>acc++("":Str).cps++p.cps) #[c]).toList=_;rw[pq]
  rfl
theorem zc{a b:Str}(h:a.cps.toList=b.cps.toList):a=b:=by
 cases a with|mk x=>cases b with|mk y=>exact congrArg Str.mk (Array.toList_inj.mp h)
theorem dw(a:Str):a.length=a.cps.toList.length:=by simp[Str.length]
theorem rZ(a b:Str):(a++b).cps.toList=a.cps.toList++b.cps.toList:=by
 show(a.cps++b.cps).toList=_;simp
theorem yF(z:Str)(m:Nat):(oC z none (some (m:Int))).cps.toList=z.cps.toList.take m:=by
 unfold oC;rw[HT.sIx_none,HT.sIx_nat,nF,qt,dw];show List.take _ _=_;rw[List.take_eq_take_iff];omega
theorem yG(z:Str)(m:Nat):(oC z (some (m:Int)) none).cps.toList=z.cps.toList.drop m:=by
 unfold oC;rw[HT.sIx_none,HT.sIx_nat,dw];show List.take _ _=_;rw[qh (by rw[fj];omega)];by_cases h:m<=z.cps.toList.length
 ·rw[Nat.min_eq_left h]
 ·rw[Nat.min_eq_right (by omega),List.drop_length,lf (by omega)]
def db(way size k:Nat):Nat:=(size+k * (way % 2)) % 8
def ub(way m:Nat):Nat:=if way=0 then 0 else if way=1 then m else m / 2
def jc(b:List Nat)(way turn size k:Nat):List Nat :=
 (b.take (db way size k)).take (ub way (db way size k))++[97+(turn+3 * k) % 26]++(b.take (db way size k)).drop (ub way (db way size k))
def sI(b:List Nat)(way turn size k:Nat):Str:=⟨(jc b way turn size k).toArray⟩
theorem ly{b:List Nat}(hb:b.length=7)(way turn size k:Nat):(jc b way turn size k).length=db way size k+1:=by
 have h8:db way size k<8:=nr _ (by decide);unfold jc;rw[aW,aW,aT,fj,aT,hb];have:ub way (db way size k)<=db way size k:=by unfold ub;split;omega;split;omega;omega
 simp;omega
theorem y0{b:List Nat}(hb:b.length=7)(hl:∀c∈b,rA c)(way turn size k:Nat):lZ (sI b way turn size k):=by
 have h8:db way size k<8:=nr _ (by decide);have hlen:=ly hb way turn size k;have e:(sI b way turn size k).cps.toList=jc b way turn size k:=by simp[sI]
 refine⟨?_,?_,?_⟩
 ·rw[dw,e];omega
 ·rw[dw,e];omega
 ·rw[e];intro c hc;unfold jc at hc;rcases aR.mp hc with hc|hc
  ·rcases aR.mp hc with hc|hc
   ·exact hl c (ff (ff hc))
   ·have:c=97+(turn+3 * k) % 26:=by simpa using hc
    subst this;have:(turn+3 * k) % 26<26:=nr _ (by decide);exact⟨by omega,by omega⟩
  ·exact hl c (ff (List.mem_of_mem_drop hc))
theorem xg{b:List Nat}(hb:b.length=7){way turn size:Nat}(hw:way<3){j k:Nat}(hj:j<26)(hk:k<26)(h:sI b way turn size j=sI b way turn size k):j=k:=by
 have h8:∀i,db way size i<8:=fun i=>nr _ (by decide);have e:jc b way turn size j=jc b way turn size k:=by
  have:=congrArg (fun s=>Str.cps s |>.toList) h;simpa[sI]using this
 have el:db way size j=db way size k:=by
  have:=congrArg List.length e;rw[ly hb,ly hb]at this;omega
 have key:97+(turn+3 * j) % 26=97+(turn+3 * k) % 26:=by
  have hat:∀i,ub way (db way size i)<=db way size i:=fun i=>by unfold ub;split;omega;split;omega;omega
  have get:∀i,(jc b way turn size i)[ub way (db way size i)]?=some (97+(turn+3 * i) % 26):=by
   intro i;unfold jc;have hl:((b.take (db way size i)).take (ub way (db way size i))).length=ub way (db way size i):=by
    rw[aT,aT,hb];have:=h8 i;have:=hat i;omega
   rw[dD,List.getElem?_append_right (by omega),hl,Nat.sub_self]
   rfl
  have g1:=get j;have g2:=get k;rw[e,el]at g1;rw[g1]at g2;exact di g2
 omega
def iZ(ws:Zb):Prop:=ws.Nodup/\∀w∈ws,lZ w
def gV(b:List Nat)(way turn size n:Nat):List Str:=(jb n).map (sI b way turn size)
theorem ug{b:List Nat}(hb:b.length=7)(hl:∀c∈b,rA c){way turn size n:Nat}(hw:way<3)(hn:n<=26):iZ (gV b way turn size n):=by
 refine⟨?_,fun w hm=>?_⟩
 ·unfold gV;rw[List.nodup_iff_pairwise_ne,List.pairwise_map];refine(List.nodup_range (n:=n)).imp_of_mem ?_;intro j k hj hk hne h;exact hne (xg hb hw (by have:=List.mem_range.mp hj;omega) (by have:=List.mem_range.mp hk;omega) h)
 ·obtain⟨k,_,rfl⟩:=aJ.mp hm;exact y0 hb hl _ _ _ _
inductive ke (vs:List V)(H:Hp)(Q:VK)(E:XK):Prop
 |mk (p c:Addr) (n:Nat):(vs=[.ref p,.int n])->(fH H p c)->(n<=26)->(∀(l:Addr) (ws:Zb) (H':Hp),iZ ws->ws.length=n->H l=none->H' l=some (.lst (ws.map V.str))->fH H' p c->cz p H H'->Q (.ref l) H')->ke  vs H Q E
theorem xD{K:Za}{vs:List V}{H:Hp}{Q:VK}{E:XK}(h:ke vs H Q E):sL K eQ (bC Q) (start t5 vs) H:=by
 obtain⟨p,c,n,rfl,hp,hn,k⟩:=h;refine⟨rfl,7,rfl,by decide,by decide,fun l hl=>?_⟩
 let zI0:Nat->List V->Hp->Prop:=fun i vs H'=>∃cs:List Nat,vs=cs.map (fun c=>V.str ⟨#[c]⟩)/\cs.length=i/\(∀c∈cs,rA c)/\fH H' p c/\cz p H H'/\H' l=some (.lst vs)
 refine u7 (lo:=0) (n:=Int.toNat 7) zI0
  ⟨[],rfl,rfl,(fun _ h=>nomatch h),hp.ex (ac.new hl),cz.new hl,aa⟩ (fun i vs H' _ zq=>by obtain⟨_,_,_,_,_,_,h⟩:=zq;exact h) ?_ ?_
 rotate_left
 ·rintro i vs H' hi ⟨cs,rfl,hlen,hlet,hp',hex,hl'⟩;have hlp:=hp.nep hl;have hlc:=hp.nec hl;refine gN (sH ?_);refine⟨_,rfl,_,rfl,de hp' (by decide) (by decide) fun r H2 h0 h1 hp2 hex2=>⟨_,r,_,rfl,rfl,v9,yO h0 h1,?_⟩⟩;have hl2:=hex2 l _ hl' hlp.symm;refine⟨hl2,by rw[af,hlen];exact am (by omega),je hi ⟨cs++[97+r.toNat],by rw[ar];rfl,by rw[aW,hlen];rfl,?_,hp2.upd hlp hlc,?_,aa⟩⟩
  ·intro x hc;rcases aR.mp hc with hc|hc
   ·exact hlet x hc
   ·have:x=97+r.toNat:=by simpa using hc
    subst this;exact⟨by omega,by omega⟩
  ·intro b o' e nb;rw[ai (ae e hl)];exact hex2 b o' (hex b o' e nb) nb
 ·rintro vs H1 ⟨cs,rfl,hlen,hlet,hp1,hex1,hl1⟩;refine⟨"",l,cs.map fun c=>(⟨#[c]⟩:Str),rfl,rfl,av.of (by rw[hl1,gU];rfl),?_,?_⟩
  ·have e0:("":Str).length=0:=by decide +kernel
   rw[e0,Nat.mul_zero,gU];have:∀cs:List Nat,(cs.map ((fun x=>Str.length x) ∘ fun c=>(⟨#[c]⟩:Str))).sum=cs.length:=by
    intro cs
    induction cs with
    |nil=>rfl
    |cons c cs ih=>rw[aY,List.sum_cons,ih,eT];show 1+_=_;omega
   rw[this,hlen];decide
  refine⟨_,rfl,de hp1 (by decide) (by decide) fun way H2 w0 w1 hp2 hex2=>?_⟩;refine⟨_,rfl,de hp2 (by decide) (by decide) fun turn H3 t0 t1 hp3 hex3=>?_⟩;refine⟨_,rfl,de hp3 (by decide) (by decide) fun size H4 s0 s1 hp4 hex4=>?_⟩;have ex4:cz p H H4:=((hex1.trans hex2).trans hex3).trans hex4;obtain⟨wy,rfl⟩:=ii w0;obtain⟨tn,rfl⟩:=ii t0;obtain⟨sz,rfl⟩:=ii s0;have hb:=uV cs;generalize qz "" (cs.map fun c=>(⟨#[c]⟩:Str))=base at hb ⊢;refine⟨(by show 0<=aj;decide),fun f hf=>?_⟩;obtain⟨op,hop⟩:=hp4.pen;have hfH:H f=none:=ex4.free hop hf;have hfp:=hp.nep hfH;have hfc:=hp.nec hfH;refine⟨_,rfl,n,rfl,by omega,by omega,fM (lo:=0) (n:=((n:Int)).toNat) (fun i σ H'=>∃(a b c' d:Option V),σ=[some (.ref p),some (.int n),some (.str "abcdefghijklmnopqrstuvwxyz"),some (.str base),some (.int wy),some (.int tn),some (.int sz),some (.ref f),a,b,c',d] /\
   fH H' p c/\cz p H H'/\H' f=some (.lst ((gV cs wy tn sz i).map V.str)))
   ⟨_,_,_,_,rfl,hp4.upd hfp hfc,ex4.trans (cz.new hf),aa⟩ ?_ ?_⟩
  ·rintro i σ H' hi ⟨a,b,c',d,rfl,hp',hex',hf'⟩;have hi':i<n:=by omega
   have hwy:wy<3:=by omega
   have e26:((tn:Int)+3 * (0+(i:Int))) % 26=(((tn+3 * i) % 26:Nat):Int):=by omega
   refine⟨_,rfl,_,rfl,_,rfl,_,_,rfl,rfl,.inl ⟨by decide,by decide⟩,_,_,rfl,rfl,_,_,rfl,rfl,(by show(0:Int)<26;decide),_,_,_,rfl,rfl,v9,yO (k6 _ (by decide)) (k5 _ (by decide)),?_⟩;have blen:base.length<=aj:=by rw[dw,hb,hlen];decide
   have e8:((sz:Int)+(0+(i:Int)) * ((wy:Int) % 2)) % 8=((db wy sz i:Nat):Int):=by
    unfold db;have:wy=0∨wy=1∨wy=2:=by omega
    rcases this with rfl|rfl|rfl<;>simp<;>omega
   refine⟨_,rfl,_,rfl,_,rfl,_,rfl,_,_,rfl,rfl,(by show(0:Int)<2;decide),_,_,rfl,rfl,.inr ⟨by omega,by omega⟩,_,_,rfl,rfl,_,_,rfl,rfl,(by show(0:Int)<8;decide),_,rfl,base,rfl,blen,?_⟩;rw[e8];have hpart:=yF base (db wy sz i);rw[hb]at hpart;generalize oC base none (some ((db wy sz i:Nat):Int))=part at hpart ⊢;have h8:db wy sz i<8:=nr _ (by decide);have plen:part.length=db wy sz i:=by rw[dw,hpart,aT,hlen];omega
   have pz:part.length<=aj:=by rw[plen];exact dU (am (by omega))
   refine⟨_,rfl,.inr ⟨part,rfl,pz,_,rfl,.inr ⟨part,rfl,pz,_,_,rfl,rfl,⟨by decide,by decide⟩,(by show 3<=aj;decide),fun q hq=>?_⟩⟩⟩;have hqH:H q=none:=by
    obtain⟨op',hop'⟩:=hp'.pen;exact hex'.free hop' hq
   have hat:vc [V.int 0,V.int (part.length:Nat),V.int ((part.length:Int) / 2)] (wy:Int)=some (.int (ub wy (db wy sz i):Nat)):=by
    rw[plen];have:wy=0∨wy=1∨wy=2:=by omega
    rcases this with rfl|rfl|rfl
    ·rfl
    ·rfl
    ·show some (V.int (((db 2 sz i:Nat):Int) / 2))=some (V.int ((ub 2 (db 2 sz i):Nat):Int));have:ub 2 (db 2 sz i)=db 2 sz i / 2:=rfl;rw[this];congr 2
   refine⟨_,rfl,q,_,_,_,rfl,rfl,av.of aa,hat,?_⟩;have hf2:upd H' q (.lst [V.int 0,V.int (part.length:Nat),V.int ((part.length:Int) / 2)]) f=some (.lst ((gV cs wy tn sz i).map V.str)):=kp hf' hq;have c1:=yF part (ub wy (db wy sz i));have c2:=yG part (ub wy (db wy sz i));have l1:(oC part none (some ((ub wy (db wy sz i):Nat):Int))).length<=8:=by rw[dw,c1,aT,hpart,aT,hlen];omega
   have l2:(oC part (some ((ub wy (db wy sz i):Nat):Int)) none).length<=8:=by rw[dw,c2,fj,hpart,aT,hlen];omega
   refine⟨_,rfl,.inl ⟨rfl,_,av.of hf2⟩,_,rfl,_,rfl,_,rfl,part,rfl,pz,_,rfl,_,_,rfl,rfl,?_,_,rfl,_,rfl,_,rfl,part,rfl,pz,_,_,rfl,rfl,?_,f,_,_,rfl,rfl,hf2,?_,?_⟩
   ·have:Str.length ⟨#[97+(((tn:Int)+3 * (0+(i:Int))) % 26).toNat]⟩=1:=rfl;rw[this];exact dU (am (by omega))
   ·rw[dw,rZ,aW,<-dw,<-dw];have:Str.length ⟨#[97+(((tn:Int)+3 * (0+(i:Int))) % 26).toNat]⟩=1:=rfl;rw[this];exact dU (am (by omega))
   ·rw[af];unfold gV;rw[af,List.length_range];exact am (by omega)
   ·refine⟨_,_,_,_,rfl,(hp'.upd (hp.nep hqH) (hp.nec hqH)).upd hfp hfc,?_,?_⟩
    ·intro b' o' e nb;rw[ai (ae e hfH)];exact kp (hex' b' o' e nb) hq
    ·rw[aa];unfold gV;rw[List.range_succ,ar,ar];congr 3;show[V.str _]=[V.str _];congr 2;refine zc ?_;rw[rZ,rZ,c1,c2,hpart,e26,pF];simp[sI,jc]
  ·rintro σ H' ⟨a,b,c',d,rfl,hp',hex',hf'⟩;have en:((n:Int)).toNat=n:=by omega
   rw[en]at hf';exact⟨_,rfl,k f _ H' (ug hlen hlet (by omega) hn) (by unfold gV;rw[af,List.length_range]) hfH hf' hp' hex'⟩
structure ao where
 a:Str
 sg:List Str
 b:Str
deriving DecidableEq
def SignAt(H:Hp)(s:Addr)(sg:Zb):Prop:=H s=some (.tup (sg.map V.str))
def f6(H:Hp)(t:Addr)(d:ao):Prop:=∃s,H t=some (.tup [.str d.a,.ref s,.str d.b])/\SignAt H s d.sg
def k3(H H':Hp):Prop:=∀b xs,H b=some (.tup xs)->H' b=some (.tup xs)
theorem f6.kt{H H':Hp}{t:Addr}{d:ao}(k:k3 H H')(h:f6 H t d):f6 H' t d:=by
 obtain⟨s,h1,h2⟩:=h;exact⟨s,k _ _ h1,k _ _ h2⟩
theorem cz.kt{p:Addr}{H H':Hp}{xs:List V}(e:cz p H H')(hp:H p=some (.lst xs)):k3 H H':=fun b ys h=>e b _ h (fun z=>by rw[z,hp]at h;cases h)
theorem ac.kt{H H':Hp}(e:ac H H'):k3 H H':=fun b ys h=>e b _ h
theorem k3.trans{H H1 H2:Hp}(a:k3 H H1)(b:k3 H1 H2):k3 H H2:=fun x xs h=>b x xs (a x xs h)
theorem dZ{H:Hp}{l:Addr}{xs:List V}{o:HO}(h:H l=some (.lst xs)):k3 H (upd H l o):=fun b ys e=>by
 rw[ai (fun z=>by rw[z,h]at e;cases e)];exact e
abbrev cY(H:Hp)(ts:Ze)(ds:List ao):Prop:=Paired (f6 H) ts ds
theorem Paired.get{α β:Type}{R:α->β->Prop}{xs:List α}{ys:List β}{i:Nat}{y:β}(g:Paired R xs ys)(h:ys[i]?=some y):∃x,xs[i]?=some x/\R x y:=by
 induction g generalizing i with
 |nil=>cases h
 |cons r _ ih =>
  cases i with
  |zero=>injection h with h;subst h;exact⟨_,rfl,r⟩
  |succ i=>exact ih h
theorem Paired.getL{α β:Type}{R:α->β->Prop}{xs:List α}{ys:List β}{i:Nat}{x:α}(g:Paired R xs ys)(h:xs[i]?=some x):∃y,ys[i]?=some y/\R x y:=by
 induction g generalizing i with
 |nil=>cases h
 |cons r _ ih =>
  cases i with
  |zero=>injection h with h;subst h;exact⟨_,rfl,r⟩
  |succ i=>exact ih h
theorem cY.kt{H H':Hp}{ts:Ze}{ds:List ao}(k:k3 H H')(h:cY H ts ds):cY H' ts ds:=Paired.mapP h fun _ _ r=>r.kt k
theorem Ar{H:Hp}{a:Addr}{o:HO}(h:H a=some o):upd H a o=H:=by
 funext b;by_cases e:b=a
 ·subst e;rw[aa,h]
 ·rw[ai e]
def gj(x:Str):DT:=.k (.inr x)
def wR(d:ao):DT:=.t [gj d.a,.t (d.sg.map gj),gj d.b]
theorem kC{x y:Str}(h:gj x=gj y):x=y:=by
 unfold gj at h;injection h with h;injection h
theorem gp:∀{x y:Zb},x.map gj=y.map gj->x=y
 |[],[],_=>rfl
 |[],_::_,h=>by cases h
 |_::_,[],h=>by cases h
 |a::x,b::y,h=>by
  rw[aY,aY]at h;injection h with h1 h2;rw[kC h1,gp h2]
theorem zW{x y:ao}(h:wR x=wR y):x=y:=by
 unfold wR at h;injection h with h;injection h with h1 h;injection h with h2 h;injection h with h3 h;injection h2 with h2;cases x;cases y;simp only at *;rw[kC h1,gp h2,kC h3]
theorem fV(xs:Zb):DT.depths (xs.map gj)=0:=by
 induction xs with
 |nil=>rfl
 |cons x xs ih=>rw[aY];show max (DT.depth (gj x)) (DT.depths _)=0;rw[ih];rfl
theorem vZ(d:ao):(wR d).depth=2:=by
 show DT.depths [gj d.a,.t (d.sg.map gj),gj d.b]+1=2;show max (DT.depth (gj d.a)) (max (DT.depths (d.sg.map gj)+1) (max (DT.depth (gj d.b)) 0))+1=2;rw[fV]
 rfl
theorem wN(ds:List ao):DT.depths (ds.map wR)<=8:=by
 induction ds with
 |nil=>exact cM _
 |cons x xs ih=>rw[aY];show max (DT.depth (wR x)) (DT.depths _)<=8;rw[vZ];omega
theorem jD{K:Za}{H:Hp}:∀xs:List Str,DIns K H (xs.map gj) (xs.map V.str)
 |[]=>by show DIns K H [] [];unfold DIns;rfl
 |x::xs=>by
  rw[aY,aY];unfold DIns;refine⟨_,_,rfl,?_,jD xs⟩;unfold gj iM
  rfl
theorem my{K:Za}{H:Hp}(x:Str):iM K H (gj x) (.str x):=by unfold gj iM;rfl
theorem aV{K:Za}{H:Hp}{s:Addr}{sg:Zb}(h:bp K H s (sg.map V.str)):iM K H (.t (sg.map gj)) (.ref s):=by
 unfold iM;exact⟨s,_,rfl,h,jD _⟩
theorem f6.dIn{K:Za}{H:Hp}{t:Addr}{d:ao}(h:f6 H t d):iM K H (wR d) (.ref t):=by
 obtain⟨s,h1,h2⟩:=h;unfold wR;unfold iM;refine⟨t,_,rfl,bp.of h1,?_⟩;unfold DIns;refine⟨_,_,rfl,my _,?_⟩;unfold DIns;refine⟨_,_,rfl,aV (bp.of h2),?_⟩;unfold DIns;refine⟨_,_,rfl,my _,?_⟩;unfold DIns
 rfl
theorem cY.dIns{K:Za}{H:Hp}{ts:Ze}{ds:List ao}(h:cY H ts ds):DIns K H (ds.map wR) (ts.map V.ref):=by
 induction h with
 |nil=>show DIns K H [] [];unfold DIns;rfl
 |cons r _ ih =>
  rw[aY,aY];unfold DIns;exact⟨_,_,rfl,r.dIn,ih⟩
theorem vT{d:ao}{ds:List ao}:wR d∈ds.map wR↔d∈ds:=by
 constructor
 ·intro h;obtain⟨x,hx,e⟩:=aJ.mp h;rw[<-zW e];exact hx
 ·exact fP
def uN(ds:List ao)(d:ao):List ao:=if d∈ds then ds else ds++[d]
inductive n0 (vs:List V)(H:Hp)(Q:VK)(E:XK):Prop
 |mk (l t:Addr) (ts:Ze) (ds:List ao) (d:ao):(vs=[.ref l,.ref t])->(H l=some (.lst (ts.map V.ref)))->(cY H ts ds)->(f6 H t d)->(ds.length<=1000)->(∀ts':List Addr,cY H ts' (uN ds d)->Q .non (upd H l (.lst (ts'.map V.ref))))->n0  vs H Q E
theorem Au{K:Za}{vs:List V}{H:Hp}{Q:VK}{E:XK}(h:n0 vs H Q E):wj K (bC Q) (start wY vs) H:=by
 obtain⟨l,t,ts,ds,d,rfl,hl,hd,ht,hz,k⟩:=h;refine⟨_,rfl,_,rfl,wR d,ds.map wR,l,_,ht.dIn,rfl,.inl (av.of hl),hd.dIns,by rw[vZ];decide,wN ds,_,rfl,?_⟩;by_cases hm:d∈ds
 ·rw[if_pos rfl,zzr1 (vT.mpr hm)];refine ck ?_;have:=k ts (by unfold uN;rw[if_pos hm];exact hd);rw[Ar hl]at this;exact this
 ·rw[if_pos rfl,zzr0 (fun z=>hm (vT.mp z))];refine c9 ?_;refine⟨_,rfl,.inl ⟨rfl,_,av.of hl⟩,_,rfl,l,_,_,rfl,rfl,hl,?_,?_⟩
  ·rw[af,Paired.length hd];exact am hz
  ·have:=k (ts++[t]) (by unfold uN;rw[if_neg hm];exact dW hd ht);rw[ar]at this;exact this
structure DI(R:ao->Prop)(H0:Hp)(p c l:Addr)(m:Nat)(H:Hp):Prop where
 pen:fH H p c
 ds:∃ts ds,H l=some (.lst (ts.map V.ref))/\cY H ts ds/\ds.Nodup/\(∀d∈ds,R d)/\ds.length<=m
 ex:cz p H0 H
 fr:H0 l=none
 pl:p≠l
 cl:c≠l
section
variable{R:ao->Prop}{H0 H H':Hp}{p c l:Addr}{m:Nat}
theorem fH.lst{H:Hp}{p c:Addr}(h:fH H p c):∃xs,H p=some (.lst xs):=by
 obtain⟨a,r,ns,h1,_⟩:=h;exact⟨_,h1⟩
theorem DI.took(h:DI R H0 p c l m H)(hp:fH H' p c)(e:cz p H H'):DI R H0 p c l m H':=by
 obtain⟨ts,ds,h1,h2,h3⟩:=h.ds;obtain⟨xs,hx⟩:=h.pen.lst;exact⟨hp,⟨ts,ds,e _ _ h1 h.pl.symm,h2.kt (e.kt hx),h3⟩,h.ex.trans e,h.fr,h.pl,h.cl⟩
theorem DI.new(h:DI R H0 p c l m H){q:Addr}{o:HO}(hq:H q=none):DI R H0 p c l m (upd H q o) :=
 h.took (h.pen.ex (ac.new hq)) (cz.new hq)
theorem DI.up(h:DI R H0 p c l m H){n:Nat}(hn:m<=n):DI R H0 p c l n H:=by
 obtain⟨ts,ds,h1,h2,h3,h4,h5⟩:=h.ds;exact⟨h.pen,⟨ts,ds,h1,h2,h3,h4,aO h5 hn⟩,h.ex,h.fr,h.pl,h.cl⟩
theorem DI.put(h:DI R H0 p c l m H){t:Addr}{d:ao}{Q:VK}{E:XK}(ht:f6 H t d)(hR:R d)(hm:m<=1000)(k:∀H',DI R H0 p c l (m+1) H'->Q .non H'):n0 [.ref l,.ref t] H Q E:=by
 obtain⟨ts,ds,h1,h2,h3,h4,h5⟩:=h.ds;refine⟨l,t,ts,ds,d,rfl,h1,h2,ht,aO h5 hm,fun ts' h'=>k _ ⟨h.pen.upd h.pl h.cl,⟨ts',uN ds d,aa,h'.kt (dZ h1),?_,?_,?_⟩,?_,h.fr,h.pl,h.cl⟩⟩
 ·unfold uN;split
  ·exact h3
  ·next hn =>
   rw[cu];refine⟨h3,by simp,?_⟩;intro a ha b hb e;have:b=d:=by simpa using hb
   subst this;exact hn (e▸ha)
 ·intro x hx;unfold uN at hx;split at hx
  ·exact h4 x hx
  ·rcases aR.mp hx with hx|hx
   ·exact h4 x hx
   ·have:x=d:=by simpa using hx
    rw[this];exact hR
 ·unfold uN;split
  ·omega
  ·rw[aW];show ds.length+1<=m+1;omega
 ·intro b o e n;rw[ai (ae e h.fr)];exact h.ex b o e n
end
theorem fH.ne_strs{H:Hp}{p c a:Addr}{ws:Zb}(hp:fH H p c)(ha:H a=some (.lst (ws.map V.str))):a≠p:=by
 intro e;obtain⟨x,y,ns,h1,_⟩:=hp;rw[e,h1]at ha;injection ha with ha;injection ha with ha;cases ws with
 |nil=>cases ha
 |cons w ws=>injection ha with ha;cases ha
theorem m8{K:Za}{r:R2}(hr:∀x y H Q,dk K x y H Q->r x y H Q){σ:L2.St}{H:Hp}{Q:VK}{p c a:Addr}{j:Nat}{ws:Zb}(h0:σ[0]?=some (some (.ref p)))(hj:σ[j]?=some (some (.ref a)))(hp:fH H p c)
  (ha:H a=some (.lst (ws.map V.str))) (hne:ws≠[]) (hlen:ws.length<=1000) (k:∀w∈ws,∀H',fH H' p c->cz p H H'->Q (.str w) H') :
  ∃v,σ[j]?=some (some v)/\∃v0,σ[0]?=some (some v0)/\∃v1,σ[j]?=some (some v1)/\gd K [v1] H fun y H1=>eQ [v0,y] H1 (fun y H2=>r v y H2 Q) E0:=by
 have hl:0<ws.length:=by cases ws with|nil=>exact absurd rfl hne|cons _ _=>simp
 have la:(V.int ((ws.map V.str).length:Nat))=V.int (ws.length:Nat):=by rw[af]
 have hpa:=hp.ne_strs ha;have fin:∀(x:Int) (H':Hp),0<=x->x<(ws.length:Int)->fH H' p c->cz p H H'->dk K (.ref a) (.int x) H' Q:=by
  intro x H' x0 x1 hp' ex;obtain⟨n,rfl⟩:=ii x0;have hn:n<ws.length:=by omega
  exact⟨a,_,(n:Int),.str ws[n],rfl,rfl,av.of (ex _ _ ha hpa),dz (by simp[hn]),k _ (List.getElem_mem hn) H' hp' ex⟩
 exact⟨_,hj,_,h0,_,hj,.inl ⟨a,_,rfl,.inl (av.of ha),by rw[la];exact de hp (by omega) (by omega) fun x H' x0 x1 hp' ex=>hr _ _ _ _ (fin x H' x0 x1 hp' ex)⟩⟩
def Up(up:Bool)(J2:Zb)(a b:Str):Prop:=∃i j:Nat,J2[i]?=some a/\J2[j]?=some b/\(if up=true then i<j else j<i)
structure iL(J0 J1 J2:Zb)(up:Bool)(d:ao):Prop where
 a:d.a∈J2
 b:d.b∈J2
 sg:(∃w∈J0,d.sg=[("ask":Str),w])∨(∃w∈J1,d.sg=[("say":Str),w])∨(d.sg=[("still":Str)]/\Up up J2 d.a d.b)
def aN:List Str:=[("still":Str)]
structure yT(J0 J1 J2:Zb)(d:ao):Prop where
 a:d.a∈J2
 b:d.b∈J2
 sg:(∃w∈J0,d.sg=[("ask":Str),w])∨(∃w∈J1,d.sg=[("say":Str),w])∨d.sg=aN
theorem iL.d{J0 J1 J2:Zb}{up:Bool}{d:ao}(h:iL J0 J1 J2 up d):yT J0 J1 J2 d:=⟨h.a,h.b,h.sg.imp id (Or.imp id And.left)⟩
inductive Reach(ds:List ao)(a:Str):Str->Prop
 |one {b:Str}(h:(⟨a,aN,b⟩:ao)∈ds):Reach ds a b
 |step {b c:Str}(r:Reach ds a b) (h:(⟨b,aN,c⟩:ao)∈ds):Reach ds a c
theorem vY{J2:Zb}(nd:J2.Nodup){i j:Nat}{a:Str}(hi:J2[i]?=some a)(hj:J2[j]?=some a):i=j:=by
 obtain⟨h1,e1⟩:=bN.mp hi;obtain⟨h2,e2⟩:=bN.mp hj;have pw:=List.pairwise_iff_getElem.mp nd;rcases Nat.lt_trichotomy i j with h|h|h
 ·exact absurd (e1.trans e2.symm) (pw i j h1 h2 h)
 ·exact h
 ·exact absurd (e2.trans e1.symm) (pw j i h2 h1 h)
theorem Up.trans{up:Bool}{J2:Zb}(nd:J2.Nodup){a b c:Str}(h1:Up up J2 a b)(h2:Up up J2 b c):Up up J2 a c:=by
 obtain⟨i,j,e1,e2,h⟩:=h1;obtain⟨j',k,e3,e4,h'⟩:=h2;have:=vY nd e2 e3;subst this;refine⟨i,k,e1,e4,?_⟩;cases up
 ·simp at h h' ⊢;omega
 ·simp at h h' ⊢;omega
theorem Up.irr{up:Bool}{J2:Zb}(nd:J2.Nodup){a:Str}(h:Up up J2 a a):False:=by
 obtain⟨i,j,e1,e2,h⟩:=h;have:=vY nd e1 e2;subst this;cases up
 ·simp at h
 ·simp at h
theorem xi{J0 J1 J2:Zb}{ds:List ao}{up:Bool}(nd:J2.Nodup)(m:∀d∈ds,iL J0 J1 J2 up d){a b:Str}(h:Reach ds a b):Up up J2 a b:=by
 have edge:∀{a b:Str},(⟨a,aN,b⟩:ao)∈ds->Up up J2 a b:=by
  intro a b h;rcases(m _ h).sg with⟨w,_,e⟩|⟨w,_,e⟩|⟨_,e⟩
  ·cases e
  ·cases e
  ·exact e
 induction h with
 |one h=>exact edge h
 |step r h ih=>exact ih.trans nd (edge h)
inductive eR (vs:List V)(H:Hp)(Q:VK)(E:XK):Prop
 |mk (p c l1 l2 l3:Addr) (J0 J1 J2:Zb) (full:Int):(vs=[.ref p,.ref l1,.ref l2,.ref l3,.int full])->(fH H p c)->(H l1=some (.lst (J0.map V.str)))->(H l2=some (.lst (J1.map V.str)))->(H l3=some (.lst (J2.map V.str)))->(J0.length<=4)->(J1≠[])->(J1.length<=4)->(J2≠[])->(J2.length<=26)->(0<=full)->(full<=2)->(∀(l:Addr) (ts:Ze) (ds:List ao) (up:Bool) (H':Hp),H l=none->H' l=some (.lst (ts.map V.ref))->cY H' ts ds->ds.Nodup->(∀d∈ds,iL J0 J1 J2 up d)->ds.length<=600->fH H' p c->cz p H H'->Q (.ref l) H')->eR  vs H Q E
theorem at4{x r:Int}(x0:0<=x)(x2:x<=2)(r0:0<=r)(r4:r<4):∃j:Int,vc [V.int x,.int 1,.int 1,.int 2] r=some (.int j)/\0<=j/\j<=2:=by
 have:r=0∨r=1∨r=2∨r=3:=by omega
 rcases this with rfl|rfl|rfl|rfl
 ·exact⟨x,rfl,x0,x2⟩
 ·exact⟨1,rfl,by decide,by decide⟩
 ·exact⟨1,rfl,by decide,by decide⟩
 ·exact⟨2,rfl,by decide,by decide⟩
theorem wS(ws:Zb)(k:Nat):fW (ws.map V.str) (some (k:Int)) none=(ws.drop k).map V.str:=by
 unfold fW;rw[HT.sIx_none,HT.sIx_nat,af,qh (by rw[fj,af];omega),qi];by_cases h:k<=ws.length
 ·rw[Nat.min_eq_left h]
 ·rw[Nat.min_eq_right (by omega),lf (by simp),lf (by rw[af];omega)]
theorem rS(ws:Zb)(k:Nat):fW (ws.map V.str) none (some (k:Int))=(ws.take k).map V.str:=by
 unfold fW;rw[HT.sIx_none,HT.sIx_nat,af,nF,qt,List.map_take,List.take_eq_take_iff,af];omega
theorem yE{K:Za}{H:Hp}{a:Addr}{ws:Zb}(h:av K H a (ws.map V.str)):iM K H (.s (ws.map gj)) (.ref a):=by
 unfold iM;exact⟨a,_,rfl,h,jD _⟩
theorem v7{K:Za}{H:Hp}{a:Addr}(h:av K H a []):iM K H (.s []) (.ref a):=by
 unfold iM;refine⟨a,_,rfl,h,?_⟩;unfold DIns
 rfl
inductive DdI(G:ao->Prop)(H:Hp)(p c l l1 l2 l3:Addr)(full dn:Int)(i:Nat)(σ:L2.St)(H':Hp):Prop
 |mk (a7 a8 a9 a10 a11 a12:Option V):σ=[some (.ref p),some (.ref l1),some (.ref l2),some (.ref l3),some (.int full),some (.ref l),some (.int dn),a7,a8,a9,a10,a11,a12]->DI G H p c l (11 * i) H'->DdI G H p c l l1 l2 l3 full dn i σ H'
theorem ph{K:Za}{vs:List V}{H:Hp}{Q:VK}{E:XK}(h:eR vs H Q E):lC K eQ n0 (bC Q) (start lW vs) H:=by
 obtain⟨p,c,l1,l2,l3,J0,J1,J2,full,rfl,hp,h1,h2,h3,ha,hs0,hs,hr0,hr,f0,f2,k⟩:=h;have n1:=hp.ne_strs h1;have n2:=hp.ne_strs h2;have n3:=hp.ne_strs h3;refine⟨(by show 0<=aj;decide),fun l hl=>?_⟩;have hpl:=hp.nep hl;have hcl:=hp.nec hl;refine⟨_,rfl,de (hp.ex (ac.new hl)) (by decide) (by decide) fun dn H1 d0 d1 hp1 ex1=>?_⟩;generalize hG:iL J0 J1 J2 (decide (dn=0))=G;have base:DI G H p c l 0 H1:=⟨hp1,⟨[],[],ex1 _ _ aa hpl.symm,.nil,jn,by simp,cM _⟩,(cz.new hl).trans ex1,hl,hpl,hcl⟩;refine⟨_,rfl,l3,rfl,⟨_,av.of (base.ex _ _ h3 n3)⟩,?_⟩;refine iH (xs:=J2.map V.str) (DdI G H p c l l1 l2 l3 full dn)
  ⟨_,_,_,_,_,_,rfl,base⟩ (fun i σ H' _ zq=>by obtain⟨_,_,_,_,_,_,_,D⟩:=zq;exact av.of (D.ex _ _ h3 n3)) ?_ ?_
 ·rintro i x σ H' t hi ⟨a7,a8,a9,a10,a11,a12,rfl,D⟩ ht;obtain⟨room,hroom,rfl⟩:∃room,J2[i]?=some room/\x=V.str room:=by
   rw[gD]at hi;cases q:J2[i]? with
   |none=>rw[q]at hi;cases hi
   |some r=>rw[q]at hi;exact⟨r,rfl,(di hi).symm⟩
  have hiL:i<J2.length:=(bN.mp hroom).1;have hmem:room∈J2:=dJ hroom;refine⟨t,_,rfl,bp.of aa,rfl,_,_,rfl,_,_,rfl,rfl,?_⟩;have D1:=D.new ht (o:=.tup [.int i,.str room]);refine⟨(by show 4<=aj;decide),fun q hq=>⟨_,rfl,de (D1.new hq).pen (by decide) (by decide) fun r H2 r0 r1 hp2 ex2=>?_⟩⟩;obtain⟨j,hj,j0,j2⟩:=at4 (x:=0) (by decide) (by decide) r0 r1;have D2:=(D1.new hq).took hp2 ex2;refine⟨q,_,_,_,rfl,rfl,av.of (ex2 q _ aa (D1.pen.nep hq).symm),hj,j,rfl,by omega,by omega,?_⟩
  let zI0:Nat->L2.St->Hp->Prop:=fun i' σ H''=>yX fun(a9 a10:Option V)=>σ=[some (.ref p),some (.ref l1),some (.ref l2),some (.ref l3),some (.int full),some (.ref l),some (.int dn),some (.int i),some (.str room),a9,a10,a11,a12]/\DI G H p c l (11 * i+i') H''
  refine fM (lo:=0) (n:=j.toNat) zI0
   ⟨_,_,rfl,D2⟩ ?_ ?_
  ·rintro i' σ H3 hi' ⟨a9,a10,rfl,D3⟩;refine m8 (fun _ _ _ _ h=>h) rfl rfl D3.pen (D3.ex _ _ h2 n2) hs0 (by omega) fun w hw H4 hp4 ex4=>?_;have D4:=D3.took hp4 ex4;refine⟨(by show 2<=aj;decide),fun sg hsg=>?_⟩;have D5:=D4.new hsg (o:=.tup [.str "say",.str w]);refine⟨_,rfl,_,rfl,_,rfl,m8 (fun _ _ _ _ h=>h) rfl rfl D5.pen (D5.ex _ _ h3 n3) hr0 (by omega) fun w2 hw2 H6 hp6 ex6=>?_⟩;have D6:=D5.took hp6 ex6;refine⟨(by show 3<=aj;decide),fun dr hdr=>?_⟩;have D7:=D6.new hdr (o:=.tup [.str room,.ref sg,.str w2]);have hsg6:H6 sg=some (.tup [.str "say",.str w]):=ex6 _ _ aa (D4.pen.nep hsg).symm;refine D7.put (d:=⟨room,["say",w],w2⟩) ⟨sg,aa,kp hsg6 hdr⟩ ?_ (by omega) fun H8 D8=>⟨_,_,rfl,D8⟩;rw[<-hG];exact⟨hmem,hw2,.inr (.inl ⟨w,hw,rfl⟩)⟩
  rintro σ H3 ⟨a9,a10,rfl,D3'⟩;have D3:DI G H p c l (11 * i+2) H3:=D3'.up (by omega);clear D3';refine⟨_,rfl,l1,rfl,⟨_,av.of (D3.ex _ _ h1 n1)⟩,?_⟩
  let zI1:Nat->L2.St->Hp->Prop:=fun i' σ H''=>yX fun(a9 a11:Option V)=>σ=[some (.ref p),some (.ref l1),some (.ref l2),some (.ref l3),some (.int full),some (.ref l),some (.int dn),some (.int i),some (.str room),a9,a10,a11,a12]/\DI G H p c l (11 * i+2+2 * i') H''
  refine bP (xs:=J0.map V.str) zI1
   ⟨_,_,rfl,D3⟩ (fun i σ H' _ zq=>by obtain⟨_,_,_,D⟩:=zq;exact av.of (D.ex _ _ h1 n1)) ?_ ?_
  ·rintro i' x σ H4 hi' ⟨a9,a11,rfl,D4⟩;obtain⟨ask,hask,rfl⟩:∃ask,J0[i']?=some ask/\x=V.str ask:=by
    rw[gD]at hi';cases q:J0[i']? with
    |none=>rw[q]at hi';cases hi'
    |some r=>rw[q]at hi';exact⟨r,rfl,(di hi').symm⟩
   have hi2:i'<J0.length:=(bN.mp hask).1;have hm2:ask∈J0:=dJ hask;refine⟨_,rfl,(by show 4<=aj;decide),fun q hq=>⟨_,rfl,de (D4.new hq).pen (by decide) (by decide) fun r H5 r0 r1 hp5 ex5=>?_⟩⟩;obtain⟨j,hj,j0,j2⟩:=at4 f0 f2 r0 r1;have D5:=(D4.new hq).took hp5 ex5;refine⟨q,_,_,_,rfl,rfl,av.of (ex5 q _ aa (D4.pen.nep hq).symm),hj,j,rfl,by omega,by omega,?_⟩
   let zI2:Nat->L2.St->Hp->Prop:=fun i'' σ H''=>∃a9:Option V,σ=[some (.ref p),some (.ref l1),some (.ref l2),some (.ref l3),some (.int full),some (.ref l),some (.int dn),some (.int i),some (.str room),a9,a10,some (.str ask),a12]/\DI G H p c l (11 * i+2+2 * i'+i'') H''
   refine fM (lo:=0) (n:=j.toNat) zI2
    ⟨_,rfl,D5⟩ ?_ ?_
   ·rintro i'' σ H6 hi'' ⟨a9,rfl,D6⟩;refine⟨_,rfl,_,rfl,_,rfl,(by show 2<=aj;decide),fun sg hsg=>?_⟩;have D7:=D6.new hsg (o:=.tup [.str "ask",.str ask]);refine m8 (fun _ _ _ _ h=>h) rfl rfl D7.pen (D7.ex _ _ h3 n3) hr0 (by omega) fun w2 hw2 H8 hp8 ex8=>?_;have D8:=D7.took hp8 ex8;refine⟨(by show 3<=aj;decide),fun dr hdr=>?_⟩;have D9:=D8.new hdr (o:=.tup [.str room,.ref sg,.str w2]);have hsg8:H8 sg=some (.tup [.str "ask",.str ask]):=ex8 _ _ aa (D6.pen.nep hsg).symm;refine D9.put (d:=⟨room,["ask",ask],w2⟩) ⟨sg,aa,kp hsg8 hdr⟩ ?_ (by omega) fun H8 D8=>⟨_,rfl,D8⟩;rw[<-hG];exact⟨hmem,hw2,.inl ⟨ask,hm2,rfl⟩⟩
   ·rintro σ H6 ⟨a9,rfl,D6⟩;exact⟨_,_,rfl,D6.up (by omega)⟩
  rintro σ H4 ⟨a9,a11,rfl,D4'⟩;have D4:DI G H p c l (11 * i+10) H4:=D4'.up (by rw[af];omega);clear D4';have hnext:∀(H9:Hp) (a12:Option V),DI G H p c l (11 * i+11) H9->DdI G H p c l l1 l2 l3 full dn (i+1) [some (.ref p),some (.ref l1),some (.ref l2),some (.ref l3),some (.int full),some (.ref l),some (.int dn),some (.int i),some (.str room),a9,a10,a11,a12] H9:=fun H9 a12 D9=>⟨_,_,_,_,_,_,rfl,D9.up (by omega)⟩;refine⟨_,rfl,_,rfl,_,_,rfl,rfl,_,rfl,l3,_,rfl,av.of (D4.ex _ _ h3 n3),fun q1 hq1=>?_⟩;have D5:=D4.new hq1 (o:=.lst (fW (J2.map V.str) (some ((i:Int)+1)) none));refine⟨_,rfl,_,rfl,_,rfl,l3,_,rfl,av.of (D5.ex _ _ h3 n3),fun q2 hq2=>?_⟩;have e1:fW (J2.map V.str) (some ((i:Int)+1)) none=(J2.drop (i+1)).map V.str:=wS J2 (i+1);rw[rS];have D6:=D5.new hq2 (o:=.lst ((J2.take i).map V.str));refine⟨(by show 2<=aj;decide),fun q3 hq3=>?_⟩;have D7:=D6.new hq3 (o:=.lst [.ref q1,.ref q2]);obtain⟨lt,q,hq,hlt,hgood⟩:∃(lt:Zb) (q:Addr),vc [V.ref q1,.ref q2] dn=some (.ref q) /\
    upd (upd (upd H4 q1 (.lst (fW (J2.map V.str) (some ((i:Int)+1)) none))) q2 (.lst ((J2.take i).map V.str))) q3 (.lst [.ref q1,.ref q2]) q=some (.lst (lt.map V.str))/\lt.length<=26 /\
    ∀w∈lt,w∈J2/\Up (decide (dn=0)) J2 room w:=by
   have:dn=0∨dn=1:=by omega
   rcases this with rfl|rfl
   ·refine⟨J2.drop (i+1),q1,rfl,?_,by rw[fj];omega,fun w hw=>⟨List.mem_of_mem_drop hw,?_⟩⟩
    ·refine(kp (kp aa hq2) hq3).trans ?_;rw[e1]
    ·obtain⟨n,hn⟩:=List.getElem?_of_mem hw;rw[List.getElem?_drop]at hn;exact⟨i,i+1+n,hroom,hn,by rw[if_pos (by decide)];omega⟩
   ·refine⟨J2.take i,q2,rfl,?_,by rw[aT];omega,fun w hw=>⟨ff hw,?_⟩⟩
    ·exact kp aa hq3
    ·obtain⟨n,hn⟩:=List.getElem?_of_mem hw;have hnl:n<i:=by
      have:=(bN.mp hn).1;rw[aT]at this;omega
     rw[List.getElem?_take_of_lt hnl]at hn;exact⟨i,n,hroom,hn,by rw[if_neg (by decide)];omega⟩
  refine⟨_,rfl,q3,_,_,_,rfl,rfl,av.of aa,hq,?_⟩;generalize upd (upd (upd H4 q1 (.lst (fW (J2.map V.str) (some ((i:Int)+1)) none))) q2 (.lst ((J2.take i).map V.str))) q3 (.lst [.ref q1,.ref q2])=H7 at D7 hlt ⊢;refine⟨_,rfl,(by show 0<=aj;decide),fun e he=>⟨.s (lt.map gj),.s [],yE (av.of (kp hlt he)),v7 (av.of aa),?_,by decide,_,rfl,?_⟩⟩
  ·show DT.depths (lt.map gj)+1<=8;rw[fV];decide
  have D8:=D7.new he (o:=.lst []);by_cases hz:lt=[]
  ·have ez:(!decide (DT.s (lt.map gj)=DT.s []))=false:=by rw[hz,zzr1 (by rfl)];rfl
   rw[ez];exact ck (ck (hnext _ _ (D8.up (by omega))))
  ·have ez:(!decide (DT.s (lt.map gj)=DT.s []))=true:=by
    rw[zzr0 (fun z=>hz (gp (y:=[]) (by injection z)))];rfl
   rw[ez];refine c9 ?_;refine⟨_,rfl,de D8.pen (by decide) (by decide) fun r H9 r0 r1 hp9 ex9=>⟨rfl,_,rfl,?_⟩⟩;have D9:=D8.took hp9 ex9;refine iE (fun _=>?_) (fun _=>hnext _ _ (D9.up (by omega)));refine⟨_,rfl,_,rfl,(by show 1<=aj;decide),fun sg hsg=>?_⟩;have D10:=D9.new hsg (o:=.tup [.str "still"]);have hlt10:upd H9 sg (.tup [.str "still"]) q=some (.lst (lt.map V.str)):=kp (ex9 _ _ (kp hlt he) (D8.pen.ne_strs (kp hlt he))) hsg;refine m8 (fun _ _ _ _ h=>.inl h) rfl rfl D10.pen hlt10 hz (by omega) fun w2 hw2 H11 hp11 ex11=>?_;have D11:=D10.took hp11 ex11;refine⟨(by show 3<=aj;decide),fun dr hdr=>?_⟩;have D12:=D11.new hdr (o:=.tup [.str room,.ref sg,.str w2]);have hsg11:H11 sg=some (.tup [.str "still"]):=ex11 _ _ aa (D9.pen.nep hsg).symm;refine D12.put (d:=⟨room,[("still":Str)],w2⟩) ⟨sg,aa,kp hsg11 hdr⟩ ?_ (by omega) fun H13 D13=>hnext _ _ D13;rw[<-hG];exact⟨hmem,(hgood.2 w2 hw2).1,.inr (.inr ⟨rfl,(hgood.2 w2 hw2).2⟩)⟩
 ·rintro σ H' ⟨a7,a8,a9,a10,a11,a12,rfl,D⟩;obtain⟨ts,ds,g1,g2,g3,g4,g5⟩:=D.ds;rw[af]at g5;rw[<-hG]at g4;exact⟨_,rfl,k l ts ds _ H' hl g1 g2 g3 g4 (by omega) D.pen D.ex⟩
structure bR(J0 J1 J2:Zb)(ds:List ao):Prop where
 okA:iZ J0
 okS:iZ J1
 apart:∀w∈J1,w∉J0
 okR:iZ J2
 asks0:J0≠[]
 says0:J1≠[]
 rooms0:J2≠[]
 asks4:J0.length<=4
 says4:J1.length<=4
 rooms26:J2.length<=150
 nodup:ds.Nodup
 good:∀d∈ds,yT J0 J1 J2 d
 few:ds.length<=1000
 noround:∀r,¬Reach ds r r
structure iJ(H:Hp)(t l1 l2 l3 l4:Addr)(ts:Ze)(J0 J1 J2:Zb)(ds:List ao):Prop where
 t:H t=some (.tup [.ref l1,.ref l2,.ref l3,.ref l4])
 a1:H l1=some (.lst (J0.map V.str))
 a2:H l2=some (.lst (J1.map V.str))
 a3:H l3=some (.lst (J2.map V.str))
 a4:H l4=some (.lst (ts.map V.ref))
 ds:cY H ts ds
theorem fH.ne_refs{H:Hp}{p c a:Addr}{ts:Ze}(hp:fH H p c)(ha:H a=some (.lst (ts.map V.ref))):a≠p:=by
 intro e;obtain⟨x,y,ns,h1,_⟩:=hp;rw[e,h1]at ha;injection ha with ha;injection ha with ha;cases ts with
 |nil=>cases ha
 |cons w ws =>
  injection ha with _ ha;cases ws with
  |nil=>cases ha
  |cons w ws=>injection ha with ha;cases ha
theorem iJ.ex{H H':Hp}{p c t l1 l2 l3 l4:Addr}{ts:Ze}{J0 J1 J2:Zb}{ds:List ao}(h:iJ H t l1 l2 l3 l4 ts J0 J1 J2 ds)(hp:fH H p c)(e:cz p H H'):iJ H' t l1 l2 l3 l4 ts J0 J1 J2 ds:=by
 obtain⟨xs,hx⟩:=hp.lst;exact⟨e.kt hx _ _ h.t,e _ _ h.a1 (hp.ne_strs h.a1),e _ _ h.a2 (hp.ne_strs h.a2),e _ _ h.a3 (hp.ne_strs h.a3),e _ _ h.a4 (hp.ne_refs h.a4),h.ds.kt (e.kt hx)⟩
theorem iJ.same{H H':Hp}{t l1 l2 l3 l4:Addr}{ts:Ze}{J0 J1 J2:Zb}{ds:List ao}(h:iJ H t l1 l2 l3 l4 ts J0 J1 J2 ds)(e:ac H H'):iJ H' t l1 l2 l3 l4 ts J0 J1 J2 ds :=
 ⟨e _ _ h.t,e _ _ h.a1,e _ _ h.a2,e _ _ h.a3,e _ _ h.a4,h.ds.kt (ac.kt e)⟩
inductive kf (vs:List V)(H:Hp)(Q:VK)(E:XK):Prop
 |mk (p c:Addr) (most full:Int):(vs=[.ref p,.int most,.int full])->(fH H p c)->(0<most)->(most<=25)->(0<=full)->(full<=2)->(∀(t l1 l2 l3 l4:Addr) (ts:Ze) (J0 J1 J2:Zb) (ds:List ao) (H':Hp),iJ H' t l1 l2 l3 l4 ts J0 J1 J2 ds->bR J0 J1 J2 ds->J2.length<=most.toNat->ds.length<=600->fH H' p c->cz p H H'->Q (.ref t) H')->kf  vs H Q E
theorem at6{r:Int}(r0:0<=r)(r6:r<6):∃n:Nat,vc [V.int 0,.int 1,.int 1,.int 2,.int 2,.int 3] r=some (.int n)/\n<=3:=by
 have:r=0∨r=1∨r=2∨r=3∨r=4∨r=5:=by omega
 rcases this with rfl|rfl|rfl|rfl|rfl|rfl
 ·exact⟨0,rfl,by decide⟩
 ·exact⟨1,rfl,by decide⟩
 ·exact⟨1,rfl,by decide⟩
 ·exact⟨2,rfl,by decide⟩
 ·exact⟨2,rfl,by decide⟩
 ·exact⟨3,rfl,by decide⟩
theorem yH{ws:Zb}(hw:ws.length=8){n:Nat}(hn:n<=3):fW (ws.map V.str) (some 4) (some (5+(n:Int)))=((ws.drop 4).take (1+n)).map V.str:=by
 unfold fW;have s1:HT.sIx (ws.map V.str).length 0 (some 4)=min 4 (ws.map V.str).length:=HT.sIx_nat _ _ 4;have s2:HT.sIx (ws.map V.str).length (ws.map V.str).length (some (5+(n:Int)))=min (5+n) (ws.map V.str).length:=HT.sIx_nat _ _ (5+n);rw[s1,s2,af,hw,List.map_take,qi];have e1:min 4 8=4:=by decide
 have e2:min (5+n) 8-4=1+n:=by omega
 rw[e1,e2]
theorem xE{K:Za}{vs:List V}{H:Hp}{Q:VK}{E:XK}(h:kf vs H Q E):sM K eR ke eQ qY (bC Q) (start t6 vs) H:=by
 obtain⟨p,c,most,full,rfl,hp,m0,m1,f0,f2,k⟩:=h;refine⟨_,rfl,p,c,rfl,hp,fun H1 hp1 ex1=>?_⟩;refine⟨_,rfl,p,c,8,rfl,hp1,by decide,fun lw ws H2 ok len fr hl hp2 ex2=>?_⟩;have e2:=ex1.trans ex2;have nw:=hp2.ne_strs hl;refine⟨_,rfl,(by show 6<=aj;decide),fun q hq=>⟨_,rfl,de (hp2.ex (ac.new hq)) (by decide) (by decide) fun r H3 r0 r1 hp3 ex3=>?_⟩⟩;obtain⟨n,hn,n3⟩:=at6 r0 r1;have hl3:H3 lw=some (.lst (ws.map V.str)):=ex3 _ _ (kp hl hq) nw;refine⟨q,_,_,_,rfl,rfl,av.of (ex3 _ _ aa (hp2.nep hq).symm),hn,_,_,rfl,rfl,_,rfl,lw,_,rfl,av.of hl3,fun l1 hl1=>?_⟩;have ea:fW (ws.map V.str) none (some (1+(n:Int)))=(ws.take (1+n)).map V.str:=rS ws (1+n);rw[ea];have e3:cz p H H3:=e2.trans ((cz.new hq).trans ex3);have hp4:fH (upd H3 l1 (.lst ((ws.take (1+n)).map V.str))) p c:=hp3.ex (ac.new hl1);have e4:cz p H (upd H3 l1 (.lst ((ws.take (1+n)).map V.str))):=e3.trans (cz.new hl1);have hl4:upd H3 l1 (.lst ((ws.take (1+n)).map V.str)) lw=some (.lst (ws.map V.str)):=kp hl3 hl1;have ha4:upd H3 l1 (.lst ((ws.take (1+n)).map V.str)) l1=some (.lst ((ws.take (1+n)).map V.str)):=aa;generalize upd H3 l1 (.lst ((ws.take (1+n)).map V.str))=H4 at hp4 e4 hl4 ha4 ⊢;refine⟨_,rfl,_,rfl,(by show 6<=aj;decide),fun q hq=>⟨_,rfl,de (hp4.ex (ac.new hq)) (by decide) (by decide) fun r H5 r0 r1 hp5 ex5=>?_⟩⟩;obtain⟨m,hm,m3⟩:=at6 r0 r1;have hl5:H5 lw=some (.lst (ws.map V.str)):=ex5 _ _ (kp hl4 hq) nw;have ha5:H5 l1=some (.lst ((ws.take (1+n)).map V.str)):=ex5 _ _ (kp ha4 hq) (hp4.ne_strs ha4);refine⟨q,_,_,_,rfl,rfl,av.of (ex5 _ _ aa (hp4.nep hq).symm),hm,_,_,rfl,rfl,_,rfl,lw,_,rfl,av.of hl5,fun l2 hl2=>?_⟩;rw[yH len m3];have e5:cz p H H5:=e4.trans ((cz.new hq).trans ex5);have hp6:fH (upd H5 l2 (.lst (((ws.drop 4).take (1+m)).map V.str))) p c:=hp5.ex (ac.new hl2);have e6:cz p H (upd H5 l2 (.lst (((ws.drop 4).take (1+m)).map V.str))):=e5.trans (cz.new hl2);have ha6:upd H5 l2 (.lst (((ws.drop 4).take (1+m)).map V.str)) l1=some (.lst ((ws.take (1+n)).map V.str)):=kp ha5 hl2;have hb6:upd H5 l2 (.lst (((ws.drop 4).take (1+m)).map V.str)) l2=some (.lst (((ws.drop 4).take (1+m)).map V.str)):=aa;generalize upd H5 l2 (.lst (((ws.drop 4).take (1+m)).map V.str))=H6 at hp6 e6 ha6 hb6 ⊢;refine⟨_,rfl,_,rfl,_,rfl,de hp6 m0 (by omega) fun r H7 r0 r1 hp7 ex7=>?_⟩;obtain⟨rn,rfl⟩:=ii r0;have ha7:=ex7 _ _ ha6 (hp6.ne_strs ha6);have hb7:=ex7 _ _ hb6 (hp6.ne_strs hb6);refine⟨_,_,rfl,rfl,p,c,1+rn,rfl,hp7,by omega,fun l3 J2 H8 okr lenr fr3 hl3' hp8 ex8=>?_⟩;have ha8:=ex8 _ _ ha7 (hp7.ne_strs ha7);have hb8:=ex8 _ _ hb7 (hp7.ne_strs hb7);have hs0:(ws.drop 4).take (1+m)≠[]:=by
  intro z;have:=congrArg List.length z;rw[aT,fj,len]at this;simp at this
 have ha0:ws.take (1+n)≠[]:=by
  intro z;have:=congrArg List.length z;rw[aT,len]at this;simp at this
 have hr0:J2≠[]:=by
  intro z;rw[z]at lenr;simp at lenr;omega
 refine⟨_,rfl,_,rfl,_,rfl,_,rfl,_,rfl,p,c,l1,l2,l3,_,_,J2,full,rfl,hp8,ha8,hb8,hl3',by rw[aT];omega,hs0,by rw[aT];omega,hr0,by omega,f0,f2,fun l4 ts ds up H9 fr4 hl4' hds nod good few hp9 ex9=>?_⟩;have ha9:=ex9 _ _ ha8 (hp8.ne_strs ha8);have hb9:=ex9 _ _ hb8 (hp8.ne_strs hb8);have hc9:=ex9 _ _ hl3' (hp8.ne_strs hl3');refine⟨_,rfl,_,rfl,_,rfl,_,rfl,(by show 4<=aj;decide),fun t ht=>k t l1 l2 l3 l4 ts _ _ J2 ds _ ⟨aa,kp ha9 ht,kp hb9 ht,kp hc9 ht,kp hl4' ht,hds.kt (ac.kt (ac.new ht))⟩ ?_ ?_ few (hp9.ex (ac.new ht)) ?_⟩
 ·refine⟨⟨?_,fun w h=>ok.2 w (ff h)⟩,⟨?_,fun w h=>ok.2 w (List.mem_of_mem_drop (ff h))⟩,?_,okr,ha0,hs0,hr0,by rw[aT];omega,by rw[aT];omega,by omega,nod,fun d hd=>(good d hd).d,by omega,fun r z=>(xi okr.1 good z).irr okr.1⟩
  ·exact ok.1.sublist (List.take_sublist _ _)
  ·exact ok.1.sublist ((List.take_sublist _ _).trans (List.drop_sublist _ _))
  ·intro w h1 h2;have h3:w∈ws.drop 4:=ff h1;have h4:w∈ws.take 4:=by
    have:ws.take (1+n)=(ws.take 4).take (1+n):=by rw[List.take_take];congr 1;omega
    rw[this]at h2;exact ff h2
   have:=ok.1;rw[<-List.take_append_drop 4 ws,cu]at this;exact this.2.2 w h4 w h3 rfl
 ·omega
 ·exact(((e6.trans ex7).trans ex8).trans ex9).trans (cz.new ht)
theorem br{ws:Zb}{i:Nat}{x:V}(h:(ws.map V.str)[i]?=some x):∃w,ws[i]?=some w/\x=.str w:=by
 rw[gD]at h;cases q:ws[i]? with
 |none=>rw[q]at h;cases h
 |some r=>rw[q]at h;exact⟨r,rfl,(di h).symm⟩
theorem take_snoc{α:Type}{ws:List α}{i:Nat}{w:α}(h:ws[i]?=some w):ws.take (i+1)=ws.take i++[w]:=by
 obtain⟨hi,rfl⟩:=bN.mp h;rw[List.take_succ_eq_append_getElem hi]
def kM(w:Str):Bool:=!decide (w=("":Str)) && (decide (w.length<=8) && w.cps.toList.all fun c=>decide (c∈("abcdefghijklmnopqrstuvwxyz":Str).cps.toList))
theorem lZ.b{w:Str}(h:lZ w):kM w=true:=by
 unfold kM;have h1:¬(w=("":Str)):=fun e=>by
  have:=h.lo;rw[e]at this;exact absurd this (by decide +kernel)
 rw[zzr0 h1,zzr1 h.hi,Bool.not_false,nq,nq,nI];intro c hc;obtain⟨c1,c2⟩:=h.al c hc;refine zzr1 ?_;have:=v_ (c-97) (by omega);have e:97+(c-97)=c:=by omega
 rw[e]at this;exact dJ this
inductive sp_is_name (vs:List V)(H:Hp)(Q:VK)(E:XK):Prop
 |mk (w:Str):(vs=[.str w])->(w.length<=1000)->(∀H',ac H H'->Q (.bl (kM w)) H')->sp_is_name  vs H Q E
theorem uJ{K:Za}{vs:List V}{H:Hp}{Q:VK}{E:XK}(h:sp_is_name vs H Q E):wk K (bC Q) (start wZ vs) H:=by
 obtain⟨w,rfl,hz,k⟩:=h;refine⟨_,rfl,rfl,_,rfl,?_⟩;have ed:(!decide (V.str w=V.str ("":Str)))=!decide (w=("":Str)):=by
  congr 1;by_cases e:w=("":Str)
  ·rw[zzr1 e,zzr1 (by rw[e])]
  ·rw[zzr0 e,zzr0 (fun z=>e (by injection z))]
 rw[ed];refine iE (fun h1=>?_) (fun h1=>?_)
 ·refine⟨_,rfl,.inr ⟨w,rfl,dU (am hz),_,_,rfl,rfl,_,rfl,?_⟩⟩;refine iE (fun h2=>?_) (fun h2=>?_)
  ·refine⟨_,rfl,w,rfl,fun l hl=>?_⟩
   let zI0:Nat->List V->Hp->Prop:=fun i vs H'=>vs=((w.cps.toList.take i).map fun c=>V.bl (decide (c∈("abcdefghijklmnopqrstuvwxyz":Str).cps.toList)))/\ac H H'/\H' l=some (.lst vs)
   refine yI zI0
    ⟨rfl,ac.new hl,aa⟩ (fun i vs H' _ h=>h.2.2) ?_ ?_
   ·rintro vs H' ⟨rfl,hS,hl'⟩;refine⟨l,w.cps.toList.map fun c=>decide (c∈("abcdefghijklmnopqrstuvwxyz":Str).cps.toList),rfl,av.of ?_,?_⟩
    ·rw[hl',gU];have:w.cps.toList.take w.cps.size=w.cps.toList:=by
      rw[qh];simp
     rw[this]
     rfl
    ·have:=k H' hS;have h2':decide (w.length<=8)=true:=zzr1 (by have:=of_decide_eq_true h2;omega);unfold kM at this;rw[h1,h2',nq,nq]at this;rw[nC];exact this
   ·rintro i vs H' c hc hi ⟨rfl,hS,hl'⟩;refine gN (sH ?_);refine⟨_,rfl,c,_,rfl,rfl,hl',?_,je hi ⟨?_,?_,aa⟩⟩
    ·rw[af,aT];have:w.length=w.cps.toList.length:=dw w;exact am (by omega)
    ·rw[take_snoc (by rw[<-hc];simp),ar]
     rfl
    ·intro b o e;rw[ai (ae e hl)];exact hS b o e
  ·have:=k H (ac.refl H);have h2':decide (w.length<=8)=false:=zzr0 (fun z=>h2 (zzr1 (by omega)));unfold kM at this;rw[h1,h2',nq,Bool.false_and]at this;exact this
 ·have:=k H (ac.refl H);unfold kM at this;rw[Bool.eq_false_iff.mpr h1,Bool.false_and]at this;exact this
def aD(ws:Zb):List (dA×V):=ws.foldl (fun acc w=>cU acc (.inr w) (.bl true)) []
theorem cp(ws:Zb)(w:Str):aD (ws++[w])=cU (aD ws) (.inr w) (.bl true):=by
 unfold aD;rw[List.foldl_append]
 rfl
theorem oh{κ:Type}[DecidableEq κ](kvs:List (κ×V))(k:κ)(v:V):(cU kvs k v).length<=kvs.length+1:=by
 unfold cU;split
 ·rw[af];omega
 ·rw[aW];exact az _
theorem gK{α:Type}(P:List α->Prop)(h0:P [])(hs:∀ws w,P ws->P (ws++[w]))(ws:List α):P ws:=by
 have:∀n (ws:List α),ws.length=n->P ws:=by
  intro n
  induction n with
  |zero=>intro ws h;rw[List.length_eq_zero_iff.mp h];exact h0
  |succ n ih =>
   intro ws h;have hne:ws≠[]:=fun z=>by rw[z]at h;cases h
   rw[<-List.dropLast_concat_getLast hne];exact hs _ _ (ih _ (by rw[List.length_dropLast,h];rfl))
 exact this _ ws rfl
theorem gZ(ws:Zb):(aD ws).length<=ws.length:=by
 refine gK (fun ws=>(aD ws).length<=ws.length) (az _) (fun ws w h=>?_) ws;show(aD (ws++[w])).length<=(ws++[w]).length;rw[cp,aW];have:=oh (aD ws) (.inr w) (.bl true);show _<=ws.length+1;omega
theorem ox(ws:Zb)(x:Str):bV (aD ws) (.inr x)=if x∈ws then some (.bl true)else none:=by
 refine gK (fun ws=>bV (aD ws) (.inr x)=if x∈ws then some (.bl true)else none) rfl (fun ws w h=>?_) ws
 show bV (aD (ws++[w])) (.inr x)=_;rw[cp,nM,h];by_cases e:x=w
 ·subst e;rw[if_pos rfl,if_pos (by simp)]
 ·have e1:¬((Sum.inr x:dA)=.inr w):=fun z=>e (by injection z);rw[if_neg e1];by_cases m:x∈ws
  ·rw[if_pos m,if_pos (cH _ m)]
  ·rw[if_neg m,if_neg (fun z=>by rcases aR.mp z with z|z;exact m z;exact e (by simpa using z))]
theorem c8(ws:Zb)(x:Str):(bV (aD ws) (.inr x)).isSome=decide (x∈ws):=by
 rw[ox];by_cases m:x∈ws
 ·rw[if_pos m,zzr1 m];rfl
 ·rw[if_neg m,zzr0 m];rfl
inductive sp_as_keys(K:Za)(vs:List V)(H:Hp)(Q:VK)(E:XK):Prop
 |mk (l:Addr) (ws:Zb):(vs=[.ref l])->(av K H l (ws.map V.str))->(ws.length<=1000)->(∀d,H d=none->Q (.ref d) (upd H d (.dK (aD ws))))->sp_as_keys K vs H Q E
theorem uK{K:Za}{vs:List V}{H:Hp}{Q:VK}{E:XK}(h:sp_as_keys K vs H Q E):wl K (bC Q) (start qe vs) H:=by
 obtain⟨l,ws,rfl,hl,hz,k⟩:=h;refine fun d hd=>?_;have key:∀kvs,av K (upd H d (.dK kvs)) l (ws.map V.str):=fun kvs=>(ac.new hd).seq hl;refine⟨_,rfl,l,rfl,⟨_,key _⟩,?_⟩
 let zI1:Nat->L2.St->Hp->Prop:=fun i σ H'=>∃x,σ=[some (.ref l),some (.ref d),x]/\H'=upd H d (.dK (aD (ws.take i)))
 refine bP (xs:=ws.map V.str) zI1 ⟨_,rfl,rfl⟩ (fun i σ H' _ zq=>by obtain⟨_,_,e⟩:=zq;exact by rw[e];exact key _) ?_ ?_
 ·rintro i x σ H' hi ⟨y,rfl,rfl⟩;obtain⟨w,hw,rfl⟩:=br hi;have hlen:(aD (ws.take i)).length<aj:=am (aO (gZ _) (by rw[aT];omega));refine⟨_,rfl,_,rfl,d,_,rfl,.inl ⟨_,.inr w,aa,rfl,hlen,rfl⟩,_,rfl,?_⟩;rw[j1,take_snoc hw,cp]
 ·rintro σ H' ⟨x,rfl,rfl⟩;rw[af,aU];exact⟨_,rfl,k d hd⟩
def yo(most:Nat):Nat->List Str->List Str->Option Nat
 |_,_,[]=>none
 |i,ahead,n::ns=>if i=most∨n∈ahead∨kM n=false then some i else yo most (i+1) (ahead++[n]) ns
def bQ(names:Zb)(most:Nat)(taken:Zb):Option Nat:=if names=[]then some 0 else yo most 0 taken names
def oV:Option Nat->V
 |none=>.non
 |some i=>.int i
inductive sp_first_wrong_name(K:Za)(vs:List V)(H:Hp)(Q:VK)(E:XK):Prop
 |mk (l t:Addr) (names taken:Zb) (most:Nat):(vs=[.ref l,.int most,.ref t])->(av K H l (names.map V.str))->(av K H t (taken.map V.str))->(names.length+taken.length<=1000)->((∀w∈names,w.length<=1000))->(∀H',ac H H'->Q (oV (bQ names most taken)) H')->sp_first_wrong_name K vs H Q E
theorem lU{K:Za}{H:Hp}{Q:VK}{E:XK}{l:Addr}{ws:Zb}(hl:av K H l (ws.map V.str))(hz:ws.length<=1000)(k:∀d,H d=none->Q (.ref d) (upd H d (.dK (aD ws)))):sp_as_keys K [.ref l] H Q E:=by
 exact⟨l,ws,rfl,hl,hz,k⟩
theorem wG{H:Hp}{Q:VK}{E:XK}{w:Str}(hz:w.length<=1000)(k:∀H',ac H H'->Q (.bl (kM w)) H'):sp_is_name [.str w] H Q E:=by
 exact⟨w,rfl,hz,k⟩
theorem i7{K:Za}{vs:List V}{H:Hp}{Q:VK}{E:XK}(h:sp_first_wrong_name K vs H Q E):jr K sp_is_name (sp_as_keys K) (bC Q) (start jI vs) H:=by
 obtain⟨l,t,names,taken,most,rfl,hl,ht,hz,hw,k⟩:=h;refine⟨_,rfl,.inl ⟨l,_,rfl,.inl hl,rfl,_,rfl,?_⟩⟩;by_cases h0:names=[]
 ·subst h0;refine c9 ?_;have:=k H (ac.refl H);exact this
 have e0:decide (V.int ((names.map V.str).length:Nat)=V.int 0)=false:=zzr0 (fun z=>h0 (by
  injection z with z;rw[af]at z;exact List.length_eq_zero_iff.mp (by omega)))
 rw[e0];refine ck ?_;have hk:∀H',ac H H'->Q (oV (yo most 0 taken names)) H':=by
  unfold bQ at k;rw[if_neg h0]at k;exact k
 refine⟨_,rfl,lU ht (by omega) fun d hd=>?_⟩;refine⟨_,rfl,l,rfl,⟨_,(ac.new hd).seq hl⟩,?_⟩
 let zI2:Nat->L2.St->Hp->Prop:=fun i σ H'=>∃x y,σ=[some (.ref l),some (.int most),some (.ref t),some (.ref d),x,y]/\ac H H'/\H' d=some (.dK (aD (taken++names.take i)))/\yo most i (taken++names.take i) (names.drop i)=yo most 0 taken names
 refine iH (xs:=names.map V.str) zI2
  ⟨_,_,rfl,ac.new hd,by rw[List.take_zero,cR];exact aa,by rw[List.take_zero,cR,nF]⟩ (fun i σ H' _ zq=>by obtain⟨_,_,_,hS,_⟩:=zq;exact hS.seq hl) ?_ ?_
 ·rintro i x σ H' q hi ⟨x4,x5,rfl,hS,hd',hf⟩ hq;obtain⟨w,hw',rfl⟩:=br hi;have hil:i<names.length:=(bN.mp hw').1;have ed:names.drop i=w::names.drop (i+1):=by
   rw[List.drop_eq_getElem_cons hil];congr 1;exact(bN.mp hw').2
  rw[ed]at hf;have hd2:upd H' q (.tup [.int i,.str w]) d=some (.dK (aD (taken++names.take i))):=kp hd' hq;have hS2:ac H (upd H' q (.tup [.int i,.str w])):=hS.trans (ac.new hq);have hww:w.length<=1000:=hw w (dJ hw');refine⟨q,_,rfl,bp.of aa,rfl,_,_,rfl,_,_,rfl,rfl,?_⟩;generalize upd H' q (.tup [.int i,.str w])=H2 at hd2 hS2 ⊢;refine⟨_,rfl,_,rfl,rfl,_,rfl,?_⟩;by_cases c1:i=most
  ·have e1:decide (V.int (i:Nat)=V.int (most:Nat))=true:=zzr1 (by rw[c1]);rw[e1];refine c9 (c9 ?_);refine⟨_,rfl,?_⟩;have:=hk H2 hS2;rw[<-hf]at this;unfold yo at this;rw[if_pos (.inl c1)]at this;exact this
  have e1:decide (V.int (i:Nat)=V.int (most:Nat))=false:=zzr0 (fun z=>c1 (by injection z with z;omega));rw[e1];refine ck ?_;refine⟨_,rfl,_,rfl,d,_,rfl,.inl ⟨_,.inr w,.inl hd2,rfl,rfl⟩,_,rfl,?_⟩;rw[c8];by_cases c2:w∈taken++names.take i
  ·rw[zzr1 c2];refine c9 (c9 ?_);refine⟨_,rfl,?_⟩;have:=hk H2 hS2;rw[<-hf]at this;unfold yo at this;rw[if_pos (.inr (.inl c2))]at this;exact this
  rw[zzr0 c2];refine ck ?_;refine⟨_,rfl,wG hww fun H3 hS3=>⟨_,rfl,?_⟩⟩;have hd3:=hS3 _ _ hd2;cases c3:kM w with
  |false =>
   refine c9 ?_;refine⟨_,rfl,?_⟩;have:=hk H3 (hS2.trans hS3);rw[<-hf]at this;unfold yo at this;rw[if_pos (.inr (.inr c3))]at this;exact this
  |true =>
   refine ck ?_;have hlen:(aD (taken++names.take i)).length<aj:=am (aO (gZ _) (by rw[aW,aT];omega));refine⟨_,rfl,_,rfl,d,_,rfl,.inl ⟨_,.inr w,hd3,rfl,hlen,rfl⟩,_,_,rfl,?_,?_,?_⟩
   ·intro b o e;rw[ai (ae e hd)];exact hS3 _ _ (hS2 _ _ e)
   ·rw[aa,take_snoc hw',<-dD,cp]
   ·rw[<-hf,take_snoc hw',<-dD]
    conv=>rhs;unfold yo
    rw[if_neg];rintro(z|z|z)
    ·exact c1 z
    ·exact c2 z
    ·rw[c3]at z;cases z
 ·rintro σ H' ⟨x,y,rfl,hS,_,hf⟩;rw[af,List.drop_length]at hf;have:=hk H' hS;rw[<-hf]at this;exact this
theorem tN{most:Nat}:∀(ns ahead:Zb) (i:Nat),i+ns.length<=most->(ahead++ns).Nodup->(∀w∈ns,lZ w)->yo most i ahead ns=none
 |[],_,_,_,_,_=>rfl
 |n::ns,ahead,i,h1,h2,h3=>by
  rw[eT]at h1;unfold yo;rw[if_neg]
  ·refine tN ns (ahead++[n]) (i+1) (by omega) (by rw[dD];exact h2) fun w hw=>h3 w (dO _ hw)
  ·rintro(z|z|z)
   ·omega
   ·rw[cu]at h2;exact h2.2.2 n z n (cQ) rfl
   ·rw[(h3 n cQ).b]at z;cases z
theorem fk{most:Nat}{ns taken:Zb}(h0:ns≠[])(h1:ns.length<=most)(h2:(taken++ns).Nodup)(h3:∀w∈ns,lZ w):bQ ns most taken=none:=by
 unfold bQ;rw[if_neg h0];exact tN ns taken 0 (by omega) h2 h3
theorem eC{n:Nat}(h:n<=9000):n<aj:=Nat.lt_of_le_of_lt h (by decide)
def mM(x:Str):TK:=.k (some (.inr x))
def jU(sg:Zb):TK:=.t (sg.map mM)
def v6(d:ao):TK:=.t [mM d.a,jU d.sg,mM d.b]
theorem m7{x y:Str}(h:mM x=mM y):x=y:=by
 unfold mM at h;injection h with h;injection h with h;injection h
theorem mm:∀{x y:Zb},x.map mM=y.map mM->x=y
 |[],[],_=>rfl
 |[],_::_,h=>by cases h
 |_::_,[],h=>by cases h
 |a::x,b::y,h=>by
  rw[aY,aY]at h;injection h with h1 h2;rw[m7 h1,mm h2]
theorem nc{x y:Zb}(h:jU x=jU y):x=y:=by
 unfold jU at h;injection h with h;exact mm h
theorem zV{x y:ao}(h:v6 x=v6 y):x=y:=by
 unfold v6 at h;injection h with h;injection h with h1 h;injection h with h2 h;injection h with h3 h;cases x;cases y;simp only at *;rw[m7 h1,nc h2,m7 h3]
theorem uj(xs:Zb):TK.depths (xs.map mM)=0:=by
 induction xs with
 |nil=>rfl
 |cons x xs ih=>rw[aY];show max (TK.depth (mM x)) (TK.depths _)=0;rw[ih];rfl
theorem gJ(sg:Zb):(jU sg).depth=1:=by
 show TK.depths (sg.map mM)+1=1;rw[uj]
theorem pR(d:ao):(v6 d).depth=2:=by
 show max (TK.depth (mM d.a)) (max (TK.depth (jU d.sg)) (max (TK.depth (mM d.b)) 0))+1=2;rw[gJ]
 rfl
theorem vG{H:Hp}:∀xs:List Str,TKAts H (xs.map mM) (xs.map V.str)
 |[]=>by show TKAts H [] [];unfold TKAts;rfl
 |x::xs=>by
  rw[aY,aY];unfold TKAts;refine⟨_,_,rfl,?_,vG xs⟩;unfold mM fb
  rfl
theorem qH{H:Hp}(x:Str):fb H (mM x) (.str x):=by unfold mM fb;rfl
theorem SignAt.tk{H:Hp}{s:Addr}{sg:Zb}(h:SignAt H s sg):fb H (jU sg) (.ref s):=by
 unfold jU fb;exact⟨s,_,rfl,h,vG _⟩
theorem f6.tk{H:Hp}{t:Addr}{d:ao}(h:f6 H t d):fb H (v6 d) (.ref t):=by
 obtain⟨s,h1,h2⟩:=h;unfold v6 fb;refine⟨t,_,rfl,h1,?_⟩;unfold TKAts;refine⟨_,_,rfl,qH _,?_⟩;unfold TKAts;refine⟨_,_,rfl,SignAt.tk h2,?_⟩;unfold TKAts;refine⟨_,_,rfl,qH _,?_⟩;unfold TKAts
 rfl
section
variable{κ:Type}[DecidableEq κ]
def hV(ks:List κ):List (κ×V):=ks.foldl (fun acc k=>cU acc k (.bl true)) []
theorem jC(ws:List κ)(w:κ):hV (ws++[w])=cU (hV ws) w (.bl true):=by
 unfold hV;rw[List.foldl_append]
 rfl
theorem wF(ws:List κ):(hV ws).length<=ws.length:=by
 refine gK (fun ws=>(hV ws).length<=ws.length) (az _) (fun ws w h=>?_) ws;show(hV (ws++[w])).length<=(ws++[w]).length;rw[jC,aW];have:=oh (hV ws) w (.bl true);show _<=ws.length+1;omega
theorem yi(ws:List κ)(x:κ):(bV (hV ws) x).isSome=decide (x∈ws):=by
 refine gK (fun ws=>(bV (hV ws) x).isSome=decide (x∈ws)) rfl (fun ws w h=>?_) ws;show(bV (hV (ws++[w])) x).isSome=_;rw[jC,nM];by_cases e:x=w
 ·subst e;rw[if_pos rfl,zzr1 (by simp)]
  rfl
 ·rw[if_neg e,h];by_cases m:x∈ws
  ·rw[zzr1 m,zzr1 (cH _ m)]
  ·rw[zzr0 m,zzr0 (fun z=>by rcases aR.mp z with z|z;exact m z;exact e (by simpa using z))]
end
theorem vS{d:ao}{ds:List ao}:v6 d∈ds.map v6↔d∈ds:=by
 constructor
 ·intro h;obtain⟨x,hx,e⟩:=aJ.mp h;rw[<-zV e];exact hx
 ·exact fP
def jF(K:Za)(H:Hp)(v:V)(sg:Zb):Prop:=∃s,v=.ref s/\bp K H s (sg.map V.str)
theorem ac.sqT{K:Za}{H H':Hp}{a:Addr}{xs:List V}(e:ac H H')(h:bp K H a xs):bp K H' a xs:=by
 rcases h with(h|⟨o,h⟩)|h
 ·exact .inl (.inl (e _ _ h))
 ·exact .inl (.inr ⟨o,e _ _ h⟩)
 ·exact .inr h
theorem Signs.same{K:Za}{H H':Hp}(e:ac H H'){xs:List V}{sgs:List (List Str)}(h:Paired (jF K H) xs sgs):Paired (jF K H') xs sgs :=
 Paired.mapP h fun _ _ ⟨s,h1,h2⟩=>⟨s,h1,ac.sqT e h2⟩
def dg(sg:Zb):DT:=.t (sg.map gj)
theorem kP{x y:Zb}(h:dg x=dg y):x=y:=by
 unfold dg at h;injection h with h;exact gp h
theorem bH(sg:Zb):(dg sg).depth=1:=by
 show DT.depths (sg.map gj)+1=1;rw[fV]
theorem wM(sgs:List (List Str)):DT.depths (sgs.map dg)<=8:=by
 induction sgs with
 |nil=>exact cM _
 |cons x xs ih=>rw[aY];show max (DT.depth (dg x)) (DT.depths _)<=8;rw[bH];omega
theorem Signs.dIns{K:Za}{H:Hp}{xs:List V}{sgs:List (List Str)}(h:Paired (jF K H) xs sgs):DIns K H (sgs.map dg) xs:=by
 induction h with
 |nil=>show DIns K H [] [];unfold DIns;rfl
 |cons q _ ih =>
  obtain⟨s,e,r⟩:=q;rw[aY];unfold DIns;refine⟨_,_,rfl,?_,ih⟩;rw[e];exact aV r
theorem vR{d:Zb}{ds:List (List Str)}:dg d∈ds.map dg↔d∈ds:=by
 constructor
 ·intro h;obtain⟨x,hx,e⟩:=aJ.mp h;rw[<-kP e];exact hx
 ·exact fP
theorem Paired.app{α β:Type}{R:α->β->Prop}{a:List α}{b:List β}{c:List α}{d:List β}(g:Paired R a b)(h:Paired R c d):Paired R (a++c) (b++d):=by
 induction g with
 |nil=>exact h
 |cons r _ ih=>exact .cons r ih
def tX(w:Str):List Str:=[("ask":Str),w]
def cT(w:Str):List Str:=[("say":Str),w]
def gR(J0 J1:Zb):List (List Str):=J0.map tX++J1.map cT++[aN]
theorem n6{K:Za}{kw:Str}{σ:L2.St}{H:Hp}{a l:Addr}{ws:Zb}{Q:Hp->Prop}(ha:H a=some (.lst (ws.map V.str)))(hl:H l=none)(hz:ws.length<=1000)
  (k:∀(xs:List V) (H':Hp),Paired (jF K H') xs (ws.map fun w=>[kw,w])->ac H H'->H' l=some (.lst xs)->Q H') :
  fe 1 [] σ (yY K a) U0 i0 (cS (bI (tC (.str kw)) V0)) H l Q:=by
 let zI0:Nat->List V->Hp->Prop:=fun i vs H'=>Paired (jF K H') vs ((ws.take i).map fun w=>[kw,w])/\ac H H'/\H' l=some (.lst vs)
 refine bB (xs:=ws.map V.str) zI0
  ⟨.nil,ac.new hl,aa⟩ (fun i vs H' _ zq=>by obtain⟨_,hS,h'⟩:=zq;exact⟨h',av.of (hS _ _ ha)⟩) ?_ ?_
 ·rintro vs H' ⟨h1,h2,h3⟩;rw[af,aU]at h1;exact k vs H' h1 h2 h3
 ·rintro i vs H' x hx hi ⟨h1,h2,h3⟩;obtain⟨w,hw,rfl⟩:=br hx;refine gN (sH ?_);refine⟨_,rfl,(by show 2<=aj;decide),fun t ht=>⟨kp h3 ht,?_,je hi ⟨?_,?_,aa⟩⟩⟩
  ·rw[Paired.length h1,af,aT];exact am (by omega)
  ·rw[take_snoc hw,ar];have hS2:k3 (upd H' t (.tup [.str kw,.str w])) (upd (upd H' t (.tup [.str kw,.str w])) l (.lst (vs++[.ref t]))):=dZ (kp h3 ht);have hS3:k3 H' (upd (upd H' t (.tup [.str kw,.str w])) l (.lst (vs++[.ref t]))):=(ac.kt (ac.new ht)).trans hS2;refine Paired.app (Paired.mapP h1 fun v sg ⟨s,e1,e2⟩=>⟨s,e1,?_⟩) (.cons ⟨t,rfl,bp.of (hS2 _ _ aa)⟩ .nil);rcases e2 with(e2|⟨o,e2⟩)|e2
   ·exact .inl (.inl (hS3 _ _ e2))
   ·refine .inl (.inr ⟨o,?_⟩);rw[ai (fun z=>by rw[z,h3]at e2;cases e2)];exact kp e2 ht
   ·exact .inr e2
  ·intro b o e;rw[ai (ae e hl)];exact kp (h2 _ _ e) ht
inductive sp_door_signs(K:Za)(vs:List V)(H:Hp)(Q:VK)(E:XK):Prop
 |mk (l1 l2:Addr) (J0 J1:Zb):(vs=[.ref l1,.ref l2])->(H l1=some (.lst (J0.map V.str)))->(H l2=some (.lst (J1.map V.str)))->(J0.length<=100)->(J1.length<=100)->(∀(l:Addr) (xs:List V) (H':Hp),Paired (jF K H') xs (gR J0 J1)->ac H H'->H' l=some (.lst xs)->Q (.ref l) H')->sp_door_signs K vs H Q E
theorem pj{K:Za}{st:Addr}(hst:∀H,bp K H st (aN.map V.str)){vs:List V}{H:Hp}{Q:VK}{E:XK}(h:sp_door_signs K vs H Q E):qO K st (bC Q) (start sm vs) H:=by
 obtain⟨l1,l2,J0,J1,rfl,h1,h2,z1,z2,k⟩:=h;refine⟨_,rfl,l1,rfl,⟨_,av.of h1⟩,fun a ha=>?_⟩;refine n6 h1 ha (by omega) fun xs1 H1 p1 s1 g1=>?_;refine⟨_,rfl,l2,rfl,⟨_,av.of (s1 _ _ h2)⟩,fun b hb=>?_⟩;refine n6 (s1 _ _ h2) hb (by omega) fun xs2 H2 p2 s2 g2=>?_;have len1:xs1.length<=100:=by rw[Paired.length p1,af];exact z1
 have len2:xs2.length<=100:=by rw[Paired.length p2,af];exact z2
 refine⟨a,b,xs1,xs2,rfl,rfl,s2 _ _ g1,g2,dU (am (by omega)),fun c hc=>?_⟩;refine⟨(by show 1<=aj;decide),fun d hd=>?_⟩;refine⟨c,d,_,_,rfl,rfl,kp aa hd,aa,?_,fun e he=>k e _ _ ?_ ?_ aa⟩
 ·rw[aW];show _+1<=aj;exact dU (am (by omega))
 ·have sx:ac H2 (upd (upd (upd H2 c (.lst (xs1++xs2))) d (.lst [.ref st])) e (.lst (xs1++xs2++[.ref st]))):=((ac.new hc).trans (ac.new hd)).trans (ac.new he);exact Paired.app (Paired.app (Signs.same (s2.trans sx) p1) (Signs.same sx p2)) (.cons ⟨st,rfl,hst _⟩ .nil)
 ·exact(((s1.trans s2).trans (ac.new hc)).trans (ac.new hd)).trans (ac.new he)
def zS(J2:Zb)(sgs:List (List Str)):Nat->List ao->List ao->Option Nat
 |_,_,[]=>none
 |i,ahead,d::ds=>if i=2000∨d∈ahead∨d.a∉J2∨d.sg∉sgs∨d.b∉J2 then some i else zS J2 sgs (i+1) (ahead++[d]) ds
inductive sp_first_wrong_door(K:Za)(vs:List V)(H:Hp)(Q:VK)(E:XK):Prop
 |mk (l l3 sl:Addr) (ts:Ze) (ds:List ao) (J2:Zb) (xs:List V) (sgs:List (List Str)):(vs=[.ref l,.ref l3,.ref sl])->(H l=some (.lst (ts.map V.ref)))->(cY H ts ds)->(H l3=some (.lst (J2.map V.str)))->(J2.length<=1000)->(H sl=some (.lst xs))->(Paired (jF K H) xs sgs)->(ds.length<=9000)->(∀H',ac H H'->Q (oV (zS J2 sgs 0 [] ds)) H')->sp_first_wrong_door K vs H Q E
theorem bz{ws:Ze}{i:Nat}{x:V}(h:(ws.map V.ref)[i]?=some x):∃w,ws[i]?=some w/\x=.ref w:=by
 rw[gD]at h;cases q:ws[i]? with
 |none=>rw[q]at h;cases h
 |some r=>rw[q]at h;exact⟨r,rfl,(di h).symm⟩
theorem i8{K:Za}{vs:List V}{H:Hp}{Q:VK}{E:XK}(h:sp_first_wrong_door K vs H Q E):js K (sp_as_keys K) (bC Q) (start jJ vs) H:=by
 obtain⟨l,l3,sl,ts,ds,J2,xs,sgs,rfl,hl,hds,h3,hr,hsl,hsg,hz,k⟩:=h;refine⟨_,rfl,lU (av.of h3) hr fun d hd=>?_⟩;refine fun e he=>?_;have hS0:ac H (upd (upd H d (.dK (aD J2))) e (.dT [])):=(ac.new hd).trans (ac.new he);have heH:H e=none:=(ac.new hd).free he;refine⟨_,rfl,l,rfl,⟨_,av.of (hS0 _ _ hl)⟩,?_⟩
 let zI1:Nat->L2.St->Hp->Prop:=fun i σ H'=>∃x y,σ=[some (.ref l),some (.ref l3),some (.ref sl),some (.ref d),some (.ref e),x,y]/\ac H H'/\H' d=some (.dK (aD J2))/\H' e=some (.dT (hV ((ds.take i).map v6)))/\zS J2 sgs i (ds.take i) (ds.drop i)=zS J2 sgs 0 [] ds
 refine iH (xs:=ts.map V.ref) zI1
  ⟨_,_,rfl,hS0,kp aa he,aa,rfl⟩ (fun i σ H' _ zq=>by obtain⟨_,_,_,hS,_⟩:=zq;exact av.of (hS _ _ hl)) ?_ ?_
 ·rintro i x σ H' q hi ⟨x5,x6,rfl,hS,hd',he',hf⟩ hq;obtain⟨t,ht,rfl⟩:=bz hi;obtain⟨dr,hdr,hat⟩:=Paired.getL hds ht;have hil:i<ds.length:=(bN.mp hdr).1;have ed:ds.drop i=dr::ds.drop (i+1):=by
   rw[List.drop_eq_getElem_cons hil];congr 1;exact(bN.mp hdr).2
  rw[ed]at hf;have hS2:ac H (upd H' q (.tup [.int i,.ref t])):=hS.trans (ac.new hq);have hd2:upd H' q (.tup [.int i,.ref t]) d=_:=kp hd' hq;have he2:upd H' q (.tup [.int i,.ref t]) e=_:=kp he' hq;refine⟨q,_,rfl,bp.of aa,rfl,_,_,rfl,_,_,rfl,rfl,?_⟩;generalize upd H' q (.tup [.int i,.ref t])=H2 at hd2 he2 hS2 ⊢;have hat2:=hat.kt (ac.kt hS2);have hin:mQ K H2 (v6 dr) (.ref t):=fb.isIn 8 (by rw[pR];decide) hat2.tk;have hd8:(v6 dr).depth<=8:=by rw[pR];decide
  obtain⟨s,ht2,hs2⟩:=hat2;have bad:(i=2000∨dr∈ds.take i∨dr.a∉J2∨dr.sg∉sgs∨dr.b∉J2)->Q (.int i) H2:=by
   intro c;have:=k H2 hS2;rw[<-hf]at this;unfold zS at this;rw[if_pos c]at this;exact this
  refine⟨_,rfl,rfl,_,rfl,?_⟩;by_cases c1:i=2000
  ·have e1:decide (V.int (i:Nat)=V.int 2000)=true:=zzr1 (by rw[c1];rfl);rw[e1];exact c9 (c9 ⟨_,rfl,bad (.inl c1)⟩)
  have e1:decide (V.int (i:Nat)=V.int 2000)=false:=zzr0 (fun z=>c1 (by injection z with z;omega));rw[e1];refine ck ?_;refine⟨_,rfl,_,rfl,e,_,rfl,.inr ⟨_,v6 dr,t,.inl he2,rfl,hin,hd8,rfl⟩,_,rfl,?_⟩;rw[yi];by_cases c2:dr∈ds.take i
  ·rw[zzr1 (vS.mpr c2)];exact c9 ⟨_,rfl,bad (.inr (.inl c2))⟩
  rw[zzr0 (fun z=>c2 (vS.mp z))];refine ck ?_;refine⟨_,rfl,.inr (.inl ⟨t,_,0,_,rfl,rfl,bp.of ht2,rfl,_,rfl,d,_,rfl,.inl ⟨_,.inr dr.a,.inl hd2,rfl,rfl⟩,_,rfl,?_⟩)⟩;rw[c8];by_cases c3:dr.a∈J2;rotate_left
  ·rw[zzr0 c3];exact c9 (c9 ⟨_,rfl,bad (.inr (.inr (.inl c3)))⟩)
  rw[zzr1 c3];refine ck ?_;refine⟨_,rfl,.inr (.inl ⟨t,_,1,_,rfl,rfl,bp.of ht2,rfl,_,rfl,dg dr.sg,sgs.map dg,sl,xs,aV (bp.of hs2),rfl,.inl (av.of (hS2 _ _ hsl)),Signs.dIns (Signs.same hS2 hsg),by rw[bH];decide,wM _,_,rfl,?_⟩)⟩;rw[if_pos rfl];by_cases c4:dr.sg∈sgs;rotate_left
  ·rw[zzr0 (fun z=>c4 (vR.mp z))];exact c9 (c9 ⟨_,rfl,bad (.inr (.inr (.inr (.inl c4))))⟩)
  rw[zzr1 (vR.mpr c4)];refine ck ?_;refine⟨_,rfl,.inr (.inl ⟨t,_,2,_,rfl,rfl,bp.of ht2,rfl,_,rfl,d,_,rfl,.inl ⟨_,.inr dr.b,.inl hd2,rfl,rfl⟩,_,rfl,?_⟩)⟩;rw[c8];by_cases c5:dr.b∈J2;rotate_left
  ·rw[zzr0 c5];exact c9 ⟨_,rfl,bad (.inr (.inr (.inr (.inr c5))))⟩
  rw[zzr1 c5];refine ck ?_;have hlen:(hV ((ds.take i).map v6)).length<aj:=eC (aO (wF _) (by rw[af,aT];omega));refine⟨_,rfl,_,rfl,e,_,rfl,.inr ⟨_,v6 dr,t,he2,rfl,f6.tk ⟨s,ht2,hs2⟩,hd8,hlen,rfl⟩,_,_,rfl,?_,?_,?_,?_⟩
  ·intro b o q;rw[ai (ae q heH)];exact hS2 _ _ q
  ·rw[ai (fun z=>by rw[z,he2]at hd2;cases hd2)];exact hd2
  ·rw[aa,take_snoc hdr,ar];exact congrArg (fun z=>some (HO.dT z)) (jC _ _).symm
  ·rw[<-hf,take_snoc hdr]
   conv=>rhs;unfold zS
   rw[if_neg];rintro(z|z|z|z|z)
   ·exact c1 z
   ·exact c2 z
   ·exact z c3
   ·exact z c4
   ·exact z c5
 ·rintro σ H' ⟨x,y,rfl,hS,_,_,hf⟩;have:=k H' hS;rw[<-hf,af,Paired.length hds,List.drop_length]at this;exact this
theorem tO{J2:Zb}{sgs:List (List Str)}:∀(ds ahead:List ao) (i:Nat),i+ds.length<=2000->(ahead++ds).Nodup->(∀d∈ds,d.a∈J2/\d.sg∈sgs/\d.b∈J2)->zS J2 sgs i ahead ds=none
 |[],_,_,_,_,_=>rfl
 |n::ns,ahead,i,h1,h2,h3=>by
  rw[eT]at h1;unfold zS;rw[if_neg]
  ·refine tO ns (ahead++[n]) (i+1) (by omega) (by rw[dD];exact h2) fun w hw=>h3 w (dO _ hw)
  ·have:=h3 n cQ;rintro(z|z|z|z|z)
   ·omega
   ·rw[cu]at h2;exact h2.2.2 n z n (cQ) rfl
   ·exact z this.1
   ·exact z this.2.1
   ·exact z this.2.2
inductive sp_need_none (vs:List V)(H:Hp)(Q:VK)(E:XK):Prop
 |mk (x:V):(vs=[x,.non])->(Q .non H)->sp_need_none  vs H Q E
theorem q_{K:Za}{vs:List V}{H:Hp}{Q:VK}{E:XK}(h:sp_need_none vs H Q E):sK K (bC Q) (start t4 vs) H:=by
 obtain⟨x,rfl,k⟩:=h;refine⟨_,rfl,_,rfl,?_⟩;have e:(!decide (V.non=V.non))=false:=by rw[zzr1 rfl];rfl
 rw[e];exact ck k
structure Lists(H:Hp)(l1 l2 l3 l4:Addr)(ts:Ze)(J0 J1 J2:Zb)(ds:List ao):Prop where
 a1:H l1=some (.lst (J0.map V.str))
 a2:H l2=some (.lst (J1.map V.str))
 a3:H l3=some (.lst (J2.map V.str))
 a4:H l4=some (.lst (ts.map V.ref))
 ds:cY H ts ds
theorem Lists.same{H H':Hp}{l1 l2 l3 l4:Addr}{ts:Ze}{J0 J1 J2:Zb}{ds:List ao}(h:Lists H l1 l2 l3 l4 ts J0 J1 J2 ds)(e:ac H H'):Lists H' l1 l2 l3 l4 ts J0 J1 J2 ds :=
 ⟨e _ _ h.a1,e _ _ h.a2,e _ _ h.a3,e _ _ h.a4,h.ds.kt (ac.kt e)⟩
inductive sp_need_parts (vs:List V)(H:Hp)(Q:VK)(E:XK):Prop
 |mk (l1 l2 l3 l4:Addr) (ts:Ze) (J0 J1 J2:Zb) (ds:List ao):(vs=[.ref l1,.ref l2,.ref l3,.ref l4])->(Lists H l1 l2 l3 l4 ts J0 J1 J2 ds)->(bR J0 J1 J2 ds)->(∀H',ac H H'->Q .non H')->sp_need_parts  vs H Q E
theorem bR.signs{J0 J1 J2:Zb}{ds:List ao}(m:bR J0 J1 J2 ds):∀d∈ds,d.a∈J2/\d.sg∈gR J0 J1/\d.b∈J2:=by
 intro d hd;have g:=m.good d hd;refine⟨g.a,?_,g.b⟩;unfold gR;rcases g.sg with⟨w,hw,e⟩|⟨w,hw,e⟩|e
 ·rw[e];exact cH _ (cH _ (aJ.mpr ⟨w,hw,rfl⟩))
 ·rw[e];exact cH _ (cN _ (aJ.mpr ⟨w,hw,rfl⟩))
 ·rw[e];exact cN _ (by simp[aN])
theorem lP{ws:Zb}(h:iZ ws):∀w∈ws,w.length<=1000:=fun w hw=>aO (h.2 w hw).hi (by decide)
theorem pc{K:Za}{vs:List V}{H:Hp}{Q:VK}{E:XK}(h:sp_need_parts vs H Q E):qJ K sp_need_none (sp_first_wrong_door K) (sp_door_signs K) (sp_first_wrong_name K) (bC Q) (start se vs) H:=by
 obtain⟨l1,l2,l3,l4,ts,J0,J1,J2,ds,rfl,L,m,k⟩:=h;have w1:bQ J0 4 []=none:=fk m.asks0 m.asks4 m.okA.1 m.okA.2;have w2:bQ J1 4 J0=none:=fk m.says0 m.says4 (by
  rw[cu];exact⟨m.okA.1,m.okS.1,fun a ha b hb e=>m.apart b hb (e▸ha)⟩) m.okS.2
 have w3:bQ J2 150 []=none:=fk m.rooms0 (by have:=m.rooms26;omega) m.okR.1 m.okR.2;have w4:zS J2 (gR J0 J1) 0 [] ds=none:=tO ds [] 0 (by have:=m.few;omega) m.nodup m.signs;have z1:=m.asks4;have z2:=m.says4;have z3:=m.rooms26;have z4:=m.few;refine⟨_,rfl,(by show 0<=aj;decide),fun e he=>⟨l1,e,J0,[],4,rfl,av.of (kp L.a1 he),av.of aa,by simp;omega,lP m.okA,fun H1 s1=>?_⟩⟩;rw[w1];refine⟨_,rfl,?_⟩;have S1:=(ac.new he).trans s1;refine⟨_,rfl,_,rfl,l2,l1,J1,J0,4,rfl,av.of (S1 _ _ L.a2),av.of (S1 _ _ L.a1),by omega,lP m.okS,fun H2 s2=>?_⟩;rw[w2];refine⟨_,rfl,?_⟩;have S2:=S1.trans s2;refine⟨_,rfl,(by show 0<=aj;decide),fun e he=>⟨l3,e,J2,[],150,rfl,av.of (kp (S2 _ _ L.a3) he),av.of aa,by simp;omega,lP m.okR,fun H3 s3=>?_⟩⟩;rw[w3];refine⟨_,rfl,?_⟩;have S3:=(S2.trans (ac.new he)).trans s3;refine⟨_,rfl,_,rfl,_,rfl,_,rfl,l1,l2,J0,J1,rfl,S3 _ _ L.a1,S3 _ _ L.a2,by omega,by omega,fun sl xs H4 hx s4 hsl=>?_⟩;have S4:=S3.trans s4;have L4:=L.same S4;refine⟨l4,l3,sl,ts,ds,J2,xs,gR J0 J1,rfl,L4.a4,L4.ds,L4.a3,by omega,hsl,hx,by omega,fun H5 s5=>?_⟩;rw[w4];exact⟨_,rfl,k H5 (S4.trans s5)⟩
section
variable{κ ι:Type}[DecidableEq κ]{e:ι->κ}
def cD(e:ι->κ)(ps:List (ι×Addr)):List (κ×V):=ps.map fun x=>(e x.1,V.ref x.2)
theorem iT(inj:∀x y,e x=e y->x=y){i:ι}:∀{ps:List (ι×Addr)},i∉ps.map (·.1)->bV (cD e ps) (e i)=none
 |[],_=>rfl
 |x::ps,h=>by
  rw[aY,cI]at h;show bV ((e x.1,V.ref x.2)::cD e ps) (e i)=none;rw[cg (fun z=>h (.inl (inj _ _ z).symm))];exact iT inj (fun z=>h (.inr z))
theorem cL(inj:∀x y,e x=e y->x=y){i:ι}{a:Addr}:∀{ps:List (ι×Addr)},(ps.map (·.1)).Nodup->(i,a)∈ps->bV (cD e ps) (e i)=some (.ref a)
 |[],_,h=>by cases h
 |x::ps,nd,h=>by
  rw[aY,l9]at nd;show bV ((e x.1,V.ref x.2)::cD e ps) (e i)=_;rcases cI.mp h with h|h
  ·rw[<-h];exact cA rfl
  ·rw[cg (fun z=>nd.1 (by rw[inj _ _ z];exact aJ.mpr ⟨_,h,rfl⟩))];exact cL inj nd.2 h
theorem pY(ps:List (ι×Addr))(i:ι)(a:Addr):cD e (ps++[(i,a)])=cD e ps++[(e i,.ref a)]:=by
 unfold cD;rw[ar]
 rfl
end
structure DL{ι:Type}(H0 H:Hp)(d:Addr)(ps:List (ι×Addr)):Prop where
 nd:(ps.map (·.1)).Nodup
 na:(ps.map (·.2)).Nodup
 fr:∀x∈ps,H0 x.2=none
 frd:H0 d=none
 ned:∀x∈ps,x.2≠d
 same:ac H0 H
theorem DL.snoc{ι:Type}{H0 H H':Hp}{d:Addr}{ps:List (ι×Addr)}{i:ι}{a:Addr}(h:DL H0 H d ps)(hi:i∉ps.map (·.1))(ha:∀x∈ps,x.2≠a)(fr:H0 a=none)(nd:a≠d)(s:ac H0 H'):DL H0 H' d (ps++[(i,a)]):=by
 refine⟨?_,?_,?_,h.frd,?_,s⟩
 ·rw[ar,cu];refine⟨h.nd,by simp,fun x hx y hy e=>?_⟩;have:y=i:=by simpa using hy
  exact hi (by rw[<-this,<-e];exact hx)
 ·rw[ar,cu];refine⟨h.na,by simp,fun x hx y hy e=>?_⟩;have:y=a:=by simpa using hy
  obtain⟨z,hz,rfl⟩:=aJ.mp hx;exact ha z hz (e.trans this)
 ·intro x hx;rcases aR.mp hx with hx|hx
  ·exact h.fr x hx
  ·have:x=(i,a):=by simpa using hx
   rw[this];exact fr
 ·intro x hx;rcases aR.mp hx with hx|hx
  ·exact h.ned x hx
  ·have:x=(i,a):=by simpa using hx
   rw[this];exact nd
theorem yf{ι:Type}:∀{ps:List (ι×Addr)},(ps.map (·.2)).Nodup->∀{x y:ι×Addr},x∈ps->y∈ps->x.2=y.2->x=y
 |[],_,x,_,h,_,_=>by cases h
 |p::ps,nd,x,y,hx,hy,e=>by
  rw[aY,l9]at nd;rcases cI.mp hx with hx'|hx'<;>rcases cI.mp hy with hy'|hy'
  ·rw[hx',hy']
  ·exact absurd (aJ.mpr ⟨y,hy',by rw[<-e,hx']⟩) nd.1
  ·exact absurd (aJ.mpr ⟨x,hx',by rw[e,hy']⟩) nd.1
  ·exact yf nd.2 hx' hy' e
theorem fF:∀x y:Str,(Sum.inr x:dA)=Sum.inr y->x=y:=fun x y h=>by injection h
def aS(ds:List ao)(r:Str):List ao:=ds.filter fun d=>decide (d.a=r)
inductive sp_doors_by_start (vs:List V)(H:Hp)(Q:VK)(E:XK):Prop
 |mk (l3 l4:Addr) (ts:Ze) (J2:Zb) (ds:List ao):(vs=[.ref l3,.ref l4])->(H l3=some (.lst (J2.map V.str)))->(H l4=some (.lst (ts.map V.ref)))->(cY H ts ds)->(J2.Nodup)->(J2.length<=1000)->(ds.length<=9000)->((∀d∈ds,d.a∈J2))->(∀(d:Addr) (ps:List (Str×Addr)) (H':Hp),ps.map (·.1)=J2->H' d=some (.dK (cD Sum.inr ps))->(∀x∈ps,∃us,H' x.2=some (.lst (us.map V.ref))/\cY H' us (aS ds x.1))->ac H H'->Q (.ref d) H')->sp_doors_by_start  vs H Q E
theorem kF{K:Za}{vs:List V}{H:Hp}{Q:VK}{E:XK}(h:sp_doors_by_start vs H Q E):lE K (bC Q) (start lY vs) H:=by
 obtain⟨l3,l4,ts,J2,ds,rfl,h3,h4,hds,nod,hz,hz2,hin,k⟩:=h;refine fun d hd=>?_;refine⟨_,rfl,l3,rfl,⟨_,av.of (kp h3 hd)⟩,?_⟩
 let zI0:Nat->L2.St->Hp->Prop:=fun i σ H'=>∃x y,σ=[some (.ref l3),some (.ref l4),some (.ref d),x,y]/\∃ps:List (Str×Addr),ps.map (·.1)=J2.take i/\H' d=some (.dK (cD Sum.inr ps))/\DL H H' d ps/\∀x∈ps,H' x.2=some (.lst [])
 refine bP (xs:=J2.map V.str) zI0
  ⟨_,_,rfl,[],rfl,aa,⟨by simp,by simp,by simp,hd,by simp,ac.new hd⟩,by simp⟩ (fun i σ H' _ zq=>by obtain⟨_,_,_,_,_,_,D,_⟩:=zq;exact av.of (D.same _ _ h3)) ?_ ?_
 ·rintro i x σ H' hi ⟨x3,x4,rfl,ps,hps,hd',D,hls⟩;obtain⟨w,hw,rfl⟩:=br hi;have hnew:w∉ps.map (·.1):=by
   rw[hps];intro z;have:=nod;rw[<-List.take_append_drop (i+1) J2,take_snoc hw,cu]at this;have:=this.1;rw[cu]at this;exact this.2.2 w z w (by simp) rfl
  refine⟨(by show 0<=aj;decide),fun a ha=>?_⟩;have hlen:(cD (Sum.inr:Str->dA) ps).length<aj:=am (by
   unfold cD;rw[af,<-af (f:=(·.1)) (as:=ps),hps,aT];omega)
  have haH:H a=none:=D.same.free ha;have nda:a≠d:=(ae hd' ha).symm;have hneA:∀x∈ps,x.2≠a:=fun x hx=>ae (hls x hx) ha;refine⟨_,rfl,_,rfl,d,_,rfl,.inl ⟨_,.inr w,kp hd' ha,rfl,hlen,rfl⟩,_,_,rfl,ps++[(w,a)],?_,?_,?_,?_⟩
  ·rw[ar,hps,take_snoc hw];rfl
  ·rw[aa,kG _ (iT fF hnew),pY]
  ·refine D.snoc hnew hneA haH nda ?_;intro b o q;rw[ai (ae q hd)];exact kp (D.same _ _ q) ha
  ·intro x hx;rcases aR.mp hx with hx|hx
   ·rw[ai (D.ned x hx)];exact kp (hls x hx) ha
   ·have:x=(w,a):=by simpa using hx
    rw[this,ai nda];exact aa
 ·rintro σ H1 ⟨x3,x4,rfl,ps,hps,hd1,D1,hls⟩;rw[af,aU]at hps;refine⟨_,rfl,l4,rfl,⟨_,av.of (D1.same _ _ h4)⟩,?_⟩
  let zI1:Nat->L2.St->Hp->Prop:=fun i σ H'=>∃x4,σ=[some (.ref l3),some (.ref l4),some (.ref d),x3,x4]/\H' d=some (.dK (cD Sum.inr ps))/\DL H H' d ps/\∀x∈ps,∃us,H' x.2=some (.lst (us.map V.ref))/\cY H' us (aS (ds.take i) x.1)
  refine bP (xs:=ts.map V.ref) zI1
   ⟨_,rfl,hd1,D1,fun x hx=>⟨[],hls x hx,.nil⟩⟩ (fun i σ H' _ zq=>by obtain⟨_,_,_,D,_⟩:=zq;exact av.of (D.same _ _ h4)) ?_ ?_
  ·rintro i x σ H' hi ⟨x4,rfl,hd',D,hls⟩;obtain⟨t,ht,rfl⟩:=bz hi;obtain⟨dr,hdr,hat⟩:=Paired.getL hds ht;have hat':=hat.kt (ac.kt D.same);have hat2:=hat';obtain⟨s,ht2,hs2⟩:=hat';have hmem:dr.a∈ps.map (·.1):=by rw[hps];exact hin dr (dJ hdr)
   obtain⟨⟨r,a⟩,hra,er⟩:=aJ.mp hmem;obtain rfl:r=dr.a:=er;obtain⟨us,hus,hdo⟩:=hls _ hra;have hil:i<ds.length:=(bN.mp hdr).1;have hlu:us.length<=9000:=by
    rw[Paired.length hdo];refine aO (b_ _ _) ?_;rw[aT];omega
   have KT:k3 H' (upd H' a (.lst (us.map V.ref++[.ref t]))):=dZ hus;refine⟨_,rfl,_,rfl,.inr (.inl ⟨t,_,0,_,rfl,rfl,bp.of ht2,rfl,d,.ref a,rfl,.inl ⟨_,.inr dr.a,.inl hd',rfl,(cL fF D.nd hra).symm⟩,.inl ⟨rfl,_,av.of hus⟩,_,rfl,a,_,_,rfl,rfl,hus,?_,_,rfl,?_,?_,?_⟩)⟩
   ·rw[af];exact eC hlu
   ·rw[ai (D.ned _ hra).symm];exact hd'
   ·refine⟨D.nd,D.na,D.fr,D.frd,D.ned,fun b o q=>?_⟩;rw[ai (ae q (D.fr _ hra))];exact D.same _ _ q
   ·intro x hx;have hfl:∀r',aS (ds.take (i+1)) r'=aS (ds.take i) r'++(if dr.a=r' then[dr]else[]):=by
     intro r';unfold aS;rw[take_snoc hdr,jl];congr 1;by_cases c:dr.a=r'
     ·rw[if_pos c];simp[c]
     ·rw[if_neg c];simp[c]
    by_cases c:x.2=a
    ·have ex:=yf D.na hx hra c;subst ex;refine⟨us++[t],?_,?_⟩
     ·show upd H' a _ a=_;rw[aa,ar];rfl
     ·rw[hfl];show cY _ _ (aS (ds.take i) dr.a++(if dr.a=dr.a then[dr]else[]))
      rw[if_pos rfl];exact Paired.app (hdo.kt KT) (.cons (hat2.kt KT) .nil)
    ·obtain⟨us',h1,h2⟩:=hls x hx;have hne:¬(dr.a=x.1):=fun z=>by
      have e1:=cL (e:=(Sum.inr:Str->dA)) fF D.nd hra;have e2:=cL (e:=(Sum.inr:Str->dA)) (i:=x.1) (a:=x.2) fF D.nd hx;rw[<-z,e1]at e2;injection e2 with e2;injection e2 with e2;exact c e2.symm
     refine⟨us',by rw[ai c];exact h1,?_⟩;rw[hfl,if_neg hne,cR];exact h2.kt KT
  ·rintro σ H' ⟨x4,rfl,hd',D,hls⟩;rw[af,Paired.length hds,aU]at hls;exact⟨_,rfl,k d ps H' hps hd' hls D.same⟩
def iF(d:ao):Bool:=match d.sg with
 |s::_=>decide (s=("ask":Str))
 |[]=>false
inductive sp_has_asks_alone (vs:List V)(H:Hp)(Q:VK)(E:XK):Prop
 |mk (a:Addr) (us:Ze) (ds:List ao):(vs=[.ref a])->(H a=some (.lst (us.map V.ref)))->(cY H us ds)->(ds.length<=9000)->((∀d∈ds,d.sg≠[]))->(∀H',ac H H'->Q (.bl (ds.all iF)) H')->sp_has_asks_alone  vs H Q E
theorem kE{K:Za}{vs:List V}{H:Hp}{Q:VK}{E:XK}(h:sp_has_asks_alone vs H Q E):lD K (bC Q) (start lX vs) H:=by
 obtain⟨a,us,ds,rfl,ha,hds,hz,hne,k⟩:=h;refine⟨_,rfl,a,rfl,⟨_,av.of ha⟩,fun l hl=>?_⟩
 let zI2:Nat->List V->Hp->Prop:=fun i vs H'=>vs=(ds.take i).map (fun d=>V.bl (iF d))/\ac H H'/\H' l=some (.lst vs)
 refine bB (xs:=us.map V.ref) zI2
  ⟨rfl,ac.new hl,aa⟩ (fun i vs H' _ zq=>by obtain⟨_,hS,h'⟩:=zq;exact⟨h',av.of (hS _ _ ha)⟩) ?_ ?_
 ·rintro vs H' ⟨rfl,hS,h'⟩;rw[af,Paired.length hds,aU]at h';refine⟨l,ds.map iF,rfl,av.of (by rw[h',gU];rfl),?_⟩;rw[nC];exact k H' hS
 ·rintro i vs H' x hx hi ⟨rfl,hS,h'⟩;obtain⟨t,ht,rfl⟩:=bz hx;obtain⟨dr,hdr,hat⟩:=Paired.getL hds ht;obtain⟨s,ht2,hs2⟩:=hat.kt (ac.kt hS);have hmem:=dJ hdr;obtain⟨s0,rest,hsg⟩:∃s0 rest,dr.sg=s0::rest:=by
   cases q:dr.sg with
   |nil=>exact absurd q (hne dr hmem)
   |cons x y=>exact⟨x,y,rfl⟩
  unfold SignAt at hs2;rw[hsg]at hs2;refine gN (sH ?_);refine⟨_,rfl,.inr (.inl ⟨t,_,1,_,rfl,rfl,bp.of ht2,rfl,.inr (.inl ⟨s,_,0,.str s0,rfl,rfl,bp.of hs2,dz (j:=0) rfl,rfl,h',?_,je hi ⟨?_,?_,aa⟩⟩)⟩)⟩
  ·rw[af,aT];exact eC (by omega)
  ·rw[take_snoc hdr,ar];congr 1;show[V.bl _]=[V.bl _];congr 2;unfold iF;rw[hsg];show decide (V.str s0=V.str _)=decide (s0=_);by_cases c:s0=("ask":Str)
   ·rw[zzr1 c,zzr1 (by rw[c])]
   ·rw[zzr0 c,zzr0 (fun z=>c (by injection z))]
  ·intro b o e;rw[ai (ae e hl)];exact hS _ _ e
def oT(x:Str×List Str):TK:=.t [mM x.1,jU x.2]
theorem fC:∀x y:Str×List Str,oT x=oT y->x=y:=by
 intro x y h;unfold oT at h;injection h with h;injection h with h1 h;injection h with h2 h;cases x;cases y;simp only at *;rw[m7 h1,nc h2]
theorem iR(x:Str×List Str):(oT x).depth<=8:=by
 show max (TK.depth (mM x.1)) (max (TK.depth (jU x.2)) 0)+1<=8;rw[gJ];show max 0 (max 1 0)+1<=8
 decide
def aX(ds:List ao)(x:Str×List Str):List Str:=(ds.filter fun d=>decide (d.a=x.1/\d.sg=x.2)).map (·.b)
theorem rN(ds:List ao)(d:ao)(x:Str×List Str):aX (ds++[d]) x=aX ds x++(if(d.a,d.sg)=x then[d.b]else[]):=by
 unfold aX;rw[jl,ar];congr 1;by_cases c:(d.a,d.sg)=x
 ·subst c;simp
 ·rw[if_neg c];have:¬(d.a=x.1/\d.sg=x.2):=fun z=>c (by cases x;simp only at z;rw[z.1,z.2]);simp[k4];intro h1 h2;exact this ⟨h1,h2⟩
theorem iG{ds:List ao}{x:Str×List Str}(h:∀d∈ds,(d.a,d.sg)≠x):aX ds x=[]:=by
 unfold aX;rw[List.map_eq_nil_iff,List.filter_eq_nil_iff];intro d hd;have:¬(d.a=x.1/\d.sg=x.2):=fun z=>h d hd (by cases x;simp only at z;rw[z.1,z.2]);simp;intro h1 h2;exact this ⟨h1,h2⟩
theorem eZ{ds:List ao}{x:Str×List Str}{b:Str}:b∈aX ds x↔(⟨x.1,x.2,b⟩:ao)∈ds:=by
 unfold aX;rw[aJ];constructor
 ·rintro⟨d,hd,rfl⟩;rw[dh]at hd;obtain⟨h1,h2⟩:=hd;obtain⟨h3,h4⟩:=of_decide_eq_true h2;cases d;simp only at h3 h4;rw[<-h3,<-h4];exact h1
 ·intro h;exact⟨_,dh.mpr ⟨h,zzr1 ⟨rfl,rfl⟩⟩,rfl⟩
structure gt(H:Hp)(g:Addr)(ps:List ((Str×List Str)×Addr))(ds:List ao):Prop where
 nd:(ps.map (·.1)).Nodup
 g:H g=some (.dT (cD oT ps))
 ls:∀x∈ps,H x.2=some (.lst ((aX ds x.1).map V.str))
 all:∀d∈ds,(d.a,d.sg)∈ps.map (·.1)
theorem gt.same{H H':Hp}{g:Addr}{ps:List ((Str×List Str)×Addr)}{ds:List ao}(h:gt H g ps ds)(s:ac H H'):gt H' g ps ds:=⟨h.nd,s _ _ h.g,fun x hx=>s _ _ (h.ls x hx),h.all⟩
inductive kj (vs:List V)(H:Hp)(Q:VK)(E:XK):Prop
 |mk (l4:Addr) (ts:Ze) (ds:List ao):(vs=[.ref l4])->(H l4=some (.lst (ts.map V.ref)))->(cY H ts ds)->(ds.length<=9000)->(∀(g:Addr) (ps:List ((Str×List Str)×Addr)) (H':Hp),gt H' g ps ds->ac H H'->Q (.ref g) H')->kj  vs H Q E
theorem fS{K:Za}{vs:List V}{H:Hp}{Q:VK}{E:XK}(h:kj vs H Q E):gb K (bC Q) (start ge vs) H:=by
 obtain⟨l4,ts,ds,rfl,h4,hds,hz,k⟩:=h;refine fun g hg=>?_;refine⟨_,rfl,l4,rfl,⟨_,av.of (kp h4 hg)⟩,?_⟩
 let zI0:Nat->L2.St->Hp->Prop:=fun i σ H'=>∃x y z,σ=[some (.ref l4),some (.ref g),x,y,z]/\∃ps:List ((Str×List Str)×Addr),DL H H' g ps/\H' g=some (.dT (cD oT ps))/\ps.length<=i/\(∀x∈ps,H' x.2=some (.lst ((aX (ds.take i) x.1).map V.str)))/\∀d∈ds.take i,(d.a,d.sg)∈ps.map (·.1)
 refine bP (xs:=ts.map V.ref) zI0
  ⟨_,_,_,rfl,[],⟨by simp,by simp,by simp,hg,by simp,ac.new hg⟩,aa,by simp,by simp,by simp⟩ (fun i σ H' _ zq=>by obtain⟨_,_,_,_,_,D,_⟩:=zq;exact av.of (D.same _ _ h4)) ?_ ?_
 ·rintro i x σ H' hi ⟨x2,x3,x4,rfl,ps,D,hg',hlen,hls,hall⟩;obtain⟨t,ht,rfl⟩:=bz hi;obtain⟨dr,hdr,hat⟩:=Paired.getL hds ht;have hil:i<ds.length:=(bN.mp hdr).1;obtain⟨s,ht2,hs2⟩:=hat.kt (ac.kt D.same);refine⟨t,_,rfl,bp.of ht2,rfl,_,_,rfl,_,_,rfl,_,_,rfl,rfl,?_⟩;refine⟨_,rfl,.inr (.inr (.inl ⟨rfl,.inr ⟨_,hg'⟩⟩)),_,rfl,_,rfl,(by show 2<=aj;decide),fun kt hkt=>⟨(by show 0<=aj;decide),fun nl hnl=>?_⟩⟩;have S2:ac H' (upd (upd H' kt (.tup [.str dr.a,.ref s])) nl (.lst [])):=(ac.new hkt).trans (ac.new hnl);have hkt2:upd (upd H' kt (.tup [.str dr.a,.ref s])) nl (.lst []) kt=some (.tup [.str dr.a,.ref s]):=kp aa hnl;have hnl2:upd (upd H' kt (.tup [.str dr.a,.ref s])) nl (.lst []) nl=some (.lst []):=aa;have hnlH':H' nl=none:=(ac.new hkt).free hnl;generalize upd (upd H' kt (.tup [.str dr.a,.ref s])) nl (.lst [])=H2 at S2 hkt2 hnl2 ⊢;have htk:fb H2 (oT (dr.a,dr.sg)) (.ref kt):=by
   unfold oT fb;refine⟨kt,_,rfl,hkt2,?_⟩;unfold TKAts;refine⟨_,_,rfl,qH _,?_⟩;unfold TKAts;refine⟨_,_,rfl,SignAt.tk (S2 _ _ hs2),?_⟩;unfold TKAts
   rfl
  have hlk:(cD oT ps).length<aj:=eC (by unfold cD;rw[af];omega);have hgo:∀x,aX (ds.take (i+1)) x=aX (ds.take i) x++(if(dr.a,dr.sg)=x then[dr.b]else[]):=fun x=>by rw[take_snoc hdr,rN]
  have hgl:∀x,(aX (ds.take i) x).length<=9000:=fun x=>by
   unfold aX;rw[af];refine aO (b_ _ _) ?_;rw[aT];omega
  refine⟨g,kt,_,oT (dr.a,dr.sg),.ref nl,rfl,rfl,S2 _ _ hg',htk,iR _,hlk,fun v hv=>?_,fun hv=>?_⟩
  ·-- there already
   have hmem:(dr.a,dr.sg)∈ps.map (·.1):=by
    refine Classical.byContradiction fun z=>?_;rw[iT fC z]at hv;cases hv
   obtain⟨⟨r,a⟩,hra,er⟩:=aJ.mp hmem;obtain rfl:r=(dr.a,dr.sg):=er;rw[cL fC D.nd hra]at hv;injection hv with hv;subst hv;have hla:=S2 _ _ (hls _ hra);refine⟨.inl ⟨rfl,_,av.of hla⟩,_,rfl,a,_,_,rfl,rfl,hla,by rw[af];exact eC (hgl _),_,_,_,rfl,ps,⟨D.nd,D.na,D.fr,D.frd,D.ned,fun b o q=>?_⟩,?_,by omega,?_,?_⟩
   ·rw[ai (ae q (D.fr _ hra))];exact S2 _ _ (D.same _ _ q)
   ·rw[ai (D.ned _ hra).symm];exact S2 _ _ hg'
   ·intro x hx;by_cases c:x.2=a
    ·have ex:=yf D.na hx hra c;subst ex;show upd H2 a _ a=_;rw[aa,hgo,if_pos rfl,ar];rfl
    ·have hne:¬((dr.a,dr.sg)=x.1):=fun z=>by
      have e1:=cL (e:=oT) fC D.nd hra;have e2:=cL (e:=oT) (i:=x.1) (a:=x.2) fC D.nd hx;rw[<-z,e1]at e2;injection e2 with e2;injection e2 with e2;exact c e2.symm
     rw[ai c,hgo,if_neg hne,cR];exact S2 _ _ (hls x hx)
   ·intro d hd;rw[take_snoc hdr]at hd;rcases aR.mp hd with hd|hd
    ·exact hall d hd
    ·have:d=dr:=by simpa using hd
     rw[this];exact hmem
  ·-- a new list
   have hnew:(dr.a,dr.sg)∉ps.map (·.1):=by
    intro z;obtain⟨⟨r,a⟩,hra,er⟩:=aJ.mp z;obtain rfl:r=(dr.a,dr.sg):=er;rw[cL fC D.nd hra]at hv;cases hv
   have hgne:nl≠g:=(ae hg' hnlH').symm;have hnl3:upd H2 g (.dT (cD oT ps++[(oT (dr.a,dr.sg),.ref nl)])) nl=some (.lst []):=by rw[ai hgne];exact hnl2
   refine⟨.inl ⟨rfl,_,av.of hnl3⟩,_,rfl,nl,_,_,rfl,rfl,hnl3,(by show 0<aj;decide),_,_,_,rfl,ps++[((dr.a,dr.sg),nl)],?_,?_,?_,?_,?_⟩
   ·refine D.snoc hnew (fun x hx=>ae (hls x hx) hnlH') (D.same.free hnlH') hgne ?_;intro b o q;rw[ai (ae q (D.same.free hnlH')),ai (ae q hg)];exact S2 _ _ (D.same _ _ q)
   ·rw[ai hgne.symm,aa,pY]
   ·rw[aW];show _+1<=_;omega
   ·intro x hx;rcases aR.mp hx with hx|hx
    ·have hne:¬((dr.a,dr.sg)=x.1):=fun z=>hnew (by rw[z];exact aJ.mpr ⟨x,hx,rfl⟩);rw[ai (ae (hls x hx) hnlH'),ai (D.ned x hx),hgo,if_neg hne,cR];exact S2 _ _ (hls x hx)
    ·have:x=((dr.a,dr.sg),nl):=by simpa using hx
     subst this;have hnil:aX (ds.take i) (dr.a,dr.sg)=[]:=iG fun d hd z=>hnew (by rw[<-z];exact hall d hd);show upd _ nl _ nl=_;rw[aa,hgo,if_pos rfl,hnil]
     rfl
   ·intro d hd;rw[ar];rw[take_snoc hdr]at hd;rcases aR.mp hd with hd|hd
    ·exact cH _ (hall d hd)
    ·have:d=dr:=by simpa using hd
     rw[this];exact cN _ (by simp)
 ·rintro σ H' ⟨x2,x3,x4,rfl,ps,D,hg',hlen,hls,hall⟩;rw[af,Paired.length hds,aU]at hls hall;exact⟨_,rfl,k g ps H' ⟨D.nd,hg',hls,hall⟩ D.same⟩
theorem kL:∀{L R:Zb},L.Nodup->(∀y∈L,y∈R)->L.length<=R.length
 |[],_,_,_=>cM _
 |x::L,R,nd,h=>by
  rw[l9]at nd;have hx:=h x cQ;have:=kL (L:=L) (R:=R.erase x) nd.2 fun y hy=>(List.mem_erase_of_ne (fun e:y=x=>nd.1 (by rw[<-e];exact hy))).mpr (h y (dO _ hy));rw[List.length_erase_of_mem hx]at this;have:0<R.length:=List.length_pos_of_mem hx;rw[eT];omega
theorem Reach.in_{ds:List ao}{a b:Str}{J2:Zb}(hr:∀d∈ds,d.b∈J2)(h:Reach ds a b):b∈J2:=by
 cases h with
 |one h=>exact hr _ h
 |step r h=>exact hr _ h
inductive qW (vs:List V)(H:Hp)(Q:VK)(E:XK):Prop
 |mk (g:Addr) (room:Str) (ps:List ((Str×List Str)×Addr)) (ds:List ao) (J2:Zb):(vs=[.ref g,.str room])->(gt H g ps ds)->((∀d∈ds,d.b∈J2))->(J2.length<=1000)->(∀(d:Addr) (L:Zb) (H':Hp),H' d=some (.dK (aD L))->L.Nodup->(∀w,w∈L↔Reach ds room w)->H d=none->ac H H'->Q (.ref d) H')->qW  vs H Q E
structure A2(H0 H:Hp)(ds:List ao)(room:Str)(d w:Addr)(L W:Zb)(open_:Str->Prop):Prop where
 d:H d=some (.dK (aD L))
 w:H w=some (.lst (W.map V.str))
 same:ac H0 H
 nd:L.Nodup
 sound:∀y∈L,Reach ds room y
 wait:∀y∈W,y=room∨y∈L
 closed:∀y,(y=room∨y∈L)->y∉W->¬open_ y->∀c∈aX ds (y,aN),c∈L
theorem mN{K:Za}{st:Addr}(hst:∀H,bp K H st (aN.map V.str)){vs:List V}{H:Hp}{Q:VK}{E:XK}(h:qW vs H Q E):nO K st (bC Q) (start oN vs) H:=by
 obtain⟨g,room,ps,ds,J2,rfl,G,hin,hz,k⟩:=h;refine fun d hd=>?_;refine⟨_,rfl,(by show 1<=aj;decide),fun w hw=>?_⟩;have hwH:H w=none:=(ac.new hd).free hw;have hdw:d≠w:=ae aa hw;refine⟨fun m σ H'=>∃(L W:Zb) (x y:Option V),σ=[some (.ref g),some (.str room),some (.ref d),some (.ref w),x,y]/\A2 H H' ds room d w L W (fun _=>False)/\m=2 * (J2.length-L.length)+W.length/\m<=2 * J2.length+1,
  ⟨_,[],[room],_,_,rfl,⟨kp aa hw,aa,(ac.new hd).trans (ac.new hw),jn,by simp,by simp,?_⟩,rfl,az _⟩,?_⟩
 ·intro y hy hn;rcases hy with rfl|hy
  ·simp at hn
  ·cases hy
 rintro m σ H1 ⟨L,W,x4,x5,rfl,D,rfl,hbound⟩;have lenL:∀{L':Zb},L'.Nodup->(∀y∈L',Reach ds room y)->L'.length<=J2.length:=fun nd sd=>kL nd fun y hy=>(sd y hy).in_ hin;refine⟨_,rfl,.inl ⟨w,_,rfl,.inl (av.of D.w),_,_,rfl,rfl,_,rfl,?_⟩⟩;refine iE (fun hpos=>?_) (fun hpos=>?_)
 ·have hne:W≠[]:=by
   intro z;rw[z]at hpos;exact absurd (of_decide_eq_true hpos) (by decide)
  obtain⟨W',here,rfl⟩:∃W' here,W=W'++[here]:=⟨W.dropLast,W.getLast hne,(List.dropLast_concat_getLast hne).symm⟩;have hhere:here=room∨here∈L:=D.wait here (by simp);refine⟨fun σ' H'=>∃(L' W2:Zb) (x y:Option V),σ'=[some (.ref g),some (.str room),some (.ref d),some (.ref w),x,y]/\A2 H H' ds room d w L' W2 (fun _=>False)/\2 * (J2.length-L'.length)+W2.length<2 * (J2.length-L.length)+(W'++[here]).length,
   fun σ' H' ⟨L',W2,x,y,e,D',hm⟩=>⟨_,hm,L',W2,x,y,e,D',rfl,by omega⟩,?_⟩
  have hlast:((W'++[here]).map V.str)[((W'++[here]).map V.str).length-1]?=some (.str here):=by simp
  have hdrop:((W'++[here]).map V.str).dropLast=W'.map V.str:=by rw[ar];simp
  refine⟨_,rfl,.inl ⟨rfl,_,av.of D.w⟩,w,_,_,rfl,rfl,D.w,hlast,?_⟩;rw[hdrop];have hd1:upd H1 w (.lst (W'.map V.str)) d=some (.dK (aD L)):=by rw[ai hdw];exact D.d
  have hw1:upd H1 w (.lst (W'.map V.str)) w=some (.lst (W'.map V.str)):=aa;have S1:ac H (upd H1 w (.lst (W'.map V.str))):=fun b o q=>by rw[ai (ae q hwH)];exact D.same _ _ q
  generalize upd H1 w (.lst (W'.map V.str))=H2 at hd1 hw1 S1 ⊢;have G2:=G.same S1;refine⟨_,rfl,g,rfl,.inr ⟨_,.inl G2.g⟩,_,rfl,(by show 2<=aj;decide),fun kt hkt=>⟨(by show 0<=aj;decide),fun et het=>⟨bV (cD oT ps) (oT (here,aN)),.inr ⟨_,oT (here,aN),kt,.inl ?_,rfl,?_,iR _,rfl⟩,?_⟩⟩⟩
  ·exact kp (kp G2.g hkt) het
  ·unfold oT mQ;refine⟨kt,_,rfl,bp.of (kp aa het),?_⟩;unfold TKIns;refine⟨_,_,rfl,?_,?_⟩
   ·unfold mM mQ;rfl
   unfold TKIns;refine⟨_,_,rfl,?_,?_⟩
   ·unfold jU mQ;refine⟨st,_,rfl,hst _,?_⟩;unfold aN;show TKIns K _ [mM _] [V.str _];unfold TKIns;refine⟨_,_,rfl,?_,?_⟩
    ·unfold mM mQ;rfl
    unfold TKIns;rfl
   unfold TKIns;rfl
  have S3:ac H2 (upd (upd H2 kt (.tup [.str here,.ref st])) et (.tup [])):=(ac.new hkt).trans (ac.new het);have het3:upd (upd H2 kt (.tup [.str here,.ref st])) et (.tup []) et=some (.tup []):=aa;generalize upd (upd H2 kt (.tup [.str here,.ref st])) et (.tup [])=H3 at S3 het3 ⊢;have D3:A2 H H3 ds room d w L W' (fun y=>y=here):=⟨S3 _ _ hd1,S3 _ _ hw1,S1.trans S3,D.nd,D.sound,fun y hy=>D.wait y (cH _ hy),fun y hy hn ho=>D.closed y hy (fun z=>by rcases aR.mp z with z|z;exact hn z;exact ho (by simpa using z)) (fun z=>z)⟩;have hm3:2 * (J2.length-L.length)+W'.length<2 * (J2.length-L.length)+(W'++[here]).length:=by rw[aW];show _<_+(_+1);omega
  have fin:∀(H4:Hp) (L' W2:Zb) (x y:Option V),A2 H H4 ds room d w L' W2 (fun y=>y=here)->(∀c∈aX ds (here,aN),c∈L')->2 * (J2.length-L'.length)+W2.length<2 * (J2.length-L.length)+(W'++[here]).length ->
    ∃(L' W2:Zb) (x' y':Option V),[some (V.ref g),some (.str room),some (.ref d),some (.ref w),x,y]=[some (.ref g),some (.str room),some (.ref d),some (.ref w),x',y']/\A2 H H4 ds room d w L' W2 (fun _=>False)/\2 * (J2.length-L'.length)+W2.length<2 * (J2.length-L.length)+(W'++[here]).length:=by
   intro H4 L' W2 x y D4 hc hm;refine⟨L',W2,x,y,rfl,⟨D4.d,D4.w,D4.same,D4.nd,D4.sound,D4.wait,fun y hy hn _=>?_⟩,hm⟩;by_cases e:y=here
   ·rw[e];exact hc
   ·exact D4.closed y hy hn e
  by_cases hmem:(here,aN)∈ps.map (·.1)
  ·obtain⟨⟨r,a⟩,hra,er⟩:=aJ.mp hmem;obtain rfl:r=(here,aN):=er;rw[cL fC G.nd hra];have hla:=G.ls _ hra;refine⟨a,rfl,.inl ⟨⟨_,av.of ((S1.trans S3) _ _ hla)⟩,?_⟩⟩
   let zI0:Nat->L2.St->Hp->Prop:=fun j σ H'=>Aq fun(L' W2:Zb) (y:Option V)=>AW (σ=[some (.ref g),some (.str room),some (.ref d),some (.ref w),some (.str here),y]) (A2 H H' ds room d w L' W2 (fun y=>y=here)) ((here=room∨here∈L')) ((∀c∈(aX ds (here,aN)).take j,c∈L')) (2 * (J2.length-L'.length)+W2.length<2 * (J2.length-L.length)+(W'++[here]).length)
   refine bP (xs:=(aX ds (here,aN)).map V.str) zI0
    ⟨L,W',_,rfl,D3,hhere,by simp,hm3⟩ (fun j σ H' _ zq=>by obtain⟨_,_,_,_,D',_,_,_⟩:=zq;exact av.of (D'.same _ _ hla)) ?_ ?_
   ·rintro j x σ H4 hj ⟨L',W2,y,rfl,D4,hh,hc,hm⟩;obtain⟨goal,hgoal,rfl⟩:=br hj;have hedge:(⟨here,aN,goal⟩:ao)∈ds:=eZ.mp (dJ hgoal);have hreach:Reach ds room goal:=by
     rcases hh with hh|hh
     ·rw[hh]at hedge;exact .one hedge
     ·exact .step (D4.sound _ hh) hedge
    have hlen':=lenL D4.nd D4.sound;refine⟨_,rfl,_,rfl,d,_,rfl,.inl ⟨_,.inr goal,.inl D4.d,rfl,rfl⟩,_,rfl,?_⟩;rw[c8];by_cases c:goal∈L'
    ·rw[zzr1 c];refine ck ⟨L',W2,_,rfl,D4,hh,?_,hm⟩;intro c' hc';rw[take_snoc hgoal]at hc';rcases aR.mp hc' with h|h
     ·exact hc c' h
     ·have:c'=goal:=by simpa using h
      rw[this];exact c
    ·rw[zzr0 c];refine c9 ?_;have nd':(L'++[goal]).Nodup:=by
      rw[cu];refine⟨D4.nd,by simp,fun a ha b hb e=>?_⟩;have:b=goal:=by simpa using hb
      exact c (by rw[<-this,<-e];exact ha)
     have sd':∀y∈L'++[goal],Reach ds room y:=by
      intro y hy;rcases aR.mp hy with hy|hy
      ·exact D4.sound y hy
      ·have:y=goal:=by simpa using hy
       rw[this];exact hreach
     have hlen2:=lenL nd' sd';rw[aW]at hlen2;have hlen3:L'.length+1<=J2.length:=hlen2;have hWl:W2.length<=9000:=by omega
     refine⟨_,rfl,_,rfl,d,_,rfl,.inl ⟨_,.inr goal,D4.d,rfl,am (aO (gZ _) (by omega)),rfl⟩,?_⟩;have hw5:upd H4 d (.dK (cU (aD L') (.inr goal) (.bl true))) w=some (.lst (W2.map V.str)):=by rw[ai hdw.symm];exact D4.w
     refine⟨_,rfl,.inl ⟨rfl,_,av.of hw5⟩,_,rfl,w,_,_,rfl,rfl,hw5,by rw[af];exact eC hWl,L'++[goal],W2++[goal],_,rfl,⟨?_,?_,?_,nd',sd',?_,?_⟩,?_,?_,?_⟩
     ·rw[ai hdw,aa,cp]
     ·rw[aa,ar];rfl
     ·intro b o q;rw[ai (ae q hwH),ai (ae q hd)];exact D4.same _ _ q
     ·intro y hy;rcases aR.mp hy with hy|hy
      ·rcases D4.wait y hy with h|h
       ·exact .inl h
       ·exact .inr (cH _ h)
      ·exact .inr (cN _ hy)
     ·intro y hy hn ho c' hc';have hn1:y∉W2:=fun z=>hn (cH _ z);have hyg:y≠goal:=fun z=>hn (cN _ (by simp[z]));refine cH _ (D4.closed y ?_ hn1 ho c' hc');rcases hy with hy|hy
      ·exact .inl hy
      ·rcases aR.mp hy with hy|hy
       ·exact .inr hy
       ·exact absurd (by simpa using hy) hyg
     ·rcases hh with h|h
      ·exact .inl h
      ·exact .inr (cH _ h)
     ·intro c' hc';rw[take_snoc hgoal]at hc';rcases aR.mp hc' with h|h
      ·exact cH _ (hc c' h)
      ·exact cN _ h
     ·rw[aW,aW];show 2 * (J2.length-(L'.length+1))+(W2.length+1)<_;omega
   ·rintro σ H4 ⟨L',W2,y,rfl,D4,hh,hc,hm⟩;rw[af,aU]at hc;exact fin H4 L' W2 _ _ D4 hc hm
  ·rw[iT fC hmem];refine⟨et,rfl,.inr ⟨⟨_,bp.of het3⟩,?_⟩⟩;have hnil:aX ds (here,aN)=[]:=iG fun x hx z=>hmem (by rw[<-z];exact G.all x hx)
   let zI0:Nat->L2.St->Hp->Prop:=fun j σ H'=>σ=[some (.ref g),some (.str room),some (.ref d),some (.ref w),some (.str here),x5]/\H'=H3
   refine rQ (xs:=[]) zI0 ⟨rfl,rfl⟩ (fun j σ H' _ zq=>by obtain⟨_,e⟩:=zq;exact by rw[e];exact bp.of het3) (fun j x σ H' hj=>by cases hj) ?_;rintro σ H' ⟨rfl,rfl⟩;exact fin _ L W' _ _ D3 (by rw[hnil];simp) hm3
 ·have hnil:W=[]:=by
   cases W with
   |nil=>rfl
   |cons a W=>exact absurd (zzr1 (by rw[af,eT];omega)) hpos
  subst hnil;refine⟨_,rfl,k d L H1 D.d D.nd (fun w=>⟨D.sound w,fun hr=>?_⟩) hd D.same⟩
  induction hr with
  |one h=>exact D.closed room (.inl rfl) (by simp) (fun z=>z) _ (eZ.mpr h)
  |step r h ih=>exact D.closed _ (.inr ih) (by simp) (fun z=>z) _ (eZ.mpr h)
inductive sp_first_led_round (vs:List V)(H:Hp)(Q:VK)(E:XK):Prop
 |mk (l3 d:Addr) (J2:Zb) (ps:List (Str×Addr)):(vs=[.ref l3,.ref d])->(H l3=some (.lst (J2.map V.str)))->(H d=some (.dK (cD Sum.inr ps)))->(ps.map (·.1)=J2)->(J2.Nodup)->((∀x∈ps,∃L,H x.2=some (.dK (aD L))/\x.1∉L))->(∀H',ac H H'->Q .non H')->sp_first_led_round  vs H Q E
theorem jz{K:Za}{vs:List V}{H:Hp}{Q:VK}{E:XK}(h:sp_first_led_round vs H Q E):j3 K (bC Q) (start kW vs) H:=by
 obtain⟨l3,d,J2,ps,rfl,h3,hd,hps,nod,hL,k⟩:=h;refine⟨_,rfl,l3,rfl,⟨_,av.of h3⟩,?_⟩
 let zI0:Nat->L2.St->Hp->Prop:=fun i σ H'=>∃x y,σ=[some (.ref l3),some (.ref d),x,y]/\ac H H'
 refine iH (xs:=J2.map V.str) zI0 ⟨_,_,rfl,ac.refl H⟩ (fun i σ H' _ zq=>by obtain⟨_,_,_,S⟩:=zq;exact av.of (S _ _ h3)) ?_ ?_
 ·rintro i x σ H' t hi ⟨x2,x3,rfl,S⟩ ht;obtain⟨w,hw,rfl⟩:=br hi;refine⟨t,_,rfl,bp.of aa,rfl,_,_,rfl,_,_,rfl,rfl,?_⟩;have S2:ac H (upd H' t (.tup [.int i,.str w])):=S.trans (ac.new ht);generalize upd H' t (.tup [.int i,.str w])=H2 at S2 ⊢;have hmem:w∈ps.map (·.1):=by rw[hps];exact dJ hw
  obtain⟨⟨r,a⟩,hra,er⟩:=aJ.mp hmem;obtain rfl:r=w:=er;obtain⟨L,hLa,hn⟩:=hL _ hra;refine⟨_,rfl,_,rfl,_,rfl,d,.ref a,rfl,.inl ⟨_,.inr r,.inl (S2 _ _ hd),rfl,(cL fF (by rw[hps];exact nod) hra).symm⟩,a,_,rfl,.inl ⟨_,.inr r,.inl (S2 _ _ hLa),rfl,rfl⟩,_,rfl,?_⟩;rw[c8,zzr0 hn];exact ck ⟨_,_,rfl,S2⟩
 ·rintro σ H' ⟨x,y,rfl,S⟩;exact k H' S
abbrev lk(f:Str)(fs:List (Str×V)):Option V:=fs.lookup f
def cF(ds:List ao)(r:Str):Bool:=(aS ds r).all iF
structure aZ(C:Addr)(H:Hp)(x:Addr)(J0 J1 J2:Zb)(ds:List ao):Prop where
 at_:∃(dx:Addr) (fs:List (Str×V)) (o1 o2 o3 o4 lv qu sg sl:Addr) (ts:Ze) (lps:List (Str×Addr)) (gps:List ((Str×List Str)×Addr)) (sps:List (Str×Addr)),
  H x=some (.ins C dx fs)/\lk "is_quiet" fs=none/\lk "goals" fs=none/\lk "led_from" fs=none/\lk "rooms" fs=none /\
  lk "own_asks" fs=some (.ref o1)/\lk "own_says" fs=some (.ref o2)/\lk "own_rooms" fs=some (.ref o3)/\lk "own_doors" fs=some (.ref o4) /\
  lk "leaving" fs=some (.ref lv)/\lk "quiet" fs=some (.ref qu)/\lk "sign_goals" fs=some (.ref sg)/\lk "still_led" fs=some (.ref sl) /\
  Lists H o1 o2 o3 o4 ts J0 J1 J2 ds /\
  lps.map (·.1)=J2/\H lv=some (.dK (cD Sum.inr lps))/\(∀x∈lps,∃us,H x.2=some (.lst (us.map V.ref))/\cY H us (aS ds x.1)) /\
  H qu=some (.dK (aD (J2.filter (cF ds))))/\gt H sg gps ds /\
  sps.map (·.1)=J2/\H sl=some (.dK (cD Sum.inr sps))/\(∀x∈sps,∃L,H x.2=some (.dK (aD L))/\L.Nodup/\∀w,w∈L↔Reach ds x.1 w)
 ok:bR J0 J1 J2 ds
 more:∃(dx:Addr) (fs:List (Str×V)),H x=some (.ins C dx fs)/\lk "asks" fs=none/\lk "says" fs=none/\lk "doors" fs=none/\lk "doors_from" fs=none
theorem eX(f:Str)(v:V):∀fs:List (Str×V),(ca f v fs).length<=fs.length+1
 |[]=>az _
 | (g,x)::r=>by
  unfold ca;split
  ·exact vt _
  ·rw[eT,eT];have:=eX f v r;omega
theorem ou:∀(ps qs:List (Str×Addr)),((qs++ps).map (·.1)).Nodup->gA (cD Sum.inr qs) (cD Sum.inr ps)=cD Sum.inr (qs++ps)
 |[],qs,_=>by rw[cR];rfl
 |p::ps,qs,nd=>by
  show gA (cU (cD Sum.inr qs) (Sum.inr p.1) (.ref p.2)) (cD Sum.inr ps)=_;have e:qs++p::ps=(qs++[p])++ps:=by simp
  rw[e]at nd ⊢;have hnew:p.1∉qs.map (·.1):=by
   rw[ar,ar,cu]at nd;have:=nd.1;rw[cu]at this;intro z;exact this.2.2 _ z _ (by simp) rfl
  rw[kG _ (iT fF hnew)];have:=ou ps (qs++[p]) nd;rw[<-this];have e2:cD (Sum.inr:Str->dA) (qs++[p])=cD Sum.inr qs++[(Sum.inr p.1,V.ref p.2)]:=by
   unfold cD;rw[ar];rfl
  rw[e2]
inductive mY(C:Addr)(vs:List V)(H:Hp)(Q:VK)(E:XK):Prop
 |mk (x dx l1 l2 l3 l4:Addr) (ts:Ze) (J0 J1 J2:Zb) (ds:List ao):(vs=[.ref x,.ref l1,.ref l2,.ref l3,.ref l4])->(H x=some (.ins C dx []))->(Lists H l1 l2 l3 l4 ts J0 J1 J2 ds)->(bR J0 J1 J2 ds)->(∀H',aZ C H' x J0 J1 J2 ds->cz x H H'->Q .non H')->mY C vs H Q E
theorem Lists.exI{H H':Hp}{x C dx:Addr}{fs:List (Str×V)}{l1 l2 l3 l4:Addr}{ts:Ze}{J0 J1 J2:Zb}{ds:List ao}(h:Lists H l1 l2 l3 l4 ts J0 J1 J2 ds)(hx:H x=some (.ins C dx fs))(e:cz x H H'):Lists H' l1 l2 l3 l4 ts J0 J1 J2 ds:=by
 have ne:∀{b:Addr}{xs:List V},H b=some (.lst xs)->b≠x:=fun hb z=>by rw[z,hx]at hb;cases hb
 exact⟨e _ _ h.a1 (ne h.a1),e _ _ h.a2 (ne h.a2),e _ _ h.a3 (ne h.a3),e _ _ h.a4 (ne h.a4),h.ds.kt fun b xs hb=>e _ _ hb fun z=>by rw[z,hx]at hb;cases hb⟩
theorem cz.ktI{H H':Hp}{x C dx:Addr}{fs:List (Str×V)}(e:cz x H H')(hx:H x=some (.ins C dx fs)):k3 H H':=fun b xs hb=>e _ _ hb fun z=>by rw[z,hx]at hb;cases hb
theorem cz.neI{H:Hp}{x C dx:Addr}{fs:List (Str×V)}(hx:H x=some (.ins C dx fs)){b:Addr}{xs:List V}(hb:H b=some (.lst xs)):b≠x:=fun z=>by rw[z,hx]at hb;cases hb
theorem ye{H:Hp}{x C dx:Addr}{fs:List (Str×V)}(hx:H x=some (.ins C dx fs)){b:Addr}{kvs:List (dA×V)}(hb:H b=some (.dK kvs)):b≠x:=fun z=>by rw[z,hx]at hb;cases hb
theorem Af{H:Hp}{x C dx:Addr}{fs:List (Str×V)}(hx:H x=some (.ins C dx fs)){b:Addr}{kvs:List (TK×V)}(hb:H b=some (.dT kvs)):b≠x:=fun z=>by rw[z,hx]at hb;cases hb
structure MC(K:Za)(C:Addr):Prop where
 cls:xb K C
 a1:d6 K C "own_asks"
 a2:d6 K C "own_says"
 a3:d6 K C "own_rooms"
 a4:d6 K C "own_doors"
 a5:d6 K C "leaving"
 a6:d6 K C "quiet"
 a7:d6 K C "sign_goals"
 a8:d6 K C "still_led"
theorem tP{H:Hp}{x C dx:Addr}{fs:List (Str×V)}(f:Str)(y:V)(hx:H x=some (.ins C dx fs)):∃H',H'=upd H x (.ins C dx (ca f y fs))/\H' x=some (.ins C dx (ca f y fs))/\cz x H H' :=
 ⟨_,rfl,aa,cz.upd _ _ _⟩
theorem bv{p:Str->Bool}{ws:Zb}{i:Nat}{w:Str}(h:ws[i]?=some w):(ws.take (i+1)).filter p=(ws.take i).filter p++(if p w=true then[w]else[]):=by
 rw[take_snoc h,jl];congr 1;by_cases c:p w=true
 ·rw[if_pos c];simp[c]
 ·rw[if_neg c];simp[c]
theorem uU(ds:List ao)(r:Str):(aS ds r).length<=ds.length:=b_ _ _
theorem bR.sg0{J0 J1 J2:Zb}{ds:List ao}(m:bR J0 J1 J2 ds){r:Str}:∀d∈aS ds r,d.sg≠[]:=by
 intro d hd;have:=m.good d (dh.mp hd).1;rcases this.sg with⟨w,_,e⟩|⟨w,_,e⟩|e<;>rw[e]<;>exact List.cons_ne_nil _ _
theorem zj{K:Za}{C:Addr}(M:MC K C){vs:List V}{H:Hp}{Q:VK}{E:XK}(h:mY C vs H Q E):
  jv K sp_need_none sp_first_led_round qW kj (sp_as_keys K) sp_has_asks_alone sp_doors_by_start sp_need_parts (bC Q) (start jM vs) H:=by
 obtain⟨x,dx,l1,l2,l3,l4,ts,J0,J1,J2,ds,rfl,hx,L,m,k⟩:=h;have z3:=m.rooms26;have z4:=m.few;refine⟨_,rfl,_,rfl,_,rfl,_,rfl,l1,l2,l3,l4,ts,J0,J1,J2,ds,rfl,L,m,fun H1 S1=>?_⟩;have hx1:=S1 _ _ hx;have L1:=L.same S1;have E1:cz x H H1:=ac.exB S1;refine⟨_,rfl,.inl ⟨l1,_,rfl,.inl (av.of L1.a1),fun o1 ho1=>⟨_,rfl,x,C,dx,_,rfl,kp hx1 ho1,M.cls,M.a1,(by show 0<1000;decide),?_⟩⟩⟩;obtain⟨H2,e2,hx2,F2⟩:=tP "own_asks" (.ref o1) (kp (x:=.lst (J0.map V.str)) hx1 ho1);rw[<-e2];have n1:o1≠x:=(ae hx1 ho1).symm;have f1:=F2 _ _ aa n1;have E2:cz x H1 H2:=(cz.new ho1).trans F2;have L2':=L1.exI hx1 E2;have len2:(ca ("own_asks":Str) (.ref o1) []).length<=1:=eX _ _ _;clear e2 F2;refine⟨_,rfl,.inl ⟨l2,_,rfl,.inl (av.of L2'.a2),fun o2 ho2=>⟨_,rfl,x,C,dx,_,rfl,kp hx2 ho2,M.cls,M.a2,by omega,?_⟩⟩⟩;obtain⟨H3,e3,hx3,F3⟩:=tP "own_says" (.ref o2) (kp (x:=.lst (J1.map V.str)) hx2 ho2);rw[<-e3];have n2:o2≠x:=(ae hx2 ho2).symm;have f2:=F3 _ _ aa n2;have E3:cz x H2 H3:=(cz.new ho2).trans F3;have L3:=L2'.exI hx2 E3;have len3:=eX ("own_says":Str) (.ref o2) (ca ("own_asks":Str) (.ref o1) []);clear e3 F3;refine⟨_,rfl,.inl ⟨l3,_,rfl,.inl (av.of L3.a3),fun o3 ho3=>⟨_,rfl,x,C,dx,_,rfl,kp hx3 ho3,M.cls,M.a3,by omega,?_⟩⟩⟩;obtain⟨H4,e4,hx4,F4⟩:=tP "own_rooms" (.ref o3) (kp (x:=.lst (J2.map V.str)) hx3 ho3);rw[<-e4];have n3:o3≠x:=(ae hx3 ho3).symm;have f3:=F4 _ _ aa n3;have E4:cz x H3 H4:=(cz.new ho3).trans F4;have L4:=L3.exI hx3 E4;have len4:=eX ("own_rooms":Str) (.ref o3) (ca ("own_says":Str) (.ref o2) (ca ("own_asks":Str) (.ref o1) []));clear e4 F4;refine⟨_,rfl,.inl ⟨l4,_,rfl,.inl (av.of L4.a4),fun o4 ho4=>⟨_,rfl,x,C,dx,_,rfl,kp hx4 ho4,M.cls,M.a4,by omega,?_⟩⟩⟩;obtain⟨H5,e5,hx5,F5⟩:=tP "own_doors" (.ref o4) (kp (x:=.lst (ts.map V.ref)) hx4 ho4);rw[<-e5];have n4:o4≠x:=(ae hx4 ho4).symm;have f4:=F5 _ _ aa n4;have E5:cz x H4 H5:=(cz.new ho4).trans F5;have L5:=L4.exI hx4 E5;generalize hfs4:ca ("own_doors":Str) (.ref o4) (ca ("own_rooms":Str) (.ref o3) (ca ("own_says":Str) (.ref o2) (ca ("own_asks":Str) (.ref o1) [])))=fs4 at hx5;have len5:fs4.length<=4:=by
  rw[<-hfs4];have:=eX ("own_doors":Str) (.ref o4) (ca ("own_rooms":Str) (.ref o3) (ca ("own_says":Str) (.ref o2) (ca ("own_asks":Str) (.ref o1) [])));omega
 clear e5 F5;refine⟨_,rfl,_,rfl,l3,l4,ts,J2,ds,rfl,L5.a3,L5.a4,L5.ds,m.okR.1,by omega,by omega,fun d hd=>(m.good d hd).a,fun lv lps H6' hlps flv' hlv' S6=>⟨_,rfl,x,C,dx,fs4,rfl,S6 _ _ hx5,M.cls,M.a5,by omega,?_⟩⟩;obtain⟨H6,e6,hx6,F6⟩:=tP "leaving" (.ref lv) (S6 _ _ hx5);rw[<-e6];have E6:cz x H5 H6:=(ac.exB S6).trans F6;have L6:=L5.exI hx5 E6;have flv:=F6 _ _ flv' (ye (S6 _ _ hx5) flv');have hlv:∀y∈lps,∃us,H6 y.2=some (.lst (us.map V.ref))/\cY H6 us (aS ds y.1):=fun y hy=>by
  obtain⟨us,g1,g2⟩:=hlv' y hy;exact⟨us,F6 _ _ g1 (cz.neI (S6 _ _ hx5) g1),g2.kt (F6.ktI (S6 _ _ hx5))⟩
 have ndl:(lps.map (·.1)).Nodup:=by rw[hlps];exact m.okR.1
 have len6:=eX ("leaving":Str) (.ref lv) fs4;have lk5:lk "leaving" (ca ("leaving":Str) (.ref lv) fs4)=some (.ref lv):=by
  show ic _ _=_;rw[dR,if_pos rfl]
 clear e6 F6 flv' hlv';refine⟨_,rfl,l3,rfl,⟨_,av.of L6.a3⟩,fun f hf=>?_⟩
 let zI0:Nat->List V->Hp->Prop:=fun i vs H'=>vs=((J2.take i).filter (cF ds)).map V.str/\ac H6 H'/\H' f=some (.lst vs)
 refine bB (xs:=J2.map V.str) zI0 ⟨rfl,ac.new hf,aa⟩ (fun i vs H' _ zq=>by obtain⟨_,S,h'⟩:=zq;exact⟨h',av.of (S _ _ L6.a3)⟩) ?_ ?_;rotate_left
 ·rintro i vs H' x' hx' hi ⟨rfl,S,f'⟩;obtain⟨r,hr,rfl⟩:=br hx';obtain⟨⟨r',a⟩,hra,er⟩:=aJ.mp (show r∈lps.map (·.1) by rw[hlps];exact dJ hr);obtain rfl:r'=r:=er;obtain⟨us,hus,hdo⟩:=hlv _ hra;refine gN ?_;refine⟨_,rfl,x,C,dx,_,.ref lv,rfl,S _ _ hx6,M.cls,M.a5,lk5,_,rfl,lv,.ref a,rfl,.inl ⟨_,.inr r',.inl (S _ _ flv),rfl,(cL fF ndl hra).symm⟩,a,us,aS ds r',rfl,S _ _ hus,hdo.kt (ac.kt S),aO (uU _ _) (by omega),m.sg0,fun H'' S''=>⟨_,rfl,?_⟩⟩;have hlen:(((J2.take i).filter (cF ds)).map V.str).length<aj:=by
   rw[af];refine am (aO (b_ _ _) ?_);rw[aT];omega
  refine iE (fun hq=>?_) (fun hq=>?_)
  ·refine⟨_,rfl,S'' _ _ f',hlen,je hi ⟨?_,?_,aa⟩⟩
   ·rw[bv hr,if_pos (show cF ds r'=true from hq),ar];rfl
   ·intro b o q;rw[ai (ae q hf)];exact S'' _ _ (S _ _ q)
  ·refine je hi ⟨?_,S.trans S'',?_⟩
   ·rw[bv hr,if_neg (show ¬cF ds r'=true from hq),cR]
   ·exact S'' _ _ f'
 rintro vs H7' ⟨rfl,S7,f7⟩;rw[af,aU]at f7;refine lU (ws:=J2.filter (cF ds)) (av.of f7) (aO (b_ _ _) (by omega)) fun qu hqu=>⟨_,rfl,x,C,dx,_,rfl,kp (S7 _ _ hx6) hqu,M.cls,M.a6,by omega,?_⟩;obtain⟨H7,e7,hx7,F7⟩:=tP "quiet" (.ref qu) (kp (x:=.dK (aD (J2.filter (cF ds)))) (S7 _ _ hx6) hqu);rw[<-e7];have n7:qu≠x:=(ae (S7 _ _ hx6) hqu).symm;have fqu:=F7 _ _ aa n7;have E7:cz x H6 H7:=((ac.exB S7).trans (cz.new hqu)).trans F7;have L7:=L6.exI hx6 E7;have len7:=eX ("quiet":Str) (.ref qu) (ca ("leaving":Str) (.ref lv) fs4);clear e7 F7;refine⟨_,rfl,l4,ts,ds,rfl,L7.a4,L7.ds,by omega,fun sg gps H8' G' S8=>⟨_,rfl,x,C,dx,_,rfl,S8 _ _ hx7,M.cls,M.a7,by omega,?_⟩⟩;obtain⟨H8,e8,hx8,F8⟩:=tP "sign_goals" (.ref sg) (S8 _ _ hx7);rw[<-e8];have E8:cz x H7 H8:=(ac.exB S8).trans F8;have L8:=L7.exI hx7 E8;have G8:gt H8 sg gps ds:=⟨G'.nd,F8 _ _ G'.g (Af (S8 _ _ hx7) G'.g),fun y hy=>F8 _ _ (G'.ls y hy) (cz.neI (S8 _ _ hx7) (G'.ls y hy)),G'.all⟩;have len8:=eX ("sign_goals":Str) (.ref sg) (ca ("quiet":Str) (.ref qu) (ca ("leaving":Str) (.ref lv) fs4));have lk7:lk "sign_goals" (ca ("sign_goals":Str) (.ref sg) (ca ("quiet":Str) (.ref qu) (ca ("leaving":Str) (.ref lv) fs4)))=some (.ref sg):=by
  show ic _ _=_;rw[dR,if_pos rfl]
 clear e8 F8 G';refine⟨_,rfl,l3,rfl,⟨_,av.of L8.a3⟩,fun f2' hf2=>?_⟩
 let zI1:Nat->List V->Hp->Prop:=fun i vs H'=>yX fun(us:Ze) (pl:List (Str×Addr))=>A0 (vs=us.map V.ref) (Paired (fun t (p:Str×Addr)=>H' t=some (.tup [.str p.1,.ref p.2])) us pl) (pl.map (·.1)=J2.take i) ((∀p∈pl,∃L,H' p.2=some (.dK (aD L))/\L.Nodup/\∀w,w∈L↔Reach ds p.1 w)) (ac H8 H') (H' f2'=some (.lst vs))
 refine bB (xs:=J2.map V.str) zI1
  ⟨[],[],rfl,.nil,rfl,by simp,ac.new hf2,aa⟩ (fun i vs H' _ zq=>by obtain⟨_,_,_,_,_,_,S,h'⟩:=zq;exact⟨h',av.of (S _ _ L8.a3)⟩) ?_ ?_
 rotate_left
 ·rintro i vs H' x' hx' hi ⟨us,pl,rfl,hpa,hpl,hle,S,f'⟩;obtain⟨r,hr,rfl⟩:=br hx';have hilen:us.length<=150:=by
   rw[Paired.length hpa,<-af (f:=(·.1)) (as:=pl),hpl,aT];omega
  refine gN (sH ?_);refine⟨_,rfl,_,rfl,x,C,dx,_,.ref sg,rfl,S _ _ hx8,M.cls,M.a7,lk7,_,rfl,sg,r,gps,ds,J2,rfl,G8.same S,fun d hd=>(m.good d hd).b,by omega,fun ld Lr H'' hld nd hLr hfr S''=>⟨(by show 2<=aj;decide),fun t ht=>⟨?_,?_,je hi ⟨us++[t],pl++[(r,ld)],?_,?_,?_,?_,?_,aa⟩⟩⟩⟩
  ·exact kp (S'' _ _ f') ht
  ·rw[af];exact am (by omega)
  ·rw[ar];rfl
  ·have KT:k3 (upd H'' t (.tup [.str r,.ref ld])) (upd (upd H'' t (.tup [.str r,.ref ld])) f2' (.lst (us.map V.ref++[.ref t]))):=dZ (kp (S'' _ _ f') ht);exact Paired.app (Paired.mapP hpa fun t' p' e=>KT _ _ (kp (S'' _ _ e) ht)) (.cons (KT _ _ aa) .nil)
  ·rw[ar,hpl,take_snoc hr];rfl
  ·have ned:∀{b:Addr}{kvs:List (dA×V)},upd H'' t (.tup [.str r,.ref ld]) b=some (.dK kvs)->b≠f2':=fun hb z=>by rw[z,kp (S'' _ _ f') ht]at hb;cases hb
   intro p hp;rcases aR.mp hp with hp|hp
   ·obtain⟨L0,g1,g2⟩:=hle p hp;refine⟨L0,?_,g2⟩;have:=kp (x:=.tup [.str r,.ref ld]) (S'' _ _ g1) ht;rw[ai (ned this)];exact this
   ·have:p=(r,ld):=by simpa using hp
    subst this;refine⟨Lr,?_,nd,hLr⟩;have:=kp (x:=.tup [.str r,.ref ld]) hld ht;rw[ai (ned this)];exact this
  ·intro b o q;rw[ai (ae q hf2)];exact kp (S'' _ _ (S _ _ q)) ht
 rintro vs H9' ⟨us,sps,rfl,hpa,hsps,hled,S9,f9⟩;rw[af,aU]at hsps;have nds:(sps.map (·.1)).Nodup:=by rw[hsps];exact m.okR.1
 refine⟨f2',us,cD Sum.inr sps,rfl,av.of f9,?_,?_,fun sl hsl=>⟨_,rfl,x,C,dx,_,rfl,kp (S9 _ _ hx8) hsl,M.cls,M.a8,by omega,?_⟩⟩
 ·rw[Paired.length hpa];unfold cD;rw[af]
 ·intro j t kv hj hkv;obtain⟨p,hp,e⟩:=Paired.getL hpa hj;unfold cD at hkv;rw[gD,hp]at hkv;have:=di hkv;rw[<-this];exact e
 have emerge:gA [] (cD Sum.inr sps)=cD Sum.inr sps:=ou sps [] nds;rw[emerge];obtain⟨H9,e9,hx9,F9⟩:=tP "still_led" (.ref sl) (kp (x:=.dK (cD Sum.inr sps)) (S9 _ _ hx8) hsl);rw[<-e9];have n9:sl≠x:=(ae (S9 _ _ hx8) hsl).symm;have fsl:=F9 _ _ aa n9;have E9:cz x H8 H9:=((ac.exB S9).trans (cz.new hsl)).trans F9;have L9:=L8.exI hx8 E9;have hled9:∀p∈sps,∃L,H9 p.2=some (.dK (aD L))/\L.Nodup/\∀w,w∈L↔Reach ds p.1 w:=fun p hp=>by
  obtain⟨L0,g1,g2⟩:=hled p hp;have g3:=kp (x:=.dK (cD Sum.inr sps)) g1 hsl;exact⟨L0,F9 _ _ g3 (ye (kp (S9 _ _ hx8) hsl) g3),g2⟩
 clear e9 F9;have lk8:lk "still_led" (ca ("still_led":Str) (.ref sl) (ca ("sign_goals":Str) (.ref sg) (ca ("quiet":Str) (.ref qu) (ca ("leaving":Str) (.ref lv) fs4))))=some (.ref sl):=by
  show ic _ _=_;rw[dR,if_pos rfl]
 refine⟨_,rfl,_,rfl,x,C,dx,_,.ref sl,rfl,hx9,M.cls,M.a8,lk8,l3,sl,J2,sps,rfl,L9.a3,fsl,hsps,m.okR.1,fun p hp=>?_,fun H10 S10=>⟨_,rfl,k H10 ?_ ?_⟩⟩
 ·obtain⟨L0,g1,g2,g3⟩:=hled9 p hp;exact⟨L0,g1,fun z=>m.noround _ ((g3 _).mp z)⟩
 ·have X69:cz x H6 H9:=(E7.trans E8).trans E9;have X59:=((E6.trans E7).trans E8).trans E9;have Y:∀{b:Addr}{o:HO},H9 b=some o->H10 b=some o:=fun h=>S10 _ _ h;have LL:Lists H5 o1 o2 o3 o4 ts J0 J1 J2 ds:=⟨(E3.trans (E4.trans E5)) _ _ f1 n1,(E4.trans E5) _ _ f2 n2,E5 _ _ f3 n3,f4,L5.ds⟩;refine⟨⟨dx,_,o1,o2,o3,o4,lv,qu,sg,sl,ts,lps,gps,sps,Y hx9,?_,?_,?_,?_,?_,?_,?_,?_,?_,?_,?_,lk8,(LL.exI hx5 X59).same S10,hlps,?_,?_,?_,?_,hsps,Y fsl,fun p hp=>?_⟩,m,⟨dx,_,Y hx9,?_,?_,?_,?_⟩⟩
  rotate_right 9
  ·exact Y (X69 _ _ flv (ye hx6 flv))
  ·intro y hy;obtain⟨us',g1,g2⟩:=hlv y hy;exact⟨us',Y (X69 _ _ g1 (cz.neI hx6 g1)),(g2.kt (X69.ktI hx6)).kt (ac.kt S10)⟩
  ·exact Y ((E8.trans E9) _ _ fqu n7)
  ·exact gt.same ⟨G8.nd,E9 _ _ G8.g (Af hx8 G8.g),fun y hy=>E9 _ _ (G8.ls y hy) (cz.neI hx8 (G8.ls y hy)),G8.all⟩ S10
  ·obtain⟨L0,g1,g2⟩:=hled9 p hp;exact⟨L0,Y g1,g2⟩
  all_goals(show ic _ _=_;subst hfs4;repeat (rw[dR];first|rw[if_pos rfl] | rw[if_neg (by decide +kernel)]))
  all_goals rfl
 ·exact((((((((E1.trans E2).trans E3).trans E4).trans E5).trans E6).trans E7).trans E8).trans E9).trans (ac.exB S10)
theorem zT(a b:Str):decide (gj a=gj b)=decide (a=b):=by
 by_cases e:a=b
 ·rw[zzr1 e,zzr1 (by rw[e])]
 ·rw[zzr0 e,zzr0 (fun z=>e (kC z))]
theorem aZ.by{C:Addr}{H H':Hp}{x:Addr}{J0 J1 J2:Zb}{ds:List ao}(h:aZ C H x J0 J1 J2 ds)
  (hs:∀b ws,H b=some (.lst (List.map V.str ws))->H' b=some (.lst (List.map V.str ws))) (hr:∀b ts,H b=some (.lst (List.map V.ref ts))->H' b=some (.lst (List.map V.ref ts))) (ht:k3 H H')
  (hd:∀b kvs,H b=some (.dK kvs)->H' b=some (.dK kvs)) (hT:∀b kvs,H b=some (.dT kvs)->H' b=some (.dT kvs)) (hi:∀b C dx fs,H b=some (.ins C dx fs)->H' b=some (.ins C dx fs)):aZ C H' x J0 J1 J2 ds:=by
 obtain⟨dx,fs,o1,o2,o3,o4,lv,qu,sg,sl,ts,lps,gps,sps,g1,a1,a2,a3,a4,b1,b2,b3,b4,b5,b6,b7,b8,L,c1,c2,c3,c4,G,d1,d2,d3⟩:=h.at_;refine⟨⟨dx,fs,o1,o2,o3,o4,lv,qu,sg,sl,ts,lps,gps,sps,hi _ _ _ _ g1,a1,a2,a3,a4,b1,b2,b3,b4,b5,b6,b7,b8,⟨hs _ _ L.a1,hs _ _ L.a2,hs _ _ L.a3,hr _ _ L.a4,L.ds.kt ht⟩,c1,hd _ _ c2,fun y hy=>?_,hd _ _ c4,⟨G.nd,hT _ _ G.g,fun y hy=>hs _ _ (G.ls y hy),G.all⟩,d1,hd _ _ d2,fun y hy=>?_⟩,h.ok,by obtain⟨dx,fs,g,r⟩:=h.more;exact⟨dx,fs,hi _ _ _ _ g,r⟩⟩
 ·obtain⟨us,e1,e2⟩:=c3 y hy;exact⟨us,hr _ _ e1,e2.kt ht⟩
 ·obtain⟨L0,e1,e2⟩:=d3 y hy;exact⟨L0,hd _ _ e1,e2⟩
theorem aZ.same{C:Addr}{H H':Hp}{x:Addr}{J0 J1 J2:Zb}{ds:List ao}(h:aZ C H x J0 J1 J2 ds)(S:ac H H'):aZ C H' x J0 J1 J2 ds :=
 h.by (fun _ _ e=>S _ _ e) (fun _ _ e=>S _ _ e) (ac.kt S) (fun _ _ e=>S _ _ e) (fun _ _ e=>S _ _ e) (fun _ _ _ _ e=>S _ _ e)
theorem aZ.ex{C:Addr}{H H':Hp}{x p c:Addr}{J0 J1 J2:Zb}{ds:List ao}(h:aZ C H x J0 J1 J2 ds)(hp:fH H p c)(S:cz p H H'):aZ C H' x J0 J1 J2 ds:=by
 obtain⟨xs,hx⟩:=hp.lst;exact h.by (fun _ _ e=>S _ _ e (hp.ne_strs e)) (fun _ _ e=>S _ _ e (hp.ne_refs e)) (S.kt hx) (fun _ _ e=>S _ _ e (fun z=>by rw[z,hx]at e;cases e)) (fun _ _ e=>S _ _ e (fun z=>by rw[z,hx]at e;cases e)) (fun _ _ _ _ e=>S _ _ e (fun z=>by rw[z,hx]at e;cases e))
inductive eV(C:Addr)(vs:List V)(H:Hp)(Q:VK)(E:XK):Prop
 |mk (x:Addr) (w:Str) (J0 J1 J2:Zb) (ds:List ao):(vs=[.ref x,.str w])->(aZ C H x J0 J1 J2 ds)->(Q (.bl (decide (w∈J2.filter (cF ds)))) H)->eV C vs H Q E
theorem tp{K:Za}{C:Addr}(M:MC K C){vs:List V}{H:Hp}{Q:VK}{E:XK}(h:eV C vs H Q E):ju K (bC Q) (start jL vs) H:=by
 obtain⟨x,w,J0,J1,J2,ds,rfl,h,k⟩:=h;obtain⟨dx,fs,o1,o2,o3,o4,lv,qu,sg,sl,ts,lps,gps,sps,g1,a1,a2,a3,a4,b1,b2,b3,b4,b5,b6,b7,b8,L,c1,c2,c3,c4,_⟩:=h.at_;refine⟨_,rfl,_,rfl,x,C,dx,fs,.ref qu,rfl,g1,M.cls,M.a6,b6,qu,_,rfl,.inl ⟨_,.inr w,.inl c4,rfl,rfl⟩,?_⟩;rw[c8];exact k
def aK:List Str:=[("hush":Str)]
inductive gW(C:Addr)(vs:List V)(H:Hp)(Q:VK)(E:XK):Prop
 |mk (t l1 l2 l3 l4:Addr) (ts:Ze) (J0 J1 J2:Zb) (ds:List ao):(vs=[.ref t])->(iJ H t l1 l2 l3 l4 ts J0 J1 J2 ds)->(bR J0 J1 J2 ds)->(∀(x:Addr) (H':Hp),aZ C H' x J0 J1 J2 ds->ac H H'->Q (.ref x) H')->gW C vs H Q E
theorem uI{K:Za}{C:Addr}{vs:List V}{H:Hp}{Q:VK}{E:XK}(h:gW C vs H Q E):oX K C (mY C) (bC Q) (start pD vs) H:=by
 obtain⟨t,l1,l2,l3,l4,ts,J0,J1,J2,ds,rfl,T,m,k⟩:=h;refine⟨_,rfl,.inr (.inl ⟨t,_,0,_,rfl,rfl,bp.of T.t,rfl,.inl ⟨l1,_,rfl,.inl (av.of T.a1),fun m1 h1=>?_⟩⟩)⟩;have T1:=T.same (ac.new (o:=.lst (J0.map V.str)) h1);refine⟨_,rfl,.inr (.inl ⟨t,_,1,_,rfl,rfl,bp.of T1.t,rfl,.inl ⟨l2,_,rfl,.inl (av.of T1.a2),fun m2 h2=>?_⟩⟩)⟩;have T2:=T1.same (ac.new (o:=.lst (J1.map V.str)) h2);refine⟨_,rfl,.inr (.inl ⟨t,_,2,_,rfl,rfl,bp.of T2.t,rfl,.inl ⟨l3,_,rfl,.inl (av.of T2.a3),fun m3 h3=>?_⟩⟩)⟩;have T3:=T2.same (ac.new (o:=.lst (J2.map V.str)) h3);refine⟨_,rfl,.inr (.inl ⟨t,_,3,_,rfl,rfl,bp.of T3.t,rfl,.inl ⟨l4,_,rfl,.inl (av.of T3.a4),fun m4 h4=>?_⟩⟩)⟩;have T4:=T3.same (ac.new (o:=.lst (ts.map V.ref)) h4);have S4:=(((ac.new (o:=.lst (J0.map V.str)) h1).trans (ac.new (o:=.lst (J1.map V.str)) h2)).trans (ac.new (o:=.lst (J2.map V.str)) h3)).trans (ac.new (o:=.lst (ts.map V.ref)) h4);refine fun x dx hx hdx hne=>?_;have S5:ac H (upd (upd (upd (upd (upd (upd H m1 (.lst (J0.map V.str))) m2 (.lst (J1.map V.str))) m3 (.lst (J2.map V.str))) m4 (.lst (ts.map V.ref))) dx (.own x)) x (.ins C dx [])) :=
  (S4.trans (ac.new hdx)).trans (ac.new (by rw[ai hne.symm];exact hx))
 have hxx:upd (upd (upd (upd (upd H m1 (.lst (J0.map V.str))) m2 (.lst (J1.map V.str))) m3 (.lst (J2.map V.str))) m4 (.lst (ts.map V.ref))) dx (.own x) x=none:=by rw[ai hne.symm];exact hx
 refine⟨x,dx,m1,m2,m3,m4,ts,J0,J1,J2,ds,rfl,aa,⟨?_,?_,?_,?_,T.ds.kt (ac.kt S5)⟩,m,fun H' M ex=>⟨rfl,k x H' M fun b o q=>?_⟩⟩
 ·exact kp (kp (kp (kp (kp aa h2) h3) h4) hdx) hxx
 ·exact kp (kp (kp (kp aa h3) h4) hdx) hxx
 ·exact kp (kp (kp aa h4) hdx) hxx
 ·exact kp (kp aa hdx) hxx
 ·have hq:=S5 _ _ q;exact ex _ _ hq (ae (S4.trans (ac.new hdx) _ _ q) hxx)
def df(ds:List ao):List Str:=(ds.filter fun d=>!iF d).map (·.a)
theorem oe(ds:List ao)(r:Str):cF ds r=decide (r∉df ds):=by
 unfold cF df aS;rw[pI,nI,decide_eq_true_iff];constructor
 ·intro h z;obtain⟨d,hd,rfl⟩:=aJ.mp z;rw[dh]at hd;have:=h d (dh.mpr ⟨hd.1,zzr1 rfl⟩);rw[this]at hd;exact absurd hd.2 (by decide)
 ·intro h d hd;rw[dh]at hd;cases q:iF d with
  |true=>rfl
  |false =>
   refine absurd (aJ.mpr ⟨d,dh.mpr ⟨hd.1,by rw[q];rfl⟩,?_⟩) h;exact of_decide_eq_true hd.2
theorem m_{w:Str}{ws:Zb}:gj w∈ws.map gj↔w∈ws:=by
 constructor
 ·intro h;obtain⟨x,hx,e⟩:=aJ.mp h;rw[<-kC e];exact hx
 ·exact fP
theorem pX{ds:List ao}{i:Nat}{d:ao}(h:ds[i]?=some d):df (ds.take (i+1))=df (ds.take i)++(if(!iF d)=true then[d.a]else[]):=by
 unfold df;rw[take_snoc h,jl,ar];congr 1;by_cases c:(!iF d)=true
 ·rw[if_pos c];simp[k4,c]
 ·rw[if_neg c];simp[k4,c]
def qI(K:Za)(C_Machine:Addr)(sp_Machine_rooms:Sp)(sp_Machine_led_from:Sp):TS :=
 aq (aM (nY) U2)
 (aq (dX (bE K V1) U3 (ef (tB (j8 K V3 V2)) (aq (kD V2 V3 (tC (.bl true)))
 (dX (bE K (fy C_Machine "led_from" sp_Machine_led_from [] E0 V0 (au V3))) U4 (kD V2 V4 (tC (.bl true))))) (ci)))
 (bo (eh (tt K) (au (bW 1 [2] (bE K (fy C_Machine "rooms" sp_Machine_rooms [] E0 V0 bA)) U0 (tB (uC K V0 V1)) V0)))))
def r_:List Str:=["M","rooms","found","room","led"]
def mF(K:Za):TS :=
 bo (eh (bO K) (au (nT K V0 "own_rooms")))
def mT:List Str:=["self"]
def jt(K:Za):TS :=
 bo (eh (bO K) (au (nZ K (nT K V0 "still_led") V1 (cS (bA)))))
def jK:List Str:=["self","room"]
def mG(K:Za):TS :=
 bo (eh (bO K) (au (nZ K (nT K V0 "sign_goals") (cS (bI V1 V2)) (cS (bA)))))
def mU:List Str:=["self","room","sign"]
def nP(K:Za):TS :=
 aq (aM (eh (bO K) (au V1)) U2)
 (aq (aM (tC (.int 0)) U3)
 (aq (uv (bc (aF Ax V3 (eh (gd K) (au V2)))) (aq (dX (bE K V0) (rO K 3 (dq U4 (dq U5 (dq U6 (rP))))) (ef (wn (bc (aF (ww K) V4 (aF (rg K) V2 V3))) (wn (bc (aF (ww K) V5 (cS (au (tC (.str "still")))))) (bc (aF (lK K true) V6 V2)))) (cB (sX K "list" cJ V2 (au V6))) (ci)))
 (aM (aF cK V3 (tC (.int 1))) U3)))
 (bo V2)))
def oO:List Str:=["doors","rooms","found","at","room","sign","other"]
inductive ix(C:Addr)(vs:List V)(H:Hp)(Q:VK)(E:XK):Prop
 |mk (x:Addr) (J0 J1 J2:Zb) (ds:List ao):(vs=[.ref x])->(aZ C H x J0 J1 J2 ds)->(∀l,H l=none->Q (.ref l) (upd H l (.lst (J2.map V.str))))->ix C vs H Q E
theorem xC{K:Za}{C:Addr}(M:MC K C){vs:List V}{H:Hp}{Q:VK}{E:XK}(h:ix C vs H Q E):mF K (bC Q) (start mT vs) H:=by
 obtain⟨x,J0,J1,J2,ds,rfl,h,k⟩:=h;obtain⟨dx,fs,o1,o2,o3,o4,lv,qu,sg,sl,ts,lps,gps,sps,g1,a1,a2,a3,a4,b1,b2,b3,b4,b5,b6,b7,b8,L,_⟩:=h.at_;exact⟨_,rfl,x,C,dx,fs,.ref o3,rfl,g1,M.cls,M.a3,b3,.inl ⟨o3,_,rfl,.inl (av.of L.a3),k⟩⟩
theorem tL:∀{L:Zb},L.Nodup->(aD L).map (fun kv=>kV kv.1)=L.map V.str:=by
 intro L;refine gK (fun L=>L.Nodup->(aD L).map (fun kv=>kV kv.1)=L.map V.str) (fun _=>rfl) (fun ws w ih nd=>?_) L;rw[cu]at nd;have hn:bV (aD ws) (.inr w)=none:=by
  rw[ox,if_neg (fun z=>nd.2.2 w z w (by simp) rfl)]
 show(aD (ws++[w])).map _=_;rw[cp,kG _ hn,ar,ih nd.1,ar]
 rfl
inductive gh(C:Addr)(vs:List V)(H:Hp)(Q:VK)(E:XK):Prop
 |mk (x:Addr) (r:Str) (J0 J1 J2:Zb) (ds:List ao):(vs=[.ref x,.str r])->(aZ C H x J0 J1 J2 ds)->(r∈J2)->(∀(l:Addr) (L:Zb) (H':Hp),H' l=some (.lst (L.map V.str))->L.Nodup->(∀w,w∈L↔Reach ds r w)->H l=none->ac H H'->Q (.ref l) H')->gh C vs H Q E
theorem tm{K:Za}{C:Addr}(M:MC K C){vs:List V}{H:Hp}{Q:VK}{E:XK}(h:gh C vs H Q E):jt K (bC Q) (start jK vs) H:=by
 obtain⟨x,r,J0,J1,J2,ds,rfl,h,hr,k⟩:=h;obtain⟨dx,fs,o1,o2,o3,o4,lv,qu,sg,sl,ts,lps,gps,sps,g1,a1,a2,a3,a4,b1,b2,b3,b4,b5,b6,b7,b8,L,c1,c2,c3,c4,G,d1,d2,d3⟩:=h.at_;have nod:=h.ok.okR.1;obtain⟨⟨r',a⟩,hra,er⟩:=aJ.mp (show r∈sps.map (·.1) by rw[d1];exact hr);obtain rfl:r'=r:=er;obtain⟨L0,e1,e2,e3⟩:=d3 _ hra;refine⟨_,rfl,x,C,dx,fs,.ref sl,rfl,g1,M.cls,M.a8,b8,sl,rfl,.inl ⟨_,.inl d2⟩,_,rfl,(by show 0<=aj;decide),fun et het=>⟨_,.inl ⟨_,.inr r',.inl (kp d2 het),rfl,rfl⟩,?_⟩⟩;rw[cL fF (by rw[d1];exact nod) hra];refine .inr ⟨a,_,rfl,.inl (kp e1 het),fun l hl=>k l L0 _ ?_ e2 e3 ((ac.new het).free hl) ((ac.new het).trans (ac.new hl))⟩;rw[aa,tL e2]
inductive gM(C:Addr)(vs:List V)(H:Hp)(Q:VK)(E:XK):Prop
 |mk (x s:Addr) (r:Str) (sg J0 J1 J2:Zb) (ds:List ao):(vs=[.ref x,.str r,.ref s])->(aZ C H x J0 J1 J2 ds)->(H s=some (.tup (sg.map V.str)))->(∀(l:Addr) (H':Hp),H' l=some (.lst ((aX ds (r,sg)).map V.str))->H l=none->ac H H'->Q (.ref l) H')->gM C vs H Q E
theorem wu{K:Za}{C:Addr}(M:MC K C){vs:List V}{H:Hp}{Q:VK}{E:XK}(h:gM C vs H Q E):mG K (bC Q) (start mU vs) H:=by
 obtain⟨x,s,r,sgn,J0,J1,J2,ds,rfl,h,hs,k⟩:=h;obtain⟨dx,fs,o1,o2,o3,o4,lv,qu,sg,sl,ts,lps,gps,sps,g1,a1,a2,a3,a4,b1,b2,b3,b4,b5,b6,b7,b8,L,c1,c2,c3,c4,G,d1,d2,d3⟩:=h.at_;have nod:=h.ok.okR.1;refine⟨_,rfl,x,C,dx,fs,.ref sg,rfl,g1,M.cls,M.a7,b7,sg,rfl,.inr ⟨_,.inl G.g⟩,_,rfl,_,rfl,(by show 2<=aj;decide),fun kt hkt=>⟨(by show 0<=aj;decide),fun et het=>⟨bV (cD oT gps) (oT (r,sgn)),.inr ⟨_,oT (r,sgn),kt,.inl (kp (kp G.g hkt) het),rfl,?_,iR _,rfl⟩,?_⟩⟩⟩
 ·refine fb.isIn 8 (iR _) ?_;unfold oT fb;refine⟨kt,_,rfl,kp aa het,?_⟩;unfold TKAts;refine⟨_,_,rfl,qH _,?_⟩;unfold TKAts;refine⟨_,_,rfl,SignAt.tk (kp (kp hs hkt) het),?_⟩;unfold TKAts
  rfl
 have S2:ac H (upd (upd H kt (.tup [.str r,.ref s])) et (.tup [])):=(ac.new hkt).trans (ac.new het);by_cases hmem:(r,sgn)∈gps.map (·.1)
 ·obtain⟨⟨y,a⟩,hra,er⟩:=aJ.mp hmem;obtain rfl:y=(r,sgn):=er;rw[cL fC G.nd hra];exact .inl ⟨a,_,rfl,.inl (av.of (S2 _ _ (G.ls _ hra))),fun l hl=>k l _ aa (S2.free hl) (S2.trans (ac.new hl))⟩
 ·rw[iT fC hmem];have hnil:aX ds (r,sgn)=[]:=iG fun y hy z=>hmem (by rw[<-z];exact G.all y hy);refine .inl ⟨et,[],rfl,.inr (bp.of aa),fun l hl=>k l _ ?_ (S2.free hl) (S2.trans (ac.new hl))⟩;rw[hnil];exact aa
theorem Reach.trans{ds:List ao}{a b c:Str}(h1:Reach ds a b)(h2:Reach ds b c):Reach ds a c:=by
 induction h2 with
 |one h=>exact .step h1 h
 |step r h ih=>exact .step ih h
def fZ(ds:List ao)(gs:Zb)(w:Str):Prop:=∃g∈gs,w=g∨Reach ds g w
theorem fZ.in_{ds:List ao}{gs J2:Zb}{w:Str}(hg:∀g∈gs,g∈J2)(hd:∀d∈ds,d.b∈J2)(h:fZ ds gs w):w∈J2:=by
 obtain⟨g,h1,rfl|h2⟩:=h
 ·exact hg _ h1
 ·exact h2.in_ hd
def mP(F:Zb)(w:Str):List Str:=if w∈F then F else F++[w]
theorem tK(F:Zb):∀kv∈aD F,kv.2=.bl true:=by
 refine gK (fun F=>∀kv∈aD F,kv.2=.bl true) (by intro kv h;cases h) (fun ws w ih=>?_) F;intro kv hkv;rw[cp]at hkv;unfold cU at hkv;split at hkv
 ·obtain⟨x,hx,rfl⟩:=aJ.mp hkv;split
  ·rfl
  ·exact ih x hx
 ·rcases aR.mp hkv with h|h
  ·exact ih kv h
  ·have:kv=(.inr w,.bl true):=by simpa using h
   rw[this]
theorem oy(F:Zb)(w:Str):cU (aD F) (.inr w) (.bl true)=aD (mP F w):=by
 unfold mP;by_cases c:w∈F
 ·rw[if_pos c];have h1:((aD F).any fun kv=>decide (kv.1=(.inr w:dA)))=true:=by
   rw[gI,c8,zzr1 c]
  unfold cU;rw[if_pos h1];have:∀l:List (dA×V),(∀kv∈l,kv.2=.bl true)->l.map (fun kv=>if kv.1=(.inr w:dA)then(kv.1,V.bl true)else kv)=l:=by
   intro l
   induction l with
   |nil=>intro _;rfl
   |cons x l ih =>
    intro h;rw[aY,ih fun kv hkv=>h kv (dO _ hkv)];congr 1;split
    ·rw[<-h x cQ]
    ·rfl
  exact this _ (tK F)
 ·rw[if_neg c,cp]
theorem oM{F:Zb}(h:F.Nodup)(w:Str):(mP F w).Nodup:=by
 unfold mP;split
 ·exact h
 ·next c =>
  rw[cu];refine⟨h,by simp,fun a ha b hb e=>?_⟩;have:b=w:=by simpa using hb
  exact c (by rw[<-this,<-e];exact ha)
theorem tJ{F:Zb}{w y:Str}:y∈mP F w↔y∈F∨y=w:=by
 unfold mP;split
 ·next c=>exact⟨.inl,fun h=>h.elim id fun e=>by rw[e];exact c⟩
 ·rw[aR];simp
inductive sp_with_still(C:Addr)(vs:List V)(H:Hp)(Q:VK)(E:XK):Prop
 |mk (x l:Addr) (gs J0 J1 J2:Zb) (ds:List ao):(vs=[.ref x,.ref l])->(aZ C H x J0 J1 J2 ds)->(H l=some (.lst (gs.map V.str)))->((∀g∈gs,g∈J2))->(∀(t:Addr) (F:Zb) (H':Hp),H' t=some (.tup ((J2.filter fun r=>decide (r∈F)).map V.str))->(∀w,w∈F↔fZ ds gs w)->ac H H'->Q (.ref t) H')->sp_with_still C vs H Q E
theorem pb{K:Za}{C:Addr}{vs:List V}{H:Hp}{Q:VK}{E:XK}(h:sp_with_still C vs H Q E):qI K C (ix C) (gh C) (bC Q) (start r_ vs) H:=by
 obtain⟨x,l,gs,J0,J1,J2,ds,rfl,M,hl,hg,k⟩:=h;have hdb:∀d∈ds,d.b∈J2:=fun d hd=>(M.ok.good d hd).b;have z3:=M.ok.rooms26;refine fun d hd=>?_;refine⟨_,rfl,l,rfl,⟨_,av.of (kp hl hd)⟩,?_⟩
 let zI0:Nat->L2.St->Hp->Prop:=fun i σ H'=>Aq fun(F:Zb) (x3 x4:Option V)=>AW (σ=[some (.ref x),some (.ref l),some (.ref d),x3,x4]) (H' d=some (.dK (aD F))) (ac H H') (F.Nodup) (∀w,w∈F↔fZ ds (gs.take i) w)
 refine bP (xs:=gs.map V.str) zI0
  ⟨[],_,_,rfl,aa,ac.new hd,jn,fun w=>⟨fun h=>(by cases h),fun⟨g,h,_⟩=>(by cases h)⟩⟩ (fun i σ H' _ zq=>by obtain⟨_,_,_,_,_,S,_,_⟩:=zq;exact av.of (S _ _ hl)) ?_ ?_
 ·rintro i y σ H1 hi ⟨F,x3,x4,rfl,hd1,S1,nd,hF⟩;obtain⟨r,hr,rfl⟩:=br hi;have hrm:r∈J2:=hg r (dJ hr);have hsub:∀w∈F,w∈J2:=fun w hw=>((hF w).mp hw).in_ (fun g hg'=>hg g (ff hg')) hdb;refine⟨_,rfl,_,rfl,d,_,rfl,.inl ⟨_,.inr r,.inl hd1,rfl,rfl⟩,_,rfl,?_⟩;rw[c8];have hstep:∀w,fZ ds (gs.take (i+1)) w↔(fZ ds (gs.take i) w∨w=r∨Reach ds r w):=by
   intro w;rw[take_snoc hr];constructor
   ·rintro⟨g,hg',h⟩;rcases aR.mp hg' with hg'|hg'
    ·exact .inl ⟨g,hg',h⟩
    ·have:g=r:=by simpa using hg'
     subst this;exact .inr h
   ·rintro(⟨g,hg',h⟩|h)
    ·exact⟨g,cH _ hg',h⟩
    ·exact⟨r,cN _ (by simp),h⟩
  by_cases c:r∈F
  ·rw[zzr1 c];refine ck ⟨F,_,_,rfl,hd1,S1,nd,fun w=>?_⟩;rw[hstep,hF];refine⟨.inl,fun h=>h.elim id fun h=>?_⟩;obtain⟨g,hg',hgr⟩:=(hF r).mp c;rcases h with h|h
   ·rw[h];exact⟨g,hg',hgr⟩
   ·refine⟨g,hg',.inr ?_⟩;rcases hgr with e|hgr
    ·rw[<-e];exact h
    ·exact hgr.trans h
  ·rw[zzr0 c];refine c9 ?_;have hlen:∀{F:Zb},F.Nodup->(∀w∈F,w∈J2)->(aD F).length<aj:=fun nd hs=>am (aO (gZ _) (aO (kL nd hs) (by omega)));refine⟨_,rfl,_,rfl,d,_,rfl,.inl ⟨_,.inr r,hd1,rfl,hlen nd hsub,rfl⟩,?_⟩;rw[oy];have S2:ac H (upd H1 d (.dK (aD (mP F r)))):=fun b o q=>by rw[ai (ae q hd)];exact S1 _ _ q
   have hd2:upd H1 d (.dK (aD (mP F r))) d=some (.dK (aD (mP F r))):=aa;generalize upd H1 d (.dK (aD (mP F r)))=H2 at S2 hd2 ⊢;have M2:=M.same S2;obtain⟨dx,fs,o1,o2,o3,o4,lv,qu,sg,sl,ts,lps,gps,sps,g1,a1,a2,a3,a4,_⟩:=M2.at_;refine⟨_,rfl,x,dx,fs,rfl,g1,a3,_,rfl,x,r,J0,J1,J2,ds,rfl,M2,hrm,fun ll L H3 hll ndL hL frl S3=>⟨ll,rfl,⟨_,av.of hll⟩,?_⟩⟩;have hd3:=S3 _ _ hd2;have llH:H ll=none:=S2.free frl;have lld:ll≠d:=fun z=>by rw[z,hd2]at frl;cases frl
   let zI1:Nat->L2.St->Hp->Prop:=fun j σ H'=>yX fun(F':Zb) (x4:Option V)=>A0 (σ=[some (.ref x),some (.ref l),some (.ref d),some (.str r),x4]) (H' d=some (.dK (aD F'))) (H' ll=some (.lst (L.map V.str))) (ac H H') (F'.Nodup) (∀w,w∈F'↔(fZ ds (gs.take i) w∨w=r∨w∈L.take j))
   refine bP (xs:=L.map V.str) zI1
    ⟨mP F r,_,rfl,hd3,hll,S2.trans S3,oM nd r,fun w=>?_⟩ (fun j σ H' _ zq=>by obtain⟨_,_,_,_,h,_,_,_⟩:=zq;exact av.of h) ?_ ?_
   ·rw[tJ,hF];simp
   ·rintro j y σ H4 hj ⟨F',x4',rfl,hd4,hll4,S4,nd4,hF4⟩;obtain⟨v,hv,rfl⟩:=br hj;have hsub4:∀w∈F',w∈J2:=by
     intro w hw;rcases(hF4 w).mp hw with h|h|h
     ·exact h.in_ (fun g hg'=>hg g (ff hg')) hdb
     ·rw[h];exact hrm
     ·exact((hL w).mp (ff h)).in_ hdb
    refine⟨_,rfl,_,rfl,d,_,rfl,.inl ⟨_,.inr v,hd4,rfl,hlen nd4 hsub4,rfl⟩,mP F' v,_,rfl,?_,?_,?_,oM nd4 v,fun w=>?_⟩
    ·rw[aa,oy]
    ·rw[ai lld];exact hll4
    ·intro b o q;rw[ai (ae q hd)];exact S4 _ _ q
    ·rw[tJ,hF4,take_snoc hv,aR];simp only[bM];constructor
     ·rintro((h|h|h)|h)
      ·exact .inl h
      ·exact .inr (.inl h)
      ·exact .inr (.inr (.inl h))
      ·exact .inr (.inr (.inr h))
     ·rintro(h|h|h|h)
      ·exact .inl (.inl h)
      ·exact .inl (.inr (.inl h))
      ·exact .inl (.inr (.inr h))
      ·exact .inr h
   ·rintro σ H4 ⟨F',x4',rfl,hd4,hll4,S4,nd4,hF4⟩;rw[af,aU]at hF4;refine⟨F',_,_,rfl,hd4,S4,nd4,fun w=>?_⟩;rw[hstep,hF4,hL]
 ·rintro σ H1 ⟨F,x3,x4,rfl,hd1,S1,nd,hF⟩;rw[af,aU]at hF;have M1:=M.same S1;obtain⟨dx,fs,o1,o2,o3,o4,lv,qu,sg,sl,ts,lps,gps,sps,g1,a1,a2,a3,a4,_⟩:=M1.at_;refine⟨_,rfl,x,dx,fs,rfl,g1,a4,x,J0,J1,J2,ds,rfl,M1,fun rl hrl=>⟨rl,rfl,⟨_,av.of aa⟩,fun f hf=>?_⟩⟩;have S2:ac H (upd H1 rl (.lst (J2.map V.str))):=S1.trans (ac.new hrl);have hd2:upd H1 rl (.lst (J2.map V.str)) d=some (.dK (aD F)):=kp hd1 hrl;have hrl2:upd H1 rl (.lst (J2.map V.str)) rl=some (.lst (J2.map V.str)):=aa;generalize upd H1 rl (.lst (J2.map V.str))=H2 at S2 hd2 hrl2 hf ⊢
  let zI2:Nat->List V->Hp->Prop:=fun i vs H'=>vs=((J2.take i).filter fun r=>decide (r∈F)).map V.str/\ac H2 H'/\H' f=some (.lst vs)
  refine bB (xs:=J2.map V.str) zI2 ⟨rfl,ac.new hf,aa⟩ (fun i vs H' _ zq=>by obtain⟨_,S,h'⟩:=zq;exact⟨h',av.of (S _ _ hrl2)⟩) ?_ ?_
  ·rintro vs H' ⟨rfl,S,f'⟩;rw[af,aU]at f';exact⟨f,_,rfl,.inl ⟨av.of f',fun t ht=>k t F _ aa hF (S2.trans (S.trans (ac.new ht)))⟩⟩
  ·rintro i vs H' x' hx' hi ⟨rfl,S,f'⟩;obtain⟨r,hr,rfl⟩:=br hx';refine gN ?_;refine⟨_,rfl,_,rfl,d,_,rfl,.inl ⟨_,.inr r,.inl (S _ _ hd2),rfl,rfl⟩,_,rfl,?_⟩;rw[c8];have hlen:(((J2.take i).filter fun r=>decide (r∈F)).map V.str).length<aj:=by
    rw[af];refine am (aO (b_ _ _) ?_);rw[aT];omega
   refine iE (fun hq=>?_) (fun hq=>?_)
   ·refine⟨_,rfl,f',hlen,je hi ⟨?_,?_,aa⟩⟩
    ·rw[bv hr,if_pos hq,ar];rfl
    ·intro b o q;rw[ai (ae q hf)];exact S _ _ q
   ·refine je hi ⟨?_,S,f'⟩;rw[bv hr,if_neg hq,cR]
inductive eU(K:Za)(vs:List V)(H:Hp)(Q:VK)(E:XK):Prop
 |mk (l4 l:Addr) (ts:Ze) (ds:List ao) (gs J2:Zb):(vs=[.ref l4,.ref l])->(H l4=some (.lst (ts.map V.ref)))->(cY H ts ds)->(H l=some (.lst (gs.map V.str)))->((∀d∈ds,d.b∈J2))->(J2.length<=1000)->(gs.length<=1000)->(∀(f:Addr) (F:Zb) (H':Hp),H' f=some (.lst (F.map V.str))->(∀w,w∈F↔fZ ds gs w)->F.length<=2000->H f=none->ac H H'->Q (.ref f) H')->eU K vs H Q E
structure SO(H0 H:Hp)(ds:List ao)(gs:Zb)(f:Addr)(X:Zb):Prop where
 f:H f=some (.lst ((gs++X).map V.str))
 same:ac H0 H
 nd:X.Nodup
 new:∀y∈X,y∉gs
 sound:∀y∈X,fZ ds gs y
theorem fZ.step{ds:List ao}{gs:Zb}{a b:Str}(h:fZ ds gs a)(e:(⟨a,aN,b⟩:ao)∈ds):fZ ds gs b:=by
 obtain⟨g,hg,rfl|h⟩:=h
 ·exact⟨_,hg,.inr (.one e)⟩
 ·exact⟨g,hg,.inr (.step h e)⟩
theorem iW(a b:Zb):decide (dg a=dg b)=decide (a=b):=by
 by_cases e:a=b
 ·rw[zzr1 e,zzr1 (by rw[e])]
 ·rw[zzr0 e,zzr0 (fun z=>e (kP z))]
inductive SoI(l4 l f:Addr)(at_:Int)(H:Hp)(ds:List ao)(gs X:Zb)(here:Str)(j:Nat)(σ:L2.St)(H':Hp):Prop
 |mk (X' Y:Zb) (x y z:Option V):σ=[some (.ref l4),some (.ref l),some (.ref f),some (.int at_),x,y,z]->X'=X++Y->SO H H' ds gs f X'->(∀d∈ds.take j,d.a=here->d.sg=aN->d.b∈gs++X')->SoI l4 l f at_ H ds gs X here j σ H'
theorem s_{K:Za}{vs:List V}{H:Hp}{Q:VK}{E:XK}(h:eU K vs H Q E):nP K (bC Q) (start oO vs) H:=by
 obtain⟨l4,l,ts,ds,gs,J2,rfl,h4,hds,hl,hin,hz,hz2,k⟩:=h;refine⟨_,rfl,.inl ⟨l,_,rfl,.inl (av.of hl),fun f hf=>?_⟩⟩;have lenX:∀{X:Zb},X.Nodup->(∀y∈X,y∉gs)->(∀y∈X,fZ ds gs y)->X.length<=J2.length:=fun nd nw sd=>kL nd fun y hy=>by
  obtain⟨g,hg,e|h⟩:=sd y hy
  ·exact absurd (by rw[e];exact hg) (nw y hy)
  ·exact h.in_ hin
 refine⟨fun m σ H'=>∃(X:Zb) (at_:Nat) (x y z:Option V),σ=[some (.ref l4),some (.ref l),some (.ref f),some (.int at_),x,y,z]/\SO H H' ds gs f X/\at_<=(gs++X).length/\(∀i y,i<at_->(gs++X)[i]?=some y->∀c,(⟨y,aN,c⟩:ao)∈ds->c∈gs++X)/\m=gs.length+J2.length-at_,
  ⟨_,[],0,_,_,_,rfl,⟨by rw[cR];exact aa,ac.new hf,jn,by simp,by simp⟩,cM _,fun i y h=>by omega,rfl⟩,?_⟩
 rintro m σ H1 ⟨X,at_,x4,x5,x6,rfl,D,hat,hcl,rfl⟩;have hXl:=lenX D.nd D.new D.sound;refine⟨_,rfl,_,rfl,.inl ⟨f,_,rfl,.inl (av.of D.f),_,_,rfl,rfl,_,rfl,?_⟩⟩;refine iE (fun hlt=>?_) (fun hlt=>?_)
 ·have hlt':at_<(gs++X).length:=by
   have:=of_decide_eq_true hlt;rw[af]at this;omega
  have hat0:at_<gs.length+J2.length:=by rw[aW]at hlt';omega
  generalize hhere:(gs++X)[at_]=here;have hget:(gs++X)[at_]?=some here:=by rw[<-hhere];exact nE hlt'
  have hfrom:∀{Y:Zb}{y:Str},(∀y∈Y,fZ ds gs y)->y∈gs++Y->fZ ds gs y:=fun sd hy=>by
   rcases aR.mp hy with hy|hy
   ·exact⟨_,hy,.inl rfl⟩
   ·exact sd _ hy
  refine⟨fun σ' H'=>∃(X':Zb) (x y z:Option V),σ'=[some (.ref l4),some (.ref l),some (.ref f),some (.int ((at_+1:Nat):Int)),x,y,z]/\SO H H' ds gs f X'/\at_+1<=(gs++X').length/\(∀i y,i<at_+1->(gs++X')[i]?=some y->∀c,(⟨y,aN,c⟩:ao)∈ds->c∈gs++X'),
   fun σ' H' ⟨X',x,y,z,e,D',h1,h2⟩=>⟨_,(by omega:gs.length+J2.length-(at_+1)<gs.length+J2.length-at_),X',at_+1,x,y,z,e,D',h1,h2,rfl⟩,?_⟩
  refine⟨_,rfl,l4,rfl,⟨_,av.of (D.same _ _ h4)⟩,?_⟩;refine bP (xs:=ts.map V.ref) (SoI l4 l f at_ H ds gs X here)
   ⟨X,[],_,_,_,rfl,by simp,D,by simp⟩ (fun j σ H' _ zq=>by obtain⟨_,_,_,_,_,_,_,D',_⟩:=zq;exact av.of (D'.same _ _ h4)) ?_ ?_
  ·rintro j y σ H2 hj ⟨X',Y,x4',x5',x6',rfl,rfl,D2,hdone⟩;obtain⟨t,ht,rfl⟩:=bz hj;obtain⟨dr,hdr,hatd⟩:=Paired.getL hds ht;obtain⟨s,ht2,hs2⟩:=hatd.kt (ac.kt D2.same);have hmem:=dJ hdr;have hXl2:=lenX D2.nd D2.new D2.sound;have hget2:(gs++(X++Y))[at_]?=some here:=by
    rw[<-dD,sv hlt'];exact hget
   refine⟨t,_,rfl,bp.of ht2,rfl,_,_,rfl,_,_,rfl,_,_,rfl,rfl,?_⟩;have nextI:∀(H3:Hp) (X3 Y3:Zb) (q4 q5 q6:Option V),X3=X++Y3->SO H H3 ds gs f X3->(∀y∈X++Y,y∈X3)->(dr.a=here->dr.sg=aN->dr.b∈gs++X3) ->
     SoI l4 l f at_ H ds gs X here (j+1) [some (.ref l4),some (.ref l),some (.ref f),some (.int at_),q4,q5,q6] H3:=by
    intro H3 X3 Y3 q4 q5 q6 e D3 hsub hnew;refine⟨X3,Y3,q4,q5,q6,rfl,e,D3,fun d hd e1 e2=>?_⟩;rw[take_snoc hdr]at hd;rcases aR.mp hd with hd|hd
    ·rcases aR.mp (hdone d hd e1 e2)with h|h
     ·exact cH _ h
     ·exact cN _ (hsub _ h)
    ·have:d=dr:=by simpa using hd
     subst this;exact hnew e1 e2
   refine⟨_,rfl,_,rfl,_,rfl,.inl ⟨f,_,_,_,rfl,rfl,av.of D2.f,dz (j:=at_) (by rw[gD,hget2];rfl),gj dr.a,gj here,my _,my _,(by show 0<=8;decide),(by show 0<=8;decide),_,rfl,?_⟩⟩;rw[zT];by_cases c1:dr.a=here;rotate_left
   ·rw[zzr0 c1];exact ck (ck (nextI H2 _ _ _ _ _ rfl D2 (fun _ h=>h) fun e=>absurd e c1))
   rw[zzr1 c1];refine c9 ?_;refine⟨_,rfl,(by show 1<=aj;decide),fun st hst=>⟨dg dr.sg,dg aN,aV (bp.of (kp hs2 hst)),aV (bp.of aa),by rw[bH];decide,by rw[bH];decide,_,rfl,?_⟩⟩;rw[iW];have D3:SO H (upd H2 st (.tup [.str "still"])) ds gs f (X++Y):=⟨kp D2.f hst,D2.same.trans (ac.new hst),D2.nd,D2.new,D2.sound⟩;have hstS:H st=none:=D2.same.free hst;generalize upd H2 st (.tup [.str "still"])=H3 at D3 ⊢;by_cases c2:dr.sg=aN;rotate_left
   ·rw[zzr0 c2];exact ck (ck (nextI H3 _ _ _ _ _ rfl D3 (fun _ h=>h) fun _ e=>absurd e c2))
   rw[zzr1 c2];refine c9 ?_;refine⟨_,rfl,_,rfl,gj dr.b,(gs++(X++Y)).map gj,f,_,my _,rfl,.inl (av.of D3.f),jD _,(by show 0<=8;decide),by rw[fV];decide,_,rfl,?_⟩;rw[if_pos rfl];by_cases c3:dr.b∈gs++(X++Y)
   ·rw[zzr1 (m_.mpr c3)];exact ck (nextI H3 _ _ _ _ _ rfl D3 (fun _ h=>h) fun _ _=>c3)
   rw[zzr0 (fun z=>c3 (m_.mp z))];refine c9 ?_;refine⟨_,rfl,.inl ⟨rfl,_,av.of D3.f⟩,_,rfl,f,_,_,rfl,rfl,D3.f,by rw[af,aW];exact eC (by omega),?_⟩;have hedge:(⟨here,aN,dr.b⟩:ao)∈ds:=by
    have:dr=⟨here,aN,dr.b⟩:=by cases dr;simp only at c1 c2;rw[c1,c2]
    rw[<-this];exact hmem
   refine nextI _ (X++(Y++[dr.b])) _ _ _ _ rfl ⟨?_,?_,?_,?_,?_⟩ ?_ ?_
   ·rw[aa];have:gs++(X++(Y++[dr.b]))=gs++(X++Y)++[dr.b]:=by simp
    rw[this,ar (l₂:=[dr.b])]
    rfl
   ·intro b o q;rw[ai (ae q hf)];exact D3.same _ _ q
   ·rw[<-dD,cu];refine⟨D3.nd,by simp,fun a ha b hb e=>?_⟩;have:b=dr.b:=by simpa using hb
    exact c3 (cN _ (by rw[<-this,<-e];exact ha))
   ·intro y hy;rw[<-dD]at hy;rcases aR.mp hy with hy|hy
    ·exact D3.new y hy
    ·have:y=dr.b:=by simpa using hy
     rw[this];exact fun z=>c3 (cH _ z)
   ·intro y hy;rw[<-dD]at hy;rcases aR.mp hy with hy|hy
    ·exact D3.sound y hy
    ·have:y=dr.b:=by simpa using hy
     rw[this];exact(hfrom D.sound (dJ hget)).step hedge
   ·intro y hy;rw[<-dD];exact cH _ hy
   ·intro _ _;exact cN _ (by simp)
  ·rintro σ H2 ⟨X',Y,x4',x5',x6',rfl,rfl,D2,hdone⟩;rw[af,Paired.length hds,aU]at hdone;refine⟨_,rfl,_,_,rfl,rfl,X++Y,_,_,_,rfl,D2,?_,fun i y hi hy c hc=>?_⟩
   ·rw[<-dD,aW];omega
   ·by_cases e:i=at_
    ·subst e;rw[<-dD,sv hlt',hget]at hy;have:=di hy;subst this;exact hdone _ hc rfl rfl
    ·have hi':i<at_:=by omega
     rw[<-dD,sv (by omega)]at hy;have:=hcl i y hi' hy c hc;rw[<-dD];exact cH _ this
 ·have hend:at_=(gs++X).length:=by
   have:¬(at_<(gs++X).length):=fun z=>hlt (zzr1 (by rw[af];omega));omega
  refine⟨_,rfl,k f (gs++X) H1 D.f (fun w=>⟨fun hw=>?_,fun hw=>?_⟩) (by rw[aW];omega) hf D.same⟩
  ·rcases aR.mp hw with hw|hw
   ·exact⟨_,hw,.inl rfl⟩
   ·exact D.sound _ hw
  ·have closed:∀y∈gs++X,∀c,(⟨y,aN,c⟩:ao)∈ds->c∈gs++X:=fun y hy c hc=>by
    obtain⟨n,hn⟩:=List.getElem?_of_mem hy;exact hcl n y (by rw[hend];exact(bN.mp hn).1) hn c hc
   obtain⟨g,hg,rfl|h⟩:=hw
   ·exact cH _ hg
   ·induction h with
    |one e=>exact closed _ (cH _ hg) _ e
    |step r e ih=>exact closed _ ih _ e

def bZ(ds:List ao)(sg:Zb)(J6:Zb):List Str:=J6.flatMap fun r=>aX ds (r,sg)
theorem px{ds:List ao}{sg J6:Zb}{i:Nat}{r:Str}(h:J6[i]?=some r):bZ ds sg (J6.take (i+1))=bZ ds sg (J6.take i)++aX ds (r,sg):=by
 unfold bZ;rw[take_snoc h,List.flatMap_append];simp
theorem mv(ds:List ao)(x:Str×List Str):(aX ds x).length<=ds.length:=by
 unfold aX;rw[af];exact b_ _ _
theorem kO(ds:List ao)(sg:Zb):∀J6:List Str,(bZ ds sg J6).length<=J6.length * ds.length
 |[]=>cM _
 |r::J6=>by
  show((aX ds (r,sg))++bZ ds sg J6).length<=(J6.length+1) * ds.length;rw[aW,Nat.succ_mul];have h1:=mv ds (r,sg);have h2:=kO ds sg J6;omega
theorem fE{ds:List ao}{sg J6:Zb}{b:Str}:b∈bZ ds sg J6↔∃r∈J6,(⟨r,sg,b⟩:ao)∈ds:=by
 unfold bZ;rw[List.mem_flatMap];constructor
 ·rintro⟨r,hr,h⟩;exact⟨r,hr,eZ.mp h⟩
 ·rintro⟨r,hr,h⟩;exact⟨r,hr,eZ.mpr h⟩
inductive kn(C:Addr)(vs:List V)(H:Hp)(Q:VK)(E:XK):Prop
 |mk (x t s:Addr) (J6 sg J0 J1 J2:Zb) (ds:List ao):(vs=[.ref x,.ref t,.ref s])->(aZ C H x J0 J1 J2 ds)->(H t=some (.tup (J6.map V.str)))->(H s=some (.tup (sg.map V.str)))->(sg≠aK)->(J6.length<=1000)->(∀(t':Addr) (F:Zb) (H':Hp),H' t'=some (.tup ((J2.filter fun r=>decide (r∈F)).map V.str))->(∀w,w∈F↔fZ ds (bZ ds sg J6) w)->ac H H'->Q (.ref t') H')->kn C vs H Q E
theorem rc{K:Za}{C hu:Addr}(hhu:∀H,bp K H hu (aK.map V.str)){sp2:Sp}{vs:List V}{H:Hp}{Q:VK}{E:XK}(h:kn C vs H Q E):
  jd K (sp_with_still C) C (gM C) hu sp2 (bC Q) (start jg vs) H:=by
 obtain⟨x,t,s,J6,sg,J0,J1,J2,ds,rfl,M,ht,hs,hne,hz,k⟩:=h;have hdb:∀d∈ds,d.b∈J2:=fun d hd=>(M.ok.good d hd).b;have z4:=M.ok.few;refine⟨_,rfl,dg sg,dg aK,aV (bp.of hs),aV (hhu _),by rw[bH];decide,by rw[bH];decide,_,rfl,?_⟩;rw[iW,zzr0 hne];refine ck ?_;refine⟨(by show 0<=aj;decide),fun g hg=>?_⟩;refine⟨_,rfl,t,rfl,⟨_,bp.of (kp ht hg)⟩,?_⟩
 let zI0:Nat->L2.St->Hp->Prop:=fun i σ H'=>∃x4:Option V,σ=[some (.ref x),some (.ref t),some (.ref s),some (.ref g),x4]/\H' g=some (.lst ((bZ ds sg (J6.take i)).map V.str))/\ac H H'
 refine rQ (xs:=J6.map V.str) zI0
  ⟨_,rfl,aa,ac.new hg⟩ (fun i σ H' _ zq=>by obtain⟨_,_,_,S⟩:=zq;exact bp.of (S _ _ ht)) ?_ ?_
 ·rintro i y σ H1 hi ⟨x4,rfl,hg1,S1⟩;obtain⟨r,hr,rfl⟩:=br hi;have M1:=M.same S1;obtain⟨dx,fs,o1,o2,o3,o4,lv,qu,sgA,sl,ts,lps,gps,sps,g1,a1,a2,a3,a4,_⟩:=M1.at_;refine⟨_,rfl,.inl ⟨rfl,_,av.of hg1⟩,_,rfl,x,dx,fs,rfl,g1,a2,_,rfl,_,rfl,x,s,r,sg,J0,J1,J2,ds,rfl,M1,S1 _ _ hs,fun l H2 hl fr S2=>?_⟩;have hg2:=S2 _ _ hg1;have hlen:((bZ ds sg (J6.take i)).map V.str).length+((aX ds (r,sg)).map V.str).length<=aj:=by
   rw[af,af];have h1:=kO ds sg (J6.take i);have h2:=mv ds (r,sg);have h3:(J6.take i).length * ds.length<=1000 * 1000:=Nat.mul_le_mul (by rw[aT];omega) z4;have:(1001000:Nat)<=aj:=by decide
   omega
  refine⟨g,l,_,_,rfl,rfl,hg2,hl,hlen,_,rfl,?_,?_⟩
  ·rw[aa,px hr,ar]
  ·intro b o q;rw[ai (ae q hg)];exact S2 _ _ (S1 _ _ q)
 ·rintro σ H1 ⟨x4,rfl,hg1,S1⟩;rw[af,aU]at hg1;refine⟨_,rfl,_,rfl,x,g,bZ ds sg J6,J0,J1,J2,ds,rfl,M.same S1,hg1,fun w hw=>?_,fun t' F H' h1 h2 S2=>k t' F H' h1 h2 (S1.trans S2)⟩;obtain⟨r,_,h⟩:=fE.mp hw;exact hdb _ h
def qN(K:Za)(sp_with_still:Sp)(C_Machine:Addr)(sp_Machine_rooms:Sp):TS :=
 bo (aG sp_with_still (bI V0 (w6 (rf K) (fy C_Machine "rooms" sp_Machine_rooms [] E0 V0 bA) (eP) (gg (tC (.int 1))))))
def sk:List Str:=["M"]
inductive cE(C:Addr)(vs:List V)(H:Hp)(Q:VK)(E:XK):Prop
 |mk (x:Addr) (J0 J1 J2:Zb) (ds:List ao):(vs=[.ref x])->(aZ C H x J0 J1 J2 ds)->(∀(t':Addr) (F:Zb) (H':Hp),H' t'=some (.tup ((J2.filter fun r=>decide (r∈F)).map V.str))->(∀w,w∈F↔fZ ds (J2.take 1) w)->ac H H'->Q (.ref t') H')->cE C vs H Q E
theorem pd{K:Za}{C:Addr}{vs:List V}{H:Hp}{Q:VK}{E:XK}(h:cE C vs H Q E):qN K (sp_with_still C) C (ix C) (bC Q) (start sk vs) H:=by
 obtain⟨x,J0,J1,J2,ds,rfl,M,k⟩:=h;obtain⟨dx,fs,o1,o2,o3,o4,lv,qu,sgA,sl,ts,lps,gps,sps,g1,a1,a2,a3,a4,_⟩:=M.at_;have c1:fW (J2.map V.str) none (some 1)=(J2.take 1).map V.str:=rS J2 1;refine⟨_,rfl,_,rfl,x,dx,fs,rfl,g1,a4,x,J0,J1,J2,ds,rfl,M,fun rl hrl=>⟨_,rfl,rl,_,rfl,av.of aa,fun l hl=>?_⟩⟩;rw[c1];have S:ac H (upd (upd H rl (.lst (J2.map V.str))) l (.lst ((J2.take 1).map V.str))):=(ac.new hrl).trans (ac.new hl);exact⟨x,l,J2.take 1,J0,J1,J2,ds,rfl,M.same S,aa,fun g hg=>ff hg,fun t' F H' h1 h2 S2=>k t' F H' h1 h2 (S.trans S2)⟩
theorem rR(o:Str)(L:Zb):decide (gj o∈L.map gj)=decide (o∈L):=by
 by_cases c:o∈L
 ·rw[zzr1 (m_.mpr c),zzr1 c]
 ·rw[zzr0 (fun z=>c (m_.mp z)),zzr0 c]
theorem bp.same{K:Za}{H H':Hp}{a:Addr}{xs:List V}(S:ac H H')(h:bp K H a xs):bp K H' a xs:=by
 rcases h with(h|⟨o,h⟩)|h
 ·exact .inl (.inl (S _ _ h))
 ·exact .inl (.inr ⟨o,S _ _ h⟩)
 ·exact .inr h
theorem av.same{K:Za}{H H':Hp}{a:Addr}{xs:List V}(S:ac H H')(h:av K H a xs):av K H' a xs:=by
 rcases h with(h|⟨o,h⟩)|h
 ·exact .inl (.inl (S _ _ h))
 ·exact .inl (.inr ⟨o,S _ _ h⟩)
 ·exact .inr h
mutual
theorem iM.same{K:Za}{H H':Hp}(S:ac H H'):∀{d:DT}{v:V},iM K H d v->iM K H' d v
 |.k a,v,h=>by unfold iM at h ⊢;exact h
 |.t l,v,h=>by
  unfold iM at h ⊢;obtain⟨b,xs,e,q,r⟩:=h;exact⟨b,xs,e,bp.same S q,DIns.same S r⟩
 |.s l,v,h=>by
  unfold iM at h ⊢;obtain⟨b,xs,e,q,r⟩:=h;exact⟨b,xs,e,av.same S q,DIns.same S r⟩
theorem DIns.same{K:Za}{H H':Hp}(S:ac H H'):∀{ds:List DT}{vs:List V},DIns K H ds vs->DIns K H' ds vs
 |[],vs,h=>by unfold DIns at h ⊢;exact h
 |d::ds,vs,h=>by
  unfold DIns at h ⊢;obtain⟨v,us,e,q,r⟩:=h;exact⟨v,us,e,iM.same S q,DIns.same S r⟩
end
open Classical in
def closF(J2:Zb)(ds:List ao)(gs:Zb):List Str:=J2.filter fun r=>decide (fZ ds gs r)
open Classical in
theorem kT{J2 F gs:Zb}{ds:List ao}(hF:∀w,w∈F↔fZ ds gs w):J2.filter (fun r=>decide (r∈F))=closF J2 ds gs:=by
 unfold closF;refine np fun r _=>?_;by_cases c:r∈F
 ·rw[zzr1 c,zzr1 ((hF r).mp c)]
 ·rw[zzr0 c,zzr0 fun z=>c ((hF r).mpr z)]
open Classical in
theorem tT{J2 gs gs':Zb}{ds:List ao}(h:∀g,g∈gs↔g∈gs'):closF J2 ds gs=closF J2 ds gs':=by
 have:∀r,fZ ds gs r↔fZ ds gs' r:=fun r=>⟨fun⟨g,hg,e⟩=>⟨g,(h g).mp hg,e⟩,fun⟨g,hg,e⟩=>⟨g,(h g).mpr hg,e⟩⟩;unfold closF;refine np fun r _=>?_;by_cases c:fZ ds gs r
 ·rw[zzr1 c,zzr1 ((this r).mp c)]
 ·rw[zzr0 c,zzr0 fun z=>c ((this r).mpr z)]
def behF(J2:Zb)(ds:List ao)(J6 sg:Zb):List Str:=if sg=aK then J6.filter (fun r=>decide (r∉df ds))else closF J2 ds (bZ ds sg J6)
theorem xP{J2:Zb}{ds:List ao}{fc:Zb}(hfc:∀r∈fc,r∈J2):(fc.filter fun r=>decide (r∈J2.filter (cF ds)))=fc.filter fun r=>decide (r∉df ds):=by
 refine np fun r hr=>?_;rw[<-oe];cases q:cF ds r with
 |true=>exact zzr1 (dh.mpr ⟨hfc r hr,q⟩)
 |false=>exact zzr0 (fun z=>by rw[(dh.mp z).2]at q;cases q)
inductive mZ(K:Za)(C:Addr)(vs:List V)(H:Hp)(Q:VK)(E:XK):Prop
 |mk (x t s:Addr) (J6 sg J0 J1 J2:Zb) (ds:List ao):(vs=[.ref x,.ref t,.ref s])->(aZ C H x J0 J1 J2 ds)->(H t=some (.tup (J6.map V.str)))->(bp K H s (sg.map V.str))->((sg=aK∨H s=some (.tup (sg.map V.str))))->((∀r∈J6,r∈J2))->(J6.length<=1000)->(∀(t':Addr) (H':Hp),H' t'=some (.tup ((behF J2 ds J6 sg).map V.str))->ac H H'->Q (.ref t') H')->mZ K C vs H Q E
theorem zm{K:Za}{C hu:Addr}(hhu:∀H,bp K H hu (aK.map V.str)){vs:List V}{H:Hp}{Q:VK}{E:XK}(h:mZ K C vs H Q E):
  jd K (sp_with_still C) C (gM C) hu (eV C) (bC Q) (start jg vs) H:=by
 obtain⟨x,t,s,J6,sg,J0,J1,J2,ds,rfl,M,ht,hs,hor,hsub,hz,k⟩:=h;by_cases hh:sg=aK;rotate_left
 ·refine rc (E:=E) hhu ⟨x,t,s,J6,sg,J0,J1,J2,ds,rfl,M,ht,hor.resolve_left hh,hh,hz,fun t' F H' h1 hF S=>k t' H' ?_ S⟩;rw[h1,kT hF];unfold behF;rw[if_neg hh]
 subst hh;refine⟨_,rfl,dg aK,dg aK,aV hs,aV (hhu _),by rw[bH];decide,by rw[bH];decide,_,rfl,?_⟩;rw[zzr1 rfl];refine c9 ?_;refine⟨_,rfl,t,rfl,⟨_,bp.of ht⟩,fun f hf=>?_⟩
 let zI0:Nat->List V->Hp->Prop:=fun i vs H'=>vs=((J6.take i).filter fun r=>decide (r∈J2.filter (cF ds))).map V.str/\ac H H'/\H' f=some (.lst vs)
 refine oE (xs:=J6.map V.str) zI0 ⟨rfl,ac.new hf,aa⟩ (fun i vs H' _ zq=>by obtain⟨_,S,h'⟩:=zq;exact⟨h',bp.of (S _ _ ht)⟩) ?_ ?_
 ·rintro vs H' ⟨rfl,S,f'⟩;rw[af,aU]at f';refine⟨f,_,rfl,.inl ⟨av.of f',fun t' ht'=>k t' _ ?_ (S.trans (ac.new ht'))⟩⟩;rw[aa,xP hsub];unfold behF;rw[if_pos rfl]
 ·rintro i vs H' x' hx' hi ⟨rfl,S,f'⟩;obtain⟨r,hr,rfl⟩:=br hx';have M':=M.same S;obtain⟨dx,fs,o1,o2,o3,o4,lv,qu,sgA,sl,ts,lps,gps,sps,g1,a1,_⟩:=M'.at_;refine gN ?_;refine⟨_,rfl,x,dx,fs,rfl,g1,a1,_,rfl,x,r,J0,J1,J2,ds,rfl,M',_,rfl,?_⟩;have hlen:(((J6.take i).filter fun r=>decide (r∈J2.filter (cF ds))).map V.str).length<aj:=by
   rw[af];refine am (aO (b_ _ _) ?_);rw[aT];omega
  refine iE (fun hq=>?_) (fun hq=>?_)
  ·refine⟨_,rfl,f',hlen,je hi ⟨?_,?_,aa⟩⟩
   ·rw[bv hr,if_pos hq,ar];rfl
   ·intro b o q;rw[ai (ae q hf)];exact S _ _ q
  ·refine je hi ⟨?_,S,f'⟩;rw[bv hr,if_neg hq,cR]
theorem wq{J0 J1 J2:Zb}{dr:ao}(g:yT J0 J1 J2 dr):∃s0 rest,dr.sg=s0::rest/\(!decide (V.str s0=V.str ("ask":Str)))=!iF dr:=by
 obtain⟨s0,rest,hsg⟩:∃s0 rest,dr.sg=s0::rest:=by
  rcases g.sg with⟨w,_,e⟩|⟨w,_,e⟩|e<;>exact⟨_,_,e⟩
 refine⟨s0,rest,hsg,?_⟩;unfold iF;rw[hsg];congr 1;show _=decide (s0=("ask":Str));by_cases c:s0=("ask":Str)
 ·rw[zzr1 c,zzr1 (by rw[c])]
 ·rw[zzr0 c,zzr0 (fun z=>c (by injection z))]
inductive n5(K:Za)(vs:List V)(H:Hp)(Q:VK)(E:XK):Prop
 |mk (t ft s l1 l2 l3 l4:Addr) (ts:Ze) (J0 J1 J2 J6 sg:Zb) (ds:List ao):(vs=[.ref t,.ref ft,.ref s])->(iJ H t l1 l2 l3 l4 ts J0 J1 J2 ds)->(bR J0 J1 J2 ds)->(H ft=some (.tup (J6.map V.str)))->(bp K H s (sg.map V.str))->(J6.length<=1000)->(∀(t':Addr) (H':Hp),H' t'=some (.tup ((behF J2 ds J6 sg).map V.str))->ac H H'->Q (.ref t') H')->n5 K vs H Q E
abbrev eI(H:Hp)(us:Ze)(L:List (List Str)):Prop:=Paired (SignAt H) us L
theorem eI.kt{H H':Hp}{us:Ze}{L:List (List Str)}(k:k3 H H')(h:eI H us L):eI H' us L:=Paired.mapP h fun _ _ r=>k _ _ r
theorem eI.dIns{K:Za}{H:Hp}:∀{us:Ze}{L:List (List Str)},eI H us L->DIns K H (L.map dg) (us.map V.ref)
 |_,_,.nil=>by show DIns K H [] [];unfold DIns;rfl
 |_,_,.cons r t=>by
  rw[aY,aY];unfold DIns;exact⟨_,_,rfl,aV (bp.of r),eI.dIns t⟩
theorem eG(L:List (List Str)):DT.depths (L.map dg)<=1:=by
 induction L with
 |nil=>exact cM _
 |cons x xs ih=>rw[aY];show max (DT.depth (dg x)) (DT.depths _)<=1;rw[bH];omega
def bL(J0 J1:Zb):List (List Str):=J0.map tX++J1.map cT++[aK]
inductive gL (vs:List V)(H:Hp)(Q:VK)(E:XK):Prop
 |mk (t l1 l2 l3 l4:Addr) (ts:Ze) (J0 J1 J2:Zb) (ds:List ao):(vs=[.ref t])->(iJ H t l1 l2 l3 l4 ts J0 J1 J2 ds)->(bR J0 J1 J2 ds)->(∀(l:Addr) (us:Ze) (H':Hp),H' l=some (.lst (us.map V.ref))->eI H' us (bL J0 J1)->H l=none->ac H H'->Q (.ref l) H')->gL  vs H Q E
theorem g0{K:Za}{σ:L2.St}{H:Hp}{a l:Addr}{ws:Zb}{kd:Str}{Q:Hp->Prop}(ha:H a=some (.lst (ws.map V.str)))(hz:ws.length<=1000)(hl:H l=none)
  (k:∀(us:Ze) (H':Hp),H' l=some (.lst (us.map V.ref))->eI H' us (ws.map fun w=>[kd,w])->ac H H'->Q H') :
  fe 1 [] σ (yY K a) U0 i0 (cS (bI (tC (.str kd)) V0)) H l Q:=by
 let zI0:Nat->List V->Hp->Prop:=fun i vs H'=>∃us:List Addr,vs=us.map V.ref/\ac H H'/\H' l=some (.lst vs)/\eI H' us ((ws.take i).map fun w=>[kd,w])
 refine bB (xs:=ws.map V.str) zI0 ⟨[],rfl,ac.new hl,aa,.nil⟩ (fun i vs H' _ zq=>by obtain⟨_,_,S,h',_⟩:=zq;exact⟨h',av.of (S _ _ ha)⟩) ?_ ?_
 ·rintro vs H' ⟨us,rfl,S,h',hP⟩;rw[af,aU]at hP;exact k us H' h' hP S
 ·rintro i vs H' x' hx' hi ⟨us,rfl,S,f',hP⟩;obtain⟨w,hw,rfl⟩:=br hx';refine gN (sH ?_);refine⟨_,rfl,(by show 2<=aj;decide),fun u hu=>⟨kp f' hu,?_,je hi ⟨us++[u],by rw[ar];rfl,?_,aa,?_⟩⟩⟩
  ·rw[af,Paired.length hP,af,aT];exact am (by omega)
  ·intro b o q;rw[ai (ae q hl)];exact kp (S _ _ q) hu
  ·rw[take_snoc hw,ar];have hk:k3 H' (upd (upd H' u (.tup [.str kd,.str w])) l (.lst (us.map V.ref++[.ref u]))):=(ac.kt (ac.new hu)).trans (dZ (kp f' hu));exact dW (eI.kt hk hP) ((dZ (kp f' hu)) _ _ aa)
theorem u6(xs:List V)(k:Nat):fW xs (some (k:Int)) none=xs.drop k:=by
 unfold fW;rw[HT.sIx_none,HT.sIx_nat,qh (by rw[fj];omega)];by_cases h:k<=xs.length
 ·rw[Nat.min_eq_left h]
 ·rw[Nat.min_eq_right (by omega),lf (by simp),lf (by omega)]
theorem Paired.dropP{α β:Type}{R:α->β->Prop}:∀(n:Nat) {xs:List α}{ys:List β},Paired R xs ys->Paired R (xs.drop n) (ys.drop n)
 |0,_,_,h=>h
 |_+1,_,_,.nil=>.nil
 |n+1,_,_,.cons r t=>Paired.dropP n t
def uk(K:Za)(C_Machine:Addr)(sp_Machine_doors_from:Sp):TS :=
 aq (aM (nX) U2)
 (aq (dX (wJ K V1) U3 (dX (bE K (fy C_Machine "doors_from" sp_Machine_doors_from [] E0 V0 (au V3))) U4 (kD V2 (aF (rg K) V4 (tC (.int 1))) (tC (.bl true)))))
 (bo V2))
def vf:List Str:=["M","face","signs","room","door"]
def ul(K:Za)(C_Machine:Addr)(sp_Machine_is_quiet:Sp)(a_HUSH:Addr)(sp_Machine_says:Sp)(sp_signs_at:Sp):TS :=
 aq (aM (aG sp_signs_at (bI V0 V1)) U2)
 (aq (aM (bW 1 [2] (bE K (fy C_Machine "says" sp_Machine_says [] E0 V0 bA)) U0 (tB (uC K (cS (bI (tC (.str "say")) V0)) V1)) (cS (bI (tC (.str "say")) V0))) U3)
 (aq (ef (tB (eh (rAny K) (au (bW 1 [0] (wJ K V1) U0 (i0) (fy C_Machine "is_quiet" sp_Machine_is_quiet [] E0 V1 (au V0)))))) (cB (sX K "list" cJ V3 (au (tC (.ref a_HUSH))))) (ci))
 (bo V3)))
def vg:List Str:=["M","face","signs","coming"]
def nS(K:Za):TS :=
 bo (eh (bO K) (au (nT K V0 "own_asks")))
def oR:List Str:=["self"]
def nR(K:Za):TS :=
 bo (eh (bO K) (au (nT K V0 "own_says")))
def oQ:List Str:=["self"]
def iw(K:Za):TS :=
 bo (eh (bO K) (au (nZ K (nT K V0 "leaving") V1 (cS (bA)))))
def iK:List Str:=["self","room"]
def lB(K:Za)(C_Machine:Addr)(sp_Machine_asks:Sp)(sp_Machine_says:Sp)(a_HUSH:Addr):TS :=
 bo (aF rh (aF rh (bW 1 [] (bE K (fy C_Machine "asks" sp_Machine_asks [] E0 V0 bA)) U0 (i0) (cS (bI (tC (.str "ask")) V0))) (bW 1 [] (bE K (fy C_Machine "says" sp_Machine_says [] E0 V0 bA)) U0 (i0) (cS (bI (tC (.str "say")) V0)))) (dS (au (tC (.ref a_HUSH)))))
def lV:List Str:=["M"]

theorem iy{C x:Addr}{H:Hp}{J0 J1 J2:Zb}{ds:List ao}(h:aZ C H x J0 J1 J2 ds):∃(dx:Addr) (fs:List (Str×V)) (o1 o2 lv:Addr) (lps:List (Str×Addr)),H x=some (.ins C dx fs)/\lk "asks" fs=none/\lk "says" fs=none/\lk "doors_from" fs=none/\lk "is_quiet" fs=none/\lk "own_asks" fs=some (.ref o1)/\lk "own_says" fs=some (.ref o2)/\lk "leaving" fs=some (.ref lv) /\
  H o1=some (.lst (J0.map V.str))/\H o2=some (.lst (J1.map V.str))/\lps.map (·.1)=J2/\H lv=some (.dK (cD Sum.inr lps))/\(∀x∈lps,∃us,H x.2=some (.lst (us.map V.ref))/\cY H us (aS ds x.1)):=by
 obtain⟨dx,fs,o1,o2,o3,o4,lv,qu,sg,sl,ts,lps,gps,sps,g1,a1,a2,a3,a4,b1,b2,b3,b4,b5,b6,b7,b8,L,c1,c2,c3,c4,G,d1,d2,d3⟩:=h.at_;obtain⟨dx',fs',g1',e1,e2,e3,e4⟩:=h.more;rw[g1]at g1';cases g1';exact⟨dx,fs,o1,o2,lv,lps,g1,e1,e2,e4,a1,b1,b2,b5,L.a1,L.a2,c1,c2,c3⟩
inductive m5(C:Addr)(vs:List V)(H:Hp)(Q:VK)(E:XK):Prop
 |mk (x:Addr) (J0 J1 J2:Zb) (ds:List ao):(vs=[.ref x])->(aZ C H x J0 J1 J2 ds)->(∀l,H l=none->Q (.ref l) (upd H l (.lst (J0.map V.str))))->m5 C vs H Q E
theorem zt{K:Za}{C:Addr}(M:MC K C){vs:List V}{H:Hp}{Q:VK}{E:XK}(h:m5 C vs H Q E):nS K (bC Q) (start oR vs) H:=by
 obtain⟨x,J0,J1,J2,ds,rfl,h,k⟩:=h;obtain⟨dx,fs,o1,o2,lv,lps,g1,a1,a2,a3,a4,b1,b2,b3,c1,c2,_⟩:=iy h;exact⟨_,rfl,x,C,dx,fs,.ref o1,rfl,g1,M.cls,M.a1,b1,.inl ⟨o1,_,rfl,.inl (av.of c1),k⟩⟩
inductive j_(C:Addr)(vs:List V)(H:Hp)(Q:VK)(E:XK):Prop
 |mk (x:Addr) (J0 J1 J2:Zb) (ds:List ao):(vs=[.ref x])->(aZ C H x J0 J1 J2 ds)->(∀l,H l=none->Q (.ref l) (upd H l (.lst (J1.map V.str))))->j_ C vs H Q E
theorem zg{K:Za}{C:Addr}(M:MC K C){vs:List V}{H:Hp}{Q:VK}{E:XK}(h:j_ C vs H Q E):nR K (bC Q) (start oQ vs) H:=by
 obtain⟨x,J0,J1,J2,ds,rfl,h,k⟩:=h;obtain⟨dx,fs,o1,o2,lv,lps,g1,a1,a2,a3,a4,b1,b2,b3,c1,c2,_⟩:=iy h;exact⟨_,rfl,x,C,dx,fs,.ref o2,rfl,g1,M.cls,M.a2,b2,.inl ⟨o2,_,rfl,.inl (av.of c2),k⟩⟩
inductive eS(C:Addr)(vs:List V)(H:Hp)(Q:VK)(E:XK):Prop
 |mk (x:Addr) (r:Str) (J0 J1 J2:Zb) (ds:List ao):(vs=[.ref x,.str r])->(aZ C H x J0 J1 J2 ds)->(r∈J2)->(∀(l:Addr) (us:Ze) (H':Hp),H' l=some (.lst (us.map V.ref))->cY H' us (aS ds r)->H l=none->ac H H'->Q (.ref l) H')->eS C vs H Q E
theorem pi{K:Za}{C:Addr}(M:MC K C){vs:List V}{H:Hp}{Q:VK}{E:XK}(h:eS C vs H Q E):iw K (bC Q) (start iK vs) H:=by
 obtain⟨x,r,J0,J1,J2,ds,rfl,h,hr,k⟩:=h;obtain⟨dx,fs,o1,o2,lv,lps,g1,a1,a2,a3,a4,b1,b2,b3,c1,c2,c3,c4,c5⟩:=iy h;have nod:=h.ok.okR.1;obtain⟨⟨r',a⟩,hra,er⟩:=aJ.mp (show r∈lps.map (·.1) by rw[c3];exact hr);obtain rfl:r'=r:=er;obtain⟨us,e1,e2⟩:=c5 _ hra;refine⟨_,rfl,x,C,dx,fs,.ref lv,rfl,g1,M.cls,M.a5,b3,lv,rfl,.inl ⟨_,.inl c4⟩,_,rfl,(by show 0<=aj;decide),fun et het=>⟨_,.inl ⟨_,.inr r',.inl (kp c4 het),rfl,rfl⟩,?_⟩⟩;rw[cL fF (by rw[c3];exact nod) hra];have S1:ac H (upd H et (.tup [])):=ac.new het;refine .inl ⟨a,_,rfl,.inl (av.of (S1 _ _ e1)),fun l hl=>k l us _ aa ?_ (S1.free hl) (S1.trans (ac.new hl))⟩;exact e2.kt (ac.kt (S1.trans (ac.new hl)))
def zd(ds:List ao)(J6:Zb)(sg:Zb):Bool:=ds.any fun d=>decide (d.a∈J6) && decide (d.sg=sg)
theorem kB{ds:List ao}{J6 sg:Zb}:zd ds J6 sg=true↔∃d∈ds,d.a∈J6/\d.sg=sg:=by
 unfold zd;rw[nn];constructor
 ·rintro⟨d,hd,h⟩;rw[qC]at h;exact⟨d,hd,of_decide_eq_true h.1,of_decide_eq_true h.2⟩
 ·rintro⟨d,hd,h1,h2⟩;exact⟨d,hd,by rw[zzr1 h1,zzr1 h2];rfl⟩
inductive sp_signs_at(C:Addr)(vs:List V)(H:Hp)(Q:VK)(E:XK):Prop
 |mk (x ft:Addr) (J6 J0 J1 J2:Zb) (ds:List ao):(vs=[.ref x,.ref ft])->(aZ C H x J0 J1 J2 ds)->(H ft=some (.tup (J6.map V.str)))->((∀r∈J6,r∈J2))->(J6.length<=1000)->(∀(d:Addr) (kvs:List (TK×V)) (H':Hp),H' d=some (.dT kvs)->(∀sg,(bV kvs (jU sg)).isSome=zd ds J6 sg)->H d=none->ac H H'->Q (.ref d) H')->sp_signs_at C vs H Q E
theorem tf{K:Za}{C:Addr}{vs:List V}{H:Hp}{Q:VK}{E:XK}(h:sp_signs_at C vs H Q E):uk K C (eS C) (bC Q) (start vf vs) H:=by
 obtain⟨x,ft,J6,J0,J1,J2,ds,rfl,M,hft,hsub,hz,k⟩:=h;have z4:=M.ok.few;refine fun d hd=>?_;refine⟨_,rfl,ft,rfl,⟨_,bp.of (kp hft hd)⟩,?_⟩;refine rQ (xs:=J6.map V.str) (fun i σ H'=>Aq fun(kvs:List (TK×V)) (x3 x4:Option V)=>AW (σ=[some (.ref x),some (.ref ft),some (.ref d),x3,x4]) (H' d=some (.dT kvs)) (ac H H') (kvs.length<=i * 1000) (∀sg,(bV kvs (jU sg)).isSome=zd ds (J6.take i) sg))
  ⟨[],_,_,rfl,aa,ac.new hd,by simp,fun sg=>?_⟩ (fun i σ H' _ zq=>by obtain⟨_,_,_,_,_,S,_,_⟩:=zq;exact bp.of (S _ _ hft)) ?_ ?_
 ·have:zd ds (J6.take 0) sg=false:=by
   rw[Bool.eq_false_iff];intro z;obtain⟨_,_,h,_⟩:=kB.mp z;simp at h
  rw[this];rfl
 ·rintro i y σ H1 hi ⟨kvs,x3,x4,rfl,hd1,S1,hl1,hv1⟩;obtain⟨r,hr,rfl⟩:=br hi;have hi':i<J6.length:=(bN.mp hr).1;have M1:=M.same S1;obtain⟨dx,fs,o1,o2,lv,lps,g1,a1,a2,a3,a4,_⟩:=iy M1;refine⟨_,rfl,x,dx,fs,rfl,g1,a3,_,rfl,x,r,J0,J1,J2,ds,rfl,M1,hsub r (dJ hr),fun l us H2 hl hus fr S2=>⟨l,rfl,⟨_,av.of hl⟩,?_⟩⟩;have ld:l≠d:=fun z=>by rw[z,hd1]at fr;cases fr
  have hlen:(aS ds r).length<=1000:=by
   unfold aS;exact aO (b_ _ _) z4
  refine bP (xs:=us.map V.ref) (fun j σ H'=>yX fun(kvs':List (TK×V)) (x4:Option V)=>NA7 (σ=[some (.ref x),some (.ref ft),some (.ref d),some (.str r),x4]) (H' d=some (.dT kvs')) (H' l=some (.lst (us.map V.ref))) (k3 H2 H') (ac H H') (kvs'.length<=i * 1000+j) (∀sg,(bV kvs' (jU sg)).isSome=(zd ds (J6.take i) sg || ((aS ds r).take j).any fun e=>decide (e.sg=sg))))
   ⟨kvs,_,rfl,S2 _ _ hd1,hl,fun _ _ h=>h,S1.trans S2,by omega,fun sg=>by rw[hv1];simp⟩ (fun j σ H' _ zq=>by obtain⟨_,_,_,_,h,_,_,_,_⟩:=zq;exact av.of h) ?_ ?_
  ·rintro j y σ H3 hj ⟨kvs',x4',rfl,hd3,hl3,kt3,S3,hl3',hv3⟩;obtain⟨u,hu,rfl⟩:=bz hj;obtain⟨dr,hdr,hat⟩:=Paired.getL hus hu;obtain⟨s,ht2,hs2⟩:=hat.kt kt3;have hj':j<(aS ds r).length:=(bN.mp hdr).1;refine⟨_,rfl,_,rfl,.inr (.inl ⟨u,_,1,_,rfl,rfl,bp.of ht2,rfl,d,_,rfl,.inr ⟨kvs',jU dr.sg,s,hd3,rfl,SignAt.tk hs2,by rw[gJ];decide,?_,rfl⟩,_,_,rfl,aa,?_,?_,?_,?_,fun sg=>?_⟩)⟩
   ·have:i * 1000<=1000 * 1000:=Nat.mul_le_mul_right _ (by omega);have h2:(1001000:Nat)<aj:=by decide
    omega
   ·rw[ai ld];exact hl3
   ·intro b xs hb;have:=kt3 b xs hb;rw[ai (fun z=>by rw[z,hd3]at this;cases this)];exact this
   ·intro b o q;rw[ai (ae q hd)];exact S3 _ _ q
   ·have:=oh kvs' (jU dr.sg) (.bl true);omega
   ·rw[nM,take_snoc hdr,List.any_append];by_cases c:jU sg=jU dr.sg
    ·rw[if_pos c];have:dr.sg=sg:=(nc c).symm;simp[this]
    ·rw[if_neg c,hv3];have:decide (dr.sg=sg)=false:=zzr0 fun z=>c (by rw[z]);simp[this]
  ·rintro σ H3 ⟨kvs',x4',rfl,hd3,hl3,kt3,S3,hl3',hv3⟩;rw[af,Paired.length hus]at hl3';rw[af,Paired.length hus,aU]at hv3;refine⟨kvs',_,_,rfl,hd3,S3,by rw[Nat.succ_mul];omega,fun sg=>?_⟩;rw[hv3,pI,Bool.or_eq_true,kB,kB,nn,take_snoc hr];constructor
   ·rintro(⟨e,he,h1,h2⟩|⟨e,he,h2⟩)
    ·exact⟨e,he,cH _ h1,h2⟩
    ·unfold aS at he;obtain⟨he1,he2⟩:=dh.mp he;exact⟨e,he1,cN _ (by rw[of_decide_eq_true he2];simp),of_decide_eq_true h2⟩
   ·rintro⟨e,he,h1,h2⟩;rcases aR.mp h1 with h1|h1
    ·exact .inl ⟨e,he,h1,h2⟩
    ·have:e.a=r:=by simpa using h1
     exact .inr ⟨e,dh.mpr ⟨he,zzr1 this⟩,zzr1 h2⟩
 ·rintro σ H1 ⟨kvs,x3,x4,rfl,hd1,S1,hl1,hv1⟩;rw[af,aU]at hv1;exact⟨_,rfl,k d kvs H1 hd1 hv1 hd S1⟩
def p8(ds:List ao)(J6:Zb):Bool:=J6.any fun r=>decide (r∉df ds)
def ej(J1:Zb)(ds:List ao)(J6:Zb):List (List Str):=(J1.filter fun w=>zd ds J6 (cT w)).map cT++(if p8 ds J6=true then[aK]else[])
def AV(K:Za)(H:Hp)(l:Addr)(L:List (List Str)):Prop:=∃vs:List V,H l=some (.lst vs)/\DIns K H (L.map dg) vs
theorem DIns.app{K:Za}{H:Hp}:∀{a b:List DT}{xs ys:List V},DIns K H a xs->DIns K H b ys->DIns K H (a++b) (xs++ys)
 |[],b,xs,ys,h,g=>by unfold DIns at h;subst h;exact g
 |d::a,b,xs,ys,h,g=>by
  unfold DIns at h;obtain⟨v,us,rfl,q,r⟩:=h;rw[List.cons_append,List.cons_append];unfold DIns;exact⟨v,_,rfl,q,DIns.app r g⟩
inductive dQ(K:Za)(C:Addr)(vs:List V)(H:Hp)(Q:VK)(E:XK):Prop
 |mk (x ft:Addr) (J6 J0 J1 J2:Zb) (ds:List ao):(vs=[.ref x,.ref ft])->(aZ C H x J0 J1 J2 ds)->(H ft=some (.tup (J6.map V.str)))->((∀r∈J6,r∈J2))->(J6.length<=1000)->(∀(l:Addr) (H':Hp),AV K H' l (ej J1 ds J6)->H l=none->ac H H'->Q (.ref l) H')->dQ K C vs H Q E
theorem wU{J2:Zb}{ds:List ao}{J6:Zb}(hsub:∀r∈J6,r∈J2):(J6.map fun r=>decide (r∈J2.filter (cF ds))).any id=p8 ds J6:=by
 unfold p8;rw[List.any_map]
 induction J6 with
 |nil=>rfl
 |cons r J6 ih =>
  rw[iu,iu,ih fun y hy=>hsub y (dO _ hy)];congr 1;show decide (r∈J2.filter (cF ds))=_;rw[<-oe];cases q:cF ds r with
  |true=>exact zzr1 (dh.mpr ⟨hsub r cQ,q⟩)
  |false=>exact zzr0 (fun z=>by rw[(dh.mp z).2]at q;cases q)
theorem tj{K:Za}{C hu:Addr}(hhu:∀H,bp K H hu (aK.map V.str)){vs:List V}{H:Hp}{Q:VK}{E:XK}(h:dQ K C vs H Q E):ul K C (eV C) hu (j_ C) (sp_signs_at C) (bC Q) (start vg vs) H:=by
 obtain⟨x,ft,J6,J0,J1,J2,ds,rfl,M,hft,hsub,hz,k⟩:=h;have z2:=M.ok.says4;refine⟨_,rfl,_,rfl,x,ft,J6,J0,J1,J2,ds,rfl,M,hft,hsub,hz,fun d kvs H1 hd1 hv fr1 S1=>?_⟩;have M1:=M.same S1;obtain⟨dx,fs,o1,o2,lv,lps,g1,a1,a2,a3,a4,_⟩:=iy M1;refine⟨_,rfl,x,dx,fs,rfl,g1,a2,x,J0,J1,J2,ds,rfl,M1,fun sl hsl=>⟨sl,rfl,⟨_,av.of aa⟩,fun f hf=>?_⟩⟩;have S2:ac H1 (upd H1 sl (.lst (J1.map V.str))):=ac.new hsl;have sl2:upd H1 sl (.lst (J1.map V.str)) sl=some (.lst (J1.map V.str)):=aa;have hd2:=S2 _ _ hd1;generalize upd H1 sl (.lst (J1.map V.str))=H2 at S2 sl2 hd2 hf ⊢;refine bB (xs:=J1.map V.str) (fun i vs H'=>∃us:List Addr,vs=us.map V.ref/\ac H2 H'/\H' f=some (.lst vs)/\eI H' us (((J1.take i).filter fun w=>zd ds J6 (cT w)).map cT)) ⟨[],rfl,ac.new hf,aa,.nil⟩ (fun i vs H' _ zq=>by obtain⟨_,_,S,h',_⟩:=zq;exact⟨h',av.of (S _ _ sl2)⟩) ?_ ?_;rotate_left
 ·rintro i vs H' x' hx' hi ⟨us,rfl,S,f',hP⟩;obtain⟨w,hw,rfl⟩:=br hx';refine gN ?_;refine⟨_,rfl,(by show 2<=aj;decide),fun kt hkt=>⟨_,rfl,d,_,rfl,.inr ⟨kvs,jU (cT w),kt,.inl (kp (S _ _ hd2) hkt),rfl,fb.isIn 8 (by rw[gJ];decide) (SignAt.tk (sg:=cT w) aa),by rw[gJ];decide,rfl⟩,_,rfl,?_⟩⟩;rw[hv];have S3:ac H' (upd H' kt (.tup [.str "say",.str w])):=ac.new hkt;generalize upd H' kt (.tup [.str "say",.str w])=H3 at S3 ⊢;have f3:=S3 _ _ f';have hP3:=eI.kt (ac.kt S3) hP;refine iE (fun hq=>?_) (fun hq=>?_)
  ·refine⟨_,rfl,(by show 2<=aj;decide),fun u hu'=>⟨kp f3 hu',?_,je hi ⟨us++[u],by rw[ar];rfl,?_,aa,?_⟩⟩⟩
   ·rw[af,Paired.length hP,af];refine am (aO (b_ _ _) ?_);rw[aT];omega
   ·intro b o q;rw[ai (ae q hf)];exact kp (S3 _ _ (S _ _ q)) hu'
   ·rw[bv hw,if_pos hq,ar];have hk:k3 H3 (upd (upd H3 u (.tup [.str "say",.str w])) f (.lst (us.map V.ref++[.ref u]))):=(ac.kt (ac.new hu')).trans (dZ (kp f3 hu'));exact dW (eI.kt hk hP3) ((dZ (kp f3 hu')) _ _ aa)
  ·refine je hi ⟨us,rfl,S.trans S3,f3,?_⟩;rw[bv hw,if_neg hq,cR];exact hP3
 rintro vs H3 ⟨us,rfl,S3,f3,hP⟩;rw[af,aU]at hP;have S13:=S2.trans S3;have S03:=S1.trans S13;have hfH:H f=none:=(S1.trans S2).free hf;refine⟨_,rfl,ft,rfl,⟨_,bp.of (S03 _ _ hft)⟩,fun g hg=>?_⟩;refine oE (xs:=J6.map V.str) (fun i vs H'=>vs=((J6.take i).map fun r=>decide (r∈J2.filter (cF ds))).map V.bl/\ac H3 H'/\H' g=some (.lst vs)) ⟨rfl,ac.new hg,aa⟩ (fun i vs H' _ zq=>by obtain⟨_,S,h'⟩:=zq;exact⟨h',bp.of (S _ _ (S03 _ _ hft))⟩) ?_ ?_;rotate_left
 ·rintro i vs H' x' hx' hi ⟨rfl,S,g'⟩;obtain⟨r,hr,rfl⟩:=br hx';have M':=M.same (S03.trans S);obtain⟨dx,fs,o1,o2,lv,lps,g1,a1,a2,a3,a4,_⟩:=iy M';refine gN (sH ?_);refine⟨_,rfl,x,dx,fs,rfl,g1,a4,_,rfl,x,r,J0,J1,J2,ds,rfl,M',g',?_,je hi ⟨?_,?_,aa⟩⟩
  ·rw[af,af,aT];exact am (by omega)
  ·rw[take_snoc hr,ar,ar];rfl
  ·intro b o q;rw[ai (ae q hg)];exact S _ _ q
 rintro vs H4 ⟨rfl,S4,g4⟩;rw[af,aU]at g4;refine⟨g,_,rfl,av.of g4,_,rfl,?_⟩;rw[wU hsub];have f4:=S4 _ _ f3;have hP4:=eI.kt (ac.kt S4) hP;have S04:=S03.trans S4;refine iE (fun hq=>?_) (fun hq=>?_)
 ·refine⟨_,rfl,.inl ⟨rfl,_,av.of f4⟩,f,_,_,rfl,rfl,f4,?_,?_⟩
  ·rw[af,Paired.length hP,af];exact am (aO (b_ _ _) (by omega))
  refine⟨_,rfl,k f _ ⟨_,aa,?_⟩ hfH ?_⟩
  ·unfold ej;rw[if_pos hq,ar];have hk:k3 H4 (upd H4 f (.lst (us.map V.ref++[.ref hu]))):=dZ f4;refine DIns.app (eI.dIns (eI.kt hk hP4)) ?_;show DIns K _ [dg aK] [.ref hu];unfold DIns;refine⟨_,_,rfl,aV (hhu _),?_⟩;unfold DIns
   rfl
  ·intro b o q;rw[ai (ae q hfH)];exact S04 _ _ q
 ·refine⟨_,rfl,k f _ ⟨_,f4,?_⟩ hfH S04⟩;unfold ej;rw[if_neg hq,cR];exact eI.dIns hP4
open Classical in
theorem lQ{J2 gs:Zb}{ds:List ao}{r:Str}:r∈closF J2 ds gs↔r∈J2/\fZ ds gs r:=by
 unfold closF;rw[dh,decide_eq_true_iff]












def oY(K:Za)(sp_law_still_on:Sp):TS :=
 aq (aM V0 (rO K 4 (dq U3 (dq U4 (dq U5 (dq U6 (rP)))))))
 (aq (ef (bc (aF (ww K) V2 (cS (au (tC (.str "hush")))))) (aq (aM (bW 1 [] (bE K V6) U0 (bc (aF Bs (aF (iB K) (aF (iB K) V0 (tC (.int 1))) (tC (.int 0))) (tC (.str "ask")))) (aF (iB K) V0 (tC (.int 0)))) U7)
 (bo (eh (tt K) (au (bW 1 [7] (wJ K V1) U0 (bc (aF (lK K true) V0 V1)) V0))))) (ci))
 (aq (aM (aG sp_law_still_on (ay V6 (ay (bW 1 [1,2] (bE K V6) U0 (wn (bc (aF (lK K false) (aF (iB K) V0 (tC (.int 0))) V1)) (bc (aF (ww K) (aF (iB K) V0 (tC (.int 1))) V2))) (aF (iB K) V0 (tC (.int 2)))) bA))) U8)
 (bo (eh (tt K) (au (bW 1 [8] (bE K V5) U0 (bc (aF (lK K false) V0 V1)) V0))))))
def pE:List Str:=["told","face","sign","asks","says","rooms","doors","loud","there"]
def sN(K:Za)(sp_law_still_on:Sp):TS :=
 aq (aM (aG sp_law_still_on (ay (aF (rg K) V0 (tC (.int 3))) (ay (dS (au (aF (rg K) (aF (rg K) V0 (tC (.int 2))) (tC (.int 0))))) bA))) U1)
 (bo (eh (tt K) (ay (bW 1 [1] (bE K (aF (rg K) V0 (tC (.int 2)))) U0 (bc (aF (lK K false) V0 V1)) V0) bA)))
def t7:List Str:=["told","there"]
open Classical in
abbrev Sg:=List Str
structure FMs where
 fs:List (List Str)
 ss:List (List Sg)
abbrev FMst:=FMs×List (List (Sg×Nat))
def j9:List Str->List (List Str)
 |[]=>[[]]
 |r::rs=>(j9 rs).map (r::·)++j9 rs
theorem pU:∀rs:List Str,(j9 rs).length=2 ^ rs.length
 |[]=>rfl
 |r::rs=>by
  show((j9 rs).map (r::·)++j9 rs).length=2 ^ (rs.length+1);rw[aW,af,pU rs,Nat.pow_succ];omega
theorem pT(p:Str->Bool):∀rs:List Str,rs.filter p∈j9 rs
 |[]=>by show[]∈[[]];simp
 |r::rs=>by
  show(r::rs).filter p∈(j9 rs).map (r::·)++j9 rs;have ih:=pT p rs;rw[k4];split
  ·exact cH _ (fP ih)
  ·exact cN _ ih
def t9(J2 f:Zb):Prop:=∃p:Str->Bool,f=J2.filter p
theorem vW{J2 f sg:Zb}{ds:List ao}(h:t9 J2 f):t9 J2 (behF J2 ds f sg):=by
 classical
 unfold behF;split
 ·obtain⟨p,rfl⟩:=h;rw[List.filter_filter];exact⟨_,rfl⟩
 ·unfold closF;exact⟨_,rfl⟩
theorem wH{J2:Zb}{ds:List ao}{gs:Zb}:t9 J2 (closF J2 ds gs):=by
 classical
 unfold closF;exact⟨_,rfl⟩
theorem t9.sub{J2 f:Zb}(h:t9 J2 f):∀r∈f,r∈J2:=by
 obtain⟨p,rfl⟩:=h;exact fun r hr=>(dh.1 hr).1
theorem t9.len{J2 f:Zb}(h:t9 J2 f):f.length<=J2.length:=by
 obtain⟨p,rfl⟩:=h;exact b_ _ _
def SgA(hu:Addr)(H:Hp)(u:Addr)(sg:Zb):Prop:=H u=some (.tup (sg.map V.str))∨(u=hu/\sg=aK)
theorem y6{K:Za}{a:Addr}{xs:List V}(h:∀H,bp K H a xs)(H:Hp):cG K H a xs:=by
 rcases h (fun _=>none)with(h|⟨o,h⟩)|h
 ·cases h
 ·cases h
 ·exact .inr h
inductive qV(C hu:Addr)(vs:List V)(H:Hp)(Q:VK)(E:XK):Prop
 |mk (x:Addr) (J0 J1 J2:Zb) (ds:List ao):(vs=[.ref x])->(aZ C H x J0 J1 J2 ds)->(∀(l:Addr) (us:Ze) (H':Hp),H' l=some (.lst (us.map V.ref))->Paired (SgA hu H') us (bL J0 J1)->ac H H'->Q (.ref l) H')->qV C hu vs H Q E
theorem At{K:Za}{C hu:Addr}{vs:List V}{H:Hp}{Q:VK}{E:XK}(h:qV C hu vs H Q E):lB K C (m5 C) (j_ C) hu (bC Q) (start lV vs) H:=by
 obtain⟨x,J0,J1,J2,ds,rfl,M,k⟩:=h;have z1:=M.ok.asks4;have z2:=M.ok.says4;obtain⟨dx,fs,o1,o2,lv,lps,g1,a1,a2,_⟩:=iy M;refine⟨_,rfl,x,dx,fs,rfl,g1,a1,x,J0,J1,J2,ds,rfl,M,fun w1 hw1=>⟨w1,rfl,⟨_,av.of aa⟩,fun la hla=>?_⟩⟩;have S0:ac H (upd H w1 (.lst (J0.map V.str))):=ac.new hw1;refine g0 (kd:="ask") (ws:=J0) aa (by omega) hla fun ua H1 h1 hP1 S1=>?_;have M1:=M.same (S0.trans S1);obtain⟨dx,fs,o1,o2,lv,lps,g1,a1,a2,_⟩:=iy M1;refine⟨_,rfl,x,dx,fs,rfl,g1,a2,x,J0,J1,J2,ds,rfl,M1,fun w2 hw2=>⟨w2,rfl,⟨_,av.of aa⟩,fun ls hls=>?_⟩⟩;have S2:ac H1 (upd H1 w2 (.lst (J1.map V.str))):=ac.new hw2;refine g0 (kd:="say") (ws:=J1) aa (by omega) hls fun us H2 h2 hP2 S3=>?_;have S23:=S2.trans S3;have h12:=S23 _ _ h1;have hP12:=eI.kt (ac.kt S23) hP1;refine⟨la,ls,_,_,rfl,rfl,h12,h2,?_,fun c1 hc1=>?_⟩
 ·rw[af,af,Paired.length hP1,Paired.length hP2,af,af];exact dU (am (by omega))
 refine⟨(by show 1<=aj;decide),fun hl hhl=>?_⟩;refine⟨c1,hl,_,_,rfl,rfl,kp aa hhl,aa,?_,fun r hr=>?_⟩
 ·rw[aW,af,af,Paired.length hP1,Paired.length hP2,af,af];exact dU (am (by show _+1<=1000;omega))
 have S4:=((ac.new (o:=.lst (ua.map V.ref++us.map V.ref)) hc1).trans (ac.new (o:=.lst [.ref hu]) hhl)).trans (ac.new (o:=.lst (ua.map V.ref++us.map V.ref++[.ref hu])) hr);refine k r (ua++us++[hu]) _ ?_ ?_ (((S0.trans S1).trans S23).trans S4)
 ·rw[aa,ar,ar];rfl
 ·exact Paired.app (Paired.app (Paired.mapP (eI.kt (ac.kt S4) hP12) fun _ _ r=>.inl r) (Paired.mapP (eI.kt (ac.kt S4) hP2) fun _ _ r=>.inl r)) (.cons (.inr ⟨rfl,rfl⟩) .nil)
theorem y4{κ:Type}[DecidableEq κ]{kvs:List (κ×V)}{k:κ}(h:∀kv∈kvs,kv.1≠k):bV kvs k=none:=by
 unfold bV;rw[List.find?_eq_none.2 fun kv hkv=>by simpa using h kv hkv]
 rfl
theorem wO(sg:Zb):(jU sg).depth<=8:=by
 have:∀l:List Str,TK.depths (l.map mM)=0:=by
  intro l
  induction l with
  |nil=>rfl
  |cons a l ih=>show max (TK.depth (mM a)) (TK.depths _)=0;rw[ih];rfl
 show TK.depths (sg.map mM)+1<=8;rw[this];decide
theorem cG.kt{K:Za}{H H':Hp}{a:Addr}{xs:List V}(k:k3 H H')(h:cG K H a xs):cG K H' a xs:=h.keeps k
theorem cG.sq{K:Za}{H:Hp}{a:Addr}{xs:List V}(h:cG K H a xs):bp K H a xs:=h.imp .inl id
open Builtin.Int (intBits)
theorem tS{K:Za}{fi:List Nat}{σ:L2.St}{H:Hp}{a th l:Addr}{ws F:Zb}{Q:Hp->Prop}(e:cX 1 fi σ=[none,some (.ref th)])(ha:H a=some (.lst (ws.map V.str)))(hth:H th=some (.lst (F.map V.str)))(hz:ws.length<=1000)(hl:H l=none)
  (k:∀H',H' l=some (.lst ((ws.filter fun r=>decide (r∈F)).map V.str))->ac H H'->Q H') :
  fe 1 fi σ (yY K a) U0 (bc (aF (lK K false) V0 V1)) V0 H l Q:=by
 let zI0:Nat->List V->Hp->Prop:=fun i vs H'=>vs=((ws.take i).filter fun r=>decide (r∈F)).map V.str/\ac H H'/\H' l=some (.lst vs)
 refine bB (xs:=ws.map V.str) zI0 ⟨rfl,ac.new hl,aa⟩ (fun i vs H' _ zq=>by obtain⟨_,S,h'⟩:=zq;exact⟨h',av.of (S _ _ ha)⟩) ?_ ?_
 ·rintro vs H' ⟨rfl,S,f'⟩;rw[af,aU]at f';exact k H' f' S
 ·rintro i vs H' x' hx' hi ⟨rfl,S,f'⟩;obtain⟨r,hr,rfl⟩:=br hx';rw[e];refine gN ?_;refine⟨_,rfl,_,rfl,gj r,F.map gj,th,_,my r,rfl,.inl (av.of (S _ _ hth)),jD _,(by show 0<=8;decide),by rw[fV];decide,_,rfl,?_⟩;rw[if_neg fN,rR];have hlen:(((ws.take i).filter fun r=>decide (r∈F)).map V.str).length<aj:=by
   rw[af];refine am (aO (b_ _ _) ?_);rw[aT];omega
  refine iE (fun hq=>?_) (fun hq=>?_)
  ·refine⟨_,rfl,f',hlen,je hi ⟨?_,?_,aa⟩⟩
   ·rw[bv hr,if_pos hq,ar];rfl
   ·intro b o q;rw[ai (ae q hl)];exact S _ _ q
  ·refine je hi ⟨?_,S,f'⟩;rw[bv hr,if_neg hq,cR]
theorem zn{K:Za}{vs:List V}{H:Hp}{Q:VK}{E:XK}(h:n5 K vs H Q E):oY K (eU K) (bC Q) (start pE vs) H:=by
 obtain⟨t,ft,s,l1,l2,l3,l4,ts,J0,J1,J2,J6,sg,ds,rfl,T,m,hft,hs,hz,k⟩:=h;have z3:=m.rooms26;have z4:=m.few;refine⟨_,rfl,t,_,rfl,bp.of T.t,rfl,_,_,rfl,_,_,rfl,_,_,rfl,_,_,rfl,rfl,?_⟩;refine⟨_,rfl,(by show 1<=aj;decide),fun hh hhh=>⟨dg sg,dg aK,aV (bp.same (ac.new hhh) hs),aV (bp.of aa),by rw[bH];decide,by rw[bH];decide,_,rfl,?_⟩⟩;rw[iW];have Sn:ac H (upd H hh (.tup [.str "hush"])):=ac.new hhh;generalize upd H hh (.tup [.str "hush"])=H1 at Sn ⊢;have T1:=T.same Sn;have ft1:=Sn _ _ hft;have hs1:=bp.same Sn hs;by_cases c:sg=aK
 ·rw[zzr1 c];refine c9 ?_;refine⟨_,rfl,l4,rfl,⟨_,av.of T1.a4⟩,fun f hf=>?_⟩
  let zI1:Nat->List V->Hp->Prop:=fun i vs H'=>vs=(df (ds.take i)).map V.str/\ac H1 H'/\H' f=some (.lst vs)
  refine bB (xs:=ts.map V.ref) zI1 ⟨rfl,ac.new hf,aa⟩ (fun i vs H' _ zq=>by obtain⟨_,S,h'⟩:=zq;exact⟨h',av.of (S _ _ T1.a4)⟩) ?_ ?_;rotate_left
  ·rintro i vs H' x' hx' hi ⟨rfl,S,f'⟩;obtain⟨t',ht',rfl⟩:=bz hx';obtain⟨dr,hdr,hat⟩:=Paired.getL T1.ds ht';obtain⟨s',ht2,hs2⟩:=hat.kt (ac.kt S);obtain⟨s0,rest,hsg,ea⟩:=wq (m.good dr (dJ hdr));unfold SignAt at hs2;rw[hsg]at hs2;refine gN ?_;refine⟨_,rfl,t',_,1,_,rfl,rfl,bp.of ht2,rfl,s',_,0,.str s0,rfl,rfl,bp.of hs2,dz (j:=0) rfl,rfl,_,rfl,?_⟩;rw[ea];refine iE (fun hq=>?_) (fun hq=>?_)
   ·refine⟨_,rfl,t',_,0,_,rfl,rfl,bp.of ht2,rfl,f',?_,je hi ⟨?_,?_,aa⟩⟩
    ·rw[af];unfold df;rw[af];refine am (aO (b_ _ _) ?_);rw[aT];omega
    ·rw[pX hdr,if_pos hq,ar];rfl
    ·intro b o q;rw[ai (ae q hf)];exact S _ _ q
   ·refine je hi ⟨?_,S,f'⟩;rw[pX hdr,if_neg hq,cR]
  rintro vs H2 ⟨rfl,S2,f2⟩;rw[af,Paired.length T1.ds,aU]at f2;have ft2:=S2 _ _ ft1;refine⟨_,rfl,ft,rfl,⟨_,bp.of ft2⟩,fun g hg=>?_⟩
  let zI2:Nat->List V->Hp->Prop:=fun i vs H'=>vs=((J6.take i).filter fun r=>decide (r∉df ds)).map V.str/\ac H2 H'/\H' g=some (.lst vs)
  refine oE (xs:=J6.map V.str) zI2 ⟨rfl,ac.new hg,aa⟩ (fun i vs H' _ zq=>by obtain⟨_,S,h'⟩:=zq;exact⟨h',bp.of (S _ _ ft2)⟩) ?_ ?_
  ·rintro vs H' ⟨rfl,S,f'⟩;rw[af,aU]at f';refine⟨g,_,rfl,.inl ⟨av.of f',fun t' ht'=>k t' _ ?_ (((Sn.trans S2).trans S).trans (ac.new ht'))⟩⟩;rw[aa];unfold behF;rw[if_pos c]
  ·rintro i vs H' x' hx' hi ⟨rfl,S,f'⟩;obtain⟨r,hr,rfl⟩:=br hx';refine gN ?_;refine⟨_,rfl,_,rfl,gj r,(df ds).map gj,f,_,my r,rfl,.inl (av.of (S _ _ f2)),jD _,(by show 0<=8;decide),by rw[fV];decide,_,rfl,?_⟩;rw[if_pos rfl,rR];have ed:(!decide (r∈df ds))=decide (r∉df ds):=by simp
   rw[ed];have hlen:(((J6.take i).filter fun r=>decide (r∉df ds)).map V.str).length<aj:=by
    rw[af];refine am (aO (b_ _ _) ?_);rw[aT];omega
   refine iE (fun hq=>?_) (fun hq=>?_)
   ·refine⟨_,rfl,f',hlen,je hi ⟨?_,?_,aa⟩⟩
    ·rw[bv hr,if_pos hq,ar];rfl
    ·intro b o q;rw[ai (ae q hg)];exact S _ _ q
   ·refine je hi ⟨?_,S,f'⟩;rw[bv hr,if_neg hq,cR]
 ·rw[zzr0 c];refine ck ?_;refine⟨_,rfl,_,rfl,l4,rfl,⟨_,av.of T1.a4⟩,fun f hf=>?_⟩
  let zI3:Nat->List V->Hp->Prop:=fun i vs H'=>∃G:List Str,vs=G.map V.str/\ac H1 H'/\H' f=some (.lst vs)/\G.length<=i/\∀g,g∈G↔∃d∈ds.take i,d.a∈J6/\d.sg=sg/\d.b=g
  refine bB (xs:=ts.map V.ref) zI3
   ⟨[],rfl,ac.new hf,aa,az _,fun g=>⟨fun h=>(by cases h),fun⟨_,h,_⟩=>by simp at h⟩⟩ (fun i vs H' _ zq=>by obtain⟨_,_,S,h',_⟩:=zq;exact⟨h',av.of (S _ _ T1.a4)⟩) ?_ ?_
  rotate_left
  ·rintro i vs H' x' hx' hi ⟨G,rfl,S,f',hl,hG⟩;obtain⟨u,hu,rfl⟩:=bz hx';obtain⟨dr,hdr,hatd⟩:=Paired.getL T1.ds hu;obtain⟨sb,ht2,hs2⟩:=hatd.kt (ac.kt S);have hi':i<ds.length:=(bN.mp hdr).1;have hstep:∀g,(∃d∈ds.take (i+1),d.a∈J6/\d.sg=sg/\d.b=g)↔((∃d∈ds.take i,d.a∈J6/\d.sg=sg/\d.b=g)∨(dr.a∈J6/\dr.sg=sg/\dr.b=g)):=by
    intro g;rw[take_snoc hdr];simp only[aR,bM,or_and_right,exists_or,exists_eq_left]
   have keep:¬(dr.a∈J6/\dr.sg=sg)->∃m',m'<(ts.map V.ref).length-i/\Wc (ts.map V.ref).length (fun i vs H'=>∃G:List Str,vs=G.map V.str/\ac H1 H'/\H' f=some (.lst vs)/\G.length<=i/\∀g,g∈G↔∃d∈ds.take i,d.a∈J6/\d.sg=sg/\d.b=g) (i+1) m' (G.map V.str) H':=by
    intro z;refine je hi ⟨G,rfl,S,f',by omega,fun g=>?_⟩;rw[hstep,hG];exact⟨.inl,fun h=>h.elim id fun h=>absurd ⟨h.1,h.2.1⟩ z⟩
   refine gN ?_;refine⟨_,rfl,u,_,0,_,rfl,rfl,bp.of ht2,rfl,_,rfl,gj dr.a,J6.map gj,ft,_,my _,rfl,.inr (bp.of (S _ _ ft1)),jD _,(by show 0<=8;decide),by rw[fV];decide,_,rfl,?_⟩;rw[if_neg fN,rR];by_cases c1:dr.a∈J6;rotate_left
   ·rw[zzr0 c1];exact ck (ck (keep fun z=>c1 z.1))
   rw[zzr1 c1];refine c9 ?_;refine⟨_,rfl,u,_,1,_,rfl,rfl,bp.of ht2,rfl,_,rfl,dg dr.sg,dg sg,aV (bp.of hs2),aV (bp.same S hs1),by rw[bH];decide,by rw[bH];decide,_,rfl,?_⟩;rw[iW];by_cases c2:dr.sg=sg;rotate_left
   ·rw[zzr0 c2];exact ck (keep fun z=>c2 z.2)
   rw[zzr1 c2];refine c9 ?_;refine⟨_,rfl,u,_,2,_,rfl,rfl,bp.of ht2,rfl,f',by rw[af];exact am (by omega),je hi ⟨G++[dr.b],by rw[ar];rfl,?_,aa,by rw[aW];show G.length+1<=i+1;omega,fun g=>?_⟩⟩
   ·intro b o q;rw[ai (ae q hf)];exact S _ _ q
   ·rw[hstep,<-hG,aR];simp only[bM];exact⟨fun h=>h.imp id fun h=>⟨c1,c2,h.symm⟩,fun h=>h.imp id fun h=>h.2.2.symm⟩
  rintro vs H2 ⟨G,rfl,S2,f2,hl,hG⟩;rw[af,Paired.length T.ds]at hl;rw[af,Paired.length T.ds,aU]at hG;have T2:=T1.same S2;refine⟨l4,f,ts,ds,G,J2,rfl,T2.a4,T2.ds,f2,fun d hd=>(m.good d hd).b,by omega,by omega,fun th F H3 hth hF hFl fr S3=>?_⟩;have T3:=T2.same S3;refine⟨_,rfl,l3,rfl,⟨_,av.of T3.a3⟩,fun g hg=>?_⟩;refine tS rfl T3.a3 hth (by omega) hg fun H4 h4 S4=>?_;refine⟨g,_,rfl,.inl ⟨av.of h4,fun t' ht'=>k t' _ ?_ ((((Sn.trans S2).trans S3).trans S4).trans (ac.new ht'))⟩⟩;rw[aa,kT hF];unfold behF;rw[if_neg c]
  suffices e0:closF J2 ds G=closF J2 ds (bZ ds sg J6) by rw[e0]
  refine tT fun g=>?_;rw[hG,fE];constructor
  ·rintro⟨⟨a,sgd,b⟩,hd,h1,h2,h3⟩;simp only at h1 h2 h3;subst h2 h3;exact⟨a,h1,hd⟩
  ·rintro⟨r,hr,h⟩;exact⟨_,h,hr,rfl,rfl⟩
inductive ko(vs:List V)(H:Hp)(Q:VK)(E:XK):Prop
 |mk (t l1 l2 l3 l4:Addr) (ts:Ze) (J0 J1 J2:Zb) (ds:List ao):(vs=[.ref t])->(iJ H t l1 l2 l3 l4 ts J0 J1 J2 ds)->(bR J0 J1 J2 ds)->(∀(t':Addr) (H':Hp),H' t'=some (.tup ((closF J2 ds (J2.take 1)).map V.str))->ac H H'->Q (.ref t') H')->ko vs H Q E
theorem xI{K:Za}{vs:List V}{H:Hp}{Q:VK}{E:XK}(h:ko vs H Q E):sN K (eU K) (bC Q) (start t7 vs) H:=by
 obtain⟨t,l1,l2,l3,l4,ts,J0,J1,J2,ds,rfl,T,m,k⟩:=h;have z3:=m.rooms26;obtain⟨r0,rs,e⟩:∃r0 rs,J2=r0::rs:=by
  cases e:J2 with
  |nil=>exact absurd e m.rooms0
  |cons a b=>exact⟨a,b,rfl⟩
 have at0:vc (J2.map V.str) 0=some (.str r0):=by rw[e];exact dz (j:=0) rfl
 have e1:J2.take 1=[r0]:=by rw[e];rfl
 refine⟨_,rfl,.inr (.inl ⟨t,_,3,_,rfl,rfl,bp.of T.t,rfl,_,rfl,.inr (.inl ⟨t,_,2,_,rfl,rfl,bp.of T.t,rfl,.inl ⟨l3,_,0,_,rfl,rfl,av.of T.a3,at0,(by show 1<=aj;decide),fun l hl=>?_⟩⟩)⟩)⟩;have S1:ac H (upd H l (.lst [.str r0])):=ac.new hl;have h1:upd H l (.lst [.str r0]) l=some (.lst ([r0].map V.str)):=aa;generalize upd H l (.lst [.str r0])=H1 at S1 h1 ⊢;have T1:=T.same S1;refine⟨l4,l,ts,ds,[r0],J2,rfl,T1.a4,T1.ds,h1,fun d hd=>(m.good d hd).b,by omega,by show 1<=1000;decide,fun th F H2 hth hF hFl fr S2=>?_⟩;have T2:=T1.same S2;refine⟨_,rfl,.inr (.inl ⟨t,_,2,_,rfl,rfl,bp.of T2.t,rfl,l3,rfl,⟨_,av.of T2.a3⟩,fun g hg=>?_⟩)⟩;refine tS rfl T2.a3 hth (by omega) hg fun H4 h4 S4=>?_;refine⟨g,_,rfl,.inl ⟨av.of h4,fun t' ht'=>k t' _ ?_ (((S1.trans S2).trans S4).trans (ac.new ht'))⟩⟩;rw[aa,kT hF,e1]

def sO(K:Za)(sp_as_keys:Sp):TS :=
 bo (eh (xL K) (ay (aG sp_as_keys (ay (bW 1 [] (bE K V0) U0 (bc (aF Ay (eh (gd K) (au V0)) (tC (.int 0)))) V0) bA)) bA))
def t8:List Str:=["faces"]
def nQ(K:Za)(cE:Sp):TS :=
 bo (dS (au (aG cE (au V0))))
def oP:List Str:=["M"]
def mE(K:Za)(sp_as_charge:Sp)(sp_face_behind:Sp):TS :=
 bo (aG sp_as_charge (au (bW 1 [0,2] (bE K V1) U0 (i0) (aG sp_face_behind (fB V1 V0 V2)))))
def mS:List Str:=["M","charge","sign"]
def xu(K:Za)(sp_as_charge:Sp)(sp_charge_behind:Sp)(a_HUSH:Addr):TS :=
 bo (aG sp_as_charge (ay (aF rh V1 (aG sp_charge_behind (fB V0 V1 (tC (.ref a_HUSH))))) bA))
def yR:List Str:=["M","charge"]
def wg(K:Za)(dQ:Sp)(sp_signs_in_order:Sp):TS :=
 aq (aM (bW 1 [] (bE K (aG sp_signs_in_order (au V0))) U0 (bc (aF Bs (aF (iB K) V0 (tC (.int 0))) (tC (.str "ask")))) V0) U2)
 (aq (dX (bE K V1) U3 (aq (aM (aG dQ (bI V0 V3)) U4)
 (aM (bW 1 [4] (bE K V2) U0 (bc (aF (lK K false) V0 V1)) V0) U2)))
 (bo V2))
def wX:List Str:=["M","charge","opened","face","coming"]
def oU(K:Za):TS :=
 aq (aM (aF rh (bW 1 [] (bE K (aF (iB K) V0 (tC (.int 0)))) U0 (i0) (cS (bI (tC (.str "ask")) V0))) (bW 1 [] (bE K (aF (iB K) V0 (tC (.int 1)))) U0 (i0) (cS (bI (tC (.str "say")) V0)))) U1)
 (bo (aF rh V1 (dS (au (cS (au (tC (.str "hush"))))))))
def pB:List Str:=["told","found"]
def oW(K:Za)(sp_law_signs:Sp)(sp_law_behind:Sp):TS :=
 aq (aM (dS (bA)) U2)
 (aq (dX (bE K (w6 (rf K) (aG sp_law_signs (au V0)) (gg (eh (gd K) (au (aF (iB K) V0 (tC (.int 0)))))) (eP))) U3 (ef (bc (aF (xN K) (bW 1 [0,3] (bE K V1) U0 (bc (aF (xN K) (aG sp_law_behind (fB V1 V0 V2)) (cS (bA)))) V0) (dS (bA)))) (cB (sX K "list" cJ V2 (au V3))) (ci)))
 (bo V2))
def pC:List Str:=["told","charge","found","sign"]
def ur(K:Za)(sp_law_behind:Sp):TS :=
 aq (aM (dS (bA)) U3)
 (aq (dX (bE K V1) U4 (aq (aM (aG sp_law_behind (fB V0 V4 V2)) U5)
 (ef (wn (bc (aF (n_ K) V5 (cS (bA)))) (bc (aF (lK K true) V5 V3))) (cB (sX K "list" cJ V3 (au V5))) (ci))))
 (bo (eh (re K) (au V3))))
def vj:List Str:=["told","charge","sign","found","face","behind"]
def qM(K:Za)(sp_law_next:Sp):TS :=
 aq (aM (eh (bO K) (au V1)) U2)
 (aq (dX (bE K (aG sp_law_next (fB V0 V1 (cS (au (tC (.str "hush"))))))) U3 (ef (bc (aF (lK K true) V3 V2)) (cB (sX K "list" cJ V2 (au V3))) (ci)))
 (bo (eh (re K) (au V2))))
def sh:List Str:=["told","charge","found","face"]
def y_(K:Za)(sp_law_take:Sp)(sp_law_next:Sp)(sp_charge_behind:Sp)(sp_law_signs:Sp)(sp_law_hushed:Sp)(sp_law_open_to:Sp)(sp_open_to:Sp)(sp_hushed:Sp)(sp_law_begin:Sp)(sp_first_charge:Sp)(sp_law_machine:Sp)(sp_law_model:Sp)(sp_law_open:Sp):TS :=
 aq (aM (aG sp_law_open (au V0)) U1)
 (aq (dX (mq (au (tC (.int 3)))) U2 (aq (aM (aG sp_law_model (ay V1 (ay (tC (.int 4)) (au (aG sp_law_take (bI V1 (tC (.int 2)))))))) U3)
 (aq (aM (aG sp_law_machine (au V3)) U4)
 (aq (aM (aG sp_first_charge (au V4)) U5)
 (aq (ef (bc (aF (n_ K) V5 (dS (au (aG sp_law_begin (au V3)))))) (bo (tC (.bl false))) (ci))
 (aq (cB (sX K "list" cJ V5 (au (cS (au (tC (.str "zz")))))))
 (aq (ef (bc (aF (n_ K) (aG sp_first_charge (au V4)) (dS (au (aG sp_law_begin (au V3)))))) (bo (tC (.bl false))) (ci))
 (aq (aM (dS (au (aG sp_law_begin (au V3)))) U6)
 (dX (mq (ay (aF cK (tC (.int 2)) (aG sp_law_take (bI V1 (tC (.int 7))))) bA)) U7 (aq (dX (mq (au (tC (.int 2)))) U8 (aq (aM (dS (ay (aG sp_hushed (bI V4 (eh (bO K) (au V6)))) (au (aG sp_open_to (bI V4 (eh (bO K) (au V6))))))) U9)
 (aq (ef (bc (aF (n_ K) V9 (dS (bI (aG sp_law_hushed (ay V3 (au V6))) (aG sp_law_open_to (ay V3 (au V6))))))) (bo (tC (.bl false))) (ci))
 (aq (cB (sX K "list" cJ (aF (dk K) V9 (tC (.int 0))) (au (cS (au (tC (.str "zz")))))))
 (cB (sX K "list" cJ (aF (dk K) V9 (tC (.int 1))) (au (cS (bI (tC (.str "say")) (tC (.str "zz")))))))))))
 (aq (ef (bc (aF Az (aG sp_law_take (bI V1 (tC (.int 3)))) (tC (.int 0)))) (aM (aG sp_law_hushed (bI V3 V6)) U6) (ci))
 (aq (aM (aF (dk K) (aG sp_law_signs (au V3)) (aG sp_law_take (ay V1 (ay (aF cK (aF cK (eh (gd K) (au (aF (iB K) V3 (tC (.int 0))))) (eh (gd K) (au (aF (iB K) V3 (tC (.int 1)))))) (tC (.int 1))) bA)))) Bu)
 (aq (ef (bc (aF (n_ K) (aG sp_charge_behind (fB V4 (eh (bO K) (au V6)) yP)) (aG sp_law_next (fB V3 V6 yP)))) (bo (tC (.bl false))) (ci))
 (aM (aG sp_law_next (fB V3 V6 yP)) U6))))))))))))))
 (bo (tC (.bl true))))
def wb:List Str:=["script","pen","turn","told","machine","charge","due","step","again","found","sign"]
def xR:List Str:=["script"]
def yQ(L:List (List Str)):Prop:=L.Pairwise fun f g=>HT.lexT f g=true
theorem yQ.nd{L:List (List Str)}(h:yQ L):L.Nodup:=List.Pairwise.imp (fun{a b} h e=>by rw[e,HT.lexT_irr]at h;cases h) h
theorem yQ.uniq{L M:List (List Str)}(h:yQ L)(k:yQ M)(e:∀f,f∈L↔f∈M):L=M:=sZ ((List.perm_ext_iff_of_nodup h.nd k.nd).2 e) h k
def ud(K:Za)(H:Hp)(l:Addr)(L:List (List Str)):Prop:=∃us:List Addr,H l=some (.lst (us.map V.ref))/\Paired (fun u f=>cG K H u (f.map V.str)) us L
def mB(H:Hp)(l:Addr)(L:List (List Str)):Prop:=∃us:List Addr,H l=some (.lst (us.map V.ref))/\Paired (fun u (f:Zb)=>H u=some (.tup (f.map V.str))) us L
theorem mB.c{K:Za}{H:Hp}{l:Addr}{L:List (List Str)}(h:mB H l L):ud K H l L:=by
 obtain⟨us,h1,h2⟩:=h;exact⟨us,h1,Paired.mapP h2 fun _ _ r=>.inl r⟩
theorem mB.same{H H':Hp}{l:Addr}{L:List (List Str)}(S:ac H H')(h:mB H l L):mB H' l L:=by
 obtain⟨us,h1,h2⟩:=h;exact⟨us,S _ _ h1,Paired.mapP h2 fun _ _ r=>S _ _ r⟩
theorem ud.same{K:Za}{H H':Hp}{l:Addr}{L:List (List Str)}(S:ac H H')(h:ud K H l L):ud K H' l L:=by
 obtain⟨us,h1,h2⟩:=h;exact⟨us,S _ _ h1,Paired.mapP h2 fun _ _ r=>cG.kt (ac.kt S) r⟩
theorem eA{K:Za}{H:Hp}:∀{us:Ze}{L:List (List Str)},Paired (fun u f=>cG K H u (f.map V.str)) us L->DIns K H (L.map dg) (us.map V.ref)
 |_,_,.nil=>rfl
 |_,_,.cons h r=>⟨_,_,rfl,aV (cG.sq h),eA r⟩
theorem ud.dIn{K:Za}{H:Hp}{l:Addr}{L:List (List Str)}(h:ud K H l L):iM K H (.s (L.map dg)) (.ref l):=by
 obtain⟨us,h1,h2⟩:=h;exact⟨l,_,rfl,av.of h1,eA h2⟩
theorem fX(L:List (List Str)):(DT.s (L.map dg)).depth<=2:=Nat.succ_le_succ (eG L)
theorem wx{kvs:List (TK×V)}{ks:List (List Str)}{f:Zb}{v:V}(h:kvs.map da=ks.map jU)(nd:ks.Nodup):∃ks':List (List Str),(cU kvs (jU f) v).map da=ks'.map jU/\ks'.Nodup/\(∀g,g∈ks'↔g∈ks∨g=f)/\ks'.length<=ks.length+1:=by
 by_cases c:f∈ks
 ·refine⟨ks,?_,nd,fun g=>⟨.inl,fun z=>z.elim id fun e=>by rw[e];exact c⟩,vt _⟩;unfold cU;have an:(kvs.any fun kv=>decide (kv.1=jU f))=true:=by
   have:jU f∈kvs.map da:=by rw[h];exact fP c
   obtain⟨kv,hk,e⟩:=aJ.1 this;exact nn.2 ⟨kv,hk,zzr1 e⟩
  rw[if_pos an,gU,<-h];refine lg fun kv _=>?_;show(if kv.1=jU f then(kv.1,v)else kv).1=kv.1
  split<;>rfl
 ·refine⟨ks++[f],?_,?_,fun g=>by simp,by rw[aW];exact az _⟩
  ·rw[kG _ (y4 fun kv hk e=>?_),ar,ar,h]
   ·rfl
   ·have:kv.1∈kvs.map da:=fP hk;rw[h]at this;obtain⟨g,hg,eg⟩:=aJ.1 this;rw[e]at eg;exact c (by rw[<-nc eg];exact hg)
  ·exact cu.2 ⟨nd,by simp,fun x hx y hy e=>c (by rw[bM.1 hy]at e;rw[<-e];exact hx)⟩
def uu(K:Za):TS :=
 aq (aM (nX) U1)
 (aq (dX (bE K V0) U2 (xA K V1 V2 (tC (.bl true))))
 (bo V1))
def vm:List Str:=["things","keys","thing"]
inductive eW(K:Za)(vs:List V)(H:Hp)(Q:VK)(E:XK):Prop
 |mk (l:Addr) (L:List (List Str)):(vs=[.ref l])->(ud K H l L)->(L.length<=900)->(∀(d:Addr) (kvs:List (TK×V)) (ks:List (List Str)),H d=none->kvs.map da=ks.map jU->ks.Nodup->(∀g,g∈ks↔g∈L)->ks.length<=L.length->Q (.ref d) (upd H d (.dT kvs)))->eW K vs H Q E
theorem tq{K:Za}{vs:List V}{H:Hp}{Q:VK}{E:XK}(h:eW K vs H Q E):uu K (bC Q) (start vm vs) H:=by
 obtain⟨l,L,rfl,⟨us,hl,hu⟩,hz,k⟩:=h;refine fun d hd=>?_;have key:∀o,upd H d o l=some (.lst (us.map V.ref)):=fun o=>kp hl hd;refine⟨_,rfl,l,rfl,⟨_,av.of (key _)⟩,?_⟩
 let zI1:Nat->L2.St->Hp->Prop:=fun i σ H'=>Aq fun(x:Option V) (kvs:List (TK×V)) (ks:List (List Str))=>A0 (σ=[some (.ref l),some (.ref d),x]) (H'=upd H d (.dT kvs)) (kvs.map da=ks.map jU) (ks.Nodup) (∀g,g∈ks↔g∈L.take i) (ks.length<=i)
 refine bP (xs:=us.map V.ref) zI1 ⟨_,[],[],rfl,rfl,rfl,jn,fun g=>by simp,az _⟩ (fun i σ H' _ zq=>by obtain⟨_,_,_,_,e,_⟩:=zq;rw[e];exact av.of (key _)) ?_ ?_
 ·rintro i x σ H' hi ⟨y,kvs,ks,rfl,rfl,ek,nd,mem,len⟩;obtain⟨u,hu',rfl⟩:=bz hi;obtain⟨f,hf,hat⟩:=Paired.getL hu hu';have il:=(bN.1 hf).1;have lk:kvs.length=ks.length:=by have:=congrArg List.length ek;rw[af,af]at this;exact this
  obtain⟨ks',e1,e2,e3,e4⟩:=wx (v:=.bl true) (f:=f) ek nd;refine⟨_,rfl,_,rfl,d,u,_,jU f,rfl,rfl,aa,xr (cG.kt (ac.kt (ac.new hd)) hat),wO _,am (by omega),_,cU kvs (jU f) (.bl true),ks',rfl,by rw[j1],e1,e2,fun g=>?_,by omega⟩;rw[e3,mem,take_snoc hf,aR,bM]
 ·rintro σ H' ⟨x,kvs,ks,rfl,rfl,ek,nd,mem,len⟩;rw[af,Paired.length hu]at len;rw[af,Paired.length hu,aU]at mem;exact⟨_,rfl,k d kvs ks hd ek nd mem len⟩
theorem pL{P:Addr->List Str->Prop}:∀{zs:List (Addr×List Str)},(∀z∈zs,P z.1 z.2)->Paired P (zs.map da) (zs.map fg)
 |[],_=>.nil
 |z::zs,h=>.cons (h z cQ) (pL fun y hy=>h y (dO _ hy))
inductive kr(K:Za)(vs:List V)(H:Hp)(Q:VK)(E:XK):Prop
 |mk (l:Addr) (L:List (List Str)):(vs=[.ref l])->(ud K H l L)->(L.length<64)->(∀(p:Addr) (M:List (List Str)) (H':Hp),ud K H' p M->yQ M->(∀f,f∈M↔f∈L/\f≠[])->H p=none->ac H H'->Q (.ref p) H')->kr K vs H Q E
theorem zv{K:Za}{vs:List V}{H:Hp}{Q:VK}{E:XK}(h:kr K vs H Q E):sO K (eW K) (bC Q) (start t8 vs) H:=by
 obtain⟨l,L,rfl,⟨us,hl,hu⟩,hz,k⟩:=h;have lu:=Paired.length hu;refine⟨_,rfl,l,rfl,⟨_,av.of hl⟩,fun cl hcl=>?_⟩
 let zC:Nat->List V->Hp->Prop:=fun i vs H'=>yX fun(ws:Ze) (M:List (List Str))=>A0 (vs=ws.map V.ref) (ac H H') (H' cl=some (.lst vs)) (Paired (fun u f=>cG K H u (f.map V.str)) ws M) (∀f,f∈M↔f∈L.take i/\f≠[]) (M.length<=i)
 refine bB (xs:=us.map V.ref) zC ⟨[],[],rfl,ac.new hcl,aa,.nil,fun f=>by simp,az _⟩ (fun i vs H' _ zq=>by obtain⟨_,_,_,S,h',_⟩:=zq;exact⟨h',av.of (S _ _ hl)⟩) ?_ ?_
 ·rintro vs H1 ⟨ws,M,rfl,S1,h1,hw,mem,len⟩;rw[af,lu]at len;rw[af,lu,aU]at mem;refine⟨cl,M,rfl,⟨ws,h1,Paired.mapP hw fun _ _ r=>cG.kt (ac.kt S1) r⟩,by omega,fun d kvs ks hd ek nd mk' lk=>?_⟩;have S2:ac H1 (upd H1 d (.dT kvs)):=ac.new hd;have d2:upd H1 d (.dT kvs) d=some (.dT kvs):=aa;generalize upd H1 d (.dT kvs)=H2 at S2 d2 ⊢;have lkv:kvs.length=ks.length:=by have:=congrArg List.length ek;rw[af,af]at this;exact this
  refine⟨d,kvs,ks,rfl,d2,ek,fun f hf=>((mem f).1 ((mk' f).1 hf)).2,nd,by omega,fun p zs hp ht pm ri=>?_⟩;have S3:ac H2 (upd H2 p (.lst (zs.map fun z=>V.ref z.1))):=ac.new hp;refine k p (zs.map fg) _ ⟨zs.map da,by rw[aa,gU];rfl,pL fun z hz=>cG.kt (ac.kt S3) (ht z hz)⟩ ri (fun f=>by rw[pm.mem_iff,mk',mem]) ((S1.trans S2).free hp) (S1.trans (S2.trans S3))
 ·rintro i vs H1 x hx hi ⟨ws,M,rfl,S1,h1,hw,mem,len⟩;obtain⟨u,hu',rfl⟩:=bz hx;obtain⟨f,hf,hat⟩:=Paired.getL hu hu';refine gN ⟨_,rfl,.inl ⟨u,_,rfl,.inr (cG.sq (cG.kt (ac.kt S1) hat)),_,_,rfl,rfl,_,rfl,?_⟩⟩;rw[show(f.map V.str).length=f.length from af _];by_cases c:f=[]
  ·rw[zzr0 (by rw[c];decide)];refine ck (je hi ⟨ws,M,rfl,S1,h1,hw,fun g=>?_,Nat.le_succ_of_le len⟩);rw[mem,take_snoc hf,aR,bM];exact⟨fun z=>⟨.inl z.1,z.2⟩,fun z=>⟨z.1.resolve_right fun e=>z.2 (e.trans c),z.2⟩⟩
  ·rw[zzr1 (by have:=List.length_pos_iff.2 c;omega)];refine c9 ⟨_,rfl,h1,by rw[af,Paired.length hw];rw[af]at hi;exact am (by omega),je hi ⟨ws++[u],M++[f],by rw[ar];rfl,fun b o e=>?_,aa,dW hw hat,fun g=>?_,by rw[aW];exact Nat.succ_le_succ len⟩⟩
   ·rw[ai (ae e hcl)];exact S1 _ _ e
   ·rw[take_snoc hf,aR,aR,mem,bM];exact⟨fun z=>z.elim (fun y=>⟨.inl y.1,y.2⟩) fun e=>⟨.inr e,by rw[e];exact c⟩,fun z=>z.1.elim (fun y=>.inl ⟨y,z.2⟩) .inr⟩
inductive qX(C:Addr)(vs:List V)(H:Hp)(Q:VK)(E:XK):Prop
 |mk (M:Addr) (J0 J1 J2:Zb) (ds:List ao):(vs=[.ref M])->(aZ C H M J0 J1 J2 ds)->(∀(l:Addr) (H':Hp),mB H' l [closF J2 ds (J2.take 1)]->H l=none->ac H H'->Q (.ref l) H')->qX C vs H Q E
theorem Av{K:Za}{C:Addr}{vs:List V}{H:Hp}{Q:VK}{E:XK}(h:qX C vs H Q E):nQ K (cE C) (bC Q) (start oP vs) H:=by
 obtain⟨M,J0,J1,J2,ds,rfl,MA,k⟩:=h;refine⟨_,rfl,M,J0,J1,J2,ds,rfl,MA,fun t F H1 ht hF S1=>⟨(by show 1<=aj;decide),fun l hl=>?_⟩⟩;rw[kT hF]at ht;have S2:ac H1 (upd H1 l (.lst [.ref t])):=ac.new hl;exact k l _ ⟨[t],aa,.cons (S2 _ _ ht) .nil⟩ (S1.free hl) (S1.trans S2)
def vn(J2:Zb)(L:List (List Str)):Prop:=∀f∈L,(∀r∈f,r∈J2)/\f.length<=1000
inductive lJ(K:Za)(C:Addr)(vs:List V)(H:Hp)(Q:VK)(E:XK):Prop
 |mk (M l s:Addr) (L:List (List Str)) (sg J0 J1 J2:Zb) (ds:List ao):(vs=[.ref M,.ref l,.ref s])->(aZ C H M J0 J1 J2 ds)->(mB H l L)->(L.length<64)->(vn J2 L)->(bp K H s (sg.map V.str))->((sg=aK∨H s=some (.tup (sg.map V.str))))->(∀(p:Addr) (N:List (List Str)) (H':Hp),ud K H' p N->yQ N->(∀f,f∈N↔f∈L.map (fun g=>behF J2 ds g sg)/\f≠[])->H p=none->ac H H'->Q (.ref p) H')->lJ K C vs H Q E
theorem Aw{K:Za}{C:Addr}{vs:List V}{H:Hp}{Q:VK}{E:XK}(h:lJ K C vs H Q E):mE K (kr K) (mZ K C) (bC Q) (start mS vs) H:=by
 obtain⟨M,l,s,L,sg,J0,J1,J2,ds,rfl,MA,⟨us,hl,hu⟩,hz,ok,hs,ht,k⟩:=h;have lu:=Paired.length hu;refine⟨_,rfl,l,rfl,⟨_,av.of hl⟩,fun cl hcl=>?_⟩
 let zC:Nat->List V->Hp->Prop:=fun i vs H'=>∃ws:List Addr,A1 (vs=ws.map V.ref) (ac H H') (H' cl=some (.lst vs)) (Paired (fun u (f:Zb)=>H' u=some (.tup (f.map V.str))) ws ((L.take i).map fun g=>behF J2 ds g sg))
 refine bB (xs:=us.map V.ref) zC ⟨[],rfl,ac.new hcl,aa,.nil⟩ (fun i vs H' _ zq=>by obtain⟨_,_,S,h',_⟩:=zq;exact⟨h',av.of (S _ _ hl)⟩) ?_ ?_
 ·rintro vs H1 ⟨ws,rfl,S1,h1,hw⟩;rw[af,lu,aU]at hw;exact⟨cl,_,rfl,⟨ws,h1,Paired.mapP hw fun _ _ r=>.inl r⟩,by rw[af];exact hz,fun p N H2 hp ri mem pn S2=>k p N H2 hp ri mem (S1.free pn) (S1.trans S2)⟩
 ·rintro i vs H1 x hx hi ⟨ws,rfl,S1,h1,hw⟩;obtain⟨u,hu',rfl⟩:=bz hx;obtain⟨f,hf,hat⟩:=Paired.getL hu hu';obtain⟨o1,o2⟩:=ok f (dJ hf);rw[af]at hi;refine gN (sH ?_);refine⟨_,rfl,_,rfl,_,rfl,M,u,s,f,sg,J0,J1,J2,ds,rfl,MA.same S1,S1 _ _ hat,bp.same S1 hs,ht.imp id (S1 _ _),o1,o2,fun t' H2 ht' S2=>?_⟩;have S3:k3 H2 (upd H2 cl (.lst (ws.map V.ref++[.ref t']))):=dZ (S2 _ _ h1);refine⟨S2 _ _ h1,by rw[af,Paired.length hw,af,aT];exact am (by omega),je (by rw[af];exact hi) ⟨ws++[t'],by rw[ar];rfl,fun b o e=>?_,aa,?_⟩⟩
  ·rw[ai (ae e hcl)];exact S2 _ _ (S1 _ _ e)
  ·rw[take_snoc hf,ar];exact dW (Paired.mapP hw fun _ _ r=>S3 _ _ (S2 _ _ r)) (S3 _ _ ht')
inductive ki(K:Za)(C:Addr)(vs:List V)(H:Hp)(Q:VK)(E:XK):Prop
 |mk (M l:Addr) (L:List (List Str)) (J0 J1 J2:Zb) (ds:List ao):(vs=[.ref M,.ref l])->(aZ C H M J0 J1 J2 ds)->(mB H l L)->(L.length<32)->(vn J2 L)->(∀(p:Addr) (N:List (List Str)) (H':Hp),ud K H' p N->yQ N->(∀f,f∈N↔(f∈L∨f∈L.map (fun g=>behF J2 ds g aK))/\f≠[])->H p=none->ac H H'->Q (.ref p) H')->ki K C vs H Q E
theorem gP{α:Type}[DecidableEq α]:∀{L R:List α},L.Nodup->(∀y∈L,y∈R)->L.length<=R.length
 |[],_,_,_=>cM _
 |x::L,R,h,hs=>by
  rw[l9]at h;have hx:x∈R:=hs x cQ;have h2:=gP h.2 (R:=R.erase x) fun y hy=>(List.mem_erase_of_ne (fun e=>h.1 (by rw[<-e];exact hy))).2 (hs y (dO _ hy));rw[List.length_erase_of_mem hx]at h2;have h3:0<R.length:=List.length_pos_of_mem hx;rw[eT];omega
theorem zk{K:Za}{C hu:Addr}(hh:∀H,bp K H hu (aK.map V.str)){vs:List V}{H:Hp}{Q:VK}{E:XK}(h:ki K C vs H Q E):xu K (kr K) (lJ K C) hu (bC Q) (start yR vs) H:=by
 obtain⟨M,l,L,J0,J1,J2,ds,rfl,MA,hL,hz,ok,k⟩:=h;refine⟨_,rfl,_,rfl,_,rfl,M,l,hu,L,aK,J0,J1,J2,ds,rfl,MA,hL,by omega,ok,hh H,.inl rfl,fun p N H1 hp ri mem pn S1=>?_⟩;obtain⟨us,hl,hus⟩:=hL.same S1;obtain⟨ws,hp1,hw⟩:=hp;have lN:N.length<=L.length:=by
  have:=gP ri.nd (R:=L.map fun g=>behF J2 ds g aK) fun y hy=>((mem y).1 hy).1;rw[af]at this;exact this
 have zu:=Paired.length hus;have zw:=Paired.length hw;refine⟨l,p,_,_,rfl,rfl,hl,hp1,by rw[af,af];exact dU (am (by omega)),fun q hq=>?_⟩;have S2:ac H1 (upd H1 q (.lst (us.map V.ref++ws.map V.ref))):=ac.new hq;have q2:upd H1 q (.lst (us.map V.ref++ws.map V.ref)) q=some (.lst ((us++ws).map V.ref)):=by rw[aa,ar]
 generalize upd H1 q (.lst (us.map V.ref++ws.map V.ref))=H2 at S2 q2 ⊢;refine⟨q,L++N,rfl,⟨us++ws,q2,Paired.app (Paired.mapP hus fun _ _ r=>.inl (S2 _ _ r)) (Paired.mapP hw fun _ _ r=>cG.kt (ac.kt S2) r)⟩,by rw[aW];omega,fun p' N' H3 hp' ri' mem' pn' S3=>?_⟩;refine k p' N' H3 hp' ri' (fun f=>?_) ((S1.trans S2).free pn') (S1.trans (S2.trans S3));rw[mem',aR,mem];exact⟨fun z=>⟨z.1.imp id fun y=>y.1,z.2⟩,fun z=>⟨z.1.imp id fun y=>⟨y,z.2⟩,z.2⟩⟩
def jB(sg:Zb):Bool:=!decide (sg.head?=some ("ask":Str))
theorem pp{J0 J1:Zb}{sg:Zb}(h:sg∈bL J0 J1):∃k r,sg=k::r:=by
 unfold bL at h;rcases aR.1 h with h|h
 ·rcases aR.1 h with h|h
  ·obtain⟨w,_,rfl⟩:=aJ.1 h;exact⟨_,_,rfl⟩
  ·obtain⟨w,_,rfl⟩:=aJ.1 h;exact⟨_,_,rfl⟩
 ·rw[bM.1 h];exact⟨_,_,rfl⟩
theorem pk(J0 J1:Zb):(bL J0 J1).filter jB=J1.map cT++[aK]:=by
 unfold bL;rw[jl,jl];have h1:(J0.map tX).filter jB=[]:=List.filter_eq_nil_iff.2 fun sg h=>by
  obtain⟨w,_,rfl⟩:=aJ.1 h;show ¬(!decide ((tX w).head?=some ("ask":Str)))=true;rw[zzr1 (show(tX w).head?=some ("ask":Str)from rfl)];decide
 have h2:(J1.map cT).filter jB=J1.map cT:=List.filter_eq_self.2 fun sg h=>by
  obtain⟨w,_,rfl⟩:=aJ.1 h;show(!decide ((cT w).head?=some ("ask":Str)))=true;rw[zzr0 (fun z=>by have z:some ("say":Str)=some ("ask":Str):=z;injection z with z;exact absurd z (by decide))];rfl
 rw[h1,h2]
 rfl
def tD(J1:Zb)(ds:List ao)(L:List (List Str)):List (List Str):=(J1.map cT++[aK]).filter fun sg=>L.all fun f=>decide (sg∈ej J1 ds f)
theorem zM{J1:Zb}{ds:List ao}:tD J1 ds []=J1.map cT++[aK]:=List.filter_eq_self.2 fun _ _=>rfl
theorem x_{J1:Zb}{ds:List ao}{L:List (List Str)}{f:Zb}:tD J1 ds (L++[f])=(tD J1 ds L).filter fun sg=>decide (sg∈ej J1 ds f):=by
 unfold tD;rw[List.filter_filter];refine np fun sg _=>?_;rw[List.all_append];show(_ && (decide (sg∈ej J1 ds f) && true))=(decide (sg∈ej J1 ds f) && _);rw[Bool.and_true,Bool.and_comm]
theorem b9{l:List (List Str)}{p:List Str->Bool}{i:Nat}{e:Zb}(h:l[i]?=some e):(l.take (i+1)).filter p=(l.take i).filter p++(if p e=true then[e]else[]):=by
 rw[take_snoc h,jl];by_cases c:p e=true
 ·rw[if_pos c];simp[c]
 ·rw[if_neg c];simp[c]
inductive ka(K:Za)(C:Addr)(vs:List V)(H:Hp)(Q:VK)(E:XK):Prop
 |mk (M l:Addr) (L:List (List Str)) (J0 J1 J2:Zb) (ds:List ao):(vs=[.ref M,.ref l])->(aZ C H M J0 J1 J2 ds)->(mB H l L)->(vn J2 L)->(∀(p:Addr) (H':Hp),ud K H' p (tD J1 ds L)->H p=none->ac H H'->Q (.ref p) H')->ka K C vs H Q E
theorem zi{K:Za}{C hu:Addr}(hh:∀H,bp K H hu (aK.map V.str)){vs:List V}{H:Hp}{Q:VK}{E:XK}(h:ka K C vs H Q E):wg K (dQ K C) (qV C hu) (bC Q) (start wX vs) H:=by
 obtain⟨M,l,L,J0,J1,J2,ds,rfl,MA,⟨us,hl,hu'⟩,ok,k⟩:=h;have z1:=MA.ok.asks4;have z2:=MA.ok.says4;have lu:=Paired.length hu';refine⟨_,rfl,M,J0,J1,J2,ds,rfl,MA,fun sl su H1 hsl hsu S1=>⟨sl,rfl,⟨_,av.of hsl⟩,fun c0 hc0=>?_⟩⟩;have hT:∀{H':Hp},ac H1 H'->Paired (fun u sg=>cG K H' u (sg.map V.str)) su (bL J0 J1):=fun S=>Paired.mapP hsu fun u sg r=>by
  rcases r with r|⟨rfl,rfl⟩
  ·exact .inl (S _ _ r)
  ·exact y6 hh _
 have zl:(bL J0 J1).length<=9:=by
  unfold bL;rw[aW,aW,af,af];show _+1<=9;omega
 let zC:Nat->List V->Hp->Prop:=fun i vs H'=>∃ws:List Addr,A1 (vs=ws.map V.ref) (ac H1 H') (H' c0=some (.lst vs)) (Paired (fun u sg=>cG K H1 u (sg.map V.str)) ws (((bL J0 J1).take i).filter jB))
 refine bB (xs:=su.map V.ref) zC ⟨[],rfl,ac.new hc0,aa,.nil⟩ (fun i vs H' _ zq=>by obtain⟨_,_,S,h',_⟩:=zq;exact⟨h',av.of (S _ _ hsl)⟩) ?_ ?_;rotate_left
 ·rintro i vs H2 x hx hi ⟨ws,rfl,S2,h2,hw⟩;obtain⟨u,hu2,rfl⟩:=bz hx;obtain⟨sg,hsg,hat⟩:=Paired.getL (hT (ac.refl _)) hu2;obtain⟨kk,r,e⟩:=pp (dJ hsg);have il:=(bN.1 hsg).1;have hat2:=cG.kt (ac.kt S2) hat;rw[e]at hat2;refine gN ⟨_,rfl,u,_,0,.str kk,rfl,rfl,cG.sq hat2,dz (j:=0) rfl,rfl,_,rfl,?_⟩;have ec:(!decide (V.str kk=V.str "ask"))=jB sg:=by
   rw[e];show _=!decide (some kk=some ("ask":Str));congr 1;exact decide_eq_decide.2 ⟨fun z=>by injection z with z;rw[z],fun z=>by injection z with z;rw[z]⟩
  rw[ec];by_cases c:jB sg=true
  ·rw[c];refine c9 ⟨_,rfl,h2,?_,je hi ⟨ws++[u],by rw[ar];rfl,fun b o q=>?_,aa,?_⟩⟩
   ·rw[af,Paired.length hw];have:=b_ jB ((bL J0 J1).take i);rw[aT]at this;exact am (by omega)
   ·rw[ai (ae q hc0)];exact S2 _ _ q
   ·rw[b9 hsg,if_pos c];exact dW hw hat
  ·rw[Bool.eq_false_iff.2 c];refine ck (je hi ⟨ws,rfl,S2,h2,?_⟩);rw[b9 hsg,if_neg c,cR];exact hw
 rintro vs H2 ⟨ws,rfl,S2,h2,hw⟩;rw[af,Paired.length hsu,aU,pk,<-zM (J1:=J1) (ds:=ds)]at hw;have S02:=S1.trans S2;refine⟨_,rfl,l,rfl,⟨_,av.of (S02 _ _ hl)⟩,?_⟩
 let zI:Nat->L2.St->Hp->Prop:=fun i σ H'=>NE4 fun(p:Addr) (x3 x4:Option V) (_:Unit)=>A1 (σ=[some (.ref M),some (.ref l),some (.ref p),x3,x4]) (ud K H' p (tD J1 ds (L.take i))) (H p=none) (ac H H')
 refine bP (xs:=us.map V.ref) zI ⟨c0,_,_,(),rfl,⟨ws,h2,Paired.mapP hw fun _ _ r=>cG.kt (ac.kt S2) r⟩,S1.free hc0,S02⟩ (fun i σ H' _ zq=>by obtain⟨_,_,_,_,_,_,_,S⟩:=zq;exact av.of (S _ _ hl)) ?_ ?_;rotate_left
 ·rintro σ H3 ⟨p,x3,x4,_,rfl,hp,pn,S3⟩;rw[af,lu,aU]at hp;exact⟨_,rfl,k p H3 hp pn S3⟩
 rintro i x σ H3 hx ⟨p,x3,x4,_,rfl,⟨ps,hp,hps⟩,pn,S3⟩;obtain⟨u,hu2,rfl⟩:=bz hx;obtain⟨f,hf,hat⟩:=Paired.getL hu' hu2;obtain⟨o1,o2⟩:=ok f (dJ hf);refine⟨_,rfl,_,rfl,M,u,f,J0,J1,J2,ds,rfl,MA.same S3,S3 _ _ hat,o1,o2,fun cm H4 hcm _ S4=>?_⟩;obtain⟨cv,hcm4,hcd⟩:=hcm;refine⟨_,rfl,p,rfl,⟨_,av.of (S4 _ _ hp)⟩,fun c1 hc1=>?_⟩;have hps4:=Paired.mapP hps fun _ _ r=>cG.kt (ac.kt S4) r;have zo:(tD J1 ds (L.take i)).length<=9:=by
  unfold tD;refine aO (b_ _ _) ?_;rw[aW,af];show _+1<=9;omega
 have zp:=Paired.length hps;have eO:tD J1 ds (L.take (i+1))=(tD J1 ds (L.take i)).filter fun sg=>decide (sg∈ej J1 ds f):=by rw[take_snoc hf,x_]
 generalize tD J1 ds (L.take i)=O at hps hps4 zo zp eO
 let zD:Nat->List V->Hp->Prop:=fun n vs H'=>∃ws:List Addr,A1 (vs=ws.map V.ref) (ac H4 H') (H' c1=some (.lst vs)) (Paired (fun u sg=>cG K H4 u (sg.map V.str)) ws ((O.take n).filter fun sg=>decide (sg∈ej J1 ds f)))
 refine bB (xs:=ps.map V.ref) zD ⟨[],rfl,ac.new hc1,aa,.nil⟩ (fun i vs H' _ zq=>by obtain⟨_,_,S,h',_⟩:=zq;exact⟨h',av.of ((S4.trans S) _ _ hp)⟩) ?_ ?_
 ·rintro vs H5 ⟨ws',rfl,S5,h5,hw'⟩;rw[af,zp,aU]at hw';refine⟨c1,_,_,(),rfl,?_,(S3.trans S4).free hc1,S3.trans (S4.trans S5)⟩;show ud K H5 c1 (tD J1 ds (L.take (i+1)));rw[eO];exact⟨ws',h5,Paired.mapP hw' fun _ _ r=>cG.kt (ac.kt S5) r⟩
 ·rintro n vs H5 x hx hn ⟨ws',rfl,S5,h5,hw'⟩;obtain⟨u',hu3,rfl⟩:=bz hx;obtain⟨sg,hsg,hat'⟩:=Paired.getL hps4 hu3;have nl:=(bN.1 hsg).1;refine gN ⟨_,rfl,_,rfl,dg sg,(ej J1 ds f).map dg,cm,cv,aV (cG.sq (cG.kt (ac.kt S5) hat')),rfl,.inl (av.of (S5 _ _ hcm4)),DIns.same S5 hcd,by rw[bH];decide,aO (eG _) (by decide),_,rfl,?_⟩;have ed:(if false=true then !decide (dg sg∈(ej J1 ds f).map dg)else decide (dg sg∈(ej J1 ds f).map dg))=decide (sg∈ej J1 ds f):=by
   show decide (dg sg∈(ej J1 ds f).map dg)=_;exact decide_eq_decide.2 ⟨fun z=>by obtain⟨g,hg,e⟩:=aJ.1 z;rw[<-kP e];exact hg,fP⟩
  rw[ed];by_cases c:sg∈ej J1 ds f
  ·rw[zzr1 c];refine c9 ⟨_,rfl,h5,?_,je hn ⟨ws'++[u'],by rw[ar];rfl,fun b o q=>?_,aa,?_⟩⟩
   ·rw[af,Paired.length hw'];have:=b_ (fun sg=>decide (sg∈ej J1 ds f)) (O.take n);rw[aT]at this;exact am (by omega)
   ·rw[ai (ae q hc1)];exact S5 _ _ q
   ·rw[b9 hsg,if_pos (zzr1 c)];exact dW hw' hat'
  ·rw[zzr0 c];refine ck (je hn ⟨ws',rfl,S5,h5,?_⟩);rw[b9 hsg,if_neg (by rw[zzr0 c];decide),cR];exact hw'
theorem uH{K:Za}{vs:List V}{H:Hp}{Q:VK}{E:XK}(h:gL vs H Q E):oU K (bC Q) (start pB vs) H:=by
 obtain⟨t,l1,l2,l3,l4,ts,J0,J1,J2,ds,rfl,T,m,k⟩:=h;have z1:=m.asks4;have z2:=m.says4;refine⟨_,rfl,t,_,0,_,rfl,rfl,bp.of T.t,rfl,l1,rfl,⟨_,av.of T.a1⟩,fun la hla=>?_⟩;refine g0 (kd:="ask") T.a1 (by omega) hla fun ua H1 h1 hP1 S1=>?_;have T1:=T.same S1;refine⟨_,rfl,t,_,1,_,rfl,rfl,bp.of T1.t,rfl,l2,rfl,⟨_,av.of T1.a2⟩,fun ls hls=>?_⟩;refine g0 (kd:="say") T1.a2 (by omega) hls fun us H2 h2 hP2 S2=>?_;have h12:=S2 _ _ h1;have hP12:=eI.kt (ac.kt S2) hP1;have ln:(ua++us).length<=8:=by
  rw[aW,Paired.length hP1,Paired.length hP2,af,af];omega
 rw[aW]at ln;refine⟨la,ls,_,_,rfl,rfl,h12,h2,by rw[af,af];exact dU (am (by omega)),fun c1 hc1=>?_⟩;have S3:ac H2 (upd H2 c1 (.lst (ua.map V.ref++us.map V.ref))):=ac.new hc1;have c13:upd H2 c1 (.lst (ua.map V.ref++us.map V.ref)) c1=some (.lst ((ua++us).map V.ref)):=by rw[aa,ar]
 generalize upd H2 c1 (.lst (ua.map V.ref++us.map V.ref))=H3 at S3 c13 ⊢;refine⟨_,rfl,(by show 1<=aj;decide),fun hh hhh=>⟨(by show 1<=aj;decide),fun hl hhl=>?_⟩⟩;have S4:ac H3 (upd (upd H3 hh (.tup [.str "hush"])) hl (.lst [.ref hh])):=(ac.new hhh).trans (ac.new hhl);have hh4:upd (upd H3 hh (.tup [.str "hush"])) hl (.lst [.ref hh]) hh=some (.tup (aK.map V.str)):=kp aa hhl;have hl4:upd (upd H3 hh (.tup [.str "hush"])) hl (.lst [.ref hh]) hl=some (.lst [.ref hh]):=aa;show rh (.ref c1) (.ref hl) (upd (upd H3 hh (.tup [.str "hush"])) hl (.lst [.ref hh])) _;generalize upd (upd H3 hh (.tup [.str "hush"])) hl (.lst [.ref hh])=H4 at S4 hh4 hl4 ⊢;refine⟨c1,hl,_,_,rfl,rfl,S4 _ _ c13,hl4,by rw[af,aW];exact dU (am (by show _+1<=1000;omega)),fun r hr=>?_⟩;have S5:ac H4 (upd H4 r (.lst ((ua++us).map V.ref++[.ref hh]))):=ac.new hr;have S25:=S3.trans (S4.trans S5);refine k r (ua++us++[hh]) _ (by rw[aa,ar (l₁:=ua++us)];rfl) ?_ ((S1.trans (S2.trans (S3.trans S4))).free hr) (S1.trans (S2.trans S25));exact Paired.app (Paired.app (eI.kt (ac.kt S25) hP12) (eI.kt (ac.kt S25) hP2)) (.cons (S5 _ _ hh4) .nil)
theorem vC{P:Addr->List Str->Prop}:∀{zs:List (V×List Str)},(∀z∈zs,∃u,z.1=.ref u/\P u z.2)->∃us:List Addr,zs.map da=us.map V.ref/\Paired P us (zs.map fg)
 |[],_=>⟨[],rfl,.nil⟩
 |z::zs,h=>by
  obtain⟨us,h1,h2⟩:=vC (zs:=zs) fun y hy=>h y (dO _ hy);obtain⟨u,e,p⟩:=h z cQ;exact⟨u::us,by rw[aY,aY,h1,e],.cons p h2⟩
theorem sG{P:Addr->List Str->Prop}:∀{us:Ze}{F:List (List Str)},Paired P us F->(∀z∈(us.map V.ref).zip F,∃u,z.1=.ref u/\P u z.2)/\((us.map V.ref).zip F).map fg=F
 |_,_,.nil=>⟨(fun z hz=>by cases hz),rfl⟩
 |_,_,.cons (a:=u) (b:=f) h r=>by
  obtain⟨h1,h2⟩:=sG r;refine⟨fun z hz=>?_,congrArg (f::·) h2⟩;rcases cI.1 hz with rfl|hz
  ·exact⟨u,rfl,h⟩
  ·exact h1 z hz
theorem vI{K:Za}{H:Hp}{l:Addr}{F:List (List Str)}{Q:VK}(hF:mB H l F)(ne:∀f∈F,f≠[])(nd:F.Nodup)(hz:F.length<64)(k:∀(p:Addr) (N:List (List Str)) (H':Hp),mB H' p N->yQ N->(∀f,f∈N↔f∈F)->H p=none->ac H H'->Q (.ref p) H'):re K [.ref l] H Q:=by
 obtain⟨ws,hl,hw⟩:=hF;have lw:=Paired.length hw;refine⟨l,_,F,rfl,av.of hl,eA (Paired.mapP hw fun _ _ r=>.inl r),ne,nd,by rw[af];omega,fun p zs hp pm ri=>?_⟩;obtain⟨z1,z2⟩:=sG hw;have S:ac H (upd H p (.lst (zs.map da))):=ac.new hp;obtain⟨us,e1,e2⟩:=vC (P:=fun u (f:Zb)=>H u=some (.tup (f.map V.str))) (zs:=zs) fun z hz=>z1 z (pm.subset hz);refine k p (zs.map fg) _ ⟨us,by rw[aa,e1],Paired.mapP e2 fun _ _ r=>S _ _ r⟩ ri (fun f=>?_) hp S;have:=pm.map fg;rw[z2]at this;exact this.mem_iff
inductive dP(K:Za)(vs:List V)(H:Hp)(Q:VK)(E:XK):Prop
 |mk (t l s l1 l2 l3 l4:Addr) (ts:Ze) (L:List (List Str)) (sg J0 J1 J2:Zb) (ds:List ao):(vs=[.ref t,.ref l,.ref s])->(iJ H t l1 l2 l3 l4 ts J0 J1 J2 ds)->(bR J0 J1 J2 ds)->(mB H l L)->(L.length<64)->(vn J2 L)->(bp K H s (sg.map V.str))->(∀(p:Addr) (N:List (List Str)) (H':Hp),mB H' p N->yQ N->(∀f,f∈N↔f∈L.map (fun g=>behF J2 ds g sg)/\f≠[])->H p=none->ac H H'->Q (.ref p) H')->dP K vs H Q E
theorem wt{K:Za}{vs:List V}{H:Hp}{Q:VK}{E:XK}(h:dP K vs H Q E):ur K (n5 K) (bC Q) (start vj vs) H:=by
 obtain⟨t,l,s,l1,l2,l3,l4,ts,L,sg,J0,J1,J2,ds,rfl,T,m,⟨us,hl,hu⟩,hz,ok,hs,k⟩:=h;have lu:=Paired.length hu;refine⟨(by show 0<=aj;decide),fun fl hfl=>?_⟩;have S0:ac H (upd H fl (.lst [])):=ac.new hfl;have f0:upd H fl (.lst []) fl=some (.lst (([]:Ze).map V.ref)):=aa;generalize upd H fl (.lst [])=H0 at S0 f0 ⊢;refine⟨_,rfl,l,rfl,⟨_,av.of (S0 _ _ hl)⟩,?_⟩
 let zI:Nat->L2.St->Hp->Prop:=fun i σ H'=>Aq fun(F:List (List Str)) (x4 x5:Option V)=>A0 (σ=[some (.ref t),some (.ref l),some (.ref s),some (.ref fl),x4,x5]) (mB H' fl F) (F.Nodup) (∀f,f∈F↔f∈(L.take i).map (fun g=>behF J2 ds g sg)/\f≠[]) (F.length<=i) (ac H H')
 refine bP (xs:=us.map V.ref) zI ⟨[],_,_,rfl,⟨[],f0,.nil⟩,jn,fun f=>by simp,az _,S0⟩ (fun i σ H' _ zq=>by obtain⟨_,_,_,_,_,_,_,_,S⟩:=zq;exact av.of (S _ _ hl)) ?_ ?_
 ·rintro i x σ H1 hx ⟨F,x4,x5,rfl,⟨ws,hF,hw⟩,nd,mem,len,S1⟩;obtain⟨u,hu',rfl⟩:=bz hx;obtain⟨f,hf,hat⟩:=Paired.getL hu hu';obtain⟨o1,o2⟩:=ok f (dJ hf);have il:=(bN.1 hf).1;have lw:=Paired.length hw;refine⟨_,rfl,_,rfl,_,rfl,t,u,s,l1,l2,l3,l4,ts,J0,J1,J2,f,sg,ds,rfl,T.same S1,m,S1 _ _ hat,bp.same S1 hs,o2,fun b H2 hb S2=>?_⟩;refine⟨_,rfl,(by show 0<=aj;decide),fun e he=>?_⟩;have S3:ac H2 (upd H2 e (.tup [])):=ac.new he;have e3:upd H2 e (.tup []) e=some (.tup (([]:Zb).map V.str)):=aa;show n_ K (.ref b) (.ref e) (upd H2 e (.tup [])) _;generalize upd H2 e (.tup [])=H3 at S3 e3 ⊢;have S13:=S2.trans S3;have hb3:=S3 _ _ hb;have hF3:=S13 _ _ hF;have hw3:Paired (fun u (f:Zb)=>H3 u=some (.tup (f.map V.str))) ws F:=Paired.mapP hw fun _ _ r=>S13 _ _ r;refine⟨dg (behF J2 ds f sg),dg [],aV (bp.of hb3),aV (sg:=[]) (bp.of e3),by rw[bH];decide,by rw[bH];decide,_,rfl,?_⟩;rw[iW];have mem1:∀g,g∈(L.take (i+1)).map (fun g=>behF J2 ds g sg)↔g∈(L.take i).map (fun g=>behF J2 ds g sg)∨g=behF J2 ds f sg:=fun g=>by rw[take_snoc hf,ar,aR];exact or_congr Iff.rfl bM
  have skip:∀{H':Hp},ac H3 H'->(behF J2 ds f sg=[]∨behF J2 ds f sg∈F)->zI (i+1) [some (.ref t),some (.ref l),some (.ref s),some (.ref fl),some (.ref u),some (.ref b)] H':=fun S c=>by
   refine⟨F,_,_,rfl,⟨ws,S _ _ hF3,Paired.mapP hw3 fun _ _ r=>S _ _ r⟩,nd,fun g=>?_,Nat.le_succ_of_le len,S1.trans (S13.trans S)⟩;rw[mem1,mem];refine⟨fun z=>⟨.inl z.1,z.2⟩,fun z=>⟨z.1.elim id fun e=>?_,z.2⟩⟩;rcases c with c|c
   ·exact absurd (e.trans c) z.2
   ·rw[e];exact((mem _).1 c).1
  by_cases c:behF J2 ds f sg=[]
  ·rw[zzr1 c];exact ck (ck (skip (ac.refl _) (.inl c)))
  rw[zzr0 c];refine c9 ⟨_,rfl,_,rfl,dg (behF J2 ds f sg),F.map dg,fl,_,aV (bp.of hb3),rfl,.inl (av.of hF3),eA (Paired.mapP hw3 fun _ _ r=>.inl r),by rw[bH];decide,aO (eG _) (by decide),_,rfl,?_⟩;have ed:(if true=true then !decide (dg (behF J2 ds f sg)∈F.map dg)else decide (dg (behF J2 ds f sg)∈F.map dg))=!decide (behF J2 ds f sg∈F):=by
   show(!decide (dg (behF J2 ds f sg)∈F.map dg))=_;congr 1;exact decide_eq_decide.2 ⟨fun z=>by obtain⟨g,hg,e⟩:=aJ.1 z;rw[<-kP e];exact hg,fP⟩
  rw[ed];by_cases d:behF J2 ds f sg∈F
  ·rw[zzr1 d];exact ck (skip (ac.refl _) (.inr d))
  rw[zzr0 d];refine c9 ⟨_,rfl,.inl ⟨rfl,_,av.of hF3⟩,_,rfl,fl,_,_,rfl,rfl,hF3,by rw[af];exact am (by omega),F++[behF J2 ds f sg],_,_,rfl,⟨ws++[b],by rw[aa,ar];rfl,?_⟩,?_,fun g=>?_,by rw[aW];exact Nat.succ_le_succ len,fun b' o q=>?_⟩
  ·have kt:k3 H3 (upd H3 fl (.lst (ws.map V.ref++[.ref b]))):=dZ hF3;exact dW (Paired.mapP hw3 fun _ _ r=>kt _ _ r) (kt _ _ hb3)
  ·exact cu.2 ⟨nd,by simp,fun x hx y hy e=>d (by rw[bM.1 hy]at e;rw[<-e];exact hx)⟩
  ·rw[mem1,aR,mem,bM];exact⟨fun z=>z.elim (fun y=>⟨.inl y.1,y.2⟩) fun e=>⟨.inr e,by rw[e];exact c⟩,fun z=>z.1.elim (fun y=>.inl ⟨y,z.2⟩) .inr⟩
  ·rw[ai (ae q hfl)];exact S13 _ _ (S1 _ _ q)
 ·rintro σ H1 ⟨F,x4,x5,rfl,hF,nd,mem,len,S1⟩;rw[af,lu]at len;rw[af,lu,aU]at mem;refine⟨_,rfl,vI hF (fun f hf=>((mem f).1 hf).2) nd (by omega) fun p N H2 hp ri me pn S2=>k p N H2 hp ri (fun f=>by rw[me,mem]) (S1.free pn) (S1.trans S2)⟩
inductive kh(K:Za)(vs:List V)(H:Hp)(Q:VK)(E:XK):Prop
 |mk (t l l1 l2 l3 l4:Addr) (ts:Ze) (L:List (List Str)) (J0 J1 J2:Zb) (ds:List ao):(vs=[.ref t,.ref l])->(iJ H t l1 l2 l3 l4 ts J0 J1 J2 ds)->(bR J0 J1 J2 ds)->(mB H l L)->(L.length<32)->(vn J2 L)->(L.Nodup)->(∀f∈L,f≠[])->(∀(p:Addr) (N:List (List Str)) (H':Hp),mB H' p N->yQ N->(∀f,f∈N↔(f∈L∨f∈L.map (fun g=>behF J2 ds g aK))/\f≠[])->H p=none->ac H H'->Q (.ref p) H')->kh K vs H Q E
theorem xG{K:Za}{vs:List V}{H:Hp}{Q:VK}{E:XK}(h:kh K vs H Q E):qM K (dP K) (bC Q) (start sh vs) H:=by
 obtain⟨t,l,l1,l2,l3,l4,ts,L,J0,J1,J2,ds,rfl,T,m,⟨us,hl,hu⟩,hz,ok,nd,ne,k⟩:=h;have lu:=Paired.length hu;refine⟨_,rfl,.inl ⟨l,_,rfl,.inl (av.of hl),fun fl hfl=>?_⟩⟩;have S0:ac H (upd H fl (.lst (us.map V.ref))):=ac.new hfl;have f0:upd H fl (.lst (us.map V.ref)) fl=some (.lst (us.map V.ref)):=aa;generalize upd H fl (.lst (us.map V.ref))=H0 at S0 f0 ⊢;refine⟨_,rfl,_,rfl,(by show 1<=aj;decide),fun hp hhp=>?_⟩;have S1:ac H0 (upd H0 hp (.tup [.str "hush"])):=ac.new hhp;have h1:upd H0 hp (.tup [.str "hush"]) hp=some (.tup (aK.map V.str)):=aa;show dP K [.ref t,.ref l,.ref hp] (upd H0 hp (.tup [.str "hush"])) _ _;generalize upd H0 hp (.tup [.str "hush"])=H1 at S1 h1 ⊢;have S01:=S0.trans S1;refine⟨t,l,hp,l1,l2,l3,l4,ts,L,aK,J0,J1,J2,ds,rfl,T.same S01,m,⟨us,S01 _ _ hl,Paired.mapP hu fun _ _ r=>S01 _ _ r⟩,by omega,ok,bp.of h1,fun nl N H2 hN riN memN nln S2=>?_⟩;obtain⟨ns,hnl,hns⟩:=hN;have lN:N.length<=L.length:=by
  have:=gP riN.nd (R:=L.map fun g=>behF J2 ds g aK) fun y hy=>((memN y).1 hy).1;rw[af]at this;exact this
 have S02:=S01.trans S2;have S12:=S1.trans S2;have nfl:nl≠fl:=(ae (S1 _ _ f0) nln).symm;refine⟨nl,rfl,⟨_,av.of hnl⟩,?_⟩
 let zI:Nat->L2.St->Hp->Prop:=fun i σ H'=>Aq fun(F:List (List Str)) (x3:Option V) (_:Unit)=>NA7 (σ=[some (.ref t),some (.ref l),some (.ref fl),x3]) (mB H' fl F) (F.Nodup) (∀f,f∈F↔f∈L∨f∈N.take i) (F.length<=L.length+i) (ac H H') (H' nl=some (.lst (ns.map V.ref))/\Paired (fun u (f:Zb)=>H' u=some (.tup (f.map V.str))) ns N)
 refine bP (xs:=ns.map V.ref) zI ⟨L,_,(),rfl,⟨us,S12 _ _ f0,Paired.mapP hu fun _ _ r=>S02 _ _ r⟩,nd,fun f=>by simp,az _,S02,hnl,hns⟩ (fun i σ H' _ zq=>by obtain⟨_,_,_,_,_,_,_,_,_,S⟩:=zq;exact av.of S.1) ?_ ?_
 ·rintro i x σ H3 hx ⟨F,x3,_,rfl,⟨ws,hF,hw⟩,ndF,mem,len,S3,hn3,hns3⟩;obtain⟨u,hu',rfl⟩:=bz hx;obtain⟨f,hf,hat⟩:=Paired.getL hns3 hu';have il:=(bN.1 hf).1;have lw:=Paired.length hw;refine⟨_,rfl,_,rfl,dg f,F.map dg,fl,_,aV (bp.of hat),rfl,.inl (av.of hF),eA (Paired.mapP hw fun _ _ r=>.inl r),by rw[bH];decide,aO (eG _) (by decide),_,rfl,?_⟩;have ed:(if true=true then !decide (dg f∈F.map dg)else decide (dg f∈F.map dg))=!decide (f∈F):=by
   show(!decide (dg f∈F.map dg))=_;congr 1;exact decide_eq_decide.2 ⟨fun z=>by obtain⟨g,hg,e⟩:=aJ.1 z;rw[<-kP e];exact hg,fP⟩
  rw[ed];have mem1:∀g,g∈N.take (i+1)↔g∈N.take i∨g=f:=fun g=>by rw[take_snoc hf,aR,bM]
  by_cases d:f∈F
  ·rw[zzr1 d];refine ck ⟨F,_,(),rfl,⟨ws,hF,hw⟩,ndF,fun g=>?_,by omega,S3,hn3,hns3⟩;rw[mem1,mem];refine⟨fun z=>z.imp id .inl,fun z=>z.elim .inl fun y=>y.elim .inr fun e=>?_⟩;rw[e];exact(mem f).1 d
  rw[zzr0 d];have kt:k3 H3 (upd H3 fl (.lst (ws.map V.ref++[.ref u]))):=dZ hF;refine c9 ⟨_,rfl,.inl ⟨rfl,_,av.of hF⟩,_,rfl,fl,_,_,rfl,rfl,hF,by rw[af];exact am (by omega),F++[f],_,(),rfl,⟨ws++[u],by rw[aa,ar];rfl,dW (Paired.mapP hw fun _ _ r=>kt _ _ r) (kt _ _ hat)⟩,?_,fun g=>?_,by rw[aW];show _+1<=_;omega,fun b' o q=>?_,by rw[ai nfl];exact hn3,Paired.mapP hns3 fun _ _ r=>kt _ _ r⟩
  ·exact cu.2 ⟨ndF,by simp,fun x hx y hy e=>d (by rw[bM.1 hy]at e;rw[<-e];exact hx)⟩
  ·rw[mem1,aR,mem,bM,or_assoc]
  ·rw[ai (ae q hfl)];exact S3 _ _ q
 ·rintro σ H3 ⟨F,x3,_,rfl,hF,ndF,mem,len,S3,_,_⟩;rw[af,Paired.length hns]at len;rw[af,Paired.length hns,aU]at mem;have neF:∀f∈F,f≠[]:=fun f hf=>((mem f).1 hf).elim (ne f) fun z=>((memN f).1 z).2;refine⟨_,rfl,vI hF neF ndF (by omega) fun p M H4 hp ri me pn S4=>k p M H4 hp ri (fun f=>?_) (S3.free pn) (S3.trans S4)⟩;rw[me,mem,memN];exact⟨fun z=>z.elim (fun y=>⟨.inl y,ne f y⟩) fun y=>⟨.inr y.1,y.2⟩,fun z=>z.1.imp id fun y=>⟨y,z.2⟩⟩
theorem yL{J0 J1 J2 f:Zb}{ds:List ao}(m:bR J0 J1 J2 ds)(sg:Zb)(h:sg∈J1.map cT++[aK]):sg∈ej J1 ds f↔behF J2 ds f sg≠[]:=by
 have hush_say:∀w,cT w≠aK:=fun w z=>by
  have z:([("say":Str),w]:Zb)=[("hush":Str)]:=z;injection z with z _;exact absurd z (by decide)
 unfold ej;rcases aR.1 h with h|h
 ·obtain⟨w,hw,rfl⟩:=aJ.1 h;unfold behF;rw[if_neg (hush_say w)];constructor
  ·intro z;have z:zd ds f (cT w)=true:=by
    rcases aR.1 z with z|z
    ·obtain⟨w',hw',e⟩:=aJ.1 z;have:w'=w:=by have e:([("say":Str),w']:Zb)=[("say":Str),w]:=e;injection e with _ e;injection e
     rw[<-this];exact(dh.1 hw').2
    ·split at z
     ·exact absurd (bM.1 z) (hush_say w)
     ·cases z
   obtain⟨d,hd,ha,hs⟩:=kB.1 z;have hb:d.b∈closF J2 ds (bZ ds (cT w) f):=lQ.2 ⟨(m.good d hd).b,d.b,?_,.inl rfl⟩
   ·intro e;rw[e]at hb;cases hb
   ·exact fE.2 ⟨d.a,ha,by rw[<-hs];exact hd⟩
  ·intro z;obtain⟨r,hr⟩:=List.exists_mem_of_ne_nil _ z;obtain⟨_,g,hg,_⟩:=lQ.1 hr;obtain⟨r',hr',hd⟩:=fE.1 hg;exact cH _ (fP (dh.2 ⟨hw,kB.2 ⟨_,hd,hr',rfl⟩⟩))
 ·rw[bM.1 h];unfold behF;rw[if_pos rfl];constructor
  ·intro z;have z:p8 ds f=true:=by
    rcases aR.1 z with z|z
    ·obtain⟨w',_,e⟩:=aJ.1 z;exact absurd e (hush_say w')
    ·by_cases c:p8 ds f=true
     ·exact c
     ·rw[if_neg c]at z;cases z
   obtain⟨r,hr,hq⟩:=nn.1 z;intro e;have:r∈f.filter fun r=>decide (r∉df ds):=dh.2 ⟨hr,hq⟩;rw[e]at this;cases this
  ·intro z;obtain⟨r,hr⟩:=List.exists_mem_of_ne_nil _ z;obtain⟨h1,h2⟩:=dh.1 hr;have hb:p8 ds f=true:=nn.2 ⟨r,h1,h2⟩;rw[if_pos hb];exact cN _ (bM.2 rfl)
theorem zN{J0 J1 J2:Zb}{ds:List ao}{L:List (List Str)}(m:bR J0 J1 J2 ds):tD J1 ds L=(J1.map cT++[aK]).filter fun sg=>L.all fun f=>!decide (behF J2 ds f sg=[]):=by
 unfold tD;refine np fun sg hs=>?_
 induction L with
 |nil=>rfl
 |cons f L ih =>
  rw[nD,nD,ih];congr 1;have:=yL (f:=f) m sg hs;by_cases c:behF J2 ds f sg=[]
  ·rw[zzr1 c,zzr0 (fun z=>this.1 z c)];rfl
  ·rw[zzr0 c,zzr1 (this.2 c)];rfl
theorem yN{L:List (List Str)}{p:List Str->Bool}:decide (L.filter p=[])=L.all fun f=>!p f:=by
 induction L with
 |nil=>rfl
 |cons f L ih =>
  rw[nD,<-ih];cases c:p f with
  |true=>rw[k4,if_pos c];rfl
  |false=>rw[k4,if_neg (by rw[c];decide)];rfl
inductive kg(K:Za)(vs:List V)(H:Hp)(Q:VK)(E:XK):Prop
 |mk (t l l1 l2 l3 l4:Addr) (ts:Ze) (L:List (List Str)) (J0 J1 J2:Zb) (ds:List ao):(vs=[.ref t,.ref l])->(iJ H t l1 l2 l3 l4 ts J0 J1 J2 ds)->(bR J0 J1 J2 ds)->(mB H l L)->(L.length<64)->(vn J2 L)->(∀(p:Addr) (H':Hp),mB H' p (tD J1 ds L)->H p=none->ac H H'->Q (.ref p) H')->kg K vs H Q E
theorem xF{K:Za}{vs:List V}{H:Hp}{Q:VK}{E:XK}(h:kg K vs H Q E):oW K gL (n5 K) (bC Q) (start pC vs) H:=by
 obtain⟨t,l,l1,l2,l3,l4,ts,L,J0,J1,J2,ds,rfl,T,m,⟨us,hl,hu⟩,hz,ok,k⟩:=h;have lu:=Paired.length hu;have z2:=m.says4;refine⟨(by show 0<=aj;decide),fun fl hfl=>?_⟩;have S0:ac H (upd H fl (.lst [])):=ac.new hfl;have f0:upd H fl (.lst []) fl=some (.lst (([]:Ze).map V.ref)):=aa;generalize upd H fl (.lst [])=H0 at S0 f0 ⊢;refine⟨_,rfl,t,l1,l2,l3,l4,ts,J0,J1,J2,ds,rfl,T.same S0,m,fun sl su H1 hsl hsu _ S1=>?_⟩;have S01:=S0.trans S1;have T1:=T.same S01;refine⟨_,rfl,t,_,0,_,rfl,rfl,bp.of T1.t,rfl,.inl ⟨l1,_,rfl,.inl (av.of T1.a1),_,rfl,sl,_,rfl,av.of hsl,fun dl hdl=>?_⟩⟩;rw[af,u6,<-qi];have ed:(bL J0 J1).drop J0.length=J1.map cT++[aK]:=by
  unfold bL;rw[dD,List.drop_left' (by rw[af])]
 have hsd:eI H1 (su.drop J0.length) (J1.map cT++[aK]):=by rw[<-ed];exact Paired.dropP _ hsu
 generalize su.drop J0.length=sd at hsd ⊢;have S2:ac H1 (upd H1 dl (.lst (sd.map V.ref))):=ac.new hdl;have d2:upd H1 dl (.lst (sd.map V.ref)) dl=some (.lst (sd.map V.ref)):=aa;have nfd:dl≠fl:=(ae (S1 _ _ f0) hdl).symm;have f2:=S2 _ _ (S1 _ _ f0);refine⟨dl,rfl,⟨_,av.of aa⟩,?_⟩;generalize upd H1 dl (.lst (sd.map V.ref))=H2 at S2 d2 f2 ⊢;have S02:=S01.trans S2;have hsd2:=eI.kt (ac.kt S2) hsd;have eO:=zN (L:=L) m;have zo:(J1.map cT++[aK]).length<=5:=by rw[aW,af];show _+1<=5;omega
 generalize J1.map cT++[aK]=O at hsd2 eO zo
 let zI:Nat->L2.St->Hp->Prop:=fun i σ H'=>yX fun(x3:Option V) (_:Unit)=>AW (σ=[some (.ref t),some (.ref l),some (.ref fl),x3]) (mB H' fl ((O.take i).filter fun sg=>L.all fun f=>!decide (behF J2 ds f sg=[]))) (ac H H') (H' dl=some (.lst (sd.map V.ref))) (eI H' sd O)
 refine bP (xs:=sd.map V.ref) zI ⟨_,(),rfl,⟨[],f2,.nil⟩,S02,d2,hsd2⟩ (fun i σ H' _ zq=>by obtain⟨_,_,_,_,_,h',_⟩:=zq;exact av.of h') ?_ ?_;rotate_left
 ·rintro σ H3 ⟨x3,_,rfl,hF,S3,_,_⟩;rw[af,Paired.length hsd2,aU,<-eO]at hF;exact⟨_,rfl,k fl H3 hF hfl S3⟩
 rintro i x σ H3 hx ⟨x3,_,rfl,⟨ws,hF,hw⟩,S3,hd3,hs3⟩;obtain⟨su',hsu',rfl⟩:=bz hx;obtain⟨sg,hsg,hat⟩:=Paired.getL hs3 hsu';have il:=(bN.1 hsg).1;refine⟨_,rfl,l,rfl,⟨_,av.of (S3 _ _ hl)⟩,fun c1 hc1=>?_⟩
 let zC:Nat->List V->Hp->Prop:=fun n vs H'=>∃cs:List Addr,A1 (vs=cs.map V.ref) (ac H3 H') (H' c1=some (.lst vs)) (Paired (fun u (f:Zb)=>H' u=some (.tup (f.map V.str))) cs ((L.take n).filter fun f=>decide (behF J2 ds f sg=[])))
 refine bB (xs:=us.map V.ref) zC ⟨[],rfl,ac.new hc1,aa,.nil⟩ (fun i vs H' _ zq=>by obtain⟨_,_,S,h',_⟩:=zq;exact⟨h',av.of ((S3.trans S) _ _ hl)⟩) ?_ ?_
 ·rintro vs H4 ⟨cs,rfl,S4,h4,hc⟩;rw[af,lu,aU]at hc;refine⟨(by show 0<=aj;decide),fun e he=>?_⟩;have S5:ac H4 (upd H4 e (.lst [])):=ac.new he;have e5:upd H4 e (.lst []) e=some (.lst []):=aa;show xN K (.ref c1) (.ref e) (upd H4 e (.lst [])) _;generalize upd H4 e (.lst [])=H5 at S5 e5 ⊢;have S35:=S4.trans S5;refine⟨.s ((L.filter fun f=>decide (behF J2 ds f sg=[])).map dg),.s [],⟨c1,_,rfl,av.of (S5 _ _ h4),eA (Paired.mapP hc fun _ _ r=>.inl (S5 _ _ r))⟩,v7 (av.of e5),aO (fX _) (by decide),by decide,_,rfl,?_⟩;have ec:decide (DT.s ((L.filter fun f=>decide (behF J2 ds f sg=[])).map dg)=DT.s [])=L.all fun f=>!decide (behF J2 ds f sg=[]):=by
   rw[<-yN];exact decide_eq_decide.2 ⟨fun z=>by injection z with z;exact List.map_eq_nil_iff.1 z,fun z=>by rw[z];rfl⟩
  rw[ec];have hF5:=S35 _ _ hF;by_cases c:(L.all fun f=>!decide (behF J2 ds f sg=[]))=true
  ·rw[c];have kt:k3 H5 (upd H5 fl (.lst (ws.map V.ref++[.ref su']))):=dZ hF5;refine c9 ⟨_,rfl,.inl ⟨rfl,_,av.of hF5⟩,_,rfl,fl,_,_,rfl,rfl,hF5,?_,_,(),rfl,⟨ws++[su'],by rw[aa,ar];rfl,?_⟩,fun b o q=>?_,by rw[ai nfd];exact S35 _ _ hd3,Paired.mapP hs3 fun _ _ r=>kt _ _ (S35 _ _ r)⟩
   ·rw[af,Paired.length hw];exact am (Nat.le_trans (b_ _ _) (by rw[aT];omega))
   ·rw[b9 hsg,if_pos c];exact dW (Paired.mapP hw fun _ _ r=>kt _ _ (S35 _ _ r)) (kt _ _ (S35 _ _ hat))
   ·rw[ai (ae q hfl)];exact(S3.trans S35) _ _ q
  ·rw[Bool.eq_false_iff.2 c];refine ck ⟨_,(),rfl,⟨ws,hF5,?_⟩,S3.trans S35,S35 _ _ hd3,eI.kt (ac.kt S35) hs3⟩;rw[b9 hsg,if_neg c,cR];exact Paired.mapP hw fun _ _ r=>S35 _ _ r
 ·rintro n vs H4 x hx hn ⟨cs,rfl,S4,h4,hc⟩;obtain⟨u,hu',rfl⟩:=bz hx;obtain⟨f,hf,hatf⟩:=Paired.getL hu hu';obtain⟨o1,o2⟩:=ok f (dJ hf);have nl:=(bN.1 hf).1;have S04:=S3.trans S4;refine gN ⟨_,rfl,_,rfl,_,rfl,t,u,su',l1,l2,l3,l4,ts,J0,J1,J2,f,sg,ds,rfl,T.same S04,m,S04 _ _ hatf,bp.of (S4 _ _ hat),o2,fun b H5 hb S5=>?_⟩;refine⟨(by show 0<=aj;decide),fun e he=>?_⟩;have S6:ac H5 (upd H5 e (.tup [])):=ac.new he;have e6:upd H5 e (.tup []) e=some (.tup (([]:Zb).map V.str)):=aa;show xN K (.ref b) (.ref e) (upd H5 e (.tup [])) _;generalize upd H5 e (.tup [])=H6 at S6 e6 ⊢;have S46:=S5.trans S6;refine⟨dg (behF J2 ds f sg),dg [],aV (bp.of (S6 _ _ hb)),aV (sg:=[]) (bp.of e6),by rw[bH];decide,by rw[bH];decide,_,rfl,?_⟩;rw[iW];by_cases c:behF J2 ds f sg=[]
  ·rw[zzr1 c];have kt:k3 H6 (upd H6 c1 (.lst (cs.map V.ref++[.ref u]))):=dZ (S46 _ _ h4);refine c9 ⟨_,rfl,S46 _ _ h4,?_,je hn ⟨cs++[u],by rw[ar];rfl,fun b o q=>?_,aa,?_⟩⟩
   ·rw[af,Paired.length hc];exact am (Nat.le_trans (b_ _ _) (by rw[aT];omega))
   ·rw[ai (ae q hc1)];exact(S4.trans S46) _ _ q
   ·rw[b9 hf,if_pos (zzr1 c)];exact dW (Paired.mapP hc fun _ _ r=>kt _ _ (S46 _ _ r)) (kt _ _ (S46 _ _ (S04 _ _ hatf)))
  ·rw[zzr0 c];refine ck (je hn ⟨cs,rfl,S4.trans S46,S46 _ _ h4,?_⟩);rw[b9 hf,if_neg (by rw[zzr0 c];decide),cR];exact Paired.mapP hc fun _ _ r=>S46 _ _ r
theorem Def.weak{P:bm}{w:World}{K:Za}{mg:Str->Option Value}{base:Heap}{x:Str}{ps:Zb}{k:Nat}{sp sp':Sp}(D:L2.Def P w K mg base x ps k sp)(h:∀vs H Q E,sp' vs H Q E->sp vs H Q E):L2.Def P w K mg base x ps k sp':=by
 obtain⟨f,fd,F,r⟩:=D;exact⟨f,fd,⟨fun vs H Q E q=>F.len vs H Q E (h _ _ _ _ q),fun A o s H a us vs Q E r1 r2 r3 r4 q=>F.run A o s H a us vs Q E r1 r2 r3 r4 (h _ _ _ _ q)⟩,r⟩
structure gu(J2:Zb)(H:Hp)(l:Addr)(L:List (List Str)):Prop where
 ch:mB H l L
 nd:L.Nodup
 ne:∀f∈L,f≠[]
 fc:∀f∈L,t9 J2 f
theorem gu.same{J2:Zb}{H H':Hp}{l:Addr}{L:List (List Str)}(S:ac H H')(h:gu J2 H l L):gu J2 H' l L:=⟨h.ch.same S,h.nd,h.ne,h.fc⟩
theorem gu.ex{J2:Zb}{H H':Hp}{l p c:Addr}{L:List (List Str)}(hp:fH H p c)(ex:cz p H H')(h:gu J2 H l L):gu J2 H' l L:=by
 obtain⟨⟨us,h1,h2⟩,h3,h4,h5⟩:=h;have kt:k3 H H':=by obtain⟨ys,hy⟩:=hp.lst;exact ex.kt hy
 exact⟨⟨us,ex _ _ h1 (hp.ne_refs h1),Paired.mapP h2 fun _ _ r=>kt _ _ r⟩,h3,h4,h5⟩
theorem gu.len{J2:Zb}{H:Hp}{l:Addr}{L:List (List Str)}(hr:J2.length<=4)(h:gu J2 H l L):L.length<=16:=by
 have h1:=gP h.nd (R:=j9 J2) fun f hf=>by obtain⟨p,rfl⟩:=h.fc f hf;exact pT p J2
 rw[pU]at h1;have:2 ^ J2.length<=2 ^ 4:=Nat.pow_le_pow_right (by decide) hr;omega
theorem gu.ok{J2:Zb}{H:Hp}{l:Addr}{L:List (List Str)}(hr:J2.length<=4)(h:gu J2 H l L):vn J2 L:=fun f hf=>⟨(h.fc f hf).sub,by have:=(h.fc f hf).len;omega⟩
theorem vD{K:Za}{H:Hp}{l a b:Addr}{A B:List (List Str)}(hl:H l=some (.lst [.ref a,.ref b]))(ha:ud K H a A)(hb:ud K H b B):iM K H (.s [.s (A.map dg),.s (B.map dg)]) (.ref l) :=
 ⟨l,_,rfl,av.of hl,_,_,rfl,ha.dIn,_,_,rfl,hb.dIn,rfl⟩
theorem pP(A B:List (List Str)):(DT.s [.s (A.map dg),.s (B.map dg)]).depth<=3:=by
 show max (DT.depths (A.map dg)+1) (max (DT.depths (B.map dg)+1) 0)+1<=3;have:=eG A;have:=eG B;omega
theorem xm{K:Za}{C M t p c l1 l2 l3 l4 dl:Addr}{ts:Ze}{J0 J1 J2:Zb}{ds:List ao}{D:mV}{x0 x2 x5 x7 x8 x9 x10:Option V}{H:Hp}{L:List (List Str)}(hp:fH H p c)(T:iJ H t l1 l2 l3 l4 ts J0 J1 J2 ds)(m:bR J0 J1 J2 ds)(MA:aZ C H M J0 J1 J2 ds)(hD:gu J2 H dl L)(zr:J2.length<=4)
  (k:∀(dl':Addr) (L':List (List Str)) (y:Option V) (H':Hp),fH H' p c->iJ H' t l1 l2 l3 l4 ts J0 J1 J2 ds->aZ C H' M J0 J1 J2 ds->gu J2 H' dl' L'->D.nx [x0,some (.ref p),x2,some (.ref t),some (.ref M),x5,some (.ref dl'),x7,x8,x9,y] H') :
  (aq (aM (aF (dk K) (aG gL (au V3)) (aG eQ (ay V1 (ay (aF cK (aF cK (eh (gd K) (au (aF (iB K) V3 (tC (.int 0))))) (eh (gd K) (au (aF (iB K) V3 (tC (.int 1)))))) (tC (.int 1))) bA)))) Bu)
   (aq (ef (bc (aF (n_ K) (aG (lJ K C) (fB V4 (eh (bO K) (au V6)) yP)) (aG (dP K) (fB V3 V6 yP)))) (bo (tC (.bl false))) (ci))
    (aM (aG (dP K) (fB V3 V6 yP)) U6))) D [x0,some (.ref p),x2,some (.ref t),some (.ref M),x5,some (.ref dl),x7,x8,x9,x10] H:=by
 have z1:=m.asks4;have z2:=m.says4;have lL:=hD.len zr;have okL:=hD.ok zr;refine⟨_,rfl,t,l1,l2,l3,l4,ts,J0,J1,J2,ds,rfl,T,m,fun sl su H1 hsl hsu _ S1=>?_⟩;have T1:=T.same S1;have hp1:=hp.ex S1;refine⟨_,rfl,_,rfl,t,_,0,_,rfl,rfl,bp.of T1.t,rfl,.inl ⟨l1,_,rfl,.inl (av.of T1.a1),_,rfl,t,_,1,_,rfl,rfl,bp.of T1.t,rfl,.inl ⟨l2,_,rfl,.inl (av.of T1.a2),_,_,rfl,rfl,_,_,rfl,rfl,?_⟩⟩⟩;rw[af,af];have lS:(bL J0 J1).length=J0.length+J1.length+1:=by
  unfold bL;rw[aW,aW,af,af];rfl
 refine de hp1 (by omega) (by omega) fun r H2 r0 r1 hp2 ex2=>?_;obtain⟨n,rfl⟩:=ii r0;have kt2:k3 H1 H2:=by obtain⟨ys,hy⟩:=hp1.lst;exact ex2.kt hy
 obtain⟨sg,hsg⟩:∃sg,(bL J0 J1)[n]?=some sg:=⟨_,nE (by omega)⟩;obtain⟨u,hu,hat⟩:=Paired.get hsu hsg;have hat2:H2 u=some (.tup (sg.map V.str)):=kt2 _ _ hat;refine⟨sl,_,_,.ref u,rfl,rfl,av.of (ex2 _ _ hsl (hp1.ne_refs hsl)),dz (j:=n) (by rw[gD,hu];rfl),?_⟩;have T2:=T1.ex hp1 ex2;have M2:=(MA.same S1).ex hp1 ex2;have D2:=(hD.same S1).ex hp1 ex2;clear T T1 hp hp1 MA hD ex2 S1 hsl hsu hat kt2;obtain⟨us,hdl,hus⟩:=id D2.ch;refine⟨_,rfl,_,rfl,.inl ⟨dl,_,rfl,.inl (av.of hdl),fun la hla=>?_⟩⟩;have Sa:ac H2 (upd H2 la (.lst (us.map V.ref))):=ac.new hla;have ha:mB (upd H2 la (.lst (us.map V.ref))) la L:=⟨us,aa,Paired.mapP hus fun _ _ r=>Sa _ _ r⟩;generalize upd H2 la (.lst (us.map V.ref))=H3 at Sa ha ⊢;refine⟨_,rfl,M,la,u,L,sg,J0,J1,J2,ds,rfl,M2.same Sa,ha,by omega,okL,bp.of (Sa _ _ hat2),.inr (Sa _ _ hat2),fun cb N H4 hN riN memN _ S4=>?_⟩;have S24:=Sa.trans S4;refine⟨_,rfl,_,rfl,_,rfl,t,dl,u,l1,l2,l3,l4,ts,L,sg,J0,J1,J2,ds,rfl,T2.same S24,m,(D2.same S24).ch,by omega,okL,bp.of (S24 _ _ hat2),fun nl N' H5 hN' riN' memN' _ S5=>?_⟩;have eN:N=N':=riN.uniq riN' fun f=>by rw[memN,memN']
 refine⟨_,_,(hN.same S5).dIn,(hN'.c (K:=K)).dIn,aO (fX _) (by decide),aO (fX _) (by decide),_,rfl,?_⟩;rw[zzr1 (by rw[eN])];have S25:=S24.trans S5;refine ck ⟨_,rfl,_,rfl,_,rfl,t,dl,u,l1,l2,l3,l4,ts,L,sg,J0,J1,J2,ds,rfl,T2.same S25,m,(D2.same S25).ch,by omega,okL,bp.of (S25 _ _ hat2),fun nl' N2 H6 hN2 riN2 memN2 _ S6=>?_⟩;have S26:=S25.trans S6;refine k nl' N2 _ H6 (hp2.ex S26) (T2.same S26) (M2.same S26) ⟨hN2,riN2.nd,fun f hf=>((memN2 f).1 hf).2,fun f hf=>?_⟩;obtain⟨g,hg,rfl⟩:=aJ.1 ((memN2 f).1 hf).1;exact vW (D2.fc g hg)
inductive sp_law53(K:Za)(vs:List V)(H:Hp)(Q:VK)(E:XK):Prop
 |mk (a:Addr) (ns:List Int):(vs=[.ref a])->(av K H a (ns.map V.int))->(ns.length<=63)->(∀H',Q (.bl true) H')->sp_law53 K vs H Q E
theorem xH{K:Za}{C:Addr}{vs:List V}{H:Hp}{Q:VK}{E:XK}(h:sp_law53 K vs H Q E):y_ K eQ (dP K) (lJ K C) gL (kh K) (kg K) (ka K C) (ki K C) ko (qX C) (gW C) kf (mW K) (bC Q) (start wb vs) H:=by
 obtain⟨a,ns,rfl,hs,hn,k⟩:=h;refine⟨_,rfl,a,ns,rfl,hs,hn,fun p c H1 _ hp1 S1=>?_⟩;refine⟨3,rfl,by decide,by decide,?_⟩
 let zI1:Nat->L2.St->Hp->Prop:=fun i σ H'=>NE8 fun(x2 x3 x4 x5 x6 x7 x8 x9:Option V)=>yX fun(x10:Option V) (_:Unit)=>σ=[some (.ref a),some (.ref p),x2,x3,x4,x5,x6,x7,x8,x9,x10]/\fH H' p c
 refine fM (lo:=0) (n:=Int.toNat 3) zI1 ⟨_,_,_,_,_,_,_,_,_,(),rfl,hp1⟩ ?_ ?_;rotate_left
 ·rintro σ G ⟨x2,x3,x4,x5,x6,x7,x8,x9,x10,_,rfl,_⟩;exact k G
 rintro i σ H2 hi ⟨x2,x3,x4,x5,x6,x7,x8,x9,x10,_,rfl,hp2⟩;refine⟨_,rfl,_,rfl,de hp2 (by decide) (by decide) fun up H2' u0 u1 hp2' ex2'=>?_⟩;refine⟨p,c,4,up,rfl,hp2',by decide,by decide,u0,by omega,fun t l1 l2 l3 l4 ts J0 J1 J2 ds H3 T3 m hrl few hp3 ex3=>?_⟩;have zr:J2.length<=4:=hrl;refine⟨_,rfl,t,l1,l2,l3,l4,ts,J0,J1,J2,ds,rfl,T3,m,fun M H4 M4 S4=>?_⟩;have hp4:=hp3.ex S4;have T4:=T3.same S4;clear T3 hp3 ex3 S4 hp2 hp2' ex2';refine⟨_,rfl,M,J0,J1,J2,ds,rfl,M4,fun ch H5 hch chn S5=>?_⟩;refine⟨_,rfl,_,rfl,t,l1,l2,l3,l4,ts,J0,J1,J2,ds,rfl,T4.same S5,m,fun b H6 hb S6=>⟨(by show 1<=aj;decide),fun bl hbl=>?_⟩⟩;have S7:ac H6 (upd H6 bl (.lst [.ref b])):=ac.new hbl;have hb7:mB (upd H6 bl (.lst [.ref b])) bl [closF J2 ds (J2.take 1)]:=⟨[b],aa,.cons (S7 _ _ hb) .nil⟩;show n_ K (.ref ch) (.ref bl) (upd H6 bl (.lst [.ref b])) _;generalize upd H6 bl (.lst [.ref b])=H7 at S7 hb7 ⊢;have S57:=S6.trans S7;have hch7:=hch.same S57;refine⟨_,_,(hch7.c (K:=K)).dIn,(hb7.c (K:=K)).dIn,aO (fX _) (by decide),aO (fX _) (by decide),_,rfl,?_⟩;rw[zzr1 rfl];refine ck ?_;obtain⟨cs,hc7,hcs⟩:=hch7;refine⟨_,rfl,.inl ⟨rfl,_,av.of hc7⟩,(by show 1<=aj;decide),fun zz hzz=>?_⟩;have S8:ac H7 (upd H7 zz (.tup [.str "zz"])):=ac.new hzz;generalize upd H7 zz (.tup [.str "zz"])=H8 at S8 ⊢;have lc:=Paired.length hcs;refine⟨ch,_,_,rfl,rfl,S8 _ _ hc7,by rw[af,lc];exact am (by show 1<=1000;decide),?_⟩;have S49:ac H4 (upd H8 ch (.lst (cs.map V.ref++[.ref zz]))):=fun b o q=>by rw[ai (ae q chn)];exact S8 _ _ (S57 _ _ (S5 _ _ q))
 generalize upd H8 ch (.lst (cs.map V.ref++[.ref zz]))=H9 at S49 ⊢;clear hch hcs hc7 S8 S57 hb7 hb S5 S6 S7 lc;refine⟨_,rfl,M,J0,J1,J2,ds,rfl,M4.same S49,fun ch2 H10 hch2 _ S10=>?_⟩;have S410:=S49.trans S10;refine⟨_,rfl,t,l1,l2,l3,l4,ts,J0,J1,J2,ds,rfl,T4.same S410,m,fun b H11 hb S11=>⟨(by show 1<=aj;decide),fun bl hbl=>?_⟩⟩;have S12:ac H11 (upd H11 bl (.lst [.ref b])):=ac.new hbl;have hb12:mB (upd H11 bl (.lst [.ref b])) bl [closF J2 ds (J2.take 1)]:=⟨[b],aa,.cons (S12 _ _ hb) .nil⟩;show n_ K (.ref ch2) (.ref bl) (upd H11 bl (.lst [.ref b])) _;generalize upd H11 bl (.lst [.ref b])=H12 at S12 hb12 ⊢;refine⟨_,_,((hch2.same (S11.trans S12)).c (K:=K)).dIn,(hb12.c (K:=K)).dIn,aO (fX _) (by decide),aO (fX _) (by decide),_,rfl,?_⟩;rw[zzr1 rfl];refine ck ?_;have S412:=S410.trans (S11.trans S12);clear hch2 hb12 hb S10 S11 S12 S49 S410;refine⟨_,rfl,t,l1,l2,l3,l4,ts,J0,J1,J2,ds,rfl,T4.same S412,m,fun b H13 hb S13=>⟨(by show 1<=aj;decide),fun dl hdl=>?_⟩⟩;have S14:ac H13 (upd H13 dl (.lst [.ref b])):=ac.new hdl;have fne:closF J2 ds (J2.take 1)≠[]:=by
  cases hrm:J2 with
  |nil=>exact absurd hrm m.rooms0
  |cons r rs =>
   intro e;have:r∈closF (r::rs) ds ((r::rs).take 1):=lQ.2 ⟨cQ,r,cQ,.inl rfl⟩;rw[e]at this;cases this
 have D14:gu J2 (upd H13 dl (.lst [.ref b])) dl [closF J2 ds (J2.take 1)]:=⟨⟨[b],aa,.cons (S14 _ _ hb) .nil⟩,by simp,fun f hf=>by rw[bM.1 hf];exact fne,fun f hf=>by rw[bM.1 hf];exact wH⟩;generalize upd H13 dl (.lst [.ref b])=H14 at S14 D14 ⊢;have S414:=S412.trans (S13.trans S14);have hp14:=hp4.ex S414;have T14:=T4.same S414;have M14:=M4.same S414;clear S412 S13 S14 hb S414 T4 M4 hp4;refine⟨_,rfl,de hp14 (by decide) (by decide) fun sn H15 s0 s1 hp15 ex15=>⟨_,_,rfl,rfl,_,rfl,by omega,by omega,?_⟩⟩
 let zI2:Nat->L2.St->Hp->Prop:=fun j σ H'=>NE6 fun(dl:Addr) (L:List (List Str)) (x7 x8 x9 x10:Option V)=>AW (σ=[some (.ref a),some (.ref p),some (.int (0+(i:Nat))),some (.ref t),some (.ref M),some (.ref ch),some (.ref dl),x7,x8,x9,x10]) (fH H' p c) (iJ H' t l1 l2 l3 l4 ts J0 J1 J2 ds) (aZ C H' M J0 J1 J2 ds) (gu J2 H' dl L)
 refine fM zI2 ⟨dl,_,_,_,_,_,rfl,hp15,T14.ex hp14 ex15,M14.ex hp14 ex15,D14.ex hp14 ex15⟩ ?_ ?_;rotate_left
 ·rintro σ G ⟨dl,L,x7,x8,x9,x10,rfl,hpG,_,_,_⟩;exact⟨_,_,_,_,_,_,_,_,_,(),rfl,hpG⟩
 clear hp14 T14 M14 D14 hp15 ex15;rintro j σ G1 hj ⟨dl,L,x7,x8,x9,x10,rfl,hpG1,TG1,MG1,DG1⟩;have lL:=DG1.len zr;have okL:=DG1.ok zr;refine⟨2,rfl,by decide,by decide,?_⟩
 let zI3:Nat->L2.St->Hp->Prop:=fun q σ H'=>yX fun(x8 x9:Option V)=>σ=[some (.ref a),some (.ref p),some (.int (0+(i:Nat))),some (.ref t),some (.ref M),some (.ref ch),some (.ref dl),some (.int (0+(j:Nat))),x8,x9,x10]/\ac G1 H'
 refine fM (lo:=0) (n:=Int.toNat 2) zI3 ⟨_,_,rfl,ac.refl _⟩ ?_ ?_
 ·rintro q σ G2 hq ⟨x8,x9,rfl,S2⟩;have DG2:=DG1.same S2;obtain⟨us,hdl2,hus⟩:=DG2.ch;refine⟨_,rfl,_,rfl,.inl ⟨dl,_,rfl,.inl (av.of hdl2),fun la hla=>?_⟩⟩;have Sa:ac G2 (upd G2 la (.lst (us.map V.ref))):=ac.new hla;have ha:mB (upd G2 la (.lst (us.map V.ref))) la L:=⟨us,aa,Paired.mapP hus fun _ _ r=>Sa _ _ r⟩;show ki K C [.ref M,.ref la] (upd G2 la (.lst (us.map V.ref))) _ _;generalize upd G2 la (.lst (us.map V.ref))=G3 at Sa ha ⊢;have S13:=S2.trans Sa;refine⟨M,la,L,J0,J1,J2,ds,rfl,MG1.same S13,ha,by omega,okL,fun hl N G4 hN riN memN hln S4=>?_⟩;have S14:=S13.trans S4;have hln1:G1 hl=none:=S13.free hln;obtain⟨us4,hdl4,hus4⟩:=(DG1.same S14).ch;refine⟨_,rfl,_,rfl,.inl ⟨dl,_,rfl,.inl (av.of hdl4),fun lb hlb=>?_⟩⟩;have Sb:ac G4 (upd G4 lb (.lst (us4.map V.ref))):=ac.new hlb;have hb:mB (upd G4 lb (.lst (us4.map V.ref))) lb L:=⟨us4,aa,Paired.mapP hus4 fun _ _ r=>Sb _ _ r⟩;show ka K C [.ref M,.ref lb] (upd G4 lb (.lst (us4.map V.ref))) _ _;generalize upd G4 lb (.lst (us4.map V.ref))=G5 at Sb hb ⊢;have S15:=S14.trans Sb;refine⟨M,lb,L,J0,J1,J2,ds,rfl,MG1.same S15,hb,okL,fun ol G6 hO oln S6=>⟨(by show 2<=aj;decide),fun fd hfd=>?_⟩⟩;have S16:=S15.trans S6;have oln1:G1 ol=none:=S15.free oln;have nho:ol≠hl:=fun z=>by obtain⟨ws,hh,_⟩:=hN;rw[z]at oln;have:=Sb _ _ hh;rw[oln]at this;cases this
  have Sf:ac G6 (upd G6 fd (.lst [.ref hl,.ref ol])):=ac.new hfd;have f7:upd G6 fd (.lst [.ref hl,.ref ol]) fd=some (.lst [.ref hl,.ref ol]):=aa;generalize upd G6 fd (.lst [.ref hl,.ref ol])=G7 at Sf f7 ⊢;have S17:=S16.trans Sf;have hN7:=hN.same (Sb.trans (S6.trans Sf));have hO7:=hO.same Sf;have D7:=DG1.same S17;refine⟨_,rfl,_,rfl,_,rfl,t,dl,l1,l2,l3,l4,ts,L,J0,J1,J2,ds,rfl,TG1.same S17,m,D7.ch,by omega,okL,D7.nd,D7.ne,fun hl' N' G8 hN' riN' memN' _ S8=>?_⟩;have eN:N=N':=riN.uniq riN' fun f=>by rw[memN,memN']
  have S18:=S17.trans S8;refine⟨_,rfl,_,rfl,t,dl,l1,l2,l3,l4,ts,L,J0,J1,J2,ds,rfl,TG1.same S18,m,(DG1.same S18).ch,by omega,okL,fun ol' G9 hO' _ S9=>⟨(by show 2<=aj;decide),fun du hdu=>?_⟩⟩;have Sd:ac G9 (upd G9 du (.lst [.ref hl',.ref ol'])):=ac.new hdu;have d10:upd G9 du (.lst [.ref hl',.ref ol']) du=some (.lst [.ref hl',.ref ol']):=aa;show n_ K (.ref fd) (.ref du) (upd G9 du (.lst [.ref hl',.ref ol'])) _;generalize upd G9 du (.lst [.ref hl',.ref ol'])=G10 at Sd d10 ⊢;have S710:=S8.trans (S9.trans Sd);have hN10:=hN7.same S710;have hO10:=hO7.same S710;refine⟨_,_,vD (S710 _ _ f7) hN10 hO10,vD d10 ((hN'.same (S9.trans Sd)).c (K:=K)) ((hO'.same Sd).c (K:=K)),aO (pP _ _) (by decide),aO (pP _ _) (by decide),_,rfl,?_⟩;rw[zzr1 (by rw[eN])];refine ck ?_;have S110:=S17.trans S710;obtain⟨ws,hhl,hws⟩:=hN10;obtain⟨os,hol,hos⟩:=hO10;have f10:=S710 _ _ f7;refine⟨_,rfl,fd,_,0,_,rfl,rfl,av.of f10,dz (j:=0) rfl,.inl ⟨rfl,_,av.of hhl⟩,(by show 1<=aj;decide),fun z1 hz1=>?_⟩;have Sz:ac G10 (upd G10 z1 (.tup [.str "zz"])):=ac.new hz1;generalize upd G10 z1 (.tup [.str "zz"])=G11 at Sz ⊢;have lN:N.length<=32:=by
   have h1:=gP riN.nd (R:=L++L.map fun g=>behF J2 ds g aK) fun y hy=>aR.2 ((memN y).1 hy).1;rw[aW,af]at h1;omega
  refine⟨hl,_,_,rfl,rfl,Sz _ _ hhl,by rw[af,Paired.length hws];exact am (by omega),?_⟩;have S112:ac G1 (upd G11 hl (.lst (ws.map V.ref++[.ref z1]))):=fun b o q=>by rw[ai (ae q hln1)];exact Sz _ _ (S110 _ _ q)
  have nfh:fd≠hl:=fun z=>by have:=Sf.trans S710;rw[z]at hfd;obtain⟨w2,h2,_⟩:=hN;have:=(Sb.trans S6) _ _ h2;rw[hfd]at this;cases this
  have f12:upd G11 hl (.lst (ws.map V.ref++[.ref z1])) fd=some (.lst [.ref hl,.ref ol]):=by rw[ai nfh];exact Sz _ _ f10
  have o12:upd G11 hl (.lst (ws.map V.ref++[.ref z1])) ol=some (.lst (os.map V.ref)):=by rw[ai nho];exact Sz _ _ hol
  generalize upd G11 hl (.lst (ws.map V.ref++[.ref z1]))=G12 at S112 f12 o12 ⊢;refine⟨_,rfl,fd,_,1,_,rfl,rfl,av.of f12,dz (j:=1) rfl,.inl ⟨rfl,_,av.of o12⟩,(by show 2<=aj;decide),fun z2 hz2=>?_⟩;have Sy:ac G12 (upd G12 z2 (.tup [.str "say",.str "zz"])):=ac.new hz2;generalize upd G12 z2 (.tup [.str "say",.str "zz"])=G13 at Sy ⊢;have lo:(tD J1 ds L).length<=5:=by
   unfold tD;refine aO (b_ _ _) ?_;have:=m.says4;rw[aW,af];show _+1<=5;omega
  refine⟨ol,_,_,rfl,rfl,Sy _ _ o12,by rw[af,Paired.length hos];exact am (by omega),_,_,rfl,fun b o q=>?_⟩;rw[ai (ae q oln1)];exact Sy _ _ (S112 _ _ q)
 ·rintro σ G2 ⟨x8,x9,rfl,S2⟩;have hpG2:=hpG1.ex S2;refine⟨_,rfl,de hpG2 (by decide) (by decide) fun r G3 _ _ hp3 ex3=>⟨rfl,_,rfl,?_⟩⟩;have T3:=(TG1.same S2).ex hpG2 ex3;have M3:=(MG1.same S2).ex hpG2 ex3;have D3:=(DG1.same S2).ex hpG2 ex3;by_cases cr:(r:Int)=0
  ·rw[zzr1 (by rw[cr])];refine c9 ⟨_,rfl,_,rfl,t,dl,l1,l2,l3,l4,ts,L,J0,J1,J2,ds,rfl,T3,m,D3.ch,by omega,okL,D3.nd,D3.ne,fun hl N G4 hN riN memN _ S4=>?_⟩;refine xm (hp3.ex S4) (T3.same S4) m (M3.same S4) ⟨hN,riN.nd,fun f hf=>((memN f).1 hf).2,fun f hf=>?_⟩ zr fun dl' L' y H' a1 a2 a3 a4=>⟨dl',L',_,_,_,y,rfl,a1,a2,a3,a4⟩;rcases((memN f).1 hf).1 with z|z
   ·exact D3.fc f z
   ·obtain⟨g,hg,rfl⟩:=aJ.1 z;exact vW (D3.fc g hg)
  ·rw[zzr0 (by intro z;injection z with z;exact cr z)];exact ck (xm hp3 T3 m M3 D3 zr fun dl' L' y H' a1 a2 a3 a4=>⟨dl',L',_,_,_,y,rfl,a1,a2,a3,a4⟩)
def xz(K:Za):Sp:=fun vs H Q E=>sp_as_keys K vs H Q E∨eW K vs H Q E
def fx(i:Nat):Stmt:=PySem.Challenge.pw_mumtrial_k53_charges_step_by_step.main.body.getD i (.Pass ⟨0,0,0,0⟩)
local macro_rules | `(tactic| walk_at "s")=>`(tactic| exact⟨rfl,rfl,rfl,by decide +kernel,rfl,by decide +kernel,by decide +kernel⟩)
local macro_rules | `(tactic| walk_at "l")=>`(tactic| (intro _ _ _ _ h;first|exact len_h h|exact len_g h|(cases h;subst_vars;rfl)|(obtain⟨_,_,h,_⟩:=h;subst h;rfl)|((repeat obtain⟨_,h⟩:=h);subst_vars;rfl)))
theorem zzlS{us:List Value}{n:Nat}(h:us.length=n+1):∃ a t,us=a::t∧t.length=n:=by
  cases us with
  |nil=>cases h
  |cons a t=>exact⟨a,t,rfl,Nat.succ.inj h⟩
local macro_rules | `(tactic| walk_at "b")=>`(tactic| (intro _ _ _ _ _ _ us hl;(repeat (have h:=zzlS hl;clear hl;obtain⟨_,_,e,hl⟩:=h;subst e));cases List.eq_nil_of_length_eq_zero hl;rfl))
def Bn(K:Za)(x qual:Str)(st:Stmt)(f:Addr):Prop:=∃(oc:Value) (od an:Option Addr) (sl:Array (Option Value)) (kV dc pm cd ct:Value),
 K.lookup f=some ⟨oc,od,.func (h_ x qual (fG st) (d4 st) (bu st) .none kV dc pm an cd ct),sl⟩/\ni K cd qual=true/\gF K (.ref f)=true
theorem yr{K:Za}{x qual:Str}{st:Stmt}{f:Addr}{oc:Value}{od an:Option Addr}{sl:Array (Option Value)}{kV dc pm cd ct:Value}(l:K.lookup f=some ⟨oc,od,.func (h_ x qual (fG st) (d4 st) (bu st) .none kV dc pm an cd ct),sl⟩)
  (c:ni K cd qual=true) (k:gF K (.ref f)=true):Bn K x qual st f:=⟨oc,od,an,sl,kV,dc,pm,cd,ct,l,c,k⟩
def gC(K:Za)(x:Str)(st:Stmt):Prop:=∃f,cq K bJ x=some (some (.ref f))/\Bn K x x st f
theorem fnG_mk{K:Za}{x:Str}{st:Stmt}{f:Addr}{oc:Value}{od an:Option Addr}{sl:Array (Option Value)}{kV dc pm cd ct:Value}(a:cq K bJ x=some (some (.ref f)))(l:K.lookup f=some ⟨oc,od,.func (h_ x x (fG st) (d4 st) (bu st) .none kV dc pm an cd ct),sl⟩)
  (c:ni K cd x=true) (k:gF K (.ref f)=true):gC K x st:=⟨f,a,yr l c k⟩
def yU(K:Za)(C:Addr)(m qual:Str)(st:Stmt):Prop:=∃f,dL K (.ref C) m=some (some (.ref f))/\sB K (.ref f)=true/\Bn K m qual st f
theorem fnM_mk{K:Za}{C:Addr}{m qual:Str}{st:Stmt}{f:Addr}{oc:Value}{od an:Option Addr}{sl:Array (Option Value)}{kV dc pm cd ct:Value}(a:dL K (.ref C) m=some (some (.ref f)))(i:sB K (.ref f)=true)
  (l:K.lookup f=some ⟨oc,od,.func (h_ m qual (fG st) (d4 st) (bu st) .none kV dc pm an cd ct),sl⟩) (c:ni K cd qual=true) (k:gF K (.ref f)=true):yU K C m qual st:=⟨f,a,i,yr l c k⟩
theorem Bn.fun_{K:Za}{x qual:Str}{st:Stmt}{f:Addr}(T:Bn K x qual st f):∃fd,A3 K x qual st f fd:=by
 obtain⟨oc,od,an,sl,kV,dc,pm,cd,ct,l,c,k⟩:=T;exact⟨_,yq (st:=st) l c k⟩
def AS(K:Za)(a:Addr)(ws:Zb):Prop:=∀H,bp K H a (ws.map V.str)
theorem vF{K:Za}{a:Addr}{ws:Zb}{o:Obj}{its:Array Value}{n:Nat}(l:K.lookup a=some o)(c:o.cls=.type "tuple")(d:o.data=.seq its n)(z:its.size<=aj)(v:aL (ws.map V.str) its.toList):AS K a ws :=
 fun _=>.inr ⟨o,its,n,l,c,d,z,v⟩
section
variable{P:bm}{w:World}{K:Za}{mg:Str->Option Value}{base h:Heap}{C:Addr}{x qual:Str}{st:Stmt}{N ps:Zb}{k:Nat}{sp:Sp}
abbrev yS(ps:Zb)(sp:Sp):Prop:=∀vs H Q E,sp vs H Q E->vs.length=ps.length
abbrev BodyOk(CX:xc)(P:bm)(w:World)(K:Za)(mg:Str->Option Value)(base:Heap)(qual:Str)(st:Stmt)(N:Zb)(k:Nat)(sp:Sp)(nox:Cx->Cx):Prop:=N.Nodup->∀(f:Addr) (cdv:Value) (A:Around) (outer:List Env) (s:Shared) (H:Hp) (vs:List V) (Q:VK) (E:XK),c_ k (A.deeper (envOfC qual (bu st) s.heap.objs.size f cdv))->(A.deeper (envOfC qual (bu st) s.heap.objs.size f cdv)).units+16<cLine->sp vs H Q E ->
 ∃t,uc (nox (u5 CX P w K mg base N qual (bu st) f cdv A outer s H E)) (d4 st) t/\t (bC Q) (start N vs) H
abbrev vp(x qual:Str)(st:Stmt)(ps:Zb):Prop:=∀(kV doc pm:Value) (an:Option Addr) (cdv ct:Value) (us:Zf),us.length=ps.length->bindArgs (h_ x qual (fG st) (d4 st) (bu st) .none kV doc pm an cdv ct) ⟨us,[]⟩=pure (ps.zip us)
theorem dG(X:K.In h)(G:h.Ns bJ mg)(T:gC K x st)(b:BodyOk CX0 P w K mg base x st N k sp Cx.nox)(bi:vp x x st ps)(S:g6 N ps (bu st):=by walk_at "s")(l:yS ps sp:=by walk_at "l"):Def P w K mg base x ps (k+1) sp:=by
 obtain⟨f,a,t⟩:=T;obtain⟨fd,F⟩:=t.fun_;exact⟨f,fd,F.ok S l fun cdv A outer s H vs Q E hr h=>b S.nd f cdv A outer s H vs Q E hr (vX hr) h,gx X G a,F.kp,F.binds bi⟩
theorem dM(cl:xb K C)(T:yU K C x qual st)(b:BodyOk CX0 P w K mg base qual st N k sp Cx.nox)(bi:vp x qual st ps)(S:g6 N ps (bu st):=by walk_at "s")(l:yS ps sp:=by walk_at "l"):xa P w K mg base C x ps (k+1) sp:=by
 obtain⟨f,a,i,t⟩:=T;obtain⟨fd,F⟩:=t.fun_;exact⟨f,fd,F.ok S l fun cdv A outer s H vs Q E hr h=>b S.nd f cdv A outer s H vs Q E hr (vX hr) h,cl,⟨a,i,F.kp⟩,F.binds bi⟩
theorem dN{y:Str}(cm:mg y=some (.ref C))(mk:sA K C=true)(kc:gF K (.ref C)=true)(T:yU K C "__init__" qual st)(b:BodyOk CX0 P w K mg base qual st N k sp Cx.nox)(bi:vp "__init__" qual st ps)(S:g6 N ps (bu st):=by walk_at "s")(l:yS ps sp:=by walk_at "l"):New P w K mg base y C ps (k+1) sp:=by
 obtain⟨f,a,i,t⟩:=T;obtain⟨fd,F⟩:=t.fun_;exact⟨f,fd,F.ok S l fun cdv A outer s H vs Q E hr h=>b S.nd f cdv A outer s H vs Q E hr (vX hr) h,cm,⟨mk,a,i,kc⟩,F.binds bi⟩
end
structure Zs(mg:Str->Option Value):Prop where
 all:mg "all"=none
 any:mg "any"=none
 dict:mg "dict"=none
 enumerate:mg "enumerate"=none
 len:mg "len"=none
 list:mg "list"=none
 range:mg "range"=none
 sorted:mg "sorted"=none
 tuple:mg "tuple"=none
structure Cs(K:Za)(mg:Str->Option Value)(C a_STILL a_HUSH:Addr):Prop where
 LETTERS:Gc mg "LETTERS" (.str "abcdefghijklmnopqrstuvwxyz")
 LONGEST_NAME:Gc mg "LONGEST_NAME" (.int 8)
 MOST_WORDS:Gc mg "MOST_WORDS" (.int 4)
 MOST_ROOMS:Gc mg "MOST_ROOMS" (.int 150)
 MOST_DOORS:Gc mg "MOST_DOORS" (.int 2000)
 STILL:Gc mg "STILL" (.ref a_STILL)
 HUSH:Gc mg "HUSH" (.ref a_HUSH)
 still:AS K a_STILL aN
 hush:AS K a_HUSH aK
 mc:MC K C
 cm:mg "Machine"=some (.ref C)
 makes:sA K C=true
 kc:gF K (.ref C)=true
structure Ts(K:Za)(C:Addr):Prop where
 f_law_spread:gC K "_law_spread" (fx 38)
 f_law_open:gC K "_law_open" (fx 39)
 f_law_anew:gC K "_law_anew" (fx 40)
 f_law_take:gC K "_law_take" (fx 41)
 f_law_names:gC K "_law_names" (fx 42)
 f_law_put:gC K "_law_put" (fx 44)
 f_law_draw_doors:gC K "_law_draw_doors" (fx 45)
 f_law_model:gC K "_law_model" (fx 46)
 f_is_name:gC K "is_name" (fx 10)
 f_as_keys:gC K "as_keys" (fx 11)
 f_first_wrong_name:gC K "first_wrong_name" (fx 12)
 f_door_signs:gC K "door_signs" (fx 13)
 f_first_wrong_door:gC K "first_wrong_door" (fx 14)
 f_goals_by_start_and_sign:gC K "goals_by_start_and_sign" (fx 15)
 f_led_by_still:gC K "led_by_still" (fx 16)
 f_first_led_round:gC K "first_led_round" (fx 17)
 f_need_none:gC K "need_none" (fx 18)
 f_need_parts:gC K "need_parts" (fx 19)
 f_doors_by_start:gC K "doors_by_start" (fx 20)
 f_has_asks_alone:gC K "has_asks_alone" (fx 21)
 f_Machine___init__:yU K C "__init__" "Machine.__init__" (gr (fx 22) 0)
 f_law_machine:gC K "_law_machine" (fx 50)
 f_Machine_rooms:yU K C "rooms" "Machine.rooms" (gr (fx 22) 3)
 f_Machine_led_from:yU K C "led_from" "Machine.led_from" (gr (fx 22) 8)
 f_with_still:gC K "with_still" (fx 26)
 f_Machine_goals:yU K C "goals" "Machine.goals" (gr (fx 22) 7)
 f_Machine_is_quiet:yU K C "is_quiet" "Machine.is_quiet" (gr (fx 22) 5)
 f_law_still_on:gC K "_law_still_on" (fx 43)
 f_Machine_doors_from:yU K C "doors_from" "Machine.doors_from" (gr (fx 22) 6)
 f_Machine_asks:yU K C "asks" "Machine.asks" (gr (fx 22) 1)
 f_Machine_says:yU K C "says" "Machine.says" (gr (fx 22) 2)
 f_first_face:gC K "first_face" (fx 27)
 f_face_behind:gC K "face_behind" (fx 28)
 f_signs_in_order:gC K "signs_in_order" (fx 25)
 f_signs_at:gC K "signs_at" (fx 29)
 f_may_come:gC K "may_come" (fx 30)
 f_as_charge:gC K "as_charge" (fx 32)
 f_first_charge:gC K "first_charge" (fx 33)
 f_charge_behind:gC K "charge_behind" (fx 34)
 f_hushed:gC K "hushed" (fx 35)
 f_open_to:gC K "open_to" (fx 36)
 f_law_behind:gC K "_law_behind" (fx 47)
 f_law_begin:gC K "_law_begin" (fx 48)
 f_law_signs:gC K "_law_signs" (fx 49)
 f_law_open_to:gC K "_law_open_to" (fx 51)
 f_law_next:gC K "_law_next" (fx 52)
 f_law_hushed:gC K "_law_hushed" (fx 53)
 f_law53:gC K "law" (fx 54)
section
variable{P:bm}{w:World}{K:Za}{mg:Str->Option Value}{base h:Heap}{C a_STILL a_HUSH:Addr}
section
variable(P:bm)(w:World)(K:Za)(mg:Str->Option Value)(C a_STILL a_HUSH:Addr)
abbrev g8:Prop:=∀base,Def P w K mg base "_law_spread" ["cell","at"] 1 iQ
abbrev oS:Prop:=∀base,Def P w K mg base "_law_open" ["script"] 1 (mW K)
abbrev jS:Prop:=∀base,Def P w K mg base "_law_anew" ["pen"] 1 qY
abbrev f_:Prop:=∀base,Def P w K mg base "_law_take" ["pen","many"] 2 eQ
abbrev iO:Prop:=∀base,Def P w K mg base "_law_names" ["pen","many"] 3 ke
abbrev l5:Prop:=∀base,Def P w K mg base "_law_put" ["doors","door"] 1 n0
abbrev eK:Prop:=∀base,Def P w K mg base "_law_draw_doors" ["pen","asks","says","rooms","full"] 3 eR
abbrev mC:Prop:=∀base,Def P w K mg base "_law_model" ["pen","most","full"] 4 kf
abbrev l6:Prop:=∀base,Def P w K mg base "is_name" ["text"] 1 sp_is_name
abbrev hC:Prop:=∀base,Def P w K mg base "as_keys" ["things"] 1 (xz K)
abbrev gS:Prop:=∀base,Def P w K mg base "as_keys" ["things"] 1 (sp_as_keys K)
abbrev jT:Prop:=∀base,Def P w K mg base "as_keys" ["things"] 1 (eW K)
abbrev dF:Prop:=∀base,Def P w K mg base "first_wrong_name" ["names","most","taken"] 2 (sp_first_wrong_name K)
abbrev g_:Prop:=∀base,Def P w K mg base "door_signs" ["asks","says"] 1 (sp_door_signs K)
abbrev dH:Prop:=∀base,Def P w K mg base "first_wrong_door" ["doors","rooms","signs"] 2 (sp_first_wrong_door K)
abbrev bT:Prop:=∀base,Def P w K mg base "goals_by_start_and_sign" ["doors"] 1 kj
abbrev f8:Prop:=∀base,Def P w K mg base "led_by_still" ["goals","room"] 1 qW
abbrev d_:Prop:=∀base,Def P w K mg base "first_led_round" ["rooms","led"] 1 sp_first_led_round
abbrev gv:Prop:=∀base,Def P w K mg base "need_none" ["part","number"] 1 sp_need_none
abbrev g7:Prop:=∀base,Def P w K mg base "need_parts" ["asks","says","rooms","doors"] 3 sp_need_parts
abbrev eM:Prop:=∀base,Def P w K mg base "doors_by_start" ["rooms","doors"] 1 sp_doors_by_start
abbrev eL:Prop:=∀base,Def P w K mg base "has_asks_alone" ["doors"] 1 sp_has_asks_alone
abbrev l7:Prop:=∀base,New P w K mg base "Machine" C ["self","asks","says","rooms","doors"] 4 (mY C)
abbrev jj:Prop:=∀base,Def P w K mg base "_law_machine" ["told"] 6 (gW C)
abbrev dB:Prop:=∀base,xa P w K mg base C "rooms" ["self"] 1 (ix C)
abbrev dI:Prop:=∀base,xa P w K mg base C "led_from" ["self","room"] 1 (gh C)
abbrev fI:Prop:=∀base,Def P w K mg base "with_still" ["M","rooms"] 2 (sp_with_still C)
abbrev fu:Prop:=∀base,xa P w K mg base C "goals" ["self","room","sign"] 1 (gM C)
abbrev cy:Prop:=∀base,xa P w K mg base C "is_quiet" ["self","room"] 1 (eV C)
abbrev d9:Prop:=∀base,Def P w K mg base "_law_still_on" ["doors","rooms"] 1 (eU K)
abbrev cZ:Prop:=∀base,xa P w K mg base C "doors_from" ["self","room"] 1 (eS C)
abbrev ga:Prop:=∀base,xa P w K mg base C "asks" ["self"] 1 (m5 C)
abbrev ee:Prop:=∀base,xa P w K mg base C "says" ["self"] 1 (j_ C)
abbrev g9:Prop:=∀base,Def P w K mg base "first_face" ["M"] 3 (cE C)
abbrev gB:Prop:=∀base,Def P w K mg base "face_behind" ["M","face","sign"] 3 (mZ K C)
abbrev eJ:Prop:=∀base,Def P w K mg base "signs_in_order" ["M"] 2 (qV C a_HUSH)
abbrev jP:Prop:=∀base,Def P w K mg base "signs_at" ["M","face"] 2 (sp_signs_at C)
abbrev jQ:Prop:=∀base,Def P w K mg base "may_come" ["M","face"] 3 (dQ K C)
abbrev gw:Prop:=∀base,Def P w K mg base "as_charge" ["faces"] 2 (kr K)
abbrev iP:Prop:=∀base,Def P w K mg base "first_charge" ["M"] 4 (qX C)
abbrev fo:Prop:=∀base,Def P w K mg base "charge_behind" ["M","charge","sign"] 4 (lJ K C)
abbrev t_:Prop:=∀base,Def P w K mg base "hushed" ["M","charge"] 5 (ki K C)
abbrev qg:Prop:=∀base,Def P w K mg base "open_to" ["M","charge"] 4 (ka K C)
abbrev fJ:Prop:=∀base,Def P w K mg base "_law_behind" ["told","face","sign"] 2 (n5 K)
abbrev mD:Prop:=∀base,Def P w K mg base "_law_begin" ["told"] 2 ko
abbrev iN:Prop:=∀base,Def P w K mg base "_law_signs" ["told"] 1 gL
abbrev ji:Prop:=∀base,Def P w K mg base "_law_open_to" ["told","charge"] 3 (kg K)
abbrev jR:Prop:=∀base,Def P w K mg base "_law_next" ["told","charge","sign"] 3 (dP K)
abbrev kZ:Prop:=∀base,Def P w K mg base "_law_hushed" ["told","charge"] 4 (kh K)
end
section
variable(X:K.In h)(G:h.Ns bJ mg)(z:Zs mg)(c:Cs K mg C a_STILL a_HUSH)(T:Ts K C)
include X G z c T
theorem o5:g8 P w K mg:=fun base=>dG X G T.f_law_spread (fun S _ _ _ _ _ _ _ _ _ hr hu h=>bK (wr (K:=K) h) (ab (cn (lA Bd (pv 0) (aE xV ah ah)) (ag (aw (pv 0))) ba) (ab (qs 2 S (aE eF (aE bS (aE bS (aE fT (aE eF (pv 0) ah) ah) (aE fT (pv 1) ah)) ah) ah)) (ab (qs 3 S (aE eF (aE bS (aE bS (aE fT (pv 2) (pv 2)) (aE fT (pv 1) ah)) (aE eF (pv 0) ah)) ah)) (ab (qs 4 S (aE eF (aE bS (aE bS (aE fT (pv 3) (pv 3)) (aE fT (pv 2) ah)) ah) ah)) (ag (aw (aE bS (aE fT (aE bS (aE fT (pv 2) ah) (pv 3)) ah) (pv 4))))))))) (by walk_at "b")
theorem sS:oS P w K mg:=fun base=>dG X G T.f_law_open (fun S _ _ _ _ _ _ _ _ _ hr hu h=>bK (zh h) (ab (qs 1 S (qL rfl z.list (a1 (cV gi (pv 0) fD (c6 ah))))) (ab (bx bg rfl (kH rfl z.enumerate (a1 (cV gi (pv 0) (c6 ah) (c6 ah)))) (iD rfl (be (gn 2 S) (be (gn 3 S) gm))) (ag (lM (aE bS (xl (pv 1) (aE eF (pv 2) ah)) (pv 3)) (om (pv 1) (aE eF (pv 2) ah) iz)))) (ag (aw (bt (a3 (pv 1) ah ah))))))) (by walk_at "b")
theorem sU:jS P w K mg:=fun base=>dG X G T.f_law_anew (fun S _ _ _ _ _ _ _ _ _ hr hu h=>bK (zx (K:=K) h) (ab (lM ah (om (pv 0) ah iz)) (ag (aw (pv 0))))) (by walk_at "b")
theorem sR(D_law_spread:g8 P w K mg):f_ P w K mg:=fun base=>dG X G T.f_law_take (fun S _ _ _ _ _ _ _ _ _ hr hu h=>bK (zf h) (ab (cn (lA xX (xl (pv 0) ah) (pv 1)) (ab (qs 2 S (xl (pv 0) ah)) (ab (qs 3 S ah) (ab (cn (lA xX (pv 2) (ql z.len (a1 (xl (pv 0) ah)))) (ag (qs 3 S (xl (xl (pv 0) ah) (pv 2)))) (ag (cn (lA xY (ql z.len (a1 (xl (pv 0) ah))) ah) (ag (qs 3 S (aE eF (xl (xl (pv 0) ah) (aE eF (aE bS (aE fT (pv 2) ah) ah) (ql z.len (a1 (xl (pv 0) ah))))) (aE bS (aE xV ah ah) (pv 2))))) ba))) (ab (lM (aE bS (pv 2) ah) (om (pv 0) ah iz)) (ag (lM (qf hr (D_law_spread base) (a2 (pv 3) (pv 2))) (om (pv 0) ah iz))))))) ba) (ab (qs 4 S (aE eF (xl (pv 0) ah) (pv 1))) (ab (lM (aE vQ (xl (pv 0) ah) (pv 1)) (om (pv 0) ah iz)) (ag (aw (pv 4))))))) (by walk_at "b")
theorem qR(D_law_take:f_ P w K mg):iO P w K mg:=fun base=>dG X G T.f_law_names (fun S _ _ _ _ _ _ _ _ _ hr hu h=>bK (xD h) (ab (qs 2 S bh) (ab (qs 3 S (fz PySem.F.plainAttrs_str PySem.F.slot_str_join PySem.F.type_str_join zQ bh (a1 (qc (eD rfl z.range (a1 ah)) (aQ (by decide)) fun _ _ _ _ _ _=>⟨gc 0,cC,xs' (pv 1) (qf hr (D_law_take base) (a2 (pv 2) ah))⟩)))) (ab (qs 4 S (qf hr (D_law_take base) (a2 (pv 0) ah))) (ab (qs 5 S (qf hr (D_law_take base) (a2 (pv 0) ah))) (ab (qs 6 S (qf hr (D_law_take base) (a2 (pv 0) ah))) (ab (qs 7 S (bt cw)) (ab (bx bg rfl (eD rfl z.range (a1 (pv 1))) (gn 8 S) (ab (qs 9 S (xs' (pv 2) (aE eF (aE bS (pv 5) (aE fT ah (pv 8))) ah))) (ab (qs 10 S (cV uE (pv 3) fD (c6 (aE eF (aE bS (pv 6) (aE fT (pv 8) (aE eF (pv 4) ah))) ah)))) (ab (qs 11 S (xl (bt (a3 ah (ql z.len (a1 (pv 10))) (aE vQ (ql z.len (a1 (pv 10))) ah))) (pv 4))) (ag (bf (fz dC eo em bF (pv 7) (a1 (aE oq (aE oq (cV uE (pv 10) fD (c6 (pv 11))) (pv 9)) (cV uE (pv 10) (c6 (pv 11)) fD)))))))))) (ag (aw (pv 7))))))))))) (by walk_at "b")
theorem uy:l5 P w K mg:=fun base=>dG X G T.f_law_put (fun S _ _ _ _ _ _ _ _ _ hr hu h=>bK (Au h) (ag (cn (yW (fK hu) (pv 1) (pv 0)) (ag (bf (fz dC eo em bF (pv 0) (a1 (pv 1))))) ba))) (by walk_at "b")
theorem j5(D_law_take:f_ P w K mg)(D_law_put:l5 P w K mg):eK P w K mg:=fun base=>dG X G T.f_law_draw_doors (fun S _ _ _ _ _ _ _ _ _ hr hu h=>bK (ph h) (ab (qs 5 S (bt cw)) (ab (qs 6 S (qf hr (D_law_take base) (a2 (pv 0) ah))) (ab (bx bg rfl (kH rfl z.enumerate (a1 (pv 3))) (iD rfl (be (gn 7 S) (be (gn 8 S) gm))) (ab (bx bg rfl (eD rfl z.range (a1 (xl (bt (bX ah (a3 ah ah ah))) (qf hr (D_law_take base) (a2 (pv 0) ah))))) (gn 9 S) (ab (qs 10 S (a_ (a2 bh (xl (pv 2) (qf hr (D_law_take base) (a2 (pv 0) (ql z.len (a1 (pv 2))))))))) (ag (bf (qf hr (D_law_put base) (a2 (pv 5) (a_ (a3 (pv 8) (pv 10) (xl (pv 3) (qf hr (D_law_take base) (a2 (pv 0) (ql z.len (a1 (pv 3)))))))))))))) (ab (bx bg rfl (aH (pv 1)) (gn 11 S) (ag (bx bg rfl (eD rfl z.range (a1 (xl (bt (bX (pv 4) (a3 ah ah ah))) (qf hr (D_law_take base) (a2 (pv 0) ah))))) (gn 9 S) (ag (bf (qf hr (D_law_put base) (a2 (pv 5) (a_ (a3 (pv 8) (a_ (a2 bh (pv 11))) (xl (pv 3) (qf hr (D_law_take base) (a2 (pv 0) (ql z.len (a1 (pv 3))))))))))))))) (ab (qs 12 S (xl (bt (a2 (cV gi (pv 3) (c6 (aE bS (pv 7) ah)) fD) (cV gi (pv 3) fD (c6 (pv 7))))) (pv 6))) (ag (cn (PW.pt (og (lA (AK hu) (pv 12) (bt cw)) (m9 (lA pW (qf hr (D_law_take base) (a2 (pv 0) ah)) ah)))) (ag (bf (qf hr (D_law_put base) (a2 (pv 5) (a_ (a3 (pv 8) (a_ (a1 bh)) (xq (pv 12) (qf hr (D_law_take base) (a2 (pv 0) (ql z.len (a1 (pv 12)))))))))))) ba)))))) (ag (aw (pv 5))))))) (by walk_at "b")
theorem qS(D_law_anew:jS P w K mg)(D_law_take:f_ P w K mg)(D_law_names:iO P w K mg)(D_law_draw_doors:eK P w K mg):mC P w K mg:=fun base=>dG X G T.f_law_model (fun S _ _ _ _ _ _ _ _ _ hr hu h=>bK (xE h) (ab (bf (qf hr (D_law_anew base) (a1 (pv 0)))) (ab (qs 3 S (qf hr (D_law_names base) (a2 (pv 0) ah))) (ab (qs 4 S (cV gi (pv 3) fD (c6 (aE bS ah (xl (bt (bX ah (bX ah (bX ah (a3 ah ah ah))))) (qf hr (D_law_take base) (a2 (pv 0) ah))))))) (ab (qs 5 S (cV gi (pv 3) (c6 ah) (c6 (aE bS ah (xl (bt (bX ah (bX ah (bX ah (a3 ah ah ah))))) (qf hr (D_law_take base) (a2 (pv 0) ah))))))) (ab (qs 6 S (qf hr (D_law_names base) (a2 (pv 0) (aE bS ah (qf hr (D_law_take base) (a2 (pv 0) (pv 1))))))) (ab (qs 7 S (qf hr (D_law_draw_doors base) (bX (pv 0) (bX (pv 4) (a3 (pv 5) (pv 6) (pv 2)))))) (ag (aw (a_ (bX (pv 4) (a3 (pv 5) (pv 6) (pv 7))))))))))))) (by walk_at "b")
theorem uz:l6 P w K mg:=fun base=>dG X G T.f_is_name (fun S _ _ _ _ _ _ _ _ _ hr hu h=>bK (uJ h) (ag (aw (xU (ecm xW (pv 0) bh) (xU (ecm Bc (ql z.len (a1 (pv 0))) (hU rfl c.LONGEST_NAME)) (AF (qB (mz rfl) z.all boot_all (a1 (qc (AC (pv 0)) (aQ (by decide)) fun _ _ _ _ _ _=>⟨gc 0,cC,eci uQ (pv 0) (hU rfl c.LETTERS)⟩))))))))) (by walk_at "b")
theorem sV:hC P w K mg:=fun base=>dG X G T.f_as_keys (N:=qe) (fun S _ _ _ _ _ _ _ _ _ hr hu h=>by rcases h with h|h;(exact bK (uK h) (ab (qs 1 S kJ) (ab (bx bg rfl (aH (pv 0)) (gn 2 S) (ag (gl hu (pv 1) (pv 2) gO rfl))) (ag (aw (pv 1))))));(exact bK (tq h) (ab (qs 1 S kI) (ab (bx bg rfl (aH (pv 0)) (gn 2 S) (ag (xS hu (pv 1) (pv 2) gO rfl))) (ag (aw (pv 1))))))) (by walk_at "b") (l:=fun vs H Q E h=>by rcases h with h|h<;>(cases h;subst_vars;rfl))
theorem uA(D_as_keysX:hC P w K mg):gS P w K mg:=fun base=>Def.weak (D_as_keysX base) (fun _ _ _ _ h=>.inl h)
theorem sW(D_as_keysX:hC P w K mg):jT P w K mg:=fun base=>Def.weak (D_as_keysX base) (fun _ _ _ _ h=>.inr h)
theorem i5(D_is_name:l6 P w K mg)(D_as_keys:gS P w K mg):dF P w K mg:=fun base=>dG X G T.f_first_wrong_name (fun S _ _ _ _ _ _ _ _ _ hr hu h=>bK (i7 h) (ab (cn (lA pW (ql z.len (a1 (pv 0))) ah) (ag (aw ah)) ba) (ab (qs 3 S (qf hr (D_as_keys base) (a1 (pv 2)))) (ab (bx bg rfl (kH rfl z.enumerate (a1 (pv 0))) (iD rfl (be (gn 4 S) (be (gn 5 S) gm))) (ab (cn (PW.pt (tu (lA pW (pv 4) (pv 1)) (tu (gy (lO hu (pv 5) (pv 3))) (uM (AA (rj (qf hr (D_is_name base) (a1 (pv 5))))))))) (ag (aw (pv 4))) ba) (ag (gl hu (pv 3) (pv 5) gO rfl)))) (ag (aw uP)))))) (by walk_at "b")
theorem o9:g_ P w K mg:=fun base=>dG X G T.f_door_signs (fun S _ _ _ _ _ _ _ _ _ hr hu h=>bK (pj c.still h) (ag (aw (aE jA (aE jA (qc (aH (pv 0)) (aQ (by decide)) fun _ _ _ _ _ _=>⟨gc 0,cC,a_ (a2 bh (pv 0))⟩) (qc (aH (pv 1)) (aQ (by decide)) fun _ _ _ _ _ _=>⟨gc 0,cC,a_ (a2 bh (pv 0))⟩)) (bt (a1 (hU rfl c.STILL))))))) (by walk_at "b")
theorem i6(D_as_keys:gS P w K mg):dH P w K mg:=fun base=>dG X G T.f_first_wrong_door (fun S _ _ _ _ _ _ _ _ _ hr hu h=>bK (i8 h) (ab (qs 3 S (qf hr (D_as_keys base) (a1 (pv 1)))) (ab (qs 4 S kI) (ab (bx bg rfl (kH rfl z.enumerate (a1 (pv 0))) (iD rfl (be (gn 5 S) (be (gn 6 S) gm))) (ab (cn (PW.pt (tu (lA pW (pv 5) (hU rfl c.MOST_DOORS)) (uM (gy (lO hu (pv 6) (pv 4)))))) (ag (aw (pv 5))) ba) (ab (cn (PW.pt (tu (gy (iS hu (xq (pv 6) ah) (pv 3))) (tu (yW (fK hu) (xq (pv 6) ah) (pv 2)) (uM (gy (iS hu (xq (pv 6) ah) (pv 3))))))) (ag (aw (pv 5))) ba) (ag (gl hu (pv 4) (pv 6) gO rfl))))) (ag (aw uP)))))) (by walk_at "b")
theorem fR:bT P w K mg:=fun base=>dG X G T.f_goals_by_start_and_sign (fun S _ _ _ _ _ _ _ _ _ hr hu h=>bK (fS h) (ab (qs 1 S kI) (ab (bx bg rfl (aH (pv 0)) (iD rfl (be (gn 2 S) (be (gn 3 S) (be (gn 4 S) gm)))) (ag (bf (fz dC eo em bF (fz PySem.F.plainAttrs_dict PySem.F.slot_dict_setdefault PySem.F.type_dict_setdefault (wB hu) (pv 1) (a2 (a_ (a2 (pv 2) (pv 3))) (bt cw))) (a1 (pv 4)))))) (ag (aw (pv 1)))))) (by walk_at "b")
theorem mJ:f8 P w K mg:=fun base=>dG X G T.f_led_by_still (fun S _ _ _ _ _ _ _ _ _ hr hu h=>bK (mN c.still h) (ab (qs 2 S kJ) (ab (qs 3 S (bt (a1 (pv 1)))) (ab (tw bg (lA xY (ql z.len (a1 (pv 3))) ah) (ab (qs 4 S (AJ dC PySem.F.slot_list_pop PySem.F.type_list_pop AL (pv 3))) (ag (bx bg rfl (AD (kK hu (pv 0) (a_ (a2 (pv 4) (hU rfl c.STILL))) (a_ cw) ⟨rfl,rfl,rfl,rfl⟩)) (gn 5 S) (ag (cn (gy (iS hu (pv 5) (pv 2))) (ab (gl hu (pv 2) (pv 5) gO rfl) (ag (bf (fz dC eo em bF (pv 3) (a1 (pv 5)))))) ba)))))) (ag (aw (pv 2))))))) (by walk_at "b")
theorem jx:d_ P w K mg:=fun base=>dG X G T.f_first_led_round (fun S _ _ _ _ _ _ _ _ _ hr hu h=>bK (jz h) (ab (bx bg rfl (kH rfl z.enumerate (a1 (pv 0))) (iD rfl (be (gn 2 S) (be (gn 3 S) gm))) (ag (cn (gy (lO hu (pv 3) (rm hu (pv 1) (pv 3) (fun _ _=>rfl)))) (ag (aw (pv 2))) ba))) (ag (aw uP)))) (by walk_at "b")
theorem qP:gv P w K mg:=fun base=>dG X G T.f_need_none (fun S _ _ _ _ _ _ _ _ _ hr hu h=>bK (q_ (K:=K) h) (ag (cn (gy (zL (pv 1))) (ag (xQ)) ba))) (by walk_at "b")
theorem o0(D_first_wrong_name:dF P w K mg)(D_door_signs:g_ P w K mg)(D_first_wrong_door:dH P w K mg)(D_need_none:gv P w K mg):g7 P w K mg:=fun base=>dG X G T.f_need_parts (fun S _ _ _ _ _ _ _ _ _ hr hu h=>bK (pc (K:=K) h) (ab (bf (qf hr (D_need_none base) (a2 bh (qf hr (D_first_wrong_name base) (a3 (pv 0) (hU rfl c.MOST_WORDS) (bt cw)))))) (ab (bf (qf hr (D_need_none base) (a2 bh (qf hr (D_first_wrong_name base) (a3 (pv 1) (hU rfl c.MOST_WORDS) (pv 0)))))) (ab (bf (qf hr (D_need_none base) (a2 bh (qf hr (D_first_wrong_name base) (a3 (pv 2) (hU rfl c.MOST_ROOMS) (bt cw)))))) (ag (bf (qf hr (D_need_none base) (a2 bh (qf hr (D_first_wrong_door base) (a3 (pv 3) (pv 2) (qf hr (D_door_signs base) (a2 (pv 0) (pv 1))))))))))))) (by walk_at "b")
theorem j7:eM P w K mg:=fun base=>dG X G T.f_doors_by_start (fun S _ _ _ _ _ _ _ _ _ hr hu h=>bK (kF h) (ab (qs 2 S kJ) (ab (bx bg rfl (aH (pv 0)) (gn 3 S) (ag (gl hu (pv 2) (pv 3) (bt cw) rfl))) (ab (bx bg rfl (aH (pv 1)) (gn 4 S) (ag (bf (fz dC eo em bF (rm hu (pv 2) (xq (pv 4) ah) (fun _ _=>rfl)) (a1 (pv 4)))))) (ag (aw (pv 2))))))) (by walk_at "b")
theorem j6:eL P w K mg:=fun base=>dG X G T.f_has_asks_alone (fun S _ _ _ _ _ _ _ _ _ hr hu h=>bK (kE h) (ag (aw (qB (mz rfl) z.all boot_all (a1 (qc (aH (pv 0)) (aQ (by decide)) fun _ _ _ _ _ _=>⟨gc 0,cC,ecm pW (xq (xq (pv 0) ah) ah) bh⟩)))))) (by walk_at "b")
theorem uB(D_as_keys:gS P w K mg)(D_goals_by_start_and_sign:bT P w K mg)(D_led_by_still:f8 P w K mg)(D_first_led_round:d_ P w K mg)(D_need_none:gv P w K mg)(D_need_parts:g7 P w K mg)(D_doors_by_start:eM P w K mg)(D_has_asks_alone:eL P w K mg):l7 P w K mg C:=fun base=>dN c.cm c.makes c.kc T.f_Machine___init__ (fun S _ _ _ _ _ _ _ _ _ hr hu h=>bK (zj c.mc h) (ab (bf (qf hr (D_need_parts base) (bX (pv 1) (a3 (pv 2) (pv 3) (pv 4))))) (ab (iC (pv 0) (qL rfl z.list (a1 (pv 1))) rfl) (ab (iC (pv 0) (qL rfl z.list (a1 (pv 2))) rfl) (ab (iC (pv 0) (qL rfl z.list (a1 (pv 3))) rfl) (ab (iC (pv 0) (qL rfl z.list (a1 (pv 4))) rfl) (ab (iC (pv 0) (qf hr (D_doors_by_start base) (a2 (pv 3) (pv 4))) rfl) (ab (iC (pv 0) (qf hr (D_as_keys base) (a1 (qc (aH (pv 3)) (aQ (by decide)) fun _ _ _ _ _ _=>⟨gc 0,c7 (rj (qf hr (D_has_asks_alone base) (a1 (rm hu (gz (pv 1) rfl) (pv 0) (fun _ _=>rfl))))),pv 0⟩))) rfl) (ab (iC (pv 0) (qf hr (D_goals_by_start_and_sign base) (a1 (pv 4))) rfl) (ab (iC (pv 0) (eE (rX rfl) rfl z.dict vb (a1 (qc (aH (pv 3)) (aQ (by decide)) fun _ _ _ _ _ _=>⟨gc 0,cC,a_ (a2 (pv 0) (qf hr (D_led_by_still base) (a2 (gz (pv 1) rfl) (pv 0))))⟩))) rfl) (ag (bf (qf hr (D_need_none base) (a2 bh (qf hr (D_first_led_round base) (a2 (pv 3) (gz (pv 0) rfl))))))))))))))))) (by walk_at "b")
theorem nV(D_Machine:l7 P w K mg C):jj P w K mg C:=fun base=>dG X G T.f_law_machine (fun S _ _ _ _ _ _ _ _ _ hr hu h=>bK (uI h) (ag (aw (AG (D_Machine base) (hr.mono (by decide)) rfl (bX (qL rfl z.list (a1 (xq (pv 0) ah))) (a3 (qL rfl z.list (a1 (xq (pv 0) ah))) (qL rfl z.list (a1 (xq (pv 0) ah))) (qL rfl z.list (a1 (xq (pv 0) ah))))))))) (by walk_at "b")
theorem lF:dB P w K mg C:=fun base=>dM c.mc.cls T.f_Machine_rooms (fun S _ _ _ _ _ _ _ _ _ hr hu h=>bK (xC c.mc h) (ag (aw (qL rfl z.list (a1 (gz (pv 0) rfl)))))) (by walk_at "b")
theorem i3:dI P w K mg C:=fun base=>dM c.mc.cls T.f_Machine_led_from (fun S _ _ _ _ _ _ _ _ _ hr hu h=>bK (tm c.mc h) (ag (aw (qL rfl z.list (a1 (kK hu (gz (pv 0) rfl) (pv 1) (a_ cw) ⟨rfl,rfl,rfl,rfl⟩)))))) (by walk_at "b")
theorem oZ(M_Machine_rooms:dB P w K mg C)(M_Machine_led_from:dI P w K mg C):fI P w K mg C:=fun base=>dG X G T.f_with_still (fun S _ _ _ _ _ _ _ _ _ hr hu h=>bK (pb h) (ab (qs 2 S kJ) (ab (bx bg rfl (aH (pv 1)) (gn 3 S) (ag (cn (gy (iS hu (pv 3) (pv 2))) (ab (gl hu (pv 2) (pv 3) gO rfl) (ag (bx bg rfl (aH (qm hr (M_Machine_led_from base) (pv 0) (a1 (pv 3)))) (gn 4 S) (ag (gl hu (pv 2) (pv 4) gO rfl))))) ba))) (ag (aw (eE dt rfl z.tuple e_ (a1 (qc (aH (Ba hr (M_Machine_rooms base) (pv 0))) (aQ (by decide)) fun _ _ _ _ _ _=>⟨gc 0,c7 (gy (lO hu (pv 0) (pv 1))),pv 0⟩)))))))) (by walk_at "b")
theorem lG:fu P w K mg C:=fun base=>dM c.mc.cls T.f_Machine_goals (fun S _ _ _ _ _ _ _ _ _ hr hu h=>bK (wu c.mc h) (ag (aw (qL rfl z.list (a1 (kK hu (gz (pv 0) rfl) (a_ (a2 (pv 1) (pv 2))) (a_ cw) ⟨rfl,rfl,rfl,rfl⟩)))))) (by walk_at "b")
theorem i4:cy P w K mg C:=fun base=>dM c.mc.cls T.f_Machine_is_quiet (fun S _ _ _ _ _ _ _ _ _ hr hu h=>bK (tp c.mc h) (ag (aw (AI (lO hu (pv 1) (gz (pv 0) rfl)))))) (by walk_at "b")
theorem mK:d9 P w K mg:=fun base=>dG X G T.f_law_still_on (fun S _ _ _ _ _ _ _ _ _ hr hu h=>bK (s_ h) (ab (qs 2 S (qL rfl z.list (a1 (pv 1)))) (ab (qs 3 S ah) (ab (tw bg (lA xX (pv 3) (ql z.len (a1 (pv 2)))) (ab (bx bg rfl (aH (pv 0)) (iD rfl (be (gn 4 S) (be (gn 5 S) (be (gn 6 S) gm)))) (ag (cn (PW.pt (og (lA (oo hu) (pv 4) (xq (pv 2) (pv 3))) (og (lA (oo hu) (pv 5) (a_ (a1 bh))) (m9 (yW (fK hu) (pv 6) (pv 2)))))) (ag (bf (fz dC eo em bF (pv 2) (a1 (pv 6))))) ba))) (ag (qs 3 S (aE bS (pv 3) ah))))) (ag (aw (pv 2))))))) (by walk_at "b")
theorem h7:cZ P w K mg C:=fun base=>dM c.mc.cls T.f_Machine_doors_from (fun S _ _ _ _ _ _ _ _ _ hr hu h=>bK (pi c.mc h) (ag (aw (qL rfl z.list (a1 (kK hu (gz (pv 0) rfl) (pv 1) (a_ cw) ⟨rfl,rfl,rfl,rfl⟩)))))) (by walk_at "b")
theorem mI:ga P w K mg C:=fun base=>dM c.mc.cls T.f_Machine_asks (fun S _ _ _ _ _ _ _ _ _ hr hu h=>bK (zt c.mc h) (ag (aw (qL rfl z.list (a1 (gz (pv 0) rfl)))))) (by walk_at "b")
theorem mH:ee P w K mg C:=fun base=>dM c.mc.cls T.f_Machine_says (fun S _ _ _ _ _ _ _ _ _ hr hu h=>bK (zg c.mc h) (ag (aw (qL rfl z.list (a1 (gz (pv 0) rfl)))))) (by walk_at "b")
theorem o8(M_Machine_rooms:dB P w K mg C)(D_with_still:fI P w K mg C):g9 P w K mg C:=fun base=>dG X G T.f_first_face (fun S _ _ _ _ _ _ _ _ _ hr hu h=>bK (pd h) (ag (aw (qf hr (D_with_still base) (a2 (pv 0) (cV gi (Ba hr (M_Machine_rooms base) (pv 0)) fD (c6 ah))))))) (by walk_at "b")
theorem nW(D_with_still:fI P w K mg C)(M_Machine_goals:fu P w K mg C)(M_Machine_is_quiet:cy P w K mg C):gB P w K mg C:=fun base=>dG X G T.f_face_behind (fun S _ _ _ _ _ _ _ _ _ hr hu h=>bK (zm c.hush h) (ab (cn (lA (oo hu) (pv 2) (hU rfl c.HUSH)) (ag (aw (eE dt rfl z.tuple e_ (a1 (qc (oj (pv 1)) (aQ (by decide)) fun _ _ _ _ _ _=>⟨gc 0,c7 (rj (qm hr (M_Machine_is_quiet base) (pv 1) (a1 (pv 0)))),pv 0⟩))))) ba) (ab (qs 3 S (bt cw)) (ab (bx bg rfl (oj (pv 1)) (gn 4 S) (ag (bf (fz dC PySem.F.slot_list_extend PySem.F.type_list_extend wC (pv 3) (a1 (qm hr (M_Machine_goals base) (pv 0) (a2 (pv 4) (pv 2)))))))) (ag (aw (qf hr (D_with_still base) (a2 (pv 0) (pv 3))))))))) (by walk_at "b")
theorem j4(M_Machine_asks:ga P w K mg C)(M_Machine_says:ee P w K mg C):eJ P w K mg C a_HUSH:=fun base=>dG X G T.f_signs_in_order (fun S _ _ _ _ _ _ _ _ _ hr hu h=>bK (At h) (ag (aw (aE jA (aE jA (qc (aH (Ba hr (M_Machine_asks base) (pv 0))) (aQ (by decide)) fun _ _ _ _ _ _=>⟨gc 0,cC,a_ (a2 bh (pv 0))⟩) (qc (aH (Ba hr (M_Machine_says base) (pv 0))) (aQ (by decide)) fun _ _ _ _ _ _=>⟨gc 0,cC,a_ (a2 bh (pv 0))⟩)) (bt (a1 (hU rfl c.HUSH))))))) (by walk_at "b")
theorem sP(M_Machine_doors_from:cZ P w K mg C):jP P w K mg C:=fun base=>dG X G T.f_signs_at (fun S _ _ _ _ _ _ _ _ _ hr hu h=>bK (tf h) (ab (qs 2 S kI) (ab (bx bg rfl (oj (pv 1)) (gn 3 S) (ag (bx bg rfl (aH (qm hr (M_Machine_doors_from base) (pv 0) (a1 (pv 3)))) (gn 4 S) (ag (gl hu (pv 2) (xq (pv 4) ah) gO rfl))))) (ag (aw (pv 2)))))) (by walk_at "b")
theorem sQ(M_Machine_is_quiet:cy P w K mg C)(M_Machine_says:ee P w K mg C)(D_signs_at:jP P w K mg C):jQ P w K mg C:=fun base=>dG X G T.f_may_come (fun S _ _ _ _ _ _ _ _ _ hr hu h=>bK (tj c.hush h) (ab (qs 2 S (qf hr (D_signs_at base) (a2 (pv 0) (pv 1)))) (ab (qsc 3 S (aH (Ba hr (M_Machine_says base) (pv 0))) (aQ (by decide)) fun _ _ _ _ _ _=>⟨gc 0,c7 (gy (lO hu (a_ (a2 bh (pv 0))) (pv 1))),a_ (a2 bh (pv 0))⟩) (ab (cn (rj (qB (tW rfl) z.any boot_any (a1 (qc (oj (pv 1)) (aQ (by decide)) fun _ _ _ _ _ _=>⟨gc 0,cC,qm hr (M_Machine_is_quiet base) (pv 1) (a1 (pv 0))⟩)))) (ag (bf (fz dC eo em bF (pv 3) (a1 (hU rfl c.HUSH))))) ba) (ag (aw (pv 3))))))) (by walk_at "b")
theorem qU(D_as_keysG:jT P w K mg):gw P w K mg:=fun base=>dG X G T.f_as_charge (fun S _ _ _ _ _ _ _ _ _ hr hu h=>bK (zv h) (ag (aw (qB (u9 rfl hu) z.sorted boot_sorted (a1 (qf hr (D_as_keysG base) (a1 (qc (aH (pv 0)) (aQ (by decide)) fun _ _ _ _ _ _=>⟨gc 0,c7 (lA xY (ql z.len (a1 (pv 0))) ah),pv 0⟩)))))))) (by walk_at "b")
theorem mL(D_first_face:g9 P w K mg C):iP P w K mg C:=fun base=>dG X G T.f_first_charge (fun S _ _ _ _ _ _ _ _ _ hr hu h=>bK (Av (K:=K) h) (ag (aw (bt (a1 (qf hr (D_first_face base) (a1 (pv 0)))))))) (by walk_at "b")
theorem lH(D_face_behind:gB P w K mg C)(D_as_charge:gw P w K mg):fo P w K mg C:=fun base=>dG X G T.f_charge_behind (fun S _ _ _ _ _ _ _ _ _ hr hu h=>bK (Aw h) (ag (aw (qf hr (D_as_charge base) (a1 (qc (aH (pv 1)) (aQ (by decide)) fun _ _ _ _ _ _=>⟨gc 0,cC,qf hr (D_face_behind base) (a3 (pv 1) (pv 0) (pv 2))⟩)))))) (by walk_at "b")
theorem wm(D_as_charge:gw P w K mg)(D_charge_behind:fo P w K mg C):t_ P w K mg C:=fun base=>dG X G T.f_hushed (fun S _ _ _ _ _ _ _ _ _ hr hu h=>bK (zk (K:=K) c.hush h) (ag (aw (qf hr (D_as_charge base) (a1 (aE jA (pv 1) (qf hr (D_charge_behind base) (a3 (pv 0) (pv 1) (hU rfl c.HUSH))))))))) (by walk_at "b")
theorem uw(D_signs_in_order:eJ P w K mg C a_HUSH)(D_may_come:jQ P w K mg C):qg P w K mg C:=fun base=>dG X G T.f_open_to (fun S _ _ _ _ _ _ _ _ _ hr hu h=>bK (zi c.hush h) (ab (qsc 2 S (aH (qf hr (D_signs_in_order base) (a1 (pv 0)))) (aQ (by decide)) fun _ _ _ _ _ _=>⟨gc 0,c7 (lA xW (xt (pv 0) ah) bh),pv 0⟩) (ab (bx bg rfl (aH (pv 1)) (gn 3 S) (ab (qs 4 S (qf hr (D_may_come base) (a2 (pv 0) (pv 3)))) (ag (qsc 2 S (aH (pv 2)) (aQ (by decide)) fun _ _ _ _ _ _=>⟨gc 0,c7 (yW (rp hu) (pv 0) (pv 1)),pv 0⟩)))) (ag (aw (pv 2)))))) (by walk_at "b")
theorem o7(D_law_still_on:d9 P w K mg):fJ P w K mg:=fun base=>dG X G T.f_law_behind (fun S _ _ _ _ _ _ _ _ _ hr hu h=>bK (zn h) (ab (lM (pv 0) (iD rfl (be (gn 3 S) (be (gn 4 S) (be (gn 5 S) (be (gn 6 S) gm)))))) (ab (cn (lA (oo hu) (pv 2) (a_ (a1 bh))) (ab (qs 7 S (qc (aH (pv 6)) (aQ (by decide)) fun _ _ _ _ _ _=>⟨gc 0,c7 (lA xW (xt (xt (pv 0) ah) ah) bh),xt (pv 0) ah⟩)) (ag (aw (eE dt rfl z.tuple e_ (a1 (qc (oj (pv 1)) (aQ (by decide)) fun _ _ _ _ _ _=>⟨gc 0,c7 (yW (fK hu) (pv 0) (pv 1)),pv 0⟩)))))) ba) (ab (qs 8 S (qf hr (D_law_still_on base) (a2 (pv 6) (qc (aH (pv 6)) (aQ (by decide)) fun _ _ _ _ _ _=>⟨gc 0,c7 (PW.pt (og (yW (rp hu) (xt (pv 0) ah) (pv 1)) (m9 (lA (oo hu) (xt (pv 0) ah) (pv 2))))),xt (pv 0) ah⟩)))) (ag (aw (eE dt rfl z.tuple e_ (a1 (qc (aH (pv 5)) (aQ (by decide)) fun _ _ _ _ _ _=>⟨gc 0,c7 (yW (rp hu) (pv 0) (pv 1)),pv 0⟩))))))))) (by walk_at "b")
theorem qT(D_law_still_on:d9 P w K mg):mD P w K mg:=fun base=>dG X G T.f_law_begin (fun S _ _ _ _ _ _ _ _ _ hr hu h=>bK (xI h) (ab (qs 1 S (qf hr (D_law_still_on base) (a2 (xq (pv 0) ah) (bt (a1 (xq (xq (pv 0) ah) ah)))))) (ag (aw (eE dt rfl z.tuple e_ (a1 (qc (aH (xq (pv 0) ah)) (aQ (by decide)) fun _ _ _ _ _ _=>⟨gc 0,c7 (yW (rp hu) (pv 0) (pv 1)),pv 0⟩))))))) (by walk_at "b")
theorem qQ:iN P w K mg:=fun base=>dG X G T.f_law_signs (fun S _ _ _ _ _ _ _ _ _ hr hu h=>bK (uH h) (ab (qs 1 S (aE jA (qc (aH (xt (pv 0) ah)) (aQ (by decide)) fun _ _ _ _ _ _=>⟨gc 0,cC,a_ (a2 bh (pv 0))⟩) (qc (aH (xt (pv 0) ah)) (aQ (by decide)) fun _ _ _ _ _ _=>⟨gc 0,cC,a_ (a2 bh (pv 0))⟩))) (ag (aw (aE jA (pv 1) (bt (a1 (a_ (a1 bh))))))))) (by walk_at "b")
theorem nU(D_law_behind:fJ P w K mg)(D_law_signs:iN P w K mg):ji P w K mg:=fun base=>dG X G T.f_law_open_to (fun S _ _ _ _ _ _ _ _ _ hr hu h=>bK (xF h) (ab (qs 2 S (bt cw)) (ab (bx bg rfl (aH (cV gi (qf hr (D_law_signs base) (a1 (pv 0))) (c6 (ql z.len (a1 (xt (pv 0) ah)))) fD)) (gn 3 S) (ag (cn (lA (xZ hu) (qc (aH (pv 1)) (aQ (by decide)) fun _ _ _ _ _ _=>⟨gc 0,c7 (lA (xZ hu) (qf hr (D_law_behind base) (a3 (pv 1) (pv 0) (pv 2))) (a_ cw)),pv 0⟩) (bt cw)) (ag (bf (fz dC eo em bF (pv 2) (a1 (pv 3))))) ba))) (ag (aw (pv 2)))))) (by walk_at "b")
theorem sT(D_law_behind:fJ P w K mg):jR P w K mg:=fun base=>dG X G T.f_law_next (fun S _ _ _ _ _ _ _ _ _ hr hu h=>bK (wt h) (ab (qs 3 S (bt cw)) (ab (bx bg rfl (aH (pv 1)) (gn 4 S) (ab (qs 5 S (qf hr (D_law_behind base) (a3 (pv 0) (pv 4) (pv 2)))) (ag (cn (PW.pt (og (lA (on hu) (pv 5) (a_ cw)) (m9 (yW (fK hu) (pv 5) (pv 3))))) (ag (bf (fz dC eo em bF (pv 3) (a1 (pv 5))))) ba)))) (ag (aw (qB (oJ hu) z.sorted boot_sorted (a1 (pv 3)))))))) (by walk_at "b")
theorem o6(D_law_next:jR P w K mg):kZ P w K mg:=fun base=>dG X G T.f_law_hushed (fun S _ _ _ _ _ _ _ _ _ hr hu h=>bK (xG h) (ab (qs 2 S (qL rfl z.list (a1 (pv 1)))) (ab (bx bg rfl (aH (qf hr (D_law_next base) (a3 (pv 0) (pv 1) (a_ (a1 bh))))) (gn 3 S) (ag (cn (yW (fK hu) (pv 3) (pv 2)) (ag (bf (fz dC eo em bF (pv 2) (a1 (pv 3))))) ba))) (ag (aw (qB (oJ hu) z.sorted boot_sorted (a1 (pv 2)))))))) (by walk_at "b")
end
theorem AM(X:K.In h)(G:h.Ns bJ mg)(z:Zs mg)(c:Cs K mg C a_STILL a_HUSH)(T:Ts K C):∃f fd,mg "law"=some (.ref f)/\(∀(s:Shared) (v:Value),nj s fd ⟨[v],[]⟩ [("script",v)])/\∀base:Heap,i_ P w K mg base CX0 7 f fd ["script"] (sp_law53 K):=by
 have D_law_spread:g8 P w K mg:=o5 X G z c T;have D_law_open:oS P w K mg:=sS X G z c T;have D_law_anew:jS P w K mg:=sU X G z c T;have D_law_take:f_ P w K mg:=sR X G z c T D_law_spread;have D_law_names:iO P w K mg:=qR X G z c T D_law_take;have D_law_put:l5 P w K mg:=uy X G z c T;have D_law_draw_doors:eK P w K mg:=j5 X G z c T D_law_take D_law_put;have D_law_model:mC P w K mg:=qS X G z c T D_law_anew D_law_take D_law_names D_law_draw_doors;have D_is_name:l6 P w K mg:=uz X G z c T;have D_as_keysX:hC P w K mg:=sV X G z c T;have D_as_keys:gS P w K mg:=uA X G z c T D_as_keysX;have D_as_keysG:jT P w K mg:=sW X G z c T D_as_keysX;have D_first_wrong_name:dF P w K mg:=i5 X G z c T D_is_name D_as_keys;have D_door_signs:g_ P w K mg:=o9 X G z c T;have D_first_wrong_door:dH P w K mg:=i6 X G z c T D_as_keys;have D_goals_by_start_and_sign:bT P w K mg:=fR X G z c T;have D_led_by_still:f8 P w K mg:=mJ X G z c T;have D_first_led_round:d_ P w K mg:=jx X G z c T;have D_need_none:gv P w K mg:=qP X G z c T;have D_need_parts:g7 P w K mg:=o0 X G z c T D_first_wrong_name D_door_signs D_first_wrong_door D_need_none;have D_doors_by_start:eM P w K mg:=j7 X G z c T;have D_has_asks_alone:eL P w K mg:=j6 X G z c T;have D_Machine:l7 P w K mg C:=uB X G z c T D_as_keys D_goals_by_start_and_sign D_led_by_still D_first_led_round D_need_none D_need_parts D_doors_by_start D_has_asks_alone;have D_law_machine:jj P w K mg C:=nV X G z c T D_Machine;have M_Machine_rooms:dB P w K mg C:=lF X G z c T;have M_Machine_led_from:dI P w K mg C:=i3 X G z c T;have D_with_still:fI P w K mg C:=oZ X G z c T M_Machine_rooms M_Machine_led_from
 have M_Machine_goals:fu P w K mg C:=lG X G z c T;have M_Machine_is_quiet:cy P w K mg C:=i4 X G z c T;have D_law_still_on:d9 P w K mg:=mK X G z c T;have M_Machine_doors_from:cZ P w K mg C:=h7 X G z c T;have M_Machine_asks:ga P w K mg C:=mI X G z c T;have M_Machine_says:ee P w K mg C:=mH X G z c T;have D_first_face:g9 P w K mg C:=o8 X G z c T M_Machine_rooms D_with_still;have D_face_behind:gB P w K mg C:=nW X G z c T D_with_still M_Machine_goals M_Machine_is_quiet;have D_signs_in_order:eJ P w K mg C a_HUSH:=j4 X G z c T M_Machine_asks M_Machine_says;have D_signs_at:jP P w K mg C:=sP X G z c T M_Machine_doors_from
 have D_may_come:jQ P w K mg C:=sQ X G z c T M_Machine_is_quiet M_Machine_says D_signs_at;have D_as_charge:gw P w K mg:=qU X G z c T D_as_keysG;have D_first_charge:iP P w K mg C:=mL X G z c T D_first_face;have D_charge_behind:fo P w K mg C:=lH X G z c T D_face_behind D_as_charge;have D_hushed:t_ P w K mg C:=wm X G z c T D_as_charge D_charge_behind;have D_open_to:qg P w K mg C:=uw X G z c T D_signs_in_order D_may_come;have D_law_behind:fJ P w K mg:=o7 X G z c T D_law_still_on;have D_law_begin:mD P w K mg:=qT X G z c T D_law_still_on;have D_law_signs:iN P w K mg:=qQ X G z c T;have D_law_open_to:ji P w K mg:=nU X G z c T D_law_behind D_law_signs;have D_law_next:jR P w K mg:=sT X G z c T D_law_behind;have D_law_hushed:kZ P w K mg:=o6 X G z c T D_law_next;obtain⟨f,a,t⟩:=T.f_law53;obtain⟨oc,od,an,sl,kV,dc,pm,cd,ct,l,c1,k1⟩:=t;have F:=yq (st:=(fx 54)) l c1 k1;have sc:g6 wb xR (bu (fx 54)):=by walk_at "s"
 have S:=sc.nd;exact⟨f,_,gx X G a,fun s v=>.of_eq rfl,fun base=>F.ok (k:=6) sc (by walk_at "l") (fun _ _ _ _ _ _ _ _ hr h=>by have hu:=vX hr;exact bK (xH (C:=C) h) (ab (qs 1 S (qf hr (D_law_open base) (a1 (pv 0)))) (ab (bx bg rfl (eD rfl z.range (a1 ah)) (gn 2 S) (ab (qs 3 S (qf hr (D_law_model base) (a3 (pv 1) ah (qf hr (D_law_take base) (a2 (pv 1) ah))))) (ab (qs 4 S (qf hr (D_law_machine base) (a1 (pv 3)))) (ab (qs 5 S (qf hr (D_first_charge base) (a1 (pv 4)))) (ab (cn (lA (on hu) (pv 5) (bt (a1 (qf hr (D_law_begin base) (a1 (pv 3)))))) (ag (aw gO)) ba) (ab (bf (fz dC eo em bF (pv 5) (a1 (a_ (a1 bh))))) (ab (cn (lA (on hu) (qf hr (D_first_charge base) (a1 (pv 4))) (bt (a1 (qf hr (D_law_begin base) (a1 (pv 3)))))) (ag (aw gO)) ba) (ab (qs 6 S (bt (a1 (qf hr (D_law_begin base) (a1 (pv 3)))))) (ag (bx bg rfl (eD rfl z.range (a1 (aE bS ah (qf hr (D_law_take base) (a2 (pv 1) ah))))) (gn 7 S) (ab (bx bg rfl (eD rfl z.range (a1 ah)) (gn 8 S) (ab (qs 9 S (bt (a2 (qf hr (D_hushed base) (a2 (pv 4) (qL rfl z.list (a1 (pv 6))))) (qf hr (D_open_to base) (a2 (pv 4) (qL rfl z.list (a1 (pv 6)))))))) (ab (cn (lA (on hu) (pv 9) (bt (a2 (qf hr (D_law_hushed base) (a2 (pv 3) (pv 6))) (qf hr (D_law_open_to base) (a2 (pv 3) (pv 6)))))) (ag (aw gO)) ba) (ab (bf (fz dC eo em bF (xl (pv 9) ah) (a1 (a_ (a1 bh))))) (ag (bf (fz dC eo em bF (xl (pv 9) ah) (a1 (a_ (a2 bh bh)))))))))) (ab (cn (lA pW (qf hr (D_law_take base) (a2 (pv 1) ah)) ah) (ag (qs 6 S (qf hr (D_law_hushed base) (a2 (pv 3) (pv 6))))) ba) (ab (qs 10 S (xl (qf hr (D_law_signs base) (a1 (pv 3))) (qf hr (D_law_take base) (a2 (pv 1) (aE bS (aE bS (ql z.len (a1 (xt (pv 3) ah))) (ql z.len (a1 (xt (pv 3) ah)))) ah))))) (ab (cn (lA (on hu) (qf hr (D_charge_behind base) (a3 (pv 4) (qL rfl z.list (a1 (pv 6))) (pv 10))) (qf hr (D_law_next base) (a3 (pv 3) (pv 6) (pv 10)))) (ag (aw gO)) ba) (ag (qs 6 S (qf hr (D_law_next base) (a3 (pv 3) (pv 6) (pv 10))))))))))))))))))) (ag (aw gO)))))⟩
theorem all_mk{l:PySem.W.OpenLaw}{fa:Addr}{u_LETTERS:Value}{u_LONGEST_NAME:Value}{u_MOST_WORDS:Value}{u_MOST_ROOMS:Value}{u_MOST_DOORS:Value}{o_STILL:Obj}{i_STILL:Array Value}{n_STILL:Nat}{o_HUSH:Obj}{i_HUSH:Array Value}{n_HUSH:Nat}(X:K.In h)(G:h.Ns bJ mg)(hfa:mg "law"=some (.ref fa))
  (aC:cq K bJ "Machine"=some (some (.ref C)))
  (pg:sC K C Str.empty=true)
  (hd:vw K C=true)
  (po:PySem.W.plainOver K C=true)
  (sa:dL K (.ref C) "__setattr__"=some (some (.builtin "object.__setattr__")))
  (mk:sA K C=true)
  (kc:gF K (.ref C)=true)
  (na1:dL K (.ref C) "own_asks"=some none)
  (na2:dL K (.ref C) "own_says"=some none)
  (na3:dL K (.ref C) "own_rooms"=some none)
  (na4:dL K (.ref C) "own_doors"=some none)
  (na5:dL K (.ref C) "leaving"=some none)
  (na6:dL K (.ref C) "quiet"=some none)
  (na7:dL K (.ref C) "sign_goals"=some none)
  (na8:dL K (.ref C) "still_led"=some none)
  (z_all:cq K bJ "all"=some none)
  (z_any:cq K bJ "any"=some none)
  (z_dict:cq K bJ "dict"=some none)
  (z_enumerate:cq K bJ "enumerate"=some none)
  (z_len:cq K bJ "len"=some none)
  (z_list:cq K bJ "list"=some none)
  (z_range:cq K bJ "range"=some none)
  (z_sorted:cq K bJ "sorted"=some none)
  (z_tuple:cq K bJ "tuple"=some none)
  (g_LETTERS:cq K bJ "LETTERS"=some (some u_LETTERS))
  (r_LETTERS:RelV (.str "abcdefghijklmnopqrstuvwxyz") u_LETTERS)
  (g_LONGEST_NAME:cq K bJ "LONGEST_NAME"=some (some u_LONGEST_NAME))
  (r_LONGEST_NAME:RelV (.int 8) u_LONGEST_NAME)
  (g_MOST_WORDS:cq K bJ "MOST_WORDS"=some (some u_MOST_WORDS))
  (r_MOST_WORDS:RelV (.int 4) u_MOST_WORDS)
  (g_MOST_ROOMS:cq K bJ "MOST_ROOMS"=some (some u_MOST_ROOMS))
  (r_MOST_ROOMS:RelV (.int 150) u_MOST_ROOMS)
  (g_MOST_DOORS:cq K bJ "MOST_DOORS"=some (some u_MOST_DOORS))
  (r_MOST_DOORS:RelV (.int 2000) u_MOST_DOORS)
  (g_STILL:cq K bJ "STILL"=some (some (.ref a_STILL)))
  (l_STILL:K.lookup a_STILL=some o_STILL)
  (c_STILL:o_STILL.cls=.type "tuple")
  (d_STILL:o_STILL.data=.seq i_STILL n_STILL)
  (s_STILL:i_STILL.size<=aj)
  (v_STILL:aL (aN.map V.str) i_STILL.toList)
  (g_HUSH:cq K bJ "HUSH"=some (some (.ref a_HUSH)))
  (l_HUSH:K.lookup a_HUSH=some o_HUSH)
  (c_HUSH:o_HUSH.cls=.type "tuple")
  (d_HUSH:o_HUSH.data=.seq i_HUSH n_HUSH)
  (s_HUSH:i_HUSH.size<=aj)
  (v_HUSH:aL (aK.map V.str) i_HUSH.toList)
  (T:Ts K C)
 :∃fd:ib,(∀(s:Shared) (v:Value),nj s fd ⟨[v],[]⟩ [("script",v)])/\∀base:Heap,K.In base->base.Ns bJ mg->i_ l.prog w K mg base CX0 7 fa fd ["script"] (sp_law53 K):=by
 have z:Zs mg:=⟨gT X G z_all,gT X G z_any,gT X G z_dict,gT X G z_enumerate,gT X G z_len,gT X G z_list,gT X G z_range,gT X G z_sorted,gT X G z_tuple⟩;have c:Cs K mg C a_STILL a_HUSH:=⟨⟨_,gx X G g_LETTERS,r_LETTERS⟩,⟨_,gx X G g_LONGEST_NAME,r_LONGEST_NAME⟩,⟨_,gx X G g_MOST_WORDS,r_MOST_WORDS⟩,⟨_,gx X G g_MOST_ROOMS,r_MOST_ROOMS⟩,⟨_,gx X G g_MOST_DOORS,r_MOST_DOORS⟩,⟨_,gx X G g_STILL,rfl⟩,⟨_,gx X G g_HUSH,rfl⟩,vF l_STILL c_STILL d_STILL s_STILL v_STILL,vF l_HUSH c_HUSH d_HUSH s_HUSH v_HUSH,⟨⟨pg,hd,po,sa⟩,na1,na2,na3,na4,na5,na6,na7,na8⟩,gx X G aC,mk,kc⟩;obtain⟨f,fd,e,b,k⟩:=AM (P:=l.prog) (w:=w) X G z c T;have e0:=hfa.symm.trans e;cases e0;exact⟨fd,b,fun base _ _=>k base⟩
end
end Mum
namespace PySem.W.Fast
def tw232725350867898845:=0
def tw13038705673168816546:=0
def tw7008031388707899886:=0
def tw564182871730717575:=0
def tw5006089817650009254:=0
def tw10810306057378001994:=0
def tw9039491262865473694:=0
def tw17573121455715476845:=0
def tw12002881877651048126:=0
def tw13298243694145211640:=0
def tw12080767126725122467:=0
def tw16719117212539995162:=0
def tw1513493600432035042:=0
def tw17352865906329920610:=0
def tw18223069540330041197:=0
def tw10493489588522818724:=0
def tw17075906895225543487:=0
def tw18295541364983352762:=0
def tw13557334353126739990:=0
def tw10227235575451376436:=0
def tw15260323704347363296:=0
def tw8372390677233209942:=0
def tw7944131200018399881:=0
def tw3814319439976159761:=0
def tw6162587840146999413:=0
def tw8882256156866611705:=0
def tw16568005199452452530:=0
def tw10487062760729908530:=0
def tw953603773015049333:=0
def tw2997797464066978088:=0
def tw364795554553483728:=0
def tw5084243374178316574:=0
def tw17894540991389315022:=0
def tw189830279635891337:=0
def tw2251887718186526888:=0
def tw3603286477597813997:=0
def tw14598912878088078545:=0
def tw4777472118276067846:=0
def tw15064192071729474001:=0
def tw4222911782638016016:=0
def tw474407392345140002:=0
def tw10154477290617426479:=0
def tw12020755222541460068:=0
def tw17097143745102039607:=0
def tw13208430579245518628:=0
def tw19900883313010193:=0
def tw15689697038216116582:=0
def tw5431227063968503838:=0
def tw8947841481317127530:=0
def tw17248666412794434673:=0
def tw9713195388287994675:=0
def tw2568083105858587268:=0
def tw13203492233975566366:=0
def tw10193813426178809413:=0
def tw8026127662859367834:=0
def tw158819576493662609:=0
def tw17600182552049062015:=0
def tw7702035127563061913:=0
def tw1104823385945940553:=0
def tw1522370447579655182:=0
def tw1384059425295568235:=0
def tw6774795410797757982:=0
def tw5614947679397600439:=0
def tw9953564540297408937:=0
def tw7365080741184255667:=0
def tw7876608082363837408:=0
def tw16730157111848843543:=0
def tw18200418462312068016:=0
def tw318631591973926777:=0
def tw2684767285756616337:=0
def tw12332257631362864941:=0
def tw14714539822616487505:=0
def tw927855150291319432:=0
def tw10198437504762363873:=0
def tw7354997068601701005:=0
def tw11549869650361151667:=0
def tw384124608950070001:=0
def tw8459732710434182791:=0
def tw16299428925455873806:=0
def tw438563448131728958:=0
def tw3991278800629386303:=0
def tw7878714250287492206:=0
def tw4885006336535490246:=0
def tw10830400546699956114:=0
def tw16529322863824570385:=0
def tw2018855912885984550:=0
def tw11208967600208949063:=0
def tw3348052533185454575:=0
def tw2743485903127012255:=0
def tw6335621990462302478:=0
def tw2080385628968538286:=0
def tw13511597852027311229:=0
def tw1349103986836520278:=0
def tw17060884346895408196:=0
def tw8022840096984640204:=0
def tw14594184086840565487:=0
def tw17682825583729385891:=0
def tw11090780470161811899:=0
def tw460530447325965216:=0
def tw4415356111072945442:=0
def tw9114882194876833540:=0
def tw9668031702728466517:=0
def tw14568924220658585266:=0
def tw5226708398021071306:=0
def tw15891944470736635223:=0
def tw1900614405042370946:=0
def tw11251532186886893315:=0
def tw16155808985147043542:=0
def tw17856287899123420056:=0
def tw7845313558624107213:=0
def tw1627471572258228480:=0
def tw10999568410832368153:=0
def tw6416371662991949634:=0
def tw9338750764537086411:=0
def tw9918172751845843263:=0
def tw8410560797945974036:=0
def tw304554840306971762:=0
def tw5450047468081820219:=0
def tw9687579160753812871:=0
def tw18401832449567671557:=0
def tw7251006985802008041:=0
def tw3030497053536703319:=0
def tw14279741211508674639:=0
def tw17604272653002842596:=0
def tw8984940267200209882:=0
def tw10333384062145111651:=0
def tw4742334818914388638:=0
def tw495645158721799286:=0
def tw13587839675765875084:=0
def tw14952869548552072193:=0
def tw1970771769804980325:=0
def tw1924796454623770412:=0
def tw17376864670040925298:=0
def tw18045757274534842187:=0
def tw7002957883156794332:=0
def tw2250320731067132391:=0
def tw8513601073382146721:=0
def tw144858935789089471:=0
def tw15364789580395002524:=0
def tw12648844934423895948:=0
def tw7511296230696076905:=0
def tw6986954798678613064:=0
def tw342004226845040413:=0
def tw4594117100404601483:=0
def tw5381099326860931137:=0
def tw6635059997172564049:=0
def tw1606412882612197868:=0
def tw10299834966953362411:=0
def tw16417662080091736547:=0
def tw12536357071488271928:=0
def tw14463600766081339477:=0
def tw13292059387099365625:=0
def tw15533512239954012610:=0
def tw8625738040700011467:=0
def tw15988152984839443755:=0
def tw11263784954390880458:=0
def tw6852318753239770015:=0
def tw6162153706092293033:=0
def tw2855915775450072786:=0
def tw6184720051573439802:=0
def tw6811602838278078896:=0
def tw3534022003837482842:=0
def tw6754880717312641619:=0
def tw6302930796375783194:=0
def tw11174444084820276852:=0
def tw18174634551442757523:=0
def tw9753983724523770943:=0
def tw2924940933583502886:=0
def tw8522862662923682642:=0
def tw15308737870763840136:=0
def tw9859314428718397896:=0
def tw6817674171021901903:=0
def tw4117184012863868340:=0
def tw14771875629491043721:=0
def tw2873750245361997969:=0
def tw693590690662720236:=0
def tw9027481212902527898:=0
def tw4057902677787013602:=0
def tw3673689589118264779:=0
def tw14214591457568934494:=0
def tw8865027618536374243:=0
def tw15726101064745044301:=0
def tw7613301836631552981:=0
def tw12709418007467744642:=0
def tw10139698029141881333:=0
def tw10951697323108240171:=0
def tw6307236813504324838:=0
def tw14228163335228012671:=0
def tw11109060405205141915:=0
def tw9151032964194918091:=0
def tw7204019951839472572:=0
def tw14676170392520987022:=0
def tw13910347829713263575:=0
def tw10830807347205311122:=0
def tw14338270779216576207:=0
def tw8790734405812583118:=0
def tw12516619950459713100:=0
def tw8563612672762000369:=0
def tw10055177923907506885:=0
def tw7023994652692489911:=0
def tw8354968029897203223:=0
def tw12757634704360990261:=0
def tw10340464219087004213:=0
def tw16657690512514796918:=0
def tw11348163446786964093:=0
def tw9904250367826967831:=0
def tw10857562387093410583:=0
def tw18302089140845758267:=0
def tw13502912572892947096:=0
def tw12281453854212060431:=0
def tw3807290301947912938:=0
def tw3006853685142929440:=0
def tw9170338669592239473:=0
def tw10557639417956032307:=0
def tw3666804520514733011:=0
def tw13966623964604435485:=0
def tw7418899366304308240:=0
def tw15947774028607098879:=0
def tw13139087120827643234:=0
def tw12475682801597180446:=0
def tw9747999913603526727:=0
def tw17103180748409468994:=0
def tw7258735278353018662:=0
def tw1427548428132526984:=0
def tw14157531720506281061:=0
def tw9475520832446317474:=0
def tw2102954666803404760:=0
def tw16402570806764790966:=0
def tw11216920270651462609:=0
def tw13756988371636561933:=0
def tw12364730669799742309:=0
def tw11448706005630754346:=0
def tw11119187720521460955:=0
def tw4126897883585288622:=0
def tw7326758466725892575:=0
def tw15318189053755697200:=0
def tw6957833546941033462:=0
def tw14205702744646438340:=0
def tw12428525085766261156:=0
def tw769740580454575975:=0
def tw8280080100945640736:=0
def tw6877575762649369064:=0
def tw12338085921610062395:=0
def tw1311624117210250725:=0
def tw11152042767481247130:=0
def tw4996798286861468246:=0
def tw2929831681586750650:=0
def tw1925901110016757973:=0
def tw9481672420863623600:=0
def tw11376047071442559977:=0
def tw18364058554380717481:=0
def tw4006411941936324427:=0
def tw9157893442694558881:=0
def tw6696828146000869084:=0
def tw2244697317284572501:=0
def tw7920191095140089556:=0
def tw7860891008906724193:=0
def tw7212384985511386833:=0
def tw8689769915287221772:=0
def tw3676653536861490984:=0
def tw4858084811617906054:=0
def tw12868120597559343444:=0
def tw14498029593642251151:=0
def tw9548435570144677131:=0
def tw5821184741895716113:=0
def tw13946585787392028706:=0
def tw2240289281650635902:=0
def tw2559302983160917267:=0
def tw8348376313934799976:=0
def tw10404224024759752799:=0
def tw3701728795838421227:=0
def tw16208702716826419431:=0
def tw8944656884250619724:=0
def tw12690367666902524893:=0
def tw2535664802525910877:=0
def tw7202296613905380652:=0
def tw10812596773799172511:=0
def tw5850353132525449297:=0
def tw13939007320525597765:=0
def tw17473177796544652439:=0
def tw14315678752293068097:=0
def tw10217869927505963778:=0
def tw13531991432777918251:=0
def tw4189404222413316210:=0
def tw14239696579460249786:=0
def tw5375473156807750182:=0
def tw10055634324057991177:=0
def tw15689483564534761998:=0
def tw12556164576875291644:=0
def tw6197139493608383928:=0
def tw2535276699847233518:=0
def tw10655002035781709245:=0
def tw18436421769005682123:=0
def tw6079706556393343044:=0
def tw10173340096584308938:=0
def tw13466175947260680047:=0
def tw12416768794204979198:=0
def tw3270715696099605420:=0
def tw8378849225808422302:=0
def tw17216907133237140581:=0
def tw13955230527588356085:=0
def tw7397851736025926460:=0
def tw13185100509126749774:=0
def tw13588465499890919303:=0
def tw4044307524038753989:=0
def tw5877901200021073207:=0
def tw10607531199495233134:=0
def tw14006037856547361111:=0
def tw15469125256532707451:=0
def tw7876835097192743521:=0
def tw17907985768164870436:=0
def tw6079318775758084640:=0
def tw1844592884529481184:=0
def tw8420215389195700726:=0
def tw1452648146600360382:=0
def tw9333391098666437245:=0
def tw12971427015169840214:=0
def tw2024171260405299384:=0
def tw1055337081416102500:=0
def tw14083336419943995156:=0
def tw9576449638905210881:=0
def tw8939044425132097271:=0
def tw8178184724387386575:=0
def tw11560128771671093791:=0
def tw13983722615081595639:=0
def tw11520377609415186037:=0
def tw4029069480802671460:=0
def tw6163073126930128206:=0
def tw5179386585033622173:=0
def tw11781698504428210956:=0
def tw5925120953283397644:=0
def tw17090428802372600079:=0
def tw18349315365658102856:=0
def tw11419844560569425633:=0
def tw4594814733254689776:=0
def tw4883889739196871122:=0
def tw12588388142253435704:=0
def tw8945706105272504725:=0
def tw13382416304321729641:=0
end PySem.W.Fast
open PySem PySem.W PyProof.Rows
set_option maxRecDepth 100000 in
set_option maxHeartbeats 0 in
theorem PySem.Challenge.cw_mumtrial_k53_charges_step_by_step_holds : PySem.Challenge.rw_mumtrial_k53_charges_step_by_step.Holds := by
 w_on;o_law;k_head;(case hw=>w_witness2)
 k_fill
 refine L2.walk_ofK (l:=PySem.Challenge.rw_mumtrial_k53_charges_step_by_step) (n:=63) (k:=7) (x:="script") (CX:=L2.CX0) (sp:=Mum.sp_law53) rfl (by decide) rfl ⟨rfl,by decide,by decide⟩ (fun w h Y=>PySem.W.kIn_of Y) ?F (fun _ _ a ns hl _ hS=>⟨a,ns,rfl,hS,hl,fun _=>rfl⟩) (fun _ _ _ _ z=>z)
 case F =>
  intro w mg fa h KX G hmg;refine' Mum.all_mk KX G hmg ?aC ?pg ?hd ?po ?sa ?mk ?kc ?na1 ?na2 ?na3 ?na4 ?na5 ?na6 ?na7 ?na8 ?z_all ?z_any ?z_dict ?z_enumerate ?z_len ?z_list ?z_range ?z_sorted ?z_tuple ?g_LETTERS ?r_LETTERS ?g_LONGEST_NAME ?r_LONGEST_NAME ?g_MOST_WORDS ?r_MOST_WORDS ?g_MOST_ROOMS ?r_MOST_ROOMS ?g_MOST_DOORS ?r_MOST_DOORS ?g_STILL ?l_STILL ?c_STILL ?d_STILL ?s_STILL ?v_STILL ?g_HUSH ?l_HUSH ?c_HUSH ?d_HUSH ?s_HUSH ?v_HUSH ?T
  (case aC|pg|hd|po|sa|mk|kc|na1|na2|na3|na4|na5|na6|na7|na8|z_all|z_any|z_dict|z_enumerate|z_len|z_list|z_range|z_sorted|z_tuple|g_LETTERS=>k_is)
  (case r_LETTERS=>exact⟨_,rfl⟩)
  (case g_LONGEST_NAME=>k_is)
  (case r_LONGEST_NAME=>exact⟨_,rfl⟩)
  (case g_MOST_WORDS=>k_is)
  (case r_MOST_WORDS=>exact⟨_,rfl⟩)
  (case g_MOST_ROOMS=>k_is)
  (case r_MOST_ROOMS=>exact⟨_,rfl⟩)
  (case g_MOST_DOORS=>k_is)
  (case r_MOST_DOORS=>exact⟨_,rfl⟩)
  (case g_STILL|l_STILL=>k_is)
  (case c_STILL|d_STILL=>rfl)
  (case s_STILL=>decide)
  (case v_STILL=>exact .cons ⟨_,rfl⟩ .nil)
  (case g_HUSH|l_HUSH=>k_is)
  (case c_HUSH|d_HUSH=>rfl)
  (case s_HUSH=>decide)
  (case v_HUSH=>exact .cons ⟨_,rfl⟩ .nil)
  (case T=>constructor<;>first|(refine' Mum.fnG_mk ?a ?l ?c ?k;(case a=>k_is);(case l=>k_is);(case c=>k_is);(case k=>k_is))|(refine' Mum.fnM_mk ?a ?i ?l ?c ?k;(case a=>k_is);(case i=>k_is);(case l=>k_is);(case c=>k_is);(case k=>k_is)))
