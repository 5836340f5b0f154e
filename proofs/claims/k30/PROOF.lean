
import PyProof.Rows.All
import Wide.All
import OpenK.AllK
import Wide.FinOn
import Lean
import PyProof.EqAt
import PyProof.EqKinds
import PyProof.TupleCall
import PyProof.NeKinds
import PyProof.RaisesMany
import PyProof.RulesAs
import PyProof.NsDelKeeps
import PyProof.InstStoreFacts
import PyProof.ExcClass3
import PyProof.ExcInit
import KE.KTryMore
import PyProof.AutoSeq1
import PyProof.WalkInts
import PyProof.DictIter
import PyProof.DictWalks
import PyProof.DictItems
import PyProof.DictItemsLoops
import KE.KPairComp
import PyProof.DictValues
import PyProof.SumAny
import PyProof.Rows.SumAny
import PyProof.Rows.RuleDivmod
import KE.KRevIter
import PyProof.TupleOfGen
import KE.KMinKey
import PyProof.Rows.CallKwBuiltin
import KE.IntBitsLaws
import PySem.Challenge.RW_mumtrial_k30_leaves
noncomputable section
open PySem.Value renaming isInt->Bq
open PySem renaming Program->bt,reduceHash->zM,wpAny_mono->jO,wpAny_bind->am,wpAny_specialOf->Bp,wpAny_call_entry->vm,wpAny_forIn_list->Bo,wpAny_pure->aE,wpAny_rule->kW,Builtin->cz,wpAny_holding->kU,wpAny_truthy_bool->kT,wpAny_seqItems->j1,sizeLine->ai,sysModules->im,mainGlobals->bj,bootBuiltins->gb,starEach->aN,compareOp->cL,behindInMarks->i4,standAt->t4,holding->m7,wpAny_execs_nil->xc,swapsWith->om,assignEach->qr,wpAny_passesOwn->oj,letOwnedTupleGo->xb,wpAny_pyIter_list->xa,wpAny_pyIter_tuple->w_,foldedSetIterable->tZ,binaryOp->i3,sizeLine_eq->wZ,getMethod->tV,codeAny->zzl77,attributeBase->tT,FuncData->iZ,BindsTo->oh,codeAny_mono->wU,wpAny_Call_Name_kw->wS,backToKw->tS,keywordEach->tR,NameKind->ic,mem_of_lookup->oO,getItem->kf,subscripted->rP,sliceBounds->ke,valueAt->kb,callerA->jb,ZipApart->l9,wpAny_pyIter_zip->rL,wpAny_callSpecial?_slot->rK,wpAny_field->fI,wpAny_setField_rec->l7,wpAny_onRaise->rF,wpAny_typeOf->rB
open PySem.Builtin.Tuple renaming tupleHashOf->vn
open Bool renaming false_ne_true->f_,not_true->xg,false_eq_true->oA,eq_iff_iff->w8,true_and->oq
open Nat renaming add_assoc->xh,le_refl->ax,lt_of_lt_of_le->fy,lt_irrefl->i9,ne_of_lt->b_,le_trans->aW,le_of_lt->cp,ne_of_gt->fM,zero_le->bN,lt_succ_self->wW,le_succ->tQ,le_add_right->ka,sub_zero->rA,mod_lt->ow
open List renaming append_nil->dD,zip_cons_cons->xf,range->kS,mem_filter->ik,mem_cons_self->eR,mem_cons_of_mem->fx,mem_cons->bS,mem_append->bq,mem_append_left->dj,getElem?_eq_some_iff->bR,mem_append_right->dh,length_cons->cW,lookup->i8,map_cons->bM,length_map->ak,nodup_cons->og,replicate->n_,length_take->aF,getElem?_append_right->oN,getElem?_append_left->oM,getElem?_map->ej,mem_of_getElem?->cg,length_append->aH,length_nil->mh,size_toArray->bD,length_drop->cA,find?_cons->md,any_cons->rO,nodup_nil->rN,lookup_cons->gg,forIn_cons->l_,all_eq_true->oJ,mem_map->bG,not_mem_nil->oI,any_toArray->rD,drop_zero->oE,take_length->bo,getElem?_eq_getElem->bC,all_map->oC,mem_singleton->cc,map_append->aG,nodup_append->eh,drop_of_length_le->l6,drop_eq_getElem_cons->oB,take_of_length_le->ox,drop_length->rp,mem_of_mem_take->h9,mem_of_mem_drop->ou,append_assoc->cH,map_map->lW,mem_map_of_mem->lV,take_zero->oo,length_filter_le->fH,filter_append->lU,map_eq_nil_iff->rm,zipWith->cX,length_zipWith->rk,length_zip->on,length_reverse->rj
open Option.some renaming inj->dC
open PySem.W renaming instObj->m8,lookIn->wY,plainGet->tX,hasDictIn->wX,findIn->dA,isFn->tW,makesIn->tU,emptyDict->kQ,keepIn->ig,kitOne->wV,kia_one->ie,fnOf->gh,codeIn->kg,nsIn->bw,mg_of->cQ,mg_none_of->ee
open PySem.Heap renaming lt_size->aQ,SameBut->ij,get?_push_of_some->aZ,get?_push_size->cK,size_push->mZ
open PyProof.Rows renaming AllBare->kR,callWith_type1->t3,IntsAre->ei,tuples'->lZ,listItems_at->rq,wpS_bind->eg,wpS_get->oz,wpS_pure->iC,pairsOf->j_,setPending->oy,boot_all->rh
open Ne renaming symm->ga
open Array renaming length_toList->m5,getElem?_toList->me
open False renaming elim->ii
open True renaming intro->i0
open Option renaming isSome_iff_exists->wR,map_some->oK
open PySem.SeqAt renaming EqAt->aU
open Int renaming toNat_natCast->mf,emod_nonneg->lY,emod_lt_of_pos->lX,eq_ofNat_of_zero_le->j9
open PySem.Obj renaming mapSeq->eS
open PySem.Paired renaming snoc->cf
open ForInStep renaming yield->rM
open PySem.NameKind renaming free->ja
open PySem.Builtin.SmallTypes renaming nextOf->i_,ownedTupleIsFree->rG
open PySem.Str renaming ofString->rJ
open PySem.F renaming slot_tuple_iterator_next->rH,slot_zip_next->rE,plainAttrs_list->ef,slot_list_append->fG,type_list_append->fF
open PySem.Heap.SameBut renaming update->oH
open PySem.Builtin.Str renaming strSliceIndices->oG
open PySem.Txt renaming join->rC
open PySem.PassesOwn renaming never->bF
theorem Q0:0<=PySem.sizeLine:=by decide
theorem Q1:1<=PySem.sizeLine:=by decide
theorem Q2:2<=PySem.sizeLine:=by decide
theorem Q3:3<=PySem.sizeLine:=by decide
theorem Q4:4<=PySem.sizeLine:=by decide
theorem Q6:6<=PySem.sizeLine:=by decide
theorem zzr0{p:Prop}[Decidable p](h:¬p):decide p=false:=decide_eq_false h
theorem zzr1{p:Prop}[Decidable p](h:p):decide p=true:=decide_eq_true h
abbrev Za:=PySem.W.Frag
abbrev Zb:=List PySem.Str
abbrev Zc:=PySem.Value->PySem.Shared->Prop
abbrev Zd:=List (PySem.Addr×PySem.Obj)
abbrev Ze:=List PySem.Addr
abbrev Zf:=List PySem.Value
section
set_option Elab.async false
set_option linter.all false
set_option maxRecDepth 100000
set_option maxHeartbeats 4000000
namespace L2
open PySem PySem.Spec PyProof.Rows
open Sem (wp)
abbrev dH:=Sum Int Str
def cq:dH->Value->Bool
 |.inl k,v=>Bq k v
 |.inr x,v=>Value.isStrOf x v
def DD(w:World):dH->Int
 |.inl k=>hashInt k
 |.inr x=>hashStr w x
theorem au:∀{k:dH}{v:Value},cq k v=true->(∃i t,k=Sum.inl i/\v=Value.int i t)∨(∃x t,k=Sum.inr x/\v=Value.str x t)
 |.inl i,v,h=>by
  obtain⟨t,e⟩:=Value.isInt_shape (k:=i) (v:=v) h;exact .inl ⟨i,t,rfl,e⟩
 |.inr x,v,h=>by
  obtain⟨t,e⟩:=Value.isStrOf_shape (x:=x) (v:=v) h;exact .inr ⟨x,t,rfl,e⟩
theorem jE(i:Int)(t:Tok):cq (.inl i) (.int i t)=true:=by simp[cq,Bq]
theorem jD(x:Str)(t:Tok):cq (.inr x) (.str x t)=true:=by simp[cq,Value.isStrOf]
theorem sR(a b:Int):decide ((Sum.inl a:dH)=Sum.inl b)=(a==b):=by
 by_cases e:a=b
 ·subst e;simp
 ·have h:¬(Sum.inl a:dH)=Sum.inl b:=fun q=>e (Sum.inl.inj q);rw[zzr0 h];exact(beq_eq_false_iff_ne.mpr e).symm
theorem sO(a b:Str):decide ((Sum.inr a:dH)=Sum.inr b)=decide (a=b):=by
 by_cases e:a=b
 ·subst e;simp
 ·have h:¬(Sum.inr a:dH)=Sum.inr b:=fun q=>e (Sum.inr.inj q);rw[zzr0 h,zzr0 e]
theorem sQ(a:Int)(b:Str):decide ((Sum.inl a:dH)=Sum.inr b)=false:=zzr0 (fun q=>nomatch q)
theorem sP(a:Str)(b:Int):decide ((Sum.inr a:dH)=Sum.inl b)=false:=zzr0 (fun q=>nomatch q)
def bJ(prog:bt)(w:World):PySem.KeyKind prog w dH where
 is:=cq
 hash:=DD w
 inj:=fun v a b ha hb=>by
  rcases au ha with⟨i,t,rfl,rfl⟩|⟨x,t,rfl,rfl⟩
  ·rcases au hb with⟨j,u,rfl,e⟩|⟨y,u,rfl,e⟩
   ·injection e with e1 _;rw[e1]
   ·exact nomatch e
  ·rcases au hb with⟨j,u,rfl,e⟩|⟨y,u,rfl,e⟩
   ·exact nomatch e
   ·injection e with e1 _;rw[e1]
 byValue:=fun k v h=>by
  rcases au h with⟨i,t,rfl,rfl⟩|⟨x,t,rfl,rfl⟩<;>rfl
 pyHash:=fun hv h=>by
  rcases au hv with⟨i,t,rfl,rfl⟩|⟨x,t,rfl,rfl⟩
  ·exact wpAny_pyHash_int h
  ·exact wpAny_pyHash_str h
 eqBool:=fun hu hv h=>by
  rcases au hu with⟨i,t,rfl,rfl⟩|⟨x,t,rfl,rfl⟩
  ·rcases au hv with⟨j,u,rfl,rfl⟩|⟨y,u,rfl,rfl⟩
   ·rw[sR]at h;exact wpAny_eqBool_int h
   ·rw[sQ]at h;exact aU.int_str i t y u _ _ _ _ h
  ·rcases au hv with⟨j,u,rfl,rfl⟩|⟨y,u,rfl,rfl⟩
   ·rw[sP]at h;exact aU.str_int x t j u _ _ _ _ h
   ·rw[sO]at h;exact wpAny_eqBool_str h
 «strs»:=fun k x t v h=>by
  rcases au h with⟨i,u,rfl,e⟩|⟨y,u,rfl,e⟩
  ·exact nomatch e
  ·injection e with e1 _;subst e1;cases v<;>rfl
theorem uI(prog:bt)(w:World)(i:Int)(t:Tok):(bJ prog w).is (.inl i) (.int i t)=true:=jE i t
theorem uH(prog:bt)(w:World)(x:Str)(t:Tok):(bJ prog w).is (.inr x) (.str x t)=true:=jD x t
end L2
namespace L2
open PySem PySem.Spec PyProof.Rows
open Sem (wp)
abbrev kM:=Option dH
def gu:kM->Value->Bool
 |none,v=>match v with
  |.none=>true
  |_=>false
 |some k,v=>cq k v
def Cz(w:World):kM->Int
 |none=>zM 4238894112
 |some k=>DD w k
theorem bg:∀{k:kM}{v:Value},gu k v=true->(∃i t,k=some (Sum.inl i)/\v=Value.int i t)∨(∃x t,k=some (Sum.inr x)/\v=Value.str x t)∨(k=none/\v=Value.none)
 |none,v,h=>by
  refine .inr (.inr ⟨rfl,?_⟩);cases v<;>first|rfl|cases h
 |some k,v,h=>by
  rcases au (show cq k v=true from h)with⟨i,t,rfl,rfl⟩|⟨i,t,rfl,rfl⟩
  ·exact .inl ⟨i,t,rfl,rfl⟩
  ·exact .inr (.inl ⟨i,t,rfl,rfl⟩)
theorem pB{a b:kM}{v:Value}(h1:gu a v=true)(h2:gu b v=true):a=b:=by
 rcases bg h1 with⟨i,t,rfl,rfl⟩|⟨i,t,rfl,rfl⟩|⟨rfl,rfl⟩<;>rcases bg h2 with⟨j,u,rfl,e⟩|⟨j,u,rfl,e⟩|⟨rfl,e⟩<;>first|rfl|(cases e;rfl)|cases e
def uG(prog:bt)(w:World):PySem.KeyKind prog w kM where
 is:=gu
 hash:=Cz w
 inj:=fun v a b ha hb=>pB ha hb
 byValue:=fun k v h=>by
  rcases bg h with⟨i,t,rfl,rfl⟩|⟨x,t,rfl,rfl⟩|⟨rfl,rfl⟩<;>rfl
 pyHash:=fun{A E s k v Q} hv h=>by
  rcases bg hv with⟨i,t,rfl,rfl⟩|⟨x,t,rfl,rfl⟩|⟨rfl,rfl⟩
  ·exact wpAny_pyHash_int h
  ·exact wpAny_pyHash_str h
  ·refine PySem.W.pyHash_slot (T:="NoneType") rfl F.slot_NoneType_hash F.entry_NoneType_hash (F.args_NoneType_hash_1 _) (by rw[beq_builtin_none]) (.inl rfl) ?_;show wpAny _ _ (retInt 4238894112) _ _ _;refine jO (wpAny_ret_mkInt (Q:=fun v s'=>∃n t,v=Value.int n t/\Q (zM n) s') ⟨_,_,rfl,h⟩) (fun fin s' ⟨v,e,n,t,e2,q⟩=>⟨n,t,by rw[e,e2],q⟩) (fun _ _ z=>z)
 eqBool:=fun{A E s a b u v Q} hu hv h=>by
  rcases bg hu with⟨i,t,rfl,rfl⟩|⟨x,t,rfl,rfl⟩|⟨rfl,rfl⟩
  ·rcases bg hv with⟨j,u,rfl,rfl⟩|⟨y,u,rfl,rfl⟩|⟨rfl,rfl⟩
   ·exact(bJ prog w).eqBool (a:=.inl i) (b:=.inl j) (jE i t) (jE j u) (by rw[show decide ((Sum.inl i:dH)=Sum.inl j)=decide ((some (Sum.inl i):kM)=some (Sum.inl j))from decide_eq_decide.mpr ⟨fun z=>by rw[z],fun z=>by injection z⟩];exact h)
   ·rw[zzr0 (by intro z;injection z with z;cases z)]at h;exact aU.int_str i t y u _ _ _ _ h
   ·rw[zzr0 (by intro z;cases z)]at h;exact aU.int_none i t _ _ _ _ h
  ·rcases bg hv with⟨j,u,rfl,rfl⟩|⟨y,u,rfl,rfl⟩|⟨rfl,rfl⟩
   ·rw[zzr0 (by intro z;injection z with z;cases z)]at h;exact aU.str_int x t j u _ _ _ _ h
   ·exact(bJ prog w).eqBool (a:=.inr x) (b:=.inr y) (jD x t) (jD y u) (by rw[show decide ((Sum.inr x:dH)=Sum.inr y)=decide ((some (Sum.inr x):kM)=some (Sum.inr y))from decide_eq_decide.mpr ⟨fun z=>by rw[z],fun z=>by injection z⟩];exact h)
   ·rw[zzr0 (by intro z;cases z)]at h;exact aU.str_none x t _ _ _ _ h
  ·rcases bg hv with⟨j,u,rfl,rfl⟩|⟨y,u,rfl,rfl⟩|⟨rfl,rfl⟩
   ·rw[zzr0 (by intro z;cases z)]at h;exact aU.none_int j u _ _ _ _ h
   ·rw[zzr0 (by intro z;cases z)]at h;exact aU.none_str y u _ _ _ _ h
   ·rw[zzr1 rfl]at h;exact aU.same _ _ _ _ _ h
 «strs»:=fun k x t v h=>by
  rcases bg h with⟨i,u,rfl,e⟩|⟨y,u,rfl,e⟩|⟨rfl,e⟩
  ·exact nomatch e
  ·injection e with e1 _;subst e1;cases v<;>rfl
  ·exact nomatch e
inductive TK where
 |k (a:kM)
 |t (l:List TK)
mutual
def CH:(x y:TK)->Decidable (x=y)
 |.k a,.k b=>if h:a=b then Decidable.isTrue (by rw[h])else Decidable.isFalse fun e=>h (by injection e)
 |.t l,.t m=>match decTKs l m with
  |Decidable.isTrue h=>Decidable.isTrue (by rw[h])
  |Decidable.isFalse h=>Decidable.isFalse fun e=>h (by injection e)
 |.k _,.t _=>Decidable.isFalse nofun
 |.t _,.k _=>Decidable.isFalse nofun
def decTKs:(x y:List TK)->Decidable (x=y)
 |[],[]=>Decidable.isTrue rfl
 |[],_::_=>Decidable.isFalse nofun
 |_::_,[]=>Decidable.isFalse nofun
 |a::l,b::m=>match CH a b with
  |Decidable.isTrue h=>match decTKs l m with
   |Decidable.isTrue h'=>Decidable.isTrue (by rw[h,h'])
   |Decidable.isFalse h'=>Decidable.isFalse fun e=>h' (by injection e)
  |Decidable.isFalse h=>Decidable.isFalse fun e=>h (by injection e)
end
instance:DecidableEq TK:=CH
mutual
def TK.depth:TK->Nat
 |.k _=>0
 |.t l=>TK.depths l+1
def TK.depths:List TK->Nat
 |[]=>0
 |a::r=>max (TK.depth a) (TK.depths r)
end
mutual
def TK.hash(w:World):TK->Int
 |.k a=>Cz w a
 |.t l=>zM (vn (TK.hashs w l))
def TK.hashs(w:World):List TK->List Int
 |[]=>[]
 |a::r=>TK.hash w a::TK.hashs w r
end
mutual
def TK.draws:TK->Nat
 |.k _=>1
 |.t l=>TK.drawss l+1
def TK.drawss:List TK->Nat
 |[]=>0
 |a::r=>TK.draws a+TK.drawss r
end
mutual
def jV(h:Heap):TK->Value->Prop
 |.k a,v=>gu a v=true
 |.t l,v=>∃a o items n,v=.ref a/\h.get? a=some o/\o.cls=.type "tuple"/\o.data=.seq items n/\TAts h l items.toList
def TAts(h:Heap):List TK->List Value->Prop
 |[],vs=>vs=[]
 |k::r,vs=>∃v us,vs=v::us/\jV h k v/\TAts h r us
end
theorem jV.inj{h:Heap}:∀(d:Nat) {x y:TK}{v:Value},x.depth<=d->jV h x v->jV h y v->x=y:=by
 have key:∀(d:Nat) (ih:∀{x y:TK}{v:Value},x.depth<=d->jV h x v->jV h y v->x=y) (xs ys:List TK) (vs:Zf),TK.depths xs<=d->TAts h xs vs->TAts h ys vs->xs=ys:=by
  intro d ih xs
  induction xs with
  |nil =>
   intro ys vs _ hx hy;have hx':vs=[]:=hx;subst hx';cases ys with
   |nil=>rfl
   |cons y ys=>obtain⟨_,_,e,_⟩:=hy;cases e
  |cons x xs ihl =>
   intro ys vs hd hx hy;obtain⟨v,us,rfl,hx1,hx2⟩:=hx;cases ys with
   |nil=>have hy':v::us=[]:=hy;cases hy'
   |cons y ys =>
    obtain⟨v',us',e,hy1,hy2⟩:=hy;cases e;have hd':max x.depth (TK.depths xs)<=d:=hd;rw[ih (by omega) hx1 hy1,ihl ys us (by omega) hx2 hy2]
 have leaf:∀(a:kM) (l:List TK) (v:Value),jV h (.k a) v->jV h (.t l) v->False:=by
  intro a l v h1 h2;obtain⟨b,o,items,n,rfl,_⟩:=h2;rcases bg (show gu a (.ref b)=true from h1)with⟨_,_,_,e⟩|⟨_,_,_,e⟩|⟨_,e⟩<;>cases e
 have kk:∀(a b:kM) (v:Value),gu a v=true->gu b v=true->a=b:=fun a b v h1 h2=>pB h1 h2;intro d
 induction d with
 |zero =>
  intro x y v hd hx hy;cases x with
  |t l=>exact absurd hd (by show ¬(TK.depths l+1<=0);omega)
  |k a =>
   cases y with
   |k b=>rw[kk a b v hx hy]
   |t l=>exact(leaf a l v hx hy).elim
 |succ d ih =>
  intro x y v hd hx hy;cases x with
  |k a =>
   cases y with
   |k b=>rw[kk a b v hx hy]
   |t l=>exact(leaf a l v hx hy).elim
  |t l =>
   cases y with
   |k b=>exact(leaf b l v hy hx).elim
   |t l' =>
    obtain⟨a,o,items,n,rfl,ho,hc,hdt,hi⟩:=hx;obtain⟨a',o',items',n',e,ho',hc',hdt',hi'⟩:=hy;cases e;rw[ho]at ho';cases ho';rw[hdt]at hdt';injection hdt' with e1 _;subst e1;rw[key d (fun h1=>ih h1) l l' items.toList (by have:TK.depths l+1<=d+1:=hd;omega) hi hi']
theorem jV.mono{h h':Heap}(k:∀a o items n,h.get? a=some o->o.cls=.type "tuple"->o.data=.seq items n->h'.get? a=some o):∀(d:Nat) {x:TK}{v:Value},x.depth<=d->jV h x v->jV h' x v:=by
 have key:∀(d:Nat) (ih:∀{x:TK}{v:Value},x.depth<=d->jV h x v->jV h' x v) (xs:List TK) (vs:Zf),TK.depths xs<=d->TAts h xs vs->TAts h' xs vs:=by
  intro d ih xs
  induction xs with
  |nil=>intro vs _ hx;exact hx
  |cons x xs ihl =>
   intro vs hd hx;obtain⟨v,us,rfl,hx1,hx2⟩:=hx;have hd':max x.depth (TK.depths xs)<=d:=hd;exact⟨v,us,rfl,ih (by omega) hx1,ihl us (by omega) hx2⟩
 intro d
 induction d with
 |zero =>
  intro x v hd hx;cases x with
  |t l=>exact absurd hd (by show ¬(TK.depths l+1<=0);omega)
  |k a=>exact hx
 |succ d ih =>
  intro x v hd hx;cases x with
  |k a=>exact hx
  |t l =>
   obtain⟨a,o,items,n,rfl,ho,hc,hdt,hi⟩:=hx;exact⟨a,o,items,n,rfl,k a o items n ho hc hdt,hc,hdt,key d (fun h1=>ih h1) l _ (by have:TK.depths l+1<=d+1:=hd;omega) hi⟩
section
variable{prog:bt}{w:World}
theorem Bu:∀(d:Nat) {A:Around}{E:Zc}{s:Shared}{k:TK}{v:Value}{Q:Int->Shared->Prop},k.depth<=d->A.units+d<cLine->jV s.heap k v->Q (k.hash w) { s with toks:=s.toks+k.draws } ->
  wpAny (model prog w) A (pyHash v) Q E s:=by
 intro d
 induction d with
 |zero =>
  intro A E s k v Q hd hu hk h;cases k with
  |t l=>exact absurd hd (by show ¬(TK.depths l+1<=0);omega)
  |k a=>exact(uG prog w).pyHash (k:=a) hk h
 |succ d ih =>
  intro A E s k v Q hd hu hk h;cases k with
  |k a=>exact(uG prog w).pyHash (k:=a) hk h
  |t l =>
   obtain⟨a,o,items,n,rfl,ho,hc,hdt,hi⟩:=hk;have hT:s.TypeIs (.ref a) "tuple":=⟨o,ho,hc⟩;have hdl:TK.depths l<=d:=by have:TK.depths l+1<=d+1:=hd;omega
   unfold pyHash
   first|unfold pyHashByItsType|skip
   first|refine am (wpAny_cRoomFor_or (.inr (by omega)) ?_)|skip
   refine am (Bp hT F.slot_tuple_hash.lookup ?_);show wpAny _ _ (if(some (Value.builtin "tuple.__hash__")==some Value.none)=true then _ else _) Q E s
   rw[if_neg (by rw[beq_builtin_none];exact f_)];refine am (Bp hT F.slot_tuple_hash.lookup ?_);show wpAny _ _ (callSpecialIfBoundUnlessNone? (.ref a) "__hash__" _ >>= _) Q E s;refine am (wpAny_callSpecialIfBoundUnlessNone?_slot hT F.slot_tuple_hash (vm F.slot_tuple_hash hT F.entry_tuple_hash ?_ (F.args_tuple_hash_1 _)));show wpAny _ _ (cz.Tuple.tupleItemsOf (.ref a) >>= _) _ _ s;refine am (wpAny_tupleItemsOf ho hdt ?_);refine am ?_;rw[<-Array.forIn_toList];refine Bo _
    (fun rest (b:Array Int) s'=>∃done left,l=done++left/\TAts s.heap left rest/\b.toList=TK.hashs w done/\s'={ s with toks:=s.toks+TK.drawss done })
    _ ?_ ?_ _ _ ⟨[],l,rfl,hi,rfl,rfl⟩
   ·rintro x rest b s' ⟨done,left,e,hl,hb,rfl⟩;cases left with
    |nil=>have hl':x::rest=[]:=hl;cases hl'
    |cons k' left =>
     obtain⟨x',rest',e',h1,h2⟩:=hl;cases e';have hdk:k'.depth<=d:=by
      have gen:∀(p:List TK),TK.depths (p++k'::left)<=d->k'.depth<=d:=by
       intro p
       induction p with
       |nil=>intro hp;have hp':max k'.depth (TK.depths left)<=d:=hp;omega
       |cons q p ihp=>intro hp;have hp':max q.depth (TK.depths (p++k'::left))<=d:=hp;exact ihp (by omega)
      exact gen done (by rw[<-e];exact hdl)
     have hs:TK.hashs w (done++[k'])=TK.hashs w done++[k'.hash w]:=by
      clear e hb
      induction done with
      |nil=>rfl
      |cons q p ihp=>show _::TK.hashs w (p++[k'])=_;rw[ihp];rfl
     have hdr:TK.drawss (done++[k'])=TK.drawss done+k'.draws:=by
      clear e hb hs
      induction done with
      |nil=>show k'.draws+0=0+k'.draws;omega
      |cons q p ihp=>show q.draws+TK.drawss (p++[k'])=q.draws+TK.drawss p+k'.draws;rw[ihp];omega
     refine am (ih (k:=k') hdk (by show A.units+1+d<cLine;omega) h1 ?_)
     first
      |exact aE ⟨done++[k'],left,by rw[e];simp,h2,by rw[hs];simp[hb],by rw[hdr];simp[xh]⟩
      |exact am (aE (aE ⟨done++[k'],left,by rw[e];simp,h2,by rw[hs];simp[hb],by rw[hdr];simp[xh]⟩))
   ·rintro b s' ⟨done,left,e,hl,hb,rfl⟩;cases left with
    |cons k' left=>obtain⟨_,_,e',_⟩:=hl;cases e'
    |nil =>
     rw[dD]at e;subst e;show wpAny _ _ (retInt (vn b.toList)) _ _ _;rw[hb];refine wpAny_ret_mkInt ?_;have h':Q (zM (vn (TK.hashs w l))) { s with toks:=s.toks+(TK.drawss l+1) }:=h;show wpAny _ _ (if(decide (-(2:Int) ^ 63<=vn (TK.hashs w l)) && decide (vn (TK.hashs w l)<2 ^ 63))=true then _ else _) Q E _
     unfold zM at h';by_cases hr:(decide (-(2:Int) ^ 63<=vn (TK.hashs w l)) && decide (vn (TK.hashs w l)<2 ^ 63))=true
     ·rw[if_pos hr];rw[if_pos hr]at h';exact aE (by simpa[xh]using h')
     ·rw[if_neg hr];rw[if_neg hr]at h';exact am (kW (aE (by simpa[xh]using h')))
theorem yo(d:Nat)(ih:∀{A:Around}{E:Zc}{s:Shared}{x y:TK}{u v:Value}{Q:Bool->Shared->Prop},x.depth<=d->y.depth<=d->A.units+d<cLine->jV s.heap x u->jV s.heap y v->Q (decide (x=y)) s->wpAny (model prog w) A (eqBool u v) Q E s)
  {A:Around}{E:Zc}{s:Shared}{x y:List TK}{a b:Addr}{P:Fin->Shared->Prop}{oa ob:Obj}{xs ys:Array Value}{na nb:Nat}(hx:TK.depths x<=d) (hy:TK.depths y<=d) (hu:A.units+d<cLine)
  (hoa:s.heap.get? a=some oa) (hda:oa.data=.seq xs na) (hia:TAts s.heap x xs.toList) (hob:s.heap.get? b=some ob) (hcb:ob.cls=.type "tuple") (hdb:ob.data=.seq ys nb) (hib:TAts s.heap y ys.toList)
  (h:P (.done (.ret (.bool (decide (x=y))))) s):wpAny (model prog w) A (cz.«tuple.__eq__» ⟨[.ref a,.ref b],[]⟩) P E s:=by
 have hTb:s.TypeIs (.ref b) "tuple":=⟨ob,hob,hcb⟩;show wpAny _ _ (isInstance (.ref b) (.type "tuple") >>= _) _ _ s;refine am (wpAny_isInstance hTb isSubtype_tuple_tuple ?_);simp only[xg,oA,if_false];refine am (wpAny_tupleItemsOf hoa hda ?_);refine am (wpAny_tupleItemsOf hob hdb ?_);refine am ?_;refine Bo _
  (fun rest r s'=>r.1=none/\s'=s/\∃x' y' xs' ys',rest=List.zip xs' ys'/\TAts s.heap x' xs'/\TAts s.heap y' ys'/\TK.depths x'<=d/\TK.depths y'<=d/\decide (x'=y')=decide (x=y)/\(xs'.length==ys'.length)=(xs.size==ys.size))
  _ ?_ ?_ _ _ ⟨rfl,rfl,x,y,xs.toList,ys.toList,rfl,hia,hib,hx,hy,rfl,by simp⟩
 ·rintro⟨u,v⟩ rest r s' ⟨hr,rfl,x',y',xs',ys',hz,hx',hy',dx,dy,hdec,hlen⟩;cases x' with
  |nil =>
   have e:xs'=[]:=hx';subst e;simp at hz
  |cons k1 x'' =>
   obtain⟨u',xs'',rfl,h1,hx''⟩:=hx';cases y' with
   |nil =>
    have e:ys'=[]:=hy';subst e;simp at hz
   |cons k2 y'' =>
    obtain⟨v',ys'',rfl,h2,hy''⟩:=hy';simp only[xf,List.cons.injEq,Prod.mk.injEq]at hz;obtain⟨⟨rfl,rfl⟩,rfl⟩:=hz;have dx':max k1.depth (TK.depths x'')<=d:=dx;have dy':max k2.depth (TK.depths y'')<=d:=dy;refine am (ih (x:=k1) (y:=k2) (by omega) (by omega) hu h1 h2 ?_);by_cases hk:k1=k2
    ·subst hk;rw[zzr1 rfl];simp only[xg,oA,if_false];refine aE ⟨rfl,rfl,x'',y'',xs'',ys'',rfl,hx'',hy'',by omega,by omega,?_,by simpa using hlen⟩;rw[<-hdec];by_cases hxy:x''=y''
     ·simp[hxy]
     ·simp[hxy]
    ·rw[zzr0 hk];simp only[Bool.not_false,if_true];have hf:decide (x=y)=false:=by rw[<-hdec];simp[hk]
     rw[hf]at h;exact am (aE (aE (aE h)))
 ·rintro⟨r1,r2⟩ s' ⟨hr,rfl,x',y',xs',ys',hz,hx',hy',dx,dy,hdec,hlen⟩;simp only at hr;subst hr;refine aE ?_;have hfin:(xs.size==ys.size)=decide (x=y):=by
   rw[<-hdec,<-hlen];cases x' with
   |nil =>
    have e:xs'=[]:=hx';subst e;cases y' with
    |nil=>have e:ys'=[]:=hy';subst e;simp
    |cons _ _=>obtain⟨_,_,rfl,_⟩:=hy';simp
   |cons _ _ =>
    obtain⟨_,_,rfl,_⟩:=hx';cases y' with
    |nil=>have e:ys'=[]:=hy';subst e;simp
    |cons _ _=>obtain⟨_,_,rfl,_⟩:=hy';simp at hz
  show P (.done (.ret (.bool (xs.size==ys.size)))) s';rw[hfin];exact h
theorem Dq:∀(d:Nat) {A:Around}{E:Zc}{s:Shared}{x y:TK}{u v:Value}{Q:Bool->Shared->Prop},x.depth<=d->y.depth<=d->A.units+d<cLine->jV s.heap x u->jV s.heap y v->Q (decide (x=y)) s ->
  wpAny (model prog w) A (eqBool u v) Q E s:=by
 have mixed1:∀{A:Around}{E:Zc}{s:Shared}{a:kM}{l:List TK}{u v:Value}{Q:Bool->Shared->Prop},A.units<cLine->jV s.heap (.k a) u->jV s.heap (.t l) v->Q false s->wpAny (model prog w) A (eqBool u v) Q E s:=by
  intro A E s a l u v Q hu hx hy h;obtain⟨b,o,items,n,rfl,ho,hc,hdt,hi⟩:=hy;have ht:s.heap.IsTuple b items:=⟨o,ho,hc,n,hdt⟩;rcases bg (show gu a u=true from hx)with⟨i,t,rfl,rfl⟩|⟨i,t,rfl,rfl⟩|⟨rfl,rfl⟩
  ·exact aU.int_tuple i t ht hu prog w E Q h
  ·exact aU.str_tuple i t ht hu prog w E Q h
  ·exact aU.none_tuple ht hu prog w E Q h
 have mixed2:∀{A:Around}{E:Zc}{s:Shared}{a:kM}{l:List TK}{u v:Value}{Q:Bool->Shared->Prop},A.units<cLine->jV s.heap (.t l) u->jV s.heap (.k a) v->Q false s->wpAny (model prog w) A (eqBool u v) Q E s:=by
  intro A E s a l u v Q hu hx hy h;obtain⟨b,o,items,n,rfl,ho,hc,hdt,hi⟩:=hx;have ht:s.heap.IsTuple b items:=⟨o,ho,hc,n,hdt⟩;rcases bg (show gu a v=true from hy)with⟨i,t,rfl,rfl⟩|⟨i,t,rfl,rfl⟩|⟨rfl,rfl⟩
  ·exact aU.tuple_int i t ht hu prog w E Q h
  ·exact aU.tuple_str i t ht hu prog w E Q h
  ·exact aU.tuple_none ht hu prog w E Q h
 have leaves:∀{A:Around}{E:Zc}{s:Shared}{a b:kM}{u v:Value}{Q:Bool->Shared->Prop},jV s.heap (.k a) u->jV s.heap (.k b) v->Q (decide (TK.k a=TK.k b)) s->wpAny (model prog w) A (eqBool u v) Q E s:=by
  intro A E s a b u v Q hx hy h;refine(uG prog w).eqBool (a:=a) (b:=b) hx hy ?_;by_cases e:a=b
  ·subst e;simpa using h
  ·have:¬(TK.k a=TK.k b):=fun z=>e (by injection z);rw[zzr0 this]at h;rw[zzr0 e];exact h
 intro d
 induction d with
 |zero =>
  intro A E s x y u v Q hdx hdy hu hx hy h;cases x with
  |t l=>exact absurd hdx (by show ¬(TK.depths l+1<=0);omega)
  |k a =>
   cases y with
   |t l=>exact absurd hdy (by show ¬(TK.depths l+1<=0);omega)
   |k b=>exact leaves hx hy h
 |succ d ih =>
  intro A E s x y u v Q hdx hdy hu hx hy h;cases x with
  |k a =>
   cases y with
   |k b=>exact leaves hx hy h
   |t l =>
    rw[zzr0 (by intro z;cases z)]at h;exact mixed1 (by omega) hx hy h
  |t l =>
   cases y with
   |k b =>
    rw[zzr0 (by intro z;cases z)]at h;exact mixed2 (by omega) hx hy h
   |t m =>
    have hl:TK.depths l<=d:=by have:TK.depths l+1<=d+1:=hdx;omega
    have hm:TK.depths m<=d:=by have:TK.depths m+1<=d+1:=hdy;omega
    have hx0:=hx;have hy0:=hy;obtain⟨a,oa,xs,na,rfl,hoa,hca,hda,hia⟩:=hx;obtain⟨b,ob,ys,nb,rfl,hob,hcb,hdb,hib⟩:=hy;have hTa:s.TypeIs (.ref a) "tuple":=⟨oa,hoa,hca⟩;have hTb:s.TypeIs (.ref b) "tuple":=⟨ob,hob,hcb⟩;have hd':decide (TK.t l=TK.t m)=decide (l=m):=by
     by_cases e:l=m
     ·subst e;simp
     ·have:¬(TK.t l=TK.t m):=fun z=>e (by injection z);rw[zzr0 this,zzr0 e]
    unfold eqBool
    try with_reducible refine kU ?_
    show wpAny _ _ (if(Value.ref a==Value.ref b)=true then _ else _) Q E s
    by_cases hab:(Value.ref a==Value.ref b)=true
    ·rw[if_pos hab];have e:a=b:=by have:=eq_of_beq hab;injection this
     subst e;have e2:TK.t l=TK.t m:=jV.inj _ (ax _) hx0 hy0;rw[zzr1 e2]at h;exact am (kW (aE h))
    ·rw[if_neg hab];rw[hd']at h;exact am (wpAny_richCompare_same_room (op:=.Eq) hTa hTb F.slot_tuple_eq
      (vm F.slot_tuple_eq hTa F.entry_tuple_eq (yo d (fun h1 h2 h3 h4 h5 h6=>ih h1 h2 h3 h4 h5 h6) hl hm (by show A.units+1+d<cLine;omega) hoa hda hia hob hcb hdb hib ⟨_,rfl,(fun e=>nomatch e),kT h⟩) (F.args_tuple_eq_2 _ _)) (by omega))
theorem zX:∀(d:Nat) {A:Around}{E:Zc}{s:Shared}{k:TK}{v:Value}{Q:Bool->Shared->Prop},k.depth<=d->jV s.heap k v->Q true s->wpAny (model prog w) A (eqIsQuiet d v) Q E s:=by
 intro d
 induction d with
 |zero =>
  intro A E s k v Q hd hk h;cases k with
  |t l=>exact absurd hd (by show ¬(TK.depths l+1<=0);omega)
  |k a=>rw[eqIsQuiet_byValue _ ((uG prog w).byValue a v hk)];exact aE h
 |succ d ih =>
  intro A E s k v Q hd hk h;cases k with
  |k a=>rw[eqIsQuiet_byValue _ ((uG prog w).byValue a v hk)];exact aE h
  |t l =>
   have hl:TK.depths l<=d:=by have:TK.depths l+1<=d+1:=hd;omega
   obtain⟨a,o,items,n,rfl,ho,hc,hdt,hi⟩:=hk;have hT:s.TypeIs (.ref a) "tuple":=⟨o,ho,hc⟩;unfold eqIsQuiet;refine am (Bp hT F.slot_tuple_eq.lookup ?_);show wpAny _ _ (isInstance (.ref a) (.type "tuple") >>= _) _ _ s;refine am (wpAny_isInstance hT isSubtype_tuple_tuple ?_);simp only[xg,oA,if_false];refine am (j1 ho hdt ?_);refine am ?_;show wpAny _ _ (forIn items _ _) _ _ s;rw[<-Array.forIn_toList];refine Bo _ (fun rest r s'=>r.1=none/\s'=s/\∃left,TAts s.heap left rest/\TK.depths left<=d) _ ?_ ?_ _ _ ⟨rfl,rfl,l,hi,hl⟩
   ·rintro v rest r s' ⟨hr,rfl,left,hall,hdl⟩;cases left with
    |nil=>have e:v::rest=[]:=hall;cases e
    |cons k' left =>
     obtain⟨v',rest',e,h1,h2⟩:=hall;cases e;have hdl':max k'.depth (TK.depths left)<=d:=hdl;refine am (ih (k:=k') (by omega) h1 ?_);simp only[xg,oA,if_false];exact aE ⟨rfl,rfl,left,h2,by omega⟩
   ·rintro⟨r1,r2⟩ s' ⟨hr,rfl,_⟩;simp only at hr;subst hr;exact aE h
def eo(prog:bt)(w:World):HeapKind prog w TK where
 is:=fun h k a=>jV h k (.ref a)/\k.depth<=8
 hash:=TK.hash w
 draws:=TK.draws
 room:=fun A=>A.units+8<cLine
 inj:=fun hx hy=>jV.inj 8 hx.2 hx.1 hy.1
 keeps:=fun{h h' k a d o es ep} x ho hd hs=>⟨jV.mono (fun b ob items n hb _ hdb=>(hs.2 b fun e=>by
  subst e;rw[ho]at hb;cases hb;rw[hd]at hdb;cases hdb).trans hb) 8 x.2 x.1,x.2⟩
 pyHash:=fun hu hk h=>Bu 8 hk.2 hu hk.1 h
 eqBool:=fun hu hx hy h=>Dq 8 hx.2 hy.2 hu hx.1 hy.1 h
 quiet:=fun hk h=>zX 8 hk.2 hk.1 h
end
end L2
namespace L2
open PySem PySem.Spec PyProof.Rows
inductive V where
 |non|bl (b:Bool)|int (i:Int)|str (x:Str)|byt (b:Array UInt8)|flt (b:UInt64)|ref (a:Addr)|ty (n:String)
 deriving DecidableEq
def RelV:V->Value->Prop
 |.non,u=>u=Value.none
 |.bl b,u=>u=Value.bool b
 |.int i,u=>∃t,u=Value.int i t
 |.str x,u=>∃t,u=Value.str x t
 |.byt b,u=>∃t,u=Value.bytes b t
 |.flt b,u=>∃t,u=Value.float b t
 |.ref a,u=>u=Value.ref a
 |.ty n,u=>u=Value.type n
abbrev aV:List V->List Value->Prop:=Paired RelV
theorem aV.length{xs:List V}{us:Zf}(r:aV xs us):xs.length=us.length:=Paired.length r
theorem aV.get:∀{xs:List V}{us:Zf}{i:Nat}{x:V},aV xs us->xs[i]?=some x->∃u,us[i]?=some u/\RelV x u
 |_,_,_,_,.nil,e=>by simp at e
 |_,_,0,_,.cons r _,e=>by simp at e;subst e;exact⟨_,rfl,r⟩
 |_,_,i+1,x,.cons _ t,e=>by
  obtain⟨u,h1,h2⟩:=aV.get (i:=i) (x:=x) t (by simpa using e);exact⟨u,by simpa using h1,h2⟩
theorem aV.set{x:V}{u:Value}(r:RelV x u):∀{xs:List V}{us:Zf}(i:Nat),aV xs us->aV (xs.set i x) (us.set i u)
 |_,_,_,.nil=>.nil
 |_,_,0,.cons _ t=>.cons r t
 |_,_,i+1,.cons q t=>.cons q (aV.set r i t)
theorem aV.append{xs ys:List V}{us ws:Zf}(h:aV xs us)(s:aV ys ws):aV (xs++ys) (us++ws):=by
 induction h with
 |nil=>exact s
 |cons r _ ih=>exact .cons r ih
theorem aV.take:∀{xs:List V}{us:Zf}(n:Nat),aV xs us->aV (xs.take n) (us.take n)
 |_,_,0,_=>.nil
 |_,_,_+1,.nil=>.nil
 |_,_,n+1,.cons r t=>.cons r (aV.take n t)
theorem aV.drop:∀{xs:List V}{us:Zf}(n:Nat),aV xs us->aV (xs.drop n) (us.drop n)
 |_,_,0,r=>r
 |_,_,_+1,.nil=>.nil
 |_,_,n+1,.cons _ t=>aV.drop n t
def i7:Option V->Option Value->Prop
 |some v,some u=>RelV v u
 |none,none=>True
 |_,_=>False
def KV{κ:Type}:List (κ×V)->List (κ×Value)->Prop:=Paired fun(p:κ×V) (q:κ×Value)=>p.1=q.1/\RelV p.2 q.2
def kV:dH->V
 |.inl i=>.int i
 |.inr x=>.str x
def CA:kM->V
 |none=>.non
 |some k=>kV k
inductive HO where
 |lst (xs:List V)
 |tup (xs:List V)
 |dK (kvs:List (dH×V))|dT (kvs:List (TK×V))
 |set (S:Int->Bool) (n:Nat)
 |ins (C dx:Addr) (fs:List (Str×V))
 |own (x:Addr)
 |xd (fs:List (Str×V))
 |met (f x:Addr)
 |rng (lo hi:Int)
 |frz (o:Obj) (u:HO)
 |tbl (ps:Array Value)
 |ext (φ:Heap->Prop)
abbrev Hp:=Addr->Option HO
mutual
def gD(H:Hp):TK->V->Prop
 |.k a,v=>v=CA a
 |.t l,v=>∃b xs,v=.ref b/\H b=some (.tup xs)/\TKAts H l xs
def TKAts(H:Hp):List TK->List V->Prop
 |[],vs=>vs=[]
 |k::r,vs=>∃v us,vs=v::us/\gD H k v/\TKAts H r us
end
def aA(K:Za)(H:Hp)(a:Addr)(xs:List V):Prop :=
 H a=some (.tup xs)∨∃(o:Obj) (its:Array Value) (n:Nat),K.lookup a=some o/\o.cls=.type "tuple"/\o.data=.seq its n/\its.size<=ai/\aV xs its.toList
theorem aA.keeps{K:Za}{H H':Hp}{a:Addr}{xs:List V}(h:aA K H a xs)(ht:∀b xs,H b=some (.tup xs)->H' b=some (.tup xs)):aA K H' a xs:=h.imp (ht a xs) id
mutual
def vj(K:Za)(H:Hp):TK->V->Prop
 |.k a,v=>v=CA a
 |.t l,v=>∃b xs,v=.ref b/\aA K H b xs/\TKCs K H l xs
def TKCs(K:Za)(H:Hp):List TK->List V->Prop
 |[],vs=>vs=[]
 |k::r,vs=>∃v us,vs=v::us/\vj K H k v/\TKCs K H r us
end
theorem vj.keeps{K:Za}{H H':Hp}(ht:∀b xs,H b=some (.tup xs)->H' b=some (.tup xs)):∀(d:Nat) {k:TK}{v:V},k.depth<=d->vj K H k v->vj K H' k v:=by
 have key:∀(d:Nat) (ih:∀{k:TK}{v:V},k.depth<=d->vj K H k v->vj K H' k v) (xs:List TK) (vs:List V),TK.depths xs<=d->TKCs K H xs vs->TKCs K H' xs vs:=by
  intro d ih xs
  induction xs with
  |nil=>intro vs _ hx;exact hx
  |cons x xs ihl =>
   intro vs hd hx;obtain⟨v,us,rfl,hx1,hx2⟩:=hx;have hd':max x.depth (TK.depths xs)<=d:=hd;exact⟨v,us,rfl,ih (by omega) hx1,ihl us (by omega) hx2⟩
 intro d
 induction d with
 |zero =>
  intro k v hd hx;cases k with
  |t l=>exact absurd hd (by show ¬(TK.depths l+1<=0);omega)
  |k a=>exact hx
 |succ d ih =>
  intro k v hd hx;cases k with
  |k a=>exact hx
  |t l =>
   obtain⟨b,xs,rfl,hb,hi⟩:=hx;exact⟨b,xs,rfl,hb.keeps ht,key d (fun h1=>ih h1) l xs (by have:TK.depths l+1<=d+1:=hd;omega) hi⟩
theorem gD.c{K:Za}{H:Hp}:∀(d:Nat) {k:TK}{v:V},k.depth<=d->gD H k v->vj K H k v:=by
 have key:∀(d:Nat) (ih:∀{k:TK}{v:V},k.depth<=d->gD H k v->vj K H k v) (xs:List TK) (vs:List V),TK.depths xs<=d->TKAts H xs vs->TKCs K H xs vs:=by
  intro d ih xs
  induction xs with
  |nil=>intro vs _ hx;exact hx
  |cons x xs ihl =>
   intro vs hd hx;obtain⟨v,us,rfl,hx1,hx2⟩:=hx;have hd':max x.depth (TK.depths xs)<=d:=hd;exact⟨v,us,rfl,ih (by omega) hx1,ihl us (by omega) hx2⟩
 intro d
 induction d with
 |zero =>
  intro k v hd hx;cases k with
  |t l=>exact absurd hd (by show ¬(TK.depths l+1<=0);omega)
  |k a=>exact hx
 |succ d ih =>
  intro k v hd hx;cases k with
  |k a=>exact hx
  |t l =>
   obtain⟨b,xs,rfl,hb,hi⟩:=hx;exact⟨b,xs,rfl,.inl hb,key d (fun h1=>ih h1) l xs (by have:TK.depths l+1<=d+1:=hd;omega) hi⟩
def upd(H:Hp)(a:Addr)(o:HO):Hp:=fun b=>if b=a then some o else H b
theorem aa{H:Hp}{a:Addr}{o:HO}:upd H a o a=some o:=by unfold upd;rw[if_pos rfl]
theorem aj{H:Hp}{a b:Addr}{o:HO}(h:b≠a):upd H a o b=H b:=by unfold upd;rw[if_neg h]
theorem nQ{H:Hp}{a:Addr}{o u:HO}:upd (upd H a o) a u=upd H a u:=by
 funext b;unfold upd;split<;>rfl
theorem Cw{H:Hp}{a b:Addr}{o u:HO}(h:H a=some o)(h':H b=some u)(d:o≠u):a≠b:=by
 intro e;subst e;rw[h]at h';exact d (dC h')
theorem ag{H:Hp}{a b:Addr}{o:HO}(h:H a=some o)(h':H b=none):a≠b:=by
 intro e;subst e;rw[h]at h';cases h'
section
variable(P:bt)(w:World)(K:Za)
def bW(H:Hp)(h:Heap)(a:Addr):HO->Prop
 |.lst xs=>xs.length<=ai/\∃(its:Zf) (n:Nat),aV xs its/\h.get? a=some { cls:=.type "list",data:=.seq its.toArray n }
 |.tup xs=>xs.length<=ai/\∃its:List Value,aV xs its/\IsTup h a its.toArray
 |.dK kvs=>kvs.length<=ai/\(a==im)=false/\∃vs,KV kvs vs/\h.DictOf (bJ P w) a vs
 |.dT kvs=>kvs.length<=ai/\(a==im)=false/\∃xs:List (TK×Addr×Value),
   Paired (fun(p:TK×V) (q:TK×Addr×Value)=>p.1=q.1/\vj K H p.1 (.ref q.2.1)/\p.1.depth<=8/\RelV p.2 q.2.2) kvs xs /\
   ∃o es ep,h.get? a=some o/\o.ExactDict/\o.data=.dict es ep/\es.toList=xs.map (entryOfKey (eo P w))/\(xs.map (·.1)).Nodup
 |.set S n=>h.SetOf (intKind P w) a S n
 |.ins C dx fs=>H dx=some (.own a)/\fs.length<=1000/\dx≠a/\h.get? a=some (m8 C dx) /\
   ∃mA,h.Ns1 dx mA/\(∀f,i7 (fs.lookup f) (mA f))/\PySem.Within mA (fs.map (·.1))
 |.own _=>∃o,h.get? a=some o
 |.xd fs=>∃mA,h.Ns1 a mA/\∀f,i7 (fs.lookup f) (mA f)
 |.rng lo hi=>∃t u v,h.get? a=some { cls:=.type "range",data:=.fields #[.int lo t,.int hi u,.int 1 v] }
 |.frz o u=>h.get? a=some o/\bW H h a u
 |.tbl ps=>h.get? a=some { cls:=.none,data:=.fields ps }
 |.met f x=>h.get? a=some (PySem.W.methodObj (.ref f) (.ref x))
 |.ext φ=>φ h/\(∃o,h.get? a=some o)/\∀h1 h2:Heap,φ h1->(∀o,h1.get? a=some o->h2.get? a=some o)->φ h2
def j6(H:Hp)(h:Heap):Prop:=∀a o,H a=some o->bW P w K H h a o
end
section
variable{P:bt}{w:World}{K:Za}{H H':Hp}{h h':Heap}{a:Addr}{o:HO}
theorem bW.lt(x:bW P w K H h a o):a<h.objs.size:=by
 cases o with
 |lst xs=>obtain⟨_,_,_,_,e⟩:=x;exact aQ e
 |tup xs=>obtain⟨_,_,_,p⟩:=x;exact p.lt
 |dK kvs=>obtain⟨_,_,_,_,o,_,_,e,_⟩:=x;exact aQ e
 |dT kvs=>obtain⟨_,_,_,_,o,_,_,e,_⟩:=x;exact aQ e
 |set S n=>obtain⟨o,_,_,_,e,_⟩:=x;exact aQ e
 |ins C dx fs=>obtain⟨_,_,_,e,_⟩:=x;exact aQ e
 |own y=>obtain⟨_,e⟩:=x;exact aQ e
 |xd fs=>obtain⟨_,⟨_,_,_,e,_⟩,_⟩:=x;exact aQ e
 |rng lo hi=>obtain⟨_,_,_,e⟩:=x;exact aQ e
 |frz ob u=>obtain⟨e,_⟩:=x;exact aQ e
 |tbl ps=>exact aQ (show h.get? a=some _ from x)
 |met f y=>exact aQ (show h.get? a=some _ from x)
 |ext φ=>obtain⟨_,⟨_,e⟩,_⟩:=x;exact aQ e
theorem Paired.mapP{α β:Type}{F G:α->β->Prop}{l₁:List α}{l₂:List β}(h:Paired F l₁ l₂)(f:∀a b,F a b->G a b):Paired G l₁ l₂:=by
 induction h with
 |nil=>exact .nil
 |cons r _ ih=>exact .cons (f _ _ r) ih
theorem bW.stay(x:bW P w K H h a o)(k:∀b u,(b=a∨H b=some (.own a))->h.get? b=some u->h'.get? b=some u)
  (ho:∀b,H b=some (.own a)->H' b=some (.own a)) (ht:∀b xs,H b=some (.tup xs)->H' b=some (.tup xs)):bW P w K H' h' a o:=by
 induction o with
 |lst xs=>obtain⟨z,its,n,r,e⟩:=x;exact⟨z,its,n,r,k _ _ (.inl rfl) e⟩
 |tup xs=>obtain⟨z,its,r,ob,e,c⟩:=x;exact⟨z,its,r,ob,k _ _ (.inl rfl) e,c⟩
 |dK kvs=>obtain⟨z,y,vs,r,ob,es,ep,e,c⟩:=x;exact⟨z,y,vs,r,ob,es,ep,k _ _ (.inl rfl) e,c⟩
 |dT kvs =>
  obtain⟨z,y,xs,r,ob,es,ep,e,c⟩:=x;exact⟨z,y,xs,Paired.mapP r fun p q z=>⟨z.1,vj.keeps ht 8 z.2.2.1 z.2.1,z.2.2⟩,ob,es,ep,k _ _ (.inl rfl) e,c⟩
 |set S n=>obtain⟨ob,es,ep,t,e,c⟩:=x;exact⟨ob,es,ep,t,k _ _ (.inl rfl) e,c⟩
 |ins C dx fs =>
  obtain⟨d,z,ne,e,mA,⟨od,es,ep,e2,c⟩,r⟩:=x;exact⟨ho _ d,z,ne,k _ _ (.inl rfl) e,mA,⟨od,es,ep,k _ _ (.inr d) e2,c⟩,r⟩
 |own y=>obtain⟨ob,e⟩:=x;exact⟨ob,k _ _ (.inl rfl) e⟩
 |xd fs=>obtain⟨mA,⟨od,es,ep,e,c⟩,r⟩:=x;exact⟨mA,⟨od,es,ep,k _ _ (.inl rfl) e,c⟩,r⟩
 |rng lo hi=>obtain⟨t,u,v,e⟩:=x;exact⟨t,u,v,k _ _ (.inl rfl) e⟩
 |frz ob u ih=>obtain⟨e,q⟩:=x;exact⟨k _ _ (.inl rfl) e,ih q⟩
 |tbl ps =>
  have e:h.get? a=some { cls:=.none,data:=.fields ps }:=x;show h'.get? a=some { cls:=.none,data:=.fields ps };exact k a _ (.inl rfl) e
 |met f y =>
  have e:h.get? a=some (PySem.W.methodObj (.ref f) (.ref y)):=x;show h'.get? a=some (PySem.W.methodObj (.ref f) (.ref y));exact k a _ (.inl rfl) e
 |ext φ=>obtain⟨p,⟨o,e⟩,st⟩:=x;exact⟨st _ _ p fun o q=>k _ _ (.inl rfl) q,⟨o,k _ _ (.inl rfl) e⟩,st⟩
theorem j6.lt(x:j6 P w K H h)(e:H a=some o):a<h.objs.size:=(x a o e).lt
theorem j6.fresh(x:j6 P w K H h)(e:h.objs.size<=a):H a=none:=by
 cases q:H a with
 |none=>rfl
 |some u=>exact absurd (fy (x.lt q) e) (i9 _)
theorem j6.kept(x:j6 P w K H h)(k:∀b u,h.get? b=some u->h'.get? b=some u):j6 P w K H h':=fun a o e =>
 (x a o e).stay (fun b u _ q=>k b u q) (fun _ q=>q) fun _ _ q=>q
theorem j6.laid(x:j6 P w K H h)(k:∀b u,h.get? b=some u->h'.get? b=some u)(hp:h.objs.size<=a)(new:bW P w K (upd H a o) h' a o):j6 P w K (upd H a o) h':=fun b u e=>by
 have hn:=x.fresh hp;by_cases hb:b=a
 ·subst hb;rw[aa]at e;cases e;exact new
 ·rw[aj hb]at e;exact(x b u e).stay (fun c v _ q=>k c v q) (fun c q=>by rw[aj (ag q hn)];exact q) fun c xs q=>by rw[aj (ag q hn)];exact q
end
def Rd(H:Hp)(a:Addr)(u:HO):Prop:=H a=some u∨∃o,H a=some (.frz o u)
theorem Rd.ok{P:bt}{w:World}{K:Za}{H:Hp}{h:Heap}{a:Addr}{u:HO}(r:Rd H a u)(x:j6 P w K H h):bW P w K H h a u:=by
 rcases r with r|⟨o,r⟩
 ·exact x a u r
 ·obtain⟨_,q⟩:=x a _ r;exact q
def DO:Option HO->Prop
 |some (.lst _)=>True
 |some (.dK _)=>True
 |some (.dT _)=>True
 |some (.set _ _)=>True
 |some (.ins _ _ _)=>True
 |some (.ext _)=>True
 |_=>False
section
variable{P:bt}{w:World}{K:Za}{H:Hp}{h h':Heap}{x e:Addr}{o':HO}
theorem j6.write(ok:j6 P w K H h)(mu:DO (H x))(he:e=x∨H e=some (.own x))(k:∀b u,b≠e->h.get? b=some u->h'.get? b=some u)(heo:∃u,h'.get? e=some u)
  (new:bW P w K (upd H x o') h' x o'):j6 P w K (upd H x o') h':=fun b u q=>by
 have nown:∀c y,H c=some (.own y)->c≠x:=fun c y r z=>by subst z;rw[r]at mu;exact mu
 have ntup:∀c xs,H c=some (.tup xs)->c≠x:=fun c xs r z=>by subst z;rw[r]at mu;exact mu
 by_cases hb:b=x
 ·subst hb;rw[aa]at q;cases q;exact new
 ·rw[aj hb]at q;by_cases hbe:b=e
  ·have q':H b=some (.own x):=by
    rcases he with z|z
    ·exact absurd (hbe.trans z) hb
    ·rw[hbe];exact z
   rw[q]at q';cases q';obtain⟨v,hv⟩:=heo;exact⟨v,by rw[hbe];exact hv⟩
  ·refine(ok b u q).stay (fun c v hc r=>k c v ?_ r) (fun c r=>by rw[aj (nown c b r)];exact r) fun c xs r=>by rw[aj (ntup c xs r)];exact r
   rcases hc with rfl|hc
   ·exact hbe
   ·rintro rfl;rcases he with z|z
    ·exact nown c b hc z
    ·rw[hc]at z;cases z;exact hb rfl
end
structure Un(fs ex:Ze)(H H':Hp)(h h':Heap):Prop where
 keep:∀b o,h.get? b=some o->H b=none->b∉fs->b∉ex->h'.get? b=some o
 slot:∀b o,h.get? b=some o->H b=none->b∈fs->b∉ex->∃sl,h'.get? b=some { o with slots:=sl }
 free:∀b o,h.get? b=some o->H b=none->b∉ex->H' b=none
 there:∀b o,h.get? b=some o->b∉ex->∃o',h'.get? b=some o'
 tups:∀b xs,H b=some (.tup xs)->H' b=some (.tup xs)
 frzs:∀b o u,H b=some (.frz o u)->H' b=some (.frz o u)
 tbls:∀b ps,H b=some (.tbl ps)->∃more,H' b=some (.tbl (ps++more))
section
variable{fs fs' ex ex':Ze}{H H1 H2:Hp}{h h1 h2 h':Heap}{a x e:Addr}{o:HO}
theorem Un.any(u:Un fs ex H H1 h h1){b:Addr}{ob:Obj}(q:h.get? b=some ob)(n:H b=none)(hx:b∉ex):∃sl,h1.get? b=some { ob with slots:=sl }:=by
 by_cases hb:b∈fs
 ·exact u.slot b ob q n hb hx
 ·exact⟨ob.slots,u.keep b ob q n hb hx⟩
theorem Un.kept(k:∀b u,h.get? b=some u->h'.get? b=some u):Un fs ex H H h h' :=
 ⟨fun b ob q _ _ _=>k b ob q,fun b ob q _ _ _=>⟨ob.slots,k b ob q⟩,fun _ _ _ n _=>n,fun b ob q _=>⟨ob,k b ob q⟩,fun _ _ q=>q,fun _ _ _ q=>q,fun _ ps q=>⟨#[],by rw[q];simp⟩⟩
theorem Un.refl:Un fs ex H H h h:=Un.kept fun _ _ q=>q
theorem Un.laid(k:∀b u,h.get? b=some u->h'.get? b=some u)(hp:h.objs.size<=a)(hn:H a=none):Un fs ex H (upd H a o) h h' where
 keep:=fun b u q _ _ _=>k b u q
 slot:=fun b u q _ _ _=>⟨u.slots,k b u q⟩
 free:=fun b u q n _=>by rw[aj (b_ (fy (aQ q) hp))];exact n
 there:=fun b u q _=>⟨u,k b u q⟩
 tups:=fun b xs q=>by rw[aj (ag q hn)];exact q
 frzs:=fun b u xs q=>by rw[aj (ag q hn)];exact q
 tbls:=fun b ps q=>⟨#[],by rw[aj (ag q hn),q];simp⟩
theorem Un.write(mu:DO (H x))(he:e=x∨H e=some (.own x))(k:∀b u,b≠e->h.get? b=some u->h'.get? b=some u)(heo:∃u,h'.get? e=some u):Un fs ex H (upd H x o) h h':=by
 have hx:∀b,H b=none->b≠x:=fun b n z=>by subst z;rw[n]at mu;exact mu
 have hb:∀b,H b=none->b≠e:=fun b n z=>by
  subst z;rcases he with r|r
  ·exact hx b n r
  ·rw[n]at r;cases r
 have hm:∀b u,H b=some u->¬DO (some u)->b≠x:=fun b u q nm z=>by subst z;rw[q]at mu;exact nm mu
 refine⟨fun b u q n _ _=>k b u (hb b n) q,fun b u q n _ _=>⟨u.slots,k b u (hb b n) q⟩,fun b u q n _=>by rw[aj (hx b n)];exact n,fun b u q _=>?_,
  fun b xs q=>by rw[aj (hm b _ q fun z=>z)];exact q,fun b u xs q=>by rw[aj (hm b _ q fun z=>z)];exact q,fun b ps q=>⟨#[],by rw[aj (hm b _ q fun z=>z),q];simp⟩⟩
 by_cases hbe:b=e
 ·subst hbe;exact heo
 ·exact⟨u,k b u hbe q⟩
end
def D0(h:Heap)(H:Hp):List Addr:=(kS h.objs.size).filter fun a=>(H a).isSome
def sV(h:Heap)(H:Hp):Heap:=PySem.W.hideAll h (D0 h H)
theorem y1(h:Heap)(H:Hp):(sV h H).objs.size=h.objs.size:=PySem.W.hideAll_size _ _
theorem AL{h:Heap}{H:Hp}{b:Addr}{o:Obj}(e:h.get? b=some o)(n:H b=none):(sV h H).get? b=some o :=
 PySem.W.hideAll_get _ e fun hm=>by
  have q:(H b).isSome=true:=(ik.mp hm).2;rw[n]at q;simp at q
theorem BV{h:Heap}{H:Hp}{b:Addr}{o:Obj}(e:(sV h H).get? b=some o):h.get? b=some o/\H b=none:=by
 have e':h.get? b=some o:=PySem.W.of_hideAll (D0 h H) e;refine⟨e',?_⟩;cases q:H b with
 |none=>rfl
 |some x =>
  have hm:b∈D0 h H:=ik.mpr ⟨List.mem_range.mpr (aQ e'),by simp[q]⟩;have z:(sV h H).get? b=none:=PySem.W.hideAll_none (D0 h H) hm;rw[z]at e;cases e
end L2
namespace L2
open PySem PySem.Spec PyProof.Rows
structure Mod(K:Za)(mg:Str->Option Value)(base:Heap):Prop where
 kin:K.In base
 glob:base.Ns bj mg
 blt:∃mb,base.Ns builtinsNs mb/\∀x:Str,x≠"__name__"->mb x=gb x
 nolimit:base.NoLimit
structure Cx where
 prog:bt
 w:World
 K:Za
 mg:Str->Option Value
 base:Heap
 A:Around
 N:List Str
 s₀:Shared
 H₀:Hp
 env:Env
 outer:List Env
 stack:List Env
 ex:List Addr
 fn:Str->Bool
 calm:Bool
 pn:List (Addr×Obj)
 xe:Value->Shared->Prop
def zI(l:List Env):List Addr:=l.filterMap (·.frame)
abbrev Cx.fs(X:Cx):List Addr:=zI X.outer
def Vis(sc:Scope)(x:Str):Prop:=sc.names.lookup x=some .local∨sc.names.lookup x=some .cell∨sc.names.lookup x=some .free
def Loc(sc:Scope)(x:Str):Prop:=sc.names.lookup x=some .local∨sc.names.lookup x=some .cell
def Look(env:Env)(h:Heap)(m:Str->Option Value)(x:Str)(u:Value):Prop :=
 (env.kindOf x=some .local/\m x=some u)∨((env.kindOf x=some .cell∨env.kindOf x=some .free)/\∃c,env.cells.lookup x=some c/\h.IsCell c (some u))
structure Cx.Ok(X:Cx):Prop where
 mod:Mod X.K X.mg X.base
 kind:X.env.scope.kind=.function
 glob:X.env.globals=bj
 blt:X.env.builtins=builtinsNs
 above:X.s₀.heap.objs.size<=X.env.locals
 inj:∀x y c,X.env.cells.lookup x=some c->X.env.cells.lookup y=some c->x=y
 has:∀x,(X.env.kindOf x=some .cell∨X.env.kindOf x=some .free)->∃c,X.env.cells.lookup x=some c
 cab:∀x c,X.fn x=true->X.env.cells.lookup x=some c->X.s₀.heap.objs.size<=c
 hd:X.calm=true->X.A.handled=none
 frames:X.A.frames=some X.stack
 stk:X.stack=X.outer∨(X.stack=X.env::X.outer/\X.env.frame=some X.env.locals)
 exf:∀b∈X.ex,b≠X.env.locals/\∀x c,X.env.cells.lookup x=some c->c≠b
 bs:∀b o,X.base.get? b=some o->X.s₀.heap.get? b=some o/\X.H₀ b=none
 bsz:X.base.objs.size<=X.s₀.heap.objs.size
 noex:∀b o,X.base.get? b=some o->b∉X.ex
 exfs:∀b∈X.ex,b∉X.fs
 funs:X.s₀.heap.FunFrames X.base X.outer
 frf:∀b∈X.fs,X.H₀ b=none
structure Inv(X:Cx)(J5:Zd)(σ:List (Option V))(H:Hp)(s:Shared):Prop where
 ok:X.Ok
 os:s.os=X.s₀.os
 bare:kR s.gens
 base:Un X.fs X.ex X.H₀ H X.s₀.heap s.heap
 loc:∃m,s.heap.Ns X.env.locals m/\∀(i:Nat) (x:Str) (v:V),X.N[i]?=some x->σ[i]?=some (some v)->Vis X.env.scope x->∃u,RelV v u/\Look X.env s.heap m x u
 cell:∀x c,X.env.cells.lookup x=some c->∃v,s.heap.IsCell c v
 free:H X.env.locals=none
 freeC:∀x c,X.env.cells.lookup x=some c->H c=none
 pin:∀p∈X.pn++J5,s.heap.get? p.1=some p.2/\H p.1=none/\p.1≠X.env.locals/\p.1∉X.fs/\∀v,p.2.data≠.cell v
 hok:j6 X.prog X.w X.K H s.heap
 len:σ.length=X.N.length
section
variable{X:Cx}{J5:Zd}{σ:List (Option V)}{H H':Hp}{s:Shared}{h':Heap}
theorem Cx.Ok.nofr(ok:X.Ok){b:Addr}{o:Obj}(e:X.base.get? b=some o):b∉X.fs:=fun hb=>by
 have:=(ok.funs.mem hb).1;rw[e]at this;cases this
theorem Inv.bs(I:Inv X J5 σ H s):∀b o,X.base.get? b=some o->s.heap.get? b=some o/\H b=none:=fun b o e =>
 ⟨I.base.keep b o (I.ok.bs b o e).1 (I.ok.bs b o e).2 (I.ok.nofr e) (I.ok.noex b o e),I.base.free b o (I.ok.bs b o e).1 (I.ok.bs b o e).2 (I.ok.noex b o e)⟩
theorem Inv.bk(I:Inv X J5 σ H s):∀b o,X.base.get? b=some o->s.heap.get? b=some o:=fun b o e=>(I.bs b o e).1
theorem Inv.mod(I:Inv X J5 σ H s):Mod X.K X.mg X.base:=I.ok.mod
theorem Inv.kIn(I:Inv X J5 σ H s):X.K.In s.heap:=I.ok.mod.kin.keeps I.bk
theorem Inv.fr(I:Inv X J5 σ H s):∃m,Fr X.base X.env.locals s.heap m :=
 let⟨m,hn,_⟩:=I.loc
 ⟨m,hn,I.bk,aW I.ok.bsz I.ok.above⟩
theorem Inv.lt(I:Inv X J5 σ H s):X.env.locals<s.heap.objs.size:=let⟨_,hn,_⟩:=I.loc;hn.lt
theorem Inv.sz(I:Inv X J5 σ H s):X.s₀.heap.objs.size<=s.heap.objs.size:=aW I.ok.above (cp I.lt)
theorem Inv.nofs(I:Inv X J5 σ H s){a:Addr}(h:s.heap.objs.size<=a):a∉X.fs:=fun hb=>by
 obtain⟨_,o,ho,_⟩:=I.ok.funs.mem hb;exact absurd (fy (aQ ho) (aW I.sz h)) (i9 _)
theorem Inv.cne(I:Inv X J5 σ H s):∀x c,X.env.cells.lookup x=some c->c≠X.env.locals:=fun x c e z=>by
 obtain⟨v,o,ho,hd⟩:=I.cell x c e;obtain⟨m,⟨o',es,ep,ho',hd',_⟩,_⟩:=I.loc;rw[z,ho']at ho;cases ho;rw[hd']at hd;cases hd
theorem Inv.funs(I:Inv X J5 σ H s):s.heap.FunFrames X.base X.outer:=by
 have all:∀(l:List Env),(∀b∈zI l,b∈X.fs)->X.s₀.heap.FunFrames X.base l->s.heap.FunFrames X.base l:=by
  intro l
  induction l with
  |nil=>intro _ _;trivial
  |cons env r ih =>
   intro hs hl;obtain⟨hk,⟨L,o,hf,hn,ho,hd⟩,hr⟩:=hl;have hL:L∈X.fs:=hs L (by unfold zI;rw[List.filterMap_cons,hf];exact eR);obtain⟨sl,e⟩:=I.base.slot L o ho (I.ok.frf L hL) hL fun z=>I.ok.exfs L z hL;exact⟨hk,⟨L,_,hf,hn,e,hd⟩,ih (fun b hb=>hs b (by unfold zI;rw[List.filterMap_cons,hf];exact fx _ hb)) hr⟩
 exact all X.outer (fun _ hb=>hb) I.ok.funs
theorem Inv.stack(I:Inv X J5 σ H s):s.heap.FunFrames X.base X.stack:=by
 rcases I.ok.stk with e|⟨e,hf⟩
 ·rw[e];exact I.funs
 ·rw[e];obtain⟨m,hn,_⟩:=I.loc;refine .cons (by rw[I.ok.kind];decide) hf hn ?_ I.funs;exact Heap.get?_none_of_le (aW I.ok.bsz I.ok.above)
theorem Inv.stkSub(I:Inv X J5 σ H s):∀b∈zI X.stack,b∈X.env.locals::X.fs:=fun b hb=>by
 rcases I.ok.stk with e|⟨e,hf⟩
 ·rw[e]at hb;exact fx _ hb
 ·rw[e]at hb;unfold zI at hb;rw[List.filterMap_cons,hf]at hb;exact hb
theorem Inv.stkFree(I:Inv X J5 σ H s):∀b∈zI X.stack,H b=none:=fun b hb=>by
 rcases bS.mp (I.stkSub b hb)with e|hb
 ·rw[e];exact I.free
 ·obtain⟨_,o,ho,_⟩:=I.ok.funs.mem hb;exact I.base.free b o ho (I.ok.frf b hb) fun z=>I.ok.exfs b z hb
theorem Inv.step{g':Array GenState}{t':Nat}{d':Drawn}{ch:Ze}(I:Inv X J5 σ H s)
  (hch:∀b∈ch,(b∈X.ex∨X.s₀.heap.objs.size<=b)/\b≠X.env.locals/\(∀x c,X.env.cells.lookup x=some c->c≠b)/\∀p∈X.pn++J5,p.1≠b)
  (keep:∀b o,b≠X.env.locals->b∉X.fs->b∉ch->s.heap.get? b=some o->H b=none->h'.get? b=some o)
  (slot:∀b o,b≠X.env.locals->b∈X.fs->b∉ch->s.heap.get? b=some o->H b=none->∃sl,h'.get? b=some { o with slots:=sl }) (free:∀b o,b∉ch->s.heap.get? b=some o->H b=none->H' b=none)
  (there:∀b o,b∉ch->s.heap.get? b=some o->∃o',h'.get? b=some o')
  (tups:∀b xs,H b=some (.tup xs)->H' b=some (.tup xs)) (frzs:∀b o u,H b=some (.frz o u)->H' b=some (.frz o u)) (tbls:∀b ps,H b=some (.tbl ps)->∃more,H' b=some (.tbl (ps++more)))
  (ns:∀m,s.heap.Ns X.env.locals m->h'.Ns X.env.locals m) (hok:j6 X.prog X.w X.K H' h') (hg:kR g') :
  Inv X J5 σ H' { s with heap:=h',gens:=g',drawn:=d',toks:=t' }:=by
 have neL:∀b o,X.s₀.heap.get? b=some o->b≠X.env.locals:=fun b o e=>b_ (fy (aQ e) I.ok.above);have neC:∀b o,X.s₀.heap.get? b=some o->b∉X.ex->b∉ch:=fun b o e hx hb=>by
  rcases(hch b hb).1 with z|z
  ·exact hx z
  ·exact absurd (fy (aQ e) z) (i9 _)
 have cellK:∀x c,X.env.cells.lookup x=some c->∀v,s.heap.IsCell c v->h'.IsCell c v:=fun x c e v ⟨o,ho,hd⟩=>by
  have nch:c∉ch:=fun z=>(hch c z).2.2.1 x c e rfl;by_cases hc:c∈X.fs
  ·obtain⟨sl,q⟩:=slot c o (I.cne x c e) hc nch ho (I.freeC x c e);exact⟨_,q,hd⟩
  ·exact⟨o,keep c o (I.cne x c e) hc nch ho (I.freeC x c e),hd⟩
 refine⟨I.ok,I.os,hg,⟨fun b o e n hb hx=>?_,fun b o e n hb hx=>?_,fun b o e n hx=>?_,fun b o e hx=>?_,fun b xs e=>tups b xs (I.base.tups b xs e),fun b o xs e=>frzs b o xs (I.base.frzs b o xs e),fun b ps e=>?_⟩,?_,fun x c e=>?_,?_,fun x c e=>?_,fun p hp=>?_,hok,I.len⟩
 ·exact keep b o (neL b o e) hb (neC b o e hx) (I.base.keep b o e n hb hx) (I.base.free b o e n hx)
 ·obtain⟨sl,e1⟩:=I.base.slot b o e n hb hx;obtain⟨sl',e2⟩:=slot b _ (neL b o e) hb (neC b o e hx) e1 (I.base.free b o e n hx);exact⟨sl',e2⟩
 ·obtain⟨o',e1⟩:=I.base.there b o e hx;exact free b o' (neC b o e hx) e1 (I.base.free b o e n hx)
 ·obtain⟨o',e1⟩:=I.base.there b o e hx;exact there b o' (neC b o e hx) e1
 ·obtain⟨m1,e1⟩:=I.base.tbls b ps e;obtain⟨m2,e2⟩:=tbls b _ e1;exact⟨m1++m2,by rw[e2,Array.append_assoc]⟩
 ·obtain⟨m,hn,hl⟩:=I.loc;refine⟨m,ns m hn,fun i x v e1 e2 e3=>?_⟩;obtain⟨u,r,l⟩:=hl i x v e1 e2 e3;refine⟨u,r,?_⟩;rcases l with l|⟨k,c,e,z⟩
  ·exact .inl l
  ·exact .inr ⟨k,c,e,cellK x c e _ z⟩
 ·obtain⟨v,z⟩:=I.cell x c e;exact⟨v,cellK x c e v z⟩
 ·obtain⟨m,⟨o,_,_,ho,_⟩,_⟩:=I.loc;exact free _ o (fun z=>(hch _ z).2.1 rfl) ho I.free
 ·obtain⟨v,o,ho,hd⟩:=I.cell x c e;exact free c o (fun z=>(hch c z).2.2.1 x c e rfl) ho (I.freeC x c e)
 ·obtain⟨e,n,ne,nf,d⟩:=I.pin p hp;have nch:p.1∉ch:=fun z=>(hch p.1 z).2.2.2 p hp rfl;exact⟨keep p.1 p.2 ne nf nch e n,free p.1 p.2 nch e n,ne,nf,d⟩
theorem Inv.un{t':Nat}(I:Inv X J5 σ H s)(u:Un X.fs [] H H' s.heap h')(hok:j6 X.prog X.w X.K H' h'):Inv X J5 σ H' { s with heap:=h',toks:=t' }:=by
 obtain⟨m,⟨o,es,ep,ho,r⟩,_⟩:=id I.loc;obtain⟨sl,hL⟩:=u.any ho I.free (by simp);exact I.step (g':=s.gens) (d':=s.drawn) (ch:=[]) (fun _ z=>nomatch z) (fun b o _ hb _ e n=>u.keep b o e n hb (by simp)) (fun b o _ hb _ e n=>u.slot b o e n hb (by simp)) (fun b o _ e n=>u.free b o e n (by simp)) (fun b o _ e=>u.there b o e (by simp)) u.tups u.frzs u.tbls (fun m' hm=>by
  obtain⟨o',es',ep',ho',r'⟩:=hm;rw[ho]at ho';cases ho';exact⟨_,es',ep',hL,r'⟩) hok I.bare
theorem Inv.call{g':Array GenState}{t':Nat}{d':Drawn}{ch:Ze}(I:Inv X J5 σ H s)(u:Un (zI X.stack) ch H H' s.heap h')(hok:j6 X.prog X.w X.K H' h')(hg:kR g')
  (hch:∀b∈ch,(b∈X.ex∨X.s₀.heap.objs.size<=b)/\b≠X.env.locals/\(∀x c,X.env.cells.lookup x=some c->c≠b)/\∀p∈X.pn++J5,p.1≠b) :
  Inv X J5 σ H' { s with heap:=h',gens:=g',drawn:=d',toks:=t' }:=by
 obtain⟨m,⟨o,es,ep,ho,r⟩,_⟩:=id I.loc;obtain⟨sl,hL⟩:=u.any ho I.free fun z=>(hch _ z).2.1 rfl;exact I.step (ch:=ch) hch (fun b o hL hb hc e n=>u.keep b o e n (fun z=>(bS.mp (I.stkSub b z)).elim hL hb) hc) (fun b o _ _ hc e n=>u.any e n hc) (fun b o hc e n=>u.free b o e n hc) (fun b o hc e=>u.there b o e hc) u.tups u.frzs u.tbls (fun m' hm=>by
  obtain⟨o',es',ep',ho',r'⟩:=hm;rw[ho]at ho';cases ho';exact⟨_,es',ep',hL,r'⟩) hok hg
theorem Inv.turned{t':Nat}{it:Addr}(I:Inv X J5 σ H s)(k:∀b o,b≠it->s.heap.get? b=some o->h'.get? b=some o)(hn:H it=none)(hL:it≠X.env.locals)
  (h1:it∈X.ex∨X.s₀.heap.objs.size<=it) (h2:∀x c,X.env.cells.lookup x=some c->c≠it) (h3:∀p∈X.pn++J5,p.1≠it):Inv X J5 σ H { s with heap:=h',toks:=t' }:=by
 have nit:∀b u,H b=some u->b≠it:=fun b u e z=>by rw[z,hn]at e;cases e
 refine I.step (g':=s.gens) (d':=s.drawn) (ch:=[it]) (fun b hb=>?_) (fun b o _ _ hc e _=>k b o (fun z=>hc (by simp[z])) e) (fun b o _ _ hc e _=>⟨o.slots,k b o (fun z=>hc (by simp[z])) e⟩) (fun _ _ _ _ n=>n)
  (fun b o hc e=>⟨o,k b o (fun z=>hc (by simp[z])) e⟩) (fun _ _ e=>e) (fun _ _ _ e=>e) (fun b ps e=>⟨#[],by rw[e];simp⟩) (fun m hm=>?_) (fun b u e=>?_) I.bare
 ·have e:b=it:=by simpa using hb
  subst e;exact⟨h1,hL,h2,h3⟩
 ·obtain⟨o,es,ep,ho,r⟩:=hm;exact⟨o,es,ep,k _ o (ga hL) ho,r⟩
 ·refine(I.hok b u e).stay (fun c v hc q=>k c v ?_ q) (fun _ q=>q) fun _ _ q=>q;rcases hc with z|z
  ·rw[z];exact nit b u e
  ·exact nit c _ z
theorem Inv.tok(I:Inv X J5 σ H s)(t:Nat):Inv X J5 σ H { s with toks:=t }:=I.un (h':=s.heap) (t':=t) Un.refl I.hok
theorem Inv.kept{t':Nat}(I:Inv X J5 σ H s)(k:∀b u,s.heap.get? b=some u->h'.get? b=some u):Inv X J5 σ H { s with heap:=h',toks:=t' }:=I.un (Un.kept k) (I.hok.kept k)
theorem Inv.laid{a:Addr}{o:HO}{t':Nat}(I:Inv X J5 σ H s)(k:∀b u,s.heap.get? b=some u->h'.get? b=some u)(hp:s.heap.objs.size<=a)(new:bW X.prog X.w X.K (upd H a o) h' a o):
  Inv X J5 σ (upd H a o) { s with heap:=h',toks:=t' }:=I.un (Un.laid k hp (I.hok.fresh hp)) (I.hok.laid k hp new)
theorem Inv.write{x e:Addr}{o:HO}{t':Nat}(I:Inv X J5 σ H s)(mu:DO (H x))(he:e=x∨H e=some (.own x))(k:∀b u,b≠e->s.heap.get? b=some u->h'.get? b=some u)(heo:∃u,h'.get? e=some u)
  (new:bW X.prog X.w X.K (upd H x o) h' x o):Inv X J5 σ (upd H x o) { s with heap:=h',toks:=t' }:=I.un (Un.write mu he k heo) (I.hok.write mu he k heo new)
theorem Inv.weak{σ':List (Option V)}(I:Inv X J5 σ H s)(hl:σ'.length=σ.length)(w:∀(i:Nat) v,σ'[i]?=some (some v)->σ[i]?=some (some v)):Inv X J5 σ' H s :=
 ⟨I.ok,I.os,I.bare,I.base,let⟨m,hn,hl'⟩:=I.loc;⟨m,hn,fun i x v e1 e2 e3=>hl' i x v e1 (w i v e2) e3⟩,I.cell,I.free,I.freeC,I.pin,I.hok,hl.trans I.len⟩
theorem Inv.pins_of{pins':Zd}(I:Inv X J5 σ H s)(h:∀p∈pins',s.heap.get? p.1=some p.2/\H p.1=none/\p.1≠X.env.locals/\p.1∉X.fs/\∀v,p.2.data≠.cell v):Inv X pins' σ H s :=
 ⟨I.ok,I.os,I.bare,I.base,I.loc,I.cell,I.free,I.freeC,fun p hp=>(bq.mp hp).elim (fun z=>I.pin p (dj _ z)) (h p),I.hok,I.len⟩
theorem uE{N:Zb}(hN:N.Nodup){i j:Nat}{x:Str}(a:N[i]?=some x)(b:N[j]?=some x):i=j:=by
 obtain⟨h1,e1⟩:=bR.mp a;obtain⟨h2,e2⟩:=bR.mp b;exact(List.getElem_inj hN).mp (e1.trans e2.symm)
theorem qD{M:Model}{A:Around}{E:Zc}{i:Nat}{x:Str}{v:V}{u:Value}{Q:Unit->Shared->Prop}(I:Inv X J5 σ H s)(hN:X.N.Nodup)(hi:X.N[i]?=some x)(hx:Loc X.env.scope x)(r:RelV v u)
  (h:∀s',Inv X J5 (σ.set i (some v)) H s'->(∃a,ij a s.heap s'.heap/\(a=X.env.locals∨X.env.cells.lookup x=some a))->Q () s') (hf:X.fn x=true∨X.env.scope.names.lookup x=some .local:=by first|exact .inl rfl|exact .inr rfl|assumption):wpAny M A (storeName X.env x u) Q E s:=by
 obtain⟨m,hn,hl⟩:=id I.loc;have hcls:(X.env.scope.kind==.class || (X.env.scope.kind==.module && X.env.locals != X.env.globals))=false:=by rw[I.ok.kind];rfl
 have hiσ:i<σ.length:=by rw[I.len];exact(bR.mp hi).1
 have cne:=I.cne;have tracked:∀{a:Addr}{h':Heap},(∃o,s.heap.get? a=some o/\H a=none)->ij a s.heap h'->j6 X.prog X.w X.K H h':=fun{a h'} ha hs b ob e=>by
  obtain⟨_,_,hfree⟩:=ha;refine(I.hok b ob e).stay (fun c w' hc q=>(hs.2 c ?_).trans q) (fun _ q=>q) fun _ _ q=>q;rintro rfl;rcases hc with rfl|hc
  ·rw[hfree]at e;cases e
  ·rw[hfree]at hc;cases hc
 rcases hx with hk|hk
 ·refine wpAny_storeName_local hk hn (fun h' hn' hs=>?_) hcls;obtain⟨oL,_,_,hoL,_⟩:=id hn;refine h _ ⟨I.ok,I.os,I.bare,⟨fun b o e n hb hx=>?_,fun b o e n hb hx=>?_,I.base.free,fun b o e hx=>?_,I.base.tups,I.base.frzs,I.base.tbls⟩,⟨_,hn',fun j y v' e1 e2 e3=>?_⟩,fun y c e=>?_,I.free,I.freeC,fun p hp=>?_,tracked ⟨oL,hoL,I.free⟩ hs,by simpa using I.len⟩ ⟨_,hs,.inl rfl⟩
  ·exact(hs.2 b (b_ (fy (aQ e) I.ok.above))).trans (I.base.keep b o e n hb hx)
  ·obtain⟨sl,e1⟩:=I.base.slot b o e n hb hx;exact⟨sl,(hs.2 b (b_ (fy (aQ e) I.ok.above))).trans e1⟩
  ·obtain⟨o',e1⟩:=I.base.there b o e hx;exact⟨o',(hs.2 b (b_ (fy (aQ e) I.ok.above))).trans e1⟩
  ·by_cases hj:j=i
   ·subst hj;rw[hi]at e1;cases e1;rw[List.getElem?_set_self hiσ]at e2;cases e2;exact⟨u,r,.inl ⟨hk,by simp⟩⟩
   ·rw[List.getElem?_set_ne (ga hj)]at e2;obtain⟨u',r',q⟩:=hl j y v' e1 e2 e3;refine⟨u',r',?_⟩;rcases q with⟨k,e⟩|⟨k,c,e,z⟩
    ·refine .inl ⟨k,?_⟩;have:y≠x:=fun e=>hj (uE hN e1 (e▸hi));simp[this,e]
    ·exact .inr ⟨k,c,e,z.sameBut hs (cne y c e)⟩
  ·obtain⟨w',z⟩:=I.cell y c e;exact⟨w',z.sameBut hs (cne y c e)⟩
  ·obtain⟨e,n,ne,nf,d⟩:=I.pin p hp;exact⟨(hs.2 p.1 ne).trans e,n,ne,nf,d⟩
 ·have hfn:X.fn x=true:=by
   rcases hf with z|z
   ·exact z
   ·rw[z]at hk;cases hk
  obtain⟨c,hc⟩:=I.ok.has x (.inl hk);obtain⟨w',z⟩:=I.cell x c hc;refine wpAny_storeName_cell I.ok.kind hk hc z (fun h' hc' hs=>?_);obtain⟨oc,hoc,hocd⟩:=id z;refine h { s with heap:=h' } ⟨I.ok,I.os,I.bare,⟨fun b o e n hb hx=>?_,fun b o e n hb hx=>?_,I.base.free,fun b o e hx=>?_,I.base.tups,I.base.frzs,I.base.tbls⟩,⟨m,hn.sameBut hs (ga (cne x c hc)),fun j y v' e1 e2 e3=>?_⟩,fun y c' e=>?_,I.free,I.freeC,fun p hp=>?_,tracked ⟨oc,hoc,I.freeC x c hc⟩ hs,by simpa using I.len⟩ ⟨c,hs,.inr hc⟩
  ·exact(hs.2 b (b_ (fy (aQ e) (I.ok.cab x c hfn hc)))).trans (I.base.keep b o e n hb hx)
  ·obtain⟨sl,e1⟩:=I.base.slot b o e n hb hx;exact⟨sl,(hs.2 b (b_ (fy (aQ e) (I.ok.cab x c hfn hc)))).trans e1⟩
  ·obtain⟨o',e1⟩:=I.base.there b o e hx;exact⟨o',(hs.2 b (b_ (fy (aQ e) (I.ok.cab x c hfn hc)))).trans e1⟩
  ·by_cases hj:j=i
   ·subst hj;rw[hi]at e1;cases e1;rw[List.getElem?_set_self hiσ]at e2;cases e2;exact⟨u,r,.inr ⟨.inl hk,c,hc,hc'⟩⟩
   ·rw[List.getElem?_set_ne (ga hj)]at e2;obtain⟨u',r',q⟩:=hl j y v' e1 e2 e3;refine⟨u',r',?_⟩;rcases q with q|⟨k,c',e,z'⟩
    ·exact .inl q
    ·refine .inr ⟨k,c',e,z'.sameBut hs ?_⟩;rintro rfl;exact hj (uE hN e1 (I.ok.inj _ _ _ e hc▸hi))
  ·by_cases hcc:c'=c
   ·subst hcc;exact⟨_,hc'⟩
   ·obtain⟨w2,z2⟩:=I.cell y c' e;exact⟨w2,z2.sameBut hs hcc⟩
  ·obtain⟨e,n,ne,nf,d⟩:=I.pin p hp;refine⟨(hs.2 p.1 ?_).trans e,n,ne,nf,d⟩;intro q;rw[q,hoc]at e;have q':oc=p.2:=dC e;exact d w' (by rw[<-q'];exact hocd)
theorem uq{M:Model}{A:Around}{E:Zc}{i:Nat}{x:Str}{v:V}{u:Value}{Q:Unit->Shared->Prop}(I:Inv X J5 σ H s)(hN:X.N.Nodup)(hi:X.N[i]?=some x)(hx:Loc X.env.scope x)(r:RelV v u)
  (h:∀s',Inv X J5 (σ.set i (some v)) H s'->Q () s') (hf:X.fn x=true∨X.env.scope.names.lookup x=some .local:=by first|exact .inl rfl|exact .inr rfl|assumption):wpAny M A (storeName X.env x u) Q E s :=
 qD I hN hi hx r (fun s' I' _=>h s' I') hf
theorem Inv.call'{s':Shared}{ch:Ze}(I:Inv X J5 σ H s)(ho:s'.os=s.os)(u:Un (zI X.stack) ch H H' s.heap s'.heap)(hok:j6 X.prog X.w X.K H' s'.heap)(hg:kR s'.gens)
  (hch:∀b∈ch,(b∈X.ex∨X.s₀.heap.objs.size<=b)/\b≠X.env.locals/\(∀x c,X.env.cells.lookup x=some c->c≠b)/\∀p∈X.pn++J5,p.1≠b):Inv X J5 σ H' s':=by
 obtain⟨h',g',d',t',o'⟩:=s';have e:o'=s.os:=ho;subst e;exact I.call (g':=g') (t':=t') (d':=d') u hok hg hch
end
abbrev XK:=Value->Option Addr->Hp->Prop
abbrev St:=List (Option V)
abbrev VK:=V->Hp->Prop
abbrev TE:=St->Hp->VK->Prop
abbrev TT:=St->Hp->(Bool->Hp->Prop)->Prop
abbrev TA:=St->Hp->(List V->Hp->Prop)->Prop
structure mU where
 nx:St->Hp->Prop
 rt:VK
 bk:St->Hp->Prop:=fun _ _=>False
 ct:St->Hp->Prop:=fun _ _=>False
abbrev bx(Q:VK):mU:={ nx:=fun _ H=>Q .non H,rt:=Q }
abbrev TS:=mU->St->Hp->Prop
def EP(X:Cx)(J5:Zd)(σ:St)(Q:VK)(u:Value)(s':Shared):Prop:=∃v H',Inv X J5 σ H' s'/\RelV v u/\Q v H'
def TP(X:Cx)(J5:Zd)(σ:St)(Q:Bool->Hp->Prop)(b:Bool)(s':Shared):Prop:=∃H',Inv X J5 σ H' s'/\Q b H'
def AP(X:Cx)(J5:Zd)(σ:St)(Q:List V->Hp->Prop)(us:Zf)(s':Shared):Prop:=∃vs H',Inv X J5 σ H' s'/\aV vs us/\Q vs H'
def SP(X:Cx)(J5:Zd)(D:mU)(f:Flow)(s':Shared):Prop :=
 match f with
 |.next=>∃σ' H',Inv X J5 σ' H' s'/\D.nx σ' H'
 |.brk=>∃σ' H',Inv X J5 σ' H' s'/\D.bk σ' H'
 |.cont=>∃σ' H',Inv X J5 σ' H' s'/\D.ct σ' H'
 |.ret u=>∃v σ' H',Inv X J5 σ' H' s'/\RelV v u/\D.rt v H'
def PE(X:Cx)(e:Expr)(t:TE):Prop :=
 ∀(J5:Zd) (s:Shared) (σ:St) (H:Hp) (Q:VK),Inv X J5 σ H s->t σ H Q->wpAny (model X.prog X.w) X.A (eval e X.env) (EP X J5 σ Q) X.xe s
def PT(X:Cx)(e:Expr)(t:TT):Prop :=
 ∀(J5:Zd) (s:Shared) (σ:St) (H:Hp) (Q:Bool->Hp->Prop),Inv X J5 σ H s->t σ H Q->wpAny (model X.prog X.w) X.A (isTrue e X.env (eval e X.env)) (TP X J5 σ Q) X.xe s
def PW(X:Cx)(e:Expr)(t:TT):Prop :=
 ∀(whole:Sem Value) (J5:Zd) (s:Shared) (σ:St) (H:Hp) (Q:Bool->Hp->Prop),Inv X J5 σ H s->t σ H Q->wpAny (model X.prog X.w) X.A (isTrue e X.env whole) (TP X J5 σ Q) X.xe s
theorem PW.pt{X:Cx}{e:Expr}{t:TT}(h:PW X e t):PT X e t:=h _
def PA(X:Cx)(es:List Expr)(t:TA):Prop :=
 ∀(pos:Pos) (J5:Zd) (s:Shared) (σ:St) (H:Hp) (Q:List V->Hp->Prop),Inv X J5 σ H s->t σ H Q->wpAny (model X.prog X.w) X.A (spliced (backTo pos (aN es X.env))) (AP X J5 σ Q) X.xe s
def PS(X:Cx)(st:Stmt)(t:TS):Prop :=
 ∀(J5:Zd) (s:Shared) (σ:St) (H:Hp) (D:mU),Inv X J5 σ H s->t D σ H->wpAny (model X.prog X.w) X.A (exec st X.env) (SP X J5 D) X.xe s
def vk(X:Cx)(st:List Stmt)(t:TS):Prop :=
 ∀(J5:Zd) (s:Shared) (σ:St) (H:Hp) (D:mU),Inv X J5 σ H s->t D σ H->wpAny (model X.prog X.w) X.A (execs st X.env) (SP X J5 D) X.xe s
theorem cj{α:Type}{t:Sem α}{Q Q':α->Shared->Prop}{M:Model}{A:Around}{E:Zc}{s:Shared}(h:wpAny M A t Q E s)(hQ:∀a s,Q a s->Q' a s):wpAny M A t Q' E s:=jO h hQ fun _ _ x=>x
end L2
namespace L2
open PySem PySem.Spec PyProof.Rows
section
variable{X:Cx}
def kn(i:Nat):TE:=fun σ H Q=>∃v,σ[i]?=some (some v)/\Q v H
abbrev V0:TE:=kn 0
abbrev V1:TE:=kn 1
abbrev V2:TE:=kn 2
abbrev V3:TE:=kn 3
abbrev V4:TE:=kn 4
abbrev V5:TE:=kn 5
abbrev V6:TE:=kn 6
abbrev V7:TE:=kn 7
abbrev V8:TE:=kn 8
abbrev V9:TE:=kn 9
abbrev DM:TE:=kn 10
abbrev V11:TE:=kn 11
abbrev V12:TE:=kn 12
def tC(v:V):TE:=fun _ H Q=>Q v H
theorem C0{i:Nat}{x:Str}{pos:Pos}(hN:X.N[i]?=some x)(hv:Vis X.env.scope x)(hd:(x==("__debug__":Str))=false:=by decide)(hcd:(x==("__classdict__":Str))=false:=by decide):PE X (.Name x pos) (kn i):=by
 intro J5 s σ H Q I h;obtain⟨v,e,h⟩:=h;obtain⟨m,hn,hl⟩:=I.loc;obtain⟨u,r,l⟩:=hl i x v hN e hv;have fin:EP X J5 σ Q u s:=⟨v,H,I,r,h⟩;rcases l with⟨hk,hm⟩|⟨hk,c,hc,hcell⟩
 ·exact wpAny_Name (wpAny_loadName_local I.ok.kind hk hn hm fin) hd
 ·rcases hk with hk|hk
  ·exact wpAny_Name (wpAny_loadName_cell I.ok.kind hk hc hcell fin) hd
  ·exact wpAny_Name (wpAny_loadName_free I.ok.kind hk hc hcell fin hcd) hd
theorem af{i j pos}:PE X (.Constant (.int i) j pos) (tC (.int i)):=fun _ _ _ H _ I h=>wpAny_Constant_int ⟨.int i,H,I.tok _,⟨_,rfl⟩,h⟩
theorem nc{b j pos}:PE X (.Constant (.bool b) j pos) (tC (.bl b)):=fun _ _ _ H _ I h=>Constant_bool ⟨.bl b,H,I,rfl,h⟩
theorem sH{j pos}:PE X (.Constant .none j pos) (tC .non):=fun _ _ _ H _ I h=>Constant_none ⟨.non,H,I,rfl,h⟩
theorem aO{x j pos}:PE X (.Constant (.str x) j pos) (tC (.str x)):=fun _ _ _ H _ I h=>Calls.Constant_str ⟨.str x,H,I.tok _,⟨_,rfl⟩,h⟩
def Gl(X:Cx)(x:Str):Prop:=X.env.kindOf x=some .globalImplicit
theorem sN{E:Zc}{J5:Zd}{s:Shared}{σ:St}{H:Hp}{x:Str}{u:Value}{pos:Pos}{Q:Zc}(I:Inv X J5 σ H s)(hg:Gl X x)(hm:X.mg x=some u)(h:Q u s)
  (hd:(x==("__debug__":Str))=false:=by decide):wpAny (model X.prog X.w) X.A (eval (.Name x pos) X.env) Q E s :=
 Calls.Name_function_global I.ok.kind hg (Calls.loadGlobal_global (by rw[I.ok.glob];exact I.mod.glob.keeps I.bk) hm h) hd
theorem kD{E:Zc}{J5:Zd}{s:Shared}{σ:St}{H:Hp}{x:Str}{u:Value}{pos:Pos}{Q:Zc}(I:Inv X J5 σ H s)(hg:Gl X x)(hm:X.mg x=none)(hv:gb x=some u)(h:Q u s)
  (hn:x≠"__name__":=by decide) (hd:(x==("__debug__":Str))=false:=by decide):wpAny (model X.prog X.w) X.A (eval (.Name x pos) X.env) Q E s:=by
 obtain⟨mb,h1,h2⟩:=I.mod.blt;exact Calls.Name_function_global I.ok.kind hg (Calls.loadGlobal_builtin (by rw[I.ok.glob];exact I.mod.glob.keeps I.bk) hm (by rw[I.ok.blt];exact h1.keeps I.bk) ((h2 x hn).trans hv) h) hd
theorem BP{x:Str}{v:V}{u:Value}{pos:Pos}(hg:Gl X x)(hm:X.mg x=some u)(r:RelV v u)(hd:(x==("__debug__":Str))=false:=by decide):PE X (.Name x pos) (tC v) :=
 fun _ _ _ H _ I h=>sN I hg hm ⟨v,H,I,r,h⟩ hd
theorem lB{x:Str}{v:V}{u:Value}{pos:Pos}(hg:Gl X x)(hm:X.mg x=none)(hv:gb x=some u)(r:RelV v u)(hn:x≠"__name__":=by decide)(hd:(x==("__debug__":Str))=false:=by decide):PE X (.Name x pos) (tC v) :=
 fun _ _ _ H _ I h=>kD I hg hm hv ⟨v,H,I,r,h⟩ hn hd
variable{a b:Expr}{ta tb:TE}{pos:Pos}
def PC(X:Cx)(op:CmpOp)(a b:Expr)(t:TE):Prop :=
 ∀(J5:Zd) (s:Shared) (σ:St) (H:Hp) (Q:VK),Inv X J5 σ H s->t σ H Q ->
  wpAny (model X.prog X.w) X.A (eval a X.env) (fun v s₁=>wpAny (model X.prog X.w) X.A (eval b X.env) (fun u s₂=>wpAny (model X.prog X.w) X.A (cL op v u) (EP X J5 σ Q) X.xe s₂) X.xe s₁) X.xe s
theorem uF(b:Expr){op:CmpOp}(h:op≠.In)(h2:op≠.NotIn):i4 op b=false:=by
 have e1:(op==CmpOp.In)=false:=by cases op<;>first|rfl|exact absurd rfl h
 have e2:(op==CmpOp.NotIn)=false:=by cases op<;>first|rfl|exact absurd rfl h2
 cases b<;>simp[i4,e1,e2]
def z5(ta:TE):TE:=fun σ H Q=>ta σ H fun x H1=>Q (.bl (decide (x=.non))) H1
def Cn(ta:TE):TE:=fun σ H Q=>ta σ H fun x H1=>Q (.bl (!decide (x=.non))) H1
theorem RelV.none_iff{x:V}{v:Value}(r:RelV x v):(v==Value.none)=decide (x=.non):=by
 cases x with
 |non=>cases r;rfl
 |bl _=>cases r;rfl
 |int _=>obtain⟨t,rfl⟩:=r;rfl
 |str _=>obtain⟨t,rfl⟩:=r;rfl
 |byt _=>obtain⟨t,rfl⟩:=r;rfl
 |flt _=>obtain⟨t,rfl⟩:=r;rfl
 |ref _=>cases r;rfl
 |ty _=>cases r;rfl
theorem vX{j pos'}(ha:PE X a ta):PC X .Is a (.Constant .none j pos') (z5 ta):=by
 intro J5 s σ H Q I h;refine cj (ha J5 s σ H _ I h) fun v s1 zq0=>?_;obtain⟨x,H1,I1,r1,q1⟩:=zq0;exact Constant_none (is_none_gen ⟨.bl _,H1,I1,by rw[r1.none_iff];rfl,q1⟩)
theorem BS{j pos'}(ha:PE X a ta):PC X .IsNot a (.Constant .none j pos') (Cn ta):=by
 intro J5 s σ H Q I h;refine cj (ha J5 s σ H _ I h) fun v s1 zq0=>?_;obtain⟨x,H1,I1,r1,q1⟩:=zq0;exact Constant_none (isnot_none_gen ⟨.bl _,H1,I1,by rw[r1.none_iff];rfl,q1⟩)
def tB(t:TE):TT:=fun σ H Q=>t σ H fun x H1=>∃c,x=.bl c/\Q c H1
theorem C3{op:CmpOp}{t:TE}(h:PC X op a b t)(h1:i4 op b=false:=by first|exact uF _ (by decide) (by decide)|rfl):PE X (.Compare a [op] [b] pos) t:=fun J5 s σ H Q I hw=>wpAny_Compare1 (h J5 s σ H Q I hw) h1
theorem iN{op:CmpOp}{t:TE}(h:PC X op a b t)(h1:i4 op b=false:=by first|exact uF _ (by decide) (by decide)|rfl):PT X (.Compare a [op] [b] pos) (tB t):=by
 intro J5 s σ H Q I hw;refine wpAny_isTrue_Compare1 (cj (h J5 s σ H _ I hw) fun v s1 h1=>cj h1 fun u s2 h2=>cj h2 fun c s3 zq0=>?_) h1;obtain⟨x,H1,I1,r1,q1⟩:=zq0;obtain⟨d,rfl,q⟩:=q1;cases r1;exact kT ⟨H1,I1,q⟩
theorem cZ{e:Expr}{t:TE}(h:PE X e t)(he:∀whole,isTrue e X.env whole=(do let v <- whole;t4 e.pos;m7 [v] (truthy v)):=by intro _;rfl):PT X e (tB t):=by
 intro J5 s σ H Q I hw;refine isTrue_plain (cj (h J5 s σ H _ I hw) fun v s1 zq0=>?_) (he _);obtain⟨x,H1,I1,r1,q1⟩:=zq0;obtain⟨d,rfl,q⟩:=q1;cases r1;exact kT ⟨H1,I1,q⟩
variable{tA tB':TT}{rest:List Expr}
def qg(t u:TT):TT:=fun σ H Q=>t σ H fun c H1=>if c=true then u σ H1 Q else Q false H1
def zG(t u:TT):TT:=fun σ H Q=>t σ H fun c H1=>if c=true then Q true H1 else u σ H1 Q
def uh(t:TT):TT:=fun σ H Q=>t σ H fun c H1=>Q (!c) H1
theorem iL(ha:PT X a tA):PW X (.BoolOp .And [a] pos) tA:=by
 intro wh J5 s σ H Q I h;refine isTrue_and (cj (ha J5 s σ H Q I h) fun c s1 e=>?_);cases c with
 |true=>exact isTrue_and_nil e
 |false=>exact e
theorem jg(ha:PT X a tA):PW X (.BoolOp .Or [a] pos) tA:=by
 intro wh J5 s σ H Q I h;refine isTrue_or (cj (ha J5 s σ H Q I h) fun c s1 e=>?_);cases c with
 |false=>exact isTrue_or_nil e
 |true=>exact e
theorem iM(ha:PT X a tA)(hb:PW X (.BoolOp .And (b::rest) pos) tB'):PW X (.BoolOp .And (a::b::rest) pos) (qg tA tB'):=by
 intro wh J5 s σ H Q I h;refine isTrue_and (cj (ha J5 s σ H _ I h) fun c s1 zq0=>?_);obtain⟨H1,I1,q1⟩:=zq0;cases c with
 |true=>exact hb wh J5 s1 σ H1 Q I1 q1
 |false=>exact⟨H1,I1,q1⟩
theorem jh(ha:PT X a tA)(hb:PW X (.BoolOp .Or (b::rest) pos) tB'):PW X (.BoolOp .Or (a::b::rest) pos) (zG tA tB'):=by
 intro wh J5 s σ H Q I h;refine isTrue_or (cj (ha J5 s σ H _ I h) fun c s1 zq0=>?_);obtain⟨H1,I1,q1⟩:=zq0;cases c with
 |true=>exact⟨H1,I1,q1⟩
 |false=>exact hb wh J5 s1 σ H1 Q I1 q1
theorem mx(ha:PT X a tA):PT X (.UnaryOp .Not a pos) (uh tA):=by
 intro J5 s σ H Q I h;exact isTrue_not (ha J5 s σ H (fun c H1=>Q (!c) H1) I h)
def j4(ta tb:TE):TE:=fun σ H Q=>ta σ H fun x H1=>∃c,x=.bl c/\if c=true then tb σ H1 Q else Q (.bl false) H1
def Ds(ta tb:TE):TE:=fun σ H Q=>ta σ H fun x H1=>∃c,x=.bl c/\if c=true then Q (.bl true) H1 else tb σ H1 Q
def Cm(ta:TE):TE:=fun σ H Q=>ta σ H fun x H1=>∃c,x=.bl c/\Q (.bl (!c)) H1
theorem jj{op}{t:TE}(h:PE X a t):PE X (.BoolOp op [a] pos) t:=fun J5 s σ H Q I hw=>BoolOp_one (h J5 s σ H Q I hw)
theorem iQ(ha:PE X a ta)(hb:PE X (.BoolOp .And (b::rest) pos) tb):PE X (.BoolOp .And (a::b::rest) pos) (j4 ta tb):=by
 intro J5 s σ H Q I h;refine BoolOp_and (cj (ha J5 s σ H _ I h) fun v s1 zq0=>?_);obtain⟨x,H1,I1,r1,q1⟩:=zq0;obtain⟨c,rfl,q1⟩:=q1;cases r1;refine kT ?_;cases c with
 |true=>exact hb J5 s1 σ H1 Q I1 q1
 |false=>exact⟨.bl false,H1,I1,rfl,q1⟩
theorem Dz(ha:PE X a ta)(hb:PE X (.BoolOp .Or (b::rest) pos) tb):PE X (.BoolOp .Or (a::b::rest) pos) (Ds ta tb):=by
 intro J5 s σ H Q I h;refine BoolOp_or (cj (ha J5 s σ H _ I h) fun v s1 zq0=>?_);obtain⟨x,H1,I1,r1,q1⟩:=zq0;obtain⟨c,rfl,q1⟩:=q1;cases r1;refine kT ?_;cases c with
 |false=>exact hb J5 s1 σ H1 Q I1 q1
 |true=>exact⟨.bl true,H1,I1,rfl,q1⟩
theorem C1(ha:PE X a ta):PE X (.UnaryOp .Not a pos) (Cm ta):=by
 intro J5 s σ H Q I h;refine UnaryOp_ (cj (ha J5 s σ H _ I h) fun v s1 zq0=>?_);obtain⟨x,H1,I1,r1,q1⟩:=zq0;obtain⟨c,rfl,q1⟩:=q1;cases r1;exact not_of (kT ⟨.bl (!c),H1,I1,rfl,q1⟩)
end
end L2
namespace L2
open PySem PySem.Spec PyProof.Rows
def ay(K:Za)(H:Hp)(a:Addr)(xs:List V):Prop :=
 Rd H a (.lst xs) ∨
  ∃(o:Obj) (its:Array Value) (n:Nat),K.lookup a=some o/\o.cls=.type "list"/\o.dict=none/\o.data=.seq its n/\its.size<=ai/\aV xs its.toList
def bc(K:Za)(H:Hp)(a:Addr)(xs:List V):Prop :=
 Rd H a (.tup xs) ∨
  ∃(o:Obj) (its:Array Value) (n:Nat),K.lookup a=some o/\o.cls=.type "tuple"/\o.data=.seq its n/\its.size<=ai/\aV xs its.toList
def absV:Value->Option V
 |.none=>some .non
 |.bool b=>some (.bl b)
 |.int i _=>some (.int i)
 |.str x _=>some (.str x)
 |.bytes b _=>some (.byt b)
 |.float b _=>some (.flt b)
 |.ref a=>some (.ref a)
 |.type n=>some (.ty n)
 |_=>none
theorem RelV.abs{x:V}{u:Value}(r:RelV x u):absV u=some x:=by
 cases x with
 |non=>cases r;rfl
 |bl _=>cases r;rfl
 |int _=>obtain⟨t,rfl⟩:=r;rfl
 |str _=>obtain⟨t,rfl⟩:=r;rfl
 |byt _=>obtain⟨t,rfl⟩:=r;rfl
 |flt _=>obtain⟨t,rfl⟩:=r;rfl
 |ref _=>cases r;rfl
 |ty _=>cases r;rfl
theorem RelV.inj{x y:V}{u:Value}(r:RelV x u)(q:RelV y u):x=y:=dC (r.abs.symm.trans q.abs)
theorem aV.inj{xs ys:List V}{us:Zf}(h:aV xs us)(h':aV ys us):xs=ys:=by
 induction h generalizing ys with
 |nil=>cases h';rfl
 |cons r _ ih =>
  cases h' with
  |cons r' t'=>rw[r.inj r',ih t']
section
variable{X:Cx}{J5:Zd}{σ:St}{H:Hp}{s:Shared}{a:Addr}{xs ys:List V}
theorem ay.of{K:Za}(h:H a=some (.lst xs)):ay K H a xs:=.inl (.inl h)
theorem bc.of{K:Za}(h:H a=some (.tup xs)):bc K H a xs:=.inl (.inl h)
theorem Inv.list(I:Inv X J5 σ H s)(h:ay X.K H a xs):∃its:List Value,aV xs its/\PlainL s.heap a its.toArray/\xs.length<=ai:=by
 rcases h with h|⟨o,its,n,hk,hc,hd,hs,hz,r⟩
 ·obtain⟨z,its,n,r,e⟩:=h.ok I.hok;exact⟨its,r,⟨_,n,e,rfl,rfl,rfl⟩,z⟩
 ·refine⟨its.toList,r,⟨o,n,I.kIn a o hk,hc,hd,by simpa using hs⟩,?_⟩;have e:=r.length;simp only[m5]at e;omega
theorem Inv.tuple(I:Inv X J5 σ H s)(h:bc X.K H a xs):∃its:List Value,aV xs its/\IsTup s.heap a its.toArray/\xs.length<=ai:=by
 rcases h with h|⟨o,its,n,hk,hc,hs,hz,r⟩
 ·obtain⟨z,its,r,p⟩:=h.ok I.hok;exact⟨its,r,p,z⟩
 ·refine⟨its.toList,r,⟨o,I.kIn a o hk,hc,n,by simpa using hs⟩,?_⟩;have e:=r.length;simp only[m5]at e;omega
theorem Inv.list_inj(I:Inv X J5 σ H s)(h:ay X.K H a xs)(h':ay X.K H a ys):xs=ys:=by
 obtain⟨its,r,⟨o,n,e,_,_,d⟩,_⟩:=I.list h;obtain⟨its',r',⟨o',n',e',_,_,d'⟩,_⟩:=I.list h';rw[e]at e';cases e';rw[d]at d';injection d' with d1 _;have:its=its':=by simpa using congrArg Array.toList d1
 subst this;exact r.inj r'
theorem Inv.tuple_inj(I:Inv X J5 σ H s)(h:bc X.K H a xs)(h':bc X.K H a ys):xs=ys:=by
 obtain⟨its,r,⟨o,e,_,n,d⟩,_⟩:=I.tuple h;obtain⟨its',r',⟨o',e',_,n',d'⟩,_⟩:=I.tuple h';rw[e]at e';cases e';rw[d]at d';injection d' with d1 _;have:its=its':=by simpa using congrArg Array.toList d1
 subst this;exact r.inj r'
end
abbrev Cx.wish(X:Cx)(E:Zc):Cx:={ X with xe:=E }
abbrev Cx.nox(X:Cx):Cx:=X.wish fun _ _=>False
theorem Cx.Ok.wish{X:Cx}(ok:X.Ok)(E:Zc):(X.wish E).Ok :=
 ⟨ok.mod,ok.kind,ok.glob,ok.blt,ok.above,ok.inj,ok.has,ok.cab,ok.hd,ok.frames,ok.stk,ok.exf,ok.bs,ok.bsz,ok.noex,ok.exfs,ok.funs,ok.frf⟩
theorem Cx.Ok.unwish{X:Cx}{E:Zc}(ok:(X.wish E).Ok):X.Ok :=
 ⟨ok.mod,ok.kind,ok.glob,ok.blt,ok.above,ok.inj,ok.has,ok.cab,ok.hd,ok.frames,ok.stk,ok.exf,ok.bs,ok.bsz,ok.noex,ok.exfs,ok.funs,ok.frf⟩
section
variable{X:Cx}{J5:Zd}{σ:St}{H:Hp}{s:Shared}{E:Zc}
theorem Inv.wish(I:Inv X J5 σ H s)(E:Zc):Inv (X.wish E) J5 σ H s:=⟨I.ok.wish E,I.os,I.bare,I.base,I.loc,I.cell,I.free,I.freeC,I.pin,I.hok,I.len⟩
theorem Inv.unwish(I:Inv (X.wish E) J5 σ H s):Inv X J5 σ H s:=⟨I.ok.unwish,I.os,I.bare,I.base,I.loc,I.cell,I.free,I.freeC,I.pin,I.hok,I.len⟩
theorem SP.unwish{D:mU}{f:Flow}{s':Shared}(h:SP (X.wish E) J5 D f s'):SP X J5 D f s':=by
 cases f with
 |next=>obtain⟨σ',H',I,q⟩:=h;exact⟨σ',H',I.unwish,q⟩
 |brk=>obtain⟨σ',H',I,q⟩:=h;exact⟨σ',H',I.unwish,q⟩
 |cont=>obtain⟨σ',H',I,q⟩:=h;exact⟨σ',H',I.unwish,q⟩
 |ret u=>obtain⟨v,σ',H',I,r,q⟩:=h;exact⟨v,σ',H',I.unwish,r,q⟩
theorem vk.nox{st:List Stmt}{t:TS}(h:vk X.nox st t):vk X st t:=fun J5 s σ H D I hw =>
 jO (h J5 s σ H D (I.wish _) hw) (fun _ _ q=>q.unwish) fun _ _ z=>ii z
end
section
variable{X:Cx}{st:Stmt}{rest:List Stmt}{t u:TS}{e:Expr}{te:TE}{pos:Pos}
def bb:TS:=fun D σ H=>D.nx σ H
def aq(t u:TS):TS:=fun D σ H=>t { D with nx:=u D } σ H
theorem aJ:vk X [] bb:=fun _ _ σ H _ I h=>xc ⟨σ,H,I,h⟩
theorem ae(h1:PS X st t)(h2:vk X rest u):vk X (st::rest) (aq t u):=by
 intro J5 s σ H D I h;refine wpAny_execs_cons (cj (h1 J5 s σ H { D with nx:=u D } I h) fun f s1 q=>?_);cases f with
 |next =>
  obtain⟨σ',H',I',q⟩:=q;exact h2 J5 s1 σ' H' D I' q
 |ret v=>exact q
 |brk=>exact q
 |cont=>exact q
theorem ah(h1:PS X st t):vk X [st] t:=by
 intro J5 s σ H D I h;refine wpAny_execs_cons (cj (h1 J5 s σ H D I h) fun f s1 q=>?_);cases f with
 |next=>exact xc q
 |ret v=>exact q
 |brk=>exact q
 |cont=>exact q
theorem Inv.quiet{J5:Zd}{σ:St}{H:Hp}{s:Shared}(I:Inv X J5 σ H s):interactive X.env=false:=by simp[interactive,I.ok.kind]
def cY(te:TE):TS:=fun D σ H=>te σ H fun _ H1=>D.nx σ H1
theorem bA(he:PE X e te)(hs:om e none pos.line X.env=pure false:=by rfl):PS X (.Expr e pos) (cY te):=by
 intro J5 s σ H D I h;exact wpAny_Expr_any (cj (he J5 s σ H _ I h) fun v s1 ⟨x,H1,I1,r1,q1⟩=>⟨σ,H1,I1,q1⟩) I.quiet hs
def aX(te:TE):TS:=fun D σ H=>te σ H D.rt
theorem ar(he:PE X e te):PS X (.Return (some e) pos) (aX te):=by
 intro J5 s σ H D I h;exact wpAny_Return_some (cj (he J5 s σ H _ I h) fun v s1 ⟨x,H1,I1,r1,q1⟩=>⟨x,σ,H1,I1,r1,q1⟩)
def bZ(c:TT)(t u:TS):TS:=fun D σ H=>c σ H fun b H1=>if b=true then t D σ H1 else u D σ H1
theorem bm{c:Expr}{a b:List Stmt}{tc:TT}(hc:PT X c tc)(ha:vk X a t)(hb:vk X b u):PS X (.If c a b pos) (bZ tc t u):=by
 intro J5 s σ H D I h;refine wpAny_If (cj (hc J5 s σ H _ I h) fun d s1 zq0=>?_);obtain⟨H1,I1,q1⟩:=zq0;cases d with
 |true=>exact ha J5 s1 σ H1 D I1 q1
 |false=>exact hb J5 s1 σ H1 D I1 q1
def rZ:TS:=fun _ _ _=>False
theorem pd:PS X st rZ:=fun _ _ _ _ _ _ h=>h.elim
end
abbrev TG:=V->St->Hp->(St->Hp->Prop)->Prop
abbrev zJ:=List V->St->Hp->(St->Hp->Prop)->Prop
def PG(X:Cx)(target:Expr)(t:TG):Prop :=
 ∀(J5:Zd) (s:Shared) (σ:St) (H:Hp) (v:V) (u:Value) (Q:St->Hp->Prop),Inv X J5 σ H s->RelV v u->t v σ H Q ->
  wpAny (model X.prog X.w) X.A (assign target X.env u) (fun _ s'=>∃σ' H',Inv X J5 σ' H' s'/\Q σ' H') X.xe s
def Ec(X:Cx)(ts:List Expr)(t:zJ):Prop :=
 ∀(J5:Zd) (s:Shared) (σ:St) (H:Hp) (vs:List V) (us:Zf) (Q:St->Hp->Prop),Inv X J5 σ H s->aV vs us->t vs σ H Q ->
  wpAny (model X.prog X.w) X.A (assignInOrder ((qr ts X.env).map (·.2)) us) (fun _ s'=>∃σ' H',Inv X J5 σ' H' s'/\Q σ' H') X.xe s
abbrev Df:=V->V->V->Hp->(Hp->Prop)->Prop
def DN(X:Cx)(t:Df):Prop :=
 ∀(J5:Zd) (s:Shared) (σ:St) (H:Hp) (o i v:V) (ov iv u:Value) (Q:Hp->Prop),Inv X J5 σ H s->RelV o ov->RelV i iv->RelV v u->t o i v H Q ->
  wpAny (model X.prog X.w) X.A (setItem ov iv u) (fun _ s'=>∃H',Inv X J5 σ H' s'/\Q H') X.xe s
section
variable{X:Cx}{pos:Pos}
def cV(i:Nat):TG:=fun v σ H Q=>Q (σ.set i (some v)) H
abbrev U0:TG:=cV 0
abbrev U1:TG:=cV 1
abbrev U2:TG:=cV 2
abbrev U3:TG:=cV 3
abbrev U4:TG:=cV 4
abbrev U5:TG:=cV 5
abbrev U6:TG:=cV 6
abbrev U7:TG:=cV 7
abbrev U8:TG:=cV 8
abbrev U9:TG:=cV 9
abbrev U10:TG:=cV 10
abbrev U11:TG:=cV 11
abbrev U12:TG:=cV 12
theorem xx{i:Nat}{x:Str}(hN:X.N.Nodup)(hi:X.N[i]?=some x)(hx:Loc X.env.scope x)(hf:X.fn x=true∨X.env.scope.names.lookup x=some .local:=by first|exact .inl rfl|exact .inr rfl|assumption):PG X (.Name x pos) (cV i):=by
 intro J5 s σ H v u Q I r h;exact wpAny_assign_Name (uq I hN hi hx r (fun s' I'=>⟨_,H,I',h⟩) hf)
def gx:zJ:=fun vs σ H Q=>vs=[]/\Q σ H
def a_(t:TG)(u:zJ):zJ:=fun vs σ H Q=>∃v r,vs=v::r/\t v σ H fun σ' H'=>u r σ' H' Q
theorem bX:Ec X [] gx:=by
 intro J5 s σ H vs us Q I r h;obtain⟨e,h⟩:=h;subst e;cases r;exact assignInOrder_nil ⟨σ,H,I,h⟩
theorem av{e:Expr}{es:List Expr}{t:TG}{u:zJ}(h1:PG X e t)(h2:Ec X es u)
  (hs:(qr (e::es) X.env).map (·.2)=assign e X.env::(qr es X.env).map (·.2):=by rfl):Ec X (e::es) (a_ t u):=by
 intro J5 s σ H vs us Q I r h;obtain⟨v,vr,e1,h⟩:=h;subst e1;cases r with
 |cons r rr =>
  rw[hs];refine assignInOrder_cons (cj (h1 J5 s σ H _ _ _ I r h) fun _ s1 zq0=>?_);obtain⟨σ1,H1,I1,q1⟩:=zq0;exact h2 J5 s1 σ1 H1 _ _ Q I1 rr q1
def gS(K:Za)(n:Nat)(t:zJ):TG:=fun v σ H Q=>∃a xs,v=.ref a/\bc K H a xs/\xs.length=n/\t xs σ H Q
theorem cS{es:List Expr}{k:Nat}{t:zJ}{n:Nat}(hc:X.calm=true)(h:Ec X es t)
  (hn:(qr es X.env).length=n:=by rfl) (hst:(qr es X.env).findIdx? (·.1)=none:=by rfl):PG X (.Tuple es k pos) (gS X.K n t):=by
 intro J5 s σ H v u Q I r hw;obtain⟨a,xs,e1,hq,hl,hw⟩:=hw;subst e1;cases r;obtain⟨its,rv,ht,hz⟩:=I.tuple hq;refine assign_Tuple_tuple (I.ok.hd hc) ht (by simp[hn,<-hl,rv.length]) hst fun h' hx=>?_;have I1:Inv X J5 σ H { s with heap:=h' }:=I.kept (t':=s.toks) fun b o e=>hx b o (b_ (aQ e)) e;exact h J5 _ σ H xs _ Q I1 (by simpa using rv) hw
def s_(to ti:TE)(t:Df):TG:=fun v σ H Q=>to σ H fun o H1=>ti σ H1 fun i H2=>t o i v H2 fun H3=>Q σ H3
theorem kA{o i:Expr}{to ti:TE}{t:Df}(ho:PE X o to)(hi:PE X i ti)(hs:DN X t)
  (ha:∀v,assign (.Subscript o i pos) X.env v=(do
   let ov <- m7 [v] (eval o X.env)
   let iv <- m7 [v,ov] (eval i X.env)
   t4 pos
   m7 [v,ov,iv] (setItem ov iv v)
   release [v,ov,iv] []):=by intro _;rfl):PG X (.Subscript o i pos) (s_ to ti t):=by
 intro J5 s σ H v u Q I r h;rw[ha];refine am (kU (cj (ho J5 s σ H _ I h) fun ov s1 zq0=>?_));obtain⟨x,H1,I1,r1,q1⟩:=zq0;refine am (kU (cj (hi J5 s1 σ H1 _ I1 q1) fun iv s2 zq0=>?_));obtain⟨y,H2,I2,r2,q2⟩:=zq0;refine am (wpAny_standAt (am (kU (cj (hs J5 s2 σ H2 x y v ov iv u _ I2 r1 r2 r q2) fun _ s3 zq0=>?_))));obtain⟨H3,I3,q3⟩:=zq0;exact wpAny_release ⟨σ,H3,I3,q3⟩
def aS(te:TE)(g:TG):TS:=fun D σ H=>te σ H fun x H1=>g x σ H1 D.nx
theorem iO{tg e:Expr}{te:TE}{g:TG}(he:PE X e te)(hg:PG X tg g)(hs:swapsWithSole [tg] e pos.line X.env=pure false:=by rfl)(hw:swappedStores [tg] e X.env=pure none:=by rfl)
  (h1:(qr [tg] X.env).map (·.2)=[assign tg X.env]:=by rfl):PS X (.Assign [tg] e pos) (aS te g):=by
 intro J5 s σ H D I h;refine wpAny_Assign_stores (cj (he J5 s σ H _ I h) fun v s1 zq0=>?_) hs hw;obtain⟨x,H1,I1,r1,q1⟩:=zq0;rw[h1];exact cj (hg J5 s1 σ H1 x v _ I1 r1 q1) fun _ s2 q=>q
theorem CV{i:Nat}{x:Str}{e:Expr}{te:TE}{pos':Pos}(hN:X.N.Nodup)(hi:X.N[i]?=some x)(hx:Loc X.env.scope x)(he:PE X e te)(hs:om e (some (.Name x pos')) pos.line X.env=pure false:=by rfl)(hf:X.fn x=true∨X.env.scope.names.lookup x=some .local:=by first|exact .inl rfl|exact .inr rfl|assumption):
  PS X (.Assign [.Name x pos'] e pos) (aS te (cV i)):=by
 intro J5 s σ H D I h;refine wpAny_Assign_Name (cj (he J5 s σ H _ I h) fun v s1 zq0=>?_) hs;obtain⟨y,H1,I1,r1,q1⟩:=zq0;exact uq I1 hN hi hx r1 (fun s2 I2=>⟨_,H1,I2,q1⟩) hf
end
section
variable{X:Cx}{pos:Pos}
def rY(c:TT)(tb:TS):TS:=fun D σ H=>∃W:Nat->St->Hp->Prop,(∃m,W m σ H)/\∀m σ H,W m σ H ->
 c σ H fun b H1=>if b=true then ∃N:St->Hp->Prop,(∀σ' H',N σ' H'->∃m',m'<m/\W m' σ' H')/\tb { D with nx:=N,ct:=N,bk:=D.nx } σ H1 else D.nx σ H1
theorem pc{c:Expr}{body:List Stmt}{tc:TT}{tb:TS}(hp:PassesOwn (model X.prog X.w) X.A X.env X.xe)(hc:PT X c tc)(hb:vk X body tb):PS X (.While c body [] pos) (rY tc tb):=by
 intro J5 s σ H D I h;obtain⟨W,⟨m0,w0⟩,turn⟩:=h;refine wpAny_While (codeAny_whileLoop (fun n s'=>∃σ' H',Inv X J5 σ' H' s'/\W n σ' H') ?_ m0 ⟨σ,H,I,w0⟩);rintro n s1 ⟨σ1,H1,I1,w1⟩;refine oj hp (cj (hc J5 s1 σ1 H1 _ I1 (turn n σ1 H1 w1)) fun b s2 zq0=>?_);obtain⟨H2,I2,q2⟩:=zq0;cases b with
 |true =>
  obtain⟨N,hN,q2⟩:=q2;rw[if_pos rfl];refine oj hp (cj (hb J5 s2 σ1 H2 _ I2 q2) fun f s3 q3=>?_);cases f with
  |next =>
   obtain⟨σ3,H3,I3,n3⟩:=q3;obtain⟨m',hm,w3⟩:=hN σ3 H3 n3;exact⟨m',hm,σ3,H3,I3,w3⟩
  |cont =>
   obtain⟨σ3,H3,I3,n3⟩:=q3;obtain⟨m',hm,w3⟩:=hN σ3 H3 n3;exact⟨m',hm,σ3,H3,I3,w3⟩
  |brk=>exact q3
  |ret v=>exact q3
 |false =>
  rw[if_neg f_];exact xc ⟨σ1,H2,I2,q2⟩
end
structure It where
 go:Nat->Hp->Prop
 yld:Nat->Hp->V->Hp->Prop
 stop:Nat->Hp->Prop
def jY(X:Cx)(J5:Zd)(H:Hp)(b:Addr):Prop :=
 H b=none/\b≠X.env.locals/\b∉X.fs/\(b∈X.ex∨X.s₀.heap.objs.size<=b)/\(∀x c,X.env.cells.lookup x=some c->c≠b)/\∀p∈X.pn++J5,p.1≠b
theorem Inv.fpOk{X:Cx}{J5:Zd}{σ:St}{H H':Hp}{s:Shared}{b:Addr}(I:Inv X J5 σ H s)(hb:s.heap.objs.size<=b)(hn:H' b=none):jY X J5 H' b:=by
 refine⟨hn,fM (fy I.lt hb),I.nofs hb,.inr (aW I.sz hb),fun x c e z=>?_,fun p hp z=>?_⟩
 ·obtain⟨v,q⟩:=I.cell x c e;exact absurd (fy q.lt (by rw[z];exact hb)) (i9 _)
 ·exact absurd (fy (aQ (I.pin p hp).1) (by rw[z];exact hb)) (i9 _)
structure pS(P:bt)(w:World)(K:Za)(tg:Expr)(J:It)(fp:Ze)(it:Addr)(tn:Nat->Heap->Prop):Prop where
 mem:it∈fp
 obj:∀i h,tn i h->∀b∈fp,∃o,h.get? b=some o/\∀v,o.data≠.cell v
 keep:∀i h h',tn i h->(∀b∈fp,∀o,h.get? b=some o->h'.get? b=some o)->tn i h'
 item:∀(X:Cx),X.prog=P->X.w=w->X.K=K->X.calm=true->∀(i:Nat) (J5:Zd) (s:Shared) (σ:St) (H:Hp) (E:Zc),Inv X J5 σ H s->(∀b∈fp,jY X J5 H b)->tn i s.heap->J.go i H ->
  wpAny (model P w) X.A (pyNext (.ref it)) (fun r s1=>∃u,r=some u /\
   wpAny (model P w) X.A (xb tg (.ref it) u) (fun _ s2=>∃x H',Inv X J5 σ H' s2/\RelV x u/\J.yld i H x H'/\tn (i+1) s2.heap/\∀b∈fp,H' b=none) E s1) E s
 done:∀(X:Cx),X.prog=P->X.w=w->X.K=K->X.calm=true->∀(i:Nat) (J5:Zd) (s:Shared) (σ:St) (H:Hp) (E:Zc),Inv X J5 σ H s->(∀b∈fp,jY X J5 H b)->tn i s.heap->J.stop i H ->
  wpAny (model P w) X.A (pyNext (.ref it)) (fun r s1=>r=none/\Inv X J5 σ H s1) E s
 self:∀(A:Around) (i:Nat) (s:Shared) (Q:Zc) (E:Zc),tn i s.heap->Q (.ref it) s->wpAny (model P w) A (pyIter (.ref it)) Q E s
abbrev TI:=St->Hp->(It->Hp->Prop)->Prop
def PIE(X:Cx)(J5:Zd)(σ:St)(tg:Expr)(R:It->Hp->Prop)(itv:Value)(s2:Shared):Prop :=
 ∃(it:Addr) (fp:Ze) (tn:Nat->Heap->Prop) (J:It) (H':Hp),itv=.ref it/\Inv X J5 σ H' s2/\pS X.prog X.w X.K tg J fp it tn/\tn 0 s2.heap/\(∀b∈fp,jY X J5 H' b)/\R J H'
def PI(X:Cx)(tg iter:Expr)(wi:TI):Prop :=
 ∀(J5:Zd) (s:Shared) (σ:St) (H:Hp) (R:It->Hp->Prop),Inv X J5 σ H s->wi σ H R ->
  wpAny (model X.prog X.w) X.A (eval iter X.env) (fun v s1=>wpAny (model X.prog X.w) X.A (pyIter v) (PIE X J5 σ tg R) X.xe s1) X.xe s
theorem qU{M:Model}{A:Around}{E:Zc}{s:Shared}{tg:Expr}{it:Addr}{u:Value}{o:Obj}{n:String}{vs:Array Value}{Q:Unit->Shared->Prop}(ho:s.heap.get? it=some o)(hc:o.cls=.type n)(hd:o.data=.fields vs)
    (hn:["enumerate","zip","dict_itemiterator","dict_reverseitemiterator","odict_iterator","itertools.zip_longest","itertools.pairwise"].contains n=false) (hQ:Q () s):wpAny M A (xb tg (.ref it) u) Q E s:=by
  unfold xb;cases tg<;>first
    |exact aE hQ
    | (cases u <;> first
        |exact aE hQ
        | (refine am (wpAny_load ho ?_)
           rw[hc,hd];show wpAny M A (if(["enumerate","zip","dict_itemiterator","dict_reverseitemiterator","odict_iterator","itertools.zip_longest","itertools.pairwise"].contains n && vs[0]?==some (rawInt _))=true then _ else _) Q E s
           rw[if_neg (by intro h;rw[hn,Bool.false_and]at h;cases h)];exact aE hQ))
def Cj(K:Za)(a:Addr):It :=
 ⟨fun i H=>∃xs x,ay K H a xs/\xs[i]?=some x,fun i H x H'=>H'=H/\∀xs,ay K H a xs->xs[i]?=some x,fun i H=>∃xs,ay K H a xs/\xs.length<=i⟩
def Bn(K:Za)(a:Addr):It :=
 ⟨fun i H=>∃xs x,bc K H a xs/\xs[i]?=some x,fun i H x H'=>H'=H/\∀xs,bc K H a xs->xs[i]?=some x,fun i H=>∃xs,bc K H a xs/\xs.length<=i⟩
def Dh(lo:Int)(n:Nat):It:=⟨fun i _=>i<n,fun i H x H'=>H'=H/\x=.int (lo+i),fun i _=>n<=i⟩
theorem qz{P:bt}{w:World}{K:Za}{tg:Expr}(a it:Addr):pS P w K tg (Cj K a) [it] it (fun i h=>h.IsListIter it a i) where
 mem:=by simp
 obj:=fun i h st b hb=>by
  have e:b=it:=by simpa using hb
  subst e;obtain⟨o,e,c,d⟩:=st;exact⟨o,e,fun v z=>by rw[d]at z;cases z⟩
 keep:=fun i h h' st k=>st.at fun o e=>k it (by simp) o e
 item:=by
  intro X hP hw hK hc i J5 s σ H E I hf st hg;subst hP hw hK;obtain⟨xs,x,hq,hx⟩:=hg;obtain⟨its,rv,p,hz⟩:=I.list hq;obtain⟨u,hu,ru⟩:=rv.get hx;obtain⟨f0,f1,f2,f3,f4,f5⟩:=hf it (by simp);refine wpAny_pyNext_list_item st p.isList (x:=u) (by simpa using hu) fun h' st' sb=>?_;have I1:Inv X J5 σ H { s with heap:=h' }:=I.turned (t':=s.toks) (fun b o hb e=>(sb.2 b hb).trans e) f0 f1 f3 f4 f5;obtain⟨o,e,c,d⟩:=id st';exact⟨u,rfl,qU (s:={ s with heap:=h' }) e c d (by decide) ⟨x,H,I1,ru,⟨rfl,fun ys hy=>by rw[I.list_inj hy hq];exact hx⟩,st',fun b hb=>(hf b hb).1⟩⟩
 done:=by
  intro X hP hw hK hc i J5 s σ H E I hf st hg;subst hP hw hK;obtain⟨xs,hq,hx⟩:=hg;obtain⟨its,rv,p,hz⟩:=I.list hq;obtain⟨f0,f1,f2,f3,f4,f5⟩:=hf it (by simp);have hl:=rv.length;exact wpAny_pyNext_list_end (I.ok.hd hc) st p.isList (by simp;omega) fun h' eb=>⟨rfl,I.turned (t':=s.toks) (fun b o hb e=>eb b o hb e) f0 f1 f3 f4 f5⟩
 self:=fun _ _ _ _ _ st h=>wpAny_pyIter_listiter st h
theorem oR{P:bt}{w:World}{K:Za}{tg:Expr}(a it:Addr):pS P w K tg (Bn K a) [it] it (fun i h=>h.IsTupleIter it a i) where
 mem:=by simp
 obj:=fun i h st b hb=>by
  have e:b=it:=by simpa using hb
  subst e;obtain⟨o,e,c,d⟩:=st;exact⟨o,e,fun v z=>by rw[d]at z;cases z⟩
 keep:=fun i h h' st k=>st.at fun o e=>k it (by simp) o e
 item:=by
  intro X hP hw hK hc i J5 s σ H E I hf st hg;subst hP hw hK;obtain⟨xs,x,hq,hx⟩:=hg;obtain⟨its,rv,p,hz⟩:=I.tuple hq;obtain⟨u,hu,ru⟩:=rv.get hx;obtain⟨f0,f1,f2,f3,f4,f5⟩:=hf it (by simp);refine wpAny_pyNext_tuple_item st (show s.heap.IsTuple a its.toArray from p) (x:=u) (by simpa using hu) fun h' st' sb=>?_;have I1:Inv X J5 σ H { s with heap:=h' }:=I.turned (t':=s.toks) (fun b o hb e=>(sb.2 b hb).trans e) f0 f1 f3 f4 f5;obtain⟨o,e,c,d⟩:=id st';exact⟨u,rfl,qU (s:={ s with heap:=h' }) e c d (by decide) ⟨x,H,I1,ru,⟨rfl,fun ys hy=>by rw[I.tuple_inj hy hq];exact hx⟩,st',fun b hb=>(hf b hb).1⟩⟩
 done:=by
  intro X hP hw hK hc i J5 s σ H E I hf st hg;subst hP hw hK;obtain⟨xs,hq,hx⟩:=hg;obtain⟨its,rv,p,hz⟩:=I.tuple hq;obtain⟨f0,f1,f2,f3,f4,f5⟩:=hf it (by simp);have hl:=rv.length;exact wpAny_pyNext_tuple_end (I.ok.hd hc) st (show s.heap.IsTuple a its.toArray from p) (by simp;omega) fun h' eb=>⟨rfl,I.turned (t':=s.toks) (fun b o hb e=>eb b o hb e) f0 f1 f3 f4 f5⟩
 self:=fun _ _ _ _ _ st h=>wpAny_pyIter_tupleiter st h
theorem vq{P:bt}{w:World}{K:Za}{tg:Expr}(it:Addr)(lo:Int)(n:Nat):pS P w K tg (Dh lo n) [it] it (fun i h=>IsRangeIter h it (lo+(i:Nat) * 1) ((n:Int)-(i:Nat)) 1) where
 mem:=by simp
 obj:=fun i h st b hb=>by
  have e:b=it:=by simpa using hb
  subst e;exact⟨_,st,fun v z=>by
   have z':Data.fields _=Data.cell v:=z;cases z'⟩
 keep:=fun i h h' st k=>k it (by simp) _ st
 item:=by
  intro X hP hw hK hc i J5 s σ H E I hf st hg;subst hP hw hK;obtain⟨f0,f1,f2,f3,f4,f5⟩:=hf it (by simp);have W:=Walks.range (prog:=X.prog) (w:=X.w) (I.ok.hd hc) it lo 1 n;refine W.item i s _ _ hg st fun v h' tk hv st' kk=>?_;obtain⟨t,rfl⟩:=hv;have I1:Inv X J5 σ H { s with heap:=h',toks:=tk }:=I.turned (fun b o hb e=>kk b o (by simpa using hb) e) f0 f1 f3 f4 f5;refine⟨_,rfl,qU (s:={ s with heap:=h',toks:=tk }) (n:="range_iterator") st' rfl rfl (by decide) ⟨.int (lo+i),H,I1,⟨t,?_⟩,⟨rfl,rfl⟩,st',fun b hb=>(hf b hb).1⟩⟩;rw[Int.mul_one]
 done:=by
  intro X hP hw hK hc i J5 s σ H E I hf st hg;subst hP hw hK;obtain⟨f0,f1,f2,f3,f4,f5⟩:=hf it (by simp);exact wpAny_pyNext_range_end (I.ok.hd hc) st (by have:n<=i:=hg;omega) fun h' eb=>⟨rfl,I.turned (t':=s.toks) (fun b o hb e=>eb b o hb e) f0 f1 f3 f4 f5⟩
 self:=fun _ _ _ _ _ st h=>wpAny_pyIter_rangeiter st h
end L2
namespace L2
open PySem PySem.Spec PyProof.Rows
section
variable{X:Cx}{tg:Expr}
def c6(K:Za)(tl:TE):TI:=fun σ H R=>tl σ H fun x H1=>∃a,x=.ref a/\(∃xs,ay K H1 a xs)/\R (Cj K a) H1
def uM(K:Za)(tl:TE):TI:=fun σ H R=>tl σ H fun x H1=>∃a,x=.ref a/\(∃xs,bc K H1 a xs)/\R (Bn K a) H1
theorem bE{l:Expr}{tl:TE}(hl:PE X l tl):PI X tg l (c6 X.K tl):=by
 intro J5 s σ H R I h;refine cj (hl J5 s σ H _ I h) fun v s1 zq0=>?_;obtain⟨x,H1,I1,r1,q1⟩:=zq0;obtain⟨a,e,⟨xs,hq⟩,q⟩:=q1;subst e;cases r1;obtain⟨its,rv,p,hz⟩:=I1.list hq;refine xa p.isList ?_;refine⟨s1.heap.objs.size,[s1.heap.objs.size],_,_,H1,rfl,I1.kept (t':=s1.toks) fun b o e=>aZ _ e,qz a _,⟨_,cK _ rfl,rfl,rfl⟩,fun b hb=>?_,q⟩;have e:b=s1.heap.objs.size:=by simpa using hb
 subst e;exact I1.fpOk (ax _) (I1.hok.fresh (ax _))
theorem kz{l:Expr}{tl:TE}(hl:PE X l tl):PI X tg l (uM X.K tl):=by
 intro J5 s σ H R I h;refine cj (hl J5 s σ H _ I h) fun v s1 zq0=>?_;obtain⟨x,H1,I1,r1,q1⟩:=zq0;obtain⟨a,e,⟨xs,hq⟩,q⟩:=q1;subst e;cases r1;obtain⟨its,rv,p,hz⟩:=I1.tuple hq;refine w_ (show s1.heap.IsTuple a its.toArray from p) ?_;refine⟨s1.heap.objs.size,[s1.heap.objs.size],_,_,H1,rfl,I1.kept (t':=s1.toks) fun b o e=>aZ _ e,oR a _,⟨_,cK _ rfl,rfl,rfl⟩,fun b hb=>?_,q⟩;have e:b=s1.heap.objs.size:=by simpa using hb
 subst e;exact I1.fpOk (ax _) (I1.hok.fresh (ax _))
theorem Ah{J5:Zd}{σ:St}{H:Hp}{s:Shared}{R:It->Hp->Prop}{E:Zc}{lo hi:Int}{t u v:Tok}{tk:Nat}(I:Inv X J5 σ H s)(h1:-(2 ^ 62)<=lo)(h2:lo<2 ^ 62)(h3:-(2 ^ 62)<=hi)(h4:hi<2 ^ 62)
  (q:R (Dh lo (hi-lo).toNat) H):wpAny (model X.prog X.w) X.A (pyIter (.ref s.heap.objs.size)) (PIE X J5 σ tg R) E { s with heap:=s.heap.push { cls:=.type "range",data:=.fields #[.int lo t,.int hi u,.int 1 v] },toks:=tk }:=by
 refine wpAny_pyIter_range (IsRange.new ..) (small_one h1 h2 h3 h4) ?_;have I1:Inv X J5 σ H { s with heap:=s.heap.push { cls:=.type "range",data:=.fields #[.int lo t,.int hi u,.int 1 v] },toks:=tk }:=I.kept fun b o e=>aZ _ e;refine⟨(s.heap.push { cls:=.type "range",data:=.fields #[.int lo t,.int hi u,.int 1 v] }).objs.size,[(s.heap.push { cls:=.type "range",data:=.fields #[.int lo t,.int hi u,.int 1 v] }).objs.size],_,_,H,rfl,
  I1.kept (t':=tk) fun b o e=>aZ _ e,vq _ lo (hi-lo).toNat,?_,fun b hb=>?_,q⟩
 ·have e1:lo+((0:Nat):Int) * 1=lo:=by simp
  have e2:(((hi-lo).toNat:Nat):Int)-((0:Nat):Int)=cz.Range.rangeSize lo hi 1:=by rw[rangeSize_one];split<;>omega
  show IsRangeIter _ _ (lo+((0:Nat):Int) * 1) ((((hi-lo).toNat:Nat):Int)-((0:Nat):Int)) 1;rw[e1,e2];exact cK _ rfl
 ·have e:b=(s.heap.push { cls:=.type "range",data:=.fields #[.int lo t,.int hi u,.int 1 v] }).objs.size:=by simpa using hb
  subst e;exact I1.fpOk (ax _) (I1.hok.fresh (ax _))
def pC(ta:TA):TI:=fun σ H R=>ta σ H fun vs H1=>∃j:Int,vs=[.int j]/\-(2 ^ 62)<=j/\j<2 ^ 62/\R (Dh 0 j.toNat) H1
theorem fX{a:Expr}{ta:TA}{p pos:Pos}(hg:Gl X "range")(hm:X.mg "range"=none)(ha:PA X [a] ta)(hs:aN [a] X.env=[(false,eval a X.env)]:=by rfl):PI X tg (.Call (.Name "range" p) [a] [] pos) (pC ta):=by
 intro J5 s σ H R I h;refine Call_ (kD I hg hm boot_range (t3 (cj (ha pos J5 s σ H _ I h) fun us s1 zq0=>?_) hs rfl));obtain⟨vs,H1,I1,r1,q1⟩:=zq0;obtain⟨j,e,q1,q2,q⟩:=q1;subst e;cases r1 with
 |cons r rr =>
  cases rr;obtain⟨t,rfl⟩:=r;exact call_range_1 (Ah I1 (by omega) (by omega) q1 q2 (by simpa using q))
def fQ(wi:TI)(g:TG)(tb:TS):TS:=fun D σ H=>wi σ H fun J H1=>∃W:Nat->Nat->St->Hp->Prop,(∃m,W 0 m σ H1)/\∀i m σ H,W i m σ H ->
 (J.stop i H/\D.nx σ H)∨(J.go i H/\∃N:St->Hp->Prop,(∀σ' H',N σ' H'->∃m',m'<m/\W (i+1) m' σ' H')/\∀x H',J.yld i H x H'->g x σ H' fun σ2 H2=>tb { D with nx:=N,ct:=N,bk:=D.nx } σ2 H2)
def ph(fp:Ze)(h:Heap):List (Addr×Obj):=fp.filterMap fun b=>(h.get? b).map fun o=>(b,o)
theorem iS{fp:Ze}{h:Heap}{b:Addr}{o:Obj}(hb:b∈fp)(e:h.get? b=some o):(b,o)∈ph fp h:=List.mem_filterMap.mpr ⟨b,hb,by rw[e];rfl⟩
theorem yT{fp:Ze}{h:Heap}{p:Addr×Obj}(hp:p∈ph fp h):p.1∈fp/\h.get? p.1=some p.2:=by
 obtain⟨b,hb,e⟩:=List.mem_filterMap.mp hp;cases q:h.get? b with
 |none=>rw[q]at e;cases e
 |some o =>
  rw[q]at e;have e':(b,o)=p:=dC e;subst e';exact⟨hb,q⟩
theorem Inv.pinned{J5:Zd}{σ:St}{H:Hp}{s:Shared}{fp:Ze}(I:Inv X J5 σ H s)(hf:∀b∈fp,jY X J5 H b)(ho:∀b∈fp,∃o,s.heap.get? b=some o/\∀v,o.data≠.cell v):Inv X (J5++ph fp s.heap) σ H s :=
 I.pins_of fun p hp=>(bq.mp hp).elim (fun z=>I.pin p (dh _ z)) fun z=>by
  obtain⟨hb,e⟩:=yT z;obtain⟨f0,f1,f2,_⟩:=hf p.1 hb;obtain⟨o,e',d⟩:=ho p.1 hb;rw[e]at e';cases e';exact⟨e,f0,f1,f2,d⟩
theorem Inv.unpinned{J5 pl:Zd}{σ:St}{H:Hp}{s:Shared}(I:Inv X (J5++pl) σ H s):Inv X J5 σ H s:=I.pins_of fun p hp=>I.pin p (dh _ (dj _ hp))
theorem bU{iter:Expr}{body:List Stmt}{wi:TI}{g:TG}{tb:TS}{pos:Pos}(hp:PassesOwn (model X.prog X.w) X.A X.env X.xe)(hc:X.calm=true)(hi:PI X tg iter wi)(hg:PG X tg g)(hb:vk X body tb)
  (hs:∀x,tZ iter X.env x=pure x:=by intro _;rfl):PS X (.For tg iter body [] pos) (fQ wi g tb):=by
 intro J5 s σ H D I h;refine wpAny_For (cj (hi J5 s σ H _ I h) fun v s1 h1=>cj h1 fun itv s2 h2=>?_) hs;obtain⟨it,fp,tn,J,H2,e,I2,T,st2,f2,W,⟨m0,w0⟩,turn⟩:=h2;subst e;have stat:∀{H':Hp},(∀b∈fp,H' b=none)->∀b∈fp,jY X J5 H' b:=fun hn b hb=>⟨hn b hb,(f2 b hb).2⟩;refine codeAny_forLoop_any (fun n s'=>∃i σ' H',Inv X J5 σ' H' s'/\tn i s'.heap/\(∀b∈fp,H' b=none)/\W i n σ' H') ?_ m0 ⟨0,σ,H2,I2,st2,fun b hb=>(f2 b hb).1,w0⟩;rintro n s3 ⟨i,σ3,H3,I3,st3,fr3,w3⟩;rcases turn i n σ3 H3 w3 with⟨stop,qn⟩|⟨go,N,hN,step⟩
 ·refine oj hp (cj (T.done X rfl rfl rfl hc i J5 s3 σ3 H3 X.xe I3 (stat fr3) st3 stop) fun r s4 zq0=>?_);obtain⟨hr,I4⟩:=zq0;subst hr;exact xc ⟨σ3,H3,I4,qn⟩
 ·refine oj hp (cj (T.item X rfl rfl rfl hc i J5 s3 σ3 H3 X.xe I3 (stat fr3) st3 go) fun r s4 zq0=>?_);obtain⟨u,hr,h4⟩:=zq0;subst hr;refine oj hp (cj h4 fun _ s5 zq0=>?_);obtain⟨x,H5,I5,r5,y5,st5,fr5⟩:=zq0;have I5':=I5.pinned (stat fr5) (T.obj _ _ st5);refine oj hp (cj (hg _ s5 σ3 H5 x u _ I5' r5 (step x H5 y5)) fun _ s6 zq0=>?_);obtain⟨σ6,H6,I6,q6⟩:=zq0;refine oj hp (cj (hb _ s6 σ6 H6 _ I6 q6) fun f s7 q7=>?_);have again:∀{σ7:St}{H7:Hp},Inv X (J5++ph fp s5.heap) σ7 H7 s7->N σ7 H7->∃m,m<n/\∃i σ' H',Inv X J5 σ' H' s7/\tn i s7.heap/\(∀b∈fp,H' b=none)/\W i m σ' H':=fun{σ7 H7} I7 n7=>by
   obtain⟨m',hm,w7⟩:=hN σ7 H7 n7;refine⟨m',hm,i+1,σ7,H7,I7.unpinned,T.keep _ _ _ st5 fun b hb o e=>(I7.pin (b,o) (dh _ (dh _ (iS hb e)))).1,fun b hb=>?_,w7⟩;obtain⟨o,e,d⟩:=T.obj _ _ st5 b hb;exact(I7.pin (b,o) (dh _ (dh _ (iS hb e)))).2.1
  cases f with
  |next=>obtain⟨σ7,H7,I7,n7⟩:=q7;exact again I7 n7
  |cont=>obtain⟨σ7,H7,I7,n7⟩:=q7;exact again I7 n7
  |brk=>obtain⟨σ7,H7,I7,q7⟩:=q7;exact⟨σ7,H7,I7.unpinned,q7⟩
  |ret v=>obtain⟨x7,σ7,H7,I7,r7,q7⟩:=q7;exact⟨x7,σ7,H7,I7.unpinned,r7,q7⟩
end
theorem c7{K:Za}{a:Addr}{xs:List V}{g:TG}{tb:TS}{D:mU}{σ:St}{H:Hp}(Pv:Nat->St->Hp->Prop)(h0:Pv 0 σ H)(hl:∀i σ H,i<=xs.length->Pv i σ H->ay K H a xs)
  (hs:∀i x σ H,xs[i]?=some x->Pv i σ H->g x σ H fun σ2 H2=>tb { D with nx:=Pv (i+1),ct:=Pv (i+1),bk:=D.nx } σ2 H2) (hd:∀σ H,Pv xs.length σ H->D.nx σ H) :
  ∃W:Nat->Nat->St->Hp->Prop,(∃m,W 0 m σ H)/\∀i m σ H,W i m σ H ->
   ((Cj K a).stop i H/\D.nx σ H)∨((Cj K a).go i H/\∃N:St->Hp->Prop,(∀σ' H',N σ' H'->∃m',m'<m/\W (i+1) m' σ' H')/\∀x H',(Cj K a).yld i H x H'->g x σ H' fun σ2 H2=>tb { D with nx:=N,ct:=N,bk:=D.nx } σ2 H2):=by
 refine⟨fun i m σ H=>m=xs.length-i/\i<=xs.length/\Pv i σ H,⟨xs.length,by simp,bN _,h0⟩,?_⟩;rintro i m σ H ⟨rfl,hi,p⟩;have q:=hl i σ H hi p;by_cases hlt:i<xs.length
 ·refine .inr ⟨⟨xs,xs[i],q,by simp[hlt]⟩,Pv (i+1),fun σ' H' p'=>⟨xs.length-(i+1),by omega,rfl,hlt,p'⟩,fun x H' y=>?_⟩;obtain⟨e,y⟩:=y;subst e;exact hs i x σ _ (y xs q) p
 ·have e:i=xs.length:=by omega
  subst e;exact .inl ⟨⟨xs,q,ax _⟩,hd σ H p⟩
theorem B3{K:Za}{a:Addr}{xs:List V}{g:TG}{tb:TS}{D:mU}{σ:St}{H:Hp}(Pv:Nat->St->Hp->Prop)(h0:Pv 0 σ H)(hl:∀i σ H,i<=xs.length->Pv i σ H->bc K H a xs)
  (hs:∀i x σ H,xs[i]?=some x->Pv i σ H->g x σ H fun σ2 H2=>tb { D with nx:=Pv (i+1),ct:=Pv (i+1),bk:=D.nx } σ2 H2) (hd:∀σ H,Pv xs.length σ H->D.nx σ H) :
  ∃W:Nat->Nat->St->Hp->Prop,(∃m,W 0 m σ H)/\∀i m σ H,W i m σ H ->
   ((Bn K a).stop i H/\D.nx σ H)∨((Bn K a).go i H/\∃N:St->Hp->Prop,(∀σ' H',N σ' H'->∃m',m'<m/\W (i+1) m' σ' H')/\∀x H',(Bn K a).yld i H x H'->g x σ H' fun σ2 H2=>tb { D with nx:=N,ct:=N,bk:=D.nx } σ2 H2):=by
 refine⟨fun i m σ H=>m=xs.length-i/\i<=xs.length/\Pv i σ H,⟨xs.length,by simp,bN _,h0⟩,?_⟩;rintro i m σ H ⟨rfl,hi,p⟩;have q:=hl i σ H hi p;by_cases hlt:i<xs.length
 ·refine .inr ⟨⟨xs,xs[i],q,by simp[hlt]⟩,Pv (i+1),fun σ' H' p'=>⟨xs.length-(i+1),by omega,rfl,hlt,p'⟩,fun x H' y=>?_⟩;obtain⟨e,y⟩:=y;subst e;exact hs i x σ _ (y xs q) p
 ·have e:i=xs.length:=by omega
  subst e;exact .inl ⟨⟨xs,q,ax _⟩,hd σ H p⟩
theorem jG{lo:Int}{n:Nat}{g:TG}{tb:TS}{D:mU}{σ:St}{H:Hp}(Pv:Nat->St->Hp->Prop)(h0:Pv 0 σ H)
  (hs:∀i σ H,i<n->Pv i σ H->g (.int (lo+i)) σ H fun σ2 H2=>tb { D with nx:=Pv (i+1),ct:=Pv (i+1),bk:=D.nx } σ2 H2) (hd:∀σ H,Pv n σ H->D.nx σ H) :
  ∃W:Nat->Nat->St->Hp->Prop,(∃m,W 0 m σ H)/\∀i m σ H,W i m σ H ->
   ((Dh lo n).stop i H/\D.nx σ H)∨((Dh lo n).go i H/\∃N:St->Hp->Prop,(∀σ' H',N σ' H'->∃m',m'<m/\W (i+1) m' σ' H')/\∀x H',(Dh lo n).yld i H x H'->g x σ H' fun σ2 H2=>tb { D with nx:=N,ct:=N,bk:=D.nx } σ2 H2):=by
 refine⟨fun i m σ H=>m=n-i/\i<=n/\Pv i σ H,⟨n,by simp,bN _,h0⟩,?_⟩;rintro i m σ H ⟨rfl,hi,p⟩;by_cases hlt:i<n
 ·refine .inr ⟨hlt,Pv (i+1),fun σ' H' p'=>⟨n-(i+1),by omega,rfl,hlt,p'⟩,fun x H' y=>?_⟩;obtain⟨e,y⟩:=y;subst e y;exact hs i σ _ hlt p
 ·have e:i=n:=by omega
  subst e;exact .inl ⟨ax _,hd σ H p⟩
end L2
namespace L2
open PySem PySem.Spec PyProof.Rows
abbrev R2:=V->V->Hp->VK->Prop
def jK(X:Cx)(f:Value->Value->Sem Value)(r:R2):Prop :=
 ∀(J5:Zd) (s:Shared) (σ:St) (H:Hp) (x y:V) (v u:Value) (Q:VK),Inv X J5 σ H s->RelV x v->RelV y u->r x y H Q ->
  wpAny (model X.prog X.w) X.A (f v u) (EP X J5 σ Q) X.xe s
def UnR(X:Cx)(f:Value->Sem Value)(r:V->Hp->VK->Prop):Prop :=
 ∀(J5:Zd) (s:Shared) (σ:St) (H:Hp) (x:V) (v:Value) (Q:VK),Inv X J5 σ H s->RelV x v->r x H Q ->
  wpAny (model X.prog X.w) X.A (f v) (EP X J5 σ Q) X.xe s
def eM(X:Cx)(f:Value)(r:List V->Hp->VK->Prop):Prop :=
 ∀(J5:Zd) (s:Shared) (σ:St) (H:Hp) (xs:List V) (us:Zf) (Q:VK),Inv X J5 σ H s->aV xs us->r xs H Q ->
  wpAny (model X.prog X.w) X.A (call f us) (EP X J5 σ Q) X.xe s
def aw(r:R2)(ta tb:TE):TE:=fun σ H Q=>ta σ H fun x H1=>tb σ H1 fun y H2=>r x y H2 Q
def Dr(r:V->Hp->VK->Prop)(ta:TE):TE:=fun σ H Q=>ta σ H fun x H1=>r x H1 Q
def rI(C:Int->Int->Prop)(g:Int->Int->V):R2:=fun x y H Q=>∃i j,x=.int i/\y=.int j/\C i j/\Q (g i j) H
def xr(g:Int->Int->V):R2:=fun x y H Q=>∃i j,x=.int i/\y=.int j/\Q (g i j) H
def rU(g:Int->V):V->Hp->VK->Prop:=fun x H Q=>∃i,x=.int i/\Q (g i) H
section
variable{X:Cx}{a b c:Expr}{ta tb tc:TE}{pos:Pos}
theorem Dd(ha:PE X a ta)(hb:PE X b tb){J5:Zd}{s:Shared}{σ:St}{H:Hp}{R:V->V->Hp->Prop}(I:Inv X J5 σ H s)
  (h:ta σ H fun x H1=>tb σ H1 fun y H2=>R x y H2) {Q:Zc}{f:Value->Value->Sem Value}
  (hf:∀v u s2 x y H2,Inv X J5 σ H2 s2->RelV x v->RelV y u->R x y H2->wpAny (model X.prog X.w) X.A (f v u) Q X.xe s2) :
  wpAny (model X.prog X.w) X.A (eval a X.env) (fun v s₁=>wpAny (model X.prog X.w) X.A (eval b X.env) (fun u s₂=>wpAny (model X.prog X.w) X.A (f v u) Q X.xe s₂) X.xe s₁) X.xe s:=by
 refine cj (ha J5 s σ H _ I h) fun v s1 zq0=>?_;obtain⟨x,H1,I1,r1,q1⟩:=zq0;refine cj (hb J5 s1 σ H1 _ I1 q1) fun u s2 zq0=>?_;obtain⟨y,H2,I2,r2,q2⟩:=zq0;exact hf v u s2 x y H2 I2 r1 r2 q2
theorem aK{op:Operator}{r:R2}(ho:jK X (i3 op) r)(ha:PE X a ta)(hb:PE X b tb):PE X (.BinOp a op b pos) (aw r ta tb):=by
 intro J5 s σ H Q I h;exact wpAny_BinOp (Dd ha hb I h fun v u s2 x y H2 I2 rx ry q=>ho J5 s2 σ H2 x y v u Q I2 rx ry q)
theorem Ap{op:UnaryOp}{r:V->Hp->VK->Prop}(ho:UnR X (unaryOp op) r)(ha:PE X a ta):PE X (.UnaryOp op a pos) (Dr r ta):=by
 intro J5 s σ H Q I h;exact UnaryOp_ (cj (ha J5 s σ H _ I h) fun v s1 ⟨x,H1,I1,r1,q1⟩=>ho J5 s1 σ H1 x v Q I1 r1 q1)
theorem Ea{f:Value->Value->Sem Value}{C:Int->Int->Prop}{g:Int->Int->Int}
  (rule:∀(i j:Int) (t u:Tok) (s:Shared) (Q:Zc) (E:Zc),C i j->Q (.int (g i j) s.toks) { s with toks:=s.toks+1 }->wpAny (model X.prog X.w) X.A (f (.int i t) (.int j u)) Q E s) :
  jK X f (rI C fun i j=>.int (g i j)):=by
 intro J5 s σ H x y v u Q I rx ry h;obtain⟨i,j,rfl,rfl,hc,q⟩:=h;obtain⟨t,rfl⟩:=rx;obtain⟨t',rfl⟩:=ry;exact rule i j t t' s _ _ hc ⟨.int (g i j),H,I.tok _,⟨_,rfl⟩,q⟩
theorem DC{f:Value->Value->Sem Value}{g:Int->Int->Int}
  (rule:∀(i j:Int) (t u:Tok) (s:Shared) (Q:Zc) (E:Zc),Q (.int (g i j) s.toks) { s with toks:=s.toks+1 }->wpAny (model X.prog X.w) X.A (f (.int i t) (.int j u)) Q E s) :
  jK X f (xr fun i j=>.int (g i j)):=by
 intro J5 s σ H x y v u Q I rx ry h;obtain⟨i,j,rfl,rfl,q⟩:=h;obtain⟨t,rfl⟩:=rx;obtain⟨t',rfl⟩:=ry;exact rule i j t t' s _ _ ⟨.int (g i j),H,I.tok _,⟨_,rfl⟩,q⟩
theorem BU{f:Value->Value->Sem Value}{g:Int->Int->Bool}
  (rule:∀(i j:Int) (t u:Tok) (s:Shared) (Q:Zc) (E:Zc),Q (.bool (g i j)) s->wpAny (model X.prog X.w) X.A (f (.int i t) (.int j u)) Q E s) :
  jK X f (xr fun i j=>.bl (g i j)):=by
 intro J5 s σ H x y v u Q I rx ry h;obtain⟨i,j,rfl,rfl,q⟩:=h;obtain⟨t,rfl⟩:=rx;obtain⟨t',rfl⟩:=ry;exact rule i j t t' s _ _ ⟨.bl (g i j),H,I,rfl,q⟩
def DV(i j:Int):Prop:=0<j/\j<1073741824
def DU(i j:Int):Prop:=0<=j/\j<=1000000/\i.natAbs<2 ^ 64
def Bm(i j:Int):Prop:=(-(2 ^ 64)<i/\i<2 ^ 64)∨(-(2 ^ 64)<j/\j<2 ^ 64)
theorem Bm.ok{i j:Int}(h:Bm i j):IntMulOk i j:=by
 rcases h with⟨h1,h2⟩|⟨h1,h2⟩
 ·exact .of_left (intBits_le_64 h1 h2)
 ·exact .of_right (intBits_le_64 h1 h2)
theorem cv:jK X (i3 .Add) (xr fun i j=>.int (i+j)):=DC fun _ _ _ _ _ _ _ q=>add_int q
theorem v3:jK X (i3 .Sub) (xr fun i j=>.int (i-j)):=DC fun _ _ _ _ _ _ _ q=>sub_int q
theorem gp:jK X (i3 .Mult) (rI Bm fun i j=>.int (i * j)):=Ea fun _ _ _ _ _ _ _ hc q=>mul_int q hc.ok
theorem xB:jK X (i3 .FloorDiv) (rI DV fun i j=>.int (i / j)):=Ea fun i j _ _ _ _ _ hc q=>by
 have h1:(0:Int)<j:=hc.1;have h2:j<1073741824:=hc.2;exact floordiv_int (by omega) (by rw[Int.fdiv_eq_ediv_of_nonneg i (by omega)];exact q) (.inl (PyProof.noPylong_small (by omega)))
theorem eZ:jK X (i3 .Mod) (rI (fun _ j=>0<j) fun i j=>.int (i % j)):=Ea fun i j _ _ _ _ _ hc q=>by
 have h1:(0:Int)<j:=hc;exact mod_int' (by omega) (by rw[Int.fmod_eq_emod_of_nonneg i (by omega)];exact q)
theorem Au:jK X (i3 .Pow) (rI DU fun i j=>.int (i ^ j.toNat)):=Ea fun _ _ _ _ _ _ _ hc q=>pow_int_small hc.1 hc.2.1 hc.2.2 q
theorem unI{f:Value->Sem Value}{g:Int->Int}
  (rule:∀(i:Int) (t:Tok) (s:Shared) (Q:Zc) (E:Zc),Q (.int (g i) s.toks) { s with toks:=s.toks+1 }->wpAny (model X.prog X.w) X.A (f (.int i t)) Q E s) :
  UnR X f (rU fun i=>.int (g i)):=by
 intro J5 s σ H x v Q I rx h;obtain⟨i,rfl,q⟩:=h;obtain⟨t,rfl⟩:=rx;exact rule i t s _ _ ⟨.int (g i),H,I.tok _,⟨_,rfl⟩,q⟩
theorem vp:UnR X (unaryOp .USub) (rU fun i=>.int (-i)):=unI fun _ _ _ _ _ q=>neg_int q
end
def Du:V->V->Bool
 |.non,.non=>true | .non,.int _=>true | .int _,.non=>true | .non,.bl _=>true | .bl _,.non=>true | .non,.str _=>true | .str _,.non=>true
 |.int _,.int _=>true | .bl _,.bl _=>true | .str _,.str _=>true | .byt _,.byt _=>true
 |.int _,.str _=>true | .str _,.int _=>true | .bl _,.str _=>true | .str _,.bl _=>true
 |_,_=>false
def mw:R2:=fun x y H Q=>Du x y=true/\Q (.bl (decide (x=y))) H
def rNe:R2:=fun x y H Q=>Du x y=true/\Q (.bl (!decide (x=y))) H
theorem xY{i j:Int}:decide (V.int i=V.int j)=(i==j):=by
 rw[w8];simp
theorem A5{i j:Bool}:decide (V.bl i=V.bl j)=(i==j):=by
 rw[w8];simp
theorem dec_str{i j:Str}:decide (V.str i=V.str j)=(i==j):=by
 rw[w8];simp
theorem xZ{i j:Array UInt8}:decide (V.byt i=V.byt j)=(i.toList==j.toList):=by
 rw[w8];cases i;cases j;simp
section
variable{X:Cx}{a b c:Expr}{ta tb tc:TE}{pos:Pos}
theorem bp{J5:Zd}{σ:St}{H:Hp}{s:Shared}{Q:VK}{k k':Bool}(I:Inv X J5 σ H s)(q:Q (.bl k) H)(e:k=k'):EP X J5 σ Q (.bool k') s:=by
 subst e;exact⟨.bl k,H,I,rfl,q⟩
theorem cO:jK X (cL .Eq) mw:=by
 intro J5 s σ H x y v u Q I rx ry h;obtain⟨hs,q⟩:=h;cases x with
 |non =>
  cases rx;cases y with
  |non=>cases ry;exact PySem.EqNone.eq_none_none (bp I q (by simp))
  |bl j=>cases ry;exact PySem.EqNone.eq_none_bool (bp I q (by simp))
  |int j=>obtain⟨t',rfl⟩:=ry;exact PySem.EqNone.eq_none_int (bp I q (by simp))
  |str j=>obtain⟨t',rfl⟩:=ry;exact PySem.EqNone.eq_none_str (bp I q (by simp))
  |_=>exact absurd (show false=true from hs) f_
 |bl i =>
  cases rx;cases y with
  |non=>cases ry;exact PySem.EqNone.eq_bool_none (bp I q (by simp))
  |bl j=>cases ry;exact eq_bool (bp I q A5)
  |str j=>obtain⟨t',rfl⟩:=ry;exact PySem.EqMixed.eq_bool_str (bp I q (by simp))
  |_=>exact absurd (show false=true from hs) f_
 |int i =>
  obtain⟨t,rfl⟩:=rx;cases y with
  |non=>cases ry;exact PySem.EqNone.eq_int_none (bp I q (by simp))
  |int j=>obtain⟨t',rfl⟩:=ry;exact eq_int (bp I q xY)
  |str j=>obtain⟨t',rfl⟩:=ry;exact PySem.EqMixed.eq_int_str (bp I q (by simp))
  |_=>exact absurd (show false=true from hs) f_
 |str i =>
  obtain⟨t,rfl⟩:=rx;cases y with
  |non=>cases ry;exact PySem.EqNone.eq_str_none (bp I q (by simp))
  |bl j=>cases ry;exact PySem.EqMixed.eq_str_bool (bp I q (by simp))
  |int j=>obtain⟨t',rfl⟩:=ry;exact PySem.EqMixed.eq_str_int (bp I q (by simp))
  |str j=>obtain⟨t',rfl⟩:=ry;exact eq_str (bp I q dec_str)
  |_=>exact absurd (show false=true from hs) f_
 |byt i =>
  obtain⟨t,rfl⟩:=rx;cases y with
  |byt j=>obtain⟨t',rfl⟩:=ry;exact PySem.W.eq_bytes (bp I q xZ)
  |_=>exact absurd (show false=true from hs) f_
 |_=>cases y<;>exact absurd (show false=true from hs) f_
theorem Cv:jK X (cL .NotEq) rNe:=by
 intro J5 s σ H x y v u Q I rx ry h;obtain⟨hs,q⟩:=h;cases x with
 |non =>
  cases rx;cases y with
  |non=>cases ry;exact PySem.EqNone.ne_none_none (bp I q (by simp))
  |bl j=>cases ry;exact PySem.EqNone.ne_none_bool (bp I q (by simp))
  |int j=>obtain⟨t',rfl⟩:=ry;exact PySem.EqNone.ne_none_int (bp I q (by simp))
  |str j=>obtain⟨t',rfl⟩:=ry;exact PySem.EqNone.ne_none_str (bp I q (by simp))
  |_=>exact absurd (show false=true from hs) f_
 |bl i =>
  cases rx;cases y with
  |non=>cases ry;exact PySem.EqNone.ne_bool_none (bp I q (by simp))
  |bl j=>cases ry;exact ne_bool (bp I q (congrArg not A5))
  |str j=>obtain⟨t',rfl⟩:=ry;exact PySem.EqMixed.ne_bool_str (bp I q (by simp))
  |_=>exact absurd (show false=true from hs) f_
 |int i =>
  obtain⟨t,rfl⟩:=rx;cases y with
  |non=>cases ry;exact PySem.EqNone.ne_int_none (bp I q (by simp))
  |int j=>obtain⟨t',rfl⟩:=ry;exact ne_int (bp I q (congrArg not xY))
  |str j=>obtain⟨t',rfl⟩:=ry;exact PySem.EqMixed.ne_int_str (bp I q (by simp))
  |_=>exact absurd (show false=true from hs) f_
 |str i =>
  obtain⟨t,rfl⟩:=rx;cases y with
  |non=>cases ry;exact PySem.EqNone.ne_str_none (bp I q (by simp))
  |bl j=>cases ry;exact PySem.EqMixed.ne_str_bool (bp I q (by simp))
  |int j=>obtain⟨t',rfl⟩:=ry;exact PySem.EqMixed.ne_str_int (bp I q (by simp))
  |str j=>obtain⟨t',rfl⟩:=ry;exact ne_str (bp I q (congrArg not dec_str))
  |_=>exact absurd (show false=true from hs) f_
 |byt i =>
  obtain⟨t,rfl⟩:=rx;cases y with
  |byt j=>obtain⟨t',rfl⟩:=ry;exact PySem.W.ne_bytes (bp I q (congrArg not xZ))
  |_=>exact absurd (show false=true from hs) f_
 |_=>cases y<;>exact absurd (show false=true from hs) f_
theorem uD:jK X (cL .Lt) (xr fun i j=>.bl (decide (i<j))):=BU fun _ _ _ _ _ _ _ q=>lt_int q
theorem DA:jK X (cL .LtE) (xr fun i j=>.bl (decide (i<=j))):=BU fun _ _ _ _ _ _ _ q=>le_int q
theorem xA:jK X (cL .Gt) (xr fun i j=>.bl (decide (j<i))):=BU fun _ _ _ _ _ _ _ q=>gt_int q
theorem DB:jK X (cL .GtE) (xr fun i j=>.bl (decide (j<=i))):=BU fun _ _ _ _ _ _ _ q=>ge_int q
theorem yS:jK X (cL .In) (fun x y H Q=>∃i j,x=.str i/\y=.str j/\Q (.bl (!(cz.Str.occurrences j i 0 j.length 1).isEmpty)) H):=by
 intro J5 s σ H x y v u Q I rx ry h;obtain⟨i,j,rfl,rfl,q⟩:=h;obtain⟨t,rfl⟩:=rx;obtain⟨t',rfl⟩:=ry;exact in_str (bp I q rfl)
theorem Aw(b:Expr){op:CmpOp}(h:op≠.In:=by decide)(h2:op≠.NotIn:=by decide):i4 op b=false:=by
 have e1:(op==CmpOp.In)=false:=by cases op<;>first|rfl|exact absurd rfl h
 have e2:(op==CmpOp.NotIn)=false:=by cases op<;>first|rfl|exact absurd rfl h2
 cases b<;>simp[i4,e1,e2]
theorem xz{op:CmpOp}{r:R2}(ho:jK X (cL op) r)(ha:PE X a ta)(hb:PE X b tb)(hm:i4 op b=false):PE X (.Compare a [op] [b] pos) (aw r ta tb):=by
 intro J5 s σ H Q I h;exact wpAny_Compare1 (Dd ha hb I h fun v u s2 x y H2 I2 rx ry q=>ho J5 s2 σ H2 x y v u Q I2 rx ry q) hm
def ba(t:TE):TT:=fun σ H Q=>t σ H fun x H'=>∃k,x=.bl k/\Q k H'
theorem xu{op:CmpOp}{r:R2}(ho:jK X (cL op) r)(ha:PE X a ta)(hb:PE X b tb)(hm:i4 op b=false):PT X (.Compare a [op] [b] pos) (ba (aw r ta tb)):=by
 intro J5 s σ H Q I h;refine wpAny_isTrue_Compare1 (cj (ha J5 s σ H _ I h) fun v s1 ⟨x,H1,I1,r1,q1⟩=>cj (hb J5 s1 σ H1 _ I1 q1) fun u s2 ⟨y,H2,I2,r2,q2⟩ =>
  cj (ho J5 s2 σ H2 x y v u _ I2 r1 r2 q2) fun c s3 ⟨z,H3,I3,r3,k,e,q3⟩=>?_) hm
 subst e;cases r3;exact kT ⟨H3,I3,q3⟩
theorem mF:(ai:Nat)<2 ^ 63:=by rw[wZ];decide
theorem pp:jK X (i3 .Add) (fun x y H Q=>∃i j,x=.str i/\y=.str j/\i.length+j.length<=ai/\Q (.str (i++j)) H):=by
 intro J5 s σ H x y v u Q I rx ry h;obtain⟨i,j,rfl,rfl,hz,q⟩:=h;obtain⟨t,rfl⟩:=rx;obtain⟨t',rfl⟩:=ry;exact add_str (fun t' tk=>⟨.str (i++j),H,I.tok _,⟨_,rfl⟩,q⟩) hz
theorem vals1{x:V}{us:Zf}(r:aV [x] us):∃u,us=[u]/\RelV x u:=by
 cases r with
 |cons r1 r2=>cases r2;exact⟨_,rfl,r1⟩
theorem vals2{x y:V}{us:Zf}(r:aV [x,y] us):∃u w',us=[u,w']/\RelV x u/\RelV y w':=by
 cases r with
 |cons r1 r2 =>
  cases r2 with
  |cons r3 r4=>cases r4;exact⟨_,_,rfl,r1,r3⟩
theorem zm:eM X (.type "int") (fun xs H Q=>(∃i,xs=[.int i]/\Q (.int i) H)∨∃k,xs=[.bl k]/\Q (.int (if k then 1 else 0)) H):=by
 intro J5 s σ H xs us Q I r h;rcases h with⟨i,rfl,q⟩|⟨k,rfl,q⟩
 ·obtain⟨u,rfl,t,rfl⟩:=vals1 r;exact call_int_int ⟨.int i,H,I,⟨_,rfl⟩,q⟩
 ·obtain⟨u,rfl,r1⟩:=vals1 r;cases r1;exact call_int_bool ⟨.int (if k then 1 else 0),H,I.tok _,⟨_,rfl⟩,q⟩
end
end L2
namespace L2
open PySem PySem.Spec PyProof.Rows
structure wJ(h:Heap)(x dx C:Addr)(mA:Str->Option Value):Prop where
 obj:h.get? x=some (m8 C dx)
 ns:h.Ns1 dx mA
 ne:dx≠x
theorem yW{h:Heap}{dx:Addr}{mA:Str->Option Value}(n:h.Ns1 dx mA):∃od,h.get? dx=some od/\∀name,wY name od=some (mA name):=by
 obtain⟨o,es,ep,ho,hd,hk,_,hm⟩:=n;refine⟨o,ho,fun name=>?_⟩;have e:=hm name;unfold nsFind findBy at e;rw[<-Array.find?_toList]at e;unfold wY;rw[hd];dsimp only;split
 ·rename_i y q;rw[q]at e;exact congrArg some e
 ·rename_i q;rw[q]at e;have a:es.toList.any (·.refKey)=false:=by
   rw[List.any_eq_false];intro y hy;obtain⟨z,t,hkey⟩:=hk y (Array.mem_toList_iff.mp hy);simp[DictEntry.refKey,hkey]
  have a':¬es.toList.any (·.refKey)=true:=by rw[a];exact f_
  rw[if_neg a'];exact congrArg some e
theorem wJ.look{h:Heap}{x dx C:Addr}{mA:Str->Option Value}(I:wJ h x dx C mA):∃od,PySem.W.InstAt h x (m8 C dx) C (some od)/\∀name,wY name od=some (mA name) :=
 let⟨od,ho,hl⟩:=yW I.ns
 ⟨od,⟨I.obj,rfl,rfl,ho⟩,hl⟩
section
variable{prog:bt}{w:World}{A:Around}{E:Zc}{s:Shared}{K:Za}{x dx C f:Addr}{mA:Str->Option Value}{name:Str}{v:Value}
theorem B1{expr:Bool}{Q:Zc}(X:K.In s.heap)(I:wJ s.heap x dx C mA)(hg:tX K C name=true)(hh:wX K C=true)
  (ha:dA K (.ref C) name=some none) (hv:mA name=some v) (hv':PySem.W.handedIn v=true) (h:Q v { s with toks:=s.toks+1 }) :
  wpAny (model prog w) A (getAttr (.ref x) name expr) Q E s:=by
 obtain⟨od,J,hl⟩:=I.look;exact PySem.W.get_value X J (PySem.W.plainGet_of hg).1 (PySem.W.findObj_own hh ha rfl (by rw[hl,hv])) hv' h
theorem AO{pl:Sem Bool}{Q:Value×List Value->Shared->Prop}(X:K.In s.heap)(I:wJ s.heap x dx C mA)(hg:tX K C name=true)
  (hf:dA K (.ref C) name=some (some (.ref f))) (ht:tW K (.ref f)=true) (hv:mA name=none) (h:Q (.ref f,[.ref x]) s) :
  wpAny (model prog w) A (tV (.ref x) name pl) Q E s:=by
 obtain⟨od,J,hl⟩:=I.look;exact PySem.W.method_fn X J (PySem.W.plainGet_of hg).1 (PySem.W.plainGet_of hg).2 hf (beq_iff_eq.mp ht) (by show(wY name od).map (·.isSome)=some false;rw[hl,hv];rfl) h
theorem BB{ns:Zb}{Q:Unit->Shared->Prop}(X:K.In s.heap)(I:wJ s.heap x dx C mA)
  (hs:dA K (.ref C) "__setattr__"=some (some (.builtin "object.__setattr__"))) (hp:PySem.W.plainOver K C=true) (ht:PySem.W.takerIn K C name=some none) (hh:wX K C=true)
  (hw:PySem.Within mA ns) (hsz:ns.length<=ai)
  (h:∀h',wJ h' x dx C (fun y=>if y=name then some v else mA y)->ij dx s.heap h'->Q () { s with heap:=h',toks:=s.toks+2 }) :
  wpAny (model prog w) A (setAttr (.ref x) name v) Q E s:=by
 obtain⟨od,J,hl⟩:=I.look;refine PySem.W.set_plain X J hs (PySem.W.osa_open (s:={ s with toks:=s.toks+1 }) (r:=none) X J hp ht fun b=>?_);obtain⟨cd,hc,hd'⟩:=PySem.W.any_some hh;have hx:s.heap.get? x=some ⟨.ref C,some dx,.plain,#[]⟩:=I.obj;refine am (aE (am (am (wpAny_loadPart hx (am (PySem.W.Looks.here (s:={ s with toks:=s.toks+1 }) (PySem.W.looks_clsIn X hc) ?_))))));rw[hd'];refine aE (a:=some dx) (am (aE (am ?_)));refine wpAny_nsSet1 (s:={ s with toks:=s.toks+1 }) I.ns fun h' hn2 hs2=>?_;obtain⟨oD,esD,epD,hoD,hdD,hcD⟩:=hn2.count (PySem.Within.cons name v hw);refine am (wpAny_lookBehind hoD (by rw[hdD];exact pastItsLine_dict (aW hcD (by rw[cW];omega))) ?_);exact aE (h _ ⟨(hs2.2 _ (ga I.ne)).trans I.obj,hn2,I.ne⟩ hs2)
theorem AA{R:Result->Shared->Prop}{vs:Zf}{kw:List (Str×Value)}(X:K.In s.heap)(hm:tU K C=true)
  (hi:dA K (.ref C) "__init__"=some (some (.ref f))) (hf:PySem.W.typeIn K (.ref f)=some (.type "function"))
  (h:zzl77 (model prog w) (A.under (.builtin "type.__call__" ⟨.ref C::vs,kw⟩)) (.call (.ref f) ⟨.ref (s.heap.objs.size+1)::vs,kw⟩) (PySem.W.InitBack (s.heap.objs.size+1) R)
   { s with heap:=(s.heap.push kQ).push (m8 C s.heap.objs.size) }) :
  zzl77 (model prog w) A (.call (.ref C) ⟨vs,kw⟩) R s:=by
 obtain⟨hh,g,d,t,os⟩:=s;exact PySem.W.make_core (PySem.W.makes_of X hm) (PySem.W.looks_findIn X hi) (fun self=>PySem.W.bind_fn X self hf) (.inl rfl) h
end
def cx(f:Str)(v:V):List (Str×V)->List (Str×V)
 |[]=>[(f,v)]
 | (g,x)::r=>if g=f then(g,v)::r else(g,x)::cx f v r
theorem dZ(f g:Str)(v:V):∀fs:List (Str×V),(cx f v fs).lookup g=if g=f then some v else fs.lookup g
 |[]=>by
  show i8 g [(f,v)]=_;by_cases h:g=f
  ·have hb:(g==f)=true:=beq_iff_eq.mpr h;simp only[i8,hb,if_pos h]
  ·have hb:(g==f)=false:=beq_eq_false_iff_ne.mpr h;simp only[i8,hb,if_neg h]
 | (k,x)::r=>by
  have ih:=dZ f g v r;rw[show cx f v ((k,x)::r)=(if k=f then(k,v)::r else(k,x)::cx f v r)from rfl]
  by_cases hk:k=f
  ·rw[if_pos hk];by_cases h:g=k
   ·have hb:(g==k)=true:=beq_iff_eq.mpr h;simp only[i8,hb,if_pos (h.trans hk)]
   ·have hb:(g==k)=false:=beq_eq_false_iff_ne.mpr h;simp only[i8,hb,if_neg (fun e:g=f=>h (e.trans hk.symm))]
  ·rw[if_neg hk];by_cases h:g=k
   ·have hb:(g==k)=true:=beq_iff_eq.mpr h;simp only[i8,hb,if_neg (fun e:g=f=>hk (h.symm.trans e))]
   ·have hb:(g==k)=false:=beq_eq_false_iff_ne.mpr h;simp only[i8,hb];exact ih
theorem mH(f:Str)(v:V):∀fs:List (Str×V),f∈(cx f v fs).map (·.1)/\∀g,g∈fs.map (·.1)->g∈(cx f v fs).map (·.1)
 |[]=>⟨by simp[cx],fun g h=>by simp at h⟩
 | (k,x)::r=>by
  obtain⟨i1,i2⟩:=mH f v r;rw[show cx f v ((k,x)::r)=(if k=f then(k,v)::r else(k,x)::cx f v r)from rfl]
  by_cases hk:k=f
  ·rw[if_pos hk];subst hk;exact⟨by simp,fun g h=>by simpa using h⟩
  ·rw[if_neg hk];refine⟨?_,fun g h=>?_⟩
   ·rw[bM];exact fx _ i1
   ·rw[bM]at h ⊢;rcases bS.mp h with e|e
    ·exact bS.mpr (.inl e)
    ·exact fx _ (i2 g e)
theorem ni(f:Str)(v:V):∀fs:List (Str×V),(cx f v fs).length<=fs.length+1
 |[]=>by simp[cx]
 | (k,x)::r=>by
  have ih:=ni f v r;rw[show cx f v ((k,x)::r)=(if k=f then(k,v)::r else(k,x)::cx f v r)from rfl]
  by_cases hk:k=f
  ·rw[if_pos hk,cW,cW];omega
  ·rw[if_neg hk,cW,cW];omega
theorem i7.some_of{v:V}{o:Option Value}(r:i7 (some v) o):∃u,o=some u/\RelV v u:=by
 cases o with
 |none=>exact(show False from r).elim
 |some u=>exact⟨u,rfl,r⟩
theorem i7.none_of{o:Option Value}(r:i7 none o):o=none:=by
 cases o with
 |none=>rfl
 |some u=>exact(show False from r).elim
theorem y4{v:V}{u:Value}(r:RelV v u):PySem.W.handedIn u=true:=by
 cases v with
 |non=>cases(show u=Value.none from r);rfl
 |bl b=>cases(show u=Value.bool b from r);rfl
 |int i=>obtain⟨t,e⟩:=(show ∃t,u=Value.int i t from r);cases e;rfl
 |str x=>obtain⟨t,e⟩:=(show ∃t,u=Value.str x t from r);cases e;rfl
 |byt b=>obtain⟨t,e⟩:=(show ∃t,u=Value.bytes b t from r);cases e;rfl
 |flt b=>obtain⟨t,e⟩:=(show ∃t,u=Value.float b t from r);cases e;rfl
 |ref a=>cases(show u=Value.ref a from r);rfl
 |ty n=>cases(show u=Value.type n from r);rfl
section
variable{P:bt}{w:World}{H H':Hp}{h h':Heap}{a C dx:Addr}{fs fs':List (Str×V)}
theorem n6{K:Za}(hok:j6 P w K H h)(e:H a=some (.ins C dx fs)):∃mA,wJ h a dx C mA/\(∀f,i7 (fs.lookup f) (mA f))/\PySem.Within mA (fs.map (·.1))/\fs.length<=1000/\H dx=some (.own a):=by
 obtain⟨d,z,ne,ob,mA,n,r,q⟩:=(show bW P w K H h a (.ins C dx fs)from hok a _ e);exact⟨mA,⟨ob,n,ne⟩,r,q,z,d⟩
end
structure zK(K:Za)(C:Addr):Prop where
 pg:tX K C Str.empty=true
 hd:wX K C=true
 po:PySem.W.plainOver K C=true
 sa:dA K (.ref C) "__setattr__"=some (some (.builtin "object.__setattr__"))
theorem zK.get{K:Za}{C:Addr}(c:zK K C)(f:Str):tX K C f=true:=c.pg
def eJ(K:Za)(C:Addr)(f:Str):Prop:=dA K (.ref C) f=some none
theorem eJ.taker{K:Za}{C:Addr}{f:Str}(n:eJ K C f):PySem.W.takerIn K C f=some none:=by
 unfold PySem.W.takerIn;rw[show dA K (.ref C) f=some none from n]
 rfl
structure Dg(K:Za)(C:Addr)(m:Str)(f:Addr):Prop where
 at_:dA K (.ref C) m=some (some (.ref f))
 fn:tW K (.ref f)=true
 kp:ig K (.ref f)=true
section
variable{X:Cx}{J5:Zd}{σ:St}{H:Hp}{s:Shared}{a C dx:Addr}{fs:List (Str×V)}{f:Str}{v:V}{A:Around}{E:Zc}
theorem wn{b:Bool}{Q:Zc}(I:Inv X J5 σ H s)(e:H a=some (.ins C dx fs))(c:zK X.K C)(n:eJ X.K C f)(l:fs.lookup f=some v)
  (h:∀u s',Inv X J5 σ H s'->RelV v u->Q u s'):wpAny (model X.prog X.w) A (getAttr (.ref a) f b) Q E s:=by
 obtain⟨mA,O,r,_,_,_⟩:=n6 I.hok e;obtain⟨u,hu,ru⟩:=i7.some_of (v:=v) (o:=mA f) (by rw[<-l];exact r f);exact B1 I.kIn O (c.get f) c.hd n hu (y4 ru) (h u _ (I.tok _) ru)
theorem wm{m:Str}{g:Addr}{pl:Sem Bool}{Q:Value×List Value->Shared->Prop}(I:Inv X J5 σ H s)(e:H a=some (.ins C dx fs))(c:zK X.K C)(k:Dg X.K C m g)(l:fs.lookup m=none)
  (h:Q (.ref g,[.ref a]) s):wpAny (model X.prog X.w) A (tV (.ref a) m pl) Q E s:=by
 obtain⟨mA,O,r,_,_,_⟩:=n6 I.hok e;have hn:mA m=none:=i7.none_of (by rw[<-l];exact r m);exact AO I.kIn O (c.get m) k.at_ k.fn hn h
theorem vL{y:V}{u:Value}{Q:Unit->Shared->Prop}(I:Inv X J5 σ H s)(e:H a=some (.ins C dx fs))(c:zK X.K C)(n:eJ X.K C f)(hl:fs.length<1000)(ry:RelV y u)
  (h:∀s',Inv X J5 σ (upd H a (.ins C dx (cx f y fs))) s'->Q () s'):wpAny (model X.prog X.w) A (setAttr (.ref a) f u) Q E s:=by
 obtain⟨mA,O,r,wi,_,ho⟩:=n6 I.hok e;have hz:(fs.map (·.1)).length<=ai:=by rw[ak,wZ];omega
 refine BB I.kIn O c.sa c.po n.taker c.hd wi hz fun h' O' sb=>h _ ?_;have hd:∃o,h'.get? dx=some o:=let⟨o,_,_,e',_⟩:=O'.ns;⟨o,e'⟩;refine I.write (x:=a) (e:=dx) (by rw[e];exact i0) (.inr ho) (fun b q hb z=>(sb.2 b hb).trans z) hd ?_;refine⟨by rw[aj O.ne];exact ho,?_,O.ne,O'.obj,_,O'.ns,fun g=>?_,fun g hg=>?_⟩
 ·have:=ni f y fs;omega
 ·show i7 ((cx f y fs).lookup g) (if g=f then some u else mA g)
  rw[dZ];by_cases q:g=f
  ·rw[if_pos q,if_pos q];exact ry
  ·rw[if_neg q,if_neg q];exact r g
 ·by_cases q:g=f
  ·rw[q];exact(mH f y fs).1
  ·refine(mH f y fs).2 g (wi g fun z=>hg ?_);show(if g=f then some u else mA g)=none
   rw[if_neg q];exact z
theorem Inv.made(I:Inv X J5 σ H s):Inv X J5 σ (upd (upd H s.heap.objs.size (.own (s.heap.objs.size+1))) (s.heap.objs.size+1) (.ins C s.heap.objs.size []))
  { s with heap:=(s.heap.push kQ).push (m8 C s.heap.objs.size) }:=by
 have e1:(s.heap.push kQ).get? s.heap.objs.size=some kQ:=cK s.heap rfl;have e2:((s.heap.push kQ).push (m8 C s.heap.objs.size)).get? (s.heap.objs.size+1)=some (m8 C s.heap.objs.size):=by
  have:=cK (s.heap.push kQ) (o:=m8 C s.heap.objs.size) rfl;rwa[mZ]at this
 have e3:(s.heap.push kQ).Ns s.heap.objs.size (fun _=>none):=⟨kQ,#[],_,e1,rfl,(fun e he=>absurd he (by simp)),fun _=>rfl⟩;have I1:=I.laid (a:=s.heap.objs.size) (o:=.own (s.heap.objs.size+1)) (h':=s.heap.push kQ) (t':=s.toks) (fun b u q=>aZ _ q) (ax _) ⟨_,e1⟩;refine I1.laid (a:=s.heap.objs.size+1) (o:=.ins C s.heap.objs.size []) (t':=s.toks) (fun b u q=>aZ _ q) (Nat.le_of_eq (mZ _ _)) ?_;have ne:s.heap.objs.size≠s.heap.objs.size+1:=b_ (wW _);refine⟨by rw[aj ne,aa],bN _,ne,e2,fun _=>none,(Heap.Ns1.of_empty e3).at fun o q=>aZ _ q,fun _=>i0,fun y hy=>absurd rfl hy⟩
theorem Cc{prog:bt}{w:World}{env:Env}{e:Expr}{f:Str}{pos:Pos}{s:Shared}{Q:Zc}(hb:tT e f env (eval e env)=eval e env)
  (h:wpAny (model prog w) A (eval e env) (fun o s₁=>wpAny (model prog w) A (getAttr o f true) Q E s₁) E s):wpAny (model prog w) A (eval (.Attribute e f pos) env) Q E s :=
 Attribute_any_ h (by rw[arm_eval_Attribute,hb])
end
def yz(K:Za)(ta:TE)(f:Str):TE:=fun σ H Q=>ta σ H fun x H1=>∃a C dx fs v,x=.ref a/\H1 a=some (.ins C dx fs)/\zK K C/\eJ K C f/\fs.lookup f=some v/\Q v H1
def sC(K:Za)(ta tv:TE)(f:Str):TS:=fun D σ H=>tv σ H fun y H1=>ta σ H1 fun x H2=>∃a C dx fs,x=.ref a/\H2 a=some (.ins C dx fs)/\zK K C/\eJ K C f/\fs.length<1000 /\
 D.nx σ (upd H2 a (.ins C dx (cx f y fs)))
section
variable{X:Cx}{o e value:Expr}{f:Str}{pos pos' J9:Pos}{ta tv:TE}
theorem pj(he:PE X e ta)(hb:tT e f X.env (eval e X.env)=eval e X.env):PE X (.Attribute e f pos) (yz X.K ta f):=by
 intro J5 s σ H Q I h;refine Cc hb (cj (he J5 s σ H _ I h) fun u s1 zq0=>?_);obtain⟨x,H1,I1,rx,a,C,dx,fs,v,ex,ea,c,n,l,q⟩:=zq0;subst ex;obtain rfl:u=Value.ref a:=rx;exact wn I1 ea c n l fun u' s2 I2 ru=>⟨v,H1,I2,ru,q⟩
theorem ji(ha:PE X o ta)(hv:PE X value tv)(hs:om value (some (.Attribute o f pos')) pos.line X.env=pure false):PS X (.Assign [.Attribute o f pos'] value pos) (sC X.K ta tv f):=by
 intro J5 s σ H D I h;refine plainObj_wpAny_Assign_Attribute (cj (hv J5 s σ H _ I h) fun u s1 ⟨y,H1,I1,ry,q⟩=>cj (ha J5 s1 σ H1 _ I1 q) fun ov s2 zq0=>?_) hs;obtain⟨x,H2,I2,rx,a,C,dx,fs,ex,ea,c,n,l,q2⟩:=zq0;subst ex;obtain rfl:ov=Value.ref a:=rx;exact vL I2 ea c n l ry fun s3 I3=>⟨σ,_,I3,q2⟩
end
section
variable{X:Cx}{J5:Zd}{σ:St}{H:Hp}{s:Shared}{A:Around}{E:Zc}{Q:Zc}{c:Value}{b:Bool}
inductive ib(K:Za)(H:Hp):V->Value->Prop where
 |non:ib K H .non (.type "NoneType")
 |bl (x:Bool):ib K H (.bl x) (.type "bool")
 |int (i:Int):ib K H (.int i) (.type "int")
 |str (x:Str):ib K H (.str x) (.type "str")
 |flt (x:UInt64):ib K H (.flt x) (.type "float")
 |lst {a:Addr}{xs:List V}(e:H a=some (.lst xs)):ib K H (.ref a) (.type "list")
 |frz {a:Addr}{o:Obj}{xs:List V}(e:H a=some (.frz o (.lst xs))):ib K H (.ref a) (.type "list")
 |tup {a:Addr}{xs:List V}(e:H a=some (.tup xs)):ib K H (.ref a) (.type "tuple")
 |dK {a:Addr}{kvs:List (dH×V)}(e:H a=some (.dK kvs)):ib K H (.ref a) (.type "dict")
 |dT {a:Addr}{kvs:List (TK×V)}(e:H a=some (.dT kvs)):ib K H (.ref a) (.type "dict")
 |ins {a C dx:Addr}{fs:List (Str×V)}(e:H a=some (.ins C dx fs)) (cl:zK K C) (ha:dA K (.ref C) "__class__"=some (some (.builtin "object.__class__")))
   (hn:PySem.W.specialIn K (.builtin "object.__class__") "__get__"=some (some (.builtin "getset_descriptor.__get__"))) (htk:PySem.W.takesIn K (.builtin "object.__class__")=some true)
   (hm:PySem.W.mroIn K C (.type "object")=some true):ib K H (.ref a) (.ref C)
theorem yY{x:V}{u t:Value}(I:Inv X J5 σ H s)(rx:RelV x u)(ty:ib X.K H x t)(e:wV X.K t c=some b)(h:∀tk,Q (.bool b) { s with toks:=tk }):
  wpAny (model X.prog X.w) A (call (.builtin "isinstance") [u,c]) Q E s:=by
 cases ty with
 |non=>cases(show u=Value.none from rx);exact ie PySem.W.kitx_none I.kIn i0 e (fun z=>nomatch z) h
 |bl y=>cases(show u=Value.bool y from rx);exact ie PySem.W.kitx_bool I.kIn i0 e (fun z=>nomatch z) h
 |int i=>obtain⟨t,q⟩:=(show ∃t,u=Value.int i t from rx);cases q;exact ie PySem.W.kitx_int I.kIn i0 e (fun z=>nomatch z) h
 |str y=>obtain⟨t,q⟩:=(show ∃t,u=Value.str y t from rx);cases q;exact ie PySem.W.kitx_str I.kIn i0 e (fun z=>nomatch z) h
 |flt y=>obtain⟨t,q⟩:=(show ∃t,u=Value.float y t from rx);cases q;exact ie PySem.W.kitx_float I.kIn i0 e (fun z=>nomatch z) h
 |@lst a xs ea =>
  cases(show u=Value.ref a from rx);obtain⟨_,_,n,_,h1⟩:=(show bW X.prog X.w X.K H s.heap a (.lst xs)from I.hok a _ ea);exact ie PySem.W.kitx_list I.kIn ⟨_,h1,rfl⟩ e (fun z=>nomatch z) h
 |@frz a ob xs ea =>
  cases(show u=Value.ref a from rx);obtain⟨_,_,_,n,_,h1⟩:=(show bW X.prog X.w X.K H s.heap a (.frz ob (.lst xs))from I.hok a _ ea);exact ie PySem.W.kitx_list I.kIn ⟨_,h1,rfl⟩ e (fun z=>nomatch z) h
 |@tup a xs ea =>
  cases(show u=Value.ref a from rx);obtain⟨_,_,_,p⟩:=(show bW X.prog X.w X.K H s.heap a (.tup xs)from I.hok a _ ea);obtain⟨o,h1,h2,_⟩:=p;exact ie PySem.W.kitx_tuple I.kIn ⟨o,h1,h2⟩ e (fun z=>nomatch z) h
 |@dK a kvs ea =>
  cases(show u=Value.ref a from rx);obtain⟨_,_,vs,_,p⟩:=(show bW X.prog X.w X.K H s.heap a (.dK kvs)from I.hok a _ ea);obtain⟨o,es,ep,h1,h2,_⟩:=p;exact ie PySem.W.kitx_dict I.kIn ⟨o,h1,h2.1⟩ e (fun z=>nomatch z) h
 |@dT a kvs ea =>
  cases(show u=Value.ref a from rx);obtain⟨_,_,xs,_,o,es,ep,h1,h2,_⟩:=(show bW X.prog X.w X.K H s.heap a (.dT kvs)from I.hok a _ ea);exact ie PySem.W.kitx_dict I.kIn ⟨o,h1,h2.1⟩ e (fun z=>nomatch z) h
 |@ins a C dx fs ea cl ha hn htk hm =>
  cases(show u=Value.ref a from rx);obtain⟨mA,O,_⟩:=n6 I.hok ea;obtain⟨od,J,_⟩:=O.look;exact ie (PySem.W.kitx_own (cl.get _) cl.hd ha hn htk hm) I.kIn J e (fun z=>nomatch z) h
end
end L2
namespace L2
open PySem PySem.Spec PyProof.Rows
structure dS(k:Nat)(A:Around):Prop where
 hd:A.handled=none
 dp:A.depth+3 * k+5<recursionLimit
 un:A.units+16 * k+200<cLine
theorem dS.mono{j k:Nat}{A:Around}(r:dS k A)(h:j<=k):dS j A:=⟨r.hd,by have:=r.dp;omega,by have:=r.un;omega⟩
theorem dS.deeper{k:Nat}{A:Around}(r:dS (k+1) A)(env:Env):dS k (A.deeper env) :=
 ⟨r.hd,by have:=r.dp;show A.depth+1+3 * k+5<_;omega,by have:=r.un;show A.units+3+16 * k+200<_;omega⟩
theorem v9{A:Around}{C:Addr}{us:Zf}{kw:List (Str×Value)}:(A.under (.builtin "type.__call__" ⟨.ref C::us,kw⟩)).depth=A.depth+1:=by
 first|rfl|simp[Around.under,Code.weight,Code.isCreation,Code.isGuard,Code.isCaller,Code.frames,Code.isFrame,guardIds]
theorem v8{A:Around}{C:Addr}{us:Zf}{kw:List (Str×Value)}:(A.under (.builtin "type.__call__" ⟨.ref C::us,kw⟩)).units=A.units+1:=by
 first|rfl|simp[Around.under,Code.cUnits,Code.frames,Code.isFrame]
theorem dS.make{k:Nat}{A:Around}(r:dS (k+1) A)(C:Addr)(us:Zf)(kw:List (Str×Value)):dS k (A.under (.builtin "type.__call__" ⟨.ref C::us,kw⟩)) :=
 ⟨r.hd,by have:=r.dp;rw[v9];omega,by have:=r.un;rw[v8];omega⟩
theorem dS.depth{k:Nat}{A:Around}(r:dS k A):A.depth<recursionLimit:=by have:=r.dp;omega
theorem dS.units{k:Nat}{A:Around}(r:dS k A):A.units+64<cLine:=by have:=r.un;omega
def be:TA:=fun _ H Q=>Q [] H
def ap(ta:TE)(tr:TA):TA:=fun σ H Q=>ta σ H fun x H1=>tr σ H1 fun xs H2=>Q (x::xs) H2
abbrev az(a:TE):TA:=ap a be
abbrev aM(a b:TE):TA:=ap a (ap b be)
abbrev dL(a b c:TE):TA:=ap a (ap b (ap c be))
section
variable{X:Cx}{e:Expr}{es:List Expr}{te:TE}{t:TA}{pos:Pos}
theorem bH:PA X [] be:=fun _ _ _ _ H Q I h=>Calls.spliced_nil ⟨[],H,I,.nil,h⟩
theorem bu(ha:PE X e te)(hr:PA X es t)(hs:aN (e::es) X.env=(false,eval e X.env)::aN es X.env:=by rfl):PA X (e::es) (ap te t):=by
 intro pos J5 s σ H Q I h;rw[hs];show wpAny _ _ (spliced ((false,eval e X.env)::backTo pos (aN es X.env))) _ _ s;refine Calls.spliced_cons (cj (ha J5 s σ H _ I h) fun u s1 zq0=>?_);obtain⟨x,H1,I1,r1,q1⟩:=zq0;exact cj (hr pos J5 s1 σ H1 _ I1 q1) fun us s2 ⟨xs,H2,I2,r2,q2⟩=>⟨x::xs,H2,I2,.cons r1 r2,q2⟩
def bf(t:TA):TE:=fun σ H Q=>t σ H fun xs H1=>xs.length<=ai/\∀p,H1 p=none->Q (.ref p) (upd H1 p (.tup xs))
def bY(t:TA):TE:=fun σ H Q=>t σ H fun xs H1=>xs.length<=ai/\∀p,H1 p=none->Q (.ref p) (upd H1 p (.lst xs))
theorem aI{x1}(h:PA X es t):PE X (.Tuple es x1 pos) (bf t):=by
 intro J5 s σ H Q I hq;refine wpAny_Tuple_spliced (cj (h pos J5 s σ H _ I hq) fun us s1 ⟨xs,H1,I1,r,z,q⟩=>⟨by rw[<-r.length];exact z,?_⟩);have hf:H1 s1.heap.objs.size=none:=I1.hok.fresh (ax _);refine⟨.ref s1.heap.objs.size,upd H1 s1.heap.objs.size (.tup xs),I1.laid (t':=s1.toks) (fun b u e=>aZ _ e) (ax _) ?_,rfl,q _ hf⟩;exact⟨z,us,r,⟨_,cK _ rfl,rfl,_,rfl⟩⟩
theorem aR(h:PA X es t):PE X (.List es pos) (bY t):=by
 intro J5 s σ H Q I hq;refine wpAny_List_spliced (cj (h pos J5 s σ H _ I hq) fun us s1 ⟨xs,H1,I1,r,z,q⟩=>⟨by rw[<-r.length];exact z,?_⟩);have hf:H1 s1.heap.objs.size=none:=I1.hok.fresh (ax _);refine⟨.ref s1.heap.objs.size,upd H1 s1.heap.objs.size (.lst xs),I1.laid (t':=s1.toks) (fun b u e=>aZ _ e) (ax _) ?_,rfl,q _ hf⟩;exact⟨z,us,0,r,cK _ rfl⟩
end
abbrev Sp:=List V->Hp->VK->XK->Prop
abbrev zL:=List Env->Hp->Shared->XK->Value->Shared->Prop
structure wP(P:bt)(w:World)(K:Za)(mg:Str->Option Value)(base:Heap)(A:Around)(outer:List Env)(s:Shared)(H:Hp):Prop where
 frames:A.frames=some outer
 mod:Mod K mg base
 bs:∀b o,base.get? b=some o->s.heap.get? b=some o/\H b=none
 bsz:base.objs.size<=s.heap.objs.size
 funs:s.heap.FunFrames base outer
 frf:∀b∈zI outer,H b=none
 hok:j6 P w K H s.heap
 bare:kR s.gens
def CE(outer:List Env)(P:bt)(w:World)(K:Za)(H:Hp)(s:Shared)(Q:VK)(u:Value)(s':Shared):Prop :=
 ∃v H',s'.os=s.os/\kR s'.gens/\Un (zI outer) [] H H' s.heap s'.heap/\j6 P w K H' s'.heap/\RelV v u/\Q v H'
def CR(CX:zL)(outer:List Env)(P:bt)(w:World)(K:Za)(H:Hp)(s:Shared)(Q:VK)(E:XK)(r:Result)(s':Shared):Prop :=
 match r with
 |.ok (.ret u)=>CE outer P w K H s Q u s'
 |.ok _=>False
 |.error e=>CX outer H s E e s'
structure jZ(P:bt)(w:World)(K:Za)(mg:Str->Option Value)(base:Heap)(CX:zL)(k:Nat)(f:Addr)(fd:iZ)(ps:Zb)(sp:Sp):Prop where
 len:∀vs H Q E,sp vs H Q E->vs.length=ps.length
 run:∀(A:Around) (outer:List Env) (s:Shared) (H:Hp) (args:Args) (us:Zf) (vs:List V) (Q:VK) (E:XK),dS k A->wP P w K mg base A outer s H->oh s fd args (ps.zip us)->aV vs us->sp vs H Q E ->
  zzl77 (model P w) A (.call (.ref f) args) (CR CX outer P w K H s Q E) s
theorem wP.make{P:bt}{w:World}{K:Za}{mg:Str->Option Value}{base:Heap}{A:Around}{outer:List Env}{s:Shared}{H:Hp}(e:wP P w K mg base A outer s H)(C:Addr)(us:Zf)(kw:List (Str×Value)):
  wP P w K mg base (A.under (.builtin "type.__call__" ⟨.ref C::us,kw⟩)) outer s H:=⟨by first|exact e.frames|(simpa[Around.under,Code.envs,Code.isFrame,pushEnvs]using e.frames),e.mod,e.bs,e.bsz,e.funs,e.frf,e.hok,e.bare⟩
section
variable{X:Cx}{J5:Zd}{σ:St}{H:Hp}{s s':Shared}
theorem Inv.env0(I:Inv X J5 σ H s):wP X.prog X.w X.K X.mg X.base X.A X.stack s H :=
 ⟨I.ok.frames,I.ok.mod,I.bs,aW I.ok.bsz I.sz,I.stack,I.stkFree,I.hok,I.bare⟩
theorem Inv.after{Q:VK}{u:Value}(I:Inv X J5 σ H s)(h:CE X.stack X.prog X.w X.K H s Q u s'):EP X J5 σ Q u s':=by
 obtain⟨v,H',os,bare,un,hok,r,q⟩:=h;obtain⟨hh,g,d,t,os'⟩:=s';obtain rfl:os'=s.os:=os;exact⟨v,H',I.call (h':=hh) (g':=g) (d':=d) (t':=t) (ch:=[]) un hok bare (fun b z=>absurd z (by simp)),r,q⟩
end
def Co(sp:Sp)(dvs:List V)(E:XK)(t:TA):TE:=fun σ H Q=>t σ H fun vs H1=>sp (vs++dvs) H1 Q E
def ui(C:Addr)(m:Str)(sp:Sp)(dvs:List V)(E:XK)(ta:TE)(t:TA):TE:=fun σ H Q=>ta σ H fun x H1=>∃a dx fs,x=.ref a/\H1 a=some (.ins C dx fs)/\fs.lookup m=none /\
 t σ H1 fun vs H2=>sp (x::(vs++dvs)) H2 Q E
def z0(C:Addr)(sp:Sp)(dvs:List V)(E:XK)(t:TA):TE:=fun σ H Q=>t σ H fun vs H1=>∀x dx,H1 x=none->H1 dx=none->dx≠x ->
 sp (.ref x::(vs++dvs)) (upd (upd H1 dx (.own x)) x (.ins C dx [])) (fun v H2=>v=.non/\Q (.ref x) H2) E
def Binds(K:Za)(fd:iZ)(ps:Zb)(ds:Zf):Prop :=
 ∀(s:Shared) (us:Zf),K.In s.heap->(us++ds).length=ps.length->oh s fd ⟨us,[]⟩ (ps.zip (us++ds))
theorem Binds.all{K:Za}{fd:iZ}{ps:Zb}(h:∀us:List Value,us.length=ps.length->bindArgs fd ⟨us,[]⟩=pure (ps.zip us)):Binds K fd ps []:=fun s us _ hl=>by
 rw[dD]at hl ⊢;exact .of_eq (h us hl)
def mN(CX:zL)(X:Cx)(E:XK):Prop:=∀(J5:Zd) (σ:St) (H:Hp) (s:Shared) (e:Value) (s':Shared),Inv X J5 σ H s->CX X.stack H s E e s'->X.xe e s'
section
variable{X:Cx}{CX:zL}{k:Nat}{f C:Addr}{fd:iZ}{ps:Zb}{sp:Sp}{dvs:List V}{ds:Zf}{E:XK}{x m:Str}{p pos J7:Pos}{e o:Expr}{es:List Expr}{ta:TE}{t:TA}
theorem z_{J5:Zd}{σ:St}{H:Hp}{s:Shared}{Q:VK}{us:Zf}{vs:List V}(F:jZ X.prog X.w X.K X.mg X.base CX k f fd ps sp)(hr:dS k X.A)(hb:Binds X.K fd ps ds)(hd:aV dvs ds)(hx:mN CX X E)
  (I:Inv X J5 σ H s) (r:aV vs us) (h:sp (vs++dvs) H Q E):wpAny (model X.prog X.w) X.A (call (.ref f) us) (EP X J5 σ Q) X.xe s:=by
 have r2:aV (vs++dvs) (us++ds):=r.append hd;have hl:(us++ds).length=ps.length:=by rw[<-r2.length];exact F.len _ _ _ _ h
 refine wpAny_call (wU (F.run X.A X.stack s H ⟨us,[]⟩ (us++ds) (vs++dvs) Q E hr I.env0 (hb s us I.kIn hl) r2 h) fun r s' hq=>?_);cases r with
 |error e=>exact hx J5 σ H s e s' I hq
 |ok fl =>
  cases fl with
  |ret u=>exact I.after hq
  |next=>exact ii hq
  |brk=>exact ii hq
  |cont=>exact ii hq
theorem BR(F:jZ X.prog X.w X.K X.mg X.base CX k f fd ps sp)(hr:dS k X.A)(hg:Gl X x)(hm:X.mg x=some (.ref f))(hk:ig X.K (.ref f)=true)(hb:Binds X.K fd ps ds)(hd:aV dvs ds)(hx:mN CX X E)
  (ha:PA X (e::es) t) (hdb:(x==("__debug__":Str))=false:=by decide) (he:aN (e::es) X.env=(false,eval e X.env)::aN es X.env:=by rfl) (hpl:(backTo pos (aN es X.env)).any (·.1)=false:=by rfl) :
  PE X (.Call (.Name x p) (e::es) [] pos) (Co sp dvs E t):=by
 intro J5 s σ H Q I h;refine wS (sN I hg hm ?_ hdb);refine PySem.W.callWith_K (h₀:=X.base) I.ok.mod.kin hk (cj (ha pos J5 s σ H _ I h) fun us s1 ⟨vs,H1,I1,r,q⟩=>⟨I1.kIn,?_⟩) he hpl;exact z_ F hr hb hd hx I1 r q
theorem Aq{pl:Sem Bool}(he:PE X o ta)(c:zK X.K C)(hm:Dg X.K C m f)(F:jZ X.prog X.w X.K X.mg X.base CX k f fd ps sp)(hr:dS k X.A)(hb:Binds X.K fd ps ds)(hd:aV dvs ds)(hx:mN CX X E)
  (ht:eval (.Call (.Attribute o m J7) [] [] pos) X.env=(do
   let ov <- eval o X.env
   t4 J7.atName
   let(f,first) <- m7 [ov] (tV ov m pl)
   callWith pos f first (backTo pos (aN [] X.env)) (tS pos (tR [] X.env))):=by rfl) :
  PE X (.Call (.Attribute o m J7) [] [] pos) (ui C m sp dvs E ta be):=by
 intro J5 s σ H Q I h;refine PySem.W.methodCall_KW (pl:=pl) (cj (he J5 s σ H _ I h) fun u s1 zq0=>?_) ht;obtain⟨x,H1,I1,rx,a,dx,fs,ex,ea,l,q⟩:=zq0;subst ex;obtain rfl:u=Value.ref a:=rx;refine wm I1 ea c hm l ?_;exact PySem.W.callWith_K0 (first:=[.ref a]) I1.kIn hm.kp (z_ (us:=[.ref a]) (vs:=[.ref a]) F hr hb hd hx I1 (.cons rfl .nil) q)
structure Mk(K:Za)(C f:Addr):Prop where
 makes:tU K C=true
 init:dA K (.ref C) "__init__"=some (some (.ref f))
 fn:tW K (.ref f)=true
 kp:ig K (.ref C)=true
theorem z9{J5:Zd}{σ:St}{H:Hp}{s:Shared}{Q:VK}{us:Zf}{vs:List V}(M:Mk X.K C f)(F:jZ X.prog X.w X.K X.mg X.base CX k f fd ps sp)(hr:dS (k+1) X.A)(hb:Binds X.K fd ps ds)(hd:aV dvs ds)
  (hx:mN CX X E) (I:Inv X J5 σ H s) (r:aV vs us)
  (h:∀x dx,H x=none->H dx=none->dx≠x->sp (.ref x::(vs++dvs)) (upd (upd H dx (.own x)) x (.ins C dx [])) (fun v H2=>v=.non/\Q (.ref x) H2) E) :
  wpAny (model X.prog X.w) X.A (call (.ref C) us) (EP X J5 σ Q) X.xe s:=by
 have hq:=h (s.heap.objs.size+1) s.heap.objs.size (I.hok.fresh (tQ _)) (I.hok.fresh (ax _)) (b_ (wW _));have I2:=Inv.made (C:=C) I;have r2:aV (V.ref (s.heap.objs.size+1)::(vs++dvs)) (Value.ref (s.heap.objs.size+1)::(us++ds)):=.cons rfl (r.append hd);have hl:(Value.ref (s.heap.objs.size+1)::us++ds).length=ps.length:=by
  have e:=r2.length;rw[F.len _ _ _ _ hq]at e;exact e.symm
 refine wpAny_call (AA (f:=f) I.kIn M.makes M.init (beq_iff_eq.mp M.fn) (wU (F.run _ X.stack _ _ ⟨Value.ref (s.heap.objs.size+1)::us,[]⟩ (Value.ref (s.heap.objs.size+1)::(us++ds)) _ _ E (hr.make C us [])
  (I2.env0.make C us []) (hb _ (Value.ref (s.heap.objs.size+1)::us) I2.kIn hl) r2 hq) fun r s' hq'=>?_))
 cases r with
 |error e=>exact hx J5 σ _ _ e s' I2 hq'
 |ok fl =>
  cases fl with
  |ret u =>
   obtain⟨v,H',I3,rv,ev,q3⟩:=I2.after hq';subst ev;exact⟨rv,⟨V.ref (s.heap.objs.size+1),H',I3,rfl,q3⟩⟩
  |next=>exact ii hq'
  |brk=>exact ii hq'
  |cont=>exact ii hq'
theorem BO(M:Mk X.K C f)(F:jZ X.prog X.w X.K X.mg X.base CX k f fd ps sp)(hr:dS (k+1) X.A)(hg:Gl X x)(hm:X.mg x=some (.ref C))(hb:Binds X.K fd ps ds)(hd:aV dvs ds)(hx:mN CX X E)
  (ha:PA X (e::es) t) (hdb:(x==("__debug__":Str))=false:=by decide) (he:aN (e::es) X.env=(false,eval e X.env)::aN es X.env:=by rfl) (hpl:(backTo pos (aN es X.env)).any (·.1)=false:=by rfl) :
  PE X (.Call (.Name x p) (e::es) [] pos) (z0 C sp dvs E t):=by
 intro J5 s σ H Q I h;refine wS (sN I hg hm ?_ hdb);refine PySem.W.callWith_K (h₀:=X.base) I.ok.mod.kin M.kp (cj (ha pos J5 s σ H _ I h) fun us s1 ⟨vs,H1,I1,r,q⟩=>⟨I1.kIn,?_⟩) he hpl;exact z9 M F hr hb hd hx I1 r q
end
structure iU(N P:Zb)(sc:Scope):Prop where
 kind:sc.kind=.function
 co:sc.isCoroutine=false
 gen:sc.isGenerator=false
 nd:N.Nodup
 pre:N.take P.length=P
 par:∀x∈P,sc.names.lookup x=some .local∨sc.names.lookup x=some .cell
 nofree:∀y∈sc.names,y.2≠.free
theorem rc{kindOf:Str->Option ic}{x:Str}:∀{binds:List (Str×Value)}{m:Str->Option Value},(∀v,(x,v)∉binds)->bindL kindOf binds m x=m x
 |[],_,_=>rfl
 | (n,v)::r,m,h=>by
  unfold bindL;rw[rc fun w hw=>h w (fx _ hw)];split
  ·have:x≠n:=by rintro rfl;exact h v eR
   simp[this]
  ·rfl
theorem rf{kindOf:Str->Option ic}{x:Str}:∀{binds:List (Str×Value)}{m:Str->Option Value},(∀v,(x,v)∉binds)->bindC kindOf binds m x=m x
 |[],_,_=>rfl
 | (n,v)::r,m,h=>by
  unfold bindC;rw[rf fun w hw=>h w (fx _ hw)];split
  ·rfl
  ·have:x≠n:=by rintro rfl;exact h v eR
   simp[this]
theorem re{kindOf:Str->Option ic}{x:Str}{v:Value}:∀{P:Zb}{vs:Zf}{i:Nat}{m:Str->Option Value},P.Nodup->P[i]?=some x->vs[i]?=some v->kindOf x=some .local ->
  bindL kindOf (P.zip vs) m x=some v
 |[],_,_,_,_,h,_,_=>by simp at h
 |_::_,[],_,_,_,_,h,_=>by simp at h
 |p::P,w::vs,0,m,nd,h1,h2,hk=>by
  simp at h1 h2;subst h1;subst h2;show bindL kindOf ((p,w)::P.zip vs) m p=_;unfold bindL;rw[rc fun v hv=>(og.mp nd).1 (List.of_mem_zip hv).1,if_pos hk];simp
 |p::P,w::vs,i+1,m,nd,h1,h2,hk=>by
  show bindL kindOf ((p,w)::P.zip vs) m x=_;unfold bindL;exact re (i:=i) (og.mp nd).2 (by simpa using h1) (by simpa using h2) hk
theorem rg{kindOf:Str->Option ic}{x:Str}{v:Value}:∀{P:Zb}{vs:Zf}{i:Nat}{m:Str->Option Value},P.Nodup->P[i]?=some x->vs[i]?=some v->kindOf x≠some .local ->
  bindC kindOf (P.zip vs) m x=some v
 |[],_,_,_,_,h,_,_=>by simp at h
 |_::_,[],_,_,_,_,h,_=>by simp at h
 |p::P,w::vs,0,m,nd,h1,h2,hk=>by
  simp at h1 h2;subst h1;subst h2;show bindC kindOf ((p,w)::P.zip vs) m p=_;unfold bindC;rw[rf fun v hv=>(og.mp nd).1 (List.of_mem_zip hv).1,if_neg hk];simp
 |p::P,w::vs,i+1,m,nd,h1,h2,hk=>by
  show bindC kindOf ((p,w)::P.zip vs) m x=_;unfold bindC;exact rg (i:=i) (og.mp nd).2 (by simpa using h1) (by simpa using h2) hk
def start(N:Zb)(vs:List V):St:=vs.map some++n_ (N.length-vs.length) none
def wA(CX:zL)(P:bt)(w:World)(K:Za)(mg:Str->Option Value)(base:Heap)(N:Zb)(qual:Str)(scope:Scope)(f:Addr)(cd:Value)(A:Around)(outer:List Env)(s:Shared)(H:Hp)(E:XK):Cx where
 prog:=P
 w:=w
 K:=K
 mg:=mg
 base:=base
 A:=A.deeper (envOfC qual scope s.heap.objs.size f cd)
 N:=N
 s₀:=s
 H₀:=H
 env:=envOfC qual scope s.heap.objs.size f cd
 outer:=outer
 stack:=envOfC qual scope s.heap.objs.size f cd::outer
 ex:=[]
 calm:=true
 fn:=fun _=>true
 pn:=[]
 xe:=fun e s'=>wpAny (model P w) (A.deeper (envOfC qual scope s.heap.objs.size f cd)) (leaving (envOfC qual scope s.heap.objs.size f cd) e) (fun _ s''=>CX outer H s E e s'') (fun e' s''=>CX outer H s E e' s'') s'
theorem u5{sc:Scope}{n:Nat}{x:Str}(h:sc.names.lookup x=some .cell):∃c,(cellsFrom n sc.names []).lookup x=some c:=by
 have q:=PySem.W.cellsFrom_some sc.names n [] (.inl h);exact wR.mp q
theorem y0{CX:zL}{P:bt}{w:World}{K:Za}{mg:Str->Option Value}{base:Heap}{N ps:Zb}{qual:Str}{scope:Scope}{f:Addr}{cd:Value}{A:Around}{outer:List Env}{s s1:Shared}{H:Hp}{E:XK}{us:Zf}{vs:List V}
  (S:iU N ps scope) (hd:A.handled=none) (e0:wP P w K mg base A outer s H) (hl:vs.length=ps.length) (r:aV vs us)
  (x:InCallC s s.heap.objs.size (bindL (envOfC qual scope s.heap.objs.size f cd).kindOf (ps.zip us) fun _=>none) (cellsFrom (s.heap.objs.size+1) scope.names []) (bindC (envOfC qual scope s.heap.objs.size f cd).kindOf (ps.zip us) fun _=>none) s1) :
  Inv (wA CX P w K mg base N qual scope f cd A outer s H E) [] (start N vs) H s1:=by
 have hpl:ps.length<=N.length:=by have:=congrArg List.length S.pre;rw[aF]at this;omega
 obtain⟨h1,tk,rfl,hk⟩:=x.done;have noA:∀b:Addr,b∉(wA CX P w K mg base N qual scope f cd A outer s H E).ex:=fun b z=>absurd (show b∈([]:Ze)from z) (by simp);refine⟨⟨e0.mod,S.kind,rfl,rfl,ax _,fun y z c h1 h2=>?_,fun y hy=>?_,fun y c _ h=>?_,fun _=>hd,Around.frames_deeper e0.frames,.inr ⟨rfl,rfl⟩,fun b z=>absurd z (noA b),e0.bs,e0.bsz,fun b _ _=>noA b,fun b z=>absurd z (noA b),e0.funs,e0.frf⟩,
  rfl,e0.bare,Un.kept hk,⟨_,x.toInCall.ns,fun i y v h1 h2 h3=>?_⟩,fun y c h=>⟨_,x.cell y c h⟩,e0.hok.fresh (ax _),fun y c h=>?_,fun p hp=>absurd (show p∈([]:Zd)from hp) (by simp),e0.hok.kept hk,?_⟩
 ·exact name_of_addr x.apart (oO h1) (oO h2)
 ·have hy:scope.names.lookup y=some .cell∨scope.names.lookup y=some .free:=hy;rcases hy with hy|hy
  ·exact u5 hy
  ·exact absurd rfl (S.nofree _ (oO hy))
 ·exact cp (x.above y c (oO h))
 ·have hi:i<vs.length:=by
   unfold start at h2;by_cases hi:i<vs.length
   ·exact hi
   ·rw[oN (by simpa using hi)]at h2;rw[List.getElem?_replicate]at h2;split at h2<;>cases h2
  have ha:vs[i]?=some v:=by
   unfold start at h2;rw[oM (by simpa using hi),ej]at h2;cases e:vs[i]? with
   |none=>rw[e]at h2;cases h2
   |some a=>rw[e]at h2;cases h2;rfl
  obtain⟨u,hu,rv⟩:=r.get ha;have hp:ps[i]?=some y:=by
   rw[<-S.pre,List.getElem?_take_of_lt (by omega)];exact h1
  have ndP:ps.Nodup:=by rw[<-S.pre];exact S.nd.sublist (List.take_sublist _ _)
  refine⟨u,rv,?_⟩;rcases S.par y (cg hp)with k|k
  ·exact .inl ⟨k,re ndP hp hu k⟩
  ·obtain⟨c,e⟩:=u5 (n:=s.heap.objs.size+1) k;refine .inr ⟨.inl k,c,e,?_⟩;have q:=x.cell y c e;rw[rg ndP hp hu (by show scope.names.lookup y≠_;rw[k];decide)]at q;exact q
 ·exact e0.hok.fresh (cp (x.above y c (oO h)))
 ·unfold start;show _=N.length;rw[aH,ak,List.length_replicate];omega
theorem DH{CX:zL}{P:bt}{w:World}{K:Za}{mg:Str->Option Value}{base:Heap}{k:Nat}{f:Addr}{name qual:Str}{params:Arguments}{body:List Stmt}{scope:Scope}{dV kV doc pm cdv ct oc:Value}{an od:Option Addr}
  {osl:Array (Option Value)}{N ps:Zb}{sp:Sp}(lk:K.lookup f=some ⟨oc,od,.func (gh name qual params body scope dV kV doc pm an cdv ct),osl⟩) (hcd:kg K cdv qual=true) (S:iU N ps scope)
  (len:∀vs H Q E,sp vs H Q E->vs.length=ps.length)
  (hbody:∀(A:Around) (outer:List Env) (s:Shared) (H:Hp) (vs:List V) (Q:VK) (E:XK),dS k (A.deeper (envOfC qual scope s.heap.objs.size f cdv))->sp vs H Q E ->
   ∃t,vk (wA CX P w K mg base N qual scope f cdv A outer s H E) body t/\t (bx Q) (start N vs) H) :
  jZ P w K mg base CX (k+1) f (gh name qual params body scope dV kV doc pm an cdv ct) ps sp:=by
 refine⟨len,fun A outer s H args us vs Q E hr e0 hb r hsp=>?_⟩;have hl:=len _ _ _ _ hsp;have KX:K.In s.heap:=e0.mod.kin.keeps fun b o e=>(e0.bs b o e).1;have lim:s.heap.NoLimit:=e0.mod.nolimit.keeps fun b o e=>(e0.bs b o e).1;have hkind:∀y∈ps.zip us,scope.names.lookup y.1=some .local∨(scope.names.lookup y.1=some .cell/\((cellsFrom (s.heap.objs.size+1) scope.names []).lookup y.1).isSome=true):=fun⟨n,v⟩ hy=>by
  rcases S.par n (List.of_mem_zip hy).1 with q|q
  ·exact .inl q
  ·exact .inr ⟨q,PySem.W.cellsFrom_some _ _ _ (.inl q)⟩
 refine codeAny_call_function hr.depth (KX _ _ lk) rfl S.co S.gen rfl (PySem.W.codeRec_of KX hcd) (hb _ _ _ _ ?_);refine wpAny_newFunctionEnv_cells S.kind hkind fun env he s1 x=>?_;subst he;refine⟨lim.keeps x.toInCall.keep,codeAny_func ?_⟩;obtain⟨t,ht,hq⟩:=hbody A outer s H vs Q E (hr.deeper _) hsp;have I:Inv (wA CX P w K mg base N qual scope f cdv A outer s H E) [] (start N vs) H s1:=y0 S hr.hd e0 hl r x;refine jO (ht [] s1 (start N vs) H _ I hq) (fun fl s' hs=>?_) fun e s' hs=>hs;have fin:∀{σ':St}{H':Hp}{v:V}{u:Value},Inv (wA CX P w K mg base N qual scope f cdv A outer s H E) [] σ' H' s'->RelV v u->Q v H'->CE outer P w K H s Q u s' :=
  fun{σ' H' v u} J rv q=>⟨v,H',J.os,J.bare,J.base,J.hok,rv,q⟩
 cases fl with
 |ret u =>
  obtain⟨v,σ',H',J,rv,q⟩:=hs;exact fin J rv q
 |next =>
  obtain⟨σ',H',J,q⟩:=hs;exact fin (v:=V.non) (u:=Value.none) J rfl q
 |brk =>
  obtain⟨_,_,_,q⟩:=hs;exact ii q
 |cont =>
  obtain⟨_,_,_,q⟩:=hs;exact ii q
end L2
namespace L2
open PySem PySem.Spec PyProof.Rows
section
variable{X:Cx}{x:Str}{p pos:Pos}{e:Expr}{es:List Expr}{t:TA}{id T:String}{r:List V->Hp->VK->Prop}
def dE(r:List V->Hp->VK->Prop)(t:TA):TE:=fun σ H Q=>t σ H fun vs H1=>r vs H1 Q
theorem uC(hc:eM X (.builtin id) r)(hg:Gl X x)(hm:X.mg x=none)(hv:gb x=some (.builtin id))(ha:PA X (e::es) t)(hn:x≠"__name__":=by decide)(hdb:(x==("__debug__":Str))=false:=by decide)
  (he:aN (e::es) X.env=(false,eval e X.env)::aN es X.env:=by rfl) (hpl:(backTo pos (aN es X.env)).any (·.1)=false:=by rfl):PE X (.Call (.Name x p) (e::es) [] pos) (dE r t):=by
 intro J5 s σ H Q I h;refine wS (kD I hg hm hv ?_ hn hdb);exact PyProof.Rows.callWith_builtin1 (cj (ha pos J5 s σ H _ I h) fun us s1 ⟨vs,H1,I1,r1,q1⟩=>hc J5 s1 σ H1 vs us Q I1 r1 q1) he hpl
theorem fZ(hc:eM X (.type T) r)(hg:Gl X x)(hm:X.mg x=none)(hv:gb x=some (.type T))(ha:PA X (e::es) t)(hn:x≠"__name__":=by decide)(hdb:(x==("__debug__":Str))=false:=by decide)
  (he:aN (e::es) X.env=(false,eval e X.env)::aN es X.env:=by rfl) (hpl:(backTo pos (aN es X.env)).any (·.1)=false:=by rfl):PE X (.Call (.Name x p) (e::es) [] pos) (dE r t):=by
 intro J5 s σ H Q I h;refine wS (kD I hg hm hv ?_ hn hdb);exact t3 (cj (ha pos J5 s σ H _ I h) fun us s1 ⟨vs,H1,I1,r1,q1⟩=>hc J5 s1 σ H1 vs us Q I1 r1 q1) he hpl
end
end L2
namespace HT
open PySem PyProof.Rows
def lexLt:List Int->List Int->Bool
 |[],[]=>false
 |[],_::_=>true
 |_::_,[]=>false
 |x::xs,y::ys=>if x=y then lexLt xs ys else decide (x<y)
theorem lexLt_cons(x y:Int)(xs ys:List Int):lexLt (x::xs) (y::ys)=if x=y then lexLt xs ys else decide (x<y):=rfl
theorem lexLt_nil_nil:lexLt [] []=false:=rfl
theorem lexLt_nil_cons(y:Int)(ys:List Int):lexLt [] (y::ys)=true:=rfl
theorem lexLt_cons_nil(x:Int)(xs:List Int):lexLt (x::xs) []=false:=rfl
theorem eqAt_int(A:Around)(s:Shared)(a:Int)(t:Tok)(c:Int)(u:Tok):∃e,aU A s (.int a t) (.int c u) e/\(e=true↔a=c) :=
 ⟨(a==c),aU.int_int a t c u,by simp⟩
theorem rcLt_int(A:Around)(s:Shared)(a:Int)(t:Tok)(c:Int)(u:Tok)(prog:bt)(w:World)(E:Zc)(Q:Zc)(h:Q (.bool (decide (a<c))) s):
  wpAny (model prog w) A (richCompare .Lt (.int a t) (.int c u)) Q E s :=
 (PyProof.Rows.lt_int h:wpAny (model prog w) A (cL .Lt (.int a t) (.int c u)) Q E s)
section
open PySem.SeqAt
open PySem.AutoSeq1 (wpAny_loadPart')
open PySem.MeetsSeq PySem.MeetsSeq2 PySem.MeetsSeq3
theorem tuple_lt_ints(l b:Addr)(items items2:Array Value)(n n2:Nat)(dd dd2:Option Addr)(sl sl2:Array (Option Value))(ns ms:List Int)(hi:ei items.toList ns)(hj:ei items2.toList ms):
  Meets (cz.«tuple.__lt__» ⟨[.ref l,.ref b],[]⟩)
   (fun _ R s=>s.heap.get? l=some { cls:=.type "tuple",dict:=dd,data:=.seq items n,slots:=sl }/\s.heap.get? b=some { cls:=.type "tuple",dict:=dd2,data:=.seq items2 n2,slots:=sl2 } /\
    R (.ok (.ret (.bool (lexLt ns ms)))) s) :=
 .of_wp fun prog w A R s h=>by
  obtain⟨hp,g,d,tk,os⟩:=s;obtain⟨hl,hb,h⟩:=h;have f2:=AutoSeq1.sub_tuple_tuple;have z1:items.size=ns.length:=by rw[<-hi.length];simp
  have z2:items2.size=ms.length:=by rw[<-hj.length];simp
  wp_walk using wpAny_loadPart' hl,wpAny_loadPart' hb,Bo _ (fun rest b s'=>b.1=none/\s'=⟨hp,g,d,tk,os⟩/\∃(vs ws:Zf) (ns' ms':List Int),rest=vs.zip ws /\
   ei vs ns'/\ei ws ms'/\ns'.length+items2.size=ms'.length+items.size/\R (.ok (.ret (.bool (lexLt ns' ms')))) ⟨hp,g,d,tk,os⟩) _
  case turn =>
   rintro⟨y,x⟩ rest b s' ⟨hb',rfl,vs,ws,ns',ms',hz,hvi,hwi,hlen,hR⟩;cases hvi with
   |nil=>rw[List.zip_nil_left]at hz;cases hz
   |cons a t hvi' =>
    cases hwi with
    |nil=>rw[List.zip_nil_right]at hz;cases hz
    |cons c u hwi' =>
     rw[xf]at hz;injection hz with hyx hrest;injection hyx with hy hx;subst hy hx;rw[lexLt_cons]at hR;simp only[cW]at hlen;obtain⟨e,he,hiff⟩:=eqAt_int A.in1 ⟨hp,g,d,tk,os⟩ a t c u;refine am (he prog w _ _ ?_);cases e with
     |true =>
      rw[if_pos (hiff.mp rfl)]at hR
      wp_walk
      exact⟨rfl,rfl,_,_,_,_,hrest,hvi',hwi',by omega,hR⟩
     |false =>
      rw[if_neg (fun q=>absurd (hiff.mpr q) f_)]at hR;have hri:=rcLt_int A.in1 ⟨hp,g,d,tk,os⟩ a t c u prog w
      wp_walk using hri
      exact⟨_,rfl,by simpa using hR⟩
  case fin =>
   rintro⟨b1,b2⟩ s' ⟨hb',rfl,vs,ws,ns',ms',hz,hvi,hwi,hlen,hR⟩;simp only at hb';subst hb';have hv:lexLt ns' ms'=decide (items.size<items2.size):=by
    cases hvi with
    |nil =>
     cases hwi with
     |nil =>
      simp only[mh]at hlen;rw[lexLt_nil_nil];exact(zzr0 (by omega)).symm
     |cons c u hw =>
      simp only[mh,cW]at hlen;rw[lexLt_nil_cons];exact(zzr1 (by omega)).symm
    |cons a t hv =>
     cases hwi with
     |nil =>
      simp only[mh,cW]at hlen;rw[lexLt_cons_nil];exact(zzr0 (by omega)).symm
     |cons c u hw =>
      rw[xf]at hz;cases hz
   rw[hv]at hR
   wp_walk
   exact⟨_,rfl,by simpa[cz.Tuple.tupleCompareSizes]using hR⟩
  case h =>
   exact⟨rfl,rfl,items.toList,items2.toList,ns,ms,rfl,hi,hj,by omega,h⟩
end
section
variable{prog:bt}{w:World}{A:Around}{E:Zc}{s:Shared}
theorem lt_tupInts{l b:Addr}{items items2:Array Value}{ns ms:List Int}{Q:Zc}(hl:IsTup s.heap l items)(hb:IsTup s.heap b items2)(hi:ei items.toList ns)(hj:ei items2.toList ms)
  (hu:A.units<cLine) (h:Q (.bool (lexLt ns ms)) s):wpAny (model prog w) A (cL .Lt (.ref l) (.ref b)) Q E s:=by
 obtain⟨⟨cls,dd,data,sl⟩,ho,hc,n,hd⟩:=id hl;obtain⟨⟨cls2,dd2,data2,sl2⟩,ho2,hc2,n2,hd2⟩:=id hb;simp only at hc hd hc2 hd2;subst hc hd hc2 hd2;exact richCompare_meets_room (op:=.Lt) ⟨_,ho,rfl⟩ ⟨_,ho2,rfl⟩ PySem.F.slot_tuple_lt PySem.F.entry_tuple_lt (PySem.F.args_tuple_lt_2 _ _) (tuple_lt_ints l b items items2 n n2 dd dd2 sl sl2 ns ms hi hj)
  ⟨ho,ho2,show Value.bool (lexLt ns ms)≠Value.notImplemented/\Q (.bool (lexLt ns ms)) s from⟨(fun x=>nomatch x),h⟩⟩ hu
theorem cat_tup{t b:Addr}{vs ws:Zf}{Q:Zc}(ht:IsTup s.heap t vs.toArray)(hb:IsTup s.heap b ws.toArray)(hv:vs≠[])
  (h1:ws=[]->Q (.ref t) s) (h2:ws≠[]->Q (.ref s.heap.objs.size) { s with heap:=s.heap.push { cls:=.type "tuple",data:=.seq (vs++ws).toArray } })
  (hsz:vs.length+ws.length<=ai):wpAny (model prog w) A (i3 .Add (.ref t) (.ref b)) Q E s:=by
 obtain⟨⟨cls,dd,data,sl⟩,ho,hc,n,hd⟩:=id ht;obtain⟨⟨cls2,dd2,data2,sl2⟩,ho2,hc2,n2,hd2⟩:=id hb;simp only at hc hd hc2 hd2;subst hc hd hc2 hd2;have e:vs.toArray++ws.toArray=(vs++ws).toArray:=by simp
 by_cases hw:ws=[]
 ·exact concat_meets ⟨_,ho,rfl⟩ ⟨_,ho2,rfl⟩ noFill_tuple_add seq_tuple_add PySem.F.slot_tuple_add PySem.F.entry_tuple_add (PySem.F.args_tuple_add_2 _ _)
   (tuple_addW1 t b vs.toArray ws.toArray n n2 dd dd2 sl sl2 (by simpa using hv) (by simp[hw])) ⟨ho,ho2,h1 hw⟩
 ·refine concat_meets ⟨_,ho,rfl⟩ ⟨_,ho2,rfl⟩ noFill_tuple_add seq_tuple_add PySem.F.slot_tuple_add PySem.F.entry_tuple_add (PySem.F.args_tuple_add_2 _ _)
   (tuple_addW2 t b vs.toArray ws.toArray n n2 dd dd2 sl sl2 (by simpa using hv) (by simpa using hw) (by rw[bD,bD];exact hsz)) ⟨ho,ho2,?_⟩
  rw[e];exact h2 hw
def sIx(n d:Nat):Option Int->Nat
 |none=>d
 |some v=>if v<0 then(v+(n:Int)).toNat else min v.toNat n
theorem sIx_none(n d:Nat):sIx n d none=d:=rfl
theorem sIx_nat(n d k:Nat):sIx n d (some (k:Int))=min k n:=by
 show(if(k:Int)<0 then((k:Int)+(n:Int)).toNat else min (k:Int).toNat n)=min k n
 rw[if_neg (by omega),mf]
theorem sIx_le(n d:Nat)(hd:d<=n)(o:Option Int):sIx n d o<=n:=by
 cases o with
 |none=>exact hd
 |some v =>
  show(if v<0 then(v+(n:Int)).toNat else min v.toNat n)<=n
  by_cases hv:v<0
  ·rw[if_pos hv];omega
  ·rw[if_neg hv];exact Nat.min_le_right _ _
theorem clip_eq(v:Int)(n d:Nat):(if v<0 then max (v+(n:Int)) 0 else min v (n:Int))=((sIx n d (some v):Nat):Int):=by
 show(if v<0 then max (v+(n:Int)) 0 else min v (n:Int))=(((if v<0 then(v+(n:Int)).toNat else min v.toNat n):Nat):Int)
 by_cases hv:v<0
 ·simp only[if_pos hv];omega
 ·simp only[if_neg hv];omega
end
end HT
namespace L2
open PySem PySem.Spec PyProof.Rows
abbrev TO:=St->Hp->(Option Int->Hp->Prop)->Prop
def PO(X:Cx)(e:Option Expr)(t:TO):Prop :=
 ∀(J5:Zd) (s:Shared) (σ:St) (H:Hp) (Q:Option Int->Hp->Prop),Inv X J5 σ H s->t σ H Q ->
  wpAny (model X.prog X.w) X.A (evalPart e X.env) (fun u s'=>∃o H',Inv X J5 σ H' s'/\IsPart u o/\Q o H') X.xe s
def dI:TO:=fun _ H Q=>Q none H
def fO(t:TE):TO:=fun σ H Q=>t σ H fun x H1=>∃i,x=.int i/\Q (some i) H1
section
variable{X:Cx}{e:Expr}{te:TE}{lo hi:Option Expr}{tl th:TO}{pos p2:Pos}
theorem fj:PO X none dI:=by
 intro J5 s σ H Q I h;rw[evalPart_none];exact aE ⟨none,H,I,.none,h⟩
theorem cU(h:PE X e te):PO X (some e) (fO te):=by
 intro J5 s σ H Q I hw;rw[evalPart_some];refine cj (h J5 s σ H _ I hw) fun u s1 zq0=>?_;obtain⟨x,H1,I1,r1,q1⟩:=zq0;obtain⟨i,rfl,q⟩:=q1;obtain⟨t,rfl⟩:=r1;exact⟨some i,H1,I1,.int i t,q⟩
def CJ(X:Cx)(r:V->Option Int->Option Int->Hp->VK->Prop):Prop :=
 ∀(J5:Zd) (s:Shared) (σ:St) (H:Hp) (x:V) (v vl vu:Value) (lo hi:Option Int) (sl:Addr) (Q:VK),Inv X J5 σ H s->RelV x v->s.heap.IsSliceOf sl vl vu .none->IsPart vl lo->IsPart vu hi->r x lo hi H Q ->
  ∃T id,typeLookup (.type T) "__getitem__"=pure (some (.builtin id))/\s.TypeIs v T/\wpAny (model X.prog X.w) X.A (kf v (.ref sl)) (EP X J5 σ Q) X.xe s
theorem CJ.or{r r':V->Option Int->Option Int->Hp->VK->Prop}(h:CJ X r)(h':CJ X r'):CJ X (fun x lo hi H Q=>r x lo hi H Q∨r' x lo hi H Q):=by
 intro J5 s σ H x v vl vu lo hi sl Q I rx hs pl pu q;rcases q with q|q
 ·exact h J5 s σ H x v vl vu lo hi sl Q I rx hs pl pu q
 ·exact h' J5 s σ H x v vl vu lo hi sl Q I rx hs pl pu q
def xk(r:V->Option Int->Option Int->Hp->VK->Prop)(te:TE)(tl th:TO):TE:=fun σ H Q=>te σ H fun x H1=>tl σ H1 fun l H2=>th σ H2 fun u H3=>r x l u H3 Q
theorem cN{r:V->Option Int->Option Int->Hp->VK->Prop}(hr:CJ X r)(he:PE X e te)(hl:PO X lo tl)(hu:PO X hi th):PE X (.Subscript e (.Slice lo hi none p2) pos) (xk r te tl th):=by
 intro J5 s σ H Q I h;refine Subscript_ (cj (he J5 s σ H _ I h) fun v s1 zq0=>?_);obtain⟨x,H1,I1,r1,q1⟩:=zq0;refine wpAny_Slice (cj (hl J5 s1 σ H1 _ I1 q1) fun vl s2 ⟨l,H2,I2,pl,q2⟩=>cj (hu J5 s2 σ H2 _ I2 q2) fun vu s3 zq0=>?_);obtain⟨u,H3,I3,pu,q3⟩:=zq0;rw[evalPart_none];refine aE ?_;have I4:Inv X J5 σ H3 { s3 with heap:=s3.heap.push { cls:=.type "slice",data:=.fields #[vl,vu,.none] } }:=I3.kept (t':=s3.toks) fun b ob q=>aZ _ q;obtain⟨T,id,hT,ht,hg⟩:=hr J5 { s3 with heap:=s3.heap.push { cls:=.type "slice",data:=.fields #[vl,vu,.none] } } σ H3 x v vl vu l u s3.heap.objs.size Q I4 r1 (Heap.IsSliceOf.new ..) pl pu q3;show wpAny (model X.prog X.w) X.A (subscriptTail e (.Slice lo hi none p2) v (.ref s3.heap.objs.size)) (EP X J5 σ Q) X.xe { s3 with heap:=s3.heap.push { cls:=.type "slice",data:=.fields #[vl,vu,.none] } };exact tail_any (ops:=[.ref s3.heap.objs.size,v]) ht hT hg (by with_unfolding_all rfl)
def fL(xs:List V)(lo hi:Option Int):List V:=(xs.drop (HT.sIx xs.length 0 lo)).take (HT.sIx xs.length xs.length hi-HT.sIx xs.length 0 lo)
theorem uX(xs:List V)(lo hi:Option Int):(fL xs lo hi).length<=xs.length:=by
 unfold fL;rw[aF,cA];omega
def Dy(K:Za):R2:=fun x y H Q=>∃a b xs ys,x=.ref a/\y=.ref b/\bc K H a xs/\bc K H b ys/\xs≠[]/\xs.length+ys.length<=ai /\
 (ys=[]->Q (.ref a) H)/\(ys≠[]->∀p,H p=none->Q (.ref p) (upd H p (.tup (xs++ys))))
theorem aV.nil_iff{xs:List V}{us:Zf}(r:aV xs us):us=[]↔xs=[]:=by
 cases r with
 |nil=>simp
 |cons _ _=>simp
theorem BT:jK X (i3 .Add) (Dy X.K):=by
 intro J5 s σ H x y v u Q I rx ry h;obtain⟨a,b,xs,ys,rfl,rfl,ha,hb,hx,hz,q1,q2⟩:=h;cases rx;cases ry;obtain⟨its,r1,p1,_⟩:=I.tuple ha;obtain⟨its2,r2,p2,_⟩:=I.tuple hb;refine HT.cat_tup p1 p2 (fun z=>hx (r1.nil_iff.mp z)) (fun z=>⟨.ref a,H,I,rfl,q1 (r2.nil_iff.mp z)⟩) (fun z=>?_) (by rw[<-r1.length,<-r2.length];exact hz);refine⟨.ref s.heap.objs.size,_,I.laid (t':=s.toks) (o:=.tup (xs++ys)) (fun b ob q=>aZ _ q) (ax _) ?_,rfl,q2 (fun w=>z (r2.nil_iff.mpr w)) _ (I.hok.fresh (ax _))⟩;exact⟨by rw[aH];exact hz,_,r1.append r2,IsTup.new _ _⟩
end
end L2
namespace L2
open PySem PySem.Spec PyProof.Rows
def zH(n:Nat)(i:Int):Option Nat:=if 0<=i then(if i<n then some i.toNat else none)else if -(n:Int)<=i then some (i+n).toNat else none
def u8{α:Type}(xs:List α)(i:Int):Option α:=(zH xs.length i).bind fun j=>xs[j]?
theorem xN{n:Nat}{i:Int}{j:Nat}(h:zH n i=some j):seqIndex? i n=some j/\j<n/\-(n:Int)<=i/\i<n:=by
 unfold zH at h;by_cases h0:0<=i
 ·rw[if_pos h0]at h;by_cases h1:i<n
  ·rw[if_pos h1]at h;have e:i.toNat=j:=dC h;exact⟨by rw[seqIndex_of h0 h1,e],by omega,by omega,h1⟩
  ·rw[if_neg h1]at h;cases h
 ·rw[if_neg h0]at h;by_cases h1:-(n:Int)<=i
  ·rw[if_pos h1]at h;have e:(i+n).toNat=j:=dC h;exact⟨by rw[seqIndex_neg (by omega) h1,e],by omega,h1,by omega⟩
  ·rw[if_neg h1]at h;cases h
theorem tD{α:Type}{xs:List α}{i:Int}{v:α}(h:u8 xs i=some v):∃j,seqIndex? i xs.length=some j/\xs[j]?=some v/\j<xs.length/\-(xs.length:Int)<=i/\i<xs.length:=by
 unfold u8 at h;cases e:zH xs.length i with
 |none=>rw[e]at h;cases h
 |some j =>
  rw[e]at h;obtain⟨h1,h2,h3,h4⟩:=xN e;exact⟨j,h1,h,h2,h3,h4⟩
theorem aD{α:Type}{xs:List α}{j:Nat}{v:α}(h:xs[j]?=some v):u8 xs (j:Int)=some v:=by
 have hj:j<xs.length:=(bR.mp h).1;have e:zH xs.length (j:Int)=some j:=by
  unfold zH;rw[if_pos (by omega),if_pos (by omega)];simp
 unfold u8;rw[e];exact h
theorem Bd{α:Type}(xs:List α)(v:α):u8 (xs++[v]) (-1)=some v:=by
 have hl:(xs++[v]).length=xs.length+1:=by simp
 have e:zH (xs++[v]).length (-1)=some xs.length:=by
  unfold zH;rw[hl,if_neg (by decide),if_pos (by omega)];congr 1;omega
 unfold u8;rw[e];show(xs++[v])[xs.length]?=some v;simp
def Cf(b:Expr):Prop:=∀o i,rP b false o i=operate [o,i] (kf o i)
def Ch(X:Cx)(r:R2):Prop :=
 ∀(value slice:Expr) (J5:Zd) (s:Shared) (σ:St) (H:Hp) (x y:V) (v u:Value) (Q:VK),Inv X J5 σ H s->RelV x v->RelV y u->r x y H Q ->
  rP slice false v u=operate [v,u] (kf v u)->wpAny (model X.prog X.w) X.A (subscriptTail value slice v u) (EP X J5 σ Q) X.xe s
def MtR(X:Cx)(id:String)(r:V->List V->Hp->VK->Prop):Prop :=
 ∀(J5:Zd) (s:Shared) (σ:St) (H:Hp) (x:V) (xs:List V) (v:Value) (us:Zf) (Q:VK),Inv X J5 σ H s->RelV x v->aV xs us->r x xs H Q ->
  wpAny (model X.prog X.w) X.A (call (.builtin id) (v::us)) (EP X J5 σ Q) X.xe s
section
variable{X:Cx}{a b:Expr}{ta tb:TE}{pos:Pos}
theorem Ch.or{r r':R2}(h:Ch X r)(h':Ch X r'):Ch X (fun x y H Q=>r x y H Q∨r' x y H Q):=by
 intro value slice J5 s σ H x y v u Q I rx ry q hs;rcases q with q|q
 ·exact h value slice J5 s σ H x y v u Q I rx ry q hs
 ·exact h' value slice J5 s σ H x y v u Q I rx ry q hs
theorem xy{r:R2}(hr:Ch X r)(ha:PE X a ta)(hb:PE X b tb)(hs:Cf b):PE X (.Subscript a b pos) (aw r ta tb):=by
 intro J5 s σ H Q I h;exact Subscript_ (Dd ha hb I h fun v u s2 x y H2 I2 rx ry q=>hr a b J5 s2 σ H2 x y v u Q I2 rx ry q (hs _ _))
def cu(K:Za):R2:=fun x y H Q=>∃p xs i v,x=.ref p/\y=.int i/\ay K H p xs/\u8 xs i=some v/\Q v H
def bz(K:Za):R2:=fun x y H Q=>∃p xs i v,x=.ref p/\y=.int i/\bc K H p xs/\u8 xs i=some v/\Q v H
def Al:R2:=fun x y H Q=>∃z i c,x=.str z/\y=.int i/\z.length<=ai/\u8 z.cps.toList i=some c/\Q (.str ⟨#[c]⟩) H
theorem xM:Ch X (cu X.K):=by
 intro value slice J5 s σ H x y v u Q I rx ry h hs;obtain⟨p,xs,i,z,rfl,rfl,hq,he,q⟩:=h;cases rx;obtain⟨t,rfl⟩:=ry;obtain⟨its,r,pl,hz⟩:=I.list hq;obtain⟨j,h1,h2,h3,h4,h5⟩:=tD he;obtain⟨w,ew,rw'⟩:=r.get h2;have hl:=r.length;have hn:=mF;have fin:EP X J5 σ Q w s:=⟨z,H,I,rw',q⟩;by_cases h0:0<=i
 ·have hj:i.toNat=j:=by
   rw[seqIndex_of h0 h5]at h1;exact dC h1
  exact item_listR pl.isList h0 (by omega) (by rw[hj];simpa using ew) fin hs
 ·have hj:(i+(its.toArray.size:Int)).toNat=j:=by
   rw[seqIndex_neg (by omega) h4]at h1;rw[bD,<-hl];exact dC h1
  exact subscriptTail_builtinR (x:=w) pl.isList.typeIs slot_list_getitem.lookup
   (wpAny_getItem_list_neg (Q:=fun r s'=>r=w/\EP X J5 σ Q r s') pl.isList (by omega) (by rw[bD]<;>omega) (by omega) (by rw[hj];simpa using ew) ⟨rfl,fin⟩) hs
theorem AI:Ch X (bz X.K):=by
 intro value slice J5 s σ H x y v u Q I rx ry h hs;obtain⟨p,xs,i,z,rfl,rfl,hq,he,q⟩:=h;cases rx;obtain⟨t,rfl⟩:=ry;obtain⟨its,r,pl,hz⟩:=I.tuple hq;obtain⟨j,h1,h2,h3,h4,h5⟩:=tD he;obtain⟨w,ew,rw'⟩:=r.get h2;have hl:=r.length;have hn:=mF;have fin:EP X J5 σ Q w s:=⟨z,H,I,rw',q⟩;exact subscriptTail_builtinR (x:=w) pl.typeIs slot_tuple_getitem.lookup
  (getItem_tuple (j:=j) (Q:=fun r s'=>r=w/\EP X J5 σ Q r s') pl (by omega) (by omega) (by rw[bD,<-hl];exact h1) (by simpa using ew) ⟨rfl,fin⟩) hs
theorem AJ:Ch X Al:=by
 intro value slice J5 s σ H x y v u Q I rx ry h hs;obtain⟨z,i,c,rfl,rfl,hz,he,q⟩:=h;obtain⟨t,rfl⟩:=rx;obtain⟨t',rfl⟩:=ry;obtain⟨j,h1,h2,h3,h4,h5⟩:=tD he;have hl:z.cps.toList.length=z.length:=by simp[Str.length]
 rw[hl]at h1 h4 h5;have hn:=mF;exact tail_any (typeIs_str s z t) slot_str_getitem.lookup (getItem_str (c:=c) (by
  have e1:decide (i < -(2 ^ 63:Int))=false:=zzr0 (by omega);have e2:decide (i ≥ 2 ^ 63)=false:=zzr0 (by omega);rw[e1,e2,Bool.or_false]) (by rw[h1];simpa using h2) ⟨.str ⟨#[c]⟩,H,I.tok _,⟨_,rfl⟩,q⟩) hs
def uv(K:Za):R2:=fun x y H Q=>cu K x y H Q∨bz K x y H Q∨Al x y H Q
theorem C7:Ch X (uv X.K):=xM.or (AI.or AJ)
theorem v7(its:Zf)(n j:Nat)(u:Value):eS (·.setIfInBounds j u) { cls:=.type "list",data:=.seq its.toArray n }={ cls:=.type "list",data:=.seq (its.set j u).toArray n }:=by
 simp[eS]
theorem Inv.lst{J5:Zd}{σ:St}{H:Hp}{s:Shared}{p:Addr}{xs:List V}(I:Inv X J5 σ H s)(h:H p=some (.lst xs)):
  ∃(its:Zf) (n:Nat),aV xs its/\s.heap.get? p=some { cls:=.type "list",data:=.seq its.toArray n }/\xs.length<=ai:=by
 obtain⟨z,its,n,r,e⟩:=I.hok p _ h;exact⟨its,n,r,e,z⟩
theorem Inv.lstUpd{J5:Zd}{σ:St}{H:Hp}{s:Shared}{p:Addr}{xs ys:List V}{its its':Zf}{n n':Nat}{f:Obj->Obj}(I:Inv X J5 σ H s)(h:H p=some (.lst xs))
  (ho:s.heap.get? p=some { cls:=.type "list",data:=.seq its.toArray n }) (hf:f { cls:=.type "list",data:=.seq its.toArray n }={ cls:=.type "list",data:=.seq its'.toArray n' }) (r:aV ys its') (hz:ys.length<=ai) (t:Nat) :
  Inv X J5 σ (upd H p (.lst ys)) { s with heap:=s.heap.update p f,toks:=t }:=by
 have e:(s.heap.update p f).get? p=some { cls:=.type "list",data:=.seq its'.toArray n' }:=by
  rw[Heap.get?_update_self f ho (by rw[hf]<;>rfl),hf]
 refine I.write (x:=p) (e:=p) (by rw[h];trivial) (.inl rfl) (fun b u hb q=>(Heap.get?_update_other _ _ (ga hb)).trans q) ⟨_,e⟩ ?_;exact⟨hz,its',n',r,e⟩
def lr:V->V->V->Hp->(Hp->Prop)->Prop:=fun o i v H Q=>∃p xs k j,o=.ref p/\i=.int k/\H p=some (.lst xs)/\zH xs.length k=some j/\Q (upd H p (.lst (xs.set j v)))
theorem gk:DN X lr:=by
 intro J5 s σ H o i v ov iv u Q I ro ri rv h;obtain⟨p,xs,k,j,rfl,rfl,hp,hj,q⟩:=h;cases ro;obtain⟨t,rfl⟩:=ri;obtain⟨its,n,r,ho,hz⟩:=I.lst hp;obtain⟨h1,h2,h3,h4⟩:=xN hj;have hl:=r.length;have hn:=mF;have I':Inv X J5 σ (upd H p (.lst (xs.set j v))) { s with heap:=s.heap.update p (eS (·.setIfInBounds j u)) } :=
  I.lstUpd hp ho (v7 its n j u) (r.set rv j) (by rw[List.length_set];exact hz) s.toks
 by_cases h0:0<=k
 ·have hk:k.toNat=j:=by
   rw[seqIndex_of h0 h4]at h1;exact dC h1
  exact PySem.W.ki_setAt ho h0 (by omega) (by rw[bD,<-hl];exact h4) (by rw[hk];exact⟨_,I',q⟩)
 ·have hk:(k+(its.toArray.size:Int)).toNat=j:=by
   rw[seqIndex_neg (by omega) h3]at h1;rw[bD,<-hl];exact dC h1
  exact PySem.W.ki_setBack ho (by omega) (by rw[bD,<-hl];exact h3) (by omega) (by rw[hk];exact⟨_,I',q⟩)
theorem sy(lo hi:Option Int)(n:Nat):(ke lo hi none n).1=((HT.sIx n 0 lo:Nat):Int)/\(ke lo hi none n).2.1=((HT.sIx n n hi:Nat):Int)/\(ke lo hi none n).2.2=1:=by
 refine⟨?_,?_,rfl⟩
 ·cases lo with
  |none=>simp[ke,HT.sIx]
  |some i =>
   simp only[ke,HT.sIx,Option.getD_none,show(1:Int) > 0 by decide,if_true];by_cases h:i<0
   ·simp only[h,if_true]<;>omega
   ·simp only[h,if_false]<;>omega
 ·cases hi with
  |none=>simp[ke,HT.sIx]
  |some i =>
   simp only[ke,HT.sIx,Option.getD_none,show(1:Int) > 0 by decide,if_true];by_cases h:i<0
   ·simp only[h,if_true]<;>omega
   ·simp only[h,if_false]<;>omega
theorem qh(its:Zf)(lo hi:Option Int):slicePick its.toArray lo hi none=((its.drop (HT.sIx its.length 0 lo)).take (HT.sIx its.length its.length hi-HT.sIx its.length 0 lo)).toArray:=by
 obtain⟨h1,h2,h3⟩:=sy lo hi its.toArray.size;unfold slicePick;rw[h1,h2,h3];simp only[sliceRange_one,pick_run,bD]<;>rfl
def nL(K:Za):V->Option Int->Option Int->Hp->VK->Prop:=fun x lo hi H Q=>∃a xs,x=.ref a/\ay K H a xs/\∀p,H p=none->Q (.ref p) (upd H p (.lst (fL xs lo hi)))
theorem fS:CJ X (nL X.K):=by
 intro J5 s σ H x v vl vu lo hi sl Q I rx hs pl pu h;obtain⟨a,xs,rfl,hx,q⟩:=h;cases rx;obtain⟨its,r,ht,hz⟩:=I.list hx;have hlen:=r.length;refine⟨"list",_,slot_list_getitem.lookup,ht.isList.typeIs,?_⟩;refine wpAny_getItem_list_slice ht.isList hs pl pu .none (by simp) ?_ (by rw[bD]<;>omega);rw[qh,<-hlen];refine⟨.ref s.heap.objs.size,_,I.laid (t':=s.toks) (o:=.lst (fL xs lo hi)) (fun b ob q=>aZ _ q) (ax _) ?_,rfl,q _ (I.hok.fresh (ax _))⟩;exact⟨aW (uX xs lo hi) hz,_,0,(r.drop (HT.sIx xs.length 0 lo)).take (HT.sIx xs.length xs.length hi-HT.sIx xs.length 0 lo),cK _ rfl⟩
theorem tw:eM X (.builtin "len") (fun xs H Q=>∃p ys,xs=[.ref p]/\(ay X.K H p ys∨bc X.K H p ys)/\Q (.int ys.length) H):=by
 intro J5 s σ H xs us Q I r h;obtain⟨p,ys,rfl,hq,q⟩:=h;obtain⟨u,rfl,rx⟩:=vals1 r;cases rx;have hn:=mF;rcases hq with hq|hq
 ·obtain⟨its,r',pl,hz⟩:=I.list hq;have hlen:=r'.length;exact Calls.call_len_list pl.isList (by simp only[bD]<;>omega) ⟨.int ys.length,H,I.tok _,⟨s.toks+1,by rw[bD,hlen]⟩,q⟩
 ·obtain⟨its,r',pl,hz⟩:=I.tuple hq;have hlen:=r'.length;exact len_tuple pl (by simp only[bD]<;>omega) ⟨.int ys.length,H,I.tok _,⟨s.toks+1,by rw[bD,hlen]⟩,q⟩
theorem tu:eM X (.builtin "len") (fun xs H Q=>∃z,xs=[.str z]/\z.length<=ai/\Q (.int z.length) H):=by
 intro J5 s σ H xs us Q I r h;obtain⟨z,rfl,hz,q⟩:=h;obtain⟨u,rfl,t,rfl⟩:=vals1 r;have hn:=mF;exact len_str (by omega) ⟨.int z.length,H,I.tok _,⟨_,rfl⟩,q⟩
theorem eM.or{f:Value}{r r':List V->Hp->VK->Prop}(h:eM X f r)(h':eM X f r'):eM X f (fun xs H Q=>r xs H Q∨r' xs H Q):=by
 intro J5 s σ H xs us Q I rs q;rcases q with q|q
 ·exact h J5 s σ H xs us Q I rs q
 ·exact h' J5 s σ H xs us Q I rs q
theorem tq:eM X (.type "list") (fun xs H Q=>∃p ys,xs=[.ref p]/\(ay X.K H p ys∨bc X.K H p ys)/\∀l,H l=none->Q (.ref l) (upd H l (.lst ys))):=by
 intro J5 s σ H xs us Q I r h;obtain⟨p,ys,rfl,hq,q⟩:=h;obtain⟨u,rfl,rx⟩:=vals1 r;cases rx;have fin:∀(its:Zf),aV ys its->ys.length<=ai->∀(h':Heap) (c':Nat),(∀b o',s.heap.get? b=some o'->h'.get? b=some o') ->
   h'.get? s.heap.objs.size=some { cls:=.type "list",dict:=none,data:=.seq its.toArray c',slots:=#[] }->EP X J5 σ Q (.ref s.heap.objs.size) { s with heap:=h' }:=fun its r' hz h' c' kp e =>
  ⟨.ref s.heap.objs.size,_,I.laid (t':=s.toks) kp (ax _) (show bW X.prog X.w X.K _ h' _ (.lst ys)from⟨hz,its,c',r',e⟩),rfl,q _ (I.hok.fresh (ax _))⟩
 rcases hq with hq|hq
 ·obtain⟨its,r',pl,hz⟩:=I.list hq;have hlen:=r'.length;obtain⟨o,ho,hc,n,hd⟩:=pl.isList;exact call_list_seq p (.inl rfl) ho hc hd (fun h' c' kp e=>fin its r' hz h' c' kp e) (by simp only[bD]<;>omega)
 ·obtain⟨its,r',pl,hz⟩:=I.tuple hq;have hlen:=r'.length;obtain⟨o,ho,hc,n,hd⟩:=pl;exact call_list_seq p (.inr rfl) ho hc hd (fun h' c' kp e=>fin its r' hz h' c' kp e) (by simp only[bD]<;>omega)
theorem ia:eM X (.type "tuple") (fun xs H Q=>∃p ys,xs=[.ref p]/\((ay X.K H p ys/\∀l,H l=none->Q (.ref l) (upd H l (.tup ys)))∨(bc X.K H p ys/\Q (.ref p) H))):=by
 intro J5 s σ H xs us Q I r h;obtain⟨p,ys,rfl,h⟩:=h;obtain⟨u,rfl,rx⟩:=vals1 r;cases rx;rcases h with⟨hq,q⟩|⟨hq,q⟩
 ·obtain⟨its,r',pl,hz⟩:=I.list hq;have hlen:=r'.length;refine call_tuple_list pl.isList (fun h' kp=>?_) (by simp only[bD]<;>omega);have I1:Inv X J5 σ H { s with heap:=h' }:=I.kept (t':=s.toks) kp;have I2:Inv X J5 σ (upd H h'.objs.size (.tup ys)) { s with heap:=h'.push { cls:=.type "tuple",data:=.seq its.toArray } } :=
   I1.laid (t':=s.toks) (fun b o e=>aZ _ e) (ax _) (show bW X.prog X.w X.K _ _ _ (.tup ys)from⟨hz,its,r',IsTup.new _ _⟩)
  exact⟨.ref h'.objs.size,_,I2,rfl,q _ (I1.hok.fresh (ax _))⟩
 ·obtain⟨its,r',pl,hz⟩:=I.tuple hq;exact call_tuple_same pl ⟨.ref p,H,I,rfl,q⟩
def tyV(K:Za)(T:String)(x:V)(H:Hp):Prop:=match x with
 |.str _=>T="str"
 |.int _=>T="int"
 |.ref p=>(T="list"/\∃xs,ay K H p xs)∨(T="tuple"/\∃o,K.lookup p=some o/\o.cls=.type "tuple"/\o.dict=none) ∨
   (T="dict"/\((∃kvs,H p=some (.dK kvs))∨∃kvs,H p=some (.dT kvs)))∨(T="set"/\∃S n,H p=some (.set S n))
 |_=>False
theorem zS{J5:Zd}{σ:St}{H:Hp}{s:Shared}{T:String}{x:V}{v:Value}(I:Inv X J5 σ H s)(r:RelV x v)(ty:tyV X.K T x H):
  s.TypeIs v T/\∀a,v=.ref a->∃ob,s.heap.get? a=some ob/\ob.dict=none:=by
 cases x with
 |str z =>
  obtain⟨t,rfl⟩:=r;cases(show T="str" from ty);exact⟨typeIs_str s z t,fun _ e=>nomatch e⟩
 |int i =>
  obtain⟨t,rfl⟩:=r;cases(show T="int" from ty);exact⟨typeIs_int s i t,fun _ e=>nomatch e⟩
 |ref p =>
  cases r;rcases ty with⟨rfl,xs,hq⟩|⟨rfl,o,hk,hc,hd⟩|⟨rfl,hk⟩|⟨rfl,S,n,hk⟩
  ·obtain⟨its,_,pl,_⟩:=I.list hq;refine⟨pl.isList.typeIs,fun a e=>?_⟩;cases e;obtain⟨o,n,e,c,hd,_⟩:=pl;exact⟨o,e,hd⟩
  ·refine⟨⟨o,I.kIn p o hk,hc⟩,fun a e=>?_⟩;cases e;exact⟨o,I.kIn _ o hk,hd⟩
  ·have z:∃o,s.heap.get? p=some o/\o.ExactDict:=by
    rcases hk with⟨kvs,hk⟩|⟨kvs,hk⟩
    ·obtain⟨_,_,_,_,o,_,_,e,ex,_⟩:=I.hok p _ hk;exact⟨o,e,ex⟩
    ·obtain⟨_,_,_,_,o,_,_,e,ex,_⟩:=I.hok p _ hk;exact⟨o,e,ex⟩
   obtain⟨o,e,ex⟩:=z;refine⟨⟨o,e,ex.1⟩,fun a e2=>?_⟩;cases e2;exact⟨o,e,ex.2.1⟩
  ·obtain⟨o,_,_,_,e,ex,_⟩:=I.hok p _ hk;refine⟨⟨o,e,ex.1⟩,fun a e2=>?_⟩;cases e2;exact⟨o,e,ex.2.1⟩
 |_=>exact ii ty
def CP(K:Za)(T:String)(r:V->List V->Hp->VK->Prop)(to:TE):TE:=fun σ H Q=>to σ H fun x H1=>tyV K T x H1/\r x [] H1 Q
def vJ(K:Za)(T:String)(r:V->List V->Hp->VK->Prop)(to:TE)(t:TA):TE:=fun σ H Q=>to σ H fun x H1=>tyV K T x H1/\t σ H1 fun xs H2=>r x xs H2 Q
variable{o e:Expr}{es:List Expr}{to:TE}{t:TA}{name:Str}{J7 J6:Pos}{T id:String}{r:V->List V->Hp->VK->Prop}
theorem As(pa:PlainAttrs T)(slot:Slot T name id)(hty:typeOf (.builtin id)=pure (.type "method_descriptor"))(hm:MtR X id r)(ho:PE X o to)
  (hbase:tT o name X.env (eval o X.env)=eval o X.env:=by rfl) (hline:(J7.endLine==J6.line)=true:=by rfl):PE X (.Call (.Attribute o name J7) [] [] J6) (CP X.K T r to):=by
 intro J5 s σ H Q I h;refine wpAny_Call_method0_late hbase hline (cj (ho J5 s σ H _ I h) fun v s1 zq0=>?_);obtain⟨x,H1,I1,r1,ty,q1⟩:=zq0;obtain⟨h1,h2⟩:=zS I1 r1 ty;exact⟨T,id,pa,slot,hty,h1,h2,Calls.callWith_builtin rfl (PySem.evalArgs_none (hm J5 s1 σ H1 x [] v [] Q I1 r1 .nil q1))⟩
theorem g8(pa:PlainAttrs T)(slot:Slot T name id)(hty:typeOf (.builtin id)=pure (.type "method_descriptor"))(hm:MtR X id r)(ho:PE X o to)(ha:PA X (e::es) t)
  (hbase:tT o name X.env (eval o X.env)=eval o X.env:=by rfl)
  (hfew:((backTo J6 (aN (e::es) X.env)).all (fun x=>!x.1) && (tS J6 (tR [] X.env)).all (fun x=>x.1.isSome)
   && decide ((e::es).length+([]:List Keyword).length+(if([]:List Keyword).isEmpty then 0 else 1)<30))=true:=by rfl)
  (hline:(J7.endLine==J6.line)=true:=by rfl) (hs:aN (e::es) X.env=(false,eval e X.env)::aN es X.env:=by rfl) (hplain:(backTo J6 (aN es X.env)).any (·.1)=false:=by rfl) :
  PE X (.Call (.Attribute o name J7) (e::es) [] J6) (vJ X.K T r to t):=by
 intro J5 s σ H Q I h;refine wpAny_Call_method_late hbase hfew hline rfl (cj (ho J5 s σ H _ I h) fun v s1 zq0=>?_);obtain⟨x,H1,I1,r1,ty,q1⟩:=zq0;obtain⟨h1,h2⟩:=zS I1 r1 ty;refine⟨T,id,pa,slot,hty,h1,h2,?_⟩;have hA:=ha J6 J5 s1 σ H1 _ I1 q1;rw[hs]at hA ⊢;refine Calls.callWith_builtin (by show(false || (backTo J6 (aN es X.env)).any (·.1))=false;rw[hplain]<;>rfl) (Calls.evalArgs_plain ?_);exact cj hA fun us s2 ⟨vs,H2,I2,r2,q2⟩=>hm J5 s2 σ H2 x vs v us Q I2 r1 r2 q2
end
end L2
namespace L2
open PySem PySem.Spec PyProof.Rows
def Ed(X:Cx)(id:String)(r:V->List V->Hp->VK->Prop):Prop :=
 ∀(J5:Zd) (s:Shared) (σ:St) (H:Hp) (x:V) (xs:List V) (v:Value) (us:Zf) (Q:VK),Inv X J5 σ H s->RelV x v->aV xs us->r x xs H Q ->
  wpAny (model X.prog X.w) X.A (call (.builtin id) (v::us)) (EP X J5 σ Q) X.xe s
theorem aV.one{x:V}{us:Zf}(h:aV [x] us):∃u,us=[u]/\RelV x u:=by
 cases h with
 |cons r t=>cases t;exact⟨_,rfl,r⟩
theorem aV.two{x y:V}{us:Zf}(h:aV [x,y] us):∃u v,us=[u,v]/\RelV x u/\RelV y v:=by
 cases h with
 |cons r t =>
  obtain⟨v,e,q⟩:=aV.one t;exact⟨_,v,by rw[e],r,q⟩
theorem aV.zero:∀{us:Zf},aV [] us->us=[]
 |_,.nil=>rfl
theorem aV.dropLast{xs:List V}{us:Zf}(h:aV xs us):aV xs.dropLast us.dropLast:=by
 induction h with
 |nil=>exact .nil
 |cons r t ih =>
  cases t with
  |nil=>exact .nil
  |cons q t'=>exact .cons r ih
theorem wo{α:Type}(l:List α):l.eraseIdx (l.length-1)=l.dropLast:=by
 induction l with
 |nil=>rfl
 |cons a r ih =>
  cases r with
  |nil=>rfl
  |cons b r =>
   have e:(a::b::r).length-1=((b::r).length-1)+1:=by
    have h1:(a::b::r).length=r.length+2:=rfl;have h2:(b::r).length=r.length+1:=rfl;omega
   rw[e,List.eraseIdx_cons_succ,ih]
   all_goals rfl
section
variable{X:Cx}{J5:Zd}{σ:St}{H:Hp}{s:Shared}{l b:Addr}{xs ys zs:List V}
theorem Inv.lset{its its':Zf}{n:Nat}{f:Array Value->Array Value}{t':Nat}(I:Inv X J5 σ H s)(hH:H l=some (.lst xs))
  (e:s.heap.get? l=some { cls:=.type "list",data:=.seq its.toArray n }) (hf:f its.toArray=its'.toArray) (hv:aV ys its') (hz:ys.length<=ai) :
  Inv X J5 σ (upd H l (.lst ys)) { s with heap:=s.heap.update l (eS f),toks:=t' }:=by
 have q:=PySem.IsL.update e f;rw[hf]at q;refine I.write (x:=l) (e:=l) (by rw[hH];exact trivial) (.inl rfl) (fun b' u hb hu=>(Heap.get?_update_other s.heap (eS f) (ga hb)).trans hu) ⟨_,q⟩ ?_;exact⟨hz,its',_,hv,q⟩
theorem Inv.lnew{its:Zf}{t':Nat}(I:Inv X J5 σ H s)(hv:aV ys its)(hz:ys.length<=ai):
  Inv X J5 σ (upd H s.heap.objs.size (.lst ys)) { s with heap:=s.heap.push { cls:=.type "list",data:=.seq its.toArray },toks:=t' } :=
 I.laid (fun _ _ q=>aZ _ q) (ax _) ⟨hz,its,0,hv,cK _ rfl⟩
theorem Inv.fresh(I:Inv X J5 σ H s):H s.heap.objs.size=none:=I.hok.fresh (ax _)
theorem Inv.lstM(I:Inv X J5 σ H s)(hH:H l=some (.lst xs)):xs.length<=ai/\∃(its:Zf) (n:Nat),aV xs its/\xs.length=its.length/\s.heap.get? l=some { cls:=.type "list",data:=.seq its.toArray n }:=by
 obtain⟨z,its,n,r,e⟩:=I.hok l _ hH;exact⟨z,its,n,r,r.length,e⟩
end
section
variable{X:Cx}
def de:V->List V->Hp->VK->Prop:=fun x vs H Q=>∃l xs y,x=.ref l/\vs=[y]/\H l=some (.lst xs)/\xs.length<ai/\Q .non (upd H l (.lst (xs++[y])))
theorem bP:Ed X "list.append" de:=by
 intro J5 s σ H x vs v us Q I rx rv h;obtain⟨l,xs,y,rfl,rfl,hH,hz,q⟩:=h;cases rx;obtain⟨u,rfl,ru⟩:=rv.one;obtain⟨z,its,n,r,hl,e⟩:=I.lstM hH;refine call_meets F.slot_list_append ⟨_,e,rfl⟩ F.entry_list_append (F.args_list_append_2 _ _) (PySem.list_append l its.toArray n u (by rw[bD];omega)) ⟨e,?_⟩;refine⟨.non,_,I.lset (its':=its++[u]) hH e (by simp) (r.append (.cons ru .nil)) ?_,rfl,q⟩;rw[aH,List.length_singleton];omega
def CT:V->List V->Hp->VK->Prop:=fun x vs H Q=>∃l xs y,x=.ref l/\vs=[]/\H l=some (.lst xs)/\xs[xs.length-1]?=some y/\Q y (upd H l (.lst xs.dropLast))
theorem Az:Ed X "list.pop" CT:=by
 intro J5 s σ H x vs v us Q I rx rv h;obtain⟨l,xs,y,rfl,rfl,hH,hy,q⟩:=h;cases rx;have hus:=rv.zero;subst hus;obtain⟨z,its,n,r,hl,e⟩:=I.lstM hH;obtain⟨u,hu,ru⟩:=r.get hy;have hy':its.toArray[its.toArray.size-1]?=some u:=by
  show its.toArray[its.length-1]?=some u;rw[<-me,<-hl];exact hu
 refine call_meets F.slot_list_pop ⟨_,e,rfl⟩ F.entry_list_pop (F.args_list_pop_1 _) (MeetsSeq.list_pop_last l its.toArray n u hy' (by rw[bD];omega)) ⟨e,?_⟩;refine⟨y,_,I.lset (its':=its.dropLast) hH e ?_ r.dropLast ?_,ru,q⟩
 ·show its.toArray.eraseIdxIfInBounds (its.toArray.size-1)=its.dropLast.toArray;rw[bD,List.eraseIdxIfInBounds_toArray,wo]
 ·rw[List.length_dropLast];omega
def lu:R2:=fun x y H Q=>∃l b xs zs,x=.ref l/\y=.ref b/\H l=some (.lst xs)/\H b=some (.lst zs)/\xs.length+zs.length<=ai/\∀p,H p=none->Q (.ref p) (upd H p (.lst (xs++zs)))
theorem e_:jK X (i3 .Add) lu:=by
 intro J5 s σ H x y v u Q I rx ry h;obtain⟨l,b,xs,zs,rfl,rfl,hH,hB,hz,q⟩:=h;cases rx;cases ry;obtain⟨z,its,n,r,hl,e⟩:=I.lstM hH;obtain⟨z2,its2,n2,r2,hl2,e2⟩:=I.lstM hB;refine PySem.P.add_list e e2 ?_ (by rw[bD,bD];omega);have ea:its.toArray++its2.toArray=(its++its2).toArray:=by simp
 rw[ea];exact⟨.ref _,_,I.lnew (t':=s.toks) (r.append r2) (by rw[aH];omega),rfl,q _ I.fresh⟩
end
end L2
namespace L2
open PySem PySem.Spec PyProof.Rows
section
variable{κ:Type}[DecidableEq κ]
def cR(kvs:List (κ×V))(k:κ):Option V:=(kvs.find? fun kv=>decide (kv.1=k)).map (·.2)
def fA(kvs:List (κ×V))(k:κ)(v:V):List (κ×V) :=
 if(kvs.any fun kv=>decide (kv.1=k))=true then kvs.map (fun kv=>if kv.1=k then(kv.1,v)else kv)else kvs++[(k,v)]
theorem cM{p:κ×V}{r:List (κ×V)}{k:κ}(e:p.1=k):cR (p::r) k=some p.2:=by simp[cR,md,e]
theorem cB{p:κ×V}{r:List (κ×V)}{k:κ}(e:¬p.1=k):cR (p::r) k=cR r k:=by simp[cR,md,e]
theorem jc(k:κ):∀kvs:List (κ×V),(kvs.any fun kv=>decide (kv.1=k))=(cR kvs k).isSome
 |[]=>rfl
 |p::r=>by
  rw[rO];by_cases e:p.1=k
  ·simp only[cM e,zzr1 e,Bool.true_or,Option.isSome_some]
  ·rw[cB e,zzr0 e,Bool.false_or];exact jc k r
theorem t9(k j:κ)(y:V):∀kvs:List (κ×V),cR (kvs.map fun kv=>if kv.1=k then(kv.1,y)else kv) j=(cR kvs j).map fun x=>if j=k then y else x
 |[]=>rfl
 |p::r=>by
  have ih:=t9 k j y r;rw[bM];by_cases h:p.1=k
  ·rw[if_pos h];by_cases e:p.1=j
   ·rw[cM (p:=(p.1,y)) e,cM e,oK,if_pos (e.symm.trans h)]
   ·rw[cB (p:=(p.1,y)) e,cB e,ih]
  ·rw[if_neg h];by_cases e:p.1=j
   ·rw[cM (p:=p) e,cM e,oK,if_neg (fun z=>h (e.trans z))]
   ·rw[cB (p:=p) e,cB e,ih]
theorem qw(k j:κ)(y:V):∀kvs:List (κ×V),cR kvs k=none->cR (kvs++[(k,y)]) j=if j=k then some y else cR kvs j
 |[],_=>by
  by_cases e:k=j
  ·rw[if_pos e.symm];exact cM (p:=(k,y)) e
  ·rw[if_neg (fun z=>e z.symm)];exact cB (p:=(k,y)) e
 |p::r,hn=>by
  rw[List.cons_append];have hk:¬p.1=k:=fun z=>by rw[cM z]at hn;cases hn
  rw[cB hk]at hn;have ih:=qw k j y r hn;by_cases e:p.1=j
  ·rw[cM e,cM e,if_neg (fun z=>hk (e.trans z))]
  ·rw[cB e,cB e,ih]
theorem t8(kvs:List (κ×V))(k j:κ)(y:V):cR (fA kvs k y) j=if j=k then some y else cR kvs j:=by
 unfold fA;by_cases a:(kvs.any fun kv=>decide (kv.1=k))=true
 ·rw[if_pos a,t9];rw[jc]at a;by_cases e:j=k
  ·obtain⟨x,hx⟩:=wR.mp a;rw[if_pos e,e,hx,oK,if_pos rfl]
  ·rw[if_neg e];cases cR kvs j with
   |none=>rfl
   |some x=>rw[oK,if_neg e]
 ·rw[if_neg a];refine qw k j y kvs ?_;rw[jc]at a;cases q:cR kvs k with
  |none=>rfl
  |some x=>rw[q]at a;exact(a rfl).elim
theorem jl(kvs:List (κ×V))(k:κ)(v:V):(fA kvs k v).length<=kvs.length+1:=by
 unfold fA;split
 ·rw[ak];omega
 ·rw[aH,cW,mh];omega
theorem ux{kvs:List (κ×V)}{k:κ}(v:V)(h:cR kvs k=none):fA kvs k v=kvs++[(k,v)]:=by
 unfold fA;rw[jc,h];exact if_neg (by decide)
theorem i7.isSome_eq{o:Option V}{u:Option Value}(r:i7 o u):o.isSome=u.isSome:=by
 cases o with
 |none=>cases u with
  |none=>rfl
  |some _=>exact(show False from r).elim
 |some _=>cases u with
  |none=>exact(show False from r).elim
  |some _=>rfl
theorem i7.getD{o:Option V}{u:Option Value}{d:V}{d':Value}(r:i7 o u)(rd:RelV d d'):RelV (o.getD d) (u.getD d'):=by
 cases o with
 |none=>cases u with
  |none=>exact rd
  |some _=>exact(show False from r).elim
 |some _=>cases u with
  |none=>exact(show False from r).elim
  |some _=>exact r
theorem KV.val{kvs:List (κ×V)}{vs:List (κ×Value)}(r:KV kvs vs)(k:κ):i7 (cR kvs k) (kb vs k):=by
 unfold KV at r
 induction r with
 |nil=>exact i0
 |@cons p q ps qs h t ih =>
  obtain⟨h1,h2⟩:=h;by_cases e:p.1=k
  ·have e':q.1=k:=h1.symm.trans e;have b:kb (q::qs) k=some q.2:=by simp[kb,md,e']
   rw[cM e,b];exact h2
  ·have e':¬q.1=k:=fun z=>e (h1.trans z);have b:kb (q::qs) k=kb qs k:=by simp[kb,md,e']
   rw[cB e,b];exact ih
theorem KV.any{kvs:List (κ×V)}{vs:List (κ×Value)}(r:KV kvs vs)(k:κ):(kvs.any fun kv=>decide (kv.1=k))=vs.any fun kv=>decide (kv.1=k):=by
 unfold KV at r
 induction r with
 |nil=>rfl
 |cons h t ih=>rw[rO,rO,ih,h.1]
theorem KV.repl{kvs:List (κ×V)}{vs:List (κ×Value)}(r:KV kvs vs)(k:κ){y:V}{u:Value}(ry:RelV y u):
  KV (kvs.map fun kv=>if kv.1=k then(kv.1,y)else kv) (vs.map fun kv=>if kv.1=k then(kv.1,u)else kv):=by
 unfold KV at r ⊢
 induction r with
 |nil=>exact .nil
 |@cons p q ps qs h t ih =>
  rw[bM,bM];refine .cons ?_ ih;obtain⟨h1,h2⟩:=h;by_cases e:p.1=k
  ·rw[if_pos e,if_pos (h1.symm.trans e)];exact⟨h1,ry⟩
  ·rw[if_neg e,if_neg (fun z=>e (h1.trans z))];exact⟨h1,h2⟩
theorem KV.put{kvs:List (κ×V)}{vs:List (κ×Value)}(r:KV kvs vs)(k:κ){y:V}{u:Value}(ry:RelV y u):KV (fA kvs k y) (stored vs k u):=by
 unfold fA stored;rw[r.any k];by_cases e:(vs.any fun kv=>decide (kv.1=k))=true
 ·rw[if_pos e,if_pos e];exact r.repl k ry
 ·rw[if_neg e,if_neg e];exact cf r ⟨rfl,ry⟩
theorem KV.length{kvs:List (κ×V)}{vs:List (κ×Value)}(r:KV kvs vs):kvs.length=vs.length:=Paired.length r
end
theorem nn{P:bt}{w:World}{k:dH}{u:Value}(r:RelV (kV k) u):(bJ P w).is k u=true:=by
 cases k with
 |inl i=>obtain⟨t,e⟩:=(show ∃t,u=Value.int i t from r);subst e;exact uI P w i t
 |inr x=>obtain⟨t,e⟩:=(show ∃t,u=Value.str x t from r);subst e;exact uH P w x t
theorem sT:∀{k:kM}{u:Value},RelV (CA k) u->gu k u=true
 |none,u,r=>by cases(show u=Value.none from r);rfl
 |some (.inl i),u,r=>by obtain⟨t,rfl⟩:=r;exact jE i t
 |some (.inr x),u,r=>by obtain⟨t,rfl⟩:=r;exact jD x t
abbrev KT(K:Za)(H:Hp):List (TK×V)->List (TK×Addr×Value)->Prop:=Paired fun p q=>p.1=q.1/\vj K H p.1 (.ref q.2.1)/\p.1.depth<=8/\RelV p.2 q.2.2
theorem KT.val{K:Za}{H:Hp}{kvs:List (TK×V)}{xs:List (TK×Addr×Value)}(r:KT K H kvs xs)(k:TK):i7 (cR kvs k) ((atKey xs k).map (·.2)):=by
 induction r with
 |nil=>exact i0
 |@cons p q ps qs h t ih =>
  obtain⟨h1,_,_,h2⟩:=h;by_cases e:p.1=k
  ·have e':q.1=k:=h1.symm.trans e;have b:atKey (q::qs) k=some q.2:=by simp[atKey,md,e']
   rw[cM e,b];exact h2
  ·have e':¬q.1=k:=fun z=>e (h1.trans z);have b:atKey (q::qs) k=atKey qs k:=by simp[atKey,md,e']
   rw[cB e,b];exact ih
theorem KT.repl{K:Za}{H:Hp}{kvs:List (TK×V)}{xs:List (TK×Addr×Value)}(r:KT K H kvs xs)(k:TK){y:V}{u:Value}(ry:RelV y u):
  KT K H (kvs.map fun kv=>if kv.1=k then(kv.1,y)else kv) (xs.map (putAt k u)):=by
 induction r with
 |nil=>exact .nil
 |@cons p q ps qs h t ih =>
  rw[bM,bM];refine .cons ?_ ih;obtain⟨h1,h2,h3⟩:=h;unfold putAt;by_cases e:p.1=k
  ·rw[if_pos e,if_pos (h1.symm.trans e)];exact⟨h1,h2,h3.1,ry⟩
  ·rw[if_neg e,if_neg (fun z=>e (h1.trans z))];exact⟨h1,h2,h3⟩
theorem KT.put{K:Za}{H:Hp}{kvs:List (TK×V)}{xs:List (TK×Addr×Value)}(r:KT K H kvs xs)(k:TK){b:Addr}{y:V}{u:Value}(hb:vj K H k (.ref b))(h8:k.depth<=8)(ry:RelV y u):
  KT K H (fA kvs k y) (storedH xs k b u):=by
 have e:(kvs.any fun kv=>decide (kv.1=k))=(atKey xs k).isSome:=by
  rw[jc,(r.val k).isSome_eq,Option.isSome_map]
 unfold fA storedH;rw[e];by_cases q:(atKey xs k).isSome=true
 ·rw[if_pos q,if_pos q];exact r.repl k ry
 ·rw[if_neg q,if_neg q];exact cf r ⟨rfl,hb,h8,ry⟩
theorem KT.keeps{K:Za}{H H':Hp}{kvs:List (TK×V)}{xs:List (TK×Addr×Value)}(r:KT K H kvs xs)(ht:∀b ys,H b=some (.tup ys)->H' b=some (.tup ys)):KT K H' kvs xs :=
 Paired.mapP r fun _ _ z=>⟨z.1,vj.keeps ht 8 z.2.2.1 z.2.1,z.2.2⟩
section
variable{P:bt}{w:World}{K:Za}{H:Hp}{h:Heap}{a:Addr}
theorem Cq{u:HO}(ok:j6 P w K H h)(e:Rd H a u):bW P w K H h a u:=e.ok ok
theorem nr{kvs:List (dH×V)}(ok:j6 P w K H h)(e:Rd H a (.dK kvs)):kvs.length<=ai/\(a==im)=false/\∃vs,KV kvs vs/\h.DictOf (bJ P w) a vs :=
 show bW P w K H h a (.dK kvs)from Cq ok e
theorem DJ{kvs:List (dH×V)}(ok:j6 P w K H h)(e:H a=some (.dK kvs)):kvs.length<=ai/\(a==im)=false/\∃vs,KV kvs vs/\h.DictOf (bJ P w) a vs:=nr ok (.inl e)
theorem CO(ok:j6 P w K H h)(kin:K.In h):∀(d:Nat) {k:TK}{v:V}{u:Value},k.depth<=d->vj K H k v->RelV v u->jV h k u:=by
 have key:∀(d:Nat) (ih:∀{k:TK}{v:V}{u:Value},k.depth<=d->vj K H k v->RelV v u->jV h k u) (ks:List TK) (vs:List V) (us:Zf),TK.depths ks<=d->TKCs K H ks vs->aV vs us->TAts h ks us:=by
  intro d ih ks
  induction ks with
  |nil =>
   intro vs us _ hx r;have e:vs=[]:=hx;subst e;cases r
   rfl
  |cons k ks ihl =>
   intro vs us hd hx r;obtain⟨v,vs',rfl,h1,h2⟩:=hx;cases r with
   |@cons _ u _ us' r1 r2 =>
    have hd':max k.depth (TK.depths ks)<=d:=hd;exact⟨u,us',rfl,ih (by omega) h1 r1,ihl vs' us' (by omega) h2 r2⟩
 intro d
 induction d with
 |zero =>
  intro k v u hd hx r;cases k with
  |t l=>exact absurd hd (by show ¬(TK.depths l+1<=0);omega)
  |k b =>
   have e:v=CA b:=hx;subst e;exact sT r
 |succ d ih =>
  intro k v u hd hx r;cases k with
  |k b =>
   have e:v=CA b:=hx;subst e;exact sT r
  |t l =>
   obtain⟨b,xs,rfl,hb,hi⟩:=hx;cases(show u=Value.ref b from r);obtain⟨its,rv,ob,h1,h2,n,h3⟩:∃its:List Value,aV xs its/\IsTup h b its.toArray:=by
    rcases hb with hb|⟨o,its,n,hk,hc,hs,hz,r⟩
    ·obtain⟨_,its,rv,p⟩:=(show bW P w K H h b (.tup xs)from ok b _ hb);exact⟨its,rv,p⟩
    ·exact⟨its.toList,r,o,kin b o hk,hc,n,by simpa using hs⟩
   exact⟨b,ob,its.toArray,n,rfl,h1,h2,h3,by simpa using key d (fun h1=>ih h1) l xs its (by have:TK.depths l+1<=d+1:=hd;omega) hi rv⟩
theorem wc{k:TK}(ok:j6 P w K H h)(kin:K.In h)(e:vj K H k (.ref a))(h8:k.depth<=8):(eo P w).is h k a:=⟨CO ok kin 8 h8 e rfl,h8⟩
theorem pF{kvs:List (TK×V)}(ok:j6 P w K H h)(kin:K.In h)(e:Rd H a (.dT kvs)):kvs.length<=ai/\(a==im)=false /\
  ∃xs,KT K H kvs xs/\h.DictOfH (eo P w) a xs:=by
 obtain⟨z,y,xs,r,o,es,ep,h1,h2,h3,h4,h5⟩:=(show bW P w K H h a (.dT kvs)from Cq ok e);refine⟨z,y,xs,r,o,es,ep,h1,h2,h3,h4,fun x hx=>?_,h5⟩;have all:∀{l:List (TK×V)}{m:List (TK×Addr×Value)},KT K H l m->∀x∈m,(eo P w).is h x.1 x.2.1:=by
  intro l m q
  induction q with
  |nil=>intro x hx;exact nomatch hx
  |@cons p q ps qs hq t ih =>
   intro x hx;rcases bS.mp hx with e|hx
   ·subst e;exact wc ok kin (by rw[<-hq.1];exact hq.2.1) (by rw[<-hq.1];exact hq.2.2.1)
   ·exact ih x hx
 exact all r x hx
theorem CC{kvs:List (TK×V)}(ok:j6 P w K H h)(kin:K.In h)(e:H a=some (.dT kvs)):kvs.length<=ai/\(a==im)=false /\
  ∃xs,KT K H kvs xs/\h.DictOfH (eo P w) a xs:=pF ok kin (.inl e)
end
mutual
def nP(K:Za)(H:Hp):TK->V->Prop
 |.k a,v=>v=CA a
 |.t l,v=>∃b xs,v=.ref b/\bc K H b xs/\TKIns K H l xs
def TKIns(K:Za)(H:Hp):List TK->List V->Prop
 |[],vs=>vs=[]
 |k::r,vs=>∃v us,vs=v::us/\nP K H k v/\TKIns K H r us
end
theorem gD.isIn{K:Za}{H:Hp}:∀(d:Nat) {k:TK}{v:V},k.depth<=d->gD H k v->nP K H k v:=by
 have key:∀(d:Nat) (ih:∀{k:TK}{v:V},k.depth<=d->gD H k v->nP K H k v) (xs:List TK) (vs:List V),TK.depths xs<=d->TKAts H xs vs->TKIns K H xs vs:=by
  intro d ih xs
  induction xs with
  |nil=>intro vs _ hx;exact hx
  |cons x xs ihl =>
   intro vs hd hx;obtain⟨v,us,rfl,hx1,hx2⟩:=hx;have hd':max x.depth (TK.depths xs)<=d:=hd;exact⟨v,us,rfl,ih (by omega) hx1,ihl us (by omega) hx2⟩
 intro d
 induction d with
 |zero =>
  intro k v hd hx;cases k with
  |t l=>exact absurd hd (by show ¬(TK.depths l+1<=0);omega)
  |k a=>exact hx
 |succ d ih =>
  intro k v hd hx;cases k with
  |k a=>exact hx
  |t l =>
   obtain⟨b,xs,rfl,hb,hi⟩:=hx;exact⟨b,xs,rfl,bc.of hb,key d (fun h1=>ih h1) l xs (by have:TK.depths l+1<=d+1:=hd;omega) hi⟩
theorem Bv{X:Cx}{J5:Zd}{σ:St}{H:Hp}{s:Shared}(I:Inv X J5 σ H s):∀(d:Nat) {k:TK}{v:V}{u:Value},k.depth<=d->nP X.K H k v->RelV v u->jV s.heap k u:=by
 have key:∀(d:Nat) (ih:∀{k:TK}{v:V}{u:Value},k.depth<=d->nP X.K H k v->RelV v u->jV s.heap k u) (ks:List TK) (vs:List V) (us:Zf),TK.depths ks<=d->TKIns X.K H ks vs->aV vs us->TAts s.heap ks us:=by
  intro d ih ks
  induction ks with
  |nil =>
   intro vs us _ hx r;have e:vs=[]:=hx;subst e;cases r
   rfl
  |cons k ks ihl =>
   intro vs us hd hx r;obtain⟨v,vs',rfl,h1,h2⟩:=hx;cases r with
   |@cons _ u _ us' r1 r2 =>
    have hd':max k.depth (TK.depths ks)<=d:=hd;exact⟨u,us',rfl,ih (by omega) h1 r1,ihl vs' us' (by omega) h2 r2⟩
 intro d
 induction d with
 |zero =>
  intro k v u hd hx r;cases k with
  |t l=>exact absurd hd (by show ¬(TK.depths l+1<=0);omega)
  |k b =>
   have e:v=CA b:=hx;subst e;exact sT r
 |succ d ih =>
  intro k v u hd hx r;cases k with
  |k b =>
   have e:v=CA b:=hx;subst e;exact sT r
  |t l =>
   obtain⟨b,xs,rfl,hb,hi⟩:=hx;cases(show u=Value.ref b from r);obtain⟨its,rv,⟨ob,h1,h2,n,h3⟩,_⟩:=I.tuple hb;exact⟨b,ob,its.toArray,n,rfl,h1,h2,h3,by simpa using key d (fun h1=>ih h1) l xs its (by have:TK.depths l+1<=d+1:=hd;omega) hi rv⟩
theorem sS{X:Cx}{J5:Zd}{σ:St}{H:Hp}{s:Shared}{k:TK}{b:Addr}(I:Inv X J5 σ H s)(e:nP X.K H k (.ref b))(h8:k.depth<=8):(eo X.prog X.w).is s.heap k b:=⟨Bv I 8 h8 e rfl,h8⟩
theorem fW{P:bt}{w:World}{A:Around}(hu:A.units+16<cLine):(eo P w).room A.in1:=by
 show A.units+1+8<cLine;omega
def tN(K:Za)(H:Hp)(a:Addr)(y:V)(r:Option V):Prop :=
 (∃kvs k,Rd H a (.dK kvs)/\y=kV k/\r=cR kvs k)∨∃kvs k b,Rd H a (.dT kvs)/\y=.ref b/\nP K H k (.ref b)/\k.depth<=8/\r=cR kvs k
def DS(H:Hp)(a:Addr)(y v:V)(H':Hp):Prop :=
 (∃kvs k,H a=some (.dK kvs)/\y=kV k/\kvs.length<ai/\H'=upd H a (.dK (fA kvs k v))) ∨
 ∃kvs k b,H a=some (.dT kvs)/\y=.ref b/\gD H k (.ref b)/\k.depth<=8/\kvs.length<ai/\H'=upd H a (.dT (fA kvs k v))
section
variable{X:Cx}{J5:Zd}{σ:St}{H:Hp}{s:Shared}{a:Addr}{y v:V}{u r:Value}{o:Option V}{A:Around}{E:Zc}
theorem Inv.big(I:Inv X J5 σ H s):im<s.heap.objs.size:=by
 have h:bj<s.heap.objs.size:=(I.mod.glob.keeps I.bk).lt;exact Nat.lt_trans (by decide) h
theorem zb{Q:Zc}(hu:A.units+16<cLine)(I:Inv X J5 σ H s)(g:tN X.K H a y (some v))(ry:RelV y u)(h:∀w' s',Inv X J5 σ H s'->RelV v w'->Q w' s'):
  wpAny (model X.prog X.w) A (kf (.ref a) u) Q E s:=by
 rcases g with⟨kvs,k,e,ey,l⟩|⟨kvs,k,b,e,ey,eb,e8,l⟩
 ·subst ey;obtain⟨z,hd,vs,rel,dd⟩:=nr I.hok e;obtain⟨w',hw,rw'⟩:=i7.some_of (v:=v) (o:=kb vs k) (by rw[l];exact rel.val k);exact wpAny_getItem_of (nn ry) dd.mapOf hw (h w' _ (I.tok _) rw')
 ·subst ey;cases(show u=Value.ref b from ry);obtain⟨z,hd,xs,rel,dd⟩:=pF I.hok I.kIn e;obtain⟨w',hw,rw'⟩:=i7.some_of (v:=v) (o:=(atKey xs k).map (·.2)) (by rw[l];exact rel.val k);obtain⟨p,hp,hp2⟩:=Option.map_eq_some_iff.mp hw;refine wpAny_getItem_heap (fW hu) (sS I eb e8) dd hp ?_;rw[hp2];exact h w' _ (I.tok _) rw'
theorem d_in{Q:Zc}(hu:A.units+16<cLine)(I:Inv X J5 σ H s)(g:tN X.K H a y o)(ry:RelV y u)(h:∀s',Inv X J5 σ H s'->Q (.bool o.isSome) s'):
  wpAny (model X.prog X.w) A (cL .In u (.ref a)) Q E s:=by
 rcases g with⟨kvs,k,e,ey,l⟩|⟨kvs,k,b,e,ey,eb,e8,l⟩
 ·subst ey;obtain⟨z,hd,vs,rel,dd⟩:=nr I.hok e;refine wpAny_in_of (nn ry) hd dd.mapOf ?_;rw[<-(rel.val k).isSome_eq,<-l];exact h _ (I.tok _)
 ·subst ey;cases(show u=Value.ref b from ry);obtain⟨z,hd,xs,rel,dd⟩:=pF I.hok I.kIn e;refine wpAny_in_heap (fW hu) (sS I eb e8) hd dd ?_;have q:=(rel.val k).isSome_eq;rw[Option.isSome_map]at q;rw[<-q,<-l];exact h _ (I.tok _)
theorem B9{Q:Zc}(hu:A.units+16<cLine)(I:Inv X J5 σ H s)(g:tN X.K H a y o)(ry:RelV y u)(h:∀s',Inv X J5 σ H s'->Q (.bool (!o.isSome)) s'):
  wpAny (model X.prog X.w) A (cL .NotIn u (.ref a)) Q E s:=by
 rcases g with⟨kvs,k,e,ey,l⟩|⟨kvs,k,b,e,ey,eb,e8,l⟩
 ·subst ey;obtain⟨z,hd,vs,rel,dd⟩:=nr I.hok e;refine wpAny_notIn_of (nn ry) hd dd.mapOf ?_;rw[<-(rel.val k).isSome_eq,<-l];exact h _ (I.tok _)
 ·subst ey;cases(show u=Value.ref b from ry);obtain⟨z,hd,xs,rel,dd⟩:=pF I.hok I.kIn e;refine wpAny_notIn_heap (fW hu) (sS I eb e8) hd dd ?_;have q:=(rel.val k).isSome_eq;rw[Option.isSome_map]at q;rw[<-q,<-l];exact h _ (I.tok _)
theorem tj{h':Heap}{t':Nat}{ob:HO}(I:Inv X J5 σ H s)(mu:DO (H a))(hs:ij a s.heap h')(he:∃q,h'.get? a=some q)(new:bW X.prog X.w X.K (upd H a ob) h' a ob):
  Inv X J5 σ (upd H a ob) { s with heap:=h',toks:=t' } :=
 I.write (x:=a) (e:=a) mu (.inl rfl) (fun b q hb z=>(hs.2 b hb).trans z) he new
theorem AV{P:bt}{w:World}{K:Za}{H':Hp}{h':Heap}{kvs:List (dH×V)}{vs:List (dH×Value)}(z:kvs.length<=ai)(hd:(a==im)=false)(rel:KV kvs vs)(dd:h'.DictOf (bJ P w) a vs):
  bW P w K H' h' a (.dK kvs):=⟨z,hd,vs,rel,dd⟩
theorem y_{H':Hp}{Q:Unit->Shared->Prop}(hu:A.units+16<cLine)(I:Inv X J5 σ H s)(g:DS H a y v H')(ry:RelV y u)(rv:RelV v r)(h:∀s',Inv X J5 σ H' s'->Q () s'):
  wpAny (model X.prog X.w) A (setItem (.ref a) u r) Q E s:=by
 rcases g with⟨kvs,k,e,ey,l,eH⟩|⟨kvs,k,b,e,ey,eb,e8,l,eH⟩
 ·subst ey eH;obtain⟨z,hd,vs,rel,dd⟩:=DJ I.hok e;have hz:vs.length<=ai:=by rw[<-rel.length];exact z
  have hl:(fA kvs k v).length<=ai:=by have:=jl kvs k v;omega
  refine wpAny_setItem_pairs (hsz:=hz) (nn ry) dd fun h' dd' hs=>h _ ?_;have he:∃q,h'.get? a=some q:=let⟨q,_,_,hq,_⟩:=dd';⟨q,hq⟩;exact tj I (by rw[e];exact i0) hs he (AV hl hd (rel.put k rv) dd')
 ·subst ey eH;cases(show u=Value.ref b from ry);obtain⟨z,hd,xs,rel,dd⟩:=CC I.hok I.kIn e;have hz:xs.length<=ai:=by rw[<-Paired.length rel];exact z
  have hl:(fA kvs k v).length<=ai:=by have:=jl kvs k v;omega
  refine wpAny_setItem_heap (hsz:=hz) (fW hu) (wc I.hok I.kIn (gD.c 8 e8 eb) e8) dd fun h' dd' hs=>h _ ?_;obtain⟨q,es,ep,hq,h2,h3,h4,_,h5⟩:=dd';refine tj I (by rw[e];exact i0) hs ⟨q,hq⟩ ⟨hl,hd,_,(rel.put k (gD.c 8 e8 eb) e8 rv).keeps fun c ys ec=>?_,q,es,ep,hq,h2,h3,h4,h5⟩;rw[aj (Cw ec e (fun z=>nomatch z))];exact ec
end
def zz(i:Expr):Prop:=∀ov iv,rP i false ov iv=operate [ov,iv] (kf ov iv)
theorem By{prog:bt}{w:World}{A:Around}{E:Zc}{s:Shared}{env:Env}{value slice:Expr}{pos:Pos}{T id:String}{Q:Zc}
  (hl:typeLookup (.type T) "__getitem__"=pure (some (.builtin id))) (hs:zz slice)
  (h:wpAny (model prog w) A (eval value env) (fun o s₁=>wpAny (model prog w) A (eval slice env) (fun i s₂=>s₂.TypeIs o T/\wpAny (model prog w) A (kf o i) Q E s₂) E s₁) E s) :
  wpAny (model prog w) A (eval (.Subscript value slice pos) env) Q E s:=by
 refine Subscript_ (jO h (fun o s₁ h₁=>jO h₁ (fun i s₂ h₂=>?_) fun _ _ x=>x) fun _ _ x=>x);obtain⟨hT,h₂⟩:=h₂;unfold subscriptTail;refine am ?_;rw[getitemInPython_of_ne hT.not_modules];refine am (Bp hT hl ?_);have fin:wpAny (model prog w) A (rP slice false o i) (fun r s₃=>wpAny (model prog w) A (letTemporaryGo value o r >>= fun _=>pure r) Q E s₃) E s₂:=by
  rw[hs o i];exact wpAny_operating (jO h₂ (fun r s₃ h₃=>am (wpAny_letTemporaryGo (aE h₃))) fun _ _ x=>x)
 first
  |exact aE (am fin)
  |exact am (aE (am fin))
  |exact am fin
theorem uU{X:Cx}{J5:Zd}{σ:St}{H:Hp}{s:Shared}{a:Addr}{y:V}{o:Option V}(I:Inv X J5 σ H s)(g:tN X.K H a y o):s.TypeIs (.ref a) "dict":=by
 rcases g with⟨kvs,k,e,_,_⟩|⟨kvs,k,b,e,_,_,_⟩
 ·obtain⟨_,_,vs,_,dd⟩:=nr I.hok e;exact dd.typeIs
 ·obtain⟨_,_,xs,_,dd⟩:=pF I.hok I.kIn e;exact dd.typeIs
def xm(K:Za)(td ty:TE):TE:=fun σ H Q=>td σ H fun x H1=>ty σ H1 fun y H2=>∃a v,x=.ref a/\tN K H2 a y (some v)/\Q v H2
def Bx(K:Za)(ty td:TE):TE:=fun σ H Q=>ty σ H fun y H1=>td σ H1 fun x H2=>∃a o,x=.ref a/\tN K H2 a y o/\Q (.bl o.isSome) H2
def nS(K:Za)(ty td:TE):TE:=fun σ H Q=>ty σ H fun y H1=>td σ H1 fun x H2=>∃a o,x=.ref a/\tN K H2 a y o/\Q (.bl (!o.isSome)) H2
def qG(td ty tv:TE):TS:=fun D σ H=>tv σ H fun v H1=>td σ H1 fun x H2=>ty σ H2 fun y H3=>∃a H4,x=.ref a/\DS H3 a y v H4/\D.nx σ H4
section
variable{X:Cx}{o i e value:Expr}{pos pos' J9:Pos}{td ty tv:TE}
theorem sI(hu:X.A.units+16<cLine)(ho:PE X o td)(hi:PE X i ty)(hs:zz i):PE X (.Subscript o i pos) (xm X.K td ty):=by
 intro J5 s σ H Q I h;refine By PySem.F.slot_dict_getitem.lookup hs (cj (ho J5 s σ H _ I h) fun u s1 ⟨x,H1,I1,rx,q1⟩=>cj (hi J5 s1 σ H1 _ I1 q1) fun iv s2 zq0=>?_);obtain⟨y,H2,I2,ry,a,v,ex,g,q2⟩:=zq0;subst ex;obtain rfl:u=Value.ref a:=rx;exact⟨uU I2 g,zb hu I2 g ry fun w' s3 I3 rw'=>⟨v,H2,I3,rw',q2⟩⟩
theorem vY(hu:X.A.units+16<cLine)(hi:PE X i ty)(ho:PE X o td):PC X .In i o (Bx X.K ty td):=by
 intro J5 s σ H Q I h;refine cj (hi J5 s σ H _ I h) fun iv s1 ⟨y,H1,I1,ry,q1⟩=>cj (ho J5 s1 σ H1 _ I1 q1) fun u s2 zq0=>?_;obtain⟨x,H2,I2,rx,a,ov,ex,g,q2⟩:=zq0;subst ex;obtain rfl:u=Value.ref a:=rx;exact d_in hu I2 g ry fun s3 I3=>⟨.bl ov.isSome,H2,I3,rfl,q2⟩
theorem mz(hu:X.A.units+16<cLine)(hi:PE X i ty)(ho:PE X o td):PC X .NotIn i o (nS X.K ty td):=by
 intro J5 s σ H Q I h;refine cj (hi J5 s σ H _ I h) fun iv s1 ⟨y,H1,I1,ry,q1⟩=>cj (ho J5 s1 σ H1 _ I1 q1) fun u s2 zq0=>?_;obtain⟨x,H2,I2,rx,a,ov,ex,g,q2⟩:=zq0;subst ex;obtain rfl:u=Value.ref a:=rx;exact B9 hu I2 g ry fun s3 I3=>⟨.bl (!ov.isSome),H2,I3,rfl,q2⟩
theorem lz(hu:X.A.units+16<cLine)(ho:PE X o td)(hi:PE X i ty)(hv:PE X value tv)(hs:om value (some (.Subscript o i pos')) pos.line X.env=pure false):
  PS X (.Assign [.Subscript o i pos'] value pos) (qG td ty tv):=by
 intro J5 s σ H D I h;refine wpAny_Assign_Subscript (cj (hv J5 s σ H _ I h) fun r s1 ⟨v,H1,I1,rv,q1⟩=>cj (ho J5 s1 σ H1 _ I1 q1) fun u s2 ⟨x,H2,I2,rx,q2⟩=>cj (hi J5 s2 σ H2 _ I2 q2) fun iv s3 zq0=>?_) hs;obtain⟨y,H3,I3,ry,a,H4,ex,g,q3⟩:=zq0;subst ex;obtain rfl:u=Value.ref a:=rx;exact y_ hu I3 g ry rv fun s4 I4=>⟨σ,H4,I4,q3⟩
end
theorem AW{P:bt}{w:World}{K:Za}{H:Hp}(h:Heap)(hb:im<h.objs.size):bW P w K H (h.push { cls:=.type "dict",data:=.dict #[] }) h.objs.size (.dK []) :=
 ⟨bN _,beq_eq_false_iff_ne.mpr (ga (b_ hb)),[],.nil,Heap.DictOf.new h⟩
theorem AU{P:bt}{w:World}{K:Za}{H:Hp}(h:Heap)(hb:im<h.objs.size):bW P w K H (h.push { cls:=.type "dict",data:=.dict #[] }) h.objs.size (.dT []) :=
 ⟨bN _,beq_eq_false_iff_ne.mpr (ga (b_ hb)),[],.nil,_,#[],0,cK _ rfl,⟨rfl,rfl,rfl⟩,rfl,rfl,rN⟩
def so:TE:=fun _ H Q=>∀p,H p=none->Q (.ref p) (upd H p (.dK []))
def vI:TE:=fun _ H Q=>∀p,H p=none->Q (.ref p) (upd H p (.dT []))
section
variable{X:Cx}{pos:Pos}
theorem pk:PE X (.Dict [] [] pos) so:=fun J5 s σ H Q I h =>
 wpAny_Dict_empty ⟨.ref s.heap.objs.size,_,I.laid (a:=s.heap.objs.size) (o:=.dK []) (t':=s.toks) (fun _ _ q=>aZ _ q) (ax _) (AW s.heap I.big),rfl,h _ (I.hok.fresh (ax _))⟩
theorem uB:PE X (.Dict [] [] pos) vI:=fun J5 s σ H Q I h =>
 wpAny_Dict_empty ⟨.ref s.heap.objs.size,_,I.laid (a:=s.heap.objs.size) (o:=.dT []) (t':=s.toks) (fun _ _ q=>aZ _ q) (ax _) (AU s.heap I.big),rfl,h _ (I.hok.fresh (ax _))⟩
end
def h_(kvs more:List (dH×V)):List (dH×V):=more.foldl (fun acc kv=>fA acc kv.1 kv.2) kvs
theorem KV.merge:∀{more:List (dH×V)}{rs:List (dH×Value)}{kvs:List (dH×V)}{vs:List (dH×Value)},KV more rs->KV kvs vs->KV (h_ kvs more) (merged vs rs):=by
 intro more rs kvs vs r;unfold KV at r
 induction r generalizing kvs vs with
 |nil=>intro q;exact q
 |@cons p q ps qs h t ih =>
  intro r0;have e:KV (fA kvs p.1 p.2) (stored vs q.1 q.2):=by
   have:=r0.put p.1 h.2;rw[<-h.1];exact this
  exact ih e
theorem j5:∀(more kvs:List (dH×V)),(h_ kvs more).length<=kvs.length+more.length
 |[],kvs=>by show kvs.length<=kvs.length+0;omega
 |p::r,kvs=>by
  have h1:=j5 r (fA kvs p.1 p.2);have h2:=jl kvs p.1 p.2;show(h_ (fA kvs p.1 p.2) r).length<=_;rw[cW];omega
structure M2(X:Cx)(o:Expr)(m:Str)(J7:Pos)(e f:Expr)(J6:Pos):Prop where
 base:tT o m X.env (eval o X.env)=eval o X.env
 few:((backTo J6 (aN [e,f] X.env)).all (fun x=>!x.1) && (tS J6 (tR [] X.env)).all (fun x=>x.1.isSome)
  && decide (([e,f]:List Expr).length+([]:List Keyword).length+(if([]:List Keyword).isEmpty then 0 else 1)<30))=true
 line:(J7.endLine==J6.line)=true
 trees:backTo J6 (aN [e,f] X.env)=[(false,eval e X.env),(false,eval f X.env)]
def IsD(H:Hp)(a:Addr):Prop:=(∃kvs,Rd H a (.dK kvs))∨∃kvs,Rd H a (.dT kvs)
theorem C8{X:Cx}{J5:Zd}{σ:St}{H:Hp}{s:Shared}{a:Addr}(I:Inv X J5 σ H s)(d:IsD H a):
  s.TypeIs (.ref a) "dict"/\(∀b,Value.ref a=.ref b->∃ob,s.heap.get? b=some ob/\ob.dict=none)/\(a==im)=false:=by
 rcases d with⟨kvs,e⟩|⟨kvs,e⟩
 ·obtain⟨_,hd,vs,_,dd⟩:=nr I.hok e;refine⟨dd.typeIs,fun b q=>?_,hd⟩;cases q;obtain⟨ob,_,_,h1,h2,_⟩:=dd;exact⟨ob,h1,h2.2.1⟩
 ·obtain⟨_,hd,xs,_,dd⟩:=pF I.hok I.kIn e;refine⟨dd.typeIs,fun b q=>?_,hd⟩;cases q;obtain⟨ob,_,_,h1,h2,_⟩:=dd;exact⟨ob,h1,h2.2.1⟩
section
variable{X:Cx}{J5:Zd}{σ:St}{H:Hp}{s:Shared}{a:Addr}{y d:V}{u r:Value}{o:Option V}{A:Around}{E:Zc}
theorem Db{Q:Zc}(hu:A.units+16<cLine)(I:Inv X J5 σ H s)(g:tN X.K H a y o)(ry:RelV y u)(rd:RelV d r)(h:∀w' s',Inv X J5 σ H s'->RelV (o.getD d) w'->Q w' s'):
  wpAny (model X.prog X.w) A (call (.builtin "dict.get") [.ref a,u,r]) Q E s:=by
 rcases g with⟨kvs,k,e,ey,l⟩|⟨kvs,k,b,e,ey,eb,e8,l⟩
 ·subst ey;obtain⟨z,hd,vs,rel,dd⟩:=nr I.hok e;refine call_meetsIn PySem.F.slot_dict_get dd.typeIs PySem.F.entry_dict_get (PySem.F.args_dict_get_3 _ _ _) (meets_dict_get_default (bJ X.prog X.w) a (nn ry) hd r) ⟨_,dd.mapOf,h _ _ (I.tok _) ?_⟩;rw[l];exact(rel.val k).getD rd
 ·subst ey;cases(show u=Value.ref b from ry);obtain⟨z,hd,xs,rel,dd⟩:=pF I.hok I.kIn e;refine call_meetsIn PySem.F.slot_dict_get dd.typeIs PySem.F.entry_dict_get (PySem.F.args_dict_get_3 _ _ _) (meetsH_dict_get_default (eo X.prog X.w) a b hd r) ⟨fW hu,k,xs,sS I eb e8,dd,h _ _ (I.tok _) ?_⟩;rw[l];exact(rel.val k).getD rd
end
def z6(K:Za)(td ty tx:TE):TE:=fun σ H Q=>td σ H fun x H1=>∃a,x=.ref a/\IsD H1 a/\ty σ H1 fun y H2=>tx σ H2 fun z H3=>∃o,tN K H3 a y o/\Q (o.getD z) H3
section
variable{X:Cx}{o e f:Expr}{J7 J6:Pos}{td ty tx:TE}
theorem Ar(hu:X.A.units+16<cLine)(ho:PE X o td)(he:PE X e ty)(hf:PE X f tx)(m:M2 X o "get" J7 e f J6):PE X (.Call (.Attribute o "get" J7) [e,f] [] J6) (z6 X.K td ty tx):=by
 intro J5 s σ H Q I h;refine wpAny_Call_method m.base m.few m.line PySem.F.plainAttrs_dict PySem.F.slot_dict_get PySem.F.type_dict_get (cj (ho J5 s σ H _ I h) fun u s1 zq0=>?_);obtain⟨x,H1,I1,rx,a,ex,d,q1⟩:=zq0;subst ex;obtain rfl:u=Value.ref a:=rx;obtain⟨t1,t2,_⟩:=C8 I1 d;refine⟨t1,t2,?_⟩;rw[m.trees];refine Calls.callWith_builtin rfl (Calls.evalArgs_plain (Calls.spliced_cons (cj (he J5 s1 σ H1 _ I1 q1) fun iv s2 ⟨y,H2,I2,ry,q2⟩ =>
  Calls.spliced_cons (cj (hf J5 s2 σ H2 _ I2 q2) fun fv s3 ⟨z,H3,I3,rz,ov,g,q3⟩=>Calls.spliced_nil ?_))))
 exact Db hu I3 g ry rz fun w' s4 I4 rw'=>⟨_,H3,I4,rw',q3⟩
end
end L2
namespace Att
open PySem PySem.W PySem.Calls PyProof.Rows
theorem ints_of_wellAll{P:Params}{h:Heap}:∀(ns:List Int) (vs:Zf),WellAll P h vs (ns.map WData.int)->ei vs ns:=by
 intro ns
 induction ns with
 |nil =>
  intro vs w;rw[List.map_nil]at w;cases w;exact .nil
 |cons n ns ih =>
  intro vs w;rw[bM]at w;cases w with
  |cons a b =>
   cases a;exact .cons _ _ (ih _ b)
theorem script_of{l:OpenLaw}{n:Nat}(hn:l.most=some n){P:Params}{h:Heap}{args:List WData}{vals:Zf}
  (hpre:l.row.toRowW.claim.pre args=true) (hwl:WellAll P h vals args) :
  ∃a vs ns,vals=[Value.ref a]/\args=[WData.list (ns.map WData.int)]/\h.get? a=some { cls:=.type "list",data:=.seq vs.toArray }/\ei vs ns/\ns.length<=n:=by
 have hsh:WShape.hasAll [] args [.list .int]=true:=(pre_splitW hpre).1;have hc:l.pre.holds [] { args:=args }=true:=(pre_splitW hpre).2;obtain⟨d,r,rfl,h1,h2⟩:=hasAllW_cons hsh;obtain rfl:=hasAllW_nil h2;obtain⟨xs,rfl,h3⟩:=hasW_list h1;obtain⟨ns,rfl⟩:=items_int h3;have hlen:ns.length<=n:=by
  unfold OpenLaw.pre at hc;have h4:(WTm.not (.lt (.lit (.int (n:Int))) (.len (.arg 0)))).holds [] { args:=[.list (ns.map .int)] }=true:=by
   have h4:=(holds_andW hc).1;rw[hn]at h4;exact h4
  have h5:=condW_of h4 (w_not (w_lt w_lit (w_len_list (w_arg rfl))));rw[ak]at h5;refine Nat.le_of_not_lt fun q=>?_;have q':(n:Int)<((ns.length:Nat):Int):=by omega
  first
   | (rw[zzr1 q']at h5;exact absurd h5 (by decide))
   | (simp at h5;omega)
 cases hwl with
 |cons w1 w2 =>
  cases w2;cases w1 with
  |list ho hall=>exact⟨_,_,ns,rfl,rfl,ho,ints_of_wellAll ns _ hall,hlen⟩
theorem post_true(l:OpenLaw)(args:List WData):l.row.toRowW.claim.post args (.bool true) args=true :=
 postW_of (r:=l.row.toRowW) (X:=(true==true))
  (show WShape.has [] (.bool true) .bool=true by first|rfl|decide|simp[WShape.has,WShape.arms,WShape.armsAll])
  (show(WTm.eq .res (.lit (.bool true))).value [] { args:=args,res:=some (.bool true),after:=args }=some (.bool (true==true))from w_eq_bool (w_res rfl) w_lit) rfl
theorem attach_call{l:OpenLaw}{n:Nat}{q:bt}{loose:Zb}{XP:(Str->Option Value)->Heap->Prop}{YP:World->Heap->Prop}{d:DefRec}
  (hn:l.most=some n) (hdf:d.params.defaults=[])
  (call:∀(w:World) (s₀ s₁:Shared) (mg mb:Str->Option Value) (fa:Addr) (o:Obj) (pm cd doc:Value) (a:Addr) (vs:Zf) (ns:List Int),
   Ground q loose [] XP w s₀ mg mb s₁.heap->YP w s₁.heap ->
   s₁.heap.get? fa=some o->o.data=.func (docDef d.name d.params d.body d.scope pm cd doc)->s₁.heap.CodeRec cd d.name->mg d.name=some (.ref fa) ->
   s₁.heap.get? a=some { cls:=.type "list",data:=.seq vs.toArray }->ei vs ns->ns.length<=n->s₁.gens=#[] ->
   zzl77 (model l.prog w) jb (.call (.ref fa) ⟨[.ref a],[]⟩) (fun r s'=>r=.ok (.ret (.bool true))/\OldK s₁.heap s'.heap/\s'.os=s₁.os/\kR s'.gens) s₁) :
  WalkO q loose XP YP l.row.toRowW d [] (fun f vs=>PySem.call f vs):=by
 intro w s₀ s₁ mg mb G Y fa o pm cd doc dV kV ho hd hcd hD hmg hg args vals as hpre hlay hrd hwl hlo;obtain rfl:dV=.none:=Dflts.none hD hdf;obtain rfl:kV=.none:=Dflts.noKw hD;obtain⟨a,vs,ns,rfl,rfl,hobj,hints,hlen⟩:=script_of hn hpre hwl;refine enter_call (wU (call w s₀ s₁ mg mb fa o pm cd doc a vs ns G Y ho (fd_plain hd) hcd hmg hobj hints hlen hg) fun r s' hq=>?_);obtain⟨rfl,h2,h3,h4⟩:=hq;exact⟨.inl ⟨.bool true,.bool true,[],rfl,fun _=>rfl,.bool true,post_true l _,fun _=>⟨List.Pairwise.nil,fun _ hm=>(nomatch hm)⟩⟩,h2,h3,h4⟩
end Att
namespace L2
open PySem PySem.Spec PyProof.Rows
theorem qv:∀{vs:Zf}{ns:List Int},ei vs ns->aV (ns.map V.int) vs
 |_,_,.nil=>.nil
 |_,_,.cons n t h=>.cons ⟨t,rfl⟩ (qv h)
def Cg(H:Hp):Prop:=∀b,H b=none∨∃o xs,H b=some (.frz o (.lst xs))
theorem AD{P:bt}{w:World}{K:Za}{mg mb:Str->Option Value}{CX:zL}{k:Nat}{fa a:Addr}{fd:iZ}{x:Str}{sp:Sp}{s₁:Shared}{vs:Zf}{ns:List Int}
  (KX:K.In s₁.heap) (hns:s₁.heap.Ns bj mg) (hb:s₁.heap.Ns builtinsNs mb) (hbb:∀x:Str,x≠"__name__"->mb x=gb x) (hlim:s₁.heap.NoLimit) (hg:s₁.gens=#[])
  (ha:s₁.heap.get? a=some { cls:=.type "list",data:=.seq vs.toArray }) (hi:ei vs ns) (hl:ns.length<=ai) (hr:dS k jb)
  (F:∀base:Heap,K.In base->base.Ns bj mg->jZ P w K mg base CX k fa fd [x] sp) (hbind:∀(s:Shared) (u:Value),oh s fd ⟨[u],[]⟩ [(x,u)])
  (hsp:∀H:Hp,Cg H->ay K H a (ns.map V.int)->sp [.ref a] H (fun v _=>v=.bl true) fun _ _ _=>False)
  (hCX:∀H e s',CX [] H s₁ (fun _ _ _=>False) e s'->False) :
  zzl77 (model P w) jb (.call (.ref fa) ⟨[.ref a],[]⟩) (fun r s'=>r=.ok (.ret (.bool true))/\OldK s₁.heap s'.heap/\s'.os=s₁.os/\kR s'.gens) s₁:=by
 have rv:=qv hi;have lenV:=hi.length;have core:∀H:Hp,Cg H->ay K H a (ns.map V.int)->j6 P w K H s₁.heap->(∀b,H b≠none->b=a)->(H a≠none->K.lookup a=none) ->
   zzl77 (model P w) jb (.call (.ref fa) ⟨[.ref a],[]⟩) (fun r s'=>r=.ok (.ret (.bool true))/\OldK s₁.heap s'.heap/\s'.os=s₁.os/\kR s'.gens) s₁:=by
  intro H hO hS hok hA hK;have base_of:∀{b:Addr}{o:Obj},s₁.heap.get? b=some o->H b=none->(sV s₁.heap H).get? b=some o:=fun e n=>AL e n;have noA:∀{b:Addr}{o:Obj}{es:Array DictEntry}{ep:Nat},s₁.heap.get? b=some o->o.data=.dict es ep->H b=none:=fun{b o es ep} e d=>by
   cases q:H b with
   |none=>rfl
   |some u =>
    have e':b=a:=hA b (by rw[q];simp);subst e';rw[ha]at e;cases e;have d':Data.seq vs.toArray _=Data.dict es ep:=d;cases d'
  have nsK:∀{b:Addr}{m:Str->Option Value},s₁.heap.Ns b m->(sV s₁.heap H).Ns b m:=fun{b m} ⟨o,es,ep,e,d,r⟩=>⟨o,es,ep,base_of e (noA e d),d,r⟩;have hKb:K.In (sV s₁.heap H):=fun b o e=>base_of (KX b o e) (by
   cases q:H b with
   |none=>rfl
   |some u =>
    have e':b=a:=hA b (by rw[q];simp);subst e';rw[hK (by rw[q];simp)]at e;cases e)
  have hM:Mod K mg (sV s₁.heap H):=⟨hKb,nsK hns,⟨mb,nsK hb,hbb⟩,let⟨mc,h1,h2⟩:=hlim;⟨mc,nsK h1,h2⟩⟩;have e0:wP P w K mg (sV s₁.heap H) jb [] s₁ H:=⟨rfl,hM,fun b o e=>BV e,Nat.le_of_eq (y1 _ _),trivial,fun b hb=>absurd (show b∈([]:Ze)from hb) (by simp),hok,.of_eq hg⟩;refine wU ((F _ hKb (nsK hns)).run jb [] s₁ H ⟨[.ref a],[]⟩ [.ref a] [.ref a] _ _ hr e0 (hbind s₁ (.ref a)) (.cons rfl .nil) (hsp H hO hS)) fun r s' h=>?_;cases r with
  |error e=>exact(hCX H e s' h).elim
  |ok fl =>
   cases fl with
   |next=>exact ii h
   |brk=>exact ii h
   |cont=>exact ii h
   |ret u =>
    obtain⟨v,H',os,bare,un,hok',r',q⟩:=h;have q':v=.bl true:=q;subst q';obtain rfl:u=Value.bool true:=r';refine⟨rfl,OldK.of_keep fun b o e=>?_,os,bare⟩;cases q:H b with
    |none=>exact un.keep b o e q (by intro z;exact absurd (show b∈([]:Ze)from z) (by simp)) (by simp)
    |some u =>
     rcases hO b with z|⟨ob,xs,z⟩
     ·rw[q]at z;cases z
     ·have z2:=un.frzs b ob _ z;obtain⟨e1,_⟩:=hok b _ z;obtain⟨e2,_⟩:=hok' b _ z2;rw[e]at e1;cases e1;exact e2
 cases hk:K.lookup a with
 |some o =>
  have e:=KX a o hk;rw[ha]at e;cases e;refine core (fun _=>none) (fun _=>.inl rfl) (.inr ⟨_,vs.toArray,_,hk,rfl,rfl,rfl,by rw[bD,lenV];exact hl,by simpa using rv⟩) (fun b u z=>by have z':(none:Option HO)=some u:=z;cases z') (fun b z=>absurd rfl z) fun z=>absurd rfl z
 |none =>
  refine core (fun b=>if b=a then some (.frz { cls:=.type "list",data:=.seq vs.toArray } (.lst (ns.map V.int)))else none) (fun b=>?_) (.inl (.inr ⟨{ cls:=.type "list",data:=.seq vs.toArray },if_pos rfl⟩)) (fun b u z=>?_) (fun b z=>?_) fun _=>hk
  ·by_cases hb:b=a
   ·exact .inr ⟨_,_,if_pos hb⟩
   ·exact .inl (if_neg hb)
  ·by_cases hb:b=a
   ·have z':=(if_pos hb).symm.trans z;cases z';subst hb;exact⟨ha,by rw[ak];exact hl,vs,_,rv,ha⟩
   ·have z':=(if_neg hb).symm.trans z;cases z'
  ·by_cases hb:b=a
   ·exact hb
   ·exact absurd (if_neg hb) z
end L2
namespace L2
open PySem PySem.Spec PyProof.Rows
theorem Bs{l:PySem.W.OpenLaw}{n k:Nat}{q:bt}{loose:Zb}{XP:(Str->Option Value)->Heap->Prop}{YP:World->Heap->Prop}{d:DefRec}{K:Params->Za}{CX:World->zL}{sp:World->Sp}{x:Str}
  (hn:l.most=some n) (hn2:n<=ai) (hdf:d.params.defaults=[]) (hr:dS k jb)
  (hY:∀(w:World) (h:Heap),YP w h->(K w.params).In h)
  (F:∀(w:World) (mg:Str->Option Value) (fa:Addr) (h:Heap),(K w.params).In h->h.Ns bj mg->mg d.name=some (.ref fa) ->
   ∃fd:iZ,(∀(s:Shared) (u:Value),oh s fd ⟨[u],[]⟩ [(x,u)]) /\
    ∀base:Heap,(K w.params).In base->base.Ns bj mg->jZ l.prog w (K w.params) mg base (CX w) k fa fd [x] (sp w))
  (hsp:∀(w:World) (H:Hp) (a:Addr) (ns:List Int),ns.length<=n->Cg H->ay (K w.params) H a (ns.map V.int)->sp w [.ref a] H (fun v _=>v=.bl true) fun _ _ _=>False)
  (hCX:∀(w:World) (H:Hp) (s:Shared) (e:Value) (s':Shared),CX w [] H s (fun _ _ _=>False) e s'->False) :
  PySem.W.WalkO q loose XP YP l.row.toRowW d [] (fun f vs=>PySem.call f vs):=by
 refine Att.attach_call hn hdf fun w s₀ s₁ mg mb fa o pm cd doc a vs ns G Y ho hd hcd hmg hobj hints hlen hg=>?_;have KX:=hY w _ Y;obtain⟨fd,hb,hF⟩:=F w mg fa _ KX G.T.g hmg;exact AD KX G.T.g G.T.b G.T.builtins G.T.nolimit hg hobj hints (aW hlen hn2) hr hF hb (fun H hO hS=>hsp w H a ns hlen hO hS) fun H e s'=>hCX w H s₁ e s'
theorem walk_ofK{l:PySem.W.OpenLaw}{n k:Nat}{q:bt}{loose:Zb}{XP:(Str->Option Value)->Heap->Prop}{YP:World->Heap->Prop}{d:DefRec}{K:Params->Za}{CX:zL}{sp:Za->Sp}{x:Str}
  (hn:l.most=some n) (hn2:n<=ai) (hdf:d.params.defaults=[]) (hr:dS k jb)
  (hY:∀(w:World) (h:Heap),YP w h->(K w.params).In h)
  (F:∀(w:World) (mg:Str->Option Value) (fa:Addr) (h:Heap),(K w.params).In h->h.Ns bj mg->mg d.name=some (.ref fa) ->
   ∃fd:iZ,(∀(s:Shared) (u:Value),oh s fd ⟨[u],[]⟩ [(x,u)]) /\
    ∀base:Heap,(K w.params).In base->base.Ns bj mg->jZ l.prog w (K w.params) mg base CX k fa fd [x] (sp (K w.params)))
  (hsp:∀(K:Za) (H:Hp) (a:Addr) (ns:List Int),ns.length<=n->Cg H->ay K H a (ns.map V.int)->sp K [.ref a] H (fun v _=>v=.bl true) fun _ _ _=>False)
  (hCX:∀(H:Hp) (s:Shared) (e:Value) (s':Shared),CX [] H s (fun _ _ _=>False) e s'->False) :
  PySem.W.WalkO q loose XP YP l.row.toRowW d [] (fun f vs=>PySem.call f vs) :=
 Bs (K:=K) (CX:=fun _=>CX) (sp:=fun w=>sp (K w.params)) hn hn2 hdf hr hY F (fun w H a ns h1 h2 h3=>hsp (K w.params) H a ns h1 h2 h3) fun _ H s e s'=>hCX H s e s'
end L2
namespace L2
open PySem PySem.Spec PyProof.Rows
def sU(s:Stmt)(j:Nat):Stmt:=match s with
 |.ClassDef _ _ _ body _ _ _ _ _ _ _=>body.getD j (.Pass ⟨0,0,0,0⟩)
 |_=>.Pass ⟨0,0,0,0⟩
def fT(s:Stmt):Arguments:=match s with
 |.FunctionDef _ a _ _ _ _ _ _ _ _=>a
 |_=>{ posonlyargs:=[],args:=[],vararg:=none,kwonlyargs:=[],kw_defaults:=[],kwarg:=none,defaults:=[] }
def eG(s:Stmt):List Stmt:=match s with
 |.FunctionDef _ _ b _ _ _ _ _ _ _=>b
 |_=>[]
def bv(s:Stmt):Scope:=match s with
 |.FunctionDef _ _ _ _ _ _ sc _ _ _=>sc
 |_=>{ kind:=.function,names:=[],isGenerator:=false,isCoroutine:=false }
abbrev CX0:zL:=fun _ _ _ _ _ _=>False
abbrev E0:XK:=fun _ _ _=>False
abbrev aL(sp:Sp)(a:TA):TE:=Co sp [] E0 a
theorem At{X:Cx}:mN CX0 X E0:=fun _ _ _ _ _ _ _ h=>h.elim
structure Do(K:Za)(x qual:Str)(st:Stmt)(f:Addr)(fd:iZ):Prop where
 ex:∃(oc:Value) (od:Option Addr) (kV doc pm:Value) (an:Option Addr) (cdv ct:Value) (osl:Array (Option Value)),
  fd=gh x qual (fT st) (eG st) (bv st) .none kV doc pm an cdv ct/\K.lookup f=some ⟨oc,od,.func fd,osl⟩/\kg K cdv qual=true
 kp:ig K (.ref f)=true
section
variable{P:bt}{w:World}{K:Za}{mg:Str->Option Value}{base:Heap}
theorem Do.ok{x qual:Str}{st:Stmt}{f:Addr}{fd:iZ}{N ps:Zb}{k:Nat}{sp:Sp}(F:Do K x qual st f fd)(S:iU N ps (bv st))(len:∀vs H Q E,sp vs H Q E->vs.length=ps.length)
  (hbody:∀(cdv:Value) (A:Around) (outer:List Env) (s:Shared) (H:Hp) (vs:List V) (Q:VK) (E:XK),dS k (A.deeper (envOfC qual (bv st) s.heap.objs.size f cdv))->sp vs H Q E ->
   ∃t,vk (wA CX0 P w K mg base N qual (bv st) f cdv A outer s H E).nox (eG st) t/\t (bx Q) (start N vs) H):jZ P w K mg base CX0 (k+1) f fd ps sp:=by
 obtain⟨oc,od,kV,doc,pm,an,cdv,ct,osl,rfl,lk,hcd⟩:=F.ex;refine DH lk hcd S len fun A outer s H vs Q E hr hsp=>?_;obtain⟨t,h,q⟩:=hbody cdv A outer s H vs Q E hr hsp;exact⟨t,h.nox,q⟩
theorem Do.binds{x qual:Str}{st:Stmt}{f:Addr}{fd:iZ}{ps:Zb}(F:Do K x qual st f fd)
  (h:∀(kV doc pm:Value) (an:Option Addr) (cdv ct:Value) (us:Zf),us.length=ps.length->bindArgs (gh x qual (fT st) (eG st) (bv st) .none kV doc pm an cdv ct) ⟨us,[]⟩=pure (ps.zip us)):Binds K fd ps []:=by
 obtain⟨oc,od,kV,doc,pm,an,cdv,ct,osl,rfl,lk,hcd⟩:=F.ex;exact .all (h kV doc pm an cdv ct)
theorem AS{x qual:Str}{st:Stmt}{f:Addr}{oc:Value}{od an:Option Addr}{osl:Array (Option Value)}{kV doc pm cdv ct:Value}(l:K.lookup f=some ⟨oc,od,.func (gh x qual (fT st) (eG st) (bv st) .none kV doc pm an cdv ct),osl⟩)
  (c:kg K cdv qual=true) (k:ig K (.ref f)=true):Do K x qual st f (gh x qual (fT st) (eG st) (bv st) .none kV doc pm an cdv ct):=⟨⟨oc,od,kV,doc,pm,an,cdv,ct,osl,rfl,l,c⟩,k⟩
end
theorem xO{A:Around}{k:Nat}(hr:dS k A):A.units+16<cLine:=Nat.lt_of_le_of_lt (Nat.add_le_add_left (by decide:16<=64) _) hr.units
theorem ao{n:Nat}(h:n<=1000):n<ai:=Nat.lt_of_le_of_lt h (by decide)
section
variable{X:Cx}
theorem pv(i:Nat){x:Str}{pos:Pos}(hN:X.N[i]?=some x:=by rfl)(hv:Vis X.env.scope x:=by first|exact Or.inl rfl|exact Or.inr (Or.inl rfl)|exact Or.inr (Or.inr rfl))(hd:(x==("__debug__":Str))=false:=by decide)
  (hcd:(x==("__classdict__":Str))=false:=by decide):PE X (.Name x pos) (kn i):=C0 hN hv hd hcd
end
theorem aT{A B:Prop}(h:B):if false=true then A else B:=by
 rw[if_neg f_];exact h
theorem bh{A B:Prop}(h:A):if true=true then A else B:=by
 rw[if_pos rfl];exact h
theorem nN{c A B:Prop}[Decidable c](h1:c->A)(h2:¬c->B):if c then A else B:=by
 by_cases h:c
 ·rw[if_pos h];exact h1 h
 ·rw[if_neg h];exact h2 h
def ac(H H':Hp):Prop:=∀b o,H b=some o->H' b=some o
theorem ac.refl(H:Hp):ac H H:=fun _ _ h=>h
theorem ac.trans{H H1 H2:Hp}(a:ac H H1)(b:ac H1 H2):ac H H2:=fun c o h=>b c o (a c o h)
theorem ac.free{H H':Hp}(e:ac H H'){l:Addr}(h:H' l=Option.none):H l=Option.none:=by
 cases q:H l with
 |none=>rfl
 |some o =>
  rw[e l o q]at h;cases h
theorem ac.seq{K:Za}{H H':Hp}{a:Addr}{xs:List V}(e:ac H H')(h:ay K H a xs):ay K H' a xs:=by
 rcases h with(h|⟨o,h⟩)|h
 ·exact .inl (.inl (e _ _ h))
 ·exact .inl (.inr ⟨o,e _ _ h⟩)
 ·exact .inr h
section
variable{prog:bt}{w:World}{A:Around}{R:Result->Shared->Prop}{s:Shared}
abbrev XF:Value->Shared->Prop:=fun _ _=>False
abbrev wk(ifs:List Expr)(env:Env):Sem Bool:=forIn ifs true fun c r=>if r=true then do let ok <- isTrue c env (eval c env);pure (rM ok)else pure (rM r)
theorem tp{elt target iter:Expr}{ifs:List Expr}{scope:Scope}{pos:Pos}{it acc:Value}{env:Env}(I:Nat->Shared->Prop)
  (turn:∀n s,I n s->wpAny (model prog w) A (pyNext it) (fun r s₁=>match r with
   |none=>R (.ok .next) s₁
   |some v=>wpAny (model prog w) A (xb target it v) (fun _ s₁'=>wpAny (model prog w) A (assign target env v) (fun _ s₂ =>
     wpAny (model prog w) A (wk ifs env) (fun ok s₃ =>
      if ok=true then wpAny (model prog w) A (eval elt env) (fun x s₄ =>
       wpAny (model prog w) A (call (.builtin "list.append") [acc,x]) (fun _ s₅=>∃m,m<n/\I m s₅) XF s₄) XF s₃
      else ∃m,m<n/\I m s₃) XF s₂) XF s₁') XF s₁) XF s)
  (n:Nat) (h:I n s):zzl77 (model prog w) A (.compLoop (.ListComp elt [⟨target,iter,ifs,0⟩] scope pos) 0 it acc env) R s:=by
 refine codeAny_loop rfl I (fun n s hI=>?_) n h;show wpAny _ A ((compTurn (.ListComp elt [⟨target,iter,ifs,0⟩] scope pos) 0 it acc env).onRaise (fun x=>do noteFrame x env;theTreesLotGoes x)) _ _ s
 refine wpAny_noted ?_;rw[compTurn_list];refine am (wpAny_standAt (am (jO (turn n s hI) (fun r s₁ h₁=>?_) fun _ _ h'=>h'.elim)));cases r with
 |none=>exact aE h₁
 |some v =>
  refine am (jO h₁ (fun _ s₁' h₁'=>?_) fun _ _ h'=>h'.elim);refine am (jO h₁' (fun _ s₂ h₂=>am (jO h₂ (fun ok s₃ h₃=>?_) fun _ _ h'=>h'.elim)) fun _ _ h'=>h'.elim);cases ok with
  |false=>exact aE ⟨rfl,h₃⟩
  |true =>
   exact am (am (jO h₃ (fun x s₄ h₄=>am (jO h₄ (fun _ s₅ h₅=>aE (aE ⟨rfl,h₅⟩)) fun _ _ h'=>h'.elim)) fun _ _ h'=>h'.elim))
end
theorem kH{env:Env}:∀(names:List (Str×ic)) (cs0:List (Str×Addr)),(∀y∈names,y.2=.free->∃c,env.cells.lookup y.1=some c)->(∀x c,cs0.lookup x=some c->env.cells.lookup x=some c) ->
  ∃cs:List (Str×Addr),(forIn names cs0 fun(x:Str×ic) (r:List (Str×Addr))=>if(x.2==ja)=true then(cellOf env x.1 >>= fun c=>(pure (rM ((x.1,c)::r)):Sem (ForInStep (List (Str×Addr)))))else pure (rM r))=pure cs /\
   (∀x c,cs.lookup x=some c->env.cells.lookup x=some c)/\(∀x,(cs0.lookup x).isSome=true->(cs.lookup x).isSome=true)/\∀y∈names,y.2=.free->(cs.lookup y.1).isSome=true
 |[],cs0,_,h0=>⟨cs0,rfl,h0,fun _ h=>h,fun _ h=>nomatch h⟩
 | (n,k)::r,cs0,has,h0=>by
  have hr:∀y∈r,y.2=.free->∃c,env.cells.lookup y.1=some c:=fun y hy=>has y (fx _ hy);by_cases hk:k=.free
  ·subst hk;obtain⟨c,hc⟩:=has (n,.free) eR rfl;obtain⟨cs,e,p1,p2,p3⟩:=kH r ((n,c)::cs0) hr (fun x d hd=>by
    rw[gg]at hd;cases hx:x==n with
    |true =>
     rw[hx]at hd;have:x=n:=by simpa using hx
     subst this;cases hd;exact hc
    |false=>rw[hx]at hd;exact h0 x d hd)
   have hself:(((n,c)::cs0).lookup n).isSome=true:=by rw[gg,beq_self_eq_true];rfl
   have hmono:∀x,(cs0.lookup x).isSome=true->(((n,c)::cs0).lookup x).isSome=true:=fun x hx=>by
    rw[gg];cases x==n with
    |true=>rfl
    |false=>exact hx
   refine⟨cs,?_,p1,fun x hx=>p2 x (hmono x hx),fun y hy hf=>?_⟩
   ·rw[l_];have hcell:cellOf env n=pure c:=by unfold cellOf;rw[hc]
    simp only[beq_self_eq_true,if_true,hcell];exact e
   ·rcases bS.mp hy with rfl|hy
    ·exact p2 _ hself
    ·exact p3 y hy hf
  ·obtain⟨cs,e,p1,p2,p3⟩:=kH r cs0 hr h0;refine⟨cs,?_,p1,p2,fun y hy hf=>?_⟩
   ·rw[l_];have hb:(k==ja)=false:=by simpa using hk
    simp only[hb,oA,if_false];exact e
   ·rcases bS.mp hy with rfl|hy
    ·exact absurd hf hk
    ·exact p3 y hy hf
theorem pN{env:Env}{scope:Scope}(has:∀y∈scope.names,y.2=.free->∃c,env.cells.lookup y.1=some c):
  ∃cs:List (Str×Addr),closureFor scope env=pure cs/\(∀x c,cs.lookup x=some c->env.cells.lookup x=some c)/\∀y∈scope.names,y.2=.free->(cs.lookup y.1).isSome=true:=by
 obtain⟨cs,e,p1,_,p3⟩:=kH (env:=env) scope.names [] has (fun _ _ h=>nomatch h);refine⟨cs,?_,p1,p3⟩;unfold closureFor
 first
  |exact e
  | (simp only[bind_pure];exact e)
  | (rw[show(forIn scope.names [] _:Sem (List (Str×Addr)))=pure cs from e];rfl)
def cI(X:Cx)(N:Zb)(scope:Scope)(C:Addr)(cl:List (Str×Addr))(s₀:Shared)(H₀:Hp)(ex:Ze)(pn:Zd):Cx where
 prog:=X.prog
 w:=X.w
 K:=X.K
 mg:=X.mg
 base:=X.base
 A:=X.A
 N:=N
 s₀:=s₀
 H₀:=H₀
 env:=compEnvC scope cl C X.env
 outer:=X.stack
 stack:=X.stack
 ex:=ex
 fn:=fun _=>false
 calm:=X.calm
 pn:=pn
 xe:=XF
def jJ(sc scope:Scope)(k:Nat)(N XN:Zb)(fi:List Nat):Bool :=
 decide (scope.kind=.function) &&
 (scope.names.all fun y=>decide (y.2≠.cell) && (decide (y.2≠.local) || decide (scope.names.lookup y.1=some .local)) && (decide (y.2≠.free) || decide (sc.names.lookup y.1=some .cell) || decide (sc.names.lookup y.1=some .free))) &&
 decide (N.length=k+fi.length) &&
 ((kS fi.length).all fun j=>match fi[j]? with
  |some i=>match N[k+j]?,XN[i]? with
   |some x,some y=>decide (x=y) && decide (scope.names.lookup x=some .free)
   |_,_=>false
  |none=>false)
structure kN(sc scope:Scope)(k:Nat)(N XN:Zb)(fi:List Nat):Prop where
 kind:scope.kind=.function
 cell:∀y∈scope.names,y.2≠.cell
 nm:∀y∈scope.names,y.2=.local->scope.names.lookup y.1=some .local
 fr:∀y∈scope.names,y.2=.free->sc.names.lookup y.1=some .cell∨sc.names.lookup y.1=some .free
 len:N.length=k+fi.length
 sl:∀j i,fi[j]?=some i->∃x,N[k+j]?=some x/\XN[i]?=some x/\scope.names.lookup x=some .free
theorem kN.of{sc scope:Scope}{k:Nat}{N XN:Zb}{fi:List Nat}(h:jJ sc scope k N XN fi=true):kN sc scope k N XN fi:=by
 unfold jJ at h;simp only[Bool.and_eq_true,oJ,Bool.or_eq_true,decide_eq_true_eq]at h;obtain⟨⟨⟨h1,h2⟩,h3⟩,h4⟩:=h;refine⟨h1,fun y hy=>(h2 y hy).1.1,fun y hy e=>((h2 y hy).1.2).resolve_left fun z=>z e,fun y hy e=>?_,h3,fun j i e=>?_⟩
 ·rcases(h2 y hy).2 with(z|z)|z
  ·exact absurd e z
  ·exact .inl z
  ·exact .inr z
 ·have hj:j<fi.length:=(bR.mp e).1;have q:=h4 j (List.mem_range.mpr hj);rw[e]at q;dsimp only at q;cases a:N[k+j]? with
  |none=>rw[a]at q;cases q
  |some x =>
   cases b:XN[i]? with
   |none=>rw[a,b]at q;cases q
   |some y =>
    rw[a,b]at q;simp only[Bool.and_eq_true,decide_eq_true_eq]at q;exact⟨x,rfl,by rw[q.1],q.2⟩
theorem fP{env:Env}:∀{names:List (Str×ic)}{x:Str},names.lookup x=some .free ->
  (names.map fun(n,k)=>if(k==ja && env.scope.kind==.function && env.kindOf n==some .cell)then(n,ic.cell)else(n,k)).lookup x=some .cell ∨
  (names.map fun(n,k)=>if(k==ja && env.scope.kind==.function && env.kindOf n==some .cell)then(n,ic.cell)else(n,k)).lookup x=some .free
 |[],_,h=>by simp at h
 | (n,k)::r,x,h=>by
  have ih:=@fP env r x;simp only[bM];cases hx:x==n with
  |true =>
   simp only[gg,hx]at h;cases h;by_cases hc:(ja==ja && env.scope.kind==.function && env.kindOf n==some .cell)=true
   ·left;rw[if_pos hc];simp[gg,hx]
   ·right;rw[if_neg hc];simp[gg,hx]
  |false =>
   simp only[gg,hx]at h;by_cases hc:(k==ja && env.scope.kind==.function && env.kindOf n==some .cell)=true
   ·rw[if_pos hc];simp only[gg,hx];exact ih h
   ·rw[if_neg hc];simp only[gg,hx];exact ih h
def cF(k:Nat)(fi:List Nat)(σ:St):St:=n_ k none++fi.map fun i=>(σ[i]?).join
theorem wC(k:Nat)(fi:List Nat)(σ:St):(cF k fi σ).length=k+fi.length:=by simp[cF]
theorem pM{k:Nat}{fi:List Nat}{σ:St}{i:Nat}{v:V}(h:(cF k fi σ)[i]?=some (some v)):∃j t,i=k+j/\fi[j]?=some t/\σ[t]?=some (some v):=by
 unfold cF at h;by_cases hi:i<k
 ·rw[oM (by simpa using hi),List.getElem?_replicate_of_lt hi]at h;cases h
 ·rw[oN (by simp;omega),List.length_replicate,ej]at h;refine⟨i-k,?_⟩;cases e:fi[i-k]? with
  |none=>rw[e]at h;cases h
  |some t =>
   rw[e]at h;simp only[oK]at h;refine⟨t,by omega,rfl,?_⟩;have h':=dC h;cases e2:σ[t]? with
   |none=>rw[e2]at h';cases h'
   |some o=>rw[e2]at h';simp only[Option.join]at h';first|(rw[h'])|(subst h';rfl)|(simpa using h')
def u9(k:Nat)(g:TG):Prop:=∀x σ H Q,g x σ H Q->g x σ H fun σ2 H2=>Q σ2 H2/\σ2.length=σ.length/\∀i,k<=i->σ2[i]?=σ[i]?
def yg(k:Nat)(g:zJ):Prop:=∀x σ H Q,g x σ H Q->g x σ H fun σ2 H2=>Q σ2 H2/\σ2.length=σ.length/\∀i,k<=i->σ2[i]?=σ[i]?
theorem aP{k i:Nat}(h:i<k):u9 k (cV i):=fun x σ H Q q=>⟨q,by simp,fun j hj=>by rw[List.getElem?_set_ne (by omega)]⟩
theorem jk{k:Nat}:yg k gx:=fun x σ H Q ⟨e,q⟩=>⟨e,q,rfl,fun _ _=>rfl⟩
def Bj(g:TG):Prop:=∀x σ H Q Q',(∀σ2 H2,Q σ2 H2->Q' σ2 H2)->g x σ H Q->g x σ H Q'
def tM(g:zJ):Prop:=∀x σ H Q Q',(∀σ2 H2,Q σ2 H2->Q' σ2 H2)->g x σ H Q->g x σ H Q'
theorem bd{i:Nat}:Bj (cV i):=fun _ _ _ _ _ f q=>f _ _ q
theorem cE:tM gx:=fun _ _ _ _ _ f ⟨e,q⟩=>⟨e,f _ _ q⟩
theorem dQ{g:TG}{u:zJ}(h1:Bj g)(h2:tM u):tM (a_ g u):=fun _ _ _ _ _ f ⟨v,r,e,q⟩=>⟨v,r,e,h1 _ _ _ _ _ (fun _ _ q=>h2 _ _ _ _ _ f q) q⟩
theorem cD{k:Nat}{g:TG}{u:zJ}(h1:u9 k g)(m1:Bj g)(h2:yg k u)(m2:tM u):yg k (a_ g u):=fun x σ H Q ⟨v,r,e,q⟩ =>
 ⟨v,r,e,m1 _ _ _ _ _ (fun σ2 H2 ⟨q,l,s⟩=>m2 _ _ _ _ _ (fun σ3 H3 ⟨q',l',s'⟩=>⟨q',l'.trans l,fun i hi=>(s' i hi).trans (s i hi)⟩) (h2 _ _ _ _ q)) (h1 _ _ _ _ q)⟩
theorem lC{K:Za}{k n:Nat}{t:zJ}(h:yg k t):u9 k (gS K n t):=fun x σ H Q ⟨a,xs,e,hs,hl,q⟩=>⟨a,xs,e,hs,hl,h _ _ _ _ q⟩
def CK(X:Cx)(ifs:List Expr)(t:TT):Prop :=
 ∀(J5:Zd) (s:Shared) (σ:St) (H:Hp) (Q:Bool->Hp->Prop),Inv X J5 σ H s->t σ H Q->wpAny (model X.prog X.w) X.A (wk ifs X.env) (TP X J5 σ Q) X.xe s
def eQ:TT:=fun _ H Q=>Q true H
theorem bB{X:Cx}:CK X [] eQ:=fun J5 s σ H Q I h=>aE ⟨H,I,h⟩
theorem lA{X:Cx}{c:Expr}{t:TT}(h:PT X c t):CK X [c] t:=by
 intro J5 s σ H Q I hw;unfold wk;rw[l_];simp only[if_true];refine am (am (cj (h J5 s σ H Q I hw) fun b s1 q=>aE ?_));exact aE q
def cw(k:Nat)(fi:List Nat)(wi:TI)(g:TG)(tc:TT)(te:TE):TE:=fun σ H Q=>wi σ H fun J H1=>∀l,H1 l=none->∃W:Nat->Nat->List V->Hp->Prop,(∃m,W 0 m [] (upd H1 l (.lst [])))/\∀i m vs H2,W i m vs H2->H2 l=some (.lst vs) /\
 ((J.stop i H2/\Q (.ref l) H2)∨(J.go i H2/\∀x H3,J.yld i H2 x H3->g x (cF k fi σ) H3 fun σ2 H4=>tc σ2 H4 fun b H5 =>
  if b=true then te σ2 H5 fun v H6=>H6 l=some (.lst vs)/\vs.length<ai/\∃m',m'<m/\W (i+1) m' (vs++[v]) (upd H6 l (.lst (vs++[v])))else ∃m',m'<m/\W (i+1) m' vs H5))
section
variable{X:Cx}{J5:Zd}{σ:St}
theorem Cb{k:Nat}{N:Zb}{scope:Scope}{fi:List Nat}{H:Hp}{s:Shared}{cl:List (Str×Addr)}{fp:Ze}(S:kN X.env.scope scope k N X.N fi)(I:Inv X J5 σ H s)
  (hcl:∀x c,cl.lookup x=some c->X.env.cells.lookup x=some c) (hcf:∀y∈scope.names,y.2=.free->(cl.lookup y.1).isSome=true) (hf:∀b∈fp,jY X J5 H b) (hlt:∀b∈fp,b<s.heap.objs.size) :
  (cI X N scope s.heap.objs.size cl s H fp (X.pn++J5)).Ok where
 mod:=I.ok.mod
 kind:=S.kind
 glob:=I.ok.glob
 blt:=I.ok.blt
 above:=ax _
 inj:=fun x y c e1 e2=>I.ok.inj x y c (hcl x c e1) (hcl y c e2)
 has:=fun x h=>by
  have key:∃y∈scope.names,y.1=x/\y.2=.free:=by
   have h':(relabel scope X.env).names.lookup x=some .cell∨(relabel scope X.env).names.lookup x=some .free:=h;have mem:∀(l:List (Str×ic)) (kd:ic),l.lookup x=some kd->(x,kd)∈l:=by
    intro l
    induction l with
    |nil=>intro kd e;cases e
    |cons a r ih =>
     intro kd e;obtain⟨n,k'⟩:=a;rw[gg]at e;cases hx:x==n with
     |true =>
      rw[hx]at e;have:x=n:=by simpa using hx
      subst this;cases e;exact eR
     |false=>rw[hx]at e;exact fx _ (ih kd e)
   have back:∀kd,(x,kd)∈(relabel scope X.env).names->kd=.cell∨kd=.free->∃y∈scope.names,y.1=x/\y.2=.free:=by
    intro kd hm hk;obtain⟨⟨n,k'⟩,hy,e⟩:=bG.mp hm;dsimp only at e;by_cases hc:(k'==ja && X.env.scope.kind==.function && X.env.kindOf n==some .cell)=true
    ·have hk':k'=.free:=by
      simp only[Bool.and_eq_true]at hc;simpa using hc.1.1
     rw[if_pos hc]at e;cases e;exact⟨_,hy,rfl,hk'⟩
    ·rw[if_neg hc]at e;cases e;rcases hk with rfl|rfl
     ·exact absurd rfl (S.cell _ hy)
     ·exact⟨_,hy,rfl,rfl⟩
   rcases h' with h'|h'
   ·exact back _ (mem _ _ h') (.inl rfl)
   ·exact back _ (mem _ _ h') (.inr rfl)
  obtain⟨y,hy,rfl,hk⟩:=key;exact wR.mp (hcf y hy hk)
 cab:=fun x c h=>by cases h
 hd:=I.ok.hd
 frames:=I.ok.frames
 stk:=.inl rfl
 exf:=fun b hb=>⟨b_ (hlt b hb),fun x c e=>(hf b hb).2.2.2.2.1 x c (hcl x c e)⟩
 bs:=I.bs
 bsz:=aW I.ok.bsz I.sz
 noex:=fun b o e hb=>by
  rcases(hf b hb).2.2.2.1 with z|z
  ·exact I.ok.noex b o e z
  ·exact absurd (fy (aQ (I.ok.bs b o e).1) z) (i9 _)
 exfs:=fun b hb z=>by
  obtain⟨_,f1,f2,_⟩:=hf b hb;rcases bS.mp (I.stkSub b z)with q|q
  ·exact f1 q
  ·exact f2 q
 funs:=I.stack
 frf:=I.stkFree
theorem Ba{k:Nat}{N:Zb}{scope:Scope}{fi:List Nat}{H:Hp}{s:Shared}{cl:List (Str×Addr)}{fp:Ze}{h₁:Heap}{t':Nat}{m:Str->Option Value}(S:kN X.env.scope scope k N X.N fi)(I:Inv X J5 σ H s)
  (hcl:∀x c,cl.lookup x=some c->X.env.cells.lookup x=some c) (hcf:∀y∈scope.names,y.2=.free->(cl.lookup y.1).isSome=true) (hf:∀b∈fp,jY X J5 H b) (hlt:∀b∈fp,b<s.heap.objs.size)
  (hn:h₁.Ns s.heap.objs.size m) (old:∀b o,s.heap.get? b=some o->h₁.get? b=some o) :
  Inv (cI X N scope s.heap.objs.size cl s H fp (X.pn++J5)) [] (cF k fi σ) H { s with heap:=h₁,toks:=t' }:=by
 have memOf:∀(l:List (Str×ic)) (x:Str) (kd:ic),l.lookup x=some kd->(x,kd)∈l:=by
  intro l
  induction l with
  |nil=>intro x kd e;cases e
  |cons a r ih =>
   intro x kd e;obtain⟨n,k'⟩:=a;rw[gg]at e;cases hx:x==n with
   |true =>
    rw[hx]at e;have:x=n:=by simpa using hx
    subst this;cases e;exact eR
   |false=>rw[hx]at e;exact fx _ (ih x kd e)
 refine⟨Cb S I hcl hcf hf hlt,rfl,I.bare,Un.kept old,⟨m,hn,fun i x v e1 e2 e3=>?_⟩,fun x c e=>?_,I.hok.fresh (ax _),fun x c e=>I.freeC x c (hcl x c e),fun p hp=>?_,I.hok.kept old,?_⟩
 ·obtain⟨j,t,rfl,ht,hv⟩:=pM e2;obtain⟨y,hy,hXN,hfr⟩:=S.sl j t ht;have e1':N[k+j]?=some x:=e1;rw[hy]at e1';cases e1';have hmem:=memOf _ _ _ hfr;obtain⟨c,hc⟩:=wR.mp (hcf _ hmem rfl);have hX:=hcl _ _ hc;obtain⟨mX,hnX,hlX⟩:=I.loc;have kX:=S.fr _ hmem rfl;obtain⟨u,ru,lk⟩:=hlX t x v hXN hv (by rcases kX with z|z;exact .inr (.inl z);exact .inr (.inr z));refine⟨u,ru,.inr ⟨?_,c,hc,?_⟩⟩
  ·exact fP hfr
  ·rcases lk with⟨z,_⟩|⟨_,c',e',q⟩
   ·have z':X.env.scope.names.lookup x=some .local:=z;rcases kX with kX|kX<;>rw[z']at kX<;>cases kX
   ·rw[hX]at e';cases e';obtain⟨o,ho,hd⟩:=q;exact⟨o,old _ o ho,hd⟩
 ·obtain⟨v,o,ho,hd⟩:=I.cell x c (hcl x c e);exact⟨v,o,old _ o ho,hd⟩
 ·rw[dD]at hp;obtain⟨e,n,ne,nf,d⟩:=I.pin p hp;refine⟨old _ _ e,n,b_ (aQ e),fun z=>?_,d⟩;rcases bS.mp (I.stkSub _ z)with q|q
  ·exact ne q
  ·exact nf q
 ·rw[wC];exact S.len.symm
structure tO(X:Cx)(J5:Zd)(H:Hp)(C:Addr):Prop where
 free:H C=none
 loc:C≠X.env.locals
 young:X.s₀.heap.objs.size<=C
 cells:∀x c,X.env.cells.lookup x=some c->c≠C
 pin:∀p∈X.pn++J5,p.1≠C
theorem pL{elt iter tg:Expr}{ifs:List Expr}{scope:Scope}{pos:Pos}{k:Nat}{N:Zb}{fi:List Nat}{cl:List (Str×Addr)}{g:TG}{tc:TT}{te:TE}{it:Addr}{fp:Ze}{tn:Nat->Heap->Prop}{J:It}{H2:Hp}{s2:Shared}{Q:VK}
  {E:Zc}{RR:Value->Addr->Result->Shared->Prop}
  (S:kN X.env.scope scope k N X.N fi) (hc:X.calm=true) (hcl:∀x c,cl.lookup x=some c->X.env.cells.lookup x=some c) (hcf:∀y∈scope.names,y.2=.free->(cl.lookup y.1).isSome=true)
  (hg:∀C cl s₀ H₀ ex pn,PG (cI X N scope C cl s₀ H₀ ex pn) tg g) (ho:u9 k g) (ht:∀C cl s₀ H₀ ex pn,CK (cI X N scope C cl s₀ H₀ ex pn) ifs tc) (he:∀C cl s₀ H₀ ex pn,PE (cI X N scope C cl s₀ H₀ ex pn) elt te)
  (I2:Inv X J5 σ H2 s2) (T:pS X.prog X.w X.K tg J fp it tn) (st2:tn 0 s2.heap) (f2:∀b∈fp,jY X J5 H2 b)
  (hw:∀l,H2 l=none->∃W:Nat->Nat->List V->Hp->Prop,(∃m,W 0 m [] (upd H2 l (.lst [])))/\∀i m vs H2,W i m vs H2->H2 l=some (.lst vs) /\
   ((J.stop i H2/\Q (.ref l) H2)∨(J.go i H2/\∀x H3,J.yld i H2 x H3->g x (cF k fi σ) H3 fun σ2 H4=>tc σ2 H4 fun b H5 =>
    if b=true then te σ2 H5 fun v H6=>H6 l=some (.lst vs)/\vs.length<ai/\∃m',m'<m/\W (i+1) m' (vs++[v]) (upd H6 l (.lst (vs++[v])))else ∃m',m'<m/\W (i+1) m' vs H5)))
  (hR:∀D C H' s' m',Inv X J5 σ H' s'->s'.heap.Ns C m'->tO X J5 H' C->Q (.ref D) H'->RR (.ref D) C (.ok .next) s') :
  wpAny (model X.prog X.w) X.A (newList []) (fun acc s₃=>wpAny (model X.prog X.w) X.A (newFunctionEnv scope X.env.globals cl [] X.env.qual none .none (some X.env)) (fun cenv s₄ =>
   zzl77 (model X.prog X.w) X.A (.compStart (.ListComp elt [⟨tg,iter,ifs,0⟩] scope pos) 0 (.ref it) acc { cenv with scope:=relabel scope X.env }) (RR acc cenv.locals) s₄) E s₃) E s2:=by
 have hfresh:H2 s2.heap.objs.size=none:=I2.fresh;obtain⟨W,⟨m0,w0⟩,turn⟩:=hw _ hfresh;refine wpAny_newObj_type (wpAny_newFunctionEnv S.cell (by intro y hy;simp at hy) (fun h₁ hns₁ hsb₁=>?_) S.kind);dsimp only at hns₁ hsb₁ ⊢;have I3:Inv X J5 σ (upd H2 s2.heap.objs.size (.lst [])) { s2 with heap:=s2.heap.push { cls:=.type "list",data:=.seq ([]:Zf).toArray },toks:=s2.toks }:=I2.lnew (ys:=[]) .nil (bN _);generalize hs3:({ s2 with heap:=s2.heap.push { cls:=.type "list",data:=.seq ([]:Zf).toArray },toks:=s2.toks }:Shared)=s3 at I3;have hh3:s3.heap=s2.heap.push { cls:=.type "list",data:=.seq ([]:Zf).toArray }:=by rw[<-hs3]
 have hsz:s3.heap.objs.size=s2.heap.objs.size+1:=by rw[hh3,mZ]
 have hlt:∀b∈fp,b<s2.heap.objs.size:=fun b hb=>by
  obtain⟨o,e,_⟩:=T.obj 0 _ st2 b hb;exact aQ e
 have f3:∀b∈fp,jY X J5 (upd H2 s2.heap.objs.size (.lst [])) b:=fun b hb=>⟨by rw[aj (b_ (hlt b hb))];exact(f2 b hb).1,(f2 b hb).2⟩;have hlt3:∀b∈fp,b<s3.heap.objs.size:=fun b hb=>by rw[hsz];exact Nat.lt_succ_of_lt (hlt b hb)
 have old:∀b o,s3.heap.get? b=some o->h₁.get? b=some o:=fun b o e=>by
  have hb:b≠s3.heap.objs.size:=b_ (aQ e);rw[hh3]at e hb;exact hsb₁.extBut b o hb (aZ _ e)
 have hns:h₁.Ns s3.heap.objs.size (fun x=>([]:List (Str×Value)).reverse.lookup x):=by rw[hh3];exact hns₁
 have I4:Inv (cI X N scope s3.heap.objs.size cl s3 (upd H2 s2.heap.objs.size (.lst [])) fp (X.pn++J5)) [] (cF k fi σ) (upd H2 s2.heap.objs.size (.lst [])) { s3 with heap:=h₁,toks:=s2.toks+([]:List (Str×Value)).length } :=
  Ba S I3 hcl hcf f3 hlt3 hns old
 have st4:tn 0 h₁:=T.keep _ _ _ st2 fun b hb o e=>old b o (by rw[hh3];exact aZ _ e);generalize hY:cI X N scope s3.heap.objs.size cl s3 (upd H2 s2.heap.objs.size (.lst [])) fp (X.pn++J5)=Y at I4;have yp:Y.prog=X.prog:=by rw[<-hY];rfl
 have yw:Y.w=X.w:=by rw[<-hY];rfl
 have yK:Y.K=X.K:=by rw[<-hY];rfl
 have yA:Y.A=X.A:=by rw[<-hY];rfl
 have yx:Y.xe=XF:=by rw[<-hY];rfl
 have yc:Y.calm=true:=by rw[<-hY];exact hc
 have gY:PG Y tg g:=by rw[<-hY];exact hg _ _ _ _ _ _
 have tY:CK Y ifs tc:=by rw[<-hY];exact ht _ _ _ _ _ _
 have eY:PE Y elt te:=by rw[<-hY];exact he _ _ _ _ _ _
 have yenv:Y.env=compEnvC scope cl s3.heap.objs.size X.env:=by rw[<-hY];rfl
 have fY:∀{H':Hp},(∀b∈fp,H' b=none)->∀b∈fp,jY Y [] H' b:=fun hn b hb=>by
  obtain⟨f0,f1,f2',f3',f4,f5⟩:=f3 b hb;rw[<-hY];refine⟨hn b hb,b_ (hlt3 b hb),fun z=>?_,.inl hb,fun x c e=>f4 x c (hcl x c e),fun p hp=>?_⟩
  ·rcases bS.mp (I3.stkSub _ z)with q|q
   ·exact f1 q
   ·exact f2' q
  ·rw[dD]at hp;exact f5 p hp
 have loop:∀s4:Shared,s4={ s3 with heap:=h₁,toks:=s2.toks+([]:List (Str×Value)).length } ->
   zzl77 (model X.prog X.w) X.A (.compLoop (.ListComp elt [⟨tg,iter,ifs,0⟩] scope pos) 0 (.ref it) (.ref s2.heap.objs.size) Y.env) (RR (.ref s2.heap.objs.size) s3.heap.objs.size) s4:=by
  rintro s4 rfl;refine tp (fun n s'=>∃i vs H',Inv Y [] (cF k fi σ) H' s'/\tn i s'.heap/\(∀b∈fp,H' b=none)/\W i n vs H') ?_ m0 ⟨0,[],_,I4,st4,fun b hb=>(f3 b hb).1,w0⟩;rintro n s5 ⟨i,vs,H5,I5,st5,fr5,w5⟩;obtain⟨hl5,hcase⟩:=turn i n vs H5 w5;rcases hcase with⟨stop,q⟩|⟨go,step⟩
  ·have d:=T.done Y yp yw yK yc i [] s5 _ H5 XF I5 (fY fr5) st5 stop;rw[yA]at d;refine cj d fun r s6 zq0=>?_;obtain⟨hr,I6⟩:=zq0;subst hr;have hu:Un (zI X.stack) fp (upd H2 s2.heap.objs.size (.lst [])) H5 s3.heap s6.heap:=by have:=I6.base;rw[<-hY]at this;exact this
   have ho6:s6.os=s3.os:=by have:=I6.os;rw[<-hY]at this;exact this
   have hok6:j6 X.prog X.w X.K H5 s6.heap:=by have:=I6.hok;rw[<-hY]at this;exact this
   have hC6:H5 s3.heap.objs.size=none:=by have:=I6.free;rw[<-hY]at this;exact this
   obtain⟨m6,hn6,_⟩:=I6.loc;have hn6':s6.heap.Ns s3.heap.objs.size m6:=by rw[<-hY]at hn6;exact hn6
   have IX:Inv X J5 σ H5 s6:=I3.call' ho6 hu hok6 I6.bare fun b hb=>by
    obtain⟨f0,f1,f2',f3',f4,f5⟩:=f3 b hb;exact⟨f3',f1,f4,f5⟩
   refine hR _ _ H5 s6 m6 IX hn6' ⟨hC6,fM I3.lt,I3.sz,fun x c e z=>?_,fun p hp z=>?_⟩ q
   ·obtain⟨v,o,ho,_⟩:=I3.cell x c e;exact absurd (aQ ho) (by rw[z];exact i9 _)
   ·exact absurd (aQ (I3.pin p hp).1) (by rw[z];exact i9 _)
  ·have d:=T.item Y yp yw yK yc i [] s5 _ H5 XF I5 (fY fr5) st5 go;rw[yA]at d;refine cj d fun r s6 zq0=>?_;obtain⟨u,hr,h6⟩:=zq0;subst hr;refine cj h6 fun _ s7 zq0=>?_;obtain⟨x,H7,I7,r7,y7,st7,fr7⟩:=zq0;have I7':=I7.pinned (fY fr7) (T.obj _ _ st7);have a7:=gY _ s7 _ H7 x u _ I7' r7 (ho _ _ _ _ (step x H7 y7));rw[yp,yw,yA,yx]at a7;refine cj a7 fun _ s8 zq0=>?_;obtain⟨σ8,H8,I8,q8,l8,k8⟩:=zq0;have a8:=tY _ s8 σ8 H8 _ I8 q8;rw[yp,yw,yA,yx]at a8;have again:∀{H9:Hp}{s9:Shared}{vs':List V}{m':Nat},Inv Y ([]++ph fp s7.heap) σ8 H9 s9->m'<n->W (i+1) m' vs' H9->∃m,m<n/\∃i vs H',Inv Y [] (cF k fi σ) H' s9/\tn i s9.heap/\(∀b∈fp,H' b=none)/\W i m vs H':=fun{H9 s9 vs' m'} I9 hm w9=>by
    refine⟨m',hm,i+1,vs',H9,(I9.unpinned).weak l8.symm (fun j v e=>?_),T.keep _ _ _ st7 fun b hb o e=>(I9.pin (b,o) (dh _ (dh _ (iS hb e)))).1,fun b hb=>?_,w9⟩
    ·obtain⟨j',t,rfl,_,_⟩:=pM e;rw[k8 _ (ka _ _)];exact e
    ·obtain⟨o,e,_⟩:=T.obj _ _ st7 b hb;exact(I9.pin (b,o) (dh _ (dh _ (iS hb e)))).2.1
   refine cj a8 fun b s9 zq0=>?_;obtain⟨H9,I9,q9⟩:=zq0;cases b with
   |false =>
    rw[if_neg f_]at q9 ⊢;obtain⟨m',hm,w9⟩:=q9;exact again I9 hm w9
   |true =>
    rw[if_pos rfl]at q9 ⊢;have a9:=eY _ s9 σ8 H9 _ I9 q9;rw[yp,yw,yA,yx]at a9;refine cj a9 fun y s10 zq0=>?_;obtain⟨v,H10,I10,r10,hl10,hsz10,m',hm,w10⟩:=zq0;have a10:=bP (X:=Y) _ s10 σ8 H10 (.ref s2.heap.objs.size) [v] (.ref s2.heap.objs.size) [y] (fun z H'=>z=.non/\H'=upd H10 s2.heap.objs.size (.lst (vs++[v]))) I10 rfl (.cons r10 .nil) ⟨_,vs,v,rfl,rfl,hl10,hsz10,rfl,rfl⟩;rw[yp,yw,yA,yx]at a10;refine cj a10 fun _ s11 zq0=>?_;obtain⟨_,H11,I11,_,_,e11⟩:=zq0;subst e11;exact again I11 hm w10
 have hstart:=codeAny_compStart_list (prog:=X.prog) (w:=X.w) (A:=X.A) (elt:=elt) (target:=tg) (iter:=iter) (ifs:=ifs) (rest:=[]) (scope:=scope) (pos:=pos) (it:=.ref it) (acc:=.ref s2.heap.objs.size) (env:=Y.env) (loop _ rfl) (T.self _ 0 _ _ _ st4 (loop _ rfl));rw[yenv]at hstart;rw[<-hs3]at hstart;exact hstart
end
section
variable{X:Cx}
theorem tO.turned{J5:Zd}{σ:St}{H:Hp}{s:Shared}{C:Addr}{h':Heap}(c:tO X J5 H C)(I:Inv X J5 σ H s)(hs:ij C s.heap h'):Inv X J5 σ H { s with heap:=h' } :=
 I.turned (t':=s.toks) (fun b o hb e=>hs.extBut b o hb e) c.free c.loc (.inr c.young) c.cells c.pin
theorem BQ{elt iter tg:Expr}{ifs:List Expr}{scope:Scope}{pos:Pos}{k:Nat}{N:Zb}{fi:List Nat}{wi:TI}{g:TG}{tc:TT}{te:TE}(hS:jJ X.env.scope scope k N X.N fi=true)(hc:X.calm=true)(hi:PI X tg iter wi)
  (hg:∀C cl s₀ H₀ ex pn,PG (cI X N scope C cl s₀ H₀ ex pn) tg g) (ho:u9 k g) (ht:∀C cl s₀ H₀ ex pn,CK (cI X N scope C cl s₀ H₀ ex pn) ifs tc) (he:∀C cl s₀ H₀ ex pn,PE (cI X N scope C cl s₀ H₀ ex pn) elt te)
  (hs:∀x,tZ iter X.env x=pure x:=by intro _;rfl):PE X (.ListComp elt [⟨tg,iter,ifs,0⟩] scope pos) (cw k fi wi g tc te):=by
 intro J5 s σ H Q I h;have S:=kN.of hS;obtain⟨cl,hclos,hcl,hcf⟩:=pN (env:=X.env) (scope:=scope) fun y hy e=>I.ok.has y.1 (S.fr y hy e);rw[eval_ListComp];refine wpAny_comprehension_free (use:=none) rfl hs hclos S.kind S.nm (cj (hi J5 s σ H _ I h) fun v s1 h1=>cj h1 fun itv s2 h2=>?_);obtain⟨it,fp,tn,J,H2,e,I2,T,st2,f2,hw⟩:=h2;subst e;refine pL (RR:=fun acc C=>compPost (model X.prog X.w) X.A X.xe none (EP X J5 σ Q) acc C) S hc hcl hcf hg ho ht he I2 T st2 f2 hw ?_;intro D C H' s' m' I' hn ce q;exact⟨m',hn,fun h' hs'=>⟨.ref D,H',ce.turned I' hs',rfl,q⟩⟩
theorem vV{elt iter tg:Expr}{ifs:List Expr}{scope:Scope}{pos spos py:Pos}{k:Nat}{N:Zb}{fi:List Nat}{wi:TI}{g:TG}{tc:TT}{te:TE}{j:Nat}{y:Str}(hN:X.N.Nodup)(hj:X.N[j]?=some y)(hy:Loc X.env.scope y)(hS:jJ X.env.scope scope k N X.N fi=true)(hc:X.calm=true)(hi:PI X tg iter wi)
  (hg:∀C cl s₀ H₀ ex pn,PG (cI X N scope C cl s₀ H₀ ex pn) tg g) (ho:u9 k g) (ht:∀C cl s₀ H₀ ex pn,CK (cI X N scope C cl s₀ H₀ ex pn) ifs tc) (he:∀C cl s₀ H₀ ex pn,PE (cI X N scope C cl s₀ H₀ ex pn) elt te)
  (hsw:om (.ListComp elt [⟨tg,iter,ifs,0⟩] scope pos) (some (.Name y py)) spos.line X.env=pure true:=by rfl)
  (hs:∀x,tZ iter X.env x=pure x:=by intro _;rfl) (hf:X.fn y=true∨X.env.scope.names.lookup y=some .local:=by first|exact .inl rfl|exact .inr rfl|assumption) :
  PS X (.Assign [.Name y py] (.ListComp elt [⟨tg,iter,ifs,0⟩] scope pos) spos) (aS (cw k fi wi g tc te) (cV j)):=by
 intro J5 s σ H D I h;have S:=kN.of hS;obtain⟨cl,hclos,hcl,hcf⟩:=pN (env:=X.env) (scope:=scope) fun y hy e=>I.ok.has y.1 (S.fr y hy e);rw[exec_Assign_Name_used _ _ _ _ hsw];refine am (wpAny_standAt (am ?_));show wpAny _ X.A (do let _ <- comprehension (.ListComp elt [⟨tg,iter,ifs,0⟩] scope pos) scope X.env _ (newList []) false (eval iter X.env) (some (assign (.Name y py) X.env))) _ _ s
 refine am (jO (wpAny_comprehension_free (use:=some (assign (.Name y py) X.env)) (Q:=fun _ s'=>SP X J5 D .next s') rfl hs hclos S.kind S.nm
  (cj (hi J5 s σ H _ I h) fun v s1 h1=>cj h1 fun itv s2 h2=>?_)) (fun _ s' hq=>aE (aE hq)) fun _ _ e=>e)
 obtain⟨it,fp,tn,J,H2,e,I2,T,st2,f2,hw⟩:=h2;subst e;refine pL (RR:=fun acc C=>compPost (model X.prog X.w) X.A X.xe (some (assign (.Name y py) X.env)) (fun _ s'=>SP X J5 D .next s') acc C) (Q:=fun x H1=>cV j x σ H1 D.nx) S hc hcl hcf hg ho ht he I2 T st2 f2 hw ?_;intro A C H' s' m' I' hn ce q;show wpAny _ X.A (assign (.Name y py) X.env (.ref A)) _ _ _;refine wpAny_assign_Name (qD I' hN hj hy (v:=.ref A) rfl (fun s'' I'' hsb=>?_) hf);obtain⟨a,hsa,ha⟩:=hsb;have hCa:C≠a:=by
  rcases ha with z|z
  ·rw[z];exact ce.loc
  ·exact ga (ce.cells y a z)
 refine⟨m',hn.sameBut hsa hCa,fun h' hs'=>?_⟩;exact⟨_,H',ce.turned I'' hs',q⟩
end
theorem Inv.turnedNew{X:Cx}{J5:Zd}{σ:St}{H:Hp}{s:Shared}{h2:Heap}{t':Nat}{ch:Ze}{o:HO}(I:Inv X J5 σ H s)(hf:∀b∈ch,jY X J5 H b)
  (k:∀b q,b∉ch->s.heap.get? b=some q->h2.get? b=some q) (hq:∃q,h2.get? s.heap.objs.size=some q) (hno:∀y,o≠.own y) (new:bW X.prog X.w X.K (upd H s.heap.objs.size o) h2 s.heap.objs.size o) :
  Inv X J5 σ (upd H s.heap.objs.size o) { s with heap:=h2,toks:=t' }:=by
 have hn0:H s.heap.objs.size=none:=I.fresh;have nsz:∀b q,s.heap.get? b=some q->b≠s.heap.objs.size:=fun b q e=>b_ (aQ e);have tr:∀b u,H b=some u->b∉ch:=fun b u e z=>by rw[(hf b z).1]at e;cases e
 refine I.step (g':=s.gens) (d':=s.drawn) (ch:=ch) (fun b hb=>?_) (fun b q _ _ hc e _=>k b q hc e) (fun b q _ _ hc e _=>⟨q.slots,k b q hc e⟩) (fun b q _ e n=>by rw[aj (nsz b q e)];exact n) (fun b q hc e=>⟨q,k b q hc e⟩)
  (fun b xs e=>by rw[aj (ag e hn0)];exact e) (fun b q u e=>by rw[aj (ag e hn0)];exact e) (fun b ps e=>⟨#[],by rw[aj (ag e hn0),e];simp⟩) (fun m hm=>?_) (fun b u e=>?_) I.bare
 ·obtain⟨f0,f1,f2,f3,f4,f5⟩:=hf b hb;exact⟨f3,f1,f4,f5⟩
 ·obtain⟨q,es,ep,ho,r⟩:=hm;exact⟨q,es,ep,k _ q (fun z=>(hf _ z).2.1 rfl) ho,r⟩
 ·by_cases hb:b=s.heap.objs.size
  ·subst hb;rw[aa]at e;cases e;exact new
  ·rw[aj hb]at e;refine(I.hok b u e).stay (fun c v hc q=>k c v ?_ q) (fun c q=>by rw[aj (ag q hn0)];exact q) fun c xs q=>by rw[aj (ag q hn0)];exact q
   rcases hc with z|z
   ·subst z;exact tr _ _ e
   ·exact tr _ _ z
def DQ(K:Za)(a:Addr):It :=
 ⟨fun i H=>∃xs x,ay K H a xs/\xs[i]?=some x,fun i H x H'=>∃p v,x=.ref p/\H p=none/\(∀xs,ay K H a xs->xs[i]?=some v)/\H'=upd H p (.tup [.int i,v]),fun i H=>∃xs,ay K H a xs/\xs.length<=i⟩
theorem yn{P:bt}{w:World}{K:Za}{es:List Expr}{kx:Nat}{J9:Pos}(a e it:Addr)(hne:e≠it):
  pS P w K (.Tuple es kx J9) (DQ K a) [e,it] e (fun i h=>(∃old,IsEnum h e it i old)/\h.IsListIter it a i) where
 mem:=by simp
 obj:=fun i h st b hb=>by
  obtain⟨⟨old,he⟩,o,ho,hc,hd⟩:=st;rcases bS.mp hb with z|z
  ·subst z;exact⟨_,he,fun v z=>by cases z⟩
  ·have z':b=it:=by simpa using z
   subst z';exact⟨o,ho,fun v z=>by rw[hd]at z;cases z⟩
 keep:=fun i h h' st k=>⟨let⟨old,he⟩:=st.1;⟨old,k e (by simp) _ he⟩,st.2.at fun o e=>k it (by simp) o e⟩
 item:=by
  intro X hP hw hK hc i J5 s σ H E I hf st hg;subst hP hw hK;obtain⟨⟨old,he⟩,hit⟩:=st;obtain⟨xs,x,hq,hx⟩:=hg;obtain⟨its,rv,p,hz⟩:=I.list hq;obtain⟨u,hu,ru⟩:=rv.get hx;obtain⟨e0,e1,e2,e3,e4,e5⟩:=hf e (by simp);obtain⟨f0,f1,f2,f3,f4,f5⟩:=hf it (by simp);refine wpAny_pyNext_enum_item he hit p.isList (x:=u) (by simpa using hu) hne fun h' ho' hit' ht' hsz' hk'=>?_;refine⟨_,rfl,wpAny_letOwnedTupleGo_enum (s:={ s with heap:=h',toks:=s.toks+1 }) ho' fun h2 he2 hs2=>?_⟩;have hs2':ij e h' h2:=hs2;have hpe:s.heap.objs.size≠e:=fM (aQ he);have ht2:h2.get? s.heap.objs.size=some { cls:=.type "tuple",data:=.seq #[.int i s.toks,u] }:=hs2'.extBut _ _ hpe ht';have hn0:H s.heap.objs.size=none:=I.fresh;have hue:upd H s.heap.objs.size (.tup [.int i,x]) e=none:=by rw[aj (ga hpe)];exact e0
  have hpi:s.heap.objs.size≠it:=by
   obtain⟨o,ho,_⟩:=hit;exact fM (aQ ho)
  have hui:upd H s.heap.objs.size (.tup [.int i,x]) it=none:=by rw[aj (ga hpi)];exact f0
  have I2:Inv X J5 σ (upd H s.heap.objs.size (.tup [.int i,x])) { s with heap:=h2,toks:=s.toks+1 }:=by
   refine I.turnedNew (ch:=[e,it]) hf (fun b o hb q=>?_) ⟨_,ht2⟩ (fun _ z=>nomatch z) ⟨by show 2<=ai;decide,[.int i s.toks,u],.cons ⟨_,rfl⟩ (.cons ru .nil),⟨_,ht2,rfl,_,rfl⟩⟩;have nb1:b≠e:=fun z=>hb (by simp[z]);have nb2:b≠it:=fun z=>hb (by simp[z]);exact hs2'.extBut _ _ nb1 (hk' b o nb1 nb2 q)
  refine⟨.ref s.heap.objs.size,_,I2,rfl,⟨_,x,rfl,hn0,fun ys hy=>by rw[I.list_inj hy hq];exact hx,rfl⟩,⟨⟨u,by simpa using he2⟩,hit'.at fun o y=>(hs2'.2 it (ga hne)).trans y⟩,fun b hb=>?_⟩;rcases bS.mp hb with z|z
  ·subst z;exact hue
  ·have z':b=it:=by simpa using z
   subst z';exact hui
 done:=by
  intro X hP hw hK hc i J5 s σ H E I hf st hg;subst hP hw hK;obtain⟨⟨old,he⟩,hit⟩:=st;obtain⟨xs,hq,hx⟩:=hg;obtain⟨its,rv,p,hz⟩:=I.list hq;obtain⟨f0,f1,f2,f3,f4,f5⟩:=hf it (by simp);have hl:=rv.length;exact wpAny_pyNext_enum_end (I.ok.hd hc) he hit p.isList (by simp;omega) fun h' eb=>⟨rfl,I.turned (t':=s.toks) (fun b o hb e=>eb b o hb e) f0 f1 f3 f4 f5⟩
 self:=fun _ _ _ _ _ st h=>let⟨_,he⟩:=st.1;wpAny_pyIter_enum he h
section
variable{X:Cx}{p pos:Pos}{es:List Expr}{kx:Nat}{J9:Pos}
def no(K:Za)(ta:TA):TI:=fun σ H R=>ta σ H fun vs H1=>∃a,vs=[.ref a]/\(∃xs,ay K H1 a xs)/\R (DQ K a) H1
theorem iP{a:Expr}{ta:TA}(hg:Gl X "enumerate")(hm:X.mg "enumerate"=none)(ha:PA X [a] ta)(hs:aN [a] X.env=[(false,eval a X.env)]:=by rfl):PI X (.Tuple es kx J9) (.Call (.Name "enumerate" p) [a] [] pos) (no X.K ta):=by
 intro J5 s σ H R I h;refine Call_ (kD I hg hm boot_enumerate (t3 (cj (ha pos J5 s σ H _ I h) fun us s1 zq0=>?_) hs rfl));obtain⟨vs,H1,I1,r1,q1⟩:=zq0;obtain⟨l,e,⟨xs,hq⟩,q⟩:=q1;subst e;obtain⟨u,rfl,ru⟩:=vals1 r1;cases ru;obtain⟨its,rv,pl,hz⟩:=I1.list hq;refine call_enumerate_list pl.isList fun h' he hit hsz hk=>?_;refine wpAny_pyIter_enum (s:={ s1 with heap:=h' }) he ?_;have hk':∀b o,s1.heap.get? b=some o->h'.get? b=some o:=hk;have I2:Inv X J5 σ H1 { s1 with heap:=h' }:=I1.kept (t':=s1.toks) hk';refine⟨_,[s1.heap.objs.size+1,s1.heap.objs.size],_,_,H1,rfl,I2,yn l _ _ (Nat.succ_ne_self _),⟨⟨_,he⟩,hit⟩,fun b hb=>?_,q⟩;have hb':s1.heap.objs.size<=b:=by
  rcases bS.mp hb with z|z
  ·rw[z];exact tQ _
  ·have z':b=s1.heap.objs.size:=by simpa using z
   rw[z'];exact ax _
 exact I1.fpOk hb' (I1.hok.fresh hb')
end
def Ef(x:Str):It:=⟨fun i _=>i<x.cps.size,fun i H y H'=>H'=H/\∃c,x.cps[i]?=some c/\y=.str ⟨#[c]⟩,fun i _=>x.cps.size<=i⟩
theorem vt{P:bt}{w:World}{K:Za}{tg:Expr}(x:Str)(t:Tok)(it:Addr):pS P w K tg (Ef x) [it] it (fun i h=>h.IsStrIter it "str_ascii_iterator" x t i) where
 mem:=by simp
 obj:=fun i h st b hb=>by
  have e:b=it:=by simpa using hb
  subst e;obtain⟨o,e,c,d⟩:=st;exact⟨o,e,fun v z=>by rw[d]at z;cases z⟩
 keep:=fun i h h' st k=>by
  obtain⟨o,e,c,d⟩:=st;exact⟨o,k it (by simp) o e,c,d⟩
 item:=by
  intro X hP hw hK hc i J5 s σ H E I hf st hg;subst hP hw hK;have hlt:i<x.cps.size:=hg;obtain⟨f0,f1,f2,f3,f4,f5⟩:=hf it (by simp);have hx:x.cps[i]?=some x.cps[i]:=by simp[hlt]
  refine wpAny_pyNext_ascii_item st hx fun h' st' sb=>?_;have I1:Inv X J5 σ H { s with heap:=h',toks:=s.toks+1 }:=I.turned (t':=s.toks+1) (fun b o hb e=>(sb.2 b hb).trans e) f0 f1 f3 f4 f5;obtain⟨o,e,c,d⟩:=id st';exact⟨_,rfl,qU (s:={ s with heap:=h',toks:=s.toks+1 }) e c d (by decide) ⟨.str ⟨#[x.cps[i]]⟩,H,I1,⟨_,rfl⟩,⟨rfl,_,hx,rfl⟩,st',fun b hb=>(hf b hb).1⟩⟩
 done:=by
  intro X hP hw hK hc i J5 s σ H E I hf st hg;subst hP hw hK;have hge:x.cps.size<=i:=hg;obtain⟨f0,f1,f2,f3,f4,f5⟩:=hf it (by simp);exact wpAny_pyNext_ascii_end (I.ok.hd hc) st (by simp;omega) fun h' eb=>⟨rfl,I.turned (t':=s.toks) (fun b o hb e=>eb b o hb e) f0 f1 f3 f4 f5⟩
 self:=fun _ _ _ _ _ st h=>wpAny_pyIter_striter_ascii st h
theorem ym{P:bt}{w:World}{K:Za}{tg:Expr}(x:Str)(t:Tok)(it:Addr):pS P w K tg (Ef x) [it] it (fun i h=>h.IsStrIter it "str_iterator" x t i) where
 mem:=by simp
 obj:=fun i h st b hb=>by
  have e:b=it:=by simpa using hb
  subst e;obtain⟨o,e,c,d⟩:=st;exact⟨o,e,fun v z=>by rw[d]at z;cases z⟩
 keep:=fun i h h' st k=>by
  obtain⟨o,e,c,d⟩:=st;exact⟨o,k it (by simp) o e,c,d⟩
 item:=by
  intro X hP hw hK hc i J5 s σ H E I hf st hg;subst hP hw hK;have hlt:i<x.cps.size:=hg;obtain⟨f0,f1,f2,f3,f4,f5⟩:=hf it (by simp);have hx:x.cps[i]?=some x.cps[i]:=by simp[hlt]
  refine wpAny_pyNext_wide_item st hx fun h' st' sb=>?_;have I1:Inv X J5 σ H { s with heap:=h',toks:=s.toks+1 }:=I.turned (t':=s.toks+1) (fun b o hb e=>(sb.2 b hb).trans e) f0 f1 f3 f4 f5;obtain⟨o,e,c,d⟩:=id st';exact⟨_,rfl,qU (s:={ s with heap:=h',toks:=s.toks+1 }) e c d (by decide) ⟨.str ⟨#[x.cps[i]]⟩,H,I1,⟨_,rfl⟩,⟨rfl,_,hx,rfl⟩,st',fun b hb=>(hf b hb).1⟩⟩
 done:=by
  intro X hP hw hK hc i J5 s σ H E I hf st hg;subst hP hw hK;have hge:x.cps.size<=i:=hg;obtain⟨f0,f1,f2,f3,f4,f5⟩:=hf it (by simp);exact wpAny_pyNext_wide_end (I.ok.hd hc) st (by simp;omega) fun h' eb=>⟨rfl,I.turned (t':=s.toks) (fun b o hb e=>eb b o hb e) f0 f1 f3 f4 f5⟩
 self:=fun _ _ _ _ _ st h=>wpAny_pyIter_striter_wide st h
section
variable{X:Cx}{p pos:Pos}{tg:Expr}
def DE(tl:TE):TI:=fun σ H R=>tl σ H fun v H1=>∃x,v=.str x/\R (Ef x) H1
theorem CW{l:Expr}{tl:TE}(hl:PE X l tl):PI X tg l (DE tl):=by
 intro J5 s σ H R I h;refine cj (hl J5 s σ H _ I h) fun v s1 zq0=>?_;obtain⟨y,H1,I1,r1,q1⟩:=zq0;obtain⟨x,e,q⟩:=q1;subst e;obtain⟨t,rfl⟩:=r1;have fin:∀b∈[s1.heap.objs.size],jY X J5 H1 b:=fun b hb=>by
  have e:b=s1.heap.objs.size:=by simpa using hb
  subst e;exact I1.fpOk (ax _) (I1.hok.fresh (ax _))
 cases ha:x.cps.all (·<128)
 ·refine wpAny_pyIter_wide ha ?_;exact⟨s1.heap.objs.size,[s1.heap.objs.size],_,_,H1,rfl,I1.kept (t':=s1.toks) fun b o e=>aZ _ e,ym x t _,⟨_,cK _ rfl,rfl,rfl⟩,fin,q⟩
 ·refine wpAny_pyIter_ascii ha ?_;exact⟨s1.heap.objs.size,[s1.heap.objs.size],_,_,H1,rfl,I1.kept (t':=s1.toks) fun b o e=>aZ _ e,vt x t _,⟨_,cK _ rfl,rfl,rfl⟩,fin,q⟩
end
def Ee(K:Za)(a b:Addr):It :=
  ⟨fun i H=>∃xs ys x y,ay K H a xs/\ay K H b ys/\xs[i]?=some x/\ys[i]?=some y,
   fun i H x H'=>∃p u v,x=.ref p/\H p=none/\(∀xs,ay K H a xs->xs[i]?=some u)/\(∀ys,ay K H b ys->ys[i]?=some v)/\H'=upd H p (.tup [u,v]),
   fun i H=>∃xs ys,ay K H a xs/\ay K H b ys/\(xs.length<=i∨ys.length<=i)⟩
theorem zU{P:bt}{w:World}{K:Za}{es:List Expr}{kx:Nat}{J9:Pos}(a b z TI TO i1 i2:Addr)(D:l9 z TI TO i1 i2 a b):
  pS P w K (.Tuple es kx J9) (Ee K a b) [z,TI,TO,i1,i2] z (fun i h=>IsZip h z TI TO .none/\IsPair h TI (.ref i1) (.ref i2)/\(∃a b,IsPair h TO a b)/\h.IsListIter i1 a i/\h.IsListIter i2 b i) where
 mem:=by simp
 obj:=fun i h st c hc=>by
  obtain⟨hz,hTI,⟨u,v,hTO⟩,h1,h2⟩:=st;simp only[bS,oI,or_false]at hc;rcases hc with rfl|rfl|rfl|rfl|rfl
  ·exact⟨_,hz,fun v z=>by cases z⟩
  ·exact⟨_,hTI,fun v z=>by cases z⟩
  ·exact⟨_,hTO,fun v z=>by cases z⟩
  ·obtain⟨o,e,c,d⟩:=h1;exact⟨o,e,fun v z=>by rw[d]at z;cases z⟩
  ·obtain⟨o,e,c,d⟩:=h2;exact⟨o,e,fun v z=>by rw[d]at z;cases z⟩
 keep:=fun i h h' st k=>by
  obtain⟨hz,hTI,⟨u,v,hTO⟩,h1,h2⟩:=st;exact⟨k z (by simp) _ hz,k TI (by simp) _ hTI,⟨u,v,k TO (by simp) _ hTO⟩,h1.at fun o e=>k i1 (by simp) o e,h2.at fun o e=>k i2 (by simp) o e⟩
 item:=by
  intro X hP hw hK hc i J5 s σ H E I hf st hg;subst hP hw hK;obtain⟨hz,hTI,⟨u0,v0,hTO⟩,h1,h2⟩:=st;obtain⟨xs,ys,x,y,hqx,hqy,hx,hy⟩:=hg;obtain⟨its,rx,px,zx⟩:=I.list hqx;obtain⟨jts,ry,py,zy⟩:=I.list hqy;obtain⟨u,hu,ru⟩:=rx.get hx;obtain⟨v,hv,rv⟩:=ry.get hy;refine wpAny_pyNext_zip_item D hz hTI hTO h1 h2 px.isList py.isList (x:=u) (y:=v) (by simpa using hu) (by simpa using hv) fun h' a1 a2 a3 a4 a5 a6 hk=>?_;refine⟨_,rfl,wpAny_letOwnedTupleGo_zip (s:={ s with heap:=h' }) a1 fun h2' hz2 hs2=>?_⟩;have hs2':ij z h' h2':=hs2;have nsz:s.heap.objs.size≠z:=fM (aQ hz);have nsTO:s.heap.objs.size≠TO:=fM (aQ hTO);have nsTI:s.heap.objs.size≠TI:=fM (aQ hTI);have nsi1:s.heap.objs.size≠i1:=by obtain⟨o,ho,_⟩:=h1;exact fM (aQ ho)
  have nsi2:s.heap.objs.size≠i2:=by obtain⟨o,ho,_⟩:=h2;exact fM (aQ ho)
  have ht2:IsPair h2' s.heap.objs.size u v:=hs2'.extBut _ _ nsz a5;have I2:Inv X J5 σ (upd H s.heap.objs.size (.tup [x,y])) { s with heap:=h2',toks:=s.toks }:=by
   refine I.turnedNew (ch:=[z,TI,TO,i1,i2]) hf (fun c o hc q=>?_) ⟨_,ht2⟩ (fun _ z=>nomatch z) ⟨by show 2<=ai;decide,[u,v],.cons ru (.cons rv .nil),⟨_,ht2,rfl,_,rfl⟩⟩;have n1:c≠z:=fun q=>hc (by simp[q]);exact hs2'.extBut _ _ n1 (hk c o n1 (fun q=>hc (by simp[q])) (fun q=>hc (by simp[q])) (fun q=>hc (by simp[q])) q)
  refine⟨.ref s.heap.objs.size,_,I2,rfl,⟨_,x,y,rfl,I.fresh,fun zs hz=>by rw[I.list_inj hz hqx];exact hx,fun zs hz=>by rw[I.list_inj hz hqy];exact hy,rfl⟩,⟨hz2,hs2'.extBut _ _ D.TIz (hk _ _ D.TIz D.TITO D.TIi1 D.TIi2 hTI),⟨_,_,hs2'.extBut _ _ D.TOz a2⟩,a3.at fun o e=>hs2'.extBut _ _ D.i1z e,a4.at fun o e=>hs2'.extBut _ _ D.i2z e⟩,fun c hc=>?_⟩;have hcn:=(hf c hc).1;simp only[bS,oI,or_false]at hc;have ne:c≠s.heap.objs.size:=by
   rcases hc with rfl|rfl|rfl|rfl|rfl
   ·exact nsz.symm
   ·exact nsTI.symm
   ·exact nsTO.symm
   ·exact nsi1.symm
   ·exact nsi2.symm
  rw[aj ne];exact hcn
 done:=by
  intro X hP hw hK hc i J5 s σ H E I hf st hg;subst hP hw hK;obtain⟨hz,hTI,⟨u0,v0,hTO⟩,h1,h2⟩:=st;obtain⟨xs,ys,hqx,hqy,hend⟩:=hg;obtain⟨its,rx,px,zx⟩:=I.list hqx;obtain⟨jts,ry,py,zy⟩:=I.list hqy;have lx:=rx.length;have ly:=ry.length;refine wpAny_pyNext_zip_end (I.ok.hd hc) D hz hTI hTO h1 h2 px.isList py.isList (by rcases hend with q|q;exact .inl (by simp;omega);exact .inr (by simp;omega)) fun h' hk=>⟨rfl,?_⟩;have tr:∀c q,H c=some q->c∉[z,TI,TO,i1,i2]:=fun c q e m=>by rw[(hf c m).1]at e;cases e
  have kk:∀c o,c∉[z,TI,TO,i1,i2]->s.heap.get? c=some o->h'.get? c=some o:=fun c o hc q=>hk c o (fun q=>hc (by simp[q])) (fun q=>hc (by simp[q])) (fun q=>hc (by simp[q])) (fun q=>hc (by simp[q])) q;refine I.step (g':=s.gens) (d':=s.drawn) (t':=s.toks) (ch:=[z,TI,TO,i1,i2]) (fun c hc=>?_) (fun c o _ _ hc e _=>kk c o hc e) (fun c o _ _ hc e _=>⟨o.slots,kk c o hc e⟩) (fun _ _ _ _ n=>n) (fun c o hc e=>⟨o,kk c o hc e⟩) (fun _ _ e=>e) (fun _ _ _ e=>e) (fun c ps e=>⟨#[],by rw[e];simp⟩) (fun m hm=>?_) (fun c q e=>?_) I.bare
  ·obtain⟨f0,f1,f2,f3,f4,f5⟩:=hf c hc;exact⟨f3,f1,f4,f5⟩
  ·obtain⟨q,es',ep,ho,r⟩:=hm;exact⟨q,es',ep,kk _ q (fun z=>(hf _ z).2.1 rfl) ho,r⟩
  ·refine(I.hok c q e).stay (fun d v hd q'=>kk d v ?_ q') (fun _ q=>q) fun _ _ q=>q;rcases hd with z|z
   ·subst z;exact tr _ _ e
   ·exact tr _ _ z
 self:=fun _ _ _ _ _ st h=>rL st.1 h
section
variable{prog:bt}{w:World}{A:Around}{E:Zc}{s:Shared}
theorem iR{it t:Addr}{i:Nat}{items:Array Value}{x:Value}{Q:Zc}(st:s.heap.IsTupleIter it t i)(tt:s.heap.IsTuple t items)(hx:items[i]?=some x)
  (k:∀h',h'.IsTupleIter it t (i+1)->ij it s.heap h'->Q x { s with heap:=h' }):wpAny (model prog w) A (i_ (.ref it)) Q E s:=by
 obtain⟨oi,gi,ci,di⟩:=id st;obtain⟨ot,gt,_,nt,dt⟩:=tt;unfold i_;refine am (rK (name:=rJ "__next__") st.typeIs rH
  (vm rH st.typeIs F.entry_tuple_iterator_next ?_ (F.args_tuple_iterator_next_1 _)))
 show wpAny _ _ (field (.ref it) 0 >>= _) _ _ s;refine am (fI gi di (x:=.ref t) rfl ?_);show wpAny _ _ (if(Value.ref t==Value.none)=true then _ else _) _ _ s
 rw[if_neg (show ¬((Value.ref t==Value.none)=true)from f_)];show wpAny _ _ (field (.ref it) 1 >>= _) _ _ s;refine am (fI gi di (x:=.int i 0) rfl ?_);show wpAny _ _ (seqItems? (.ref t) >>= _) _ _ s;refine am (j1 gt dt ?_);simp only[mf,hx];refine am (wpAny_setField gi di (by simp) (aE ⟨x,rfl,aE (k _ ?_ (oH ..))⟩));exact⟨_,Heap.get?_update_self _ gi (Obj.isFreed_of_fields (Obj.data_mapFields di _)),(Obj.cls_mapFields ..).trans ci,by
  rw[Obj.data_mapFields di];simp[rawInt]⟩
theorem ng{it t:Addr}{i:Nat}{items:Array Value}{Q:Zc}(hh:A.handled=none)(st:s.heap.IsTupleIter it t i)(tt:s.heap.IsTuple t items)(hx:items[i]?=none)
  (k:∀h' e,Heap.ExtBut it s.heap h'->(∃o,h'.get? e=some o/\o.cls=.type "StopIteration")->E (.ref e) { s with heap:=h' }):wpAny (model prog w) A (i_ (.ref it)) Q E s:=by
 obtain⟨oi,gi,ci,di⟩:=id st;obtain⟨ot,gt,_,nt,dt⟩:=tt;unfold i_;refine am (rK (name:=rJ "__next__") st.typeIs rH
  (vm rH st.typeIs F.entry_tuple_iterator_next ?_ (F.args_tuple_iterator_next_1 _)))
 show wpAny _ _ (field (.ref it) 0 >>= _) _ _ s;refine am (fI gi di (x:=.ref t) rfl ?_);show wpAny _ _ (if(Value.ref t==Value.none)=true then _ else _) _ _ s
 rw[if_neg (show ¬((Value.ref t==Value.none)=true)from f_)];show wpAny _ _ (field (.ref it) 1 >>= _) _ _ s;refine am (fI gi di (x:=.int i 0) rfl ?_);show wpAny _ _ (seqItems? (.ref t) >>= _) _ _ s;refine am (j1 gt dt ?_);simp only[mf,hx];refine am (kW (am (wpAny_setField gi di (by simp) ?_)));show wpAny _ _ (newExc (.type "StopIteration") [] >>= _) _ _ _;refine am ?_;simp only[newExc,newTuple];refine am (wpAny_newObj_type ?_ (by size_fits));refine am (m:=firstArgMember _ _) (wpAny_of_eq (a:=Value.none) (by first|rfl|(simp only[firstArgMember];rfl)) ?_)
 refine wpAny_newObj_type ?_ (by size_fits);simp only[raiseNew];refine am (wpAny_handled ?_)
 first|rw[show A.in1.handled=none from hh] | rw[hh]
 refine am (aE (wpAny_throw ?_));exact k _ _ (((oH ..).extBut.push _).push _) ⟨_,cK _ rfl,rfl⟩
theorem yj{z TI TO i1 i2 l1 l2:Addr}{k1 k2:Nat}{xs ys:Array Value}{x y a b:Value}{Q:Zc}(D:l9 z TI TO i1 i2 l1 l2)
  (gz:IsZip s.heap z TI TO .none) (gI:IsPair s.heap TI (.ref i1) (.ref i2)) (gO:IsPair s.heap TO a b)
  (g1:s.heap.IsTupleIter i1 l1 k1) (g2:s.heap.IsTupleIter i2 l2 k2) (t1:s.heap.IsTuple l1 xs) (t2:s.heap.IsTuple l2 ys) (hx:xs[k1]?=some x) (hy:ys[k2]?=some y)
  (k:∀h',IsZip h' z TI TO (rawInt s.heap.objs.size)->IsPair h' TO x y->h'.IsTupleIter i1 l1 (k1+1)->h'.IsTupleIter i2 l2 (k2+1)->IsPair h' s.heap.objs.size x y->h'.objs.size=s.heap.objs.size+1 ->
   (∀c o,c≠z->c≠TO->c≠i1->c≠i2->s.heap.get? c=some o->h'.get? c=some o)->Q (.ref s.heap.objs.size) { s with heap:=h' }) :
  wpAny (model prog w) A (cz.«zip.__next__» ⟨[.ref z],[]⟩) (fun fin s'=>∃v,fin=.done (.ret v)/\Q v s') E s:=by
 show wpAny _ _ (field (.ref z) 2 >>= _) _ _ _;refine am (fI gz rfl (x:=.bool false) rfl ?_);show wpAny _ _ (field (.ref z) 3 >>= _) _ _ _;refine am (fI gz rfl (x:=.ref TI) rfl ?_);refine am (j1 gI rfl ?_);show wpAny _ _ (rG (.ref z) >>= _) _ _ _;refine am ?_;unfold rG;refine am (fI gz rfl (x:=.none) rfl (aE ?_));simp only[if_true];refine am (kW ?_);refine am (fI gz rfl (x:=.ref TO) rfl ?_);refine am (l7 gz (by simp) fun m₁ gz₁ u₁=>?_)
 replace gz₁:IsZip m₁ z TI TO .ellipsis:=gz₁
 refine am ?_;simp only[List.zipIdx_cons,List.zipIdx_nil,l_,List.forIn_nil];refine am (am (rF ?_));show wpAny _ _ (i_ (.ref i1) >>= _) _ _ _;refine am (iR (g1.extBut u₁.extBut D.i1z) (t1.extBut u₁.extBut D.l1z) hx fun m₂ g1₂ u₂=>aE ?_);have gO₂:IsPair m₂ TO a b:=u₂.extBut _ _ D.TOi1 (u₁.extBut _ _ D.TOz gO);refine am (j1 gO₂ rfl ?_);refine am (wpAny_updateSeq_pair gO₂ fun m₃ gO₃ u₃=>?_)
 replace gO₃:IsPair m₃ TO x b:=gO₃
 refine am (wpAny_letGo (aE ?_));refine am (am (rF ?_));show wpAny _ _ (i_ (.ref i2) >>= _) _ _ _;refine am (iR (((g2.extBut u₁.extBut D.i2z).extBut u₂.extBut D.i12.symm).extBut u₃.extBut D.TOi2.symm)
  (((t2.extBut u₁.extBut D.l2z).extBut u₂.extBut D.l2i1).extBut u₃.extBut D.l2TO) hy fun m₄ g2₄ u₄=>aE ?_)
 have gO₄:IsPair m₄ TO x b:=u₄.extBut _ _ D.TOi2 gO₃;refine am (j1 gO₄ rfl ?_);refine am (wpAny_updateSeq_pair gO₄ fun m₅ gO₅ u₅=>?_)
 replace gO₅:IsPair m₅ TO x y:=gO₅
 refine am (wpAny_letGo (aE (aE ?_)));refine am (j1 gO₅ rfl ?_);refine am (wpAny_newTuple ?_);have esz:m₅.objs.size=s.heap.objs.size:=by rw[u₅.1,u₄.1,u₃.1,u₂.1,u₁.1]
 have gz₅:IsZip m₅ z TI TO .ellipsis:=u₅.extBut _ _ D.TOz.symm (u₄.extBut _ _ D.i2z.symm (u₃.extBut _ _ D.TOz.symm (u₂.extBut _ _ D.i1z.symm gz₁)));have kp₅:∀c o,c≠z->c≠TO->c≠i1->c≠i2->s.heap.get? c=some o->m₅.get? c=some o:=fun c o c1 c2 c3 c4 e =>
  u₅.extBut _ _ c2 (u₄.extBut _ _ c4 (u₃.extBut _ _ c2 (u₂.extBut _ _ c3 (u₁.extBut _ _ c1 e))))
 have g1₅:m₅.IsTupleIter i1 l1 (k1+1):=((g1₂.extBut u₃.extBut D.TOi1.symm).extBut u₄.extBut D.i12).extBut u₅.extBut D.TOi1.symm;have g2₅:m₅.IsTupleIter i2 l2 (k2+1):=g2₄.extBut u₅.extBut D.TOi2.symm;have zlt:z<m₅.objs.size:=aQ gz₅;show wpAny _ _ (cz.SmallTypes.ownedTupleHandOut (.ref z) (.ref m₅.objs.size) >>= _) _ _ _;refine am ?_;unfold cz.SmallTypes.ownedTupleHandOut;have gz₆:IsZip (m₅.push { cls:=.type "tuple",data:=.seq #[x,y] }) z TI TO .ellipsis:=aZ _ gz₅;refine am (l7 gz₆ (by simp) fun m₇ gz₇ u₇=>?_)
 replace gz₇:IsZip m₇ z TI TO (rawInt m₅.objs.size):=gz₇
 refine l7 gz₇ (by simp) fun m₈ gz₈ u₈=>?_
 replace gz₈:IsZip m₈ z TI TO (rawInt m₅.objs.size):=gz₈
 have up:∀c o,c≠z->m₅.get? c=some o->m₈.get? c=some o:=fun c o c1 e=>u₈.extBut _ _ c1 (u₇.extBut _ _ c1 (aZ _ e));have gT₈:IsPair m₈ m₅.objs.size x y:=u₈.extBut _ _ (fM zlt) (u₇.extBut _ _ (fM zlt) (cK _ rfl));have ez8:m₈.objs.size=m₅.objs.size+1:=by rw[u₈.1,u₇.1,mZ]
 rw[esz]at gz₈ gT₈ ez8;refine aE ⟨_,rfl,?_⟩;show Q (.ref m₅.objs.size) _;rw[esz];refine k m₈ gz₈ (up _ _ D.TOz gO₅) ?_ ?_ gT₈ ez8 fun c o c1 c2 c3 c4 e=>up c o c1 (kp₅ c o c1 c2 c3 c4 e)
 ·obtain⟨o,e,r⟩:=g1₅;exact⟨o,up _ o D.i1z e,r⟩
 ·obtain⟨o,e,r⟩:=g2₅;exact⟨o,up _ o D.i2z e,r⟩
theorem zN{z TI TO i1 i2 l1 l2:Addr}{k1 k2:Nat}{xs ys:Array Value}{a b:Value}{Q:Fin->Shared->Prop}(hh:A.handled=none)(D:l9 z TI TO i1 i2 l1 l2)
  (gz:IsZip s.heap z TI TO .none) (gI:IsPair s.heap TI (.ref i1) (.ref i2)) (gO:IsPair s.heap TO a b)
  (g1:s.heap.IsTupleIter i1 l1 k1) (g2:s.heap.IsTupleIter i2 l2 k2) (t1:s.heap.IsTuple l1 xs) (t2:s.heap.IsTuple l2 ys) (fin:xs[k1]?=none∨ys[k2]?=none)
  (k:∀h' e,(∀c o,c≠z->c≠TO->c≠i1->c≠i2->s.heap.get? c=some o->h'.get? c=some o)->(∃o,h'.get? e=some o/\o.cls=.type "StopIteration")->E (.ref e) { s with heap:=h' }) :
  wpAny (model prog w) A (cz.«zip.__next__» ⟨[.ref z],[]⟩) Q E s:=by
 show wpAny _ _ (field (.ref z) 2 >>= _) _ _ _;refine am (fI gz rfl (x:=.bool false) rfl ?_);show wpAny _ _ (field (.ref z) 3 >>= _) _ _ _;refine am (fI gz rfl (x:=.ref TI) rfl ?_);refine am (j1 gI rfl ?_);show wpAny _ _ (rG (.ref z) >>= _) _ _ _;refine am ?_;unfold rG;refine am (fI gz rfl (x:=.none) rfl (aE ?_));simp only[if_true];refine am (kW ?_);refine am (fI gz rfl (x:=.ref TO) rfl ?_);refine am (l7 gz (by simp) fun m₁ gz₁ u₁=>?_)
 replace gz₁:IsZip m₁ z TI TO .ellipsis:=gz₁
 refine am ?_;simp only[List.zipIdx_cons,List.zipIdx_nil,l_,List.forIn_nil];refine am (am (rF ?_));show wpAny _ _ (i_ (.ref i1) >>= _) _ _ _;cases hx:xs[k1]? with
 |none =>
  refine am (ng hh (g1.extBut u₁.extBut D.i1z) (t1.extBut u₁.extBut D.l1z) hx fun m₂ e u₂ he=>?_);obtain⟨oe,ge,ce⟩:=he;have gz₂:IsZip m₂ z TI TO .ellipsis:=u₂ _ _ D.i1z.symm gz₁;have nez:e≠z:=fun q=>by subst q;rw[gz₂]at ge;cases ge;simp at ce
  refine l7 gz₂ (by simp) fun m₃ _ u₃=>k m₃ e (fun c o c1 _ c3 _ q=>u₃.extBut _ _ c1 (u₂ _ _ c3 (u₁.extBut _ _ c1 q))) ⟨oe,u₃.extBut _ _ nez ge,ce⟩
 |some x =>
  have hy:ys[k2]?=none:=by rcases fin with q|q;rw[hx]at q;cases q;exact q
  refine am (iR (g1.extBut u₁.extBut D.i1z) (t1.extBut u₁.extBut D.l1z) hx fun m₂ g1₂ u₂=>aE ?_);have gO₂:IsPair m₂ TO a b:=u₂.extBut _ _ D.TOi1 (u₁.extBut _ _ D.TOz gO);refine am (j1 gO₂ rfl ?_);refine am (wpAny_updateSeq_pair gO₂ fun m₃ gO₃ u₃=>?_);refine am (wpAny_letGo (aE ?_));refine am (am (rF ?_));show wpAny _ _ (i_ (.ref i2) >>= _) _ _ _;refine am (ng hh (((g2.extBut u₁.extBut D.i2z).extBut u₂.extBut D.i12.symm).extBut u₃.extBut D.TOi2.symm)
   (((t2.extBut u₁.extBut D.l2z).extBut u₂.extBut D.l2i1).extBut u₃.extBut D.l2TO) hy fun m₄ e u₄ he=>?_)
  obtain⟨oe,ge,ce⟩:=he;have gz₄:IsZip m₄ z TI TO .ellipsis:=u₄ _ _ D.i2z.symm (u₃.extBut _ _ D.TOz.symm (u₂.extBut _ _ D.i1z.symm gz₁));have nez:e≠z:=fun q=>by subst q;rw[gz₄]at ge;cases ge;simp at ce
  refine l7 gz₄ (by simp) fun m₅ _ u₅=>k m₅ e (fun c o c1 c2 c3 c4 q=>u₅.extBut _ _ c1 (u₄ _ _ c4 (u₃.extBut _ _ c2 (u₂.extBut _ _ c3 (u₁.extBut _ _ c1 q))))) ⟨oe,u₅.extBut _ _ nez ge,ce⟩
theorem qm{z TI TO i1 i2 l1 l2:Addr}{k1 k2:Nat}{xs ys:Array Value}{x y a b:Value}{Q:Option Value->Shared->Prop}(D:l9 z TI TO i1 i2 l1 l2)
  (gz:IsZip s.heap z TI TO .none) (gI:IsPair s.heap TI (.ref i1) (.ref i2)) (gO:IsPair s.heap TO a b)
  (g1:s.heap.IsTupleIter i1 l1 k1) (g2:s.heap.IsTupleIter i2 l2 k2) (t1:s.heap.IsTuple l1 xs) (t2:s.heap.IsTuple l2 ys) (hx:xs[k1]?=some x) (hy:ys[k2]?=some y)
  (k:∀h',IsZip h' z TI TO (rawInt s.heap.objs.size)->IsPair h' TO x y->h'.IsTupleIter i1 l1 (k1+1)->h'.IsTupleIter i2 l2 (k2+1)->IsPair h' s.heap.objs.size x y->h'.objs.size=s.heap.objs.size+1 ->
   (∀c o,c≠z->c≠TO->c≠i1->c≠i2->s.heap.get? c=some o->h'.get? c=some o)->Q (some (.ref s.heap.objs.size)) { s with heap:=h' }) :
  wpAny (model prog w) A (pyNext (.ref z)) Q E s:=by
 have hT:s.TypeIs (.ref z) "zip":=⟨_,gz,rfl⟩;unfold pyNext;exact am (wpAny_attempt (rK (name:=rJ "__next__") hT rE
  (vm rE hT F.entry_zip_next
   (yj D gz gI gO g1 g2 t1 t2 hx hy fun h' a1 a2 a3 a4 a5 a6 a7=>aE (k h' a1 a2 a3 a4 a5 a6 a7)) (F.args_zip_next_1 _))))
theorem sK{z TI TO i1 i2 l1 l2:Addr}{k1 k2:Nat}{xs ys:Array Value}{a b:Value}{Q:Option Value->Shared->Prop}(hh:A.handled=none)(D:l9 z TI TO i1 i2 l1 l2)
  (gz:IsZip s.heap z TI TO .none) (gI:IsPair s.heap TI (.ref i1) (.ref i2)) (gO:IsPair s.heap TO a b)
  (g1:s.heap.IsTupleIter i1 l1 k1) (g2:s.heap.IsTupleIter i2 l2 k2) (t1:s.heap.IsTuple l1 xs) (t2:s.heap.IsTuple l2 ys) (fin:xs[k1]?=none∨ys[k2]?=none)
  (k:∀h',(∀c o,c≠z->c≠TO->c≠i1->c≠i2->s.heap.get? c=some o->h'.get? c=some o)->Q none { s with heap:=h' }):wpAny (model prog w) A (pyNext (.ref z)) Q E s:=by
 have hT:s.TypeIs (.ref z) "zip":=⟨_,gz,rfl⟩;unfold pyNext;refine am (wpAny_attempt (rK (name:=rJ "__next__") hT rE
  (vm rE hT F.entry_zip_next (zN hh D gz gI gO g1 g2 t1 t2 fin fun h' e kp he=>?_) (F.args_zip_next_1 _))))
 obtain⟨o,ho,hc⟩:=he;refine am (wpAny_isInstance (T:="StopIteration") (b:=true) ⟨o,ho,hc⟩ isSubtype_stop ?_);exact aE (k _ kp)
end
abbrev DZ(h:Heap)(l1:Addr):Heap:=h.push { cls:=.type "tuple_iterator",data:=.fields #[.ref l1,.int 0 0] }
abbrev DY(h:Heap)(l1 l2:Addr):Heap:=(DZ h l1).push { cls:=.type "tuple_iterator",data:=.fields #[.ref l2,.int 0 0] }
abbrev DX(h:Heap)(l1 l2:Addr):Heap:=(DY h l1 l2).push { cls:=.type "tuple",data:=.seq #[.ref h.objs.size,.ref (DZ h l1).objs.size] }
abbrev DW(h:Heap)(l1 l2:Addr):Heap:=(DX h l1 l2).push { cls:=.type "tuple",data:=.seq #[.none,.none] }
abbrev Di(h:Heap)(l1 l2:Addr):Heap:=(DW h l1 l2).push { cls:=.type "zip",data:=.fields #[.none,.bool false,.bool false,.ref (DY h l1 l2).objs.size,.ref (DX h l1 l2).objs.size] }
theorem v6(l1 l2:Addr)(xs ys:Array Value):
  Meets (cz.«zip.__new__» ⟨[.type "zip",.ref l1,.ref l2],[]⟩) (fun _ R s=>s.heap.IsTuple l1 xs/\s.heap.IsTuple l2 ys /\
   R (.ok (.ret (.ref (DW s.heap l1 l2).objs.size))) { s with heap:=Di s.heap l1 l2 }) :=
 .of_wp fun prog w A R s h=>by
  obtain⟨hp,g,d,tk,os⟩:=s;obtain⟨q1,q2,h⟩:=h;have hsub:=sub_zip;have T1:Heap.IsTuple (Shared.heap ⟨hp,g,d,tk,os⟩) l1 xs:=q1;have T2:Heap.IsTuple (Shared.heap ⟨hp.push { cls:=.type "tuple_iterator",data:=.fields #[.ref l1,.int 0 0] },g,d,tk,os⟩) l2 ys:=Heap.IsTuple.push q2 _
  wp_walk using w_ T1,w_ T2
  exact⟨_,rfl,h⟩
section
variable{prog:bt}{w:World}{A:Around}{E:Zc}{s:Shared}
theorem zi{l1 l2:Addr}{xs ys:Array Value}{Q:Zc}(t1:s.heap.IsTuple l1 xs)(t2:s.heap.IsTuple l2 ys)
  (k:∀h',IsZip h' (s.heap.objs.size+4) (s.heap.objs.size+2) (s.heap.objs.size+3) .none->IsPair h' (s.heap.objs.size+2) (.ref s.heap.objs.size) (.ref (s.heap.objs.size+1)) ->
   IsPair h' (s.heap.objs.size+3) .none .none->h'.IsTupleIter s.heap.objs.size l1 0->h'.IsTupleIter (s.heap.objs.size+1) l2 0->(∀c o,s.heap.get? c=some o->h'.get? c=some o)->Q (.ref (s.heap.objs.size+4)) { s with heap:=h' }) :
  wpAny (model prog w) A (call (.type "zip") [.ref l1,.ref l2]) Q E s:=by
 refine callType_new F.called_zip (by decide) (F.typeCall_zip_2 _ _) (F.newCall_zip_2 _ _) (fun obj=>F.args_object_init_3 obj _ _) F.entry_zip_new
  (v6 l1 l2 xs ys) ⟨t1,t2,?_⟩
 have z1:(DZ s.heap l1).objs.size=s.heap.objs.size+1:=mZ ..;have z2:(DY s.heap l1 l2).objs.size=s.heap.objs.size+2:=by rw[mZ,z1]
 have z3:(DX s.heap l1 l2).objs.size=s.heap.objs.size+3:=by rw[mZ,z2]
 have z4:(DW s.heap l1 l2).objs.size=s.heap.objs.size+4:=by rw[mZ,z3]
 have g5:(Di s.heap l1 l2).get? (DW s.heap l1 l2).objs.size=some _:=cK _ rfl;have g4:(Di s.heap l1 l2).get? (DX s.heap l1 l2).objs.size=some _:=aZ _ (cK _ rfl);have g3:(Di s.heap l1 l2).get? (DY s.heap l1 l2).objs.size=some _:=aZ _ (aZ _ (cK _ rfl));have g2:(Di s.heap l1 l2).get? (DZ s.heap l1).objs.size=some _:=aZ _ (aZ _ (aZ _ (cK _ rfl)));have g1:(Di s.heap l1 l2).get? s.heap.objs.size=some _:=aZ _ (aZ _ (aZ _ (aZ _ (cK _ rfl))));show _/\_;rw[z2,z3,z4]at g5;rw[z1,z2]at g3;rw[z3]at g4;rw[z1]at g2;rw[z4];exact⟨⟨_,g5,rfl⟩,k _ g5 g3 g4 ⟨_,g1,rfl,rfl⟩ ⟨_,g2,rfl,rfl⟩ fun c o x =>
  aZ _ (aZ _ (aZ _ (aZ _ (aZ _ x))))⟩
end
def Ci(K:Za)(a b:Addr):It :=
  ⟨fun i H=>∃xs ys x y,bc K H a xs/\bc K H b ys/\xs[i]?=some x/\ys[i]?=some y,
   fun i H x H'=>∃p u v,x=.ref p/\H p=none/\(∀xs,bc K H a xs->xs[i]?=some u)/\(∀ys,bc K H b ys->ys[i]?=some v)/\H'=upd H p (.tup [u,v]),
   fun i H=>∃xs ys,bc K H a xs/\bc K H b ys/\(xs.length<=i∨ys.length<=i)⟩
theorem yk{P:bt}{w:World}{K:Za}{es:List Expr}{kx:Nat}{J9:Pos}(a b z TI TO i1 i2:Addr)(D:l9 z TI TO i1 i2 a b):
  pS P w K (.Tuple es kx J9) (Ci K a b) [z,TI,TO,i1,i2] z (fun i h=>IsZip h z TI TO .none/\IsPair h TI (.ref i1) (.ref i2)/\(∃a b,IsPair h TO a b)/\h.IsTupleIter i1 a i/\h.IsTupleIter i2 b i) where
 mem:=by simp
 obj:=fun i h st c hc=>by
  obtain⟨hz,hTI,⟨u,v,hTO⟩,h1,h2⟩:=st;simp only[bS,oI,or_false]at hc;rcases hc with rfl|rfl|rfl|rfl|rfl
  ·exact⟨_,hz,fun v z=>by cases z⟩
  ·exact⟨_,hTI,fun v z=>by cases z⟩
  ·exact⟨_,hTO,fun v z=>by cases z⟩
  ·obtain⟨o,e,c,d⟩:=h1;exact⟨o,e,fun v z=>by rw[d]at z;cases z⟩
  ·obtain⟨o,e,c,d⟩:=h2;exact⟨o,e,fun v z=>by rw[d]at z;cases z⟩
 keep:=fun i h h' st k=>by
  obtain⟨hz,hTI,⟨u,v,hTO⟩,⟨o1,e1,r1⟩,⟨o2,e2,r2⟩⟩:=st;exact⟨k z (by simp) _ hz,k TI (by simp) _ hTI,⟨u,v,k TO (by simp) _ hTO⟩,⟨o1,k i1 (by simp) o1 e1,r1⟩,⟨o2,k i2 (by simp) o2 e2,r2⟩⟩
 item:=by
  intro X hP hw hK hc i J5 s σ H E I hf st hg;subst hP hw hK;obtain⟨hz,hTI,⟨u0,v0,hTO⟩,h1,h2⟩:=st;obtain⟨xs,ys,x,y,hqx,hqy,hx,hy⟩:=hg;obtain⟨its,rx,px,zx⟩:=I.tuple hqx;obtain⟨jts,ry,py,zy⟩:=I.tuple hqy;obtain⟨u,hu,ru⟩:=rx.get hx;obtain⟨v,hv,rv⟩:=ry.get hy;refine qm D hz hTI hTO h1 h2 (xs:=its.toArray) (ys:=jts.toArray) px py (x:=u) (y:=v) (by simpa using hu) (by simpa using hv) fun h' a1 a2 a3 a4 a5 a6 hk=>?_;refine⟨_,rfl,wpAny_letOwnedTupleGo_zip (s:={ s with heap:=h' }) a1 fun h2' hz2 hs2=>?_⟩;have hs2':ij z h' h2':=hs2;have nsz:s.heap.objs.size≠z:=fM (aQ hz);have nsTO:s.heap.objs.size≠TO:=fM (aQ hTO);have nsTI:s.heap.objs.size≠TI:=fM (aQ hTI);have nsi1:s.heap.objs.size≠i1:=by obtain⟨o,ho,_⟩:=h1;exact fM (aQ ho)
  have nsi2:s.heap.objs.size≠i2:=by obtain⟨o,ho,_⟩:=h2;exact fM (aQ ho)
  have ht2:IsPair h2' s.heap.objs.size u v:=hs2'.extBut _ _ nsz a5;have I2:Inv X J5 σ (upd H s.heap.objs.size (.tup [x,y])) { s with heap:=h2',toks:=s.toks }:=by
   refine I.turnedNew (ch:=[z,TI,TO,i1,i2]) hf (fun c o hc q=>?_) ⟨_,ht2⟩ (fun _ z=>nomatch z) ⟨by show 2<=ai;decide,[u,v],.cons ru (.cons rv .nil),⟨_,ht2,rfl,_,rfl⟩⟩;have n1:c≠z:=fun q=>hc (by simp[q]);exact hs2'.extBut _ _ n1 (hk c o n1 (fun q=>hc (by simp[q])) (fun q=>hc (by simp[q])) (fun q=>hc (by simp[q])) q)
  have a3':h2'.IsTupleIter i1 a (i+1):=by obtain⟨o,e,r⟩:=a3;exact⟨o,hs2'.extBut _ _ D.i1z e,r⟩
  have a4':h2'.IsTupleIter i2 b (i+1):=by obtain⟨o,e,r⟩:=a4;exact⟨o,hs2'.extBut _ _ D.i2z e,r⟩
  refine⟨.ref s.heap.objs.size,_,I2,rfl,⟨_,x,y,rfl,I.fresh,fun zs hz=>by rw[I.tuple_inj hz hqx];exact hx,fun zs hz=>by rw[I.tuple_inj hz hqy];exact hy,rfl⟩,⟨hz2,hs2'.extBut _ _ D.TIz (hk _ _ D.TIz D.TITO D.TIi1 D.TIi2 hTI),⟨_,_,hs2'.extBut _ _ D.TOz a2⟩,a3',a4'⟩,fun c hc=>?_⟩;have hcn:=(hf c hc).1;simp only[bS,oI,or_false]at hc;have ne:c≠s.heap.objs.size:=by
   rcases hc with rfl|rfl|rfl|rfl|rfl
   ·exact nsz.symm
   ·exact nsTI.symm
   ·exact nsTO.symm
   ·exact nsi1.symm
   ·exact nsi2.symm
  rw[aj ne];exact hcn
 done:=by
  intro X hP hw hK hc i J5 s σ H E I hf st hg;subst hP hw hK;obtain⟨hz,hTI,⟨u0,v0,hTO⟩,h1,h2⟩:=st;obtain⟨xs,ys,hqx,hqy,hend⟩:=hg;obtain⟨its,rx,px,zx⟩:=I.tuple hqx;obtain⟨jts,ry,py,zy⟩:=I.tuple hqy;have lx:=rx.length;have ly:=ry.length;refine sK (I.ok.hd hc) D hz hTI hTO h1 h2 (xs:=its.toArray) (ys:=jts.toArray) px py (by rcases hend with q|q;exact .inl (by simp;omega);exact .inr (by simp;omega)) fun h' hk=>⟨rfl,?_⟩;have tr:∀c q,H c=some q->c∉[z,TI,TO,i1,i2]:=fun c q e m=>by rw[(hf c m).1]at e;cases e
  have kk:∀c o,c∉[z,TI,TO,i1,i2]->s.heap.get? c=some o->h'.get? c=some o:=fun c o hc q=>hk c o (fun q=>hc (by simp[q])) (fun q=>hc (by simp[q])) (fun q=>hc (by simp[q])) (fun q=>hc (by simp[q])) q;refine I.step (g':=s.gens) (d':=s.drawn) (t':=s.toks) (ch:=[z,TI,TO,i1,i2]) (fun c hc=>?_) (fun c o _ _ hc e _=>kk c o hc e) (fun c o _ _ hc e _=>⟨o.slots,kk c o hc e⟩) (fun _ _ _ _ n=>n) (fun c o hc e=>⟨o,kk c o hc e⟩) (fun _ _ e=>e) (fun _ _ _ e=>e) (fun c ps e=>⟨#[],by rw[e];simp⟩) (fun m hm=>?_) (fun c q e=>?_) I.bare
  ·obtain⟨f0,f1,f2,f3,f4,f5⟩:=hf c hc;exact⟨f3,f1,f4,f5⟩
  ·obtain⟨q,es',ep,ho,r⟩:=hm;exact⟨q,es',ep,kk _ q (fun z=>(hf _ z).2.1 rfl) ho,r⟩
  ·refine(I.hok c q e).stay (fun d v hd q'=>kk d v ?_ q') (fun _ q=>q) fun _ _ q=>q;rcases hd with z|z
   ·subst z;exact tr _ _ e
   ·exact tr _ _ z
 self:=fun _ _ _ _ _ st h=>rL st.1 h
section
variable{X:Cx}{p pos:Pos}{es:List Expr}{kx:Nat}{J9:Pos}
def AK(K:Za)(ta:TA):TI:=fun σ H R=>ta σ H fun vs H1=>∃a b,vs=[.ref a,.ref b]/\(((∃xs,ay K H1 a xs)/\(∃ys,ay K H1 b ys)/\R (Ee K a b) H1)∨((∃xs,bc K H1 a xs)/\(∃ys,bc K H1 b ys)/\R (Ci K a b) H1))
theorem xw{a b:Expr}{ta:TA}(hg:Gl X "zip")(hm:X.mg "zip"=none)(ha:PA X [a,b] ta)(hs:aN [a,b] X.env=[(false,eval a X.env),(false,eval b X.env)]:=by rfl)(hs2:aN [b] X.env=[(false,eval b X.env)]:=by rfl):
  PI X (.Tuple es kx J9) (.Call (.Name "zip" p) [a,b] [] pos) (AK X.K ta):=by
 intro J5 s σ H R I h;refine Call_ (kD I hg hm boot_zip (t3 (cj (ha pos J5 s σ H _ I h) fun us s1 zq0=>?_) (by rw[hs,hs2]) (by rw[hs2];rfl)));obtain⟨vs,H1,I1,r1,q1⟩:=zq0;obtain⟨l1,l2,e,q⟩:=q1;subst e;obtain⟨u,v,rfl,ru,rv⟩:=vals2 r1;cases ru;cases rv;have fin:∀b∈[s1.heap.objs.size+4,s1.heap.objs.size+2,s1.heap.objs.size+3,s1.heap.objs.size,s1.heap.objs.size+1],jY X J5 H1 b:=fun b hb=>by
  have hb':s1.heap.objs.size<=b:=by
   simp only[bS,oI,or_false]at hb;rcases hb with rfl|rfl|rfl|rfl|rfl<;>omega
  exact I1.fpOk hb' (I1.hok.fresh hb')
 rcases q with⟨⟨xs,hx⟩,⟨ys,hy⟩,q⟩|⟨⟨xs,hx⟩,⟨ys,hy⟩,q⟩
 ·obtain⟨its,rx,px,zx⟩:=I1.list hx;obtain⟨jts,ry,py,zy⟩:=I1.list hy;obtain⟨o1,n1,e1,_⟩:=id px;obtain⟨o2,n2,e2,_⟩:=id py;refine call_zip_2 px.isList py.isList fun h' a1 a2 a3 a4 a5 a6 hk=>?_;refine rL (s:={ s1 with heap:=h' }) a1 ?_;have hk':∀b o,s1.heap.get? b=some o->h'.get? b=some o:=hk;have I2:Inv X J5 σ H1 { s1 with heap:=h' }:=I1.kept (t':=s1.toks) hk';exact⟨_,_,_,_,H1,rfl,I2,zU l1 l2 _ _ _ _ _ (zipApart_new (aQ e1) (aQ e2)),⟨a1,a2,⟨_,_,a3⟩,a4,a5⟩,fin,q⟩
 ·obtain⟨its,rx,px,zx⟩:=I1.tuple hx;obtain⟨jts,ry,py,zy⟩:=I1.tuple hy;obtain⟨o1,e1,_⟩:=id px;obtain⟨o2,e2,_⟩:=id py;refine zi (xs:=its.toArray) (ys:=jts.toArray) px py fun h' a1 a2 a3 a4 a5 hk=>?_;refine rL (s:={ s1 with heap:=h' }) a1 ?_;have hk':∀b o,s1.heap.get? b=some o->h'.get? b=some o:=hk;have I2:Inv X J5 σ H1 { s1 with heap:=h' }:=I1.kept (t':=s1.toks) hk';exact⟨_,_,_,_,H1,rfl,I2,yk l1 l2 _ _ _ _ _ (zipApart_new (aQ e1) (aQ e2)),⟨a1,a2,⟨_,_,a3⟩,a4,a5⟩,fin,q⟩
end
inductive DT where
 |k (a:dH)
 |t (l:List DT)
 |s (l:List DT)
mutual
def CI:(x y:DT)->Decidable (x=y)
 |.k a,.k b=>if h:a=b then Decidable.isTrue (by rw[h])else Decidable.isFalse fun e=>h (by injection e)
 |.t l,.t m=>match decDTs l m with
  |Decidable.isTrue h=>Decidable.isTrue (by rw[h])
  |Decidable.isFalse h=>Decidable.isFalse fun e=>h (by injection e)
 |.s l,.s m=>match decDTs l m with
  |Decidable.isTrue h=>Decidable.isTrue (by rw[h])
  |Decidable.isFalse h=>Decidable.isFalse fun e=>h (by injection e)
 |.k _,.t _=>Decidable.isFalse nofun
 |.k _,.s _=>Decidable.isFalse nofun
 |.t _,.k _=>Decidable.isFalse nofun
 |.t _,.s _=>Decidable.isFalse nofun
 |.s _,.k _=>Decidable.isFalse nofun
 |.s _,.t _=>Decidable.isFalse nofun
def decDTs:(x y:List DT)->Decidable (x=y)
 |[],[]=>Decidable.isTrue rfl
 |[],_::_=>Decidable.isFalse nofun
 |_::_,[]=>Decidable.isFalse nofun
 |a::l,b::m=>match CI a b with
  |Decidable.isTrue h=>match decDTs l m with
   |Decidable.isTrue h'=>Decidable.isTrue (by rw[h,h'])
   |Decidable.isFalse h'=>Decidable.isFalse fun e=>h' (by injection e)
  |Decidable.isFalse h=>Decidable.isFalse fun e=>h (by injection e)
end
instance:DecidableEq DT:=CI
mutual
def DT.depth:DT->Nat
 |.k _=>0
 |.t l=>DT.depths l+1
 |.s l=>DT.depths l+1
def DT.depths:List DT->Nat
 |[]=>0
 |a::r=>max (DT.depth a) (DT.depths r)
end
mutual
def n8(h:Heap):DT->Value->Prop
 |.k a,v=>cq a v=true
 |.t l,v=>∃a items,v=.ref a/\h.IsTuple a items/\DAts h l items.toList
 |.s l,v=>∃a items,v=.ref a/\h.IsList a items/\DAts h l items.toList
def DAts(h:Heap):List DT->List Value->Prop
 |[],vs=>vs=[]
 |k::r,vs=>∃v us,vs=v::us/\n8 h k v/\DAts h r us
end
theorem DAts.length{h:Heap}:∀{xs:List DT}{vs:Zf},DAts h xs vs->xs.length=vs.length
 |[],vs,e=>by have e':vs=[]:=e;rw[e'];rfl
 |x::xs,vs,e=>by
  obtain⟨v,us,rfl,_,h2⟩:=e;simp[DAts.length h2]
theorem DAts.get{h:Heap}:∀{xs:List DT}{vs:Zf}{i:Nat}{v:Value},DAts h xs vs->vs[i]?=some v->∃x,xs[i]?=some x/\n8 h x v
 |[],vs,i,v,e,q=>by have e':vs=[]:=e;subst e';simp at q
 |x::xs,vs,i,v,e,q=>by
  obtain⟨u,us,rfl,h1,h2⟩:=e;cases i with
  |zero =>
   simp at q;subst q;exact⟨x,rfl,h1⟩
  |succ i =>
   obtain⟨y,e1,e2⟩:=DAts.get h2 (i:=i) (v:=v) (by simpa using q);exact⟨y,by simpa using e1,e2⟩
theorem DT.depths_get{l:List DT}{x:DT}{i d:Nat}(h:DT.depths l<=d)(e:l[i]?=some x):x.depth<=d:=by
 induction l generalizing i with
 |nil=>simp at e
 |cons a r ih =>
  have h':max a.depth (DT.depths r)<=d:=h;cases i with
  |zero=>simp at e;subst e;omega
  |succ i=>exact ih (by omega) (by simpa using e)
theorem wj{h:Heap}{a:Addr}{i j:Array Value}(x:h.IsList a i)(y:h.IsList a j):i=j:=by
 obtain⟨o,ho,_,n,hd⟩:=x;obtain⟨o',ho',_,n',hd'⟩:=y;rw[ho]at ho';cases ho';rw[hd]at hd';injection hd'
theorem uL{h:Heap}{a:Addr}{i j:Array Value}(x:h.IsTuple a i)(y:h.IsTuple a j):i=j:=by
 obtain⟨o,ho,_,n,hd⟩:=x;obtain⟨o',ho',_,n',hd'⟩:=y;rw[ho]at ho';cases ho';rw[hd]at hd';injection hd'
theorem iu{h:Heap}{a:Addr}{i j:Array Value}(x:h.IsList a i)(y:h.IsTuple a j):False:=by
 obtain⟨o,ho,hc,_⟩:=x;obtain⟨o',ho',hc',_⟩:=y;rw[ho]at ho';cases ho';rw[hc]at hc';simp at hc'
theorem qO{a b:dH}{v:Value}(h1:cq a v=true)(h2:cq b v=true):a=b:=by
 rcases au h1 with⟨i,t,rfl,rfl⟩|⟨i,t,rfl,rfl⟩
 ·rcases au h2 with⟨j,u,rfl,e⟩|⟨j,u,rfl,e⟩
  ·cases e;rfl
  ·cases e
 ·rcases au h2 with⟨j,u,rfl,e⟩|⟨j,u,rfl,e⟩
  ·cases e
  ·cases e;rfl
theorem f6{a:dH}{b:Addr}(h:cq a (.ref b)=true):False:=by
 rcases au h with⟨_,_,_,e⟩|⟨_,_,_,e⟩<;>cases e
theorem n8.inj{h:Heap}:∀(d:Nat) {x y:DT}{v:Value},x.depth<=d->n8 h x v->n8 h y v->x=y:=by
 have key:∀(d:Nat) (ih:∀{x y:DT}{v:Value},x.depth<=d->n8 h x v->n8 h y v->x=y) (xs ys:List DT) (vs:Zf),DT.depths xs<=d->DAts h xs vs->DAts h ys vs->xs=ys:=by
  intro d ih xs
  induction xs with
  |nil =>
   intro ys vs _ hx hy;have hx':vs=[]:=hx;subst hx';cases ys with
   |nil=>rfl
   |cons y ys=>obtain⟨_,_,e,_⟩:=hy;cases e
  |cons x xs ihl =>
   intro ys vs hd hx hy;obtain⟨v,us,rfl,hx1,hx2⟩:=hx;cases ys with
   |nil=>have hy':v::us=[]:=hy;cases hy'
   |cons y ys =>
    obtain⟨v',us',e,hy1,hy2⟩:=hy;cases e;have hd':max x.depth (DT.depths xs)<=d:=hd;rw[ih (by omega) hx1 hy1,ihl ys us (by omega) hx2 hy2]
 intro d
 induction d with
 |zero =>
  intro x y v hd hx hy;cases x with
  |t l=>exact absurd hd (by show ¬(DT.depths l+1<=0);omega)
  |s l=>exact absurd hd (by show ¬(DT.depths l+1<=0);omega)
  |k a =>
   cases y with
   |k b=>rw[qO hx hy]
   |t l=>obtain⟨b,_,rfl,_⟩:=hy;exact(f6 hx).elim
   |s l=>obtain⟨b,_,rfl,_⟩:=hy;exact(f6 hx).elim
 |succ d ih =>
  intro x y v hd hx hy;cases x with
  |k a =>
   cases y with
   |k b=>rw[qO hx hy]
   |t l=>obtain⟨b,_,rfl,_⟩:=hy;exact(f6 hx).elim
   |s l=>obtain⟨b,_,rfl,_⟩:=hy;exact(f6 hx).elim
  |t l =>
   obtain⟨a,i,rfl,hi,hx⟩:=hx;cases y with
   |k b=>exact(f6 hy).elim
   |t m =>
    obtain⟨a',j,e,hj,hy⟩:=hy;cases e;rw[uL hj hi]at hy;rw[key d (fun h1=>ih h1) l m i.toList (by have:DT.depths l+1<=d+1:=hd;omega) hx hy]
   |s m =>
    obtain⟨a',j,e,hj,hy⟩:=hy;cases e;exact(iu hj hi).elim
  |s l =>
   obtain⟨a,i,rfl,hi,hx⟩:=hx;cases y with
   |k b=>exact(f6 hy).elim
   |s m =>
    obtain⟨a',j,e,hj,hy⟩:=hy;cases e;rw[wj hj hi]at hy;rw[key d (fun h1=>ih h1) l m i.toList (by have:DT.depths l+1<=d+1:=hd;omega) hx hy]
   |t m =>
    obtain⟨a',j,e,hj,hy⟩:=hy;cases e;exact(iu hi hj).elim
theorem eI{l m:List DT}(hl:l.length=m.length):((kS l.length).all fun j=>decide (l[j]?=m[j]?))=decide (l=m):=by
 by_cases e:l=m
 ·subst e;simp
 ·rw[zzr0 e];rw[List.all_eq_false];apply Classical.byContradiction;intro h;apply e;apply List.ext_getElem?;intro i;by_cases hi:i<l.length
  ·apply Classical.byContradiction;intro hne;exact h ⟨i,List.mem_range.mpr hi,by simpa using hne⟩
  ·rw[List.getElem?_eq_none (by omega),List.getElem?_eq_none (by omega)]
section
variable{s:Shared}
theorem dt_eq:∀(d:Nat) {A:Around}{x y:DT}{u v:Value},y.depth<=d->A.units+d<cLine->n8 s.heap x u->n8 s.heap y v->aU A s u v (decide (x=y)):=by
 have leaves:∀{A:Around}{a b:dH}{u v:Value},cq a u=true->cq b v=true->aU A s u v (decide (DT.k a=DT.k b)):=by
  intro A a b u v h1 h2;have hd:decide (DT.k a=DT.k b)=decide (a=b):=by
   by_cases e:a=b
   ·subst e;simp
   ·have:¬(DT.k a=DT.k b):=fun z=>e (by injection z);rw[zzr0 this,zzr0 e]
  rw[hd];rcases au h1 with⟨i,t,rfl,rfl⟩|⟨i,t,rfl,rfl⟩
  ·rcases au h2 with⟨j,u,rfl,rfl⟩|⟨j,u,rfl,rfl⟩
   ·rw[sR];exact aU.int_int i t j u
   ·rw[sQ];exact aU.int_str i t j u
  ·rcases au h2 with⟨j,u,rfl,rfl⟩|⟨j,u,rfl,rfl⟩
   ·rw[sP];exact aU.str_int i t j u
   ·rw[sO];have:=aU.str_str (A:=A) (s:=s) i t j u;rwa[show(i==j)=decide (i=j)from by by_cases e:i=j<;>simp[e]]at this
 have kt:∀{A:Around}{a:dH}{u:Value}{b:Addr}{items:Array Value},A.units<cLine->cq a u=true->s.heap.IsTuple b items->aU A s u (.ref b) false/\aU A s (.ref b) u false:=by
  intro A a u b items hu h1 ht;rcases au h1 with⟨i,t,rfl,rfl⟩|⟨i,t,rfl,rfl⟩
  ·exact⟨aU.int_tuple i t ht hu,aU.tuple_int i t ht hu⟩
  ·exact⟨aU.str_tuple i t ht hu,aU.tuple_str i t ht hu⟩
 have kl:∀{A:Around}{a:dH}{u:Value}{b:Addr}{items:Array Value},A.units<cLine->cq a u=true->s.heap.IsList b items->aU A s u (.ref b) false/\aU A s (.ref b) u false:=by
  intro A a u b items hu h1 ht;rcases au h1 with⟨i,t,rfl,rfl⟩|⟨i,t,rfl,rfl⟩
  ·exact⟨aU.int_list i t ht hu,aU.list_int i t ht hu⟩
  ·exact⟨aU.str_list i t ht hu,aU.list_str i t ht hu⟩
 intro d
 induction d with
 |zero =>
  intro A x y u v hdy hu hx hy;cases y with
  |t l=>exact absurd hdy (by show ¬(DT.depths l+1<=0);omega)
  |s l=>exact absurd hdy (by show ¬(DT.depths l+1<=0);omega)
  |k b =>
   cases x with
   |t l =>
    obtain⟨a,i,rfl,hi,_⟩:=hx;rw[zzr0 (by intro z;cases z)];exact(kt (by omega) hy hi).2
   |s l =>
    obtain⟨a,i,rfl,hi,_⟩:=hx;rw[zzr0 (by intro z;cases z)];exact(kl (by omega) hy hi).2
   |k a=>exact leaves hx hy
 |succ d ih =>
  intro A x y u v hdy hu hx hy;have items:∀{l m:List DT}{i j:Array Value},DT.depths m<=d->DAts s.heap l i.toList->DAts s.heap m j.toList->∀n (h1:n<i.size) (h2:n<j.size),aU A.in1 s i[n] j[n] (decide (l[n]?=m[n]?)):=by
   intro l m i j hm hi hj n h1 h2;obtain⟨x,ex,hx⟩:=hi.get (i:=n) (v:=i[n]) (by simp[h1]);obtain⟨y,ey,hy⟩:=hj.get (i:=n) (v:=j[n]) (by simp[h2]);rw[ex,ey];have hd:decide ((some x:Option DT)=some y)=decide (x=y):=by
    by_cases e:x=y
    ·subst e;simp
    ·rw[zzr0 e,zzr0 fun z=>e (dC z)]
   rw[hd];exact ih (DT.depths_get hm ey) (by show A.units+1+d<cLine;omega) hx hy
  cases x with
  |k a =>
   cases y with
   |k b=>exact leaves hx hy
   |t l =>
    obtain⟨b,i,rfl,hi,_⟩:=hy;rw[zzr0 (by intro z;cases z)];exact(kt (by omega) hx hi).1
   |s l =>
    obtain⟨b,i,rfl,hi,_⟩:=hy;rw[zzr0 (by intro z;cases z)];exact(kl (by omega) hx hi).1
  |t l =>
   have hx0:=hx;obtain⟨a,i,rfl,hi,hx⟩:=hx;cases y with
   |k b =>
    rw[zzr0 (by intro z;cases z)];exact(kt (by omega) hy hi).2
   |s m =>
    obtain⟨b,j,rfl,hj,_⟩:=hy;rw[zzr0 (by intro z;cases z)];exact aU.tuple_list hi hj (by omega)
   |t m =>
    have hm:DT.depths m<=d:=by have:DT.depths m+1<=d+1:=hdy;omega
    have hy0:=hy;obtain⟨b,j,rfl,hj,hy⟩:=hy;by_cases hab:a=b
    ·subst hab;have e:DT.t l=DT.t m:=n8.inj _ (ax _) hx0 hy0;rw[zzr1 e];exact aU.same _
    ·have r:=SeqAt.RcAt.tuples (A:=A) hi hj (by omega) (items hm hx hy);have li:=hx.length;have lj:=hy.length;simp only[m5]at li lj;have q:((kS (min i.size j.size)).all (fun n=>decide (l[n]?=m[n]?)) && i.size==j.size)=decide (DT.t l=DT.t m):=by
      by_cases e:l.length=m.length
      ·have e1:i.size=j.size:=by omega
       rw[<-e1,Nat.min_self,<-li,eI e];by_cases e2:l=m
       ·subst e2;simp
       ·have:¬(DT.t l=DT.t m):=fun z=>e2 (by injection z);rw[zzr0 this,zzr0 e2];rfl
      ·have e1:(i.size==j.size)=false:=by simp;omega
       have:¬(DT.t l=DT.t m):=fun z=>e (by injection z with z;rw[z]);rw[e1,zzr0 this,Bool.and_false]
     rw[q]at r;exact .of_refs hab r
  |s l =>
   have hx0:=hx;obtain⟨a,i,rfl,hi,hx⟩:=hx;cases y with
   |k b =>
    rw[zzr0 (by intro z;cases z)];exact(kl (by omega) hy hi).2
   |t m =>
    obtain⟨b,j,rfl,hj,_⟩:=hy;rw[zzr0 (by intro z;cases z)];exact aU.list_tuple hi hj (by omega)
   |s m =>
    have hm:DT.depths m<=d:=by have:DT.depths m+1<=d+1:=hdy;omega
    have hy0:=hy;obtain⟨b,j,rfl,hj,hy⟩:=hy;by_cases hab:a=b
    ·subst hab;have e:DT.s l=DT.s m:=n8.inj _ (ax _) hx0 hy0;rw[zzr1 e];exact aU.same _
    ·have li:=hx.length;have lj:=hy.length;simp only[m5]at li lj;by_cases e:l.length=m.length
     ·have r:=SeqAt.RcAt.lists (A:=A) hi hj (by omega) (by omega) (items hm hx hy);rw[<-li,eI e]at r;have q:decide (l=m)=decide (DT.s l=DT.s m):=by
       by_cases e2:l=m
       ·subst e2;simp
       ·have:¬(DT.s l=DT.s m):=fun z=>e2 (by injection z);rw[zzr0 this,zzr0 e2]
      rw[q]at r;exact .of_refs hab r
     ·have:¬(DT.s l=DT.s m):=fun z=>e (by injection z with z;rw[z]);rw[zzr0 this];exact .of_refs hab (SeqAt.RcAt.lists_lengths hi hj (by simp;omega) (by omega))
end
theorem xX(a b:dH):decide (DT.k a=DT.k b)=decide (a=b):=by
 by_cases e:a=b
 ·subst e;simp
 ·rw[zzr0 e,zzr0 fun z=>e (by injection z)]
theorem CF(l m:List DT):decide (DT.t l=DT.t m)=decide (l=m):=by
 by_cases e:l=m
 ·subst e;simp
 ·rw[zzr0 e,zzr0 fun z=>e (by injection z)]
theorem CG(l m:List DT):decide (DT.s l=DT.s m)=decide (l=m):=by
 by_cases e:l=m
 ·subst e;simp
 ·rw[zzr0 e,zzr0 fun z=>e (by injection z)]
theorem AZ(x y:DT):decide ((some x:Option DT)=some y)=decide (x=y):=by
 by_cases e:x=y
 ·subst e;simp
 ·rw[zzr0 e,zzr0 fun z=>e (dC z)]
section
variable{A:Around}{s:Shared}
theorem lO{d:Nat}(hu:A.units+1+d<cLine){l m:List DT}{i j:Array Value}(hm:DT.depths m<=d)(hi:DAts s.heap l i.toList)(hj:DAts s.heap m j.toList):
  ∀n (h1:n<i.size) (h2:n<j.size),aU A.in1 s i[n] j[n] (decide (l[n]?=m[n]?)):=by
 intro n h1 h2;obtain⟨x,ex,hx⟩:=hi.get (i:=n) (v:=i[n]) (by simp[h1]);obtain⟨y,ey,hy⟩:=hj.get (i:=n) (v:=j[n]) (by simp[h2]);rw[ex,ey,AZ];exact dt_eq d (DT.depths_get hm ey) hu hx hy
theorem xi{l m:List DT}{i j:Array Value}(hi:DAts s.heap l i.toList)(hj:DAts s.heap m j.toList):((kS (min i.size j.size)).all (fun n=>decide (l[n]?=m[n]?)) && i.size==j.size)=decide (l=m):=by
 have li:=hi.length;have lj:=hj.length;simp only[m5]at li lj;by_cases e:l.length=m.length
 ·have e1:i.size=j.size:=by omega
  rw[<-e1,Nat.min_self,<-li,eI e];simp
 ·have e1:(i.size==j.size)=false:=by simp;omega
  rw[e1,zzr0 fun z=>e (by rw[z]),Bool.and_false]
theorem CB{x y:DT}{u v:Value}(dy:y.depth<=14)(hu:A.units+16<cLine)(hx:n8 s.heap x u)(hy:n8 s.heap y v):SeqAt.RcAt A s u v (decide (x=y)):=by
 cases x with
 |k a =>
  rcases au (show cq a u=true from hx)with⟨i,t,rfl,rfl⟩|⟨i,t,rfl,rfl⟩
  ·cases y with
   |k b =>
    rw[xX];rcases au (show cq b v=true from hy)with⟨j,t',rfl,rfl⟩|⟨j,t',rfl,rfl⟩
    ·rw[sR];exact SeqAt.RcAt.int_int i t j t'
    ·rw[sQ];exact SeqAt.RcAt.int_str i t j t'
   |t m=>obtain⟨b,j,rfl,hj,_⟩:=hy;rw[zzr0 (by intro z;cases z)];exact SeqAt.RcAt.int_tuple i t hj (by omega)
   |s m=>obtain⟨b,j,rfl,hj,_⟩:=hy;rw[zzr0 (by intro z;cases z)];exact SeqAt.RcAt.int_list i t hj (by omega)
  ·cases y with
   |k b =>
    rw[xX];rcases au (show cq b v=true from hy)with⟨j,t',rfl,rfl⟩|⟨j,t',rfl,rfl⟩
    ·rw[sP];exact SeqAt.RcAt.str_int i t j t'
    ·rw[sO];have:=SeqAt.RcAt.str_str (A:=A) (s:=s) i t j t';rwa[show(i==j)=decide (i=j)from by by_cases e:i=j<;>simp[e]]at this
   |t m=>obtain⟨b,j,rfl,hj,_⟩:=hy;rw[zzr0 (by intro z;cases z)];exact SeqAt.RcAt.str_tuple i t hj (by omega)
   |s m=>obtain⟨b,j,rfl,hj,_⟩:=hy;rw[zzr0 (by intro z;cases z)];exact SeqAt.RcAt.str_list i t hj (by omega)
 |t l =>
  obtain⟨a,i,rfl,hi,hx⟩:=hx;cases y with
  |k b =>
   rw[zzr0 (by intro z;cases z)];rcases au (show cq b v=true from hy)with⟨j,t',rfl,rfl⟩|⟨j,t',rfl,rfl⟩
   ·exact SeqAt.RcAt.tuple_int j t' hi (by omega)
   ·exact SeqAt.RcAt.tuple_str j t' hi (by omega)
  |t m =>
   obtain⟨b,j,rfl,hj,hy⟩:=hy;have dm:DT.depths m<=13:=by have:DT.depths m+1<=14:=dy;omega
   have r:=SeqAt.RcAt.tuples (A:=A) hi hj (by omega) (lO (by omega) dm hx hy);rw[xi hx hy]at r;rw[CF];exact r
  |s m=>obtain⟨b,j,rfl,hj,_⟩:=hy;rw[zzr0 (by intro z;cases z)];exact SeqAt.RcAt.tuple_list hi hj (by omega)
 |s l =>
  obtain⟨a,i,rfl,hi,hx⟩:=hx;cases y with
  |k b =>
   rw[zzr0 (by intro z;cases z)];rcases au (show cq b v=true from hy)with⟨j,t',rfl,rfl⟩|⟨j,t',rfl,rfl⟩
   ·exact SeqAt.RcAt.list_int j t' hi (by omega)
   ·exact SeqAt.RcAt.list_str j t' hi (by omega)
  |t m=>obtain⟨b,j,rfl,hj,_⟩:=hy;rw[zzr0 (by intro z;cases z)];exact SeqAt.RcAt.list_tuple hi hj (by omega)
  |s m =>
   obtain⟨b,j,rfl,hj,hy⟩:=hy;have dm:DT.depths m<=13:=by have:DT.depths m+1<=14:=dy;omega
   have li:=hx.length;have lj:=hy.length;simp only[m5]at li lj;rw[CG];by_cases e:l.length=m.length
   ·have r:=SeqAt.RcAt.lists (A:=A) hi hj (by omega) (by omega) (lO (by omega) dm hx hy);rw[<-li,eI e]at r;exact r
   ·rw[zzr0 fun z=>e (by rw[z])];exact SeqAt.RcAt.lists_lengths hi hj (by simp;omega) (by omega)
theorem CD{x y:DT}{u v:Value}(dy:y.depth<=14)(hu:A.units+16<cLine)(hx:n8 s.heap x u)(hy:n8 s.heap y v):SeqAt.RcNeAt A s u v (!decide (x=y)):=by
 cases x with
 |k a =>
  rcases au (show cq a u=true from hx)with⟨i,t,rfl,rfl⟩|⟨i,t,rfl,rfl⟩
  ·cases y with
   |k b =>
    rw[xX];rcases au (show cq b v=true from hy)with⟨j,t',rfl,rfl⟩|⟨j,t',rfl,rfl⟩
    ·rw[sR];exact SeqAt.RcNeAt.int_int i t j t'
    ·rw[sQ];exact SeqAt.RcNeAt.int_str i t j t'
   |t m=>obtain⟨b,j,rfl,hj,_⟩:=hy;rw[zzr0 (by intro z;cases z)];exact SeqAt.RcNeAt.int_tuple i t hj (by omega)
   |s m=>obtain⟨b,j,rfl,hj,_⟩:=hy;rw[zzr0 (by intro z;cases z)];exact SeqAt.RcNeAt.int_list i t hj (by omega)
  ·cases y with
   |k b =>
    rw[xX];rcases au (show cq b v=true from hy)with⟨j,t',rfl,rfl⟩|⟨j,t',rfl,rfl⟩
    ·rw[sP];exact SeqAt.RcNeAt.str_int i t j t'
    ·rw[sO];have:=SeqAt.RcNeAt.str_str (A:=A) (s:=s) i t j t';rwa[show(i==j)=decide (i=j)from by by_cases e:i=j<;>simp[e]]at this
   |t m=>obtain⟨b,j,rfl,hj,_⟩:=hy;rw[zzr0 (by intro z;cases z)];exact SeqAt.RcNeAt.str_tuple i t hj (by omega)
   |s m=>obtain⟨b,j,rfl,hj,_⟩:=hy;rw[zzr0 (by intro z;cases z)];exact SeqAt.RcNeAt.str_list i t hj (by omega)
 |t l =>
  obtain⟨a,i,rfl,hi,hx⟩:=hx;cases y with
  |k b =>
   rw[zzr0 (by intro z;cases z)];rcases au (show cq b v=true from hy)with⟨j,t',rfl,rfl⟩|⟨j,t',rfl,rfl⟩
   ·exact SeqAt.RcNeAt.tuple_int j t' hi (by omega)
   ·exact SeqAt.RcNeAt.tuple_str j t' hi (by omega)
  |t m =>
   obtain⟨b,j,rfl,hj,hy⟩:=hy;have dm:DT.depths m<=13:=by have:DT.depths m+1<=14:=dy;omega
   have r:=SeqAt.RcNeAt.tuples (A:=A) hi hj (by omega) (lO (by omega) dm hx hy);rw[xi hx hy]at r;rw[CF];exact r
  |s m=>obtain⟨b,j,rfl,hj,_⟩:=hy;rw[zzr0 (by intro z;cases z)];exact SeqAt.RcNeAt.tuple_list hi hj (by omega)
 |s l =>
  obtain⟨a,i,rfl,hi,hx⟩:=hx;cases y with
  |k b =>
   rw[zzr0 (by intro z;cases z)];rcases au (show cq b v=true from hy)with⟨j,t',rfl,rfl⟩|⟨j,t',rfl,rfl⟩
   ·exact SeqAt.RcNeAt.list_int j t' hi (by omega)
   ·exact SeqAt.RcNeAt.list_str j t' hi (by omega)
  |t m=>obtain⟨b,j,rfl,hj,_⟩:=hy;rw[zzr0 (by intro z;cases z)];exact SeqAt.RcNeAt.list_tuple hi hj (by omega)
  |s m =>
   obtain⟨b,j,rfl,hj,hy⟩:=hy;have dm:DT.depths m<=13:=by have:DT.depths m+1<=14:=dy;omega
   have li:=hx.length;have lj:=hy.length;simp only[m5]at li lj;rw[CG];by_cases e:l.length=m.length
   ·have r:=SeqAt.RcNeAt.lists (A:=A) hi hj (by omega) (by omega) (lO (by omega) dm hx hy);rw[<-li,eI e]at r;exact r
   ·rw[zzr0 fun z=>e (by rw[z])];exact SeqAt.RcNeAt.lists_lengths hi hj (by simp;omega) (by omega)
end
mutual
def f8(K:Za)(H:Hp):DT->V->Prop
 |.k a,v=>v=kV a
 |.t l,v=>∃b xs,v=.ref b/\bc K H b xs/\DIns K H l xs
 |.s l,v=>∃b xs,v=.ref b/\ay K H b xs/\DIns K H l xs
def DIns(K:Za)(H:Hp):List DT->List V->Prop
 |[],vs=>vs=[]
 |k::r,vs=>∃v us,vs=v::us/\f8 K H k v/\DIns K H r us
end
section
variable{X:Cx}{J5:Zd}{σ:St}{H:Hp}{s:Shared}
theorem gB(I:Inv X J5 σ H s):∀(d:Nat) {k:DT}{v:V}{u:Value},k.depth<=d->f8 X.K H k v->RelV v u->n8 s.heap k u:=by
 have key:∀(d:Nat) (ih:∀{k:DT}{v:V}{u:Value},k.depth<=d->f8 X.K H k v->RelV v u->n8 s.heap k u) (ks:List DT) (vs:List V) (us:Zf),DT.depths ks<=d->DIns X.K H ks vs->aV vs us->DAts s.heap ks us:=by
  intro d ih ks
  induction ks with
  |nil =>
   intro vs us _ hx r;have e:vs=[]:=hx;subst e;cases r
   rfl
  |cons k ks ihl =>
   intro vs us hd hx r;obtain⟨v,vs',rfl,h1,h2⟩:=hx;cases r with
   |@cons _ u _ us' r1 r2 =>
    have hd':max k.depth (DT.depths ks)<=d:=hd;exact⟨u,us',rfl,ih (by omega) h1 r1,ihl vs' us' (by omega) h2 r2⟩
 intro d
 induction d with
 |zero =>
  intro k v u hd hx r;cases k with
  |t l=>exact absurd hd (by show ¬(DT.depths l+1<=0);omega)
  |s l=>exact absurd hd (by show ¬(DT.depths l+1<=0);omega)
  |k b =>
   have e:v=kV b:=hx;subst e;exact nn (P:=X.prog) (w:=X.w) r
 |succ d ih =>
  intro k v u hd hx r;cases k with
  |k b =>
   have e:v=kV b:=hx;subst e;exact nn (P:=X.prog) (w:=X.w) r
  |t l =>
   obtain⟨b,xs,rfl,hb,hi⟩:=hx;cases(show u=Value.ref b from r);obtain⟨its,rv,ht,_⟩:=I.tuple hb;exact⟨b,its.toArray,rfl,ht,by simpa using key d (fun h1=>ih h1) l xs its (by have:DT.depths l+1<=d+1:=hd;omega) hi rv⟩
  |s l =>
   obtain⟨b,xs,rfl,hb,hi⟩:=hx;cases(show u=Value.ref b from r);obtain⟨its,rv,ht,_⟩:=I.list hb;exact⟨b,its.toArray,rfl,ht.isList,by simpa using key d (fun h1=>ih h1) l xs its (by have:DT.depths l+1<=d+1:=hd;omega) hi rv⟩
theorem jI(I:Inv X J5 σ H s):∀{ks:List DT}{vs:List V}{us:Zf},DT.depths ks<=8->DIns X.K H ks vs->aV vs us->DAts s.heap ks us
 |[],vs,us,_,hx,r=>by
  have e:vs=[]:=hx;subst e;cases r
  rfl
 |k::ks,vs,us,hd,hx,r=>by
  obtain⟨v,vs',rfl,h1,h2⟩:=hx;cases r with
  |@cons _ u _ us' r1 r2 =>
   have hd':max k.depth (DT.depths ks)<=8:=hd;exact⟨u,us',rfl,gB I 8 (by omega) h1 r1,jI I (by omega) h2 r2⟩
end
def nM(K:Za):R2:=fun x y H Q=>∃d e:DT,f8 K H d x/\f8 K H e y/\d.depth<=8/\e.depth<=8/\Q (.bl (decide (d=e))) H
def CU(K:Za):R2:=fun x y H Q=>∃d e:DT,f8 K H d x/\f8 K H e y/\d.depth<=8/\e.depth<=8/\Q (.bl (!decide (d=e))) H
section
variable{X:Cx}
theorem gr(hu:X.A.units+16<cLine):jK X (cL .Eq) (nM X.K):=by
 intro J5 s σ H x y v u Q I rx ry h;obtain⟨d,e,hx,hy,dx,dy,q⟩:=h;exact CB (aW dy (by decide)) hu (gB I 8 dx hx rx) (gB I 8 dy hy ry) X.prog X.w X.xe _ ⟨.bl _,H,I,rfl,q⟩
theorem Av(hu:X.A.units+16<cLine):jK X (cL .NotEq) (CU X.K):=by
 intro J5 s σ H x y v u Q I rx ry h;obtain⟨d,e,hx,hy,dx,dy,q⟩:=h;exact CD (aW dy (by decide)) hu (gB I 8 dx hx rx) (gB I 8 dy hy ry) X.prog X.w X.xe _ ⟨.bl _,H,I,rfl,q⟩
def BK(K:Za):R2:=fun x y H Q=>∃d e:DT,f8 K H d x/\f8 K H e y/\d.depth<=40/\e.depth<=14/\Q (.bl (decide (d=e))) H
def Dw(K:Za):R2:=fun x y H Q=>∃d e:DT,f8 K H d x/\f8 K H e y/\d.depth<=40/\e.depth<=14/\Q (.bl (!decide (d=e))) H
theorem C5(hu:X.A.units+16<cLine):jK X (cL .Eq) (BK X.K):=by
 intro J5 s σ H x y v u Q I rx ry h;obtain⟨d,e,hx,hy,dx,dy,q⟩:=h;exact CB dy hu (gB I 40 dx hx rx) (gB I 14 dy hy ry) X.prog X.w X.xe _ ⟨.bl _,H,I,rfl,q⟩
theorem C4(hu:X.A.units+16<cLine):jK X (cL .NotEq) (Dw X.K):=by
 intro J5 s σ H x y v u Q I rx ry h;obtain⟨d,e,hx,hy,dx,dy,q⟩:=h;exact CD dy hu (gB I 40 dx hx rx) (gB I 14 dy hy ry) X.prog X.w X.xe _ ⟨.bl _,H,I,rfl,q⟩
def sF(K:Za)(neg:Bool):R2:=fun x y H Q=>∃(d:DT) (ds:List DT) (p:Addr) (xs:List V),f8 K H d x/\y=.ref p/\(ay K H p xs∨bc K H p xs)/\DIns K H ds xs/\d.depth<=8/\DT.depths ds<=8/\Q (.bl (if neg then !decide (d∈ds)else decide (d∈ds))) H
open Classical in
theorem lR{h:Heap}{d:DT}(d8:d.depth<=8):∀{ds:List DT}{us:Zf},DAts h ds us->DT.depths ds<=8->us.any (fun u=>@decide (n8 h d u) (propDecidable _))=decide (d∈ds)
 |[],us,e,_=>by
  have e':us=[]:=e;subst e'
  rfl
 |x::ds,us,e,hd=>by
  obtain⟨u,us',rfl,h1,h2⟩:=e;have hd':max x.depth (DT.depths ds)<=8:=hd;rw[rO,lR d8 h2 (by omega)];by_cases q:d=x
  ·subst q;simp[h1]
  ·have n:¬n8 h d u:=fun z=>q (n8.inj 8 d8 z h1);simp[n,q]
open Classical in
theorem pA{A:Around}{s:Shared}{d:DT}{v:Value}(d8:d.depth<=8)(hu:A.units+8<cLine)(hd:n8 s.heap d v):∀{ds:List DT}{us:Zf},DAts s.heap ds us->DT.depths ds<=8->∀u∈us,aU A s u v (@decide (n8 s.heap d u) (propDecidable _))
 |[],us,e,_,u,hm=>by
  have e':us=[]:=e;subst e';cases hm
 |x::ds,us,e,h8,u,hm=>by
  obtain⟨u',us',rfl,h1,h2⟩:=e;have h8':max x.depth (DT.depths ds)<=8:=h8;rcases bS.mp hm with rfl|hm
  ·have q:=dt_eq 8 (A:=A) d8 hu h1 hd;by_cases z:x=d
   ·subst z;rw[zzr1 h1];rwa[zzr1 rfl]at q
   ·have n:¬n8 s.heap d u:=fun w=>z (n8.inj 8 d8 w h1).symm;rw[zzr0 n];rwa[zzr0 z]at q
  ·exact pA d8 hu hd h2 (by omega) u hm
theorem v5(hu:X.A.units+16<cLine):jK X (cL .In) (sF X.K false):=by
 intro J5 s σ H x y v u Q I rx ry h;obtain⟨d,ds,p,xs,hx,rfl,hq,hds,d8,ds8,q⟩:=h;cases ry;have hd:=gB I 8 d8 hx rx;have hu':X.A.in1.units+8<cLine:=by show X.A.units+1+8<cLine;omega
 rcases hq with hq|hq
 ·obtain⟨its,r,pl,hz⟩:=I.list hq;have hi:=jI I ds8 hds r;refine SeqAt.in_listAt _ pl.isList (fun w hw=>pA d8 hu' hd hi ds8 w (by simpa using hw)) ⟨.bl _,H,I,rfl,?_⟩;rw[rD,lR d8 hi ds8];exact q
 ·obtain⟨its,r,pl,hz⟩:=I.tuple hq;have hi:=jI I ds8 hds r;refine SeqAt.in_tupleAt _ pl (fun w hw=>pA d8 hu' hd hi ds8 w (by simpa using hw)) ⟨.bl _,H,I,rfl,?_⟩;rw[rD,lR d8 hi ds8];exact q
theorem jC(hu:X.A.units+16<cLine):jK X (cL .NotIn) (sF X.K true):=by
 intro J5 s σ H x y v u Q I rx ry h;obtain⟨d,ds,p,xs,hx,rfl,hq,hds,d8,ds8,q⟩:=h;cases ry;have hd:=gB I 8 d8 hx rx;have hu':X.A.in1.units+8<cLine:=by show X.A.units+1+8<cLine;omega
 rcases hq with hq|hq
 ·obtain⟨its,r,pl,hz⟩:=I.list hq;have hi:=jI I ds8 hds r;refine SeqAt.notIn_listAt _ pl.isList (fun w hw=>pA d8 hu' hd hi ds8 w (by simpa using hw)) ⟨.bl _,H,I,rfl,?_⟩;rw[rD,lR d8 hi ds8];exact q
 ·obtain⟨its,r,pl,hz⟩:=I.tuple hq;have hi:=jI I ds8 hds r;refine SeqAt.notIn_tupleAt _ pl (fun w hw=>pA d8 hu' hd hi ds8 w (by simpa using hw)) ⟨.bl _,H,I,rfl,?_⟩;rw[rD,lR d8 hi ds8];exact q
end
def pJ(z:Str)(lo hi:Option Int):Str:=⟨((z.cps.toList.drop (HT.sIx z.length 0 lo)).take (HT.sIx z.length z.length hi-HT.sIx z.length 0 lo)).toArray⟩
theorem sliceRange_one(a b:Nat):sliceRange (a:Int) (b:Int) 1=(kS (b-a)).map (fun k=>a+k):=by
 unfold sliceRange;simp only[show(1:Int) > 0 from by decide,if_true];by_cases h:(a:Int)<(b:Int)
 ·have e:(if(a:Int)<(b:Int)then((b:Int)-a+1-1) / 1 else 0).toNat=b-a:=by rw[if_pos h];omega
  rw[e];exact List.map_congr_left fun k _=>by omega
 ·have e:(if(a:Int)<(b:Int)then((b:Int)-a+1-1) / 1 else 0).toNat=b-a:=by rw[if_neg h];omega
  rw[e];exact List.map_congr_left fun k _=>by omega
theorem u4(v:Option Int)(n d:Nat):(match v with|none=>(d:Int)|some i=>max 0 (min (if i<0 then i+(n:Int)else i) (n:Int)))=((HT.sIx n d v:Nat):Int):=by
 cases v with
 |none=>rfl
 |some i =>
  rw[<-HT.clip_eq i n d];dsimp only;by_cases h:i<0
  ·rw[if_pos h,if_pos h];omega
  ·rw[if_neg h,if_neg h];omega
theorem lh(lo hi:Option Int)(n:Nat):oG lo hi 1 n=(kS (HT.sIx n n hi-HT.sIx n 0 lo)).map (fun k=>HT.sIx n 0 lo+k):=by
 have e1:=u4 lo n 0;have e2:=u4 hi n n;rw[<-sliceRange_one,<-e1,<-e2];unfold oG;simp only[show(1:Int) > 0 from by decide,if_true];cases lo<;>cases hi<;>rfl
theorem yC(z:Str)(lo hi:Option Int):Txt.slice z lo hi=pJ z lo hi:=by
 have ha:HT.sIx z.length 0 lo<=z.length:=HT.sIx_le _ _ (bN _) _;have hb:HT.sIx z.length z.length hi<=z.length:=HT.sIx_le _ _ (ax _) _;have hlen:z.cps.toList.length=z.length:=by simp[Str.length]
 have pick:(oG lo hi 1 z.length).filterMap (z.cps[·]?)=(z.cps.toList.drop (HT.sIx z.length 0 lo)).take (HT.sIx z.length z.length hi-HT.sIx z.length 0 lo):=by
  rw[lh];generalize HT.sIx z.length 0 lo=a at *;generalize HT.sIx z.length z.length hi=b at *;have h:=StrLaws.picks z.cps.toList (b-a) a (by omega);simpa using h
 unfold Txt.slice;by_cases h:((1:Int)==1 && (oG lo hi 1 z.length).length==z.length)=true
 ·rw[if_pos h];have hl:(oG lo hi 1 z.length).length=z.length:=by simpa using h
  rw[lh,ak,List.length_range]at hl;unfold pJ;have a0:HT.sIx z.length 0 lo=0:=by omega
  have bn:HT.sIx z.length z.length hi-HT.sIx z.length 0 lo=z.cps.toList.length:=by omega
  rw[bn,a0,oE,bo]
 ·rw[if_neg h];unfold pJ;rw[pick]
section
variable{X:Cx}
def yR:V->Option Int->Option Int->Hp->VK->Prop:=fun x lo hi H Q=>∃z,x=.str z/\z.length<=ai/\Q (.str (pJ z lo hi)) H
theorem sB:CJ X yR:=by
 intro J5 s σ H x v vl vu lo hi sl Q I rx hs pl pu h;obtain⟨z,rfl,hz,q⟩:=h;obtain⟨t,rfl⟩:=rx;rw[<-yC]at q;refine⟨"str",_,F.slot_str_getitem.lookup,typeIs_str _ _ _,?_⟩;obtain⟨o,ho,hc,hd⟩:=hs;have fin:∀(l u:Option (Int×Tok)),vl=partValue l->vu=partValue u->lo=l.map (·.1)->hi=u.map (·.1)->wpAny (model X.prog X.w) X.A (kf (.str z t) (.ref sl)) (EP X J5 σ Q) X.xe s:=by
  rintro l u rfl rfl rfl rfl;refine wpAny_getItem_str_slice (l:=l) (u:=u) (st:=none) ⟨o,ho,hc,hd⟩ rfl (post_val_or_str ⟨aW (Txt.slice_le z _ _) hz,fun t' k=>⟨.str _,H,I.tok _,⟨_,rfl⟩,q⟩⟩)
 cases pl with
 |none =>
  cases pu with
  |none=>exact fin none none rfl rfl rfl rfl
  |int j u=>exact fin none (some (j,u)) rfl rfl rfl rfl
 |int i t' =>
  cases pu with
  |none=>exact fin (some (i,t')) none rfl rfl rfl rfl
  |int j u=>exact fin (some (i,t')) (some (j,u)) rfl rfl rfl rfl
theorem CQ:CJ X (fun x lo hi H Q=>nL X.K x lo hi H Q∨yR x lo hi H Q):=fS.or sB
def Ct(K:Za):V->List V->Hp->VK->Prop:=fun x vs H Q=>∃z p ys,x=.str z/\vs=[.ref p]/\ay K H p (ys.map V.str)/\(ys.map (·.length)).sum+ys.length * z.length<=16777216/\Q (.str (rC z ys)) H
theorem Bz{ys:Zb}:∀{us:Zf},aV (ys.map V.str) us->StrsAre us ys:=by
 induction ys with
 |nil=>intro us r;cases r;exact .nil
 |cons y ys ih =>
  intro us r;cases r with
  |cons r1 r2 =>
   obtain⟨t,rfl⟩:=r1;exact .cons _ _ (ih r2)
theorem BW:Ed X "str.join" (Ct X.K):=by
 intro J5 s σ H x vs v us Q I rx rv h;obtain⟨z,p,ys,rfl,rfl,hq,hz,q⟩:=h;obtain⟨t,rfl⟩:=rx;obtain⟨u,rfl,ru⟩:=rv.one;cases ru;obtain⟨its,r,pl,_⟩:=I.list hq;exact join_list pl.isList (by simpa using Bz r) hz fun t' k=>⟨.str _,H,I.tok _,⟨_,rfl⟩,q⟩
end
section
variable{X:Cx}
def De(K:Za)(H:Hp)(x:V)(t:Value):Prop:=ib K H x t∨(∃a xs,x=.ref a/\t=.type "tuple"/\bc K H a xs)∨(∃a xs,x=.ref a/\t=.type "list"/\ay K H a xs)
theorem wg{J5:Zd}{σ:St}{H:Hp}{s:Shared}{A:Around}{E:Zc}{Q:Zc}{c:Value}{b:Bool}{x:V}{u t:Value}(I:Inv X J5 σ H s)(rx:RelV x u)(ty:De X.K H x t)(e:wV X.K t c=some b)(h:∀tk,Q (.bool b) { s with toks:=tk }):
  wpAny (model X.prog X.w) A (call (.builtin "isinstance") [u,c]) Q E s:=by
 rcases ty with ty|⟨a,xs,rfl,rfl,q⟩|⟨a,xs,rfl,rfl,q⟩
 ·exact yY I rx ty e h
 ·cases(show u=Value.ref a from rx);obtain⟨its,rv,p,hz⟩:=I.tuple q;obtain⟨o,h1,h2,_⟩:=p;exact ie PySem.W.kitx_tuple I.kIn ⟨o,h1,h2⟩ e (fun z=>nomatch z) h
 ·cases(show u=Value.ref a from rx);obtain⟨its,rv,p,hz⟩:=I.list q;obtain⟨o,n,h1,h2,_⟩:=p;exact ie PySem.W.kitx_list I.kIn ⟨o,h1,h2⟩ e (fun z=>nomatch z) h
theorem c8:eM X (.builtin "isinstance") (fun xs H Q=>∃x c t b,xs=[x,.ty c]/\De X.K H x t/\wV X.K t (.type c)=some b/\Q (.bl b) H):=by
 intro J5 s σ H xs us Q I r h;obtain⟨x,c,t,b,rfl,ty,hk,q⟩:=h;obtain⟨u,v,rfl,ru,rv⟩:=vals2 r;cases(show v=Value.type c from rv);exact wg I ru ty hk fun tk=>⟨.bl b,H,I.tok _,rfl,q⟩
theorem Dc{bs:List Bool}{us:Zf}(r:aV (bs.map V.bl) us){i:Nat}{v:Value}(h:us[i]?=some v):v=.bool ((bs[i]?).getD false)/\i<bs.length:=by
 have hi:i<us.length:=(bR.mp h).1;have hl:=r.length;rw[ak]at hl;have hb:i<bs.length:=by omega
 obtain⟨u,hu,ru⟩:=r.get (i:=i) (x:=V.bl bs[i]) (by simp[hb]);rw[h]at hu;cases hu;refine⟨?_,hb⟩;rw[bC hb];exact ru
theorem tF(bs:List Bool):((kS bs.length).all fun i=>(bs[i]?).getD false)=bs.all id:=by
 induction bs with
 |nil=>rfl
 |cons b bs ih =>
  rw[cW,List.range_succ_eq_map,List.all_cons,oC,List.all_cons,<-ih]
  rfl
theorem g_(hc:X.calm=true):eM X (.builtin "all") (fun xs H Q=>∃(p:Addr) (bs:List Bool),xs=[.ref p]/\ay X.K H p (bs.map V.bl)/\Q (.bl (bs.all id)) H):=by
 intro J5 s σ H xs us Q I r h;obtain⟨p,bs,rfl,hq,q⟩:=h;obtain⟨u,rfl,ru⟩:=vals1 r;cases ru;obtain⟨its,rv,pl,hz⟩:=I.list hq;obtain⟨o,n,ho,_⟩:=id pl;have hl:=rv.length;rw[ak]at hl;refine call_all_walk (xa pl.isList ?_);refine⟨s.heap.objs.size,_,_,_,_,_,fun i=>(bs[i]?).getD false,rfl,Walks.list (prog:=X.prog) (w:=X.w) (A:=X.A.in1) (I.ok.hd hc) s.heap.objs.size p (b_ (aQ ho)) its.toArray,⟨⟨_,cK _ rfl,rfl,rfl⟩,pl.isList.push _⟩,?_,?_⟩
 ·intro i v s' Q' E' hv hq';obtain⟨e,_⟩:=Dc rv (i:=i) (v:=v) (by simpa using hv);rw[e];exact kT hq'
 ·intro h' tk hk;have I':Inv X J5 σ H { s with heap:=h',toks:=tk }:=I.kept fun b o e=>hk b o (by simp;exact b_ (aQ e)) (aZ _ e);rw[bD,<-hl,tF];exact⟨.bl _,H,I',rfl,q⟩
theorem v4:jK X (cL .In) (fun x y H Q=>∃c j,x=.str ⟨#[c]⟩/\y=.str j/\Q (.bl (decide (c∈j.cps.toList))) H):=by
 intro J5 s σ H x y v u Q I rx ry h;obtain⟨c,j,rfl,rfl,q⟩:=h;rw[<-StrLaws.found_one]at q;exact yS J5 s σ H _ _ v u Q I rx ry ⟨_,_,rfl,rfl,q⟩
theorem pO(hc:X.calm=true):eM X (.type "list") (fun xs H Q=>∃(d:Addr) (kvs:List (dH×V)),xs=[.ref d]/\Rd H d (.dK kvs)/\∀l,H l=none->Q (.ref l) (upd H l (.lst (kvs.map fun kv=>kV kv.1)))):=by
 intro J5 s σ H xs us Q I r h;obtain⟨d,kvs,rfl,hd,q⟩:=h;obtain⟨u,rfl,ru⟩:=vals1 r;cases ru;obtain⟨z,hsys,vs,rel,dd⟩:=nr I.hok hd;obtain⟨ep,hat⟩:=dd.dictAt;have hl:=rel.length;refine PySem.W.kdl_call (PySem.W.kdl_dict (knd:=bJ X.prog X.w) (kvs:=vs) (ep:=ep) hsys) (I.ok.hd hc) hat (by rw[<-hl];exact z) fun h' tk acc c hk hD hacc=>?_;have hv:aV (kvs.map fun kv=>kV kv.1) acc.toList:=by
  obtain⟨hn,hP⟩:=hacc;have key:∀(a:Zf) (ks:List (dH×V)) (ws:List (dH×Value)),KV ks ws->a.length=ws.length->(∀(j:Nat) (v:Value),a[j]?=some v->∃k x,ws[j]?=some (k,x)/\(bJ X.prog X.w).is k v=true)->aV (ks.map fun kv=>kV kv.1) a:=by
   intro a ks ws rl
   induction rl generalizing a with
   |nil=>intro ha _;cases a with
    |nil=>exact .nil
    |cons _ _=>cases ha
   |@cons p w' ps ws' hp _ ih =>
    intro ha hj;cases a with
    |nil=>cases ha
    |cons v a =>
     obtain⟨k,x,e,hk⟩:=hj 0 v rfl;have e':w'=(k,x):=by simpa using e
     refine .cons ?_ (ih a (by simpa using ha) fun j v hv=>by simpa using hj (j+1) v (by simpa using hv));have ek:p.1=k:=by rw[hp.1,e']
     show RelV (kV p.1) v;rw[ek];rcases au (show cq k v=true from hk)with⟨i,t,rfl,rfl⟩|⟨i,t,rfl,rfl⟩
     ·exact⟨t,rfl⟩
     ·exact⟨t,rfl⟩
  exact key acc.toList kvs vs rel (by rw[m5];exact hn) fun j v hv=>hP j v (by rw[<-me];exact hv)
 refine⟨.ref s.heap.objs.size,_,I.laid (o:=.lst (kvs.map fun kv=>kV kv.1)) hk (ax _) ⟨by rw[ak];exact z,acc.toList,c,hv,by rw[Array.toArray_toList];exact hD⟩,rfl,q _ I.fresh⟩
end
section
variable{prog:bt}{w:World}{K:Type}[DecidableEq K]{knd:HeapKind prog w K}{A:Around}{E:Zc}{s:Shared}
theorem oP{d a:Addr}{xs:List (K×Addr×Value)}{k:K}{v:Value}{Q:Zc}(hu:knd.room A)(hkey:knd.is s.heap k a)(hm:s.heap.DictOfH knd d xs)
  (there:∀p,atKey xs k=some p->Q p.2 { s with toks:=s.toks+knd.draws k })
  (new:atKey xs k=none->∀h',h'.DictOfH knd d (xs++[(k,a,v)])->ij d s.heap h'->Q v { s with heap:=h',toks:=s.toks+knd.draws k })
  (hsz:xs.length<=ai):wpAny (model prog w) A (dictSetDefault d (.ref a) v) Q E s:=by
 obtain⟨o,es,ep,ho,hc,hd,he,his,hn⟩:=hm;unfold dictSetDefault
 try with_reducible refine kU ?_
 refine am (knd.pyHash hu hkey ?_);refine am (wpAny_dictFind_heap (s:={ s with toks:=s.toks+knd.draws k }) hu hkey ho hd he his hn ?_ ?_)
 ·intro hno;have hnot:k∉xs.map (·.1):=not_mem_keys_of_get hno;refine am (kW (am (wpAny_updateDictKeys (hz:=by have e:=size_of_entries he;omega) (s:={ s with toks:=s.toks+knd.draws k }) ho hd (aE (new (atKey_none_of_get hno) _ ⟨_,_,ep+1,Heap.get?_update_self _ ho (Obj.isFreed_of_dict (Obj.data_mapDictKeys hd _)),
   hc.mapDictKeys _,Obj.data_mapDictKeys hd _,?_,?_,?_⟩ (oH ..))))))
  ·simp[he,entryOfKey]
  ·intro x hx;rcases bq.mp hx with hx|hx
   ·exact knd.keeps (his x hx) ho hd (oH ..)
   ·simp only[cc]at hx;subst hx;exact knd.keeps hkey ho hd (oH ..)
  ·rw[aG,eh];refine⟨hn,by simp,?_⟩;intro x hx y hy;simp only[bM,List.map_nil,cc]at hy;subst hy;exact fun e=>hnot (e▸hx)
 ·intro j p hj;refine am (wpAny_dictEntries (s:={ s with toks:=s.toks+knd.draws k }) ho hd ?_);rw[entry_at he j,hj];exact am (kW (aE (there p (atKey_of_get hn hj))))
theorem lE(knd:HeapKind prog w K)(d a:Addr)(hd:(d==im)=false)(dflt:Value):
  MeetsIn prog w (cz.«dict.setdefault» ⟨[.ref d,.ref a,dflt],[]⟩) (fun A R s=>knd.room A.in1/\∃k xs,knd.is s.heap k a/\s.heap.DictOfH knd d xs/\xs.length<=ai /\
   (∀p,atKey xs k=some p->R (.ok (.ret p.2)) { s with toks:=s.toks+knd.draws k }) /\
   (atKey xs k=none->∀h',h'.DictOfH knd d (xs++[(k,a,dflt)])->ij d s.heap h'->R (.ok (.ret dflt)) { s with heap:=h',toks:=s.toks+knd.draws k })) :=
 .of_wp fun A R s ⟨hu,k,xs,hkey,hm,hz,h1,h2⟩=>by
  unfold cz.«dict.setdefault»;refine am ?_;unfold cz.Dict.keyAndDefault;refine am (wpAny_notOrdered_dict hm.typeIs ?_);show wpAny _ _ (pure (d,Value.ref a,some dflt)) _ _ s;refine aE ?_;show wpAny _ _ (if(d==im)=true then _ else(dictSetDefault d (.ref a) dflt >>= _)) _ _ s
  rw[if_neg (by rw[hd];exact f_)];exact am (oP hu hkey hm (fun p hp=>aE ⟨p.2,rfl,h1 p hp⟩) (fun hn h' hm' hs'=>aE ⟨dflt,rfl,h2 hn h' hm' hs'⟩) hz)
end
section
variable{X:Cx}
def xp:V->List V->Hp->VK->Prop:=fun x vs H Q=>∃(d b:Addr) (kvs:List (TK×V)) (k:TK) (z:V),x=.ref d/\vs=[.ref b,z]/\H d=some (.dT kvs)/\gD H k (.ref b)/\k.depth<=8/\kvs.length<ai /\
 (∀v,cR kvs k=some v->Q v H)/\(cR kvs k=none->Q z (upd H d (.dT (kvs++[(k,z)]))))
theorem yU(hu:X.A.units+16<cLine):Ed X "dict.setdefault" xp:=by
 intro J5 s σ H x vs v us Q I rx rv h;obtain⟨d,b,kvs,k,z,rfl,rfl,hd,hb,h8,hz,q1,q2⟩:=h;cases rx;obtain⟨u,v,rfl,ru,rz⟩:=rv.two;cases ru;obtain⟨_,hsys,xs,rel,dd⟩:=CC I.hok I.kIn hd;have hl:kvs.length=xs.length:=Paired.length rel;refine call_meetsIn PySem.F.slot_dict_setdefault dd.typeIs PySem.F.entry_dict_setdefault (PySem.F.args_dict_setdefault_3 _ _ _) (lE (eo X.prog X.w) d b hsys v)
  ⟨fW hu,k,xs,wc I.hok I.kIn (gD.c 8 h8 hb) h8,dd,by omega,fun p hp=>?_,fun hn h' dd' hs=>?_⟩
 ·have e:=rel.val k;rw[hp]at e;cases e2:cR kvs k with
  |none=>rw[e2]at e;exact e.elim
  |some y =>
   rw[e2]at e;exact⟨y,H,I.tok _,e,q1 y e2⟩
 ·have e:=rel.val k;rw[hn]at e;have e2:cR kvs k=none:=by
   cases e2:cR kvs k with
   |none=>rfl
   |some y=>rw[e2]at e;exact e.elim
  obtain⟨o,es,ep,hq,h2,h3,h4,_,h5⟩:=dd';refine⟨z,_,tj (ob:=.dT (kvs++[(k,z)])) I (by rw[hd];exact i0) hs ⟨o,hq⟩ ⟨by rw[aH,List.length_singleton];omega,hsys,_,KT.keeps (kvs:=kvs++[(k,z)]) (xs:=xs++[(k,b,v)]) (cf rel ⟨rfl,gD.c 8 h8 hb,h8,rz⟩) fun c ys ec=>?_,o,es,ep,hq,h2,h3,h4,h5⟩,rz,q2 e2⟩;rw[aj (Cw ec hd (fun z=>nomatch z))];exact ec
end
theorem jm:entryFor table "dict.update.loop"=some cz.«dict.update.loop»:=entryFor_of_fast (by kernel_rfl)
theorem eB:plainId "dict.update.loop"=true:=by decide +kernel
theorem sJ:typeLookup (.type "list") "keys"=pure none:=am_miss_of_fast (by decide +kernel)
section
variable{prog:bt}{w:World}{A:Around}{E:Zc}{s:Shared}
theorem yV{a:Addr}{o:Obj}{xs:Array Value}{k:Nat}{Q:Option Value->Shared->Prop}(hx:s.heap.get? a=some o)(hc:o.cls=.type "list")(hdat:o.data=.seq xs k)(hd:o.dict=none)(hA:A.handled=none)
  (h:∀h' tk,(∀b ob,s.heap.get? b=some ob->h'.get? b=some ob)->Q none { s with heap:=h',toks:=tk }):wpAny (model prog w) A (getAttr? (.ref a) "keys") Q E s:=by
 obtain⟨c,dct,dat,sl⟩:=o;simp only at hc hdat hd;subst hc hdat hd;obtain⟨hp,g,d,tk,os⟩:=s;have hT:∀tk',(⟨hp,g,d,tk',os⟩:Shared).TypeIs (.ref a) "list":=fun _=>⟨_,hx,rfl⟩;have f1:=sub_AttributeError;have f3:=F.slot_list_getattribute.lookup;have f4:=F.slot_list_getattribute.bind (.ref a);have f5:=am_list_getattr_none;unfold getAttr? getAttrBy? getAttrBy
 repeat (any_goals (first|assumption|exact hT _|((with_reducible show wpAny _ _ (call (Value.builtin "list.__getattribute__") _ _) _ _ _);refine call_meets F.slot_list_getattribute (hT _) am_entry_list_getattribute (F.args_list_getattribute_2 _ _) (meets_getattribute_miss_list a xs k sl "keys" _ sJ (by decide +kernel) (by decide +kernel)) ⟨hx,hA,fun h' tk' e hx'=>?_⟩)|wp_step))
 obtain⟨t',u',he⟩:=hx'.there;show wpAny _ _ (getattributeRaised _ _ _ _ _ _ _) _ _ _;unfold getattributeRaised hookOrError attributeErrorLeaves
 repeat (any_goals (first|assumption|wp_step))
 all_goals first|exact h _ _ hx'.keeps|trace_state
def wI(h:Heap)(u:Value)(kv:dH×Value):Prop:=∃t ku,u=.ref t/\h.IsTuple t #[ku,kv.2]/\cq kv.1 ku=true
theorem vK{κ:Type}[DecidableEq κ](kvs:List (κ×Value))(k:κ)(v:Value):(stored kvs k v).length<=kvs.length+1:=by
 unfold stored;split
 ·rw[ak];omega
 ·rw[aH,List.length_singleton];exact ax _
theorem zQ{R:Result->Shared->Prop}(hh:A.handled=none){D it l:Addr}{items:Array Value}{ps:List (dH×Value)}(hDi:D≠it)(hli:l≠it)(hlD:l≠D)(hps:ps.length=items.size):
  ∀(n i:Nat) (s:Shared) (acc:List (dH×Value)),items.size-i=n->i<=items.size->acc.length+(items.size-i)<=ai->s.heap.IsListIter it l i->s.heap.IsList l items->s.heap.DictOf (bJ prog w) D acc ->
   (∀(j:Nat) (u:Value) (kv:dH×Value),items[j]?=some u->ps[j]?=some kv->wI s.heap u kv) ->
   (∀h' tk,h'.DictOf (bJ prog w) D (merged acc (ps.drop i))->(∀b o,b≠D->b≠it->s.heap.get? b=some o->h'.get? b=some o)->R (.ok (.ret .none)) { s with heap:=h',toks:=tk }) ->
   zzl77 (model prog w) A (.builtin "dict.update.loop" ⟨[.ref D,.ref it,rawInt i,.none],[]⟩) R s:=by
 intro n
 induction n with
 |zero =>
  intro i s acc hn hi hz hit hl hD hp hR;have e:i=items.size:=by omega
  subst e;refine codeAny_builtin jm ?_;rw[Around.under_plainId eB _];show wpAny _ A.in1 (pyNext (.ref it) >>= _) _ _ s;refine am (wpAny_pyNext_list_end hh hit hl (by simp) fun h' eb=>?_);show wpAny _ _ (cz.Dict.addKeywords D [] >>= _) _ _ _;refine am (aE (aE ?_));have hD':h'.DictOf (bJ prog w) D acc:=hD.extBut eb hDi;have q:=hR h' s.toks (by rw[l6 (by omega)];exact hD') fun b o _ hb e=>eb b o hb e;exact q
 |succ n ih =>
  intro i s acc hn hi hz hit hl hD hp hR;have hlt:i<items.size:=by omega
  refine codeAny_builtin jm ?_;rw[Around.under_plainId eB _];show wpAny _ A.in1 (pyNext (.ref it) >>= _) _ _ s;have hu:items[i]?=some items[i]:=by simp[hlt]
  have hk:ps[i]?=some ps[i]:=bC (by omega);obtain⟨t,ku,eu,ht,hku⟩:=hp i _ _ hu hk;refine am (wpAny_pyNext_list_item hit hl (x:=items[i]) hu fun h1 hit1 hs1=>?_);rw[eu];have hs1':ij it s.heap h1:=hs1;have nt:t≠it:=by
   rintro rfl;obtain⟨o,ho,hc,_⟩:=ht;obtain⟨o',ho',hc',_⟩:=hit;rw[ho]at ho';cases ho';rw[hc]at hc';simp at hc'
  have ht1:h1.IsTuple t #[ku,ps[i].2]:=ht.extBut hs1'.extBut nt;have hT1:Shared.TypeIs { s with heap:=h1 } (.ref t) "tuple":=ht1.typeIs (s:={ s with heap:=h1 });obtain⟨ot,got,hct,nt',hdt⟩:=id ht1;refine am (kU ?_);refine am (wpAny_tryCatch ?_);unfold cz.Dict.pairItems;refine am (rB hT1 ?_);rw[if_pos (by decide)];refine am (j1 got hdt (aE ?_));show wpAny _ _ (m7 [ku,ps[i].2] (dictSet D ku ps[i].2)) _ _ _;have hD1:h1.DictOf (bJ prog w) D acc:=hD.extBut hs1'.extBut hDi;refine kU (wpAny_dictSet_pairs (knd:=bJ prog w) (k:=ps[i].1) hku hD1 (fun h2 hD2 hs2=>?_) (by omega));have hs2':ij D h1 h2:=hs2;show wpAny _ _ (again _) _ _ _;refine aE ⟨plainId_quiet eB _,?_⟩;have hl1:h1.IsList l items:=hl.extBut hs1'.extBut hli;have kp:∀b o,b≠D->b≠it->s.heap.get? b=some o->h2.get? b=some o:=fun b o h1 h2 e=>hs2'.extBut b o h1 (hs1'.extBut b o h2 e);refine ih (i+1) _ (stored acc ps[i].1 ps[i].2) (by omega) hlt (by have:=vK acc ps[i].1 ps[i].2;omega) (hit1.extBut hs2'.extBut (ga hDi)) (hl1.extBut hs2'.extBut hlD) hD2 (fun j u kv h1 h2=>?_) fun h' tk hD' kp'=>?_
  ·obtain⟨t2,ku2,e2,ht2,hk2⟩:=hp j u kv h1 h2;have n1:t2≠it:=by
    rintro rfl;obtain⟨o,ho,hc,_⟩:=ht2;obtain⟨o',ho',hc',_⟩:=hit;rw[ho]at ho';cases ho';rw[hc]at hc';simp at hc'
   have n2:t2≠D:=by
    rintro rfl;obtain⟨o,ho,hc,_⟩:=ht2;obtain⟨o',_,_,ho',hc',_⟩:=hD;rw[ho]at ho';cases ho';have:=hc'.1;rw[hc]at this;simp at this
   obtain⟨o,ho,r⟩:=ht2;exact⟨t2,ku2,e2,⟨o,kp _ o n2 n1 ho,r⟩,hk2⟩
  ·refine hR h' tk ?_ fun b o h1 h2 e=>kp' b o h1 h2 (kp b o h1 h2 e);have ed:ps.drop i=ps[i]::ps.drop (i+1):=oB (by omega);rw[ed];exact hD'
theorem nO{l:Addr}{o:Obj}{items:Array Value}{n:Nat}{ps:List (dH×Value)}{Q:Zc}(hh:A.handled=none)(ho:s.heap.get? l=some o)(hc:o.cls=.type "list")(hdt:o.data=.seq items n)(hod:o.dict=none)
  (hps:ps.length=items.size) (hp:∀(j:Nat) (u:Value) (kv:dH×Value),items[j]?=some u->ps[j]?=some kv->wI s.heap u kv) (hz:items.size<=ai)
  (h:∀h' tk,h'.DictOf (bJ prog w) s.heap.objs.size (merged [] ps)->(∀b o,s.heap.get? b=some o->h'.get? b=some o)->Q (.ref s.heap.objs.size) { s with heap:=h',toks:=tk }) :
  wpAny (model prog w) A (call (.type "dict") [.ref l]) Q E s:=by
 refine callType_codes (Q₁:=fun obj s₁=>obj=.ref s.heap.objs.size/\s₁={ s with heap:=s.heap.push { cls:=.type "dict",data:=.dict #[] } }) F.kt_called_dict (F.kt_typeCall_dict_1 _) F.entry_dict_init (kt_code_dict_new _ ⟨rfl,rfl⟩) ?_;rintro obj s₁ ⟨rfl,rfl⟩;have hnew:(s.heap.push { cls:=.type "dict",data:=.dict #[] }).DictOf (bJ prog w) s.heap.objs.size []:=Heap.DictOf.new s.heap;have ho1:(s.heap.push { cls:=.type "dict",data:=.dict #[] }).get? l=some o:=aZ _ ho;have hlt:l<s.heap.objs.size:=aQ ho;refine⟨hnew.typeIs,F.args_dict_init_2 _ _,?_⟩;unfold cz.«dict.__init__»;refine am ?_;unfold cz.Dict.selfAndRest;refine am (wpAny_notOrdered_dict hnew.typeIs ?_);show wpAny _ _ (pure (s.heap.objs.size,[Value.ref l])) _ _ _;refine aE ?_;show wpAny _ _ (cz.Dict.updateFrom "dict.__init__" s.heap.objs.size (.ref l) [] .none) _ _ _;unfold cz.Dict.updateFrom;have hTl:Shared.TypeIs { s with heap:=s.heap.push { cls:=.type "dict",data:=.dict #[] } } (.ref l) "list":=⟨o,ho1,hc⟩;refine am (rB hTl ?_);rw[if_pos (by decide)];refine am (yV ho1 hc hdt hod hh fun h1 tk1 k1=>?_);have k1':∀b ob,(s.heap.push { cls:=.type "dict",data:=.dict #[] }).get? b=some ob->h1.get? b=some ob:=k1;rw[if_pos (by rfl:(none:Option Value).isNone=true)];refine am (kW ?_);have hl1:h1.IsList l items:=⟨o,k1' _ _ ho1,hc,n,hdt⟩;refine am (xa (s:={ s with heap:=h1,toks:=tk1 }) hl1 ?_);have hD1:h1.DictOf (bJ prog w) s.heap.objs.size []:=by
  obtain⟨od,es,ep,g,r⟩:=hnew;exact⟨od,es,ep,k1' _ _ g,r⟩
 have hDlt:s.heap.objs.size<h1.objs.size:=by
  obtain⟨od,es,ep,g,r⟩:=hD1;exact aQ g
 refine aE ⟨plainId_quiet eB _,?_⟩;refine zQ (A:=A.in1) (prog:=prog) (w:=w) hh (D:=s.heap.objs.size) (it:=h1.objs.size) (l:=l) (items:=items) (ps:=ps) (b_ hDlt) (b_ (Nat.lt_trans hlt hDlt)) (b_ hlt) hps items.size 0 _ [] (rA _) (bN _) (by rw[mh];omega)
  ⟨_,cK _ rfl,rfl,rfl⟩ (hl1.push _) (hD1.push _) (fun j u kv a b=>?_) fun h' tk hD' kp=>?_
 ·obtain⟨t,ku,e,ht,hk⟩:=hp j u kv a b;obtain⟨ot,g,r⟩:=ht;exact⟨t,ku,e,⟨ot,aZ _ (k1' _ _ (aZ _ g)),r⟩,hk⟩
 ·rw[oE]at hD';refine⟨rfl,h h' tk hD' fun b ob e=>kp b ob (b_ (aQ e)) (b_ (Nat.lt_trans (aQ e) hDlt)) (aZ _ (k1' _ _ (aZ _ e)))⟩
end
section
variable{X:Cx}
theorem tz(hc:X.calm=true):eM X (.type "dict") (fun xs H Q=>∃(l:Addr) (ts:Ze) (kvs:List (dH×V)),xs=[.ref l]/\ay X.K H l (ts.map V.ref)/\ts.length=kvs.length /\
  (∀(j:Nat) (t:Addr) (kv:dH×V),ts[j]?=some t->kvs[j]?=some kv->H t=some (.tup [kV kv.1,kv.2]))/\∀p,H p=none->Q (.ref p) (upd H p (.dK (h_ [] kvs)))):=by
 intro J5 s σ H xs us Q I r h;obtain⟨l,ts,kvs,rfl,hl,hlen,ht,q⟩:=h;obtain⟨u,rfl,ru⟩:=vals1 r;cases ru;obtain⟨its,rv,⟨o,n,ho,hcl,hod,hdt⟩,hz⟩:=I.list hl;have key:∀(ts:Ze) (kvs:List (dH×V)),ts.length=kvs.length->(∀(j:Nat) (t:Addr) (kv:dH×V),ts[j]?=some t->kvs[j]?=some kv->H t=some (.tup [kV kv.1,kv.2]))->∃ps:List (dH×Value),KV kvs ps/\∀(j:Nat) (t:Addr) (kv:dH×Value),ts[j]?=some t->ps[j]?=some kv->wI s.heap (.ref t) kv:=by
  intro ts
  induction ts with
  |nil =>
   intro kvs hl _;cases kvs with
   |nil=>exact⟨[],.nil,fun j t kv e=>by simp at e⟩
   |cons _ _=>cases hl
  |cons t ts ih =>
   intro kvs hl ht;cases kvs with
   |nil=>cases hl
   |cons kv kvs =>
    obtain⟨ps,r1,r2⟩:=ih kvs (by simpa using hl) fun j t' kv' a b=>ht (j+1) t' kv' (by simpa using a) (by simpa using b);obtain⟨_,itt,rt,p⟩:=(show bW X.prog X.w X.K H s.heap t (.tup [kV kv.1,kv.2])from I.hok t _ (ht 0 t kv rfl rfl));obtain⟨a,b,e,ra,rb⟩:=rt.two;subst e;refine⟨(kv.1,b)::ps,.cons ⟨rfl,rb⟩ r1,fun j t' kv' h1 h2=>?_⟩;cases j with
    |zero =>
     simp at h1 h2;subst h1 h2;exact⟨t,a,rfl,p,nn (P:=X.prog) (w:=X.w) ra⟩
    |succ j=>exact r2 j t' kv' (by simpa using h1) (by simpa using h2)
 obtain⟨ps,rel,pa⟩:=key ts kvs hlen ht;have hl1:=rv.length;rw[ak]at hl1;have hl2:=rel.length;refine nO (prog:=X.prog) (w:=X.w) (ps:=ps) (I.ok.hd hc) ho hcl hdt hod (by rw[bD];omega) (fun j u kv a b=>?_) (by rw[bD,<-hl1];rw[ak]at hz;exact hz) fun h' tk hD kp=>?_
 ·have a':its[j]?=some u:=by simpa using a
  have hj:j<ts.length:=by
   have:=(bR.mp a').1;omega
  obtain⟨u',e1,r1⟩:=rv.get (i:=j) (x:=V.ref ts[j]) (by simp[hj]);rw[a']at e1;cases e1;cases(show u=Value.ref ts[j]from r1);exact pa j ts[j] kv (by simp[hj]) b
 ·have hm:(h_ [] kvs).length<=ai:=by
   have h1:=j5 kvs [];rw[mh]at h1;rw[ak]at hz;omega
  exact⟨.ref s.heap.objs.size,_,I.laid (o:=.dK (h_ [] kvs)) kp (ax _) (AV hm (beq_eq_false_iff_ne.mpr (ga (b_ I.big))) (rel.merge .nil) hD),rfl,q _ I.fresh⟩
end
abbrev dF:R2:=xr fun i j=>.int (i+j)
abbrev xo:R2:=xr fun i j=>.int (i-j)
abbrev jf:R2:=rI Bm fun i j=>.int (i * j)
abbrev g7:R2:=rI (fun _ j=>0<j) fun i j=>.int (i % j)
abbrev Am:R2:=rI DV fun i j=>.int (i / j)
abbrev Cr:R2:=rI DU fun i j=>.int (i ^ j.toNat)
abbrev Ak:R2:=xr fun i j=>.bl (decide (i<j))
abbrev rLeI:R2:=xr fun i j=>.bl (decide (i<=j))
abbrev BJ:R2:=xr fun i j=>.bl (decide (j<i))
abbrev rGeI:R2:=xr fun i j=>.bl (decide (j<=i))
abbrev Cu:R2:=fun x y H Q=>∃i j,x=.str i/\y=.str j/\i.length+j.length<=ai/\Q (.str (i++j)) H
abbrev rInS:R2:=fun x y H Q=>∃c j,x=.str ⟨#[c]⟩/\y=.str j/\Q (.bl (decide (c∈j.cps.toList))) H
abbrev rSlA(K:Za):V->Option Int->Option Int->Hp->VK->Prop:=fun x lo hi H Q=>nL K x lo hi H Q∨yR x lo hi H Q
abbrev pb(K:Za):List V->Hp->VK->Prop:=fun xs H Q=>∃x c t b,xs=[x,.ty c]/\De K H x t/\wV K t (.type c)=some b/\Q (.bl b) H
abbrev BM(K:Za):List V->Hp->VK->Prop:=fun xs H Q=>∃(p:Addr) (bs:List Bool),xs=[.ref p]/\ay K H p (bs.map V.bl)/\Q (.bl (bs.all id)) H
abbrev Ai(K:Za):List V->Hp->VK->Prop:=fun xs H Q=>∃p ys,xs=[.ref p]/\((ay K H p ys/\∀l,H l=none->Q (.ref l) (upd H l (.tup ys)))∨(bc K H p ys/\Q (.ref p) H))
abbrev BL(K:Za):List V->Hp->VK->Prop:=fun xs H Q=>∃(l:Addr) (ts:Ze) (kvs:List (dH×V)),xs=[.ref l]/\ay K H l (ts.map V.ref)/\ts.length=kvs.length /\
  (∀(j:Nat) (t:Addr) (kv:dH×V),ts[j]?=some t->kvs[j]?=some kv->H t=some (.tup [kV kv.1,kv.2]))/\∀p,H p=none->Q (.ref p) (upd H p (.dK (h_ [] kvs)))
abbrev eA(K:Za):List V->Hp->VK->Prop:=fun xs H Q =>
 (∃p ys,xs=[.ref p]/\(ay K H p ys∨bc K H p ys)/\∀l,H l=none->Q (.ref l) (upd H l (.lst ys))) ∨
 (∃(d:Addr) (kvs:List (dH×V)),xs=[.ref d]/\Rd H d (.dK kvs)/\∀l,H l=none->Q (.ref l) (upd H l (.lst (kvs.map fun kv=>kV kv.1))))
abbrev d9(K:Za):List V->Hp->VK->Prop:=fun xs H Q =>
 (∃p ys,xs=[.ref p]/\(ay K H p ys∨bc K H p ys)/\Q (.int ys.length) H)∨(∃z,xs=[.str z]/\z.length<=ai/\Q (.int z.length) H)
theorem c9:gb "isinstance"=some (.builtin "isinstance"):=by decide +kernel
theorem pQ:gb "list"=some (.type "list"):=by decide +kernel
theorem hC:gb "tuple"=some (.type "tuple"):=by decide +kernel
theorem wF:gb "dict"=some (.type "dict"):=by decide +kernel
theorem wG:gb "bool"=some (.type "bool"):=by decide +kernel
theorem q_:gb "int"=some (.type "int"):=by decide +kernel
theorem zn:gb "str"=some (.type "str"):=by decide +kernel
section
variable{X:Cx}{p pos:Pos}
theorem zj:eM X (.builtin "len") (d9 X.K):=tw.or tu
theorem wE(hc:X.calm=true):eM X (.type "list") (eA X.K):=tq.or (pO hc)
theorem kB(hg:Gl X "bool")(hm:X.mg "bool"=none):PE X (.Name "bool" pos) (tC (.ty "bool")):=lB hg hm wG rfl
theorem qJ(hg:Gl X "int")(hm:X.mg "int"=none):PE X (.Name "int" pos) (tC (.ty "int")):=lB hg hm q_ rfl
theorem qI(hg:Gl X "str")(hm:X.mg "str"=none):PE X (.Name "str" pos) (tC (.ty "str")):=lB hg hm zn rfl
theorem pi(hg:Gl X "list")(hm:X.mg "list"=none):PE X (.Name "list" pos) (tC (.ty "list")):=lB hg hm pQ rfl
theorem m_(hg:Gl X "tuple")(hm:X.mg "tuple"=none):PE X (.Name "tuple" pos) (tC (.ty "tuple")):=lB hg hm hC rfl
end
def Gc(mg:Str->Option Value)(x:Str)(v:V):Prop:=∃u,mg x=some u/\RelV v u
theorem io{X:Cx}{x:Str}{v:V}{pos:Pos}(hg:Gl X x)(h:Gc X.mg x v)(hd:(x==("__debug__":Str))=false:=by decide):PE X (.Name x pos) (tC v):=by
 obtain⟨u,hm,r⟩:=h;exact BP hg hm r hd
structure eK(P:bt)(w:World)(K:Za)(mg:Str->Option Value)(base:Heap)(x:Str)(ps:Zb)(k:Nat)(sp:Sp):Prop where
 ex:∃f fd,jZ P w K mg base CX0 k f fd ps sp/\mg x=some (.ref f)/\ig K (.ref f)=true/\Binds K fd ps []
structure New(P:bt)(w:World)(K:Za)(mg:Str->Option Value)(base:Heap)(x:Str)(C:Addr)(ps:Zb)(k:Nat)(sp:Sp):Prop where
 ex:∃f fd,jZ P w K mg base CX0 k f fd ps sp/\mg x=some (.ref C)/\Mk K C f/\Binds K fd ps []
structure DP(P:bt)(w:World)(K:Za)(mg:Str->Option Value)(base:Heap)(C:Addr)(m:Str)(ps:Zb)(k:Nat)(sp:Sp):Prop where
 ex:∃f fd,jZ P w K mg base CX0 k f fd ps sp/\zK K C/\Dg K C m f/\Binds K fd ps []
section
variable{X:Cx}{k:Nat}{ps:Zb}{sp:Sp}{x m:Str}{C:Addr}{p pos J7:Pos}{o e:Expr}{es:List Expr}{t:TA}{ta:TE}
theorem uA(D:eK X.prog X.w X.K X.mg X.base x ps k sp)(hr:dS k X.A)(hg:Gl X x)(ha:PA X (e::es) t)(hdb:(x==("__debug__":Str))=false:=by decide)
  (he:aN (e::es) X.env=(false,eval e X.env)::aN es X.env:=by rfl) (hpl:(backTo pos (aN es X.env)).any (·.1)=false:=by rfl) :
  PE X (.Call (.Name x p) (e::es) [] pos) (aL sp t):=by
 obtain⟨f,fd,F,hm,hk,hb⟩:=D.ex;exact BR F hr hg hm hk hb .nil At ha hdb he hpl
theorem C2(D:New X.prog X.w X.K X.mg X.base x C ps k sp)(hr:dS (k+1) X.A)(hg:Gl X x)(ha:PA X (e::es) t)(hdb:(x==("__debug__":Str))=false:=by decide)
  (he:aN (e::es) X.env=(false,eval e X.env)::aN es X.env:=by rfl) (hpl:(backTo pos (aN es X.env)).any (·.1)=false:=by rfl) :
  PE X (.Call (.Name x p) (e::es) [] pos) (z0 C sp [] E0 t):=by
 obtain⟨f,fd,F,hm,M,hb⟩:=D.ex;exact BO M F hr hg hm hb .nil At ha hdb he hpl
theorem BN{pl:Sem Bool}(M:DP X.prog X.w X.K X.mg X.base C m ps k sp)(hr:dS k X.A)(he:PE X o ta)
  (ht:eval (.Call (.Attribute o m J7) [] [] pos) X.env=(do
   let ov <- eval o X.env
   t4 J7.atName
   let(f,first) <- m7 [ov] (tV ov m pl)
   callWith pos f first (backTo pos (aN [] X.env)) (tS pos (tR [] X.env))):=by rfl) :
  PE X (.Call (.Attribute o m J7) [] [] pos) (ui C m sp [] E0 ta be):=by
 obtain⟨f,fd,F,c,hm,hb⟩:=M.ex;exact Aq he c hm F hr hb .nil At ht
end
def DF(K:Za)(tl:TE):TI:=fun σ H R=>tl σ H fun x H1=>∃a,x=.ref a/\(((∃xs,ay K H1 a xs)/\R (Cj K a) H1)∨((∃xs,bc K H1 a xs)/\R (Bn K a) H1))
theorem CY{X:Cx}{tg l:Expr}{tl:TE}(hl:PE X l tl):PI X tg l (DF X.K tl):=by
 intro J5 s σ H R I h;refine cj (hl J5 s σ H _ I h) fun v s1 zq0=>?_;obtain⟨x,H1,I1,r1,q1⟩:=zq0;obtain⟨a,e,q⟩:=q1;subst e;cases r1;have fin:∀b∈[s1.heap.objs.size],jY X J5 H1 b:=fun b hb=>by
  have e:b=s1.heap.objs.size:=by simpa using hb
  subst e;exact I1.fpOk (ax _) (I1.hok.fresh (ax _))
 rcases q with⟨⟨xs,hq⟩,q⟩|⟨⟨xs,hq⟩,q⟩
 ·obtain⟨its,rv,p,hz⟩:=I1.list hq;refine xa p.isList ?_;exact⟨s1.heap.objs.size,[s1.heap.objs.size],_,_,H1,rfl,I1.kept (t':=s1.toks) fun b o e=>aZ _ e,qz a _,⟨_,cK _ rfl,rfl,rfl⟩,fin,q⟩
 ·obtain⟨its,rv,p,hz⟩:=I1.tuple hq;refine w_ p ?_;exact⟨s1.heap.objs.size,[s1.heap.objs.size],_,_,H1,rfl,I1.kept (t':=s1.toks) fun b o e=>aZ _ e,oR a _,⟨_,cK _ rfl,rfl,rfl⟩,fin,q⟩
theorem gy{K:Za}{a:Addr}{xs:List V}{g:TG}{tb:TS}{D:mU}{σ:St}{H:Hp}(Pv:Nat->St->Hp->Prop)(h0:Pv 0 σ H)(hl:∀i σ H,i<=xs.length->Pv i σ H->ay K H a xs)
  (hs:∀i x σ H p,xs[i]?=some x->Pv i σ H->H p=none->g (.ref p) σ (upd H p (.tup [.int i,x])) fun σ2 H2=>tb { D with nx:=Pv (i+1),ct:=Pv (i+1),bk:=D.nx } σ2 H2) (hd:∀σ H,Pv xs.length σ H->D.nx σ H) :
  ∃W:Nat->Nat->St->Hp->Prop,(∃m,W 0 m σ H)/\∀i m σ H,W i m σ H ->
   ((DQ K a).stop i H/\D.nx σ H)∨((DQ K a).go i H/\∃N:St->Hp->Prop,(∀σ' H',N σ' H'->∃m',m'<m/\W (i+1) m' σ' H')/\∀x H',(DQ K a).yld i H x H'->g x σ H' fun σ2 H2=>tb { D with nx:=N,ct:=N,bk:=D.nx } σ2 H2):=by
 refine⟨fun i m σ H=>m=xs.length-i/\i<=xs.length/\Pv i σ H,⟨xs.length,by simp,bN _,h0⟩,?_⟩;rintro i m σ H ⟨rfl,hi,p⟩;have q:=hl i σ H hi p;by_cases hlt:i<xs.length
 ·refine .inr ⟨⟨xs,xs[i],q,by simp[hlt]⟩,Pv (i+1),fun σ' H' p'=>⟨xs.length-(i+1),by omega,rfl,hlt,p'⟩,fun x H' y=>?_⟩;obtain⟨t,v,rfl,hn,hv,rfl⟩:=y;exact hs i v σ H t (hv xs q) p hn
 ·have e:i=xs.length:=by omega
  subst e;exact .inl ⟨⟨xs,q,ax _⟩,hd σ H p⟩
def Wc(n:Nat)(Pv:Nat->List V->Hp->Prop):Nat->Nat->List V->Hp->Prop:=fun i m vs H=>m=n-i/\i<=n/\Pv i vs H
theorem n0{n i:Nat}{Pv:Nat->List V->Hp->Prop}{vs:List V}{H:Hp}(hi:i<n)(p:Pv (i+1) vs H):∃m',m'<n-i/\Wc n Pv (i+1) m' vs H:=⟨n-(i+1),by omega,rfl,hi,p⟩
abbrev cG(k:Nat)(fi:List Nat)(σ:St)(J:It)(g:TG)(tc:TT)(te:TE)(H1:Hp)(l:Addr)(Q:Hp->Prop):Prop :=
 ∃W:Nat->Nat->List V->Hp->Prop,(∃m,W 0 m [] (upd H1 l (.lst [])))/\∀i m vs H2,W i m vs H2->H2 l=some (.lst vs) /\
  ((J.stop i H2/\Q H2)∨(J.go i H2/\∀x H3,J.yld i H2 x H3->g x (cF k fi σ) H3 fun σ2 H4=>tc σ2 H4 fun b H5 =>
   if b=true then te σ2 H5 fun v H6=>H6 l=some (.lst vs)/\vs.length<ai/\∃m',m'<m/\W (i+1) m' (vs++[v]) (upd H6 l (.lst (vs++[v])))else ∃m',m'<m/\W (i+1) m' vs H5))
theorem iz{k:Nat}{fi:List Nat}{J:It}{g:TG}{tc:TT}{te:TE}{σ:St}{H1:Hp}{Q:Hp->Prop}{l:Addr}(n:Nat)(Pv:Nat->List V->Hp->Prop)(h0:Pv 0 [] (upd H1 l (.lst [])))
  (hl:∀i vs H,i<=n->Pv i vs H->H l=some (.lst vs)) (hgo:∀i vs H,i<n->Pv i vs H->J.go i H) (hst:∀vs H,Pv n vs H->J.stop n H/\Q H)
  (hs:∀i vs H x H3,i<n->Pv i vs H->J.yld i H x H3->g x (cF k fi σ) H3 fun σ2 H4=>tc σ2 H4 fun b H5 =>
   if b=true then te σ2 H5 fun v H6=>H6 l=some (.lst vs)/\vs.length<ai/\∃m',m'<n-i/\Wc n Pv (i+1) m' (vs++[v]) (upd H6 l (.lst (vs++[v])))else ∃m',m'<n-i/\Wc n Pv (i+1) m' vs H5) :
  cG k fi σ J g tc te H1 l Q:=by
 refine⟨Wc n Pv,⟨n,by simp[Wc],bN _,h0⟩,?_⟩;rintro i m vs H ⟨rfl,hi,p⟩;refine⟨hl i vs H hi p,?_⟩;by_cases hlt:i<n
 ·exact .inr ⟨hgo i vs H hlt p,fun x H3 y=>hs i vs H x H3 hlt p y⟩
 ·have e:i=n:=by omega
  subst e;exact .inl (hst vs H p)
section
variable{K:Za}{k:Nat}{fi:List Nat}{g:TG}{tc:TT}{te:TE}{σ:St}{H1:Hp}{Q:Hp->Prop}{l:Addr}
theorem cP{a:Addr}{xs:List V}(Pv:Nat->List V->Hp->Prop)(h0:Pv 0 [] (upd H1 l (.lst [])))
  (hl:∀i vs H,i<=xs.length->Pv i vs H->H l=some (.lst vs)/\ay K H a xs) (hd:∀vs H,Pv xs.length vs H->Q H)
  (hs:∀i vs H x,xs[i]?=some x->i<xs.length->Pv i vs H->g x (cF k fi σ) H fun σ2 H4=>tc σ2 H4 fun b H5 =>
   if b=true then te σ2 H5 fun v H6=>H6 l=some (.lst vs)/\vs.length<ai/\∃m',m'<xs.length-i/\Wc xs.length Pv (i+1) m' (vs++[v]) (upd H6 l (.lst (vs++[v])))else ∃m',m'<xs.length-i/\Wc xs.length Pv (i+1) m' vs H5) :
  cG k fi σ (Cj K a) g tc te H1 l Q:=by
 refine iz xs.length Pv h0 (fun i vs H hi p=>(hl i vs H hi p).1) (fun i vs H hi p=>⟨xs,xs[i],(hl i vs H (cp hi) p).2,by simp[hi]⟩) (fun vs H p=>⟨⟨xs,(hl _ vs H (ax _) p).2,ax _⟩,hd vs H p⟩) fun i vs H x H3 hi p y=>?_;obtain⟨rfl,y⟩:=y;exact hs i vs _ x (y xs (hl i vs _ (cp hi) p).2) hi p
theorem lP{a:Addr}{xs:List V}(Pv:Nat->List V->Hp->Prop)(h0:Pv 0 [] (upd H1 l (.lst [])))
  (hl:∀i vs H,i<=xs.length->Pv i vs H->H l=some (.lst vs)/\bc K H a xs) (hd:∀vs H,Pv xs.length vs H->Q H)
  (hs:∀i vs H x,xs[i]?=some x->i<xs.length->Pv i vs H->g x (cF k fi σ) H fun σ2 H4=>tc σ2 H4 fun b H5 =>
   if b=true then te σ2 H5 fun v H6=>H6 l=some (.lst vs)/\vs.length<ai/\∃m',m'<xs.length-i/\Wc xs.length Pv (i+1) m' (vs++[v]) (upd H6 l (.lst (vs++[v])))else ∃m',m'<xs.length-i/\Wc xs.length Pv (i+1) m' vs H5) :
  cG k fi σ (Bn K a) g tc te H1 l Q:=by
 refine iz xs.length Pv h0 (fun i vs H hi p=>(hl i vs H hi p).1) (fun i vs H hi p=>⟨xs,xs[i],(hl i vs H (cp hi) p).2,by simp[hi]⟩) (fun vs H p=>⟨⟨xs,(hl _ vs H (ax _) p).2,ax _⟩,hd vs H p⟩) fun i vs H x H3 hi p y=>?_;obtain⟨rfl,y⟩:=y;exact hs i vs _ x (y xs (hl i vs _ (cp hi) p).2) hi p
theorem pK{lo:Int}{n:Nat}(Pv:Nat->List V->Hp->Prop)(h0:Pv 0 [] (upd H1 l (.lst [])))
  (hl:∀i vs H,i<=n->Pv i vs H->H l=some (.lst vs)) (hd:∀vs H,Pv n vs H->Q H)
  (hs:∀i vs H,i<n->Pv i vs H->g (.int (lo+i)) (cF k fi σ) H fun σ2 H4=>tc σ2 H4 fun b H5 =>
   if b=true then te σ2 H5 fun v H6=>H6 l=some (.lst vs)/\vs.length<ai/\∃m',m'<n-i/\Wc n Pv (i+1) m' (vs++[v]) (upd H6 l (.lst (vs++[v])))else ∃m',m'<n-i/\Wc n Pv (i+1) m' vs H5) :
  cG k fi σ (Dh lo n) g tc te H1 l Q:=by
 refine iz n Pv h0 hl (fun i vs H hi p=>hi) (fun vs H p=>⟨ax _,hd vs H p⟩) fun i vs H x H3 hi p y=>?_;obtain⟨rfl,rfl⟩:=y;exact hs i vs _ hi p
theorem A_{x:Str}(Pv:Nat->List V->Hp->Prop)(h0:Pv 0 [] (upd H1 l (.lst [])))
  (hl:∀i vs H,i<=x.cps.size->Pv i vs H->H l=some (.lst vs)) (hd:∀vs H,Pv x.cps.size vs H->Q H)
  (hs:∀i vs H c,x.cps[i]?=some c->i<x.cps.size->Pv i vs H->g (.str ⟨#[c]⟩) (cF k fi σ) H fun σ2 H4=>tc σ2 H4 fun b H5 =>
   if b=true then te σ2 H5 fun v H6=>H6 l=some (.lst vs)/\vs.length<ai/\∃m',m'<x.cps.size-i/\Wc x.cps.size Pv (i+1) m' (vs++[v]) (upd H6 l (.lst (vs++[v])))else ∃m',m'<x.cps.size-i/\Wc x.cps.size Pv (i+1) m' vs H5) :
  cG k fi σ (Ef x) g tc te H1 l Q:=by
 refine iz x.cps.size Pv h0 hl (fun i vs H hi p=>hi) (fun vs H p=>⟨ax _,hd vs H p⟩) fun i vs H y H3 hi p yl=>?_;obtain⟨rfl,c,hc,rfl⟩:=yl;exact hs i vs _ c hc hi p
end
theorem gN{j:Nat}{x:V}{σ:St}{H:Hp}{Q:St->Hp->Prop}(h:Q (σ.set j (some x)) H):cV j x σ H Q:=h
theorem kY{σ:St}{H:Hp}{A B:Hp->Prop}(h:A H):eQ σ H (fun b H5=>if b=true then A H5 else B H5):=by
 show(if(true:Bool)=true then A H else B H)
 exact h
inductive Dm{T0 T1:Type}(P:T0->T1->Prop):Prop
 |mk (x0:T0) (x1:T1):P x0 x1->Dm P
inductive Dl{T0 T1 T2:Type}(P:T0->T1->T2->Prop):Prop
 |mk (x0:T0) (x1:T1) (x2:T2):P x0 x1 x2->Dl P
inductive NE4{T0 T1 T2 T3:Type}(P:T0->T1->T2->T3->Prop):Prop
 |mk (x0:T0) (x1:T1) (x2:T2) (x3:T3):P x0 x1 x2 x3->NE4 P
inductive NE5{T0 T1 T2 T3 T4:Type}(P:T0->T1->T2->T3->T4->Prop):Prop
 |mk (x0:T0) (x1:T1) (x2:T2) (x3:T3) (x4:T4):P x0 x1 x2 x3 x4->NE5 P
inductive NE6{T0 T1 T2 T3 T4 T5:Type}(P:T0->T1->T2->T3->T4->T5->Prop):Prop
 |mk (x0:T0) (x1:T1) (x2:T2) (x3:T3) (x4:T4) (x5:T5):P x0 x1 x2 x3 x4 x5->NE6 P
inductive NA3(p0 p1 p2:Prop):Prop
 |mk:p0->p1->p2->NA3 p0 p1 p2
inductive CL(p0 p1 p2 p3 p4:Prop):Prop
 |mk:p0->p1->p2->p3->p4->CL p0 p1 p2 p3 p4
inductive NA6(p0 p1 p2 p3 p4 p5:Prop):Prop
 |mk:p0->p1->p2->p3->p4->p5->NA6 p0 p1 p2 p3 p4 p5
end L2
namespace L2
open PySem PySem.W
end L2
end

section
set_option Elab.async false
set_option linter.all false
set_option maxRecDepth 100000
namespace L2
open PySem PySem.Spec PyProof.Rows PySem.W
def Ck:Expr->List Str
 |.Name x _=>[x]
 |.Tuple es _ _=>es.filterMap fun e=>match e with | .Name x _=>some x|_=>none
 |_=>[]
theorem bK{X:Cx}{b:List Stmt}{t:TS}{D:mU}{σ:St}{H:Hp}(r:t D σ H)(p:vk X b t):∃t,vk X b t/\t D σ H:=⟨t,p,r⟩
section
variable{X:Cx}{k k0:Nat}{ps:Zb}{sp:Sp}{x m:Str}{C:Addr}{p pos J7:Pos}{o e a b:Expr}{es:List Expr}{t:TA}{ta tb te:TE}
theorem qf(hr:dS k0 X.A)(D:eK X.prog X.w X.K X.mg X.base x ps k sp)(ha:PA X (e::es) t)(hk:k<=k0:=by decide)(hg:Gl X x:=by rfl)(hdb:(x==("__debug__":Str))=false:=by decide)
  (he:aN (e::es) X.env=(false,eval e X.env)::aN es X.env:=by rfl) (hpl:(backTo pos (aN es X.env)).any (·.1)=false:=by rfl) :
  PE X (.Call (.Name x p) (e::es) [] pos) (aL sp t):=uA D (hr.mono hk) hg ha hdb he hpl
theorem qm0{pl:Sem Bool}(hr:dS k0 X.A)(M:DP X.prog X.w X.K X.mg X.base C m ps k sp)(he:PE X o ta)(hk:k<=k0:=by decide)
  (ht:eval (.Call (.Attribute o m J7) [] [] pos) X.env=(do
   let ov <- eval o X.env
   t4 J7.atName
   let(f,first) <- m7 [ov] (tV ov m pl)
   callWith pos f first (backTo pos (aN [] X.env)) (tS pos (tR [] X.env))):=by rfl) :
  PE X (.Call (.Attribute o m J7) [] [] pos) (ui C m sp [] E0 ta be):=BN (pl:=pl) M (hr.mono hk) he ht
theorem xl(ha:PE X a ta)(hb:PE X b tb)(hs:zz b:=by exact fun _ _=>rfl):PE X (.Subscript a b pos) (aw (cu X.K) ta tb):=xy xM ha hb hs
theorem xt(ha:PE X a ta)(hb:PE X b tb)(hs:zz b:=by exact fun _ _=>rfl):PE X (.Subscript a b pos) (aw (bz X.K) ta tb):=xy AI ha hb hs
theorem xq(ha:PE X a ta)(hb:PE X b tb)(hs:zz b:=by exact fun _ _=>rfl):PE X (.Subscript a b pos) (aw (uv X.K) ta tb):=xy C7 ha hb hs
theorem xs'(ha:PE X a ta)(hb:PE X b tb)(hs:zz b:=by exact fun _ _=>rfl):PE X (.Subscript a b pos) (aw Al ta tb):=xy AJ ha hb hs
theorem i5{op:CmpOp}{r:R2}(ho:jK X (cL op) r)(ha:PE X a ta)(hb:PE X b tb)(hm:i4 op b=false:=by exact Aw _):PT X (.Compare a [op] [b] pos) (ba (aw r ta tb)):=xu ho ha hb hm
theorem ww{op:CmpOp}{r:R2}(ho:jK X (cL op) r)(ha:PE X a ta)(hb:PE X b tb)(hm:i4 op b=false:=by exact Aw _):PE X (.Compare a [op] [b] pos) (aw r ta tb):=xz ho ha hb hm
theorem Dj{op:CmpOp}{r:R2}(ho:jK X (cL op) r)(ha:PE X a ta)(hb:PE X b tb)(hm:i4 op b=false:=by with_unfolding_all rfl):PT X (.Compare a [op] [b] pos) (ba (aw r ta tb)):=xu ho ha hb hm
theorem eci{op:CmpOp}{r:R2}(ho:jK X (cL op) r)(ha:PE X a ta)(hb:PE X b tb)(hm:i4 op b=false:=by with_unfolding_all rfl):PE X (.Compare a [op] [b] pos) (aw r ta tb):=xz ho ha hb hm
theorem qB{id:String}{r:List V->Hp->VK->Prop}(hc:eM X (.builtin id) r)(hm:X.mg x=none)(hv:gb x=some (.builtin id))(ha:PA X (e::es) t)(hg:Gl X x:=by rfl)(hn:x≠"__name__":=by decide)(hdb:(x==("__debug__":Str))=false:=by decide)
  (he:aN (e::es) X.env=(false,eval e X.env)::aN es X.env:=by rfl) (hpl:(backTo pos (aN es X.env)).any (·.1)=false:=by rfl):PE X (.Call (.Name x p) (e::es) [] pos) (dE r t):=uC hc hg hm hv ha hn hdb he hpl
theorem qL(hc:X.calm=true)(hm:X.mg "list"=none)(ha:PA X (e::es) t)(hg:Gl X "list":=by rfl)
  (he:aN (e::es) X.env=(false,eval e X.env)::aN es X.env:=by rfl) (hpl:(backTo pos (aN es X.env)).any (·.1)=false:=by rfl):PE X (.Call (.Name "list" p) (e::es) [] pos) (dE (eA X.K) t):=fZ (wE hc) hg hm pQ ha (by decide) (by decide) he hpl
theorem ql(hm:X.mg "len"=none)(ha:PA X (e::es) t)(hg:Gl X "len":=by rfl)
  (he:aN (e::es) X.env=(false,eval e X.env)::aN es X.env:=by rfl) (hpl:(backTo pos (aN es X.env)).any (·.1)=false:=by rfl):PE X (.Call (.Name "len" p) (e::es) [] pos) (dE (d9 X.K) t):=uC zj hg hm PySem.boot_len ha (by decide) (by decide) he hpl
theorem qs(i:Nat){pos':Pos}(hN:X.N.Nodup)(he:PE X e te)(hi:X.N[i]?=some x:=by rfl)(hx:Loc X.env.scope x:=by first|exact Or.inl rfl|exact Or.inr rfl)(hs:om e (some (.Name x pos')) pos.line X.env=pure false:=by rfl)(hf:X.fn x=true∨X.env.scope.names.lookup x=some .local:=by first|exact .inl rfl|exact .inr rfl|assumption):
  PS X (.Assign [.Name x pos'] e pos) (aS te (cV i)):=CV hN hi hx he hs hf
theorem gn(i:Nat)(hN:X.N.Nodup)(hi:X.N[i]?=some x:=by rfl)(hx:Loc X.env.scope x:=by first|exact Or.inl rfl|exact Or.inr rfl)(hf:X.fn x=true∨X.env.scope.names.lookup x=some .local:=by first|exact .inl rfl|exact .inr rfl|assumption):PG X (.Name x pos) (cV i):=xx hN hi hx hf
theorem gc(i:Nat)(hN:X.N.Nodup:=by exact of_decide_eq_true (by with_unfolding_all rfl))(hi:X.N[i]?=some x:=by rfl)(hx:Loc X.env.scope x:=by exact Or.inl rfl)(hf:X.fn x=true∨X.env.scope.names.lookup x=some .local:=by first|exact .inl rfl|exact .inr rfl|assumption):PG X (.Name x pos) (cV i):=xx hN hi hx hf
theorem a1(ha:PE X a ta)(hs:aN [a] X.env=(false,eval a X.env)::aN [] X.env:=by rfl):PA X [a] (ap ta be):=bu ha bH hs
theorem a2(ha:PE X a ta)(hb:PE X b tb)(hs:aN [a,b] X.env=(false,eval a X.env)::aN [b] X.env:=by rfl)(hs2:aN [b] X.env=(false,eval b X.env)::aN [] X.env:=by rfl):PA X [a,b] (ap ta (ap tb be)):=bu ha (bu hb bH hs2) hs
theorem a3{c:Expr}{tc:TE}(ha:PE X a ta)(hb:PE X b tb)(hc:PE X c tc)(hs:aN [a,b,c] X.env=(false,eval a X.env)::aN [b,c] X.env:=by rfl)(hs1:aN [b,c] X.env=(false,eval b X.env)::aN [c] X.env:=by rfl)(hs2:aN [c] X.env=(false,eval c X.env)::aN [] X.env:=by rfl):PA X [a,b,c] (ap ta (ap tb (ap tc be))):=bu ha (a2 hb hc hs1 hs2) hs
variable{elt iter tg:Expr}{ifs:List Expr}{scope:Scope}{fi:List Nat}{wi:TI}{g:TG}{tc:TT}
theorem qc(hi:PI X tg iter wi)(ho:u9 k g)
  (h:∀C cl s₀ H₀ ex pn,PG (cI X (Ck tg++fi.map fun i=>X.N.getD i "") scope C cl s₀ H₀ ex pn) tg g/\CK (cI X (Ck tg++fi.map fun i=>X.N.getD i "") scope C cl s₀ H₀ ex pn) ifs tc/\PE (cI X (Ck tg++fi.map fun i=>X.N.getD i "") scope C cl s₀ H₀ ex pn) elt te)
  (hS:jJ X.env.scope scope k (Ck tg++fi.map fun i=>X.N.getD i "") X.N fi=true:=by with_unfolding_all rfl) (hc:X.calm=true:=by rfl)
  (hs:∀x,tZ iter X.env x=pure x:=by intro _;rfl):PE X (.ListComp elt [⟨tg,iter,ifs,0⟩] scope pos) (cw k fi wi g tc te) :=
 BQ hS hc hi (fun _ _ _ _ _ _=>(h _ _ _ _ _ _).1) ho (fun _ _ _ _ _ _=>(h _ _ _ _ _ _).2.1) (fun _ _ _ _ _ _=>(h _ _ _ _ _ _).2.2) hs
theorem D_(j:Nat){y:Str}{spos py:Pos}(hN:X.N.Nodup)(hi:PI X tg iter wi)(ho:u9 k g)
  (h:∀C cl s₀ H₀ ex pn,PG (cI X (Ck tg++fi.map fun i=>X.N.getD i "") scope C cl s₀ H₀ ex pn) tg g/\CK (cI X (Ck tg++fi.map fun i=>X.N.getD i "") scope C cl s₀ H₀ ex pn) ifs tc/\PE (cI X (Ck tg++fi.map fun i=>X.N.getD i "") scope C cl s₀ H₀ ex pn) elt te)
  (hj:X.N[j]?=some y:=by rfl) (hy:Loc X.env.scope y:=by first|exact Or.inl rfl|exact Or.inr rfl)
  (hS:jJ X.env.scope scope k (Ck tg++fi.map fun i=>X.N.getD i "") X.N fi=true:=by with_unfolding_all rfl) (hc:X.calm=true:=by rfl)
  (hsw:om (.ListComp elt [⟨tg,iter,ifs,0⟩] scope pos) (some (.Name y py)) spos.line X.env=pure true:=by rfl)
  (hs:∀x,tZ iter X.env x=pure x:=by intro _;rfl) (hf:X.fn y=true∨X.env.scope.names.lookup y=some .local:=by first|exact .inl rfl|exact .inr rfl|assumption) :
  PS X (.Assign [.Name y py] (.ListComp elt [⟨tg,iter,ifs,0⟩] scope pos) spos) (aS (cw k fi wi g tc te) (cV j)) :=
 vV hN hj hy hS hc hi (fun _ _ _ _ _ _=>(h _ _ _ _ _ _).1) ho (fun _ _ _ _ _ _=>(h _ _ _ _ _ _).2.1) (fun _ _ _ _ _ _=>(h _ _ _ _ _ _).2.2) hsw hs hf
end
end L2
end

section
set_option Elab.async false
set_option linter.all false
set_option maxRecDepth 100000
namespace L2
open PySem PySem.Spec PyProof.Rows
end L2
end

section
set_option Elab.async false
set_option linter.all false
set_option maxRecDepth 100000
namespace L2
open PySem PySem.Spec PyProof.Rows
end L2
end

section
set_option Elab.async false
set_option linter.all false
set_option maxRecDepth 100000
namespace HT
open PySem PySem.Spec PyProof.Rows
end HT
namespace L2
open PySem PySem.Spec PyProof.Rows
end L2
namespace HT
open PySem PySem.Spec PyProof.Rows
end HT
namespace L2
open PySem PySem.Spec PyProof.Rows
end L2
end

section
set_option Elab.async false
set_option linter.all false
set_option maxRecDepth 100000
namespace L2
open PySem PySem.Spec PyProof.Rows
def Bl(K:Za)(a:Addr)(n:Nat):It :=
 ⟨fun i H=>i<n/\∃xs,ay K H a xs/\xs.length=n,fun i H x H'=>H'=H/\∀xs,ay K H a xs->xs[n-1-i]?=some x,fun i _=>n<=i⟩
def DG(K:Za)(ta:TA):TI:=fun σ H R=>ta σ H fun vs H1=>∃a xs,vs=[.ref a]/\ay K H1 a xs/\R (Bl K a xs.length) H1
theorem B4{K:Za}{a:Addr}{xs:List V}{g:TG}{tb:TS}{D:mU}{σ:St}{H:Hp}(Pv:Nat->St->Hp->Prop)(h0:Pv 0 σ H)(hl:∀i σ H,i<=xs.length->Pv i σ H->ay K H a xs)
  (hs:∀i x σ H,xs[xs.length-1-i]?=some x->i<xs.length->Pv i σ H->g x σ H fun σ2 H2=>tb { D with nx:=Pv (i+1),ct:=Pv (i+1),bk:=D.nx } σ2 H2) (hd:∀σ H,Pv xs.length σ H->D.nx σ H) :
  ∃W:Nat->Nat->St->Hp->Prop,(∃m,W 0 m σ H)/\∀i m σ H,W i m σ H ->
   ((Bl K a xs.length).stop i H/\D.nx σ H)∨((Bl K a xs.length).go i H/\∃N:St->Hp->Prop,(∀σ' H',N σ' H'->∃m',m'<m/\W (i+1) m' σ' H')/\∀x H',(Bl K a xs.length).yld i H x H'->g x σ H' fun σ2 H2=>tb { D with nx:=N,ct:=N,bk:=D.nx } σ2 H2):=by
 refine⟨fun i m σ H=>m=xs.length-i/\i<=xs.length/\Pv i σ H,⟨xs.length,by simp,bN _,h0⟩,?_⟩;rintro i m σ H ⟨rfl,hi,p⟩;have q:=hl i σ H hi p;by_cases lt:i<xs.length
 ·refine .inr ⟨⟨lt,xs,q,rfl⟩,Pv (i+1),fun σ' H' p'=>⟨xs.length-(i+1),by omega,rfl,lt,p'⟩,fun x H' y=>?_⟩;obtain⟨rfl,y⟩:=y;exact hs i x σ _ (y xs q) lt p
 ·have e:i=xs.length:=by omega
  subst e;exact .inl ⟨ax _,hd σ H p⟩
theorem pP:gb "reversed"=some (.type "reversed"):=by decide +kernel
section
variable{X:Cx}
theorem zV{P:bt}{w:World}{K:Za}{tg:Expr}(a it:Addr)(n:Nat):pS P w K tg (Bl K a n) [it] it (fun i h=>i<=n/\h.IsRevIter it a ((n:Int)-1-(i:Int))) where
 mem:=by simp
 obj:=fun i h st b hb=>by
  have e:b=it:=by simpa using hb
  subst e;obtain⟨_,o,e,c,d⟩:=st;exact⟨o,e,fun v z=>by rw[d]at z;cases z⟩
 keep:=fun i h h' st k=>⟨st.1,st.2.at fun o e=>k it (by simp) o e⟩
 item:=by
  intro X hP hw hK hc i J5 s σ H E I hf st hg;subst hP hw hK;obtain⟨hi,xs,hq,hx⟩:=hg;obtain⟨its,rv,p,hz⟩:=I.list hq;have hl:=rv.length;obtain⟨x,ex⟩:∃x,xs[n-1-i]?=some x:=⟨_,bC (by omega)⟩;obtain⟨u,hu,ru⟩:=rv.get ex;obtain⟨f0,f1,f2,f3,f4,f5⟩:=hf it (by simp);have e1:(n:Int)-1-(i:Int)=((n-1-i:Nat):Int):=by omega
  have st2:=st.2;rw[e1]at st2;refine wpAny_pyNext_rev_item st2 p.isList (x:=u) (by simpa using hu) fun h' st' sb=>?_;have I1:Inv X J5 σ H { s with heap:=h' }:=I.turned (t':=s.toks) (fun b o hb e=>(sb.2 b hb).trans e) f0 f1 f3 f4 f5;have e2:((n-1-i:Nat):Int)-1=(n:Int)-1-((i+1:Nat):Int):=by omega
  rw[e2]at st';obtain⟨o,e,c,d⟩:=id st';exact⟨u,rfl,qU (s:={ s with heap:=h' }) e c d (by decide) ⟨x,H,I1,ru,⟨rfl,fun ys hy=>by rw[I.list_inj hy hq];exact ex⟩,⟨hi,st'⟩,fun b hb=>(hf b hb).1⟩⟩
 done:=by
  intro X hP hw hK hc i J5 s σ H E I hf st hg;subst hP hw hK;obtain⟨f0,f1,f2,f3,f4,f5⟩:=hf it (by simp);have hg:n<=i:=hg;have e1:(n:Int)-1-(i:Int)=-1:=by have:=st.1;omega
  have st2:=st.2;rw[e1]at st2;exact wpAny_pyNext_rev_end (I.ok.hd hc) st2 fun h' eb=>⟨rfl,I.turned (t':=s.toks) (fun b o hb e=>eb b o hb e) f0 f1 f3 f4 f5⟩
 self:=fun _ _ _ _ _ st h=>wpAny_pyIter_revIter st.2 h
variable{tg l:Expr}{ta:TA}{p pos:Pos}
theorem CZ(hg:Gl X "reversed")(hm:X.mg "reversed"=none)(ha:PA X [l] ta)(hs:aN [l] X.env=[(false,eval l X.env)]:=by rfl):PI X tg (.Call (.Name "reversed" p) [l] [] pos) (DG X.K ta):=by
 intro J5 s σ H R I h;refine Call_ (kD I hg hm pP (t3 (cj (ha pos J5 s σ H _ I h) fun us s1 zq0=>?_) (by rw[hs];rfl) (by rfl)));obtain⟨vs,H1,I1,r1,q1⟩:=zq0;obtain⟨a,xs,e,hq,q⟩:=q1;subst e;obtain⟨u,rfl,ru⟩:=vals1 r1;cases ru;obtain⟨its,rv,pl,hz⟩:=I1.list hq;have hl:=rv.length;refine call_reversed_list pl.isList ?_;have e:((its.toArray.size:Nat):Int)-1=(xs.length:Int)-1-((0:Nat):Int):=by rw[bD,hl];omega
 rw[e];have hit:(s1.heap.push (revObj a ((xs.length:Int)-1-((0:Nat):Int)))).IsRevIter s1.heap.objs.size a ((xs.length:Int)-1-((0:Nat):Int)):=⟨_,cK _ rfl,rfl,rfl⟩;refine wpAny_pyIter_revIter (s:={ s1 with heap:=s1.heap.push (revObj a ((xs.length:Int)-1-((0:Nat):Int))) }) hit ?_;have fin:∀b∈[s1.heap.objs.size],jY X J5 H1 b:=fun b hb=>by
  have e:b=s1.heap.objs.size:=by simpa using hb
  subst e;exact I1.fpOk (ax _) (I1.hok.fresh (ax _))
 exact⟨s1.heap.objs.size,[s1.heap.objs.size],_,_,H1,rfl,I1.kept (t':=s1.toks) fun b o e=>aZ _ e,zV a _ _,⟨bN _,hit⟩,fin,q⟩
end
section
variable{X:Cx}{J5:Zd}{σ:St}{H:Hp}{s:Shared}{h':Heap}
theorem Inv.many{H':Hp}{N:Ze}{t':Nat}(I:Inv X J5 σ H s)(k:∀b u,s.heap.get? b=some u->h'.get? b=some u)(hN:∀a∈N,s.heap.objs.size<=a)(out:∀b,b∉N->H' b=H b)(new:∀a∈N,∀o,H' a=some o->bW X.prog X.w X.K H' h' a o):
  Inv X J5 σ H' { s with heap:=h',toks:=t' }:=by
 have old:∀b o,H b=some o->b∉N:=fun b o e q=>i9 _ (fy (I.hok.lt e) (hN b q));have same:∀b o,H b=some o->H' b=some o:=fun b o e=>by rw[out b (old b o e)];exact e
 refine I.un ⟨fun b u q _ _ _=>k b u q,fun b u q _ _ _=>⟨u.slots,k b u q⟩,fun b u q n _=>?_,fun b u q _=>⟨u,k b u q⟩,fun b xs q=>same b _ q,fun b o u q=>same b _ q,fun b ps q=>⟨#[],by rw[same b _ q];simp⟩⟩ fun b o e=>?_
 ·rw[out b fun z=>i9 _ (fy (aQ q) (hN b z))];exact n
 ·by_cases hb:b∈N
  ·exact new b hb o e
  ·rw[out b hb]at e;exact(I.hok b o e).stay (fun c v _ q=>k c v q) (fun c q=>same c _ q) fun c xs q=>same c _ q
variable{p p2 pos pos2:Pos}
end
end L2
namespace L2
open PySem PySem.Spec PyProof.Rows
end L2
end

section
set_option Elab.async false
set_option linter.all false
set_option maxRecDepth 100000
namespace L2
open PySem PySem.Spec PyProof.Rows
def uw(K:Za):R2:=fun x y H Q=>∃a b xs ys,x=.ref a/\y=.ref b/\bc K H a xs/\bc K H b ys/\ys≠[]/\xs.length+ys.length<=ai /\
 (xs=[]->Q (.ref b) H)/\(xs≠[]->∀p,H p=none->Q (.ref p) (upd H p (.tup (xs++ys))))
section
variable{X:Cx}
theorem xC:jK X (i3 .Add) (uw X.K):=by
 intro J5 s σ H x y v u Q I rx ry h;obtain⟨a,b,xs,ys,rfl,rfl,ha,hb,hy,hz,q1,q2⟩:=h;by_cases hx:xs=[]
 ·cases rx;cases ry;obtain⟨its,r1,p1,_⟩:=I.tuple ha;obtain⟨its2,r2,p2,_⟩:=I.tuple hb;have e1:its=[]:=r1.nil_iff.mpr hx;subst e1;obtain⟨⟨cls,dd,data,sl⟩,ho,hc,n,hd⟩:=id p1;obtain⟨⟨cls2,dd2,data2,sl2⟩,ho2,hc2,n2,hd2⟩:=id p2;simp only at hc hd hc2 hd2;subst hc hd hc2 hd2;exact concat_meets ⟨_,ho,rfl⟩ ⟨_,ho2,rfl⟩ noFill_tuple_add seq_tuple_add PySem.F.slot_tuple_add PySem.F.entry_tuple_add (PySem.F.args_tuple_add_2 _ _)
   (tuple_addW0 a b _ its2.toArray n n2 dd dd2 sl sl2 (by simp)) ⟨ho,ho2,⟨.ref b,H,I,rfl,q1 hx⟩⟩
 ·exact BT J5 s σ H _ _ v u Q I rx ry ⟨a,b,xs,ys,rfl,rfl,ha,hb,hx,hz,fun z=>absurd z hy,fun _=>q2 hx⟩
end
end L2
end

section
set_option Elab.async false
set_option linter.all false
set_option maxRecDepth 100000
namespace HT
open PySem PyProof.Rows
end HT
namespace L2
open PySem PySem.Spec PyProof.Rows
end L2
end

section
set_option Elab.async false
set_option linter.all false
set_option maxRecDepth 100000
namespace HT
open PySem PyProof.Rows
def WayAt(h:Heap)(ns:List Int)(v:Value):Prop:=∃a items c wits,v=.ref a/\h.IsTuple a items/\items[0]?=some (.ref c)/\h.IsTuple c wits/\ei wits.toList ns
theorem WayAt.mono{h h':Heap}{ns:List Int}{v:Value}(m:∀b o,h.get? b=some o->o.cls=.type "tuple"->h'.get? b=some o)(q:WayAt h ns v):WayAt h' ns v:=by
 obtain⟨a,items,c,wits,rfl,⟨o,h1,h2,h3⟩,e,⟨o',g1,g2,g3⟩,hi⟩:=q;exact⟨a,items,c,wits,rfl,⟨o,m _ _ h1 h2,h2,h3⟩,e,⟨o',m _ _ g1 g2,g2,g3⟩,hi⟩
inductive Ways(h:Heap):List (List Int)->List Value->Prop
 |nil:Ways h [] []
 |cons {ns nss v vs}:WayAt h ns v->Ways h nss vs->Ways h (ns::nss) (v::vs)
theorem Ways.mono{h h':Heap}(m:∀b o,h.get? b=some o->o.cls=.type "tuple"->h'.get? b=some o):∀{nss:List (List Int)}{vs:Zf},Ways h nss vs->Ways h' nss vs
 |_,_,.nil=>.nil
 |_,_,.cons q r=>.cons (q.mono m) (r.mono m)
theorem Ways.get{h:Heap}:∀{nss:List (List Int)}{vs:Zf}{i:Nat}{v:Value},Ways h nss vs->vs[i]?=some v->∃ns,nss[i]?=some ns/\WayAt h ns v
 |_,_,_,_,.nil,e=>by cases e
 |_,_,0,_,.cons q _,e=>by cases e;exact⟨_,rfl,q⟩
 |_,_,i+1,_,.cons _ r,e=>by
  rw[List.getElem?_cons_succ]at e;obtain⟨ns,h1,h2⟩:=r.get e;exact⟨ns,by rw[List.getElem?_cons_succ];exact h1,h2⟩
theorem firstOf_eq(v:Value):firstOfTuple' v=(do
  if(<- typeOf v) != .type "tuple" then return none
  return (<- cz.List.listItems v)[0]?):=rfl
theorem keyLtT_eq(x y:Value):keyLt' (lZ false) x y=(do
  let xs <- cz.List.listItems x;let ys <- cz.List.listItems y
  for ((p,q),i)in(xs.toList.zip ys.toList).zipIdx do
   if !(<- eqBool p q)then return <- oneLt' (false && i==0) p q
  return xs.size<ys.size):=rfl
section
variable{prog:bt}{w:World}{A:Around}{E:Zc}{s:Shared}
theorem first_way{ns:List Int}{v:Value}{Q:Option Value->Shared->Prop}(hw:WayAt s.heap ns v)(h:∀c wits,s.heap.IsTuple c wits->Q (some (.ref c)) s):wpAny (model prog w) A (firstOfTuple' v) Q E s:=by
 obtain⟨a,items,c,wits,rfl,⟨o,h1,h2,n,h3⟩,e,g,hi⟩:=hw;rw[firstOf_eq];refine am (rB (T:="tuple") ⟨o,h1,h2⟩ ?_);rw[if_neg (by decide)];refine am (rq h1 h3 ?_);rw[e];exact aE (h c wits g)
theorem firsts_wp:∀{nss:List (List Int)}{vs:Zf}{Q:List (Option Value)->Shared->Prop},Ways s.heap nss vs->(∀fs:List Value,(∀f∈fs,s.TypeIs f "tuple")->fs.length=vs.length->Q (fs.map some) s)->wpAny (model prog w) A (vs.mapM firstOfTuple') Q E s
 |_,_,Q,.nil,h=>by rw[List.mapM_nil];exact aE (h [] (fun f hf=>by cases hf) rfl)
 |_,_,Q,.cons (vs:=vs) q r,h=>by
  rw[List.mapM_cons];refine am (first_way q fun c wits g=>am (firsts_wp r fun fs hf hz=>aE ?_));refine h (.ref c::fs) (fun f hm=>?_) (congrArg (·+1) hz);rcases bS.1 hm with rfl|hm
  ·obtain⟨o,g1,g2,_⟩:=g;exact⟨o,g1,g2⟩
  ·exact hf f hm
theorem types_wp:∀{fs:Zf}{Q:List Value->Shared->Prop},(∀f∈fs,s.TypeIs f "tuple")->Q (fs.map fun _=>.type "tuple") s->wpAny (model prog w) A (fs.mapM typeOf) Q E s
 |[],Q,_,h=>by rw[List.mapM_nil];exact aE h
 |f::fs,Q,hf,h=>by
  rw[List.mapM_cons];exact am (rB (hf f eR) (am (types_wp (fun g hg=>hf g (fx _ hg)) (aE h))))
theorem keyKind_ways{v₁ v₂:Value}{vs:Zf}{nss:List (List Int)}{Q:SortKind->Shared->Prop}(hW:Ways s.heap nss (v₁::v₂::vs))(h:Q (lZ false) s):wpAny (model prog w) A (keyKind' (v₁::v₂::vs).toArray) Q E s:=by
 rw[keyKind'_eq,List.mapM_toArray];refine am (wpAny_map (firsts_wp hW fun fs hf hz=>?_));have e1:((fs.map some).toArray.all fun x=>x.isSome)=true:=by
  simp only[List.all_toArray,oC,oJ];intro _ _;rfl
 rw[if_pos e1];refine am (kW ?_);have e2:(fs.map some).toArray.filterMap id=fs.toArray:=by simp
 rw[e2,oneTypeOnly'_eq,List.mapM_toArray];refine am (am (wpAny_map (types_wp hf ?_)));obtain⟨f,fs',rfl⟩:∃f fs',fs=f::fs':=by
  cases fs with
  |nil=>cases hz
  |cons f fs'=>exact⟨f,fs',rfl⟩
 have h0:(List.map (fun _=>Value.type "tuple") (f::fs')).toArray[0]?=some (Value.type "tuple"):=by simp
 rw[h0];have hall:((List.map (fun _=>Value.type "tuple") (f::fs')).toArray.all fun x=>x==Value.type "tuple")=true:=by
  simp only[List.all_toArray,oC,oJ];intro _ _;rfl
 refine aE ?_;rw[if_pos hall];exact aE h
theorem dAts_ints{h:Heap}:∀{vs:Zf}{ns:List Int},ei vs ns->L2.DAts h (ns.map fun n=>L2.DT.k (.inl n)) vs
 |_,_,.nil=>rfl
 |_,_,.cons n t r=>⟨_,_,rfl,by show Bq n (.int n t)=true;simp[Bq],dAts_ints r⟩
theorem keyLt_ways{ns ms:List Int}{x y:Value}{Q:Bool->Shared->Prop}(wx:WayAt s.heap ns x)(wy:WayAt s.heap ms y)(ne:ns≠ms)(hu:A.units+8<cLine)(h:Q (lexLt ns ms) s):wpAny (model prog w) A (keyLt' (lZ false) x y) Q E s:=by
 obtain⟨a,items,c,wits,rfl,⟨o,h1,h2,n,h3⟩,e,g,hi⟩:=wx;obtain⟨a',items',c',wits',rfl,⟨o',h1',h2',n',h3'⟩,e',g',hi'⟩:=wy;rw[keyLtT_eq];refine am (rq h1 h3 (am (rq h1' h3' ?_)));obtain⟨r,er⟩:∃r,items.toList=.ref c::r:=by
  have e:items.toList[0]?=some (.ref c):=by rw[me];exact e
  cases z:items.toList with
  |nil=>rw[z]at e;cases e
  |cons y r=>rw[z]at e;cases e;exact⟨r,rfl⟩
 obtain⟨r',er'⟩:∃r,items'.toList=.ref c'::r:=by
  have e':items'.toList[0]?=some (.ref c'):=by rw[me];exact e'
  cases z:items'.toList with
  |nil=>rw[z]at e';cases e'
  |cons y r=>rw[z]at e';cases e';exact⟨r,rfl⟩
 rw[er,er',xf,List.zipIdx_cons,l_];have q:=L2.dt_eq (s:=s) 8 (A:=A) (x:=.t (ns.map fun n=>L2.DT.k (.inl n))) (y:=.t (ms.map fun n=>L2.DT.k (.inl n))) (u:=.ref c) (v:=.ref c') (by
  show L2.DT.depths _+1<=8;have:∀l:List Int,L2.DT.depths (l.map fun n=>L2.DT.k (.inl n))=0:=fun l=>by
   induction l with
   |nil=>rfl
   |cons a r ih=>show max 0 (L2.DT.depths _)=0;rw[ih];rfl
  rw[this];decide) hu ⟨c,wits,rfl,g,dAts_ints hi⟩ ⟨c',wits',rfl,g',dAts_ints hi'⟩
 rw[zzr0 (fun z=>ne (by
  injection z with z;have inj:∀(l m:List Int),(l.map fun n=>L2.DT.k (.inl n))=(m.map fun n=>L2.DT.k (.inl n))->l=m:=fun l=>by
   induction l with
   |nil=>intro m z;cases m with
    |nil=>rfl
    |cons b m=>cases z
   |cons a l ih=>intro m z;cases m with
    |nil=>cases z
    |cons b m =>
     rw[bM,bM]at z;injection z with z1 z2;injection z1 with z1;injection z1 with z1;rw[z1,ih m z2]
  exact inj _ _ z))]at q
 refine am (am ?_);dsimp only;refine am (q prog w _ _ ?_);rw[if_pos (by rfl)];rw[oneLt'_eq];refine am (am ?_);have lt:wpAny (model prog w) A (richCompare .Lt (.ref c) (.ref c')) (fun v s'=>v=.bool (lexLt ns ms)/\s'=s) E s:=lt_tupInts g g' hi hi' (by omega) ⟨rfl,rfl⟩;refine jO lt (fun v s' hv=>?_) fun _ _ x=>x;obtain⟨rfl,rfl⟩:=hv;refine kT ?_;exact aE (aE (aE h))
theorem wpS_ltW{st:SortSt}{i j:Nat}{x y p q:Value}{ns ms:List Int}{Q:Option Bool->SortSt->Prop}(hk:kindOf st=lZ false)
  (hi:(arrOf st)[i]?=some (x,p)) (hj:(arrOf st)[j]?=some (y,q)) (wx:WayAt s.heap ns x) (wy:WayAt s.heap ms y) (ne:ns≠ms) (hu:A.units+8<cLine) (h:Q (some (lexLt ns ms)) st) :
  wpS (model prog w) A E s (ltAt' i j) Q st:=by
 rw[ltAt'_eq];refine eg (oz ?_);show wpS _ _ _ _ (do let x <- elem' (arrOf st) i;let y <- elem' (arrOf st) j;lt' x y) Q st
 rw[elem'_eq,elem'_eq,hi,hj];refine eg (iC (eg (iC ?_)));rw[lt'_eq];refine eg (oz ?_);rw[hk];refine eg (wpS_lift (wpAny_attempt (keyLt_ways wx wy ne hu ⟨rfl,?_⟩)));exact iC h
theorem zip_get{vs:Zf}{i:Nat}{v:Value}(h:vs[i]?=some v):(j_ vs)[i]?=some (v,v):=by
 have e:(j_ vs).toList[i]?=some (v,v):=by rw[pairsOf_toList,List.getElem?_zip_eq_some];exact⟨h,h⟩
 rw[<-me];exact e
def Rises(nss:List (List Int)):Prop:=∀i x y,nss[i]?=some x->nss[i+1]?=some y->lexLt y x=false/\y≠x
theorem minRun_le:∀(fuel n r:Nat),r<=1->minRun' fuel n r<=n+r
 |0,n,r,h=>by show n+r<=n+r;exact ax _
 |fuel+1,n,r,h=>by
  rw[minRun'_succ];by_cases c:n<64
  ·rw[if_pos c];exact ax _
  ·rw[if_neg c];have:=minRun_le fuel (n / 2) (max r (n % 2)) (by omega);omega
theorem wpS_runs{st:SortSt}{nss:List (List Int)}{vs:Zf}{Q:Unit->SortSt->Prop}(hk:kindOf st=lZ false)(ha:arrOf st=j_ vs)(hf:failedOf st=none)(hp:pendingOf st=#[])(hW:Ways s.heap nss vs)(hr:Rises nss)(h2:2<=vs.length)(hu:A.units+8<cLine)
  (h:∀st',arrOf st'=j_ vs->failedOf st'=none->Q () st'):wpS (model prog w) A E s sortRuns' Q st:=by
 have sz:(arrOf st).size=vs.length:=by rw[ha,pairsOf_size]
 rw[sortRuns'_eq];refine eg (oz ?_);dsimp only;have hm:minRun' vs.length vs.length 0<=vs.length:=minRun_le _ _ _ (bN _);rw[sz];generalize minRun' vs.length vs.length 0=mr at hm;refine eg (wpS_mono (wpS_forRange
  (I:=fun x c st'=>(x=0/\c=(none,0)/\st'=st)∨(1<=x/\c=(none,vs.length)/\st'=oy st #[(0,vs.length,0)]))
  (Q:=fun c st'=>c=(none,vs.length)/\st'=oy st #[(0,vs.length,0)]) ?step ?fin (.inl ⟨rfl,rfl,rfl⟩)) ?post)
 case fin =>
  rintro c st' (⟨hx,_,_⟩|⟨_,hc,hD⟩)
  ·omega
  ·exact⟨hc,hD⟩
 case step =>
  rintro x c st' _ hx (⟨rfl,rfl,rfl⟩|⟨hx1,rfl,rfl⟩)
  ·dsimp only;rw[if_neg (by omega)];simp only[rA,Nat.zero_add];rw[countRun0_eq];refine eg (eg (wpS_mono (Q:=fun c st2=>c=(none,vs.length)/\st2=st') ?_ fun c st2 hc=>?_))
   ·unfold ascLoop;refine wpS_forRange (I:=fun x c st2=>st2=st'/\c=(none,x)) ?_ ?_ ⟨rfl,rfl⟩
    ·rintro i c st2 i1 i2 ⟨rfl,rfl⟩;dsimp only;obtain⟨v,hv⟩:∃v,vs[i]?=some v:=⟨_,bC i2⟩;obtain⟨u,hu'⟩:∃v,vs[i-1]?=some v:=⟨_,bC (by omega)⟩;obtain⟨ns,hn,wv⟩:=hW.get hv;obtain⟨ms,hms,wu⟩:=hW.get hu';obtain⟨r1,r2⟩:=hr (i-1) ms ns hms (by rw[Nat.sub_add_cancel i1];exact hn);refine eg (wpS_ltW hk (by rw[ha];exact zip_get hv) (by rw[ha];exact zip_get hu') wv wu r2 hu ?_);rw[r1];exact iC ⟨rfl,rfl⟩
    ·rintro c st2 ⟨rfl,rfl⟩;rw[show max 1 vs.length=vs.length by omega];exact⟨rfl,rfl⟩
   ·obtain⟨rfl,rfl⟩:=hc;dsimp only;rw[if_pos (by simp)];refine iC ?_;dsimp only;rw[if_neg (by omega)];refine eg (oz ?_);have hb:(pendingOf st2).back?=none:=by rw[hp];rfl
    rw[hb];dsimp only;refine eg (wpS_modify (iC (.inr ⟨by omega,rfl,?_⟩)));show oy st2 ((pendingOf st2).push _)=_;rw[hp];rfl
  ·dsimp only;rw[if_pos (ax _)];exact iC ⟨rfl,rfl⟩
 case post =>
  rintro c st' ⟨rfl,rfl⟩;dsimp only;refine eg (wpS_mono (wpS_forRange (I:=fun _ c st''=>st''=oy st #[(0,vs.length,0)]/\c=(none,())) (Q:=fun c st''=>st''=oy st #[(0,vs.length,0)]/\c=(none,())) ?_ (fun _ _ hh=>hh) ⟨rfl,rfl⟩) ?_)
  ·rintro x c st'' _ _ ⟨rfl,rfl⟩;refine eg (oz ?_);rw[if_pos (show(#[((0:Nat),vs.length,(0:Nat))]:Array (Nat×Nat×Nat)).size<=1 from ax 1)];exact iC ⟨rfl,rfl⟩
  ·rintro c st'' ⟨rfl,rfl⟩;exact iC (h _ ha hf)
theorem sort_ways{a:Addr}{vs:Zf}{nss:List (List Int)}{n:Nat}{P:Fin->Shared->Prop}(ho:s.heap.get? a=some (seqObj "list" vs.toArray n))
  (hW:Ways s.heap nss vs) (hr:Rises nss) (hz:vs.length<=1000) (hu:A.units+8<cLine)
  (h:P (.done (.ret .none)) { s with heap:=sortedHeap s.heap a vs vs.toArray }) :
  wpAny (model prog w) A (cz.«list.sort» ⟨[.ref a],[]⟩) P E s:=by
 rw[list_sort_plain];have ha:a<s.heap.objs.size:=aQ ho;refine am (rq ho rfl ?_);refine am (listUpdate_at ho rfl ?_);obtain⟨e1,ho1⟩:∃e1,(s.heap.update a (eS fun _=>#[])).get? a=some (seqObj "list" #[] e1):=⟨_,get?_update_seq ho (fun _=>#[])⟩;refine am (seqEpoch_at ho1 rfl ?_);refine am (wpAny_newTuple ?_);refine am (wpAny_newList ?_);refine kU ?_;have ho6:(((s.heap.update a (eS fun _=>#[])).push (seqObj "tuple" vs.toArray 0)).push (seqObj "list" #[] 0)).get? a=some (seqObj "list" #[] e1):=by
  rw[Heap.get?_push_ne _ _ _ (by rw[size_push',Heap.size_update];exact b_ (Nat.lt_succ_of_lt ha)),Heap.get?_push_ne _ _ _ (by rw[Heap.size_update];exact b_ ha)];exact ho1
 have keep:∀b o,s.heap.get? b=some o->o.cls=.type "tuple"->(((s.heap.update a (eS fun _=>#[])).push (seqObj "tuple" vs.toArray 0)).push (seqObj "list" #[] 0)).get? b=some o:=fun b o q c=>by
  have nb:b≠a:=fun z=>by
   rw[z,ho]at q;injection q with q;rw[<-q]at c;simp at c
  exact aZ _ (aZ _ (by rw[Heap.get?_update_ne _ _ _ _ nb];exact q))
 show wpAny (model prog w) A _ P E { s with heap:=((s.heap.update a (eS fun _=>#[])).push (seqObj "tuple" vs.toArray 0)).push (seqObj "list" #[] 0) };dsimp only;have hsz:vs.toArray.size=vs.length:=by simp
 have out:(j_ vs).map (·.2)=vs.toArray:=by
  apply Array.toList_inj.1;rw[Array.toList_map,pairsOf_toList,List.map_snd_zip (ax _)]
 by_cases h2:vs.toArray.size<2
 ·rw[if_pos h2,if_pos h2];refine am (aE ?_);rw[StateT.run_pure];refine am (aE ?_);dsimp only;refine am (seqEpoch_at ho6 rfl ?_);refine am (listUpdate_at ho6 rfl ?_ (hsz2:=by rw[Array.size_map];show(j_ vs).size<=_;rw[pairsOf_size,wZ];omega));simp only[bne_self_eq_false,oA,if_false];refine aE ?_;have:=h;rw[<-out]at this;exact this
 ·rw[if_neg h2,if_neg h2];obtain⟨v₁,v₂,rest,rfl⟩:∃v₁ v₂ rest,vs=v₁::v₂::rest:=by
   cases vs with
   |nil=>simp at h2
   |cons v₁ vs=>cases vs with
    |nil=>simp at h2
    |cons v₂ rest=>exact⟨v₁,v₂,rest,rfl⟩
  refine am (keyKind_ways (hW.mono keep) ?_);refine am (jO (wpS_runs (vs:=v₁::v₂::rest) (st:=SortSt.mk' (lZ false) ((v₁::v₂::rest).toArray.zip (v₁::v₂::rest).toArray) #[] 7 none)
   (Q:=fun _ st'=>arrOf st'=j_ (v₁::v₂::rest)/\failedOf st'=none)
   rfl rfl rfl rfl (hW.mono keep) hr (by simp) hu fun st' a1 a2=>⟨a1,a2⟩) ?_ fun _ _ e=>e)
  rintro⟨⟨⟩,st'⟩ s' ⟨rfl,hp,hf⟩;dsimp only at hp hf ⊢;refine am (seqEpoch_at ho6 rfl ?_);refine am (listUpdate_at ho6 rfl ?_ (hsz2:=by rw[Array.size_map,hp,pairsOf_size,wZ];omega));rw[hf,hp,out];simp only[bne_self_eq_false,oA,if_false];exact aE h
theorem sorted_ways{l:Addr}{vs:Zf}{nss:List (List Int)}{Q:Zc}(hl:s.heap.IsList l vs.toArray)(hW:Ways s.heap nss vs)(hr:Rises nss)(hz:vs.length<=1000)(hu:A.units+16<cLine)
  (h:Q (.ref (s.heap.objs.size+1)) { s with heap:=sortedAll s.heap vs vs.toArray }) :
  wpAny (model prog w) A (call (.builtin "sorted") [.ref l]) Q E s:=by
 refine Calls.call_function_entry kind_sorted plain_sorted entry_sorted (args_sorted1 _) ?_;unfold cz.«sorted»;refine am (m:=checkCount "sorted" 1 1 _) (aE ?_);refine am (collect_list hl ?_);refine am (wpAny_newList ?_);have hsz:((s.heap.push (seqObj "list" #[] 0)).update s.heap.objs.size (eS (·++vs.toArray))).objs.size=s.heap.objs.size+1:=by
  rw[Heap.size_update,size_push']
 have hoL:(((s.heap.push (seqObj "list" #[] 0)).update s.heap.objs.size (eS (·++vs.toArray))).push (seqObj "list" vs.toArray 0)).get? (s.heap.objs.size+1)=some (seqObj "list" vs.toArray 0):=by
  rw[<-hsz];exact cK _ rfl
 have keep:∀b o,s.heap.get? b=some o->o.cls=.type "tuple"->(((s.heap.push (seqObj "list" #[] 0)).update s.heap.objs.size (eS (·++vs.toArray))).push (seqObj "list" vs.toArray 0)).get? b=some o:=fun b o q c =>
  aZ _ (by rw[Heap.get?_update_ne _ _ _ _ (b_ (aQ q))];exact aZ _ q)
 show wpAny _ _ _ _ _ { s with heap:=((s.heap.push (seqObj "list" #[] 0)).update s.heap.objs.size (eS (·++vs.toArray))).push (seqObj "list" vs.toArray 0) };rw[hsz];refine am (kU (vm slot_list_sort ⟨_,hoL,rfl⟩ entry_list_sort (sort_ways hoL (hW.mono keep) hr hz (by show A.units+1+1+8<cLine;omega) ⟨_,rfl,?_⟩) (args_list_sort _)));exact aE ⟨_,rfl,h⟩
end
end HT
namespace L2
open PySem PySem.Spec PyProof.Rows
def zP(ns:List Int)(r:List DT):DT:=.t (.t (ns.map fun n=>DT.k (.inl n))::r)
abbrev Aj(K:Za):List V->Hp->VK->Prop:=fun xs H Q=>∃(a:Addr) (vs:List V) (ws:List (List Int×List DT)),xs=[.ref a]/\ay K H a vs/\DIns K H (ws.map fun w=>zP w.1 w.2) vs/\DT.depths (ws.map fun w=>zP w.1 w.2)<=8/\HT.Rises (ws.map Prod.fst)/\vs.length<=1000 /\
 ∀p:Addr,H p=none->Q (.ref p) (upd H p (.lst vs))
section
variable{X:Cx}
theorem qP{h:Heap}:∀{ns:List Int}{vs:Zf},DAts h (ns.map fun n=>DT.k (.inl n)) vs->ei vs ns
 |[],vs,e=>by have e:vs=[]:=e;subst e;exact .nil
 |n::ns,vs,e=>by
  obtain⟨v,us,rfl,h1,h2⟩:=e;obtain⟨t,rfl⟩:∃t,v=.int n t:=by
   have h1:cq (.inl n) v=true:=h1;rcases au h1 with⟨i,t,e,rfl⟩|⟨i,t,e,_⟩
   ·cases e;exact⟨t,rfl⟩
   ·cases e
  exact .cons n t (qP h2)
theorem qt{h:Heap}:∀{ws:List (List Int×List DT)}{vs:Zf},DAts h (ws.map fun w=>zP w.1 w.2) vs->HT.Ways h (ws.map Prod.fst) vs
 |[],vs,e=>by have e:vs=[]:=e;subst e;exact .nil
 |w::ws,vs,e=>by
  obtain⟨v,us,rfl,⟨a,items,rfl,hi,hd⟩,h2⟩:=e;obtain⟨u,us',eu,⟨c,wits,rfl,hc,hn⟩,h3⟩:=hd;refine .cons ⟨a,items,c,wits,rfl,hi,?_,hc,qP hn⟩ (qt h2);rw[<-me,eu];rfl
theorem wD(hu:X.A.units+16<cLine):eM X (.builtin "sorted") (Aj X.K):=by
 intro J5 s σ H xs us Q I r h;obtain⟨a,vs,ws,rfl,hq,hd,hd8,hr,hz,q⟩:=h;obtain⟨u,rfl,ru⟩:=vals1 r;cases ru;obtain⟨its,rv,pl,_⟩:=I.list hq;have il:=rv.length;refine HT.sorted_ways pl.isList (qt (jI I hd8 hd rv)) hr (by omega) hu ?_;obtain⟨e,he⟩:=sortedAll_at s.heap its its.toArray;have D:s.heap.objs.size<=s.heap.objs.size+1:=ka _ _;refine⟨.ref (s.heap.objs.size+1),upd H (s.heap.objs.size+1) (.lst vs),I.many (N:=[s.heap.objs.size+1]) (t':=s.toks) (fun b o e=>sortedAll_old e) (fun b hb=>?_) (fun b hb=>?_) fun b hb o ho=>?_,rfl,q _ (I.hok.fresh D)⟩
 ·rw[cc.1 hb];exact D
 ·rw[aj fun z=>hb (by rw[z];exact cc.2 rfl)]
 ·rw[cc.1 hb]at ho ⊢;rw[aa]at ho;cases ho;refine⟨?_,its,e,rv,by simpa using he⟩;have:1000<=ai:=by decide
  omega
end
end L2
end
set_option Elab.async false
set_option linter.all false
set_option maxRecDepth 100000
set_option maxHeartbeats 4000000
namespace Mum
open PySem PySem.Spec PyProof.Rows L2
def rS(K:Za):TS :=
 aq (bZ (ba (aw rGeI V0 (aw Cr (tC (.int 10)) (tC (.int 18))))) (aX V0) (bb))
 (aq (aS (aw g7 (aw dF (aw dF (aw jf (aw g7 V0 (tC (.int 1000000007))) (tC (.int 69069))) (aw jf V1 (tC (.int 40503)))) (tC (.int 977))) (tC (.int 2147483629))) U2)
 (aq (aS (aw g7 (aw dF (aw dF (aw jf V2 V2) (aw jf V1 (tC (.int 7919)))) (aw g7 V0 (tC (.int 65537)))) (tC (.int 2147483587))) U3)
 (aq (aS (aw g7 (aw dF (aw dF (aw jf V3 V3) (aw jf V2 (tC (.int 31)))) (tC (.int 5))) (tC (.int 2147483563))) U4)
 (aX (aw dF (aw jf (aw dF (aw jf V2 (tC (.int 2147483659))) V3) (tC (.int 2147483693))) V4)))))
def tH:List Str:=["cell","at","one","two","three"]
def vy(K:Za):TS :=
 aq (aS (dE (eA K) (az (xk (nL K) V0 (dI) (fO (tC (.int 12)))))) U1)
 (aq (fQ (no K (az (xk (nL K) V0 (fO (tC (.int 12))) (fO (tC (.int 63)))))) (gS K 2 (a_ U2 (a_ U3 (gx)))) (aS (aw dF (aw (cu K) V1 (aw g7 V2 (tC (.int 12)))) V3) (s_ V1 (aw g7 V2 (tC (.int 12))) lr)))
 (aX (bY (dL V1 (tC (.int 0)) (tC (.int 0))))))
def wL:List Str:=["script","cells","k","cell"]
def vB(K:Za):TS :=
 aq (aS (tC (.int 0)) (s_ V0 (tC (.int 2)) lr))
 (aX V0)
def wO:List Str:=["pen"]
def vx(K:Za)(sp_law_spread:Sp):TS :=
 aq (bZ (ba (aw Ak (aw (cu K) V0 (tC (.int 2))) V1)) (aq (aS (aw (cu K) V0 (tC (.int 1))) U2)
 (aq (aS (tC (.int 0)) U3)
 (aq (bZ (ba (aw Ak V2 (dE (d9 K) (az (aw (cu K) V0 (tC (.int 0))))))) (aS (aw (cu K) (aw (cu K) V0 (tC (.int 0))) V2) U3) (bZ (ba (aw BJ (dE (d9 K) (az (aw (cu K) V0 (tC (.int 0))))) (tC (.int 0)))) (aS (aw g7 (aw (cu K) (aw (cu K) V0 (tC (.int 0))) (aw g7 (aw dF (aw jf V2 (tC (.int 5))) (tC (.int 3))) (dE (d9 K) (az (aw (cu K) V0 (tC (.int 0))))))) (aw dF (aw Cr (tC (.int 10)) (tC (.int 17))) V2)) U3) (bb)))
 (aq (aS (aw dF V2 (tC (.int 1))) (s_ V0 (tC (.int 1)) lr))
 (aS (aL sp_law_spread (aM V3 V2)) (s_ V0 (tC (.int 2)) lr)))))) (bb))
 (aq (aS (aw g7 (aw (cu K) V0 (tC (.int 2))) V1) U4)
 (aq (aS (aw Am (aw (cu K) V0 (tC (.int 2))) V1) (s_ V0 (tC (.int 2)) lr))
 (aX V4)))
def wK:List Str:=["pen","many","at","cell","found"]
def uf(K:Za)(sp_law_take:Sp):TS :=
 aq (aS (tC (.str "abcdefghijklmnopqrstuvwxyz")) U2)
 (aq (aS (vJ K "str" (Ct K) (tC (.str "")) (ap (cw 1 [2,0] (pC (az (tC (.int 7)))) U0 (eQ) (aw Al V1 (aL sp_law_take (aM V2 (tC (.int 26)))))) be)) U3)
 (aq (aS (aL sp_law_take (aM V0 (tC (.int 3)))) U4)
 (aq (aS (aL sp_law_take (aM V0 (tC (.int 26)))) U5)
 (aq (aS (aL sp_law_take (aM V0 (tC (.int 8)))) U6)
 (aq (aS (bY (be)) U7)
 (aq (fQ (pC (az V1)) U8 (aq (aS (aw Al V2 (aw g7 (aw dF V5 (aw jf (tC (.int 3)) V8)) (tC (.int 26)))) U9)
 (aq (aS (xk yR V3 (dI) (fO (aw g7 (aw dF V6 (aw jf V8 (aw g7 V4 (tC (.int 2))))) (tC (.int 8))))) U10)
 (aq (aS (aw (cu K) (bY (dL (tC (.int 0)) (dE (d9 K) (az DM)) (aw Am (dE (d9 K) (az DM)) (tC (.int 2))))) V4) U11)
 (cY (vJ K "list" de V7 (az (aw Cu (aw Cu (xk yR DM (dI) (fO V11)) V9) (xk yR DM (fO V11) (dI))))))))))
 (aX V7)))))))
def ve:List Str:=["pen","many","letters","base","way","turn","size","found","k","sign","part","at"]
def yr(K:Za):TS :=
 bZ (ba (aw (sF K true) V1 V0)) (cY (vJ K "list" de V0 (az V1))) (bb)
def zB:List Str:=["doors","door"]
def mn(K:Za)(sp_law_take:Sp)(sp_law_put:Sp):TS :=
 aq (aS (bY (be)) U5)
 (aq (aS (aL sp_law_take (aM V0 (tC (.int 2)))) U6)
 (aq (fQ (no K (az V3)) (gS K 2 (a_ U7 (a_ U8 (gx)))) (aq (fQ (pC (ap (aw (cu K) (bY (ap (tC (.int 0)) (dL (tC (.int 1)) (tC (.int 1)) (tC (.int 2))))) (aL sp_law_take (aM V0 (tC (.int 4))))) be)) U9 (aq (aS (bf (ap (tC (.str "say")) (ap (aw (cu K) V2 (aL sp_law_take (aM V0 (dE (d9 K) (az V2))))) be))) U10)
 (cY (aL sp_law_put (ap V5 (ap (bf (ap V8 (ap DM (ap (aw (cu K) V3 (aL sp_law_take (aM V0 (dE (d9 K) (az V3))))) be)))) be))))))
 (aq (fQ (c6 K V1) U11 (fQ (pC (ap (aw (cu K) (bY (ap V4 (dL (tC (.int 1)) (tC (.int 1)) (tC (.int 2))))) (aL sp_law_take (aM V0 (tC (.int 4))))) be)) U9 (cY (aL sp_law_put (ap V5 (ap (bf (ap V8 (ap (bf (aM (tC (.str "ask")) V11)) (ap (aw (cu K) V3 (aL sp_law_take (aM V0 (dE (d9 K) (az V3))))) be)))) be))))))
 (aq (aS (aw (cu K) (bY (ap (xk (nL K) V3 (fO (aw dF V7 (tC (.int 1)))) (dI)) (az (xk (nL K) V3 (dI) (fO V7))))) V6) U12)
 (bZ (qg (ba (aw (CU K) V12 (bY (be)))) (ba (aw mw (aL sp_law_take (aM V0 (tC (.int 3)))) (tC (.int 0))))) (cY (aL sp_law_put (ap V5 (ap (bf (ap V8 (ap (bf (az (tC (.str "still")))) (ap (aw (uv K) V12 (aL sp_law_take (aM V0 (dE (d9 K) (az V12))))) be)))) be)))) (bb))))))
 (aX V5)))
def mP:List Str:=["pen","asks","says","rooms","full","doors","down","k","room","turn","sign","ask","later"]
def ug(K:Za)(sp_law_draw_doors:Sp)(sp_law_names:Sp)(sp_law_take:Sp)(sp_law_anew:Sp):TS :=
 aq (cY (aL sp_law_anew (az V0)))
 (aq (aS (aL sp_law_names (aM V0 (tC (.int 8)))) U3)
 (aq (aS (xk (nL K) V3 (dI) (fO (aw dF (tC (.int 1)) (aw (cu K) (bY (ap (tC (.int 0)) (ap (tC (.int 1)) (ap (tC (.int 1)) (dL (tC (.int 2)) (tC (.int 2)) (tC (.int 3))))))) (aL sp_law_take (aM V0 (tC (.int 6)))))))) U4)
 (aq (aS (xk (nL K) V3 (fO (tC (.int 4))) (fO (aw dF (tC (.int 5)) (aw (cu K) (bY (ap (tC (.int 0)) (ap (tC (.int 1)) (ap (tC (.int 1)) (dL (tC (.int 2)) (tC (.int 2)) (tC (.int 3))))))) (aL sp_law_take (aM V0 (tC (.int 6)))))))) U5)
 (aq (aS (aL sp_law_names (aM V0 (aw dF (tC (.int 1)) (aL sp_law_take (ap V0 (az V1)))))) U6)
 (aq (aS (aL sp_law_draw_doors (ap V0 (ap V4 (dL V5 V6 V2)))) U7)
 (aX (bf (ap V4 (dL V5 V6 V7)))))))))
def vf:List Str:=["pen","most","full","words","asks","says","rooms","doors"]
def p9(K:Za)(C_Machine:Addr)(sp_Machine_init:Sp):TS :=
 aX (z0 C_Machine sp_Machine_init [] E0 (ap (dE (eA K) (az (aw (uv K) V0 (tC (.int 0))))) (ap (dE (eA K) (az (aw (uv K) V0 (tC (.int 1))))) (ap (dE (eA K) (az (aw (uv K) V0 (tC (.int 2))))) (ap (dE (eA K) (az (aw (uv K) V0 (tC (.int 3))))) be)))))
def qp:List Str:=["told"]
def yv(K:Za):TS :=
 aX (j4 (aw rNe V0 (tC (.str ""))) (j4 (aw rLeI (dE (d9 K) (az V0)) (tC (.int 8))) (dE (BM K) (az (cw 1 [] (DE V0) U0 (eQ) (aw rInS V0 (tC (.str "abcdefghijklmnopqrstuvwxyz"))))))))
def zE:List Str:=["text"]
def yy(K:Za):TS :=
 aq (aS (so) U1)
 (aq (fQ (c6 K V0) U2 (qG V1 V2 (tC (.bl true))))
 (aX V1))
def zF:List Str:=["things","keys","thing"]
def kh(K:Za)(sp_is_name:Sp)(sp_as_keys:Sp):TS :=
 aq (bZ (ba (aw mw (dE (d9 K) (az V0)) (tC (.int 0)))) (aX (tC (.int 0))) (bb))
 (aq (aS (aL sp_as_keys (az V2)) U3)
 (aq (fQ (no K (az V0)) (gS K 2 (a_ U4 (a_ U5 (gx)))) (aq (bZ (zG (ba (aw mw V4 V1)) (zG (tB (Bx K V5 V3)) (uh (tB (aL sp_is_name (az V5)))))) (aX V4) (bb))
 (qG V3 V5 (tC (.bl true)))))
 (aX (tC .non))))
def kJ:List Str:=["names","most","taken","ahead","number","name"]
def rX(K:Za)(a_STILL:Addr):TS :=
 aX (aw lu (aw lu (cw 1 [] (c6 K V0) U0 (eQ) (bf (aM (tC (.str "ask")) V0))) (cw 1 [] (c6 K V1) U0 (eQ) (bf (aM (tC (.str "say")) V0)))) (bY (az (tC (.ref a_STILL)))))
def tL:List Str:=["asks","says"]
def ki(K:Za)(sp_as_keys:Sp):TS :=
 aq (aS (aL sp_as_keys (az V1)) U3)
 (aq (aS (vI) U4)
 (aq (fQ (no K (az V0)) (gS K 2 (a_ U5 (a_ U6 (gx)))) (aq (bZ (zG (ba (aw mw V5 (tC (.int 2000)))) (tB (Bx K V6 V4))) (aX V5) (bb))
 (aq (bZ (zG (tB (nS K (aw (uv K) V6 (tC (.int 0))) V3)) (zG (ba (aw (sF K true) (aw (uv K) V6 (tC (.int 1))) V2)) (tB (nS K (aw (uv K) V6 (tC (.int 2))) V3)))) (aX V5) (bb))
 (qG V4 V6 (tC (.bl true))))))
 (aX (tC .non))))
def kK:List Str:=["doors","rooms","signs","own_rooms","ahead","number","door"]
def gQ(K:Za):TS :=
 aq (aS (vI) U1)
 (aq (fQ (c6 K V0) (gS K 3 (a_ U2 (a_ U3 (a_ U4 (gx))))) (cY (vJ K "list" de (vJ K "dict" xp V1 (aM (bf (ap V2 (az V3))) (bY (be)))) (az V4))))
 (aX V1))
def gV:List Str:=["doors","goals","start","sign","goal"]
def oX(K:Za)(a_STILL:Addr):TS :=
 aq (aS (so) U2)
 (aq (aS (bY (az V1)) U3)
 (aq (rY (ba (aw BJ (dE (d9 K) (az V3)) (tC (.int 0)))) (aq (aS (CP K "list" CT V3) U4)
 (fQ (DF K (z6 K V0 (bf (aM V4 (tC (.ref a_STILL)))) (bf (be)))) U5 (bZ (tB (nS K V5 V2)) (aq (qG V2 V5 (tC (.bl true)))
 (cY (vJ K "list" de V3 (az V5)))) (bb)))))
 (aX V2)))
def pV:List Str:=["goals","room","led","waiting","here","goal"]
def k5(K:Za):TS :=
 aq (fQ (no K (az V0)) (gS K 2 (a_ U2 (a_ U3 (gx)))) (bZ (tB (Bx K V3 (xm K V1 V3))) (aX V2) (bb)))
 (aX (tC .non))
def lT:List Str:=["rooms","led","number","room"]
def ub(K:Za):TS :=
 bZ (tB (Cn V1)) (rZ) (bb)
def va:List Str:=["part","number"]
def rR(K:Za)(sp_need_none:Sp)(sp_first_wrong_door:Sp)(sp_door_signs:Sp)(sp_first_wrong_name:Sp):TS :=
 aq (cY (aL sp_need_none (aM (tC (.str "asks")) (aL sp_first_wrong_name (dL V0 (tC (.int 4)) (bY (be)))))))
 (aq (cY (aL sp_need_none (aM (tC (.str "says")) (aL sp_first_wrong_name (dL V1 (tC (.int 4)) V0)))))
 (aq (cY (aL sp_need_none (aM (tC (.str "rooms")) (aL sp_first_wrong_name (dL V2 (tC (.int 150)) (bY (be)))))))
 (cY (aL sp_need_none (ap (tC (.str "doors")) (az (aL sp_first_wrong_door (dL V3 V2 (aL sp_door_signs (aM V0 V1))))))))))
def tG:List Str:=["asks","says","rooms","doors"]
def mq(K:Za):TS :=
 aq (aS (so) U2)
 (aq (fQ (c6 K V0) U3 (qG V2 V3 (bY (be))))
 (aq (fQ (c6 K V1) U4 (cY (vJ K "list" de (xm K V2 (aw (uv K) V4 (tC (.int 0)))) (az V4))))
 (aX V2)))
def mR:List Str:=["rooms","doors","leaving","room","door"]
def mo(K:Za):TS :=
 aX (dE (BM K) (ap (cw 1 [] (c6 K V0) U0 (eQ) (aw mw (aw (uv K) (aw (uv K) V0 (tC (.int 1))) (tC (.int 0))) (tC (.str "ask")))) be))
def mQ:List Str:=["doors"]
def km(K:Za)(sp_need_none:Sp)(sp_first_led_round:Sp)(sp_led_by_still:Sp)(sp_goals_by_start_and_sign:Sp)(sp_as_keys:Sp)(sp_has_asks_alone:Sp)(sp_doors_by_start:Sp)(sp_need_parts:Sp):TS :=
 aq (cY (aL sp_need_parts (ap V1 (dL V2 V3 V4))))
 (aq (sC K V0 (dE (eA K) (az V1)) "own_asks")
 (aq (sC K V0 (dE (eA K) (az V2)) "own_says")
 (aq (sC K V0 (dE (eA K) (az V3)) "own_rooms")
 (aq (sC K V0 (dE (eA K) (az V4)) "own_doors")
 (aq (sC K V0 (aL sp_doors_by_start (aM V3 V4)) "leaving")
 (aq (sC K V0 (aL sp_as_keys (ap (cw 1 [0] (c6 K V3) U0 (tB (aL sp_has_asks_alone (az (xm K (yz K V1 "leaving") V0)))) V0) be)) "quiet")
 (aq (sC K V0 (aL sp_goals_by_start_and_sign (az V4)) "sign_goals")
 (aq (sC K V0 (dE (BL K) (ap (cw 1 [0] (c6 K V3) U0 (eQ) (bf (aM V0 (aL sp_led_by_still (ap (yz K V1 "sign_goals") (az V0)))))) be)) "still_led")
 (cY (aL sp_need_none (aM (tC (.str "still")) (aL sp_first_led_round (ap V3 (az (yz K V0 "still_led")))))))))))))))
def kL:List Str:=["self","asks","says","rooms","doors"]
def b0(p:Addr)(H H':Hp):Prop:=∀b o,H b=some o->b≠p->H' b=some o
theorem b0.refl(p:Addr)(H:Hp):b0 p H H:=fun _ _ h _=>h
theorem b0.trans{p:Addr}{H H1 H2:Hp}(a:b0 p H H1)(b:b0 p H1 H2):b0 p H H2:=fun c o h n=>b c o (a c o h n) n
theorem ac.exB{p:Addr}{H H':Hp}(a:ac H H'):b0 p H H':=fun b o h _=>a b o h
theorem b0.upd(p:Addr)(H:Hp)(o:HO):b0 p H (upd H p o):=fun b u h n=>by rw[aj n];exact h
theorem ac.new{H:Hp}{a:Addr}{o:HO}(h:H a=none):ac H (upd H a o):=fun b u e=>by rw[aj (ag e h)];exact e
theorem b0.free{p:Addr}{H H':Hp}(e:b0 p H H'){u:HO}(hp:H' p=some u){l:Addr}(h:H' l=none):H l=none:=by
 cases q:H l with
 |none=>rfl
 |some o =>
  by_cases z:l=p
  ·subst z;rw[hp]at h;cases h
  ·rw[e l o q z]at h;cases h
theorem kp{H:Hp}{a b:Addr}{o x:HO}(h:H b=some o)(n:H a=none):upd H a x b=some o:=by rw[aj (ag h n)];exact h
structure yf(H:Hp)(p c:Addr)(at_ rest:Int)(ns:List Int):Prop where
 pen:H p=some (.lst [.ref c,.int at_,.int rest])
 cells:H c=some (.lst (ns.map V.int))
 at0:0<=at_
 rest0:0<=rest
theorem yf.ne{H:Hp}{p c:Addr}{a r:Int}{ns:List Int}(h:yf H p c a r ns):c≠p:=by
 intro e;have h1:=h.pen;have h2:=h.cells;rw[e,h1]at h2;injection h2 with h2;injection h2 with h2;cases ns with
 |nil=>cases h2
 |cons n ns=>injection h2 with h2;cases h2
def d_(H:Hp)(p c:Addr):Prop:=∃a r ns,yf H p c a r ns
theorem d_.ex{H H':Hp}{p c:Addr}(h:d_ H p c)(e:ac H H'):d_ H' p c:=by
 obtain⟨a,r,ns,h1,h2,h3,h4⟩:=h;exact⟨a,r,ns,e _ _ h1,e _ _ h2,h3,h4⟩
theorem d_.pen{H:Hp}{p c:Addr}(h:d_ H p c):∃o,H p=some o:=by
 obtain⟨a,r,ns,h1,_⟩:=h;exact⟨_,h1⟩
theorem d_.cell{H:Hp}{p c:Addr}(h:d_ H p c):∃o,H c=some o:=by
 obtain⟨a,r,ns,_,h1,_⟩:=h;exact⟨_,h1⟩
theorem d_.upd{H:Hp}{p c l:Addr}{o:HO}(h:d_ H p c)(h1:p≠l)(h2:c≠l):d_ (upd H l o) p c:=by
 obtain⟨a,r,ns,g1,g2,g3,g4⟩:=h;exact⟨a,r,ns,by rw[aj h1];exact g1,by rw[aj h2];exact g2,g3,g4⟩
theorem d_.nep{H:Hp}{p c l:Addr}(h:d_ H p c)(hl:H l=none):p≠l:=let⟨_,e⟩:=h.pen;ag e hl
theorem d_.nec{H:Hp}{p c l:Addr}(h:d_ H p c)(hl:H l=none):c≠l:=let⟨_,e⟩:=h.cell;ag e hl
theorem b0.new{p:Addr}{H:Hp}{a:Addr}{o:HO}(h:H a=none):b0 p H (L2.upd H a o):=fun b u e _=>by rw[aj (ag e h)];exact e
inductive jv (vs:List V)(H:Hp)(Q:VK)(E:XK):Prop
 |mk (c a:Int):(vs=[.int c,.int a])->(0<=a)->(∀r:Int,0<=r->Q (.int r) H)->jv  vs H Q E
theorem lQ{i j:Int}(h1:-(2 ^ 64)<j)(h2:j<2 ^ 64):Bm i j:=.inr ⟨h1,h2⟩
theorem yF{K:Za}{vs:List V}{H:Hp}{Q:VK}{E:XK}(h:jv vs H Q E):rS K (bx Q) (start tH vs) H:=by
 obtain⟨c,a,rfl,ha,k⟩:=h;refine⟨_,rfl,_,_,rfl,rfl,⟨by decide,by decide,by decide⟩,_,_,rfl,rfl,_,rfl,?_⟩;refine nN (fun h=>?_) (fun _=>?_)
 ·refine⟨_,rfl,k _ ?_⟩;have:=of_decide_eq_true h;have e:((10:Int) ^ (18:Int).toNat)=1000000000000000000:=by decide
  omega
 ·have one:∀z:Int,0<=z % 2147483629/\z % 2147483629<2147483629:=fun z=>⟨lY _ (by decide),lX _ (by decide)⟩;have two:∀z:Int,0<=z % 2147483587/\z % 2147483587<2147483587:=fun z=>⟨lY _ (by decide),lX _ (by decide)⟩;have three:∀z:Int,0<=z % 2147483563/\z % 2147483563<2147483563:=fun z=>⟨lY _ (by decide),lX _ (by decide)⟩;refine⟨_,rfl,_,_,rfl,rfl,(by show(0:Int)<1000000007;decide),_,_,rfl,rfl,lQ (by decide) (by decide),_,rfl,_,_,rfl,rfl,lQ (by decide) (by decide),_,_,rfl,rfl,_,_,rfl,rfl,_,_,rfl,rfl,(by show(0:Int)<2147483629;decide),?_⟩;generalize hz1:(c % 1000000007 * 69069+a * 40503+977)=z1;obtain⟨o1,o2⟩:=one z1;generalize z1 % 2147483629=o at o1 o2 ⊢;refine⟨_,rfl,_,rfl,_,_,rfl,rfl,lQ (by omega) (by omega),_,rfl,_,_,rfl,rfl,lQ (by decide) (by decide),_,_,rfl,rfl,_,rfl,_,_,rfl,rfl,(by show(0:Int)<65537;decide),_,_,rfl,rfl,_,_,rfl,rfl,(by show(0:Int)<2147483587;decide),?_⟩;generalize hz2:(o * o+a * 7919+c % 65537)=z2;obtain⟨p1,p2⟩:=two z2;generalize z2 % 2147483587=q at p1 p2 ⊢;refine⟨_,rfl,_,rfl,_,_,rfl,rfl,lQ (by omega) (by omega),_,rfl,_,_,rfl,rfl,lQ (by decide) (by decide),_,_,rfl,rfl,_,_,rfl,rfl,_,_,rfl,rfl,(by show(0:Int)<2147483563;decide),?_⟩;generalize hz3:(q * q+o * 31+5)=z3;obtain⟨r1,r2⟩:=three z3;generalize z3 % 2147483563=r at r1 r2 ⊢;refine⟨_,rfl,_,_,rfl,rfl,lQ (by decide) (by decide),_,rfl,_,_,rfl,rfl,_,_,rfl,rfl,lQ (by decide) (by decide),_,rfl,_,_,rfl,rfl,k _ ?_⟩;omega
def sw:Sp:=fun vs H Q _=>∃p c,vs=[.ref p]/\d_ H p c/\∀H',d_ H' p c->b0 p H H'->Q (.ref p) H'
theorem BI{K:Za}{vs:List V}{H:Hp}{Q:VK}{E:XK}(h:sw vs H Q E):vB K (bx Q) (start wO vs) H:=by
 obtain⟨p,c,rfl,⟨a,r,ns,h⟩,k⟩:=h;refine⟨_,rfl,p,_,_,_,rfl,rfl,h.pen,rfl,_,rfl,k _ ⟨a,0,ns,aa,?_,h.at0,Int.le_refl 0⟩ (b0.upd _ _ _)⟩;rw[aj h.ne];exact h.cells
theorem ya{ns:List Int}{a:Int}(h0:0<=a)(h1:a<ns.length):∃z,u8 (ns.map V.int) a=some (.int z):=by
 obtain⟨n,rfl⟩:=j9 h0;have hn:n<ns.length:=by omega
 exact⟨ns[n],aD (by simp[hn])⟩
inductive da (vs:List V)(H:Hp)(Q:VK)(E:XK):Prop
 |mk (p c:Addr) (m:Int):(vs=[.ref p,.int m])->(d_ H p c)->(0<m)->(m<1073741824)->(∀(r:Int) (H':Hp),0<=r->r<m->d_ H' p c->b0 p H H'->Q (.int r) H')->da  vs H Q E
theorem eU{H:Hp}{Q:VK}{E:XK}{p c:Addr}{m:Int}(hp:d_ H p c)(m0:0<m)(m1:m<1073741824)(k:∀(r:Int) (H':Hp),0<=r->r<m->d_ H' p c->b0 p H H'->Q (.int r) H'):da [.ref p,.int m] H Q E:=by
 exact⟨p,c,m,rfl,hp,m0,m1,k⟩
theorem BC{K:Za}{vs:List V}{H:Hp}{Q:VK}{E:XK}(h:da vs H Q E):vx K jv (bx Q) (start wK vs) H:=by
 obtain⟨p,c,m,rfl,⟨a,r,ns,h⟩,hm,hm2,k⟩:=h;have fin:∀(H':Hp) (a' r':Int) (x y:Option V),yf H' p c a' r' ns->b0 p H H' ->
   (aq (aS (aw g7 (aw (cu K) V0 (tC (.int 2))) V1) U4) (aq (aS (aw Am (aw (cu K) V0 (tC (.int 2))) V1) (s_ V0 (tC (.int 2)) lr)) (aX V4)))
    (bx Q) [some (.ref p),some (.int m),x,y,none] H':=by
  intro H' a' r' x y h' ex;refine⟨_,rfl,p,_,2,_,rfl,rfl,ay.of h'.pen,rfl,_,rfl,_,_,rfl,rfl,hm,?_⟩;refine⟨_,rfl,p,_,2,_,rfl,rfl,ay.of h'.pen,rfl,_,rfl,_,_,rfl,rfl,⟨hm,hm2⟩,_,rfl,p,_,_,_,rfl,rfl,h'.pen,rfl,?_⟩;refine⟨_,rfl,k _ _ (lY _ (by omega)) (lX _ hm) ⟨a',_,ns,aa,?_,h'.at0,Int.ediv_nonneg h'.rest0 (by omega)⟩ (ex.trans (b0.upd _ _ _))⟩;rw[aj h'.ne];exact h'.cells
 refine⟨_,rfl,p,_,2,_,rfl,rfl,ay.of h.pen,rfl,_,rfl,_,_,rfl,rfl,_,rfl,?_⟩;refine nN (fun h1=>?_) (fun h1=>?_)
 ·-- at=pen[1];cell=0;if at<len(pen[0])
  refine⟨_,rfl,p,_,1,_,rfl,rfl,ay.of h.pen,rfl,?_⟩;have la:(V.int ((ns.map V.int).length:Nat))=V.int (ns.length:Nat):=by rw[ak]
  refine⟨_,rfl,_,rfl,p,_,0,_,rfl,rfl,ay.of h.pen,rfl,.inl ⟨c,_,rfl,.inl (ay.of h.cells),_,_,rfl,la,_,rfl,?_⟩⟩;refine nN (fun h2=>?_) (fun h2=>?_)
  ·obtain⟨z,hz⟩:=ya (ns:=ns) h.at0 (of_decide_eq_true h2);refine⟨_,rfl,p,_,0,_,rfl,rfl,ay.of h.pen,rfl,_,rfl,c,_,_,_,rfl,rfl,ay.of h.cells,hz,?_⟩;refine⟨_,rfl,_,_,rfl,rfl,_,rfl,p,_,_,_,rfl,rfl,h.pen,rfl,?_⟩;refine⟨_,rfl,_,rfl,_,_,rfl,h.at0,fun q hq=>⟨_,rfl,p,_,_,_,rfl,rfl,aa,rfl,?_⟩⟩;rw[nQ];refine fin _ (a+1) q _ _ ⟨aa,by rw[aj h.ne];exact h.cells,by have:=h.at0;omega,hq⟩ (b0.upd _ _ _)
  ·refine⟨_,rfl,p,_,0,_,rfl,rfl,ay.of h.pen,rfl,.inl ⟨c,_,rfl,.inl (ay.of h.cells),_,_,la,rfl,_,rfl,?_⟩⟩;refine nN (fun h3=>?_) (fun h3=>?_)
   ·have hl:(0:Int)<ns.length:=of_decide_eq_true h3;obtain⟨z,hz⟩:=ya (ns:=ns) (a:=(a * 5+3) % (ns.length:Int)) (lY _ (by omega)) (lX _ hl);refine⟨_,rfl,p,_,0,_,rfl,rfl,ay.of h.pen,rfl,_,rfl,_,_,rfl,rfl,lQ (by decide) (by decide),_,_,rfl,rfl,_,rfl,p,_,0,_,rfl,rfl,ay.of h.pen,rfl,.inl ⟨c,_,rfl,.inl (ay.of h.cells),_,_,rfl,la,hl,c,_,_,_,rfl,rfl,ay.of h.cells,hz,?_⟩⟩;refine⟨_,_,rfl,rfl,⟨by decide,by decide,by decide⟩,_,rfl,_,_,rfl,rfl,_,_,rfl,rfl,?_,?_⟩
    ·have e:((10:Int) ^ (17:Int).toNat)=100000000000000000:=by decide
     have:=h.at0;show(0:Int)<10 ^ (17:Int).toNat+a;omega
    refine⟨_,rfl,_,_,rfl,rfl,_,rfl,p,_,_,_,rfl,rfl,h.pen,rfl,?_⟩;refine⟨_,rfl,_,rfl,_,_,rfl,h.at0,fun q hq=>⟨_,rfl,p,_,_,_,rfl,rfl,aa,rfl,?_⟩⟩;rw[nQ];refine fin _ (a+1) q _ _ ⟨aa,by rw[aj h.ne];exact h.cells,by have:=h.at0;omega,hq⟩ (b0.upd _ _ _)
   ·refine⟨_,rfl,_,_,rfl,rfl,_,rfl,p,_,_,_,rfl,rfl,h.pen,rfl,?_⟩;refine⟨_,rfl,_,rfl,_,_,rfl,h.at0,fun q hq=>⟨_,rfl,p,_,_,_,rfl,rfl,aa,rfl,?_⟩⟩;rw[nQ];refine fin _ (a+1) q _ _ ⟨aa,by rw[aj h.ne];exact h.cells,by have:=h.at0;omega,hq⟩ (b0.upd _ _ _)
 ·exact fin H a r _ _ h (b0.refl _ _)
inductive nU(K:Za)(vs:List V)(H:Hp)(Q:VK)(E:XK):Prop
 |mk (a:Addr) (ns:List Int):(vs=[.ref a])->(ay K H a (ns.map V.int))->(ns.length<=63)->(∀(p c:Addr) (H':Hp),H p=none->d_ H' p c->ac H H'->Q (.ref p) H')->nU K vs H Q E
theorem qW(ns:List Int)(lo hi:Option Int):∃ms:List Int,fL (ns.map V.int) lo hi=ms.map V.int/\ms.length=(fL (ns.map V.int) lo hi).length:=by
 refine⟨(ns.drop (HT.sIx (ns.map V.int).length 0 lo)).take (HT.sIx (ns.map V.int).length (ns.map V.int).length hi-HT.sIx (ns.map V.int).length 0 lo),?_,?_⟩
 ·unfold fL;rw[List.map_take,List.map_drop]
 ·unfold fL;rw[aF,aF,cA,cA,ak]
theorem BE{K:Za}{vs:List V}{H:Hp}{Q:VK}{E:XK}(h:nU K vs H Q E):vy K (bx Q) (start wL vs) H:=by
 obtain⟨a,ns,rfl,hs,hn,k⟩:=h;obtain⟨c0,e0,l0⟩:=qW ns none (some 12);obtain⟨c1,e1,l1⟩:=qW ns (some 12) (some 63);have hlen:c1≠[]->c0.length=12:=by
  intro hne;have hc1:0<c1.length:=by cases c1 with|nil=>exact absurd rfl hne|cons _ _=>simp
  rw[l1]at hc1;rw[l0];unfold fL at hc1 ⊢;rw[aF,cA,ak]at hc1;rw[aF,cA,ak];have s1:HT.sIx ns.length 0 (some 12)=min 12 ns.length:=HT.sIx_nat _ _ 12;have s2:HT.sIx ns.length ns.length (some 12)=min 12 ns.length:=HT.sIx_nat _ _ 12;rw[HT.sIx_none,s2];rw[s1]at hc1;omega
 refine⟨_,rfl,_,rfl,a,_,rfl,hs,fun q hq=>.inl ⟨q,_,rfl,.inl (ay.of aa),fun c hc=>?_⟩⟩;rw[e0]at hc ⊢;have hcH:H c=none:=by
  have:c≠q:=fun z=>by subst z;rw[aa]at hc;cases hc
  rw[aj this]at hc;exact hc
 have hS:ac H (upd (upd H q (.lst (c0.map V.int))) c (.lst (c0.map V.int))):=(ac.new hq).trans (ac.new hc);refine⟨_,rfl,_,rfl,_,rfl,a,_,rfl,hS.seq hs,fun r hr=>⟨r,rfl,⟨_,ay.of aa⟩,?_⟩⟩;rw[e1];have hcr:c≠r:=ag aa hr
 let zI0:Nat->L2.St->Hp->Prop:=fun i σ H'=>Dl fun(ms:List Int) (x y:Option V)=>CL (σ=[some (.ref a),some (.ref c),x,y]) (H' c=some (.lst (ms.map V.int))) (ms.length=c0.length) (H' r=some (.lst (c1.map V.int))) (ac H H')
 refine gy (xs:=c1.map V.int) zI0
  ⟨c0,none,none,rfl,kp aa hr,rfl,aa,hS.trans (ac.new hr)⟩ (fun i σ H' _ zq=>by obtain⟨ms,x,y,_,_,_,h,_⟩:=zq;exact ay.of h) ?_ ?_
 ·rintro i x σ H' t hi ⟨ms,u,v,rfl,hcell,hml,hr',hS'⟩ ht;have hi':i<c1.length:=by
   have:=(bR.mp hi).1;rwa[ak]at this
  have h12:=hlen (fun z=>by rw[z]at hi';simp at hi');obtain⟨z,rfl⟩:∃z,x=V.int z:=by
   rw[ej,bC hi']at hi;exact⟨_,(dC hi).symm⟩
  have hcell1:upd H' t (.tup [.int i,.int z]) c=some (.lst (ms.map V.int)):=kp hcell ht;have hidx:(i:Int) % 12=((i % 12:Nat):Int):=by omega
  have hlt:i % 12<ms.length:=by omega
  refine⟨t,_,rfl,bc.of aa,rfl,_,_,rfl,_,_,rfl,rfl,?_⟩;have hat:u8 (ms.map V.int) ((i:Int) % 12)=some (.int ms[i % 12]):=by rw[hidx];exact aD (by simp[hlt])
  refine⟨_,rfl,_,rfl,_,_,rfl,rfl,(by show(0:Int)<12;decide),c,_,_,_,rfl,rfl,ay.of hcell1,hat,_,rfl,_,_,rfl,rfl,_,rfl,_,rfl,_,_,rfl,rfl,(by show(0:Int)<12;decide),c,_,_,i % 12,rfl,rfl,hcell1,?_,?_⟩
  ·rw[hidx];unfold zH;rw[if_pos (by omega),if_pos (by rw[ak];omega)];rw[mf]
  ·refine⟨ms.set (i % 12) (ms[i % 12]+z),_,_,rfl,?_,by rw[List.length_set];exact hml,?_,?_⟩
   ·rw[aa,List.map_set]
   ·rw[aj hcr.symm];exact kp hr' ht
   ·intro b o e;rw[aj (ag e hcH)];exact kp (hS' b o e) ht
 ·rintro σ H' ⟨ms,x,y,rfl,hcell,hml,hr',hS'⟩;refine⟨_,rfl,(by show 3<=ai;decide),fun p hp=>k p c _ (hS'.free hp) ⟨0,0,ms,aa,kp hcell hp,Int.le_refl _,Int.le_refl _⟩ (hS'.trans (ac.new hp))⟩
def sM(c:Nat):Prop:=97<=c/\c<=122
structure mS(w:Str):Prop where
 lo:1<=w.length
 hi:w.length<=8
 al:∀c∈w.cps.toList,sM c
theorem ye:∀n:Nat,n<26->(("abcdefghijklmnopqrstuvwxyz":Str).cps.toList)[n]?=some (97+n):=by decide +kernel
theorem yd:("abcdefghijklmnopqrstuvwxyz":Str).length<=ai:=by decide +kernel
theorem Be{r:Int}(h0:0<=r)(h1:r<26):u8 (("abcdefghijklmnopqrstuvwxyz":Str).cps.toList) r=some (97+r.toNat):=by
 obtain⟨n,rfl⟩:=j9 h0;rw[mf];exact aD (ye n (by omega))
theorem qo(cs:List Nat):∀acc:Array Nat,((cs.map fun c=>(⟨#[c]⟩:Str)).foldl (fun acc p=>acc++("":Str).cps++p.cps) acc).toList=acc.toList++cs:=by
 have e:("":Str).cps=#[]:=by decide +kernel
 induction cs with
 |nil=>intro acc;simp
 |cons c cs ih =>
  intro acc;rw[bM,List.foldl_cons,ih,e];simp
theorem wd(cs:List Nat):(rC "" (cs.map fun c=>(⟨#[c]⟩:Str))).cps.toList=cs:=by
 unfold rC cz.Str.glued;cases cs with
 |nil=>rfl
 |cons c cs =>
  rw[bM];show((cs.map fun c=>(⟨#[c]⟩:Str)).foldl (fun acc p=>acc++("":Str).cps++p.cps) #[c]).toList=_;rw[qo]
  rfl
theorem BA{a b:Str}(h:a.cps.toList=b.cps.toList):a=b:=by
 cases a with|mk x=>cases b with|mk y=>exact congrArg Str.mk (Array.toList_inj.mp h)
theorem dJ(a:Str):a.length=a.cps.toList.length:=by simp[Str.length]
theorem tE(a b:Str):(a++b).cps.toList=a.cps.toList++b.cps.toList:=by
 show(a.cps++b.cps).toList=_;simp
theorem A7(z:Str)(m:Nat):(pJ z none (some (m:Int))).cps.toList=z.cps.toList.take m:=by
 unfold pJ;rw[HT.sIx_none,HT.sIx_nat,oE,rA,dJ];show List.take _ _=_;rw[List.take_eq_take_iff];omega
theorem A8(z:Str)(m:Nat):(pJ z (some (m:Int)) none).cps.toList=z.cps.toList.drop m:=by
 unfold pJ;rw[HT.sIx_none,HT.sIx_nat,dJ];show List.take _ _=_;rw[ox (by rw[cA];omega)];by_cases h:m<=z.cps.toList.length
 ·rw[Nat.min_eq_left h]
 ·rw[Nat.min_eq_right (by omega),rp,l6 (by omega)]
def du(way size k:Nat):Nat:=(size+k * (way % 2)) % 8
def vi(way m:Nat):Nat:=if way=0 then 0 else if way=1 then m else m / 2
def j3(b:List Nat)(way turn size k:Nat):List Nat :=
 (b.take (du way size k)).take (vi way (du way size k))++[97+(turn+3 * k) % 26]++(b.take (du way size k)).drop (vi way (du way size k))
def t7(b:List Nat)(way turn size k:Nat):Str:=⟨(j3 b way turn size k).toArray⟩
theorem mj{b:List Nat}(hb:b.length=7)(way turn size k:Nat):(j3 b way turn size k).length=du way size k+1:=by
 have h8:du way size k<8:=ow _ (by decide);unfold j3;rw[aH,aH,aF,cA,aF,hb];have:vi way (du way size k)<=du way size k:=by unfold vi;split;omega;split;omega;omega
 simp;omega
theorem Br{b:List Nat}(hb:b.length=7)(hl:∀c∈b,sM c)(way turn size k:Nat):mS (t7 b way turn size k):=by
 have h8:du way size k<8:=ow _ (by decide);have hlen:=mj hb way turn size k;have e:(t7 b way turn size k).cps.toList=j3 b way turn size k:=by simp[t7]
 refine⟨?_,?_,?_⟩
 ·rw[dJ,e];omega
 ·rw[dJ,e];omega
 ·rw[e];intro c hc;unfold j3 at hc;rcases bq.mp hc with hc|hc
  ·rcases bq.mp hc with hc|hc
   ·exact hl c (h9 (h9 hc))
   ·have:c=97+(turn+3 * k) % 26:=by simpa using hc
    subst this;have:(turn+3 * k) % 26<26:=ow _ (by decide);exact⟨by omega,by omega⟩
  ·exact hl c (h9 (ou hc))
theorem zO{b:List Nat}(hb:b.length=7){way turn size:Nat}(hw:way<3){j k:Nat}(hj:j<26)(hk:k<26)(h:t7 b way turn size j=t7 b way turn size k):j=k:=by
 have h8:∀i,du way size i<8:=fun i=>ow _ (by decide);have e:j3 b way turn size j=j3 b way turn size k:=by
  have:=congrArg (fun s=>Str.cps s |>.toList) h;simpa[t7]using this
 have el:du way size j=du way size k:=by
  have:=congrArg List.length e;rw[mj hb,mj hb]at this;omega
 have key:97+(turn+3 * j) % 26=97+(turn+3 * k) % 26:=by
  have hat:∀i,vi way (du way size i)<=du way size i:=fun i=>by unfold vi;split;omega;split;omega;omega
  have get:∀i,(j3 b way turn size i)[vi way (du way size i)]?=some (97+(turn+3 * i) % 26):=by
   intro i;unfold j3;have hl:((b.take (du way size i)).take (vi way (du way size i))).length=vi way (du way size i):=by
    rw[aF,aF,hb];have:=h8 i;have:=hat i;omega
   rw[cH,oN (by omega),hl,Nat.sub_self]
   rfl
  have g1:=get j;have g2:=get k;rw[e,el]at g1;rw[g1]at g2;exact dC g2
 omega
def jL(ws:Zb):Prop:=ws.Nodup/\∀w∈ws,mS w
def iD(b:List Nat)(way turn size n:Nat):List Str:=(kS n).map (t7 b way turn size)
theorem vo{b:List Nat}(hb:b.length=7)(hl:∀c∈b,sM c){way turn size n:Nat}(hw:way<3)(hn:n<=26):jL (iD b way turn size n):=by
 refine⟨?_,fun w hm=>?_⟩
 ·unfold iD;rw[List.nodup_iff_pairwise_ne,List.pairwise_map];refine(List.nodup_range (n:=n)).imp_of_mem ?_;intro j k hj hk hne h;exact hne (zO hb hw (by have:=List.mem_range.mp hj;omega) (by have:=List.mem_range.mp hk;omega) h)
 ·obtain⟨k,_,rfl⟩:=bG.mp hm;exact Br hb hl _ _ _ _
inductive lb (vs:List V)(H:Hp)(Q:VK)(E:XK):Prop
 |mk (p c:Addr) (n:Nat):(vs=[.ref p,.int n])->(d_ H p c)->(n<=26)->(∀(l:Addr) (ws:Zb) (H':Hp),jL ws->ws.length=n->H l=none->H' l=some (.lst (ws.map V.str))->d_ H' p c->b0 p H H'->Q (.ref l) H')->lb  vs H Q E
theorem Ac{K:Za}{vs:List V}{H:Hp}{Q:VK}{E:XK}(h:lb vs H Q E):uf K da (bx Q) (start ve vs) H:=by
 obtain⟨p,c,n,rfl,hp,hn,k⟩:=h;refine⟨rfl,7,rfl,by decide,by decide,fun l hl=>?_⟩
 let zI0:Nat->List V->Hp->Prop:=fun i vs H'=>∃cs:List Nat,vs=cs.map (fun c=>V.str ⟨#[c]⟩)/\cs.length=i/\(∀c∈cs,sM c)/\d_ H' p c/\b0 p H H'/\H' l=some (.lst vs)
 refine pK (lo:=0) (n:=Int.toNat 7) zI0
  ⟨[],rfl,rfl,(fun _ h=>nomatch h),hp.ex (ac.new hl),b0.new hl,aa⟩ (fun i vs H' _ zq=>by obtain⟨_,_,_,_,_,_,h⟩:=zq;exact h) ?_ ?_
 rotate_left
 ·rintro i vs H' hi ⟨cs,rfl,hlen,hlet,hp',hex,hl'⟩;have hlp:=hp.nep hl;have hlc:=hp.nec hl;refine gN (kY ?_);refine⟨_,rfl,_,rfl,eU hp' (by decide) (by decide) fun r H2 h0 h1 hp2 hex2=>⟨_,r,_,rfl,rfl,yd,Be h0 h1,?_⟩⟩;have hl2:=hex2 l _ hl' hlp.symm;refine⟨hl2,by rw[ak,hlen];exact ao (by omega),n0 hi ⟨cs++[97+r.toNat],by rw[aG];rfl,by rw[aH,hlen];rfl,?_,hp2.upd hlp hlc,?_,aa⟩⟩
  ·intro x hc;rcases bq.mp hc with hc|hc
   ·exact hlet x hc
   ·have:x=97+r.toNat:=by simpa using hc
    subst this;exact⟨by omega,by omega⟩
  ·intro b o' e nb;rw[aj (ag e hl)];exact hex2 b o' (hex b o' e nb) nb
 ·rintro vs H1 ⟨cs,rfl,hlen,hlet,hp1,hex1,hl1⟩;refine⟨"",l,cs.map fun c=>(⟨#[c]⟩:Str),rfl,rfl,ay.of (by rw[hl1,lW];rfl),?_,?_⟩
  ·have e0:("":Str).length=0:=by decide +kernel
   rw[e0,Nat.mul_zero,lW];have:∀cs:List Nat,(cs.map ((fun x=>Str.length x) ∘ fun c=>(⟨#[c]⟩:Str))).sum=cs.length:=by
    intro cs
    induction cs with
    |nil=>rfl
    |cons c cs ih=>rw[bM,List.sum_cons,ih,cW];show 1+_=_;omega
   rw[this,hlen];decide
  refine⟨_,rfl,eU hp1 (by decide) (by decide) fun way H2 w0 w1 hp2 hex2=>?_⟩;refine⟨_,rfl,eU hp2 (by decide) (by decide) fun turn H3 t0 t1 hp3 hex3=>?_⟩;refine⟨_,rfl,eU hp3 (by decide) (by decide) fun size H4 s0 s1 hp4 hex4=>?_⟩;have ex4:b0 p H H4:=((hex1.trans hex2).trans hex3).trans hex4;obtain⟨wy,rfl⟩:=j9 w0;obtain⟨tn,rfl⟩:=j9 t0;obtain⟨sz,rfl⟩:=j9 s0;have hb:=wd cs;generalize rC "" (cs.map fun c=>(⟨#[c]⟩:Str))=base at hb ⊢;refine⟨(by show 0<=ai;decide),fun f hf=>?_⟩;obtain⟨op,hop⟩:=hp4.pen;have hfH:H f=none:=ex4.free hop hf;have hfp:=hp.nep hfH;have hfc:=hp.nec hfH;refine⟨_,rfl,n,rfl,by omega,by omega,jG (lo:=0) (n:=((n:Int)).toNat) (fun i σ H'=>∃(a b c' d:Option V),σ=[some (.ref p),some (.int n),some (.str "abcdefghijklmnopqrstuvwxyz"),some (.str base),some (.int wy),some (.int tn),some (.int sz),some (.ref f),a,b,c',d] /\
   d_ H' p c/\b0 p H H'/\H' f=some (.lst ((iD cs wy tn sz i).map V.str)))
   ⟨_,_,_,_,rfl,hp4.upd hfp hfc,ex4.trans (b0.new hf),aa⟩ ?_ ?_⟩
  ·rintro i σ H' hi ⟨a,b,c',d,rfl,hp',hex',hf'⟩;have hi':i<n:=by omega
   have hwy:wy<3:=by omega
   have e26:((tn:Int)+3 * (0+(i:Int))) % 26=(((tn+3 * i) % 26:Nat):Int):=by omega
   refine⟨_,rfl,_,rfl,_,rfl,_,_,rfl,rfl,.inl ⟨by decide,by decide⟩,_,_,rfl,rfl,_,_,rfl,rfl,(by show(0:Int)<26;decide),_,_,_,rfl,rfl,yd,Be (lY _ (by decide)) (lX _ (by decide)),?_⟩;have blen:base.length<=ai:=by rw[dJ,hb,hlen];decide
   have e8:((sz:Int)+(0+(i:Int)) * ((wy:Int) % 2)) % 8=((du wy sz i:Nat):Int):=by
    unfold du;have:wy=0∨wy=1∨wy=2:=by omega
    rcases this with rfl|rfl|rfl<;>simp<;>omega
   refine⟨_,rfl,_,rfl,_,rfl,_,rfl,_,_,rfl,rfl,(by show(0:Int)<2;decide),_,_,rfl,rfl,.inr ⟨by omega,by omega⟩,_,_,rfl,rfl,_,_,rfl,rfl,(by show(0:Int)<8;decide),_,rfl,base,rfl,blen,?_⟩;rw[e8];have hpart:=A7 base (du wy sz i);rw[hb]at hpart;generalize pJ base none (some ((du wy sz i:Nat):Int))=part at hpart ⊢;have h8:du wy sz i<8:=ow _ (by decide);have plen:part.length=du wy sz i:=by rw[dJ,hpart,aF,hlen];omega
   have pz:part.length<=ai:=by rw[plen];exact cp (ao (by omega))
   refine⟨_,rfl,.inr ⟨part,rfl,pz,_,rfl,.inr ⟨part,rfl,pz,_,_,rfl,rfl,⟨by decide,by decide⟩,(by show 3<=ai;decide),fun q hq=>?_⟩⟩⟩;have hqH:H q=none:=by
    obtain⟨op',hop'⟩:=hp'.pen;exact hex'.free hop' hq
   have hat:u8 [V.int 0,V.int (part.length:Nat),V.int ((part.length:Int) / 2)] (wy:Int)=some (.int (vi wy (du wy sz i):Nat)):=by
    rw[plen];have:wy=0∨wy=1∨wy=2:=by omega
    rcases this with rfl|rfl|rfl
    ·rfl
    ·rfl
    ·show some (V.int (((du 2 sz i:Nat):Int) / 2))=some (V.int ((vi 2 (du 2 sz i):Nat):Int));have:vi 2 (du 2 sz i)=du 2 sz i / 2:=rfl;rw[this];congr 2
   refine⟨_,rfl,q,_,_,_,rfl,rfl,ay.of aa,hat,?_⟩;have hf2:upd H' q (.lst [V.int 0,V.int (part.length:Nat),V.int ((part.length:Int) / 2)]) f=some (.lst ((iD cs wy tn sz i).map V.str)):=kp hf' hq;have c1:=A7 part (vi wy (du wy sz i));have c2:=A8 part (vi wy (du wy sz i));have l1:(pJ part none (some ((vi wy (du wy sz i):Nat):Int))).length<=8:=by rw[dJ,c1,aF,hpart,aF,hlen];omega
   have l2:(pJ part (some ((vi wy (du wy sz i):Nat):Int)) none).length<=8:=by rw[dJ,c2,cA,hpart,aF,hlen];omega
   refine⟨_,rfl,.inl ⟨rfl,_,ay.of hf2⟩,_,rfl,_,rfl,_,rfl,part,rfl,pz,_,rfl,_,_,rfl,rfl,?_,_,rfl,_,rfl,_,rfl,part,rfl,pz,_,_,rfl,rfl,?_,f,_,_,rfl,rfl,hf2,?_,?_⟩
   ·have:Str.length ⟨#[97+(((tn:Int)+3 * (0+(i:Int))) % 26).toNat]⟩=1:=rfl;rw[this];exact cp (ao (by omega))
   ·rw[dJ,tE,aH,<-dJ,<-dJ];have:Str.length ⟨#[97+(((tn:Int)+3 * (0+(i:Int))) % 26).toNat]⟩=1:=rfl;rw[this];exact cp (ao (by omega))
   ·rw[ak];unfold iD;rw[ak,List.length_range];exact ao (by omega)
   ·refine⟨_,_,_,_,rfl,(hp'.upd (hp.nep hqH) (hp.nec hqH)).upd hfp hfc,?_,?_⟩
    ·intro b' o' e nb;rw[aj (ag e hfH)];exact kp (hex' b' o' e nb) hq
    ·rw[aa];unfold iD;rw[List.range_succ,aG,aG];congr 3;show[V.str _]=[V.str _];congr 2;refine BA ?_;rw[tE,tE,c1,c2,hpart,e26,mf];simp[t7,j3]
  ·rintro σ H' ⟨a,b,c',d,rfl,hp',hex',hf'⟩;have en:((n:Int)).toNat=n:=by omega
   rw[en]at hf';exact⟨_,rfl,k f _ H' (vo hlen hlet (by omega) hn) (by unfold iD;rw[ak,List.length_range]) hfH hf' hp' hex'⟩
structure aB where
 a:Str
 sg:List Str
 b:Str
deriving DecidableEq
def SignAt(H:Hp)(s:Addr)(sg:Zb):Prop:=H s=some (.tup (sg.map V.str))
def gG(H:Hp)(t:Addr)(d:aB):Prop:=∃s,H t=some (.tup [.str d.a,.ref s,.str d.b])/\SignAt H s d.sg
def gE(H H':Hp):Prop:=∀b xs,H b=some (.tup xs)->H' b=some (.tup xs)
theorem gG.kt{H H':Hp}{t:Addr}{d:aB}(k:gE H H')(h:gG H t d):gG H' t d:=by
 obtain⟨s,h1,h2⟩:=h;exact⟨s,k _ _ h1,k _ _ h2⟩
theorem b0.kt{p:Addr}{H H':Hp}{xs:List V}(e:b0 p H H')(hp:H p=some (.lst xs)):gE H H':=fun b ys h=>e b _ h (fun z=>by rw[z,hp]at h;cases h)
theorem ac.kt{H H':Hp}(e:ac H H'):gE H H':=fun b ys h=>e b _ h
theorem gE.trans{H H1 H2:Hp}(a:gE H H1)(b:gE H1 H2):gE H H2:=fun x xs h=>b x xs (a x xs h)
theorem eE{H:Hp}{l:Addr}{xs:List V}{o:HO}(h:H l=some (.lst xs)):gE H (upd H l o):=fun b ys e=>by
 rw[aj (fun z=>by rw[z,h]at e;cases e)];exact e
abbrev c_(H:Hp)(ts:Ze)(ds:List aB):Prop:=Paired (gG H) ts ds
theorem Paired.get{α β:Type}{R:α->β->Prop}{xs:List α}{ys:List β}{i:Nat}{y:β}(g:Paired R xs ys)(h:ys[i]?=some y):∃x,xs[i]?=some x/\R x y:=by
 induction g generalizing i with
 |nil=>cases h
 |cons r _ ih =>
  cases i with
  |zero=>injection h with h;subst h;exact⟨_,rfl,r⟩
  |succ i=>exact ih h
theorem Paired.getL{α β:Type}{R:α->β->Prop}{xs:List α}{ys:List β}{i:Nat}{x:α}(g:Paired R xs ys)(h:xs[i]?=some x):∃y,ys[i]?=some y/\R x y:=by
 induction g generalizing i with
 |nil=>cases h
 |cons r _ ih =>
  cases i with
  |zero=>injection h with h;subst h;exact⟨_,rfl,r⟩
  |succ i=>exact ih h
theorem c_.kt{H H':Hp}{ts:Ze}{ds:List aB}(k:gE H H')(h:c_ H ts ds):c_ H' ts ds:=Paired.mapP h fun _ _ r=>r.kt k
theorem CN{H:Hp}{a:Addr}{o:HO}(h:H a=some o):upd H a o=H:=by
 funext b;by_cases e:b=a
 ·subst e;rw[aa,h]
 ·rw[aj e]
def dv(x:Str):DT:=.k (.inr x)
def zc(d:aB):DT:=.t [dv d.a,.t (d.sg.map dv),dv d.b]
theorem lm{x y:Str}(h:dv x=dv y):x=y:=by
 unfold dv at h;injection h with h;injection h
theorem g9:∀{x y:Zb},x.map dv=y.map dv->x=y
 |[],[],_=>rfl
 |[],_::_,h=>by cases h
 |_::_,[],h=>by cases h
 |a::x,b::y,h=>by
  rw[bM,bM]at h;injection h with h1 h2;rw[lm h1,g9 h2]
theorem Ca{x y:aB}(h:zc x=zc y):x=y:=by
 unfold zc at h;injection h with h;injection h with h1 h;injection h with h2 h;injection h with h3 h;injection h2 with h2;cases x;cases y;simp only at *;rw[lm h1,g9 h2,lm h3]
theorem gA(xs:Zb):DT.depths (xs.map dv)=0:=by
 induction xs with
 |nil=>rfl
 |cons x xs ih=>rw[bM];show max (DT.depth (dv x)) (DT.depths _)=0;rw[ih];rfl
theorem xV(d:aB):(zc d).depth=2:=by
 show DT.depths [dv d.a,.t (d.sg.map dv),dv d.b]+1=2;show max (DT.depth (dv d.a)) (max (DT.depths (d.sg.map dv)+1) (max (DT.depth (dv d.b)) 0))+1=2;rw[gA]
 rfl
theorem y9(ds:List aB):DT.depths (ds.map zc)<=8:=by
 induction ds with
 |nil=>exact bN _
 |cons x xs ih=>rw[bM];show max (DT.depth (zc x)) (DT.depths _)<=8;rw[xV];omega
theorem kG{K:Za}{H:Hp}:∀xs:List Str,DIns K H (xs.map dv) (xs.map V.str)
 |[]=>by show DIns K H [] [];unfold DIns;rfl
 |x::xs=>by
  rw[bM,bM];unfold DIns;refine⟨_,_,rfl,?_,kG xs⟩;unfold dv f8
  rfl
theorem nu{K:Za}{H:Hp}(x:Str):f8 K H (dv x) (.str x):=by unfold dv f8;rfl
theorem bI{K:Za}{H:Hp}{s:Addr}{sg:Zb}(h:bc K H s (sg.map V.str)):f8 K H (.t (sg.map dv)) (.ref s):=by
 unfold f8;exact⟨s,_,rfl,h,kG _⟩
theorem gG.dIn{K:Za}{H:Hp}{t:Addr}{d:aB}(h:gG H t d):f8 K H (zc d) (.ref t):=by
 obtain⟨s,h1,h2⟩:=h;unfold zc;unfold f8;refine⟨t,_,rfl,bc.of h1,?_⟩;unfold DIns;refine⟨_,_,rfl,nu _,?_⟩;unfold DIns;refine⟨_,_,rfl,bI (bc.of h2),?_⟩;unfold DIns;refine⟨_,_,rfl,nu _,?_⟩;unfold DIns
 rfl
theorem c_.dIns{K:Za}{H:Hp}{ts:Ze}{ds:List aB}(h:c_ H ts ds):DIns K H (ds.map zc) (ts.map V.ref):=by
 induction h with
 |nil=>show DIns K H [] [];unfold DIns;rfl
 |cons r _ ih =>
  rw[bM,bM];unfold DIns;exact⟨_,_,rfl,r.dIn,ih⟩
theorem xI{d:aB}{ds:List aB}:zc d∈ds.map zc↔d∈ds:=by
 constructor
 ·intro h;obtain⟨x,hx,e⟩:=bG.mp h;rw[<-Ca e];exact hx
 ·exact lV
def vU(ds:List aB)(d:aB):List aB:=if d∈ds then ds else ds++[d]
inductive o9 (vs:List V)(H:Hp)(Q:VK)(E:XK):Prop
 |mk (l t:Addr) (ts:Ze) (ds:List aB) (d:aB):(vs=[.ref l,.ref t])->(H l=some (.lst (ts.map V.ref)))->(c_ H ts ds)->(gG H t d)->(ds.length<=1000)->(∀ts':List Addr,c_ H ts' (vU ds d)->Q .non (upd H l (.lst (ts'.map V.ref))))->o9  vs H Q E
theorem CS{K:Za}{vs:List V}{H:Hp}{Q:VK}{E:XK}(h:o9 vs H Q E):yr K (bx Q) (start zB vs) H:=by
 obtain⟨l,t,ts,ds,d,rfl,hl,hd,ht,hz,k⟩:=h;refine⟨_,rfl,_,rfl,zc d,ds.map zc,l,_,ht.dIn,rfl,.inl (ay.of hl),hd.dIns,by rw[xV];decide,y9 ds,_,rfl,?_⟩;by_cases hm:d∈ds
 ·rw[if_pos rfl,zzr1 (xI.mpr hm)];refine aT ?_;have:=k ts (by unfold vU;rw[if_pos hm];exact hd);rw[CN hl]at this;exact this
 ·rw[if_pos rfl,zzr0 (fun z=>hm (xI.mp z))];refine bh ?_;refine⟨_,rfl,.inl ⟨rfl,_,ay.of hl⟩,_,rfl,l,_,_,rfl,rfl,hl,?_,?_⟩
  ·rw[ak,Paired.length hd];exact ao hz
  ·have:=k (ts++[t]) (by unfold vU;rw[if_neg hm];exact cf hd ht);rw[aG]at this;exact this
structure DI(R:aB->Prop)(H0:Hp)(p c l:Addr)(m:Nat)(H:Hp):Prop where
 pen:d_ H p c
 ds:∃ts ds,H l=some (.lst (ts.map V.ref))/\c_ H ts ds/\ds.Nodup/\(∀d∈ds,R d)/\ds.length<=m
 ex:b0 p H0 H
 fr:H0 l=none
 pl:p≠l
 cl:c≠l
section
variable{R:aB->Prop}{H0 H H':Hp}{p c l:Addr}{m:Nat}
theorem d_.lst{H:Hp}{p c:Addr}(h:d_ H p c):∃xs,H p=some (.lst xs):=by
 obtain⟨a,r,ns,h1,_⟩:=h;exact⟨_,h1⟩
theorem DI.took(h:DI R H0 p c l m H)(hp:d_ H' p c)(e:b0 p H H'):DI R H0 p c l m H':=by
 obtain⟨ts,ds,h1,h2,h3⟩:=h.ds;obtain⟨xs,hx⟩:=h.pen.lst;exact⟨hp,⟨ts,ds,e _ _ h1 h.pl.symm,h2.kt (e.kt hx),h3⟩,h.ex.trans e,h.fr,h.pl,h.cl⟩
theorem DI.new(h:DI R H0 p c l m H){q:Addr}{o:HO}(hq:H q=none):DI R H0 p c l m (upd H q o) :=
 h.took (h.pen.ex (ac.new hq)) (b0.new hq)
theorem DI.up(h:DI R H0 p c l m H){n:Nat}(hn:m<=n):DI R H0 p c l n H:=by
 obtain⟨ts,ds,h1,h2,h3,h4,h5⟩:=h.ds;exact⟨h.pen,⟨ts,ds,h1,h2,h3,h4,aW h5 hn⟩,h.ex,h.fr,h.pl,h.cl⟩
theorem DI.put(h:DI R H0 p c l m H){t:Addr}{d:aB}{Q:VK}{E:XK}(ht:gG H t d)(hR:R d)(hm:m<=1000)(k:∀H',DI R H0 p c l (m+1) H'->Q .non H'):o9 [.ref l,.ref t] H Q E:=by
 obtain⟨ts,ds,h1,h2,h3,h4,h5⟩:=h.ds;refine⟨l,t,ts,ds,d,rfl,h1,h2,ht,aW h5 hm,fun ts' h'=>k _ ⟨h.pen.upd h.pl h.cl,⟨ts',vU ds d,aa,h'.kt (eE h1),?_,?_,?_⟩,?_,h.fr,h.pl,h.cl⟩⟩
 ·unfold vU;split
  ·exact h3
  ·next hn =>
   rw[eh];refine⟨h3,by simp,?_⟩;intro a ha b hb e;have:b=d:=by simpa using hb
   subst this;exact hn (e▸ha)
 ·intro x hx;unfold vU at hx;split at hx
  ·exact h4 x hx
  ·rcases bq.mp hx with hx|hx
   ·exact h4 x hx
   ·have:x=d:=by simpa using hx
    rw[this];exact hR
 ·unfold vU;split
  ·omega
  ·rw[aH];show ds.length+1<=m+1;omega
 ·intro b o e n;rw[aj (ag e h.fr)];exact h.ex b o e n
end
theorem d_.ne_strs{H:Hp}{p c a:Addr}{ws:Zb}(hp:d_ H p c)(ha:H a=some (.lst (ws.map V.str))):a≠p:=by
 intro e;obtain⟨x,y,ns,h1,_⟩:=hp;rw[e,h1]at ha;injection ha with ha;injection ha with ha;cases ws with
 |nil=>cases ha
 |cons w ws=>injection ha with ha;cases ha
theorem nZ{K:Za}{r:R2}(hr:∀x y H Q,cu K x y H Q->r x y H Q){σ:L2.St}{H:Hp}{Q:VK}{p c a:Addr}{j:Nat}{ws:Zb}(h0:σ[0]?=some (some (.ref p)))(hj:σ[j]?=some (some (.ref a)))(hp:d_ H p c)
  (ha:H a=some (.lst (ws.map V.str))) (hne:ws≠[]) (hlen:ws.length<=1000) (k:∀w∈ws,∀H',d_ H' p c->b0 p H H'->Q (.str w) H') :
  ∃v,σ[j]?=some (some v)/\∃v0,σ[0]?=some (some v0)/\∃v1,σ[j]?=some (some v1)/\d9 K [v1] H fun y H1=>da [v0,y] H1 (fun y H2=>r v y H2 Q) E0:=by
 have hl:0<ws.length:=by cases ws with|nil=>exact absurd rfl hne|cons _ _=>simp
 have la:(V.int ((ws.map V.str).length:Nat))=V.int (ws.length:Nat):=by rw[ak]
 have hpa:=hp.ne_strs ha;have fin:∀(x:Int) (H':Hp),0<=x->x<(ws.length:Int)->d_ H' p c->b0 p H H'->cu K (.ref a) (.int x) H' Q:=by
  intro x H' x0 x1 hp' ex;obtain⟨n,rfl⟩:=j9 x0;have hn:n<ws.length:=by omega
  exact⟨a,_,(n:Int),.str ws[n],rfl,rfl,ay.of (ex _ _ ha hpa),aD (by simp[hn]),k _ (List.getElem_mem hn) H' hp' ex⟩
 exact⟨_,hj,_,h0,_,hj,.inl ⟨a,_,rfl,.inl (ay.of ha),by rw[la];exact eU hp (by omega) (by omega) fun x H' x0 x1 hp' ex=>hr _ _ _ _ (fin x H' x0 x1 hp' ex)⟩⟩
def Up(up:Bool)(J4:Zb)(a b:Str):Prop:=∃i j:Nat,J4[i]?=some a/\J4[j]?=some b/\(if up=true then i<j else j<i)
structure jo(J0 J2 J4:Zb)(up:Bool)(d:aB):Prop where
 a:d.a∈J4
 b:d.b∈J4
 sg:(∃w∈J0,d.sg=[("ask":Str),w])∨(∃w∈J2,d.sg=[("say":Str),w])∨(d.sg=[("still":Str)]/\Up up J4 d.a d.b)
def aY:List Str:=[("still":Str)]
structure yi(J0 J2 J4:Zb)(d:aB):Prop where
 a:d.a∈J4
 b:d.b∈J4
 sg:(∃w∈J0,d.sg=[("ask":Str),w])∨(∃w∈J2,d.sg=[("say":Str),w])∨d.sg=aY
theorem jo.d{J0 J2 J4:Zb}{up:Bool}{d:aB}(h:jo J0 J2 J4 up d):yi J0 J2 J4 d:=⟨h.a,h.b,h.sg.imp id (Or.imp id And.left)⟩
inductive Reach(ds:List aB)(a:Str):Str->Prop
 |one {b:Str}(h:(⟨a,aY,b⟩:aB)∈ds):Reach ds a b
 |step {b c:Str}(r:Reach ds a b) (h:(⟨b,aY,c⟩:aB)∈ds):Reach ds a c
theorem xR{J4:Zb}(nd:J4.Nodup){i j:Nat}{a:Str}(hi:J4[i]?=some a)(hj:J4[j]?=some a):i=j:=by
 obtain⟨h1,e1⟩:=bR.mp hi;obtain⟨h2,e2⟩:=bR.mp hj;have pw:=List.pairwise_iff_getElem.mp nd;rcases Nat.lt_trichotomy i j with h|h|h
 ·exact absurd (e1.trans e2.symm) (pw i j h1 h2 h)
 ·exact h
 ·exact absurd (e2.trans e1.symm) (pw j i h2 h1 h)
theorem Up.trans{up:Bool}{J4:Zb}(nd:J4.Nodup){a b c:Str}(h1:Up up J4 a b)(h2:Up up J4 b c):Up up J4 a c:=by
 obtain⟨i,j,e1,e2,h⟩:=h1;obtain⟨j',k,e3,e4,h'⟩:=h2;have:=xR nd e2 e3;subst this;refine⟨i,k,e1,e4,?_⟩;cases up
 ·simp at h h' ⊢;omega
 ·simp at h h' ⊢;omega
theorem Up.irr{up:Bool}{J4:Zb}(nd:J4.Nodup){a:Str}(h:Up up J4 a a):False:=by
 obtain⟨i,j,e1,e2,h⟩:=h;have:=xR nd e1 e2;subst this;cases up
 ·simp at h
 ·simp at h
theorem zR{J0 J2 J4:Zb}{ds:List aB}{up:Bool}(nd:J4.Nodup)(m:∀d∈ds,jo J0 J2 J4 up d){a b:Str}(h:Reach ds a b):Up up J4 a b:=by
 have edge:∀{a b:Str},(⟨a,aY,b⟩:aB)∈ds->Up up J4 a b:=by
  intro a b h;rcases(m _ h).sg with⟨w,_,e⟩|⟨w,_,e⟩|⟨_,e⟩
  ·cases e
  ·cases e
  ·exact e
 induction h with
 |one h=>exact edge h
 |step r h ih=>exact ih.trans nd (edge h)
inductive fh (vs:List V)(H:Hp)(Q:VK)(E:XK):Prop
 |mk (p c l1 l2 l3:Addr) (J0 J2 J4:Zb) (full:Int):(vs=[.ref p,.ref l1,.ref l2,.ref l3,.int full])->(d_ H p c)->(H l1=some (.lst (J0.map V.str)))->(H l2=some (.lst (J2.map V.str)))->(H l3=some (.lst (J4.map V.str)))->(J0.length<=4)->(J2≠[])->(J2.length<=4)->(J4≠[])->(J4.length<=26)->(0<=full)->(full<=2)->(∀(l:Addr) (ts:Ze) (ds:List aB) (up:Bool) (H':Hp),H l=none->H' l=some (.lst (ts.map V.ref))->c_ H' ts ds->ds.Nodup->(∀d∈ds,jo J0 J2 J4 up d)->ds.length<=600->d_ H' p c->b0 p H H'->Q (.ref l) H')->fh  vs H Q E
theorem at4{x r:Int}(x0:0<=x)(x2:x<=2)(r0:0<=r)(r4:r<4):∃j:Int,u8 [V.int x,.int 1,.int 1,.int 2] r=some (.int j)/\0<=j/\j<=2:=by
 have:r=0∨r=1∨r=2∨r=3:=by omega
 rcases this with rfl|rfl|rfl|rfl
 ·exact⟨x,rfl,x0,x2⟩
 ·exact⟨1,rfl,by decide,by decide⟩
 ·exact⟨1,rfl,by decide,by decide⟩
 ·exact⟨2,rfl,by decide,by decide⟩
theorem ze(ws:Zb)(k:Nat):fL (ws.map V.str) (some (k:Int)) none=(ws.drop k).map V.str:=by
 unfold fL;rw[HT.sIx_none,HT.sIx_nat,ak,ox (by rw[cA,ak];omega),List.map_drop];by_cases h:k<=ws.length
 ·rw[Nat.min_eq_left h]
 ·rw[Nat.min_eq_right (by omega),l6 (by simp),l6 (by rw[ak];omega)]
theorem tm(ws:Zb)(k:Nat):fL (ws.map V.str) none (some (k:Int))=(ws.take k).map V.str:=by
 unfold fL;rw[HT.sIx_none,HT.sIx_nat,ak,oE,rA,List.map_take,List.take_eq_take_iff,ak];omega
theorem A6{K:Za}{H:Hp}{a:Addr}{ws:Zb}(h:ay K H a (ws.map V.str)):f8 K H (.s (ws.map dv)) (.ref a):=by
 unfold f8;exact⟨a,_,rfl,h,kG _⟩
theorem x9{K:Za}{H:Hp}{a:Addr}(h:ay K H a []):f8 K H (.s []) (.ref a):=by
 unfold f8;refine⟨a,_,rfl,h,?_⟩;unfold DIns
 rfl
inductive DdI(G:aB->Prop)(H:Hp)(p c l l1 l2 l3:Addr)(full dn:Int)(i:Nat)(σ:L2.St)(H':Hp):Prop
 |mk (a7 a8 a9 a10 a11 a12:Option V):σ=[some (.ref p),some (.ref l1),some (.ref l2),some (.ref l3),some (.int full),some (.ref l),some (.int dn),a7,a8,a9,a10,a11,a12]->DI G H p c l (11 * i) H'->DdI G H p c l l1 l2 l3 full dn i σ H'
theorem qj{K:Za}{vs:List V}{H:Hp}{Q:VK}{E:XK}(h:fh vs H Q E):mn K da o9 (bx Q) (start mP vs) H:=by
 obtain⟨p,c,l1,l2,l3,J0,J2,J4,full,rfl,hp,h1,h2,h3,ha,hs0,hs,hr0,hr,f0,f2,k⟩:=h;have n1:=hp.ne_strs h1;have n2:=hp.ne_strs h2;have n3:=hp.ne_strs h3;refine⟨(by show 0<=ai;decide),fun l hl=>?_⟩;have hpl:=hp.nep hl;have hcl:=hp.nec hl;refine⟨_,rfl,eU (hp.ex (ac.new hl)) (by decide) (by decide) fun dn H1 d0 d1 hp1 ex1=>?_⟩;generalize hG:jo J0 J2 J4 (decide (dn=0))=G;have base:DI G H p c l 0 H1:=⟨hp1,⟨[],[],ex1 _ _ aa hpl.symm,.nil,rN,by simp,bN _⟩,(b0.new hl).trans ex1,hl,hpl,hcl⟩;refine⟨_,rfl,l3,rfl,⟨_,ay.of (base.ex _ _ h3 n3)⟩,?_⟩;refine gy (xs:=J4.map V.str) (DdI G H p c l l1 l2 l3 full dn)
  ⟨_,_,_,_,_,_,rfl,base⟩ (fun i σ H' _ zq=>by obtain⟨_,_,_,_,_,_,_,D⟩:=zq;exact ay.of (D.ex _ _ h3 n3)) ?_ ?_
 ·rintro i x σ H' t hi ⟨a7,a8,a9,a10,a11,a12,rfl,D⟩ ht;obtain⟨room,hroom,rfl⟩:∃room,J4[i]?=some room/\x=V.str room:=by
   rw[ej]at hi;cases q:J4[i]? with
   |none=>rw[q]at hi;cases hi
   |some r=>rw[q]at hi;exact⟨r,rfl,(dC hi).symm⟩
  have hiL:i<J4.length:=(bR.mp hroom).1;have hmem:room∈J4:=cg hroom;refine⟨t,_,rfl,bc.of aa,rfl,_,_,rfl,_,_,rfl,rfl,?_⟩;have D1:=D.new ht (o:=.tup [.int i,.str room]);refine⟨(by show 4<=ai;decide),fun q hq=>⟨_,rfl,eU (D1.new hq).pen (by decide) (by decide) fun r H2 r0 r1 hp2 ex2=>?_⟩⟩;obtain⟨j,hj,j0,j2⟩:=at4 (x:=0) (by decide) (by decide) r0 r1;have D2:=(D1.new hq).took hp2 ex2;refine⟨q,_,_,_,rfl,rfl,ay.of (ex2 q _ aa (D1.pen.nep hq).symm),hj,j,rfl,by omega,by omega,?_⟩
  let zI0:Nat->L2.St->Hp->Prop:=fun i' σ H''=>Dm fun(a9 a10:Option V)=>σ=[some (.ref p),some (.ref l1),some (.ref l2),some (.ref l3),some (.int full),some (.ref l),some (.int dn),some (.int i),some (.str room),a9,a10,a11,a12]/\DI G H p c l (11 * i+i') H''
  refine jG (lo:=0) (n:=j.toNat) zI0
   ⟨_,_,rfl,D2⟩ ?_ ?_
  ·rintro i' σ H3 hi' ⟨a9,a10,rfl,D3⟩;refine nZ (fun _ _ _ _ h=>h) rfl rfl D3.pen (D3.ex _ _ h2 n2) hs0 (by omega) fun w hw H4 hp4 ex4=>?_;have D4:=D3.took hp4 ex4;refine⟨(by show 2<=ai;decide),fun sg hsg=>?_⟩;have D5:=D4.new hsg (o:=.tup [.str "say",.str w]);refine⟨_,rfl,_,rfl,_,rfl,nZ (fun _ _ _ _ h=>h) rfl rfl D5.pen (D5.ex _ _ h3 n3) hr0 (by omega) fun w2 hw2 H6 hp6 ex6=>?_⟩;have D6:=D5.took hp6 ex6;refine⟨(by show 3<=ai;decide),fun dr hdr=>?_⟩;have D7:=D6.new hdr (o:=.tup [.str room,.ref sg,.str w2]);have hsg6:H6 sg=some (.tup [.str "say",.str w]):=ex6 _ _ aa (D4.pen.nep hsg).symm;refine D7.put (d:=⟨room,["say",w],w2⟩) ⟨sg,aa,kp hsg6 hdr⟩ ?_ (by omega) fun H8 D8=>⟨_,_,rfl,D8⟩;rw[<-hG];exact⟨hmem,hw2,.inr (.inl ⟨w,hw,rfl⟩)⟩
  rintro σ H3 ⟨a9,a10,rfl,D3'⟩;have D3:DI G H p c l (11 * i+2) H3:=D3'.up (by omega);clear D3';refine⟨_,rfl,l1,rfl,⟨_,ay.of (D3.ex _ _ h1 n1)⟩,?_⟩
  let zI1:Nat->L2.St->Hp->Prop:=fun i' σ H''=>Dm fun(a9 a11:Option V)=>σ=[some (.ref p),some (.ref l1),some (.ref l2),some (.ref l3),some (.int full),some (.ref l),some (.int dn),some (.int i),some (.str room),a9,a10,a11,a12]/\DI G H p c l (11 * i+2+2 * i') H''
  refine c7 (xs:=J0.map V.str) zI1
   ⟨_,_,rfl,D3⟩ (fun i σ H' _ zq=>by obtain⟨_,_,_,D⟩:=zq;exact ay.of (D.ex _ _ h1 n1)) ?_ ?_
  ·rintro i' x σ H4 hi' ⟨a9,a11,rfl,D4⟩;obtain⟨ask,hask,rfl⟩:∃ask,J0[i']?=some ask/\x=V.str ask:=by
    rw[ej]at hi';cases q:J0[i']? with
    |none=>rw[q]at hi';cases hi'
    |some r=>rw[q]at hi';exact⟨r,rfl,(dC hi').symm⟩
   have hi2:i'<J0.length:=(bR.mp hask).1;have hm2:ask∈J0:=cg hask;refine⟨_,rfl,(by show 4<=ai;decide),fun q hq=>⟨_,rfl,eU (D4.new hq).pen (by decide) (by decide) fun r H5 r0 r1 hp5 ex5=>?_⟩⟩;obtain⟨j,hj,j0,j2⟩:=at4 f0 f2 r0 r1;have D5:=(D4.new hq).took hp5 ex5;refine⟨q,_,_,_,rfl,rfl,ay.of (ex5 q _ aa (D4.pen.nep hq).symm),hj,j,rfl,by omega,by omega,?_⟩
   let zI2:Nat->L2.St->Hp->Prop:=fun i'' σ H''=>∃a9:Option V,σ=[some (.ref p),some (.ref l1),some (.ref l2),some (.ref l3),some (.int full),some (.ref l),some (.int dn),some (.int i),some (.str room),a9,a10,some (.str ask),a12]/\DI G H p c l (11 * i+2+2 * i'+i'') H''
   refine jG (lo:=0) (n:=j.toNat) zI2
    ⟨_,rfl,D5⟩ ?_ ?_
   ·rintro i'' σ H6 hi'' ⟨a9,rfl,D6⟩;refine⟨_,rfl,_,rfl,_,rfl,(by show 2<=ai;decide),fun sg hsg=>?_⟩;have D7:=D6.new hsg (o:=.tup [.str "ask",.str ask]);refine nZ (fun _ _ _ _ h=>h) rfl rfl D7.pen (D7.ex _ _ h3 n3) hr0 (by omega) fun w2 hw2 H8 hp8 ex8=>?_;have D8:=D7.took hp8 ex8;refine⟨(by show 3<=ai;decide),fun dr hdr=>?_⟩;have D9:=D8.new hdr (o:=.tup [.str room,.ref sg,.str w2]);have hsg8:H8 sg=some (.tup [.str "ask",.str ask]):=ex8 _ _ aa (D6.pen.nep hsg).symm;refine D9.put (d:=⟨room,["ask",ask],w2⟩) ⟨sg,aa,kp hsg8 hdr⟩ ?_ (by omega) fun H8 D8=>⟨_,rfl,D8⟩;rw[<-hG];exact⟨hmem,hw2,.inl ⟨ask,hm2,rfl⟩⟩
   ·rintro σ H6 ⟨a9,rfl,D6⟩;exact⟨_,_,rfl,D6.up (by omega)⟩
  rintro σ H4 ⟨a9,a11,rfl,D4'⟩;have D4:DI G H p c l (11 * i+10) H4:=D4'.up (by rw[ak];omega);clear D4';have hnext:∀(H9:Hp) (a12:Option V),DI G H p c l (11 * i+11) H9->DdI G H p c l l1 l2 l3 full dn (i+1) [some (.ref p),some (.ref l1),some (.ref l2),some (.ref l3),some (.int full),some (.ref l),some (.int dn),some (.int i),some (.str room),a9,a10,a11,a12] H9:=fun H9 a12 D9=>⟨_,_,_,_,_,_,rfl,D9.up (by omega)⟩;refine⟨_,rfl,_,rfl,_,_,rfl,rfl,_,rfl,l3,_,rfl,ay.of (D4.ex _ _ h3 n3),fun q1 hq1=>?_⟩;have D5:=D4.new hq1 (o:=.lst (fL (J4.map V.str) (some ((i:Int)+1)) none));refine⟨_,rfl,_,rfl,_,rfl,l3,_,rfl,ay.of (D5.ex _ _ h3 n3),fun q2 hq2=>?_⟩;have e1:fL (J4.map V.str) (some ((i:Int)+1)) none=(J4.drop (i+1)).map V.str:=ze J4 (i+1);rw[tm];have D6:=D5.new hq2 (o:=.lst ((J4.take i).map V.str));refine⟨(by show 2<=ai;decide),fun q3 hq3=>?_⟩;have D7:=D6.new hq3 (o:=.lst [.ref q1,.ref q2]);obtain⟨lt,q,hq,hlt,hgood⟩:∃(lt:Zb) (q:Addr),u8 [V.ref q1,.ref q2] dn=some (.ref q) /\
    upd (upd (upd H4 q1 (.lst (fL (J4.map V.str) (some ((i:Int)+1)) none))) q2 (.lst ((J4.take i).map V.str))) q3 (.lst [.ref q1,.ref q2]) q=some (.lst (lt.map V.str))/\lt.length<=26 /\
    ∀w∈lt,w∈J4/\Up (decide (dn=0)) J4 room w:=by
   have:dn=0∨dn=1:=by omega
   rcases this with rfl|rfl
   ·refine⟨J4.drop (i+1),q1,rfl,?_,by rw[cA];omega,fun w hw=>⟨ou hw,?_⟩⟩
    ·refine(kp (kp aa hq2) hq3).trans ?_;rw[e1]
    ·obtain⟨n,hn⟩:=List.getElem?_of_mem hw;rw[List.getElem?_drop]at hn;exact⟨i,i+1+n,hroom,hn,by rw[if_pos (by decide)];omega⟩
   ·refine⟨J4.take i,q2,rfl,?_,by rw[aF];omega,fun w hw=>⟨h9 hw,?_⟩⟩
    ·exact kp aa hq3
    ·obtain⟨n,hn⟩:=List.getElem?_of_mem hw;have hnl:n<i:=by
      have:=(bR.mp hn).1;rw[aF]at this;omega
     rw[List.getElem?_take_of_lt hnl]at hn;exact⟨i,n,hroom,hn,by rw[if_neg (by decide)];omega⟩
  refine⟨_,rfl,q3,_,_,_,rfl,rfl,ay.of aa,hq,?_⟩;generalize upd (upd (upd H4 q1 (.lst (fL (J4.map V.str) (some ((i:Int)+1)) none))) q2 (.lst ((J4.take i).map V.str))) q3 (.lst [.ref q1,.ref q2])=H7 at D7 hlt ⊢;refine⟨_,rfl,(by show 0<=ai;decide),fun e he=>⟨.s (lt.map dv),.s [],A6 (ay.of (kp hlt he)),x9 (ay.of aa),?_,by decide,_,rfl,?_⟩⟩
  ·show DT.depths (lt.map dv)+1<=8;rw[gA];decide
  have D8:=D7.new he (o:=.lst []);by_cases hz:lt=[]
  ·have ez:(!decide (DT.s (lt.map dv)=DT.s []))=false:=by rw[hz,zzr1 (by rfl)];rfl
   rw[ez];exact aT (aT (hnext _ _ (D8.up (by omega))))
  ·have ez:(!decide (DT.s (lt.map dv)=DT.s []))=true:=by
    rw[zzr0 (fun z=>hz (g9 (y:=[]) (by injection z)))];rfl
   rw[ez];refine bh ?_;refine⟨_,rfl,eU D8.pen (by decide) (by decide) fun r H9 r0 r1 hp9 ex9=>⟨rfl,_,rfl,?_⟩⟩;have D9:=D8.took hp9 ex9;refine nN (fun _=>?_) (fun _=>hnext _ _ (D9.up (by omega)));refine⟨_,rfl,_,rfl,(by show 1<=ai;decide),fun sg hsg=>?_⟩;have D10:=D9.new hsg (o:=.tup [.str "still"]);have hlt10:upd H9 sg (.tup [.str "still"]) q=some (.lst (lt.map V.str)):=kp (ex9 _ _ (kp hlt he) (D8.pen.ne_strs (kp hlt he))) hsg;refine nZ (fun _ _ _ _ h=>.inl h) rfl rfl D10.pen hlt10 hz (by omega) fun w2 hw2 H11 hp11 ex11=>?_;have D11:=D10.took hp11 ex11;refine⟨(by show 3<=ai;decide),fun dr hdr=>?_⟩;have D12:=D11.new hdr (o:=.tup [.str room,.ref sg,.str w2]);have hsg11:H11 sg=some (.tup [.str "still"]):=ex11 _ _ aa (D9.pen.nep hsg).symm;refine D12.put (d:=⟨room,[("still":Str)],w2⟩) ⟨sg,aa,kp hsg11 hdr⟩ ?_ (by omega) fun H13 D13=>hnext _ _ D13;rw[<-hG];exact⟨hmem,(hgood.2 w2 hw2).1,.inr (.inr ⟨rfl,(hgood.2 w2 hw2).2⟩)⟩
 ·rintro σ H' ⟨a7,a8,a9,a10,a11,a12,rfl,D⟩;obtain⟨ts,ds,g1,g2,g3,g4,g5⟩:=D.ds;rw[ak]at g5;rw[<-hG]at g4;exact⟨_,rfl,k l ts ds _ H' hl g1 g2 g3 g4 (by omega) D.pen D.ex⟩
structure cJ(J0 J2 J4:Zb)(ds:List aB):Prop where
 okA:jL J0
 okS:jL J2
 apart:∀w∈J2,w∉J0
 okR:jL J4
 asks0:J0≠[]
 says0:J2≠[]
 rooms0:J4≠[]
 asks4:J0.length<=4
 says4:J2.length<=4
 rooms26:J4.length<=150
 nodup:ds.Nodup
 good:∀d∈ds,yi J0 J2 J4 d
 few:ds.length<=1000
 noround:∀r,¬Reach ds r r
structure iA(H:Hp)(t l1 l2 l3 l4:Addr)(ts:Ze)(J0 J2 J4:Zb)(ds:List aB):Prop where
 t:H t=some (.tup [.ref l1,.ref l2,.ref l3,.ref l4])
 a1:H l1=some (.lst (J0.map V.str))
 a2:H l2=some (.lst (J2.map V.str))
 a3:H l3=some (.lst (J4.map V.str))
 a4:H l4=some (.lst (ts.map V.ref))
 ds:c_ H ts ds
theorem d_.ne_refs{H:Hp}{p c a:Addr}{ts:Ze}(hp:d_ H p c)(ha:H a=some (.lst (ts.map V.ref))):a≠p:=by
 intro e;obtain⟨x,y,ns,h1,_⟩:=hp;rw[e,h1]at ha;injection ha with ha;injection ha with ha;cases ts with
 |nil=>cases ha
 |cons w ws =>
  injection ha with _ ha;cases ws with
  |nil=>cases ha
  |cons w ws=>injection ha with ha;cases ha
theorem iA.ex{H H':Hp}{p c t l1 l2 l3 l4:Addr}{ts:Ze}{J0 J2 J4:Zb}{ds:List aB}(h:iA H t l1 l2 l3 l4 ts J0 J2 J4 ds)(hp:d_ H p c)(e:b0 p H H'):iA H' t l1 l2 l3 l4 ts J0 J2 J4 ds:=by
 obtain⟨xs,hx⟩:=hp.lst;exact⟨e.kt hx _ _ h.t,e _ _ h.a1 (hp.ne_strs h.a1),e _ _ h.a2 (hp.ne_strs h.a2),e _ _ h.a3 (hp.ne_strs h.a3),e _ _ h.a4 (hp.ne_refs h.a4),h.ds.kt (e.kt hx)⟩
theorem iA.same{H H':Hp}{t l1 l2 l3 l4:Addr}{ts:Ze}{J0 J2 J4:Zb}{ds:List aB}(h:iA H t l1 l2 l3 l4 ts J0 J2 J4 ds)(e:ac H H'):iA H' t l1 l2 l3 l4 ts J0 J2 J4 ds :=
 ⟨e _ _ h.t,e _ _ h.a1,e _ _ h.a2,e _ _ h.a3,e _ _ h.a4,h.ds.kt (ac.kt e)⟩
inductive lc (vs:List V)(H:Hp)(Q:VK)(E:XK):Prop
 |mk (p c:Addr) (most full:Int):(vs=[.ref p,.int most,.int full])->(d_ H p c)->(0<most)->(most<=25)->(0<=full)->(full<=2)->(∀(t l1 l2 l3 l4:Addr) (ts:Ze) (J0 J2 J4:Zb) (ds:List aB) (H':Hp),iA H' t l1 l2 l3 l4 ts J0 J2 J4 ds->cJ J0 J2 J4 ds->J4.length<=most.toNat->ds.length<=600->d_ H' p c->b0 p H H'->Q (.ref t) H')->lc  vs H Q E
theorem at6{r:Int}(r0:0<=r)(r6:r<6):∃n:Nat,u8 [V.int 0,.int 1,.int 1,.int 2,.int 2,.int 3] r=some (.int n)/\n<=3:=by
 have:r=0∨r=1∨r=2∨r=3∨r=4∨r=5:=by omega
 rcases this with rfl|rfl|rfl|rfl|rfl|rfl
 ·exact⟨0,rfl,by decide⟩
 ·exact⟨1,rfl,by decide⟩
 ·exact⟨1,rfl,by decide⟩
 ·exact⟨2,rfl,by decide⟩
 ·exact⟨2,rfl,by decide⟩
 ·exact⟨3,rfl,by decide⟩
theorem A9{ws:Zb}(hw:ws.length=8){n:Nat}(hn:n<=3):fL (ws.map V.str) (some 4) (some (5+(n:Int)))=((ws.drop 4).take (1+n)).map V.str:=by
 unfold fL;have s1:HT.sIx (ws.map V.str).length 0 (some 4)=min 4 (ws.map V.str).length:=HT.sIx_nat _ _ 4;have s2:HT.sIx (ws.map V.str).length (ws.map V.str).length (some (5+(n:Int)))=min (5+n) (ws.map V.str).length:=HT.sIx_nat _ _ (5+n);rw[s1,s2,ak,hw,List.map_take,List.map_drop];have e1:min 4 8=4:=by decide
 have e2:min (5+n) 8-4=1+n:=by omega
 rw[e1,e2]
theorem Ad{K:Za}{vs:List V}{H:Hp}{Q:VK}{E:XK}(h:lc vs H Q E):ug K fh lb da sw (bx Q) (start vf vs) H:=by
 obtain⟨p,c,most,full,rfl,hp,m0,m1,f0,f2,k⟩:=h;refine⟨_,rfl,p,c,rfl,hp,fun H1 hp1 ex1=>?_⟩;refine⟨_,rfl,p,c,8,rfl,hp1,by decide,fun lw ws H2 ok len fr hl hp2 ex2=>?_⟩;have e2:=ex1.trans ex2;have nw:=hp2.ne_strs hl;refine⟨_,rfl,(by show 6<=ai;decide),fun q hq=>⟨_,rfl,eU (hp2.ex (ac.new hq)) (by decide) (by decide) fun r H3 r0 r1 hp3 ex3=>?_⟩⟩;obtain⟨n,hn,n3⟩:=at6 r0 r1;have hl3:H3 lw=some (.lst (ws.map V.str)):=ex3 _ _ (kp hl hq) nw;refine⟨q,_,_,_,rfl,rfl,ay.of (ex3 _ _ aa (hp2.nep hq).symm),hn,_,_,rfl,rfl,_,rfl,lw,_,rfl,ay.of hl3,fun l1 hl1=>?_⟩;have ea:fL (ws.map V.str) none (some (1+(n:Int)))=(ws.take (1+n)).map V.str:=tm ws (1+n);rw[ea];have e3:b0 p H H3:=e2.trans ((b0.new hq).trans ex3);have hp4:d_ (upd H3 l1 (.lst ((ws.take (1+n)).map V.str))) p c:=hp3.ex (ac.new hl1);have e4:b0 p H (upd H3 l1 (.lst ((ws.take (1+n)).map V.str))):=e3.trans (b0.new hl1);have hl4:upd H3 l1 (.lst ((ws.take (1+n)).map V.str)) lw=some (.lst (ws.map V.str)):=kp hl3 hl1;have ha4:upd H3 l1 (.lst ((ws.take (1+n)).map V.str)) l1=some (.lst ((ws.take (1+n)).map V.str)):=aa;generalize upd H3 l1 (.lst ((ws.take (1+n)).map V.str))=H4 at hp4 e4 hl4 ha4 ⊢;refine⟨_,rfl,_,rfl,(by show 6<=ai;decide),fun q hq=>⟨_,rfl,eU (hp4.ex (ac.new hq)) (by decide) (by decide) fun r H5 r0 r1 hp5 ex5=>?_⟩⟩;obtain⟨m,hm,m3⟩:=at6 r0 r1;have hl5:H5 lw=some (.lst (ws.map V.str)):=ex5 _ _ (kp hl4 hq) nw;have ha5:H5 l1=some (.lst ((ws.take (1+n)).map V.str)):=ex5 _ _ (kp ha4 hq) (hp4.ne_strs ha4);refine⟨q,_,_,_,rfl,rfl,ay.of (ex5 _ _ aa (hp4.nep hq).symm),hm,_,_,rfl,rfl,_,rfl,lw,_,rfl,ay.of hl5,fun l2 hl2=>?_⟩;rw[A9 len m3];have e5:b0 p H H5:=e4.trans ((b0.new hq).trans ex5);have hp6:d_ (upd H5 l2 (.lst (((ws.drop 4).take (1+m)).map V.str))) p c:=hp5.ex (ac.new hl2);have e6:b0 p H (upd H5 l2 (.lst (((ws.drop 4).take (1+m)).map V.str))):=e5.trans (b0.new hl2);have ha6:upd H5 l2 (.lst (((ws.drop 4).take (1+m)).map V.str)) l1=some (.lst ((ws.take (1+n)).map V.str)):=kp ha5 hl2;have hb6:upd H5 l2 (.lst (((ws.drop 4).take (1+m)).map V.str)) l2=some (.lst (((ws.drop 4).take (1+m)).map V.str)):=aa;generalize upd H5 l2 (.lst (((ws.drop 4).take (1+m)).map V.str))=H6 at hp6 e6 ha6 hb6 ⊢;refine⟨_,rfl,_,rfl,_,rfl,eU hp6 m0 (by omega) fun r H7 r0 r1 hp7 ex7=>?_⟩;obtain⟨rn,rfl⟩:=j9 r0;have ha7:=ex7 _ _ ha6 (hp6.ne_strs ha6);have hb7:=ex7 _ _ hb6 (hp6.ne_strs hb6);refine⟨_,_,rfl,rfl,p,c,1+rn,rfl,hp7,by omega,fun l3 J4 H8 okr lenr fr3 hl3' hp8 ex8=>?_⟩;have ha8:=ex8 _ _ ha7 (hp7.ne_strs ha7);have hb8:=ex8 _ _ hb7 (hp7.ne_strs hb7);have hs0:(ws.drop 4).take (1+m)≠[]:=by
  intro z;have:=congrArg List.length z;rw[aF,cA,len]at this;simp at this
 have ha0:ws.take (1+n)≠[]:=by
  intro z;have:=congrArg List.length z;rw[aF,len]at this;simp at this
 have hr0:J4≠[]:=by
  intro z;rw[z]at lenr;simp at lenr;omega
 refine⟨_,rfl,_,rfl,_,rfl,_,rfl,_,rfl,p,c,l1,l2,l3,_,_,J4,full,rfl,hp8,ha8,hb8,hl3',by rw[aF];omega,hs0,by rw[aF];omega,hr0,by omega,f0,f2,fun l4 ts ds up H9 fr4 hl4' hds nod good few hp9 ex9=>?_⟩;have ha9:=ex9 _ _ ha8 (hp8.ne_strs ha8);have hb9:=ex9 _ _ hb8 (hp8.ne_strs hb8);have hc9:=ex9 _ _ hl3' (hp8.ne_strs hl3');refine⟨_,rfl,_,rfl,_,rfl,_,rfl,(by show 4<=ai;decide),fun t ht=>k t l1 l2 l3 l4 ts _ _ J4 ds _ ⟨aa,kp ha9 ht,kp hb9 ht,kp hc9 ht,kp hl4' ht,hds.kt (ac.kt (ac.new ht))⟩ ?_ ?_ few (hp9.ex (ac.new ht)) ?_⟩
 ·refine⟨⟨?_,fun w h=>ok.2 w (h9 h)⟩,⟨?_,fun w h=>ok.2 w (ou (h9 h))⟩,?_,okr,ha0,hs0,hr0,by rw[aF];omega,by rw[aF];omega,by omega,nod,fun d hd=>(good d hd).d,by omega,fun r z=>(zR okr.1 good z).irr okr.1⟩
  ·exact ok.1.sublist (List.take_sublist _ _)
  ·exact ok.1.sublist ((List.take_sublist _ _).trans (List.drop_sublist _ _))
  ·intro w h1 h2;have h3:w∈ws.drop 4:=h9 h1;have h4:w∈ws.take 4:=by
    have:ws.take (1+n)=(ws.take 4).take (1+n):=by rw[List.take_take];congr 1;omega
    rw[this]at h2;exact h9 h2
   have:=ok.1;rw[<-List.take_append_drop 4 ws,eh]at this;exact this.2.2 w h4 w h3 rfl
 ·omega
 ·exact(((e6.trans ex7).trans ex8).trans ex9).trans (b0.new ht)
theorem cC{ws:Zb}{i:Nat}{x:V}(h:(ws.map V.str)[i]?=some x):∃w,ws[i]?=some w/\x=.str w:=by
 rw[ej]at h;cases q:ws[i]? with
 |none=>rw[q]at h;cases h
 |some r=>rw[q]at h;exact⟨r,rfl,(dC h).symm⟩
theorem take_snoc{α:Type}{ws:List α}{i:Nat}{w:α}(h:ws[i]?=some w):ws.take (i+1)=ws.take i++[w]:=by
 obtain⟨hi,rfl⟩:=bR.mp h;rw[List.take_succ_eq_append_getElem hi]
def lD(w:Str):Bool:=!decide (w=("":Str)) && (decide (w.length<=8) && w.cps.toList.all fun c=>decide (c∈("abcdefghijklmnopqrstuvwxyz":Str).cps.toList))
theorem mS.b{w:Str}(h:mS w):lD w=true:=by
 unfold lD;have h1:¬(w=("":Str)):=fun e=>by
  have:=h.lo;rw[e]at this;exact absurd this (by decide +kernel)
 rw[zzr0 h1,zzr1 h.hi,Bool.not_false,oq,oq,oJ];intro c hc;obtain⟨c1,c2⟩:=h.al c hc;refine zzr1 ?_;have:=ye (c-97) (by omega);have e:97+(c-97)=c:=by omega
 rw[e]at this;exact cg this
inductive sp_is_name (vs:List V)(H:Hp)(Q:VK)(E:XK):Prop
 |mk (w:Str):(vs=[.str w])->(w.length<=1000)->(∀H',ac H H'->Q (.bl (lD w)) H')->sp_is_name  vs H Q E
theorem vQ{K:Za}{vs:List V}{H:Hp}{Q:VK}{E:XK}(h:sp_is_name vs H Q E):yv K (bx Q) (start zE vs) H:=by
 obtain⟨w,rfl,hz,k⟩:=h;refine⟨_,rfl,rfl,_,rfl,?_⟩;have ed:(!decide (V.str w=V.str ("":Str)))=!decide (w=("":Str)):=by
  congr 1;by_cases e:w=("":Str)
  ·rw[zzr1 e,zzr1 (by rw[e])]
  ·rw[zzr0 e,zzr0 (fun z=>e (by injection z))]
 rw[ed];refine nN (fun h1=>?_) (fun h1=>?_)
 ·refine⟨_,rfl,.inr ⟨w,rfl,cp (ao hz),_,_,rfl,rfl,_,rfl,?_⟩⟩;refine nN (fun h2=>?_) (fun h2=>?_)
  ·refine⟨_,rfl,w,rfl,fun l hl=>?_⟩
   let zI0:Nat->List V->Hp->Prop:=fun i vs H'=>vs=((w.cps.toList.take i).map fun c=>V.bl (decide (c∈("abcdefghijklmnopqrstuvwxyz":Str).cps.toList)))/\ac H H'/\H' l=some (.lst vs)
   refine A_ zI0
    ⟨rfl,ac.new hl,aa⟩ (fun i vs H' _ h=>h.2.2) ?_ ?_
   ·rintro vs H' ⟨rfl,hS,hl'⟩;refine⟨l,w.cps.toList.map fun c=>decide (c∈("abcdefghijklmnopqrstuvwxyz":Str).cps.toList),rfl,ay.of ?_,?_⟩
    ·rw[hl',lW];have:w.cps.toList.take w.cps.size=w.cps.toList:=by
      rw[ox];simp
     rw[this]
     rfl
    ·have:=k H' hS;have h2':decide (w.length<=8)=true:=zzr1 (by have:=of_decide_eq_true h2;omega);unfold lD at this;rw[h1,h2',oq,oq]at this;rw[oC];exact this
   ·rintro i vs H' c hc hi ⟨rfl,hS,hl'⟩;refine gN (kY ?_);refine⟨_,rfl,c,_,rfl,rfl,hl',?_,n0 hi ⟨?_,?_,aa⟩⟩
    ·rw[ak,aF];have:w.length=w.cps.toList.length:=dJ w;exact ao (by omega)
    ·rw[take_snoc (by rw[<-hc];simp),aG]
     rfl
    ·intro b o e;rw[aj (ag e hl)];exact hS b o e
  ·have:=k H (ac.refl H);have h2':decide (w.length<=8)=false:=zzr0 (fun z=>h2 (zzr1 (by omega)));unfold lD at this;rw[h1,h2',oq,Bool.false_and]at this;exact this
 ·have:=k H (ac.refl H);unfold lD at this;rw[Bool.eq_false_iff.mpr h1,Bool.false_and]at this;exact this
def br(ws:Zb):List (dH×V):=ws.foldl (fun acc w=>fA acc (.inr w) (.bl true)) []
theorem fD(ws:Zb)(w:Str):br (ws++[w])=fA (br ws) (.inr w) (.bl true):=by
 unfold br;rw[List.foldl_append]
 rfl
theorem uy{κ:Type}[DecidableEq κ](kvs:List (κ×V))(k:κ)(v:V):(fA kvs k v).length<=kvs.length+1:=by
 unfold fA;split
 ·rw[ak];omega
 ·rw[aH];exact ax _
theorem k3{α:Type}(P:List α->Prop)(h0:P [])(hs:∀ws w,P ws->P (ws++[w]))(ws:List α):P ws:=by
 have:∀n (ws:List α),ws.length=n->P ws:=by
  intro n
  induction n with
  |zero=>intro ws h;rw[List.length_eq_zero_iff.mp h];exact h0
  |succ n ih =>
   intro ws h;have hne:ws≠[]:=fun z=>by rw[z]at h;cases h
   rw[<-List.dropLast_concat_getLast hne];exact hs _ _ (ih _ (by rw[List.length_dropLast,h];rfl))
 exact this _ ws rfl
theorem kE(ws:Zb):(br ws).length<=ws.length:=by
 refine k3 (fun ws=>(br ws).length<=ws.length) (ax _) (fun ws w h=>?_) ws;show(br (ws++[w])).length<=(ws++[w]).length;rw[fD,aH];have:=uy (br ws) (.inr w) (.bl true);show _<=ws.length+1;omega
theorem wb(ws:Zb)(x:Str):cR (br ws) (.inr x)=if x∈ws then some (.bl true)else none:=by
 refine k3 (fun ws=>cR (br ws) (.inr x)=if x∈ws then some (.bl true)else none) rfl (fun ws w h=>?_) ws
 show cR (br (ws++[w])) (.inr x)=_;rw[fD,t8,h];by_cases e:x=w
 ·subst e;rw[if_pos rfl,if_pos (by simp)]
 ·have e1:¬((Sum.inr x:dH)=.inr w):=fun z=>e (by injection z);rw[if_neg e1];by_cases m:x∈ws
  ·rw[if_pos m,if_pos (dj _ m)]
  ·rw[if_neg m,if_neg (fun z=>by rcases bq.mp z with z|z;exact m z;exact e (by simpa using z))]
theorem ir(ws:Zb)(x:Str):(cR (br ws) (.inr x)).isSome=decide (x∈ws):=by
 rw[wb];by_cases m:x∈ws
 ·rw[if_pos m,zzr1 m];rfl
 ·rw[if_neg m,zzr0 m];rfl
inductive sp_as_keys(K:Za)(vs:List V)(H:Hp)(Q:VK)(E:XK):Prop
 |mk (l:Addr) (ws:Zb):(vs=[.ref l])->(ay K H l (ws.map V.str))->(ws.length<=1000)->(∀d,H d=none->Q (.ref d) (upd H d (.dK (br ws))))->sp_as_keys K vs H Q E
theorem vT{K:Za}{vs:List V}{H:Hp}{Q:VK}{E:XK}(h:sp_as_keys K vs H Q E):yy K (bx Q) (start zF vs) H:=by
 obtain⟨l,ws,rfl,hl,hz,k⟩:=h;refine fun d hd=>?_;have key:∀kvs,ay K (upd H d (.dK kvs)) l (ws.map V.str):=fun kvs=>(ac.new hd).seq hl;refine⟨_,rfl,l,rfl,⟨_,key _⟩,?_⟩
 let zI1:Nat->L2.St->Hp->Prop:=fun i σ H'=>∃x,σ=[some (.ref l),some (.ref d),x]/\H'=upd H d (.dK (br (ws.take i)))
 refine c7 (xs:=ws.map V.str) zI1 ⟨_,rfl,rfl⟩ (fun i σ H' _ zq=>by obtain⟨_,_,e⟩:=zq;exact by rw[e];exact key _) ?_ ?_
 ·rintro i x σ H' hi ⟨y,rfl,rfl⟩;obtain⟨w,hw,rfl⟩:=cC hi;have hlen:(br (ws.take i)).length<ai:=ao (aW (kE _) (by rw[aF];omega));refine⟨_,rfl,_,rfl,d,_,rfl,.inl ⟨_,.inr w,aa,rfl,hlen,rfl⟩,_,rfl,?_⟩;rw[nQ,take_snoc hw,fD]
 ·rintro σ H' ⟨x,rfl,rfl⟩;rw[ak,bo];exact⟨_,rfl,k d hd⟩
def AR(most:Nat):Nat->List Str->List Str->Option Nat
 |_,_,[]=>none
 |i,ahead,n::ns=>if i=most∨n∈ahead∨lD n=false then some i else AR most (i+1) (ahead++[n]) ns
def bV(names:Zb)(most:Nat)(taken:Zb):Option Nat:=if names=[]then some 0 else AR most 0 taken names
def oV:Option Nat->V
 |none=>.non
 |some i=>.int i
inductive sp_first_wrong_name(K:Za)(vs:List V)(H:Hp)(Q:VK)(E:XK):Prop
 |mk (l t:Addr) (names taken:Zb) (most:Nat):(vs=[.ref l,.int most,.ref t])->(ay K H l (names.map V.str))->(ay K H t (taken.map V.str))->(names.length+taken.length<=1000)->((∀w∈names,w.length<=1000))->(∀H',ac H H'->Q (oV (bV names most taken)) H')->sp_first_wrong_name K vs H Q E
theorem mL{K:Za}{H:Hp}{Q:VK}{E:XK}{l:Addr}{ws:Zb}(hl:ay K H l (ws.map V.str))(hz:ws.length<=1000)(k:∀d,H d=none->Q (.ref d) (upd H d (.dK (br ws)))):sp_as_keys K [.ref l] H Q E:=by
 exact⟨l,ws,rfl,hl,hz,k⟩
theorem yZ{H:Hp}{Q:VK}{E:XK}{w:Str}(hz:w.length<=1000)(k:∀H',ac H H'->Q (.bl (lD w)) H'):sp_is_name [.str w] H Q E:=by
 exact⟨w,rfl,hz,k⟩
theorem jT{K:Za}{vs:List V}{H:Hp}{Q:VK}{E:XK}(h:sp_first_wrong_name K vs H Q E):kh K sp_is_name (sp_as_keys K) (bx Q) (start kJ vs) H:=by
 obtain⟨l,t,names,taken,most,rfl,hl,ht,hz,hw,k⟩:=h;refine⟨_,rfl,.inl ⟨l,_,rfl,.inl hl,rfl,_,rfl,?_⟩⟩;by_cases h0:names=[]
 ·subst h0;refine bh ?_;have:=k H (ac.refl H);exact this
 have e0:decide (V.int ((names.map V.str).length:Nat)=V.int 0)=false:=zzr0 (fun z=>h0 (by
  injection z with z;rw[ak]at z;exact List.length_eq_zero_iff.mp (by omega)))
 rw[e0];refine aT ?_;have hk:∀H',ac H H'->Q (oV (AR most 0 taken names)) H':=by
  unfold bV at k;rw[if_neg h0]at k;exact k
 refine⟨_,rfl,mL ht (by omega) fun d hd=>?_⟩;refine⟨_,rfl,l,rfl,⟨_,(ac.new hd).seq hl⟩,?_⟩
 let zI2:Nat->L2.St->Hp->Prop:=fun i σ H'=>∃x y,σ=[some (.ref l),some (.int most),some (.ref t),some (.ref d),x,y]/\ac H H'/\H' d=some (.dK (br (taken++names.take i)))/\AR most i (taken++names.take i) (names.drop i)=AR most 0 taken names
 refine gy (xs:=names.map V.str) zI2
  ⟨_,_,rfl,ac.new hd,by rw[oo,dD];exact aa,by rw[oo,dD,oE]⟩ (fun i σ H' _ zq=>by obtain⟨_,_,_,hS,_⟩:=zq;exact hS.seq hl) ?_ ?_
 ·rintro i x σ H' q hi ⟨x4,x5,rfl,hS,hd',hf⟩ hq;obtain⟨w,hw',rfl⟩:=cC hi;have hil:i<names.length:=(bR.mp hw').1;have ed:names.drop i=w::names.drop (i+1):=by
   rw[oB hil];congr 1;exact(bR.mp hw').2
  rw[ed]at hf;have hd2:upd H' q (.tup [.int i,.str w]) d=some (.dK (br (taken++names.take i))):=kp hd' hq;have hS2:ac H (upd H' q (.tup [.int i,.str w])):=hS.trans (ac.new hq);have hww:w.length<=1000:=hw w (cg hw');refine⟨q,_,rfl,bc.of aa,rfl,_,_,rfl,_,_,rfl,rfl,?_⟩;generalize upd H' q (.tup [.int i,.str w])=H2 at hd2 hS2 ⊢;refine⟨_,rfl,_,rfl,rfl,_,rfl,?_⟩;by_cases c1:i=most
  ·have e1:decide (V.int (i:Nat)=V.int (most:Nat))=true:=zzr1 (by rw[c1]);rw[e1];refine bh (bh ?_);refine⟨_,rfl,?_⟩;have:=hk H2 hS2;rw[<-hf]at this;unfold AR at this;rw[if_pos (.inl c1)]at this;exact this
  have e1:decide (V.int (i:Nat)=V.int (most:Nat))=false:=zzr0 (fun z=>c1 (by injection z with z;omega));rw[e1];refine aT ?_;refine⟨_,rfl,_,rfl,d,_,rfl,.inl ⟨_,.inr w,.inl hd2,rfl,rfl⟩,_,rfl,?_⟩;rw[ir];by_cases c2:w∈taken++names.take i
  ·rw[zzr1 c2];refine bh (bh ?_);refine⟨_,rfl,?_⟩;have:=hk H2 hS2;rw[<-hf]at this;unfold AR at this;rw[if_pos (.inr (.inl c2))]at this;exact this
  rw[zzr0 c2];refine aT ?_;refine⟨_,rfl,yZ hww fun H3 hS3=>⟨_,rfl,?_⟩⟩;have hd3:=hS3 _ _ hd2;cases c3:lD w with
  |false =>
   refine bh ?_;refine⟨_,rfl,?_⟩;have:=hk H3 (hS2.trans hS3);rw[<-hf]at this;unfold AR at this;rw[if_pos (.inr (.inr c3))]at this;exact this
  |true =>
   refine aT ?_;have hlen:(br (taken++names.take i)).length<ai:=ao (aW (kE _) (by rw[aH,aF];omega));refine⟨_,rfl,_,rfl,d,_,rfl,.inl ⟨_,.inr w,hd3,rfl,hlen,rfl⟩,_,_,rfl,?_,?_,?_⟩
   ·intro b o e;rw[aj (ag e hd)];exact hS3 _ _ (hS2 _ _ e)
   ·rw[aa,take_snoc hw',<-cH,fD]
   ·rw[<-hf,take_snoc hw',<-cH]
    conv=>rhs;unfold AR
    rw[if_neg];rintro(z|z|z)
    ·exact c1 z
    ·exact c2 z
    ·rw[c3]at z;cases z
 ·rintro σ H' ⟨x,y,rfl,hS,_,hf⟩;rw[ak,rp]at hf;have:=hk H' hS;rw[<-hf]at this;exact this
theorem uN{most:Nat}:∀(ns ahead:Zb) (i:Nat),i+ns.length<=most->(ahead++ns).Nodup->(∀w∈ns,mS w)->AR most i ahead ns=none
 |[],_,_,_,_,_=>rfl
 |n::ns,ahead,i,h1,h2,h3=>by
  rw[cW]at h1;unfold AR;rw[if_neg]
  ·refine uN ns (ahead++[n]) (i+1) (by omega) (by rw[cH];exact h2) fun w hw=>h3 w (fx _ hw)
  ·rintro(z|z|z)
   ·omega
   ·rw[eh]at h2;exact h2.2.2 n z n (eR) rfl
   ·rw[(h3 n eR).b]at z;cases z
theorem fK{most:Nat}{ns taken:Zb}(h0:ns≠[])(h1:ns.length<=most)(h2:(taken++ns).Nodup)(h3:∀w∈ns,mS w):bV ns most taken=none:=by
 unfold bV;rw[if_neg h0];exact uN ns taken 0 (by omega) h2 h3
theorem eX{n:Nat}(h:n<=9000):n<ai:=Nat.lt_of_le_of_lt h (by decide)
def p8(x:Str):TK:=.k (some (.inr x))
def AQ(sg:Zb):TK:=.t (sg.map p8)
def x8(d:aB):TK:=.t [p8 d.a,AQ d.sg,p8 d.b]
theorem nY{x y:Str}(h:p8 x=p8 y):x=y:=by
 unfold p8 at h;injection h with h;injection h with h;injection h
theorem nh:∀{x y:Zb},x.map p8=y.map p8->x=y
 |[],[],_=>rfl
 |[],_::_,h=>by cases h
 |_::_,[],h=>by cases h
 |a::x,b::y,h=>by
  rw[bM,bM]at h;injection h with h1 h2;rw[nY h1,nh h2]
theorem xS{x y:Zb}(h:AQ x=AQ y):x=y:=by
 unfold AQ at h;injection h with h;exact nh h
theorem B_{x y:aB}(h:x8 x=x8 y):x=y:=by
 unfold x8 at h;injection h with h;injection h with h1 h;injection h with h2 h;injection h with h3 h;cases x;cases y;simp only at *;rw[nY h1,xS h2,nY h3]
theorem vv(xs:Zb):TK.depths (xs.map p8)=0:=by
 induction xs with
 |nil=>rfl
 |cons x xs ih=>rw[bM];show max (TK.depth (p8 x)) (TK.depths _)=0;rw[ih];rfl
theorem qA(sg:Zb):(AQ sg).depth=1:=by
 show TK.depths (sg.map p8)+1=1;rw[vv]
theorem qC(d:aB):(x8 d).depth=2:=by
 show max (TK.depth (p8 d.a)) (max (TK.depth (AQ d.sg)) (max (TK.depth (p8 d.b)) 0))+1=2;rw[qA]
 rfl
theorem xj{H:Hp}:∀xs:List Str,TKAts H (xs.map p8) (xs.map V.str)
 |[]=>by show TKAts H [] [];unfold TKAts;rfl
 |x::xs=>by
  rw[bM,bM];unfold TKAts;refine⟨_,_,rfl,?_,xj xs⟩;unfold p8 gD
  rfl
theorem vw{H:Hp}(x:Str):gD H (p8 x) (.str x):=by unfold p8 gD;rfl
theorem SignAt.tk{H:Hp}{s:Addr}{sg:Zb}(h:SignAt H s sg):gD H (AQ sg) (.ref s):=by
 unfold AQ gD;exact⟨s,_,rfl,h,xj _⟩
theorem gG.tk{H:Hp}{t:Addr}{d:aB}(h:gG H t d):gD H (x8 d) (.ref t):=by
 obtain⟨s,h1,h2⟩:=h;unfold x8 gD;refine⟨t,_,rfl,h1,?_⟩;unfold TKAts;refine⟨_,_,rfl,vw _,?_⟩;unfold TKAts;refine⟨_,_,rfl,SignAt.tk h2,?_⟩;unfold TKAts;refine⟨_,_,rfl,vw _,?_⟩;unfold TKAts
 rfl
section
variable{κ:Type}[DecidableEq κ]
def i6(ks:List κ):List (κ×V):=ks.foldl (fun acc k=>fA acc k (.bl true)) []
theorem kF(ws:List κ)(w:κ):i6 (ws++[w])=fA (i6 ws) w (.bl true):=by
 unfold i6;rw[List.foldl_append]
 rfl
theorem yX(ws:List κ):(i6 ws).length<=ws.length:=by
 refine k3 (fun ws=>(i6 ws).length<=ws.length) (ax _) (fun ws w h=>?_) ws;show(i6 (ws++[w])).length<=(ws++[w]).length;rw[kF,aH];have:=uy (i6 ws) w (.bl true);show _<=ws.length+1;omega
theorem AH(ws:List κ)(x:κ):(cR (i6 ws) x).isSome=decide (x∈ws):=by
 refine k3 (fun ws=>(cR (i6 ws) x).isSome=decide (x∈ws)) rfl (fun ws w h=>?_) ws;show(cR (i6 (ws++[w])) x).isSome=_;rw[kF,t8];by_cases e:x=w
 ·subst e;rw[if_pos rfl,zzr1 (by simp)]
  rfl
 ·rw[if_neg e,h];by_cases m:x∈ws
  ·rw[zzr1 m,zzr1 (dj _ m)]
  ·rw[zzr0 m,zzr0 (fun z=>by rcases bq.mp z with z|z;exact m z;exact e (by simpa using z))]
end
theorem xH{d:aB}{ds:List aB}:x8 d∈ds.map x8↔d∈ds:=by
 constructor
 ·intro h;obtain⟨x,hx,e⟩:=bG.mp h;rw[<-B_ e];exact hx
 ·exact lV
def kI(K:Za)(H:Hp)(v:V)(sg:Zb):Prop:=∃s,v=.ref s/\bc K H s (sg.map V.str)
theorem ac.sqT{K:Za}{H H':Hp}{a:Addr}{xs:List V}(e:ac H H')(h:bc K H a xs):bc K H' a xs:=by
 rcases h with(h|⟨o,h⟩)|h
 ·exact .inl (.inl (e _ _ h))
 ·exact .inl (.inr ⟨o,e _ _ h⟩)
 ·exact .inr h
theorem Signs.same{K:Za}{H H':Hp}(e:ac H H'){xs:List V}{sgs:List (List Str)}(h:Paired (kI K H) xs sgs):Paired (kI K H') xs sgs :=
 Paired.mapP h fun _ _ ⟨s,h1,h2⟩=>⟨s,h1,ac.sqT e h2⟩
def gU(sg:Zb):DT:=.t (sg.map dv)
theorem xT{x y:Zb}(h:gU x=gU y):x=y:=by
 unfold gU at h;injection h with h;exact g9 h
theorem bO(sg:Zb):(gU sg).depth=1:=by
 show DT.depths (sg.map dv)+1=1;rw[gA]
theorem y8(sgs:List (List Str)):DT.depths (sgs.map gU)<=8:=by
 induction sgs with
 |nil=>exact bN _
 |cons x xs ih=>rw[bM];show max (DT.depth (gU x)) (DT.depths _)<=8;rw[bO];omega
theorem Signs.dIns{K:Za}{H:Hp}{xs:List V}{sgs:List (List Str)}(h:Paired (kI K H) xs sgs):DIns K H (sgs.map gU) xs:=by
 induction h with
 |nil=>show DIns K H [] [];unfold DIns;rfl
 |cons q _ ih =>
  obtain⟨s,e,r⟩:=q;rw[bM];unfold DIns;refine⟨_,_,rfl,?_,ih⟩;rw[e];exact bI r
theorem xG{d:Zb}{ds:List (List Str)}:gU d∈ds.map gU↔d∈ds:=by
 constructor
 ·intro h;obtain⟨x,hx,e⟩:=bG.mp h;rw[<-xT e];exact hx
 ·exact lV
theorem Paired.app{α β:Type}{R:α->β->Prop}{a:List α}{b:List β}{c:List α}{d:List β}(g:Paired R a b)(h:Paired R c d):Paired R (a++c) (b++d):=by
 induction g with
 |nil=>exact h
 |cons r _ ih=>exact .cons r ih
def gC(w:Str):List Str:=[("ask":Str),w]
def g6(w:Str):List Str:=[("say":Str),w]
def iy(J0 J2:Zb):List (List Str):=J0.map gC++J2.map g6++[aY]
theorem o_{K:Za}{kw:Str}{σ:L2.St}{H:Hp}{a l:Addr}{ws:Zb}{Q:Hp->Prop}(ha:H a=some (.lst (ws.map V.str)))(hl:H l=none)(hz:ws.length<=1000)
  (k:∀(xs:List V) (H':Hp),Paired (kI K H') xs (ws.map fun w=>[kw,w])->ac H H'->H' l=some (.lst xs)->Q H') :
  cG 1 [] σ (Cj K a) U0 eQ (bf (aM (tC (.str kw)) V0)) H l Q:=by
 let zI0:Nat->List V->Hp->Prop:=fun i vs H'=>Paired (kI K H') vs ((ws.take i).map fun w=>[kw,w])/\ac H H'/\H' l=some (.lst vs)
 refine cP (xs:=ws.map V.str) zI0
  ⟨.nil,ac.new hl,aa⟩ (fun i vs H' _ zq=>by obtain⟨_,hS,h'⟩:=zq;exact⟨h',ay.of (hS _ _ ha)⟩) ?_ ?_
 ·rintro vs H' ⟨h1,h2,h3⟩;rw[ak,bo]at h1;exact k vs H' h1 h2 h3
 ·rintro i vs H' x hx hi ⟨h1,h2,h3⟩;obtain⟨w,hw,rfl⟩:=cC hx;refine gN (kY ?_);refine⟨_,rfl,(by show 2<=ai;decide),fun t ht=>⟨kp h3 ht,?_,n0 hi ⟨?_,?_,aa⟩⟩⟩
  ·rw[Paired.length h1,ak,aF];exact ao (by omega)
  ·rw[take_snoc hw,aG];have hS2:gE (upd H' t (.tup [.str kw,.str w])) (upd (upd H' t (.tup [.str kw,.str w])) l (.lst (vs++[.ref t]))):=eE (kp h3 ht);have hS3:gE H' (upd (upd H' t (.tup [.str kw,.str w])) l (.lst (vs++[.ref t]))):=(ac.kt (ac.new ht)).trans hS2;refine Paired.app (Paired.mapP h1 fun v sg ⟨s,e1,e2⟩=>⟨s,e1,?_⟩) (.cons ⟨t,rfl,bc.of (hS2 _ _ aa)⟩ .nil);rcases e2 with(e2|⟨o,e2⟩)|e2
   ·exact .inl (.inl (hS3 _ _ e2))
   ·refine .inl (.inr ⟨o,?_⟩);rw[aj (fun z=>by rw[z,h3]at e2;cases e2)];exact kp e2 ht
   ·exact .inr e2
  ·intro b o e;rw[aj (ag e hl)];exact kp (h2 _ _ e) ht
inductive sp_door_signs(K:Za)(vs:List V)(H:Hp)(Q:VK)(E:XK):Prop
 |mk (l1 l2:Addr) (J0 J2:Zb):(vs=[.ref l1,.ref l2])->(H l1=some (.lst (J0.map V.str)))->(H l2=some (.lst (J2.map V.str)))->(J0.length<=100)->(J2.length<=100)->(∀(l:Addr) (xs:List V) (H':Hp),Paired (kI K H') xs (iy J0 J2)->ac H H'->H' l=some (.lst xs)->Q (.ref l) H')->sp_door_signs K vs H Q E
theorem qk{K:Za}{st:Addr}(hst:∀H,bc K H st (aY.map V.str)){vs:List V}{H:Hp}{Q:VK}{E:XK}(h:sp_door_signs K vs H Q E):rX K st (bx Q) (start tL vs) H:=by
 obtain⟨l1,l2,J0,J2,rfl,h1,h2,z1,z2,k⟩:=h;refine⟨_,rfl,l1,rfl,⟨_,ay.of h1⟩,fun a ha=>?_⟩;refine o_ h1 ha (by omega) fun xs1 H1 p1 s1 g1=>?_;refine⟨_,rfl,l2,rfl,⟨_,ay.of (s1 _ _ h2)⟩,fun b hb=>?_⟩;refine o_ (s1 _ _ h2) hb (by omega) fun xs2 H2 p2 s2 g2=>?_;have len1:xs1.length<=100:=by rw[Paired.length p1,ak];exact z1
 have len2:xs2.length<=100:=by rw[Paired.length p2,ak];exact z2
 refine⟨a,b,xs1,xs2,rfl,rfl,s2 _ _ g1,g2,cp (ao (by omega)),fun c hc=>?_⟩;refine⟨(by show 1<=ai;decide),fun d hd=>?_⟩;refine⟨c,d,_,_,rfl,rfl,kp aa hd,aa,?_,fun e he=>k e _ _ ?_ ?_ aa⟩
 ·rw[aH];show _+1<=ai;exact cp (ao (by omega))
 ·have sx:ac H2 (upd (upd (upd H2 c (.lst (xs1++xs2))) d (.lst [.ref st])) e (.lst (xs1++xs2++[.ref st]))):=((ac.new hc).trans (ac.new hd)).trans (ac.new he);exact Paired.app (Paired.app (Signs.same (s2.trans sx) p1) (Signs.same sx p2)) (.cons ⟨st,rfl,hst _⟩ .nil)
 ·exact(((s1.trans s2).trans (ac.new hc)).trans (ac.new hd)).trans (ac.new he)
def B2(J4:Zb)(sgs:List (List Str)):Nat->List aB->List aB->Option Nat
 |_,_,[]=>none
 |i,ahead,d::ds=>if i=2000∨d∈ahead∨d.a∉J4∨d.sg∉sgs∨d.b∉J4 then some i else B2 J4 sgs (i+1) (ahead++[d]) ds
inductive sp_first_wrong_door(K:Za)(vs:List V)(H:Hp)(Q:VK)(E:XK):Prop
 |mk (l l3 sl:Addr) (ts:Ze) (ds:List aB) (J4:Zb) (xs:List V) (sgs:List (List Str)):(vs=[.ref l,.ref l3,.ref sl])->(H l=some (.lst (ts.map V.ref)))->(c_ H ts ds)->(H l3=some (.lst (J4.map V.str)))->(J4.length<=1000)->(H sl=some (.lst xs))->(Paired (kI K H) xs sgs)->(ds.length<=9000)->(∀H',ac H H'->Q (oV (B2 J4 sgs 0 [] ds)) H')->sp_first_wrong_door K vs H Q E
theorem bT{ws:Ze}{i:Nat}{x:V}(h:(ws.map V.ref)[i]?=some x):∃w,ws[i]?=some w/\x=.ref w:=by
 rw[ej]at h;cases q:ws[i]? with
 |none=>rw[q]at h;cases h
 |some r=>rw[q]at h;exact⟨r,rfl,(dC h).symm⟩
theorem jU{K:Za}{vs:List V}{H:Hp}{Q:VK}{E:XK}(h:sp_first_wrong_door K vs H Q E):ki K (sp_as_keys K) (bx Q) (start kK vs) H:=by
 obtain⟨l,l3,sl,ts,ds,J4,xs,sgs,rfl,hl,hds,h3,hr,hsl,hsg,hz,k⟩:=h;refine⟨_,rfl,mL (ay.of h3) hr fun d hd=>?_⟩;refine fun e he=>?_;have hS0:ac H (upd (upd H d (.dK (br J4))) e (.dT [])):=(ac.new hd).trans (ac.new he);have heH:H e=none:=(ac.new hd).free he;refine⟨_,rfl,l,rfl,⟨_,ay.of (hS0 _ _ hl)⟩,?_⟩
 let zI1:Nat->L2.St->Hp->Prop:=fun i σ H'=>∃x y,σ=[some (.ref l),some (.ref l3),some (.ref sl),some (.ref d),some (.ref e),x,y]/\ac H H'/\H' d=some (.dK (br J4))/\H' e=some (.dT (i6 ((ds.take i).map x8)))/\B2 J4 sgs i (ds.take i) (ds.drop i)=B2 J4 sgs 0 [] ds
 refine gy (xs:=ts.map V.ref) zI1
  ⟨_,_,rfl,hS0,kp aa he,aa,rfl⟩ (fun i σ H' _ zq=>by obtain⟨_,_,_,hS,_⟩:=zq;exact ay.of (hS _ _ hl)) ?_ ?_
 ·rintro i x σ H' q hi ⟨x5,x6,rfl,hS,hd',he',hf⟩ hq;obtain⟨t,ht,rfl⟩:=bT hi;obtain⟨dr,hdr,hat⟩:=Paired.getL hds ht;have hil:i<ds.length:=(bR.mp hdr).1;have ed:ds.drop i=dr::ds.drop (i+1):=by
   rw[oB hil];congr 1;exact(bR.mp hdr).2
  rw[ed]at hf;have hS2:ac H (upd H' q (.tup [.int i,.ref t])):=hS.trans (ac.new hq);have hd2:upd H' q (.tup [.int i,.ref t]) d=_:=kp hd' hq;have he2:upd H' q (.tup [.int i,.ref t]) e=_:=kp he' hq;refine⟨q,_,rfl,bc.of aa,rfl,_,_,rfl,_,_,rfl,rfl,?_⟩;generalize upd H' q (.tup [.int i,.ref t])=H2 at hd2 he2 hS2 ⊢;have hat2:=hat.kt (ac.kt hS2);have hin:nP K H2 (x8 dr) (.ref t):=gD.isIn 8 (by rw[qC];decide) hat2.tk;have hd8:(x8 dr).depth<=8:=by rw[qC];decide
  obtain⟨s,ht2,hs2⟩:=hat2;have bad:(i=2000∨dr∈ds.take i∨dr.a∉J4∨dr.sg∉sgs∨dr.b∉J4)->Q (.int i) H2:=by
   intro c;have:=k H2 hS2;rw[<-hf]at this;unfold B2 at this;rw[if_pos c]at this;exact this
  refine⟨_,rfl,rfl,_,rfl,?_⟩;by_cases c1:i=2000
  ·have e1:decide (V.int (i:Nat)=V.int 2000)=true:=zzr1 (by rw[c1];rfl);rw[e1];exact bh (bh ⟨_,rfl,bad (.inl c1)⟩)
  have e1:decide (V.int (i:Nat)=V.int 2000)=false:=zzr0 (fun z=>c1 (by injection z with z;omega));rw[e1];refine aT ?_;refine⟨_,rfl,_,rfl,e,_,rfl,.inr ⟨_,x8 dr,t,.inl he2,rfl,hin,hd8,rfl⟩,_,rfl,?_⟩;rw[AH];by_cases c2:dr∈ds.take i
  ·rw[zzr1 (xH.mpr c2)];exact bh ⟨_,rfl,bad (.inr (.inl c2))⟩
  rw[zzr0 (fun z=>c2 (xH.mp z))];refine aT ?_;refine⟨_,rfl,.inr (.inl ⟨t,_,0,_,rfl,rfl,bc.of ht2,rfl,_,rfl,d,_,rfl,.inl ⟨_,.inr dr.a,.inl hd2,rfl,rfl⟩,_,rfl,?_⟩)⟩;rw[ir];by_cases c3:dr.a∈J4;rotate_left
  ·rw[zzr0 c3];exact bh (bh ⟨_,rfl,bad (.inr (.inr (.inl c3)))⟩)
  rw[zzr1 c3];refine aT ?_;refine⟨_,rfl,.inr (.inl ⟨t,_,1,_,rfl,rfl,bc.of ht2,rfl,_,rfl,gU dr.sg,sgs.map gU,sl,xs,bI (bc.of hs2),rfl,.inl (ay.of (hS2 _ _ hsl)),Signs.dIns (Signs.same hS2 hsg),by rw[bO];decide,y8 _,_,rfl,?_⟩)⟩;rw[if_pos rfl];by_cases c4:dr.sg∈sgs;rotate_left
  ·rw[zzr0 (fun z=>c4 (xG.mp z))];exact bh (bh ⟨_,rfl,bad (.inr (.inr (.inr (.inl c4))))⟩)
  rw[zzr1 (xG.mpr c4)];refine aT ?_;refine⟨_,rfl,.inr (.inl ⟨t,_,2,_,rfl,rfl,bc.of ht2,rfl,_,rfl,d,_,rfl,.inl ⟨_,.inr dr.b,.inl hd2,rfl,rfl⟩,_,rfl,?_⟩)⟩;rw[ir];by_cases c5:dr.b∈J4;rotate_left
  ·rw[zzr0 c5];exact bh ⟨_,rfl,bad (.inr (.inr (.inr (.inr c5))))⟩
  rw[zzr1 c5];refine aT ?_;have hlen:(i6 ((ds.take i).map x8)).length<ai:=eX (aW (yX _) (by rw[ak,aF];omega));refine⟨_,rfl,_,rfl,e,_,rfl,.inr ⟨_,x8 dr,t,he2,rfl,gG.tk ⟨s,ht2,hs2⟩,hd8,hlen,rfl⟩,_,_,rfl,?_,?_,?_,?_⟩
  ·intro b o q;rw[aj (ag q heH)];exact hS2 _ _ q
  ·rw[aj (fun z=>by rw[z,he2]at hd2;cases hd2)];exact hd2
  ·rw[aa,take_snoc hdr,aG];exact congrArg (fun z=>some (HO.dT z)) (kF _ _).symm
  ·rw[<-hf,take_snoc hdr]
   conv=>rhs;unfold B2
   rw[if_neg];rintro(z|z|z|z|z)
   ·exact c1 z
   ·exact c2 z
   ·exact z c3
   ·exact z c4
   ·exact z c5
 ·rintro σ H' ⟨x,y,rfl,hS,_,_,hf⟩;have:=k H' hS;rw[<-hf,ak,Paired.length hds,rp]at this;exact this
theorem uO{J4:Zb}{sgs:List (List Str)}:∀(ds ahead:List aB) (i:Nat),i+ds.length<=2000->(ahead++ds).Nodup->(∀d∈ds,d.a∈J4/\d.sg∈sgs/\d.b∈J4)->B2 J4 sgs i ahead ds=none
 |[],_,_,_,_,_=>rfl
 |n::ns,ahead,i,h1,h2,h3=>by
  rw[cW]at h1;unfold B2;rw[if_neg]
  ·refine uO ns (ahead++[n]) (i+1) (by omega) (by rw[cH];exact h2) fun w hw=>h3 w (fx _ hw)
  ·have:=h3 n eR;rintro(z|z|z|z|z)
   ·omega
   ·rw[eh]at h2;exact h2.2.2 n z n (eR) rfl
   ·exact z this.1
   ·exact z this.2.1
   ·exact z this.2.2
inductive sp_need_none (vs:List V)(H:Hp)(Q:VK)(E:XK):Prop
 |mk (x:V):(vs=[x,.non])->(Q .non H)->sp_need_none  vs H Q E
theorem sE{K:Za}{vs:List V}{H:Hp}{Q:VK}{E:XK}(h:sp_need_none vs H Q E):ub K (bx Q) (start va vs) H:=by
 obtain⟨x,rfl,k⟩:=h;refine⟨_,rfl,_,rfl,?_⟩;have e:(!decide (V.non=V.non))=false:=by rw[zzr1 rfl];rfl
 rw[e];exact aT k
structure Lists(H:Hp)(l1 l2 l3 l4:Addr)(ts:Ze)(J0 J2 J4:Zb)(ds:List aB):Prop where
 a1:H l1=some (.lst (J0.map V.str))
 a2:H l2=some (.lst (J2.map V.str))
 a3:H l3=some (.lst (J4.map V.str))
 a4:H l4=some (.lst (ts.map V.ref))
 ds:c_ H ts ds
theorem Lists.same{H H':Hp}{l1 l2 l3 l4:Addr}{ts:Ze}{J0 J2 J4:Zb}{ds:List aB}(h:Lists H l1 l2 l3 l4 ts J0 J2 J4 ds)(e:ac H H'):Lists H' l1 l2 l3 l4 ts J0 J2 J4 ds :=
 ⟨e _ _ h.a1,e _ _ h.a2,e _ _ h.a3,e _ _ h.a4,h.ds.kt (ac.kt e)⟩
inductive sp_need_parts (vs:List V)(H:Hp)(Q:VK)(E:XK):Prop
 |mk (l1 l2 l3 l4:Addr) (ts:Ze) (J0 J2 J4:Zb) (ds:List aB):(vs=[.ref l1,.ref l2,.ref l3,.ref l4])->(Lists H l1 l2 l3 l4 ts J0 J2 J4 ds)->(cJ J0 J2 J4 ds)->(∀H',ac H H'->Q .non H')->sp_need_parts  vs H Q E
theorem cJ.signs{J0 J2 J4:Zb}{ds:List aB}(m:cJ J0 J2 J4 ds):∀d∈ds,d.a∈J4/\d.sg∈iy J0 J2/\d.b∈J4:=by
 intro d hd;have g:=m.good d hd;refine⟨g.a,?_,g.b⟩;unfold iy;rcases g.sg with⟨w,hw,e⟩|⟨w,hw,e⟩|e
 ·rw[e];exact dj _ (dj _ (bG.mpr ⟨w,hw,rfl⟩))
 ·rw[e];exact dj _ (dh _ (bG.mpr ⟨w,hw,rfl⟩))
 ·rw[e];exact dh _ (by simp[aY])
theorem mB{ws:Zb}(h:jL ws):∀w∈ws,w.length<=1000:=fun w hw=>aW (h.2 w hw).hi (by decide)
theorem qi{K:Za}{vs:List V}{H:Hp}{Q:VK}{E:XK}(h:sp_need_parts vs H Q E):rR K sp_need_none (sp_first_wrong_door K) (sp_door_signs K) (sp_first_wrong_name K) (bx Q) (start tG vs) H:=by
 obtain⟨l1,l2,l3,l4,ts,J0,J2,J4,ds,rfl,L,m,k⟩:=h;have w1:bV J0 4 []=none:=fK m.asks0 m.asks4 m.okA.1 m.okA.2;have w2:bV J2 4 J0=none:=fK m.says0 m.says4 (by
  rw[eh];exact⟨m.okA.1,m.okS.1,fun a ha b hb e=>m.apart b hb (e▸ha)⟩) m.okS.2
 have w3:bV J4 150 []=none:=fK m.rooms0 (by have:=m.rooms26;omega) m.okR.1 m.okR.2;have w4:B2 J4 (iy J0 J2) 0 [] ds=none:=uO ds [] 0 (by have:=m.few;omega) m.nodup m.signs;have z1:=m.asks4;have z2:=m.says4;have z3:=m.rooms26;have z4:=m.few;refine⟨_,rfl,(by show 0<=ai;decide),fun e he=>⟨l1,e,J0,[],4,rfl,ay.of (kp L.a1 he),ay.of aa,by simp;omega,mB m.okA,fun H1 s1=>?_⟩⟩;rw[w1];refine⟨_,rfl,?_⟩;have S1:=(ac.new he).trans s1;refine⟨_,rfl,_,rfl,l2,l1,J2,J0,4,rfl,ay.of (S1 _ _ L.a2),ay.of (S1 _ _ L.a1),by omega,mB m.okS,fun H2 s2=>?_⟩;rw[w2];refine⟨_,rfl,?_⟩;have S2:=S1.trans s2;refine⟨_,rfl,(by show 0<=ai;decide),fun e he=>⟨l3,e,J4,[],150,rfl,ay.of (kp (S2 _ _ L.a3) he),ay.of aa,by simp;omega,mB m.okR,fun H3 s3=>?_⟩⟩;rw[w3];refine⟨_,rfl,?_⟩;have S3:=(S2.trans (ac.new he)).trans s3;refine⟨_,rfl,_,rfl,_,rfl,_,rfl,l1,l2,J0,J2,rfl,S3 _ _ L.a1,S3 _ _ L.a2,by omega,by omega,fun sl xs H4 hx s4 hsl=>?_⟩;have S4:=S3.trans s4;have L4:=L.same S4;refine⟨l4,l3,sl,ts,ds,J4,xs,iy J0 J2,rfl,L4.a4,L4.ds,L4.a3,by omega,hsl,hx,by omega,fun H5 s5=>?_⟩;rw[w4];exact⟨_,rfl,k H5 (S4.trans s5)⟩
section
variable{κ ι:Type}[DecidableEq κ]{e:ι->κ}
def cT(e:ι->κ)(ps:List (ι×Addr)):List (κ×V):=ps.map fun x=>(e x.1,V.ref x.2)
theorem lG(inj:∀x y,e x=e y->x=y){i:ι}:∀{ps:List (ι×Addr)},i∉ps.map (·.1)->cR (cT e ps) (e i)=none
 |[],_=>rfl
 |x::ps,h=>by
  rw[bM,bS]at h;show cR ((e x.1,V.ref x.2)::cT e ps) (e i)=none;rw[cB (fun z=>h (.inl (inj _ _ z).symm))];exact lG inj (fun z=>h (.inr z))
theorem eD(inj:∀x y,e x=e y->x=y){i:ι}{a:Addr}:∀{ps:List (ι×Addr)},(ps.map (·.1)).Nodup->(i,a)∈ps->cR (cT e ps) (e i)=some (.ref a)
 |[],_,h=>by cases h
 |x::ps,nd,h=>by
  rw[bM,og]at nd;show cR ((e x.1,V.ref x.2)::cT e ps) (e i)=_;rcases bS.mp h with h|h
  ·rw[<-h];exact cM rfl
  ·rw[cB (fun z=>nd.1 (by rw[inj _ _ z];exact bG.mpr ⟨_,h,rfl⟩))];exact eD inj nd.2 h
theorem qK(ps:List (ι×Addr))(i:ι)(a:Addr):cT e (ps++[(i,a)])=cT e ps++[(e i,.ref a)]:=by
 unfold cT;rw[aG]
 rfl
end
structure DL{ι:Type}(H0 H:Hp)(d:Addr)(ps:List (ι×Addr)):Prop where
 nd:(ps.map (·.1)).Nodup
 na:(ps.map (·.2)).Nodup
 fr:∀x∈ps,H0 x.2=none
 frd:H0 d=none
 ned:∀x∈ps,x.2≠d
 same:ac H0 H
theorem DL.snoc{ι:Type}{H0 H H':Hp}{d:Addr}{ps:List (ι×Addr)}{i:ι}{a:Addr}(h:DL H0 H d ps)(hi:i∉ps.map (·.1))(ha:∀x∈ps,x.2≠a)(fr:H0 a=none)(nd:a≠d)(s:ac H0 H'):DL H0 H' d (ps++[(i,a)]):=by
 refine⟨?_,?_,?_,h.frd,?_,s⟩
 ·rw[aG,eh];refine⟨h.nd,by simp,fun x hx y hy e=>?_⟩;have:y=i:=by simpa using hy
  exact hi (by rw[<-this,<-e];exact hx)
 ·rw[aG,eh];refine⟨h.na,by simp,fun x hx y hy e=>?_⟩;have:y=a:=by simpa using hy
  obtain⟨z,hz,rfl⟩:=bG.mp hx;exact ha z hz (e.trans this)
 ·intro x hx;rcases bq.mp hx with hx|hx
  ·exact h.fr x hx
  ·have:x=(i,a):=by simpa using hx
   rw[this];exact fr
 ·intro x hx;rcases bq.mp hx with hx|hx
  ·exact h.ned x hx
  ·have:x=(i,a):=by simpa using hx
   rw[this];exact nd
theorem Ay{ι:Type}:∀{ps:List (ι×Addr)},(ps.map (·.2)).Nodup->∀{x y:ι×Addr},x∈ps->y∈ps->x.2=y.2->x=y
 |[],_,x,_,h,_,_=>by cases h
 |p::ps,nd,x,y,hx,hy,e=>by
  rw[bM,og]at nd;rcases bS.mp hx with hx'|hx'<;>rcases bS.mp hy with hy'|hy'
  ·rw[hx',hy']
  ·exact absurd (bG.mpr ⟨y,hy',by rw[<-e,hx']⟩) nd.1
  ·exact absurd (bG.mpr ⟨x,hx',by rw[e,hy']⟩) nd.1
  ·exact Ay nd.2 hx' hy' e
theorem iT:∀x y:Str,(Sum.inr x:dH)=Sum.inr y->x=y:=fun x y h=>by injection h
def bQ(ds:List aB)(r:Str):List aB:=ds.filter fun d=>decide (d.a=r)
inductive sp_doors_by_start (vs:List V)(H:Hp)(Q:VK)(E:XK):Prop
 |mk (l3 l4:Addr) (ts:Ze) (J4:Zb) (ds:List aB):(vs=[.ref l3,.ref l4])->(H l3=some (.lst (J4.map V.str)))->(H l4=some (.lst (ts.map V.ref)))->(c_ H ts ds)->(J4.Nodup)->(J4.length<=1000)->(ds.length<=9000)->((∀d∈ds,d.a∈J4))->(∀(d:Addr) (ps:List (Str×Addr)) (H':Hp),ps.map (·.1)=J4->H' d=some (.dK (cT Sum.inr ps))->(∀x∈ps,∃us,H' x.2=some (.lst (us.map V.ref))/\c_ H' us (bQ ds x.1))->ac H H'->Q (.ref d) H')->sp_doors_by_start  vs H Q E
theorem lp{K:Za}{vs:List V}{H:Hp}{Q:VK}{E:XK}(h:sp_doors_by_start vs H Q E):mq K (bx Q) (start mR vs) H:=by
 obtain⟨l3,l4,ts,J4,ds,rfl,h3,h4,hds,nod,hz,hz2,hin,k⟩:=h;refine fun d hd=>?_;refine⟨_,rfl,l3,rfl,⟨_,ay.of (kp h3 hd)⟩,?_⟩
 let zI0:Nat->L2.St->Hp->Prop:=fun i σ H'=>∃x y,σ=[some (.ref l3),some (.ref l4),some (.ref d),x,y]/\∃ps:List (Str×Addr),ps.map (·.1)=J4.take i/\H' d=some (.dK (cT Sum.inr ps))/\DL H H' d ps/\∀x∈ps,H' x.2=some (.lst [])
 refine c7 (xs:=J4.map V.str) zI0
  ⟨_,_,rfl,[],rfl,aa,⟨by simp,by simp,by simp,hd,by simp,ac.new hd⟩,by simp⟩ (fun i σ H' _ zq=>by obtain⟨_,_,_,_,_,_,D,_⟩:=zq;exact ay.of (D.same _ _ h3)) ?_ ?_
 ·rintro i x σ H' hi ⟨x3,x4,rfl,ps,hps,hd',D,hls⟩;obtain⟨w,hw,rfl⟩:=cC hi;have hnew:w∉ps.map (·.1):=by
   rw[hps];intro z;have:=nod;rw[<-List.take_append_drop (i+1) J4,take_snoc hw,eh]at this;have:=this.1;rw[eh]at this;exact this.2.2 w z w (by simp) rfl
  refine⟨(by show 0<=ai;decide),fun a ha=>?_⟩;have hlen:(cT (Sum.inr:Str->dH) ps).length<ai:=ao (by
   unfold cT;rw[ak,<-ak (f:=(·.1)) (as:=ps),hps,aF];omega)
  have haH:H a=none:=D.same.free ha;have nda:a≠d:=(ag hd' ha).symm;have hneA:∀x∈ps,x.2≠a:=fun x hx=>ag (hls x hx) ha;refine⟨_,rfl,_,rfl,d,_,rfl,.inl ⟨_,.inr w,kp hd' ha,rfl,hlen,rfl⟩,_,_,rfl,ps++[(w,a)],?_,?_,?_,?_⟩
  ·rw[aG,hps,take_snoc hw];rfl
  ·rw[aa,ux _ (lG iT hnew),qK]
  ·refine D.snoc hnew hneA haH nda ?_;intro b o q;rw[aj (ag q hd)];exact kp (D.same _ _ q) ha
  ·intro x hx;rcases bq.mp hx with hx|hx
   ·rw[aj (D.ned x hx)];exact kp (hls x hx) ha
   ·have:x=(w,a):=by simpa using hx
    rw[this,aj nda];exact aa
 ·rintro σ H1 ⟨x3,x4,rfl,ps,hps,hd1,D1,hls⟩;rw[ak,bo]at hps;refine⟨_,rfl,l4,rfl,⟨_,ay.of (D1.same _ _ h4)⟩,?_⟩
  let zI1:Nat->L2.St->Hp->Prop:=fun i σ H'=>∃x4,σ=[some (.ref l3),some (.ref l4),some (.ref d),x3,x4]/\H' d=some (.dK (cT Sum.inr ps))/\DL H H' d ps/\∀x∈ps,∃us,H' x.2=some (.lst (us.map V.ref))/\c_ H' us (bQ (ds.take i) x.1)
  refine c7 (xs:=ts.map V.ref) zI1
   ⟨_,rfl,hd1,D1,fun x hx=>⟨[],hls x hx,.nil⟩⟩ (fun i σ H' _ zq=>by obtain⟨_,_,_,D,_⟩:=zq;exact ay.of (D.same _ _ h4)) ?_ ?_
  ·rintro i x σ H' hi ⟨x4,rfl,hd',D,hls⟩;obtain⟨t,ht,rfl⟩:=bT hi;obtain⟨dr,hdr,hat⟩:=Paired.getL hds ht;have hat':=hat.kt (ac.kt D.same);have hat2:=hat';obtain⟨s,ht2,hs2⟩:=hat';have hmem:dr.a∈ps.map (·.1):=by rw[hps];exact hin dr (cg hdr)
   obtain⟨⟨r,a⟩,hra,er⟩:=bG.mp hmem;obtain rfl:r=dr.a:=er;obtain⟨us,hus,hdo⟩:=hls _ hra;have hil:i<ds.length:=(bR.mp hdr).1;have hlu:us.length<=9000:=by
    rw[Paired.length hdo];refine aW (fH _ _) ?_;rw[aF];omega
   have KT:gE H' (upd H' a (.lst (us.map V.ref++[.ref t]))):=eE hus;refine⟨_,rfl,_,rfl,.inr (.inl ⟨t,_,0,_,rfl,rfl,bc.of ht2,rfl,d,.ref a,rfl,.inl ⟨_,.inr dr.a,.inl hd',rfl,(eD iT D.nd hra).symm⟩,.inl ⟨rfl,_,ay.of hus⟩,_,rfl,a,_,_,rfl,rfl,hus,?_,_,rfl,?_,?_,?_⟩)⟩
   ·rw[ak];exact eX hlu
   ·rw[aj (D.ned _ hra).symm];exact hd'
   ·refine⟨D.nd,D.na,D.fr,D.frd,D.ned,fun b o q=>?_⟩;rw[aj (ag q (D.fr _ hra))];exact D.same _ _ q
   ·intro x hx;have hfl:∀r',bQ (ds.take (i+1)) r'=bQ (ds.take i) r'++(if dr.a=r' then[dr]else[]):=by
     intro r';unfold bQ;rw[take_snoc hdr,lU];congr 1;by_cases c:dr.a=r'
     ·rw[if_pos c];simp[c]
     ·rw[if_neg c];simp[c]
    by_cases c:x.2=a
    ·have ex:=Ay D.na hx hra c;subst ex;refine⟨us++[t],?_,?_⟩
     ·show upd H' a _ a=_;rw[aa,aG];rfl
     ·rw[hfl];show c_ _ _ (bQ (ds.take i) dr.a++(if dr.a=dr.a then[dr]else[]))
      rw[if_pos rfl];exact Paired.app (hdo.kt KT) (.cons (hat2.kt KT) .nil)
    ·obtain⟨us',h1,h2⟩:=hls x hx;have hne:¬(dr.a=x.1):=fun z=>by
      have e1:=eD (e:=(Sum.inr:Str->dH)) iT D.nd hra;have e2:=eD (e:=(Sum.inr:Str->dH)) (i:=x.1) (a:=x.2) iT D.nd hx;rw[<-z,e1]at e2;injection e2 with e2;injection e2 with e2;exact c e2.symm
     refine⟨us',by rw[aj c];exact h1,?_⟩;rw[hfl,if_neg hne,dD];exact h2.kt KT
  ·rintro σ H' ⟨x4,rfl,hd',D,hls⟩;rw[ak,Paired.length hds,bo]at hls;exact⟨_,rfl,k d ps H' hps hd' hls D.same⟩
def gv(d:aB):Bool:=match d.sg with
 |s::_=>decide (s=("ask":Str))
 |[]=>false
inductive sp_has_asks_alone (vs:List V)(H:Hp)(Q:VK)(E:XK):Prop
 |mk (a:Addr) (us:Ze) (ds:List aB):(vs=[.ref a])->(H a=some (.lst (us.map V.ref)))->(c_ H us ds)->(ds.length<=9000)->((∀d∈ds,d.sg≠[]))->(∀H',ac H H'->Q (.bl (ds.all gv)) H')->sp_has_asks_alone  vs H Q E
theorem ln{K:Za}{vs:List V}{H:Hp}{Q:VK}{E:XK}(h:sp_has_asks_alone vs H Q E):mo K (bx Q) (start mQ vs) H:=by
 obtain⟨a,us,ds,rfl,ha,hds,hz,hne,k⟩:=h;refine⟨_,rfl,a,rfl,⟨_,ay.of ha⟩,fun l hl=>?_⟩
 let zI2:Nat->List V->Hp->Prop:=fun i vs H'=>vs=(ds.take i).map (fun d=>V.bl (gv d))/\ac H H'/\H' l=some (.lst vs)
 refine cP (xs:=us.map V.ref) zI2
  ⟨rfl,ac.new hl,aa⟩ (fun i vs H' _ zq=>by obtain⟨_,hS,h'⟩:=zq;exact⟨h',ay.of (hS _ _ ha)⟩) ?_ ?_
 ·rintro vs H' ⟨rfl,hS,h'⟩;rw[ak,Paired.length hds,bo]at h';refine⟨l,ds.map gv,rfl,ay.of (by rw[h',lW];rfl),?_⟩;rw[oC];exact k H' hS
 ·rintro i vs H' x hx hi ⟨rfl,hS,h'⟩;obtain⟨t,ht,rfl⟩:=bT hx;obtain⟨dr,hdr,hat⟩:=Paired.getL hds ht;obtain⟨s,ht2,hs2⟩:=hat.kt (ac.kt hS);have hmem:=cg hdr;obtain⟨s0,rest,hsg⟩:∃s0 rest,dr.sg=s0::rest:=by
   cases q:dr.sg with
   |nil=>exact absurd q (hne dr hmem)
   |cons x y=>exact⟨x,y,rfl⟩
  unfold SignAt at hs2;rw[hsg]at hs2;refine gN (kY ?_);refine⟨_,rfl,.inr (.inl ⟨t,_,1,_,rfl,rfl,bc.of ht2,rfl,.inr (.inl ⟨s,_,0,.str s0,rfl,rfl,bc.of hs2,aD (j:=0) rfl,rfl,h',?_,n0 hi ⟨?_,?_,aa⟩⟩)⟩)⟩
  ·rw[ak,aF];exact eX (by omega)
  ·rw[take_snoc hdr,aG];congr 1;show[V.bl _]=[V.bl _];congr 2;unfold gv;rw[hsg];show decide (V.str s0=V.str _)=decide (s0=_);by_cases c:s0=("ask":Str)
   ·rw[zzr1 c,zzr1 (by rw[c])]
   ·rw[zzr0 c,zzr0 (fun z=>c (by injection z))]
  ·intro b o e;rw[aj (ag e hl)];exact hS _ _ e
def tP(x:Str×List Str):TK:=.t [p8 x.1,AQ x.2]
theorem iJ:∀x y:Str×List Str,tP x=tP y->x=y:=by
 intro x y h;unfold tP at h;injection h with h;injection h with h1 h;injection h with h2 h;cases x;cases y;simp only at *;rw[nY h1,xS h2]
theorem qE(x:Str×List Str):(tP x).depth<=8:=by
 show max (TK.depth (p8 x.1)) (max (TK.depth (AQ x.2)) 0)+1<=8;rw[qA];show max 0 (max 1 0)+1<=8
 decide
def bL(ds:List aB)(x:Str×List Str):List Str:=(ds.filter fun d=>decide (d.a=x.1/\d.sg=x.2)).map (·.b)
theorem sZ(ds:List aB)(d:aB)(x:Str×List Str):bL (ds++[d]) x=bL ds x++(if(d.a,d.sg)=x then[d.b]else[]):=by
 unfold bL;rw[lU,aG];congr 1;by_cases c:(d.a,d.sg)=x
 ·subst c;simp
 ·rw[if_neg c];have:¬(d.a=x.1/\d.sg=x.2):=fun z=>c (by cases x;simp only at z;rw[z.1,z.2]);simp[List.filter_cons];intro h1 h2;exact this ⟨h1,h2⟩
theorem np{ds:List aB}{x:Str×List Str}(h:∀d∈ds,(d.a,d.sg)≠x):bL ds x=[]:=by
 unfold bL;rw[rm,List.filter_eq_nil_iff];intro d hd;have:¬(d.a=x.1/\d.sg=x.2):=fun z=>h d hd (by cases x;simp only at z;rw[z.1,z.2]);simp;intro h1 h2;exact this ⟨h1,h2⟩
theorem fC{ds:List aB}{x:Str×List Str}{b:Str}:b∈bL ds x↔(⟨x.1,x.2,b⟩:aB)∈ds:=by
 unfold bL;rw[bG];constructor
 ·rintro⟨d,hd,rfl⟩;rw[ik]at hd;obtain⟨h1,h2⟩:=hd;obtain⟨h3,h4⟩:=of_decide_eq_true h2;cases d;simp only at h3 h4;rw[<-h3,<-h4];exact h1
 ·intro h;exact⟨_,ik.mpr ⟨h,zzr1 ⟨rfl,rfl⟩⟩,rfl⟩
structure hV(H:Hp)(g:Addr)(ps:List ((Str×List Str)×Addr))(ds:List aB):Prop where
 nd:(ps.map (·.1)).Nodup
 g:H g=some (.dT (cT tP ps))
 ls:∀x∈ps,H x.2=some (.lst ((bL ds x.1).map V.str))
 all:∀d∈ds,(d.a,d.sg)∈ps.map (·.1)
theorem hV.same{H H':Hp}{g:Addr}{ps:List ((Str×List Str)×Addr)}{ds:List aB}(h:hV H g ps ds)(s:ac H H'):hV H' g ps ds:=⟨h.nd,s _ _ h.g,fun x hx=>s _ _ (h.ls x hx),h.all⟩
inductive lg (vs:List V)(H:Hp)(Q:VK)(E:XK):Prop
 |mk (l4:Addr) (ts:Ze) (ds:List aB):(vs=[.ref l4])->(H l4=some (.lst (ts.map V.ref)))->(c_ H ts ds)->(ds.length<=9000)->(∀(g:Addr) (ps:List ((Str×List Str)×Addr)) (H':Hp),hV H' g ps ds->ac H H'->Q (.ref g) H')->lg  vs H Q E
theorem gm{K:Za}{vs:List V}{H:Hp}{Q:VK}{E:XK}(h:lg vs H Q E):gQ K (bx Q) (start gV vs) H:=by
 obtain⟨l4,ts,ds,rfl,h4,hds,hz,k⟩:=h;refine fun g hg=>?_;refine⟨_,rfl,l4,rfl,⟨_,ay.of (kp h4 hg)⟩,?_⟩
 let zI0:Nat->L2.St->Hp->Prop:=fun i σ H'=>∃x y z,σ=[some (.ref l4),some (.ref g),x,y,z]/\∃ps:List ((Str×List Str)×Addr),DL H H' g ps/\H' g=some (.dT (cT tP ps))/\ps.length<=i/\(∀x∈ps,H' x.2=some (.lst ((bL (ds.take i) x.1).map V.str)))/\∀d∈ds.take i,(d.a,d.sg)∈ps.map (·.1)
 refine c7 (xs:=ts.map V.ref) zI0
  ⟨_,_,_,rfl,[],⟨by simp,by simp,by simp,hg,by simp,ac.new hg⟩,aa,by simp,by simp,by simp⟩ (fun i σ H' _ zq=>by obtain⟨_,_,_,_,_,D,_⟩:=zq;exact ay.of (D.same _ _ h4)) ?_ ?_
 ·rintro i x σ H' hi ⟨x2,x3,x4,rfl,ps,D,hg',hlen,hls,hall⟩;obtain⟨t,ht,rfl⟩:=bT hi;obtain⟨dr,hdr,hat⟩:=Paired.getL hds ht;have hil:i<ds.length:=(bR.mp hdr).1;obtain⟨s,ht2,hs2⟩:=hat.kt (ac.kt D.same);refine⟨t,_,rfl,bc.of ht2,rfl,_,_,rfl,_,_,rfl,_,_,rfl,rfl,?_⟩;refine⟨_,rfl,.inr (.inr (.inl ⟨rfl,.inr ⟨_,hg'⟩⟩)),_,rfl,_,rfl,(by show 2<=ai;decide),fun kt hkt=>⟨(by show 0<=ai;decide),fun nl hnl=>?_⟩⟩;have S2:ac H' (upd (upd H' kt (.tup [.str dr.a,.ref s])) nl (.lst [])):=(ac.new hkt).trans (ac.new hnl);have hkt2:upd (upd H' kt (.tup [.str dr.a,.ref s])) nl (.lst []) kt=some (.tup [.str dr.a,.ref s]):=kp aa hnl;have hnl2:upd (upd H' kt (.tup [.str dr.a,.ref s])) nl (.lst []) nl=some (.lst []):=aa;have hnlH':H' nl=none:=(ac.new hkt).free hnl;generalize upd (upd H' kt (.tup [.str dr.a,.ref s])) nl (.lst [])=H2 at S2 hkt2 hnl2 ⊢;have htk:gD H2 (tP (dr.a,dr.sg)) (.ref kt):=by
   unfold tP gD;refine⟨kt,_,rfl,hkt2,?_⟩;unfold TKAts;refine⟨_,_,rfl,vw _,?_⟩;unfold TKAts;refine⟨_,_,rfl,SignAt.tk (S2 _ _ hs2),?_⟩;unfold TKAts
   rfl
  have hlk:(cT tP ps).length<ai:=eX (by unfold cT;rw[ak];omega);have hgo:∀x,bL (ds.take (i+1)) x=bL (ds.take i) x++(if(dr.a,dr.sg)=x then[dr.b]else[]):=fun x=>by rw[take_snoc hdr,sZ]
  have hgl:∀x,(bL (ds.take i) x).length<=9000:=fun x=>by
   unfold bL;rw[ak];refine aW (fH _ _) ?_;rw[aF];omega
  refine⟨g,kt,_,tP (dr.a,dr.sg),.ref nl,rfl,rfl,S2 _ _ hg',htk,qE _,hlk,fun v hv=>?_,fun hv=>?_⟩
  ·-- there already
   have hmem:(dr.a,dr.sg)∈ps.map (·.1):=by
    refine Classical.byContradiction fun z=>?_;rw[lG iJ z]at hv;cases hv
   obtain⟨⟨r,a⟩,hra,er⟩:=bG.mp hmem;obtain rfl:r=(dr.a,dr.sg):=er;rw[eD iJ D.nd hra]at hv;injection hv with hv;subst hv;have hla:=S2 _ _ (hls _ hra);refine⟨.inl ⟨rfl,_,ay.of hla⟩,_,rfl,a,_,_,rfl,rfl,hla,by rw[ak];exact eX (hgl _),_,_,_,rfl,ps,⟨D.nd,D.na,D.fr,D.frd,D.ned,fun b o q=>?_⟩,?_,by omega,?_,?_⟩
   ·rw[aj (ag q (D.fr _ hra))];exact S2 _ _ (D.same _ _ q)
   ·rw[aj (D.ned _ hra).symm];exact S2 _ _ hg'
   ·intro x hx;by_cases c:x.2=a
    ·have ex:=Ay D.na hx hra c;subst ex;show upd H2 a _ a=_;rw[aa,hgo,if_pos rfl,aG];rfl
    ·have hne:¬((dr.a,dr.sg)=x.1):=fun z=>by
      have e1:=eD (e:=tP) iJ D.nd hra;have e2:=eD (e:=tP) (i:=x.1) (a:=x.2) iJ D.nd hx;rw[<-z,e1]at e2;injection e2 with e2;injection e2 with e2;exact c e2.symm
     rw[aj c,hgo,if_neg hne,dD];exact S2 _ _ (hls x hx)
   ·intro d hd;rw[take_snoc hdr]at hd;rcases bq.mp hd with hd|hd
    ·exact hall d hd
    ·have:d=dr:=by simpa using hd
     rw[this];exact hmem
  ·-- a new list
   have hnew:(dr.a,dr.sg)∉ps.map (·.1):=by
    intro z;obtain⟨⟨r,a⟩,hra,er⟩:=bG.mp z;obtain rfl:r=(dr.a,dr.sg):=er;rw[eD iJ D.nd hra]at hv;cases hv
   have hgne:nl≠g:=(ag hg' hnlH').symm;have hnl3:upd H2 g (.dT (cT tP ps++[(tP (dr.a,dr.sg),.ref nl)])) nl=some (.lst []):=by rw[aj hgne];exact hnl2
   refine⟨.inl ⟨rfl,_,ay.of hnl3⟩,_,rfl,nl,_,_,rfl,rfl,hnl3,(by show 0<ai;decide),_,_,_,rfl,ps++[((dr.a,dr.sg),nl)],?_,?_,?_,?_,?_⟩
   ·refine D.snoc hnew (fun x hx=>ag (hls x hx) hnlH') (D.same.free hnlH') hgne ?_;intro b o q;rw[aj (ag q (D.same.free hnlH')),aj (ag q hg)];exact S2 _ _ (D.same _ _ q)
   ·rw[aj hgne.symm,aa,qK]
   ·rw[aH];show _+1<=_;omega
   ·intro x hx;rcases bq.mp hx with hx|hx
    ·have hne:¬((dr.a,dr.sg)=x.1):=fun z=>hnew (by rw[z];exact bG.mpr ⟨x,hx,rfl⟩);rw[aj (ag (hls x hx) hnlH'),aj (D.ned x hx),hgo,if_neg hne,dD];exact S2 _ _ (hls x hx)
    ·have:x=((dr.a,dr.sg),nl):=by simpa using hx
     subst this;have hnil:bL (ds.take i) (dr.a,dr.sg)=[]:=np fun d hd z=>hnew (by rw[<-z];exact hall d hd);show upd _ nl _ nl=_;rw[aa,hgo,if_pos rfl,hnil]
     rfl
   ·intro d hd;rw[aG];rw[take_snoc hdr]at hd;rcases bq.mp hd with hd|hd
    ·exact dj _ (hall d hd)
    ·have:d=dr:=by simpa using hd
     rw[this];exact dh _ (by simp)
 ·rintro σ H' ⟨x2,x3,x4,rfl,ps,D,hg',hlen,hls,hall⟩;rw[ak,Paired.length hds,bo]at hls hall;exact⟨_,rfl,k g ps H' ⟨D.nd,hg',hls,hall⟩ D.same⟩
theorem pq:∀{L R:Zb},L.Nodup->(∀y∈L,y∈R)->L.length<=R.length
 |[],_,_,_=>bN _
 |x::L,R,nd,h=>by
  rw[og]at nd;have hx:=h x eR;have:=pq (L:=L) (R:=R.erase x) nd.2 fun y hy=>(List.mem_erase_of_ne (fun e:y=x=>nd.1 (by rw[<-e];exact hy))).mpr (h y (fx _ hy));rw[List.length_erase_of_mem hx]at this;have:0<R.length:=List.length_pos_of_mem hx;rw[cW];omega
theorem Reach.in_{ds:List aB}{a b:Str}{J4:Zb}(hr:∀d∈ds,d.b∈J4)(h:Reach ds a b):b∈J4:=by
 cases h with
 |one h=>exact hr _ h
 |step r h=>exact hr _ h
inductive sr (vs:List V)(H:Hp)(Q:VK)(E:XK):Prop
 |mk (g:Addr) (room:Str) (ps:List ((Str×List Str)×Addr)) (ds:List aB) (J4:Zb):(vs=[.ref g,.str room])->(hV H g ps ds)->((∀d∈ds,d.b∈J4))->(J4.length<=1000)->(∀(d:Addr) (L:Zb) (H':Hp),H' d=some (.dK (br L))->L.Nodup->(∀w,w∈L↔Reach ds room w)->H d=none->ac H H'->Q (.ref d) H')->sr  vs H Q E
structure Dn(H0 H:Hp)(ds:List aB)(room:Str)(d w:Addr)(L W:Zb)(open_:Str->Prop):Prop where
 d:H d=some (.dK (br L))
 w:H w=some (.lst (W.map V.str))
 same:ac H0 H
 nd:L.Nodup
 sound:∀y∈L,Reach ds room y
 wait:∀y∈W,y=room∨y∈L
 closed:∀y,(y=room∨y∈L)->y∉W->¬open_ y->∀c∈bL ds (y,aY),c∈L
theorem nK{K:Za}{st:Addr}(hst:∀H,bc K H st (aY.map V.str)){vs:List V}{H:Hp}{Q:VK}{E:XK}(h:sr vs H Q E):oX K st (bx Q) (start pV vs) H:=by
 obtain⟨g,room,ps,ds,J4,rfl,G,hin,hz,k⟩:=h;refine fun d hd=>?_;refine⟨_,rfl,(by show 1<=ai;decide),fun w hw=>?_⟩;have hwH:H w=none:=(ac.new hd).free hw;have hdw:d≠w:=ag aa hw;refine⟨fun m σ H'=>∃(L W:Zb) (x y:Option V),σ=[some (.ref g),some (.str room),some (.ref d),some (.ref w),x,y]/\Dn H H' ds room d w L W (fun _=>False)/\m=2 * (J4.length-L.length)+W.length/\m<=2 * J4.length+1,
  ⟨_,[],[room],_,_,rfl,⟨kp aa hw,aa,(ac.new hd).trans (ac.new hw),rN,by simp,by simp,?_⟩,rfl,ax _⟩,?_⟩
 ·intro y hy hn;rcases hy with rfl|hy
  ·simp at hn
  ·cases hy
 rintro m σ H1 ⟨L,W,x4,x5,rfl,D,rfl,hbound⟩;have lenL:∀{L':Zb},L'.Nodup->(∀y∈L',Reach ds room y)->L'.length<=J4.length:=fun nd sd=>pq nd fun y hy=>(sd y hy).in_ hin;refine⟨_,rfl,.inl ⟨w,_,rfl,.inl (ay.of D.w),_,_,rfl,rfl,_,rfl,?_⟩⟩;refine nN (fun hpos=>?_) (fun hpos=>?_)
 ·have hne:W≠[]:=by
   intro z;rw[z]at hpos;exact absurd (of_decide_eq_true hpos) (by decide)
  obtain⟨W',here,rfl⟩:∃W' here,W=W'++[here]:=⟨W.dropLast,W.getLast hne,(List.dropLast_concat_getLast hne).symm⟩;have hhere:here=room∨here∈L:=D.wait here (by simp);refine⟨fun σ' H'=>∃(L' W2:Zb) (x y:Option V),σ'=[some (.ref g),some (.str room),some (.ref d),some (.ref w),x,y]/\Dn H H' ds room d w L' W2 (fun _=>False)/\2 * (J4.length-L'.length)+W2.length<2 * (J4.length-L.length)+(W'++[here]).length,
   fun σ' H' ⟨L',W2,x,y,e,D',hm⟩=>⟨_,hm,L',W2,x,y,e,D',rfl,by omega⟩,?_⟩
  have hlast:((W'++[here]).map V.str)[((W'++[here]).map V.str).length-1]?=some (.str here):=by simp
  have hdrop:((W'++[here]).map V.str).dropLast=W'.map V.str:=by rw[aG];simp
  refine⟨_,rfl,.inl ⟨rfl,_,ay.of D.w⟩,w,_,_,rfl,rfl,D.w,hlast,?_⟩;rw[hdrop];have hd1:upd H1 w (.lst (W'.map V.str)) d=some (.dK (br L)):=by rw[aj hdw];exact D.d
  have hw1:upd H1 w (.lst (W'.map V.str)) w=some (.lst (W'.map V.str)):=aa;have S1:ac H (upd H1 w (.lst (W'.map V.str))):=fun b o q=>by rw[aj (ag q hwH)];exact D.same _ _ q
  generalize upd H1 w (.lst (W'.map V.str))=H2 at hd1 hw1 S1 ⊢;have G2:=G.same S1;refine⟨_,rfl,g,rfl,.inr ⟨_,.inl G2.g⟩,_,rfl,(by show 2<=ai;decide),fun kt hkt=>⟨(by show 0<=ai;decide),fun et het=>⟨cR (cT tP ps) (tP (here,aY)),.inr ⟨_,tP (here,aY),kt,.inl ?_,rfl,?_,qE _,rfl⟩,?_⟩⟩⟩
  ·exact kp (kp G2.g hkt) het
  ·unfold tP nP;refine⟨kt,_,rfl,bc.of (kp aa het),?_⟩;unfold TKIns;refine⟨_,_,rfl,?_,?_⟩
   ·unfold p8 nP;rfl
   unfold TKIns;refine⟨_,_,rfl,?_,?_⟩
   ·unfold AQ nP;refine⟨st,_,rfl,hst _,?_⟩;unfold aY;show TKIns K _ [p8 _] [V.str _];unfold TKIns;refine⟨_,_,rfl,?_,?_⟩
    ·unfold p8 nP;rfl
    unfold TKIns;rfl
   unfold TKIns;rfl
  have S3:ac H2 (upd (upd H2 kt (.tup [.str here,.ref st])) et (.tup [])):=(ac.new hkt).trans (ac.new het);have het3:upd (upd H2 kt (.tup [.str here,.ref st])) et (.tup []) et=some (.tup []):=aa;generalize upd (upd H2 kt (.tup [.str here,.ref st])) et (.tup [])=H3 at S3 het3 ⊢;have D3:Dn H H3 ds room d w L W' (fun y=>y=here):=⟨S3 _ _ hd1,S3 _ _ hw1,S1.trans S3,D.nd,D.sound,fun y hy=>D.wait y (dj _ hy),fun y hy hn ho=>D.closed y hy (fun z=>by rcases bq.mp z with z|z;exact hn z;exact ho (by simpa using z)) (fun z=>z)⟩;have hm3:2 * (J4.length-L.length)+W'.length<2 * (J4.length-L.length)+(W'++[here]).length:=by rw[aH];show _<_+(_+1);omega
  have fin:∀(H4:Hp) (L' W2:Zb) (x y:Option V),Dn H H4 ds room d w L' W2 (fun y=>y=here)->(∀c∈bL ds (here,aY),c∈L')->2 * (J4.length-L'.length)+W2.length<2 * (J4.length-L.length)+(W'++[here]).length ->
    ∃(L' W2:Zb) (x' y':Option V),[some (V.ref g),some (.str room),some (.ref d),some (.ref w),x,y]=[some (.ref g),some (.str room),some (.ref d),some (.ref w),x',y']/\Dn H H4 ds room d w L' W2 (fun _=>False)/\2 * (J4.length-L'.length)+W2.length<2 * (J4.length-L.length)+(W'++[here]).length:=by
   intro H4 L' W2 x y D4 hc hm;refine⟨L',W2,x,y,rfl,⟨D4.d,D4.w,D4.same,D4.nd,D4.sound,D4.wait,fun y hy hn _=>?_⟩,hm⟩;by_cases e:y=here
   ·rw[e];exact hc
   ·exact D4.closed y hy hn e
  by_cases hmem:(here,aY)∈ps.map (·.1)
  ·obtain⟨⟨r,a⟩,hra,er⟩:=bG.mp hmem;obtain rfl:r=(here,aY):=er;rw[eD iJ G.nd hra];have hla:=G.ls _ hra;refine⟨a,rfl,.inl ⟨⟨_,ay.of ((S1.trans S3) _ _ hla)⟩,?_⟩⟩
   let zI0:Nat->L2.St->Hp->Prop:=fun j σ H'=>Dl fun(L' W2:Zb) (y:Option V)=>CL (σ=[some (.ref g),some (.str room),some (.ref d),some (.ref w),some (.str here),y]) (Dn H H' ds room d w L' W2 (fun y=>y=here)) ((here=room∨here∈L')) ((∀c∈(bL ds (here,aY)).take j,c∈L')) (2 * (J4.length-L'.length)+W2.length<2 * (J4.length-L.length)+(W'++[here]).length)
   refine c7 (xs:=(bL ds (here,aY)).map V.str) zI0
    ⟨L,W',_,rfl,D3,hhere,by simp,hm3⟩ (fun j σ H' _ zq=>by obtain⟨_,_,_,_,D',_,_,_⟩:=zq;exact ay.of (D'.same _ _ hla)) ?_ ?_
   ·rintro j x σ H4 hj ⟨L',W2,y,rfl,D4,hh,hc,hm⟩;obtain⟨goal,hgoal,rfl⟩:=cC hj;have hedge:(⟨here,aY,goal⟩:aB)∈ds:=fC.mp (cg hgoal);have hreach:Reach ds room goal:=by
     rcases hh with hh|hh
     ·rw[hh]at hedge;exact .one hedge
     ·exact .step (D4.sound _ hh) hedge
    have hlen':=lenL D4.nd D4.sound;refine⟨_,rfl,_,rfl,d,_,rfl,.inl ⟨_,.inr goal,.inl D4.d,rfl,rfl⟩,_,rfl,?_⟩;rw[ir];by_cases c:goal∈L'
    ·rw[zzr1 c];refine aT ⟨L',W2,_,rfl,D4,hh,?_,hm⟩;intro c' hc';rw[take_snoc hgoal]at hc';rcases bq.mp hc' with h|h
     ·exact hc c' h
     ·have:c'=goal:=by simpa using h
      rw[this];exact c
    ·rw[zzr0 c];refine bh ?_;have nd':(L'++[goal]).Nodup:=by
      rw[eh];refine⟨D4.nd,by simp,fun a ha b hb e=>?_⟩;have:b=goal:=by simpa using hb
      exact c (by rw[<-this,<-e];exact ha)
     have sd':∀y∈L'++[goal],Reach ds room y:=by
      intro y hy;rcases bq.mp hy with hy|hy
      ·exact D4.sound y hy
      ·have:y=goal:=by simpa using hy
       rw[this];exact hreach
     have hlen2:=lenL nd' sd';rw[aH]at hlen2;have hlen3:L'.length+1<=J4.length:=hlen2;have hWl:W2.length<=9000:=by omega
     refine⟨_,rfl,_,rfl,d,_,rfl,.inl ⟨_,.inr goal,D4.d,rfl,ao (aW (kE _) (by omega)),rfl⟩,?_⟩;have hw5:upd H4 d (.dK (fA (br L') (.inr goal) (.bl true))) w=some (.lst (W2.map V.str)):=by rw[aj hdw.symm];exact D4.w
     refine⟨_,rfl,.inl ⟨rfl,_,ay.of hw5⟩,_,rfl,w,_,_,rfl,rfl,hw5,by rw[ak];exact eX hWl,L'++[goal],W2++[goal],_,rfl,⟨?_,?_,?_,nd',sd',?_,?_⟩,?_,?_,?_⟩
     ·rw[aj hdw,aa,fD]
     ·rw[aa,aG];rfl
     ·intro b o q;rw[aj (ag q hwH),aj (ag q hd)];exact D4.same _ _ q
     ·intro y hy;rcases bq.mp hy with hy|hy
      ·rcases D4.wait y hy with h|h
       ·exact .inl h
       ·exact .inr (dj _ h)
      ·exact .inr (dh _ hy)
     ·intro y hy hn ho c' hc';have hn1:y∉W2:=fun z=>hn (dj _ z);have hyg:y≠goal:=fun z=>hn (dh _ (by simp[z]));refine dj _ (D4.closed y ?_ hn1 ho c' hc');rcases hy with hy|hy
      ·exact .inl hy
      ·rcases bq.mp hy with hy|hy
       ·exact .inr hy
       ·exact absurd (by simpa using hy) hyg
     ·rcases hh with h|h
      ·exact .inl h
      ·exact .inr (dj _ h)
     ·intro c' hc';rw[take_snoc hgoal]at hc';rcases bq.mp hc' with h|h
      ·exact dj _ (hc c' h)
      ·exact dh _ h
     ·rw[aH,aH];show 2 * (J4.length-(L'.length+1))+(W2.length+1)<_;omega
   ·rintro σ H4 ⟨L',W2,y,rfl,D4,hh,hc,hm⟩;rw[ak,bo]at hc;exact fin H4 L' W2 _ _ D4 hc hm
  ·rw[lG iJ hmem];refine⟨et,rfl,.inr ⟨⟨_,bc.of het3⟩,?_⟩⟩;have hnil:bL ds (here,aY)=[]:=np fun x hx z=>hmem (by rw[<-z];exact G.all x hx)
   let zI0:Nat->L2.St->Hp->Prop:=fun j σ H'=>σ=[some (.ref g),some (.str room),some (.ref d),some (.ref w),some (.str here),x5]/\H'=H3
   refine B3 (xs:=[]) zI0 ⟨rfl,rfl⟩ (fun j σ H' _ zq=>by obtain⟨_,e⟩:=zq;exact by rw[e];exact bc.of het3) (fun j x σ H' hj=>by cases hj) ?_;rintro σ H' ⟨rfl,rfl⟩;exact fin _ L W' _ _ D3 (by rw[hnil];simp) hm3
 ·have hnil:W=[]:=by
   cases W with
   |nil=>rfl
   |cons a W=>exact absurd (zzr1 (by rw[ak,cW];omega)) hpos
  subst hnil;refine⟨_,rfl,k d L H1 D.d D.nd (fun w=>⟨D.sound w,fun hr=>?_⟩) hd D.same⟩
  induction hr with
  |one h=>exact D.closed room (.inl rfl) (by simp) (fun z=>z) _ (fC.mpr h)
  |step r h ih=>exact D.closed _ (.inr ih) (by simp) (fun z=>z) _ (fC.mpr h)
inductive sp_first_led_round (vs:List V)(H:Hp)(Q:VK)(E:XK):Prop
 |mk (l3 d:Addr) (J4:Zb) (ps:List (Str×Addr)):(vs=[.ref l3,.ref d])->(H l3=some (.lst (J4.map V.str)))->(H d=some (.dK (cT Sum.inr ps)))->(ps.map (·.1)=J4)->(J4.Nodup)->((∀x∈ps,∃L,H x.2=some (.dK (br L))/\x.1∉L))->(∀H',ac H H'->Q .non H')->sp_first_led_round  vs H Q E
theorem kr{K:Za}{vs:List V}{H:Hp}{Q:VK}{E:XK}(h:sp_first_led_round vs H Q E):k5 K (bx Q) (start lT vs) H:=by
 obtain⟨l3,d,J4,ps,rfl,h3,hd,hps,nod,hL,k⟩:=h;refine⟨_,rfl,l3,rfl,⟨_,ay.of h3⟩,?_⟩
 let zI0:Nat->L2.St->Hp->Prop:=fun i σ H'=>∃x y,σ=[some (.ref l3),some (.ref d),x,y]/\ac H H'
 refine gy (xs:=J4.map V.str) zI0 ⟨_,_,rfl,ac.refl H⟩ (fun i σ H' _ zq=>by obtain⟨_,_,_,S⟩:=zq;exact ay.of (S _ _ h3)) ?_ ?_
 ·rintro i x σ H' t hi ⟨x2,x3,rfl,S⟩ ht;obtain⟨w,hw,rfl⟩:=cC hi;refine⟨t,_,rfl,bc.of aa,rfl,_,_,rfl,_,_,rfl,rfl,?_⟩;have S2:ac H (upd H' t (.tup [.int i,.str w])):=S.trans (ac.new ht);generalize upd H' t (.tup [.int i,.str w])=H2 at S2 ⊢;have hmem:w∈ps.map (·.1):=by rw[hps];exact cg hw
  obtain⟨⟨r,a⟩,hra,er⟩:=bG.mp hmem;obtain rfl:r=w:=er;obtain⟨L,hLa,hn⟩:=hL _ hra;refine⟨_,rfl,_,rfl,_,rfl,d,.ref a,rfl,.inl ⟨_,.inr r,.inl (S2 _ _ hd),rfl,(eD iT (by rw[hps];exact nod) hra).symm⟩,a,_,rfl,.inl ⟨_,.inr r,.inl (S2 _ _ hLa),rfl,rfl⟩,_,rfl,?_⟩;rw[ir,zzr0 hn];exact aT ⟨_,_,rfl,S2⟩
 ·rintro σ H' ⟨x,y,rfl,S⟩;exact k H' S
abbrev lk(f:Str)(fs:List (Str×V)):Option V:=fs.lookup f
def ky(ds:List aB)(r:Str):Bool:=(bQ ds r).all gv
structure ck(C:Addr)(H:Hp)(x:Addr)(J0 J2 J4:Zb)(ds:List aB):Prop where
 at_:∃(dx:Addr) (fs:List (Str×V)) (o1 o2 o3 o4 lv qu sg sl:Addr) (ts:Ze) (lps:List (Str×Addr)) (gps:List ((Str×List Str)×Addr)) (sps:List (Str×Addr)),
  H x=some (.ins C dx fs)/\lk "is_quiet" fs=none/\lk "goals" fs=none/\lk "led_from" fs=none/\lk "rooms" fs=none /\
  lk "own_asks" fs=some (.ref o1)/\lk "own_says" fs=some (.ref o2)/\lk "own_rooms" fs=some (.ref o3)/\lk "own_doors" fs=some (.ref o4) /\
  lk "leaving" fs=some (.ref lv)/\lk "quiet" fs=some (.ref qu)/\lk "sign_goals" fs=some (.ref sg)/\lk "still_led" fs=some (.ref sl) /\
  Lists H o1 o2 o3 o4 ts J0 J2 J4 ds /\
  lps.map (·.1)=J4/\H lv=some (.dK (cT Sum.inr lps))/\(∀x∈lps,∃us,H x.2=some (.lst (us.map V.ref))/\c_ H us (bQ ds x.1)) /\
  H qu=some (.dK (br (J4.filter (ky ds))))/\hV H sg gps ds /\
  sps.map (·.1)=J4/\H sl=some (.dK (cT Sum.inr sps))/\(∀x∈sps,∃L,H x.2=some (.dK (br L))/\L.Nodup/\∀w,w∈L↔Reach ds x.1 w)
 ok:cJ J0 J2 J4 ds
 more:∃(dx:Addr) (fs:List (Str×V)),H x=some (.ins C dx fs)/\lk "asks" fs=none/\lk "says" fs=none/\lk "doors" fs=none/\lk "doors_from" fs=none
theorem fB(f:Str)(v:V):∀fs:List (Str×V),(cx f v fs).length<=fs.length+1
 |[]=>ax _
 | (g,x)::r=>by
  unfold cx;split
  ·exact tQ _
  ·rw[cW,cW];have:=fB f v r;omega
theorem pr:∀(ps qs:List (Str×Addr)),((qs++ps).map (·.1)).Nodup->h_ (cT Sum.inr qs) (cT Sum.inr ps)=cT Sum.inr (qs++ps)
 |[],qs,_=>by rw[dD];rfl
 |p::ps,qs,nd=>by
  show h_ (fA (cT Sum.inr qs) (Sum.inr p.1) (.ref p.2)) (cT Sum.inr ps)=_;have e:qs++p::ps=(qs++[p])++ps:=by simp
  rw[e]at nd ⊢;have hnew:p.1∉qs.map (·.1):=by
   rw[aG,aG,eh]at nd;have:=nd.1;rw[eh]at this;intro z;exact this.2.2 _ z _ (by simp) rfl
  rw[ux _ (lG iT hnew)];have:=pr ps (qs++[p]) nd;rw[<-this];have e2:cT (Sum.inr:Str->dH) (qs++[p])=cT Sum.inr qs++[(Sum.inr p.1,V.ref p.2)]:=by
   unfold cT;rw[aG];rfl
  rw[e2]
inductive nW(C:Addr)(vs:List V)(H:Hp)(Q:VK)(E:XK):Prop
 |mk (x dx l1 l2 l3 l4:Addr) (ts:Ze) (J0 J2 J4:Zb) (ds:List aB):(vs=[.ref x,.ref l1,.ref l2,.ref l3,.ref l4])->(H x=some (.ins C dx []))->(Lists H l1 l2 l3 l4 ts J0 J2 J4 ds)->(cJ J0 J2 J4 ds)->(∀H',ck C H' x J0 J2 J4 ds->b0 x H H'->Q .non H')->nW C vs H Q E
theorem Lists.exI{H H':Hp}{x C dx:Addr}{fs:List (Str×V)}{l1 l2 l3 l4:Addr}{ts:Ze}{J0 J2 J4:Zb}{ds:List aB}(h:Lists H l1 l2 l3 l4 ts J0 J2 J4 ds)(hx:H x=some (.ins C dx fs))(e:b0 x H H'):Lists H' l1 l2 l3 l4 ts J0 J2 J4 ds:=by
 have ne:∀{b:Addr}{xs:List V},H b=some (.lst xs)->b≠x:=fun hb z=>by rw[z,hx]at hb;cases hb
 exact⟨e _ _ h.a1 (ne h.a1),e _ _ h.a2 (ne h.a2),e _ _ h.a3 (ne h.a3),e _ _ h.a4 (ne h.a4),h.ds.kt fun b xs hb=>e _ _ hb fun z=>by rw[z,hx]at hb;cases hb⟩
theorem b0.ktI{H H':Hp}{x C dx:Addr}{fs:List (Str×V)}(e:b0 x H H')(hx:H x=some (.ins C dx fs)):gE H H':=fun b xs hb=>e _ _ hb fun z=>by rw[z,hx]at hb;cases hb
theorem b0.neI{H:Hp}{x C dx:Addr}{fs:List (Str×V)}(hx:H x=some (.ins C dx fs)){b:Addr}{xs:List V}(hb:H b=some (.lst xs)):b≠x:=fun z=>by rw[z,hx]at hb;cases hb
theorem Ax{H:Hp}{x C dx:Addr}{fs:List (Str×V)}(hx:H x=some (.ins C dx fs)){b:Addr}{kvs:List (dH×V)}(hb:H b=some (.dK kvs)):b≠x:=fun z=>by rw[z,hx]at hb;cases hb
theorem Cy{H:Hp}{x C dx:Addr}{fs:List (Str×V)}(hx:H x=some (.ins C dx fs)){b:Addr}{kvs:List (TK×V)}(hb:H b=some (.dT kvs)):b≠x:=fun z=>by rw[z,hx]at hb;cases hb
structure MC(K:Za)(C:Addr):Prop where
 cls:zK K C
 a1:eJ K C "own_asks"
 a2:eJ K C "own_says"
 a3:eJ K C "own_rooms"
 a4:eJ K C "own_doors"
 a5:eJ K C "leaving"
 a6:eJ K C "quiet"
 a7:eJ K C "sign_goals"
 a8:eJ K C "still_led"
theorem uP{H:Hp}{x C dx:Addr}{fs:List (Str×V)}(f:Str)(y:V)(hx:H x=some (.ins C dx fs)):∃H',H'=upd H x (.ins C dx (cx f y fs))/\H' x=some (.ins C dx (cx f y fs))/\b0 x H H' :=
 ⟨_,rfl,aa,b0.upd _ _ _⟩
theorem d7{p:Str->Bool}{ws:Zb}{i:Nat}{w:Str}(h:ws[i]?=some w):(ws.take (i+1)).filter p=(ws.take i).filter p++(if p w=true then[w]else[]):=by
 rw[take_snoc h,lU];congr 1;by_cases c:p w=true
 ·rw[if_pos c];simp[c]
 ·rw[if_neg c];simp[c]
theorem v_(ds:List aB)(r:Str):(bQ ds r).length<=ds.length:=fH _ _
theorem cJ.sg0{J0 J2 J4:Zb}{ds:List aB}(m:cJ J0 J2 J4 ds){r:Str}:∀d∈bQ ds r,d.sg≠[]:=by
 intro d hd;have:=m.good d (ik.mp hd).1;rcases this.sg with⟨w,_,e⟩|⟨w,_,e⟩|e<;>rw[e]<;>exact List.cons_ne_nil _ _
theorem BG{K:Za}{C:Addr}(M:MC K C){vs:List V}{H:Hp}{Q:VK}{E:XK}(h:nW C vs H Q E):
  km K sp_need_none sp_first_led_round sr lg (sp_as_keys K) sp_has_asks_alone sp_doors_by_start sp_need_parts (bx Q) (start kL vs) H:=by
 obtain⟨x,dx,l1,l2,l3,l4,ts,J0,J2,J4,ds,rfl,hx,L,m,k⟩:=h;have z3:=m.rooms26;have z4:=m.few;refine⟨_,rfl,_,rfl,_,rfl,_,rfl,l1,l2,l3,l4,ts,J0,J2,J4,ds,rfl,L,m,fun H1 S1=>?_⟩;have hx1:=S1 _ _ hx;have L1:=L.same S1;have E1:b0 x H H1:=ac.exB S1;refine⟨_,rfl,.inl ⟨l1,_,rfl,.inl (ay.of L1.a1),fun o1 ho1=>⟨_,rfl,x,C,dx,_,rfl,kp hx1 ho1,M.cls,M.a1,(by show 0<1000;decide),?_⟩⟩⟩;obtain⟨H2,e2,hx2,F2⟩:=uP "own_asks" (.ref o1) (kp (x:=.lst (J0.map V.str)) hx1 ho1);rw[<-e2];have n1:o1≠x:=(ag hx1 ho1).symm;have f1:=F2 _ _ aa n1;have E2:b0 x H1 H2:=(b0.new ho1).trans F2;have L2':=L1.exI hx1 E2;have len2:(cx ("own_asks":Str) (.ref o1) []).length<=1:=fB _ _ _;clear e2 F2;refine⟨_,rfl,.inl ⟨l2,_,rfl,.inl (ay.of L2'.a2),fun o2 ho2=>⟨_,rfl,x,C,dx,_,rfl,kp hx2 ho2,M.cls,M.a2,by omega,?_⟩⟩⟩;obtain⟨H3,e3,hx3,F3⟩:=uP "own_says" (.ref o2) (kp (x:=.lst (J2.map V.str)) hx2 ho2);rw[<-e3];have n2:o2≠x:=(ag hx2 ho2).symm;have f2:=F3 _ _ aa n2;have E3:b0 x H2 H3:=(b0.new ho2).trans F3;have L3:=L2'.exI hx2 E3;have len3:=fB ("own_says":Str) (.ref o2) (cx ("own_asks":Str) (.ref o1) []);clear e3 F3;refine⟨_,rfl,.inl ⟨l3,_,rfl,.inl (ay.of L3.a3),fun o3 ho3=>⟨_,rfl,x,C,dx,_,rfl,kp hx3 ho3,M.cls,M.a3,by omega,?_⟩⟩⟩;obtain⟨H4,e4,hx4,F4⟩:=uP "own_rooms" (.ref o3) (kp (x:=.lst (J4.map V.str)) hx3 ho3);rw[<-e4];have n3:o3≠x:=(ag hx3 ho3).symm;have f3:=F4 _ _ aa n3;have E4:b0 x H3 H4:=(b0.new ho3).trans F4;have L4:=L3.exI hx3 E4;have len4:=fB ("own_rooms":Str) (.ref o3) (cx ("own_says":Str) (.ref o2) (cx ("own_asks":Str) (.ref o1) []));clear e4 F4;refine⟨_,rfl,.inl ⟨l4,_,rfl,.inl (ay.of L4.a4),fun o4 ho4=>⟨_,rfl,x,C,dx,_,rfl,kp hx4 ho4,M.cls,M.a4,by omega,?_⟩⟩⟩;obtain⟨H5,e5,hx5,F5⟩:=uP "own_doors" (.ref o4) (kp (x:=.lst (ts.map V.ref)) hx4 ho4);rw[<-e5];have n4:o4≠x:=(ag hx4 ho4).symm;have f4:=F5 _ _ aa n4;have E5:b0 x H4 H5:=(b0.new ho4).trans F5;have L5:=L4.exI hx4 E5;generalize hfs4:cx ("own_doors":Str) (.ref o4) (cx ("own_rooms":Str) (.ref o3) (cx ("own_says":Str) (.ref o2) (cx ("own_asks":Str) (.ref o1) [])))=fs4 at hx5;have len5:fs4.length<=4:=by
  rw[<-hfs4];have:=fB ("own_doors":Str) (.ref o4) (cx ("own_rooms":Str) (.ref o3) (cx ("own_says":Str) (.ref o2) (cx ("own_asks":Str) (.ref o1) [])));omega
 clear e5 F5;refine⟨_,rfl,_,rfl,l3,l4,ts,J4,ds,rfl,L5.a3,L5.a4,L5.ds,m.okR.1,by omega,by omega,fun d hd=>(m.good d hd).a,fun lv lps H6' hlps flv' hlv' S6=>⟨_,rfl,x,C,dx,fs4,rfl,S6 _ _ hx5,M.cls,M.a5,by omega,?_⟩⟩;obtain⟨H6,e6,hx6,F6⟩:=uP "leaving" (.ref lv) (S6 _ _ hx5);rw[<-e6];have E6:b0 x H5 H6:=(ac.exB S6).trans F6;have L6:=L5.exI hx5 E6;have flv:=F6 _ _ flv' (Ax (S6 _ _ hx5) flv');have hlv:∀y∈lps,∃us,H6 y.2=some (.lst (us.map V.ref))/\c_ H6 us (bQ ds y.1):=fun y hy=>by
  obtain⟨us,g1,g2⟩:=hlv' y hy;exact⟨us,F6 _ _ g1 (b0.neI (S6 _ _ hx5) g1),g2.kt (F6.ktI (S6 _ _ hx5))⟩
 have ndl:(lps.map (·.1)).Nodup:=by rw[hlps];exact m.okR.1
 have len6:=fB ("leaving":Str) (.ref lv) fs4;have lk5:lk "leaving" (cx ("leaving":Str) (.ref lv) fs4)=some (.ref lv):=by
  show i8 _ _=_;rw[dZ,if_pos rfl]
 clear e6 F6 flv' hlv';refine⟨_,rfl,l3,rfl,⟨_,ay.of L6.a3⟩,fun f hf=>?_⟩
 let zI0:Nat->List V->Hp->Prop:=fun i vs H'=>vs=((J4.take i).filter (ky ds)).map V.str/\ac H6 H'/\H' f=some (.lst vs)
 refine cP (xs:=J4.map V.str) zI0 ⟨rfl,ac.new hf,aa⟩ (fun i vs H' _ zq=>by obtain⟨_,S,h'⟩:=zq;exact⟨h',ay.of (S _ _ L6.a3)⟩) ?_ ?_;rotate_left
 ·rintro i vs H' x' hx' hi ⟨rfl,S,f'⟩;obtain⟨r,hr,rfl⟩:=cC hx';obtain⟨⟨r',a⟩,hra,er⟩:=bG.mp (show r∈lps.map (·.1) by rw[hlps];exact cg hr);obtain rfl:r'=r:=er;obtain⟨us,hus,hdo⟩:=hlv _ hra;refine gN ?_;refine⟨_,rfl,x,C,dx,_,.ref lv,rfl,S _ _ hx6,M.cls,M.a5,lk5,_,rfl,lv,.ref a,rfl,.inl ⟨_,.inr r',.inl (S _ _ flv),rfl,(eD iT ndl hra).symm⟩,a,us,bQ ds r',rfl,S _ _ hus,hdo.kt (ac.kt S),aW (v_ _ _) (by omega),m.sg0,fun H'' S''=>⟨_,rfl,?_⟩⟩;have hlen:(((J4.take i).filter (ky ds)).map V.str).length<ai:=by
   rw[ak];refine ao (aW (fH _ _) ?_);rw[aF];omega
  refine nN (fun hq=>?_) (fun hq=>?_)
  ·refine⟨_,rfl,S'' _ _ f',hlen,n0 hi ⟨?_,?_,aa⟩⟩
   ·rw[d7 hr,if_pos (show ky ds r'=true from hq),aG];rfl
   ·intro b o q;rw[aj (ag q hf)];exact S'' _ _ (S _ _ q)
  ·refine n0 hi ⟨?_,S.trans S'',?_⟩
   ·rw[d7 hr,if_neg (show ¬ky ds r'=true from hq),dD]
   ·exact S'' _ _ f'
 rintro vs H7' ⟨rfl,S7,f7⟩;rw[ak,bo]at f7;refine mL (ws:=J4.filter (ky ds)) (ay.of f7) (aW (fH _ _) (by omega)) fun qu hqu=>⟨_,rfl,x,C,dx,_,rfl,kp (S7 _ _ hx6) hqu,M.cls,M.a6,by omega,?_⟩;obtain⟨H7,e7,hx7,F7⟩:=uP "quiet" (.ref qu) (kp (x:=.dK (br (J4.filter (ky ds)))) (S7 _ _ hx6) hqu);rw[<-e7];have n7:qu≠x:=(ag (S7 _ _ hx6) hqu).symm;have fqu:=F7 _ _ aa n7;have E7:b0 x H6 H7:=((ac.exB S7).trans (b0.new hqu)).trans F7;have L7:=L6.exI hx6 E7;have len7:=fB ("quiet":Str) (.ref qu) (cx ("leaving":Str) (.ref lv) fs4);clear e7 F7;refine⟨_,rfl,l4,ts,ds,rfl,L7.a4,L7.ds,by omega,fun sg gps H8' G' S8=>⟨_,rfl,x,C,dx,_,rfl,S8 _ _ hx7,M.cls,M.a7,by omega,?_⟩⟩;obtain⟨H8,e8,hx8,F8⟩:=uP "sign_goals" (.ref sg) (S8 _ _ hx7);rw[<-e8];have E8:b0 x H7 H8:=(ac.exB S8).trans F8;have L8:=L7.exI hx7 E8;have G8:hV H8 sg gps ds:=⟨G'.nd,F8 _ _ G'.g (Cy (S8 _ _ hx7) G'.g),fun y hy=>F8 _ _ (G'.ls y hy) (b0.neI (S8 _ _ hx7) (G'.ls y hy)),G'.all⟩;have len8:=fB ("sign_goals":Str) (.ref sg) (cx ("quiet":Str) (.ref qu) (cx ("leaving":Str) (.ref lv) fs4));have lk7:lk "sign_goals" (cx ("sign_goals":Str) (.ref sg) (cx ("quiet":Str) (.ref qu) (cx ("leaving":Str) (.ref lv) fs4)))=some (.ref sg):=by
  show i8 _ _=_;rw[dZ,if_pos rfl]
 clear e8 F8 G';refine⟨_,rfl,l3,rfl,⟨_,ay.of L8.a3⟩,fun f2' hf2=>?_⟩
 let zI1:Nat->List V->Hp->Prop:=fun i vs H'=>Dm fun(us:Ze) (pl:List (Str×Addr))=>NA6 (vs=us.map V.ref) (Paired (fun t (p:Str×Addr)=>H' t=some (.tup [.str p.1,.ref p.2])) us pl) (pl.map (·.1)=J4.take i) ((∀p∈pl,∃L,H' p.2=some (.dK (br L))/\L.Nodup/\∀w,w∈L↔Reach ds p.1 w)) (ac H8 H') (H' f2'=some (.lst vs))
 refine cP (xs:=J4.map V.str) zI1
  ⟨[],[],rfl,.nil,rfl,by simp,ac.new hf2,aa⟩ (fun i vs H' _ zq=>by obtain⟨_,_,_,_,_,_,S,h'⟩:=zq;exact⟨h',ay.of (S _ _ L8.a3)⟩) ?_ ?_
 rotate_left
 ·rintro i vs H' x' hx' hi ⟨us,pl,rfl,hpa,hpl,hle,S,f'⟩;obtain⟨r,hr,rfl⟩:=cC hx';have hilen:us.length<=150:=by
   rw[Paired.length hpa,<-ak (f:=(·.1)) (as:=pl),hpl,aF];omega
  refine gN (kY ?_);refine⟨_,rfl,_,rfl,x,C,dx,_,.ref sg,rfl,S _ _ hx8,M.cls,M.a7,lk7,_,rfl,sg,r,gps,ds,J4,rfl,G8.same S,fun d hd=>(m.good d hd).b,by omega,fun ld Lr H'' hld nd hLr hfr S''=>⟨(by show 2<=ai;decide),fun t ht=>⟨?_,?_,n0 hi ⟨us++[t],pl++[(r,ld)],?_,?_,?_,?_,?_,aa⟩⟩⟩⟩
  ·exact kp (S'' _ _ f') ht
  ·rw[ak];exact ao (by omega)
  ·rw[aG];rfl
  ·have KT:gE (upd H'' t (.tup [.str r,.ref ld])) (upd (upd H'' t (.tup [.str r,.ref ld])) f2' (.lst (us.map V.ref++[.ref t]))):=eE (kp (S'' _ _ f') ht);exact Paired.app (Paired.mapP hpa fun t' p' e=>KT _ _ (kp (S'' _ _ e) ht)) (.cons (KT _ _ aa) .nil)
  ·rw[aG,hpl,take_snoc hr];rfl
  ·have ned:∀{b:Addr}{kvs:List (dH×V)},upd H'' t (.tup [.str r,.ref ld]) b=some (.dK kvs)->b≠f2':=fun hb z=>by rw[z,kp (S'' _ _ f') ht]at hb;cases hb
   intro p hp;rcases bq.mp hp with hp|hp
   ·obtain⟨L0,g1,g2⟩:=hle p hp;refine⟨L0,?_,g2⟩;have:=kp (x:=.tup [.str r,.ref ld]) (S'' _ _ g1) ht;rw[aj (ned this)];exact this
   ·have:p=(r,ld):=by simpa using hp
    subst this;refine⟨Lr,?_,nd,hLr⟩;have:=kp (x:=.tup [.str r,.ref ld]) hld ht;rw[aj (ned this)];exact this
  ·intro b o q;rw[aj (ag q hf2)];exact kp (S'' _ _ (S _ _ q)) ht
 rintro vs H9' ⟨us,sps,rfl,hpa,hsps,hled,S9,f9⟩;rw[ak,bo]at hsps;have nds:(sps.map (·.1)).Nodup:=by rw[hsps];exact m.okR.1
 refine⟨f2',us,cT Sum.inr sps,rfl,ay.of f9,?_,?_,fun sl hsl=>⟨_,rfl,x,C,dx,_,rfl,kp (S9 _ _ hx8) hsl,M.cls,M.a8,by omega,?_⟩⟩
 ·rw[Paired.length hpa];unfold cT;rw[ak]
 ·intro j t kv hj hkv;obtain⟨p,hp,e⟩:=Paired.getL hpa hj;unfold cT at hkv;rw[ej,hp]at hkv;have:=dC hkv;rw[<-this];exact e
 have emerge:h_ [] (cT Sum.inr sps)=cT Sum.inr sps:=pr sps [] nds;rw[emerge];obtain⟨H9,e9,hx9,F9⟩:=uP "still_led" (.ref sl) (kp (x:=.dK (cT Sum.inr sps)) (S9 _ _ hx8) hsl);rw[<-e9];have n9:sl≠x:=(ag (S9 _ _ hx8) hsl).symm;have fsl:=F9 _ _ aa n9;have E9:b0 x H8 H9:=((ac.exB S9).trans (b0.new hsl)).trans F9;have L9:=L8.exI hx8 E9;have hled9:∀p∈sps,∃L,H9 p.2=some (.dK (br L))/\L.Nodup/\∀w,w∈L↔Reach ds p.1 w:=fun p hp=>by
  obtain⟨L0,g1,g2⟩:=hled p hp;have g3:=kp (x:=.dK (cT Sum.inr sps)) g1 hsl;exact⟨L0,F9 _ _ g3 (Ax (kp (S9 _ _ hx8) hsl) g3),g2⟩
 clear e9 F9;have lk8:lk "still_led" (cx ("still_led":Str) (.ref sl) (cx ("sign_goals":Str) (.ref sg) (cx ("quiet":Str) (.ref qu) (cx ("leaving":Str) (.ref lv) fs4))))=some (.ref sl):=by
  show i8 _ _=_;rw[dZ,if_pos rfl]
 refine⟨_,rfl,_,rfl,x,C,dx,_,.ref sl,rfl,hx9,M.cls,M.a8,lk8,l3,sl,J4,sps,rfl,L9.a3,fsl,hsps,m.okR.1,fun p hp=>?_,fun H10 S10=>⟨_,rfl,k H10 ?_ ?_⟩⟩
 ·obtain⟨L0,g1,g2,g3⟩:=hled9 p hp;exact⟨L0,g1,fun z=>m.noround _ ((g3 _).mp z)⟩
 ·have X69:b0 x H6 H9:=(E7.trans E8).trans E9;have X59:=((E6.trans E7).trans E8).trans E9;have Y:∀{b:Addr}{o:HO},H9 b=some o->H10 b=some o:=fun h=>S10 _ _ h;have LL:Lists H5 o1 o2 o3 o4 ts J0 J2 J4 ds:=⟨(E3.trans (E4.trans E5)) _ _ f1 n1,(E4.trans E5) _ _ f2 n2,E5 _ _ f3 n3,f4,L5.ds⟩;refine⟨⟨dx,_,o1,o2,o3,o4,lv,qu,sg,sl,ts,lps,gps,sps,Y hx9,?_,?_,?_,?_,?_,?_,?_,?_,?_,?_,?_,lk8,(LL.exI hx5 X59).same S10,hlps,?_,?_,?_,?_,hsps,Y fsl,fun p hp=>?_⟩,m,⟨dx,_,Y hx9,?_,?_,?_,?_⟩⟩
  rotate_right 9
  ·exact Y (X69 _ _ flv (Ax hx6 flv))
  ·intro y hy;obtain⟨us',g1,g2⟩:=hlv y hy;exact⟨us',Y (X69 _ _ g1 (b0.neI hx6 g1)),(g2.kt (X69.ktI hx6)).kt (ac.kt S10)⟩
  ·exact Y ((E8.trans E9) _ _ fqu n7)
  ·exact hV.same ⟨G8.nd,E9 _ _ G8.g (Cy hx8 G8.g),fun y hy=>E9 _ _ (G8.ls y hy) (b0.neI hx8 (G8.ls y hy)),G8.all⟩ S10
  ·obtain⟨L0,g1,g2⟩:=hled9 p hp;exact⟨L0,Y g1,g2⟩
  all_goals(show i8 _ _=_;subst hfs4;repeat (rw[dZ];first|rw[if_pos rfl] | rw[if_neg (by decide +kernel)]))
  all_goals rfl
 ·exact((((((((E1.trans E2).trans E3).trans E4).trans E5).trans E6).trans E7).trans E8).trans E9).trans (ac.exB S10)
theorem B8(a b:Str):decide (dv a=dv b)=decide (a=b):=by
 by_cases e:a=b
 ·rw[zzr1 e,zzr1 (by rw[e])]
 ·rw[zzr0 e,zzr0 (fun z=>e (lm z))]
theorem ck.by{C:Addr}{H H':Hp}{x:Addr}{J0 J2 J4:Zb}{ds:List aB}(h:ck C H x J0 J2 J4 ds)
  (hs:∀b ws,H b=some (.lst (List.map V.str ws))->H' b=some (.lst (List.map V.str ws))) (hr:∀b ts,H b=some (.lst (List.map V.ref ts))->H' b=some (.lst (List.map V.ref ts))) (ht:gE H H')
  (hd:∀b kvs,H b=some (.dK kvs)->H' b=some (.dK kvs)) (hT:∀b kvs,H b=some (.dT kvs)->H' b=some (.dT kvs)) (hi:∀b C dx fs,H b=some (.ins C dx fs)->H' b=some (.ins C dx fs)):ck C H' x J0 J2 J4 ds:=by
 obtain⟨dx,fs,o1,o2,o3,o4,lv,qu,sg,sl,ts,lps,gps,sps,g1,a1,a2,a3,a4,b1,b2,b3,b4,b5,b6,b7,b8,L,c1,c2,c3,c4,G,d1,d2,d3⟩:=h.at_;refine⟨⟨dx,fs,o1,o2,o3,o4,lv,qu,sg,sl,ts,lps,gps,sps,hi _ _ _ _ g1,a1,a2,a3,a4,b1,b2,b3,b4,b5,b6,b7,b8,⟨hs _ _ L.a1,hs _ _ L.a2,hs _ _ L.a3,hr _ _ L.a4,L.ds.kt ht⟩,c1,hd _ _ c2,fun y hy=>?_,hd _ _ c4,⟨G.nd,hT _ _ G.g,fun y hy=>hs _ _ (G.ls y hy),G.all⟩,d1,hd _ _ d2,fun y hy=>?_⟩,h.ok,by obtain⟨dx,fs,g,r⟩:=h.more;exact⟨dx,fs,hi _ _ _ _ g,r⟩⟩
 ·obtain⟨us,e1,e2⟩:=c3 y hy;exact⟨us,hr _ _ e1,e2.kt ht⟩
 ·obtain⟨L0,e1,e2⟩:=d3 y hy;exact⟨L0,hd _ _ e1,e2⟩
theorem ck.same{C:Addr}{H H':Hp}{x:Addr}{J0 J2 J4:Zb}{ds:List aB}(h:ck C H x J0 J2 J4 ds)(S:ac H H'):ck C H' x J0 J2 J4 ds :=
 h.by (fun _ _ e=>S _ _ e) (fun _ _ e=>S _ _ e) (ac.kt S) (fun _ _ e=>S _ _ e) (fun _ _ e=>S _ _ e) (fun _ _ _ _ e=>S _ _ e)
theorem ck.ex{C:Addr}{H H':Hp}{x p c:Addr}{J0 J2 J4:Zb}{ds:List aB}(h:ck C H x J0 J2 J4 ds)(hp:d_ H p c)(S:b0 p H H'):ck C H' x J0 J2 J4 ds:=by
 obtain⟨xs,hx⟩:=hp.lst;exact h.by (fun _ _ e=>S _ _ e (hp.ne_strs e)) (fun _ _ e=>S _ _ e (hp.ne_refs e)) (S.kt hx) (fun _ _ e=>S _ _ e (fun z=>by rw[z,hx]at e;cases e)) (fun _ _ e=>S _ _ e (fun z=>by rw[z,hx]at e;cases e)) (fun _ _ _ _ e=>S _ _ e (fun z=>by rw[z,hx]at e;cases e))
def dR:List Str:=[("hush":Str)]
inductive iE(C:Addr)(vs:List V)(H:Hp)(Q:VK)(E:XK):Prop
 |mk (t l1 l2 l3 l4:Addr) (ts:Ze) (J0 J2 J4:Zb) (ds:List aB):(vs=[.ref t])->(iA H t l1 l2 l3 l4 ts J0 J2 J4 ds)->(cJ J0 J2 J4 ds)->(∀(x:Addr) (H':Hp),ck C H' x J0 J2 J4 ds->ac H H'->Q (.ref x) H')->iE C vs H Q E
theorem vN{K:Za}{C:Addr}{vs:List V}{H:Hp}{Q:VK}{E:XK}(h:iE C vs H Q E):p9 K C (nW C) (bx Q) (start qp vs) H:=by
 obtain⟨t,l1,l2,l3,l4,ts,J0,J2,J4,ds,rfl,T,m,k⟩:=h;refine⟨_,rfl,.inr (.inl ⟨t,_,0,_,rfl,rfl,bc.of T.t,rfl,.inl ⟨l1,_,rfl,.inl (ay.of T.a1),fun m1 h1=>?_⟩⟩)⟩;have T1:=T.same (ac.new (o:=.lst (J0.map V.str)) h1);refine⟨_,rfl,.inr (.inl ⟨t,_,1,_,rfl,rfl,bc.of T1.t,rfl,.inl ⟨l2,_,rfl,.inl (ay.of T1.a2),fun m2 h2=>?_⟩⟩)⟩;have T2:=T1.same (ac.new (o:=.lst (J2.map V.str)) h2);refine⟨_,rfl,.inr (.inl ⟨t,_,2,_,rfl,rfl,bc.of T2.t,rfl,.inl ⟨l3,_,rfl,.inl (ay.of T2.a3),fun m3 h3=>?_⟩⟩)⟩;have T3:=T2.same (ac.new (o:=.lst (J4.map V.str)) h3);refine⟨_,rfl,.inr (.inl ⟨t,_,3,_,rfl,rfl,bc.of T3.t,rfl,.inl ⟨l4,_,rfl,.inl (ay.of T3.a4),fun m4 h4=>?_⟩⟩)⟩;have T4:=T3.same (ac.new (o:=.lst (ts.map V.ref)) h4);have S4:=(((ac.new (o:=.lst (J0.map V.str)) h1).trans (ac.new (o:=.lst (J2.map V.str)) h2)).trans (ac.new (o:=.lst (J4.map V.str)) h3)).trans (ac.new (o:=.lst (ts.map V.ref)) h4);refine fun x dx hx hdx hne=>?_;have S5:ac H (upd (upd (upd (upd (upd (upd H m1 (.lst (J0.map V.str))) m2 (.lst (J2.map V.str))) m3 (.lst (J4.map V.str))) m4 (.lst (ts.map V.ref))) dx (.own x)) x (.ins C dx [])) :=
  (S4.trans (ac.new hdx)).trans (ac.new (by rw[aj hne.symm];exact hx))
 have hxx:upd (upd (upd (upd (upd H m1 (.lst (J0.map V.str))) m2 (.lst (J2.map V.str))) m3 (.lst (J4.map V.str))) m4 (.lst (ts.map V.ref))) dx (.own x) x=none:=by rw[aj hne.symm];exact hx
 refine⟨x,dx,m1,m2,m3,m4,ts,J0,J2,J4,ds,rfl,aa,⟨?_,?_,?_,?_,T.ds.kt (ac.kt S5)⟩,m,fun H' M ex=>⟨rfl,k x H' M fun b o q=>?_⟩⟩
 ·exact kp (kp (kp (kp (kp aa h2) h3) h4) hdx) hxx
 ·exact kp (kp (kp (kp aa h3) h4) hdx) hxx
 ·exact kp (kp (kp aa h4) hdx) hxx
 ·exact kp (kp aa hdx) hxx
 ·have hq:=S5 _ _ q;exact ex _ _ hq (ag (S4.trans (ac.new hdx) _ _ q) hxx)
def kC(ds:List aB):List Str:=(ds.filter fun d=>!gv d).map (·.a)
theorem n5{w:Str}{ws:Zb}:dv w∈ws.map dv↔w∈ws:=by
 constructor
 ·intro h;obtain⟨x,hx,e⟩:=bG.mp h;rw[<-lm e];exact hx
 ·exact lV
def oY(K:Za):TS :=
 aq (aS (dE (eA K) (az V1)) U2)
 (aq (aS (tC (.int 0)) U3)
 (aq (rY (ba (aw Ak V3 (dE (d9 K) (az V2)))) (aq (fQ (c6 K V0) (gS K 3 (a_ U4 (a_ U5 (a_ U6 (gx))))) (bZ (qg (ba (aw (nM K) V4 (aw (uv K) V2 V3))) (qg (ba (aw (nM K) V5 (bf (az (tC (.str "still")))))) (ba (aw (sF K true) V6 V2)))) (cY (vJ K "list" de V2 (az V6))) (bb)))
 (aS (aw dF V3 (tC (.int 1))) U3)))
 (aX V2)))
def pW:List Str:=["doors","rooms","found","at","room","sign","other"]
def mT(ds:List aB)(gs:Zb)(w:Str):Prop:=∃g∈gs,w=g∨Reach ds g w
inductive g0(K:Za)(vs:List V)(H:Hp)(Q:VK)(E:XK):Prop
 |mk (l4 l:Addr) (ts:Ze) (ds:List aB) (gs J4:Zb):(vs=[.ref l4,.ref l])->(H l4=some (.lst (ts.map V.ref)))->(c_ H ts ds)->(H l=some (.lst (gs.map V.str)))->((∀d∈ds,d.b∈J4))->(J4.length<=1000)->(gs.length<=1000)->(∀(f:Addr) (F:Zb) (H':Hp),H' f=some (.lst (F.map V.str))->(∀w,w∈F↔mT ds gs w)->F.length<=2000->H f=none->ac H H'->Q (.ref f) H')->g0 K vs H Q E
structure SO(H0 H:Hp)(ds:List aB)(gs:Zb)(f:Addr)(X:Zb):Prop where
 f:H f=some (.lst ((gs++X).map V.str))
 same:ac H0 H
 nd:X.Nodup
 new:∀y∈X,y∉gs
 sound:∀y∈X,mT ds gs y
theorem mT.step{ds:List aB}{gs:Zb}{a b:Str}(h:mT ds gs a)(e:(⟨a,aY,b⟩:aB)∈ds):mT ds gs b:=by
 obtain⟨g,hg,rfl|h⟩:=h
 ·exact⟨_,hg,.inr (.one e)⟩
 ·exact⟨g,hg,.inr (.step h e)⟩
theorem jH(a b:Zb):decide (gU a=gU b)=decide (a=b):=by
 by_cases e:a=b
 ·rw[zzr1 e,zzr1 (by rw[e])]
 ·rw[zzr0 e,zzr0 (fun z=>e (xT z))]
inductive SoI(l4 l f:Addr)(at_:Int)(H:Hp)(ds:List aB)(gs X:Zb)(here:Str)(j:Nat)(σ:L2.St)(H':Hp):Prop
 |mk (X' Y:Zb) (x y z:Option V):σ=[some (.ref l4),some (.ref l),some (.ref f),some (.int at_),x,y,z]->X'=X++Y->SO H H' ds gs f X'->(∀d∈ds.take j,d.a=here->d.sg=aY->d.b∈gs++X')->SoI l4 l f at_ H ds gs X here j σ H'
theorem uu{K:Za}{vs:List V}{H:Hp}{Q:VK}{E:XK}(h:g0 K vs H Q E):oY K (bx Q) (start pW vs) H:=by
 obtain⟨l4,l,ts,ds,gs,J4,rfl,h4,hds,hl,hin,hz,hz2,k⟩:=h;refine⟨_,rfl,.inl ⟨l,_,rfl,.inl (ay.of hl),fun f hf=>?_⟩⟩;have lenX:∀{X:Zb},X.Nodup->(∀y∈X,y∉gs)->(∀y∈X,mT ds gs y)->X.length<=J4.length:=fun nd nw sd=>pq nd fun y hy=>by
  obtain⟨g,hg,e|h⟩:=sd y hy
  ·exact absurd (by rw[e];exact hg) (nw y hy)
  ·exact h.in_ hin
 refine⟨fun m σ H'=>∃(X:Zb) (at_:Nat) (x y z:Option V),σ=[some (.ref l4),some (.ref l),some (.ref f),some (.int at_),x,y,z]/\SO H H' ds gs f X/\at_<=(gs++X).length/\(∀i y,i<at_->(gs++X)[i]?=some y->∀c,(⟨y,aY,c⟩:aB)∈ds->c∈gs++X)/\m=gs.length+J4.length-at_,
  ⟨_,[],0,_,_,_,rfl,⟨by rw[dD];exact aa,ac.new hf,rN,by simp,by simp⟩,bN _,fun i y h=>by omega,rfl⟩,?_⟩
 rintro m σ H1 ⟨X,at_,x4,x5,x6,rfl,D,hat,hcl,rfl⟩;have hXl:=lenX D.nd D.new D.sound;refine⟨_,rfl,_,rfl,.inl ⟨f,_,rfl,.inl (ay.of D.f),_,_,rfl,rfl,_,rfl,?_⟩⟩;refine nN (fun hlt=>?_) (fun hlt=>?_)
 ·have hlt':at_<(gs++X).length:=by
   have:=of_decide_eq_true hlt;rw[ak]at this;omega
  have hat0:at_<gs.length+J4.length:=by rw[aH]at hlt';omega
  generalize hhere:(gs++X)[at_]=here;have hget:(gs++X)[at_]?=some here:=by rw[<-hhere];exact bC hlt'
  have hfrom:∀{Y:Zb}{y:Str},(∀y∈Y,mT ds gs y)->y∈gs++Y->mT ds gs y:=fun sd hy=>by
   rcases bq.mp hy with hy|hy
   ·exact⟨_,hy,.inl rfl⟩
   ·exact sd _ hy
  refine⟨fun σ' H'=>∃(X':Zb) (x y z:Option V),σ'=[some (.ref l4),some (.ref l),some (.ref f),some (.int ((at_+1:Nat):Int)),x,y,z]/\SO H H' ds gs f X'/\at_+1<=(gs++X').length/\(∀i y,i<at_+1->(gs++X')[i]?=some y->∀c,(⟨y,aY,c⟩:aB)∈ds->c∈gs++X'),
   fun σ' H' ⟨X',x,y,z,e,D',h1,h2⟩=>⟨_,(by omega:gs.length+J4.length-(at_+1)<gs.length+J4.length-at_),X',at_+1,x,y,z,e,D',h1,h2,rfl⟩,?_⟩
  refine⟨_,rfl,l4,rfl,⟨_,ay.of (D.same _ _ h4)⟩,?_⟩;refine c7 (xs:=ts.map V.ref) (SoI l4 l f at_ H ds gs X here)
   ⟨X,[],_,_,_,rfl,by simp,D,by simp⟩ (fun j σ H' _ zq=>by obtain⟨_,_,_,_,_,_,_,D',_⟩:=zq;exact ay.of (D'.same _ _ h4)) ?_ ?_
  ·rintro j y σ H2 hj ⟨X',Y,x4',x5',x6',rfl,rfl,D2,hdone⟩;obtain⟨t,ht,rfl⟩:=bT hj;obtain⟨dr,hdr,hatd⟩:=Paired.getL hds ht;obtain⟨s,ht2,hs2⟩:=hatd.kt (ac.kt D2.same);have hmem:=cg hdr;have hXl2:=lenX D2.nd D2.new D2.sound;have hget2:(gs++(X++Y))[at_]?=some here:=by
    rw[<-cH,oM hlt'];exact hget
   refine⟨t,_,rfl,bc.of ht2,rfl,_,_,rfl,_,_,rfl,_,_,rfl,rfl,?_⟩;have nextI:∀(H3:Hp) (X3 Y3:Zb) (q4 q5 q6:Option V),X3=X++Y3->SO H H3 ds gs f X3->(∀y∈X++Y,y∈X3)->(dr.a=here->dr.sg=aY->dr.b∈gs++X3) ->
     SoI l4 l f at_ H ds gs X here (j+1) [some (.ref l4),some (.ref l),some (.ref f),some (.int at_),q4,q5,q6] H3:=by
    intro H3 X3 Y3 q4 q5 q6 e D3 hsub hnew;refine⟨X3,Y3,q4,q5,q6,rfl,e,D3,fun d hd e1 e2=>?_⟩;rw[take_snoc hdr]at hd;rcases bq.mp hd with hd|hd
    ·rcases bq.mp (hdone d hd e1 e2)with h|h
     ·exact dj _ h
     ·exact dh _ (hsub _ h)
    ·have:d=dr:=by simpa using hd
     subst this;exact hnew e1 e2
   refine⟨_,rfl,_,rfl,_,rfl,.inl ⟨f,_,_,_,rfl,rfl,ay.of D2.f,aD (j:=at_) (by rw[ej,hget2];rfl),dv dr.a,dv here,nu _,nu _,(by show 0<=8;decide),(by show 0<=8;decide),_,rfl,?_⟩⟩;rw[B8];by_cases c1:dr.a=here;rotate_left
   ·rw[zzr0 c1];exact aT (aT (nextI H2 _ _ _ _ _ rfl D2 (fun _ h=>h) fun e=>absurd e c1))
   rw[zzr1 c1];refine bh ?_;refine⟨_,rfl,(by show 1<=ai;decide),fun st hst=>⟨gU dr.sg,gU aY,bI (bc.of (kp hs2 hst)),bI (bc.of aa),by rw[bO];decide,by rw[bO];decide,_,rfl,?_⟩⟩;rw[jH];have D3:SO H (upd H2 st (.tup [.str "still"])) ds gs f (X++Y):=⟨kp D2.f hst,D2.same.trans (ac.new hst),D2.nd,D2.new,D2.sound⟩;have hstS:H st=none:=D2.same.free hst;generalize upd H2 st (.tup [.str "still"])=H3 at D3 ⊢;by_cases c2:dr.sg=aY;rotate_left
   ·rw[zzr0 c2];exact aT (aT (nextI H3 _ _ _ _ _ rfl D3 (fun _ h=>h) fun _ e=>absurd e c2))
   rw[zzr1 c2];refine bh ?_;refine⟨_,rfl,_,rfl,dv dr.b,(gs++(X++Y)).map dv,f,_,nu _,rfl,.inl (ay.of D3.f),kG _,(by show 0<=8;decide),by rw[gA];decide,_,rfl,?_⟩;rw[if_pos rfl];by_cases c3:dr.b∈gs++(X++Y)
   ·rw[zzr1 (n5.mpr c3)];exact aT (nextI H3 _ _ _ _ _ rfl D3 (fun _ h=>h) fun _ _=>c3)
   rw[zzr0 (fun z=>c3 (n5.mp z))];refine bh ?_;refine⟨_,rfl,.inl ⟨rfl,_,ay.of D3.f⟩,_,rfl,f,_,_,rfl,rfl,D3.f,by rw[ak,aH];exact eX (by omega),?_⟩;have hedge:(⟨here,aY,dr.b⟩:aB)∈ds:=by
    have:dr=⟨here,aY,dr.b⟩:=by cases dr;simp only at c1 c2;rw[c1,c2]
    rw[<-this];exact hmem
   refine nextI _ (X++(Y++[dr.b])) _ _ _ _ rfl ⟨?_,?_,?_,?_,?_⟩ ?_ ?_
   ·rw[aa];have:gs++(X++(Y++[dr.b]))=gs++(X++Y)++[dr.b]:=by simp
    rw[this,aG (l₂:=[dr.b])]
    rfl
   ·intro b o q;rw[aj (ag q hf)];exact D3.same _ _ q
   ·rw[<-cH,eh];refine⟨D3.nd,by simp,fun a ha b hb e=>?_⟩;have:b=dr.b:=by simpa using hb
    exact c3 (dh _ (by rw[<-this,<-e];exact ha))
   ·intro y hy;rw[<-cH]at hy;rcases bq.mp hy with hy|hy
    ·exact D3.new y hy
    ·have:y=dr.b:=by simpa using hy
     rw[this];exact fun z=>c3 (dj _ z)
   ·intro y hy;rw[<-cH]at hy;rcases bq.mp hy with hy|hy
    ·exact D3.sound y hy
    ·have:y=dr.b:=by simpa using hy
     rw[this];exact(hfrom D.sound (cg hget)).step hedge
   ·intro y hy;rw[<-cH];exact dj _ hy
   ·intro _ _;exact dh _ (by simp)
  ·rintro σ H2 ⟨X',Y,x4',x5',x6',rfl,rfl,D2,hdone⟩;rw[ak,Paired.length hds,bo]at hdone;refine⟨_,rfl,_,_,rfl,rfl,X++Y,_,_,_,rfl,D2,?_,fun i y hi hy c hc=>?_⟩
   ·rw[<-cH,aH];omega
   ·by_cases e:i=at_
    ·subst e;rw[<-cH,oM hlt',hget]at hy;have:=dC hy;subst this;exact hdone _ hc rfl rfl
    ·have hi':i<at_:=by omega
     rw[<-cH,oM (by omega)]at hy;have:=hcl i y hi' hy c hc;rw[<-cH];exact dj _ this
 ·have hend:at_=(gs++X).length:=by
   have:¬(at_<(gs++X).length):=fun z=>hlt (zzr1 (by rw[ak];omega));omega
  refine⟨_,rfl,k f (gs++X) H1 D.f (fun w=>⟨fun hw=>?_,fun hw=>?_⟩) (by rw[aH];omega) hf D.same⟩
  ·rcases bq.mp hw with hw|hw
   ·exact⟨_,hw,.inl rfl⟩
   ·exact D.sound _ hw
  ·have closed:∀y∈gs++X,∀c,(⟨y,aY,c⟩:aB)∈ds->c∈gs++X:=fun y hy c hc=>by
    obtain⟨n,hn⟩:=List.getElem?_of_mem hy;exact hcl n y (by rw[hend];exact(bR.mp hn).1) hn c hc
   obtain⟨g,hg,rfl|h⟩:=hw
   ·exact dj _ hg
   ·induction h with
    |one e=>exact closed _ (dj _ hg) _ e
    |step r e ih=>exact closed _ ih _ e

def lK(ds:List aB)(sg:Zb)(J8:Zb):List Str:=J8.flatMap fun r=>bL ds (r,sg)
theorem sL{ds:List aB}{sg J8:Zb}{b:Str}:b∈lK ds sg J8↔∃r∈J8,(⟨r,sg,b⟩:aB)∈ds:=by
 unfold lK;rw[List.mem_flatMap];constructor
 ·rintro⟨r,hr,h⟩;exact⟨r,hr,fC.mp h⟩
 ·rintro⟨r,hr,h⟩;exact⟨r,hr,fC.mpr h⟩
theorem lM{ds:List aB}{i:Nat}{d:aB}{p:aB->Bool}(h:ds[i]?=some d):(ds.take (i+1)).filter p=(ds.take i).filter p++(if p d=true then[d]else[]):=by
 rw[take_snoc h,lU];congr 1;by_cases c:p d=true
 ·rw[if_pos c];simp[c]
 ·rw[if_neg c];simp[c]
theorem tf(o:Str)(L:Zb):decide (dv o∈L.map dv)=decide (o∈L):=by
 by_cases c:o∈L
 ·rw[zzr1 (n5.mpr c),zzr1 c]
 ·rw[zzr0 (fun z=>c (n5.mp z)),zzr0 c]
theorem bc.same{K:Za}{H H':Hp}{a:Addr}{xs:List V}(S:ac H H')(h:bc K H a xs):bc K H' a xs:=by
 rcases h with(h|⟨o,h⟩)|h
 ·exact .inl (.inl (S _ _ h))
 ·exact .inl (.inr ⟨o,S _ _ h⟩)
 ·exact .inr h
theorem ay.same{K:Za}{H H':Hp}{a:Addr}{xs:List V}(S:ac H H')(h:ay K H a xs):ay K H' a xs:=by
 rcases h with(h|⟨o,h⟩)|h
 ·exact .inl (.inl (S _ _ h))
 ·exact .inl (.inr ⟨o,S _ _ h⟩)
 ·exact .inr h
mutual
theorem f8.same{K:Za}{H H':Hp}(S:ac H H'):∀{d:DT}{v:V},f8 K H d v->f8 K H' d v
 |.k a,v,h=>by unfold f8 at h ⊢;exact h
 |.t l,v,h=>by
  unfold f8 at h ⊢;obtain⟨b,xs,e,q,r⟩:=h;exact⟨b,xs,e,bc.same S q,DIns.same S r⟩
 |.s l,v,h=>by
  unfold f8 at h ⊢;obtain⟨b,xs,e,q,r⟩:=h;exact⟨b,xs,e,ay.same S q,DIns.same S r⟩
theorem DIns.same{K:Za}{H H':Hp}(S:ac H H'):∀{ds:List DT}{vs:List V},DIns K H ds vs->DIns K H' ds vs
 |[],vs,h=>by unfold DIns at h ⊢;exact h
 |d::ds,vs,h=>by
  unfold DIns at h ⊢;obtain⟨v,us,e,q,r⟩:=h;exact⟨v,us,e,f8.same S q,DIns.same S r⟩
end
theorem DIns.get{K:Za}{H:Hp}:∀{ds:List DT}{vs:List V}{i:Nat}{v:V},DIns K H ds vs->vs[i]?=some v->∃d,ds[i]?=some d/\f8 K H d v
 |[],vs,i,v,h,e=>by unfold DIns at h;subst h;simp at e
 |d::ds,vs,i,v,h,e=>by
  unfold DIns at h;obtain⟨v',us,rfl,q,r⟩:=h;cases i with
  |zero=>simp at e;subst e;exact⟨d,rfl,q⟩
  |succ i =>
   simp at e;obtain⟨d',h1,h2⟩:=DIns.get r e;exact⟨d',by simpa using h1,h2⟩
theorem DIns.len{K:Za}{H:Hp}:∀{ds:List DT}{vs:List V},DIns K H ds vs->vs.length=ds.length
 |[],vs,h=>by unfold DIns at h;subst h;rfl
 |d::ds,vs,h=>by
  unfold DIns at h;obtain⟨v',us,rfl,q,r⟩:=h;rw[cW,cW,DIns.len r]
theorem pG{n:Nat}:∀{ds:List DT}{i:Nat}{d:DT},DT.depths ds<=n->ds[i]?=some d->d.depth<=n
 |[],i,d,_,e=>by simp at e
 |x::ds,i,d,h,e=>by
  have h':max (DT.depth x) (DT.depths ds)<=n:=h;cases i with
  |zero=>simp at e;subst e;omega
  |succ i=>simp at e;exact pG (by omega) e
theorem B6{l:List DT}{n:Nat}(h:(DT.t l).depth<=n+1):DT.depths l<=n:=by
 have:DT.depths l+1<=n+1:=h;omega
theorem B7{l:List DT}{n:Nat}(h:(DT.s l).depth<=n+1):DT.depths l<=n:=by
 have:DT.depths l+1<=n+1:=h;omega
theorem AX{l:List DT}{n:Nat}(h:(DT.t l).depth<=n):1<=n:=by
 have:DT.depths l+1<=n:=h;omega
theorem AY{l:List DT}{n:Nat}(h:(DT.s l).depth<=n):1<=n:=by
 have:DT.depths l+1<=n:=h;omega
inductive Kd(K:Za)(H:Hp):DT->V->Prop
 |int (i:Int):Kd K H (.k (.inl i)) (.int i)
 |str (x:Str):Kd K H (.k (.inr x)) (.str x)
 |tup {a:Addr}{xs:List V}{l:List DT}(q:bc K H a xs) (r:DIns K H l xs):Kd K H (.t l) (.ref a)
 |lst {a:Addr}{xs:List V}{l:List DT}(q:ay K H a xs) (r:DIns K H l xs):Kd K H (.s l) (.ref a)
theorem f8.kd{K:Za}{H:Hp}:∀{d:DT}{v:V},f8 K H d v->Kd K H d v
 |.k (.inl i),v,h=>by unfold f8 at h;subst h;exact .int i
 |.k (.inr x),v,h=>by unfold f8 at h;subst h;exact .str x
 |.t l,v,h=>by
  unfold f8 at h;obtain⟨b,xs,rfl,q,r⟩:=h;exact .tup q r
 |.s l,v,h=>by
  unfold f8 at h;obtain⟨b,xs,rfl,q,r⟩:=h;exact .lst q r
def zZ(K:Za)(sp_law_still_on:Sp):TS :=
 aq (aS (aL sp_law_still_on (aM (aw (uv K) V0 (tC (.int 3))) V1)) U2)
 (aX (dE (Ai K) (ap (cw 1 [2] (c6 K (aw (uv K) V0 (tC (.int 2)))) U0 (ba (aw (sF K false) V0 V1)) V0) be)))
def Bi:List Str:=["told","some","there"]
open Classical in
def closF(J4:Zb)(ds:List aB)(gs:Zb):List Str:=J4.filter fun r=>decide (mT ds gs r)
open Classical in
theorem Bb{J4 F gs:Zb}{ds:List aB}(hF:∀w,w∈F↔mT ds gs w):J4.filter (fun r=>decide (r∈F))=closF J4 ds gs:=by
 unfold closF;refine List.filter_congr fun r _=>?_;by_cases c:r∈F
 ·rw[zzr1 c,zzr1 ((hF r).mp c)]
 ·rw[zzr0 c,zzr0 fun z=>c ((hF r).mpr z)]
open Classical in
theorem u2{J4 gs gs':Zb}{ds:List aB}(h:∀g,g∈gs↔g∈gs'):closF J4 ds gs=closF J4 ds gs':=by
 have:∀r,mT ds gs r↔mT ds gs' r:=fun r=>⟨fun⟨g,hg,e⟩=>⟨g,(h g).mp hg,e⟩,fun⟨g,hg,e⟩=>⟨g,(h g).mpr hg,e⟩⟩;unfold closF;refine List.filter_congr fun r _=>?_;by_cases c:mT ds gs r
 ·rw[zzr1 c,zzr1 ((this r).mp c)]
 ·rw[zzr0 c,zzr0 fun z=>c ((this r).mpr z)]
theorem qZ{J4 gs:Zb}{ds:List aB}:∀r∈closF J4 ds gs,r∈J4:=fun r h=>(ik.mp h).1
theorem mK{J4 gs:Zb}{ds:List aB}:(closF J4 ds gs).length<=J4.length:=fH _ _
def behF(J4:Zb)(ds:List aB)(J8 sg:Zb):List Str:=if sg=dR then J8.filter (fun r=>decide (r∉kC ds))else closF J4 ds (lK ds sg J8)
theorem Bc{J4 J8 sg:Zb}{ds:List aB}(hf:∀r∈J8,r∈J4):∀r∈behF J4 ds J8 sg,r∈J4:=by
 intro r h;unfold behF at h;split at h
 ·exact hf r (ik.mp h).1
 ·exact qZ r h
theorem u6{J4 J8 sg:Zb}{ds:List aB}(hr:J4.length<=1000)(hf:J8.length<=1000):(behF J4 ds J8 sg).length<=1000:=by
 unfold behF;split
 ·exact aW (fH _ _) hf
 ·exact aW mK hr
inductive ur (vs:List V)(H:Hp)(Q:VK)(E:XK):Prop
 |mk (t l l1 l2 l3 l4:Addr) (ts:Ze) (J0 J2 J4 gs:Zb) (ds:List aB):(vs=[.ref t,.ref l])->(iA H t l1 l2 l3 l4 ts J0 J2 J4 ds)->(cJ J0 J2 J4 ds)->(H l=some (.lst (gs.map V.str)))->(gs.length<=1000)->(∀(t':Addr) (H':Hp),H' t'=some (.tup ((closF J4 ds gs).map V.str))->ac H H'->Q (.ref t') H')->ur  vs H Q E
theorem Dv{K:Za}{vs:List V}{H:Hp}{Q:VK}{E:XK}(h:ur vs H Q E):zZ K (g0 K) (bx Q) (start Bi vs) H:=by
 obtain⟨t,l,l1,l2,l3,l4,ts,J0,J2,J4,gs,ds,rfl,T,m,hl,hz,k⟩:=h;have z3:=m.rooms26;refine⟨_,rfl,.inr (.inl ⟨t,_,3,_,rfl,rfl,bc.of T.t,rfl,_,rfl,l4,l,ts,ds,gs,J4,rfl,T.a4,T.ds,hl,fun d hd=>(m.good d hd).b,by omega,hz,fun th F H1 hth hF hFl fr S1=>?_⟩)⟩;have T1:=T.same S1;refine⟨_,rfl,.inr (.inl ⟨t,_,2,_,rfl,rfl,bc.of T1.t,rfl,l3,rfl,⟨_,ay.of T1.a3⟩,fun f hf=>?_⟩)⟩
 let zI1:Nat->List V->Hp->Prop:=fun i vs H'=>vs=((J4.take i).filter fun r=>decide (r∈F)).map V.str/\ac H1 H'/\H' f=some (.lst vs)
 refine cP (xs:=J4.map V.str) zI1 ⟨rfl,ac.new hf,aa⟩ (fun i vs H' _ zq=>by obtain⟨_,S,h'⟩:=zq;exact⟨h',ay.of (S _ _ T1.a3)⟩) ?_ ?_
 ·rintro vs H' ⟨rfl,S,f'⟩;rw[ak,bo,Bb hF]at f';exact⟨f,_,rfl,.inl ⟨ay.of f',fun t' ht'=>k t' _ aa ((S1.trans S).trans (ac.new ht'))⟩⟩
 ·rintro i vs H' x' hx' hi ⟨rfl,S,f'⟩;obtain⟨r,hr,rfl⟩:=cC hx';refine gN ?_;refine⟨_,rfl,_,rfl,dv r,F.map dv,th,_,nu r,rfl,.inl (ay.of (S _ _ hth)),kG _,(by show 0<=8;decide),by rw[gA];decide,_,rfl,?_⟩;rw[if_neg f_,tf];have hlen:(((J4.take i).filter fun r=>decide (r∈F)).map V.str).length<ai:=by
   rw[ak];refine ao (aW (fH _ _) ?_);rw[aF];omega
  refine nN (fun hq=>?_) (fun hq=>?_)
  ·refine⟨_,rfl,f',hlen,n0 hi ⟨?_,?_,aa⟩⟩
   ·rw[d7 hr,if_pos hq,aG];rfl
   ·intro b o q;rw[aj (ag q hf)];exact S _ _ q
  ·refine n0 hi ⟨?_,S,f'⟩;rw[d7 hr,if_neg hq,dD]
theorem yD{J0 J2 J4:Zb}{dr:aB}(g:yi J0 J2 J4 dr):∃s0 rest,dr.sg=s0::rest/\(!decide (V.str s0=V.str ("ask":Str)))=!gv dr:=by
 obtain⟨s0,rest,hsg⟩:∃s0 rest,dr.sg=s0::rest:=by
  rcases g.sg with⟨w,_,e⟩|⟨w,_,e⟩|e<;>exact⟨_,_,e⟩
 refine⟨s0,rest,hsg,?_⟩;unfold gv;rw[hsg];congr 1;show _=decide (s0=("ask":Str));by_cases c:s0=("ask":Str)
 ·rw[zzr1 c,zzr1 (by rw[c])]
 ·rw[zzr0 c,zzr0 (fun z=>c (by injection z))]
inductive jz (vs:List V)(H:Hp)(Q:VK)(E:XK):Prop
 |mk (t l1 l2 l3 l4:Addr) (ts:Ze) (J0 J2 J4:Zb) (ds:List aB) (r:Str):(vs=[.ref t,.str r])->(iA H t l1 l2 l3 l4 ts J0 J2 J4 ds)->(cJ J0 J2 J4 ds)->(∀H',ac H H'->Q (.bl (decide (r∉kC ds))) H')->jz  vs H Q E
inductive mv(K:Za)(vs:List V)(H:Hp)(Q:VK)(E:XK):Prop
 |mk (t ft s l1 l2 l3 l4:Addr) (ts:Ze) (J0 J2 J4 J8 sg:Zb) (ds:List aB):(vs=[.ref t,.ref ft,.ref s])->(iA H t l1 l2 l3 l4 ts J0 J2 J4 ds)->(cJ J0 J2 J4 ds)->(H ft=some (.tup (J8.map V.str)))->(bc K H s (sg.map V.str))->(J8.length<=1000)->(∀(t':Addr) (H':Hp),H' t'=some (.tup ((behF J4 ds J8 sg).map V.str))->ac H H'->Q (.ref t') H')->mv K vs H Q E
abbrev wH(H:Hp)(us:Ze)(L:List (List Str)):Prop:=Paired (SignAt H) us L
theorem wH.kt{H H':Hp}{us:Ze}{L:List (List Str)}(k:gE H H')(h:wH H us L):wH H' us L:=Paired.mapP h fun _ _ r=>k _ _ r
theorem wB{K:Za}{σ:L2.St}{H:Hp}{a l:Addr}{ws:Zb}{kd:Str}{Q:Hp->Prop}(ha:H a=some (.lst (ws.map V.str)))(hz:ws.length<=1000)(hl:H l=none)
  (k:∀(us:Ze) (H':Hp),H' l=some (.lst (us.map V.ref))->wH H' us (ws.map fun w=>[kd,w])->ac H H'->Q H') :
  cG 1 [] σ (Cj K a) U0 eQ (bf (aM (tC (.str kd)) V0)) H l Q:=by
 let zI0:Nat->List V->Hp->Prop:=fun i vs H'=>∃us:List Addr,vs=us.map V.ref/\ac H H'/\H' l=some (.lst vs)/\wH H' us ((ws.take i).map fun w=>[kd,w])
 refine cP (xs:=ws.map V.str) zI0 ⟨[],rfl,ac.new hl,aa,.nil⟩ (fun i vs H' _ zq=>by obtain⟨_,_,S,h',_⟩:=zq;exact⟨h',ay.of (S _ _ ha)⟩) ?_ ?_
 ·rintro vs H' ⟨us,rfl,S,h',hP⟩;rw[ak,bo]at hP;exact k us H' h' hP S
 ·rintro i vs H' x' hx' hi ⟨us,rfl,S,f',hP⟩;obtain⟨w,hw,rfl⟩:=cC hx';refine gN (kY ?_);refine⟨_,rfl,(by show 2<=ai;decide),fun u hu=>⟨kp f' hu,?_,n0 hi ⟨us++[u],by rw[aG];rfl,?_,aa,?_⟩⟩⟩
  ·rw[ak,Paired.length hP,ak,aF];exact ao (by omega)
  ·intro b o q;rw[aj (ag q hl)];exact kp (S _ _ q) hu
  ·rw[take_snoc hw,aG];have hk:gE H' (upd (upd H' u (.tup [.str kd,.str w])) l (.lst (us.map V.ref++[.ref u]))):=(ac.kt (ac.new hu)).trans (eE (kp f' hu));exact cf (wH.kt hk hP) ((eE (kp f' hu)) _ _ aa)
theorem pI(xs:List V)(k:Nat):fL xs (some (k:Int)) none=xs.drop k:=by
 unfold fL;rw[HT.sIx_none,HT.sIx_nat,ox (by rw[cA];omega)];by_cases h:k<=xs.length
 ·rw[Nat.min_eq_left h]
 ·rw[Nat.min_eq_right (by omega),l6 (by simp),l6 (by omega)]
theorem Paired.takeP{α β:Type}{R:α->β->Prop}:∀(n:Nat) {xs:List α}{ys:List β},Paired R xs ys->Paired R (xs.take n) (ys.take n)
 |0,_,_,_=>by rw[oo,oo];exact .nil
 |_+1,_,_,.nil=>.nil
 |n+1,_,_,.cons r t=>.cons r (Paired.takeP n t)
theorem Paired.dropP{α β:Type}{R:α->β->Prop}:∀(n:Nat) {xs:List α}{ys:List β},Paired R xs ys->Paired R (xs.drop n) (ys.drop n)
 |0,_,_,h=>h
 |_+1,_,_,.nil=>.nil
 |n+1,_,_,.cons r t=>Paired.dropP n t
def faceOf(J4:Zb)(ds:List aB)(story:List (List Str)):List Str:=story.foldl (behF J4 ds) (closF J4 ds (J4.take 1))
theorem uS(J4:Zb)(ds:List aB)(story:List (List Str))(sg:Zb):faceOf J4 ds (story++[sg])=behF J4 ds (faceOf J4 ds story) sg:=by
 unfold faceOf;rw[List.foldl_append]
 rfl
theorem y6{J4:Zb}{ds:List aB}(hr:J4.length<=1000)(story:List (List Str)):(∀r∈faceOf J4 ds story,r∈J4)/\(faceOf J4 ds story).length<=1000:=by
 have key:∀(L:List (List Str)) (f:Zb),(∀r∈f,r∈J4)->f.length<=1000->(∀r∈L.foldl (behF J4 ds) f,r∈J4)/\(L.foldl (behF J4 ds) f).length<=1000:=by
  intro L
  induction L with
  |nil=>intro f h1 h2;exact⟨h1,h2⟩
  |cons sg L ih=>intro f h1 h2;exact ih _ (Bc h1) (u6 hr h2)
 exact key story _ qZ (aW mK hr)
def o0(K:Za):TS :=
 aX (dE (eA K) (az (yz K V0 "own_asks")))
def pY:List Str:=["self"]
def oZ(K:Za):TS :=
 aX (dE (eA K) (az (yz K V0 "own_says")))
def pX:List Str:=["self"]
def vA(K:Za)(sp_law_behind:Sp)(sp_law_on:Sp):TS :=
 aq (aS (aL sp_law_on (aM V0 (xk (rSlA K) (aw (uv K) V0 (tC (.int 2))) (dI) (fO (tC (.int 1)))))) U2)
 (aq (fQ (c6 K V1) U3 (aS (aL sp_law_behind (dL V0 V2 V3)) U2))
 (aX V2))
def wN:List Str:=["told","story","face","sign"]


theorem sv{C x:Addr}{H:Hp}{J0 J2 J4:Zb}{ds:List aB}(h:ck C H x J0 J2 J4 ds):∃(dx:Addr) (fs:List (Str×V)) (o1 o2 lv:Addr) (lps:List (Str×Addr)),H x=some (.ins C dx fs)/\lk "asks" fs=none/\lk "says" fs=none/\lk "doors_from" fs=none/\lk "is_quiet" fs=none/\lk "own_asks" fs=some (.ref o1)/\lk "own_says" fs=some (.ref o2)/\lk "leaving" fs=some (.ref lv) /\
  H o1=some (.lst (J0.map V.str))/\H o2=some (.lst (J2.map V.str))/\lps.map (·.1)=J4/\H lv=some (.dK (cT Sum.inr lps))/\(∀x∈lps,∃us,H x.2=some (.lst (us.map V.ref))/\c_ H us (bQ ds x.1)):=by
 obtain⟨dx,fs,o1,o2,o3,o4,lv,qu,sg,sl,ts,lps,gps,sps,g1,a1,a2,a3,a4,b1,b2,b3,b4,b5,b6,b7,b8,L,c1,c2,c3,c4,G,d1,d2,d3⟩:=h.at_;obtain⟨dx',fs',g1',e1,e2,e3,e4⟩:=h.more;rw[g1]at g1';cases g1';exact⟨dx,fs,o1,o2,lv,lps,g1,e1,e2,e4,a1,b1,b2,b5,L.a1,L.a2,c1,c2,c3⟩
inductive nX(C:Addr)(vs:List V)(H:Hp)(Q:VK)(E:XK):Prop
 |mk (x:Addr) (J0 J2 J4:Zb) (ds:List aB):(vs=[.ref x])->(ck C H x J0 J2 J4 ds)->(∀l,H l=none->Q (.ref l) (upd H l (.lst (J0.map V.str))))->nX C vs H Q E
theorem BH{K:Za}{C:Addr}(M:MC K C){vs:List V}{H:Hp}{Q:VK}{E:XK}(h:nX C vs H Q E):o0 K (bx Q) (start pY vs) H:=by
 obtain⟨x,J0,J2,J4,ds,rfl,h,k⟩:=h;obtain⟨dx,fs,o1,o2,lv,lps,g1,a1,a2,a3,a4,b1,b2,b3,c1,c2,_⟩:=sv h;exact⟨_,rfl,x,C,dx,fs,.ref o1,rfl,g1,M.cls,M.a1,b1,.inl ⟨o1,_,rfl,.inl (ay.of c1),k⟩⟩
inductive nT(C:Addr)(vs:List V)(H:Hp)(Q:VK)(E:XK):Prop
 |mk (x:Addr) (J0 J2 J4:Zb) (ds:List aB):(vs=[.ref x])->(ck C H x J0 J2 J4 ds)->(∀l,H l=none->Q (.ref l) (upd H l (.lst (J2.map V.str))))->nT C vs H Q E
theorem BD{K:Za}{C:Addr}(M:MC K C){vs:List V}{H:Hp}{Q:VK}{E:XK}(h:nT C vs H Q E):oZ K (bx Q) (start pX vs) H:=by
 obtain⟨x,J0,J2,J4,ds,rfl,h,k⟩:=h;obtain⟨dx,fs,o1,o2,lv,lps,g1,a1,a2,a3,a4,b1,b2,b3,c1,c2,_⟩:=sv h;exact⟨_,rfl,x,C,dx,fs,.ref o2,rfl,g1,M.cls,M.a2,b2,.inl ⟨o2,_,rfl,.inl (ay.of c2),k⟩⟩
theorem Eb(sg:Zb):(gU sg).depth<=8:=by rw[bO];decide
inductive Ce where
 |lst (xs:List Sl)
 |dk (kvs:List (dH×Sl))
 |dt (kvs:List (TK×Sl))
 |ins (C:Addr) (fs:List (Str×Sl))
 |fk (o:Obj) (l:List (dH×V)) (kvs:List (dH×Sl))







abbrev Dx:List V->Hp->VK->Prop:=fun xs H Q=>(∃i,xs=[.int i]/\Q (.int i) H)∨∃k,xs=[.bl k]/\Q (.int (if k then 1 else 0)) H





open Classical in
abbrev Sg:=List Str
structure FMs where
 fs:List (List Str)
 ss:List (List Sg)
abbrev FMst:=FMs×List (List (Sg×Nat))
theorem Bt{K:Za}{a:Addr}{xs:List V}(h:∀H,bc K H a xs)(H:Hp):aA K H a xs:=by
 rcases h (fun _=>none)with(h|⟨o,h⟩)|h
 ·cases h
 ·cases h
 ·exact .inr h
abbrev dg(K:Za)(H:Hp)(w:Addr)(s:List Sg):Prop:=∃gs:List Addr,H w=some (.lst (gs.map V.ref))/\Paired (fun g (sg:Sg)=>aA K H g (sg.map V.str)) gs s
theorem aA.kt{K:Za}{H H':Hp}{a:Addr}{xs:List V}(k:gE H H')(h:aA K H a xs):aA K H' a xs:=h.keeps k
theorem aA.sq{K:Za}{H:Hp}{a:Addr}{xs:List V}(h:aA K H a xs):bc K H a xs:=h.imp .inl id
theorem Paired.rev{α β:Type}{R:α->β->Prop}:∀{a:List α}{b:List β},Paired R a b->Paired R a.reverse b.reverse
 |_,_,.nil=>.nil
 |_,_,.cons r t=>by
  rw[List.reverse_cons,List.reverse_cons];exact Paired.app (Paired.rev t) (.cons r .nil)
abbrev FPr:=List Str×List Str
open Builtin.Int (intBits)
def fJ(H:Hp)(a:Addr):Hp:=fun b=>if b=a then none else H b
theorem fb(H:Hp)(a:Addr):fJ H a a=none:=if_pos rfl
theorem eF{H:Hp}{a b:Addr}(h:b≠a):fJ H a b=H b:=if_neg h
theorem df{H:Hp}{a:Addr}:ac (fJ H a) H:=fun b o e=>by
 by_cases c:b=a
 ·rw[c,fb]at e;cases e
 ·rw[eF c]at e;exact e
theorem BZ{H0 H:Hp}{a:Addr}(S:ac H0 H)(h:H0 a=none):ac H0 (fJ H a):=fun b o e=>by rw[eF (ag e h)];exact S _ _ e
def ca(J2:Zb):Option Str->List Sg
 |none=>J2.map g6++[dR]
 |some a=>gC a::J2.map g6
theorem ac.exBs{p:Addr}{H H':Hp}(S:ac H H'):b0 p H H':=fun b o e _=>S b o e
theorem b0.trs{p:Addr}{H H1 H2:Hp}(a:b0 p H H1)(b:b0 p H1 H2):b0 p H H2:=fun c o e n=>b c o (a c o e n) n
theorem jB(J2:Zb)(ask:Option Str):(ca J2 ask).length=J2.length+1:=by
 cases ask with
 |none=>unfold ca;rw[aH,ak];rfl
 |some a=>unfold ca;rw[cW,ak]

mutual
def cy(K:Za)(H:Hp):DT->V->Prop
 |.k a,v=>v=kV a
 |.t l,v=>∃b xs,v=.ref b/\aA K H b xs/\TrCs K H l xs
 |.s _,_=>False
def TrCs(K:Za)(H:Hp):List DT->List V->Prop
 |[],vs=>vs=[]
 |k::r,vs=>∃v us,vs=v::us/\cy K H k v/\TrCs K H r us
end
mutual
theorem cy.kt{K:Za}{H H':Hp}(k:gE H H'):∀(d:DT) (v:V),cy K H d v->cy K H' d v
 |.k _,_,h=>h
 |.t l,v,h=>by
  obtain⟨b,xs,e,t,r⟩:=h;exact⟨b,xs,e,aA.kt k t,TrCs.kt k l xs r⟩
 |.s _,_,h=>h
theorem TrCs.kt{K:Za}{H H':Hp}(k:gE H H'):∀(l:List DT) (vs:List V),TrCs K H l vs->TrCs K H' l vs
 |[],_,h=>h
 |d::r,vs,h=>by
  obtain⟨v,us,e,t,q⟩:=h;exact⟨v,us,e,cy.kt k d v t,TrCs.kt k r us q⟩
end
mutual
theorem cy.dIn{K:Za}{H:Hp}:∀(d:DT) (v:V),cy K H d v->f8 K H d v
 |.k _,_,h=>h
 |.t l,v,h=>by
  obtain⟨b,xs,e,t,r⟩:=h;exact⟨b,xs,e,aA.sq t,TrCs.dIn l xs r⟩
 |.s _,_,h=>h.elim
theorem TrCs.dIn{K:Za}{H:Hp}:∀(l:List DT) (vs:List V),TrCs K H l vs->DIns K H l vs
 |[],_,h=>h
 |d::r,vs,h=>by
  obtain⟨v,us,e,t,q⟩:=h;exact⟨v,us,e,cy.dIn d v t,TrCs.dIn r us q⟩
end
abbrev fE(K:Za)(H:Hp)(vs:List V)(ps:List DT):Prop:=Paired (fun v d=>cy K H d v) vs ps
theorem fE.kt{K:Za}{H H':Hp}{vs:List V}{ps:List DT}(k:gE H H')(h:fE K H vs ps):fE K H' vs ps:=Paired.mapP h fun v d r=>cy.kt k d v r
theorem fE.all{K:Za}{H:Hp}{vs:List V}{ps:List DT}(h0:fE K H vs ps):TrCs K H ps vs:=by
 have h:Paired (fun v d=>cy K H d v) vs ps:=h0;clear h0
 induction h with
 |nil=>rfl
 |cons a _ ih=>exact⟨_,_,rfl,a,ih⟩
theorem kZ{K:Za}{H:Hp}(s:Str):cy K H (dv s) (.str s):=rfl
def fU:Sg:=["blame"]
def iw:Sg:=["end"]
theorem rQ{K:Za}{H:Hp}{b:Addr}:∀{sg:Sg},aA K H b (sg.map V.str)->cy K H (gU sg) (.ref b):=fun{sg} h=>by
 refine⟨b,_,rfl,h,?_⟩;clear h
 induction sg with
 |nil=>rfl
 |cons s r ih=>exact⟨_,_,rfl,kZ s,ih⟩
def eC(w:Str)(d:DT):DT:=.t [dv w,d]
def dO(J2:Zb):Option Str->List DT->DT
 |none,ps=>.t [dv "wait",.t (cX eC J2 (ps.take J2.length)),(ps[J2.length]?).getD (gU iw)]
 |some a,ps=>.t [dv "tell",dv a,(ps[0]?).getD (gU iw),.t (cX eC J2 (ps.drop 1))]
def dB:Nat->Nat
 |0=>1
 |d+1=>dB d+3
theorem mi{b:Nat}:∀(ws:Zb) (ps:List DT),(∀p∈ps,p.depth<=b)->DT.depths (cX eC ws ps)<=b+1
 |[],_,_=>by simp[DT.depths]
 |_::_,[],_=>by simp[DT.depths]
 |w::ws,p::ps,h=>by
  show max (eC w p).depth (DT.depths (cX eC ws ps))<=b+1;have h1:=mi ws ps fun q hq=>h q (fx _ hq);have h2:=h p eR;have h3:(eC w p).depth=max 0 (max p.depth 0)+1:=rfl;omega
theorem t_{J2:Zb}{a:Option Str}{ps:List DT}{b:Nat}(h1:1<=b)(h:∀p∈ps,p.depth<=b):(dO J2 a ps).depth<=b+3:=by
 have hd:∀i:Nat,((ps[i]?).getD (gU iw)).depth<=b:=fun i=>by
  cases e:ps[i]? with
  |none=>show(gU iw).depth<=b;rw[bO];exact h1
  |some p=>exact h p (cg e)
 cases a with
 |none =>
  have h2:=mi J2 (ps.take J2.length) fun p hp=>h p (h9 hp);have h3:=hd J2.length;show max 0 (max (DT.depths _+1) (max _ 0))+1<=b+3;omega
 |some a =>
  have h2:=mi J2 (ps.drop 1) fun p hp=>h p (ou hp);have h3:=hd 0;show max 0 (max 0 (max _ (max (DT.depths _+1) 0)))+1<=b+3;omega
theorem wz:∀d,1<=dB d
 |0=>ax _
 |d+1=>by show 1<=dB d+3;omega
theorem qX{K:Za}{k:Nat}{fi:List Nat}{g:TG}{tc:TT}{te:TE}{σ:L2.St}{H1:Hp}{Q:Hp->Prop}{l a b:Addr}{xs ys:List V}(hxy:xs.length<=ys.length)(Pv:Nat->List V->Hp->Prop)(h0:Pv 0 [] (upd H1 l (.lst [])))
  (hl:∀i vs H,i<=xs.length->Pv i vs H->H l=some (.lst vs)/\ay K H a xs/\ay K H b ys) (hd:∀vs H,Pv xs.length vs H->Q H)
  (hs:∀i vs H x y p,xs[i]?=some x->ys[i]?=some y->i<xs.length->Pv i vs H->H p=none->g (.ref p) (cF k fi σ) (upd H p (.tup [x,y])) fun σ2 H4=>tc σ2 H4 fun b H5 =>
   if b=true then te σ2 H5 fun v H6=>H6 l=some (.lst vs)/\vs.length<ai/\∃m',m'<xs.length-i/\Wc xs.length Pv (i+1) m' (vs++[v]) (upd H6 l (.lst (vs++[v])))else ∃m',m'<xs.length-i/\Wc xs.length Pv (i+1) m' vs H5) :
  cG k fi σ (Ee K a b) g tc te H1 l Q:=by
 refine iz xs.length Pv h0 (fun i vs H hi p=>(hl i vs H hi p).1) (fun i vs H hi p=>?_) (fun vs H p=>?_) fun i vs H x H3 hi p y=>?_
 ·obtain⟨_,q1,q2⟩:=hl i vs H (cp hi) p;have hi2:i<ys.length:=by omega
  exact⟨xs,ys,xs[i],ys[i],q1,q2,by simp[hi],by simp[hi2]⟩
 ·obtain⟨_,q1,q2⟩:=hl _ vs H (ax _) p;exact⟨⟨xs,ys,q1,q2,.inl (ax _)⟩,hd vs H p⟩
 ·obtain⟨_,q1,q2⟩:=hl i vs H (cp hi) p;obtain⟨t,u,v,rfl,hn,hu,hv,rfl⟩:=y;exact hs i vs H u v t (hu xs q1) (hv ys q2) hi p hn
theorem yb{xs:List V}{n:Nat}{v:V}(hn:n+1=xs.length)(h:xs[n]?=some v):u8 xs (-1)=some v:=by
 have e:xs=xs.take n++[v]:=by rw[<-take_snoc h,hn,bo]
 rw[e];exact Bd _ _
theorem gX{J2:Zb}{ps:List DT}{d:DT}(h:ps[J2.length]?=some d):dO J2 none ps=.t [dv "wait",.t (cX eC J2 (ps.take J2.length)),d]:=by
 show DT.t [_,_,(ps[J2.length]?).getD _]=_;rw[h];rfl
theorem gW{J2:Zb}{ps:List DT}{a:Str}{d:DT}(h:ps[0]?=some d):dO J2 (some a) ps=.t [dv "tell",dv a,d,.t (cX eC J2 (ps.drop 1))]:=by
 show DT.t [_,_,(ps[0]?).getD _,_]=_;rw[h];rfl
open Builtin.Int (intBits)
theorem AN{a:Addr}{H H':Hp}(e:ac H H'):ac (fJ H a) (fJ H' a):=fun b o q=>by
 by_cases c:b=a
 ·rw[c,fb]at q;cases q
 ·rw[eF c]at q ⊢;exact e _ _ q
theorem d_.hid2{H:Hp}{p c a:Addr}(h:d_ H p c)(n1:p≠a)(n2:c≠a):d_ (fJ H a) p c:=by
 obtain⟨x,r,ns,h1⟩:=h;refine⟨x,r,ns,?_⟩;cases h1;constructor<;>first|assumption|(rw[eF n1];assumption)|(rw[eF n2];assumption)
def yu(K:Za):TS :=
 aX (j4 (aw mw (dE (d9 K) (az V0)) (tC (.int 4))) (aw mw (aw (bz K) V0 (tC (.int 0))) (tC (.str "tell"))))
def zD:List Str:=["trial"]
def yt(K:Za):TS :=
 aX (j4 (aw mw (dE (d9 K) (az V0)) (tC (.int 3))) (aw mw (aw (bz K) V0 (tC (.int 0))) (tC (.str "wait"))))
def zC:List Str:=["trial"]
def mm(K:Za):TS :=
 aX (cw 2 [] (uM K V0) (gS K 2 (a_ U0 (a_ U1 (gx)))) (eQ) (bf (aM (bf (ap (tC (.str "say")) (az V0))) V1)))
def mO:List Str:=["pairs"]
def oT(K:Za)(sp_is_wait:Sp)(sp_says_and_parts:Sp)(a_HUSH:Addr)(sp_is_tell:Sp):TS :=
 aq (bZ (tB (aL sp_is_tell (az V0))) (aX (aw lu (bY (ap (bf (ap (bf (aM (tC (.str "ask")) (aw (bz K) V0 (tC (.int 1))))) (az (aw (bz K) V0 (tC (.int 2)))))) be)) (aL sp_says_and_parts (az (aw (bz K) V0 (tC (.int 3))))))) (bb))
 (aq (bZ (tB (aL sp_is_wait (az V0))) (aX (aw lu (aL sp_says_and_parts (az (aw (bz K) V0 (tC (.int 1))))) (bY (ap (bf (aM (tC (.ref a_HUSH)) (aw (bz K) V0 (tC (.int 2))))) be)))) (bb))
 (aX (bY (be))))
def pT:List Str:=["trial"]
def oU(K:Za)(sp_signed_parts:Sp):TS :=
 aq (aS (bY (be)) U3)
 (aq (fQ (no K (az (aL sp_signed_parts (az V2)))) (gS K 2 (a_ U4 (a_ U5 (gx)))) (aq (aS V5 (gS K 2 (a_ U6 (a_ U7 (gx)))))
 (cY (vJ K "list" de V3 (ap (bf (dL (aw (uw K) V0 (bf (az V4))) (aw lu V1 (bY (az V6))) V7)) be)))))
 (aX V3))
def pU:List Str:=["way","story","trial","behind","number","signed","sign","part"]
def ua(K:Za)(sp_parts_behind:Sp):TS :=
 aq (aS (bY (be)) U1)
 (aq (aS (bY (az (bf (dL (bf (be)) (bY (be)) V0)))) U2)
 (aq (rY (ba (aw BJ (dE (d9 K) (az V2)) (tC (.int 0)))) (aq (aS (CP K "list" CT V2) (gS K 3 (a_ U3 (a_ U4 (a_ U5 (gx))))))
 (aq (cY (vJ K "list" de V1 (az (bf (dL V3 V4 V5)))))
 (aq (fQ (DG K (az (aL sp_parts_behind (dL V3 V4 V5)))) U6 (cY (vJ K "list" de V2 (az V6))))
 (bZ (zG (ba (aw mw (dE (d9 K) (az V3)) (tC (.int 8)))) (ba (aw BJ (aw dF (dE (d9 K) (az V1)) (dE (d9 K) (az V2))) (tC (.int 1000))))) (rZ) (bb))))))
 (aX V1)))
def u_:List Str:=["trial","found","waiting","way","story","here","one"]
def jP(K:Za)(C_Machine:Addr)(sp_Machine_says:Sp):TS :=
 aX (aw (nM K) (cw 2 [] (uM K V1) (gS K 2 (a_ U0 (a_ U1 (gx)))) (eQ) V0) (ui C_Machine "says" sp_Machine_says [] E0 V0 be))
def jW:List Str:=["M","pairs"]
def k4(K:Za)(a_BLAME:Addr)(a_END:Addr)(sp_is_wait:Sp)(sp_has_says_in_order:Sp)(sp_is_tell:Sp)(C_Machine:Addr)(sp_Machine_asks:Sp):TS :=
 aq (bZ (tB (aL sp_is_tell (az V1))) (aX (j4 (aw (sF K false) (aw (bz K) V1 (tC (.int 1))) (ui C_Machine "asks" sp_Machine_asks [] E0 V0 be)) (aL sp_has_says_in_order (aM V0 (aw (bz K) V1 (tC (.int 3))))))) (bb))
 (aq (bZ (tB (aL sp_is_wait (az V1))) (aX (aL sp_has_says_in_order (aM V0 (aw (bz K) V1 (tC (.int 1)))))) (bb))
 (aX (Ds (aw (nM K) V1 (tC (.ref a_END))) (aw (nM K) V1 (tC (.ref a_BLAME))))))
def lS:List Str:=["M","trial"]
def jQ(K:Za)(sp_is_so_by_itself:Sp)(sp_with_ways:Sp):TS :=
 aq (aS (aL sp_with_ways (az V1)) U2)
 (aq (fQ (c6 K V2) (gS K 3 (a_ U3 (a_ U4 (a_ U5 (gx))))) (bZ (uh (tB (aL sp_is_so_by_itself (aM V0 V5)))) (rZ) (bb)))
 (aX V2))
def jX:List Str:=["M","trial","found","way","story","here"]
inductive Tr where
 |bl
 |en
 |nd (a:Option Str) (ps:List Tr)
mutual
def Tr.dt(J2:Zb):Tr->DT
 |.bl=>gU fU
 |.en=>gU iw
 |.nd a ps=>dO J2 a (Tr.dts J2 ps)
def Tr.dts(J2:Zb):List Tr->List DT
 |[]=>[]
 |t::r=>Tr.dt J2 t::Tr.dts J2 r
end
theorem Tr.dts_map(J2:Zb):∀l:List Tr,Tr.dts J2 l=l.map (Tr.dt J2)
 |[]=>rfl
 |t::r=>by rw[Tr.dts,Tr.dts_map J2 r];rfl
mutual
def Tr.wf(J0 J2:Zb):Tr->Prop
 |.bl=>True
 |.en=>True
 |.nd a ps=>ps.length=J2.length+1/\(∀w,a=some w->w∈J0)/\Tr.wfs J0 J2 ps
def Tr.wfs(J0 J2:Zb):List Tr->Prop
 |[]=>True
 |t::r=>Tr.wf J0 J2 t/\Tr.wfs J0 J2 r
end
theorem Tr.wfs_mem{J0 J2:Zb}:∀{l:List Tr},Tr.wfs J0 J2 l↔∀t∈l,Tr.wf J0 J2 t
 |[]=>by simp[Tr.wfs]
 |t::r=>by
  rw[Tr.wfs,Tr.wfs_mem (l:=r)];simp
structure En where
 way:List Nat
 story:List Sg
 tr:Tr
mutual
def gR(J2:Zb)(w:List Nat)(s:List Sg):Tr->List En
 |.bl=>[⟨w,s,.bl⟩]
 |.en=>[⟨w,s,.en⟩]
 |.nd a ps=>⟨w,s,.nd a ps⟩::preEs J2 w s (ca J2 a) 0 ps
def preEs(J2:Zb)(w:List Nat)(s:List Sg)(sgs:List Sg)(i:Nat):List Tr->List En
 |[]=>[]
 |p::ps=>gR J2 (w++[i]) (s++(sgs.take 1)) p++preEs J2 w s (sgs.drop 1) (i+1) ps
end
def lH(w:List Nat)(s:List Sg)(sgs:List Sg)(i:Nat):List Tr->List En
 |[]=>[]
 |p::ps=>⟨w++[i],s++sgs.take 1,p⟩::lH w s (sgs.drop 1) (i+1) ps
def mG(J2:Zb)(e:En):List En :=
 match e.tr with
 |.nd a ps=>lH e.way e.story (ca J2 a) 0 ps
 |_=>[]
def my(J2:Zb)(e:En):List En:=gR J2 e.way e.story e.tr
theorem pe(J2:Zb)(w:List Nat)(s:List Sg):∀(ps:List Tr) (sgs:List Sg) (i:Nat),preEs J2 w s sgs i ps=(lH w s sgs i ps).flatMap (my J2)
 |[],_,_=>rfl
 |p::ps,sgs,i=>by
  rw[preEs,pe J2 w s ps];show _=List.flatMap _ (_::_);rw[List.flatMap_cons];rfl
theorem qH(J2:Zb)(e:En):my J2 e=e::(mG J2 e).flatMap (my J2):=by
 obtain⟨w,s,t⟩:=e;unfold my mG;cases t with
 |bl=>rfl
 |en=>rfl
 |nd a ps =>
  show _::preEs J2 w s (ca J2 a) 0 ps=_;rw[pe];rfl
theorem Ao(J2:Zb)(e:En):0<(my J2 e).length:=by rw[qH];exact Nat.succ_pos _
theorem uK{J0 J2:Zb}{w:List Nat}{s:List Sg}:∀{ps:List Tr}{sgs:List Sg}{i:Nat},(∀p∈ps,Tr.wf J0 J2 p)->∀e∈lH w s sgs i ps,Tr.wf J0 J2 e.tr
 |[],_,_,_,e,he=>by cases he
 |p::ps,sgs,i,h,e,he=>by
  rcases bS.1 he with rfl|he
  ·exact h p eR
  ·exact uK (fun q hq=>h q (fx _ hq)) e he
theorem BY{J0 J2:Zb}{e:En}(h:Tr.wf J0 J2 e.tr):∀k∈mG J2 e,Tr.wf J0 J2 k.tr:=by
 obtain⟨w,s,t⟩:=e;cases t with
 |bl=>intro k hk;cases hk
 |en=>intro k hk;cases hk
 |nd a ps =>
  obtain⟨_,_,h3⟩:=h;exact uK (Tr.wfs_mem.1 h3)
mutual
def Tr.hgt:Tr->Nat
 |.bl=>0
 |.en=>0
 |.nd _ ps=>Tr.hgts ps+1
def Tr.hgts:List Tr->Nat
 |[]=>0
 |t::r=>max t.hgt (Tr.hgts r)
end
mutual
theorem pf(J2:Zb):∀(t:Tr) (w:List Nat) (s:List Sg),∀e∈gR J2 w s t,e.way.length<=w.length+t.hgt
 |.bl,w,s,e,he=>by rw[cc.1 he];exact ka _ _
 |.en,w,s,e,he=>by rw[cc.1 he];exact ka _ _
 |.nd a ps,w,s,e,he=>by
  rcases bS.1 he with rfl|he
  ·exact ka _ _
  ·have:=preEs_way J2 ps w s _ 0 e he;show _<=w.length+(Tr.hgts ps+1);omega
theorem preEs_way(J2:Zb):∀(ps:List Tr) (w:List Nat) (s sgs:List Sg) (i:Nat),∀e∈preEs J2 w s sgs i ps,e.way.length<=w.length+1+Tr.hgts ps
 |[],_,_,_,_,e,he=>by cases he
 |p::ps,w,s,sgs,i,e,he=>by
  have hm:Tr.hgts (p::ps)=max p.hgt (Tr.hgts ps):=rfl;rcases bq.1 he with he|he
  ·have:=pf J2 p _ _ e he;rw[aH]at this;have e1:([i]:List Nat).length=1:=rfl;omega
  ·have:=preEs_way J2 ps w s _ (i+1) e he;omega
end
def Cp:Nat->Nat
 |0=>1
 |h+1=>1+5 * Cp h
mutual
theorem uz{J0 J2:Zb}(z:J2.length<=4):∀(h:Nat) (t:Tr) (w:List Nat) (s:List Sg),Tr.wf J0 J2 t->t.hgt<=h->(gR J2 w s t).length<=Cp h
 |0,.bl,_,_,_,_=>ax _
 |0,.en,_,_,_,_=>ax _
 |0,.nd a ps,_,_,_,hh=>absurd hh (by show ¬Tr.hgts ps+1<=0;omega)
 |h+1,.bl,_,_,_,_=>by show 1<=1+_;omega
 |h+1,.en,_,_,_,_=>by show 1<=1+_;omega
 |h+1,.nd a ps,w,s,hw,hh=>by
  obtain⟨h1,_,h3⟩:=hw;have hh:Tr.hgts ps+1<=h+1:=hh;have:=preEs_len z h ps w s (ca J2 a) 0 h3 (by omega);show(preEs J2 w s (ca J2 a) 0 ps).length+1<=1+5 * Cp h;have:ps.length * Cp h<=5 * Cp h:=Nat.mul_le_mul_right _ (by omega);omega
theorem preEs_len{J0 J2:Zb}(z:J2.length<=4):∀(h:Nat) (ps:List Tr) (w:List Nat) (s sgs:List Sg) (i:Nat),Tr.wfs J0 J2 ps->Tr.hgts ps<=h->(preEs J2 w s sgs i ps).length<=ps.length * Cp h
 |h,[],_,_,_,_,_,_=>bN _
 |h,p::ps,w,s,sgs,i,hw,hh=>by
  have hm:Tr.hgts (p::ps)=max p.hgt (Tr.hgts ps):=rfl;have h1:=uz z h p (w++[i]) (s++sgs.take 1) hw.1 (by omega);have h2:=preEs_len z h ps w s (sgs.drop 1) (i+1) hw.2 (by omega);show(gR J2 (w++[i]) (s++sgs.take 1) p++preEs J2 w s (sgs.drop 1) (i+1) ps).length<=(ps.length+1) * Cp h;rw[aH,Nat.succ_mul];omega
end
theorem fE.of{K:Za}{H:Hp}:∀{ps:List DT}{vs:List V},TrCs K H ps vs->fE K H vs ps
 |[],vs,h=>by
  have h:vs=[]:=h;rw[h];exact .nil
 |p::ps,vs,h=>by
  obtain⟨v,us,rfl,h1,h2⟩:=h;exact .cons h1 (fE.of h2)
inductive iG(K:Za)(n:Nat)(w:Str)(vs:List V)(H:Hp)(Q:VK)(E:XK):Prop
 |mk (v:V) (s:Str) (r:List DT):(vs=[v])->(cy K H (.t (dv s::r)) v)->(Q (.bl (decide (r.length+1=n) && decide (s=w))) H)->iG K n w vs H Q E
theorem xW{xs:List V}{r:List DT}{n:Nat}(h:xs.length=r.length+1):decide (V.int (xs.length:Nat)=V.int (n:Nat))=decide (r.length+1=n):=by
 rw[h];exact decide_eq_decide.2 ⟨fun z=>by injection z with z;omega,fun z=>by rw[z]⟩
theorem dec_str{s w:Str}:decide (V.str s=V.str w)=decide (s=w):=decide_eq_decide.2 ⟨fun z=>by injection z,fun z=>by rw[z]⟩
theorem yP{K:Za}{vs:List V}{H:Hp}{Q:VK}{E:XK}(h:iG K 4 "tell" vs H Q E):yu K (bx Q) (start zD vs) H:=by
 obtain⟨v,s,r,rfl,⟨b,xs,rfl,ht,hx⟩,k⟩:=h;have hp:=fE.of hx;have hl:=Paired.length hp;obtain⟨y,us,rfl,e0,_⟩:=hx;have e0:y=V.str s:=e0;subst e0;refine⟨_,rfl,.inl ⟨b,_,rfl,.inr (aA.sq ht),rfl,_,rfl,?_⟩⟩;rw[show decide (V.int ((V.str s::us).length:Nat)=V.int 4)=decide (r.length+1=4)from xW (n:=4) hl];by_cases c:r.length+1=4
 ·rw[zzr1 c]at k ⊢;refine bh ⟨_,rfl,b,_,0,.str s,rfl,rfl,aA.sq ht,aD (j:=0) rfl,rfl,?_⟩;rw[dec_str];exact k
 ·rw[zzr0 c]at k ⊢;exact aT k
theorem yO{K:Za}{vs:List V}{H:Hp}{Q:VK}{E:XK}(h:iG K 3 "wait" vs H Q E):yt K (bx Q) (start zC vs) H:=by
 obtain⟨v,s,r,rfl,⟨b,xs,rfl,ht,hx⟩,k⟩:=h;have hp:=fE.of hx;have hl:=Paired.length hp;obtain⟨y,us,rfl,e0,_⟩:=hx;have e0:y=V.str s:=e0;subst e0;refine⟨_,rfl,.inl ⟨b,_,rfl,.inr (aA.sq ht),rfl,_,rfl,?_⟩⟩;rw[show decide (V.int ((V.str s::us).length:Nat)=V.int 3)=decide (r.length+1=3)from xW (n:=3) hl];by_cases c:r.length+1=3
 ·rw[zzr1 c]at k ⊢;refine bh ⟨_,rfl,b,_,0,.str s,rfl,rfl,aA.sq ht,aD (j:=0) rfl,rfl,?_⟩;rw[dec_str];exact k
 ·rw[zzr0 c]at k ⊢;exact aT k
def Cd(K:Za)(H:Hp)(q:Addr)(p:Sg×DT):Prop:=∃s v,H q=some (.tup [.ref s,v])/\aA K H s (p.1.map V.str)/\cy K H p.2 v
theorem Cd.kt{K:Za}{H H':Hp}{q:Addr}{p:Sg×DT}(k:gE H H')(h:Cd K H q p):Cd K H' q p:=by
 obtain⟨s,v,h1,h2,h3⟩:=h;exact⟨s,v,k _ _ h1,aA.kt k h2,cy.kt k _ _ h3⟩
abbrev jn(K:Za)(H:Hp)(qs:Ze)(L:List (Sg×DT)):Prop:=Paired (Cd K H) qs L
theorem jn.kt{K:Za}{H H':Hp}{qs:Ze}{L:List (Sg×DT)}(k:gE H H')(h:jn K H qs L):jn K H' qs L:=Paired.mapP h fun _ _ r=>r.kt k
inductive fR(K:Za)(vs:List V)(H:Hp)(Q:VK)(E:XK):Prop
 |mk (v:V) (ws:Zb) (ps:List DT):(vs=[v])->(cy K H (.t (cX eC ws ps)) v)->(ws.length=ps.length)->(ws.length<=1000)->(∀(l:Addr) (qs:Ze) (H':Hp),H' l=some (.lst (qs.map V.ref))->jn K H' qs ((ws.map g6).zip ps)->ac H H'->Q (.ref l) H')->fR K vs H Q E
theorem sD{K:Za}{vs:List V}{H:Hp}{Q:VK}{E:XK}(h:fR K vs H Q E):mm K (bx Q) (start mO vs) H:=by
 obtain⟨v,ws,ps,rfl,⟨b,xs,rfl,ht,hx⟩,zl,z,k⟩:=h;have hp:=fE.of hx;have hl:=Paired.length hp;rw[rk]at hl;refine⟨_,rfl,b,rfl,⟨_,aA.sq ht⟩,fun l hl0=>?_⟩
 let zI0:Nat->List V->Hp->Prop:=fun i us H'=>∃qs:List Addr,us=qs.map V.ref/\ac H H'/\H' l=some (.lst us)/\jn K H' qs (((ws.take i).map g6).zip (ps.take i))
 refine lP (xs:=xs) zI0 ⟨[],rfl,ac.new hl0,aa,.nil⟩ (fun i us H' _ zq=>by obtain⟨_,_,S,h',_⟩:=zq;exact⟨h',aA.sq (aA.kt (ac.kt S) ht)⟩) ?_ ?_
 ·rintro us H' ⟨qs,rfl,S,h',hq⟩;have e1:xs.length=ws.length:=by omega
  rw[e1,bo,zl,bo]at hq;exact k l qs H' h' hq S
 ·rintro i us H1 x hxi hi ⟨qs,rfl,S,h1,hq⟩;obtain⟨d,hd⟩:∃d,ps[i]?=some d:=⟨_,bC (by omega)⟩;obtain⟨w,hw⟩:∃w,ws[i]?=some w:=⟨_,bC (by omega)⟩;obtain⟨y,hy,hyx⟩:=Paired.getL hp hxi;rw[List.getElem?_zipWith,hw,hd]at hy;injection hy with hy;rw[<-hy]at hyx;obtain⟨c,us',rfl,hc,x1,us1,rfl,hx1,x2,us2,rfl,hx2,e3⟩:=hyx;have e3:us2=[]:=e3;subst e3;cases hx1;have hc1:=aA.kt (ac.kt S) hc;refine⟨c,_,rfl,aA.sq hc1,rfl,_,_,rfl,_,_,rfl,rfl,kY ?_⟩;refine⟨_,rfl,(by show 2<=ai;decide),fun p hp1=>⟨_,rfl,(by show 2<=ai;decide),fun q hq1=>?_⟩⟩;have S2:ac H1 (upd H1 p (.tup [.str "say",.str w])):=ac.new hp1;have p2:upd H1 p (.tup [.str "say",.str w]) p=some (.tup ((g6 w).map V.str)):=aa
  change upd H1 p (.tup [.str "say",.str w]) q=none at hq1
  have S3:ac (upd H1 p (.tup [.str "say",.str w])) (upd (upd H1 p (.tup [.str "say",.str w])) q (.tup [.ref p,x2])):=ac.new hq1;have q3:upd (upd H1 p (.tup [.str "say",.str w])) q (.tup [.ref p,x2]) q=some (.tup [.ref p,x2]):=aa;have p3:=S3 _ _ p2;have S13:=S2.trans S3;have h3:=S13 _ _ h1;refine⟨h3,?_,n0 hi ⟨qs++[q],by rw[aG];rfl,fun b o e=>?_,aa,?_⟩⟩
  ·rw[ak,Paired.length hq,on,ak,aF];exact ao (by omega)
  ·rw[aj (ag e hl0)];exact S13 _ _ (S _ _ e)
  ·have kt:gE (upd (upd H1 p (.tup [.str "say",.str w])) q (.tup [.ref p,x2])) (upd (upd (upd H1 p (.tup [.str "say",.str w])) q (.tup [.ref p,x2])) l (.lst (qs.map V.ref++[.ref q]))):=eE h3;rw[take_snoc hw,take_snoc hd,aG,List.zip_append (by rw[ak,aF,aF];omega)];refine cf (jn.kt (fun b xs e=>kt _ _ (ac.kt S13 _ _ e)) hq) ?_;exact⟨p,x2,kt _ _ q3,.inl (kt _ _ p3),cy.kt (fun b xs e=>kt _ _ (ac.kt (S.trans S13) _ _ e)) _ _ hx2⟩
def Dt(J2:Zb):Tr->List (Sg×DT)
 |.nd a ps=>(ca J2 a).zip (Tr.dts J2 ps)
 |_=>[]
def Tr.ok(J2:Zb):Tr->Prop
 |.nd _ ps=>ps.length=J2.length+1
 |_=>True
theorem Tr.wf.ok{J0 J2:Zb}:∀{t:Tr},t.wf J0 J2->t.ok J2
 |.bl,_=>trivial
 |.en,_=>trivial
 |.nd _ _,h=>h.1
inductive jx(K:Za)(vs:List V)(H:Hp)(Q:VK)(E:XK):Prop
 |mk (v:V) (T:Tr) (J2:Zb):(vs=[v])->(cy K H (T.dt J2) v)->(T.ok J2)->(J2.length<=4)->(∀(l:Addr) (qs:Ze) (H':Hp),H' l=some (.lst (qs.map V.ref))->jn K H' qs (Dt J2 T)->ac H H'->Q (.ref l) H')->jx K vs H Q E
theorem yH{K:Za}{hu:Addr}(hh:∀H,bc K H hu (dR.map V.str)){vs:List V}{H:Hp}{Q:VK}{E:XK}(h:jx K vs H Q E):oT K (iG K 3 "wait") (fR K) hu (iG K 4 "tell") (bx Q) (start pT vs) H:=by
 obtain⟨v,T,J2,rfl,hv,ok,z4,k⟩:=h;cases T with
 |bl =>
  refine⟨_,rfl,v,"blame",[],rfl,hv,_,rfl,?_⟩;refine aT ⟨_,rfl,v,"blame",[],rfl,hv,_,rfl,?_⟩;refine aT ⟨(by show 0<=ai;decide),fun l hl=>k l [] _ aa .nil (ac.new hl)⟩
 |en =>
  refine⟨_,rfl,v,"end",[],rfl,hv,_,rfl,?_⟩;refine aT ⟨_,rfl,v,"end",[],rfl,hv,_,rfl,?_⟩;refine aT ⟨(by show 0<=ai;decide),fun l hl=>k l [] _ aa .nil (ac.new hl)⟩
 |nd a ps =>
  have ok:ps.length=J2.length+1:=ok;have zd:(Tr.dts J2 ps).length=J2.length+1:=by rw[Tr.dts_map,ak,ok]
  have hv:cy K H (dO J2 a (Tr.dts J2 ps)) v:=hv;have k:∀(l:Addr) (qs:Ze) (H':Hp),H' l=some (.lst (qs.map V.ref))->jn K H' qs ((ca J2 a).zip (Tr.dts J2 ps))->ac H H'->Q (.ref l) H':=k;generalize Tr.dts J2 ps=dps at zd hv k;cases a with
  |some a =>
   obtain⟨d0,ed0⟩:∃d,dps[0]?=some d:=⟨_,bC (by omega)⟩;rw[gW ed0]at hv;have ec:dps=d0::dps.drop 1:=by
    cases dps with
    |nil=>cases ed0
    |cons x r=>injection ed0 with ed0;rw[ed0];rfl
   refine⟨_,rfl,v,"tell",_,rfl,hv,_,rfl,?_⟩;obtain⟨b,xs,rfl,ht,x0,us0,rfl,e0,x1,us1,rfl,e1,x2,us2,rfl,e2,x3,us3,rfl,e3,e4⟩:=hv;have e4:us3=[]:=e4;subst e4;cases e0;cases e1;refine bh ?_;refine⟨_,rfl,b,_,1,.str a,rfl,rfl,aA.sq ht,aD (j:=1) rfl,(by show 2<=ai;decide),fun p1 hp1=>?_⟩;have S1:ac H (upd H p1 (.tup [.str "ask",.str a])):=ac.new hp1;have p11:upd H p1 (.tup [.str "ask",.str a]) p1=some (.tup ((gC a).map V.str)):=aa;generalize upd H p1 (.tup [.str "ask",.str a])=H1 at S1 p11 ⊢;refine⟨_,rfl,b,_,2,x2,rfl,rfl,aA.sq (aA.kt (ac.kt S1) ht),aD (j:=2) rfl,(by show 2<=ai;decide),fun p2 hp2=>⟨(by show 1<=ai;decide),fun l1 hl1=>?_⟩⟩;have S2:ac H1 (upd H1 p2 (.tup [.ref p1,x2])):=ac.new hp2;have p22:upd H1 p2 (.tup [.ref p1,x2]) p2=some (.tup [.ref p1,x2]):=aa
   change upd H1 p2 (.tup [.ref p1,x2]) l1=none at hl1
   have S3:ac (upd H1 p2 (.tup [.ref p1,x2])) (upd (upd H1 p2 (.tup [.ref p1,x2])) l1 (.lst [.ref p2])):=ac.new hl1;have l13:upd (upd H1 p2 (.tup [.ref p1,x2])) l1 (.lst [.ref p2]) l1=some (.lst [.ref p2]):=aa;have p23:=S3 _ _ p22;have S13:=S2.trans S3;generalize upd (upd H1 p2 (.tup [.ref p1,x2])) l1 (.lst [.ref p2])=H3 at S13 l13 p23 ⊢;have S03:=S1.trans S13;refine⟨_,rfl,b,_,3,x3,rfl,rfl,aA.sq (aA.kt (ac.kt S03) ht),aD (j:=3) rfl,x3,J2,dps.drop 1,rfl,cy.kt (ac.kt S03) _ _ e3,by rw[cA];omega,by omega,fun l2 qs H4 h4 hq S4=>?_⟩;have zq:qs.length<=4:=by rw[Paired.length hq,on,ak];omega
   refine⟨l1,l2,_,_,rfl,rfl,S4 _ _ l13,h4,by rw[ak];exact cp (ao (by show 1+_<=1000;omega)),fun l hl=>?_⟩;have S5:ac H4 (upd H4 l (.lst ([V.ref p2]++qs.map V.ref))):=ac.new hl;refine k l (p2::qs) _ aa ?_ ((S03.trans S4).trans S5);rw[ec];have S35:=S4.trans S5;exact .cons ⟨p1,x2,S35 _ _ p23,.inl (S35 _ _ (S13 _ _ p11)),cy.kt (ac.kt (S03.trans S35)) _ _ e2⟩ (jn.kt (ac.kt S5) hq)
  |none =>
   obtain⟨d0,ed0⟩:∃d,dps[J2.length]?=some d:=⟨_,bC (by omega)⟩;rw[gX ed0]at hv;have ec:dps=dps.take J2.length++[d0]:=by rw[<-take_snoc ed0,<-zd,bo]
   refine⟨_,rfl,v,"wait",_,rfl,hv,_,rfl,?_⟩;refine aT ⟨_,rfl,v,"wait",_,rfl,hv,_,rfl,?_⟩;obtain⟨b,xs,rfl,ht,x0,us0,rfl,e0,x1,us1,rfl,e1,x2,us2,rfl,e2,e4⟩:=hv;have e4:us2=[]:=e4;subst e4;cases e0;refine bh ?_;refine⟨_,rfl,b,_,1,x1,rfl,rfl,aA.sq ht,aD (j:=1) rfl,x1,J2,dps.take J2.length,rfl,e1,by rw[aF];omega,by omega,fun l2 qs H1 h1 hq S1=>?_⟩;have zq:qs.length<=4:=by rw[Paired.length hq,on,ak];omega
   refine⟨_,rfl,b,_,2,x2,rfl,rfl,aA.sq (aA.kt (ac.kt S1) ht),aD (j:=2) rfl,(by show 2<=ai;decide),fun p2 hp2=>⟨(by show 1<=ai;decide),fun l1 hl1=>?_⟩⟩;have S2:ac H1 (upd H1 p2 (.tup [.ref hu,x2])):=ac.new hp2;have p22:upd H1 p2 (.tup [.ref hu,x2]) p2=some (.tup [.ref hu,x2]):=aa
   change upd H1 p2 (.tup [.ref hu,x2]) l1=none at hl1
   have S3:ac (upd H1 p2 (.tup [.ref hu,x2])) (upd (upd H1 p2 (.tup [.ref hu,x2])) l1 (.lst [.ref p2])):=ac.new hl1;have l13:upd (upd H1 p2 (.tup [.ref hu,x2])) l1 (.lst [.ref p2]) l1=some (.lst [.ref p2]):=aa;have p23:=S3 _ _ p22;have S13:=S2.trans S3;generalize upd (upd H1 p2 (.tup [.ref hu,x2])) l1 (.lst [.ref p2])=H3 at S13 l13 p23 ⊢;refine⟨l2,l1,_,_,rfl,rfl,S13 _ _ h1,l13,by rw[ak];exact cp (ao (by show _+1<=1000;omega)),fun l hl=>?_⟩;have S5:ac H3 (upd H3 l (.lst (qs.map V.ref++[.ref p2]))):=ac.new hl;have S15:=S13.trans S5;refine k l (qs++[p2]) _ (by rw[aa,aG];rfl) ?_ (S1.trans S15);rw[ec];show jn K _ _ ((J2.map g6++[dR]).zip _);rw[List.zip_append (by rw[ak,aF];omega)];exact cf (jn.kt (ac.kt S15) hq) ⟨hu,x2,S5 _ _ p23,Bt hh _,cy.kt (ac.kt (S1.trans S15)) _ _ e2⟩
def nC(w:List Nat):List V:=w.map fun(n:Nat)=>V.int n
def jp(K:Za)(J2:Zb)(J:Hp)(q:Addr)(e:En):Prop:=∃(wr st:Addr) (v:V),J q=some (.tup [.ref wr,.ref st,v])/\J wr=some (.tup (nC e.way))/\dg K J st e.story/\cy K J (e.tr.dt J2) v
theorem jp.same{K:Za}{J2:Zb}{J J':Hp}{q:Addr}{e:En}(S:ac J J')(h:jp K J2 J q e):jp K J2 J' q e:=by
 obtain⟨wr,st,v,h1,h2,⟨gs,h3,h4⟩,h5⟩:=h;exact⟨wr,st,v,S _ _ h1,S _ _ h2,⟨gs,S _ _ h3,Paired.mapP h4 fun _ _ r=>aA.kt (ac.kt S) r⟩,cy.kt (ac.kt S) _ _ h5⟩
theorem x_{K:Za}{H:Hp}{wr t1:Addr}{way:List Nat}{i:Nat}{R:VK}(hw:H wr=some (.tup (nC way)))(ht:H t1=some (.tup [.int (i:Nat)]))(hz:way.length<=999)(k:∀(wt:Addr) (Hx:Hp),Hx wt=some (.tup (nC (way++[i])))->ac H Hx->R (.ref wt) Hx):uw K (.ref wr) (.ref t1) H R:=by
 refine⟨wr,t1,_,_,rfl,rfl,bc.of hw,bc.of ht,(by intro z;cases z),?_,fun z=>?_,fun z p hp=>?_⟩
 ·have:(nC way).length=way.length:=ak _;rw[this];exact cp (ao (by show _+1<=1000;omega))
 ·have:way=[]:=rm.1 z;subst this;exact k t1 H ht (ac.refl _)
 ·refine k p _ ?_ (ac.new hp);rw[aa];unfold nC;rw[aG];rfl
theorem qN{w:List Nat}{s:List Sg}:∀{ps:List Tr}{sgs:List Sg}{i j:Nat}{p:Tr}{sg:Sg},ps[j]?=some p->sgs[j]?=some sg->(lH w s sgs i ps)[j]?=some ⟨w++[i+j],s++[sg],p⟩
 |[],_,_,_,_,_,h,_=>by cases h
 |p0::ps,[],_,_,_,_,_,h=>by cases h
 |p0::ps,sg0::sgs,i,0,p,sg,h1,h2=>by
  injection h1 with h1;injection h2 with h2;rw[<-h1,<-h2];rfl
 |p0::ps,sg0::sgs,i,j+1,p,sg,h1,h2=>by
  have:=qN (w:=w) (s:=s) (i:=i+1) (ps:=ps) (sgs:=sgs) (j:=j) (p:=p) (sg:=sg) h1 h2;rw[show i+(j+1)=i+1+j by omega];exact this
theorem qM{w:List Nat}{s:List Sg}:∀{ps:List Tr}{sgs:List Sg}{i:Nat},(lH w s sgs i ps).length=ps.length
 |[],_,_=>rfl
 |p0::ps,sgs,i=>by
  show(lH w s (sgs.drop 1) (i+1) ps).length+1=ps.length+1;rw[qM]
theorem AE{J2:Zb}{e:En}(h:e.tr.ok J2):(mG J2 e).length=(Dt J2 e.tr).length:=by
 obtain⟨w,s,t⟩:=e;cases t with
 |bl=>rfl
 |en=>rfl
 |nd a ps =>
  have h:ps.length=J2.length+1:=h;show(lH w s (ca J2 a) 0 ps).length=((ca J2 a).zip (Tr.dts J2 ps)).length;rw[qM,on,jB,Tr.dts_map,ak];omega
theorem AG{J2:Zb}{e:En}{i:Nat}{x:Sg×DT}(h:e.tr.ok J2)(hx:(Dt J2 e.tr)[i]?=some x):∃p:Tr,(mG J2 e)[i]?=some ⟨e.way++[i],e.story++[x.1],p⟩/\p.dt J2=x.2:=by
 obtain⟨w,s,t⟩:=e;cases t with
 |bl=>cases hx
 |en=>cases hx
 |nd a ps =>
  have h:ps.length=J2.length+1:=h;have hx:((ca J2 a).zip (Tr.dts J2 ps))[i]?=some x:=hx;rw[List.getElem?_zip_eq_some]at hx;obtain⟨h1,h2⟩:=hx;rw[Tr.dts_map,ej]at h2;obtain⟨p,hp,e2⟩:=Option.map_eq_some_iff.1 h2;refine⟨p,?_,e2⟩;have:=qN (w:=w) (s:=s) (i:=0) hp h1;rw[Nat.zero_add]at this;exact this
def Bg(H:Hp)(c:Addr)(H' J:Hp):Prop:=(∀b o,H' b=some o->H b=none->b≠c->J b=some o)/\gE H' J
inductive jy(K:Za)(vs:List V)(H:Hp)(Q:VK)(E:XK):Prop
 |mk (wr st:Addr) (v:V) (e:En) (J2:Zb):(vs=[.ref wr,.ref st,v])->(H wr=some (.tup (nC e.way)))->(dg K H st e.story)->(cy K H (e.tr.dt J2) v)->(e.tr.ok J2)->(J2.length<=4)->(e.way.length<=900)->(e.story.length<=900) ->
  (∀(l:Addr) (qs:Ze) (H':Hp),H' l=some (.lst (qs.map V.ref))->H l=none->(∀J,Bg H l H' J->Paired (jp K J2 J) qs (mG J2 e))->ac H H'->Q (.ref l) H')->jy K vs H Q E
theorem yL{K:Za}{vs:List V}{H:Hp}{Q:VK}{E:XK}(h:jy K vs H Q E):oU K (jx K) (bx Q) (start pU vs) H:=by
 obtain⟨wr,st,v,e,J2,rfl,hw,⟨gs,hst,hgs⟩,hv,ok,z4,zw,zs,k⟩:=h;refine⟨(by show 0<=ai;decide),fun bl hbl=>?_⟩;have S1:ac H (upd H bl (.lst [])):=ac.new hbl;have b1:upd H bl (.lst []) bl=some (.lst []):=aa;generalize upd H bl (.lst [])=H1 at S1 b1 ⊢;refine⟨_,rfl,v,e.tr,J2,rfl,cy.kt (ac.kt S1) _ _ hv,ok,z4,fun sl sq H2 hsl hsq S2=>⟨sl,rfl,⟨_,ay.of hsl⟩,?_⟩⟩;have S02:=S1.trans S2;have b2:=S2 _ _ b1;have nsl:sl≠bl∨sq=[]:=by
  by_cases c:sl=bl
  ·right
   rw[c,b2]at hsl;injection hsl with hsl;injection hsl with hsl;exact rm.1 hsl.symm
  ·exact .inl c
 have kl:=AE (J2:=J2) (e:=e) ok;have ql:=Paired.length hsq;have q5:(Dt J2 e.tr).length<=5:=by
  generalize e.tr=T at ok;cases T with
  |bl=>exact bN _
  |en=>exact bN _
  |nd a ps=>show((ca J2 a).zip _).length<=5;rw[on,jB];omega
 let zI0:Nat->L2.St->Hp->Prop:=fun i σ H'=>NE5 fun(qs:Ze) (x4 x5 x6 x7:Option V)=>CL (σ=[some (.ref wr),some (.ref st),some v,some (.ref bl),x4,x5,x6,x7]) (H' bl=some (.lst (qs.map V.ref))) (qs.length=i) ((∀b o,H2 b=some o->b≠bl->H' b=some o)) (∀J,Bg H bl H' J->Paired (jp K J2 J) qs ((mG J2 e).take i))
 refine gy (xs:=sq.map V.ref) zI0
  ⟨[],_,_,_,_,rfl,b2,rfl,fun _ _ q _=>q,fun J _=>.nil⟩ (fun i σ H' hi ⟨qs,_,_,_,_,_,hb,zq,ex,_⟩=>?_) ?_ ?_
 ·rcases nsl with n|n
  ·exact ay.of (ex _ _ hsl n)
  ·rw[n]at hi hsl ⊢;by_cases c:sl=bl
   ·have:qs=[]:=by cases qs with|nil=>rfl|cons a r=>exact absurd hi (by rw[<-zq];show ¬_<=0;simp)
    rw[this]at hb;rw[c];exact ay.of hb
   ·exact ay.of (ex _ _ hsl c)
 ·rintro i x σ H3 p hi ⟨qs,x4,x5,x6,x7,rfl,hb,zq,ex,hk⟩ hp;obtain⟨q,hq,rfl⟩:=bT hi;obtain⟨y,hy,s,pv,hqs,hs,hpv⟩:=Paired.getL hsq hq;obtain⟨T,hT,eT⟩:=AG ok hy;have il:i<(Dt J2 e.tr).length:=(bR.1 hy).1;have nb:∀{b xs},H2 b=some (.tup xs)->H3 b=some (.tup xs):=fun{b xs} q=>ex _ _ q fun z=>by rw[z,b2]at q;cases q
  have S4:ac H3 (upd H3 p (.tup [.int (i:Nat),.ref q])):=ac.new hp;have p4:upd H3 p (.tup [.int (i:Nat),.ref q]) p=some (.tup [.int (i:Nat),.ref q]):=aa;generalize upd H3 p (.tup [.int (i:Nat),.ref q])=H4 at S4 p4 ⊢;refine⟨p,_,rfl,bc.of p4,rfl,_,_,rfl,_,_,rfl,rfl,?_⟩;refine⟨_,rfl,q,_,rfl,bc.of (S4 _ _ (nb hqs)),rfl,_,_,rfl,_,_,rfl,rfl,?_⟩;refine⟨_,rfl,.inl ⟨rfl,_,ay.of (S4 _ _ hb)⟩,_,rfl,_,rfl,(by show 1<=ai;decide),fun t1 ht1=>?_⟩;have S5:ac H4 (upd H4 t1 (.tup [.int (i:Nat)])):=ac.new ht1;have t5:upd H4 t1 (.tup [.int (i:Nat)]) t1=some (.tup [.int (i:Nat)]):=aa;generalize upd H4 t1 (.tup [.int (i:Nat)])=H5 at S5 t5 ⊢;have S35:=S4.trans S5;have S0x:∀{b o},H b=some o->H3 b=some o:=fun{b o} q=>ex _ _ (S02 _ _ q) (ag q hbl);refine x_ (S35 _ _ (S0x hw)) t5 (by omega) fun wt H6 hwt S6=>?_;have S36:=S35.trans S6;refine⟨_,rfl,_,rfl,(by show 1<=ai;decide),fun l1 hl1=>?_⟩;have S7:ac H6 (upd H6 l1 (.lst [.ref s])):=ac.new hl1;have l17:upd H6 l1 (.lst [.ref s]) l1=some (.lst [.ref s]):=aa;generalize upd H6 l1 (.lst [.ref s])=H7 at S7 l17 ⊢;have S37:=S36.trans S7;have gl:gs.length=e.story.length:=Paired.length hgs;refine⟨st,l1,_,_,rfl,rfl,S37 _ _ (S0x hst),l17,by rw[ak];exact cp (ao (by show _+1<=1000;omega)),fun l2 hl2=>?_⟩;have S8:ac H7 (upd H7 l2 (.lst (gs.map V.ref++[.ref s]))):=ac.new hl2;have l28:upd H7 l2 (.lst (gs.map V.ref++[.ref s])) l2=some (.lst ((gs++[s]).map V.ref)):=by rw[aa,aG];rfl
  have l2n:H l2=none:=by
   cases c:H l2 with
   |none=>rfl
   |some o=>have:=S37 _ _ (S0x c);rw[hl2]at this;cases this
  generalize upd H7 l2 (.lst (gs.map V.ref++[.ref s]))=H8 at S8 l28 ⊢;have S38:=S37.trans S8;refine⟨_,rfl,(by show 3<=ai;decide),fun q9 hq9=>?_⟩;have S9:ac H8 (upd H8 q9 (.tup [.ref wt,.ref l2,pv])):=ac.new hq9;have q99:upd H8 q9 (.tup [.ref wt,.ref l2,pv]) q9=some (.tup [.ref wt,.ref l2,pv]):=aa;generalize upd H8 q9 (.tup [.ref wt,.ref l2,pv])=H9 at S9 q99 ⊢;have S39:=S38.trans S9;have hb9:=S39 _ _ hb;have nl2:l2≠bl:=fun z=>by have:=S37 _ _ hb;rw[<-z,hl2]at this;cases this
  have kt9:gE H9 (upd H9 bl (.lst (qs.map V.ref++[.ref q9]))):=eE hb9;refine⟨bl,_,_,rfl,rfl,hb9,by rw[ak,zq];exact ao (by omega),qs++[q9],_,_,_,_,rfl,by rw[aa,aG];rfl,by rw[aH,zq];rfl,fun b o q n=>?_,fun J nj=>?_⟩
  ·rw[aj n];exact S39 _ _ (ex _ _ q n)
  ·have kj:gE H9 J:=fun b xs q=>nj.2 _ _ (kt9 _ _ q);have nj3:Bg H bl H3 J:=⟨fun b o q n1 n2=>nj.1 b o (by rw[aj n2];exact S39 _ _ q) n1 n2,fun b xs q=>kj _ _ (ac.kt S39 _ _ q)⟩;rw[take_snoc hT];refine cf (hk J nj3) ?_;have kt2:gE H2 J:=fun b xs q=>kj _ _ (ac.kt S39 _ _ (nb q));refine⟨wt,l2,pv,kj _ _ q99,kj _ _ (S9 _ _ (S8 _ _ (S7 _ _ hwt))),⟨gs++[s],nj.1 l2 _ (by rw[aj nl2];exact S9 _ _ l28) l2n nl2,?_⟩,?_⟩
   ·exact cf (Paired.mapP hgs fun _ _ r=>aA.kt (fun b xs q=>kt2 _ _ (ac.kt S02 _ _ q)) r) (aA.kt kt2 hs)
   ·show cy K J (T.dt J2) pv;rw[eT];exact cy.kt kt2 _ _ hpv
 ·rintro σ H3 ⟨qs,x4,x5,x6,x7,rfl,hb,zq,ex,hk⟩;rw[ak,ql,<-kl,bo]at hk;exact⟨_,rfl,k bl qs H3 hb hbl hk fun b o q=>ex _ _ (S02 _ _ q) (ag q hbl)⟩
def lJ(H:Hp)(f w:Addr):Hp:=fun b=>if b=f∨b=w then none else H b
theorem sX{H:Hp}{f w b:Addr}(h1:b≠f)(h2:b≠w):lJ H f w b=H b:=if_neg (by rintro(z|z)<;>contradiction)
theorem qS{H:Hp}{f w b:Addr}{o:HO}(h:lJ H f w b=some o):b≠f/\b≠w/\H b=some o:=by
 unfold lJ at h;split at h
 ·cases h
 ·next c=>exact⟨fun z=>c (.inl z),fun z=>c (.inr z),h⟩
theorem qT{H:Hp}{f w:Addr}:ac (lJ H f w) H:=fun b o e=>(qS e).2.2
theorem B0{H H':Hp}{f w:Addr}(S:ac H H'):ac (lJ H f w) (lJ H' f w):=fun b o e=>by
 obtain⟨h1,h2,h3⟩:=qS e;rw[sX h1 h2];exact S _ _ h3
theorem y3{H:Hp}{f w:Addr}{o:HO}:lJ (upd H f o) f w=lJ H f w:=funext fun b=>by
 unfold lJ;split
 ·rfl
 ·next c=>exact aj fun z=>c (.inl z)
theorem qR{H:Hp}{f w:Addr}{o:HO}:lJ (upd H w o) f w=lJ H f w:=funext fun b=>by
 unfold lJ;split
 ·rfl
 ·next c=>exact aj fun z=>c (.inr z)
def hidL(H0 G:Hp):Hp:=fun b=>open Classical in if ∃xs,H0 b=some (.lst xs)then none else G b
theorem qQ{H0 G:Hp}{b:Addr}(h:H0 b=none):hidL H0 G b=G b:=if_neg fun⟨xs,e⟩=>by rw[h]at e;cases e
theorem mI{H0 G:Hp}{b:Addr}{o:HO}(h:hidL H0 G b=some o):(∀xs,H0 b≠some (.lst xs))/\G b=some o:=by
 unfold hidL at h;split at h
 ·cases h
 ·next c=>exact⟨fun xs e=>c ⟨xs,e⟩,h⟩
theorem xP{H0 G:Hp}{b:Addr}(h:∀xs,H0 b≠some (.lst xs)):hidL H0 G b=G b:=if_neg fun⟨xs,e⟩=>h xs e
theorem d6{H0 G:Hp}:ac (hidL H0 G) G:=fun b o e=>(mI e).2
theorem jF{H0 G G':Hp}(S:ac G G'):ac (hidL H0 G) (hidL H0 G'):=fun b o e=>by
 obtain⟨h1,h2⟩:=mI e;rw[xP h1];exact S _ _ h2
theorem AM{H0 G:Hp}{b:Addr}{xs:List V}(S:ac H0 G)(h:hidL H0 G b=some (.lst xs)):H0 b=none:=by
 obtain⟨h1,h2⟩:=mI h;cases c:H0 b with
 |none=>rfl
 |some o=>have:=S _ _ c;rw[h2]at this;injection this with this;exact absurd (by rw[c,this]) (h1 xs)
noncomputable abbrev hid3(H0 H:Hp)(f w:Addr):Hp:=hidL H0 (lJ H f w)
theorem sW{H0 H:Hp}{f w b:Addr}(h0:H0 b=none)(h1:b≠f)(h2:b≠w):hid3 H0 H f w b=H b:=(qQ h0).trans (sX h1 h2)
theorem mJ{H0 H:Hp}{f w:Addr}:ac (hid3 H0 H f w) H:=d6.trans qT
theorem xQ{H0 H H':Hp}{f w:Addr}(S:ac H H'):ac (hid3 H0 H f w) (hid3 H0 H' f w):=jF (B0 S)
theorem EnAts.same{K:Za}{J2:Zb}{J J':Hp}{qs:Ze}{L:List En}(S:ac J J')(h:Paired (jp K J2 J) qs L):Paired (jp K J2 J') qs L:=Paired.mapP h fun _ _ r=>r.same S
theorem uQ{J2:Zb}:∀L:List En,L.length<=(L.flatMap (my J2)).length
 |[]=>ax _
 |e::r=>by
  rw[List.flatMap_cons,aH,cW];have:=Ao J2 e;have:=uQ (J2:=J2) r;omega
theorem nk{w:List Nat}{s:List Sg}(h:s.length<=w.length):∀{ps:List Tr}{sgs:List Sg}{i:Nat},∀e∈lH w s sgs i ps,e.story.length<=e.way.length
 |[],_,_,e,he=>by cases he
 |p::ps,sgs,i,e,he=>by
  rcases bS.1 he with rfl|he
  ·show(s++sgs.take 1).length<=(w++[i]).length;rw[aH,aH,aF];have:([i]:List Nat).length=1:=rfl;omega
  ·exact nk h e he
theorem wa{J2:Zb}{e:En}(h:e.story.length<=e.way.length):∀k∈mG J2 e,k.story.length<=k.way.length:=by
 obtain⟨w,s,t⟩:=e;cases t with
 |bl=>intro k hk;cases hk
 |en=>intro k hk;cases hk
 |nd a ps=>exact nk h
inductive gZ(K:Za)(vs:List V)(H:Hp)(Q:VK)(E:XK):Prop
 |mk (v:V) (T:Tr) (J0 J2:Zb):(vs=[v])->(cy K H (T.dt J2) v)->(T.wf J0 J2)->(J2.length<=4)->((gR J2 [] [] T).length<=1000)->(∀e∈gR J2 [] [] T,e.way.length<8) ->
  (∀(l:Addr) (qs:Ze) (H':Hp),H' l=some (.lst (qs.map V.ref))->H l=none->Paired (jp K J2 (hidL H H')) qs (gR J2 [] [] T)->(∀e∈gR J2 [] [] T,e.tr.wf J0 J2)->ac H H'->Q (.ref l) H')->gZ K vs H Q E
theorem ut{K:Za}{vs:List V}{H:Hp}{Q:VK}{E:XK}(h:gZ K vs H Q E):ua K (jy K) (bx Q) (start u_ vs) H:=by
 obtain⟨v,T,J0,J2,rfl,hv,wf,z4,zp,zw,k⟩:=h;refine⟨(by show 0<=ai;decide),fun fl hfl=>?_⟩;have S1:ac H (upd H fl (.lst [])):=ac.new hfl;have f1:upd H fl (.lst []) fl=some (.lst []):=aa;generalize upd H fl (.lst [])=H1 at S1 f1 ⊢;refine⟨(by show 0<=ai;decide),fun wr hwr=>?_⟩;have S2:ac H1 (upd H1 wr (.tup [])):=ac.new hwr;have w2:upd H1 wr (.tup []) wr=some (.tup (nC [])):=aa;generalize upd H1 wr (.tup [])=H2 at S2 w2 ⊢;refine⟨(by show 0<=ai;decide),fun st hst=>?_⟩;have S3:ac H2 (upd H2 st (.lst [])):=ac.new hst;have s3:upd H2 st (.lst []) st=some (.lst (([]:Ze).map V.ref)):=aa;generalize upd H2 st (.lst [])=H3 at S3 s3 ⊢;refine⟨_,rfl,(by show 3<=ai;decide),fun q0 hq0=>⟨(by show 1<=ai;decide),fun wl hwl=>?_⟩⟩;have S4:ac H3 (upd H3 q0 (.tup [.ref wr,.ref st,v])):=ac.new hq0;have q4:upd H3 q0 (.tup [.ref wr,.ref st,v]) q0=some (.tup [.ref wr,.ref st,v]):=aa
 change upd H3 q0 (.tup [.ref wr,.ref st,v]) wl=none at hwl
 have S5:ac (upd H3 q0 (.tup [.ref wr,.ref st,v])) (upd (upd H3 q0 (.tup [.ref wr,.ref st,v])) wl (.lst [.ref q0])):=ac.new hwl;have l5:upd (upd H3 q0 (.tup [.ref wr,.ref st,v])) wl (.lst [.ref q0]) wl=some (.lst (([q0]:Ze).map V.ref)):=aa;have nfs:st≠fl:=(ag (S2 _ _ f1) hst).symm;have nws:st≠wl:=ag (S4 _ _ s3) hwl;have nfw:fl≠wl:=ag (S4 _ _ (S3 _ _ (S2 _ _ f1))) hwl;have wl0:H wl=none:=(S1.trans (S2.trans (S3.trans S4))).free hwl;have f5:=S5 _ _ (S4 _ _ (S3 _ _ (S2 _ _ f1)));have s5:=S5 _ _ (S4 _ _ s3);have w5:=S5 _ _ (S4 _ _ (S3 _ _ w2));have q5:=S5 _ _ q4;have S05:ac H _:=S1.trans (S2.trans (S3.trans (S4.trans S5)));generalize upd (upd H3 q0 (.tup [.ref wr,.ref st,v])) wl (.lst [.ref q0])=H5 at S05 l5 f5 s5 w5 q5 ⊢;have ktJ:∀{G:Hp}{xs ys:List V},ac H G->G fl=some (.lst xs)->G wl=some (.lst ys)->gE G (hid3 H G fl wl):=fun{G xs ys} S e1 e2 b zs q=>by
  show hidL H (lJ G fl wl) b=_;rw[xP (fun ys e=>by have:=S _ _ e;rw[q]at this;cases this),sX (fun z=>by rw[z,e1]at q;cases q) (fun z=>by rw[z,e2]at q;cases q)];exact q
 have kt5:=ktJ S05 f5 l5;have er0:jp K J2 (hid3 H H5 fl wl) q0 ⟨[],[],T⟩:=⟨wr,st,v,kt5 _ _ q5,kt5 _ _ w5,⟨[],by rw[sW ((S1.trans S2).free hst) nfs nws];exact s5,.nil⟩,cy.kt (fun b xs q=>kt5 _ _ (ac.kt S05 _ _ q)) _ _ hv⟩;refine⟨fun m σ G=>∃(fq wq:Ze) (F W:List En) (x3 x4 x5 x6:Option V),σ=[some v,some (.ref fl),some (.ref wl),x3,x4,x5,x6]/\G fl=some (.lst (fq.map V.ref))/\G wl=some (.lst (wq.map V.ref))/\Paired (jp K J2 (hid3 H G fl wl)) fq F/\Paired (jp K J2 (hid3 H G fl wl)) wq W/\F++W.reverse.flatMap (my J2)=gR J2 [] [] T/\m=(W.reverse.flatMap (my J2)).length/\(∀e∈W,e.tr.wf J0 J2/\e.story.length<=e.way.length)/\(∀e∈F,e.tr.wf J0 J2)/\ac H G,
  ⟨_,[],[q0],[],[⟨[],[],T⟩],_,_,_,_,rfl,f5,l5,.nil,.cons er0 .nil,by show _++List.flatMap _ [_]=_;rw[List.nil_append,List.flatMap_singleton];rfl,rfl,fun e he=>?_,fun e he=>(by cases he),S05⟩,?_⟩
 ·rw[cc.1 he];exact⟨wf,ax _⟩
 rintro m σ G ⟨fq,wq,F,W,x3,x4,x5,x6,rfl,gf,gw,hF,hW,eq,em,oW,oF,SG⟩;have lw:=Paired.length hW;have lf:=Paired.length hF;refine⟨_,rfl,.inl ⟨wl,_,rfl,.inl (ay.of gw),_,_,rfl,rfl,_,rfl,?_⟩⟩;rw[ak];rcases List.eq_nil_or_concat W with e0|⟨W',e,e1⟩
 ·rw[e0]at lw;rw[zzr0 (by show ¬(0:Int)<(wq.length:Nat);rw[lw];decide)];refine aT ⟨_,rfl,?_⟩;rw[e0]at eq;have eq:F++[]=_:=eq;rw[dD]at eq;rw[eq]at hF oF;exact k fl fq G gf hfl (EnAts.same (jF qT) hF) oF SG
 rw[List.concat_eq_append]at e1;subst e1;rw[zzr1 (by show(0:Int)<(wq.length:Nat);rw[lw,aH];show(0:Int)<((W'.length+1:Nat));omega)];refine bh ?_;obtain⟨q,hq,ea⟩:=Paired.get (i:=W'.length) (y:=e) hW (by rw[oN (ax _),Nat.sub_self];rfl);have zwq:wq.length=W'.length+1:=by rw[lw,aH];rfl
 have ewq:wq=wq.take W'.length++[q]:=by rw[<-take_snoc hq,<-zwq,bo]
 have hW':Paired (jp K J2 (hid3 H G fl wl)) (wq.take W'.length) W':=by
  have:=Paired.takeP W'.length hW;rw[List.take_left' rfl]at this;exact this
 generalize wq.take W'.length=wq' at ewq hW';subst ewq;obtain⟨oe,se⟩:=oW e (dh _ (cc.2 rfl));obtain⟨wr1,st1,v1,a1,a2,a3,a4⟩:=id ea;have eflat:(W'++[e]).reverse.flatMap (my J2)=e::((mG J2 e)++W'.reverse).flatMap (my J2):=by
  rw[List.reverse_append];show List.flatMap _ (e::W'.reverse)=_;rw[List.flatMap_cons,qH,List.flatMap_append];rfl
 rw[eflat]at eq em;have eme:e∈gR J2 [] [] T:=by rw[<-eq];exact dh _ eR
 have we:=zw e eme;have tot:F.length+1+((mG J2 e).length+W'.length)<=1000:=by
  have h1:(F++e::((mG J2 e)++W'.reverse).flatMap (my J2)).length<=1000:=by rw[eq];exact zp
  have h2:=uQ (J2:=J2) ((mG J2 e)++W'.reverse);rw[aH,rj]at h2;rw[aH,cW]at h1;omega
 refine⟨fun σ' G'=>∃(fq wq:Ze) (F W:List En) (x3 x4 x5 x6:Option V),σ'=[some v,some (.ref fl),some (.ref wl),x3,x4,x5,x6]/\G' fl=some (.lst (fq.map V.ref))/\G' wl=some (.lst (wq.map V.ref))/\Paired (jp K J2 (hid3 H G' fl wl)) fq F/\Paired (jp K J2 (hid3 H G' fl wl)) wq W/\F++W.reverse.flatMap (my J2)=gR J2 [] [] T/\(W.reverse.flatMap (my J2)).length<m/\(∀e∈W,e.tr.wf J0 J2/\e.story.length<=e.way.length)/\(∀e∈F,e.tr.wf J0 J2)/\ac H G',?_,?_⟩
 ·rintro σ' G' ⟨fq,wq,F,W,x3,x4,x5,x6,rfl,b1,b2,b3,b4,b5,b6,b7,b8,b9⟩;exact⟨_,b6,fq,wq,F,W,x3,x4,x5,x6,rfl,b1,b2,b3,b4,b5,rfl,b7,b8,b9⟩
 refine⟨_,rfl,.inl ⟨rfl,_,ay.of gw⟩,wl,_,.ref q,rfl,rfl,gw,?_,?_⟩
 ·rw[aG,aH,oN (by show _<=_+1-1;omega)];show[V.ref q][_+1-1-_]?=_;rw[Nat.add_sub_cancel,Nat.sub_self];rfl
 have edl:((wq'++[q]).map V.ref).dropLast=wq'.map V.ref:=by
  rw[aG];exact List.dropLast_concat
 rw[edl];have nlw:fl≠wl:=nfw;have gw1:upd G wl (.lst (wq'.map V.ref)) wl=some (.lst (wq'.map V.ref)):=aa;have gf1:upd G wl (.lst (wq'.map V.ref)) fl=some (.lst (fq.map V.ref)):=by rw[aj nfw];exact gf
 have J1:hid3 H (upd G wl (.lst (wq'.map V.ref))) fl wl=hid3 H G fl wl:=congrArg (hidL H) qR;have SG1:ac H (upd G wl (.lst (wq'.map V.ref))):=fun b o q=>by rw[aj (ag q wl0)];exact SG _ _ q
 generalize upd G wl (.lst (wq'.map V.ref))=G1 at gw1 gf1 J1 SG1 ⊢;rw[<-J1]at hF hW' ea a1 a2 a3 a4;have b1:=mJ _ _ a1;refine⟨q,_,rfl,bc.of b1,rfl,_,_,rfl,_,_,rfl,_,_,rfl,rfl,?_⟩;refine⟨_,rfl,.inl ⟨rfl,_,ay.of gf1⟩,_,rfl,_,rfl,_,rfl,(by show 3<=ai;decide),fun p hp=>?_⟩;have S2':ac G1 (upd G1 p (.tup [.ref wr1,.ref st1,v1])):=ac.new hp;have p2:upd G1 p (.tup [.ref wr1,.ref st1,v1]) p=some (.tup [.ref wr1,.ref st1,v1]):=aa;have npf:p≠fl:=(ag gf1 hp).symm;have npw:p≠wl:=(ag gw1 hp).symm;generalize upd G1 p (.tup [.ref wr1,.ref st1,v1])=G2 at S2' p2 ⊢;have gf2:=S2' _ _ gf1;have gw2:=S2' _ _ gw1;refine⟨fl,_,_,rfl,rfl,gf2,by rw[ak,lf];exact ao (by omega),?_⟩;have gf3:upd G2 fl (.lst (fq.map V.ref++[.ref p])) fl=some (.lst ((fq++[p]).map V.ref)):=by rw[aa,aG];rfl
 have gw3:upd G2 fl (.lst (fq.map V.ref++[.ref p])) wl=some (.lst (wq'.map V.ref)):=by rw[aj nfw.symm];exact gw2
 have J3:hid3 H (upd G2 fl (.lst (fq.map V.ref++[.ref p]))) fl wl=hid3 H G2 fl wl:=congrArg (hidL H) y3;have SG3:ac H (upd G2 fl (.lst (fq.map V.ref++[.ref p]))):=fun b o q=>by rw[aj (ag q hfl)];exact S2' _ _ (SG1 _ _ q)
 generalize upd G2 fl (.lst (fq.map V.ref++[.ref p]))=G3 at gf3 gw3 J3 SG3 ⊢;have SJ13:ac (hid3 H G1 fl wl) (hid3 H G3 fl wl):=by rw[J3];exact xQ S2'
 have ep:jp K J2 (hid3 H G3 fl wl) p e:=by
  have:=ea.same SJ13;obtain⟨gs1,h1,h2⟩:=a3;exact⟨wr1,st1,v1,by rw[J3,sW (SG1.free hp) npf npw];exact p2,SJ13 _ _ a2,⟨gs1,SJ13 _ _ h1,Paired.mapP h2 fun _ _ r=>aA.kt (ac.kt SJ13) r⟩,cy.kt (ac.kt SJ13) _ _ a4⟩
 have hF3:=EnAts.same SJ13 hF;have hW3:=EnAts.same SJ13 hW';have S3h:ac (hid3 H G1 fl wl) G3:=SJ13.trans mJ;have a3':dg K G3 st1 e.story:=by
  obtain⟨gs1,h1,h2⟩:=a3;exact⟨gs1,S3h _ _ h1,Paired.mapP h2 fun _ _ r=>aA.kt (ac.kt S3h) r⟩
 refine⟨_,rfl,_,rfl,_,rfl,wr1,st1,v1,e,J2,rfl,S3h _ _ a2,a3',cy.kt (ac.kt S3h) _ _ a4,oe.ok,z4,by omega,by omega,fun l qs G4 hl hln hk SS4=>⟨l,_,rfl,ay.of hl,?_⟩⟩;have gf4:=SS4 _ _ gf3;have gw4:=SS4 _ _ gw3;have nlf:l≠fl:=(ag gf3 hln).symm;have nlw:l≠wl:=(ag gw3 hln).symm;have hkids:=hk (hid3 H G4 fl wl) ⟨fun b o q n1 n2=>by rw[sW (SG3.free n1) (fun z=>by rw[z,gf3]at n1;cases n1) (fun z=>by rw[z,gw3]at n1;cases n1)];exact q,ktJ (SG3.trans SS4) gf4 gw4⟩;have SJ34:ac (hid3 H G3 fl wl) (hid3 H G4 fl wl):=xQ SS4;have lq:=Paired.length hkids;have lw':=Paired.length hW'
 let zI0:Nat->L2.St->Hp->Prop:=fun i σ' G'=>∃x6:Option V,σ'=[some v,some (.ref fl),some (.ref wl),some (.ref wr1),some (.ref st1),some v1,x6]/\G' wl=some (.lst ((wq'++qs.reverse.take i).map V.ref))/\(∀b o,G4 b=some o->b≠wl->G' b=some o)/\hid3 H G' fl wl=hid3 H G4 fl wl
 refine B4 (xs:=qs.map V.ref) zI0
  ⟨_,rfl,by rw[oo,dD];exact gw4,fun _ _ q _=>q,rfl⟩ (fun i σ' G' _ zq=>by obtain⟨_,_,_,ex,_⟩:=zq;exact ay.of (ex _ _ hl nlw)) ?_ ?_
 ·rintro i x σ' G' hx hi ⟨x6,rfl,gw',ex',J'⟩;rw[ak]at hx hi;obtain⟨y,hy,rfl⟩:=bT hx;have hrev:qs.reverse[i]?=some y:=by rw[List.getElem?_reverse hi];exact hy
  refine⟨_,rfl,.inl ⟨rfl,_,ay.of gw'⟩,_,rfl,wl,_,_,rfl,rfl,gw',?_,_,rfl,?_,fun b o q n=>?_,?_⟩
  ·rw[ak,aH,aF,rj];exact ao (by omega)
  ·rw[aa,take_snoc hrev,<-cH,aG (l₂:=[y])];rfl
  ·rw[aj n];exact ex' _ _ q n
  ·rw[show hid3 H _ fl wl=_ from congrArg (hidL H) qR];exact J'
 ·rintro σ' G' ⟨x6,rfl,gw',ex',J'⟩;rw[ak,<-rj,bo]at gw';have gf':=ex' _ _ gf4 nfw;have S4':ac (hid3 H G1 fl wl) (hid3 H G' fl wl):=by rw[J'];exact SJ13.trans SJ34
  have wr':=mJ _ _ (S4' _ _ a2);have SG':ac H G':=fun b o q=>ex' _ _ (SS4 _ _ (SG3 _ _ q)) (ag q wl0);refine⟨_,rfl,.inl ⟨wr1,_,rfl,.inr (bc.of wr'),rfl,_,rfl,?_⟩⟩;have ew:(nC e.way).length=e.way.length:=ak _;rw[ew,zzr0 (by intro z;injection z with z;omega)];refine aT ⟨_,rfl,.inl ⟨fl,_,rfl,.inl (ay.of gf'),_,rfl,.inl ⟨wl,_,rfl,.inl (ay.of gw'),_,_,rfl,rfl,_,_,rfl,rfl,_,rfl,?_⟩⟩⟩;rw[ak,ak,aH,aH,rj];rw[zzr0 (by show ¬(1000:Int)<((fq.length+1:Nat):Int)+((wq'.length+qs.length:Nat):Int);omega)];refine aT ?_;have J'':ac (hid3 H G3 fl wl) (hid3 H G' fl wl):=by rw[J'];exact SJ34
  refine⟨fq++[p],wq'++qs.reverse,F++[e],W'++(mG J2 e).reverse,_,_,_,_,rfl,gf',gw',cf (EnAts.same J'' hF3) (ep.same J''),Paired.app (EnAts.same J'' hW3) (Paired.rev (by rw[J'];exact hkids)),?_,?_,fun x hx=>?_,fun x hx=>?_,SG'⟩
  ·rw[List.reverse_append,List.reverse_reverse,cH];exact eq
  ·rw[List.reverse_append,List.reverse_reverse,em];exact wW _
  ·rcases bq.1 hx with hx|hx
   ·exact oW x (dj _ hx)
   ·exact⟨BY oe x (List.mem_reverse.1 hx),wa se x (List.mem_reverse.1 hx)⟩
  ·rcases bq.1 hx with hx|hx
   ·exact oF x hx
   ·rw[cc.1 hx];exact oe
theorem ll{K:Za}{H:Hp}:∀ws:List Str,DIns K H (ws.map dv) (ws.map V.str)
 |[]=>rfl
 |w::ws=>⟨_,_,rfl,rfl,ll ws⟩
theorem iK:∀ws:List Str,DT.depths (ws.map dv)=0
 |[]=>rfl
 |w::ws=>by
  show max 0 (DT.depths (ws.map dv))=0;rw[iK ws];rfl
inductive iH(K:Za)(C:Addr)(vs:List V)(H:Hp)(Q:VK)(E:XK):Prop
 |mk (M:Addr) (v:V) (ps:List DT) (J0 J2 J4:Zb) (ds:List aB):(vs=[.ref M,v])->(ck C H M J0 J2 J4 ds)->(cy K H (.t (cX eC J2 ps)) v)->(J2.length=ps.length)->(∀H',ac H H'->Q (.bl true) H')->iH K C vs H Q E
theorem vR{K:Za}{C:Addr}{vs:List V}{H:Hp}{Q:VK}{E:XK}(h:iH K C vs H Q E):jP K C (nT C) (bx Q) (start jW vs) H:=by
 obtain⟨M,v,ps,J0,J2,J4,ds,rfl,MA,⟨b,xs,rfl,ht,hx⟩,zl,k⟩:=h;have z4:=MA.ok.says4;have hp:=fE.of hx;have hl:=Paired.length hp;rw[rk]at hl;refine⟨_,rfl,b,rfl,⟨_,aA.sq ht⟩,fun l hl0=>?_⟩
 let zI0:Nat->List V->Hp->Prop:=fun i us H'=>us=(J2.take i).map V.str/\ac H H'/\H' l=some (.lst us)
 refine lP (xs:=xs) zI0 ⟨rfl,ac.new hl0,aa⟩ (fun i us H' _ zq=>by obtain⟨_,S,h'⟩:=zq;exact⟨h',aA.sq (aA.kt (ac.kt S) ht)⟩) ?_ ?_
 ·rintro us H1 ⟨rfl,S,h1⟩;have e1:xs.length=J2.length:=by omega
  rw[e1,bo]at h1;obtain⟨dm,fm,o1,o2,lv,lps,g1,a1,a2,_⟩:=sv (MA.same S);refine⟨_,rfl,M,dm,fm,rfl,g1,a2,M,J0,J2,J4,ds,rfl,MA.same S,fun w hw=>?_⟩;have S2:ac H1 (upd H1 w (.lst (J2.map V.str))):=ac.new hw;refine⟨.s (J2.map dv),.s (J2.map dv),⟨l,_,rfl,ay.of (S2 _ _ h1),ll J2⟩,⟨w,_,rfl,ay.of aa,ll J2⟩,?_,?_,?_⟩
  ·show DT.depths _+1<=8;rw[iK];decide
  ·show DT.depths _+1<=8;rw[iK];decide
  ·rw[zzr1 rfl];exact k _ (S.trans S2)
 ·rintro i us H1 x hxi hi ⟨rfl,S,h1⟩;obtain⟨d,hd⟩:∃d,ps[i]?=some d:=⟨_,bC (by omega)⟩;obtain⟨w,hw⟩:∃w,J2[i]?=some w:=⟨_,bC (by omega)⟩;obtain⟨y,hy,hyx⟩:=Paired.getL hp hxi;rw[List.getElem?_zipWith,hw,hd]at hy;injection hy with hy;rw[<-hy]at hyx;obtain⟨c,us',rfl,hc,x1,us1,rfl,hx1,x2,us2,rfl,hx2,e3⟩:=hyx;have e3:us2=[]:=e3;subst e3;have hx1:x1=V.str w:=hx1;subst hx1;refine⟨c,_,rfl,aA.sq (aA.kt (ac.kt S) hc),rfl,_,_,rfl,_,_,rfl,rfl,kY ?_⟩;refine⟨_,rfl,h1,?_,n0 hi ⟨by rw[take_snoc hw,aG];rfl,fun b o e=>?_,aa⟩⟩
  ·rw[ak,aF];exact ao (by omega)
  ·rw[aj (ag e hl0)];exact S _ _ e
inductive nV(K:Za)(C:Addr)(vs:List V)(H:Hp)(Q:VK)(E:XK):Prop
 |mk (M:Addr) (v:V) (T:Tr) (J0 J2 J4:Zb) (ds:List aB):(vs=[.ref M,v])->(ck C H M J0 J2 J4 ds)->(cy K H (T.dt J2) v)->(T.wf J0 J2)->(∀H',ac H H'->Q (.bl true) H')->nV K C vs H Q E
theorem BF{K:Za}{C bl en:Addr}(hb:∀H,bc K H bl (fU.map V.str))(he:∀H,bc K H en (iw.map V.str)){vs:List V}{H:Hp}{Q:VK}{E:XK}(h:nV K C vs H Q E):k4 K bl en (iG K 3 "wait") (iH K C) (iG K 4 "tell") C (nX C) (bx Q) (start lS vs) H:=by
 obtain⟨M,v,T,J0,J2,J4,ds,rfl,MA,hv,wf,k⟩:=h;have z4:=MA.ok.says4;cases T with
 |bl =>
  refine⟨_,rfl,v,"blame",[],rfl,hv,_,rfl,?_⟩;refine aT ⟨_,rfl,v,"blame",[],rfl,hv,_,rfl,?_⟩;refine aT ⟨_,rfl,gU fU,gU iw,cy.dIn _ _ hv,bI (he H),by rw[bO];decide,by rw[bO];decide,_,rfl,?_⟩;rw[jH,zzr0 (by decide)];refine aT ⟨_,rfl,gU fU,gU fU,cy.dIn _ _ hv,bI (hb H),by rw[bO];decide,by rw[bO];decide,?_⟩;rw[zzr1 rfl];exact k H (ac.refl _)
 |en =>
  refine⟨_,rfl,v,"end",[],rfl,hv,_,rfl,?_⟩;refine aT ⟨_,rfl,v,"end",[],rfl,hv,_,rfl,?_⟩;refine aT ⟨_,rfl,gU iw,gU iw,cy.dIn _ _ hv,bI (he H),by rw[bO];decide,by rw[bO];decide,_,rfl,?_⟩;rw[zzr1 rfl];exact bh (k H (ac.refl _))
 |nd a ps =>
  obtain⟨ok,ha,_⟩:=wf;have zd:(Tr.dts J2 ps).length=J2.length+1:=by rw[Tr.dts_map,ak,ok]
  have hv:cy K H (dO J2 a (Tr.dts J2 ps)) v:=hv;generalize Tr.dts J2 ps=dps at zd hv;cases a with
  |some a =>
   obtain⟨d0,ed0⟩:∃d,dps[0]?=some d:=⟨_,bC (by omega)⟩;rw[gW ed0]at hv;refine⟨_,rfl,v,"tell",_,rfl,hv,_,rfl,?_⟩;obtain⟨b,xs,rfl,ht,x0,us0,rfl,e0,x1,us1,rfl,e1,x2,us2,rfl,e2,x3,us3,rfl,e3,e4⟩:=hv;have e4:us3=[]:=e4;subst e4;have e1:x1=V.str a:=e1;subst e1;refine bh ?_;obtain⟨dm,fm,o1,o2,lv,lps,g1,a1,a2,_⟩:=sv MA;refine⟨_,rfl,b,_,1,.str a,rfl,rfl,aA.sq ht,aD (j:=1) rfl,_,rfl,M,dm,fm,rfl,g1,a1,M,J0,J2,J4,ds,rfl,MA,fun w hw=>?_⟩;have S2:ac H (upd H w (.lst (J0.map V.str))):=ac.new hw;refine⟨dv a,J0.map dv,w,_,rfl,rfl,.inl (ay.of aa),ll J0,bN _,by rw[iK];decide,_,rfl,?_⟩;have ma:dv a∈J0.map dv:=lV (ha a rfl);have hc:(if false=true then !decide (dv a∈J0.map dv)else decide (dv a∈J0.map dv))=true:=zzr1 ma
   rw[hc];refine bh ⟨_,rfl,_,rfl,b,_,3,x3,rfl,rfl,aA.sq (aA.kt (ac.kt S2) ht),aD (j:=3) rfl,M,x3,dps.drop 1,J0,J2,J4,ds,rfl,MA.same S2,cy.kt (ac.kt S2) _ _ e3,by rw[cA];omega,fun H' S'=>k H' (S2.trans S')⟩
  |none =>
   obtain⟨d0,ed0⟩:∃d,dps[J2.length]?=some d:=⟨_,bC (by omega)⟩;rw[gX ed0]at hv;refine⟨_,rfl,v,"wait",_,rfl,hv,_,rfl,?_⟩;refine aT ⟨_,rfl,v,"wait",_,rfl,hv,_,rfl,?_⟩;obtain⟨b,xs,rfl,ht,x0,us0,rfl,e0,x1,us1,rfl,e1,x2,us2,rfl,e2,e4⟩:=hv;have e4:us2=[]:=e4;subst e4;exact bh ⟨_,rfl,_,rfl,b,_,1,x1,rfl,rfl,aA.sq ht,aD (j:=1) rfl,M,x1,dps.take J2.length,J0,J2,J4,ds,rfl,MA,e1,by rw[aF];omega,fun H' S'=>k H' S'⟩
inductive iI(K:Za)(C:Addr)(vs:List V)(H:Hp)(Q:VK)(E:XK):Prop
 |mk (M:Addr) (v:V) (T:Tr) (J0 J2 J4:Zb) (ds:List aB):(vs=[.ref M,v])->(ck C H M J0 J2 J4 ds)->(cy K H (T.dt J2) v)->(T.wf J0 J2)->((gR J2 [] [] T).length<=1000)->(∀e∈gR J2 [] [] T,e.way.length<8) ->
  (∀(l:Addr) (qs:Ze) (H':Hp),H' l=some (.lst (qs.map V.ref))->H l=none->Paired (jp K J2 (hidL H H')) qs (gR J2 [] [] T)->ac H H'->Q (.ref l) H')->iI K C vs H Q E
theorem vS{K:Za}{C:Addr}{vs:List V}{H:Hp}{Q:VK}{E:XK}(h:iI K C vs H Q E):jQ K (nV K C) (gZ K) (bx Q) (start jX vs) H:=by
 obtain⟨M,v,T,J0,J2,J4,ds,rfl,MA,hv,wf,zp,zw,k⟩:=h;have z4:=MA.ok.says4;refine⟨_,rfl,v,T,J0,J2,rfl,hv,wf,z4,zp,zw,fun l qs H1 hl hln hq hwf S1=>?_⟩;refine⟨_,rfl,l,rfl,⟨_,ay.of hl⟩,?_⟩
 let zI1:Nat->L2.St->Hp->Prop:=fun i σ H'=>Dl fun(x3 x4 x5:Option V)=>σ=[some (.ref M),some v,some (.ref l),x3,x4,x5]/\ac H1 H'
 refine c7 (xs:=qs.map V.ref) zI1 ⟨_,_,_,rfl,ac.refl _⟩ (fun i σ H' _ zq=>by obtain⟨_,_,_,_,S⟩:=zq;exact ay.of (S _ _ hl)) ?_ ?_
 ·rintro i x σ H2 hi ⟨x3,x4,x5,rfl,S2⟩;obtain⟨q,hq',rfl⟩:=bT hi;obtain⟨e,he,hat⟩:=Paired.getL hq hq';obtain⟨wr,st,v1,a1,a2,a3,a4⟩:=(hat.same d6).same S2;refine⟨q,_,rfl,bc.of a1,rfl,_,_,rfl,_,_,rfl,_,_,rfl,rfl,?_⟩;refine⟨_,rfl,_,rfl,M,v1,e.tr,J0,J2,J4,ds,rfl,MA.same (S1.trans S2),a4,hwf e (cg he),fun H3 S3=>⟨_,rfl,?_⟩⟩;exact aT ⟨_,_,_,rfl,S2.trans S3⟩
 ·rintro σ H2 ⟨x3,x4,x5,rfl,S2⟩;exact⟨_,rfl,k l qs H2 (S2 _ _ hl) hln (EnAts.same (jF S2) hq) (S1.trans S2)⟩
open Builtin.Int (intBits)
open Builtin.Int (intBits)
theorem pE:∀{l:List Tr}{t:Tr},t∈l->t.hgt<=Tr.hgts l
 |x::l,t,h=>by
  show t.hgt<=max x.hgt (Tr.hgts l);rcases bS.1 h with rfl|h
  ·omega
  ·have:=pE h;omega
theorem uT(J2:Zb):∀(h:Nat) (T:Tr),T.hgt<=h->(T.dt J2).depth<=dB h
 |h,.bl,_=>by show(gU fU).depth<=_;rw[bO];exact wz h
 |h,.en,_=>by show(gU iw).depth<=_;rw[bO];exact wz h
 |0,.nd a ps,hh=>absurd hh (by show ¬Tr.hgts ps+1<=0;omega)
 |h+1,.nd a ps,hh=>by
  have hh:Tr.hgts ps+1<=h+1:=hh;show(dO J2 a (Tr.dts J2 ps)).depth<=dB h+3;refine t_ (wz h) fun p hp=>?_;rw[Tr.dts_map]at hp;obtain⟨t,ht,rfl⟩:=bG.1 hp;have:=pE ht;exact uT J2 h t (by omega)
open Builtin.Int (intBits)
def hB:Nat->Nat
 |0=>0
 |d+1=>12+25 * hB d
open Builtin.Int (intBits)
open Builtin.Int (intBits)
theorem pD{H:Hp}{a:Addr}{o:HO}(h:H a=none):fJ (upd H a o) a=H:=funext fun b=>by
 by_cases c:b=a
 ·rw[c,fb,h]
 ·rw[eF c,aj c]
theorem y2{a:Addr}{H:Hp}{o:HO}:fJ (upd H a o) a=fJ H a:=funext fun b=>by
 by_cases c:b=a
 ·rw[c,fb,fb]
 ·rw[eF c,eF c,aj c]
mutual
def Tr.sz:Tr->Nat
 |.bl=>1
 |.en=>1
 |.nd _ ps=>Tr.szs ps+1
def Tr.szs:List Tr->Nat
 |[]=>0
 |t::r=>t.sz+Tr.szs r
end
mutual
theorem sG(J2:Zb):∀(t:Tr) (w:List Nat) (s:List Sg),(gR J2 w s t).length=t.sz
 |.bl,_,_=>rfl
 |.en,_,_=>rfl
 |.nd a ps,w,s=>by
  show(preEs J2 w s (ca J2 a) 0 ps).length+1=Tr.szs ps+1;rw[preEs_sz J2 ps]
theorem preEs_sz(J2:Zb):∀(ps:List Tr) (w:List Nat) (s sgs:List Sg) (i:Nat),(preEs J2 w s sgs i ps).length=Tr.szs ps
 |[],_,_,_,_=>rfl
 |p::ps,w,s,sgs,i=>by
  show(gR J2 _ _ p++preEs J2 _ _ _ _ ps).length=p.sz+Tr.szs ps;rw[aH,sG J2 p,preEs_sz J2 ps]
end
theorem xn{t u:Tr}:∀{l:List Tr}{i:Nat},l[i]?=some t->Tr.szs (l.set i u)+t.sz=Tr.szs l+u.sz
 |[],_,h=>by cases h
 |x::l,0,h=>by
  injection h with h;show u.sz+Tr.szs l+t.sz=x.sz+Tr.szs l+u.sz;rw[h];omega
 |x::l,i+1,h=>by
  have:=xn (u:=u) (l:=l) (i:=i) h;show x.sz+Tr.szs (l.set i u)+t.sz=x.sz+Tr.szs l+u.sz;omega
theorem sY{n:Nat}:∀{l:List Tr},(∀t∈l,t.hgt<=n)->Tr.hgts l<=n
 |[],_=>bN _
 |t::r,h=>by
  have h1:=h t eR;have h2:=sY fun q hq=>h q (fx _ hq);show max t.hgt (Tr.hgts r)<=n;omega

abbrev mM(K:Za)(H:Hp)(gs:Ze)(s:List Sg):Prop:=Paired (fun g (sg:Sg)=>aA K H g (sg.map V.str)) gs s
theorem mM.same{K:Za}{H H':Hp}{gs:Ze}{s:List Sg}(S:ac H H')(h:mM K H gs s):mM K H' gs s:=Paired.mapP h fun _ _ r=>aA.kt (ac.kt S) r

def zY(K:Za)(sp_checked_with_ways:Sp):TS :=
 aX (cw 3 [] (c6 K (aL sp_checked_with_ways (aM V0 V1))) (gS K 3 (a_ U0 (a_ U1 (a_ U2 (gx))))) (ba (aw mw (dE (d9 K) (az V2)) (tC (.int 1)))) (bf (dL V0 V1 (aw (bz K) V2 (tC (.int 0))))))
def Bh:List Str:=["M","trial"]
def ud(K:Za):TS :=
 aq (aS (cw 1 [1] (c6 K (aw (bz K) V0 (tC (.int 3)))) U0 (ba (aw mw (aw (bz K) V0 (tC (.int 0))) V1)) V0) U2)
 (aX (dE (BM K) (ap (cw 1 [] (c6 K V2) U0 (eQ) (aw mw (aw (bz K) (aw (bz K) V0 (tC (.int 1))) (tC (.int 0))) (tC (.str "ask")))) be)))
def vc:List Str:=["told","room","doors"]
def p_(K:Za)(sp_law_in_order:Sp)(sp_law_quiet:Sp):TS :=
 aq (bZ (ba (aw (nM K) V2 (bf (az (tC (.str "hush")))))) (aX (dE (Ai K) (az (cw 1 [0] (uM K V1) U0 (tB (aL sp_law_quiet (aM V1 V0))) V0)))) (bb))
 (aq (aS (bY (be)) U3)
 (aq (fQ (c6 K (aw (bz K) V0 (tC (.int 3)))) (gS K 3 (a_ U4 (a_ U5 (a_ U6 (gx))))) (bZ (qg (ba (aw (sF K false) V4 V1)) (qg (ba (aw (nM K) V5 V2)) (ba (aw (sF K true) V6 V3)))) (cY (vJ K "list" de V3 (az V6))) (bb)))
 (aX (aL sp_law_in_order (aM V0 V3)))))
def qq:List Str:=["told","face","sign","some","room","own","other"]
def m9(K:Za):TS :=
 aq (bZ (qg (ba (aw mw (aw (bz K) V0 (tC (.int 0))) (tC (.str "tell")))) (ba (aw mw (dE (d9 K) (az V0)) (tC (.int 4))))) (aX (aw lu (bY (az (aw (bz K) V0 (tC (.int 2))))) (cw 1 [] (uM K (aw (bz K) V0 (tC (.int 3)))) U0 (eQ) (aw (bz K) V0 (tC (.int 1)))))) (bb))
 (aq (bZ (qg (ba (aw mw (aw (bz K) V0 (tC (.int 0))) (tC (.str "wait")))) (ba (aw mw (dE (d9 K) (az V0)) (tC (.int 3))))) (aX (aw lu (cw 1 [] (uM K (aw (bz K) V0 (tC (.int 1)))) U0 (eQ) (aw (bz K) V0 (tC (.int 1)))) (bY (az (aw (bz K) V0 (tC (.int 2))))))) (bb))
 (aX (bY (be))))
def nv:List Str:=["trial"]
def rT(K:Za):TS :=
 aq (bZ (ba (aw mw (aw (bz K) V0 (tC (.int 0))) (tC (.str "tell")))) (aX (aw lu (bY (ap (bf (aM (tC (.str "ask")) (aw (bz K) V0 (tC (.int 1))))) be)) (cw 1 [] (uM K (aw (bz K) V0 (tC (.int 3)))) U0 (eQ) (bf (aM (tC (.str "say")) (aw (bz K) V0 (tC (.int 0)))))))) (bb))
 (aX (aw lu (cw 1 [] (uM K (aw (bz K) V0 (tC (.int 1)))) U0 (eQ) (bf (aM (tC (.str "say")) (aw (bz K) V0 (tC (.int 0)))))) (bY (az (bf (az (tC (.str "hush"))))))))
def tI:List Str:=["trial"]
def rW(K:Za)(sp_law_signs:Sp)(sp_law_leaves:Sp)(sp_law_inner:Sp):TS :=
 aq (aS (aL sp_law_inner (az V0)) U3)
 (aq (bZ (ba (aw (BK K) V3 (bY (be)))) (aX (bY (ap (bf (dL V1 V2 (aw (bz K) V0 (tC (.int 0))))) be))) (bb))
 (aq (aS (bY (be)) U4)
 (aq (fQ (no K (az (aL sp_law_signs (az V0)))) (gS K 2 (a_ U5 (a_ U6 (gx)))) (aS (aw lu V4 (aL sp_law_leaves (dL (aw (cu K) V3 V5) (aw (uw K) V1 (bf (az V5))) (aw lu V2 (bY (az V6)))))) U4))
 (aX V4))))
def tK:List Str:=["trial","way","story","some","found","k","sign"]
def ue(K:Za):TS :=
 aX (dE (Ai K) (ap (cw 2 [] (AK K (aM V0 V1)) (gS K 2 (a_ U0 (a_ U1 (gx)))) (eQ) (bf (aM V0 V1))) be))
def vd:List Str:=["says","some"]
def uc(K:Za)(sp_law_pairs:Sp)(sp_law_take:Sp)(sp_law_trial:Sp):TS :=
 aq (aS (aw xo (aw (cu K) V3 (tC (.int 0))) (tC (.int 1))) (s_ V3 (tC (.int 0)) lr))
 (aq (aS (aL sp_law_take (aM V0 (tC (.int 6)))) U4)
 (aq (bZ (zG (ba (aw mw V2 (tC (.int 0)))) (zG (ba (aw Ak (aw (cu K) V3 (tC (.int 0))) (tC (.int 0)))) (ba (aw mw V4 (tC (.int 0)))))) (aX (aw (cu K) (bY (aM (bf (az (tC (.str "end")))) (bf (az (tC (.str "blame")))))) (aL sp_law_take (aM V0 (tC (.int 2)))))) (bb))
 (aq (aS (cw 1 [0,1,3,2] (pC (ap (aw dF (dE (d9 K) (az (aw (bz K) V1 (tC (.int 1))))) (tC (.int 1))) be)) U0 (eQ) (aL sp_law_trial (ap V1 (dL V2 (aw xo V4 (tC (.int 1))) V3)))) U5)
 (aq (bZ (ba (aw Ak V4 (tC (.int 4)))) (aq (aS (aw (cu K) (aw (bz K) V1 (tC (.int 0))) (aL sp_law_take (ap V0 (ap (dE (d9 K) (az (aw (bz K) V1 (tC (.int 0))))) be)))) U6)
 (aX (bf (ap (tC (.str "tell")) (ap V6 (ap (aw (cu K) V5 (tC (.int 0))) (ap (aL sp_law_pairs (aM (aw (bz K) V1 (tC (.int 1))) (xk (nL K) V5 (fO (tC (.int 1))) (dI)))) be))))))) (bb))
 (aX (bf (ap (tC (.str "wait")) (ap (aL sp_law_pairs (aM (aw (bz K) V1 (tC (.int 1))) V5)) (az (aw (cu K) V5 (Dr (rU fun i=>.int (-i)) (tC (.int 1)))))))))))))
def vb:List Str:=["pen","told","deep","left","way","some","ask"]
theorem zo{ds:List aB}{r:Str}:((ds.filter fun d=>decide (d.a=r)).map gv).all id=decide (r∉kC ds):=by
 by_cases c:r∈kC ds
 ·rw[zzr0 (fun z=>z c),List.all_eq_false];unfold kC at c;obtain⟨d,hd,e1⟩:=bG.mp c;obtain⟨h1,h2⟩:=ik.mp hd;refine⟨gv d,lV (ik.mpr ⟨h1,zzr1 e1⟩),?_⟩;intro z;have z:gv d=true:=z;rw[z]at h2;cases h2
 ·rw[zzr1 c,oJ];intro b hb;obtain⟨d,hd,rfl⟩:=bG.mp hb;obtain⟨h1,h2⟩:=ik.mp hd;show gv d=true;cases q:gv d with
  |true=>rfl
  |false=>exact absurd (bG.mpr ⟨d,ik.mpr ⟨h1,by rw[q];rfl⟩,of_decide_eq_true h2⟩) c
theorem yJ{K:Za}{vs:List V}{H:Hp}{Q:VK}{E:XK}(h:jz vs H Q E):ud K (bx Q) (start vc vs) H:=by
 obtain⟨t,l1,l2,l3,l4,ts,J0,J2,J4,ds,r,rfl,T,m,k⟩:=h;have z4:=m.few;refine⟨_,rfl,t,_,3,_,rfl,rfl,bc.of T.t,rfl,l4,rfl,⟨_,ay.of T.a4⟩,fun f hf=>?_⟩
 let zI2:Nat->List V->Hp->Prop:=fun i vs H'=>∃us:List Addr,vs=us.map V.ref/\ac H H'/\H' f=some (.lst vs)/\c_ H' us ((ds.take i).filter fun d=>decide (d.a=r))
 refine cP (xs:=ts.map V.ref) zI2 ⟨[],rfl,ac.new hf,aa,.nil⟩ (fun i vs H' _ zq=>by obtain⟨_,_,S,h',_⟩:=zq;exact⟨h',ay.of (S _ _ T.a4)⟩) ?_ ?_;rotate_left
 ·rintro i vs H' x' hx' hi ⟨us,rfl,S,f',hP⟩;obtain⟨u,hu,rfl⟩:=bT hx';obtain⟨dr,hdr,hatd⟩:=Paired.getL T.ds hu;have hat':=hatd.kt (ac.kt S);obtain⟨sb,ht2,hs2⟩:=hatd.kt (ac.kt S);refine gN ?_;refine⟨_,rfl,u,_,0,_,rfl,rfl,bc.of ht2,rfl,_,rfl,rfl,_,rfl,?_⟩;have e1:decide (V.str dr.a=V.str r)=decide (dr.a=r):=decide_eq_decide.2 ⟨fun z=>by injection z,fun z=>by rw[z]⟩;rw[e1];by_cases c1:dr.a=r
  ·rw[zzr1 c1];refine bh ?_;refine⟨_,rfl,f',?_,n0 hi ⟨us++[u],by rw[aG];rfl,?_,aa,?_⟩⟩
   ·rw[ak,Paired.length hP];refine ao (aW (fH _ _) ?_);rw[aF];omega
   ·intro b o q;rw[aj (ag q hf)];exact S _ _ q
   ·rw[lM hdr,if_pos (zzr1 c1)];have hk:gE H' (upd H' f (.lst (us.map V.ref++[.ref u]))):=eE f';exact cf (hP.kt hk) (hat'.kt hk)
  ·rw[zzr0 c1];refine aT (n0 hi ⟨us,rfl,S,f',?_⟩);rw[lM hdr,if_neg (by rw[zzr0 c1];decide),dD];exact hP
 rintro vs H1 ⟨us,rfl,S1,f1,hP⟩;rw[ak,Paired.length T.ds,bo]at hP;refine⟨_,rfl,f,rfl,⟨_,ay.of f1⟩,fun g hg=>?_⟩;have zf:(ds.filter fun d=>decide (d.a=r)).length<=1000:=aW (fH _ _) z4;have gd:∀d∈ds.filter fun d=>decide (d.a=r),yi J0 J2 J4 d:=fun d hd=>m.good d (ik.1 hd).1;rw[<-zo]at k;generalize(ds.filter fun d=>decide (d.a=r))=F at hP zf gd k
 let zI3:Nat->List V->Hp->Prop:=fun i vs H'=>vs=((F.take i).map gv).map V.bl/\ac H1 H'/\H' g=some (.lst vs)
 refine cP (xs:=us.map V.ref) zI3 ⟨rfl,ac.new hg,aa⟩ (fun i vs H' _ zq=>by obtain⟨_,S,h'⟩:=zq;exact⟨h',ay.of (S _ _ f1)⟩) ?_ ?_
 ·rintro vs H2 ⟨rfl,S2,g2⟩;rw[ak,Paired.length hP,bo]at g2;exact⟨g,_,rfl,ay.of g2,k H2 (S1.trans S2)⟩
 ·rintro i vs H' x' hx' hi ⟨rfl,S,g'⟩;obtain⟨u,hu,rfl⟩:=bT hx';obtain⟨dr,hdr,hatd⟩:=Paired.getL hP hu;obtain⟨sb,ht2,hs2⟩:=hatd.kt (ac.kt S);obtain⟨s0,rest,hsg,ea⟩:=yD (gd dr (cg hdr));unfold SignAt at hs2;rw[hsg]at hs2;refine gN (kY ?_);refine⟨_,rfl,u,_,1,_,rfl,rfl,bc.of ht2,rfl,sb,_,0,.str s0,rfl,rfl,bc.of hs2,aD (j:=0) rfl,rfl,g',?_,n0 hi ⟨?_,?_,aa⟩⟩
  ·rw[ak,ak,aF];exact ao (by omega)
  ·have ea:decide (V.str s0=V.str ("ask":Str))=gv dr:=by
    have:=congrArg (!·) ea;simpa using this
   rw[take_snoc hdr,aG,aG,ea];rfl
  ·intro b o q;rw[aj (ag q hg)];exact S _ _ q
theorem yQ{K:Za}{vs:List V}{H:Hp}{Q:VK}{E:XK}(h:mv K vs H Q E):p_ K ur jz (bx Q) (start qq vs) H:=by
 obtain⟨t,ft,s,l1,l2,l3,l4,ts,J0,J2,J4,J8,sg,ds,rfl,T,m,hft,hs,hz,k⟩:=h;have z4:=m.few;refine⟨_,rfl,(by show 1<=ai;decide),fun hh hhh=>⟨gU sg,gU dR,bI (bc.same (ac.new hhh) hs),bI (bc.of aa),by rw[bO];decide,by rw[bO];decide,_,rfl,?_⟩⟩;rw[jH];have Sn:ac H (upd H hh (.tup [.str "hush"])):=ac.new hhh;generalize upd H hh (.tup [.str "hush"])=H1 at Sn ⊢;have T1:=T.same Sn;have ft1:=Sn _ _ hft;have hs1:=bc.same Sn hs;by_cases c:sg=dR
 ·rw[zzr1 c];refine bh ?_;refine⟨_,rfl,ft,rfl,⟨_,bc.of ft1⟩,fun f hf=>?_⟩
  let zI3:Nat->List V->Hp->Prop:=fun i vs H'=>vs=((J8.take i).filter fun r=>decide (r∉kC ds)).map V.str/\ac H1 H'/\H' f=some (.lst vs)
  refine lP (xs:=J8.map V.str) zI3 ⟨rfl,ac.new hf,aa⟩ (fun i vs H' _ zq=>by obtain⟨_,S,h'⟩:=zq;exact⟨h',bc.of (S _ _ ft1)⟩) ?_ ?_
  ·rintro vs H' ⟨rfl,S,f'⟩;rw[ak,bo]at f';refine⟨f,_,rfl,.inl ⟨ay.of f',fun t' ht'=>k t' _ ?_ ((Sn.trans S).trans (ac.new ht'))⟩⟩;rw[aa];unfold behF;rw[if_pos c]
  ·rintro i vs H' x' hx' hi ⟨rfl,S,f'⟩;obtain⟨r,hr,rfl⟩:=cC hx';refine gN ?_;refine⟨_,rfl,_,rfl,t,l1,l2,l3,l4,ts,J0,J2,J4,ds,r,rfl,T1.same S,m,fun H2 S2=>⟨_,rfl,?_⟩⟩;have hlen:(((J8.take i).filter fun r=>decide (r∉kC ds)).map V.str).length<ai:=by
    rw[ak];refine ao (aW (fH _ _) ?_);rw[aF];omega
   refine nN (fun hq=>?_) (fun hq=>?_)
   ·refine⟨_,rfl,S2 _ _ f',hlen,n0 hi ⟨?_,?_,aa⟩⟩
    ·rw[d7 hr,if_pos hq,aG];rfl
    ·intro b o q;rw[aj (ag q hf)];exact S2 _ _ (S _ _ q)
   ·refine n0 hi ⟨?_,S.trans S2,S2 _ _ f'⟩;rw[d7 hr,if_neg hq,dD]
 rw[zzr0 c];refine aT ?_;refine⟨(by show 0<=ai;decide),fun f hf=>?_⟩;have S2:ac H1 (upd H1 f (.lst [])):=ac.new hf;have f2:upd H1 f (.lst []) f=some (.lst []):=aa;generalize upd H1 f (.lst [])=H2 at S2 f2 ⊢;have T2:=T1.same S2;have n4:l4≠f:=ag T1.a4 hf;refine⟨_,rfl,t,_,3,.ref l4,rfl,rfl,bc.of T2.t,rfl,l4,rfl,⟨_,ay.of T2.a4⟩,?_⟩
 let zI4:Nat->L2.St->Hp->Prop:=fun i σ H'=>NE4 fun(G:Zb) (x4 x5 x6:Option V)=>CL (σ=[some (.ref t),some (.ref ft),some (.ref s),some (.ref f),x4,x5,x6]) (H' f=some (.lst (G.map V.str))) (∀b o,H1 b=some o->H' b=some o) (G.length<=i) (∀g,g∈G↔∃d∈ds.take i,d.a∈J8/\d.sg=sg/\d.b=g)
 refine c7 (xs:=ts.map V.ref) zI4 ⟨[],_,_,_,rfl,f2,fun b o e=>S2 _ _ e,ax _,fun g=>⟨fun h=>(by cases h),fun⟨_,h,_⟩=>(by simp at h)⟩⟩ (fun i σ H' _ zq=>by obtain⟨_,_,_,_,_,_,S,_,_⟩:=zq;exact ay.of (S _ _ T1.a4)) ?_ ?_
 ·rintro i x' σ H' hx' ⟨G,x4,x5,x6,rfl,f',S,hl,hG⟩;have S:ac H1 H':=S;obtain⟨u,hu,rfl⟩:=bT hx';obtain⟨dr,hdr,hatd⟩:=Paired.getL T1.ds hu;obtain⟨sb,ht2,hs2⟩:=hatd.kt (ac.kt S);have hi':i<ds.length:=(bR.mp hdr).1;have hstep:∀g,(∃d∈ds.take (i+1),d.a∈J8/\d.sg=sg/\d.b=g)↔((∃d∈ds.take i,d.a∈J8/\d.sg=sg/\d.b=g)∨(dr.a∈J8/\dr.sg=sg/\dr.b=g)):=by
   intro g;rw[take_snoc hdr];constructor
   ·rintro⟨d,hd,h⟩;rcases bq.mp hd with hd|hd
    ·exact .inl ⟨d,hd,h⟩
    ·have:d=dr:=by simpa using hd
     subst this;exact .inr h
   ·rintro(⟨d,hd,h⟩|h)
    ·exact⟨d,dj _ hd,h⟩
    ·exact⟨dr,dh _ (by simp),h⟩
  refine⟨u,_,rfl,bc.of ht2,rfl,_,_,rfl,_,_,rfl,_,_,rfl,rfl,?_⟩;have keep:¬(dr.a∈J8/\dr.sg=sg/\dr.b∉G)->zI4 (i+1) [some (.ref t),some (.ref ft),some (.ref s),some (.ref f),some (.str dr.a),some (.ref sb),some (.str dr.b)] H':=fun z=>by
   refine⟨G,_,_,_,rfl,f',S,by omega,fun g=>?_⟩;rw[hstep,hG];refine⟨.inl,fun h=>h.elim id fun h=>?_⟩;rw[<-hG];by_cases q:g∈G
   ·exact q
   ·exact absurd ⟨h.1,h.2.1,by rw[h.2.2];exact q⟩ z
  refine⟨_,rfl,_,rfl,dv dr.a,J8.map dv,ft,_,nu _,rfl,.inr (bc.of (S _ _ ft1)),kG _,(by show 0<=8;decide),by rw[gA];decide,_,rfl,?_⟩;rw[if_neg f_,tf];by_cases c1:dr.a∈J8;rotate_left
  ·rw[zzr0 c1];exact aT (aT (keep fun z=>c1 z.1))
  rw[zzr1 c1];refine bh ?_;refine⟨_,rfl,_,rfl,gU dr.sg,gU sg,bI (bc.of hs2),bI (bc.same S hs1),by rw[bO];decide,by rw[bO];decide,_,rfl,?_⟩;rw[jH];by_cases c2:dr.sg=sg;rotate_left
  ·rw[zzr0 c2];exact aT (aT (keep fun z=>c2 z.2.1))
  rw[zzr1 c2];refine bh ?_;refine⟨_,rfl,_,rfl,dv dr.b,G.map dv,f,_,nu _,rfl,.inl (ay.of f'),kG _,(by show 0<=8;decide),by rw[gA];decide,_,rfl,?_⟩;rw[if_pos rfl,tf];by_cases c3:dr.b∈G
  ·rw[zzr1 c3];exact aT (keep fun z=>z.2.2 c3)
  rw[zzr0 c3];refine bh ?_;refine⟨_,rfl,.inl ⟨rfl,_,ay.of f'⟩,_,rfl,f,_,_,rfl,rfl,f',by rw[ak];exact ao (by omega),G++[dr.b],_,_,_,rfl,by rw[aa,aG];rfl,fun b o e=>?_,by rw[aH];show G.length+1<=i+1;omega,fun g=>?_⟩
  ·rw[aj (ag e hf)];exact S _ _ e
  ·rw[hstep,<-hG,bq];simp only[cc];exact⟨fun h=>h.imp id fun h=>⟨c1,c2,h.symm⟩,fun h=>h.imp id fun h=>h.2.2.symm⟩
 ·rintro σ H' ⟨G,x4,x5,x6,rfl,f',S,hl,hG⟩;have S:ac H1 H':=S;rw[ak,Paired.length T.ds]at hl;rw[ak,Paired.length T.ds,bo]at hG;refine⟨_,rfl,_,rfl,t,f,l1,l2,l3,l4,ts,J0,J2,J4,G,ds,rfl,T1.same S,m,f',by omega,fun t' H' h1 S'=>k t' H' ?_ ((Sn.trans S).trans S')⟩;rw[h1];unfold behF;rw[if_neg c]
  suffices e0:closF J4 ds G=closF J4 ds (lK ds sg J8) by rw[e0]
  refine u2 fun g=>?_;rw[hG,sL];constructor
  ·rintro⟨⟨a,sgd,b⟩,hd,h1,h2,h3⟩;simp only at h1 h2 h3;subst h2 h3;exact⟨a,h1,hd⟩
  ·rintro⟨r,hr,h⟩;exact⟨_,h,hr,rfl,rfl⟩
theorem uZ{K:Za}{fi:List Nat}{te:TE}{σ:L2.St}{H:Hp}{b l:Addr}{xs:List V}{ws:Zb}{ps:List DT}{Q:Hp->Prop}(ht:aA K H b xs)(hp:fE K H xs (cX eC ws ps))(zl:ws.length=ps.length)(z:ws.length<=1000)(hl:H l=none)
  (W:Nat->List V->Hp->Prop) (w0:∀H',ac H H'->W 0 [] H') (wl:∀i us H',W i us H'->us.length<=i)
  (step:∀i w d c v us H1 (R:VK),ws[i]?=some w->ps[i]?=some d->aA K H1 c [.str w,v]->cy K H1 d v->W i us H1->(∀y H2,ac H1 H2->(∀H3,gE H2 H3->W (i+1) (us++[y]) H3)->R y H2)->te ((cF 1 fi σ).set 0 (some (.ref c))) H1 R)
  (k:∀(us:List V) (H':Hp),H' l=some (.lst us)->W ws.length us H'->ac H H'->Q H'):cG 1 fi σ (Bn K b) U0 eQ te H l Q:=by
 have hz:=Paired.length hp;rw[rk]at hz
 let zI0:Nat->List V->Hp->Prop:=fun i us H'=>ac H H'/\H' l=some (.lst us)/\W i us H'
 refine lP (xs:=xs) zI0 ⟨ac.new hl,aa,w0 _ (ac.new hl)⟩ (fun i us H' _ zq=>by obtain⟨S,h',_⟩:=zq;exact⟨h',aA.sq (aA.kt (ac.kt S) ht)⟩) ?_ ?_
 ·rintro us H' ⟨S,h',hq⟩;have e1:xs.length=ws.length:=by omega
  rw[e1]at hq;exact k us H' h' hq S
 ·rintro i us H1 x hxi hi ⟨S,h1,hq⟩;obtain⟨d,hd⟩:∃d,ps[i]?=some d:=⟨_,bC (by omega)⟩;obtain⟨w,hw⟩:∃w,ws[i]?=some w:=⟨_,bC (by omega)⟩;obtain⟨y,hy,hyx⟩:=Paired.getL hp hxi;rw[List.getElem?_zipWith,hw,hd]at hy;injection hy with hy;rw[<-hy]at hyx;obtain⟨c,us',rfl,hc,x1,us1,rfl,hx1,x2,us2,rfl,hx2,e3⟩:=hyx;have e3:us2=[]:=e3;have hx1:x1=.str w:=hx1;subst e3 hx1;refine gN (kY (step i w d c x2 us H1 _ hw hd (aA.kt (ac.kt S) hc) (cy.kt (ac.kt S) _ _ hx2) hq fun y H2 S2 kk=>?_));have kt:gE H2 (upd H2 l (.lst (us++[y]))):=eE (S2 _ _ h1);refine⟨S2 _ _ h1,?_,n0 hi ⟨fun b o e=>?_,aa,kk _ kt⟩⟩
  ·have:=wl i us H1 hq;exact ao (by omega)
  ·rw[aj (ag e hl)];exact S2 _ _ (S _ _ e)
theorem uY{K:Za}{σ:L2.St}{H:Hp}{b l:Addr}{xs:List V}{ws:Zb}{ps:List DT}{Q:Hp->Prop}(ht:aA K H b xs)(hp:fE K H xs (cX eC ws ps))(zl:ws.length=ps.length)(z:ws.length<=1000)(hl:H l=none)
  (k:∀(us:List V) (H':Hp),H' l=some (.lst us)->fE K H' us ps->ac H H'->Q H'):cG 1 [] σ (Bn K b) U0 eQ (aw (bz K) V0 (tC (.int 1))) H l Q:=by
 refine uZ ht hp zl z hl (fun i us H'=>fE K H' us (ps.take i)) (fun _ _=>.nil) (fun i us H' h=>by rw[Paired.length h,aF];omega) (fun i w d c v us H1 R hw hd hc hv hW kk=>?_) fun us H' h1 h2 S=>?_
 ·exact⟨_,rfl,c,_,1,v,rfl,rfl,aA.sq hc,aD (j:=1) rfl,kk v H1 (ac.refl _) fun H3 kt=>by rw[take_snoc hd];exact cf (fE.kt kt hW) (cy.kt kt _ _ hv)⟩
 ·rw[zl,bo]at h2;exact k us H' h1 h2 S
theorem qY{K:Za}{σ:L2.St}{H:Hp}{b l:Addr}{xs:List V}{ws:Zb}{ps:List DT}{Q:Hp->Prop}(ht:aA K H b xs)(hp:fE K H xs (cX eC ws ps))(zl:ws.length=ps.length)(z:ws.length<=1000)(hl:H l=none)
  (k:∀(ss:Ze) (H':Hp),H' l=some (.lst (ss.map V.ref))->mM K H' ss (ws.map g6)->ac H H'->Q H'):cG 1 [] σ (Bn K b) U0 eQ (bf (aM (tC (.str "say")) (aw (bz K) V0 (tC (.int 0))))) H l Q:=by
 refine uZ ht hp zl z hl (fun i us H'=>∃ss:List Addr,us=ss.map V.ref/\mM K H' ss ((ws.take i).map g6)) (fun _ _=>⟨[],rfl,.nil⟩) (fun i us H' ⟨ss,h,r⟩=>by rw[h,ak,Paired.length r,ak,aF];omega) (fun i w d c v us H1 R hw hd hc hv ⟨ss,hW,hr⟩ kk=>?_) fun us H' h1 ⟨ss,h2,hr⟩ S=>?_
 ·refine⟨_,rfl,c,_,0,.str w,rfl,rfl,aA.sq hc,aD (j:=0) rfl,(by show 2<=ai;decide),fun u hu=>kk _ _ (ac.new hu) fun H3 kt=>⟨ss++[u],by rw[aG,hW];rfl,?_⟩⟩;rw[take_snoc hw,aG];exact cf (Paired.mapP hr fun _ _ r=>aA.kt kt (aA.kt (ac.kt (ac.new hu)) r)) (.inl (kt _ _ aa))
 ·rw[bo]at hr;exact k ss H' (by rw[<-h2];exact h1) hr S
def xL:Tr->List Tr
 |.nd _ ps=>ps
 |_=>[]
inductive le(K:Za)(vs:List V)(H:Hp)(Q:VK)(E:XK):Prop
 |mk (v:V) (T:Tr) (J2:Zb):(vs=[v])->(cy K H (T.dt J2) v)->(T.ok J2)->(J2.length<=4)->(∀(l:Addr) (us:List V) (H':Hp),H' l=some (.lst us)->fE K H' us (Tr.dts J2 (xL T))->ac H H'->Q (.ref l) H')->le K vs H Q E
theorem iq{K:Za}{H:Hp}{w:Str}{v:V}(h:cy K H (gU [w]) v):∃b,v=.ref b/\aA K H b [.str w]:=by
 obtain⟨b,xs,rfl,ht,x0,us0,rfl,e0,e4⟩:=h;have e4:us0=[]:=e4;have e0:x0=V.str w:=e0;subst e4 e0;exact⟨b,rfl,ht⟩
theorem oS{K:Za}{H:Hp}{J2:Zb}{a:Str}{dp:List DT}{v:V}(zd:dp.length=J2.length+1)(h:cy K H (dO J2 (some a) dp) v):∃b x2 b3 xs3 d0,v=.ref b/\aA K H b [.str "tell",.str a,x2,.ref b3]/\aA K H b3 xs3/\cy K H d0 x2/\fE K H xs3 (cX eC J2 (dp.drop 1))/\dp=d0::dp.drop 1:=by
 obtain⟨d0,ed0⟩:∃d,dp[0]?=some d:=⟨_,bC (by omega)⟩;rw[gW ed0]at h;obtain⟨b,xs,rfl,ht,x0,us0,rfl,e0,x1,us1,rfl,e1,x2,us2,rfl,e2,x3,us3,rfl,e3,e4⟩:=h;have e4:us3=[]:=e4;have e0:x0=V.str "tell":=e0;have e1:x1=V.str a:=e1;subst e4 e0 e1;obtain⟨b3,xs3,rfl,ht3,hx3⟩:=e3;refine⟨b,x2,b3,xs3,d0,rfl,ht,ht3,e2,fE.of hx3,?_⟩;cases dp with
 |nil=>cases ed0
 |cons x r=>injection ed0 with ed0;rw[ed0];rfl
theorem oQ{K:Za}{H:Hp}{J2:Zb}{dp:List DT}{v:V}(zd:dp.length=J2.length+1)(h:cy K H (dO J2 none dp) v):∃b b1 xs1 x2 d0,v=.ref b/\aA K H b [.str "wait",.ref b1,x2]/\aA K H b1 xs1/\cy K H d0 x2/\fE K H xs1 (cX eC J2 (dp.take J2.length))/\dp=dp.take J2.length++[d0]:=by
 obtain⟨d0,ed0⟩:∃d,dp[J2.length]?=some d:=⟨_,bC (by omega)⟩;rw[gX ed0]at h;obtain⟨b,xs,rfl,ht,x0,us0,rfl,e0,x1,us1,rfl,e1,x2,us2,rfl,e2,e4⟩:=h;have e4:us2=[]:=e4;have e0:x0=V.str "wait":=e0;subst e4 e0;obtain⟨b1,xs1,rfl,ht1,hx1⟩:=e1;exact⟨b,b1,xs1,x2,d0,rfl,ht,ht1,e2,fE.of hx1,by rw[<-take_snoc ed0,<-zd,bo]⟩
theorem Ag{K:Za}{vs:List V}{H:Hp}{Q:VK}{E:XK}(h:le K vs H Q E):m9 K (bx Q) (start nv vs) H:=by
 obtain⟨v,T,J2,rfl,hv,ok,z4,k⟩:=h;have none0:∀(w:Str) (b:Addr),w≠("tell":Str)->w≠("wait":Str)->aA K H b [.str w]->xL T=[]->m9 K (bx Q) (start nv [.ref b]) H:=fun w b n1 n2 ht e=>by
  refine⟨_,rfl,b,_,0,_,rfl,rfl,aA.sq ht,aD (j:=0) rfl,rfl,_,rfl,?_⟩;rw[zzr0 (fun z=>n1 (by injection z))];refine aT (aT ?_);refine⟨_,rfl,b,_,0,_,rfl,rfl,aA.sq ht,aD (j:=0) rfl,rfl,_,rfl,?_⟩;rw[zzr0 (fun z=>n2 (by injection z))];refine aT (aT ?_);refine⟨(by show 0<=ai;decide),fun l hl=>?_⟩;exact k l [] _ aa (by rw[e];exact .nil) (ac.new hl)
 cases T with
 |bl =>
  obtain⟨b,rfl,ht⟩:=iq hv;exact none0 _ b (by decide) (by decide) ht rfl
 |en =>
  obtain⟨b,rfl,ht⟩:=iq hv;exact none0 _ b (by decide) (by decide) ht rfl
 |nd a ps =>
  have ok:ps.length=J2.length+1:=ok;have zd:(Tr.dts J2 ps).length=J2.length+1:=by rw[Tr.dts_map,ak,ok]
  have hv:cy K H (dO J2 a (Tr.dts J2 ps)) v:=hv;have k2:∀(l:Addr) (us:List V) (H':Hp),H' l=some (.lst us)->fE K H' us (Tr.dts J2 ps)->ac H H'->Q (.ref l) H':=k;generalize Tr.dts J2 ps=dp at zd hv k2;cases a with
  |some a =>
   obtain⟨b,x2,b3,xs3,d0,rfl,ht,ht3,h2,h3,ec⟩:=oS zd hv;refine⟨_,rfl,b,_,0,_,rfl,rfl,aA.sq ht,aD (j:=0) rfl,rfl,_,rfl,?_⟩;rw[zzr1 rfl];refine bh ⟨_,rfl,.inl ⟨b,_,rfl,.inr (aA.sq ht),rfl,_,rfl,?_⟩⟩;refine bh ?_;refine⟨_,rfl,b,_,2,x2,rfl,rfl,aA.sq ht,aD (j:=2) rfl,(by show 1<=ai;decide),fun l1 hl1=>?_⟩;have S1:ac H (upd H l1 (.lst [x2])):=ac.new hl1;have l11:upd H l1 (.lst [x2]) l1=some (.lst [x2]):=aa;generalize upd H l1 (.lst [x2])=H1 at S1 l11 ⊢;refine⟨_,rfl,b,_,3,.ref b3,rfl,rfl,aA.sq (aA.kt (ac.kt S1) ht),aD (j:=3) rfl,b3,rfl,⟨_,aA.sq (aA.kt (ac.kt S1) ht3)⟩,fun cl hcl=>?_⟩;refine uY (ws:=J2) (ps:=dp.drop 1) (aA.kt (ac.kt S1) ht3) (fE.kt (ac.kt S1) h3) (by rw[cA];omega) (by omega) hcl fun us H2 c2 hU S2=>?_;have zu:us.length<=4:=by rw[Paired.length hU,cA];omega
   refine⟨l1,cl,_,_,rfl,rfl,S2 _ _ l11,c2,cp (ao (by show 1+_<=1000;omega)),fun r hr=>?_⟩;have S3:ac H2 (upd H2 r (.lst ([x2]++us))):=ac.new hr;have S13:=S1.trans (S2.trans S3);refine k2 r (x2::us) _ aa ?_ S13;rw[ec];exact .cons (cy.kt (ac.kt S13) _ _ h2) (fE.kt (ac.kt S3) hU)
  |none =>
   obtain⟨b,b1,xs1,x2,d0,rfl,ht,ht1,h2,h3,ec⟩:=oQ zd hv;refine⟨_,rfl,b,_,0,_,rfl,rfl,aA.sq ht,aD (j:=0) rfl,rfl,_,rfl,?_⟩;rw[zzr0 (by intro z;injection z with z;exact absurd z (by decide))];refine aT (aT ?_);refine⟨_,rfl,b,_,0,_,rfl,rfl,aA.sq ht,aD (j:=0) rfl,rfl,_,rfl,?_⟩;rw[zzr1 rfl];refine bh ⟨_,rfl,.inl ⟨b,_,rfl,.inr (aA.sq ht),rfl,_,rfl,?_⟩⟩;refine bh ?_;refine⟨_,rfl,b,_,1,.ref b1,rfl,rfl,aA.sq ht,aD (j:=1) rfl,b1,rfl,⟨_,aA.sq ht1⟩,fun cl hcl=>?_⟩;refine uY (ws:=J2) (ps:=dp.take J2.length) ht1 h3 (by rw[aF];omega) (by omega) hcl fun us H2 c2 hU S2=>?_;have zu:us.length<=4:=by rw[Paired.length hU,aF];omega
   refine⟨_,rfl,b,_,2,x2,rfl,rfl,aA.sq (aA.kt (ac.kt S2) ht),aD (j:=2) rfl,(by show 1<=ai;decide),fun l1 hl1=>?_⟩;have S3:ac H2 (upd H2 l1 (.lst [x2])):=ac.new hl1;have l13:upd H2 l1 (.lst [x2]) l1=some (.lst [x2]):=aa;generalize upd H2 l1 (.lst [x2])=H3 at S3 l13 ⊢;refine⟨cl,l1,_,_,rfl,rfl,S3 _ _ c2,l13,cp (ao (by show _+1<=1000;omega)),fun r hr=>?_⟩;have S4:ac H3 (upd H3 r (.lst (us++[x2]))):=ac.new hr;have S24:=S3.trans S4;refine k2 r (us++[x2]) _ aa ?_ (S2.trans S24);rw[ec];exact cf (fE.kt (ac.kt S24) hU) (cy.kt (ac.kt (S2.trans S24)) _ _ h2)
inductive jw(K:Za)(vs:List V)(H:Hp)(Q:VK)(E:XK):Prop
 |mk (v:V) (a:Option Str) (ps:List Tr) (J2:Zb):(vs=[v])->(cy K H ((Tr.nd a ps).dt J2) v)->(ps.length=J2.length+1)->(J2.length<=4)->(∀(l:Addr) (ss:Ze) (H':Hp),H' l=some (.lst (ss.map V.ref))->mM K H' ss (ca J2 a)->ac H H'->Q (.ref l) H')->jw K vs H Q E
theorem yG{K:Za}{vs:List V}{H:Hp}{Q:VK}{E:XK}(h:jw K vs H Q E):rT K (bx Q) (start tI vs) H:=by
 obtain⟨v,a,ps,J2,rfl,hv,ok,z4,k⟩:=h;have zd:(Tr.dts J2 ps).length=J2.length+1:=by rw[Tr.dts_map,ak,ok]
 have hv:cy K H (dO J2 a (Tr.dts J2 ps)) v:=hv;generalize Tr.dts J2 ps=dp at zd hv;cases a with
 |some a =>
  obtain⟨b,x2,b3,xs3,d0,rfl,ht,ht3,h2,h3,ec⟩:=oS zd hv;refine⟨_,rfl,b,_,0,_,rfl,rfl,aA.sq ht,aD (j:=0) rfl,rfl,_,rfl,?_⟩;rw[zzr1 rfl];refine bh ?_;refine⟨_,rfl,b,_,1,.str a,rfl,rfl,aA.sq ht,aD (j:=1) rfl,(by show 2<=ai;decide),fun u hu=>⟨(by show 1<=ai;decide),fun l1 hl1=>?_⟩⟩;have S1:ac H (upd (upd H u (.tup [.str "ask",.str a])) l1 (.lst [.ref u])):=(ac.new hu).trans (ac.new hl1);have u1:upd (upd H u (.tup [.str "ask",.str a])) l1 (.lst [.ref u]) u=some (.tup ((gC a).map V.str)):=kp aa hl1;have l11:upd (upd H u (.tup [.str "ask",.str a])) l1 (.lst [.ref u]) l1=some (.lst [.ref u]):=aa;generalize upd (upd H u (.tup [.str "ask",.str a])) l1 (.lst [.ref u])=H1 at S1 u1 l11 ⊢;refine⟨_,rfl,b,_,3,.ref b3,rfl,rfl,aA.sq (aA.kt (ac.kt S1) ht),aD (j:=3) rfl,b3,rfl,⟨_,aA.sq (aA.kt (ac.kt S1) ht3)⟩,fun cl hcl=>?_⟩;refine qY (ws:=J2) (ps:=dp.drop 1) (aA.kt (ac.kt S1) ht3) (fE.kt (ac.kt S1) h3) (by rw[cA];omega) (by omega) hcl fun ss H2 c2 hU S2=>?_;have zu:ss.length<=4:=by rw[Paired.length hU,ak];omega
  refine⟨l1,cl,_,_,rfl,rfl,S2 _ _ l11,c2,by rw[ak];exact cp (ao (by show 1+_<=1000;omega)),fun r hr=>?_⟩;have S3:ac H2 (upd H2 r (.lst ([.ref u]++ss.map V.ref))):=ac.new hr;exact k r (u::ss) _ aa (.cons (.inl ((S2.trans S3) _ _ u1)) (Paired.mapP hU fun _ _ r=>aA.kt (ac.kt S3) r)) (S1.trans (S2.trans S3))
 |none =>
  obtain⟨b,b1,xs1,x2,d0,rfl,ht,ht1,h2,h3,ec⟩:=oQ zd hv;refine⟨_,rfl,b,_,0,_,rfl,rfl,aA.sq ht,aD (j:=0) rfl,rfl,_,rfl,?_⟩;rw[zzr0 (by intro z;injection z with z;exact absurd z (by decide))];refine aT ?_;refine⟨_,rfl,b,_,1,.ref b1,rfl,rfl,aA.sq ht,aD (j:=1) rfl,b1,rfl,⟨_,aA.sq ht1⟩,fun cl hcl=>?_⟩;refine qY (ws:=J2) (ps:=dp.take J2.length) ht1 h3 (by rw[aF];omega) (by omega) hcl fun ss H2 c2 hU S2=>?_;have zu:ss.length<=4:=by rw[Paired.length hU,ak];omega
  refine⟨(by show 1<=ai;decide),fun u hu=>⟨(by show 1<=ai;decide),fun l1 hl1=>?_⟩⟩;have S3:ac H2 (upd (upd H2 u (.tup [.str "hush"])) l1 (.lst [.ref u])):=(ac.new hu).trans (ac.new hl1);have u3:upd (upd H2 u (.tup [.str "hush"])) l1 (.lst [.ref u]) u=some (.tup (dR.map V.str)):=kp aa hl1;have l13:upd (upd H2 u (.tup [.str "hush"])) l1 (.lst [.ref u]) l1=some (.lst [.ref u]):=aa;generalize upd (upd H2 u (.tup [.str "hush"])) l1 (.lst [.ref u])=H3 at S3 u3 l13 ⊢;refine⟨cl,l1,_,_,rfl,rfl,S3 _ _ c2,l13,by rw[ak];exact cp (ao (by show _+1<=1000;omega)),fun r hr=>?_⟩;have S4:ac H3 (upd H3 r (.lst (ss.map V.ref++[.ref u]))):=ac.new hr;exact k r (ss++[u]) _ (by rw[aa,aG];rfl) (cf (Paired.mapP hU fun _ _ r=>aA.kt (ac.kt (S3.trans S4)) r) (.inl (S4 _ _ u3))) (S2.trans (S3.trans S4))
inductive eW(K:Za)(vs:List V)(H:Hp)(Q:VK)(E:XK):Prop
 |mk (a b:Addr) (ws:Zb) (us:List V) (ps:List DT):(vs=[.ref a,.ref b])->(H a=some (.lst (ws.map V.str)))->(H b=some (.lst us))->(fE K H us ps)->(ws.length<=ps.length)->(ws.length<=4)->(∀(q:Addr) (xs:List V) (H':Hp),H' q=some (.tup xs)->fE K H' xs (cX eC ws (ps.take ws.length))->ac H H'->Q (.ref q) H')->eW K vs H Q E
theorem yM{K:Za}{vs:List V}{H:Hp}{Q:VK}{E:XK}(h:eW K vs H Q E):ue K (bx Q) (start vd vs) H:=by
 obtain⟨a,b,ws,us,ps,rfl,ha,hb,hU,zl,z4,k⟩:=h;have zu:=Paired.length hU;refine⟨_,rfl,_,rfl,a,b,rfl,.inl ⟨⟨_,ay.of ha⟩,⟨_,ay.of hb⟩,fun l hl=>?_⟩⟩
 let zI0:Nat->List V->Hp->Prop:=fun i vs H'=>ac H H'/\H' l=some (.lst vs)/\fE K H' vs (cX eC (ws.take i) (ps.take i))
 refine qX (xs:=ws.map V.str) (ys:=us) (by rw[ak];omega) zI0 ⟨ac.new hl,aa,.nil⟩ (fun i us H' _ zq=>by obtain⟨S,h',_⟩:=zq;exact⟨h',ay.of (S _ _ ha),ay.of (S _ _ hb)⟩) ?_ ?_
 ·rintro vs H1 ⟨S,h1,hP⟩;rw[ak,bo]at hP;refine⟨l,vs,rfl,.inl ⟨ay.of h1,fun q hq=>k q vs _ aa (fE.kt (ac.kt (ac.new hq)) hP) (S.trans (ac.new hq))⟩⟩
 ·rintro i vs H1 x v p hx hv hi ⟨S,h1,hP⟩ hp1;obtain⟨w,hw,rfl⟩:=cC hx;obtain⟨d,hd,hvd⟩:=Paired.getL hU hv;have S2:ac H1 (upd H1 p (.tup [.str w,v])):=ac.new hp1;have p2:upd H1 p (.tup [.str w,v]) p=some (.tup [.str w,v]):=aa;generalize upd H1 p (.tup [.str w,v])=H2 at S2 p2 ⊢;refine⟨p,_,rfl,bc.of p2,rfl,_,_,rfl,_,_,rfl,rfl,kY ?_⟩;refine⟨_,rfl,_,rfl,(by show 2<=ai;decide),fun q hq=>?_⟩;have S3:ac H2 (upd H2 q (.tup [.str w,v])):=ac.new hq;have q3:upd H2 q (.tup [.str w,v]) q=some (.tup [.str w,v]):=aa;generalize upd H2 q (.tup [.str w,v])=H3 at S3 q3 ⊢;have S13:=S2.trans S3;have h3:=S13 _ _ h1;have kt:gE H3 (upd H3 l (.lst (vs++[.ref q]))):=eE h3;have hlen:vs.length<=1000:=by
   rw[Paired.length hP,rk,aF];omega
  refine⟨h3,ao hlen,n0 hi ⟨fun b o e=>?_,aa,?_⟩⟩
  ·rw[aj (ag e hl)];exact S13 _ _ (S _ _ e)
  ·rw[take_snoc hw,take_snoc hd,List.zipWith_append (by rw[aF,aF];rw[ak]at hi;omega)];refine cf (fE.kt (fun b xs e=>kt _ _ (ac.kt S13 _ _ e)) hP) ?_;exact⟨q,_,rfl,.inl (kt _ _ q3),_,_,rfl,kZ w,_,_,rfl,cy.kt (fun b xs e=>kt _ _ (ac.kt S13 _ _ (ac.kt S _ _ e))) _ _ hvd,rfl⟩
mutual
def lF(J2:Zb)(w:List Nat)(s:List Sg):Tr->List En
 |.bl=>[⟨w,s,.bl⟩]
 |.en=>[⟨w,s,.en⟩]
 |.nd a ps=>lvEs J2 w s (ca J2 a) 0 ps
def lvEs(J2:Zb)(w:List Nat)(s:List Sg)(sgs:List Sg)(i:Nat):List Tr->List En
 |[]=>[]
 |p::ps=>lF J2 (w++[i]) (s++(sgs.take 1)) p++lvEs J2 w s (sgs.drop 1) (i+1) ps
end
mutual
theorem xK(J2:Zb):∀(t:Tr) (w:List Nat) (s:List Sg),(lF J2 w s t).length<=t.sz
 |.bl,_,_=>ax _
 |.en,_,_=>ax _
 |.nd a ps,w,s=>aW (lvEs_len J2 ps w s _ 0) (tQ _)
theorem lvEs_len(J2:Zb):∀(ps:List Tr) (w:List Nat) (s sgs:List Sg) (i:Nat),(lvEs J2 w s sgs i ps).length<=Tr.szs ps
 |[],_,_,_,_=>ax _
 |p::ps,w,s,sgs,i=>by
  have h1:=xK J2 p (w++[i]) (s++sgs.take 1);have h2:=lvEs_len J2 ps w s (sgs.drop 1) (i+1);show(lF J2 _ _ p++lvEs J2 _ _ _ _ ps).length<=p.sz+Tr.szs ps;rw[aH];omega
end
def lI(e:En):Bool:=match e.tr with
 |.nd _ _=>false
 |_=>true
mutual
theorem vW(J2:Zb):∀(t:Tr) (w:List Nat) (s:List Sg),(gR J2 w s t).filter lI=lF J2 w s t
 |.bl,_,_=>rfl
 |.en,_,_=>rfl
 |.nd a ps,w,s=>pres_lv J2 ps w s _ 0
theorem pres_lv(J2:Zb):∀(ps:List Tr) (w:List Nat) (s sgs:List Sg) (i:Nat),(preEs J2 w s sgs i ps).filter lI=lvEs J2 w s sgs i ps
 |[],_,_,_,_=>rfl
 |p::ps,w,s,sgs,i=>by
  show(gR J2 _ _ p++preEs J2 _ _ _ _ ps).filter lI=lF J2 _ _ p++lvEs J2 _ _ _ _ ps;rw[lU,vW J2 p,pres_lv J2 ps]
end
def Dk(e:En):Str:=match e.tr with
 |.bl=>"blame"
 |_=>"end"
def fV(K:Za)(J:Hp)(q:Addr)(e:En):Prop:=∃wr st:Addr,J q=some (.tup [.ref wr,.ref st,.str (Dk e)])/\J wr=some (.tup (nC e.way))/\dg K J st e.story
theorem dg.same{K:Za}{J J':Hp}{st:Addr}{s:List Sg}(S:ac J J')(h:dg K J st s):dg K J' st s:=by
 obtain⟨gs,h3,h4⟩:=h;exact⟨gs,S _ _ h3,Paired.mapP h4 fun _ _ r=>aA.kt (ac.kt S) r⟩
theorem fV.same{K:Za}{J J':Hp}{q:Addr}{e:En}(S:ac J J')(h:fV K J q e):fV K J' q e:=by
 obtain⟨wr,st,h1,h2,h3⟩:=h;exact⟨wr,st,S _ _ h1,S _ _ h2,dg.same S h3⟩
theorem qV(J2:Zb){h:Nat}:∀{ps:List Tr},Tr.hgts ps<=h->DT.depths (Tr.dts J2 ps)<=dB h
 |[],_=>bN _
 |p::ps,hh=>by
  have hm:Tr.hgts (p::ps)=max p.hgt (Tr.hgts ps):=rfl;have h1:=uT J2 h p (by omega);have h2:=qV J2 (h:=h) (ps:=ps) (by omega);show max (p.dt J2).depth (DT.depths (Tr.dts J2 ps))<=dB h;omega
theorem AF{T:Tr}{h:Nat}(hh:T.hgt<=h):Tr.hgts (xL T)<=h:=by
 cases T with
 |bl=>exact bN _
 |en=>exact bN _
 |nd a ps=>exact aW (tQ _) hh
theorem B5{K:Za}{H:Hp}{l e:Addr}{us:List V}{J2:Zb}{ps:List Tr}{Q:VK}(hl:H l=some (.lst us))(hU:fE K H us (Tr.dts J2 ps))(he:H e=some (.lst []))(hg:Tr.hgts ps<=6)(q:Q (.bl (decide (ps=[]))) H):BK K (.ref l) (.ref e) H Q:=by
 refine⟨.s (Tr.dts J2 ps),.s [],?_,x9 (ay.of he),?_,by decide,?_⟩
 ·unfold f8;exact⟨l,us,rfl,ay.of hl,TrCs.dIn _ _ (fE.all hU)⟩
 ·show DT.depths _+1<=40;have:=qV J2 hg;have:dB 6=19:=rfl;omega
 ·have:decide (DT.s (Tr.dts J2 ps)=DT.s [])=decide (ps=[]):=decide_eq_decide.2 ⟨fun z=>by
   injection z with z;rw[Tr.dts_map]at z;exact rm.1 z,fun z=>by rw[z];rfl⟩
  rw[this];exact q
inductive dP(K:Za)(D:Nat)(vs:List V)(H:Hp)(Q:VK)(E:XK):Prop
 |mk (v:V) (wr st:Addr) (T:Tr) (way:List Nat) (story:List Sg) (J0 J2:Zb):(vs=[v,.ref wr,.ref st])->(T.hgt<=D)->(cy K H (T.dt J2) v)->(T.wf J0 J2)->(J2.length<=4)->(T.sz<=1000)->(H wr=some (.tup (nC way)))->(dg K H st story)->(way.length+T.hgt<=100)->(story.length+T.hgt<=100)->(∀(l:Addr) (qs:Ze) (H':Hp),H' l=some (.lst (qs.map V.ref))->Paired (fV K H') qs (lF J2 way story T)->ac H H'->Q (.ref l) H')->dP K D vs H Q E
theorem vO{K:Za}{D:Nat}{spR:Sp}(d5:D<=4)(hR:∀m,D=m+1->spR=dP K m){vs:List V}{H:Hp}{Q:VK}{E:XK}(h:dP K D vs H Q E):rW K (jw K) spR (le K) (bx Q) (start tK vs) H:=by
 obtain⟨v,wr,st,T,way,story,J0,J2,rfl,hg,hv,wf,z4,zT,hw,hs,zw,zs,k⟩:=h;refine⟨_,rfl,v,T,J2,rfl,hv,wf.ok,z4,fun il us H1 hil hU S1=>?_⟩;refine⟨_,rfl,(by show 0<=ai;decide),fun e he=>?_⟩;have S2:ac H1 (upd H1 e (.lst [])):=ac.new he;have e2:upd H1 e (.lst []) e=some (.lst []):=aa;show BK K (.ref il) (.ref e) (upd H1 e (.lst [])) _;generalize upd H1 e (.lst [])=H2 at S2 e2 ⊢;have S12:=S1.trans S2;have hU2:=fE.kt (ac.kt S2) hU;have hv2:=cy.kt (ac.kt S12) _ _ hv;refine B5 (S2 _ _ hil) hU2 e2 (AF (by omega)) ⟨_,rfl,?_⟩;have leaf:∀(b:Addr) (w:Str),v=.ref b->aA K H2 b [.str w]->Dk ⟨way,story,T⟩=w->lF J2 way story T=[⟨way,story,T⟩] ->
   (aX (bY (ap (bf (dL V1 V2 (aw (bz K) V0 (tC (.int 0))))) be))) (bx Q) [some v,some (.ref wr),some (.ref st),some (.ref il),none,none,none] H2:=by
  rintro b w rfl ht ew el;refine⟨_,rfl,_,rfl,_,rfl,b,_,0,_,rfl,rfl,aA.sq ht,aD (j:=0) rfl,(by show 3<=ai;decide),fun q hq=>⟨(by show 1<=ai;decide),fun l hl=>?_⟩⟩;have S3:ac H2 (upd (upd H2 q (.tup [.ref wr,.ref st,.str w])) l (.lst [.ref q])):=(ac.new hq).trans (ac.new hl);refine k l [q] _ aa ?_ (S12.trans S3);rw[el];exact .cons ⟨wr,st,by rw[ew];exact kp aa hl,S3 _ _ (S12 _ _ hw),dg.same (S12.trans S3) hs⟩ .nil
 cases T with
 |bl =>
  obtain⟨b,e,ht⟩:=iq (w:="blame") hv2;exact bh (leaf b _ e ht rfl rfl)
 |en =>
  obtain⟨b,e,ht⟩:=iq (w:="end") hv2;exact bh (leaf b _ e ht rfl rfl)
 |nd a ps =>
 obtain⟨w1,w2,w3⟩:=id wf;have w3:=Tr.wfs_mem.1 w3;have hg:Tr.hgts ps+1<=D:=hg;have zT:Tr.szs ps+1<=1000:=zT;have zw:way.length+(Tr.hgts ps+1)<=100:=zw;have zs:story.length+(Tr.hgts ps+1)<=100:=zs;have hU2:fE K H2 us (Tr.dts J2 ps):=hU2;obtain⟨w,rfl⟩:∃w,D=w+1:=⟨D-1,by omega⟩;cases hR w rfl;have ne:decide (xL (.nd a ps)=[])=false:=zzr0 fun z=>by
  have z:ps=[]:=z;rw[z]at w1;cases w1
 rw[ne];refine aT ?_;refine⟨(by show 0<=ai;decide),fun f0 hf0=>?_⟩;have S3:ac H2 (upd H2 f0 (.lst [])):=ac.new hf0;have f03:upd H2 f0 (.lst []) f0=some (.lst []):=aa;generalize upd H2 f0 (.lst [])=H3 at S3 f03 ⊢;have S13:=S12.trans S3;refine⟨_,rfl,v,a,ps,J2,rfl,cy.kt (ac.kt S13) _ _ hv,w1,z4,fun sl ss H4 hsl hS S4=>⟨sl,rfl,⟨_,ay.of hsl⟩,?_⟩⟩;have zk:=jB J2 a;have zss:ss.length=ps.length:=by rw[Paired.length hS,zk,w1]
 have zu:us.length=ps.length:=by rw[Paired.length hU2,Tr.dts_map,ak]
 have S14:=S13.trans S4;have S24:=S3.trans S4;have il4:=S24 _ _ (S2 _ _ hil);have lt:=lvEs_len J2 ps way story (ca J2 a) 0;have k:∀(l:Addr) (qs:Ze) (H':Hp),H' l=some (.lst (qs.map V.ref))->Paired (fV K H') qs (lvEs J2 way story (ca J2 a) 0 ps)->ac H H'->Q (.ref l) H':=k;generalize hE:lvEs J2 way story (ca J2 a) 0 ps=LE at lt k
 let zI1:Nat->L2.St->Hp->Prop:=fun i σ H'=>NE6 fun(fl:Addr) (qs:Ze) (dn:List En) (x5 x6:Option V) (_:Unit)=>CL (σ=[some v,some (.ref wr),some (.ref st),some (.ref il),some (.ref fl),x5,x6]) (H' fl=some (.lst (qs.map V.ref))) (Paired (fV K H') qs dn) (LE=dn++lvEs J2 way story ((ca J2 a).drop i) i (ps.drop i)) (ac H4 H')
 refine gy (xs:=ss.map V.ref) zI1 ⟨f0,[],[],_,_,(),rfl,S4 _ _ f03,.nil,hE.symm,ac.refl _⟩ (fun i σ H' _ zq=>by obtain⟨_,_,_,_,_,_,_,_,_,_,S⟩:=zq;exact ay.of (S _ _ hsl)) ?_ ?_
 ·rintro i x σ H5 t hi ⟨fl,qs,dn,x5,x6,_,rfl,hfl,hP,eL,S5⟩ ht;obtain⟨su,hsu,rfl⟩:=bT hi;obtain⟨sg,hsg,hat⟩:=Paired.getL hS hsu;have il':i<ps.length:=by rw[<-zss];exact(bR.1 hsu).1
  obtain⟨pt,hpt⟩:∃p,ps[i]?=some p:=⟨_,bC il'⟩;obtain⟨pv,hpv⟩:∃p,us[i]?=some p:=⟨_,bC (by omega)⟩;have hpd:cy K H2 (pt.dt J2) pv:=by
   obtain⟨d,e,h⟩:=Paired.getL hU2 hpv;rw[Tr.dts_map,ej,hpt]at e;injection e with e;rw[e];exact h
  have ed1:(ca J2 a).drop i=sg::(ca J2 a).drop (i+1):=by
   obtain⟨h1,h2⟩:=bR.1 hsg;rw[oB h1,h2]
  have ed2:ps.drop i=pt::ps.drop (i+1):=by
   obtain⟨h1,h2⟩:=bR.1 hpt;rw[oB h1,h2]
  have eL:LE=dn++(lF J2 (way++[i]) (story++[sg]) pt++lvEs J2 way story ((ca J2 a).drop (i+1)) (i+1) (ps.drop (i+1))):=by
   rw[eL,ed1,ed2];rfl
  have S6:ac H5 (upd H5 t (.tup [.int i,.ref su])):=ac.new ht;have t6:upd H5 t (.tup [.int i,.ref su]) t=some (.tup [.int i,.ref su]):=aa;generalize upd H5 t (.tup [.int i,.ref su])=H6 at S6 t6 ⊢;refine⟨t,_,rfl,bc.of t6,rfl,_,_,rfl,_,_,rfl,rfl,?_⟩;have S46:=S5.trans S6;have S06:=S14.trans S46;refine⟨_,rfl,_,rfl,_,rfl,il,_,i,pv,rfl,rfl,ay.of (S46 _ _ il4),aD hpv,_,rfl,_,rfl,(by show 1<=ai;decide),fun t1 ht1=>?_⟩;have S7:ac H6 (upd H6 t1 (.tup [.int (i:Nat)])):=ac.new ht1;have t17:upd H6 t1 (.tup [.int (i:Nat)]) t1=some (.tup [.int (i:Nat)]):=aa;show uw K (.ref wr) (.ref t1) (upd H6 t1 (.tup [.int (i:Nat)])) _;generalize upd H6 t1 (.tup [.int (i:Nat)])=H7 at S7 t17 ⊢;refine x_ ((S06.trans S7) _ _ hw) t17 (by omega) fun wt H8 hwt S8=>?_;have S08:=(S06.trans S7).trans S8;obtain⟨gs,hst,hgs⟩:=dg.same S08 hs;have zgs:gs.length=story.length:=Paired.length hgs;refine⟨_,rfl,_,rfl,(by show 1<=ai;decide),fun l1 hl1=>?_⟩;have S9:ac H8 (upd H8 l1 (.lst [.ref su])):=ac.new hl1;have l19:upd H8 l1 (.lst [.ref su]) l1=some (.lst [.ref su]):=aa;generalize upd H8 l1 (.lst [.ref su])=H9 at S9 l19 ⊢;refine⟨st,l1,_,_,rfl,rfl,S9 _ _ hst,l19,by rw[ak];exact cp (ao (by show _+1<=1000;omega)),fun sx hsx=>?_⟩;have S10:ac H9 (upd H9 sx (.lst (gs.map V.ref++[.ref su]))):=ac.new hsx;have sx10:upd H9 sx (.lst (gs.map V.ref++[.ref su])) sx=some (.lst ((gs++[su]).map V.ref)):=by rw[aa,aG];rfl
  generalize upd H9 sx (.lst (gs.map V.ref++[.ref su]))=H10 at S10 sx10 ⊢;have S810:=S9.trans S10;have S610:=S7.trans (S8.trans S810);have S410:=S46.trans S610;have story':dg K H10 sx (story++[sg]):=⟨gs++[su],sx10,cf (Paired.mapP hgs fun _ _ r=>aA.kt (ac.kt S810) r) (aA.kt (ac.kt S410) hat)⟩;have hgp:=pE (cg hpt);have szp:pt.sz<=Tr.szs ps:=by
   have h1:=xn (u:=pt) hpt;have:∀(l:List Tr) (t:Tr),t∈l->t.sz<=Tr.szs l:=fun l t=>by
    induction l with
    |nil=>intro h;cases h
    |cons x r ih =>
     intro h;show t.sz<=x.sz+Tr.szs r;rcases bS.1 h with rfl|h
     ·omega
     ·have:=ih h;omega
   exact this ps pt (cg hpt)
  refine⟨pv,wt,sx,pt,way++[i],story++[sg],J0,J2,rfl,by omega,cy.kt (ac.kt (S24.trans S410)) _ _ hpd,w3 pt (cg hpt),z4,by omega,S810 _ _ hwt,story',by rw[aH];show way.length+1+_<=100;omega,by rw[aH];show story.length+1+_<=100;omega,fun rl rs H11 hrl hR S11=>?_⟩;have S511:=S6.trans (S610.trans S11);have zq:=Paired.length hP;have zr:=Paired.length hR;have zl:LE.length=dn.length+((lF J2 (way++[i]) (story++[sg]) pt).length+(lvEs J2 way story ((ca J2 a).drop (i+1)) (i+1) (ps.drop (i+1))).length):=by rw[eL,aH,aH]
  refine⟨fl,rl,_,_,rfl,rfl,S511 _ _ hfl,hrl,by rw[ak,ak];exact cp (ao (by omega)),fun fr hfr=>?_⟩;have S12:ac H11 (upd H11 fr (.lst (qs.map V.ref++rs.map V.ref))):=ac.new hfr;exact⟨fr,qs++rs,dn++lF J2 (way++[i]) (story++[sg]) pt,_,_,(),rfl,by rw[aa,aG],Paired.app (Paired.mapP hP fun _ _ r=>fV.same (S511.trans S12) r) (Paired.mapP hR fun _ _ r=>fV.same S12 r),by rw[eL,cH],S5.trans (S511.trans S12)⟩
 ·rintro σ H5 ⟨fl,qs,dn,x5,x6,_,rfl,hfl,hP,eL,S5⟩;rw[ak,zss,rp]at eL;have eL:LE=dn++[]:=eL;rw[dD]at eL;refine⟨_,rfl,k fl qs H5 hfl ?_ (S14.trans S5)⟩;rw[eL];exact hP
mutual
theorem mD{J2:Zb}{P:Sg->Prop}(hP:∀a,∀sg∈ca J2 a,P sg):∀(t:Tr) (w:List Nat) (s:List Sg),(∀sg∈s,P sg)->∀e∈lF J2 w s t,(∀sg∈e.story,P sg)/\e.story.length<=s.length+t.hgt
 |.bl,w,s,h,e,he=>by rw[cc.1 he];exact⟨h,ka _ _⟩
 |.en,w,s,h,e,he=>by rw[cc.1 he];exact⟨h,ka _ _⟩
 |.nd a ps,w,s,h,e,he=>lvEs_story hP ps w s (ca J2 a) 0 h (hP a) e he
theorem lvEs_story{J2:Zb}{P:Sg->Prop}(hP:∀a,∀sg∈ca J2 a,P sg):∀(ps:List Tr) (w:List Nat) (s sgs:List Sg) (i:Nat),(∀sg∈s,P sg)->(∀sg∈sgs,P sg)->∀e∈lvEs J2 w s sgs i ps,(∀sg∈e.story,P sg)/\e.story.length<=s.length+(Tr.hgts ps+1)
 |[],_,_,_,_,_,_,e,he=>by cases he
 |p::ps,w,s,sgs,i,h,hs,e,he=>by
  have hm:Tr.hgts (p::ps)=max p.hgt (Tr.hgts ps):=rfl;rcases bq.1 he with he|he
  ·obtain⟨h1,h2⟩:=mD hP p (w++[i]) (s++sgs.take 1) (fun sg hsg=>(bq.1 hsg).elim (h sg) fun q=>hs sg (h9 q)) e he;refine⟨h1,?_⟩;rw[aH,aF]at h2;omega
  ·obtain⟨h1,h2⟩:=lvEs_story hP ps w s (sgs.drop 1) (i+1) h (fun sg hsg=>hs sg (ou hsg)) e he;exact⟨h1,by omega⟩
end
inductive iF(K:Za)(C:Addr)(vs:List V)(H:Hp)(Q:VK)(E:XK):Prop
 |mk (M:Addr) (v:V) (T:Tr) (J0 J2 J4:Zb) (ds:List aB):(vs=[.ref M,v])->(ck C H M J0 J2 J4 ds)->(cy K H (T.dt J2) v)->(T.wf J0 J2)->(T.sz<=1000)->(T.hgt<=7)->(∀(l:Addr) (qs:Ze) (H':Hp),H' l=some (.lst (qs.map V.ref))->H l=none->Paired (fV K (hidL H H')) qs (lF J2 [] [] T)->ac H H'->Q (.ref l) H')->iF K C vs H Q E
theorem C_{K:Za}{H:Hp}{J2:Zb}{T:Tr}{v:V}(ok:T.ok J2)(h:cy K H (T.dt J2) v):∃b xs,v=.ref b/\aA K H b xs/\((T=.bl/\xs=[.str "blame"])∨(T=.en/\xs=[.str "end"])∨(∃a ps,T=.nd a ps/\(xs.length=3∨xs.length=4))):=by
 cases T with
 |bl =>
  obtain⟨b,e,ht⟩:=iq (w:="blame") h;exact⟨b,_,e,ht,.inl ⟨rfl,rfl⟩⟩
 |en =>
  obtain⟨b,e,ht⟩:=iq (w:="end") h;exact⟨b,_,e,ht,.inr (.inl ⟨rfl,rfl⟩)⟩
 |nd a ps =>
  have ok:ps.length=J2.length+1:=ok;have zd:(Tr.dts J2 ps).length=J2.length+1:=by rw[Tr.dts_map,ak,ok]
  cases a with
  |none =>
   obtain⟨b,b1,xs1,x2,d0,e,ht,_⟩:=oQ zd h;exact⟨b,_,e,ht,.inr (.inr ⟨_,_,rfl,.inl rfl⟩)⟩
  |some a =>
   obtain⟨b,x2,b3,xs3,d0,e,ht,_⟩:=oS zd h;exact⟨b,_,e,ht,.inr (.inr ⟨_,_,rfl,.inr rfl⟩)⟩
mutual
theorem xv{J0 J2:Zb}:∀(t:Tr) (w:List Nat) (s:List Sg),t.wf J0 J2->∀e∈gR J2 w s t,e.tr.wf J0 J2
 |.bl,w,s,_,e,he=>by rw[cc.1 he];trivial
 |.en,w,s,_,e,he=>by rw[cc.1 he];trivial
 |.nd a ps,w,s,h,e,he=>by
  rcases bS.1 he with rfl|he
  ·exact h
  ·exact preEs_wf ps w s _ 0 h.2.2 e he
theorem preEs_wf{J0 J2:Zb}:∀(ps:List Tr) (w:List Nat) (s sgs:List Sg) (i:Nat),Tr.wfs J0 J2 ps->∀e∈preEs J2 w s sgs i ps,e.tr.wf J0 J2
 |[],_,_,_,_,_,e,he=>by cases he
 |p::ps,w,s,sgs,i,h,e,he=>by
  rcases bq.1 he with he|he
  ·exact xv p _ _ h.1 e he
  ·exact preEs_wf ps w s _ (i+1) h.2 e he
end
theorem lL{l:List En}{i:Nat}{e:En}(h:l[i]?=some e):(l.take (i+1)).filter lI=(l.take i).filter lI++(if lI e=true then[e]else[]):=by
 rw[take_snoc h,lU];by_cases c:lI e=true
 ·rw[if_pos c];simp[c]
 ·rw[if_neg c];simp[c]
theorem vP{K:Za}{C:Addr}{vs:List V}{H:Hp}{Q:VK}{E:XK}(h:iF K C vs H Q E):zY K (iI K C) (bx Q) (start Bh vs) H:=by
 obtain⟨M,v,T,J0,J2,J4,ds,rfl,MA,hv,wf,zT,hg,k⟩:=h;have zp:(gR J2 [] [] T).length<=1000:=by rw[sG];exact zT
 refine⟨_,rfl,_,rfl,M,v,T,J0,J2,J4,ds,rfl,MA,hv,wf,zp,fun e he=>?_,fun cl qs H1 hcl _ hP S1=>⟨cl,rfl,⟨_,ay.of hcl⟩,fun l hl=>?_⟩⟩
 ·have:=pf J2 T [] [] e he;have:([]:List Nat).length=0:=rfl;omega
 have wfE:=xv (J0:=J0) T ([]:List Nat) ([]:List Sg) wf;rw[<-vW]at k;generalize gR J2 [] [] T=L at zp hP wfE k
 let zI0:Nat->List V->Hp->Prop:=fun i us H'=>∃rs:List Addr,us=rs.map V.ref/\ac H1 H'/\H' l=some (.lst us)/\Paired (fV K (hidL H (fJ H' l))) rs ((L.take i).filter lI)
 have hid0:∀{H2:Hp}{q:Addr}{e:En},fV K (hidL H (fJ H2 l)) q e->fV K (hidL H H2) q e:=fun h=>fV.same (jF df) h;refine cP (xs:=qs.map V.ref) zI0 ⟨[],rfl,ac.new hl,aa,.nil⟩ (fun i vs H' _ zq=>by obtain⟨_,_,S,h',_⟩:=zq;exact⟨h',ay.of (S _ _ hcl)⟩) ?_ ?_
 ·rintro us H2 ⟨rs,rfl,S,h2,hR⟩;rw[ak,Paired.length hP,bo]at hR;exact k l rs H2 h2 (S1.free hl) (Paired.mapP hR fun _ _ r=>hid0 r) (S1.trans S)
 ·rintro i us H2 x hx hi ⟨rs,rfl,S,h2,hR⟩;obtain⟨q,hq,rfl⟩:=bT hx;obtain⟨e,he,hat⟩:=Paired.getL hP hq;have i1:i<L.length:=(bR.1 he).1;have hup:ac (hidL H H1) (hidL H (fJ H2 l)):=jF (BZ S hl);obtain⟨wr,st,hv',g1,g2,g3,g4⟩:=jp.same hup hat;have gq:H2 q=some (.tup [.ref wr,.ref st,hv']):=(d6.trans df) _ _ g1;refine⟨q,_,rfl,bc.of gq,rfl,_,_,rfl,_,_,rfl,_,_,rfl,rfl,?_⟩;obtain⟨b,xs,rfl,ht,hc⟩:=C_ (wfE e (cg he)).ok g4;have ht2:aA K H2 b xs:=aA.kt (ac.kt (d6.trans df)) ht;refine⟨_,rfl,.inl ⟨b,xs,rfl,.inr (aA.sq ht2),rfl,_,rfl,?_⟩⟩;have zr:=Paired.length hR;have zf:((L.take i).filter lI).length<=i:=aW (fH _ _) (by rw[aF];omega);have leaf:∀w:Str,xs=[.str w]->lI e=true->Dk e=w->(bf (dL V0 V1 (aw (bz K) V2 (tC (.int 0))))) [some (.ref wr),some (.ref st),some (.ref b)] H2 fun v H6=>H6 l=some (.lst (rs.map V.ref))/\(rs.map V.ref).length<ai/\∃m',m'<(qs.map V.ref).length-i/\Wc (qs.map V.ref).length zI0 (i+1) m' (rs.map V.ref++[v]) (upd H6 l (.lst (rs.map V.ref++[v]))):=by
   rintro w rfl c1 c2;refine⟨_,rfl,_,rfl,_,rfl,b,_,0,_,rfl,rfl,aA.sq ht2,aD (j:=0) rfl,(by show 3<=ai;decide),fun q' hq'=>?_⟩;have nq:l≠q':=ag h2 hq';have S3:ac H2 (upd H2 q' (.tup [.ref wr,.ref st,.str w])):=ac.new hq';refine⟨S3 _ _ h2,by rw[ak];exact ao (by omega),n0 hi ⟨rs++[q'],by rw[aG];rfl,fun b o e=>?_,aa,?_⟩⟩
   ·rw[aj (ag e hl)];exact S3 _ _ (S _ _ e)
   ·have Sh:ac (hidL H (fJ H2 l)) (hidL H (fJ (upd (upd H2 q' (.tup [.ref wr,.ref st,.str w])) l (.lst (rs.map V.ref++[.ref q']))) l)):=by rw[y2];exact jF (AN S3)
    rw[lL he,if_pos c1];refine cf (Paired.mapP hR fun _ _ r=>fV.same Sh r) ⟨wr,st,?_,Sh _ _ g2,dg.same Sh g3⟩;rw[qQ ((S1.trans S).free hq'),eF nq.symm,aj nq.symm,c2,aa]
  have skip:lI e=false->∃m',m'<(qs.map V.ref).length-i/\Wc (qs.map V.ref).length zI0 (i+1) m' (rs.map V.ref) H2:=fun c=>by
   refine n0 hi ⟨rs,rfl,S,h2,?_⟩;rw[lL he,if_neg (by rw[c];decide),dD];exact hR
  rcases hc with⟨c,e1⟩|⟨c,e1⟩|⟨a,ps,c,e1⟩
  ·rw[zzr1 (by rw[e1];rfl)];exact bh (leaf _ e1 (by unfold lI;rw[c]) (by unfold Dk;rw[c]))
  ·rw[zzr1 (by rw[e1];rfl)];exact bh (leaf _ e1 (by unfold lI;rw[c]) (by unfold Dk;rw[c]))
  ·rw[zzr0 (by intro z;injection z with z;omega)];exact aT (skip (by unfold lI;rw[c]))
open Classical in
theorem xF{K:Za}{H:Hp}{J2:Zb}{a:Str}{dp:List DT}{q b3:Addr}{x2:V}{xs3:List V}{d0:DT}(hq:H q=some (.tup [.str "tell",.str a,x2,.ref b3]))(h3:H b3=some (.tup xs3))(e0:dp[0]?=some d0)(h2:cy K H d0 x2)(hx:fE K H xs3 (cX eC J2 ((dp.drop 1).take J2.length)))(zd:dp.length=J2.length+1):cy K H (dO J2 (some a) dp) (.ref q):=by
 rw[gW e0];rw[ox (by rw[cA];omega)]at hx;exact⟨q,_,rfl,.inl hq,_,_,rfl,kZ _,_,_,rfl,kZ _,_,_,rfl,h2,_,_,rfl,⟨b3,_,rfl,.inl h3,fE.all hx⟩,rfl⟩
theorem xE{K:Za}{H:Hp}{J2:Zb}{dp:List DT}{q b1:Addr}{x2:V}{xs1:List V}{d0:DT}(hq:H q=some (.tup [.str "wait",.ref b1,x2]))(h1:H b1=some (.tup xs1))(e0:dp[J2.length]?=some d0)(h2:cy K H d0 x2)(hx:fE K H xs1 (cX eC J2 (dp.take J2.length))):cy K H (dO J2 none dp) (.ref q):=by
 rw[gX e0];exact⟨q,_,rfl,.inl hq,_,_,rfl,kZ _,_,_,rfl,⟨b1,_,rfl,.inl h1,fE.all hx⟩,_,_,rfl,h2,rfl⟩
def vh(p f:Addr)(H H':Hp):Prop:=∀b o,H b=some o->b≠p->b≠f->H' b=some o
theorem vh.trs{p f:Addr}{H H' H'':Hp}(a:vh p f H H')(b:vh p f H' H''):vh p f H H'':=fun x o e n1 n2=>b x o (a x o e n1 n2) n1 n2
theorem vh.ofS{p f:Addr}{H H':Hp}(a:ac H H'):vh p f H H':=fun x o e _ _=>a x o e
theorem vh.ofB{p f:Addr}{H H':Hp}(a:b0 p H H'):vh p f H H':=fun x o e n _=>a x o e n
theorem vh.hid{p f:Addr}{H H':Hp}(a:vh p f H H'):b0 p (fJ H f) (fJ H' f):=fun b o e n=>by
 by_cases c:b=f
 ·rw[c,fb]at e;cases e
 ·rw[eF c]at e ⊢;exact a b o e n c
theorem vh.kt{p f:Addr}{H H':Hp}{xs ys:List V}(a:vh p f H H')(hp:H p=some (.lst xs))(hf:H f=some (.lst ys)):gE H H':=fun b zs e=>a b _ e (fun z=>by rw[z,hp]at e;cases e) (fun z=>by rw[z,hf]at e;cases e)
inductive dY(K:Za)(D:Nat)(vs:List V)(H:Hp)(Q:VK)(E:XK):Prop
 |mk (p c t l1 l2 l3 l4 lf:Addr) (ts:Ze) (d:Nat) (n:Int) (J0 J2 J4:Zb) (ds:List aB):(vs=[.ref p,.ref t,.int (d:Nat),.ref lf])->(d<=D)->(d_ H p c)->(lf≠p)->(lf≠c)->(iA (fJ H lf) t l1 l2 l3 l4 ts J0 J2 J4 ds)->(cJ J0 J2 J4 ds)->(H lf=some (.lst [.int n])) ->
  (∀(v:V) (T:Tr) (n':Int) (H':Hp),cy K H' (T.dt J2) v->T.wf J0 J2->T.hgt<=d->d_ H' p c->H' lf=some (.lst [.int n'])->vh p lf H H'->Q v H')->dY K D vs H Q E
theorem yE{K:Za}{D:Nat}{spR:Sp}(d5:D<=4)(hR:∀m,D=m+1->spR=dY K m){vs:List V}{H:Hp}{Q:VK}{E:XK}(h:dY K D vs H Q E):uc K (eW K) da spR (bx Q) (start vb vs) H:=by
 obtain⟨p,c,t,l1,l2,l3,l4,lf,ts,d,n,J0,J2,J4,ds,rfl,hd,hp,n1,n2,Tt,m,hlf,k⟩:=h;have z1:=m.asks4;have z2:=m.says4;have za:0<J0.length:=List.length_pos_iff.2 m.asks0;refine⟨_,rfl,lf,_,0,.int n,rfl,rfl,ay.of hlf,rfl,_,_,rfl,rfl,_,rfl,lf,[.int n],0,0,rfl,rfl,hlf,rfl,?_⟩;have hp1:d_ (upd H lf (.lst [.int (n-1)])) p c:=hp.upd n1.symm n2.symm;have lf1:upd H lf (.lst [.int (n-1)]) lf=some (.lst [.int (n-1)]):=aa;have ex1:vh p lf H (upd H lf (.lst [.int (n-1)])):=fun b o e _ nf=>by rw[aj nf];exact e
 show(aq _ _) _ _ (upd H lf (.lst [.int (n-1)]));generalize upd H lf (.lst [.int (n-1)])=H1 at hp1 lf1 ex1 ⊢;refine⟨_,rfl,p,c,6,rfl,hp1,by decide,by decide,fun w H2 w0 w6 hp2 ex2'=>?_⟩;have ex2:=ex1.trs (.ofB ex2');have lf2:=ex2' _ _ lf1 n1;have T2:iA (fJ H2 lf) t l1 l2 l3 l4 ts J0 J2 J4 ds:=Tt.ex (hp.hid2 n1.symm n2.symm) ex2.hid;have leaf:(aX (aw (cu K) (bY (aM (bf (az (tC (.str "end")))) (bf (az (tC (.str "blame")))))) (aL da (aM V0 (tC (.int 2)))))) (bx Q) [some (.ref p),some (.ref t),some (.int (d:Nat)),some (.ref lf),some (.int w),none,none] H2:=by
  refine⟨(by show 1<=ai;decide),fun e1 he1=>⟨(by show 1<=ai;decide),fun e2 he2=>⟨(by show 2<=ai;decide),fun l hl=>?_⟩⟩⟩;have S4:ac H2 (upd (upd (upd H2 e1 (.tup [.str "end"])) e2 (.tup [.str "blame"])) l (.lst [.ref e1,.ref e2])):=((ac.new he1).trans (ac.new he2)).trans (ac.new hl);have e14:upd (upd (upd H2 e1 (.tup [.str "end"])) e2 (.tup [.str "blame"])) l (.lst [.ref e1,.ref e2]) e1=some (.tup (iw.map V.str)):=kp (kp aa he2) hl;have e24:upd (upd (upd H2 e1 (.tup [.str "end"])) e2 (.tup [.str "blame"])) l (.lst [.ref e1,.ref e2]) e2=some (.tup (fU.map V.str)):=kp aa hl;have l4':upd (upd (upd H2 e1 (.tup [.str "end"])) e2 (.tup [.str "blame"])) l (.lst [.ref e1,.ref e2]) l=some (.lst [.ref e1,.ref e2]):=aa;have nlp:l≠p:=((hp2.ex ((ac.new he1).trans (ac.new he2))).nep hl).symm;show(aL da (aM V0 (tC (.int 2)))) _ (upd (upd (upd H2 e1 (.tup [.str "end"])) e2 (.tup [.str "blame"])) l (.lst [.ref e1,.ref e2])) _;generalize upd (upd (upd H2 e1 (.tup [.str "end"])) e2 (.tup [.str "blame"])) l (.lst [.ref e1,.ref e2])=H4 at S4 e14 e24 l4' ⊢;have hp4:=hp2.ex S4;refine⟨_,rfl,p,c,2,rfl,hp4,by decide,by decide,fun r H5 r0 r2 hp5 ex5=>?_⟩;have kt5:gE H4 H5:=by obtain⟨xs,hx⟩:=hp4.lst;exact ex5.kt hx
  have exf:vh p lf H H5:=(ex2.trs (.ofS S4)).trs (.ofB ex5);have lf5:=ex5 _ _ (S4 _ _ lf2) n1;have:r=0∨r=1:=by omega
  rcases this with rfl|rfl
  ·exact⟨l,_,0,.ref e1,rfl,rfl,ay.of (ex5 _ _ l4' nlp),rfl,k _ .en _ H5 (rQ (.inl (kt5 _ _ e14))) trivial (bN _) hp5 lf5 exf⟩
  ·exact⟨l,_,1,.ref e2,rfl,rfl,ay.of (ex5 _ _ l4' nlp),rfl,k _ .bl _ H5 (rQ (.inl (kt5 _ _ e24))) trivial (bN _) hp5 lf5 exf⟩
 refine⟨_,rfl,rfl,_,rfl,?_⟩
 match d,hd,k,leaf with
 |0,_,_,leaf=>exact bh (bh leaf)
 |d+1,hd,k,leaf =>
 rw[zzr0 (by intro z;injection z with z;omega)];refine aT ?_;refine⟨_,rfl,lf,_,0,.int (n-1),rfl,rfl,ay.of lf2,rfl,_,_,rfl,rfl,_,rfl,?_⟩;by_cases c1:n-1<0
 ·rw[zzr1 c1];exact bh (bh leaf)
 rw[zzr0 c1];refine aT ?_;refine⟨_,rfl,rfl,_,rfl,?_⟩;by_cases c2:w=0
 ·rw[zzr1 (by rw[c2])];exact bh leaf
 rw[zzr0 (fun z=>c2 (by injection z))];refine aT ?_;clear leaf;obtain⟨w',rfl⟩:∃w',D=w'+1:=⟨D-1,by omega⟩;cases hR w' rfl;have T2':=T2.same df;refine⟨_,rfl,t,_,1,.ref l2,rfl,rfl,bc.of T2'.t,rfl,.inl ⟨l2,_,rfl,.inl (ay.of T2'.a2),_,_,rfl,rfl,(J2.length:Int)+1,by rw[ak],by omega,by omega,fun cl hcl=>?_⟩⟩;have ncp:cl≠p:=(hp2.nep hcl).symm;have ncc:cl≠c:=(hp2.nec hcl).symm;have ncl:cl≠lf:=(ag lf2 hcl).symm;have cl0:∀{b:Addr}{o:HO},H2 b=some o->b≠cl:=fun e=>ag e hcl
 let zI0:Nat->List V->Hp->Prop:=fun i us H'=>Dl fun(Ts:List Tr) (n':Int) (_:Unit)=>NA6 (H' cl=some (.lst us)) (fE K H' us (Tr.dts J2 Ts)) (Ts.length=i/\∀T∈Ts,T.wf J0 J2/\T.hgt<=d) (d_ H' p c) (H' lf=some (.lst [.int n'])) (∀b o,H2 b=some o->b≠p->b≠lf->H' b=some o)
 refine pK (lo:=0) (n:=J2.length+1) zI0 ⟨[],_,(),aa,.nil,⟨rfl,fun _ h=>(by cases h)⟩,hp2.upd ncp.symm ncc.symm,by rw[aj ncl.symm];exact lf2,fun b o e _ _=>by rw[aj (cl0 e)];exact e⟩ (fun i us H' _ zq=>by obtain⟨_,_,_,h',_,_,_,_,_⟩:=zq;exact h') ?_ ?_;rotate_left
 ·rintro i us H3 hi ⟨Ts,n',_,h3,hP,⟨zt,hT⟩,hp3,lf3,ex3⟩;have T3:iA (fJ H3 lf) t l1 l2 l3 l4 ts J0 J2 J4 ds:=by
   refine T2.ex (hp2.hid2 n1.symm n2.symm) fun b o e nb=>?_;by_cases cb:b=lf
   ·rw[cb,fb]at e;cases e
   ·rw[eF cb]at e ⊢;exact ex3 b o e nb cb
  refine gN (kY ?_);refine⟨_,rfl,_,rfl,_,rfl,_,_,rfl,rfl,_,rfl,p,c,t,l1,l2,l3,l4,lf,ts,d,n',J0,J2,J4,ds,?_,by omega,hp3,n1,n2,T3,m,lf3,fun v T n4 H4 hv wT hgT hp4 lf4 ex4=>?_⟩
  ·show[V.ref p,V.ref t,V.int (((d+1:Nat):Int)-1),V.ref lf]=_;rw[show(((d+1:Nat):Int)-1)=(d:Nat) by omega]
  have h4:=ex4 _ _ h3 ncp ncl;have kt34:gE H3 H4:=by obtain⟨xs,hx⟩:=hp3.lst;exact ex4.kt hx lf3
  have kt:gE H4 (upd H4 cl (.lst (us++[v]))):=eE h4;have zu:us.length=i:=by rw[Paired.length hP,Tr.dts_map,ak,zt]
  refine⟨h4,ao (by omega),n0 hi ⟨Ts++[T],n4,(),aa,?_,⟨by rw[aH,zt];rfl,fun X hX=>?_⟩,hp4.upd ncp.symm ncc.symm,by rw[aj ncl.symm];exact lf4,fun b o e nb nf=>by rw[aj (cl0 e)];exact ex4 _ _ (ex3 _ _ e nb nf) nb nf⟩⟩
  ·rw[Tr.dts_map,aG,<-Tr.dts_map];exact cf (fE.kt (fun b xs e=>kt _ _ (kt34 _ _ e)) hP) (cy.kt kt _ _ hv)
  ·rcases bq.1 hX with hX|hX
   ·exact hT X hX
   ·rw[cc.1 hX];exact⟨wT,hgT⟩
 rintro us H3 ⟨Ts,n',_,h3,hP,⟨zt,hT⟩,hp3,lf3,ex3⟩;have ex03:vh p lf H H3:=ex2.trs ex3;have T3:iA (fJ H3 lf) t l1 l2 l3 l4 ts J0 J2 J4 ds:=Tt.ex (hp.hid2 n1.symm n2.symm) ex03.hid;have T3':=T3.same df;have zp:(Tr.dts J2 Ts).length=J2.length+1:=by rw[Tr.dts_map,ak,zt]
 have zv:us.length=J2.length+1:=by rw[Paired.length hP,zp]
 have wfA:∀a:Option Str,(∀w,a=some w->w∈J0)->(Tr.nd a Ts).wf J0 J2:=fun a ha=>⟨zt,ha,Tr.wfs_mem.2 fun T h=>(hT T h).1⟩;have hgA:∀a:Option Str,(Tr.nd a Ts).hgt<=d+1:=fun a=>Nat.succ_le_succ (sY fun T h=>(hT T h).2);have k2:∀(a:Option Str) (v:V) (n':Int) (H':Hp),(∀w,a=some w->w∈J0)->cy K H' (dO J2 a (Tr.dts J2 Ts)) v->d_ H' p c->H' lf=some (.lst [.int n'])->vh p lf H H'->Q v H':=fun a v n' H' ha hv q1 q2 q3=>k v (.nd a Ts) n' H' hv (wfA a ha) (hgA a) q1 q2 q3;clear k hT wfA hgA;generalize Tr.dts J2 Ts=dp at hP zp k2;refine⟨_,rfl,_,_,rfl,rfl,_,rfl,?_⟩;by_cases c4:w<4
 ·rw[zzr1 c4];refine bh ?_;refine⟨_,rfl,t,_,0,.ref l1,rfl,rfl,bc.of T3'.t,rfl,_,rfl,_,rfl,t,_,0,.ref l1,rfl,rfl,bc.of T3'.t,rfl,.inl ⟨l1,_,rfl,.inl (ay.of T3'.a1),p,c,J0.length,(by rw[ak];rfl),hp3,by omega,by omega,fun r H4 r0 r1 hp4 ex4=>?_⟩⟩;have T4:iA (fJ H4 lf) t l1 l2 l3 l4 ts J0 J2 J4 ds:=Tt.ex (hp.hid2 n1.symm n2.symm) (ex03.trs (.ofB ex4)).hid;have T4':=T4.same df;obtain⟨j,rfl⟩:∃j:Nat,r=j:=⟨r.toNat,by omega⟩;obtain⟨a,ha⟩:∃w,J0[j]?=some w:=⟨_,bC (by omega)⟩;refine⟨l1,_,j,.str a,rfl,rfl,ay.of T4'.a1,aD (by rw[ej,ha];rfl),?_⟩;have h4:=ex4 _ _ h3 ncp;have kt34:gE H3 H4:=by obtain⟨xs,hx⟩:=hp3.lst;exact ex4.kt hx
  have hP4:=fE.kt kt34 hP;obtain⟨v0,ev0⟩:∃v,us[0]?=some v:=⟨_,bC (by omega)⟩;obtain⟨d1,ed1,hv0⟩:=Paired.getL hP4 ev0;refine⟨_,rfl,_,rfl,cl,_,0,v0,rfl,rfl,ay.of h4,aD (j:=0) ev0,_,rfl,t,_,1,.ref l2,rfl,rfl,bc.of T4'.t,rfl,_,rfl,_,rfl,cl,_,rfl,ay.of h4,fun dl hdl=>?_⟩;rw[show fL us (some 1) none=us.drop 1 from pI _ 1];have S5:ac H4 (upd H4 dl (.lst (us.drop 1))):=ac.new hdl;have dl5:upd H4 dl (.lst (us.drop 1)) dl=some (.lst (us.drop 1)):=aa;generalize upd H4 dl (.lst (us.drop 1))=H5 at S5 dl5 ⊢;refine⟨l2,dl,J2,us.drop 1,dp.drop 1,rfl,S5 _ _ T4'.a2,dl5,Paired.dropP 1 (fE.kt (ac.kt S5) hP4),by rw[cA];omega,z2,fun q xs H6 hq hxs S6=>⟨(by show 4<=ai;decide),fun r hr'=>?_⟩⟩;have S7:ac H6 (upd H6 r (.tup [.str "tell",.str a,v0,.ref q])):=ac.new hr';have S47:=S5.trans (S6.trans S7);exact k2 (some a) _ _ _ (fun w e=>by injection e with e;rw[<-e];exact cg ha) (xF aa (S7 _ _ hq) ed1 (cy.kt (ac.kt S47) _ _ hv0) (fE.kt (ac.kt S7) hxs) zp) (hp4.ex S47) (S47 _ _ (ex4 _ _ lf3 n1)) ((ex03.trs (.ofB ex4)).trs (.ofS S47))
 ·rw[zzr0 c4];refine aT ?_;obtain⟨v0,ev0⟩:∃v,us[J2.length]?=some v:=⟨_,bC (by omega)⟩;obtain⟨d1,ed1,hv0⟩:=Paired.getL hP ev0;refine⟨_,rfl,t,_,1,.ref l2,rfl,rfl,bc.of T3'.t,rfl,_,rfl,l2,cl,J2,us,dp,rfl,T3'.a2,h3,hP,by omega,z2,fun q xs H6 hq hxs S6=>?_⟩;refine⟨_,rfl,_,rfl,cl,_,-1,v0,rfl,rfl,ay.of (S6 _ _ h3),yb zv.symm ev0,(by show 3<=ai;decide),fun r hr'=>?_⟩;have S7:ac H6 (upd H6 r (.tup [.str "wait",.ref q,v0])):=ac.new hr';have S37:=S6.trans S7;exact k2 none _ _ _ (fun w e=>(by cases e)) (xE aa (S7 _ _ hq) ed1 (cy.kt (ac.kt S37) _ _ hv0) (fE.kt (ac.kt S7) hxs)) (hp3.ex S37) (S37 _ _ lf3) (ex03.trs (.ofS S37))
inductive jA(K:Za)(vs:List V)(H:Hp)(Q:VK)(E:XK):Prop
 |mk (t st l1 l2 l3 l4:Addr) (ts us:Ze) (story:List Sg) (J0 J2 J4:Zb) (ds:List aB):(vs=[.ref t,.ref st])->(iA H t l1 l2 l3 l4 ts J0 J2 J4 ds)->(cJ J0 J2 J4 ds)->(H st=some (.lst (us.map V.ref)))->(mM K H us story)->(∀(t':Addr) (H':Hp),H' t'=some (.tup ((faceOf J4 ds story).map V.str))->ac H H'->Q (.ref t') H')->jA K vs H Q E
theorem yN{K:Za}{vs:List V}{H:Hp}{Q:VK}{E:XK}(h:jA K vs H Q E):vA K (mv K) ur (bx Q) (start wN vs) H:=by
 obtain⟨t,st,l1,l2,l3,l4,ts,us,story,J0,J2,J4,ds,rfl,T,m,hst,hS,k⟩:=h;have z3:=m.rooms26;have c1:fL (J4.map V.str) none (some 1)=(J4.take 1).map V.str:=tm J4 1;refine⟨_,rfl,_,rfl,.inr (.inl ⟨t,_,2,_,rfl,rfl,bc.of T.t,rfl,_,rfl,.inl ⟨l3,_,rfl,ay.of T.a3,fun fl hfl=>?_⟩⟩)⟩;rw[c1];have Sf:ac H (upd H fl (.lst ((J4.take 1).map V.str))):=ac.new hfl;refine⟨t,fl,l1,l2,l3,l4,ts,J0,J2,J4,J4.take 1,ds,rfl,T.same Sf,m,aa,by rw[aF];omega,fun f0 H1 hf0 S1'=>?_⟩;have S1:=Sf.trans S1';refine⟨_,rfl,st,rfl,⟨_,ay.of (S1 _ _ hst)⟩,?_⟩;refine c7 (xs:=us.map V.ref) (fun i σ H'=>Dm fun(f:Addr) (x3:Option V)=>NA3 (σ=[some (.ref t),some (.ref st),some (.ref f),x3]) (H' f=some (.tup ((faceOf J4 ds (story.take i)).map V.str))) (ac H H'))
  ⟨f0,_,rfl,hf0,S1⟩ (fun i σ H' _ zq=>by obtain⟨_,_,_,_,S⟩:=zq;exact ay.of (S _ _ hst)) ?_ ?_
 ·rintro i y σ H2 hi ⟨f,x3,rfl,hf,S2⟩;obtain⟨u,hu,rfl⟩:=bT hi;obtain⟨sg,hsg,hat⟩:=Paired.getL hS hu;obtain⟨o1,o2⟩:=y6 (ds:=ds) (show J4.length<=1000 by omega) (story.take i);refine⟨_,rfl,_,rfl,_,rfl,t,f,u,l1,l2,l3,l4,ts,J0,J2,J4,_,sg,ds,rfl,T.same S2,m,hf,aA.sq (aA.kt (ac.kt S2) hat),o2,fun f' H3 hf' S3=>⟨f',_,rfl,?_,S2.trans S3⟩⟩;rw[take_snoc hsg,uS];exact hf'
 ·rintro σ H2 ⟨f,x3,rfl,hf,S2⟩;rw[ak,Paired.length hS,bo]at hf;exact⟨_,rfl,k f H2 hf S2⟩
def vz(K:Za)(sp_law_pairs:Sp)(sp_law_made:Sp)(sp_law_face_on:Sp)(sp_law_take:Sp):TS :=
 aq (bZ (ba (aw (nM K) V2 (bf (be)))) (aX (bf (az (tC (.str "blame"))))) (bb))
 (aq (aS (bY (az (bf (az (tC (.str "hush")))))) U4)
 (aq (fQ (c6 K (aw (bz K) V1 (tC (.int 0)))) U5 (bZ (ba (aw (CU K) (aL sp_law_face_on (dL V1 V2 (bf (aM (tC (.str "ask")) V5)))) (bf (be)))) (cY (vJ K "list" de V4 (az (bf (aM (tC (.str "ask")) V5))))) (bb)))
 (aq (bZ (zG (ba (aw mw V3 (tC (.int 0)))) (ba (aw mw (aL sp_law_take (aM V0 (tC (.int 5)))) (tC (.int 0))))) (aX (bf (az (tC (.str "end"))))) (bb))
 (aq (aS (aw (cu K) V4 (aL sp_law_take (aM V0 (dE (d9 K) (az V4))))) U6)
 (aq (aS (cw 1 [] (c6 K (aw (bz K) V1 (tC (.int 1)))) U0 (eQ) (bf (aM (tC (.str "say")) V0))) U7)
 (aq (aS (aw (cu K) (bY (aM (aw lu V7 (bY (az V6))) (aw lu (bY (az V6)) V7))) (dE Dx (az (aw mw (aw (bz K) V6 (tC (.int 0))) (tC (.str "ask")))))) U7)
 (aq (aS (cw 1 [0,1,2,3] (c6 K V7) U0 (eQ) (aL sp_law_made (ap V1 (dL V2 (aL sp_law_face_on (ap V2 (aM V3 V0))) (aw xo V4 (tC (.int 1))))))) U8)
 (aq (bZ (ba (aw mw (aw (bz K) V6 (tC (.int 0))) (tC (.str "ask")))) (aX (bf (ap (tC (.str "tell")) (ap (aw (bz K) V6 (tC (.int 1))) (ap (aw (cu K) V8 (tC (.int 0))) (ap (aL sp_law_pairs (aM (aw (bz K) V1 (tC (.int 1))) (xk (nL K) V8 (fO (tC (.int 1))) (dI)))) be)))))) (bb))
 (aX (bf (ap (tC (.str "wait")) (ap (aL sp_law_pairs (aM (aw (bz K) V1 (tC (.int 1))) V8)) (az (aw (cu K) V8 (Dr (rU fun i=>.int (-i)) (tC (.int 1)))))))))))))))))
def wM:List Str:=["pen","told","face","deep","ways","ask","sign","signs","some"]
inductive fz(K:Za)(D:Nat)(vs:List V)(H:Hp)(Q:VK)(E:XK):Prop
 |mk (p c t l1 l2 l3 l4 fu:Addr) (ts:Ze) (d:Nat) (J8 J0 J2 J4:Zb) (ds:List aB):(vs=[.ref p,.ref t,.ref fu,.int (d:Nat)])->(d<=D)->(d_ H p c)->(iA H t l1 l2 l3 l4 ts J0 J2 J4 ds)->(cJ J0 J2 J4 ds)->(H fu=some (.tup (J8.map V.str)))->(J8.length<=1000) ->
  (∀(v:V) (T:Tr) (H':Hp),cy K H' (T.dt J2) v->T.wf J0 J2->T.hgt<=d->d_ H' p c->b0 p H H'->Q v H')->fz K D vs H Q E
theorem Ae{K:Za}{D:Nat}{spR:Sp}(d5:D<=4)(hR:∀m,D=m+1->spR=fz K m){vs:List V}{H:Hp}{Q:VK}{E:XK}(h:fz K D vs H Q E):vz K (eW K) spR (mv K) da (bx Q) (start wM vs) H:=by
 obtain⟨p,c,t,l1,l2,l3,l4,fu,ts,d,J8,J0,J2,J4,ds,rfl,hd,hp,Tt,m,hf,hz,k⟩:=h;have z1:=m.asks4;have z2:=m.says4;have z3:=m.rooms26;refine⟨_,rfl,(by show 0<=ai;decide),fun e he=>⟨gU J8,gU [],bI (bc.of (kp hf he)),bI (bc.of aa),Eb _,Eb _,_,rfl,?_⟩⟩;rw[jH];have Se:ac H (upd H e (.tup [])):=ac.new he;generalize upd H e (.tup [])=H1 at Se ⊢;have hp1:=hp.ex Se;by_cases c0:J8=[]
 ·rw[zzr1 c0];refine bh ⟨(by show 1<=ai;decide),fun b hb=>?_⟩;exact k _ .bl _ (rQ (.inl aa)) trivial (bN _) (hp1.ex (ac.new hb)) (ac.exBs (Se.trans (ac.new hb)))
 rw[zzr0 c0];refine aT ?_;refine⟨(by show 1<=ai;decide),fun hh hhh=>⟨(by show 1<=ai;decide),fun wl hwl=>?_⟩⟩;have S2:ac H1 (upd (upd H1 hh (.tup [.str "hush"])) wl (.lst [.ref hh])):=(ac.new hhh).trans (ac.new hwl);have hh2:upd (upd H1 hh (.tup [.str "hush"])) wl (.lst [.ref hh]) hh=some (.tup (dR.map V.str)):=kp aa hwl;have wl2:upd (upd H1 hh (.tup [.str "hush"])) wl (.lst [.ref hh]) wl=some (.lst (([hh]:Ze).map V.ref)):=aa;have wlH:H wl=none:=(Se.trans (ac.new hhh)).free hwl;generalize upd (upd H1 hh (.tup [.str "hush"])) wl (.lst [.ref hh])=H2 at S2 hh2 wl2 ⊢;have S02:=Se.trans S2;have T2:=Tt.same S02;have nw1:l1≠wl:=ag Tt.a1 wlH;refine⟨_,rfl,t,_,0,.ref l1,rfl,rfl,bc.of T2.t,rfl,l1,rfl,⟨_,ay.of T2.a1⟩,?_⟩
 let zI1:Nat->L2.St->Hp->Prop:=fun i σ H'=>Dl fun(gs:Ze) (Ws:List Sg) (x5:Option V)=>CL (σ=[some (.ref p),some (.ref t),some (.ref fu),some (.int (d:Nat)),some (.ref wl),x5,none,none,none]) (H' wl=some (.lst (gs.map V.ref))) (mM K H' gs Ws) (Ws≠[]/\Ws.length<=i+1/\∀sg∈Ws,sg=dR∨∃a∈J0,sg=gC a) (ac H H')
 refine c7 (xs:=J0.map V.str) zI1 ⟨[hh],[dR],_,rfl,wl2,.cons (.inl hh2) .nil,⟨by simp,ax _,fun sg h=>.inl (cc.1 h)⟩,S02⟩ (fun i σ H' _ zq=>by obtain⟨_,_,_,_,_,_,_,S⟩:=zq;exact ay.of (S _ _ Tt.a1)) ?_ ?_
 ·rintro i x σ H3 hx ⟨gs,Ws,x5,rfl,wl3,hW,⟨hne,hlen,hall⟩,S3⟩;obtain⟨a,ha,rfl⟩:=cC hx;have il:i<J0.length:=(bR.1 ha).1;refine⟨_,rfl,_,rfl,_,rfl,(by show 2<=ai;decide),fun s hs=>?_⟩;have S4:ac H3 (upd H3 s (.tup [.str "ask",.str a])):=ac.new hs;have s4:upd H3 s (.tup [.str "ask",.str a]) s=some (.tup ((gC a).map V.str)):=aa;generalize upd H3 s (.tup [.str "ask",.str a])=H4 at S4 s4 ⊢;have S04:=S3.trans S4;refine⟨t,fu,s,l1,l2,l3,l4,ts,J0,J2,J4,J8,gC a,ds,rfl,Tt.same S04,m,S04 _ _ hf,bc.of s4,hz,fun b H5 hb S5=>⟨(by show 0<=ai;decide),fun e0 he0=>⟨gU (behF J4 ds J8 (gC a)),gU [],bI (bc.of (kp hb he0)),bI (bc.of aa),Eb _,Eb _,_,rfl,?_⟩⟩⟩;rw[jH];have S6:ac H5 (upd H5 e0 (.tup [])):=ac.new he0;generalize upd H5 e0 (.tup [])=H6 at S6 ⊢;have S36:=S4.trans (S5.trans S6);have wl6:=S36 _ _ wl3;have hW6:=mM.same S36 hW;by_cases c1:behF J4 ds J8 (gC a)=[]
  ·rw[zzr1 c1];exact aT ⟨gs,Ws,_,rfl,wl6,hW6,⟨hne,by omega,hall⟩,S3.trans S36⟩
  ·rw[zzr0 c1];refine bh ⟨_,rfl,.inl ⟨rfl,_,ay.of wl6⟩,_,rfl,(by show 2<=ai;decide),fun u hu=>?_⟩;have S7:ac H6 (upd H6 u (.tup [.str "ask",.str a])):=ac.new hu;have u7:upd H6 u (.tup [.str "ask",.str a]) u=some (.tup ((gC a).map V.str)):=aa;generalize upd H6 u (.tup [.str "ask",.str a])=H7 at S7 u7 ⊢;have wl7:=S7 _ _ wl6;have kt:gE H7 (upd H7 wl (.lst (gs.map V.ref++[.ref u]))):=eE wl7;have zg:=Paired.length hW;refine⟨wl,_,_,rfl,rfl,wl7,by rw[ak];exact ao (by omega),gs++[u],Ws++[gC a],_,rfl,by rw[aa,aG];rfl,cf (Paired.mapP (mM.same S7 hW6) fun _ _ r=>aA.kt kt r) (.inl (kt _ _ u7)),⟨by simp,by rw[aH];show _+1<=_;omega,fun sg hsg=>?_⟩,fun b o e=>?_⟩
   ·rcases bq.1 hsg with hsg|hsg
    ·exact hall sg hsg
    ·exact .inr ⟨a,cg ha,cc.1 hsg⟩
   ·rw[aj (ag e wlH)];exact S7 _ _ (S36 _ _ (S3 _ _ e))
 rintro σ H3 ⟨gs,Ws,x5,rfl,wl3,hW,⟨hne,hlen,hall⟩,S3⟩;rw[ak]at hlen;have hp3:=hp.ex S3;have nwp:wl≠p:=(hp.nep wlH).symm;have fin:∀(H4:Hp),d_ H4 p c->b0 p H H4->(aX (bf (az (tC (.str "end"))))) (bx Q) [some (.ref p),some (.ref t),some (.ref fu),some (.int (d:Nat)),some (.ref wl),x5,none,none,none] H4:=fun H4 hp4 ex4=>⟨(by show 1<=ai;decide),fun b hb=>k _ .en _ (rQ (.inl aa)) trivial (bN _) (hp4.ex (ac.new hb)) (ex4.trs (ac.exBs (ac.new hb)))⟩;refine⟨_,rfl,rfl,_,rfl,?_⟩
 match d,hd,k,fin with
 |0,_,_,fin=>exact bh (bh (fin H3 hp3 (ac.exBs S3)))
 |d+1,hd,k,fin =>
 rw[zzr0 (by intro z;injection z with z;omega)];refine aT ?_;refine⟨_,rfl,p,c,5,rfl,hp3,by decide,by decide,fun r H4 _ _ hp4 ex4=>⟨rfl,_,rfl,?_⟩⟩;have ex04:b0 p H H4:=(ac.exBs S3).trs ex4;by_cases c1:r=0
 ·rw[zzr1 (by rw[c1])];exact bh (fin H4 hp4 ex04)
 rw[zzr0 (fun z=>c1 (by injection z))];refine aT ?_;obtain⟨w',rfl⟩:∃w',D=w'+1:=⟨D-1,by omega⟩;cases hR w' rfl;have kt34:gE H3 H4:=by obtain⟨xs,hx⟩:=hp3.lst;exact ex4.kt hx
 have wl4:=ex4 _ _ wl3 nwp;have hW4:mM K H4 gs Ws:=Paired.mapP hW fun _ _ r=>aA.kt kt34 r;have zg:gs.length=Ws.length:=Paired.length hW;have zw:0<Ws.length:=List.length_pos_iff.2 hne;refine⟨_,rfl,_,rfl,_,rfl,.inl ⟨wl,_,rfl,.inl (ay.of wl4),p,c,Ws.length,(by rw[ak,zg];rfl),hp4,by omega,by omega,fun q H5 q0 q1 hp5 ex5=>?_⟩⟩;have wl5:=ex5 _ _ wl4 nwp;have kt45:gE H4 H5:=by obtain⟨xs,hx⟩:=hp4.lst;exact ex5.kt hx
 have ex05:=ex04.trs ex5;obtain⟨j,rfl⟩:∃j:Nat,q=j:=⟨q.toNat,by omega⟩;obtain⟨g,hg⟩:∃g,gs[j]?=some g:=⟨_,bC (by omega)⟩;obtain⟨sg,hsg,hat⟩:=Paired.getL hW4 hg;have hat5:aA K H5 g (sg.map V.str):=aA.kt kt45 hat;refine⟨wl,_,j,.ref g,rfl,rfl,ay.of wl5,aD (by rw[ej,hg];rfl),?_⟩;have T5:=Tt.ex hp ex05;obtain⟨a,ea,hask⟩:∃a:Option Str,(∀w,a=some w->w∈J0)/\sg=(match a with|none=>dR|some w=>gC w):=by
  rcases hall sg (cg hsg)with e|⟨w,hw,e⟩
  ·exact⟨none,fun _ z=>(by cases z),e⟩
  ·exact⟨some w,fun x z=>by injection z with z;rw[<-z];exact hw,e⟩
 refine⟨_,rfl,t,_,1,.ref l2,rfl,rfl,bc.of T5.t,rfl,l2,rfl,⟨_,ay.of T5.a2⟩,fun sl hsl=>?_⟩;refine wB (kd:="say") (ws:=J2) T5.a2 (by omega) hsl fun us H6 sl6 hS S6=>?_;have hS:wH H6 us (J2.map g6):=hS;have zus:us.length=J2.length:=by rw[Paired.length hS,ak]
 refine⟨_,rfl,_,rfl,(by show 1<=ai;decide),fun o1 ho1=>?_⟩;have S7:ac H6 (upd H6 o1 (.lst [.ref g])):=ac.new ho1;have o17:upd H6 o1 (.lst [.ref g]) o1=some (.lst [.ref g]):=aa;generalize upd H6 o1 (.lst [.ref g])=H7 at S7 o17 ⊢;refine⟨sl,o1,_,_,rfl,rfl,S7 _ _ sl6,o17,by rw[ak];exact cp (ao (by show _+1<=1000;omega)),fun o2 ho2=>?_⟩;have S8:ac H7 (upd H7 o2 (.lst (us.map V.ref++[.ref g]))):=ac.new ho2;have o28:upd H7 o2 (.lst (us.map V.ref++[.ref g])) o2=some (.lst ((us++[g]).map V.ref)):=by rw[aa,aG];rfl
 generalize upd H7 o2 (.lst (us.map V.ref++[.ref g]))=H8 at S8 o28 ⊢;refine⟨_,rfl,(by show 1<=ai;decide),fun o3 ho3=>?_⟩;have S9:ac H8 (upd H8 o3 (.lst [.ref g])):=ac.new ho3;have o39:upd H8 o3 (.lst [.ref g]) o3=some (.lst [.ref g]):=aa;generalize upd H8 o3 (.lst [.ref g])=H9 at S9 o39 ⊢;have S69:=S7.trans (S8.trans S9);refine⟨_,rfl,o3,sl,_,_,rfl,rfl,o39,S69 _ _ sl6,by rw[ak];exact cp (ao (by show 1+_<=1000;omega)),fun o4 ho4=>?_⟩;have S10:ac H9 (upd H9 o4 (.lst ([.ref g]++us.map V.ref))):=ac.new ho4;have o410:upd H9 o4 (.lst ([.ref g]++us.map V.ref)) o4=some (.lst ((g::us).map V.ref)):=aa;generalize upd H9 o4 (.lst ([.ref g]++us.map V.ref))=H10 at S10 o410 ⊢;refine⟨(by show 2<=ai;decide),fun o5 ho5=>?_⟩;have S11:ac H10 (upd H10 o5 (.lst [.ref o2,.ref o4])):=ac.new ho5;have o511:upd H10 o5 (.lst [.ref o2,.ref o4]) o5=some (.lst [.ref o2,.ref o4]):=aa;generalize upd H10 o5 (.lst [.ref o2,.ref o4])=H11 at S11 o511 ⊢;have S611:=S69.trans (S10.trans S11);have S511:=S6.trans S611;have g11:aA K H11 g (sg.map V.str):=aA.kt (ac.kt S511) hat5;have us11:mM K H11 us (J2.map g6):=Paired.mapP hS fun _ _ r=>.inl (S611 _ _ r);obtain⟨s0,rest,es,ed⟩:∃(s0:Str) (rest:Zb),sg=s0::rest/\decide (V.str s0=V.str ("ask":Str))=a.isSome:=by
  cases a with
  |none=>exact⟨"hush",[],hask,by decide⟩
  |some w=>exact⟨"ask",[w],hask,zzr1 rfl⟩
 have g11':=g11;rw[es]at g11';refine⟨_,rfl,g,_,0,.str s0,rfl,rfl,aA.sq g11',aD (j:=0) rfl,rfl,.inr ⟨_,rfl,?_⟩⟩;rw[ed];have hp11:=hp5.ex S511;have T11:=T5.same S511;have ex011:b0 p H H11:=ex05.trs (ac.exBs S511);have main:∀(ol:Addr) (ss:Ze),H11 ol=some (.lst (ss.map V.ref))->ol≠p->mM K H11 ss (ca J2 a) ->
   (aq (aS (cw 1 [0,1,2,3] (c6 K V7) U0 (eQ) (aL (fz K w') (ap V1 (dL V2 (aL (mv K) (ap V2 (aM V3 V0))) (aw xo V4 (tC (.int 1))))))) U8)
   (aq (bZ (ba (aw mw (aw (bz K) V6 (tC (.int 0))) (tC (.str "ask")))) (aX (bf (ap (tC (.str "tell")) (ap (aw (bz K) V6 (tC (.int 1))) (ap (aw (cu K) V8 (tC (.int 0))) (ap (aL (eW K) (aM (aw (bz K) V1 (tC (.int 1))) (xk (nL K) V8 (fO (tC (.int 1))) (dI)))) be)))))) (bb))
   (aX (bf (ap (tC (.str "wait")) (ap (aL (eW K) (aM (aw (bz K) V1 (tC (.int 1))) V8)) (az (aw (cu K) V8 (Dr (rU fun i=>.int (-i)) (tC (.int 1))))))))))) (bx Q) [some (.ref p),some (.ref t),some (.ref fu),some (.int ((d+1:Nat))),some (.ref wl),x5,some (.ref g),some (.ref ol),none] H11:=by
  intro ol ss hol nol hSS;have zss:ss.length=J2.length+1:=by rw[Paired.length hSS,jB]
  refine⟨_,rfl,ol,rfl,⟨_,ay.of hol⟩,fun cl hcl=>?_⟩;have ncp:cl≠p:=(hp11.nep hcl).symm;have ncc:cl≠c:=(hp11.nec hcl).symm
  let zI2:Nat->List V->Hp->Prop:=fun i us H'=>Dm fun(Ts:List Tr) (_:Unit)=>CL (H' cl=some (.lst us)) (fE K H' us (Tr.dts J2 Ts)) (Ts.length=i/\∀T∈Ts,T.wf J0 J2/\T.hgt<=d) (d_ H' p c) (∀b o,H11 b=some o->b≠p->H' b=some o)
  refine cP (xs:=ss.map V.ref) zI2 ⟨[],(),aa,.nil,⟨rfl,fun _ h=>(by cases h)⟩,hp11.upd ncp.symm ncc.symm,fun b o e _=>by rw[aj (ag e hcl)];exact e⟩ (fun i us H' _ zq=>by obtain⟨_,_,h',_,_,_,ex⟩:=zq;exact⟨h',ay.of (ex _ _ hol nol)⟩) ?_ ?_;rotate_left
  ·rintro i us' H12 y hy hi ⟨Ts,_,h12,hP,⟨zt,hT⟩,hp12,ex12⟩;obtain⟨su,hsu,rfl⟩:=bT hy;obtain⟨sgi,hsgi,hati⟩:=Paired.getL hSS hsu;have ex12:b0 p H11 H12:=ex12;have kt12:gE H11 H12:=by obtain⟨xs,hx⟩:=hp11.lst;exact ex12.kt hx
   have T12:=T11.ex hp11 ex12;have f12:H12 fu=some (.tup (J8.map V.str)):=(ex011.trs ex12) _ _ hf (fun z=>by obtain⟨xs,hx⟩:=hp.lst;rw[z,hx]at hf;cases hf);refine gN (kY ?_);refine⟨_,rfl,_,rfl,_,rfl,_,rfl,_,rfl,t,fu,su,l1,l2,l3,l4,ts,J0,J2,J4,J8,sgi,ds,rfl,T12,m,f12,aA.sq (aA.kt kt12 hati),hz,fun b H13 hb S13=>?_⟩;refine⟨_,rfl,_,_,rfl,rfl,p,c,t,l1,l2,l3,l4,b,ts,d,behF J4 ds J8 sgi,J0,J2,J4,ds,?_,by omega,hp12.ex S13,T12.same S13,m,hb,u6 (by omega) hz,fun v T H14 hv wT hgT hp14 ex14=>?_⟩
   ·show[V.ref p,V.ref t,V.ref b,V.int (((d+1:Nat):Int)-1)]=_;rw[show(((d+1:Nat):Int)-1)=(d:Nat) by omega]
   have ex1214:b0 p H12 H14:=(ac.exBs S13).trs ex14;have h14:=ex1214 _ _ h12 ncp;have kt1214:gE H12 H14:=by obtain⟨xs,hx⟩:=hp12.lst;exact ex1214.kt hx
   have kt:gE H14 (upd H14 cl (.lst (us'++[v]))):=eE h14;have zu:us'.length=i:=by rw[Paired.length hP,Tr.dts_map,ak,zt]
   have il:i<ss.length:=(bR.1 hsu).1;refine⟨h14,ao (by omega),n0 hi ⟨Ts++[T],(),aa,?_,⟨by rw[aH,zt];rfl,fun X hX=>?_⟩,hp14.upd ncp.symm ncc.symm,fun b o e nb=>by rw[aj (ag e hcl)];exact ex1214 _ _ (ex12 _ _ e nb) nb⟩⟩
   ·rw[Tr.dts_map,aG,<-Tr.dts_map];exact cf (fE.kt (fun b xs e=>kt _ _ (kt1214 _ _ e)) hP) (cy.kt kt _ _ hv)
   ·rcases bq.1 hX with hX|hX
    ·exact hT X hX
    ·rw[cc.1 hX];exact⟨wT,hgT⟩
  rintro us' H12 ⟨Ts,_,h12,hP,⟨zt,hT⟩,hp12,ex12⟩;have ex12:b0 p H11 H12:=ex12;rw[ak,zss]at zt;have zp:(Tr.dts J2 Ts).length=J2.length+1:=by rw[Tr.dts_map,ak,zt]
  have zv:us'.length=J2.length+1:=by rw[Paired.length hP,zp]
  have ex012:=ex011.trs ex12;have T12:=T11.ex hp11 ex12;have kt12:gE H11 H12:=by obtain⟨xs,hx⟩:=hp11.lst;exact ex12.kt hx
  have g12:aA K H12 g (sg.map V.str):=aA.kt kt12 g11;have k2:∀(v:V) (H':Hp),cy K H' (dO J2 a (Tr.dts J2 Ts)) v->d_ H' p c->b0 p H H'->Q v H':=fun v H' hv q1 q2=>k v (.nd a Ts) H' hv ⟨zt,ea,Tr.wfs_mem.2 fun T h=>(hT T h).1⟩ (Nat.succ_le_succ (sY fun T h=>(hT T h).2)) q1 q2;generalize Tr.dts J2 Ts=dp at hP zp k2;have g12':=g12;rw[es]at g12';refine⟨_,rfl,g,_,0,.str s0,rfl,rfl,aA.sq g12',aD (j:=0) rfl,rfl,_,rfl,?_⟩;rw[ed];cases a with
  |some w =>
   have hask:sg=gC w:=hask;rw[hask]at g12;refine bh ?_;obtain⟨v0,ev0⟩:∃v,us'[0]?=some v:=⟨_,bC (by omega)⟩;obtain⟨d1,ed1,hv0⟩:=Paired.getL hP ev0;refine⟨_,rfl,g,_,1,.str w,rfl,rfl,aA.sq g12,aD (j:=1) rfl,_,rfl,cl,_,0,v0,rfl,rfl,ay.of h12,aD (j:=0) ev0,_,rfl,t,_,1,.ref l2,rfl,rfl,bc.of T12.t,rfl,_,rfl,_,rfl,cl,_,rfl,ay.of h12,fun dl hdl=>?_⟩;rw[show fL us' (some 1) none=us'.drop 1 from pI _ 1];have S5:ac H12 (upd H12 dl (.lst (us'.drop 1))):=ac.new hdl;have dl5:upd H12 dl (.lst (us'.drop 1)) dl=some (.lst (us'.drop 1)):=aa;generalize upd H12 dl (.lst (us'.drop 1))=H13 at S5 dl5 ⊢;refine⟨l2,dl,J2,us'.drop 1,dp.drop 1,rfl,S5 _ _ T12.a2,dl5,Paired.dropP 1 (fE.kt (ac.kt S5) hP),by rw[cA];omega,z2,fun q xs H14 hq hxs S6=>⟨(by show 4<=ai;decide),fun r hr'=>?_⟩⟩;have S7:ac H14 (upd H14 r (.tup [.str "tell",.str w,v0,.ref q])):=ac.new hr';have S47:=S5.trans (S6.trans S7);exact k2 _ _ (xF aa (S7 _ _ hq) ed1 (cy.kt (ac.kt S47) _ _ hv0) (fE.kt (ac.kt S7) hxs) zp) (hp12.ex S47) (ex012.trs (ac.exBs S47))
  |none =>
   refine aT ?_;obtain⟨v0,ev0⟩:∃v,us'[J2.length]?=some v:=⟨_,bC (by omega)⟩;obtain⟨d1,ed1,hv0⟩:=Paired.getL hP ev0;refine⟨_,rfl,t,_,1,.ref l2,rfl,rfl,bc.of T12.t,rfl,_,rfl,l2,cl,J2,us',dp,rfl,T12.a2,h12,hP,by omega,z2,fun q xs H14 hq hxs S6=>?_⟩;refine⟨_,rfl,_,rfl,cl,_,-1,v0,rfl,rfl,ay.of (S6 _ _ h12),yb zv.symm ev0,(by show 3<=ai;decide),fun r hr'=>?_⟩;have S7:ac H14 (upd H14 r (.tup [.str "wait",.ref q,v0])):=ac.new hr';have S37:=S6.trans S7;exact k2 _ _ (xE aa (S7 _ _ hq) ed1 (cy.kt (ac.kt S37) _ _ hv0) (fE.kt (ac.kt S7) hxs)) (hp12.ex S37) (ex012.trs (ac.exBs S37))
 have np2:o2≠p:=((hp5.ex (S6.trans S7)).nep ho2).symm;have np4:o4≠p:=((hp5.ex (S6.trans S69)).nep ho4).symm;cases a with
 |none =>
  have hask:sg=dR:=hask;rw[hask]at g11;exact⟨o5,_,0,.ref o2,rfl,rfl,ay.of o511,rfl,main o2 (us++[g]) ((S9.trans (S10.trans S11)) _ _ o28) np2 (cf us11 g11)⟩
 |some w =>
  have hask:sg=gC w:=hask;rw[hask]at g11;exact⟨o5,_,1,.ref o4,rfl,rfl,ay.of o511,rfl,main o4 (g::us) (S11 _ _ o410) np4 (.cons g11 us11)⟩
def rV(K:Za)(sp_law_same:Sp):TS :=
 aq (bZ (tB (z5 V1)) (aX (z5 V0)) (bb))
 (aq (bZ (tB (dE (pb K) (aM V1 (tC (.ty "bool"))))) (aX (j4 (dE (pb K) (aM V0 (tC (.ty "bool")))) (aw (nM K) V0 V1))) (bb))
 (aq (bZ (tB (dE (pb K) (aM V1 (tC (.ty "str"))))) (aX (j4 (dE (pb K) (aM V0 (tC (.ty "str")))) (aw (nM K) V0 V1))) (bb))
 (aq (bZ (tB (dE (pb K) (aM V1 (tC (.ty "int"))))) (aX (j4 (dE (pb K) (aM V0 (tC (.ty "int")))) (j4 (Cm (dE (pb K) (aM V0 (tC (.ty "bool"))))) (aw (nM K) V0 V1)))) (bb))
 (aq (bZ (qg (tB (dE (pb K) (aM V1 (tC (.ty "tuple"))))) (uh (tB (dE (pb K) (aM V0 (tC (.ty "tuple"))))))) (aX (tC (.bl false))) (bb))
 (aq (bZ (zG (qg (tB (dE (pb K) (aM V1 (tC (.ty "list"))))) (uh (tB (dE (pb K) (aM V0 (tC (.ty "list"))))))) (ba (aw rNe (dE (d9 K) (az V0)) (dE (d9 K) (az V1))))) (aX (tC (.bl false))) (bb))
 (aX (dE (BM K) (ap (cw 2 [] (AK K (aM V0 V1)) (gS K 2 (a_ U0 (a_ U1 (gx)))) (eQ) (aL sp_law_same (aM V0 V1))) be))))))))
def tJ:List Str:=["found","due"]
def yq(K:Za)(sp_law_same:Sp)(sp_leaves:Sp)(sp_law_leaves:Sp):TS :=
 aq (aS (aL sp_law_leaves (dL V1 (bf (be)) (bY (be)))) U2)
 (aq (aS (aL sp_leaves (aM V0 V1)) U3)
 (aq (bZ (zG (uh (tB (aL sp_law_same (aM V3 V2)))) (ba (aw (Dw K) V2 (dE (Aj K) (az V2))))) (aX (tC (.bl false))) (bb))
 (aq (cY (vJ K "list" de (aw (bz K) (aw (cu K) V3 (tC (.int 0))) (tC (.int 1))) (az (bf (az (tC (.str "hush")))))))
 (aq (aS (bf (dL (bf (be)) (bY (be)) (tC (.str "end")))) (s_ V3 (Dr (rU fun i=>.int (-i)) (tC (.int 1))) lr))
 (aX (aL sp_law_same (aM (aL sp_leaves (ap V0 (az V1))) V2)))))))
def zA:List Str:=["model","trial","due","found"]
def Bw(K:Za)(sp_law_right:Sp)(sp_law_take:Sp)(sp_law_made:Sp)(sp_law_face_at:Sp)(sp_law_trial:Sp)(sp_law_machine:Sp)(sp_law_model:Sp)(sp_law_open:Sp):TS :=
 aq (aS (aL sp_law_open (az V0)) U1)
 (aq (aS (tC .non) U2)
 (aq (fQ (pC (az (tC (.int 4)))) U3 (aq (aS (aL sp_law_model (dL V1 (tC (.int 6)) (tC (.int 1)))) U4)
 (aq (aS (aL sp_law_machine (az V4)) U5)
 (aq (aS (aL sp_law_trial (ap V1 (dL V4 (tC (.int 4)) (bY (az (tC (.int 15))))))) U6)
 (aq (bZ (ba (aw mw (aL sp_law_take (aM V1 (tC (.int 3)))) (tC (.int 0)))) (aS (aL sp_law_made (ap V1 (ap V4 (ap (aL sp_law_face_at (aM V4 (bY (be)))) (az (tC (.int 3))))))) U6) (bb))
 (aq (bZ (tB (z5 V2)) (aS (bf (aM V5 V6)) U2) (bb))
 (bZ (uh (tB (aL sp_law_right (aM V5 V6)))) (aX (tC (.bl false))) (bb))))))))
 (aX (aL sp_law_right (aM (aw (bz K) V2 (tC (.int 0))) (aw (bz K) V2 (tC (.int 1))))))))
def yh:List Str:=["script","pen","first","turn","told","model","trial"]
def An:List Str:=["script"]
theorem zh{K:Za}{k:Nat}{fi:List Nat}{g:TG}{tc:TT}{te:TE}{σ:L2.St}{H1:Hp}{Q:Hp->Prop}{l a b:Addr}{xs ys:List V}(hxy:xs.length<=ys.length)(Pv:Nat->List V->Hp->Prop)(h0:Pv 0 [] (upd H1 l (.lst [])))
  (hl:∀i vs H,i<=xs.length->Pv i vs H->H l=some (.lst vs)/\bc K H a xs/\bc K H b ys) (hd:∀vs H,Pv xs.length vs H->Q H)
  (hs:∀i vs H x y p,xs[i]?=some x->ys[i]?=some y->i<xs.length->Pv i vs H->H p=none->g (.ref p) (cF k fi σ) (upd H p (.tup [x,y])) fun σ2 H4=>tc σ2 H4 fun b H5 =>
   if b=true then te σ2 H5 fun v H6=>H6 l=some (.lst vs)/\vs.length<ai/\∃m',m'<xs.length-i/\Wc xs.length Pv (i+1) m' (vs++[v]) (upd H6 l (.lst (vs++[v])))else ∃m',m'<xs.length-i/\Wc xs.length Pv (i+1) m' vs H5) :
  cG k fi σ (Ci K a b) g tc te H1 l Q:=by
 refine iz xs.length Pv h0 (fun i vs H hi p=>(hl i vs H hi p).1) (fun i vs H hi p=>?_) (fun vs H p=>?_) fun i vs H x H3 hi p y=>?_
 ·obtain⟨_,q1,q2⟩:=hl i vs H (cp hi) p;have hi2:i<ys.length:=by omega
  exact⟨xs,ys,xs[i],ys[i],q1,q2,by simp[hi],by simp[hi2]⟩
 ·obtain⟨_,q1,q2⟩:=hl _ vs H (ax _) p;exact⟨⟨xs,ys,q1,q2,.inl (ax _)⟩,hd vs H p⟩
 ·obtain⟨_,q1,q2⟩:=hl i vs H (cp hi) p;obtain⟨t,u,v,rfl,hn,hu,hv,rfl⟩:=y;exact hs i vs H u v t (hu xs q1) (hv ys q2) hi p hn
mutual
def DT.few:DT->Prop
 |.k _=>True
 |.t l=>l.length<=1000/\DT.fews l
 |.s l=>l.length<=1000/\DT.fews l
def DT.fews:List DT->Prop
 |[]=>True
 |a::r=>DT.few a/\DT.fews r
end
theorem uR:∀{l:List DT}{i:Nat}{d:DT},DT.fews l->l[i]?=some d->DT.few d
 |[],_,_,_,h=>by cases h
 |a::r,0,d,h,e=>by injection e with e;rw[<-e];exact h.1
 |a::r,i+1,d,h,e=>uR h.2 (by rw[List.getElem?_cons_succ]at e;exact e)
inductive db(K:Za)(n:Nat)(vs:List V)(H:Hp)(Q:VK)(E:XK):Prop
 |mk (x y:V) (d:DT):(vs=[x,y])->(f8 K H d x)->(f8 K H d y)->(d.depth<=n)->(DT.few d)->(∀H',ac H H'->Q (.bl true) H')->db K n vs H Q E
theorem pR:∀n:Nat,(n_ n true).all id=true
 |0=>rfl
 |n+1=>pR n
theorem Ab{α:Type}(a:α)(n:Nat):n_ n a++[a]=n_ (n+1) a:=by
 rw[List.replicate_succ']
theorem qF{K:Za}{n:Nat}{H:Hp}{f b l:Addr}{xs ys:List V}{ds:List DT}{σ:L2.St}{J:It}{Q:Hp->Prop}(hJ:(J=Ee K f b/\ay K H f xs/\ay K H b ys)∨(J=Ci K f b/\bc K H f xs/\bc K H b ys))(rx:DIns K H ds xs)(ry:DIns K H ds ys)(hd:DT.depths ds<=n)(hz:ds.length<=1000)(hf:DT.fews ds)(hl:H l=none)
  (k:∀H',ac H H'->H' l=some (.lst ((n_ ds.length true).map V.bl))->Q H') :
  cG 2 [] σ J (gS K 2 (a_ U0 (a_ U1 (gx)))) (eQ) (aL (db K n) (aM V0 V1)) H l Q:=by
 have lx:=DIns.len rx;have ly:=DIns.len ry
 let zI0:Nat->List V->Hp->Prop:=fun i us H'=>us=(n_ i true).map V.bl/\ac H H'/\H' l=some (.lst us)
 have fin:∀us H',zI0 xs.length us H'->Q H':=by
  rintro us H' ⟨rfl,S,h'⟩;rw[lx]at h';exact k H' S h'
 have step:∀i us H' x y p,xs[i]?=some x->ys[i]?=some y->i<xs.length->zI0 i us H'->H' p=none->(gS K 2 (a_ U0 (a_ U1 (gx)))) (.ref p) (cF 2 [] σ) (upd H' p (.tup [x,y])) fun σ2 H4=>(eQ) σ2 H4 fun b H5 =>
   if b=true then(aL (db K n) (aM V0 V1)) σ2 H5 fun v H6=>H6 l=some (.lst us)/\us.length<ai/\∃m',m'<xs.length-i/\Wc xs.length zI0 (i+1) m' (us++[v]) (upd H6 l (.lst (us++[v])))else ∃m',m'<xs.length-i/\Wc xs.length zI0 (i+1) m' us H5:=by
  rintro i us H1 x y p hx hy hi ⟨rfl,S,h1⟩ hp;have S1:ac H1 (upd H1 p (.tup [x,y])):=ac.new hp;have p1:upd H1 p (.tup [x,y]) p=some (.tup [x,y]):=aa;generalize upd H1 p (.tup [x,y])=H2 at S1 p1 ⊢;obtain⟨d,e1,dx⟩:=DIns.get rx hx;obtain⟨d',e2,dy⟩:=DIns.get ry hy;rw[e1]at e2;injection e2 with e2;rw[<-e2]at dy;refine⟨p,_,rfl,bc.of p1,rfl,_,_,rfl,_,_,rfl,rfl,kY ?_⟩;refine⟨_,rfl,_,rfl,x,y,d,rfl,f8.same (S.trans S1) dx,f8.same (S.trans S1) dy,pG hd e1,uR hf e1,fun H3 S3=>?_⟩;have S13:=S1.trans S3;refine⟨S13 _ _ h1,by rw[ak,List.length_replicate];exact ao (by omega),n0 hi ⟨by rw[<-Ab,aG];rfl,fun b o e=>?_,aa⟩⟩;rw[aj (ag e hl)];exact S13 _ _ (S _ _ e)
 have h0:zI0 0 [] (upd H l (.lst [])):=⟨rfl,ac.new hl,aa⟩;rcases hJ with⟨rfl,q1,q2⟩|⟨rfl,q1,q2⟩
 ·exact qX (xs:=xs) (ys:=ys) (by omega) zI0 h0 (fun i us H' _ zq=>by obtain⟨_,S,h'⟩:=zq;exact⟨h',ay.same S q1,ay.same S q2⟩) fin step
 ·exact zh (xs:=xs) (ys:=ys) (by omega) zI0 h0 (fun i us H' _ zq=>by obtain⟨_,S,h'⟩:=zq;exact⟨h',bc.same S q1,bc.same S q2⟩) fin step
theorem yI{K:Za}{n:Nat}(hn:n<=8){sp:Sp}(hsp:∀m,n=m+1->sp=db K m){vs:List V}{H:Hp}{Q:VK}{E:XK}(h:db K n vs H Q E):rV K sp (bx Q) (start tJ vs) H:=by
 obtain⟨x,y,d,rfl,hx,hy,zd,fw,k⟩:=h;have hx':=f8.kd hx;have hy':=f8.kd hy;refine⟨_,rfl,_,rfl,?_⟩;have ny:decide (y=V.non)=false:=by cases hy'<;>exact zzr0 nofun
 rw[ny];refine aT ?_;cases hy' with
 |int i =>
  cases hx';refine⟨_,rfl,.int i,"bool",_,false,rfl,.inl (ib.int i),rfl,_,rfl,aT ?_⟩;refine⟨_,rfl,.int i,"str",_,false,rfl,.inl (ib.int i),rfl,_,rfl,aT ?_⟩;refine⟨_,rfl,.int i,"int",_,true,rfl,.inl (ib.int i),rfl,_,rfl,bh ?_⟩;refine⟨_,rfl,.int i,"int",_,true,rfl,.inl (ib.int i),rfl,_,rfl,bh ?_⟩;refine⟨_,rfl,.int i,"bool",_,false,rfl,.inl (ib.int i),rfl,_,rfl,_,rfl,bh ?_⟩;refine⟨_,rfl,_,rfl,_,_,hx,hy,by omega,by omega,?_⟩;rw[zzr1 rfl];exact k H (ac.refl _)
 |str i =>
  cases hx';refine⟨_,rfl,.str i,"bool",_,false,rfl,.inl (ib.str i),rfl,_,rfl,aT ?_⟩;refine⟨_,rfl,.str i,"str",_,true,rfl,.inl (ib.str i),rfl,_,rfl,bh ?_⟩;refine⟨_,rfl,.str i,"str",_,true,rfl,.inl (ib.str i),rfl,_,rfl,bh ?_⟩;refine⟨_,rfl,_,rfl,_,_,hx,hy,by omega,by omega,?_⟩;rw[zzr1 rfl];exact k H (ac.refl _)
 |@tup b ys ds qy ry =>
  cases hx' with
  |@tup f xs _ qx rx =>
  have ty:De K H (.ref b) (.type "tuple"):=.inr (.inl ⟨_,_,rfl,rfl,qy⟩);have tx:De K H (.ref f) (.type "tuple"):=.inr (.inl ⟨_,_,rfl,rfl,qx⟩);obtain⟨m,rfl⟩:∃m,n=m+1:=⟨n-1,by have:=AX zd;omega⟩;obtain rfl:=hsp m rfl;refine⟨_,rfl,.ref b,"bool",_,false,rfl,ty,rfl,_,rfl,aT ?_⟩;refine⟨_,rfl,.ref b,"str",_,false,rfl,ty,rfl,_,rfl,aT ?_⟩;refine⟨_,rfl,.ref b,"int",_,false,rfl,ty,rfl,_,rfl,aT ?_⟩;refine⟨_,rfl,.ref b,"tuple",_,true,rfl,ty,rfl,_,rfl,bh ⟨_,rfl,.ref f,"tuple",_,true,rfl,tx,rfl,_,rfl,aT ?_⟩⟩;refine⟨_,rfl,.ref b,"list",_,false,rfl,ty,rfl,_,rfl,aT (aT ?_)⟩;refine⟨_,rfl,.inl ⟨f,_,rfl,.inr qx,_,rfl,.inl ⟨b,_,rfl,.inr qy,rfl,_,rfl,?_⟩⟩⟩;have hl:xs.length=ys.length:=by rw[DIns.len rx,DIns.len ry]
  have en:(!decide (V.int (xs.length:Nat)=V.int (ys.length:Nat)))=false:=by rw[zzr1 (by rw[hl])];rfl
  rw[en];refine aT ⟨_,rfl,_,rfl,f,b,rfl,.inr ⟨⟨_,qx⟩,⟨_,qy⟩,fun l hln=>?_⟩⟩;exact qF (.inr ⟨rfl,qx,qy⟩) rx ry (B6 zd) fw.1 fw.2 hln fun H' S h'=>⟨l,_,rfl,ay.of h',by rw[pR];exact k H' S⟩
 |@lst b ys ds qy ry =>
  cases hx' with
  |@lst f xs _ qx rx =>
  have ty:De K H (.ref b) (.type "list"):=.inr (.inr ⟨_,_,rfl,rfl,qy⟩);have tx:De K H (.ref f) (.type "list"):=.inr (.inr ⟨_,_,rfl,rfl,qx⟩);obtain⟨m,rfl⟩:∃m,n=m+1:=⟨n-1,by have:=AY zd;omega⟩;obtain rfl:=hsp m rfl;refine⟨_,rfl,.ref b,"bool",_,false,rfl,ty,rfl,_,rfl,aT ?_⟩;refine⟨_,rfl,.ref b,"str",_,false,rfl,ty,rfl,_,rfl,aT ?_⟩;refine⟨_,rfl,.ref b,"int",_,false,rfl,ty,rfl,_,rfl,aT ?_⟩;refine⟨_,rfl,.ref b,"tuple",_,false,rfl,ty,rfl,_,rfl,aT (aT ?_)⟩;refine⟨_,rfl,.ref b,"list",_,true,rfl,ty,rfl,_,rfl,bh ⟨_,rfl,.ref f,"list",_,true,rfl,tx,rfl,_,rfl,aT ?_⟩⟩;refine⟨_,rfl,.inl ⟨f,_,rfl,.inl qx,_,rfl,.inl ⟨b,_,rfl,.inl qy,rfl,_,rfl,?_⟩⟩⟩;have hl:xs.length=ys.length:=by rw[DIns.len rx,DIns.len ry]
  have en:(!decide (V.int (xs.length:Nat)=V.int (ys.length:Nat)))=false:=by rw[zzr1 (by rw[hl])];rfl
  rw[en];refine aT ⟨_,rfl,_,rfl,f,b,rfl,.inl ⟨⟨_,qx⟩,⟨_,qy⟩,fun l hln=>?_⟩⟩;exact qF (.inl ⟨rfl,qx,qy⟩) rx ry (B7 zd) fw.1 fw.2 hln fun H' S h'=>⟨l,_,rfl,ay.of h',by rw[pR];exact k H' S⟩
def ml(w:List Nat):List Int:=w.map fun(n:Nat)=>(n:Int)
def DK(x y:List Nat):Prop:=∃(p u v:List Nat) (a b:Nat),x=p++a::u/\y=p++b::v/\a<b
theorem DK.lex{x y:List Nat}(h:DK x y):HT.lexLt (ml y) (ml x)=false/\ml y≠ml x:=by
 obtain⟨p,u,v,a,b,rfl,rfl,ab⟩:=h
 induction p with
 |nil =>
  have ne:¬(b:Int)=(a:Int):=by omega
  refine⟨?_,fun z=>?_⟩
  ·show(if(b:Int)=(a:Int)then _ else decide ((b:Int)<(a:Int)))=false
   rw[if_neg ne];exact zzr0 (by omega)
  ·injection z with z;exact ne z
 |cons c p ih =>
  refine⟨?_,fun z=>?_⟩
  ·show(if(c:Int)=(c:Int)then HT.lexLt (ml (p++b::v)) (ml (p++a::u))else _)=false
   rw[if_pos rfl];exact ih.1
  ·injection z with _ z;exact ih.2 z
mutual
theorem xJ(J2:Zb):∀(t:Tr) (w:List Nat) (s:List Sg),∀e∈lF J2 w s t,∃u,e.way=w++u
 |.bl,w,s,e,he=>by rw[cc.1 he];exact⟨[],(dD _).symm⟩
 |.en,w,s,e,he=>by rw[cc.1 he];exact⟨[],(dD _).symm⟩
 |.nd a ps,w,s,e,he=>by
  obtain⟨j,u,_,h⟩:=lvEs_pre J2 ps w s _ 0 e he;exact⟨_,h⟩
theorem lvEs_pre(J2:Zb):∀(ps:List Tr) (w:List Nat) (s sgs:List Sg) (i:Nat),∀e∈lvEs J2 w s sgs i ps,∃(j:Nat) (u:List Nat),i<=j/\e.way=w++j::u
 |[],_,_,_,_,e,he=>by cases he
 |p::ps,w,s,sgs,i,e,he=>by
  rcases bq.1 he with he|he
  ·obtain⟨u,h⟩:=xJ J2 p (w++[i]) (s++sgs.take 1) e he;exact⟨i,u,ax _,by rw[h,cH];rfl⟩
  ·obtain⟨j,u,h1,h2⟩:=lvEs_pre J2 ps w s (sgs.drop 1) (i+1) e he;exact⟨j,u,Nat.le_of_succ_le h1,h2⟩
end
mutual
theorem uJ(J2:Zb):∀(t:Tr) (w:List Nat) (s:List Sg),(lF J2 w s t).Pairwise fun x y=>DK x.way y.way
 |.bl,w,s=>List.pairwise_singleton _ _
 |.en,w,s=>List.pairwise_singleton _ _
 |.nd a ps,w,s=>lvEs_rise J2 ps w s _ 0
theorem lvEs_rise(J2:Zb):∀(ps:List Tr) (w:List Nat) (s sgs:List Sg) (i:Nat),(lvEs J2 w s sgs i ps).Pairwise fun x y=>DK x.way y.way
 |[],_,_,_,_=>List.Pairwise.nil
 |p::ps,w,s,sgs,i=>by
  show(lF J2 _ _ p++lvEs J2 _ _ _ _ ps).Pairwise _;refine List.pairwise_append.2 ⟨uJ J2 p _ _,lvEs_rise J2 ps w s _ (i+1),fun x hx y hy=>?_⟩;obtain⟨u,h⟩:=xJ J2 p (w++[i]) (s++sgs.take 1) x hx;obtain⟨j,v,h1,h2⟩:=lvEs_pre J2 ps w s (sgs.drop 1) (i+1) y hy;exact⟨w,u,v,i,j,by rw[h,cH];rfl,h2,h1⟩
end
mutual
theorem AC{J0 J2:Zb}:∀(t:Tr) (w:List Nat) (s:List Sg),t.wf J0 J2->lF J2 w s t≠[]
 |.bl,w,s,_=>List.cons_ne_nil _ _
 |.en,w,s,_=>List.cons_ne_nil _ _
 |.nd a ps,w,s,h=>lvEs_ne ps w s _ 0 (by have:ps.length=J2.length+1:=h.1;omega) h.2.2
theorem lvEs_ne{J0 J2:Zb}:∀(ps:List Tr) (w:List Nat) (s sgs:List Sg) (i:Nat),0<ps.length->Tr.wfs J0 J2 ps->lvEs J2 w s sgs i ps≠[]
 |[],_,_,_,_,h,_=>absurd h (i9 0)
 |p::ps,w,s,sgs,i,_,h=>fun z=>AC p _ _ h.1 (List.append_eq_nil_iff.1 z).1
end
theorem Aa{L:List En}(h:L.Pairwise fun x y=>DK x.way y.way):HT.Rises (L.map fun e=>ml e.way):=by
 intro i x y hx hy;rw[ej]at hx hy;obtain⟨a,ha,rfl⟩:=Option.map_eq_some_iff.1 hx;obtain⟨b,hb,rfl⟩:=Option.map_eq_some_iff.1 hy;obtain⟨h1,e1⟩:=bR.1 ha;obtain⟨h2,e2⟩:=bR.1 hb;have:=List.pairwise_iff_getElem.1 h i (i+1) h1 h2 (wW i);rw[e1,e2]at this;exact this.lex
def lvR(e:En):List DT:=[.s (e.story.map gU),dv (Dk e)]
def mE(e:En):DT:=zP (ml e.way) (lvR e)
theorem uW{K:Za}{H:Hp}:∀w:List Nat,DIns K H ((ml w).map fun n=>DT.k (.inl n)) (nC w)
 |[]=>rfl
 |n::w=>⟨_,_,rfl,rfl,uW w⟩
theorem pH{K:Za}{H:Hp}:∀{gs:Ze}{s:List Sg},Paired (fun g sg=>aA K H g (sg.map V.str)) gs s->DIns K H (s.map gU) (gs.map V.ref)
 |_,_,.nil=>rfl
 |_,_,.cons h r=>⟨_,_,rfl,bI (aA.sq h),pH r⟩
theorem fV.dIn{K:Za}{H:Hp}{q:Addr}{e:En}(h:fV K H q e):f8 K H (mE e) (.ref q):=by
 obtain⟨wr,st,h1,h2,gs,h3,h4⟩:=h;exact⟨q,_,rfl,bc.of h1,_,_,rfl,⟨wr,_,rfl,bc.of h2,uW _⟩,_,_,rfl,⟨st,_,rfl,ay.of h3,pH h4⟩,_,_,rfl,rfl,rfl⟩
theorem ip{K:Za}{H:Hp}:∀{qs:Ze}{L:List En},Paired (fV K H) qs L->DIns K H (L.map mE) (qs.map V.ref)
 |_,_,.nil=>rfl
 |_,_,.cons h r=>⟨_,_,rfl,fV.dIn h,ip r⟩
theorem xU:∀l:List Int,DT.depths (l.map fun n=>DT.k (.inl n))=0
 |[]=>rfl
 |n::l=>by show max 0 (DT.depths _)=0;rw[xU l];rfl
theorem uV:∀s:List Sg,DT.depths (s.map gU)<=1
 |[]=>bN _
 |g::s=>by show max (gU g).depth (DT.depths _)<=1;rw[bO];exact Nat.max_le.2 ⟨ax _,uV s⟩
theorem AB(e:En):(mE e).depth<=3:=by
 show max (DT.depths ((ml e.way).map fun n=>DT.k (.inl n))+1) (max (DT.depths (e.story.map gU)+1) (max 0 0))+1<=3;rw[xU];have:=uV e.story;omega
theorem mC:∀L:List En,DT.depths (L.map mE)<=3
 |[]=>bN _
 |e::L=>Nat.max_le.2 ⟨AB e,mC L⟩
theorem lN{α:Type}{f:α->DT}:∀{l:List α},(∀x∈l,DT.few (f x))->DT.fews (l.map f)
 |[],_=>trivial
 |x::l,h=>⟨h x eR,lN fun y hy=>h y (fx _ hy)⟩
theorem C9{e:En}(h1:e.way.length<=1000)(h2:e.story.length<=1000)(h3:∀sg∈e.story,sg.length<=2):DT.few (mE e):=by
 refine⟨by show 3<=1000;decide,⟨?_,lN fun _ _=>trivial⟩,⟨by rw[ak];exact h2,lN fun sg hs=>⟨?_,lN fun _ _=>trivial⟩⟩,trivial,trivial⟩
 ·rw[ak];unfold ml;rw[ak];exact h1
 ·rw[ak];have:=h3 sg hs;omega
theorem vZ(J2:Zb)(a:Option Str):∀sg∈ca J2 a,sg.length<=2:=fun sg h=>by
 have h1:∀w:Str,(g6 w).length<=2:=fun w=>ax 2;cases a with
 |none =>
  rcases bq.1 (show sg∈J2.map g6++[dR]from h)with h|h
  ·obtain⟨w,_,rfl⟩:=bG.1 h;exact h1 w
  ·rw[cc.1 h];decide
 |some w =>
  rcases bS.1 (show sg∈gC w::J2.map g6 from h)with h|h
  ·rw[h];exact ax 2
  ·obtain⟨w,_,rfl⟩:=bG.1 h;exact h1 w
theorem BX{J2:Zb}{T:Tr}(hg:T.hgt<=4):DT.fews ((lF J2 [] [] T).map mE):=lN fun e he=>by
 obtain⟨h1,h2⟩:=mD (vZ J2) T [] [] (fun _ h=>(by cases h)) e he;rw[<-vW]at he;have h3:=pf J2 T [] [] e (ik.1 he).1;have:([]:List Nat).length=0:=rfl;have:([]:List Sg).length=0:=rfl;exact C9 (by omega) (by omega) h1
inductive eV(K:Za)(C:Addr)(vs:List V)(H:Hp)(Q:VK)(E:XK):Prop
 |mk (M:Addr) (v:V) (T:Tr) (J0 J2 J4:Zb) (ds:List aB):(vs=[.ref M,v])->(ck C H M J0 J2 J4 ds)->(cy K H (T.dt J2) v)->(T.wf J0 J2)->(T.hgt<=4)->(T.sz<=1000)->(∀H',ac H H'->Q (.bl true) H')->eV K C vs H Q E
theorem vM{K:Za}{C:Addr}{vs:List V}{H:Hp}{Q:VK}{E:XK}(h:eV K C vs H Q E):yq K (db K 4) (iF K C) (dP K 4) (bx Q) (start zA vs) H:=by
 obtain⟨M,v,T,J0,J2,J4,ds,rfl,MA,hv,wf,hg,zT,k⟩:=h;have z2:=MA.ok.says4;refine⟨_,rfl,(by show 0<=ai;decide),fun e1 he1=>⟨(by show 0<=ai;decide),fun e2 he2=>?_⟩⟩;have S1:ac H (upd (upd H e1 (.tup [])) e2 (.lst [])):=(ac.new he1).trans (ac.new he2);have e11:upd (upd H e1 (.tup [])) e2 (.lst []) e1=some (.tup (nC [])):=kp aa he2;have e21:upd (upd H e1 (.tup [])) e2 (.lst []) e2=some (.lst (([]:Ze).map V.ref)):=aa;generalize upd (upd H e1 (.tup [])) e2 (.lst [])=H1 at S1 e11 e21 ⊢;refine⟨v,e1,e2,T,[],[],J0,J2,rfl,hg,cy.kt (ac.kt S1) _ _ hv,wf,z2,zT,e11,⟨[],e21,.nil⟩,by show 0+_<=100;omega,by show 0+_<=100;omega,fun dl dq H2 hdl hD S2=>?_⟩;have S02:=S1.trans S2;refine⟨_,rfl,_,rfl,M,v,T,J0,J2,J4,ds,rfl,MA.same S02,cy.kt (ac.kt S02) _ _ hv,wf,zT,by omega,fun fl fq H3 hfl hfn hF S3=>?_⟩;have zl:(lF J2 [] [] T).length<=1000:=aW (xK J2 T [] []) zT;have few:=BX (J2:=J2) hg;have rise:=Aa (uJ J2 T [] []);have ne:=AC (J0:=J0) T ([]:List Nat) ([]:List Sg) wf;have hFD:∀{H4:Hp},ac H3 H4->f8 K H4 (.s ((lF J2 [] [] T).map mE)) (.ref fl):=fun S=>⟨fl,_,rfl,ay.of (S _ _ hfl),ip (Paired.mapP hF fun _ _ r=>fV.same (d6.trans S) r)⟩;have hDD:∀{H4:Hp},ac H2 H4->f8 K H4 (.s ((lF J2 [] [] T).map mE)) (.ref dl):=fun S=>⟨dl,_,rfl,ay.of (S _ _ hdl),ip (Paired.mapP hD fun _ _ r=>fV.same S r)⟩;have d4:(DT.s ((lF J2 [] [] T).map mE)).depth<=4:=Nat.succ_le_succ (mC _);have fw:DT.few (.s ((lF J2 [] [] T).map mE)):=⟨by rw[ak];exact zl,few⟩;refine⟨_,rfl,_,rfl,.ref fl,.ref dl,_,rfl,hFD (ac.refl _),hDD S3,d4,fw,fun H4 S4=>⟨_,rfl,aT ?_⟩⟩;have S24:=S3.trans S4;have ws:((lF J2 [] [] T).map fun e=>(ml e.way,lvR e)).map (fun w=>zP w.1 w.2)=(lF J2 [] [] T).map mE:=by rw[lW];rfl
 refine⟨_,rfl,_,rfl,dl,_,(lF J2 [] [] T).map fun e=>(ml e.way,lvR e),rfl,ay.of (S24 _ _ hdl),?_,?_,?_,?_,fun sl hsl=>?_⟩
 ·rw[ws];exact ip (Paired.mapP hD fun _ _ r=>fV.same S24 r)
 ·rw[ws];exact aW (mC _) (by decide)
 ·rw[lW];exact rise
 ·rw[ak,Paired.length hD];exact zl
 have S5:ac H4 (upd H4 sl (.lst (dq.map V.ref))):=ac.new hsl;have sl5:upd H4 sl (.lst (dq.map V.ref)) sl=some (.lst (dq.map V.ref)):=aa;generalize upd H4 sl (.lst (dq.map V.ref))=H5 at S5 sl5 ⊢;have S25:=S24.trans S5;have S35:=S4.trans S5;refine⟨_,.s ((lF J2 [] [] T).map mE),hDD S25,⟨sl,_,rfl,ay.of sl5,ip (Paired.mapP hD fun _ _ r=>fV.same S25 r)⟩,aW d4 (by decide),aW d4 (by decide),_,rfl,?_⟩;rw[zzr1 rfl];refine aT ?_;obtain⟨e,L',eL⟩:∃e L',lF J2 [] [] T=e::L':=by
  cases c:lF J2 [] [] T with
  |nil=>exact absurd c ne
  |cons e L'=>exact⟨e,L',rfl⟩
 obtain⟨q,fq',rfl,hq⟩:∃q fq',fq=q::fq'/\fV K (hidL H2 H3) q e:=by
  rw[eL]at hF;cases hF with
  |cons h r=>exact⟨_,_,rfl,h⟩
 obtain⟨wr,st,g1,g2,gs,g3,g4⟩:=hq;have zs:gs.length<=999:=by
  obtain⟨h1,h2⟩:=mD (P:=fun _=>True) (J2:=J2) (fun _ _ _=>trivial) T [] [] (fun _ h=>(by cases h)) e (by rw[eL];exact eR);have h3:=Paired.length g4;have:([]:List Sg).length=0:=rfl;omega
 have nst:H2 st=none:=AM S3 g3;have st5:H5 st=some (.lst (gs.map V.ref)):=S35 _ _ (d6 _ _ g3);have q5:=S35 _ _ (d6 _ _ g1);have fl5:=S35 _ _ hfl;refine⟨_,rfl,fl,_,0,.ref q,rfl,rfl,ay.of fl5,aD (j:=0) rfl,q,_,1,.ref st,rfl,rfl,bc.of q5,aD (j:=1) rfl,.inl ⟨rfl,_,ay.of st5⟩,(by show 1<=ai;decide),fun hp hhp=>?_⟩;have S6:ac H5 (upd H5 hp (.tup [.str "hush"])):=ac.new hhp;generalize upd H5 hp (.tup [.str "hush"])=H6 at S6 ⊢;have S26:=S25.trans S6;refine⟨st,_,_,rfl,rfl,S6 _ _ st5,by rw[ak];exact ao (by omega),?_⟩;obtain⟨xs7,fl7,z7⟩:∃xs,upd H6 st (.lst (gs.map V.ref++[.ref hp])) fl=some (.lst xs)/\0<xs.length:=by
  by_cases c:fl=st
  ·rw[c];exact⟨_,aa,by rw[aH];exact Nat.succ_pos _⟩
  ·rw[aj c];exact⟨_,S6 _ _ fl5,Nat.succ_pos _⟩
 have S27:ac H2 (upd H6 st (.lst (gs.map V.ref++[.ref hp]))):=fun b o q=>by rw[aj (ag q nst)];exact S26 _ _ q
 generalize upd H6 st (.lst (gs.map V.ref++[.ref hp]))=H7 at fl7 S27 ⊢;refine⟨(by show 0<=ai;decide),fun p1 hp1=>⟨(by show 0<=ai;decide),fun p2 hp2=>⟨(by show 3<=ai;decide),fun p3 hp3=>?_⟩⟩⟩;have S8:ac H7 (upd (upd (upd H7 p1 (.tup [])) p2 (.lst [])) p3 (.tup [.ref p1,.ref p2,.str "end"])):=(ac.new hp1).trans ((ac.new hp2).trans (ac.new hp3));generalize upd (upd (upd H7 p1 (.tup [])) p2 (.lst [])) p3 (.tup [.ref p1,.ref p2,.str "end"])=H8 at S8 ⊢;have ix:zH xs7.length (-1)=some (xs7.length-1):=by
  unfold zH;rw[if_neg (by decide),if_pos (by omega)];congr 1;omega
 refine⟨_,rfl,_,rfl,fl,xs7,-1,_,rfl,rfl,S8 _ _ fl7,ix,?_⟩;have S29:ac H2 (upd H8 fl (.lst (xs7.set (xs7.length-1) (.ref p3)))):=fun b o q=>by rw[aj (ag q hfn)];exact S8 _ _ (S27 _ _ q)
 generalize upd H8 fl (.lst (xs7.set (xs7.length-1) (.ref p3)))=H9 at S29 ⊢;have S09:=S02.trans S29;refine⟨_,rfl,_,rfl,M,v,T,J0,J2,J4,ds,rfl,MA.same S09,cy.kt (ac.kt S09) _ _ hv,wf,zT,by omega,fun l2 q2 H10 hl2 _ hP2 S10=>?_⟩;exact⟨_,rfl,.ref l2,.ref dl,.s ((lF J2 [] [] T).map mE),rfl,⟨l2,_,rfl,ay.of hl2,ip (Paired.mapP hP2 fun _ _ r=>fV.same d6 r)⟩,hDD (S29.trans S10),d4,fw,fun H' S'=>k H' (S09.trans (S10.trans S'))⟩
inductive CM(K:Za)(C:Addr)(H:Hp)(M:Addr)(v:V):Prop
 |mk (T:Tr) (J0 J2 J4:Zb) (ds:List aB):(ck C H M J0 J2 J4 ds)->(cy K H (T.dt J2) v)->(T.wf J0 J2)->(T.hgt<=4)->CM K C H M v
theorem CM.same{K:Za}{C M:Addr}{H H':Hp}{v:V}(S:ac H H')(h:CM K C H M v):CM K C H' M v:=by
 obtain⟨T,J0,J2,J4,ds,h1,h2,h3,h4⟩:=h;exact⟨T,J0,J2,J4,ds,h1.same S,cy.kt (ac.kt S) _ _ h2,h3,h4⟩
inductive vg(K:Za)(C:Addr)(H:Hp)(x:V):Prop
 |mk (f M:Addr) (v:V):(x=.ref f)->(H f=some (.tup [.ref M,v]))->(CM K C H M v)->vg K C H x
theorem vg.same{K:Za}{C:Addr}{H H':Hp}{x:V}(S:ac H H')(h:vg K C H x):vg K C H' x:=by
 obtain⟨f,M,v,e,h1,h2⟩:=h;exact⟨f,M,v,e,S _ _ h1,h2.same S⟩
theorem vg.ex{K:Za}{C p c:Addr}{H H':Hp}{x:V}(hp:d_ H p c)(ex:b0 p H H')(h:vg K C H x):vg K C H' x:=by
 obtain⟨f,M,v,e,h1,T,J0,J2,J4,ds,g1,g2,g3,g4⟩:=h;have kt:gE H H':=by obtain⟨ys,hy⟩:=hp.lst;exact ex.kt hy
 exact⟨f,M,v,e,kt _ _ h1,T,J0,J2,J4,ds,g1.ex hp ex,cy.kt kt _ _ g2,g3,g4⟩
theorem CM.right{K:Za}{C M:Addr}{H:Hp}{v:V}{Q:VK}{E:XK}(h:CM K C H M v)(k:∀H',ac H H'->Q (.bl true) H'):eV K C [.ref M,v] H Q E:=by
 obtain⟨T,J0,J2,J4,ds,h1,h2,h3,h4⟩:=h;have sz:=uz h1.ok.says4 4 T ([]:List Nat) ([]:List Sg) h3 h4;rw[sG]at sz;have s4:Cp 4=781:=rfl;exact⟨M,v,T,J0,J2,J4,ds,rfl,h1,h2,h3,h4,by omega,k⟩
theorem zW{K:Za}{C M:Addr}{D:mU}{x0 x1 x3 x4:Option V}{x2 v:V}{H:Hp}(hx:x2=.non∨vg K C H x2)(hm:CM K C H M v)(k:∀(x:V) (H':Hp),vg K C H' x->ac H H'->D.nx [x0,x1,some x,x3,x4,some (.ref M),some v] H'):
  (aq (bZ (tB (z5 V2)) (aS (bf (aM V5 V6)) U2) (bb))
   (bZ (uh (tB (aL (eV K C) (aM V5 V6)))) (aX (tC (.bl false))) (bb))) D [x0,x1,some x2,x3,x4,some (.ref M),some v] H:=by
 rcases hx with rfl|hx
 ·refine⟨_,rfl,_,rfl,bh ⟨_,rfl,_,rfl,(by show 2<=ai;decide),fun f hf=>?_⟩⟩;have S:ac H (upd H f (.tup [.ref M,v])):=ac.new hf;refine⟨_,rfl,_,rfl,(hm.same S).right fun H' S'=>⟨_,rfl,aT ?_⟩⟩;exact k _ H' ((⟨f,M,v,rfl,aa,hm.same S⟩:vg K C _ _).same S') (S.trans S')
 ·have nx:decide (x2=V.non)=false:=by obtain⟨f,M,v,rfl,_,_⟩:=hx;exact zzr0 nofun
  refine⟨_,rfl,_,rfl,?_⟩;rw[nx];refine aT ⟨_,rfl,_,rfl,hm.right fun H' S'=>⟨_,rfl,aT ?_⟩⟩;exact k _ H' (hx.same S') S'
inductive sp_law30(K:Za)(vs:List V)(H:Hp)(Q:VK)(E:XK):Prop
 |mk (a:Addr) (ns:List Int):(vs=[.ref a])->(ay K H a (ns.map V.int))->(ns.length<=63)->(∀H',Q (.bl true) H')->sp_law30 K vs H Q E
theorem Af{K:Za}{C:Addr}{vs:List V}{H:Hp}{Q:VK}{E:XK}(h:sp_law30 K vs H Q E):Bw K (eV K C) da (fz K 4) (jA K) (dY K 4) (iE C) lc (nU K) (bx Q) (start yh vs) H:=by
 obtain⟨a,ns,rfl,hs,hn,k⟩:=h;refine⟨_,rfl,a,ns,rfl,hs,hn,fun p c H1 _ hp1 S1=>?_⟩;refine⟨4,rfl,by decide,by decide,?_⟩
 let zI1:Nat->L2.St->Hp->Prop:=fun i σ H'=>NE6 fun(x2:V) (x3 x4 x5 x6:Option V) (_:Unit)=>NA3 (σ=[some (.ref a),some (.ref p),some x2,x3,x4,x5,x6]) (d_ H' p c) ((i=0/\x2=.non)∨vg K C H' x2)
 refine jG (lo:=0) (n:=Int.toNat 4) zI1 ⟨_,_,_,_,_,(),rfl,hp1,.inl ⟨rfl,rfl⟩⟩ ?_ ?_;rotate_left
 ·rintro σ G ⟨x2,x3,x4,x5,x6,_,rfl,_,hf⟩;rcases hf with⟨z,_⟩|⟨f,M,v,rfl,hf,hm⟩
  ·exact absurd z (by decide)
  exact⟨_,rfl,f,_,0,_,rfl,rfl,bc.of hf,aD (j:=0) rfl,_,rfl,f,_,1,_,rfl,rfl,bc.of hf,aD (j:=1) rfl,hm.right fun H' _=>k H'⟩
 rintro i σ H2 hi ⟨x2,x3,x4,x5,x6,_,rfl,hp2,hf2⟩;have hf2:x2=.non∨vg K C H2 x2:=hf2.imp (fun z=>z.2) id;refine⟨_,rfl,p,c,6,1,rfl,hp2,by decide,by decide,by decide,by decide,fun t l1 l2 l3 l4 ts J0 J2 J4 ds H3 T3 m hrl few hp3 ex3=>?_⟩;have hf3:x2=.non∨vg K C H3 x2:=hf2.imp id fun z=>z.ex hp2 ex3;refine⟨_,rfl,t,l1,l2,l3,l4,ts,J0,J2,J4,ds,rfl,T3,m,fun M H4 M4 S4=>?_⟩;have hp4:=hp3.ex S4;have T4:=T3.same S4;have hf4:x2=.non∨vg K C H4 x2:=hf3.imp id fun z=>z.same S4;refine⟨_,rfl,_,rfl,(by show 1<=ai;decide),fun lf hlf=>?_⟩;have nfp:lf≠p:=(hp4.nep hlf).symm;have nfc:lf≠c:=(hp4.nec hlf).symm;have T5:iA (fJ (upd H4 lf (.lst [.int 15])) lf) t l1 l2 l3 l4 ts J0 J2 J4 ds:=by rw[pD hlf];exact T4
 have M5:ck C (fJ (upd H4 lf (.lst [.int 15])) lf) M J0 J2 J4 ds:=by rw[pD hlf];exact M4
 have hf5:x2=.non∨vg K C (fJ (upd H4 lf (.lst [.int 15])) lf) x2:=by rw[pD hlf];exact hf4
 have hp5:d_ (upd H4 lf (.lst [.int 15])) p c:=hp4.upd nfp.symm nfc.symm;have lf5:upd H4 lf (.lst [.int 15]) lf=some (.lst [.int 15]):=aa;show dY K 4 [.ref p,.ref t,.int 4,.ref lf] (upd H4 lf (.lst [.int 15])) _ _;generalize upd H4 lf (.lst [.int 15])=H5 at T5 M5 hf5 hp5 lf5 ⊢;refine⟨p,c,t,l1,l2,l3,l4,lf,ts,4,15,J0,J2,J4,ds,rfl,by decide,hp5,nfp,nfc,T5,m,lf5,fun v1 X1 n' H6 hv1 wf1 hg1 hp6 lf6 ex6=>?_⟩;have hp5':=hp5.hid2 nfp.symm nfc.symm;have T6:iA H6 t l1 l2 l3 l4 ts J0 J2 J4 ds:=(T5.ex hp5' ex6.hid).same df;have M6:ck C H6 M J0 J2 J4 ds:=(M5.ex hp5' ex6.hid).same df;have hf6:x2=.non∨vg K C H6 x2:=hf5.imp id fun z=>(z.ex hp5' ex6.hid).same df;refine⟨_,rfl,eU hp6 (by decide) (by decide) fun r H7 _ _ hp7 ex7=>⟨rfl,_,rfl,?_⟩⟩;have T7:=T6.ex hp6 ex7;have M7:=M6.ex hp6 ex7;have hf7:x2=.non∨vg K C H7 x2:=hf6.imp id fun z=>z.ex hp6 ex7;by_cases cr:(r:Int)=0
 ·rw[zzr1 (by rw[cr])];refine bh ⟨_,rfl,_,rfl,_,rfl,(by show 0<=ai;decide),fun el hel=>?_⟩;have S8:ac H7 (upd H7 el (.lst [])):=ac.new hel;have el8:upd H7 el (.lst []) el=some (.lst (([]:Ze).map V.ref)):=aa;generalize upd H7 el (.lst [])=H8 at S8 el8 ⊢;refine⟨t,el,l1,l2,l3,l4,ts,[],[],J0,J2,J4,ds,rfl,T7.same S8,m,el8,.nil,fun fu H9 hfu S9=>?_⟩;have S79:=S8.trans S9;have hp9:=hp7.ex S79;have flF:(faceOf J4 ds []).length<=1000:=aW mK (by have:J4.length<=6:=hrl;omega);refine⟨p,c,t,l1,l2,l3,l4,fu,ts,3,faceOf J4 ds [],J0,J2,J4,ds,rfl,by decide,hp9,T7.same S79,m,hfu,flF,fun v2 X2 H10 hv2 wf2 hg2 hp10 ex10=>?_⟩;refine zW (hf7.imp id fun z=>(z.same S79).ex hp9 ex10) ⟨X2,J0,J2,J4,ds,(M7.same S79).ex hp9 ex10,hv2,wf2,by omega⟩ fun x H' hx S'=>⟨_,_,_,_,_,(),rfl,hp10.ex S',.inr hx⟩
 ·rw[zzr0 (by intro z;injection z with z;exact cr z)];have kt7:gE H6 H7:=by obtain⟨ys,hy⟩:=hp6.lst;exact ex7.kt hy
  refine aT (zW hf7 ⟨X1,J0,J2,J4,ds,M7,cy.kt kt7 _ _ hv1,wf1,hg1⟩ fun x H' hx S'=>⟨_,_,_,_,_,(),rfl,hp7.ex S',.inr hx⟩)
def fN(i:Nat):Stmt:=PySem.Challenge.pw_mumtrial_k30_leaves.main.body.getD i (.Pass ⟨0,0,0,0⟩)
local macro_rules | `(tactic| walk_at "s")=>`(tactic| exact⟨rfl,rfl,rfl,by decide +kernel,rfl,by decide +kernel,by decide +kernel⟩)
local macro_rules | `(tactic| walk_at "l")=>`(tactic| (intro _ _ _ _ h;first|exact len_h h|exact len_g h|(cases h;subst_vars;rfl)|(obtain⟨_,_,h,_⟩:=h;subst h;rfl)|((repeat obtain⟨_,h⟩:=h);subst_vars;rfl)))
theorem zzlS{us:List Value}{n:Nat}(h:us.length=n+1):∃ a t,us=a::t∧t.length=n:=by
  cases us with
  |nil=>cases h
  |cons a t=>exact⟨a,t,rfl,Nat.succ.inj h⟩
local macro_rules | `(tactic| walk_at "b")=>`(tactic| (intro _ _ _ _ _ _ us hl;(repeat (have h:=zzlS hl;clear hl;obtain⟨_,_,e,hl⟩:=h;subst e));cases List.eq_nil_of_length_eq_zero hl;rfl))
def DR(K:Za)(x qual:Str)(st:Stmt)(f:Addr):Prop:=∃(oc:Value) (od an:Option Addr) (sl:Array (Option Value)) (kV dc pm cd ct:Value),
 K.lookup f=some ⟨oc,od,.func (gh x qual (fT st) (eG st) (bv st) .none kV dc pm an cd ct),sl⟩/\kg K cd qual=true/\ig K (.ref f)=true
theorem AT{K:Za}{x qual:Str}{st:Stmt}{f:Addr}{oc:Value}{od an:Option Addr}{sl:Array (Option Value)}{kV dc pm cd ct:Value}(l:K.lookup f=some ⟨oc,od,.func (gh x qual (fT st) (eG st) (bv st) .none kV dc pm an cd ct),sl⟩)
  (c:kg K cd qual=true) (k:ig K (.ref f)=true):DR K x qual st f:=⟨oc,od,an,sl,kV,dc,pm,cd,ct,l,c,k⟩
def gF(K:Za)(x:Str)(st:Stmt):Prop:=∃f,bw K bj x=some (some (.ref f))/\DR K x x st f
theorem fnG_mk{K:Za}{x:Str}{st:Stmt}{f:Addr}{oc:Value}{od an:Option Addr}{sl:Array (Option Value)}{kV dc pm cd ct:Value}(a:bw K bj x=some (some (.ref f)))(l:K.lookup f=some ⟨oc,od,.func (gh x x (fT st) (eG st) (bv st) .none kV dc pm an cd ct),sl⟩)
  (c:kg K cd x=true) (k:ig K (.ref f)=true):gF K x st:=⟨f,a,AT l c k⟩
def Dp(K:Za)(C:Addr)(m qual:Str)(st:Stmt):Prop:=∃f,dA K (.ref C) m=some (some (.ref f))/\tW K (.ref f)=true/\DR K m qual st f
theorem fnM_mk{K:Za}{C:Addr}{m qual:Str}{st:Stmt}{f:Addr}{oc:Value}{od an:Option Addr}{sl:Array (Option Value)}{kV dc pm cd ct:Value}(a:dA K (.ref C) m=some (some (.ref f)))(i:tW K (.ref f)=true)
  (l:K.lookup f=some ⟨oc,od,.func (gh m qual (fT st) (eG st) (bv st) .none kV dc pm an cd ct),sl⟩) (c:kg K cd qual=true) (k:ig K (.ref f)=true):Dp K C m qual st:=⟨f,a,i,AT l c k⟩
theorem DR.fun_{K:Za}{x qual:Str}{st:Stmt}{f:Addr}(T:DR K x qual st f):∃fd,Do K x qual st f fd:=by
 obtain⟨oc,od,an,sl,kV,dc,pm,cd,ct,l,c,k⟩:=T;exact⟨_,AS (st:=st) l c k⟩
def z8:Sp:=fun _ _ _ _=>False
theorem xD{P:bt}{w:World}{K:Za}{mg:Str->Option Value}{base:Heap}{k:Nat}{f:Addr}{fd:iZ}{ps:Zb}:jZ P w K mg base CX0 k f fd ps z8:=⟨fun _ _ _ _ h=>h.elim,fun _ _ _ _ _ _ _ _ _ _ _ _ _ h=>h.elim⟩
def Bf(K:Za)(a:Addr)(ws:Zb):Prop:=∀H,bc K H a (ws.map V.str)
theorem nR{K:Za}{a:Addr}{ws:Zb}{o:Obj}{its:Array Value}{n:Nat}(l:K.lookup a=some o)(c:o.cls=.type "tuple")(d:o.data=.seq its n)(z:its.size<=ai)(v:aV (ws.map V.str) its.toList):Bf K a ws :=
 fun _=>.inr ⟨o,its,n,l,c,d,z,v⟩
section
variable{P:bt}{w:World}{K:Za}{mg:Str->Option Value}{base h:Heap}{C:Addr}{x qual:Str}{st:Stmt}{N ps:Zb}{k:Nat}{sp:Sp}
abbrev Bk(ps:Zb)(sp:Sp):Prop:=∀vs H Q E,sp vs H Q E->vs.length=ps.length
abbrev BodyOk(CX:zL)(P:bt)(w:World)(K:Za)(mg:Str->Option Value)(base:Heap)(qual:Str)(st:Stmt)(N:Zb)(k:Nat)(sp:Sp)(nox:Cx->Cx):Prop:=N.Nodup->∀(f:Addr) (cdv:Value) (A:Around) (outer:List Env) (s:Shared) (H:Hp) (vs:List V) (Q:VK) (E:XK),dS k (A.deeper (envOfC qual (bv st) s.heap.objs.size f cdv))->(A.deeper (envOfC qual (bv st) s.heap.objs.size f cdv)).units+16<cLine->sp vs H Q E ->
 ∃t,vk (nox (wA CX P w K mg base N qual (bv st) f cdv A outer s H E)) (eG st) t/\t (bx Q) (start N vs) H
abbrev wQ(x qual:Str)(st:Stmt)(ps:Zb):Prop:=∀(kV doc pm:Value) (an:Option Addr) (cdv ct:Value) (us:Zf),us.length=ps.length->bindArgs (gh x qual (fT st) (eG st) (bv st) .none kV doc pm an cdv ct) ⟨us,[]⟩=pure (ps.zip us)
theorem dG(X:K.In h)(G:h.Ns bj mg)(T:gF K x st)(b:BodyOk CX0 P w K mg base x st N k sp Cx.nox)(bi:wQ x x st ps)(S:iU N ps (bv st):=by walk_at "s")(l:Bk ps sp:=by walk_at "l"):eK P w K mg base x ps (k+1) sp:=by
 obtain⟨f,a,t⟩:=T;obtain⟨fd,F⟩:=t.fun_;exact⟨f,fd,F.ok S l fun cdv A outer s H vs Q E hr h=>b S.nd f cdv A outer s H vs Q E hr (xO hr) h,cQ X G a,F.kp,F.binds bi⟩
theorem dM(cl:zK K C)(T:Dp K C x qual st)(b:BodyOk CX0 P w K mg base qual st N k sp Cx.nox)(bi:wQ x qual st ps)(S:iU N ps (bv st):=by walk_at "s")(l:Bk ps sp:=by walk_at "l"):DP P w K mg base C x ps (k+1) sp:=by
 obtain⟨f,a,i,t⟩:=T;obtain⟨fd,F⟩:=t.fun_;exact⟨f,fd,F.ok S l fun cdv A outer s H vs Q E hr h=>b S.nd f cdv A outer s H vs Q E hr (xO hr) h,cl,⟨a,i,F.kp⟩,F.binds bi⟩
theorem dN{y:Str}(cm:mg y=some (.ref C))(mk:tU K C=true)(kc:ig K (.ref C)=true)(T:Dp K C "__init__" qual st)(b:BodyOk CX0 P w K mg base qual st N k sp Cx.nox)(bi:wQ "__init__" qual st ps)(S:iU N ps (bv st):=by walk_at "s")(l:Bk ps sp:=by walk_at "l"):New P w K mg base y C ps (k+1) sp:=by
 obtain⟨f,a,i,t⟩:=T;obtain⟨fd,F⟩:=t.fun_;exact⟨f,fd,F.ok S l fun cdv A outer s H vs Q E hr h=>b S.nd f cdv A outer s H vs Q E hr (xO hr) h,cm,⟨mk,a,i,kc⟩,F.binds bi⟩
end
structure Zs(mg:Str->Option Value):Prop where
 all:mg "all"=none
 bool:mg "bool"=none
 dict:mg "dict"=none
 enumerate:mg "enumerate"=none
 int:mg "int"=none
 isinstance:mg "isinstance"=none
 len:mg "len"=none
 list:mg "list"=none
 range:mg "range"=none
 reversed:mg "reversed"=none
 sorted:mg "sorted"=none
 str:mg "str"=none
 tuple:mg "tuple"=none
 zip:mg "zip"=none
structure Cs(K:Za)(mg:Str->Option Value)(C a_STILL a_HUSH a_BLAME a_END:Addr):Prop where
 LETTERS:Gc mg "LETTERS" (.str "abcdefghijklmnopqrstuvwxyz")
 LONGEST_NAME:Gc mg "LONGEST_NAME" (.int 8)
 MOST_WORDS:Gc mg "MOST_WORDS" (.int 4)
 MOST_ROOMS:Gc mg "MOST_ROOMS" (.int 150)
 MOST_DOORS:Gc mg "MOST_DOORS" (.int 2000)
 MOST_WITHIN:Gc mg "MOST_WITHIN" (.int 8)
 MOST_TRIALS:Gc mg "MOST_TRIALS" (.int 1000)
 STILL:Gc mg "STILL" (.ref a_STILL)
 HUSH:Gc mg "HUSH" (.ref a_HUSH)
 BLAME:Gc mg "BLAME" (.ref a_BLAME)
 END:Gc mg "END" (.ref a_END)
 still:Bf K a_STILL aY
 hush:Bf K a_HUSH dR
 blm:Bf K a_BLAME fU
 enD:Bf K a_END iw
 mc:MC K C
 cm:mg "Machine"=some (.ref C)
 makes:tU K C=true
 kc:ig K (.ref C)=true
structure Ts(K:Za)(C:Addr):Prop where
 f_law_spread:gF K "_law_spread" (fN 42)
 f_law_open:gF K "_law_open" (fN 43)
 f_law_anew:gF K "_law_anew" (fN 44)
 f_law_take:gF K "_law_take" (fN 45)
 f_law_names:gF K "_law_names" (fN 46)
 f_law_put:gF K "_law_put" (fN 48)
 f_law_draw_doors:gF K "_law_draw_doors" (fN 49)
 f_law_model:gF K "_law_model" (fN 50)
 f_is_name:gF K "is_name" (fN 13)
 f_as_keys:gF K "as_keys" (fN 14)
 f_first_wrong_name:gF K "first_wrong_name" (fN 15)
 f_door_signs:gF K "door_signs" (fN 16)
 f_first_wrong_door:gF K "first_wrong_door" (fN 17)
 f_goals_by_start_and_sign:gF K "goals_by_start_and_sign" (fN 18)
 f_led_by_still:gF K "led_by_still" (fN 19)
 f_first_led_round:gF K "first_led_round" (fN 20)
 f_need_none:gF K "need_none" (fN 21)
 f_need_parts:gF K "need_parts" (fN 22)
 f_doors_by_start:gF K "doors_by_start" (fN 23)
 f_has_asks_alone:gF K "has_asks_alone" (fN 24)
 f_Machine___init__:Dp K C "__init__" "Machine.__init__" (sU (fN 25) 0)
 f_law_machine:gF K "_law_machine" (fN 62)
 f_law_still_on:gF K "_law_still_on" (fN 47)
 f_Machine_asks:Dp K C "asks" "Machine.asks" (sU (fN 25) 1)
 f_Machine_says:Dp K C "says" "Machine.says" (sU (fN 25) 2)
 f_is_tell:gF K "is_tell" (fN 31)
 f_is_wait:gF K "is_wait" (fN 32)
 f_says_and_parts:gF K "says_and_parts" (fN 33)
 f_signed_parts:gF K "signed_parts" (fN 34)
 f_parts_behind:gF K "parts_behind" (fN 35)
 f_with_ways:gF K "with_ways" (fN 36)
 f_has_says_in_order:gF K "has_says_in_order" (fN 37)
 f_is_so_by_itself:gF K "is_so_by_itself" (fN 38)
 f_checked_with_ways:gF K "checked_with_ways" (fN 39)
 f_leaves:gF K "leaves" (fN 40)
 f_law_quiet:gF K "_law_quiet" (fN 52)
 f_law_in_order:gF K "_law_in_order" (fN 53)
 f_law_face_on:gF K "_law_face_on" (fN 54)
 f_law_face_at:gF K "_law_face_at" (fN 55)
 f_law_inner:gF K "_law_inner" (fN 56)
 f_law_signs:gF K "_law_signs" (fN 57)
 f_law_leaves:gF K "_law_leaves" (fN 58)
 f_law_pairs:gF K "_law_pairs" (fN 59)
 f_law_trial:gF K "_law_trial" (fN 60)
 f_law_made:gF K "_law_made" (fN 61)
 f_law_same:gF K "_law_same" (fN 51)
 f_law_right:gF K "_law_right" (fN 63)
 f_law30:gF K "law" (fN 64)
section
variable{P:bt}{w:World}{K:Za}{mg:Str->Option Value}{base h:Heap}{C a_STILL a_HUSH a_BLAME a_END:Addr}
section
variable(P:bt)(w:World)(K:Za)(mg:Str->Option Value)(C a_STILL a_HUSH a_BLAME a_END:Addr)
abbrev iW:Prop:=∀base,eK P w K mg base "_law_spread" ["cell","at"] 1 jv
abbrev p6:Prop:=∀base,eK P w K mg base "_law_open" ["script"] 1 (nU K)
abbrev kP:Prop:=∀base,eK P w K mg base "_law_anew" ["pen"] 1 sw
abbrev dU:Prop:=∀base,eK P w K mg base "_law_take" ["pen","many"] 2 da
abbrev jt:Prop:=∀base,eK P w K mg base "_law_names" ["pen","many"] 3 lb
abbrev mV:Prop:=∀base,eK P w K mg base "_law_put" ["doors","door"] 1 o9
abbrev fe:Prop:=∀base,eK P w K mg base "_law_draw_doors" ["pen","asks","says","rooms","full"] 3 fh
abbrev nB:Prop:=∀base,eK P w K mg base "_law_model" ["pen","most","full"] 4 lc
abbrev mW:Prop:=∀base,eK P w K mg base "is_name" ["text"] 1 sp_is_name
abbrev iB:Prop:=∀base,eK P w K mg base "as_keys" ["things"] 1 (sp_as_keys K)
abbrev dW:Prop:=∀base,eK P w K mg base "first_wrong_name" ["names","most","taken"] 2 (sp_first_wrong_name K)
abbrev iY:Prop:=∀base,eK P w K mg base "door_signs" ["asks","says"] 1 (sp_door_signs K)
abbrev dX:Prop:=∀base,eK P w K mg base "first_wrong_door" ["doors","rooms","signs"] 2 (sp_first_wrong_door K)
abbrev cn:Prop:=∀base,eK P w K mg base "goals_by_start_and_sign" ["doors"] 1 lg
abbrev gK:Prop:=∀base,eK P w K mg base "led_by_still" ["goals","room"] 1 sr
abbrev eP:Prop:=∀base,eK P w K mg base "first_led_round" ["rooms","led"] 1 sp_first_led_round
abbrev hZ:Prop:=∀base,eK P w K mg base "need_none" ["part","number"] 1 sp_need_none
abbrev iV:Prop:=∀base,eK P w K mg base "need_parts" ["asks","says","rooms","doors"] 3 sp_need_parts
abbrev fg:Prop:=∀base,eK P w K mg base "doors_by_start" ["rooms","doors"] 1 sp_doors_by_start
abbrev ff:Prop:=∀base,eK P w K mg base "has_asks_alone" ["doors"] 1 sp_has_asks_alone
abbrev mY:Prop:=∀base,New P w K mg base "Machine" C ["self","asks","says","rooms","doors"] 4 (nW C)
abbrev j7:Prop:=∀base,eK P w K mg base "_law_machine" ["told"] 6 (iE C)
abbrev gL:Prop:=∀base,eK P w K mg base "_law_still_on" ["doors","rooms"] 1 (g0 K)
abbrev gP:Prop:=∀base,DP P w K mg base C "asks" ["self"] 1 (nX C)
abbrev gM:Prop:=∀base,DP P w K mg base C "says" ["self"] 1 (nT C)
abbrev jN:Prop:=∀base,eK P w K mg base "is_tell" ["trial"] 1 (iG K 4 "tell")
abbrev jM:Prop:=∀base,eK P w K mg base "is_wait" ["trial"] 1 (iG K 3 "wait")
abbrev fc:Prop:=∀base,eK P w K mg base "says_and_parts" ["pairs"] 1 (fR K)
abbrev gH:Prop:=∀base,eK P w K mg base "signed_parts" ["trial"] 2 (jx K)
abbrev gJ:Prop:=∀base,eK P w K mg base "parts_behind" ["way","story","trial"] 3 (jy K)
abbrev jq:Prop:=∀base,eK P w K mg base "with_ways" ["trial"] 4 (gZ K)
abbrev dw:Prop:=∀base,eK P w K mg base "has_says_in_order" ["M","pairs"] 2 (iH K C)
abbrev eO:Prop:=∀base,eK P w K mg base "is_so_by_itself" ["M","trial"] 3 (nV K C)
abbrev dz:Prop:=∀base,eK P w K mg base "checked_with_ways" ["M","trial"] 5 (iI K C)
abbrev pZ:Prop:=∀base,eK P w K mg base "leaves" ["M","trial"] 6 (iF K C)
abbrev js:Prop:=∀base,eK P w K mg base "_law_quiet" ["told","room"] 1 jz
abbrev eN:Prop:=∀base,eK P w K mg base "_law_in_order" ["told","some"] 2 ur
abbrev fo:Prop:=∀base,eK P w K mg base "_law_face_on" ["told","face","sign"] 3 (mv K)
abbrev j8:Prop:=∀base,eK P w K mg base "_law_face_at" ["told","story"] 4 (jA K)
abbrev ju:Prop:=∀base,eK P w K mg base "_law_inner" ["trial"] 1 (le K)
abbrev jr:Prop:=∀base,eK P w K mg base "_law_signs" ["trial"] 1 (jw K)
abbrev iX:Prop:=∀base,eK P w K mg base "_law_leaves" ["trial","way","story"] 6 (dP K 4)
abbrev h7:Prop:=∀base,eK P w K mg base "_law_pairs" ["says","some"] 1 (eW K)
abbrev nz:Prop:=∀base,eK P w K mg base "_law_trial" ["pen","told","deep","left"] 7 (dY K 4)
abbrev p7:Prop:=∀base,eK P w K mg base "_law_made" ["pen","told","face","deep"] 8 (fz K 4)
abbrev kO:Prop:=∀base,eK P w K mg base "_law_same" ["found","due"] 5 (db K 4)
abbrev nA:Prop:=∀base,eK P w K mg base "_law_right" ["model","trial"] 7 (eV K C)
end
section
variable(X:K.In h)(G:h.Ns bj mg)(z:Zs mg)(c:Cs K mg C a_STILL a_HUSH a_BLAME a_END)(T:Ts K C)
include X G z c T
theorem qb:iW P w K mg:=fun base=>dG X G T.f_law_spread (fun S _ _ _ _ _ _ _ _ _ hr hu h=>bK (yF (K:=K) h) (ae (bm (i5 DB (pv 0) (aK Au af af)) (ah (ar (pv 0))) aJ) (ae (qs 2 S (aK eZ (aK cv (aK cv (aK gp (aK eZ (pv 0) af) af) (aK gp (pv 1) af)) af) af)) (ae (qs 3 S (aK eZ (aK cv (aK cv (aK gp (pv 2) (pv 2)) (aK gp (pv 1) af)) (aK eZ (pv 0) af)) af)) (ae (qs 4 S (aK eZ (aK cv (aK cv (aK gp (pv 3) (pv 3)) (aK gp (pv 2) af)) af) af)) (ah (ar (aK cv (aK gp (aK cv (aK gp (pv 2) af) (pv 3)) af) (pv 4))))))))) (by walk_at "b")
theorem ul:p6 P w K mg:=fun base=>dG X G T.f_law_open (fun S _ _ _ _ _ _ _ _ _ hr hu h=>bK (BE h) (ae (qs 1 S (qL rfl z.list (a1 (cN fS (pv 0) fj (cU af))))) (ae (bU bF rfl (iP rfl z.enumerate (a1 (cN fS (pv 0) (cU af) (cU af)))) (cS rfl (av (gn 2 S) (av (gn 3 S) bX))) (ah (iO (aK cv (xl (pv 1) (aK eZ (pv 2) af)) (pv 3)) (kA (pv 1) (aK eZ (pv 2) af) gk)))) (ah (ar (aR (a3 (pv 1) af af))))))) (by walk_at "b")
theorem uo:kP P w K mg:=fun base=>dG X G T.f_law_anew (fun S _ _ _ _ _ _ _ _ _ hr hu h=>bK (BI (K:=K) h) (ae (iO af (kA (pv 0) af gk)) (ah (ar (pv 0))))) (by walk_at "b")
theorem uj(D_law_spread:iW P w K mg):dU P w K mg:=fun base=>dG X G T.f_law_take (fun S _ _ _ _ _ _ _ _ _ hr hu h=>bK (BC h) (ae (bm (i5 uD (xl (pv 0) af) (pv 1)) (ae (qs 2 S (xl (pv 0) af)) (ae (qs 3 S af) (ae (bm (i5 uD (pv 2) (ql z.len (a1 (xl (pv 0) af)))) (ah (qs 3 S (xl (xl (pv 0) af) (pv 2)))) (ah (bm (i5 xA (ql z.len (a1 (xl (pv 0) af))) af) (ah (qs 3 S (aK eZ (xl (xl (pv 0) af) (aK eZ (aK cv (aK gp (pv 2) af) af) (ql z.len (a1 (xl (pv 0) af))))) (aK cv (aK Au af af) (pv 2))))) aJ))) (ae (iO (aK cv (pv 2) af) (kA (pv 0) af gk)) (ah (iO (qf hr (D_law_spread base) (a2 (pv 3) (pv 2))) (kA (pv 0) af gk))))))) aJ) (ae (qs 4 S (aK eZ (xl (pv 0) af) (pv 1))) (ae (iO (aK xB (xl (pv 0) af) (pv 1)) (kA (pv 0) af gk)) (ah (ar (pv 4))))))) (by walk_at "b")
theorem sk(D_law_take:dU P w K mg):jt P w K mg:=fun base=>dG X G T.f_law_names (fun S _ _ _ _ _ _ _ _ _ hr hu h=>bK (Ac h) (ae (qs 2 S aO) (ae (qs 3 S (g8 PySem.F.plainAttrs_str PySem.F.slot_str_join PySem.F.type_str_join BW aO (a1 (qc (fX rfl z.range (a1 af)) (aP (by decide)) fun _ _ _ _ _ _=>⟨gc 0,bB,xs' (pv 1) (qf hr (D_law_take base) (a2 (pv 2) af))⟩)))) (ae (qs 4 S (qf hr (D_law_take base) (a2 (pv 0) af))) (ae (qs 5 S (qf hr (D_law_take base) (a2 (pv 0) af))) (ae (qs 6 S (qf hr (D_law_take base) (a2 (pv 0) af))) (ae (qs 7 S (aR bH)) (ae (bU bF rfl (fX rfl z.range (a1 (pv 1))) (gn 8 S) (ae (qs 9 S (xs' (pv 2) (aK eZ (aK cv (pv 5) (aK gp af (pv 8))) af))) (ae (qs 10 S (cN sB (pv 3) fj (cU (aK eZ (aK cv (pv 6) (aK gp (pv 8) (aK eZ (pv 4) af))) af)))) (ae (qs 11 S (xl (aR (a3 af (ql z.len (a1 (pv 10))) (aK xB (ql z.len (a1 (pv 10))) af))) (pv 4))) (ah (bA (g8 ef fG fF bP (pv 7) (a1 (aK pp (aK pp (cN sB (pv 10) fj (cU (pv 11))) (pv 9)) (cN sB (pv 10) (cU (pv 11)) fj)))))))))) (ah (ar (pv 7))))))))))) (by walk_at "b")
theorem vC:mV P w K mg:=fun base=>dG X G T.f_law_put (fun S _ _ _ _ _ _ _ _ _ hr hu h=>bK (CS h) (ah (bm (Dj (jC hu) (pv 1) (pv 0)) (ah (bA (g8 ef fG fF bP (pv 0) (a1 (pv 1))))) aJ))) (by walk_at "b")
theorem k7(D_law_take:dU P w K mg)(D_law_put:mV P w K mg):fe P w K mg:=fun base=>dG X G T.f_law_draw_doors (fun S _ _ _ _ _ _ _ _ _ hr hu h=>bK (qj h) (ae (qs 5 S (aR bH)) (ae (qs 6 S (qf hr (D_law_take base) (a2 (pv 0) af))) (ae (bU bF rfl (iP rfl z.enumerate (a1 (pv 3))) (cS rfl (av (gn 7 S) (av (gn 8 S) bX))) (ae (bU bF rfl (fX rfl z.range (a1 (xl (aR (bu af (a3 af af af))) (qf hr (D_law_take base) (a2 (pv 0) af))))) (gn 9 S) (ae (qs 10 S (aI (a2 aO (xl (pv 2) (qf hr (D_law_take base) (a2 (pv 0) (ql z.len (a1 (pv 2))))))))) (ah (bA (qf hr (D_law_put base) (a2 (pv 5) (aI (a3 (pv 8) (pv 10) (xl (pv 3) (qf hr (D_law_take base) (a2 (pv 0) (ql z.len (a1 (pv 3)))))))))))))) (ae (bU bF rfl (bE (pv 1)) (gn 11 S) (ah (bU bF rfl (fX rfl z.range (a1 (xl (aR (bu (pv 4) (a3 af af af))) (qf hr (D_law_take base) (a2 (pv 0) af))))) (gn 9 S) (ah (bA (qf hr (D_law_put base) (a2 (pv 5) (aI (a3 (pv 8) (aI (a2 aO (pv 11))) (xl (pv 3) (qf hr (D_law_take base) (a2 (pv 0) (ql z.len (a1 (pv 3))))))))))))))) (ae (qs 12 S (xl (aR (a2 (cN fS (pv 3) (cU (aK cv (pv 7) af)) fj) (cN fS (pv 3) fj (cU (pv 7))))) (pv 6))) (ah (bm (PW.pt (iM (i5 (Av hu) (pv 12) (aR bH)) (iL (i5 cO (qf hr (D_law_take base) (a2 (pv 0) af)) af)))) (ah (bA (qf hr (D_law_put base) (a2 (pv 5) (aI (a3 (pv 8) (aI (a1 aO)) (xq (pv 12) (qf hr (D_law_take base) (a2 (pv 0) (ql z.len (a1 (pv 12)))))))))))) aJ)))))) (ah (ar (pv 5))))))) (by walk_at "b")
theorem sm(D_law_anew:kP P w K mg)(D_law_take:dU P w K mg)(D_law_names:jt P w K mg)(D_law_draw_doors:fe P w K mg):nB P w K mg:=fun base=>dG X G T.f_law_model (fun S _ _ _ _ _ _ _ _ _ hr hu h=>bK (Ad h) (ae (bA (qf hr (D_law_anew base) (a1 (pv 0)))) (ae (qs 3 S (qf hr (D_law_names base) (a2 (pv 0) af))) (ae (qs 4 S (cN fS (pv 3) fj (cU (aK cv af (xl (aR (bu af (bu af (bu af (a3 af af af))))) (qf hr (D_law_take base) (a2 (pv 0) af))))))) (ae (qs 5 S (cN fS (pv 3) (cU af) (cU (aK cv af (xl (aR (bu af (bu af (bu af (a3 af af af))))) (qf hr (D_law_take base) (a2 (pv 0) af))))))) (ae (qs 6 S (qf hr (D_law_names base) (a2 (pv 0) (aK cv af (qf hr (D_law_take base) (a2 (pv 0) (pv 1))))))) (ae (qs 7 S (qf hr (D_law_draw_doors base) (bu (pv 0) (bu (pv 4) (a3 (pv 5) (pv 6) (pv 2)))))) (ah (ar (aI (bu (pv 4) (a3 (pv 5) (pv 6) (pv 7))))))))))))) (by walk_at "b")
theorem vF:mW P w K mg:=fun base=>dG X G T.f_is_name (fun S _ _ _ _ _ _ _ _ _ hr hu h=>bK (vQ h) (ah (ar (iQ (ww Cv (pv 0) aO) (iQ (ww DA (ql z.len (a1 (pv 0))) (io rfl c.LONGEST_NAME)) (jj (qB (g_ rfl) z.all rh (a1 (qc (CW (pv 0)) (aP (by decide)) fun _ _ _ _ _ _=>⟨gc 0,bB,eci v4 (pv 0) (io rfl c.LETTERS)⟩))))))))) (by walk_at "b")
theorem vG:iB P w K mg:=fun base=>dG X G T.f_as_keys (fun S _ _ _ _ _ _ _ _ _ hr hu h=>bK (vT h) (ae (qs 1 S pk) (ae (bU bF rfl (bE (pv 0)) (gn 2 S) (ah (lz hu (pv 1) (pv 2) nc rfl))) (ah (ar (pv 1)))))) (by walk_at "b")
theorem jR(D_is_name:mW P w K mg)(D_as_keys:iB P w K mg):dW P w K mg:=fun base=>dG X G T.f_first_wrong_name (fun S _ _ _ _ _ _ _ _ _ hr hu h=>bK (jT h) (ae (bm (i5 cO (ql z.len (a1 (pv 0))) af) (ah (ar af)) aJ) (ae (qs 3 S (qf hr (D_as_keys base) (a1 (pv 2)))) (ae (bU bF rfl (iP rfl z.enumerate (a1 (pv 0))) (cS rfl (av (gn 4 S) (av (gn 5 S) bX))) (ae (bm (PW.pt (jh (i5 cO (pv 4) (pv 1)) (jh (iN (vY hu (pv 5) (pv 3))) (jg (mx (cZ (qf hr (D_is_name base) (a1 (pv 5))))))))) (ah (ar (pv 4))) aJ) (ah (lz hu (pv 3) (pv 5) nc rfl)))) (ah (ar sH)))))) (by walk_at "b")
theorem qe:iY P w K mg:=fun base=>dG X G T.f_door_signs (fun S _ _ _ _ _ _ _ _ _ hr hu h=>bK (qk c.still h) (ah (ar (aK e_ (aK e_ (qc (bE (pv 0)) (aP (by decide)) fun _ _ _ _ _ _=>⟨gc 0,bB,aI (a2 aO (pv 0))⟩) (qc (bE (pv 1)) (aP (by decide)) fun _ _ _ _ _ _=>⟨gc 0,bB,aI (a2 aO (pv 0))⟩)) (aR (a1 (io rfl c.STILL))))))) (by walk_at "b")
theorem jS(D_as_keys:iB P w K mg):dX P w K mg:=fun base=>dG X G T.f_first_wrong_door (fun S _ _ _ _ _ _ _ _ _ hr hu h=>bK (jU h) (ae (qs 3 S (qf hr (D_as_keys base) (a1 (pv 1)))) (ae (qs 4 S uB) (ae (bU bF rfl (iP rfl z.enumerate (a1 (pv 0))) (cS rfl (av (gn 5 S) (av (gn 6 S) bX))) (ae (bm (PW.pt (jh (i5 cO (pv 5) (io rfl c.MOST_DOORS)) (jg (iN (vY hu (pv 6) (pv 4)))))) (ah (ar (pv 5))) aJ) (ae (bm (PW.pt (jh (iN (mz hu (xq (pv 6) af) (pv 3))) (jh (Dj (jC hu) (xq (pv 6) af) (pv 2)) (jg (iN (mz hu (xq (pv 6) af) (pv 3))))))) (ah (ar (pv 5))) aJ) (ah (lz hu (pv 4) (pv 6) nc rfl))))) (ah (ar sH)))))) (by walk_at "b")
theorem gj:cn P w K mg:=fun base=>dG X G T.f_goals_by_start_and_sign (fun S _ _ _ _ _ _ _ _ _ hr hu h=>bK (gm h) (ae (qs 1 S uB) (ae (bU bF rfl (bE (pv 0)) (cS rfl (av (gn 2 S) (av (gn 3 S) (av (gn 4 S) bX)))) (ah (bA (g8 ef fG fF bP (g8 PySem.F.plainAttrs_dict PySem.F.slot_dict_setdefault PySem.F.type_dict_setdefault (yU hu) (pv 1) (a2 (aI (a2 (pv 2) (pv 3))) (aR bH))) (a1 (pv 4)))))) (ah (ar (pv 1)))))) (by walk_at "b")
theorem nH:gK P w K mg:=fun base=>dG X G T.f_led_by_still (fun S _ _ _ _ _ _ _ _ _ hr hu h=>bK (nK c.still h) (ae (qs 2 S pk) (ae (qs 3 S (aR (a1 (pv 1)))) (ae (pc bF (i5 xA (ql z.len (a1 (pv 3))) af) (ae (qs 4 S (As ef PySem.F.slot_list_pop PySem.F.type_list_pop Az (pv 3))) (ah (bU bF rfl (CY (Ar hu (pv 0) (aI (a2 (pv 4) (io rfl c.STILL))) (aI bH) ⟨rfl,rfl,rfl,rfl⟩)) (gn 5 S) (ah (bm (iN (mz hu (pv 5) (pv 2))) (ae (lz hu (pv 2) (pv 5) nc rfl) (ah (bA (g8 ef fG fF bP (pv 3) (a1 (pv 5)))))) aJ)))))) (ah (ar (pv 2))))))) (by walk_at "b")
theorem kq:eP P w K mg:=fun base=>dG X G T.f_first_led_round (fun S _ _ _ _ _ _ _ _ _ hr hu h=>bK (kr h) (ae (bU bF rfl (iP rfl z.enumerate (a1 (pv 0))) (cS rfl (av (gn 2 S) (av (gn 3 S) bX))) (ah (bm (iN (vY hu (pv 3) (sI hu (pv 1) (pv 3) (fun _ _=>rfl)))) (ah (ar (pv 2))) aJ))) (ah (ar sH)))) (by walk_at "b")
theorem r9:hZ P w K mg:=fun base=>dG X G T.f_need_none (fun S _ _ _ _ _ _ _ _ _ hr hu h=>bK (sE (K:=K) h) (ah (bm (iN (BS (pv 1))) (ah (pd)) aJ))) (by walk_at "b")
theorem qa(D_first_wrong_name:dW P w K mg)(D_door_signs:iY P w K mg)(D_first_wrong_door:dX P w K mg)(D_need_none:hZ P w K mg):iV P w K mg:=fun base=>dG X G T.f_need_parts (fun S _ _ _ _ _ _ _ _ _ hr hu h=>bK (qi (K:=K) h) (ae (bA (qf hr (D_need_none base) (a2 aO (qf hr (D_first_wrong_name base) (a3 (pv 0) (io rfl c.MOST_WORDS) (aR bH)))))) (ae (bA (qf hr (D_need_none base) (a2 aO (qf hr (D_first_wrong_name base) (a3 (pv 1) (io rfl c.MOST_WORDS) (pv 0)))))) (ae (bA (qf hr (D_need_none base) (a2 aO (qf hr (D_first_wrong_name base) (a3 (pv 2) (io rfl c.MOST_ROOMS) (aR bH)))))) (ah (bA (qf hr (D_need_none base) (a2 aO (qf hr (D_first_wrong_door base) (a3 (pv 3) (pv 2) (qf hr (D_door_signs base) (a2 (pv 0) (pv 1))))))))))))) (by walk_at "b")
theorem k_:fg P w K mg:=fun base=>dG X G T.f_doors_by_start (fun S _ _ _ _ _ _ _ _ _ hr hu h=>bK (lp h) (ae (qs 2 S pk) (ae (bU bF rfl (bE (pv 0)) (gn 3 S) (ah (lz hu (pv 2) (pv 3) (aR bH) rfl))) (ae (bU bF rfl (bE (pv 1)) (gn 4 S) (ah (bA (g8 ef fG fF bP (sI hu (pv 2) (xq (pv 4) af) (fun _ _=>rfl)) (a1 (pv 4)))))) (ah (ar (pv 2))))))) (by walk_at "b")
theorem k9:ff P w K mg:=fun base=>dG X G T.f_has_asks_alone (fun S _ _ _ _ _ _ _ _ _ hr hu h=>bK (ln h) (ah (ar (qB (g_ rfl) z.all rh (a1 (qc (bE (pv 0)) (aP (by decide)) fun _ _ _ _ _ _=>⟨gc 0,bB,ww cO (xq (xq (pv 0) af) af) aO⟩)))))) (by walk_at "b")
theorem vH(D_as_keys:iB P w K mg)(D_goals_by_start_and_sign:cn P w K mg)(D_led_by_still:gK P w K mg)(D_first_led_round:eP P w K mg)(D_need_none:hZ P w K mg)(D_need_parts:iV P w K mg)(D_doors_by_start:fg P w K mg)(D_has_asks_alone:ff P w K mg):mY P w K mg C:=fun base=>dN c.cm c.makes c.kc T.f_Machine___init__ (fun S _ _ _ _ _ _ _ _ _ hr hu h=>bK (BG c.mc h) (ae (bA (qf hr (D_need_parts base) (bu (pv 1) (a3 (pv 2) (pv 3) (pv 4))))) (ae (ji (pv 0) (qL rfl z.list (a1 (pv 1))) rfl) (ae (ji (pv 0) (qL rfl z.list (a1 (pv 2))) rfl) (ae (ji (pv 0) (qL rfl z.list (a1 (pv 3))) rfl) (ae (ji (pv 0) (qL rfl z.list (a1 (pv 4))) rfl) (ae (ji (pv 0) (qf hr (D_doors_by_start base) (a2 (pv 3) (pv 4))) rfl) (ae (ji (pv 0) (qf hr (D_as_keys base) (a1 (qc (bE (pv 3)) (aP (by decide)) fun _ _ _ _ _ _=>⟨gc 0,lA (cZ (qf hr (D_has_asks_alone base) (a1 (sI hu (pj (pv 1) rfl) (pv 0) (fun _ _=>rfl))))),pv 0⟩))) rfl) (ae (ji (pv 0) (qf hr (D_goals_by_start_and_sign base) (a1 (pv 4))) rfl) (ae (ji (pv 0) (fZ (tz rfl) rfl z.dict wF (a1 (qc (bE (pv 3)) (aP (by decide)) fun _ _ _ _ _ _=>⟨gc 0,bB,aI (a2 (pv 0) (qf hr (D_led_by_still base) (a2 (pj (pv 1) rfl) (pv 0))))⟩))) rfl) (ah (bA (qf hr (D_need_none base) (a2 aO (qf hr (D_first_led_round base) (a2 (pv 3) (pj (pv 0) rfl))))))))))))))))) (by walk_at "b")
theorem o6(D_Machine:mY P w K mg C):j7 P w K mg C:=fun base=>dG X G T.f_law_machine (fun S _ _ _ _ _ _ _ _ _ hr hu h=>bK (vN h) (ah (ar (C2 (D_Machine base) (hr.mono (by decide)) rfl (bu (qL rfl z.list (a1 (xq (pv 0) af))) (a3 (qL rfl z.list (a1 (xq (pv 0) af))) (qL rfl z.list (a1 (xq (pv 0) af))) (qL rfl z.list (a1 (xq (pv 0) af))))))))) (by walk_at "b")
theorem nI:gL P w K mg:=fun base=>dG X G T.f_law_still_on (fun S _ _ _ _ _ _ _ _ _ hr hu h=>bK (uu h) (ae (qs 2 S (qL rfl z.list (a1 (pv 1)))) (ae (qs 3 S af) (ae (pc bF (i5 uD (pv 3) (ql z.len (a1 (pv 2)))) (ae (bU bF rfl (bE (pv 0)) (cS rfl (av (gn 4 S) (av (gn 5 S) (av (gn 6 S) bX)))) (ah (bm (PW.pt (iM (i5 (gr hu) (pv 4) (xq (pv 2) (pv 3))) (iM (i5 (gr hu) (pv 5) (aI (a1 aO))) (iL (Dj (jC hu) (pv 6) (pv 2)))))) (ah (bA (g8 ef fG fF bP (pv 2) (a1 (pv 6))))) aJ))) (ah (qs 3 S (aK cv (pv 3) af))))) (ah (ar (pv 2))))))) (by walk_at "b")
theorem nE:gP P w K mg C:=fun base=>dM c.mc.cls T.f_Machine_asks (fun S _ _ _ _ _ _ _ _ _ hr hu h=>bK (BH c.mc h) (ah (ar (qL rfl z.list (a1 (pj (pv 0) rfl)))))) (by walk_at "b")
theorem nD:gM P w K mg C:=fun base=>dM c.mc.cls T.f_Machine_says (fun S _ _ _ _ _ _ _ _ _ hr hu h=>bK (BD c.mc h) (ah (ar (qL rfl z.list (a1 (pj (pv 0) rfl)))))) (by walk_at "b")
theorem vE:jN P w K mg:=fun base=>dG X G T.f_is_tell (fun S _ _ _ _ _ _ _ _ _ hr hu h=>bK (yP h) (ah (ar (iQ (ww cO (ql z.len (a1 (pv 0))) af) (jj (ww cO (xt (pv 0) af) aO)))))) (by walk_at "b")
theorem vD:jM P w K mg:=fun base=>dG X G T.f_is_wait (fun S _ _ _ _ _ _ _ _ _ hr hu h=>bK (yO h) (ah (ar (iQ (ww cO (ql z.len (a1 (pv 0))) af) (jj (ww cO (xt (pv 0) af) aO)))))) (by walk_at "b")
theorem k6:fc P w K mg:=fun base=>dG X G T.f_says_and_parts (fun S _ _ _ _ _ _ _ _ _ hr hu h=>bK (sD h) (ah (ar (qc (kz (pv 0)) (lC (cD (aP (by decide)) bd (cD (aP (by decide)) bd (jk) (cE)) (dQ bd (cE)))) fun _ _ _ _ _ _=>⟨cS rfl (av (gc 0) (av (gc 1) bX)),bB,aI (a2 (aI (a2 aO (pv 0))) (pv 1))⟩)))) (by walk_at "b")
theorem nF(D_is_tell:jN P w K mg)(D_is_wait:jM P w K mg)(D_says_and_parts:fc P w K mg):gH P w K mg:=fun base=>dG X G T.f_signed_parts (fun S _ _ _ _ _ _ _ _ _ hr hu h=>bK (yH c.hush h) (ae (bm (cZ (qf hr (D_is_tell base) (a1 (pv 0)))) (ah (ar (aK e_ (aR (a1 (aI (a2 (aI (a2 aO (xt (pv 0) af))) (xt (pv 0) af))))) (qf hr (D_says_and_parts base) (a1 (xt (pv 0) af)))))) aJ) (ae (bm (cZ (qf hr (D_is_wait base) (a1 (pv 0)))) (ah (ar (aK e_ (qf hr (D_says_and_parts base) (a1 (xt (pv 0) af))) (aR (a1 (aI (a2 (io rfl c.HUSH) (xt (pv 0) af)))))))) aJ) (ah (ar (aR bH)))))) (by walk_at "b")
theorem nG(D_signed_parts:gH P w K mg):gJ P w K mg:=fun base=>dG X G T.f_parts_behind (fun S _ _ _ _ _ _ _ _ _ hr hu h=>bK (yL h) (ae (qs 3 S (aR bH)) (ae (bU bF rfl (iP rfl z.enumerate (a1 (qf hr (D_signed_parts base) (a1 (pv 2))))) (cS rfl (av (gn 4 S) (av (gn 5 S) bX))) (ae (iO (pv 5) (cS rfl (av (gn 6 S) (av (gn 7 S) bX)))) (ah (bA (g8 ef fG fF bP (pv 3) (a1 (aI (a3 (aK xC (pv 0) (aI (a1 (pv 4)))) (aK e_ (pv 1) (aR (a1 (pv 6)))) (pv 7))))))))) (ah (ar (pv 3)))))) (by walk_at "b")
theorem r8(D_parts_behind:gJ P w K mg):jq P w K mg:=fun base=>dG X G T.f_with_ways (fun S _ _ _ _ _ _ _ _ _ hr hu h=>bK (ut h) (ae (qs 1 S (aR bH)) (ae (qs 2 S (aR (a1 (aI (a3 (aI bH) (aR bH) (pv 0)))))) (ae (pc bF (i5 xA (ql z.len (a1 (pv 2))) af) (ae (iO (As ef PySem.F.slot_list_pop PySem.F.type_list_pop Az (pv 2)) (cS rfl (av (gn 3 S) (av (gn 4 S) (av (gn 5 S) bX))))) (ae (bA (g8 ef fG fF bP (pv 1) (a1 (aI (a3 (pv 3) (pv 4) (pv 5)))))) (ae (bU bF rfl (CZ rfl z.reversed (a1 (qf hr (D_parts_behind base) (a3 (pv 3) (pv 4) (pv 5))))) (gn 6 S) (ah (bA (g8 ef fG fF bP (pv 2) (a1 (pv 6)))))) (ah (bm (PW.pt (jh (i5 cO (ql z.len (a1 (pv 3))) (io rfl c.MOST_WITHIN)) (jg (i5 xA (aK cv (ql z.len (a1 (pv 1))) (ql z.len (a1 (pv 2)))) (io rfl c.MOST_TRIALS))))) (ah (pd)) aJ)))))) (ah (ar (pv 1))))))) (by walk_at "b")
theorem jd(M_Machine_says:gM P w K mg C):dw P w K mg C:=fun base=>dG X G T.f_has_says_in_order (fun S _ _ _ _ _ _ _ _ _ hr hu h=>bK (vR h) (ah (ar (ww (gr hu) (qc (kz (pv 1)) (lC (cD (aP (by decide)) bd (cD (aP (by decide)) bd (jk) (cE)) (dQ bd (cE)))) fun _ _ _ _ _ _=>⟨cS rfl (av (gc 0) (av (gc 1) bX)),bB,pv 0⟩) (qm0 hr (M_Machine_says base) (pv 0)))))) (by walk_at "b")
theorem ko(M_Machine_asks:gP P w K mg C)(D_is_tell:jN P w K mg)(D_is_wait:jM P w K mg)(D_has_says_in_order:dw P w K mg C):eO P w K mg C:=fun base=>dG X G T.f_is_so_by_itself (fun S _ _ _ _ _ _ _ _ _ hr hu h=>bK (BF c.blm c.enD h) (ae (bm (cZ (qf hr (D_is_tell base) (a1 (pv 1)))) (ah (ar (iQ (eci (v5 hu) (xt (pv 1) af) (qm0 hr (M_Machine_asks base) (pv 0))) (jj (qf hr (D_has_says_in_order base) (a2 (pv 0) (xt (pv 1) af))))))) aJ) (ae (bm (cZ (qf hr (D_is_wait base) (a1 (pv 1)))) (ah (ar (qf hr (D_has_says_in_order base) (a2 (pv 0) (xt (pv 1) af))))) aJ) (ah (ar (Dz (ww (gr hu) (pv 1) (io rfl c.END)) (jj (ww (gr hu) (pv 1) (io rfl c.BLAME))))))))) (by walk_at "b")
theorem je(D_with_ways:jq P w K mg)(D_is_so_by_itself:eO P w K mg C):dz P w K mg C:=fun base=>dG X G T.f_checked_with_ways (fun S _ _ _ _ _ _ _ _ _ hr hu h=>bK (vS h) (ae (qs 2 S (qf hr (D_with_ways base) (a1 (pv 1)))) (ae (bU bF rfl (bE (pv 2)) (cS rfl (av (gn 3 S) (av (gn 4 S) (av (gn 5 S) bX)))) (ah (bm (mx (cZ (qf hr (D_is_so_by_itself base) (a2 (pv 0) (pv 5))))) (ah (pd)) aJ))) (ah (ar (pv 2)))))) (by walk_at "b")
theorem yB(D_checked_with_ways:dz P w K mg C):pZ P w K mg C:=fun base=>dG X G T.f_leaves (fun S _ _ _ _ _ _ _ _ _ hr hu h=>bK (vP h) (ah (ar (qc (bE (qf hr (D_checked_with_ways base) (a2 (pv 0) (pv 1)))) (lC (cD (aP (by decide)) bd (cD (aP (by decide)) bd (cD (aP (by decide)) bd (jk) (cE)) (dQ bd (cE))) (dQ bd (dQ bd (cE))))) fun _ _ _ _ _ _=>⟨cS rfl (av (gc 0) (av (gc 1) (av (gc 2) bX))),lA (i5 cO (ql z.len (a1 (pv 2))) af),aI (a3 (pv 0) (pv 1) (xt (pv 2) af))⟩)))) (by walk_at "b")
theorem si:js P w K mg:=fun base=>dG X G T.f_law_quiet (fun S _ _ _ _ _ _ _ _ _ hr hu h=>bK (yJ h) (ae (D_ 2 S (bE (xt (pv 0) af)) (aP (by decide)) fun _ _ _ _ _ _=>⟨gc 0,lA (i5 cO (xt (pv 0) af) (pv 1)),pv 0⟩) (ah (ar (qB (g_ rfl) z.all rh (a1 (qc (bE (pv 2)) (aP (by decide)) fun _ _ _ _ _ _=>⟨gc 0,bB,ww cO (xt (xt (pv 0) af) af) aO⟩))))))) (by walk_at "b")
theorem nJ(D_law_still_on:gL P w K mg):eN P w K mg:=fun base=>dG X G T.f_law_in_order (fun S _ _ _ _ _ _ _ _ _ hr hu h=>bK (Dv h) (ae (qs 2 S (qf hr (D_law_still_on base) (a2 (xq (pv 0) af) (pv 1)))) (ah (ar (fZ ia rfl z.tuple hC (a1 (qc (bE (xq (pv 0) af)) (aP (by decide)) fun _ _ _ _ _ _=>⟨gc 0,lA (Dj (v5 hu) (pv 0) (pv 1)),pv 0⟩))))))) (by walk_at "b")
theorem o7(D_law_quiet:js P w K mg)(D_law_in_order:eN P w K mg):fo P w K mg:=fun base=>dG X G T.f_law_face_on (fun S _ _ _ _ _ _ _ _ _ hr hu h=>bK (yQ h) (ae (bm (i5 (gr hu) (pv 2) (aI (a1 aO))) (ah (ar (fZ ia rfl z.tuple hC (a1 (qc (kz (pv 1)) (aP (by decide)) fun _ _ _ _ _ _=>⟨gc 0,lA (cZ (qf hr (D_law_quiet base) (a2 (pv 1) (pv 0)))),pv 0⟩))))) aJ) (ae (qs 3 S (aR bH)) (ae (bU bF rfl (bE (xt (pv 0) af)) (cS rfl (av (gn 4 S) (av (gn 5 S) (av (gn 6 S) bX)))) (ah (bm (PW.pt (iM (Dj (v5 hu) (pv 4) (pv 1)) (iM (i5 (gr hu) (pv 5) (pv 2)) (iL (Dj (jC hu) (pv 6) (pv 3)))))) (ah (bA (g8 ef fG fF bP (pv 3) (a1 (pv 6))))) aJ))) (ah (ar (qf hr (D_law_in_order base) (a2 (pv 0) (pv 3))))))))) (by walk_at "b")
theorem o8(D_law_in_order:eN P w K mg)(D_law_face_on:fo P w K mg):j8 P w K mg:=fun base=>dG X G T.f_law_face_at (fun S _ _ _ _ _ _ _ _ _ hr hu h=>bK (yN h) (ae (qs 2 S (qf hr (D_law_in_order base) (a2 (pv 0) (cN CQ (xq (pv 0) af) fj (cU af))))) (ae (bU bF rfl (bE (pv 1)) (gn 3 S) (ah (qs 2 S (qf hr (D_law_face_on base) (a3 (pv 0) (pv 2) (pv 3)))))) (ah (ar (pv 2)))))) (by walk_at "b")
theorem sn:ju P w K mg:=fun base=>dG X G T.f_law_inner (fun S _ _ _ _ _ _ _ _ _ hr hu h=>bK (Ag h) (ae (bm (PW.pt (iM (i5 cO (xt (pv 0) af) aO) (iL (i5 cO (ql z.len (a1 (pv 0))) af)))) (ah (ar (aK e_ (aR (a1 (xt (pv 0) af))) (qc (kz (xt (pv 0) af)) (aP (by decide)) fun _ _ _ _ _ _=>⟨gc 0,bB,xt (pv 0) af⟩)))) aJ) (ae (bm (PW.pt (iM (i5 cO (xt (pv 0) af) aO) (iL (i5 cO (ql z.len (a1 (pv 0))) af)))) (ah (ar (aK e_ (qc (kz (xt (pv 0) af)) (aP (by decide)) fun _ _ _ _ _ _=>⟨gc 0,bB,xt (pv 0) af⟩) (aR (a1 (xt (pv 0) af)))))) aJ) (ah (ar (aR bH)))))) (by walk_at "b")
theorem sf:jr P w K mg:=fun base=>dG X G T.f_law_signs (fun S _ _ _ _ _ _ _ _ _ hr hu h=>bK (yG h) (ae (bm (i5 cO (xt (pv 0) af) aO) (ah (ar (aK e_ (aR (a1 (aI (a2 aO (xt (pv 0) af))))) (qc (kz (xt (pv 0) af)) (aP (by decide)) fun _ _ _ _ _ _=>⟨gc 0,bB,aI (a2 aO (xt (pv 0) af))⟩)))) aJ) (ah (ar (aK e_ (qc (kz (xt (pv 0) af)) (aP (by decide)) fun _ _ _ _ _ _=>⟨gc 0,bB,aI (a2 aO (xt (pv 0) af))⟩) (aR (a1 (aI (a1 aO))))))))) (by walk_at "b")
theorem qd(D_law_inner:ju P w K mg)(D_law_signs:jr P w K mg):iX P w K mg:=fun base=>by
  have E0:eK P w K mg base "_law_leaves" ["trial","way","story"] 1 z8:=by
   obtain⟨f,a,t⟩:=T.f_law_leaves;obtain⟨fd,F⟩:=t.fun_;exact⟨f,fd,xD,cQ X G a,F.kp,F.binds (ps:=["trial","way","story"]) (by walk_at "b")⟩
  have sA:∀(n D:Nat) (sp:Sp),1<=n->D<=4->(∀m,D=m+1->sp=(dP K m))->eK P w K mg base "_law_leaves" ["trial","way","story"] n sp->eK P w K mg base "_law_leaves" ["trial","way","story"] (n+1) (dP K D):=fun n D sp hb hD hS Mr=>dG X G T.f_law_leaves (fun S _ _ _ _ _ _ _ _ _ hr hu h=>bK (vO hD hS h) (ae (qs 3 S (qf (k0:=1) (hr.mono (aW (by decide) hb)) (D_law_inner base) (a1 (pv 0)))) (ae (bm (i5 (C5 hu) (pv 3) (aR bH)) (ah (ar (aR (a1 (aI (a3 (pv 1) (pv 2) (xt (pv 0) af))))))) aJ) (ae (qs 4 S (aR bH)) (ae (bU bF rfl (iP rfl z.enumerate (a1 (qf (k0:=1) (hr.mono (aW (by decide) hb)) (D_law_signs base) (a1 (pv 0))))) (cS rfl (av (gn 5 S) (av (gn 6 S) bX))) (ah (qs 4 S (aK e_ (pv 4) (uA Mr hr rfl (a3 (xl (pv 3) (pv 5)) (aK xC (pv 1) (aI (a1 (pv 5)))) (aK e_ (pv 2) (aR (a1 (pv 6)))))))))) (ah (ar (pv 4)))))))) (by walk_at "b");have A0:=sA 1 0 _ (by decide) (by decide) (fun m e=>by cases e) E0;have A1:=sA 2 1 _ (by decide) (by decide) (fun m e=>by cases e;rfl) A0;have A2:=sA 3 2 _ (by decide) (by decide) (fun m e=>by cases e;rfl) A1;have A3:=sA 4 3 _ (by decide) (by decide) (fun m e=>by cases e;rfl) A2;have A4:=sA 5 4 _ (by decide) (by decide) (fun m e=>by cases e;rfl) A3;exact A4
theorem sj:h7 P w K mg:=fun base=>dG X G T.f_law_pairs (fun S _ _ _ _ _ _ _ _ _ hr hu h=>bK (yM h) (ah (ar (fZ ia rfl z.tuple hC (a1 (qc (xw rfl z.zip (a2 (pv 0) (pv 1))) (lC (cD (aP (by decide)) bd (cD (aP (by decide)) bd (jk) (cE)) (dQ bd (cE)))) fun _ _ _ _ _ _=>⟨cS rfl (av (gc 0) (av (gc 1) bX)),bB,aI (a2 (pv 0) (pv 1))⟩)))))) (by walk_at "b")
theorem r_(D_law_take:dU P w K mg)(D_law_pairs:h7 P w K mg):nz P w K mg:=fun base=>by
  have E0:eK P w K mg base "_law_trial" ["pen","told","deep","left"] 2 z8:=by
   obtain⟨f,a,t⟩:=T.f_law_trial;obtain⟨fd,F⟩:=t.fun_;exact⟨f,fd,xD,cQ X G a,F.kp,F.binds (ps:=["pen","told","deep","left"]) (by walk_at "b")⟩
  have sA:∀(n D:Nat) (sp:Sp),2<=n->D<=4->(∀m,D=m+1->sp=(dY K m))->eK P w K mg base "_law_trial" ["pen","told","deep","left"] n sp->eK P w K mg base "_law_trial" ["pen","told","deep","left"] (n+1) (dY K D):=fun n D sp hb hD hS Mr=>dG X G T.f_law_trial (fun S _ _ _ _ _ _ _ _ _ hr hu h=>bK (yE hD hS h) (ae (iO (aK v3 (xl (pv 3) af) af) (kA (pv 3) af gk)) (ae (qs 4 S (qf (k0:=2) (hr.mono (aW (by decide) hb)) (D_law_take base) (a2 (pv 0) af))) (ae (bm (PW.pt (jh (i5 cO (pv 2) af) (jh (i5 uD (xl (pv 3) af) af) (jg (i5 cO (pv 4) af))))) (ah (ar (xl (aR (a2 (aI (a1 aO)) (aI (a1 aO)))) (qf (k0:=2) (hr.mono (aW (by decide) hb)) (D_law_take base) (a2 (pv 0) af))))) aJ) (ae (D_ 5 S (fX rfl z.range (a1 (aK cv (ql z.len (a1 (xt (pv 1) af))) af))) (aP (by decide)) fun _ _ _ _ _ _=>⟨gc 0,bB,uA Mr hr rfl (bu (pv 1) (a3 (pv 2) (aK v3 (pv 4) af) (pv 3)))⟩) (ae (bm (i5 uD (pv 4) af) (ae (qs 6 S (xl (xt (pv 1) af) (qf (k0:=2) (hr.mono (aW (by decide) hb)) (D_law_take base) (a2 (pv 0) (ql z.len (a1 (xt (pv 1) af))))))) (ah (ar (aI (bu aO (a3 (pv 6) (xl (pv 5) af) (qf (k0:=1) (hr.mono (aW (by decide) hb)) (D_law_pairs base) (a2 (xt (pv 1) af) (cN fS (pv 5) (cU af) fj))))))))) aJ) (ah (ar (aI (a3 aO (qf (k0:=1) (hr.mono (aW (by decide) hb)) (D_law_pairs base) (a2 (xt (pv 1) af) (pv 5))) (xl (pv 5) (Ap vp af)))))))))))) (by walk_at "b");have A0:=sA 2 0 _ (by decide) (by decide) (fun m e=>by cases e) E0;have A1:=sA 3 1 _ (by decide) (by decide) (fun m e=>by cases e;rfl) A0;have A2:=sA 4 2 _ (by decide) (by decide) (fun m e=>by cases e;rfl) A1;have A3:=sA 5 3 _ (by decide) (by decide) (fun m e=>by cases e;rfl) A2;have A4:=sA 6 4 _ (by decide) (by decide) (fun m e=>by cases e;rfl) A3;exact A4
theorem um(D_law_take:dU P w K mg)(D_law_face_on:fo P w K mg)(D_law_pairs:h7 P w K mg):p7 P w K mg:=fun base=>by
  have E0:eK P w K mg base "_law_made" ["pen","told","face","deep"] 3 z8:=by
   obtain⟨f,a,t⟩:=T.f_law_made;obtain⟨fd,F⟩:=t.fun_;exact⟨f,fd,xD,cQ X G a,F.kp,F.binds (ps:=["pen","told","face","deep"]) (by walk_at "b")⟩
  have sA:∀(n D:Nat) (sp:Sp),3<=n->D<=4->(∀m,D=m+1->sp=(fz K m))->eK P w K mg base "_law_made" ["pen","told","face","deep"] n sp->eK P w K mg base "_law_made" ["pen","told","face","deep"] (n+1) (fz K D):=fun n D sp hb hD hS Mr=>dG X G T.f_law_made (fun S _ _ _ _ _ _ _ _ _ hr hu h=>bK (Ae hD hS h) (ae (bm (i5 (gr hu) (pv 2) (aI bH)) (ah (ar (aI (a1 aO)))) aJ) (ae (qs 4 S (aR (a1 (aI (a1 aO))))) (ae (bU bF rfl (bE (xt (pv 1) af)) (gn 5 S) (ah (bm (i5 (Av hu) (qf (k0:=3) (hr.mono (aW (by decide) hb)) (D_law_face_on base) (a3 (pv 1) (pv 2) (aI (a2 aO (pv 5))))) (aI bH)) (ah (bA (g8 ef fG fF bP (pv 4) (a1 (aI (a2 aO (pv 5))))))) aJ))) (ae (bm (PW.pt (jh (i5 cO (pv 3) af) (jg (i5 cO (qf (k0:=2) (hr.mono (aW (by decide) hb)) (D_law_take base) (a2 (pv 0) af)) af)))) (ah (ar (aI (a1 aO)))) aJ) (ae (qs 6 S (xl (pv 4) (qf (k0:=2) (hr.mono (aW (by decide) hb)) (D_law_take base) (a2 (pv 0) (ql z.len (a1 (pv 4))))))) (ae (D_ 7 S (bE (xt (pv 1) af)) (aP (by decide)) fun _ _ _ _ _ _=>⟨gc 0,bB,aI (a2 aO (pv 0))⟩) (ae (qs 7 S (xl (aR (a2 (aK e_ (pv 7) (aR (a1 (pv 6)))) (aK e_ (aR (a1 (pv 6))) (pv 7)))) (fZ zm rfl z.int q_ (a1 (ww cO (xt (pv 6) af) aO))))) (ae (D_ 8 S (bE (pv 7)) (aP (by decide)) fun _ _ _ _ _ _=>⟨gc 0,bB,uA Mr hr rfl (bu (pv 1) (a3 (pv 2) (qf (k0:=3) (hr.mono (aW (by decide) hb)) (D_law_face_on base) (a3 (pv 2) (pv 3) (pv 0))) (aK v3 (pv 4) af)))⟩) (ae (bm (i5 cO (xt (pv 6) af) aO) (ah (ar (aI (bu aO (a3 (xt (pv 6) af) (xl (pv 8) af) (qf (k0:=1) (hr.mono (aW (by decide) hb)) (D_law_pairs base) (a2 (xt (pv 1) af) (cN fS (pv 8) (cU af) fj)))))))) aJ) (ah (ar (aI (a3 aO (qf (k0:=1) (hr.mono (aW (by decide) hb)) (D_law_pairs base) (a2 (xt (pv 1) af) (pv 8))) (xl (pv 8) (Ap vp af)))))))))))))))) (by walk_at "b");have A0:=sA 3 0 _ (by decide) (by decide) (fun m e=>by cases e) E0;have A1:=sA 4 1 _ (by decide) (by decide) (fun m e=>by cases e;rfl) A0;have A2:=sA 5 2 _ (by decide) (by decide) (fun m e=>by cases e;rfl) A1;have A3:=sA 6 3 _ (by decide) (by decide) (fun m e=>by cases e;rfl) A2;have A4:=sA 7 4 _ (by decide) (by decide) (fun m e=>by cases e;rfl) A3;exact A4
theorem uk:kO P w K mg:=fun base=>by
  have E0:eK P w K mg base "_law_same" ["found","due"] 0 z8:=by
   obtain⟨f,a,t⟩:=T.f_law_same;obtain⟨fd,F⟩:=t.fun_;exact⟨f,fd,xD,cQ X G a,F.kp,F.binds (ps:=["found","due"]) (by walk_at "b")⟩
  have sA:∀(n D:Nat) (sp:Sp),0<=n->D<=4->(∀m,D=m+1->sp=(db K m))->eK P w K mg base "_law_same" ["found","due"] n sp->eK P w K mg base "_law_same" ["found","due"] (n+1) (db K D):=fun n D sp hb hD hS Mr=>dG X G T.f_law_same (fun S _ _ _ _ _ _ _ _ _ hr hu h=>bK (yI (aW hD (by decide)) hS h) (ae (bm (iN (vX (pv 1))) (ah (ar (C3 (vX (pv 0))))) aJ) (ae (bm (cZ (qB c8 z.isinstance c9 (a2 (pv 1) (kB rfl z.bool)))) (ah (ar (iQ (qB c8 z.isinstance c9 (a2 (pv 0) (kB rfl z.bool))) (jj (ww (gr hu) (pv 0) (pv 1)))))) aJ) (ae (bm (cZ (qB c8 z.isinstance c9 (a2 (pv 1) (qI rfl z.str)))) (ah (ar (iQ (qB c8 z.isinstance c9 (a2 (pv 0) (qI rfl z.str))) (jj (ww (gr hu) (pv 0) (pv 1)))))) aJ) (ae (bm (cZ (qB c8 z.isinstance c9 (a2 (pv 1) (qJ rfl z.int)))) (ah (ar (iQ (qB c8 z.isinstance c9 (a2 (pv 0) (qJ rfl z.int))) (iQ (C1 (qB c8 z.isinstance c9 (a2 (pv 0) (kB rfl z.bool)))) (jj (ww (gr hu) (pv 0) (pv 1))))))) aJ) (ae (bm (PW.pt (iM (cZ (qB c8 z.isinstance c9 (a2 (pv 1) (m_ rfl z.tuple)))) (iL (mx (cZ (qB c8 z.isinstance c9 (a2 (pv 0) (m_ rfl z.tuple)))))))) (ah (ar nc)) aJ) (ae (bm (PW.pt (jh (PW.pt (iM (cZ (qB c8 z.isinstance c9 (a2 (pv 1) (pi rfl z.list)))) (iL (mx (cZ (qB c8 z.isinstance c9 (a2 (pv 0) (pi rfl z.list)))))))) (jg (i5 Cv (ql z.len (a1 (pv 0))) (ql z.len (a1 (pv 1))))))) (ah (ar nc)) aJ) (ah (ar (qB (g_ rfl) z.all rh (a1 (qc (xw rfl z.zip (a2 (pv 0) (pv 1))) (lC (cD (aP (by decide)) bd (cD (aP (by decide)) bd (jk) (cE)) (dQ bd (cE)))) fun _ _ _ _ _ _=>⟨cS rfl (av (gc 0) (av (gc 1) bX)),bB,uA Mr hr rfl (a2 (pv 0) (pv 1))⟩)))))))))))) (by walk_at "b");have A0:=sA 0 0 _ (by decide) (by decide) (fun m e=>by cases e) E0;have A1:=sA 1 1 _ (by decide) (by decide) (fun m e=>by cases e;rfl) A0;have A2:=sA 2 2 _ (by decide) (by decide) (fun m e=>by cases e;rfl) A1;have A3:=sA 3 3 _ (by decide) (by decide) (fun m e=>by cases e;rfl) A2;have A4:=sA 4 4 _ (by decide) (by decide) (fun m e=>by cases e;rfl) A3;exact A4
theorem sh(D_leaves:pZ P w K mg C)(D_law_leaves:iX P w K mg)(D_law_same:kO P w K mg):nA P w K mg C:=fun base=>dG X G T.f_law_right (fun S _ _ _ _ _ _ _ _ _ hr hu h=>bK (vM h) (ae (qs 2 S (qf hr (D_law_leaves base) (a3 (pv 1) (aI bH) (aR bH)))) (ae (qs 3 S (qf hr (D_leaves base) (a2 (pv 0) (pv 1)))) (ae (bm (PW.pt (jh (mx (cZ (qf hr (D_law_same base) (a2 (pv 3) (pv 2))))) (jg (i5 (C4 hu) (pv 2) (qB (wD hu) z.sorted boot_sorted (a1 (pv 2))))))) (ah (ar nc)) aJ) (ae (bA (g8 ef fG fF bP (xt (xl (pv 3) af) af) (a1 (aI (a1 aO))))) (ae (iO (aI (a3 (aI bH) (aR bH) aO)) (kA (pv 3) (Ap vp af) gk)) (ah (ar (qf hr (D_law_same base) (a2 (qf hr (D_leaves base) (a2 (pv 0) (pv 1))) (pv 2))))))))))) (by walk_at "b")
end
theorem C6(X:K.In h)(G:h.Ns bj mg)(z:Zs mg)(c:Cs K mg C a_STILL a_HUSH a_BLAME a_END)(T:Ts K C):∃f fd,mg "law"=some (.ref f)/\(∀(s:Shared) (v:Value),oh s fd ⟨[v],[]⟩ [("script",v)])/\∀base:Heap,jZ P w K mg base CX0 9 f fd ["script"] (sp_law30 K):=by
 have D_law_spread:iW P w K mg:=qb X G z c T;have D_law_open:p6 P w K mg:=ul X G z c T;have D_law_anew:kP P w K mg:=uo X G z c T;have D_law_take:dU P w K mg:=uj X G z c T D_law_spread;have D_law_names:jt P w K mg:=sk X G z c T D_law_take;have D_law_put:mV P w K mg:=vC X G z c T;have D_law_draw_doors:fe P w K mg:=k7 X G z c T D_law_take D_law_put;have D_law_model:nB P w K mg:=sm X G z c T D_law_anew D_law_take D_law_names D_law_draw_doors;have D_is_name:mW P w K mg:=vF X G z c T;have D_as_keys:iB P w K mg:=vG X G z c T;have D_first_wrong_name:dW P w K mg:=jR X G z c T D_is_name D_as_keys;have D_door_signs:iY P w K mg:=qe X G z c T;have D_first_wrong_door:dX P w K mg:=jS X G z c T D_as_keys;have D_goals_by_start_and_sign:cn P w K mg:=gj X G z c T;have D_led_by_still:gK P w K mg:=nH X G z c T;have D_first_led_round:eP P w K mg:=kq X G z c T;have D_need_none:hZ P w K mg:=r9 X G z c T;have D_need_parts:iV P w K mg:=qa X G z c T D_first_wrong_name D_door_signs D_first_wrong_door D_need_none;have D_doors_by_start:fg P w K mg:=k_ X G z c T;have D_has_asks_alone:ff P w K mg:=k9 X G z c T;have D_Machine:mY P w K mg C:=vH X G z c T D_as_keys D_goals_by_start_and_sign D_led_by_still D_first_led_round D_need_none D_need_parts D_doors_by_start D_has_asks_alone;have D_law_machine:j7 P w K mg C:=o6 X G z c T D_Machine;have D_law_still_on:gL P w K mg:=nI X G z c T;have M_Machine_asks:gP P w K mg C:=nE X G z c T;have M_Machine_says:gM P w K mg C:=nD X G z c T;have D_is_tell:jN P w K mg:=vE X G z c T;have D_is_wait:jM P w K mg:=vD X G z c T;have D_says_and_parts:fc P w K mg:=k6 X G z c T;have D_signed_parts:gH P w K mg:=nF X G z c T D_is_tell D_is_wait D_says_and_parts;have D_parts_behind:gJ P w K mg:=nG X G z c T D_signed_parts;have D_with_ways:jq P w K mg:=r8 X G z c T D_parts_behind;have D_has_says_in_order:dw P w K mg C:=jd X G z c T M_Machine_says;have D_is_so_by_itself:eO P w K mg C:=ko X G z c T M_Machine_asks D_is_tell D_is_wait D_has_says_in_order;have D_checked_with_ways:dz P w K mg C:=je X G z c T D_with_ways D_is_so_by_itself;have D_leaves:pZ P w K mg C:=yB X G z c T D_checked_with_ways;have D_law_quiet:js P w K mg:=si X G z c T;have D_law_in_order:eN P w K mg:=nJ X G z c T D_law_still_on;have D_law_face_on:fo P w K mg:=o7 X G z c T D_law_quiet D_law_in_order;have D_law_face_at:j8 P w K mg:=o8 X G z c T D_law_in_order D_law_face_on;have D_law_inner:ju P w K mg:=sn X G z c T;have D_law_signs:jr P w K mg:=sf X G z c T;have D_law_leaves:iX P w K mg:=qd X G z c T D_law_inner D_law_signs;have D_law_pairs:h7 P w K mg:=sj X G z c T;have D_law_trial:nz P w K mg:=r_ X G z c T D_law_take D_law_pairs;have D_law_made:p7 P w K mg:=um X G z c T D_law_take D_law_face_on D_law_pairs;have D_law_same:kO P w K mg:=uk X G z c T;have D_law_right:nA P w K mg C:=sh X G z c T D_leaves D_law_leaves D_law_same;obtain⟨f,a,t⟩:=T.f_law30;obtain⟨oc,od,an,sl,kV,dc,pm,cd,ct,l,c1,k1⟩:=t;have F:=AS (st:=(fN 64)) l c1 k1;have sc:iU yh An (bv (fN 64)):=by walk_at "s"
 have S:=sc.nd;exact⟨f,_,cQ X G a,fun s v=>.of_eq rfl,fun base=>F.ok (k:=8) sc (by walk_at "l") (fun _ _ _ _ _ _ _ _ hr h=>by have hu:=xO hr;exact bK (Af (C:=C) h) (ae (qs 1 S (qf hr (D_law_open base) (a1 (pv 0)))) (ae (qs 2 S sH) (ae (bU bF rfl (fX rfl z.range (a1 af)) (gn 3 S) (ae (qs 4 S (qf hr (D_law_model base) (a3 (pv 1) af af))) (ae (qs 5 S (qf hr (D_law_machine base) (a1 (pv 4)))) (ae (qs 6 S (qf hr (D_law_trial base) (bu (pv 1) (a3 (pv 4) af (aR (a1 af)))))) (ae (bm (i5 cO (qf hr (D_law_take base) (a2 (pv 1) af)) af) (ah (qs 6 S (qf hr (D_law_made base) (bu (pv 1) (a3 (pv 4) (qf hr (D_law_face_at base) (a2 (pv 4) (aR bH))) af))))) aJ) (ae (bm (iN (vX (pv 2))) (ah (qs 2 S (aI (a2 (pv 5) (pv 6))))) aJ) (ah (bm (mx (cZ (qf hr (D_law_right base) (a2 (pv 5) (pv 6))))) (ah (ar nc)) aJ)))))))) (ah (ar (qf hr (D_law_right base) (a2 (xt (pv 2) af) (xt (pv 2) af)))))))))⟩
theorem all_mk{l:PySem.W.OpenLaw}{fa:Addr}{u_LETTERS:Value}{u_LONGEST_NAME:Value}{u_MOST_WORDS:Value}{u_MOST_ROOMS:Value}{u_MOST_DOORS:Value}{u_MOST_WITHIN:Value}{u_MOST_TRIALS:Value}{o_STILL:Obj}{i_STILL:Array Value}{n_STILL:Nat}{o_HUSH:Obj}{i_HUSH:Array Value}{n_HUSH:Nat}{o_BLAME:Obj}{i_BLAME:Array Value}{n_BLAME:Nat}{o_END:Obj}{i_END:Array Value}{n_END:Nat}(X:K.In h)(G:h.Ns bj mg)(hfa:mg "law"=some (.ref fa))
  (aC:bw K bj "Machine"=some (some (.ref C)))
  (pg:tX K C Str.empty=true)
  (hd:wX K C=true)
  (po:PySem.W.plainOver K C=true)
  (sa:dA K (.ref C) "__setattr__"=some (some (.builtin "object.__setattr__")))
  (mk:tU K C=true)
  (kc:ig K (.ref C)=true)
  (na1:dA K (.ref C) "own_asks"=some none)
  (na2:dA K (.ref C) "own_says"=some none)
  (na3:dA K (.ref C) "own_rooms"=some none)
  (na4:dA K (.ref C) "own_doors"=some none)
  (na5:dA K (.ref C) "leaving"=some none)
  (na6:dA K (.ref C) "quiet"=some none)
  (na7:dA K (.ref C) "sign_goals"=some none)
  (na8:dA K (.ref C) "still_led"=some none)
  (z_all:bw K bj "all"=some none)
  (z_bool:bw K bj "bool"=some none)
  (z_dict:bw K bj "dict"=some none)
  (z_enumerate:bw K bj "enumerate"=some none)
  (z_int:bw K bj "int"=some none)
  (z_isinstance:bw K bj "isinstance"=some none)
  (z_len:bw K bj "len"=some none)
  (z_list:bw K bj "list"=some none)
  (z_range:bw K bj "range"=some none)
  (z_reversed:bw K bj "reversed"=some none)
  (z_sorted:bw K bj "sorted"=some none)
  (z_str:bw K bj "str"=some none)
  (z_tuple:bw K bj "tuple"=some none)
  (z_zip:bw K bj "zip"=some none)
  (g_LETTERS:bw K bj "LETTERS"=some (some u_LETTERS))
  (r_LETTERS:RelV (.str "abcdefghijklmnopqrstuvwxyz") u_LETTERS)
  (g_LONGEST_NAME:bw K bj "LONGEST_NAME"=some (some u_LONGEST_NAME))
  (r_LONGEST_NAME:RelV (.int 8) u_LONGEST_NAME)
  (g_MOST_WORDS:bw K bj "MOST_WORDS"=some (some u_MOST_WORDS))
  (r_MOST_WORDS:RelV (.int 4) u_MOST_WORDS)
  (g_MOST_ROOMS:bw K bj "MOST_ROOMS"=some (some u_MOST_ROOMS))
  (r_MOST_ROOMS:RelV (.int 150) u_MOST_ROOMS)
  (g_MOST_DOORS:bw K bj "MOST_DOORS"=some (some u_MOST_DOORS))
  (r_MOST_DOORS:RelV (.int 2000) u_MOST_DOORS)
  (g_MOST_WITHIN:bw K bj "MOST_WITHIN"=some (some u_MOST_WITHIN))
  (r_MOST_WITHIN:RelV (.int 8) u_MOST_WITHIN)
  (g_MOST_TRIALS:bw K bj "MOST_TRIALS"=some (some u_MOST_TRIALS))
  (r_MOST_TRIALS:RelV (.int 1000) u_MOST_TRIALS)
  (g_STILL:bw K bj "STILL"=some (some (.ref a_STILL)))
  (l_STILL:K.lookup a_STILL=some o_STILL)
  (c_STILL:o_STILL.cls=.type "tuple")
  (d_STILL:o_STILL.data=.seq i_STILL n_STILL)
  (s_STILL:i_STILL.size<=ai)
  (v_STILL:aV (aY.map V.str) i_STILL.toList)
  (g_HUSH:bw K bj "HUSH"=some (some (.ref a_HUSH)))
  (l_HUSH:K.lookup a_HUSH=some o_HUSH)
  (c_HUSH:o_HUSH.cls=.type "tuple")
  (d_HUSH:o_HUSH.data=.seq i_HUSH n_HUSH)
  (s_HUSH:i_HUSH.size<=ai)
  (v_HUSH:aV (dR.map V.str) i_HUSH.toList)
  (g_BLAME:bw K bj "BLAME"=some (some (.ref a_BLAME)))
  (l_BLAME:K.lookup a_BLAME=some o_BLAME)
  (c_BLAME:o_BLAME.cls=.type "tuple")
  (d_BLAME:o_BLAME.data=.seq i_BLAME n_BLAME)
  (s_BLAME:i_BLAME.size<=ai)
  (v_BLAME:aV (fU.map V.str) i_BLAME.toList)
  (g_END:bw K bj "END"=some (some (.ref a_END)))
  (l_END:K.lookup a_END=some o_END)
  (c_END:o_END.cls=.type "tuple")
  (d_END:o_END.data=.seq i_END n_END)
  (s_END:i_END.size<=ai)
  (v_END:aV (iw.map V.str) i_END.toList)
  (T:Ts K C)
 :∃fd:iZ,(∀(s:Shared) (v:Value),oh s fd ⟨[v],[]⟩ [("script",v)])/\∀base:Heap,K.In base->base.Ns bj mg->jZ l.prog w K mg base CX0 9 fa fd ["script"] (sp_law30 K):=by
 have z:Zs mg:=⟨ee X G z_all,ee X G z_bool,ee X G z_dict,ee X G z_enumerate,ee X G z_int,ee X G z_isinstance,ee X G z_len,ee X G z_list,ee X G z_range,ee X G z_reversed,ee X G z_sorted,ee X G z_str,ee X G z_tuple,ee X G z_zip⟩;have c:Cs K mg C a_STILL a_HUSH a_BLAME a_END:=⟨⟨_,cQ X G g_LETTERS,r_LETTERS⟩,⟨_,cQ X G g_LONGEST_NAME,r_LONGEST_NAME⟩,⟨_,cQ X G g_MOST_WORDS,r_MOST_WORDS⟩,⟨_,cQ X G g_MOST_ROOMS,r_MOST_ROOMS⟩,⟨_,cQ X G g_MOST_DOORS,r_MOST_DOORS⟩,⟨_,cQ X G g_MOST_WITHIN,r_MOST_WITHIN⟩,⟨_,cQ X G g_MOST_TRIALS,r_MOST_TRIALS⟩,⟨_,cQ X G g_STILL,rfl⟩,⟨_,cQ X G g_HUSH,rfl⟩,⟨_,cQ X G g_BLAME,rfl⟩,⟨_,cQ X G g_END,rfl⟩,nR l_STILL c_STILL d_STILL s_STILL v_STILL,nR l_HUSH c_HUSH d_HUSH s_HUSH v_HUSH,nR l_BLAME c_BLAME d_BLAME s_BLAME v_BLAME,nR l_END c_END d_END s_END v_END,⟨⟨pg,hd,po,sa⟩,na1,na2,na3,na4,na5,na6,na7,na8⟩,cQ X G aC,mk,kc⟩;obtain⟨f,fd,e,b,k⟩:=C6 (P:=l.prog) (w:=w) X G z c T;have e0:=hfa.symm.trans e;cases e0;exact⟨fd,b,fun base _ _=>k base⟩
end
end Mum
namespace PySem.W.Fast
def tw5925228222623413343:=0
def tw2985347012800344013:=0
def tw5486831251384538413:=0
def tw8249851682999872648:=0
def tw9614094163755162201:=0
def tw12039913488535430059:=0
def tw10374426031312029895:=0
def tw12890294186338026981:=0
def tw13418500545861590118:=0
def tw14772821135869781166:=0
def tw5780208193482349821:=0
def tw2436578953240038488:=0
def tw8149564693745436975:=0
def tw2375152801579246299:=0
def tw16257239576298564113:=0
def tw17150668652811953322:=0
def tw16371437470273752490:=0
def tw15938827466693380295:=0
def tw8458007513712123798:=0
def tw596390984571272744:=0
def tw4671451605417817446:=0
def tw4754944967412706032:=0
def tw13397738872929751756:=0
def tw3275017092240329710:=0
def tw10173243631423157292:=0
def tw13118305306758623061:=0
def tw13577401159296530059:=0
def tw2855391978968988833:=0
def tw8596694109362662660:=0
def tw12326717680497767032:=0
def tw2646423237092611368:=0
def tw8382824648354848927:=0
def tw3907758632512583981:=0
def tw8332302294345391342:=0
def tw12718093530150327565:=0
def tw16552013524137566215:=0
def tw18215623283358182036:=0
def tw6695209004821147176:=0
def tw16397151867499729281:=0
def tw12780265917711702720:=0
def tw4840425428620062272:=0
def tw5585616630979476655:=0
def tw10857237374714307951:=0
def tw1743861364609233704:=0
def tw13600869156227907429:=0
def tw16991196681556374796:=0
def tw7760505296564709909:=0
def tw12867015425443927067:=0
def tw2445271271018074377:=0
def tw5951114457905385019:=0
def tw17266153521185906351:=0
def tw5846742674927550520:=0
def tw3046545050679556130:=0
def tw13583126594913548299:=0
def tw6508063022003325368:=0
def tw17432068626488342975:=0
def tw7794289228151868704:=0
def tw9444532973232983285:=0
def tw8462947199236865465:=0
def tw16393924924185058640:=0
def tw9318692714017514525:=0
def tw13359339820559020243:=0
def tw3961957730372402084:=0
def tw14094543755120291827:=0
def tw15479699674621218761:=0
def tw7828545761707803290:=0
def tw14145823382749682730:=0
def tw6167468812219940160:=0
def tw11250405634571581599:=0
def tw17646006755018591960:=0
def tw12904729311826626616:=0
def tw10808916017373049610:=0
def tw10095772524318565965:=0
def tw7251281876294741913:=0
def tw16797301148970837836:=0
def tw9603013705243544103:=0
def tw6892446701269271116:=0
def tw13488727991382529355:=0
def tw2744323880455868594:=0
def tw14517711838658788241:=0
def tw18130136007111140389:=0
def tw17772261595033238320:=0
def tw10056782191026277088:=0
def tw10447683765000848185:=0
def tw1468642310828512192:=0
def tw10433797911768200256:=0
def tw10427927459234247026:=0
def tw3380426482247359800:=0
def tw3578750720488856341:=0
def tw15931154286446240967:=0
def tw10377528557944512294:=0
def tw9387447427108184843:=0
def tw4579230335773998960:=0
def tw3723258457826242063:=0
def tw2210556696944045649:=0
def tw1204274722822970512:=0
def tw9762775008695096623:=0
def tw3858132967244498881:=0
def tw10398109773539287518:=0
def tw13302803959459771770:=0
def tw5935979516493282390:=0
def tw41158740754604097:=0
def tw569398434908539295:=0
def tw2775490713543979222:=0
def tw9236344144965473888:=0
def tw9199107421953364012:=0
def tw18144859537308851477:=0
def tw17871748834604871064:=0
def tw18375033322013735789:=0
def tw18262553899102865044:=0
def tw13097676062290454919:=0
def tw2812696476170615444:=0
def tw6984173800227532092:=0
def tw11269307155001917546:=0
def tw15808982917052826013:=0
def tw16385386767964460966:=0
def tw4478918007746181807:=0
def tw15788847096000467069:=0
def tw6819985714167490516:=0
def tw8637894939762464401:=0
def tw17172883537205218131:=0
def tw12722183482075018217:=0
def tw18160658374459914851:=0
def tw780859071091492024:=0
def tw5750369037082743054:=0
def tw15980391066582379521:=0
def tw7554972767989547435:=0
def tw14635510021473407817:=0
def tw17405766087049637948:=0
def tw16942993749886787713:=0
def tw6396487044271175494:=0
def tw4144148114125988042:=0
def tw10820866299725962157:=0
def tw5224460446395536054:=0
def tw17598436292885812940:=0
def tw17157475944674450316:=0
def tw6215514920590480678:=0
def tw1774640169198501096:=0
def tw4737780315068138581:=0
def tw8530371040093219645:=0
def tw6463968706875488075:=0
def tw12736622713011987002:=0
def tw4568827539916490614:=0
def tw17000953713972936831:=0
def tw13917984286646014576:=0
def tw14565020188959906035:=0
def tw548154359508184294:=0
def tw6354462030061798507:=0
def tw17097627256842839655:=0
def tw16044493773160198285:=0
def tw12371989588563115525:=0
def tw290400981517136446:=0
def tw4742807857870253981:=0
def tw1356678530036042417:=0
def tw826435984614150055:=0
def tw18200488570555546793:=0
def tw937203379133494777:=0
def tw11409538709948233318:=0
def tw2144755884081394703:=0
def tw4749347507440734542:=0
def tw1020136620234754305:=0
def tw15550413468122673571:=0
def tw9518662844339705632:=0
def tw7873513584473542586:=0
def tw3890246325521870208:=0
def tw11293134339724050761:=0
def tw14390684486901520568:=0
def tw1517468479807327041:=0
def tw1192315460593059132:=0
def tw7658158625271092577:=0
def tw11156613684658977112:=0
def tw14959647875560430493:=0
def tw3785661544337088588:=0
def tw7176679753183937079:=0
def tw2191614680673154104:=0
def tw6166640457508477863:=0
def tw17893295978376853544:=0
def tw6062983641362328913:=0
def tw12163698380882156565:=0
def tw1694842510030399179:=0
def tw13757185832294902118:=0
def tw2289341829592932940:=0
def tw17125949392972652522:=0
def tw17004001915554151576:=0
def tw10314661470756202025:=0
def tw2368230394306355502:=0
def tw2631796060481374369:=0
def tw14768629576324605152:=0
def tw11152032712403490141:=0
def tw1106874131316187490:=0
def tw11801266693616284472:=0
def tw661843637365301374:=0
def tw17286543835358003916:=0
def tw17733983565483409372:=0
def tw7781624122469992498:=0
def tw16919380988126607005:=0
def tw8906443303906219309:=0
def tw372391286527129430:=0
def tw8617282085105920845:=0
def tw8393214312940995504:=0
def tw13286617430013814524:=0
def tw12754074347419377288:=0
def tw5095763432582682338:=0
def tw1994464880110812434:=0
def tw16000285271231196918:=0
def tw5958815058277734657:=0
def tw11688272355267953374:=0
def tw4187826032235843438:=0
def tw6706586482134325770:=0
def tw1496767563012322128:=0
def tw11452046459009843248:=0
def tw13548220457022153532:=0
def tw3638193271343436973:=0
def tw1635472235300781479:=0
def tw17283611394097469286:=0
def tw497843214765584923:=0
def tw14777353962856344875:=0
def tw16625569279111299787:=0
def tw2907848267365545391:=0
def tw838707392677910784:=0
def tw12403412105915868459:=0
def tw3473966867576044670:=0
def tw16449166708983144729:=0
def tw12327883387626112632:=0
def tw8020474619539323577:=0
def tw2055684151880411624:=0
def tw11732597126381193161:=0
def tw17887787589665239178:=0
def tw8970268746348785446:=0
def tw829410570836191704:=0
def tw13487441040200387784:=0
def tw18106751295564751079:=0
def tw17863911251647181962:=0
def tw17342298098874840370:=0
def tw16694829102171034810:=0
def tw9444611877510487395:=0
def tw15528886046672674527:=0
def tw6718918100274053225:=0
def tw12130643823344066789:=0
def tw2095360364355631323:=0
def tw16913255776418313536:=0
def tw3111156213676158680:=0
def tw578410000497819285:=0
def tw7197584167017734465:=0
def tw9938713877004653483:=0
def tw13084472511421783486:=0
def tw15314320129991340536:=0
def tw9927622382336122534:=0
def tw9985152028887986105:=0
def tw13702318042936346265:=0
def tw3636704861412582637:=0
def tw13412587596912933667:=0
def tw13090872228842988856:=0
def tw1240408200436786505:=0
def tw13085640613849671091:=0
def tw15927106753222018534:=0
def tw14510225992923233154:=0
def tw16515107705753986844:=0
def tw16869895265945340326:=0
def tw3631286174369376717:=0
def tw13767274875748169431:=0
def tw12222261837232767225:=0
def tw1708695678360367089:=0
def tw2572235297730941400:=0
def tw3815270564222706572:=0
def tw7628825644684144714:=0
def tw285825042014762755:=0
def tw14333661496796849450:=0
def tw3684656747173598298:=0
def tw14496458585949793874:=0
def tw4297849808592116898:=0
def tw3318930509346856861:=0
def tw13527637424689670121:=0
def tw13591781373926027546:=0
def tw17164254025402644945:=0
def tw1734569106664215969:=0
def tw5650574854231519299:=0
def tw15836891130624866156:=0
def tw17611750132879648806:=0
def tw5897380109122274256:=0
def tw9393297385411690752:=0
def tw956067198309089625:=0
def tw10730780603621229993:=0
def tw8620266236166707569:=0
def tw3792589947032117803:=0
def tw8663757680862069069:=0
def tw3202424357448650340:=0
def tw3627784713771208864:=0
def tw15465197775990034615:=0
def tw5378442788491109651:=0
def tw6508489536083554337:=0
def tw4233969250551553209:=0
def tw9818719259482372235:=0
def tw11289514989600073726:=0
def tw529341380393465012:=0
def tw17897088927315455229:=0
def tw17125393165910554462:=0
def tw7819345490392953282:=0
def tw15721462520986960663:=0
def tw6851166985812499453:=0
def tw10891565665587992352:=0
def tw1400151127784436293:=0
def tw8634857640078915097:=0
def tw7756858315935577040:=0
def tw7446781157604751813:=0
def tw1959295224297834355:=0
def tw1787603043961085514:=0
def tw14052682256442591005:=0
def tw13456593082766356681:=0
def tw14128455292260383685:=0
def tw15160634756435204280:=0
def tw1986564983964504508:=0
def tw17279917438227730823:=0
def tw1742581707267475743:=0
def tw6270488439940812342:=0
def tw10772696466948574005:=0
def tw15615218255583076938:=0
def tw11089834006220594106:=0
def tw7801591711463456548:=0
def tw17204792695009136626:=0
def tw242034278640374305:=0
def tw1882538039107267057:=0
def tw12833937560960210218:=0
def tw2443081657755758701:=0
def tw503785680287086758:=0
def tw16345308274997343284:=0
def tw11520587272427864472:=0
def tw10868038667969976390:=0
def tw315000053565261875:=0
def tw18415572884954105565:=0
def tw5384785720923922521:=0
def tw204333669399686836:=0
def tw10432218882177986049:=0
def tw10853200773781611464:=0
def tw14184709960072542083:=0
def tw10136232878568385381:=0
def tw2516690375096003193:=0
def tw7231767324910295809:=0
def tw9330251530900895285:=0
def tw9406950849446971151:=0
def tw18271114349928611979:=0
def tw5166202185728641122:=0
def tw10737526559307234317:=0
def tw15056726398158934823:=0
def tw16141349308822874340:=0
def tw13458249139632996308:=0
def tw9979500900327298437:=0
def tw12809762848337759551:=0
def tw9047886824352485572:=0
def tw13047545435529762813:=0
def tw13120472595630063550:=0
def tw3663069209531157979:=0
def tw9575510595482020341:=0
def tw5776723560846391538:=0
def tw11627007225478404550:=0
def tw9184562480053241157:=0
def tw14461504058451096053:=0
def tw13435662949339454360:=0
def tw11631608626461064805:=0
def tw986597562797856687:=0
def tw6404202206817891044:=0
def tw5256509741636308686:=0
def tw135512947834993725:=0
def tw16547166562932298695:=0
def tw12692429081491407433:=0
def tw17337232686880915216:=0
def tw10238862465438076139:=0
def tw4010580593945043540:=0
def tw1232551992939785638:=0
def tw16225932085772007798:=0
def tw6988140089918225859:=0
def tw45605820181952108:=0
def tw1830933619959619181:=0
def tw6190395361839895614:=0
def tw15796886118510578187:=0
def tw18411210183274677656:=0
def tw1072502841460248798:=0
def tw884942325252390993:=0
def tw4187498683632086994:=0
def tw13959485700097714897:=0
def tw12296945840616669919:=0
def tw18048797007838225475:=0
def tw441507343592710938:=0
def tw16317286008943102563:=0
def tw9988659730576037034:=0
def tw5724294442653134168:=0
def tw4614412803789609095:=0
def tw13711501825424280393:=0
def tw14758879881830044754:=0
def tw4247047345800897579:=0
def tw5188896602570363166:=0
def tw4672289586159141911:=0
def tw12154790898766712547:=0
def tw16670798089519079190:=0
def tw1862702153598624543:=0
def tw473168225500143409:=0
end PySem.W.Fast
open PySem PySem.W PyProof.Rows
set_option maxRecDepth 100000 in
set_option maxHeartbeats 0 in
theorem PySem.Challenge.cw_mumtrial_k30_leaves_holds : PySem.Challenge.rw_mumtrial_k30_leaves.Holds := by
 w_on;o_law;k_head;(case hw=>w_witness2)
 k_fill
 refine L2.walk_ofK (l:=PySem.Challenge.rw_mumtrial_k30_leaves) (n:=63) (k:=9) (x:="script") (CX:=L2.CX0) (sp:=Mum.sp_law30) rfl (by decide) rfl ⟨rfl,by decide,by decide⟩ (fun w h Y=>PySem.W.kIn_of Y) ?F (fun _ _ a ns hl _ hS=>⟨a,ns,rfl,hS,hl,fun _=>rfl⟩) (fun _ _ _ _ z=>z)
 case F =>
  intro w mg fa h KX G hmg;refine' Mum.all_mk KX G hmg ?aC ?pg ?hd ?po ?sa ?mk ?kc ?na1 ?na2 ?na3 ?na4 ?na5 ?na6 ?na7 ?na8 ?z_all ?z_bool ?z_dict ?z_enumerate ?z_int ?z_isinstance ?z_len ?z_list ?z_range ?z_reversed ?z_sorted ?z_str ?z_tuple ?z_zip ?g_LETTERS ?r_LETTERS ?g_LONGEST_NAME ?r_LONGEST_NAME ?g_MOST_WORDS ?r_MOST_WORDS ?g_MOST_ROOMS ?r_MOST_ROOMS ?g_MOST_DOORS ?r_MOST_DOORS ?g_MOST_WITHIN ?r_MOST_WITHIN ?g_MOST_TRIALS ?r_MOST_TRIALS ?g_STILL ?l_STILL ?c_STILL ?d_STILL ?s_STILL ?v_STILL ?g_HUSH ?l_HUSH ?c_HUSH ?d_HUSH ?s_HUSH ?v_HUSH ?g_BLAME ?l_BLAME ?c_BLAME ?d_BLAME ?s_BLAME ?v_BLAME ?g_END ?l_END ?c_END ?d_END ?s_END ?v_END ?T
  (case aC|pg|hd|po|sa|mk|kc|na1|na2|na3|na4|na5|na6|na7|na8|z_all|z_bool|z_dict|z_enumerate|z_int|z_isinstance|z_len|z_list|z_range|z_reversed|z_sorted|z_str|z_tuple|z_zip|g_LETTERS=>k_is)
  (case r_LETTERS=>exact⟨_,rfl⟩)
  (case g_LONGEST_NAME=>k_is)
  (case r_LONGEST_NAME=>exact⟨_,rfl⟩)
  (case g_MOST_WORDS=>k_is)
  (case r_MOST_WORDS=>exact⟨_,rfl⟩)
  (case g_MOST_ROOMS=>k_is)
  (case r_MOST_ROOMS=>exact⟨_,rfl⟩)
  (case g_MOST_DOORS=>k_is)
  (case r_MOST_DOORS=>exact⟨_,rfl⟩)
  (case g_MOST_WITHIN=>k_is)
  (case r_MOST_WITHIN=>exact⟨_,rfl⟩)
  (case g_MOST_TRIALS=>k_is)
  (case r_MOST_TRIALS=>exact⟨_,rfl⟩)
  (case g_STILL|l_STILL=>k_is)
  (case c_STILL|d_STILL=>rfl)
  (case s_STILL=>decide)
  (case v_STILL=>exact .cons ⟨_,rfl⟩ .nil)
  (case g_HUSH|l_HUSH=>k_is)
  (case c_HUSH|d_HUSH=>rfl)
  (case s_HUSH=>decide)
  (case v_HUSH=>exact .cons ⟨_,rfl⟩ .nil)
  (case g_BLAME|l_BLAME=>k_is)
  (case c_BLAME|d_BLAME=>rfl)
  (case s_BLAME=>decide)
  (case v_BLAME=>exact .cons ⟨_,rfl⟩ .nil)
  (case g_END|l_END=>k_is)
  (case c_END|d_END=>rfl)
  (case s_END=>decide)
  (case v_END=>exact .cons ⟨_,rfl⟩ .nil)
  (case T=>constructor<;>first|(refine' Mum.fnG_mk ?a ?l ?c ?k;(case a=>k_is);(case l=>k_is);(case c=>k_is);(case k=>k_is))|(refine' Mum.fnM_mk ?a ?i ?l ?c ?k;(case a=>k_is);(case i=>k_is);(case l=>k_is);(case c=>k_is);(case k=>k_is)))
