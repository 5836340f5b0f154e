
import PyProof.Rows.All
import Wide.All
import OpenK.AllK
import Wide.FinOn
import Lean
import PyProof.EqAt
import PyProof.EqKinds
import PyProof.TupleCall
import PyProof.NeKinds
import PyProof.DictIter
import PyProof.DictWalks
import PyProof.RaisesMany
import PyProof.RulesAs
import PyProof.NsDelKeeps
import PyProof.InstStoreFacts
import PyProof.ExcClass3
import PyProof.ExcInit
import KE.KTryMore
import PyProof.AutoSeq1
import PyProof.WalkInts
import PyProof.DictItems
import PyProof.DictItemsLoops
import KE.KPairComp
import PyProof.DictValues
import PyProof.SumAny
import PyProof.Rows.SumAny
import KE.IntBitsLaws
import PySem.Challenge.RW_mumtrial_k41_made_counted
noncomputable section
open PySem renaming Program->bj,reduceHash->xD,wpAny_mono->kB,wpAny_bind->ar,wpAny_specialOf->zh,wpAny_call_entry->xC,wpAny_pure->aN,wpAny_rule->sG,Builtin->cI,wpAny_holding->mx,wpAny_truthy_bool->nL,sizeLine->aj,sysModules->fk,mainGlobals->bm,bootBuiltins->gP,starEach->aw,compareOp->c9,behindInMarks->iq,standAt->mr,holding->iD,wpAny_execs_nil->vD,swapsWith->mq,assignEach->pO,wpAny_passesOwn->nK,letOwnedTupleGo->vB,wpAny_pyIter_list->vA,foldedSetIterable->sF,binaryOp->jC,sizeLine_eq->pN,getMethod->mn,codeAny->zzl72,attributeBase->pL,FuncData->ip,BindsTo->nI,codeAny_mono->vv,wpAny_Call_Name_kw->vt,callWith->pK,backToKw->kq,keywordEach->ko,NameKind->gK,mem_of_lookup->sy,getItem->jN,subscripted->qJ,sliceBounds->jM,Keyword->lC,call_meets->qH,valueAt->jL,call_meetsIn->nV,callerA->iL,DictEntry->iK,wpAny_newObj_type->qC,wpAny_dictEntries->qy,wpAny_typeNameOfWhole_keyiter->qv,wpAny_typeNameOf_keyiter->qt
open PySem.Builtin.Tuple renaming tupleHashOf->uk
open Bool renaming false_ne_true->fI,not_true->vE,false_eq_true->nR,eq_iff_iff->sE,true_and->nN
open Nat renaming add_assoc->zg,le_refl->ax,lt_of_lt_of_le->fK,lt_irrefl->mv,ne_of_lt->b_,le_trans->aJ,le_of_lt->cM,ne_of_gt->vC,zero_le->ee,sub_zero->qw,mod_lt->nP,succ_mul->lr,mul_le_mul_right->g_
open List renaming append_nil->c6,range->kA,mem_filter->dC,mem_cons_self->eR,mem_cons_of_mem->eQ,mem_cons->c_,mem_append->aU,mem_append_left->cz,getElem?_eq_some_iff->bT,mem_append_right->cL,length_cons->d_,lookup->d9,map_cons->a_,length_map->ai,nodup_cons->nH,length_take->aL,getElem?_append_left->sw,getElem?_map->gJ,mem_of_getElem?->dB,length_append->bf,length_drop->fO,size_toArray->bt,find?_cons->lA,any_cons->qG,nodup_nil->nW,map_nil->qE,lookup_cons->fN,mem_map->aE,any_toArray->qA,drop_zero->ly,take_length->aX,getElem?_eq_getElem->iI,mem_singleton->eh,map_append->ap,nodup_append->cG,drop_of_length_le->qx,take_of_length_le->qr,map_take->qq,mem_of_mem_take->dO,append_assoc->dL,nodup_iff_pairwise_ne->qp,map_map->iH,mem_map_of_mem->nO,filter_append->fM,length_filter_le->ca,filter_cons_of_neg->qo,filter_cons_of_pos->qk
open Option.some renaming inj->da
open PySem.W renaming instObj->mw,lookIn->vz,plainGet->nJ,hasDictIn->pM,findIn->bX,isFn->sD,plainOver->sC,makesIn->ky,emptyDict->kr,keepIn->eP,kitOne->vx,kia_one->gL,fnOf->fP,codeIn->jO,nsIn->bM,mg_of->dJ,mg_none_of->fL
open PySem.Heap renaming lt_size->be,SameBut->iE,get?_push_of_some->bY,get?_push_size->dI
open PyProof.Rows renaming AllBare->kz,IntsAre->nU
open Ne renaming symm->fJ
open Array renaming length_toList->jD
open False renaming elim->gO
open PySem.Str renaming empty->vy
open True renaming intro->gM
open PySem.Calls renaming spliced_cons->vw,callWith_builtin->qI
open Option renaming isSome_iff_exists->vq,map_some->nX,map_eq_some_iff->nM
open Int renaming toNat_natCast->lD,emod_nonneg->lx,emod_lt_of_pos->lu,eq_ofNat_of_zero_le->jK
open PySem.Obj renaming mapSeq->nY
open PySem.Paired renaming snoc->hC
open PySem.F renaming slot_dict_get->lz,entry_dict_get->qF,slot_dict_keyiterator_next->nQ,plainAttrs_list->gD,slot_list_append->iG,type_list_append->iF
open ForInStep renaming yield->qD
open PySem.NameKind renaming free->iJ
open PySem.SeqAt renaming EqAt->aH
open PySem.Builtin.Str renaming strSliceIndices->nT
open PySem.Txt renaming join->qz
open PySem.Heap.SameBut renaming update->nS
open PySem.PassesOwn renaming never->bp
theorem Q0:0<=PySem.sizeLine:=by decide
theorem Q1:1<=PySem.sizeLine:=by decide
theorem Q2:2<=PySem.sizeLine:=by decide
theorem Q3:3<=PySem.sizeLine:=by decide
theorem Q4:4<=PySem.sizeLine:=by decide
theorem Q6:6<=PySem.sizeLine:=by decide
theorem zzr0{p:Prop}[Decidable p](h:¬p):decide p=false:=decide_eq_false h
theorem zzr1{p:Prop}[Decidable p](h:p):decide p=true:=decide_eq_true h
abbrev Za:=PySem.W.Frag
abbrev Zb:=List PySem.Str
abbrev Zc:=PySem.Value->PySem.Shared->Prop
abbrev Zd:=List (PySem.Addr×PySem.Obj)
abbrev Ze:=List PySem.Addr
abbrev Zf:=List PySem.Value
section
set_option Elab.async false
set_option linter.all false
set_option maxRecDepth 100000
set_option maxHeartbeats 4000000
namespace L2
open PySem PySem.Spec PyProof.Rows
open Sem (wp)
abbrev di:=Sum Int Str
def b0:di->Value->Bool
 |.inl k,v=>Value.isInt k v
 |.inr x,v=>Value.isStrOf x v
def BA(w:World):di->Int
 |.inl k=>hashInt k
 |.inr x=>hashStr w x
theorem ao:∀{k:di}{v:Value},b0 k v=true->(∃i t,k=Sum.inl i/\v=Value.int i t)∨(∃x t,k=Sum.inr x/\v=Value.str x t)
 |.inl i,v,h=>by
  obtain⟨t,e⟩:=Value.isInt_shape (k:=i) (v:=v) h;exact .inl ⟨i,t,rfl,e⟩
 |.inr x,v,h=>by
  obtain⟨t,e⟩:=Value.isStrOf_shape (x:=x) (v:=v) h;exact .inr ⟨x,t,rfl,e⟩
theorem jo(i:Int)(t:Tok):b0 (.inl i) (.int i t)=true:=by simp[b0,Value.isInt]
theorem jn(x:Str)(t:Tok):b0 (.inr x) (.str x t)=true:=by simp[b0,Value.isStrOf]
theorem rP(a b:Int):decide ((Sum.inl a:di)=Sum.inl b)=(a==b):=by
 by_cases e:a=b
 ·subst e;simp
 ·have h:¬(Sum.inl a:di)=Sum.inl b:=fun q=>e (Sum.inl.inj q);rw[zzr0 h];exact(beq_eq_false_iff_ne.mpr e).symm
theorem rL(a b:Str):decide ((Sum.inr a:di)=Sum.inr b)=decide (a=b):=by
 by_cases e:a=b
 ·subst e;simp
 ·have h:¬(Sum.inr a:di)=Sum.inr b:=fun q=>e (Sum.inr.inj q);rw[zzr0 h,zzr0 e]
theorem rO(a:Int)(b:Str):decide ((Sum.inl a:di)=Sum.inr b)=false:=zzr0 (fun q=>nomatch q)
theorem rM(a:Str)(b:Int):decide ((Sum.inr a:di)=Sum.inl b)=false:=zzr0 (fun q=>nomatch q)
def bx(prog:bj)(w:World):PySem.KeyKind prog w di where
 is:=b0
 hash:=BA w
 inj:=fun v a b ha hb=>by
  rcases ao ha with⟨i,t,rfl,rfl⟩|⟨x,t,rfl,rfl⟩
  ·rcases ao hb with⟨j,u,rfl,e⟩|⟨y,u,rfl,e⟩
   ·injection e with e1 _;rw[e1]
   ·exact nomatch e
  ·rcases ao hb with⟨j,u,rfl,e⟩|⟨y,u,rfl,e⟩
   ·exact nomatch e
   ·injection e with e1 _;rw[e1]
 byValue:=fun k v h=>by
  rcases ao h with⟨i,t,rfl,rfl⟩|⟨x,t,rfl,rfl⟩<;>rfl
 pyHash:=fun hv h=>by
  rcases ao hv with⟨i,t,rfl,rfl⟩|⟨x,t,rfl,rfl⟩
  ·exact wpAny_pyHash_int h
  ·exact wpAny_pyHash_str h
 eqBool:=fun hu hv h=>by
  rcases ao hu with⟨i,t,rfl,rfl⟩|⟨x,t,rfl,rfl⟩
  ·rcases ao hv with⟨j,u,rfl,rfl⟩|⟨y,u,rfl,rfl⟩
   ·rw[rP]at h;exact wpAny_eqBool_int h
   ·rw[rO]at h;exact aH.int_str i t y u _ _ _ _ h
  ·rcases ao hv with⟨j,u,rfl,rfl⟩|⟨y,u,rfl,rfl⟩
   ·rw[rM]at h;exact aH.str_int x t j u _ _ _ _ h
   ·rw[rL]at h;exact wpAny_eqBool_str h
 «strs»:=fun k x t v h=>by
  rcases ao h with⟨i,u,rfl,e⟩|⟨y,u,rfl,e⟩
  ·exact nomatch e
  ·injection e with e1 _;subst e1;cases v<;>rfl
theorem tI(prog:bj)(w:World)(i:Int)(t:Tok):(bx prog w).is (.inl i) (.int i t)=true:=jo i t
theorem tH(prog:bj)(w:World)(x:Str)(t:Tok):(bx prog w).is (.inr x) (.str x t)=true:=jn x t
end L2
namespace L2
open PySem PySem.Spec PyProof.Rows
open Sem (wp)
abbrev ki:=Option di
def f6:ki->Value->Bool
 |none,v=>match v with
  |.none=>true
  |_=>false
 |some k,v=>b0 k v
def Ay(w:World):ki->Int
 |none=>xD 4238894112
 |some k=>BA w k
theorem aZ:∀{k:ki}{v:Value},f6 k v=true->(∃i t,k=some (Sum.inl i)/\v=Value.int i t)∨(∃x t,k=some (Sum.inr x)/\v=Value.str x t)∨(k=none/\v=Value.none)
 |none,v,h=>by
  refine .inr (.inr ⟨rfl,?_⟩);cases v<;>first|rfl|cases h
 |some k,v,h=>by
  rcases ao (show b0 k v=true from h)with⟨i,t,rfl,rfl⟩|⟨i,t,rfl,rfl⟩
  ·exact .inl ⟨i,t,rfl,rfl⟩
  ·exact .inr (.inl ⟨i,t,rfl,rfl⟩)
theorem oN{a b:ki}{v:Value}(h1:f6 a v=true)(h2:f6 b v=true):a=b:=by
 rcases aZ h1 with⟨i,t,rfl,rfl⟩|⟨i,t,rfl,rfl⟩|⟨rfl,rfl⟩<;>rcases aZ h2 with⟨j,u,rfl,e⟩|⟨j,u,rfl,e⟩|⟨rfl,e⟩<;>first|rfl|(cases e;rfl)|cases e
def tG(prog:bj)(w:World):PySem.KeyKind prog w ki where
 is:=f6
 hash:=Ay w
 inj:=fun v a b ha hb=>oN ha hb
 byValue:=fun k v h=>by
  rcases aZ h with⟨i,t,rfl,rfl⟩|⟨x,t,rfl,rfl⟩|⟨rfl,rfl⟩<;>rfl
 pyHash:=fun{A E s k v Q} hv h=>by
  rcases aZ hv with⟨i,t,rfl,rfl⟩|⟨x,t,rfl,rfl⟩|⟨rfl,rfl⟩
  ·exact wpAny_pyHash_int h
  ·exact wpAny_pyHash_str h
  ·refine PySem.W.pyHash_slot (T:="NoneType") rfl F.slot_NoneType_hash F.entry_NoneType_hash (F.args_NoneType_hash_1 _) (by rw[beq_builtin_none]) (.inl rfl) ?_;show wpAny _ _ (retInt 4238894112) _ _ _;refine kB (wpAny_ret_mkInt (Q:=fun v s'=>∃n t,v=Value.int n t/\Q (xD n) s') ⟨_,_,rfl,h⟩) (fun fin s' ⟨v,e,n,t,e2,q⟩=>⟨n,t,by rw[e,e2],q⟩) (fun _ _ z=>z)
 eqBool:=fun{A E s a b u v Q} hu hv h=>by
  rcases aZ hu with⟨i,t,rfl,rfl⟩|⟨x,t,rfl,rfl⟩|⟨rfl,rfl⟩
  ·rcases aZ hv with⟨j,u,rfl,rfl⟩|⟨y,u,rfl,rfl⟩|⟨rfl,rfl⟩
   ·exact(bx prog w).eqBool (a:=.inl i) (b:=.inl j) (jo i t) (jo j u) (by rw[show decide ((Sum.inl i:di)=Sum.inl j)=decide ((some (Sum.inl i):ki)=some (Sum.inl j))from decide_eq_decide.mpr ⟨fun z=>by rw[z],fun z=>by injection z⟩];exact h)
   ·rw[zzr0 (by intro z;injection z with z;cases z)]at h;exact aH.int_str i t y u _ _ _ _ h
   ·rw[zzr0 (by intro z;cases z)]at h;exact aH.int_none i t _ _ _ _ h
  ·rcases aZ hv with⟨j,u,rfl,rfl⟩|⟨y,u,rfl,rfl⟩|⟨rfl,rfl⟩
   ·rw[zzr0 (by intro z;injection z with z;cases z)]at h;exact aH.str_int x t j u _ _ _ _ h
   ·exact(bx prog w).eqBool (a:=.inr x) (b:=.inr y) (jn x t) (jn y u) (by rw[show decide ((Sum.inr x:di)=Sum.inr y)=decide ((some (Sum.inr x):ki)=some (Sum.inr y))from decide_eq_decide.mpr ⟨fun z=>by rw[z],fun z=>by injection z⟩];exact h)
   ·rw[zzr0 (by intro z;cases z)]at h;exact aH.str_none x t _ _ _ _ h
  ·rcases aZ hv with⟨j,u,rfl,rfl⟩|⟨y,u,rfl,rfl⟩|⟨rfl,rfl⟩
   ·rw[zzr0 (by intro z;cases z)]at h;exact aH.none_int j u _ _ _ _ h
   ·rw[zzr0 (by intro z;cases z)]at h;exact aH.none_str y u _ _ _ _ h
   ·rw[zzr1 rfl]at h;exact aH.same _ _ _ _ _ h
 «strs»:=fun k x t v h=>by
  rcases aZ h with⟨i,u,rfl,e⟩|⟨y,u,rfl,e⟩|⟨rfl,e⟩
  ·exact nomatch e
  ·injection e with e1 _;subst e1;cases v<;>rfl
  ·exact nomatch e
inductive TK where
 |k (a:ki)
 |t (l:List TK)
mutual
def AE:(x y:TK)->Decidable (x=y)
 |.k a,.k b=>if h:a=b then Decidable.isTrue (by rw[h])else Decidable.isFalse fun e=>h (by injection e)
 |.t l,.t m=>match decTKs l m with
  |Decidable.isTrue h=>Decidable.isTrue (by rw[h])
  |Decidable.isFalse h=>Decidable.isFalse fun e=>h (by injection e)
 |.k _,.t _=>Decidable.isFalse nofun
 |.t _,.k _=>Decidable.isFalse nofun
def decTKs:(x y:List TK)->Decidable (x=y)
 |[],[]=>Decidable.isTrue rfl
 |[],_::_=>Decidable.isFalse nofun
 |_::_,[]=>Decidable.isFalse nofun
 |a::l,b::m=>match AE a b with
  |Decidable.isTrue h=>match decTKs l m with
   |Decidable.isTrue h'=>Decidable.isTrue (by rw[h,h'])
   |Decidable.isFalse h'=>Decidable.isFalse fun e=>h' (by injection e)
  |Decidable.isFalse h=>Decidable.isFalse fun e=>h (by injection e)
end
instance:DecidableEq TK:=AE
mutual
def TK.depth:TK->Nat
 |.k _=>0
 |.t l=>TK.depths l+1
def TK.depths:List TK->Nat
 |[]=>0
 |a::r=>max (TK.depth a) (TK.depths r)
end
mutual
def TK.hash(w:World):TK->Int
 |.k a=>Ay w a
 |.t l=>xD (uk (TK.hashs w l))
def TK.hashs(w:World):List TK->List Int
 |[]=>[]
 |a::r=>TK.hash w a::TK.hashs w r
end
mutual
def TK.draws:TK->Nat
 |.k _=>1
 |.t l=>TK.drawss l+1
def TK.drawss:List TK->Nat
 |[]=>0
 |a::r=>TK.draws a+TK.drawss r
end
mutual
def jB(h:Heap):TK->Value->Prop
 |.k a,v=>f6 a v=true
 |.t l,v=>∃a o items n,v=.ref a/\h.get? a=some o/\o.cls=.type "tuple"/\o.data=.seq items n/\TAts h l items.toList
def TAts(h:Heap):List TK->List Value->Prop
 |[],vs=>vs=[]
 |k::r,vs=>∃v us,vs=v::us/\jB h k v/\TAts h r us
end
theorem jB.inj{h:Heap}:∀(d:Nat) {x y:TK}{v:Value},x.depth<=d->jB h x v->jB h y v->x=y:=by
 have key:∀(d:Nat) (ih:∀{x y:TK}{v:Value},x.depth<=d->jB h x v->jB h y v->x=y) (xs ys:List TK) (vs:Zf),TK.depths xs<=d->TAts h xs vs->TAts h ys vs->xs=ys:=by
  intro d ih xs
  induction xs with
  |nil =>
   intro ys vs _ hx hy;have hx':vs=[]:=hx;subst hx';cases ys with
   |nil=>rfl
   |cons y ys=>obtain⟨_,_,e,_⟩:=hy;cases e
  |cons x xs ihl =>
   intro ys vs hd hx hy;obtain⟨v,us,rfl,hx1,hx2⟩:=hx;cases ys with
   |nil=>have hy':v::us=[]:=hy;cases hy'
   |cons y ys =>
    obtain⟨v',us',e,hy1,hy2⟩:=hy;cases e;have hd':max x.depth (TK.depths xs)<=d:=hd;rw[ih (by omega) hx1 hy1,ihl ys us (by omega) hx2 hy2]
 have leaf:∀(a:ki) (l:List TK) (v:Value),jB h (.k a) v->jB h (.t l) v->False:=by
  intro a l v h1 h2;obtain⟨b,o,items,n,rfl,_⟩:=h2;rcases aZ (show f6 a (.ref b)=true from h1)with⟨_,_,_,e⟩|⟨_,_,_,e⟩|⟨_,e⟩<;>cases e
 have kk:∀(a b:ki) (v:Value),f6 a v=true->f6 b v=true->a=b:=fun a b v h1 h2=>oN h1 h2;intro d
 induction d with
 |zero =>
  intro x y v hd hx hy;cases x with
  |t l=>exact absurd hd (by show ¬(TK.depths l+1<=0);omega)
  |k a =>
   cases y with
   |k b=>rw[kk a b v hx hy]
   |t l=>exact(leaf a l v hx hy).elim
 |succ d ih =>
  intro x y v hd hx hy;cases x with
  |k a =>
   cases y with
   |k b=>rw[kk a b v hx hy]
   |t l=>exact(leaf a l v hx hy).elim
  |t l =>
   cases y with
   |k b=>exact(leaf b l v hy hx).elim
   |t l' =>
    obtain⟨a,o,items,n,rfl,ho,hc,hdt,hi⟩:=hx;obtain⟨a',o',items',n',e,ho',hc',hdt',hi'⟩:=hy;cases e;rw[ho]at ho';cases ho';rw[hdt]at hdt';injection hdt' with e1 _;subst e1;rw[key d (fun h1=>ih h1) l l' items.toList (by have:TK.depths l+1<=d+1:=hd;omega) hi hi']
theorem jB.mono{h h':Heap}(k:∀a o items n,h.get? a=some o->o.cls=.type "tuple"->o.data=.seq items n->h'.get? a=some o):∀(d:Nat) {x:TK}{v:Value},x.depth<=d->jB h x v->jB h' x v:=by
 have key:∀(d:Nat) (ih:∀{x:TK}{v:Value},x.depth<=d->jB h x v->jB h' x v) (xs:List TK) (vs:Zf),TK.depths xs<=d->TAts h xs vs->TAts h' xs vs:=by
  intro d ih xs
  induction xs with
  |nil=>intro vs _ hx;exact hx
  |cons x xs ihl =>
   intro vs hd hx;obtain⟨v,us,rfl,hx1,hx2⟩:=hx;have hd':max x.depth (TK.depths xs)<=d:=hd;exact⟨v,us,rfl,ih (by omega) hx1,ihl us (by omega) hx2⟩
 intro d
 induction d with
 |zero =>
  intro x v hd hx;cases x with
  |t l=>exact absurd hd (by show ¬(TK.depths l+1<=0);omega)
  |k a=>exact hx
 |succ d ih =>
  intro x v hd hx;cases x with
  |k a=>exact hx
  |t l =>
   obtain⟨a,o,items,n,rfl,ho,hc,hdt,hi⟩:=hx;exact⟨a,o,items,n,rfl,k a o items n ho hc hdt,hc,hdt,key d (fun h1=>ih h1) l _ (by have:TK.depths l+1<=d+1:=hd;omega) hi⟩
section
variable{prog:bj}{w:World}
theorem zn:∀(d:Nat) {A:Around}{E:Zc}{s:Shared}{k:TK}{v:Value}{Q:Int->Shared->Prop},k.depth<=d->A.units+d<cLine->jB s.heap k v->Q (k.hash w) { s with toks:=s.toks+k.draws } ->
  wpAny (model prog w) A (pyHash v) Q E s:=by
 intro d
 induction d with
 |zero =>
  intro A E s k v Q hd hu hk h;cases k with
  |t l=>exact absurd hd (by show ¬(TK.depths l+1<=0);omega)
  |k a=>exact(tG prog w).pyHash (k:=a) hk h
 |succ d ih =>
  intro A E s k v Q hd hu hk h;cases k with
  |k a=>exact(tG prog w).pyHash (k:=a) hk h
  |t l =>
   obtain⟨a,o,items,n,rfl,ho,hc,hdt,hi⟩:=hk;have hT:s.TypeIs (.ref a) "tuple":=⟨o,ho,hc⟩;have hdl:TK.depths l<=d:=by have:TK.depths l+1<=d+1:=hd;omega
   unfold pyHash
   first|unfold pyHashByItsType|skip
   first|refine ar (wpAny_cRoomFor_or (.inr (by omega)) ?_)|skip
   refine ar (zh hT F.slot_tuple_hash.lookup ?_);show wpAny _ _ (if(some (Value.builtin "tuple.__hash__")==some Value.none)=true then _ else _) Q E s
   rw[if_neg (by rw[beq_builtin_none];exact fI)];refine ar (zh hT F.slot_tuple_hash.lookup ?_);show wpAny _ _ (callSpecialIfBoundUnlessNone? (.ref a) "__hash__" _ >>= _) Q E s;refine ar (wpAny_callSpecialIfBoundUnlessNone?_slot hT F.slot_tuple_hash (xC F.slot_tuple_hash hT F.entry_tuple_hash ?_ (F.args_tuple_hash_1 _)));show wpAny _ _ (cI.Tuple.tupleItemsOf (.ref a) >>= _) _ _ s;refine ar (wpAny_tupleItemsOf ho hdt ?_);refine ar ?_;rw[<-Array.forIn_toList];refine wpAny_forIn_list _
    (fun rest (b:Array Int) s'=>∃done left,l=done++left/\TAts s.heap left rest/\b.toList=TK.hashs w done/\s'={ s with toks:=s.toks+TK.drawss done })
    _ ?_ ?_ _ _ ⟨[],l,rfl,hi,rfl,rfl⟩
   ·rintro x rest b s' ⟨done,left,e,hl,hb,rfl⟩;cases left with
    |nil=>have hl':x::rest=[]:=hl;cases hl'
    |cons k' left =>
     obtain⟨x',rest',e',h1,h2⟩:=hl;cases e';have hdk:k'.depth<=d:=by
      have gen:∀(p:List TK),TK.depths (p++k'::left)<=d->k'.depth<=d:=by
       intro p
       induction p with
       |nil=>intro hp;have hp':max k'.depth (TK.depths left)<=d:=hp;omega
       |cons q p ihp=>intro hp;have hp':max q.depth (TK.depths (p++k'::left))<=d:=hp;exact ihp (by omega)
      exact gen done (by rw[<-e];exact hdl)
     have hs:TK.hashs w (done++[k'])=TK.hashs w done++[k'.hash w]:=by
      clear e hb
      induction done with
      |nil=>rfl
      |cons q p ihp=>show _::TK.hashs w (p++[k'])=_;rw[ihp];rfl
     have hdr:TK.drawss (done++[k'])=TK.drawss done+k'.draws:=by
      clear e hb hs
      induction done with
      |nil=>show k'.draws+0=0+k'.draws;omega
      |cons q p ihp=>show q.draws+TK.drawss (p++[k'])=q.draws+TK.drawss p+k'.draws;rw[ihp];omega
     refine ar (ih (k:=k') hdk (by show A.units+1+d<cLine;omega) h1 ?_)
     first
      |exact aN ⟨done++[k'],left,by rw[e];simp,h2,by rw[hs];simp[hb],by rw[hdr];simp[zg]⟩
      |exact ar (aN (aN ⟨done++[k'],left,by rw[e];simp,h2,by rw[hs];simp[hb],by rw[hdr];simp[zg]⟩))
   ·rintro b s' ⟨done,left,e,hl,hb,rfl⟩;cases left with
    |cons k' left=>obtain⟨_,_,e',_⟩:=hl;cases e'
    |nil =>
     rw[c6]at e;subst e;show wpAny _ _ (retInt (uk b.toList)) _ _ _;rw[hb];refine wpAny_ret_mkInt ?_;have h':Q (xD (uk (TK.hashs w l))) { s with toks:=s.toks+(TK.drawss l+1) }:=h;show wpAny _ _ (if(decide (-(2:Int) ^ 63<=uk (TK.hashs w l)) && decide (uk (TK.hashs w l)<2 ^ 63))=true then _ else _) Q E _
     unfold xD at h';by_cases hr:(decide (-(2:Int) ^ 63<=uk (TK.hashs w l)) && decide (uk (TK.hashs w l)<2 ^ 63))=true
     ·rw[if_pos hr];rw[if_pos hr]at h';exact aN (by simpa[zg]using h')
     ·rw[if_neg hr];rw[if_neg hr]at h';exact ar (sG (aN (by simpa[zg]using h')))
theorem wu(d:Nat)(ih:∀{A:Around}{E:Zc}{s:Shared}{x y:TK}{u v:Value}{Q:Bool->Shared->Prop},x.depth<=d->y.depth<=d->A.units+d<cLine->jB s.heap x u->jB s.heap y v->Q (decide (x=y)) s->wpAny (model prog w) A (eqBool u v) Q E s)
  {A:Around}{E:Zc}{s:Shared}{x y:List TK}{a b:Addr}{P:Fin->Shared->Prop}{oa ob:Obj}{xs ys:Array Value}{na nb:Nat}(hx:TK.depths x<=d) (hy:TK.depths y<=d) (hu:A.units+d<cLine)
  (hoa:s.heap.get? a=some oa) (hda:oa.data=.seq xs na) (hia:TAts s.heap x xs.toList) (hob:s.heap.get? b=some ob) (hcb:ob.cls=.type "tuple") (hdb:ob.data=.seq ys nb) (hib:TAts s.heap y ys.toList)
  (h:P (.done (.ret (.bool (decide (x=y))))) s):wpAny (model prog w) A (cI.«tuple.__eq__» ⟨[.ref a,.ref b],[]⟩) P E s:=by
 have hTb:s.TypeIs (.ref b) "tuple":=⟨ob,hob,hcb⟩;show wpAny _ _ (isInstance (.ref b) (.type "tuple") >>= _) _ _ s;refine ar (wpAny_isInstance hTb isSubtype_tuple_tuple ?_);simp only[vE,nR,if_false];refine ar (wpAny_tupleItemsOf hoa hda ?_);refine ar (wpAny_tupleItemsOf hob hdb ?_);refine ar ?_;refine wpAny_forIn_list _
  (fun rest r s'=>r.1=none/\s'=s/\∃x' y' xs' ys',rest=List.zip xs' ys'/\TAts s.heap x' xs'/\TAts s.heap y' ys'/\TK.depths x'<=d/\TK.depths y'<=d/\decide (x'=y')=decide (x=y)/\(xs'.length==ys'.length)=(xs.size==ys.size))
  _ ?_ ?_ _ _ ⟨rfl,rfl,x,y,xs.toList,ys.toList,rfl,hia,hib,hx,hy,rfl,by simp⟩
 ·rintro⟨u,v⟩ rest r s' ⟨hr,rfl,x',y',xs',ys',hz,hx',hy',dx,dy,hdec,hlen⟩;cases x' with
  |nil =>
   have e:xs'=[]:=hx';subst e;simp at hz
  |cons k1 x'' =>
   obtain⟨u',xs'',rfl,h1,hx''⟩:=hx';cases y' with
   |nil =>
    have e:ys'=[]:=hy';subst e;simp at hz
   |cons k2 y'' =>
    obtain⟨v',ys'',rfl,h2,hy''⟩:=hy';simp only[List.zip_cons_cons,List.cons.injEq,Prod.mk.injEq]at hz;obtain⟨⟨rfl,rfl⟩,rfl⟩:=hz;have dx':max k1.depth (TK.depths x'')<=d:=dx;have dy':max k2.depth (TK.depths y'')<=d:=dy;refine ar (ih (x:=k1) (y:=k2) (by omega) (by omega) hu h1 h2 ?_);by_cases hk:k1=k2
    ·subst hk;rw[zzr1 rfl];simp only[vE,nR,if_false];refine aN ⟨rfl,rfl,x'',y'',xs'',ys'',rfl,hx'',hy'',by omega,by omega,?_,by simpa using hlen⟩;rw[<-hdec];by_cases hxy:x''=y''
     ·simp[hxy]
     ·simp[hxy]
    ·rw[zzr0 hk];simp only[Bool.not_false,if_true];have hf:decide (x=y)=false:=by rw[<-hdec];simp[hk]
     rw[hf]at h;exact ar (aN (aN (aN h)))
 ·rintro⟨r1,r2⟩ s' ⟨hr,rfl,x',y',xs',ys',hz,hx',hy',dx,dy,hdec,hlen⟩;simp only at hr;subst hr;refine aN ?_;have hfin:(xs.size==ys.size)=decide (x=y):=by
   rw[<-hdec,<-hlen];cases x' with
   |nil =>
    have e:xs'=[]:=hx';subst e;cases y' with
    |nil=>have e:ys'=[]:=hy';subst e;simp
    |cons _ _=>obtain⟨_,_,rfl,_⟩:=hy';simp
   |cons _ _ =>
    obtain⟨_,_,rfl,_⟩:=hx';cases y' with
    |nil=>have e:ys'=[]:=hy';subst e;simp
    |cons _ _=>obtain⟨_,_,rfl,_⟩:=hy';simp at hz
  show P (.done (.ret (.bool (xs.size==ys.size)))) s';rw[hfin];exact h
theorem Bn:∀(d:Nat) {A:Around}{E:Zc}{s:Shared}{x y:TK}{u v:Value}{Q:Bool->Shared->Prop},x.depth<=d->y.depth<=d->A.units+d<cLine->jB s.heap x u->jB s.heap y v->Q (decide (x=y)) s ->
  wpAny (model prog w) A (eqBool u v) Q E s:=by
 have mixed1:∀{A:Around}{E:Zc}{s:Shared}{a:ki}{l:List TK}{u v:Value}{Q:Bool->Shared->Prop},A.units<cLine->jB s.heap (.k a) u->jB s.heap (.t l) v->Q false s->wpAny (model prog w) A (eqBool u v) Q E s:=by
  intro A E s a l u v Q hu hx hy h;obtain⟨b,o,items,n,rfl,ho,hc,hdt,hi⟩:=hy;have ht:s.heap.IsTuple b items:=⟨o,ho,hc,n,hdt⟩;rcases aZ (show f6 a u=true from hx)with⟨i,t,rfl,rfl⟩|⟨i,t,rfl,rfl⟩|⟨rfl,rfl⟩
  ·exact aH.int_tuple i t ht hu prog w E Q h
  ·exact aH.str_tuple i t ht hu prog w E Q h
  ·exact aH.none_tuple ht hu prog w E Q h
 have mixed2:∀{A:Around}{E:Zc}{s:Shared}{a:ki}{l:List TK}{u v:Value}{Q:Bool->Shared->Prop},A.units<cLine->jB s.heap (.t l) u->jB s.heap (.k a) v->Q false s->wpAny (model prog w) A (eqBool u v) Q E s:=by
  intro A E s a l u v Q hu hx hy h;obtain⟨b,o,items,n,rfl,ho,hc,hdt,hi⟩:=hx;have ht:s.heap.IsTuple b items:=⟨o,ho,hc,n,hdt⟩;rcases aZ (show f6 a v=true from hy)with⟨i,t,rfl,rfl⟩|⟨i,t,rfl,rfl⟩|⟨rfl,rfl⟩
  ·exact aH.tuple_int i t ht hu prog w E Q h
  ·exact aH.tuple_str i t ht hu prog w E Q h
  ·exact aH.tuple_none ht hu prog w E Q h
 have leaves:∀{A:Around}{E:Zc}{s:Shared}{a b:ki}{u v:Value}{Q:Bool->Shared->Prop},jB s.heap (.k a) u->jB s.heap (.k b) v->Q (decide (TK.k a=TK.k b)) s->wpAny (model prog w) A (eqBool u v) Q E s:=by
  intro A E s a b u v Q hx hy h;refine(tG prog w).eqBool (a:=a) (b:=b) hx hy ?_;by_cases e:a=b
  ·subst e;simpa using h
  ·have:¬(TK.k a=TK.k b):=fun z=>e (by injection z);rw[zzr0 this]at h;rw[zzr0 e];exact h
 intro d
 induction d with
 |zero =>
  intro A E s x y u v Q hdx hdy hu hx hy h;cases x with
  |t l=>exact absurd hdx (by show ¬(TK.depths l+1<=0);omega)
  |k a =>
   cases y with
   |t l=>exact absurd hdy (by show ¬(TK.depths l+1<=0);omega)
   |k b=>exact leaves hx hy h
 |succ d ih =>
  intro A E s x y u v Q hdx hdy hu hx hy h;cases x with
  |k a =>
   cases y with
   |k b=>exact leaves hx hy h
   |t l =>
    rw[zzr0 (by intro z;cases z)]at h;exact mixed1 (by omega) hx hy h
  |t l =>
   cases y with
   |k b =>
    rw[zzr0 (by intro z;cases z)]at h;exact mixed2 (by omega) hx hy h
   |t m =>
    have hl:TK.depths l<=d:=by have:TK.depths l+1<=d+1:=hdx;omega
    have hm:TK.depths m<=d:=by have:TK.depths m+1<=d+1:=hdy;omega
    have hx0:=hx;have hy0:=hy;obtain⟨a,oa,xs,na,rfl,hoa,hca,hda,hia⟩:=hx;obtain⟨b,ob,ys,nb,rfl,hob,hcb,hdb,hib⟩:=hy;have hTa:s.TypeIs (.ref a) "tuple":=⟨oa,hoa,hca⟩;have hTb:s.TypeIs (.ref b) "tuple":=⟨ob,hob,hcb⟩;have hd':decide (TK.t l=TK.t m)=decide (l=m):=by
     by_cases e:l=m
     ·subst e;simp
     ·have:¬(TK.t l=TK.t m):=fun z=>e (by injection z);rw[zzr0 this,zzr0 e]
    unfold eqBool
    try with_reducible refine mx ?_
    show wpAny _ _ (if(Value.ref a==Value.ref b)=true then _ else _) Q E s
    by_cases hab:(Value.ref a==Value.ref b)=true
    ·rw[if_pos hab];have e:a=b:=by have:=eq_of_beq hab;injection this
     subst e;have e2:TK.t l=TK.t m:=jB.inj _ (ax _) hx0 hy0;rw[zzr1 e2]at h;exact ar (sG (aN h))
    ·rw[if_neg hab];rw[hd']at h;exact ar (wpAny_richCompare_same_room (op:=.Eq) hTa hTb F.slot_tuple_eq
      (xC F.slot_tuple_eq hTa F.entry_tuple_eq (wu d (fun h1 h2 h3 h4 h5 h6=>ih h1 h2 h3 h4 h5 h6) hl hm (by show A.units+1+d<cLine;omega) hoa hda hia hob hcb hdb hib ⟨_,rfl,(fun e=>nomatch e),nL h⟩) (F.args_tuple_eq_2 _ _)) (by omega))
theorem xJ:∀(d:Nat) {A:Around}{E:Zc}{s:Shared}{k:TK}{v:Value}{Q:Bool->Shared->Prop},k.depth<=d->jB s.heap k v->Q true s->wpAny (model prog w) A (eqIsQuiet d v) Q E s:=by
 intro d
 induction d with
 |zero =>
  intro A E s k v Q hd hk h;cases k with
  |t l=>exact absurd hd (by show ¬(TK.depths l+1<=0);omega)
  |k a=>rw[eqIsQuiet_byValue _ ((tG prog w).byValue a v hk)];exact aN h
 |succ d ih =>
  intro A E s k v Q hd hk h;cases k with
  |k a=>rw[eqIsQuiet_byValue _ ((tG prog w).byValue a v hk)];exact aN h
  |t l =>
   have hl:TK.depths l<=d:=by have:TK.depths l+1<=d+1:=hd;omega
   obtain⟨a,o,items,n,rfl,ho,hc,hdt,hi⟩:=hk;have hT:s.TypeIs (.ref a) "tuple":=⟨o,ho,hc⟩;unfold eqIsQuiet;refine ar (zh hT F.slot_tuple_eq.lookup ?_);show wpAny _ _ (isInstance (.ref a) (.type "tuple") >>= _) _ _ s;refine ar (wpAny_isInstance hT isSubtype_tuple_tuple ?_);simp only[vE,nR,if_false];refine ar (wpAny_seqItems ho hdt ?_);refine ar ?_;show wpAny _ _ (forIn items _ _) _ _ s;rw[<-Array.forIn_toList];refine wpAny_forIn_list _ (fun rest r s'=>r.1=none/\s'=s/\∃left,TAts s.heap left rest/\TK.depths left<=d) _ ?_ ?_ _ _ ⟨rfl,rfl,l,hi,hl⟩
   ·rintro v rest r s' ⟨hr,rfl,left,hall,hdl⟩;cases left with
    |nil=>have e:v::rest=[]:=hall;cases e
    |cons k' left =>
     obtain⟨v',rest',e,h1,h2⟩:=hall;cases e;have hdl':max k'.depth (TK.depths left)<=d:=hdl;refine ar (ih (k:=k') (by omega) h1 ?_);simp only[vE,nR,if_false];exact aN ⟨rfl,rfl,left,h2,by omega⟩
   ·rintro⟨r1,r2⟩ s' ⟨hr,rfl,_⟩;simp only at hr;subst hr;exact aN h
def cN(prog:bj)(w:World):HeapKind prog w TK where
 is:=fun h k a=>jB h k (.ref a)/\k.depth<=8
 hash:=TK.hash w
 draws:=TK.draws
 room:=fun A=>A.units+8<cLine
 inj:=fun hx hy=>jB.inj 8 hx.2 hx.1 hy.1
 keeps:=fun{h h' k a d o es ep} x ho hd hs=>⟨jB.mono (fun b ob items n hb _ hdb=>(hs.2 b fun e=>by
  subst e;rw[ho]at hb;cases hb;rw[hd]at hdb;cases hdb).trans hb) 8 x.2 x.1,x.2⟩
 pyHash:=fun hu hk h=>zn 8 hk.2 hu hk.1 h
 eqBool:=fun hu hx hy h=>Bn 8 hx.2 hy.2 hu hx.1 hy.1 h
 quiet:=fun hk h=>xJ 8 hk.2 hk.1 h
end
end L2
namespace L2
open PySem PySem.Spec PyProof.Rows
inductive V where
 |non|bl (b:Bool)|int (i:Int)|str (x:Str)|byt (b:Array UInt8)|flt (b:UInt64)|ref (a:Addr)|ty (n:String)
 deriving DecidableEq
def RelV:V->Value->Prop
 |.non,u=>u=Value.none
 |.bl b,u=>u=Value.bool b
 |.int i,u=>∃t,u=Value.int i t
 |.str x,u=>∃t,u=Value.str x t
 |.byt b,u=>∃t,u=Value.bytes b t
 |.flt b,u=>∃t,u=Value.float b t
 |.ref a,u=>u=Value.ref a
 |.ty n,u=>u=Value.type n
abbrev aI:List V->List Value->Prop:=Paired RelV
theorem aI.length{xs:List V}{us:Zf}(r:aI xs us):xs.length=us.length:=Paired.length r
theorem aI.get:∀{xs:List V}{us:Zf}{i:Nat}{x:V},aI xs us->xs[i]?=some x->∃u,us[i]?=some u/\RelV x u
 |_,_,_,_,.nil,e=>by simp at e
 |_,_,0,_,.cons r _,e=>by simp at e;subst e;exact⟨_,rfl,r⟩
 |_,_,i+1,x,.cons _ t,e=>by
  obtain⟨u,h1,h2⟩:=aI.get (i:=i) (x:=x) t (by simpa using e);exact⟨u,by simpa using h1,h2⟩
theorem aI.set{x:V}{u:Value}(r:RelV x u):∀{xs:List V}{us:Zf}(i:Nat),aI xs us->aI (xs.set i x) (us.set i u)
 |_,_,_,.nil=>.nil
 |_,_,0,.cons _ t=>.cons r t
 |_,_,i+1,.cons q t=>.cons q (aI.set r i t)
theorem aI.append:∀{xs ys:List V}{us ws:Zf},aI xs us->aI ys ws->aI (xs++ys) (us++ws)
 |_,_,_,_,.nil,s=>s
 |_,_,_,_,.cons r t,s=>.cons r (aI.append t s)
theorem aI.take:∀{xs:List V}{us:Zf}(n:Nat),aI xs us->aI (xs.take n) (us.take n)
 |_,_,0,_=>.nil
 |_,_,_+1,.nil=>.nil
 |_,_,n+1,.cons r t=>.cons r (aI.take n t)
theorem aI.drop:∀{xs:List V}{us:Zf}(n:Nat),aI xs us->aI (xs.drop n) (us.drop n)
 |_,_,0,r=>r
 |_,_,_+1,.nil=>.nil
 |_,_,n+1,.cons _ t=>aI.drop n t
def iA:Option V->Option Value->Prop
 |some v,some u=>RelV v u
 |none,none=>True
 |_,_=>False
def KV{κ:Type}:List (κ×V)->List (κ×Value)->Prop:=Paired fun(p:κ×V) (q:κ×Value)=>p.1=q.1/\RelV p.2 q.2
def kV:di->V
 |.inl i=>.int i
 |.inr x=>.str x
def Az:ki->V
 |none=>.non
 |some k=>kV k
inductive HO where
 |lst (xs:List V)
 |tup (xs:List V)
 |dK (kvs:List (di×V))|dT (kvs:List (TK×V))
 |set (S:Int->Bool) (n:Nat)
 |ins (C dx:Addr) (fs:List (Str×V))
 |own (x:Addr)
 |xd (fs:List (Str×V))
 |met (f x:Addr)
 |rng (lo hi:Int)
 |frz (o:Obj) (u:HO)
 |tbl (ps:Array Value)
 |ext (φ:Heap->Prop)
abbrev Hp:=Addr->Option HO
mutual
def cC(H:Hp):TK->V->Prop
 |.k a,v=>v=Az a
 |.t l,v=>∃b xs,v=.ref b/\H b=some (.tup xs)/\TKAts H l xs
def TKAts(H:Hp):List TK->List V->Prop
 |[],vs=>vs=[]
 |k::r,vs=>∃v us,vs=v::us/\cC H k v/\TKAts H r us
end
def e_(K:Za)(H:Hp)(a:Addr)(xs:List V):Prop :=
 H a=some (.tup xs)∨∃(o:Obj) (its:Array Value) (n:Nat),K.lookup a=some o/\o.cls=.type "tuple"/\o.data=.seq its n/\its.size<=aj/\aI xs its.toList
theorem e_.keeps{K:Za}{H H':Hp}{a:Addr}{xs:List V}(h:e_ K H a xs)(ht:∀b xs,H b=some (.tup xs)->H' b=some (.tup xs)):e_ K H' a xs:=h.imp (ht a xs) id
mutual
def mI(K:Za)(H:Hp):TK->V->Prop
 |.k a,v=>v=Az a
 |.t l,v=>∃b xs,v=.ref b/\e_ K H b xs/\TKCs K H l xs
def TKCs(K:Za)(H:Hp):List TK->List V->Prop
 |[],vs=>vs=[]
 |k::r,vs=>∃v us,vs=v::us/\mI K H k v/\TKCs K H r us
end
theorem mI.keeps{K:Za}{H H':Hp}(ht:∀b xs,H b=some (.tup xs)->H' b=some (.tup xs)):∀(d:Nat) {k:TK}{v:V},k.depth<=d->mI K H k v->mI K H' k v:=by
 have key:∀(d:Nat) (ih:∀{k:TK}{v:V},k.depth<=d->mI K H k v->mI K H' k v) (xs:List TK) (vs:List V),TK.depths xs<=d->TKCs K H xs vs->TKCs K H' xs vs:=by
  intro d ih xs
  induction xs with
  |nil=>intro vs _ hx;exact hx
  |cons x xs ihl =>
   intro vs hd hx;obtain⟨v,us,rfl,hx1,hx2⟩:=hx;have hd':max x.depth (TK.depths xs)<=d:=hd;exact⟨v,us,rfl,ih (by omega) hx1,ihl us (by omega) hx2⟩
 intro d
 induction d with
 |zero =>
  intro k v hd hx;cases k with
  |t l=>exact absurd hd (by show ¬(TK.depths l+1<=0);omega)
  |k a=>exact hx
 |succ d ih =>
  intro k v hd hx;cases k with
  |k a=>exact hx
  |t l =>
   obtain⟨b,xs,rfl,hb,hi⟩:=hx;exact⟨b,xs,rfl,hb.keeps ht,key d (fun h1=>ih h1) l xs (by have:TK.depths l+1<=d+1:=hd;omega) hi⟩
theorem cC.c{K:Za}{H:Hp}:∀(d:Nat) {k:TK}{v:V},k.depth<=d->cC H k v->mI K H k v:=by
 have key:∀(d:Nat) (ih:∀{k:TK}{v:V},k.depth<=d->cC H k v->mI K H k v) (xs:List TK) (vs:List V),TK.depths xs<=d->TKAts H xs vs->TKCs K H xs vs:=by
  intro d ih xs
  induction xs with
  |nil=>intro vs _ hx;exact hx
  |cons x xs ihl =>
   intro vs hd hx;obtain⟨v,us,rfl,hx1,hx2⟩:=hx;have hd':max x.depth (TK.depths xs)<=d:=hd;exact⟨v,us,rfl,ih (by omega) hx1,ihl us (by omega) hx2⟩
 intro d
 induction d with
 |zero =>
  intro k v hd hx;cases k with
  |t l=>exact absurd hd (by show ¬(TK.depths l+1<=0);omega)
  |k a=>exact hx
 |succ d ih =>
  intro k v hd hx;cases k with
  |k a=>exact hx
  |t l =>
   obtain⟨b,xs,rfl,hb,hi⟩:=hx;exact⟨b,xs,rfl,.inl hb,key d (fun h1=>ih h1) l xs (by have:TK.depths l+1<=d+1:=hd;omega) hi⟩
def upd(H:Hp)(a:Addr)(o:HO):Hp:=fun b=>if b=a then some o else H b
theorem aa{H:Hp}{a:Addr}{o:HO}:upd H a o a=some o:=by unfold upd;rw[if_pos rfl]
theorem ah{H:Hp}{a b:Addr}{o:HO}(h:b≠a):upd H a o b=H b:=by unfold upd;rw[if_neg h]
theorem nq{H:Hp}{a:Addr}{o u:HO}:upd (upd H a o) a u=upd H a u:=by
 funext b;unfold upd;split<;>rfl
theorem yy{H:Hp}{a b:Addr}{o u:HO}(h:H a=some o)(h':H b=some u)(d:o≠u):a≠b:=by
 intro e;subst e;rw[h]at h';exact d (da h')
theorem ac{H:Hp}{a b:Addr}{o:HO}(h:H a=some o)(h':H b=none):a≠b:=by
 intro e;subst e;rw[h]at h';cases h'
section
variable(P:bj)(w:World)(K:Za)
def bw(H:Hp)(h:Heap)(a:Addr):HO->Prop
 |.lst xs=>xs.length<=aj/\∃(its:Zf) (n:Nat),aI xs its/\h.get? a=some { cls:=.type "list",data:=.seq its.toArray n }
 |.tup xs=>xs.length<=aj/\∃its:List Value,aI xs its/\IsTup h a its.toArray
 |.dK kvs=>kvs.length<=aj/\(a==fk)=false/\∃vs,KV kvs vs/\h.DictOf (bx P w) a vs
 |.dT kvs=>kvs.length<=aj/\(a==fk)=false/\∃xs:List (TK×Addr×Value),
   Paired (fun(p:TK×V) (q:TK×Addr×Value)=>p.1=q.1/\mI K H p.1 (.ref q.2.1)/\p.1.depth<=8/\RelV p.2 q.2.2) kvs xs /\
   ∃o es ep,h.get? a=some o/\o.ExactDict/\o.data=.dict es ep/\es.toList=xs.map (entryOfKey (cN P w))/\(xs.map (·.1)).Nodup
 |.set S n=>h.SetOf (intKind P w) a S n
 |.ins C dx fs=>H dx=some (.own a)/\fs.length<=1000/\dx≠a/\h.get? a=some (mw C dx) /\
   ∃mA,h.Ns1 dx mA/\(∀f,iA (fs.lookup f) (mA f))/\PySem.Within mA (fs.map (·.1))
 |.own _=>∃o,h.get? a=some o
 |.xd fs=>∃mA,h.Ns1 a mA/\∀f,iA (fs.lookup f) (mA f)
 |.rng lo hi=>∃t u v,h.get? a=some { cls:=.type "range",data:=.fields #[.int lo t,.int hi u,.int 1 v] }
 |.frz o u=>h.get? a=some o/\bw H h a u
 |.tbl ps=>h.get? a=some { cls:=.none,data:=.fields ps }
 |.met f x=>h.get? a=some (PySem.W.methodObj (.ref f) (.ref x))
 |.ext φ=>φ h/\(∃o,h.get? a=some o)/\∀h1 h2:Heap,φ h1->(∀o,h1.get? a=some o->h2.get? a=some o)->φ h2
def jt(H:Hp)(h:Heap):Prop:=∀a o,H a=some o->bw P w K H h a o
end
section
variable{P:bj}{w:World}{K:Za}{H H':Hp}{h h':Heap}{a:Addr}{o:HO}
theorem bw.lt(x:bw P w K H h a o):a<h.objs.size:=by
 cases o with
 |lst xs=>obtain⟨_,_,_,_,e⟩:=x;exact be e
 |tup xs=>obtain⟨_,_,_,p⟩:=x;exact p.lt
 |dK kvs=>obtain⟨_,_,_,_,o,_,_,e,_⟩:=x;exact be e
 |dT kvs=>obtain⟨_,_,_,_,o,_,_,e,_⟩:=x;exact be e
 |set S n=>obtain⟨o,_,_,_,e,_⟩:=x;exact be e
 |ins C dx fs=>obtain⟨_,_,_,e,_⟩:=x;exact be e
 |own y=>obtain⟨_,e⟩:=x;exact be e
 |xd fs=>obtain⟨_,⟨_,_,_,e,_⟩,_⟩:=x;exact be e
 |rng lo hi=>obtain⟨_,_,_,e⟩:=x;exact be e
 |frz ob u=>obtain⟨e,_⟩:=x;exact be e
 |tbl ps=>exact be (show h.get? a=some _ from x)
 |met f y=>exact be (show h.get? a=some _ from x)
 |ext φ=>obtain⟨_,⟨_,e⟩,_⟩:=x;exact be e
theorem Paired.mapP{α β:Type}{F G:α->β->Prop}:∀{l₁:List α}{l₂:List β},Paired F l₁ l₂->(∀a b,F a b->G a b)->Paired G l₁ l₂
 |_,_,.nil,_=>.nil
 |_,_,.cons r t,f=>.cons (f _ _ r) (Paired.mapP t f)
theorem bw.stay(x:bw P w K H h a o)(k:∀b u,(b=a∨H b=some (.own a))->h.get? b=some u->h'.get? b=some u)
  (ho:∀b,H b=some (.own a)->H' b=some (.own a)) (ht:∀b xs,H b=some (.tup xs)->H' b=some (.tup xs)):bw P w K H' h' a o:=by
 induction o with
 |lst xs=>obtain⟨z,its,n,r,e⟩:=x;exact⟨z,its,n,r,k _ _ (.inl rfl) e⟩
 |tup xs=>obtain⟨z,its,r,ob,e,c⟩:=x;exact⟨z,its,r,ob,k _ _ (.inl rfl) e,c⟩
 |dK kvs=>obtain⟨z,y,vs,r,ob,es,ep,e,c⟩:=x;exact⟨z,y,vs,r,ob,es,ep,k _ _ (.inl rfl) e,c⟩
 |dT kvs =>
  obtain⟨z,y,xs,r,ob,es,ep,e,c⟩:=x;exact⟨z,y,xs,Paired.mapP r fun p q z=>⟨z.1,mI.keeps ht 8 z.2.2.1 z.2.1,z.2.2⟩,ob,es,ep,k _ _ (.inl rfl) e,c⟩
 |set S n=>obtain⟨ob,es,ep,t,e,c⟩:=x;exact⟨ob,es,ep,t,k _ _ (.inl rfl) e,c⟩
 |ins C dx fs =>
  obtain⟨d,z,ne,e,mA,⟨od,es,ep,e2,c⟩,r⟩:=x;exact⟨ho _ d,z,ne,k _ _ (.inl rfl) e,mA,⟨od,es,ep,k _ _ (.inr d) e2,c⟩,r⟩
 |own y=>obtain⟨ob,e⟩:=x;exact⟨ob,k _ _ (.inl rfl) e⟩
 |xd fs=>obtain⟨mA,⟨od,es,ep,e,c⟩,r⟩:=x;exact⟨mA,⟨od,es,ep,k _ _ (.inl rfl) e,c⟩,r⟩
 |rng lo hi=>obtain⟨t,u,v,e⟩:=x;exact⟨t,u,v,k _ _ (.inl rfl) e⟩
 |frz ob u ih=>obtain⟨e,q⟩:=x;exact⟨k _ _ (.inl rfl) e,ih q⟩
 |tbl ps =>
  have e:h.get? a=some { cls:=.none,data:=.fields ps }:=x;show h'.get? a=some { cls:=.none,data:=.fields ps };exact k a _ (.inl rfl) e
 |met f y =>
  have e:h.get? a=some (PySem.W.methodObj (.ref f) (.ref y)):=x;show h'.get? a=some (PySem.W.methodObj (.ref f) (.ref y));exact k a _ (.inl rfl) e
 |ext φ=>obtain⟨p,⟨o,e⟩,st⟩:=x;exact⟨st _ _ p fun o q=>k _ _ (.inl rfl) q,⟨o,k _ _ (.inl rfl) e⟩,st⟩
theorem jt.lt(x:jt P w K H h)(e:H a=some o):a<h.objs.size:=(x a o e).lt
theorem jt.fresh(x:jt P w K H h)(e:h.objs.size<=a):H a=none:=by
 cases q:H a with
 |none=>rfl
 |some u=>exact absurd (fK (x.lt q) e) (mv _)
theorem jt.kept(x:jt P w K H h)(k:∀b u,h.get? b=some u->h'.get? b=some u):jt P w K H h':=fun a o e =>
 (x a o e).stay (fun b u _ q=>k b u q) (fun _ q=>q) fun _ _ q=>q
theorem jt.laid(x:jt P w K H h)(k:∀b u,h.get? b=some u->h'.get? b=some u)(hp:h.objs.size<=a)(new:bw P w K (upd H a o) h' a o):jt P w K (upd H a o) h':=fun b u e=>by
 have hn:=x.fresh hp;by_cases hb:b=a
 ·subst hb;rw[aa]at e;cases e;exact new
 ·rw[ah hb]at e;exact(x b u e).stay (fun c v _ q=>k c v q) (fun c q=>by rw[ah (ac q hn)];exact q) fun c xs q=>by rw[ah (ac q hn)];exact q
end
def Rd(H:Hp)(a:Addr)(u:HO):Prop:=H a=some u∨∃o,H a=some (.frz o u)
theorem Rd.ok{P:bj}{w:World}{K:Za}{H:Hp}{h:Heap}{a:Addr}{u:HO}(r:Rd H a u)(x:jt P w K H h):bw P w K H h a u:=by
 rcases r with r|⟨o,r⟩
 ·exact x a u r
 ·obtain⟨_,q⟩:=x a _ r;exact q
def BK:Option HO->Prop
 |some (.lst _)=>True
 |some (.dK _)=>True
 |some (.dT _)=>True
 |some (.set _ _)=>True
 |some (.ins _ _ _)=>True
 |some (.ext _)=>True
 |_=>False
section
variable{P:bj}{w:World}{K:Za}{H:Hp}{h h':Heap}{x e:Addr}{o':HO}
theorem jt.write(ok:jt P w K H h)(mu:BK (H x))(he:e=x∨H e=some (.own x))(k:∀b u,b≠e->h.get? b=some u->h'.get? b=some u)(heo:∃u,h'.get? e=some u)
  (new:bw P w K (upd H x o') h' x o'):jt P w K (upd H x o') h':=fun b u q=>by
 have nown:∀c y,H c=some (.own y)->c≠x:=fun c y r z=>by subst z;rw[r]at mu;exact mu
 have ntup:∀c xs,H c=some (.tup xs)->c≠x:=fun c xs r z=>by subst z;rw[r]at mu;exact mu
 by_cases hb:b=x
 ·subst hb;rw[aa]at q;cases q;exact new
 ·rw[ah hb]at q;by_cases hbe:b=e
  ·have q':H b=some (.own x):=by
    rcases he with z|z
    ·exact absurd (hbe.trans z) hb
    ·rw[hbe];exact z
   rw[q]at q';cases q';obtain⟨v,hv⟩:=heo;exact⟨v,by rw[hbe];exact hv⟩
  ·refine(ok b u q).stay (fun c v hc r=>k c v ?_ r) (fun c r=>by rw[ah (nown c b r)];exact r) fun c xs r=>by rw[ah (ntup c xs r)];exact r
   rcases hc with rfl|hc
   ·exact hbe
   ·rintro rfl;rcases he with z|z
    ·exact nown c b hc z
    ·rw[hc]at z;cases z;exact hb rfl
end
structure Un(fs ex:Ze)(H H':Hp)(h h':Heap):Prop where
 keep:∀b o,h.get? b=some o->H b=none->b∉fs->b∉ex->h'.get? b=some o
 slot:∀b o,h.get? b=some o->H b=none->b∈fs->b∉ex->∃sl,h'.get? b=some { o with slots:=sl }
 free:∀b o,h.get? b=some o->H b=none->b∉ex->H' b=none
 there:∀b o,h.get? b=some o->b∉ex->∃o',h'.get? b=some o'
 tups:∀b xs,H b=some (.tup xs)->H' b=some (.tup xs)
 frzs:∀b o u,H b=some (.frz o u)->H' b=some (.frz o u)
 tbls:∀b ps,H b=some (.tbl ps)->∃more,H' b=some (.tbl (ps++more))
section
variable{fs fs' ex ex':Ze}{H H1 H2:Hp}{h h1 h2 h':Heap}{a x e:Addr}{o:HO}
theorem Un.any(u:Un fs ex H H1 h h1){b:Addr}{ob:Obj}(q:h.get? b=some ob)(n:H b=none)(hx:b∉ex):∃sl,h1.get? b=some { ob with slots:=sl }:=by
 by_cases hb:b∈fs
 ·exact u.slot b ob q n hb hx
 ·exact⟨ob.slots,u.keep b ob q n hb hx⟩
theorem Un.kept(k:∀b u,h.get? b=some u->h'.get? b=some u):Un fs ex H H h h' :=
 ⟨fun b ob q _ _ _=>k b ob q,fun b ob q _ _ _=>⟨ob.slots,k b ob q⟩,fun _ _ _ n _=>n,fun b ob q _=>⟨ob,k b ob q⟩,fun _ _ q=>q,fun _ _ _ q=>q,fun _ ps q=>⟨#[],by rw[q];simp⟩⟩
theorem Un.refl:Un fs ex H H h h:=Un.kept fun _ _ q=>q
theorem Un.laid(k:∀b u,h.get? b=some u->h'.get? b=some u)(hp:h.objs.size<=a)(hn:H a=none):Un fs ex H (upd H a o) h h' where
 keep:=fun b u q _ _ _=>k b u q
 slot:=fun b u q _ _ _=>⟨u.slots,k b u q⟩
 free:=fun b u q n _=>by rw[ah (b_ (fK (be q) hp))];exact n
 there:=fun b u q _=>⟨u,k b u q⟩
 tups:=fun b xs q=>by rw[ah (ac q hn)];exact q
 frzs:=fun b u xs q=>by rw[ah (ac q hn)];exact q
 tbls:=fun b ps q=>⟨#[],by rw[ah (ac q hn),q];simp⟩
theorem Un.write(mu:BK (H x))(he:e=x∨H e=some (.own x))(k:∀b u,b≠e->h.get? b=some u->h'.get? b=some u)(heo:∃u,h'.get? e=some u):Un fs ex H (upd H x o) h h':=by
 have hx:∀b,H b=none->b≠x:=fun b n z=>by subst z;rw[n]at mu;exact mu
 have hb:∀b,H b=none->b≠e:=fun b n z=>by
  subst z;rcases he with r|r
  ·exact hx b n r
  ·rw[n]at r;cases r
 have hm:∀b u,H b=some u->¬BK (some u)->b≠x:=fun b u q nm z=>by subst z;rw[q]at mu;exact nm mu
 refine⟨fun b u q n _ _=>k b u (hb b n) q,fun b u q n _ _=>⟨u.slots,k b u (hb b n) q⟩,fun b u q n _=>by rw[ah (hx b n)];exact n,fun b u q _=>?_,
  fun b xs q=>by rw[ah (hm b _ q fun z=>z)];exact q,fun b u xs q=>by rw[ah (hm b _ q fun z=>z)];exact q,fun b ps q=>⟨#[],by rw[ah (hm b _ q fun z=>z),q];simp⟩⟩
 by_cases hbe:b=e
 ·subst hbe;exact heo
 ·exact⟨u,k b u hbe q⟩
end
def BS(h:Heap)(H:Hp):List Addr:=(kA h.objs.size).filter fun a=>(H a).isSome
def rR(h:Heap)(H:Hp):Heap:=PySem.W.hideAll h (BS h H)
theorem w8(h:Heap)(H:Hp):(rR h H).objs.size=h.objs.size:=PySem.W.hideAll_size _ _
theorem yJ{h:Heap}{H:Hp}{b:Addr}{o:Obj}(e:h.get? b=some o)(n:H b=none):(rR h H).get? b=some o :=
 PySem.W.hideAll_get _ e fun hm=>by
  have q:(H b).isSome=true:=(dC.mp hm).2;rw[n]at q;simp at q
theorem zY{h:Heap}{H:Hp}{b:Addr}{o:Obj}(e:(rR h H).get? b=some o):h.get? b=some o/\H b=none:=by
 have e':h.get? b=some o:=PySem.W.of_hideAll (BS h H) e;refine⟨e',?_⟩;cases q:H b with
 |none=>rfl
 |some x =>
  have hm:b∈BS h H:=dC.mpr ⟨List.mem_range.mpr (be e'),by simp[q]⟩;have z:(rR h H).get? b=none:=PySem.W.hideAll_none (BS h H) hm;rw[z]at e;cases e
end L2
namespace L2
open PySem PySem.Spec PyProof.Rows
structure Mod(K:Za)(mg:Str->Option Value)(base:Heap):Prop where
 kin:K.In base
 glob:base.Ns bm mg
 blt:∃mb,base.Ns builtinsNs mb/\∀x:Str,x≠"__name__"->mb x=gP x
 nolimit:base.NoLimit
structure Cx where
 prog:bj
 w:World
 K:Za
 mg:Str->Option Value
 base:Heap
 A:Around
 N:List Str
 s₀:Shared
 H₀:Hp
 env:Env
 outer:List Env
 stack:List Env
 ex:List Addr
 fn:Str->Bool
 calm:Bool
 pn:List (Addr×Obj)
 xe:Value->Shared->Prop
def xA(l:List Env):List Addr:=l.filterMap (·.frame)
abbrev Cx.fs(X:Cx):List Addr:=xA X.outer
def Vis(sc:Scope)(x:Str):Prop:=sc.names.lookup x=some .local∨sc.names.lookup x=some .cell∨sc.names.lookup x=some .free
def Loc(sc:Scope)(x:Str):Prop:=sc.names.lookup x=some .local∨sc.names.lookup x=some .cell
def Look(env:Env)(h:Heap)(m:Str->Option Value)(x:Str)(u:Value):Prop :=
 (env.kindOf x=some .local/\m x=some u)∨((env.kindOf x=some .cell∨env.kindOf x=some .free)/\∃c,env.cells.lookup x=some c/\h.IsCell c (some u))
structure Cx.Ok(X:Cx):Prop where
 mod:Mod X.K X.mg X.base
 kind:X.env.scope.kind=.function
 glob:X.env.globals=bm
 blt:X.env.builtins=builtinsNs
 above:X.s₀.heap.objs.size<=X.env.locals
 inj:∀x y c,X.env.cells.lookup x=some c->X.env.cells.lookup y=some c->x=y
 has:∀x,(X.env.kindOf x=some .cell∨X.env.kindOf x=some .free)->∃c,X.env.cells.lookup x=some c
 cab:∀x c,X.fn x=true->X.env.cells.lookup x=some c->X.s₀.heap.objs.size<=c
 hd:X.calm=true->X.A.handled=none
 frames:X.A.frames=some X.stack
 stk:X.stack=X.outer∨(X.stack=X.env::X.outer/\X.env.frame=some X.env.locals)
 exf:∀b∈X.ex,b≠X.env.locals/\∀x c,X.env.cells.lookup x=some c->c≠b
 bs:∀b o,X.base.get? b=some o->X.s₀.heap.get? b=some o/\X.H₀ b=none
 bsz:X.base.objs.size<=X.s₀.heap.objs.size
 noex:∀b o,X.base.get? b=some o->b∉X.ex
 exfs:∀b∈X.ex,b∉X.fs
 funs:X.s₀.heap.FunFrames X.base X.outer
 frf:∀b∈X.fs,X.H₀ b=none
structure Inv(X:Cx)(J3:Zd)(σ:List (Option V))(H:Hp)(s:Shared):Prop where
 ok:X.Ok
 os:s.os=X.s₀.os
 bare:kz s.gens
 base:Un X.fs X.ex X.H₀ H X.s₀.heap s.heap
 loc:∃m,s.heap.Ns X.env.locals m/\∀(i:Nat) (x:Str) (v:V),X.N[i]?=some x->σ[i]?=some (some v)->Vis X.env.scope x->∃u,RelV v u/\Look X.env s.heap m x u
 cell:∀x c,X.env.cells.lookup x=some c->∃v,s.heap.IsCell c v
 free:H X.env.locals=none
 freeC:∀x c,X.env.cells.lookup x=some c->H c=none
 pin:∀p∈X.pn++J3,s.heap.get? p.1=some p.2/\H p.1=none/\p.1≠X.env.locals/\p.1∉X.fs/\∀v,p.2.data≠.cell v
 hok:jt X.prog X.w X.K H s.heap
 len:σ.length=X.N.length
section
variable{X:Cx}{J3:Zd}{σ:List (Option V)}{H H':Hp}{s:Shared}{h':Heap}
theorem Cx.Ok.nofr(ok:X.Ok){b:Addr}{o:Obj}(e:X.base.get? b=some o):b∉X.fs:=fun hb=>by
 have:=(ok.funs.mem hb).1;rw[e]at this;cases this
theorem Inv.bs(I:Inv X J3 σ H s):∀b o,X.base.get? b=some o->s.heap.get? b=some o/\H b=none:=fun b o e =>
 ⟨I.base.keep b o (I.ok.bs b o e).1 (I.ok.bs b o e).2 (I.ok.nofr e) (I.ok.noex b o e),I.base.free b o (I.ok.bs b o e).1 (I.ok.bs b o e).2 (I.ok.noex b o e)⟩
theorem Inv.bk(I:Inv X J3 σ H s):∀b o,X.base.get? b=some o->s.heap.get? b=some o:=fun b o e=>(I.bs b o e).1
theorem Inv.mod(I:Inv X J3 σ H s):Mod X.K X.mg X.base:=I.ok.mod
theorem Inv.kIn(I:Inv X J3 σ H s):X.K.In s.heap:=I.ok.mod.kin.keeps I.bk
theorem Inv.fr(I:Inv X J3 σ H s):∃m,Fr X.base X.env.locals s.heap m :=
 let⟨m,hn,_⟩:=I.loc
 ⟨m,hn,I.bk,aJ I.ok.bsz I.ok.above⟩
theorem Inv.lt(I:Inv X J3 σ H s):X.env.locals<s.heap.objs.size:=let⟨_,hn,_⟩:=I.loc;hn.lt
theorem Inv.sz(I:Inv X J3 σ H s):X.s₀.heap.objs.size<=s.heap.objs.size:=aJ I.ok.above (cM I.lt)
theorem Inv.nofs(I:Inv X J3 σ H s){a:Addr}(h:s.heap.objs.size<=a):a∉X.fs:=fun hb=>by
 obtain⟨_,o,ho,_⟩:=I.ok.funs.mem hb;exact absurd (fK (be ho) (aJ I.sz h)) (mv _)
theorem Inv.cne(I:Inv X J3 σ H s):∀x c,X.env.cells.lookup x=some c->c≠X.env.locals:=fun x c e z=>by
 obtain⟨v,o,ho,hd⟩:=I.cell x c e;obtain⟨m,⟨o',es,ep,ho',hd',_⟩,_⟩:=I.loc;rw[z,ho']at ho;cases ho;rw[hd']at hd;cases hd
theorem Inv.funs(I:Inv X J3 σ H s):s.heap.FunFrames X.base X.outer:=by
 have all:∀(l:List Env),(∀b∈xA l,b∈X.fs)->X.s₀.heap.FunFrames X.base l->s.heap.FunFrames X.base l:=by
  intro l
  induction l with
  |nil=>intro _ _;trivial
  |cons env r ih =>
   intro hs hl;obtain⟨hk,⟨L,o,hf,hn,ho,hd⟩,hr⟩:=hl;have hL:L∈X.fs:=hs L (by unfold xA;rw[List.filterMap_cons,hf];exact eR);obtain⟨sl,e⟩:=I.base.slot L o ho (I.ok.frf L hL) hL fun z=>I.ok.exfs L z hL;exact⟨hk,⟨L,_,hf,hn,e,hd⟩,ih (fun b hb=>hs b (by unfold xA;rw[List.filterMap_cons,hf];exact eQ _ hb)) hr⟩
 exact all X.outer (fun _ hb=>hb) I.ok.funs
theorem Inv.stack(I:Inv X J3 σ H s):s.heap.FunFrames X.base X.stack:=by
 rcases I.ok.stk with e|⟨e,hf⟩
 ·rw[e];exact I.funs
 ·rw[e];obtain⟨m,hn,_⟩:=I.loc;refine .cons (by rw[I.ok.kind];decide) hf hn ?_ I.funs;exact Heap.get?_none_of_le (aJ I.ok.bsz I.ok.above)
theorem Inv.stkSub(I:Inv X J3 σ H s):∀b∈xA X.stack,b∈X.env.locals::X.fs:=fun b hb=>by
 rcases I.ok.stk with e|⟨e,hf⟩
 ·rw[e]at hb;exact eQ _ hb
 ·rw[e]at hb;unfold xA at hb;rw[List.filterMap_cons,hf]at hb;exact hb
theorem Inv.stkFree(I:Inv X J3 σ H s):∀b∈xA X.stack,H b=none:=fun b hb=>by
 rcases c_.mp (I.stkSub b hb)with e|hb
 ·rw[e];exact I.free
 ·obtain⟨_,o,ho,_⟩:=I.ok.funs.mem hb;exact I.base.free b o ho (I.ok.frf b hb) fun z=>I.ok.exfs b z hb
theorem Inv.step{g':Array GenState}{t':Nat}{d':Drawn}{ch:Ze}(I:Inv X J3 σ H s)
  (hch:∀b∈ch,(b∈X.ex∨X.s₀.heap.objs.size<=b)/\b≠X.env.locals/\(∀x c,X.env.cells.lookup x=some c->c≠b)/\∀p∈X.pn++J3,p.1≠b)
  (keep:∀b o,b≠X.env.locals->b∉X.fs->b∉ch->s.heap.get? b=some o->H b=none->h'.get? b=some o)
  (slot:∀b o,b≠X.env.locals->b∈X.fs->b∉ch->s.heap.get? b=some o->H b=none->∃sl,h'.get? b=some { o with slots:=sl }) (free:∀b o,b∉ch->s.heap.get? b=some o->H b=none->H' b=none)
  (there:∀b o,b∉ch->s.heap.get? b=some o->∃o',h'.get? b=some o')
  (tups:∀b xs,H b=some (.tup xs)->H' b=some (.tup xs)) (frzs:∀b o u,H b=some (.frz o u)->H' b=some (.frz o u)) (tbls:∀b ps,H b=some (.tbl ps)->∃more,H' b=some (.tbl (ps++more)))
  (ns:∀m,s.heap.Ns X.env.locals m->h'.Ns X.env.locals m) (hok:jt X.prog X.w X.K H' h') (hg:kz g') :
  Inv X J3 σ H' { s with heap:=h',gens:=g',drawn:=d',toks:=t' }:=by
 have neL:∀b o,X.s₀.heap.get? b=some o->b≠X.env.locals:=fun b o e=>b_ (fK (be e) I.ok.above);have neC:∀b o,X.s₀.heap.get? b=some o->b∉X.ex->b∉ch:=fun b o e hx hb=>by
  rcases(hch b hb).1 with z|z
  ·exact hx z
  ·exact absurd (fK (be e) z) (mv _)
 have cellK:∀x c,X.env.cells.lookup x=some c->∀v,s.heap.IsCell c v->h'.IsCell c v:=fun x c e v ⟨o,ho,hd⟩=>by
  have nch:c∉ch:=fun z=>(hch c z).2.2.1 x c e rfl;by_cases hc:c∈X.fs
  ·obtain⟨sl,q⟩:=slot c o (I.cne x c e) hc nch ho (I.freeC x c e);exact⟨_,q,hd⟩
  ·exact⟨o,keep c o (I.cne x c e) hc nch ho (I.freeC x c e),hd⟩
 refine⟨I.ok,I.os,hg,⟨fun b o e n hb hx=>?_,fun b o e n hb hx=>?_,fun b o e n hx=>?_,fun b o e hx=>?_,fun b xs e=>tups b xs (I.base.tups b xs e),fun b o xs e=>frzs b o xs (I.base.frzs b o xs e),fun b ps e=>?_⟩,?_,fun x c e=>?_,?_,fun x c e=>?_,fun p hp=>?_,hok,I.len⟩
 ·exact keep b o (neL b o e) hb (neC b o e hx) (I.base.keep b o e n hb hx) (I.base.free b o e n hx)
 ·obtain⟨sl,e1⟩:=I.base.slot b o e n hb hx;obtain⟨sl',e2⟩:=slot b _ (neL b o e) hb (neC b o e hx) e1 (I.base.free b o e n hx);exact⟨sl',e2⟩
 ·obtain⟨o',e1⟩:=I.base.there b o e hx;exact free b o' (neC b o e hx) e1 (I.base.free b o e n hx)
 ·obtain⟨o',e1⟩:=I.base.there b o e hx;exact there b o' (neC b o e hx) e1
 ·obtain⟨m1,e1⟩:=I.base.tbls b ps e;obtain⟨m2,e2⟩:=tbls b _ e1;exact⟨m1++m2,by rw[e2,Array.append_assoc]⟩
 ·obtain⟨m,hn,hl⟩:=I.loc;refine⟨m,ns m hn,fun i x v e1 e2 e3=>?_⟩;obtain⟨u,r,l⟩:=hl i x v e1 e2 e3;refine⟨u,r,?_⟩;rcases l with l|⟨k,c,e,z⟩
  ·exact .inl l
  ·exact .inr ⟨k,c,e,cellK x c e _ z⟩
 ·obtain⟨v,z⟩:=I.cell x c e;exact⟨v,cellK x c e v z⟩
 ·obtain⟨m,⟨o,_,_,ho,_⟩,_⟩:=I.loc;exact free _ o (fun z=>(hch _ z).2.1 rfl) ho I.free
 ·obtain⟨v,o,ho,hd⟩:=I.cell x c e;exact free c o (fun z=>(hch c z).2.2.1 x c e rfl) ho (I.freeC x c e)
 ·obtain⟨e,n,ne,nf,d⟩:=I.pin p hp;have nch:p.1∉ch:=fun z=>(hch p.1 z).2.2.2 p hp rfl;exact⟨keep p.1 p.2 ne nf nch e n,free p.1 p.2 nch e n,ne,nf,d⟩
theorem Inv.un{t':Nat}(I:Inv X J3 σ H s)(u:Un X.fs [] H H' s.heap h')(hok:jt X.prog X.w X.K H' h'):Inv X J3 σ H' { s with heap:=h',toks:=t' }:=by
 obtain⟨m,⟨o,es,ep,ho,r⟩,_⟩:=id I.loc;obtain⟨sl,hL⟩:=u.any ho I.free (by simp);exact I.step (g':=s.gens) (d':=s.drawn) (ch:=[]) (fun _ z=>nomatch z) (fun b o _ hb _ e n=>u.keep b o e n hb (by simp)) (fun b o _ hb _ e n=>u.slot b o e n hb (by simp)) (fun b o _ e n=>u.free b o e n (by simp)) (fun b o _ e=>u.there b o e (by simp)) u.tups u.frzs u.tbls (fun m' hm=>by
  obtain⟨o',es',ep',ho',r'⟩:=hm;rw[ho]at ho';cases ho';exact⟨_,es',ep',hL,r'⟩) hok I.bare
theorem Inv.call{g':Array GenState}{t':Nat}{d':Drawn}{ch:Ze}(I:Inv X J3 σ H s)(u:Un (xA X.stack) ch H H' s.heap h')(hok:jt X.prog X.w X.K H' h')(hg:kz g')
  (hch:∀b∈ch,(b∈X.ex∨X.s₀.heap.objs.size<=b)/\b≠X.env.locals/\(∀x c,X.env.cells.lookup x=some c->c≠b)/\∀p∈X.pn++J3,p.1≠b) :
  Inv X J3 σ H' { s with heap:=h',gens:=g',drawn:=d',toks:=t' }:=by
 obtain⟨m,⟨o,es,ep,ho,r⟩,_⟩:=id I.loc;obtain⟨sl,hL⟩:=u.any ho I.free fun z=>(hch _ z).2.1 rfl;exact I.step (ch:=ch) hch (fun b o hL hb hc e n=>u.keep b o e n (fun z=>(c_.mp (I.stkSub b z)).elim hL hb) hc) (fun b o _ _ hc e n=>u.any e n hc) (fun b o hc e n=>u.free b o e n hc) (fun b o hc e=>u.there b o e hc) u.tups u.frzs u.tbls (fun m' hm=>by
  obtain⟨o',es',ep',ho',r'⟩:=hm;rw[ho]at ho';cases ho';exact⟨_,es',ep',hL,r'⟩) hok hg
theorem Inv.turned{t':Nat}{it:Addr}(I:Inv X J3 σ H s)(k:∀b o,b≠it->s.heap.get? b=some o->h'.get? b=some o)(hn:H it=none)(hL:it≠X.env.locals)
  (h1:it∈X.ex∨X.s₀.heap.objs.size<=it) (h2:∀x c,X.env.cells.lookup x=some c->c≠it) (h3:∀p∈X.pn++J3,p.1≠it):Inv X J3 σ H { s with heap:=h',toks:=t' }:=by
 have nit:∀b u,H b=some u->b≠it:=fun b u e z=>by rw[z,hn]at e;cases e
 refine I.step (g':=s.gens) (d':=s.drawn) (ch:=[it]) (fun b hb=>?_) (fun b o _ _ hc e _=>k b o (fun z=>hc (by simp[z])) e) (fun b o _ _ hc e _=>⟨o.slots,k b o (fun z=>hc (by simp[z])) e⟩) (fun _ _ _ _ n=>n)
  (fun b o hc e=>⟨o,k b o (fun z=>hc (by simp[z])) e⟩) (fun _ _ e=>e) (fun _ _ _ e=>e) (fun b ps e=>⟨#[],by rw[e];simp⟩) (fun m hm=>?_) (fun b u e=>?_) I.bare
 ·have e:b=it:=by simpa using hb
  subst e;exact⟨h1,hL,h2,h3⟩
 ·obtain⟨o,es,ep,ho,r⟩:=hm;exact⟨o,es,ep,k _ o (fJ hL) ho,r⟩
 ·refine(I.hok b u e).stay (fun c v hc q=>k c v ?_ q) (fun _ q=>q) fun _ _ q=>q;rcases hc with z|z
  ·rw[z];exact nit b u e
  ·exact nit c _ z
theorem Inv.tok(I:Inv X J3 σ H s)(t:Nat):Inv X J3 σ H { s with toks:=t }:=I.un (h':=s.heap) (t':=t) Un.refl I.hok
theorem Inv.kept{t':Nat}(I:Inv X J3 σ H s)(k:∀b u,s.heap.get? b=some u->h'.get? b=some u):Inv X J3 σ H { s with heap:=h',toks:=t' }:=I.un (Un.kept k) (I.hok.kept k)
theorem Inv.laid{a:Addr}{o:HO}{t':Nat}(I:Inv X J3 σ H s)(k:∀b u,s.heap.get? b=some u->h'.get? b=some u)(hp:s.heap.objs.size<=a)(new:bw X.prog X.w X.K (upd H a o) h' a o):
  Inv X J3 σ (upd H a o) { s with heap:=h',toks:=t' }:=I.un (Un.laid k hp (I.hok.fresh hp)) (I.hok.laid k hp new)
theorem Inv.write{x e:Addr}{o:HO}{t':Nat}(I:Inv X J3 σ H s)(mu:BK (H x))(he:e=x∨H e=some (.own x))(k:∀b u,b≠e->s.heap.get? b=some u->h'.get? b=some u)(heo:∃u,h'.get? e=some u)
  (new:bw X.prog X.w X.K (upd H x o) h' x o):Inv X J3 σ (upd H x o) { s with heap:=h',toks:=t' }:=I.un (Un.write mu he k heo) (I.hok.write mu he k heo new)
theorem Inv.weak{σ':List (Option V)}(I:Inv X J3 σ H s)(hl:σ'.length=σ.length)(w:∀(i:Nat) v,σ'[i]?=some (some v)->σ[i]?=some (some v)):Inv X J3 σ' H s :=
 ⟨I.ok,I.os,I.bare,I.base,let⟨m,hn,hl'⟩:=I.loc;⟨m,hn,fun i x v e1 e2 e3=>hl' i x v e1 (w i v e2) e3⟩,I.cell,I.free,I.freeC,I.pin,I.hok,hl.trans I.len⟩
theorem Inv.pins_of{pins':Zd}(I:Inv X J3 σ H s)(h:∀p∈pins',s.heap.get? p.1=some p.2/\H p.1=none/\p.1≠X.env.locals/\p.1∉X.fs/\∀v,p.2.data≠.cell v):Inv X pins' σ H s :=
 ⟨I.ok,I.os,I.bare,I.base,I.loc,I.cell,I.free,I.freeC,fun p hp=>(aU.mp hp).elim (fun z=>I.pin p (cz _ z)) (h p),I.hok,I.len⟩
theorem tE{N:Zb}(hN:N.Nodup){i j:Nat}{x:Str}(a:N[i]?=some x)(b:N[j]?=some x):i=j:=by
 obtain⟨h1,e1⟩:=bT.mp a;obtain⟨h2,e2⟩:=bT.mp b;exact(List.getElem_inj hN).mp (e1.trans e2.symm)
theorem pV{M:Model}{A:Around}{E:Zc}{i:Nat}{x:Str}{v:V}{u:Value}{Q:Unit->Shared->Prop}(I:Inv X J3 σ H s)(hN:X.N.Nodup)(hi:X.N[i]?=some x)(hx:Loc X.env.scope x)(r:RelV v u)
  (h:∀s',Inv X J3 (σ.set i (some v)) H s'->(∃a,iE a s.heap s'.heap/\(a=X.env.locals∨X.env.cells.lookup x=some a))->Q () s') (hf:X.fn x=true∨X.env.scope.names.lookup x=some .local:=by first|exact .inl rfl|exact .inr rfl|assumption):wpAny M A (storeName X.env x u) Q E s:=by
 obtain⟨m,hn,hl⟩:=id I.loc;have hcls:(X.env.scope.kind==.class || (X.env.scope.kind==.module && X.env.locals != X.env.globals))=false:=by rw[I.ok.kind];rfl
 have hiσ:i<σ.length:=by rw[I.len];exact(bT.mp hi).1
 have cne:=I.cne;have tracked:∀{a:Addr}{h':Heap},(∃o,s.heap.get? a=some o/\H a=none)->iE a s.heap h'->jt X.prog X.w X.K H h':=fun{a h'} ha hs b ob e=>by
  obtain⟨_,_,hfree⟩:=ha;refine(I.hok b ob e).stay (fun c w' hc q=>(hs.2 c ?_).trans q) (fun _ q=>q) fun _ _ q=>q;rintro rfl;rcases hc with rfl|hc
  ·rw[hfree]at e;cases e
  ·rw[hfree]at hc;cases hc
 rcases hx with hk|hk
 ·refine wpAny_storeName_local hk hn (fun h' hn' hs=>?_) hcls;obtain⟨oL,_,_,hoL,_⟩:=id hn;refine h _ ⟨I.ok,I.os,I.bare,⟨fun b o e n hb hx=>?_,fun b o e n hb hx=>?_,I.base.free,fun b o e hx=>?_,I.base.tups,I.base.frzs,I.base.tbls⟩,⟨_,hn',fun j y v' e1 e2 e3=>?_⟩,fun y c e=>?_,I.free,I.freeC,fun p hp=>?_,tracked ⟨oL,hoL,I.free⟩ hs,by simpa using I.len⟩ ⟨_,hs,.inl rfl⟩
  ·exact(hs.2 b (b_ (fK (be e) I.ok.above))).trans (I.base.keep b o e n hb hx)
  ·obtain⟨sl,e1⟩:=I.base.slot b o e n hb hx;exact⟨sl,(hs.2 b (b_ (fK (be e) I.ok.above))).trans e1⟩
  ·obtain⟨o',e1⟩:=I.base.there b o e hx;exact⟨o',(hs.2 b (b_ (fK (be e) I.ok.above))).trans e1⟩
  ·by_cases hj:j=i
   ·subst hj;rw[hi]at e1;cases e1;rw[List.getElem?_set_self hiσ]at e2;cases e2;exact⟨u,r,.inl ⟨hk,by simp⟩⟩
   ·rw[List.getElem?_set_ne (fJ hj)]at e2;obtain⟨u',r',q⟩:=hl j y v' e1 e2 e3;refine⟨u',r',?_⟩;rcases q with⟨k,e⟩|⟨k,c,e,z⟩
    ·refine .inl ⟨k,?_⟩;have:y≠x:=fun e=>hj (tE hN e1 (e▸hi));simp[this,e]
    ·exact .inr ⟨k,c,e,z.sameBut hs (cne y c e)⟩
  ·obtain⟨w',z⟩:=I.cell y c e;exact⟨w',z.sameBut hs (cne y c e)⟩
  ·obtain⟨e,n,ne,nf,d⟩:=I.pin p hp;exact⟨(hs.2 p.1 ne).trans e,n,ne,nf,d⟩
 ·have hfn:X.fn x=true:=by
   rcases hf with z|z
   ·exact z
   ·rw[z]at hk;cases hk
  obtain⟨c,hc⟩:=I.ok.has x (.inl hk);obtain⟨w',z⟩:=I.cell x c hc;refine wpAny_storeName_cell I.ok.kind hk hc z (fun h' hc' hs=>?_);obtain⟨oc,hoc,hocd⟩:=id z;refine h { s with heap:=h' } ⟨I.ok,I.os,I.bare,⟨fun b o e n hb hx=>?_,fun b o e n hb hx=>?_,I.base.free,fun b o e hx=>?_,I.base.tups,I.base.frzs,I.base.tbls⟩,⟨m,hn.sameBut hs (fJ (cne x c hc)),fun j y v' e1 e2 e3=>?_⟩,fun y c' e=>?_,I.free,I.freeC,fun p hp=>?_,tracked ⟨oc,hoc,I.freeC x c hc⟩ hs,by simpa using I.len⟩ ⟨c,hs,.inr hc⟩
  ·exact(hs.2 b (b_ (fK (be e) (I.ok.cab x c hfn hc)))).trans (I.base.keep b o e n hb hx)
  ·obtain⟨sl,e1⟩:=I.base.slot b o e n hb hx;exact⟨sl,(hs.2 b (b_ (fK (be e) (I.ok.cab x c hfn hc)))).trans e1⟩
  ·obtain⟨o',e1⟩:=I.base.there b o e hx;exact⟨o',(hs.2 b (b_ (fK (be e) (I.ok.cab x c hfn hc)))).trans e1⟩
  ·by_cases hj:j=i
   ·subst hj;rw[hi]at e1;cases e1;rw[List.getElem?_set_self hiσ]at e2;cases e2;exact⟨u,r,.inr ⟨.inl hk,c,hc,hc'⟩⟩
   ·rw[List.getElem?_set_ne (fJ hj)]at e2;obtain⟨u',r',q⟩:=hl j y v' e1 e2 e3;refine⟨u',r',?_⟩;rcases q with q|⟨k,c',e,z'⟩
    ·exact .inl q
    ·refine .inr ⟨k,c',e,z'.sameBut hs ?_⟩;rintro rfl;exact hj (tE hN e1 (I.ok.inj _ _ _ e hc▸hi))
  ·by_cases hcc:c'=c
   ·subst hcc;exact⟨_,hc'⟩
   ·obtain⟨w2,z2⟩:=I.cell y c' e;exact⟨w2,z2.sameBut hs hcc⟩
  ·obtain⟨e,n,ne,nf,d⟩:=I.pin p hp;refine⟨(hs.2 p.1 ?_).trans e,n,ne,nf,d⟩;intro q;rw[q,hoc]at e;have q':oc=p.2:=da e;exact d w' (by rw[<-q'];exact hocd)
theorem sZ{M:Model}{A:Around}{E:Zc}{i:Nat}{x:Str}{v:V}{u:Value}{Q:Unit->Shared->Prop}(I:Inv X J3 σ H s)(hN:X.N.Nodup)(hi:X.N[i]?=some x)(hx:Loc X.env.scope x)(r:RelV v u)
  (h:∀s',Inv X J3 (σ.set i (some v)) H s'->Q () s') (hf:X.fn x=true∨X.env.scope.names.lookup x=some .local:=by first|exact .inl rfl|exact .inr rfl|assumption):wpAny M A (storeName X.env x u) Q E s :=
 pV I hN hi hx r (fun s' I' _=>h s' I') hf
theorem Inv.call'{s':Shared}{ch:Ze}(I:Inv X J3 σ H s)(ho:s'.os=s.os)(u:Un (xA X.stack) ch H H' s.heap s'.heap)(hok:jt X.prog X.w X.K H' s'.heap)(hg:kz s'.gens)
  (hch:∀b∈ch,(b∈X.ex∨X.s₀.heap.objs.size<=b)/\b≠X.env.locals/\(∀x c,X.env.cells.lookup x=some c->c≠b)/\∀p∈X.pn++J3,p.1≠b):Inv X J3 σ H' s':=by
 obtain⟨h',g',d',t',o'⟩:=s';have e:o'=s.os:=ho;subst e;exact I.call (g':=g') (t':=t') (d':=d') u hok hg hch
end
abbrev XK:=Value->Option Addr->Hp->Prop
abbrev St:=List (Option V)
abbrev VK:=V->Hp->Prop
abbrev TE:=St->Hp->VK->Prop
abbrev TT:=St->Hp->(Bool->Hp->Prop)->Prop
abbrev TA:=St->Hp->(List V->Hp->Prop)->Prop
structure o6 where
 nx:St->Hp->Prop
 rt:VK
 bk:St->Hp->Prop:=fun _ _=>False
 ct:St->Hp->Prop:=fun _ _=>False
abbrev bc(Q:VK):o6:={ nx:=fun _ H=>Q .non H,rt:=Q }
abbrev TS:=o6->St->Hp->Prop
def EP(X:Cx)(J3:Zd)(σ:St)(Q:VK)(u:Value)(s':Shared):Prop:=∃v H',Inv X J3 σ H' s'/\RelV v u/\Q v H'
def TP(X:Cx)(J3:Zd)(σ:St)(Q:Bool->Hp->Prop)(b:Bool)(s':Shared):Prop:=∃H',Inv X J3 σ H' s'/\Q b H'
def AP(X:Cx)(J3:Zd)(σ:St)(Q:List V->Hp->Prop)(us:Zf)(s':Shared):Prop:=∃vs H',Inv X J3 σ H' s'/\aI vs us/\Q vs H'
def SP(X:Cx)(J3:Zd)(D:o6)(f:Flow)(s':Shared):Prop :=
 match f with
 |.next=>∃σ' H',Inv X J3 σ' H' s'/\D.nx σ' H'
 |.brk=>∃σ' H',Inv X J3 σ' H' s'/\D.bk σ' H'
 |.cont=>∃σ' H',Inv X J3 σ' H' s'/\D.ct σ' H'
 |.ret u=>∃v σ' H',Inv X J3 σ' H' s'/\RelV v u/\D.rt v H'
def PE(X:Cx)(e:Expr)(t:TE):Prop :=
 ∀(J3:Zd) (s:Shared) (σ:St) (H:Hp) (Q:VK),Inv X J3 σ H s->t σ H Q->wpAny (model X.prog X.w) X.A (eval e X.env) (EP X J3 σ Q) X.xe s
def PT(X:Cx)(e:Expr)(t:TT):Prop :=
 ∀(J3:Zd) (s:Shared) (σ:St) (H:Hp) (Q:Bool->Hp->Prop),Inv X J3 σ H s->t σ H Q->wpAny (model X.prog X.w) X.A (isTrue e X.env (eval e X.env)) (TP X J3 σ Q) X.xe s
def PW(X:Cx)(e:Expr)(t:TT):Prop :=
 ∀(whole:Sem Value) (J3:Zd) (s:Shared) (σ:St) (H:Hp) (Q:Bool->Hp->Prop),Inv X J3 σ H s->t σ H Q->wpAny (model X.prog X.w) X.A (isTrue e X.env whole) (TP X J3 σ Q) X.xe s
theorem PW.pt{X:Cx}{e:Expr}{t:TT}(h:PW X e t):PT X e t:=h _
def PA(X:Cx)(es:List Expr)(t:TA):Prop :=
 ∀(pos:Pos) (J3:Zd) (s:Shared) (σ:St) (H:Hp) (Q:List V->Hp->Prop),Inv X J3 σ H s->t σ H Q->wpAny (model X.prog X.w) X.A (spliced (backTo pos (aw es X.env))) (AP X J3 σ Q) X.xe s
def PS(X:Cx)(st:Stmt)(t:TS):Prop :=
 ∀(J3:Zd) (s:Shared) (σ:St) (H:Hp) (D:o6),Inv X J3 σ H s->t D σ H->wpAny (model X.prog X.w) X.A (exec st X.env) (SP X J3 D) X.xe s
def uj(X:Cx)(st:List Stmt)(t:TS):Prop :=
 ∀(J3:Zd) (s:Shared) (σ:St) (H:Hp) (D:o6),Inv X J3 σ H s->t D σ H->wpAny (model X.prog X.w) X.A (execs st X.env) (SP X J3 D) X.xe s
theorem bO{α:Type}{t:Sem α}{Q Q':α->Shared->Prop}{M:Model}{A:Around}{E:Zc}{s:Shared}(h:wpAny M A t Q E s)(hQ:∀a s,Q a s->Q' a s):wpAny M A t Q' E s:=kB h hQ fun _ _ x=>x
end L2
namespace L2
open PySem PySem.Spec PyProof.Rows
section
variable{X:Cx}
def jU(i:Nat):TE:=fun σ H Q=>∃v,σ[i]?=some (some v)/\Q v H
abbrev V0:TE:=jU 0
abbrev V1:TE:=jU 1
abbrev V2:TE:=jU 2
abbrev V3:TE:=jU 3
abbrev V4:TE:=jU 4
abbrev V5:TE:=jU 5
abbrev V6:TE:=jU 6
abbrev V7:TE:=jU 7
abbrev V8:TE:=jU 8
abbrev V9:TE:=jU 9
abbrev BH:TE:=jU 10
abbrev V11:TE:=jU 11
abbrev V12:TE:=jU 12
def tC(v:V):TE:=fun _ H Q=>Q v H
theorem AW{i:Nat}{x:Str}{pos:Pos}(hN:X.N[i]?=some x)(hv:Vis X.env.scope x)(hd:(x==("__debug__":Str))=false:=by decide)(hcd:(x==("__classdict__":Str))=false:=by decide):PE X (.Name x pos) (jU i):=by
 intro J3 s σ H Q I h;obtain⟨v,e,h⟩:=h;obtain⟨m,hn,hl⟩:=I.loc;obtain⟨u,r,l⟩:=hl i x v hN e hv;have fin:EP X J3 σ Q u s:=⟨v,H,I,r,h⟩;rcases l with⟨hk,hm⟩|⟨hk,c,hc,hcell⟩
 ·exact wpAny_Name (wpAny_loadName_local I.ok.kind hk hn hm fin) hd
 ·rcases hk with hk|hk
  ·exact wpAny_Name (wpAny_loadName_cell I.ok.kind hk hc hcell fin) hd
  ·exact wpAny_Name (wpAny_loadName_free I.ok.kind hk hc hcell fin hcd) hd
theorem ag{i j pos}:PE X (.Constant (.int i) j pos) (tC (.int i)):=fun _ _ _ H _ I h=>wpAny_Constant_int ⟨.int i,H,I.tok _,⟨_,rfl⟩,h⟩
theorem mz{b j pos}:PE X (.Constant (.bool b) j pos) (tC (.bl b)):=fun _ _ _ H _ I h=>Constant_bool ⟨.bl b,H,I,rfl,h⟩
theorem rE{j pos}:PE X (.Constant .none j pos) (tC .non):=fun _ _ _ H _ I h=>Constant_none ⟨.non,H,I,rfl,h⟩
theorem bJ{x j pos}:PE X (.Constant (.str x) j pos) (tC (.str x)):=fun _ _ _ H _ I h=>Calls.Constant_str ⟨.str x,H,I.tok _,⟨_,rfl⟩,h⟩
def Gl(X:Cx)(x:Str):Prop:=X.env.kindOf x=some .globalImplicit
theorem rK{E:Zc}{J3:Zd}{s:Shared}{σ:St}{H:Hp}{x:Str}{u:Value}{pos:Pos}{Q:Zc}(I:Inv X J3 σ H s)(hg:Gl X x)(hm:X.mg x=some u)(h:Q u s)
  (hd:(x==("__debug__":Str))=false:=by decide):wpAny (model X.prog X.w) X.A (eval (.Name x pos) X.env) Q E s :=
 Calls.Name_function_global I.ok.kind hg (Calls.loadGlobal_global (by rw[I.ok.glob];exact I.mod.glob.keeps I.bk) hm h) hd
theorem oG{E:Zc}{J3:Zd}{s:Shared}{σ:St}{H:Hp}{x:Str}{u:Value}{pos:Pos}{Q:Zc}(I:Inv X J3 σ H s)(hg:Gl X x)(hm:X.mg x=none)(hv:gP x=some u)(h:Q u s)
  (hn:x≠"__name__":=by decide) (hd:(x==("__debug__":Str))=false:=by decide):wpAny (model X.prog X.w) X.A (eval (.Name x pos) X.env) Q E s:=by
 obtain⟨mb,h1,h2⟩:=I.mod.blt;exact Calls.Name_function_global I.ok.kind hg (Calls.loadGlobal_builtin (by rw[I.ok.glob];exact I.mod.glob.keeps I.bk) hm (by rw[I.ok.blt];exact h1.keeps I.bk) ((h2 x hn).trans hv) h) hd
theorem zT{x:Str}{v:V}{u:Value}{pos:Pos}(hg:Gl X x)(hm:X.mg x=some u)(r:RelV v u)(hd:(x==("__debug__":Str))=false:=by decide):PE X (.Name x pos) (tC v) :=
 fun _ _ _ H _ I h=>rK I hg hm ⟨v,H,I,r,h⟩ hd
theorem vS{x:Str}{v:V}{u:Value}{pos:Pos}(hg:Gl X x)(hm:X.mg x=none)(hv:gP x=some u)(r:RelV v u)(hn:x≠"__name__":=by decide)(hd:(x==("__debug__":Str))=false:=by decide):PE X (.Name x pos) (tC v) :=
 fun _ _ _ H _ I h=>oG I hg hm hv ⟨v,H,I,r,h⟩ hn hd
variable{a b:Expr}{ta tb:TE}{pos:Pos}
def PC(X:Cx)(op:CmpOp)(a b:Expr)(t:TE):Prop :=
 ∀(J3:Zd) (s:Shared) (σ:St) (H:Hp) (Q:VK),Inv X J3 σ H s->t σ H Q ->
  wpAny (model X.prog X.w) X.A (eval a X.env) (fun v s₁=>wpAny (model X.prog X.w) X.A (eval b X.env) (fun u s₂=>wpAny (model X.prog X.w) X.A (c9 op v u) (EP X J3 σ Q) X.xe s₂) X.xe s₁) X.xe s
theorem tF(b:Expr){op:CmpOp}(h:op≠.In)(h2:op≠.NotIn):iq op b=false:=by
 have e1:(op==CmpOp.In)=false:=by cases op<;>first|rfl|exact absurd rfl h
 have e2:(op==CmpOp.NotIn)=false:=by cases op<;>first|rfl|exact absurd rfl h2
 cases b<;>simp[iq,e1,e2]
def AN(ta:TE):TE:=fun σ H Q=>ta σ H fun x H1=>Q (.bl (decide (x=.non))) H1
def An(ta:TE):TE:=fun σ H Q=>ta σ H fun x H1=>Q (.bl (!decide (x=.non))) H1
theorem RelV.none_iff{x:V}{v:Value}(r:RelV x v):(v==Value.none)=decide (x=.non):=by
 cases x with
 |non=>cases r;rfl
 |bl _=>cases r;rfl
 |int _=>obtain⟨t,rfl⟩:=r;rfl
 |str _=>obtain⟨t,rfl⟩:=r;rfl
 |byt _=>obtain⟨t,rfl⟩:=r;rfl
 |flt _=>obtain⟨t,rfl⟩:=r;rfl
 |ref _=>cases r;rfl
 |ty _=>cases r;rfl
theorem yo{j pos'}(ha:PE X a ta):PC X .Is a (.Constant .none j pos') (AN ta):=by
 intro J3 s σ H Q I h;refine bO (ha J3 s σ H _ I h) fun v s1 ⟨x,H1,I1,r1,q1⟩=>?_;exact Constant_none (is_none_gen ⟨.bl _,H1,I1,by rw[r1.none_iff];rfl,q1⟩)
theorem zW{j pos'}(ha:PE X a ta):PC X .IsNot a (.Constant .none j pos') (An ta):=by
 intro J3 s σ H Q I h;refine bO (ha J3 s σ H _ I h) fun v s1 ⟨x,H1,I1,r1,q1⟩=>?_;exact Constant_none (isnot_none_gen ⟨.bl _,H1,I1,by rw[r1.none_iff];rfl,q1⟩)
def tB(t:TE):TT:=fun σ H Q=>t σ H fun x H1=>∃c,x=.bl c/\Q c H1
theorem AZ{op:CmpOp}{t:TE}(h:PC X op a b t)(h1:iq op b=false:=by first|exact tF _ (by decide) (by decide)|rfl):PE X (.Compare a [op] [b] pos) t:=fun J3 s σ H Q I hw=>wpAny_Compare1 (h J3 s σ H Q I hw) h1
theorem du{op:CmpOp}{t:TE}(h:PC X op a b t)(h1:iq op b=false:=by first|exact tF _ (by decide) (by decide)|rfl):PT X (.Compare a [op] [b] pos) (tB t):=by
 intro J3 s σ H Q I hw;refine wpAny_isTrue_Compare1 (bO (h J3 s σ H _ I hw) fun v s1 h1=>bO h1 fun u s2 h2=>bO h2 fun c s3 ⟨x,H1,I1,r1,q1⟩=>?_) h1;obtain⟨d,rfl,q⟩:=q1;cases r1;exact nL ⟨H1,I1,q⟩
theorem rD{e:Expr}{t:TE}(h:PE X e t)(he:∀whole,isTrue e X.env whole=(do let v <- whole;mr e.pos;iD [v] (truthy v)):=by intro _;rfl):PT X e (tB t):=by
 intro J3 s σ H Q I hw;refine isTrue_plain (bO (h J3 s σ H _ I hw) fun v s1 ⟨x,H1,I1,r1,q1⟩=>?_) (he _);obtain⟨d,rfl,q⟩:=q1;cases r1;exact nL ⟨H1,I1,q⟩
variable{tA tB':TT}{rest:List Expr}
def xM(t u:TT):TT:=fun σ H Q=>t σ H fun c H1=>if c=true then u σ H1 Q else Q false H1
def zt(t u:TT):TT:=fun σ H Q=>t σ H fun c H1=>if c=true then Q true H1 else u σ H1 Q
def AM(t:TT):TT:=fun σ H Q=>t σ H fun c H1=>Q (!c) H1
theorem rB(ha:PT X a tA):PW X (.BoolOp .And [a] pos) tA:=by
 intro wh J3 s σ H Q I h;refine isTrue_and (bO (ha J3 s σ H Q I h) fun c s1 e=>?_);cases c with
 |true=>exact isTrue_and_nil e
 |false=>exact e
theorem lP(ha:PT X a tA):PW X (.BoolOp .Or [a] pos) tA:=by
 intro wh J3 s σ H Q I h;refine isTrue_or (bO (ha J3 s σ H Q I h) fun c s1 e=>?_);cases c with
 |false=>exact isTrue_or_nil e
 |true=>exact e
theorem rC(ha:PT X a tA)(hb:PW X (.BoolOp .And (b::rest) pos) tB'):PW X (.BoolOp .And (a::b::rest) pos) (xM tA tB'):=by
 intro wh J3 s σ H Q I h;refine isTrue_and (bO (ha J3 s σ H _ I h) fun c s1 ⟨H1,I1,q1⟩=>?_);cases c with
 |true=>exact hb wh J3 s1 σ H1 Q I1 q1
 |false=>exact⟨H1,I1,q1⟩
theorem my(ha:PT X a tA)(hb:PW X (.BoolOp .Or (b::rest) pos) tB'):PW X (.BoolOp .Or (a::b::rest) pos) (zt tA tB'):=by
 intro wh J3 s σ H Q I h;refine isTrue_or (bO (ha J3 s σ H _ I h) fun c s1 ⟨H1,I1,q1⟩=>?_);cases c with
 |true=>exact⟨H1,I1,q1⟩
 |false=>exact hb wh J3 s1 σ H1 Q I1 q1
theorem yg(ha:PT X a tA):PT X (.UnaryOp .Not a pos) (AM tA):=by
 intro J3 s σ H Q I h;exact isTrue_not (ha J3 s σ H (fun c H1=>Q (!c) H1) I h)
def sX(ta tb:TE):TE:=fun σ H Q=>ta σ H fun x H1=>∃c,x=.bl c/\if c=true then tb σ H1 Q else Q (.bl false) H1
def Am(ta:TE):TE:=fun σ H Q=>ta σ H fun x H1=>∃c,x=.bl c/\Q (.bl (!c)) H1
theorem yk{op}{t:TE}(h:PE X a t):PE X (.BoolOp op [a] pos) t:=fun J3 s σ H Q I hw=>BoolOp_one (h J3 s σ H Q I hw)
theorem rF(ha:PE X a ta)(hb:PE X (.BoolOp .And (b::rest) pos) tb):PE X (.BoolOp .And (a::b::rest) pos) (sX ta tb):=by
 intro J3 s σ H Q I h;refine BoolOp_and (bO (ha J3 s σ H _ I h) fun v s1 ⟨x,H1,I1,r1,q1⟩=>?_);obtain⟨c,rfl,q1⟩:=q1;cases r1;refine nL ?_;cases c with
 |true=>exact hb J3 s1 σ H1 Q I1 q1
 |false=>exact⟨.bl false,H1,I1,rfl,q1⟩
theorem AX(ha:PE X a ta):PE X (.UnaryOp .Not a pos) (Am ta):=by
 intro J3 s σ H Q I h;refine UnaryOp_ (bO (ha J3 s σ H _ I h) fun v s1 ⟨x,H1,I1,r1,q1⟩=>?_);obtain⟨c,rfl,q1⟩:=q1;cases r1;exact not_of (nL ⟨.bl (!c),H1,I1,rfl,q1⟩)
end
end L2
namespace L2
open PySem PySem.Spec PyProof.Rows
def ay(K:Za)(H:Hp)(a:Addr)(xs:List V):Prop :=
 Rd H a (.lst xs) ∨
  ∃(o:Obj) (its:Array Value) (n:Nat),K.lookup a=some o/\o.cls=.type "list"/\o.dict=none/\o.data=.seq its n/\its.size<=aj/\aI xs its.toList
def bE(K:Za)(H:Hp)(a:Addr)(xs:List V):Prop :=
 Rd H a (.tup xs) ∨
  ∃(o:Obj) (its:Array Value) (n:Nat),K.lookup a=some o/\o.cls=.type "tuple"/\o.data=.seq its n/\its.size<=aj/\aI xs its.toList
def absV:Value->Option V
 |.none=>some .non
 |.bool b=>some (.bl b)
 |.int i _=>some (.int i)
 |.str x _=>some (.str x)
 |.bytes b _=>some (.byt b)
 |.float b _=>some (.flt b)
 |.ref a=>some (.ref a)
 |.type n=>some (.ty n)
 |_=>none
theorem RelV.abs{x:V}{u:Value}(r:RelV x u):absV u=some x:=by
 cases x with
 |non=>cases r;rfl
 |bl _=>cases r;rfl
 |int _=>obtain⟨t,rfl⟩:=r;rfl
 |str _=>obtain⟨t,rfl⟩:=r;rfl
 |byt _=>obtain⟨t,rfl⟩:=r;rfl
 |flt _=>obtain⟨t,rfl⟩:=r;rfl
 |ref _=>cases r;rfl
 |ty _=>cases r;rfl
theorem RelV.inj{x y:V}{u:Value}(r:RelV x u)(q:RelV y u):x=y:=da (r.abs.symm.trans q.abs)
theorem aI.inj:∀{xs ys:List V}{us:Zf},aI xs us->aI ys us->xs=ys
 |_,_,_,.nil,.nil=>rfl
 |_,_,_,.cons r t,.cons r' t'=>by rw[r.inj r',aI.inj t t']
section
variable{X:Cx}{J3:Zd}{σ:St}{H:Hp}{s:Shared}{a:Addr}{xs ys:List V}
theorem ay.of{K:Za}(h:H a=some (.lst xs)):ay K H a xs:=.inl (.inl h)
theorem bE.of{K:Za}(h:H a=some (.tup xs)):bE K H a xs:=.inl (.inl h)
theorem Inv.list(I:Inv X J3 σ H s)(h:ay X.K H a xs):∃its:List Value,aI xs its/\PlainL s.heap a its.toArray/\xs.length<=aj:=by
 rcases h with h|⟨o,its,n,hk,hc,hd,hs,hz,r⟩
 ·obtain⟨z,its,n,r,e⟩:=h.ok I.hok;exact⟨its,r,⟨_,n,e,rfl,rfl,rfl⟩,z⟩
 ·refine⟨its.toList,r,⟨o,n,I.kIn a o hk,hc,hd,by simpa using hs⟩,?_⟩;have e:=r.length;simp only[jD]at e;omega
theorem Inv.tuple(I:Inv X J3 σ H s)(h:bE X.K H a xs):∃its:List Value,aI xs its/\IsTup s.heap a its.toArray/\xs.length<=aj:=by
 rcases h with h|⟨o,its,n,hk,hc,hs,hz,r⟩
 ·obtain⟨z,its,r,p⟩:=h.ok I.hok;exact⟨its,r,p,z⟩
 ·refine⟨its.toList,r,⟨o,I.kIn a o hk,hc,n,by simpa using hs⟩,?_⟩;have e:=r.length;simp only[jD]at e;omega
theorem Inv.list_inj(I:Inv X J3 σ H s)(h:ay X.K H a xs)(h':ay X.K H a ys):xs=ys:=by
 obtain⟨its,r,⟨o,n,e,_,_,d⟩,_⟩:=I.list h;obtain⟨its',r',⟨o',n',e',_,_,d'⟩,_⟩:=I.list h';rw[e]at e';cases e';rw[d]at d';injection d' with d1 _;have:its=its':=by simpa using congrArg Array.toList d1
 subst this;exact r.inj r'
theorem Inv.tuple_inj(I:Inv X J3 σ H s)(h:bE X.K H a xs)(h':bE X.K H a ys):xs=ys:=by
 obtain⟨its,r,⟨o,e,_,n,d⟩,_⟩:=I.tuple h;obtain⟨its',r',⟨o',e',_,n',d'⟩,_⟩:=I.tuple h';rw[e]at e';cases e';rw[d]at d';injection d' with d1 _;have:its=its':=by simpa using congrArg Array.toList d1
 subst this;exact r.inj r'
end
abbrev Cx.wish(X:Cx)(E:Zc):Cx:={ X with xe:=E }
abbrev Cx.nox(X:Cx):Cx:=X.wish fun _ _=>False
theorem Cx.Ok.wish{X:Cx}(ok:X.Ok)(E:Zc):(X.wish E).Ok :=
 ⟨ok.mod,ok.kind,ok.glob,ok.blt,ok.above,ok.inj,ok.has,ok.cab,ok.hd,ok.frames,ok.stk,ok.exf,ok.bs,ok.bsz,ok.noex,ok.exfs,ok.funs,ok.frf⟩
theorem Cx.Ok.unwish{X:Cx}{E:Zc}(ok:(X.wish E).Ok):X.Ok :=
 ⟨ok.mod,ok.kind,ok.glob,ok.blt,ok.above,ok.inj,ok.has,ok.cab,ok.hd,ok.frames,ok.stk,ok.exf,ok.bs,ok.bsz,ok.noex,ok.exfs,ok.funs,ok.frf⟩
section
variable{X:Cx}{J3:Zd}{σ:St}{H:Hp}{s:Shared}{E:Zc}
theorem Inv.wish(I:Inv X J3 σ H s)(E:Zc):Inv (X.wish E) J3 σ H s:=⟨I.ok.wish E,I.os,I.bare,I.base,I.loc,I.cell,I.free,I.freeC,I.pin,I.hok,I.len⟩
theorem Inv.unwish(I:Inv (X.wish E) J3 σ H s):Inv X J3 σ H s:=⟨I.ok.unwish,I.os,I.bare,I.base,I.loc,I.cell,I.free,I.freeC,I.pin,I.hok,I.len⟩
theorem SP.unwish{D:o6}{f:Flow}{s':Shared}(h:SP (X.wish E) J3 D f s'):SP X J3 D f s':=by
 cases f with
 |next=>obtain⟨σ',H',I,q⟩:=h;exact⟨σ',H',I.unwish,q⟩
 |brk=>obtain⟨σ',H',I,q⟩:=h;exact⟨σ',H',I.unwish,q⟩
 |cont=>obtain⟨σ',H',I,q⟩:=h;exact⟨σ',H',I.unwish,q⟩
 |ret u=>obtain⟨v,σ',H',I,r,q⟩:=h;exact⟨v,σ',H',I.unwish,r,q⟩
theorem uj.nox{st:List Stmt}{t:TS}(h:uj X.nox st t):uj X st t:=fun J3 s σ H D I hw =>
 kB (h J3 s σ H D (I.wish _) hw) (fun _ _ q=>q.unwish) fun _ _ z=>gO z
end
section
variable{X:Cx}{st:Stmt}{rest:List Stmt}{t u:TS}{e:Expr}{te:TE}{pos:Pos}
def cf:TS:=fun D σ H=>D.nx σ H
def aq(t u:TS):TS:=fun D σ H=>t { D with nx:=u D } σ H
theorem aV:uj X [] cf:=fun _ _ σ H _ I h=>vD ⟨σ,H,I,h⟩
theorem ae(h1:PS X st t)(h2:uj X rest u):uj X (st::rest) (aq t u):=by
 intro J3 s σ H D I h;refine wpAny_execs_cons (bO (h1 J3 s σ H { D with nx:=u D } I h) fun f s1 q=>?_);cases f with
 |next =>
  obtain⟨σ',H',I',q⟩:=q;exact h2 J3 s1 σ' H' D I' q
 |ret v=>exact q
 |brk=>exact q
 |cont=>exact q
theorem af(h1:PS X st t):uj X [st] t:=by
 intro J3 s σ H D I h;refine wpAny_execs_cons (bO (h1 J3 s σ H D I h) fun f s1 q=>?_);cases f with
 |next=>exact vD q
 |ret v=>exact q
 |brk=>exact q
 |cont=>exact q
theorem Inv.quiet{J3:Zd}{σ:St}{H:Hp}{s:Shared}(I:Inv X J3 σ H s):interactive X.env=false:=by simp[interactive,I.ok.kind]
def df(te:TE):TS:=fun D σ H=>te σ H fun _ H1=>D.nx σ H1
theorem bF(he:PE X e te)(hs:mq e none pos.line X.env=pure false:=by rfl):PS X (.Expr e pos) (df te):=by
 intro J3 s σ H D I h;exact wpAny_Expr_any (bO (he J3 s σ H _ I h) fun v s1 ⟨x,H1,I1,r1,q1⟩=>⟨σ,H1,I1,q1⟩) I.quiet hs
def aY(te:TE):TS:=fun D σ H=>te σ H D.rt
theorem av(he:PE X e te):PS X (.Return (some e) pos) (aY te):=by
 intro J3 s σ H D I h;exact wpAny_Return_some (bO (he J3 s σ H _ I h) fun v s1 ⟨x,H1,I1,r1,q1⟩=>⟨x,σ,H1,I1,r1,q1⟩)
def d6(c:TT)(t u:TS):TS:=fun D σ H=>c σ H fun b H1=>if b=true then t D σ H1 else u D σ H1
theorem ci{c:Expr}{a b:List Stmt}{tc:TT}(hc:PT X c tc)(ha:uj X a t)(hb:uj X b u):PS X (.If c a b pos) (d6 tc t u):=by
 intro J3 s σ H D I h;refine wpAny_If (bO (hc J3 s σ H _ I h) fun d s1 ⟨H1,I1,q1⟩=>?_);cases d with
 |true=>exact ha J3 s1 σ H1 D I1 q1
 |false=>exact hb J3 s1 σ H1 D I1 q1
def ux:TS:=fun _ _ _=>False
theorem tz:PS X st ux:=fun _ _ _ _ _ _ h=>h.elim
end
abbrev TG:=V->St->Hp->(St->Hp->Prop)->Prop
abbrev Bf:=List V->St->Hp->(St->Hp->Prop)->Prop
def PG(X:Cx)(target:Expr)(t:TG):Prop :=
 ∀(J3:Zd) (s:Shared) (σ:St) (H:Hp) (v:V) (u:Value) (Q:St->Hp->Prop),Inv X J3 σ H s->RelV v u->t v σ H Q ->
  wpAny (model X.prog X.w) X.A (assign target X.env u) (fun _ s'=>∃σ' H',Inv X J3 σ' H' s'/\Q σ' H') X.xe s
def BV(X:Cx)(ts:List Expr)(t:Bf):Prop :=
 ∀(J3:Zd) (s:Shared) (σ:St) (H:Hp) (vs:List V) (us:Zf) (Q:St->Hp->Prop),Inv X J3 σ H s->aI vs us->t vs σ H Q ->
  wpAny (model X.prog X.w) X.A (assignInOrder ((pO ts X.env).map (·.2)) us) (fun _ s'=>∃σ' H',Inv X J3 σ' H' s'/\Q σ' H') X.xe s
abbrev Be:=V->V->V->Hp->(Hp->Prop)->Prop
def BI(X:Cx)(t:Be):Prop :=
 ∀(J3:Zd) (s:Shared) (σ:St) (H:Hp) (o i v:V) (ov iv u:Value) (Q:Hp->Prop),Inv X J3 σ H s->RelV o ov->RelV i iv->RelV v u->t o i v H Q ->
  wpAny (model X.prog X.w) X.A (setItem ov iv u) (fun _ s'=>∃H',Inv X J3 σ H' s'/\Q H') X.xe s
section
variable{X:Cx}{pos:Pos}
def cS(i:Nat):TG:=fun v σ H Q=>Q (σ.set i (some v)) H
abbrev U0:TG:=cS 0
abbrev U1:TG:=cS 1
abbrev U2:TG:=cS 2
abbrev U3:TG:=cS 3
abbrev U4:TG:=cS 4
abbrev U5:TG:=cS 5
abbrev U6:TG:=cS 6
abbrev U7:TG:=cS 7
abbrev U8:TG:=cS 8
abbrev U9:TG:=cS 9
abbrev U10:TG:=cS 10
abbrev U11:TG:=cS 11
abbrev U12:TG:=cS 12
theorem vP{i:Nat}{x:Str}(hN:X.N.Nodup)(hi:X.N[i]?=some x)(hx:Loc X.env.scope x)(hf:X.fn x=true∨X.env.scope.names.lookup x=some .local:=by first|exact .inl rfl|exact .inr rfl|assumption):PG X (.Name x pos) (cS i):=by
 intro J3 s σ H v u Q I r h;exact wpAny_assign_Name (sZ I hN hi hx r (fun s' I'=>⟨_,H,I',h⟩) hf)
def pH:Bf:=fun vs σ H Q=>vs=[]/\Q σ H
def cT(t:TG)(u:Bf):Bf:=fun vs σ H Q=>∃v r,vs=v::r/\t v σ H fun σ' H'=>u r σ' H' Q
theorem fB:BV X [] pH:=by
 intro J3 s σ H vs us Q I r h;obtain⟨e,h⟩:=h;subst e;cases r;exact assignInOrder_nil ⟨σ,H,I,h⟩
theorem aT{e:Expr}{es:List Expr}{t:TG}{u:Bf}(h1:PG X e t)(h2:BV X es u)
  (hs:(pO (e::es) X.env).map (·.2)=assign e X.env::(pO es X.env).map (·.2):=by rfl):BV X (e::es) (cT t u):=by
 intro J3 s σ H vs us Q I r h;obtain⟨v,vr,e1,h⟩:=h;subst e1;cases r with
 |cons r rr =>
  rw[hs];refine assignInOrder_cons (bO (h1 J3 s σ H _ _ _ I r h) fun _ s1 ⟨σ1,H1,I1,q1⟩=>?_);exact h2 J3 s1 σ1 H1 _ _ Q I1 rr q1
def pG(K:Za)(n:Nat)(t:Bf):TG:=fun v σ H Q=>∃a xs,v=.ref a/\bE K H a xs/\xs.length=n/\t xs σ H Q
theorem hZ{es:List Expr}{k:Nat}{t:Bf}{n:Nat}(hc:X.calm=true)(h:BV X es t)
  (hn:(pO es X.env).length=n:=by rfl) (hst:(pO es X.env).findIdx? (·.1)=none:=by rfl):PG X (.Tuple es k pos) (pG X.K n t):=by
 intro J3 s σ H v u Q I r hw;obtain⟨a,xs,e1,hq,hl,hw⟩:=hw;subst e1;cases r;obtain⟨its,rv,ht,hz⟩:=I.tuple hq;refine assign_Tuple_tuple (I.ok.hd hc) ht (by simp[hn,<-hl,rv.length]) hst fun h' hx=>?_;have I1:Inv X J3 σ H { s with heap:=h' }:=I.kept (t':=s.toks) fun b o e=>hx b o (b_ (be e)) e;exact h J3 _ σ H xs _ Q I1 (by simpa using rv) hw
def u4(to ti:TE)(t:Be):TG:=fun v σ H Q=>to σ H fun o H1=>ti σ H1 fun i H2=>t o i v H2 fun H3=>Q σ H3
theorem oz{o i:Expr}{to ti:TE}{t:Be}(ho:PE X o to)(hi:PE X i ti)(hs:BI X t)
  (ha:∀v,assign (.Subscript o i pos) X.env v=(do
   let ov <- iD [v] (eval o X.env)
   let iv <- iD [v,ov] (eval i X.env)
   mr pos
   iD [v,ov,iv] (setItem ov iv v)
   release [v,ov,iv] []):=by intro _;rfl):PG X (.Subscript o i pos) (u4 to ti t):=by
 intro J3 s σ H v u Q I r h;rw[ha];refine ar (mx (bO (ho J3 s σ H _ I h) fun ov s1 ⟨x,H1,I1,r1,q1⟩=>?_));refine ar (mx (bO (hi J3 s1 σ H1 _ I1 q1) fun iv s2 ⟨y,H2,I2,r2,q2⟩=>?_));refine ar (wpAny_standAt (ar (mx (bO (hs J3 s2 σ H2 x y v ov iv u _ I2 r1 r2 r q2) fun _ s3 ⟨H3,I3,q3⟩=>?_))));exact wpAny_release ⟨σ,H3,I3,q3⟩
def aK(te:TE)(g:TG):TS:=fun D σ H=>te σ H fun x H1=>g x σ H1 D.nx
theorem lQ{tg e:Expr}{te:TE}{g:TG}(he:PE X e te)(hg:PG X tg g)(hs:swapsWithSole [tg] e pos.line X.env=pure false:=by rfl)(hw:swappedStores [tg] e X.env=pure none:=by rfl)
  (h1:(pO [tg] X.env).map (·.2)=[assign tg X.env]:=by rfl):PS X (.Assign [tg] e pos) (aK te g):=by
 intro J3 s σ H D I h;refine wpAny_Assign_stores (bO (he J3 s σ H _ I h) fun v s1 ⟨x,H1,I1,r1,q1⟩=>?_) hs hw;rw[h1];exact bO (hg J3 s1 σ H1 x v _ I1 r1 q1) fun _ s2 q=>q
theorem AT{i:Nat}{x:Str}{e:Expr}{te:TE}{pos':Pos}(hN:X.N.Nodup)(hi:X.N[i]?=some x)(hx:Loc X.env.scope x)(he:PE X e te)(hs:mq e (some (.Name x pos')) pos.line X.env=pure false:=by rfl)(hf:X.fn x=true∨X.env.scope.names.lookup x=some .local:=by first|exact .inl rfl|exact .inr rfl|assumption):
  PS X (.Assign [.Name x pos'] e pos) (aK te (cS i)):=by
 intro J3 s σ H D I h;refine wpAny_Assign_Name (bO (he J3 s σ H _ I h) fun v s1 ⟨y,H1,I1,r1,q1⟩=>?_) hs;exact sZ I1 hN hi hx r1 (fun s2 I2=>⟨_,H1,I2,q1⟩) hf
end
section
variable{X:Cx}{pos:Pos}
def uw(c:TT)(tb:TS):TS:=fun D σ H=>∃W:Nat->St->Hp->Prop,(∃m,W m σ H)/\∀m σ H,W m σ H ->
 c σ H fun b H1=>if b=true then ∃N:St->Hp->Prop,(∀σ' H',N σ' H'->∃m',m'<m/\W m' σ' H')/\tb { D with nx:=N,ct:=N,bk:=D.nx } σ H1 else D.nx σ H1
theorem tw{c:Expr}{body:List Stmt}{tc:TT}{tb:TS}(hp:PassesOwn (model X.prog X.w) X.A X.env X.xe)(hc:PT X c tc)(hb:uj X body tb):PS X (.While c body [] pos) (uw tc tb):=by
 intro J3 s σ H D I h;obtain⟨W,⟨m0,w0⟩,turn⟩:=h;refine wpAny_While (codeAny_whileLoop (fun n s'=>∃σ' H',Inv X J3 σ' H' s'/\W n σ' H') ?_ m0 ⟨σ,H,I,w0⟩);rintro n s1 ⟨σ1,H1,I1,w1⟩;refine nK hp (bO (hc J3 s1 σ1 H1 _ I1 (turn n σ1 H1 w1)) fun b s2 ⟨H2,I2,q2⟩=>?_);cases b with
 |true =>
  obtain⟨N,hN,q2⟩:=q2;rw[if_pos rfl];refine nK hp (bO (hb J3 s2 σ1 H2 _ I2 q2) fun f s3 q3=>?_);cases f with
  |next =>
   obtain⟨σ3,H3,I3,n3⟩:=q3;obtain⟨m',hm,w3⟩:=hN σ3 H3 n3;exact⟨m',hm,σ3,H3,I3,w3⟩
  |cont =>
   obtain⟨σ3,H3,I3,n3⟩:=q3;obtain⟨m',hm,w3⟩:=hN σ3 H3 n3;exact⟨m',hm,σ3,H3,I3,w3⟩
  |brk=>exact q3
  |ret v=>exact q3
 |false =>
  rw[if_neg fI];exact vD ⟨σ1,H2,I2,q2⟩
end
structure It where
 go:Nat->Hp->Prop
 yld:Nat->Hp->V->Hp->Prop
 stop:Nat->Hp->Prop
def lp(X:Cx)(J3:Zd)(H:Hp)(b:Addr):Prop :=
 H b=none/\b≠X.env.locals/\b∉X.fs/\(b∈X.ex∨X.s₀.heap.objs.size<=b)/\(∀x c,X.env.cells.lookup x=some c->c≠b)/\∀p∈X.pn++J3,p.1≠b
theorem Inv.fpOk{X:Cx}{J3:Zd}{σ:St}{H H':Hp}{s:Shared}{b:Addr}(I:Inv X J3 σ H s)(hb:s.heap.objs.size<=b)(hn:H' b=none):lp X J3 H' b:=by
 refine⟨hn,vC (fK I.lt hb),I.nofs hb,.inr (aJ I.sz hb),fun x c e z=>?_,fun p hp z=>?_⟩
 ·obtain⟨v,q⟩:=I.cell x c e;exact absurd (fK q.lt (by rw[z];exact hb)) (mv _)
 ·exact absurd (fK (be (I.pin p hp).1) (by rw[z];exact hb)) (mv _)
structure se(P:bj)(w:World)(K:Za)(tg:Expr)(J:It)(fp:Ze)(it:Addr)(tn:Nat->Heap->Prop):Prop where
 mem:it∈fp
 obj:∀i h,tn i h->∀b∈fp,∃o,h.get? b=some o/\∀v,o.data≠.cell v
 keep:∀i h h',tn i h->(∀b∈fp,∀o,h.get? b=some o->h'.get? b=some o)->tn i h'
 item:∀(X:Cx),X.prog=P->X.w=w->X.K=K->X.calm=true->∀(i:Nat) (J3:Zd) (s:Shared) (σ:St) (H:Hp) (E:Zc),Inv X J3 σ H s->(∀b∈fp,lp X J3 H b)->tn i s.heap->J.go i H ->
  wpAny (model P w) X.A (pyNext (.ref it)) (fun r s1=>∃u,r=some u /\
   wpAny (model P w) X.A (vB tg (.ref it) u) (fun _ s2=>∃x H',Inv X J3 σ H' s2/\RelV x u/\J.yld i H x H'/\tn (i+1) s2.heap/\∀b∈fp,H' b=none) E s1) E s
 done:∀(X:Cx),X.prog=P->X.w=w->X.K=K->X.calm=true->∀(i:Nat) (J3:Zd) (s:Shared) (σ:St) (H:Hp) (E:Zc),Inv X J3 σ H s->(∀b∈fp,lp X J3 H b)->tn i s.heap->J.stop i H ->
  wpAny (model P w) X.A (pyNext (.ref it)) (fun r s1=>r=none/\Inv X J3 σ H s1) E s
 self:∀(A:Around) (i:Nat) (s:Shared) (Q:Zc) (E:Zc),tn i s.heap->Q (.ref it) s->wpAny (model P w) A (pyIter (.ref it)) Q E s
abbrev TI:=St->Hp->(It->Hp->Prop)->Prop
def PIE(X:Cx)(J3:Zd)(σ:St)(tg:Expr)(R:It->Hp->Prop)(itv:Value)(s2:Shared):Prop :=
 ∃(it:Addr) (fp:Ze) (tn:Nat->Heap->Prop) (J:It) (H':Hp),itv=.ref it/\Inv X J3 σ H' s2/\se X.prog X.w X.K tg J fp it tn/\tn 0 s2.heap/\(∀b∈fp,lp X J3 H' b)/\R J H'
def PI(X:Cx)(tg iter:Expr)(wi:TI):Prop :=
 ∀(J3:Zd) (s:Shared) (σ:St) (H:Hp) (R:It->Hp->Prop),Inv X J3 σ H s->wi σ H R ->
  wpAny (model X.prog X.w) X.A (eval iter X.env) (fun v s1=>wpAny (model X.prog X.w) X.A (pyIter v) (PIE X J3 σ tg R) X.xe s1) X.xe s
theorem p9{M:Model}{A:Around}{E:Zc}{s:Shared}{tg:Expr}{it:Addr}{u:Value}{o:Obj}{n:String}{vs:Array Value}{Q:Unit->Shared->Prop}(ho:s.heap.get? it=some o)(hc:o.cls=.type n)(hd:o.data=.fields vs)
    (hn:["enumerate","zip","dict_itemiterator","dict_reverseitemiterator","odict_iterator","itertools.zip_longest","itertools.pairwise"].contains n=false) (hQ:Q () s):wpAny M A (vB tg (.ref it) u) Q E s:=by
  unfold vB;cases tg<;>first
    |exact aN hQ
    | (cases u <;> first
        |exact aN hQ
        | (refine ar (wpAny_load ho ?_)
           rw[hc,hd];show wpAny M A (if(["enumerate","zip","dict_itemiterator","dict_reverseitemiterator","odict_iterator","itertools.zip_longest","itertools.pairwise"].contains n && vs[0]?==some (rawInt _))=true then _ else _) Q E s
           rw[if_neg (by intro h;rw[hn,Bool.false_and]at h;cases h)];exact aN hQ))
def zf(K:Za)(a:Addr):It :=
 ⟨fun i H=>∃xs x,ay K H a xs/\xs[i]?=some x,fun i H x H'=>H'=H/\∀xs,ay K H a xs->xs[i]?=some x,fun i H=>∃xs,ay K H a xs/\xs.length<=i⟩
def Bh(K:Za)(a:Addr):It :=
 ⟨fun i H=>∃xs x,bE K H a xs/\xs[i]?=some x,fun i H x H'=>H'=H/\∀xs,bE K H a xs->xs[i]?=some x,fun i H=>∃xs,bE K H a xs/\xs.length<=i⟩
def Bi(lo:Int)(n:Nat):It:=⟨fun i _=>i<n,fun i H x H'=>H'=H/\x=.int (lo+i),fun i _=>n<=i⟩
theorem pR{P:bj}{w:World}{K:Za}{tg:Expr}(a it:Addr):se P w K tg (zf K a) [it] it (fun i h=>h.IsListIter it a i) where
 mem:=by simp
 obj:=fun i h st b hb=>by
  have e:b=it:=by simpa using hb
  subst e;obtain⟨o,e,c,d⟩:=st;exact⟨o,e,fun v z=>by rw[d]at z;cases z⟩
 keep:=fun i h h' st k=>st.at fun o e=>k it (by simp) o e
 item:=by
  intro X hP hw hK hc i J3 s σ H E I hf st hg;subst hP hw hK;obtain⟨xs,x,hq,hx⟩:=hg;obtain⟨its,rv,p,hz⟩:=I.list hq;obtain⟨u,hu,ru⟩:=rv.get hx;obtain⟨f0,f1,f2,f3,f4,f5⟩:=hf it (by simp);refine wpAny_pyNext_list_item st p.isList (x:=u) (by simpa using hu) fun h' st' sb=>?_;have I1:Inv X J3 σ H { s with heap:=h' }:=I.turned (t':=s.toks) (fun b o hb e=>(sb.2 b hb).trans e) f0 f1 f3 f4 f5;obtain⟨o,e,c,d⟩:=id st';exact⟨u,rfl,p9 (s:={ s with heap:=h' }) e c d (by decide) ⟨x,H,I1,ru,⟨rfl,fun ys hy=>by rw[I.list_inj hy hq];exact hx⟩,st',fun b hb=>(hf b hb).1⟩⟩
 done:=by
  intro X hP hw hK hc i J3 s σ H E I hf st hg;subst hP hw hK;obtain⟨xs,hq,hx⟩:=hg;obtain⟨its,rv,p,hz⟩:=I.list hq;obtain⟨f0,f1,f2,f3,f4,f5⟩:=hf it (by simp);have hl:=rv.length;exact wpAny_pyNext_list_end (I.ok.hd hc) st p.isList (by simp;omega) fun h' eb=>⟨rfl,I.turned (t':=s.toks) (fun b o hb e=>eb b o hb e) f0 f1 f3 f4 f5⟩
 self:=fun _ _ _ _ _ st h=>wpAny_pyIter_listiter st h
theorem n0{P:bj}{w:World}{K:Za}{tg:Expr}(a it:Addr):se P w K tg (Bh K a) [it] it (fun i h=>h.IsTupleIter it a i) where
 mem:=by simp
 obj:=fun i h st b hb=>by
  have e:b=it:=by simpa using hb
  subst e;obtain⟨o,e,c,d⟩:=st;exact⟨o,e,fun v z=>by rw[d]at z;cases z⟩
 keep:=fun i h h' st k=>st.at fun o e=>k it (by simp) o e
 item:=by
  intro X hP hw hK hc i J3 s σ H E I hf st hg;subst hP hw hK;obtain⟨xs,x,hq,hx⟩:=hg;obtain⟨its,rv,p,hz⟩:=I.tuple hq;obtain⟨u,hu,ru⟩:=rv.get hx;obtain⟨f0,f1,f2,f3,f4,f5⟩:=hf it (by simp);refine wpAny_pyNext_tuple_item st (show s.heap.IsTuple a its.toArray from p) (x:=u) (by simpa using hu) fun h' st' sb=>?_;have I1:Inv X J3 σ H { s with heap:=h' }:=I.turned (t':=s.toks) (fun b o hb e=>(sb.2 b hb).trans e) f0 f1 f3 f4 f5;obtain⟨o,e,c,d⟩:=id st';exact⟨u,rfl,p9 (s:={ s with heap:=h' }) e c d (by decide) ⟨x,H,I1,ru,⟨rfl,fun ys hy=>by rw[I.tuple_inj hy hq];exact hx⟩,st',fun b hb=>(hf b hb).1⟩⟩
 done:=by
  intro X hP hw hK hc i J3 s σ H E I hf st hg;subst hP hw hK;obtain⟨xs,hq,hx⟩:=hg;obtain⟨its,rv,p,hz⟩:=I.tuple hq;obtain⟨f0,f1,f2,f3,f4,f5⟩:=hf it (by simp);have hl:=rv.length;exact wpAny_pyNext_tuple_end (I.ok.hd hc) st (show s.heap.IsTuple a its.toArray from p) (by simp;omega) fun h' eb=>⟨rfl,I.turned (t':=s.toks) (fun b o hb e=>eb b o hb e) f0 f1 f3 f4 f5⟩
 self:=fun _ _ _ _ _ st h=>wpAny_pyIter_tupleiter st h
theorem um{P:bj}{w:World}{K:Za}{tg:Expr}(it:Addr)(lo:Int)(n:Nat):se P w K tg (Bi lo n) [it] it (fun i h=>IsRangeIter h it (lo+(i:Nat) * 1) ((n:Int)-(i:Nat)) 1) where
 mem:=by simp
 obj:=fun i h st b hb=>by
  have e:b=it:=by simpa using hb
  subst e;exact⟨_,st,fun v z=>by
   have z':Data.fields _=Data.cell v:=z;cases z'⟩
 keep:=fun i h h' st k=>k it (by simp) _ st
 item:=by
  intro X hP hw hK hc i J3 s σ H E I hf st hg;subst hP hw hK;obtain⟨f0,f1,f2,f3,f4,f5⟩:=hf it (by simp);have W:=Walks.range (prog:=X.prog) (w:=X.w) (I.ok.hd hc) it lo 1 n;refine W.item i s _ _ hg st fun v h' tk hv st' kk=>?_;obtain⟨t,rfl⟩:=hv;have I1:Inv X J3 σ H { s with heap:=h',toks:=tk }:=I.turned (fun b o hb e=>kk b o (by simpa using hb) e) f0 f1 f3 f4 f5;refine⟨_,rfl,p9 (s:={ s with heap:=h',toks:=tk }) (n:="range_iterator") st' rfl rfl (by decide) ⟨.int (lo+i),H,I1,⟨t,?_⟩,⟨rfl,rfl⟩,st',fun b hb=>(hf b hb).1⟩⟩;rw[Int.mul_one]
 done:=by
  intro X hP hw hK hc i J3 s σ H E I hf st hg;subst hP hw hK;obtain⟨f0,f1,f2,f3,f4,f5⟩:=hf it (by simp);exact wpAny_pyNext_range_end (I.ok.hd hc) st (by have:n<=i:=hg;omega) fun h' eb=>⟨rfl,I.turned (t':=s.toks) (fun b o hb e=>eb b o hb e) f0 f1 f3 f4 f5⟩
 self:=fun _ _ _ _ _ st h=>wpAny_pyIter_rangeiter st h
end L2
namespace L2
open PySem PySem.Spec PyProof.Rows
section
variable{X:Cx}{tg:Expr}
def bC(K:Za)(tl:TE):TI:=fun σ H R=>tl σ H fun x H1=>∃a,x=.ref a/\(∃xs,ay K H1 a xs)/\R (zf K a) H1
def z0(K:Za)(tl:TE):TI:=fun σ H R=>tl σ H fun x H1=>∃a,x=.ref a/\(∃xs,bE K H1 a xs)/\R (Bh K a) H1
theorem aF{l:Expr}{tl:TE}(hl:PE X l tl):PI X tg l (bC X.K tl):=by
 intro J3 s σ H R I h;refine bO (hl J3 s σ H _ I h) fun v s1 ⟨x,H1,I1,r1,q1⟩=>?_;obtain⟨a,e,⟨xs,hq⟩,q⟩:=q1;subst e;cases r1;obtain⟨its,rv,p,hz⟩:=I1.list hq;refine vA p.isList ?_;refine⟨s1.heap.objs.size,[s1.heap.objs.size],_,_,H1,rfl,I1.kept (t':=s1.toks) fun b o e=>bY _ e,pR a _,⟨_,dI _ rfl,rfl,rfl⟩,fun b hb=>?_,q⟩;have e:b=s1.heap.objs.size:=by simpa using hb
 subst e;exact I1.fpOk (ax _) (I1.hok.fresh (ax _))
theorem uP{l:Expr}{tl:TE}(hl:PE X l tl):PI X tg l (z0 X.K tl):=by
 intro J3 s σ H R I h;refine bO (hl J3 s σ H _ I h) fun v s1 ⟨x,H1,I1,r1,q1⟩=>?_;obtain⟨a,e,⟨xs,hq⟩,q⟩:=q1;subst e;cases r1;obtain⟨its,rv,p,hz⟩:=I1.tuple hq;refine wpAny_pyIter_tuple (show s1.heap.IsTuple a its.toArray from p) ?_;refine⟨s1.heap.objs.size,[s1.heap.objs.size],_,_,H1,rfl,I1.kept (t':=s1.toks) fun b o e=>bY _ e,n0 a _,⟨_,dI _ rfl,rfl,rfl⟩,fun b hb=>?_,q⟩;have e:b=s1.heap.objs.size:=by simpa using hb
 subst e;exact I1.fpOk (ax _) (I1.hok.fresh (ax _))
theorem x_{J3:Zd}{σ:St}{H:Hp}{s:Shared}{R:It->Hp->Prop}{E:Zc}{lo hi:Int}{t u v:Tok}{tk:Nat}(I:Inv X J3 σ H s)(h1:-(2 ^ 62)<=lo)(h2:lo<2 ^ 62)(h3:-(2 ^ 62)<=hi)(h4:hi<2 ^ 62)
  (q:R (Bi lo (hi-lo).toNat) H):wpAny (model X.prog X.w) X.A (pyIter (.ref s.heap.objs.size)) (PIE X J3 σ tg R) E { s with heap:=s.heap.push { cls:=.type "range",data:=.fields #[.int lo t,.int hi u,.int 1 v] },toks:=tk }:=by
 refine wpAny_pyIter_range (IsRange.new ..) (small_one h1 h2 h3 h4) ?_;have I1:Inv X J3 σ H { s with heap:=s.heap.push { cls:=.type "range",data:=.fields #[.int lo t,.int hi u,.int 1 v] },toks:=tk }:=I.kept fun b o e=>bY _ e;refine⟨(s.heap.push { cls:=.type "range",data:=.fields #[.int lo t,.int hi u,.int 1 v] }).objs.size,[(s.heap.push { cls:=.type "range",data:=.fields #[.int lo t,.int hi u,.int 1 v] }).objs.size],_,_,H,rfl,
  I1.kept (t':=tk) fun b o e=>bY _ e,um _ lo (hi-lo).toNat,?_,fun b hb=>?_,q⟩
 ·have e1:lo+((0:Nat):Int) * 1=lo:=by simp
  have e2:(((hi-lo).toNat:Nat):Int)-((0:Nat):Int)=cI.Range.rangeSize lo hi 1:=by rw[rangeSize_one];split<;>omega
  show IsRangeIter _ _ (lo+((0:Nat):Int) * 1) ((((hi-lo).toNat:Nat):Int)-((0:Nat):Int)) 1;rw[e1,e2];exact dI _ rfl
 ·have e:b=(s.heap.push { cls:=.type "range",data:=.fields #[.int lo t,.int hi u,.int 1 v] }).objs.size:=by simpa using hb
  subst e;exact I1.fpOk (ax _) (I1.hok.fresh (ax _))
def p7(ta:TA):TI:=fun σ H R=>ta σ H fun vs H1=>∃j:Int,vs=[.int j]/\-(2 ^ 62)<=j/\j<2 ^ 62/\R (Bi 0 j.toNat) H1
theorem gW{a:Expr}{ta:TA}{p pos:Pos}(hg:Gl X "range")(hm:X.mg "range"=none)(ha:PA X [a] ta)(hs:aw [a] X.env=[(false,eval a X.env)]:=by rfl):PI X tg (.Call (.Name "range" p) [a] [] pos) (p7 ta):=by
 intro J3 s σ H R I h;refine Call_ (oG I hg hm boot_range (PyProof.Rows.callWith_type1 (bO (ha pos J3 s σ H _ I h) fun us s1 ⟨vs,H1,I1,r1,q1⟩=>?_) hs rfl));obtain⟨j,e,q1,q2,q⟩:=q1;subst e;cases r1 with
 |cons r rr =>
  cases rr;obtain⟨t,rfl⟩:=r;exact call_range_1 (x_ I1 (by omega) (by omega) q1 q2 (by simpa using q))
def ei(wi:TI)(g:TG)(tb:TS):TS:=fun D σ H=>wi σ H fun J H1=>∃W:Nat->Nat->St->Hp->Prop,(∃m,W 0 m σ H1)/\∀i m σ H,W i m σ H ->
 (J.stop i H/\D.nx σ H)∨(J.go i H/\∃N:St->Hp->Prop,(∀σ' H',N σ' H'->∃m',m'<m/\W (i+1) m' σ' H')/\∀x H',J.yld i H x H'->g x σ H' fun σ2 H2=>tb { D with nx:=N,ct:=N,bk:=D.nx } σ2 H2)
def oy(fp:Ze)(h:Heap):List (Addr×Obj):=fp.filterMap fun b=>(h.get? b).map fun o=>(b,o)
theorem h9{fp:Ze}{h:Heap}{b:Addr}{o:Obj}(hb:b∈fp)(e:h.get? b=some o):(b,o)∈oy fp h:=List.mem_filterMap.mpr ⟨b,hb,by rw[e];rfl⟩
theorem wS{fp:Ze}{h:Heap}{p:Addr×Obj}(hp:p∈oy fp h):p.1∈fp/\h.get? p.1=some p.2:=by
 obtain⟨b,hb,e⟩:=List.mem_filterMap.mp hp;cases q:h.get? b with
 |none=>rw[q]at e;cases e
 |some o =>
  rw[q]at e;have e':(b,o)=p:=da e;subst e';exact⟨hb,q⟩
theorem Inv.pinned{J3:Zd}{σ:St}{H:Hp}{s:Shared}{fp:Ze}(I:Inv X J3 σ H s)(hf:∀b∈fp,lp X J3 H b)(ho:∀b∈fp,∃o,s.heap.get? b=some o/\∀v,o.data≠.cell v):Inv X (J3++oy fp s.heap) σ H s :=
 I.pins_of fun p hp=>(aU.mp hp).elim (fun z=>I.pin p (cL _ z)) fun z=>by
  obtain⟨hb,e⟩:=wS z;obtain⟨f0,f1,f2,_⟩:=hf p.1 hb;obtain⟨o,e',d⟩:=ho p.1 hb;rw[e]at e';cases e';exact⟨e,f0,f1,f2,d⟩
theorem Inv.unpinned{J3 pl:Zd}{σ:St}{H:Hp}{s:Shared}(I:Inv X (J3++pl) σ H s):Inv X J3 σ H s:=I.pins_of fun p hp=>I.pin p (cL _ (cz _ hp))
theorem bA{iter:Expr}{body:List Stmt}{wi:TI}{g:TG}{tb:TS}{pos:Pos}(hp:PassesOwn (model X.prog X.w) X.A X.env X.xe)(hc:X.calm=true)(hi:PI X tg iter wi)(hg:PG X tg g)(hb:uj X body tb)
  (hs:∀x,sF iter X.env x=pure x:=by intro _;rfl):PS X (.For tg iter body [] pos) (ei wi g tb):=by
 intro J3 s σ H D I h;refine wpAny_For (bO (hi J3 s σ H _ I h) fun v s1 h1=>bO h1 fun itv s2 h2=>?_) hs;obtain⟨it,fp,tn,J,H2,e,I2,T,st2,f2,W,⟨m0,w0⟩,turn⟩:=h2;subst e;have stat:∀{H':Hp},(∀b∈fp,H' b=none)->∀b∈fp,lp X J3 H' b:=fun hn b hb=>⟨hn b hb,(f2 b hb).2⟩;refine codeAny_forLoop_any (fun n s'=>∃i σ' H',Inv X J3 σ' H' s'/\tn i s'.heap/\(∀b∈fp,H' b=none)/\W i n σ' H') ?_ m0 ⟨0,σ,H2,I2,st2,fun b hb=>(f2 b hb).1,w0⟩;rintro n s3 ⟨i,σ3,H3,I3,st3,fr3,w3⟩;rcases turn i n σ3 H3 w3 with⟨stop,qn⟩|⟨go,N,hN,step⟩
 ·refine nK hp (bO (T.done X rfl rfl rfl hc i J3 s3 σ3 H3 X.xe I3 (stat fr3) st3 stop) fun r s4 ⟨hr,I4⟩=>?_);subst hr;exact vD ⟨σ3,H3,I4,qn⟩
 ·refine nK hp (bO (T.item X rfl rfl rfl hc i J3 s3 σ3 H3 X.xe I3 (stat fr3) st3 go) fun r s4 ⟨u,hr,h4⟩=>?_);subst hr;refine nK hp (bO h4 fun _ s5 ⟨x,H5,I5,r5,y5,st5,fr5⟩=>?_);have I5':=I5.pinned (stat fr5) (T.obj _ _ st5);refine nK hp (bO (hg _ s5 σ3 H5 x u _ I5' r5 (step x H5 y5)) fun _ s6 ⟨σ6,H6,I6,q6⟩=>?_);refine nK hp (bO (hb _ s6 σ6 H6 _ I6 q6) fun f s7 q7=>?_);have again:∀{σ7:St}{H7:Hp},Inv X (J3++oy fp s5.heap) σ7 H7 s7->N σ7 H7->∃m,m<n/\∃i σ' H',Inv X J3 σ' H' s7/\tn i s7.heap/\(∀b∈fp,H' b=none)/\W i m σ' H':=fun{σ7 H7} I7 n7=>by
   obtain⟨m',hm,w7⟩:=hN σ7 H7 n7;refine⟨m',hm,i+1,σ7,H7,I7.unpinned,T.keep _ _ _ st5 fun b hb o e=>(I7.pin (b,o) (cL _ (cL _ (h9 hb e)))).1,fun b hb=>?_,w7⟩;obtain⟨o,e,d⟩:=T.obj _ _ st5 b hb;exact(I7.pin (b,o) (cL _ (cL _ (h9 hb e)))).2.1
  cases f with
  |next=>obtain⟨σ7,H7,I7,n7⟩:=q7;exact again I7 n7
  |cont=>obtain⟨σ7,H7,I7,n7⟩:=q7;exact again I7 n7
  |brk=>obtain⟨σ7,H7,I7,q7⟩:=q7;exact⟨σ7,H7,I7.unpinned,q7⟩
  |ret v=>obtain⟨x7,σ7,H7,I7,r7,q7⟩:=q7;exact⟨x7,σ7,H7,I7.unpinned,r7,q7⟩
end
theorem bP{K:Za}{a:Addr}{xs:List V}{g:TG}{tb:TS}{D:o6}{σ:St}{H:Hp}(Pv:Nat->St->Hp->Prop)(h0:Pv 0 σ H)(hl:∀i σ H,i<=xs.length->Pv i σ H->ay K H a xs)
  (hs:∀i x σ H,xs[i]?=some x->Pv i σ H->g x σ H fun σ2 H2=>tb { D with nx:=Pv (i+1),ct:=Pv (i+1),bk:=D.nx } σ2 H2) (hd:∀σ H,Pv xs.length σ H->D.nx σ H) :
  ∃W:Nat->Nat->St->Hp->Prop,(∃m,W 0 m σ H)/\∀i m σ H,W i m σ H ->
   ((zf K a).stop i H/\D.nx σ H)∨((zf K a).go i H/\∃N:St->Hp->Prop,(∀σ' H',N σ' H'->∃m',m'<m/\W (i+1) m' σ' H')/\∀x H',(zf K a).yld i H x H'->g x σ H' fun σ2 H2=>tb { D with nx:=N,ct:=N,bk:=D.nx } σ2 H2):=by
 refine⟨fun i m σ H=>m=xs.length-i/\i<=xs.length/\Pv i σ H,⟨xs.length,by simp,ee _,h0⟩,?_⟩;rintro i m σ H ⟨rfl,hi,p⟩;have q:=hl i σ H hi p;by_cases hlt:i<xs.length
 ·refine .inr ⟨⟨xs,xs[i],q,by simp[hlt]⟩,Pv (i+1),fun σ' H' p'=>⟨xs.length-(i+1),by omega,rfl,hlt,p'⟩,fun x H' y=>?_⟩;obtain⟨e,y⟩:=y;subst e;exact hs i x σ _ (y xs q) p
 ·have e:i=xs.length:=by omega
  subst e;exact .inl ⟨⟨xs,q,ax _⟩,hd σ H p⟩
theorem v_{K:Za}{a:Addr}{xs:List V}{g:TG}{tb:TS}{D:o6}{σ:St}{H:Hp}(Pv:Nat->St->Hp->Prop)(h0:Pv 0 σ H)(hl:∀i σ H,i<=xs.length->Pv i σ H->bE K H a xs)
  (hs:∀i x σ H,xs[i]?=some x->Pv i σ H->g x σ H fun σ2 H2=>tb { D with nx:=Pv (i+1),ct:=Pv (i+1),bk:=D.nx } σ2 H2) (hd:∀σ H,Pv xs.length σ H->D.nx σ H) :
  ∃W:Nat->Nat->St->Hp->Prop,(∃m,W 0 m σ H)/\∀i m σ H,W i m σ H ->
   ((Bh K a).stop i H/\D.nx σ H)∨((Bh K a).go i H/\∃N:St->Hp->Prop,(∀σ' H',N σ' H'->∃m',m'<m/\W (i+1) m' σ' H')/\∀x H',(Bh K a).yld i H x H'->g x σ H' fun σ2 H2=>tb { D with nx:=N,ct:=N,bk:=D.nx } σ2 H2):=by
 refine⟨fun i m σ H=>m=xs.length-i/\i<=xs.length/\Pv i σ H,⟨xs.length,by simp,ee _,h0⟩,?_⟩;rintro i m σ H ⟨rfl,hi,p⟩;have q:=hl i σ H hi p;by_cases hlt:i<xs.length
 ·refine .inr ⟨⟨xs,xs[i],q,by simp[hlt]⟩,Pv (i+1),fun σ' H' p'=>⟨xs.length-(i+1),by omega,rfl,hlt,p'⟩,fun x H' y=>?_⟩;obtain⟨e,y⟩:=y;subst e;exact hs i x σ _ (y xs q) p
 ·have e:i=xs.length:=by omega
  subst e;exact .inl ⟨⟨xs,q,ax _⟩,hd σ H p⟩
theorem jp{lo:Int}{n:Nat}{g:TG}{tb:TS}{D:o6}{σ:St}{H:Hp}(Pv:Nat->St->Hp->Prop)(h0:Pv 0 σ H)
  (hs:∀i σ H,i<n->Pv i σ H->g (.int (lo+i)) σ H fun σ2 H2=>tb { D with nx:=Pv (i+1),ct:=Pv (i+1),bk:=D.nx } σ2 H2) (hd:∀σ H,Pv n σ H->D.nx σ H) :
  ∃W:Nat->Nat->St->Hp->Prop,(∃m,W 0 m σ H)/\∀i m σ H,W i m σ H ->
   ((Bi lo n).stop i H/\D.nx σ H)∨((Bi lo n).go i H/\∃N:St->Hp->Prop,(∀σ' H',N σ' H'->∃m',m'<m/\W (i+1) m' σ' H')/\∀x H',(Bi lo n).yld i H x H'->g x σ H' fun σ2 H2=>tb { D with nx:=N,ct:=N,bk:=D.nx } σ2 H2):=by
 refine⟨fun i m σ H=>m=n-i/\i<=n/\Pv i σ H,⟨n,by simp,ee _,h0⟩,?_⟩;rintro i m σ H ⟨rfl,hi,p⟩;by_cases hlt:i<n
 ·refine .inr ⟨hlt,Pv (i+1),fun σ' H' p'=>⟨n-(i+1),by omega,rfl,hlt,p'⟩,fun x H' y=>?_⟩;obtain⟨e,y⟩:=y;subst e y;exact hs i σ _ hlt p
 ·have e:i=n:=by omega
  subst e;exact .inl ⟨ax _,hd σ H p⟩
end L2
namespace L2
open PySem PySem.Spec PyProof.Rows
abbrev R2:=V->V->Hp->VK->Prop
def ka(X:Cx)(f:Value->Value->Sem Value)(r:R2):Prop :=
 ∀(J3:Zd) (s:Shared) (σ:St) (H:Hp) (x y:V) (v u:Value) (Q:VK),Inv X J3 σ H s->RelV x v->RelV y u->r x y H Q ->
  wpAny (model X.prog X.w) X.A (f v u) (EP X J3 σ Q) X.xe s
def eg(X:Cx)(f:Value)(r:List V->Hp->VK->Prop):Prop :=
 ∀(J3:Zd) (s:Shared) (σ:St) (H:Hp) (xs:List V) (us:Zf) (Q:VK),Inv X J3 σ H s->aI xs us->r xs H Q ->
  wpAny (model X.prog X.w) X.A (call f us) (EP X J3 σ Q) X.xe s
def aD(r:R2)(ta tb:TE):TE:=fun σ H Q=>ta σ H fun x H1=>tb σ H1 fun y H2=>r x y H2 Q
def rI(C:Int->Int->Prop)(g:Int->Int->V):R2:=fun x y H Q=>∃i j,x=.int i/\y=.int j/\C i j/\Q (g i j) H
def vM(g:Int->Int->V):R2:=fun x y H Q=>∃i j,x=.int i/\y=.int j/\Q (g i j) H
section
variable{X:Cx}{a b c:Expr}{ta tb tc:TE}{pos:Pos}
theorem Bc(ha:PE X a ta)(hb:PE X b tb){J3:Zd}{s:Shared}{σ:St}{H:Hp}{R:V->V->Hp->Prop}(I:Inv X J3 σ H s)
  (h:ta σ H fun x H1=>tb σ H1 fun y H2=>R x y H2) {Q:Zc}{f:Value->Value->Sem Value}
  (hf:∀v u s2 x y H2,Inv X J3 σ H2 s2->RelV x v->RelV y u->R x y H2->wpAny (model X.prog X.w) X.A (f v u) Q X.xe s2) :
  wpAny (model X.prog X.w) X.A (eval a X.env) (fun v s₁=>wpAny (model X.prog X.w) X.A (eval b X.env) (fun u s₂=>wpAny (model X.prog X.w) X.A (f v u) Q X.xe s₂) X.xe s₁) X.xe s:=by
 refine bO (ha J3 s σ H _ I h) fun v s1 ⟨x,H1,I1,r1,q1⟩=>?_;refine bO (hb J3 s1 σ H1 _ I1 q1) fun u s2 ⟨y,H2,I2,r2,q2⟩=>?_;exact hf v u s2 x y H2 I2 r1 r2 q2
theorem az{op:Operator}{r:R2}(ho:ka X (jC op) r)(ha:PE X a ta)(hb:PE X b tb):PE X (.BinOp a op b pos) (aD r ta tb):=by
 intro J3 s σ H Q I h;exact wpAny_BinOp (Bc ha hb I h fun v u s2 x y H2 I2 rx ry q=>ho J3 s2 σ H2 x y v u Q I2 rx ry q)
theorem By{f:Value->Value->Sem Value}{C:Int->Int->Prop}{g:Int->Int->Int}
  (rule:∀(i j:Int) (t u:Tok) (s:Shared) (Q:Zc) (E:Zc),C i j->Q (.int (g i j) s.toks) { s with toks:=s.toks+1 }->wpAny (model X.prog X.w) X.A (f (.int i t) (.int j u)) Q E s) :
  ka X f (rI C fun i j=>.int (g i j)):=by
 intro J3 s σ H x y v u Q I rx ry h;obtain⟨i,j,rfl,rfl,hc,q⟩:=h;obtain⟨t,rfl⟩:=rx;obtain⟨t',rfl⟩:=ry;exact rule i j t t' s _ _ hc ⟨.int (g i j),H,I.tok _,⟨_,rfl⟩,q⟩
theorem Bx{f:Value->Value->Sem Value}{g:Int->Int->Int}
  (rule:∀(i j:Int) (t u:Tok) (s:Shared) (Q:Zc) (E:Zc),Q (.int (g i j) s.toks) { s with toks:=s.toks+1 }->wpAny (model X.prog X.w) X.A (f (.int i t) (.int j u)) Q E s) :
  ka X f (vM fun i j=>.int (g i j)):=by
 intro J3 s σ H x y v u Q I rx ry h;obtain⟨i,j,rfl,rfl,q⟩:=h;obtain⟨t,rfl⟩:=rx;obtain⟨t',rfl⟩:=ry;exact rule i j t t' s _ _ ⟨.int (g i j),H,I.tok _,⟨_,rfl⟩,q⟩
theorem zX{f:Value->Value->Sem Value}{g:Int->Int->Bool}
  (rule:∀(i j:Int) (t u:Tok) (s:Shared) (Q:Zc) (E:Zc),Q (.bool (g i j)) s->wpAny (model X.prog X.w) X.A (f (.int i t) (.int j u)) Q E s) :
  ka X f (vM fun i j=>.bl (g i j)):=by
 intro J3 s σ H x y v u Q I rx ry h;obtain⟨i,j,rfl,rfl,q⟩:=h;obtain⟨t,rfl⟩:=rx;obtain⟨t',rfl⟩:=ry;exact rule i j t t' s _ _ ⟨.bl (g i j),H,I,rfl,q⟩
def BR(i j:Int):Prop:=0<j/\j<1073741824
def BQ(i j:Int):Prop:=0<=j/\j<=1000000/\i.natAbs<2 ^ 64
def ze(i j:Int):Prop:=(-(2 ^ 64)<i/\i<2 ^ 64)∨(-(2 ^ 64)<j/\j<2 ^ 64)
theorem ze.ok{i j:Int}(h:ze i j):IntMulOk i j:=by
 rcases h with⟨h1,h2⟩|⟨h1,h2⟩
 ·exact .of_left (intBits_le_64 h1 h2)
 ·exact .of_right (intBits_le_64 h1 h2)
theorem bW:ka X (jC .Add) (vM fun i j=>.int (i+j)):=Bx fun _ _ _ _ _ _ _ q=>add_int q
theorem yq:ka X (jC .Sub) (vM fun i j=>.int (i-j)):=Bx fun _ _ _ _ _ _ _ q=>sub_int q
theorem fX:ka X (jC .Mult) (rI ze fun i j=>.int (i * j)):=By fun _ _ _ _ _ _ _ hc q=>mul_int q hc.ok
theorem vX:ka X (jC .FloorDiv) (rI BR fun i j=>.int (i / j)):=By fun i j _ _ _ _ _ hc q=>by
 have h1:(0:Int)<j:=hc.1;have h2:j<1073741824:=hc.2;exact floordiv_int (by omega) (by rw[Int.fdiv_eq_ediv_of_nonneg i (by omega)];exact q) (.inl (PyProof.noPylong_small (by omega)))
theorem eC:ka X (jC .Mod) (rI (fun _ j=>0<j) fun i j=>.int (i % j)):=By fun i j _ _ _ _ _ hc q=>by
 have h1:(0:Int)<j:=hc;exact mod_int' (by omega) (by rw[Int.fmod_eq_emod_of_nonneg i (by omega)];exact q)
theorem yr:ka X (jC .Pow) (rI BQ fun i j=>.int (i ^ j.toNat)):=By fun _ _ _ _ _ _ _ hc q=>pow_int_small hc.1 hc.2.1 hc.2.2 q
end
def Bp:V->V->Bool
 |.non,.non=>true | .non,.int _=>true | .int _,.non=>true | .non,.bl _=>true | .bl _,.non=>true | .non,.str _=>true | .str _,.non=>true
 |.int _,.int _=>true | .bl _,.bl _=>true | .str _,.str _=>true | .byt _,.byt _=>true
 |.int _,.str _=>true | .str _,.int _=>true | .bl _,.str _=>true | .str _,.bl _=>true
 |_,_=>false
def yd:R2:=fun x y H Q=>Bp x y=true/\Q (.bl (decide (x=y))) H
def rNe:R2:=fun x y H Q=>Bp x y=true/\Q (.bl (!decide (x=y))) H
theorem wd{i j:Int}:decide (V.int i=V.int j)=(i==j):=by
 rw[sE];simp
theorem yW{i j:Bool}:decide (V.bl i=V.bl j)=(i==j):=by
 rw[sE];simp
theorem wb{i j:Str}:decide (V.str i=V.str j)=(i==j):=by
 rw[sE];simp
theorem we{i j:Array UInt8}:decide (V.byt i=V.byt j)=(i.toList==j.toList):=by
 rw[sE];cases i;cases j;simp
section
variable{X:Cx}{a b c:Expr}{ta tb tc:TE}{pos:Pos}
theorem bb{J3:Zd}{σ:St}{H:Hp}{s:Shared}{Q:VK}{k k':Bool}(I:Inv X J3 σ H s)(q:Q (.bl k) H)(e:k=k'):EP X J3 σ Q (.bool k') s:=by
 subst e;exact⟨.bl k,H,I,rfl,q⟩
theorem k3:ka X (c9 .Eq) yd:=by
 intro J3 s σ H x y v u Q I rx ry h;obtain⟨hs,q⟩:=h;cases x with
 |non =>
  cases rx;cases y with
  |non=>cases ry;exact PySem.EqNone.eq_none_none (bb I q (by simp))
  |bl j=>cases ry;exact PySem.EqNone.eq_none_bool (bb I q (by simp))
  |int j=>obtain⟨t',rfl⟩:=ry;exact PySem.EqNone.eq_none_int (bb I q (by simp))
  |str j=>obtain⟨t',rfl⟩:=ry;exact PySem.EqNone.eq_none_str (bb I q (by simp))
  |_=>exact absurd (show false=true from hs) fI
 |bl i =>
  cases rx;cases y with
  |non=>cases ry;exact PySem.EqNone.eq_bool_none (bb I q (by simp))
  |bl j=>cases ry;exact eq_bool (bb I q yW)
  |str j=>obtain⟨t',rfl⟩:=ry;exact PySem.EqMixed.eq_bool_str (bb I q (by simp))
  |_=>exact absurd (show false=true from hs) fI
 |int i =>
  obtain⟨t,rfl⟩:=rx;cases y with
  |non=>cases ry;exact PySem.EqNone.eq_int_none (bb I q (by simp))
  |int j=>obtain⟨t',rfl⟩:=ry;exact eq_int (bb I q wd)
  |str j=>obtain⟨t',rfl⟩:=ry;exact PySem.EqMixed.eq_int_str (bb I q (by simp))
  |_=>exact absurd (show false=true from hs) fI
 |str i =>
  obtain⟨t,rfl⟩:=rx;cases y with
  |non=>cases ry;exact PySem.EqNone.eq_str_none (bb I q (by simp))
  |bl j=>cases ry;exact PySem.EqMixed.eq_str_bool (bb I q (by simp))
  |int j=>obtain⟨t',rfl⟩:=ry;exact PySem.EqMixed.eq_str_int (bb I q (by simp))
  |str j=>obtain⟨t',rfl⟩:=ry;exact eq_str (bb I q wb)
  |_=>exact absurd (show false=true from hs) fI
 |byt i =>
  obtain⟨t,rfl⟩:=rx;cases y with
  |byt j=>obtain⟨t',rfl⟩:=ry;exact PySem.W.eq_bytes (bb I q we)
  |_=>exact absurd (show false=true from hs) fI
 |_=>cases y<;>exact absurd (show false=true from hs) fI
theorem Av:ka X (c9 .NotEq) rNe:=by
 intro J3 s σ H x y v u Q I rx ry h;obtain⟨hs,q⟩:=h;cases x with
 |non =>
  cases rx;cases y with
  |non=>cases ry;exact PySem.EqNone.ne_none_none (bb I q (by simp))
  |bl j=>cases ry;exact PySem.EqNone.ne_none_bool (bb I q (by simp))
  |int j=>obtain⟨t',rfl⟩:=ry;exact PySem.EqNone.ne_none_int (bb I q (by simp))
  |str j=>obtain⟨t',rfl⟩:=ry;exact PySem.EqNone.ne_none_str (bb I q (by simp))
  |_=>exact absurd (show false=true from hs) fI
 |bl i =>
  cases rx;cases y with
  |non=>cases ry;exact PySem.EqNone.ne_bool_none (bb I q (by simp))
  |bl j=>cases ry;exact ne_bool (bb I q (congrArg not yW))
  |str j=>obtain⟨t',rfl⟩:=ry;exact PySem.EqMixed.ne_bool_str (bb I q (by simp))
  |_=>exact absurd (show false=true from hs) fI
 |int i =>
  obtain⟨t,rfl⟩:=rx;cases y with
  |non=>cases ry;exact PySem.EqNone.ne_int_none (bb I q (by simp))
  |int j=>obtain⟨t',rfl⟩:=ry;exact ne_int (bb I q (congrArg not wd))
  |str j=>obtain⟨t',rfl⟩:=ry;exact PySem.EqMixed.ne_int_str (bb I q (by simp))
  |_=>exact absurd (show false=true from hs) fI
 |str i =>
  obtain⟨t,rfl⟩:=rx;cases y with
  |non=>cases ry;exact PySem.EqNone.ne_str_none (bb I q (by simp))
  |bl j=>cases ry;exact PySem.EqMixed.ne_str_bool (bb I q (by simp))
  |int j=>obtain⟨t',rfl⟩:=ry;exact PySem.EqMixed.ne_str_int (bb I q (by simp))
  |str j=>obtain⟨t',rfl⟩:=ry;exact ne_str (bb I q (congrArg not wb))
  |_=>exact absurd (show false=true from hs) fI
 |byt i =>
  obtain⟨t,rfl⟩:=rx;cases y with
  |byt j=>obtain⟨t',rfl⟩:=ry;exact PySem.W.ne_bytes (bb I q (congrArg not we))
  |_=>exact absurd (show false=true from hs) fI
 |_=>cases y<;>exact absurd (show false=true from hs) fI
theorem vV:ka X (c9 .Lt) (vM fun i j=>.bl (decide (i<j))):=zX fun _ _ _ _ _ _ _ q=>lt_int q
theorem Bv:ka X (c9 .LtE) (vM fun i j=>.bl (decide (i<=j))):=zX fun _ _ _ _ _ _ _ q=>le_int q
theorem vW:ka X (c9 .Gt) (vM fun i j=>.bl (decide (j<i))):=zX fun _ _ _ _ _ _ _ q=>gt_int q
theorem Bw:ka X (c9 .GtE) (vM fun i j=>.bl (decide (j<=i))):=zX fun _ _ _ _ _ _ _ q=>ge_int q
theorem wR:ka X (c9 .In) (fun x y H Q=>∃i j,x=.str i/\y=.str j/\Q (.bl (!(cI.Str.occurrences j i 0 j.length 1).isEmpty)) H):=by
 intro J3 s σ H x y v u Q I rx ry h;obtain⟨i,j,rfl,rfl,q⟩:=h;obtain⟨t,rfl⟩:=rx;obtain⟨t',rfl⟩:=ry;exact in_str (bb I q rfl)
theorem yv(b:Expr){op:CmpOp}(h:op≠.In:=by decide)(h2:op≠.NotIn:=by decide):iq op b=false:=by
 have e1:(op==CmpOp.In)=false:=by cases op<;>first|rfl|exact absurd rfl h
 have e2:(op==CmpOp.NotIn)=false:=by cases op<;>first|rfl|exact absurd rfl h2
 cases b<;>simp[iq,e1,e2]
theorem vR{op:CmpOp}{r:R2}(ho:ka X (c9 op) r)(ha:PE X a ta)(hb:PE X b tb)(hm:iq op b=false):PE X (.Compare a [op] [b] pos) (aD r ta tb):=by
 intro J3 s σ H Q I h;exact wpAny_Compare1 (Bc ha hb I h fun v u s2 x y H2 I2 rx ry q=>ho J3 s2 σ H2 x y v u Q I2 rx ry q) hm
def br(t:TE):TT:=fun σ H Q=>t σ H fun x H'=>∃k,x=.bl k/\Q k H'
theorem vO{op:CmpOp}{r:R2}(ho:ka X (c9 op) r)(ha:PE X a ta)(hb:PE X b tb)(hm:iq op b=false):PT X (.Compare a [op] [b] pos) (br (aD r ta tb)):=by
 intro J3 s σ H Q I h;refine wpAny_isTrue_Compare1 (bO (ha J3 s σ H _ I h) fun v s1 ⟨x,H1,I1,r1,q1⟩=>bO (hb J3 s1 σ H1 _ I1 q1) fun u s2 ⟨y,H2,I2,r2,q2⟩ =>
  bO (ho J3 s2 σ H2 x y v u _ I2 r1 r2 q2) fun c s3 ⟨z,H3,I3,r3,k,e,q3⟩=>?_) hm
 subst e;cases r3;exact nL ⟨H3,I3,q3⟩
theorem lV:(aj:Nat)<2 ^ 63:=by rw[pN];decide
theorem oC:ka X (jC .Add) (fun x y H Q=>∃i j,x=.str i/\y=.str j/\i.length+j.length<=aj/\Q (.str (i++j)) H):=by
 intro J3 s σ H x y v u Q I rx ry h;obtain⟨i,j,rfl,rfl,hz,q⟩:=h;obtain⟨t,rfl⟩:=rx;obtain⟨t',rfl⟩:=ry;exact add_str (fun t' tk=>⟨.str (i++j),H,I.tok _,⟨_,rfl⟩,q⟩) hz
theorem vals1{x:V}{us:Zf}(r:aI [x] us):∃u,us=[u]/\RelV x u:=by
 cases r with
 |cons r1 r2=>cases r2;exact⟨_,rfl,r1⟩
theorem vals2{x y:V}{us:Zf}(r:aI [x,y] us):∃u w',us=[u,w']/\RelV x u/\RelV y w':=by
 cases r with
 |cons r1 r2 =>
  cases r2 with
  |cons r3 r4=>cases r4;exact⟨_,_,rfl,r1,r3⟩
end
end L2
namespace L2
open PySem PySem.Spec PyProof.Rows
structure vg(h:Heap)(x dx C:Addr)(mA:Str->Option Value):Prop where
 obj:h.get? x=some (mw C dx)
 ns:h.Ns1 dx mA
 ne:dx≠x
theorem wW{h:Heap}{dx:Addr}{mA:Str->Option Value}(n:h.Ns1 dx mA):∃od,h.get? dx=some od/\∀name,vz name od=some (mA name):=by
 obtain⟨o,es,ep,ho,hd,hk,_,hm⟩:=n;refine⟨o,ho,fun name=>?_⟩;have e:=hm name;unfold nsFind findBy at e;rw[<-Array.find?_toList]at e;unfold vz;rw[hd];dsimp only;split
 ·rename_i y q;rw[q]at e;exact congrArg some e
 ·rename_i q;rw[q]at e;have a:es.toList.any (·.refKey)=false:=by
   rw[List.any_eq_false];intro y hy;obtain⟨z,t,hkey⟩:=hk y (Array.mem_toList_iff.mp hy);simp[iK.refKey,hkey]
  have a':¬es.toList.any (·.refKey)=true:=by rw[a];exact fI
  rw[if_neg a'];exact congrArg some e
theorem vg.look{h:Heap}{x dx C:Addr}{mA:Str->Option Value}(I:vg h x dx C mA):∃od,PySem.W.InstAt h x (mw C dx) C (some od)/\∀name,vz name od=some (mA name) :=
 let⟨od,ho,hl⟩:=wW I.ns
 ⟨od,⟨I.obj,rfl,rfl,ho⟩,hl⟩
section
variable{prog:bj}{w:World}{A:Around}{E:Zc}{s:Shared}{K:Za}{x dx C f:Addr}{mA:Str->Option Value}{name:Str}{v:Value}
theorem z6{expr:Bool}{Q:Zc}(X:K.In s.heap)(I:vg s.heap x dx C mA)(hg:nJ K C name=true)(hh:pM K C=true)
  (ha:bX K (.ref C) name=some none) (hv:mA name=some v) (hv':PySem.W.handedIn v=true) (h:Q v { s with toks:=s.toks+1 }) :
  wpAny (model prog w) A (getAttr (.ref x) name expr) Q E s:=by
 obtain⟨od,J,hl⟩:=I.look;exact PySem.W.get_value X J (PySem.W.plainGet_of hg).1 (PySem.W.findObj_own hh ha rfl (by rw[hl,hv])) hv' h
theorem yM{pl:Sem Bool}{Q:Value×List Value->Shared->Prop}(X:K.In s.heap)(I:vg s.heap x dx C mA)(hg:nJ K C name=true)
  (hf:bX K (.ref C) name=some (some (.ref f))) (ht:sD K (.ref f)=true) (hv:mA name=none) (h:Q (.ref f,[.ref x]) s) :
  wpAny (model prog w) A (mn (.ref x) name pl) Q E s:=by
 obtain⟨od,J,hl⟩:=I.look;exact PySem.W.method_fn X J (PySem.W.plainGet_of hg).1 (PySem.W.plainGet_of hg).2 hf (beq_iff_eq.mp ht) (by show(vz name od).map (·.isSome)=some false;rw[hl,hv];rfl) h
theorem zD{ns:Zb}{Q:Unit->Shared->Prop}(X:K.In s.heap)(I:vg s.heap x dx C mA)
  (hs:bX K (.ref C) "__setattr__"=some (some (.builtin "object.__setattr__"))) (hp:sC K C=true) (ht:PySem.W.takerIn K C name=some none) (hh:pM K C=true)
  (hw:PySem.Within mA ns) (hsz:ns.length<=aj)
  (h:∀h',vg h' x dx C (fun y=>if y=name then some v else mA y)->iE dx s.heap h'->Q () { s with heap:=h',toks:=s.toks+2 }) :
  wpAny (model prog w) A (setAttr (.ref x) name v) Q E s:=by
 obtain⟨od,J,hl⟩:=I.look;refine PySem.W.set_plain X J hs (PySem.W.osa_open (s:={ s with toks:=s.toks+1 }) (r:=none) X J hp ht fun b=>?_);obtain⟨cd,hc,hd'⟩:=PySem.W.any_some hh;have hx:s.heap.get? x=some ⟨.ref C,some dx,.plain,#[]⟩:=I.obj;refine ar (aN (ar (ar (wpAny_loadPart hx (ar (PySem.W.Looks.here (s:={ s with toks:=s.toks+1 }) (PySem.W.looks_clsIn X hc) ?_))))));rw[hd'];refine aN (a:=some dx) (ar (aN (ar ?_)));refine wpAny_nsSet1 (s:={ s with toks:=s.toks+1 }) I.ns fun h' hn2 hs2=>?_;obtain⟨oD,esD,epD,hoD,hdD,hcD⟩:=hn2.count (PySem.Within.cons name v hw);refine ar (wpAny_lookBehind hoD (by rw[hdD];exact pastItsLine_dict (aJ hcD (by rw[d_];omega))) ?_);exact aN (h _ ⟨(hs2.2 _ (fJ I.ne)).trans I.obj,hn2,I.ne⟩ hs2)
theorem yC{R:Result->Shared->Prop}{vs:Zf}{kw:List (Str×Value)}(X:K.In s.heap)(hm:ky K C=true)
  (hi:bX K (.ref C) "__init__"=some (some (.ref f))) (hf:PySem.W.typeIn K (.ref f)=some (.type "function"))
  (h:zzl72 (model prog w) (A.under (.builtin "type.__call__" ⟨.ref C::vs,kw⟩)) (.call (.ref f) ⟨.ref (s.heap.objs.size+1)::vs,kw⟩) (PySem.W.InitBack (s.heap.objs.size+1) R)
   { s with heap:=(s.heap.push kr).push (mw C s.heap.objs.size) }) :
  zzl72 (model prog w) A (.call (.ref C) ⟨vs,kw⟩) R s:=by
 obtain⟨hh,g,d,t,os⟩:=s;exact PySem.W.make_core (PySem.W.makes_of X hm) (PySem.W.looks_findIn X hi) (fun self=>PySem.W.bind_fn X self hf) (.inl rfl) h
end
def bR(f:Str)(v:V):List (Str×V)->List (Str×V)
 |[]=>[(f,v)]
 | (g,x)::r=>if g=f then(g,v)::r else(g,x)::bR f v r
theorem aQ(f g:Str)(v:V):∀fs:List (Str×V),(bR f v fs).lookup g=if g=f then some v else fs.lookup g
 |[]=>by
  show d9 g [(f,v)]=_;by_cases h:g=f
  ·have hb:(g==f)=true:=beq_iff_eq.mpr h;simp only[d9,hb,if_pos h]
  ·have hb:(g==f)=false:=beq_eq_false_iff_ne.mpr h;simp only[d9,hb,if_neg h]
 | (k,x)::r=>by
  have ih:=aQ f g v r;rw[show bR f v ((k,x)::r)=(if k=f then(k,v)::r else(k,x)::bR f v r)from rfl]
  by_cases hk:k=f
  ·rw[if_pos hk];by_cases h:g=k
   ·have hb:(g==k)=true:=beq_iff_eq.mpr h;simp only[d9,hb,if_pos (h.trans hk)]
   ·have hb:(g==k)=false:=beq_eq_false_iff_ne.mpr h;simp only[d9,hb,if_neg (fun e:g=f=>h (e.trans hk.symm))]
  ·rw[if_neg hk];by_cases h:g=k
   ·have hb:(g==k)=true:=beq_iff_eq.mpr h;simp only[d9,hb,if_neg (fun e:g=f=>hk (h.symm.trans e))]
   ·have hb:(g==k)=false:=beq_eq_false_iff_ne.mpr h;simp only[d9,hb];exact ih
theorem lW(f:Str)(v:V):∀fs:List (Str×V),f∈(bR f v fs).map (·.1)/\∀g,g∈fs.map (·.1)->g∈(bR f v fs).map (·.1)
 |[]=>⟨by simp[bR],fun g h=>by simp at h⟩
 | (k,x)::r=>by
  obtain⟨i1,i2⟩:=lW f v r;rw[show bR f v ((k,x)::r)=(if k=f then(k,v)::r else(k,x)::bR f v r)from rfl]
  by_cases hk:k=f
  ·rw[if_pos hk];subst hk;exact⟨by simp,fun g h=>by simpa using h⟩
  ·rw[if_neg hk];refine⟨?_,fun g h=>?_⟩
   ·rw[a_];exact eQ _ i1
   ·rw[a_]at h ⊢;rcases c_.mp h with e|e
    ·exact c_.mpr (.inl e)
    ·exact eQ _ (i2 g e)
theorem mC(f:Str)(v:V):∀fs:List (Str×V),(bR f v fs).length<=fs.length+1
 |[]=>by simp[bR]
 | (k,x)::r=>by
  have ih:=mC f v r;rw[show bR f v ((k,x)::r)=(if k=f then(k,v)::r else(k,x)::bR f v r)from rfl]
  by_cases hk:k=f
  ·rw[if_pos hk,d_,d_];omega
  ·rw[if_neg hk,d_,d_];omega
theorem iA.some_of{v:V}{o:Option Value}(r:iA (some v) o):∃u,o=some u/\RelV v u:=by
 cases o with
 |none=>exact(show False from r).elim
 |some u=>exact⟨u,rfl,r⟩
theorem iA.none_of{o:Option Value}(r:iA none o):o=none:=by
 cases o with
 |none=>rfl
 |some u=>exact(show False from r).elim
theorem w_{v:V}{u:Value}(r:RelV v u):PySem.W.handedIn u=true:=by
 cases v with
 |non=>cases(show u=Value.none from r);rfl
 |bl b=>cases(show u=Value.bool b from r);rfl
 |int i=>obtain⟨t,e⟩:=(show ∃t,u=Value.int i t from r);cases e;rfl
 |str x=>obtain⟨t,e⟩:=(show ∃t,u=Value.str x t from r);cases e;rfl
 |byt b=>obtain⟨t,e⟩:=(show ∃t,u=Value.bytes b t from r);cases e;rfl
 |flt b=>obtain⟨t,e⟩:=(show ∃t,u=Value.float b t from r);cases e;rfl
 |ref a=>cases(show u=Value.ref a from r);rfl
 |ty n=>cases(show u=Value.type n from r);rfl
section
variable{P:bj}{w:World}{H H':Hp}{h h':Heap}{a C dx:Addr}{fs fs':List (Str×V)}
theorem nE{K:Za}(hok:jt P w K H h)(e:H a=some (.ins C dx fs)):∃mA,vg h a dx C mA/\(∀f,iA (fs.lookup f) (mA f))/\PySem.Within mA (fs.map (·.1))/\fs.length<=1000/\H dx=some (.own a):=by
 obtain⟨d,z,ne,ob,mA,n,r,q⟩:=(show bw P w K H h a (.ins C dx fs)from hok a _ e);exact⟨mA,⟨ob,n,ne⟩,r,q,z,d⟩
end
structure vn(K:Za)(C:Addr):Prop where
 pg:nJ K C vy=true
 hd:pM K C=true
 po:sC K C=true
 sa:bX K (.ref C) "__setattr__"=some (some (.builtin "object.__setattr__"))
theorem vn.get{K:Za}{C:Addr}(c:vn K C)(f:Str):nJ K C f=true:=c.pg
def cy(K:Za)(C:Addr)(f:Str):Prop:=bX K (.ref C) f=some none
theorem cy.taker{K:Za}{C:Addr}{f:Str}(n:cy K C f):PySem.W.takerIn K C f=some none:=by
 unfold PySem.W.takerIn;rw[show bX K (.ref C) f=some none from n]
 rfl
structure Aj(K:Za)(C:Addr)(m:Str)(f:Addr):Prop where
 at_:bX K (.ref C) m=some (some (.ref f))
 fn:sD K (.ref f)=true
 kp:eP K (.ref f)=true
section
variable{X:Cx}{J3:Zd}{σ:St}{H:Hp}{s:Shared}{a C dx:Addr}{fs:List (Str×V)}{f:Str}{v:V}{A:Around}{E:Zc}
theorem u3{b:Bool}{Q:Zc}(I:Inv X J3 σ H s)(e:H a=some (.ins C dx fs))(c:vn X.K C)(n:cy X.K C f)(l:fs.lookup f=some v)
  (h:∀u s',Inv X J3 σ H s'->RelV v u->Q u s'):wpAny (model X.prog X.w) A (getAttr (.ref a) f b) Q E s:=by
 obtain⟨mA,O,r,_,_,_⟩:=nE I.hok e;obtain⟨u,hu,ru⟩:=iA.some_of (v:=v) (o:=mA f) (by rw[<-l];exact r f);exact z6 I.kIn O (c.get f) c.hd n hu (w_ ru) (h u _ (I.tok _) ru)
theorem oO{m:Str}{g:Addr}{pl:Sem Bool}{Q:Value×List Value->Shared->Prop}(I:Inv X J3 σ H s)(e:H a=some (.ins C dx fs))(c:vn X.K C)(k:Aj X.K C m g)(l:fs.lookup m=none)
  (h:Q (.ref g,[.ref a]) s):wpAny (model X.prog X.w) A (mn (.ref a) m pl) Q E s:=by
 obtain⟨mA,O,r,_,_,_⟩:=nE I.hok e;have hn:mA m=none:=iA.none_of (by rw[<-l];exact r m);exact yM I.kIn O (c.get m) k.at_ k.fn hn h
theorem uF{y:V}{u:Value}{Q:Unit->Shared->Prop}(I:Inv X J3 σ H s)(e:H a=some (.ins C dx fs))(c:vn X.K C)(n:cy X.K C f)(hl:fs.length<1000)(ry:RelV y u)
  (h:∀s',Inv X J3 σ (upd H a (.ins C dx (bR f y fs))) s'->Q () s'):wpAny (model X.prog X.w) A (setAttr (.ref a) f u) Q E s:=by
 obtain⟨mA,O,r,wi,_,ho⟩:=nE I.hok e;have hz:(fs.map (·.1)).length<=aj:=by rw[ai,pN];omega
 refine zD I.kIn O c.sa c.po n.taker c.hd wi hz fun h' O' sb=>h _ ?_;have hd:∃o,h'.get? dx=some o:=let⟨o,_,_,e',_⟩:=O'.ns;⟨o,e'⟩;refine I.write (x:=a) (e:=dx) (by rw[e];exact gM) (.inr ho) (fun b q hb z=>(sb.2 b hb).trans z) hd ?_;refine⟨by rw[ah O.ne];exact ho,?_,O.ne,O'.obj,_,O'.ns,fun g=>?_,fun g hg=>?_⟩
 ·have:=mC f y fs;omega
 ·show iA ((bR f y fs).lookup g) (if g=f then some u else mA g)
  rw[aQ];by_cases q:g=f
  ·rw[if_pos q,if_pos q];exact ry
  ·rw[if_neg q,if_neg q];exact r g
 ·by_cases q:g=f
  ·rw[q];exact(lW f y fs).1
  ·refine(lW f y fs).2 g (wi g fun z=>hg ?_);show(if g=f then some u else mA g)=none
   rw[if_neg q];exact z
theorem Inv.made(I:Inv X J3 σ H s):Inv X J3 σ (upd (upd H s.heap.objs.size (.own (s.heap.objs.size+1))) (s.heap.objs.size+1) (.ins C s.heap.objs.size []))
  { s with heap:=(s.heap.push kr).push (mw C s.heap.objs.size) }:=by
 have e1:(s.heap.push kr).get? s.heap.objs.size=some kr:=dI s.heap rfl;have e2:((s.heap.push kr).push (mw C s.heap.objs.size)).get? (s.heap.objs.size+1)=some (mw C s.heap.objs.size):=by
  have:=dI (s.heap.push kr) (o:=mw C s.heap.objs.size) rfl;rwa[Heap.size_push]at this
 have e3:(s.heap.push kr).Ns s.heap.objs.size (fun _=>none):=⟨kr,#[],_,e1,rfl,(fun e he=>absurd he (by simp)),fun _=>rfl⟩;have I1:=I.laid (a:=s.heap.objs.size) (o:=.own (s.heap.objs.size+1)) (h':=s.heap.push kr) (t':=s.toks) (fun b u q=>bY _ q) (ax _) ⟨_,e1⟩;refine I1.laid (a:=s.heap.objs.size+1) (o:=.ins C s.heap.objs.size []) (t':=s.toks) (fun b u q=>bY _ q) (Nat.le_of_eq (Heap.size_push _ _)) ?_;have ne:s.heap.objs.size≠s.heap.objs.size+1:=b_ (Nat.lt_succ_self _);refine⟨by rw[ah ne,aa],ee _,ne,e2,fun _=>none,(Heap.Ns1.of_empty e3).at fun o q=>bY _ q,fun _=>gM,fun y hy=>absurd rfl hy⟩
theorem Ae{prog:bj}{w:World}{env:Env}{e:Expr}{f:Str}{pos:Pos}{s:Shared}{Q:Zc}(hb:pL e f env (eval e env)=eval e env)
  (h:wpAny (model prog w) A (eval e env) (fun o s₁=>wpAny (model prog w) A (getAttr o f true) Q E s₁) E s):wpAny (model prog w) A (eval (.Attribute e f pos) env) Q E s :=
 Attribute_any_ h (by rw[arm_eval_Attribute,hb])
end
def fT(K:Za)(ta:TE)(f:Str):TE:=fun σ H Q=>ta σ H fun x H1=>∃a C dx fs v,x=.ref a/\H1 a=some (.ins C dx fs)/\vn K C/\cy K C f/\fs.lookup f=some v/\Q v H1
def kS(K:Za)(ta tv:TE)(f:Str):TS:=fun D σ H=>tv σ H fun y H1=>ta σ H1 fun x H2=>∃a C dx fs,x=.ref a/\H2 a=some (.ins C dx fs)/\vn K C/\cy K C f/\fs.length<1000 /\
 D.nx σ (upd H2 a (.ins C dx (bR f y fs)))
section
variable{X:Cx}{o e value:Expr}{f:Str}{pos pos' J7:Pos}{ta tv:TE}
theorem cu(he:PE X e ta)(hb:pL e f X.env (eval e X.env)=eval e X.env):PE X (.Attribute e f pos) (fT X.K ta f):=by
 intro J3 s σ H Q I h;refine Ae hb (bO (he J3 s σ H _ I h) fun u s1 ⟨x,H1,I1,rx,a,C,dx,fs,v,ex,ea,c,n,l,q⟩=>?_);subst ex;obtain rfl:u=Value.ref a:=rx;exact u3 I1 ea c n l fun u' s2 I2 ru=>⟨v,H1,I2,ru,q⟩
theorem eo(ha:PE X o ta)(hv:PE X value tv)(hs:mq value (some (.Attribute o f pos')) pos.line X.env=pure false):PS X (.Assign [.Attribute o f pos'] value pos) (kS X.K ta tv f):=by
 intro J3 s σ H D I h;refine plainObj_wpAny_Assign_Attribute (bO (hv J3 s σ H _ I h) fun u s1 ⟨y,H1,I1,ry,q⟩=>bO (ha J3 s1 σ H1 _ I1 q) fun ov s2 ⟨x,H2,I2,rx,a,C,dx,fs,ex,ea,c,n,l,q2⟩=>?_) hs;subst ex;obtain rfl:ov=Value.ref a:=rx;exact uF I2 ea c n l ry fun s3 I3=>⟨σ,_,I3,q2⟩
end
section
variable{X:Cx}{J3:Zd}{σ:St}{H:Hp}{s:Shared}{A:Around}{E:Zc}{Q:Zc}{c:Value}{b:Bool}
inductive j8(K:Za)(H:Hp):V->Value->Prop where
 |non:j8 K H .non (.type "NoneType")
 |bl (x:Bool):j8 K H (.bl x) (.type "bool")
 |int (i:Int):j8 K H (.int i) (.type "int")
 |str (x:Str):j8 K H (.str x) (.type "str")
 |flt (x:UInt64):j8 K H (.flt x) (.type "float")
 |lst {a:Addr}{xs:List V}(e:H a=some (.lst xs)):j8 K H (.ref a) (.type "list")
 |frz {a:Addr}{o:Obj}{xs:List V}(e:H a=some (.frz o (.lst xs))):j8 K H (.ref a) (.type "list")
 |tup {a:Addr}{xs:List V}(e:H a=some (.tup xs)):j8 K H (.ref a) (.type "tuple")
 |dK {a:Addr}{kvs:List (di×V)}(e:H a=some (.dK kvs)):j8 K H (.ref a) (.type "dict")
 |dT {a:Addr}{kvs:List (TK×V)}(e:H a=some (.dT kvs)):j8 K H (.ref a) (.type "dict")
 |ins {a C dx:Addr}{fs:List (Str×V)}(e:H a=some (.ins C dx fs)) (cl:vn K C) (ha:bX K (.ref C) "__class__"=some (some (.builtin "object.__class__")))
   (hn:PySem.W.specialIn K (.builtin "object.__class__") "__get__"=some (some (.builtin "getset_descriptor.__get__"))) (htk:PySem.W.takesIn K (.builtin "object.__class__")=some true)
   (hm:PySem.W.mroIn K C (.type "object")=some true):j8 K H (.ref a) (.ref C)
theorem wY{x:V}{u t:Value}(I:Inv X J3 σ H s)(rx:RelV x u)(ty:j8 X.K H x t)(e:vx X.K t c=some b)(h:∀tk,Q (.bool b) { s with toks:=tk }):
  wpAny (model X.prog X.w) A (call (.builtin "isinstance") [u,c]) Q E s:=by
 cases ty with
 |non=>cases(show u=Value.none from rx);exact gL PySem.W.kitx_none I.kIn gM e (fun z=>nomatch z) h
 |bl y=>cases(show u=Value.bool y from rx);exact gL PySem.W.kitx_bool I.kIn gM e (fun z=>nomatch z) h
 |int i=>obtain⟨t,q⟩:=(show ∃t,u=Value.int i t from rx);cases q;exact gL PySem.W.kitx_int I.kIn gM e (fun z=>nomatch z) h
 |str y=>obtain⟨t,q⟩:=(show ∃t,u=Value.str y t from rx);cases q;exact gL PySem.W.kitx_str I.kIn gM e (fun z=>nomatch z) h
 |flt y=>obtain⟨t,q⟩:=(show ∃t,u=Value.float y t from rx);cases q;exact gL PySem.W.kitx_float I.kIn gM e (fun z=>nomatch z) h
 |@lst a xs ea =>
  cases(show u=Value.ref a from rx);obtain⟨_,_,n,_,h1⟩:=(show bw X.prog X.w X.K H s.heap a (.lst xs)from I.hok a _ ea);exact gL PySem.W.kitx_list I.kIn ⟨_,h1,rfl⟩ e (fun z=>nomatch z) h
 |@frz a ob xs ea =>
  cases(show u=Value.ref a from rx);obtain⟨_,_,_,n,_,h1⟩:=(show bw X.prog X.w X.K H s.heap a (.frz ob (.lst xs))from I.hok a _ ea);exact gL PySem.W.kitx_list I.kIn ⟨_,h1,rfl⟩ e (fun z=>nomatch z) h
 |@tup a xs ea =>
  cases(show u=Value.ref a from rx);obtain⟨_,_,_,p⟩:=(show bw X.prog X.w X.K H s.heap a (.tup xs)from I.hok a _ ea);obtain⟨o,h1,h2,_⟩:=p;exact gL PySem.W.kitx_tuple I.kIn ⟨o,h1,h2⟩ e (fun z=>nomatch z) h
 |@dK a kvs ea =>
  cases(show u=Value.ref a from rx);obtain⟨_,_,vs,_,p⟩:=(show bw X.prog X.w X.K H s.heap a (.dK kvs)from I.hok a _ ea);obtain⟨o,es,ep,h1,h2,_⟩:=p;exact gL PySem.W.kitx_dict I.kIn ⟨o,h1,h2.1⟩ e (fun z=>nomatch z) h
 |@dT a kvs ea =>
  cases(show u=Value.ref a from rx);obtain⟨_,_,xs,_,o,es,ep,h1,h2,_⟩:=(show bw X.prog X.w X.K H s.heap a (.dT kvs)from I.hok a _ ea);exact gL PySem.W.kitx_dict I.kIn ⟨o,h1,h2.1⟩ e (fun z=>nomatch z) h
 |@ins a C dx fs ea cl ha hn htk hm =>
  cases(show u=Value.ref a from rx);obtain⟨mA,O,_⟩:=nE I.hok ea;obtain⟨od,J,_⟩:=O.look;exact gL (PySem.W.kitx_own (cl.get _) cl.hd ha hn htk hm) I.kIn J e (fun z=>nomatch z) h
end
end L2
namespace L2
open PySem PySem.Spec PyProof.Rows
structure cZ(k:Nat)(A:Around):Prop where
 hd:A.handled=none
 dp:A.depth+3 * k+5<recursionLimit
 un:A.units+16 * k+200<cLine
theorem cZ.mono{j k:Nat}{A:Around}(r:cZ k A)(h:j<=k):cZ j A:=⟨r.hd,by have:=r.dp;omega,by have:=r.un;omega⟩
theorem cZ.deeper{k:Nat}{A:Around}(r:cZ (k+1) A)(env:Env):cZ k (A.deeper env) :=
 ⟨r.hd,by have:=r.dp;show A.depth+1+3 * k+5<_;omega,by have:=r.un;show A.units+3+16 * k+200<_;omega⟩
theorem uW{A:Around}{C:Addr}{us:Zf}{kw:List (Str×Value)}:(A.under (.builtin "type.__call__" ⟨.ref C::us,kw⟩)).depth=A.depth+1:=by
 first|rfl|simp[Around.under,Code.weight,Code.isCreation,Code.isGuard,Code.isCaller,Code.frames,Code.isFrame,guardIds]
theorem uV{A:Around}{C:Addr}{us:Zf}{kw:List (Str×Value)}:(A.under (.builtin "type.__call__" ⟨.ref C::us,kw⟩)).units=A.units+1:=by
 first|rfl|simp[Around.under,Code.cUnits,Code.frames,Code.isFrame]
theorem cZ.make{k:Nat}{A:Around}(r:cZ (k+1) A)(C:Addr)(us:Zf)(kw:List (Str×Value)):cZ k (A.under (.builtin "type.__call__" ⟨.ref C::us,kw⟩)) :=
 ⟨r.hd,by have:=r.dp;rw[uW];omega,by have:=r.un;rw[uV];omega⟩
theorem cZ.depth{k:Nat}{A:Around}(r:cZ k A):A.depth<recursionLimit:=by have:=r.dp;omega
theorem cZ.units{k:Nat}{A:Around}(r:cZ k A):A.units+64<cLine:=by have:=r.un;omega
def bI:TA:=fun _ H Q=>Q [] H
def au(ta:TE)(tr:TA):TA:=fun σ H Q=>ta σ H fun x H1=>tr σ H1 fun xs H2=>Q (x::xs) H2
abbrev aB(a:TE):TA:=au a bI
abbrev ba(a b:TE):TA:=au a (au b bI)
abbrev fQ(a b c:TE):TA:=au a (au b (au c bI))
section
variable{X:Cx}{e:Expr}{es:List Expr}{te:TE}{t:TA}{pos:Pos}
theorem cR:PA X [] bI:=fun _ _ _ _ H Q I h=>Calls.spliced_nil ⟨[],H,I,.nil,h⟩
theorem aW(ha:PE X e te)(hr:PA X es t)(hs:aw (e::es) X.env=(false,eval e X.env)::aw es X.env:=by rfl):PA X (e::es) (au te t):=by
 intro pos J3 s σ H Q I h;rw[hs];show wpAny _ _ (spliced ((false,eval e X.env)::backTo pos (aw es X.env))) _ _ s;refine vw (bO (ha J3 s σ H _ I h) fun u s1 ⟨x,H1,I1,r1,q1⟩=>?_);exact bO (hr pos J3 s1 σ H1 _ I1 q1) fun us s2 ⟨xs,H2,I2,r2,q2⟩=>⟨x::xs,H2,I2,.cons r1 r2,q2⟩
def bV(t:TA):TE:=fun σ H Q=>t σ H fun xs H1=>xs.length<=aj/\∀p,H1 p=none->Q (.ref p) (upd H1 p (.tup xs))
def de(t:TA):TE:=fun σ H Q=>t σ H fun xs H1=>xs.length<=aj/\∀p,H1 p=none->Q (.ref p) (upd H1 p (.lst xs))
theorem aM{x1}(h:PA X es t):PE X (.Tuple es x1 pos) (bV t):=by
 intro J3 s σ H Q I hq;refine wpAny_Tuple_spliced (bO (h pos J3 s σ H _ I hq) fun us s1 ⟨xs,H1,I1,r,z,q⟩=>⟨by rw[<-r.length];exact z,?_⟩);have hf:H1 s1.heap.objs.size=none:=I1.hok.fresh (ax _);refine⟨.ref s1.heap.objs.size,upd H1 s1.heap.objs.size (.tup xs),I1.laid (t':=s1.toks) (fun b u e=>bY _ e) (ax _) ?_,rfl,q _ hf⟩;exact⟨z,us,r,⟨_,dI _ rfl,rfl,_,rfl⟩⟩
theorem bq(h:PA X es t):PE X (.List es pos) (de t):=by
 intro J3 s σ H Q I hq;refine wpAny_List_spliced (bO (h pos J3 s σ H _ I hq) fun us s1 ⟨xs,H1,I1,r,z,q⟩=>⟨by rw[<-r.length];exact z,?_⟩);have hf:H1 s1.heap.objs.size=none:=I1.hok.fresh (ax _);refine⟨.ref s1.heap.objs.size,upd H1 s1.heap.objs.size (.lst xs),I1.laid (t':=s1.toks) (fun b u e=>bY _ e) (ax _) ?_,rfl,q _ hf⟩;exact⟨z,us,0,r,dI _ rfl⟩
end
abbrev Sp:=List V->Hp->VK->XK->Prop
abbrev xB:=List Env->Hp->Shared->XK->Value->Shared->Prop
structure vm(P:bj)(w:World)(K:Za)(mg:Str->Option Value)(base:Heap)(A:Around)(outer:List Env)(s:Shared)(H:Hp):Prop where
 frames:A.frames=some outer
 mod:Mod K mg base
 bs:∀b o,base.get? b=some o->s.heap.get? b=some o/\H b=none
 bsz:base.objs.size<=s.heap.objs.size
 funs:s.heap.FunFrames base outer
 frf:∀b∈xA outer,H b=none
 hok:jt P w K H s.heap
 bare:kz s.gens
def CE(outer:List Env)(P:bj)(w:World)(K:Za)(H:Hp)(s:Shared)(Q:VK)(u:Value)(s':Shared):Prop :=
 ∃v H',s'.os=s.os/\kz s'.gens/\Un (xA outer) [] H H' s.heap s'.heap/\jt P w K H' s'.heap/\RelV v u/\Q v H'
def CR(CX:xB)(outer:List Env)(P:bj)(w:World)(K:Za)(H:Hp)(s:Shared)(Q:VK)(E:XK)(r:Result)(s':Shared):Prop :=
 match r with
 |.ok (.ret u)=>CE outer P w K H s Q u s'
 |.ok _=>False
 |.error e=>CX outer H s E e s'
structure i6(P:bj)(w:World)(K:Za)(mg:Str->Option Value)(base:Heap)(CX:xB)(k:Nat)(f:Addr)(fd:ip)(ps:Zb)(sp:Sp):Prop where
 len:∀vs H Q E,sp vs H Q E->vs.length=ps.length
 run:∀(A:Around) (outer:List Env) (s:Shared) (H:Hp) (args:Args) (us:Zf) (vs:List V) (Q:VK) (E:XK),cZ k A->vm P w K mg base A outer s H->nI s fd args (ps.zip us)->aI vs us->sp vs H Q E ->
  zzl72 (model P w) A (.call (.ref f) args) (CR CX outer P w K H s Q E) s
theorem vm.make{P:bj}{w:World}{K:Za}{mg:Str->Option Value}{base:Heap}{A:Around}{outer:List Env}{s:Shared}{H:Hp}(e:vm P w K mg base A outer s H)(C:Addr)(us:Zf)(kw:List (Str×Value)):
  vm P w K mg base (A.under (.builtin "type.__call__" ⟨.ref C::us,kw⟩)) outer s H:=⟨by first|exact e.frames|(simpa[Around.under,Code.envs,Code.isFrame,pushEnvs]using e.frames),e.mod,e.bs,e.bsz,e.funs,e.frf,e.hok,e.bare⟩
section
variable{X:Cx}{J3:Zd}{σ:St}{H:Hp}{s s':Shared}
theorem Inv.env0(I:Inv X J3 σ H s):vm X.prog X.w X.K X.mg X.base X.A X.stack s H :=
 ⟨I.ok.frames,I.ok.mod,I.bs,aJ I.ok.bsz I.sz,I.stack,I.stkFree,I.hok,I.bare⟩
theorem Inv.after{Q:VK}{u:Value}(I:Inv X J3 σ H s)(h:CE X.stack X.prog X.w X.K H s Q u s'):EP X J3 σ Q u s':=by
 obtain⟨v,H',os,bare,un,hok,r,q⟩:=h;obtain⟨hh,g,d,t,os'⟩:=s';obtain rfl:os'=s.os:=os;exact⟨v,H',I.call (h':=hh) (g':=g) (d':=d) (t':=t) (ch:=[]) un hok bare (fun b z=>absurd z (by simp)),r,q⟩
end
def Ao(sp:Sp)(dvs:List V)(E:XK)(t:TA):TE:=fun σ H Q=>t σ H fun vs H1=>sp (vs++dvs) H1 Q E
def db(C:Addr)(m:Str)(sp:Sp)(dvs:List V)(E:XK)(ta:TE)(t:TA):TE:=fun σ H Q=>ta σ H fun x H1=>∃a dx fs,x=.ref a/\H1 a=some (.ins C dx fs)/\fs.lookup m=none /\
 t σ H1 fun vs H2=>sp (x::(vs++dvs)) H2 Q E
def sS(C:Addr)(sp:Sp)(dvs:List V)(E:XK)(t:TA):TE:=fun σ H Q=>t σ H fun vs H1=>∀x dx,H1 x=none->H1 dx=none->dx≠x ->
 sp (.ref x::(vs++dvs)) (upd (upd H1 dx (.own x)) x (.ins C dx [])) (fun v H2=>v=.non/\Q (.ref x) H2) E
def Binds(K:Za)(fd:ip)(ps:Zb)(ds:Zf):Prop :=
 ∀(s:Shared) (us:Zf),K.In s.heap->(us++ds).length=ps.length->nI s fd ⟨us,[]⟩ (ps.zip (us++ds))
theorem Binds.all{K:Za}{fd:ip}{ps:Zb}(h:∀us:List Value,us.length=ps.length->bindArgs fd ⟨us,[]⟩=pure (ps.zip us)):Binds K fd ps []:=fun s us _ hl=>by
 rw[c6]at hl ⊢;exact .of_eq (h us hl)
def j_(CX:xB)(X:Cx)(E:XK):Prop:=∀(J3:Zd) (σ:St) (H:Hp) (s:Shared) (e:Value) (s':Shared),Inv X J3 σ H s->CX X.stack H s E e s'->X.xe e s'
section
variable{X:Cx}{CX:xB}{k:Nat}{f C:Addr}{fd:ip}{ps:Zb}{sp:Sp}{dvs:List V}{ds:Zf}{E:XK}{x m:Str}{p pos J5:Pos}{e o:Expr}{es:List Expr}{ta:TE}{t:TA}
theorem uG{J3:Zd}{σ:St}{H:Hp}{s:Shared}{Q:VK}{us:Zf}{vs:List V}(F:i6 X.prog X.w X.K X.mg X.base CX k f fd ps sp)(hr:cZ k X.A)(hb:Binds X.K fd ps ds)(hd:aI dvs ds)(hx:j_ CX X E)
  (I:Inv X J3 σ H s) (r:aI vs us) (h:sp (vs++dvs) H Q E):wpAny (model X.prog X.w) X.A (call (.ref f) us) (EP X J3 σ Q) X.xe s:=by
 have r2:aI (vs++dvs) (us++ds):=r.append hd;have hl:(us++ds).length=ps.length:=by rw[<-r2.length];exact F.len _ _ _ _ h
 refine wpAny_call (vv (F.run X.A X.stack s H ⟨us,[]⟩ (us++ds) (vs++dvs) Q E hr I.env0 (hb s us I.kIn hl) r2 h) fun r s' hq=>?_);cases r with
 |error e=>exact hx J3 σ H s e s' I hq
 |ok fl =>
  cases fl with
  |ret u=>exact I.after hq
  |next=>exact gO hq
  |brk=>exact gO hq
  |cont=>exact gO hq
theorem zV(F:i6 X.prog X.w X.K X.mg X.base CX k f fd ps sp)(hr:cZ k X.A)(hg:Gl X x)(hm:X.mg x=some (.ref f))(hk:eP X.K (.ref f)=true)(hb:Binds X.K fd ps ds)(hd:aI dvs ds)(hx:j_ CX X E)
  (ha:PA X (e::es) t) (hdb:(x==("__debug__":Str))=false:=by decide) (he:aw (e::es) X.env=(false,eval e X.env)::aw es X.env:=by rfl) (hpl:(backTo pos (aw es X.env)).any (·.1)=false:=by rfl) :
  PE X (.Call (.Name x p) (e::es) [] pos) (Ao sp dvs E t):=by
 intro J3 s σ H Q I h;refine vt (rK I hg hm ?_ hdb);refine PySem.W.callWith_K (h₀:=X.base) I.ok.mod.kin hk (bO (ha pos J3 s σ H _ I h) fun us s1 ⟨vs,H1,I1,r,q⟩=>⟨I1.kIn,?_⟩) he hpl;exact uG F hr hb hd hx I1 r q
theorem zR{pl:Sem Bool}(he:PE X o ta)(c:vn X.K C)(hm:Aj X.K C m f)(F:i6 X.prog X.w X.K X.mg X.base CX k f fd ps sp)(hr:cZ k X.A)(hb:Binds X.K fd ps ds)(hd:aI dvs ds)(hx:j_ CX X E)(ha:PA X (e::es) t)
  (hst:aw (e::es) X.env=(false,eval e X.env)::aw es X.env:=by rfl) (hpl:(backTo pos (aw es X.env)).any (·.1)=false:=by rfl)
  (ht:eval (.Call (.Attribute o m J5) (e::es) [] pos) X.env=(do
   let ov <- eval o X.env
   mr J5.atName
   let(f,first) <- iD [ov] (mn ov m pl)
   pK pos f first (backTo pos (aw (e::es) X.env)) (kq pos (ko [] X.env))):=by rfl) :
  PE X (.Call (.Attribute o m J5) (e::es) [] pos) (db C m sp dvs E ta t):=by
 intro J3 s σ H Q I h;refine PySem.W.methodCall_KW (pl:=pl) (bO (he J3 s σ H _ I h) fun u s1 ⟨x,H1,I1,rx,a,dx,fs,ex,ea,l,q⟩=>?_) ht;subst ex;obtain rfl:u=Value.ref a:=rx;refine oO I1 ea c hm l ?_;refine PySem.W.callWith_K (first:=[.ref a]) (h₀:=X.base) I.ok.mod.kin hm.kp (bO (ha pos J3 s1 σ H1 _ I1 q) fun us s2 ⟨vs,H2,I2,r,q2⟩=>⟨I2.kIn,?_⟩) hst hpl
 exact uG (us:=.ref a::us) (vs:=.ref a::vs) F hr hb hd hx I2 (.cons rfl r) q2
theorem ym{pl:Sem Bool}(he:PE X o ta)(c:vn X.K C)(hm:Aj X.K C m f)(F:i6 X.prog X.w X.K X.mg X.base CX k f fd ps sp)(hr:cZ k X.A)(hb:Binds X.K fd ps ds)(hd:aI dvs ds)(hx:j_ CX X E)
  (ht:eval (.Call (.Attribute o m J5) [] [] pos) X.env=(do
   let ov <- eval o X.env
   mr J5.atName
   let(f,first) <- iD [ov] (mn ov m pl)
   pK pos f first (backTo pos (aw [] X.env)) (kq pos (ko [] X.env))):=by rfl) :
  PE X (.Call (.Attribute o m J5) [] [] pos) (db C m sp dvs E ta bI):=by
 intro J3 s σ H Q I h;refine PySem.W.methodCall_KW (pl:=pl) (bO (he J3 s σ H _ I h) fun u s1 ⟨x,H1,I1,rx,a,dx,fs,ex,ea,l,q⟩=>?_) ht;subst ex;obtain rfl:u=Value.ref a:=rx;refine oO I1 ea c hm l ?_;exact PySem.W.callWith_K0 (first:=[.ref a]) I1.kIn hm.kp (uG (us:=[.ref a]) (vs:=[.ref a]) F hr hb hd hx I1 (.cons rfl .nil) q)
structure Mk(K:Za)(C f:Addr):Prop where
 makes:ky K C=true
 init:bX K (.ref C) "__init__"=some (some (.ref f))
 fn:sD K (.ref f)=true
 kp:eP K (.ref C)=true
theorem xO{J3:Zd}{σ:St}{H:Hp}{s:Shared}{Q:VK}{us:Zf}{vs:List V}(M:Mk X.K C f)(F:i6 X.prog X.w X.K X.mg X.base CX k f fd ps sp)(hr:cZ (k+1) X.A)(hb:Binds X.K fd ps ds)(hd:aI dvs ds)
  (hx:j_ CX X E) (I:Inv X J3 σ H s) (r:aI vs us)
  (h:∀x dx,H x=none->H dx=none->dx≠x->sp (.ref x::(vs++dvs)) (upd (upd H dx (.own x)) x (.ins C dx [])) (fun v H2=>v=.non/\Q (.ref x) H2) E) :
  wpAny (model X.prog X.w) X.A (call (.ref C) us) (EP X J3 σ Q) X.xe s:=by
 have hq:=h (s.heap.objs.size+1) s.heap.objs.size (I.hok.fresh (Nat.le_succ _)) (I.hok.fresh (ax _)) (b_ (Nat.lt_succ_self _));have I2:=Inv.made (C:=C) I;have r2:aI (V.ref (s.heap.objs.size+1)::(vs++dvs)) (Value.ref (s.heap.objs.size+1)::(us++ds)):=.cons rfl (r.append hd);have hl:(Value.ref (s.heap.objs.size+1)::us++ds).length=ps.length:=by
  have e:=r2.length;rw[F.len _ _ _ _ hq]at e;exact e.symm
 refine wpAny_call (yC (f:=f) I.kIn M.makes M.init (beq_iff_eq.mp M.fn) (vv (F.run _ X.stack _ _ ⟨Value.ref (s.heap.objs.size+1)::us,[]⟩ (Value.ref (s.heap.objs.size+1)::(us++ds)) _ _ E (hr.make C us [])
  (I2.env0.make C us []) (hb _ (Value.ref (s.heap.objs.size+1)::us) I2.kIn hl) r2 hq) fun r s' hq'=>?_))
 cases r with
 |error e=>exact hx J3 σ _ _ e s' I2 hq'
 |ok fl =>
  cases fl with
  |ret u =>
   obtain⟨v,H',I3,rv,ev,q3⟩:=I2.after hq';subst ev;exact⟨rv,⟨V.ref (s.heap.objs.size+1),H',I3,rfl,q3⟩⟩
  |next=>exact gO hq'
  |brk=>exact gO hq'
  |cont=>exact gO hq'
theorem zS(M:Mk X.K C f)(F:i6 X.prog X.w X.K X.mg X.base CX k f fd ps sp)(hr:cZ (k+1) X.A)(hg:Gl X x)(hm:X.mg x=some (.ref C))(hb:Binds X.K fd ps ds)(hd:aI dvs ds)(hx:j_ CX X E)
  (ha:PA X (e::es) t) (hdb:(x==("__debug__":Str))=false:=by decide) (he:aw (e::es) X.env=(false,eval e X.env)::aw es X.env:=by rfl) (hpl:(backTo pos (aw es X.env)).any (·.1)=false:=by rfl) :
  PE X (.Call (.Name x p) (e::es) [] pos) (sS C sp dvs E t):=by
 intro J3 s σ H Q I h;refine vt (rK I hg hm ?_ hdb);refine PySem.W.callWith_K (h₀:=X.base) I.ok.mod.kin M.kp (bO (ha pos J3 s σ H _ I h) fun us s1 ⟨vs,H1,I1,r,q⟩=>⟨I1.kIn,?_⟩) he hpl;exact xO M F hr hb hd hx I1 r q
end
structure ic(N P:Zb)(sc:Scope):Prop where
 kind:sc.kind=.function
 co:sc.isCoroutine=false
 gen:sc.isGenerator=false
 nd:N.Nodup
 pre:N.take P.length=P
 par:∀x∈P,sc.names.lookup x=some .local∨sc.names.lookup x=some .cell
 nofree:∀y∈sc.names,y.2≠.free
theorem qe{kindOf:Str->Option gK}{x:Str}:∀{binds:List (Str×Value)}{m:Str->Option Value},(∀v,(x,v)∉binds)->bindL kindOf binds m x=m x
 |[],_,_=>rfl
 | (n,v)::r,m,h=>by
  unfold bindL;rw[qe fun w hw=>h w (eQ _ hw)];split
  ·have:x≠n:=by rintro rfl;exact h v eR
   simp[this]
  ·rfl
theorem qh{kindOf:Str->Option gK}{x:Str}:∀{binds:List (Str×Value)}{m:Str->Option Value},(∀v,(x,v)∉binds)->bindC kindOf binds m x=m x
 |[],_,_=>rfl
 | (n,v)::r,m,h=>by
  unfold bindC;rw[qh fun w hw=>h w (eQ _ hw)];split
  ·rfl
  ·have:x≠n:=by rintro rfl;exact h v eR
   simp[this]
theorem qg{kindOf:Str->Option gK}{x:Str}{v:Value}:∀{P:Zb}{vs:Zf}{i:Nat}{m:Str->Option Value},P.Nodup->P[i]?=some x->vs[i]?=some v->kindOf x=some .local ->
  bindL kindOf (P.zip vs) m x=some v
 |[],_,_,_,_,h,_,_=>by simp at h
 |_::_,[],_,_,_,_,h,_=>by simp at h
 |p::P,w::vs,0,m,nd,h1,h2,hk=>by
  simp at h1 h2;subst h1;subst h2;show bindL kindOf ((p,w)::P.zip vs) m p=_;unfold bindL;rw[qe fun v hv=>(nH.mp nd).1 (List.of_mem_zip hv).1,if_pos hk];simp
 |p::P,w::vs,i+1,m,nd,h1,h2,hk=>by
  show bindL kindOf ((p,w)::P.zip vs) m x=_;unfold bindL;exact qg (i:=i) (nH.mp nd).2 (by simpa using h1) (by simpa using h2) hk
theorem qi{kindOf:Str->Option gK}{x:Str}{v:Value}:∀{P:Zb}{vs:Zf}{i:Nat}{m:Str->Option Value},P.Nodup->P[i]?=some x->vs[i]?=some v->kindOf x≠some .local ->
  bindC kindOf (P.zip vs) m x=some v
 |[],_,_,_,_,h,_,_=>by simp at h
 |_::_,[],_,_,_,_,h,_=>by simp at h
 |p::P,w::vs,0,m,nd,h1,h2,hk=>by
  simp at h1 h2;subst h1;subst h2;show bindC kindOf ((p,w)::P.zip vs) m p=_;unfold bindC;rw[qh fun v hv=>(nH.mp nd).1 (List.of_mem_zip hv).1,if_neg hk];simp
 |p::P,w::vs,i+1,m,nd,h1,h2,hk=>by
  show bindC kindOf ((p,w)::P.zip vs) m x=_;unfold bindC;exact qi (i:=i) (nH.mp nd).2 (by simpa using h1) (by simpa using h2) hk
def start(N:Zb)(vs:List V):St:=vs.map some++List.replicate (N.length-vs.length) none
def u7(CX:xB)(P:bj)(w:World)(K:Za)(mg:Str->Option Value)(base:Heap)(N:Zb)(qual:Str)(scope:Scope)(f:Addr)(cd:Value)(A:Around)(outer:List Env)(s:Shared)(H:Hp)(E:XK):Cx where
 prog:=P
 w:=w
 K:=K
 mg:=mg
 base:=base
 A:=A.deeper (envOfC qual scope s.heap.objs.size f cd)
 N:=N
 s₀:=s
 H₀:=H
 env:=envOfC qual scope s.heap.objs.size f cd
 outer:=outer
 stack:=envOfC qual scope s.heap.objs.size f cd::outer
 ex:=[]
 calm:=true
 fn:=fun _=>true
 pn:=[]
 xe:=fun e s'=>wpAny (model P w) (A.deeper (envOfC qual scope s.heap.objs.size f cd)) (leaving (envOfC qual scope s.heap.objs.size f cd) e) (fun _ s''=>CX outer H s E e s'') (fun e' s''=>CX outer H s E e' s'') s'
theorem t3{sc:Scope}{n:Nat}{x:Str}(h:sc.names.lookup x=some .cell):∃c,(cellsFrom n sc.names []).lookup x=some c:=by
 have q:=PySem.W.cellsFrom_some sc.names n [] (.inl h);exact vq.mp q
theorem w6{CX:xB}{P:bj}{w:World}{K:Za}{mg:Str->Option Value}{base:Heap}{N ps:Zb}{qual:Str}{scope:Scope}{f:Addr}{cd:Value}{A:Around}{outer:List Env}{s s1:Shared}{H:Hp}{E:XK}{us:Zf}{vs:List V}
  (S:ic N ps scope) (hd:A.handled=none) (e0:vm P w K mg base A outer s H) (hl:vs.length=ps.length) (r:aI vs us)
  (x:InCallC s s.heap.objs.size (bindL (envOfC qual scope s.heap.objs.size f cd).kindOf (ps.zip us) fun _=>none) (cellsFrom (s.heap.objs.size+1) scope.names []) (bindC (envOfC qual scope s.heap.objs.size f cd).kindOf (ps.zip us) fun _=>none) s1) :
  Inv (u7 CX P w K mg base N qual scope f cd A outer s H E) [] (start N vs) H s1:=by
 have hpl:ps.length<=N.length:=by have:=congrArg List.length S.pre;rw[aL]at this;omega
 obtain⟨h1,tk,rfl,hk⟩:=x.done;have noA:∀b:Addr,b∉(u7 CX P w K mg base N qual scope f cd A outer s H E).ex:=fun b z=>absurd (show b∈([]:Ze)from z) (by simp);refine⟨⟨e0.mod,S.kind,rfl,rfl,ax _,fun y z c h1 h2=>?_,fun y hy=>?_,fun y c _ h=>?_,fun _=>hd,Around.frames_deeper e0.frames,.inr ⟨rfl,rfl⟩,fun b z=>absurd z (noA b),e0.bs,e0.bsz,fun b _ _=>noA b,fun b z=>absurd z (noA b),e0.funs,e0.frf⟩,
  rfl,e0.bare,Un.kept hk,⟨_,x.toInCall.ns,fun i y v h1 h2 h3=>?_⟩,fun y c h=>⟨_,x.cell y c h⟩,e0.hok.fresh (ax _),fun y c h=>?_,fun p hp=>absurd (show p∈([]:Zd)from hp) (by simp),e0.hok.kept hk,?_⟩
 ·exact name_of_addr x.apart (sy h1) (sy h2)
 ·have hy:scope.names.lookup y=some .cell∨scope.names.lookup y=some .free:=hy;rcases hy with hy|hy
  ·exact t3 hy
  ·exact absurd rfl (S.nofree _ (sy hy))
 ·exact cM (x.above y c (sy h))
 ·have hi:i<vs.length:=by
   unfold start at h2;by_cases hi:i<vs.length
   ·exact hi
   ·rw[List.getElem?_append_right (by simpa using hi)]at h2;rw[List.getElem?_replicate]at h2;split at h2<;>cases h2
  have ha:vs[i]?=some v:=by
   unfold start at h2;rw[sw (by simpa using hi),gJ]at h2;cases e:vs[i]? with
   |none=>rw[e]at h2;cases h2
   |some a=>rw[e]at h2;cases h2;rfl
  obtain⟨u,hu,rv⟩:=r.get ha;have hp:ps[i]?=some y:=by
   rw[<-S.pre,List.getElem?_take_of_lt (by omega)];exact h1
  have ndP:ps.Nodup:=by rw[<-S.pre];exact S.nd.sublist (List.take_sublist _ _)
  refine⟨u,rv,?_⟩;rcases S.par y (dB hp)with k|k
  ·exact .inl ⟨k,qg ndP hp hu k⟩
  ·obtain⟨c,e⟩:=t3 (n:=s.heap.objs.size+1) k;refine .inr ⟨.inl k,c,e,?_⟩;have q:=x.cell y c e;rw[qi ndP hp hu (by show scope.names.lookup y≠_;rw[k];decide)]at q;exact q
 ·exact e0.hok.fresh (cM (x.above y c (sy h)))
 ·unfold start;show _=N.length;rw[bf,ai,List.length_replicate];omega
theorem BD{CX:xB}{P:bj}{w:World}{K:Za}{mg:Str->Option Value}{base:Heap}{k:Nat}{f:Addr}{name qual:Str}{params:Arguments}{body:List Stmt}{scope:Scope}{dV kV doc pm cdv ct oc:Value}{an od:Option Addr}
  {osl:Array (Option Value)}{N ps:Zb}{sp:Sp}(lk:K.lookup f=some ⟨oc,od,.func (fP name qual params body scope dV kV doc pm an cdv ct),osl⟩) (hcd:jO K cdv qual=true) (S:ic N ps scope)
  (len:∀vs H Q E,sp vs H Q E->vs.length=ps.length)
  (hbody:∀(A:Around) (outer:List Env) (s:Shared) (H:Hp) (vs:List V) (Q:VK) (E:XK),cZ k (A.deeper (envOfC qual scope s.heap.objs.size f cdv))->sp vs H Q E ->
   ∃t,uj (u7 CX P w K mg base N qual scope f cdv A outer s H E) body t/\t (bc Q) (start N vs) H) :
  i6 P w K mg base CX (k+1) f (fP name qual params body scope dV kV doc pm an cdv ct) ps sp:=by
 refine⟨len,fun A outer s H args us vs Q E hr e0 hb r hsp=>?_⟩;have hl:=len _ _ _ _ hsp;have KX:K.In s.heap:=e0.mod.kin.keeps fun b o e=>(e0.bs b o e).1;have lim:s.heap.NoLimit:=e0.mod.nolimit.keeps fun b o e=>(e0.bs b o e).1;have hkind:∀y∈ps.zip us,scope.names.lookup y.1=some .local∨(scope.names.lookup y.1=some .cell/\((cellsFrom (s.heap.objs.size+1) scope.names []).lookup y.1).isSome=true):=fun⟨n,v⟩ hy=>by
  rcases S.par n (List.of_mem_zip hy).1 with q|q
  ·exact .inl q
  ·exact .inr ⟨q,PySem.W.cellsFrom_some _ _ _ (.inl q)⟩
 refine codeAny_call_function hr.depth (KX _ _ lk) rfl S.co S.gen rfl (PySem.W.codeRec_of KX hcd) (hb _ _ _ _ ?_);refine wpAny_newFunctionEnv_cells S.kind hkind fun env he s1 x=>?_;subst he;refine⟨lim.keeps x.toInCall.keep,codeAny_func ?_⟩;obtain⟨t,ht,hq⟩:=hbody A outer s H vs Q E (hr.deeper _) hsp;have I:Inv (u7 CX P w K mg base N qual scope f cdv A outer s H E) [] (start N vs) H s1:=w6 S hr.hd e0 hl r x;refine kB (ht [] s1 (start N vs) H _ I hq) (fun fl s' hs=>?_) fun e s' hs=>hs;have fin:∀{σ':St}{H':Hp}{v:V}{u:Value},Inv (u7 CX P w K mg base N qual scope f cdv A outer s H E) [] σ' H' s'->RelV v u->Q v H'->CE outer P w K H s Q u s' :=
  fun{σ' H' v u} J rv q=>⟨v,H',J.os,J.bare,J.base,J.hok,rv,q⟩
 cases fl with
 |ret u =>
  obtain⟨v,σ',H',J,rv,q⟩:=hs;exact fin J rv q
 |next =>
  obtain⟨σ',H',J,q⟩:=hs;exact fin (v:=V.non) (u:=Value.none) J rfl q
 |brk =>
  obtain⟨_,_,_,q⟩:=hs;exact gO q
 |cont =>
  obtain⟨_,_,_,q⟩:=hs;exact gO q
end L2
namespace L2
open PySem PySem.Spec PyProof.Rows
section
variable{X:Cx}{x:Str}{p pos:Pos}{e:Expr}{es:List Expr}{t:TA}{id T:String}{r:List V->Hp->VK->Prop}
def gi(r:List V->Hp->VK->Prop)(t:TA):TE:=fun σ H Q=>t σ H fun vs H1=>r vs H1 Q
theorem tD(hc:eg X (.builtin id) r)(hg:Gl X x)(hm:X.mg x=none)(hv:gP x=some (.builtin id))(ha:PA X (e::es) t)(hn:x≠"__name__":=by decide)(hdb:(x==("__debug__":Str))=false:=by decide)
  (he:aw (e::es) X.env=(false,eval e X.env)::aw es X.env:=by rfl) (hpl:(backTo pos (aw es X.env)).any (·.1)=false:=by rfl):PE X (.Call (.Name x p) (e::es) [] pos) (gi r t):=by
 intro J3 s σ H Q I h;refine vt (oG I hg hm hv ?_ hn hdb);exact PyProof.Rows.callWith_builtin1 (bO (ha pos J3 s σ H _ I h) fun us s1 ⟨vs,H1,I1,r1,q1⟩=>hc J3 s1 σ H1 vs us Q I1 r1 q1) he hpl
theorem eB(hc:eg X (.type T) r)(hg:Gl X x)(hm:X.mg x=none)(hv:gP x=some (.type T))(ha:PA X (e::es) t)(hn:x≠"__name__":=by decide)(hdb:(x==("__debug__":Str))=false:=by decide)
  (he:aw (e::es) X.env=(false,eval e X.env)::aw es X.env:=by rfl) (hpl:(backTo pos (aw es X.env)).any (·.1)=false:=by rfl):PE X (.Call (.Name x p) (e::es) [] pos) (gi r t):=by
 intro J3 s σ H Q I h;refine vt (oG I hg hm hv ?_ hn hdb);exact PyProof.Rows.callWith_type1 (bO (ha pos J3 s σ H _ I h) fun us s1 ⟨vs,H1,I1,r1,q1⟩=>hc J3 s1 σ H1 vs us Q I1 r1 q1) he hpl
end
end L2
namespace HT
open PySem PyProof.Rows
section
variable{prog:bj}{w:World}{A:Around}{E:Zc}{s:Shared}
def sIx(n d:Nat):Option Int->Nat
 |none=>d
 |some v=>if v<0 then(v+(n:Int)).toNat else min v.toNat n
theorem sIx_none(n d:Nat):sIx n d none=d:=rfl
theorem sIx_nat(n d k:Nat):sIx n d (some (k:Int))=min k n:=by
 show(if(k:Int)<0 then((k:Int)+(n:Int)).toNat else min (k:Int).toNat n)=min k n
 rw[if_neg (by omega),lD]
theorem sIx_le(n d:Nat)(hd:d<=n)(o:Option Int):sIx n d o<=n:=by
 cases o with
 |none=>exact hd
 |some v =>
  show(if v<0 then(v+(n:Int)).toNat else min v.toNat n)<=n
  by_cases hv:v<0
  ·rw[if_pos hv];omega
  ·rw[if_neg hv];exact Nat.min_le_right _ _
theorem clip_eq(v:Int)(n d:Nat):(if v<0 then max (v+(n:Int)) 0 else min v (n:Int))=((sIx n d (some v):Nat):Int):=by
 show(if v<0 then max (v+(n:Int)) 0 else min v (n:Int))=(((if v<0 then(v+(n:Int)).toNat else min v.toNat n):Nat):Int)
 by_cases hv:v<0
 ·simp only[if_pos hv];omega
 ·simp only[if_neg hv];omega
end
end HT
namespace L2
open PySem PySem.Spec PyProof.Rows
abbrev TO:=St->Hp->(Option Int->Hp->Prop)->Prop
def PO(X:Cx)(e:Option Expr)(t:TO):Prop :=
 ∀(J3:Zd) (s:Shared) (σ:St) (H:Hp) (Q:Option Int->Hp->Prop),Inv X J3 σ H s->t σ H Q ->
  wpAny (model X.prog X.w) X.A (evalPart e X.env) (fun u s'=>∃o H',Inv X J3 σ H' s'/\IsPart u o/\Q o H') X.xe s
def eM:TO:=fun _ H Q=>Q none H
def gm(t:TE):TO:=fun σ H Q=>t σ H fun x H1=>∃i,x=.int i/\Q (some i) H1
section
variable{X:Cx}{e:Expr}{te:TE}{lo hi:Option Expr}{tl th:TO}{pos p2:Pos}
theorem fA:PO X none eM:=by
 intro J3 s σ H Q I h;rw[evalPart_none];exact aN ⟨none,H,I,.none,h⟩
theorem cV(h:PE X e te):PO X (some e) (gm te):=by
 intro J3 s σ H Q I hw;rw[evalPart_some];refine bO (h J3 s σ H _ I hw) fun u s1 ⟨x,H1,I1,r1,q1⟩=>?_;obtain⟨i,rfl,q⟩:=q1;obtain⟨t,rfl⟩:=r1;exact⟨some i,H1,I1,.int i t,q⟩
def SlR(X:Cx)(r:V->Option Int->Option Int->Hp->VK->Prop):Prop :=
 ∀(J3:Zd) (s:Shared) (σ:St) (H:Hp) (x:V) (v vl vu:Value) (lo hi:Option Int) (sl:Addr) (Q:VK),Inv X J3 σ H s->RelV x v->s.heap.IsSliceOf sl vl vu .none->IsPart vl lo->IsPart vu hi->r x lo hi H Q ->
  ∃T id,typeLookup (.type T) "__getitem__"=pure (some (.builtin id))/\s.TypeIs v T/\wpAny (model X.prog X.w) X.A (jN v (.ref sl)) (EP X J3 σ Q) X.xe s
def xy(r:V->Option Int->Option Int->Hp->VK->Prop)(te:TE)(tl th:TO):TE:=fun σ H Q=>te σ H fun x H1=>tl σ H1 fun l H2=>th σ H2 fun u H3=>r x l u H3 Q
theorem cQ{r:V->Option Int->Option Int->Hp->VK->Prop}(hr:SlR X r)(he:PE X e te)(hl:PO X lo tl)(hu:PO X hi th):PE X (.Subscript e (.Slice lo hi none p2) pos) (xy r te tl th):=by
 intro J3 s σ H Q I h;refine Subscript_ (bO (he J3 s σ H _ I h) fun v s1 ⟨x,H1,I1,r1,q1⟩=>?_);refine wpAny_Slice (bO (hl J3 s1 σ H1 _ I1 q1) fun vl s2 ⟨l,H2,I2,pl,q2⟩=>bO (hu J3 s2 σ H2 _ I2 q2) fun vu s3 ⟨u,H3,I3,pu,q3⟩=>?_);rw[evalPart_none];refine aN ?_;have I4:Inv X J3 σ H3 { s3 with heap:=s3.heap.push { cls:=.type "slice",data:=.fields #[vl,vu,.none] } }:=I3.kept (t':=s3.toks) fun b ob q=>bY _ q;obtain⟨T,id,hT,ht,hg⟩:=hr J3 { s3 with heap:=s3.heap.push { cls:=.type "slice",data:=.fields #[vl,vu,.none] } } σ H3 x v vl vu l u s3.heap.objs.size Q I4 r1 (Heap.IsSliceOf.new ..) pl pu q3;show wpAny (model X.prog X.w) X.A (subscriptTail e (.Slice lo hi none p2) v (.ref s3.heap.objs.size)) (EP X J3 σ Q) X.xe { s3 with heap:=s3.heap.push { cls:=.type "slice",data:=.fields #[vl,vu,.none] } };exact tail_any (ops:=[.ref s3.heap.objs.size,v]) ht hT hg (by with_unfolding_all rfl)
def fE(xs:List V)(lo hi:Option Int):List V:=(xs.drop (HT.sIx xs.length 0 lo)).take (HT.sIx xs.length xs.length hi-HT.sIx xs.length 0 lo)
theorem tT(xs:List V)(lo hi:Option Int):(fE xs lo hi).length<=xs.length:=by
 unfold fE;rw[aL,fO];omega
end
end L2
namespace L2
open PySem PySem.Spec PyProof.Rows
def AA(n:Nat)(i:Int):Option Nat:=if 0<=i then(if i<n then some i.toNat else none)else if -(n:Int)<=i then some (i+n).toNat else none
def ve{α:Type}(xs:List α)(i:Int):Option α:=(AA xs.length i).bind fun j=>xs[j]?
theorem v5{n:Nat}{i:Int}{j:Nat}(h:AA n i=some j):seqIndex? i n=some j/\j<n/\-(n:Int)<=i/\i<n:=by
 unfold AA at h;by_cases h0:0<=i
 ·rw[if_pos h0]at h;by_cases h1:i<n
  ·rw[if_pos h1]at h;have e:i.toNat=j:=da h;exact⟨by rw[seqIndex_of h0 h1,e],by omega,by omega,h1⟩
  ·rw[if_neg h1]at h;cases h
 ·rw[if_neg h0]at h;by_cases h1:-(n:Int)<=i
  ·rw[if_pos h1]at h;have e:(i+n).toNat=j:=da h;exact⟨by rw[seqIndex_neg (by omega) h1,e],by omega,h1,by omega⟩
  ·rw[if_neg h1]at h;cases h
theorem r8{α:Type}{xs:List α}{i:Int}{v:α}(h:ve xs i=some v):∃j,seqIndex? i xs.length=some j/\xs[j]?=some v/\j<xs.length/\-(xs.length:Int)<=i/\i<xs.length:=by
 unfold ve at h;cases e:AA xs.length i with
 |none=>rw[e]at h;cases h
 |some j =>
  rw[e]at h;obtain⟨h1,h2,h3,h4⟩:=v5 e;exact⟨j,h1,h,h2,h3,h4⟩
theorem fF{α:Type}{xs:List α}{j:Nat}{v:α}(h:xs[j]?=some v):ve xs (j:Int)=some v:=by
 have hj:j<xs.length:=(bT.mp h).1;have e:AA xs.length (j:Int)=some j:=by
  unfold AA;rw[if_pos (by omega),if_pos (by omega)];simp
 unfold ve;rw[e];exact h
def Ah(b:Expr):Prop:=∀o i,qJ b false o i=operate [o,i] (jN o i)
def Ak(X:Cx)(r:R2):Prop :=
 ∀(value slice:Expr) (J3:Zd) (s:Shared) (σ:St) (H:Hp) (x y:V) (v u:Value) (Q:VK),Inv X J3 σ H s->RelV x v->RelV y u->r x y H Q ->
  qJ slice false v u=operate [v,u] (jN v u)->wpAny (model X.prog X.w) X.A (subscriptTail value slice v u) (EP X J3 σ Q) X.xe s
def MtR(X:Cx)(id:String)(r:V->List V->Hp->VK->Prop):Prop :=
 ∀(J3:Zd) (s:Shared) (σ:St) (H:Hp) (x:V) (xs:List V) (v:Value) (us:Zf) (Q:VK),Inv X J3 σ H s->RelV x v->aI xs us->r x xs H Q ->
  wpAny (model X.prog X.w) X.A (call (.builtin id) (v::us)) (EP X J3 σ Q) X.xe s
section
variable{X:Cx}{a b:Expr}{ta tb:TE}{pos:Pos}
theorem Ak.or{r r':R2}(h:Ak X r)(h':Ak X r'):Ak X (fun x y H Q=>r x y H Q∨r' x y H Q):=by
 intro value slice J3 s σ H x y v u Q I rx ry q hs;rcases q with q|q
 ·exact h value slice J3 s σ H x y v u Q I rx ry q hs
 ·exact h' value slice J3 s σ H x y v u Q I rx ry q hs
theorem vQ{r:R2}(hr:Ak X r)(ha:PE X a ta)(hb:PE X b tb)(hs:Ah b):PE X (.Subscript a b pos) (aD r ta tb):=by
 intro J3 s σ H Q I h;exact Subscript_ (Bc ha hb I h fun v u s2 x y H2 I2 rx ry q=>hr a b J3 s2 σ H2 x y v u Q I2 rx ry q (hs _ _))
def d7(K:Za):R2:=fun x y H Q=>∃p xs i v,x=.ref p/\y=.int i/\ay K H p xs/\ve xs i=some v/\Q v H
def rA(K:Za):R2:=fun x y H Q=>∃p xs i v,x=.ref p/\y=.int i/\bE K H p xs/\ve xs i=some v/\Q v H
def yb:R2:=fun x y H Q=>∃z i c,x=.str z/\y=.int i/\z.length<=aj/\ve z.cps.toList i=some c/\Q (.str ⟨#[c]⟩) H
theorem v4:Ak X (d7 X.K):=by
 intro value slice J3 s σ H x y v u Q I rx ry h hs;obtain⟨p,xs,i,z,rfl,rfl,hq,he,q⟩:=h;cases rx;obtain⟨t,rfl⟩:=ry;obtain⟨its,r,pl,hz⟩:=I.list hq;obtain⟨j,h1,h2,h3,h4,h5⟩:=r8 he;obtain⟨w,ew,rw'⟩:=r.get h2;have hl:=r.length;have hn:=lV;have fin:EP X J3 σ Q w s:=⟨z,H,I,rw',q⟩;by_cases h0:0<=i
 ·have hj:i.toNat=j:=by
   rw[seqIndex_of h0 h5]at h1;exact da h1
  exact item_listR pl.isList h0 (by omega) (by rw[hj];simpa using ew) fin hs
 ·have hj:(i+(its.toArray.size:Int)).toNat=j:=by
   rw[seqIndex_neg (by omega) h4]at h1;rw[bt,<-hl];exact da h1
  exact subscriptTail_builtinR (x:=w) pl.isList.typeIs slot_list_getitem.lookup
   (wpAny_getItem_list_neg (Q:=fun r s'=>r=w/\EP X J3 σ Q r s') pl.isList (by omega) (by rw[bt]<;>omega) (by omega) (by rw[hj];simpa using ew) ⟨rfl,fin⟩) hs
theorem yF:Ak X (rA X.K):=by
 intro value slice J3 s σ H x y v u Q I rx ry h hs;obtain⟨p,xs,i,z,rfl,rfl,hq,he,q⟩:=h;cases rx;obtain⟨t,rfl⟩:=ry;obtain⟨its,r,pl,hz⟩:=I.tuple hq;obtain⟨j,h1,h2,h3,h4,h5⟩:=r8 he;obtain⟨w,ew,rw'⟩:=r.get h2;have hl:=r.length;have hn:=lV;have fin:EP X J3 σ Q w s:=⟨z,H,I,rw',q⟩;exact subscriptTail_builtinR (x:=w) pl.typeIs slot_tuple_getitem.lookup
  (getItem_tuple (j:=j) (Q:=fun r s'=>r=w/\EP X J3 σ Q r s') pl (by omega) (by omega) (by rw[bt,<-hl];exact h1) (by simpa using ew) ⟨rfl,fin⟩) hs
theorem yG:Ak X yb:=by
 intro value slice J3 s σ H x y v u Q I rx ry h hs;obtain⟨z,i,c,rfl,rfl,hz,he,q⟩:=h;obtain⟨t,rfl⟩:=rx;obtain⟨t',rfl⟩:=ry;obtain⟨j,h1,h2,h3,h4,h5⟩:=r8 he;have hl:z.cps.toList.length=z.length:=by simp[Str.length]
 rw[hl]at h1 h4 h5;have hn:=lV;exact tail_any (typeIs_str s z t) slot_str_getitem.lookup (getItem_str (c:=c) (by
  have e1:decide (i < -(2 ^ 63:Int))=false:=zzr0 (by omega);have e2:decide (i ≥ 2 ^ 63)=false:=zzr0 (by omega);rw[e1,e2,Bool.or_false]) (by rw[h1];simpa using h2) ⟨.str ⟨#[c]⟩,H,I.tok _,⟨_,rfl⟩,q⟩) hs
def o9(K:Za):R2:=fun x y H Q=>d7 K x y H Q∨rA K x y H Q∨yb x y H Q
theorem A9:Ak X (o9 X.K):=v4.or (yF.or yG)
theorem uU(its:Zf)(n j:Nat)(u:Value):nY (·.setIfInBounds j u) { cls:=.type "list",data:=.seq its.toArray n }={ cls:=.type "list",data:=.seq (its.set j u).toArray n }:=by
 simp[nY]
theorem Inv.lst{J3:Zd}{σ:St}{H:Hp}{s:Shared}{p:Addr}{xs:List V}(I:Inv X J3 σ H s)(h:H p=some (.lst xs)):
  ∃(its:Zf) (n:Nat),aI xs its/\s.heap.get? p=some { cls:=.type "list",data:=.seq its.toArray n }/\xs.length<=aj:=by
 obtain⟨z,its,n,r,e⟩:=I.hok p _ h;exact⟨its,n,r,e,z⟩
theorem Inv.lstUpd{J3:Zd}{σ:St}{H:Hp}{s:Shared}{p:Addr}{xs ys:List V}{its its':Zf}{n n':Nat}{f:Obj->Obj}(I:Inv X J3 σ H s)(h:H p=some (.lst xs))
  (ho:s.heap.get? p=some { cls:=.type "list",data:=.seq its.toArray n }) (hf:f { cls:=.type "list",data:=.seq its.toArray n }={ cls:=.type "list",data:=.seq its'.toArray n' }) (r:aI ys its') (hz:ys.length<=aj) (t:Nat) :
  Inv X J3 σ (upd H p (.lst ys)) { s with heap:=s.heap.update p f,toks:=t }:=by
 have e:(s.heap.update p f).get? p=some { cls:=.type "list",data:=.seq its'.toArray n' }:=by
  rw[Heap.get?_update_self f ho (by rw[hf]<;>rfl),hf]
 refine I.write (x:=p) (e:=p) (by rw[h];trivial) (.inl rfl) (fun b u hb q=>(Heap.get?_update_other _ _ (fJ hb)).trans q) ⟨_,e⟩ ?_;exact⟨hz,its',n',r,e⟩
def ow:V->V->V->Hp->(Hp->Prop)->Prop:=fun o i v H Q=>∃p xs k j,o=.ref p/\i=.int k/\H p=some (.lst xs)/\AA xs.length k=some j/\Q (upd H p (.lst (xs.set j v)))
theorem iR:BI X ow:=by
 intro J3 s σ H o i v ov iv u Q I ro ri rv h;obtain⟨p,xs,k,j,rfl,rfl,hp,hj,q⟩:=h;cases ro;obtain⟨t,rfl⟩:=ri;obtain⟨its,n,r,ho,hz⟩:=I.lst hp;obtain⟨h1,h2,h3,h4⟩:=v5 hj;have hl:=r.length;have hn:=lV;have I':Inv X J3 σ (upd H p (.lst (xs.set j v))) { s with heap:=s.heap.update p (nY (·.setIfInBounds j u)) } :=
  I.lstUpd hp ho (uU its n j u) (r.set rv j) (by rw[List.length_set];exact hz) s.toks
 by_cases h0:0<=k
 ·have hk:k.toNat=j:=by
   rw[seqIndex_of h0 h4]at h1;exact da h1
  exact PySem.W.ki_setAt ho h0 (by omega) (by rw[bt,<-hl];exact h4) (by rw[hk];exact⟨_,I',q⟩)
 ·have hk:(k+(its.toArray.size:Int)).toNat=j:=by
   rw[seqIndex_neg (by omega) h3]at h1;rw[bt,<-hl];exact da h1
  exact PySem.W.ki_setBack ho (by omega) (by rw[bt,<-hl];exact h3) (by omega) (by rw[hk];exact⟨_,I',q⟩)
theorem rk(lo hi:Option Int)(n:Nat):(jM lo hi none n).1=((HT.sIx n 0 lo:Nat):Int)/\(jM lo hi none n).2.1=((HT.sIx n n hi:Nat):Int)/\(jM lo hi none n).2.2=1:=by
 refine⟨?_,?_,rfl⟩
 ·cases lo with
  |none=>simp[jM,HT.sIx]
  |some i =>
   simp only[jM,HT.sIx,Option.getD_none,show(1:Int) > 0 by decide,if_true];by_cases h:i<0
   ·simp only[h,if_true]<;>omega
   ·simp only[h,if_false]<;>omega
 ·cases hi with
  |none=>simp[jM,HT.sIx]
  |some i =>
   simp only[jM,HT.sIx,Option.getD_none,show(1:Int) > 0 by decide,if_true];by_cases h:i<0
   ·simp only[h,if_true]<;>omega
   ·simp only[h,if_false]<;>omega
theorem pp(its:Zf)(lo hi:Option Int):slicePick its.toArray lo hi none=((its.drop (HT.sIx its.length 0 lo)).take (HT.sIx its.length its.length hi-HT.sIx its.length 0 lo)).toArray:=by
 obtain⟨h1,h2,h3⟩:=rk lo hi its.toArray.size;unfold slicePick;rw[h1,h2,h3];simp only[sliceRange_one,pick_run,bt]<;>rfl
def rq(K:Za):V->Option Int->Option Int->Hp->VK->Prop:=fun x lo hi H Q=>∃a xs,x=.ref a/\ay K H a xs/\∀p,H p=none->Q (.ref p) (upd H p (.lst (fE xs lo hi)))
theorem gu:SlR X (rq X.K):=by
 intro J3 s σ H x v vl vu lo hi sl Q I rx hs pl pu h;obtain⟨a,xs,rfl,hx,q⟩:=h;cases rx;obtain⟨its,r,ht,hz⟩:=I.list hx;have hlen:=r.length;refine⟨"list",_,slot_list_getitem.lookup,ht.isList.typeIs,?_⟩;refine wpAny_getItem_list_slice ht.isList hs pl pu .none (by simp) ?_ (by rw[bt]<;>omega);rw[pp,<-hlen];refine⟨.ref s.heap.objs.size,_,I.laid (t':=s.toks) (o:=.lst (fE xs lo hi)) (fun b ob q=>bY _ q) (ax _) ?_,rfl,q _ (I.hok.fresh (ax _))⟩;exact⟨aJ (tT xs lo hi) hz,_,0,(r.drop (HT.sIx xs.length 0 lo)).take (HT.sIx xs.length xs.length hi-HT.sIx xs.length 0 lo),dI _ rfl⟩
theorem rY:eg X (.builtin "len") (fun xs H Q=>∃p ys,xs=[.ref p]/\(ay X.K H p ys∨bE X.K H p ys)/\Q (.int ys.length) H):=by
 intro J3 s σ H xs us Q I r h;obtain⟨p,ys,rfl,hq,q⟩:=h;obtain⟨u,rfl,rx⟩:=vals1 r;cases rx;have hn:=lV;rcases hq with hq|hq
 ·obtain⟨its,r',pl,hz⟩:=I.list hq;have hlen:=r'.length;exact Calls.call_len_list pl.isList (by simp only[bt]<;>omega) ⟨.int ys.length,H,I.tok _,⟨s.toks+1,by rw[bt,hlen]⟩,q⟩
 ·obtain⟨its,r',pl,hz⟩:=I.tuple hq;have hlen:=r'.length;exact len_tuple pl (by simp only[bt]<;>omega) ⟨.int ys.length,H,I.tok _,⟨s.toks+1,by rw[bt,hlen]⟩,q⟩
theorem rX:eg X (.builtin "len") (fun xs H Q=>∃z,xs=[.str z]/\z.length<=aj/\Q (.int z.length) H):=by
 intro J3 s σ H xs us Q I r h;obtain⟨z,rfl,hz,q⟩:=h;obtain⟨u,rfl,t,rfl⟩:=vals1 r;have hn:=lV;exact len_str (by omega) ⟨.int z.length,H,I.tok _,⟨_,rfl⟩,q⟩
theorem eg.or{f:Value}{r r':List V->Hp->VK->Prop}(h:eg X f r)(h':eg X f r'):eg X f (fun xs H Q=>r xs H Q∨r' xs H Q):=by
 intro J3 s σ H xs us Q I rs q;rcases q with q|q
 ·exact h J3 s σ H xs us Q I rs q
 ·exact h' J3 s σ H xs us Q I rs q
theorem rW:eg X (.type "list") (fun xs H Q=>∃p ys,xs=[.ref p]/\(ay X.K H p ys∨bE X.K H p ys)/\∀l,H l=none->Q (.ref l) (upd H l (.lst ys))):=by
 intro J3 s σ H xs us Q I r h;obtain⟨p,ys,rfl,hq,q⟩:=h;obtain⟨u,rfl,rx⟩:=vals1 r;cases rx;have fin:∀(its:Zf),aI ys its->ys.length<=aj->∀(h':Heap) (c':Nat),(∀b o',s.heap.get? b=some o'->h'.get? b=some o') ->
   h'.get? s.heap.objs.size=some { cls:=.type "list",dict:=none,data:=.seq its.toArray c',slots:=#[] }->EP X J3 σ Q (.ref s.heap.objs.size) { s with heap:=h' }:=fun its r' hz h' c' kp e =>
  ⟨.ref s.heap.objs.size,_,I.laid (t':=s.toks) kp (ax _) (show bw X.prog X.w X.K _ h' _ (.lst ys)from⟨hz,its,c',r',e⟩),rfl,q _ (I.hok.fresh (ax _))⟩
 rcases hq with hq|hq
 ·obtain⟨its,r',pl,hz⟩:=I.list hq;have hlen:=r'.length;obtain⟨o,ho,hc,n,hd⟩:=pl.isList;exact call_list_seq p (.inl rfl) ho hc hd (fun h' c' kp e=>fin its r' hz h' c' kp e) (by simp only[bt]<;>omega)
 ·obtain⟨its,r',pl,hz⟩:=I.tuple hq;have hlen:=r'.length;obtain⟨o,ho,hc,n,hd⟩:=pl;exact call_list_seq p (.inr rfl) ho hc hd (fun h' c' kp e=>fin its r' hz h' c' kp e) (by simp only[bt]<;>omega)
theorem dh:eg X (.type "tuple") (fun xs H Q=>∃p ys,xs=[.ref p]/\((ay X.K H p ys/\∀l,H l=none->Q (.ref l) (upd H l (.tup ys)))∨(bE X.K H p ys/\Q (.ref p) H))):=by
 intro J3 s σ H xs us Q I r h;obtain⟨p,ys,rfl,h⟩:=h;obtain⟨u,rfl,rx⟩:=vals1 r;cases rx;rcases h with⟨hq,q⟩|⟨hq,q⟩
 ·obtain⟨its,r',pl,hz⟩:=I.list hq;have hlen:=r'.length;refine call_tuple_list pl.isList (fun h' kp=>?_) (by simp only[bt]<;>omega);have I1:Inv X J3 σ H { s with heap:=h' }:=I.kept (t':=s.toks) kp;have I2:Inv X J3 σ (upd H h'.objs.size (.tup ys)) { s with heap:=h'.push { cls:=.type "tuple",data:=.seq its.toArray } } :=
   I1.laid (t':=s.toks) (fun b o e=>bY _ e) (ax _) (show bw X.prog X.w X.K _ _ _ (.tup ys)from⟨hz,its,r',IsTup.new _ _⟩)
  exact⟨.ref h'.objs.size,_,I2,rfl,q _ (I1.hok.fresh (ax _))⟩
 ·obtain⟨its,r',pl,hz⟩:=I.tuple hq;exact call_tuple_same pl ⟨.ref p,H,I,rfl,q⟩
def tyV(K:Za)(T:String)(x:V)(H:Hp):Prop:=match x with
 |.str _=>T="str"
 |.int _=>T="int"
 |.ref p=>(T="list"/\∃xs,ay K H p xs)∨(T="tuple"/\∃o,K.lookup p=some o/\o.cls=.type "tuple"/\o.dict=none) ∨
   (T="dict"/\((∃kvs,H p=some (.dK kvs))∨∃kvs,H p=some (.dT kvs)))∨(T="set"/\∃S n,H p=some (.set S n))
 |_=>False
theorem xH{J3:Zd}{σ:St}{H:Hp}{s:Shared}{T:String}{x:V}{v:Value}(I:Inv X J3 σ H s)(r:RelV x v)(ty:tyV X.K T x H):
  s.TypeIs v T/\∀a,v=.ref a->∃ob,s.heap.get? a=some ob/\ob.dict=none:=by
 cases x with
 |str z =>
  obtain⟨t,rfl⟩:=r;cases(show T="str" from ty);exact⟨typeIs_str s z t,fun _ e=>nomatch e⟩
 |int i =>
  obtain⟨t,rfl⟩:=r;cases(show T="int" from ty);exact⟨typeIs_int s i t,fun _ e=>nomatch e⟩
 |ref p =>
  cases r;rcases ty with⟨rfl,xs,hq⟩|⟨rfl,o,hk,hc,hd⟩|⟨rfl,hk⟩|⟨rfl,S,n,hk⟩
  ·obtain⟨its,_,pl,_⟩:=I.list hq;refine⟨pl.isList.typeIs,fun a e=>?_⟩;cases e;obtain⟨o,n,e,c,hd,_⟩:=pl;exact⟨o,e,hd⟩
  ·refine⟨⟨o,I.kIn p o hk,hc⟩,fun a e=>?_⟩;cases e;exact⟨o,I.kIn _ o hk,hd⟩
  ·have z:∃o,s.heap.get? p=some o/\o.ExactDict:=by
    rcases hk with⟨kvs,hk⟩|⟨kvs,hk⟩
    ·obtain⟨_,_,_,_,o,_,_,e,ex,_⟩:=I.hok p _ hk;exact⟨o,e,ex⟩
    ·obtain⟨_,_,_,_,o,_,_,e,ex,_⟩:=I.hok p _ hk;exact⟨o,e,ex⟩
   obtain⟨o,e,ex⟩:=z;refine⟨⟨o,e,ex.1⟩,fun a e2=>?_⟩;cases e2;exact⟨o,e,ex.2.1⟩
  ·obtain⟨o,_,_,_,e,ex,_⟩:=I.hok p _ hk;refine⟨⟨o,e,ex.1⟩,fun a e2=>?_⟩;cases e2;exact⟨o,e,ex.2.1⟩
 |_=>exact gO ty
def Bo(K:Za)(T:String)(r:V->List V->Hp->VK->Prop)(to:TE):TE:=fun σ H Q=>to σ H fun x H1=>tyV K T x H1/\r x [] H1 Q
def xz(K:Za)(T:String)(r:V->List V->Hp->VK->Prop)(to:TE)(t:TA):TE:=fun σ H Q=>to σ H fun x H1=>tyV K T x H1/\t σ H1 fun xs H2=>r x xs H2 Q
variable{o e:Expr}{es:List Expr}{to:TE}{t:TA}{name:Str}{J5 J4:Pos}{T id:String}{r:V->List V->Hp->VK->Prop}
theorem A5(pa:PlainAttrs T)(slot:Slot T name id)(hty:typeOf (.builtin id)=pure (.type "method_descriptor"))(hm:MtR X id r)(ho:PE X o to)
  (hbase:pL o name X.env (eval o X.env)=eval o X.env:=by rfl) (hline:(J5.endLine==J4.line)=true:=by rfl):PE X (.Call (.Attribute o name J5) [] [] J4) (Bo X.K T r to):=by
 intro J3 s σ H Q I h;refine wpAny_Call_method0_late hbase hline (bO (ho J3 s σ H _ I h) fun v s1 ⟨x,H1,I1,r1,ty,q1⟩=>?_);obtain⟨h1,h2⟩:=xH I1 r1 ty;exact⟨T,id,pa,slot,hty,h1,h2,qI rfl (PySem.evalArgs_none (hm J3 s1 σ H1 x [] v [] Q I1 r1 .nil q1))⟩
theorem iU(pa:PlainAttrs T)(slot:Slot T name id)(hty:typeOf (.builtin id)=pure (.type "method_descriptor"))(hm:MtR X id r)(ho:PE X o to)(ha:PA X (e::es) t)
  (hbase:pL o name X.env (eval o X.env)=eval o X.env:=by rfl)
  (hfew:((backTo J4 (aw (e::es) X.env)).all (fun x=>!x.1) && (kq J4 (ko [] X.env)).all (fun x=>x.1.isSome)
   && decide ((e::es).length+([]:List lC).length+(if([]:List lC).isEmpty then 0 else 1)<30))=true:=by rfl)
  (hline:(J5.endLine==J4.line)=true:=by rfl) (hs:aw (e::es) X.env=(false,eval e X.env)::aw es X.env:=by rfl) (hplain:(backTo J4 (aw es X.env)).any (·.1)=false:=by rfl) :
  PE X (.Call (.Attribute o name J5) (e::es) [] J4) (xz X.K T r to t):=by
 intro J3 s σ H Q I h;refine wpAny_Call_method_late hbase hfew hline rfl (bO (ho J3 s σ H _ I h) fun v s1 ⟨x,H1,I1,r1,ty,q1⟩=>?_);obtain⟨h1,h2⟩:=xH I1 r1 ty;refine⟨T,id,pa,slot,hty,h1,h2,?_⟩;have hA:=ha J4 J3 s1 σ H1 _ I1 q1;rw[hs]at hA ⊢;refine qI (by show(false || (backTo J4 (aw es X.env)).any (·.1))=false;rw[hplain]<;>rfl) (Calls.evalArgs_plain ?_);exact bO hA fun us s2 ⟨vs,H2,I2,r2,q2⟩=>hm J3 s2 σ H2 x vs v us Q I2 r1 r2 q2
end
end L2
namespace L2
open PySem PySem.Spec PyProof.Rows
def BL(X:Cx)(id:String)(r:V->List V->Hp->VK->Prop):Prop :=
 ∀(J3:Zd) (s:Shared) (σ:St) (H:Hp) (x:V) (xs:List V) (v:Value) (us:Zf) (Q:VK),Inv X J3 σ H s->RelV x v->aI xs us->r x xs H Q ->
  wpAny (model X.prog X.w) X.A (call (.builtin id) (v::us)) (EP X J3 σ Q) X.xe s
theorem aI.one:∀{x:V}{us:Zf},aI [x] us->∃u,us=[u]/\RelV x u
 |_,_,.cons r .nil=>⟨_,rfl,r⟩
theorem aI.two:∀{x y:V}{us:Zf},aI [x,y] us->∃u v,us=[u,v]/\RelV x u/\RelV y v
 |_,_,_,.cons r (.cons q .nil)=>⟨_,_,rfl,r,q⟩
theorem aI.zero:∀{us:Zf},aI [] us->us=[]
 |_,.nil=>rfl
theorem aI.dropLast{xs:List V}{us:Zf}(h:aI xs us):aI xs.dropLast us.dropLast:=by
 induction h with
 |nil=>exact .nil
 |cons r t ih =>
  cases t with
  |nil=>exact .nil
  |cons q t'=>exact .cons r ih
theorem u5{α:Type}(l:List α):l.eraseIdx (l.length-1)=l.dropLast:=by
 induction l with
 |nil=>rfl
 |cons a r ih =>
  cases r with
  |nil=>rfl
  |cons b r =>
   have e:(a::b::r).length-1=((b::r).length-1)+1:=by
    have h1:(a::b::r).length=r.length+2:=rfl;have h2:(b::r).length=r.length+1:=rfl;omega
   rw[e,List.eraseIdx_cons_succ,ih]
   all_goals rfl
section
variable{X:Cx}{J3:Zd}{σ:St}{H:Hp}{s:Shared}{l b:Addr}{xs ys zs:List V}
theorem Inv.lset{its its':Zf}{n:Nat}{f:Array Value->Array Value}{t':Nat}(I:Inv X J3 σ H s)(hH:H l=some (.lst xs))
  (e:s.heap.get? l=some { cls:=.type "list",data:=.seq its.toArray n }) (hf:f its.toArray=its'.toArray) (hv:aI ys its') (hz:ys.length<=aj) :
  Inv X J3 σ (upd H l (.lst ys)) { s with heap:=s.heap.update l (nY f),toks:=t' }:=by
 have q:=PySem.IsL.update e f;rw[hf]at q;refine I.write (x:=l) (e:=l) (by rw[hH];exact trivial) (.inl rfl) (fun b' u hb hu=>(Heap.get?_update_other s.heap (nY f) (fJ hb)).trans hu) ⟨_,q⟩ ?_;exact⟨hz,its',_,hv,q⟩
theorem Inv.lnew{its:Zf}{t':Nat}(I:Inv X J3 σ H s)(hv:aI ys its)(hz:ys.length<=aj):
  Inv X J3 σ (upd H s.heap.objs.size (.lst ys)) { s with heap:=s.heap.push { cls:=.type "list",data:=.seq its.toArray },toks:=t' } :=
 I.laid (fun _ _ q=>bY _ q) (ax _) ⟨hz,its,0,hv,dI _ rfl⟩
theorem Inv.fresh(I:Inv X J3 σ H s):H s.heap.objs.size=none:=I.hok.fresh (ax _)
theorem Inv.lstM(I:Inv X J3 σ H s)(hH:H l=some (.lst xs)):xs.length<=aj/\∃(its:Zf) (n:Nat),aI xs its/\xs.length=its.length/\s.heap.get? l=some { cls:=.type "list",data:=.seq its.toArray n }:=by
 obtain⟨z,its,n,r,e⟩:=I.hok l _ hH;exact⟨z,its,n,r,r.length,e⟩
theorem yu{n:Nat}(h:n<=aj):cI.List.listTooLong n=false:=by
 unfold cI.List.listTooLong;exact zzr0 (by omega)
end
section
variable{X:Cx}
def fz:V->List V->Hp->VK->Prop:=fun x vs H Q=>∃l xs y,x=.ref l/\vs=[y]/\H l=some (.lst xs)/\xs.length<aj/\Q .non (upd H l (.lst (xs++[y])))
theorem cW:BL X "list.append" fz:=by
 intro J3 s σ H x vs v us Q I rx rv h;obtain⟨l,xs,y,rfl,rfl,hH,hz,q⟩:=h;cases rx;obtain⟨u,rfl,ru⟩:=rv.one;obtain⟨z,its,n,r,hl,e⟩:=I.lstM hH;refine qH F.slot_list_append ⟨_,e,rfl⟩ F.entry_list_append (F.args_list_append_2 _ _) (PySem.list_append l its.toArray n u (by rw[bt];omega)) ⟨e,?_⟩;refine⟨.non,_,I.lset (its':=its++[u]) hH e (by simp) (r.append (.cons ru .nil)) ?_,rfl,q⟩;rw[bf,List.length_singleton];omega
def vN:V->List V->Hp->VK->Prop:=fun x vs H Q=>∃l b xs zs,x=.ref l/\vs=[.ref b]/\H l=some (.lst xs)/\H b=some (.lst zs)/\xs.length+zs.length<=aj/\Q .non (upd H l (.lst (xs++zs)))
theorem wU:BL X "list.extend" vN:=by
 intro J3 s σ H x vs v us Q I rx rv h;obtain⟨l,b,xs,zs,rfl,rfl,hH,hB,hz,q⟩:=h;cases rx;obtain⟨u,rfl,ru⟩:=rv.one;cases ru;obtain⟨z,its,n,r,hl,e⟩:=I.lstM hH;obtain⟨z2,its2,n2,r2,hl2,e2⟩:=I.lstM hB;have hsz:its.toArray.size+its2.toArray.size<=aj:=by rw[bt,bt];omega
 have hlong:¬(!its.toArray.isEmpty && cI.List.listTooLong (its.toArray.size+its2.toArray.size))=true:=by
  rw[yu hsz,Bool.and_false];exact fI
 refine qH F.slot_list_extend ⟨_,e,rfl⟩ F.entry_list_extend (F.args_list_extend_2 _ _)
  (AutoSeq1.list_extend_list_list_0 l its.toArray n b its2.toArray n2 hlong (by rw[bt];omega) (by omega)) ⟨e,e2,?_⟩
 refine⟨.non,_,I.lset (its':=its++its2) hH e (by simp) (r.append r2) ?_,rfl,q⟩;rw[bf];omega
def Bq:V->List V->Hp->VK->Prop:=fun x vs H Q=>∃l xs y,x=.ref l/\vs=[]/\H l=some (.lst xs)/\xs[xs.length-1]?=some y/\Q y (upd H l (.lst xs.dropLast))
theorem A6:BL X "list.pop" Bq:=by
 intro J3 s σ H x vs v us Q I rx rv h;obtain⟨l,xs,y,rfl,rfl,hH,hy,q⟩:=h;cases rx;have hus:=rv.zero;subst hus;obtain⟨z,its,n,r,hl,e⟩:=I.lstM hH;obtain⟨u,hu,ru⟩:=r.get hy;have hy':its.toArray[its.toArray.size-1]?=some u:=by
  show its.toArray[its.length-1]?=some u;rw[<-Array.getElem?_toList,<-hl];exact hu
 refine qH F.slot_list_pop ⟨_,e,rfl⟩ F.entry_list_pop (F.args_list_pop_1 _) (MeetsSeq.list_pop_last l its.toArray n u hy' (by rw[bt];omega)) ⟨e,?_⟩;refine⟨y,_,I.lset (its':=its.dropLast) hH e ?_ r.dropLast ?_,ru,q⟩
 ·show its.toArray.eraseIdxIfInBounds (its.toArray.size-1)=its.dropLast.toArray;rw[bt,List.eraseIdxIfInBounds_toArray,u5]
 ·rw[List.length_dropLast];omega
def j3:R2:=fun x y H Q=>∃l b xs zs,x=.ref l/\y=.ref b/\H l=some (.lst xs)/\H b=some (.lst zs)/\xs.length+zs.length<=aj/\∀p,H p=none->Q (.ref p) (upd H p (.lst (xs++zs)))
theorem fZ:ka X (jC .Add) j3:=by
 intro J3 s σ H x y v u Q I rx ry h;obtain⟨l,b,xs,zs,rfl,rfl,hH,hB,hz,q⟩:=h;cases rx;cases ry;obtain⟨z,its,n,r,hl,e⟩:=I.lstM hH;obtain⟨z2,its2,n2,r2,hl2,e2⟩:=I.lstM hB;refine PySem.P.add_list e e2 ?_ (by rw[bt,bt];omega);have ea:its.toArray++its2.toArray=(its++its2).toArray:=by simp
 rw[ea];exact⟨.ref _,_,I.lnew (t':=s.toks) (r.append r2) (by rw[bf];omega),rfl,q _ I.fresh⟩
end
end L2
namespace L2
open PySem PySem.Spec PyProof.Rows
section
variable{κ:Type}[DecidableEq κ]
def aR(kvs:List (κ×V))(k:κ):Option V:=(kvs.find? fun kv=>decide (kv.1=k)).map (·.2)
def cr(kvs:List (κ×V))(k:κ)(v:V):List (κ×V) :=
 if(kvs.any fun kv=>decide (kv.1=k))=true then kvs.map (fun kv=>if kv.1=k then(kv.1,v)else kv)else kvs++[(k,v)]
theorem cb{p:κ×V}{r:List (κ×V)}{k:κ}(e:p.1=k):aR (p::r) k=some p.2:=by simp[aR,lA,e]
theorem bU{p:κ×V}{r:List (κ×V)}{k:κ}(e:¬p.1=k):aR (p::r) k=aR r k:=by simp[aR,lA,e]
theorem gQ(k:κ):∀kvs:List (κ×V),(kvs.any fun kv=>decide (kv.1=k))=(aR kvs k).isSome
 |[]=>rfl
 |p::r=>by
  rw[qG];by_cases e:p.1=k
  ·simp only[cb e,zzr1 e,Bool.true_or,Option.isSome_some]
  ·rw[bU e,zzr0 e,Bool.false_or];exact gQ k r
theorem sI(k j:κ)(y:V):∀kvs:List (κ×V),aR (kvs.map fun kv=>if kv.1=k then(kv.1,y)else kv) j=(aR kvs j).map fun x=>if j=k then y else x
 |[]=>rfl
 |p::r=>by
  have ih:=sI k j y r;rw[a_];by_cases h:p.1=k
  ·rw[if_pos h];by_cases e:p.1=j
   ·rw[cb (p:=(p.1,y)) e,cb e,nX,if_pos (e.symm.trans h)]
   ·rw[bU (p:=(p.1,y)) e,bU e,ih]
  ·rw[if_neg h];by_cases e:p.1=j
   ·rw[cb (p:=p) e,cb e,nX,if_neg (fun z=>h (e.trans z))]
   ·rw[bU (p:=p) e,bU e,ih]
theorem pQ(k j:κ)(y:V):∀kvs:List (κ×V),aR kvs k=none->aR (kvs++[(k,y)]) j=if j=k then some y else aR kvs j
 |[],_=>by
  by_cases e:k=j
  ·rw[if_pos e.symm];exact cb (p:=(k,y)) e
  ·rw[if_neg (fun z=>e z.symm)];exact bU (p:=(k,y)) e
 |p::r,hn=>by
  rw[List.cons_append];have hk:¬p.1=k:=fun z=>by rw[cb z]at hn;cases hn
  rw[bU hk]at hn;have ih:=pQ k j y r hn;by_cases e:p.1=j
  ·rw[cb e,cb e,if_neg (fun z=>hk (e.trans z))]
  ·rw[bU e,bU e,ih]
theorem fR(kvs:List (κ×V))(k j:κ)(y:V):aR (cr kvs k y) j=if j=k then some y else aR kvs j:=by
 unfold cr;by_cases a:(kvs.any fun kv=>decide (kv.1=k))=true
 ·rw[if_pos a,sI];rw[gQ]at a;by_cases e:j=k
  ·obtain⟨x,hx⟩:=vq.mp a;rw[if_pos e,e,hx,nX,if_pos rfl]
  ·rw[if_neg e];cases aR kvs j with
   |none=>rfl
   |some x=>rw[nX,if_neg e]
 ·rw[if_neg a];refine pQ k j y kvs ?_;rw[gQ]at a;cases q:aR kvs k with
  |none=>rfl
  |some x=>rw[q]at a;exact(a rfl).elim
theorem dF(kvs:List (κ×V))(k:κ)(v:V):(cr kvs k v).length<=kvs.length+1:=by
 unfold cr;split
 ·rw[ai];omega
 ·rw[bf,d_,List.length_nil];omega
theorem fW{kvs:List (κ×V)}{k:κ}(v:V)(h:aR kvs k=none):cr kvs k v=kvs++[(k,v)]:=by
 unfold cr;rw[gQ,h];exact if_neg (by decide)
theorem iA.isSome_eq{o:Option V}{u:Option Value}(r:iA o u):o.isSome=u.isSome:=by
 cases o with
 |none=>cases u with
  |none=>rfl
  |some _=>exact(show False from r).elim
 |some _=>cases u with
  |none=>exact(show False from r).elim
  |some _=>rfl
theorem iA.getD{o:Option V}{u:Option Value}{d:V}{d':Value}(r:iA o u)(rd:RelV d d'):RelV (o.getD d) (u.getD d'):=by
 cases o with
 |none=>cases u with
  |none=>exact rd
  |some _=>exact(show False from r).elim
 |some _=>cases u with
  |none=>exact(show False from r).elim
  |some _=>exact r
theorem KV.val{kvs:List (κ×V)}{vs:List (κ×Value)}(r:KV kvs vs)(k:κ):iA (aR kvs k) (jL vs k):=by
 unfold KV at r
 induction r with
 |nil=>exact gM
 |@cons p q ps qs h t ih =>
  obtain⟨h1,h2⟩:=h;by_cases e:p.1=k
  ·have e':q.1=k:=h1.symm.trans e;have b:jL (q::qs) k=some q.2:=by simp[jL,lA,e']
   rw[cb e,b];exact h2
  ·have e':¬q.1=k:=fun z=>e (h1.trans z);have b:jL (q::qs) k=jL qs k:=by simp[jL,lA,e']
   rw[bU e,b];exact ih
theorem KV.any{kvs:List (κ×V)}{vs:List (κ×Value)}(r:KV kvs vs)(k:κ):(kvs.any fun kv=>decide (kv.1=k))=vs.any fun kv=>decide (kv.1=k):=by
 unfold KV at r
 induction r with
 |nil=>rfl
 |cons h t ih=>rw[qG,qG,ih,h.1]
theorem KV.repl{kvs:List (κ×V)}{vs:List (κ×Value)}(r:KV kvs vs)(k:κ){y:V}{u:Value}(ry:RelV y u):
  KV (kvs.map fun kv=>if kv.1=k then(kv.1,y)else kv) (vs.map fun kv=>if kv.1=k then(kv.1,u)else kv):=by
 unfold KV at r ⊢
 induction r with
 |nil=>exact .nil
 |@cons p q ps qs h t ih =>
  rw[a_,a_];refine .cons ?_ ih;obtain⟨h1,h2⟩:=h;by_cases e:p.1=k
  ·rw[if_pos e,if_pos (h1.symm.trans e)];exact⟨h1,ry⟩
  ·rw[if_neg e,if_neg (fun z=>e (h1.trans z))];exact⟨h1,h2⟩
theorem KV.put{kvs:List (κ×V)}{vs:List (κ×Value)}(r:KV kvs vs)(k:κ){y:V}{u:Value}(ry:RelV y u):KV (cr kvs k y) (stored vs k u):=by
 unfold cr stored;rw[r.any k];by_cases e:(vs.any fun kv=>decide (kv.1=k))=true
 ·rw[if_pos e,if_pos e];exact r.repl k ry
 ·rw[if_neg e,if_neg e];exact hC r ⟨rfl,ry⟩
theorem KV.length{kvs:List (κ×V)}{vs:List (κ×Value)}(r:KV kvs vs):kvs.length=vs.length:=Paired.length r
end
theorem k9{P:bj}{w:World}{k:di}{u:Value}(r:RelV (kV k) u):(bx P w).is k u=true:=by
 cases k with
 |inl i=>obtain⟨t,e⟩:=(show ∃t,u=Value.int i t from r);subst e;exact tI P w i t
 |inr x=>obtain⟨t,e⟩:=(show ∃t,u=Value.str x t from r);subst e;exact tH P w x t
theorem rQ:∀{k:ki}{u:Value},RelV (Az k) u->f6 k u=true
 |none,u,r=>by cases(show u=Value.none from r);rfl
 |some (.inl i),u,r=>by obtain⟨t,rfl⟩:=r;exact jo i t
 |some (.inr x),u,r=>by obtain⟨t,rfl⟩:=r;exact jn x t
abbrev KT(K:Za)(H:Hp):List (TK×V)->List (TK×Addr×Value)->Prop:=Paired fun p q=>p.1=q.1/\mI K H p.1 (.ref q.2.1)/\p.1.depth<=8/\RelV p.2 q.2.2
theorem KT.val{K:Za}{H:Hp}{kvs:List (TK×V)}{xs:List (TK×Addr×Value)}(r:KT K H kvs xs)(k:TK):iA (aR kvs k) ((atKey xs k).map (·.2)):=by
 induction r with
 |nil=>exact gM
 |@cons p q ps qs h t ih =>
  obtain⟨h1,_,_,h2⟩:=h;by_cases e:p.1=k
  ·have e':q.1=k:=h1.symm.trans e;have b:atKey (q::qs) k=some q.2:=by simp[atKey,lA,e']
   rw[cb e,b];exact h2
  ·have e':¬q.1=k:=fun z=>e (h1.trans z);have b:atKey (q::qs) k=atKey qs k:=by simp[atKey,lA,e']
   rw[bU e,b];exact ih
theorem KT.repl{K:Za}{H:Hp}{kvs:List (TK×V)}{xs:List (TK×Addr×Value)}(r:KT K H kvs xs)(k:TK){y:V}{u:Value}(ry:RelV y u):
  KT K H (kvs.map fun kv=>if kv.1=k then(kv.1,y)else kv) (xs.map (putAt k u)):=by
 induction r with
 |nil=>exact .nil
 |@cons p q ps qs h t ih =>
  rw[a_,a_];refine .cons ?_ ih;obtain⟨h1,h2,h3⟩:=h;unfold putAt;by_cases e:p.1=k
  ·rw[if_pos e,if_pos (h1.symm.trans e)];exact⟨h1,h2,h3.1,ry⟩
  ·rw[if_neg e,if_neg (fun z=>e (h1.trans z))];exact⟨h1,h2,h3⟩
theorem KT.put{K:Za}{H:Hp}{kvs:List (TK×V)}{xs:List (TK×Addr×Value)}(r:KT K H kvs xs)(k:TK){b:Addr}{y:V}{u:Value}(hb:mI K H k (.ref b))(h8:k.depth<=8)(ry:RelV y u):
  KT K H (cr kvs k y) (storedH xs k b u):=by
 have e:(kvs.any fun kv=>decide (kv.1=k))=(atKey xs k).isSome:=by
  rw[gQ,(r.val k).isSome_eq,Option.isSome_map]
 unfold cr storedH;rw[e];by_cases q:(atKey xs k).isSome=true
 ·rw[if_pos q,if_pos q];exact r.repl k ry
 ·rw[if_neg q,if_neg q];exact hC r ⟨rfl,hb,h8,ry⟩
theorem KT.keeps{K:Za}{H H':Hp}{kvs:List (TK×V)}{xs:List (TK×Addr×Value)}(r:KT K H kvs xs)(ht:∀b ys,H b=some (.tup ys)->H' b=some (.tup ys)):KT K H' kvs xs :=
 Paired.mapP r fun _ _ z=>⟨z.1,mI.keeps ht 8 z.2.2.1 z.2.1,z.2.2⟩
section
variable{P:bj}{w:World}{K:Za}{H:Hp}{h:Heap}{a:Addr}
theorem Ap{u:HO}(ok:jt P w K H h)(e:Rd H a u):bw P w K H h a u:=e.ok ok
theorem lc{kvs:List (di×V)}(ok:jt P w K H h)(e:Rd H a (.dK kvs)):kvs.length<=aj/\(a==fk)=false/\∃vs,KV kvs vs/\h.DictOf (bx P w) a vs :=
 show bw P w K H h a (.dK kvs)from Ap ok e
theorem BG{kvs:List (di×V)}(ok:jt P w K H h)(e:H a=some (.dK kvs)):kvs.length<=aj/\(a==fk)=false/\∃vs,KV kvs vs/\h.DictOf (bx P w) a vs:=lc ok (.inl e)
theorem AK(ok:jt P w K H h)(kin:K.In h):∀(d:Nat) {k:TK}{v:V}{u:Value},k.depth<=d->mI K H k v->RelV v u->jB h k u:=by
 have key:∀(d:Nat) (ih:∀{k:TK}{v:V}{u:Value},k.depth<=d->mI K H k v->RelV v u->jB h k u) (ks:List TK) (vs:List V) (us:Zf),TK.depths ks<=d->TKCs K H ks vs->aI vs us->TAts h ks us:=by
  intro d ih ks
  induction ks with
  |nil =>
   intro vs us _ hx r;have e:vs=[]:=hx;subst e;cases r
   rfl
  |cons k ks ihl =>
   intro vs us hd hx r;obtain⟨v,vs',rfl,h1,h2⟩:=hx;cases r with
   |@cons _ u _ us' r1 r2 =>
    have hd':max k.depth (TK.depths ks)<=d:=hd;exact⟨u,us',rfl,ih (by omega) h1 r1,ihl vs' us' (by omega) h2 r2⟩
 intro d
 induction d with
 |zero =>
  intro k v u hd hx r;cases k with
  |t l=>exact absurd hd (by show ¬(TK.depths l+1<=0);omega)
  |k b =>
   have e:v=Az b:=hx;subst e;exact rQ r
 |succ d ih =>
  intro k v u hd hx r;cases k with
  |k b =>
   have e:v=Az b:=hx;subst e;exact rQ r
  |t l =>
   obtain⟨b,xs,rfl,hb,hi⟩:=hx;cases(show u=Value.ref b from r);obtain⟨its,rv,ob,h1,h2,n,h3⟩:∃its:List Value,aI xs its/\IsTup h b its.toArray:=by
    rcases hb with hb|⟨o,its,n,hk,hc,hs,hz,r⟩
    ·obtain⟨_,its,rv,p⟩:=(show bw P w K H h b (.tup xs)from ok b _ hb);exact⟨its,rv,p⟩
    ·exact⟨its.toList,r,o,kin b o hk,hc,n,by simpa using hs⟩
   exact⟨b,ob,its.toArray,n,rfl,h1,h2,h3,by simpa using key d (fun h1=>ih h1) l xs its (by have:TK.depths l+1<=d+1:=hd;omega) hi rv⟩
theorem rN{k:TK}(ok:jt P w K H h)(kin:K.In h)(e:mI K H k (.ref a))(h8:k.depth<=8):(cN P w).is h k a:=⟨AK ok kin 8 h8 e rfl,h8⟩
theorem mE{kvs:List (TK×V)}(ok:jt P w K H h)(kin:K.In h)(e:Rd H a (.dT kvs)):kvs.length<=aj/\(a==fk)=false /\
  ∃xs,KT K H kvs xs/\h.DictOfH (cN P w) a xs:=by
 obtain⟨z,y,xs,r,o,es,ep,h1,h2,h3,h4,h5⟩:=(show bw P w K H h a (.dT kvs)from Ap ok e);refine⟨z,y,xs,r,o,es,ep,h1,h2,h3,h4,fun x hx=>?_,h5⟩;have all:∀{l:List (TK×V)}{m:List (TK×Addr×Value)},KT K H l m->∀x∈m,(cN P w).is h x.1 x.2.1:=by
  intro l m q
  induction q with
  |nil=>intro x hx;exact nomatch hx
  |@cons p q ps qs hq t ih =>
   intro x hx;rcases c_.mp hx with e|hx
   ·subst e;exact rN ok kin (by rw[<-hq.1];exact hq.2.1) (by rw[<-hq.1];exact hq.2.2.1)
   ·exact ih x hx
 exact all r x hx
theorem yQ{kvs:List (TK×V)}(ok:jt P w K H h)(kin:K.In h)(e:H a=some (.dT kvs)):kvs.length<=aj/\(a==fk)=false /\
  ∃xs,KT K H kvs xs/\h.DictOfH (cN P w) a xs:=mE ok kin (.inl e)
end
mutual
def jA(K:Za)(H:Hp):TK->V->Prop
 |.k a,v=>v=Az a
 |.t l,v=>∃b xs,v=.ref b/\bE K H b xs/\TKIns K H l xs
def TKIns(K:Za)(H:Hp):List TK->List V->Prop
 |[],vs=>vs=[]
 |k::r,vs=>∃v us,vs=v::us/\jA K H k v/\TKIns K H r us
end
theorem cC.isIn{K:Za}{H:Hp}:∀(d:Nat) {k:TK}{v:V},k.depth<=d->cC H k v->jA K H k v:=by
 have key:∀(d:Nat) (ih:∀{k:TK}{v:V},k.depth<=d->cC H k v->jA K H k v) (xs:List TK) (vs:List V),TK.depths xs<=d->TKAts H xs vs->TKIns K H xs vs:=by
  intro d ih xs
  induction xs with
  |nil=>intro vs _ hx;exact hx
  |cons x xs ihl =>
   intro vs hd hx;obtain⟨v,us,rfl,hx1,hx2⟩:=hx;have hd':max x.depth (TK.depths xs)<=d:=hd;exact⟨v,us,rfl,ih (by omega) hx1,ihl us (by omega) hx2⟩
 intro d
 induction d with
 |zero =>
  intro k v hd hx;cases k with
  |t l=>exact absurd hd (by show ¬(TK.depths l+1<=0);omega)
  |k a=>exact hx
 |succ d ih =>
  intro k v hd hx;cases k with
  |k a=>exact hx
  |t l =>
   obtain⟨b,xs,rfl,hb,hi⟩:=hx;exact⟨b,xs,rfl,bE.of hb,key d (fun h1=>ih h1) l xs (by have:TK.depths l+1<=d+1:=hd;omega) hi⟩
theorem zp{X:Cx}{J3:Zd}{σ:St}{H:Hp}{s:Shared}(I:Inv X J3 σ H s):∀(d:Nat) {k:TK}{v:V}{u:Value},k.depth<=d->jA X.K H k v->RelV v u->jB s.heap k u:=by
 have key:∀(d:Nat) (ih:∀{k:TK}{v:V}{u:Value},k.depth<=d->jA X.K H k v->RelV v u->jB s.heap k u) (ks:List TK) (vs:List V) (us:Zf),TK.depths ks<=d->TKIns X.K H ks vs->aI vs us->TAts s.heap ks us:=by
  intro d ih ks
  induction ks with
  |nil =>
   intro vs us _ hx r;have e:vs=[]:=hx;subst e;cases r
   rfl
  |cons k ks ihl =>
   intro vs us hd hx r;obtain⟨v,vs',rfl,h1,h2⟩:=hx;cases r with
   |@cons _ u _ us' r1 r2 =>
    have hd':max k.depth (TK.depths ks)<=d:=hd;exact⟨u,us',rfl,ih (by omega) h1 r1,ihl vs' us' (by omega) h2 r2⟩
 intro d
 induction d with
 |zero =>
  intro k v u hd hx r;cases k with
  |t l=>exact absurd hd (by show ¬(TK.depths l+1<=0);omega)
  |k b =>
   have e:v=Az b:=hx;subst e;exact rQ r
 |succ d ih =>
  intro k v u hd hx r;cases k with
  |k b =>
   have e:v=Az b:=hx;subst e;exact rQ r
  |t l =>
   obtain⟨b,xs,rfl,hb,hi⟩:=hx;cases(show u=Value.ref b from r);obtain⟨its,rv,⟨ob,h1,h2,n,h3⟩,_⟩:=I.tuple hb;exact⟨b,ob,its.toArray,n,rfl,h1,h2,h3,by simpa using key d (fun h1=>ih h1) l xs its (by have:TK.depths l+1<=d+1:=hd;omega) hi rv⟩
theorem oM{X:Cx}{J3:Zd}{σ:St}{H:Hp}{s:Shared}{k:TK}{b:Addr}(I:Inv X J3 σ H s)(e:jA X.K H k (.ref b))(h8:k.depth<=8):(cN X.prog X.w).is s.heap k b:=⟨zp I 8 h8 e rfl,h8⟩
theorem dD{P:bj}{w:World}{A:Around}(hu:A.units+16<cLine):(cN P w).room A.in1:=by
 show A.units+1+8<cLine;omega
def lq(K:Za)(H:Hp)(a:Addr)(y:V)(r:Option V):Prop :=
 (∃kvs k,Rd H a (.dK kvs)/\y=kV k/\r=aR kvs k)∨∃kvs k b,Rd H a (.dT kvs)/\y=.ref b/\jA K H k (.ref b)/\k.depth<=8/\r=aR kvs k
def BP(H:Hp)(a:Addr)(y v:V)(H':Hp):Prop :=
 (∃kvs k,H a=some (.dK kvs)/\y=kV k/\kvs.length<aj/\H'=upd H a (.dK (cr kvs k v))) ∨
 ∃kvs k b,H a=some (.dT kvs)/\y=.ref b/\cC H k (.ref b)/\k.depth<=8/\kvs.length<aj/\H'=upd H a (.dT (cr kvs k v))
section
variable{X:Cx}{J3:Zd}{σ:St}{H:Hp}{s:Shared}{a:Addr}{y v:V}{u r:Value}{o:Option V}{A:Around}{E:Zc}
theorem Inv.big(I:Inv X J3 σ H s):fk<s.heap.objs.size:=by
 have h:bm<s.heap.objs.size:=(I.mod.glob.keeps I.bk).lt;exact Nat.lt_trans (by decide) h
theorem xf{Q:Zc}(hu:A.units+16<cLine)(I:Inv X J3 σ H s)(g:lq X.K H a y (some v))(ry:RelV y u)(h:∀w' s',Inv X J3 σ H s'->RelV v w'->Q w' s'):
  wpAny (model X.prog X.w) A (jN (.ref a) u) Q E s:=by
 rcases g with⟨kvs,k,e,ey,l⟩|⟨kvs,k,b,e,ey,eb,e8,l⟩
 ·subst ey;obtain⟨z,hd,vs,rel,dd⟩:=lc I.hok e;obtain⟨w',hw,rw'⟩:=iA.some_of (v:=v) (o:=jL vs k) (by rw[l];exact rel.val k);exact wpAny_getItem_of (k9 ry) dd.mapOf hw (h w' _ (I.tok _) rw')
 ·subst ey;cases(show u=Value.ref b from ry);obtain⟨z,hd,xs,rel,dd⟩:=mE I.hok I.kIn e;obtain⟨w',hw,rw'⟩:=iA.some_of (v:=v) (o:=(atKey xs k).map (·.2)) (by rw[l];exact rel.val k);obtain⟨p,hp,hp2⟩:=nM.mp hw;refine wpAny_getItem_heap (dD hu) (oM I eb e8) dd hp ?_;rw[hp2];exact h w' _ (I.tok _) rw'
theorem d_in{Q:Zc}(hu:A.units+16<cLine)(I:Inv X J3 σ H s)(g:lq X.K H a y o)(ry:RelV y u)(h:∀s',Inv X J3 σ H s'->Q (.bool o.isSome) s'):
  wpAny (model X.prog X.w) A (c9 .In u (.ref a)) Q E s:=by
 rcases g with⟨kvs,k,e,ey,l⟩|⟨kvs,k,b,e,ey,eb,e8,l⟩
 ·subst ey;obtain⟨z,hd,vs,rel,dd⟩:=lc I.hok e;refine wpAny_in_of (k9 ry) hd dd.mapOf ?_;rw[<-(rel.val k).isSome_eq,<-l];exact h _ (I.tok _)
 ·subst ey;cases(show u=Value.ref b from ry);obtain⟨z,hd,xs,rel,dd⟩:=mE I.hok I.kIn e;refine wpAny_in_heap (dD hu) (oM I eb e8) hd dd ?_;have q:=(rel.val k).isSome_eq;rw[Option.isSome_map]at q;rw[<-q,<-l];exact h _ (I.tok _)
theorem z_{Q:Zc}(hu:A.units+16<cLine)(I:Inv X J3 σ H s)(g:lq X.K H a y o)(ry:RelV y u)(h:∀s',Inv X J3 σ H s'->Q (.bool (!o.isSome)) s'):
  wpAny (model X.prog X.w) A (c9 .NotIn u (.ref a)) Q E s:=by
 rcases g with⟨kvs,k,e,ey,l⟩|⟨kvs,k,b,e,ey,eb,e8,l⟩
 ·subst ey;obtain⟨z,hd,vs,rel,dd⟩:=lc I.hok e;refine wpAny_notIn_of (k9 ry) hd dd.mapOf ?_;rw[<-(rel.val k).isSome_eq,<-l];exact h _ (I.tok _)
 ·subst ey;cases(show u=Value.ref b from ry);obtain⟨z,hd,xs,rel,dd⟩:=mE I.hok I.kIn e;refine wpAny_notIn_heap (dD hu) (oM I eb e8) hd dd ?_;have q:=(rel.val k).isSome_eq;rw[Option.isSome_map]at q;rw[<-q,<-l];exact h _ (I.tok _)
theorem nF{h':Heap}{t':Nat}{ob:HO}(I:Inv X J3 σ H s)(mu:BK (H a))(hs:iE a s.heap h')(he:∃q,h'.get? a=some q)(new:bw X.prog X.w X.K (upd H a ob) h' a ob):
  Inv X J3 σ (upd H a ob) { s with heap:=h',toks:=t' } :=
 I.write (x:=a) (e:=a) mu (.inl rfl) (fun b q hb z=>(hs.2 b hb).trans z) he new
theorem yS{P:bj}{w:World}{K:Za}{H':Hp}{h':Heap}{kvs:List (di×V)}{vs:List (di×Value)}(z:kvs.length<=aj)(hd:(a==fk)=false)(rel:KV kvs vs)(dd:h'.DictOf (bx P w) a vs):
  bw P w K H' h' a (.dK kvs):=⟨z,hd,vs,rel,dd⟩
theorem xc{H':Hp}{Q:Unit->Shared->Prop}(hu:A.units+16<cLine)(I:Inv X J3 σ H s)(g:BP H a y v H')(ry:RelV y u)(rv:RelV v r)(h:∀s',Inv X J3 σ H' s'->Q () s'):
  wpAny (model X.prog X.w) A (setItem (.ref a) u r) Q E s:=by
 rcases g with⟨kvs,k,e,ey,l,eH⟩|⟨kvs,k,b,e,ey,eb,e8,l,eH⟩
 ·subst ey eH;obtain⟨z,hd,vs,rel,dd⟩:=BG I.hok e;have hz:vs.length<=aj:=by rw[<-rel.length];exact z
  have hl:(cr kvs k v).length<=aj:=by have:=dF kvs k v;omega
  refine wpAny_setItem_pairs (hsz:=hz) (k9 ry) dd fun h' dd' hs=>h _ ?_;have he:∃q,h'.get? a=some q:=let⟨q,_,_,hq,_⟩:=dd';⟨q,hq⟩;exact nF I (by rw[e];exact gM) hs he (yS hl hd (rel.put k rv) dd')
 ·subst ey eH;cases(show u=Value.ref b from ry);obtain⟨z,hd,xs,rel,dd⟩:=yQ I.hok I.kIn e;have hz:xs.length<=aj:=by rw[<-Paired.length rel];exact z
  have hl:(cr kvs k v).length<=aj:=by have:=dF kvs k v;omega
  refine wpAny_setItem_heap (hsz:=hz) (dD hu) (rN I.hok I.kIn (cC.c 8 e8 eb) e8) dd fun h' dd' hs=>h _ ?_;obtain⟨q,es,ep,hq,h2,h3,h4,_,h5⟩:=dd';refine nF I (by rw[e];exact gM) hs ⟨q,hq⟩ ⟨hl,hd,_,(rel.put k (cC.c 8 e8 eb) e8 rv).keeps fun c ys ec=>?_,q,es,ep,hq,h2,h3,h4,h5⟩;rw[ah (yy ec e (fun z=>nomatch z))];exact ec
theorem u6{b:Addr}{kvs:List (TK×V)}{k:TK}{Q:Unit->Shared->Prop}(hu:A.units+16<cLine)(I:Inv X J3 σ H s)(e:H a=some (.dT kvs))(eb:mI X.K H k (.ref b))(e8:k.depth<=8)(l:kvs.length<aj)(ry:RelV (.ref b) u)(rv:RelV v r)(h:∀s',Inv X J3 σ (upd H a (.dT (cr kvs k v))) s'->Q () s'):
  wpAny (model X.prog X.w) A (setItem (.ref a) u r) Q E s:=by
 cases(show u=Value.ref b from ry);obtain⟨z,hd,xs,rel,dd⟩:=yQ I.hok I.kIn e;have hz:xs.length<=aj:=by rw[<-Paired.length rel];exact z
 have hl:(cr kvs k v).length<=aj:=by have:=dF kvs k v;omega
 refine wpAny_setItem_heap (hsz:=hz) (dD hu) (rN I.hok I.kIn (eb) e8) dd fun h' dd' hs=>h _ ?_;obtain⟨q,es,ep,hq,h2,h3,h4,_,h5⟩:=dd';refine nF I (by rw[e];exact gM) hs ⟨q,hq⟩ ⟨hl,hd,_,(rel.put k (eb) e8 rv).keeps fun c ys ec=>?_,q,es,ep,hq,h2,h3,h4,h5⟩;rw[ah (yy ec e (fun z=>nomatch z))];exact ec
end
def xp(i:Expr):Prop:=∀ov iv,qJ i false ov iv=operate [ov,iv] (jN ov iv)
theorem zw{prog:bj}{w:World}{A:Around}{E:Zc}{s:Shared}{env:Env}{value slice:Expr}{pos:Pos}{T id:String}{Q:Zc}
  (hl:typeLookup (.type T) "__getitem__"=pure (some (.builtin id))) (hs:xp slice)
  (h:wpAny (model prog w) A (eval value env) (fun o s₁=>wpAny (model prog w) A (eval slice env) (fun i s₂=>s₂.TypeIs o T/\wpAny (model prog w) A (jN o i) Q E s₂) E s₁) E s) :
  wpAny (model prog w) A (eval (.Subscript value slice pos) env) Q E s:=by
 refine Subscript_ (kB h (fun o s₁ h₁=>kB h₁ (fun i s₂ h₂=>?_) fun _ _ x=>x) fun _ _ x=>x);obtain⟨hT,h₂⟩:=h₂;unfold subscriptTail;refine ar ?_;rw[getitemInPython_of_ne hT.not_modules];refine ar (zh hT hl ?_);have fin:wpAny (model prog w) A (qJ slice false o i) (fun r s₃=>wpAny (model prog w) A (letTemporaryGo value o r >>= fun _=>pure r) Q E s₃) E s₂:=by
  rw[hs o i];exact wpAny_operating (kB h₂ (fun r s₃ h₃=>ar (wpAny_letTemporaryGo (aN h₃))) fun _ _ x=>x)
 first
  |exact aN (ar fin)
  |exact ar (aN (ar fin))
  |exact ar fin
theorem tS{X:Cx}{J3:Zd}{σ:St}{H:Hp}{s:Shared}{a:Addr}{y:V}{o:Option V}(I:Inv X J3 σ H s)(g:lq X.K H a y o):s.TypeIs (.ref a) "dict":=by
 rcases g with⟨kvs,k,e,_,_⟩|⟨kvs,k,b,e,_,_,_⟩
 ·obtain⟨_,_,vs,_,dd⟩:=lc I.hok e;exact dd.typeIs
 ·obtain⟨_,_,xs,_,dd⟩:=mE I.hok I.kIn e;exact dd.typeIs
def iM(K:Za)(td ty:TE):TE:=fun σ H Q=>td σ H fun x H1=>ty σ H1 fun y H2=>∃a v,x=.ref a/\lq K H2 a y (some v)/\Q v H2
def wA(K:Za)(ty td:TE):TE:=fun σ H Q=>ty σ H fun y H1=>td σ H1 fun x H2=>∃a o,x=.ref a/\lq K H2 a y o/\Q (.bl o.isSome) H2
def fq(K:Za)(ty td:TE):TE:=fun σ H Q=>ty σ H fun y H1=>td σ H1 fun x H2=>∃a o,x=.ref a/\lq K H2 a y o/\Q (.bl (!o.isSome)) H2
def ir(td ty tv:TE):TS:=fun D σ H=>tv σ H fun v H1=>td σ H1 fun x H2=>ty σ H2 fun y H3=>∃a H4,x=.ref a/\BP H3 a y v H4/\D.nx σ H4
section
variable{X:Cx}{o i e value:Expr}{pos pos' J7:Pos}{td ty tv:TE}
theorem h7(hu:X.A.units+16<cLine)(ho:PE X o td)(hi:PE X i ty)(hs:xp i):PE X (.Subscript o i pos) (iM X.K td ty):=by
 intro J3 s σ H Q I h;refine zw PySem.F.slot_dict_getitem.lookup hs (bO (ho J3 s σ H _ I h) fun u s1 ⟨x,H1,I1,rx,q1⟩=>bO (hi J3 s1 σ H1 _ I1 q1) fun iv s2 ⟨y,H2,I2,ry,a,v,ex,g,q2⟩=>?_);subst ex;obtain rfl:u=Value.ref a:=rx;exact⟨tS I2 g,xf hu I2 g ry fun w' s3 I3 rw'=>⟨v,H2,I3,rw',q2⟩⟩
theorem oB(hu:X.A.units+16<cLine)(hi:PE X i ty)(ho:PE X o td):PC X .In i o (wA X.K ty td):=by
 intro J3 s σ H Q I h;refine bO (hi J3 s σ H _ I h) fun iv s1 ⟨y,H1,I1,ry,q1⟩=>bO (ho J3 s1 σ H1 _ I1 q1) fun u s2 ⟨x,H2,I2,rx,a,ov,ex,g,q2⟩=>?_;subst ex;obtain rfl:u=Value.ref a:=rx;exact d_in hu I2 g ry fun s3 I3=>⟨.bl ov.isSome,H2,I3,rfl,q2⟩
theorem dE(hu:X.A.units+16<cLine)(hi:PE X i ty)(ho:PE X o td):PC X .NotIn i o (fq X.K ty td):=by
 intro J3 s σ H Q I h;refine bO (hi J3 s σ H _ I h) fun iv s1 ⟨y,H1,I1,ry,q1⟩=>bO (ho J3 s1 σ H1 _ I1 q1) fun u s2 ⟨x,H2,I2,rx,a,ov,ex,g,q2⟩=>?_;subst ex;obtain rfl:u=Value.ref a:=rx;exact z_ hu I2 g ry fun s3 I3=>⟨.bl (!ov.isSome),H2,I3,rfl,q2⟩
theorem dQ(hu:X.A.units+16<cLine)(ho:PE X o td)(hi:PE X i ty)(hv:PE X value tv)(hs:mq value (some (.Subscript o i pos')) pos.line X.env=pure false):
  PS X (.Assign [.Subscript o i pos'] value pos) (ir td ty tv):=by
 intro J3 s σ H D I h;refine wpAny_Assign_Subscript (bO (hv J3 s σ H _ I h) fun r s1 ⟨v,H1,I1,rv,q1⟩=>bO (ho J3 s1 σ H1 _ I1 q1) fun u s2 ⟨x,H2,I2,rx,q2⟩=>bO (hi J3 s2 σ H2 _ I2 q2) fun iv s3 ⟨y,H3,I3,ry,a,H4,ex,g,q3⟩=>?_) hs;subst ex;obtain rfl:u=Value.ref a:=rx;exact xc hu I3 g ry rv fun s4 I4=>⟨σ,H4,I4,q3⟩
end
theorem yT{P:bj}{w:World}{K:Za}{H:Hp}(h:Heap)(hb:fk<h.objs.size):bw P w K H (h.push { cls:=.type "dict",data:=.dict #[] }) h.objs.size (.dK []) :=
 ⟨ee _,beq_eq_false_iff_ne.mpr (fJ (b_ hb)),[],.nil,Heap.DictOf.new h⟩
theorem yR{P:bj}{w:World}{K:Za}{H:Hp}(h:Heap)(hb:fk<h.objs.size):bw P w K H (h.push { cls:=.type "dict",data:=.dict #[] }) h.objs.size (.dT []) :=
 ⟨ee _,beq_eq_false_iff_ne.mpr (fJ (b_ hb)),[],.nil,_,#[],0,dI _ rfl,⟨rfl,rfl,rfl⟩,rfl,rfl,nW⟩
def oj:TE:=fun _ H Q=>∀p,H p=none->Q (.ref p) (upd H p (.dK []))
def jX:TE:=fun _ H Q=>∀p,H p=none->Q (.ref p) (upd H p (.dT []))
section
variable{X:Cx}{pos:Pos}
theorem kZ:PE X (.Dict [] [] pos) oj:=fun J3 s σ H Q I h =>
 wpAny_Dict_empty ⟨.ref s.heap.objs.size,_,I.laid (a:=s.heap.objs.size) (o:=.dK []) (t':=s.toks) (fun _ _ q=>bY _ q) (ax _) (yT s.heap I.big),rfl,h _ (I.hok.fresh (ax _))⟩
theorem gX:PE X (.Dict [] [] pos) jX:=fun J3 s σ H Q I h =>
 wpAny_Dict_empty ⟨.ref s.heap.objs.size,_,I.laid (a:=s.heap.objs.size) (o:=.dT []) (t':=s.toks) (fun _ _ q=>bY _ q) (ax _) (yR s.heap I.big),rfl,h _ (I.hok.fresh (ax _))⟩
end
def gF(kvs more:List (di×V)):List (di×V):=more.foldl (fun acc kv=>cr acc kv.1 kv.2) kvs
theorem KV.merge:∀{more:List (di×V)}{rs:List (di×Value)}{kvs:List (di×V)}{vs:List (di×Value)},KV more rs->KV kvs vs->KV (gF kvs more) (merged vs rs):=by
 intro more rs kvs vs r;unfold KV at r
 induction r generalizing kvs vs with
 |nil=>intro q;exact q
 |@cons p q ps qs h t ih =>
  intro r0;have e:KV (cr kvs p.1 p.2) (stored vs q.1 q.2):=by
   have:=r0.put p.1 h.2;rw[<-h.1];exact this
  exact ih e
theorem jH:∀(more kvs:List (di×V)),(gF kvs more).length<=kvs.length+more.length
 |[],kvs=>by show kvs.length<=kvs.length+0;omega
 |p::r,kvs=>by
  have h1:=jH r (cr kvs p.1 p.2);have h2:=dF kvs p.1 p.2;show(gF (cr kvs p.1 p.2) r).length<=_;rw[d_];omega
structure M1(X:Cx)(o:Expr)(m:Str)(J5:Pos)(e:Expr)(J4:Pos):Prop where
 base:pL o m X.env (eval o X.env)=eval o X.env
 few:((backTo J4 (aw [e] X.env)).all (fun x=>!x.1) && (kq J4 (ko [] X.env)).all (fun x=>x.1.isSome)
  && decide (([e]:List Expr).length+([]:List lC).length+(if([]:List lC).isEmpty then 0 else 1)<30))=true
 line:(J5.endLine==J4.line)=true
 trees:backTo J4 (aw [e] X.env)=[(false,eval e X.env)]
structure M2(X:Cx)(o:Expr)(m:Str)(J5:Pos)(e f:Expr)(J4:Pos):Prop where
 base:pL o m X.env (eval o X.env)=eval o X.env
 few:((backTo J4 (aw [e,f] X.env)).all (fun x=>!x.1) && (kq J4 (ko [] X.env)).all (fun x=>x.1.isSome)
  && decide (([e,f]:List Expr).length+([]:List lC).length+(if([]:List lC).isEmpty then 0 else 1)<30))=true
 line:(J5.endLine==J4.line)=true
 trees:backTo J4 (aw [e,f] X.env)=[(false,eval e X.env),(false,eval f X.env)]
def IsD(H:Hp)(a:Addr):Prop:=(∃kvs,Rd H a (.dK kvs))∨∃kvs,Rd H a (.dT kvs)
theorem yH{X:Cx}{J3:Zd}{σ:St}{H:Hp}{s:Shared}{a:Addr}(I:Inv X J3 σ H s)(d:IsD H a):
  s.TypeIs (.ref a) "dict"/\(∀b,Value.ref a=.ref b->∃ob,s.heap.get? b=some ob/\ob.dict=none)/\(a==fk)=false:=by
 rcases d with⟨kvs,e⟩|⟨kvs,e⟩
 ·obtain⟨_,hd,vs,_,dd⟩:=lc I.hok e;refine⟨dd.typeIs,fun b q=>?_,hd⟩;cases q;obtain⟨ob,_,_,h1,h2,_⟩:=dd;exact⟨ob,h1,h2.2.1⟩
 ·obtain⟨_,hd,xs,_,dd⟩:=mE I.hok I.kIn e;refine⟨dd.typeIs,fun b q=>?_,hd⟩;cases q;obtain⟨ob,_,_,h1,h2,_⟩:=dd;exact⟨ob,h1,h2.2.1⟩
section
variable{X:Cx}{J3:Zd}{σ:St}{H:Hp}{s:Shared}{a:Addr}{y d:V}{u r:Value}{o:Option V}{A:Around}{E:Zc}
theorem Ba{Q:Zc}(hu:A.units+16<cLine)(I:Inv X J3 σ H s)(g:lq X.K H a y o)(ry:RelV y u)(h:∀w' s',Inv X J3 σ H s'->RelV (o.getD .non) w'->Q w' s'):
  wpAny (model X.prog X.w) A (call (.builtin "dict.get") [.ref a,u]) Q E s:=by
 rcases g with⟨kvs,k,e,ey,l⟩|⟨kvs,k,b,e,ey,eb,e8,l⟩
 ·subst ey;obtain⟨z,hd,vs,rel,dd⟩:=lc I.hok e;refine nV lz dd.typeIs qF (PySem.F.args_dict_get_2 _ _) (meets_dict_get (bx X.prog X.w) a (k9 ry) hd) ⟨_,dd.mapOf,h _ _ (I.tok _) ?_⟩;rw[l];exact(rel.val k).getD rfl
 ·subst ey;cases(show u=Value.ref b from ry);obtain⟨z,hd,xs,rel,dd⟩:=mE I.hok I.kIn e;refine nV lz dd.typeIs qF (PySem.F.args_dict_get_2 _ _) (meetsH_dict_get (cN X.prog X.w) a b hd) ⟨dD hu,k,xs,oM I eb e8,dd,h _ _ (I.tok _) ?_⟩;rw[l];exact(rel.val k).getD rfl
theorem A_{Q:Zc}(hu:A.units+16<cLine)(I:Inv X J3 σ H s)(g:lq X.K H a y o)(ry:RelV y u)(rd:RelV d r)(h:∀w' s',Inv X J3 σ H s'->RelV (o.getD d) w'->Q w' s'):
  wpAny (model X.prog X.w) A (call (.builtin "dict.get") [.ref a,u,r]) Q E s:=by
 rcases g with⟨kvs,k,e,ey,l⟩|⟨kvs,k,b,e,ey,eb,e8,l⟩
 ·subst ey;obtain⟨z,hd,vs,rel,dd⟩:=lc I.hok e;refine nV lz dd.typeIs qF (PySem.F.args_dict_get_3 _ _ _) (meets_dict_get_default (bx X.prog X.w) a (k9 ry) hd r) ⟨_,dd.mapOf,h _ _ (I.tok _) ?_⟩;rw[l];exact(rel.val k).getD rd
 ·subst ey;cases(show u=Value.ref b from ry);obtain⟨z,hd,xs,rel,dd⟩:=mE I.hok I.kIn e;refine nV lz dd.typeIs qF (PySem.F.args_dict_get_3 _ _ _) (meetsH_dict_get_default (cN X.prog X.w) a b hd r) ⟨dD hu,k,xs,oM I eb e8,dd,h _ _ (I.tok _) ?_⟩;rw[l];exact(rel.val k).getD rd
end
def xL(K:Za)(td ty:TE):TE:=fun σ H Q=>td σ H fun x H1=>∃a,x=.ref a/\IsD H1 a/\ty σ H1 fun y H2=>∃o,lq K H2 a y o/\Q (o.getD .non) H2
def re(K:Za)(td ty tx:TE):TE:=fun σ H Q=>td σ H fun x H1=>∃a,x=.ref a/\IsD H1 a/\ty σ H1 fun y H2=>tx σ H2 fun z H3=>∃o,lq K H3 a y o/\Q (o.getD z) H3
section
variable{X:Cx}{o e f:Expr}{J5 J4:Pos}{td ty tx:TE}
theorem yn(hu:X.A.units+16<cLine)(ho:PE X o td)(he:PE X e ty)(m:M1 X o "get" J5 e J4):PE X (.Call (.Attribute o "get" J5) [e] [] J4) (xL X.K td ty):=by
 intro J3 s σ H Q I h;refine wpAny_Call_method m.base m.few m.line PySem.F.plainAttrs_dict lz PySem.F.type_dict_get (bO (ho J3 s σ H _ I h) fun u s1 ⟨x,H1,I1,rx,a,ex,d,q1⟩=>?_);subst ex;obtain rfl:u=Value.ref a:=rx;obtain⟨t1,t2,_⟩:=yH I1 d;refine⟨t1,t2,?_⟩;rw[m.trees];refine qI rfl (Calls.evalArgs_plain (vw (bO (he J3 s1 σ H1 _ I1 q1) fun iv s2 ⟨y,H2,I2,ry,ov,g,q2⟩=>Calls.spliced_nil ?_)));exact Ba hu I2 g ry fun w' s3 I3 rw'=>⟨_,H2,I3,rw',q2⟩
theorem oA(hu:X.A.units+16<cLine)(ho:PE X o td)(he:PE X e ty)(hf:PE X f tx)(m:M2 X o "get" J5 e f J4):PE X (.Call (.Attribute o "get" J5) [e,f] [] J4) (re X.K td ty tx):=by
 intro J3 s σ H Q I h;refine wpAny_Call_method m.base m.few m.line PySem.F.plainAttrs_dict lz PySem.F.type_dict_get (bO (ho J3 s σ H _ I h) fun u s1 ⟨x,H1,I1,rx,a,ex,d,q1⟩=>?_);subst ex;obtain rfl:u=Value.ref a:=rx;obtain⟨t1,t2,_⟩:=yH I1 d;refine⟨t1,t2,?_⟩;rw[m.trees];refine qI rfl (Calls.evalArgs_plain (vw (bO (he J3 s1 σ H1 _ I1 q1) fun iv s2 ⟨y,H2,I2,ry,q2⟩ =>
  vw (bO (hf J3 s2 σ H2 _ I2 q2) fun fv s3 ⟨z,H3,I3,rz,ov,g,q3⟩=>Calls.spliced_nil ?_))))
 exact A_ hu I3 g ry rz fun w' s4 I4 rw'=>⟨_,H3,I4,rw',q3⟩
end
end L2
namespace Att
open PySem PySem.W PySem.Calls PyProof.Rows
theorem ints_of_wellAll{P:Params}{h:Heap}:∀(ns:List Int) (vs:Zf),WellAll P h vs (ns.map WData.int)->nU vs ns:=by
 intro ns
 induction ns with
 |nil =>
  intro vs w;rw[qE]at w;cases w;exact .nil
 |cons n ns ih =>
  intro vs w;rw[a_]at w;cases w with
  |cons a b =>
   cases a;exact .cons _ _ (ih _ b)
theorem script_of{l:OpenLaw}{n:Nat}(hn:l.most=some n){P:Params}{h:Heap}{args:List WData}{vals:Zf}
  (hpre:l.row.toRowW.claim.pre args=true) (hwl:WellAll P h vals args) :
  ∃a vs ns,vals=[Value.ref a]/\args=[WData.list (ns.map WData.int)]/\h.get? a=some { cls:=.type "list",data:=.seq vs.toArray }/\nU vs ns/\ns.length<=n:=by
 have hsh:WShape.hasAll [] args [.list .int]=true:=(pre_splitW hpre).1;have hc:l.pre.holds [] { args:=args }=true:=(pre_splitW hpre).2;obtain⟨d,r,rfl,h1,h2⟩:=hasAllW_cons hsh;obtain rfl:=hasAllW_nil h2;obtain⟨xs,rfl,h3⟩:=hasW_list h1;obtain⟨ns,rfl⟩:=items_int h3;have hlen:ns.length<=n:=by
  unfold OpenLaw.pre at hc;have h4:(WTm.not (.lt (.lit (.int (n:Int))) (.len (.arg 0)))).holds [] { args:=[.list (ns.map .int)] }=true:=by
   have h4:=(holds_andW hc).1;rw[hn]at h4;exact h4
  have h5:=condW_of h4 (w_not (w_lt w_lit (w_len_list (w_arg rfl))));rw[ai]at h5;refine Nat.le_of_not_lt fun q=>?_;have q':(n:Int)<((ns.length:Nat):Int):=by omega
  first
   | (rw[zzr1 q']at h5;exact absurd h5 (by decide))
   | (simp at h5;omega)
 cases hwl with
 |cons w1 w2 =>
  cases w2;cases w1 with
  |list ho hall=>exact⟨_,_,ns,rfl,rfl,ho,ints_of_wellAll ns _ hall,hlen⟩
theorem post_true(l:OpenLaw)(args:List WData):l.row.toRowW.claim.post args (.bool true) args=true :=
 postW_of (r:=l.row.toRowW) (X:=(true==true))
  (show WShape.has [] (.bool true) .bool=true by first|rfl|decide|simp[WShape.has,WShape.arms,WShape.armsAll])
  (show(WTm.eq .res (.lit (.bool true))).value [] { args:=args,res:=some (.bool true),after:=args }=some (.bool (true==true))from w_eq_bool (w_res rfl) w_lit) rfl
theorem attach_call{l:OpenLaw}{n:Nat}{q:bj}{loose:Zb}{XP:(Str->Option Value)->Heap->Prop}{YP:World->Heap->Prop}{d:DefRec}
  (hn:l.most=some n) (hdf:d.params.defaults=[])
  (call:∀(w:World) (s₀ s₁:Shared) (mg mb:Str->Option Value) (fa:Addr) (o:Obj) (pm cd doc:Value) (a:Addr) (vs:Zf) (ns:List Int),
   Ground q loose [] XP w s₀ mg mb s₁.heap->YP w s₁.heap ->
   s₁.heap.get? fa=some o->o.data=.func (docDef d.name d.params d.body d.scope pm cd doc)->s₁.heap.CodeRec cd d.name->mg d.name=some (.ref fa) ->
   s₁.heap.get? a=some { cls:=.type "list",data:=.seq vs.toArray }->nU vs ns->ns.length<=n->s₁.gens=#[] ->
   zzl72 (model l.prog w) iL (.call (.ref fa) ⟨[.ref a],[]⟩) (fun r s'=>r=.ok (.ret (.bool true))/\OldK s₁.heap s'.heap/\s'.os=s₁.os/\kz s'.gens) s₁) :
  WalkO q loose XP YP l.row.toRowW d [] (fun f vs=>PySem.call f vs):=by
 intro w s₀ s₁ mg mb G Y fa o pm cd doc dV kV ho hd hcd hD hmg hg args vals as hpre hlay hrd hwl hlo;obtain rfl:dV=.none:=Dflts.none hD hdf;obtain rfl:kV=.none:=Dflts.noKw hD;obtain⟨a,vs,ns,rfl,rfl,hobj,hints,hlen⟩:=script_of hn hpre hwl;refine enter_call (vv (call w s₀ s₁ mg mb fa o pm cd doc a vs ns G Y ho (fd_plain hd) hcd hmg hobj hints hlen hg) fun r s' hq=>?_);obtain⟨rfl,h2,h3,h4⟩:=hq;exact⟨.inl ⟨.bool true,.bool true,[],rfl,fun _=>rfl,.bool true,post_true l _,fun _=>⟨List.Pairwise.nil,fun _ hm=>(nomatch hm)⟩⟩,h2,h3,h4⟩
end Att
namespace L2
open PySem PySem.Spec PyProof.Rows
theorem pP:∀{vs:Zf}{ns:List Int},nU vs ns->aI (ns.map V.int) vs
 |_,_,.nil=>.nil
 |_,_,.cons n t h=>.cons ⟨t,rfl⟩ (pP h)
def Ai(H:Hp):Prop:=∀b,H b=none∨∃o xs,H b=some (.frz o (.lst xs))
theorem yD{P:bj}{w:World}{K:Za}{mg mb:Str->Option Value}{CX:xB}{k:Nat}{fa a:Addr}{fd:ip}{x:Str}{sp:Sp}{s₁:Shared}{vs:Zf}{ns:List Int}
  (KX:K.In s₁.heap) (hns:s₁.heap.Ns bm mg) (hb:s₁.heap.Ns builtinsNs mb) (hbb:∀x:Str,x≠"__name__"->mb x=gP x) (hlim:s₁.heap.NoLimit) (hg:s₁.gens=#[])
  (ha:s₁.heap.get? a=some { cls:=.type "list",data:=.seq vs.toArray }) (hi:nU vs ns) (hl:ns.length<=aj) (hr:cZ k iL)
  (F:∀base:Heap,K.In base->base.Ns bm mg->i6 P w K mg base CX k fa fd [x] sp) (hbind:∀(s:Shared) (u:Value),nI s fd ⟨[u],[]⟩ [(x,u)])
  (hsp:∀H:Hp,Ai H->ay K H a (ns.map V.int)->sp [.ref a] H (fun v _=>v=.bl true) fun _ _ _=>False)
  (hCX:∀H e s',CX [] H s₁ (fun _ _ _=>False) e s'->False) :
  zzl72 (model P w) iL (.call (.ref fa) ⟨[.ref a],[]⟩) (fun r s'=>r=.ok (.ret (.bool true))/\OldK s₁.heap s'.heap/\s'.os=s₁.os/\kz s'.gens) s₁:=by
 have rv:=pP hi;have lenV:=hi.length;have core:∀H:Hp,Ai H->ay K H a (ns.map V.int)->jt P w K H s₁.heap->(∀b,H b≠none->b=a)->(H a≠none->K.lookup a=none) ->
   zzl72 (model P w) iL (.call (.ref fa) ⟨[.ref a],[]⟩) (fun r s'=>r=.ok (.ret (.bool true))/\OldK s₁.heap s'.heap/\s'.os=s₁.os/\kz s'.gens) s₁:=by
  intro H hO hS hok hA hK;have base_of:∀{b:Addr}{o:Obj},s₁.heap.get? b=some o->H b=none->(rR s₁.heap H).get? b=some o:=fun e n=>yJ e n;have noA:∀{b:Addr}{o:Obj}{es:Array iK}{ep:Nat},s₁.heap.get? b=some o->o.data=.dict es ep->H b=none:=fun{b o es ep} e d=>by
   cases q:H b with
   |none=>rfl
   |some u =>
    have e':b=a:=hA b (by rw[q];simp);subst e';rw[ha]at e;cases e;have d':Data.seq vs.toArray _=Data.dict es ep:=d;cases d'
  have nsK:∀{b:Addr}{m:Str->Option Value},s₁.heap.Ns b m->(rR s₁.heap H).Ns b m:=fun{b m} ⟨o,es,ep,e,d,r⟩=>⟨o,es,ep,base_of e (noA e d),d,r⟩;have hKb:K.In (rR s₁.heap H):=fun b o e=>base_of (KX b o e) (by
   cases q:H b with
   |none=>rfl
   |some u =>
    have e':b=a:=hA b (by rw[q];simp);subst e';rw[hK (by rw[q];simp)]at e;cases e)
  have hM:Mod K mg (rR s₁.heap H):=⟨hKb,nsK hns,⟨mb,nsK hb,hbb⟩,let⟨mc,h1,h2⟩:=hlim;⟨mc,nsK h1,h2⟩⟩;have e0:vm P w K mg (rR s₁.heap H) iL [] s₁ H:=⟨rfl,hM,fun b o e=>zY e,Nat.le_of_eq (w8 _ _),trivial,fun b hb=>absurd (show b∈([]:Ze)from hb) (by simp),hok,.of_eq hg⟩;refine vv ((F _ hKb (nsK hns)).run iL [] s₁ H ⟨[.ref a],[]⟩ [.ref a] [.ref a] _ _ hr e0 (hbind s₁ (.ref a)) (.cons rfl .nil) (hsp H hO hS)) fun r s' h=>?_;cases r with
  |error e=>exact(hCX H e s' h).elim
  |ok fl =>
   cases fl with
   |next=>exact gO h
   |brk=>exact gO h
   |cont=>exact gO h
   |ret u =>
    obtain⟨v,H',os,bare,un,hok',r',q⟩:=h;have q':v=.bl true:=q;subst q';obtain rfl:u=Value.bool true:=r';refine⟨rfl,OldK.of_keep fun b o e=>?_,os,bare⟩;cases q:H b with
    |none=>exact un.keep b o e q (by intro z;exact absurd (show b∈([]:Ze)from z) (by simp)) (by simp)
    |some u =>
     rcases hO b with z|⟨ob,xs,z⟩
     ·rw[q]at z;cases z
     ·have z2:=un.frzs b ob _ z;obtain⟨e1,_⟩:=hok b _ z;obtain⟨e2,_⟩:=hok' b _ z2;rw[e]at e1;cases e1;exact e2
 cases hk:K.lookup a with
 |some o =>
  have e:=KX a o hk;rw[ha]at e;cases e;refine core (fun _=>none) (fun _=>.inl rfl) (.inr ⟨_,vs.toArray,_,hk,rfl,rfl,rfl,by rw[bt,lenV];exact hl,by simpa using rv⟩) (fun b u z=>by have z':(none:Option HO)=some u:=z;cases z') (fun b z=>absurd rfl z) fun z=>absurd rfl z
 |none =>
  refine core (fun b=>if b=a then some (.frz { cls:=.type "list",data:=.seq vs.toArray } (.lst (ns.map V.int)))else none) (fun b=>?_) (.inl (.inr ⟨{ cls:=.type "list",data:=.seq vs.toArray },if_pos rfl⟩)) (fun b u z=>?_) (fun b z=>?_) fun _=>hk
  ·by_cases hb:b=a
   ·exact .inr ⟨_,_,if_pos hb⟩
   ·exact .inl (if_neg hb)
  ·by_cases hb:b=a
   ·have z':=(if_pos hb).symm.trans z;cases z';subst hb;exact⟨ha,by rw[ai];exact hl,vs,_,rv,ha⟩
   ·have z':=(if_neg hb).symm.trans z;cases z'
  ·by_cases hb:b=a
   ·exact hb
   ·exact absurd (if_neg hb) z
end L2
namespace L2
open PySem PySem.Spec PyProof.Rows
theorem zj{l:PySem.W.OpenLaw}{n k:Nat}{q:bj}{loose:Zb}{XP:(Str->Option Value)->Heap->Prop}{YP:World->Heap->Prop}{d:DefRec}{K:Params->Za}{CX:World->xB}{sp:World->Sp}{x:Str}
  (hn:l.most=some n) (hn2:n<=aj) (hdf:d.params.defaults=[]) (hr:cZ k iL)
  (hY:∀(w:World) (h:Heap),YP w h->(K w.params).In h)
  (F:∀(w:World) (mg:Str->Option Value) (fa:Addr) (h:Heap),(K w.params).In h->h.Ns bm mg->mg d.name=some (.ref fa) ->
   ∃fd:ip,(∀(s:Shared) (u:Value),nI s fd ⟨[u],[]⟩ [(x,u)]) /\
    ∀base:Heap,(K w.params).In base->base.Ns bm mg->i6 l.prog w (K w.params) mg base (CX w) k fa fd [x] (sp w))
  (hsp:∀(w:World) (H:Hp) (a:Addr) (ns:List Int),ns.length<=n->Ai H->ay (K w.params) H a (ns.map V.int)->sp w [.ref a] H (fun v _=>v=.bl true) fun _ _ _=>False)
  (hCX:∀(w:World) (H:Hp) (s:Shared) (e:Value) (s':Shared),CX w [] H s (fun _ _ _=>False) e s'->False) :
  PySem.W.WalkO q loose XP YP l.row.toRowW d [] (fun f vs=>PySem.call f vs):=by
 refine Att.attach_call hn hdf fun w s₀ s₁ mg mb fa o pm cd doc a vs ns G Y ho hd hcd hmg hobj hints hlen hg=>?_;have KX:=hY w _ Y;obtain⟨fd,hb,hF⟩:=F w mg fa _ KX G.T.g hmg;exact yD KX G.T.g G.T.b G.T.builtins G.T.nolimit hg hobj hints (aJ hlen hn2) hr hF hb (fun H hO hS=>hsp w H a ns hlen hO hS) fun H e s'=>hCX w H s₁ e s'
theorem walk_ofK{l:PySem.W.OpenLaw}{n k:Nat}{q:bj}{loose:Zb}{XP:(Str->Option Value)->Heap->Prop}{YP:World->Heap->Prop}{d:DefRec}{K:Params->Za}{CX:xB}{sp:Za->Sp}{x:Str}
  (hn:l.most=some n) (hn2:n<=aj) (hdf:d.params.defaults=[]) (hr:cZ k iL)
  (hY:∀(w:World) (h:Heap),YP w h->(K w.params).In h)
  (F:∀(w:World) (mg:Str->Option Value) (fa:Addr) (h:Heap),(K w.params).In h->h.Ns bm mg->mg d.name=some (.ref fa) ->
   ∃fd:ip,(∀(s:Shared) (u:Value),nI s fd ⟨[u],[]⟩ [(x,u)]) /\
    ∀base:Heap,(K w.params).In base->base.Ns bm mg->i6 l.prog w (K w.params) mg base CX k fa fd [x] (sp (K w.params)))
  (hsp:∀(K:Za) (H:Hp) (a:Addr) (ns:List Int),ns.length<=n->Ai H->ay K H a (ns.map V.int)->sp K [.ref a] H (fun v _=>v=.bl true) fun _ _ _=>False)
  (hCX:∀(H:Hp) (s:Shared) (e:Value) (s':Shared),CX [] H s (fun _ _ _=>False) e s'->False) :
  PySem.W.WalkO q loose XP YP l.row.toRowW d [] (fun f vs=>PySem.call f vs) :=
 zj (K:=K) (CX:=fun _=>CX) (sp:=fun w=>sp (K w.params)) hn hn2 hdf hr hY F (fun w H a ns h1 h2 h3=>hsp (K w.params) H a ns h1 h2 h3) fun _ H s e s'=>hCX H s e s'
end L2
namespace L2
open PySem PySem.Spec PyProof.Rows
def cJ(s:Stmt)(j:Nat):Stmt:=match s with
 |.ClassDef _ _ _ body _ _ _ _ _ _ _=>body.getD j (.Pass ⟨0,0,0,0⟩)
 |_=>.Pass ⟨0,0,0,0⟩
def fD(s:Stmt):Arguments:=match s with
 |.FunctionDef _ a _ _ _ _ _ _ _ _=>a
 |_=>{ posonlyargs:=[],args:=[],vararg:=none,kwonlyargs:=[],kw_defaults:=[],kwarg:=none,defaults:=[] }
def dU(s:Stmt):List Stmt:=match s with
 |.FunctionDef _ _ b _ _ _ _ _ _ _=>b
 |_=>[]
def bg(s:Stmt):Scope:=match s with
 |.FunctionDef _ _ _ _ _ _ sc _ _ _=>sc
 |_=>{ kind:=.function,names:=[],isGenerator:=false,isCoroutine:=false }
abbrev CX0:xB:=fun _ _ _ _ _ _=>False
abbrev E0:XK:=fun _ _ _=>False
abbrev aO(sp:Sp)(a:TA):TE:=Ao sp [] E0 a
theorem vT{X:Cx}:j_ CX0 X E0:=fun _ _ _ _ _ _ _ h=>h.elim
structure Bm(K:Za)(x qual:Str)(st:Stmt)(f:Addr)(fd:ip):Prop where
 ex:∃(oc:Value) (od:Option Addr) (kV doc pm:Value) (an:Option Addr) (cdv ct:Value) (osl:Array (Option Value)),
  fd=fP x qual (fD st) (dU st) (bg st) .none kV doc pm an cdv ct/\K.lookup f=some ⟨oc,od,.func fd,osl⟩/\jO K cdv qual=true
 kp:eP K (.ref f)=true
section
variable{P:bj}{w:World}{K:Za}{mg:Str->Option Value}{base:Heap}
theorem Bm.ok{x qual:Str}{st:Stmt}{f:Addr}{fd:ip}{N ps:Zb}{k:Nat}{sp:Sp}(F:Bm K x qual st f fd)(S:ic N ps (bg st))(len:∀vs H Q E,sp vs H Q E->vs.length=ps.length)
  (hbody:∀(cdv:Value) (A:Around) (outer:List Env) (s:Shared) (H:Hp) (vs:List V) (Q:VK) (E:XK),cZ k (A.deeper (envOfC qual (bg st) s.heap.objs.size f cdv))->sp vs H Q E ->
   ∃t,uj (u7 CX0 P w K mg base N qual (bg st) f cdv A outer s H E).nox (dU st) t/\t (bc Q) (start N vs) H):i6 P w K mg base CX0 (k+1) f fd ps sp:=by
 obtain⟨oc,od,kV,doc,pm,an,cdv,ct,osl,rfl,lk,hcd⟩:=F.ex;refine BD lk hcd S len fun A outer s H vs Q E hr hsp=>?_;obtain⟨t,h,q⟩:=hbody cdv A outer s H vs Q E hr hsp;exact⟨t,h.nox,q⟩
theorem Bm.binds{x qual:Str}{st:Stmt}{f:Addr}{fd:ip}{ps:Zb}(F:Bm K x qual st f fd)
  (h:∀(kV doc pm:Value) (an:Option Addr) (cdv ct:Value) (us:Zf),us.length=ps.length->bindArgs (fP x qual (fD st) (dU st) (bg st) .none kV doc pm an cdv ct) ⟨us,[]⟩=pure (ps.zip us)):Binds K fd ps []:=by
 obtain⟨oc,od,kV,doc,pm,an,cdv,ct,osl,rfl,lk,hcd⟩:=F.ex;exact .all (h kV doc pm an cdv ct)
theorem yO{x qual:Str}{st:Stmt}{f:Addr}{oc:Value}{od an:Option Addr}{osl:Array (Option Value)}{kV doc pm cdv ct:Value}(l:K.lookup f=some ⟨oc,od,.func (fP x qual (fD st) (dU st) (bg st) .none kV doc pm an cdv ct),osl⟩)
  (c:jO K cdv qual=true) (k:eP K (.ref f)=true):Bm K x qual st f (fP x qual (fD st) (dU st) (bg st) .none kV doc pm an cdv ct):=⟨⟨oc,od,kV,doc,pm,an,cdv,ct,osl,rfl,l,c⟩,k⟩
end
theorem v6{A:Around}{k:Nat}(hr:cZ k A):A.units+16<cLine:=Nat.lt_of_le_of_lt (Nat.add_le_add_left (by decide:16<=64) _) hr.units
theorem am{n:Nat}(h:n<=1000):n<aj:=Nat.lt_of_le_of_lt h (by decide)
section
variable{X:Cx}
theorem pv(i:Nat){x:Str}{pos:Pos}(hN:X.N[i]?=some x:=by rfl)(hv:Vis X.env.scope x:=by first|exact Or.inl rfl|exact Or.inr (Or.inl rfl)|exact Or.inr (Or.inr rfl))(hd:(x==("__debug__":Str))=false:=by decide)
  (hcd:(x==("__classdict__":Str))=false:=by decide):PE X (.Name x pos) (jU i):=AW hN hv hd hcd
end
theorem cB{A B:Prop}(h:B):if false=true then A else B:=by
 rw[if_neg fI];exact h
theorem cA{A B:Prop}(h:A):if true=true then A else B:=by
 rw[if_pos rfl];exact h
theorem iV{c A B:Prop}[Decidable c](h1:c->A)(h2:¬c->B):if c then A else B:=by
 by_cases h:c
 ·rw[if_pos h];exact h1 h
 ·rw[if_neg h];exact h2 h
def ab(H H':Hp):Prop:=∀b o,H b=some o->H' b=some o
theorem ab.refl(H:Hp):ab H H:=fun _ _ h=>h
theorem ab.trans{H H1 H2:Hp}(a:ab H H1)(b:ab H1 H2):ab H H2:=fun c o h=>b c o (a c o h)
theorem ab.free{H H':Hp}(e:ab H H'){l:Addr}(h:H' l=Option.none):H l=Option.none:=by
 cases q:H l with
 |none=>rfl
 |some o =>
  rw[e l o q]at h;cases h
theorem ab.seq{K:Za}{H H':Hp}{a:Addr}{xs:List V}(e:ab H H')(h:ay K H a xs):ay K H' a xs:=by
 rcases h with(h|⟨o,h⟩)|h
 ·exact .inl (.inl (e _ _ h))
 ·exact .inl (.inr ⟨o,e _ _ h⟩)
 ·exact .inr h
section
variable{prog:bj}{w:World}{A:Around}{R:Result->Shared->Prop}{s:Shared}
abbrev XF:Value->Shared->Prop:=fun _ _=>False
abbrev u1(ifs:List Expr)(env:Env):Sem Bool:=forIn ifs true fun c r=>if r=true then do let ok <- isTrue c env (eval c env);pure (qD ok)else pure (qD r)
theorem rV{elt target iter:Expr}{ifs:List Expr}{scope:Scope}{pos:Pos}{it acc:Value}{env:Env}(I:Nat->Shared->Prop)
  (turn:∀n s,I n s->wpAny (model prog w) A (pyNext it) (fun r s₁=>match r with
   |none=>R (.ok .next) s₁
   |some v=>wpAny (model prog w) A (vB target it v) (fun _ s₁'=>wpAny (model prog w) A (assign target env v) (fun _ s₂ =>
     wpAny (model prog w) A (u1 ifs env) (fun ok s₃ =>
      if ok=true then wpAny (model prog w) A (eval elt env) (fun x s₄ =>
       wpAny (model prog w) A (call (.builtin "list.append") [acc,x]) (fun _ s₅=>∃m,m<n/\I m s₅) XF s₄) XF s₃
      else ∃m,m<n/\I m s₃) XF s₂) XF s₁') XF s₁) XF s)
  (n:Nat) (h:I n s):zzl72 (model prog w) A (.compLoop (.ListComp elt [⟨target,iter,ifs,0⟩] scope pos) 0 it acc env) R s:=by
 refine codeAny_loop rfl I (fun n s hI=>?_) n h;show wpAny _ A ((compTurn (.ListComp elt [⟨target,iter,ifs,0⟩] scope pos) 0 it acc env).onRaise (fun x=>do noteFrame x env;theTreesLotGoes x)) _ _ s
 refine wpAny_noted ?_;rw[compTurn_list];refine ar (wpAny_standAt (ar (kB (turn n s hI) (fun r s₁ h₁=>?_) fun _ _ h'=>h'.elim)));cases r with
 |none=>exact aN h₁
 |some v =>
  refine ar (kB h₁ (fun _ s₁' h₁'=>?_) fun _ _ h'=>h'.elim);refine ar (kB h₁' (fun _ s₂ h₂=>ar (kB h₂ (fun ok s₃ h₃=>?_) fun _ _ h'=>h'.elim)) fun _ _ h'=>h'.elim);cases ok with
  |false=>exact aN ⟨rfl,h₃⟩
  |true =>
   exact ar (ar (kB h₃ (fun x s₄ h₄=>ar (kB h₄ (fun _ s₅ h₅=>aN (aN ⟨rfl,h₅⟩)) fun _ _ h'=>h'.elim)) fun _ _ h'=>h'.elim))
end
theorem j7{env:Env}:∀(names:List (Str×gK)) (cs0:List (Str×Addr)),(∀y∈names,y.2=.free->∃c,env.cells.lookup y.1=some c)->(∀x c,cs0.lookup x=some c->env.cells.lookup x=some c) ->
  ∃cs:List (Str×Addr),(forIn names cs0 fun(x:Str×gK) (r:List (Str×Addr))=>if(x.2==iJ)=true then(cellOf env x.1 >>= fun c=>(pure (qD ((x.1,c)::r)):Sem (ForInStep (List (Str×Addr)))))else pure (qD r))=pure cs /\
   (∀x c,cs.lookup x=some c->env.cells.lookup x=some c)/\(∀x,(cs0.lookup x).isSome=true->(cs.lookup x).isSome=true)/\∀y∈names,y.2=.free->(cs.lookup y.1).isSome=true
 |[],cs0,_,h0=>⟨cs0,rfl,h0,fun _ h=>h,fun _ h=>nomatch h⟩
 | (n,k)::r,cs0,has,h0=>by
  have hr:∀y∈r,y.2=.free->∃c,env.cells.lookup y.1=some c:=fun y hy=>has y (eQ _ hy);by_cases hk:k=.free
  ·subst hk;obtain⟨c,hc⟩:=has (n,.free) eR rfl;obtain⟨cs,e,p1,p2,p3⟩:=j7 r ((n,c)::cs0) hr (fun x d hd=>by
    rw[fN]at hd;cases hx:x==n with
    |true =>
     rw[hx]at hd;have:x=n:=by simpa using hx
     subst this;cases hd;exact hc
    |false=>rw[hx]at hd;exact h0 x d hd)
   have hself:(((n,c)::cs0).lookup n).isSome=true:=by rw[fN,beq_self_eq_true];rfl
   have hmono:∀x,(cs0.lookup x).isSome=true->(((n,c)::cs0).lookup x).isSome=true:=fun x hx=>by
    rw[fN];cases x==n with
    |true=>rfl
    |false=>exact hx
   refine⟨cs,?_,p1,fun x hx=>p2 x (hmono x hx),fun y hy hf=>?_⟩
   ·rw[List.forIn_cons];have hcell:cellOf env n=pure c:=by unfold cellOf;rw[hc]
    simp only[beq_self_eq_true,if_true,hcell];exact e
   ·rcases c_.mp hy with rfl|hy
    ·exact p2 _ hself
    ·exact p3 y hy hf
  ·obtain⟨cs,e,p1,p2,p3⟩:=j7 r cs0 hr h0;refine⟨cs,?_,p1,p2,fun y hy hf=>?_⟩
   ·rw[List.forIn_cons];have hb:(k==iJ)=false:=by simpa using hk
    simp only[hb,nR,if_false];exact e
   ·rcases c_.mp hy with rfl|hy
    ·exact absurd hf hk
    ·exact p3 y hy hf
theorem oU{env:Env}{scope:Scope}(has:∀y∈scope.names,y.2=.free->∃c,env.cells.lookup y.1=some c):
  ∃cs:List (Str×Addr),closureFor scope env=pure cs/\(∀x c,cs.lookup x=some c->env.cells.lookup x=some c)/\∀y∈scope.names,y.2=.free->(cs.lookup y.1).isSome=true:=by
 obtain⟨cs,e,p1,_,p3⟩:=j7 (env:=env) scope.names [] has (fun _ _ h=>nomatch h);refine⟨cs,?_,p1,p3⟩;unfold closureFor
 first
  |exact e
  | (simp only[bind_pure];exact e)
  | (rw[show(forIn scope.names [] _:Sem (List (Str×Addr)))=pure cs from e];rfl)
def cx(X:Cx)(N:Zb)(scope:Scope)(C:Addr)(cl:List (Str×Addr))(s₀:Shared)(H₀:Hp)(ex:Ze)(pn:Zd):Cx where
 prog:=X.prog
 w:=X.w
 K:=X.K
 mg:=X.mg
 base:=X.base
 A:=X.A
 N:=N
 s₀:=s₀
 H₀:=H₀
 env:=compEnvC scope cl C X.env
 outer:=X.stack
 stack:=X.stack
 ex:=ex
 fn:=fun _=>false
 calm:=X.calm
 pn:=pn
 xe:=XF
def jr(sc scope:Scope)(k:Nat)(N XN:Zb)(fi:List Nat):Bool :=
 decide (scope.kind=.function) &&
 (scope.names.all fun y=>decide (y.2≠.cell) && (decide (y.2≠.local) || decide (scope.names.lookup y.1=some .local)) && (decide (y.2≠.free) || decide (sc.names.lookup y.1=some .cell) || decide (sc.names.lookup y.1=some .free))) &&
 decide (N.length=k+fi.length) &&
 ((kA fi.length).all fun j=>match fi[j]? with
  |some i=>match N[k+j]?,XN[i]? with
   |some x,some y=>decide (x=y) && decide (scope.names.lookup x=some .free)
   |_,_=>false
  |none=>false)
structure kj(sc scope:Scope)(k:Nat)(N XN:Zb)(fi:List Nat):Prop where
 kind:scope.kind=.function
 cell:∀y∈scope.names,y.2≠.cell
 nm:∀y∈scope.names,y.2=.local->scope.names.lookup y.1=some .local
 fr:∀y∈scope.names,y.2=.free->sc.names.lookup y.1=some .cell∨sc.names.lookup y.1=some .free
 len:N.length=k+fi.length
 sl:∀j i,fi[j]?=some i->∃x,N[k+j]?=some x/\XN[i]?=some x/\scope.names.lookup x=some .free
theorem kj.of{sc scope:Scope}{k:Nat}{N XN:Zb}{fi:List Nat}(h:jr sc scope k N XN fi=true):kj sc scope k N XN fi:=by
 unfold jr at h;simp only[Bool.and_eq_true,List.all_eq_true,Bool.or_eq_true,decide_eq_true_eq]at h;obtain⟨⟨⟨h1,h2⟩,h3⟩,h4⟩:=h;refine⟨h1,fun y hy=>(h2 y hy).1.1,fun y hy e=>((h2 y hy).1.2).resolve_left fun z=>z e,fun y hy e=>?_,h3,fun j i e=>?_⟩
 ·rcases(h2 y hy).2 with(z|z)|z
  ·exact absurd e z
  ·exact .inl z
  ·exact .inr z
 ·have hj:j<fi.length:=(bT.mp e).1;have q:=h4 j (List.mem_range.mpr hj);rw[e]at q;dsimp only at q;cases a:N[k+j]? with
  |none=>rw[a]at q;cases q
  |some x =>
   cases b:XN[i]? with
   |none=>rw[a,b]at q;cases q
   |some y =>
    rw[a,b]at q;simp only[Bool.and_eq_true,decide_eq_true_eq]at q;exact⟨x,rfl,by rw[q.1],q.2⟩
theorem fo{env:Env}:∀{names:List (Str×gK)}{x:Str},names.lookup x=some .free ->
  (names.map fun(n,k)=>if(k==iJ && env.scope.kind==.function && env.kindOf n==some .cell)then(n,gK.cell)else(n,k)).lookup x=some .cell ∨
  (names.map fun(n,k)=>if(k==iJ && env.scope.kind==.function && env.kindOf n==some .cell)then(n,gK.cell)else(n,k)).lookup x=some .free
 |[],_,h=>by simp at h
 | (n,k)::r,x,h=>by
  have ih:=@fo env r x;simp only[a_];cases hx:x==n with
  |true =>
   simp only[fN,hx]at h;cases h;by_cases hc:(iJ==iJ && env.scope.kind==.function && env.kindOf n==some .cell)=true
   ·left;rw[if_pos hc];simp[fN,hx]
   ·right;rw[if_neg hc];simp[fN,hx]
  |false =>
   simp only[fN,hx]at h;by_cases hc:(k==iJ && env.scope.kind==.function && env.kindOf n==some .cell)=true
   ·rw[if_pos hc];simp only[fN,hx];exact ih h
   ·rw[if_neg hc];simp only[fN,hx];exact ih h
def cH(k:Nat)(fi:List Nat)(σ:St):St:=List.replicate k none++fi.map fun i=>(σ[i]?).join
theorem u9(k:Nat)(fi:List Nat)(σ:St):(cH k fi σ).length=k+fi.length:=by simp[cH]
theorem oS{k:Nat}{fi:List Nat}{σ:St}{i:Nat}{v:V}(h:(cH k fi σ)[i]?=some (some v)):∃j t,i=k+j/\fi[j]?=some t/\σ[t]?=some (some v):=by
 unfold cH at h;by_cases hi:i<k
 ·rw[sw (by simpa using hi),List.getElem?_replicate_of_lt hi]at h;cases h
 ·rw[List.getElem?_append_right (by simp;omega),List.length_replicate,gJ]at h;refine⟨i-k,?_⟩;cases e:fi[i-k]? with
  |none=>rw[e]at h;cases h
  |some t =>
   rw[e]at h;simp only[nX]at h;refine⟨t,by omega,rfl,?_⟩;have h':=da h;cases e2:σ[t]? with
   |none=>rw[e2]at h';cases h'
   |some o=>rw[e2]at h';simp only[Option.join]at h';first|(rw[h'])|(subst h';rfl)|(simpa using h')
def xo(k:Nat)(g:TG):Prop:=∀x σ H Q,g x σ H Q->g x σ H fun σ2 H2=>Q σ2 H2/\σ2.length=σ.length/\∀i,k<=i->σ2[i]?=σ[i]?
theorem aP{k i:Nat}(h:i<k):xo k (cS i):=fun x σ H Q q=>⟨q,by simp,fun j hj=>by rw[List.getElem?_set_ne (by omega)]⟩
def AI(X:Cx)(ifs:List Expr)(t:TT):Prop :=
 ∀(J3:Zd) (s:Shared) (σ:St) (H:Hp) (Q:Bool->Hp->Prop),Inv X J3 σ H s->t σ H Q->wpAny (model X.prog X.w) X.A (u1 ifs X.env) (TP X J3 σ Q) X.xe s
def iy:TT:=fun _ H Q=>Q true H
theorem cj{X:Cx}:AI X [] iy:=fun J3 s σ H Q I h=>aN ⟨H,I,h⟩
theorem eO{X:Cx}{c:Expr}{t:TT}(h:PT X c t):AI X [c] t:=by
 intro J3 s σ H Q I hw;unfold u1;rw[List.forIn_cons];simp only[if_true];refine ar (ar (bO (h J3 s σ H Q I hw) fun b s1 q=>aN ?_));exact aN q
def bZ(k:Nat)(fi:List Nat)(wi:TI)(g:TG)(tc:TT)(te:TE):TE:=fun σ H Q=>wi σ H fun J H1=>∀l,H1 l=none->∃W:Nat->Nat->List V->Hp->Prop,(∃m,W 0 m [] (upd H1 l (.lst [])))/\∀i m vs H2,W i m vs H2->H2 l=some (.lst vs) /\
 ((J.stop i H2/\Q (.ref l) H2)∨(J.go i H2/\∀x H3,J.yld i H2 x H3->g x (cH k fi σ) H3 fun σ2 H4=>tc σ2 H4 fun b H5 =>
  if b=true then te σ2 H5 fun v H6=>H6 l=some (.lst vs)/\vs.length<aj/\∃m',m'<m/\W (i+1) m' (vs++[v]) (upd H6 l (.lst (vs++[v])))else ∃m',m'<m/\W (i+1) m' vs H5))
section
variable{X:Cx}{J3:Zd}{σ:St}
theorem Ad{k:Nat}{N:Zb}{scope:Scope}{fi:List Nat}{H:Hp}{s:Shared}{cl:List (Str×Addr)}{fp:Ze}(S:kj X.env.scope scope k N X.N fi)(I:Inv X J3 σ H s)
  (hcl:∀x c,cl.lookup x=some c->X.env.cells.lookup x=some c) (hcf:∀y∈scope.names,y.2=.free->(cl.lookup y.1).isSome=true) (hf:∀b∈fp,lp X J3 H b) (hlt:∀b∈fp,b<s.heap.objs.size) :
  (cx X N scope s.heap.objs.size cl s H fp (X.pn++J3)).Ok where
 mod:=I.ok.mod
 kind:=S.kind
 glob:=I.ok.glob
 blt:=I.ok.blt
 above:=ax _
 inj:=fun x y c e1 e2=>I.ok.inj x y c (hcl x c e1) (hcl y c e2)
 has:=fun x h=>by
  have key:∃y∈scope.names,y.1=x/\y.2=.free:=by
   have h':(relabel scope X.env).names.lookup x=some .cell∨(relabel scope X.env).names.lookup x=some .free:=h;have mem:∀(l:List (Str×gK)) (kd:gK),l.lookup x=some kd->(x,kd)∈l:=by
    intro l
    induction l with
    |nil=>intro kd e;cases e
    |cons a r ih =>
     intro kd e;obtain⟨n,k'⟩:=a;rw[fN]at e;cases hx:x==n with
     |true =>
      rw[hx]at e;have:x=n:=by simpa using hx
      subst this;cases e;exact eR
     |false=>rw[hx]at e;exact eQ _ (ih kd e)
   have back:∀kd,(x,kd)∈(relabel scope X.env).names->kd=.cell∨kd=.free->∃y∈scope.names,y.1=x/\y.2=.free:=by
    intro kd hm hk;obtain⟨⟨n,k'⟩,hy,e⟩:=aE.mp hm;dsimp only at e;by_cases hc:(k'==iJ && X.env.scope.kind==.function && X.env.kindOf n==some .cell)=true
    ·have hk':k'=.free:=by
      simp only[Bool.and_eq_true]at hc;simpa using hc.1.1
     rw[if_pos hc]at e;cases e;exact⟨_,hy,rfl,hk'⟩
    ·rw[if_neg hc]at e;cases e;rcases hk with rfl|rfl
     ·exact absurd rfl (S.cell _ hy)
     ·exact⟨_,hy,rfl,rfl⟩
   rcases h' with h'|h'
   ·exact back _ (mem _ _ h') (.inl rfl)
   ·exact back _ (mem _ _ h') (.inr rfl)
  obtain⟨y,hy,rfl,hk⟩:=key;exact vq.mp (hcf y hy hk)
 cab:=fun x c h=>by cases h
 hd:=I.ok.hd
 frames:=I.ok.frames
 stk:=.inl rfl
 exf:=fun b hb=>⟨b_ (hlt b hb),fun x c e=>(hf b hb).2.2.2.2.1 x c (hcl x c e)⟩
 bs:=I.bs
 bsz:=aJ I.ok.bsz I.sz
 noex:=fun b o e hb=>by
  rcases(hf b hb).2.2.2.1 with z|z
  ·exact I.ok.noex b o e z
  ·exact absurd (fK (be (I.ok.bs b o e).1) z) (mv _)
 exfs:=fun b hb z=>by
  obtain⟨_,f1,f2,_⟩:=hf b hb;rcases c_.mp (I.stkSub b z)with q|q
  ·exact f1 q
  ·exact f2 q
 funs:=I.stack
 frf:=I.stkFree
theorem y3{k:Nat}{N:Zb}{scope:Scope}{fi:List Nat}{H:Hp}{s:Shared}{cl:List (Str×Addr)}{fp:Ze}{h₁:Heap}{t':Nat}{m:Str->Option Value}(S:kj X.env.scope scope k N X.N fi)(I:Inv X J3 σ H s)
  (hcl:∀x c,cl.lookup x=some c->X.env.cells.lookup x=some c) (hcf:∀y∈scope.names,y.2=.free->(cl.lookup y.1).isSome=true) (hf:∀b∈fp,lp X J3 H b) (hlt:∀b∈fp,b<s.heap.objs.size)
  (hn:h₁.Ns s.heap.objs.size m) (old:∀b o,s.heap.get? b=some o->h₁.get? b=some o) :
  Inv (cx X N scope s.heap.objs.size cl s H fp (X.pn++J3)) [] (cH k fi σ) H { s with heap:=h₁,toks:=t' }:=by
 have memOf:∀(l:List (Str×gK)) (x:Str) (kd:gK),l.lookup x=some kd->(x,kd)∈l:=by
  intro l
  induction l with
  |nil=>intro x kd e;cases e
  |cons a r ih =>
   intro x kd e;obtain⟨n,k'⟩:=a;rw[fN]at e;cases hx:x==n with
   |true =>
    rw[hx]at e;have:x=n:=by simpa using hx
    subst this;cases e;exact eR
   |false=>rw[hx]at e;exact eQ _ (ih x kd e)
 refine⟨Ad S I hcl hcf hf hlt,rfl,I.bare,Un.kept old,⟨m,hn,fun i x v e1 e2 e3=>?_⟩,fun x c e=>?_,I.hok.fresh (ax _),fun x c e=>I.freeC x c (hcl x c e),fun p hp=>?_,I.hok.kept old,?_⟩
 ·obtain⟨j,t,rfl,ht,hv⟩:=oS e2;obtain⟨y,hy,hXN,hfr⟩:=S.sl j t ht;have e1':N[k+j]?=some x:=e1;rw[hy]at e1';cases e1';have hmem:=memOf _ _ _ hfr;obtain⟨c,hc⟩:=vq.mp (hcf _ hmem rfl);have hX:=hcl _ _ hc;obtain⟨mX,hnX,hlX⟩:=I.loc;have kX:=S.fr _ hmem rfl;obtain⟨u,ru,lk⟩:=hlX t x v hXN hv (by rcases kX with z|z;exact .inr (.inl z);exact .inr (.inr z));refine⟨u,ru,.inr ⟨?_,c,hc,?_⟩⟩
  ·exact fo hfr
  ·rcases lk with⟨z,_⟩|⟨_,c',e',q⟩
   ·have z':X.env.scope.names.lookup x=some .local:=z;rcases kX with kX|kX<;>rw[z']at kX<;>cases kX
   ·rw[hX]at e';cases e';obtain⟨o,ho,hd⟩:=q;exact⟨o,old _ o ho,hd⟩
 ·obtain⟨v,o,ho,hd⟩:=I.cell x c (hcl x c e);exact⟨v,o,old _ o ho,hd⟩
 ·rw[c6]at hp;obtain⟨e,n,ne,nf,d⟩:=I.pin p hp;refine⟨old _ _ e,n,b_ (be e),fun z=>?_,d⟩;rcases c_.mp (I.stkSub _ z)with q|q
  ·exact ne q
  ·exact nf q
 ·rw[u9];exact S.len.symm
structure sv(X:Cx)(J3:Zd)(H:Hp)(C:Addr):Prop where
 free:H C=none
 loc:C≠X.env.locals
 young:X.s₀.heap.objs.size<=C
 cells:∀x c,X.env.cells.lookup x=some c->c≠C
 pin:∀p∈X.pn++J3,p.1≠C
theorem oR{elt iter tg:Expr}{ifs:List Expr}{scope:Scope}{pos:Pos}{k:Nat}{N:Zb}{fi:List Nat}{cl:List (Str×Addr)}{g:TG}{tc:TT}{te:TE}{it:Addr}{fp:Ze}{tn:Nat->Heap->Prop}{J:It}{H2:Hp}{s2:Shared}{Q:VK}
  {E:Zc}{RR:Value->Addr->Result->Shared->Prop}
  (S:kj X.env.scope scope k N X.N fi) (hc:X.calm=true) (hcl:∀x c,cl.lookup x=some c->X.env.cells.lookup x=some c) (hcf:∀y∈scope.names,y.2=.free->(cl.lookup y.1).isSome=true)
  (hg:∀C cl s₀ H₀ ex pn,PG (cx X N scope C cl s₀ H₀ ex pn) tg g) (ho:xo k g) (ht:∀C cl s₀ H₀ ex pn,AI (cx X N scope C cl s₀ H₀ ex pn) ifs tc) (he:∀C cl s₀ H₀ ex pn,PE (cx X N scope C cl s₀ H₀ ex pn) elt te)
  (I2:Inv X J3 σ H2 s2) (T:se X.prog X.w X.K tg J fp it tn) (st2:tn 0 s2.heap) (f2:∀b∈fp,lp X J3 H2 b)
  (hw:∀l,H2 l=none->∃W:Nat->Nat->List V->Hp->Prop,(∃m,W 0 m [] (upd H2 l (.lst [])))/\∀i m vs H2,W i m vs H2->H2 l=some (.lst vs) /\
   ((J.stop i H2/\Q (.ref l) H2)∨(J.go i H2/\∀x H3,J.yld i H2 x H3->g x (cH k fi σ) H3 fun σ2 H4=>tc σ2 H4 fun b H5 =>
    if b=true then te σ2 H5 fun v H6=>H6 l=some (.lst vs)/\vs.length<aj/\∃m',m'<m/\W (i+1) m' (vs++[v]) (upd H6 l (.lst (vs++[v])))else ∃m',m'<m/\W (i+1) m' vs H5)))
  (hR:∀D C H' s' m',Inv X J3 σ H' s'->s'.heap.Ns C m'->sv X J3 H' C->Q (.ref D) H'->RR (.ref D) C (.ok .next) s') :
  wpAny (model X.prog X.w) X.A (newList []) (fun acc s₃=>wpAny (model X.prog X.w) X.A (newFunctionEnv scope X.env.globals cl [] X.env.qual none .none (some X.env)) (fun cenv s₄ =>
   zzl72 (model X.prog X.w) X.A (.compStart (.ListComp elt [⟨tg,iter,ifs,0⟩] scope pos) 0 (.ref it) acc { cenv with scope:=relabel scope X.env }) (RR acc cenv.locals) s₄) E s₃) E s2:=by
 have hfresh:H2 s2.heap.objs.size=none:=I2.fresh;obtain⟨W,⟨m0,w0⟩,turn⟩:=hw _ hfresh;refine qC (wpAny_newFunctionEnv S.cell (by intro y hy;simp at hy) (fun h₁ hns₁ hsb₁=>?_) S.kind);dsimp only at hns₁ hsb₁ ⊢;have I3:Inv X J3 σ (upd H2 s2.heap.objs.size (.lst [])) { s2 with heap:=s2.heap.push { cls:=.type "list",data:=.seq ([]:Zf).toArray },toks:=s2.toks }:=I2.lnew (ys:=[]) .nil (ee _);generalize hs3:({ s2 with heap:=s2.heap.push { cls:=.type "list",data:=.seq ([]:Zf).toArray },toks:=s2.toks }:Shared)=s3 at I3;have hh3:s3.heap=s2.heap.push { cls:=.type "list",data:=.seq ([]:Zf).toArray }:=by rw[<-hs3]
 have hsz:s3.heap.objs.size=s2.heap.objs.size+1:=by rw[hh3,Heap.size_push]
 have hlt:∀b∈fp,b<s2.heap.objs.size:=fun b hb=>by
  obtain⟨o,e,_⟩:=T.obj 0 _ st2 b hb;exact be e
 have f3:∀b∈fp,lp X J3 (upd H2 s2.heap.objs.size (.lst [])) b:=fun b hb=>⟨by rw[ah (b_ (hlt b hb))];exact(f2 b hb).1,(f2 b hb).2⟩;have hlt3:∀b∈fp,b<s3.heap.objs.size:=fun b hb=>by rw[hsz];exact Nat.lt_succ_of_lt (hlt b hb)
 have old:∀b o,s3.heap.get? b=some o->h₁.get? b=some o:=fun b o e=>by
  have hb:b≠s3.heap.objs.size:=b_ (be e);rw[hh3]at e hb;exact hsb₁.extBut b o hb (bY _ e)
 have hns:h₁.Ns s3.heap.objs.size (fun x=>([]:List (Str×Value)).reverse.lookup x):=by rw[hh3];exact hns₁
 have I4:Inv (cx X N scope s3.heap.objs.size cl s3 (upd H2 s2.heap.objs.size (.lst [])) fp (X.pn++J3)) [] (cH k fi σ) (upd H2 s2.heap.objs.size (.lst [])) { s3 with heap:=h₁,toks:=s2.toks+([]:List (Str×Value)).length } :=
  y3 S I3 hcl hcf f3 hlt3 hns old
 have st4:tn 0 h₁:=T.keep _ _ _ st2 fun b hb o e=>old b o (by rw[hh3];exact bY _ e);generalize hY:cx X N scope s3.heap.objs.size cl s3 (upd H2 s2.heap.objs.size (.lst [])) fp (X.pn++J3)=Y at I4;have yp:Y.prog=X.prog:=by rw[<-hY];rfl
 have yw:Y.w=X.w:=by rw[<-hY];rfl
 have yK:Y.K=X.K:=by rw[<-hY];rfl
 have yA:Y.A=X.A:=by rw[<-hY];rfl
 have yx:Y.xe=XF:=by rw[<-hY];rfl
 have yc:Y.calm=true:=by rw[<-hY];exact hc
 have gY:PG Y tg g:=by rw[<-hY];exact hg _ _ _ _ _ _
 have tY:AI Y ifs tc:=by rw[<-hY];exact ht _ _ _ _ _ _
 have eY:PE Y elt te:=by rw[<-hY];exact he _ _ _ _ _ _
 have yenv:Y.env=compEnvC scope cl s3.heap.objs.size X.env:=by rw[<-hY];rfl
 have fY:∀{H':Hp},(∀b∈fp,H' b=none)->∀b∈fp,lp Y [] H' b:=fun hn b hb=>by
  obtain⟨f0,f1,f2',f3',f4,f5⟩:=f3 b hb;rw[<-hY];refine⟨hn b hb,b_ (hlt3 b hb),fun z=>?_,.inl hb,fun x c e=>f4 x c (hcl x c e),fun p hp=>?_⟩
  ·rcases c_.mp (I3.stkSub _ z)with q|q
   ·exact f1 q
   ·exact f2' q
  ·rw[c6]at hp;exact f5 p hp
 have loop:∀s4:Shared,s4={ s3 with heap:=h₁,toks:=s2.toks+([]:List (Str×Value)).length } ->
   zzl72 (model X.prog X.w) X.A (.compLoop (.ListComp elt [⟨tg,iter,ifs,0⟩] scope pos) 0 (.ref it) (.ref s2.heap.objs.size) Y.env) (RR (.ref s2.heap.objs.size) s3.heap.objs.size) s4:=by
  rintro s4 rfl;refine rV (fun n s'=>∃i vs H',Inv Y [] (cH k fi σ) H' s'/\tn i s'.heap/\(∀b∈fp,H' b=none)/\W i n vs H') ?_ m0 ⟨0,[],_,I4,st4,fun b hb=>(f3 b hb).1,w0⟩;rintro n s5 ⟨i,vs,H5,I5,st5,fr5,w5⟩;obtain⟨hl5,hcase⟩:=turn i n vs H5 w5;rcases hcase with⟨stop,q⟩|⟨go,step⟩
  ·have d:=T.done Y yp yw yK yc i [] s5 _ H5 XF I5 (fY fr5) st5 stop;rw[yA]at d;refine bO d fun r s6 ⟨hr,I6⟩=>?_;subst hr;have hu:Un (xA X.stack) fp (upd H2 s2.heap.objs.size (.lst [])) H5 s3.heap s6.heap:=by have:=I6.base;rw[<-hY]at this;exact this
   have ho6:s6.os=s3.os:=by have:=I6.os;rw[<-hY]at this;exact this
   have hok6:jt X.prog X.w X.K H5 s6.heap:=by have:=I6.hok;rw[<-hY]at this;exact this
   have hC6:H5 s3.heap.objs.size=none:=by have:=I6.free;rw[<-hY]at this;exact this
   obtain⟨m6,hn6,_⟩:=I6.loc;have hn6':s6.heap.Ns s3.heap.objs.size m6:=by rw[<-hY]at hn6;exact hn6
   have IX:Inv X J3 σ H5 s6:=I3.call' ho6 hu hok6 I6.bare fun b hb=>by
    obtain⟨f0,f1,f2',f3',f4,f5⟩:=f3 b hb;exact⟨f3',f1,f4,f5⟩
   refine hR _ _ H5 s6 m6 IX hn6' ⟨hC6,vC I3.lt,I3.sz,fun x c e z=>?_,fun p hp z=>?_⟩ q
   ·obtain⟨v,o,ho,_⟩:=I3.cell x c e;exact absurd (be ho) (by rw[z];exact mv _)
   ·exact absurd (be (I3.pin p hp).1) (by rw[z];exact mv _)
  ·have d:=T.item Y yp yw yK yc i [] s5 _ H5 XF I5 (fY fr5) st5 go;rw[yA]at d;refine bO d fun r s6 ⟨u,hr,h6⟩=>?_;subst hr;refine bO h6 fun _ s7 ⟨x,H7,I7,r7,y7,st7,fr7⟩=>?_;have I7':=I7.pinned (fY fr7) (T.obj _ _ st7);have a7:=gY _ s7 _ H7 x u _ I7' r7 (ho _ _ _ _ (step x H7 y7));rw[yp,yw,yA,yx]at a7;refine bO a7 fun _ s8 ⟨σ8,H8,I8,q8,l8,k8⟩=>?_;have a8:=tY _ s8 σ8 H8 _ I8 q8;rw[yp,yw,yA,yx]at a8;have again:∀{H9:Hp}{s9:Shared}{vs':List V}{m':Nat},Inv Y ([]++oy fp s7.heap) σ8 H9 s9->m'<n->W (i+1) m' vs' H9->∃m,m<n/\∃i vs H',Inv Y [] (cH k fi σ) H' s9/\tn i s9.heap/\(∀b∈fp,H' b=none)/\W i m vs H':=fun{H9 s9 vs' m'} I9 hm w9=>by
    refine⟨m',hm,i+1,vs',H9,(I9.unpinned).weak l8.symm (fun j v e=>?_),T.keep _ _ _ st7 fun b hb o e=>(I9.pin (b,o) (cL _ (cL _ (h9 hb e)))).1,fun b hb=>?_,w9⟩
    ·obtain⟨j',t,rfl,_,_⟩:=oS e;rw[k8 _ (Nat.le_add_right _ _)];exact e
    ·obtain⟨o,e,_⟩:=T.obj _ _ st7 b hb;exact(I9.pin (b,o) (cL _ (cL _ (h9 hb e)))).2.1
   refine bO a8 fun b s9 ⟨H9,I9,q9⟩=>?_;cases b with
   |false =>
    rw[if_neg fI]at q9 ⊢;obtain⟨m',hm,w9⟩:=q9;exact again I9 hm w9
   |true =>
    rw[if_pos rfl]at q9 ⊢;have a9:=eY _ s9 σ8 H9 _ I9 q9;rw[yp,yw,yA,yx]at a9;refine bO a9 fun y s10 ⟨v,H10,I10,r10,hl10,hsz10,m',hm,w10⟩=>?_;have a10:=cW (X:=Y) _ s10 σ8 H10 (.ref s2.heap.objs.size) [v] (.ref s2.heap.objs.size) [y] (fun z H'=>z=.non/\H'=upd H10 s2.heap.objs.size (.lst (vs++[v]))) I10 rfl (.cons r10 .nil) ⟨_,vs,v,rfl,rfl,hl10,hsz10,rfl,rfl⟩;rw[yp,yw,yA,yx]at a10;refine bO a10 fun _ s11 ⟨_,H11,I11,_,_,e11⟩=>?_;subst e11;exact again I11 hm w10
 have hstart:=codeAny_compStart_list (prog:=X.prog) (w:=X.w) (A:=X.A) (elt:=elt) (target:=tg) (iter:=iter) (ifs:=ifs) (rest:=[]) (scope:=scope) (pos:=pos) (it:=.ref it) (acc:=.ref s2.heap.objs.size) (env:=Y.env) (loop _ rfl) (T.self _ 0 _ _ _ st4 (loop _ rfl));rw[yenv]at hstart;rw[<-hs3]at hstart;exact hstart
end
section
variable{X:Cx}
theorem sv.turned{J3:Zd}{σ:St}{H:Hp}{s:Shared}{C:Addr}{h':Heap}(c:sv X J3 H C)(I:Inv X J3 σ H s)(hs:iE C s.heap h'):Inv X J3 σ H { s with heap:=h' } :=
 I.turned (t':=s.toks) (fun b o hb e=>hs.extBut b o hb e) c.free c.loc (.inr c.young) c.cells c.pin
theorem zU{elt iter tg:Expr}{ifs:List Expr}{scope:Scope}{pos:Pos}{k:Nat}{N:Zb}{fi:List Nat}{wi:TI}{g:TG}{tc:TT}{te:TE}(hS:jr X.env.scope scope k N X.N fi=true)(hc:X.calm=true)(hi:PI X tg iter wi)
  (hg:∀C cl s₀ H₀ ex pn,PG (cx X N scope C cl s₀ H₀ ex pn) tg g) (ho:xo k g) (ht:∀C cl s₀ H₀ ex pn,AI (cx X N scope C cl s₀ H₀ ex pn) ifs tc) (he:∀C cl s₀ H₀ ex pn,PE (cx X N scope C cl s₀ H₀ ex pn) elt te)
  (hs:∀x,sF iter X.env x=pure x:=by intro _;rfl):PE X (.ListComp elt [⟨tg,iter,ifs,0⟩] scope pos) (bZ k fi wi g tc te):=by
 intro J3 s σ H Q I h;have S:=kj.of hS;obtain⟨cl,hclos,hcl,hcf⟩:=oU (env:=X.env) (scope:=scope) fun y hy e=>I.ok.has y.1 (S.fr y hy e);rw[eval_ListComp];refine wpAny_comprehension_free (use:=none) rfl hs hclos S.kind S.nm (bO (hi J3 s σ H _ I h) fun v s1 h1=>bO h1 fun itv s2 h2=>?_);obtain⟨it,fp,tn,J,H2,e,I2,T,st2,f2,hw⟩:=h2;subst e;refine oR (RR:=fun acc C=>compPost (model X.prog X.w) X.A X.xe none (EP X J3 σ Q) acc C) S hc hcl hcf hg ho ht he I2 T st2 f2 hw ?_;intro D C H' s' m' I' hn ce q;exact⟨m',hn,fun h' hs'=>⟨.ref D,H',ce.turned I' hs',rfl,q⟩⟩
theorem uO{elt iter tg:Expr}{ifs:List Expr}{scope:Scope}{pos spos py:Pos}{k:Nat}{N:Zb}{fi:List Nat}{wi:TI}{g:TG}{tc:TT}{te:TE}{j:Nat}{y:Str}(hN:X.N.Nodup)(hj:X.N[j]?=some y)(hy:Loc X.env.scope y)(hS:jr X.env.scope scope k N X.N fi=true)(hc:X.calm=true)(hi:PI X tg iter wi)
  (hg:∀C cl s₀ H₀ ex pn,PG (cx X N scope C cl s₀ H₀ ex pn) tg g) (ho:xo k g) (ht:∀C cl s₀ H₀ ex pn,AI (cx X N scope C cl s₀ H₀ ex pn) ifs tc) (he:∀C cl s₀ H₀ ex pn,PE (cx X N scope C cl s₀ H₀ ex pn) elt te)
  (hsw:mq (.ListComp elt [⟨tg,iter,ifs,0⟩] scope pos) (some (.Name y py)) spos.line X.env=pure true:=by rfl)
  (hs:∀x,sF iter X.env x=pure x:=by intro _;rfl) (hf:X.fn y=true∨X.env.scope.names.lookup y=some .local:=by first|exact .inl rfl|exact .inr rfl|assumption) :
  PS X (.Assign [.Name y py] (.ListComp elt [⟨tg,iter,ifs,0⟩] scope pos) spos) (aK (bZ k fi wi g tc te) (cS j)):=by
 intro J3 s σ H D I h;have S:=kj.of hS;obtain⟨cl,hclos,hcl,hcf⟩:=oU (env:=X.env) (scope:=scope) fun y hy e=>I.ok.has y.1 (S.fr y hy e);rw[exec_Assign_Name_used _ _ _ _ hsw];refine ar (wpAny_standAt (ar ?_));show wpAny _ X.A (do let _ <- comprehension (.ListComp elt [⟨tg,iter,ifs,0⟩] scope pos) scope X.env _ (newList []) false (eval iter X.env) (some (assign (.Name y py) X.env))) _ _ s
 refine ar (kB (wpAny_comprehension_free (use:=some (assign (.Name y py) X.env)) (Q:=fun _ s'=>SP X J3 D .next s') rfl hs hclos S.kind S.nm
  (bO (hi J3 s σ H _ I h) fun v s1 h1=>bO h1 fun itv s2 h2=>?_)) (fun _ s' hq=>aN (aN hq)) fun _ _ e=>e)
 obtain⟨it,fp,tn,J,H2,e,I2,T,st2,f2,hw⟩:=h2;subst e;refine oR (RR:=fun acc C=>compPost (model X.prog X.w) X.A X.xe (some (assign (.Name y py) X.env)) (fun _ s'=>SP X J3 D .next s') acc C) (Q:=fun x H1=>cS j x σ H1 D.nx) S hc hcl hcf hg ho ht he I2 T st2 f2 hw ?_;intro A C H' s' m' I' hn ce q;show wpAny _ X.A (assign (.Name y py) X.env (.ref A)) _ _ _;refine wpAny_assign_Name (pV I' hN hj hy (v:=.ref A) rfl (fun s'' I'' hsb=>?_) hf);obtain⟨a,hsa,ha⟩:=hsb;have hCa:C≠a:=by
  rcases ha with z|z
  ·rw[z];exact ce.loc
  ·exact fJ (ce.cells y a z)
 refine⟨m',hn.sameBut hsa hCa,fun h' hs'=>?_⟩;exact⟨_,H',ce.turned I'' hs',q⟩
end
theorem Inv.turnedNew{X:Cx}{J3:Zd}{σ:St}{H:Hp}{s:Shared}{h2:Heap}{t':Nat}{ch:Ze}{o:HO}(I:Inv X J3 σ H s)(hf:∀b∈ch,lp X J3 H b)
  (k:∀b q,b∉ch->s.heap.get? b=some q->h2.get? b=some q) (hq:∃q,h2.get? s.heap.objs.size=some q) (hno:∀y,o≠.own y) (new:bw X.prog X.w X.K (upd H s.heap.objs.size o) h2 s.heap.objs.size o) :
  Inv X J3 σ (upd H s.heap.objs.size o) { s with heap:=h2,toks:=t' }:=by
 have hn0:H s.heap.objs.size=none:=I.fresh;have nsz:∀b q,s.heap.get? b=some q->b≠s.heap.objs.size:=fun b q e=>b_ (be e);have tr:∀b u,H b=some u->b∉ch:=fun b u e z=>by rw[(hf b z).1]at e;cases e
 refine I.step (g':=s.gens) (d':=s.drawn) (ch:=ch) (fun b hb=>?_) (fun b q _ _ hc e _=>k b q hc e) (fun b q _ _ hc e _=>⟨q.slots,k b q hc e⟩) (fun b q _ e n=>by rw[ah (nsz b q e)];exact n) (fun b q hc e=>⟨q,k b q hc e⟩)
  (fun b xs e=>by rw[ah (ac e hn0)];exact e) (fun b q u e=>by rw[ah (ac e hn0)];exact e) (fun b ps e=>⟨#[],by rw[ah (ac e hn0),e];simp⟩) (fun m hm=>?_) (fun b u e=>?_) I.bare
 ·obtain⟨f0,f1,f2,f3,f4,f5⟩:=hf b hb;exact⟨f3,f1,f4,f5⟩
 ·obtain⟨q,es,ep,ho,r⟩:=hm;exact⟨q,es,ep,k _ q (fun z=>(hf _ z).2.1 rfl) ho,r⟩
 ·by_cases hb:b=s.heap.objs.size
  ·subst hb;rw[aa]at e;cases e;exact new
  ·rw[ah hb]at e;refine(I.hok b u e).stay (fun c v hc q=>k c v ?_ q) (fun c q=>by rw[ah (ac q hn0)];exact q) fun c xs q=>by rw[ah (ac q hn0)];exact q
   rcases hc with z|z
   ·subst z;exact tr _ _ e
   ·exact tr _ _ z
def BM(K:Za)(a:Addr):It :=
 ⟨fun i H=>∃xs x,ay K H a xs/\xs[i]?=some x,fun i H x H'=>∃p v,x=.ref p/\H p=none/\(∀xs,ay K H a xs->xs[i]?=some v)/\H'=upd H p (.tup [.int i,v]),fun i H=>∃xs,ay K H a xs/\xs.length<=i⟩
theorem wt{P:bj}{w:World}{K:Za}{es:List Expr}{kx:Nat}{J7:Pos}(a e it:Addr)(hne:e≠it):
  se P w K (.Tuple es kx J7) (BM K a) [e,it] e (fun i h=>(∃old,IsEnum h e it i old)/\h.IsListIter it a i) where
 mem:=by simp
 obj:=fun i h st b hb=>by
  obtain⟨⟨old,he⟩,o,ho,hc,hd⟩:=st;rcases c_.mp hb with z|z
  ·subst z;exact⟨_,he,fun v z=>by cases z⟩
  ·have z':b=it:=by simpa using z
   subst z';exact⟨o,ho,fun v z=>by rw[hd]at z;cases z⟩
 keep:=fun i h h' st k=>⟨let⟨old,he⟩:=st.1;⟨old,k e (by simp) _ he⟩,st.2.at fun o e=>k it (by simp) o e⟩
 item:=by
  intro X hP hw hK hc i J3 s σ H E I hf st hg;subst hP hw hK;obtain⟨⟨old,he⟩,hit⟩:=st;obtain⟨xs,x,hq,hx⟩:=hg;obtain⟨its,rv,p,hz⟩:=I.list hq;obtain⟨u,hu,ru⟩:=rv.get hx;obtain⟨e0,e1,e2,e3,e4,e5⟩:=hf e (by simp);obtain⟨f0,f1,f2,f3,f4,f5⟩:=hf it (by simp);refine wpAny_pyNext_enum_item he hit p.isList (x:=u) (by simpa using hu) hne fun h' ho' hit' ht' hsz' hk'=>?_;refine⟨_,rfl,wpAny_letOwnedTupleGo_enum (s:={ s with heap:=h',toks:=s.toks+1 }) ho' fun h2 he2 hs2=>?_⟩;have hs2':iE e h' h2:=hs2;have hpe:s.heap.objs.size≠e:=vC (be he);have ht2:h2.get? s.heap.objs.size=some { cls:=.type "tuple",data:=.seq #[.int i s.toks,u] }:=hs2'.extBut _ _ hpe ht';have hn0:H s.heap.objs.size=none:=I.fresh;have hue:upd H s.heap.objs.size (.tup [.int i,x]) e=none:=by rw[ah (fJ hpe)];exact e0
  have hpi:s.heap.objs.size≠it:=by
   obtain⟨o,ho,_⟩:=hit;exact vC (be ho)
  have hui:upd H s.heap.objs.size (.tup [.int i,x]) it=none:=by rw[ah (fJ hpi)];exact f0
  have I2:Inv X J3 σ (upd H s.heap.objs.size (.tup [.int i,x])) { s with heap:=h2,toks:=s.toks+1 }:=by
   refine I.turnedNew (ch:=[e,it]) hf (fun b o hb q=>?_) ⟨_,ht2⟩ (fun _ z=>nomatch z) ⟨by show 2<=aj;decide,[.int i s.toks,u],.cons ⟨_,rfl⟩ (.cons ru .nil),⟨_,ht2,rfl,_,rfl⟩⟩;have nb1:b≠e:=fun z=>hb (by simp[z]);have nb2:b≠it:=fun z=>hb (by simp[z]);exact hs2'.extBut _ _ nb1 (hk' b o nb1 nb2 q)
  refine⟨.ref s.heap.objs.size,_,I2,rfl,⟨_,x,rfl,hn0,fun ys hy=>by rw[I.list_inj hy hq];exact hx,rfl⟩,⟨⟨u,by simpa using he2⟩,hit'.at fun o y=>(hs2'.2 it (fJ hne)).trans y⟩,fun b hb=>?_⟩;rcases c_.mp hb with z|z
  ·subst z;exact hue
  ·have z':b=it:=by simpa using z
   subst z';exact hui
 done:=by
  intro X hP hw hK hc i J3 s σ H E I hf st hg;subst hP hw hK;obtain⟨⟨old,he⟩,hit⟩:=st;obtain⟨xs,hq,hx⟩:=hg;obtain⟨its,rv,p,hz⟩:=I.list hq;obtain⟨f0,f1,f2,f3,f4,f5⟩:=hf it (by simp);have hl:=rv.length;exact wpAny_pyNext_enum_end (I.ok.hd hc) he hit p.isList (by simp;omega) fun h' eb=>⟨rfl,I.turned (t':=s.toks) (fun b o hb e=>eb b o hb e) f0 f1 f3 f4 f5⟩
 self:=fun _ _ _ _ _ st h=>let⟨_,he⟩:=st.1;wpAny_pyIter_enum he h
section
variable{X:Cx}{p pos:Pos}{es:List Expr}{kx:Nat}{J7:Pos}
def p8(K:Za)(ta:TA):TI:=fun σ H R=>ta σ H fun vs H1=>∃a,vs=[.ref a]/\(∃xs,ay K H1 a xs)/\R (BM K a) H1
theorem kY{a:Expr}{ta:TA}(hg:Gl X "enumerate")(hm:X.mg "enumerate"=none)(ha:PA X [a] ta)(hs:aw [a] X.env=[(false,eval a X.env)]:=by rfl):PI X (.Tuple es kx J7) (.Call (.Name "enumerate" p) [a] [] pos) (p8 X.K ta):=by
 intro J3 s σ H R I h;refine Call_ (oG I hg hm boot_enumerate (PyProof.Rows.callWith_type1 (bO (ha pos J3 s σ H _ I h) fun us s1 ⟨vs,H1,I1,r1,q1⟩=>?_) hs rfl));obtain⟨l,e,⟨xs,hq⟩,q⟩:=q1;subst e;obtain⟨u,rfl,ru⟩:=vals1 r1;cases ru;obtain⟨its,rv,pl,hz⟩:=I1.list hq;refine call_enumerate_list pl.isList fun h' he hit hsz hk=>?_;refine wpAny_pyIter_enum (s:={ s1 with heap:=h' }) he ?_;have hk':∀b o,s1.heap.get? b=some o->h'.get? b=some o:=hk;have I2:Inv X J3 σ H1 { s1 with heap:=h' }:=I1.kept (t':=s1.toks) hk';refine⟨_,[s1.heap.objs.size+1,s1.heap.objs.size],_,_,H1,rfl,I2,wt l _ _ (Nat.succ_ne_self _),⟨⟨_,he⟩,hit⟩,fun b hb=>?_,q⟩;have hb':s1.heap.objs.size<=b:=by
  rcases c_.mp hb with z|z
  ·rw[z];exact Nat.le_succ _
  ·have z':b=s1.heap.objs.size:=by simpa using z
   rw[z'];exact ax _
 exact I1.fpOk hb' (I1.hok.fresh hb')
end
def BW(x:Str):It:=⟨fun i _=>i<x.cps.size,fun i H y H'=>H'=H/\∃c,x.cps[i]?=some c/\y=.str ⟨#[c]⟩,fun i _=>x.cps.size<=i⟩
theorem uo{P:bj}{w:World}{K:Za}{tg:Expr}(x:Str)(t:Tok)(it:Addr):se P w K tg (BW x) [it] it (fun i h=>h.IsStrIter it "str_ascii_iterator" x t i) where
 mem:=by simp
 obj:=fun i h st b hb=>by
  have e:b=it:=by simpa using hb
  subst e;obtain⟨o,e,c,d⟩:=st;exact⟨o,e,fun v z=>by rw[d]at z;cases z⟩
 keep:=fun i h h' st k=>by
  obtain⟨o,e,c,d⟩:=st;exact⟨o,k it (by simp) o e,c,d⟩
 item:=by
  intro X hP hw hK hc i J3 s σ H E I hf st hg;subst hP hw hK;have hlt:i<x.cps.size:=hg;obtain⟨f0,f1,f2,f3,f4,f5⟩:=hf it (by simp);have hx:x.cps[i]?=some x.cps[i]:=by simp[hlt]
  refine wpAny_pyNext_ascii_item st hx fun h' st' sb=>?_;have I1:Inv X J3 σ H { s with heap:=h',toks:=s.toks+1 }:=I.turned (t':=s.toks+1) (fun b o hb e=>(sb.2 b hb).trans e) f0 f1 f3 f4 f5;obtain⟨o,e,c,d⟩:=id st';exact⟨_,rfl,p9 (s:={ s with heap:=h',toks:=s.toks+1 }) e c d (by decide) ⟨.str ⟨#[x.cps[i]]⟩,H,I1,⟨_,rfl⟩,⟨rfl,_,hx,rfl⟩,st',fun b hb=>(hf b hb).1⟩⟩
 done:=by
  intro X hP hw hK hc i J3 s σ H E I hf st hg;subst hP hw hK;have hge:x.cps.size<=i:=hg;obtain⟨f0,f1,f2,f3,f4,f5⟩:=hf it (by simp);exact wpAny_pyNext_ascii_end (I.ok.hd hc) st (by simp;omega) fun h' eb=>⟨rfl,I.turned (t':=s.toks) (fun b o hb e=>eb b o hb e) f0 f1 f3 f4 f5⟩
 self:=fun _ _ _ _ _ st h=>wpAny_pyIter_striter_ascii st h
theorem wq{P:bj}{w:World}{K:Za}{tg:Expr}(x:Str)(t:Tok)(it:Addr):se P w K tg (BW x) [it] it (fun i h=>h.IsStrIter it "str_iterator" x t i) where
 mem:=by simp
 obj:=fun i h st b hb=>by
  have e:b=it:=by simpa using hb
  subst e;obtain⟨o,e,c,d⟩:=st;exact⟨o,e,fun v z=>by rw[d]at z;cases z⟩
 keep:=fun i h h' st k=>by
  obtain⟨o,e,c,d⟩:=st;exact⟨o,k it (by simp) o e,c,d⟩
 item:=by
  intro X hP hw hK hc i J3 s σ H E I hf st hg;subst hP hw hK;have hlt:i<x.cps.size:=hg;obtain⟨f0,f1,f2,f3,f4,f5⟩:=hf it (by simp);have hx:x.cps[i]?=some x.cps[i]:=by simp[hlt]
  refine wpAny_pyNext_wide_item st hx fun h' st' sb=>?_;have I1:Inv X J3 σ H { s with heap:=h',toks:=s.toks+1 }:=I.turned (t':=s.toks+1) (fun b o hb e=>(sb.2 b hb).trans e) f0 f1 f3 f4 f5;obtain⟨o,e,c,d⟩:=id st';exact⟨_,rfl,p9 (s:={ s with heap:=h',toks:=s.toks+1 }) e c d (by decide) ⟨.str ⟨#[x.cps[i]]⟩,H,I1,⟨_,rfl⟩,⟨rfl,_,hx,rfl⟩,st',fun b hb=>(hf b hb).1⟩⟩
 done:=by
  intro X hP hw hK hc i J3 s σ H E I hf st hg;subst hP hw hK;have hge:x.cps.size<=i:=hg;obtain⟨f0,f1,f2,f3,f4,f5⟩:=hf it (by simp);exact wpAny_pyNext_wide_end (I.ok.hd hc) st (by simp;omega) fun h' eb=>⟨rfl,I.turned (t':=s.toks) (fun b o hb e=>eb b o hb e) f0 f1 f3 f4 f5⟩
 self:=fun _ _ _ _ _ st h=>wpAny_pyIter_striter_wide st h
section
variable{X:Cx}{p pos:Pos}{tg:Expr}
def BB(tl:TE):TI:=fun σ H R=>tl σ H fun v H1=>∃x,v=.str x/\R (BW x) H1
theorem AU{l:Expr}{tl:TE}(hl:PE X l tl):PI X tg l (BB tl):=by
 intro J3 s σ H R I h;refine bO (hl J3 s σ H _ I h) fun v s1 ⟨y,H1,I1,r1,q1⟩=>?_;obtain⟨x,e,q⟩:=q1;subst e;obtain⟨t,rfl⟩:=r1;have fin:∀b∈[s1.heap.objs.size],lp X J3 H1 b:=fun b hb=>by
  have e:b=s1.heap.objs.size:=by simpa using hb
  subst e;exact I1.fpOk (ax _) (I1.hok.fresh (ax _))
 cases ha:x.cps.all (·<128)
 ·refine wpAny_pyIter_wide ha ?_;exact⟨s1.heap.objs.size,[s1.heap.objs.size],_,_,H1,rfl,I1.kept (t':=s1.toks) fun b o e=>bY _ e,wq x t _,⟨_,dI _ rfl,rfl,rfl⟩,fin,q⟩
 ·refine wpAny_pyIter_ascii ha ?_;exact⟨s1.heap.objs.size,[s1.heap.objs.size],_,_,H1,rfl,I1.kept (t':=s1.toks) fun b o e=>bY _ e,uo x t _,⟨_,dI _ rfl,rfl,rfl⟩,fin,q⟩
end
inductive DT where
 |k (a:di)
 |t (l:List DT)
 |s (l:List DT)
mutual
def AF:(x y:DT)->Decidable (x=y)
 |.k a,.k b=>if h:a=b then Decidable.isTrue (by rw[h])else Decidable.isFalse fun e=>h (by injection e)
 |.t l,.t m=>match decDTs l m with
  |Decidable.isTrue h=>Decidable.isTrue (by rw[h])
  |Decidable.isFalse h=>Decidable.isFalse fun e=>h (by injection e)
 |.s l,.s m=>match decDTs l m with
  |Decidable.isTrue h=>Decidable.isTrue (by rw[h])
  |Decidable.isFalse h=>Decidable.isFalse fun e=>h (by injection e)
 |.k _,.t _=>Decidable.isFalse nofun
 |.k _,.s _=>Decidable.isFalse nofun
 |.t _,.k _=>Decidable.isFalse nofun
 |.t _,.s _=>Decidable.isFalse nofun
 |.s _,.k _=>Decidable.isFalse nofun
 |.s _,.t _=>Decidable.isFalse nofun
def decDTs:(x y:List DT)->Decidable (x=y)
 |[],[]=>Decidable.isTrue rfl
 |[],_::_=>Decidable.isFalse nofun
 |_::_,[]=>Decidable.isFalse nofun
 |a::l,b::m=>match AF a b with
  |Decidable.isTrue h=>match decDTs l m with
   |Decidable.isTrue h'=>Decidable.isTrue (by rw[h,h'])
   |Decidable.isFalse h'=>Decidable.isFalse fun e=>h' (by injection e)
  |Decidable.isFalse h=>Decidable.isFalse fun e=>h (by injection e)
end
instance:DecidableEq DT:=AF
mutual
def DT.depth:DT->Nat
 |.k _=>0
 |.t l=>DT.depths l+1
 |.s l=>DT.depths l+1
def DT.depths:List DT->Nat
 |[]=>0
 |a::r=>max (DT.depth a) (DT.depths r)
end
mutual
def nG(h:Heap):DT->Value->Prop
 |.k a,v=>b0 a v=true
 |.t l,v=>∃a items,v=.ref a/\h.IsTuple a items/\DAts h l items.toList
 |.s l,v=>∃a items,v=.ref a/\h.IsList a items/\DAts h l items.toList
def DAts(h:Heap):List DT->List Value->Prop
 |[],vs=>vs=[]
 |k::r,vs=>∃v us,vs=v::us/\nG h k v/\DAts h r us
end
theorem DAts.length{h:Heap}:∀{xs:List DT}{vs:Zf},DAts h xs vs->xs.length=vs.length
 |[],vs,e=>by have e':vs=[]:=e;rw[e'];rfl
 |x::xs,vs,e=>by
  obtain⟨v,us,rfl,_,h2⟩:=e;simp[DAts.length h2]
theorem DAts.get{h:Heap}:∀{xs:List DT}{vs:Zf}{i:Nat}{v:Value},DAts h xs vs->vs[i]?=some v->∃x,xs[i]?=some x/\nG h x v
 |[],vs,i,v,e,q=>by have e':vs=[]:=e;subst e';simp at q
 |x::xs,vs,i,v,e,q=>by
  obtain⟨u,us,rfl,h1,h2⟩:=e;cases i with
  |zero =>
   simp at q;subst q;exact⟨x,rfl,h1⟩
  |succ i =>
   obtain⟨y,e1,e2⟩:=DAts.get h2 (i:=i) (v:=v) (by simpa using q);exact⟨y,by simpa using e1,e2⟩
theorem DT.depths_get{l:List DT}{x:DT}{i d:Nat}(h:DT.depths l<=d)(e:l[i]?=some x):x.depth<=d:=by
 induction l generalizing i with
 |nil=>simp at e
 |cons a r ih =>
  have h':max a.depth (DT.depths r)<=d:=h;cases i with
  |zero=>simp at e;subst e;omega
  |succ i=>exact ih (by omega) (by simpa using e)
theorem u0{h:Heap}{a:Addr}{i j:Array Value}(x:h.IsList a i)(y:h.IsList a j):i=j:=by
 obtain⟨o,ho,_,n,hd⟩:=x;obtain⟨o',ho',_,n',hd'⟩:=y;rw[ho]at ho';cases ho';rw[hd]at hd';injection hd'
theorem tO{h:Heap}{a:Addr}{i j:Array Value}(x:h.IsTuple a i)(y:h.IsTuple a j):i=j:=by
 obtain⟨o,ho,_,n,hd⟩:=x;obtain⟨o',ho',_,n',hd'⟩:=y;rw[ho]at ho';cases ho';rw[hd]at hd';injection hd'
theorem gZ{h:Heap}{a:Addr}{i j:Array Value}(x:h.IsList a i)(y:h.IsTuple a j):False:=by
 obtain⟨o,ho,hc,_⟩:=x;obtain⟨o',ho',hc',_⟩:=y;rw[ho]at ho';cases ho';rw[hc]at hc';simp at hc'
theorem p6{a b:di}{v:Value}(h1:b0 a v=true)(h2:b0 b v=true):a=b:=by
 rcases ao h1 with⟨i,t,rfl,rfl⟩|⟨i,t,rfl,rfl⟩
 ·rcases ao h2 with⟨j,u,rfl,e⟩|⟨j,u,rfl,e⟩
  ·cases e;rfl
  ·cases e
 ·rcases ao h2 with⟨j,u,rfl,e⟩|⟨j,u,rfl,e⟩
  ·cases e
  ·cases e;rfl
theorem fH{a:di}{b:Addr}(h:b0 a (.ref b)=true):False:=by
 rcases ao h with⟨_,_,_,e⟩|⟨_,_,_,e⟩<;>cases e
theorem nG.inj{h:Heap}:∀(d:Nat) {x y:DT}{v:Value},x.depth<=d->nG h x v->nG h y v->x=y:=by
 have key:∀(d:Nat) (ih:∀{x y:DT}{v:Value},x.depth<=d->nG h x v->nG h y v->x=y) (xs ys:List DT) (vs:Zf),DT.depths xs<=d->DAts h xs vs->DAts h ys vs->xs=ys:=by
  intro d ih xs
  induction xs with
  |nil =>
   intro ys vs _ hx hy;have hx':vs=[]:=hx;subst hx';cases ys with
   |nil=>rfl
   |cons y ys=>obtain⟨_,_,e,_⟩:=hy;cases e
  |cons x xs ihl =>
   intro ys vs hd hx hy;obtain⟨v,us,rfl,hx1,hx2⟩:=hx;cases ys with
   |nil=>have hy':v::us=[]:=hy;cases hy'
   |cons y ys =>
    obtain⟨v',us',e,hy1,hy2⟩:=hy;cases e;have hd':max x.depth (DT.depths xs)<=d:=hd;rw[ih (by omega) hx1 hy1,ihl ys us (by omega) hx2 hy2]
 intro d
 induction d with
 |zero =>
  intro x y v hd hx hy;cases x with
  |t l=>exact absurd hd (by show ¬(DT.depths l+1<=0);omega)
  |s l=>exact absurd hd (by show ¬(DT.depths l+1<=0);omega)
  |k a =>
   cases y with
   |k b=>rw[p6 hx hy]
   |t l=>obtain⟨b,_,rfl,_⟩:=hy;exact(fH hx).elim
   |s l=>obtain⟨b,_,rfl,_⟩:=hy;exact(fH hx).elim
 |succ d ih =>
  intro x y v hd hx hy;cases x with
  |k a =>
   cases y with
   |k b=>rw[p6 hx hy]
   |t l=>obtain⟨b,_,rfl,_⟩:=hy;exact(fH hx).elim
   |s l=>obtain⟨b,_,rfl,_⟩:=hy;exact(fH hx).elim
  |t l =>
   obtain⟨a,i,rfl,hi,hx⟩:=hx;cases y with
   |k b=>exact(fH hy).elim
   |t m =>
    obtain⟨a',j,e,hj,hy⟩:=hy;cases e;rw[tO hj hi]at hy;rw[key d (fun h1=>ih h1) l m i.toList (by have:DT.depths l+1<=d+1:=hd;omega) hx hy]
   |s m =>
    obtain⟨a',j,e,hj,hy⟩:=hy;cases e;exact(gZ hj hi).elim
  |s l =>
   obtain⟨a,i,rfl,hi,hx⟩:=hx;cases y with
   |k b=>exact(fH hy).elim
   |s m =>
    obtain⟨a',j,e,hj,hy⟩:=hy;cases e;rw[u0 hj hi]at hy;rw[key d (fun h1=>ih h1) l m i.toList (by have:DT.depths l+1<=d+1:=hd;omega) hx hy]
   |t m =>
    obtain⟨a',j,e,hj,hy⟩:=hy;cases e;exact(gZ hi hj).elim
theorem dW{l m:List DT}(hl:l.length=m.length):((kA l.length).all fun j=>decide (l[j]?=m[j]?))=decide (l=m):=by
 by_cases e:l=m
 ·subst e;simp
 ·rw[zzr0 e];rw[List.all_eq_false];apply Classical.byContradiction;intro h;apply e;apply List.ext_getElem?;intro i;by_cases hi:i<l.length
  ·apply Classical.byContradiction;intro hne;exact h ⟨i,List.mem_range.mpr hi,by simpa using hne⟩
  ·rw[List.getElem?_eq_none (by omega),List.getElem?_eq_none (by omega)]
section
variable{s:Shared}
theorem AB:∀(d:Nat) {A:Around}{x y:DT}{u v:Value},x.depth<=d->y.depth<=d->A.units+d<cLine->nG s.heap x u->nG s.heap y v->aH A s u v (decide (x=y)):=by
 have leaves:∀{A:Around}{a b:di}{u v:Value},b0 a u=true->b0 b v=true->aH A s u v (decide (DT.k a=DT.k b)):=by
  intro A a b u v h1 h2;have hd:decide (DT.k a=DT.k b)=decide (a=b):=by
   by_cases e:a=b
   ·subst e;simp
   ·have:¬(DT.k a=DT.k b):=fun z=>e (by injection z);rw[zzr0 this,zzr0 e]
  rw[hd];rcases ao h1 with⟨i,t,rfl,rfl⟩|⟨i,t,rfl,rfl⟩
  ·rcases ao h2 with⟨j,u,rfl,rfl⟩|⟨j,u,rfl,rfl⟩
   ·rw[rP];exact aH.int_int i t j u
   ·rw[rO];exact aH.int_str i t j u
  ·rcases ao h2 with⟨j,u,rfl,rfl⟩|⟨j,u,rfl,rfl⟩
   ·rw[rM];exact aH.str_int i t j u
   ·rw[rL];have:=aH.str_str (A:=A) (s:=s) i t j u;rwa[show(i==j)=decide (i=j)from by by_cases e:i=j<;>simp[e]]at this
 have kt:∀{A:Around}{a:di}{u:Value}{b:Addr}{items:Array Value},A.units<cLine->b0 a u=true->s.heap.IsTuple b items->aH A s u (.ref b) false/\aH A s (.ref b) u false:=by
  intro A a u b items hu h1 ht;rcases ao h1 with⟨i,t,rfl,rfl⟩|⟨i,t,rfl,rfl⟩
  ·exact⟨aH.int_tuple i t ht hu,aH.tuple_int i t ht hu⟩
  ·exact⟨aH.str_tuple i t ht hu,aH.tuple_str i t ht hu⟩
 have kl:∀{A:Around}{a:di}{u:Value}{b:Addr}{items:Array Value},A.units<cLine->b0 a u=true->s.heap.IsList b items->aH A s u (.ref b) false/\aH A s (.ref b) u false:=by
  intro A a u b items hu h1 ht;rcases ao h1 with⟨i,t,rfl,rfl⟩|⟨i,t,rfl,rfl⟩
  ·exact⟨aH.int_list i t ht hu,aH.list_int i t ht hu⟩
  ·exact⟨aH.str_list i t ht hu,aH.list_str i t ht hu⟩
 intro d
 induction d with
 |zero =>
  intro A x y u v hdx hdy hu hx hy;cases x with
  |t l=>exact absurd hdx (by show ¬(DT.depths l+1<=0);omega)
  |s l=>exact absurd hdx (by show ¬(DT.depths l+1<=0);omega)
  |k a =>
   cases y with
   |t l=>exact absurd hdy (by show ¬(DT.depths l+1<=0);omega)
   |s l=>exact absurd hdy (by show ¬(DT.depths l+1<=0);omega)
   |k b=>exact leaves hx hy
 |succ d ih =>
  intro A x y u v hdx hdy hu hx hy;have items:∀{l m:List DT}{i j:Array Value},DT.depths l<=d->DT.depths m<=d->DAts s.heap l i.toList->DAts s.heap m j.toList->∀n (h1:n<i.size) (h2:n<j.size),aH A.in1 s i[n] j[n] (decide (l[n]?=m[n]?)):=by
   intro l m i j hl hm hi hj n h1 h2;obtain⟨x,ex,hx⟩:=hi.get (i:=n) (v:=i[n]) (by simp[h1]);obtain⟨y,ey,hy⟩:=hj.get (i:=n) (v:=j[n]) (by simp[h2]);rw[ex,ey];have hd:decide ((some x:Option DT)=some y)=decide (x=y):=by
    by_cases e:x=y
    ·subst e;simp
    ·rw[zzr0 e,zzr0 fun z=>e (da z)]
   rw[hd];exact ih (DT.depths_get hl ex) (DT.depths_get hm ey) (by show A.units+1+d<cLine;omega) hx hy
  cases x with
  |k a =>
   cases y with
   |k b=>exact leaves hx hy
   |t l =>
    obtain⟨b,i,rfl,hi,_⟩:=hy;rw[zzr0 (by intro z;cases z)];exact(kt (by omega) hx hi).1
   |s l =>
    obtain⟨b,i,rfl,hi,_⟩:=hy;rw[zzr0 (by intro z;cases z)];exact(kl (by omega) hx hi).1
  |t l =>
   have hl:DT.depths l<=d:=by have:DT.depths l+1<=d+1:=hdx;omega
   have hx0:=hx;obtain⟨a,i,rfl,hi,hx⟩:=hx;cases y with
   |k b =>
    rw[zzr0 (by intro z;cases z)];exact(kt (by omega) hy hi).2
   |s m =>
    obtain⟨b,j,rfl,hj,_⟩:=hy;rw[zzr0 (by intro z;cases z)];exact aH.tuple_list hi hj (by omega)
   |t m =>
    have hm:DT.depths m<=d:=by have:DT.depths m+1<=d+1:=hdy;omega
    have hy0:=hy;obtain⟨b,j,rfl,hj,hy⟩:=hy;by_cases hab:a=b
    ·subst hab;have e:DT.t l=DT.t m:=nG.inj _ (ax _) hx0 hy0;rw[zzr1 e];exact aH.same _
    ·have r:=SeqAt.RcAt.tuples (A:=A) hi hj (by omega) (items hl hm hx hy);have li:=hx.length;have lj:=hy.length;simp only[jD]at li lj;have q:((kA (min i.size j.size)).all (fun n=>decide (l[n]?=m[n]?)) && i.size==j.size)=decide (DT.t l=DT.t m):=by
      by_cases e:l.length=m.length
      ·have e1:i.size=j.size:=by omega
       rw[<-e1,Nat.min_self,<-li,dW e];by_cases e2:l=m
       ·subst e2;simp
       ·have:¬(DT.t l=DT.t m):=fun z=>e2 (by injection z);rw[zzr0 this,zzr0 e2];rfl
      ·have e1:(i.size==j.size)=false:=by simp;omega
       have:¬(DT.t l=DT.t m):=fun z=>e (by injection z with z;rw[z]);rw[e1,zzr0 this,Bool.and_false]
     rw[q]at r;exact .of_refs hab r
  |s l =>
   have hl:DT.depths l<=d:=by have:DT.depths l+1<=d+1:=hdx;omega
   have hx0:=hx;obtain⟨a,i,rfl,hi,hx⟩:=hx;cases y with
   |k b =>
    rw[zzr0 (by intro z;cases z)];exact(kl (by omega) hy hi).2
   |t m =>
    obtain⟨b,j,rfl,hj,_⟩:=hy;rw[zzr0 (by intro z;cases z)];exact aH.list_tuple hi hj (by omega)
   |s m =>
    have hm:DT.depths m<=d:=by have:DT.depths m+1<=d+1:=hdy;omega
    have hy0:=hy;obtain⟨b,j,rfl,hj,hy⟩:=hy;by_cases hab:a=b
    ·subst hab;have e:DT.s l=DT.s m:=nG.inj _ (ax _) hx0 hy0;rw[zzr1 e];exact aH.same _
    ·have li:=hx.length;have lj:=hy.length;simp only[jD]at li lj;by_cases e:l.length=m.length
     ·have r:=SeqAt.RcAt.lists (A:=A) hi hj (by omega) (by omega) (items hl hm hx hy);rw[<-li,dW e]at r;have q:decide (l=m)=decide (DT.s l=DT.s m):=by
       by_cases e2:l=m
       ·subst e2;simp
       ·have:¬(DT.s l=DT.s m):=fun z=>e2 (by injection z);rw[zzr0 this,zzr0 e2]
      rw[q]at r;exact .of_refs hab r
     ·have:¬(DT.s l=DT.s m):=fun z=>e (by injection z with z;rw[z]);rw[zzr0 this];exact .of_refs hab (SeqAt.RcAt.lists_lengths hi hj (by simp;omega) (by omega))
end
theorem wc(a b:di):decide (DT.k a=DT.k b)=decide (a=b):=by
 by_cases e:a=b
 ·subst e;simp
 ·rw[zzr0 e,zzr0 fun z=>e (by injection z)]
theorem AC(l m:List DT):decide (DT.t l=DT.t m)=decide (l=m):=by
 by_cases e:l=m
 ·subst e;simp
 ·rw[zzr0 e,zzr0 fun z=>e (by injection z)]
theorem AD(l m:List DT):decide (DT.s l=DT.s m)=decide (l=m):=by
 by_cases e:l=m
 ·subst e;simp
 ·rw[zzr0 e,zzr0 fun z=>e (by injection z)]
theorem yV(x y:DT):decide ((some x:Option DT)=some y)=decide (x=y):=by
 by_cases e:x=y
 ·subst e;simp
 ·rw[zzr0 e,zzr0 fun z=>e (da z)]
section
variable{A:Around}{s:Shared}
theorem lb{d:Nat}(hu:A.units+1+d<cLine){l m:List DT}{i j:Array Value}(hl:DT.depths l<=d)(hm:DT.depths m<=d)(hi:DAts s.heap l i.toList)(hj:DAts s.heap m j.toList):
  ∀n (h1:n<i.size) (h2:n<j.size),aH A.in1 s i[n] j[n] (decide (l[n]?=m[n]?)):=by
 intro n h1 h2;obtain⟨x,ex,hx⟩:=hi.get (i:=n) (v:=i[n]) (by simp[h1]);obtain⟨y,ey,hy⟩:=hj.get (i:=n) (v:=j[n]) (by simp[h2]);rw[ex,ey,yV];exact AB d (DT.depths_get hl ex) (DT.depths_get hm ey) hu hx hy
theorem vF{l m:List DT}{i j:Array Value}(hi:DAts s.heap l i.toList)(hj:DAts s.heap m j.toList):((kA (min i.size j.size)).all (fun n=>decide (l[n]?=m[n]?)) && i.size==j.size)=decide (l=m):=by
 have li:=hi.length;have lj:=hj.length;simp only[jD]at li lj;by_cases e:l.length=m.length
 ·have e1:i.size=j.size:=by omega
  rw[<-e1,Nat.min_self,<-li,dW e];simp
 ·have e1:(i.size==j.size)=false:=by simp;omega
  rw[e1,zzr0 fun z=>e (by rw[z]),Bool.and_false]
theorem BE{x y:DT}{u v:Value}(dx:x.depth<=8)(dy:y.depth<=8)(hu:A.units+16<cLine)(hx:nG s.heap x u)(hy:nG s.heap y v):SeqAt.RcAt A s u v (decide (x=y)):=by
 cases x with
 |k a =>
  rcases ao (show b0 a u=true from hx)with⟨i,t,rfl,rfl⟩|⟨i,t,rfl,rfl⟩
  ·cases y with
   |k b =>
    rw[wc];rcases ao (show b0 b v=true from hy)with⟨j,t',rfl,rfl⟩|⟨j,t',rfl,rfl⟩
    ·rw[rP];exact SeqAt.RcAt.int_int i t j t'
    ·rw[rO];exact SeqAt.RcAt.int_str i t j t'
   |t m=>obtain⟨b,j,rfl,hj,_⟩:=hy;rw[zzr0 (by intro z;cases z)];exact SeqAt.RcAt.int_tuple i t hj (by omega)
   |s m=>obtain⟨b,j,rfl,hj,_⟩:=hy;rw[zzr0 (by intro z;cases z)];exact SeqAt.RcAt.int_list i t hj (by omega)
  ·cases y with
   |k b =>
    rw[wc];rcases ao (show b0 b v=true from hy)with⟨j,t',rfl,rfl⟩|⟨j,t',rfl,rfl⟩
    ·rw[rM];exact SeqAt.RcAt.str_int i t j t'
    ·rw[rL];have:=SeqAt.RcAt.str_str (A:=A) (s:=s) i t j t';rwa[show(i==j)=decide (i=j)from by by_cases e:i=j<;>simp[e]]at this
   |t m=>obtain⟨b,j,rfl,hj,_⟩:=hy;rw[zzr0 (by intro z;cases z)];exact SeqAt.RcAt.str_tuple i t hj (by omega)
   |s m=>obtain⟨b,j,rfl,hj,_⟩:=hy;rw[zzr0 (by intro z;cases z)];exact SeqAt.RcAt.str_list i t hj (by omega)
 |t l =>
  obtain⟨a,i,rfl,hi,hx⟩:=hx;have dl:DT.depths l<=7:=by have:DT.depths l+1<=8:=dx;omega
  cases y with
  |k b =>
   rw[zzr0 (by intro z;cases z)];rcases ao (show b0 b v=true from hy)with⟨j,t',rfl,rfl⟩|⟨j,t',rfl,rfl⟩
   ·exact SeqAt.RcAt.tuple_int j t' hi (by omega)
   ·exact SeqAt.RcAt.tuple_str j t' hi (by omega)
  |t m =>
   obtain⟨b,j,rfl,hj,hy⟩:=hy;have dm:DT.depths m<=7:=by have:DT.depths m+1<=8:=dy;omega
   have r:=SeqAt.RcAt.tuples (A:=A) hi hj (by omega) (lb (by omega) dl dm hx hy);rw[vF hx hy]at r;rw[AC];exact r
  |s m=>obtain⟨b,j,rfl,hj,_⟩:=hy;rw[zzr0 (by intro z;cases z)];exact SeqAt.RcAt.tuple_list hi hj (by omega)
 |s l =>
  obtain⟨a,i,rfl,hi,hx⟩:=hx;have dl:DT.depths l<=7:=by have:DT.depths l+1<=8:=dx;omega
  cases y with
  |k b =>
   rw[zzr0 (by intro z;cases z)];rcases ao (show b0 b v=true from hy)with⟨j,t',rfl,rfl⟩|⟨j,t',rfl,rfl⟩
   ·exact SeqAt.RcAt.list_int j t' hi (by omega)
   ·exact SeqAt.RcAt.list_str j t' hi (by omega)
  |t m=>obtain⟨b,j,rfl,hj,_⟩:=hy;rw[zzr0 (by intro z;cases z)];exact SeqAt.RcAt.list_tuple hi hj (by omega)
  |s m =>
   obtain⟨b,j,rfl,hj,hy⟩:=hy;have dm:DT.depths m<=7:=by have:DT.depths m+1<=8:=dy;omega
   have li:=hx.length;have lj:=hy.length;simp only[jD]at li lj;rw[AD];by_cases e:l.length=m.length
   ·have r:=SeqAt.RcAt.lists (A:=A) hi hj (by omega) (by omega) (lb (by omega) dl dm hx hy);rw[<-li,dW e]at r;exact r
   ·rw[zzr0 fun z=>e (by rw[z])];exact SeqAt.RcAt.lists_lengths hi hj (by simp;omega) (by omega)
theorem BF{x y:DT}{u v:Value}(dx:x.depth<=8)(dy:y.depth<=8)(hu:A.units+16<cLine)(hx:nG s.heap x u)(hy:nG s.heap y v):SeqAt.RcNeAt A s u v (!decide (x=y)):=by
 cases x with
 |k a =>
  rcases ao (show b0 a u=true from hx)with⟨i,t,rfl,rfl⟩|⟨i,t,rfl,rfl⟩
  ·cases y with
   |k b =>
    rw[wc];rcases ao (show b0 b v=true from hy)with⟨j,t',rfl,rfl⟩|⟨j,t',rfl,rfl⟩
    ·rw[rP];exact SeqAt.RcNeAt.int_int i t j t'
    ·rw[rO];exact SeqAt.RcNeAt.int_str i t j t'
   |t m=>obtain⟨b,j,rfl,hj,_⟩:=hy;rw[zzr0 (by intro z;cases z)];exact SeqAt.RcNeAt.int_tuple i t hj (by omega)
   |s m=>obtain⟨b,j,rfl,hj,_⟩:=hy;rw[zzr0 (by intro z;cases z)];exact SeqAt.RcNeAt.int_list i t hj (by omega)
  ·cases y with
   |k b =>
    rw[wc];rcases ao (show b0 b v=true from hy)with⟨j,t',rfl,rfl⟩|⟨j,t',rfl,rfl⟩
    ·rw[rM];exact SeqAt.RcNeAt.str_int i t j t'
    ·rw[rL];have:=SeqAt.RcNeAt.str_str (A:=A) (s:=s) i t j t';rwa[show(i==j)=decide (i=j)from by by_cases e:i=j<;>simp[e]]at this
   |t m=>obtain⟨b,j,rfl,hj,_⟩:=hy;rw[zzr0 (by intro z;cases z)];exact SeqAt.RcNeAt.str_tuple i t hj (by omega)
   |s m=>obtain⟨b,j,rfl,hj,_⟩:=hy;rw[zzr0 (by intro z;cases z)];exact SeqAt.RcNeAt.str_list i t hj (by omega)
 |t l =>
  obtain⟨a,i,rfl,hi,hx⟩:=hx;have dl:DT.depths l<=7:=by have:DT.depths l+1<=8:=dx;omega
  cases y with
  |k b =>
   rw[zzr0 (by intro z;cases z)];rcases ao (show b0 b v=true from hy)with⟨j,t',rfl,rfl⟩|⟨j,t',rfl,rfl⟩
   ·exact SeqAt.RcNeAt.tuple_int j t' hi (by omega)
   ·exact SeqAt.RcNeAt.tuple_str j t' hi (by omega)
  |t m =>
   obtain⟨b,j,rfl,hj,hy⟩:=hy;have dm:DT.depths m<=7:=by have:DT.depths m+1<=8:=dy;omega
   have r:=SeqAt.RcNeAt.tuples (A:=A) hi hj (by omega) (lb (by omega) dl dm hx hy);rw[vF hx hy]at r;rw[AC];exact r
  |s m=>obtain⟨b,j,rfl,hj,_⟩:=hy;rw[zzr0 (by intro z;cases z)];exact SeqAt.RcNeAt.tuple_list hi hj (by omega)
 |s l =>
  obtain⟨a,i,rfl,hi,hx⟩:=hx;have dl:DT.depths l<=7:=by have:DT.depths l+1<=8:=dx;omega
  cases y with
  |k b =>
   rw[zzr0 (by intro z;cases z)];rcases ao (show b0 b v=true from hy)with⟨j,t',rfl,rfl⟩|⟨j,t',rfl,rfl⟩
   ·exact SeqAt.RcNeAt.list_int j t' hi (by omega)
   ·exact SeqAt.RcNeAt.list_str j t' hi (by omega)
  |t m=>obtain⟨b,j,rfl,hj,_⟩:=hy;rw[zzr0 (by intro z;cases z)];exact SeqAt.RcNeAt.list_tuple hi hj (by omega)
  |s m =>
   obtain⟨b,j,rfl,hj,hy⟩:=hy;have dm:DT.depths m<=7:=by have:DT.depths m+1<=8:=dy;omega
   have li:=hx.length;have lj:=hy.length;simp only[jD]at li lj;rw[AD];by_cases e:l.length=m.length
   ·have r:=SeqAt.RcNeAt.lists (A:=A) hi hj (by omega) (by omega) (lb (by omega) dl dm hx hy);rw[<-li,dW e]at r;exact r
   ·rw[zzr0 fun z=>e (by rw[z])];exact SeqAt.RcNeAt.lists_lengths hi hj (by simp;omega) (by omega)
end
mutual
def mJ(K:Za)(H:Hp):DT->V->Prop
 |.k a,v=>v=kV a
 |.t l,v=>∃b xs,v=.ref b/\bE K H b xs/\DIns K H l xs
 |.s l,v=>∃b xs,v=.ref b/\ay K H b xs/\DIns K H l xs
def DIns(K:Za)(H:Hp):List DT->List V->Prop
 |[],vs=>vs=[]
 |k::r,vs=>∃v us,vs=v::us/\mJ K H k v/\DIns K H r us
end
section
variable{X:Cx}{J3:Zd}{σ:St}{H:Hp}{s:Shared}
theorem j6(I:Inv X J3 σ H s):∀(d:Nat) {k:DT}{v:V}{u:Value},k.depth<=d->mJ X.K H k v->RelV v u->nG s.heap k u:=by
 have key:∀(d:Nat) (ih:∀{k:DT}{v:V}{u:Value},k.depth<=d->mJ X.K H k v->RelV v u->nG s.heap k u) (ks:List DT) (vs:List V) (us:Zf),DT.depths ks<=d->DIns X.K H ks vs->aI vs us->DAts s.heap ks us:=by
  intro d ih ks
  induction ks with
  |nil =>
   intro vs us _ hx r;have e:vs=[]:=hx;subst e;cases r
   rfl
  |cons k ks ihl =>
   intro vs us hd hx r;obtain⟨v,vs',rfl,h1,h2⟩:=hx;cases r with
   |@cons _ u _ us' r1 r2 =>
    have hd':max k.depth (DT.depths ks)<=d:=hd;exact⟨u,us',rfl,ih (by omega) h1 r1,ihl vs' us' (by omega) h2 r2⟩
 intro d
 induction d with
 |zero =>
  intro k v u hd hx r;cases k with
  |t l=>exact absurd hd (by show ¬(DT.depths l+1<=0);omega)
  |s l=>exact absurd hd (by show ¬(DT.depths l+1<=0);omega)
  |k b =>
   have e:v=kV b:=hx;subst e;exact k9 (P:=X.prog) (w:=X.w) r
 |succ d ih =>
  intro k v u hd hx r;cases k with
  |k b =>
   have e:v=kV b:=hx;subst e;exact k9 (P:=X.prog) (w:=X.w) r
  |t l =>
   obtain⟨b,xs,rfl,hb,hi⟩:=hx;cases(show u=Value.ref b from r);obtain⟨its,rv,ht,_⟩:=I.tuple hb;exact⟨b,its.toArray,rfl,ht,by simpa using key d (fun h1=>ih h1) l xs its (by have:DT.depths l+1<=d+1:=hd;omega) hi rv⟩
  |s l =>
   obtain⟨b,xs,rfl,hb,hi⟩:=hx;cases(show u=Value.ref b from r);obtain⟨its,rv,ht,_⟩:=I.list hb;exact⟨b,its.toArray,rfl,ht.isList,by simpa using key d (fun h1=>ih h1) l xs its (by have:DT.depths l+1<=d+1:=hd;omega) hi rv⟩
theorem le(I:Inv X J3 σ H s):∀{ks:List DT}{vs:List V}{us:Zf},DT.depths ks<=8->DIns X.K H ks vs->aI vs us->DAts s.heap ks us
 |[],vs,us,_,hx,r=>by
  have e:vs=[]:=hx;subst e;cases r
  rfl
 |k::ks,vs,us,hd,hx,r=>by
  obtain⟨v,vs',rfl,h1,h2⟩:=hx;cases r with
  |@cons _ u _ us' r1 r2 =>
   have hd':max k.depth (DT.depths ks)<=8:=hd;exact⟨u,us',rfl,j6 I 8 (by omega) h1 r1,le I (by omega) h2 r2⟩
end
def uL(K:Za):R2:=fun x y H Q=>∃d e:DT,mJ K H d x/\mJ K H e y/\d.depth<=8/\e.depth<=8/\Q (.bl (decide (d=e))) H
def AS(K:Za):R2:=fun x y H Q=>∃d e:DT,mJ K H d x/\mJ K H e y/\d.depth<=8/\e.depth<=8/\Q (.bl (!decide (d=e))) H
section
variable{X:Cx}
theorem lS(hu:X.A.units+16<cLine):ka X (c9 .Eq) (uL X.K):=by
 intro J3 s σ H x y v u Q I rx ry h;obtain⟨d,e,hx,hy,dx,dy,q⟩:=h;exact BE dx dy hu (j6 I 8 dx hx rx) (j6 I 8 dy hy ry) X.prog X.w X.xe _ ⟨.bl _,H,I,rfl,q⟩
theorem yt(hu:X.A.units+16<cLine):ka X (c9 .NotEq) (AS X.K):=by
 intro J3 s σ H x y v u Q I rx ry h;obtain⟨d,e,hx,hy,dx,dy,q⟩:=h;exact BF dx dy hu (j6 I 8 dx hx rx) (j6 I 8 dy hy ry) X.prog X.w X.xe _ ⟨.bl _,H,I,rfl,q⟩
def pD(K:Za)(neg:Bool):R2:=fun x y H Q=>∃(d:DT) (ds:List DT) (p:Addr) (xs:List V),mJ K H d x/\y=.ref p/\(ay K H p xs∨bE K H p xs)/\DIns K H ds xs/\d.depth<=8/\DT.depths ds<=8/\Q (.bl (if neg then !decide (d∈ds)else decide (d∈ds))) H
open Classical in
theorem lh{h:Heap}{d:DT}(d8:d.depth<=8):∀{ds:List DT}{us:Zf},DAts h ds us->DT.depths ds<=8->us.any (fun u=>@decide (nG h d u) (propDecidable _))=decide (d∈ds)
 |[],us,e,_=>by
  have e':us=[]:=e;subst e'
  rfl
 |x::ds,us,e,hd=>by
  obtain⟨u,us',rfl,h1,h2⟩:=e;have hd':max x.depth (DT.depths ds)<=8:=hd;rw[qG,lh d8 h2 (by omega)];by_cases q:d=x
  ·subst q;simp[h1]
  ·have n:¬nG h d u:=fun z=>q (nG.inj 8 d8 z h1);simp[n,q]
open Classical in
theorem oF{A:Around}{s:Shared}{d:DT}{v:Value}(d8:d.depth<=8)(hu:A.units+8<cLine)(hd:nG s.heap d v):∀{ds:List DT}{us:Zf},DAts s.heap ds us->DT.depths ds<=8->∀u∈us,aH A s u v (@decide (nG s.heap d u) (propDecidable _))
 |[],us,e,_,u,hm=>by
  have e':us=[]:=e;subst e';cases hm
 |x::ds,us,e,h8,u,hm=>by
  obtain⟨u',us',rfl,h1,h2⟩:=e;have h8':max x.depth (DT.depths ds)<=8:=h8;rcases c_.mp hm with rfl|hm
  ·have q:=AB 8 (A:=A) (by omega) d8 hu h1 hd;by_cases z:x=d
   ·subst z;rw[zzr1 h1];rwa[zzr1 rfl]at q
   ·have n:¬nG s.heap d u:=fun w=>z (nG.inj 8 d8 w h1).symm;rw[zzr0 n];rwa[zzr0 z]at q
  ·exact oF d8 hu hd h2 (by omega) u hm
theorem uT(hu:X.A.units+16<cLine):ka X (c9 .In) (pD X.K false):=by
 intro J3 s σ H x y v u Q I rx ry h;obtain⟨d,ds,p,xs,hx,rfl,hq,hds,d8,ds8,q⟩:=h;cases ry;have hd:=j6 I 8 d8 hx rx;have hu':X.A.in1.units+8<cLine:=by show X.A.units+1+8<cLine;omega
 rcases hq with hq|hq
 ·obtain⟨its,r,pl,hz⟩:=I.list hq;have hi:=le I ds8 hds r;refine SeqAt.in_listAt _ pl.isList (fun w hw=>oF d8 hu' hd hi ds8 w (by simpa using hw)) ⟨.bl _,H,I,rfl,?_⟩;rw[qA,lh d8 hi ds8];exact q
 ·obtain⟨its,r,pl,hz⟩:=I.tuple hq;have hi:=le I ds8 hds r;refine SeqAt.in_tupleAt _ pl (fun w hw=>oF d8 hu' hd hi ds8 w (by simpa using hw)) ⟨.bl _,H,I,rfl,?_⟩;rw[qA,lh d8 hi ds8];exact q
theorem jk(hu:X.A.units+16<cLine):ka X (c9 .NotIn) (pD X.K true):=by
 intro J3 s σ H x y v u Q I rx ry h;obtain⟨d,ds,p,xs,hx,rfl,hq,hds,d8,ds8,q⟩:=h;cases ry;have hd:=j6 I 8 d8 hx rx;have hu':X.A.in1.units+8<cLine:=by show X.A.units+1+8<cLine;omega
 rcases hq with hq|hq
 ·obtain⟨its,r,pl,hz⟩:=I.list hq;have hi:=le I ds8 hds r;refine SeqAt.notIn_listAt _ pl.isList (fun w hw=>oF d8 hu' hd hi ds8 w (by simpa using hw)) ⟨.bl _,H,I,rfl,?_⟩;rw[qA,lh d8 hi ds8];exact q
 ·obtain⟨its,r,pl,hz⟩:=I.tuple hq;have hi:=le I ds8 hds r;refine SeqAt.notIn_tupleAt _ pl (fun w hw=>oF d8 hu' hd hi ds8 w (by simpa using hw)) ⟨.bl _,H,I,rfl,?_⟩;rw[qA,lh d8 hi ds8];exact q
end
def oQ(z:Str)(lo hi:Option Int):Str:=⟨((z.cps.toList.drop (HT.sIx z.length 0 lo)).take (HT.sIx z.length z.length hi-HT.sIx z.length 0 lo)).toArray⟩
theorem sliceRange_one(a b:Nat):sliceRange (a:Int) (b:Int) 1=(kA (b-a)).map (fun k=>a+k):=by
 unfold sliceRange;simp only[show(1:Int) > 0 from by decide,if_true];by_cases h:(a:Int)<(b:Int)
 ·have e:(if(a:Int)<(b:Int)then((b:Int)-a+1-1) / 1 else 0).toNat=b-a:=by rw[if_pos h];omega
  rw[e];exact List.map_congr_left fun k _=>by omega
 ·have e:(if(a:Int)<(b:Int)then((b:Int)-a+1-1) / 1 else 0).toNat=b-a:=by rw[if_neg h];omega
  rw[e];exact List.map_congr_left fun k _=>by omega
theorem tZ(v:Option Int)(n d:Nat):(match v with|none=>(d:Int)|some i=>max 0 (min (if i<0 then i+(n:Int)else i) (n:Int)))=((HT.sIx n d v:Nat):Int):=by
 cases v with
 |none=>rfl
 |some i =>
  rw[<-HT.clip_eq i n d];dsimp only;by_cases h:i<0
  ·rw[if_pos h,if_pos h];omega
  ·rw[if_neg h,if_neg h];omega
theorem kQ(lo hi:Option Int)(n:Nat):nT lo hi 1 n=(kA (HT.sIx n n hi-HT.sIx n 0 lo)).map (fun k=>HT.sIx n 0 lo+k):=by
 have e1:=tZ lo n 0;have e2:=tZ hi n n;rw[<-sliceRange_one,<-e1,<-e2];unfold nT;simp only[show(1:Int) > 0 from by decide,if_true];cases lo<;>cases hi<;>rfl
theorem wC(z:Str)(lo hi:Option Int):Txt.slice z lo hi=oQ z lo hi:=by
 have ha:HT.sIx z.length 0 lo<=z.length:=HT.sIx_le _ _ (ee _) _;have hb:HT.sIx z.length z.length hi<=z.length:=HT.sIx_le _ _ (ax _) _;have hlen:z.cps.toList.length=z.length:=by simp[Str.length]
 have pick:(nT lo hi 1 z.length).filterMap (z.cps[·]?)=(z.cps.toList.drop (HT.sIx z.length 0 lo)).take (HT.sIx z.length z.length hi-HT.sIx z.length 0 lo):=by
  rw[kQ];generalize HT.sIx z.length 0 lo=a at *;generalize HT.sIx z.length z.length hi=b at *;have h:=StrLaws.picks z.cps.toList (b-a) a (by omega);simpa using h
 unfold Txt.slice;by_cases h:((1:Int)==1 && (nT lo hi 1 z.length).length==z.length)=true
 ·rw[if_pos h];have hl:(nT lo hi 1 z.length).length=z.length:=by simpa using h
  rw[kQ,ai,List.length_range]at hl;unfold oQ;have a0:HT.sIx z.length 0 lo=0:=by omega
  have bn:HT.sIx z.length z.length hi-HT.sIx z.length 0 lo=z.cps.toList.length:=by omega
  rw[bn,a0,ly,aX]
 ·rw[if_neg h];unfold oQ;rw[pick]
section
variable{X:Cx}
def zM:V->Option Int->Option Int->Hp->VK->Prop:=fun x lo hi H Q=>∃z,x=.str z/\z.length<=aj/\Q (.str (oQ z lo hi)) H
theorem uE:SlR X zM:=by
 intro J3 s σ H x v vl vu lo hi sl Q I rx hs pl pu h;obtain⟨z,rfl,hz,q⟩:=h;obtain⟨t,rfl⟩:=rx;rw[<-wC]at q;refine⟨"str",_,F.slot_str_getitem.lookup,typeIs_str _ _ _,?_⟩;obtain⟨o,ho,hc,hd⟩:=hs;have fin:∀(l u:Option (Int×Tok)),vl=partValue l->vu=partValue u->lo=l.map (·.1)->hi=u.map (·.1)->wpAny (model X.prog X.w) X.A (jN (.str z t) (.ref sl)) (EP X J3 σ Q) X.xe s:=by
  rintro l u rfl rfl rfl rfl;refine wpAny_getItem_str_slice (l:=l) (u:=u) (st:=none) ⟨o,ho,hc,hd⟩ rfl (post_val_or_str ⟨aJ (Txt.slice_le z _ _) hz,fun t' k=>⟨.str _,H,I.tok _,⟨_,rfl⟩,q⟩⟩)
 cases pl with
 |none =>
  cases pu with
  |none=>exact fin none none rfl rfl rfl rfl
  |int j u=>exact fin none (some (j,u)) rfl rfl rfl rfl
 |int i t' =>
  cases pu with
  |none=>exact fin (some (i,t')) none rfl rfl rfl rfl
  |int j u=>exact fin (some (i,t')) (some (j,u)) rfl rfl rfl rfl
def At(K:Za):V->List V->Hp->VK->Prop:=fun x vs H Q=>∃z p ys,x=.str z/\vs=[.ref p]/\ay K H p (ys.map V.str)/\(ys.map (·.length)).sum+ys.length * z.length<=16777216/\Q (.str (qz z ys)) H
theorem zx{ys:Zb}:∀{us:Zf},aI (ys.map V.str) us->StrsAre us ys:=by
 induction ys with
 |nil=>intro us r;cases r;exact .nil
 |cons y ys ih =>
  intro us r;cases r with
  |cons r1 r2 =>
   obtain⟨t,rfl⟩:=r1;exact .cons _ _ (ih r2)
theorem zZ:BL X "str.join" (At X.K):=by
 intro J3 s σ H x vs v us Q I rx rv h;obtain⟨z,p,ys,rfl,rfl,hq,hz,q⟩:=h;obtain⟨t,rfl⟩:=rx;obtain⟨u,rfl,ru⟩:=rv.one;cases ru;obtain⟨its,r,pl,_⟩:=I.list hq;exact join_list pl.isList (by simpa using zx r) hz fun t' k=>⟨.str _,H,I.tok _,⟨_,rfl⟩,q⟩
end
section
variable{X:Cx}
def TyX(K:Za)(H:Hp)(x:V)(t:Value):Prop:=j8 K H x t∨(∃a xs,x=.ref a/\t=.type "tuple"/\bE K H a xs)∨(∃a xs,x=.ref a/\t=.type "list"/\ay K H a xs)
theorem uZ{J3:Zd}{σ:St}{H:Hp}{s:Shared}{A:Around}{E:Zc}{Q:Zc}{c:Value}{b:Bool}{x:V}{u t:Value}(I:Inv X J3 σ H s)(rx:RelV x u)(ty:TyX X.K H x t)(e:vx X.K t c=some b)(h:∀tk,Q (.bool b) { s with toks:=tk }):
  wpAny (model X.prog X.w) A (call (.builtin "isinstance") [u,c]) Q E s:=by
 rcases ty with ty|⟨a,xs,rfl,rfl,q⟩|⟨a,xs,rfl,rfl,q⟩
 ·exact wY I rx ty e h
 ·cases(show u=Value.ref a from rx);obtain⟨its,rv,p,hz⟩:=I.tuple q;obtain⟨o,h1,h2,_⟩:=p;exact gL PySem.W.kitx_tuple I.kIn ⟨o,h1,h2⟩ e (fun z=>nomatch z) h
 ·cases(show u=Value.ref a from rx);obtain⟨its,rv,p,hz⟩:=I.list q;obtain⟨o,n,h1,h2,_⟩:=p;exact gL PySem.W.kitx_list I.kIn ⟨o,h1,h2⟩ e (fun z=>nomatch z) h
theorem t4:eg X (.builtin "isinstance") (fun xs H Q=>∃x c t b,xs=[x,.ty c]/\TyX X.K H x t/\vx X.K t (.type c)=some b/\Q (.bl b) H):=by
 intro J3 s σ H xs us Q I r h;obtain⟨x,c,t,b,rfl,ty,hk,q⟩:=h;obtain⟨u,v,rfl,ru,rv⟩:=vals2 r;cases(show v=Value.type c from rv);exact uZ I ru ty hk fun tk=>⟨.bl b,H,I.tok _,rfl,q⟩
theorem Bb{bs:List Bool}{us:Zf}(r:aI (bs.map V.bl) us){i:Nat}{v:Value}(h:us[i]?=some v):v=.bool ((bs[i]?).getD false)/\i<bs.length:=by
 have hi:i<us.length:=(bT.mp h).1;have hl:=r.length;rw[ai]at hl;have hb:i<bs.length:=by omega
 obtain⟨u,hu,ru⟩:=r.get (i:=i) (x:=V.bl bs[i]) (by simp[hb]);rw[h]at hu;cases hu;refine⟨?_,hb⟩;rw[iI hb];exact ru
theorem r_(bs:List Bool):((kA bs.length).all fun i=>(bs[i]?).getD false)=bs.all id:=by
 induction bs with
 |nil=>rfl
 |cons b bs ih =>
  rw[d_,List.range_succ_eq_map,List.all_cons,List.all_map,List.all_cons,<-ih]
  rfl
theorem mG(hc:X.calm=true):eg X (.builtin "all") (fun xs H Q=>∃(p:Addr) (bs:List Bool),xs=[.ref p]/\ay X.K H p (bs.map V.bl)/\Q (.bl (bs.all id)) H):=by
 intro J3 s σ H xs us Q I r h;obtain⟨p,bs,rfl,hq,q⟩:=h;obtain⟨u,rfl,ru⟩:=vals1 r;cases ru;obtain⟨its,rv,pl,hz⟩:=I.list hq;obtain⟨o,n,ho,_⟩:=id pl;have hl:=rv.length;rw[ai]at hl;refine call_all_walk (vA pl.isList ?_);refine⟨s.heap.objs.size,_,_,_,_,_,fun i=>(bs[i]?).getD false,rfl,Walks.list (prog:=X.prog) (w:=X.w) (A:=X.A.in1) (I.ok.hd hc) s.heap.objs.size p (b_ (be ho)) its.toArray,⟨⟨_,dI _ rfl,rfl,rfl⟩,pl.isList.push _⟩,?_,?_⟩
 ·intro i v s' Q' E' hv hq';obtain⟨e,_⟩:=Bb rv (i:=i) (v:=v) (by simpa using hv);rw[e];exact nL hq'
 ·intro h' tk hk;have I':Inv X J3 σ H { s with heap:=h',toks:=tk }:=I.kept fun b o e=>hk b o (by simp;exact b_ (be e)) (bY _ e);rw[bt,<-hl,r_];exact⟨.bl _,H,I',rfl,q⟩
theorem uS:ka X (c9 .In) (fun x y H Q=>∃c j,x=.str ⟨#[c]⟩/\y=.str j/\Q (.bl (decide (c∈j.cps.toList))) H):=by
 intro J3 s σ H x y v u Q I rx ry h;obtain⟨c,j,rfl,rfl,q⟩:=h;rw[<-StrLaws.found_one]at q;exact wR J3 s σ H _ _ v u Q I rx ry ⟨_,_,rfl,rfl,q⟩
theorem oW(hc:X.calm=true):eg X (.type "list") (fun xs H Q=>∃(d:Addr) (kvs:List (di×V)),xs=[.ref d]/\Rd H d (.dK kvs)/\∀l,H l=none->Q (.ref l) (upd H l (.lst (kvs.map fun kv=>kV kv.1)))):=by
 intro J3 s σ H xs us Q I r h;obtain⟨d,kvs,rfl,hd,q⟩:=h;obtain⟨u,rfl,ru⟩:=vals1 r;cases ru;obtain⟨z,hsys,vs,rel,dd⟩:=lc I.hok hd;obtain⟨ep,hat⟩:=dd.dictAt;have hl:=rel.length;refine PySem.W.kdl_call (PySem.W.kdl_dict (knd:=bx X.prog X.w) (kvs:=vs) (ep:=ep) hsys) (I.ok.hd hc) hat (by rw[<-hl];exact z) fun h' tk acc c hk hD hacc=>?_;have hv:aI (kvs.map fun kv=>kV kv.1) acc.toList:=by
  obtain⟨hn,hP⟩:=hacc;have key:∀(a:Zf) (ks:List (di×V)) (ws:List (di×Value)),KV ks ws->a.length=ws.length->(∀(j:Nat) (v:Value),a[j]?=some v->∃k x,ws[j]?=some (k,x)/\(bx X.prog X.w).is k v=true)->aI (ks.map fun kv=>kV kv.1) a:=by
   intro a ks ws rl
   induction rl generalizing a with
   |nil=>intro ha _;cases a with
    |nil=>exact .nil
    |cons _ _=>cases ha
   |@cons p w' ps ws' hp _ ih =>
    intro ha hj;cases a with
    |nil=>cases ha
    |cons v a =>
     obtain⟨k,x,e,hk⟩:=hj 0 v rfl;have e':w'=(k,x):=by simpa using e
     refine .cons ?_ (ih a (by simpa using ha) fun j v hv=>by simpa using hj (j+1) v (by simpa using hv));have ek:p.1=k:=by rw[hp.1,e']
     show RelV (kV p.1) v;rw[ek];rcases ao (show b0 k v=true from hk)with⟨i,t,rfl,rfl⟩|⟨i,t,rfl,rfl⟩
     ·exact⟨t,rfl⟩
     ·exact⟨t,rfl⟩
  exact key acc.toList kvs vs rel (by rw[jD];exact hn) fun j v hv=>hP j v (by rw[<-Array.getElem?_toList];exact hv)
 refine⟨.ref s.heap.objs.size,_,I.laid (o:=.lst (kvs.map fun kv=>kV kv.1)) hk (ax _) ⟨by rw[ai];exact z,acc.toList,c,hv,by rw[Array.toArray_toList];exact hD⟩,rfl,q _ I.fresh⟩
end
section
variable{prog:bj}{w:World}{K:Type}[DecidableEq K]{knd:HeapKind prog w K}{A:Around}{E:Zc}{s:Shared}
theorem nZ{d a:Addr}{xs:List (K×Addr×Value)}{k:K}{v:Value}{Q:Zc}(hu:knd.room A)(hkey:knd.is s.heap k a)(hm:s.heap.DictOfH knd d xs)
  (there:∀p,atKey xs k=some p->Q p.2 { s with toks:=s.toks+knd.draws k })
  (new:atKey xs k=none->∀h',h'.DictOfH knd d (xs++[(k,a,v)])->iE d s.heap h'->Q v { s with heap:=h',toks:=s.toks+knd.draws k })
  (hsz:xs.length<=aj):wpAny (model prog w) A (dictSetDefault d (.ref a) v) Q E s:=by
 obtain⟨o,es,ep,ho,hc,hd,he,his,hn⟩:=hm;unfold dictSetDefault
 try with_reducible refine mx ?_
 refine ar (knd.pyHash hu hkey ?_);refine ar (wpAny_dictFind_heap (s:={ s with toks:=s.toks+knd.draws k }) hu hkey ho hd he his hn ?_ ?_)
 ·intro hno;have hnot:k∉xs.map (·.1):=not_mem_keys_of_get hno;refine ar (sG (ar (wpAny_updateDictKeys (hz:=by have e:=size_of_entries he;omega) (s:={ s with toks:=s.toks+knd.draws k }) ho hd (aN (new (atKey_none_of_get hno) _ ⟨_,_,ep+1,Heap.get?_update_self _ ho (Obj.isFreed_of_dict (Obj.data_mapDictKeys hd _)),
   hc.mapDictKeys _,Obj.data_mapDictKeys hd _,?_,?_,?_⟩ (nS ..))))))
  ·simp[he,entryOfKey]
  ·intro x hx;rcases aU.mp hx with hx|hx
   ·exact knd.keeps (his x hx) ho hd (nS ..)
   ·simp only[eh]at hx;subst hx;exact knd.keeps hkey ho hd (nS ..)
  ·rw[ap,cG];refine⟨hn,by simp,?_⟩;intro x hx y hy;simp only[a_,qE,eh]at hy;subst hy;exact fun e=>hnot (e▸hx)
 ·intro j p hj;refine ar (qy (s:={ s with toks:=s.toks+knd.draws k }) ho hd ?_);rw[entry_at he j,hj];exact ar (sG (aN (there p (atKey_of_get hn hj))))
theorem k7(knd:HeapKind prog w K)(d a:Addr)(hd:(d==fk)=false)(dflt:Value):
  MeetsIn prog w (cI.«dict.setdefault» ⟨[.ref d,.ref a,dflt],[]⟩) (fun A R s=>knd.room A.in1/\∃k xs,knd.is s.heap k a/\s.heap.DictOfH knd d xs/\xs.length<=aj /\
   (∀p,atKey xs k=some p->R (.ok (.ret p.2)) { s with toks:=s.toks+knd.draws k }) /\
   (atKey xs k=none->∀h',h'.DictOfH knd d (xs++[(k,a,dflt)])->iE d s.heap h'->R (.ok (.ret dflt)) { s with heap:=h',toks:=s.toks+knd.draws k })) :=
 .of_wp fun A R s ⟨hu,k,xs,hkey,hm,hz,h1,h2⟩=>by
  unfold cI.«dict.setdefault»;refine ar ?_;unfold cI.Dict.keyAndDefault;refine ar (wpAny_notOrdered_dict hm.typeIs ?_);show wpAny _ _ (pure (d,Value.ref a,some dflt)) _ _ s;refine aN ?_;show wpAny _ _ (if(d==fk)=true then _ else(dictSetDefault d (.ref a) dflt >>= _)) _ _ s
  rw[if_neg (by rw[hd];exact fI)];exact ar (nZ hu hkey hm (fun p hp=>aN ⟨p.2,rfl,h1 p hp⟩) (fun hn h' hm' hs'=>aN ⟨dflt,rfl,h2 hn h' hm' hs'⟩) hz)
end
section
variable{X:Cx}
def vL:V->List V->Hp->VK->Prop:=fun x vs H Q=>∃(d b:Addr) (kvs:List (TK×V)) (k:TK) (z:V),x=.ref d/\vs=[.ref b,z]/\H d=some (.dT kvs)/\cC H k (.ref b)/\k.depth<=8/\kvs.length<aj /\
 (∀v,aR kvs k=some v->Q v H)/\(aR kvs k=none->Q z (upd H d (.dT (kvs++[(k,z)]))))
theorem wT(hu:X.A.units+16<cLine):BL X "dict.setdefault" vL:=by
 intro J3 s σ H x vs v us Q I rx rv h;obtain⟨d,b,kvs,k,z,rfl,rfl,hd,hb,h8,hz,q1,q2⟩:=h;cases rx;obtain⟨u,v,rfl,ru,rz⟩:=rv.two;cases ru;obtain⟨_,hsys,xs,rel,dd⟩:=yQ I.hok I.kIn hd;have hl:kvs.length=xs.length:=Paired.length rel;refine nV PySem.F.slot_dict_setdefault dd.typeIs PySem.F.entry_dict_setdefault (PySem.F.args_dict_setdefault_3 _ _ _) (k7 (cN X.prog X.w) d b hsys v)
  ⟨dD hu,k,xs,rN I.hok I.kIn (cC.c 8 h8 hb) h8,dd,by omega,fun p hp=>?_,fun hn h' dd' hs=>?_⟩
 ·have e:=rel.val k;rw[hp]at e;cases e2:aR kvs k with
  |none=>rw[e2]at e;exact e.elim
  |some y =>
   rw[e2]at e;exact⟨y,H,I.tok _,e,q1 y e2⟩
 ·have e:=rel.val k;rw[hn]at e;have e2:aR kvs k=none:=by
   cases e2:aR kvs k with
   |none=>rfl
   |some y=>rw[e2]at e;exact e.elim
  obtain⟨o,es,ep,hq,h2,h3,h4,_,h5⟩:=dd';refine⟨z,_,nF (ob:=.dT (kvs++[(k,z)])) I (by rw[hd];exact gM) hs ⟨o,hq⟩ ⟨by rw[bf,List.length_singleton];omega,hsys,_,KT.keeps (kvs:=kvs++[(k,z)]) (xs:=xs++[(k,b,v)]) (hC rel ⟨rfl,cC.c 8 h8 hb,h8,rz⟩) fun c ys ec=>?_,o,es,ep,hq,h2,h3,h4,h5⟩,rz,q2 e2⟩;rw[ah (yy ec hd (fun z=>nomatch z))];exact ec
end
theorem iZ:entryFor table "dict.update.loop"=some cI.«dict.update.loop»:=entryFor_of_fast (by kernel_rfl)
theorem dR:plainId "dict.update.loop"=true:=by decide +kernel
theorem rG:typeLookup (.type "list") "keys"=pure none:=am_miss_of_fast (by decide +kernel)
section
variable{prog:bj}{w:World}{A:Around}{E:Zc}{s:Shared}
theorem wV{a:Addr}{o:Obj}{xs:Array Value}{k:Nat}{Q:Option Value->Shared->Prop}(hx:s.heap.get? a=some o)(hc:o.cls=.type "list")(hdat:o.data=.seq xs k)(hd:o.dict=none)(hA:A.handled=none)
  (h:∀h' tk,(∀b ob,s.heap.get? b=some ob->h'.get? b=some ob)->Q none { s with heap:=h',toks:=tk }):wpAny (model prog w) A (getAttr? (.ref a) "keys") Q E s:=by
 obtain⟨c,dct,dat,sl⟩:=o;simp only at hc hdat hd;subst hc hdat hd;obtain⟨hp,g,d,tk,os⟩:=s;have hT:∀tk',(⟨hp,g,d,tk',os⟩:Shared).TypeIs (.ref a) "list":=fun _=>⟨_,hx,rfl⟩;have f1:=sub_AttributeError;have f3:=F.slot_list_getattribute.lookup;have f4:=F.slot_list_getattribute.bind (.ref a);have f5:=am_list_getattr_none;unfold getAttr? getAttrBy? getAttrBy
 repeat (any_goals (first|assumption|exact hT _|((with_reducible show wpAny _ _ (call (Value.builtin "list.__getattribute__") _ _) _ _ _);refine qH F.slot_list_getattribute (hT _) am_entry_list_getattribute (F.args_list_getattribute_2 _ _) (meets_getattribute_miss_list a xs k sl "keys" _ rG (by decide +kernel) (by decide +kernel)) ⟨hx,hA,fun h' tk' e hx'=>?_⟩)|wp_step))
 obtain⟨t',u',he⟩:=hx'.there;show wpAny _ _ (getattributeRaised _ _ _ _ _ _ _) _ _ _;unfold getattributeRaised hookOrError attributeErrorLeaves
 repeat (any_goals (first|assumption|wp_step))
 all_goals first|exact h _ _ hx'.keeps|trace_state
def vf(h:Heap)(u:Value)(kv:di×Value):Prop:=∃t ku,u=.ref t/\h.IsTuple t #[ku,kv.2]/\b0 kv.1 ku=true
theorem uD{κ:Type}[DecidableEq κ](kvs:List (κ×Value))(k:κ)(v:Value):(stored kvs k v).length<=kvs.length+1:=by
 unfold stored;split
 ·rw[ai];omega
 ·rw[bf,List.length_singleton];exact ax _
theorem xF{R:Result->Shared->Prop}(hh:A.handled=none){D it l:Addr}{items:Array Value}{ps:List (di×Value)}(hDi:D≠it)(hli:l≠it)(hlD:l≠D)(hps:ps.length=items.size):
  ∀(n i:Nat) (s:Shared) (acc:List (di×Value)),items.size-i=n->i<=items.size->acc.length+(items.size-i)<=aj->s.heap.IsListIter it l i->s.heap.IsList l items->s.heap.DictOf (bx prog w) D acc ->
   (∀(j:Nat) (u:Value) (kv:di×Value),items[j]?=some u->ps[j]?=some kv->vf s.heap u kv) ->
   (∀h' tk,h'.DictOf (bx prog w) D (merged acc (ps.drop i))->(∀b o,b≠D->b≠it->s.heap.get? b=some o->h'.get? b=some o)->R (.ok (.ret .none)) { s with heap:=h',toks:=tk }) ->
   zzl72 (model prog w) A (.builtin "dict.update.loop" ⟨[.ref D,.ref it,rawInt i,.none],[]⟩) R s:=by
 intro n
 induction n with
 |zero =>
  intro i s acc hn hi hz hit hl hD hp hR;have e:i=items.size:=by omega
  subst e;refine codeAny_builtin iZ ?_;rw[Around.under_plainId dR _];show wpAny _ A.in1 (pyNext (.ref it) >>= _) _ _ s;refine ar (wpAny_pyNext_list_end hh hit hl (by simp) fun h' eb=>?_);show wpAny _ _ (cI.Dict.addKeywords D [] >>= _) _ _ _;refine ar (aN (aN ?_));have hD':h'.DictOf (bx prog w) D acc:=hD.extBut eb hDi;have q:=hR h' s.toks (by rw[qx (by omega)];exact hD') fun b o _ hb e=>eb b o hb e;exact q
 |succ n ih =>
  intro i s acc hn hi hz hit hl hD hp hR;have hlt:i<items.size:=by omega
  refine codeAny_builtin iZ ?_;rw[Around.under_plainId dR _];show wpAny _ A.in1 (pyNext (.ref it) >>= _) _ _ s;have hu:items[i]?=some items[i]:=by simp[hlt]
  have hk:ps[i]?=some ps[i]:=iI (by omega);obtain⟨t,ku,eu,ht,hku⟩:=hp i _ _ hu hk;refine ar (wpAny_pyNext_list_item hit hl (x:=items[i]) hu fun h1 hit1 hs1=>?_);rw[eu];have hs1':iE it s.heap h1:=hs1;have nt:t≠it:=by
   rintro rfl;obtain⟨o,ho,hc,_⟩:=ht;obtain⟨o',ho',hc',_⟩:=hit;rw[ho]at ho';cases ho';rw[hc]at hc';simp at hc'
  have ht1:h1.IsTuple t #[ku,ps[i].2]:=ht.extBut hs1'.extBut nt;have hT1:Shared.TypeIs { s with heap:=h1 } (.ref t) "tuple":=ht1.typeIs (s:={ s with heap:=h1 });obtain⟨ot,got,hct,nt',hdt⟩:=id ht1;refine ar (mx ?_);refine ar (wpAny_tryCatch ?_);unfold cI.Dict.pairItems;refine ar (wpAny_typeOf hT1 ?_);rw[if_pos (by decide)];refine ar (wpAny_seqItems got hdt (aN ?_));show wpAny _ _ (iD [ku,ps[i].2] (dictSet D ku ps[i].2)) _ _ _;have hD1:h1.DictOf (bx prog w) D acc:=hD.extBut hs1'.extBut hDi;refine mx (wpAny_dictSet_pairs (knd:=bx prog w) (k:=ps[i].1) hku hD1 (fun h2 hD2 hs2=>?_) (by omega));have hs2':iE D h1 h2:=hs2;show wpAny _ _ (again _) _ _ _;refine aN ⟨plainId_quiet dR _,?_⟩;have hl1:h1.IsList l items:=hl.extBut hs1'.extBut hli;have kp:∀b o,b≠D->b≠it->s.heap.get? b=some o->h2.get? b=some o:=fun b o h1 h2 e=>hs2'.extBut b o h1 (hs1'.extBut b o h2 e);refine ih (i+1) _ (stored acc ps[i].1 ps[i].2) (by omega) hlt (by have:=uD acc ps[i].1 ps[i].2;omega) (hit1.extBut hs2'.extBut (fJ hDi)) (hl1.extBut hs2'.extBut hlD) hD2 (fun j u kv h1 h2=>?_) fun h' tk hD' kp'=>?_
  ·obtain⟨t2,ku2,e2,ht2,hk2⟩:=hp j u kv h1 h2;have n1:t2≠it:=by
    rintro rfl;obtain⟨o,ho,hc,_⟩:=ht2;obtain⟨o',ho',hc',_⟩:=hit;rw[ho]at ho';cases ho';rw[hc]at hc';simp at hc'
   have n2:t2≠D:=by
    rintro rfl;obtain⟨o,ho,hc,_⟩:=ht2;obtain⟨o',_,_,ho',hc',_⟩:=hD;rw[ho]at ho';cases ho';have:=hc'.1;rw[hc]at this;simp at this
   obtain⟨o,ho,r⟩:=ht2;exact⟨t2,ku2,e2,⟨o,kp _ o n2 n1 ho,r⟩,hk2⟩
  ·refine hR h' tk ?_ fun b o h1 h2 e=>kp' b o h1 h2 (kp b o h1 h2 e);have ed:ps.drop i=ps[i]::ps.drop (i+1):=List.drop_eq_getElem_cons (by omega);rw[ed];exact hD'
theorem m7{l:Addr}{o:Obj}{items:Array Value}{n:Nat}{ps:List (di×Value)}{Q:Zc}(hh:A.handled=none)(ho:s.heap.get? l=some o)(hc:o.cls=.type "list")(hdt:o.data=.seq items n)(hod:o.dict=none)
  (hps:ps.length=items.size) (hp:∀(j:Nat) (u:Value) (kv:di×Value),items[j]?=some u->ps[j]?=some kv->vf s.heap u kv) (hz:items.size<=aj)
  (h:∀h' tk,h'.DictOf (bx prog w) s.heap.objs.size (merged [] ps)->(∀b o,s.heap.get? b=some o->h'.get? b=some o)->Q (.ref s.heap.objs.size) { s with heap:=h',toks:=tk }) :
  wpAny (model prog w) A (call (.type "dict") [.ref l]) Q E s:=by
 refine callType_codes (Q₁:=fun obj s₁=>obj=.ref s.heap.objs.size/\s₁={ s with heap:=s.heap.push { cls:=.type "dict",data:=.dict #[] } }) F.kt_called_dict (F.kt_typeCall_dict_1 _) F.entry_dict_init (kt_code_dict_new _ ⟨rfl,rfl⟩) ?_;rintro obj s₁ ⟨rfl,rfl⟩;have hnew:(s.heap.push { cls:=.type "dict",data:=.dict #[] }).DictOf (bx prog w) s.heap.objs.size []:=Heap.DictOf.new s.heap;have ho1:(s.heap.push { cls:=.type "dict",data:=.dict #[] }).get? l=some o:=bY _ ho;have hlt:l<s.heap.objs.size:=be ho;refine⟨hnew.typeIs,F.args_dict_init_2 _ _,?_⟩;unfold cI.«dict.__init__»;refine ar ?_;unfold cI.Dict.selfAndRest;refine ar (wpAny_notOrdered_dict hnew.typeIs ?_);show wpAny _ _ (pure (s.heap.objs.size,[Value.ref l])) _ _ _;refine aN ?_;show wpAny _ _ (cI.Dict.updateFrom "dict.__init__" s.heap.objs.size (.ref l) [] .none) _ _ _;unfold cI.Dict.updateFrom;have hTl:Shared.TypeIs { s with heap:=s.heap.push { cls:=.type "dict",data:=.dict #[] } } (.ref l) "list":=⟨o,ho1,hc⟩;refine ar (wpAny_typeOf hTl ?_);rw[if_pos (by decide)];refine ar (wV ho1 hc hdt hod hh fun h1 tk1 k1=>?_);have k1':∀b ob,(s.heap.push { cls:=.type "dict",data:=.dict #[] }).get? b=some ob->h1.get? b=some ob:=k1;rw[if_pos (by rfl:(none:Option Value).isNone=true)];refine ar (sG ?_);have hl1:h1.IsList l items:=⟨o,k1' _ _ ho1,hc,n,hdt⟩;refine ar (vA (s:={ s with heap:=h1,toks:=tk1 }) hl1 ?_);have hD1:h1.DictOf (bx prog w) s.heap.objs.size []:=by
  obtain⟨od,es,ep,g,r⟩:=hnew;exact⟨od,es,ep,k1' _ _ g,r⟩
 have hDlt:s.heap.objs.size<h1.objs.size:=by
  obtain⟨od,es,ep,g,r⟩:=hD1;exact be g
 refine aN ⟨plainId_quiet dR _,?_⟩;refine xF (A:=A.in1) (prog:=prog) (w:=w) hh (D:=s.heap.objs.size) (it:=h1.objs.size) (l:=l) (items:=items) (ps:=ps) (b_ hDlt) (b_ (Nat.lt_trans hlt hDlt)) (b_ hlt) hps items.size 0 _ [] (qw _) (ee _) (by rw[List.length_nil];omega)
  ⟨_,dI _ rfl,rfl,rfl⟩ (hl1.push _) (hD1.push _) (fun j u kv a b=>?_) fun h' tk hD' kp=>?_
 ·obtain⟨t,ku,e,ht,hk⟩:=hp j u kv a b;obtain⟨ot,g,r⟩:=ht;exact⟨t,ku,e,⟨ot,bY _ (k1' _ _ (bY _ g)),r⟩,hk⟩
 ·rw[ly]at hD';refine⟨rfl,h h' tk hD' fun b ob e=>kp b ob (b_ (be e)) (b_ (Nat.lt_trans (be e) hDlt)) (bY _ (k1' _ _ (bY _ e)))⟩
end
section
variable{X:Cx}
theorem rZ(hc:X.calm=true):eg X (.type "dict") (fun xs H Q=>∃(l:Addr) (ts:Ze) (kvs:List (di×V)),xs=[.ref l]/\ay X.K H l (ts.map V.ref)/\ts.length=kvs.length /\
  (∀(j:Nat) (t:Addr) (kv:di×V),ts[j]?=some t->kvs[j]?=some kv->H t=some (.tup [kV kv.1,kv.2]))/\∀p,H p=none->Q (.ref p) (upd H p (.dK (gF [] kvs)))):=by
 intro J3 s σ H xs us Q I r h;obtain⟨l,ts,kvs,rfl,hl,hlen,ht,q⟩:=h;obtain⟨u,rfl,ru⟩:=vals1 r;cases ru;obtain⟨its,rv,⟨o,n,ho,hcl,hod,hdt⟩,hz⟩:=I.list hl;have key:∀(ts:Ze) (kvs:List (di×V)),ts.length=kvs.length->(∀(j:Nat) (t:Addr) (kv:di×V),ts[j]?=some t->kvs[j]?=some kv->H t=some (.tup [kV kv.1,kv.2]))->∃ps:List (di×Value),KV kvs ps/\∀(j:Nat) (t:Addr) (kv:di×Value),ts[j]?=some t->ps[j]?=some kv->vf s.heap (.ref t) kv:=by
  intro ts
  induction ts with
  |nil =>
   intro kvs hl _;cases kvs with
   |nil=>exact⟨[],.nil,fun j t kv e=>by simp at e⟩
   |cons _ _=>cases hl
  |cons t ts ih =>
   intro kvs hl ht;cases kvs with
   |nil=>cases hl
   |cons kv kvs =>
    obtain⟨ps,r1,r2⟩:=ih kvs (by simpa using hl) fun j t' kv' a b=>ht (j+1) t' kv' (by simpa using a) (by simpa using b);obtain⟨_,itt,rt,p⟩:=(show bw X.prog X.w X.K H s.heap t (.tup [kV kv.1,kv.2])from I.hok t _ (ht 0 t kv rfl rfl));obtain⟨a,b,e,ra,rb⟩:=rt.two;subst e;refine⟨(kv.1,b)::ps,.cons ⟨rfl,rb⟩ r1,fun j t' kv' h1 h2=>?_⟩;cases j with
    |zero =>
     simp at h1 h2;subst h1 h2;exact⟨t,a,rfl,p,k9 (P:=X.prog) (w:=X.w) ra⟩
    |succ j=>exact r2 j t' kv' (by simpa using h1) (by simpa using h2)
 obtain⟨ps,rel,pa⟩:=key ts kvs hlen ht;have hl1:=rv.length;rw[ai]at hl1;have hl2:=rel.length;refine m7 (prog:=X.prog) (w:=X.w) (ps:=ps) (I.ok.hd hc) ho hcl hdt hod (by rw[bt];omega) (fun j u kv a b=>?_) (by rw[bt,<-hl1];rw[ai]at hz;exact hz) fun h' tk hD kp=>?_
 ·have a':its[j]?=some u:=by simpa using a
  have hj:j<ts.length:=by
   have:=(bT.mp a').1;omega
  obtain⟨u',e1,r1⟩:=rv.get (i:=j) (x:=V.ref ts[j]) (by simp[hj]);rw[a']at e1;cases e1;cases(show u=Value.ref ts[j]from r1);exact pa j ts[j] kv (by simp[hj]) b
 ·have hm:(gF [] kvs).length<=aj:=by
   have h1:=jH kvs [];rw[List.length_nil]at h1;rw[ai]at hz;omega
  exact⟨.ref s.heap.objs.size,_,I.laid (o:=.dK (gF [] kvs)) kp (ax _) (yS hm (beq_eq_false_iff_ne.mpr (fJ (b_ I.big))) (rel.merge .nil) hD),rfl,q _ I.fresh⟩
end
abbrev dg:R2:=vM fun i j=>.int (i+j)
abbrev Ar:R2:=vM fun i j=>.int (i-j)
abbrev iS:R2:=rI ze fun i j=>.int (i * j)
abbrev gw:R2:=rI (fun _ j=>0<j) fun i j=>.int (i % j)
abbrev ye:R2:=rI BR fun i j=>.int (i / j)
abbrev As:R2:=rI BQ fun i j=>.int (i ^ j.toNat)
abbrev zN:R2:=vM fun i j=>.bl (decide (i<j))
abbrev rLeI:R2:=vM fun i j=>.bl (decide (i<=j))
abbrev zO:R2:=vM fun i j=>.bl (decide (j<i))
abbrev rGeI:R2:=vM fun i j=>.bl (decide (j<=i))
abbrev Au:R2:=fun x y H Q=>∃i j,x=.str i/\y=.str j/\i.length+j.length<=aj/\Q (.str (i++j)) H
abbrev rInS:R2:=fun x y H Q=>∃c j,x=.str ⟨#[c]⟩/\y=.str j/\Q (.bl (decide (c∈j.cps.toList))) H
abbrev Br(K:Za):List V->Hp->VK->Prop:=fun xs H Q=>∃x c t b,xs=[x,.ty c]/\TyX K H x t/\vx K t (.type c)=some b/\Q (.bl b) H
abbrev Bs(K:Za):List V->Hp->VK->Prop:=fun xs H Q=>∃(p:Addr) (bs:List Bool),xs=[.ref p]/\ay K H p (bs.map V.bl)/\Q (.bl (bs.all id)) H
abbrev tt(K:Za):List V->Hp->VK->Prop:=fun xs H Q=>∃p ys,xs=[.ref p]/\((ay K H p ys/\∀l,H l=none->Q (.ref l) (upd H l (.tup ys)))∨(bE K H p ys/\Q (.ref p) H))
abbrev zP(K:Za):List V->Hp->VK->Prop:=fun xs H Q=>∃(l:Addr) (ts:Ze) (kvs:List (di×V)),xs=[.ref l]/\ay K H l (ts.map V.ref)/\ts.length=kvs.length /\
  (∀(j:Nat) (t:Addr) (kv:di×V),ts[j]?=some t->kvs[j]?=some kv->H t=some (.tup [kV kv.1,kv.2]))/\∀p,H p=none->Q (.ref p) (upd H p (.dK (gF [] kvs)))
abbrev cO(K:Za):List V->Hp->VK->Prop:=fun xs H Q =>
 (∃p ys,xs=[.ref p]/\(ay K H p ys∨bE K H p ys)/\∀l,H l=none->Q (.ref l) (upd H l (.lst ys))) ∨
 (∃(d:Addr) (kvs:List (di×V)),xs=[.ref d]/\Rd H d (.dK kvs)/\∀l,H l=none->Q (.ref l) (upd H l (.lst (kvs.map fun kv=>kV kv.1))))
abbrev iT(K:Za):List V->Hp->VK->Prop:=fun xs H Q =>
 (∃p ys,xs=[.ref p]/\(ay K H p ys∨bE K H p ys)/\Q (.int ys.length) H)∨(∃z,xs=[.str z]/\z.length<=aj/\Q (.int z.length) H)
theorem t5:gP "isinstance"=some (.builtin "isinstance"):=by decide +kernel
theorem va:gP "list"=some (.type "list"):=by decide +kernel
theorem eV:gP "tuple"=some (.type "tuple"):=by decide +kernel
theorem vb:gP "dict"=some (.type "dict"):=by decide +kernel
theorem vc:gP "bool"=some (.type "bool"):=by decide +kernel
theorem xm:gP "int"=some (.type "int"):=by decide +kernel
section
variable{X:Cx}{p pos:Pos}
theorem xk:eg X (.builtin "len") (iT X.K):=rY.or rX
theorem u_(hc:X.calm=true):eg X (.type "list") (cO X.K):=rW.or (oW hc)
theorem uQ(hg:Gl X "bool")(hm:X.mg "bool"=none):PE X (.Name "bool" pos) (tC (.ty "bool")):=vS hg hm vc rfl
theorem wQ(hg:Gl X "int")(hm:X.mg "int"=none):PE X (.Name "int" pos) (tC (.ty "int")):=vS hg hm xm rfl
end
def Gc(mg:Str->Option Value)(x:Str)(v:V):Prop:=∃u,mg x=some u/\RelV v u
theorem iu{X:Cx}{x:Str}{v:V}{pos:Pos}(hg:Gl X x)(h:Gc X.mg x v)(hd:(x==("__debug__":Str))=false:=by decide):PE X (.Name x pos) (tC v):=by
 obtain⟨u,hm,r⟩:=h;exact zT hg hm r hd
structure gg(P:bj)(w:World)(K:Za)(mg:Str->Option Value)(base:Heap)(x:Str)(ps:Zb)(k:Nat)(sp:Sp):Prop where
 ex:∃f fd,i6 P w K mg base CX0 k f fd ps sp/\mg x=some (.ref f)/\eP K (.ref f)=true/\Binds K fd ps []
structure BJ(P:bj)(w:World)(K:Za)(mg:Str->Option Value)(base:Heap)(x:Str)(C:Addr)(ps:Zb)(k:Nat)(sp:Sp):Prop where
 ex:∃f fd,i6 P w K mg base CX0 k f fd ps sp/\mg x=some (.ref C)/\Mk K C f/\Binds K fd ps []
structure qj(P:bj)(w:World)(K:Za)(mg:Str->Option Value)(base:Heap)(C:Addr)(m:Str)(ps:Zb)(k:Nat)(sp:Sp):Prop where
 ex:∃f fd,i6 P w K mg base CX0 k f fd ps sp/\vn K C/\Aj K C m f/\Binds K fd ps []
section
variable{X:Cx}{k:Nat}{ps:Zb}{sp:Sp}{x m:Str}{C:Addr}{p pos J5:Pos}{o e:Expr}{es:List Expr}{t:TA}{ta:TE}
theorem Bu(D:gg X.prog X.w X.K X.mg X.base x ps k sp)(hr:cZ k X.A)(hg:Gl X x)(ha:PA X (e::es) t)(hdb:(x==("__debug__":Str))=false:=by decide)
  (he:aw (e::es) X.env=(false,eval e X.env)::aw es X.env:=by rfl) (hpl:(backTo pos (aw es X.env)).any (·.1)=false:=by rfl) :
  PE X (.Call (.Name x p) (e::es) [] pos) (aO sp t):=by
 obtain⟨f,fd,F,hm,hk,hb⟩:=D.ex;exact zV F hr hg hm hk hb .nil vT ha hdb he hpl
theorem uR(D:BJ X.prog X.w X.K X.mg X.base x C ps k sp)(hr:cZ (k+1) X.A)(hg:Gl X x)(ha:PA X (e::es) t)(hdb:(x==("__debug__":Str))=false:=by decide)
  (he:aw (e::es) X.env=(false,eval e X.env)::aw es X.env:=by rfl) (hpl:(backTo pos (aw es X.env)).any (·.1)=false:=by rfl) :
  PE X (.Call (.Name x p) (e::es) [] pos) (sS C sp [] E0 t):=by
 obtain⟨f,fd,F,hm,M,hb⟩:=D.ex;exact zS M F hr hg hm hb .nil vT ha hdb he hpl
theorem AY{pl:Sem Bool}(M:qj X.prog X.w X.K X.mg X.base C m ps k sp)(hr:cZ k X.A)(he:PE X o ta)(ha:PA X (e::es) t)
  (hst:aw (e::es) X.env=(false,eval e X.env)::aw es X.env:=by rfl) (hpl:(backTo pos (aw es X.env)).any (·.1)=false:=by rfl)
  (ht:eval (.Call (.Attribute o m J5) (e::es) [] pos) X.env=(do
   let ov <- eval o X.env
   mr J5.atName
   let(f,first) <- iD [ov] (mn ov m pl)
   pK pos f first (backTo pos (aw (e::es) X.env)) (kq pos (ko [] X.env))):=by rfl) :
  PE X (.Call (.Attribute o m J5) (e::es) [] pos) (db C m sp [] E0 ta t):=by
 obtain⟨f,fd,F,c,hm,hb⟩:=M.ex;exact zR he c hm F hr hb .nil vT ha hst hpl ht
theorem zQ{pl:Sem Bool}(M:qj X.prog X.w X.K X.mg X.base C m ps k sp)(hr:cZ k X.A)(he:PE X o ta)
  (ht:eval (.Call (.Attribute o m J5) [] [] pos) X.env=(do
   let ov <- eval o X.env
   mr J5.atName
   let(f,first) <- iD [ov] (mn ov m pl)
   pK pos f first (backTo pos (aw [] X.env)) (kq pos (ko [] X.env))):=by rfl) :
  PE X (.Call (.Attribute o m J5) [] [] pos) (db C m sp [] E0 ta bI):=by
 obtain⟨f,fd,F,c,hm,hb⟩:=M.ex;exact ym he c hm F hr hb .nil vT ht
end
def BC(K:Za)(tl:TE):TI:=fun σ H R=>tl σ H fun x H1=>∃a,x=.ref a/\(((∃xs,ay K H1 a xs)/\R (zf K a) H1)∨((∃xs,bE K H1 a xs)/\R (Bh K a) H1))
theorem AV{X:Cx}{tg l:Expr}{tl:TE}(hl:PE X l tl):PI X tg l (BC X.K tl):=by
 intro J3 s σ H R I h;refine bO (hl J3 s σ H _ I h) fun v s1 ⟨x,H1,I1,r1,q1⟩=>?_;obtain⟨a,e,q⟩:=q1;subst e;cases r1;have fin:∀b∈[s1.heap.objs.size],lp X J3 H1 b:=fun b hb=>by
  have e:b=s1.heap.objs.size:=by simpa using hb
  subst e;exact I1.fpOk (ax _) (I1.hok.fresh (ax _))
 rcases q with⟨⟨xs,hq⟩,q⟩|⟨⟨xs,hq⟩,q⟩
 ·obtain⟨its,rv,p,hz⟩:=I1.list hq;refine vA p.isList ?_;exact⟨s1.heap.objs.size,[s1.heap.objs.size],_,_,H1,rfl,I1.kept (t':=s1.toks) fun b o e=>bY _ e,pR a _,⟨_,dI _ rfl,rfl,rfl⟩,fin,q⟩
 ·obtain⟨its,rv,p,hz⟩:=I1.tuple hq;refine wpAny_pyIter_tuple p ?_;exact⟨s1.heap.objs.size,[s1.heap.objs.size],_,_,H1,rfl,I1.kept (t':=s1.toks) fun b o e=>bY _ e,n0 a _,⟨_,dI _ rfl,rfl,rfl⟩,fin,q⟩
theorem iY{K:Za}{a:Addr}{xs:List V}{g:TG}{tb:TS}{D:o6}{σ:St}{H:Hp}(Pv:Nat->St->Hp->Prop)(h0:Pv 0 σ H)(hl:∀i σ H,i<=xs.length->Pv i σ H->ay K H a xs)
  (hs:∀i x σ H p,xs[i]?=some x->Pv i σ H->H p=none->g (.ref p) σ (upd H p (.tup [.int i,x])) fun σ2 H2=>tb { D with nx:=Pv (i+1),ct:=Pv (i+1),bk:=D.nx } σ2 H2) (hd:∀σ H,Pv xs.length σ H->D.nx σ H) :
  ∃W:Nat->Nat->St->Hp->Prop,(∃m,W 0 m σ H)/\∀i m σ H,W i m σ H ->
   ((BM K a).stop i H/\D.nx σ H)∨((BM K a).go i H/\∃N:St->Hp->Prop,(∀σ' H',N σ' H'->∃m',m'<m/\W (i+1) m' σ' H')/\∀x H',(BM K a).yld i H x H'->g x σ H' fun σ2 H2=>tb { D with nx:=N,ct:=N,bk:=D.nx } σ2 H2):=by
 refine⟨fun i m σ H=>m=xs.length-i/\i<=xs.length/\Pv i σ H,⟨xs.length,by simp,ee _,h0⟩,?_⟩;rintro i m σ H ⟨rfl,hi,p⟩;have q:=hl i σ H hi p;by_cases hlt:i<xs.length
 ·refine .inr ⟨⟨xs,xs[i],q,by simp[hlt]⟩,Pv (i+1),fun σ' H' p'=>⟨xs.length-(i+1),by omega,rfl,hlt,p'⟩,fun x H' y=>?_⟩;obtain⟨t,v,rfl,hn,hv,rfl⟩:=y;exact hs i v σ H t (hv xs q) p hn
 ·have e:i=xs.length:=by omega
  subst e;exact .inl ⟨⟨xs,q,ax _⟩,hd σ H p⟩
def Wc(n:Nat)(Pv:Nat->List V->Hp->Prop):Nat->Nat->List V->Hp->Prop:=fun i m vs H=>m=n-i/\i<=n/\Pv i vs H
theorem lT{n i:Nat}{Pv:Nat->List V->Hp->Prop}{vs:List V}{H:Hp}(hi:i<n)(p:Pv (i+1) vs H):∃m',m'<n-i/\Wc n Pv (i+1) m' vs H:=⟨n-(i+1),by omega,rfl,hi,p⟩
abbrev dj(k:Nat)(fi:List Nat)(σ:St)(J:It)(g:TG)(tc:TT)(te:TE)(H1:Hp)(l:Addr)(Q:Hp->Prop):Prop :=
 ∃W:Nat->Nat->List V->Hp->Prop,(∃m,W 0 m [] (upd H1 l (.lst [])))/\∀i m vs H2,W i m vs H2->H2 l=some (.lst vs) /\
  ((J.stop i H2/\Q H2)∨(J.go i H2/\∀x H3,J.yld i H2 x H3->g x (cH k fi σ) H3 fun σ2 H4=>tc σ2 H4 fun b H5 =>
   if b=true then te σ2 H5 fun v H6=>H6 l=some (.lst vs)/\vs.length<aj/\∃m',m'<m/\W (i+1) m' (vs++[v]) (upd H6 l (.lst (vs++[v])))else ∃m',m'<m/\W (i+1) m' vs H5))
theorem i0{k:Nat}{fi:List Nat}{J:It}{g:TG}{tc:TT}{te:TE}{σ:St}{H1:Hp}{Q:Hp->Prop}{l:Addr}(n:Nat)(Pv:Nat->List V->Hp->Prop)(h0:Pv 0 [] (upd H1 l (.lst [])))
  (hl:∀i vs H,i<=n->Pv i vs H->H l=some (.lst vs)) (hgo:∀i vs H,i<n->Pv i vs H->J.go i H) (hst:∀vs H,Pv n vs H->J.stop n H/\Q H)
  (hs:∀i vs H x H3,i<n->Pv i vs H->J.yld i H x H3->g x (cH k fi σ) H3 fun σ2 H4=>tc σ2 H4 fun b H5 =>
   if b=true then te σ2 H5 fun v H6=>H6 l=some (.lst vs)/\vs.length<aj/\∃m',m'<n-i/\Wc n Pv (i+1) m' (vs++[v]) (upd H6 l (.lst (vs++[v])))else ∃m',m'<n-i/\Wc n Pv (i+1) m' vs H5) :
  dj k fi σ J g tc te H1 l Q:=by
 refine⟨Wc n Pv,⟨n,by simp[Wc],ee _,h0⟩,?_⟩;rintro i m vs H ⟨rfl,hi,p⟩;refine⟨hl i vs H hi p,?_⟩;by_cases hlt:i<n
 ·exact .inr ⟨hgo i vs H hlt p,fun x H3 y=>hs i vs H x H3 hlt p y⟩
 ·have e:i=n:=by omega
  subst e;exact .inl (hst vs H p)
section
variable{K:Za}{k:Nat}{fi:List Nat}{g:TG}{tc:TT}{te:TE}{σ:St}{H1:Hp}{Q:Hp->Prop}{l:Addr}
theorem bN{a:Addr}{xs:List V}(Pv:Nat->List V->Hp->Prop)(h0:Pv 0 [] (upd H1 l (.lst [])))
  (hl:∀i vs H,i<=xs.length->Pv i vs H->H l=some (.lst vs)/\ay K H a xs) (hd:∀vs H,Pv xs.length vs H->Q H)
  (hs:∀i vs H x,xs[i]?=some x->i<xs.length->Pv i vs H->g x (cH k fi σ) H fun σ2 H4=>tc σ2 H4 fun b H5 =>
   if b=true then te σ2 H5 fun v H6=>H6 l=some (.lst vs)/\vs.length<aj/\∃m',m'<xs.length-i/\Wc xs.length Pv (i+1) m' (vs++[v]) (upd H6 l (.lst (vs++[v])))else ∃m',m'<xs.length-i/\Wc xs.length Pv (i+1) m' vs H5) :
  dj k fi σ (zf K a) g tc te H1 l Q:=by
 refine i0 xs.length Pv h0 (fun i vs H hi p=>(hl i vs H hi p).1) (fun i vs H hi p=>⟨xs,xs[i],(hl i vs H (cM hi) p).2,by simp[hi]⟩) (fun vs H p=>⟨⟨xs,(hl _ vs H (ax _) p).2,ax _⟩,hd vs H p⟩) fun i vs H x H3 hi p y=>?_;obtain⟨rfl,y⟩:=y;exact hs i vs _ x (y xs (hl i vs _ (cM hi) p).2) hi p
theorem tU{a:Addr}{xs:List V}(Pv:Nat->List V->Hp->Prop)(h0:Pv 0 [] (upd H1 l (.lst [])))
  (hl:∀i vs H,i<=xs.length->Pv i vs H->H l=some (.lst vs)/\bE K H a xs) (hd:∀vs H,Pv xs.length vs H->Q H)
  (hs:∀i vs H x,xs[i]?=some x->i<xs.length->Pv i vs H->g x (cH k fi σ) H fun σ2 H4=>tc σ2 H4 fun b H5 =>
   if b=true then te σ2 H5 fun v H6=>H6 l=some (.lst vs)/\vs.length<aj/\∃m',m'<xs.length-i/\Wc xs.length Pv (i+1) m' (vs++[v]) (upd H6 l (.lst (vs++[v])))else ∃m',m'<xs.length-i/\Wc xs.length Pv (i+1) m' vs H5) :
  dj k fi σ (Bh K a) g tc te H1 l Q:=by
 refine i0 xs.length Pv h0 (fun i vs H hi p=>(hl i vs H hi p).1) (fun i vs H hi p=>⟨xs,xs[i],(hl i vs H (cM hi) p).2,by simp[hi]⟩) (fun vs H p=>⟨⟨xs,(hl _ vs H (ax _) p).2,ax _⟩,hd vs H p⟩) fun i vs H x H3 hi p y=>?_;obtain⟨rfl,y⟩:=y;exact hs i vs _ x (y xs (hl i vs _ (cM hi) p).2) hi p
theorem u8{lo:Int}{n:Nat}(Pv:Nat->List V->Hp->Prop)(h0:Pv 0 [] (upd H1 l (.lst [])))
  (hl:∀i vs H,i<=n->Pv i vs H->H l=some (.lst vs)) (hd:∀vs H,Pv n vs H->Q H)
  (hs:∀i vs H,i<n->Pv i vs H->g (.int (lo+i)) (cH k fi σ) H fun σ2 H4=>tc σ2 H4 fun b H5 =>
   if b=true then te σ2 H5 fun v H6=>H6 l=some (.lst vs)/\vs.length<aj/\∃m',m'<n-i/\Wc n Pv (i+1) m' (vs++[v]) (upd H6 l (.lst (vs++[v])))else ∃m',m'<n-i/\Wc n Pv (i+1) m' vs H5) :
  dj k fi σ (Bi lo n) g tc te H1 l Q:=by
 refine i0 n Pv h0 hl (fun i vs H hi p=>hi) (fun vs H p=>⟨ax _,hd vs H p⟩) fun i vs H x H3 hi p y=>?_;obtain⟨rfl,rfl⟩:=y;exact hs i vs _ hi p
theorem y2{x:Str}(Pv:Nat->List V->Hp->Prop)(h0:Pv 0 [] (upd H1 l (.lst [])))
  (hl:∀i vs H,i<=x.cps.size->Pv i vs H->H l=some (.lst vs)) (hd:∀vs H,Pv x.cps.size vs H->Q H)
  (hs:∀i vs H c,x.cps[i]?=some c->i<x.cps.size->Pv i vs H->g (.str ⟨#[c]⟩) (cH k fi σ) H fun σ2 H4=>tc σ2 H4 fun b H5 =>
   if b=true then te σ2 H5 fun v H6=>H6 l=some (.lst vs)/\vs.length<aj/\∃m',m'<x.cps.size-i/\Wc x.cps.size Pv (i+1) m' (vs++[v]) (upd H6 l (.lst (vs++[v])))else ∃m',m'<x.cps.size-i/\Wc x.cps.size Pv (i+1) m' vs H5) :
  dj k fi σ (BW x) g tc te H1 l Q:=by
 refine i0 x.cps.size Pv h0 hl (fun i vs H hi p=>hi) (fun vs H p=>⟨ax _,hd vs H p⟩) fun i vs H y H3 hi p yl=>?_;obtain⟨rfl,c,hc,rfl⟩:=yl;exact hs i vs _ c hc hi p
end
theorem gN{j:Nat}{x:V}{σ:St}{H:Hp}{Q:St->Hp->Prop}(h:Q (σ.set j (some x)) H):cS j x σ H Q:=h
theorem qK{σ:St}{H:Hp}{A B:Hp->Prop}(h:A H):iy σ H (fun b H5=>if b=true then A H5 else B H5):=by
 show(if(true:Bool)=true then A H else B H)
 exact h
theorem pX{α β:Type}{F:α->β->Prop}:∀{l₁:List α}{l₂:List β},Paired F l₁ l₂->∀{i:Nat}{a:α}{b:β},l₁[i]?=some a->l₂[i]?=some b->F a b
 |_,_,.nil,_,_,_,h,_=>by simp at h
 |_,_,.cons r t,0,_,_,h,h'=>by simp at h h';subst h h';exact r
 |_,_,.cons r t,i+1,_,_,h,h'=>by simp at h h';exact pX t h h'
end L2
namespace L2
open PySem PySem.W
section
variable{X:Cx}
theorem vI:∀{ns:List Int}{its:Zf},aI (ns.map V.int) its->∃xs:List (Int×Tok),its=xs.map (fun p=>Value.int p.1 p.2)/\xs.map (·.1)=ns
 |[],_,r=>by cases r;exact⟨[],rfl,rfl⟩
 |n::ns,_,r=>by
  cases r with
  |cons r1 r2 =>
   obtain⟨t,rfl⟩:=r1;obtain⟨xs,e1,e2⟩:=vI r2;exact⟨(n,t)::xs,by rw[e1];rfl,by rw[a_,e2]⟩
end
def xN(K:Za)(td ty tv:TE):TS:=fun D σ H=>tv σ H fun v H1=>td σ H1 fun x H2=>ty σ H2 fun y H3 =>
 ∃(a b:Addr) (kvs:List (TK×V)) (k:TK),x=.ref a/\y=.ref b/\H3 a=some (.dT kvs)/\mI K H3 k (.ref b)/\k.depth<=8/\kvs.length<aj/\D.nx σ (upd H3 a (.dT (cr kvs k v)))
section
variable{X:Cx}{o i value:Expr}{pos pos':Pos}{td ty tv:TE}
theorem yi(hu:X.A.units+16<cLine)(ho:PE X o td)(hi:PE X i ty)(hv:PE X value tv)(hs:mq value (some (.Subscript o i pos')) pos.line X.env=pure false):
  PS X (.Assign [.Subscript o i pos'] value pos) (xN X.K td ty tv):=by
 intro J3 s σ H D I h;refine wpAny_Assign_Subscript (bO (hv J3 s σ H _ I h) fun r s1 ⟨v,H1,I1,rv,q1⟩=>bO (ho J3 s1 σ H1 _ I1 q1) fun u s2 ⟨x,H2,I2,rx,q2⟩=>bO (hi J3 s2 σ H2 _ I2 q2) fun iv s3 ⟨y,H3,I3,ry,a,b,kvs,k,ex,ey,e,eb,e8,l,q3⟩=>?_) hs;subst ex;subst ey;obtain rfl:u=Value.ref a:=rx;exact u6 hu I3 e eb e8 l ry rv fun s4 I4=>⟨σ,_,I4,q3⟩
end
theorem pU{K:Za}{H:Hp}:∀xs:List Str,TKCs K H (xs.map fun x=>TK.k (some (.inr x))) (xs.map V.str)
 |[]=>by show TKCs K H [] [];unfold TKCs;rfl
 |x::xs=>by
  rw[a_,a_];unfold TKCs;refine⟨_,_,rfl,?_,pU xs⟩;unfold mI
  rfl
theorem xK{K:Za}{H:Hp}{a:Addr}{xs:Zb}(h:e_ K H a (xs.map V.str)):mI K H (.t (xs.map fun x=>TK.k (some (.inr x)))) (.ref a):=by
 unfold mI;exact⟨a,_,rfl,h,pU xs⟩
end L2
end

section
set_option Elab.async false
set_option linter.all false
set_option maxRecDepth 100000
namespace L2
open PySem PySem.Spec PyProof.Rows PySem.W
def Al:Expr->List Str
 |.Name x _=>[x]
 |.Tuple es _ _=>es.filterMap fun e=>match e with | .Name x _=>some x|_=>none
 |_=>[]
theorem bK{X:Cx}{b:List Stmt}{t:TS}{D:o6}{σ:St}{H:Hp}(r:t D σ H)(p:uj X b t):∃t,uj X b t/\t D σ H:=⟨t,p,r⟩
section
variable{X:Cx}{k k0:Nat}{ps:Zb}{sp:Sp}{x m:Str}{C:Addr}{p pos J5:Pos}{o e a b:Expr}{es:List Expr}{t:TA}{ta tb te:TE}
theorem qf(hr:cZ k0 X.A)(D:gg X.prog X.w X.K X.mg X.base x ps k sp)(ha:PA X (e::es) t)(hk:k<=k0:=by decide)(hg:Gl X x:=by rfl)(hdb:(x==("__debug__":Str))=false:=by decide)
  (he:aw (e::es) X.env=(false,eval e X.env)::aw es X.env:=by rfl) (hpl:(backTo pos (aw es X.env)).any (·.1)=false:=by rfl) :
  PE X (.Call (.Name x p) (e::es) [] pos) (aO sp t):=Bu D (hr.mono hk) hg ha hdb he hpl
theorem qm{pl:Sem Bool}(hr:cZ k0 X.A)(M:qj X.prog X.w X.K X.mg X.base C m ps k sp)(he:PE X o ta)(ha:PA X (e::es) t)(hk:k<=k0:=by decide)
  (hst:aw (e::es) X.env=(false,eval e X.env)::aw es X.env:=by rfl) (hpl:(backTo pos (aw es X.env)).any (·.1)=false:=by rfl)
  (ht:eval (.Call (.Attribute o m J5) (e::es) [] pos) X.env=(do
   let ov <- eval o X.env
   mr J5.atName
   let(f,first) <- iD [ov] (mn ov m pl)
   pK pos f first (backTo pos (aw (e::es) X.env)) (kq pos (ko [] X.env))):=by rfl) :
  PE X (.Call (.Attribute o m J5) (e::es) [] pos) (db C m sp [] E0 ta t):=AY (pl:=pl) M (hr.mono hk) he ha hst hpl ht
theorem Bt{pl:Sem Bool}(hr:cZ k0 X.A)(M:qj X.prog X.w X.K X.mg X.base C m ps k sp)(he:PE X o ta)(hk:k<=k0:=by decide)
  (ht:eval (.Call (.Attribute o m J5) [] [] pos) X.env=(do
   let ov <- eval o X.env
   mr J5.atName
   let(f,first) <- iD [ov] (mn ov m pl)
   pK pos f first (backTo pos (aw [] X.env)) (kq pos (ko [] X.env))):=by rfl) :
  PE X (.Call (.Attribute o m J5) [] [] pos) (db C m sp [] E0 ta bI):=zQ (pl:=pl) M (hr.mono hk) he ht
theorem xl(ha:PE X a ta)(hb:PE X b tb)(hs:xp b:=by exact fun _ _=>rfl):PE X (.Subscript a b pos) (aD (d7 X.K) ta tb):=vQ v4 ha hb hs
theorem xt(ha:PE X a ta)(hb:PE X b tb)(hs:xp b:=by exact fun _ _=>rfl):PE X (.Subscript a b pos) (aD (rA X.K) ta tb):=vQ yF ha hb hs
theorem xq(ha:PE X a ta)(hb:PE X b tb)(hs:xp b:=by exact fun _ _=>rfl):PE X (.Subscript a b pos) (aD (o9 X.K) ta tb):=vQ A9 ha hb hs
theorem xs'(ha:PE X a ta)(hb:PE X b tb)(hs:xp b:=by exact fun _ _=>rfl):PE X (.Subscript a b pos) (aD yb ta tb):=vQ yG ha hb hs
theorem mM{op:CmpOp}{r:R2}(ho:ka X (c9 op) r)(ha:PE X a ta)(hb:PE X b tb)(hm:iq op b=false:=by exact yv _):PT X (.Compare a [op] [b] pos) (br (aD r ta tb)):=vO ho ha hb hm
theorem BU{op:CmpOp}{r:R2}(ho:ka X (c9 op) r)(ha:PE X a ta)(hb:PE X b tb)(hm:iq op b=false:=by exact yv _):PE X (.Compare a [op] [b] pos) (aD r ta tb):=vR ho ha hb hm
theorem AL{op:CmpOp}{r:R2}(ho:ka X (c9 op) r)(ha:PE X a ta)(hb:PE X b tb)(hm:iq op b=false:=by with_unfolding_all rfl):PT X (.Compare a [op] [b] pos) (br (aD r ta tb)):=vO ho ha hb hm
theorem eci{op:CmpOp}{r:R2}(ho:ka X (c9 op) r)(ha:PE X a ta)(hb:PE X b tb)(hm:iq op b=false:=by with_unfolding_all rfl):PE X (.Compare a [op] [b] pos) (aD r ta tb):=vR ho ha hb hm
theorem qB{id:String}{r:List V->Hp->VK->Prop}(hc:eg X (.builtin id) r)(hm:X.mg x=none)(hv:gP x=some (.builtin id))(ha:PA X (e::es) t)(hg:Gl X x:=by rfl)(hn:x≠"__name__":=by decide)(hdb:(x==("__debug__":Str))=false:=by decide)
  (he:aw (e::es) X.env=(false,eval e X.env)::aw es X.env:=by rfl) (hpl:(backTo pos (aw es X.env)).any (·.1)=false:=by rfl):PE X (.Call (.Name x p) (e::es) [] pos) (gi r t):=tD hc hg hm hv ha hn hdb he hpl
theorem qL(hc:X.calm=true)(hm:X.mg "list"=none)(ha:PA X (e::es) t)(hg:Gl X "list":=by rfl)
  (he:aw (e::es) X.env=(false,eval e X.env)::aw es X.env:=by rfl) (hpl:(backTo pos (aw es X.env)).any (·.1)=false:=by rfl):PE X (.Call (.Name "list" p) (e::es) [] pos) (gi (cO X.K) t):=eB (u_ hc) hg hm va ha (by decide) (by decide) he hpl
theorem ql(hm:X.mg "len"=none)(ha:PA X (e::es) t)(hg:Gl X "len":=by rfl)
  (he:aw (e::es) X.env=(false,eval e X.env)::aw es X.env:=by rfl) (hpl:(backTo pos (aw es X.env)).any (·.1)=false:=by rfl):PE X (.Call (.Name "len" p) (e::es) [] pos) (gi (iT X.K) t):=tD xk hg hm PySem.boot_len ha (by decide) (by decide) he hpl
theorem qs(i:Nat){pos':Pos}(hN:X.N.Nodup)(he:PE X e te)(hi:X.N[i]?=some x:=by rfl)(hx:Loc X.env.scope x:=by first|exact Or.inl rfl|exact Or.inr rfl)(hs:mq e (some (.Name x pos')) pos.line X.env=pure false:=by rfl)(hf:X.fn x=true∨X.env.scope.names.lookup x=some .local:=by first|exact .inl rfl|exact .inr rfl|assumption):
  PS X (.Assign [.Name x pos'] e pos) (aK te (cS i)):=AT hN hi hx he hs hf
theorem gn(i:Nat)(hN:X.N.Nodup)(hi:X.N[i]?=some x:=by rfl)(hx:Loc X.env.scope x:=by first|exact Or.inl rfl|exact Or.inr rfl)(hf:X.fn x=true∨X.env.scope.names.lookup x=some .local:=by first|exact .inl rfl|exact .inr rfl|assumption):PG X (.Name x pos) (cS i):=vP hN hi hx hf
theorem gc(i:Nat)(hN:X.N.Nodup:=by exact of_decide_eq_true (by with_unfolding_all rfl))(hi:X.N[i]?=some x:=by rfl)(hx:Loc X.env.scope x:=by exact Or.inl rfl)(hf:X.fn x=true∨X.env.scope.names.lookup x=some .local:=by first|exact .inl rfl|exact .inr rfl|assumption):PG X (.Name x pos) (cS i):=vP hN hi hx hf
theorem a1(ha:PE X a ta)(hs:aw [a] X.env=(false,eval a X.env)::aw [] X.env:=by rfl):PA X [a] (au ta bI):=aW ha cR hs
theorem a2(ha:PE X a ta)(hb:PE X b tb)(hs:aw [a,b] X.env=(false,eval a X.env)::aw [b] X.env:=by rfl)(hs2:aw [b] X.env=(false,eval b X.env)::aw [] X.env:=by rfl):PA X [a,b] (au ta (au tb bI)):=aW ha (aW hb cR hs2) hs
theorem a3{c:Expr}{tc:TE}(ha:PE X a ta)(hb:PE X b tb)(hc:PE X c tc)(hs:aw [a,b,c] X.env=(false,eval a X.env)::aw [b,c] X.env:=by rfl)(hs1:aw [b,c] X.env=(false,eval b X.env)::aw [c] X.env:=by rfl)(hs2:aw [c] X.env=(false,eval c X.env)::aw [] X.env:=by rfl):PA X [a,b,c] (au ta (au tb (au tc bI))):=aW ha (a2 hb hc hs1 hs2) hs
variable{elt iter tg:Expr}{ifs:List Expr}{scope:Scope}{fi:List Nat}{wi:TI}{g:TG}{tc:TT}
theorem qc(hi:PI X tg iter wi)(ho:xo k g)
  (h:∀C cl s₀ H₀ ex pn,PG (cx X (Al tg++fi.map fun i=>X.N.getD i "") scope C cl s₀ H₀ ex pn) tg g/\AI (cx X (Al tg++fi.map fun i=>X.N.getD i "") scope C cl s₀ H₀ ex pn) ifs tc/\PE (cx X (Al tg++fi.map fun i=>X.N.getD i "") scope C cl s₀ H₀ ex pn) elt te)
  (hS:jr X.env.scope scope k (Al tg++fi.map fun i=>X.N.getD i "") X.N fi=true:=by with_unfolding_all rfl) (hc:X.calm=true:=by rfl)
  (hs:∀x,sF iter X.env x=pure x:=by intro _;rfl):PE X (.ListComp elt [⟨tg,iter,ifs,0⟩] scope pos) (bZ k fi wi g tc te) :=
 zU hS hc hi (fun _ _ _ _ _ _=>(h _ _ _ _ _ _).1) ho (fun _ _ _ _ _ _=>(h _ _ _ _ _ _).2.1) (fun _ _ _ _ _ _=>(h _ _ _ _ _ _).2.2) hs
theorem qsc(j:Nat){y:Str}{spos py:Pos}(hN:X.N.Nodup)(hi:PI X tg iter wi)(ho:xo k g)
  (h:∀C cl s₀ H₀ ex pn,PG (cx X (Al tg++fi.map fun i=>X.N.getD i "") scope C cl s₀ H₀ ex pn) tg g/\AI (cx X (Al tg++fi.map fun i=>X.N.getD i "") scope C cl s₀ H₀ ex pn) ifs tc/\PE (cx X (Al tg++fi.map fun i=>X.N.getD i "") scope C cl s₀ H₀ ex pn) elt te)
  (hj:X.N[j]?=some y:=by rfl) (hy:Loc X.env.scope y:=by first|exact Or.inl rfl|exact Or.inr rfl)
  (hS:jr X.env.scope scope k (Al tg++fi.map fun i=>X.N.getD i "") X.N fi=true:=by with_unfolding_all rfl) (hc:X.calm=true:=by rfl)
  (hsw:mq (.ListComp elt [⟨tg,iter,ifs,0⟩] scope pos) (some (.Name y py)) spos.line X.env=pure true:=by rfl)
  (hs:∀x,sF iter X.env x=pure x:=by intro _;rfl) (hf:X.fn y=true∨X.env.scope.names.lookup y=some .local:=by first|exact .inl rfl|exact .inr rfl|assumption) :
  PS X (.Assign [.Name y py] (.ListComp elt [⟨tg,iter,ifs,0⟩] scope pos) spos) (aK (bZ k fi wi g tc te) (cS j)) :=
 uO hN hj hy hS hc hi (fun _ _ _ _ _ _=>(h _ _ _ _ _ _).1) ho (fun _ _ _ _ _ _=>(h _ _ _ _ _ _).2.1) (fun _ _ _ _ _ _=>(h _ _ _ _ _ _).2.2) hsw hs hf
end
end L2
end

section
set_option Elab.async false
set_option linter.all false
set_option maxRecDepth 100000
namespace L2
open PySem PySem.Spec PyProof.Rows
structure zb(h:Heap)(d:Addr)(es:Array iK)(ep:Nat):Prop where
 ex:∃o,h.get? d=some o/\o.ExactDict/\o.data=.dict es ep
section
variable{prog:bj}{w:World}{A:Around}{E:Zc}{s:Shared}{d v it:Addr}{es:Array iK}{ep i:Nat}
theorem zb.ty(h:zb s.heap d es ep):s.TypeIs (.ref d) "dict":=let⟨o,ho,e,_⟩:=h.ex;⟨o,ho,e.1⟩
end
structure Bj(P:bj)(w:World)(K:Za)(d:Addr)(o:Obj)(u:HO)(n:Nat)(ent:Nat->Hp->V->V->Prop)(es:Array iK)(ep:Nat):Prop where
 ex:o.ExactDict
 dat:o.data=.dict es ep
 sz:es.size=n
 get:∀{H:Hp}{h:Heap}{i:Nat}(hi:i<es.size),jt P w K H h->H d=some (.frz o u)->∃a b,ent i H a b/\RelV a es[i].key/\RelV b es[i].val
def z8(K:Za)(kvs:List (TK×V)):Nat->Hp->V->V->Prop:=fun i H a b=>∃k,kvs[i]?=some (k,b)/\mI K H k a
theorem p_{P:bj}{w:World}{K:Za}{H:Hp}{h:Heap}{d:Addr}{o:Obj}{kvs:List (TK×V)}(hok:jt P w K H h)(e:H d=some (.frz o (.dT kvs))):
  (d==fk)=false/\∃es ep,Bj P w K d o (.dT kvs) kvs.length (z8 K kvs) es ep:=by
 obtain⟨g,z,hsys,xs,rel,o',es,ep,ho',ex,hd,hes,nd⟩:=(show bw P w K H h d (.frz o (.dT kvs))from hok d _ e);rw[g]at ho';cases ho';have hl:es.size=xs.length:=by rw[<-jD,hes,ai]
 refine⟨hsys,es,ep,ex,hd,by rw[hl,Paired.length rel],fun{H' h' i} hi hok' e'=>?_⟩;obtain⟨g',z',hsys',xs',rel',o'',es',ep',ho'',ex',hd',hes',nd'⟩:=(show bw P w K H' h' d (.frz o (.dT kvs))from hok' d _ e');rw[g']at ho'';cases ho'';rw[hd]at hd';cases hd';have hl':es.size=xs'.length:=by rw[<-jD,hes',ai]
 have hi':i<xs'.length:=by omega
 have hk:i<kvs.length:=by rw[Paired.length rel'];exact hi'
 have hp:=pX rel' (i:=i) (a:=kvs[i]) (b:=xs'[i]) (by simp[hk]) (by simp[hi']);have he:es[i]=entryOfKey (cN P w) xs'[i]:=by
  have:es.toList[i]?=some es[i]:=by simp[hi]
  rw[hes',gJ,iI hi']at this;injection this with this;exact this.symm
 refine⟨.ref xs'[i].2.1,kvs[i].2,⟨kvs[i].1,by simp[hk],hp.2.1⟩,?_,?_⟩
 ·rw[he];exact rfl
 ·rw[he];exact hp.2.2.2
end L2
end

section
set_option Elab.async false
set_option linter.all false
set_option maxRecDepth 100000
namespace L2
open PySem PySem.Spec PyProof.Rows
section
variable{prog:bj}{w:World}{A:Around}{E:Zc}{s:Shared}{d v it:Addr}{es:Array iK}{ep i:Nat}
theorem wP{Q:Zc}(hd:(d==fk)=false)(h:zb s.heap d es ep)
  (q:∀h',h'.IsKeyIter s.heap.objs.size d 0 es.size ep->(∀b o,s.heap.get? b=some o->h'.get? b=some o)->Q (.ref s.heap.objs.size) { s with heap:=h' }):wpAny (model prog w) A (pyIter (.ref d)) Q E s:=by
 obtain⟨o,ho,hx,hdat⟩:=h.ex;refine wpAny_pyIter_slot h.ty F.slot_dict_iter <| xC F.slot_dict_iter h.ty F.entry_dict_iter ?_ (F.args_dict_iter_1 _);unfold cI.«dict.__iter__»;refine ar ?_;unfold cI.Dict.dictSlotNone;refine ar <| wpAny_notOrdered_dict h.ty <| ?_;refine aN (show wpAny _ _ (cI.Dict.showsAll d >>= _) _ _ s from ?_);unfold cI.Dict.showsAll;rw[if_neg (fun z=>by rw[hd]at z;cases z)];refine ar <| aN <| ar <| qy ho hdat <| ar <| wpAny_dictEpoch ho hdat ?_;refine ar (qC (aN ⟨_,rfl,"dict_keyiterator",_,⟨_,dI _ rfl,rfl⟩,nQ.lookup,?_⟩));exact q _ ⟨_,dI _ rfl,rfl,by simp[rawInt]⟩ fun b o e=>bY _ e
theorem wO{Q:Option Value->Shared->Prop}(hit:s.heap.IsKeyIter it d i es.size ep)(h:zb s.heap d es ep)(hi:i<es.size)
  (q:∀h',h'.IsKeyIter it d (i+1) es.size ep->iE it s.heap h'->Q (some es[i].key) { s with heap:=h' }):wpAny (model prog w) A (pyNext (.ref it)) Q E s:=by
 obtain⟨ov,hov,hcv,hdv⟩:=id hit;obtain⟨o,ho,hx,hdat⟩:=h.ex;have hT:=hit.typeIs;unfold pyNext;refine ar <| wpAny_attempt <| wpAny_callSpecial?_slot (name:=Str.ofString "__next__") hT nQ <| xC nQ hT F.entry_dict_keyiterator_next ?_ (F.args_dict_keyiterator_next_1 _);refine ar <| aN <| ar <| ar ?_
 first|refine ar <| qv hT <| aN ?_|refine ar <| qt hT <| aN ?_
 refine ar <| wpAny_fieldsOf hov hdv ?_;simp only[show cI.Dict_items.ownsTuple "dict_keyiterator"=false by decide,nR,if_false];show wpAny _ _ (if(Value.ref d==Value.none)=true then _ else _) _ _ _
 rw[if_neg (show ¬((Value.ref d==Value.none)=true)from fI)];refine ar <| aN <| ar <| qy ho hdat ?_;rw[if_neg (by simp)];refine ar <| aN <| ar <| wpAny_dictEpoch ho hdat ?_;rw[if_neg (by simp)];refine aN ?_;simp only[show ¬((i:Int)<0)from by omega,if_false,lD,Array.getElem?_eq_getElem hi];refine ar ?_
 first|refine ar <| qv hT <| aN ?_|refine ar <| qt hT <| aN ?_
 refine ar <| wpAny_isOneOf_keyiter hT ?_;show wpAny _ _ (setField (.ref it) 1 (rawInt ((i:Int)+1)) >>= _) _ _ s;refine ar <| wpAny_setField hov hdv (by simp) ?_;have n1:(s.heap.update it (Obj.mapFields (·.setIfInBounds 1 (rawInt ((i:Int)+1))))).IsKeyIter it d (i+1) es.size ep:=⟨_,Heap.get?_update_self _ hov (Obj.isFreed_of_fields (Obj.data_mapFields hdv _)),(Obj.cls_mapFields ..).trans hcv,by rw[Obj.data_mapFields hdv];simp[rawInt]⟩;have T1:=Heap.IsKeyIter.typeIs (s:={ s with heap:=s.heap.update it (Obj.mapFields (·.setIfInBounds 1 (rawInt ((i:Int)+1)))) }) n1;refine ar <| mx <| ar <| wpAny_isOneOf_keyiter T1 ?_;show wpAny _ _ (pure es[i].key) _ _ _;exact aN <| aN ⟨_,rfl,aN <| q _ n1 (nS ..)⟩
theorem x9{Q:Option Value->Shared->Prop}(hh:A.handled=none)(hit:s.heap.IsKeyIter it d i es.size ep)(h:zb s.heap d es ep)(hi:es.size<=i)
  (q:∀h',Heap.ExtBut it s.heap h'->Q none { s with heap:=h' }):wpAny (model prog w) A (pyNext (.ref it)) Q E s:=by
 obtain⟨ov,hov,hcv,hdv⟩:=id hit;obtain⟨o,ho,hx,hdat⟩:=h.ex;have hT:=hit.typeIs;unfold pyNext;refine ar <| wpAny_attempt <| wpAny_callSpecial?_slot (name:=Str.ofString "__next__") hT nQ <| xC nQ hT F.entry_dict_keyiterator_next ?_ (F.args_dict_keyiterator_next_1 _);refine ar <| aN <| ar <| ar ?_
 first|refine ar <| qv hT <| aN ?_|refine ar <| qt hT <| aN ?_
 refine ar <| wpAny_fieldsOf hov hdv ?_;simp only[show cI.Dict_items.ownsTuple "dict_keyiterator"=false by decide,nR,if_false];show wpAny _ _ (if(Value.ref d==Value.none)=true then _ else _) _ _ _
 rw[if_neg (show ¬((Value.ref d==Value.none)=true)from fI)];refine ar <| aN <| ar <| qy ho hdat ?_;rw[if_neg (by simp)];refine ar <| aN <| ar <| wpAny_dictEpoch ho hdat ?_;rw[if_neg (by simp)];refine aN ?_;simp only[show ¬((i:Int)<0)from by omega,if_false,lD,Array.getElem?_eq_none hi];refine ar ?_
 first|refine ar <| qv hT <| aN ?_|refine ar <| qt hT <| aN ?_
 show wpAny _ _ (setField (.ref it) 0 .none >>= _) _ _ s;refine ar <| wpAny_setField hov hdv (by simp) ?_;show wpAny _ _ (newExc (.type "StopIteration") [] >>= _) _ _ _;refine ar ?_;simp only[newExc,newTuple];refine ar <| qC ?_ (by size_fits);refine ar (m:=firstArgMember _ _) <| wpAny_of_eq (a:=Value.none) (by first|rfl|(simp only[firstArgMember];rfl)) <| qC ?_ (by size_fits)
 simp only[raiseNew];refine ar <| wpAny_handled ?_;rw[show A.in1.handled=none from hh];refine ar <| aN <| wpAny_throw ?_;refine ar (wpAny_isInstance (b:=true) (T:="StopIteration") ⟨_,dI _ rfl,rfl⟩ isSubtype_stop (aN (q _ (((nS ..).extBut.push _).push _))))
end
def Bl(d:Addr)(o:Obj)(u:HO)(n:Nat)(ent:Nat->Hp->V->V->Prop):It :=
 ⟨fun i H=>H d=some (.frz o u)/\i<n,fun i H x H'=>H'=H/\∃b,ent i H x b,fun i H=>H d=some (.frz o u)/\n<=i⟩
theorem wr{P:bj}{w:World}{K:Za}{tg:Expr}{d it:Addr}{o:Obj}{u:HO}{n:Nat}{ent:Nat->Hp->V->V->Prop}{es:Array iK}{ep:Nat}(X0:Bj P w K d o u n ent es ep):
  se P w K tg (Bl d o u n ent) [it] it (fun i h=>h.IsKeyIter it d i n ep) where
 mem:=by simp
 obj:=fun i h st b hb=>by
  have e:b=it:=by simpa using hb
  subst e;obtain⟨o,e,c,d⟩:=st;exact⟨o,e,fun v z=>by rw[d]at z;cases z⟩
 keep:=fun i h h' st k=>st.at fun o e=>k it (by simp) o e
 item:=by
  intro X hP hw hK hc i J3 s σ H E I hf st hg;subst hP hw hK;obtain⟨hd,hi⟩:=hg;have hi':i<es.size:=by rw[X0.sz];exact hi
  obtain⟨g,ou⟩:=(show bw X.prog X.w X.K H s.heap d (.frz o u)from I.hok d _ hd);obtain⟨a,b,en,ra,rb⟩:=X0.get hi' I.hok hd;obtain⟨f0,f1,f2,f3,f4,f5⟩:=hf it (by simp);rw[<-X0.sz]at st;refine wO st ⟨o,g,X0.ex,X0.dat⟩ hi' fun h' st' sb=>?_;have I1:Inv X J3 σ H { s with heap:=h' }:=I.turned (t':=s.toks) (fun b o hb e=>(sb.2 b hb).trans e) f0 f1 f3 f4 f5;obtain⟨oi,e,c,dd⟩:=id st';exact⟨_,rfl,p9 (s:={ s with heap:=h' }) e c dd (by decide) ⟨a,H,I1,ra,⟨rfl,b,en⟩,by rw[<-X0.sz];exact st',fun b hb=>(hf b hb).1⟩⟩
 done:=by
  intro X hP hw hK hc i J3 s σ H E I hf st hg;subst hP hw hK;obtain⟨hd,hi⟩:=hg;obtain⟨g,ou⟩:=(show bw X.prog X.w X.K H s.heap d (.frz o u)from I.hok d _ hd);obtain⟨f0,f1,f2,f3,f4,f5⟩:=hf it (by simp);rw[<-X0.sz]at st;exact x9 (I.ok.hd hc) st ⟨o,g,X0.ex,X0.dat⟩ (by rw[X0.sz];exact hi) fun h' eb=>⟨rfl,I.turned (t':=s.toks) (fun b o hb e=>eb b o hb e) f0 f1 f3 f4 f5⟩
 self:=fun _ _ _ _ _ st h=>wpAny_pyIter_keyiter st h
def yI(K:Za)(tl:TE):TI:=fun σ H R=>tl σ H fun x H1=>∃d kvs,x=.ref d /\
 ((H1 d=some (.dT kvs)/\∀o,R (Bl d o (.dT kvs) kvs.length (z8 K kvs)) (upd H1 d (.frz o (.dT kvs))))∨∃o,H1 d=some (.frz o (.dT kvs))/\R (Bl d o (.dT kvs) kvs.length (z8 K kvs)) H1)
section
variable{X:Cx}{J3:Zd}{σ:St}{l tg:Expr}{tl:TE}
theorem p5{R:It->Hp->Prop}{H2:Hp}{s1:Shared}{d:Addr}{o:Obj}{u:HO}{n:Nat}{ent:Nat->Hp->V->V->Prop}{es:Array iK}{ep:Nat}(X0:Bj X.prog X.w X.K d o u n ent es ep)(hsys:(d==fk)=false)(I2:Inv X J3 σ H2 s1)(e:H2 d=some (.frz o u))(q:R (Bl d o u n ent) H2):
  wpAny (model X.prog X.w) X.A (pyIter (.ref d)) (PIE X J3 σ tg R) X.xe s1:=by
 obtain⟨g,_⟩:=(show bw X.prog X.w X.K H2 s1.heap d (.frz o u)from I2.hok d _ e);refine wP hsys ⟨o,g,X0.ex,X0.dat⟩ fun h' hit hk=>?_;have I3:Inv X J3 σ H2 { s1 with heap:=h',toks:=s1.toks }:=I2.kept (t':=s1.toks) hk;refine⟨_,[_],_,_,H2,rfl,I3,wr X0,by rw[<-X0.sz];exact hit,fun b hb=>?_,q⟩;have e:b=s1.heap.objs.size:=by simpa using hb
 subst e;exact I2.fpOk (ax _) (I2.hok.fresh (ax _))
theorem yj(hl:PE X l tl):PI X tg l (yI X.K tl):=by
 intro J3 s σ H R I h;refine bO (hl J3 s σ H _ I h) fun v s1 ⟨x,H1,I1,r1,d,kvs,ex,q⟩=>?_;subst ex;cases r1;rcases q with⟨e,q⟩|⟨o,e,q⟩
 ·obtain⟨z,hsys,xs',rel,o,es,ep,ho,r⟩:=id (show bw X.prog X.w X.K H1 s1.heap d (.dT kvs)from I1.hok d _ e);have I2:Inv X J3 σ (upd H1 d (.frz o (.dT kvs))) { s1 with heap:=s1.heap,toks:=s1.toks } :=
   I1.write (x:=d) (e:=d) (t':=s1.toks) (by rw[e];trivial) (.inl rfl) (fun _ _ _ q=>q) ⟨o,ho⟩ ⟨ho,z,hsys,xs',Paired.mapP rel (fun p q r=>⟨r.1,mI.keeps (fun b ys eb=>by rw[ah (fun z=>by rw[z,e]at eb;cases eb)];exact eb) 8 r.2.2.1 r.2.1,r.2.2⟩),o,es,ep,ho,r⟩
  obtain⟨hsys',es',ep',X0⟩:=p_ I2.hok (aa (H:=H1) (a:=d));exact p5 X0 hsys' I2 aa (q o)
 ·obtain⟨hsys',es',ep',X0⟩:=p_ I1.hok e;exact p5 X0 hsys' I1 e q
end
end L2
end

section
set_option Elab.async false
set_option linter.all false
set_option maxRecDepth 100000
namespace HT
open PySem PySem.Spec PyProof.Rows
end HT
namespace L2
open PySem PySem.Spec PyProof.Rows
end L2
namespace HT
open PySem PySem.Spec PyProof.Rows
end HT
namespace L2
open PySem PySem.Spec PyProof.Rows
end L2
end

section
set_option Elab.async false
set_option linter.all false
set_option maxRecDepth 100000
namespace HT
open PySem PyProof.Rows
end HT
namespace L2
open PySem PySem.Spec PyProof.Rows
end L2
end

section
set_option Elab.async false
set_option linter.all false
set_option maxRecDepth 100000
namespace L2
open PySem PySem.Spec PyProof.Rows
abbrev Aq(K:Za):List V->Hp->VK->Prop:=fun xs H Q=>∃(p:Addr) (ns:List Int),xs=[.ref p]/\ay K H p (ns.map V.int)/\Q (.int ns.sum) H
abbrev ya:R2:=rI IntMulOk fun i j=>.int (i * j)
section
variable{X:Cx}
theorem xj(hc:X.calm=true):eg X (.builtin "sum") (Aq X.K):=by
 intro J3 s σ H xs us Q I r h;obtain⟨p,ns,rfl,hq,q⟩:=h;obtain⟨u,rfl,ru⟩:=vals1 r;cases ru;obtain⟨its,rv,pl,hz⟩:=I.list hq;obtain⟨zs,rfl,ens⟩:=vI rv;have isl:s.heap.IsList p (intItems zs.toArray):=by
  have:=pl.isList;have e:intItems zs.toArray=(zs.map fun p=>Value.int p.1 p.2).toArray:=by simp[intItems]
  rw[e];exact this
 refine sum_intListG (I.ok.hd hc) isl fun h' tk t' hk=>?_;rw[preSum_eq,qr (by simp)];exact⟨.int ns.sum,H,I.kept hk,⟨t',by rw[<-ens]⟩,q⟩
theorem vU:ka X (jC .Mult) ya:=By fun _ _ _ _ _ _ _ hc q=>mul_int q hc
end
end L2
end
section
namespace L2
open PySem PySem.Spec PyProof.Rows
open Sem (wp)
end L2
end
set_option Elab.async false
set_option linter.all false
set_option maxRecDepth 100000
set_option maxHeartbeats 4000000
namespace Mum
open PySem PySem.Spec PyProof.Rows L2
def qQ(K:Za):TS :=
 aq (d6 (br (aD rGeI V0 (aD As (tC (.int 10)) (tC (.int 18))))) (aY V0) (cf))
 (aq (aK (aD gw (aD dg (aD dg (aD iS (aD gw V0 (tC (.int 1000000007))) (tC (.int 69069))) (aD iS V1 (tC (.int 40503)))) (tC (.int 977))) (tC (.int 2147483629))) U2)
 (aq (aK (aD gw (aD dg (aD dg (aD iS V2 V2) (aD iS V1 (tC (.int 7919)))) (aD gw V0 (tC (.int 65537)))) (tC (.int 2147483587))) U3)
 (aq (aK (aD gw (aD dg (aD dg (aD iS V3 V3) (aD iS V2 (tC (.int 31)))) (tC (.int 5))) (tC (.int 2147483563))) U4)
 (aY (aD dg (aD iS (aD dg (aD iS V2 (tC (.int 2147483659))) V3) (tC (.int 2147483693))) V4)))))
def sk:List Str:=["cell","at","one","two","three"]
def uu(K:Za):TS :=
 aq (aK (gi (cO K) (aB (xy (rq K) V0 (eM) (gm (tC (.int 12)))))) U1)
 (aq (ei (p8 K (aB (xy (rq K) V0 (gm (tC (.int 12))) (gm (tC (.int 63)))))) (pG K 2 (cT U2 (cT U3 (pH)))) (aK (aD dg (aD (d7 K) V1 (aD gw V2 (tC (.int 12)))) V3) (u4 V1 (aD gw V2 (tC (.int 12))) ow)))
 (aY (de (fQ V1 (tC (.int 0)) (tC (.int 0))))))
def vj:List Str:=["script","cells","k","cell"]
def uv(K:Za):TS :=
 aq (aK (tC (.int 0)) (u4 V0 (tC (.int 2)) ow))
 (aY V0)
def vk:List Str:=["pen"]
def ut(K:Za)(sp_law_spread:Sp):TS :=
 aq (d6 (br (aD zN (aD (d7 K) V0 (tC (.int 2))) V1)) (aq (aK (aD (d7 K) V0 (tC (.int 1))) U2)
 (aq (aK (tC (.int 0)) U3)
 (aq (d6 (br (aD zN V2 (gi (iT K) (aB (aD (d7 K) V0 (tC (.int 0))))))) (aK (aD (d7 K) (aD (d7 K) V0 (tC (.int 0))) V2) U3) (d6 (br (aD zO (gi (iT K) (aB (aD (d7 K) V0 (tC (.int 0))))) (tC (.int 0)))) (aK (aD gw (aD (d7 K) (aD (d7 K) V0 (tC (.int 0))) (aD gw (aD dg (aD iS V2 (tC (.int 5))) (tC (.int 3))) (gi (iT K) (aB (aD (d7 K) V0 (tC (.int 0))))))) (aD dg (aD As (tC (.int 10)) (tC (.int 17))) V2)) U3) (cf)))
 (aq (aK (aD dg V2 (tC (.int 1))) (u4 V0 (tC (.int 1)) ow))
 (aK (aO sp_law_spread (ba V3 V2)) (u4 V0 (tC (.int 2)) ow)))))) (cf))
 (aq (aK (aD gw (aD (d7 K) V0 (tC (.int 2))) V1) U4)
 (aq (aK (aD ye (aD (d7 K) V0 (tC (.int 2))) V1) (u4 V0 (tC (.int 2)) ow))
 (aY V4)))
def vi:List Str:=["pen","many","at","cell","found"]
def sN(K:Za)(sp_law_take:Sp):TS :=
 aq (aK (tC (.str "abcdefghijklmnopqrstuvwxyz")) U2)
 (aq (aK (xz K "str" (At K) (tC (.str "")) (au (bZ 1 [2,0] (p7 (aB (tC (.int 7)))) U0 (iy) (aD yb V1 (aO sp_law_take (ba V2 (tC (.int 26)))))) bI)) U3)
 (aq (aK (aO sp_law_take (ba V0 (tC (.int 3)))) U4)
 (aq (aK (aO sp_law_take (ba V0 (tC (.int 26)))) U5)
 (aq (aK (aO sp_law_take (ba V0 (tC (.int 8)))) U6)
 (aq (aK (de (bI)) U7)
 (aq (ei (p7 (aB V1)) U8 (aq (aK (aD yb V2 (aD gw (aD dg V5 (aD iS (tC (.int 3)) V8)) (tC (.int 26)))) U9)
 (aq (aK (xy zM V3 (eM) (gm (aD gw (aD dg V6 (aD iS V8 (aD gw V4 (tC (.int 2))))) (tC (.int 8))))) U10)
 (aq (aK (aD (d7 K) (de (fQ (tC (.int 0)) (gi (iT K) (aB BH)) (aD ye (gi (iT K) (aB BH)) (tC (.int 2))))) V4) U11)
 (df (xz K "list" fz V7 (aB (aD Au (aD Au (xy zM BH (eM) (gm V11)) V9) (xy zM BH (gm V11) (eM))))))))))
 (aY V7)))))))
def uc:List Str:=["pen","many","letters","base","way","turn","size","found","k","sign","part","at"]
def ww(K:Za):TS :=
 d6 (br (aD (pD K true) V1 V0)) (df (xz K "list" fz V0 (aB V1))) (cf)
def xu:List Str:=["doors","door"]
def lH(K:Za)(sp_law_take:Sp)(sp_law_put:Sp):TS :=
 aq (aK (de (bI)) U5)
 (aq (aK (aO sp_law_take (ba V0 (tC (.int 2)))) U6)
 (aq (ei (p8 K (aB V3)) (pG K 2 (cT U7 (cT U8 (pH)))) (aq (ei (p7 (au (aD (d7 K) (de (au (tC (.int 0)) (fQ (tC (.int 1)) (tC (.int 1)) (tC (.int 2))))) (aO sp_law_take (ba V0 (tC (.int 4))))) bI)) U9 (aq (aK (bV (au (tC (.str "say")) (au (aD (d7 K) V2 (aO sp_law_take (ba V0 (gi (iT K) (aB V2))))) bI))) U10)
 (df (aO sp_law_put (au V5 (au (bV (au V8 (au BH (au (aD (d7 K) V3 (aO sp_law_take (ba V0 (gi (iT K) (aB V3))))) bI)))) bI))))))
 (aq (ei (bC K V1) U11 (ei (p7 (au (aD (d7 K) (de (au V4 (fQ (tC (.int 1)) (tC (.int 1)) (tC (.int 2))))) (aO sp_law_take (ba V0 (tC (.int 4))))) bI)) U9 (df (aO sp_law_put (au V5 (au (bV (au V8 (au (bV (ba (tC (.str "ask")) V11)) (au (aD (d7 K) V3 (aO sp_law_take (ba V0 (gi (iT K) (aB V3))))) bI)))) bI))))))
 (aq (aK (aD (d7 K) (de (au (xy (rq K) V3 (gm (aD dg V7 (tC (.int 1)))) (eM)) (aB (xy (rq K) V3 (eM) (gm V7))))) V6) U12)
 (d6 (xM (br (aD (AS K) V12 (de (bI)))) (br (aD yd (aO sp_law_take (ba V0 (tC (.int 3)))) (tC (.int 0))))) (df (aO sp_law_put (au V5 (au (bV (au V8 (au (bV (aB (tC (.str "still")))) (au (aD (o9 K) V12 (aO sp_law_take (ba V0 (gi (iT K) (aB V12))))) bI)))) bI)))) (cf))))))
 (aY V5)))
def md:List Str:=["pen","asks","says","rooms","full","doors","down","k","room","turn","sign","ask","later"]
def sO(K:Za)(sp_law_draw_doors:Sp)(sp_law_names:Sp)(sp_law_take:Sp)(sp_law_anew:Sp):TS :=
 aq (df (aO sp_law_anew (aB V0)))
 (aq (aK (aO sp_law_names (ba V0 (tC (.int 8)))) U3)
 (aq (aK (xy (rq K) V3 (eM) (gm (aD dg (tC (.int 1)) (aD (d7 K) (de (au (tC (.int 0)) (au (tC (.int 1)) (au (tC (.int 1)) (fQ (tC (.int 2)) (tC (.int 2)) (tC (.int 3))))))) (aO sp_law_take (ba V0 (tC (.int 6)))))))) U4)
 (aq (aK (xy (rq K) V3 (gm (tC (.int 4))) (gm (aD dg (tC (.int 5)) (aD (d7 K) (de (au (tC (.int 0)) (au (tC (.int 1)) (au (tC (.int 1)) (fQ (tC (.int 2)) (tC (.int 2)) (tC (.int 3))))))) (aO sp_law_take (ba V0 (tC (.int 6)))))))) U5)
 (aq (aK (aO sp_law_names (ba V0 (aD dg (tC (.int 1)) (aO sp_law_take (au V0 (aB V1)))))) U6)
 (aq (aK (aO sp_law_draw_doors (au V0 (au V4 (fQ V5 V6 V2)))) U7)
 (aY (bV (au V4 (fQ V5 V6 V7)))))))))
def ud:List Str:=["pen","most","full","words","asks","says","rooms","doors"]
def o_(K:Za)(C_Machine:Addr)(sp_Machine_init:Sp):TS :=
 aY (sS C_Machine sp_Machine_init [] E0 (au (gi (cO K) (aB (aD (o9 K) V0 (tC (.int 0))))) (au (gi (cO K) (aB (aD (o9 K) V0 (tC (.int 1))))) (au (gi (cO K) (aB (aD (o9 K) V0 (tC (.int 2))))) (au (gi (cO K) (aB (aD (o9 K) V0 (tC (.int 3))))) bI)))))
def pI:List Str:=["told"]
def wx(K:Za):TS :=
 aY (sX (aD rNe V0 (tC (.str ""))) (sX (aD rLeI (gi (iT K) (aB V0)) (tC (.int 8))) (gi (Bs K) (aB (bZ 1 [] (BB V0) U0 (iy) (aD rInS V0 (tC (.str "abcdefghijklmnopqrstuvwxyz"))))))))
def xv:List Str:=["text"]
def wz(K:Za):TS :=
 aq (aK (oj) U1)
 (aq (ei (bC K V0) U2 (ir V1 V2 (tC (.bl true))))
 (aY V1))
def xw:List Str:=["things","keys","thing"]
def jP(K:Za)(sp_is_name:Sp)(sp_as_keys:Sp):TS :=
 aq (d6 (br (aD yd (gi (iT K) (aB V0)) (tC (.int 0)))) (aY (tC (.int 0))) (cf))
 (aq (aK (aO sp_as_keys (aB V2)) U3)
 (aq (ei (p8 K (aB V0)) (pG K 2 (cT U4 (cT U5 (pH)))) (aq (d6 (zt (br (aD yd V4 V1)) (zt (tB (wA K V5 V3)) (AM (tB (aO sp_is_name (aB V5)))))) (aY V4) (cf))
 (ir V3 V5 (tC (.bl true)))))
 (aY (tC .non))))
def kb:List Str:=["names","most","taken","ahead","number","name"]
def qT(K:Za)(a_STILL:Addr):TS :=
 aY (aD j3 (aD j3 (bZ 1 [] (bC K V0) U0 (iy) (bV (ba (tC (.str "ask")) V0))) (bZ 1 [] (bC K V1) U0 (iy) (bV (ba (tC (.str "say")) V0)))) (de (aB (tC (.ref a_STILL)))))
def sr:List Str:=["asks","says"]
def jQ(K:Za)(sp_as_keys:Sp):TS :=
 aq (aK (aO sp_as_keys (aB V1)) U3)
 (aq (aK (jX) U4)
 (aq (ei (p8 K (aB V0)) (pG K 2 (cT U5 (cT U6 (pH)))) (aq (d6 (zt (br (aD yd V5 (tC (.int 2000)))) (tB (wA K V6 V4))) (aY V5) (cf))
 (aq (d6 (zt (tB (fq K (aD (o9 K) V6 (tC (.int 0))) V3)) (zt (br (aD (pD K true) (aD (o9 K) V6 (tC (.int 1))) V2)) (tB (fq K (aD (o9 K) V6 (tC (.int 2))) V3)))) (aY V5) (cf))
 (ir V4 V6 (tC (.bl true))))))
 (aY (tC .non))))
def ke:List Str:=["doors","rooms","signs","own_rooms","ahead","number","door"]
def gh(K:Za):TS :=
 aq (aK (jX) U1)
 (aq (ei (bC K V0) (pG K 3 (cT U2 (cT U3 (cT U4 (pH))))) (df (xz K "list" fz (xz K "dict" vL V1 (ba (bV (au V2 (aB V3))) (de (bI)))) (aB V4))))
 (aY V1))
def gj:List Str:=["doors","goals","start","sign","goal"]
def n5(K:Za)(a_STILL:Addr):TS :=
 aq (aK (oj) U2)
 (aq (aK (de (aB V1)) U3)
 (aq (uw (br (aD zO (gi (iT K) (aB V3)) (tC (.int 0)))) (aq (aK (Bo K "list" Bq V3) U4)
 (ei (BC K (re K V0 (bV (ba V4 (tC (.ref a_STILL)))) (bV (bI)))) U5 (d6 (tB (fq K V5 V2)) (aq (ir V2 V5 (tC (.bl true)))
 (df (xz K "list" fz V3 (aB V5)))) (cf)))))
 (aY V2)))
def oY:List Str:=["goals","room","led","waiting","here","goal"]
def kC(K:Za):TS :=
 aq (ei (p8 K (aB V0)) (pG K 2 (cT U2 (cT U3 (pH)))) (d6 (tB (wA K V3 (iM K V1 V3))) (aY V2) (cf)))
 (aY (tC .non))
def lm:List Str:=["rooms","led","number","room"]
def sJ(K:Za):TS :=
 d6 (tB (An V1)) (ux) (cf)
def t8:List Str:=["part","number"]
def qO(K:Za)(sp_need_none:Sp)(sp_first_wrong_door:Sp)(sp_door_signs:Sp)(sp_first_wrong_name:Sp):TS :=
 aq (df (aO sp_need_none (ba (tC (.str "asks")) (aO sp_first_wrong_name (fQ V0 (tC (.int 4)) (de (bI)))))))
 (aq (df (aO sp_need_none (ba (tC (.str "says")) (aO sp_first_wrong_name (fQ V1 (tC (.int 4)) V0)))))
 (aq (df (aO sp_need_none (ba (tC (.str "rooms")) (aO sp_first_wrong_name (fQ V2 (tC (.int 150)) (de (bI)))))))
 (df (aO sp_need_none (au (tC (.str "doors")) (aB (aO sp_first_wrong_door (fQ V3 V2 (aO sp_door_signs (ba V0 V1))))))))))
def si:List Str:=["asks","says","rooms","doors"]
def lJ(K:Za):TS :=
 aq (aK (oj) U2)
 (aq (ei (bC K V0) U3 (ir V2 V3 (de (bI))))
 (aq (ei (bC K V1) U4 (df (xz K "list" fz (iM K V2 (aD (o9 K) V4 (tC (.int 0)))) (aB V4))))
 (aY V2)))
def mf:List Str:=["rooms","doors","leaving","room","door"]
def lI(K:Za):TS :=
 aY (gi (Bs K) (au (bZ 1 [] (bC K V0) U0 (iy) (aD yd (aD (o9 K) (aD (o9 K) V0 (tC (.int 1))) (tC (.int 0))) (tC (.str "ask")))) bI))
def me:List Str:=["doors"]
def jT(K:Za)(sp_need_none:Sp)(sp_first_led_round:Sp)(sp_led_by_still:Sp)(sp_goals_by_start_and_sign:Sp)(sp_as_keys:Sp)(sp_has_asks_alone:Sp)(sp_doors_by_start:Sp)(sp_need_parts:Sp):TS :=
 aq (df (aO sp_need_parts (au V1 (fQ V2 V3 V4))))
 (aq (kS K V0 (gi (cO K) (aB V1)) "own_asks")
 (aq (kS K V0 (gi (cO K) (aB V2)) "own_says")
 (aq (kS K V0 (gi (cO K) (aB V3)) "own_rooms")
 (aq (kS K V0 (gi (cO K) (aB V4)) "own_doors")
 (aq (kS K V0 (aO sp_doors_by_start (ba V3 V4)) "leaving")
 (aq (kS K V0 (aO sp_as_keys (au (bZ 1 [0] (bC K V3) U0 (tB (aO sp_has_asks_alone (aB (iM K (fT K V1 "leaving") V0)))) V0) bI)) "quiet")
 (aq (kS K V0 (aO sp_goals_by_start_and_sign (aB V4)) "sign_goals")
 (aq (kS K V0 (gi (zP K) (au (bZ 1 [0] (bC K V3) U0 (iy) (bV (ba V0 (aO sp_led_by_still (au (fT K V1 "sign_goals") (aB V0)))))) bI)) "still_led")
 (df (aO sp_need_none (ba (tC (.str "still")) (aO sp_first_led_round (au V3 (aB (fT K V0 "still_led")))))))))))))))
def kh:List Str:=["self","asks","says","rooms","doors"]
def jS(K:Za):TS :=
 aY (wA K V1 (fT K V0 "quiet"))
def kg:List Str:=["self","room"]
def jF(K:Za)(sp_with_still:Sp)(C_Machine:Addr)(sp_Machine_goals:Sp)(a_HUSH:Addr)(sp_Machine_is_quiet:Sp):TS :=
 aq (d6 (br (aD (uL K) V2 (tC (.ref a_HUSH)))) (aY (gi (tt K) (aB (bZ 1 [0] (z0 K V1) U0 (tB (db C_Machine "is_quiet" sp_Machine_is_quiet [] E0 V1 (aB V0))) V0)))) (cf))
 (aq (aK (de (bI)) U3)
 (aq (ei (z0 K V1) U4 (df (xz K "list" vN V3 (aB (db C_Machine "goals" sp_Machine_goals [] E0 V0 (ba V4 V2))))))
 (aY (aO sp_with_still (ba V0 V3)))))
def jI:List Str:=["M","face","sign","goals","room"]
def bh(p:Addr)(H H':Hp):Prop:=∀b o,H b=some o->b≠p->H' b=some o
theorem bh.refl(p:Addr)(H:Hp):bh p H H:=fun _ _ h _=>h
theorem bh.trans{p:Addr}{H H1 H2:Hp}(a:bh p H H1)(b:bh p H1 H2):bh p H H2:=fun c o h n=>b c o (a c o h n) n
theorem ab.exB{p:Addr}{H H':Hp}(a:ab H H'):bh p H H':=fun b o h _=>a b o h
theorem bh.upd(p:Addr)(H:Hp)(o:HO):bh p H (upd H p o):=fun b u h n=>by rw[ah n];exact h
theorem ab.new{H:Hp}{a:Addr}{o:HO}(h:H a=none):ab H (upd H a o):=fun b u e=>by rw[ah (ac e h)];exact e
theorem bh.free{p:Addr}{H H':Hp}(e:bh p H H'){u:HO}(hp:H' p=some u){l:Addr}(h:H' l=none):H l=none:=by
 cases q:H l with
 |none=>rfl
 |some o =>
  by_cases z:l=p
  ·subst z;rw[hp]at h;cases h
  ·rw[e l o q z]at h;cases h
theorem kp{H:Hp}{a b:Addr}{o x:HO}(h:H b=some o)(n:H a=none):upd H a x b=some o:=by rw[ah (ac h n)];exact h
structure wn(H:Hp)(p c:Addr)(at_ rest:Int)(ns:List Int):Prop where
 pen:H p=some (.lst [.ref c,.int at_,.int rest])
 cells:H c=some (.lst (ns.map V.int))
 at0:0<=at_
 rest0:0<=rest
theorem wn.ne{H:Hp}{p c:Addr}{a r:Int}{ns:List Int}(h:wn H p c a r ns):c≠p:=by
 intro e;have h1:=h.pen;have h2:=h.cells;rw[e,h1]at h2;injection h2 with h2;injection h2 with h2;cases ns with
 |nil=>cases h2
 |cons n ns=>injection h2 with h2;cases h2
def fb(H:Hp)(p c:Addr):Prop:=∃a r ns,wn H p c a r ns
theorem fb.ex{H H':Hp}{p c:Addr}(h:fb H p c)(e:ab H H'):fb H' p c:=by
 obtain⟨a,r,ns,h1,h2,h3,h4⟩:=h;exact⟨a,r,ns,e _ _ h1,e _ _ h2,h3,h4⟩
theorem fb.pen{H:Hp}{p c:Addr}(h:fb H p c):∃o,H p=some o:=by
 obtain⟨a,r,ns,h1,_⟩:=h;exact⟨_,h1⟩
theorem fb.cell{H:Hp}{p c:Addr}(h:fb H p c):∃o,H c=some o:=by
 obtain⟨a,r,ns,_,h1,_⟩:=h;exact⟨_,h1⟩
theorem fb.upd{H:Hp}{p c l:Addr}{o:HO}(h:fb H p c)(h1:p≠l)(h2:c≠l):fb (upd H l o) p c:=by
 obtain⟨a,r,ns,g1,g2,g3,g4⟩:=h;exact⟨a,r,ns,by rw[ah h1];exact g1,by rw[ah h2];exact g2,g3,g4⟩
theorem fb.nep{H:Hp}{p c l:Addr}(h:fb H p c)(hl:H l=none):p≠l:=let⟨_,e⟩:=h.pen;ac e hl
theorem fb.nec{H:Hp}{p c l:Addr}(h:fb H p c)(hl:H l=none):c≠l:=let⟨_,e⟩:=h.cell;ac e hl
theorem bh.new{p:Addr}{H:Hp}{a:Addr}{o:HO}(h:H a=none):bh p H (L2.upd H a o):=fun b u e _=>by rw[ah (ac e h)];exact e
inductive jb (vs:List V)(H:Hp)(Q:VK)(E:XK):Prop
 |mk (c a:Int):(vs=[.int c,.int a])->(0<=a)->(∀r:Int,0<=r->Q (.int r) H)->jb  vs H Q E
theorem lf{i j:Int}(h1:-(2 ^ 64)<j)(h2:j<2 ^ 64):ze i j:=.inr ⟨h1,h2⟩
theorem wE{K:Za}{vs:List V}{H:Hp}{Q:VK}{E:XK}(h:jb vs H Q E):qQ K (bc Q) (start sk vs) H:=by
 obtain⟨c,a,rfl,ha,k⟩:=h;refine⟨_,rfl,_,_,rfl,rfl,⟨by decide,by decide,by decide⟩,_,_,rfl,rfl,_,rfl,?_⟩;refine iV (fun h=>?_) (fun _=>?_)
 ·refine⟨_,rfl,k _ ?_⟩;have:=of_decide_eq_true h;have e:((10:Int) ^ (18:Int).toNat)=1000000000000000000:=by decide
  omega
 ·have one:∀z:Int,0<=z % 2147483629/\z % 2147483629<2147483629:=fun z=>⟨lx _ (by decide),lu _ (by decide)⟩;have two:∀z:Int,0<=z % 2147483587/\z % 2147483587<2147483587:=fun z=>⟨lx _ (by decide),lu _ (by decide)⟩;have three:∀z:Int,0<=z % 2147483563/\z % 2147483563<2147483563:=fun z=>⟨lx _ (by decide),lu _ (by decide)⟩;refine⟨_,rfl,_,_,rfl,rfl,(by show(0:Int)<1000000007;decide),_,_,rfl,rfl,lf (by decide) (by decide),_,rfl,_,_,rfl,rfl,lf (by decide) (by decide),_,_,rfl,rfl,_,_,rfl,rfl,_,_,rfl,rfl,(by show(0:Int)<2147483629;decide),?_⟩;generalize hz1:(c % 1000000007 * 69069+a * 40503+977)=z1;obtain⟨o1,o2⟩:=one z1;generalize z1 % 2147483629=o at o1 o2 ⊢;refine⟨_,rfl,_,rfl,_,_,rfl,rfl,lf (by omega) (by omega),_,rfl,_,_,rfl,rfl,lf (by decide) (by decide),_,_,rfl,rfl,_,rfl,_,_,rfl,rfl,(by show(0:Int)<65537;decide),_,_,rfl,rfl,_,_,rfl,rfl,(by show(0:Int)<2147483587;decide),?_⟩;generalize hz2:(o * o+a * 7919+c % 65537)=z2;obtain⟨p1,p2⟩:=two z2;generalize z2 % 2147483587=q at p1 p2 ⊢;refine⟨_,rfl,_,rfl,_,_,rfl,rfl,lf (by omega) (by omega),_,rfl,_,_,rfl,rfl,lf (by decide) (by decide),_,_,rfl,rfl,_,_,rfl,rfl,_,_,rfl,rfl,(by show(0:Int)<2147483563;decide),?_⟩;generalize hz3:(q * q+o * 31+5)=z3;obtain⟨r1,r2⟩:=three z3;generalize z3 % 2147483563=r at r1 r2 ⊢;refine⟨_,rfl,_,_,rfl,rfl,lf (by decide) (by decide),_,rfl,_,_,rfl,rfl,_,_,rfl,rfl,lf (by decide) (by decide),_,rfl,_,_,rfl,rfl,k _ ?_⟩;omega
def rj:Sp:=fun vs H Q _=>∃p c,vs=[.ref p]/\fb H p c/\∀H',fb H' p c->bh p H H'->Q (.ref p) H'
theorem zL{K:Za}{vs:List V}{H:Hp}{Q:VK}{E:XK}(h:rj vs H Q E):uv K (bc Q) (start vk vs) H:=by
 obtain⟨p,c,rfl,⟨a,r,ns,h⟩,k⟩:=h;refine⟨_,rfl,p,_,_,_,rfl,rfl,h.pen,rfl,_,rfl,k _ ⟨a,0,ns,aa,?_,h.at0,Int.le_refl 0⟩ (bh.upd _ _ _)⟩;rw[ah h.ne];exact h.cells
theorem wj{ns:List Int}{a:Int}(h0:0<=a)(h1:a<ns.length):∃z,ve (ns.map V.int) a=some (.int z):=by
 obtain⟨n,rfl⟩:=jK h0;have hn:n<ns.length:=by omega
 exact⟨ns[n],fF (by simp[hn])⟩
inductive fw (vs:List V)(H:Hp)(Q:VK)(E:XK):Prop
 |mk (p c:Addr) (m:Int):(vs=[.ref p,.int m])->(fb H p c)->(0<m)->(m<1073741824)->(∀(r:Int) (H':Hp),0<=r->r<m->fb H' p c->bh p H H'->Q (.int r) H')->fw  vs H Q E
theorem eX{H:Hp}{Q:VK}{E:XK}{p c:Addr}{m:Int}(hp:fb H p c)(m0:0<m)(m1:m<1073741824)(k:∀(r:Int) (H':Hp),0<=r->r<m->fb H' p c->bh p H H'->Q (.int r) H'):fw [.ref p,.int m] H Q E:=by
 exact⟨p,c,m,rfl,hp,m0,m1,k⟩
theorem zE{K:Za}{vs:List V}{H:Hp}{Q:VK}{E:XK}(h:fw vs H Q E):ut K jb (bc Q) (start vi vs) H:=by
 obtain⟨p,c,m,rfl,⟨a,r,ns,h⟩,hm,hm2,k⟩:=h;have fin:∀(H':Hp) (a' r':Int) (x y:Option V),wn H' p c a' r' ns->bh p H H' ->
   (aq (aK (aD gw (aD (d7 K) V0 (tC (.int 2))) V1) U4) (aq (aK (aD ye (aD (d7 K) V0 (tC (.int 2))) V1) (u4 V0 (tC (.int 2)) ow)) (aY V4)))
    (bc Q) [some (.ref p),some (.int m),x,y,none] H':=by
  intro H' a' r' x y h' ex;refine⟨_,rfl,p,_,2,_,rfl,rfl,ay.of h'.pen,rfl,_,rfl,_,_,rfl,rfl,hm,?_⟩;refine⟨_,rfl,p,_,2,_,rfl,rfl,ay.of h'.pen,rfl,_,rfl,_,_,rfl,rfl,⟨hm,hm2⟩,_,rfl,p,_,_,_,rfl,rfl,h'.pen,rfl,?_⟩;refine⟨_,rfl,k _ _ (lx _ (by omega)) (lu _ hm) ⟨a',_,ns,aa,?_,h'.at0,Int.ediv_nonneg h'.rest0 (by omega)⟩ (ex.trans (bh.upd _ _ _))⟩;rw[ah h'.ne];exact h'.cells
 refine⟨_,rfl,p,_,2,_,rfl,rfl,ay.of h.pen,rfl,_,rfl,_,_,rfl,rfl,_,rfl,?_⟩;refine iV (fun h1=>?_) (fun h1=>?_)
 ·-- at=pen[1];cell=0;if at<len(pen[0])
  refine⟨_,rfl,p,_,1,_,rfl,rfl,ay.of h.pen,rfl,?_⟩;have la:(V.int ((ns.map V.int).length:Nat))=V.int (ns.length:Nat):=by rw[ai]
  refine⟨_,rfl,_,rfl,p,_,0,_,rfl,rfl,ay.of h.pen,rfl,.inl ⟨c,_,rfl,.inl (ay.of h.cells),_,_,rfl,la,_,rfl,?_⟩⟩;refine iV (fun h2=>?_) (fun h2=>?_)
  ·obtain⟨z,hz⟩:=wj (ns:=ns) h.at0 (of_decide_eq_true h2);refine⟨_,rfl,p,_,0,_,rfl,rfl,ay.of h.pen,rfl,_,rfl,c,_,_,_,rfl,rfl,ay.of h.cells,hz,?_⟩;refine⟨_,rfl,_,_,rfl,rfl,_,rfl,p,_,_,_,rfl,rfl,h.pen,rfl,?_⟩;refine⟨_,rfl,_,rfl,_,_,rfl,h.at0,fun q hq=>⟨_,rfl,p,_,_,_,rfl,rfl,aa,rfl,?_⟩⟩;rw[nq];refine fin _ (a+1) q _ _ ⟨aa,by rw[ah h.ne];exact h.cells,by have:=h.at0;omega,hq⟩ (bh.upd _ _ _)
  ·refine⟨_,rfl,p,_,0,_,rfl,rfl,ay.of h.pen,rfl,.inl ⟨c,_,rfl,.inl (ay.of h.cells),_,_,la,rfl,_,rfl,?_⟩⟩;refine iV (fun h3=>?_) (fun h3=>?_)
   ·have hl:(0:Int)<ns.length:=of_decide_eq_true h3;obtain⟨z,hz⟩:=wj (ns:=ns) (a:=(a * 5+3) % (ns.length:Int)) (lx _ (by omega)) (lu _ hl);refine⟨_,rfl,p,_,0,_,rfl,rfl,ay.of h.pen,rfl,_,rfl,_,_,rfl,rfl,lf (by decide) (by decide),_,_,rfl,rfl,_,rfl,p,_,0,_,rfl,rfl,ay.of h.pen,rfl,.inl ⟨c,_,rfl,.inl (ay.of h.cells),_,_,rfl,la,hl,c,_,_,_,rfl,rfl,ay.of h.cells,hz,?_⟩⟩;refine⟨_,_,rfl,rfl,⟨by decide,by decide,by decide⟩,_,rfl,_,_,rfl,rfl,_,_,rfl,rfl,?_,?_⟩
    ·have e:((10:Int) ^ (17:Int).toNat)=100000000000000000:=by decide
     have:=h.at0;show(0:Int)<10 ^ (17:Int).toNat+a;omega
    refine⟨_,rfl,_,_,rfl,rfl,_,rfl,p,_,_,_,rfl,rfl,h.pen,rfl,?_⟩;refine⟨_,rfl,_,rfl,_,_,rfl,h.at0,fun q hq=>⟨_,rfl,p,_,_,_,rfl,rfl,aa,rfl,?_⟩⟩;rw[nq];refine fin _ (a+1) q _ _ ⟨aa,by rw[ah h.ne];exact h.cells,by have:=h.at0;omega,hq⟩ (bh.upd _ _ _)
   ·refine⟨_,rfl,_,_,rfl,rfl,_,rfl,p,_,_,_,rfl,rfl,h.pen,rfl,?_⟩;refine⟨_,rfl,_,rfl,_,_,rfl,h.at0,fun q hq=>⟨_,rfl,p,_,_,_,rfl,rfl,aa,rfl,?_⟩⟩;rw[nq];refine fin _ (a+1) q _ _ ⟨aa,by rw[ah h.ne];exact h.cells,by have:=h.at0;omega,hq⟩ (bh.upd _ _ _)
 ·exact fin H a r _ _ h (bh.refl _ _)
inductive nr(K:Za)(vs:List V)(H:Hp)(Q:VK)(E:XK):Prop
 |mk (a:Addr) (ns:List Int):(vs=[.ref a])->(ay K H a (ns.map V.int))->(ns.length<=63)->(∀(p c:Addr) (H':Hp),H p=none->fb H' p c->ab H H'->Q (.ref p) H')->nr K vs H Q E
theorem qa(ns:List Int)(lo hi:Option Int):∃ms:List Int,fE (ns.map V.int) lo hi=ms.map V.int/\ms.length=(fE (ns.map V.int) lo hi).length:=by
 refine⟨(ns.drop (HT.sIx (ns.map V.int).length 0 lo)).take (HT.sIx (ns.map V.int).length (ns.map V.int).length hi-HT.sIx (ns.map V.int).length 0 lo),?_,?_⟩
 ·unfold fE;rw[qq,List.map_drop]
 ·unfold fE;rw[aL,aL,fO,fO,ai]
theorem zG{K:Za}{vs:List V}{H:Hp}{Q:VK}{E:XK}(h:nr K vs H Q E):uu K (bc Q) (start vj vs) H:=by
 obtain⟨a,ns,rfl,hs,hn,k⟩:=h;obtain⟨c0,e0,l0⟩:=qa ns none (some 12);obtain⟨c1,e1,l1⟩:=qa ns (some 12) (some 63);have hlen:c1≠[]->c0.length=12:=by
  intro hne;have hc1:0<c1.length:=by cases c1 with|nil=>exact absurd rfl hne|cons _ _=>simp
  rw[l1]at hc1;rw[l0];unfold fE at hc1 ⊢;rw[aL,fO,ai]at hc1;rw[aL,fO,ai];have s1:HT.sIx ns.length 0 (some 12)=min 12 ns.length:=HT.sIx_nat _ _ 12;have s2:HT.sIx ns.length ns.length (some 12)=min 12 ns.length:=HT.sIx_nat _ _ 12;rw[HT.sIx_none,s2];rw[s1]at hc1;omega
 refine⟨_,rfl,_,rfl,a,_,rfl,hs,fun q hq=>.inl ⟨q,_,rfl,.inl (ay.of aa),fun c hc=>?_⟩⟩;rw[e0]at hc ⊢;have hcH:H c=none:=by
  have:c≠q:=fun z=>by subst z;rw[aa]at hc;cases hc
  rw[ah this]at hc;exact hc
 have hS:ab H (upd (upd H q (.lst (c0.map V.int))) c (.lst (c0.map V.int))):=(ab.new hq).trans (ab.new hc);refine⟨_,rfl,_,rfl,_,rfl,a,_,rfl,hS.seq hs,fun r hr=>⟨r,rfl,⟨_,ay.of aa⟩,?_⟩⟩;rw[e1];have hcr:c≠r:=ac aa hr;refine iY (xs:=c1.map V.int) (fun i σ H'=>∃(ms:List Int) (x y:Option V),σ=[some (.ref a),some (.ref c),x,y]/\H' c=some (.lst (ms.map V.int))/\ms.length=c0.length/\H' r=some (.lst (c1.map V.int))/\ab H H')
  ⟨c0,none,none,rfl,kp aa hr,rfl,aa,hS.trans (ab.new hr)⟩ (fun i σ H' _ ⟨ms,x,y,_,_,_,h,_⟩=>ay.of h) ?_ ?_
 ·rintro i x σ H' t hi ⟨ms,u,v,rfl,hcell,hml,hr',hS'⟩ ht;have hi':i<c1.length:=by
   have:=(bT.mp hi).1;rwa[ai]at this
  have h12:=hlen (fun z=>by rw[z]at hi';simp at hi');obtain⟨z,rfl⟩:∃z,x=V.int z:=by
   rw[gJ,iI hi']at hi;exact⟨_,(da hi).symm⟩
  have hcell1:upd H' t (.tup [.int i,.int z]) c=some (.lst (ms.map V.int)):=kp hcell ht;have hidx:(i:Int) % 12=((i % 12:Nat):Int):=by omega
  have hlt:i % 12<ms.length:=by omega
  refine⟨t,_,rfl,bE.of aa,rfl,_,_,rfl,_,_,rfl,rfl,?_⟩;have hat:ve (ms.map V.int) ((i:Int) % 12)=some (.int ms[i % 12]):=by rw[hidx];exact fF (by simp[hlt])
  refine⟨_,rfl,_,rfl,_,_,rfl,rfl,(by show(0:Int)<12;decide),c,_,_,_,rfl,rfl,ay.of hcell1,hat,_,rfl,_,_,rfl,rfl,_,rfl,_,rfl,_,_,rfl,rfl,(by show(0:Int)<12;decide),c,_,_,i % 12,rfl,rfl,hcell1,?_,?_⟩
  ·rw[hidx];unfold AA;rw[if_pos (by omega),if_pos (by rw[ai];omega)];rw[lD]
  ·refine⟨ms.set (i % 12) (ms[i % 12]+z),_,_,rfl,?_,by rw[List.length_set];exact hml,?_,?_⟩
   ·rw[aa,List.map_set]
   ·rw[ah hcr.symm];exact kp hr' ht
   ·intro b o e;rw[ah (ac e hcH)];exact kp (hS' b o e) ht
 ·rintro σ H' ⟨ms,x,y,rfl,hcell,hml,hr',hS'⟩;refine⟨_,rfl,(by show 3<=aj;decide),fun p hp=>k p c _ (hS'.free hp) ⟨0,0,ms,aa,kp hcell hp,Int.le_refl _,Int.le_refl _⟩ (hS'.trans (ab.new hp))⟩
def rJ(c:Nat):Prop:=97<=c/\c<=122
structure mh(w:Str):Prop where
 lo:1<=w.length
 hi:w.length<=8
 al:∀c∈w.cps.toList,rJ c
theorem wl:∀n:Nat,n<26->(("abcdefghijklmnopqrstuvwxyz":Str).cps.toList)[n]?=some (97+n):=by decide +kernel
theorem wk:("abcdefghijklmnopqrstuvwxyz":Str).length<=aj:=by decide +kernel
theorem y_{r:Int}(h0:0<=r)(h1:r<26):ve (("abcdefghijklmnopqrstuvwxyz":Str).cps.toList) r=some (97+r.toNat):=by
 obtain⟨n,rfl⟩:=jK h0;rw[lD];exact fF (wl n (by omega))
theorem pE(cs:List Nat):∀acc:Array Nat,((cs.map fun c=>(⟨#[c]⟩:Str)).foldl (fun acc p=>acc++("":Str).cps++p.cps) acc).toList=acc.toList++cs:=by
 have e:("":Str).cps=#[]:=by decide +kernel
 induction cs with
 |nil=>intro acc;simp
 |cons c cs ih =>
  intro acc;rw[a_,List.foldl_cons,ih,e];simp
theorem uY(cs:List Nat):(qz "" (cs.map fun c=>(⟨#[c]⟩:Str))).cps.toList=cs:=by
 unfold qz cI.Str.glued;cases cs with
 |nil=>rfl
 |cons c cs =>
  rw[a_];show((cs.map fun c=>(⟨#[c]⟩:Str)).foldl (fun acc p=>acc++("":Str).cps++p.cps) #[c]).toList=_;rw[pE]
  rfl
theorem zy{a b:Str}(h:a.cps.toList=b.cps.toList):a=b:=by
 cases a with|mk x=>cases b with|mk y=>exact congrArg Str.mk (Array.toList_inj.mp h)
theorem dk(a:Str):a.length=a.cps.toList.length:=by simp[Str.length]
theorem r9(a b:Str):(a++b).cps.toList=a.cps.toList++b.cps.toList:=by
 show(a.cps++b.cps).toList=_;simp
theorem yY(z:Str)(m:Nat):(oQ z none (some (m:Int))).cps.toList=z.cps.toList.take m:=by
 unfold oQ;rw[HT.sIx_none,HT.sIx_nat,ly,qw,dk];show List.take _ _=_;rw[List.take_eq_take_iff];omega
theorem yZ(z:Str)(m:Nat):(oQ z (some (m:Int)) none).cps.toList=z.cps.toList.drop m:=by
 unfold oQ;rw[HT.sIx_none,HT.sIx_nat,dk];show List.take _ _=_;rw[qr (by rw[fO];omega)];by_cases h:m<=z.cps.toList.length
 ·rw[Nat.min_eq_left h]
 ·rw[Nat.min_eq_right (by omega),List.drop_length,qx (by omega)]
def c8(way size k:Nat):Nat:=(size+k * (way % 2)) % 8
def ui(way m:Nat):Nat:=if way=0 then 0 else if way=1 then m else m / 2
def jE(b:List Nat)(way turn size k:Nat):List Nat :=
 (b.take (c8 way size k)).take (ui way (c8 way size k))++[97+(turn+3 * k) % 26]++(b.take (c8 way size k)).drop (ui way (c8 way size k))
def sH(b:List Nat)(way turn size k:Nat):Str:=⟨(jE b way turn size k).toArray⟩
theorem lE{b:List Nat}(hb:b.length=7)(way turn size k:Nat):(jE b way turn size k).length=c8 way size k+1:=by
 have h8:c8 way size k<8:=nP _ (by decide);unfold jE;rw[bf,bf,aL,fO,aL,hb];have:ui way (c8 way size k)<=c8 way size k:=by unfold ui;split;omega;split;omega;omega
 simp;omega
theorem zi{b:List Nat}(hb:b.length=7)(hl:∀c∈b,rJ c)(way turn size k:Nat):mh (sH b way turn size k):=by
 have h8:c8 way size k<8:=nP _ (by decide);have hlen:=lE hb way turn size k;have e:(sH b way turn size k).cps.toList=jE b way turn size k:=by simp[sH]
 refine⟨?_,?_,?_⟩
 ·rw[dk,e];omega
 ·rw[dk,e];omega
 ·rw[e];intro c hc;unfold jE at hc;rcases aU.mp hc with hc|hc
  ·rcases aU.mp hc with hc|hc
   ·exact hl c (dO (dO hc))
   ·have:c=97+(turn+3 * k) % 26:=by simpa using hc
    subst this;have:(turn+3 * k) % 26<26:=nP _ (by decide);exact⟨by omega,by omega⟩
  ·exact hl c (dO (List.mem_of_mem_drop hc))
theorem xE{b:List Nat}(hb:b.length=7){way turn size:Nat}(hw:way<3){j k:Nat}(hj:j<26)(hk:k<26)(h:sH b way turn size j=sH b way turn size k):j=k:=by
 have h8:∀i,c8 way size i<8:=fun i=>nP _ (by decide);have e:jE b way turn size j=jE b way turn size k:=by
  have:=congrArg (fun s=>Str.cps s |>.toList) h;simpa[sH]using this
 have el:c8 way size j=c8 way size k:=by
  have:=congrArg List.length e;rw[lE hb,lE hb]at this;omega
 have key:97+(turn+3 * j) % 26=97+(turn+3 * k) % 26:=by
  have hat:∀i,ui way (c8 way size i)<=c8 way size i:=fun i=>by unfold ui;split;omega;split;omega;omega
  have get:∀i,(jE b way turn size i)[ui way (c8 way size i)]?=some (97+(turn+3 * i) % 26):=by
   intro i;unfold jE;have hl:((b.take (c8 way size i)).take (ui way (c8 way size i))).length=ui way (c8 way size i):=by
    rw[aL,aL,hb];have:=h8 i;have:=hat i;omega
   rw[dL,List.getElem?_append_right (by omega),hl,Nat.sub_self]
   rfl
  have g1:=get j;have g2:=get k;rw[e,el]at g1;rw[g1]at g2;exact da g2
 omega
def js(ws:Zb):Prop:=ws.Nodup/\∀w∈ws,mh w
def hE(b:List Nat)(way turn size n:Nat):List Str:=(kA n).map (sH b way turn size)
theorem ul{b:List Nat}(hb:b.length=7)(hl:∀c∈b,rJ c){way turn size n:Nat}(hw:way<3)(hn:n<=26):js (hE b way turn size n):=by
 refine⟨?_,fun w hm=>?_⟩
 ·unfold hE;rw[qp,List.pairwise_map];refine(List.nodup_range (n:=n)).imp_of_mem ?_;intro j k hj hk hne h;exact hne (xE hb hw (by have:=List.mem_range.mp hj;omega) (by have:=List.mem_range.mp hk;omega) h)
 ·obtain⟨k,_,rfl⟩:=aE.mp hm;exact zi hb hl _ _ _ _
inductive kL (vs:List V)(H:Hp)(Q:VK)(E:XK):Prop
 |mk (p c:Addr) (n:Nat):(vs=[.ref p,.int n])->(fb H p c)->(n<=26)->(∀(l:Addr) (ws:Zb) (H':Hp),js ws->ws.length=n->H l=none->H' l=some (.lst (ws.map V.str))->fb H' p c->bh p H H'->Q (.ref l) H')->kL  vs H Q E
theorem xT{K:Za}{vs:List V}{H:Hp}{Q:VK}{E:XK}(h:kL vs H Q E):sN K fw (bc Q) (start uc vs) H:=by
 obtain⟨p,c,n,rfl,hp,hn,k⟩:=h;refine⟨rfl,7,rfl,by decide,by decide,fun l hl=>?_⟩;refine u8 (lo:=0) (n:=Int.toNat 7) (fun i vs H'=>∃cs:List Nat,vs=cs.map (fun c=>V.str ⟨#[c]⟩)/\cs.length=i/\(∀c∈cs,rJ c)/\fb H' p c/\bh p H H'/\H' l=some (.lst vs))
  ⟨[],rfl,rfl,(fun _ h=>nomatch h),hp.ex (ab.new hl),bh.new hl,aa⟩ (fun i vs H' _ ⟨_,_,_,_,_,_,h⟩=>h) ?_ ?_
 rotate_left
 ·rintro i vs H' hi ⟨cs,rfl,hlen,hlet,hp',hex,hl'⟩;have hlp:=hp.nep hl;have hlc:=hp.nec hl;refine gN (qK ?_);refine⟨_,rfl,_,rfl,eX hp' (by decide) (by decide) fun r H2 h0 h1 hp2 hex2=>⟨_,r,_,rfl,rfl,wk,y_ h0 h1,?_⟩⟩;have hl2:=hex2 l _ hl' hlp.symm;refine⟨hl2,by rw[ai,hlen];exact am (by omega),lT hi ⟨cs++[97+r.toNat],by rw[ap];rfl,by rw[bf,hlen];rfl,?_,hp2.upd hlp hlc,?_,aa⟩⟩
  ·intro x hc;rcases aU.mp hc with hc|hc
   ·exact hlet x hc
   ·have:x=97+r.toNat:=by simpa using hc
    subst this;exact⟨by omega,by omega⟩
  ·intro b o' e nb;rw[ah (ac e hl)];exact hex2 b o' (hex b o' e nb) nb
 ·rintro vs H1 ⟨cs,rfl,hlen,hlet,hp1,hex1,hl1⟩;refine⟨"",l,cs.map fun c=>(⟨#[c]⟩:Str),rfl,rfl,ay.of (by rw[hl1,iH];rfl),?_,?_⟩
  ·have e0:("":Str).length=0:=by decide +kernel
   rw[e0,Nat.mul_zero,iH];have:∀cs:List Nat,(cs.map ((fun x=>Str.length x) ∘ fun c=>(⟨#[c]⟩:Str))).sum=cs.length:=by
    intro cs
    induction cs with
    |nil=>rfl
    |cons c cs ih=>rw[a_,List.sum_cons,ih,d_];show 1+_=_;omega
   rw[this,hlen];decide
  refine⟨_,rfl,eX hp1 (by decide) (by decide) fun way H2 w0 w1 hp2 hex2=>?_⟩;refine⟨_,rfl,eX hp2 (by decide) (by decide) fun turn H3 t0 t1 hp3 hex3=>?_⟩;refine⟨_,rfl,eX hp3 (by decide) (by decide) fun size H4 s0 s1 hp4 hex4=>?_⟩;have ex4:bh p H H4:=((hex1.trans hex2).trans hex3).trans hex4;obtain⟨wy,rfl⟩:=jK w0;obtain⟨tn,rfl⟩:=jK t0;obtain⟨sz,rfl⟩:=jK s0;have hb:=uY cs;generalize qz "" (cs.map fun c=>(⟨#[c]⟩:Str))=base at hb ⊢;refine⟨(by show 0<=aj;decide),fun f hf=>?_⟩;obtain⟨op,hop⟩:=hp4.pen;have hfH:H f=none:=ex4.free hop hf;have hfp:=hp.nep hfH;have hfc:=hp.nec hfH;refine⟨_,rfl,n,rfl,by omega,by omega,jp (lo:=0) (n:=((n:Int)).toNat) (fun i σ H'=>∃(a b c' d:Option V),σ=[some (.ref p),some (.int n),some (.str "abcdefghijklmnopqrstuvwxyz"),some (.str base),some (.int wy),some (.int tn),some (.int sz),some (.ref f),a,b,c',d] /\
   fb H' p c/\bh p H H'/\H' f=some (.lst ((hE cs wy tn sz i).map V.str)))
   ⟨_,_,_,_,rfl,hp4.upd hfp hfc,ex4.trans (bh.new hf),aa⟩ ?_ ?_⟩
  ·rintro i σ H' hi ⟨a,b,c',d,rfl,hp',hex',hf'⟩;have hi':i<n:=by omega
   have hwy:wy<3:=by omega
   have e26:((tn:Int)+3 * (0+(i:Int))) % 26=(((tn+3 * i) % 26:Nat):Int):=by omega
   refine⟨_,rfl,_,rfl,_,rfl,_,_,rfl,rfl,.inl ⟨by decide,by decide⟩,_,_,rfl,rfl,_,_,rfl,rfl,(by show(0:Int)<26;decide),_,_,_,rfl,rfl,wk,y_ (lx _ (by decide)) (lu _ (by decide)),?_⟩;have blen:base.length<=aj:=by rw[dk,hb,hlen];decide
   have e8:((sz:Int)+(0+(i:Int)) * ((wy:Int) % 2)) % 8=((c8 wy sz i:Nat):Int):=by
    unfold c8;have:wy=0∨wy=1∨wy=2:=by omega
    rcases this with rfl|rfl|rfl<;>simp<;>omega
   refine⟨_,rfl,_,rfl,_,rfl,_,rfl,_,_,rfl,rfl,(by show(0:Int)<2;decide),_,_,rfl,rfl,.inr ⟨by omega,by omega⟩,_,_,rfl,rfl,_,_,rfl,rfl,(by show(0:Int)<8;decide),_,rfl,base,rfl,blen,?_⟩;rw[e8];have hpart:=yY base (c8 wy sz i);rw[hb]at hpart;generalize oQ base none (some ((c8 wy sz i:Nat):Int))=part at hpart ⊢;have h8:c8 wy sz i<8:=nP _ (by decide);have plen:part.length=c8 wy sz i:=by rw[dk,hpart,aL,hlen];omega
   have pz:part.length<=aj:=by rw[plen];exact cM (am (by omega))
   refine⟨_,rfl,.inr ⟨part,rfl,pz,_,rfl,.inr ⟨part,rfl,pz,_,_,rfl,rfl,⟨by decide,by decide⟩,(by show 3<=aj;decide),fun q hq=>?_⟩⟩⟩;have hqH:H q=none:=by
    obtain⟨op',hop'⟩:=hp'.pen;exact hex'.free hop' hq
   have hat:ve [V.int 0,V.int (part.length:Nat),V.int ((part.length:Int) / 2)] (wy:Int)=some (.int (ui wy (c8 wy sz i):Nat)):=by
    rw[plen];have:wy=0∨wy=1∨wy=2:=by omega
    rcases this with rfl|rfl|rfl
    ·rfl
    ·rfl
    ·show some (V.int (((c8 2 sz i:Nat):Int) / 2))=some (V.int ((ui 2 (c8 2 sz i):Nat):Int));have:ui 2 (c8 2 sz i)=c8 2 sz i / 2:=rfl;rw[this];congr 2
   refine⟨_,rfl,q,_,_,_,rfl,rfl,ay.of aa,hat,?_⟩;have hf2:upd H' q (.lst [V.int 0,V.int (part.length:Nat),V.int ((part.length:Int) / 2)]) f=some (.lst ((hE cs wy tn sz i).map V.str)):=kp hf' hq;have c1:=yY part (ui wy (c8 wy sz i));have c2:=yZ part (ui wy (c8 wy sz i));have l1:(oQ part none (some ((ui wy (c8 wy sz i):Nat):Int))).length<=8:=by rw[dk,c1,aL,hpart,aL,hlen];omega
   have l2:(oQ part (some ((ui wy (c8 wy sz i):Nat):Int)) none).length<=8:=by rw[dk,c2,fO,hpart,aL,hlen];omega
   refine⟨_,rfl,.inl ⟨rfl,_,ay.of hf2⟩,_,rfl,_,rfl,_,rfl,part,rfl,pz,_,rfl,_,_,rfl,rfl,?_,_,rfl,_,rfl,_,rfl,part,rfl,pz,_,_,rfl,rfl,?_,f,_,_,rfl,rfl,hf2,?_,?_⟩
   ·have:Str.length ⟨#[97+(((tn:Int)+3 * (0+(i:Int))) % 26).toNat]⟩=1:=rfl;rw[this];exact cM (am (by omega))
   ·rw[dk,r9,bf,<-dk,<-dk];have:Str.length ⟨#[97+(((tn:Int)+3 * (0+(i:Int))) % 26).toNat]⟩=1:=rfl;rw[this];exact cM (am (by omega))
   ·rw[ai];unfold hE;rw[ai,List.length_range];exact am (by omega)
   ·refine⟨_,_,_,_,rfl,(hp'.upd (hp.nep hqH) (hp.nec hqH)).upd hfp hfc,?_,?_⟩
    ·intro b' o' e nb;rw[ah (ac e hfH)];exact kp (hex' b' o' e nb) hq
    ·rw[aa];unfold hE;rw[List.range_succ,ap,ap];congr 3;show[V.str _]=[V.str _];congr 2;refine zy ?_;rw[r9,r9,c1,c2,hpart,e26,lD];simp[sH,jE]
  ·rintro σ H' ⟨a,b,c',d,rfl,hp',hex',hf'⟩;have en:((n:Int)).toNat=n:=by omega
   rw[en]at hf';exact⟨_,rfl,k f _ H' (ul hlen hlet (by omega) hn) (by unfold hE;rw[ai,List.length_range]) hfH hf' hp' hex'⟩
structure ak where
 a:Str
 sg:List Str
 b:Str
deriving DecidableEq
def SignAt(H:Hp)(s:Addr)(sg:Zb):Prop:=H s=some (.tup (sg.map V.str))
def ga(H:Hp)(t:Addr)(d:ak):Prop:=∃s,H t=some (.tup [.str d.a,.ref s,.str d.b])/\SignAt H s d.sg
def iC(H H':Hp):Prop:=∀b xs,H b=some (.tup xs)->H' b=some (.tup xs)
theorem ga.kt{H H':Hp}{t:Addr}{d:ak}(k:iC H H')(h:ga H t d):ga H' t d:=by
 obtain⟨s,h1,h2⟩:=h;exact⟨s,k _ _ h1,k _ _ h2⟩
theorem bh.kt{p:Addr}{H H':Hp}{xs:List V}(e:bh p H H')(hp:H p=some (.lst xs)):iC H H':=fun b ys h=>e b _ h (fun z=>by rw[z,hp]at h;cases h)
theorem ab.kt{H H':Hp}(e:ab H H'):iC H H':=fun b ys h=>e b _ h
theorem iC.trans{H H1 H2:Hp}(a:iC H H1)(b:iC H1 H2):iC H H2:=fun x xs h=>b x xs (a x xs h)
theorem gG{H:Hp}{l:Addr}{xs:List V}{o:HO}(h:H l=some (.lst xs)):iC H (upd H l o):=fun b ys e=>by
 rw[ah (fun z=>by rw[z,h]at e;cases e)];exact e
abbrev cD(H:Hp)(ts:Ze)(ds:List ak):Prop:=Paired (ga H) ts ds
theorem Paired.get{α β:Type}{R:α->β->Prop}:∀{xs:List α}{ys:List β}{i:Nat}{y:β},Paired R xs ys->ys[i]?=some y->∃x,xs[i]?=some x/\R x y
 |_,_,i,y,.nil,h=>by simp at h
 |_,_,0,y,.cons r t,h=>by simp at h;subst h;exact⟨_,rfl,r⟩
 |_,_,i+1,y,.cons r t,h=>by
  simp at h;obtain⟨x,h1,h2⟩:=Paired.get t h;exact⟨x,by simpa using h1,h2⟩
theorem Paired.getL{α β:Type}{R:α->β->Prop}:∀{xs:List α}{ys:List β}{i:Nat}{x:α},Paired R xs ys->xs[i]?=some x->∃y,ys[i]?=some y/\R x y
 |_,_,i,y,.nil,h=>by simp at h
 |_,_,0,y,.cons r t,h=>by simp at h;subst h;exact⟨_,rfl,r⟩
 |_,_,i+1,y,.cons r t,h=>by
  simp at h;obtain⟨x,h1,h2⟩:=Paired.getL t h;exact⟨x,by simpa using h1,h2⟩
theorem cD.kt{H H':Hp}{ts:Ze}{ds:List ak}(k:iC H H')(h:cD H ts ds):cD H' ts ds:=Paired.mapP h fun _ _ r=>r.kt k
theorem AJ{H:Hp}{a:Addr}{o:HO}(h:H a=some o):upd H a o=H:=by
 funext b;by_cases e:b=a
 ·subst e;rw[aa,h]
 ·rw[ah e]
def gv(x:Str):DT:=.k (.inr x)
def xg(d:ak):DT:=.t [gv d.a,.t (d.sg.map gv),gv d.b]
theorem kT{x y:Str}(h:gv x=gv y):x=y:=by
 unfold gv at h;injection h with h;injection h
theorem gz:∀{x y:Zb},x.map gv=y.map gv->x=y
 |[],[],_=>rfl
 |[],_::_,h=>by cases h
 |_::_,[],h=>by cases h
 |a::x,b::y,h=>by
  rw[a_,a_]at h;injection h with h1 h2;rw[kT h1,gz h2]
theorem Ac{x y:ak}(h:xg x=xg y):x=y:=by
 unfold xg at h;injection h with h;injection h with h1 h;injection h with h2 h;injection h with h3 h;injection h2 with h2;cases x;cases y;simp only at *;rw[kT h1,gz h2,kT h3]
theorem f_(xs:Zb):DT.depths (xs.map gv)=0:=by
 induction xs with
 |nil=>rfl
 |cons x xs ih=>rw[a_];show max (DT.depth (gv x)) (DT.depths _)=0;rw[ih];rfl
theorem wa(d:ak):(xg d).depth=2:=by
 show DT.depths [gv d.a,.t (d.sg.map gv),gv d.b]+1=2;show max (DT.depth (gv d.a)) (max (DT.depths (d.sg.map gv)+1) (max (DT.depth (gv d.b)) 0))+1=2;rw[f_]
 rfl
theorem xb(ds:List ak):DT.depths (ds.map xg)<=8:=by
 induction ds with
 |nil=>exact ee _
 |cons x xs ih=>rw[a_];show max (DT.depth (xg x)) (DT.depths _)<=8;rw[wa];omega
theorem j5{K:Za}{H:Hp}:∀xs:List Str,DIns K H (xs.map gv) (xs.map V.str)
 |[]=>by show DIns K H [] [];unfold DIns;rfl
 |x::xs=>by
  rw[a_,a_];unfold DIns;refine⟨_,_,rfl,?_,j5 xs⟩;unfold gv mJ
  rfl
theorem mF{K:Za}{H:Hp}(x:Str):mJ K H (gv x) (.str x):=by unfold gv mJ;rfl
theorem bD{K:Za}{H:Hp}{s:Addr}{sg:Zb}(h:bE K H s (sg.map V.str)):mJ K H (.t (sg.map gv)) (.ref s):=by
 unfold mJ;exact⟨s,_,rfl,h,j5 _⟩
theorem ga.dIn{K:Za}{H:Hp}{t:Addr}{d:ak}(h:ga H t d):mJ K H (xg d) (.ref t):=by
 obtain⟨s,h1,h2⟩:=h;unfold xg;unfold mJ;refine⟨t,_,rfl,bE.of h1,?_⟩;unfold DIns;refine⟨_,_,rfl,mF _,?_⟩;unfold DIns;refine⟨_,_,rfl,bD (bE.of h2),?_⟩;unfold DIns;refine⟨_,_,rfl,mF _,?_⟩;unfold DIns
 rfl
theorem cD.dIns{K:Za}{H:Hp}:∀{ts:Ze}{ds:List ak},cD H ts ds->DIns K H (ds.map xg) (ts.map V.ref)
 |_,_,.nil=>by show DIns K H [] [];unfold DIns;rfl
 |_,_,.cons r t=>by
  rw[a_,a_];unfold DIns;exact⟨_,_,rfl,r.dIn,cD.dIns t⟩
theorem v3{d:ak}{ds:List ak}:xg d∈ds.map xg↔d∈ds:=by
 constructor
 ·intro h;obtain⟨x,hx,e⟩:=aE.mp h;rw[<-Ac e];exact hx
 ·exact nO
def uN(ds:List ak)(d:ak):List ak:=if d∈ds then ds else ds++[d]
inductive om (vs:List V)(H:Hp)(Q:VK)(E:XK):Prop
 |mk (l t:Addr) (ts:Ze) (ds:List ak) (d:ak):(vs=[.ref l,.ref t])->(H l=some (.lst (ts.map V.ref)))->(cD H ts ds)->(ga H t d)->(ds.length<=1000)->(∀ts':List Addr,cD H ts' (uN ds d)->Q .non (upd H l (.lst (ts'.map V.ref))))->om  vs H Q E
theorem AR{K:Za}{vs:List V}{H:Hp}{Q:VK}{E:XK}(h:om vs H Q E):ww K (bc Q) (start xu vs) H:=by
 obtain⟨l,t,ts,ds,d,rfl,hl,hd,ht,hz,k⟩:=h;refine⟨_,rfl,_,rfl,xg d,ds.map xg,l,_,ht.dIn,rfl,.inl (ay.of hl),hd.dIns,by rw[wa];decide,xb ds,_,rfl,?_⟩;by_cases hm:d∈ds
 ·rw[if_pos rfl,zzr1 (v3.mpr hm)];refine cB ?_;have:=k ts (by unfold uN;rw[if_pos hm];exact hd);rw[AJ hl]at this;exact this
 ·rw[if_pos rfl,zzr0 (fun z=>hm (v3.mp z))];refine cA ?_;refine⟨_,rfl,.inl ⟨rfl,_,ay.of hl⟩,_,rfl,l,_,_,rfl,rfl,hl,?_,?_⟩
  ·rw[ai,Paired.length hd];exact am hz
  ·have:=k (ts++[t]) (by unfold uN;rw[if_neg hm];exact hC hd ht);rw[ap]at this;exact this
structure DI(R:ak->Prop)(H0:Hp)(p c l:Addr)(m:Nat)(H:Hp):Prop where
 pen:fb H p c
 ds:∃ts ds,H l=some (.lst (ts.map V.ref))/\cD H ts ds/\ds.Nodup/\(∀d∈ds,R d)/\ds.length<=m
 ex:bh p H0 H
 fr:H0 l=none
 pl:p≠l
 cl:c≠l
section
variable{R:ak->Prop}{H0 H H':Hp}{p c l:Addr}{m:Nat}
theorem fb.lst{H:Hp}{p c:Addr}(h:fb H p c):∃xs,H p=some (.lst xs):=by
 obtain⟨a,r,ns,h1,_⟩:=h;exact⟨_,h1⟩
theorem DI.took(h:DI R H0 p c l m H)(hp:fb H' p c)(e:bh p H H'):DI R H0 p c l m H':=by
 obtain⟨ts,ds,h1,h2,h3⟩:=h.ds;obtain⟨xs,hx⟩:=h.pen.lst;exact⟨hp,⟨ts,ds,e _ _ h1 h.pl.symm,h2.kt (e.kt hx),h3⟩,h.ex.trans e,h.fr,h.pl,h.cl⟩
theorem DI.new(h:DI R H0 p c l m H){q:Addr}{o:HO}(hq:H q=none):DI R H0 p c l m (upd H q o) :=
 h.took (h.pen.ex (ab.new hq)) (bh.new hq)
theorem DI.up(h:DI R H0 p c l m H){n:Nat}(hn:m<=n):DI R H0 p c l n H:=by
 obtain⟨ts,ds,h1,h2,h3,h4,h5⟩:=h.ds;exact⟨h.pen,⟨ts,ds,h1,h2,h3,h4,aJ h5 hn⟩,h.ex,h.fr,h.pl,h.cl⟩
theorem DI.put(h:DI R H0 p c l m H){t:Addr}{d:ak}{Q:VK}{E:XK}(ht:ga H t d)(hR:R d)(hm:m<=1000)(k:∀H',DI R H0 p c l (m+1) H'->Q .non H'):om [.ref l,.ref t] H Q E:=by
 obtain⟨ts,ds,h1,h2,h3,h4,h5⟩:=h.ds;refine⟨l,t,ts,ds,d,rfl,h1,h2,ht,aJ h5 hm,fun ts' h'=>k _ ⟨h.pen.upd h.pl h.cl,⟨ts',uN ds d,aa,h'.kt (gG h1),?_,?_,?_⟩,?_,h.fr,h.pl,h.cl⟩⟩
 ·unfold uN;split
  ·exact h3
  ·next hn =>
   rw[cG];refine⟨h3,by simp,?_⟩;intro a ha b hb e;have:b=d:=by simpa using hb
   subst this;exact hn (e▸ha)
 ·intro x hx;unfold uN at hx;split at hx
  ·exact h4 x hx
  ·rcases aU.mp hx with hx|hx
   ·exact h4 x hx
   ·have:x=d:=by simpa using hx
    rw[this];exact hR
 ·unfold uN;split
  ·omega
  ·rw[bf];show ds.length+1<=m+1;omega
 ·intro b o e n;rw[ah (ac e h.fr)];exact h.ex b o e n
end
theorem fb.ne_strs{H:Hp}{p c a:Addr}{ws:Zb}(hp:fb H p c)(ha:H a=some (.lst (ws.map V.str))):a≠p:=by
 intro e;obtain⟨x,y,ns,h1,_⟩:=hp;rw[e,h1]at ha;injection ha with ha;injection ha with ha;cases ws with
 |nil=>cases ha
 |cons w ws=>injection ha with ha;cases ha
theorem nC{K:Za}{r:R2}(hr:∀x y H Q,d7 K x y H Q->r x y H Q){σ:L2.St}{H:Hp}{Q:VK}{p c a:Addr}{j:Nat}{ws:Zb}(h0:σ[0]?=some (some (.ref p)))(hj:σ[j]?=some (some (.ref a)))(hp:fb H p c)
  (ha:H a=some (.lst (ws.map V.str))) (hne:ws≠[]) (hlen:ws.length<=1000) (k:∀w∈ws,∀H',fb H' p c->bh p H H'->Q (.str w) H') :
  ∃v,σ[j]?=some (some v)/\∃v0,σ[0]?=some (some v0)/\∃v1,σ[j]?=some (some v1)/\iT K [v1] H fun y H1=>fw [v0,y] H1 (fun y H2=>r v y H2 Q) E0:=by
 have hl:0<ws.length:=by cases ws with|nil=>exact absurd rfl hne|cons _ _=>simp
 have la:(V.int ((ws.map V.str).length:Nat))=V.int (ws.length:Nat):=by rw[ai]
 have hpa:=hp.ne_strs ha;have fin:∀(x:Int) (H':Hp),0<=x->x<(ws.length:Int)->fb H' p c->bh p H H'->d7 K (.ref a) (.int x) H' Q:=by
  intro x H' x0 x1 hp' ex;obtain⟨n,rfl⟩:=jK x0;have hn:n<ws.length:=by omega
  exact⟨a,_,(n:Int),.str ws[n],rfl,rfl,ay.of (ex _ _ ha hpa),fF (by simp[hn]),k _ (List.getElem_mem hn) H' hp' ex⟩
 exact⟨_,hj,_,h0,_,hj,.inl ⟨a,_,rfl,.inl (ay.of ha),by rw[la];exact eX hp (by omega) (by omega) fun x H' x0 x1 hp' ex=>hr _ _ _ _ (fin x H' x0 x1 hp' ex)⟩⟩
def Up(up:Bool)(J2:Zb)(a b:Str):Prop:=∃i j:Nat,J2[i]?=some a/\J2[j]?=some b/\(if up=true then i<j else j<i)
structure i5(J0 J1 J2:Zb)(up:Bool)(d:ak):Prop where
 a:d.a∈J2
 b:d.b∈J2
 sg:(∃w∈J0,d.sg=[("ask":Str),w])∨(∃w∈J1,d.sg=[("say":Str),w])∨(d.sg=[("still":Str)]/\Up up J2 d.a d.b)
def aG:List Str:=[("still":Str)]
structure zd(J0 J1 J2:Zb)(d:ak):Prop where
 a:d.a∈J2
 b:d.b∈J2
 sg:(∃w∈J0,d.sg=[("ask":Str),w])∨(∃w∈J1,d.sg=[("say":Str),w])∨d.sg=aG
theorem i5.d{J0 J1 J2:Zb}{up:Bool}{d:ak}(h:i5 J0 J1 J2 up d):zd J0 J1 J2 d:=⟨h.a,h.b,h.sg.imp id (Or.imp id And.left)⟩
inductive Reach(ds:List ak)(a:Str):Str->Prop
 |one {b:Str}(h:(⟨a,aG,b⟩:ak)∈ds):Reach ds a b
 |step {b c:Str}(r:Reach ds a b) (h:(⟨b,aG,c⟩:ak)∈ds):Reach ds a c
theorem v8{J2:Zb}(nd:J2.Nodup){i j:Nat}{a:Str}(hi:J2[i]?=some a)(hj:J2[j]?=some a):i=j:=by
 obtain⟨h1,e1⟩:=bT.mp hi;obtain⟨h2,e2⟩:=bT.mp hj;have pw:=List.pairwise_iff_getElem.mp nd;rcases Nat.lt_trichotomy i j with h|h|h
 ·exact absurd (e1.trans e2.symm) (pw i j h1 h2 h)
 ·exact h
 ·exact absurd (e2.trans e1.symm) (pw j i h2 h1 h)
theorem Up.trans{up:Bool}{J2:Zb}(nd:J2.Nodup){a b c:Str}(h1:Up up J2 a b)(h2:Up up J2 b c):Up up J2 a c:=by
 obtain⟨i,j,e1,e2,h⟩:=h1;obtain⟨j',k,e3,e4,h'⟩:=h2;have:=v8 nd e2 e3;subst this;refine⟨i,k,e1,e4,?_⟩;cases up
 ·simp at h h' ⊢;omega
 ·simp at h h' ⊢;omega
theorem Up.irr{up:Bool}{J2:Zb}(nd:J2.Nodup){a:Str}(h:Up up J2 a a):False:=by
 obtain⟨i,j,e1,e2,h⟩:=h;have:=v8 nd e1 e2;subst this;cases up
 ·simp at h
 ·simp at h
theorem xG{J0 J1 J2:Zb}{ds:List ak}{up:Bool}(nd:J2.Nodup)(m:∀d∈ds,i5 J0 J1 J2 up d){a b:Str}(h:Reach ds a b):Up up J2 a b:=by
 have edge:∀{a b:Str},(⟨a,aG,b⟩:ak)∈ds->Up up J2 a b:=by
  intro a b h;rcases(m _ h).sg with⟨w,_,e⟩|⟨w,_,e⟩|⟨_,e⟩
  ·cases e
  ·cases e
  ·exact e
 induction h with
 |one h=>exact edge h
 |step r h ih=>exact ih.trans nd (edge h)
inductive eN (vs:List V)(H:Hp)(Q:VK)(E:XK):Prop
 |mk (p c l1 l2 l3:Addr) (J0 J1 J2:Zb) (full:Int):(vs=[.ref p,.ref l1,.ref l2,.ref l3,.int full])->(fb H p c)->(H l1=some (.lst (J0.map V.str)))->(H l2=some (.lst (J1.map V.str)))->(H l3=some (.lst (J2.map V.str)))->(J0.length<=4)->(J1≠[])->(J1.length<=4)->(J2≠[])->(J2.length<=26)->(0<=full)->(full<=2)->(∀(l:Addr) (ts:Ze) (ds:List ak) (up:Bool) (H':Hp),H l=none->H' l=some (.lst (ts.map V.ref))->cD H' ts ds->ds.Nodup->(∀d∈ds,i5 J0 J1 J2 up d)->ds.length<=600->fb H' p c->bh p H H'->Q (.ref l) H')->eN  vs H Q E
theorem at4{x r:Int}(x0:0<=x)(x2:x<=2)(r0:0<=r)(r4:r<4):∃j:Int,ve [V.int x,.int 1,.int 1,.int 2] r=some (.int j)/\0<=j/\j<=2:=by
 have:r=0∨r=1∨r=2∨r=3:=by omega
 rcases this with rfl|rfl|rfl|rfl
 ·exact⟨x,rfl,x0,x2⟩
 ·exact⟨1,rfl,by decide,by decide⟩
 ·exact⟨1,rfl,by decide,by decide⟩
 ·exact⟨2,rfl,by decide,by decide⟩
theorem xh(ws:Zb)(k:Nat):fE (ws.map V.str) (some (k:Int)) none=(ws.drop k).map V.str:=by
 unfold fE;rw[HT.sIx_none,HT.sIx_nat,ai,qr (by rw[fO,ai];omega),List.map_drop];by_cases h:k<=ws.length
 ·rw[Nat.min_eq_left h]
 ·rw[Nat.min_eq_right (by omega),qx (by simp),qx (by rw[ai];omega)]
theorem rU(ws:Zb)(k:Nat):fE (ws.map V.str) none (some (k:Int))=(ws.take k).map V.str:=by
 unfold fE;rw[HT.sIx_none,HT.sIx_nat,ai,ly,qw,qq,List.take_eq_take_iff,ai];omega
theorem yX{K:Za}{H:Hp}{a:Addr}{ws:Zb}(h:ay K H a (ws.map V.str)):mJ K H (.s (ws.map gv)) (.ref a):=by
 unfold mJ;exact⟨a,_,rfl,h,j5 _⟩
theorem Ab{K:Za}{H:Hp}{a:Addr}(h:ay K H a []):mJ K H (.s []) (.ref a):=by
 unfold mJ;refine⟨a,_,rfl,h,?_⟩;unfold DIns
 rfl
theorem pB{K:Za}{vs:List V}{H:Hp}{Q:VK}{E:XK}(h:eN vs H Q E):lH K fw om (bc Q) (start md vs) H:=by
 obtain⟨p,c,l1,l2,l3,J0,J1,J2,full,rfl,hp,h1,h2,h3,ha,hs0,hs,hr0,hr,f0,f2,k⟩:=h;have n1:=hp.ne_strs h1;have n2:=hp.ne_strs h2;have n3:=hp.ne_strs h3;refine⟨(by show 0<=aj;decide),fun l hl=>?_⟩;have hpl:=hp.nep hl;have hcl:=hp.nec hl;refine⟨_,rfl,eX (hp.ex (ab.new hl)) (by decide) (by decide) fun dn H1 d0 d1 hp1 ex1=>?_⟩;generalize hG:i5 J0 J1 J2 (decide (dn=0))=G;have base:DI G H p c l 0 H1:=⟨hp1,⟨[],[],ex1 _ _ aa hpl.symm,.nil,nW,by simp,ee _⟩,(bh.new hl).trans ex1,hl,hpl,hcl⟩;refine⟨_,rfl,l3,rfl,⟨_,ay.of (base.ex _ _ h3 n3)⟩,?_⟩;refine iY (xs:=J2.map V.str) (fun i σ H'=>∃a7 a8 a9 a10 a11 a12:Option V,σ=[some (.ref p),some (.ref l1),some (.ref l2),some (.ref l3),some (.int full),some (.ref l),some (.int dn),a7,a8,a9,a10,a11,a12]/\DI G H p c l (11 * i) H')
  ⟨_,_,_,_,_,_,rfl,base⟩ (fun i σ H' _ ⟨_,_,_,_,_,_,_,D⟩=>ay.of (D.ex _ _ h3 n3)) ?_ ?_
 ·rintro i x σ H' t hi ⟨a7,a8,a9,a10,a11,a12,rfl,D⟩ ht;obtain⟨room,hroom,rfl⟩:∃room,J2[i]?=some room/\x=V.str room:=by
   rw[gJ]at hi;cases q:J2[i]? with
   |none=>rw[q]at hi;cases hi
   |some r=>rw[q]at hi;exact⟨r,rfl,(da hi).symm⟩
  have hiL:i<J2.length:=(bT.mp hroom).1;have hmem:room∈J2:=dB hroom;refine⟨t,_,rfl,bE.of aa,rfl,_,_,rfl,_,_,rfl,rfl,?_⟩;have D1:=D.new ht (o:=.tup [.int i,.str room]);refine⟨(by show 4<=aj;decide),fun q hq=>⟨_,rfl,eX (D1.new hq).pen (by decide) (by decide) fun r H2 r0 r1 hp2 ex2=>?_⟩⟩;obtain⟨j,hj,j0,j2⟩:=at4 (x:=0) (by decide) (by decide) r0 r1;have D2:=(D1.new hq).took hp2 ex2;refine⟨q,_,_,_,rfl,rfl,ay.of (ex2 q _ aa (D1.pen.nep hq).symm),hj,j,rfl,by omega,by omega,?_⟩;refine jp (lo:=0) (n:=j.toNat) (fun i' σ H''=>∃a9 a10:Option V,σ=[some (.ref p),some (.ref l1),some (.ref l2),some (.ref l3),some (.int full),some (.ref l),some (.int dn),some (.int i),some (.str room),a9,a10,a11,a12]/\DI G H p c l (11 * i+i') H'')
   ⟨_,_,rfl,D2⟩ ?_ ?_
  ·rintro i' σ H3 hi' ⟨a9,a10,rfl,D3⟩;refine nC (fun _ _ _ _ h=>h) rfl rfl D3.pen (D3.ex _ _ h2 n2) hs0 (by omega) fun w hw H4 hp4 ex4=>?_;have D4:=D3.took hp4 ex4;refine⟨(by show 2<=aj;decide),fun sg hsg=>?_⟩;have D5:=D4.new hsg (o:=.tup [.str "say",.str w]);refine⟨_,rfl,_,rfl,_,rfl,nC (fun _ _ _ _ h=>h) rfl rfl D5.pen (D5.ex _ _ h3 n3) hr0 (by omega) fun w2 hw2 H6 hp6 ex6=>?_⟩;have D6:=D5.took hp6 ex6;refine⟨(by show 3<=aj;decide),fun dr hdr=>?_⟩;have D7:=D6.new hdr (o:=.tup [.str room,.ref sg,.str w2]);have hsg6:H6 sg=some (.tup [.str "say",.str w]):=ex6 _ _ aa (D4.pen.nep hsg).symm;refine D7.put (d:=⟨room,["say",w],w2⟩) ⟨sg,aa,kp hsg6 hdr⟩ ?_ (by omega) fun H8 D8=>⟨_,_,rfl,D8⟩;rw[<-hG];exact⟨hmem,hw2,.inr (.inl ⟨w,hw,rfl⟩)⟩
  rintro σ H3 ⟨a9,a10,rfl,D3'⟩;have D3:DI G H p c l (11 * i+2) H3:=D3'.up (by omega);clear D3';refine⟨_,rfl,l1,rfl,⟨_,ay.of (D3.ex _ _ h1 n1)⟩,?_⟩;refine bP (xs:=J0.map V.str) (fun i' σ H''=>∃a9 a11:Option V,σ=[some (.ref p),some (.ref l1),some (.ref l2),some (.ref l3),some (.int full),some (.ref l),some (.int dn),some (.int i),some (.str room),a9,a10,a11,a12]/\DI G H p c l (11 * i+2+2 * i') H'')
   ⟨_,_,rfl,D3⟩ (fun i σ H' _ ⟨_,_,_,D⟩=>ay.of (D.ex _ _ h1 n1)) ?_ ?_
  ·rintro i' x σ H4 hi' ⟨a9,a11,rfl,D4⟩;obtain⟨ask,hask,rfl⟩:∃ask,J0[i']?=some ask/\x=V.str ask:=by
    rw[gJ]at hi';cases q:J0[i']? with
    |none=>rw[q]at hi';cases hi'
    |some r=>rw[q]at hi';exact⟨r,rfl,(da hi').symm⟩
   have hi2:i'<J0.length:=(bT.mp hask).1;have hm2:ask∈J0:=dB hask;refine⟨_,rfl,(by show 4<=aj;decide),fun q hq=>⟨_,rfl,eX (D4.new hq).pen (by decide) (by decide) fun r H5 r0 r1 hp5 ex5=>?_⟩⟩;obtain⟨j,hj,j0,j2⟩:=at4 f0 f2 r0 r1;have D5:=(D4.new hq).took hp5 ex5;refine⟨q,_,_,_,rfl,rfl,ay.of (ex5 q _ aa (D4.pen.nep hq).symm),hj,j,rfl,by omega,by omega,?_⟩;refine jp (lo:=0) (n:=j.toNat) (fun i'' σ H''=>∃a9:Option V,σ=[some (.ref p),some (.ref l1),some (.ref l2),some (.ref l3),some (.int full),some (.ref l),some (.int dn),some (.int i),some (.str room),a9,a10,some (.str ask),a12]/\DI G H p c l (11 * i+2+2 * i'+i'') H'')
    ⟨_,rfl,D5⟩ ?_ ?_
   ·rintro i'' σ H6 hi'' ⟨a9,rfl,D6⟩;refine⟨_,rfl,_,rfl,_,rfl,(by show 2<=aj;decide),fun sg hsg=>?_⟩;have D7:=D6.new hsg (o:=.tup [.str "ask",.str ask]);refine nC (fun _ _ _ _ h=>h) rfl rfl D7.pen (D7.ex _ _ h3 n3) hr0 (by omega) fun w2 hw2 H8 hp8 ex8=>?_;have D8:=D7.took hp8 ex8;refine⟨(by show 3<=aj;decide),fun dr hdr=>?_⟩;have D9:=D8.new hdr (o:=.tup [.str room,.ref sg,.str w2]);have hsg8:H8 sg=some (.tup [.str "ask",.str ask]):=ex8 _ _ aa (D6.pen.nep hsg).symm;refine D9.put (d:=⟨room,["ask",ask],w2⟩) ⟨sg,aa,kp hsg8 hdr⟩ ?_ (by omega) fun H8 D8=>⟨_,rfl,D8⟩;rw[<-hG];exact⟨hmem,hw2,.inl ⟨ask,hm2,rfl⟩⟩
   ·rintro σ H6 ⟨a9,rfl,D6⟩;exact⟨_,_,rfl,D6.up (by omega)⟩
  rintro σ H4 ⟨a9,a11,rfl,D4'⟩;have D4:DI G H p c l (11 * i+10) H4:=D4'.up (by rw[ai];omega);clear D4';have hnext:∀(H9:Hp) (a12:Option V),DI G H p c l (11 * i+11) H9->∃a7 a8 a9' a10' a11' a12':Option V,[some (.ref p),some (.ref l1),some (.ref l2),some (.ref l3),some (.int full),some (.ref l),some (.int dn),some (.int i),some (.str room),a9,a10,a11,a12] =
    [some (.ref p),some (.ref l1),some (.ref l2),some (.ref l3),some (.int full),some (.ref l),some (.int dn),a7,a8,a9',a10',a11',a12']/\DI G H p c l (11 * (i+1)) H9:=fun H9 a12 D9=>⟨_,_,_,_,_,_,rfl,D9.up (by omega)⟩
  refine⟨_,rfl,_,rfl,_,_,rfl,rfl,_,rfl,l3,_,rfl,ay.of (D4.ex _ _ h3 n3),fun q1 hq1=>?_⟩;have D5:=D4.new hq1 (o:=.lst (fE (J2.map V.str) (some ((i:Int)+1)) none));refine⟨_,rfl,_,rfl,_,rfl,l3,_,rfl,ay.of (D5.ex _ _ h3 n3),fun q2 hq2=>?_⟩;have e1:fE (J2.map V.str) (some ((i:Int)+1)) none=(J2.drop (i+1)).map V.str:=xh J2 (i+1);rw[rU];have D6:=D5.new hq2 (o:=.lst ((J2.take i).map V.str));refine⟨(by show 2<=aj;decide),fun q3 hq3=>?_⟩;have D7:=D6.new hq3 (o:=.lst [.ref q1,.ref q2]);obtain⟨lt,q,hq,hlt,hgood⟩:∃(lt:Zb) (q:Addr),ve [V.ref q1,.ref q2] dn=some (.ref q) /\
    upd (upd (upd H4 q1 (.lst (fE (J2.map V.str) (some ((i:Int)+1)) none))) q2 (.lst ((J2.take i).map V.str))) q3 (.lst [.ref q1,.ref q2]) q=some (.lst (lt.map V.str))/\lt.length<=26 /\
    ∀w∈lt,w∈J2/\Up (decide (dn=0)) J2 room w:=by
   have:dn=0∨dn=1:=by omega
   rcases this with rfl|rfl
   ·refine⟨J2.drop (i+1),q1,rfl,?_,by rw[fO];omega,fun w hw=>⟨List.mem_of_mem_drop hw,?_⟩⟩
    ·refine(kp (kp aa hq2) hq3).trans ?_;rw[e1]
    ·obtain⟨n,hn⟩:=List.getElem?_of_mem hw;rw[List.getElem?_drop]at hn;exact⟨i,i+1+n,hroom,hn,by rw[if_pos (by decide)];omega⟩
   ·refine⟨J2.take i,q2,rfl,?_,by rw[aL];omega,fun w hw=>⟨dO hw,?_⟩⟩
    ·exact kp aa hq3
    ·obtain⟨n,hn⟩:=List.getElem?_of_mem hw;have hnl:n<i:=by
      have:=(bT.mp hn).1;rw[aL]at this;omega
     rw[List.getElem?_take_of_lt hnl]at hn;exact⟨i,n,hroom,hn,by rw[if_neg (by decide)];omega⟩
  refine⟨_,rfl,q3,_,_,_,rfl,rfl,ay.of aa,hq,?_⟩;generalize upd (upd (upd H4 q1 (.lst (fE (J2.map V.str) (some ((i:Int)+1)) none))) q2 (.lst ((J2.take i).map V.str))) q3 (.lst [.ref q1,.ref q2])=H7 at D7 hlt ⊢;refine⟨_,rfl,(by show 0<=aj;decide),fun e he=>⟨.s (lt.map gv),.s [],yX (ay.of (kp hlt he)),Ab (ay.of aa),?_,by decide,_,rfl,?_⟩⟩
  ·show DT.depths (lt.map gv)+1<=8;rw[f_];decide
  have D8:=D7.new he (o:=.lst []);by_cases hz:lt=[]
  ·have ez:(!decide (DT.s (lt.map gv)=DT.s []))=false:=by rw[hz,zzr1 (by rfl)];rfl
   rw[ez];exact cB (cB (hnext _ _ (D8.up (by omega))))
  ·have ez:(!decide (DT.s (lt.map gv)=DT.s []))=true:=by
    rw[zzr0 (fun z=>hz (gz (y:=[]) (by injection z)))];rfl
   rw[ez];refine cA ?_;refine⟨_,rfl,eX D8.pen (by decide) (by decide) fun r H9 r0 r1 hp9 ex9=>⟨rfl,_,rfl,?_⟩⟩;have D9:=D8.took hp9 ex9;refine iV (fun _=>?_) (fun _=>hnext _ _ (D9.up (by omega)));refine⟨_,rfl,_,rfl,(by show 1<=aj;decide),fun sg hsg=>?_⟩;have D10:=D9.new hsg (o:=.tup [.str "still"]);have hlt10:upd H9 sg (.tup [.str "still"]) q=some (.lst (lt.map V.str)):=kp (ex9 _ _ (kp hlt he) (D8.pen.ne_strs (kp hlt he))) hsg;refine nC (fun _ _ _ _ h=>.inl h) rfl rfl D10.pen hlt10 hz (by omega) fun w2 hw2 H11 hp11 ex11=>?_;have D11:=D10.took hp11 ex11;refine⟨(by show 3<=aj;decide),fun dr hdr=>?_⟩;have D12:=D11.new hdr (o:=.tup [.str room,.ref sg,.str w2]);have hsg11:H11 sg=some (.tup [.str "still"]):=ex11 _ _ aa (D9.pen.nep hsg).symm;refine D12.put (d:=⟨room,[("still":Str)],w2⟩) ⟨sg,aa,kp hsg11 hdr⟩ ?_ (by omega) fun H13 D13=>hnext _ _ D13;rw[<-hG];exact⟨hmem,(hgood.2 w2 hw2).1,.inr (.inr ⟨rfl,(hgood.2 w2 hw2).2⟩)⟩
 ·rintro σ H' ⟨a7,a8,a9,a10,a11,a12,rfl,D⟩;obtain⟨ts,ds,g1,g2,g3,g4,g5⟩:=D.ds;rw[ai]at g5;rw[<-hG]at g4;exact⟨_,rfl,k l ts ds _ H' hl g1 g2 g3 g4 (by omega) D.pen D.ex⟩
structure bH(J0 J1 J2:Zb)(ds:List ak):Prop where
 okA:js J0
 okS:js J1
 apart:∀w∈J1,w∉J0
 okR:js J2
 asks0:J0≠[]
 says0:J1≠[]
 rooms0:J2≠[]
 asks4:J0.length<=4
 says4:J1.length<=4
 rooms26:J2.length<=150
 nodup:ds.Nodup
 good:∀d∈ds,zd J0 J1 J2 d
 few:ds.length<=1000
 noround:∀r,¬Reach ds r r
structure iz(H:Hp)(t l1 l2 l3 l4:Addr)(ts:Ze)(J0 J1 J2:Zb)(ds:List ak):Prop where
 t:H t=some (.tup [.ref l1,.ref l2,.ref l3,.ref l4])
 a1:H l1=some (.lst (J0.map V.str))
 a2:H l2=some (.lst (J1.map V.str))
 a3:H l3=some (.lst (J2.map V.str))
 a4:H l4=some (.lst (ts.map V.ref))
 ds:cD H ts ds
theorem fb.ne_refs{H:Hp}{p c a:Addr}{ts:Ze}(hp:fb H p c)(ha:H a=some (.lst (ts.map V.ref))):a≠p:=by
 intro e;obtain⟨x,y,ns,h1,_⟩:=hp;rw[e,h1]at ha;injection ha with ha;injection ha with ha;cases ts with
 |nil=>cases ha
 |cons w ws =>
  injection ha with _ ha;cases ws with
  |nil=>cases ha
  |cons w ws=>injection ha with ha;cases ha
theorem iz.ex{H H':Hp}{p c t l1 l2 l3 l4:Addr}{ts:Ze}{J0 J1 J2:Zb}{ds:List ak}(h:iz H t l1 l2 l3 l4 ts J0 J1 J2 ds)(hp:fb H p c)(e:bh p H H'):iz H' t l1 l2 l3 l4 ts J0 J1 J2 ds:=by
 obtain⟨xs,hx⟩:=hp.lst;exact⟨e.kt hx _ _ h.t,e _ _ h.a1 (hp.ne_strs h.a1),e _ _ h.a2 (hp.ne_strs h.a2),e _ _ h.a3 (hp.ne_strs h.a3),e _ _ h.a4 (hp.ne_refs h.a4),h.ds.kt (e.kt hx)⟩
theorem iz.same{H H':Hp}{t l1 l2 l3 l4:Addr}{ts:Ze}{J0 J1 J2:Zb}{ds:List ak}(h:iz H t l1 l2 l3 l4 ts J0 J1 J2 ds)(e:ab H H'):iz H' t l1 l2 l3 l4 ts J0 J1 J2 ds :=
 ⟨e _ _ h.t,e _ _ h.a1,e _ _ h.a2,e _ _ h.a3,e _ _ h.a4,h.ds.kt (ab.kt e)⟩
theorem at6{r:Int}(r0:0<=r)(r6:r<6):∃n:Nat,ve [V.int 0,.int 1,.int 1,.int 2,.int 2,.int 3] r=some (.int n)/\n<=3:=by
 have:r=0∨r=1∨r=2∨r=3∨r=4∨r=5:=by omega
 rcases this with rfl|rfl|rfl|rfl|rfl|rfl
 ·exact⟨0,rfl,by decide⟩
 ·exact⟨1,rfl,by decide⟩
 ·exact⟨1,rfl,by decide⟩
 ·exact⟨2,rfl,by decide⟩
 ·exact⟨2,rfl,by decide⟩
 ·exact⟨3,rfl,by decide⟩
theorem y1{ws:Zb}(hw:ws.length=8){n:Nat}(hn:n<=3):fE (ws.map V.str) (some 4) (some (5+(n:Int)))=((ws.drop 4).take (1+n)).map V.str:=by
 unfold fE;have s1:HT.sIx (ws.map V.str).length 0 (some 4)=min 4 (ws.map V.str).length:=HT.sIx_nat _ _ 4;have s2:HT.sIx (ws.map V.str).length (ws.map V.str).length (some (5+(n:Int)))=min (5+n) (ws.map V.str).length:=HT.sIx_nat _ _ (5+n);rw[s1,s2,ai,hw,qq,List.map_drop];have e1:min 4 8=4:=by decide
 have e2:min (5+n) 8-4=1+n:=by omega
 rw[e1,e2]
theorem bz{ws:Zb}{i:Nat}{x:V}(h:(ws.map V.str)[i]?=some x):∃w,ws[i]?=some w/\x=.str w:=by
 rw[gJ]at h;cases q:ws[i]? with
 |none=>rw[q]at h;cases h
 |some r=>rw[q]at h;exact⟨r,rfl,(da h).symm⟩
theorem take_snoc{α:Type}{ws:List α}{i:Nat}{w:α}(h:ws[i]?=some w):ws.take (i+1)=ws.take i++[w]:=by
 obtain⟨hi,rfl⟩:=bT.mp h;rw[List.take_succ_eq_append_getElem hi]
def k5(w:Str):Bool:=!decide (w=("":Str)) && (decide (w.length<=8) && w.cps.toList.all fun c=>decide (c∈("abcdefghijklmnopqrstuvwxyz":Str).cps.toList))
theorem mh.b{w:Str}(h:mh w):k5 w=true:=by
 unfold k5;have h1:¬(w=("":Str)):=fun e=>by
  have:=h.lo;rw[e]at this;exact absurd this (by decide +kernel)
 rw[zzr0 h1,zzr1 h.hi,Bool.not_false,nN,nN,List.all_eq_true];intro c hc;obtain⟨c1,c2⟩:=h.al c hc;refine zzr1 ?_;have:=wl (c-97) (by omega);have e:97+(c-97)=c:=by omega
 rw[e]at this;exact dB this
inductive sp_is_name (vs:List V)(H:Hp)(Q:VK)(E:XK):Prop
 |mk (w:Str):(vs=[.str w])->(w.length<=1000)->(∀H',ab H H'->Q (.bl (k5 w)) H')->sp_is_name  vs H Q E
theorem uI{K:Za}{vs:List V}{H:Hp}{Q:VK}{E:XK}(h:sp_is_name vs H Q E):wx K (bc Q) (start xv vs) H:=by
 obtain⟨w,rfl,hz,k⟩:=h;refine⟨_,rfl,rfl,_,rfl,?_⟩;have ed:(!decide (V.str w=V.str ("":Str)))=!decide (w=("":Str)):=by
  congr 1;by_cases e:w=("":Str)
  ·rw[zzr1 e,zzr1 (by rw[e])]
  ·rw[zzr0 e,zzr0 (fun z=>e (by injection z))]
 rw[ed];refine iV (fun h1=>?_) (fun h1=>?_)
 ·refine⟨_,rfl,.inr ⟨w,rfl,cM (am hz),_,_,rfl,rfl,_,rfl,?_⟩⟩;refine iV (fun h2=>?_) (fun h2=>?_)
  ·refine⟨_,rfl,w,rfl,fun l hl=>?_⟩;refine y2 (fun i vs H'=>vs=((w.cps.toList.take i).map fun c=>V.bl (decide (c∈("abcdefghijklmnopqrstuvwxyz":Str).cps.toList)))/\ab H H'/\H' l=some (.lst vs))
    ⟨rfl,ab.new hl,aa⟩ (fun i vs H' _ h=>h.2.2) ?_ ?_
   ·rintro vs H' ⟨rfl,hS,hl'⟩;refine⟨l,w.cps.toList.map fun c=>decide (c∈("abcdefghijklmnopqrstuvwxyz":Str).cps.toList),rfl,ay.of ?_,?_⟩
    ·rw[hl',iH];have:w.cps.toList.take w.cps.size=w.cps.toList:=by
      rw[qr];simp
     rw[this]
     rfl
    ·have:=k H' hS;have h2':decide (w.length<=8)=true:=zzr1 (by have:=of_decide_eq_true h2;omega);unfold k5 at this;rw[h1,h2',nN,nN]at this;rw[List.all_map];exact this
   ·rintro i vs H' c hc hi ⟨rfl,hS,hl'⟩;refine gN (qK ?_);refine⟨_,rfl,c,_,rfl,rfl,hl',?_,lT hi ⟨?_,?_,aa⟩⟩
    ·rw[ai,aL];have:w.length=w.cps.toList.length:=dk w;exact am (by omega)
    ·rw[take_snoc (by rw[<-hc];simp),ap]
     rfl
    ·intro b o e;rw[ah (ac e hl)];exact hS b o e
  ·have:=k H (ab.refl H);have h2':decide (w.length<=8)=false:=zzr0 (fun z=>h2 (zzr1 (by omega)));unfold k5 at this;rw[h1,h2',nN,Bool.false_and]at this;exact this
 ·have:=k H (ab.refl H);unfold k5 at this;rw[Bool.eq_false_iff.mpr h1,Bool.false_and]at this;exact this
def aA(ws:Zb):List (di×V):=ws.foldl (fun acc w=>cr acc (.inr w) (.bl true)) []
theorem cp(ws:Zb)(w:Str):aA (ws++[w])=cr (aA ws) (.inr w) (.bl true):=by
 unfold aA;rw[List.foldl_append]
 rfl
theorem tu{κ:Type}[DecidableEq κ](kvs:List (κ×V))(k:κ)(v:V):(cr kvs k v).length<=kvs.length+1:=by
 unfold cr;split
 ·rw[ai];omega
 ·rw[bf];exact ax _
theorem gS{α:Type}(P:List α->Prop)(h0:P [])(hs:∀ws w,P ws->P (ws++[w]))(ws:List α):P ws:=by
 have:∀n (ws:List α),ws.length=n->P ws:=by
  intro n
  induction n with
  |zero=>intro ws h;rw[List.length_eq_zero_iff.mp h];exact h0
  |succ n ih =>
   intro ws h;have hne:ws≠[]:=fun z=>by rw[z]at h;cases h
   rw[<-List.dropLast_concat_getLast hne];exact hs _ _ (ih _ (by rw[List.length_dropLast,h];rfl))
 exact this _ ws rfl
theorem h_(ws:Zb):(aA ws).length<=ws.length:=by
 refine gS (fun ws=>(aA ws).length<=ws.length) (ax _) (fun ws w h=>?_) ws;show(aA (ws++[w])).length<=(ws++[w]).length;rw[cp,bf];have:=tu (aA ws) (.inr w) (.bl true);show _<=ws.length+1;omega
theorem oJ(ws:Zb)(x:Str):aR (aA ws) (.inr x)=if x∈ws then some (.bl true)else none:=by
 refine gS (fun ws=>aR (aA ws) (.inr x)=if x∈ws then some (.bl true)else none) rfl (fun ws w h=>?_) ws
 show aR (aA (ws++[w])) (.inr x)=_;rw[cp,fR,h];by_cases e:x=w
 ·subst e;rw[if_pos rfl,if_pos (by simp)]
 ·have e1:¬((Sum.inr x:di)=.inr w):=fun z=>e (by injection z);rw[if_neg e1];by_cases m:x∈ws
  ·rw[if_pos m,if_pos (cz _ m)]
  ·rw[if_neg m,if_neg (fun z=>by rcases aU.mp z with z|z;exact m z;exact e (by simpa using z))]
theorem cY(ws:Zb)(x:Str):(aR (aA ws) (.inr x)).isSome=decide (x∈ws):=by
 rw[oJ];by_cases m:x∈ws
 ·rw[if_pos m,zzr1 m];rfl
 ·rw[if_neg m,zzr0 m];rfl
inductive sp_as_keys(K:Za)(vs:List V)(H:Hp)(Q:VK)(E:XK):Prop
 |mk (l:Addr) (ws:Zb):(vs=[.ref l])->(ay K H l (ws.map V.str))->(ws.length<=1000)->(∀d,H d=none->Q (.ref d) (upd H d (.dK (aA ws))))->sp_as_keys K vs H Q E
theorem uK{K:Za}{vs:List V}{H:Hp}{Q:VK}{E:XK}(h:sp_as_keys K vs H Q E):wz K (bc Q) (start xw vs) H:=by
 obtain⟨l,ws,rfl,hl,hz,k⟩:=h;refine fun d hd=>?_;have key:∀kvs,ay K (upd H d (.dK kvs)) l (ws.map V.str):=fun kvs=>(ab.new hd).seq hl;refine⟨_,rfl,l,rfl,⟨_,key _⟩,?_⟩;refine bP (xs:=ws.map V.str) (fun i σ H'=>∃x,σ=[some (.ref l),some (.ref d),x]/\H'=upd H d (.dK (aA (ws.take i)))) ⟨_,rfl,rfl⟩ (fun i σ H' _ ⟨_,_,e⟩=>by rw[e];exact key _) ?_ ?_
 ·rintro i x σ H' hi ⟨y,rfl,rfl⟩;obtain⟨w,hw,rfl⟩:=bz hi;have hlen:(aA (ws.take i)).length<aj:=am (aJ (h_ _) (by rw[aL];omega));refine⟨_,rfl,_,rfl,d,_,rfl,.inl ⟨_,.inr w,aa,rfl,hlen,rfl⟩,_,rfl,?_⟩;rw[nq,take_snoc hw,cp]
 ·rintro σ H' ⟨x,rfl,rfl⟩;rw[ai,aX];exact⟨_,rfl,k d hd⟩
def yN(most:Nat):Nat->List Str->List Str->Option Nat
 |_,_,[]=>none
 |i,ahead,n::ns=>if i=most∨n∈ahead∨k5 n=false then some i else yN most (i+1) (ahead++[n]) ns
def bQ(names:Zb)(most:Nat)(taken:Zb):Option Nat:=if names=[]then some 0 else yN most 0 taken names
def oV:Option Nat->V
 |none=>.non
 |some i=>.int i
inductive sp_first_wrong_name(K:Za)(vs:List V)(H:Hp)(Q:VK)(E:XK):Prop
 |mk (l t:Addr) (names taken:Zb) (most:Nat):(vs=[.ref l,.int most,.ref t])->(ay K H l (names.map V.str))->(ay K H t (taken.map V.str))->(names.length+taken.length<=1000)->((∀w∈names,w.length<=1000))->(∀H',ab H H'->Q (oV (bQ names most taken)) H')->sp_first_wrong_name K vs H Q E
theorem l9{K:Za}{H:Hp}{Q:VK}{E:XK}{l:Addr}{ws:Zb}(hl:ay K H l (ws.map V.str))(hz:ws.length<=1000)(k:∀d,H d=none->Q (.ref d) (upd H d (.dK (aA ws)))):sp_as_keys K [.ref l] H Q E:=by
 exact⟨l,ws,rfl,hl,hz,k⟩
theorem wZ{H:Hp}{Q:VK}{E:XK}{w:Str}(hz:w.length<=1000)(k:∀H',ab H H'->Q (.bl (k5 w)) H'):sp_is_name [.str w] H Q E:=by
 exact⟨w,rfl,hz,k⟩
theorem jy{K:Za}{vs:List V}{H:Hp}{Q:VK}{E:XK}(h:sp_first_wrong_name K vs H Q E):jP K sp_is_name (sp_as_keys K) (bc Q) (start kb vs) H:=by
 obtain⟨l,t,names,taken,most,rfl,hl,ht,hz,hw,k⟩:=h;refine⟨_,rfl,.inl ⟨l,_,rfl,.inl hl,rfl,_,rfl,?_⟩⟩;by_cases h0:names=[]
 ·subst h0;refine cA ?_;have:=k H (ab.refl H);exact this
 have e0:decide (V.int ((names.map V.str).length:Nat)=V.int 0)=false:=zzr0 (fun z=>h0 (by
  injection z with z;rw[ai]at z;exact List.length_eq_zero_iff.mp (by omega)))
 rw[e0];refine cB ?_;have hk:∀H',ab H H'->Q (oV (yN most 0 taken names)) H':=by
  unfold bQ at k;rw[if_neg h0]at k;exact k
 refine⟨_,rfl,l9 ht (by omega) fun d hd=>?_⟩;refine⟨_,rfl,l,rfl,⟨_,(ab.new hd).seq hl⟩,?_⟩;refine iY (xs:=names.map V.str) (fun i σ H'=>∃x y,σ=[some (.ref l),some (.int most),some (.ref t),some (.ref d),x,y]/\ab H H'/\H' d=some (.dK (aA (taken++names.take i)))/\yN most i (taken++names.take i) (names.drop i)=yN most 0 taken names)
  ⟨_,_,rfl,ab.new hd,by rw[List.take_zero,c6];exact aa,by rw[List.take_zero,c6,ly]⟩ (fun i σ H' _ ⟨_,_,_,hS,_⟩=>hS.seq hl) ?_ ?_
 ·rintro i x σ H' q hi ⟨x4,x5,rfl,hS,hd',hf⟩ hq;obtain⟨w,hw',rfl⟩:=bz hi;have hil:i<names.length:=(bT.mp hw').1;have ed:names.drop i=w::names.drop (i+1):=by
   rw[List.drop_eq_getElem_cons hil];congr 1;exact(bT.mp hw').2
  rw[ed]at hf;have hd2:upd H' q (.tup [.int i,.str w]) d=some (.dK (aA (taken++names.take i))):=kp hd' hq;have hS2:ab H (upd H' q (.tup [.int i,.str w])):=hS.trans (ab.new hq);have hww:w.length<=1000:=hw w (dB hw');refine⟨q,_,rfl,bE.of aa,rfl,_,_,rfl,_,_,rfl,rfl,?_⟩;generalize upd H' q (.tup [.int i,.str w])=H2 at hd2 hS2 ⊢;refine⟨_,rfl,_,rfl,rfl,_,rfl,?_⟩;by_cases c1:i=most
  ·have e1:decide (V.int (i:Nat)=V.int (most:Nat))=true:=zzr1 (by rw[c1]);rw[e1];refine cA (cA ?_);refine⟨_,rfl,?_⟩;have:=hk H2 hS2;rw[<-hf]at this;unfold yN at this;rw[if_pos (.inl c1)]at this;exact this
  have e1:decide (V.int (i:Nat)=V.int (most:Nat))=false:=zzr0 (fun z=>c1 (by injection z with z;omega));rw[e1];refine cB ?_;refine⟨_,rfl,_,rfl,d,_,rfl,.inl ⟨_,.inr w,.inl hd2,rfl,rfl⟩,_,rfl,?_⟩;rw[cY];by_cases c2:w∈taken++names.take i
  ·rw[zzr1 c2];refine cA (cA ?_);refine⟨_,rfl,?_⟩;have:=hk H2 hS2;rw[<-hf]at this;unfold yN at this;rw[if_pos (.inr (.inl c2))]at this;exact this
  rw[zzr0 c2];refine cB ?_;refine⟨_,rfl,wZ hww fun H3 hS3=>⟨_,rfl,?_⟩⟩;have hd3:=hS3 _ _ hd2;cases c3:k5 w with
  |false =>
   refine cA ?_;refine⟨_,rfl,?_⟩;have:=hk H3 (hS2.trans hS3);rw[<-hf]at this;unfold yN at this;rw[if_pos (.inr (.inr c3))]at this;exact this
  |true =>
   refine cB ?_;have hlen:(aA (taken++names.take i)).length<aj:=am (aJ (h_ _) (by rw[bf,aL];omega));refine⟨_,rfl,_,rfl,d,_,rfl,.inl ⟨_,.inr w,hd3,rfl,hlen,rfl⟩,_,_,rfl,?_,?_,?_⟩
   ·intro b o e;rw[ah (ac e hd)];exact hS3 _ _ (hS2 _ _ e)
   ·rw[aa,take_snoc hw',<-dL,cp]
   ·rw[<-hf,take_snoc hw',<-dL]
    conv=>rhs;unfold yN
    rw[if_neg];rintro(z|z|z)
    ·exact c1 z
    ·exact c2 z
    ·rw[c3]at z;cases z
 ·rintro σ H' ⟨x,y,rfl,hS,_,hf⟩;rw[ai,List.drop_length]at hf;have:=hk H' hS;rw[<-hf]at this;exact this
theorem tQ{most:Nat}:∀(ns ahead:Zb) (i:Nat),i+ns.length<=most->(ahead++ns).Nodup->(∀w∈ns,mh w)->yN most i ahead ns=none
 |[],_,_,_,_,_=>rfl
 |n::ns,ahead,i,h1,h2,h3=>by
  rw[d_]at h1;unfold yN;rw[if_neg]
  ·refine tQ ns (ahead++[n]) (i+1) (by omega) (by rw[dL];exact h2) fun w hw=>h3 w (eQ _ hw)
  ·rintro(z|z|z)
   ·omega
   ·rw[cG]at h2;exact h2.2.2 n z n (eR) rfl
   ·rw[(h3 n eR).b]at z;cases z
theorem eZ{most:Nat}{ns taken:Zb}(h0:ns≠[])(h1:ns.length<=most)(h2:(taken++ns).Nodup)(h3:∀w∈ns,mh w):bQ ns most taken=none:=by
 unfold bQ;rw[if_neg h0];exact tQ ns taken 0 (by omega) h2 h3
theorem em{n:Nat}(h:n<=9000):n<aj:=Nat.lt_of_le_of_lt h (by decide)
def kR(x:Str):TK:=.k (some (.inr x))
def eW(sg:Zb):TK:=.t (sg.map kR)
def wf(d:ak):TK:=.t [kR d.a,eW d.sg,kR d.b]
theorem nA{x y:Str}(h:kR x=kR y):x=y:=by
 unfold kR at h;injection h with h;injection h with h;injection h
theorem mB:∀{x y:Zb},x.map kR=y.map kR->x=y
 |[],[],_=>rfl
 |[],_::_,h=>by cases h
 |_::_,[],h=>by cases h
 |a::x,b::y,h=>by
  rw[a_,a_]at h;injection h with h1 h2;rw[nA h1,mB h2]
theorem fC{x y:Zb}(h:eW x=eW y):x=y:=by
 unfold eW at h;injection h with h;exact mB h
theorem Aa{x y:ak}(h:wf x=wf y):x=y:=by
 unfold wf at h;injection h with h;injection h with h1 h;injection h with h2 h;injection h with h3 h;cases x;cases y;simp only at *;rw[nA h1,fC h2,nA h3]
theorem uq(xs:Zb):TK.depths (xs.map kR)=0:=by
 induction xs with
 |nil=>rfl
 |cons x xs ih=>rw[a_];show max (TK.depth (kR x)) (TK.depths _)=0;rw[ih];rfl
theorem gR(sg:Zb):(eW sg).depth=1:=by
 show TK.depths (sg.map kR)+1=1;rw[uq]
theorem pS(d:ak):(wf d).depth=2:=by
 show max (TK.depth (kR d.a)) (max (TK.depth (eW d.sg)) (max (TK.depth (kR d.b)) 0))+1=2;rw[gR]
 rfl
theorem vK{H:Hp}:∀xs:List Str,TKAts H (xs.map kR) (xs.map V.str)
 |[]=>by show TKAts H [] [];unfold TKAts;rfl
 |x::xs=>by
  rw[a_,a_];unfold TKAts;refine⟨_,_,rfl,?_,vK xs⟩;unfold kR cC
  rfl
theorem qM{H:Hp}(x:Str):cC H (kR x) (.str x):=by unfold kR cC;rfl
theorem SignAt.tk{H:Hp}{s:Addr}{sg:Zb}(h:SignAt H s sg):cC H (eW sg) (.ref s):=by
 unfold eW cC;exact⟨s,_,rfl,h,vK _⟩
theorem ga.tk{H:Hp}{t:Addr}{d:ak}(h:ga H t d):cC H (wf d) (.ref t):=by
 obtain⟨s,h1,h2⟩:=h;unfold wf cC;refine⟨t,_,rfl,h1,?_⟩;unfold TKAts;refine⟨_,_,rfl,qM _,?_⟩;unfold TKAts;refine⟨_,_,rfl,SignAt.tk h2,?_⟩;unfold TKAts;refine⟨_,_,rfl,qM _,?_⟩;unfold TKAts
 rfl
section
variable{κ:Type}[DecidableEq κ]
def iw(ks:List κ):List (κ×V):=ks.foldl (fun acc k=>cr acc k (.bl true)) []
theorem j4(ws:List κ)(w:κ):iw (ws++[w])=cr (iw ws) w (.bl true):=by
 unfold iw;rw[List.foldl_append]
 rfl
theorem wX(ws:List κ):(iw ws).length<=ws.length:=by
 refine gS (fun ws=>(iw ws).length<=ws.length) (ax _) (fun ws w h=>?_) ws;show(iw (ws++[w])).length<=(ws++[w]).length;rw[j4,bf];have:=tu (iw ws) w (.bl true);show _<=ws.length+1;omega
theorem yE(ws:List κ)(x:κ):(aR (iw ws) x).isSome=decide (x∈ws):=by
 refine gS (fun ws=>(aR (iw ws) x).isSome=decide (x∈ws)) rfl (fun ws w h=>?_) ws;show(aR (iw (ws++[w])) x).isSome=_;rw[j4,fR];by_cases e:x=w
 ·subst e;rw[if_pos rfl,zzr1 (by simp)]
  rfl
 ·rw[if_neg e,h];by_cases m:x∈ws
  ·rw[zzr1 m,zzr1 (cz _ m)]
  ·rw[zzr0 m,zzr0 (fun z=>by rcases aU.mp z with z|z;exact m z;exact e (by simpa using z))]
end
theorem vZ{d:ak}{ds:List ak}:wf d∈ds.map wf↔d∈ds:=by
 constructor
 ·intro h;obtain⟨x,hx,e⟩:=aE.mp h;rw[<-Aa e];exact hx
 ·exact nO
def j9(K:Za)(H:Hp)(v:V)(sg:Zb):Prop:=∃s,v=.ref s/\bE K H s (sg.map V.str)
theorem ab.sqT{K:Za}{H H':Hp}{a:Addr}{xs:List V}(e:ab H H')(h:bE K H a xs):bE K H' a xs:=by
 rcases h with(h|⟨o,h⟩)|h
 ·exact .inl (.inl (e _ _ h))
 ·exact .inl (.inr ⟨o,e _ _ h⟩)
 ·exact .inr h
theorem Signs.same{K:Za}{H H':Hp}(e:ab H H'){xs:List V}{sgs:List (List Str)}(h:Paired (j9 K H) xs sgs):Paired (j9 K H') xs sgs :=
 Paired.mapP h fun _ _ ⟨s,h1,h2⟩=>⟨s,h1,ab.sqT e h2⟩
def lY(sg:Zb):DT:=.t (sg.map gv)
theorem v9{x y:Zb}(h:lY x=lY y):x=y:=by
 unfold lY at h;injection h with h;exact gz h
theorem b9(sg:Zb):(lY sg).depth=1:=by
 show DT.depths (sg.map gv)+1=1;rw[f_]
theorem xa(sgs:List (List Str)):DT.depths (sgs.map lY)<=8:=by
 induction sgs with
 |nil=>exact ee _
 |cons x xs ih=>rw[a_];show max (DT.depth (lY x)) (DT.depths _)<=8;rw[b9];omega
theorem Signs.dIns{K:Za}{H:Hp}:∀{xs:List V}{sgs:List (List Str)},Paired (j9 K H) xs sgs->DIns K H (sgs.map lY) xs
 |_,_,.nil=>by show DIns K H [] [];unfold DIns;rfl
 |_,_,.cons ⟨s,e,r⟩ t=>by
  rw[a_];unfold DIns;refine⟨_,_,rfl,?_,Signs.dIns t⟩;rw[e];exact bD r
theorem vY{d:Zb}{ds:List (List Str)}:lY d∈ds.map lY↔d∈ds:=by
 constructor
 ·intro h;obtain⟨x,hx,e⟩:=aE.mp h;rw[<-v9 e];exact hx
 ·exact nO
theorem Paired.app{α β:Type}{R:α->β->Prop}:∀{a:List α}{b:List β}{c:List α}{d:List β},Paired R a b->Paired R c d->Paired R (a++c) (b++d)
 |_,_,_,_,.nil,h=>h
 |_,_,_,_,.cons r t,h=>.cons r (Paired.app t h)
def c7(w:Str):List Str:=[("ask":Str),w]
def eT(w:Str):List Str:=[("say":Str),w]
def g6(J0 J1:Zb):List (List Str):=J0.map c7++J1.map eT++[aG]
theorem oo{K:Za}{kw:Str}{σ:L2.St}{H:Hp}{a l:Addr}{ws:Zb}{Q:Hp->Prop}(ha:H a=some (.lst (ws.map V.str)))(hl:H l=none)(hz:ws.length<=1000)
  (k:∀(xs:List V) (H':Hp),Paired (j9 K H') xs (ws.map fun w=>[kw,w])->ab H H'->H' l=some (.lst xs)->Q H') :
  dj 1 [] σ (zf K a) U0 iy (bV (ba (tC (.str kw)) V0)) H l Q:=by
 refine bN (xs:=ws.map V.str) (fun i vs H'=>Paired (j9 K H') vs ((ws.take i).map fun w=>[kw,w])/\ab H H'/\H' l=some (.lst vs))
  ⟨.nil,ab.new hl,aa⟩ (fun i vs H' _ ⟨_,hS,h'⟩=>⟨h',ay.of (hS _ _ ha)⟩) ?_ ?_
 ·rintro vs H' ⟨h1,h2,h3⟩;rw[ai,aX]at h1;exact k vs H' h1 h2 h3
 ·rintro i vs H' x hx hi ⟨h1,h2,h3⟩;obtain⟨w,hw,rfl⟩:=bz hx;refine gN (qK ?_);refine⟨_,rfl,(by show 2<=aj;decide),fun t ht=>⟨kp h3 ht,?_,lT hi ⟨?_,?_,aa⟩⟩⟩
  ·rw[Paired.length h1,ai,aL];exact am (by omega)
  ·rw[take_snoc hw,ap];have hS2:iC (upd H' t (.tup [.str kw,.str w])) (upd (upd H' t (.tup [.str kw,.str w])) l (.lst (vs++[.ref t]))):=gG (kp h3 ht);have hS3:iC H' (upd (upd H' t (.tup [.str kw,.str w])) l (.lst (vs++[.ref t]))):=(ab.kt (ab.new ht)).trans hS2;refine Paired.app (Paired.mapP h1 fun v sg ⟨s,e1,e2⟩=>⟨s,e1,?_⟩) (.cons ⟨t,rfl,bE.of (hS2 _ _ aa)⟩ .nil);rcases e2 with(e2|⟨o,e2⟩)|e2
   ·exact .inl (.inl (hS3 _ _ e2))
   ·refine .inl (.inr ⟨o,?_⟩);rw[ah (fun z=>by rw[z,h3]at e2;cases e2)];exact kp e2 ht
   ·exact .inr e2
  ·intro b o e;rw[ah (ac e hl)];exact kp (h2 _ _ e) ht
inductive sp_door_signs(K:Za)(vs:List V)(H:Hp)(Q:VK)(E:XK):Prop
 |mk (l1 l2:Addr) (J0 J1:Zb):(vs=[.ref l1,.ref l2])->(H l1=some (.lst (J0.map V.str)))->(H l2=some (.lst (J1.map V.str)))->(J0.length<=100)->(J1.length<=100)->(∀(l:Addr) (xs:List V) (H':Hp),Paired (j9 K H') xs (g6 J0 J1)->ab H H'->H' l=some (.lst xs)->Q (.ref l) H')->sp_door_signs K vs H Q E
theorem pC{K:Za}{st:Addr}(hst:∀H,bE K H st (aG.map V.str)){vs:List V}{H:Hp}{Q:VK}{E:XK}(h:sp_door_signs K vs H Q E):qT K st (bc Q) (start sr vs) H:=by
 obtain⟨l1,l2,J0,J1,rfl,h1,h2,z1,z2,k⟩:=h;refine⟨_,rfl,l1,rfl,⟨_,ay.of h1⟩,fun a ha=>?_⟩;refine oo h1 ha (by omega) fun xs1 H1 p1 s1 g1=>?_;refine⟨_,rfl,l2,rfl,⟨_,ay.of (s1 _ _ h2)⟩,fun b hb=>?_⟩;refine oo (s1 _ _ h2) hb (by omega) fun xs2 H2 p2 s2 g2=>?_;have len1:xs1.length<=100:=by rw[Paired.length p1,ai];exact z1
 have len2:xs2.length<=100:=by rw[Paired.length p2,ai];exact z2
 refine⟨a,b,xs1,xs2,rfl,rfl,s2 _ _ g1,g2,cM (am (by omega)),fun c hc=>?_⟩;refine⟨(by show 1<=aj;decide),fun d hd=>?_⟩;refine⟨c,d,_,_,rfl,rfl,kp aa hd,aa,?_,fun e he=>k e _ _ ?_ ?_ aa⟩
 ·rw[bf];show _+1<=aj;exact cM (am (by omega))
 ·have sx:ab H2 (upd (upd (upd H2 c (.lst (xs1++xs2))) d (.lst [.ref st])) e (.lst (xs1++xs2++[.ref st]))):=((ab.new hc).trans (ab.new hd)).trans (ab.new he);exact Paired.app (Paired.app (Signs.same (s2.trans sx) p1) (Signs.same sx p2)) (.cons ⟨st,rfl,hst _⟩ .nil)
 ·exact(((s1.trans s2).trans (ab.new hc)).trans (ab.new hd)).trans (ab.new he)
def z7(J2:Zb)(sgs:List (List Str)):Nat->List ak->List ak->Option Nat
 |_,_,[]=>none
 |i,ahead,d::ds=>if i=2000∨d∈ahead∨d.a∉J2∨d.sg∉sgs∨d.b∉J2 then some i else z7 J2 sgs (i+1) (ahead++[d]) ds
inductive sp_first_wrong_door(K:Za)(vs:List V)(H:Hp)(Q:VK)(E:XK):Prop
 |mk (l l3 sl:Addr) (ts:Ze) (ds:List ak) (J2:Zb) (xs:List V) (sgs:List (List Str)):(vs=[.ref l,.ref l3,.ref sl])->(H l=some (.lst (ts.map V.ref)))->(cD H ts ds)->(H l3=some (.lst (J2.map V.str)))->(J2.length<=1000)->(H sl=some (.lst xs))->(Paired (j9 K H) xs sgs)->(ds.length<=9000)->(∀H',ab H H'->Q (oV (z7 J2 sgs 0 [] ds)) H')->sp_first_wrong_door K vs H Q E
theorem cg{ws:Ze}{i:Nat}{x:V}(h:(ws.map V.ref)[i]?=some x):∃w,ws[i]?=some w/\x=.ref w:=by
 rw[gJ]at h;cases q:ws[i]? with
 |none=>rw[q]at h;cases h
 |some r=>rw[q]at h;exact⟨r,rfl,(da h).symm⟩
theorem jz{K:Za}{vs:List V}{H:Hp}{Q:VK}{E:XK}(h:sp_first_wrong_door K vs H Q E):jQ K (sp_as_keys K) (bc Q) (start ke vs) H:=by
 obtain⟨l,l3,sl,ts,ds,J2,xs,sgs,rfl,hl,hds,h3,hr,hsl,hsg,hz,k⟩:=h;refine⟨_,rfl,l9 (ay.of h3) hr fun d hd=>?_⟩;refine fun e he=>?_;have hS0:ab H (upd (upd H d (.dK (aA J2))) e (.dT [])):=(ab.new hd).trans (ab.new he);have heH:H e=none:=(ab.new hd).free he;refine⟨_,rfl,l,rfl,⟨_,ay.of (hS0 _ _ hl)⟩,?_⟩;refine iY (xs:=ts.map V.ref) (fun i σ H'=>∃x y,σ=[some (.ref l),some (.ref l3),some (.ref sl),some (.ref d),some (.ref e),x,y]/\ab H H'/\H' d=some (.dK (aA J2))/\H' e=some (.dT (iw ((ds.take i).map wf)))/\z7 J2 sgs i (ds.take i) (ds.drop i)=z7 J2 sgs 0 [] ds)
  ⟨_,_,rfl,hS0,kp aa he,aa,rfl⟩ (fun i σ H' _ ⟨_,_,_,hS,_⟩=>ay.of (hS _ _ hl)) ?_ ?_
 ·rintro i x σ H' q hi ⟨x5,x6,rfl,hS,hd',he',hf⟩ hq;obtain⟨t,ht,rfl⟩:=cg hi;obtain⟨dr,hdr,hat⟩:=Paired.getL hds ht;have hil:i<ds.length:=(bT.mp hdr).1;have ed:ds.drop i=dr::ds.drop (i+1):=by
   rw[List.drop_eq_getElem_cons hil];congr 1;exact(bT.mp hdr).2
  rw[ed]at hf;have hS2:ab H (upd H' q (.tup [.int i,.ref t])):=hS.trans (ab.new hq);have hd2:upd H' q (.tup [.int i,.ref t]) d=_:=kp hd' hq;have he2:upd H' q (.tup [.int i,.ref t]) e=_:=kp he' hq;refine⟨q,_,rfl,bE.of aa,rfl,_,_,rfl,_,_,rfl,rfl,?_⟩;generalize upd H' q (.tup [.int i,.ref t])=H2 at hd2 he2 hS2 ⊢;have hat2:=hat.kt (ab.kt hS2);have hin:jA K H2 (wf dr) (.ref t):=cC.isIn 8 (by rw[pS];decide) hat2.tk;have hd8:(wf dr).depth<=8:=by rw[pS];decide
  obtain⟨s,ht2,hs2⟩:=hat2;have bad:(i=2000∨dr∈ds.take i∨dr.a∉J2∨dr.sg∉sgs∨dr.b∉J2)->Q (.int i) H2:=by
   intro c;have:=k H2 hS2;rw[<-hf]at this;unfold z7 at this;rw[if_pos c]at this;exact this
  refine⟨_,rfl,rfl,_,rfl,?_⟩;by_cases c1:i=2000
  ·have e1:decide (V.int (i:Nat)=V.int 2000)=true:=zzr1 (by rw[c1];rfl);rw[e1];exact cA (cA ⟨_,rfl,bad (.inl c1)⟩)
  have e1:decide (V.int (i:Nat)=V.int 2000)=false:=zzr0 (fun z=>c1 (by injection z with z;omega));rw[e1];refine cB ?_;refine⟨_,rfl,_,rfl,e,_,rfl,.inr ⟨_,wf dr,t,.inl he2,rfl,hin,hd8,rfl⟩,_,rfl,?_⟩;rw[yE];by_cases c2:dr∈ds.take i
  ·rw[zzr1 (vZ.mpr c2)];exact cA ⟨_,rfl,bad (.inr (.inl c2))⟩
  rw[zzr0 (fun z=>c2 (vZ.mp z))];refine cB ?_;refine⟨_,rfl,.inr (.inl ⟨t,_,0,_,rfl,rfl,bE.of ht2,rfl,_,rfl,d,_,rfl,.inl ⟨_,.inr dr.a,.inl hd2,rfl,rfl⟩,_,rfl,?_⟩)⟩;rw[cY];by_cases c3:dr.a∈J2;rotate_left
  ·rw[zzr0 c3];exact cA (cA ⟨_,rfl,bad (.inr (.inr (.inl c3)))⟩)
  rw[zzr1 c3];refine cB ?_;refine⟨_,rfl,.inr (.inl ⟨t,_,1,_,rfl,rfl,bE.of ht2,rfl,_,rfl,lY dr.sg,sgs.map lY,sl,xs,bD (bE.of hs2),rfl,.inl (ay.of (hS2 _ _ hsl)),Signs.dIns (Signs.same hS2 hsg),by rw[b9];decide,xa _,_,rfl,?_⟩)⟩;rw[if_pos rfl];by_cases c4:dr.sg∈sgs;rotate_left
  ·rw[zzr0 (fun z=>c4 (vY.mp z))];exact cA (cA ⟨_,rfl,bad (.inr (.inr (.inr (.inl c4))))⟩)
  rw[zzr1 (vY.mpr c4)];refine cB ?_;refine⟨_,rfl,.inr (.inl ⟨t,_,2,_,rfl,rfl,bE.of ht2,rfl,_,rfl,d,_,rfl,.inl ⟨_,.inr dr.b,.inl hd2,rfl,rfl⟩,_,rfl,?_⟩)⟩;rw[cY];by_cases c5:dr.b∈J2;rotate_left
  ·rw[zzr0 c5];exact cA ⟨_,rfl,bad (.inr (.inr (.inr (.inr c5))))⟩
  rw[zzr1 c5];refine cB ?_;have hlen:(iw ((ds.take i).map wf)).length<aj:=em (aJ (wX _) (by rw[ai,aL];omega));refine⟨_,rfl,_,rfl,e,_,rfl,.inr ⟨_,wf dr,t,he2,rfl,ga.tk ⟨s,ht2,hs2⟩,hd8,hlen,rfl⟩,_,_,rfl,?_,?_,?_,?_⟩
  ·intro b o q;rw[ah (ac q heH)];exact hS2 _ _ q
  ·rw[ah (fun z=>by rw[z,he2]at hd2;cases hd2)];exact hd2
  ·rw[aa,take_snoc hdr,ap];exact congrArg (fun z=>some (HO.dT z)) (j4 _ _).symm
  ·rw[<-hf,take_snoc hdr]
   conv=>rhs;unfold z7
   rw[if_neg];rintro(z|z|z|z|z)
   ·exact c1 z
   ·exact c2 z
   ·exact z c3
   ·exact z c4
   ·exact z c5
 ·rintro σ H' ⟨x,y,rfl,hS,_,_,hf⟩;have:=k H' hS;rw[<-hf,ai,Paired.length hds,List.drop_length]at this;exact this
theorem tR{J2:Zb}{sgs:List (List Str)}:∀(ds ahead:List ak) (i:Nat),i+ds.length<=2000->(ahead++ds).Nodup->(∀d∈ds,d.a∈J2/\d.sg∈sgs/\d.b∈J2)->z7 J2 sgs i ahead ds=none
 |[],_,_,_,_,_=>rfl
 |n::ns,ahead,i,h1,h2,h3=>by
  rw[d_]at h1;unfold z7;rw[if_neg]
  ·refine tR ns (ahead++[n]) (i+1) (by omega) (by rw[dL];exact h2) fun w hw=>h3 w (eQ _ hw)
  ·have:=h3 n eR;rintro(z|z|z|z|z)
   ·omega
   ·rw[cG]at h2;exact h2.2.2 n z n (eR) rfl
   ·exact z this.1
   ·exact z this.2.1
   ·exact z this.2.2
inductive sp_need_none (vs:List V)(H:Hp)(Q:VK)(E:XK):Prop
 |mk (x:V):(vs=[x,.non])->(Q .non H)->sp_need_none  vs H Q E
theorem rm{K:Za}{vs:List V}{H:Hp}{Q:VK}{E:XK}(h:sp_need_none vs H Q E):sJ K (bc Q) (start t8 vs) H:=by
 obtain⟨x,rfl,k⟩:=h;refine⟨_,rfl,_,rfl,?_⟩;have e:(!decide (V.non=V.non))=false:=by rw[zzr1 rfl];rfl
 rw[e];exact cB k
structure Lists(H:Hp)(l1 l2 l3 l4:Addr)(ts:Ze)(J0 J1 J2:Zb)(ds:List ak):Prop where
 a1:H l1=some (.lst (J0.map V.str))
 a2:H l2=some (.lst (J1.map V.str))
 a3:H l3=some (.lst (J2.map V.str))
 a4:H l4=some (.lst (ts.map V.ref))
 ds:cD H ts ds
theorem Lists.same{H H':Hp}{l1 l2 l3 l4:Addr}{ts:Ze}{J0 J1 J2:Zb}{ds:List ak}(h:Lists H l1 l2 l3 l4 ts J0 J1 J2 ds)(e:ab H H'):Lists H' l1 l2 l3 l4 ts J0 J1 J2 ds :=
 ⟨e _ _ h.a1,e _ _ h.a2,e _ _ h.a3,e _ _ h.a4,h.ds.kt (ab.kt e)⟩
inductive sp_need_parts (vs:List V)(H:Hp)(Q:VK)(E:XK):Prop
 |mk (l1 l2 l3 l4:Addr) (ts:Ze) (J0 J1 J2:Zb) (ds:List ak):(vs=[.ref l1,.ref l2,.ref l3,.ref l4])->(Lists H l1 l2 l3 l4 ts J0 J1 J2 ds)->(bH J0 J1 J2 ds)->(∀H',ab H H'->Q .non H')->sp_need_parts  vs H Q E
theorem bH.signs{J0 J1 J2:Zb}{ds:List ak}(m:bH J0 J1 J2 ds):∀d∈ds,d.a∈J2/\d.sg∈g6 J0 J1/\d.b∈J2:=by
 intro d hd;have g:=m.good d hd;refine⟨g.a,?_,g.b⟩;unfold g6;rcases g.sg with⟨w,hw,e⟩|⟨w,hw,e⟩|e
 ·rw[e];exact cz _ (cz _ (aE.mpr ⟨w,hw,rfl⟩))
 ·rw[e];exact cz _ (cL _ (aE.mpr ⟨w,hw,rfl⟩))
 ·rw[e];exact cL _ (by simp[aG])
theorem lU{ws:Zb}(h:js ws):∀w∈ws,w.length<=1000:=fun w hw=>aJ (h.2 w hw).hi (by decide)
theorem pr{K:Za}{vs:List V}{H:Hp}{Q:VK}{E:XK}(h:sp_need_parts vs H Q E):qO K sp_need_none (sp_first_wrong_door K) (sp_door_signs K) (sp_first_wrong_name K) (bc Q) (start si vs) H:=by
 obtain⟨l1,l2,l3,l4,ts,J0,J1,J2,ds,rfl,L,m,k⟩:=h;have w1:bQ J0 4 []=none:=eZ m.asks0 m.asks4 m.okA.1 m.okA.2;have w2:bQ J1 4 J0=none:=eZ m.says0 m.says4 (by
  rw[cG];exact⟨m.okA.1,m.okS.1,fun a ha b hb e=>m.apart b hb (e▸ha)⟩) m.okS.2
 have w3:bQ J2 150 []=none:=eZ m.rooms0 (by have:=m.rooms26;omega) m.okR.1 m.okR.2;have w4:z7 J2 (g6 J0 J1) 0 [] ds=none:=tR ds [] 0 (by have:=m.few;omega) m.nodup m.signs;have z1:=m.asks4;have z2:=m.says4;have z3:=m.rooms26;have z4:=m.few;refine⟨_,rfl,(by show 0<=aj;decide),fun e he=>⟨l1,e,J0,[],4,rfl,ay.of (kp L.a1 he),ay.of aa,by simp;omega,lU m.okA,fun H1 s1=>?_⟩⟩;rw[w1];refine⟨_,rfl,?_⟩;have S1:=(ab.new he).trans s1;refine⟨_,rfl,_,rfl,l2,l1,J1,J0,4,rfl,ay.of (S1 _ _ L.a2),ay.of (S1 _ _ L.a1),by omega,lU m.okS,fun H2 s2=>?_⟩;rw[w2];refine⟨_,rfl,?_⟩;have S2:=S1.trans s2;refine⟨_,rfl,(by show 0<=aj;decide),fun e he=>⟨l3,e,J2,[],150,rfl,ay.of (kp (S2 _ _ L.a3) he),ay.of aa,by simp;omega,lU m.okR,fun H3 s3=>?_⟩⟩;rw[w3];refine⟨_,rfl,?_⟩;have S3:=(S2.trans (ab.new he)).trans s3;refine⟨_,rfl,_,rfl,_,rfl,_,rfl,l1,l2,J0,J1,rfl,S3 _ _ L.a1,S3 _ _ L.a2,by omega,by omega,fun sl xs H4 hx s4 hsl=>?_⟩;have S4:=S3.trans s4;have L4:=L.same S4;refine⟨l4,l3,sl,ts,ds,J2,xs,g6 J0 J1,rfl,L4.a4,L4.ds,L4.a3,by omega,hsl,hx,by omega,fun H5 s5=>?_⟩;rw[w4];exact⟨_,rfl,k H5 (S4.trans s5)⟩
section
variable{κ ι:Type}[DecidableEq κ]{e:ι->κ}
def cw(e:ι->κ)(ps:List (ι×Addr)):List (κ×V):=ps.map fun x=>(e x.1,V.ref x.2)
theorem jm(inj:∀x y,e x=e y->x=y){i:ι}:∀{ps:List (ι×Addr)},i∉ps.map (·.1)->aR (cw e ps) (e i)=none
 |[],_=>rfl
 |x::ps,h=>by
  rw[a_,c_]at h;show aR ((e x.1,V.ref x.2)::cw e ps) (e i)=none;rw[bU (fun z=>h (.inl (inj _ _ z).symm))];exact jm inj (fun z=>h (.inr z))
theorem cX(inj:∀x y,e x=e y->x=y){i:ι}{a:Addr}:∀{ps:List (ι×Addr)},(ps.map (·.1)).Nodup->(i,a)∈ps->aR (cw e ps) (e i)=some (.ref a)
 |[],_,h=>by cases h
 |x::ps,nd,h=>by
  rw[a_,nH]at nd;show aR ((e x.1,V.ref x.2)::cw e ps) (e i)=_;rcases c_.mp h with h|h
  ·rw[<-h];exact cb rfl
  ·rw[bU (fun z=>nd.1 (by rw[inj _ _ z];exact aE.mpr ⟨_,h,rfl⟩))];exact cX inj nd.2 h
theorem pZ(ps:List (ι×Addr))(i:ι)(a:Addr):cw e (ps++[(i,a)])=cw e ps++[(e i,.ref a)]:=by
 unfold cw;rw[ap]
 rfl
end
structure DL{ι:Type}(H0 H:Hp)(d:Addr)(ps:List (ι×Addr)):Prop where
 nd:(ps.map (·.1)).Nodup
 na:(ps.map (·.2)).Nodup
 fr:∀x∈ps,H0 x.2=none
 frd:H0 d=none
 ned:∀x∈ps,x.2≠d
 same:ab H0 H
theorem DL.snoc{ι:Type}{H0 H H':Hp}{d:Addr}{ps:List (ι×Addr)}{i:ι}{a:Addr}(h:DL H0 H d ps)(hi:i∉ps.map (·.1))(ha:∀x∈ps,x.2≠a)(fr:H0 a=none)(nd:a≠d)(s:ab H0 H'):DL H0 H' d (ps++[(i,a)]):=by
 refine⟨?_,?_,?_,h.frd,?_,s⟩
 ·rw[ap,cG];refine⟨h.nd,by simp,fun x hx y hy e=>?_⟩;have:y=i:=by simpa using hy
  exact hi (by rw[<-this,<-e];exact hx)
 ·rw[ap,cG];refine⟨h.na,by simp,fun x hx y hy e=>?_⟩;have:y=a:=by simpa using hy
  obtain⟨z,hz,rfl⟩:=aE.mp hx;exact ha z hz (e.trans this)
 ·intro x hx;rcases aU.mp hx with hx|hx
  ·exact h.fr x hx
  ·have:x=(i,a):=by simpa using hx
   rw[this];exact fr
 ·intro x hx;rcases aU.mp hx with hx|hx
  ·exact h.ned x hx
  ·have:x=(i,a):=by simpa using hx
   rw[this];exact nd
theorem yB{ι:Type}:∀{ps:List (ι×Addr)},(ps.map (·.2)).Nodup->∀{x y:ι×Addr},x∈ps->y∈ps->x.2=y.2->x=y
 |[],_,x,_,h,_,_=>by cases h
 |p::ps,nd,x,y,hx,hy,e=>by
  rw[a_,nH]at nd;rcases c_.mp hx with hx'|hx'<;>rcases c_.mp hy with hy'|hy'
  ·rw[hx',hy']
  ·exact absurd (aE.mpr ⟨y,hy',by rw[<-e,hx']⟩) nd.1
  ·exact absurd (aE.mpr ⟨x,hx',by rw[e,hy']⟩) nd.1
  ·exact yB nd.2 hx' hy' e
theorem gA:∀x y:Str,(Sum.inr x:di)=Sum.inr y->x=y:=fun x y h=>by injection h
def bu(ds:List ak)(r:Str):List ak:=ds.filter fun d=>decide (d.a=r)
inductive sp_doors_by_start (vs:List V)(H:Hp)(Q:VK)(E:XK):Prop
 |mk (l3 l4:Addr) (ts:Ze) (J2:Zb) (ds:List ak):(vs=[.ref l3,.ref l4])->(H l3=some (.lst (J2.map V.str)))->(H l4=some (.lst (ts.map V.ref)))->(cD H ts ds)->(J2.Nodup)->(J2.length<=1000)->(ds.length<=9000)->((∀d∈ds,d.a∈J2))->(∀(d:Addr) (ps:List (Str×Addr)) (H':Hp),ps.map (·.1)=J2->H' d=some (.dK (cw Sum.inr ps))->(∀x∈ps,∃us,H' x.2=some (.lst (us.map V.ref))/\cD H' us (bu ds x.1))->ab H H'->Q (.ref d) H')->sp_doors_by_start  vs H Q E
def iW(d:ak):Bool:=match d.sg with
 |s::_=>decide (s=("ask":Str))
 |[]=>false
inductive sp_has_asks_alone (vs:List V)(H:Hp)(Q:VK)(E:XK):Prop
 |mk (a:Addr) (us:Ze) (ds:List ak):(vs=[.ref a])->(H a=some (.lst (us.map V.ref)))->(cD H us ds)->(ds.length<=9000)->((∀d∈ds,d.sg≠[]))->(∀H',ab H H'->Q (.bl (ds.all iW)) H')->sp_has_asks_alone  vs H Q E
theorem kW{K:Za}{vs:List V}{H:Hp}{Q:VK}{E:XK}(h:sp_has_asks_alone vs H Q E):lI K (bc Q) (start me vs) H:=by
 obtain⟨a,us,ds,rfl,ha,hds,hz,hne,k⟩:=h;refine⟨_,rfl,a,rfl,⟨_,ay.of ha⟩,fun l hl=>?_⟩;refine bN (xs:=us.map V.ref) (fun i vs H'=>vs=(ds.take i).map (fun d=>V.bl (iW d))/\ab H H'/\H' l=some (.lst vs))
  ⟨rfl,ab.new hl,aa⟩ (fun i vs H' _ ⟨_,hS,h'⟩=>⟨h',ay.of (hS _ _ ha)⟩) ?_ ?_
 ·rintro vs H' ⟨rfl,hS,h'⟩;rw[ai,Paired.length hds,aX]at h';refine⟨l,ds.map iW,rfl,ay.of (by rw[h',iH];rfl),?_⟩;rw[List.all_map];exact k H' hS
 ·rintro i vs H' x hx hi ⟨rfl,hS,h'⟩;obtain⟨t,ht,rfl⟩:=cg hx;obtain⟨dr,hdr,hat⟩:=Paired.getL hds ht;obtain⟨s,ht2,hs2⟩:=hat.kt (ab.kt hS);have hmem:=dB hdr;obtain⟨s0,rest,hsg⟩:∃s0 rest,dr.sg=s0::rest:=by
   cases q:dr.sg with
   |nil=>exact absurd q (hne dr hmem)
   |cons x y=>exact⟨x,y,rfl⟩
  unfold SignAt at hs2;rw[hsg]at hs2;refine gN (qK ?_);refine⟨_,rfl,.inr (.inl ⟨t,_,1,_,rfl,rfl,bE.of ht2,rfl,.inr (.inl ⟨s,_,0,.str s0,rfl,rfl,bE.of hs2,fF (j:=0) rfl,rfl,h',?_,lT hi ⟨?_,?_,aa⟩⟩)⟩)⟩
  ·rw[ai,aL];exact em (by omega)
  ·rw[take_snoc hdr,ap];congr 1;show[V.bl _]=[V.bl _];congr 2;unfold iW;rw[hsg];show decide (V.str s0=V.str _)=decide (s0=_);by_cases c:s0=("ask":Str)
   ·rw[zzr1 c,zzr1 (by rw[c])]
   ·rw[zzr0 c,zzr0 (fun z=>c (by injection z))]
  ·intro b o e;rw[ah (ac e hl)];exact hS _ _ e
def o8(x:Str×List Str):TK:=.t [kR x.1,eW x.2]
theorem fx:∀x y:Str×List Str,o8 x=o8 y->x=y:=by
 intro x y h;unfold o8 at h;injection h with h;injection h with h1 h;injection h with h2 h;cases x;cases y;simp only at *;rw[nA h1,fC h2]
theorem jj(x:Str×List Str):(o8 x).depth<=8:=by
 show max (TK.depth (kR x.1)) (max (TK.depth (eW x.2)) 0)+1<=8;rw[gR];show max 0 (max 1 0)+1<=8
 decide
def aS(ds:List ak)(x:Str×List Str):List Str:=(ds.filter fun d=>decide (d.a=x.1/\d.sg=x.2)).map (·.b)
theorem rS(ds:List ak)(d:ak)(x:Str×List Str):aS (ds++[d]) x=aS ds x++(if(d.a,d.sg)=x then[d.b]else[]):=by
 unfold aS;rw[fM,ap];congr 1;by_cases c:(d.a,d.sg)=x
 ·subst c;simp
 ·rw[if_neg c];have:¬(d.a=x.1/\d.sg=x.2):=fun z=>c (by cases x;simp only at z;rw[z.1,z.2]);simp[List.filter_cons];intro h1 h2;exact this ⟨h1,h2⟩
theorem iX{ds:List ak}{x:Str×List Str}(h:∀d∈ds,(d.a,d.sg)≠x):aS ds x=[]:=by
 unfold aS;rw[List.map_eq_nil_iff,List.filter_eq_nil_iff];intro d hd;have:¬(d.a=x.1/\d.sg=x.2):=fun z=>h d hd (by cases x;simp only at z;rw[z.1,z.2]);simp;intro h1 h2;exact this ⟨h1,h2⟩
theorem eU{ds:List ak}{x:Str×List Str}{b:Str}:b∈aS ds x↔(⟨x.1,x.2,b⟩:ak)∈ds:=by
 unfold aS;rw[aE];constructor
 ·rintro⟨d,hd,rfl⟩;rw[dC]at hd;obtain⟨h1,h2⟩:=hd;obtain⟨h3,h4⟩:=of_decide_eq_true h2;cases d;simp only at h3 h4;rw[<-h3,<-h4];exact h1
 ·intro h;exact⟨_,dC.mpr ⟨h,zzr1 ⟨rfl,rfl⟩⟩,rfl⟩
structure ib(H:Hp)(g:Addr)(ps:List ((Str×List Str)×Addr))(ds:List ak):Prop where
 nd:(ps.map (·.1)).Nodup
 g:H g=some (.dT (cw o8 ps))
 ls:∀x∈ps,H x.2=some (.lst ((aS ds x.1).map V.str))
 all:∀d∈ds,(d.a,d.sg)∈ps.map (·.1)
theorem ib.same{H H':Hp}{g:Addr}{ps:List ((Str×List Str)×Addr)}{ds:List ak}(h:ib H g ps ds)(s:ab H H'):ib H' g ps ds:=⟨h.nd,s _ _ h.g,fun x hx=>s _ _ (h.ls x hx),h.all⟩
theorem k4:∀{L R:Zb},L.Nodup->(∀y∈L,y∈R)->L.length<=R.length
 |[],_,_,_=>ee _
 |x::L,R,nd,h=>by
  rw[nH]at nd;have hx:=h x eR;have:=k4 (L:=L) (R:=R.erase x) nd.2 fun y hy=>(List.mem_erase_of_ne (fun e:y=x=>nd.1 (by rw[<-e];exact hy))).mpr (h y (eQ _ hy));rw[List.length_erase_of_mem hx]at this;have:0<R.length:=List.length_pos_of_mem hx;rw[d_];omega
theorem Reach.in_{ds:List ak}{a b:Str}{J2:Zb}(hr:∀d∈ds,d.b∈J2)(h:Reach ds a b):b∈J2:=by
 cases h with
 |one h=>exact hr _ h
 |step r h=>exact hr _ h
inductive rg (vs:List V)(H:Hp)(Q:VK)(E:XK):Prop
 |mk (g:Addr) (room:Str) (ps:List ((Str×List Str)×Addr)) (ds:List ak) (J2:Zb):(vs=[.ref g,.str room])->(ib H g ps ds)->((∀d∈ds,d.b∈J2))->(J2.length<=1000)->(∀(d:Addr) (L:Zb) (H':Hp),H' d=some (.dK (aA L))->L.Nodup->(∀w,w∈L↔Reach ds room w)->H d=none->ab H H'->Q (.ref d) H')->rg  vs H Q E
structure Bk(H0 H:Hp)(ds:List ak)(room:Str)(d w:Addr)(L W:Zb)(open_:Str->Prop):Prop where
 d:H d=some (.dK (aA L))
 w:H w=some (.lst (W.map V.str))
 same:ab H0 H
 nd:L.Nodup
 sound:∀y∈L,Reach ds room y
 wait:∀y∈W,y=room∨y∈L
 closed:∀y,(y=room∨y∈L)->y∉W->¬open_ y->∀c∈aS ds (y,aG),c∈L
theorem mZ{K:Za}{st:Addr}(hst:∀H,bE K H st (aG.map V.str)){vs:List V}{H:Hp}{Q:VK}{E:XK}(h:rg vs H Q E):n5 K st (bc Q) (start oY vs) H:=by
 obtain⟨g,room,ps,ds,J2,rfl,G,hin,hz,k⟩:=h;refine fun d hd=>?_;refine⟨_,rfl,(by show 1<=aj;decide),fun w hw=>?_⟩;have hwH:H w=none:=(ab.new hd).free hw;have hdw:d≠w:=ac aa hw;refine⟨fun m σ H'=>∃(L W:Zb) (x y:Option V),σ=[some (.ref g),some (.str room),some (.ref d),some (.ref w),x,y]/\Bk H H' ds room d w L W (fun _=>False)/\m=2 * (J2.length-L.length)+W.length/\m<=2 * J2.length+1,
  ⟨_,[],[room],_,_,rfl,⟨kp aa hw,aa,(ab.new hd).trans (ab.new hw),nW,by simp,by simp,?_⟩,rfl,ax _⟩,?_⟩
 ·intro y hy hn;rcases hy with rfl|hy
  ·simp at hn
  ·cases hy
 rintro m σ H1 ⟨L,W,x4,x5,rfl,D,rfl,hbound⟩;have lenL:∀{L':Zb},L'.Nodup->(∀y∈L',Reach ds room y)->L'.length<=J2.length:=fun nd sd=>k4 nd fun y hy=>(sd y hy).in_ hin;refine⟨_,rfl,.inl ⟨w,_,rfl,.inl (ay.of D.w),_,_,rfl,rfl,_,rfl,?_⟩⟩;refine iV (fun hpos=>?_) (fun hpos=>?_)
 ·have hne:W≠[]:=by
   intro z;rw[z]at hpos;exact absurd (of_decide_eq_true hpos) (by decide)
  obtain⟨W',here,rfl⟩:∃W' here,W=W'++[here]:=⟨W.dropLast,W.getLast hne,(List.dropLast_concat_getLast hne).symm⟩;have hhere:here=room∨here∈L:=D.wait here (by simp);refine⟨fun σ' H'=>∃(L' W2:Zb) (x y:Option V),σ'=[some (.ref g),some (.str room),some (.ref d),some (.ref w),x,y]/\Bk H H' ds room d w L' W2 (fun _=>False)/\2 * (J2.length-L'.length)+W2.length<2 * (J2.length-L.length)+(W'++[here]).length,
   fun σ' H' ⟨L',W2,x,y,e,D',hm⟩=>⟨_,hm,L',W2,x,y,e,D',rfl,by omega⟩,?_⟩
  have hlast:((W'++[here]).map V.str)[((W'++[here]).map V.str).length-1]?=some (.str here):=by simp
  have hdrop:((W'++[here]).map V.str).dropLast=W'.map V.str:=by rw[ap];simp
  refine⟨_,rfl,.inl ⟨rfl,_,ay.of D.w⟩,w,_,_,rfl,rfl,D.w,hlast,?_⟩;rw[hdrop];have hd1:upd H1 w (.lst (W'.map V.str)) d=some (.dK (aA L)):=by rw[ah hdw];exact D.d
  have hw1:upd H1 w (.lst (W'.map V.str)) w=some (.lst (W'.map V.str)):=aa;have S1:ab H (upd H1 w (.lst (W'.map V.str))):=fun b o q=>by rw[ah (ac q hwH)];exact D.same _ _ q
  generalize upd H1 w (.lst (W'.map V.str))=H2 at hd1 hw1 S1 ⊢;have G2:=G.same S1;refine⟨_,rfl,g,rfl,.inr ⟨_,.inl G2.g⟩,_,rfl,(by show 2<=aj;decide),fun kt hkt=>⟨(by show 0<=aj;decide),fun et het=>⟨aR (cw o8 ps) (o8 (here,aG)),.inr ⟨_,o8 (here,aG),kt,.inl ?_,rfl,?_,jj _,rfl⟩,?_⟩⟩⟩
  ·exact kp (kp G2.g hkt) het
  ·unfold o8 jA;refine⟨kt,_,rfl,bE.of (kp aa het),?_⟩;unfold TKIns;refine⟨_,_,rfl,?_,?_⟩
   ·unfold kR jA;rfl
   unfold TKIns;refine⟨_,_,rfl,?_,?_⟩
   ·unfold eW jA;refine⟨st,_,rfl,hst _,?_⟩;unfold aG;show TKIns K _ [kR _] [V.str _];unfold TKIns;refine⟨_,_,rfl,?_,?_⟩
    ·unfold kR jA;rfl
    unfold TKIns;rfl
   unfold TKIns;rfl
  have S3:ab H2 (upd (upd H2 kt (.tup [.str here,.ref st])) et (.tup [])):=(ab.new hkt).trans (ab.new het);have het3:upd (upd H2 kt (.tup [.str here,.ref st])) et (.tup []) et=some (.tup []):=aa;generalize upd (upd H2 kt (.tup [.str here,.ref st])) et (.tup [])=H3 at S3 het3 ⊢;have D3:Bk H H3 ds room d w L W' (fun y=>y=here):=⟨S3 _ _ hd1,S3 _ _ hw1,S1.trans S3,D.nd,D.sound,fun y hy=>D.wait y (cz _ hy),fun y hy hn ho=>D.closed y hy (fun z=>by rcases aU.mp z with z|z;exact hn z;exact ho (by simpa using z)) (fun z=>z)⟩;have hm3:2 * (J2.length-L.length)+W'.length<2 * (J2.length-L.length)+(W'++[here]).length:=by rw[bf];show _<_+(_+1);omega
  have fin:∀(H4:Hp) (L' W2:Zb) (x y:Option V),Bk H H4 ds room d w L' W2 (fun y=>y=here)->(∀c∈aS ds (here,aG),c∈L')->2 * (J2.length-L'.length)+W2.length<2 * (J2.length-L.length)+(W'++[here]).length ->
    ∃(L' W2:Zb) (x' y':Option V),[some (V.ref g),some (.str room),some (.ref d),some (.ref w),x,y]=[some (.ref g),some (.str room),some (.ref d),some (.ref w),x',y']/\Bk H H4 ds room d w L' W2 (fun _=>False)/\2 * (J2.length-L'.length)+W2.length<2 * (J2.length-L.length)+(W'++[here]).length:=by
   intro H4 L' W2 x y D4 hc hm;refine⟨L',W2,x,y,rfl,⟨D4.d,D4.w,D4.same,D4.nd,D4.sound,D4.wait,fun y hy hn _=>?_⟩,hm⟩;by_cases e:y=here
   ·rw[e];exact hc
   ·exact D4.closed y hy hn e
  by_cases hmem:(here,aG)∈ps.map (·.1)
  ·obtain⟨⟨r,a⟩,hra,er⟩:=aE.mp hmem;obtain rfl:r=(here,aG):=er;rw[cX fx G.nd hra];have hla:=G.ls _ hra;refine⟨a,rfl,.inl ⟨⟨_,ay.of ((S1.trans S3) _ _ hla)⟩,?_⟩⟩;refine bP (xs:=(aS ds (here,aG)).map V.str) (fun j σ H'=>∃(L' W2:Zb) (y:Option V),σ=[some (.ref g),some (.str room),some (.ref d),some (.ref w),some (.str here),y]/\Bk H H' ds room d w L' W2 (fun y=>y=here)/\(here=room∨here∈L')/\(∀c∈(aS ds (here,aG)).take j,c∈L') /\
     2 * (J2.length-L'.length)+W2.length<2 * (J2.length-L.length)+(W'++[here]).length)
    ⟨L,W',_,rfl,D3,hhere,by simp,hm3⟩ (fun j σ H' _ ⟨_,_,_,_,D',_⟩=>ay.of (D'.same _ _ hla)) ?_ ?_
   ·rintro j x σ H4 hj ⟨L',W2,y,rfl,D4,hh,hc,hm⟩;obtain⟨goal,hgoal,rfl⟩:=bz hj;have hedge:(⟨here,aG,goal⟩:ak)∈ds:=eU.mp (dB hgoal);have hreach:Reach ds room goal:=by
     rcases hh with hh|hh
     ·rw[hh]at hedge;exact .one hedge
     ·exact .step (D4.sound _ hh) hedge
    have hlen':=lenL D4.nd D4.sound;refine⟨_,rfl,_,rfl,d,_,rfl,.inl ⟨_,.inr goal,.inl D4.d,rfl,rfl⟩,_,rfl,?_⟩;rw[cY];by_cases c:goal∈L'
    ·rw[zzr1 c];refine cB ⟨L',W2,_,rfl,D4,hh,?_,hm⟩;intro c' hc';rw[take_snoc hgoal]at hc';rcases aU.mp hc' with h|h
     ·exact hc c' h
     ·have:c'=goal:=by simpa using h
      rw[this];exact c
    ·rw[zzr0 c];refine cA ?_;have nd':(L'++[goal]).Nodup:=by
      rw[cG];refine⟨D4.nd,by simp,fun a ha b hb e=>?_⟩;have:b=goal:=by simpa using hb
      exact c (by rw[<-this,<-e];exact ha)
     have sd':∀y∈L'++[goal],Reach ds room y:=by
      intro y hy;rcases aU.mp hy with hy|hy
      ·exact D4.sound y hy
      ·have:y=goal:=by simpa using hy
       rw[this];exact hreach
     have hlen2:=lenL nd' sd';rw[bf]at hlen2;have hlen3:L'.length+1<=J2.length:=hlen2;have hWl:W2.length<=9000:=by omega
     refine⟨_,rfl,_,rfl,d,_,rfl,.inl ⟨_,.inr goal,D4.d,rfl,am (aJ (h_ _) (by omega)),rfl⟩,?_⟩;have hw5:upd H4 d (.dK (cr (aA L') (.inr goal) (.bl true))) w=some (.lst (W2.map V.str)):=by rw[ah hdw.symm];exact D4.w
     refine⟨_,rfl,.inl ⟨rfl,_,ay.of hw5⟩,_,rfl,w,_,_,rfl,rfl,hw5,by rw[ai];exact em hWl,L'++[goal],W2++[goal],_,rfl,⟨?_,?_,?_,nd',sd',?_,?_⟩,?_,?_,?_⟩
     ·rw[ah hdw,aa,cp]
     ·rw[aa,ap];rfl
     ·intro b o q;rw[ah (ac q hwH),ah (ac q hd)];exact D4.same _ _ q
     ·intro y hy;rcases aU.mp hy with hy|hy
      ·rcases D4.wait y hy with h|h
       ·exact .inl h
       ·exact .inr (cz _ h)
      ·exact .inr (cL _ hy)
     ·intro y hy hn ho c' hc';have hn1:y∉W2:=fun z=>hn (cz _ z);have hyg:y≠goal:=fun z=>hn (cL _ (by simp[z]));refine cz _ (D4.closed y ?_ hn1 ho c' hc');rcases hy with hy|hy
      ·exact .inl hy
      ·rcases aU.mp hy with hy|hy
       ·exact .inr hy
       ·exact absurd (by simpa using hy) hyg
     ·rcases hh with h|h
      ·exact .inl h
      ·exact .inr (cz _ h)
     ·intro c' hc';rw[take_snoc hgoal]at hc';rcases aU.mp hc' with h|h
      ·exact cz _ (hc c' h)
      ·exact cL _ h
     ·rw[bf,bf];show 2 * (J2.length-(L'.length+1))+(W2.length+1)<_;omega
   ·rintro σ H4 ⟨L',W2,y,rfl,D4,hh,hc,hm⟩;rw[ai,aX]at hc;exact fin H4 L' W2 _ _ D4 hc hm
  ·rw[jm fx hmem];refine⟨et,rfl,.inr ⟨⟨_,bE.of het3⟩,?_⟩⟩;have hnil:aS ds (here,aG)=[]:=iX fun x hx z=>hmem (by rw[<-z];exact G.all x hx);refine v_ (xs:=[]) (fun j σ H'=>σ=[some (.ref g),some (.str room),some (.ref d),some (.ref w),some (.str here),x5]/\H'=H3) ⟨rfl,rfl⟩ (fun j σ H' _ ⟨_,e⟩=>by rw[e];exact bE.of het3) (fun j x σ H' hj=>by cases hj) ?_;rintro σ H' ⟨rfl,rfl⟩;exact fin _ L W' _ _ D3 (by rw[hnil];simp) hm3
 ·have hnil:W=[]:=by
   cases W with
   |nil=>rfl
   |cons a W=>exact absurd (zzr1 (by rw[ai,d_];omega)) hpos
  subst hnil;refine⟨_,rfl,k d L H1 D.d D.nd (fun w=>⟨D.sound w,fun hr=>?_⟩) hd D.same⟩
  induction hr with
  |one h=>exact D.closed room (.inl rfl) (by simp) (fun z=>z) _ (eU.mpr h)
  |step r h ih=>exact D.closed _ (.inr ih) (by simp) (fun z=>z) _ (eU.mpr h)
inductive sp_first_led_round (vs:List V)(H:Hp)(Q:VK)(E:XK):Prop
 |mk (l3 d:Addr) (J2:Zb) (ps:List (Str×Addr)):(vs=[.ref l3,.ref d])->(H l3=some (.lst (J2.map V.str)))->(H d=some (.dK (cw Sum.inr ps)))->(ps.map (·.1)=J2)->(J2.Nodup)->((∀x∈ps,∃L,H x.2=some (.dK (aA L))/\x.1∉L))->(∀H',ab H H'->Q .non H')->sp_first_led_round  vs H Q E
theorem jZ{K:Za}{vs:List V}{H:Hp}{Q:VK}{E:XK}(h:sp_first_led_round vs H Q E):kC K (bc Q) (start lm vs) H:=by
 obtain⟨l3,d,J2,ps,rfl,h3,hd,hps,nod,hL,k⟩:=h;refine⟨_,rfl,l3,rfl,⟨_,ay.of h3⟩,?_⟩;refine iY (xs:=J2.map V.str) (fun i σ H'=>∃x y,σ=[some (.ref l3),some (.ref d),x,y]/\ab H H') ⟨_,_,rfl,ab.refl H⟩ (fun i σ H' _ ⟨_,_,_,S⟩=>ay.of (S _ _ h3)) ?_ ?_
 ·rintro i x σ H' t hi ⟨x2,x3,rfl,S⟩ ht;obtain⟨w,hw,rfl⟩:=bz hi;refine⟨t,_,rfl,bE.of aa,rfl,_,_,rfl,_,_,rfl,rfl,?_⟩;have S2:ab H (upd H' t (.tup [.int i,.str w])):=S.trans (ab.new ht);generalize upd H' t (.tup [.int i,.str w])=H2 at S2 ⊢;have hmem:w∈ps.map (·.1):=by rw[hps];exact dB hw
  obtain⟨⟨r,a⟩,hra,er⟩:=aE.mp hmem;obtain rfl:r=w:=er;obtain⟨L,hLa,hn⟩:=hL _ hra;refine⟨_,rfl,_,rfl,_,rfl,d,.ref a,rfl,.inl ⟨_,.inr r,.inl (S2 _ _ hd),rfl,(cX gA (by rw[hps];exact nod) hra).symm⟩,a,_,rfl,.inl ⟨_,.inr r,.inl (S2 _ _ hLa),rfl,rfl⟩,_,rfl,?_⟩;rw[cY,zzr0 hn];exact cB ⟨_,_,rfl,S2⟩
 ·rintro σ H' ⟨x,y,rfl,S⟩;exact k H' S
abbrev lk(f:Str)(fs:List (Str×V)):Option V:=fs.lookup f
def dP(ds:List ak)(r:Str):Bool:=(bu ds r).all iW
structure bd(C:Addr)(H:Hp)(x:Addr)(J0 J1 J2:Zb)(ds:List ak):Prop where
 at_:∃(dx:Addr) (fs:List (Str×V)) (o1 o2 o3 o4 lv qu sg sl:Addr) (ts:Ze) (lps:List (Str×Addr)) (gps:List ((Str×List Str)×Addr)) (sps:List (Str×Addr)),
  H x=some (.ins C dx fs)/\lk "is_quiet" fs=none/\lk "goals" fs=none/\lk "led_from" fs=none/\lk "rooms" fs=none /\
  lk "own_asks" fs=some (.ref o1)/\lk "own_says" fs=some (.ref o2)/\lk "own_rooms" fs=some (.ref o3)/\lk "own_doors" fs=some (.ref o4) /\
  lk "leaving" fs=some (.ref lv)/\lk "quiet" fs=some (.ref qu)/\lk "sign_goals" fs=some (.ref sg)/\lk "still_led" fs=some (.ref sl) /\
  Lists H o1 o2 o3 o4 ts J0 J1 J2 ds /\
  lps.map (·.1)=J2/\H lv=some (.dK (cw Sum.inr lps))/\(∀x∈lps,∃us,H x.2=some (.lst (us.map V.ref))/\cD H us (bu ds x.1)) /\
  H qu=some (.dK (aA (J2.filter (dP ds))))/\ib H sg gps ds /\
  sps.map (·.1)=J2/\H sl=some (.dK (cw Sum.inr sps))/\(∀x∈sps,∃L,H x.2=some (.dK (aA L))/\L.Nodup/\∀w,w∈L↔Reach ds x.1 w)
 ok:bH J0 J1 J2 ds
 more:∃(dx:Addr) (fs:List (Str×V)),H x=some (.ins C dx fs)/\lk "asks" fs=none/\lk "says" fs=none/\lk "doors" fs=none/\lk "doors_from" fs=none
theorem cP(f:Str)(v:V):∀fs:List (Str×V),(bR f v fs).length<=fs.length+1
 |[]=>ax _
 | (g,x)::r=>by
  unfold bR;split
  ·exact Nat.le_succ _
  ·rw[d_,d_];have:=cP f v r;omega
theorem oE:∀(ps qs:List (Str×Addr)),((qs++ps).map (·.1)).Nodup->gF (cw Sum.inr qs) (cw Sum.inr ps)=cw Sum.inr (qs++ps)
 |[],qs,_=>by rw[c6];rfl
 |p::ps,qs,nd=>by
  show gF (cr (cw Sum.inr qs) (Sum.inr p.1) (.ref p.2)) (cw Sum.inr ps)=_;have e:qs++p::ps=(qs++[p])++ps:=by simp
  rw[e]at nd ⊢;have hnew:p.1∉qs.map (·.1):=by
   rw[ap,ap,cG]at nd;have:=nd.1;rw[cG]at this;intro z;exact this.2.2 _ z _ (by simp) rfl
  rw[fW _ (jm gA hnew)];have:=oE ps (qs++[p]) nd;rw[<-this];have e2:cw (Sum.inr:Str->di) (qs++[p])=cw Sum.inr qs++[(Sum.inr p.1,V.ref p.2)]:=by
   unfold cw;rw[ap];rfl
  rw[e2]
theorem Lists.exI{H H':Hp}{x C dx:Addr}{fs:List (Str×V)}{l1 l2 l3 l4:Addr}{ts:Ze}{J0 J1 J2:Zb}{ds:List ak}(h:Lists H l1 l2 l3 l4 ts J0 J1 J2 ds)(hx:H x=some (.ins C dx fs))(e:bh x H H'):Lists H' l1 l2 l3 l4 ts J0 J1 J2 ds:=by
 have ne:∀{b:Addr}{xs:List V},H b=some (.lst xs)->b≠x:=fun hb z=>by rw[z,hx]at hb;cases hb
 exact⟨e _ _ h.a1 (ne h.a1),e _ _ h.a2 (ne h.a2),e _ _ h.a3 (ne h.a3),e _ _ h.a4 (ne h.a4),h.ds.kt fun b xs hb=>e _ _ hb fun z=>by rw[z,hx]at hb;cases hb⟩
theorem bh.ktI{H H':Hp}{x C dx:Addr}{fs:List (Str×V)}(e:bh x H H')(hx:H x=some (.ins C dx fs)):iC H H':=fun b xs hb=>e _ _ hb fun z=>by rw[z,hx]at hb;cases hb
theorem bh.neI{H:Hp}{x C dx:Addr}{fs:List (Str×V)}(hx:H x=some (.ins C dx fs)){b:Addr}{xs:List V}(hb:H b=some (.lst xs)):b≠x:=fun z=>by rw[z,hx]at hb;cases hb
theorem yz{H:Hp}{x C dx:Addr}{fs:List (Str×V)}(hx:H x=some (.ins C dx fs)){b:Addr}{kvs:List (di×V)}(hb:H b=some (.dK kvs)):b≠x:=fun z=>by rw[z,hx]at hb;cases hb
theorem Ax{H:Hp}{x C dx:Addr}{fs:List (Str×V)}(hx:H x=some (.ins C dx fs)){b:Addr}{kvs:List (TK×V)}(hb:H b=some (.dT kvs)):b≠x:=fun z=>by rw[z,hx]at hb;cases hb
structure MC(K:Za)(C:Addr):Prop where
 cls:vn K C
 a1:cy K C "own_asks"
 a2:cy K C "own_says"
 a3:cy K C "own_rooms"
 a4:cy K C "own_doors"
 a5:cy K C "leaving"
 a6:cy K C "quiet"
 a7:cy K C "sign_goals"
 a8:cy K C "still_led"
theorem lZ{H:Hp}{x C dx:Addr}{fs:List (Str×V)}(f:Str)(y:V)(hx:H x=some (.ins C dx fs)):∃H',H'=upd H x (.ins C dx (bR f y fs))/\H' x=some (.ins C dx (bR f y fs))/\bh x H H' :=
 ⟨_,rfl,aa,bh.upd _ _ _⟩
theorem bo{p:Str->Bool}{ws:Zb}{i:Nat}{w:Str}(h:ws[i]?=some w):(ws.take (i+1)).filter p=(ws.take i).filter p++(if p w=true then[w]else[]):=by
 rw[take_snoc h,fM];congr 1;by_cases c:p w=true
 ·rw[if_pos c];simp[c]
 ·rw[if_neg c];simp[c]
theorem uX(ds:List ak)(r:Str):(bu ds r).length<=ds.length:=ca _ _
theorem bH.sg0{J0 J1 J2:Zb}{ds:List ak}(m:bH J0 J1 J2 ds){r:Str}:∀d∈bu ds r,d.sg≠[]:=by
 intro d hd;have:=m.good d (dC.mp hd).1;rcases this.sg with⟨w,_,e⟩|⟨w,_,e⟩|e<;>rw[e]<;>exact List.cons_ne_nil _ _
theorem z9(a b:Str):decide (gv a=gv b)=decide (a=b):=by
 by_cases e:a=b
 ·rw[zzr1 e,zzr1 (by rw[e])]
 ·rw[zzr0 e,zzr0 (fun z=>e (kT z))]
theorem bd.by{C:Addr}{H H':Hp}{x:Addr}{J0 J1 J2:Zb}{ds:List ak}(h:bd C H x J0 J1 J2 ds)
  (hs:∀b ws,H b=some (.lst (List.map V.str ws))->H' b=some (.lst (List.map V.str ws))) (hr:∀b ts,H b=some (.lst (List.map V.ref ts))->H' b=some (.lst (List.map V.ref ts))) (ht:iC H H')
  (hd:∀b kvs,H b=some (.dK kvs)->H' b=some (.dK kvs)) (hT:∀b kvs,H b=some (.dT kvs)->H' b=some (.dT kvs)) (hi:∀b C dx fs,H b=some (.ins C dx fs)->H' b=some (.ins C dx fs)):bd C H' x J0 J1 J2 ds:=by
 obtain⟨dx,fs,o1,o2,o3,o4,lv,qu,sg,sl,ts,lps,gps,sps,g1,a1,a2,a3,a4,b1,b2,b3,b4,b5,b6,b7,b8,L,c1,c2,c3,c4,G,d1,d2,d3⟩:=h.at_;refine⟨⟨dx,fs,o1,o2,o3,o4,lv,qu,sg,sl,ts,lps,gps,sps,hi _ _ _ _ g1,a1,a2,a3,a4,b1,b2,b3,b4,b5,b6,b7,b8,⟨hs _ _ L.a1,hs _ _ L.a2,hs _ _ L.a3,hr _ _ L.a4,L.ds.kt ht⟩,c1,hd _ _ c2,fun y hy=>?_,hd _ _ c4,⟨G.nd,hT _ _ G.g,fun y hy=>hs _ _ (G.ls y hy),G.all⟩,d1,hd _ _ d2,fun y hy=>?_⟩,h.ok,by obtain⟨dx,fs,g,r⟩:=h.more;exact⟨dx,fs,hi _ _ _ _ g,r⟩⟩
 ·obtain⟨us,e1,e2⟩:=c3 y hy;exact⟨us,hr _ _ e1,e2.kt ht⟩
 ·obtain⟨L0,e1,e2⟩:=d3 y hy;exact⟨L0,hd _ _ e1,e2⟩
theorem bd.same{C:Addr}{H H':Hp}{x:Addr}{J0 J1 J2:Zb}{ds:List ak}(h:bd C H x J0 J1 J2 ds)(S:ab H H'):bd C H' x J0 J1 J2 ds :=
 h.by (fun _ _ e=>S _ _ e) (fun _ _ e=>S _ _ e) (ab.kt S) (fun _ _ e=>S _ _ e) (fun _ _ e=>S _ _ e) (fun _ _ _ _ e=>S _ _ e)
theorem bd.ex{C:Addr}{H H':Hp}{x p c:Addr}{J0 J1 J2:Zb}{ds:List ak}(h:bd C H x J0 J1 J2 ds)(hp:fb H p c)(S:bh p H H'):bd C H' x J0 J1 J2 ds:=by
 obtain⟨xs,hx⟩:=hp.lst;exact h.by (fun _ _ e=>S _ _ e (hp.ne_strs e)) (fun _ _ e=>S _ _ e (hp.ne_refs e)) (S.kt hx) (fun _ _ e=>S _ _ e (fun z=>by rw[z,hx]at e;cases e)) (fun _ _ e=>S _ _ e (fun z=>by rw[z,hx]at e;cases e)) (fun _ _ _ _ e=>S _ _ e (fun z=>by rw[z,hx]at e;cases e))
inductive gt(C:Addr)(vs:List V)(H:Hp)(Q:VK)(E:XK):Prop
 |mk (x:Addr) (w:Str) (J0 J1 J2:Zb) (ds:List ak):(vs=[.ref x,.str w])->(bd C H x J0 J1 J2 ds)->(Q (.bl (decide (w∈J2.filter (dP ds)))) H)->gt C vs H Q E
theorem tq{K:Za}{C:Addr}(M:MC K C){vs:List V}{H:Hp}{Q:VK}{E:XK}(h:gt C vs H Q E):jS K (bc Q) (start kg vs) H:=by
 obtain⟨x,w,J0,J1,J2,ds,rfl,h,k⟩:=h;obtain⟨dx,fs,o1,o2,o3,o4,lv,qu,sg,sl,ts,lps,gps,sps,g1,a1,a2,a3,a4,b1,b2,b3,b4,b5,b6,b7,b8,L,c1,c2,c3,c4,_⟩:=h.at_;refine⟨_,rfl,_,rfl,x,C,dx,fs,.ref qu,rfl,g1,M.cls,M.a6,b6,qu,_,rfl,.inl ⟨_,.inr w,.inl c4,rfl,rfl⟩,?_⟩;rw[cY];exact k
def bv:List Str:=[("hush":Str)]
def dS(ds:List ak):List Str:=(ds.filter fun d=>!iW d).map (·.a)
theorem uM(ds:List ak)(r:Str):dP ds r=decide (r∉dS ds):=by
 unfold dP dS bu;rw[sE,List.all_eq_true,decide_eq_true_iff];constructor
 ·intro h z;obtain⟨d,hd,rfl⟩:=aE.mp z;rw[dC]at hd;have:=h d (dC.mpr ⟨hd.1,zzr1 rfl⟩);rw[this]at hd;exact absurd hd.2 (by decide)
 ·intro h d hd;rw[dC]at hd;cases q:iW d with
  |true=>rfl
  |false =>
   refine absurd (aE.mpr ⟨d,dC.mpr ⟨hd.1,by rw[q];rfl⟩,?_⟩) h;exact of_decide_eq_true hd.2
theorem nD{w:Str}{ws:Zb}:gv w∈ws.map gv↔w∈ws:=by
 constructor
 ·intro h;obtain⟨x,hx,e⟩:=aE.mp h;rw[<-kT e];exact hx
 ·exact nO
theorem pY{ds:List ak}{i:Nat}{d:ak}(h:ds[i]?=some d):dS (ds.take (i+1))=dS (ds.take i)++(if(!iW d)=true then[d.a]else[]):=by
 unfold dS;rw[take_snoc h,fM,ap];congr 1;by_cases c:(!iW d)=true
 ·rw[if_pos c];simp[List.filter_cons,c]
 ·rw[if_neg c];simp[List.filter_cons,c]
def qN(K:Za)(C_Machine:Addr)(sp_Machine_rooms:Sp)(sp_Machine_led_from:Sp):TS :=
 aq (aK (oj) U2)
 (aq (ei (bC K V1) U3 (d6 (tB (fq K V3 V2)) (aq (ir V2 V3 (tC (.bl true)))
 (ei (bC K (db C_Machine "led_from" sp_Machine_led_from [] E0 V0 (aB V3))) U4 (ir V2 V4 (tC (.bl true))))) (cf)))
 (aY (gi (tt K) (aB (bZ 1 [2] (bC K (db C_Machine "rooms" sp_Machine_rooms [] E0 V0 bI)) U0 (tB (wA K V0 V1)) V0)))))
def sh:List Str:=["M","rooms","found","room","led"]
def mS(K:Za):TS :=
 aY (gi (cO K) (aB (fT K V0 "own_rooms")))
def nj:List Str:=["self"]
def jR(K:Za):TS :=
 aY (gi (cO K) (aB (re K (fT K V0 "still_led") V1 (bV (bI)))))
def kf:List Str:=["self","room"]
def mT(K:Za):TS :=
 aY (gi (cO K) (aB (re K (fT K V0 "sign_goals") (bV (ba V1 V2)) (bV (bI)))))
def nn:List Str:=["self","room","sign"]
def n6(K:Za):TS :=
 aq (aK (gi (cO K) (aB V1)) U2)
 (aq (aK (tC (.int 0)) U3)
 (aq (uw (br (aD zN V3 (gi (iT K) (aB V2)))) (aq (ei (bC K V0) (pG K 3 (cT U4 (cT U5 (cT U6 (pH))))) (d6 (xM (br (aD (uL K) V4 (aD (o9 K) V2 V3))) (xM (br (aD (uL K) V5 (bV (aB (tC (.str "still")))))) (br (aD (pD K true) V6 V2)))) (df (xz K "list" fz V2 (aB V6))) (cf)))
 (aK (aD dg V3 (tC (.int 1))) U3)))
 (aY V2)))
def oZ:List Str:=["doors","rooms","found","at","room","sign","other"]
inductive iO(C:Addr)(vs:List V)(H:Hp)(Q:VK)(E:XK):Prop
 |mk (x:Addr) (J0 J1 J2:Zb) (ds:List ak):(vs=[.ref x])->(bd C H x J0 J1 J2 ds)->(∀l,H l=none->Q (.ref l) (upd H l (.lst (J2.map V.str))))->iO C vs H Q E
theorem xR{K:Za}{C:Addr}(M:MC K C){vs:List V}{H:Hp}{Q:VK}{E:XK}(h:iO C vs H Q E):mS K (bc Q) (start nj vs) H:=by
 obtain⟨x,J0,J1,J2,ds,rfl,h,k⟩:=h;obtain⟨dx,fs,o1,o2,o3,o4,lv,qu,sg,sl,ts,lps,gps,sps,g1,a1,a2,a3,a4,b1,b2,b3,b4,b5,b6,b7,b8,L,_⟩:=h.at_;exact⟨_,rfl,x,C,dx,fs,.ref o3,rfl,g1,M.cls,M.a3,b3,.inl ⟨o3,_,rfl,.inl (ay.of L.a3),k⟩⟩
theorem tN:∀{L:Zb},L.Nodup->(aA L).map (fun kv=>kV kv.1)=L.map V.str:=by
 intro L;refine gS (fun L=>L.Nodup->(aA L).map (fun kv=>kV kv.1)=L.map V.str) (fun _=>rfl) (fun ws w ih nd=>?_) L;rw[cG]at nd;have hn:aR (aA ws) (.inr w)=none:=by
  rw[oJ,if_neg (fun z=>nd.2.2 w z w (by simp) rfl)]
 show(aA (ws++[w])).map _=_;rw[cp,fW _ hn,ap,ih nd.1,ap]
 rfl
inductive gq(C:Addr)(vs:List V)(H:Hp)(Q:VK)(E:XK):Prop
 |mk (x:Addr) (r:Str) (J0 J1 J2:Zb) (ds:List ak):(vs=[.ref x,.str r])->(bd C H x J0 J1 J2 ds)->(r∈J2)->(∀(l:Addr) (L:Zb) (H':Hp),H' l=some (.lst (L.map V.str))->L.Nodup->(∀w,w∈L↔Reach ds r w)->H l=none->ab H H'->Q (.ref l) H')->gq C vs H Q E
theorem tp{K:Za}{C:Addr}(M:MC K C){vs:List V}{H:Hp}{Q:VK}{E:XK}(h:gq C vs H Q E):jR K (bc Q) (start kf vs) H:=by
 obtain⟨x,r,J0,J1,J2,ds,rfl,h,hr,k⟩:=h;obtain⟨dx,fs,o1,o2,o3,o4,lv,qu,sg,sl,ts,lps,gps,sps,g1,a1,a2,a3,a4,b1,b2,b3,b4,b5,b6,b7,b8,L,c1,c2,c3,c4,G,d1,d2,d3⟩:=h.at_;have nod:=h.ok.okR.1;obtain⟨⟨r',a⟩,hra,er⟩:=aE.mp (show r∈sps.map (·.1) by rw[d1];exact hr);obtain rfl:r'=r:=er;obtain⟨L0,e1,e2,e3⟩:=d3 _ hra;refine⟨_,rfl,x,C,dx,fs,.ref sl,rfl,g1,M.cls,M.a8,b8,sl,rfl,.inl ⟨_,.inl d2⟩,_,rfl,(by show 0<=aj;decide),fun et het=>⟨_,.inl ⟨_,.inr r',.inl (kp d2 het),rfl,rfl⟩,?_⟩⟩;rw[cX gA (by rw[d1];exact nod) hra];refine .inr ⟨a,_,rfl,.inl (kp e1 het),fun l hl=>k l L0 _ ?_ e2 e3 ((ab.new het).free hl) ((ab.new het).trans (ab.new hl))⟩;rw[aa,tN e2]
inductive gU(C:Addr)(vs:List V)(H:Hp)(Q:VK)(E:XK):Prop
 |mk (x s:Addr) (r:Str) (sg J0 J1 J2:Zb) (ds:List ak):(vs=[.ref x,.str r,.ref s])->(bd C H x J0 J1 J2 ds)->(H s=some (.tup (sg.map V.str)))->(∀(l:Addr) (H':Hp),H' l=some (.lst ((aS ds (r,sg)).map V.str))->H l=none->ab H H'->Q (.ref l) H')->gU C vs H Q E
theorem wI{K:Za}{C:Addr}(M:MC K C){vs:List V}{H:Hp}{Q:VK}{E:XK}(h:gU C vs H Q E):mT K (bc Q) (start nn vs) H:=by
 obtain⟨x,s,r,sgn,J0,J1,J2,ds,rfl,h,hs,k⟩:=h;obtain⟨dx,fs,o1,o2,o3,o4,lv,qu,sg,sl,ts,lps,gps,sps,g1,a1,a2,a3,a4,b1,b2,b3,b4,b5,b6,b7,b8,L,c1,c2,c3,c4,G,d1,d2,d3⟩:=h.at_;have nod:=h.ok.okR.1;refine⟨_,rfl,x,C,dx,fs,.ref sg,rfl,g1,M.cls,M.a7,b7,sg,rfl,.inr ⟨_,.inl G.g⟩,_,rfl,_,rfl,(by show 2<=aj;decide),fun kt hkt=>⟨(by show 0<=aj;decide),fun et het=>⟨aR (cw o8 gps) (o8 (r,sgn)),.inr ⟨_,o8 (r,sgn),kt,.inl (kp (kp G.g hkt) het),rfl,?_,jj _,rfl⟩,?_⟩⟩⟩
 ·refine cC.isIn 8 (jj _) ?_;unfold o8 cC;refine⟨kt,_,rfl,kp aa het,?_⟩;unfold TKAts;refine⟨_,_,rfl,qM _,?_⟩;unfold TKAts;refine⟨_,_,rfl,SignAt.tk (kp (kp hs hkt) het),?_⟩;unfold TKAts
  rfl
 have S2:ab H (upd (upd H kt (.tup [.str r,.ref s])) et (.tup [])):=(ab.new hkt).trans (ab.new het);by_cases hmem:(r,sgn)∈gps.map (·.1)
 ·obtain⟨⟨y,a⟩,hra,er⟩:=aE.mp hmem;obtain rfl:y=(r,sgn):=er;rw[cX fx G.nd hra];exact .inl ⟨a,_,rfl,.inl (ay.of (S2 _ _ (G.ls _ hra))),fun l hl=>k l _ aa (S2.free hl) (S2.trans (ab.new hl))⟩
 ·rw[jm fx hmem];have hnil:aS ds (r,sgn)=[]:=iX fun y hy z=>hmem (by rw[<-z];exact G.all y hy);refine .inl ⟨et,[],rfl,.inr (bE.of aa),fun l hl=>k l _ ?_ (S2.free hl) (S2.trans (ab.new hl))⟩;rw[hnil];exact aa
theorem Reach.trans{ds:List ak}{a b c:Str}(h1:Reach ds a b)(h2:Reach ds b c):Reach ds a c:=by
 induction h2 with
 |one h=>exact .step h1 h
 |step r h ih=>exact .step ih h
def gl(ds:List ak)(gs:Zb)(w:Str):Prop:=∃g∈gs,w=g∨Reach ds g w
theorem gl.in_{ds:List ak}{gs J2:Zb}{w:Str}(hg:∀g∈gs,g∈J2)(hd:∀d∈ds,d.b∈J2)(h:gl ds gs w):w∈J2:=by
 obtain⟨g,h1,rfl|h2⟩:=h
 ·exact hg _ h1
 ·exact h2.in_ hd
def m8(F:Zb)(w:Str):List Str:=if w∈F then F else F++[w]
theorem tM(F:Zb):∀kv∈aA F,kv.2=.bl true:=by
 refine gS (fun F=>∀kv∈aA F,kv.2=.bl true) (by intro kv h;cases h) (fun ws w ih=>?_) F;intro kv hkv;rw[cp]at hkv;unfold cr at hkv;split at hkv
 ·obtain⟨x,hx,rfl⟩:=aE.mp hkv;split
  ·rfl
  ·exact ih x hx
 ·rcases aU.mp hkv with h|h
  ·exact ih kv h
  ·have:kv=(.inr w,.bl true):=by simpa using h
   rw[this]
theorem oK(F:Zb)(w:Str):cr (aA F) (.inr w) (.bl true)=aA (m8 F w):=by
 unfold m8;by_cases c:w∈F
 ·rw[if_pos c];have h1:((aA F).any fun kv=>decide (kv.1=(.inr w:di)))=true:=by
   rw[gQ,cY,zzr1 c]
  unfold cr;rw[if_pos h1];have:∀l:List (di×V),(∀kv∈l,kv.2=.bl true)->l.map (fun kv=>if kv.1=(.inr w:di)then(kv.1,V.bl true)else kv)=l:=by
   intro l
   induction l with
   |nil=>intro _;rfl
   |cons x l ih =>
    intro h;rw[a_,ih fun kv hkv=>h kv (eQ _ hkv)];congr 1;split
    ·rw[<-h x eR]
    ·rfl
  exact this _ (tM F)
 ·rw[if_neg c,cp]
theorem oX{F:Zb}(h:F.Nodup)(w:Str):(m8 F w).Nodup:=by
 unfold m8;split
 ·exact h
 ·next c =>
  rw[cG];refine⟨h,by simp,fun a ha b hb e=>?_⟩;have:b=w:=by simpa using hb
  exact c (by rw[<-this,<-e];exact ha)
theorem tK{F:Zb}{w y:Str}:y∈m8 F w↔y∈F∨y=w:=by
 unfold m8;split
 ·next c=>exact⟨.inl,fun h=>h.elim id fun e=>by rw[e];exact c⟩
 ·rw[aU];simp
inductive sp_with_still(C:Addr)(vs:List V)(H:Hp)(Q:VK)(E:XK):Prop
 |mk (x l:Addr) (gs J0 J1 J2:Zb) (ds:List ak):(vs=[.ref x,.ref l])->(bd C H x J0 J1 J2 ds)->(H l=some (.lst (gs.map V.str)))->((∀g∈gs,g∈J2))->(∀(t:Addr) (F:Zb) (H':Hp),H' t=some (.tup ((J2.filter fun r=>decide (r∈F)).map V.str))->(∀w,w∈F↔gl ds gs w)->ab H H'->Q (.ref t) H')->sp_with_still C vs H Q E
theorem pq{K:Za}{C:Addr}{vs:List V}{H:Hp}{Q:VK}{E:XK}(h:sp_with_still C vs H Q E):qN K C (iO C) (gq C) (bc Q) (start sh vs) H:=by
 obtain⟨x,l,gs,J0,J1,J2,ds,rfl,M,hl,hg,k⟩:=h;have hdb:∀d∈ds,d.b∈J2:=fun d hd=>(M.ok.good d hd).b;have z3:=M.ok.rooms26;refine fun d hd=>?_;refine⟨_,rfl,l,rfl,⟨_,ay.of (kp hl hd)⟩,?_⟩;refine bP (xs:=gs.map V.str) (fun i σ H'=>∃(F:Zb) (x3 x4:Option V),σ=[some (.ref x),some (.ref l),some (.ref d),x3,x4]/\H' d=some (.dK (aA F))/\ab H H'/\F.Nodup/\∀w,w∈F↔gl ds (gs.take i) w)
  ⟨[],_,_,rfl,aa,ab.new hd,nW,fun w=>⟨fun h=>(by cases h),fun⟨g,h,_⟩=>(by cases h)⟩⟩ (fun i σ H' _ ⟨_,_,_,_,_,S,_⟩=>ay.of (S _ _ hl)) ?_ ?_
 ·rintro i y σ H1 hi ⟨F,x3,x4,rfl,hd1,S1,nd,hF⟩;obtain⟨r,hr,rfl⟩:=bz hi;have hrm:r∈J2:=hg r (dB hr);have hsub:∀w∈F,w∈J2:=fun w hw=>((hF w).mp hw).in_ (fun g hg'=>hg g (dO hg')) hdb;refine⟨_,rfl,_,rfl,d,_,rfl,.inl ⟨_,.inr r,.inl hd1,rfl,rfl⟩,_,rfl,?_⟩;rw[cY];have hstep:∀w,gl ds (gs.take (i+1)) w↔(gl ds (gs.take i) w∨w=r∨Reach ds r w):=by
   intro w;rw[take_snoc hr];constructor
   ·rintro⟨g,hg',h⟩;rcases aU.mp hg' with hg'|hg'
    ·exact .inl ⟨g,hg',h⟩
    ·have:g=r:=by simpa using hg'
     subst this;exact .inr h
   ·rintro(⟨g,hg',h⟩|h)
    ·exact⟨g,cz _ hg',h⟩
    ·exact⟨r,cL _ (by simp),h⟩
  by_cases c:r∈F
  ·rw[zzr1 c];refine cB ⟨F,_,_,rfl,hd1,S1,nd,fun w=>?_⟩;rw[hstep,hF];refine⟨.inl,fun h=>h.elim id fun h=>?_⟩;obtain⟨g,hg',hgr⟩:=(hF r).mp c;rcases h with h|h
   ·rw[h];exact⟨g,hg',hgr⟩
   ·refine⟨g,hg',.inr ?_⟩;rcases hgr with e|hgr
    ·rw[<-e];exact h
    ·exact hgr.trans h
  ·rw[zzr0 c];refine cA ?_;have hlen:∀{F:Zb},F.Nodup->(∀w∈F,w∈J2)->(aA F).length<aj:=fun nd hs=>am (aJ (h_ _) (aJ (k4 nd hs) (by omega)));refine⟨_,rfl,_,rfl,d,_,rfl,.inl ⟨_,.inr r,hd1,rfl,hlen nd hsub,rfl⟩,?_⟩;rw[oK];have S2:ab H (upd H1 d (.dK (aA (m8 F r)))):=fun b o q=>by rw[ah (ac q hd)];exact S1 _ _ q
   have hd2:upd H1 d (.dK (aA (m8 F r))) d=some (.dK (aA (m8 F r))):=aa;generalize upd H1 d (.dK (aA (m8 F r)))=H2 at S2 hd2 ⊢;have M2:=M.same S2;obtain⟨dx,fs,o1,o2,o3,o4,lv,qu,sg,sl,ts,lps,gps,sps,g1,a1,a2,a3,a4,_⟩:=M2.at_;refine⟨_,rfl,x,dx,fs,rfl,g1,a3,_,rfl,x,r,J0,J1,J2,ds,rfl,M2,hrm,fun ll L H3 hll ndL hL frl S3=>⟨ll,rfl,⟨_,ay.of hll⟩,?_⟩⟩;have hd3:=S3 _ _ hd2;have llH:H ll=none:=S2.free frl;have lld:ll≠d:=fun z=>by rw[z,hd2]at frl;cases frl
   refine bP (xs:=L.map V.str) (fun j σ H'=>∃(F':Zb) (x4:Option V),σ=[some (.ref x),some (.ref l),some (.ref d),some (.str r),x4]/\H' d=some (.dK (aA F'))/\H' ll=some (.lst (L.map V.str))/\ab H H'/\F'.Nodup/\∀w,w∈F'↔(gl ds (gs.take i) w∨w=r∨w∈L.take j))
    ⟨m8 F r,_,rfl,hd3,hll,S2.trans S3,oX nd r,fun w=>?_⟩ (fun j σ H' _ ⟨_,_,_,_,h,_⟩=>ay.of h) ?_ ?_
   ·rw[tK,hF];simp
   ·rintro j y σ H4 hj ⟨F',x4',rfl,hd4,hll4,S4,nd4,hF4⟩;obtain⟨v,hv,rfl⟩:=bz hj;have hsub4:∀w∈F',w∈J2:=by
     intro w hw;rcases(hF4 w).mp hw with h|h|h
     ·exact h.in_ (fun g hg'=>hg g (dO hg')) hdb
     ·rw[h];exact hrm
     ·exact((hL w).mp (dO h)).in_ hdb
    refine⟨_,rfl,_,rfl,d,_,rfl,.inl ⟨_,.inr v,hd4,rfl,hlen nd4 hsub4,rfl⟩,m8 F' v,_,rfl,?_,?_,?_,oX nd4 v,fun w=>?_⟩
    ·rw[aa,oK]
    ·rw[ah lld];exact hll4
    ·intro b o q;rw[ah (ac q hd)];exact S4 _ _ q
    ·rw[tK,hF4,take_snoc hv,aU];simp only[eh];constructor
     ·rintro((h|h|h)|h)
      ·exact .inl h
      ·exact .inr (.inl h)
      ·exact .inr (.inr (.inl h))
      ·exact .inr (.inr (.inr h))
     ·rintro(h|h|h|h)
      ·exact .inl (.inl h)
      ·exact .inl (.inr (.inl h))
      ·exact .inl (.inr (.inr h))
      ·exact .inr h
   ·rintro σ H4 ⟨F',x4',rfl,hd4,hll4,S4,nd4,hF4⟩;rw[ai,aX]at hF4;refine⟨F',_,_,rfl,hd4,S4,nd4,fun w=>?_⟩;rw[hstep,hF4,hL]
 ·rintro σ H1 ⟨F,x3,x4,rfl,hd1,S1,nd,hF⟩;rw[ai,aX]at hF;have M1:=M.same S1;obtain⟨dx,fs,o1,o2,o3,o4,lv,qu,sg,sl,ts,lps,gps,sps,g1,a1,a2,a3,a4,_⟩:=M1.at_;refine⟨_,rfl,x,dx,fs,rfl,g1,a4,x,J0,J1,J2,ds,rfl,M1,fun rl hrl=>⟨rl,rfl,⟨_,ay.of aa⟩,fun f hf=>?_⟩⟩;have S2:ab H (upd H1 rl (.lst (J2.map V.str))):=S1.trans (ab.new hrl);have hd2:upd H1 rl (.lst (J2.map V.str)) d=some (.dK (aA F)):=kp hd1 hrl;have hrl2:upd H1 rl (.lst (J2.map V.str)) rl=some (.lst (J2.map V.str)):=aa;generalize upd H1 rl (.lst (J2.map V.str))=H2 at S2 hd2 hrl2 hf ⊢;refine bN (xs:=J2.map V.str) (fun i vs H'=>vs=((J2.take i).filter fun r=>decide (r∈F)).map V.str/\ab H2 H'/\H' f=some (.lst vs)) ⟨rfl,ab.new hf,aa⟩ (fun i vs H' _ ⟨_,S,h'⟩=>⟨h',ay.of (S _ _ hrl2)⟩) ?_ ?_
  ·rintro vs H' ⟨rfl,S,f'⟩;rw[ai,aX]at f';exact⟨f,_,rfl,.inl ⟨ay.of f',fun t ht=>k t F _ aa hF (S2.trans (S.trans (ab.new ht)))⟩⟩
  ·rintro i vs H' x' hx' hi ⟨rfl,S,f'⟩;obtain⟨r,hr,rfl⟩:=bz hx';refine gN ?_;refine⟨_,rfl,_,rfl,d,_,rfl,.inl ⟨_,.inr r,.inl (S _ _ hd2),rfl,rfl⟩,_,rfl,?_⟩;rw[cY];have hlen:(((J2.take i).filter fun r=>decide (r∈F)).map V.str).length<aj:=by
    rw[ai];refine am (aJ (ca _ _) ?_);rw[aL];omega
   refine iV (fun hq=>?_) (fun hq=>?_)
   ·refine⟨_,rfl,f',hlen,lT hi ⟨?_,?_,aa⟩⟩
    ·rw[bo hr,if_pos hq,ap];rfl
    ·intro b o q;rw[ah (ac q hf)];exact S _ _ q
   ·refine lT hi ⟨?_,S,f'⟩;rw[bo hr,if_neg hq,c6]
inductive eS(K:Za)(vs:List V)(H:Hp)(Q:VK)(E:XK):Prop
 |mk (l4 l:Addr) (ts:Ze) (ds:List ak) (gs J2:Zb):(vs=[.ref l4,.ref l])->(H l4=some (.lst (ts.map V.ref)))->(cD H ts ds)->(H l=some (.lst (gs.map V.str)))->((∀d∈ds,d.b∈J2))->(J2.length<=1000)->(gs.length<=1000)->(∀(f:Addr) (F:Zb) (H':Hp),H' f=some (.lst (F.map V.str))->(∀w,w∈F↔gl ds gs w)->F.length<=2000->H f=none->ab H H'->Q (.ref f) H')->eS K vs H Q E
structure SO(H0 H:Hp)(ds:List ak)(gs:Zb)(f:Addr)(X:Zb):Prop where
 f:H f=some (.lst ((gs++X).map V.str))
 same:ab H0 H
 nd:X.Nodup
 new:∀y∈X,y∉gs
 sound:∀y∈X,gl ds gs y
theorem gl.step{ds:List ak}{gs:Zb}{a b:Str}(h:gl ds gs a)(e:(⟨a,aG,b⟩:ak)∈ds):gl ds gs b:=by
 obtain⟨g,hg,rfl|h⟩:=h
 ·exact⟨_,hg,.inr (.one e)⟩
 ·exact⟨g,hg,.inr (.step h e)⟩
theorem jq(a b:Zb):decide (lY a=lY b)=decide (a=b):=by
 by_cases e:a=b
 ·rw[zzr1 e,zzr1 (by rw[e])]
 ·rw[zzr0 e,zzr0 (fun z=>e (v9 z))]
theorem tj{K:Za}{vs:List V}{H:Hp}{Q:VK}{E:XK}(h:eS K vs H Q E):n6 K (bc Q) (start oZ vs) H:=by
 obtain⟨l4,l,ts,ds,gs,J2,rfl,h4,hds,hl,hin,hz,hz2,k⟩:=h;refine⟨_,rfl,.inl ⟨l,_,rfl,.inl (ay.of hl),fun f hf=>?_⟩⟩;have lenX:∀{X:Zb},X.Nodup->(∀y∈X,y∉gs)->(∀y∈X,gl ds gs y)->X.length<=J2.length:=fun nd nw sd=>k4 nd fun y hy=>by
  obtain⟨g,hg,e|h⟩:=sd y hy
  ·exact absurd (by rw[e];exact hg) (nw y hy)
  ·exact h.in_ hin
 refine⟨fun m σ H'=>∃(X:Zb) (at_:Nat) (x y z:Option V),σ=[some (.ref l4),some (.ref l),some (.ref f),some (.int at_),x,y,z]/\SO H H' ds gs f X/\at_<=(gs++X).length/\(∀i y,i<at_->(gs++X)[i]?=some y->∀c,(⟨y,aG,c⟩:ak)∈ds->c∈gs++X)/\m=gs.length+J2.length-at_,
  ⟨_,[],0,_,_,_,rfl,⟨by rw[c6];exact aa,ab.new hf,nW,by simp,by simp⟩,ee _,fun i y h=>by omega,rfl⟩,?_⟩
 rintro m σ H1 ⟨X,at_,x4,x5,x6,rfl,D,hat,hcl,rfl⟩;have hXl:=lenX D.nd D.new D.sound;refine⟨_,rfl,_,rfl,.inl ⟨f,_,rfl,.inl (ay.of D.f),_,_,rfl,rfl,_,rfl,?_⟩⟩;refine iV (fun hlt=>?_) (fun hlt=>?_)
 ·have hlt':at_<(gs++X).length:=by
   have:=of_decide_eq_true hlt;rw[ai]at this;omega
  have hat0:at_<gs.length+J2.length:=by rw[bf]at hlt';omega
  generalize hhere:(gs++X)[at_]=here;have hget:(gs++X)[at_]?=some here:=by rw[<-hhere];exact iI hlt'
  have hfrom:∀{Y:Zb}{y:Str},(∀y∈Y,gl ds gs y)->y∈gs++Y->gl ds gs y:=fun sd hy=>by
   rcases aU.mp hy with hy|hy
   ·exact⟨_,hy,.inl rfl⟩
   ·exact sd _ hy
  refine⟨fun σ' H'=>∃(X':Zb) (x y z:Option V),σ'=[some (.ref l4),some (.ref l),some (.ref f),some (.int ((at_+1:Nat):Int)),x,y,z]/\SO H H' ds gs f X'/\at_+1<=(gs++X').length/\(∀i y,i<at_+1->(gs++X')[i]?=some y->∀c,(⟨y,aG,c⟩:ak)∈ds->c∈gs++X'),
   fun σ' H' ⟨X',x,y,z,e,D',h1,h2⟩=>⟨_,(by omega:gs.length+J2.length-(at_+1)<gs.length+J2.length-at_),X',at_+1,x,y,z,e,D',h1,h2,rfl⟩,?_⟩
  refine⟨_,rfl,l4,rfl,⟨_,ay.of (D.same _ _ h4)⟩,?_⟩;refine bP (xs:=ts.map V.ref) (fun j σ H'=>∃(X' Y:Zb) (x y z:Option V),σ=[some (.ref l4),some (.ref l),some (.ref f),some (.int at_),x,y,z]/\X'=X++Y/\SO H H' ds gs f X'/\∀d∈ds.take j,d.a=here->d.sg=aG->d.b∈gs++X')
   ⟨X,[],_,_,_,rfl,by simp,D,by simp⟩ (fun j σ H' _ ⟨_,_,_,_,_,_,_,D',_⟩=>ay.of (D'.same _ _ h4)) ?_ ?_
  ·rintro j y σ H2 hj ⟨X',Y,x4',x5',x6',rfl,rfl,D2,hdone⟩;obtain⟨t,ht,rfl⟩:=cg hj;obtain⟨dr,hdr,hatd⟩:=Paired.getL hds ht;obtain⟨s,ht2,hs2⟩:=hatd.kt (ab.kt D2.same);have hmem:=dB hdr;have hXl2:=lenX D2.nd D2.new D2.sound;have hget2:(gs++(X++Y))[at_]?=some here:=by
    rw[<-dL,sw hlt'];exact hget
   refine⟨t,_,rfl,bE.of ht2,rfl,_,_,rfl,_,_,rfl,_,_,rfl,rfl,?_⟩;have nextI:∀(H3:Hp) (X3 Y3:Zb) (q4 q5 q6:Option V),X3=X++Y3->SO H H3 ds gs f X3->(∀y∈X++Y,y∈X3)->(dr.a=here->dr.sg=aG->dr.b∈gs++X3) ->
     ∃(X' Y:Zb) (x y z:Option V),[some (.ref l4),some (.ref l),some (.ref f),some (.int at_),q4,q5,q6]=[some (.ref l4),some (.ref l),some (.ref f),some (.int at_),x,y,z]/\X'=X++Y/\SO H H3 ds gs f X'/\∀d∈ds.take (j+1),d.a=here->d.sg=aG->d.b∈gs++X':=by
    intro H3 X3 Y3 q4 q5 q6 e D3 hsub hnew;refine⟨X3,Y3,q4,q5,q6,rfl,e,D3,fun d hd e1 e2=>?_⟩;rw[take_snoc hdr]at hd;rcases aU.mp hd with hd|hd
    ·rcases aU.mp (hdone d hd e1 e2)with h|h
     ·exact cz _ h
     ·exact cL _ (hsub _ h)
    ·have:d=dr:=by simpa using hd
     subst this;exact hnew e1 e2
   refine⟨_,rfl,_,rfl,_,rfl,.inl ⟨f,_,_,_,rfl,rfl,ay.of D2.f,fF (j:=at_) (by rw[gJ,hget2];rfl),gv dr.a,gv here,mF _,mF _,(by show 0<=8;decide),(by show 0<=8;decide),_,rfl,?_⟩⟩;rw[z9];by_cases c1:dr.a=here;rotate_left
   ·rw[zzr0 c1];exact cB (cB (nextI H2 _ _ _ _ _ rfl D2 (fun _ h=>h) fun e=>absurd e c1))
   rw[zzr1 c1];refine cA ?_;refine⟨_,rfl,(by show 1<=aj;decide),fun st hst=>⟨lY dr.sg,lY aG,bD (bE.of (kp hs2 hst)),bD (bE.of aa),by rw[b9];decide,by rw[b9];decide,_,rfl,?_⟩⟩;rw[jq];have D3:SO H (upd H2 st (.tup [.str "still"])) ds gs f (X++Y):=⟨kp D2.f hst,D2.same.trans (ab.new hst),D2.nd,D2.new,D2.sound⟩;have hstS:H st=none:=D2.same.free hst;generalize upd H2 st (.tup [.str "still"])=H3 at D3 ⊢;by_cases c2:dr.sg=aG;rotate_left
   ·rw[zzr0 c2];exact cB (cB (nextI H3 _ _ _ _ _ rfl D3 (fun _ h=>h) fun _ e=>absurd e c2))
   rw[zzr1 c2];refine cA ?_;refine⟨_,rfl,_,rfl,gv dr.b,(gs++(X++Y)).map gv,f,_,mF _,rfl,.inl (ay.of D3.f),j5 _,(by show 0<=8;decide),by rw[f_];decide,_,rfl,?_⟩;rw[if_pos rfl];by_cases c3:dr.b∈gs++(X++Y)
   ·rw[zzr1 (nD.mpr c3)];exact cB (nextI H3 _ _ _ _ _ rfl D3 (fun _ h=>h) fun _ _=>c3)
   rw[zzr0 (fun z=>c3 (nD.mp z))];refine cA ?_;refine⟨_,rfl,.inl ⟨rfl,_,ay.of D3.f⟩,_,rfl,f,_,_,rfl,rfl,D3.f,by rw[ai,bf];exact em (by omega),?_⟩;have hedge:(⟨here,aG,dr.b⟩:ak)∈ds:=by
    have:dr=⟨here,aG,dr.b⟩:=by cases dr;simp only at c1 c2;rw[c1,c2]
    rw[<-this];exact hmem
   refine nextI _ (X++(Y++[dr.b])) _ _ _ _ rfl ⟨?_,?_,?_,?_,?_⟩ ?_ ?_
   ·rw[aa];have:gs++(X++(Y++[dr.b]))=gs++(X++Y)++[dr.b]:=by simp
    rw[this,ap (l₂:=[dr.b])]
    rfl
   ·intro b o q;rw[ah (ac q hf)];exact D3.same _ _ q
   ·rw[<-dL,cG];refine⟨D3.nd,by simp,fun a ha b hb e=>?_⟩;have:b=dr.b:=by simpa using hb
    exact c3 (cL _ (by rw[<-this,<-e];exact ha))
   ·intro y hy;rw[<-dL]at hy;rcases aU.mp hy with hy|hy
    ·exact D3.new y hy
    ·have:y=dr.b:=by simpa using hy
     rw[this];exact fun z=>c3 (cz _ z)
   ·intro y hy;rw[<-dL]at hy;rcases aU.mp hy with hy|hy
    ·exact D3.sound y hy
    ·have:y=dr.b:=by simpa using hy
     rw[this];exact(hfrom D.sound (dB hget)).step hedge
   ·intro y hy;rw[<-dL];exact cz _ hy
   ·intro _ _;exact cL _ (by simp)
  ·rintro σ H2 ⟨X',Y,x4',x5',x6',rfl,rfl,D2,hdone⟩;rw[ai,Paired.length hds,aX]at hdone;refine⟨_,rfl,_,_,rfl,rfl,X++Y,_,_,_,rfl,D2,?_,fun i y hi hy c hc=>?_⟩
   ·rw[<-dL,bf];omega
   ·by_cases e:i=at_
    ·subst e;rw[<-dL,sw hlt',hget]at hy;have:=da hy;subst this;exact hdone _ hc rfl rfl
    ·have hi':i<at_:=by omega
     rw[<-dL,sw (by omega)]at hy;have:=hcl i y hi' hy c hc;rw[<-dL];exact cz _ this
 ·have hend:at_=(gs++X).length:=by
   have:¬(at_<(gs++X).length):=fun z=>hlt (zzr1 (by rw[ai];omega));omega
  refine⟨_,rfl,k f (gs++X) H1 D.f (fun w=>⟨fun hw=>?_,fun hw=>?_⟩) (by rw[bf];omega) hf D.same⟩
  ·rcases aU.mp hw with hw|hw
   ·exact⟨_,hw,.inl rfl⟩
   ·exact D.sound _ hw
  ·have closed:∀y∈gs++X,∀c,(⟨y,aG,c⟩:ak)∈ds->c∈gs++X:=fun y hy c hc=>by
    obtain⟨n,hn⟩:=List.getElem?_of_mem hy;exact hcl n y (by rw[hend];exact(bT.mp hn).1) hn c hc
   obtain⟨g,hg,rfl|h⟩:=hw
   ·exact cz _ hg
   ·induction h with
    |one e=>exact closed _ (cz _ hg) _ e
    |step r e ih=>exact closed _ ih _ e

def ck(ds:List ak)(sg:Zb)(J6:Zb):List Str:=J6.flatMap fun r=>aS ds (r,sg)
theorem pF{ds:List ak}{sg J6:Zb}{i:Nat}{r:Str}(h:J6[i]?=some r):ck ds sg (J6.take (i+1))=ck ds sg (J6.take i)++aS ds (r,sg):=by
 unfold ck;rw[take_snoc h,List.flatMap_append];simp
theorem mD(ds:List ak)(x:Str×List Str):(aS ds x).length<=ds.length:=by
 unfold aS;rw[ai];exact ca _ _
theorem k_(ds:List ak)(sg:Zb):∀J6:List Str,(ck ds sg J6).length<=J6.length * ds.length
 |[]=>ee _
 |r::J6=>by
  show((aS ds (r,sg))++ck ds sg J6).length<=(J6.length+1) * ds.length;rw[bf,lr];have h1:=mD ds (r,sg);have h2:=k_ ds sg J6;omega
theorem k6{ds:List ak}{sg J6:Zb}{b:Str}:b∈ck ds sg J6↔∃r∈J6,(⟨r,sg,b⟩:ak)∈ds:=by
 unfold ck;rw[List.mem_flatMap];constructor
 ·rintro⟨r,hr,h⟩;exact⟨r,hr,eU.mp h⟩
 ·rintro⟨r,hr,h⟩;exact⟨r,hr,eU.mpr h⟩
inductive kN(C:Addr)(vs:List V)(H:Hp)(Q:VK)(E:XK):Prop
 |mk (x t s:Addr) (J6 sg J0 J1 J2:Zb) (ds:List ak):(vs=[.ref x,.ref t,.ref s])->(bd C H x J0 J1 J2 ds)->(H t=some (.tup (J6.map V.str)))->(H s=some (.tup (sg.map V.str)))->(sg≠bv)->(J6.length<=1000)->(∀(t':Addr) (F:Zb) (H':Hp),H' t'=some (.tup ((J2.filter fun r=>decide (r∈F)).map V.str))->(∀w,w∈F↔gl ds (ck ds sg J6) w)->ab H H'->Q (.ref t') H')->kN C vs H Q E
theorem rp{K:Za}{C hu:Addr}(hhu:∀H,bE K H hu (bv.map V.str)){sp2:Sp}{vs:List V}{H:Hp}{Q:VK}{E:XK}(h:kN C vs H Q E):
  jF K (sp_with_still C) C (gU C) hu sp2 (bc Q) (start jI vs) H:=by
 obtain⟨x,t,s,J6,sg,J0,J1,J2,ds,rfl,M,ht,hs,hne,hz,k⟩:=h;have hdb:∀d∈ds,d.b∈J2:=fun d hd=>(M.ok.good d hd).b;have z4:=M.ok.few;refine⟨_,rfl,lY sg,lY bv,bD (bE.of hs),bD (hhu _),by rw[b9];decide,by rw[b9];decide,_,rfl,?_⟩;rw[jq,zzr0 hne];refine cB ?_;refine⟨(by show 0<=aj;decide),fun g hg=>?_⟩;refine⟨_,rfl,t,rfl,⟨_,bE.of (kp ht hg)⟩,?_⟩;refine v_ (xs:=J6.map V.str) (fun i σ H'=>∃x4:Option V,σ=[some (.ref x),some (.ref t),some (.ref s),some (.ref g),x4]/\H' g=some (.lst ((ck ds sg (J6.take i)).map V.str))/\ab H H')
  ⟨_,rfl,aa,ab.new hg⟩ (fun i σ H' _ ⟨_,_,_,S⟩=>bE.of (S _ _ ht)) ?_ ?_
 ·rintro i y σ H1 hi ⟨x4,rfl,hg1,S1⟩;obtain⟨r,hr,rfl⟩:=bz hi;have M1:=M.same S1;obtain⟨dx,fs,o1,o2,o3,o4,lv,qu,sgA,sl,ts,lps,gps,sps,g1,a1,a2,a3,a4,_⟩:=M1.at_;refine⟨_,rfl,.inl ⟨rfl,_,ay.of hg1⟩,_,rfl,x,dx,fs,rfl,g1,a2,_,rfl,_,rfl,x,s,r,sg,J0,J1,J2,ds,rfl,M1,S1 _ _ hs,fun l H2 hl fr S2=>?_⟩;have hg2:=S2 _ _ hg1;have hlen:((ck ds sg (J6.take i)).map V.str).length+((aS ds (r,sg)).map V.str).length<=aj:=by
   rw[ai,ai];have h1:=k_ ds sg (J6.take i);have h2:=mD ds (r,sg);have h3:(J6.take i).length * ds.length<=1000 * 1000:=Nat.mul_le_mul (by rw[aL];omega) z4;have:(1001000:Nat)<=aj:=by decide
   omega
  refine⟨g,l,_,_,rfl,rfl,hg2,hl,hlen,_,rfl,?_,?_⟩
  ·rw[aa,pF hr,ap]
  ·intro b o q;rw[ah (ac q hg)];exact S2 _ _ (S1 _ _ q)
 ·rintro σ H1 ⟨x4,rfl,hg1,S1⟩;rw[ai,aX]at hg1;refine⟨_,rfl,_,rfl,x,g,ck ds sg J6,J0,J1,J2,ds,rfl,M.same S1,hg1,fun w hw=>?_,fun t' F H' h1 h2 S2=>k t' F H' h1 h2 (S1.trans S2)⟩;obtain⟨r,_,h⟩:=k6.mp hw;exact hdb _ h
def qS(K:Za)(sp_with_still:Sp)(C_Machine:Addr)(sp_Machine_rooms:Sp):TS :=
 aY (aO sp_with_still (ba V0 (xy (rq K) (db C_Machine "rooms" sp_Machine_rooms [] E0 V0 bI) (eM) (gm (tC (.int 1))))))
def so:List Str:=["M"]
inductive cE(C:Addr)(vs:List V)(H:Hp)(Q:VK)(E:XK):Prop
 |mk (x:Addr) (J0 J1 J2:Zb) (ds:List ak):(vs=[.ref x])->(bd C H x J0 J1 J2 ds)->(∀(t':Addr) (F:Zb) (H':Hp),H' t'=some (.tup ((J2.filter fun r=>decide (r∈F)).map V.str))->(∀w,w∈F↔gl ds (J2.take 1) w)->ab H H'->Q (.ref t') H')->cE C vs H Q E
theorem pA{K:Za}{C:Addr}{vs:List V}{H:Hp}{Q:VK}{E:XK}(h:cE C vs H Q E):qS K (sp_with_still C) C (iO C) (bc Q) (start so vs) H:=by
 obtain⟨x,J0,J1,J2,ds,rfl,M,k⟩:=h;obtain⟨dx,fs,o1,o2,o3,o4,lv,qu,sgA,sl,ts,lps,gps,sps,g1,a1,a2,a3,a4,_⟩:=M.at_;have c1:fE (J2.map V.str) none (some 1)=(J2.take 1).map V.str:=rU J2 1;refine⟨_,rfl,_,rfl,x,dx,fs,rfl,g1,a4,x,J0,J1,J2,ds,rfl,M,fun rl hrl=>⟨_,rfl,rl,_,rfl,ay.of aa,fun l hl=>?_⟩⟩;rw[c1];have S:ab H (upd (upd H rl (.lst (J2.map V.str))) l (.lst ((J2.take 1).map V.str))):=(ab.new hrl).trans (ab.new hl);exact⟨x,l,J2.take 1,J0,J1,J2,ds,rfl,M.same S,aa,fun g hg=>dO hg,fun t' F H' h1 h2 S2=>k t' F H' h1 h2 (S.trans S2)⟩
theorem rT(o:Str)(L:Zb):decide (gv o∈L.map gv)=decide (o∈L):=by
 by_cases c:o∈L
 ·rw[zzr1 (nD.mpr c),zzr1 c]
 ·rw[zzr0 (fun z=>c (nD.mp z)),zzr0 c]
theorem bE.same{K:Za}{H H':Hp}{a:Addr}{xs:List V}(S:ab H H')(h:bE K H a xs):bE K H' a xs:=by
 rcases h with(h|⟨o,h⟩)|h
 ·exact .inl (.inl (S _ _ h))
 ·exact .inl (.inr ⟨o,S _ _ h⟩)
 ·exact .inr h
theorem ay.same{K:Za}{H H':Hp}{a:Addr}{xs:List V}(S:ab H H')(h:ay K H a xs):ay K H' a xs:=by
 rcases h with(h|⟨o,h⟩)|h
 ·exact .inl (.inl (S _ _ h))
 ·exact .inl (.inr ⟨o,S _ _ h⟩)
 ·exact .inr h
mutual
theorem mJ.same{K:Za}{H H':Hp}(S:ab H H'):∀{d:DT}{v:V},mJ K H d v->mJ K H' d v
 |.k a,v,h=>by unfold mJ at h ⊢;exact h
 |.t l,v,h=>by
  unfold mJ at h ⊢;obtain⟨b,xs,e,q,r⟩:=h;exact⟨b,xs,e,bE.same S q,DIns.same S r⟩
 |.s l,v,h=>by
  unfold mJ at h ⊢;obtain⟨b,xs,e,q,r⟩:=h;exact⟨b,xs,e,ay.same S q,DIns.same S r⟩
theorem DIns.same{K:Za}{H H':Hp}(S:ab H H'):∀{ds:List DT}{vs:List V},DIns K H ds vs->DIns K H' ds vs
 |[],vs,h=>by unfold DIns at h ⊢;exact h
 |d::ds,vs,h=>by
  unfold DIns at h ⊢;obtain⟨v,us,e,q,r⟩:=h;exact⟨v,us,e,mJ.same S q,DIns.same S r⟩
end
open Classical in
def closF(J2:Zb)(ds:List ak)(gs:Zb):List Str:=J2.filter fun r=>decide (gl ds gs r)
open Classical in
theorem lg{J2 F gs:Zb}{ds:List ak}(hF:∀w,w∈F↔gl ds gs w):J2.filter (fun r=>decide (r∈F))=closF J2 ds gs:=by
 unfold closF;refine List.filter_congr fun r _=>?_;by_cases c:r∈F
 ·rw[zzr1 c,zzr1 ((hF r).mp c)]
 ·rw[zzr0 c,zzr0 fun z=>c ((hF r).mpr z)]
open Classical in
theorem tX{J2 gs gs':Zb}{ds:List ak}(h:∀g,g∈gs↔g∈gs'):closF J2 ds gs=closF J2 ds gs':=by
 have:∀r,gl ds gs r↔gl ds gs' r:=fun r=>⟨fun⟨g,hg,e⟩=>⟨g,(h g).mp hg,e⟩,fun⟨g,hg,e⟩=>⟨g,(h g).mpr hg,e⟩⟩;unfold closF;refine List.filter_congr fun r _=>?_;by_cases c:gl ds gs r
 ·rw[zzr1 c,zzr1 ((this r).mp c)]
 ·rw[zzr0 c,zzr0 fun z=>c ((this r).mpr z)]
theorem qd{J2 gs:Zb}{ds:List ak}:∀r∈closF J2 ds gs,r∈J2:=fun r h=>(dC.mp h).1
theorem l7{J2 gs:Zb}{ds:List ak}:(closF J2 ds gs).length<=J2.length:=ca _ _
def behF(J2:Zb)(ds:List ak)(J6 sg:Zb):List Str:=if sg=bv then J6.filter (fun r=>decide (r∉dS ds))else closF J2 ds (ck ds sg J6)
theorem y9{J2 J6 sg:Zb}{ds:List ak}(hf:∀r∈J6,r∈J2):∀r∈behF J2 ds J6 sg,r∈J2:=by
 intro r h;unfold behF at h;split at h
 ·exact hf r (dC.mp h).1
 ·exact qd r h
theorem t6{J2 J6 sg:Zb}{ds:List ak}(hr:J2.length<=1000)(hf:J6.length<=1000):(behF J2 ds J6 sg).length<=1000:=by
 unfold behF;split
 ·exact aJ (ca _ _) hf
 ·exact aJ l7 hr
theorem yf{J2:Zb}{ds:List ak}{fc:Zb}(hfc:∀r∈fc,r∈J2):(fc.filter fun r=>decide (r∈J2.filter (dP ds)))=fc.filter fun r=>decide (r∉dS ds):=by
 refine List.filter_congr fun r hr=>?_;rw[<-uM];cases q:dP ds r with
 |true=>exact zzr1 (dC.mpr ⟨hfc r hr,q⟩)
 |false=>exact zzr0 (fun z=>by rw[(dC.mp z).2]at q;cases q)
inductive nu(K:Za)(C:Addr)(vs:List V)(H:Hp)(Q:VK)(E:XK):Prop
 |mk (x t s:Addr) (J6 sg J0 J1 J2:Zb) (ds:List ak):(vs=[.ref x,.ref t,.ref s])->(bd C H x J0 J1 J2 ds)->(H t=some (.tup (J6.map V.str)))->(bE K H s (sg.map V.str))->((sg=bv∨H s=some (.tup (sg.map V.str))))->((∀r∈J6,r∈J2))->(J6.length<=1000)->(∀(t':Addr) (H':Hp),H' t'=some (.tup ((behF J2 ds J6 sg).map V.str))->ab H H'->Q (.ref t') H')->nu K C vs H Q E
theorem zI{K:Za}{C hu:Addr}(hhu:∀H,bE K H hu (bv.map V.str)){vs:List V}{H:Hp}{Q:VK}{E:XK}(h:nu K C vs H Q E):
  jF K (sp_with_still C) C (gU C) hu (gt C) (bc Q) (start jI vs) H:=by
 obtain⟨x,t,s,J6,sg,J0,J1,J2,ds,rfl,M,ht,hs,hor,hsub,hz,k⟩:=h;by_cases hh:sg=bv;rotate_left
 ·refine rp (E:=E) hhu ⟨x,t,s,J6,sg,J0,J1,J2,ds,rfl,M,ht,hor.resolve_left hh,hh,hz,fun t' F H' h1 hF S=>k t' H' ?_ S⟩;rw[h1,lg hF];unfold behF;rw[if_neg hh]
 subst hh;refine⟨_,rfl,lY bv,lY bv,bD hs,bD (hhu _),by rw[b9];decide,by rw[b9];decide,_,rfl,?_⟩;rw[zzr1 rfl];refine cA ?_;refine⟨_,rfl,t,rfl,⟨_,bE.of ht⟩,fun f hf=>?_⟩;refine tU (xs:=J6.map V.str) (fun i vs H'=>vs=((J6.take i).filter fun r=>decide (r∈J2.filter (dP ds))).map V.str/\ab H H'/\H' f=some (.lst vs)) ⟨rfl,ab.new hf,aa⟩ (fun i vs H' _ ⟨_,S,h'⟩=>⟨h',bE.of (S _ _ ht)⟩) ?_ ?_
 ·rintro vs H' ⟨rfl,S,f'⟩;rw[ai,aX]at f';refine⟨f,_,rfl,.inl ⟨ay.of f',fun t' ht'=>k t' _ ?_ (S.trans (ab.new ht'))⟩⟩;rw[aa,yf hsub];unfold behF;rw[if_pos rfl]
 ·rintro i vs H' x' hx' hi ⟨rfl,S,f'⟩;obtain⟨r,hr,rfl⟩:=bz hx';have M':=M.same S;obtain⟨dx,fs,o1,o2,o3,o4,lv,qu,sgA,sl,ts,lps,gps,sps,g1,a1,_⟩:=M'.at_;refine gN ?_;refine⟨_,rfl,x,dx,fs,rfl,g1,a1,_,rfl,x,r,J0,J1,J2,ds,rfl,M',_,rfl,?_⟩;have hlen:(((J6.take i).filter fun r=>decide (r∈J2.filter (dP ds))).map V.str).length<aj:=by
   rw[ai];refine am (aJ (ca _ _) ?_);rw[aL];omega
  refine iV (fun hq=>?_) (fun hq=>?_)
  ·refine⟨_,rfl,f',hlen,lT hi ⟨?_,?_,aa⟩⟩
   ·rw[bo hr,if_pos hq,ap];rfl
   ·intro b o q;rw[ah (ac q hf)];exact S _ _ q
  ·refine lT hi ⟨?_,S,f'⟩;rw[bo hr,if_neg hq,c6]
theorem wD{J0 J1 J2:Zb}{dr:ak}(g:zd J0 J1 J2 dr):∃s0 rest,dr.sg=s0::rest/\(!decide (V.str s0=V.str ("ask":Str)))=!iW dr:=by
 obtain⟨s0,rest,hsg⟩:∃s0 rest,dr.sg=s0::rest:=by
  rcases g.sg with⟨w,_,e⟩|⟨w,_,e⟩|e<;>exact⟨_,_,e⟩
 refine⟨s0,rest,hsg,?_⟩;unfold iW;rw[hsg];congr 1;show _=decide (s0=("ask":Str));by_cases c:s0=("ask":Str)
 ·rw[zzr1 c,zzr1 (by rw[c])]
 ·rw[zzr0 c,zzr0 (fun z=>c (by injection z))]
inductive rh(K:Za)(vs:List V)(H:Hp)(Q:VK)(E:XK):Prop
 |mk (t ft s l1 l2 l3 l4:Addr) (ts:Ze) (J0 J1 J2 J6 sg:Zb) (ds:List ak):(vs=[.ref t,.ref ft,.ref s])->(iz H t l1 l2 l3 l4 ts J0 J1 J2 ds)->(bH J0 J1 J2 ds)->(H ft=some (.tup (J6.map V.str)))->(bE K H s (sg.map V.str))->(J6.length<=1000)->(∀(t':Addr) (H':Hp),H' t'=some (.tup ((behF J2 ds J6 sg).map V.str))->ab H H'->Q (.ref t') H')->rh K vs H Q E
abbrev i4(H:Hp)(us:Ze)(L:List (List Str)):Prop:=Paired (SignAt H) us L
theorem i4.kt{H H':Hp}{us:Ze}{L:List (List Str)}(k:iC H H')(h:i4 H us L):i4 H' us L:=Paired.mapP h fun _ _ r=>k _ _ r
def bL(J0 J1:Zb):List (List Str):=J0.map c7++J1.map eT++[bv]
theorem ia{K:Za}{σ:L2.St}{H:Hp}{a l:Addr}{ws:Zb}{kd:Str}{Q:Hp->Prop}(ha:H a=some (.lst (ws.map V.str)))(hz:ws.length<=1000)(hl:H l=none)
  (k:∀(us:Ze) (H':Hp),H' l=some (.lst (us.map V.ref))->i4 H' us (ws.map fun w=>[kd,w])->ab H H'->Q H') :
  dj 1 [] σ (zf K a) U0 iy (bV (ba (tC (.str kd)) V0)) H l Q:=by
 refine bN (xs:=ws.map V.str) (fun i vs H'=>∃us:List Addr,vs=us.map V.ref/\ab H H'/\H' l=some (.lst vs)/\i4 H' us ((ws.take i).map fun w=>[kd,w])) ⟨[],rfl,ab.new hl,aa,.nil⟩ (fun i vs H' _ ⟨_,_,S,h',_⟩=>⟨h',ay.of (S _ _ ha)⟩) ?_ ?_
 ·rintro vs H' ⟨us,rfl,S,h',hP⟩;rw[ai,aX]at hP;exact k us H' h' hP S
 ·rintro i vs H' x' hx' hi ⟨us,rfl,S,f',hP⟩;obtain⟨w,hw,rfl⟩:=bz hx';refine gN (qK ?_);refine⟨_,rfl,(by show 2<=aj;decide),fun u hu=>⟨kp f' hu,?_,lT hi ⟨us++[u],by rw[ap];rfl,?_,aa,?_⟩⟩⟩
  ·rw[ai,Paired.length hP,ai,aL];exact am (by omega)
  ·intro b o q;rw[ah (ac q hl)];exact kp (S _ _ q) hu
  ·rw[take_snoc hw,ap];have hk:iC H' (upd (upd H' u (.tup [.str kd,.str w])) l (.lst (us.map V.ref++[.ref u]))):=(ab.kt (ab.new hu)).trans (gG (kp f' hu));exact hC (i4.kt hk hP) ((gG (kp f' hu)) _ _ aa)
theorem y0(xs:List V)(k:Nat):fE xs none (some (k:Int))=xs.take k:=by
 unfold fE;rw[HT.sIx_none,HT.sIx_nat,ly,qw,List.take_eq_take_iff];omega
def oe(K:Za):TS :=
 aY (gi (cO K) (aB (fT K V0 "own_asks")))
def o5:List Str:=["self"]
def n_(K:Za):TS :=
 aY (gi (cO K) (aB (fT K V0 "own_says")))
def o0:List Str:=["self"]
theorem on{C x:Addr}{H:Hp}{J0 J1 J2:Zb}{ds:List ak}(h:bd C H x J0 J1 J2 ds):∃(dx:Addr) (fs:List (Str×V)) (o1 o2 lv:Addr) (lps:List (Str×Addr)),H x=some (.ins C dx fs)/\lk "asks" fs=none/\lk "says" fs=none/\lk "doors_from" fs=none/\lk "is_quiet" fs=none/\lk "own_asks" fs=some (.ref o1)/\lk "own_says" fs=some (.ref o2)/\lk "leaving" fs=some (.ref lv) /\
  H o1=some (.lst (J0.map V.str))/\H o2=some (.lst (J1.map V.str))/\lps.map (·.1)=J2/\H lv=some (.dK (cw Sum.inr lps))/\(∀x∈lps,∃us,H x.2=some (.lst (us.map V.ref))/\cD H us (bu ds x.1)):=by
 obtain⟨dx,fs,o1,o2,o3,o4,lv,qu,sg,sl,ts,lps,gps,sps,g1,a1,a2,a3,a4,b1,b2,b3,b4,b5,b6,b7,b8,L,c1,c2,c3,c4,G,d1,d2,d3⟩:=h.at_;obtain⟨dx',fs',g1',e1,e2,e3,e4⟩:=h.more;rw[g1]at g1';cases g1';exact⟨dx,fs,o1,o2,lv,lps,g1,e1,e2,e4,a1,b1,b2,b5,L.a1,L.a2,c1,c2,c3⟩
inductive nz(C:Addr)(vs:List V)(H:Hp)(Q:VK)(E:XK):Prop
 |mk (x:Addr) (J0 J1 J2:Zb) (ds:List ak):(vs=[.ref x])->(bd C H x J0 J1 J2 ds)->(∀l,H l=none->Q (.ref l) (upd H l (.lst (J0.map V.str))))->nz C vs H Q E
theorem zK{K:Za}{C:Addr}(M:MC K C){vs:List V}{H:Hp}{Q:VK}{E:XK}(h:nz C vs H Q E):oe K (bc Q) (start o5 vs) H:=by
 obtain⟨x,J0,J1,J2,ds,rfl,h,k⟩:=h;obtain⟨dx,fs,o1,o2,lv,lps,g1,a1,a2,a3,a4,b1,b2,b3,c1,c2,_⟩:=on h;exact⟨_,rfl,x,C,dx,fs,.ref o1,rfl,g1,M.cls,M.a1,b1,.inl ⟨o1,_,rfl,.inl (ay.of c1),k⟩⟩
inductive kJ(C:Addr)(vs:List V)(H:Hp)(Q:VK)(E:XK):Prop
 |mk (x:Addr) (J0 J1 J2:Zb) (ds:List ak):(vs=[.ref x])->(bd C H x J0 J1 J2 ds)->(∀l,H l=none->Q (.ref l) (upd H l (.lst (J1.map V.str))))->kJ C vs H Q E
theorem zF{K:Za}{C:Addr}(M:MC K C){vs:List V}{H:Hp}{Q:VK}{E:XK}(h:kJ C vs H Q E):n_ K (bc Q) (start o0 vs) H:=by
 obtain⟨x,J0,J1,J2,ds,rfl,h,k⟩:=h;obtain⟨dx,fs,o1,o2,lv,lps,g1,a1,a2,a3,a4,b1,b2,b3,c1,c2,_⟩:=on h;exact⟨_,rfl,x,C,dx,fs,.ref o2,rfl,g1,M.cls,M.a2,b2,.inl ⟨o2,_,rfl,.inl (ay.of c2),k⟩⟩
inductive jd (vs:List V)(H:Hp)(Q:VK)(E:XK):Prop
 |mk (p c:Addr) (most full:Int):(vs=[.ref p,.int most,.int full])->(fb H p c)->(0<most)->(most<=25)->(0<=full)->(full<=2)->(∀(t l1 l2 l3 l4:Addr) (ts:Ze) (J0 J1 J2:Zb) (ds:List ak) (H':Hp),iz H' t l1 l2 l3 l4 ts J0 J1 J2 ds->bH J0 J1 J2 ds->J2.length<=most.toNat->ds.length<=600->fb H' p c->bh p H H'->H l4=none->Q (.ref t) H')->jd  vs H Q E
theorem wG{K:Za}{vs:List V}{H:Hp}{Q:VK}{E:XK}(h:jd vs H Q E):sO K eN kL fw rj (bc Q) (start ud vs) H:=by
 obtain⟨p,c,most,full,rfl,hp,m0,m1,f0,f2,k⟩:=h;refine⟨_,rfl,p,c,rfl,hp,fun H1 hp1 ex1=>?_⟩;refine⟨_,rfl,p,c,8,rfl,hp1,by decide,fun lw ws H2 ok len fr hl hp2 ex2=>?_⟩;have e2:=ex1.trans ex2;have nw:=hp2.ne_strs hl;refine⟨_,rfl,(by show 6<=aj;decide),fun q hq=>⟨_,rfl,eX (hp2.ex (ab.new hq)) (by decide) (by decide) fun r H3 r0 r1 hp3 ex3=>?_⟩⟩;obtain⟨n,hn,n3⟩:=at6 r0 r1;have hl3:H3 lw=some (.lst (ws.map V.str)):=ex3 _ _ (kp hl hq) nw;refine⟨q,_,_,_,rfl,rfl,ay.of (ex3 _ _ aa (hp2.nep hq).symm),hn,_,_,rfl,rfl,_,rfl,lw,_,rfl,ay.of hl3,fun l1 hl1=>?_⟩;have ea:fE (ws.map V.str) none (some (1+(n:Int)))=(ws.take (1+n)).map V.str:=rU ws (1+n);rw[ea];have e3:bh p H H3:=e2.trans ((bh.new hq).trans ex3);have hp4:fb (upd H3 l1 (.lst ((ws.take (1+n)).map V.str))) p c:=hp3.ex (ab.new hl1);have e4:bh p H (upd H3 l1 (.lst ((ws.take (1+n)).map V.str))):=e3.trans (bh.new hl1);have hl4:upd H3 l1 (.lst ((ws.take (1+n)).map V.str)) lw=some (.lst (ws.map V.str)):=kp hl3 hl1;have ha4:upd H3 l1 (.lst ((ws.take (1+n)).map V.str)) l1=some (.lst ((ws.take (1+n)).map V.str)):=aa;generalize upd H3 l1 (.lst ((ws.take (1+n)).map V.str))=H4 at hp4 e4 hl4 ha4 ⊢;refine⟨_,rfl,_,rfl,(by show 6<=aj;decide),fun q hq=>⟨_,rfl,eX (hp4.ex (ab.new hq)) (by decide) (by decide) fun r H5 r0 r1 hp5 ex5=>?_⟩⟩;obtain⟨m,hm,m3⟩:=at6 r0 r1;have hl5:H5 lw=some (.lst (ws.map V.str)):=ex5 _ _ (kp hl4 hq) nw;have ha5:H5 l1=some (.lst ((ws.take (1+n)).map V.str)):=ex5 _ _ (kp ha4 hq) (hp4.ne_strs ha4);refine⟨q,_,_,_,rfl,rfl,ay.of (ex5 _ _ aa (hp4.nep hq).symm),hm,_,_,rfl,rfl,_,rfl,lw,_,rfl,ay.of hl5,fun l2 hl2=>?_⟩;rw[y1 len m3];have e5:bh p H H5:=e4.trans ((bh.new hq).trans ex5);have hp6:fb (upd H5 l2 (.lst (((ws.drop 4).take (1+m)).map V.str))) p c:=hp5.ex (ab.new hl2);have e6:bh p H (upd H5 l2 (.lst (((ws.drop 4).take (1+m)).map V.str))):=e5.trans (bh.new hl2);have ha6:upd H5 l2 (.lst (((ws.drop 4).take (1+m)).map V.str)) l1=some (.lst ((ws.take (1+n)).map V.str)):=kp ha5 hl2;have hb6:upd H5 l2 (.lst (((ws.drop 4).take (1+m)).map V.str)) l2=some (.lst (((ws.drop 4).take (1+m)).map V.str)):=aa;generalize upd H5 l2 (.lst (((ws.drop 4).take (1+m)).map V.str))=H6 at hp6 e6 ha6 hb6 ⊢;refine⟨_,rfl,_,rfl,_,rfl,eX hp6 m0 (by omega) fun r H7 r0 r1 hp7 ex7=>?_⟩;obtain⟨rn,rfl⟩:=jK r0;have ha7:=ex7 _ _ ha6 (hp6.ne_strs ha6);have hb7:=ex7 _ _ hb6 (hp6.ne_strs hb6);refine⟨_,_,rfl,rfl,p,c,1+rn,rfl,hp7,by omega,fun l3 J2 H8 okr lenr fr3 hl3' hp8 ex8=>?_⟩;have ha8:=ex8 _ _ ha7 (hp7.ne_strs ha7);have hb8:=ex8 _ _ hb7 (hp7.ne_strs hb7);have hs0:(ws.drop 4).take (1+m)≠[]:=by
  intro z;have:=congrArg List.length z;rw[aL,fO,len]at this;simp at this
 have ha0:ws.take (1+n)≠[]:=by
  intro z;have:=congrArg List.length z;rw[aL,len]at this;simp at this
 have hr0:J2≠[]:=by
  intro z;rw[z]at lenr;simp at lenr;omega
 refine⟨_,rfl,_,rfl,_,rfl,_,rfl,_,rfl,p,c,l1,l2,l3,_,_,J2,full,rfl,hp8,ha8,hb8,hl3',by rw[aL];omega,hs0,by rw[aL];omega,hr0,by omega,f0,f2,fun l4 ts ds up H9 fr4 hl4' hds nod good few hp9 ex9=>?_⟩;have ha9:=ex9 _ _ ha8 (hp8.ne_strs ha8);have hb9:=ex9 _ _ hb8 (hp8.ne_strs hb8);have hc9:=ex9 _ _ hl3' (hp8.ne_strs hl3');refine⟨_,rfl,_,rfl,_,rfl,_,rfl,(by show 4<=aj;decide),fun t ht=>k t l1 l2 l3 l4 ts _ _ J2 ds _ ⟨aa,kp ha9 ht,kp hb9 ht,kp hc9 ht,kp hl4' ht,hds.kt (ab.kt (ab.new ht))⟩ ?_ ?_ few (hp9.ex (ab.new ht)) ?_ ?_⟩
 ·refine⟨⟨?_,fun w h=>ok.2 w (dO h)⟩,⟨?_,fun w h=>ok.2 w (List.mem_of_mem_drop (dO h))⟩,?_,okr,ha0,hs0,hr0,by rw[aL];omega,by rw[aL];omega,by omega,nod,fun d hd=>(good d hd).d,by omega,fun r z=>(xG okr.1 good z).irr okr.1⟩
  ·exact ok.1.sublist (List.take_sublist _ _)
  ·exact ok.1.sublist ((List.take_sublist _ _).trans (List.drop_sublist _ _))
  ·intro w h1 h2;have h3:w∈ws.drop 4:=dO h1;have h4:w∈ws.take 4:=by
    have:ws.take (1+n)=(ws.take 4).take (1+n):=by rw[List.take_take];congr 1;omega
    rw[this]at h2;exact dO h2
   have:=ok.1;rw[<-List.take_append_drop 4 ws,cG]at this;exact this.2.2 w h4 w h3 rfl
 ·omega
 ·exact(((e6.trans ex7).trans ex8).trans ex9).trans (bh.new ht)
 ·cases q:H l4 with
  |none=>rfl
  |some o=>rw[((e6.trans ex7).trans ex8) _ _ q (hp8.nep fr4).symm]at fr4;cases fr4
inductive cq (vs:List V)(H:Hp)(Q:VK)(E:XK):Prop
 |mk (l3 l4:Addr) (ts:Ze) (J2:Zb) (ds:List ak):(vs=[.ref l3,.ref l4])->(H l3=some (.lst (J2.map V.str)))->(H l4=some (.lst (ts.map V.ref)))->(cD H ts ds)->(J2.Nodup)->(J2.length<=1000)->(ds.length<=9000)->((∀d∈ds,d.a∈J2))->(∀(d:Addr) (ps:List (Str×Addr)) (H':Hp),ps.map (·.1)=J2->H' d=some (.dK (cw Sum.inr ps))->(∀x∈ps,∃us,H' x.2=some (.lst (us.map V.ref))/\cD H' us (bu ds x.1))->ab H H'->(∀x∈ps,H x.2=none)->Q (.ref d) H')->cq  vs H Q E
theorem j1{K:Za}{vs:List V}{H:Hp}{Q:VK}{E:XK}(h:cq vs H Q E):lJ K (bc Q) (start mf vs) H:=by
 obtain⟨l3,l4,ts,J2,ds,rfl,h3,h4,hds,nod,hz,hz2,hin,k⟩:=h;refine fun d hd=>?_;refine⟨_,rfl,l3,rfl,⟨_,ay.of (kp h3 hd)⟩,?_⟩;refine bP (xs:=J2.map V.str) (fun i σ H'=>∃x y,σ=[some (.ref l3),some (.ref l4),some (.ref d),x,y]/\∃ps:List (Str×Addr),ps.map (·.1)=J2.take i/\H' d=some (.dK (cw Sum.inr ps))/\DL H H' d ps/\∀x∈ps,H' x.2=some (.lst []))
  ⟨_,_,rfl,[],rfl,aa,⟨by simp,by simp,by simp,hd,by simp,ab.new hd⟩,by simp⟩ (fun i σ H' _ ⟨_,_,_,_,_,_,D,_⟩=>ay.of (D.same _ _ h3)) ?_ ?_
 ·rintro i x σ H' hi ⟨x3,x4,rfl,ps,hps,hd',D,hls⟩;obtain⟨w,hw,rfl⟩:=bz hi;have hnew:w∉ps.map (·.1):=by
   rw[hps];intro z;have:=nod;rw[<-List.take_append_drop (i+1) J2,take_snoc hw,cG]at this;have:=this.1;rw[cG]at this;exact this.2.2 w z w (by simp) rfl
  refine⟨(by show 0<=aj;decide),fun a ha=>?_⟩;have hlen:(cw (Sum.inr:Str->di) ps).length<aj:=am (by
   unfold cw;rw[ai,<-ai (f:=(·.1)) (as:=ps),hps,aL];omega)
  have haH:H a=none:=D.same.free ha;have nda:a≠d:=(ac hd' ha).symm;have hneA:∀x∈ps,x.2≠a:=fun x hx=>ac (hls x hx) ha;refine⟨_,rfl,_,rfl,d,_,rfl,.inl ⟨_,.inr w,kp hd' ha,rfl,hlen,rfl⟩,_,_,rfl,ps++[(w,a)],?_,?_,?_,?_⟩
  ·rw[ap,hps,take_snoc hw];rfl
  ·rw[aa,fW _ (jm gA hnew),pZ]
  ·refine D.snoc hnew hneA haH nda ?_;intro b o q;rw[ah (ac q hd)];exact kp (D.same _ _ q) ha
  ·intro x hx;rcases aU.mp hx with hx|hx
   ·rw[ah (D.ned x hx)];exact kp (hls x hx) ha
   ·have:x=(w,a):=by simpa using hx
    rw[this,ah nda];exact aa
 ·rintro σ H1 ⟨x3,x4,rfl,ps,hps,hd1,D1,hls⟩;rw[ai,aX]at hps;refine⟨_,rfl,l4,rfl,⟨_,ay.of (D1.same _ _ h4)⟩,?_⟩;refine bP (xs:=ts.map V.ref) (fun i σ H'=>∃x4,σ=[some (.ref l3),some (.ref l4),some (.ref d),x3,x4]/\H' d=some (.dK (cw Sum.inr ps))/\DL H H' d ps/\∀x∈ps,∃us,H' x.2=some (.lst (us.map V.ref))/\cD H' us (bu (ds.take i) x.1))
   ⟨_,rfl,hd1,D1,fun x hx=>⟨[],hls x hx,.nil⟩⟩ (fun i σ H' _ ⟨_,_,_,D,_⟩=>ay.of (D.same _ _ h4)) ?_ ?_
  ·rintro i x σ H' hi ⟨x4,rfl,hd',D,hls⟩;obtain⟨t,ht,rfl⟩:=cg hi;obtain⟨dr,hdr,hat⟩:=Paired.getL hds ht;have hat':=hat.kt (ab.kt D.same);have hat2:=hat';obtain⟨s,ht2,hs2⟩:=hat';have hmem:dr.a∈ps.map (·.1):=by rw[hps];exact hin dr (dB hdr)
   obtain⟨⟨r,a⟩,hra,er⟩:=aE.mp hmem;obtain rfl:r=dr.a:=er;obtain⟨us,hus,hdo⟩:=hls _ hra;have hil:i<ds.length:=(bT.mp hdr).1;have hlu:us.length<=9000:=by
    rw[Paired.length hdo];refine aJ (ca _ _) ?_;rw[aL];omega
   have KT:iC H' (upd H' a (.lst (us.map V.ref++[.ref t]))):=gG hus;refine⟨_,rfl,_,rfl,.inr (.inl ⟨t,_,0,_,rfl,rfl,bE.of ht2,rfl,d,.ref a,rfl,.inl ⟨_,.inr dr.a,.inl hd',rfl,(cX gA D.nd hra).symm⟩,.inl ⟨rfl,_,ay.of hus⟩,_,rfl,a,_,_,rfl,rfl,hus,?_,_,rfl,?_,?_,?_⟩)⟩
   ·rw[ai];exact em hlu
   ·rw[ah (D.ned _ hra).symm];exact hd'
   ·refine⟨D.nd,D.na,D.fr,D.frd,D.ned,fun b o q=>?_⟩;rw[ah (ac q (D.fr _ hra))];exact D.same _ _ q
   ·intro x hx;have hfl:∀r',bu (ds.take (i+1)) r'=bu (ds.take i) r'++(if dr.a=r' then[dr]else[]):=by
     intro r';unfold bu;rw[take_snoc hdr,fM];congr 1;by_cases c:dr.a=r'
     ·rw[if_pos c];simp[c]
     ·rw[if_neg c];simp[c]
    by_cases c:x.2=a
    ·have ex:=yB D.na hx hra c;subst ex;refine⟨us++[t],?_,?_⟩
     ·show upd H' a _ a=_;rw[aa,ap];rfl
     ·rw[hfl];show cD _ _ (bu (ds.take i) dr.a++(if dr.a=dr.a then[dr]else[]))
      rw[if_pos rfl];exact Paired.app (hdo.kt KT) (.cons (hat2.kt KT) .nil)
    ·obtain⟨us',h1,h2⟩:=hls x hx;have hne:¬(dr.a=x.1):=fun z=>by
      have e1:=cX (e:=(Sum.inr:Str->di)) gA D.nd hra;have e2:=cX (e:=(Sum.inr:Str->di)) (i:=x.1) (a:=x.2) gA D.nd hx;rw[<-z,e1]at e2;injection e2 with e2;injection e2 with e2;exact c e2.symm
     refine⟨us',by rw[ah c];exact h1,?_⟩;rw[hfl,if_neg hne,c6];exact h2.kt KT
  ·rintro σ H' ⟨x4,rfl,hd',D,hls⟩;rw[ai,Paired.length hds,aX]at hls;exact⟨_,rfl,k d ps H' hps hd' hls D.same D.fr⟩
inductive ji (vs:List V)(H:Hp)(Q:VK)(E:XK):Prop
 |mk (l4:Addr) (ts:Ze) (ds:List ak):(vs=[.ref l4])->(H l4=some (.lst (ts.map V.ref)))->(cD H ts ds)->(ds.length<=9000)->(∀(g:Addr) (ps:List ((Str×List Str)×Addr)) (H':Hp),ib H' g ps ds->ab H H'->(∀x∈ps,H x.2=none)->Q (.ref g) H')->ji  vs H Q E
theorem wN{K:Za}{vs:List V}{H:Hp}{Q:VK}{E:XK}(h:ji vs H Q E):gh K (bc Q) (start gj vs) H:=by
 obtain⟨l4,ts,ds,rfl,h4,hds,hz,k⟩:=h;refine fun g hg=>?_;refine⟨_,rfl,l4,rfl,⟨_,ay.of (kp h4 hg)⟩,?_⟩;refine bP (xs:=ts.map V.ref) (fun i σ H'=>∃x y z,σ=[some (.ref l4),some (.ref g),x,y,z]/\∃ps:List ((Str×List Str)×Addr),DL H H' g ps/\H' g=some (.dT (cw o8 ps))/\ps.length<=i/\(∀x∈ps,H' x.2=some (.lst ((aS (ds.take i) x.1).map V.str)))/\∀d∈ds.take i,(d.a,d.sg)∈ps.map (·.1))
  ⟨_,_,_,rfl,[],⟨by simp,by simp,by simp,hg,by simp,ab.new hg⟩,aa,by simp,by simp,by simp⟩ (fun i σ H' _ ⟨_,_,_,_,_,D,_⟩=>ay.of (D.same _ _ h4)) ?_ ?_
 ·rintro i x σ H' hi ⟨x2,x3,x4,rfl,ps,D,hg',hlen,hls,hall⟩;obtain⟨t,ht,rfl⟩:=cg hi;obtain⟨dr,hdr,hat⟩:=Paired.getL hds ht;have hil:i<ds.length:=(bT.mp hdr).1;obtain⟨s,ht2,hs2⟩:=hat.kt (ab.kt D.same);refine⟨t,_,rfl,bE.of ht2,rfl,_,_,rfl,_,_,rfl,_,_,rfl,rfl,?_⟩;refine⟨_,rfl,.inr (.inr (.inl ⟨rfl,.inr ⟨_,hg'⟩⟩)),_,rfl,_,rfl,(by show 2<=aj;decide),fun kt hkt=>⟨(by show 0<=aj;decide),fun nl hnl=>?_⟩⟩;have S2:ab H' (upd (upd H' kt (.tup [.str dr.a,.ref s])) nl (.lst [])):=(ab.new hkt).trans (ab.new hnl);have hkt2:upd (upd H' kt (.tup [.str dr.a,.ref s])) nl (.lst []) kt=some (.tup [.str dr.a,.ref s]):=kp aa hnl;have hnl2:upd (upd H' kt (.tup [.str dr.a,.ref s])) nl (.lst []) nl=some (.lst []):=aa;have hnlH':H' nl=none:=(ab.new hkt).free hnl;generalize upd (upd H' kt (.tup [.str dr.a,.ref s])) nl (.lst [])=H2 at S2 hkt2 hnl2 ⊢;have htk:cC H2 (o8 (dr.a,dr.sg)) (.ref kt):=by
   unfold o8 cC;refine⟨kt,_,rfl,hkt2,?_⟩;unfold TKAts;refine⟨_,_,rfl,qM _,?_⟩;unfold TKAts;refine⟨_,_,rfl,SignAt.tk (S2 _ _ hs2),?_⟩;unfold TKAts
   rfl
  have hlk:(cw o8 ps).length<aj:=em (by unfold cw;rw[ai];omega);have hgo:∀x,aS (ds.take (i+1)) x=aS (ds.take i) x++(if(dr.a,dr.sg)=x then[dr.b]else[]):=fun x=>by rw[take_snoc hdr,rS]
  have hgl:∀x,(aS (ds.take i) x).length<=9000:=fun x=>by
   unfold aS;rw[ai];refine aJ (ca _ _) ?_;rw[aL];omega
  refine⟨g,kt,_,o8 (dr.a,dr.sg),.ref nl,rfl,rfl,S2 _ _ hg',htk,jj _,hlk,fun v hv=>?_,fun hv=>?_⟩
  ·-- there already
   have hmem:(dr.a,dr.sg)∈ps.map (·.1):=by
    refine Classical.byContradiction fun z=>?_;rw[jm fx z]at hv;cases hv
   obtain⟨⟨r,a⟩,hra,er⟩:=aE.mp hmem;obtain rfl:r=(dr.a,dr.sg):=er;rw[cX fx D.nd hra]at hv;injection hv with hv;subst hv;have hla:=S2 _ _ (hls _ hra);refine⟨.inl ⟨rfl,_,ay.of hla⟩,_,rfl,a,_,_,rfl,rfl,hla,by rw[ai];exact em (hgl _),_,_,_,rfl,ps,⟨D.nd,D.na,D.fr,D.frd,D.ned,fun b o q=>?_⟩,?_,by omega,?_,?_⟩
   ·rw[ah (ac q (D.fr _ hra))];exact S2 _ _ (D.same _ _ q)
   ·rw[ah (D.ned _ hra).symm];exact S2 _ _ hg'
   ·intro x hx;by_cases c:x.2=a
    ·have ex:=yB D.na hx hra c;subst ex;show upd H2 a _ a=_;rw[aa,hgo,if_pos rfl,ap];rfl
    ·have hne:¬((dr.a,dr.sg)=x.1):=fun z=>by
      have e1:=cX (e:=o8) fx D.nd hra;have e2:=cX (e:=o8) (i:=x.1) (a:=x.2) fx D.nd hx;rw[<-z,e1]at e2;injection e2 with e2;injection e2 with e2;exact c e2.symm
     rw[ah c,hgo,if_neg hne,c6];exact S2 _ _ (hls x hx)
   ·intro d hd;rw[take_snoc hdr]at hd;rcases aU.mp hd with hd|hd
    ·exact hall d hd
    ·have:d=dr:=by simpa using hd
     rw[this];exact hmem
  ·-- a new list
   have hnew:(dr.a,dr.sg)∉ps.map (·.1):=by
    intro z;obtain⟨⟨r,a⟩,hra,er⟩:=aE.mp z;obtain rfl:r=(dr.a,dr.sg):=er;rw[cX fx D.nd hra]at hv;cases hv
   have hgne:nl≠g:=(ac hg' hnlH').symm;have hnl3:upd H2 g (.dT (cw o8 ps++[(o8 (dr.a,dr.sg),.ref nl)])) nl=some (.lst []):=by rw[ah hgne];exact hnl2
   refine⟨.inl ⟨rfl,_,ay.of hnl3⟩,_,rfl,nl,_,_,rfl,rfl,hnl3,(by show 0<aj;decide),_,_,_,rfl,ps++[((dr.a,dr.sg),nl)],?_,?_,?_,?_,?_⟩
   ·refine D.snoc hnew (fun x hx=>ac (hls x hx) hnlH') (D.same.free hnlH') hgne ?_;intro b o q;rw[ah (ac q (D.same.free hnlH')),ah (ac q hg)];exact S2 _ _ (D.same _ _ q)
   ·rw[ah hgne.symm,aa,pZ]
   ·rw[bf];show _+1<=_;omega
   ·intro x hx;rcases aU.mp hx with hx|hx
    ·have hne:¬((dr.a,dr.sg)=x.1):=fun z=>hnew (by rw[z];exact aE.mpr ⟨x,hx,rfl⟩);rw[ah (ac (hls x hx) hnlH'),ah (D.ned x hx),hgo,if_neg hne,c6];exact S2 _ _ (hls x hx)
    ·have:x=((dr.a,dr.sg),nl):=by simpa using hx
     subst this;have hnil:aS (ds.take i) (dr.a,dr.sg)=[]:=iX fun d hd z=>hnew (by rw[<-z];exact hall d hd);show upd _ nl _ nl=_;rw[aa,hgo,if_pos rfl,hnil]
     rfl
   ·intro d hd;rw[ap];rw[take_snoc hdr]at hd;rcases aU.mp hd with hd|hd
    ·exact cz _ (hall d hd)
    ·have:d=dr:=by simpa using hd
     rw[this];exact cL _ (by simp)
 ·rintro σ H' ⟨x2,x3,x4,rfl,ps,D,hg',hlen,hls,hall⟩;rw[ai,Paired.length hds,aX]at hls hall;exact⟨_,rfl,k g ps H' ⟨D.nd,hg',hls,hall⟩ D.same D.fr⟩
inductive kM(C:Addr)(vs:List V)(H:Hp)(Q:VK)(E:XK):Prop
 |mk (x dx l1 l2 l3 l4:Addr) (ts:Ze) (J0 J1 J2:Zb) (ds:List ak):(vs=[.ref x,.ref l1,.ref l2,.ref l3,.ref l4])->(H x=some (.ins C dx []))->(Lists H l1 l2 l3 l4 ts J0 J1 J2 ds)->(bH J0 J1 J2 ds)->(∀H',(∀J,(∀b o,H' b=some o->(H b=none∨∀xs,o≠.lst xs)->J b=some o)->bd C J x J0 J1 J2 ds)->bh x H H'->Q .non H')->kM C vs H Q E
theorem xV{K:Za}{C:Addr}(M:MC K C){vs:List V}{H:Hp}{Q:VK}{E:XK}(h:kM C vs H Q E):
  jT K sp_need_none sp_first_led_round rg ji (sp_as_keys K) sp_has_asks_alone cq sp_need_parts (bc Q) (start kh vs) H:=by
 obtain⟨x,dx,l1,l2,l3,l4,ts,J0,J1,J2,ds,rfl,hx,L,m,k⟩:=h;have z3:=m.rooms26;have z4:=m.few;refine⟨_,rfl,_,rfl,_,rfl,_,rfl,l1,l2,l3,l4,ts,J0,J1,J2,ds,rfl,L,m,fun H1 S1=>?_⟩;have hx1:=S1 _ _ hx;have L1:=L.same S1;have E1:bh x H H1:=ab.exB S1;refine⟨_,rfl,.inl ⟨l1,_,rfl,.inl (ay.of L1.a1),fun o1 ho1=>⟨_,rfl,x,C,dx,_,rfl,kp hx1 ho1,M.cls,M.a1,(by show 0<1000;decide),?_⟩⟩⟩;obtain⟨H2,e2,hx2,F2⟩:=lZ "own_asks" (.ref o1) (kp (x:=.lst (J0.map V.str)) hx1 ho1);rw[<-e2];have n1:o1≠x:=(ac hx1 ho1).symm;have f1:=F2 _ _ aa n1;have E2:bh x H1 H2:=(bh.new ho1).trans F2;have L2':=L1.exI hx1 E2;have len2:(bR ("own_asks":Str) (.ref o1) []).length<=1:=cP _ _ _;clear e2 F2;refine⟨_,rfl,.inl ⟨l2,_,rfl,.inl (ay.of L2'.a2),fun o2 ho2=>⟨_,rfl,x,C,dx,_,rfl,kp hx2 ho2,M.cls,M.a2,by omega,?_⟩⟩⟩;obtain⟨H3,e3,hx3,F3⟩:=lZ "own_says" (.ref o2) (kp (x:=.lst (J1.map V.str)) hx2 ho2);rw[<-e3];have n2:o2≠x:=(ac hx2 ho2).symm;have f2:=F3 _ _ aa n2;have E3:bh x H2 H3:=(bh.new ho2).trans F3;have L3:=L2'.exI hx2 E3;have len3:=cP ("own_says":Str) (.ref o2) (bR ("own_asks":Str) (.ref o1) []);clear e3 F3;refine⟨_,rfl,.inl ⟨l3,_,rfl,.inl (ay.of L3.a3),fun o3 ho3=>⟨_,rfl,x,C,dx,_,rfl,kp hx3 ho3,M.cls,M.a3,by omega,?_⟩⟩⟩;obtain⟨H4,e4,hx4,F4⟩:=lZ "own_rooms" (.ref o3) (kp (x:=.lst (J2.map V.str)) hx3 ho3);rw[<-e4];have n3:o3≠x:=(ac hx3 ho3).symm;have f3:=F4 _ _ aa n3;have E4:bh x H3 H4:=(bh.new ho3).trans F4;have L4:=L3.exI hx3 E4;have len4:=cP ("own_rooms":Str) (.ref o3) (bR ("own_says":Str) (.ref o2) (bR ("own_asks":Str) (.ref o1) []));clear e4 F4;refine⟨_,rfl,.inl ⟨l4,_,rfl,.inl (ay.of L4.a4),fun o4 ho4=>⟨_,rfl,x,C,dx,_,rfl,kp hx4 ho4,M.cls,M.a4,by omega,?_⟩⟩⟩;obtain⟨H5,e5,hx5,F5⟩:=lZ "own_doors" (.ref o4) (kp (x:=.lst (ts.map V.ref)) hx4 ho4);rw[<-e5];have n4:o4≠x:=(ac hx4 ho4).symm;have f4:=F5 _ _ aa n4;have E5:bh x H4 H5:=(bh.new ho4).trans F5;have L5:=L4.exI hx4 E5;generalize hfs4:bR ("own_doors":Str) (.ref o4) (bR ("own_rooms":Str) (.ref o3) (bR ("own_says":Str) (.ref o2) (bR ("own_asks":Str) (.ref o1) [])))=fs4 at hx5;have len5:fs4.length<=4:=by
  rw[<-hfs4];have:=cP ("own_doors":Str) (.ref o4) (bR ("own_rooms":Str) (.ref o3) (bR ("own_says":Str) (.ref o2) (bR ("own_asks":Str) (.ref o1) [])));omega
 clear e5 F5;refine⟨_,rfl,_,rfl,l3,l4,ts,J2,ds,rfl,L5.a3,L5.a4,L5.ds,m.okR.1,by omega,by omega,fun d hd=>(m.good d hd).a,fun lv lps H6' hlps flv' hlv' S6 nlv=>⟨_,rfl,x,C,dx,fs4,rfl,S6 _ _ hx5,M.cls,M.a5,by omega,?_⟩⟩;obtain⟨H6,e6,hx6,F6⟩:=lZ "leaving" (.ref lv) (S6 _ _ hx5);rw[<-e6];have E6:bh x H5 H6:=(ab.exB S6).trans F6;have L6:=L5.exI hx5 E6;have flv:=F6 _ _ flv' (yz (S6 _ _ hx5) flv');have hlv:∀y∈lps,∃us,H6 y.2=some (.lst (us.map V.ref))/\cD H6 us (bu ds y.1):=fun y hy=>by
  obtain⟨us,g1,g2⟩:=hlv' y hy;exact⟨us,F6 _ _ g1 (bh.neI (S6 _ _ hx5) g1),g2.kt (F6.ktI (S6 _ _ hx5))⟩
 have ndl:(lps.map (·.1)).Nodup:=by rw[hlps];exact m.okR.1
 have len6:=cP ("leaving":Str) (.ref lv) fs4;have lk5:lk "leaving" (bR ("leaving":Str) (.ref lv) fs4)=some (.ref lv):=by
  show d9 _ _=_;rw[aQ,if_pos rfl]
 clear e6 F6 flv' hlv';refine⟨_,rfl,l3,rfl,⟨_,ay.of L6.a3⟩,fun f hf=>?_⟩;refine bN (xs:=J2.map V.str) (fun i vs H'=>vs=((J2.take i).filter (dP ds)).map V.str/\ab H6 H'/\H' f=some (.lst vs)) ⟨rfl,ab.new hf,aa⟩ (fun i vs H' _ ⟨_,S,h'⟩=>⟨h',ay.of (S _ _ L6.a3)⟩) ?_ ?_;rotate_left
 ·rintro i vs H' x' hx' hi ⟨rfl,S,f'⟩;obtain⟨r,hr,rfl⟩:=bz hx';obtain⟨⟨r',a⟩,hra,er⟩:=aE.mp (show r∈lps.map (·.1) by rw[hlps];exact dB hr);obtain rfl:r'=r:=er;obtain⟨us,hus,hdo⟩:=hlv _ hra;refine gN ?_;refine⟨_,rfl,x,C,dx,_,.ref lv,rfl,S _ _ hx6,M.cls,M.a5,lk5,_,rfl,lv,.ref a,rfl,.inl ⟨_,.inr r',.inl (S _ _ flv),rfl,(cX gA ndl hra).symm⟩,a,us,bu ds r',rfl,S _ _ hus,hdo.kt (ab.kt S),aJ (uX _ _) (by omega),m.sg0,fun H'' S''=>⟨_,rfl,?_⟩⟩;have hlen:(((J2.take i).filter (dP ds)).map V.str).length<aj:=by
   rw[ai];refine am (aJ (ca _ _) ?_);rw[aL];omega
  refine iV (fun hq=>?_) (fun hq=>?_)
  ·refine⟨_,rfl,S'' _ _ f',hlen,lT hi ⟨?_,?_,aa⟩⟩
   ·rw[bo hr,if_pos (show dP ds r'=true from hq),ap];rfl
   ·intro b o q;rw[ah (ac q hf)];exact S'' _ _ (S _ _ q)
  ·refine lT hi ⟨?_,S.trans S'',?_⟩
   ·rw[bo hr,if_neg (show ¬dP ds r'=true from hq),c6]
   ·exact S'' _ _ f'
 rintro vs H7' ⟨rfl,S7,f7⟩;rw[ai,aX]at f7;refine l9 (ws:=J2.filter (dP ds)) (ay.of f7) (aJ (ca _ _) (by omega)) fun qu hqu=>⟨_,rfl,x,C,dx,_,rfl,kp (S7 _ _ hx6) hqu,M.cls,M.a6,by omega,?_⟩;obtain⟨H7,e7,hx7,F7⟩:=lZ "quiet" (.ref qu) (kp (x:=.dK (aA (J2.filter (dP ds)))) (S7 _ _ hx6) hqu);rw[<-e7];have n7:qu≠x:=(ac (S7 _ _ hx6) hqu).symm;have fqu:=F7 _ _ aa n7;have E7:bh x H6 H7:=((ab.exB S7).trans (bh.new hqu)).trans F7;have L7:=L6.exI hx6 E7;have len7:=cP ("quiet":Str) (.ref qu) (bR ("leaving":Str) (.ref lv) fs4);clear e7 F7;refine⟨_,rfl,l4,ts,ds,rfl,L7.a4,L7.ds,by omega,fun sg gps H8' G' S8 ngp=>⟨_,rfl,x,C,dx,_,rfl,S8 _ _ hx7,M.cls,M.a7,by omega,?_⟩⟩;obtain⟨H8,e8,hx8,F8⟩:=lZ "sign_goals" (.ref sg) (S8 _ _ hx7);rw[<-e8];have E8:bh x H7 H8:=(ab.exB S8).trans F8;have L8:=L7.exI hx7 E8;have G8:ib H8 sg gps ds:=⟨G'.nd,F8 _ _ G'.g (Ax (S8 _ _ hx7) G'.g),fun y hy=>F8 _ _ (G'.ls y hy) (bh.neI (S8 _ _ hx7) (G'.ls y hy)),G'.all⟩;have len8:=cP ("sign_goals":Str) (.ref sg) (bR ("quiet":Str) (.ref qu) (bR ("leaving":Str) (.ref lv) fs4));have lk7:lk "sign_goals" (bR ("sign_goals":Str) (.ref sg) (bR ("quiet":Str) (.ref qu) (bR ("leaving":Str) (.ref lv) fs4)))=some (.ref sg):=by
  show d9 _ _=_;rw[aQ,if_pos rfl]
 clear e8 F8 G';refine⟨_,rfl,l3,rfl,⟨_,ay.of L8.a3⟩,fun f2' hf2=>?_⟩;refine bN (xs:=J2.map V.str) (fun i vs H'=>∃(us:Ze) (pl:List (Str×Addr)),vs=us.map V.ref/\Paired (fun t (p:Str×Addr)=>H' t=some (.tup [.str p.1,.ref p.2])) us pl/\pl.map (·.1)=J2.take i/\(∀p∈pl,∃L,H' p.2=some (.dK (aA L))/\L.Nodup/\∀w,w∈L↔Reach ds p.1 w)/\ab H8 H'/\H' f2'=some (.lst vs))
  ⟨[],[],rfl,.nil,rfl,by simp,ab.new hf2,aa⟩ (fun i vs H' _ ⟨_,_,_,_,_,_,S,h'⟩=>⟨h',ay.of (S _ _ L8.a3)⟩) ?_ ?_
 rotate_left
 ·rintro i vs H' x' hx' hi ⟨us,pl,rfl,hpa,hpl,hle,S,f'⟩;obtain⟨r,hr,rfl⟩:=bz hx';have hilen:us.length<=150:=by
   rw[Paired.length hpa,<-ai (f:=(·.1)) (as:=pl),hpl,aL];omega
  refine gN (qK ?_);refine⟨_,rfl,_,rfl,x,C,dx,_,.ref sg,rfl,S _ _ hx8,M.cls,M.a7,lk7,_,rfl,sg,r,gps,ds,J2,rfl,G8.same S,fun d hd=>(m.good d hd).b,by omega,fun ld Lr H'' hld nd hLr hfr S''=>⟨(by show 2<=aj;decide),fun t ht=>⟨?_,?_,lT hi ⟨us++[t],pl++[(r,ld)],?_,?_,?_,?_,?_,aa⟩⟩⟩⟩
  ·exact kp (S'' _ _ f') ht
  ·rw[ai];exact am (by omega)
  ·rw[ap];rfl
  ·have KT:iC (upd H'' t (.tup [.str r,.ref ld])) (upd (upd H'' t (.tup [.str r,.ref ld])) f2' (.lst (us.map V.ref++[.ref t]))):=gG (kp (S'' _ _ f') ht);exact Paired.app (Paired.mapP hpa fun t' p' e=>KT _ _ (kp (S'' _ _ e) ht)) (.cons (KT _ _ aa) .nil)
  ·rw[ap,hpl,take_snoc hr];rfl
  ·have ned:∀{b:Addr}{kvs:List (di×V)},upd H'' t (.tup [.str r,.ref ld]) b=some (.dK kvs)->b≠f2':=fun hb z=>by rw[z,kp (S'' _ _ f') ht]at hb;cases hb
   intro p hp;rcases aU.mp hp with hp|hp
   ·obtain⟨L0,g1,g2⟩:=hle p hp;refine⟨L0,?_,g2⟩;have:=kp (x:=.tup [.str r,.ref ld]) (S'' _ _ g1) ht;rw[ah (ned this)];exact this
   ·have:p=(r,ld):=by simpa using hp
    subst this;refine⟨Lr,?_,nd,hLr⟩;have:=kp (x:=.tup [.str r,.ref ld]) hld ht;rw[ah (ned this)];exact this
  ·intro b o q;rw[ah (ac q hf2)];exact kp (S'' _ _ (S _ _ q)) ht
 rintro vs H9' ⟨us,sps,rfl,hpa,hsps,hled,S9,f9⟩;rw[ai,aX]at hsps;have nds:(sps.map (·.1)).Nodup:=by rw[hsps];exact m.okR.1
 refine⟨f2',us,cw Sum.inr sps,rfl,ay.of f9,?_,?_,fun sl hsl=>⟨_,rfl,x,C,dx,_,rfl,kp (S9 _ _ hx8) hsl,M.cls,M.a8,by omega,?_⟩⟩
 ·rw[Paired.length hpa];unfold cw;rw[ai]
 ·intro j t kv hj hkv;obtain⟨p,hp,e⟩:=Paired.getL hpa hj;unfold cw at hkv;rw[gJ,hp]at hkv;have:=da hkv;rw[<-this];exact e
 have emerge:gF [] (cw Sum.inr sps)=cw Sum.inr sps:=oE sps [] nds;rw[emerge];obtain⟨H9,e9,hx9,F9⟩:=lZ "still_led" (.ref sl) (kp (x:=.dK (cw Sum.inr sps)) (S9 _ _ hx8) hsl);rw[<-e9];have n9:sl≠x:=(ac (S9 _ _ hx8) hsl).symm;have fsl:=F9 _ _ aa n9;have E9:bh x H8 H9:=((ab.exB S9).trans (bh.new hsl)).trans F9;have L9:=L8.exI hx8 E9;have hled9:∀p∈sps,∃L,H9 p.2=some (.dK (aA L))/\L.Nodup/\∀w,w∈L↔Reach ds p.1 w:=fun p hp=>by
  obtain⟨L0,g1,g2⟩:=hled p hp;have g3:=kp (x:=.dK (cw Sum.inr sps)) g1 hsl;exact⟨L0,F9 _ _ g3 (yz (kp (S9 _ _ hx8) hsl) g3),g2⟩
 clear e9 F9;have lk8:lk "still_led" (bR ("still_led":Str) (.ref sl) (bR ("sign_goals":Str) (.ref sg) (bR ("quiet":Str) (.ref qu) (bR ("leaving":Str) (.ref lv) fs4))))=some (.ref sl):=by
  show d9 _ _=_;rw[aQ,if_pos rfl]
 refine⟨_,rfl,_,rfl,x,C,dx,_,.ref sl,rfl,hx9,M.cls,M.a8,lk8,l3,sl,J2,sps,rfl,L9.a3,fsl,hsps,m.okR.1,fun p hp=>?_,fun H10 S10=>⟨_,rfl,k H10 ?_ ?_⟩⟩
 ·obtain⟨L0,g1,g2,g3⟩:=hled9 p hp;exact⟨L0,g1,fun z=>m.noround _ ((g3 _).mp z)⟩
 ·intro J off;have X69:bh x H6 H9:=(E7.trans E8).trans E9;have X59:=((E6.trans E7).trans E8).trans E9;have fr:∀{b:Addr}{J:Hp},bh x H J->b≠x->J b=none->H b=none:=fun{b J} e n h=>by
   cases q:H b with
   |none=>rfl
   |some o=>rw[e _ _ q n]at h;cases h
  have W:∀{b:Addr}{o:HO},H10 b=some o->H b=none->J b=some o:=fun h q=>off _ _ h (.inl q);have Z:∀{b:Addr}{o:HO},H10 b=some o->(∀xs,o≠.lst xs)->J b=some o:=fun h n=>off _ _ h (.inr n);have Y:∀{b:Addr}{o:HO},H9 b=some o->(∀xs,o≠.lst xs)->J b=some o:=fun h n=>Z (S10 _ _ h) n;have kt:iC H10 J:=fun b xs h=>Z h (by intro _ z;cases z);have LL:Lists H5 o1 o2 o3 o4 ts J0 J1 J2 ds:=⟨(E3.trans (E4.trans E5)) _ _ f1 n1,(E4.trans E5) _ _ f2 n2,E5 _ _ f3 n3,f4,L5.ds⟩;have LM:=(LL.exI hx5 X59).same S10;have r1:H o1=none:=S1.free ho1;have r2:H o2=none:=fr (E1.trans E2) n2 ho2;have r3:H o3=none:=fr ((E1.trans E2).trans E3) n3 ho3;have r4:H o4=none:=fr (((E1.trans E2).trans E3).trans E4) n4 ho4;have X05:=(((E1.trans E2).trans E3).trans E4).trans E5;have X07:=(X05.trans E6).trans E7;refine⟨⟨dx,_,o1,o2,o3,o4,lv,qu,sg,sl,ts,lps,gps,sps,Y hx9 (by intro _ z;cases z),?_,?_,?_,?_,?_,?_,?_,?_,?_,?_,?_,lk8,⟨W LM.a1 r1,W LM.a2 r2,W LM.a3 r3,W LM.a4 r4,LM.ds.kt kt⟩,hlps,?_,?_,?_,?_,hsps,Y fsl (by intro _ z;cases z),fun p hp=>?_⟩,m,⟨dx,_,Y hx9 (by intro _ z;cases z),?_,?_,?_,?_⟩⟩
  rotate_right 9
  ·exact Y (X69 _ _ flv (yz hx6 flv)) (by intro _ z;cases z)
  ·intro y hy;obtain⟨us',g1,g2⟩:=hlv y hy;have ny:y.2≠x:=bh.neI hx6 g1;exact⟨us',W (S10 _ _ (X69 _ _ g1 ny)) (fr X05 ny (nlv y hy)),((g2.kt (X69.ktI hx6)).kt (ab.kt S10)).kt kt⟩
  ·exact Y ((E8.trans E9) _ _ fqu n7) (by intro _ z;cases z)
  ·refine⟨G8.nd,Y (E9 _ _ G8.g (Ax hx8 G8.g)) (by intro _ z;cases z),fun y hy=>?_,G8.all⟩;have ny:y.2≠x:=bh.neI hx8 (G8.ls y hy);exact W (S10 _ _ (E9 _ _ (G8.ls y hy) ny)) (fr X07 ny (ngp y hy))
  ·obtain⟨L0,g1,g2⟩:=hled9 p hp;exact⟨L0,Y g1 (by intro _ z;cases z),g2⟩
  all_goals(show d9 _ _=_;subst hfs4;repeat (rw[aQ];first|rw[if_pos rfl] | rw[if_neg (by decide +kernel)]))
  all_goals rfl
 ·exact((((((((E1.trans E2).trans E3).trans E4).trans E5).trans E6).trans E7).trans E8).trans E9).trans (ab.exB S10)

mutual
def DT.sm:DT->Bool
 |.k _=>true
 |.t l=>decide (l.length<=1000000) && DT.sms l
 |.s l=>decide (l.length<=1000000) && DT.sms l
def DT.sms:List DT->Bool
 |[]=>true
 |a::r=>DT.sm a && DT.sms r
end

open Classical in
def lF(K:Za)(C_Machine:Addr)(sp_Machine_asks:Sp)(sp_Machine_says:Sp)(a_HUSH:Addr):TS :=
 aY (aD j3 (aD j3 (bZ 1 [] (bC K (db C_Machine "asks" sp_Machine_asks [] E0 V0 bI)) U0 (iy) (bV (ba (tC (.str "ask")) V0))) (bZ 1 [] (bC K (db C_Machine "says" sp_Machine_says [] E0 V0 bI)) U0 (iy) (bV (ba (tC (.str "say")) V0)))) (de (aB (tC (.ref a_HUSH)))))
def l_:List Str:=["M"]
def ur(K:Za)(sp_signs_in_order:Sp)(sp_face_behind:Sp):TS :=
 aq (aK (jX) U2)
 (aq (ei (bC K (aO sp_signs_in_order (aB V0))) U3 (aq (aK (aO sp_face_behind (fQ V0 V1 V3)) U4)
 (d6 (br (aD zO (gi (iT K) (aB V4)) (tC (.int 0)))) (xN K V2 V3 V4) (cf))))
 (aY V2))
def vh:List Str:=["M","face","steps","sign","behind"]
abbrev Sg:=List Str
def stepsF(J0 J1 J2:Zb)(ds:List ak)(J6:Zb):List (Sg×List Str):=((bL J0 J1).map fun sg=>(sg,behF J2 ds J6 sg)).filter fun p=>decide (p.2≠[])
structure FMs where
 fs:List (List Str)
 ss:List (List Sg)
abbrev FMst:=FMs×List (List (Sg×Nat))
def Ag(hu:Addr)(H:Hp)(u:Addr)(sg:Zb):Prop:=H u=some (.tup (sg.map V.str))∨(u=hu/\sg=bv)
theorem Ag.same{hu:Addr}{H H':Hp}{u:Addr}{sg:Zb}(h:Ag hu H u sg)(S:ab H H'):Ag hu H' u sg:=h.imp (S _ _) id
theorem vH{K:Za}{a:Addr}{xs:List V}(h:∀H,bE K H a xs)(H:Hp):e_ K H a xs:=by
 rcases h (fun _=>none)with(h|⟨o,h⟩)|h
 ·cases h
 ·cases h
 ·exact .inr h
section
variable{K:Za}{hu:Addr}(hh:∀H,bE K H hu (bv.map V.str))
include hh
theorem Ag.tup{H:Hp}{u:Addr}{sg:Zb}(h:Ag hu H u sg):e_ K H u (sg.map V.str):=by
 rcases h with h|⟨rfl,rfl⟩
 ·exact .inl h
 ·exact vH hh H
theorem Ag.sq{H:Hp}{u:Addr}{sg:Zb}(h:Ag hu H u sg):bE K H u (sg.map V.str):=by
 rcases h with h|⟨rfl,rfl⟩
 ·exact bE.of h
 ·exact hh H
end
inductive rf(C hu:Addr)(vs:List V)(H:Hp)(Q:VK)(E:XK):Prop
 |mk (x:Addr) (J0 J1 J2:Zb) (ds:List ak):(vs=[.ref x])->(bd C H x J0 J1 J2 ds)->(∀(l:Addr) (us:Ze) (H':Hp),H' l=some (.lst (us.map V.ref))->Paired (Ag hu H') us (bL J0 J1)->ab H H'->Q (.ref l) H')->rf C hu vs H Q E
theorem AQ{K:Za}{C hu:Addr}{vs:List V}{H:Hp}{Q:VK}{E:XK}(h:rf C hu vs H Q E):lF K C (nz C) (kJ C) hu (bc Q) (start l_ vs) H:=by
 obtain⟨x,J0,J1,J2,ds,rfl,M,k⟩:=h;have z1:=M.ok.asks4;have z2:=M.ok.says4;obtain⟨dx,fs,o1,o2,lv,lps,g1,a1,a2,_⟩:=on M;refine⟨_,rfl,x,dx,fs,rfl,g1,a1,x,J0,J1,J2,ds,rfl,M,fun w1 hw1=>⟨w1,rfl,⟨_,ay.of aa⟩,fun la hla=>?_⟩⟩;have S0:ab H (upd H w1 (.lst (J0.map V.str))):=ab.new hw1;refine ia (kd:="ask") (ws:=J0) aa (by omega) hla fun ua H1 h1 hP1 S1=>?_;have M1:=M.same (S0.trans S1);obtain⟨dx,fs,o1,o2,lv,lps,g1,a1,a2,_⟩:=on M1;refine⟨_,rfl,x,dx,fs,rfl,g1,a2,x,J0,J1,J2,ds,rfl,M1,fun w2 hw2=>⟨w2,rfl,⟨_,ay.of aa⟩,fun ls hls=>?_⟩⟩;have S2:ab H1 (upd H1 w2 (.lst (J1.map V.str))):=ab.new hw2;refine ia (kd:="say") (ws:=J1) aa (by omega) hls fun us H2 h2 hP2 S3=>?_;have S23:=S2.trans S3;have h12:=S23 _ _ h1;have hP12:=i4.kt (ab.kt S23) hP1;refine⟨la,ls,_,_,rfl,rfl,h12,h2,?_,fun c1 hc1=>?_⟩
 ·rw[ai,ai,Paired.length hP1,Paired.length hP2,ai,ai];exact cM (am (by omega))
 refine⟨(by show 1<=aj;decide),fun hl hhl=>?_⟩;refine⟨c1,hl,_,_,rfl,rfl,kp aa hhl,aa,?_,fun r hr=>?_⟩
 ·rw[bf,ai,ai,Paired.length hP1,Paired.length hP2,ai,ai];exact cM (am (by show _+1<=1000;omega))
 have S4:=((ab.new (o:=.lst (ua.map V.ref++us.map V.ref)) hc1).trans (ab.new (o:=.lst [.ref hu]) hhl)).trans (ab.new (o:=.lst (ua.map V.ref++us.map V.ref++[.ref hu])) hr);refine k r (ua++us++[hu]) _ ?_ ?_ (((S0.trans S1).trans S23).trans S4)
 ·rw[aa,ap,ap];rfl
 ·exact Paired.app (Paired.app (Paired.mapP (i4.kt (ab.kt S4) hP12) fun _ _ r=>.inl r) (Paired.mapP (i4.kt (ab.kt S4) hP2) fun _ _ r=>.inl r)) (.cons (.inr ⟨rfl,rfl⟩) .nil)
theorem oH{J0 J1 J2:Zb}{ds:List ak}(m:bH J0 J1 J2 ds):(bL J0 J1).Nodup:=by
 unfold bL;have i1:∀a b:Str,c7 a=c7 b->a=b:=fun a b h=>by unfold c7 at h;injection h with _ h;injection h
 have i2:∀a b:Str,eT a=eT b->a=b:=fun a b h=>by unfold eT at h;injection h with _ h;injection h
 have nd:∀{f:Str->List Str}{l:Zb},(∀a b,f a=f b->a=b)->l.Nodup->(l.map f).Nodup:=by
  intro f l hf hl;rw[qp,List.pairwise_map];exact(qp.1 hl).imp fun h e=>h (hf _ _ e)
 rw[cG,cG];refine⟨⟨nd i1 m.okA.1,nd i2 m.okS.1,?_⟩,by simp,?_⟩
 ·intro x hx y hy e;obtain⟨a,_,rfl⟩:=aE.1 hx;obtain⟨b,_,rfl⟩:=aE.1 hy;unfold c7 eT at e;injection e with e _;exact absurd e (by decide)
 ·intro x hx y hy e;rw[eh.1 hy]at e;rcases aU.1 hx with hx|hx
  ·obtain⟨a,_,rfl⟩:=aE.1 hx;unfold c7 bv at e;injection e with _ e;cases e
  ·obtain⟨a,_,rfl⟩:=aE.1 hx;unfold eT bv at e;injection e with _ e;cases e
abbrev i3(H:Hp)(kvs:List (TK×V))(L:List (Sg×List Str)):Prop:=Paired (fun(kv:TK×V) (p:Sg×List Str)=>kv.1=eW p.1/\∃u,kv.2=.ref u/\H u=some (.tup (p.2.map V.str))) kvs L
theorem zm{κ:Type}[DecidableEq κ]{kvs:List (κ×V)}{k:κ}(h:∀kv∈kvs,kv.1≠k):aR kvs k=none:=by
 unfold aR;rw[List.find?_eq_none.2 fun kv hkv=>by simpa using h kv hkv]
 rfl
theorem eF(sg:Zb):(eW sg).depth<=8:=by
 have:∀l:List Str,TK.depths (l.map kR)=0:=by
  intro l
  induction l with
  |nil=>rfl
  |cons a l ih=>show max (TK.depth (kR a)) (TK.depths _)=0;rw[ih];rfl
 show TK.depths (sg.map kR)+1<=8;rw[this];decide
def stG(J2:Zb)(ds:List ak)(J6:Zb)(L:List (List Str)):List (Sg×List Str):=(L.map fun sg=>(sg,behF J2 ds J6 sg)).filter fun p=>decide (p.2≠[])
theorem tf(J2:Zb)(ds:List ak)(J6:Zb)(L:List (List Str))(sg:Zb):stG J2 ds J6 (L++[sg])=stG J2 ds J6 L++if behF J2 ds J6 sg=[]then[]else[(sg,behF J2 ds J6 sg)]:=by
 unfold stG;rw[ap,fM];congr 1;by_cases c:behF J2 ds J6 sg=[]
 ·rw[if_pos c];simp[c]
 ·rw[if_neg c];simp[c]
theorem zz{J2:Zb}{ds:List ak}{J6:Zb}{L:List (List Str)}{p:Sg×List Str}(h:p∈stG J2 ds J6 L):p.1∈L:=by
 obtain⟨sg,hs,rfl⟩:=aE.1 (dC.1 h).1;exact hs
theorem zB{J2:Zb}{ds:List ak}{J6:Zb}{L:List (List Str)}:(stG J2 ds J6 L).length<=L.length:=by
 unfold stG;exact aJ (ca _ _) (by rw[ai];exact ax _)
theorem i3.kt{H H':Hp}{kvs:List (TK×V)}{L:List (Sg×List Str)}(k:iC H H')(h:i3 H kvs L):i3 H' kvs L:=Paired.mapP h fun _ _ ⟨e,u,e2,r⟩=>⟨e,u,e2,k _ _ r⟩
theorem i3.no{H:Hp}{kvs:List (TK×V)}{L:List (Sg×List Str)}(h:i3 H kvs L){sg:Sg}(n:∀p∈L,p.1≠sg):aR kvs (eW sg)=none:=by
 refine zm ?_
 induction h with
 |nil=>intro kv hk;exact nomatch hk
 |@cons a b as bs r t ih =>
  intro kv hk;rcases c_.1 hk with rfl|hk
  ·rw[r.1];exact fun e=>n b eR (fC e)
  ·exact ih (fun p hp=>n p (eQ _ hp)) kv hk
theorem rH{α:Type}{L:List α}(nd:L.Nodup){i:Nat}{x:α}(e:L[i]?=some x):¬x∈L.take i:=by
 intro h;obtain⟨j,hj,ej⟩:=List.getElem_of_mem h;rw[aL]at hj;have hi:i<L.length:=by rcases Nat.lt_or_ge i L.length with z|z;exact z;rw[List.getElem?_eq_none z]at e;cases e
 rw[List.getElem_take]at ej;rw[iI hi]at e;injection e with e;exact List.pairwise_iff_getElem.1 (qp.1 nd) j i (by omega) hi (by omega) (ej.trans e.symm)
theorem A8{H:Hp}{d:Addr}{kvs:List (TK×V)}{o:HO}(h:H d=some (.dT kvs)):iC H (upd H d o):=fun b xs e=>by rw[ah (fun z=>by rw[z,h]at e;cases e)];exact e
theorem ifQ{b:Bool}{P X Y:Prop}(h:b=true↔P)(h1:P->X)(h2:¬P->Y):if b=true then X else Y:=by
 cases b with
 |true=>exact h1 (h.1 rfl)
 |false=>exact h2 fun z=>by cases h.2 z
inductive hU(C:Addr)(vs:List V)(H:Hp)(Q:VK)(E:XK):Prop
 |mk (x t:Addr) (J6 J0 J1 J2:Zb) (ds:List ak):(vs=[.ref x,.ref t])->(bd C H x J0 J1 J2 ds)->(H t=some (.tup (J6.map V.str)))->((∀r∈J6,r∈J2))->(J6.length<=1000)->(∀(d:Addr) (kvs:List (TK×V)) (H':Hp),H' d=some (.dT kvs)->i3 H' kvs (stepsF J0 J1 J2 ds J6)->H d=none->ab H H'->Q (.ref d) H')->hU C vs H Q E
theorem uH{K:Za}{C hu:Addr}(hh:∀H,bE K H hu (bv.map V.str)){vs:List V}{H:Hp}{Q:VK}{E:XK}(h:hU C vs H Q E):ur K (rf C hu) (nu K C) (bc Q) (start vh vs) H:=by
 obtain⟨x,t,J6,J0,J1,J2,ds,rfl,M,ht,hsub,hz,k⟩:=h;have z1:=M.ok.asks4;have z2:=M.ok.says4;have zl:(bL J0 J1).length<=9:=by unfold bL;rw[bf,bf,ai,ai];show _+1<=9;omega
 have nd:=oH M.ok;refine fun d hd=>?_;have S0:ab H (upd H d (.dT [])):=ab.new hd;refine⟨_,rfl,x,J0,J1,J2,ds,rfl,M.same S0,fun l us H1 hl hP S1=>⟨l,rfl,⟨_,ay.of hl⟩,?_⟩⟩;refine bP (xs:=us.map V.ref) (fun i σ H'=>∃(kvs:List (TK×V)) (x3 x4:Option V),σ=[some (.ref x),some (.ref t),some (.ref d),x3,x4]/\H' d=some (.dT kvs)/\ab H H'/\(∀b o,H1 b=some o->b≠d->H' b=some o)/\i3 H' kvs (stG J2 ds J6 ((bL J0 J1).take i)))
  ⟨[],_,_,rfl,S1 _ _ aa,S0.trans S1,fun _ _ e _=>e,.nil⟩ (fun i σ H' _ ⟨_,_,_,_,_,_,S,_⟩=>ay.of (S _ _ hl fun e=>by subst e;have:=S1 _ _ (aa (H:=H) (a:=l) (o:=.dT []));rw[hl]at this;cases this)) ?_ ?_
 ·rintro i y σ H2 hi ⟨kvs,x3,x4,rfl,h2,S2,S12,st⟩;obtain⟨u,hu',rfl⟩:=cg hi;obtain⟨sg,hsg,hat⟩:=Paired.getL hP hu';have hat2:Ag hu H2 u sg:=hat.imp (fun e=>S12 _ _ e fun z=>by subst z;have:=S1 _ _ (aa (H:=H) (a:=u) (o:=.dT []));rw[e]at this;cases this) id;refine⟨_,rfl,_,rfl,_,rfl,x,t,u,J6,sg,J0,J1,J2,ds,rfl,M.same S2,S2 _ _ ht,hat2.sq hh,hat2.symm.imp (fun e=>e.2) id,hsub,hz,fun f H3 hf S3=>?_⟩;have h3:=S3 _ _ h2;refine⟨_,rfl,.inl ⟨f,_,rfl,.inr (bE.of hf),_,_,rfl,rfl,?_⟩⟩;refine⟨_,rfl,?_⟩;have hat3:=hat2.same S3;have S13:∀b o,H1 b=some o->b≠d->H3 b=some o:=fun b o e n=>S3 _ _ (S12 b o e n);have st3:=st.kt (ab.kt S3);refine ifQ (P:=behF J2 ds J6 sg≠[]) ?_ (fun c=>?_) (fun c=>?_)
  ·rw[ai];constructor
   ·intro h z;rw[z]at h;exact absurd h (by decide)
   ·intro h;exact zzr1 (by have:=List.length_pos_iff.mpr h;omega)
  rotate_left
  ·have c:=Classical.not_not.1 c;refine⟨kvs,_,_,rfl,h3,S2.trans S3,S13,?_⟩;rw[take_snoc hsg,tf,if_pos c,c6];exact st3
  ·have no:aR kvs (eW sg)=none:=st3.no fun p hp e=>by
    have h1:=zz hp;rw[e]at h1;exact rH nd hsg h1
   have ll:kvs.length<aj:=by
    rw[Paired.length st];refine am ?_;have h1:=zB (J2:=J2) (ds:=ds) (J6:=J6) (L:=(bL J0 J1).take i);rw[aL]at h1;omega
   refine⟨_,rfl,_,rfl,_,rfl,d,u,kvs,eW sg,rfl,rfl,h3,xK (hat3.tup hh),eF sg,ll,_,_,_,rfl,aa,?_,?_,?_⟩
   ·intro b o e;rw[ah (ac e hd)];exact S3 _ _ (S2 _ _ e)
   ·intro b o e n;rw[ah n];exact S13 b o e n
   ·rw[fW _ no,take_snoc hsg,tf,if_neg c];have kt:iC H3 (upd H3 d (.dT (kvs++[(eW sg,.ref f)]))):=A8 h3;exact hC (st3.kt kt) ⟨rfl,f,rfl,kt _ _ hf⟩
 ·rintro σ H2 ⟨kvs,x3,x4,rfl,h2,S2,_,st⟩;rw[ai,Paired.length hP,aX]at st;exact⟨_,rfl,k d kvs H2 h2 st hd S2⟩
abbrev dq(K:Za)(H:Hp)(w:Addr)(s:List Sg):Prop:=∃gs:List Addr,H w=some (.lst (gs.map V.ref))/\Paired (fun g (sg:Sg)=>e_ K H g (sg.map V.str)) gs s
theorem e_.kt{K:Za}{H H':Hp}{a:Addr}{xs:List V}(k:iC H H')(h:e_ K H a xs):e_ K H' a xs:=h.keeps k
theorem dq.kt{K:Za}{H H':Hp}{w:Addr}{s:List Sg}(k:iC H H')(e:∀o,H w=some o->H' w=some o)(h:dq K H w s):dq K H' w s:=by
 obtain⟨gs,h1,h2⟩:=h;exact⟨gs,e _ h1,Paired.mapP h2 fun _ _ r=>e_.kt k r⟩
theorem pT{K:Za}{H:Hp}:∀{sg:Zb}{xs:List V},TKCs K H (sg.map kR) xs->xs=sg.map V.str
 |[],xs,h=>by rw[qE]at h;unfold TKCs at h;exact h
 |s::sg,xs,h=>by
  rw[a_]at h;unfold TKCs at h;obtain⟨v,us,rfl,h1,h2⟩:=h;unfold kR mI at h1;rw[h1,pT h2]
  rfl
theorem xI{K:Za}{H:Hp}{sg:Zb}{a:V}(h:mI K H (eW sg) a):∃b,a=.ref b/\e_ K H b (sg.map V.str):=by
 unfold eW mI at h;obtain⟨b,xs,rfl,h1,h2⟩:=h;rw[pT h2]at h1;exact⟨b,rfl,h1⟩
theorem preSum_eq{α:Type}(c:List (α×Int))(val:Nat->Int)(hv:∀(i:Nat) p,c[i]?=some p->val i=p.2):preSum val c.length=(c.map (·.2)).sum:=by
 have key:∀j,j<=c.length->preSum val j=((c.take j).map (·.2)).sum:=by
  intro j
  induction j with
  |zero=>intro _;rfl
  |succ j ih =>
   intro h;have hp:c[j]?=some c[j]:=iI (by omega);rw[take_snoc hp,ap,List.sum_append];show preSum val j+val j=_;rw[ih (by omega),hv j _ hp];simp
 have:=key c.length (ax _);rw[aX]at this;exact this
theorem vJ{K:Za}{H:Hp}:∀xs:List Str,TKIns K H (xs.map kR) (xs.map V.str)
 |[]=>by show TKIns K H [] [];unfold TKIns;rfl
 |x::xs=>by
  rw[a_,a_];unfold TKIns;refine⟨_,_,rfl,?_,vJ xs⟩;unfold kR jA
  rfl
theorem e_.sq{K:Za}{H:Hp}{a:Addr}{xs:List V}(h:e_ K H a xs):bE K H a xs:=h.imp .inl id
theorem zo{K:Za}{H:Hp}{a:Addr}{f:Zb}(h:e_ K H a (f.map V.str)):jA K H (eW f) (.ref a):=by
 unfold eW jA;exact⟨a,_,rfl,e_.sq h,vJ f⟩
theorem xi{k:Nat}{fi:List Nat}{d l:Addr}{o:Obj}{u:HO}{n:Nat}{ent:Nat->Hp->V->V->Prop}{g:TG}{tc:TT}{te:TE}{σ:L2.St}{H1:Hp}{Q:Hp->Prop}(Pv:Nat->List V->Hp->Prop)(h0:Pv 0 [] (upd H1 l (.lst [])))
  (hl:∀i vs H,i<=n->Pv i vs H->H l=some (.lst vs)/\H d=some (.frz o u)) (hd:∀vs H,Pv n vs H->Q H)
  (hs:∀i vs H a b,i<n->Pv i vs H->ent i H a b->g a (cH k fi σ) H fun σ2 H4=>tc σ2 H4 fun b H5 =>
   if b=true then te σ2 H5 fun v H6=>H6 l=some (.lst vs)/\vs.length<aj/\∃m',m'<n-i/\Wc n Pv (i+1) m' (vs++[v]) (upd H6 l (.lst (vs++[v])))else ∃m',m'<n-i/\Wc n Pv (i+1) m' vs H5) :
  dj k fi σ (Bl d o u n ent) g tc te H1 l Q:=by
 refine i0 n Pv h0 (fun i vs H hi p=>(hl i vs H hi p).1) (fun i vs H hi p=>⟨(hl i vs H (cM hi) p).2,hi⟩) (fun vs H p=>⟨⟨(hl n vs H (ax _) p).2,ax _⟩,hd vs H p⟩) fun i vs H x H3 hi p y=>?_;obtain⟨rfl,b,en⟩:=y;exact hs i vs _ x b hi p en
theorem Paired.mapM{α β:Type}{F G:α->β->Prop}:∀{as:List α}{bs:List β},Paired F as bs->(∀a b,a∈as->F a b->G a b)->Paired G as bs
 |_,_,.nil,_=>.nil
 |_,_,.cons r t,h=>.cons (h _ _ eR r) (Mum.Paired.mapM t fun a b ha=>h a b (eQ _ ha))
theorem i3.find{H:Hp}{sg:Sg}:∀{kvs:List (TK×V)}{L:List (Sg×List Str)},i3 H kvs L->((∀p∈L,p.1≠sg)/\aR kvs (eW sg)=none)∨∃p∈L,p.1=sg/\∃u,aR kvs (eW sg)=some (.ref u)/\H u=some (.tup (p.2.map V.str))
 |_,_,.nil=>.inl ⟨fun _ h=>(nomatch h),rfl⟩
 |kv::_,p::_,.cons ⟨e,u,e2,hu⟩ t=>by
  by_cases c:p.1=sg
  ·refine .inr ⟨p,eR,c,u,?_,hu⟩;rw[cb (by rw[e,c]),e2]
  ·rw[bU (fun z=>c (fC (by rw[<-e,z])))];rcases i3.find t with⟨h1,h2⟩|⟨q,hq,h⟩
   ·exact .inl ⟨fun x hx=>(c_.1 hx).elim (fun z=>by rw[z];exact c) (h1 x),h2⟩
   ·exact .inr ⟨q,eQ _ hq,h⟩
theorem i3.look{H:Hp}{kvs:List (TK×V)}{J0 J1 J2 f:Zb}{ds:List ak}(h:i3 H kvs (stepsF J0 J1 J2 ds f)){sg:Sg}(hs:sg∈bL J0 J1):
  (behF J2 ds f sg=[]/\aR kvs (eW sg)=none)∨(behF J2 ds f sg≠[]/\∃u,aR kvs (eW sg)=some (.ref u)/\H u=some (.tup ((behF J2 ds f sg).map V.str))):=by
 rcases i3.find (sg:=sg) h with⟨h1,h2⟩|⟨p,hp,e,u,h1,h2⟩
 ·refine .inl ⟨?_,h2⟩;refine Classical.not_not.1 fun z=>h1 (sg,behF J2 ds f sg) ?_ rfl;exact dC.2 ⟨aE.2 ⟨sg,hs,rfl⟩,zzr1 z⟩
 ·obtain⟨h3,h4⟩:=dC.1 hp;obtain⟨s,_,rfl⟩:=aE.1 h3;cases e;exact .inr ⟨of_decide_eq_true h4,u,h1,h2⟩
def ix(K:Za):TS :=
 aq (kS K V0 V1 "machine")
 (kS K V0 (jX) "known")
def iB:List Str:=["self","M"]
def gT(K:Za)(sp_steps_at:Sp):TS :=
 aq (d6 (tB (fq K V1 (fT K V0 "known"))) (ir (fT K V0 "known") V1 (aO sp_steps_at (ba (fT K V0 "machine") V1))) (cf))
 (aY (iM K (fT K V0 "known") V1))
def g8:List Str:=["self","face"]
def qP(K:Za):TS :=
 d6 (zt (br (aD zN V0 (tC (.int 0)))) (br (aD zO V0 (tC (.int 4))))) (ux) (cf)
def sj:List Str:=["d"]
def wv(K:Za):TS :=
 aq (aK (tC (.int 1)) U1)
 (aq (ei (bC K V0) U2 (aK (aD ya V1 V2) U1))
 (aY V1))
def xr:List Str:=["numbers","whole","number"]
def mR(K:Za)(C_KnownSteps:Addr)(sp_KnownSteps_init:Sp)(C_Machine:Addr)(sp_Machine_says:Sp):TS :=
 aq (kS K V0 (bZ 1 [] (bC K (db C_Machine "says" sp_Machine_says [] E0 V1 bI)) U0 (iy) (bV (ba (tC (.str "say")) V0))) "says_signs")
 (aq (kS K V0 (sS C_KnownSteps sp_KnownSteps_init [] E0 (aB V1)) "known_steps")
 (kS K V0 (jX) "known_counts"))
def ni:List Str:=["self","M"]
def kD(K:Za)(C_KnownSteps:Addr)(sp_KnownSteps_steps_from:Sp):TS :=
 aY (db C_KnownSteps "steps_from" sp_KnownSteps_steps_from [] E0 (fT K V0 "known_steps") (aB V1))
def ln:List Str:=["self","face"]
def mO(K:Za)(a_HUSH:Addr)(C_Made:Addr)(sp_Made_steps_from:Sp):TS :=
 aq (aK (bZ 1 [] (yI K (db C_Made "steps_from" sp_Made_steps_from [] E0 V0 (aB V1))) U0 (br (aD yd (aD (o9 K) V0 (tC (.int 0))) (tC (.str "ask")))) V0) U2)
 (aY (aD j3 (bZ 1 [0] (bC K V2) U0 (iy) (aD j3 (de (aB V0)) (fT K V1 "says_signs"))) (de (au (aD j3 (fT K V0 "says_signs") (de (aB (tC (.ref a_HUSH))))) bI))))
def m_:List Str:=["self","face","asks"]
def mP(K:Za)(sp_product:Sp)(C_Made:Addr)(sp_Made_count_at:Sp)(sp_Made_steps_from:Sp):TS :=
 aq (aK (db C_Made "steps_from" sp_Made_steps_from [] E0 V0 (aB V1)) U4)
 (aY (aO sp_product (au (bZ 1 [0,2,4] (bC K V3) U0 (iy) (db C_Made "count_at" sp_Made_count_at [] E0 V1 (ba (xL K V3 V0) (aD Ar V2 (tC (.int 1)))))) bI)))
def ng:List Str:=["self","face","d","signs","steps"]
def mQ(K:Za)(C_Made:Addr)(sp_Made_kinds_at:Sp)(sp_Made_count_of:Sp):TS :=
 aq (d6 (zt (tB (AN V1)) (br (aD yd V2 (tC (.int 0))))) (aY (tC (.int 1))) (cf))
 (aq (d6 (tB (fq K (bV (ba V1 V2)) (fT K V0 "known_counts"))) (aq (aK (bZ 1 [1,2,0] (bC K (db C_Made "kinds_at" sp_Made_kinds_at [] E0 V0 (aB V1))) U0 (iy) (db C_Made "count_of" sp_Made_count_of [] E0 V3 (fQ V1 V2 V0))) U3)
 (ir (fT K V0 "known_counts") (bV (ba V1 V2)) (aD dg (tC (.int 1)) (gi (Aq K) (aB V3))))) (cf))
 (aY (iM K (fT K V0 "known_counts") (bV (ba V1 V2)))))
def nh:List Str:=["self","face","d","counts"]
def mN(K:Za)(C_Made:Addr)(sp_Made_init:Sp)(sp_Made_count_at:Sp)(cE:Sp)(sp_need_depth:Sp):TS :=
 aq (df (aO sp_need_depth (aB V1)))
 (aY (db C_Made "count_at" sp_Made_count_at [] E0 (sS C_Made sp_Made_init [] E0 (aB V0)) (ba (aO cE (aB V0)) V1)))
def m9:List Str:=["M","d"]
def pb(K:Za)(sp_law_still_on:Sp):TS :=
 aq (aK V0 (pG K 4 (cT U3 (cT U4 (cT U5 (cT U6 (pH)))))))
 (aq (d6 (br (aD (uL K) V2 (bV (aB (tC (.str "hush")))))) (aq (aK (bZ 1 [] (bC K V6) U0 (br (aD rNe (aD (rA K) (aD (rA K) V0 (tC (.int 1))) (tC (.int 0))) (tC (.str "ask")))) (aD (rA K) V0 (tC (.int 0)))) U7)
 (aY (gi (tt K) (aB (bZ 1 [7] (z0 K V1) U0 (br (aD (pD K true) V0 V1)) V0))))) (cf))
 (aq (aK (aO sp_law_still_on (au V6 (au (bZ 1 [1,2] (bC K V6) U0 (xM (br (aD (pD K false) (aD (rA K) V0 (tC (.int 0))) V1)) (br (aD (uL K) (aD (rA K) V0 (tC (.int 1))) V2))) (aD (rA K) V0 (tC (.int 2)))) bI))) U8)
 (aY (gi (tt K) (aB (bZ 1 [8] (bC K V5) U0 (br (aD (pD K false) V0 V1)) V0))))))
def pJ:List Str:=["told","face","sign","asks","says","rooms","doors","loud","there"]
def sP(K:Za)(sp_law_still_on:Sp):TS :=
 aq (aK (aO sp_law_still_on (au (aD (o9 K) V0 (tC (.int 3))) (au (de (aB (aD (o9 K) (aD (o9 K) V0 (tC (.int 2))) (tC (.int 0))))) bI))) U1)
 (aY (gi (tt K) (au (bZ 1 [1] (bC K (aD (o9 K) V0 (tC (.int 2)))) U0 (br (aD (pD K false) V0 V1)) V0) bI)))
def ue:List Str:=["told","there"]
def lG(K:Za):TS :=
 aq (aK (bZ 1 [] (bC K (aD (o9 K) V0 (tC (.int 1)))) U0 (iy) (bV (ba (tC (.str "say")) V0))) U2)
 (aq (d6 (tB (AN V1)) (aY (aD j3 V2 (de (aB (bV (aB (tC (.str "hush")))))))) (cf))
 (aY (aD j3 (de (aB (bV (ba (tC (.str "ask")) V1)))) V2)))
def ma:List Str:=["told","ask","says"]
def sR(K:Za)(sp_law_behind:Sp):TS :=
 aq (d6 (tB (fq K (bV (ba V2 V3)) V1)) (ir V1 (bV (ba V2 V3)) (aO sp_law_behind (fQ V0 V2 V3))) (cf))
 (aY (iM K V1 (bV (ba V2 V3))))
def ug:List Str:=["told","known","face","sign"]
def sQ(K:Za)(sp_law_after:Sp):TS :=
 aY (bZ 1 [0,1,2] (bC K (aD (o9 K) V0 (tC (.int 0)))) U0 (br (aD (AS K) (aO sp_law_after (au V1 (fQ V2 V3 (bV (ba (tC (.str "ask")) V0))))) (bV (bI)))) V0)
def uf:List Str:=["told","known","face"]
def sL(K:Za)(sp_law_part_signs:Sp)(sp_law_count:Sp)(sp_law_after:Sp):TS :=
 aq (aK (de (bI)) U5)
 (aq (ei (bC K (aO sp_law_part_signs (ba V0 V3))) U6 (df (xz K "list" fz V5 (au (aO sp_law_count (au V0 (au V1 (ba (aO sp_law_after (au V0 (fQ V1 V2 V6))) (aD Ar V4 (tC (.int 1))))))) bI))))
 (aY V5))
def t_:List Str:=["told","known","face","ask","deep","found","sign"]
def sK(K:Za):TS :=
 aq (aK (tC (.int 1)) U1)
 (aq (ei (bC K V0) U2 (aK (aD ya V1 V2) U1))
 (aY V1))
def t9:List Str:=["numbers","found","number"]
def qR(K:Za)(sp_law_asked:Sp)(sp_law_times:Sp)(sp_law_sizes:Sp):TS :=
 aq (d6 (zt (br (aD (uL K) V2 (bV (bI)))) (br (aD yd V3 (tC (.int 0))))) (aY (tC (.int 1))) (cf))
 (aq (d6 (tB (fq K (bV (ba V2 V3)) V1)) (aq (aK (tC (.int 1)) U4)
 (aq (ei (bC K (aD j3 (aO sp_law_asked (fQ V0 V1 V2)) (de (aB (tC .non))))) U5 (aK (aD dg V4 (aO sp_law_times (aB (aO sp_law_sizes (au V0 (au V1 (fQ V2 V5 V3))))))) U4))
 (ir V1 (bV (ba V2 V3)) V4))) (cf))
 (aY (iM K V1 (bV (ba V2 V3)))))
def sn:List Str:=["told","known","face","deep","many","ask"]
def sM(K:Za)(sp_law_count:Sp)(sp_law_begin:Sp)(sp_how_many_made:Sp):TS :=
 aq (aK (aO sp_how_many_made (ba V1 V2)) U4)
 (aq (aK (aO sp_law_count (au V0 (fQ V3 (aO sp_law_begin (aB V0)) V2))) U5)
 (aY (sX (gi (Br K) (ba V4 (tC (.ty "int")))) (sX (Am (gi (Br K) (ba V4 (tC (.ty "bool"))))) (aD yd V4 V5)))))
def ub:List Str:=["told","machine","deep","known","found","due"]
def zr(K:Za)(sp_law_right:Sp)(sp_law_machine:Sp)(sp_law_model:Sp)(sp_law_take:Sp)(sp_law_open:Sp):TS :=
 aq (aK (aO sp_law_open (aB V0)) U1)
 (aq (aK (de (bI)) U2)
 (aq (ei (p7 (aB (tC (.int 3)))) U3 (aq (aK (aO sp_law_model (au V1 (au (tC (.int 6)) (aB (aO sp_law_take (ba V1 (tC (.int 2)))))))) U4)
 (df (xz K "list" fz V2 (aB (bV (ba V4 (aO sp_law_machine (aB V4)))))))))
 (aq (ei (bC K (aD j3 V2 (xy (rq K) V2 (eM) (gm (tC (.int 1)))))) (pG K 2 (cT U4 (cT U5 (pH)))) (aq (aK (jX) U6)
 (ei (bC K (de (au (tC (.int 4)) (au (tC (.int 0)) (fQ (tC (.int 3)) (tC (.int 1)) (tC (.int 2))))))) U7 (d6 (AM (tB (aO sp_law_right (au V4 (fQ V5 V7 V6))))) (aY (tC (.bl false))) (cf)))))
 (aY (tC (.bl true))))))
def wo:List Str:=["script","pen","some","turn","told","machine","known","deep"]
def yh:List Str:=["script"]
open Builtin.Int (intBits)
def kindsF(J0 J1 J2:Zb)(ds:List ak)(J6:Zb):List (List Sg) :=
 ((J0.filter fun a=>decide (behF J2 ds J6 (c7 a)≠[])).map fun a=>c7 a::J1.map eT)++[J1.map eT++[bv]]
def gx(l:List Int):Int:=l.foldl (· * ·) 1
def cntM(J0 J1 J2:Zb)(ds:List ak):Nat->List Str->Int
 |0,_=>1
 |d+1,J6=>if J6=[]then 1 else 1+((kindsF J0 J1 J2 ds J6).map fun k=>gx (k.map fun sg=>cntM J0 J1 J2 ds d (behF J2 ds J6 sg))).sum
theorem tW(J0 J1 J2:Zb)(ds:List ak):∀d,cntM J0 J1 J2 ds d []=1
 |0=>by unfold cntM;rfl
 |d+1=>by unfold cntM;rw[if_pos rfl]
theorem ox(l:List Int)(x:Int):gx (l++[x])=gx l * x:=by unfold gx;rw[List.foldl_append];rfl
def bB:Nat->Nat
 |0=>1
 |d+1=>5 * bB d+7
theorem pW{b:Nat}(l:List Int)(h:∀x∈l,intBits x<=b):intBits (gx l)<=1+l.length * b:=by
 have key:∀n,n<=l.length->intBits (gx (l.take n))<=1+n * b:=by
  intro n
  induction n with
  |zero=>intro _;show intBits 1<=1+0 * b;have:intBits 1<=1:=(by decide);omega
  |succ n ih =>
   intro hn;have e:l[n]?=some l[n]:=iI hn;rw[take_snoc e,ox];have h1:=intBits_mul_le (ih (by omega)) (h l[n] (List.getElem_mem _));rw[lr];omega
 have:=key l.length (ax _);rw[aX]at this;exact this
theorem sY{b:Nat}:∀(l:List Int),(∀x∈l,intBits x<=b)->intBits l.sum<=b+l.length
 |[],_=>by show intBits 0<=_;have:intBits 0<=0:=(by decide);omega
 |x::l,h=>by
  rw[List.sum_cons,d_];have h1:=intBits_add_le (h x eR) (sY l fun y hy=>h y (eQ _ hy));omega
theorem p4{J0 J1 J2 J6:Zb}{ds:List ak}(h1:J0.length<=4):(kindsF J0 J1 J2 ds J6).length<=5:=by
 unfold kindsF;rw[bf,ai];have:=ca (fun a=>decide (behF J2 ds J6 (c7 a)≠[])) J0;show _+1<=5;omega
theorem p0{J0 J1 J2 J6:Zb}{ds:List ak}{k:List Sg}(h:k∈kindsF J0 J1 J2 ds J6):k.length=J1.length+1/\∀sg∈k,sg∈bL J0 J1:=by
 unfold kindsF at h;unfold bL;rcases aU.1 h with h|h
 ·obtain⟨a,ha,rfl⟩:=aE.1 h;refine⟨by rw[d_,ai],fun sg hs=>?_⟩;rcases c_.1 hs with rfl|hs
  ·exact cz _ (cz _ (nO (dC.1 ha).1))
  ·exact cz _ (cL _ hs)
 ·rw[eh.1 h];refine⟨by rw[bf,ai];rfl,fun sg hs=>?_⟩;rcases aU.1 hs with hs|hs
  ·exact cz _ (cL _ hs)
  ·exact cL _ hs
theorem oT{J0 J1 J2:Zb}{ds:List ak}(h1:J0.length<=4)(h2:J1.length<=4):∀(d:Nat) (J6:Zb),intBits (cntM J0 J1 J2 ds d J6)<=bB d
 |0,_=>by unfold cntM bB;decide
 |d+1,J6=>by
  unfold cntM bB;split
  ·have:intBits 1<=1:=by decide
   omega
  ·have hp:∀x∈(kindsF J0 J1 J2 ds J6).map (fun k=>gx (k.map fun sg=>cntM J0 J1 J2 ds d (behF J2 ds J6 sg))),intBits x<=1+5 * bB d:=by
    intro x hx;obtain⟨k,hk,rfl⟩:=aE.1 hx;have:=pW (b:=bB d) (k.map fun sg=>cntM J0 J1 J2 ds d (behF J2 ds J6 sg)) fun y hy=>by
     obtain⟨sg,_,rfl⟩:=aE.1 hy;exact oT h1 h2 d _
    rw[ai,(p0 hk).1]at this;have h3:(J1.length+1) * bB d<=5 * bB d:=g_ _ (by omega);omega
   have h3:=sY _ hp;rw[ai]at h3;have h4:=p4 (J1:=J1) (J2:=J2) (ds:=ds) (J6:=J6) h1;have h5:=intBits_add_le (show intBits (1:Int)<=1 by decide) h3;omega
theorem AG:∀d,d<=4->bB d<=2000:=by
 intro d hd
 match d,hd with
 |0,_=>decide
 |1,_=>decide
 |2,_=>decide
 |3,_=>decide
 |4,_=>decide
inductive sp_product(vs:List V)(H:Hp)(Q:VK)(E:XK):Prop
 |mk (l:Addr) (ns:List Int) (b:Nat):(vs=[.ref l])->(H l=some (.lst (ns.map V.int)))->(∀x∈ns,intBits x<=b)->(b<=10000)->(ns.length<=1000)->(Q (.int (gx ns)) H)->sp_product vs H Q E
theorem ints_get{ns:List Int}{i:Nat}{x:V}(h:(ns.map V.int)[i]?=some x):∃n,ns[i]?=some n/\x=.int n:=by
 rw[gJ]at h;obtain⟨n,e,rfl⟩:=nM.1 h;exact⟨n,e,rfl⟩
theorem oq{K:Za}{vs:List V}{H:Hp}{Q:VK}{E:XK}(h:sp_product vs H Q E):wv K (bc Q) (start xr vs) H:=by
 obtain⟨l,ns,b,rfl,hl,hb,b1,z,k⟩:=h;refine⟨_,rfl,l,rfl,⟨_,ay.of hl⟩,?_⟩;refine bP (xs:=ns.map V.int) (fun i σ H'=>∃x2,σ=[some (.ref l),some (.int (gx (ns.take i))),x2]/\H'=H) ⟨_,rfl,rfl⟩ (fun i σ H' _ ⟨_,_,e⟩=>by rw[e];exact ay.of hl) ?_ ?_
 ·rintro i y σ H' hi ⟨x2,rfl,rfl⟩;obtain⟨n,hn,rfl⟩:=ints_get hi;have hi':i<ns.length:=(bT.1 hn).1;have p:=pW (b:=b) (ns.take i) fun x hx=>hb x (dO hx);rw[aL,Nat.min_eq_left (by omega)]at p;refine⟨_,rfl,_,rfl,_,_,rfl,rfl,IntMulOk.of_le p (hb n (dB hn)) ?_,?_⟩
  ·have:i * b<=1000 * 10000:=Nat.mul_le_mul (by omega) b1;omega
  ·exact⟨_,by rw[take_snoc hn,ox];rfl,rfl⟩
 ·rintro σ H' ⟨x2,rfl,rfl⟩;rw[ai,aX];exact⟨_,rfl,k⟩
theorem xP{K:Za}{vs:List V}{H:Hp}{Q:VK}{E:XK}(h:sp_product vs H Q E):sK K (bc Q) (start t9 vs) H:=oq h
inductive sp_need_depth(vs:List V)(H:Hp)(Q:VK)(E:XK):Prop
 |mk (d:Nat):(vs=[.int (d:Nat)])->(d<=4)->(Q .non H)->sp_need_depth vs H Q E
theorem px{K:Za}{vs:List V}{H:Hp}{Q:VK}{E:XK}(h:sp_need_depth vs H Q E):qP K (bc Q) (start sj vs) H:=by
 obtain⟨d,rfl,hd,k⟩:=h;refine⟨_,rfl,_,_,rfl,rfl,_,rfl,?_⟩;rw[zzr0 (by omega)];refine cB ⟨_,rfl,_,_,rfl,rfl,_,rfl,?_⟩;rw[zzr0 (by omega)];exact cB k
def BT:HO->Bool
 |.dT _=>false
 |.frz _ _=>false
 |_=>true
def Kp(H H':Hp):Prop:=∀b o,H b=some o->BT o=true->H' b=some o
theorem Kp.trans{H H1 H2:Hp}(a:Kp H H1)(b:Kp H1 H2):Kp H H2:=fun c o e n=>b c o (a c o e n) n
theorem Kp.kt{H H':Hp}(k:Kp H H'):iC H H':=fun b xs e=>k b _ e rfl
theorem ab.kp{H H':Hp}(S:ab H H'):Kp H H':=fun b o e _=>S b o e
theorem Kp.upd{H:Hp}{d:Addr}{o x:HO}(h:H d=some x)(n:BT x=false):Kp H (upd H d o):=fun b u e z=>by
 rw[ah (fun q:b=d=>by rw[q,h]at e;cases e;rw[n]at z;cases z)];exact e
theorem Kp.exB{H H':Hp}{d:Addr}{x:HO}(h:H d=some x)(n:BT x=false)(e:bh d H H'):Kp H H':=fun b u q z=>e b u q fun w=>by
 rw[w,h]at q;cases q;rw[n]at z;cases z
theorem kU{H H':Hp}{d:Addr}{x:HO}(k:∀o,H d=some o->H' d=some o)(h:Rd H d x):Rd H' d x:=h.imp (k _) fun⟨o,e⟩=>⟨o,k _ e⟩
theorem fS{kvs:List (TK×V)}{k:TK}{v:V}(h:aR kvs k=some v):(k,v)∈kvs:=by
 unfold aR at h;obtain⟨p,hp,rfl⟩:=nM.1 h;have h1:=List.mem_of_find?_eq_some hp;have h2:decide (p.1=k)=true:=by have:=List.find?_some hp;exact this
 rw[<-of_decide_eq_true h2];exact h1
def Gr(kv kv':List (TK×V)):Prop:=∀k v,aR kv k=some v->aR kv' k=some v
theorem Gr.refl(kv:List (TK×V)):Gr kv kv:=fun _ _ h=>h
theorem Gr.trans{a b c:List (TK×V)}(h:Gr a b)(k:Gr b c):Gr a c:=fun x v e=>k x v (h x v e)
theorem Gr.snoc{kv:List (TK×V)}{k:TK}{v:V}(h:aR kv k=none):Gr kv (kv++[(k,v)]):=fun x w e=>by
 rw[<-fW v h,fR,if_neg (fun z=>by rw[z,h]at e;cases e)];exact e
structure KC(K:Za)(C:Addr):Prop where
 cls:vn K C
 a1:cy K C "machine"
 a2:cy K C "known"
structure Bg(Cm Ck:Addr)(H0:Hp)(y M kd:Addr)(J0 J1 J2:Zb)(ds:List ak):Prop where
 mach:bd Cm H0 M J0 J1 J2 ds
 ob:∃(dy:Addr) (fs:List (Str×V)),H0 y=some (.ins Ck dy fs)/\lk "machine" fs=some (.ref M)/\lk "known" fs=some (.ref kd)/\lk "steps_from" fs=none
 kdn:H0 kd=none
structure gk(H0 H:Hp)(kd:Addr)(kv:List (TK×V))(J0 J1 J2:Zb)(ds:List ak)(n:Nat):Prop where
 same:ab H0 H
 hkd:H kd=some (.dT kv)
 kok:∀p∈kv,∃(J6:Zb) (d:Addr) (kvs:List (TK×V)),p=(eW J6,.ref d)/\d≠kd/\H0 d=none/\Rd H d (.dT kvs)/\i3 H kvs (stepsF J0 J1 J2 ds J6)
 len:kv.length<=n
theorem gk.up{H0 H H':Hp}{kd:Addr}{kv:List (TK×V)}{J0 J1 J2:Zb}{ds:List ak}{n:Nat}(h:gk H0 H kd kv J0 J1 J2 ds n)(S:ab H H'):gk H0 H' kd kv J0 J1 J2 ds n :=
 ⟨h.same.trans S,S _ _ h.hkd,fun p hp=>by obtain⟨f,d,kvs,e,n1,n2,r,st⟩:=h.kok p hp;exact⟨f,d,kvs,e,n1,n2,kU (S d) r,st.kt (ab.kt S)⟩,h.len⟩
theorem gk.more{H0 H:Hp}{kd:Addr}{kv:List (TK×V)}{J0 J1 J2:Zb}{ds:List ak}{n m:Nat}(h:gk H0 H kd kv J0 J1 J2 ds n)(l:n<=m):gk H0 H kd kv J0 J1 J2 ds m:=⟨h.same,h.hkd,h.kok,aJ h.len l⟩
theorem gk.frz{H0 H:Hp}{kd d:Addr}{o:Obj}{kv kvs:List (TK×V)}{k:TK}{J0 J1 J2:Zb}{ds:List ak}{n:Nat}(h:gk H0 H kd kv J0 J1 J2 ds n)(v:aR kv k=some (.ref d))(hd:H d=some (.dT kvs)):
  gk H0 (upd H d (.frz o (.dT kvs))) kd kv J0 J1 J2 ds n:=by
 obtain⟨_,d1,_,e1,n1,n2,_,_⟩:=h.kok _ (fS v);injection e1 with _ e1;injection e1 with e1;subst e1;refine⟨fun b u e=>?_,by rw[ah n1.symm];exact h.hkd,fun p hp=>?_,h.len⟩
 ·rw[ah (ac e n2)];exact h.same _ _ e
 ·obtain⟨f,d2,kv2,e,q1,q2,r,st⟩:=h.kok p hp;refine⟨f,d2,kv2,e,q1,q2,?_,st.kt (A8 hd)⟩;by_cases c:d2=d
  ·subst c;rcases r with r|⟨o',r⟩
   ·rw[hd]at r;cases r;exact .inr ⟨o,aa⟩
   ·rw[hd]at r;cases r
  ·exact kU (fun u e=>by rw[ah c];exact e) r
theorem gk.keep{H0 H:Hp}{kd a:Addr}{o:HO}{kv:List (TK×V)}{J0 J1 J2:Zb}{ds:List ak}{n:Nat}(h:gk H0 H kd kv J0 J1 J2 ds n)(ha:H a=some o)(na:a≠kd)(nv:∀k,(k,V.ref a)∉kv):gk (upd H0 a o) H kd kv J0 J1 J2 ds n:=by
 refine⟨fun b u e=>?_,h.hkd,fun p hp=>?_,h.len⟩
 ·by_cases c:b=a
  ·subst c;rw[aa]at e;cases e;exact ha
  ·rw[ah c]at e;exact h.same _ _ e
 ·obtain⟨f,d2,kv2,e,q1,q2,r⟩:=h.kok p hp;refine⟨f,d2,kv2,e,q1,?_,r⟩;rw[ah (fun z=>nv (eW f) (by rw[<-z,<-e];exact hp))];exact q2
inductive jh(Cm Ck:Addr)(vs:List V)(H:Hp)(Q:VK)(E:XK):Prop
 |mk (H0:Hp) (y M kd u:Addr) (kv:List (TK×V)) (n:Nat) (J6 J0 J1 J2:Zb) (ds:List ak):(vs=[.ref y,.ref u])->(Bg Cm Ck H0 y M kd J0 J1 J2 ds)->(gk H0 H kd kv J0 J1 J2 ds n)->(H u=some (.tup (J6.map V.str)))->(∀r∈J6,r∈J2)->(J6.length<=1000)->(n<=1000000) ->
  (∀(d:Addr) (kv' kvs:List (TK×V)) (H':Hp),gk H0 H' kd kv' J0 J1 J2 ds (n+1)->aR kv' (eW J6)=some (.ref d)->Rd H' d (.dT kvs)->i3 H' kvs (stepsF J0 J1 J2 ds J6)->bh kd H H'->Gr kv kv'->Q (.ref d) H')->jh Cm Ck vs H Q E
theorem wM{K:Za}{Cm Ck:Addr}(c:KC K Ck){vs:List V}{H:Hp}{Q:VK}{E:XK}(h:jh Cm Ck vs H Q E):gT K (hU Cm) (bc Q) (start g8 vs) H:=by
 obtain⟨H0,y,M,kd,u,kv,n,J6,J0,J1,J2,ds,rfl,St,Dy,hu,hsub,hz,hn,k⟩:=h;obtain⟨dy,fs,g0,l1,l2,l3⟩:=St.ob;have g:=Dy.same _ _ g0;have tk:jA K H (eW J6) (.ref u):=cC.isIn 8 (eF J6) (SignAt.tk hu);have g1:lq K H kd (.ref u) (aR kv (eW J6)):=.inr ⟨_,_,_,.inl Dy.hkd,rfl,tk,eF J6,rfl⟩;refine⟨_,rfl,_,rfl,y,Ck,dy,fs,.ref kd,rfl,g,c.cls,c.a2,l2,kd,_,rfl,g1,_,rfl,?_⟩;cases v:aR kv (eW J6)with
 |some w =>
  obtain⟨f,d,kvs,e,n1,n2,r,st⟩:=Dy.kok _ (fS v);injection e with e1 e2;cases fC e1;subst e2;refine cB ?_;rw[v]at g1;exact⟨_,rfl,y,Ck,dy,fs,.ref kd,rfl,g,c.cls,c.a2,l2,_,rfl,kd,_,rfl,g1,k d kv kvs H (Dy.more (by omega)) v r st (bh.refl _ _) (.refl _)⟩
 |none =>
  refine cA ?_;refine⟨_,rfl,y,Ck,dy,fs,.ref M,rfl,g,c.cls,c.a1,l1,_,rfl,M,u,J6,J0,J1,J2,ds,rfl,St.mach.same Dy.same,hu,hsub,hz,fun d kvs H1 hd st dn S1=>?_⟩;have D1:=Dy.up S1;have nd:d≠kd:=(ac Dy.hkd dn).symm;refine⟨_,rfl,y,Ck,dy,fs,.ref kd,rfl,S1 _ _ g,c.cls,c.a2,l2,_,rfl,kd,_,rfl,.inr ⟨_,eW J6,u,D1.hkd,rfl,SignAt.tk (S1 _ _ hu),eF J6,?_,rfl⟩,?_⟩
  ·have:=Dy.len;rw[pN];omega
  rw[fW _ v];have kt:iC H1 (upd H1 kd (.dT (kv++[(eW J6,.ref d)]))):=A8 D1.hkd;have v2:aR (kv++[(eW J6,V.ref d)]) (eW J6)=some (.ref d):=by rw[<-fW (.ref d) v,fR,if_pos rfl]
  have D2:gk H0 (upd H1 kd (.dT (kv++[(eW J6,.ref d)]))) kd (kv++[(eW J6,.ref d)]) J0 J1 J2 ds (n+1):=by
   refine⟨fun b o e=>?_,aa,fun p hp=>?_,?_⟩
   ·rw[ah (ac e St.kdn)];exact D1.same _ _ e
   ·rcases aU.1 hp with hp|hp
    ·obtain⟨f,d2,kv2,e,q1,q2,r,st'⟩:=D1.kok p hp;exact⟨f,d2,kv2,e,q1,q2,kU (fun o e=>by rw[ah q1];exact e) r,st'.kt kt⟩
    ·rw[eh.1 hp];exact⟨J6,d,kvs,rfl,nd,Dy.same.free dn,.inl (by rw[ah nd];exact hd),st.kt kt⟩
   ·rw[bf];show _+1<=_;have:=Dy.len;omega
  have g5:lq K (upd H1 kd (.dT (kv++[(eW J6,.ref d)]))) kd (.ref u) (some (.ref d)):=.inr ⟨_,eW J6,u,.inl aa,rfl,cC.isIn 8 (eF J6) (SignAt.tk (kt _ _ (S1 _ _ hu))),eF J6,v2.symm⟩;exact⟨_,rfl,y,Ck,dy,fs,.ref kd,rfl,D2.same _ _ g0,c.cls,c.a2,l2,_,rfl,kd,_,rfl,g5,k d _ kvs _ D2 v2 (.inl (by rw[ah nd];exact hd)) (st.kt kt) (fun b o e nb=>by rw[ah nb];exact S1 _ _ e) (.snoc v)⟩
inductive jg(Ck:Addr)(vs:List V)(H:Hp)(Q:VK)(E:XK):Prop
 |mk (x dx M:Addr):(vs=[.ref x,.ref M])->(H x=some (.ins Ck dx []))->(∀(kd:Addr) (fs:List (Str×V)) (H':Hp),H' x=some (.ins Ck dx fs)->lk "machine" fs=some (.ref M)->lk "known" fs=some (.ref kd)->lk "steps_from" fs=none->H' kd=some (.dT [])->H kd=none->bh x H H'->Q .non H')->jg Ck vs H Q E
theorem wL{K:Za}{Ck:Addr}(c:KC K Ck){vs:List V}{H:Hp}{Q:VK}{E:XK}(h:jg Ck vs H Q E):ix K (bc Q) (start iB vs) H:=by
 obtain⟨x,dx,M,rfl,hx,k⟩:=h;refine⟨_,rfl,_,rfl,x,Ck,dx,[],rfl,hx,c.cls,c.a1,(by decide),?_⟩;obtain⟨H1,e1,hx1,X1⟩:=lZ "machine" (.ref M) hx;rw[<-e1];have len1:(bR ("machine":Str) (.ref M) []).length<=1:=cP _ _ _;refine fun kd hkd=>⟨_,rfl,x,Ck,dx,_,rfl,kp hx1 hkd,c.cls,c.a2,by omega,?_⟩;obtain⟨H2,e2,hx2,X2⟩:=lZ "known" (.ref kd) (kp (x:=.dT []) hx1 hkd);rw[<-e2];have nk:kd≠x:=(ac hx1 hkd).symm;refine k kd _ H2 hx2 ?_ ?_ ?_ (X2 _ _ aa nk) ?_ fun b o e n=>X2 _ _ (kp (X1 _ _ e n) hkd) n
 ·show d9 _ _=_;repeat (rw[aQ];first|rw[if_pos rfl] | rw[if_neg (by decide +kernel)])
 ·show d9 _ _=_;repeat (rw[aQ];first|rw[if_pos rfl] | rw[if_neg (by decide +kernel)])
 ·show d9 _ _=_;repeat (rw[aQ];first|rw[if_pos rfl] | rw[if_neg (by decide +kernel)])
  rfl
 ·cases e:H kd with
  |none=>rfl
  |some o=>have:=X1 _ _ e nk;rw[hkd]at this;cases this
def mH(J6:Zb)(d:Nat):TK:=.t [eW J6,.k (some (.inl (d:Int)))]
theorem wg{f g:Zb}{d e:Nat}(h:mH f d=mH g e):f=g/\d=e:=by
 unfold mH at h;injection h with h;injection h with h1 h2;injection h2 with h2 _;injection h2 with h2;injection h2 with h2;injection h2 with h2;exact⟨fC h1,by omega⟩
theorem cF(f:Zb)(d:Nat):(mH f d).depth<=8:=by
 show max (eW f).depth (max 0 0)+1<=8;rw[gR];decide
structure DC(K:Za)(C:Addr):Prop where
 cls:vn K C
 a1:cy K C "says_signs"
 a2:cy K C "known_steps"
 a3:cy K C "known_counts"
structure xx(Cm Ck Cd:Addr)(H0:Hp)(x sl y M kd cd:Addr)(us:Ze)(J0 J1 J2:Zb)(ds:List ak):Prop where
 ks:Bg Cm Ck H0 y M kd J0 J1 J2 ds
 ob:∃(dx:Addr) (fs:List (Str×V)),H0 x=some (.ins Cd dx fs)/\lk "says_signs" fs=some (.ref sl)/\lk "known_steps" fs=some (.ref y)/\lk "known_counts" fs=some (.ref cd)/\∀f:Str,f≠"says_signs"->f≠"known_steps"->f≠"known_counts"->lk f fs=none
 hsl:H0 sl=some (.lst (us.map V.ref))
 sg:i4 H0 us (J1.map eT)
 cdn:H0 cd=none
 ne:kd≠cd
structure dH(H0 H:Hp)(kd cd:Addr)(kv cv:List (TK×V))(J0 J1 J2:Zb)(ds:List ak)(n:Nat):Prop where
 ks:gk H0 H kd kv J0 J1 J2 ds n
 ncd:∀k,(k,V.ref cd)∉kv
 hcd:H cd=some (.dT cv)
 cok:∀p∈cv,∃(J6:Zb) (d:Nat),p=(mH J6 d,.int (cntM J0 J1 J2 ds d J6))
 clen:cv.length<=n
section
variable{H0 H H1 H':Hp}{kd cd d:Addr}{o:Obj}{kv cv kvs:List (TK×V)}{k:TK}{J0 J1 J2:Zb}{ds:List ak}{n m:Nat}
theorem gk.weak(S:ab H0 H1)(h:gk H1 H kd kv J0 J1 J2 ds n):gk H0 H kd kv J0 J1 J2 ds n :=
 ⟨S.trans h.same,h.hkd,fun p hp=>by obtain⟨f,d,kvs,e,n1,n2,r⟩:=h.kok p hp;exact⟨f,d,kvs,e,n1,S.free n2,r⟩,h.len⟩
theorem dH.up(h:dH H0 H kd cd kv cv J0 J1 J2 ds n)(S:ab H H'):dH H0 H' kd cd kv cv J0 J1 J2 ds n:=⟨h.ks.up S,h.ncd,S _ _ h.hcd,h.cok,h.clen⟩
theorem gk.cell{f:Addr}{xs ys:List V}(h:gk H0 H kd kv J0 J1 J2 ds n)(h0:H0 f=none)(hf:H f=some (.lst xs)):gk H0 (L2.upd H f (.lst ys)) kd kv J0 J1 J2 ds n :=
 ⟨fun b o e=>by rw[ah (ac e h0)];exact h.same _ _ e,by rw[ah (fun z=>by have:=h.hkd;rw[z,hf]at this;cases this)];exact h.hkd,fun p hp=>by
  obtain⟨g,d,kvs,e,n1,n2,r,st⟩:=h.kok p hp;refine⟨g,d,kvs,e,n1,n2,kU (fun o e=>?_) r,st.kt (gG hf)⟩;rw[ah (fun z=>by rw[z]at r;rcases r with r|⟨_,r⟩<;>(rw[hf]at r;cases r))];exact e,h.len⟩
theorem dH.cell{f:Addr}{xs ys:List V}(h:dH H0 H kd cd kv cv J0 J1 J2 ds n)(h0:H0 f=none)(hf:H f=some (.lst xs)):dH H0 (L2.upd H f (.lst ys)) kd cd kv cv J0 J1 J2 ds n :=
 ⟨h.ks.cell h0 hf,h.ncd,by rw[ah (fun z=>by have:=h.hcd;rw[z,hf]at this;cases this)];exact h.hcd,h.cok,h.clen⟩
theorem dH.more(h:dH H0 H kd cd kv cv J0 J1 J2 ds n)(l:n<=m):dH H0 H kd cd kv cv J0 J1 J2 ds m:=⟨h.ks.more l,h.ncd,h.hcd,h.cok,aJ h.clen l⟩
theorem dH.frz(h:dH H0 H kd cd kv cv J0 J1 J2 ds n)(v:aR kv k=some (.ref d))(hd:H d=some (.dT kvs)):dH H0 (upd H d (.frz o (.dT kvs))) kd cd kv cv J0 J1 J2 ds n :=
 ⟨h.ks.frz v hd,h.ncd,by rw[ah (fun z=>h.ncd k (by rw[z];exact fS v))];exact h.hcd,h.cok,h.clen⟩
end
theorem dq.kp{K:Za}{H H':Hp}{w:Addr}{s:List Sg}(k:Kp H H')(h:dq K H w s):dq K H' w s:=by
 obtain⟨gs,h1,h2⟩:=h;exact⟨gs,k _ _ h1 rfl,Paired.mapP h2 fun _ _ r=>e_.kt k.kt r⟩
inductive gV(Cm Ck Cd:Addr)(vs:List V)(H:Hp)(Q:VK)(E:XK):Prop
 |mk (H0:Hp) (x sl y M kd cd u:Addr) (us:Ze) (kv cv:List (TK×V)) (n:Nat) (J6 J0 J1 J2:Zb) (ds:List ak):(vs=[.ref x,.ref u])->(xx Cm Ck Cd H0 x sl y M kd cd us J0 J1 J2 ds)->(dH H0 H kd cd kv cv J0 J1 J2 ds n)->(H u=some (.tup (J6.map V.str)))->(∀r∈J6,r∈J2)->(J6.length<=1000)->(n<=1000000) ->
  (∀(d:Addr) (kv' kvs:List (TK×V)) (H':Hp),dH H0 H' kd cd kv' cv J0 J1 J2 ds (n+1)->aR kv' (eW J6)=some (.ref d)->Rd H' d (.dT kvs)->i3 H' kvs (stepsF J0 J1 J2 ds J6)->bh kd H H'->Gr kv kv'->Q (.ref d) H')->gV Cm Ck Cd vs H Q E
theorem wK{K:Za}{Cm Ck Cd:Addr}(c:DC K Cd){vs:List V}{H:Hp}{Q:VK}{E:XK}(h:gV Cm Ck Cd vs H Q E):kD K Ck (jh Cm Ck) (bc Q) (start ln vs) H:=by
 obtain⟨H0,x,sl,y,M,kd,cd,u,us,kv,cv,n,J6,J0,J1,J2,ds,rfl,St,Dy,hu,hsub,hz,hn,k⟩:=h;obtain⟨dx,fs,g0,l1,l2,l3,l4⟩:=St.ob;obtain⟨dy,fy,gy,m1,m2,m3⟩:=id St.ks.ob;have S0:ab H0 (upd H0 cd (.dT cv)):=ab.new St.cdn;have St':Bg Cm Ck (upd H0 cd (.dT cv)) y M kd J0 J1 J2 ds:=⟨St.ks.mach.same S0,⟨dy,fy,S0 _ _ gy,m1,m2,m3⟩,by rw[ah St.ne];exact St.ks.kdn⟩;refine⟨_,rfl,x,Cd,dx,fs,.ref y,rfl,Dy.ks.same _ _ g0,c.cls,c.a2,l2,y,dy,fy,rfl,Dy.ks.same _ _ gy,m3,_,rfl,upd H0 cd (.dT cv),y,M,kd,u,kv,n,J6,J0,J1,J2,ds,rfl,St',Dy.ks.keep Dy.hcd St.ne.symm Dy.ncd,hu,hsub,hz,hn,fun d kv' kvs H' D' v r st ex gr=>?_⟩;refine k d kv' kvs H' ⟨D'.weak S0,fun q hq=>?_,D'.same _ _ aa,Dy.cok,by have:=Dy.clen;omega⟩ v r st ex gr;obtain⟨_,_,_,e,_,z,_⟩:=D'.kok _ hq;injection e with _ e;injection e with e;rw[<-e,aa]at z;cases z
def f8(sg:Sg):Bool:=decide (sg.head?=some ("ask":Str))
theorem jY{J2 J6:Zb}{ds:List ak}{g:Str->Sg}{b:Bool}(hb:∀a,f8 (g a)=b):∀A:List Str,((((A.map g).map fun sg=>(sg,behF J2 ds J6 sg)).filter fun p=>decide (p.2≠[])).filter fun p=>f8 p.1).map (·.1)=if b=true then(A.filter fun a=>decide (behF J2 ds J6 (g a)≠[])).map g else[]
 |[]=>by cases b<;>rfl
 |a::A=>by
  have ih:=jY (J2:=J2) (J6:=J6) (ds:=ds) hb A;rw[a_,a_];by_cases c:behF J2 ds J6 (g a)=[]
  ·rw[qo (by simp[c]),ih,qo (by simp[c])]
  ·rw[qk (by simp[c]),qk (p:=fun a=>decide (behF J2 ds J6 (g a)≠[])) (by simp[c])];cases b with
   |true=>rw[qk (by exact hb a),a_,ih];rfl
   |false=>rw[qo (by show ¬f8 (g a)=true;rw[hb a];decide),ih];rfl
def askS(J0 J2:Zb)(ds:List ak)(J6:Zb):List Sg:=(J0.filter fun a=>decide (behF J2 ds J6 (c7 a)≠[])).map c7
theorem s_(J0 J1 J2:Zb)(ds:List ak)(J6:Zb):((stepsF J0 J1 J2 ds J6).filter fun p=>f8 p.1).map (·.1)=askS J0 J2 ds J6:=by
 unfold stepsF bL;rw[ap,ap,fM,fM,fM,fM,ap,ap,jY (b:=true) (fun a=>by unfold f8 c7;rfl),jY (b:=false) (fun a=>by unfold f8 eT;rfl)];rw[if_pos rfl,if_neg (by decide)];have:((([bv].map fun sg=>(sg,behF J2 ds J6 sg)).filter fun p=>decide (p.2≠[])).filter fun p=>f8 p.1)=[]:=by
  rw[List.filter_eq_nil_iff];intro p hp;obtain⟨sg,hs,rfl⟩:=aE.1 (dC.1 hp).1;rw[eh.1 hs];show ¬f8 bv=true
  decide
 rw[this,c6];show _++[]=_;rw[c6];rfl
theorem zC{J0 J1:Zb}{sg:Sg}(h:sg∈bL J0 J1):∃s0 rest,sg=s0::rest:=by
 unfold bL at h;rcases aU.1 h with h|h
 ·rcases aU.1 h with h|h
  ·obtain⟨a,_,rfl⟩:=aE.1 h;exact⟨_,_,rfl⟩
  ·obtain⟨a,_,rfl⟩:=aE.1 h;exact⟨_,_,rfl⟩
 ·rw[eh.1 h];exact⟨_,_,rfl⟩
theorem wB{J0 J1 J2 J6:Zb}{ds:List ak}(m:bH J0 J1 J2 ds):(stepsF J0 J1 J2 ds J6).length<=9:=by
 have z1:=m.asks4;have z2:=m.says4;unfold stepsF;refine aJ (ca _ _) ?_;unfold bL;rw[ai,bf,bf,ai,ai];show _+1<=9;omega
abbrev AH(K:Za)(H:Hp)(us:Ze)(L:List Sg):Prop:=Paired (fun s (sg:Sg)=>e_ K H s (sg.map V.str)) us L
theorem AH.kt{K:Za}{H H':Hp}{us:Ze}{L:List Sg}(k:iC H H')(h:AH K H us L):AH K H' us L:=Paired.mapP h fun _ _ r=>e_.kt k r
theorem qb{K:Za}{σ:L2.St}{H:Hp}{d l:Addr}{o:Obj}{kvs:List (TK×V)}{J0 J1 J2 J6:Zb}{ds:List ak}{Q:Hp->Prop}(m:bH J0 J1 J2 ds)(hd:H d=some (.frz o (.dT kvs)))(st:i3 H kvs (stepsF J0 J1 J2 ds J6))(hl:H l=none)
  (k:∀(us:Ze) (H':Hp),H' l=some (.lst (us.map V.ref))->AH K H' us (askS J0 J2 ds J6)->ab H H'->Q H') :
  dj 1 [] σ (Bl d o (.dT kvs) kvs.length (z8 K kvs)) U0 (br (aD yd (aD (o9 K) V0 (tC (.int 0))) (tC (.str "ask")))) V0 H l Q:=by
 have zs:=wB (J6:=J6) m;refine xi (fun i vs H'=>∃us:List Addr,vs=us.map V.ref/\ab H H'/\H' l=some (.lst vs)/\AH K H' us ((((stepsF J0 J1 J2 ds J6).take i).filter fun p=>f8 p.1).map (·.1))) ⟨[],rfl,ab.new hl,aa,.nil⟩ (fun i vs H' _ ⟨_,_,S,h',_⟩=>⟨h',S _ _ hd⟩) ?_ ?_
 ·rintro vs H' ⟨us,rfl,S,h',hP⟩;rw[Paired.length st,aX,s_]at hP;exact k us H' h' hP S
 ·rintro i vs H' a b hi ⟨us,rfl,S,h',hP⟩ ⟨key,ek,tkc⟩;obtain⟨p,hp,e,_⟩:=Paired.getL st ek;have e:key=eW p.1:=e;rw[e]at tkc;obtain⟨s,rfl,tc⟩:=xI tkc;obtain⟨sg,hsg,ep⟩:=aE.1 (dC.1 (dB hp)).1;have e1:p.1=sg:=by rw[<-ep]
  obtain⟨s0,rest,e2⟩:=zC hsg;have tc':=tc;rw[e1,e2]at tc';have hd':(decide (V.str s0=V.str ("ask":Str)))=f8 p.1:=by
   unfold f8;rw[e1,e2];by_cases c:s0=("ask":Str)
   ·rw[c];simp
   ·rw[zzr0 (fun z=>c (by injection z)),zzr0 (fun z=>c (by simpa using z))]
  refine gN ?_;refine⟨_,rfl,.inr (.inl ⟨s,_,0,.str s0,rfl,rfl,e_.sq tc',fF (j:=0) rfl,rfl,_,rfl,?_⟩)⟩;rw[hd'];refine iV (fun hq=>?_) (fun hq=>?_)
  ·refine⟨_,rfl,h',?_,lT hi ⟨us++[s],by rw[ap];rfl,?_,aa,?_⟩⟩
   ·rw[ai,Paired.length hP,ai];refine am (aJ (ca _ _) ?_);rw[aL];omega
   ·intro b o q;rw[ah (ac q hl)];exact S _ _ q
   ·rw[take_snoc hp,fM,ap,qk (by exact hq)];have hk:iC H' (upd H' l (.lst (us.map V.ref++[.ref s]))):=gG h';exact hC (hP.kt hk) (e_.kt hk tc)
  ·refine lT hi ⟨us,rfl,S,h',?_⟩;rw[take_snoc hp,fM,ap,qo (by exact hq)];show AH K H' us (_++[]);rw[c6];exact hP
theorem oI{K:Za}{Cm Ck Cd hu:Addr}(c:DC K Cd)(hh:∀H,bE K H hu (bv.map V.str)){H0 H:Hp}{x sl y M kd cd u al:Addr}{us as:Ze}{J0 J1 J2 J6:Zb}{ds:List ak}{Q:VK}{nx:L2.St->Hp->Prop}
  (St:xx Cm Ck Cd H0 x sl y M kd cd us J0 J1 J2 ds) (S:ab H0 H) (hal:H al=some (.lst (as.map V.ref))) (hA:AH K H as (askS J0 J2 ds J6))
  (k:∀(l:Addr) (ks:Ze) (H':Hp),H' l=some (.lst (ks.map V.ref))->Paired (dq K H') ks (kindsF J0 J1 J2 ds J6)->ab H H'->Q (.ref l) H') :
  (aY (aD j3 (bZ 1 [0] (bC K V2) U0 (iy) (aD j3 (de (aB V0)) (fT K V1 "says_signs"))) (de (au (aD j3 (fT K V0 "says_signs") (de (aB (tC (.ref hu))))) bI)))) { nx:=nx,rt:=Q } [some (.ref x),some (.ref u),some (.ref al)] H:=by
 obtain⟨dx,fs,g0,l1,l2,l3,l4⟩:=St.ob;have mo:=St.ks.mach.ok;have z1:=mo.asks4;have z2:=mo.says4;have zu:us.length<=4:=by rw[Paired.length St.sg,ai];exact z2
 have za:(askS J0 J2 ds J6).length<=4:=by unfold askS;rw[ai];exact aJ (ca _ _) z1
 have sgT:∀{H':Hp},ab H0 H'->AH K H' us (J1.map eT):=fun S'=>Paired.mapP (i4.kt (ab.kt S') St.sg) fun _ _ r=>.inl r;refine⟨_,rfl,al,rfl,⟨_,ay.of hal⟩,fun kl hkl=>?_⟩;refine bN (xs:=as.map V.ref) (fun i vs H'=>∃ks:List Addr,vs=ks.map V.ref/\ab H H'/\H' kl=some (.lst vs)/\Paired (dq K H') ks (((askS J0 J2 ds J6).take i).map fun sg=>sg::J1.map eT)/\∀q∈ks,q≠kl) ⟨[],rfl,ab.new hkl,aa,.nil,fun _ h=>by cases h⟩ (fun i vs H' _ ⟨_,_,S',h',_⟩=>⟨h',ay.of (S' _ _ hal)⟩) ?_ ?_;rotate_left
 ·rintro i vs H1 v hv hi ⟨ks,rfl,S1,h1,hK,nk⟩;obtain⟨s,hs,rfl⟩:=cg hv;obtain⟨sg,hsg,hat⟩:=Paired.getL hA hs;refine gN (qK ?_);refine⟨_,rfl,(by show 1<=aj;decide),fun ll hll=>?_⟩;have S2:ab H1 (upd H1 ll (.lst [.ref s])):=ab.new hll;have ll2:upd H1 ll (.lst [.ref s]) ll=some (.lst [.ref s]):=aa;generalize upd H1 ll (.lst [.ref s])=H2 at S2 ll2 ⊢;have S02:=(S.trans S1).trans S2;refine⟨_,rfl,x,Cd,dx,fs,.ref sl,rfl,S02 _ _ g0,c.cls,c.a1,l1,ll,sl,_,_,rfl,rfl,ll2,S02 _ _ St.hsl,?_,fun c1 hc1=>?_⟩
  ·rw[ai];exact cM (am (by show 1+_<=1000;omega))
  have S3:ab H2 (upd H2 c1 (.lst ([V.ref s]++us.map V.ref))):=ab.new hc1;have c3:upd H2 c1 (.lst ([V.ref s]++us.map V.ref)) c1=some (.lst ((s::us).map V.ref)):=aa;have nc:c1≠kl:=(ac (S2 _ _ h1) hc1).symm;generalize upd H2 c1 (.lst ([V.ref s]++us.map V.ref))=H3 at S3 c3 ⊢;have S13:=S2.trans S3;have S03:=(S.trans S1).trans S13;have kl3:=S13 _ _ h1;have hk:iC H3 (upd H3 kl (.lst (ks.map V.ref++[.ref c1]))):=gG kl3;refine⟨kl3,?_,lT hi ⟨ks++[c1],by rw[ap];rfl,?_,aa,?_,fun q hq=>?_⟩⟩
  ·rw[ai,Paired.length hK,ai,aL];exact am (by omega)
  ·intro b o q;rw[ah (ac q hkl)];exact S13 _ _ (S1 _ _ q)
  ·rw[take_snoc hsg,ap];have cell:∀{q:Addr}{L:List Sg},q≠kl->dq K H3 q L->dq K (upd H3 kl (.lst (ks.map V.ref++[.ref c1]))) q L:=fun n h=>h.kt hk fun o e=>by rw[ah n];exact e
   refine hC ?_ (cell nc ⟨s::us,c3,.cons (e_.kt (ab.kt (S1.trans S13)) hat) (sgT S03)⟩);refine Paired.mapM hK fun q L hq r=>cell (nk q hq) (r.kt (ab.kt S13) fun o e=>S13 _ _ e)
  ·rcases aU.1 hq with hq|hq
   ·exact nk q hq
   ·rw[eh.1 hq];exact nc
 ·rintro vs H1 ⟨ks,rfl,S1,h1,hK,_⟩;rw[ai,Paired.length hA,aX]at hK;have S01:=S.trans S1;refine⟨_,rfl,x,Cd,dx,fs,.ref sl,rfl,S01 _ _ g0,c.cls,c.a1,l1,(by show 1<=aj;decide),fun hl hhl=>?_⟩;have S2:ab H1 (upd H1 hl (.lst [.ref hu])):=ab.new hhl;have hl2:upd H1 hl (.lst [.ref hu]) hl=some (.lst [.ref hu]):=aa;generalize upd H1 hl (.lst [.ref hu])=H2 at S2 hl2 ⊢;have S02:=S01.trans S2;refine⟨sl,hl,_,_,rfl,rfl,S02 _ _ St.hsl,hl2,?_,fun c2 hc2=>?_⟩
  ·rw[ai];exact cM (am (by show _+1<=1000;omega))
  have S3:ab H2 (upd H2 c2 (.lst (us.map V.ref++[.ref hu]))):=ab.new hc2;have c3:upd H2 c2 (.lst (us.map V.ref++[.ref hu])) c2=some (.lst ((us++[hu]).map V.ref)):=by rw[aa,ap];rfl
  generalize upd H2 c2 (.lst (us.map V.ref++[.ref hu]))=H3 at S3 c3 ⊢;refine⟨(by show 1<=aj;decide),fun ol hol=>?_⟩;have S4:ab H3 (upd H3 ol (.lst [.ref c2])):=ab.new hol;have ol4:upd H3 ol (.lst [.ref c2]) ol=some (.lst [.ref c2]):=aa;generalize upd H3 ol (.lst [.ref c2])=H4 at S4 ol4 ⊢;have S14:=(S2.trans S3).trans S4;refine⟨kl,ol,_,_,rfl,rfl,S14 _ _ h1,ol4,?_,fun r hr=>?_⟩
  ·rw[ai,Paired.length hK,ai];exact cM (am (by show _+1<=1000;omega))
  have S5:ab H4 (upd H4 r (.lst (ks.map V.ref++[.ref c2]))):=ab.new hr;refine k r (ks++[c2]) _ (by rw[aa,ap];rfl) ?_ ((S1.trans S14).trans S5);have S15:=S14.trans S5;have e:kindsF J0 J1 J2 ds J6=((askS J0 J2 ds J6).map fun sg=>sg::J1.map eT)++[J1.map eT++[bv]]:=by
   unfold kindsF askS;rw[iH];rfl
  rw[e];refine hC (Paired.mapP hK fun _ _ h=>h.kt (ab.kt S15) fun o e=>S15 _ _ e) ⟨us++[hu],S5 _ _ (S4 _ _ c3),?_⟩;exact Paired.app (sgT (S01.trans S15)) (.cons (vH hh _) .nil)
inductive je(K:Za)(Cm Ck Cd:Addr)(vs:List V)(H:Hp)(Q:VK)(E:XK):Prop
 |mk (H0:Hp) (x sl y M kd cd u:Addr) (us:Ze) (kv cv:List (TK×V)) (n:Nat) (J6 J0 J1 J2:Zb) (ds:List ak):(vs=[.ref x,.ref u])->(xx Cm Ck Cd H0 x sl y M kd cd us J0 J1 J2 ds)->(dH H0 H kd cd kv cv J0 J1 J2 ds n)->(H u=some (.tup (J6.map V.str)))->(∀r∈J6,r∈J2)->(J6.length<=1000)->(n<=1000000) ->
  (∀(l:Addr) (ks:Ze) (kv':List (TK×V)) (H':Hp),H' l=some (.lst (ks.map V.ref))->Paired (dq K H') ks (kindsF J0 J1 J2 ds J6)->dH H0 H' kd cd kv' cv J0 J1 J2 ds (n+1)->Kp H H'->Gr kv kv'->Q (.ref l) H')->je K Cm Ck Cd vs H Q E
theorem wH{K:Za}{Cm Ck Cd hu:Addr}(c:DC K Cd)(hh:∀H,bE K H hu (bv.map V.str)){vs:List V}{H:Hp}{Q:VK}{E:XK}(h:je K Cm Ck Cd vs H Q E):mO K hu Cd (gV Cm Ck Cd) (bc Q) (start m_ vs) H:=by
 obtain⟨H0,x,sl,y,M,kd,cd,u,us,kv,cv,n,J6,J0,J1,J2,ds,rfl,St,Dy,hu',hsub,hz,hn,k⟩:=h;obtain⟨dx,fs,g0,l1,l2,l3,l4⟩:=St.ob;have mo:=St.ks.mach.ok;refine⟨_,rfl,x,dx,fs,rfl,Dy.ks.same _ _ g0,l4 "steps_from" (by decide +kernel) (by decide +kernel) (by decide +kernel),_,rfl,H0,x,sl,y,M,kd,cd,u,us,kv,cv,n,J6,J0,J1,J2,ds,rfl,St,Dy,hu',hsub,hz,hn,fun d kv' kvs H1 D1 v1 r1 st1 ex1 gr=>⟨d,kvs,rfl,?_⟩⟩;have kp1:Kp H H1:=Kp.exB Dy.ks.hkd rfl ex1;rcases r1 with r1|⟨o,r1⟩
 ·refine .inl ⟨r1,fun o l hl=>?_⟩;have D2:=D1.frz (o:=o) v1 r1;have kp2:Kp H1 (upd H1 d (.frz o (.dT kvs))):=Kp.upd r1 rfl;refine qb mo aa (st1.kt (A8 r1)) hl fun as H2 h2 hA S2=>?_;exact oI c hh St (D2.ks.same.trans S2) h2 hA fun r ks H3 h3 hK S3=>k r ks kv' H3 h3 hK ((D2.up S2).up S3) ((kp1.trans kp2).trans (ab.kp (S2.trans S3))) gr
 ·refine .inr ⟨o,r1,fun l hl=>?_⟩;refine qb mo r1 st1 hl fun as H2 h2 hA S2=>?_;exact oI c hh St (D1.ks.same.trans S2) h2 hA fun r ks H3 h3 hK S3=>k r ks kv' H3 h3 hK ((D1.up S2).up S3) (kp1.trans (ab.kp (S2.trans S3))) gr
def nB:Nat->Nat
 |0=>0
 |d+1=>7+25 * nB d
def BO(H:Hp)(v:V)(J6:Zb):Prop:=(v=.non/\J6=[])∨∃u,v=.ref u/\H u=some (.tup (J6.map V.str))
inductive fV(Cm Ck Cd:Addr)(D:Nat)(vs:List V)(H:Hp)(Q:VK)(E:XK):Prop
 |mk (H0:Hp) (x sl y M kd cd:Addr) (us:Ze) (v:V) (kv cv:List (TK×V)) (n d:Nat) (J6 J0 J1 J2:Zb) (ds:List ak):(vs=[.ref x,v,.int (d:Nat)])->(d<=D)->(xx Cm Ck Cd H0 x sl y M kd cd us J0 J1 J2 ds)->(dH H0 H kd cd kv cv J0 J1 J2 ds n)->(BO H v J6)->(v≠.non->J6≠[])->(∀r∈J6,r∈J2)->(J6.length<=1000)->(n+nB d<=1000000) ->
  (∀(kv' cv':List (TK×V)) (H':Hp),dH H0 H' kd cd kv' cv' J0 J1 J2 ds (n+nB d)->Kp H H'->Gr kv kv'->Q (.int (cntM J0 J1 J2 ds d J6)) H')->fV Cm Ck Cd D vs H Q E
inductive iP(K:Za)(Cm Ck Cd:Addr)(D:Nat)(vs:List V)(H:Hp)(Q:VK)(E:XK):Prop
 |mk (H0:Hp) (x sl y M kd cd u kl:Addr) (us:Ze) (kv cv:List (TK×V)) (n d:Nat) (kind:List Sg) (J6 J0 J1 J2:Zb) (ds:List ak):(vs=[.ref x,.ref u,.int ((d+1:Nat)),.ref kl])->(d<=D)->(d<=4)->(xx Cm Ck Cd H0 x sl y M kd cd us J0 J1 J2 ds)->(dH H0 H kd cd kv cv J0 J1 J2 ds n)->(H u=some (.tup (J6.map V.str)))->(∀r∈J6,r∈J2)->(J6.length<=1000)->(dq K H kl kind)->(∀sg∈kind,sg∈bL J0 J1)->(kind.length<=5)->(n+1+5 * nB d<=1000000) ->
  (∀(kv' cv':List (TK×V)) (H':Hp),dH H0 H' kd cd kv' cv' J0 J1 J2 ds (n+1+5 * nB d)->Kp H H'->Gr kv kv'->Q (.int (gx (kind.map fun sg=>cntM J0 J1 J2 ds d (behF J2 ds J6 sg)))) H')->iP K Cm Ck Cd D vs H Q E
theorem xW{K:Za}{Cm Ck Cd:Addr}{D:Nat}{vs:List V}{H:Hp}{Q:VK}{E:XK}(h:iP K Cm Ck Cd D vs H Q E):mP K sp_product Cd (fV Cm Ck Cd D) (gV Cm Ck Cd) (bc Q) (start ng vs) H:=by
 obtain⟨H0,x,sl,y,M,kd,cd,u,kl,us,kv,cv,n,d,kind,J6,J0,J1,J2,ds,rfl,hD,d4,St,Dy,hu,hsub,hz,hk,hin,zk,hn,k⟩:=h;obtain⟨dx,fs,g0,l1,l2,l3,l4⟩:=St.ob;have mo:=St.ks.mach.ok;have z1:=mo.asks4;have z2:=mo.says4;have z3:=mo.rooms26;refine⟨_,rfl,x,dx,fs,rfl,Dy.ks.same _ _ g0,l4 "steps_from" (by decide +kernel) (by decide +kernel) (by decide +kernel),_,rfl,H0,x,sl,y,M,kd,cd,u,us,kv,cv,n,J6,J0,J1,J2,ds,rfl,St,Dy,hu,hsub,hz,by omega,fun sd kv1 kvs H1 D1 v1 _ _ ex1 gr1=>?_⟩;have kp1:Kp H H1:=Kp.exB Dy.ks.hkd rfl ex1;obtain⟨ss,hkl,hss⟩:=hk;have kl1:=kp1 _ _ hkl rfl;refine⟨_,rfl,kl,rfl,⟨_,ay.of kl1⟩,fun f hf=>?_⟩;refine bN (xs:=ss.map V.ref) (fun i vs H'=>∃(kv' cv':List (TK×V)),vs=((kind.take i).map fun sg=>cntM J0 J1 J2 ds d (behF J2 ds J6 sg)).map V.int/\H' f=some (.lst vs)/\Kp H1 H'/\dH H0 H' kd cd kv' cv' J0 J1 J2 ds (n+1+i * nB d)/\Gr kv1 kv')
  ⟨kv1,cv,rfl,aa,ab.kp (ab.new hf),(D1.up (ab.new hf)).more (by omega),.refl _⟩ (fun i vs H' _ ⟨_,_,_,h',kp',_⟩=>⟨h',ay.of (kp' _ _ kl1 rfl)⟩) ?_ ?_
 rotate_left
 ·rintro i vs H2 w hw hi ⟨kv2,cv2,rfl,f2,kp2,D2,gr2⟩;obtain⟨s,hs,rfl⟩:=cg hw;obtain⟨sg,hsg,hat⟩:=Paired.getL hss hs;have il:i<kind.length:=(bT.1 hsg).1;have hsi:=hin sg (dB hsg);have hat2:e_ K H2 s (sg.map V.str):=e_.kt (kp1.trans kp2).kt hat;obtain⟨f',sd',kvs2,e',_,_,r2,st2⟩:=D2.ks.kok _ (fS (gr2 _ _ v1));injection e' with e1 e2;cases fC e1;cases e2;have gd:lq K H2 sd (.ref s) (aR kvs2 (eW sg)):=.inr ⟨_,eW sg,s,r2,rfl,zo hat2,eF _,rfl⟩;have mul:(i+1) * nB d=i * nB d+nB d:=lr _ _;have mul5:(i+1) * nB d<=5 * nB d:=g_ _ (by omega);refine gN (qK ?_);refine⟨_,rfl,x,dx,fs,rfl,D2.ks.same _ _ g0,l4 "count_at" (by decide +kernel) (by decide +kernel) (by decide +kernel),_,rfl,sd,rfl,.inr ⟨_,r2⟩,_,rfl,_,gd,_,rfl,_,_,rfl,rfl,H0,x,sl,y,M,kd,cd,us,(aR kvs2 (eW sg)).getD .non,kv2,cv2,_,d,behF J2 ds J6 sg,J0,J1,J2,ds,?_,hD,St,D2,?_,?_,y9 hsub,t6 (by omega) hz,by omega,fun kv3 cv3 H3 D3 kp3 gr3=>?_⟩
  ·show[V.ref x,_,V.int (((d+1:Nat):Int)-1)]=_;rw[show(((d+1:Nat):Int)-1)=(d:Nat) by omega]
  ·rcases st2.look hsi with⟨e1,e2⟩|⟨e1,u2,e2,e3⟩
   ·rw[e1,e2];exact .inl ⟨rfl,rfl⟩
   ·rw[e2];exact .inr ⟨u2,rfl,e3⟩
  ·rcases st2.look hsi with⟨e1,e2⟩|⟨e1,u2,e2,e3⟩
   ·rw[e2];exact fun z=>absurd rfl z
   ·exact fun _=>e1
  have f3:=kp3 _ _ f2 rfl;refine⟨f3,?_,lT hi ⟨kv3,cv3,?_,aa,?_,?_,gr2.trans gr3⟩⟩
  ·rw[ai,ai,aL];exact am (by omega)
  ·rw[take_snoc hsg,ap,ap];rfl
  ·exact fun b o e no=>by rw[ah (ac e hf)];exact kp3 _ _ (kp2 _ _ e no) no
  ·exact(D3.more (m:=n+1+(i+1) * nB d) (by omega)).cell (D1.ks.same.free hf) f3
 ·rintro vs H2 ⟨kv2,cv2,rfl,f2,kp2,D2,gr2⟩;rw[ai,Paired.length hss,aX]at f2;rw[ai,Paired.length hss]at D2;have m5:kind.length * nB d<=5 * nB d:=g_ _ zk;refine⟨f,_,bB d,rfl,f2,fun z hz'=>?_,by have:=AG d d4;omega,by rw[ai];omega,k kv2 cv2 H2 (D2.more (by omega)) (kp1.trans kp2) (gr1.trans gr2)⟩;obtain⟨sg,_,rfl⟩:=aE.1 hz';exact oT z1 z2 d _
theorem tJ{kvs:List (TK×V)}{k:TK}{v:V}{p:TK×V}(h:p∈cr kvs k v):p∈kvs∨p=(k,v):=by
 unfold cr at h;split at h
 ·obtain⟨q,hq,rfl⟩:=aE.1 h;split
  ·next e=>exact .inr (by rw[e])
  ·exact .inl hq
 ·rcases aU.1 h with h|h
  ·exact .inl h
  ·exact .inr (eh.1 h)
theorem l6{H:Hp}{p u:Addr}{J6:Zb}{d:Nat}(hp:H p=some (.tup [.ref u,.int (d:Nat)]))(hu:H u=some (.tup (J6.map V.str))):cC H (mH J6 d) (.ref p):=by
 unfold mH cC;refine⟨p,_,rfl,hp,?_⟩;unfold TKAts;refine⟨_,_,rfl,SignAt.tk hu,?_⟩;unfold TKAts;refine⟨_,_,rfl,by unfold cC;rfl,by unfold TKAts;rfl⟩
section
variable{H0 H:Hp}{kd cd:Addr}{kv cv:List (TK×V)}{J0 J1 J2 J6:Zb}{ds:List ak}{n d:Nat}{w:V}
theorem dH.val(h:dH H0 H kd cd kv cv J0 J1 J2 ds n)(v:aR cv (mH J6 d)=some w):w=.int (cntM J0 J1 J2 ds d J6):=by
 obtain⟨f,e,q⟩:=h.cok _ (fS v);injection q with q1 q2;obtain⟨rfl,rfl⟩:=wg q1;exact q2
theorem dH.put(h:dH H0 H kd cd kv cv J0 J1 J2 ds n)(h0:H0 cd=none)(ne:kd≠cd):dH H0 (upd H cd (.dT (cr cv (mH J6 d) (.int (cntM J0 J1 J2 ds d J6))))) kd cd kv (cr cv (mH J6 d) (.int (cntM J0 J1 J2 ds d J6))) J0 J1 J2 ds (n+1):=by
 refine⟨⟨fun b o e=>by rw[ah (ac e h0)];exact h.ks.same _ _ e,by rw[ah ne];exact h.ks.hkd,fun p hp=>?_,Nat.le_succ_of_le h.ks.len⟩,h.ncd,aa,fun p hp=>?_,aJ (dF _ _ _) (Nat.succ_le_succ h.clen)⟩
 ·obtain⟨g,d,kvs,e,n1,n2,r,st⟩:=h.ks.kok p hp;exact⟨g,d,kvs,e,n1,n2,kU (fun o q=>by rw[ah (fun z=>h.ncd (eW g) (by rw[<-z,<-e];exact hp))];exact q) r,st.kt (A8 h.hcd)⟩
 ·rcases tJ hp with hp|rfl
  ·exact h.cok p hp
  ·exact⟨_,_,rfl⟩
end
theorem xX{K:Za}{Cm Ck Cd:Addr}(c:DC K Cd){D:Nat}{spO:Sp}(d5:D<=4)(hO:∀m,D=m+1->spO=iP K Cm Ck Cd m){vs:List V}{H:Hp}{Q:VK}{E:XK}(h:fV Cm Ck Cd D vs H Q E):mQ K Cd (je K Cm Ck Cd) spO (bc Q) (start nh vs) H:=by
 obtain⟨H0,x,sl,y,M,kd,cd,us,v,kv,cv,n,d,J6,J0,J1,J2,ds,rfl,hD,St,Dy,hv,hne,hsub,hz,hn,k⟩:=h;obtain⟨dx,fs,g0,l1,l2,l3,l4⟩:=St.ob;have mo:=St.ks.mach.ok;have z1:=mo.asks4;have z2:=mo.says4;have one:cntM J0 J1 J2 ds d J6=1->Q (.int 1) H:=fun e=>by
  have:=k kv cv H (Dy.more (by omega)) (fun _ _ e _=>e) (.refl _);rw[e]at this;exact this
 refine⟨_,rfl,_,rfl,?_⟩;rcases hv with⟨rfl,rfl⟩|⟨u,rfl,hu⟩
 ·refine cA ?_;refine cA ?_;exact one (tW _ _ _ _ _)
 have hne:=hne (by intro z;cases z);refine cB ?_;refine⟨_,rfl,rfl,_,rfl,?_⟩
 match d,hD,hn,k,one with
 |0,_,_,_,one =>
  refine cA ?_;exact one (by unfold cntM;rfl)
 |d+1,hD,hn,k,one =>
 rw[zzr0 (by intro z;injection z with z;omega)];refine cB ?_;obtain⟨m,rfl⟩:∃m,D=m+1:=⟨D-1,by omega⟩;cases hO m rfl;have eq:cntM J0 J1 J2 ds (d+1) J6=1+((kindsF J0 J1 J2 ds J6).map fun k=>gx (k.map fun sg=>cntM J0 J1 J2 ds d (behF J2 ds J6 sg))).sum:=by
  conv=>lhs;unfold cntM
  rw[if_neg hne]
 have nb:nB (d+1)=7+25 * nB d:=rfl;have fin:∀{kv' cv':List (TK×V)}{H':Hp}{σ3:Option V},dH H0 H' kd cd kv' cv' J0 J1 J2 ds (n+nB (d+1))->Kp H H'->Gr kv kv'->aR cv' (mH J6 (d+1))=some (.int (cntM J0 J1 J2 ds (d+1) J6))->(aY (iM K (fT K V0 "known_counts") (bV (ba V1 V2)))) (bc Q) [some (.ref x),some (.ref u),some (.int ((d+1:Nat))),σ3] H':=by
  intro kv' cv' H' σ3 D' kp' gr' v';refine⟨_,rfl,x,Cd,dx,fs,.ref cd,rfl,D'.ks.same _ _ g0,c.cls,c.a3,l3,_,rfl,_,rfl,(by show 2<=aj;decide),fun p hp=>?_⟩;have S:ab H' (upd H' p (.tup [.ref u,.int ((d+1:Nat))])):=ab.new hp;have tk:=l6 (d:=d+1) (aa (H:=H') (a:=p)) (S _ _ (kp' _ _ hu rfl));refine⟨cd,_,rfl,.inr ⟨_,mH J6 (d+1),p,.inl (S _ _ D'.hcd),rfl,cC.isIn 8 (cF _ _) tk,cF _ _,v'.symm⟩,k kv' cv' _ (D'.up S) (kp'.trans (ab.kp S)) gr'⟩
 refine⟨_,rfl,_,rfl,(by show 2<=aj;decide),fun p hp=>?_⟩;have S:ab H (upd H p (.tup [.ref u,.int ((d+1:Nat))])):=ab.new hp;have tk:=l6 (d:=d+1) (aa (H:=H) (a:=p)) (S _ _ hu);generalize upd H p (.tup [.ref u,.int ((d+1:Nat))])=H1 at S tk ⊢;have D1:=Dy.up S;refine⟨_,rfl,x,Cd,dx,fs,.ref cd,rfl,D1.ks.same _ _ g0,c.cls,c.a3,l3,cd,_,rfl,.inr ⟨_,mH J6 (d+1),p,.inl D1.hcd,rfl,cC.isIn 8 (cF _ _) tk,cF _ _,rfl⟩,_,rfl,?_⟩;cases hval:aR cv (mH J6 (d+1))with
 |some w =>
  refine cB ?_;exact fin (D1.more (by omega)) (ab.kp S) (.refl _) (by rw[hval,Dy.val hval])
 |none =>
  refine cA ?_;refine⟨_,rfl,x,dx,fs,rfl,D1.ks.same _ _ g0,l4 "kinds_at" (by decide +kernel) (by decide +kernel) (by decide +kernel),_,rfl,H0,x,sl,y,M,kd,cd,u,us,kv,cv,n,J6,J0,J1,J2,ds,rfl,St,D1,S _ _ hu,hsub,hz,by omega,fun l ks kv1 H2 hl hK D2 kp2 gr2=>⟨l,rfl,⟨_,ay.of hl⟩,fun f hf=>?_⟩⟩;have u2:=kp2 _ _ (S _ _ hu) rfl;have kl:=p4 (J1:=J1) (J2:=J2) (ds:=ds) (J6:=J6) z1;refine bN (xs:=ks.map V.ref) (fun i vs H'=>∃(kv' cv':List (TK×V)),vs=(((kindsF J0 J1 J2 ds J6).take i).map fun k=>gx (k.map fun sg=>cntM J0 J1 J2 ds d (behF J2 ds J6 sg))).map V.int/\H' f=some (.lst vs)/\Kp H2 H'/\dH H0 H' kd cd kv' cv' J0 J1 J2 ds (n+1+i * (1+5 * nB d))/\Gr kv1 kv')
   ⟨kv1,cv,rfl,aa,ab.kp (ab.new hf),(D2.up (ab.new hf)).more (by omega),.refl _⟩ (fun i vs H' _ ⟨_,_,_,h',kp',_⟩=>⟨h',ay.of (kp' _ _ hl rfl)⟩) ?_ ?_
  rotate_left
  ·rintro i vs H3 w hw hi ⟨kv3,cv3,rfl,f3,kp3,D3,gr3⟩;obtain⟨q,hq,rfl⟩:=cg hw;obtain⟨kind,hkd,hat⟩:=Paired.getL hK hq;have il:i<(kindsF J0 J1 J2 ds J6).length:=(bT.1 hkd).1;obtain⟨e1,e2⟩:=p0 (dB hkd);have mul:(i+1) * (1+5 * nB d)=i * (1+5 * nB d)+(1+5 * nB d):=lr _ _;have mul5:(i+1) * (1+5 * nB d)<=5 * (1+5 * nB d):=g_ _ (by omega);refine gN (qK ?_);refine⟨_,rfl,x,dx,fs,rfl,D3.ks.same _ _ g0,l4 "count_of" (by decide +kernel) (by decide +kernel) (by decide +kernel),_,rfl,_,rfl,_,rfl,H0,x,sl,y,M,kd,cd,u,q,us,kv3,cv3,_,d,kind,J6,J0,J1,J2,ds,rfl,by omega,by omega,St,D3,kp3 _ _ u2 rfl,hsub,hz,hat.kp kp3,e2,by omega,by omega,fun kv4 cv4 H4 D4 kp4 gr4=>?_⟩;have f4:=kp4 _ _ f3 rfl;refine⟨f4,?_,lT hi ⟨kv4,cv4,?_,aa,?_,?_,gr3.trans gr4⟩⟩
   ·rw[ai,ai,aL];exact am (by omega)
   ·rw[take_snoc hkd,ap,ap];rfl
   ·exact fun b o e no=>by rw[ah (ac e hf)];exact kp4 _ _ (kp3 _ _ e no) no
   ·exact(D4.more (m:=n+1+(i+1) * (1+5 * nB d)) (by omega)).cell (D2.ks.same.free hf) f4
  ·rintro vs H3 ⟨kv3,cv3,rfl,f3,kp3,D3,gr3⟩;rw[ai,Paired.length hK,aX]at f3;rw[ai,Paired.length hK]at D3;have m5:(kindsF J0 J1 J2 ds J6).length * (1+5 * nB d)<=5 * (1+5 * nB d):=g_ _ kl;have D3':dH H0 H3 kd cd kv3 cv3 J0 J1 J2 ds (n+6+25 * nB d):=D3.more (by omega);have kp13:Kp H H3:=(ab.kp S).trans (kp2.trans kp3);refine⟨_,rfl,f,_,rfl,ay.of f3,_,_,rfl,rfl,_,rfl,x,Cd,dx,fs,.ref cd,rfl,D3.ks.same _ _ g0,c.cls,c.a3,l3,_,rfl,_,rfl,(by show 2<=aj;decide),fun p2 hp2=>?_⟩;have S4:ab H3 (upd H3 p2 (.tup [.ref u,.int ((d+1:Nat))])):=ab.new hp2;have tk4:=l6 (d:=d+1) (aa (H:=H3) (a:=p2)) (S4 _ _ (kp13 _ _ hu rfl));generalize upd H3 p2 (.tup [.ref u,.int ((d+1:Nat))])=H4 at S4 tk4 ⊢;have D4:=D3'.up S4;have cl:=D4.clen;refine⟨cd,_,rfl,.inr ⟨_,mH J6 (d+1),p2,D4.hcd,rfl,tk4,cF _ _,by rw[pN];omega,rfl⟩,?_⟩;dsimp only;rw[<-eq];have D5:=D4.put (J6:=J6) (d:=d+1) St.cdn St.ne;refine fin (D5.more (by omega)) ((kp13.trans (ab.kp S4)).trans (Kp.upd D4.hcd rfl)) (gr2.trans gr3) ?_;rw[fR,if_pos rfl]
def eE(H:Hp)(a:Addr):Hp:=fun b=>if b=a then none else H b
theorem eD(H:Hp)(a:Addr):eE H a a=none:=if_pos rfl
theorem bG{H:Hp}{a b:Addr}(h:b≠a):eE H a b=H b:=if_neg h
theorem lX{H:Hp}{a:Addr}:ab (eE H a) H:=fun b o e=>by
 by_cases c:b=a
 ·rw[c,eD]at e;cases e
 ·rw[bG c]at e;exact e
theorem v7{H0 H:Hp}{a:Addr}(S:ab H0 H)(h:H0 a=none):ab H0 (eE H a):=fun b o e=>by rw[bG (ac e h)];exact S _ _ e
inductive jf(Cm Ck Cd:Addr)(vs:List V)(H:Hp)(Q:VK)(E:XK):Prop
 |mk (H0:Hp) (x dx M:Addr) (J0 J1 J2:Zb) (ds:List ak):(vs=[.ref x,.ref M])->(H x=some (.ins Cd dx []))->(bd Cm H0 M J0 J1 J2 ds)->(H0 x=none)->(ab H0 H) ->
  (∀(Hs:Hp) (sl y kd cd:Addr) (us:Ze) (H':Hp),xx Cm Ck Cd Hs x sl y M kd cd us J0 J1 J2 ds->dH Hs H' kd cd [] [] J0 J1 J2 ds 0->ab H0 Hs->Q .non H')->jf Cm Ck Cd vs H Q E
theorem wJ{K:Za}{Cm Ck Cd:Addr}(c:DC K Cd){vs:List V}{H:Hp}{Q:VK}{E:XK}(h:jf Cm Ck Cd vs H Q E):mR K Ck (jg Ck) Cm (kJ Cm) (bc Q) (start ni vs) H:=by
 obtain⟨H0,x,dx,M,J0,J1,J2,ds,rfl,hx,MA,hx0,S0,k⟩:=h;have up:∀{H1 H2:Hp}{o:HO},ab H0 H1->H2=upd H1 x o->ab H0 H2:=fun S e b o q=>by rw[e,ah (ac q hx0)];exact S _ _ q
 have z2:=MA.ok.says4;have M0:=MA.same S0;obtain⟨dm,fm,o1,o2,lv,lps,g1,a1,a2,_⟩:=on M0;refine⟨_,rfl,M,dm,fm,rfl,g1,a2,M,J0,J1,J2,ds,rfl,M0,fun w hw=>⟨w,rfl,⟨_,ay.of aa⟩,fun sl hsl=>?_⟩⟩;have Sw:ab H (upd H w (.lst (J1.map V.str))):=ab.new hw;refine ia (kd:="say") (ws:=J1) aa (by omega) hsl fun us H2 h2 hP2 S2=>?_;have Sa:=Sw.trans S2;refine⟨_,rfl,x,Cd,dx,[],rfl,Sa _ _ hx,c.cls,c.a1,(by decide),?_⟩;obtain⟨H3,e3,hx3,X3⟩:=lZ "says_signs" (.ref sl) (Sa _ _ hx);rw[<-e3];have S3:=up (S0.trans Sa) e3;have len1:(bR ("says_signs":Str) (.ref sl) []).length<=1:=cP _ _ _;have nsl:sl≠x:=fun z=>by rw[z]at h2;rw[Sa _ _ hx]at h2;cases h2
 have sl3:=X3 _ _ h2 nsl;have kt3:iC H2 H3:=fun b xs e=>X3 _ _ e fun z=>by rw[z,Sa _ _ hx]at e;cases e
 have sg3:=i4.kt kt3 hP2;refine⟨_,rfl,fun y dy hy hdy ney=>?_⟩;have S4:ab H3 (upd (upd H3 dy (.own y)) y (.ins Ck dy [])):=fun b o e=>by rw[ah (ac e hy)];exact kp e hdy
 generalize hH4:upd (upd H3 dy (.own y)) y (.ins Ck dy [])=H4 at S4 ⊢;have y4:H4 y=some (.ins Ck dy []):=by rw[<-hH4];exact aa
 refine⟨y,dy,M,rfl,y4,fun kd fy H5 y5 m1 m2 m3 kd5 kdn ex5=>⟨rfl,?_⟩⟩;have n3:∀{b:Addr}{o:HO},H3 b=some o->H5 b=some o:=fun e=>ex5 _ _ (S4 _ _ e) (ac e hy);have hx5:=n3 hx3;refine⟨_,rfl,x,Cd,dx,_,rfl,hx5,c.cls,c.a2,by omega,?_⟩;obtain⟨H6,e6,hx6,X6⟩:=lZ "known_steps" (.ref y) hx5;rw[<-e6];have S6:ab H0 H6:=up (fun b o e=>n3 (S3 _ _ e)) e6;have len2:=cP ("known_steps":Str) (.ref y) (bR ("says_signs":Str) (.ref sl) []);have nyx:y≠x:=(ac hx3 hy).symm;have nkx:kd≠x:=(ac (S4 _ _ hx3) kdn).symm;have y6:=X6 _ _ y5 nyx;have kd6:=X6 _ _ kd5 nkx;have sl6:=X6 _ _ (n3 sl3) nsl;have kt6:iC H3 H6:=fun b xs e=>X6 _ _ (n3 e) fun z=>by rw[z,hx3]at e;cases e
 have sg6:=i4.kt kt6 sg3;have kd0:H0 kd=none:=(S3.trans S4).free kdn;refine fun cd hcd=>⟨_,rfl,x,Cd,dx,_,rfl,kp hx6 hcd,c.cls,c.a3,by omega,?_⟩;obtain⟨H8,e8,hx8,X8⟩:=lZ "known_counts" (.ref cd) (kp (x:=.dT []) hx6 hcd);rw[<-e8];have S8:ab H0 H8:=up (S6.trans (ab.new hcd)) e8;have ncx:cd≠x:=(ac hx6 hcd).symm;have cd8:=X8 _ _ aa ncx;have n8:∀{b:Addr}{o:HO},H6 b=some o->b≠x->H8 b=some o:=fun e n=>X8 _ _ (kp e hcd) n;have cd0:H0 cd=none:=S6.free hcd;have nkc:kd≠cd:=ac kd6 hcd;have kt8:iC H6 (eE (eE H8 kd) cd):=fun b xs e=>by
  rw[bG (ac e hcd),bG (fun z=>by rw[z,kd6]at e;cases e)];exact n8 e fun z=>by rw[z,hx6]at e;cases e
 have nd:∀{b:Addr}{o:HO},H8 b=some o->b≠kd->b≠cd->eE (eE H8 kd) cd b=some o:=fun e n1 n2=>by rw[bG n2,bG n1];exact e
 have ndk:∀{b:Addr}{o:HO},H6 b=some o->BT o=true->b≠kd/\b≠cd:=fun e n=>⟨fun z=>(by rw[z,kd6]at e;cases e;cases n),ac e hcd⟩;have SH:ab H0 (eE (eE H8 kd) cd):=v7 (v7 S8 kd0) cd0;have SS:ab (eE (eE H8 kd) cd) H8:=lX.trans lX;refine k (eE (eE H8 kd) cd) sl y kd cd us H8 ⟨⟨MA.same SH,⟨dy,fy,?_,m1,m2,m3⟩,?_⟩,⟨dx,_,nd hx8 nkx.symm ncx.symm,?_,?_,?_,?_⟩,?_,i4.kt kt8 sg6,eD _ _,nkc⟩ ⟨⟨SS,n8 kd6 nkx,fun _ h=>(by cases h),ax _⟩,fun _ h=>(by cases h),cd8,fun _ h=>(by cases h),ax _⟩ SH
 ·obtain⟨q1,q2⟩:=ndk y6 rfl;exact nd (n8 y6 nyx) q1 q2
 ·rw[bG nkc];exact eD _ _
 ·show d9 _ _=_;repeat (rw[aQ];first|rw[if_pos rfl] | rw[if_neg (by decide +kernel)])
 ·show d9 _ _=_;repeat (rw[aQ];first|rw[if_pos rfl] | rw[if_neg (by decide +kernel)])
 ·show d9 _ _=_;repeat (rw[aQ];first|rw[if_pos rfl] | rw[if_neg (by decide +kernel)])
 ·intro f q1 q2 q3;show d9 _ _=_;rw[aQ,if_neg q3,aQ,if_neg q2,aQ,if_neg q1];rfl
 ·obtain⟨q1,q2⟩:=ndk sl6 rfl;exact nd (n8 sl6 nsl) q1 q2
open Classical in
theorem y8{J2:Zb}{ds:List ak}(h:J2≠[]):closF J2 ds (J2.take 1)≠[]:=by
 cases J2 with
 |nil=>exact absurd rfl h
 |cons r rs =>
  intro z;have:r∈closF (r::rs) ds ((r::rs).take 1):=dC.2 ⟨eR,zzr1 ⟨r,by simp,.inl rfl⟩⟩;rw[z]at this;cases this
inductive hW(Cm:Addr)(vs:List V)(H:Hp)(Q:VK)(E:XK):Prop
 |mk (M:Addr) (d:Nat) (J0 J1 J2:Zb) (ds:List ak):(vs=[.ref M,.int (d:Nat)])->(d<=4)->(bd Cm H M J0 J1 J2 ds)->(∀H',ab H H'->Q (.int (cntM J0 J1 J2 ds d (closF J2 ds (J2.take 1)))) H')->hW Cm vs H Q E
theorem Bz:∀d,d<=4->nB d<=200000:=by
 intro d hd
 match d,hd with
 |0,_=>decide
 |1,_=>decide
 |2,_=>decide
 |3,_=>decide
 |4,_=>decide
theorem uJ{K:Za}{Cm Ck Cd:Addr}(c:DC K Cd){vs:List V}{H:Hp}{Q:VK}{E:XK}(h:hW Cm vs H Q E):mN K Cd (jf Cm Ck Cd) (fV Cm Ck Cd 4) (cE Cm) sp_need_depth (bc Q) (start m9 vs) H:=by
 obtain⟨M,d,J0,J1,J2,ds,rfl,hd,MA,k⟩:=h;have z3:=MA.ok.rooms26;refine⟨_,rfl,d,rfl,hd,?_⟩;refine⟨_,rfl,fun x dx hx hdx ne=>?_⟩;have S0:ab H (upd (upd H dx (.own x)) x (.ins Cd dx [])):=fun b o e=>by rw[ah (ac e hx)];exact kp e hdx
 refine⟨H,x,dx,M,J0,J1,J2,ds,rfl,aa,MA,hx,S0,fun Hs sl y kd cd us H1 St Dy S1=>⟨rfl,?_⟩⟩;obtain⟨dx1,fs1,g1,_,_,_,l4⟩:=St.ob;refine⟨x,dx1,fs1,rfl,Dy.ks.same _ _ g1,l4 "count_at" (by decide +kernel) (by decide +kernel) (by decide +kernel),_,rfl,M,J0,J1,J2,ds,rfl,St.ks.mach.same Dy.ks.same,fun t F H2 ht hF S2=>?_⟩;rw[lg hF]at ht;have:=Bz d hd;refine⟨_,rfl,Hs,x,sl,y,M,kd,cd,us,.ref t,[],[],0,d,_,J0,J1,J2,ds,rfl,hd,St,Dy.up S2,.inr ⟨t,rfl,ht⟩,fun _=>y8 MA.ok.rooms0,qd,aJ l7 (by omega),by omega,fun kv' cv' H' D' _ _=>k H' (S1.trans D'.ks.same)⟩
theorem tV{K:Za}{fi:List Nat}{σ:L2.St}{H:Hp}{a th l:Addr}{ws F:Zb}{Q:Hp->Prop}(e:cH 1 fi σ=[none,some (.ref th)])(ha:H a=some (.lst (ws.map V.str)))(hth:H th=some (.lst (F.map V.str)))(hz:ws.length<=1000)(hl:H l=none)
  (k:∀H',H' l=some (.lst ((ws.filter fun r=>decide (r∈F)).map V.str))->ab H H'->Q H') :
  dj 1 fi σ (zf K a) U0 (br (aD (pD K false) V0 V1)) V0 H l Q:=by
 refine bN (xs:=ws.map V.str) (fun i vs H'=>vs=((ws.take i).filter fun r=>decide (r∈F)).map V.str/\ab H H'/\H' l=some (.lst vs)) ⟨rfl,ab.new hl,aa⟩ (fun i vs H' _ ⟨_,S,h'⟩=>⟨h',ay.of (S _ _ ha)⟩) ?_ ?_
 ·rintro vs H' ⟨rfl,S,f'⟩;rw[ai,aX]at f';exact k H' f' S
 ·rintro i vs H' x' hx' hi ⟨rfl,S,f'⟩;obtain⟨r,hr,rfl⟩:=bz hx';rw[e];refine gN ?_;refine⟨_,rfl,_,rfl,gv r,F.map gv,th,_,mF r,rfl,.inl (ay.of (S _ _ hth)),j5 _,(by show 0<=8;decide),by rw[f_];decide,_,rfl,?_⟩;rw[if_neg fI,rT];have hlen:(((ws.take i).filter fun r=>decide (r∈F)).map V.str).length<aj:=by
   rw[ai];refine am (aJ (ca _ _) ?_);rw[aL];omega
  refine iV (fun hq=>?_) (fun hq=>?_)
  ·refine⟨_,rfl,f',hlen,lT hi ⟨?_,?_,aa⟩⟩
   ·rw[bo hr,if_pos hq,ap];rfl
   ·intro b o q;rw[ah (ac q hl)];exact S _ _ q
  ·refine lT hi ⟨?_,S,f'⟩;rw[bo hr,if_neg hq,c6]
theorem zJ{K:Za}{vs:List V}{H:Hp}{Q:VK}{E:XK}(h:rh K vs H Q E):pb K (eS K) (bc Q) (start pJ vs) H:=by
 obtain⟨t,ft,s,l1,l2,l3,l4,ts,J0,J1,J2,J6,sg,ds,rfl,T,m,hft,hs,hz,k⟩:=h;have z3:=m.rooms26;have z4:=m.few;refine⟨_,rfl,t,_,rfl,bE.of T.t,rfl,_,_,rfl,_,_,rfl,_,_,rfl,_,_,rfl,rfl,?_⟩;refine⟨_,rfl,(by show 1<=aj;decide),fun hh hhh=>⟨lY sg,lY bv,bD (bE.same (ab.new hhh) hs),bD (bE.of aa),by rw[b9];decide,by rw[b9];decide,_,rfl,?_⟩⟩;rw[jq];have Sn:ab H (upd H hh (.tup [.str "hush"])):=ab.new hhh;generalize upd H hh (.tup [.str "hush"])=H1 at Sn ⊢;have T1:=T.same Sn;have ft1:=Sn _ _ hft;have hs1:=bE.same Sn hs;by_cases c:sg=bv
 ·rw[zzr1 c];refine cA ?_;refine⟨_,rfl,l4,rfl,⟨_,ay.of T1.a4⟩,fun f hf=>?_⟩;refine bN (xs:=ts.map V.ref) (fun i vs H'=>vs=(dS (ds.take i)).map V.str/\ab H1 H'/\H' f=some (.lst vs)) ⟨rfl,ab.new hf,aa⟩ (fun i vs H' _ ⟨_,S,h'⟩=>⟨h',ay.of (S _ _ T1.a4)⟩) ?_ ?_;rotate_left
  ·rintro i vs H' x' hx' hi ⟨rfl,S,f'⟩;obtain⟨t',ht',rfl⟩:=cg hx';obtain⟨dr,hdr,hat⟩:=Paired.getL T1.ds ht';obtain⟨s',ht2,hs2⟩:=hat.kt (ab.kt S);obtain⟨s0,rest,hsg,ea⟩:=wD (m.good dr (dB hdr));unfold SignAt at hs2;rw[hsg]at hs2;refine gN ?_;refine⟨_,rfl,t',_,1,_,rfl,rfl,bE.of ht2,rfl,s',_,0,.str s0,rfl,rfl,bE.of hs2,fF (j:=0) rfl,rfl,_,rfl,?_⟩;rw[ea];refine iV (fun hq=>?_) (fun hq=>?_)
   ·refine⟨_,rfl,t',_,0,_,rfl,rfl,bE.of ht2,rfl,f',?_,lT hi ⟨?_,?_,aa⟩⟩
    ·rw[ai];unfold dS;rw[ai];refine am (aJ (ca _ _) ?_);rw[aL];omega
    ·rw[pY hdr,if_pos hq,ap];rfl
    ·intro b o q;rw[ah (ac q hf)];exact S _ _ q
   ·refine lT hi ⟨?_,S,f'⟩;rw[pY hdr,if_neg hq,c6]
  rintro vs H2 ⟨rfl,S2,f2⟩;rw[ai,Paired.length T1.ds,aX]at f2;have ft2:=S2 _ _ ft1;refine⟨_,rfl,ft,rfl,⟨_,bE.of ft2⟩,fun g hg=>?_⟩;refine tU (xs:=J6.map V.str) (fun i vs H'=>vs=((J6.take i).filter fun r=>decide (r∉dS ds)).map V.str/\ab H2 H'/\H' g=some (.lst vs)) ⟨rfl,ab.new hg,aa⟩ (fun i vs H' _ ⟨_,S,h'⟩=>⟨h',bE.of (S _ _ ft2)⟩) ?_ ?_
  ·rintro vs H' ⟨rfl,S,f'⟩;rw[ai,aX]at f';refine⟨g,_,rfl,.inl ⟨ay.of f',fun t' ht'=>k t' _ ?_ (((Sn.trans S2).trans S).trans (ab.new ht'))⟩⟩;rw[aa];unfold behF;rw[if_pos c]
  ·rintro i vs H' x' hx' hi ⟨rfl,S,f'⟩;obtain⟨r,hr,rfl⟩:=bz hx';refine gN ?_;refine⟨_,rfl,_,rfl,gv r,(dS ds).map gv,f,_,mF r,rfl,.inl (ay.of (S _ _ f2)),j5 _,(by show 0<=8;decide),by rw[f_];decide,_,rfl,?_⟩;rw[if_pos rfl,rT];have ed:(!decide (r∈dS ds))=decide (r∉dS ds):=by simp
   rw[ed];have hlen:(((J6.take i).filter fun r=>decide (r∉dS ds)).map V.str).length<aj:=by
    rw[ai];refine am (aJ (ca _ _) ?_);rw[aL];omega
   refine iV (fun hq=>?_) (fun hq=>?_)
   ·refine⟨_,rfl,f',hlen,lT hi ⟨?_,?_,aa⟩⟩
    ·rw[bo hr,if_pos hq,ap];rfl
    ·intro b o q;rw[ah (ac q hg)];exact S _ _ q
   ·refine lT hi ⟨?_,S,f'⟩;rw[bo hr,if_neg hq,c6]
 ·rw[zzr0 c];refine cB ?_;refine⟨_,rfl,_,rfl,l4,rfl,⟨_,ay.of T1.a4⟩,fun f hf=>?_⟩;refine bN (xs:=ts.map V.ref) (fun i vs H'=>∃G:List Str,vs=G.map V.str/\ab H1 H'/\H' f=some (.lst vs)/\G.length<=i/\∀g,g∈G↔∃d∈ds.take i,d.a∈J6/\d.sg=sg/\d.b=g)
   ⟨[],rfl,ab.new hf,aa,ax _,fun g=>⟨fun h=>(by cases h),fun⟨_,h,_⟩=>by simp at h⟩⟩ (fun i vs H' _ ⟨_,_,S,h',_⟩=>⟨h',ay.of (S _ _ T1.a4)⟩) ?_ ?_
  rotate_left
  ·rintro i vs H' x' hx' hi ⟨G,rfl,S,f',hl,hG⟩;obtain⟨u,hu,rfl⟩:=cg hx';obtain⟨dr,hdr,hatd⟩:=Paired.getL T1.ds hu;obtain⟨sb,ht2,hs2⟩:=hatd.kt (ab.kt S);have hi':i<ds.length:=(bT.mp hdr).1;have hstep:∀g,(∃d∈ds.take (i+1),d.a∈J6/\d.sg=sg/\d.b=g)↔((∃d∈ds.take i,d.a∈J6/\d.sg=sg/\d.b=g)∨(dr.a∈J6/\dr.sg=sg/\dr.b=g)):=by
    intro g;rw[take_snoc hdr];simp only[aU,eh,or_and_right,exists_or,exists_eq_left]
   have keep:¬(dr.a∈J6/\dr.sg=sg)->∃m',m'<(ts.map V.ref).length-i/\Wc (ts.map V.ref).length (fun i vs H'=>∃G:List Str,vs=G.map V.str/\ab H1 H'/\H' f=some (.lst vs)/\G.length<=i/\∀g,g∈G↔∃d∈ds.take i,d.a∈J6/\d.sg=sg/\d.b=g) (i+1) m' (G.map V.str) H':=by
    intro z;refine lT hi ⟨G,rfl,S,f',by omega,fun g=>?_⟩;rw[hstep,hG];exact⟨.inl,fun h=>h.elim id fun h=>absurd ⟨h.1,h.2.1⟩ z⟩
   refine gN ?_;refine⟨_,rfl,u,_,0,_,rfl,rfl,bE.of ht2,rfl,_,rfl,gv dr.a,J6.map gv,ft,_,mF _,rfl,.inr (bE.of (S _ _ ft1)),j5 _,(by show 0<=8;decide),by rw[f_];decide,_,rfl,?_⟩;rw[if_neg fI,rT];by_cases c1:dr.a∈J6;rotate_left
   ·rw[zzr0 c1];exact cB (cB (keep fun z=>c1 z.1))
   rw[zzr1 c1];refine cA ?_;refine⟨_,rfl,u,_,1,_,rfl,rfl,bE.of ht2,rfl,_,rfl,lY dr.sg,lY sg,bD (bE.of hs2),bD (bE.same S hs1),by rw[b9];decide,by rw[b9];decide,_,rfl,?_⟩;rw[jq];by_cases c2:dr.sg=sg;rotate_left
   ·rw[zzr0 c2];exact cB (keep fun z=>c2 z.2)
   rw[zzr1 c2];refine cA ?_;refine⟨_,rfl,u,_,2,_,rfl,rfl,bE.of ht2,rfl,f',by rw[ai];exact am (by omega),lT hi ⟨G++[dr.b],by rw[ap];rfl,?_,aa,by rw[bf];show G.length+1<=i+1;omega,fun g=>?_⟩⟩
   ·intro b o q;rw[ah (ac q hf)];exact S _ _ q
   ·rw[hstep,<-hG,aU];simp only[eh];exact⟨fun h=>h.imp id fun h=>⟨c1,c2,h.symm⟩,fun h=>h.imp id fun h=>h.2.2.symm⟩
  rintro vs H2 ⟨G,rfl,S2,f2,hl,hG⟩;rw[ai,Paired.length T.ds]at hl;rw[ai,Paired.length T.ds,aX]at hG;have T2:=T1.same S2;refine⟨l4,f,ts,ds,G,J2,rfl,T2.a4,T2.ds,f2,fun d hd=>(m.good d hd).b,by omega,by omega,fun th F H3 hth hF hFl fr S3=>?_⟩;have T3:=T2.same S3;refine⟨_,rfl,l3,rfl,⟨_,ay.of T3.a3⟩,fun g hg=>?_⟩;refine tV rfl T3.a3 hth (by omega) hg fun H4 h4 S4=>?_;refine⟨g,_,rfl,.inl ⟨ay.of h4,fun t' ht'=>k t' _ ?_ ((((Sn.trans S2).trans S3).trans S4).trans (ab.new ht'))⟩⟩;rw[aa,lg hF];unfold behF;rw[if_neg c]
  suffices e0:closF J2 ds G=closF J2 ds (ck ds sg J6) by rw[e0]
  refine tX fun g=>?_;rw[hG,k6];constructor
  ·rintro⟨⟨a,sgd,b⟩,hd,h1,h2,h3⟩;simp only at h1 h2 h3;subst h2 h3;exact⟨a,h1,hd⟩
  ·rintro⟨r,hr,h⟩;exact⟨_,h,hr,rfl,rfl⟩
inductive kO(vs:List V)(H:Hp)(Q:VK)(E:XK):Prop
 |mk (t l1 l2 l3 l4:Addr) (ts:Ze) (J0 J1 J2:Zb) (ds:List ak):(vs=[.ref t])->(iz H t l1 l2 l3 l4 ts J0 J1 J2 ds)->(bH J0 J1 J2 ds)->(∀(t':Addr) (H':Hp),H' t'=some (.tup ((closF J2 ds (J2.take 1)).map V.str))->ab H H'->Q (.ref t') H')->kO vs H Q E
theorem xY{K:Za}{vs:List V}{H:Hp}{Q:VK}{E:XK}(h:kO vs H Q E):sP K (eS K) (bc Q) (start ue vs) H:=by
 obtain⟨t,l1,l2,l3,l4,ts,J0,J1,J2,ds,rfl,T,m,k⟩:=h;have z3:=m.rooms26;obtain⟨r0,rs,e⟩:∃r0 rs,J2=r0::rs:=by
  cases e:J2 with
  |nil=>exact absurd e m.rooms0
  |cons a b=>exact⟨a,b,rfl⟩
 have at0:ve (J2.map V.str) 0=some (.str r0):=by rw[e];exact fF (j:=0) rfl
 have e1:J2.take 1=[r0]:=by rw[e];rfl
 refine⟨_,rfl,.inr (.inl ⟨t,_,3,_,rfl,rfl,bE.of T.t,rfl,_,rfl,.inr (.inl ⟨t,_,2,_,rfl,rfl,bE.of T.t,rfl,.inl ⟨l3,_,0,_,rfl,rfl,ay.of T.a3,at0,(by show 1<=aj;decide),fun l hl=>?_⟩⟩)⟩)⟩;have S1:ab H (upd H l (.lst [.str r0])):=ab.new hl;have h1:upd H l (.lst [.str r0]) l=some (.lst ([r0].map V.str)):=aa;generalize upd H l (.lst [.str r0])=H1 at S1 h1 ⊢;have T1:=T.same S1;refine⟨l4,l,ts,ds,[r0],J2,rfl,T1.a4,T1.ds,h1,fun d hd=>(m.good d hd).b,by omega,by show 1<=1000;decide,fun th F H2 hth hF hFl fr S2=>?_⟩;have T2:=T1.same S2;refine⟨_,rfl,.inr (.inl ⟨t,_,2,_,rfl,rfl,bE.of T2.t,rfl,l3,rfl,⟨_,ay.of T2.a3⟩,fun g hg=>?_⟩)⟩;refine tV rfl T2.a3 hth (by omega) hg fun H4 h4 S4=>?_;refine⟨g,_,rfl,.inl ⟨ay.of h4,fun t' ht'=>k t' _ ?_ (((S1.trans S2).trans S4).trans (ab.new ht'))⟩⟩;rw[aa,lg hF,e1]
def xn:Option Str->V
 |none=>.non
 |some a=>.str a
def jG(J1:Zb):Option Str->List Sg
 |none=>J1.map eT++[bv]
 |some a=>c7 a::J1.map eT
inductive kK(vs:List V)(H:Hp)(Q:VK)(E:XK):Prop
 |mk (t l1 l2 l3 l4:Addr) (ts:Ze) (ask:Option Str) (J0 J1 J2:Zb) (ds:List ak):(vs=[.ref t,xn ask])->(iz H t l1 l2 l3 l4 ts J0 J1 J2 ds)->(J1.length<=4)->(∀(l:Addr) (us:Ze) (H':Hp),H' l=some (.lst (us.map V.ref))->i4 H' us (jG J1 ask)->ab H H'->Q (.ref l) H')->kK vs H Q E
theorem xS{K:Za}{vs:List V}{H:Hp}{Q:VK}{E:XK}(h:kK vs H Q E):lG K (bc Q) (start ma vs) H:=by
 obtain⟨t,l1,l2,l3,l4,ts,ask,J0,J1,J2,ds,rfl,T,z2,k⟩:=h;refine⟨_,rfl,.inr (.inl ⟨t,_,1,_,rfl,rfl,bE.of T.t,rfl,l2,rfl,⟨_,ay.of T.a2⟩,fun ls hls=>?_⟩)⟩;refine ia (kd:="say") (ws:=J1) T.a2 (by omega) hls fun us H1 h1 hP S1=>?_;have zu:us.length<=4:=by rw[Paired.length hP,ai];exact z2
 refine⟨_,rfl,_,rfl,?_⟩;cases ask with
 |none =>
  refine cA ⟨_,rfl,(by show 1<=aj;decide),fun ht hht=>⟨(by show 1<=aj;decide),fun hl hhl=>?_⟩⟩;have S2:ab H1 (upd (upd H1 ht (.tup [.str "hush"])) hl (.lst [.ref ht])):=(ab.new hht).trans (ab.new hhl);have ht2:upd (upd H1 ht (.tup [.str "hush"])) hl (.lst [.ref ht]) ht=some (.tup (bv.map V.str)):=kp aa hhl;have hl2:upd (upd H1 ht (.tup [.str "hush"])) hl (.lst [.ref ht]) hl=some (.lst [.ref ht]):=aa;generalize upd (upd H1 ht (.tup [.str "hush"])) hl (.lst [.ref ht])=H2 at S2 ht2 hl2 ⊢;refine⟨ls,hl,_,_,rfl,rfl,S2 _ _ h1,hl2,by rw[ai];exact cM (am (by show _+1<=1000;omega)),fun r hr=>?_⟩;have S3:ab H2 (upd H2 r (.lst (us.map V.ref++[.ref ht]))):=ab.new hr;exact k r (us++[ht]) _ (by rw[aa,ap];rfl) (Paired.app (i4.kt (ab.kt (S2.trans S3)) hP) (.cons (S3 _ _ ht2) .nil)) ((S1.trans S2).trans S3)
 |some a =>
  refine cB ⟨_,rfl,(by show 2<=aj;decide),fun ht hht=>⟨(by show 1<=aj;decide),fun hl hhl=>?_⟩⟩;have S2:ab H1 (upd (upd H1 ht (.tup [.str "ask",.str a])) hl (.lst [.ref ht])):=(ab.new hht).trans (ab.new hhl);have ht2:upd (upd H1 ht (.tup [.str "ask",.str a])) hl (.lst [.ref ht]) ht=some (.tup ((c7 a).map V.str)):=kp aa hhl;have hl2:upd (upd H1 ht (.tup [.str "ask",.str a])) hl (.lst [.ref ht]) hl=some (.lst [.ref ht]):=aa;generalize hH2:upd (upd H1 ht (.tup [.str "ask",.str a])) hl (.lst [.ref ht])=H2 at S2 ht2 hl2;have S2':=S2;refine⟨_,rfl,hl,ls,_,_,rfl,rfl,(by show upd (upd H1 ht (.tup [.str "ask",.str a])) hl (.lst [.ref ht]) hl=_;exact aa),(by show upd (upd H1 ht (.tup [.str "ask",.str a])) hl (.lst [.ref ht]) ls=_;rw[hH2];exact S2 _ _ h1),by rw[ai];exact cM (am (by show 1+_<=1000;omega)),fun r hr=>?_⟩
  change upd (upd H1 ht (.tup [.str "ask",.str a])) hl (.lst [.ref ht]) r=none at hr
  show Q (.ref r) (upd (upd (upd H1 ht (.tup [.str "ask",.str a])) hl (.lst [.ref ht])) r (.lst ([.ref ht]++us.map V.ref)));rw[hH2]at hr ⊢;have S3:ab H2 (upd H2 r (.lst ([.ref ht]++us.map V.ref))):=ab.new hr;exact k r (ht::us) _ aa (.cons (S3 _ _ ht2) (i4.kt (ab.kt (S2.trans S3)) hP)) ((S1.trans S2).trans S3)
def t7(J6:Zb)(sg:Sg):TK:=.t [eW J6,eW sg]
theorem Af{f g:Zb}{a b:Sg}(h:t7 f a=t7 g b):f=g/\a=b:=by
 unfold t7 at h;injection h with h;injection h with h1 h2;injection h2 with h2 _;exact⟨fC h1,fC h2⟩
theorem wm{f g:Zb}{a:Sg}{d:Nat}(h:t7 f a=mH g d):False:=by
 unfold t7 mH eW at h;injection h with h;injection h with h1 h2;injection h2 with h2 _;cases h2
theorem g7(f:Zb)(a:Sg):(t7 f a).depth<=8:=by
 show max (eW f).depth (max (eW a).depth 0)+1<=8;rw[gR,gR];decide
theorem vd{H:Hp}{p u s:Addr}{J6:Zb}{sg:Sg}(hp:H p=some (.tup [.ref u,.ref s]))(hu:H u=some (.tup (J6.map V.str)))(hs:H s=some (.tup (sg.map V.str))):cC H (t7 J6 sg) (.ref p):=by
 unfold t7 cC;refine⟨p,_,rfl,hp,?_⟩;unfold TKAts;refine⟨_,_,rfl,SignAt.tk hu,?_⟩;unfold TKAts;exact⟨_,_,rfl,SignAt.tk hs,by unfold TKAts;rfl⟩
structure cU(H:Hp)(kd:Addr)(kv:List (TK×V))(J0 J1 J2:Zb)(ds:List ak)(n:Nat):Prop where
 hkd:H kd=some (.dT kv)
 kok:∀p∈kv,(∃(J6:Zb) (sg:Sg) (u:Addr),p=(t7 J6 sg,.ref u)/\H u=some (.tup ((behF J2 ds J6 sg).map V.str)))∨∃(J6:Zb) (d:Nat),p=(mH J6 d,.int (cntM J0 J1 J2 ds d J6))
 len:kv.length<=n
section
variable{H H':Hp}{kd f:Addr}{kv:List (TK×V)}{J0 J1 J2 J6:Zb}{ds:List ak}{n m:Nat}
theorem cU.kt(h:cU H kd kv J0 J1 J2 ds n)(e:H' kd=some (.dT kv))(k:iC H H'):cU H' kd kv J0 J1 J2 ds n:=⟨e,fun p hp=>(h.kok p hp).imp (fun⟨f,s,u,e,q⟩=>⟨f,s,u,e,k _ _ q⟩) id,h.len⟩
theorem cU.up(h:cU H kd kv J0 J1 J2 ds n)(S:ab H H'):cU H' kd kv J0 J1 J2 ds n:=h.kt (S _ _ h.hkd) (ab.kt S)
theorem cU.more(h:cU H kd kv J0 J1 J2 ds n)(l:n<=m):cU H kd kv J0 J1 J2 ds m:=⟨h.hkd,h.kok,aJ h.len l⟩
theorem cU.cell{xs ys:List V}(h:cU H kd kv J0 J1 J2 ds n)(hf:H f=some (.lst xs)):cU (upd H f (.lst ys)) kd kv J0 J1 J2 ds n:=h.kt (by rw[ah (fun z=>by have:=h.hkd;rw[z,hf]at this;cases this)];exact h.hkd) (gG hf)
theorem cU.put{k:TK}{v:V}(h:cU H kd kv J0 J1 J2 ds n)(q:(∃(J6:Zb) (sg:Sg) (u:Addr),(k,v)=(t7 J6 sg,.ref u)/\H u=some (.tup ((behF J2 ds J6 sg).map V.str)))∨∃(J6:Zb) (d:Nat),(k,v)=(mH J6 d,.int (cntM J0 J1 J2 ds d J6))):
  cU (upd H kd (.dT (cr kv k v))) kd (cr kv k v) J0 J1 J2 ds (n+1):=by
 have kt:iC H (upd H kd (.dT (cr kv k v))):=A8 h.hkd;refine⟨aa,fun p hp=>?_,aJ (dF _ _ _) (Nat.succ_le_succ h.len)⟩;rcases tJ hp with hp|rfl
 ·exact(h.kok p hp).imp (fun⟨f,s,u,e,q⟩=>⟨f,s,u,e,kt _ _ q⟩) id
 ·exact q.imp (fun⟨f,s,u,e,q⟩=>⟨f,s,u,e,kt _ _ q⟩) id
theorem cU.val{sg:Sg}{w:V}(h:cU H kd kv J0 J1 J2 ds n)(v:aR kv (t7 J6 sg)=some w):∃u,w=.ref u/\H u=some (.tup ((behF J2 ds J6 sg).map V.str)):=by
 rcases h.kok _ (fS v)with⟨f,s,u,e,q⟩|⟨f,d,e⟩
 ·injection e with e1 e2;obtain⟨rfl,rfl⟩:=Af e1;exact⟨u,e2,q⟩
 ·injection e with e1 _;exact(wm e1).elim
theorem cU.cnt{d:Nat}{w:V}(h:cU H kd kv J0 J1 J2 ds n)(v:aR kv (mH J6 d)=some w):w=.int (cntM J0 J1 J2 ds d J6):=by
 rcases h.kok _ (fS v)with⟨f,s,u,e,q⟩|⟨f,d',e⟩
 ·injection e with e1 _;exact(wm e1.symm).elim
 ·injection e with e1 e2;obtain⟨rfl,rfl⟩:=wg e1;exact e2
end
theorem bh.sameH{p:Addr}{H0 H H':Hp}(S:ab H0 H)(h:H0 p=none)(e:bh p H H'):ab H0 H':=fun b o q=>e b o (S b o q) (ac q h)
theorem ab.exBs{p:Addr}{H H':Hp}(S:ab H H'):bh p H H':=fun b o e _=>S b o e
theorem bh.trs{p:Addr}{H H1 H2:Hp}(a:bh p H H1)(b:bh p H1 H2):bh p H H2:=fun c o e n=>b c o (a c o e n) n
theorem bh.ktd{p:Addr}{H H':Hp}{kv:List (TK×V)}(h:H p=some (.dT kv))(e:bh p H H'):iC H H':=fun b xs q=>e b _ q fun z=>by rw[z,h]at q;cases q
inductive iQ(K:Za)(vs:List V)(H:Hp)(Q:VK)(E:XK):Prop
 |mk (H0:Hp) (t l1 l2 l3 l4 kd fu su:Addr) (ts:Ze) (kv:List (TK×V)) (n:Nat) (sg:Sg) (J6 J0 J1 J2:Zb) (ds:List ak):(vs=[.ref t,.ref kd,.ref fu,.ref su])->(iz H0 t l1 l2 l3 l4 ts J0 J1 J2 ds)->(bH J0 J1 J2 ds)->(H0 kd=none)->(ab H0 H)->(cU H kd kv J0 J1 J2 ds n)->(H fu=some (.tup (J6.map V.str)))->(H su=some (.tup (sg.map V.str)))->(J6.length<=1000)->(n<=1000000) ->
  (∀(u:Addr) (kv':List (TK×V)) (H':Hp),H' u=some (.tup ((behF J2 ds J6 sg).map V.str))->cU H' kd kv' J0 J1 J2 ds (n+1)->bh kd H H'->Q (.ref u) H')->iQ K vs H Q E
theorem x8{K:Za}{vs:List V}{H:Hp}{Q:VK}{E:XK}(h:iQ K vs H Q E):sR K (rh K) (bc Q) (start ug vs) H:=by
 obtain⟨H0,t,l1,l2,l3,l4,kd,fu,su,ts,kv,n,sg,J6,J0,J1,J2,ds,rfl,T,m,h0,S0,D,hf,hs,hz,hn,k⟩:=h;have fin:∀{kv':List (TK×V)}{H':Hp}{u:Addr},cU H' kd kv' J0 J1 J2 ds (n+1)->bh kd H H'->aR kv' (t7 J6 sg)=some (.ref u)->H' u=some (.tup ((behF J2 ds J6 sg).map V.str))->(aY (iM K V1 (bV (ba V2 V3)))) (bc Q) [some (.ref t),some (.ref kd),some (.ref fu),some (.ref su)] H':=by
  intro kv' H' u D' ex v' hu;refine⟨_,rfl,_,rfl,_,rfl,(by show 2<=aj;decide),fun p hp=>?_⟩;have S:ab H' (upd H' p (.tup [.ref fu,.ref su])):=ab.new hp;have kt:=bh.ktd D.hkd ex;have tk:=vd (aa (H:=H') (a:=p)) (S _ _ (kt _ _ hf)) (S _ _ (kt _ _ hs));exact⟨kd,_,rfl,.inr ⟨_,t7 J6 sg,p,.inl (S _ _ D'.hkd),rfl,cC.isIn 8 (g7 _ _) tk,g7 _ _,v'.symm⟩,k u kv' _ (S _ _ hu) (D'.up S) (ex.trs (ab.exBs S))⟩
 refine⟨_,rfl,_,rfl,(by show 2<=aj;decide),fun p hp=>?_⟩;have S:ab H (upd H p (.tup [.ref fu,.ref su])):=ab.new hp;have tk:=vd (aa (H:=H) (a:=p)) (S _ _ hf) (S _ _ hs);generalize upd H p (.tup [.ref fu,.ref su])=H1 at S tk ⊢;have D1:=D.up S;refine⟨_,rfl,kd,_,rfl,.inr ⟨_,t7 J6 sg,p,.inl D1.hkd,rfl,cC.isIn 8 (g7 _ _) tk,g7 _ _,rfl⟩,_,rfl,?_⟩;cases hval:aR kv (t7 J6 sg)with
 |some w =>
  obtain⟨u,rfl,hu⟩:=D1.val hval;exact cB (fin (D1.more (by omega)) (ab.exBs S) hval hu)
 |none =>
  refine cA ?_;refine⟨_,rfl,_,rfl,_,rfl,t,fu,su,l1,l2,l3,l4,ts,J0,J1,J2,J6,sg,ds,rfl,T.same (S0.trans S),m,S _ _ hf,bE.of (S _ _ hs),hz,fun u H2 hu S2=>?_⟩;refine⟨_,rfl,_,rfl,_,rfl,(by show 2<=aj;decide),fun p2 hp2=>?_⟩;have S3:ab H2 (upd H2 p2 (.tup [.ref fu,.ref su])):=ab.new hp2;have S12:=S.trans S2;have tk3:=vd (aa (H:=H2) (a:=p2)) (S3 _ _ (S12 _ _ hf)) (S3 _ _ (S12 _ _ hs));generalize upd H2 p2 (.tup [.ref fu,.ref su])=H3 at S3 tk3 ⊢;have D3:=(D1.up S2).up S3;have cl:=D3.len;refine⟨kd,_,rfl,.inr ⟨_,t7 J6 sg,p2,D3.hkd,rfl,tk3,g7 _ _,by rw[pN];omega,rfl⟩,?_⟩;have D4:=D3.put (k:=t7 J6 sg) (v:=.ref u) (.inl ⟨J6,sg,u,rfl,S3 _ _ hu⟩);exact fin D4 ((ab.exBs (S12.trans S3)).trs fun b o e nb=>by rw[ah nb];exact e) (by rw[fR,if_pos rfl]) (A8 D3.hkd _ _ (S3 _ _ hu))
def askedF(J0 J2:Zb)(ds:List ak)(J6:Zb):List Str:=J0.filter fun a=>decide (behF J2 ds J6 (c7 a)≠[])
inductive kP(K:Za)(vs:List V)(H:Hp)(Q:VK)(E:XK):Prop
 |mk (H0:Hp) (t l1 l2 l3 l4 kd fu:Addr) (ts:Ze) (kv:List (TK×V)) (n:Nat) (J6 J0 J1 J2:Zb) (ds:List ak):(vs=[.ref t,.ref kd,.ref fu])->(iz H0 t l1 l2 l3 l4 ts J0 J1 J2 ds)->(bH J0 J1 J2 ds)->(H0 kd=none)->(ab H0 H)->(cU H kd kv J0 J1 J2 ds n)->(H fu=some (.tup (J6.map V.str)))->(J6.length<=1000)->(n+4<=1000000) ->
  (∀(l:Addr) (kv':List (TK×V)) (H':Hp),H' l=some (.lst ((askedF J0 J2 ds J6).map V.str))->cU H' kd kv' J0 J1 J2 ds (n+4)->bh kd H H'->Q (.ref l) H')->kP K vs H Q E
theorem xZ{K:Za}{vs:List V}{H:Hp}{Q:VK}{E:XK}(h:kP K vs H Q E):sQ K (iQ K) (bc Q) (start uf vs) H:=by
 obtain⟨H0,t,l1,l2,l3,l4,kd,fu,ts,kv,n,J6,J0,J1,J2,ds,rfl,T,m,h0,S0,D,hf,hz,hn,k⟩:=h;have z1:=m.asks4;have T':=T.same S0;have a1:=T'.a1;have n1:l1≠kd:=fun z=>by have:=D.hkd;rw[<-z,a1]at this;cases this
 refine⟨_,rfl,.inr (.inl ⟨t,_,0,_,rfl,rfl,bE.of T'.t,rfl,l1,rfl,⟨_,ay.of a1⟩,fun l hl=>?_⟩)⟩;have nl:l≠kd:=(ac D.hkd hl).symm;refine bN (xs:=J0.map V.str) (fun i vs H'=>∃kv':List (TK×V),vs=((J0.take i).filter fun a=>decide (behF J2 ds J6 (c7 a)≠[])).map V.str/\H' l=some (.lst vs)/\cU H' kd kv' J0 J1 J2 ds (n+i)/\bh kd H H')
  ⟨kv,rfl,aa,D.up (ab.new hl),ab.exBs (ab.new hl)⟩ (fun i vs H' _ ⟨_,_,h',_,ex⟩=>⟨h',ay.of (ex _ _ a1 n1)⟩) ?_ ?_
 ·rintro vs H' ⟨kv',rfl,h',D',ex⟩;rw[ai,aX]at h';rw[ai]at D';exact k l kv' H' h' (D'.more (by omega)) ex
 ·rintro i vs H1 v hv hi ⟨kv1,rfl,h1,D1,ex1⟩;obtain⟨a,ha,rfl⟩:=bz hv;have il:i<J0.length:=(bT.1 ha).1;refine gN ?_;refine⟨_,rfl,_,rfl,_,rfl,_,rfl,(by show 2<=aj;decide),fun s hs=>?_⟩;have S2:ab H1 (upd H1 s (.tup [.str "ask",.str a])):=ab.new hs;have s2:upd H1 s (.tup [.str "ask",.str a]) s=some (.tup ((c7 a).map V.str)):=aa;generalize upd H1 s (.tup [.str "ask",.str a])=H2 at S2 s2 ⊢;have ktf:=bh.ktd D.hkd ex1;refine⟨H0,t,l1,l2,l3,l4,kd,fu,s,ts,kv1,n+i,c7 a,J6,J0,J1,J2,ds,rfl,T,m,h0,(bh.sameH S0 h0 ex1).trans S2,D1.up S2,S2 _ _ (ktf _ _ hf),s2,hz,by omega,fun u kv3 H3 hu D3 ex3=>?_⟩;refine⟨(by show 0<=aj;decide),fun e he=>⟨lY (behF J2 ds J6 (c7 a)),lY [],bD (bE.of (kp hu he)),bD (bE.of aa),by rw[b9];decide,by rw[b9];decide,_,rfl,?_⟩⟩;rw[jq];have S4:ab H3 (upd H3 e (.tup [])):=ab.new he;generalize upd H3 e (.tup [])=H4 at S4 ⊢;have l4':=S4 _ _ (ex3 _ _ (S2 _ _ h1) nl);have D4:=D3.up S4;have ex4:bh kd H H4:=(ex1.trs (ab.exBs S2)).trs (ex3.trs (ab.exBs S4));have ed:(!decide (behF J2 ds J6 (c7 a)=[]))=decide (behF J2 ds J6 (c7 a)≠[]):=by simp
  rw[ed];refine iV (fun hq=>?_) (fun hq=>?_)
  ·refine⟨_,rfl,l4',?_,lT hi ⟨kv3,?_,aa,D4.cell l4',fun b o q nb=>?_⟩⟩
   ·rw[ai];refine am (aJ (ca _ _) ?_);rw[aL];omega
   ·rw[bo ha,if_pos hq,ap];rfl
   ·rw[ah (ac q hl)];exact ex4 _ _ q nb
  ·refine lT hi ⟨kv3,?_,l4',D4,ex4⟩;rw[bo ha,if_neg hq,c6]
def lB:Nat->Nat
 |0=>0
 |d+1=>30+25 * lB d
theorem tL(J0 J1 J2:Zb)(ds:List ak)(J6:Zb):kindsF J0 J1 J2 ds J6=((askedF J0 J2 ds J6).map some++[none]).map (jG J1):=by
 unfold kindsF askedF;rw[ap,iH];rfl
inductive hV(K:Za)(D:Nat)(vs:List V)(H:Hp)(Q:VK)(E:XK):Prop
 |mk (H0:Hp) (t l1 l2 l3 l4 kd fu:Addr) (ts:Ze) (kv:List (TK×V)) (n d:Nat) (J6 J0 J1 J2:Zb) (ds:List ak):(vs=[.ref t,.ref kd,.ref fu,.int (d:Nat)])->(d<=D)->(iz H0 t l1 l2 l3 l4 ts J0 J1 J2 ds)->(bH J0 J1 J2 ds)->(H0 kd=none)->(ab H0 H)->(cU H kd kv J0 J1 J2 ds n)->(H fu=some (.tup (J6.map V.str)))->(J6.length<=1000)->(n+lB d<=1000000) ->
  (∀(kv':List (TK×V)) (H':Hp),cU H' kd kv' J0 J1 J2 ds (n+lB d)->bh kd H H'->Q (.int (cntM J0 J1 J2 ds d J6)) H')->hV K D vs H Q E
inductive iN(K:Za)(D:Nat)(vs:List V)(H:Hp)(Q:VK)(E:XK):Prop
 |mk (H0:Hp) (t l1 l2 l3 l4 kd fu:Addr) (ts:Ze) (ask:Option Str) (kv:List (TK×V)) (n d:Nat) (J6 J0 J1 J2:Zb) (ds:List ak):(vs=[.ref t,.ref kd,.ref fu,xn ask,.int ((d+1:Nat))])->(d<=D)->(iz H0 t l1 l2 l3 l4 ts J0 J1 J2 ds)->(bH J0 J1 J2 ds)->(H0 kd=none)->(ab H0 H)->(cU H kd kv J0 J1 J2 ds n)->(H fu=some (.tup (J6.map V.str)))->(J6.length<=1000)->(n+5 * (1+lB d)<=1000000) ->
  (∀(l:Addr) (kv':List (TK×V)) (H':Hp),H' l=some (.lst (((jG J1 ask).map fun sg=>cntM J0 J1 J2 ds d (behF J2 ds J6 sg)).map V.int))->cU H' kd kv' J0 J1 J2 ds (n+5 * (1+lB d))->bh kd H H'->Q (.ref l) H')->iN K D vs H Q E
theorem lR(J1:Zb)(ask:Option Str):(jG J1 ask).length=J1.length+1:=by
 cases ask with
 |none=>unfold jG;rw[bf,ai];rfl
 |some a=>unfold jG;rw[d_,ai]
theorem xQ{K:Za}{D:Nat}{vs:List V}{H:Hp}{Q:VK}{E:XK}(h:iN K D vs H Q E):sL K kK (hV K D) (iQ K) (bc Q) (start t_ vs) H:=by
 obtain⟨H0,t,l1,l2,l3,l4,kd,fu,ts,ask,kv,n,d,J6,J0,J1,J2,ds,rfl,hD,T,m,h0,S0,Dy,hf,hz,hn,k⟩:=h;have z2:=m.says4;have z3:=m.rooms26;refine⟨(by show 0<=aj;decide),fun l hl=>?_⟩;have S1:ab H (upd H l (.lst [])):=ab.new hl;have nl:l≠kd:=(ac Dy.hkd hl).symm;have l1':upd H l (.lst []) l=some (.lst []):=aa;generalize upd H l (.lst [])=H1 at S1 l1' ⊢;refine⟨_,rfl,_,rfl,t,l1,l2,l3,l4,ts,ask,J0,J1,J2,ds,rfl,(T.same S0).same S1,z2,fun pl us H2 hpl hP S2=>⟨pl,rfl,⟨_,ay.of hpl⟩,?_⟩⟩;have S12:=S1.trans S2;have D2:=Dy.up S12;have npl:pl≠kd:=fun z=>by have:=D2.hkd;rw[<-z,hpl]at this;cases this
 have zu:us.length=J1.length+1:=by rw[Paired.length hP,lR]
 have npl2:pl≠l:=fun z=>by
  rw[z,S2 _ _ l1']at hpl;injection hpl with hpl;injection hpl with hpl;rw[List.map_eq_nil_iff.1 hpl.symm]at zu;cases zu
 have l0:H0 l=none:=S0.free hl;have l2':=S2 _ _ l1';have S02:=S0.trans S12;have f2:=S12 _ _ hf;refine bP (xs:=us.map V.ref) (fun i σ H'=>∃(kv':List (TK×V)) (x6:Option V),σ=[some (.ref t),some (.ref kd),some (.ref fu),some (xn ask),some (.int ((d+1:Nat))),some (.ref l),x6]/\H' l=some (.lst ((((jG J1 ask).take i).map fun sg=>cntM J0 J1 J2 ds d (behF J2 ds J6 sg)).map V.int))/\cU H' kd kv' J0 J1 J2 ds (n+i * (1+lB d))/\∀b o,H2 b=some o->b≠kd->b≠l->H' b=some o)
  ⟨kv,_,rfl,l2',D2.more (by omega),fun _ _ e _ _=>e⟩ (fun i σ H' _ ⟨_,_,_,_,_,ex⟩=>ay.of (ex _ _ hpl npl npl2)) ?_ ?_
 ·rintro i v σ H3 hi ⟨kv3,x6,rfl,l3',D3,ex3⟩;obtain⟨s,hs,rfl⟩:=cg hi;obtain⟨sg,hsg,hat⟩:=Paired.getL hP hs;have il:i<(jG J1 ask).length:=(bT.1 hsg).1;rw[lR]at il;have kt3:iC H2 H3:=fun b xs e=>ex3 _ _ e (fun z=>by rw[z,D2.hkd]at e;cases e) (fun z=>by rw[z,l2']at e;cases e);have S03:ab H0 H3:=fun b o e=>ex3 _ _ (S02 _ _ e) (ac e h0) (ac e l0);have mul:(i+1) * (1+lB d)=i * (1+lB d)+(1+lB d):=lr _ _;have mul5:(i+1) * (1+lB d)<=5 * (1+lB d):=g_ _ (by omega);refine⟨_,rfl,.inl ⟨rfl,_,ay.of l3'⟩,_,rfl,_,rfl,_,rfl,_,rfl,_,rfl,_,rfl,H0,t,l1,l2,l3,l4,kd,fu,s,ts,kv3,_,sg,J6,J0,J1,J2,ds,rfl,T,m,h0,S03,D3,kt3 _ _ f2,kt3 _ _ hat,hz,by omega,fun u kv4 H4 hu D4 ex4=>?_⟩;refine⟨_,rfl,_,_,rfl,rfl,H0,t,l1,l2,l3,l4,kd,u,ts,kv4,_,d,behF J2 ds J6 sg,J0,J1,J2,ds,?_,hD,T,m,h0,bh.sameH S03 h0 ex4,D4,hu,t6 (by omega) hz,by omega,fun kv5 H5 D5 ex5=>?_⟩
  ·show[V.ref t,V.ref kd,V.ref u,V.int (((d+1:Nat):Int)-1)]=_;rw[show(((d+1:Nat):Int)-1)=(d:Nat) by omega]
  have l5:=ex5 _ _ (ex4 _ _ l3' nl) nl;refine⟨l,_,_,rfl,rfl,l5,?_,kv5,_,rfl,?_,(D5.more (m:=n+(i+1) * (1+lB d)) (by omega)).cell l5,fun b o e n1 n2=>?_⟩
  ·rw[ai,ai,aL];exact am (by omega)
  ·rw[aa,take_snoc hsg,ap,ap];rfl
  ·rw[ah n2];exact ex5 _ _ (ex4 _ _ (ex3 _ _ e n1 n2) n1) n1
 ·rintro σ H3 ⟨kv3,x6,rfl,l3',D3,ex3⟩;rw[ai,Paired.length hP,aX]at l3';rw[ai,zu]at D3;have m5:(J1.length+1) * (1+lB d)<=5 * (1+lB d):=g_ _ (by omega);exact⟨_,rfl,k l kv3 H3 l3' (D3.more (by omega)) fun b o e nb=>ex3 _ _ (S12 _ _ e) nb (ac e hl)⟩
theorem zH{K:Za}{D:Nat}{spS:Sp}(d5:D<=4)(hS:∀m,D=m+1->spS=iN K m){vs:List V}{H:Hp}{Q:VK}{E:XK}(h:hV K D vs H Q E):qR K (kP K) sp_product spS (bc Q) (start sn vs) H:=by
 obtain⟨H0,t,l1,l2,l3,l4,kd,fu,ts,kv,n,d,J6,J0,J1,J2,ds,rfl,hD,T,m,h0,S0,Dy,hf,hz,hn,k⟩:=h;have z1:=m.asks4;have z2:=m.says4;refine⟨_,rfl,(by show 0<=aj;decide),fun e he=>⟨lY J6,lY [],bD (bE.of (kp hf he)),bD (bE.of aa),by rw[b9];decide,by rw[b9];decide,_,rfl,?_⟩⟩;rw[jq];have Se:ab H (upd H e (.tup [])):=ab.new he;generalize upd H e (.tup [])=He at Se ⊢;have De:=Dy.up Se;have one:cntM J0 J1 J2 ds d J6=1->Q (.int 1) He:=fun e=>by
  have:=k kv He (De.more (by omega)) (ab.exBs Se);rw[e]at this;exact this
 by_cases hne:J6=[]
 ·rw[zzr1 hne];refine cA ?_;refine cA ?_;exact one (by rw[hne];exact tW _ _ _ _ _)
 rw[zzr0 hne];refine cB ?_;refine⟨_,rfl,rfl,_,rfl,?_⟩
 match d,hD,hn,k,one with
 |0,_,_,_,one =>
  refine cA ?_;exact one (by unfold cntM;rfl)
 |d+1,hD,hn,k,one =>
 rw[zzr0 (by intro z;injection z with z;omega)];refine cB ?_;obtain⟨w,rfl⟩:∃w,D=w+1:=⟨D-1,by omega⟩;cases hS w rfl;have eq:cntM J0 J1 J2 ds (d+1) J6=1+((kindsF J0 J1 J2 ds J6).map fun k=>gx (k.map fun sg=>cntM J0 J1 J2 ds d (behF J2 ds J6 sg))).sum:=by
  conv=>lhs;unfold cntM
  rw[if_neg hne]
 have nb:lB (d+1)=30+25 * lB d:=rfl;have fe:=Se _ _ hf;have S0e:=S0.trans Se;have fin:∀{kv':List (TK×V)}{H':Hp}{x4 x5:Option V},cU H' kd kv' J0 J1 J2 ds (n+lB (d+1))->bh kd He H'->aR kv' (mH J6 (d+1))=some (.int (cntM J0 J1 J2 ds (d+1) J6))->(aY (iM K V1 (bV (ba V2 V3)))) (bc Q) [some (.ref t),some (.ref kd),some (.ref fu),some (.int ((d+1:Nat))),x4,x5] H':=by
  intro kv' H' x4 x5 D' ex v';refine⟨_,rfl,_,rfl,_,rfl,(by show 2<=aj;decide),fun p hp=>?_⟩;have S:ab H' (upd H' p (.tup [.ref fu,.int ((d+1:Nat))])):=ab.new hp;have tk:=l6 (d:=d+1) (aa (H:=H') (a:=p)) (S _ _ (bh.ktd De.hkd ex _ _ fe));exact⟨kd,_,rfl,.inr ⟨_,mH J6 (d+1),p,.inl (S _ _ D'.hkd),rfl,cC.isIn 8 (cF _ _) tk,cF _ _,v'.symm⟩,k kv' _ (D'.up S) ((ab.exBs Se).trs (ex.trs (ab.exBs S)))⟩
 refine⟨_,rfl,_,rfl,(by show 2<=aj;decide),fun p hp=>?_⟩;have S:ab He (upd He p (.tup [.ref fu,.int ((d+1:Nat))])):=ab.new hp;have tk:=l6 (d:=d+1) (aa (H:=He) (a:=p)) (S _ _ fe);generalize upd He p (.tup [.ref fu,.int ((d+1:Nat))])=H1 at S tk ⊢;have D1:=De.up S;refine⟨_,rfl,kd,_,rfl,.inr ⟨_,mH J6 (d+1),p,.inl D1.hkd,rfl,cC.isIn 8 (cF _ _) tk,cF _ _,rfl⟩,_,rfl,?_⟩;cases hval:aR kv (mH J6 (d+1))with
 |some w' =>
  refine cB ?_;exact fin (D1.more (by omega)) (ab.exBs S) (by rw[hval,D1.cnt hval])
 |none =>
  refine cA ?_;refine⟨_,rfl,_,rfl,_,rfl,H0,t,l1,l2,l3,l4,kd,fu,ts,kv,n,J6,J0,J1,J2,ds,rfl,T,m,h0,S0e.trans S,D1,S _ _ fe,hz,by omega,fun al kv2 H2 hal D2 ex2=>⟨(by show 1<=aj;decide),fun nl hnl=>?_⟩⟩;have za:(askedF J0 J2 ds J6).length<=4:=aJ (ca _ _) z1;have S3:ab H2 (upd H2 nl (.lst [.non])):=ab.new hnl;have nl3:upd H2 nl (.lst [.non]) nl=some (.lst [.non]):=aa;generalize upd H2 nl (.lst [.non])=H3 at S3 nl3 ⊢;refine⟨al,nl,_,_,rfl,rfl,S3 _ _ hal,nl3,by rw[ai];exact cM (am (by show _+1<=1000;omega)),fun cl hcl=>?_⟩;have S4:ab H3 (upd H3 cl (.lst ((askedF J0 J2 ds J6).map V.str++[.non]))):=ab.new hcl;have cl4:upd H3 cl (.lst ((askedF J0 J2 ds J6).map V.str++[.non])) cl=some (.lst (((askedF J0 J2 ds J6).map some++[none]).map xn)):=by
   rw[aa,ap,iH];rfl
  generalize upd H3 cl (.lst ((askedF J0 J2 ds J6).map V.str++[.non]))=H4 at S4 cl4 ⊢;have D4:=(D2.up S3).up S4;have ex4:bh kd He H4:=(ab.exBs S).trs (ex2.trs (ab.exBs (S3.trans S4)));have ncl:cl≠kd:=fun z=>by have:=D4.hkd;rw[<-z,cl4]at this;cases this
  generalize hA:((askedF J0 J2 ds J6).map some++[none]:List (Option Str))=A at cl4;have zA:A.length<=5:=by rw[<-hA,bf,ai];show _+1<=5;omega
  have eA:kindsF J0 J1 J2 ds J6=A.map (jG J1):=by rw[<-hA];exact tL _ _ _ _ _
  rw[eA,iH]at eq;refine⟨cl,rfl,⟨_,ay.of cl4⟩,?_⟩;refine bP (xs:=A.map xn) (fun i σ H'=>∃(kv':List (TK×V)) (x5:Option V),σ=[some (.ref t),some (.ref kd),some (.ref fu),some (.int ((d+1:Nat))),some (.int (1+((A.take i).map ((fun k=>gx (k.map fun sg=>cntM J0 J1 J2 ds d (behF J2 ds J6 sg))) ∘ jG J1)).sum)),x5]/\cU H' kd kv' J0 J1 J2 ds (n+4+i * (5 * (1+lB d)))/\bh kd H4 H')
   ⟨kv2,_,rfl,D4.more (by omega),bh.refl _ _⟩ (fun i σ H' _ ⟨_,_,_,_,ex⟩=>ay.of (ex _ _ cl4 ncl)) ?_ ?_
  ·rintro i v σ H5 hi ⟨kv5,x5,rfl,D5,ex5⟩;rw[gJ]at hi;obtain⟨ask,hask,rfl⟩:=nM.1 hi;have il:i<A.length:=(bT.1 hask).1;have ex05:=ex4.trs ex5;have mul:(i+1) * (5 * (1+lB d))=i * (5 * (1+lB d))+5 * (1+lB d):=lr _ _;have mul5:(i+1) * (5 * (1+lB d))<=5 * (5 * (1+lB d)):=g_ _ (by omega);refine⟨_,rfl,_,rfl,_,rfl,_,rfl,_,rfl,_,rfl,H0,t,l1,l2,l3,l4,kd,fu,ts,ask,kv5,_,d,J6,J0,J1,J2,ds,rfl,by omega,T,m,h0,bh.sameH S0e h0 ex05,D5,bh.ktd De.hkd ex05 _ _ fe,hz,by omega,fun sl kv6 H6 hsl D6 ex6=>?_⟩;refine⟨sl,_,bB d,rfl,hsl,fun z hz'=>?_,by have:=AG d (by omega);omega,by rw[ai,lR];omega,_,_,rfl,rfl,kv6,some (xn ask),?_,D6.more (by omega),ex5.trs ex6⟩
   ·obtain⟨sg,_,rfl⟩:=aE.1 hz';exact oT z1 z2 d _
   ·have es:∀(f:Option Str->Int),1+((A.take (i+1)).map f).sum=1+((A.take i).map f).sum+f ask:=fun f=>by
     rw[take_snoc hask,ap,List.sum_append,a_,qE,List.sum_cons,List.sum_nil,Int.add_zero,Int.add_assoc]
    rw[es];rfl
  ·rintro σ H5 ⟨kv5,x5,rfl,D5,ex5⟩;rw[ai]at D5;rw[ai,aX,<-eq];have m5:A.length * (5 * (1+lB d))<=5 * (5 * (1+lB d)):=g_ _ zA;have ex05:=ex4.trs ex5;refine⟨_,rfl,_,rfl,_,rfl,_,rfl,(by show 2<=aj;decide),fun p2 hp2=>?_⟩;have S6:ab H5 (upd H5 p2 (.tup [.ref fu,.int ((d+1:Nat))])):=ab.new hp2;have tk6:=l6 (d:=d+1) (aa (H:=H5) (a:=p2)) (S6 _ _ (bh.ktd De.hkd ex05 _ _ fe));generalize upd H5 p2 (.tup [.ref fu,.int ((d+1:Nat))])=H6 at S6 tk6 ⊢;have D6:=D5.up S6;have cl:=D6.len;refine⟨kd,_,rfl,.inr ⟨_,mH J6 (d+1),p2,D6.hkd,rfl,tk6,cF _ _,by rw[pN];omega,rfl⟩,?_⟩;have D7:=D6.put (k:=mH J6 (d+1)) (v:=.int (cntM J0 J1 J2 ds (d+1) J6)) (.inr ⟨_,_,rfl⟩);exact fin (D7.more (by omega)) ((ex05.trs (ab.exBs S6)).trs fun b o e nb=>by rw[ah nb];exact e) (by rw[fR,if_pos rfl])
inductive gp(C:Addr)(vs:List V)(H:Hp)(Q:VK)(E:XK):Prop
 |mk (t l1 l2 l3 l4:Addr) (ts:Ze) (J0 J1 J2:Zb) (ds:List ak):(vs=[.ref t])->(iz H t l1 l2 l3 l4 ts J0 J1 J2 ds)->(bH J0 J1 J2 ds)->(∀(x:Addr) (H':Hp),(∀J:Hp,(∀b o,H' b=some o->(H b=none∨∀xs,o≠.lst xs)->J b=some o)->bd C J x J0 J1 J2 ds)->ab H H'->Q (.ref x) H')->gp C vs H Q E
theorem tm{K:Za}{C:Addr}{vs:List V}{H:Hp}{Q:VK}{E:XK}(h:gp C vs H Q E):o_ K C (kM C) (bc Q) (start pI vs) H:=by
 obtain⟨t,l1,l2,l3,l4,ts,J0,J1,J2,ds,rfl,T,m,k⟩:=h;refine⟨_,rfl,.inr (.inl ⟨t,_,0,_,rfl,rfl,bE.of T.t,rfl,.inl ⟨l1,_,rfl,.inl (ay.of T.a1),fun m1 h1=>?_⟩⟩)⟩;have T1:=T.same (ab.new (o:=.lst (J0.map V.str)) h1);refine⟨_,rfl,.inr (.inl ⟨t,_,1,_,rfl,rfl,bE.of T1.t,rfl,.inl ⟨l2,_,rfl,.inl (ay.of T1.a2),fun m2 h2=>?_⟩⟩)⟩;have T2:=T1.same (ab.new (o:=.lst (J1.map V.str)) h2);refine⟨_,rfl,.inr (.inl ⟨t,_,2,_,rfl,rfl,bE.of T2.t,rfl,.inl ⟨l3,_,rfl,.inl (ay.of T2.a3),fun m3 h3=>?_⟩⟩)⟩;have T3:=T2.same (ab.new (o:=.lst (J2.map V.str)) h3);refine⟨_,rfl,.inr (.inl ⟨t,_,3,_,rfl,rfl,bE.of T3.t,rfl,.inl ⟨l4,_,rfl,.inl (ay.of T3.a4),fun m4 h4=>?_⟩⟩)⟩;have S4:=(((ab.new (o:=.lst (J0.map V.str)) h1).trans (ab.new (o:=.lst (J1.map V.str)) h2)).trans (ab.new (o:=.lst (J2.map V.str)) h3)).trans (ab.new (o:=.lst (ts.map V.ref)) h4);refine fun x dx hx hdx hne=>?_;have S5:ab H (upd (upd (upd (upd (upd (upd H m1 (.lst (J0.map V.str))) m2 (.lst (J1.map V.str))) m3 (.lst (J2.map V.str))) m4 (.lst (ts.map V.ref))) dx (.own x)) x (.ins C dx [])) :=
  (S4.trans (ab.new hdx)).trans (ab.new (by rw[ah hne.symm];exact hx))
 have hxx:upd (upd (upd (upd (upd H m1 (.lst (J0.map V.str))) m2 (.lst (J1.map V.str))) m3 (.lst (J2.map V.str))) m4 (.lst (ts.map V.ref))) dx (.own x) x=none:=by rw[ah hne.symm];exact hx
 refine⟨x,dx,m1,m2,m3,m4,ts,J0,J1,J2,ds,rfl,aa,⟨?_,?_,?_,?_,T.ds.kt (ab.kt S5)⟩,m,fun H' M ex=>⟨rfl,k x H' (fun J hJ=>M J fun b o e c=>hJ b o e (c.imp (fun z=>S5.free z) id)) fun b o q=>?_⟩⟩
 ·exact kp (kp (kp (kp (kp aa h2) h3) h4) hdx) hxx
 ·exact kp (kp (kp (kp aa h3) h4) hdx) hxx
 ·exact kp (kp (kp aa h4) hdx) hxx
 ·exact kp (kp aa hdx) hxx
 ·have hq:=S5 _ _ q;exact ex _ _ hq (ac (S4.trans (ab.new hdx) _ _ q) hxx)
inductive jc(C:Addr)(vs:List V)(H:Hp)(Q:VK)(E:XK):Prop
 |mk (H0:Hp) (t l1 l2 l3 l4 M kd:Addr) (ts:Ze) (kv:List (TK×V)) (n d:Nat) (J0 J1 J2:Zb) (ds:List ak):(vs=[.ref t,.ref M,.int (d:Nat),.ref kd])->(d<=4)->(iz H0 t l1 l2 l3 l4 ts J0 J1 J2 ds)->(bH J0 J1 J2 ds)->(bd C H0 M J0 J1 J2 ds)->(H0 kd=none)->(ab H0 H)->(cU H kd kv J0 J1 J2 ds n)->(n+lB d<=1000000) ->
  (∀(kv':List (TK×V)) (H':Hp),cU H' kd kv' J0 J1 J2 ds (n+lB d)->bh kd H H'->Q (.bl true) H')->jc C vs H Q E
theorem wF{K:Za}{C:Addr}{vs:List V}{H:Hp}{Q:VK}{E:XK}(h:jc C vs H Q E):sM K (hV K 4) kO (hW C) (bc Q) (start ub vs) H:=by
 obtain⟨H0,t,l1,l2,l3,l4,M,kd,ts,kv,n,d,J0,J1,J2,ds,rfl,hd,T,m,MA,h0,S0,D,hn,k⟩:=h;have z3:=m.rooms26;refine⟨_,rfl,_,rfl,M,d,J0,J1,J2,ds,rfl,hd,MA.same S0,fun H1 S1=>?_⟩;have S01:=S0.trans S1;refine⟨_,rfl,_,rfl,_,rfl,t,l1,l2,l3,l4,ts,J0,J1,J2,ds,rfl,T.same S01,m,fun f H2 hf S2=>?_⟩;refine⟨_,rfl,H0,t,l1,l2,l3,l4,kd,f,ts,kv,n,d,_,J0,J1,J2,ds,rfl,hd,T,m,h0,S01.trans S2,(D.up S1).up S2,hf,aJ l7 (by omega),hn,fun kv' H3 D3 ex3=>?_⟩;refine⟨_,rfl,.int _,"int",_,true,rfl,.inl (j8.int _),rfl,_,rfl,cA ?_⟩;refine⟨_,rfl,.int _,"bool",_,false,rfl,.inl (j8.int _),rfl,_,rfl,_,rfl,cA ?_⟩;refine⟨_,rfl,_,rfl,rfl,?_⟩;rw[zzr1 rfl];exact k kv' H3 D3 ((ab.exBs (S1.trans S2)).trs ex3)
def sf(C:Addr)(J:Hp)(q:Addr):Prop:=∃(t M l1 l2 l3 l4:Addr) (ts:Ze) (J0 J1 J2:Zb) (ds:List ak),J q=some (.tup [.ref t,.ref M])/\iz J t l1 l2 l3 l4 ts J0 J1 J2 ds/\bH J0 J1 J2 ds/\bd C J M J0 J1 J2 ds
theorem sf.same{C:Addr}{J J':Hp}{q:Addr}(h:sf C J q)(S:ab J J'):sf C J' q:=by
 obtain⟨t,M,l1,l2,l3,l4,ts,J0,J1,J2,ds,e,T,m,MA⟩:=h;exact⟨t,M,l1,l2,l3,l4,ts,J0,J1,J2,ds,S _ _ e,T.same S,m,MA.same S⟩
theorem sf.ex{C:Addr}{J J':Hp}{q p c:Addr}(h:sf C J q)(hp:fb J p c)(S:bh p J J'):sf C J' q:=by
 obtain⟨t,M,l1,l2,l3,l4,ts,J0,J1,J2,ds,e,T,m,MA⟩:=h;have kt:iC J J':=by obtain⟨xs,hx⟩:=hp.lst;exact S.kt hx
 exact⟨t,M,l1,l2,l3,l4,ts,J0,J1,J2,ds,kt _ _ e,T.ex hp S,m,MA.ex hp S⟩
theorem tP{p a:Addr}{H H':Hp}(e:bh p H H'):bh p (eE H a) (eE H' a):=fun b o q n=>by
 by_cases c:b=a
 ·rw[c,eD]at q;cases q
 ·rw[bG c]at q ⊢;exact e _ _ q n
theorem z5{a:Addr}{H H':Hp}(e:ab H H'):ab (eE H a) (eE H' a):=fun b o q=>by
 by_cases c:b=a
 ·rw[c,eD]at q;cases q
 ·rw[bG c]at q ⊢;exact e _ _ q
theorem yL{a:Addr}{H:Hp}{o:HO}:eE (upd H a o) a=eE H a:=funext fun b=>by
 by_cases c:b=a
 ·rw[c,eD,eD]
 ·rw[bG c,bG c,ah c]
theorem fb.hid{H:Hp}{p c a:Addr}(h:fb H p c)(n1:p≠a)(n2:c≠a):fb (eE H a) p c:=by
 obtain⟨x,r,ns,h1⟩:=h;refine⟨x,r,ns,?_⟩;cases h1;constructor<;>first|assumption|(rw[bG n1];assumption)|(rw[bG n2];assumption)
inductive sp_law41(K:Za)(vs:List V)(H:Hp)(Q:VK)(E:XK):Prop
 |mk (a:Addr) (ns:List Int):(vs=[.ref a])->(ay K H a (ns.map V.int))->(ns.length<=63)->(∀H',Q (.bl true) H')->sp_law41 K vs H Q E
def oP:List Nat:=[4,0,3,1,2]
theorem yU:∀i,i<=5->((oP.take i).map lB).sum<=600000:=by
 intro i hi
 match i,hi with
 |0,_=>decide
 |1,_=>decide
 |2,_=>decide
 |3,_=>decide
 |4,_=>decide
 |5,_=>decide
theorem xU{K:Za}{C:Addr}{vs:List V}{H:Hp}{Q:VK}{E:XK}(h:sp_law41 K vs H Q E):zr K (jc C) (gp C) jd fw (nr K) (bc Q) (start wo vs) H:=by
 obtain⟨a,ns,rfl,hs,hn,k⟩:=h;refine⟨_,rfl,a,ns,rfl,hs,hn,fun p c H1 _ hp1 S1=>?_⟩;refine⟨(by show 0<=aj;decide),fun sl hsl=>?_⟩;have np:p≠sl:=hp1.nep hsl;have nc:c≠sl:=hp1.nec hsl;have hp2:fb (upd H1 sl (.lst [])) p c:=hp1.ex (ab.new hsl);have sl2:upd H1 sl (.lst []) sl=some (.lst []):=aa;generalize upd H1 sl (.lst [])=H2 at hp2 sl2 ⊢;refine⟨3,rfl,by decide,by decide,?_⟩;refine jp (lo:=0) (n:=Int.toNat 3) (fun i σ H'=>∃(qs:Ze) (x3 x4 x5 x6 x7:Option V),σ=[some (.ref a),some (.ref p),some (.ref sl),x3,x4,x5,x6,x7]/\qs.length=i/\fb H' p c/\H' sl=some (.lst (qs.map V.ref))/\∀q∈qs,sf C (eE H' sl) q) ⟨[],_,_,_,_,_,rfl,rfl,hp2,sl2,fun q hq=>by cases hq⟩ ?_ ?_
 ·rintro i σ H3 hi ⟨qs,x3,x4,x5,x6,x7,rfl,zq,hp3,sl3,pr3⟩;have hi3:i<3:=hi;refine⟨_,rfl,_,rfl,p,c,2,rfl,hp3,by decide,by decide,fun r H4 r0 r2 hp4 ex4=>?_⟩;have sl4:=ex4 _ _ sl3 np.symm;refine⟨p,c,6,r,rfl,hp4,by decide,by decide,r0,by omega,fun t l1 l2 l3 l4 ts J0 J1 J2 ds H5 T5 m hrl few hp5 ex5 l4n=>?_⟩;have sl5:=ex5 _ _ sl4 np.symm;have pr5:∀q∈qs,sf C (eE H5 sl) q:=fun q hq=>((pr3 q hq).ex (hp3.hid np nc) (tP ex4)).ex (hp4.hid np nc) (tP ex5);have n4:l4≠sl:=(ac sl4 l4n).symm;have nstr:∀{l:Addr}{ws:Zb},H5 l=some (.lst (ws.map V.str))->ws≠[]->l≠sl:=fun{l ws} e ne z=>by
   rw[z,sl5]at e;injection e with e;injection e with e;cases ws with
   |nil=>exact ne rfl
   |cons w ws =>
    cases qs with
    |nil=>cases e
    |cons q qs=>injection e with e _;cases e
  refine⟨_,rfl,.inl ⟨rfl,_,ay.of sl5⟩,_,rfl,_,rfl,t,l1,l2,l3,l4,ts,J0,J1,J2,ds,rfl,T5,m,fun M H6 M6 S6=>⟨(by show 2<=aj;decide),fun q hq=>?_⟩⟩;have S7:ab H6 (upd H6 q (.tup [.ref t,.ref M])):=ab.new hq;have q7:upd H6 q (.tup [.ref t,.ref M]) q=some (.tup [.ref t,.ref M]):=aa;generalize upd H6 q (.tup [.ref t,.ref M])=H7 at S7 q7 ⊢;have S57:=S6.trans S7;have sl7:=S57 _ _ sl5;have T7:iz (eE H7 sl) t l1 l2 l3 l4 ts J0 J1 J2 ds:=by
   have T':=T5.same S57;have kt:iC H7 (eE H7 sl):=fun b xs e=>by rw[bG (fun z=>by rw[z,sl7]at e;cases e)];exact e
   exact⟨kt _ _ T'.t,by rw[bG (nstr T5.a1 m.asks0)];exact T'.a1,by rw[bG (nstr T5.a2 m.says0)];exact T'.a2,by rw[bG (nstr T5.a3 m.rooms0)];exact T'.a3,by rw[bG n4];exact T'.a4,T'.ds.kt kt⟩
  have M7:bd C (eE H7 sl) M J0 J1 J2 ds:=M6 _ fun b o e cc=>by
   rw[bG (fun z=>?_)]
   ·exact S7 _ _ e
   ·rw[z]at e cc;rcases cc with cc|cc
    ·rw[sl5]at cc;cases cc
    ·rw[S6 _ _ sl5]at e;cases e;exact cc _ rfl
  have q7':eE H7 sl q=some (.tup [.ref t,.ref M]):=by rw[bG (fun z=>by rw[z,sl7]at q7;cases q7)];exact q7
  refine⟨sl,_,.ref q,rfl,rfl,sl7,?_,qs++[q],_,_,_,_,_,rfl,by rw[bf,zq];rfl,?_,by rw[aa,ap];rfl,fun q' hq'=>?_⟩
  ·rw[ai,zq];exact am (by omega)
  ·exact fb.upd (hp5.ex S57) np nc
  ·rw[yL];rcases aU.1 hq' with hq'|hq'
   ·exact(pr5 q' hq').same (z5 S57)
   ·rw[eh.1 hq'];exact⟨t,M,l1,l2,l3,l4,ts,J0,J1,J2,ds,q7',T7,m,M7⟩
 ·rintro σ H3 ⟨qs,x3,x4,x5,x6,x7,rfl,zq,hp3,sl3,pr3⟩;have zq:qs.length=3:=zq;refine⟨_,rfl,_,rfl,_,rfl,sl,_,rfl,ay.of sl3,fun s1 hs1=>?_⟩;rw[show fE (qs.map V.ref) none (some 1)=(qs.take 1).map V.ref from(y0 _ 1).trans (qq ..).symm];have S4:ab H3 (upd H3 s1 (.lst ((qs.take 1).map V.ref))):=ab.new hs1;have s4:upd H3 s1 (.lst ((qs.take 1).map V.ref)) s1=some (.lst ((qs.take 1).map V.ref)):=aa;generalize upd H3 s1 (.lst ((qs.take 1).map V.ref))=H4 at S4 s4 ⊢;refine⟨sl,s1,_,_,rfl,rfl,S4 _ _ sl3,s4,?_,fun cl hcl=>?_⟩
  ·rw[ai,ai,aL];exact cM (am (by omega))
  have S5:ab H4 (upd H4 cl (.lst (qs.map V.ref++(qs.take 1).map V.ref))):=ab.new hcl;have cl5:upd H4 cl (.lst (qs.map V.ref++(qs.take 1).map V.ref)) cl=some (.lst ((qs++qs.take 1).map V.ref)):=by rw[aa,ap]
  generalize upd H4 cl (.lst (qs.map V.ref++(qs.take 1).map V.ref))=H5 at S5 cl5 ⊢;have pr5:∀q∈qs++qs.take 1,sf C H5 q:=fun q hq=>(pr3 q ((aU.1 hq).elim id dO)).same ((lX.trans S4).trans S5);refine⟨cl,rfl,⟨_,ay.of cl5⟩,?_⟩;refine bP (xs:=(qs++qs.take 1).map V.ref) (fun i σ H'=>∃x3 x4 x5 x6 x7:Option V,σ=[some (.ref a),some (.ref p),some (.ref sl),x3,x4,x5,x6,x7]/\ab H5 H') ⟨_,_,_,_,_,rfl,ab.refl _⟩ (fun i σ H' _ ⟨_,_,_,_,_,_,S⟩=>ay.of (S _ _ cl5)) ?_ ?_
  ·rintro i v σ H6 hi ⟨x3,x4,x5,x6,x7,rfl,S6⟩;obtain⟨q,hq,rfl⟩:=cg hi;obtain⟨t,M,l1,l2,l3,l4,ts,J0,J1,J2,ds,e,T,m,MA⟩:=(pr5 q (dB hq)).same S6;refine⟨q,_,rfl,bE.of e,rfl,_,_,rfl,_,_,rfl,rfl,?_⟩;refine fun kd hkd=>?_;have S7:ab H6 (upd H6 kd (.dT [])):=ab.new hkd;have kd7:upd H6 kd (.dT []) kd=some (.dT []):=aa;generalize upd H6 kd (.dT [])=H7 at S7 kd7 ⊢;refine⟨(by show 5<=aj;decide),fun dl hdl=>?_⟩;have S8:ab H7 (upd H7 dl (.lst [.int 4,.int 0,.int 3,.int 1,.int 2])):=ab.new hdl;have dl8:upd H7 dl (.lst [.int 4,.int 0,.int 3,.int 1,.int 2]) dl=some (.lst (oP.map fun d=>V.int (d:Nat))):=aa;generalize upd H7 dl (.lst [.int 4,.int 0,.int 3,.int 1,.int 2])=H8 at S8 dl8 ⊢;have S68:=S7.trans S8;have kd8:=S8 _ _ kd7;have ndl:dl≠kd:=fun z=>by rw[z,kd8]at dl8;cases dl8
   refine⟨dl,rfl,⟨_,ay.of dl8⟩,?_⟩;refine bP (xs:=oP.map fun d=>V.int (d:Nat)) (fun j σ H'=>∃(kv:List (TK×V)) (x7:Option V),σ=[some (.ref a),some (.ref p),some (.ref sl),x3,some (.ref t),some (.ref M),some (.ref kd),x7]/\cU H' kd kv J0 J1 J2 ds ((oP.take j).map lB).sum/\bh kd H8 H')
    ⟨[],_,rfl,⟨kd8,fun _ h=>(by cases h),ee _⟩,bh.refl _ _⟩ (fun j σ H' _ ⟨_,_,_,_,ex⟩=>ay.of (ex _ _ dl8 ndl)) ?_ ?_
   ·rintro j w σ H9 hj ⟨kv,x7,rfl,D9,ex9⟩;rw[gJ]at hj;obtain⟨d,hd,rfl⟩:=nM.1 hj;have jl:j<5:=(bT.1 hd).1;have d4:d<=4:=(show ∀d∈oP,d<=4 by decide) d (dB hd);have sm:=yU (j+1) (by omega);have es:((oP.take (j+1)).map lB).sum=((oP.take j).map lB).sum+lB d:=by rw[take_snoc hd,ap,List.sum_append];rfl
    refine⟨_,rfl,_,rfl,_,rfl,_,rfl,H6,t,l1,l2,l3,l4,M,kd,ts,kv,_,d,J0,J1,J2,ds,rfl,d4,T,m,MA,hkd,bh.sameH S68 hkd ex9,D9,by omega,fun kv' H10 D10 ex10=>⟨_,rfl,?_⟩⟩;refine cB ⟨kv',_,rfl,?_,ex9.trs ex10⟩;rw[es];exact D10
   ·rintro σ H9 ⟨kv,x7,rfl,D9,ex9⟩;exact⟨_,_,_,_,_,rfl,S6.trans (bh.sameH S68 hkd ex9)⟩
  ·rintro σ H6 ⟨x3,x4,x5,x6,x7,rfl,S6⟩;exact k H6
def ef(i:Nat):Stmt:=PySem.Challenge.pw_mumtrial_k41_made_counted.main.body.getD i (.Pass ⟨0,0,0,0⟩)
local macro_rules | `(tactic| walk_at "s")=>`(tactic| exact⟨rfl,rfl,rfl,by decide +kernel,rfl,by decide +kernel,by decide +kernel⟩)
local macro_rules | `(tactic| walk_at "l")=>`(tactic| (intro _ _ _ _ h;first|exact len_h h|exact len_g h|(cases h;subst_vars;rfl)|(obtain⟨_,_,h,_⟩:=h;subst h;rfl)|((repeat obtain⟨_,h⟩:=h);subst_vars;rfl)))
theorem zzlS{us:List Value}{n:Nat}(h:us.length=n+1):∃ a t,us=a::t∧t.length=n:=by
  cases us with
  |nil=>cases h
  |cons a t=>exact⟨a,t,rfl,Nat.succ.inj h⟩
local macro_rules | `(tactic| walk_at "b")=>`(tactic| (intro _ _ _ _ _ _ us hl;(repeat (have h:=zzlS hl;clear hl;obtain⟨_,_,e,hl⟩:=h;subst e));cases List.eq_nil_of_length_eq_zero hl;rfl))
def BN(K:Za)(x qual:Str)(st:Stmt)(f:Addr):Prop:=∃(oc:Value) (od an:Option Addr) (sl:Array (Option Value)) (kV dc pm cd ct:Value),
 K.lookup f=some ⟨oc,od,.func (fP x qual (fD st) (dU st) (bg st) .none kV dc pm an cd ct),sl⟩/\jO K cd qual=true/\eP K (.ref f)=true
theorem yP{K:Za}{x qual:Str}{st:Stmt}{f:Addr}{oc:Value}{od an:Option Addr}{sl:Array (Option Value)}{kV dc pm cd ct:Value}(l:K.lookup f=some ⟨oc,od,.func (fP x qual (fD st) (dU st) (bg st) .none kV dc pm an cd ct),sl⟩)
  (c:jO K cd qual=true) (k:eP K (.ref f)=true):BN K x qual st f:=⟨oc,od,an,sl,kV,dc,pm,cd,ct,l,c,k⟩
def gI(K:Za)(x:Str)(st:Stmt):Prop:=∃f,bM K bm x=some (some (.ref f))/\BN K x x st f
theorem fnG_mk{K:Za}{x:Str}{st:Stmt}{f:Addr}{oc:Value}{od an:Option Addr}{sl:Array (Option Value)}{kV dc pm cd ct:Value}(a:bM K bm x=some (some (.ref f)))(l:K.lookup f=some ⟨oc,od,.func (fP x x (fD st) (dU st) (bg st) .none kV dc pm an cd ct),sl⟩)
  (c:jO K cd x=true) (k:eP K (.ref f)=true):gI K x st:=⟨f,a,yP l c k⟩
def uh(K:Za)(C:Addr)(m qual:Str)(st:Stmt):Prop:=∃f,bX K (.ref C) m=some (some (.ref f))/\sD K (.ref f)=true/\BN K m qual st f
theorem fnM_mk{K:Za}{C:Addr}{m qual:Str}{st:Stmt}{f:Addr}{oc:Value}{od an:Option Addr}{sl:Array (Option Value)}{kV dc pm cd ct:Value}(a:bX K (.ref C) m=some (some (.ref f)))(i:sD K (.ref f)=true)
  (l:K.lookup f=some ⟨oc,od,.func (fP m qual (fD st) (dU st) (bg st) .none kV dc pm an cd ct),sl⟩) (c:jO K cd qual=true) (k:eP K (.ref f)=true):uh K C m qual st:=⟨f,a,i,yP l c k⟩
theorem BN.fun_{K:Za}{x qual:Str}{st:Stmt}{f:Addr}(T:BN K x qual st f):∃fd,Bm K x qual st f fd:=by
 obtain⟨oc,od,an,sl,kV,dc,pm,cd,ct,l,c,k⟩:=T;exact⟨_,yO (st:=st) l c k⟩
def AO:Sp:=fun _ _ _ _=>False
theorem Aw{P:bj}{w:World}{K:Za}{mg:Str->Option Value}{base:Heap}{k:Nat}{f:Addr}{fd:ip}{ps:Zb}:i6 P w K mg base CX0 k f fd ps AO:=⟨fun _ _ _ _ h=>h.elim,fun _ _ _ _ _ _ _ _ _ _ _ _ _ h=>h.elim⟩
def Bd(K:Za)(a:Addr)(ws:Zb):Prop:=∀H,bE K H a (ws.map V.str)
theorem vG{K:Za}{a:Addr}{ws:Zb}{o:Obj}{its:Array Value}{n:Nat}(l:K.lookup a=some o)(c:o.cls=.type "tuple")(d:o.data=.seq its n)(z:its.size<=aj)(v:aI (ws.map V.str) its.toList):Bd K a ws :=
 fun _=>.inr ⟨o,its,n,l,c,d,z,v⟩
section
variable{P:bj}{w:World}{K:Za}{mg:Str->Option Value}{base h:Heap}{C:Addr}{x qual:Str}{st:Stmt}{N ps:Zb}{k:Nat}{sp:Sp}
abbrev zc(ps:Zb)(sp:Sp):Prop:=∀vs H Q E,sp vs H Q E->vs.length=ps.length
abbrev BodyOk(CX:xB)(P:bj)(w:World)(K:Za)(mg:Str->Option Value)(base:Heap)(qual:Str)(st:Stmt)(N:Zb)(k:Nat)(sp:Sp)(nox:Cx->Cx):Prop:=N.Nodup->∀(f:Addr) (cdv:Value) (A:Around) (outer:List Env) (s:Shared) (H:Hp) (vs:List V) (Q:VK) (E:XK),cZ k (A.deeper (envOfC qual (bg st) s.heap.objs.size f cdv))->(A.deeper (envOfC qual (bg st) s.heap.objs.size f cdv)).units+16<cLine->sp vs H Q E ->
 ∃t,uj (nox (u7 CX P w K mg base N qual (bg st) f cdv A outer s H E)) (dU st) t/\t (bc Q) (start N vs) H
abbrev vo(x qual:Str)(st:Stmt)(ps:Zb):Prop:=∀(kV doc pm:Value) (an:Option Addr) (cdv ct:Value) (us:Zf),us.length=ps.length->bindArgs (fP x qual (fD st) (dU st) (bg st) .none kV doc pm an cdv ct) ⟨us,[]⟩=pure (ps.zip us)
theorem dG(X:K.In h)(G:h.Ns bm mg)(T:gI K x st)(b:BodyOk CX0 P w K mg base x st N k sp Cx.nox)(bi:vo x x st ps)(S:ic N ps (bg st):=by walk_at "s")(l:zc ps sp:=by walk_at "l"):gg P w K mg base x ps (k+1) sp:=by
 obtain⟨f,a,t⟩:=T;obtain⟨fd,F⟩:=t.fun_;exact⟨f,fd,F.ok S l fun cdv A outer s H vs Q E hr h=>b S.nd f cdv A outer s H vs Q E hr (v6 hr) h,dJ X G a,F.kp,F.binds bi⟩
theorem dM(cl:vn K C)(T:uh K C x qual st)(b:BodyOk CX0 P w K mg base qual st N k sp Cx.nox)(bi:vo x qual st ps)(S:ic N ps (bg st):=by walk_at "s")(l:zc ps sp:=by walk_at "l"):qj P w K mg base C x ps (k+1) sp:=by
 obtain⟨f,a,i,t⟩:=T;obtain⟨fd,F⟩:=t.fun_;exact⟨f,fd,F.ok S l fun cdv A outer s H vs Q E hr h=>b S.nd f cdv A outer s H vs Q E hr (v6 hr) h,cl,⟨a,i,F.kp⟩,F.binds bi⟩
theorem dN{y:Str}(cm:mg y=some (.ref C))(mk:ky K C=true)(kc:eP K (.ref C)=true)(T:uh K C "__init__" qual st)(b:BodyOk CX0 P w K mg base qual st N k sp Cx.nox)(bi:vo "__init__" qual st ps)(S:ic N ps (bg st):=by walk_at "s")(l:zc ps sp:=by walk_at "l"):BJ P w K mg base y C ps (k+1) sp:=by
 obtain⟨f,a,i,t⟩:=T;obtain⟨fd,F⟩:=t.fun_;exact⟨f,fd,F.ok S l fun cdv A outer s H vs Q E hr h=>b S.nd f cdv A outer s H vs Q E hr (v6 hr) h,cm,⟨mk,a,i,kc⟩,F.binds bi⟩
end
structure Zs(mg:Str->Option Value):Prop where
 all:mg "all"=none
 bool:mg "bool"=none
 dict:mg "dict"=none
 enumerate:mg "enumerate"=none
 int:mg "int"=none
 isinstance:mg "isinstance"=none
 len:mg "len"=none
 list:mg "list"=none
 range:mg "range"=none
 sum:mg "sum"=none
 tuple:mg "tuple"=none
structure Cs(K:Za)(mg:Str->Option Value)(C Ck Cd a_STILL a_HUSH:Addr):Prop where
 LETTERS:Gc mg "LETTERS" (.str "abcdefghijklmnopqrstuvwxyz")
 LONGEST_NAME:Gc mg "LONGEST_NAME" (.int 8)
 MOST_WORDS:Gc mg "MOST_WORDS" (.int 4)
 MOST_ROOMS:Gc mg "MOST_ROOMS" (.int 150)
 MOST_DOORS:Gc mg "MOST_DOORS" (.int 2000)
 DEEPEST:Gc mg "DEEPEST" (.int 4)
 STILL:Gc mg "STILL" (.ref a_STILL)
 HUSH:Gc mg "HUSH" (.ref a_HUSH)
 still:Bd K a_STILL aG
 hush:Bd K a_HUSH bv
 mc:MC K C
 cm:mg "Machine"=some (.ref C)
 makes:ky K C=true
 kc:eP K (.ref C)=true
 ksc:KC K Ck
 cmksc:mg "KnownSteps"=some (.ref Ck)
 makesksc:ky K Ck=true
 kcksc:eP K (.ref Ck)=true
 dc:DC K Cd
 cmdc:mg "Made"=some (.ref Cd)
 makesdc:ky K Cd=true
 kcdc:eP K (.ref Cd)=true
structure Ts(K:Za)(C Ck Cd:Addr):Prop where
 f_law_spread:gI K "_law_spread" (ef 40)
 f_law_open:gI K "_law_open" (ef 41)
 f_law_anew:gI K "_law_anew" (ef 42)
 f_law_take:gI K "_law_take" (ef 43)
 f_law_names:gI K "_law_names" (ef 44)
 f_law_put:gI K "_law_put" (ef 46)
 f_law_draw_doors:gI K "_law_draw_doors" (ef 47)
 f_law_model:gI K "_law_model" (ef 48)
 f_is_name:gI K "is_name" (ef 20)
 f_as_keys:gI K "as_keys" (ef 21)
 f_first_wrong_name:gI K "first_wrong_name" (ef 22)
 f_door_signs:gI K "door_signs" (ef 23)
 f_first_wrong_door:gI K "first_wrong_door" (ef 24)
 f_goals_by_start_and_sign:gI K "goals_by_start_and_sign" (ef 25)
 f_led_by_still:gI K "led_by_still" (ef 26)
 f_first_led_round:gI K "first_led_round" (ef 27)
 f_need_none:gI K "need_none" (ef 28)
 f_need_parts:gI K "need_parts" (ef 29)
 f_doors_by_start:gI K "doors_by_start" (ef 30)
 f_has_asks_alone:gI K "has_asks_alone" (ef 31)
 f_Machine___init__:uh K C "__init__" "Machine.__init__" (cJ (ef 32) 0)
 f_law_machine:gI K "_law_machine" (ef 55)
 f_Machine_rooms:uh K C "rooms" "Machine.rooms" (cJ (ef 32) 3)
 f_Machine_led_from:uh K C "led_from" "Machine.led_from" (cJ (ef 32) 8)
 f_with_still:gI K "with_still" (ef 8)
 f_Machine_goals:uh K C "goals" "Machine.goals" (cJ (ef 32) 7)
 f_Machine_is_quiet:uh K C "is_quiet" "Machine.is_quiet" (cJ (ef 32) 5)
 f_law_still_on:gI K "_law_still_on" (ef 45)
 f_Machine_asks:uh K C "asks" "Machine.asks" (cJ (ef 32) 1)
 f_Machine_says:uh K C "says" "Machine.says" (cJ (ef 32) 2)
 f_first_face:gI K "first_face" (ef 9)
 f_face_behind:gI K "face_behind" (ef 10)
 f_signs_in_order:gI K "signs_in_order" (ef 7)
 f_steps_at:gI K "steps_at" (ef 11)
 f_KnownSteps___init__:uh K Ck "__init__" "KnownSteps.__init__" (cJ (ef 12) 0)
 f_KnownSteps_steps_from:uh K Ck "steps_from" "KnownSteps.steps_from" (cJ (ef 12) 1)
 f_need_depth:gI K "need_depth" (ef 35)
 f_product:gI K "product" (ef 36)
 f_Made___init__:uh K Cd "__init__" "Made.__init__" (cJ (ef 37) 0)
 f_Made_steps_from:uh K Cd "steps_from" "Made.steps_from" (cJ (ef 37) 1)
 f_Made_kinds_at:uh K Cd "kinds_at" "Made.kinds_at" (cJ (ef 37) 2)
 f_Made_count_of:uh K Cd "count_of" "Made.count_of" (cJ (ef 37) 4)
 f_Made_count_at:uh K Cd "count_at" "Made.count_at" (cJ (ef 37) 3)
 f_how_many_made:gI K "how_many_made" (ef 38)
 f_law_behind:gI K "_law_behind" (ef 49)
 f_law_begin:gI K "_law_begin" (ef 50)
 f_law_part_signs:gI K "_law_part_signs" (ef 51)
 f_law_after:gI K "_law_after" (ef 56)
 f_law_asked:gI K "_law_asked" (ef 57)
 f_law_times:gI K "_law_times" (ef 53)
 f_law_sizes:gI K "_law_sizes" (ef 52)
 f_law_count:gI K "_law_count" (ef 54)
 f_law_right:gI K "_law_right" (ef 58)
 f_law41:gI K "law" (ef 59)
section
variable{P:bj}{w:World}{K:Za}{mg:Str->Option Value}{base h:Heap}{C Ck Cd a_STILL a_HUSH:Addr}
section
variable(P:bj)(w:World)(K:Za)(mg:Str->Option Value)(C Ck Cd a_STILL a_HUSH:Addr)
abbrev ii:Prop:=∀base,gg P w K mg base "_law_spread" ["cell","at"] 1 jb
abbrev o7:Prop:=∀base,gg P w K mg base "_law_open" ["script"] 1 (nr K)
abbrev kn:Prop:=∀base,gg P w K mg base "_law_anew" ["pen"] 1 rj
abbrev ge:Prop:=∀base,gg P w K mg base "_law_take" ["pen","many"] 2 fw
abbrev i8:Prop:=∀base,gg P w K mg base "_law_names" ["pen","many"] 3 kL
abbrev mj:Prop:=∀base,gg P w K mg base "_law_put" ["doors","door"] 1 om
abbrev eJ:Prop:=∀base,gg P w K mg base "_law_draw_doors" ["pen","asks","says","rooms","full"] 3 eN
abbrev mL:Prop:=∀base,gg P w K mg base "_law_model" ["pen","most","full"] 4 jd
abbrev ml:Prop:=∀base,gg P w K mg base "is_name" ["text"] 1 sp_is_name
abbrev g9:Prop:=∀base,gg P w K mg base "as_keys" ["things"] 1 (sp_as_keys K)
abbrev dv:Prop:=∀base,gg P w K mg base "first_wrong_name" ["names","most","taken"] 2 (sp_first_wrong_name K)
abbrev im:Prop:=∀base,gg P w K mg base "door_signs" ["asks","says"] 1 (sp_door_signs K)
abbrev dw:Prop:=∀base,gg P w K mg base "first_wrong_door" ["doors","rooms","signs"] 2 (sp_first_wrong_door K)
abbrev bS:Prop:=∀base,gg P w K mg base "goals_by_start_and_sign" ["doors"] 1 ji
abbrev gb:Prop:=∀base,gg P w K mg base "led_by_still" ["goals","room"] 1 rg
abbrev dY:Prop:=∀base,gg P w K mg base "first_led_round" ["rooms","led"] 1 sp_first_led_round
abbrev gB:Prop:=∀base,gg P w K mg base "need_none" ["part","number"] 1 sp_need_none
abbrev ie:Prop:=∀base,gg P w K mg base "need_parts" ["asks","says","rooms","doors"] 3 sp_need_parts
abbrev eL:Prop:=∀base,gg P w K mg base "doors_by_start" ["rooms","doors"] 1 cq
abbrev eK:Prop:=∀base,gg P w K mg base "has_asks_alone" ["doors"] 1 sp_has_asks_alone
abbrev mm:Prop:=∀base,BJ P w K mg base "Machine" C ["self","asks","says","rooms","doors"] 4 (kM C)
abbrev jJ:Prop:=∀base,gg P w K mg base "_law_machine" ["told"] 6 (gp C)
abbrev dt:Prop:=∀base,qj P w K mg base C "rooms" ["self"] 1 (iO C)
abbrev dz:Prop:=∀base,qj P w K mg base C "led_from" ["self","room"] 1 (gq C)
abbrev fG:Prop:=∀base,gg P w K mg base "with_still" ["M","rooms"] 2 (sp_with_still C)
abbrev fj:Prop:=∀base,qj P w K mg base C "goals" ["self","room","sign"] 1 (gU C)
abbrev dA:Prop:=∀base,qj P w K mg base C "is_quiet" ["self","room"] 1 (gt C)
abbrev dX:Prop:=∀base,gg P w K mg base "_law_still_on" ["doors","rooms"] 1 (eS K)
abbrev gf:Prop:=∀base,qj P w K mg base C "asks" ["self"] 1 (nz C)
abbrev dZ:Prop:=∀base,qj P w K mg base C "says" ["self"] 1 (kJ C)
abbrev ik:Prop:=∀base,gg P w K mg base "first_face" ["M"] 3 (cE C)
abbrev gH:Prop:=∀base,gg P w K mg base "face_behind" ["M","face","sign"] 3 (nu K C)
abbrev eG:Prop:=∀base,gg P w K mg base "signs_in_order" ["M"] 2 (rf C a_HUSH)
abbrev km:Prop:=∀base,gg P w K mg base "steps_at" ["M","face"] 4 (hU C)
abbrev io:Prop:=∀base,BJ P w K mg base "KnownSteps" Ck ["self","M"] 1 (jg Ck)
abbrev cn:Prop:=∀base,qj P w K mg base Ck "steps_from" ["self","face"] 5 (jh C Ck)
abbrev ig:Prop:=∀base,gg P w K mg base "need_depth" ["d"] 1 sp_need_depth
abbrev mi:Prop:=∀base,gg P w K mg base "product" ["numbers"] 1 sp_product
abbrev vp:Prop:=∀base,BJ P w K mg base "Made" Cd ["self","M"] 3 (jf C Ck Cd)
abbrev cK:Prop:=∀base,qj P w K mg base Cd "steps_from" ["self","face"] 6 (gV C Ck Cd)
abbrev fg:Prop:=∀base,qj P w K mg base Cd "kinds_at" ["self","face"] 7 (je K C Ck Cd)
abbrev fh:Prop:=∀base,qj P w K mg base Cd "count_at" ["self","face","d"] 16 (fV C Ck Cd 4)
abbrev ff:Prop:=∀base,gg P w K mg base "how_many_made" ["M","d"] 17 (hW C)
abbrev ij:Prop:=∀base,gg P w K mg base "_law_behind" ["told","face","sign"] 2 (rh K)
abbrev i_:Prop:=∀base,gg P w K mg base "_law_begin" ["told"] 2 kO
abbrev eI:Prop:=∀base,gg P w K mg base "_law_part_signs" ["told","ask"] 1 kK
abbrev gC:Prop:=∀base,gg P w K mg base "_law_after" ["told","known","face","sign"] 3 (iQ K)
abbrev ja:Prop:=∀base,gg P w K mg base "_law_asked" ["told","known","face"] 4 (kP K)
abbrev i7:Prop:=∀base,gg P w K mg base "_law_times" ["numbers"] 1 sp_product
abbrev i9:Prop:=∀base,gg P w K mg base "_law_count" ["told","known","face","deep"] 13 (hV K 4)
abbrev mK:Prop:=∀base,gg P w K mg base "_law_right" ["told","machine","deep","known"] 18 (jc C)
end
section
variable(X:K.In h)(G:h.Ns bm mg)(z:Zs mg)(c:Cs K mg C Ck Cd a_STILL a_HUSH)(T:Ts K C Ck Cd)
include X G z c T
theorem pf:ii P w K mg:=fun base=>dG X G T.f_law_spread (fun S _ _ _ _ _ _ _ _ _ hr hu h=>bK (wE (K:=K) h) (ae (ci (mM Bw (pv 0) (az yr ag ag)) (af (av (pv 0))) aV) (ae (qs 2 S (az eC (az bW (az bW (az fX (az eC (pv 0) ag) ag) (az fX (pv 1) ag)) ag) ag)) (ae (qs 3 S (az eC (az bW (az bW (az fX (pv 2) (pv 2)) (az fX (pv 1) ag)) (az eC (pv 0) ag)) ag)) (ae (qs 4 S (az eC (az bW (az bW (az fX (pv 3) (pv 3)) (az fX (pv 2) ag)) ag) ag)) (af (av (az bW (az fX (az bW (az fX (pv 2) ag) (pv 3)) ag) (pv 4))))))))) (by walk_at "b")
theorem sV:o7 P w K mg:=fun base=>dG X G T.f_law_open (fun S _ _ _ _ _ _ _ _ _ hr hu h=>bK (zG h) (ae (qs 1 S (qL rfl z.list (a1 (cQ gu (pv 0) fA (cV ag))))) (ae (bA bp rfl (kY rfl z.enumerate (a1 (cQ gu (pv 0) (cV ag) (cV ag)))) (hZ rfl (aT (gn 2 S) (aT (gn 3 S) fB))) (af (lQ (az bW (xl (pv 1) (az eC (pv 2) ag)) (pv 3)) (oz (pv 1) (az eC (pv 2) ag) iR)))) (af (av (bq (a3 (pv 1) ag ag))))))) (by walk_at "b")
theorem sW:kn P w K mg:=fun base=>dG X G T.f_law_anew (fun S _ _ _ _ _ _ _ _ _ hr hu h=>bK (zL (K:=K) h) (ae (lQ ag (oz (pv 0) ag iR)) (af (av (pv 0))))) (by walk_at "b")
theorem sU(D_law_spread:ii P w K mg):ge P w K mg:=fun base=>dG X G T.f_law_take (fun S _ _ _ _ _ _ _ _ _ hr hu h=>bK (zE h) (ae (ci (mM vV (xl (pv 0) ag) (pv 1)) (ae (qs 2 S (xl (pv 0) ag)) (ae (qs 3 S ag) (ae (ci (mM vV (pv 2) (ql z.len (a1 (xl (pv 0) ag)))) (af (qs 3 S (xl (xl (pv 0) ag) (pv 2)))) (af (ci (mM vW (ql z.len (a1 (xl (pv 0) ag))) ag) (af (qs 3 S (az eC (xl (xl (pv 0) ag) (az eC (az bW (az fX (pv 2) ag) ag) (ql z.len (a1 (xl (pv 0) ag))))) (az bW (az yr ag ag) (pv 2))))) aV))) (ae (lQ (az bW (pv 2) ag) (oz (pv 0) ag iR)) (af (lQ (qf hr (D_law_spread base) (a2 (pv 3) (pv 2))) (oz (pv 0) ag iR))))))) aV) (ae (qs 4 S (az eC (xl (pv 0) ag) (pv 1))) (ae (lQ (az vX (xl (pv 0) ag) (pv 1)) (oz (pv 0) ag iR)) (af (av (pv 4))))))) (by walk_at "b")
theorem qX(D_law_take:ge P w K mg):i8 P w K mg:=fun base=>dG X G T.f_law_names (fun S _ _ _ _ _ _ _ _ _ hr hu h=>bK (xT h) (ae (qs 2 S bJ) (ae (qs 3 S (iU PySem.F.plainAttrs_str PySem.F.slot_str_join PySem.F.type_str_join zZ bJ (a1 (qc (gW rfl z.range (a1 ag)) (aP (by decide)) fun _ _ _ _ _ _=>⟨gc 0,cj,xs' (pv 1) (qf hr (D_law_take base) (a2 (pv 2) ag))⟩)))) (ae (qs 4 S (qf hr (D_law_take base) (a2 (pv 0) ag))) (ae (qs 5 S (qf hr (D_law_take base) (a2 (pv 0) ag))) (ae (qs 6 S (qf hr (D_law_take base) (a2 (pv 0) ag))) (ae (qs 7 S (bq cR)) (ae (bA bp rfl (gW rfl z.range (a1 (pv 1))) (gn 8 S) (ae (qs 9 S (xs' (pv 2) (az eC (az bW (pv 5) (az fX ag (pv 8))) ag))) (ae (qs 10 S (cQ uE (pv 3) fA (cV (az eC (az bW (pv 6) (az fX (pv 8) (az eC (pv 4) ag))) ag)))) (ae (qs 11 S (xl (bq (a3 ag (ql z.len (a1 (pv 10))) (az vX (ql z.len (a1 (pv 10))) ag))) (pv 4))) (af (bF (iU gD iG iF cW (pv 7) (a1 (az oC (az oC (cQ uE (pv 10) fA (cV (pv 11))) (pv 9)) (cQ uE (pv 10) (cV (pv 11)) fA)))))))))) (af (av (pv 7))))))))))) (by walk_at "b")
theorem uz:mj P w K mg:=fun base=>dG X G T.f_law_put (fun S _ _ _ _ _ _ _ _ _ hr hu h=>bK (AR h) (af (ci (AL (jk hu) (pv 1) (pv 0)) (af (bF (iU gD iG iF cW (pv 0) (a1 (pv 1))))) aV))) (by walk_at "b")
theorem kG(D_law_take:ge P w K mg)(D_law_put:mj P w K mg):eJ P w K mg:=fun base=>dG X G T.f_law_draw_doors (fun S _ _ _ _ _ _ _ _ _ hr hu h=>bK (pB h) (ae (qs 5 S (bq cR)) (ae (qs 6 S (qf hr (D_law_take base) (a2 (pv 0) ag))) (ae (bA bp rfl (kY rfl z.enumerate (a1 (pv 3))) (hZ rfl (aT (gn 7 S) (aT (gn 8 S) fB))) (ae (bA bp rfl (gW rfl z.range (a1 (xl (bq (aW ag (a3 ag ag ag))) (qf hr (D_law_take base) (a2 (pv 0) ag))))) (gn 9 S) (ae (qs 10 S (aM (a2 bJ (xl (pv 2) (qf hr (D_law_take base) (a2 (pv 0) (ql z.len (a1 (pv 2))))))))) (af (bF (qf hr (D_law_put base) (a2 (pv 5) (aM (a3 (pv 8) (pv 10) (xl (pv 3) (qf hr (D_law_take base) (a2 (pv 0) (ql z.len (a1 (pv 3)))))))))))))) (ae (bA bp rfl (aF (pv 1)) (gn 11 S) (af (bA bp rfl (gW rfl z.range (a1 (xl (bq (aW (pv 4) (a3 ag ag ag))) (qf hr (D_law_take base) (a2 (pv 0) ag))))) (gn 9 S) (af (bF (qf hr (D_law_put base) (a2 (pv 5) (aM (a3 (pv 8) (aM (a2 bJ (pv 11))) (xl (pv 3) (qf hr (D_law_take base) (a2 (pv 0) (ql z.len (a1 (pv 3))))))))))))))) (ae (qs 12 S (xl (bq (a2 (cQ gu (pv 3) (cV (az bW (pv 7) ag)) fA) (cQ gu (pv 3) fA (cV (pv 7))))) (pv 6))) (af (ci (PW.pt (rC (mM (yt hu) (pv 12) (bq cR)) (rB (mM k3 (qf hr (D_law_take base) (a2 (pv 0) ag)) ag)))) (af (bF (qf hr (D_law_put base) (a2 (pv 5) (aM (a3 (pv 8) (aM (a1 bJ)) (xq (pv 12) (qf hr (D_law_take base) (a2 (pv 0) (ql z.len (a1 (pv 12)))))))))))) aV)))))) (af (av (pv 5))))))) (by walk_at "b")
theorem qY(D_law_anew:kn P w K mg)(D_law_take:ge P w K mg)(D_law_names:i8 P w K mg)(D_law_draw_doors:eJ P w K mg):mL P w K mg:=fun base=>dG X G T.f_law_model (fun S _ _ _ _ _ _ _ _ _ hr hu h=>bK (wG h) (ae (bF (qf hr (D_law_anew base) (a1 (pv 0)))) (ae (qs 3 S (qf hr (D_law_names base) (a2 (pv 0) ag))) (ae (qs 4 S (cQ gu (pv 3) fA (cV (az bW ag (xl (bq (aW ag (aW ag (aW ag (a3 ag ag ag))))) (qf hr (D_law_take base) (a2 (pv 0) ag))))))) (ae (qs 5 S (cQ gu (pv 3) (cV ag) (cV (az bW ag (xl (bq (aW ag (aW ag (aW ag (a3 ag ag ag))))) (qf hr (D_law_take base) (a2 (pv 0) ag))))))) (ae (qs 6 S (qf hr (D_law_names base) (a2 (pv 0) (az bW ag (qf hr (D_law_take base) (a2 (pv 0) (pv 1))))))) (ae (qs 7 S (qf hr (D_law_draw_doors base) (aW (pv 0) (aW (pv 4) (a3 (pv 5) (pv 6) (pv 2)))))) (af (av (aM (aW (pv 4) (a3 (pv 5) (pv 6) (pv 7))))))))))))) (by walk_at "b")
theorem uA:ml P w K mg:=fun base=>dG X G T.f_is_name (fun S _ _ _ _ _ _ _ _ _ hr hu h=>bK (uI h) (af (av (rF (BU Av (pv 0) bJ) (rF (BU Bv (ql z.len (a1 (pv 0))) (iu rfl c.LONGEST_NAME)) (yk (qB (mG rfl) z.all boot_all (a1 (qc (AU (pv 0)) (aP (by decide)) fun _ _ _ _ _ _=>⟨gc 0,cj,eci uS (pv 0) (iu rfl c.LETTERS)⟩))))))))) (by walk_at "b")
theorem uB:g9 P w K mg:=fun base=>dG X G T.f_as_keys (fun S _ _ _ _ _ _ _ _ _ hr hu h=>bK (uK h) (ae (qs 1 S kZ) (ae (bA bp rfl (aF (pv 0)) (gn 2 S) (af (dQ hu (pv 1) (pv 2) mz rfl))) (af (av (pv 1)))))) (by walk_at "b")
theorem jw(D_is_name:ml P w K mg)(D_as_keys:g9 P w K mg):dv P w K mg:=fun base=>dG X G T.f_first_wrong_name (fun S _ _ _ _ _ _ _ _ _ hr hu h=>bK (jy h) (ae (ci (mM k3 (ql z.len (a1 (pv 0))) ag) (af (av ag)) aV) (ae (qs 3 S (qf hr (D_as_keys base) (a1 (pv 2)))) (ae (bA bp rfl (kY rfl z.enumerate (a1 (pv 0))) (hZ rfl (aT (gn 4 S) (aT (gn 5 S) fB))) (ae (ci (PW.pt (my (mM k3 (pv 4) (pv 1)) (my (du (oB hu (pv 5) (pv 3))) (lP (yg (rD (qf hr (D_is_name base) (a1 (pv 5))))))))) (af (av (pv 4))) aV) (af (dQ hu (pv 3) (pv 5) mz rfl)))) (af (av rE)))))) (by walk_at "b")
theorem pj:im P w K mg:=fun base=>dG X G T.f_door_signs (fun S _ _ _ _ _ _ _ _ _ hr hu h=>bK (pC c.still h) (af (av (az fZ (az fZ (qc (aF (pv 0)) (aP (by decide)) fun _ _ _ _ _ _=>⟨gc 0,cj,aM (a2 bJ (pv 0))⟩) (qc (aF (pv 1)) (aP (by decide)) fun _ _ _ _ _ _=>⟨gc 0,cj,aM (a2 bJ (pv 0))⟩)) (bq (a1 (iu rfl c.STILL))))))) (by walk_at "b")
theorem jx(D_as_keys:g9 P w K mg):dw P w K mg:=fun base=>dG X G T.f_first_wrong_door (fun S _ _ _ _ _ _ _ _ _ hr hu h=>bK (jz h) (ae (qs 3 S (qf hr (D_as_keys base) (a1 (pv 1)))) (ae (qs 4 S gX) (ae (bA bp rfl (kY rfl z.enumerate (a1 (pv 0))) (hZ rfl (aT (gn 5 S) (aT (gn 6 S) fB))) (ae (ci (PW.pt (my (mM k3 (pv 5) (iu rfl c.MOST_DOORS)) (lP (du (oB hu (pv 6) (pv 4)))))) (af (av (pv 5))) aV) (ae (ci (PW.pt (my (du (dE hu (xq (pv 6) ag) (pv 3))) (my (AL (jk hu) (xq (pv 6) ag) (pv 2)) (lP (du (dE hu (xq (pv 6) ag) (pv 3))))))) (af (av (pv 5))) aV) (af (dQ hu (pv 4) (pv 6) mz rfl))))) (af (av rE)))))) (by walk_at "b")
theorem fU:bS P w K mg:=fun base=>dG X G T.f_goals_by_start_and_sign (fun S _ _ _ _ _ _ _ _ _ hr hu h=>bK (wN h) (ae (qs 1 S gX) (ae (bA bp rfl (aF (pv 0)) (hZ rfl (aT (gn 2 S) (aT (gn 3 S) (aT (gn 4 S) fB)))) (af (bF (iU gD iG iF cW (iU PySem.F.plainAttrs_dict PySem.F.slot_dict_setdefault PySem.F.type_dict_setdefault (wT hu) (pv 1) (a2 (aM (a2 (pv 2) (pv 3))) (bq cR))) (a1 (pv 4)))))) (af (av (pv 1)))))) (by walk_at "b")
theorem mW:gb P w K mg:=fun base=>dG X G T.f_led_by_still (fun S _ _ _ _ _ _ _ _ _ hr hu h=>bK (mZ c.still h) (ae (qs 2 S kZ) (ae (qs 3 S (bq (a1 (pv 1)))) (ae (tw bp (mM vW (ql z.len (a1 (pv 3))) ag) (ae (qs 4 S (A5 gD PySem.F.slot_list_pop PySem.F.type_list_pop A6 (pv 3))) (af (bA bp rfl (AV (oA hu (pv 0) (aM (a2 (pv 4) (iu rfl c.STILL))) (aM cR) ⟨rfl,rfl,rfl,rfl⟩)) (gn 5 S) (af (ci (du (dE hu (pv 5) (pv 2))) (ae (dQ hu (pv 2) (pv 5) mz rfl) (af (bF (iU gD iG iF cW (pv 3) (a1 (pv 5)))))) aV)))))) (af (av (pv 2))))))) (by walk_at "b")
theorem jW:dY P w K mg:=fun base=>dG X G T.f_first_led_round (fun S _ _ _ _ _ _ _ _ _ hr hu h=>bK (jZ h) (ae (bA bp rfl (kY rfl z.enumerate (a1 (pv 0))) (hZ rfl (aT (gn 2 S) (aT (gn 3 S) fB))) (af (ci (du (oB hu (pv 3) (h7 hu (pv 1) (pv 3) (fun _ _=>rfl)))) (af (av (pv 2))) aV))) (af (av rE)))) (by walk_at "b")
theorem qU:gB P w K mg:=fun base=>dG X G T.f_need_none (fun S _ _ _ _ _ _ _ _ _ hr hu h=>bK (rm (K:=K) h) (af (ci (du (zW (pv 1))) (af (tz)) aV))) (by walk_at "b")
theorem pd(D_first_wrong_name:dv P w K mg)(D_door_signs:im P w K mg)(D_first_wrong_door:dw P w K mg)(D_need_none:gB P w K mg):ie P w K mg:=fun base=>dG X G T.f_need_parts (fun S _ _ _ _ _ _ _ _ _ hr hu h=>bK (pr (K:=K) h) (ae (bF (qf hr (D_need_none base) (a2 bJ (qf hr (D_first_wrong_name base) (a3 (pv 0) (iu rfl c.MOST_WORDS) (bq cR)))))) (ae (bF (qf hr (D_need_none base) (a2 bJ (qf hr (D_first_wrong_name base) (a3 (pv 1) (iu rfl c.MOST_WORDS) (pv 0)))))) (ae (bF (qf hr (D_need_none base) (a2 bJ (qf hr (D_first_wrong_name base) (a3 (pv 2) (iu rfl c.MOST_ROOMS) (bq cR)))))) (af (bF (qf hr (D_need_none base) (a2 bJ (qf hr (D_first_wrong_door base) (a3 (pv 3) (pv 2) (qf hr (D_door_signs base) (a2 (pv 0) (pv 1))))))))))))) (by walk_at "b")
theorem kI:eL P w K mg:=fun base=>dG X G T.f_doors_by_start (fun S _ _ _ _ _ _ _ _ _ hr hu h=>bK (j1 h) (ae (qs 2 S kZ) (ae (bA bp rfl (aF (pv 0)) (gn 3 S) (af (dQ hu (pv 2) (pv 3) (bq cR) rfl))) (ae (bA bp rfl (aF (pv 1)) (gn 4 S) (af (bF (iU gD iG iF cW (h7 hu (pv 2) (xq (pv 4) ag) (fun _ _=>rfl)) (a1 (pv 4)))))) (af (av (pv 2))))))) (by walk_at "b")
theorem kH:eK P w K mg:=fun base=>dG X G T.f_has_asks_alone (fun S _ _ _ _ _ _ _ _ _ hr hu h=>bK (kW h) (af (av (qB (mG rfl) z.all boot_all (a1 (qc (aF (pv 0)) (aP (by decide)) fun _ _ _ _ _ _=>⟨gc 0,cj,BU k3 (xq (xq (pv 0) ag) ag) bJ⟩)))))) (by walk_at "b")
theorem uC(D_as_keys:g9 P w K mg)(D_goals_by_start_and_sign:bS P w K mg)(D_led_by_still:gb P w K mg)(D_first_led_round:dY P w K mg)(D_need_none:gB P w K mg)(D_need_parts:ie P w K mg)(D_doors_by_start:eL P w K mg)(D_has_asks_alone:eK P w K mg):mm P w K mg C:=fun base=>dN c.cm c.makes c.kc T.f_Machine___init__ (fun S _ _ _ _ _ _ _ _ _ hr hu h=>bK (xV c.mc h) (ae (bF (qf hr (D_need_parts base) (aW (pv 1) (a3 (pv 2) (pv 3) (pv 4))))) (ae (eo (pv 0) (qL rfl z.list (a1 (pv 1))) rfl) (ae (eo (pv 0) (qL rfl z.list (a1 (pv 2))) rfl) (ae (eo (pv 0) (qL rfl z.list (a1 (pv 3))) rfl) (ae (eo (pv 0) (qL rfl z.list (a1 (pv 4))) rfl) (ae (eo (pv 0) (qf hr (D_doors_by_start base) (a2 (pv 3) (pv 4))) rfl) (ae (eo (pv 0) (qf hr (D_as_keys base) (a1 (qc (aF (pv 3)) (aP (by decide)) fun _ _ _ _ _ _=>⟨gc 0,eO (rD (qf hr (D_has_asks_alone base) (a1 (h7 hu (cu (pv 1) rfl) (pv 0) (fun _ _=>rfl))))),pv 0⟩))) rfl) (ae (eo (pv 0) (qf hr (D_goals_by_start_and_sign base) (a1 (pv 4))) rfl) (ae (eo (pv 0) (eB (rZ rfl) rfl z.dict vb (a1 (qc (aF (pv 3)) (aP (by decide)) fun _ _ _ _ _ _=>⟨gc 0,cj,aM (a2 (pv 0) (qf hr (D_led_by_still base) (a2 (cu (pv 1) rfl) (pv 0))))⟩))) rfl) (af (bF (qf hr (D_need_none base) (a2 bJ (qf hr (D_first_led_round base) (a2 (pv 3) (cu (pv 0) rfl))))))))))))))))) (by walk_at "b")
theorem og(D_Machine:mm P w K mg C):jJ P w K mg C:=fun base=>dG X G T.f_law_machine (fun S _ _ _ _ _ _ _ _ _ hr hu h=>bK (tm h) (af (av (uR (D_Machine base) (hr.mono (by decide)) rfl (aW (qL rfl z.list (a1 (xq (pv 0) ag))) (a3 (qL rfl z.list (a1 (xq (pv 0) ag))) (qL rfl z.list (a1 (xq (pv 0) ag))) (qL rfl z.list (a1 (xq (pv 0) ag))))))))) (by walk_at "b")
theorem lM:dt P w K mg C:=fun base=>dM c.mc.cls T.f_Machine_rooms (fun S _ _ _ _ _ _ _ _ _ hr hu h=>bK (xR c.mc h) (af (av (qL rfl z.list (a1 (cu (pv 0) rfl)))))) (by walk_at "b")
theorem ju:dz P w K mg C:=fun base=>dM c.mc.cls T.f_Machine_led_from (fun S _ _ _ _ _ _ _ _ _ hr hu h=>bK (tp c.mc h) (af (av (qL rfl z.list (a1 (oA hu (cu (pv 0) rfl) (pv 1) (aM cR) ⟨rfl,rfl,rfl,rfl⟩)))))) (by walk_at "b")
theorem pc(M_Machine_rooms:dt P w K mg C)(M_Machine_led_from:dz P w K mg C):fG P w K mg C:=fun base=>dG X G T.f_with_still (fun S _ _ _ _ _ _ _ _ _ hr hu h=>bK (pq h) (ae (qs 2 S kZ) (ae (bA bp rfl (aF (pv 1)) (gn 3 S) (af (ci (du (dE hu (pv 3) (pv 2))) (ae (dQ hu (pv 2) (pv 3) mz rfl) (af (bA bp rfl (aF (qm hr (M_Machine_led_from base) (pv 0) (a1 (pv 3)))) (gn 4 S) (af (dQ hu (pv 2) (pv 4) mz rfl))))) aV))) (af (av (eB dh rfl z.tuple eV (a1 (qc (aF (Bt hr (M_Machine_rooms base) (pv 0))) (aP (by decide)) fun _ _ _ _ _ _=>⟨gc 0,eO (du (oB hu (pv 0) (pv 1))),pv 0⟩)))))))) (by walk_at "b")
theorem lN:fj P w K mg C:=fun base=>dM c.mc.cls T.f_Machine_goals (fun S _ _ _ _ _ _ _ _ _ hr hu h=>bK (wI c.mc h) (af (av (qL rfl z.list (a1 (oA hu (cu (pv 0) rfl) (aM (a2 (pv 1) (pv 2))) (aM cR) ⟨rfl,rfl,rfl,rfl⟩)))))) (by walk_at "b")
theorem jv:dA P w K mg C:=fun base=>dM c.mc.cls T.f_Machine_is_quiet (fun S _ _ _ _ _ _ _ _ _ hr hu h=>bK (tq c.mc h) (af (av (AZ (oB hu (pv 1) (cu (pv 0) rfl)))))) (by walk_at "b")
theorem mY:dX P w K mg:=fun base=>dG X G T.f_law_still_on (fun S _ _ _ _ _ _ _ _ _ hr hu h=>bK (tj h) (ae (qs 2 S (qL rfl z.list (a1 (pv 1)))) (ae (qs 3 S ag) (ae (tw bp (mM vV (pv 3) (ql z.len (a1 (pv 2)))) (ae (bA bp rfl (aF (pv 0)) (hZ rfl (aT (gn 4 S) (aT (gn 5 S) (aT (gn 6 S) fB)))) (af (ci (PW.pt (rC (mM (lS hu) (pv 4) (xq (pv 2) (pv 3))) (rC (mM (lS hu) (pv 5) (aM (a1 bJ))) (rB (AL (jk hu) (pv 6) (pv 2)))))) (af (bF (iU gD iG iF cW (pv 2) (a1 (pv 6))))) aV))) (af (qs 3 S (az bW (pv 3) ag))))) (af (av (pv 2))))))) (by walk_at "b")
theorem mV:gf P w K mg C:=fun base=>dM c.mc.cls T.f_Machine_asks (fun S _ _ _ _ _ _ _ _ _ hr hu h=>bK (zK c.mc h) (af (av (qL rfl z.list (a1 (cu (pv 0) rfl)))))) (by walk_at "b")
theorem mU:dZ P w K mg C:=fun base=>dM c.mc.cls T.f_Machine_says (fun S _ _ _ _ _ _ _ _ _ hr hu h=>bK (zF c.mc h) (af (av (qL rfl z.list (a1 (cu (pv 0) rfl)))))) (by walk_at "b")
theorem pi(M_Machine_rooms:dt P w K mg C)(D_with_still:fG P w K mg C):ik P w K mg C:=fun base=>dG X G T.f_first_face (fun S _ _ _ _ _ _ _ _ _ hr hu h=>bK (pA h) (af (av (qf hr (D_with_still base) (a2 (pv 0) (cQ gu (Bt hr (M_Machine_rooms base) (pv 0)) fA (cV ag))))))) (by walk_at "b")
theorem oh(D_with_still:fG P w K mg C)(M_Machine_goals:fj P w K mg C)(M_Machine_is_quiet:dA P w K mg C):gH P w K mg C:=fun base=>dG X G T.f_face_behind (fun S _ _ _ _ _ _ _ _ _ hr hu h=>bK (zI c.hush h) (ae (ci (mM (lS hu) (pv 2) (iu rfl c.HUSH)) (af (av (eB dh rfl z.tuple eV (a1 (qc (uP (pv 1)) (aP (by decide)) fun _ _ _ _ _ _=>⟨gc 0,eO (rD (qm hr (M_Machine_is_quiet base) (pv 1) (a1 (pv 0)))),pv 0⟩))))) aV) (ae (qs 3 S (bq cR)) (ae (bA bp rfl (uP (pv 1)) (gn 4 S) (af (bF (iU gD PySem.F.slot_list_extend PySem.F.type_list_extend wU (pv 3) (a1 (qm hr (M_Machine_goals base) (pv 0) (a2 (pv 4) (pv 2)))))))) (af (av (qf hr (D_with_still base) (a2 (pv 0) (pv 3))))))))) (by walk_at "b")
theorem kE(M_Machine_asks:gf P w K mg C)(M_Machine_says:dZ P w K mg C):eG P w K mg C a_HUSH:=fun base=>dG X G T.f_signs_in_order (fun S _ _ _ _ _ _ _ _ _ hr hu h=>bK (AQ h) (af (av (az fZ (az fZ (qc (aF (Bt hr (M_Machine_asks base) (pv 0))) (aP (by decide)) fun _ _ _ _ _ _=>⟨gc 0,cj,aM (a2 bJ (pv 0))⟩) (qc (aF (Bt hr (M_Machine_says base) (pv 0))) (aP (by decide)) fun _ _ _ _ _ _=>⟨gc 0,cj,aM (a2 bJ (pv 0))⟩)) (bq (a1 (iu rfl c.HUSH))))))) (by walk_at "b")
theorem sT(D_face_behind:gH P w K mg C)(D_signs_in_order:eG P w K mg C a_HUSH):km P w K mg C:=fun base=>dG X G T.f_steps_at (fun S _ _ _ _ _ _ _ _ _ hr hu h=>bK (uH c.hush h) (ae (qs 2 S gX) (ae (bA bp rfl (aF (qf hr (D_signs_in_order base) (a1 (pv 0)))) (gn 3 S) (ae (qs 4 S (qf hr (D_face_behind base) (a3 (pv 0) (pv 1) (pv 3)))) (af (ci (mM vW (ql z.len (a1 (pv 4))) ag) (af (yi hu (pv 2) (pv 3) (pv 4) rfl)) aV)))) (af (av (pv 2)))))) (by walk_at "b")
theorem pk:io P w K mg Ck:=fun base=>dN c.cmksc c.makesksc c.kcksc T.f_KnownSteps___init__ (fun S _ _ _ _ _ _ _ _ _ hr hu h=>bK (wL c.ksc h) (ae (eo (pv 0) (pv 1) rfl) (af (eo (pv 0) gX rfl)))) (by walk_at "b")
theorem gE(D_steps_at:km P w K mg C):cn P w K mg C Ck:=fun base=>dM c.ksc.cls T.f_KnownSteps_steps_from (fun S _ _ _ _ _ _ _ _ _ hr hu h=>bK (wM c.ksc h) (ae (ci (du (dE hu (pv 1) (cu (pv 0) rfl))) (af (dQ hu (cu (pv 0) rfl) (pv 1) (qf hr (D_steps_at base) (a2 (cu (pv 0) rfl) (pv 1))) rfl)) aV) (af (av (h7 hu (cu (pv 0) rfl) (pv 1) (fun _ _=>rfl)))))) (by walk_at "b")
theorem pe:ig P w K mg:=fun base=>dG X G T.f_need_depth (fun S _ _ _ _ _ _ _ _ _ hr hu h=>bK (px (K:=K) h) (af (ci (PW.pt (my (mM vV (pv 0) ag) (lP (mM vW (pv 0) (iu rfl c.DEEPEST))))) (af (tz)) aV))) (by walk_at "b")
theorem uy:mi P w K mg:=fun base=>dG X G T.f_product (fun S _ _ _ _ _ _ _ _ _ hr hu h=>bK (oq h) (ae (qs 1 S ag) (ae (bA bp rfl (aF (pv 0)) (gn 2 S) (af (qs 1 S (az vU (pv 1) (pv 2))))) (af (av (pv 1)))))) (by walk_at "b")
theorem zv(M_Machine_says:dZ P w K mg C)(D_KnownSteps:io P w K mg Ck):vp P w K mg C Ck Cd:=fun base=>dN c.cmdc c.makesdc c.kcdc T.f_Made___init__ (fun S _ _ _ _ _ _ _ _ _ hr hu h=>bK (wJ c.dc h) (ae (eo (pv 0) (qc (aF (Bt hr (M_Machine_says base) (pv 1))) (aP (by decide)) fun _ _ _ _ _ _=>⟨gc 0,cj,aM (a2 bJ (pv 0))⟩) rfl) (ae (eo (pv 0) (uR (D_KnownSteps base) (hr.mono (by decide)) rfl (a1 (pv 1))) rfl) (af (eo (pv 0) gX rfl))))) (by walk_at "b")
theorem jV(M_KnownSteps_steps_from:cn P w K mg C Ck):cK P w K mg C Ck Cd:=fun base=>dM c.dc.cls T.f_Made_steps_from (fun S _ _ _ _ _ _ _ _ _ hr hu h=>bK (wK c.dc h) (af (av (qm hr (M_KnownSteps_steps_from base) (cu (pv 0) rfl) (a1 (pv 1)))))) (by walk_at "b")
theorem lK(M_Made_steps_from:cK P w K mg C Ck Cd):fg P w K mg C Ck Cd:=fun base=>dM c.dc.cls T.f_Made_kinds_at (fun S _ _ _ _ _ _ _ _ _ hr hu h=>bK (wH c.dc c.hush h) (ae (qsc 2 S (yj (qm hr (M_Made_steps_from base) (pv 0) (a1 (pv 1)))) (aP (by decide)) fun _ _ _ _ _ _=>⟨gc 0,eO (mM k3 (xq (pv 0) ag) bJ),pv 0⟩) (af (av (az fZ (qc (aF (pv 2)) (aP (by decide)) fun _ _ _ _ _ _=>⟨gc 0,cj,az fZ (bq (a1 (pv 0))) (cu (pv 1) rfl)⟩) (bq (a1 (az fZ (cu (pv 0) rfl) (bq (a1 (iu rfl c.HUSH))))))))))) (by walk_at "b")
theorem lL(D_product:mi P w K mg)(M_Made_steps_from:cK P w K mg C Ck Cd)(M_Made_kinds_at:fg P w K mg C Ck Cd):fh P w K mg C Ck Cd:=fun base=>by
  have E0:qj P w K mg base Cd "count_of" ["self","face","d","signs"] 7 AO:=by
   obtain⟨f,a,i,t⟩:=T.f_Made_count_of;obtain⟨fd,F⟩:=t.fun_;exact⟨f,fd,Aw,c.dc.cls,⟨a,i,F.kp⟩,F.binds (ps:=["self","face","d","signs"]) (by walk_at "b")⟩
  have sA:∀(n D:Nat) (sp:Sp),7<=n->D<=4->(∀m,D=m+1->sp=(iP K C Ck Cd m))->qj P w K mg base Cd "count_of" ["self","face","d","signs"] n sp->qj P w K mg base Cd "count_at" ["self","face","d"] (n+1) (fV C Ck Cd D):=fun n D sp hb hD hS Mr=>dM c.dc.cls T.f_Made_count_at (fun S _ _ _ _ _ _ _ _ _ hr hu h=>bK (xX c.dc hD hS h) (ae (ci (PW.pt (my (du (yo (pv 1))) (lP (mM k3 (pv 2) ag)))) (af (av ag)) aV) (ae (ci (du (dE hu (aM (a2 (pv 1) (pv 2))) (cu (pv 0) rfl))) (ae (qsc 3 S (aF (qm (k0:=7) (hr.mono (aJ (by decide) hb)) (M_Made_kinds_at base) (pv 0) (a1 (pv 1)))) (aP (by decide)) fun _ _ _ _ _ _=>⟨gc 0,cj,qm (hk:=ax _) hr Mr (pv 3) (a3 (pv 1) (pv 2) (pv 0))⟩) (af (dQ hu (cu (pv 0) rfl) (aM (a2 (pv 1) (pv 2))) (az bW ag (qB (xj rfl) z.sum boot_sum (a1 (pv 3)))) rfl))) aV) (af (av (h7 hu (cu (pv 0) rfl) (aM (a2 (pv 1) (pv 2))) (fun _ _=>rfl))))))) (by walk_at "b");have sB:∀n D:Nat,7<=n->qj P w K mg base Cd "count_at" ["self","face","d"] n (fV C Ck Cd D)->qj P w K mg base Cd "count_of" ["self","face","d","signs"] (n+1) (iP K C Ck Cd D):=fun n D hb Mr=>dM c.dc.cls T.f_Made_count_of (fun S _ _ _ _ _ _ _ _ _ hr hu h=>bK (xW h) (ae (qs 4 S (qm (k0:=6) (hr.mono (aJ (by decide) hb)) (M_Made_steps_from base) (pv 0) (a1 (pv 1)))) (af (av (qf (k0:=1) (hr.mono (aJ (by decide) hb)) (D_product base) (a1 (qc (aF (pv 3)) (aP (by decide)) fun _ _ _ _ _ _=>⟨gc 0,cj,qm (hk:=ax _) hr Mr (pv 1) (a2 (yn hu (pv 3) (pv 0) ⟨rfl,rfl,rfl,rfl⟩) (az yq (pv 2) ag))⟩))))))) (by walk_at "b");have A0:=sA 7 0 _ (by decide) (by decide) (fun m e=>by cases e) E0;have B0:=sB 8 0 (by decide) A0;have A1:=sA 9 1 _ (by decide) (by decide) (fun m e=>by cases e;rfl) B0;have B1:=sB 10 1 (by decide) A1;have A2:=sA 11 2 _ (by decide) (by decide) (fun m e=>by cases e;rfl) B1;have B2:=sB 12 2 (by decide) A2;have A3:=sA 13 3 _ (by decide) (by decide) (fun m e=>by cases e;rfl) B2;have B3:=sB 14 3 (by decide) A3;have A4:=sA 15 4 _ (by decide) (by decide) (fun m e=>by cases e;rfl) B3;exact A4
theorem lO(D_first_face:ik P w K mg C)(D_need_depth:ig P w K mg)(D_Made:vp P w K mg C Ck Cd)(M_Made_count_at:fh P w K mg C Ck Cd):ff P w K mg C:=fun base=>dG X G T.f_how_many_made (fun S _ _ _ _ _ _ _ _ _ hr hu h=>bK (uJ (K:=K) c.dc h) (ae (bF (qf hr (D_need_depth base) (a1 (pv 1)))) (af (av (qm hr (M_Made_count_at base) (uR (D_Made base) (hr.mono (by decide)) rfl (a1 (pv 0))) (a2 (qf hr (D_first_face base) (a1 (pv 0))) (pv 1))))))) (by walk_at "b")
theorem ph(D_law_still_on:dX P w K mg):ij P w K mg:=fun base=>dG X G T.f_law_behind (fun S _ _ _ _ _ _ _ _ _ hr hu h=>bK (zJ h) (ae (lQ (pv 0) (hZ rfl (aT (gn 3 S) (aT (gn 4 S) (aT (gn 5 S) (aT (gn 6 S) fB)))))) (ae (ci (mM (lS hu) (pv 2) (aM (a1 bJ))) (ae (qs 7 S (qc (aF (pv 6)) (aP (by decide)) fun _ _ _ _ _ _=>⟨gc 0,eO (mM Av (xt (xt (pv 0) ag) ag) bJ),xt (pv 0) ag⟩)) (af (av (eB dh rfl z.tuple eV (a1 (qc (uP (pv 1)) (aP (by decide)) fun _ _ _ _ _ _=>⟨gc 0,eO (AL (jk hu) (pv 0) (pv 1)),pv 0⟩)))))) aV) (ae (qs 8 S (qf hr (D_law_still_on base) (a2 (pv 6) (qc (aF (pv 6)) (aP (by decide)) fun _ _ _ _ _ _=>⟨gc 0,eO (PW.pt (rC (AL (uT hu) (xt (pv 0) ag) (pv 1)) (rB (mM (lS hu) (xt (pv 0) ag) (pv 2))))),xt (pv 0) ag⟩)))) (af (av (eB dh rfl z.tuple eV (a1 (qc (aF (pv 5)) (aP (by decide)) fun _ _ _ _ _ _=>⟨gc 0,eO (AL (uT hu) (pv 0) (pv 1)),pv 0⟩))))))))) (by walk_at "b")
theorem q0(D_law_still_on:dX P w K mg):i_ P w K mg:=fun base=>dG X G T.f_law_begin (fun S _ _ _ _ _ _ _ _ _ hr hu h=>bK (xY h) (ae (qs 1 S (qf hr (D_law_still_on base) (a2 (xq (pv 0) ag) (bq (a1 (xq (xq (pv 0) ag) ag)))))) (af (av (eB dh rfl z.tuple eV (a1 (qc (aF (xq (pv 0) ag)) (aP (by decide)) fun _ _ _ _ _ _=>⟨gc 0,eO (AL (uT hu) (pv 0) (pv 1)),pv 0⟩))))))) (by walk_at "b")
theorem kF:eI P w K mg:=fun base=>dG X G T.f_law_part_signs (fun S _ _ _ _ _ _ _ _ _ hr hu h=>bK (xS h) (ae (qsc 2 S (aF (xq (pv 0) ag)) (aP (by decide)) fun _ _ _ _ _ _=>⟨gc 0,cj,aM (a2 bJ (pv 0))⟩) (ae (ci (du (yo (pv 1))) (af (av (az fZ (pv 2) (bq (a1 (aM (a1 bJ))))))) aV) (af (av (az fZ (bq (a1 (aM (a2 bJ (pv 1))))) (pv 2))))))) (by walk_at "b")
theorem rc(D_law_behind:ij P w K mg):gC P w K mg:=fun base=>dG X G T.f_law_after (fun S _ _ _ _ _ _ _ _ _ hr hu h=>bK (x8 h) (ae (ci (du (dE hu (aM (a2 (pv 2) (pv 3))) (pv 1))) (af (dQ hu (pv 1) (aM (a2 (pv 2) (pv 3))) (qf hr (D_law_behind base) (a3 (pv 0) (pv 2) (pv 3))) rfl)) aV) (af (av (h7 hu (pv 1) (aM (a2 (pv 2) (pv 3))) (fun _ _=>rfl)))))) (by walk_at "b")
theorem q_(D_law_after:gC P w K mg):ja P w K mg:=fun base=>dG X G T.f_law_asked (fun S _ _ _ _ _ _ _ _ _ hr hu h=>bK (xZ h) (af (av (qc (aF (xq (pv 0) ag)) (aP (by decide)) fun _ _ _ _ _ _=>⟨gc 0,eO (mM (yt hu) (qf hr (D_law_after base) (aW (pv 1) (a3 (pv 2) (pv 3) (aM (a2 bJ (pv 0)))))) (aM cR)),pv 0⟩)))) (by walk_at "b")
theorem qV:i7 P w K mg:=fun base=>dG X G T.f_law_times (fun S _ _ _ _ _ _ _ _ _ hr hu h=>bK (xP h) (ae (qs 1 S ag) (ae (bA bp rfl (aF (pv 0)) (gn 2 S) (af (qs 1 S (az vU (pv 1) (pv 2))))) (af (av (pv 1)))))) (by walk_at "b")
theorem qZ(D_law_part_signs:eI P w K mg)(D_law_after:gC P w K mg)(D_law_asked:ja P w K mg)(D_law_times:i7 P w K mg):i9 P w K mg:=fun base=>by
  have E0:gg P w K mg base "_law_sizes" ["told","known","face","ask","deep"] 4 AO:=by
   obtain⟨f,a,t⟩:=T.f_law_sizes;obtain⟨fd,F⟩:=t.fun_;exact⟨f,fd,Aw,dJ X G a,F.kp,F.binds (ps:=["told","known","face","ask","deep"]) (by walk_at "b")⟩
  have sA:∀(n D:Nat) (sp:Sp),4<=n->D<=4->(∀m,D=m+1->sp=(iN K m))->gg P w K mg base "_law_sizes" ["told","known","face","ask","deep"] n sp->gg P w K mg base "_law_count" ["told","known","face","deep"] (n+1) (hV K D):=fun n D sp hb hD hS Mr=>dG X G T.f_law_count (fun S _ _ _ _ _ _ _ _ _ hr hu h=>bK (zH hD hS h) (ae (ci (PW.pt (my (mM (lS hu) (pv 2) (aM cR)) (lP (mM k3 (pv 3) ag)))) (af (av ag)) aV) (ae (ci (du (dE hu (aM (a2 (pv 2) (pv 3))) (pv 1))) (ae (qs 4 S ag) (ae (bA bp rfl (aF (az fZ (qf (k0:=4) (hr.mono (aJ (by decide) hb)) (D_law_asked base) (a3 (pv 0) (pv 1) (pv 2))) (bq (a1 rE)))) (gn 5 S) (af (qs 4 S (az bW (pv 4) (qf (k0:=1) (hr.mono (aJ (by decide) hb)) (D_law_times base) (a1 (qf (hk:=ax _) hr Mr (aW (pv 0) (aW (pv 1) (a3 (pv 2) (pv 5) (pv 3))))))))))) (af (dQ hu (pv 1) (aM (a2 (pv 2) (pv 3))) (pv 4) rfl)))) aV) (af (av (h7 hu (pv 1) (aM (a2 (pv 2) (pv 3))) (fun _ _=>rfl))))))) (by walk_at "b");have sB:∀n D:Nat,4<=n->gg P w K mg base "_law_count" ["told","known","face","deep"] n (hV K D)->gg P w K mg base "_law_sizes" ["told","known","face","ask","deep"] (n+1) (iN K D):=fun n D hb Mr=>dG X G T.f_law_sizes (fun S _ _ _ _ _ _ _ _ _ hr hu h=>bK (xQ h) (ae (qs 5 S (bq cR)) (ae (bA bp rfl (aF (qf (k0:=1) (hr.mono (aJ (by decide) hb)) (D_law_part_signs base) (a2 (pv 0) (pv 3)))) (gn 6 S) (af (bF (iU gD iG iF cW (pv 5) (a1 (qf (hk:=ax _) hr Mr (aW (pv 0) (a3 (pv 1) (qf (k0:=3) (hr.mono (aJ (by decide) hb)) (D_law_after base) (aW (pv 0) (a3 (pv 1) (pv 2) (pv 6)))) (az yq (pv 4) ag))))))))) (af (av (pv 5)))))) (by walk_at "b");have A0:=sA 4 0 _ (by decide) (by decide) (fun m e=>by cases e) E0;have B0:=sB 5 0 (by decide) A0;have A1:=sA 6 1 _ (by decide) (by decide) (fun m e=>by cases e;rfl) B0;have B1:=sB 7 1 (by decide) A1;have A2:=sA 8 2 _ (by decide) (by decide) (fun m e=>by cases e;rfl) B1;have B2:=sB 9 2 (by decide) A2;have A3:=sA 10 3 _ (by decide) (by decide) (fun m e=>by cases e;rfl) B2;have B3:=sB 11 3 (by decide) A3;have A4:=sA 12 4 _ (by decide) (by decide) (fun m e=>by cases e;rfl) B3;exact A4
theorem qW(D_how_many_made:ff P w K mg C)(D_law_begin:i_ P w K mg)(D_law_count:i9 P w K mg):mK P w K mg C:=fun base=>dG X G T.f_law_right (fun S _ _ _ _ _ _ _ _ _ hr hu h=>bK (wF h) (ae (qs 4 S (qf hr (D_how_many_made base) (a2 (pv 1) (pv 2)))) (ae (qs 5 S (qf hr (D_law_count base) (aW (pv 0) (a3 (pv 3) (qf hr (D_law_begin base) (a1 (pv 0))) (pv 2))))) (af (av (rF (qB t4 z.isinstance t5 (a2 (pv 4) (wQ rfl z.int))) (rF (AX (qB t4 z.isinstance t5 (a2 (pv 4) (uQ rfl z.bool)))) (yk (BU k3 (pv 4) (pv 5)))))))))) (by walk_at "b")
end
theorem A7(X:K.In h)(G:h.Ns bm mg)(z:Zs mg)(c:Cs K mg C Ck Cd a_STILL a_HUSH)(T:Ts K C Ck Cd):∃f fd,mg "law"=some (.ref f)/\(∀(s:Shared) (v:Value),nI s fd ⟨[v],[]⟩ [("script",v)])/\∀base:Heap,i6 P w K mg base CX0 19 f fd ["script"] (sp_law41 K):=by
 have D_law_spread:ii P w K mg:=pf X G z c T;have D_law_open:o7 P w K mg:=sV X G z c T;have D_law_anew:kn P w K mg:=sW X G z c T;have D_law_take:ge P w K mg:=sU X G z c T D_law_spread;have D_law_names:i8 P w K mg:=qX X G z c T D_law_take;have D_law_put:mj P w K mg:=uz X G z c T;have D_law_draw_doors:eJ P w K mg:=kG X G z c T D_law_take D_law_put;have D_law_model:mL P w K mg:=qY X G z c T D_law_anew D_law_take D_law_names D_law_draw_doors;have D_is_name:ml P w K mg:=uA X G z c T;have D_as_keys:g9 P w K mg:=uB X G z c T;have D_first_wrong_name:dv P w K mg:=jw X G z c T D_is_name D_as_keys;have D_door_signs:im P w K mg:=pj X G z c T;have D_first_wrong_door:dw P w K mg:=jx X G z c T D_as_keys;have D_goals_by_start_and_sign:bS P w K mg:=fU X G z c T;have D_led_by_still:gb P w K mg:=mW X G z c T;have D_first_led_round:dY P w K mg:=jW X G z c T;have D_need_none:gB P w K mg:=qU X G z c T;have D_need_parts:ie P w K mg:=pd X G z c T D_first_wrong_name D_door_signs D_first_wrong_door D_need_none;have D_doors_by_start:eL P w K mg:=kI X G z c T;have D_has_asks_alone:eK P w K mg:=kH X G z c T;have D_Machine:mm P w K mg C:=uC X G z c T D_as_keys D_goals_by_start_and_sign D_led_by_still D_first_led_round D_need_none D_need_parts D_doors_by_start D_has_asks_alone;have D_law_machine:jJ P w K mg C:=og X G z c T D_Machine;have M_Machine_rooms:dt P w K mg C:=lM X G z c T;have M_Machine_led_from:dz P w K mg C:=ju X G z c T;have D_with_still:fG P w K mg C:=pc X G z c T M_Machine_rooms M_Machine_led_from
 have M_Machine_goals:fj P w K mg C:=lN X G z c T;have M_Machine_is_quiet:dA P w K mg C:=jv X G z c T;have D_law_still_on:dX P w K mg:=mY X G z c T;have M_Machine_asks:gf P w K mg C:=mV X G z c T;have M_Machine_says:dZ P w K mg C:=mU X G z c T;have D_first_face:ik P w K mg C:=pi X G z c T M_Machine_rooms D_with_still;have D_face_behind:gH P w K mg C:=oh X G z c T D_with_still M_Machine_goals M_Machine_is_quiet;have D_signs_in_order:eG P w K mg C a_HUSH:=kE X G z c T M_Machine_asks M_Machine_says;have D_steps_at:km P w K mg C:=sT X G z c T D_face_behind D_signs_in_order;have D_KnownSteps:io P w K mg Ck:=pk X G z c T;have M_KnownSteps_steps_from:cn P w K mg C Ck:=gE X G z c T D_steps_at;have D_need_depth:ig P w K mg:=pe X G z c T;have D_product:mi P w K mg:=uy X G z c T;have D_Made:vp P w K mg C Ck Cd:=zv X G z c T M_Machine_says D_KnownSteps;have M_Made_steps_from:cK P w K mg C Ck Cd:=jV X G z c T M_KnownSteps_steps_from
 have M_Made_kinds_at:fg P w K mg C Ck Cd:=lK X G z c T M_Made_steps_from
 have M_Made_count_at:fh P w K mg C Ck Cd:=lL X G z c T D_product M_Made_steps_from M_Made_kinds_at;have D_how_many_made:ff P w K mg C:=lO X G z c T D_first_face D_need_depth D_Made M_Made_count_at;have D_law_behind:ij P w K mg:=ph X G z c T D_law_still_on;have D_law_begin:i_ P w K mg:=q0 X G z c T D_law_still_on;have D_law_part_signs:eI P w K mg:=kF X G z c T;have D_law_after:gC P w K mg:=rc X G z c T D_law_behind;have D_law_asked:ja P w K mg:=q_ X G z c T D_law_after;have D_law_times:i7 P w K mg:=qV X G z c T;have D_law_count:i9 P w K mg:=qZ X G z c T D_law_part_signs D_law_after D_law_asked D_law_times;have D_law_right:mK P w K mg C:=qW X G z c T D_how_many_made D_law_begin D_law_count;obtain⟨f,a,t⟩:=T.f_law41;obtain⟨oc,od,an,sl,kV,dc,pm,cd,ct,l,c1,k1⟩:=t;have F:=yO (st:=(ef 59)) l c1 k1;have sc:ic wo yh (bg (ef 59)):=by walk_at "s"
 have S:=sc.nd;exact⟨f,_,dJ X G a,fun s v=>.of_eq rfl,fun base=>F.ok (k:=18) sc (by walk_at "l") (fun _ _ _ _ _ _ _ _ hr h=>by have hu:=v6 hr;exact bK (xU (C:=C) h) (ae (qs 1 S (qf hr (D_law_open base) (a1 (pv 0)))) (ae (qs 2 S (bq cR)) (ae (bA bp rfl (gW rfl z.range (a1 ag)) (gn 3 S) (ae (qs 4 S (qf hr (D_law_model base) (a3 (pv 1) ag (qf hr (D_law_take base) (a2 (pv 1) ag))))) (af (bF (iU gD iG iF cW (pv 2) (a1 (aM (a2 (pv 4) (qf hr (D_law_machine base) (a1 (pv 4))))))))))) (ae (bA bp rfl (aF (az fZ (pv 2) (cQ gu (pv 2) fA (cV ag)))) (hZ rfl (aT (gn 4 S) (aT (gn 5 S) fB))) (ae (qs 6 S gX) (af (bA bp rfl (aF (bq (aW ag (aW ag (a3 ag ag ag))))) (gn 7 S) (af (ci (yg (rD (qf hr (D_law_right base) (aW (pv 4) (a3 (pv 5) (pv 7) (pv 6)))))) (af (av mz)) aV)))))) (af (av mz)))))))⟩
theorem all_mk{l:PySem.W.OpenLaw}{fa:Addr}{u_LETTERS:Value}{u_LONGEST_NAME:Value}{u_MOST_WORDS:Value}{u_MOST_ROOMS:Value}{u_MOST_DOORS:Value}{u_DEEPEST:Value}{o_STILL:Obj}{i_STILL:Array Value}{n_STILL:Nat}{o_HUSH:Obj}{i_HUSH:Array Value}{n_HUSH:Nat}(X:K.In h)(G:h.Ns bm mg)(hfa:mg "law"=some (.ref fa))
  (aC:bM K bm "Machine"=some (some (.ref C)))
  (pg:nJ K C vy=true)
  (hd:pM K C=true)
  (po:sC K C=true)
  (sa:bX K (.ref C) "__setattr__"=some (some (.builtin "object.__setattr__")))
  (mk:ky K C=true)
  (kc:eP K (.ref C)=true)
  (na1:bX K (.ref C) "own_asks"=some none)
  (na2:bX K (.ref C) "own_says"=some none)
  (na3:bX K (.ref C) "own_rooms"=some none)
  (na4:bX K (.ref C) "own_doors"=some none)
  (na5:bX K (.ref C) "leaving"=some none)
  (na6:bX K (.ref C) "quiet"=some none)
  (na7:bX K (.ref C) "sign_goals"=some none)
  (na8:bX K (.ref C) "still_led"=some none)
  (aksc:bM K bm "KnownSteps"=some (some (.ref Ck)))
  (pgksc:nJ K Ck vy=true)
  (hdksc:pM K Ck=true)
  (poksc:sC K Ck=true)
  (saksc:bX K (.ref Ck) "__setattr__"=some (some (.builtin "object.__setattr__")))
  (mkksc:ky K Ck=true)
  (kcksc:eP K (.ref Ck)=true)
  (nksc1:bX K (.ref Ck) "machine"=some none)
  (nksc2:bX K (.ref Ck) "known"=some none)
  (adc:bM K bm "Made"=some (some (.ref Cd)))
  (pgdc:nJ K Cd vy=true)
  (hddc:pM K Cd=true)
  (podc:sC K Cd=true)
  (sadc:bX K (.ref Cd) "__setattr__"=some (some (.builtin "object.__setattr__")))
  (mkdc:ky K Cd=true)
  (kcdc:eP K (.ref Cd)=true)
  (ndc1:bX K (.ref Cd) "says_signs"=some none)
  (ndc2:bX K (.ref Cd) "known_steps"=some none)
  (ndc3:bX K (.ref Cd) "known_counts"=some none)
  (z_all:bM K bm "all"=some none)
  (z_bool:bM K bm "bool"=some none)
  (z_dict:bM K bm "dict"=some none)
  (z_enumerate:bM K bm "enumerate"=some none)
  (z_int:bM K bm "int"=some none)
  (z_isinstance:bM K bm "isinstance"=some none)
  (z_len:bM K bm "len"=some none)
  (z_list:bM K bm "list"=some none)
  (z_range:bM K bm "range"=some none)
  (z_sum:bM K bm "sum"=some none)
  (z_tuple:bM K bm "tuple"=some none)
  (g_LETTERS:bM K bm "LETTERS"=some (some u_LETTERS))
  (r_LETTERS:RelV (.str "abcdefghijklmnopqrstuvwxyz") u_LETTERS)
  (g_LONGEST_NAME:bM K bm "LONGEST_NAME"=some (some u_LONGEST_NAME))
  (r_LONGEST_NAME:RelV (.int 8) u_LONGEST_NAME)
  (g_MOST_WORDS:bM K bm "MOST_WORDS"=some (some u_MOST_WORDS))
  (r_MOST_WORDS:RelV (.int 4) u_MOST_WORDS)
  (g_MOST_ROOMS:bM K bm "MOST_ROOMS"=some (some u_MOST_ROOMS))
  (r_MOST_ROOMS:RelV (.int 150) u_MOST_ROOMS)
  (g_MOST_DOORS:bM K bm "MOST_DOORS"=some (some u_MOST_DOORS))
  (r_MOST_DOORS:RelV (.int 2000) u_MOST_DOORS)
  (g_DEEPEST:bM K bm "DEEPEST"=some (some u_DEEPEST))
  (r_DEEPEST:RelV (.int 4) u_DEEPEST)
  (g_STILL:bM K bm "STILL"=some (some (.ref a_STILL)))
  (l_STILL:K.lookup a_STILL=some o_STILL)
  (c_STILL:o_STILL.cls=.type "tuple")
  (d_STILL:o_STILL.data=.seq i_STILL n_STILL)
  (s_STILL:i_STILL.size<=aj)
  (v_STILL:aI (aG.map V.str) i_STILL.toList)
  (g_HUSH:bM K bm "HUSH"=some (some (.ref a_HUSH)))
  (l_HUSH:K.lookup a_HUSH=some o_HUSH)
  (c_HUSH:o_HUSH.cls=.type "tuple")
  (d_HUSH:o_HUSH.data=.seq i_HUSH n_HUSH)
  (s_HUSH:i_HUSH.size<=aj)
  (v_HUSH:aI (bv.map V.str) i_HUSH.toList)
  (T:Ts K C Ck Cd)
 :∃fd:ip,(∀(s:Shared) (v:Value),nI s fd ⟨[v],[]⟩ [("script",v)])/\∀base:Heap,K.In base->base.Ns bm mg->i6 l.prog w K mg base CX0 19 fa fd ["script"] (sp_law41 K):=by
 have z:Zs mg:=⟨fL X G z_all,fL X G z_bool,fL X G z_dict,fL X G z_enumerate,fL X G z_int,fL X G z_isinstance,fL X G z_len,fL X G z_list,fL X G z_range,fL X G z_sum,fL X G z_tuple⟩;have c:Cs K mg C Ck Cd a_STILL a_HUSH:=⟨⟨_,dJ X G g_LETTERS,r_LETTERS⟩,⟨_,dJ X G g_LONGEST_NAME,r_LONGEST_NAME⟩,⟨_,dJ X G g_MOST_WORDS,r_MOST_WORDS⟩,⟨_,dJ X G g_MOST_ROOMS,r_MOST_ROOMS⟩,⟨_,dJ X G g_MOST_DOORS,r_MOST_DOORS⟩,⟨_,dJ X G g_DEEPEST,r_DEEPEST⟩,⟨_,dJ X G g_STILL,rfl⟩,⟨_,dJ X G g_HUSH,rfl⟩,vG l_STILL c_STILL d_STILL s_STILL v_STILL,vG l_HUSH c_HUSH d_HUSH s_HUSH v_HUSH,⟨⟨pg,hd,po,sa⟩,na1,na2,na3,na4,na5,na6,na7,na8⟩,dJ X G aC,mk,kc,⟨⟨pgksc,hdksc,poksc,saksc⟩,nksc1,nksc2⟩,dJ X G aksc,mkksc,kcksc,⟨⟨pgdc,hddc,podc,sadc⟩,ndc1,ndc2,ndc3⟩,dJ X G adc,mkdc,kcdc⟩;obtain⟨f,fd,e,b,k⟩:=A7 (P:=l.prog) (w:=w) X G z c T;have e0:=hfa.symm.trans e;cases e0;exact⟨fd,b,fun base _ _=>k base⟩
end
end Mum
namespace PySem.W.Fast
def tw6057302573455659089:=0
def tw8164745122763835504:=0
def tw1138519566580769532:=0
def tw13064070679909287432:=0
def tw3650589415016088853:=0
def tw2288112975233816925:=0
def tw4964171476467520358:=0
def tw9529515610094603316:=0
def tw18062330778356169407:=0
def tw6357528546145755105:=0
def tw9191549106044048000:=0
def tw16907713775142631126:=0
def tw8912115304300940224:=0
def tw7986404114082827863:=0
def tw7553248941331146000:=0
def tw8528342068748973282:=0
def tw16396951794608194837:=0
def tw15692772876603368867:=0
def tw12907032863259706960:=0
def tw5570060427190064978:=0
def tw15217595658669820327:=0
def tw8341351187095645972:=0
def tw14017799803848178282:=0
def tw14839068257553871062:=0
def tw14722851447212680828:=0
def tw14211474336118083302:=0
def tw12776863056582680424:=0
def tw10030068573927566638:=0
def tw1971563226697174523:=0
def tw14389954652331638286:=0
def tw4485511171817859006:=0
def tw3424023710355038174:=0
def tw12827994849826735314:=0
def tw17262825746556033637:=0
def tw7411287828528793926:=0
def tw17569964572653840458:=0
def tw7185195408161971620:=0
def tw13727364014251490786:=0
def tw13600738417526737916:=0
def tw17409779682021347361:=0
def tw15150487406130547309:=0
def tw3179916190406092325:=0
def tw7236064971848480187:=0
def tw8779551673988435099:=0
def tw6775521449163018222:=0
def tw9902751423373973095:=0
def tw7255625010114142557:=0
def tw5974266283220334659:=0
def tw200355704829746599:=0
def tw16904265502339389040:=0
def tw2058052167079650274:=0
def tw10378948854220778397:=0
def tw4118347817744650084:=0
def tw10548194451461588850:=0
def tw16653192148901035980:=0
def tw17334222677149911651:=0
def tw15245007694223425098:=0
def tw13276873528906031158:=0
def tw8198261814510502772:=0
def tw10970486431588990648:=0
def tw302276311722042246:=0
def tw17907892225551964533:=0
def tw1783273380312765784:=0
def tw9755758162590123575:=0
def tw2782037136479887998:=0
def tw10699990964390035609:=0
def tw9104362627442269286:=0
def tw8007140359906514855:=0
def tw8948619851946445741:=0
def tw3127619305233813240:=0
def tw9343145280416383790:=0
def tw7557776616707181275:=0
def tw883900153276524963:=0
def tw13804468027378774212:=0
def tw16705214319398625040:=0
def tw5089325175083411135:=0
def tw7103578569288143012:=0
def tw9086648158378725984:=0
def tw773621015088596372:=0
def tw12525029771644231584:=0
def tw15244180320156191590:=0
def tw17802513199395707088:=0
def tw8203678693249813763:=0
def tw14711709720697799040:=0
def tw3872070299753892683:=0
def tw10347190309269472819:=0
def tw7200474319572944564:=0
def tw18297029582692955822:=0
def tw14929688148284105422:=0
def tw7128818660082005319:=0
def tw17166929638434028072:=0
def tw120564299533851397:=0
def tw11767956039727308631:=0
def tw5435039635738929324:=0
def tw14632614802040896599:=0
def tw4785960539363192494:=0
def tw17129490272718587990:=0
def tw2768623047465255924:=0
def tw13699141814328070648:=0
def tw1320906852218373762:=0
def tw6147133201564629023:=0
def tw15630759618996228179:=0
def tw15272339232389244293:=0
def tw237929005493161252:=0
def tw5312729070829101829:=0
def tw12067187546025333197:=0
def tw17051655106706513148:=0
def tw16070897873423141693:=0
def tw2381243445446347688:=0
def tw14474510154497837342:=0
def tw11318073858734256389:=0
def tw16426144977193921102:=0
def tw13738751898910035537:=0
def tw14328437057495667020:=0
def tw8254452202176214156:=0
def tw16212124265617490371:=0
def tw16577049297876683697:=0
def tw13770752001872369134:=0
def tw16516489459479857768:=0
def tw6379525100183934977:=0
def tw10218219036335324928:=0
def tw17632671719404619463:=0
def tw8050793365560983817:=0
def tw104796165159164014:=0
def tw17472184354269727691:=0
def tw16968448756733935725:=0
def tw5422507614250717155:=0
def tw16827443149993371120:=0
def tw17098579894490855008:=0
def tw16096938185647530471:=0
def tw14967684894635772955:=0
def tw17876720661963325143:=0
def tw17385459581903493147:=0
def tw18207982055295571467:=0
def tw13748498681412791932:=0
def tw900800228838014447:=0
def tw13197666465480888372:=0
def tw16593763080692566290:=0
def tw6029067778869482408:=0
def tw9807384770415084818:=0
def tw6120520712288911384:=0
def tw4604084502308068726:=0
def tw18073040118559908478:=0
def tw8004658930886250972:=0
def tw3428036387947048311:=0
def tw11438591643812932915:=0
def tw7590016178449334549:=0
def tw6389040449161880692:=0
def tw10054932737174728201:=0
def tw11290706674211617183:=0
def tw1135044509425416926:=0
def tw18103120535665332720:=0
def tw13510320470677160060:=0
def tw4904593185916240630:=0
def tw1866684772070873007:=0
def tw10119763321522160931:=0
def tw9955788653478877529:=0
def tw6307923934817403835:=0
def tw8138207163485595829:=0
def tw11202132707529382048:=0
def tw4475566246091199172:=0
def tw16363738633053843556:=0
def tw15135192756035918407:=0
def tw985867396197731111:=0
def tw17113172585349451715:=0
def tw14347685254908883597:=0
def tw18288545532592607296:=0
def tw1037672203934903219:=0
def tw10567390938227777677:=0
def tw1059699105450545040:=0
def tw6874907956105655880:=0
def tw15362207017141092108:=0
def tw16766861574417111890:=0
def tw329994880045450082:=0
def tw10421634738170542828:=0
def tw657380243987784243:=0
def tw2081063080358910594:=0
def tw4613926219800653491:=0
def tw6063449772839705572:=0
def tw3672453948674362895:=0
def tw3658865129612082556:=0
def tw16779137295588768208:=0
def tw8495128655100160003:=0
def tw15315765760975022109:=0
def tw356073363717078653:=0
def tw15682986630171232989:=0
def tw13694488538141318553:=0
def tw425733455244383624:=0
def tw8601170310106784560:=0
def tw8144077273423990921:=0
def tw689920917877561019:=0
def tw16574924255114488976:=0
def tw16875599578484476804:=0
def tw14996572251849487155:=0
def tw6309580254068531443:=0
def tw1424124200524712473:=0
def tw5638864756938172817:=0
def tw10605972401956613285:=0
def tw12450584449928885654:=0
def tw10463215215736147402:=0
def tw12232911491280786437:=0
def tw10148313723668822232:=0
def tw16570277091960031052:=0
def tw17590608045907954873:=0
def tw18120739010765983619:=0
def tw13097150740363946290:=0
def tw18075516630198742245:=0
def tw13100853588189698510:=0
def tw1270984654758042071:=0
def tw7465378790213186263:=0
def tw15491113566866603324:=0
def tw13203651043583784821:=0
def tw16325294219945903146:=0
def tw5553471085122723193:=0
def tw7477612485247789772:=0
def tw3460793255897868309:=0
def tw5456357504462972376:=0
def tw2725555150102214471:=0
def tw7945463939412653547:=0
def tw8878791394170484705:=0
def tw3668629169408823749:=0
def tw16535529151968812799:=0
def tw15636047121815909770:=0
def tw6638426809741582098:=0
def tw9820804913979627555:=0
def tw4931797882668871250:=0
def tw10915298395886469397:=0
def tw14054612159618882186:=0
def tw1312429092630222308:=0
def tw8626808917308148829:=0
def tw1236243798648501837:=0
def tw18398410417202971522:=0
def tw7545751741381217585:=0
def tw15427683723902154439:=0
def tw11938392897728022136:=0
def tw1460163899774740331:=0
def tw9947342962629959650:=0
def tw306734168562443495:=0
def tw8481843374915878923:=0
def tw12916488375889394064:=0
def tw17951031511089486411:=0
def tw11627171959258219694:=0
def tw12797921008561002169:=0
def tw5718238419050182565:=0
def tw12650108596173669162:=0
def tw11026538542768400309:=0
def tw4809859968968838468:=0
def tw7285372415105173771:=0
def tw9013235724231140278:=0
def tw6301560437975516833:=0
def tw15341732574336315907:=0
def tw16680886271209516950:=0
def tw6116319503331702272:=0
def tw5702571966441962343:=0
def tw6695088849225196915:=0
def tw8533780912682414264:=0
def tw6458591032781972369:=0
def tw11396410976369816021:=0
def tw11456250217271256935:=0
def tw18112560653256431370:=0
def tw14372141739378612694:=0
def tw6587927507977166514:=0
def tw8503936536889125512:=0
def tw9343281445191597139:=0
def tw740555527189976804:=0
def tw3068081497222202974:=0
def tw8455817157868343033:=0
def tw14538787195637526004:=0
def tw3863039879960508468:=0
def tw4112106314131196996:=0
def tw18239091958928615581:=0
def tw3553722116774496088:=0
def tw6833736673317584401:=0
def tw9910169527406152638:=0
def tw4725949164053853924:=0
def tw13861323345788814076:=0
def tw4601738585890572105:=0
def tw11712328508325946120:=0
def tw12639943935999239621:=0
def tw12262474495990863219:=0
def tw16872779379606577601:=0
def tw7101544975112208569:=0
def tw3373469703095252780:=0
def tw4146044011418913402:=0
def tw8296813496944382533:=0
def tw1614386379842268792:=0
def tw13619824552662198771:=0
def tw11900559103667093068:=0
def tw10185498892338905388:=0
def tw4616046939016892662:=0
def tw9812232806302688500:=0
def tw4491105053844963350:=0
def tw10950901755178322004:=0
def tw9828982892002388170:=0
def tw13472474063159906981:=0
def tw7335599674157260140:=0
def tw13894294970209375082:=0
def tw9714153246792163754:=0
def tw11236474764628945597:=0
def tw1847639205885232869:=0
def tw14819882486294345230:=0
def tw901170381475806088:=0
def tw17154159592739237341:=0
def tw7804531919363271280:=0
def tw5004766231799891898:=0
def tw10544337253028358065:=0
def tw12678085152972238725:=0
def tw7872167635483096082:=0
def tw16898809782475234259:=0
def tw8677521580114501082:=0
def tw14521296936650670807:=0
def tw1017382368401091301:=0
def tw10762977470981223745:=0
def tw2253405762672153957:=0
def tw7771800486378506592:=0
def tw17788341667441765188:=0
def tw3799802305130243830:=0
def tw772649752893884012:=0
def tw15109269895950856307:=0
def tw17858290180014854301:=0
def tw10275777041246780127:=0
def tw16641746085707824454:=0
def tw11555290326408515693:=0
def tw5183564910869629692:=0
def tw3454966152089040142:=0
def tw10965656267779594047:=0
def tw17052498112479743132:=0
def tw11207690220195891307:=0
def tw8145270689363050255:=0
def tw4711150484699191024:=0
def tw12370033923951666429:=0
def tw6827077608929060481:=0
def tw2166980060940682094:=0
def tw15623580532095876531:=0
def tw3485294232077256917:=0
def tw3205348548851035552:=0
def tw5861616959343641644:=0
def tw1086817667421582214:=0
def tw16386369328129488226:=0
def tw14310142973318685297:=0
def tw14062533734277489550:=0
def tw8424937414322528921:=0
def tw5657550092219078381:=0
def tw11076754612706111650:=0
def tw7531224738068179483:=0
def tw13444574037877041929:=0
def tw10269313255822052061:=0
def tw8038949261531143242:=0
def tw1679046502762908825:=0
def tw12192491480707412557:=0
def tw9841133719529984722:=0
def tw1253849790541067101:=0
def tw3867156943349755998:=0
def tw5143679814704075218:=0
def tw13450597219552517027:=0
def tw5077670116274962747:=0
def tw4208819762113850557:=0
def tw11227214077225370903:=0
def tw3057933245500049528:=0
def tw12974875503452726139:=0
def tw8975536748186414067:=0
def tw15314110440869756723:=0
def tw8910146398477119664:=0
def tw14137458938165272798:=0
def tw12955665732813149433:=0
def tw12465087107411182337:=0
def tw3086604851860220820:=0
def tw8548602926840772286:=0
def tw2892222291952016077:=0
def tw12906463793308243567:=0
def tw9906920435464336243:=0
def tw13596127866860973284:=0
def tw2818569028815495168:=0
def tw3675583396774019685:=0
def tw15533235859456806191:=0
def tw11137756227060139935:=0
def tw1083611374741301379:=0
def tw11082156106336951301:=0
def tw13144338247177607071:=0
def tw1597779544238747892:=0
def tw484525063468669561:=0
def tw4851392188139351309:=0
def tw4343308525841115556:=0
def tw5384140196425586567:=0
def tw11514921378620650388:=0
end PySem.W.Fast
open PySem PySem.W PyProof.Rows
set_option maxRecDepth 100000 in
set_option maxHeartbeats 0 in
theorem PySem.Challenge.cw_mumtrial_k41_made_counted_holds : PySem.Challenge.rw_mumtrial_k41_made_counted.Holds := by
 w_on;o_law;k_head;(case hw=>w_witness2)
 k_fill
 refine L2.walk_ofK (l:=PySem.Challenge.rw_mumtrial_k41_made_counted) (n:=63) (k:=19) (x:="script") (CX:=L2.CX0) (sp:=Mum.sp_law41) rfl (by decide) rfl ⟨rfl,by decide,by decide⟩ (fun w h Y=>PySem.W.kIn_of Y) ?F (fun _ _ a ns hl _ hS=>⟨a,ns,rfl,hS,hl,fun _=>rfl⟩) (fun _ _ _ _ z=>z)
 case F =>
  intro w mg fa h KX G hmg;refine' Mum.all_mk KX G hmg ?aC ?pg ?hd ?po ?sa ?mk ?kc ?na1 ?na2 ?na3 ?na4 ?na5 ?na6 ?na7 ?na8 ?aksc ?pgksc ?hdksc ?poksc ?saksc ?mkksc ?kcksc ?nksc1 ?nksc2 ?adc ?pgdc ?hddc ?podc ?sadc ?mkdc ?kcdc ?ndc1 ?ndc2 ?ndc3 ?z_all ?z_bool ?z_dict ?z_enumerate ?z_int ?z_isinstance ?z_len ?z_list ?z_range ?z_sum ?z_tuple ?g_LETTERS ?r_LETTERS ?g_LONGEST_NAME ?r_LONGEST_NAME ?g_MOST_WORDS ?r_MOST_WORDS ?g_MOST_ROOMS ?r_MOST_ROOMS ?g_MOST_DOORS ?r_MOST_DOORS ?g_DEEPEST ?r_DEEPEST ?g_STILL ?l_STILL ?c_STILL ?d_STILL ?s_STILL ?v_STILL ?g_HUSH ?l_HUSH ?c_HUSH ?d_HUSH ?s_HUSH ?v_HUSH ?T
  (case aC|pg|hd|po|sa|mk|kc|na1|na2|na3|na4|na5|na6|na7|na8|aksc|pgksc|hdksc|poksc|saksc|mkksc|kcksc|nksc1|nksc2|adc|pgdc|hddc|podc|sadc|mkdc|kcdc|ndc1|ndc2|ndc3|z_all|z_bool|z_dict|z_enumerate|z_int|z_isinstance|z_len|z_list|z_range|z_sum|z_tuple|g_LETTERS=>k_is)
  (case r_LETTERS=>exact⟨_,rfl⟩)
  (case g_LONGEST_NAME=>k_is)
  (case r_LONGEST_NAME=>exact⟨_,rfl⟩)
  (case g_MOST_WORDS=>k_is)
  (case r_MOST_WORDS=>exact⟨_,rfl⟩)
  (case g_MOST_ROOMS=>k_is)
  (case r_MOST_ROOMS=>exact⟨_,rfl⟩)
  (case g_MOST_DOORS=>k_is)
  (case r_MOST_DOORS=>exact⟨_,rfl⟩)
  (case g_DEEPEST=>k_is)
  (case r_DEEPEST=>exact⟨_,rfl⟩)
  (case g_STILL|l_STILL=>k_is)
  (case c_STILL|d_STILL=>rfl)
  (case s_STILL=>decide)
  (case v_STILL=>exact .cons ⟨_,rfl⟩ .nil)
  (case g_HUSH|l_HUSH=>k_is)
  (case c_HUSH|d_HUSH=>rfl)
  (case s_HUSH=>decide)
  (case v_HUSH=>exact .cons ⟨_,rfl⟩ .nil)
  (case T=>constructor<;>first|(refine' Mum.fnG_mk ?a ?l ?c ?k;(case a=>k_is);(case l=>k_is);(case c=>k_is);(case k=>k_is))|(refine' Mum.fnM_mk ?a ?i ?l ?c ?k;(case a=>k_is);(case i=>k_is);(case l=>k_is);(case c=>k_is);(case k=>k_is)))
