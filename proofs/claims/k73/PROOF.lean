
import PyProof.Rows.All
import Wide.All
import OpenK.AllK
import Wide.FinOn
import Lean
import PyProof.EqAt
import PyProof.EqKinds
import PyProof.TupleCall
import PyProof.NeKinds
import PyProof.RaisesMany
import PyProof.RulesAs
import PyProof.NsDelKeeps
import PyProof.InstStoreFacts
import PyProof.ExcClass3
import PyProof.ExcInit
import KE.KTryMore
import PyProof.AutoSeq1
import PyProof.WalkInts
import PyProof.DictIter
import PyProof.DictWalks
import PyProof.DictItems
import PyProof.DictItemsLoops
import KE.KPairComp
import PyProof.DictValues
import PyProof.SumAny
import PyProof.Rows.SumAny
import PyProof.Rows.RuleDivmod
import KE.KRevIter
import PyProof.TupleOfGen
import KE.KDictSum
import KE.KMinKey
import PyProof.Rows.CallKwBuiltin
import KE.IntBitsLaws
import PySem.Challenge.RW_mumtrial_k73_stories_of_hidden
noncomputable section
open PySem renaming Program->bD,reduceHash->Cf,wpAny_mono->mV,wpAny_bind->am,wpAny_specialOf->DZ,wpAny_call_entry->uJ,wpAny_pure->aV,wpAny_rule->pf,Builtin->cO,wpAny_isInstance->Ac,wpAny_holding->pe,wpAny_truthy_bool->qq,wpAny_seqItems->lC,sizeLine->aj,sysModules->g0,mainGlobals->bM,bootBuiltins->iL,starEach->aI,compareOp->dO,behindInMarks->jV,standAt->pb,holding->j6,wpAny_execs_nil->Aa,swapsWith->qj,assignEach->tW,wpAny_passesOwn->qh,letOwnedTupleGo->z_,wpAny_pyIter_list->z9,wpAny_pyIter_tuple->z8,foldedSetIterable->wv,binaryOp->o_,sizeLine_eq->j5,getMethod->o9,codeAny->zzl75,attributeBase->wo,FuncData->j3,BindsTo->tU,codeAny_mono->zX,wpAny_Call_Name_kw->zW,callWith->tT,backToKw->o7,keywordEach->o6,NameKind->je,mem_of_lookup->wn,getItem->lY,subscripted->u9,sliceBounds->lX,call_meets->qK,valueAt->lV,callerA->lU,wpAny_newObj_type->n_,ZipApart->n8,wpAny_pyIter_zip->u2,wpAny_callSpecial?_slot->n6,wpAny_field->gP,wpAny_setField->uZ,firstArgMember->uX,wpAny_setField_rec->nZ,wpAny_onRaise->uV,wpAny_attempt->uU,wpAny_dictEntries->uQ,DictEntry->i5,wpAny_typeNameOfWhole_keyiter->uO,wpAny_typeNameOf_keyiter->uN
open PySem.Builtin.Tuple renaming tupleHashOf->xX
open Bool renaming false_ne_true->gL,not_true->Ab,false_eq_true->qD,eq_iff_iff->tV,and_eq_true->fZ,true_and->qp
open Nat renaming add_assoc->DY,le_refl->aN,lt_of_lt_of_le->ie,lt_irrefl->pc,ne_of_lt->cY,le_trans->bp,le_of_lt->fj,ne_of_gt->gZ,zero_le->c9,lt_succ_self->zZ,lt_of_le_of_lt->og,mod_lt->qt,sub_self->qr
open List renaming append_nil->cP,range->mU,mem_filter->bA,mem_cons_self->dP,mem_cons_of_mem->eQ,mem_cons->du,mem_append->bg,mem_append_left->cJ,getElem?_eq_some_iff->cE,mem_append_right->dC,length_cons->gA,lookup->j4,map_cons->bx,length_map->ak,nodup_cons->mQ,replicate->qg,length_take->bm,getElem?_append_right->l5,getElem?_append_left->qN,getElem?_map->eG,mem_of_getElem?->cV,length_append->aD,length_drop->ii,size_toArray->bX,reverse_cons->oj,find?_cons->gR,any_cons->oh,length_nil->u7,nodup_nil->jB,lookup_cons->gQ,forIn_cons->qG,all_eq_true->qF,mem_map->aK,not_mem_nil->qE,any_toArray->uS,map_congr_left->qC,drop_zero->qz,take_length->bd,getElem?_eq_getElem->nY,mem_singleton->dY,map_append->ar,nodup_append->cG,drop_of_length_le->uP,drop_eq_getElem_cons->qw,mem_of_mem_take->fy,append_assoc->dw,map_map->nV,mem_map_of_mem->i4,foldl_append->nU,take_zero->uM,length_filter_le->cF,filter_append->lS,filter_cons->lR,dropLast_concat->uL
open Option.some renaming inj->eR
open PySem.W renaming instObj->pd,lookIn->z6,plainGet->wu,hasDictIn->z0,findIn->eP,isFn->wt,makesIn->wq,emptyDict->mR,keepIn->jg,kitOne->zY,kia_one->jf,fnOf->ij,codeIn->lZ,nsIn->bT,mg_of->ig,mg_none_of->gM
open PySem.Heap renaming lt_size->ba,SameBut->iK,get?_push_of_some->bu,get?_push_size->c_,size_push->o8,get?_update_self->u8
open PyProof.Rows renaming AllBare->mT,callWith_type1->z7,IntsAre->qH,boot_all->uK
open Ne renaming symm->ic
open Array renaming length_toList->mS,getElem?_toList->qJ
open False renaming elim->jh
open True renaming intro->iJ
open Option renaming isSome_iff_exists->zV,map_some->qI
open Int renaming toNat_natCast->j_,emod_nonneg->nX,emod_lt_of_pos->nW,eq_ofNat_of_zero_le->j7
open PySem.Obj renaming mapSeq->qM,data_mapFields->uY
open PySem.Paired renaming snoc->eX
open ForInStep renaming yield->u6
open PySem.NameKind renaming free->j9
open PySem.Builtin.SmallTypes renaming nextOf->j8,ownedTupleIsFree->uW
open PySem.Str renaming ofString->n5
open PySem.F renaming slot_tuple_iterator_next->u1,slot_zip_next->uT,slot_dict_keyiterator_next->qv,plainAttrs_list->da,slot_list_append->fX,type_list_append->fW,slot_list_pop->qo,type_list_pop->qk
open PySem.Heap.SameBut renaming update->lT
open PySem.SeqAt renaming EqAt->bh
open PySem.Builtin.Str renaming strSliceIndices->qA
open PySem.Txt renaming join->uR
open Prod renaming fst->nT
open PySem.PassesOwn renaming never->bj
theorem Q0:0<=PySem.sizeLine:=by decide
theorem Q1:1<=PySem.sizeLine:=by decide
theorem Q2:2<=PySem.sizeLine:=by decide
theorem Q3:3<=PySem.sizeLine:=by decide
theorem Q4:4<=PySem.sizeLine:=by decide
theorem Q6:6<=PySem.sizeLine:=by decide
theorem zzr0{p:Prop}[Decidable p](h:¬p):decide p=false:=decide_eq_false h
theorem zzr1{p:Prop}[Decidable p](h:p):decide p=true:=decide_eq_true h
abbrev Za:=PySem.W.Frag
abbrev Zb:=List PySem.Str
abbrev Zc:=PySem.Value->PySem.Shared->Prop
abbrev Zd:=List (PySem.Addr×PySem.Obj)
abbrev Ze:=List PySem.Addr
abbrev Zf:=List PySem.Value
section
set_option Elab.async false
set_option linter.all false
set_option maxRecDepth 100000
set_option maxHeartbeats 4000000
namespace L2
open PySem PySem.Spec PyProof.Rows
open Sem (wp)
abbrev ca:=Sum Int Str
def cS:ca->Value->Bool
 |.inl k,v=>Value.isInt k v
 |.inr x,v=>Value.isStrOf x v
def GF(w:World):ca->Int
 |.inl k=>hashInt k
 |.inr x=>hashStr w x
theorem aw:∀{k:ca}{v:Value},cS k v=true->(∃i t,k=Sum.inl i/\v=Value.int i t)∨(∃x t,k=Sum.inr x/\v=Value.str x t)
 |.inl i,v,h=>by
  obtain⟨t,e⟩:=Value.isInt_shape (k:=i) (v:=v) h;exact .inl ⟨i,t,rfl,e⟩
 |.inr x,v,h=>by
  obtain⟨t,e⟩:=Value.isStrOf_shape (x:=x) (v:=v) h;exact .inr ⟨x,t,rfl,e⟩
theorem kU(i:Int)(t:Tok):cS (.inl i) (.int i t)=true:=by simp[cS,Value.isInt]
theorem kT(x:Str)(t:Tok):cS (.inr x) (.str x t)=true:=by simp[cS,Value.isStrOf]
theorem vQ(a b:Int):decide ((Sum.inl a:ca)=Sum.inl b)=(a==b):=by
 by_cases e:a=b
 ·subst e;simp
 ·have h:¬(Sum.inl a:ca)=Sum.inl b:=fun q=>e (Sum.inl.inj q);rw[zzr0 h];exact(beq_eq_false_iff_ne.mpr e).symm
theorem vN(a b:Str):decide ((Sum.inr a:ca)=Sum.inr b)=decide (a=b):=by
 by_cases e:a=b
 ·subst e;simp
 ·have h:¬(Sum.inr a:ca)=Sum.inr b:=fun q=>e (Sum.inr.inj q);rw[zzr0 h,zzr0 e]
theorem vP(a:Int)(b:Str):decide ((Sum.inl a:ca)=Sum.inr b)=false:=zzr0 (fun q=>nomatch q)
theorem vO(a:Str)(b:Int):decide ((Sum.inr a:ca)=Sum.inl b)=false:=zzr0 (fun q=>nomatch q)
def bU(prog:bD)(w:World):PySem.KeyKind prog w ca where
 is:=cS
 hash:=GF w
 inj:=fun v a b ha hb=>by
  rcases aw ha with⟨i,t,rfl,rfl⟩|⟨x,t,rfl,rfl⟩
  ·rcases aw hb with⟨j,u,rfl,e⟩|⟨y,u,rfl,e⟩
   ·injection e with e1 _;rw[e1]
   ·exact nomatch e
  ·rcases aw hb with⟨j,u,rfl,e⟩|⟨y,u,rfl,e⟩
   ·exact nomatch e
   ·injection e with e1 _;rw[e1]
 byValue:=fun k v h=>by
  rcases aw h with⟨i,t,rfl,rfl⟩|⟨x,t,rfl,rfl⟩<;>rfl
 pyHash:=fun hv h=>by
  rcases aw hv with⟨i,t,rfl,rfl⟩|⟨x,t,rfl,rfl⟩
  ·exact wpAny_pyHash_int h
  ·exact wpAny_pyHash_str h
 eqBool:=fun hu hv h=>by
  rcases aw hu with⟨i,t,rfl,rfl⟩|⟨x,t,rfl,rfl⟩
  ·rcases aw hv with⟨j,u,rfl,rfl⟩|⟨y,u,rfl,rfl⟩
   ·rw[vQ]at h;exact wpAny_eqBool_int h
   ·rw[vP]at h;exact bh.int_str i t y u _ _ _ _ h
  ·rcases aw hv with⟨j,u,rfl,rfl⟩|⟨y,u,rfl,rfl⟩
   ·rw[vO]at h;exact bh.str_int x t j u _ _ _ _ h
   ·rw[vN]at h;exact wpAny_eqBool_str h
 «strs»:=fun k x t v h=>by
  rcases aw h with⟨i,u,rfl,e⟩|⟨y,u,rfl,e⟩
  ·exact nomatch e
  ·injection e with e1 _;subst e1;cases v<;>rfl
theorem xm(a:bD)(w:World)(i:Int)(t:Tok):(bU a w).is (.inl i) (.int i t)=true:=kU i t
theorem xk(a:bD)(w:World)(x:Str)(t:Tok):(bU a w).is (.inr x) (.str x t)=true:=kT x t
end L2
namespace L2
open PySem PySem.Spec PyProof.Rows
open Sem (wp)
abbrev mK:=Option ca
def iy:mK->Value->Bool
 |none,v=>match v with
  |.none=>true
  |_=>false
 |some k,v=>cS k v
def Fw(w:World):mK->Int
 |none=>Cf 4238894112
 |some k=>GF w k
theorem bI:∀{k:mK}{v:Value},iy k v=true->(∃i t,k=some (Sum.inl i)/\v=Value.int i t)∨(∃x t,k=some (Sum.inr x)/\v=Value.str x t)∨(k=none/\v=Value.none)
 |none,v,h=>by
  refine .inr (.inr ⟨rfl,?_⟩);cases v<;>first|rfl|cases h
 |some k,v,h=>by
  rcases aw (show cS k v=true from h)with⟨i,t,rfl,rfl⟩|⟨i,t,rfl,rfl⟩
  ·exact .inl ⟨i,t,rfl,rfl⟩
  ·exact .inr (.inl ⟨i,t,rfl,rfl⟩)
theorem rY{a b:mK}{v:Value}(f:iy a v=true)(g:iy b v=true):a=b:=by
 rcases bI f with⟨i,t,rfl,rfl⟩|⟨i,t,rfl,rfl⟩|⟨rfl,rfl⟩<;>rcases bI g with⟨j,u,rfl,e⟩|⟨j,u,rfl,e⟩|⟨rfl,e⟩<;>first|rfl|(cases e;rfl)|cases e
def xj(prog:bD)(w:World):PySem.KeyKind prog w mK where
 is:=iy
 hash:=Fw w
 inj:=fun v a b ha hb=>rY ha hb
 byValue:=fun k v h=>by
  rcases bI h with⟨i,t,rfl,rfl⟩|⟨x,t,rfl,rfl⟩|⟨rfl,rfl⟩<;>rfl
 pyHash:=fun{A E s k v Q} hv h=>by
  rcases bI hv with⟨i,t,rfl,rfl⟩|⟨x,t,rfl,rfl⟩|⟨rfl,rfl⟩
  ·exact wpAny_pyHash_int h
  ·exact wpAny_pyHash_str h
  ·refine PySem.W.pyHash_slot (T:="NoneType") rfl F.slot_NoneType_hash F.entry_NoneType_hash (F.args_NoneType_hash_1 _) (by rw[beq_builtin_none]) (.inl rfl) ?_;show wpAny _ _ (retInt 4238894112) _ _ _;refine mV (wpAny_ret_mkInt (Q:=fun v s'=>∃n t,v=Value.int n t/\Q (Cf n) s') ⟨_,_,rfl,h⟩) (fun fin s' ⟨v,e,n,t,e2,q⟩=>⟨n,t,by rw[e,e2],q⟩) (fun _ _ z=>z)
 eqBool:=fun{A E s a b u v Q} hu hv h=>by
  rcases bI hu with⟨i,t,rfl,rfl⟩|⟨x,t,rfl,rfl⟩|⟨rfl,rfl⟩
  ·rcases bI hv with⟨j,u,rfl,rfl⟩|⟨y,u,rfl,rfl⟩|⟨rfl,rfl⟩
   ·exact(bU prog w).eqBool (a:=.inl i) (b:=.inl j) (kU i t) (kU j u) (by rw[show decide ((Sum.inl i:ca)=Sum.inl j)=decide ((some (Sum.inl i):mK)=some (Sum.inl j))from decide_eq_decide.mpr ⟨fun z=>by rw[z],fun z=>by injection z⟩];exact h)
   ·rw[zzr0 (by intro z;injection z with z;cases z)]at h;exact bh.int_str i t y u _ _ _ _ h
   ·rw[zzr0 (by intro z;cases z)]at h;exact bh.int_none i t _ _ _ _ h
  ·rcases bI hv with⟨j,u,rfl,rfl⟩|⟨y,u,rfl,rfl⟩|⟨rfl,rfl⟩
   ·rw[zzr0 (by intro z;injection z with z;cases z)]at h;exact bh.str_int x t j u _ _ _ _ h
   ·exact(bU prog w).eqBool (a:=.inr x) (b:=.inr y) (kT x t) (kT y u) (by rw[show decide ((Sum.inr x:ca)=Sum.inr y)=decide ((some (Sum.inr x):mK)=some (Sum.inr y))from decide_eq_decide.mpr ⟨fun z=>by rw[z],fun z=>by injection z⟩];exact h)
   ·rw[zzr0 (by intro z;cases z)]at h;exact bh.str_none x t _ _ _ _ h
  ·rcases bI hv with⟨j,u,rfl,rfl⟩|⟨y,u,rfl,rfl⟩|⟨rfl,rfl⟩
   ·rw[zzr0 (by intro z;cases z)]at h;exact bh.none_int j u _ _ _ _ h
   ·rw[zzr0 (by intro z;cases z)]at h;exact bh.none_str y u _ _ _ _ h
   ·rw[zzr1 rfl]at h;exact bh.same _ _ _ _ _ h
 «strs»:=fun k x t v h=>by
  rcases bI h with⟨i,u,rfl,e⟩|⟨y,u,rfl,e⟩|⟨rfl,e⟩
  ·exact nomatch e
  ·injection e with e1 _;subst e1;cases v<;>rfl
  ·exact nomatch e
inductive TK where
 |k (a:mK)
 |t (l:List TK)
mutual
def FH:(x y:TK)->Decidable (x=y)
 |.k a,.k b=>if h:a=b then Decidable.isTrue (by rw[h])else Decidable.isFalse fun e=>h (by injection e)
 |.t l,.t m=>match decTKs l m with
  |Decidable.isTrue h=>Decidable.isTrue (by rw[h])
  |Decidable.isFalse h=>Decidable.isFalse fun e=>h (by injection e)
 |.k _,.t _=>Decidable.isFalse nofun
 |.t _,.k _=>Decidable.isFalse nofun
def decTKs:(x y:List TK)->Decidable (x=y)
 |[],[]=>Decidable.isTrue rfl
 |[],_::_=>Decidable.isFalse nofun
 |_::_,[]=>Decidable.isFalse nofun
 |a::l,b::m=>match FH a b with
  |Decidable.isTrue h=>match decTKs l m with
   |Decidable.isTrue h'=>Decidable.isTrue (by rw[h,h'])
   |Decidable.isFalse h'=>Decidable.isFalse fun e=>h' (by injection e)
  |Decidable.isFalse h=>Decidable.isFalse fun e=>h (by injection e)
end
instance:DecidableEq TK:=FH
mutual
def TK.depth:TK->Nat
 |.k _=>0
 |.t l=>TK.depths l+1
def TK.depths:List TK->Nat
 |[]=>0
 |a::r=>max (TK.depth a) (TK.depths r)
end
mutual
def TK.hash(w:World):TK->Int
 |.k a=>Fw w a
 |.t l=>Cf (xX (TK.hashs w l))
def TK.hashs(w:World):List TK->List Int
 |[]=>[]
 |a::r=>TK.hash w a::TK.hashs w r
end
mutual
def TK.draws:TK->Nat
 |.k _=>1
 |.t l=>TK.drawss l+1
def TK.drawss:List TK->Nat
 |[]=>0
 |a::r=>TK.draws a+TK.drawss r
end
mutual
def lA(h:Heap):TK->Value->Prop
 |.k a,v=>iy a v=true
 |.t l,v=>∃a o items n,v=.ref a/\h.get? a=some o/\o.cls=.type "tuple"/\o.data=.seq items n/\TAts h l items.toList
def TAts(h:Heap):List TK->List Value->Prop
 |[],vs=>vs=[]
 |k::r,vs=>∃v us,vs=v::us/\lA h k v/\TAts h r us
end
theorem lA.inj{h:Heap}:∀(d:Nat) {x y:TK}{v:Value},x.depth<=d->lA h x v->lA h y v->x=y:=by
 have z:∀(d:Nat) (u:∀{x y:TK}{v:Value},x.depth<=d->lA h x v->lA h y v->x=y) (m i:List TK) (p:Zf),TK.depths m<=d->TAts h m p->TAts h i p->m=i:=by
  intro d u m
  induction m with
  |nil =>
   intro i p _ hx f;have A:p=[]:=hx;subst A;cases i with
   |nil=>rfl
   |cons y i=>obtain⟨_,_,e,_⟩:=f;cases e
  |cons x m B =>
   intro i p q hx f;obtain⟨v,M,rfl,C,D⟩:=hx;cases i with
   |nil=>have E:v::M=[]:=f;cases E
   |cons y i =>
    obtain⟨v',O,e,G,H⟩:=f;cases e;have Q:max x.depth (TK.depths m)<=d:=q;rw[u (by omega) C G,B i M (by omega) D H]
 have g:∀(a:mK) (l:List TK) (v:Value),lA h (.k a) v->lA h (.t l) v->False:=by
  intro a l v r I;obtain⟨b,o,items,n,rfl,_⟩:=I;rcases bI (show iy a (.ref b)=true from r)with⟨_,_,_,e⟩|⟨_,_,_,e⟩|⟨_,e⟩<;>cases e
 have N:∀(a b:mK) (v:Value),iy a v=true->iy b v=true->a=b:=fun a b v r I=>rY r I;intro d
 induction d with
 |zero =>
  intro x y v q hx f;cases x with
  |t l=>exact absurd q (by show ¬(TK.depths l+1<=0);omega)
  |k a =>
   cases y with
   |k b=>rw[N a b v hx f]
   |t l=>exact(g a l v hx f).elim
 |succ d u =>
  intro x y v q hx f;cases x with
  |k a =>
   cases y with
   |k b=>rw[N a b v hx f]
   |t l=>exact(g a l v hx f).elim
  |t l =>
   cases y with
   |k b=>exact(g b l v f hx).elim
   |t T =>
    obtain⟨a,o,items,n,rfl,U,hc,J,hi⟩:=hx;obtain⟨a',o',w,n',e,s,Y,j,L⟩:=f;cases e;rw[U]at s;cases s;rw[J]at j;injection j with e1 _;subst e1;rw[z d (fun r=>u r) l T items.toList (by have:TK.depths l+1<=d+1:=q;omega) hi L]
theorem lA.mono{h i:Heap}(k:∀a o items n,h.get? a=some o->o.cls=.type "tuple"->o.data=.seq items n->i.get? a=some o):∀(d:Nat) {x:TK}{v:Value},x.depth<=d->lA h x v->lA i x v:=by
 have p:∀(d:Nat) (j:∀{x:TK}{v:Value},x.depth<=d->lA h x v->lA i x v) (e:List TK) (m:Zf),TK.depths e<=d->TAts h e m->TAts i e m:=by
  intro d j e
  induction e with
  |nil=>intro m _ hx;exact hx
  |cons x e q =>
   intro m f hx;obtain⟨v,u,rfl,r,s⟩:=hx;have y:max x.depth (TK.depths e)<=d:=f;exact⟨v,u,rfl,j (by omega) r,q u (by omega) s⟩
 intro d
 induction d with
 |zero =>
  intro x v f hx;cases x with
  |t l=>exact absurd f (by show ¬(TK.depths l+1<=0);omega)
  |k a=>exact hx
 |succ d j =>
  intro x v f hx;cases x with
  |k a=>exact hx
  |t l =>
   obtain⟨a,o,items,n,rfl,z,w,g,hi⟩:=hx;exact⟨a,o,items,n,rfl,k a o items n z w g,w,g,p d (fun A=>j A) l _ (by have:TK.depths l+1<=d+1:=f;omega) hi⟩
section
variable{prog:bD}{w:World}
theorem Ea:∀(d:Nat) {A:Around}{E:Zc}{s:Shared}{k:TK}{v:Value}{Q:Int->Shared->Prop},k.depth<=d->A.units+d<cLine->lA s.heap k v->Q (k.hash w) { s with toks:=s.toks+k.draws } ->
  wpAny (model prog w) A (pyHash v) Q E s:=by
 intro d
 induction d with
 |zero =>
  intro A E s k v Q C hu u h;cases k with
  |t l=>exact absurd C (by show ¬(TK.depths l+1<=0);omega)
  |k a=>exact(xj prog w).pyHash (k:=a) u h
 |succ d ih =>
  intro A E s k v Q C hu u h;cases k with
  |k a=>exact(xj prog w).pyHash (k:=a) u h
  |t l =>
   obtain⟨a,o,items,n,rfl,U,hc,D,hi⟩:=u;have y:s.TypeIs (.ref a) "tuple":=⟨o,U,hc⟩;have G:TK.depths l<=d:=by have:TK.depths l+1<=d+1:=C;omega
   unfold pyHash
   first|unfold pyHashByItsType|skip
   first|refine am (wpAny_cRoomFor_or (.inr (by omega)) ?_)|skip
   refine am (DZ y F.slot_tuple_hash.lookup ?_);show wpAny _ _ (if(some (Value.builtin "tuple.__hash__")==some Value.none)=true then _ else _) Q E s
   rw[if_neg (by rw[beq_builtin_none];exact gL)];refine am (DZ y F.slot_tuple_hash.lookup ?_);show wpAny _ _ (callSpecialIfBoundUnlessNone? (.ref a) "__hash__" _ >>= _) Q E s;refine am (wpAny_callSpecialIfBoundUnlessNone?_slot y F.slot_tuple_hash (uJ F.slot_tuple_hash y F.entry_tuple_hash ?_ (F.args_tuple_hash_1 _)));show wpAny _ _ (cO.Tuple.tupleItemsOf (.ref a) >>= _) _ _ s;refine am (wpAny_tupleItemsOf U D ?_);refine am ?_;rw[<-Array.forIn_toList];refine wpAny_forIn_list _
    (fun g (b:Array Int) H=>∃done left,l=done++left/\TAts s.heap left g/\b.toList=TK.hashs w done/\H={ s with toks:=s.toks+TK.drawss done })
    _ ?_ ?_ _ _ ⟨[],l,rfl,hi,rfl,rfl⟩
   ·rintro x g b H ⟨done,left,e,z,j,rfl⟩;cases left with
    |nil=>have I:x::g=[]:=z;cases I
    |cons f left =>
     obtain⟨x',J,L,h1,Y⟩:=z;cases L;have M:f.depth<=d:=by
      have gen:∀(p:List TK),TK.depths (p++f::left)<=d->f.depth<=d:=by
       intro p
       induction p with
       |nil=>intro N;have O:max f.depth (TK.depths left)<=d:=N;omega
       |cons q p i=>intro N;have O:max q.depth (TK.depths (p++f::left))<=d:=N;exact i (by omega)
      exact gen done (by rw[<-e];exact G)
     have T:TK.hashs w (done++[f])=TK.hashs w done++[f.hash w]:=by
      clear e j
      induction done with
      |nil=>rfl
      |cons q p i=>show _::TK.hashs w (p++[f])=_;rw[i];rfl
     have m:TK.drawss (done++[f])=TK.drawss done+f.draws:=by
      clear e j T
      induction done with
      |nil=>show f.draws+0=0+f.draws;omega
      |cons q p i=>show q.draws+TK.drawss (p++[f])=q.draws+TK.drawss p+f.draws;rw[i];omega
     refine am (ih (k:=f) M (by show A.units+1+d<cLine;omega) h1 ?_)
     first
      |exact aV ⟨done++[f],left,by rw[e];simp,Y,by rw[T];simp[j],by rw[m];simp[DY]⟩
      |exact am (aV (aV ⟨done++[f],left,by rw[e];simp,Y,by rw[T];simp[j],by rw[m];simp[DY]⟩))
   ·rintro b H ⟨done,left,e,z,j,rfl⟩;cases left with
    |cons f left=>obtain⟨_,_,L,_⟩:=z;cases L
    |nil =>
     rw[cP]at e;subst e;show wpAny _ _ (retInt (xX b.toList)) _ _ _;rw[j];refine wpAny_ret_mkInt ?_;have r:Q (Cf (xX (TK.hashs w l))) { s with toks:=s.toks+(TK.drawss l+1) }:=h;show wpAny _ _ (if(decide (-(2:Int) ^ 63<=xX (TK.hashs w l)) && decide (xX (TK.hashs w l)<2 ^ 63))=true then _ else _) Q E _
     unfold Cf at r;by_cases B:(decide (-(2:Int) ^ 63<=xX (TK.hashs w l)) && decide (xX (TK.hashs w l)<2 ^ 63))=true
     ·rw[if_pos B];rw[if_pos B]at r;exact aV (by simpa[DY]using r)
     ·rw[if_neg B];rw[if_neg B]at r;exact am (pf (aV (by simpa[DY]using r)))
theorem A6(d:Nat)(ih:∀{A:Around}{E:Zc}{s:Shared}{x y:TK}{u v:Value}{Q:Bool->Shared->Prop},x.depth<=d->y.depth<=d->A.units+d<cLine->lA s.heap x u->lA s.heap y v->Q (decide (x=y)) s->wpAny (model prog w) A (eqBool u v) Q E s)
  {A:Around}{E:Zc}{s:Shared}{x y:List TK}{a b:Addr}{P:Fin->Shared->Prop}{oa L:Obj}{q t:Array Value}{na nb:Nat}(hx:TK.depths x<=d) (hy:TK.depths y<=d) (hu:A.units+d<cLine)
  (N:s.heap.get? a=some oa) (O:oa.data=.seq q na) (T:TAts s.heap x q.toList) (B:s.heap.get? b=some L) (U:L.cls=.type "tuple") (Y:L.data=.seq t nb) (al:TAts s.heap y t.toList)
  (h:P (.done (.ret (.bool (decide (x=y))))) s):wpAny (model prog w) A (cO.«tuple.__eq__» ⟨[.ref a,.ref b],[]⟩) P E s:=by
 have an:s.TypeIs (.ref b) "tuple":=⟨L,B,U⟩;show wpAny _ _ (isInstance (.ref b) (.type "tuple") >>= _) _ _ s;refine am (Ac an isSubtype_tuple_tuple ?_);simp only[Ab,qD,if_false];refine am (wpAny_tupleItemsOf N O ?_);refine am (wpAny_tupleItemsOf B Y ?_);refine am ?_;refine wpAny_forIn_list _
  (fun l r M=>r.1=none/\M=s/\∃n m xs' f,l=List.zip xs' f/\TAts s.heap n xs'/\TAts s.heap m f/\TK.depths n<=d/\TK.depths m<=d/\decide (n=m)=decide (x=y)/\(xs'.length==f.length)=(q.size==t.size))
  _ ?_ ?_ _ _ ⟨rfl,rfl,x,y,q.toList,t.toList,rfl,T,al,hx,hy,rfl,by simp⟩
 ·rintro⟨u,v⟩ l r M ⟨hr,rfl,n,m,xs',f,z,j,g,dx,dy,i,k⟩;cases n with
  |nil =>
   have e:xs'=[]:=j;subst e;simp at z
  |cons k1 o =>
   obtain⟨u',C,rfl,h1,D⟩:=j;cases m with
   |nil =>
    have e:f=[]:=g;subst e;simp at z
   |cons k2 p =>
    obtain⟨v',G,rfl,h2,H⟩:=g;simp only[List.zip_cons_cons,List.cons.injEq,Prod.mk.injEq]at z;obtain⟨⟨rfl,rfl⟩,rfl⟩:=z;have ap:max k1.depth (TK.depths o)<=d:=dx;have aq:max k2.depth (TK.depths p)<=d:=dy;refine am (ih (x:=k1) (y:=k2) (by omega) (by omega) hu h1 h2 ?_);by_cases hk:k1=k2
    ·subst hk;rw[zzr1 rfl];simp only[Ab,qD,if_false];refine aV ⟨rfl,rfl,o,p,C,G,rfl,D,H,by omega,by omega,?_,by simpa using k⟩;rw[<-i];by_cases I:o=p
     ·simp[I]
     ·simp[I]
    ·rw[zzr0 hk];simp only[Bool.not_false,if_true];have hf:decide (x=y)=false:=by rw[<-i];simp[hk]
     rw[hf]at h;exact am (aV (aV (aV h)))
 ·rintro⟨r1,r2⟩ M ⟨hr,rfl,n,m,xs',f,z,j,g,dx,dy,i,k⟩;simp only at hr;subst hr;refine aV ?_;have J:(q.size==t.size)=decide (x=y):=by
   rw[<-i,<-k];cases n with
   |nil =>
    have e:xs'=[]:=j;subst e;cases m with
    |nil=>have e:f=[]:=g;subst e;simp
    |cons _ _=>obtain⟨_,_,rfl,_⟩:=g;simp
   |cons _ _ =>
    obtain⟨_,_,rfl,_⟩:=j;cases m with
    |nil=>have e:f=[]:=g;subst e;simp
    |cons _ _=>obtain⟨_,_,rfl,_⟩:=g;simp at z
  show P (.done (.ret (.bool (q.size==t.size)))) M;rw[J];exact h
theorem Gw:∀(d:Nat) {A:Around}{E:Zc}{s:Shared}{x y:TK}{u v:Value}{Q:Bool->Shared->Prop},x.depth<=d->y.depth<=d->A.units+d<cLine->lA s.heap x u->lA s.heap y v->Q (decide (x=y)) s ->
  wpAny (model prog w) A (eqBool u v) Q E s:=by
 have g:∀{A:Around}{E:Zc}{s:Shared}{a:mK}{l:List TK}{u v:Value}{Q:Bool->Shared->Prop},A.units<cLine->lA s.heap (.k a) u->lA s.heap (.t l) v->Q false s->wpAny (model prog w) A (eqBool u v) Q E s:=by
  intro A E s a l u v Q j hx f h;obtain⟨b,o,items,n,rfl,L,M,q,hi⟩:=f;have r:s.heap.IsTuple b items:=⟨o,L,M,n,q⟩;rcases bI (show iy a u=true from hx)with⟨i,t,rfl,rfl⟩|⟨i,t,rfl,rfl⟩|⟨rfl,rfl⟩
  ·exact bh.int_tuple i t r j prog w E Q h
  ·exact bh.str_tuple i t r j prog w E Q h
  ·exact bh.none_tuple r j prog w E Q h
 have p:∀{A:Around}{E:Zc}{s:Shared}{a:mK}{l:List TK}{u v:Value}{Q:Bool->Shared->Prop},A.units<cLine->lA s.heap (.t l) u->lA s.heap (.k a) v->Q false s->wpAny (model prog w) A (eqBool u v) Q E s:=by
  intro A E s a l u v Q j hx f h;obtain⟨b,o,items,n,rfl,L,M,q,hi⟩:=hx;have r:s.heap.IsTuple b items:=⟨o,L,M,n,q⟩;rcases bI (show iy a v=true from f)with⟨i,t,rfl,rfl⟩|⟨i,t,rfl,rfl⟩|⟨rfl,rfl⟩
  ·exact bh.tuple_int i t r j prog w E Q h
  ·exact bh.tuple_str i t r j prog w E Q h
  ·exact bh.tuple_none r j prog w E Q h
 have leaves:∀{A:Around}{E:Zc}{s:Shared}{a b:mK}{u v:Value}{Q:Bool->Shared->Prop},lA s.heap (.k a) u->lA s.heap (.k b) v->Q (decide (TK.k a=TK.k b)) s->wpAny (model prog w) A (eqBool u v) Q E s:=by
  intro A E s a b u v Q hx f h;refine(xj prog w).eqBool (a:=a) (b:=b) hx f ?_;by_cases e:a=b
  ·subst e;simpa using h
  ·have:¬(TK.k a=TK.k b):=fun z=>e (by injection z);rw[zzr0 this]at h;rw[zzr0 e];exact h
 intro d
 induction d with
 |zero =>
  intro A E s x y u v Q B C j hx f h;cases x with
  |t l=>exact absurd B (by show ¬(TK.depths l+1<=0);omega)
  |k a =>
   cases y with
   |t l=>exact absurd C (by show ¬(TK.depths l+1<=0);omega)
   |k b=>exact leaves hx f h
 |succ d ih =>
  intro A E s x y u v Q B C j hx f h;cases x with
  |k a =>
   cases y with
   |k b=>exact leaves hx f h
   |t l =>
    rw[zzr0 (by intro z;cases z)]at h;exact g (by omega) hx f h
  |t l =>
   cases y with
   |k b =>
    rw[zzr0 (by intro z;cases z)]at h;exact p (by omega) hx f h
   |t m =>
    have hl:TK.depths l<=d:=by have:TK.depths l+1<=d+1:=B;omega
    have hm:TK.depths m<=d:=by have:TK.depths m+1<=d+1:=C;omega
    have N:=hx;have O:=f;obtain⟨a,oa,xs,na,rfl,G,T,U,Y⟩:=hx;obtain⟨b,ob,ys,nb,rfl,H,I,al,an⟩:=f;have J:s.TypeIs (.ref a) "tuple":=⟨oa,G,T⟩;have ap:s.TypeIs (.ref b) "tuple":=⟨ob,H,I⟩;have aq:decide (TK.t l=TK.t m)=decide (l=m):=by
     by_cases e:l=m
     ·subst e;simp
     ·have:¬(TK.t l=TK.t m):=fun z=>e (by injection z);rw[zzr0 this,zzr0 e]
    unfold eqBool
    try with_reducible refine pe ?_
    show wpAny _ _ (if(Value.ref a==Value.ref b)=true then _ else _) Q E s
    by_cases D:(Value.ref a==Value.ref b)=true
    ·rw[if_pos D];have e:a=b:=by have:=eq_of_beq D;injection this
     subst e;have e2:TK.t l=TK.t m:=lA.inj _ (aN _) N O;rw[zzr1 e2]at h;exact am (pf (aV h))
    ·rw[if_neg D];rw[aq]at h;exact am (wpAny_richCompare_same_room (op:=.Eq) J ap F.slot_tuple_eq
      (uJ F.slot_tuple_eq J F.entry_tuple_eq (A6 d (fun h1 h2 h3 h4 h5 h6=>ih h1 h2 h3 h4 h5 h6) hl hm (by show A.units+1+d<cLine;omega) G U Y H I al an ⟨_,rfl,(fun e=>nomatch e),qq h⟩) (F.args_tuple_eq_2 _ _)) (by omega))
theorem Cu:∀(d:Nat) {A:Around}{E:Zc}{s:Shared}{k:TK}{v:Value}{Q:Bool->Shared->Prop},k.depth<=d->lA s.heap k v->Q true s->wpAny (model prog w) A (eqIsQuiet d v) Q E s:=by
 intro d
 induction d with
 |zero =>
  intro A E s k v Q j i h;cases k with
  |t l=>exact absurd j (by show ¬(TK.depths l+1<=0);omega)
  |k a=>rw[eqIsQuiet_byValue _ ((xj prog w).byValue a v i)];exact aV h
 |succ d D =>
  intro A E s k v Q j i h;cases k with
  |k a=>rw[eqIsQuiet_byValue _ ((xj prog w).byValue a v i)];exact aV h
  |t l =>
   have G:TK.depths l<=d:=by have:TK.depths l+1<=d+1:=j;omega
   obtain⟨a,o,items,n,rfl,y,H,m,hi⟩:=i;have z:s.TypeIs (.ref a) "tuple":=⟨o,y,H⟩;unfold eqIsQuiet;refine am (DZ z F.slot_tuple_eq.lookup ?_);show wpAny _ _ (isInstance (.ref a) (.type "tuple") >>= _) _ _ s;refine am (Ac z isSubtype_tuple_tuple ?_);simp only[Ab,qD,if_false];refine am (lC y m ?_);refine am ?_;show wpAny _ _ (forIn items _ _) _ _ s;rw[<-Array.forIn_toList];refine wpAny_forIn_list _ (fun f r p=>r.1=none/\p=s/\∃left,TAts s.heap left f/\TK.depths left<=d) _ ?_ ?_ _ _ ⟨rfl,rfl,l,hi,G⟩
   ·rintro v f r p ⟨q,rfl,left,g,u⟩;cases left with
    |nil=>have e:v::f=[]:=g;cases e
    |cons B left =>
     obtain⟨L,x,e,I,J⟩:=g;cases e;have C:max B.depth (TK.depths left)<=d:=u;refine am (D (k:=B) (by omega) I ?_);simp only[Ab,qD,if_false];exact aV ⟨rfl,rfl,left,J,by omega⟩
   ·rintro⟨M,N⟩ p ⟨q,rfl,_⟩;simp only at q;subst q;exact aV h
def eS(prog:bD)(w:World):HeapKind prog w TK where
 is:=fun h k a=>lA h k (.ref a)/\k.depth<=8
 hash:=TK.hash w
 draws:=TK.draws
 room:=fun A=>A.units+8<cLine
 inj:=fun hx hy=>lA.inj 8 hx.2 hx.1 hy.1
 keeps:=fun{h h' k a d o es ep} x ho hd hs=>⟨lA.mono (fun b ob items n hb _ hdb=>(hs.2 b fun e=>by
  subst e;rw[ho]at hb;cases hb;rw[hd]at hdb;cases hdb).trans hb) 8 x.2 x.1,x.2⟩
 pyHash:=fun hu hk h=>Ea 8 hk.2 hu hk.1 h
 eqBool:=fun hu hx hy h=>Gw 8 hx.2 hy.2 hu hx.1 hy.1 h
 quiet:=fun hk h=>Cu 8 hk.2 hk.1 h
end
end L2
namespace L2
open PySem PySem.Spec PyProof.Rows
inductive V where
 |non|bl (b:Bool)|int (i:Int)|str (x:Str)|byt (b:Array UInt8)|flt (b:UInt64)|ref (a:Addr)|ty (n:String)
 deriving DecidableEq
def RelV:V->Value->Prop
 |.non,u=>u=Value.none
 |.bl b,u=>u=Value.bool b
 |.int i,u=>∃t,u=Value.int i t
 |.str x,u=>∃t,u=Value.str x t
 |.byt b,u=>∃t,u=Value.bytes b t
 |.flt b,u=>∃t,u=Value.float b t
 |.ref a,u=>u=Value.ref a
 |.ty n,u=>u=Value.type n
abbrev a_:List V->List Value->Prop:=Paired RelV
theorem a_.length{a:List V}{e:Zf}(r:a_ a e):a.length=e.length:=Paired.length r
theorem a_.get:∀{a:List V}{f:Zf}{i:Nat}{x:V},a_ a f->a[i]?=some x->∃u,f[i]?=some u/\RelV x u
 |_,_,_,_,.nil,e=>by simp at e
 |_,_,0,_,.cons r _,e=>by simp at e;subst e;exact⟨_,rfl,r⟩
 |_,_,i+1,x,.cons _ t,e=>by
  obtain⟨u,g,h⟩:=a_.get (i:=i) (x:=x) t (by simpa using e);exact⟨u,by simpa using g,h⟩
theorem a_.set{x:V}{u:Value}(r:RelV x u):∀{a:List V}{e:Zf}(i:Nat),a_ a e->a_ (a.set i x) (e.set i u)
 |_,_,_,.nil=>.nil
 |_,_,0,.cons _ t=>.cons r t
 |_,_,i+1,.cons q t=>.cons q (a_.set r i t)
theorem a_.append{a e:List V}{f g:Zf}(h:a_ a f)(s:a_ e g):a_ (a++e) (f++g):=by
 induction h with
 |nil=>exact s
 |cons r _ i=>exact .cons r i
theorem a_.take:∀{a:List V}{e:Zf}(n:Nat),a_ a e->a_ (a.take n) (e.take n)
 |_,_,0,_=>.nil
 |_,_,_+1,.nil=>.nil
 |_,_,n+1,.cons r t=>.cons r (a_.take n t)
theorem a_.drop:∀{a:List V}{e:Zf}(n:Nat),a_ a e->a_ (a.drop n) (e.drop n)
 |_,_,0,r=>r
 |_,_,_+1,.nil=>.nil
 |_,_,n+1,.cons _ t=>a_.drop n t
def j1:Option V->Option Value->Prop
 |some v,some u=>RelV v u
 |none,none=>True
 |_,_=>False
def KV{κ:Type}:List (κ×V)->List (κ×Value)->Prop:=Paired fun(p:κ×V) (q:κ×Value)=>p.1=q.1/\RelV p.2 q.2
def kV:ca->V
 |.inl i=>.int i
 |.inr x=>.str x
def Fx:mK->V
 |none=>.non
 |some k=>kV k
inductive HO where
 |lst (xs:List V)
 |tup (xs:List V)
 |dK (kvs:List (ca×V))|dT (kvs:List (TK×V))
 |set (S:Int->Bool) (n:Nat)
 |ins (C dx:Addr) (fs:List (Str×V))
 |own (x:Addr)
 |xd (fs:List (Str×V))
 |met (f x:Addr)
 |rng (lo hi:Int)
 |frz (o:Obj) (u:HO)
 |tbl (ps:Array Value)
 |ext (φ:Heap->Prop)
abbrev Hp:=Addr->Option HO
mutual
def iB(H:Hp):TK->V->Prop
 |.k a,v=>v=Fx a
 |.t l,v=>∃b xs,v=.ref b/\H b=some (.tup xs)/\TKAts H l xs
def TKAts(H:Hp):List TK->List V->Prop
 |[],vs=>vs=[]
 |k::r,vs=>∃v us,vs=v::us/\iB H k v/\TKAts H r us
end
def bH(K:Za)(H:Hp)(a:Addr)(xs:List V):Prop :=
 H a=some (.tup xs)∨∃(o:Obj) (its:Array Value) (n:Nat),K.lookup a=some o/\o.cls=.type "tuple"/\o.data=.seq its n/\its.size<=aj/\a_ xs its.toList
theorem bH.keeps{K:Za}{H e:Hp}{a:Addr}{xs:List V}(h:bH K H a xs)(f:∀b xs,H b=some (.tup xs)->e b=some (.tup xs)):bH K e a xs:=h.imp (f a xs) id
mutual
def tK(K:Za)(H:Hp):TK->V->Prop
 |.k a,v=>v=Fx a
 |.t l,v=>∃b xs,v=.ref b/\bH K H b xs/\TKCs K H l xs
def TKCs(K:Za)(H:Hp):List TK->List V->Prop
 |[],vs=>vs=[]
 |k::r,vs=>∃v us,vs=v::us/\tK K H k v/\TKCs K H r us
end
theorem tK.keeps{K:Za}{H f:Hp}(p:∀b xs,H b=some (.tup xs)->f b=some (.tup xs)):∀(d:Nat) {k:TK}{v:V},k.depth<=d->tK K H k v->tK K f k v:=by
 have i:∀(d:Nat) (g:∀{k:TK}{v:V},k.depth<=d->tK K H k v->tK K f k v) (xs:List TK) (h:List V),TK.depths xs<=d->TKCs K H xs h->TKCs K f xs h:=by
  intro d g xs
  induction xs with
  |nil=>intro h _ hx;exact hx
  |cons x xs j =>
   intro h e hx;obtain⟨v,o,rfl,m,n⟩:=hx;have q:max x.depth (TK.depths xs)<=d:=e;exact⟨v,o,rfl,g (by omega) m,j o (by omega) n⟩
 intro d
 induction d with
 |zero =>
  intro k v e hx;cases k with
  |t l=>exact absurd e (by show ¬(TK.depths l+1<=0);omega)
  |k a=>exact hx
 |succ d g =>
  intro k v e hx;cases k with
  |k a=>exact hx
  |t l =>
   obtain⟨b,xs,rfl,r,hi⟩:=hx;exact⟨b,xs,rfl,r.keeps p,i d (fun s=>g s) l xs (by have:TK.depths l+1<=d+1:=e;omega) hi⟩
theorem iB.c{K:Za}{H:Hp}:∀(d:Nat) {k:TK}{v:V},k.depth<=d->iB H k v->tK K H k v:=by
 have i:∀(d:Nat) (g:∀{k:TK}{v:V},k.depth<=d->iB H k v->tK K H k v) (e:List TK) (h:List V),TK.depths e<=d->TKAts H e h->TKCs K H e h:=by
  intro d g e
  induction e with
  |nil=>intro h _ hx;exact hx
  |cons x e j =>
   intro h f hx;obtain⟨v,o,rfl,m,n⟩:=hx;have p:max x.depth (TK.depths e)<=d:=f;exact⟨v,o,rfl,g (by omega) m,j o (by omega) n⟩
 intro d
 induction d with
 |zero =>
  intro k v f hx;cases k with
  |t l=>exact absurd f (by show ¬(TK.depths l+1<=0);omega)
  |k a=>exact hx
 |succ d g =>
  intro k v f hx;cases k with
  |k a=>exact hx
  |t l =>
   obtain⟨b,e,rfl,q,hi⟩:=hx;exact⟨b,e,rfl,.inl q,i d (fun r=>g r) l e (by have:TK.depths l+1<=d+1:=f;omega) hi⟩
def upd(H:Hp)(a:Addr)(o:HO):Hp:=fun b=>if b=a then some o else H b
theorem aa{H:Hp}{a:Addr}{o:HO}:upd H a o a=some o:=by unfold upd;rw[if_pos rfl]
theorem ai{H:Hp}{a b:Addr}{o:HO}(h:b≠a):upd H a o b=H b:=by unfold upd;rw[if_neg h]
theorem mW{H:Hp}{a:Addr}{o u:HO}:upd (upd H a o) a u=upd H a u:=by
 funext b;unfold upd;split<;>rfl
theorem Fu{H:Hp}{a b:Addr}{o u:HO}(h:H a=some o)(f:H b=some u)(d:o≠u):a≠b:=by
 intro e;subst e;rw[h]at f;exact d (eR f)
theorem ae{H:Hp}{a b:Addr}{o:HO}(h:H a=some o)(f:H b=none):a≠b:=by
 intro e;subst e;rw[h]at f;cases f
section
variable(P:bD)(w:World)(K:Za)
def cj(H:Hp)(h:Heap)(a:Addr):HO->Prop
 |.lst xs=>xs.length<=aj/\∃(its:Zf) (n:Nat),a_ xs its/\h.get? a=some { cls:=.type "list",data:=.seq its.toArray n }
 |.tup xs=>xs.length<=aj/\∃its:List Value,a_ xs its/\IsTup h a its.toArray
 |.dK kvs=>kvs.length<=aj/\(a==g0)=false/\∃vs,KV kvs vs/\h.DictOf (bU P w) a vs
 |.dT kvs=>kvs.length<=aj/\(a==g0)=false/\∃xs:List (TK×Addr×Value),
   Paired (fun(p:TK×V) (q:TK×Addr×Value)=>p.1=q.1/\tK K H p.1 (.ref q.2.1)/\p.1.depth<=8/\RelV p.2 q.2.2) kvs xs /\
   ∃o es ep,h.get? a=some o/\o.ExactDict/\o.data=.dict es ep/\es.toList=xs.map (entryOfKey (eS P w))/\(xs.map (·.1)).Nodup
 |.set S n=>h.SetOf (intKind P w) a S n
 |.ins C dx fs=>H dx=some (.own a)/\fs.length<=1000/\dx≠a/\h.get? a=some (pd C dx) /\
   ∃mA,h.Ns1 dx mA/\(∀f,j1 (fs.lookup f) (mA f))/\PySem.Within mA (fs.map (·.1))
 |.own _=>∃o,h.get? a=some o
 |.xd fs=>∃mA,h.Ns1 a mA/\∀f,j1 (fs.lookup f) (mA f)
 |.rng lo hi=>∃t u v,h.get? a=some { cls:=.type "range",data:=.fields #[.int lo t,.int hi u,.int 1 v] }
 |.frz o u=>h.get? a=some o/\cj H h a u
 |.tbl ps=>h.get? a=some { cls:=.none,data:=.fields ps }
 |.met f x=>h.get? a=some (PySem.W.methodObj (.ref f) (.ref x))
 |.ext φ=>φ h/\(∃o,h.get? a=some o)/\∀h1 h2:Heap,φ h1->(∀o,h1.get? a=some o->h2.get? a=some o)->φ h2
def k7(H:Hp)(h:Heap):Prop:=∀a o,H a=some o->cj P w K H h a o
end
section
variable{P:bD}{w:World}{K:Za}{H H':Hp}{h h':Heap}{a:Addr}{o:HO}
theorem cj.lt(x:cj P w K H h a o):a<h.objs.size:=by
 cases o with
 |lst i=>obtain⟨_,_,_,_,e⟩:=x;exact ba e
 |tup i=>obtain⟨_,_,_,p⟩:=x;exact p.lt
 |dK g=>obtain⟨_,_,_,_,o,_,_,e,_⟩:=x;exact ba e
 |dT g=>obtain⟨_,_,_,_,o,_,_,e,_⟩:=x;exact ba e
 |set S n=>obtain⟨o,_,_,_,e,_⟩:=x;exact ba e
 |ins C j fs=>obtain⟨_,_,_,e,_⟩:=x;exact ba e
 |own y=>obtain⟨_,e⟩:=x;exact ba e
 |xd fs=>obtain⟨_,⟨_,_,_,e,_⟩,_⟩:=x;exact ba e
 |rng lo hi=>obtain⟨_,_,_,e⟩:=x;exact ba e
 |frz k u=>obtain⟨e,_⟩:=x;exact ba e
 |tbl l=>exact ba (show h.get? a=some _ from x)
 |met f y=>exact ba (show h.get? a=some _ from x)
 |ext φ=>obtain⟨_,⟨_,e⟩,_⟩:=x;exact ba e
theorem Paired.mapP{α β:Type}{F G:α->β->Prop}{e:List α}{g:List β}(h:Paired F e g)(f:∀a b,F a b->G a b):Paired G e g:=by
 induction h with
 |nil=>exact .nil
 |cons r _ i=>exact .cons (f _ _ r) i
theorem cj.stay(x:cj P w K H h a o)(k:∀b u,(b=a∨H b=some (.own a))->h.get? b=some u->h'.get? b=some u)
  (E:∀b,H b=some (.own a)->H' b=some (.own a)) (G:∀b m,H b=some (.tup m)->H' b=some (.tup m)):cj P w K H' h' a o:=by
 induction o with
 |lst m=>obtain⟨z,l,n,r,e⟩:=x;exact⟨z,l,n,r,k _ _ (.inl rfl) e⟩
 |tup m=>obtain⟨z,l,r,g,e,c⟩:=x;exact⟨z,l,r,g,k _ _ (.inl rfl) e,c⟩
 |dK s=>obtain⟨z,y,I,r,g,i,j,e,c⟩:=x;exact⟨z,y,I,r,g,i,j,k _ _ (.inl rfl) e,c⟩
 |dT s =>
  obtain⟨z,y,m,r,g,i,j,e,c⟩:=x;exact⟨z,y,m,Paired.mapP r fun p q z=>⟨z.1,tK.keeps G 8 z.2.2.1 z.2.1,z.2.2⟩,g,i,j,k _ _ (.inl rfl) e,c⟩
 |set S n=>obtain⟨g,i,j,t,e,c⟩:=x;exact⟨g,i,j,t,k _ _ (.inl rfl) e,c⟩
 |ins C M fs =>
  obtain⟨d,z,ne,e,A,⟨B,i,j,J,c⟩,r⟩:=x;exact⟨E _ d,z,ne,k _ _ (.inl rfl) e,A,⟨B,i,j,k _ _ (.inr d) J,c⟩,r⟩
 |own y=>obtain⟨g,e⟩:=x;exact⟨g,k _ _ (.inl rfl) e⟩
 |xd fs=>obtain⟨A,⟨B,i,j,e,c⟩,r⟩:=x;exact⟨A,⟨B,i,j,k _ _ (.inl rfl) e,c⟩,r⟩
 |rng lo hi=>obtain⟨t,u,v,e⟩:=x;exact⟨t,u,v,k _ _ (.inl rfl) e⟩
 |frz g u L=>obtain⟨e,q⟩:=x;exact⟨k _ _ (.inl rfl) e,L q⟩
 |tbl D =>
  have e:h.get? a=some { cls:=.none,data:=.fields D }:=x;show h'.get? a=some { cls:=.none,data:=.fields D };exact k a _ (.inl rfl) e
 |met f y =>
  have e:h.get? a=some (PySem.W.methodObj (.ref f) (.ref y)):=x;show h'.get? a=some (PySem.W.methodObj (.ref f) (.ref y));exact k a _ (.inl rfl) e
 |ext φ=>obtain⟨p,⟨o,e⟩,st⟩:=x;exact⟨st _ _ p fun o q=>k _ _ (.inl rfl) q,⟨o,k _ _ (.inl rfl) e⟩,st⟩
theorem k7.lt(x:k7 P w K H h)(e:H a=some o):a<h.objs.size:=(x a o e).lt
theorem k7.fresh(x:k7 P w K H h)(e:h.objs.size<=a):H a=none:=by
 cases q:H a with
 |none=>rfl
 |some u=>exact absurd (ie (x.lt q) e) (pc _)
theorem k7.kept(x:k7 P w K H h)(k:∀b u,h.get? b=some u->h'.get? b=some u):k7 P w K H h':=fun a o e =>
 (x a o e).stay (fun b u _ q=>k b u q) (fun _ q=>q) fun _ _ q=>q
theorem k7.laid(x:k7 P w K H h)(k:∀b u,h.get? b=some u->h'.get? b=some u)(i:h.objs.size<=a)(new:cj P w K (upd H a o) h' a o):k7 P w K (upd H a o) h':=fun b u e=>by
 have f:=x.fresh i;by_cases g:b=a
 ·subst g;rw[aa]at e;cases e;exact new
 ·rw[ai g]at e;exact(x b u e).stay (fun c v _ q=>k c v q) (fun c q=>by rw[ai (ae q f)];exact q) fun c j q=>by rw[ai (ae q f)];exact q
end
def Rd(H:Hp)(a:Addr)(u:HO):Prop:=H a=some u∨∃o,H a=some (.frz o u)
theorem Rd.ok{P:bD}{w:World}{K:Za}{H:Hp}{h:Heap}{a:Addr}{u:HO}(r:Rd H a u)(x:k7 P w K H h):cj P w K H h a u:=by
 rcases r with r|⟨o,r⟩
 ·exact x a u r
 ·obtain⟨_,q⟩:=x a _ r;exact q
def GQ:Option HO->Prop
 |some (.lst _)=>True
 |some (.dK _)=>True
 |some (.dT _)=>True
 |some (.set _ _)=>True
 |some (.ins _ _ _)=>True
 |some (.ext _)=>True
 |_=>False
section
variable{P:bD}{w:World}{K:Za}{H:Hp}{h h':Heap}{x e:Addr}{o':HO}
theorem k7.write(ok:k7 P w K H h)(i:GQ (H x))(n:e=x∨H e=some (.own x))(k:∀b u,b≠e->h.get? b=some u->h'.get? b=some u)(m:∃u,h'.get? e=some u)
  (new:cj P w K (upd H x o') h' x o'):k7 P w K (upd H x o') h':=fun b u q=>by
 have f:∀c y,H c=some (.own y)->c≠x:=fun c y r z=>by subst z;rw[r]at i;exact i
 have g:∀c j,H c=some (.tup j)->c≠x:=fun c j r z=>by subst z;rw[r]at i;exact i
 by_cases l:b=x
 ·subst l;rw[aa]at q;cases q;exact new
 ·rw[ai l]at q;by_cases a:b=e
  ·have o:H b=some (.own x):=by
    rcases n with z|z
    ·exact absurd (a.trans z) l
    ·rw[a];exact z
   rw[q]at o;cases o;obtain⟨v,p⟩:=m;exact⟨v,by rw[a];exact p⟩
  ·refine(ok b u q).stay (fun c v hc r=>k c v ?_ r) (fun c r=>by rw[ai (f c b r)];exact r) fun c j r=>by rw[ai (g c j r)];exact r
   rcases hc with rfl|hc
   ·exact a
   ·rintro rfl;rcases n with z|z
    ·exact f c b hc z
    ·rw[hc]at z;cases z;exact l rfl
end
structure Un(fs ex:Ze)(H H':Hp)(h h':Heap):Prop where
 keep:∀b o,h.get? b=some o->H b=none->b∉fs->b∉ex->h'.get? b=some o
 slot:∀b o,h.get? b=some o->H b=none->b∈fs->b∉ex->∃sl,h'.get? b=some { o with slots:=sl }
 free:∀b o,h.get? b=some o->H b=none->b∉ex->H' b=none
 there:∀b o,h.get? b=some o->b∉ex->∃o',h'.get? b=some o'
 tups:∀b xs,H b=some (.tup xs)->H' b=some (.tup xs)
 tupk:∀b xs o,H b=some (.tup xs)->h.get? b=some o->h'.get? b=some o
 frzs:∀b o u,H b=some (.frz o u)->H' b=some (.frz o u)
 tbls:∀b ps,H b=some (.tbl ps)->∃more,H' b=some (.tbl (ps++more))
section
variable{fs fs' ex ex':Ze}{H H1 H2:Hp}{h h1 h2 h':Heap}{a x e:Addr}{o:HO}
theorem Un.any(u:Un fs ex H H1 h h1){b:Addr}{f:Obj}(q:h.get? b=some f)(n:H b=none)(hx:b∉ex):∃i,h1.get? b=some { f with slots:=i }:=by
 by_cases g:b∈fs
 ·exact u.slot b f q n g hx
 ·exact⟨f.slots,u.keep b f q n g hx⟩
theorem Un.kept(k:∀b u,h.get? b=some u->h'.get? b=some u):Un fs ex H H h h' :=
 ⟨fun b f q _ _ _=>k b f q,fun b f q _ _ _=>⟨f.slots,k b f q⟩,fun _ _ _ n _=>n,fun b f q _=>⟨f,k b f q⟩,fun _ _ q=>q,fun b _ o _ q=>k b o q,fun _ _ _ q=>q,fun _ g q=>⟨#[],by rw[q];simp⟩⟩
theorem Un.refl:Un fs ex H H h h:=Un.kept fun _ _ q=>q
theorem Un.laid(k:∀b u,h.get? b=some u->h'.get? b=some u)(g:h.objs.size<=a)(f:H a=none):Un fs ex H (upd H a o) h h' where
 keep:=fun b u q _ _ _=>k b u q
 slot:=fun b u q _ _ _=>⟨u.slots,k b u q⟩
 free:=fun b u q n _=>by rw[ai (cY (ie (ba q) g))];exact n
 there:=fun b u q _=>⟨u,k b u q⟩
 tups:=fun b i q=>by rw[ai (ae q f)];exact q
 tupk:=fun b _ o _ q=>k b o q
 frzs:=fun b u i q=>by rw[ai (ae q f)];exact q
 tbls:=fun b j q=>⟨#[],by rw[ai (ae q f),q];simp⟩
theorem Un.write(g:GQ (H x))(l:e=x∨H e=some (.own x))(k:∀b u,b≠e->h.get? b=some u->h'.get? b=some u)(j:∃u,h'.get? e=some u):Un fs ex H (upd H x o) h h':=by
 have hx:∀b,H b=none->b≠x:=fun b n z=>by subst z;rw[n]at g;exact g
 have m:∀b,H b=none->b≠e:=fun b n z=>by
  subst z;rcases l with r|r
  ·exact hx b n r
  ·rw[n]at r;cases r
 have i:∀b u,H b=some u->¬GQ (some u)->b≠x:=fun b u q s z=>by subst z;rw[q]at g;exact s g
 refine⟨fun b u q n _ _=>k b u (m b n) q,fun b u q n _ _=>⟨u.slots,k b u (m b n) q⟩,fun b u q n _=>by rw[ai (hx b n)];exact n,fun b u q _=>?_,
  fun b p q=>by rw[ai (i b _ q fun z=>z)];exact q,fun b p u q z=>k b u (fun y=>by
   subst y;rcases l with r|r
   ·exact i b _ q (fun z=>z) r
   ·rw[q]at r;cases r) z,fun b u p q=>by rw[ai (i b _ q fun z=>z)];exact q,fun b t q=>⟨#[],by rw[ai (i b _ q fun z=>z),q];simp⟩⟩
 by_cases f:b=e
 ·subst f;exact j
 ·exact⟨u,k b u f q⟩
end
def G_(h:Heap)(H:Hp):List Addr:=(mU h.objs.size).filter fun a=>(H a).isSome
def vT(h:Heap)(H:Hp):Heap:=PySem.W.hideAll h (G_ h H)
theorem BM(h:Heap)(H:Hp):(vT h H).objs.size=h.objs.size:=PySem.W.hideAll_size _ _
theorem Dk{h:Heap}{H:Hp}{b:Addr}{o:Obj}(e:h.get? b=some o)(n:H b=none):(vT h H).get? b=some o :=
 PySem.W.hideAll_get _ e fun a=>by
  have q:(H b).isSome=true:=(bA.mp a).2;rw[n]at q;simp at q
theorem EH{h:Heap}{H:Hp}{b:Addr}{o:Obj}(e:(vT h H).get? b=some o):h.get? b=some o/\H b=none:=by
 have a:h.get? b=some o:=PySem.W.of_hideAll (G_ h H) e;refine⟨a,?_⟩;cases q:H b with
 |none=>rfl
 |some x =>
  have f:b∈G_ h H:=bA.mpr ⟨List.mem_range.mpr (ba a),by simp[q]⟩;have z:(vT h H).get? b=none:=PySem.W.hideAll_none (G_ h H) f;rw[z]at e;cases e
end L2
namespace L2
open PySem PySem.Spec PyProof.Rows
structure Mod(K:Za)(mg:Str->Option Value)(base:Heap):Prop where
 kin:K.In base
 glob:base.Ns bM mg
 blt:∃mb,base.Ns builtinsNs mb/\∀x:Str,x≠"__name__"->mb x=iL x
 nolimit:base.NoLimit
structure Cx where
 prog:bD
 w:World
 K:Za
 mg:Str->Option Value
 base:Heap
 A:Around
 N:List Str
 s₀:Shared
 H₀:Hp
 env:Env
 outer:List Env
 stack:List Env
 ex:List Addr
 fn:Str->Bool
 calm:Bool
 pn:List (Addr×Obj)
 xe:Value->Shared->Prop
def Cc(l:List Env):List Addr:=l.filterMap (·.frame)
abbrev Cx.fs(X:Cx):List Addr:=Cc X.outer
def Vis(sc:Scope)(x:Str):Prop:=sc.names.lookup x=some .local∨sc.names.lookup x=some .cell∨sc.names.lookup x=some .free
def Loc(sc:Scope)(x:Str):Prop:=sc.names.lookup x=some .local∨sc.names.lookup x=some .cell
def Look(env:Env)(h:Heap)(m:Str->Option Value)(x:Str)(u:Value):Prop :=
 (env.kindOf x=some .local/\m x=some u)∨((env.kindOf x=some .cell∨env.kindOf x=some .free)/\∃c,env.cells.lookup x=some c/\h.IsCell c (some u))
structure Cx.Ok(X:Cx):Prop where
 mod:Mod X.K X.mg X.base
 kind:X.env.scope.kind=.function
 glob:X.env.globals=bM
 blt:X.env.builtins=builtinsNs
 above:X.s₀.heap.objs.size<=X.env.locals
 inj:∀x y c,X.env.cells.lookup x=some c->X.env.cells.lookup y=some c->x=y
 has:∀x,(X.env.kindOf x=some .cell∨X.env.kindOf x=some .free)->∃c,X.env.cells.lookup x=some c
 cab:∀x c,X.fn x=true->X.env.cells.lookup x=some c->X.s₀.heap.objs.size<=c
 hd:X.calm=true->X.A.handled=none
 frames:X.A.frames=some X.stack
 stk:X.stack=X.outer∨(X.stack=X.env::X.outer/\X.env.frame=some X.env.locals)
 exf:∀b∈X.ex,b≠X.env.locals/\∀x c,X.env.cells.lookup x=some c->c≠b
 bs:∀b o,X.base.get? b=some o->X.s₀.heap.get? b=some o/\(X.H₀ b=none∨∃xs,X.H₀ b=some (.tup xs))
 bsz:X.base.objs.size<=X.s₀.heap.objs.size
 noex:∀b o,X.base.get? b=some o->b∉X.ex
 exfs:∀b∈X.ex,b∉X.fs
 funs:X.s₀.heap.FunFrames X.base X.outer
 frf:∀b∈X.fs,X.H₀ b=none
structure Inv(X:Cx)(J2:Zd)(σ:List (Option V))(H:Hp)(s:Shared):Prop where
 ok:X.Ok
 os:s.os=X.s₀.os
 bare:mT s.gens
 base:Un X.fs X.ex X.H₀ H X.s₀.heap s.heap
 loc:∃m,s.heap.Ns X.env.locals m/\∀(i:Nat) (x:Str) (v:V),X.N[i]?=some x->σ[i]?=some (some v)->Vis X.env.scope x->∃u,RelV v u/\Look X.env s.heap m x u
 cell:∀x c,X.env.cells.lookup x=some c->∃v,s.heap.IsCell c v
 free:H X.env.locals=none
 freeC:∀x c,X.env.cells.lookup x=some c->H c=none
 pin:∀p∈X.pn++J2,s.heap.get? p.1=some p.2/\H p.1=none/\p.1≠X.env.locals/\p.1∉X.fs/\∀v,p.2.data≠.cell v
 hok:k7 X.prog X.w X.K H s.heap
 len:σ.length=X.N.length
section
variable{X:Cx}{J2:Zd}{σ:List (Option V)}{H H':Hp}{s:Shared}{h':Heap}
theorem Cx.Ok.nofr(ok:X.Ok){b:Addr}{o:Obj}(e:X.base.get? b=some o):b∉X.fs:=fun a=>by
 have:=(ok.funs.mem a).1;rw[e]at this;cases this
theorem Inv.bs(I:Inv X J2 σ H s):∀b o,X.base.get? b=some o->s.heap.get? b=some o/\(H b=none∨∃a,H b=some (.tup a)):=fun b o e=>by
 obtain⟨g,f|⟨a,f⟩⟩:=I.ok.bs b o e
 ·exact⟨I.base.keep b o g f (I.ok.nofr e) (I.ok.noex b o e),.inl (I.base.free b o g f (I.ok.noex b o e))⟩
 ·exact⟨I.base.tupk b a o f g,.inr ⟨a,I.base.tups b a f⟩⟩
theorem Inv.bk(I:Inv X J2 σ H s):∀b o,X.base.get? b=some o->s.heap.get? b=some o:=fun b o e=>(I.bs b o e).1
theorem Inv.mod(I:Inv X J2 σ H s):Mod X.K X.mg X.base:=I.ok.mod
theorem Inv.kIn(I:Inv X J2 σ H s):X.K.In s.heap:=I.ok.mod.kin.keeps I.bk
theorem Inv.lt(I:Inv X J2 σ H s):X.env.locals<s.heap.objs.size:=let⟨_,a,_⟩:=I.loc;a.lt
theorem Inv.sz(I:Inv X J2 σ H s):X.s₀.heap.objs.size<=s.heap.objs.size:=bp I.ok.above (fj I.lt)
theorem Inv.nofs(I:Inv X J2 σ H s){a:Addr}(h:s.heap.objs.size<=a):a∉X.fs:=fun e=>by
 obtain⟨_,o,f,_⟩:=I.ok.funs.mem e;exact absurd (ie (ba f) (bp I.sz h)) (pc _)
theorem Inv.cne(I:Inv X J2 σ H s):∀x c,X.env.cells.lookup x=some c->c≠X.env.locals:=fun x c e z=>by
 obtain⟨v,o,g,h⟩:=I.cell x c e;obtain⟨m,⟨i,j,k,a,f,_⟩,_⟩:=I.loc;rw[z,a]at g;cases g;rw[f]at h;cases h
theorem Inv.funs(I:Inv X J2 σ H s):s.heap.FunFrames X.base X.outer:=by
 have all:∀(l:List Env),(∀b∈Cc l,b∈X.fs)->X.s₀.heap.FunFrames X.base l->s.heap.FunFrames X.base l:=by
  intro l
  induction l with
  |nil=>intro _ _;trivial
  |cons h r i =>
   intro g j;obtain⟨k,⟨L,o,hf,m,n,p⟩,q⟩:=j;have a:L∈X.fs:=g L (by unfold Cc;rw[List.filterMap_cons,hf];exact dP);obtain⟨t,e⟩:=I.base.slot L o n (I.ok.frf L a) a fun z=>I.ok.exfs L z a;exact⟨k,⟨L,_,hf,m,e,p⟩,i (fun b f=>g b (by unfold Cc;rw[List.filterMap_cons,hf];exact eQ _ f)) q⟩
 exact all X.outer (fun _ f=>f) I.ok.funs
theorem Inv.stack(I:Inv X J2 σ H s):s.heap.FunFrames X.base X.stack:=by
 rcases I.ok.stk with e|⟨e,hf⟩
 ·rw[e];exact I.funs
 ·rw[e];obtain⟨m,a,_⟩:=I.loc;refine .cons (by rw[I.ok.kind];decide) hf a ?_ I.funs;exact Heap.get?_none_of_le (bp I.ok.bsz I.ok.above)
theorem Inv.stkSub(I:Inv X J2 σ H s):∀b∈Cc X.stack,b∈X.env.locals::X.fs:=fun b a=>by
 rcases I.ok.stk with e|⟨e,hf⟩
 ·rw[e]at a;exact eQ _ a
 ·rw[e]at a;unfold Cc at a;rw[List.filterMap_cons,hf]at a;exact a
theorem Inv.stkFree(I:Inv X J2 σ H s):∀b∈Cc X.stack,H b=none:=fun b hb=>by
 rcases du.mp (I.stkSub b hb)with e|hb
 ·rw[e];exact I.free
 ·obtain⟨_,o,a,_⟩:=I.ok.funs.mem hb;exact I.base.free b o a (I.ok.frf b hb) fun z=>I.ok.exfs b z hb
theorem Inv.step{g':Array GenState}{t':Nat}{d':Drawn}{ch:Ze}(I:Inv X J2 σ H s)
  (f:∀b∈ch,(b∈X.ex∨X.s₀.heap.objs.size<=b)/\b≠X.env.locals/\(∀x c,X.env.cells.lookup x=some c->c≠b)/\∀p∈X.pn++J2,p.1≠b)
  (g:∀b o,b≠X.env.locals->b∉X.fs->b∉ch->s.heap.get? b=some o->H b=none->h'.get? b=some o)
  (y:∀b o,b≠X.env.locals->b∈X.fs->b∉ch->s.heap.get? b=some o->H b=none->∃Q,h'.get? b=some { o with slots:=Q }) (free:∀b o,b∉ch->s.heap.get? b=some o->H b=none->H' b=none)
  (there:∀b o,b∉ch->s.heap.get? b=some o->∃C,h'.get? b=some C)
  (D:∀b a,H b=some (.tup a)->H' b=some (.tup a)) (E:∀b a o,H b=some (.tup a)->s.heap.get? b=some o->h'.get? b=some o) (G:∀b o u,H b=some (.frz o u)->H' b=some (.frz o u)) (J:∀b O,H b=some (.tbl O)->∃L,H' b=some (.tbl (O++L)))
  (ns:∀m,s.heap.Ns X.env.locals m->h'.Ns X.env.locals m) (T:k7 X.prog X.w X.K H' h') (hg:mT g') :
  Inv X J2 σ H' { s with heap:=h',gens:=g',drawn:=d',toks:=t' }:=by
 have M:∀b o,X.s₀.heap.get? b=some o->b≠X.env.locals:=fun b o e=>cY (ie (ba e) I.ok.above);have j:∀b o,X.s₀.heap.get? b=some o->b∉X.ex->b∉ch:=fun b o e hx A=>by
  rcases(f b A).1 with z|z
  ·exact hx z
  ·exact absurd (ie (ba e) z) (pc _)
 have cellK:∀x c,X.env.cells.lookup x=some c->∀v,s.heap.IsCell c v->h'.IsCell c v:=fun x c e v ⟨o,B,U⟩=>by
  have h:c∉ch:=fun z=>(f c z).2.2.1 x c e rfl;by_cases hc:c∈X.fs
  ·obtain⟨Q,q⟩:=y c o (I.cne x c e) hc h B (I.freeC x c e);exact⟨_,q,U⟩
  ·exact⟨o,g c o (I.cne x c e) hc h B (I.freeC x c e),U⟩
 refine⟨I.ok,I.os,hg,⟨fun b o e n A hx=>?_,fun b o e n A hx=>?_,fun b o e n hx=>?_,fun b o e hx=>?_,fun b a e=>D b a (I.base.tups b a e),fun b a o e z=>E b a o (I.base.tups b a e) (I.base.tupk b a o e z),fun b o a e=>G b o a (I.base.frzs b o a e),fun b O e=>?_⟩,?_,fun x c e=>?_,?_,fun x c e=>?_,fun p hp=>?_,T,I.len⟩
 ·exact g b o (M b o e) A (j b o e hx) (I.base.keep b o e n A hx) (I.base.free b o e n hx)
 ·obtain⟨Q,t⟩:=I.base.slot b o e n A hx;obtain⟨Y,N⟩:=y b _ (M b o e) A (j b o e hx) t (I.base.free b o e n hx);exact⟨Y,N⟩
 ·obtain⟨C,t⟩:=I.base.there b o e hx;exact free b C (j b o e hx) t (I.base.free b o e n hx)
 ·obtain⟨C,t⟩:=I.base.there b o e hx;exact there b C (j b o e hx) t
 ·obtain⟨m1,t⟩:=I.base.tbls b O e;obtain⟨m2,N⟩:=J b _ t;exact⟨m1++m2,by rw[N,Array.append_assoc]⟩
 ·obtain⟨m,hn,hl⟩:=I.loc;refine⟨m,ns m hn,fun i x v t N e3=>?_⟩;obtain⟨u,r,l⟩:=hl i x v t N e3;refine⟨u,r,?_⟩;rcases l with l|⟨k,c,e,z⟩
  ·exact .inl l
  ·exact .inr ⟨k,c,e,cellK x c e _ z⟩
 ·obtain⟨v,z⟩:=I.cell x c e;exact⟨v,cellK x c e v z⟩
 ·obtain⟨m,⟨o,_,_,B,_⟩,_⟩:=I.loc;exact free _ o (fun z=>(f _ z).2.1 rfl) B I.free
 ·obtain⟨v,o,B,U⟩:=I.cell x c e;exact free c o (fun z=>(f c z).2.2.1 x c e rfl) B (I.freeC x c e)
 ·obtain⟨e,n,ne,nf,d⟩:=I.pin p hp;have h:p.1∉ch:=fun z=>(f p.1 z).2.2.2 p hp rfl;exact⟨g p.1 p.2 ne nf h e n,free p.1 p.2 h e n,ne,nf,d⟩
theorem Inv.un{t':Nat}(I:Inv X J2 σ H s)(u:Un X.fs [] H H' s.heap h')(f:k7 X.prog X.w X.K H' h'):Inv X J2 σ H' { s with heap:=h',toks:=t' }:=by
 obtain⟨m,⟨o,q,t,j,r⟩,_⟩:=id I.loc;obtain⟨v,k⟩:=u.any j I.free (by simp);exact I.step (g':=s.gens) (d':=s.drawn) (ch:=[]) (fun _ z=>nomatch z) (fun b o _ g _ e n=>u.keep b o e n g (by simp)) (fun b o _ g _ e n=>u.slot b o e n g (by simp)) (fun b o _ e n=>u.free b o e n (by simp)) (fun b o _ e=>u.there b o e (by simp)) u.tups u.tupk u.frzs u.tbls (fun x l=>by
  obtain⟨y,h,i,a,p⟩:=l;rw[j]at a;cases a;exact⟨_,h,i,k,p⟩) f I.bare
theorem Inv.call{g':Array GenState}{t':Nat}{d':Drawn}{ch:Ze}(I:Inv X J2 σ H s)(u:Un (Cc X.stack) ch H H' s.heap h')(h:k7 X.prog X.w X.K H' h')(q:mT g')
  (f:∀b∈ch,(b∈X.ex∨X.s₀.heap.objs.size<=b)/\b≠X.env.locals/\(∀x c,X.env.cells.lookup x=some c->c≠b)/\∀p∈X.pn++J2,p.1≠b) :
  Inv X J2 σ H' { s with heap:=h',gens:=g',drawn:=d',toks:=t' }:=by
 obtain⟨m,⟨o,A,B,l,r⟩,_⟩:=id I.loc;obtain⟨C,i⟩:=u.any l I.free fun z=>(f _ z).2.1 rfl;exact I.step (ch:=ch) f (fun b o i t a e n=>u.keep b o e n (fun z=>(du.mp (I.stkSub b z)).elim i t) a) (fun b o _ _ a e n=>u.any e n a) (fun b o a e n=>u.free b o e n a) (fun b o a e=>u.there b o e a) u.tups u.tupk u.frzs u.tbls (fun D v=>by
  obtain⟨E,j,k,g,y⟩:=v;rw[l]at g;cases g;exact⟨_,j,k,i,y⟩) h q
theorem Inv.turned{t':Nat}{it:Addr}(I:Inv X J2 σ H s)(k:∀b o,b≠it->s.heap.get? b=some o->h'.get? b=some o)(h:H it=none)(g:it≠X.env.locals)
  (i:it∈X.ex∨X.s₀.heap.objs.size<=it) (j:∀x c,X.env.cells.lookup x=some c->c≠it) (l:∀p∈X.pn++J2,p.1≠it):Inv X J2 σ H { s with heap:=h',toks:=t' }:=by
 have a:∀b u,H b=some u->b≠it:=fun b u e z=>by rw[z,h]at e;cases e
 refine I.step (g':=s.gens) (d':=s.drawn) (ch:=[it]) (fun b t=>?_) (fun b o _ _ f e _=>k b o (fun z=>f (by simp[z])) e) (fun b o _ _ f e _=>⟨o.slots,k b o (fun z=>f (by simp[z])) e⟩) (fun _ _ _ _ n=>n)
  (fun b o f e=>⟨o,k b o (fun z=>f (by simp[z])) e⟩) (fun _ _ e=>e) (fun b C o e z=>k b o (a b _ e) z) (fun _ _ _ e=>e) (fun b D e=>⟨#[],by rw[e];simp⟩) (fun m w=>?_) (fun b u e=>?_) I.bare
 ·have e:b=it:=by simpa using t
  subst e;exact⟨i,g,j,l⟩
 ·obtain⟨o,y,A,B,r⟩:=w;exact⟨o,y,A,k _ o (ic g) B,r⟩
 ·refine(I.hok b u e).stay (fun c v f q=>k c v ?_ q) (fun _ q=>q) fun _ _ q=>q;rcases f with z|z
  ·rw[z];exact a b u e
  ·exact a c _ z
theorem Inv.tok(I:Inv X J2 σ H s)(t:Nat):Inv X J2 σ H { s with toks:=t }:=I.un (h':=s.heap) (t':=t) Un.refl I.hok
theorem Inv.kept{t':Nat}(I:Inv X J2 σ H s)(k:∀b u,s.heap.get? b=some u->h'.get? b=some u):Inv X J2 σ H { s with heap:=h',toks:=t' }:=I.un (Un.kept k) (I.hok.kept k)
theorem Inv.laid{a:Addr}{o:HO}{t':Nat}(I:Inv X J2 σ H s)(k:∀b u,s.heap.get? b=some u->h'.get? b=some u)(e:s.heap.objs.size<=a)(new:cj X.prog X.w X.K (upd H a o) h' a o):
  Inv X J2 σ (upd H a o) { s with heap:=h',toks:=t' }:=I.un (Un.laid k e (I.hok.fresh e)) (I.hok.laid k e new)
theorem Inv.write{x e:Addr}{o:HO}{t':Nat}(I:Inv X J2 σ H s)(f:GQ (H x))(g:e=x∨H e=some (.own x))(k:∀b u,b≠e->s.heap.get? b=some u->h'.get? b=some u)(a:∃u,h'.get? e=some u)
  (new:cj X.prog X.w X.K (upd H x o) h' x o):Inv X J2 σ (upd H x o) { s with heap:=h',toks:=t' }:=I.un (Un.write f g k a) (I.hok.write f g k a new)
theorem Inv.weak{σ':List (Option V)}(I:Inv X J2 σ H s)(e:σ'.length=σ.length)(w:∀(i:Nat) v,σ'[i]?=some (some v)->σ[i]?=some (some v)):Inv X J2 σ' H s :=
 ⟨I.ok,I.os,I.bare,I.base,let⟨m,f,a⟩:=I.loc;⟨m,f,fun i x v g h j=>a i x v g (w i v h) j⟩,I.cell,I.free,I.freeC,I.pin,I.hok,e.trans I.len⟩
theorem Inv.pins_of{a:Zd}(I:Inv X J2 σ H s)(h:∀p∈a,s.heap.get? p.1=some p.2/\H p.1=none/\p.1≠X.env.locals/\p.1∉X.fs/\∀v,p.2.data≠.cell v):Inv X a σ H s :=
 ⟨I.ok,I.os,I.bare,I.base,I.loc,I.cell,I.free,I.freeC,fun p e=>(bg.mp e).elim (fun z=>I.pin p (cJ _ z)) (h p),I.hok,I.len⟩
theorem xh{N:Zb}(e:N.Nodup){i j:Nat}{x:Str}(a:N[i]?=some x)(b:N[j]?=some x):i=j:=by
 obtain⟨h,f⟩:=cE.mp a;obtain⟨k,g⟩:=cE.mp b;exact(List.getElem_inj e).mp (f.trans g.symm)
theorem uc{M:Model}{A:Around}{E:Zc}{i:Nat}{x:Str}{v:V}{u:Value}{Q:Unit->Shared->Prop}(I:Inv X J2 σ H s)(hN:X.N.Nodup)(hi:X.N[i]?=some x)(hx:Loc X.env.scope x)(r:RelV v u)
  (h:∀s',Inv X J2 (σ.set i (some v)) H s'->(∃a,iK a s.heap s'.heap/\(a=X.env.locals∨X.env.cells.lookup x=some a))->Q () s') (hf:X.fn x=true∨X.env.scope.names.lookup x=some .local:=by first|exact .inl rfl|exact .inr rfl|assumption):wpAny M A (storeName X.env x u) Q E s:=by
 obtain⟨m,hn,hl⟩:=id I.loc;have G:(X.env.scope.kind==.class || (X.env.scope.kind==.module && X.env.locals != X.env.globals))=false:=by rw[I.ok.kind];rfl
 have hiσ:i<σ.length:=by rw[I.len];exact(cE.mp hi).1
 have cne:=I.cne;have tracked:∀{a:Addr}{h':Heap},(∃o,s.heap.get? a=some o/\H a=none)->iK a s.heap h'->k7 X.prog X.w X.K H h':=fun{a h'} ha f b ob e=>by
  obtain⟨_,_,l⟩:=ha;refine(I.hok b ob e).stay (fun c Y hc q=>(f.2 c ?_).trans q) (fun _ q=>q) fun _ _ q=>q;rintro rfl;rcases hc with rfl|hc
  ·rw[l]at e;cases e
  ·rw[l]at hc;cases hc
 rcases hx with hk|hk
 ·refine wpAny_storeName_local hk hn (fun h' al f=>?_) G;obtain⟨oL,_,_,an,_⟩:=id hn;refine h _ ⟨I.ok,I.os,I.bare,⟨fun b o e n B hx=>?_,fun b o e n B hx=>?_,I.base.free,fun b o e hx=>?_,I.base.tups,fun b J o e z=>(f.2 b (fun y=>by have:=I.base.tups b J e;rw[y,I.free]at this;cases this)).trans (I.base.tupk b J o e z),I.base.frzs,I.base.tbls⟩,⟨_,al,fun j y v' g t e3=>?_⟩,fun y c e=>?_,I.free,I.freeC,fun p hp=>?_,tracked ⟨oL,an,I.free⟩ f,by simpa using I.len⟩ ⟨_,f,.inl rfl⟩
  ·exact(f.2 b (cY (ie (ba e) I.ok.above))).trans (I.base.keep b o e n B hx)
  ·obtain⟨sl,g⟩:=I.base.slot b o e n B hx;exact⟨sl,(f.2 b (cY (ie (ba e) I.ok.above))).trans g⟩
  ·obtain⟨o',g⟩:=I.base.there b o e hx;exact⟨o',(f.2 b (cY (ie (ba e) I.ok.above))).trans g⟩
  ·by_cases C:j=i
   ·subst C;rw[hi]at g;cases g;rw[List.getElem?_set_self hiσ]at t;cases t;exact⟨u,r,.inl ⟨hk,by simp⟩⟩
   ·rw[List.getElem?_set_ne (ic C)]at t;obtain⟨u',r',q⟩:=hl j y v' g t e3;refine⟨u',r',?_⟩;rcases q with⟨k,e⟩|⟨k,c,e,z⟩
    ·refine .inl ⟨k,?_⟩;have:y≠x:=fun e=>C (xh hN g (e▸hi));simp[this,e]
    ·exact .inr ⟨k,c,e,z.sameBut f (cne y c e)⟩
  ·obtain⟨Y,z⟩:=I.cell y c e;exact⟨Y,z.sameBut f (cne y c e)⟩
  ·obtain⟨e,n,ne,nf,d⟩:=I.pin p hp;exact⟨(f.2 p.1 ne).trans e,n,ne,nf,d⟩
 ·have D:X.fn x=true:=by
   rcases hf with z|z
   ·exact z
   ·rw[z]at hk;cases hk
  obtain⟨c,hc⟩:=I.ok.has x (.inl hk);obtain⟨Y,z⟩:=I.cell x c hc;refine wpAny_storeName_cell I.ok.kind hk hc z (fun h' L f=>?_);obtain⟨oc,O,T⟩:=id z;refine h { s with heap:=h' } ⟨I.ok,I.os,I.bare,⟨fun b o e n B hx=>?_,fun b o e n B hx=>?_,I.base.free,fun b o e hx=>?_,I.base.tups,fun b J o e z=>(f.2 b (fun y=>by have:=I.base.tups b J e;rw[y,I.freeC x c hc]at this;cases this)).trans (I.base.tupk b J o e z),I.base.frzs,I.base.tbls⟩,⟨m,hn.sameBut f (ic (cne x c hc)),fun j y v' g t e3=>?_⟩,fun y c' e=>?_,I.free,I.freeC,fun p hp=>?_,tracked ⟨oc,O,I.freeC x c hc⟩ f,by simpa using I.len⟩ ⟨c,f,.inr hc⟩
  ·exact(f.2 b (cY (ie (ba e) (I.ok.cab x c D hc)))).trans (I.base.keep b o e n B hx)
  ·obtain⟨sl,g⟩:=I.base.slot b o e n B hx;exact⟨sl,(f.2 b (cY (ie (ba e) (I.ok.cab x c D hc)))).trans g⟩
  ·obtain⟨o',g⟩:=I.base.there b o e hx;exact⟨o',(f.2 b (cY (ie (ba e) (I.ok.cab x c D hc)))).trans g⟩
  ·by_cases C:j=i
   ·subst C;rw[hi]at g;cases g;rw[List.getElem?_set_self hiσ]at t;cases t;exact⟨u,r,.inr ⟨.inl hk,c,hc,L⟩⟩
   ·rw[List.getElem?_set_ne (ic C)]at t;obtain⟨u',r',q⟩:=hl j y v' g t e3;refine⟨u',r',?_⟩;rcases q with q|⟨k,c',e,z'⟩
    ·exact .inl q
    ·refine .inr ⟨k,c',e,z'.sameBut f ?_⟩;rintro rfl;exact C (xh hN g (I.ok.inj _ _ _ e hc▸hi))
  ·by_cases U:c'=c
   ·subst U;exact⟨_,L⟩
   ·obtain⟨w2,z2⟩:=I.cell y c' e;exact⟨w2,z2.sameBut f U⟩
  ·obtain⟨e,n,ne,nf,d⟩:=I.pin p hp;refine⟨(f.2 p.1 ?_).trans e,n,ne,nf,d⟩;intro q;rw[q,O]at e;have q':oc=p.2:=eR e;exact d Y (by rw[<-q'];exact T)
theorem wR{M:Model}{A:Around}{E:Zc}{i:Nat}{x:Str}{v:V}{u:Value}{Q:Unit->Shared->Prop}(I:Inv X J2 σ H s)(e:X.N.Nodup)(hi:X.N[i]?=some x)(hx:Loc X.env.scope x)(r:RelV v u)
  (h:∀a,Inv X J2 (σ.set i (some v)) H a->Q () a) (hf:X.fn x=true∨X.env.scope.names.lookup x=some .local:=by first|exact .inl rfl|exact .inr rfl|assumption):wpAny M A (storeName X.env x u) Q E s :=
 uc I e hi hx r (fun a f _=>h a f) hf
theorem Inv.call'{a:Shared}{h:Ze}(I:Inv X J2 σ H s)(i:a.os=s.os)(u:Un (Cc X.stack) h H H' s.heap a.heap)(f:k7 X.prog X.w X.K H' a.heap)(j:mT a.gens)
  (g:∀b∈h,(b∈X.ex∨X.s₀.heap.objs.size<=b)/\b≠X.env.locals/\(∀x c,X.env.cells.lookup x=some c->c≠b)/\∀p∈X.pn++J2,p.1≠b):Inv X J2 σ H' a:=by
 obtain⟨h',k,l,m,n⟩:=a;have e:n=s.os:=i;subst e;exact I.call (g':=k) (t':=m) (d':=l) u f j g
end
abbrev XK:=Value->Option Addr->Hp->Prop
abbrev St:=List (Option V)
abbrev VK:=V->Hp->Prop
abbrev TE:=St->Hp->VK->Prop
abbrev TT:=St->Hp->(Bool->Hp->Prop)->Prop
abbrev TA:=St->Hp->(List V->Hp->Prop)->Prop
structure pW where
 nx:St->Hp->Prop
 rt:VK
 bk:St->Hp->Prop:=fun _ _=>False
 ct:St->Hp->Prop:=fun _ _=>False
abbrev bQ(Q:VK):pW:={ nx:=fun _ H=>Q .non H,rt:=Q }
abbrev TS:=pW->St->Hp->Prop
def EP(X:Cx)(J2:Zd)(σ:St)(Q:VK)(u:Value)(s':Shared):Prop:=∃v H',Inv X J2 σ H' s'/\RelV v u/\Q v H'
def TP(X:Cx)(J2:Zd)(σ:St)(Q:Bool->Hp->Prop)(b:Bool)(s':Shared):Prop:=∃H',Inv X J2 σ H' s'/\Q b H'
def AP(X:Cx)(J2:Zd)(σ:St)(Q:List V->Hp->Prop)(us:Zf)(s':Shared):Prop:=∃vs H',Inv X J2 σ H' s'/\a_ vs us/\Q vs H'
def SP(X:Cx)(J2:Zd)(D:pW)(f:Flow)(s':Shared):Prop :=
 match f with
 |.next=>∃σ' H',Inv X J2 σ' H' s'/\D.nx σ' H'
 |.brk=>∃σ' H',Inv X J2 σ' H' s'/\D.bk σ' H'
 |.cont=>∃σ' H',Inv X J2 σ' H' s'/\D.ct σ' H'
 |.ret u=>∃v σ' H',Inv X J2 σ' H' s'/\RelV v u/\D.rt v H'
def PE(X:Cx)(e:Expr)(t:TE):Prop :=
 ∀(J2:Zd) (s:Shared) (σ:St) (H:Hp) (Q:VK),Inv X J2 σ H s->t σ H Q->wpAny (model X.prog X.w) X.A (eval e X.env) (EP X J2 σ Q) X.xe s
def PT(X:Cx)(e:Expr)(t:TT):Prop :=
 ∀(J2:Zd) (s:Shared) (σ:St) (H:Hp) (Q:Bool->Hp->Prop),Inv X J2 σ H s->t σ H Q->wpAny (model X.prog X.w) X.A (isTrue e X.env (eval e X.env)) (TP X J2 σ Q) X.xe s
def PW(X:Cx)(e:Expr)(t:TT):Prop :=
 ∀(whole:Sem Value) (J2:Zd) (s:Shared) (σ:St) (H:Hp) (Q:Bool->Hp->Prop),Inv X J2 σ H s->t σ H Q->wpAny (model X.prog X.w) X.A (isTrue e X.env whole) (TP X J2 σ Q) X.xe s
theorem PW.pt{X:Cx}{e:Expr}{t:TT}(h:PW X e t):PT X e t:=h _
def PA(X:Cx)(es:List Expr)(t:TA):Prop :=
 ∀(pos:Pos) (J2:Zd) (s:Shared) (σ:St) (H:Hp) (Q:List V->Hp->Prop),Inv X J2 σ H s->t σ H Q->wpAny (model X.prog X.w) X.A (spliced (backTo pos (aI es X.env))) (AP X J2 σ Q) X.xe s
def PS(X:Cx)(st:Stmt)(t:TS):Prop :=
 ∀(J2:Zd) (s:Shared) (σ:St) (H:Hp) (D:pW),Inv X J2 σ H s->t D σ H->wpAny (model X.prog X.w) X.A (exec st X.env) (SP X J2 D) X.xe s
def xW(X:Cx)(st:List Stmt)(t:TS):Prop :=
 ∀(J2:Zd) (s:Shared) (σ:St) (H:Hp) (D:pW),Inv X J2 σ H s->t D σ H->wpAny (model X.prog X.w) X.A (execs st X.env) (SP X J2 D) X.xe s
theorem cA{α:Type}{t:Sem α}{Q e:α->Shared->Prop}{M:Model}{A:Around}{E:Zc}{s:Shared}(h:wpAny M A t Q E s)(f:∀a s,Q a s->e a s):wpAny M A t e E s:=mV h f fun _ _ x=>x
end L2
namespace L2
open PySem PySem.Spec PyProof.Rows
section
variable{X:Cx}
def mf(i:Nat):TE:=fun σ H Q=>∃v,σ[i]?=some (some v)/\Q v H
abbrev V0:TE:=mf 0
abbrev V1:TE:=mf 1
abbrev V2:TE:=mf 2
abbrev V3:TE:=mf 3
abbrev V4:TE:=mf 4
abbrev V5:TE:=mf 5
abbrev V6:TE:=mf 6
abbrev V7:TE:=mf 7
abbrev V8:TE:=mf 8
abbrev V9:TE:=mf 9
abbrev E_:TE:=mf 10
abbrev GN:TE:=mf 11
abbrev GL:TE:=mf 12
def tC(v:V):TE:=fun _ H Q=>Q v H
theorem FU{i:Nat}{x:Str}{g:Pos}(o:X.N[i]?=some x)(p:Vis X.env.scope x)(j:(x==("__debug__":Str))=false:=by decide)(k:(x==("__classdict__":Str))=false:=by decide):PE X (.Name x g) (mf i):=by
 intro J2 s σ H Q I h;obtain⟨v,e,h⟩:=h;obtain⟨m,q,t⟩:=I.loc;obtain⟨u,r,l⟩:=t i x v o e p;have f:EP X J2 σ Q u s:=⟨v,H,I,r,h⟩;rcases l with⟨hk,w⟩|⟨hk,c,n,a⟩
 ·exact wpAny_Name (wpAny_loadName_local I.ok.kind hk q w f) j
 ·rcases hk with hk|hk
  ·exact wpAny_Name (wpAny_loadName_cell I.ok.kind hk n a f) j
  ·exact wpAny_Name (wpAny_loadName_free I.ok.kind hk n a f k) j
theorem ah{i j a}:PE X (.Constant (.int i) j a) (tC (.int i)):=fun _ _ _ H _ I h=>wpAny_Constant_int ⟨.int i,H,I.tok _,⟨_,rfl⟩,h⟩
theorem eT{b j a}:PE X (.Constant (.bool b) j a) (tC (.bl b)):=fun _ _ _ H _ I h=>Constant_bool ⟨.bl b,H,I,rfl,h⟩
theorem oH{j a}:PE X (.Constant .none j a) (tC .non):=fun _ _ _ H _ I h=>Constant_none ⟨.non,H,I,rfl,h⟩
theorem bF{x j a}:PE X (.Constant (.str x) j a) (tC (.str x)):=fun _ _ _ H _ I h=>Calls.Constant_str ⟨.str x,H,I.tok _,⟨_,rfl⟩,h⟩
def Gl(X:Cx)(x:Str):Prop:=X.env.kindOf x=some .globalImplicit
theorem vM{E:Zc}{e:Zd}{s:Shared}{σ:St}{H:Hp}{x:Str}{u:Value}{a:Pos}{Q:Zc}(I:Inv X e σ H s)(f:Gl X x)(g:X.mg x=some u)(h:Q u s)
  (i:(x==("__debug__":Str))=false:=by decide):wpAny (model X.prog X.w) X.A (eval (.Name x a) X.env) Q E s :=
 Calls.Name_function_global I.ok.kind f (Calls.loadGlobal_global (by rw[I.ok.glob];exact I.mod.glob.keeps I.bk) g h) i
theorem oP{E:Zc}{e:Zd}{s:Shared}{σ:St}{H:Hp}{x:Str}{u:Value}{a:Pos}{Q:Zc}(I:Inv X e σ H s)(f:Gl X x)(g:X.mg x=none)(i:iL x=some u)(h:Q u s)
  (j:x≠"__name__":=by decide) (k:(x==("__debug__":Str))=false:=by decide):wpAny (model X.prog X.w) X.A (eval (.Name x a) X.env) Q E s:=by
 obtain⟨n,l,m⟩:=I.mod.blt;exact Calls.Name_function_global I.ok.kind f (Calls.loadGlobal_builtin (by rw[I.ok.glob];exact I.mod.glob.keeps I.bk) g (by rw[I.ok.blt];exact l.keeps I.bk) ((m x j).trans i) h) k
theorem EB{x:Str}{v:V}{u:Value}{a:Pos}(e:Gl X x)(f:X.mg x=some u)(r:RelV v u)(g:(x==("__debug__":Str))=false:=by decide):PE X (.Name x a) (tC v) :=
 fun _ _ _ H _ I h=>vM I e f ⟨v,H,I,r,h⟩ g
theorem nC{x:Str}{v:V}{u:Value}{a:Pos}(e:Gl X x)(f:X.mg x=none)(g:iL x=some u)(r:RelV v u)(i:x≠"__name__":=by decide)(j:(x==("__debug__":Str))=false:=by decide):PE X (.Name x a) (tC v) :=
 fun _ _ _ H _ I h=>oP I e f g ⟨v,H,I,r,h⟩ i j
variable{a b:Expr}{ta tb:TE}{pos:Pos}
def PC(X:Cx)(op:CmpOp)(a b:Expr)(t:TE):Prop :=
 ∀(J2:Zd) (s:Shared) (σ:St) (H:Hp) (Q:VK),Inv X J2 σ H s->t σ H Q ->
  wpAny (model X.prog X.w) X.A (eval a X.env) (fun v s₁=>wpAny (model X.prog X.w) X.A (eval b X.env) (fun u s₂=>wpAny (model X.prog X.w) X.A (dO op v u) (EP X J2 σ Q) X.xe s₂) X.xe s₁) X.xe s
theorem xi(b:Expr){e:CmpOp}(h:e≠.In)(f:e≠.NotIn):jV e b=false:=by
 have g:(e==CmpOp.In)=false:=by cases e<;>first|rfl|exact absurd rfl h
 have i:(e==CmpOp.NotIn)=false:=by cases e<;>first|rfl|exact absurd rfl f
 cases b<;>simp[jV,g,i]
def Ed(ta:TE):TE:=fun σ H Q=>ta σ H fun x H1=>Q (.bl (decide (x=.non))) H1
def Ai(ta:TE):TE:=fun σ H Q=>ta σ H fun x H1=>Q (.bl (!decide (x=.non))) H1
theorem RelV.none_iff{x:V}{v:Value}(r:RelV x v):(v==Value.none)=decide (x=.non):=by
 cases x with
 |non=>cases r;rfl
 |bl _=>cases r;rfl
 |int _=>obtain⟨t,rfl⟩:=r;rfl
 |str _=>obtain⟨t,rfl⟩:=r;rfl
 |byt _=>obtain⟨t,rfl⟩:=r;rfl
 |flt _=>obtain⟨t,rfl⟩:=r;rfl
 |ref _=>cases r;rfl
 |ty _=>cases r;rfl
theorem yT{j e}(g:PE X a ta):PC X .Is a (.Constant .none j e) (Ed ta):=by
 intro i s σ H Q I h;refine cA (g i s σ H _ I h) fun v o f=>?_;obtain⟨x,k,l,m,n⟩:=f;exact Constant_none (is_none_gen ⟨.bl _,k,l,by rw[m.none_iff];rfl,n⟩)
theorem vF{j e}(g:PE X a ta):PC X .IsNot a (.Constant .none j e) (Ai ta):=by
 intro i s σ H Q I h;refine cA (g i s σ H _ I h) fun v o f=>?_;obtain⟨x,k,l,m,n⟩:=f;exact Constant_none (isnot_none_gen ⟨.bl _,k,l,by rw[m.none_iff];rfl,n⟩)
def tB(t:TE):TT:=fun σ H Q=>t σ H fun x H1=>∃c,x=.bl c/\Q c H1
theorem vE{e:CmpOp}{t:TE}(h:PC X e a b t)(f:jV e b=false:=by first|exact xi _ (by decide) (by decide)|rfl):PE X (.Compare a [e] [b] pos) t:=fun g s σ H Q I i=>wpAny_Compare1 (h g s σ H Q I i) f
theorem gj{e:CmpOp}{t:TE}(h:PC X e a b t)(f:jV e b=false:=by first|exact xi _ (by decide) (by decide)|rfl):PT X (.Compare a [e] [b] pos) (tB t):=by
 intro i s σ H Q I j;refine wpAny_isTrue_Compare1 (cA (h i s σ H _ I j) fun v p f=>cA f fun u r k=>cA k fun c w g=>?_) f;obtain⟨x,l,m,n,o⟩:=g;obtain⟨d,rfl,q⟩:=o;cases n;exact qq ⟨l,m,q⟩
theorem df{e:Expr}{t:TE}(h:PE X e t)(g:∀whole,isTrue e X.env whole=(do let v <- whole;pb e.pos;j6 [v] (truthy v)):=by intro _;rfl):PT X e (tB t):=by
 intro i s σ H Q I j;refine isTrue_plain (cA (h i s σ H _ I j) fun v o f=>?_) (g _);obtain⟨x,k,l,m,n⟩:=f;obtain⟨d,rfl,q⟩:=n;cases m;exact qq ⟨k,l,q⟩
variable{tA tB':TT}{rest:List Expr}
def jY(t u:TT):TT:=fun σ H Q=>t σ H fun c H1=>if c=true then u σ H1 Q else Q false H1
def Bb(t u:TT):TT:=fun σ H Q=>t σ H fun c H1=>if c=true then Q true H1 else u σ H1 Q
def qV(t:TT):TT:=fun σ H Q=>t σ H fun c H1=>Q (!c) H1
theorem eo(f:PT X a tA):PW X (.BoolOp .And [a] pos) tA:=by
 intro i g s σ H Q I h;refine isTrue_and (cA (f g s σ H Q I h) fun c j e=>?_);cases c with
 |true=>exact isTrue_and_nil e
 |false=>exact e
theorem jH(f:PT X a tA):PW X (.BoolOp .Or [a] pos) tA:=by
 intro i g s σ H Q I h;refine isTrue_or (cA (f g s σ H Q I h) fun c j e=>?_);cases c with
 |false=>exact isTrue_or_nil e
 |true=>exact e
theorem eK(k:PT X a tA)(l:PW X (.BoolOp .And (b::rest) pos) tB'):PW X (.BoolOp .And (a::b::rest) pos) (jY tA tB'):=by
 intro m f s σ H Q I h;refine isTrue_and (cA (k f s σ H _ I h) fun c n e=>?_);obtain⟨g,i,j⟩:=e;cases c with
 |true=>exact l m f n σ g Q i j
 |false=>exact⟨g,i,j⟩
theorem jW(k:PT X a tA)(l:PW X (.BoolOp .Or (b::rest) pos) tB'):PW X (.BoolOp .Or (a::b::rest) pos) (Bb tA tB'):=by
 intro m f s σ H Q I h;refine isTrue_or (cA (k f s σ H _ I h) fun c n e=>?_);obtain⟨g,i,j⟩:=e;cases c with
 |true=>exact⟨g,i,j⟩
 |false=>exact l m f n σ g Q i j
theorem i7(e:PT X a tA):PT X (.UnaryOp .Not a pos) (qV tA):=by
 intro f s σ H Q I h;exact isTrue_not (e f s σ H (fun c g=>Q (!c) g) I h)
def ph(ta tb:TE):TE:=fun σ H Q=>ta σ H fun x H1=>∃c,x=.bl c/\if c=true then tb σ H1 Q else Q (.bl false) H1
def Fg(ta:TE):TE:=fun σ H Q=>ta σ H fun x H1=>∃c,x=.bl c/\Q (.bl (!c)) H1
theorem rJ{e}{t:TE}(h:PE X a t):PE X (.BoolOp e [a] pos) t:=fun f s σ H Q I g=>BoolOp_one (h f s σ H Q I g)
theorem mr(k:PE X a ta)(l:PE X (.BoolOp .And (b::rest) pos) tb):PE X (.BoolOp .And (a::b::rest) pos) (ph ta tb):=by
 intro g s σ H Q I h;refine BoolOp_and (cA (k g s σ H _ I h) fun v m f=>?_);obtain⟨x,i,j,n,e⟩:=f;obtain⟨c,rfl,e⟩:=e;cases n;refine qq ?_;cases c with
 |true=>exact l g m σ i Q j e
 |false=>exact⟨.bl false,i,j,rfl,e⟩
theorem FV(g:PE X a ta):PE X (.UnaryOp .Not a pos) (Fg ta):=by
 intro i s σ H Q I h;refine UnaryOp_ (cA (g i s σ H _ I h) fun v m e=>?_);obtain⟨x,j,k,l,f⟩:=e;obtain⟨c,rfl,f⟩:=f;cases l;exact not_of (qq ⟨.bl (!c),j,k,rfl,f⟩)
def tIf(t:TT)(ta tb:TE):TE:=fun σ H Q=>t σ H fun c H1=>if c=true then ta σ H1 Q else tb σ H1 Q
theorem C4{c:Expr}(l:PT X c tA)(m:PE X a ta)(n:PE X b tb):PE X (.IfExp c a b pos) (tIf tA ta tb):=by
 intro e s σ H Q I h;refine wpAny_IfExp (cA (l e s σ H _ I h) fun d g f=>?_);obtain⟨i,j,k⟩:=f;cases d with
 |true=>exact m e g σ i Q j k
 |false=>exact n e g σ i Q j k
end
end L2
namespace L2
open PySem PySem.Spec PyProof.Rows
def ax(K:Za)(H:Hp)(a:Addr)(xs:List V):Prop :=
 Rd H a (.lst xs) ∨
  ∃(o:Obj) (its:Array Value) (n:Nat),K.lookup a=some o/\o.cls=.type "list"/\o.dict=none/\o.data=.seq its n/\its.size<=aj/\a_ xs its.toList
def bc(K:Za)(H:Hp)(a:Addr)(xs:List V):Prop :=
 Rd H a (.tup xs) ∨
  ∃(o:Obj) (its:Array Value) (n:Nat),K.lookup a=some o/\o.cls=.type "tuple"/\o.data=.seq its n/\its.size<=aj/\a_ xs its.toList
def absV:Value->Option V
 |.none=>some .non
 |.bool b=>some (.bl b)
 |.int i _=>some (.int i)
 |.str x _=>some (.str x)
 |.bytes b _=>some (.byt b)
 |.float b _=>some (.flt b)
 |.ref a=>some (.ref a)
 |.type n=>some (.ty n)
 |_=>none
theorem RelV.abs{x:V}{u:Value}(r:RelV x u):absV u=some x:=by
 cases x with
 |non=>cases r;rfl
 |bl _=>cases r;rfl
 |int _=>obtain⟨t,rfl⟩:=r;rfl
 |str _=>obtain⟨t,rfl⟩:=r;rfl
 |byt _=>obtain⟨t,rfl⟩:=r;rfl
 |flt _=>obtain⟨t,rfl⟩:=r;rfl
 |ref _=>cases r;rfl
 |ty _=>cases r;rfl
theorem RelV.inj{x y:V}{u:Value}(r:RelV x u)(q:RelV y u):x=y:=eR (r.abs.symm.trans q.abs)
theorem a_.inj{e a:List V}{f:Zf}(h:a_ e f)(g:a_ a f):e=a:=by
 induction h generalizing a with
 |nil=>cases g;rfl
 |cons r _ i =>
  cases g with
  |cons j k=>rw[r.inj j,i k]
section
variable{X:Cx}{J2:Zd}{σ:St}{H:Hp}{s:Shared}{a:Addr}{xs ys:List V}
theorem ax.of{K:Za}(h:H a=some (.lst xs)):ax K H a xs:=.inl (.inl h)
theorem bc.of{K:Za}(h:H a=some (.tup xs)):bc K H a xs:=.inl (.inl h)
theorem Inv.list(I:Inv X J2 σ H s)(h:ax X.K H a xs):∃f:List Value,a_ xs f/\PlainL s.heap a f.toArray/\xs.length<=aj:=by
 rcases h with h|⟨o,f,n,g,i,j,k,l,r⟩
 ·obtain⟨z,f,n,r,e⟩:=h.ok I.hok;exact⟨f,r,⟨_,n,e,rfl,rfl,rfl⟩,z⟩
 ·refine⟨f.toList,r,⟨o,n,I.kIn a o g,i,j,by simpa using k⟩,?_⟩;have e:=r.length;simp only[mS]at e;omega
theorem Inv.tuple(I:Inv X J2 σ H s)(h:bc X.K H a xs):∃f:List Value,a_ xs f/\IsTup s.heap a f.toArray/\xs.length<=aj:=by
 rcases h with h|⟨o,f,n,g,i,j,k,r⟩
 ·obtain⟨z,f,r,p⟩:=h.ok I.hok;exact⟨f,r,p,z⟩
 ·refine⟨f.toList,r,⟨o,I.kIn a o g,i,n,by simpa using j⟩,?_⟩;have e:=r.length;simp only[mS]at e;omega
theorem Inv.list_inj(I:Inv X J2 σ H s)(h:ax X.K H a xs)(k:ax X.K H a ys):xs=ys:=by
 obtain⟨g,r,⟨o,n,e,_,_,d⟩,_⟩:=I.list h;obtain⟨f,l,⟨p,q,i,_,_,j⟩,_⟩:=I.list k;rw[e]at i;cases i;rw[d]at j;injection j with m _;have:g=f:=by simpa using congrArg Array.toList m
 subst this;exact r.inj l
theorem Inv.tuple_inj(I:Inv X J2 σ H s)(h:bc X.K H a xs)(k:bc X.K H a ys):xs=ys:=by
 obtain⟨g,r,⟨o,e,_,n,d⟩,_⟩:=I.tuple h;obtain⟨f,l,⟨p,i,_,q,j⟩,_⟩:=I.tuple k;rw[e]at i;cases i;rw[d]at j;injection j with m _;have:g=f:=by simpa using congrArg Array.toList m
 subst this;exact r.inj l
end
abbrev Cx.wish(X:Cx)(E:Zc):Cx:={ X with xe:=E }
abbrev Cx.nox(X:Cx):Cx:=X.wish fun _ _=>False
theorem Cx.Ok.wish{X:Cx}(ok:X.Ok)(E:Zc):(X.wish E).Ok :=
 ⟨ok.mod,ok.kind,ok.glob,ok.blt,ok.above,ok.inj,ok.has,ok.cab,ok.hd,ok.frames,ok.stk,ok.exf,ok.bs,ok.bsz,ok.noex,ok.exfs,ok.funs,ok.frf⟩
theorem Cx.Ok.unwish{X:Cx}{E:Zc}(ok:(X.wish E).Ok):X.Ok :=
 ⟨ok.mod,ok.kind,ok.glob,ok.blt,ok.above,ok.inj,ok.has,ok.cab,ok.hd,ok.frames,ok.stk,ok.exf,ok.bs,ok.bsz,ok.noex,ok.exfs,ok.funs,ok.frf⟩
section
variable{X:Cx}{J2:Zd}{σ:St}{H:Hp}{s:Shared}{E:Zc}
theorem Inv.wish(I:Inv X J2 σ H s)(E:Zc):Inv (X.wish E) J2 σ H s:=⟨I.ok.wish E,I.os,I.bare,I.base,I.loc,I.cell,I.free,I.freeC,I.pin,I.hok,I.len⟩
theorem Inv.unwish(I:Inv (X.wish E) J2 σ H s):Inv X J2 σ H s:=⟨I.ok.unwish,I.os,I.bare,I.base,I.loc,I.cell,I.free,I.freeC,I.pin,I.hok,I.len⟩
theorem SP.unwish{D:pW}{f:Flow}{e:Shared}(h:SP (X.wish E) J2 D f e):SP X J2 D f e:=by
 cases f with
 |next=>obtain⟨σ',a,I,q⟩:=h;exact⟨σ',a,I.unwish,q⟩
 |brk=>obtain⟨σ',a,I,q⟩:=h;exact⟨σ',a,I.unwish,q⟩
 |cont=>obtain⟨σ',a,I,q⟩:=h;exact⟨σ',a,I.unwish,q⟩
 |ret u=>obtain⟨v,σ',a,I,r,q⟩:=h;exact⟨v,σ',a,I.unwish,r,q⟩
theorem xW.nox{st:List Stmt}{t:TS}(h:xW X.nox st t):xW X st t:=fun J2 s σ H D I a =>
 mV (h J2 s σ H D (I.wish _) a) (fun _ _ q=>q.unwish) fun _ _ z=>jh z
end
section
variable{X:Cx}{st:Stmt}{rest:List Stmt}{t u:TS}{e:Expr}{te:TE}{pos:Pos}
def bt:TS:=fun D σ H=>D.nx σ H
def ao(t u:TS):TS:=fun D σ H=>t { D with nx:=u D } σ H
theorem aH:xW X [] bt:=fun _ _ σ H _ I h=>Aa ⟨σ,H,I,h⟩
theorem ab(g:PS X st t)(i:xW X rest u):xW X (st::rest) (ao t u):=by
 intro a s σ H D I h;refine wpAny_execs_cons (cA (g a s σ H { D with nx:=u D } I h) fun f j q=>?_);cases f with
 |next =>
  obtain⟨σ',k,l,q⟩:=q;exact i a j σ' k D l q
 |ret v=>exact q
 |brk=>exact q
 |cont=>exact q
theorem af(a:PS X st t):xW X [st] t:=by
 intro g s σ H D I h;refine wpAny_execs_cons (cA (a g s σ H D I h) fun f i q=>?_);cases f with
 |next=>exact Aa q
 |ret v=>exact q
 |brk=>exact q
 |cont=>exact q
theorem Inv.quiet{a:Zd}{σ:St}{H:Hp}{s:Shared}(I:Inv X a σ H s):interactive X.env=false:=by simp[interactive,I.ok.kind]
def cr(te:TE):TS:=fun D σ H=>te σ H fun _ H1=>D.nx σ H1
theorem br(a:PE X e te)(f:qj e none pos.line X.env=pure false:=by rfl):PS X (.Expr e pos) (cr te):=by
 intro g s σ H D I h;exact wpAny_Expr_any (cA (a g s σ H _ I h) fun v l ⟨x,i,j,m,k⟩=>⟨σ,i,j,k⟩) I.quiet f
def bo(te:TE):TS:=fun D σ H=>te σ H D.rt
theorem au(a:PE X e te):PS X (.Return (some e) pos) (bo te):=by
 intro f s σ H D I h;exact wpAny_Return_some (cA (a f s σ H _ I h) fun v l ⟨x,g,i,j,k⟩=>⟨x,σ,g,i,j,k⟩)
def cp(c:TT)(t u:TS):TS:=fun D σ H=>c σ H fun b H1=>if b=true then t D σ H1 else u D σ H1
theorem bv{c:Expr}{a b:List Stmt}{i:TT}(n:PT X c i)(o:xW X a t)(p:xW X b u):PS X (.If c a b pos) (cp i t u):=by
 intro f s σ H D I h;refine wpAny_If (cA (n f s σ H _ I h) fun d j g=>?_);obtain⟨k,l,m⟩:=g;cases d with
 |true=>exact o f j σ k D l m
 |false=>exact p f j σ k D l m
def vf:TS:=fun _ _ _=>False
theorem rE:PS X st vf:=fun _ _ _ _ _ _ h=>h.elim
end
abbrev TG:=V->St->Hp->(St->Hp->Prop)->Prop
abbrev Cd:=List V->St->Hp->(St->Hp->Prop)->Prop
def PG(X:Cx)(target:Expr)(t:TG):Prop :=
 ∀(J2:Zd) (s:Shared) (σ:St) (H:Hp) (v:V) (u:Value) (Q:St->Hp->Prop),Inv X J2 σ H s->RelV v u->t v σ H Q ->
  wpAny (model X.prog X.w) X.A (assign target X.env u) (fun _ s'=>∃σ' H',Inv X J2 σ' H' s'/\Q σ' H') X.xe s
def Hd(X:Cx)(ts:List Expr)(t:Cd):Prop :=
 ∀(J2:Zd) (s:Shared) (σ:St) (H:Hp) (vs:List V) (us:Zf) (Q:St->Hp->Prop),Inv X J2 σ H s->a_ vs us->t vs σ H Q ->
  wpAny (model X.prog X.w) X.A (assignInOrder ((tW ts X.env).map (·.2)) us) (fun _ s'=>∃σ' H',Inv X J2 σ' H' s'/\Q σ' H') X.xe s
abbrev Gh:=V->V->V->Hp->(Hp->Prop)->Prop
def GO(X:Cx)(t:Gh):Prop :=
 ∀(J2:Zd) (s:Shared) (σ:St) (H:Hp) (o i v:V) (ov iv u:Value) (Q:Hp->Prop),Inv X J2 σ H s->RelV o ov->RelV i iv->RelV v u->t o i v H Q ->
  wpAny (model X.prog X.w) X.A (setItem ov iv u) (fun _ s'=>∃H',Inv X J2 σ H' s'/\Q H') X.xe s
section
variable{X:Cx}{pos:Pos}
def dU(i:Nat):TG:=fun v σ H Q=>Q (σ.set i (some v)) H
abbrev U0:TG:=dU 0
abbrev U1:TG:=dU 1
abbrev U2:TG:=dU 2
abbrev U3:TG:=dU 3
abbrev U4:TG:=dU 4
abbrev U5:TG:=dU 5
abbrev U6:TG:=dU 6
abbrev U7:TG:=dU 7
abbrev U8:TG:=dU 8
abbrev U9:TG:=dU 9
abbrev U10:TG:=dU 10
abbrev U11:TG:=dU 11
abbrev U12:TG:=dU 12
theorem Aq{i:Nat}{x:Str}(a:X.N.Nodup)(hi:X.N[i]?=some x)(hx:Loc X.env.scope x)(hf:X.fn x=true∨X.env.scope.names.lookup x=some .local:=by first|exact .inl rfl|exact .inr rfl|assumption):PG X (.Name x pos) (dU i):=by
 intro f s σ H v u Q I r h;exact wpAny_assign_Name (wR I a hi hx r (fun g e=>⟨_,H,e,h⟩) hf)
def jO:Cd:=fun vs σ H Q=>vs=[]/\Q σ H
def bO(t:TG)(u:Cd):Cd:=fun vs σ H Q=>∃v r,vs=v::r/\t v σ H fun σ' H'=>u r σ' H' Q
theorem dR:Hd X [] jO:=by
 intro a s σ H f g Q I r h;obtain⟨e,h⟩:=h;subst e;cases r;exact assignInOrder_nil ⟨σ,H,I,h⟩
theorem aO{e:Expr}{a:List Expr}{t:TG}{u:Cd}(i:PG X e t)(j:Hd X a u)
  (k:(tW (e::a) X.env).map (·.2)=assign e X.env::(tW a X.env).map (·.2):=by rfl):Hd X (e::a) (bO t u):=by
 intro g s σ H w x Q I r h;obtain⟨v,y,l,h⟩:=h;subst l;cases r with
 |cons r m =>
  rw[k];refine assignInOrder_cons (cA (i g s σ H _ _ _ I r h) fun _ n f=>?_);obtain⟨σ1,o,p,q⟩:=f;exact j g n σ1 o _ _ Q p m q
def jZ(K:Za)(n:Nat)(t:Cd):TG:=fun v σ H Q=>∃a xs,v=.ref a/\bc K H a xs/\xs.length=n/\t xs σ H Q
theorem fC{f:List Expr}{k:Nat}{t:Cd}{n:Nat}(m:X.calm=true)(h:Hd X f t)
  (p:(tW f X.env).length=n:=by rfl) (g:(tW f X.env).findIdx? (·.1)=none:=by rfl):PG X (.Tuple f k pos) (jZ X.K n t):=by
 intro j s σ H v u Q I r i;obtain⟨a,q,w,x,y,i⟩:=i;subst w;cases r;obtain⟨z,l,A,D⟩:=I.tuple x;refine assign_Tuple_tuple (I.ok.hd m) A (by simp[p,<-y,l.length]) g fun B hx=>?_;have C:Inv X j σ H { s with heap:=B }:=I.kept (t':=s.toks) fun b o e=>hx b o (cY (ba e)) e;exact h j _ σ H q _ Q C (by simpa using l) i
def zj(to ti:TE)(t:Gh):TG:=fun v σ H Q=>to σ H fun o H1=>ti σ H1 fun i H2=>t o i v H2 fun H3=>Q σ H3
theorem rH{o i:Expr}{to j:TE}{t:Gh}(k:PE X o to)(hi:PE X i j)(l:GO X t)
  (m:∀v,assign (.Subscript o i pos) X.env v=(do
   let e <- j6 [v] (eval o X.env)
   let f <- j6 [v,e] (eval i X.env)
   pb pos
   j6 [v,e,f] (setItem e f v)
   release [v,e,f] []):=by intro _;rfl):PG X (.Subscript o i pos) (zj to j t):=by
 intro g s σ H v u Q I r h;rw[m];refine am (pe (cA (k g s σ H _ I h) fun e n a=>?_));obtain⟨x,p,q,w,z⟩:=a;refine am (pe (cA (hi g n σ p _ q z) fun f A a=>?_));obtain⟨y,B,C,D,E⟩:=a;refine am (wpAny_standAt (am (pe (cA (l g A σ B x y v e f u _ C w D r E) fun _ M a=>?_))));obtain⟨G,J,L⟩:=a;exact wpAny_release ⟨σ,G,J,L⟩
def aG(te:TE)(g:TG):TS:=fun D σ H=>te σ H fun x H1=>g x σ H1 D.nx
theorem rF{tg e:Expr}{f:TE}{g:TG}(j:PE X e f)(k:PG X tg g)(l:swapsWithSole [tg] e pos.line X.env=pure false:=by rfl)(m:swappedStores [tg] e X.env=pure none:=by rfl)
  (n:(tW [tg] X.env).map (·.2)=[assign tg X.env]:=by rfl):PS X (.Assign [tg] e pos) (aG f g):=by
 intro i s σ H D I h;refine wpAny_Assign_stores (cA (j i s σ H _ I h) fun v o a=>?_) l m;obtain⟨x,p,r,t,u⟩:=a;rw[n];exact cA (k i o σ p x v _ r t u) fun _ w q=>q
theorem FR{i:Nat}{x:Str}{e:Expr}{g:TE}{a:Pos}(j:X.N.Nodup)(hi:X.N[i]?=some x)(hx:Loc X.env.scope x)(k:PE X e g)(l:qj e (some (.Name x a)) pos.line X.env=pure false:=by rfl)(hf:X.fn x=true∨X.env.scope.names.lookup x=some .local:=by first|exact .inl rfl|exact .inr rfl|assumption):
  PS X (.Assign [.Name x a] e pos) (aG g (dU i)):=by
 intro m s σ H D I h;refine wpAny_Assign_Name (cA (k m s σ H _ I h) fun v t f=>?_) l;obtain⟨y,n,o,p,q⟩:=f;exact wR o j hi hx p (fun u r=>⟨_,n,r,q⟩) hf
end
section
variable{X:Cx}{pos:Pos}
def ow(c:TT)(tb:TS):TS:=fun D σ H=>∃W:Nat->St->Hp->Prop,(∃m,W m σ H)/\∀m σ H,W m σ H ->
 c σ H fun b H1=>if b=true then ∃N:St->Hp->Prop,(∀σ' H',N σ' H'->∃m',m'<m/\W m' σ' H')/\tb { D with nx:=N,ct:=N,bk:=D.nx } σ H1 else D.nx σ H1
theorem km{c:Expr}{a:List Stmt}{q:TT}{r:TS}(t:PassesOwn (model X.prog X.w) X.A X.env X.xe)(C:PT X c q)(E:xW X a r):PS X (.While c a [] pos) (ow q r):=by
 intro J2 s σ H D I h;obtain⟨W,⟨G,J⟩,turn⟩:=h;refine wpAny_While (codeAny_whileLoop (fun n L=>∃σ' u,Inv X J2 σ' u L/\W n σ' u) ?_ G ⟨σ,H,I,J⟩);rintro n M ⟨σ1,x,O,Q⟩;refine qh t (cA (C J2 M σ1 x _ O (turn n σ1 x Q)) fun b T j=>?_);obtain⟨y,z,g⟩:=j;cases b with
 |true =>
  obtain⟨N,B,g⟩:=g;rw[if_pos rfl];refine qh t (cA (E J2 T σ1 y _ z g) fun f U i=>?_);cases f with
  |next =>
   obtain⟨σ3,e,k,l⟩:=i;obtain⟨m,o,p⟩:=B σ3 e l;exact⟨m,o,σ3,e,k,p⟩
  |cont =>
   obtain⟨σ3,e,k,l⟩:=i;obtain⟨m,o,p⟩:=B σ3 e l;exact⟨m,o,σ3,e,k,p⟩
  |brk=>exact i
  |ret v=>exact i
 |false =>
  rw[if_neg gL];exact Aa ⟨σ1,y,z,g⟩
end
structure It where
 go:Nat->Hp->Prop
 yld:Nat->Hp->V->Hp->Prop
 stop:Nat->Hp->Prop
def mL(X:Cx)(J2:Zd)(H:Hp)(b:Addr):Prop :=
 H b=none/\b≠X.env.locals/\b∉X.fs/\(b∈X.ex∨X.s₀.heap.objs.size<=b)/\(∀x c,X.env.cells.lookup x=some c->c≠b)/\∀p∈X.pn++J2,p.1≠b
theorem Inv.fpOk{X:Cx}{f:Zd}{σ:St}{H g:Hp}{s:Shared}{b:Addr}(I:Inv X f σ H s)(a:s.heap.objs.size<=b)(h:g b=none):mL X f g b:=by
 refine⟨h,gZ (ie I.lt a),I.nofs a,.inr (bp I.sz a),fun x c e z=>?_,fun p i z=>?_⟩
 ·obtain⟨v,q⟩:=I.cell x c e;exact absurd (ie q.lt (by rw[z];exact a)) (pc _)
 ·exact absurd (ie (ba (I.pin p i).1) (by rw[z];exact a)) (pc _)
structure sF(P:bD)(w:World)(K:Za)(tg:Expr)(J:It)(fp:Ze)(it:Addr)(tn:Nat->Heap->Prop):Prop where
 mem:it∈fp
 obj:∀i h,tn i h->∀b∈fp,∃o,h.get? b=some o/\∀v,o.data≠.cell v
 keep:∀i h h',tn i h->(∀b∈fp,∀o,h.get? b=some o->h'.get? b=some o)->tn i h'
 item:∀(X:Cx),X.prog=P->X.w=w->X.K=K->X.calm=true->∀(i:Nat) (J2:Zd) (s:Shared) (σ:St) (H:Hp) (E:Zc),Inv X J2 σ H s->(∀b∈fp,mL X J2 H b)->tn i s.heap->J.go i H ->
  wpAny (model P w) X.A (pyNext (.ref it)) (fun r s1=>∃u,r=some u /\
   wpAny (model P w) X.A (z_ tg (.ref it) u) (fun _ s2=>∃x H',Inv X J2 σ H' s2/\RelV x u/\J.yld i H x H'/\tn (i+1) s2.heap/\∀b∈fp,H' b=none) E s1) E s
 done:∀(X:Cx),X.prog=P->X.w=w->X.K=K->X.calm=true->∀(i:Nat) (J2:Zd) (s:Shared) (σ:St) (H:Hp) (E:Zc),Inv X J2 σ H s->(∀b∈fp,mL X J2 H b)->tn i s.heap->J.stop i H ->
  wpAny (model P w) X.A (pyNext (.ref it)) (fun r s1=>r=none/\Inv X J2 σ H s1) E s
 self:∀(A:Around) (i:Nat) (s:Shared) (Q:Zc) (E:Zc),tn i s.heap->Q (.ref it) s->wpAny (model P w) A (pyIter (.ref it)) Q E s
abbrev TI:=St->Hp->(It->Hp->Prop)->Prop
def PIE(X:Cx)(J2:Zd)(σ:St)(tg:Expr)(R:It->Hp->Prop)(itv:Value)(s2:Shared):Prop :=
 ∃(it:Addr) (fp:Ze) (tn:Nat->Heap->Prop) (J:It) (H':Hp),itv=.ref it/\Inv X J2 σ H' s2/\sF X.prog X.w X.K tg J fp it tn/\tn 0 s2.heap/\(∀b∈fp,mL X J2 H' b)/\R J H'
def PI(X:Cx)(tg iter:Expr)(wi:TI):Prop :=
 ∀(J2:Zd) (s:Shared) (σ:St) (H:Hp) (R:It->Hp->Prop),Inv X J2 σ H s->wi σ H R ->
  wpAny (model X.prog X.w) X.A (eval iter X.env) (fun v s1=>wpAny (model X.prog X.w) X.A (pyIter v) (PIE X J2 σ tg R) X.xe s1) X.xe s
theorem ux{M:Model}{A:Around}{E:Zc}{s:Shared}{e:Expr}{it:Addr}{u:Value}{o:Obj}{n:String}{f:Array Value}{Q:Unit->Shared->Prop}(g:s.heap.get? it=some o)(i:o.cls=.type n)(j:o.data=.fields f)
    (k:["enumerate","zip","dict_itemiterator","dict_reverseitemiterator","odict_iterator","itertools.zip_longest","itertools.pairwise"].contains n=false) (a:Q () s):wpAny M A (z_ e (.ref it) u) Q E s:=by
  unfold z_;cases e<;>first
    |exact aV a
    | (cases u <;> first
        |exact aV a
        | (refine am (wpAny_load g ?_)
           rw[i,j];show wpAny M A (if(["enumerate","zip","dict_itemiterator","dict_reverseitemiterator","odict_iterator","itertools.zip_longest","itertools.pairwise"].contains n && f[0]?==some (rawInt _))=true then _ else _) Q E s
           rw[if_neg (by intro h;rw[k,Bool.false_and]at h;cases h)];exact aV a))
def DX(K:Za)(a:Addr):It :=
 ⟨fun i H=>∃xs x,ax K H a xs/\xs[i]?=some x,fun i H x H'=>H'=H/\∀xs,ax K H a xs->xs[i]?=some x,fun i H=>∃xs,ax K H a xs/\xs.length<=i⟩
def Gk(K:Za)(a:Addr):It :=
 ⟨fun i H=>∃xs x,bc K H a xs/\xs[i]?=some x,fun i H x H'=>H'=H/\∀xs,bc K H a xs->xs[i]?=some x,fun i H=>∃xs,bc K H a xs/\xs.length<=i⟩
def Gm(lo:Int)(n:Nat):It:=⟨fun i _=>i<n,fun i H x H'=>H'=H/\x=.int (lo+i),fun i _=>n<=i⟩
theorem t7{P:bD}{w:World}{K:Za}{M:Expr}(a it:Addr):sF P w K M (DX K a) [it] it (fun i h=>h.IsListIter it a i) where
 mem:=by simp
 obj:=fun i h st b f=>by
  have e:b=it:=by simpa using f
  subst e;obtain⟨o,e,c,d⟩:=st;exact⟨o,e,fun v z=>by rw[d]at z;cases z⟩
 keep:=fun i h j st k=>st.at fun o e=>k it (by simp) o e
 item:=by
  intro X m n q J i L s σ H E I hf st r;subst m n q;obtain⟨N,x,l,hx⟩:=r;obtain⟨t,y,p,O⟩:=I.list l;obtain⟨u,Q,T⟩:=y.get hx;obtain⟨A,B,U,C,D,G⟩:=hf it (by simp);refine wpAny_pyNext_list_item st p.isList (x:=u) (by simpa using Q) fun j g Y=>?_;have I1:Inv X L σ H { s with heap:=j }:=I.turned (t':=s.toks) (fun b o f e=>(Y.2 b f).trans e) A B C D G;obtain⟨o,e,c,d⟩:=id g;exact⟨u,rfl,ux (s:={ s with heap:=j }) e c d (by decide) ⟨x,H,I1,T,⟨rfl,fun ys hy=>by rw[I.list_inj hy l];exact hx⟩,g,fun b f=>(hf b f).1⟩⟩
 done:=by
  intro X m n q J i L s σ H E I hf st r;subst m n q;obtain⟨N,l,hx⟩:=r;obtain⟨t,y,p,O⟩:=I.list l;obtain⟨A,B,U,C,D,G⟩:=hf it (by simp);have hl:=y.length;exact wpAny_pyNext_list_end (I.ok.hd J) st p.isList (by simp;omega) fun j eb=>⟨rfl,I.turned (t':=s.toks) (fun b o f e=>eb b o f e) A B C D G⟩
 self:=fun _ _ _ _ _ st h=>wpAny_pyIter_listiter st h
theorem qQ{P:bD}{w:World}{K:Za}{M:Expr}(a it:Addr):sF P w K M (Gk K a) [it] it (fun i h=>h.IsTupleIter it a i) where
 mem:=by simp
 obj:=fun i h st b f=>by
  have e:b=it:=by simpa using f
  subst e;obtain⟨o,e,c,d⟩:=st;exact⟨o,e,fun v z=>by rw[d]at z;cases z⟩
 keep:=fun i h l st k=>st.at fun o e=>k it (by simp) o e
 item:=by
  intro X n q r J i L s σ H E I hf st t;subst n q r;obtain⟨N,x,m,hx⟩:=t;obtain⟨g,y,p,O⟩:=I.tuple m;obtain⟨u,Q,T⟩:=y.get hx;obtain⟨A,B,U,C,D,G⟩:=hf it (by simp);refine wpAny_pyNext_tuple_item st (show s.heap.IsTuple a g.toArray from p) (x:=u) (by simpa using Q) fun l j Y=>?_;have I1:Inv X L σ H { s with heap:=l }:=I.turned (t':=s.toks) (fun b o f e=>(Y.2 b f).trans e) A B C D G;obtain⟨o,e,c,d⟩:=id j;exact⟨u,rfl,ux (s:={ s with heap:=l }) e c d (by decide) ⟨x,H,I1,T,⟨rfl,fun ys hy=>by rw[I.tuple_inj hy m];exact hx⟩,j,fun b f=>(hf b f).1⟩⟩
 done:=by
  intro X n q r J i L s σ H E I hf st t;subst n q r;obtain⟨N,m,hx⟩:=t;obtain⟨g,y,p,O⟩:=I.tuple m;obtain⟨A,B,U,C,D,G⟩:=hf it (by simp);have hl:=y.length;exact wpAny_pyNext_tuple_end (I.ok.hd J) st (show s.heap.IsTuple a g.toArray from p) (by simp;omega) fun l eb=>⟨rfl,I.turned (t':=s.toks) (fun b o f e=>eb b o f e) A B C D G⟩
 self:=fun _ _ _ _ _ st h=>wpAny_pyIter_tupleiter st h
theorem xZ{P:bD}{w:World}{K:Za}{C:Expr}(it:Addr)(lo:Int)(n:Nat):sF P w K C (Gm lo n) [it] it (fun i h=>IsRangeIter h it (lo+(i:Nat) * 1) ((n:Int)-(i:Nat)) 1) where
 mem:=by simp
 obj:=fun i h st b a=>by
  have e:b=it:=by simpa using a
  subst e;exact⟨_,st,fun v z=>by
   have D:Data.fields _=Data.cell v:=z;cases D⟩
 keep:=fun i h g st k=>k it (by simp) _ st
 item:=by
  intro X j l m p i B s σ H E I hf st q;subst j l m;obtain⟨r,u,G,x,y,A⟩:=hf it (by simp);have W:=Walks.range (prog:=X.prog) (w:=X.w) (I.ok.hd p) it lo 1 n;refine W.item i s _ _ q st fun v g tk J f L=>?_;obtain⟨t,rfl⟩:=J;have M:Inv X B σ H { s with heap:=g,toks:=tk }:=I.turned (fun b o a e=>L b o (by simpa using a) e) r u x y A;refine⟨_,rfl,ux (s:={ s with heap:=g,toks:=tk }) (n:="range_iterator") f rfl rfl (by decide) ⟨.int (lo+i),H,M,⟨t,?_⟩,⟨rfl,rfl⟩,f,fun b a=>(hf b a).1⟩⟩;rw[Int.mul_one]
 done:=by
  intro X j l m p i B s σ H E I hf st q;subst j l m;obtain⟨r,u,G,x,y,A⟩:=hf it (by simp);exact wpAny_pyNext_range_end (I.ok.hd p) st (by have:n<=i:=q;omega) fun g N=>⟨rfl,I.turned (t':=s.toks) (fun b o a e=>N b o a e) r u x y A⟩
 self:=fun _ _ _ _ _ st h=>wpAny_pyIter_rangeiter st h
end L2
namespace L2
open PySem PySem.Spec PyProof.Rows
section
variable{X:Cx}{tg:Expr}
def bS(K:Za)(tl:TE):TI:=fun σ H R=>tl σ H fun x H1=>∃a,x=.ref a/\(∃xs,ax K H1 a xs)/\R (DX K a) H1
def EL(K:Za)(tl:TE):TI:=fun σ H R=>tl σ H fun x H1=>∃a,x=.ref a/\(∃xs,bc K H1 a xs)/\R (Gk K a) H1
theorem aR{l:Expr}{j:TE}(k:PE X l j):PI X tg l (bS X.K j):=by
 intro m s σ H R I h;refine cA (k m s σ H _ I h) fun v f i=>?_;obtain⟨x,n,g,r,t⟩:=i;obtain⟨a,e,⟨z,u⟩,q⟩:=t;subst e;cases r;obtain⟨w,A,p,B⟩:=g.list u;refine z9 p.isList ?_;refine⟨f.heap.objs.size,[f.heap.objs.size],_,_,n,rfl,g.kept (t':=f.toks) fun b o e=>bu _ e,t7 a _,⟨_,c_ _ rfl,rfl,rfl⟩,fun b y=>?_,q⟩;have e:b=f.heap.objs.size:=by simpa using y
 subst e;exact g.fpOk (aN _) (g.hok.fresh (aN _))
theorem yS{l:Expr}{k:TE}(m:PE X l k):PI X tg l (EL X.K k):=by
 intro n s σ H R I h;refine cA (m n s σ H _ I h) fun v f i=>?_;obtain⟨x,r,g,t,u⟩:=i;obtain⟨a,e,⟨z,w⟩,q⟩:=u;subst e;cases t;obtain⟨j,A,p,B⟩:=g.tuple w;refine z8 (show f.heap.IsTuple a j.toArray from p) ?_;refine⟨f.heap.objs.size,[f.heap.objs.size],_,_,r,rfl,g.kept (t':=f.toks) fun b o e=>bu _ e,qQ a _,⟨_,c_ _ rfl,rfl,rfl⟩,fun b y=>?_,q⟩;have e:b=f.heap.objs.size:=by simpa using y
 subst e;exact g.fpOk (aN _) (g.hok.fresh (aN _))
theorem CT{a:Zd}{σ:St}{H:Hp}{s:Shared}{R:It->Hp->Prop}{E:Zc}{lo hi:Int}{t u v:Tok}{tk:Nat}(I:Inv X a σ H s)(g:-(2 ^ 62)<=lo)(h:lo<2 ^ 62)(i:-(2 ^ 62)<=hi)(j:hi<2 ^ 62)
  (q:R (Gm lo (hi-lo).toNat) H):wpAny (model X.prog X.w) X.A (pyIter (.ref s.heap.objs.size)) (PIE X a σ tg R) E { s with heap:=s.heap.push { cls:=.type "range",data:=.fields #[.int lo t,.int hi u,.int 1 v] },toks:=tk }:=by
 refine wpAny_pyIter_range (IsRange.new ..) (small_one g h i j) ?_;have f:Inv X a σ H { s with heap:=s.heap.push { cls:=.type "range",data:=.fields #[.int lo t,.int hi u,.int 1 v] },toks:=tk }:=I.kept fun b o e=>bu _ e;refine⟨(s.heap.push { cls:=.type "range",data:=.fields #[.int lo t,.int hi u,.int 1 v] }).objs.size,[(s.heap.push { cls:=.type "range",data:=.fields #[.int lo t,.int hi u,.int 1 v] }).objs.size],_,_,H,rfl,
  f.kept (t':=tk) fun b o e=>bu _ e,xZ _ lo (hi-lo).toNat,?_,fun b k=>?_,q⟩
 ·have l:lo+((0:Nat):Int) * 1=lo:=by simp
  have m:(((hi-lo).toNat:Nat):Int)-((0:Nat):Int)=cO.Range.rangeSize lo hi 1:=by rw[rangeSize_one];split<;>omega
  show IsRangeIter _ _ (lo+((0:Nat):Int) * 1) ((((hi-lo).toNat:Nat):Int)-((0:Nat):Int)) 1;rw[l,m];exact c_ _ rfl
 ·have e:b=(s.heap.push { cls:=.type "range",data:=.fields #[.int lo t,.int hi u,.int 1 v] }).objs.size:=by simpa using k
  subst e;exact f.fpOk (aN _) (f.hok.fresh (aN _))
def uu(ta:TA):TI:=fun σ H R=>ta σ H fun vs H1=>∃j:Int,vs=[.int j]/\-(2 ^ 62)<=j/\j<2 ^ 62/\R (Gm 0 j.toNat) H1
theorem jn{a:Expr}{k:TA}{p f:Pos}(l:Gl X "range")(m:X.mg "range"=none)(n:PA X [a] k)(o:aI [a] X.env=[(false,eval a X.env)]:=by rfl):PI X tg (.Call (.Name "range" p) [a] [] f) (uu k):=by
 intro u s σ H R I h;refine Call_ (oP I l m boot_range (z7 (cA (n f u s σ H _ I h) fun z A g=>?_) o rfl));obtain⟨B,C,v,w,i⟩:=g;obtain⟨j,e,i,x,q⟩:=i;subst e;cases w with
 |cons r y =>
  cases y;obtain⟨t,rfl⟩:=r;exact call_range_1 (CT v (by omega) (by omega) i x (by simpa using q))
def d7(wi:TI)(g:TG)(tb:TS):TS:=fun D σ H=>wi σ H fun J H1=>∃W:Nat->Nat->St->Hp->Prop,(∃m,W 0 m σ H1)/\∀i m σ H,W i m σ H ->
 (J.stop i H/\D.nx σ H)∨(J.go i H/\∃N:St->Hp->Prop,(∀σ' H',N σ' H'->∃m',m'<m/\W (i+1) m' σ' H')/\∀x H',J.yld i H x H'->g x σ H' fun σ2 H2=>tb { D with nx:=N,ct:=N,bk:=D.nx } σ2 H2)
def rG(fp:Ze)(h:Heap):List (Addr×Obj):=fp.filterMap fun b=>(h.get? b).map fun o=>(b,o)
theorem jM{fp:Ze}{h:Heap}{b:Addr}{o:Obj}(a:b∈fp)(e:h.get? b=some o):(b,o)∈rG fp h:=List.mem_filterMap.mpr ⟨b,a,by rw[e];rfl⟩
theorem BA{a:Ze}{h:Heap}{p:Addr×Obj}(f:p∈rG a h):p.1∈a/\h.get? p.1=some p.2:=by
 obtain⟨b,g,e⟩:=List.mem_filterMap.mp f;cases q:h.get? b with
 |none=>rw[q]at e;cases e
 |some o =>
  rw[q]at e;have i:(b,o)=p:=eR e;subst i;exact⟨g,q⟩
theorem Inv.pinned{a:Zd}{σ:St}{H:Hp}{s:Shared}{f:Ze}(I:Inv X a σ H s)(hf:∀b∈f,mL X a H b)(i:∀b∈f,∃o,s.heap.get? b=some o/\∀v,o.data≠.cell v):Inv X (a++rG f s.heap) σ H s :=
 I.pins_of fun p j=>(bg.mp j).elim (fun z=>I.pin p (dC _ z)) fun z=>by
  obtain⟨g,e⟩:=BA z;obtain⟨k,l,m,_⟩:=hf p.1 g;obtain⟨o,h,d⟩:=i p.1 g;rw[e]at h;cases h;exact⟨e,k,l,m,d⟩
theorem Inv.unpinned{a e:Zd}{σ:St}{H:Hp}{s:Shared}(I:Inv X (a++e) σ H s):Inv X a σ H s:=I.pins_of fun p f=>I.pin p (dC _ (cJ _ f))
theorem bz{j:Expr}{y:List Stmt}{wi:TI}{g:TG}{tb:TS}{U:Pos}(E:PassesOwn (model X.prog X.w) X.A X.env X.xe)(hc:X.calm=true)(hi:PI X tg j wi)(hg:PG X tg g)(k:xW X y tb)
  (hs:∀x,wv j X.env x=pure x:=by intro _;rfl):PS X (.For tg j y [] U) (d7 wi g tb):=by
 intro B s σ H D I h;refine wpAny_For (cA (hi B s σ H _ I h) fun v s1 h1=>cA h1 fun ap s2 h2=>?_) hs;obtain⟨it,G,tn,J,H2,e,I2,T,Y,f2,W,⟨m0,w0⟩,turn⟩:=h2;subst e;have l:∀{t:Hp},(∀b∈G,t b=none)->∀b∈G,mL X B t b:=fun hn b k=>⟨hn b k,(f2 b k).2⟩;refine codeAny_forLoop_any (fun n s'=>∃i σ' t,Inv X B σ' t s'/\tn i s'.heap/\(∀b∈G,t b=none)/\W i n σ' t) ?_ m0 ⟨0,σ,H2,I2,Y,fun b k=>(f2 b k).1,w0⟩;rintro n s3 ⟨i,σ3,Q,I3,L,M,w3⟩;rcases turn i n σ3 Q w3 with⟨stop,qn⟩|⟨go,N,hN,step⟩
 ·refine qh E (cA (T.done X rfl rfl rfl hc i B s3 σ3 Q X.xe I3 (l M) L stop) fun r s4 a=>?_);obtain⟨hr,I4⟩:=a;subst hr;exact Aa ⟨σ3,Q,I4,qn⟩
 ·refine qh E (cA (T.item X rfl rfl rfl hc i B s3 σ3 Q X.xe I3 (l M) L go) fun r s4 a=>?_);obtain⟨u,hr,h4⟩:=a;subst hr;refine qh E (cA h4 fun _ s5 a=>?_);obtain⟨x,H5,I5,r5,y5,C,al⟩:=a;have an:=I5.pinned (l al) (T.obj _ _ C);refine qh E (cA (hg _ s5 σ3 H5 x u _ an r5 (step x H5 y5)) fun _ s6 a=>?_);obtain⟨σ6,H6,I6,q6⟩:=a;refine qh E (cA (k _ s6 σ6 H6 _ I6 q6) fun f s7 z=>?_);have again:∀{σ7:St}{p:Hp},Inv X (B++rG G s5.heap) σ7 p s7->N σ7 p->∃m,m<n/\∃i σ' t,Inv X B σ' t s7/\tn i s7.heap/\(∀b∈G,t b=none)/\W i m σ' t:=fun{σ7 p} q O=>by
   obtain⟨m',hm,w7⟩:=hN σ7 p O;refine⟨m',hm,i+1,σ7,p,q.unpinned,T.keep _ _ _ C fun b k o e=>(q.pin (b,o) (dC _ (dC _ (jM k e)))).1,fun b k=>?_,w7⟩;obtain⟨o,e,d⟩:=T.obj _ _ C b k;exact(q.pin (b,o) (dC _ (dC _ (jM k e)))).2.1
  cases f with
  |next=>obtain⟨σ7,p,q,O⟩:=z;exact again q O
  |cont=>obtain⟨σ7,p,q,O⟩:=z;exact again q O
  |brk=>obtain⟨σ7,p,q,z⟩:=z;exact⟨σ7,p,q.unpinned,z⟩
  |ret v=>obtain⟨x7,σ7,p,q,r7,z⟩:=z;exact⟨x7,σ7,p,q.unpinned,r7,z⟩
end
theorem bG{K:Za}{a:Addr}{xs:List V}{g:TG}{k:TS}{D:pW}{σ:St}{H:Hp}(Pv:Nat->St->Hp->Prop)(n:Pv 0 σ H)(o:∀i σ H,i<=xs.length->Pv i σ H->ax K H a xs)
  (r:∀i x σ H,xs[i]?=some x->Pv i σ H->g x σ H fun σ2 j=>k { D with nx:=Pv (i+1),ct:=Pv (i+1),bk:=D.nx } σ2 j) (s:∀σ H,Pv xs.length σ H->D.nx σ H) :
  ∃W:Nat->Nat->St->Hp->Prop,(∃m,W 0 m σ H)/\∀i m σ H,W i m σ H ->
   ((DX K a).stop i H/\D.nx σ H)∨((DX K a).go i H/\∃N:St->Hp->Prop,(∀σ' f,N σ' f->∃l,l<m/\W (i+1) l σ' f)/\∀x f,(DX K a).yld i H x f->g x σ f fun σ2 j=>k { D with nx:=N,ct:=N,bk:=D.nx } σ2 j):=by
 refine⟨fun i m σ H=>m=xs.length-i/\i<=xs.length/\Pv i σ H,⟨xs.length,by simp,c9 _,n⟩,?_⟩;rintro i m σ H ⟨rfl,hi,p⟩;have q:=o i σ H hi p;by_cases h:i<xs.length
 ·refine .inr ⟨⟨xs,xs[i],q,by simp[h]⟩,Pv (i+1),fun σ' f t=>⟨xs.length-(i+1),by omega,rfl,h,t⟩,fun x f y=>?_⟩;obtain⟨e,y⟩:=y;subst e;exact r i x σ _ (y xs q) p
 ·have e:i=xs.length:=by omega
  subst e;exact .inl ⟨⟨xs,q,aN _⟩,s σ H p⟩
theorem AH{K:Za}{a:Addr}{xs:List V}{g:TG}{k:TS}{D:pW}{σ:St}{H:Hp}(Pv:Nat->St->Hp->Prop)(n:Pv 0 σ H)(o:∀i σ H,i<=xs.length->Pv i σ H->bc K H a xs)
  (r:∀i x σ H,xs[i]?=some x->Pv i σ H->g x σ H fun σ2 j=>k { D with nx:=Pv (i+1),ct:=Pv (i+1),bk:=D.nx } σ2 j) (s:∀σ H,Pv xs.length σ H->D.nx σ H) :
  ∃W:Nat->Nat->St->Hp->Prop,(∃m,W 0 m σ H)/\∀i m σ H,W i m σ H ->
   ((Gk K a).stop i H/\D.nx σ H)∨((Gk K a).go i H/\∃N:St->Hp->Prop,(∀σ' f,N σ' f->∃l,l<m/\W (i+1) l σ' f)/\∀x f,(Gk K a).yld i H x f->g x σ f fun σ2 j=>k { D with nx:=N,ct:=N,bk:=D.nx } σ2 j):=by
 refine⟨fun i m σ H=>m=xs.length-i/\i<=xs.length/\Pv i σ H,⟨xs.length,by simp,c9 _,n⟩,?_⟩;rintro i m σ H ⟨rfl,hi,p⟩;have q:=o i σ H hi p;by_cases h:i<xs.length
 ·refine .inr ⟨⟨xs,xs[i],q,by simp[h]⟩,Pv (i+1),fun σ' f t=>⟨xs.length-(i+1),by omega,rfl,h,t⟩,fun x f y=>?_⟩;obtain⟨e,y⟩:=y;subst e;exact r i x σ _ (y xs q) p
 ·have e:i=xs.length:=by omega
  subst e;exact .inl ⟨⟨xs,q,aN _⟩,s σ H p⟩
theorem kY{lo:Int}{n:Nat}{g:TG}{j:TS}{D:pW}{σ:St}{H:Hp}(Pv:Nat->St->Hp->Prop)(l:Pv 0 σ H)
  (o:∀i σ H,i<n->Pv i σ H->g (.int (lo+i)) σ H fun σ2 h=>j { D with nx:=Pv (i+1),ct:=Pv (i+1),bk:=D.nx } σ2 h) (q:∀σ H,Pv n σ H->D.nx σ H) :
  ∃W:Nat->Nat->St->Hp->Prop,(∃m,W 0 m σ H)/\∀i m σ H,W i m σ H ->
   ((Gm lo n).stop i H/\D.nx σ H)∨((Gm lo n).go i H/\∃N:St->Hp->Prop,(∀σ' a,N σ' a->∃k,k<m/\W (i+1) k σ' a)/\∀x a,(Gm lo n).yld i H x a->g x σ a fun σ2 h=>j { D with nx:=N,ct:=N,bk:=D.nx } σ2 h):=by
 refine⟨fun i m σ H=>m=n-i/\i<=n/\Pv i σ H,⟨n,by simp,c9 _,l⟩,?_⟩;rintro i m σ H ⟨rfl,hi,p⟩;by_cases f:i<n
 ·refine .inr ⟨f,Pv (i+1),fun σ' a r=>⟨n-(i+1),by omega,rfl,f,r⟩,fun x a y=>?_⟩;obtain⟨e,y⟩:=y;subst e y;exact o i σ _ f p
 ·have e:i=n:=by omega
  subst e;exact .inl ⟨aN _,q σ H p⟩
end L2
namespace L2
open PySem PySem.Spec PyProof.Rows
abbrev R2:=V->V->Hp->VK->Prop
def lM(X:Cx)(f:Value->Value->Sem Value)(r:R2):Prop :=
 ∀(J2:Zd) (s:Shared) (σ:St) (H:Hp) (x y:V) (v u:Value) (Q:VK),Inv X J2 σ H s->RelV x v->RelV y u->r x y H Q ->
  wpAny (model X.prog X.w) X.A (f v u) (EP X J2 σ Q) X.xe s
def UnR(X:Cx)(f:Value->Sem Value)(r:V->Hp->VK->Prop):Prop :=
 ∀(J2:Zd) (s:Shared) (σ:St) (H:Hp) (x:V) (v:Value) (Q:VK),Inv X J2 σ H s->RelV x v->r x H Q ->
  wpAny (model X.prog X.w) X.A (f v) (EP X J2 σ Q) X.xe s
def fM(X:Cx)(f:Value)(r:List V->Hp->VK->Prop):Prop :=
 ∀(J2:Zd) (s:Shared) (σ:St) (H:Hp) (xs:List V) (us:Zf) (Q:VK),Inv X J2 σ H s->a_ xs us->r xs H Q ->
  wpAny (model X.prog X.w) X.A (call f us) (EP X J2 σ Q) X.xe s
def aB(r:R2)(ta tb:TE):TE:=fun σ H Q=>ta σ H fun x H1=>tb σ H1 fun y H2=>r x y H2 Q
def tUn(r:V->Hp->VK->Prop)(ta:TE):TE:=fun σ H Q=>ta σ H fun x H1=>r x H1 Q
def rI(C:Int->Int->Prop)(g:Int->Int->V):R2:=fun x y H Q=>∃i j,x=.int i/\y=.int j/\C i j/\Q (g i j) H
def Ca(g:Int->Int->V):R2:=fun x y H Q=>∃i j,x=.int i/\y=.int j/\Q (g i j) H
def rU(g:Int->V):V->Hp->VK->Prop:=fun x H Q=>∃i,x=.int i/\Q (g i) H
section
variable{X:Cx}{a b c:Expr}{ta tb tc:TE}{pos:Pos}
theorem Ge(n:PE X a ta)(o:PE X b tb){k:Zd}{s:Shared}{σ:St}{H:Hp}{R:V->V->Hp->Prop}(I:Inv X k σ H s)
  (h:ta σ H fun x m=>tb σ m fun y g=>R x y g) {Q:Zc}{f:Value->Value->Sem Value}
  (hf:∀v u l x y g,Inv X k σ g l->RelV x v->RelV y u->R x y g->wpAny (model X.prog X.w) X.A (f v u) Q X.xe l) :
  wpAny (model X.prog X.w) X.A (eval a X.env) (fun v i=>wpAny (model X.prog X.w) X.A (eval b X.env) (fun u j=>wpAny (model X.prog X.w) X.A (f v u) Q X.xe j) X.xe i) X.xe s:=by
 refine cA (n k s σ H _ I h) fun v p e=>?_;obtain⟨x,m,q,r,t⟩:=e;refine cA (o k p σ m _ q t) fun u l e=>?_;obtain⟨y,g,z,B,C⟩:=e;exact hf v u l x y g z r B C
theorem be{e:Operator}{r:R2}(f:lM X (o_ e) r)(g:PE X a ta)(i:PE X b tb):PE X (.BinOp a e b pos) (aB r ta tb):=by
 intro j s σ H Q I h;exact wpAny_BinOp (Ge g i I h fun v u k x y l m n o q=>f j k σ l x y v u Q m n o q)
theorem Fs{e:UnaryOp}{r:V->Hp->VK->Prop}(g:UnR X (unaryOp e) r)(i:PE X a ta):PE X (.UnaryOp e a pos) (tUn r ta):=by
 intro f s σ H Q I h;exact UnaryOp_ (cA (i f s σ H _ I h) fun v j ⟨x,k,l,m,n⟩=>g f j σ k x v Q l m n)
theorem Ha{f:Value->Value->Sem Value}{C:Int->Int->Prop}{g:Int->Int->Int}
  (rule:∀(i j:Int) (t u:Tok) (s:Shared) (Q:Zc) (E:Zc),C i j->Q (.int (g i j) s.toks) { s with toks:=s.toks+1 }->wpAny (model X.prog X.w) X.A (f (.int i t) (.int j u)) Q E s) :
  lM X f (rI C fun i j=>.int (g i j)):=by
 intro n s σ H x y v u Q I e k h;obtain⟨i,j,rfl,rfl,l,q⟩:=h;obtain⟨t,rfl⟩:=e;obtain⟨m,rfl⟩:=k;exact rule i j t m s _ _ l ⟨.int (g i j),H,I.tok _,⟨_,rfl⟩,q⟩
theorem opI0{f:Value->Value->Sem Value}{g:Int->Int->Int}
  (rule:∀(i j:Int) (t u:Tok) (s:Shared) (Q:Zc) (E:Zc),Q (.int (g i j) s.toks) { s with toks:=s.toks+1 }->wpAny (model X.prog X.w) X.A (f (.int i t) (.int j u)) Q E s) :
  lM X f (Ca fun i j=>.int (g i j)):=by
 intro m s σ H x y v u Q I e k h;obtain⟨i,j,rfl,rfl,q⟩:=h;obtain⟨t,rfl⟩:=e;obtain⟨l,rfl⟩:=k;exact rule i j t l s _ _ ⟨.int (g i j),H,I.tok _,⟨_,rfl⟩,q⟩
theorem EG{f:Value->Value->Sem Value}{g:Int->Int->Bool}
  (rule:∀(i j:Int) (t u:Tok) (s:Shared) (Q:Zc) (E:Zc),Q (.bool (g i j)) s->wpAny (model X.prog X.w) X.A (f (.int i t) (.int j u)) Q E s) :
  lM X f (Ca fun i j=>.bl (g i j)):=by
 intro m s σ H x y v u Q I e k h;obtain⟨i,j,rfl,rfl,q⟩:=h;obtain⟨t,rfl⟩:=e;obtain⟨l,rfl⟩:=k;exact rule i j t l s _ _ ⟨.bl (g i j),H,I,rfl,q⟩
def GW(i j:Int):Prop:=0<j/\j<1073741824
def GV(i j:Int):Prop:=0<=j/\j<=1000000/\i.natAbs<2 ^ 64
def DR(i j:Int):Prop:=(-(2 ^ 64)<i/\i<2 ^ 64)∨(-(2 ^ 64)<j/\j<2 ^ 64)
theorem DR.ok{i j:Int}(h:DR i j):IntMulOk i j:=by
 rcases h with⟨e,f⟩|⟨e,f⟩
 ·exact .of_left (intBits_le_64 e f)
 ·exact .of_right (intBits_le_64 e f)
theorem dh:lM X (o_ .Add) (Ca fun i j=>.int (i+j)):=opI0 fun _ _ _ _ _ _ _ q=>add_int q
theorem iu:lM X (o_ .Mult) (rI DR fun i j=>.int (i * j)):=Ha fun _ _ _ _ _ _ _ e q=>mul_int q e.ok
theorem Aw:lM X (o_ .FloorDiv) (rI GW fun i j=>.int (i / j)):=Ha fun i j _ _ _ _ _ e q=>by
 have f:(0:Int)<j:=e.1;have g:j<1073741824:=e.2;exact floordiv_int (by omega) (by rw[Int.fdiv_eq_ediv_of_nonneg i (by omega)];exact q) (.inl (PyProof.noPylong_small (by omega)))
theorem gm:lM X (o_ .Mod) (rI (fun _ j=>0<j) fun i j=>.int (i % j)):=Ha fun i j _ _ _ _ _ e q=>by
 have f:(0:Int)<j:=e;exact mod_int' (by omega) (by rw[Int.fmod_eq_emod_of_nonneg i (by omega)];exact q)
theorem C5:lM X (o_ .Pow) (rI GV fun i j=>.int (i ^ j.toNat)):=Ha fun _ _ _ _ _ _ _ e q=>pow_int_small e.1 e.2.1 e.2.2 q
theorem unI{f:Value->Sem Value}{g:Int->Int}
  (rule:∀(i:Int) (t:Tok) (s:Shared) (Q:Zc) (E:Zc),Q (.int (g i) s.toks) { s with toks:=s.toks+1 }->wpAny (model X.prog X.w) X.A (f (.int i t)) Q E s) :
  UnR X f (rU fun i=>.int (g i)):=by
 intro j s σ H x v Q I e h;obtain⟨i,rfl,q⟩:=h;obtain⟨t,rfl⟩:=e;exact rule i t s _ _ ⟨.int (g i),H,I.tok _,⟨_,rfl⟩,q⟩
theorem Cn:UnR X (unaryOp .USub) (rU fun i=>.int (-i)):=unI fun _ _ _ _ _ q=>neg_int q
end
def Gy:V->V->Bool
 |.non,.non=>true | .non,.int _=>true | .int _,.non=>true | .non,.bl _=>true | .bl _,.non=>true | .non,.str _=>true | .str _,.non=>true
 |.int _,.int _=>true | .bl _,.bl _=>true | .str _,.str _=>true | .byt _,.byt _=>true
 |.int _,.str _=>true | .str _,.int _=>true | .bl _,.str _=>true | .str _,.bl _=>true
 |_,_=>false
def Ao:R2:=fun x y H Q=>Gy x y=true/\Q (.bl (decide (x=y))) H
def Fm:R2:=fun x y H Q=>Gy x y=true/\Q (.bl (!decide (x=y))) H
theorem AK{i j:Int}:decide (V.int i=V.int j)=(i==j):=by
 rw[tV];simp
theorem Dw{i j:Bool}:decide (V.bl i=V.bl j)=(i==j):=by
 rw[tV];simp
theorem AI{i j:Str}:decide (V.str i=V.str j)=(i==j):=by
 rw[tV];simp
theorem AL{i j:Array UInt8}:decide (V.byt i=V.byt j)=(i.toList==j.toList):=by
 rw[tV];cases i;cases j;simp
section
variable{X:Cx}{a b c:Expr}{ta tb tc:TE}{pos:Pos}
theorem bL{f:Zd}{σ:St}{H:Hp}{s:Shared}{Q:VK}{k g:Bool}(I:Inv X f σ H s)(q:Q (.bl k) H)(e:k=g):EP X f σ Q (.bool g) s:=by
 subst e;exact⟨.bl k,H,I,rfl,q⟩
theorem jr:lM X (dO .Eq) Ao:=by
 intro l s σ H x y v u Q I k e h;obtain⟨g,q⟩:=h;cases x with
 |non =>
  cases k;cases y with
  |non=>cases e;exact PySem.EqNone.eq_none_none (bL I q (by simp))
  |bl j=>cases e;exact PySem.EqNone.eq_none_bool (bL I q (by simp))
  |int j=>obtain⟨f,rfl⟩:=e;exact PySem.EqNone.eq_none_int (bL I q (by simp))
  |str j=>obtain⟨f,rfl⟩:=e;exact PySem.EqNone.eq_none_str (bL I q (by simp))
  |_=>exact absurd (show false=true from g) gL
 |bl i =>
  cases k;cases y with
  |non=>cases e;exact PySem.EqNone.eq_bool_none (bL I q (by simp))
  |bl j=>cases e;exact eq_bool (bL I q Dw)
  |str j=>obtain⟨f,rfl⟩:=e;exact PySem.EqMixed.eq_bool_str (bL I q (by simp))
  |_=>exact absurd (show false=true from g) gL
 |int i =>
  obtain⟨t,rfl⟩:=k;cases y with
  |non=>cases e;exact PySem.EqNone.eq_int_none (bL I q (by simp))
  |int j=>obtain⟨f,rfl⟩:=e;exact eq_int (bL I q AK)
  |str j=>obtain⟨f,rfl⟩:=e;exact PySem.EqMixed.eq_int_str (bL I q (by simp))
  |_=>exact absurd (show false=true from g) gL
 |str i =>
  obtain⟨t,rfl⟩:=k;cases y with
  |non=>cases e;exact PySem.EqNone.eq_str_none (bL I q (by simp))
  |bl j=>cases e;exact PySem.EqMixed.eq_str_bool (bL I q (by simp))
  |int j=>obtain⟨f,rfl⟩:=e;exact PySem.EqMixed.eq_str_int (bL I q (by simp))
  |str j=>obtain⟨f,rfl⟩:=e;exact eq_str (bL I q AI)
  |_=>exact absurd (show false=true from g) gL
 |byt i =>
  obtain⟨t,rfl⟩:=k;cases y with
  |byt j=>obtain⟨f,rfl⟩:=e;exact PySem.W.eq_bytes (bL I q AL)
  |_=>exact absurd (show false=true from g) gL
 |_=>cases y<;>exact absurd (show false=true from g) gL
theorem rO:lM X (dO .NotEq) Fm:=by
 intro l s σ H x y v u Q I k e h;obtain⟨g,q⟩:=h;cases x with
 |non =>
  cases k;cases y with
  |non=>cases e;exact PySem.EqNone.ne_none_none (bL I q (by simp))
  |bl j=>cases e;exact PySem.EqNone.ne_none_bool (bL I q (by simp))
  |int j=>obtain⟨f,rfl⟩:=e;exact PySem.EqNone.ne_none_int (bL I q (by simp))
  |str j=>obtain⟨f,rfl⟩:=e;exact PySem.EqNone.ne_none_str (bL I q (by simp))
  |_=>exact absurd (show false=true from g) gL
 |bl i =>
  cases k;cases y with
  |non=>cases e;exact PySem.EqNone.ne_bool_none (bL I q (by simp))
  |bl j=>cases e;exact ne_bool (bL I q (congrArg not Dw))
  |str j=>obtain⟨f,rfl⟩:=e;exact PySem.EqMixed.ne_bool_str (bL I q (by simp))
  |_=>exact absurd (show false=true from g) gL
 |int i =>
  obtain⟨t,rfl⟩:=k;cases y with
  |non=>cases e;exact PySem.EqNone.ne_int_none (bL I q (by simp))
  |int j=>obtain⟨f,rfl⟩:=e;exact ne_int (bL I q (congrArg not AK))
  |str j=>obtain⟨f,rfl⟩:=e;exact PySem.EqMixed.ne_int_str (bL I q (by simp))
  |_=>exact absurd (show false=true from g) gL
 |str i =>
  obtain⟨t,rfl⟩:=k;cases y with
  |non=>cases e;exact PySem.EqNone.ne_str_none (bL I q (by simp))
  |bl j=>cases e;exact PySem.EqMixed.ne_str_bool (bL I q (by simp))
  |int j=>obtain⟨f,rfl⟩:=e;exact PySem.EqMixed.ne_str_int (bL I q (by simp))
  |str j=>obtain⟨f,rfl⟩:=e;exact ne_str (bL I q (congrArg not AI))
  |_=>exact absurd (show false=true from g) gL
 |byt i =>
  obtain⟨t,rfl⟩:=k;cases y with
  |byt j=>obtain⟨f,rfl⟩:=e;exact PySem.W.ne_bytes (bL I q (congrArg not AL))
  |_=>exact absurd (show false=true from g) gL
 |_=>cases y<;>exact absurd (show false=true from g) gL
theorem Av:lM X (dO .Lt) (Ca fun i j=>.bl (decide (i<j))):=EG fun _ _ _ _ _ _ _ q=>lt_int q
theorem GB:lM X (dO .LtE) (Ca fun i j=>.bl (decide (i<=j))):=EG fun _ _ _ _ _ _ _ q=>le_int q
theorem uk:lM X (dO .Gt) (Ca fun i j=>.bl (decide (j<i))):=EG fun _ _ _ _ _ _ _ q=>gt_int q
theorem GC:lM X (dO .GtE) (Ca fun i j=>.bl (decide (j<=i))):=EG fun _ _ _ _ _ _ _ q=>ge_int q
theorem Bz:lM X (dO .In) (fun x y H Q=>∃i j,x=.str i/\y=.str j/\Q (.bl (!(cO.Str.occurrences j i 0 j.length 1).isEmpty)) H):=by
 intro g s σ H x y v u Q I e f h;obtain⟨i,j,rfl,rfl,q⟩:=h;obtain⟨t,rfl⟩:=e;obtain⟨k,rfl⟩:=f;exact in_str (bL I q rfl)
theorem C9(b:Expr){e:CmpOp}(h:e≠.In:=by decide)(f:e≠.NotIn:=by decide):jV e b=false:=by
 have g:(e==CmpOp.In)=false:=by cases e<;>first|rfl|exact absurd rfl h
 have i:(e==CmpOp.NotIn)=false:=by cases e<;>first|rfl|exact absurd rfl f
 cases b<;>simp[jV,g,i]
theorem As{e:CmpOp}{r:R2}(f:lM X (dO e) r)(g:PE X a ta)(i:PE X b tb)(j:jV e b=false):PE X (.Compare a [e] [b] pos) (aB r ta tb):=by
 intro k s σ H Q I h;exact wpAny_Compare1 (Ge g i I h fun v u l x y m n o p q=>f k l σ m x y v u Q n o p q) j
def aP(t:TE):TT:=fun σ H Q=>t σ H fun x H'=>∃k,x=.bl k/\Q k H'
theorem Ap{f:CmpOp}{r:R2}(i:lM X (dO f) r)(j:PE X a ta)(l:PE X b tb)(m:jV f b=false):PT X (.Compare a [f] [b] pos) (aP (aB r ta tb)):=by
 intro g s σ H Q I h;refine wpAny_isTrue_Compare1 (cA (j g s σ H _ I h) fun v n ⟨x,o,p,q,t⟩=>cA (l g n σ o _ p t) fun u w ⟨y,A,B,C,D⟩ =>
  cA (i g w σ A x y v u _ B q C D) fun c M ⟨z,E,G,J,k,e,L⟩=>?_) m
 subst e;cases J;exact qq ⟨E,G,L⟩
theorem oO:(aj:Nat)<2 ^ 63:=by rw[j5];decide
theorem rQ:lM X (o_ .Add) (fun x y H Q=>∃i j,x=.str i/\y=.str j/\i.length+j.length<=aj/\Q (.str (i++j)) H):=by
 intro l s σ H x y v u Q I e f h;obtain⟨i,j,rfl,rfl,g,q⟩:=h;obtain⟨t,rfl⟩:=e;obtain⟨k,rfl⟩:=f;exact add_str (fun k tk=>⟨.str (i++j),H,I.tok _,⟨_,rfl⟩,q⟩) g
theorem vals1{x:V}{e:Zf}(r:a_ [x] e):∃u,e=[u]/\RelV x u:=by
 cases r with
 |cons f g=>cases g;exact⟨_,rfl,f⟩
theorem vals2{x y:V}{e:Zf}(r:a_ [x,y] e):∃u f,e=[u,f]/\RelV x u/\RelV y f:=by
 cases r with
 |cons g h =>
  cases h with
  |cons i j=>cases j;exact⟨_,_,rfl,g,i⟩
end
end L2
namespace L2
open PySem PySem.Spec PyProof.Rows
structure zL(h:Heap)(x dx C:Addr)(mA:Str->Option Value):Prop where
 obj:h.get? x=some (pd C dx)
 ns:h.Ns1 dx mA
 ne:dx≠x
theorem BE{h:Heap}{g:Addr}{i:Str->Option Value}(n:h.Ns1 g i):∃j,h.get? g=some j/\∀name,z6 name j=some (i name):=by
 obtain⟨o,k,v,l,m,p,_,r⟩:=n;refine⟨o,l,fun name=>?_⟩;have e:=r name;unfold nsFind findBy at e;rw[<-Array.find?_toList]at e;unfold z6;rw[m];dsimp only;split
 ·rename_i y q;rw[q]at e;exact congrArg some e
 ·rename_i q;rw[q]at e;have a:k.toList.any (·.refKey)=false:=by
   rw[List.any_eq_false];intro y s;obtain⟨z,t,f⟩:=p y (Array.mem_toList_iff.mp s);simp[i5.refKey,f]
  have u:¬k.toList.any (·.refKey)=true:=by rw[a];exact gL
  rw[if_neg u];exact congrArg some e
theorem zL.look{h:Heap}{x e C:Addr}{f:Str->Option Value}(I:zL h x e C f):∃a,PySem.W.InstAt h x (pd C e) C (some a)/\∀name,z6 name a=some (f name) :=
 let⟨a,g,i⟩:=BE I.ns
 ⟨a,⟨I.obj,rfl,rfl,g⟩,i⟩
section
variable{prog:bD}{w:World}{A:Around}{E:Zc}{s:Shared}{K:Za}{x dx C f:Addr}{mA:Str->Option Value}{name:Str}{v:Value}
theorem EN{a:Bool}{Q:Zc}(X:K.In s.heap)(I:zL s.heap x dx C mA)(g:wu K C name=true)(i:z0 K C=true)
  (j:eP K (.ref C) name=some none) (k:mA name=some v) (e:PySem.W.handedIn v=true) (h:Q v { s with toks:=s.toks+1 }) :
  wpAny (model prog w) A (getAttr (.ref x) name a) Q E s:=by
 obtain⟨m,J,l⟩:=I.look;exact PySem.W.get_value X J (PySem.W.plainGet_of g).1 (PySem.W.findObj_own i j rfl (by rw[l,k])) e h
theorem Dl{e:Sem Bool}{Q:Value×List Value->Shared->Prop}(X:K.In s.heap)(I:zL s.heap x dx C mA)(a:wu K C name=true)
  (hf:eP K (.ref C) name=some (some (.ref f))) (g:wt K (.ref f)=true) (i:mA name=none) (h:Q (.ref f,[.ref x]) s) :
  wpAny (model prog w) A (o9 (.ref x) name e) Q E s:=by
 obtain⟨j,J,k⟩:=I.look;exact PySem.W.method_fn X J (PySem.W.plainGet_of a).1 (PySem.W.plainGet_of a).2 hf (beq_iff_eq.mp g) (by show(z6 name j).map (·.isSome)=some false;rw[k,i];rfl) h
theorem Eh{n:Zb}{Q:Unit->Shared->Prop}(X:K.In s.heap)(I:zL s.heap x dx C mA)
  (o:eP K (.ref C) "__setattr__"=some (some (.builtin "object.__setattr__"))) (p:PySem.W.plainOver K C=true) (q:PySem.W.takerIn K C name=some none) (t:z0 K C=true)
  (u:PySem.Within mA n) (z:n.length<=aj)
  (h:∀i,zL i x dx C (fun y=>if y=name then some v else mA y)->iK dx s.heap i->Q () { s with heap:=i,toks:=s.toks+2 }) :
  wpAny (model prog w) A (setAttr (.ref x) name v) Q E s:=by
 obtain⟨H,J,L⟩:=I.look;refine PySem.W.set_plain X J o (PySem.W.osa_open (s:={ s with toks:=s.toks+1 }) (r:=none) X J p q fun b=>?_);obtain⟨M,B,j⟩:=PySem.W.any_some t;have hx:s.heap.get? x=some ⟨.ref C,some dx,.plain,#[]⟩:=I.obj;refine am (aV (am (am (wpAny_loadPart hx (am (PySem.W.Looks.here (s:={ s with toks:=s.toks+1 }) (PySem.W.looks_clsIn X B) ?_))))));rw[j];refine aV (a:=some dx) (am (aV (am ?_)));refine wpAny_nsSet1 (s:={ s with toks:=s.toks+1 }) I.ns fun i e g=>?_;obtain⟨N,D,G,k,l,m⟩:=e.count (PySem.Within.cons name v u);refine am (wpAny_lookBehind k (by rw[l];exact pastItsLine_dict (bp m (by rw[gA];omega))) ?_);exact aV (h _ ⟨(g.2 _ (ic I.ne)).trans I.obj,e,I.ne⟩ g)
theorem Df{R:Result->Shared->Prop}{a:Zf}{e:List (Str×Value)}(X:K.In s.heap)(i:wq K C=true)
  (hi:eP K (.ref C) "__init__"=some (some (.ref f))) (hf:PySem.W.typeIn K (.ref f)=some (.type "function"))
  (h:zzl75 (model prog w) (A.under (.builtin "type.__call__" ⟨.ref C::a,e⟩)) (.call (.ref f) ⟨.ref (s.heap.objs.size+1)::a,e⟩) (PySem.W.InitBack (s.heap.objs.size+1) R)
   { s with heap:=(s.heap.push mR).push (pd C s.heap.objs.size) }) :
  zzl75 (model prog w) A (.call (.ref C) ⟨a,e⟩) R s:=by
 obtain⟨j,g,d,t,os⟩:=s;exact PySem.W.make_core (PySem.W.makes_of X i) (PySem.W.looks_findIn X hi) (fun self=>PySem.W.bind_fn X self hf) (.inl rfl) h
end
def c8(f:Str)(v:V):List (Str×V)->List (Str×V)
 |[]=>[(f,v)]
 | (g,x)::r=>if g=f then(g,v)::r else(g,x)::c8 f v r
theorem fu(f g:Str)(v:V):∀fs:List (Str×V),(c8 f v fs).lookup g=if g=f then some v else fs.lookup g
 |[]=>by
  show j4 g [(f,v)]=_;by_cases h:g=f
  ·have a:(g==f)=true:=beq_iff_eq.mpr h;simp only[j4,a,if_pos h]
  ·have a:(g==f)=false:=beq_eq_false_iff_ne.mpr h;simp only[j4,a,if_neg h]
 | (k,x)::r=>by
  have j:=fu f g v r;rw[show c8 f v ((k,x)::r)=(if k=f then(k,v)::r else(k,x)::c8 f v r)from rfl]
  by_cases i:k=f
  ·rw[if_pos i];by_cases h:g=k
   ·have a:(g==k)=true:=beq_iff_eq.mpr h;simp only[j4,a,if_pos (h.trans i)]
   ·have a:(g==k)=false:=beq_eq_false_iff_ne.mpr h;simp only[j4,a,if_neg (fun e:g=f=>h (e.trans i.symm))]
  ·rw[if_neg i];by_cases h:g=k
   ·have a:(g==k)=true:=beq_iff_eq.mpr h;simp only[j4,a,if_neg (fun e:g=f=>i (h.symm.trans e))]
   ·have a:(g==k)=false:=beq_eq_false_iff_ne.mpr h;simp only[j4,a];exact j
theorem oQ(f:Str)(v:V):∀fs:List (Str×V),f∈(c8 f v fs).map (·.1)/\∀g,g∈fs.map (·.1)->g∈(c8 f v fs).map (·.1)
 |[]=>⟨by simp[c8],fun g h=>by simp at h⟩
 | (k,x)::r=>by
  obtain⟨i,j⟩:=oQ f v r;rw[show c8 f v ((k,x)::r)=(if k=f then(k,v)::r else(k,x)::c8 f v r)from rfl]
  by_cases a:k=f
  ·rw[if_pos a];subst a;exact⟨by simp,fun g h=>by simpa using h⟩
  ·rw[if_neg a];refine⟨?_,fun g h=>?_⟩
   ·rw[bx];exact eQ _ i
   ·rw[bx]at h ⊢;rcases du.mp h with e|e
    ·exact du.mpr (.inl e)
    ·exact eQ _ (j g e)
theorem pA(f:Str)(v:V):∀fs:List (Str×V),(c8 f v fs).length<=fs.length+1
 |[]=>by simp[c8]
 | (k,x)::r=>by
  have e:=pA f v r;rw[show c8 f v ((k,x)::r)=(if k=f then(k,v)::r else(k,x)::c8 f v r)from rfl]
  by_cases a:k=f
  ·rw[if_pos a,gA,gA];omega
  ·rw[if_neg a,gA,gA];omega
theorem j1.some_of{v:V}{o:Option Value}(r:j1 (some v) o):∃u,o=some u/\RelV v u:=by
 cases o with
 |none=>exact(show False from r).elim
 |some u=>exact⟨u,rfl,r⟩
theorem j1.none_of{o:Option Value}(r:j1 none o):o=none:=by
 cases o with
 |none=>rfl
 |some u=>exact(show False from r).elim
theorem BP{v:V}{u:Value}(r:RelV v u):PySem.W.handedIn u=true:=by
 cases v with
 |non=>cases(show u=Value.none from r);rfl
 |bl b=>cases(show u=Value.bool b from r);rfl
 |int i=>obtain⟨t,e⟩:=(show ∃t,u=Value.int i t from r);cases e;rfl
 |str x=>obtain⟨t,e⟩:=(show ∃t,u=Value.str x t from r);cases e;rfl
 |byt b=>obtain⟨t,e⟩:=(show ∃t,u=Value.bytes b t from r);cases e;rfl
 |flt b=>obtain⟨t,e⟩:=(show ∃t,u=Value.float b t from r);cases e;rfl
 |ref a=>cases(show u=Value.ref a from r);rfl
 |ty n=>cases(show u=Value.type n from r);rfl
section
variable{P:bD}{w:World}{H H':Hp}{h h':Heap}{a C dx:Addr}{fs fs':List (Str×V)}
theorem p_{K:Za}(i:k7 P w K H h)(e:H a=some (.ins C dx fs)):∃g,zL h a dx C g/\(∀f,j1 (fs.lookup f) (g f))/\PySem.Within g (fs.map (·.1))/\fs.length<=1000/\H dx=some (.own a):=by
 obtain⟨d,z,ne,j,g,n,r,q⟩:=(show cj P w K H h a (.ins C dx fs)from i a _ e);exact⟨g,⟨j,n,ne⟩,r,q,z,d⟩
end
structure B9(K:Za)(C:Addr):Prop where
 pg:wu K C Str.empty=true
 hd:z0 K C=true
 po:PySem.W.plainOver K C=true
 sa:eP K (.ref C) "__setattr__"=some (some (.builtin "object.__setattr__"))
theorem B9.get{K:Za}{C:Addr}(c:B9 K C)(f:Str):wu K C f=true:=c.pg
def fL(K:Za)(C:Addr)(f:Str):Prop:=eP K (.ref C) f=some none
theorem fL.taker{K:Za}{C:Addr}{f:Str}(n:fL K C f):PySem.W.takerIn K C f=some none:=by
 unfold PySem.W.takerIn;rw[show eP K (.ref C) f=some none from n]
 rfl
structure Fb(K:Za)(C:Addr)(m:Str)(f:Addr):Prop where
 at_:eP K (.ref C) m=some (some (.ref f))
 fn:wt K (.ref f)=true
 kp:jg K (.ref f)=true
section
variable{X:Cx}{J2:Zd}{σ:St}{H:Hp}{s:Shared}{a C dx:Addr}{fs:List (Str×V)}{f:Str}{v:V}{A:Around}{E:Zc}
theorem zi{b:Bool}{Q:Zc}(I:Inv X J2 σ H s)(e:H a=some (.ins C dx fs))(c:B9 X.K C)(n:fL X.K C f)(l:fs.lookup f=some v)
  (h:∀u g,Inv X J2 σ H g->RelV v u->Q u g):wpAny (model X.prog X.w) A (getAttr (.ref a) f b) Q E s:=by
 obtain⟨j,O,r,_,_,_⟩:=p_ I.hok e;obtain⟨u,k,i⟩:=j1.some_of (v:=v) (o:=j f) (by rw[<-l];exact r f);exact EN I.kIn O (c.get f) c.hd n k (BP i) (h u _ (I.tok _) i)
theorem sf{m:Str}{g:Addr}{i:Sem Bool}{Q:Value×List Value->Shared->Prop}(I:Inv X J2 σ H s)(e:H a=some (.ins C dx fs))(c:B9 X.K C)(k:Fb X.K C m g)(l:fs.lookup m=none)
  (h:Q (.ref g,[.ref a]) s):wpAny (model X.prog X.w) A (o9 (.ref a) m i) Q E s:=by
 obtain⟨j,O,r,_,_,_⟩:=p_ I.hok e;have n:j m=none:=j1.none_of (by rw[<-l];exact r m);exact Dl I.kIn O (c.get m) k.at_ k.fn n h
theorem yD{y:V}{u:Value}{Q:Unit->Shared->Prop}(I:Inv X J2 σ H s)(e:H a=some (.ins C dx fs))(c:B9 X.K C)(n:fL X.K C f)(N:fs.length<1000)(p:RelV y u)
  (h:∀j,Inv X J2 σ (upd H a (.ins C dx (c8 f y fs))) j->Q () j):wpAny (model X.prog X.w) A (setAttr (.ref a) f u) Q E s:=by
 obtain⟨k,O,r,l,_,m⟩:=p_ I.hok e;have t:(fs.map (·.1)).length<=aj:=by rw[ak,j5];omega
 refine Eh I.kIn O c.sa c.po n.taker c.hd l t fun B i D=>h _ ?_;have G:∃o,B.get? dx=some o:=let⟨o,_,_,J,_⟩:=i.ns;⟨o,J⟩;refine I.write (x:=a) (e:=dx) (by rw[e];exact iJ) (.inr m) (fun b q L z=>(D.2 b L).trans z) G ?_;refine⟨by rw[ai O.ne];exact m,?_,O.ne,i.obj,_,i.ns,fun g=>?_,fun g M=>?_⟩
 ·have:=pA f y fs;omega
 ·show j1 ((c8 f y fs).lookup g) (if g=f then some u else k g)
  rw[fu];by_cases q:g=f
  ·rw[if_pos q,if_pos q];exact p
  ·rw[if_neg q,if_neg q];exact r g
 ·by_cases q:g=f
  ·rw[q];exact(oQ f y fs).1
  ·refine(oQ f y fs).2 g (l g fun z=>M ?_);show(if g=f then some u else k g)=none
   rw[if_neg q];exact z
theorem Inv.made(I:Inv X J2 σ H s):Inv X J2 σ (upd (upd H s.heap.objs.size (.own (s.heap.objs.size+1))) (s.heap.objs.size+1) (.ins C s.heap.objs.size []))
  { s with heap:=(s.heap.push mR).push (pd C s.heap.objs.size) }:=by
 have g:(s.heap.push mR).get? s.heap.objs.size=some mR:=c_ s.heap rfl;have h:((s.heap.push mR).push (pd C s.heap.objs.size)).get? (s.heap.objs.size+1)=some (pd C s.heap.objs.size):=by
  have:=c_ (s.heap.push mR) (o:=pd C s.heap.objs.size) rfl;rwa[o8]at this
 have i:(s.heap.push mR).Ns s.heap.objs.size (fun _=>none):=⟨mR,#[],_,g,rfl,(fun e j=>absurd j (by simp)),fun _=>rfl⟩;have k:=I.laid (a:=s.heap.objs.size) (o:=.own (s.heap.objs.size+1)) (h':=s.heap.push mR) (t':=s.toks) (fun b u q=>bu _ q) (aN _) ⟨_,g⟩;refine k.laid (a:=s.heap.objs.size+1) (o:=.ins C s.heap.objs.size []) (t':=s.toks) (fun b u q=>bu _ q) (Nat.le_of_eq (o8 _ _)) ?_;have ne:s.heap.objs.size≠s.heap.objs.size+1:=cY (zZ _);refine⟨by rw[ai ne,aa],c9 _,ne,h,fun _=>none,(Heap.Ns1.of_empty i).at fun o q=>bu _ q,fun _=>iJ,fun y l=>absurd rfl l⟩
theorem EZ{g:bD}{w:World}{i:Env}{e:Expr}{f:Str}{k:Pos}{s:Shared}{Q:Zc}(l:wo e f i (eval e i)=eval e i)
  (h:wpAny (model g w) A (eval e i) (fun o j=>wpAny (model g w) A (getAttr o f true) Q E j) E s):wpAny (model g w) A (eval (.Attribute e f k) i) Q E s :=
 Attribute_any_ h (by rw[arm_eval_Attribute,l])
end
def qW(K:Za)(ta:TE)(f:Str):TE:=fun σ H Q=>ta σ H fun x H1=>∃a C dx fs v,x=.ref a/\H1 a=some (.ins C dx fs)/\B9 K C/\fL K C f/\fs.lookup f=some v/\Q v H1
def vy(K:Za)(ta tv:TE)(f:Str):TS:=fun D σ H=>tv σ H fun y H1=>ta σ H1 fun x H2=>∃a C dx fs,x=.ref a/\H2 a=some (.ins C dx fs)/\B9 K C/\fL K C f/\fs.length<1000 /\
 D.nx σ (upd H2 a (.ins C dx (c8 f y fs)))
section
variable{X:Cx}{o e value:Expr}{f:Str}{pos pos' J5:Pos}{ta tv:TE}
theorem i8(i:PE X e ta)(j:wo e f X.env (eval e X.env)=eval e X.env):PE X (.Attribute e f pos) (qW X.K ta f):=by
 intro k s σ H Q I h;refine EZ j (cA (i k s σ H _ I h) fun u z g=>?_);obtain⟨x,m,p,r,a,C,A,fs,v,ex,t,c,n,l,q⟩:=g;subst ex;obtain rfl:u=Value.ref a:=r;exact zi p t c n l fun B D w y=>⟨v,m,w,y,q⟩
theorem kn(j:PE X o ta)(k:PE X value tv)(m:qj value (some (.Attribute o f pos')) pos.line X.env=pure false):PS X (.Assign [.Attribute o f pos'] value pos) (vy X.K ta tv f):=by
 intro i s σ H D I h;refine plainObj_wpAny_Assign_Attribute (cA (k i s σ H _ I h) fun u p ⟨y,r,t,v,q⟩=>cA (j i p σ r _ t q) fun w J g=>?_) m;obtain⟨x,L,z,A,a,C,M,fs,ex,B,c,n,l,E⟩:=g;subst ex;obtain rfl:w=Value.ref a:=A;exact yD z B c n l v fun N G=>⟨σ,_,G,E⟩
end
section
variable{X:Cx}{J2:Zd}{σ:St}{H:Hp}{s:Shared}{A:Around}{E:Zc}{Q:Zc}{c:Value}{b:Bool}
inductive iG(K:Za)(H:Hp):V->Value->Prop where
 |non:iG K H .non (.type "NoneType")
 |bl (x:Bool):iG K H (.bl x) (.type "bool")
 |int (i:Int):iG K H (.int i) (.type "int")
 |str (x:Str):iG K H (.str x) (.type "str")
 |flt (x:UInt64):iG K H (.flt x) (.type "float")
 |lst {a:Addr}{xs:List V}(e:H a=some (.lst xs)):iG K H (.ref a) (.type "list")
 |frz {a:Addr}{o:Obj}{xs:List V}(e:H a=some (.frz o (.lst xs))):iG K H (.ref a) (.type "list")
 |tup {a:Addr}{xs:List V}(e:H a=some (.tup xs)):iG K H (.ref a) (.type "tuple")
 |dK {a:Addr}{kvs:List (ca×V)}(e:H a=some (.dK kvs)):iG K H (.ref a) (.type "dict")
 |dT {a:Addr}{kvs:List (TK×V)}(e:H a=some (.dT kvs)):iG K H (.ref a) (.type "dict")
 |ins {a C dx:Addr}{fs:List (Str×V)}(e:H a=some (.ins C dx fs)) (cl:B9 K C) (ha:eP K (.ref C) "__class__"=some (some (.builtin "object.__class__")))
   (hn:PySem.W.specialIn K (.builtin "object.__class__") "__get__"=some (some (.builtin "getset_descriptor.__get__"))) (htk:PySem.W.takesIn K (.builtin "object.__class__")=some true)
   (hm:PySem.W.mroIn K C (.type "object")=some true):iG K H (.ref a) (.ref C)
theorem BI{x:V}{u t:Value}(I:Inv X J2 σ H s)(f:RelV x u)(ty:iG X.K H x t)(e:zY X.K t c=some b)(h:∀tk,Q (.bool b) { s with toks:=tk }):
  wpAny (model X.prog X.w) A (call (.builtin "isinstance") [u,c]) Q E s:=by
 cases ty with
 |non=>cases(show u=Value.none from f);exact jf PySem.W.kitx_none I.kIn iJ e (fun z=>nomatch z) h
 |bl y=>cases(show u=Value.bool y from f);exact jf PySem.W.kitx_bool I.kIn iJ e (fun z=>nomatch z) h
 |int i=>obtain⟨t,q⟩:=(show ∃t,u=Value.int i t from f);cases q;exact jf PySem.W.kitx_int I.kIn iJ e (fun z=>nomatch z) h
 |str y=>obtain⟨t,q⟩:=(show ∃t,u=Value.str y t from f);cases q;exact jf PySem.W.kitx_str I.kIn iJ e (fun z=>nomatch z) h
 |flt y=>obtain⟨t,q⟩:=(show ∃t,u=Value.float y t from f);cases q;exact jf PySem.W.kitx_float I.kIn iJ e (fun z=>nomatch z) h
 |@lst a l g =>
  cases(show u=Value.ref a from f);obtain⟨_,_,n,_,j⟩:=(show cj X.prog X.w X.K H s.heap a (.lst l)from I.hok a _ g);exact jf PySem.W.kitx_list I.kIn ⟨_,j,rfl⟩ e (fun z=>nomatch z) h
 |@frz a B l g =>
  cases(show u=Value.ref a from f);obtain⟨_,_,_,n,_,j⟩:=(show cj X.prog X.w X.K H s.heap a (.frz B (.lst l))from I.hok a _ g);exact jf PySem.W.kitx_list I.kIn ⟨_,j,rfl⟩ e (fun z=>nomatch z) h
 |@tup a l g =>
  cases(show u=Value.ref a from f);obtain⟨_,_,_,p⟩:=(show cj X.prog X.w X.K H s.heap a (.tup l)from I.hok a _ g);obtain⟨o,j,m,_⟩:=p;exact jf PySem.W.kitx_tuple I.kIn ⟨o,j,m⟩ e (fun z=>nomatch z) h
 |@dK a k g =>
  cases(show u=Value.ref a from f);obtain⟨_,_,T,_,p⟩:=(show cj X.prog X.w X.K H s.heap a (.dK k)from I.hok a _ g);obtain⟨o,D,G,j,m,_⟩:=p;exact jf PySem.W.kitx_dict I.kIn ⟨o,j,m.1⟩ e (fun z=>nomatch z) h
 |@dT a k g =>
  cases(show u=Value.ref a from f);obtain⟨_,_,l,_,o,D,G,j,m,_⟩:=(show cj X.prog X.w X.K H s.heap a (.dT k)from I.hok a _ g);exact jf PySem.W.kitx_dict I.kIn ⟨o,j,m.1⟩ e (fun z=>nomatch z) h
 |@ins a C U fs g v L M r N =>
  cases(show u=Value.ref a from f);obtain⟨Y,O,_⟩:=p_ I.hok g;obtain⟨od,J,_⟩:=O.look;exact jf (PySem.W.kitx_own (v.get _) v.hd L M r N) I.kIn J e (fun z=>nomatch z) h
end
end L2
namespace L2
open PySem PySem.Spec PyProof.Rows
structure eN(k:Nat)(A:Around):Prop where
 hd:A.handled=none
 dp:A.depth+3 * k+5<recursionLimit
 un:A.units+16 * k+200<cLine
theorem eN.mono{j k:Nat}{A:Around}(r:eN k A)(h:j<=k):eN j A:=⟨r.hd,by have:=r.dp;omega,by have:=r.un;omega⟩
theorem eN.deeper{k:Nat}{A:Around}(r:eN (k+1) A)(a:Env):eN k (A.deeper a) :=
 ⟨r.hd,by have:=r.dp;show A.depth+1+3 * k+5<_;omega,by have:=r.un;show A.units+3+16 * k+200<_;omega⟩
theorem y0{A:Around}{C:Addr}{a:Zf}{e:List (Str×Value)}:(A.under (.builtin "type.__call__" ⟨.ref C::a,e⟩)).depth=A.depth+1:=by
 first|rfl|simp[Around.under,Code.weight,Code.isCreation,Code.isGuard,Code.isCaller,Code.frames,Code.isFrame,guardIds]
theorem yZ{A:Around}{C:Addr}{a:Zf}{e:List (Str×Value)}:(A.under (.builtin "type.__call__" ⟨.ref C::a,e⟩)).units=A.units+1:=by
 first|rfl|simp[Around.under,Code.cUnits,Code.frames,Code.isFrame]
theorem eN.make{k:Nat}{A:Around}(r:eN (k+1) A)(C:Addr)(a:Zf)(e:List (Str×Value)):eN k (A.under (.builtin "type.__call__" ⟨.ref C::a,e⟩)) :=
 ⟨r.hd,by have:=r.dp;rw[y0];omega,by have:=r.un;rw[yZ];omega⟩
theorem eN.depth{k:Nat}{A:Around}(r:eN k A):A.depth<recursionLimit:=by have:=r.dp;omega
theorem eN.units{k:Nat}{A:Around}(r:eN k A):A.units+64<cLine:=by have:=r.un;omega
def bR:TA:=fun _ H Q=>Q [] H
def aJ(ta:TE)(tr:TA):TA:=fun σ H Q=>ta σ H fun x H1=>tr σ H1 fun xs H2=>Q (x::xs) H2
abbrev aE(a:TE):TA:=aJ a bR
abbrev aY(a b:TE):TA:=aJ a (aJ b bR)
abbrev dZ(a b c:TE):TA:=aJ a (aJ b (aJ c bR))
section
variable{X:Cx}{e:Expr}{es:List Expr}{te:TE}{t:TA}{pos:Pos}
theorem ck:PA X [] bR:=fun _ _ _ _ H Q I h=>Calls.spliced_nil ⟨[],H,I,.nil,h⟩
theorem cu(g:PE X e te)(i:PA X es t)(j:aI (e::es) X.env=(false,eval e X.env)::aI es X.env:=by rfl):PA X (e::es) (aJ te t):=by
 intro pos f s σ H Q I h;rw[j];show wpAny _ _ (spliced ((false,eval e X.env)::backTo pos (aI es X.env))) _ _ s;refine Calls.spliced_cons (cA (g f s σ H _ I h) fun u k a=>?_);obtain⟨x,l,m,n,o⟩:=a;exact cA (i pos f k σ l _ m o) fun y z ⟨p,q,r,v,w⟩=>⟨x::p,q,r,.cons n v,w⟩
def b_(t:TA):TE:=fun σ H Q=>t σ H fun xs H1=>xs.length<=aj/\∀p,H1 p=none->Q (.ref p) (upd H1 p (.tup xs))
def fA(t:TA):TE:=fun σ H Q=>t σ H fun xs H1=>xs.length<=aj/\∀p,H1 p=none->Q (.ref p) (upd H1 p (.lst xs))
theorem aZ{i}(h:PA X es t):PE X (.Tuple es i pos) (b_ t):=by
 intro j s σ H Q I k;refine wpAny_Tuple_spliced (cA (h pos j s σ H _ I k) fun l a ⟨m,f,g,r,z,q⟩=>⟨by rw[<-r.length];exact z,?_⟩);have hf:f a.heap.objs.size=none:=g.hok.fresh (aN _);refine⟨.ref a.heap.objs.size,upd f a.heap.objs.size (.tup m),g.laid (t':=a.toks) (fun b u e=>bu _ e) (aN _) ?_,rfl,q _ hf⟩;exact⟨z,l,r,⟨_,c_ _ rfl,rfl,_,rfl⟩⟩
theorem bY(h:PA X es t):PE X (.List es pos) (fA t):=by
 intro i s σ H Q I j;refine wpAny_List_spliced (cA (h pos i s σ H _ I j) fun k a ⟨l,f,g,r,z,q⟩=>⟨by rw[<-r.length];exact z,?_⟩);have hf:f a.heap.objs.size=none:=g.hok.fresh (aN _);refine⟨.ref a.heap.objs.size,upd f a.heap.objs.size (.lst l),g.laid (t':=a.toks) (fun b u e=>bu _ e) (aN _) ?_,rfl,q _ hf⟩;exact⟨z,k,0,r,c_ _ rfl⟩
end
abbrev Sp:=List V->Hp->VK->XK->Prop
abbrev DQ:=List Env->Hp->Shared->XK->Value->Shared->Prop
structure zT(P:bD)(w:World)(K:Za)(mg:Str->Option Value)(base:Heap)(A:Around)(outer:List Env)(s:Shared)(H:Hp):Prop where
 frames:A.frames=some outer
 mod:Mod K mg base
 bs:∀b o,base.get? b=some o->s.heap.get? b=some o/\(H b=none∨∃xs,H b=some (.tup xs))
 bsz:base.objs.size<=s.heap.objs.size
 funs:s.heap.FunFrames base outer
 frf:∀b∈Cc outer,H b=none
 hok:k7 P w K H s.heap
 bare:mT s.gens
def CE(outer:List Env)(P:bD)(w:World)(K:Za)(H:Hp)(s:Shared)(Q:VK)(u:Value)(s':Shared):Prop :=
 ∃v H',s'.os=s.os/\mT s'.gens/\Un (Cc outer) [] H H' s.heap s'.heap/\k7 P w K H' s'.heap/\RelV v u/\Q v H'
def CR(CX:DQ)(outer:List Env)(P:bD)(w:World)(K:Za)(H:Hp)(s:Shared)(Q:VK)(E:XK)(r:Result)(s':Shared):Prop :=
 match r with
 |.ok (.ret u)=>CE outer P w K H s Q u s'
 |.ok _=>False
 |.error e=>CX outer H s E e s'
structure lB(P:bD)(w:World)(K:Za)(mg:Str->Option Value)(base:Heap)(CX:DQ)(k:Nat)(f:Addr)(fd:j3)(ps:Zb)(sp:Sp):Prop where
 len:∀vs H Q E,sp vs H Q E->vs.length=ps.length
 run:∀(A:Around) (outer:List Env) (s:Shared) (H:Hp) (args:Args) (us:Zf) (vs:List V) (Q:VK) (E:XK),eN k A->zT P w K mg base A outer s H->tU s fd args (ps.zip us)->a_ vs us->sp vs H Q E ->
  zzl75 (model P w) A (.call (.ref f) args) (CR CX outer P w K H s Q E) s
theorem zT.make{P:bD}{w:World}{K:Za}{a:Str->Option Value}{base:Heap}{A:Around}{outer:List Env}{s:Shared}{H:Hp}(e:zT P w K a base A outer s H)(C:Addr)(f:Zf)(g:List (Str×Value)):
  zT P w K a base (A.under (.builtin "type.__call__" ⟨.ref C::f,g⟩)) outer s H:=⟨by first|exact e.frames|(simpa[Around.under,Code.envs,Code.isFrame,pushEnvs]using e.frames),e.mod,e.bs,e.bsz,e.funs,e.frf,e.hok,e.bare⟩
section
variable{X:Cx}{J2:Zd}{σ:St}{H:Hp}{s s':Shared}
theorem Inv.env0(I:Inv X J2 σ H s):zT X.prog X.w X.K X.mg X.base X.A X.stack s H :=
 ⟨I.ok.frames,I.ok.mod,I.bs,bp I.ok.bsz I.sz,I.stack,I.stkFree,I.hok,I.bare⟩
theorem Inv.after{Q:VK}{u:Value}(I:Inv X J2 σ H s)(h:CE X.stack X.prog X.w X.K H s Q u s'):EP X J2 σ Q u s':=by
 obtain⟨v,i,os,a,un,e,r,q⟩:=h;obtain⟨j,g,d,t,f⟩:=s';obtain rfl:f=s.os:=os;exact⟨v,i,I.call (h':=j) (g':=g) (d':=d) (t':=t) (ch:=[]) un e a (fun b z=>absurd z (by simp)),r,q⟩
end
def Fi(sp:Sp)(dvs:List V)(E:XK)(t:TA):TE:=fun σ H Q=>t σ H fun vs H1=>sp (vs++dvs) H1 Q E
def fk(C:Addr)(m:Str)(sp:Sp)(dvs:List V)(E:XK)(ta:TE)(t:TA):TE:=fun σ H Q=>ta σ H fun x H1=>∃a dx fs,x=.ref a/\H1 a=some (.ins C dx fs)/\fs.lookup m=none /\
 t σ H1 fun vs H2=>sp (x::(vs++dvs)) H2 Q E
def Aj(C:Addr)(sp:Sp)(dvs:List V)(E:XK)(t:TA):TE:=fun σ H Q=>t σ H fun vs H1=>∀x dx,H1 x=none->H1 dx=none->dx≠x ->
 sp (.ref x::(vs++dvs)) (upd (upd H1 dx (.own x)) x (.ins C dx [])) (fun v H2=>v=.non/\Q (.ref x) H2) E
def Binds(K:Za)(fd:j3)(ps:Zb)(ds:Zf):Prop :=
 ∀(s:Shared) (us:Zf),K.In s.heap->(us++ds).length=ps.length->tU s fd ⟨us,[]⟩ (ps.zip (us++ds))
theorem Binds.all{K:Za}{f:j3}{e:Zb}(h:∀a:List Value,a.length=e.length->bindArgs f ⟨a,[]⟩=pure (e.zip a)):Binds K f e []:=fun s a _ g=>by
 rw[cP]at g ⊢;exact .of_eq (h a g)
def mD(CX:DQ)(X:Cx)(E:XK):Prop:=∀(J2:Zd) (σ:St) (H:Hp) (s:Shared) (e:Value) (s':Shared),Inv X J2 σ H s->CX X.stack H s E e s'->X.xe e s'
section
variable{X:Cx}{CX:DQ}{k:Nat}{f C:Addr}{fd:j3}{ps:Zb}{sp:Sp}{dvs:List V}{ds:Zf}{E:XK}{x m:Str}{p pos J4:Pos}{e o:Expr}{es:List Expr}{ta:TE}{t:TA}
theorem yE{g:Zd}{σ:St}{H:Hp}{s:Shared}{Q:VK}{us:Zf}{vs:List V}(F:lB X.prog X.w X.K X.mg X.base CX k f fd ps sp)(j:eN k X.A)(l:Binds X.K fd ps ds)(n:a_ dvs ds)(hx:mD CX X E)
  (I:Inv X g σ H s) (r:a_ vs us) (h:sp (vs++dvs) H Q E):wpAny (model X.prog X.w) X.A (call (.ref f) us) (EP X g σ Q) X.xe s:=by
 have i:a_ (vs++dvs) (us++ds):=r.append n;have q:(us++ds).length=ps.length:=by rw[<-i.length];exact F.len _ _ _ _ h
 refine wpAny_call (zX (F.run X.A X.stack s H ⟨us,[]⟩ (us++ds) (vs++dvs) Q E j I.env0 (l s us I.kIn q) i h) fun r v a=>?_);cases r with
 |error e=>exact hx g σ H s e v I a
 |ok y =>
  cases y with
  |ret u=>exact I.after a
  |next=>exact jh a
  |brk=>exact jh a
  |cont=>exact jh a
theorem EE(F:lB X.prog X.w X.K X.mg X.base CX k f fd ps sp)(j:eN k X.A)(l:Gl X x)(n:X.mg x=some (.ref f))(u:jg X.K (.ref f)=true)(v:Binds X.K fd ps ds)(y:a_ dvs ds)(hx:mD CX X E)
  (z:PA X (e::es) t) (a:(x==("__debug__":Str))=false:=by decide) (B:aI (e::es) X.env=(false,eval e X.env)::aI es X.env:=by rfl) (g:(backTo pos (aI es X.env)).any (·.1)=false:=by rfl) :
  PE X (.Call (.Name x p) (e::es) [] pos) (Fi sp dvs E t):=by
 intro D s σ H Q I h;refine zW (vM I l n ?_ a);refine PySem.W.callWith_K (h₀:=X.base) I.ok.mod.kin u (cA (z pos D s σ H _ I h) fun G J ⟨L,M,i,r,q⟩=>⟨i.kIn,?_⟩) B g;exact yE F j v y hx i r q
theorem Ez{pl:Sem Bool}(D:PE X o ta)(c:B9 X.K C)(n:Fb X.K C m f)(F:lB X.prog X.w X.K X.mg X.base CX k f fd ps sp)(G:eN k X.A)(J:Binds X.K fd ps ds)(L:a_ dvs ds)(hx:mD CX X E)(M:PA X (e::es) t)
  (g:aI (e::es) X.env=(false,eval e X.env)::aI es X.env:=by rfl) (i:(backTo pos (aI es X.env)).any (·.1)=false:=by rfl)
  (N:eval (.Call (.Attribute o m J4) (e::es) [] pos) X.env=(do
   let v <- eval o X.env
   pb J4.atName
   let(f,first) <- j6 [v] (o9 v m pl)
   tT pos f first (backTo pos (aI (e::es) X.env)) (o7 pos (o6 [] X.env))):=by rfl) :
  PE X (.Call (.Attribute o m J4) (e::es) [] pos) (fk C m sp dvs E ta t):=by
 intro y s σ H Q I h;refine PySem.W.methodCall_KW (pl:=pl) (cA (D y s σ H _ I h) fun u O j=>?_) N;obtain⟨x,T,z,U,a,dx,fs,ex,Y,l,q⟩:=j;subst ex;obtain rfl:u=Value.ref a:=U;refine sf z Y c n l ?_;refine PySem.W.callWith_K (first:=[.ref a]) (h₀:=X.base) I.ok.mod.kin n.kp (cA (M pos y O σ T _ z q) fun us s2 ⟨vs,H2,B,r,q2⟩=>⟨B.kIn,?_⟩) g i
 exact yE (us:=.ref a::us) (vs:=.ref a::vs) F G J L hx B (.cons rfl r) q2
theorem C3{pl:Sem Bool}(r:PE X o ta)(c:B9 X.K C)(j:Fb X.K C m f)(F:lB X.prog X.w X.K X.mg X.base CX k f fd ps sp)(v:eN k X.A)(y:Binds X.K fd ps ds)(z:a_ dvs ds)(hx:mD CX X E)
  (B:eval (.Call (.Attribute o m J4) [] [] pos) X.env=(do
   let n <- eval o X.env
   pb J4.atName
   let(f,first) <- j6 [n] (o9 n m pl)
   tT pos f first (backTo pos (aI [] X.env)) (o7 pos (o6 [] X.env))):=by rfl) :
  PE X (.Call (.Attribute o m J4) [] [] pos) (fk C m sp dvs E ta bR):=by
 intro D s σ H Q I h;refine PySem.W.methodCall_KW (pl:=pl) (cA (r D s σ H _ I h) fun u L g=>?_) B;obtain⟨x,M,i,G,a,N,fs,ex,J,l,q⟩:=g;subst ex;obtain rfl:u=Value.ref a:=G;refine sf i J c j l ?_;exact PySem.W.callWith_K0 (first:=[.ref a]) i.kIn j.kp (yE (us:=[.ref a]) (vs:=[.ref a]) F v y z hx i (.cons rfl .nil) q)
structure Mk(K:Za)(C f:Addr):Prop where
 makes:wq K C=true
 init:eP K (.ref C) "__init__"=some (some (.ref f))
 fn:wt K (.ref f)=true
 kp:jg K (.ref C)=true
theorem CG{l:Zd}{σ:St}{H:Hp}{s:Shared}{Q:VK}{g:Zf}{n:List V}(M:Mk X.K C f)(F:lB X.prog X.w X.K X.mg X.base CX k f fd ps sp)(z:eN (k+1) X.A)(B:Binds X.K fd ps ds)(D:a_ dvs ds)
  (hx:mD CX X E) (I:Inv X l σ H s) (r:a_ n g)
  (h:∀x i,H x=none->H i=none->i≠x->sp (.ref x::(n++dvs)) (upd (upd H i (.own x)) x (.ins C i [])) (fun v G=>v=.non/\Q (.ref x) G) E) :
  wpAny (model X.prog X.w) X.A (call (.ref C) g) (EP X l σ Q) X.xe s:=by
 have q:=h (s.heap.objs.size+1) s.heap.objs.size (I.hok.fresh (Nat.le_succ _)) (I.hok.fresh (aN _)) (cY (zZ _));have j:=Inv.made (C:=C) I;have y:a_ (V.ref (s.heap.objs.size+1)::(n++dvs)) (Value.ref (s.heap.objs.size+1)::(g++ds)):=.cons rfl (r.append D);have J:(Value.ref (s.heap.objs.size+1)::g++ds).length=ps.length:=by
  have e:=y.length;rw[F.len _ _ _ _ q]at e;exact e.symm
 refine wpAny_call (Df (f:=f) I.kIn M.makes M.init (beq_iff_eq.mp M.fn) (zX (F.run _ X.stack _ _ ⟨Value.ref (s.heap.objs.size+1)::g,[]⟩ (Value.ref (s.heap.objs.size+1)::(g++ds)) _ _ E (z.make C g [])
  (j.env0.make C g []) (B _ (Value.ref (s.heap.objs.size+1)::g) j.kIn J) y q) fun r L a=>?_))
 cases r with
 |error e=>exact hx l σ _ _ e L j a
 |ok N =>
  cases N with
  |ret u =>
   obtain⟨v,O,T,U,Y,q3⟩:=j.after a;subst Y;exact⟨U,⟨V.ref (s.heap.objs.size+1),O,T,rfl,q3⟩⟩
  |next=>exact jh a
  |brk=>exact jh a
  |cont=>exact jh a
theorem EA(M:Mk X.K C f)(F:lB X.prog X.w X.K X.mg X.base CX k f fd ps sp)(j:eN (k+1) X.A)(l:Gl X x)(n:X.mg x=some (.ref C))(u:Binds X.K fd ps ds)(v:a_ dvs ds)(hx:mD CX X E)
  (y:PA X (e::es) t) (a:(x==("__debug__":Str))=false:=by decide) (z:aI (e::es) X.env=(false,eval e X.env)::aI es X.env:=by rfl) (g:(backTo pos (aI es X.env)).any (·.1)=false:=by rfl) :
  PE X (.Call (.Name x p) (e::es) [] pos) (Aj C sp dvs E t):=by
 intro B s σ H Q I h;refine zW (vM I l n ?_ a);refine PySem.W.callWith_K (h₀:=X.base) I.ok.mod.kin M.kp (cA (y pos B s σ H _ I h) fun D G ⟨J,L,i,r,q⟩=>⟨i.kIn,?_⟩) z g;exact CG M F j u v hx i r q
end
structure jP(N P:Zb)(sc:Scope):Prop where
 kind:sc.kind=.function
 co:sc.isCoroutine=false
 gen:sc.isGenerator=false
 nd:N.Nodup
 pre:N.take P.length=P
 par:∀x∈P,sc.names.lookup x=some .local∨sc.names.lookup x=some .cell
 nofree:∀y∈sc.names,y.2≠.free
theorem uD{kindOf:Str->Option je}{x:Str}:∀{binds:List (Str×Value)}{m:Str->Option Value},(∀v,(x,v)∉binds)->bindL kindOf binds m x=m x
 |[],_,_=>rfl
 | (n,v)::r,m,h=>by
  unfold bindL;rw[uD fun w a=>h w (eQ _ a)];split
  ·have:x≠n:=by rintro rfl;exact h v dP
   simp[this]
  ·rfl
theorem uF{kindOf:Str->Option je}{x:Str}:∀{binds:List (Str×Value)}{m:Str->Option Value},(∀v,(x,v)∉binds)->bindC kindOf binds m x=m x
 |[],_,_=>rfl
 | (n,v)::r,m,h=>by
  unfold bindC;rw[uF fun w a=>h w (eQ _ a)];split
  ·rfl
  ·have:x≠n:=by rintro rfl;exact h v dP
   simp[this]
theorem uE{kindOf:Str->Option je}{x:Str}{v:Value}:∀{P:Zb}{a:Zf}{i:Nat}{m:Str->Option Value},P.Nodup->P[i]?=some x->a[i]?=some v->kindOf x=some .local ->
  bindL kindOf (P.zip a) m x=some v
 |[],_,_,_,_,h,_,_=>by simp at h
 |_::_,[],_,_,_,_,h,_=>by simp at h
 |p::P,w::a,0,m,g,e,f,j=>by
  simp at e f;subst e;subst f;show bindL kindOf ((p,w)::P.zip a) m p=_;unfold bindL;rw[uD fun v k=>(mQ.mp g).1 (List.of_mem_zip k).1,if_pos j];simp
 |p::P,w::a,i+1,m,g,e,f,j=>by
  show bindL kindOf ((p,w)::P.zip a) m x=_;unfold bindL;exact uE (i:=i) (mQ.mp g).2 (by simpa using e) (by simpa using f) j
theorem uG{kindOf:Str->Option je}{x:Str}{v:Value}:∀{P:Zb}{a:Zf}{i:Nat}{m:Str->Option Value},P.Nodup->P[i]?=some x->a[i]?=some v->kindOf x≠some .local ->
  bindC kindOf (P.zip a) m x=some v
 |[],_,_,_,_,h,_,_=>by simp at h
 |_::_,[],_,_,_,_,h,_=>by simp at h
 |p::P,w::a,0,m,g,e,f,j=>by
  simp at e f;subst e;subst f;show bindC kindOf ((p,w)::P.zip a) m p=_;unfold bindC;rw[uF fun v k=>(mQ.mp g).1 (List.of_mem_zip k).1,if_neg j];simp
 |p::P,w::a,i+1,m,g,e,f,j=>by
  show bindC kindOf ((p,w)::P.zip a) m x=_;unfold bindC;exact uG (i:=i) (mQ.mp g).2 (by simpa using e) (by simpa using f) j
def start(N:Zb)(vs:List V):St:=vs.map some++qg (N.length-vs.length) none
def zz(CX:DQ)(P:bD)(w:World)(K:Za)(mg:Str->Option Value)(base:Heap)(N:Zb)(qual:Str)(scope:Scope)(f:Addr)(cd:Value)(A:Around)(outer:List Env)(s:Shared)(H:Hp)(E:XK):Cx where
 prog:=P
 w:=w
 K:=K
 mg:=mg
 base:=base
 A:=A.deeper (envOfC qual scope s.heap.objs.size f cd)
 N:=N
 s₀:=s
 H₀:=H
 env:=envOfC qual scope s.heap.objs.size f cd
 outer:=outer
 stack:=envOfC qual scope s.heap.objs.size f cd::outer
 ex:=[]
 calm:=true
 fn:=fun _=>true
 pn:=[]
 xe:=fun e s'=>wpAny (model P w) (A.deeper (envOfC qual scope s.heap.objs.size f cd)) (leaving (envOfC qual scope s.heap.objs.size f cd) e) (fun _ s''=>CX outer H s E e s'') (fun e' s''=>CX outer H s E e' s'') s'
theorem xJ{a:Scope}{n:Nat}{x:Str}(h:a.names.lookup x=some .cell):∃c,(cellsFrom n a.names []).lookup x=some c:=by
 have q:=PySem.W.cellsFrom_some a.names n [] (.inl h);exact zV.mp q
theorem BL{L:DQ}{P:bD}{w:World}{K:Za}{I:Str->Option Value}{base:Heap}{N m:Zb}{g:Str}{scope:Scope}{f:Addr}{D:Value}{A:Around}{outer:List Env}{s M:Shared}{H:Hp}{E:XK}{J:Zf}{o:List V}
  (S:jP N m scope) (T:A.handled=none) (l:zT P w K I base A outer s H) (hl:o.length=m.length) (r:a_ o J)
  (x:InCallC s s.heap.objs.size (bindL (envOfC g scope s.heap.objs.size f D).kindOf (m.zip J) fun _=>none) (cellsFrom (s.heap.objs.size+1) scope.names []) (bindC (envOfC g scope s.heap.objs.size f D).kindOf (m.zip J) fun _=>none) M) :
  Inv (zz L P w K I base N g scope f D A outer s H E) [] (start N o) H M:=by
 have U:m.length<=N.length:=by have:=congrArg List.length S.pre;rw[bm]at this;omega
 obtain⟨G,tk,rfl,O⟩:=x.done;have t:∀b:Addr,b∉(zz L P w K I base N g scope f D A outer s H E).ex:=fun b z=>absurd (show b∈([]:Ze)from z) (by simp);refine⟨⟨l.mod,S.kind,rfl,rfl,aN _,fun y z c G j=>?_,fun y hy=>?_,fun y c _ h=>?_,fun _=>T,Around.frames_deeper l.frames,.inr ⟨rfl,rfl⟩,fun b z=>absurd z (t b),l.bs,l.bsz,fun b _ _=>t b,fun b z=>absurd z (t b),l.funs,l.frf⟩,
  rfl,l.bare,Un.kept O,⟨_,x.toInCall.ns,fun i y v G j h3=>?_⟩,fun y c h=>⟨_,x.cell y c h⟩,l.hok.fresh (aN _),fun y c h=>?_,fun p B=>absurd (show p∈([]:Zd)from B) (by simp),l.hok.kept O,?_⟩
 ·exact name_of_addr x.apart (wn G) (wn j)
 ·have hy:scope.names.lookup y=some .cell∨scope.names.lookup y=some .free:=hy;rcases hy with hy|hy
  ·exact xJ hy
  ·exact absurd rfl (S.nofree _ (wn hy))
 ·exact fj (x.above y c (wn h))
 ·have hi:i<o.length:=by
   unfold start at j;by_cases hi:i<o.length
   ·exact hi
   ·rw[l5 (by simpa using hi)]at j;rw[List.getElem?_replicate]at j;split at j<;>cases j
  have Y:o[i]?=some v:=by
   unfold start at j;rw[qN (by simpa using hi),eG]at j;cases e:o[i]? with
   |none=>rw[e]at j;cases j
   |some a=>rw[e]at j;cases j;rfl
  obtain⟨u,Q,rv⟩:=r.get Y;have B:m[i]?=some y:=by
   rw[<-S.pre,List.getElem?_take_of_lt (by omega)];exact G
  have C:m.Nodup:=by rw[<-S.pre];exact S.nd.sublist (List.take_sublist _ _)
  refine⟨u,rv,?_⟩;rcases S.par y (cV B)with k|k
  ·exact .inl ⟨k,uE C B Q k⟩
  ·obtain⟨c,e⟩:=xJ (n:=s.heap.objs.size+1) k;refine .inr ⟨.inl k,c,e,?_⟩;have q:=x.cell y c e;rw[uG C B Q (by show scope.names.lookup y≠_;rw[k];decide)]at q;exact q
 ·exact l.hok.fresh (fj (x.above y c (wn h)))
 ·unfold start;show _=N.length;rw[aD,ak,List.length_replicate];omega
theorem GI{D:DQ}{P:bD}{w:World}{K:Za}{G:Str->Option Value}{base:Heap}{k:Nat}{f:Addr}{name a:Str}{params:Arguments}{h:List Stmt}{scope:Scope}{dV kV doc pm g ct oc:Value}{an od:Option Addr}
  {L:Array (Option Value)}{N ps:Zb}{M:Sp}(lk:K.lookup f=some ⟨oc,od,.func (ij name a params h scope dV kV doc pm an g ct),L⟩) (O:lZ K g a=true) (S:jP N ps scope)
  (len:∀i H Q E,M i H Q E->i.length=ps.length)
  (j:∀(A:Around) (outer:List Env) (s:Shared) (H:Hp) (i:List V) (Q:VK) (E:XK),eN k (A.deeper (envOfC a scope s.heap.objs.size f g))->M i H Q E ->
   ∃t,xW (zz D P w K G base N a scope f g A outer s H E) h t/\t (bQ Q) (start N i) H) :
  lB P w K G base D (k+1) f (ij name a params h scope dV kV doc pm an g ct) ps M:=by
 refine⟨len,fun A outer s H args us i Q E T z hb r B=>?_⟩;have hl:=len _ _ _ _ B;have KX:K.In s.heap:=z.mod.kin.keeps fun b o e=>(z.bs b o e).1;have U:s.heap.NoLimit:=z.mod.nolimit.keeps fun b o e=>(z.bs b o e).1;have l:∀y∈ps.zip us,scope.names.lookup y.1=some .local∨(scope.names.lookup y.1=some .cell/\((cellsFrom (s.heap.objs.size+1) scope.names []).lookup y.1).isSome=true):=fun⟨n,v⟩ hy=>by
  rcases S.par n (List.of_mem_zip hy).1 with q|q
  ·exact .inl q
  ·exact .inr ⟨q,PySem.W.cellsFrom_some _ _ _ (.inl q)⟩
 refine codeAny_call_function T.depth (KX _ _ lk) rfl S.co S.gen rfl (PySem.W.codeRec_of KX O) (hb _ _ _ _ ?_);refine wpAny_newFunctionEnv_cells S.kind l fun al he s1 x=>?_;subst he;refine⟨U.keeps x.toInCall.keep,codeAny_func ?_⟩;obtain⟨t,ht,hq⟩:=j A outer s H i Q E (T.deeper _) B;have I:Inv (zz D P w K G base N a scope f g A outer s H E) [] (start N i) H s1:=BL S T.hd z hl r x;refine mV (ht [] s1 (start N i) H _ I hq) (fun fl Y m=>?_) fun e Y m=>m;have C:∀{σ':St}{p:Hp}{v:V}{u:Value},Inv (zz D P w K G base N a scope f g A outer s H E) [] σ' p Y->RelV v u->Q v p->CE outer P w K H s Q u Y :=
  fun{σ' p v u} J rv q=>⟨v,p,J.os,J.bare,J.base,J.hok,rv,q⟩
 cases fl with
 |ret u =>
  obtain⟨v,σ',p,J,rv,q⟩:=m;exact C J rv q
 |next =>
  obtain⟨σ',p,J,q⟩:=m;exact C (v:=V.non) (u:=Value.none) J rfl q
 |brk =>
  obtain⟨_,_,_,q⟩:=m;exact jh q
 |cont =>
  obtain⟨_,_,_,q⟩:=m;exact jh q
end L2
namespace L2
open PySem PySem.Spec PyProof.Rows
section
variable{X:Cx}{x:Str}{p pos:Pos}{e:Expr}{es:List Expr}{t:TA}{id T:String}{r:List V->Hp->VK->Prop}
def dW(r:List V->Hp->VK->Prop)(t:TA):TE:=fun σ H Q=>t σ H fun vs H1=>r vs H1 Q
theorem xc(i:fM X (.builtin id) r)(j:Gl X x)(k:X.mg x=none)(l:iL x=some (.builtin id))(m:PA X (e::es) t)(n:x≠"__name__":=by decide)(a:(x==("__debug__":Str))=false:=by decide)
  (o:aI (e::es) X.env=(false,eval e X.env)::aI es X.env:=by rfl) (f:(backTo pos (aI es X.env)).any (·.1)=false:=by rfl):PE X (.Call (.Name x p) (e::es) [] pos) (dW r t):=by
 intro g s σ H Q I h;refine zW (oP I j k l ?_ n a);exact PyProof.Rows.callWith_builtin1 (cA (m pos g s σ H _ I h) fun q u ⟨v,w,y,z,A⟩=>i g u σ w v q Q y z A) o f
theorem gk(i:fM X (.type T) r)(j:Gl X x)(k:X.mg x=none)(l:iL x=some (.type T))(m:PA X (e::es) t)(n:x≠"__name__":=by decide)(a:(x==("__debug__":Str))=false:=by decide)
  (o:aI (e::es) X.env=(false,eval e X.env)::aI es X.env:=by rfl) (f:(backTo pos (aI es X.env)).any (·.1)=false:=by rfl):PE X (.Call (.Name x p) (e::es) [] pos) (dW r t):=by
 intro g s σ H Q I h;refine zW (oP I j k l ?_ n a);exact z7 (cA (m pos g s σ H _ I h) fun q u ⟨v,w,y,z,A⟩=>i g u σ w v q Q y z A) o f
end
end L2
namespace HT
open PySem PyProof.Rows
section
variable{prog:bD}{w:World}{A:Around}{E:Zc}{s:Shared}
def sIx(n d:Nat):Option Int->Nat
 |none=>d
 |some v=>if v<0 then(v+(n:Int)).toNat else min v.toNat n
theorem sIx_none(n d:Nat):sIx n d none=d:=rfl
theorem sIx_nat(n d k:Nat):sIx n d (some (k:Int))=min k n:=by
 show(if(k:Int)<0 then((k:Int)+(n:Int)).toNat else min (k:Int).toNat n)=min k n
 rw[if_neg (by omega),j_]
theorem sIx_le(n d:Nat)(e:d<=n)(o:Option Int):sIx n d o<=n:=by
 cases o with
 |none=>exact e
 |some v =>
  show(if v<0 then(v+(n:Int)).toNat else min v.toNat n)<=n
  by_cases a:v<0
  ·rw[if_pos a];omega
  ·rw[if_neg a];exact Nat.min_le_right _ _
theorem clip_eq(v:Int)(n d:Nat):(if v<0 then max (v+(n:Int)) 0 else min v (n:Int))=((sIx n d (some v):Nat):Int):=by
 show(if v<0 then max (v+(n:Int)) 0 else min v (n:Int))=(((if v<0 then(v+(n:Int)).toNat else min v.toNat n):Nat):Int)
 by_cases a:v<0
 ·simp only[if_pos a];omega
 ·simp only[if_neg a];omega
end
end HT
namespace L2
open PySem PySem.Spec PyProof.Rows
abbrev TO:=St->Hp->(Option Int->Hp->Prop)->Prop
def PO(X:Cx)(e:Option Expr)(t:TO):Prop :=
 ∀(J2:Zd) (s:Shared) (σ:St) (H:Hp) (Q:Option Int->Hp->Prop),Inv X J2 σ H s->t σ H Q ->
  wpAny (model X.prog X.w) X.A (evalPart e X.env) (fun u s'=>∃o H',Inv X J2 σ H' s'/\IsPart u o/\Q o H') X.xe s
def gu:TO:=fun _ H Q=>Q none H
def iN(t:TE):TO:=fun σ H Q=>t σ H fun x H1=>∃i,x=.int i/\Q (some i) H1
section
variable{X:Cx}{e:Expr}{te:TE}{lo hi:Option Expr}{tl th:TO}{pos p2:Pos}
theorem hC:PO X none gu:=by
 intro a s σ H Q I h;rw[evalPart_none];exact aV ⟨none,H,I,.none,h⟩
theorem eA(h:PE X e te):PO X (some e) (iN te):=by
 intro f s σ H Q I g;rw[evalPart_some];refine cA (h f s σ H _ I g) fun u n a=>?_;obtain⟨x,j,k,l,m⟩:=a;obtain⟨i,rfl,q⟩:=m;obtain⟨t,rfl⟩:=l;exact⟨some i,j,k,.int i t,q⟩
def FJ(X:Cx)(r:V->Option Int->Option Int->Hp->VK->Prop):Prop :=
 ∀(J2:Zd) (s:Shared) (σ:St) (H:Hp) (x:V) (v vl vu:Value) (lo hi:Option Int) (sl:Addr) (Q:VK),Inv X J2 σ H s->RelV x v->s.heap.IsSliceOf sl vl vu .none->IsPart vl lo->IsPart vu hi->r x lo hi H Q ->
  ∃T id,typeLookup (.type T) "__getitem__"=pure (some (.builtin id))/\s.TypeIs v T/\wpAny (model X.prog X.w) X.A (lY v (.ref sl)) (EP X J2 σ Q) X.xe s
theorem FJ.or{r a:V->Option Int->Option Int->Hp->VK->Prop}(h:FJ X r)(o:FJ X a):FJ X (fun x lo hi H Q=>r x lo hi H Q∨a x lo hi H Q):=by
 intro f s σ H x v g i lo hi j Q I k l m n q;rcases q with q|q
 ·exact h f s σ H x v g i lo hi j Q I k l m n q
 ·exact o f s σ H x v g i lo hi j Q I k l m n q
def B_(r:V->Option Int->Option Int->Hp->VK->Prop)(te:TE)(tl th:TO):TE:=fun σ H Q=>te σ H fun x H1=>tl σ H1 fun l H2=>th σ H2 fun u H3=>r x l u H3 Q
theorem eh{r:V->Option Int->Option Int->Hp->VK->Prop}(m:FJ X r)(n:PE X e te)(o:PO X lo tl)(p:PO X hi th):PE X (.Subscript e (.Slice lo hi none p2) pos) (B_ r te tl th):=by
 intro g s σ H Q I h;refine Subscript_ (cA (n g s σ H _ I h) fun v t f=>?_);obtain⟨x,y,z,B,C⟩:=f;refine wpAny_Slice (cA (o g t σ y _ z C) fun i D ⟨l,E,G,J,L⟩=>cA (p g D σ E _ G L) fun j a f=>?_);obtain⟨u,k,M,N,O⟩:=f;rw[evalPart_none];refine aV ?_;have U:Inv X g σ k { a with heap:=a.heap.push { cls:=.type "slice",data:=.fields #[i,j,.none] } }:=M.kept (t':=a.toks) fun b ob q=>bu _ q;obtain⟨T,id,Y,ht,hg⟩:=m g { a with heap:=a.heap.push { cls:=.type "slice",data:=.fields #[i,j,.none] } } σ k x v i j l u a.heap.objs.size Q U B (Heap.IsSliceOf.new ..) J N O;show wpAny (model X.prog X.w) X.A (subscriptTail e (.Slice lo hi none p2) v (.ref a.heap.objs.size)) (EP X g σ Q) X.xe { a with heap:=a.heap.push { cls:=.type "slice",data:=.fields #[i,j,.none] } };exact tail_any (ops:=[.ref a.heap.objs.size,v]) ht Y hg (by with_unfolding_all rfl)
def iF(xs:List V)(lo hi:Option Int):List V:=(xs.drop (HT.sIx xs.length 0 lo)).take (HT.sIx xs.length xs.length hi-HT.sIx xs.length 0 lo)
theorem xF(a:List V)(lo hi:Option Int):(iF a lo hi).length<=a.length:=by
 unfold iF;rw[bm,ii];omega
end
end L2
namespace L2
open PySem PySem.Spec PyProof.Rows
def DU(n:Nat)(i:Int):Option Nat:=if 0<=i then(if i<n then some i.toNat else none)else if -(n:Int)<=i then some (i+n).toNat else none
def xV{α:Type}(xs:List α)(i:Int):Option α:=(DU xs.length i).bind fun j=>xs[j]?
theorem AB{n:Nat}{i:Int}{j:Nat}(h:DU n i=some j):seqIndex? i n=some j/\j<n/\-(n:Int)<=i/\i<n:=by
 unfold DU at h;by_cases f:0<=i
 ·rw[if_pos f]at h;by_cases a:i<n
  ·rw[if_pos a]at h;have e:i.toNat=j:=eR h;exact⟨by rw[seqIndex_of f a,e],by omega,by omega,a⟩
  ·rw[if_neg a]at h;cases h
 ·rw[if_neg f]at h;by_cases a:-(n:Int)<=i
  ·rw[if_pos a]at h;have e:(i+n).toNat=j:=eR h;exact⟨by rw[seqIndex_neg (by omega) a,e],by omega,a,by omega⟩
  ·rw[if_neg a]at h;cases h
theorem v8{α:Type}{a:List α}{i:Int}{v:α}(h:xV a i=some v):∃j,seqIndex? i a.length=some j/\a[j]?=some v/\j<a.length/\-(a.length:Int)<=i/\i<a.length:=by
 unfold xV at h;cases e:DU a.length i with
 |none=>rw[e]at h;cases h
 |some j =>
  rw[e]at h;obtain⟨f,g,k,l⟩:=AB e;exact⟨j,f,h,g,k,l⟩
theorem bZ{α:Type}{a:List α}{j:Nat}{v:α}(h:a[j]?=some v):xV a (j:Int)=some v:=by
 have f:j<a.length:=(cE.mp h).1;have e:DU a.length (j:Int)=some j:=by
  unfold DU;rw[if_pos (by omega),if_pos (by omega)];simp
 unfold xV;rw[e];exact h
theorem xK{α:Type}(a:List α)(v:α):xV (a++[v]) (-1)=some v:=by
 have f:(a++[v]).length=a.length+1:=by simp
 have e:DU (a++[v]).length (-1)=some a.length:=by
  unfold DU;rw[f,if_neg (by decide),if_pos (by omega)];congr 1;omega
 unfold xV;rw[e];show(a++[v])[a.length]?=some v;simp
def Fa(b:Expr):Prop:=∀o i,u9 b false o i=operate [o,i] (lY o i)
def Fc(X:Cx)(r:R2):Prop :=
 ∀(value slice:Expr) (J2:Zd) (s:Shared) (σ:St) (H:Hp) (x y:V) (v u:Value) (Q:VK),Inv X J2 σ H s->RelV x v->RelV y u->r x y H Q ->
  u9 slice false v u=operate [v,u] (lY v u)->wpAny (model X.prog X.w) X.A (subscriptTail value slice v u) (EP X J2 σ Q) X.xe s
def MtR(X:Cx)(id:String)(r:V->List V->Hp->VK->Prop):Prop :=
 ∀(J2:Zd) (s:Shared) (σ:St) (H:Hp) (x:V) (xs:List V) (v:Value) (us:Zf) (Q:VK),Inv X J2 σ H s->RelV x v->a_ xs us->r x xs H Q ->
  wpAny (model X.prog X.w) X.A (call (.builtin id) (v::us)) (EP X J2 σ Q) X.xe s
section
variable{X:Cx}{a b:Expr}{ta tb:TE}{pos:Pos}
theorem Fc.or{r e:R2}(h:Fc X r)(k:Fc X e):Fc X (fun x y H Q=>r x y H Q∨e x y H Q):=by
 intro value slice f s σ H x y v u Q I g i q j;rcases q with q|q
 ·exact h value slice f s σ H x y v u Q I g i q j
 ·exact k value slice f s σ H x y v u Q I g i q j
theorem Ar{r:R2}(e:Fc X r)(f:PE X a ta)(g:PE X b tb)(i:Fa b):PE X (.Subscript a b pos) (aB r ta tb):=by
 intro j s σ H Q I h;exact Subscript_ (Ge f g I h fun v u k x y l m n o q=>e a b j k σ l x y v u Q m n o q (i _ _))
def d_(K:Za):R2:=fun x y H Q=>∃p xs i v,x=.ref p/\y=.int i/\ax K H p xs/\xV xs i=some v/\Q v H
def eJ(K:Za):R2:=fun x y H Q=>∃p xs i v,x=.ref p/\y=.int i/\bc K H p xs/\xV xs i=some v/\Q v H
def CW:R2:=fun x y H Q=>∃z i c,x=.str z/\y=.int i/\z.length<=aj/\xV z.cps.toList i=some c/\Q (.str ⟨#[c]⟩) H
theorem AA:Fc X (d_ X.K):=by
 intro value slice n s σ H x y v u Q I C D h o;obtain⟨p,T,i,z,rfl,rfl,E,G,q⟩:=h;cases C;obtain⟨t,rfl⟩:=D;obtain⟨g,r,k,U⟩:=I.list E;obtain⟨j,f,J,Y,L,M⟩:=v8 G;obtain⟨w,A,l⟩:=r.get J;have N:=r.length;have hn:=oO;have e:EP X n σ Q w s:=⟨z,H,I,l,q⟩;by_cases B:0<=i
 ·have m:i.toNat=j:=by
   rw[seqIndex_of B M]at f;exact eR f
  exact item_listR k.isList B (by omega) (by rw[m];simpa using A) e o
 ·have m:(i+(g.toArray.size:Int)).toNat=j:=by
   rw[seqIndex_neg (by omega) L]at f;rw[bX,<-N];exact eR f
  exact subscriptTail_builtinR (x:=w) k.isList.typeIs slot_list_getitem.lookup
   (wpAny_getItem_list_neg (Q:=fun r O=>r=w/\EP X n σ Q r O) k.isList (by omega) (by rw[bX]<;>omega) (by omega) (by rw[m];simpa using A) ⟨rfl,e⟩) o
theorem Di:Fc X (eJ X.K):=by
 intro value slice g s σ H x y v u Q I l m h n;obtain⟨p,L,i,z,rfl,rfl,o,A,q⟩:=h;cases l;obtain⟨t,rfl⟩:=m;obtain⟨B,r,k,M⟩:=I.tuple o;obtain⟨j,C,D,N,O,T⟩:=v8 A;obtain⟨w,E,e⟩:=r.get D;have G:=r.length;have U:=oO;have f:EP X g σ Q w s:=⟨z,H,I,e,q⟩;exact subscriptTail_builtinR (x:=w) k.typeIs slot_tuple_getitem.lookup
  (getItem_tuple (j:=j) (Q:=fun r J=>r=w/\EP X g σ Q r J) k (by omega) (by omega) (by rw[bX,<-G];exact C) (by simpa using E) ⟨rfl,f⟩) n
theorem Dj:Fc X CW:=by
 intro value slice A s σ H x y v u Q I f g h k;obtain⟨z,i,c,rfl,rfl,B,l,q⟩:=h;obtain⟨t,rfl⟩:=f;obtain⟨C,rfl⟩:=g;obtain⟨j,e,m,D,n,o⟩:=v8 l;have p:z.cps.toList.length=z.length:=by simp[Str.length]
 rw[p]at e n o;have E:=oO;exact tail_any (typeIs_str s z t) slot_str_getitem.lookup (getItem_str (c:=c) (by
  have r:decide (i < -(2 ^ 63:Int))=false:=zzr0 (by omega);have w:decide (i ≥ 2 ^ 63)=false:=zzr0 (by omega);rw[r,w,Bool.or_false]) (by rw[e];simpa using m) ⟨.str ⟨#[c]⟩,H,I.tok _,⟨_,rfl⟩,q⟩) k
def mP(K:Za):R2:=fun x y H Q=>d_ K x y H Q∨eJ K x y H Q∨CW x y H Q
theorem F0:Fc X (mP X.K):=AA.or (Di.or Dj)
theorem yY(e:Zf)(n j:Nat)(u:Value):qM (·.setIfInBounds j u) { cls:=.type "list",data:=.seq e.toArray n }={ cls:=.type "list",data:=.seq (e.set j u).toArray n }:=by
 simp[qM]
theorem Inv.lst{i:Zd}{σ:St}{H:Hp}{s:Shared}{p:Addr}{g:List V}(I:Inv X i σ H s)(h:H p=some (.lst g)):
  ∃(f:Zf) (n:Nat),a_ g f/\s.heap.get? p=some { cls:=.type "list",data:=.seq f.toArray n }/\g.length<=aj:=by
 obtain⟨z,f,n,r,e⟩:=I.hok p _ h;exact⟨f,n,r,e,z⟩
theorem Inv.lstUpd{l:Zd}{σ:St}{H:Hp}{s:Shared}{p:Addr}{m j:List V}{i g:Zf}{n k:Nat}{f:Obj->Obj}(I:Inv X l σ H s)(h:H p=some (.lst m))
  (o:s.heap.get? p=some { cls:=.type "list",data:=.seq i.toArray n }) (hf:f { cls:=.type "list",data:=.seq i.toArray n }={ cls:=.type "list",data:=.seq g.toArray k }) (r:a_ j g) (v:j.length<=aj) (t:Nat) :
  Inv X l σ (upd H p (.lst j)) { s with heap:=s.heap.update p f,toks:=t }:=by
 have e:(s.heap.update p f).get? p=some { cls:=.type "list",data:=.seq g.toArray k }:=by
  rw[u8 f o (by rw[hf]<;>rfl),hf]
 refine I.write (x:=p) (e:=p) (by rw[h];trivial) (.inl rfl) (fun b u w q=>(Heap.get?_update_other _ _ (ic w)).trans q) ⟨_,e⟩ ?_;exact⟨v,g,k,r,e⟩
def rD:V->V->V->Hp->(Hp->Prop)->Prop:=fun o i v H Q=>∃p xs k j,o=.ref p/\i=.int k/\H p=some (.lst xs)/\DU xs.length k=some j/\Q (upd H p (.lst (xs.set j v)))
theorem kh:GO X rD:=by
 intro B s σ H o i v M N u Q I C D E h;obtain⟨p,G,k,j,rfl,rfl,w,J,q⟩:=h;cases C;obtain⟨t,rfl⟩:=D;obtain⟨e,n,r,g,L⟩:=I.lst w;obtain⟨f,O,x,y⟩:=AB J;have l:=r.length;have T:=oO;have z:Inv X B σ (upd H p (.lst (G.set j v))) { s with heap:=s.heap.update p (qM (·.setIfInBounds j u)) } :=
  I.lstUpd w g (yY e n j u) (r.set E j) (by rw[List.length_set];exact L) s.toks
 by_cases A:0<=k
 ·have m:k.toNat=j:=by
   rw[seqIndex_of A y]at f;exact eR f
  exact PySem.W.ki_setAt g A (by omega) (by rw[bX,<-l];exact y) (by rw[m];exact⟨_,z,q⟩)
 ·have m:(k+(e.toArray.size:Int)).toNat=j:=by
   rw[seqIndex_neg (by omega) x]at f;rw[bX,<-l];exact eR f
  exact PySem.W.ki_setBack g (by omega) (by rw[bX,<-l];exact x) (by omega) (by rw[m];exact⟨_,z,q⟩)
theorem vw(lo hi:Option Int)(n:Nat):(lX lo hi none n).1=((HT.sIx n 0 lo:Nat):Int)/\(lX lo hi none n).2.1=((HT.sIx n n hi:Nat):Int)/\(lX lo hi none n).2.2=1:=by
 refine⟨?_,?_,rfl⟩
 ·cases lo with
  |none=>simp[lX,HT.sIx]
  |some i =>
   simp only[lX,HT.sIx,Option.getD_none,show(1:Int) > 0 by decide,if_true];by_cases h:i<0
   ·simp only[h,if_true]<;>omega
   ·simp only[h,if_false]<;>omega
 ·cases hi with
  |none=>simp[lX,HT.sIx]
  |some i =>
   simp only[lX,HT.sIx,Option.getD_none,show(1:Int) > 0 by decide,if_true];by_cases h:i<0
   ·simp only[h,if_true]<;>omega
   ·simp only[h,if_false]<;>omega
theorem tq(e:Zf)(lo hi:Option Int):slicePick e.toArray lo hi none=((e.drop (HT.sIx e.length 0 lo)).take (HT.sIx e.length e.length hi-HT.sIx e.length 0 lo)).toArray:=by
 obtain⟨f,g,h⟩:=vw lo hi e.toArray.size;unfold slicePick;rw[f,g,h];simp only[sliceRange_one,pick_run,bX]<;>rfl
def tG(K:Za):V->Option Int->Option Int->Hp->VK->Prop:=fun x lo hi H Q=>∃a xs,x=.ref a/\ax K H a xs/\∀p,H p=none->Q (.ref p) (upd H p (.lst (iF xs lo hi)))
theorem iS:FJ X (tG X.K):=by
 intro p s σ H x v t u lo hi w Q I i j k l h;obtain⟨a,e,rfl,hx,q⟩:=h;cases i;obtain⟨m,r,g,n⟩:=I.list hx;have f:=r.length;refine⟨"list",_,slot_list_getitem.lookup,g.isList.typeIs,?_⟩;refine wpAny_getItem_list_slice g.isList j k l .none (by simp) ?_ (by rw[bX]<;>omega);rw[tq,<-f];refine⟨.ref s.heap.objs.size,_,I.laid (t':=s.toks) (o:=.lst (iF e lo hi)) (fun b y q=>bu _ q) (aN _) ?_,rfl,q _ (I.hok.fresh (aN _))⟩;exact⟨bp (xF e lo hi) n,_,0,(r.drop (HT.sIx e.length 0 lo)).take (HT.sIx e.length e.length hi-HT.sIx e.length 0 lo),c_ _ rfl⟩
theorem v5:fM X (.builtin "len") (fun k H Q=>∃p f,k=[.ref p]/\(ax X.K H p f∨bc X.K H p f)/\Q (.int f.length) H):=by
 intro n s σ H k o Q I r h;obtain⟨p,f,rfl,hq,q⟩:=h;obtain⟨u,rfl,l⟩:=vals1 r;cases l;have t:=oO;rcases hq with hq|hq
 ·obtain⟨g,i,j,m⟩:=I.list hq;have e:=i.length;exact Calls.call_len_list j.isList (by simp only[bX]<;>omega) ⟨.int f.length,H,I.tok _,⟨s.toks+1,by rw[bX,e]⟩,q⟩
 ·obtain⟨g,i,j,m⟩:=I.tuple hq;have e:=i.length;exact len_tuple j (by simp only[bX]<;>omega) ⟨.int f.length,H,I.tok _,⟨s.toks+1,by rw[bX,e]⟩,q⟩
theorem v4:fM X (.builtin "len") (fun e H Q=>∃z,e=[.str z]/\z.length<=aj/\Q (.int z.length) H):=by
 intro f s σ H e g Q I r h;obtain⟨z,rfl,i,q⟩:=h;obtain⟨u,rfl,t,rfl⟩:=vals1 r;have j:=oO;exact len_str (by omega) ⟨.int z.length,H,I.tok _,⟨_,rfl⟩,q⟩
theorem fM.or{f:Value}{r g:List V->Hp->VK->Prop}(h:fM X f r)(l:fM X f g):fM X f (fun e H Q=>r e H Q∨g e H Q):=by
 intro i s σ H e j Q I k q;rcases q with q|q
 ·exact h i s σ H e j Q I k q
 ·exact l i s σ H e j Q I k q
theorem vZ:fM X (.type "list") (fun B H Q=>∃p i,B=[.ref p]/\(ax X.K H p i∨bc X.K H p i)/\∀l,H l=none->Q (.ref l) (upd H l (.lst i))):=by
 intro D s σ H B G Q I r h;obtain⟨p,i,rfl,hq,q⟩:=h;obtain⟨u,rfl,E⟩:=vals1 r;cases E;have m:∀(f:Zf),a_ i f->i.length<=aj->∀(g:Heap) (j:Nat),(∀b C,s.heap.get? b=some C->g.get? b=some C) ->
   g.get? s.heap.objs.size=some { cls:=.type "list",dict:=none,data:=.seq f.toArray j,slots:=#[] }->EP X D σ Q (.ref s.heap.objs.size) { s with heap:=g }:=fun f k t g j kp e =>
  ⟨.ref s.heap.objs.size,_,I.laid (t':=s.toks) kp (aN _) (show cj X.prog X.w X.K _ g _ (.lst i)from⟨t,f,j,k,e⟩),rfl,q _ (I.hok.fresh (aN _))⟩
 rcases hq with hq|hq
 ·obtain⟨f,k,x,t⟩:=I.list hq;have v:=k.length;obtain⟨o,y,z,n,A⟩:=x.isList;exact call_list_seq p (.inl rfl) y z A (fun g j kp e=>m f k t g j kp e) (by simp only[bX]<;>omega)
 ·obtain⟨f,k,x,t⟩:=I.tuple hq;have v:=k.length;obtain⟨o,y,z,n,A⟩:=x;exact call_list_seq p (.inr rfl) y z A (fun g j kp e=>m f k t g j kp e) (by simp only[bX]<;>omega)
theorem gx:fM X (.type "tuple") (fun n H Q=>∃p g,n=[.ref p]/\((ax X.K H p g/\∀l,H l=none->Q (.ref l) (upd H l (.tup g)))∨(bc X.K H p g/\Q (.ref p) H))):=by
 intro t s σ H n B Q I r h;obtain⟨p,g,rfl,h⟩:=h;obtain⟨u,rfl,z⟩:=vals1 r;cases z;rcases h with⟨j,q⟩|⟨j,q⟩
 ·obtain⟨f,k,m,v⟩:=I.list j;have x:=k.length;refine call_tuple_list m.isList (fun i kp=>?_) (by simp only[bX]<;>omega);have y:Inv X t σ H { s with heap:=i }:=I.kept (t':=s.toks) kp;have A:Inv X t σ (upd H i.objs.size (.tup g)) { s with heap:=i.push { cls:=.type "tuple",data:=.seq f.toArray } } :=
   y.laid (t':=s.toks) (fun b o e=>bu _ e) (aN _) (show cj X.prog X.w X.K _ _ _ (.tup g)from⟨v,f,k,IsTup.new _ _⟩)
  exact⟨.ref i.objs.size,_,A,rfl,q _ (y.hok.fresh (aN _))⟩
 ·obtain⟨f,k,m,v⟩:=I.tuple j;exact call_tuple_same m ⟨.ref p,H,I,rfl,q⟩
def tyV(K:Za)(T:String)(x:V)(H:Hp):Prop:=match x with
 |.str _=>T="str"
 |.int _=>T="int"
 |.ref p=>(T="list"/\∃xs,ax K H p xs)∨(T="tuple"/\∃o,K.lookup p=some o/\o.cls=.type "tuple"/\o.dict=none) ∨
   (T="dict"/\((∃kvs,H p=some (.dK kvs))∨∃kvs,H p=some (.dT kvs)))∨(T="set"/\∃S n,H p=some (.set S n))
 |_=>False
theorem Co{m:Zd}{σ:St}{H:Hp}{s:Shared}{T:String}{x:V}{v:Value}(I:Inv X m σ H s)(r:RelV x v)(ty:tyV X.K T x H):
  s.TypeIs v T/\∀a,v=.ref a->∃k,s.heap.get? a=some k/\k.dict=none:=by
 cases x with
 |str z =>
  obtain⟨t,rfl⟩:=r;cases(show T="str" from ty);exact⟨typeIs_str s z t,fun _ e=>nomatch e⟩
 |int i =>
  obtain⟨t,rfl⟩:=r;cases(show T="int" from ty);exact⟨typeIs_int s i t,fun _ e=>nomatch e⟩
 |ref p =>
  cases r;rcases ty with⟨rfl,y,q⟩|⟨rfl,o,f,u,g⟩|⟨rfl,f⟩|⟨rfl,S,n,f⟩
  ·obtain⟨w,_,l,_⟩:=I.list q;refine⟨l.isList.typeIs,fun a e=>?_⟩;cases e;obtain⟨o,n,e,c,g,_⟩:=l;exact⟨o,e,g⟩
  ·refine⟨⟨o,I.kIn p o f,u⟩,fun a e=>?_⟩;cases e;exact⟨o,I.kIn _ o f,g⟩
  ·have z:∃o,s.heap.get? p=some o/\o.ExactDict:=by
    rcases f with⟨h,f⟩|⟨h,f⟩
    ·obtain⟨_,_,_,_,o,_,_,e,ex,_⟩:=I.hok p _ f;exact⟨o,e,ex⟩
    ·obtain⟨_,_,_,_,o,_,_,e,ex,_⟩:=I.hok p _ f;exact⟨o,e,ex⟩
   obtain⟨o,e,ex⟩:=z;refine⟨⟨o,e,ex.1⟩,fun a j=>?_⟩;cases j;exact⟨o,e,ex.2.1⟩
  ·obtain⟨o,_,_,_,e,ex,_⟩:=I.hok p _ f;refine⟨⟨o,e,ex.1⟩,fun a j=>?_⟩;cases j;exact⟨o,e,ex.2.1⟩
 |_=>exact jh ty
def yz(K:Za)(T:String)(r:V->List V->Hp->VK->Prop)(to:TE):TE:=fun σ H Q=>to σ H fun x H1=>tyV K T x H1/\r x [] H1 Q
def ua(K:Za)(T:String)(r:V->List V->Hp->VK->Prop)(to:TE)(t:TA):TE:=fun σ H Q=>to σ H fun x H1=>tyV K T x H1/\t σ H1 fun xs H2=>r x xs H2 Q
variable{o e:Expr}{es:List Expr}{to:TE}{t:TA}{name:Str}{J4 J3:Pos}{T id:String}{r:V->List V->Hp->VK->Prop}
theorem oJ(p:PlainAttrs T)(i:Slot T name id)(j:typeOf (.builtin id)=pure (.type "method_descriptor"))(q:MtR X id r)(u:PE X o to)
  (f:wo o name X.env (eval o X.env)=eval o X.env:=by rfl) (g:(J4.endLine==J3.line)=true:=by rfl):PE X (.Call (.Attribute o name J4) [] [] J3) (yz X.K T r to):=by
 intro l s σ H Q I h;refine wpAny_Call_method0_late f g (cA (u l s σ H _ I h) fun v w k=>?_);obtain⟨x,y,m,n,ty,z⟩:=k;obtain⟨A,B⟩:=Co m n ty;exact⟨T,id,p,i,j,A,B,Calls.callWith_builtin rfl (PySem.evalArgs_none (q l w σ y x [] v [] Q m n .nil z))⟩
theorem g6(w:PlainAttrs T)(j:Slot T name id)(l:typeOf (.builtin id)=pure (.type "method_descriptor"))(y:MtR X id r)(z:PE X o to)(A:PA X (e::es) t)
  (g:wo o name X.env (eval o X.env)=eval o X.env:=by rfl)
  (k:((backTo J3 (aI (e::es) X.env)).all (fun x=>!x.1) && (o7 J3 (o6 [] X.env)).all (fun x=>x.1.isSome)
   && decide ((e::es).length+([]:List Keyword).length+(if([]:List Keyword).isEmpty then 0 else 1)<30))=true:=by rfl)
  (i:(J4.endLine==J3.line)=true:=by rfl) (B:aI (e::es) X.env=(false,eval e X.env)::aI es X.env:=by rfl) (f:(backTo J3 (aI es X.env)).any (·.1)=false:=by rfl) :
  PE X (.Call (.Attribute o name J4) (e::es) [] J3) (ua X.K T r to t):=by
 intro m s σ H Q I h;refine wpAny_Call_method_late g k i rfl (cA (z m s σ H _ I h) fun v C n=>?_);obtain⟨x,D,p,q,ty,E⟩:=n;obtain⟨G,J⟩:=Co p q ty;refine⟨T,id,w,j,l,G,J,?_⟩;have u:=A J3 m C σ D _ p E;rw[B]at u ⊢;refine Calls.callWith_builtin (by show(false || (backTo J3 (aI es X.env)).any (·.1))=false;rw[f]<;>rfl) (Calls.evalArgs_plain ?_);exact cA u fun L M ⟨N,O,U,Y,q2⟩=>y m M σ O x N v L Q U q Y q2
end
end L2
namespace L2
open PySem PySem.Spec PyProof.Rows
def Gs(X:Cx)(id:String)(r:V->List V->Hp->VK->Prop):Prop :=
 ∀(J2:Zd) (s:Shared) (σ:St) (H:Hp) (x:V) (xs:List V) (v:Value) (us:Zf) (Q:VK),Inv X J2 σ H s->RelV x v->a_ xs us->r x xs H Q ->
  wpAny (model X.prog X.w) X.A (call (.builtin id) (v::us)) (EP X J2 σ Q) X.xe s
theorem a_.one{x:V}{a:Zf}(h:a_ [x] a):∃u,a=[u]/\RelV x u:=by
 cases h with
 |cons r t=>cases t;exact⟨_,rfl,r⟩
theorem a_.two{x y:V}{a:Zf}(h:a_ [x,y] a):∃u v,a=[u,v]/\RelV x u/\RelV y v:=by
 cases h with
 |cons r t =>
  obtain⟨v,e,q⟩:=a_.one t;exact⟨_,v,by rw[e],r,q⟩
theorem a_.zero:∀{a:Zf},a_ [] a->a=[]
 |_,.nil=>rfl
theorem a_.dropLast{a:List V}{e:Zf}(h:a_ a e):a_ a.dropLast e.dropLast:=by
 induction h with
 |nil=>exact .nil
 |cons r t f =>
  cases t with
  |nil=>exact .nil
  |cons q g=>exact .cons r f
theorem a_.reverse{a:List V}{e:Zf}(h:a_ a e):a_ a.reverse e.reverse:=by
 induction h with
 |nil=>exact .nil
 |cons r t f=>rw[oj,oj];exact a_.append f (.cons r .nil)
theorem zu{α:Type}(l:List α):l.eraseIdx (l.length-1)=l.dropLast:=by
 induction l with
 |nil=>rfl
 |cons a r f =>
  cases r with
  |nil=>rfl
  |cons b r =>
   have e:(a::b::r).length-1=((b::r).length-1)+1:=by
    have g:(a::b::r).length=r.length+2:=rfl;have h:(b::r).length=r.length+1:=rfl;omega
   rw[e,List.eraseIdx_cons_succ,f]
   all_goals rfl
section
variable{X:Cx}{J2:Zd}{σ:St}{H:Hp}{s:Shared}{l b:Addr}{xs ys zs:List V}
theorem Inv.lset{a its':Zf}{n:Nat}{f:Array Value->Array Value}{g:Nat}(I:Inv X J2 σ H s)(h:H l=some (.lst xs))
  (e:s.heap.get? l=some { cls:=.type "list",data:=.seq a.toArray n }) (hf:f a.toArray=its'.toArray) (i:a_ ys its') (j:ys.length<=aj) :
  Inv X J2 σ (upd H l (.lst ys)) { s with heap:=s.heap.update l (qM f),toks:=g }:=by
 have q:=PySem.IsL.update e f;rw[hf]at q;refine I.write (x:=l) (e:=l) (by rw[h];exact trivial) (.inl rfl) (fun o u k m=>(Heap.get?_update_other s.heap (qM f) (ic k)).trans m) ⟨_,q⟩ ?_;exact⟨j,its',_,i,q⟩
theorem Inv.lnew{a:Zf}{t':Nat}(I:Inv X J2 σ H s)(e:a_ ys a)(f:ys.length<=aj):
  Inv X J2 σ (upd H s.heap.objs.size (.lst ys)) { s with heap:=s.heap.push { cls:=.type "list",data:=.seq a.toArray },toks:=t' } :=
 I.laid (fun _ _ q=>bu _ q) (aN _) ⟨f,a,0,e,c_ _ rfl⟩
theorem Inv.fresh(I:Inv X J2 σ H s):H s.heap.objs.size=none:=I.hok.fresh (aN _)
theorem Inv.lstM(I:Inv X J2 σ H s)(f:H l=some (.lst xs)):xs.length<=aj/\∃(a:Zf) (n:Nat),a_ xs a/\xs.length=a.length/\s.heap.get? l=some { cls:=.type "list",data:=.seq a.toArray n }:=by
 obtain⟨z,a,n,r,e⟩:=I.hok l _ f;exact⟨z,a,n,r,r.length,e⟩
theorem C8{n:Nat}(h:n<=aj):cO.List.listTooLong n=false:=by
 unfold cO.List.listTooLong;exact zzr0 (by omega)
end
section
variable{X:Cx}
def cR:V->List V->Hp->VK->Prop:=fun x vs H Q=>∃l xs y,x=.ref l/\vs=[y]/\H l=some (.lst xs)/\xs.length<aj/\Q .non (upd H l (.lst (xs++[y])))
theorem cb:Gs X "list.append" cR:=by
 intro k s σ H x m v o Q I g i h;obtain⟨l,p,y,rfl,rfl,f,t,q⟩:=h;cases g;obtain⟨u,rfl,j⟩:=i.one;obtain⟨z,a,n,r,w,e⟩:=I.lstM f;refine qK F.slot_list_append ⟨_,e,rfl⟩ F.entry_list_append (F.args_list_append_2 _ _) (PySem.list_append l a.toArray n u (by rw[bX];omega)) ⟨e,?_⟩;refine⟨.non,_,I.lset (its':=a++[u]) f e (by simp) (r.append (.cons j .nil)) ?_,rfl,q⟩;rw[aD,List.length_singleton];omega
def An:V->List V->Hp->VK->Prop:=fun x vs H Q=>∃l b xs zs,x=.ref l/\vs=[.ref b]/\H l=some (.lst xs)/\H b=some (.lst zs)/\xs.length+zs.length<=aj/\Q .non (upd H l (.lst (xs++zs)))
theorem BC:Gs X "list.extend" An:=by
 intro A s σ H x B v C Q I k m h;obtain⟨l,b,D,E,rfl,rfl,j,hB,G,q⟩:=h;cases k;obtain⟨u,rfl,o⟩:=m.one;cases o;obtain⟨z,f,n,r,J,e⟩:=I.lstM j;obtain⟨L,a,p,t,w,y⟩:=I.lstM hB;have i:f.toArray.size+a.toArray.size<=aj:=by rw[bX,bX];omega
 have g:¬(!f.toArray.isEmpty && cO.List.listTooLong (f.toArray.size+a.toArray.size))=true:=by
  rw[C8 i,Bool.and_false];exact gL
 refine qK F.slot_list_extend ⟨_,e,rfl⟩ F.entry_list_extend (F.args_list_extend_2 _ _)
  (AutoSeq1.list_extend_list_list_0 l f.toArray n b a.toArray p g (by rw[bX];omega) (by omega)) ⟨e,y,?_⟩
 refine⟨.non,_,I.lset (its':=f++a) j e (by simp) (r.append t) ?_,rfl,q⟩;rw[aD];omega
def Bu:V->List V->Hp->VK->Prop:=fun x vs H Q=>∃l xs y,x=.ref l/\vs=[]/\H l=some (.lst xs)/\xs[xs.length-1]?=some y/\Q y (upd H l (.lst xs.dropLast))
theorem rR:Gs X "list.pop" Bu:=by
 intro w s σ H x A v B Q I j k h;obtain⟨l,C,y,rfl,rfl,i,m,q⟩:=h;cases j;have f:=k.zero;subst f;obtain⟨z,a,n,r,o,e⟩:=I.lstM i;obtain⟨u,p,t⟩:=r.get m;have g:a.toArray[a.toArray.size-1]?=some u:=by
  show a.toArray[a.length-1]?=some u;rw[<-qJ,<-o];exact p
 refine qK F.slot_list_pop ⟨_,e,rfl⟩ F.entry_list_pop (F.args_list_pop_1 _) (MeetsSeq.list_pop_last l a.toArray n u g (by rw[bX];omega)) ⟨e,?_⟩;refine⟨y,_,I.lset (its':=a.dropLast) i e ?_ r.dropLast ?_,t,q⟩
 ·show a.toArray.eraseIdxIfInBounds (a.toArray.size-1)=a.dropLast.toArray;rw[bX,List.eraseIdxIfInBounds_toArray,zu]
 ·rw[List.length_dropLast];omega
def xa:V->List V->Hp->VK->Prop:=fun x vs H Q=>∃l xs,x=.ref l/\vs=[]/\H l=some (.lst xs)/\Q .non (upd H l (.lst xs.reverse))
theorem yW:Gs X "list.reverse" xa:=by
 intro k s σ H x m v o Q I i j h;obtain⟨l,p,rfl,rfl,g,q⟩:=h;cases i;have f:=j.zero;subst f;obtain⟨z,a,n,r,t,e⟩:=I.lstM g;refine qK F.slot_list_reverse ⟨_,e,rfl⟩ F.entry_list_reverse (F.args_list_reverse_1 _) (AutoSeq1.list_reverse_list_0 l a.toArray n (by rw[bX];omega)) ⟨e,?_⟩;refine⟨.non,_,I.lset (its':=a.reverse) g e (by simp) r.reverse ?_,rfl,q⟩;rw[List.length_reverse];omega
def Bw:R2:=fun x y H Q=>∃l b xs zs,x=.ref l/\y=.ref b/\H l=some (.lst xs)/\H b=some (.lst zs)/\xs.length+zs.length<=aj/\∀p,H p=none->Q (.ref p) (upd H p (.lst (xs++zs)))
theorem rP:lM X (o_ .Add) Bw:=by
 intro t s σ H x y v u Q I g i h;obtain⟨l,b,w,A,rfl,rfl,j,hB,B,q⟩:=h;cases g;cases i;obtain⟨z,f,n,r,C,e⟩:=I.lstM j;obtain⟨D,a,E,k,m,o⟩:=I.lstM hB;refine PySem.P.add_list e o ?_ (by rw[bX,bX];omega);have p:f.toArray++a.toArray=(f++a).toArray:=by simp
 rw[p];exact⟨.ref _,_,I.lnew (t':=s.toks) (r.append k) (by rw[aD];omega),rfl,q _ I.fresh⟩
end
end L2
namespace L2
open PySem PySem.Spec PyProof.Rows
section
variable{κ:Type}[DecidableEq κ]
def cz(kvs:List (κ×V))(k:κ):Option V:=(kvs.find? fun kv=>decide (kv.1=k)).map (·.2)
def c7(kvs:List (κ×V))(k:κ)(v:V):List (κ×V) :=
 if(kvs.any fun kv=>decide (kv.1=k))=true then kvs.map (fun kv=>if kv.1=k then(kv.1,v)else kv)else kvs++[(k,v)]
theorem dD{p:κ×V}{r:List (κ×V)}{k:κ}(e:p.1=k):cz (p::r) k=some p.2:=by simp[cz,gR,e]
theorem db{p:κ×V}{r:List (κ×V)}{k:κ}(e:¬p.1=k):cz (p::r) k=cz r k:=by simp[cz,gR,e]
theorem ji(k:κ):∀a:List (κ×V),(a.any fun f=>decide (f.1=k))=(cz a k).isSome
 |[]=>rfl
 |p::r=>by
  rw[oh];by_cases e:p.1=k
  ·simp only[dD e,zzr1 e,Bool.true_or,Option.isSome_some]
  ·rw[db e,zzr0 e,Bool.false_or];exact ji k r
theorem wA(k j:κ)(y:V):∀a:List (κ×V),cz (a.map fun f=>if f.1=k then(f.1,y)else f) j=(cz a j).map fun x=>if j=k then y else x
 |[]=>rfl
 |p::r=>by
  have g:=wA k j y r;rw[bx];by_cases h:p.1=k
  ·rw[if_pos h];by_cases e:p.1=j
   ·rw[dD (p:=(p.1,y)) e,dD e,qI,if_pos (e.symm.trans h)]
   ·rw[db (p:=(p.1,y)) e,db e,g]
  ·rw[if_neg h];by_cases e:p.1=j
   ·rw[dD (p:=p) e,dD e,qI,if_neg (fun z=>h (e.trans z))]
   ·rw[db (p:=p) e,db e,g]
theorem t6(k j:κ)(y:V):∀a:List (κ×V),cz a k=none->cz (a++[(k,y)]) j=if j=k then some y else cz a j
 |[],_=>by
  by_cases e:k=j
  ·rw[if_pos e.symm];exact dD (p:=(k,y)) e
  ·rw[if_neg (fun z=>e z.symm)];exact db (p:=(k,y)) e
 |p::r,f=>by
  rw[List.cons_append];have g:¬p.1=k:=fun z=>by rw[dD z]at f;cases f
  rw[db g]at f;have h:=t6 k j y r f;by_cases e:p.1=j
  ·rw[dD e,dD e,if_neg (fun z=>g (e.trans z))]
  ·rw[db e,db e,h]
theorem wz(f:List (κ×V))(k j:κ)(y:V):cz (c7 f k y) j=if j=k then some y else cz f j:=by
 unfold c7;by_cases a:(f.any fun g=>decide (g.1=k))=true
 ·rw[if_pos a,wA];rw[ji]at a;by_cases e:j=k
  ·obtain⟨x,hx⟩:=zV.mp a;rw[if_pos e,e,hx,qI,if_pos rfl]
  ·rw[if_neg e];cases cz f j with
   |none=>rfl
   |some x=>rw[qI,if_neg e]
 ·rw[if_neg a];refine t6 k j y f ?_;rw[ji]at a;cases q:cz f k with
  |none=>rfl
  |some x=>rw[q]at a;exact(a rfl).elim
theorem kz(a:List (κ×V))(k:κ)(v:V):(c7 a k v).length<=a.length+1:=by
 unfold c7;split
 ·rw[ak];omega
 ·rw[aD,gA,u7];omega
theorem kj{a:List (κ×V)}{k:κ}(v:V)(h:cz a k=none):c7 a k v=a++[(k,v)]:=by
 unfold c7;rw[ji,h];exact if_neg (by decide)
theorem j1.isSome_eq{o:Option V}{u:Option Value}(r:j1 o u):o.isSome=u.isSome:=by
 cases o with
 |none=>cases u with
  |none=>rfl
  |some _=>exact(show False from r).elim
 |some _=>cases u with
  |none=>exact(show False from r).elim
  |some _=>rfl
theorem j1.getD{o:Option V}{u:Option Value}{d:V}{a:Value}(r:j1 o u)(e:RelV d a):RelV (o.getD d) (u.getD a):=by
 cases o with
 |none=>cases u with
  |none=>exact e
  |some _=>exact(show False from r).elim
 |some _=>cases u with
  |none=>exact(show False from r).elim
  |some _=>exact r
theorem KV.val{a:List (κ×V)}{g:List (κ×Value)}(r:KV a g)(k:κ):j1 (cz a k) (lV g k):=by
 unfold KV at r
 induction r with
 |nil=>exact iJ
 |@cons p q m qs h t j =>
  obtain⟨i,l⟩:=h;by_cases e:p.1=k
  ·have f:q.1=k:=i.symm.trans e;have b:lV (q::qs) k=some q.2:=by simp[lV,gR,f]
   rw[dD e,b];exact l
  ·have f:¬q.1=k:=fun z=>e (i.trans z);have b:lV (q::qs) k=lV qs k:=by simp[lV,gR,f]
   rw[db e,b];exact j
theorem KV.any{a:List (κ×V)}{f:List (κ×Value)}(r:KV a f)(k:κ):(a.any fun e=>decide (e.1=k))=f.any fun e=>decide (e.1=k):=by
 unfold KV at r
 induction r with
 |nil=>rfl
 |cons h t g=>rw[oh,oh,g,h.1]
theorem KV.repl{f:List (κ×V)}{i:List (κ×Value)}(r:KV f i)(k:κ){y:V}{u:Value}(j:RelV y u):
  KV (f.map fun a=>if a.1=k then(a.1,y)else a) (i.map fun a=>if a.1=k then(a.1,u)else a):=by
 unfold KV at r ⊢
 induction r with
 |nil=>exact .nil
 |@cons p q n qs h t l =>
  rw[bx,bx];refine .cons ?_ l;obtain⟨g,m⟩:=h;by_cases e:p.1=k
  ·rw[if_pos e,if_pos (g.symm.trans e)];exact⟨g,j⟩
  ·rw[if_neg e,if_neg (fun z=>e (g.trans z))];exact⟨g,m⟩
theorem KV.put{a:List (κ×V)}{f:List (κ×Value)}(r:KV a f)(k:κ){y:V}{u:Value}(g:RelV y u):KV (c7 a k y) (stored f k u):=by
 unfold c7 stored;rw[r.any k];by_cases e:(f.any fun h=>decide (h.1=k))=true
 ·rw[if_pos e,if_pos e];exact r.repl k g
 ·rw[if_neg e,if_neg e];exact eX r ⟨rfl,g⟩
theorem KV.length{a:List (κ×V)}{e:List (κ×Value)}(r:KV a e):a.length=e.length:=Paired.length r
end
theorem nG{P:bD}{w:World}{k:ca}{u:Value}(r:RelV (kV k) u):(bU P w).is k u=true:=by
 cases k with
 |inl i=>obtain⟨t,e⟩:=(show ∃t,u=Value.int i t from r);subst e;exact xm P w i t
 |inr x=>obtain⟨t,e⟩:=(show ∃t,u=Value.str x t from r);subst e;exact xk P w x t
theorem vS:∀{k:mK}{u:Value},RelV (Fx k) u->iy k u=true
 |none,u,r=>by cases(show u=Value.none from r);rfl
 |some (.inl i),u,r=>by obtain⟨t,rfl⟩:=r;exact kU i t
 |some (.inr x),u,r=>by obtain⟨t,rfl⟩:=r;exact kT x t
abbrev KT(K:Za)(H:Hp):List (TK×V)->List (TK×Addr×Value)->Prop:=Paired fun p q=>p.1=q.1/\tK K H p.1 (.ref q.2.1)/\p.1.depth<=8/\RelV p.2 q.2.2
theorem KT.val{K:Za}{H:Hp}{a:List (TK×V)}{g:List (TK×Addr×Value)}(r:KT K H a g)(k:TK):j1 (cz a k) ((atKey g k).map (·.2)):=by
 induction r with
 |nil=>exact iJ
 |@cons p q m qs h t j =>
  obtain⟨i,_,_,l⟩:=h;by_cases e:p.1=k
  ·have f:q.1=k:=i.symm.trans e;have b:atKey (q::qs) k=some q.2:=by simp[atKey,gR,f]
   rw[dD e,b];exact l
  ·have f:¬q.1=k:=fun z=>e (i.trans z);have b:atKey (q::qs) k=atKey qs k:=by simp[atKey,gR,f]
   rw[db e,b];exact j
theorem KT.repl{K:Za}{H:Hp}{a:List (TK×V)}{i:List (TK×Addr×Value)}(r:KT K H a i)(k:TK){y:V}{u:Value}(m:RelV y u):
  KT K H (a.map fun g=>if g.1=k then(g.1,y)else g) (i.map (putAt k u)):=by
 induction r with
 |nil=>exact .nil
 |@cons p q o qs h t n =>
  rw[bx,bx];refine .cons ?_ n;obtain⟨f,j,l⟩:=h;unfold putAt;by_cases e:p.1=k
  ·rw[if_pos e,if_pos (f.symm.trans e)];exact⟨f,j,l.1,m⟩
  ·rw[if_neg e,if_neg (fun z=>e (f.trans z))];exact⟨f,j,l⟩
theorem KT.put{K:Za}{H:Hp}{a:List (TK×V)}{f:List (TK×Addr×Value)}(r:KT K H a f)(k:TK){b:Addr}{y:V}{u:Value}(h:tK K H k (.ref b))(i:k.depth<=8)(g:RelV y u):
  KT K H (c7 a k y) (storedH f k b u):=by
 have e:(a.any fun j=>decide (j.1=k))=(atKey f k).isSome:=by
  rw[ji,(r.val k).isSome_eq,Option.isSome_map]
 unfold c7 storedH;rw[e];by_cases q:(atKey f k).isSome=true
 ·rw[if_pos q,if_pos q];exact r.repl k g
 ·rw[if_neg q,if_neg q];exact eX r ⟨rfl,h,i,g⟩
theorem KT.keeps{K:Za}{H a:Hp}{kvs:List (TK×V)}{xs:List (TK×Addr×Value)}(r:KT K H kvs xs)(f:∀b e,H b=some (.tup e)->a b=some (.tup e)):KT K a kvs xs :=
 Paired.mapP r fun _ _ z=>⟨z.1,tK.keeps f 8 z.2.2.1 z.2.1,z.2.2⟩
section
variable{P:bD}{w:World}{K:Za}{H:Hp}{h:Heap}{a:Addr}
theorem Fj{u:HO}(ok:k7 P w K H h)(e:Rd H a u):cj P w K H h a u:=e.ok ok
theorem nM{f:List (ca×V)}(ok:k7 P w K H h)(e:Rd H a (.dK f)):f.length<=aj/\(a==g0)=false/\∃g,KV f g/\h.DictOf (bU P w) a g :=
 show cj P w K H h a (.dK f)from Fj ok e
theorem FE{f:List (ca×V)}(ok:k7 P w K H h)(e:H a=some (.dK f)):f.length<=aj/\(a==g0)=false/\∃g,KV f g/\h.DictOf (bU P w) a g:=nM ok (.inl e)
theorem FM(ok:k7 P w K H h)(kin:K.In h):∀(d:Nat) {k:TK}{v:V}{u:Value},k.depth<=d->tK K H k v->RelV v u->lA h k u:=by
 have y:∀(d:Nat) (s:∀{k:TK}{v:V}{u:Value},k.depth<=d->tK K H k v->RelV v u->lA h k u) (g:List TK) (i:List V) (x:Zf),TK.depths g<=d->TKCs K H g i->a_ i x->TAts h g x:=by
  intro d s g
  induction g with
  |nil =>
   intro i x _ hx r;have e:i=[]:=hx;subst e;cases r
   rfl
  |cons k g z =>
   intro i x j hx r;obtain⟨v,A,rfl,m,B⟩:=hx;cases r with
   |@cons _ u _ q G I =>
    have J:max k.depth (TK.depths g)<=d:=j;exact⟨u,q,rfl,s (by omega) m G,z A q (by omega) B I⟩
 intro d
 induction d with
 |zero =>
  intro k v u j hx r;cases k with
  |t l=>exact absurd j (by show ¬(TK.depths l+1<=0);omega)
  |k b =>
   have e:v=Fx b:=hx;subst e;exact vS r
 |succ d s =>
  intro k v u j hx r;cases k with
  |k b =>
   have e:v=Fx b:=hx;subst e;exact vS r
  |t l =>
   obtain⟨b,C,rfl,D,hi⟩:=hx;cases(show u=Value.ref b from r);obtain⟨f,E,L,m,B,n,M⟩:∃f:List Value,a_ C f/\IsTup h b f.toArray:=by
    rcases D with D|⟨o,f,n,N,O,Q,T,r⟩
    ·obtain⟨_,f,E,p⟩:=(show cj P w K H h b (.tup C)from ok b _ D);exact⟨f,E,p⟩
    ·exact⟨f.toList,r,o,kin b o N,O,n,by simpa using Q⟩
   exact⟨b,L,f.toArray,n,rfl,m,B,M,by simpa using y d (fun m=>s m) l C f (by have:TK.depths l+1<=d+1:=j;omega) hi E⟩
theorem y2{k:TK}(ok:k7 P w K H h)(kin:K.In h)(e:tK K H k (.ref a))(f:k.depth<=8):(eS P w).is h k a:=⟨FM ok kin 8 f e rfl,f⟩
theorem si{f:List (TK×V)}(ok:k7 P w K H h)(kin:K.In h)(e:Rd H a (.dT f)):f.length<=aj/\(a==g0)=false /\
  ∃g,KT K H f g/\h.DictOfH (eS P w) a g:=by
 obtain⟨z,y,g,r,o,j,k,n,s,u,v,A⟩:=(show cj P w K H h a (.dT f)from Fj ok e);refine⟨z,y,g,r,o,j,k,n,s,u,v,fun x hx=>?_,A⟩;have all:∀{l:List (TK×V)}{m:List (TK×Addr×Value)},KT K H l m->∀x∈m,(eS P w).is h x.1 x.2.1:=by
  intro l m q
  induction q with
  |nil=>intro x hx;exact nomatch hx
  |@cons p q C qs i t B =>
   intro x hx;rcases du.mp hx with e|hx
   ·subst e;exact y2 ok kin (by rw[<-i.1];exact i.2.1) (by rw[<-i.1];exact i.2.2.1)
   ·exact B x hx
 exact all r x hx
theorem FB{f:List (TK×V)}(ok:k7 P w K H h)(kin:K.In h)(e:H a=some (.dT f)):f.length<=aj/\(a==g0)=false /\
  ∃g,KT K H f g/\h.DictOfH (eS P w) a g:=si ok kin (.inl e)
end
mutual
def lz(K:Za)(H:Hp):TK->V->Prop
 |.k a,v=>v=Fx a
 |.t l,v=>∃b xs,v=.ref b/\bc K H b xs/\TKIns K H l xs
def TKIns(K:Za)(H:Hp):List TK->List V->Prop
 |[],vs=>vs=[]
 |k::r,vs=>∃v us,vs=v::us/\lz K H k v/\TKIns K H r us
end
theorem iB.isIn{K:Za}{H:Hp}:∀(d:Nat) {k:TK}{v:V},k.depth<=d->iB H k v->lz K H k v:=by
 have i:∀(d:Nat) (g:∀{k:TK}{v:V},k.depth<=d->iB H k v->lz K H k v) (e:List TK) (h:List V),TK.depths e<=d->TKAts H e h->TKIns K H e h:=by
  intro d g e
  induction e with
  |nil=>intro h _ hx;exact hx
  |cons x e j =>
   intro h f hx;obtain⟨v,o,rfl,m,n⟩:=hx;have p:max x.depth (TK.depths e)<=d:=f;exact⟨v,o,rfl,g (by omega) m,j o (by omega) n⟩
 intro d
 induction d with
 |zero =>
  intro k v f hx;cases k with
  |t l=>exact absurd f (by show ¬(TK.depths l+1<=0);omega)
  |k a=>exact hx
 |succ d g =>
  intro k v f hx;cases k with
  |k a=>exact hx
  |t l =>
   obtain⟨b,e,rfl,q,hi⟩:=hx;exact⟨b,e,rfl,bc.of q,i d (fun r=>g r) l e (by have:TK.depths l+1<=d+1:=f;omega) hi⟩
theorem Eb{X:Cx}{y:Zd}{σ:St}{H:Hp}{s:Shared}(I:Inv X y σ H s):∀(d:Nat) {k:TK}{v:V}{u:Value},k.depth<=d->lz X.K H k v->RelV v u->lA s.heap k u:=by
 have p:∀(d:Nat) (m:∀{k:TK}{v:V}{u:Value},k.depth<=d->lz X.K H k v->RelV v u->lA s.heap k u) (a:List TK) (f:List V) (o:Zf),TK.depths a<=d->TKIns X.K H a f->a_ f o->TAts s.heap a o:=by
  intro d m a
  induction a with
  |nil =>
   intro f o _ hx r;have e:f=[]:=hx;subst e;cases r
   rfl
  |cons k a q =>
   intro f o g hx r;obtain⟨v,w,rfl,h,x⟩:=hx;cases r with
   |@cons _ u _ i z A =>
    have B:max k.depth (TK.depths a)<=d:=g;exact⟨u,i,rfl,m (by omega) h z,q w i (by omega) x A⟩
 intro d
 induction d with
 |zero =>
  intro k v u g hx r;cases k with
  |t l=>exact absurd g (by show ¬(TK.depths l+1<=0);omega)
  |k b =>
   have e:v=Fx b:=hx;subst e;exact vS r
 |succ d m =>
  intro k v u g hx r;cases k with
  |k b =>
   have e:v=Fx b:=hx;subst e;exact vS r
  |t l =>
   obtain⟨b,C,rfl,D,hi⟩:=hx;cases(show u=Value.ref b from r);obtain⟨j,E,⟨G,h,x,n,J⟩,_⟩:=I.tuple D;exact⟨b,G,j.toArray,n,rfl,h,x,J,by simpa using p d (fun h=>m h) l C j (by have:TK.depths l+1<=d+1:=g;omega) hi E⟩
theorem vR{X:Cx}{f:Zd}{σ:St}{H:Hp}{s:Shared}{k:TK}{b:Addr}(I:Inv X f σ H s)(e:lz X.K H k (.ref b))(a:k.depth<=8):(eS X.prog X.w).is s.heap k b:=⟨Eb I 8 a e rfl,a⟩
theorem hZ{P:bD}{w:World}{A:Around}(a:A.units+16<cLine):(eS P w).room A.in1:=by
 show A.units+1+8<cLine;omega
def wj(K:Za)(H:Hp)(a:Addr)(y:V)(r:Option V):Prop :=
 (∃kvs k,Rd H a (.dK kvs)/\y=kV k/\r=cz kvs k)∨∃kvs k b,Rd H a (.dT kvs)/\y=.ref b/\lz K H k (.ref b)/\k.depth<=8/\r=cz kvs k
def GU(H:Hp)(a:Addr)(y v:V)(H':Hp):Prop :=
 (∃kvs k,H a=some (.dK kvs)/\y=kV k/\kvs.length<aj/\H'=upd H a (.dK (c7 kvs k v))) ∨
 ∃kvs k b,H a=some (.dT kvs)/\y=.ref b/\iB H k (.ref b)/\k.depth<=8/\kvs.length<aj/\H'=upd H a (.dT (c7 kvs k v))
section
variable{X:Cx}{J2:Zd}{σ:St}{H:Hp}{s:Shared}{a:Addr}{y v:V}{u r:Value}{o:Option V}{A:Around}{E:Zc}
theorem Inv.big(I:Inv X J2 σ H s):g0<s.heap.objs.size:=by
 have h:bM<s.heap.objs.size:=(I.mod.glob.keeps I.bk).lt;exact Nat.lt_trans (by decide) h
theorem BT{Q:Zc}(D:A.units+16<cLine)(I:Inv X J2 σ H s)(g:wj X.K H a y (some v))(B:RelV y u)(h:∀j C,Inv X J2 σ H C->RelV v j->Q j C):
  wpAny (model X.prog X.w) A (lY (.ref a) u) Q E s:=by
 rcases g with⟨m,k,e,n,l⟩|⟨m,k,b,e,n,G,J,l⟩
 ·subst n;obtain⟨z,L,M,f,q⟩:=nM I.hok e;obtain⟨j,t,i⟩:=j1.some_of (v:=v) (o:=lV M k) (by rw[l];exact f.val k);exact wpAny_getItem_of (nG B) q.mapOf t (h j _ (I.tok _) i)
 ·subst n;cases(show u=Value.ref b from B);obtain⟨z,L,N,f,q⟩:=si I.hok I.kIn e;obtain⟨j,t,i⟩:=j1.some_of (v:=v) (o:=(atKey N k).map (·.2)) (by rw[l];exact f.val k);obtain⟨p,O,x⟩:=Option.map_eq_some_iff.mp t;refine wpAny_getItem_heap (hZ D) (vR I G J) q O ?_;rw[x];exact h j _ (I.tok _) i
theorem d_in{Q:Zc}(t:A.units+16<cLine)(I:Inv X J2 σ H s)(g:wj X.K H a y o)(n:RelV y u)(h:∀p,Inv X J2 σ H p->Q (.bool o.isSome) p):
  wpAny (model X.prog X.w) A (dO .In u (.ref a)) Q E s:=by
 rcases g with⟨i,k,e,j,l⟩|⟨i,k,b,e,j,x,B,l⟩
 ·subst j;obtain⟨z,hd,C,f,m⟩:=nM I.hok e;refine wpAny_in_of (nG n) hd m.mapOf ?_;rw[<-(f.val k).isSome_eq,<-l];exact h _ (I.tok _)
 ·subst j;cases(show u=Value.ref b from n);obtain⟨z,hd,D,f,m⟩:=si I.hok I.kIn e;refine wpAny_in_heap (hZ t) (vR I x B) hd m ?_;have q:=(f.val k).isSome_eq;rw[Option.isSome_map]at q;rw[<-q,<-l];exact h _ (I.tok _)
theorem EU{Q:Zc}(t:A.units+16<cLine)(I:Inv X J2 σ H s)(g:wj X.K H a y o)(n:RelV y u)(h:∀p,Inv X J2 σ H p->Q (.bool (!o.isSome)) p):
  wpAny (model X.prog X.w) A (dO .NotIn u (.ref a)) Q E s:=by
 rcases g with⟨i,k,e,j,l⟩|⟨i,k,b,e,j,x,B,l⟩
 ·subst j;obtain⟨z,hd,C,f,m⟩:=nM I.hok e;refine wpAny_notIn_of (nG n) hd m.mapOf ?_;rw[<-(f.val k).isSome_eq,<-l];exact h _ (I.tok _)
 ·subst j;cases(show u=Value.ref b from n);obtain⟨z,hd,D,f,m⟩:=si I.hok I.kIn e;refine wpAny_notIn_heap (hZ t) (vR I x B) hd m ?_;have q:=(f.val k).isSome_eq;rw[Option.isSome_map]at q;rw[<-q,<-l];exact h _ (I.tok _)
theorem qa{f:Heap}{g:Nat}{ob:HO}(I:Inv X J2 σ H s)(h:GQ (H a))(i:iK a s.heap f)(j:∃q,f.get? a=some q)(new:cj X.prog X.w X.K (upd H a ob) f a ob):
  Inv X J2 σ (upd H a ob) { s with heap:=f,toks:=g } :=
 I.write (x:=a) (e:=a) h (.inl rfl) (fun b q k z=>(i.2 b k).trans z) j new
theorem zv{P:bD}{w:World}{K:Za}{i:Hp}{h:Heap}{e:List (ca×V)}{f:List (ca×Value)}(z:e.length<=aj)(j:(a==g0)=false)(g:KV e f)(k:h.DictOf (bU P w) a f):
  cj P w K i h a (.dK e):=⟨z,j,f,g,k⟩
theorem BS{J:Hp}{Q:Unit->Shared->Prop}(Y:A.units+16<cLine)(I:Inv X J2 σ H s)(g:GU H a y v J)(L:RelV y u)(M:RelV v r)(h:∀N,Inv X J2 σ J N->Q () N):
  wpAny (model X.prog X.w) A (setItem (.ref a) u r) Q E s:=by
 rcases g with⟨f,k,e,p,l,t⟩|⟨f,k,b,e,p,O,m,l,t⟩
 ·subst p t;obtain⟨z,x,vs,i,B⟩:=FE I.hok e;have C:vs.length<=aj:=by rw[<-i.length];exact z
  have D:(c7 f k v).length<=aj:=by have:=kz f k v;omega
  refine wpAny_setItem_pairs (hsz:=C) (nG L) B fun T j G=>h _ ?_;have he:∃q,T.get? a=some q:=let⟨q,_,_,n,_⟩:=j;⟨q,n⟩;exact qa I (by rw[e];exact iJ) G he (zv D x (i.put k M) j)
 ·subst p t;cases(show u=Value.ref b from L);obtain⟨z,x,xs,i,B⟩:=FB I.hok I.kIn e;have C:xs.length<=aj:=by rw[<-Paired.length i];exact z
  have D:(c7 f k v).length<=aj:=by have:=kz f k v;omega
  refine wpAny_setItem_heap (hsz:=C) (hZ Y) (y2 I.hok I.kIn (iB.c 8 m O) m) B fun T j G=>h _ ?_;obtain⟨q,es,ep,n,h2,h3,h4,_,h5⟩:=j;refine qa I (by rw[e];exact iJ) G ⟨q,n⟩ ⟨D,x,_,(i.put k (iB.c 8 m O) m M).keeps fun c ys U=>?_,q,es,ep,n,h2,h3,h4,h5⟩;rw[ai (Fu U e (fun z=>nomatch z))];exact U
end
section
variable{X:Cx}{J2:Zd}{σ:St}{H:Hp}{s:Shared}{a:Addr}{kvs:List (ca×V)}{k:ca}{u:Value}{A:Around}{E:Zc}
theorem GJ{Q:Zc}(I:Inv X J2 σ H s)(e:Rd H a (.dK kvs))(h:∀t g,Inv X J2 σ H g->Q (.int kvs.length t) g):wpAny (model X.prog X.w) A (call (.builtin "len") [.ref a]) Q E s:=by
 obtain⟨z,i,l,f,j⟩:=nM I.hok e;refine call_len_dict i j (by rw[<-f.length];rw[j5]at z;omega) ?_;rw[<-f.length];exact h _ _ (I.tok _)
end
def B4(i:Expr):Prop:=∀ov iv,u9 i false ov iv=operate [ov,iv] (lY ov iv)
theorem Ee{a:bD}{w:World}{A:Around}{E:Zc}{s:Shared}{k:Env}{value slice:Expr}{p:Pos}{T id:String}{Q:Zc}
  (t:typeLookup (.type T) "__getitem__"=pure (some (.builtin id))) (u:B4 slice)
  (h:wpAny (model a w) A (eval value k) (fun o g=>wpAny (model a w) A (eval slice k) (fun i e=>e.TypeIs o T/\wpAny (model a w) A (lY o i) Q E e) E g) E s) :
  wpAny (model a w) A (eval (.Subscript value slice p) k) Q E s:=by
 refine Subscript_ (mV h (fun o g m=>mV m (fun i e f=>?_) fun _ _ x=>x) fun _ _ x=>x);obtain⟨q,f⟩:=f;unfold subscriptTail;refine am ?_;rw[getitemInPython_of_ne q.not_modules];refine am (DZ q t ?_);have l:wpAny (model a w) A (u9 slice false o i) (fun r j=>wpAny (model a w) A (letTemporaryGo value o r >>= fun _=>pure r) Q E j) E e:=by
  rw[u o i];exact wpAny_operating (mV f (fun r j n=>am (wpAny_letTemporaryGo (aV n))) fun _ _ x=>x)
 first
  |exact aV (am l)
  |exact am (aV (am l))
  |exact am l
theorem xE{X:Cx}{i:Zd}{σ:St}{H:Hp}{s:Shared}{a:Addr}{y:V}{o:Option V}(I:Inv X i σ H s)(g:wj X.K H a y o):s.TypeIs (.ref a) "dict":=by
 rcases g with⟨f,k,e,_,_⟩|⟨f,k,b,e,_,_,_⟩
 ·obtain⟨_,_,j,_,h⟩:=nM I.hok e;exact h.typeIs
 ·obtain⟨_,_,l,_,h⟩:=si I.hok I.kIn e;exact h.typeIs
def t_(K:Za)(td ty:TE):TE:=fun σ H Q=>td σ H fun x H1=>ty σ H1 fun y H2=>∃a v,x=.ref a/\wj K H2 a y (some v)/\Q v H2
def yy(K:Za)(ty td:TE):TE:=fun σ H Q=>ty σ H fun y H1=>td σ H1 fun x H2=>∃a o,x=.ref a/\wj K H2 a y o/\Q (.bl o.isSome) H2
def kL(K:Za)(ty td:TE):TE:=fun σ H Q=>ty σ H fun y H1=>td σ H1 fun x H2=>∃a o,x=.ref a/\wj K H2 a y o/\Q (.bl (!o.isSome)) H2
def jm(td ty tv:TE):TS:=fun D σ H=>tv σ H fun v H1=>td σ H1 fun x H2=>ty σ H2 fun y H3=>∃a H4,x=.ref a/\GU H3 a y v H4/\D.nx σ H4
section
variable{X:Cx}{o i e value:Expr}{pos pos' J5:Pos}{td ty tv:TE}
theorem nB(m:X.A.units+16<cLine)(n:PE X o td)(hi:PE X i ty)(p:B4 i):PE X (.Subscript o i pos) (t_ X.K td ty):=by
 intro k s σ H Q I h;refine Ee PySem.F.slot_dict_getitem.lookup p (cA (n k s σ H _ I h) fun u q ⟨x,r,t,w,z⟩=>cA (hi k q σ r _ t z) fun G J f=>?_);obtain⟨y,B,l,C,a,v,ex,g,D⟩:=f;subst ex;obtain rfl:u=Value.ref a:=w;exact⟨xE l g,BT m l g C fun L M E j=>⟨v,B,E,j,D⟩⟩
theorem oK(k:X.A.units+16<cLine)(hi:PE X i ty)(l:PE X o td):PC X .In i o (yy X.K ty td):=by
 intro j s σ H Q I h;refine cA (hi j s σ H _ I h) fun D m ⟨y,n,p,q,r⟩=>cA (l j m σ n _ p r) fun u E f=>?_;obtain⟨x,t,v,w,a,z,ex,g,B⟩:=f;subst ex;obtain rfl:u=Value.ref a:=w;exact d_in k v g q fun G C=>⟨.bl z.isSome,t,C,rfl,B⟩
theorem jp(k:X.A.units+16<cLine)(hi:PE X i ty)(l:PE X o td):PC X .NotIn i o (kL X.K ty td):=by
 intro j s σ H Q I h;refine cA (hi j s σ H _ I h) fun D m ⟨y,n,p,q,r⟩=>cA (l j m σ n _ p r) fun u E f=>?_;obtain⟨x,t,v,w,a,z,ex,g,B⟩:=f;subst ex;obtain rfl:u=Value.ref a:=w;exact EU k v g q fun G C=>⟨.bl (!z.isSome),t,C,rfl,B⟩
theorem eW(k:X.A.units+16<cLine)(l:PE X o td)(hi:PE X i ty)(m:PE X value tv)(n:qj value (some (.Subscript o i pos')) pos.line X.env=pure false):
  PS X (.Assign [.Subscript o i pos'] value pos) (jm td ty tv):=by
 intro f s σ H D I h;refine wpAny_Assign_Subscript (cA (m f s σ H _ I h) fun r p ⟨v,q,t,w,z⟩=>cA (l f p σ q _ t z) fun u B ⟨x,C,E,G,J⟩=>cA (hi f B σ C _ E J) fun T U j=>?_) n;obtain⟨y,Y,L,M,a,N,ex,g,O⟩:=j;subst ex;obtain rfl:u=Value.ref a:=G;exact BS k L g M w fun s4 Q=>⟨σ,N,Q,O⟩
end
theorem xD{P:bD}{w:World}{K:Za}{H:Hp}(h:Heap)(a:g0<h.objs.size):cj P w K H (h.push { cls:=.type "dict",data:=.dict #[] }) h.objs.size (.dK []) :=
 ⟨c9 _,beq_eq_false_iff_ne.mpr (ic (cY a)),[],.nil,Heap.DictOf.new h⟩
theorem Ds{P:bD}{w:World}{K:Za}{H:Hp}(h:Heap)(a:g0<h.objs.size):cj P w K H (h.push { cls:=.type "dict",data:=.dict #[] }) h.objs.size (.dT []) :=
 ⟨c9 _,beq_eq_false_iff_ne.mpr (ic (cY a)),[],.nil,_,#[],0,c_ _ rfl,⟨rfl,rfl,rfl⟩,rfl,rfl,jB⟩
def mm:TE:=fun _ H Q=>∀p,H p=none->Q (.ref p) (upd H p (.dK []))
def vn:TE:=fun _ H Q=>∀p,H p=none->Q (.ref p) (upd H p (.dT []))
section
variable{X:Cx}{pos:Pos}
theorem jo:PE X (.Dict [] [] pos) mm:=fun e s σ H Q I h =>
 wpAny_Dict_empty ⟨.ref s.heap.objs.size,_,I.laid (a:=s.heap.objs.size) (o:=.dK []) (t':=s.toks) (fun _ _ q=>bu _ q) (aN _) (xD s.heap I.big),rfl,h _ (I.hok.fresh (aN _))⟩
theorem rK:PE X (.Dict [] [] pos) vn:=fun e s σ H Q I h =>
 wpAny_Dict_empty ⟨.ref s.heap.objs.size,_,I.laid (a:=s.heap.objs.size) (o:=.dT []) (t':=s.toks) (fun _ _ q=>bu _ q) (aN _) (Ds s.heap I.big),rfl,h _ (I.hok.fresh (aN _))⟩
end
def ym:List (TE×TE)->St->Hp->(List (V×V)->Hp->Prop)->Prop
 |[],_,H,Q=>Q [] H
 | (tk,tv)::r,σ,H,Q=>tk σ H fun x H1=>tv σ H1 fun y H2=>ym r σ H2 fun ps H3=>Q ((x,y)::ps) H3
abbrev VV:List (V×V)->List (Value×Value)->Prop:=Paired fun p q=>RelV p.1 q.1/\RelV p.2 q.2
def Hc(X:Cx)(pos:Pos)(keys:List (Option Expr))(values:List Expr)(trs:List (TE×TE)):Prop :=
 ∀(J2:Zd) (s:Shared) (σ:St) (H:Hp) (Q:List (V×V)->Hp->Prop),Inv X J2 σ H s->ym trs σ H Q ->
  wpAny (model X.prog X.w) X.A (evalPairs (pairTrees keys values X.env pos)) (fun vs s'=>∃ps H',Inv X J2 σ H' s'/\VV ps vs/\Q ps H') X.xe s
theorem Ev{X:Cx}{a:Pos}:Hc X a [] [] []:=fun e s σ H Q I h=>pairTrees_nil_walk ⟨[],H,I,.nil,h⟩
theorem C1{X:Cx}{a:Pos}{k v:Expr}{i:List (Option Expr)}{j:List Expr}{tk l:TE}{e:List (TE×TE)}(m:PE X k tk)(n:PE X v l)(o:Hc X a i j e):
  Hc X a (some k::i) (v::j) ((tk,l)::e):=fun f s σ H Q I h =>
 pairTrees_cons_walk (cA (m f s σ H _ I h) fun u p ⟨x,q,r,t,w⟩=>cA (n f p σ q _ r w) fun M z ⟨y,A,B,C,D⟩ =>
  cA (o f z σ A _ B D) fun N O ⟨E,G,J,g,L⟩=>⟨(x,y)::E,G,J,.cons ⟨t,C⟩ g,L⟩)
def eM(kvs more:List (ca×V)):List (ca×V):=more.foldl (fun acc kv=>c7 acc kv.1 kv.2) kvs
theorem KV.merge:∀{a:List (ca×V)}{i:List (ca×Value)}{f:List (ca×V)}{g:List (ca×Value)},KV a i->KV f g->KV (eM f a) (merged g i):=by
 intro a i f g r;unfold KV at r
 induction r generalizing f g with
 |nil=>intro q;exact q
 |@cons p q l qs h t j =>
  intro k;have e:KV (c7 f p.1 p.2) (stored g q.1 q.2):=by
   have:=k.put p.1 h.2;rw[<-h.1];exact this
  exact j e
theorem i9:∀(e a:List (ca×V)),(eM a e).length<=a.length+e.length
 |[],a=>by show a.length<=a.length+0;omega
 |p::r,a=>by
  have f:=i9 r (c7 a p.1 p.2);have g:=kz a p.1 p.2;show(eM (c7 a p.1 p.2) r).length<=_;rw[gA];omega
theorem sy{P:bD}{w:World}:∀{e:List (ca×V)}{g:List (Value×Value)},VV (e.map fun i=>(kV i.1,i.2)) g->∃f,Carries (bU P w) g f/\KV e f
 |[],_,r=>by rw[List.map_nil]at r;cases r;exact⟨[],iJ,.nil⟩
 |p::e,_,r=>by
  rw[bx]at r;cases r with
  |@cons a b k bs h t =>
   obtain⟨f,c,q⟩:=sy (P:=P) (w:=w) t;obtain⟨l,j⟩:=b;exact⟨(p.1,j)::f,⟨nG h.1,rfl,c⟩,.cons ⟨rfl,h.2⟩ q⟩
def Fh(trs:List (TE×TE)):TE:=fun σ H Q=>∀p,H p=none->ym trs σ (upd H p (.dK [])) fun ps H2=>H2 p=some (.dK [])/\∃kvs:List (ca×V),ps=kvs.map (fun kv=>(kV kv.1,kv.2))/\kvs.length<=15/\Q (.ref p) (upd H2 p (.dK (eM [] kvs)))
theorem EC{X:Cx}{f:Pos}{keys:List (Option Expr)}{values:List Expr}{g:List (TE×TE)}(h:Hc X f keys values g)(i:keys.all (·.isSome)=true)(r:keys.length=values.length)(t:keys≠[])
  (l:keys.length<=15):PE X (.Dict keys values f) (Fh g):=by
 intro u s σ H Q I q;have v:=I.hok.fresh (aN s.heap.objs.size);have x:=I.laid (a:=s.heap.objs.size) (o:=.dK []) (h':=s.heap.push { cls:=.type "dict",data:=.dict #[] }) (t':=s.toks) (fun _ _ q=>bu _ q) (aN _) (xD s.heap I.big);refine wpAny_Dict_walk (knd:=bU X.prog X.w) i r t l (cA (h u _ σ _ _ x (q _ v)) fun U Y m=>?_);obtain⟨ps,H2,p,n,e,j,y,lk,A⟩:=m;subst y;obtain⟨B,c,C⟩:=sy (P:=X.prog) (w:=X.w) n;obtain⟨z,D,E,G,J⟩:=FE p.hok e;cases G;refine⟨B,c,J,fun h' k L=>⟨.ref s.heap.objs.size,_,?_,rfl,A⟩⟩;have M:(eM [] j).length<=aj:=by
  have N:=i9 j [];rw[u7]at N;rw[j5];omega
 have O:∃q,h'.get? s.heap.objs.size=some q:=let⟨q,_,_,T,_⟩:=k;⟨q,T⟩;exact qa p (by rw[e];exact iJ) L O (zv M D (C.merge .nil) k)
structure M2(X:Cx)(o:Expr)(m:Str)(J4:Pos)(e f:Expr)(J3:Pos):Prop where
 base:wo o m X.env (eval o X.env)=eval o X.env
 few:((backTo J3 (aI [e,f] X.env)).all (fun x=>!x.1) && (o7 J3 (o6 [] X.env)).all (fun x=>x.1.isSome)
  && decide (([e,f]:List Expr).length+([]:List Keyword).length+(if([]:List Keyword).isEmpty then 0 else 1)<30))=true
 line:(J4.endLine==J3.line)=true
 trees:backTo J3 (aI [e,f] X.env)=[(false,eval e X.env),(false,eval f X.env)]
def IsD(H:Hp)(a:Addr):Prop:=(∃kvs,Rd H a (.dK kvs))∨∃kvs,Rd H a (.dT kvs)
theorem F1{X:Cx}{l:Zd}{σ:St}{H:Hp}{s:Shared}{a:Addr}(I:Inv X l σ H s)(d:IsD H a):
  s.TypeIs (.ref a) "dict"/\(∀b,Value.ref a=.ref b->∃f,s.heap.get? b=some f/\f.dict=none)/\(a==g0)=false:=by
 rcases d with⟨h,e⟩|⟨h,e⟩
 ·obtain⟨_,i,m,_,g⟩:=nM I.hok e;refine⟨g.typeIs,fun b q=>?_,i⟩;cases q;obtain⟨f,_,_,j,k,_⟩:=g;exact⟨f,j,k.2.1⟩
 ·obtain⟨_,i,n,_,g⟩:=si I.hok I.kIn e;refine⟨g.typeIs,fun b q=>?_,i⟩;cases q;obtain⟨f,_,_,j,k,_⟩:=g;exact⟨f,j,k.2.1⟩
section
variable{X:Cx}{J2:Zd}{σ:St}{H:Hp}{s:Shared}{a:Addr}{y d:V}{u r:Value}{o:Option V}{A:Around}{E:Zc}
theorem Ga{Q:Zc}(x:A.units+16<cLine)(I:Inv X J2 σ H s)(g:wj X.K H a y o)(p:RelV y u)(q:RelV d r)(h:∀t v,Inv X J2 σ H v->RelV (o.getD d) t->Q t v):
  wpAny (model X.prog X.w) A (call (.builtin "dict.get") [.ref a,u,r]) Q E s:=by
 rcases g with⟨j,k,e,m,l⟩|⟨j,k,b,e,m,B,C,l⟩
 ·subst m;obtain⟨z,n,G,f,i⟩:=nM I.hok e;refine call_meetsIn PySem.F.slot_dict_get i.typeIs PySem.F.entry_dict_get (PySem.F.args_dict_get_3 _ _ _) (meets_dict_get_default (bU X.prog X.w) a (nG p) n r) ⟨_,i.mapOf,h _ _ (I.tok _) ?_⟩;rw[l];exact(f.val k).getD q
 ·subst m;cases(show u=Value.ref b from p);obtain⟨z,n,D,f,i⟩:=si I.hok I.kIn e;refine call_meetsIn PySem.F.slot_dict_get i.typeIs PySem.F.entry_dict_get (PySem.F.args_dict_get_3 _ _ _) (meetsH_dict_get_default (eS X.prog X.w) a b n r) ⟨hZ x,k,D,vR I B C,i,h _ _ (I.tok _) ?_⟩;rw[l];exact(f.val k).getD q
end
def vo(K:Za)(td ty tx:TE):TE:=fun σ H Q=>td σ H fun x H1=>∃a,x=.ref a/\IsD H1 a/\ty σ H1 fun y H2=>tx σ H2 fun z H3=>∃o,wj K H3 a y o/\Q (o.getD z) H3
section
variable{X:Cx}{o e f:Expr}{J4 J3:Pos}{td ty tx:TE}
theorem rL(n:X.A.units+16<cLine)(p:PE X o td)(q:PE X e ty)(hf:PE X f tx)(m:M2 X o "get" J4 e f J3):PE X (.Call (.Attribute o "get" J4) [e,f] [] J3) (vo X.K td ty tx):=by
 intro i s σ H Q I h;refine wpAny_Call_method m.base m.few m.line PySem.F.plainAttrs_dict PySem.F.slot_dict_get PySem.F.type_dict_get (cA (p i s σ H _ I h) fun u r j=>?_);obtain⟨x,t,l,v,a,ex,d,w⟩:=j;subst ex;obtain rfl:u=Value.ref a:=v;obtain⟨B,C,_⟩:=F1 l d;refine⟨B,C,?_⟩;rw[m.trees];refine Calls.callWith_builtin rfl (Calls.evalArgs_plain (Calls.spliced_cons (cA (q i r σ t _ l w) fun Y D ⟨y,E,G,J,L⟩ =>
  Calls.spliced_cons (cA (hf i D σ E _ G L) fun fv s3 ⟨z,M,N,O,ov,g,T⟩=>Calls.spliced_nil ?_))))
 exact Ga n N g J O fun w' s4 U k=>⟨_,M,U,k,T⟩
end
end L2
namespace Att
open PySem PySem.W PySem.Calls PyProof.Rows
theorem ints_of_wellAll{P:Params}{h:Heap}:∀(e:List Int) (vs:Zf),WellAll P h vs (e.map WData.int)->qH vs e:=by
 intro e
 induction e with
 |nil =>
  intro vs w;rw[List.map_nil]at w;cases w;exact .nil
 |cons n e f =>
  intro vs w;rw[bx]at w;cases w with
  |cons a b =>
   cases a;exact .cons _ _ (f _ b)
theorem script_of{l:OpenLaw}{n:Nat}(u:l.most=some n){P:Params}{h:Heap}{args:List WData}{f:Zf}
  (g:l.row.toRowW.claim.pre args=true) (o:WellAll P h f args) :
  ∃a s e,f=[Value.ref a]/\args=[WData.list (e.map WData.int)]/\h.get? a=some { cls:=.type "list",data:=.seq s.toArray }/\qH s e/\e.length<=n:=by
 have p:WShape.hasAll [] args [.list .int]=true:=(pre_splitW g).1;have t:l.pre.holds [] { args:=args }=true:=(pre_splitW g).2;obtain⟨d,r,rfl,v,w⟩:=hasAllW_cons p;obtain rfl:=hasAllW_nil w;obtain⟨C,rfl,x⟩:=hasW_list v;obtain⟨e,rfl⟩:=items_int x;have i:e.length<=n:=by
  unfold OpenLaw.pre at t;have k:(WTm.not (.lt (.lit (.int (n:Int))) (.len (.arg 0)))).holds [] { args:=[.list (e.map .int)] }=true:=by
   have k:=(holds_andW t).1;rw[u]at k;exact k
  have m:=condW_of k (w_not (w_lt w_lit (w_len_list (w_arg rfl))));rw[ak]at m;refine Nat.le_of_not_lt fun q=>?_;have y:(n:Int)<((e.length:Nat):Int):=by omega
  first
   | (rw[zzr1 y]at m;exact absurd m (by decide))
   | (simp at m;omega)
 cases o with
 |cons z A =>
  cases A;cases z with
  |list B j=>exact⟨_,_,e,rfl,rfl,B,ints_of_wellAll e _ j,i⟩
theorem post_true(l:OpenLaw)(args:List WData):l.row.toRowW.claim.post args (.bool true) args=true :=
 postW_of (r:=l.row.toRowW) (X:=(true==true))
  (show WShape.has [] (.bool true) .bool=true by first|rfl|decide|simp[WShape.has,WShape.arms,WShape.armsAll])
  (show(WTm.eq .res (.lit (.bool true))).value [] { args:=args,res:=some (.bool true),after:=args }=some (.bool (true==true))from w_eq_bool (w_res rfl) w_lit) rfl
theorem attach_call{l:OpenLaw}{n:Nat}{q:bD}{loose:Zb}{C:(Str->Option Value)->Heap->Prop}{D:World->Heap->Prop}{d:DefRec}
  (J:l.most=some n) (v:d.params.defaults=[])
  (call:∀(w:World) (g e:Shared) (p x:Str->Option Value) (i:Addr) (o:Obj) (y s doc:Value) (a:Addr) (h:Zf) (t:List Int),
   Ground q loose [] C w g p x e.heap->D w e.heap ->
   e.heap.get? i=some o->o.data=.func (docDef d.name d.params d.body d.scope y s doc)->e.heap.CodeRec s d.name->p d.name=some (.ref i) ->
   e.heap.get? a=some { cls:=.type "list",data:=.seq h.toArray }->qH h t->t.length<=n->e.gens=#[] ->
   zzl75 (model l.prog w) lU (.call (.ref i) ⟨[.ref a],[]⟩) (fun r u=>r=.ok (.ret (.bool true))/\OldK e.heap u.heap/\u.os=e.os/\mT u.gens) e) :
  WalkO q loose C D l.row.toRowW d [] (fun f h=>PySem.call f h):=by
 intro w g e p x G Y i o y s doc L kV M N z E A O args H as j I Q B T;obtain rfl:L=.none:=Dflts.none E v;obtain rfl:kV=.none:=Dflts.noKw E;obtain⟨a,h,t,rfl,rfl,k,hints,m⟩:=script_of J j B;refine enter_call (zX (call w g e p x i o y s doc a h t G Y M (fd_plain N) z A k hints m O) fun r u U=>?_);obtain⟨rfl,h2,h3,h4⟩:=U;exact⟨.inl ⟨.bool true,.bool true,[],rfl,fun _=>rfl,.bool true,post_true l _,fun _=>⟨List.Pairwise.nil,fun _ hm=>(nomatch hm)⟩⟩,h2,h3,h4⟩
end Att
namespace L2
open PySem PySem.Spec PyProof.Rows
theorem t4:∀{a:Zf}{e:List Int},qH a e->a_ (e.map V.int) a
 |_,_,.nil=>.nil
 |_,_,.cons n t h=>.cons ⟨t,rfl⟩ (t4 h)
def Only(H:Hp):Prop:=∀b,H b=none∨∃o xs,H b=some (.frz o (.lst xs))
end L2
namespace L2
open PySem PySem.Spec PyProof.Rows
end L2
namespace L2
open PySem PySem.Spec PyProof.Rows
def iW(s:Stmt)(j:Nat):Stmt:=match s with
 |.ClassDef _ _ _ body _ _ _ _ _ _ _=>body.getD j (.Pass ⟨0,0,0,0⟩)
 |_=>.Pass ⟨0,0,0,0⟩
def hE(s:Stmt):Arguments:=match s with
 |.FunctionDef _ a _ _ _ _ _ _ _ _=>a
 |_=>{ posonlyargs:=[],args:=[],vararg:=none,kwonlyargs:=[],kw_defaults:=[],kwarg:=none,defaults:=[] }
def fF(s:Stmt):List Stmt:=match s with
 |.FunctionDef _ _ b _ _ _ _ _ _ _=>b
 |_=>[]
def bW(s:Stmt):Scope:=match s with
 |.FunctionDef _ _ _ _ _ _ sc _ _ _=>sc
 |_=>{ kind:=.function,names:=[],isGenerator:=false,isCoroutine:=false }
abbrev CX0:DQ:=fun _ _ _ _ _ _=>False
abbrev E0:XK:=fun _ _ _=>False
abbrev aQ(sp:Sp)(a:TA):TE:=Fi sp [] E0 a
theorem At{X:Cx}:mD CX0 X E0:=fun _ _ _ _ _ _ _ h=>h.elim
structure Gv(K:Za)(x qual:Str)(st:Stmt)(f:Addr)(fd:j3):Prop where
 ex:∃(oc:Value) (od:Option Addr) (kV doc pm:Value) (an:Option Addr) (cdv ct:Value) (osl:Array (Option Value)),
  fd=ij x qual (hE st) (fF st) (bW st) .none kV doc pm an cdv ct/\K.lookup f=some ⟨oc,od,.func fd,osl⟩/\lZ K cdv qual=true
 kp:jg K (.ref f)=true
section
variable{P:bD}{w:World}{K:Za}{mg:Str->Option Value}{base:Heap}
theorem Gv.ok{x a:Str}{st:Stmt}{f:Addr}{o:j3}{N j:Zb}{k:Nat}{l:Sp}(F:Gv K x a st f o)(S:jP N j (bW st))(len:∀g H Q E,l g H Q E->g.length=j.length)
  (i:∀(e:Value) (A:Around) (outer:List Env) (s:Shared) (H:Hp) (g:List V) (Q:VK) (E:XK),eN k (A.deeper (envOfC a (bW st) s.heap.objs.size f e))->l g H Q E ->
   ∃t,xW (zz CX0 P w K mg base N a (bW st) f e A outer s H E).nox (fF st) t/\t (bQ Q) (start N g) H):lB P w K mg base CX0 (k+1) f o j l:=by
 obtain⟨u,v,kV,doc,y,z,e,B,p,rfl,lk,m⟩:=F.ex;refine GI lk m S len fun A outer s H g Q E r n=>?_;obtain⟨t,h,q⟩:=i e A outer s H g Q E r n;exact⟨t,h.nox,q⟩
theorem Gv.binds{x a:Str}{st:Stmt}{f:Addr}{l:j3}{ps:Zb}(F:Gv K x a st f l)
  (h:∀(kV doc g:Value) (i:Option Addr) (e j:Value) (k:Zf),k.length=ps.length->bindArgs (ij x a (hE st) (fF st) (bW st) .none kV doc g i e j) ⟨k,[]⟩=pure (ps.zip k)):Binds K l ps []:=by
 obtain⟨o,p,kV,doc,g,i,e,j,m,rfl,lk,n⟩:=F.ex;exact .all (h kV doc g i e j)
theorem Dn{x a:Str}{st:Stmt}{f:Addr}{m:Value}{n h:Option Addr}{g:Array (Option Value)}{kV doc i e j:Value}(l:K.lookup f=some ⟨m,n,.func (ij x a (hE st) (fF st) (bW st) .none kV doc i h e j),g⟩)
  (c:lZ K e a=true) (k:jg K (.ref f)=true):Gv K x a st f (ij x a (hE st) (fF st) (bW st) .none kV doc i h e j):=⟨⟨m,n,kV,doc,i,h,e,j,g,rfl,l,c⟩,k⟩
end
theorem AC{A:Around}{k:Nat}(a:eN k A):A.units+16<cLine:=og (Nat.add_le_add_left (by decide:16<=64) _) a.units
theorem ay{n:Nat}(h:n<=1000):n<aj:=og h (by decide)
section
variable{X:Cx}
theorem pv(i:Nat){x:Str}{a:Pos}(f:X.N[i]?=some x:=by rfl)(g:Vis X.env.scope x:=by first|exact Or.inl rfl|exact Or.inr (Or.inl rfl)|exact Or.inr (Or.inr rfl))(h:(x==("__debug__":Str))=false:=by decide)
  (e:(x==("__classdict__":Str))=false:=by decide):PE X (.Name x a) (mf i):=FU f g h e
end
theorem aU{A B:Prop}(h:B):if false=true then A else B:=by
 rw[if_neg gL];exact h
theorem bN{A B:Prop}(h:A):if true=true then A else B:=by
 rw[if_pos rfl];exact h
theorem gV{c A B:Prop}[Decidable c](a:c->A)(e:¬c->B):if c then A else B:=by
 by_cases h:c
 ·rw[if_pos h];exact a h
 ·rw[if_neg h];exact e h
def ac(H H':Hp):Prop:=∀b o,H b=some o->H' b=some o
theorem ac.refl(H:Hp):ac H H:=fun _ _ h=>h
theorem ac.trans{H e f:Hp}(a:ac H e)(b:ac e f):ac H f:=fun c o h=>b c o (a c o h)
theorem ac.free{H a:Hp}(e:ac H a){l:Addr}(h:a l=Option.none):H l=Option.none:=by
 cases q:H l with
 |none=>rfl
 |some o =>
  rw[e l o q]at h;cases h
theorem ac.seq{K:Za}{H f:Hp}{a:Addr}{g:List V}(e:ac H f)(h:ax K H a g):ax K f a g:=by
 rcases h with(h|⟨o,h⟩)|h
 ·exact .inl (.inl (e _ _ h))
 ·exact .inl (.inr ⟨o,e _ _ h⟩)
 ·exact .inr h
section
variable{prog:bD}{w:World}{A:Around}{R:Result->Shared->Prop}{s:Shared}
abbrev XF:Value->Shared->Prop:=fun _ _=>False
abbrev y_(ifs:List Expr)(env:Env):Sem Bool:=forIn ifs true fun c r=>if r=true then do let ok <- isTrue c env (eval c env);pure (u6 ok)else pure (u6 r)
theorem vY{t target j:Expr}{u:List Expr}{scope:Scope}{B:Pos}{it y:Value}{a:Env}(I:Nat->Shared->Prop)
  (turn:∀n s,I n s->wpAny (model prog w) A (pyNext it) (fun r e=>match r with
   |none=>R (.ok .next) e
   |some v=>wpAny (model prog w) A (z_ target it v) (fun _ f=>wpAny (model prog w) A (assign target a v) (fun _ k =>
     wpAny (model prog w) A (y_ u a) (fun ok g =>
      if ok=true then wpAny (model prog w) A (eval t a) (fun x l =>
       wpAny (model prog w) A (call (.builtin "list.append") [y,x]) (fun _ o=>∃m,m<n/\I m o) XF l) XF g
      else ∃m,m<n/\I m g) XF k) XF f) XF e) XF s)
  (n:Nat) (h:I n s):zzl75 (model prog w) A (.compLoop (.ListComp t [⟨target,j,u,0⟩] scope B) 0 it y a) R s:=by
 refine codeAny_loop rfl I (fun n s G=>?_) n h;show wpAny _ A ((compTurn (.ListComp t [⟨target,j,u,0⟩] scope B) 0 it y a).onRaise (fun x=>do noteFrame x a;theTreesLotGoes x)) _ _ s
 refine wpAny_noted ?_;rw[compTurn_list];refine am (wpAny_standAt (am (mV (turn n s G) (fun r e p=>?_) fun _ _ i=>i.elim)));cases r with
 |none=>exact aV p
 |some v =>
  refine am (mV p (fun _ f z=>?_) fun _ _ i=>i.elim);refine am (mV z (fun _ k C=>am (mV C (fun ok g q=>?_) fun _ _ i=>i.elim)) fun _ _ i=>i.elim);cases ok with
  |false=>exact aV ⟨rfl,q⟩
  |true =>
   exact am (am (mV q (fun x l D=>am (mV D (fun _ o E=>aV (aV ⟨rfl,E⟩)) fun _ _ i=>i.elim)) fun _ _ i=>i.elim))
end
theorem mz{env:Env}:∀(names:List (Str×je)) (a:List (Str×Addr)),(∀y∈names,y.2=.free->∃c,env.cells.lookup y.1=some c)->(∀x c,a.lookup x=some c->env.cells.lookup x=some c) ->
  ∃f:List (Str×Addr),(forIn names a fun(x:Str×je) (r:List (Str×Addr))=>if(x.2==j9)=true then(cellOf env x.1 >>= fun c=>(pure (u6 ((x.1,c)::r)):Sem (ForInStep (List (Str×Addr)))))else pure (u6 r))=pure f /\
   (∀x c,f.lookup x=some c->env.cells.lookup x=some c)/\(∀x,(a.lookup x).isSome=true->(f.lookup x).isSome=true)/\∀y∈names,y.2=.free->(f.lookup y.1).isSome=true
 |[],a,_,o=>⟨a,rfl,o,fun _ h=>h,fun _ h=>nomatch h⟩
 | (n,k)::r,a,l,o=>by
  have u:∀y∈r,y.2=.free->∃c,env.cells.lookup y.1=some c:=fun y hy=>l y (eQ _ hy);by_cases q:k=.free
  ·subst q;obtain⟨c,v⟩:=l (n,.free) dP rfl;obtain⟨f,e,s,p,t⟩:=mz r ((n,c)::a) u (fun x d m=>by
    rw[gQ]at m;cases hx:x==n with
    |true =>
     rw[hx]at m;have:x=n:=by simpa using hx
     subst this;cases m;exact v
    |false=>rw[hx]at m;exact o x d m)
   have g:(((n,c)::a).lookup n).isSome=true:=by rw[gQ,beq_self_eq_true];rfl
   have i:∀x,(a.lookup x).isSome=true->(((n,c)::a).lookup x).isSome=true:=fun x hx=>by
    rw[gQ];cases x==n with
    |true=>rfl
    |false=>exact hx
   refine⟨f,?_,s,fun x hx=>p x (i x hx),fun y hy hf=>?_⟩
   ·rw[qG];have j:cellOf env n=pure c:=by unfold cellOf;rw[v]
    simp only[beq_self_eq_true,if_true,j];exact e
   ·rcases du.mp hy with rfl|hy
    ·exact p _ g
    ·exact t y hy hf
  ·obtain⟨f,e,s,p,t⟩:=mz r a u o;refine⟨f,?_,s,p,fun y hy hf=>?_⟩
   ·rw[qG];have w:(k==j9)=false:=by simpa using q
    simp only[w,qD,if_false];exact e
   ·rcases du.mp hy with rfl|hy
    ·exact absurd hf q
    ·exact t y hy hf
theorem sv{env:Env}{scope:Scope}(f:∀y∈scope.names,y.2=.free->∃c,env.cells.lookup y.1=some c):
  ∃a:List (Str×Addr),closureFor scope env=pure a/\(∀x c,a.lookup x=some c->env.cells.lookup x=some c)/\∀y∈scope.names,y.2=.free->(a.lookup y.1).isSome=true:=by
 obtain⟨a,e,g,_,i⟩:=mz (env:=env) scope.names [] f (fun _ _ h=>nomatch h);refine⟨a,?_,g,i⟩;unfold closureFor
 first
  |exact e
  | (simp only[bind_pure];exact e)
  | (rw[show(forIn scope.names [] _:Sem (List (Str×Addr)))=pure a from e];rfl)
def dA(X:Cx)(N:Zb)(scope:Scope)(C:Addr)(cl:List (Str×Addr))(s₀:Shared)(H₀:Hp)(ex:Ze)(pn:Zd):Cx where
 prog:=X.prog
 w:=X.w
 K:=X.K
 mg:=X.mg
 base:=X.base
 A:=X.A
 N:=N
 s₀:=s₀
 H₀:=H₀
 env:=compEnvC scope cl C X.env
 outer:=X.stack
 stack:=X.stack
 ex:=ex
 fn:=fun _=>false
 calm:=X.calm
 pn:=pn
 xe:=XF
def k5(sc scope:Scope)(k:Nat)(N XN:Zb)(fi:List Nat):Bool :=
 decide (scope.kind=.function) &&
 (scope.names.all fun y=>decide (y.2≠.cell) && (decide (y.2≠.local) || decide (scope.names.lookup y.1=some .local)) && (decide (y.2≠.free) || decide (sc.names.lookup y.1=some .cell) || decide (sc.names.lookup y.1=some .free))) &&
 decide (N.length=k+fi.length) &&
 ((mU fi.length).all fun j=>match fi[j]? with
  |some i=>match N[k+j]?,XN[i]? with
   |some x,some y=>decide (x=y) && decide (scope.names.lookup x=some .free)
   |_,_=>false
  |none=>false)
structure mM(sc scope:Scope)(k:Nat)(N XN:Zb)(fi:List Nat):Prop where
 kind:scope.kind=.function
 cell:∀y∈scope.names,y.2≠.cell
 nm:∀y∈scope.names,y.2=.local->scope.names.lookup y.1=some .local
 fr:∀y∈scope.names,y.2=.free->sc.names.lookup y.1=some .cell∨sc.names.lookup y.1=some .free
 len:N.length=k+fi.length
 sl:∀j i,fi[j]?=some i->∃x,N[k+j]?=some x/\XN[i]?=some x/\scope.names.lookup x=some .free
theorem mM.of{sc scope:Scope}{k:Nat}{N g:Zb}{l:List Nat}(h:k5 sc scope k N g l=true):mM sc scope k N g l:=by
 unfold k5 at h;simp only[fZ,qF,Bool.or_eq_true,decide_eq_true_eq]at h;obtain⟨⟨⟨n,m⟩,o⟩,p⟩:=h;refine⟨n,fun y f=>(m y f).1.1,fun y f e=>((m y f).1.2).resolve_left fun z=>z e,fun y f e=>?_,o,fun j i e=>?_⟩
 ·rcases(m y f).2 with(z|z)|z
  ·exact absurd e z
  ·exact .inl z
  ·exact .inr z
 ·have r:j<l.length:=(cE.mp e).1;have q:=p j (List.mem_range.mpr r);rw[e]at q;dsimp only at q;cases a:N[k+j]? with
  |none=>rw[a]at q;cases q
  |some x =>
   cases b:g[i]? with
   |none=>rw[a,b]at q;cases q
   |some y =>
    rw[a,b]at q;simp only[fZ,decide_eq_true_eq]at q;exact⟨x,rfl,by rw[q.1],q.2⟩
theorem g7{a:Env}:∀{names:List (Str×je)}{x:Str},names.lookup x=some .free ->
  (names.map fun(n,k)=>if(k==j9 && a.scope.kind==.function && a.kindOf n==some .cell)then(n,je.cell)else(n,k)).lookup x=some .cell ∨
  (names.map fun(n,k)=>if(k==j9 && a.scope.kind==.function && a.kindOf n==some .cell)then(n,je.cell)else(n,k)).lookup x=some .free
 |[],_,h=>by simp at h
 | (n,k)::r,x,h=>by
  have f:=@g7 a r x;simp only[bx];cases hx:x==n with
  |true =>
   simp only[gQ,hx]at h;cases h;by_cases e:(j9==j9 && a.scope.kind==.function && a.kindOf n==some .cell)=true
   ·left;rw[if_pos e];simp[gQ,hx]
   ·right;rw[if_neg e];simp[gQ,hx]
  |false =>
   simp only[gQ,hx]at h;by_cases e:(k==j9 && a.scope.kind==.function && a.kindOf n==some .cell)=true
   ·rw[if_pos e];simp only[gQ,hx];exact f h
   ·rw[if_neg e];simp only[gQ,hx];exact f h
def dz(k:Nat)(fi:List Nat)(σ:St):St:=qg k none++fi.map fun i=>(σ[i]?).join
theorem zC(k:Nat)(a:List Nat)(σ:St):(dz k a σ).length=k+a.length:=by simp[dz]
theorem sr{k:Nat}{f:List Nat}{σ:St}{i:Nat}{v:V}(h:(dz k f σ)[i]?=some (some v)):∃j t,i=k+j/\f[j]?=some t/\σ[t]?=some (some v):=by
 unfold dz at h;by_cases hi:i<k
 ·rw[qN (by simpa using hi),List.getElem?_replicate_of_lt hi]at h;cases h
 ·rw[l5 (by simp;omega),List.length_replicate,eG]at h;refine⟨i-k,?_⟩;cases e:f[i-k]? with
  |none=>rw[e]at h;cases h
  |some t =>
   rw[e]at h;simp only[qI]at h;refine⟨t,by omega,rfl,?_⟩;have a:=eR h;cases g:σ[t]? with
   |none=>rw[g]at a;cases a
   |some o=>rw[g]at a;simp only[Option.join]at a;first|(rw[a])|(subst a;rfl)|(simpa using a)
def xL(k:Nat)(g:TG):Prop:=∀x σ H Q,g x σ H Q->g x σ H fun σ2 H2=>Q σ2 H2/\σ2.length=σ.length/\∀i,k<=i->σ2[i]?=σ[i]?
def AU(k:Nat)(g:Cd):Prop:=∀x σ H Q,g x σ H Q->g x σ H fun σ2 H2=>Q σ2 H2/\σ2.length=σ.length/\∀i,k<=i->σ2[i]?=σ[i]?
theorem bf{k i:Nat}(h:i<k):xL k (dU i):=fun x σ H Q q=>⟨q,by simp,fun j a=>by rw[List.getElem?_set_ne (by omega)]⟩
theorem xf{k:Nat}:AU k jO:=fun x σ H Q ⟨e,q⟩=>⟨e,q,rfl,fun _ _=>rfl⟩
def DN(g:TG):Prop:=∀x σ H Q Q',(∀σ2 H2,Q σ2 H2->Q' σ2 H2)->g x σ H Q->g x σ H Q'
def wg(g:Cd):Prop:=∀x σ H Q Q',(∀σ2 H2,Q σ2 H2->Q' σ2 H2)->g x σ H Q->g x σ H Q'
theorem eC{i:Nat}:DN (dU i):=fun _ _ _ _ _ f q=>f _ _ q
theorem js:wg jO:=fun _ _ _ _ _ f ⟨e,q⟩=>⟨e,f _ _ q⟩
theorem jK{g:TG}{u:Cd}(a:DN g)(h:wg u):wg (bO g u):=fun _ _ _ _ _ f ⟨v,r,e,q⟩=>⟨v,r,e,a _ _ _ _ _ (fun _ _ q=>h _ _ _ _ _ f q) q⟩
theorem jq{k:Nat}{g:TG}{u:Cd}(a:xL k g)(f:DN g)(h:AU k u)(j:wg u):AU k (bO g u):=fun x σ H Q ⟨v,r,e,q⟩ =>
 ⟨v,r,e,f _ _ _ _ _ (fun σ2 p ⟨q,l,s⟩=>j _ _ _ _ _ (fun σ3 t ⟨m,n,o⟩=>⟨m,n.trans l,fun i hi=>(o i hi).trans (s i hi)⟩) (h _ _ _ _ q)) (a _ _ _ _ q)⟩
theorem Au{K:Za}{k n:Nat}{t:Cd}(h:AU k t):xL k (jZ K n t):=fun x σ H Q ⟨a,f,e,g,i,q⟩=>⟨a,f,e,g,i,h _ _ _ _ q⟩
def FK(X:Cx)(ifs:List Expr)(t:TT):Prop :=
 ∀(J2:Zd) (s:Shared) (σ:St) (H:Hp) (Q:Bool->Hp->Prop),Inv X J2 σ H s->t σ H Q->wpAny (model X.prog X.w) X.A (y_ ifs X.env) (TP X J2 σ Q) X.xe s
def ka:TT:=fun _ H Q=>Q true H
theorem ee{X:Cx}:FK X [] ka:=fun a s σ H Q I h=>aV ⟨H,I,h⟩
theorem eB{X:Cx}{c:Expr}{t:TT}(h:PT X c t):FK X [c] t:=by
 intro a s σ H Q I e;unfold y_;rw[qG];simp only[if_true];refine am (am (cA (h a s σ H Q I e) fun b f q=>aV ?_));exact aV q
def cZ(k:Nat)(fi:List Nat)(wi:TI)(g:TG)(tc:TT)(te:TE):TE:=fun σ H Q=>wi σ H fun J H1=>∀l,H1 l=none->∃W:Nat->Nat->List V->Hp->Prop,(∃m,W 0 m [] (upd H1 l (.lst [])))/\∀i m vs H2,W i m vs H2->H2 l=some (.lst vs) /\
 ((J.stop i H2/\Q (.ref l) H2)∨(J.go i H2/\∀x H3,J.yld i H2 x H3->g x (dz k fi σ) H3 fun σ2 H4=>tc σ2 H4 fun b H5 =>
  if b=true then te σ2 H5 fun v H6=>H6 l=some (.lst vs)/\vs.length<aj/\∃m',m'<m/\W (i+1) m' (vs++[v]) (upd H6 l (.lst (vs++[v])))else ∃m',m'<m/\W (i+1) m' vs H5))
section
variable{X:Cx}{J2:Zd}{σ:St}
theorem EX{k:Nat}{N:Zb}{scope:Scope}{D:List Nat}{H:Hp}{s:Shared}{p:List (Str×Addr)}{t:Ze}(S:mM X.env.scope scope k N X.N D)(I:Inv X J2 σ H s)
  (f:∀x c,p.lookup x=some c->X.env.cells.lookup x=some c) (u:∀y∈scope.names,y.2=.free->(p.lookup y.1).isSome=true) (hf:∀b∈t,mL X J2 H b) (v:∀b∈t,b<s.heap.objs.size) :
  (dA X N scope s.heap.objs.size p s H t (X.pn++J2)).Ok where
 mod:=I.ok.mod
 kind:=S.kind
 glob:=I.ok.glob
 blt:=I.ok.blt
 above:=aN _
 inj:=fun x y c E G=>I.ok.inj x y c (f x c E) (f y c G)
 has:=fun x h=>by
  have w:∃y∈scope.names,y.1=x/\y.2=.free:=by
   have h':(relabel scope X.env).names.lookup x=some .cell∨(relabel scope X.env).names.lookup x=some .free:=h;have i:∀(l:List (Str×je)) (kd:je),l.lookup x=some kd->(x,kd)∈l:=by
    intro l
    induction l with
    |nil=>intro kd e;cases e
    |cons a r J =>
     intro kd e;obtain⟨n,A⟩:=a;rw[gQ]at e;cases hx:x==n with
     |true =>
      rw[hx]at e;have:x=n:=by simpa using hx
      subst this;cases e;exact dP
     |false=>rw[hx]at e;exact eQ _ (J kd e)
   have back:∀kd,(x,kd)∈(relabel scope X.env).names->kd=.cell∨kd=.free->∃y∈scope.names,y.1=x/\y.2=.free:=by
    intro kd L B;obtain⟨⟨n,A⟩,j,e⟩:=aK.mp L;dsimp only at e;by_cases m:(A==j9 && X.env.scope.kind==.function && X.env.kindOf n==some .cell)=true
    ·have C:A=.free:=by
      simp only[fZ]at m;simpa using m.1.1
     rw[if_pos m]at e;cases e;exact⟨_,j,rfl,C⟩
    ·rw[if_neg m]at e;cases e;rcases B with rfl|rfl
     ·exact absurd rfl (S.cell _ j)
     ·exact⟨_,j,rfl,rfl⟩
   rcases h' with h'|h'
   ·exact back _ (i _ _ h') (.inl rfl)
   ·exact back _ (i _ _ h') (.inr rfl)
  obtain⟨y,j,rfl,B⟩:=w;exact zV.mp (u y j B)
 cab:=fun x c h=>by cases h
 hd:=I.ok.hd
 frames:=I.ok.frames
 stk:=.inl rfl
 exf:=fun b g=>⟨cY (v b g),fun x c e=>(hf b g).2.2.2.2.1 x c (f x c e)⟩
 bs:=I.bs
 bsz:=bp I.ok.bsz I.sz
 noex:=fun b o e g=>by
  rcases(hf b g).2.2.2.1 with z|z
  ·exact I.ok.noex b o e z
  ·exact absurd (ie (ba (I.ok.bs b o e).1) z) (pc _)
 exfs:=fun b g z=>by
  obtain⟨_,M,O,_⟩:=hf b g;rcases du.mp (I.stkSub b z)with q|q
  ·exact M q
  ·exact O q
 funs:=I.stack
 frf:=I.stkFree
theorem DC{k:Nat}{N:Zb}{scope:Scope}{T:List Nat}{H:Hp}{s:Shared}{E:List (Str×Addr)}{G:Ze}{f:Heap}{t':Nat}{m:Str->Option Value}(S:mM X.env.scope scope k N X.N T)(I:Inv X J2 σ H s)
  (h:∀x c,E.lookup x=some c->X.env.cells.lookup x=some c) (B:∀y∈scope.names,y.2=.free->(E.lookup y.1).isSome=true) (hf:∀b∈G,mL X J2 H b) (J:∀b∈G,b<s.heap.objs.size)
  (hn:f.Ns s.heap.objs.size m) (g:∀b o,s.heap.get? b=some o->f.get? b=some o) :
  Inv (dA X N scope s.heap.objs.size E s H G (X.pn++J2)) [] (dz k T σ) H { s with heap:=f,toks:=t' }:=by
 have A:∀(l:List (Str×je)) (x:Str) (kd:je),l.lookup x=some kd->(x,kd)∈l:=by
  intro l
  induction l with
  |nil=>intro x kd e;cases e
  |cons a r ih =>
   intro x kd e;obtain⟨n,k'⟩:=a;rw[gQ]at e;cases hx:x==n with
   |true =>
    rw[hx]at e;have:x=n:=by simpa using hx
    subst this;cases e;exact dP
   |false=>rw[hx]at e;exact eQ _ (ih x kd e)
 refine⟨EX S I h B hf J,rfl,I.bare,Un.kept g,⟨m,hn,fun i x v e1 e2 e3=>?_⟩,fun x c e=>?_,I.hok.fresh (aN _),fun x c e=>I.freeC x c (h x c e),fun p U=>?_,I.hok.kept g,?_⟩
 ·obtain⟨j,t,rfl,ht,hv⟩:=sr e2;obtain⟨y,hy,L,C⟩:=S.sl j t ht;have D:N[k+j]?=some x:=e1;rw[hy]at D;cases D;have w:=A _ _ _ C;obtain⟨c,Y⟩:=zV.mp (B _ w rfl);have hX:=h _ _ Y;obtain⟨mX,al,M⟩:=I.loc;have kX:=S.fr _ w rfl;obtain⟨u,ru,lk⟩:=M t x v L hv (by rcases kX with z|z;exact .inr (.inl z);exact .inr (.inr z));refine⟨u,ru,.inr ⟨?_,c,Y,?_⟩⟩
  ·exact g7 C
  ·rcases lk with⟨z,_⟩|⟨_,c',e',q⟩
   ·have z':X.env.scope.names.lookup x=some .local:=z;rcases kX with kX|kX<;>rw[z']at kX<;>cases kX
   ·rw[hX]at e';cases e';obtain⟨o,O,Q⟩:=q;exact⟨o,g _ o O,Q⟩
 ·obtain⟨v,o,O,Q⟩:=I.cell x c (h x c e);exact⟨v,o,g _ o O,Q⟩
 ·rw[cP]at U;obtain⟨e,n,ne,nf,d⟩:=I.pin p U;refine⟨g _ _ e,n,cY (ba e),fun z=>?_,d⟩;rcases du.mp (I.stkSub _ z)with q|q
  ·exact ne q
  ·exact nf q
 ·rw[zC];exact S.len.symm
structure wm(X:Cx)(J2:Zd)(H:Hp)(C:Addr):Prop where
 free:H C=none
 loc:C≠X.env.locals
 young:X.s₀.heap.objs.size<=C
 cells:∀x c,X.env.cells.lookup x=some c->c≠C
 pin:∀p∈X.pn++J2,p.1≠C
theorem so{elt iter tg:Expr}{ifs:List Expr}{scope:Scope}{pos:Pos}{k:Nat}{N:Zb}{fi:List Nat}{cl:List (Str×Addr)}{g:TG}{tc:TT}{te:TE}{it:Addr}{fp:Ze}{tn:Nat->Heap->Prop}{J:It}{s:Hp}{s2:Shared}{Q:VK}
  {E:Zc}{RR:Value->Addr->Result->Shared->Prop}
  (S:mM X.env.scope scope k N X.N fi) (hc:X.calm=true) (bb:∀x c,cl.lookup x=some c->X.env.cells.lookup x=some c) (ci:∀y∈scope.names,y.2=.free->(cl.lookup y.1).isSome=true)
  (hg:∀C cl G H ex pn,PG (dA X N scope C cl G H ex pn) tg g) (ho:xL k g) (ht:∀C cl G H ex pn,FK (dA X N scope C cl G H ex pn) ifs tc) (he:∀C cl G H ex pn,PE (dA X N scope C cl G H ex pn) elt te)
  (I2:Inv X J2 σ s s2) (T:sF X.prog X.w X.K tg J fp it tn) (bi:tn 0 s2.heap) (f2:∀b∈fp,mL X J2 s b)
  (hw:∀l,s l=none->∃W:Nat->Nat->List V->Hp->Prop,(∃m,W 0 m [] (upd s l (.lst [])))/\∀i m O s,W i m O s->s l=some (.lst O) /\
   ((J.stop i s/\Q (.ref l) s)∨(J.go i s/\∀x H3,J.yld i s x H3->g x (dz k fi σ) H3 fun σ2 H4=>tc σ2 H4 fun b H5 =>
    if b=true then te σ2 H5 fun v H6=>H6 l=some (.lst O)/\O.length<aj/\∃U,U<m/\W (i+1) U (O++[v]) (upd H6 l (.lst (O++[v])))else ∃U,U<m/\W (i+1) U O H5)))
  (hR:∀D C L s' U,Inv X J2 σ L s'->s'.heap.Ns C U->wm X J2 L C->Q (.ref D) L->RR (.ref D) C (.ok .next) s') :
  wpAny (model X.prog X.w) X.A (newList []) (fun acc s₃=>wpAny (model X.prog X.w) X.A (newFunctionEnv scope X.env.globals cl [] X.env.qual none .none (some X.env)) (fun as s₄ =>
   zzl75 (model X.prog X.w) X.A (.compStart (.ListComp elt [⟨tg,iter,ifs,0⟩] scope pos) 0 (.ref it) acc { as with scope:=relabel scope X.env }) (RR acc as.locals) s₄) E s₃) E s2:=by
 have ap:s s2.heap.objs.size=none:=I2.fresh;obtain⟨W,⟨m0,w0⟩,turn⟩:=hw _ ap;refine n_ (wpAny_newFunctionEnv S.cell (by intro y hy;simp at hy) (fun I al an=>?_) S.kind);dsimp only at al an ⊢;have I3:Inv X J2 σ (upd s s2.heap.objs.size (.lst [])) { s2 with heap:=s2.heap.push { cls:=.type "list",data:=.seq ([]:Zf).toArray },toks:=s2.toks }:=I2.lnew (ys:=[]) .nil (c9 _);generalize bl:({ s2 with heap:=s2.heap.push { cls:=.type "list",data:=.seq ([]:Zf).toArray },toks:=s2.toks }:Shared)=B at I3;have aq:B.heap=s2.heap.push { cls:=.type "list",data:=.seq ([]:Zf).toArray }:=by rw[<-bl]
 have cm:B.heap.objs.size=s2.heap.objs.size+1:=by rw[aq,o8]
 have bn:∀b∈fp,b<s2.heap.objs.size:=fun b f=>by
  obtain⟨o,e,_⟩:=T.obj 0 _ bi b f;exact ba e
 have f3:∀b∈fp,mL X J2 (upd s s2.heap.objs.size (.lst [])) b:=fun b f=>⟨by rw[ai (cY (bn b f))];exact(f2 b f).1,(f2 b f).2⟩;have aC:∀b∈fp,b<B.heap.objs.size:=fun b f=>by rw[cm];exact Nat.lt_succ_of_lt (bn b f)
 have b1:∀b o,B.heap.get? b=some o->I.get? b=some o:=fun b o e=>by
  have f:b≠B.heap.objs.size:=cY (ba e);rw[aq]at e f;exact an.extBut b o f (bu _ e)
 have co:I.Ns B.heap.objs.size (fun x=>([]:List (Str×Value)).reverse.lookup x):=by rw[aq];exact al
 have I4:Inv (dA X N scope B.heap.objs.size cl B (upd s s2.heap.objs.size (.lst [])) fp (X.pn++J2)) [] (dz k fi σ) (upd s s2.heap.objs.size (.lst [])) { B with heap:=I,toks:=s2.toks+([]:List (Str×Value)).length } :=
  DC S I3 bb ci f3 aC co b1
 have b2:tn 0 I:=T.keep _ _ _ bi fun b f o e=>b1 b o (by rw[aq];exact bu _ e);generalize M:dA X N scope B.heap.objs.size cl B (upd s s2.heap.objs.size (.lst [])) fp (X.pn++J2)=Y at I4;have yp:Y.prog=X.prog:=by rw[<-M];rfl
 have yw:Y.w=X.w:=by rw[<-M];rfl
 have yK:Y.K=X.K:=by rw[<-M];rfl
 have yA:Y.A=X.A:=by rw[<-M];rfl
 have yx:Y.xe=XF:=by rw[<-M];rfl
 have yc:Y.calm=true:=by rw[<-M];exact hc
 have gY:PG Y tg g:=by rw[<-M];exact hg _ _ _ _ _ _
 have tY:FK Y ifs tc:=by rw[<-M];exact ht _ _ _ _ _ _
 have eY:PE Y elt te:=by rw[<-M];exact he _ _ _ _ _ _
 have b3:Y.env=compEnvC scope cl B.heap.objs.size X.env:=by rw[<-M];rfl
 have fY:∀{L:Hp},(∀b∈fp,L b=none)->∀b∈fp,mL Y [] L b:=fun hn b f=>by
  obtain⟨f0,f1,b4,b5,f4,f5⟩:=f3 b f;rw[<-M];refine⟨hn b f,cY (aC b f),fun z=>?_,.inl f,fun x c e=>f4 x c (bb x c e),fun p hp=>?_⟩
  ·rcases du.mp (I3.stkSub _ z)with q|q
   ·exact f1 q
   ·exact b4 q
  ·rw[cP]at hp;exact f5 p hp
 have aS:∀s4:Shared,s4={ B with heap:=I,toks:=s2.toks+([]:List (Str×Value)).length } ->
   zzl75 (model X.prog X.w) X.A (.compLoop (.ListComp elt [⟨tg,iter,ifs,0⟩] scope pos) 0 (.ref it) (.ref s2.heap.objs.size) Y.env) (RR (.ref s2.heap.objs.size) B.heap.objs.size) s4:=by
  rintro s4 rfl;refine vY (fun n s'=>∃i O L,Inv Y [] (dz k fi σ) L s'/\tn i s'.heap/\(∀b∈fp,L b=none)/\W i n O L) ?_ m0 ⟨0,[],_,I4,b2,fun b f=>(f3 b f).1,w0⟩;rintro n s5 ⟨i,O,H5,I5,b6,b7,w5⟩;obtain⟨c5,a0⟩:=turn i n O H5 w5;rcases a0 with⟨stop,q⟩|⟨go,step⟩
  ·have d:=T.done Y yp yw yK yc i [] s5 _ H5 XF I5 (fY b7) b6 stop;rw[yA]at d;refine cA d fun r s6 a=>?_;obtain⟨hr,I6⟩:=a;subst hr;have hu:Un (Cc X.stack) fp (upd s s2.heap.objs.size (.lst [])) H5 B.heap s6.heap:=by have:=I6.base;rw[<-M]at this;exact this
   have cq:s6.os=B.os:=by have:=I6.os;rw[<-M]at this;exact this
   have b8:k7 X.prog X.w X.K H5 s6.heap:=by have:=I6.hok;rw[<-M]at this;exact this
   have cs:H5 B.heap.objs.size=none:=by have:=I6.free;rw[<-M]at this;exact this
   obtain⟨m6,b9,_⟩:=I6.loc;have cc:s6.heap.Ns B.heap.objs.size m6:=by rw[<-M]at b9;exact b9
   have IX:Inv X J2 σ H5 s6:=I3.call' cq hu b8 I6.bare fun b f=>by
    obtain⟨f0,f1,b4,b5,f4,f5⟩:=f3 b f;exact⟨b5,f1,f4,f5⟩
   refine hR _ _ H5 s6 m6 IX cc ⟨cs,gZ I3.lt,I3.sz,fun x c e z=>?_,fun p hp z=>?_⟩ q
   ·obtain⟨v,o,ho,_⟩:=I3.cell x c e;exact absurd (ba ho) (by rw[z];exact pc _)
   ·exact absurd (ba (I3.pin p hp).1) (by rw[z];exact pc _)
  ·have d:=T.item Y yp yw yK yc i [] s5 _ H5 XF I5 (fY b7) b6 go;rw[yA]at d;refine cA d fun r s6 a=>?_;obtain⟨u,hr,h6⟩:=a;subst hr;refine cA h6 fun _ s7 a=>?_;obtain⟨x,H7,I7,r7,y7,a4,ct⟩:=a;have cx:=I7.pinned (fY ct) (T.obj _ _ a4);have a7:=gY _ s7 _ H7 x u _ cx r7 (ho _ _ _ _ (step x H7 y7));rw[yp,yw,yA,yx]at a7;refine cA a7 fun _ s8 a=>?_;obtain⟨σ8,H8,I8,q8,l8,k8⟩:=a;have a8:=tY _ s8 σ8 H8 _ I8 q8;rw[yp,yw,yA,yx]at a8;have again:∀{H9:Hp}{s9:Shared}{a5:List V}{U:Nat},Inv Y ([]++rG fp s7.heap) σ8 H9 s9->U<n->W (i+1) U a5 H9->∃m,m<n/\∃i O L,Inv Y [] (dz k fi σ) L s9/\tn i s9.heap/\(∀b∈fp,L b=none)/\W i m O L:=fun{H9 s9 a5 U} I9 hm w9=>by
    refine⟨U,hm,i+1,a5,H9,(I9.unpinned).weak l8.symm (fun j v e=>?_),T.keep _ _ _ a4 fun b f o e=>(I9.pin (b,o) (dC _ (dC _ (jM f e)))).1,fun b f=>?_,w9⟩
    ·obtain⟨j',t,rfl,_,_⟩:=sr e;rw[k8 _ (Nat.le_add_right _ _)];exact e
    ·obtain⟨o,e,_⟩:=T.obj _ _ a4 b f;exact(I9.pin (b,o) (dC _ (dC _ (jM f e)))).2.1
   refine cA a8 fun b s9 a=>?_;obtain⟨H9,I9,q9⟩:=a;cases b with
   |false =>
    rw[if_neg gL]at q9 ⊢;obtain⟨U,hm,w9⟩:=q9;exact again I9 hm w9
   |true =>
    rw[if_pos rfl]at q9 ⊢;have a9:=eY _ s9 σ8 H9 _ I9 q9;rw[yp,yw,yA,yx]at a9;refine cA a9 fun y cL a=>?_;obtain⟨v,cd,c0,c1,ce,a6,U,hm,c2⟩:=a;have ch:=cb (X:=Y) _ cL σ8 cd (.ref s2.heap.objs.size) [v] (.ref s2.heap.objs.size) [y] (fun z L=>z=.non/\L=upd cd s2.heap.objs.size (.lst (O++[v]))) c0 rfl (.cons c1 .nil) ⟨_,O,v,rfl,rfl,ce,a6,rfl,rfl⟩;rw[yp,yw,yA,yx]at ch;refine cA ch fun _ dc a=>?_;obtain⟨_,dd,c3,_,_,c4⟩:=a;subst c4;exact again c3 hm c2
 have h:=codeAny_compStart_list (prog:=X.prog) (w:=X.w) (A:=X.A) (elt:=elt) (target:=tg) (iter:=iter) (ifs:=ifs) (rest:=[]) (scope:=scope) (pos:=pos) (it:=.ref it) (acc:=.ref s2.heap.objs.size) (env:=Y.env) (aS _ rfl) (T.self _ 0 _ _ _ b2 (aS _ rfl));rw[b3]at h;rw[<-bl]at h;exact h
end
section
variable{X:Cx}
theorem wm.turned{a:Zd}{σ:St}{H:Hp}{s:Shared}{C:Addr}{f:Heap}(c:wm X a H C)(I:Inv X a σ H s)(g:iK C s.heap f):Inv X a σ H { s with heap:=f } :=
 I.turned (t':=s.toks) (fun b o h e=>g.extBut b o h e) c.free c.loc (.inr c.young) c.cells c.pin
theorem ED{m i p:Expr}{n:List Expr}{scope:Scope}{r:Pos}{k:Nat}{N:Zb}{G:List Nat}{L:TI}{g:TG}{M:TT}{O:TE}(Y:k5 X.env.scope scope k N X.N G=true)(hc:X.calm=true)(hi:PI X p i L)
  (hg:∀C l a f ex o,PG (dA X N scope C l a f ex o) p g) (ho:xL k g) (ht:∀C l a f ex o,FK (dA X N scope C l a f ex o) n M) (he:∀C l a f ex o,PE (dA X N scope C l a f ex o) m O)
  (hs:∀x,wv i X.env x=pure x:=by intro _;rfl):PE X (.ListComp m [⟨p,i,n,0⟩] scope r) (cZ k G L g M O):=by
 intro U s σ H Q I h;have S:=mM.of Y;obtain⟨l,j,t,u⟩:=sv (env:=X.env) (scope:=scope) fun y hy e=>I.ok.has y.1 (S.fr y hy e);rw[eval_ListComp];refine wpAny_comprehension_free (use:=none) rfl hs j S.kind S.nm (cA (hi U s σ H _ I h) fun v s1 h1=>cA h1 fun al s2 h2=>?_);obtain⟨it,fp,tn,J,H2,e,I2,T,z,f2,hw⟩:=h2;subst e;refine so (RR:=fun B C=>compPost (model X.prog X.w) X.A X.xe none (EP X U σ Q) B C) S hc t u hg ho ht he I2 T z f2 hw ?_;intro D C H' s' m' I' hn ce q;exact⟨m',hn,fun h' E=>⟨.ref D,H',ce.turned I' E,rfl,q⟩⟩
theorem yR{m f B:Expr}{n:List Expr}{scope:Scope}{p o t:Pos}{k:Nat}{N:Zb}{fi:List Nat}{wi:TI}{g:TG}{tc:TT}{te:TE}{j:Nat}{y:Str}(hN:X.N.Nodup)(hj:X.N[j]?=some y)(L:Loc X.env.scope y)(hS:k5 X.env.scope scope k N X.N fi=true)(hc:X.calm=true)(hi:PI X B f wi)
  (hg:∀C u i l ex E,PG (dA X N scope C u i l ex E) B g) (ho:xL k g) (ht:∀C u i l ex E,FK (dA X N scope C u i l ex E) n tc) (he:∀C u i l ex E,PE (dA X N scope C u i l ex E) m te)
  (M:qj (.ListComp m [⟨B,f,n,0⟩] scope p) (some (.Name y t)) o.line X.env=pure true:=by rfl)
  (hs:∀x,wv f X.env x=pure x:=by intro _;rfl) (hf:X.fn y=true∨X.env.scope.names.lookup y=some .local:=by first|exact .inl rfl|exact .inr rfl|assumption) :
  PS X (.Assign [.Name y t] (.ListComp m [⟨B,f,n,0⟩] scope p) o) (aG (cZ k fi wi g tc te) (dU j)):=by
 intro O s σ H D I h;have S:=mM.of hS;obtain⟨u,r,U,Y⟩:=sv (env:=X.env) (scope:=scope) fun y L e=>I.ok.has y.1 (S.fr y L e);rw[exec_Assign_Name_used _ _ _ _ M];refine am (wpAny_standAt (am ?_));show wpAny _ X.A (do let _ <- comprehension (.ListComp m [⟨B,f,n,0⟩] scope p) scope X.env _ (newList []) false (eval f X.env) (some (assign (.Name y t) X.env))) _ _ s
 refine am (mV (wpAny_comprehension_free (use:=some (assign (.Name y t) X.env)) (Q:=fun _ G=>SP X O D .next G) rfl hs r S.kind S.nm
  (cA (hi O s σ H _ I h) fun v s1 h1=>cA h1 fun a0 s2 h2=>?_)) (fun _ G hq=>aV (aV hq)) fun _ _ e=>e)
 obtain⟨it,fp,tn,J,H2,e,I2,T,al,f2,hw⟩:=h2;subst e;refine so (RR:=fun an C=>compPost (model X.prog X.w) X.A X.xe (some (assign (.Name y t) X.env)) (fun _ G=>SP X O D .next G) an C) (Q:=fun x H1=>dU j x σ H1 D.nx) S hc U Y hg ho ht he I2 T al f2 hw ?_;intro A C H' G m' I' hn ce q;show wpAny _ X.A (assign (.Name y t) X.env (.ref A)) _ _ _;refine wpAny_assign_Name (uc I' hN hj L (v:=.ref A) rfl (fun a4 ap aq=>?_) hf);obtain⟨a,as,ha⟩:=aq;have aC:C≠a:=by
  rcases ha with z|z
  ·rw[z];exact ce.loc
  ·exact ic (ce.cells y a z)
 refine⟨m',hn.sameBut as aC,fun h' aS=>?_⟩;exact⟨_,H',ce.turned ap aS,q⟩
end
theorem Inv.turnedNew{X:Cx}{i:Zd}{σ:St}{H:Hp}{s:Shared}{g:Heap}{t:Nat}{ch:Ze}{o:HO}(I:Inv X i σ H s)(hf:∀b∈ch,mL X i H b)
  (k:∀b q,b∉ch->s.heap.get? b=some q->g.get? b=some q) (M:∃q,g.get? s.heap.objs.size=some q) (x:∀y,o≠.own y) (new:cj X.prog X.w X.K (upd H s.heap.objs.size o) g s.heap.objs.size o) :
  Inv X i σ (upd H s.heap.objs.size o) { s with heap:=g,toks:=t }:=by
 have a:H s.heap.objs.size=none:=I.fresh;have j:∀b q,s.heap.get? b=some q->b≠s.heap.objs.size:=fun b q e=>cY (ba e);have l:∀b u,H b=some u->b∉ch:=fun b u e z=>by rw[(hf b z).1]at e;cases e
 refine I.step (g':=s.gens) (d':=s.drawn) (ch:=ch) (fun b h=>?_) (fun b q _ _ f e _=>k b q f e) (fun b q _ _ f e _=>⟨q.slots,k b q f e⟩) (fun b q _ e n=>by rw[ai (j b q e)];exact n) (fun b q f e=>⟨q,k b q f e⟩)
  (fun b p e=>by rw[ai (ae e a)];exact e) (fun b p q e z=>k b q (l b _ e) z) (fun b q u e=>by rw[ai (ae e a)];exact e) (fun b N e=>⟨#[],by rw[ai (ae e a),e];simp⟩) (fun m A=>?_) (fun b u e=>?_) I.bare
 ·obtain⟨O,B,Q,C,D,E⟩:=hf b h;exact⟨C,B,D,E⟩
 ·obtain⟨q,G,J,L,r⟩:=A;exact⟨q,G,J,k _ q (fun z=>(hf _ z).2.1 rfl) L,r⟩
 ·by_cases h:b=s.heap.objs.size
  ·subst h;rw[aa]at e;cases e;exact new
  ·rw[ai h]at e;refine(I.hok b u e).stay (fun c v f q=>k c v ?_ q) (fun c q=>by rw[ai (ae q a)];exact q) fun c p q=>by rw[ai (ae q a)];exact q
   rcases f with z|z
   ·subst z;exact l _ _ e
   ·exact l _ _ z
def GR(K:Za)(a:Addr):It :=
 ⟨fun i H=>∃xs x,ax K H a xs/\xs[i]?=some x,fun i H x H'=>∃p v,x=.ref p/\H p=none/\(∀xs,ax K H a xs->xs[i]?=some v)/\H'=upd H p (.tup [.int i,v]),fun i H=>∃xs,ax K H a xs/\xs.length<=i⟩
theorem AZ{P:bD}{w:World}{K:Za}{es:List Expr}{kx:Nat}{J5:Pos}(a e it:Addr)(n:e≠it):
  sF P w K (.Tuple es kx J5) (GR K a) [e,it] e (fun i h=>(∃f,IsEnum h e it i f)/\h.IsListIter it a i) where
 mem:=by simp
 obj:=fun i h st b m=>by
  obtain⟨⟨f,j⟩,o,G,J,hd⟩:=st;rcases du.mp m with z|z
  ·subst z;exact⟨_,j,fun v z=>by cases z⟩
  ·have L:b=it:=by simpa using z
   subst L;exact⟨o,G,fun v z=>by rw[hd]at z;cases z⟩
 keep:=fun i h C st k=>⟨let⟨f,j⟩:=st.1;⟨f,k e (by simp) _ j⟩,st.2.at fun o e=>k it (by simp) o e⟩
 item:=by
  intro X M N O J i J2 s σ H E I hf st Q;subst M N O;obtain⟨⟨f,j⟩,l⟩:=st;obtain⟨xs,x,D,hx⟩:=Q;obtain⟨T,U,p,hz⟩:=I.list D;obtain⟨u,hu,ru⟩:=U.get hx;obtain⟨e0,e1,e2,e3,e4,e5⟩:=hf e (by simp);obtain⟨Y,f1,f2,f3,f4,f5⟩:=hf it (by simp);refine wpAny_pyNext_enum_item j l p.isList (x:=u) (by simpa using hu) n fun C al r an a6 ap=>?_;refine⟨_,rfl,wpAny_letOwnedTupleGo_enum (s:={ s with heap:=C,toks:=s.toks+1 }) al fun h2 aq as=>?_⟩;have g:iK e C h2:=as;have t:s.heap.objs.size≠e:=gZ (ba j);have A:h2.get? s.heap.objs.size=some { cls:=.type "tuple",data:=.seq #[.int i s.toks,u] }:=g.extBut _ _ t an;have aC:H s.heap.objs.size=none:=I.fresh;have aS:upd H s.heap.objs.size (.tup [.int i,x]) e=none:=by rw[ai (ic t)];exact e0
  have a0:s.heap.objs.size≠it:=by
   obtain⟨o,G,_⟩:=l;exact gZ (ba G)
  have a4:upd H s.heap.objs.size (.tup [.int i,x]) it=none:=by rw[ai (ic a0)];exact Y
  have I2:Inv X J2 σ (upd H s.heap.objs.size (.tup [.int i,x])) { s with heap:=h2,toks:=s.toks+1 }:=by
   refine I.turnedNew (ch:=[e,it]) hf (fun b o m q=>?_) ⟨_,A⟩ (fun _ z=>nomatch z) ⟨by show 2<=aj;decide,[.int i s.toks,u],.cons ⟨_,rfl⟩ (.cons ru .nil),⟨_,A,rfl,_,rfl⟩⟩;have B:b≠e:=fun z=>m (by simp[z]);have a5:b≠it:=fun z=>m (by simp[z]);exact g.extBut _ _ B (ap b o B a5 q)
  refine⟨.ref s.heap.objs.size,_,I2,rfl,⟨_,x,rfl,aC,fun ys hy=>by rw[I.list_inj hy D];exact hx,rfl⟩,⟨⟨u,by simpa using aq⟩,r.at fun o y=>(g.2 it (ic n)).trans y⟩,fun b m=>?_⟩;rcases du.mp m with z|z
  ·subst z;exact aS
  ·have L:b=it:=by simpa using z
   subst L;exact a4
 done:=by
  intro X M N O J i J2 s σ H E I hf st Q;subst M N O;obtain⟨⟨f,j⟩,l⟩:=st;obtain⟨xs,D,hx⟩:=Q;obtain⟨T,U,p,hz⟩:=I.list D;obtain⟨Y,f1,f2,f3,f4,f5⟩:=hf it (by simp);have hl:=U.length;exact wpAny_pyNext_enum_end (I.ok.hd J) j l p.isList (by simp;omega) fun C eb=>⟨rfl,I.turned (t':=s.toks) (fun b o m e=>eb b o m e) Y f1 f3 f4 f5⟩
 self:=fun _ _ _ _ _ st h=>let⟨_,j⟩:=st.1;wpAny_pyIter_enum j h
section
variable{X:Cx}{p pos:Pos}{es:List Expr}{kx:Nat}{J5:Pos}
def pB(K:Za)(ta:TA):TI:=fun σ H R=>ta σ H fun vs H1=>∃a,vs=[.ref a]/\(∃xs,ax K H1 a xs)/\R (GR K a) H1
theorem jI{a:Expr}{n:TA}(w:Gl X "enumerate")(x:X.mg "enumerate"=none)(y:PA X [a] n)(A:aI [a] X.env=[(false,eval a X.env)]:=by rfl):PI X (.Tuple es kx J5) (.Call (.Name "enumerate" p) [a] [] pos) (pB X.K n):=by
 intro r s σ H R I h;refine Call_ (oP I w x boot_enumerate (z7 (cA (y pos r s σ H _ I h) fun T s1 i=>?_) A rfl));obtain⟨U,t,g,B,C⟩:=i;obtain⟨l,e,⟨Y,D⟩,q⟩:=C;subst e;obtain⟨u,rfl,E⟩:=vals1 B;cases E;obtain⟨G,rv,J,hz⟩:=g.list D;refine call_enumerate_list J.isList fun j v k L M=>?_;refine wpAny_pyIter_enum (s:={ s1 with heap:=j }) v ?_;have m:∀b o,s1.heap.get? b=some o->j.get? b=some o:=M;have N:Inv X r σ t { s1 with heap:=j }:=g.kept (t':=s1.toks) m;refine⟨_,[s1.heap.objs.size+1,s1.heap.objs.size],_,_,t,rfl,N,AZ l _ _ (Nat.succ_ne_self _),⟨⟨_,v⟩,k⟩,fun b O=>?_,q⟩;have f:s1.heap.objs.size<=b:=by
  rcases du.mp O with z|z
  ·rw[z];exact Nat.le_succ _
  ·have Q:b=s1.heap.objs.size:=by simpa using z
   rw[Q];exact aN _
 exact g.fpOk f (g.hok.fresh f)
end
def Hg(x:Str):It:=⟨fun i _=>i<x.cps.size,fun i H y H'=>H'=H/\∃c,x.cps[i]?=some c/\y=.str ⟨#[c]⟩,fun i _=>x.cps.size<=i⟩
theorem x_{P:bD}{w:World}{K:Za}{D:Expr}(x:Str)(t:Tok)(it:Addr):sF P w K D (Hg x) [it] it (fun i h=>h.IsStrIter it "str_ascii_iterator" x t i) where
 mem:=by simp
 obj:=fun i h st b a=>by
  have e:b=it:=by simpa using a
  subst e;obtain⟨o,e,c,d⟩:=st;exact⟨o,e,fun v z=>by rw[d]at z;cases z⟩
 keep:=fun i h g st k=>by
  obtain⟨o,e,c,d⟩:=st;exact⟨o,k it (by simp) o e,c,d⟩
 item:=by
  intro X j l m B i C s σ H E I hf st n;subst j l m;have p:i<x.cps.size:=n;obtain⟨q,r,G,u,y,A⟩:=hf it (by simp);have hx:x.cps[i]?=some x.cps[i]:=by simp[p]
  refine wpAny_pyNext_ascii_item st hx fun g f J=>?_;have L:Inv X C σ H { s with heap:=g,toks:=s.toks+1 }:=I.turned (t':=s.toks+1) (fun b o a e=>(J.2 b a).trans e) q r u y A;obtain⟨o,e,c,d⟩:=id f;exact⟨_,rfl,ux (s:={ s with heap:=g,toks:=s.toks+1 }) e c d (by decide) ⟨.str ⟨#[x.cps[i]]⟩,H,L,⟨_,rfl⟩,⟨rfl,_,hx,rfl⟩,f,fun b a=>(hf b a).1⟩⟩
 done:=by
  intro X j l m B i C s σ H E I hf st n;subst j l m;have M:x.cps.size<=i:=n;obtain⟨q,r,G,u,y,A⟩:=hf it (by simp);exact wpAny_pyNext_ascii_end (I.ok.hd B) st (by simp;omega) fun g N=>⟨rfl,I.turned (t':=s.toks) (fun b o a e=>N b o a e) q r u y A⟩
 self:=fun _ _ _ _ _ st h=>wpAny_pyIter_striter_ascii st h
theorem AY{P:bD}{w:World}{K:Za}{D:Expr}(x:Str)(t:Tok)(it:Addr):sF P w K D (Hg x) [it] it (fun i h=>h.IsStrIter it "str_iterator" x t i) where
 mem:=by simp
 obj:=fun i h st b a=>by
  have e:b=it:=by simpa using a
  subst e;obtain⟨o,e,c,d⟩:=st;exact⟨o,e,fun v z=>by rw[d]at z;cases z⟩
 keep:=fun i h g st k=>by
  obtain⟨o,e,c,d⟩:=st;exact⟨o,k it (by simp) o e,c,d⟩
 item:=by
  intro X j l m B i C s σ H E I hf st n;subst j l m;have p:i<x.cps.size:=n;obtain⟨q,r,G,u,y,A⟩:=hf it (by simp);have hx:x.cps[i]?=some x.cps[i]:=by simp[p]
  refine wpAny_pyNext_wide_item st hx fun g f J=>?_;have L:Inv X C σ H { s with heap:=g,toks:=s.toks+1 }:=I.turned (t':=s.toks+1) (fun b o a e=>(J.2 b a).trans e) q r u y A;obtain⟨o,e,c,d⟩:=id f;exact⟨_,rfl,ux (s:={ s with heap:=g,toks:=s.toks+1 }) e c d (by decide) ⟨.str ⟨#[x.cps[i]]⟩,H,L,⟨_,rfl⟩,⟨rfl,_,hx,rfl⟩,f,fun b a=>(hf b a).1⟩⟩
 done:=by
  intro X j l m B i C s σ H E I hf st n;subst j l m;have M:x.cps.size<=i:=n;obtain⟨q,r,G,u,y,A⟩:=hf it (by simp);exact wpAny_pyNext_wide_end (I.ok.hd B) st (by simp;omega) fun g N=>⟨rfl,I.turned (t':=s.toks) (fun b o a e=>N b o a e) q r u y A⟩
 self:=fun _ _ _ _ _ st h=>wpAny_pyIter_striter_wide st h
section
variable{X:Cx}{p pos:Pos}{tg:Expr}
def GG(tl:TE):TI:=fun σ H R=>tl σ H fun v H1=>∃x,v=.str x/\R (Hg x) H1
theorem FS{l:Expr}{k:TE}(r:PE X l k):PI X tg l (GG k):=by
 intro m s σ H R I h;refine cA (r m s σ H _ I h) fun v a i=>?_;obtain⟨y,j,g,u,w⟩:=i;obtain⟨x,e,q⟩:=w;subst e;obtain⟨t,rfl⟩:=u;have f:∀b∈[a.heap.objs.size],mL X m j b:=fun b z=>by
  have e:b=a.heap.objs.size:=by simpa using z
  subst e;exact g.fpOk (aN _) (g.hok.fresh (aN _))
 cases n:x.cps.all (·<128)
 ·refine wpAny_pyIter_wide n ?_;exact⟨a.heap.objs.size,[a.heap.objs.size],_,_,j,rfl,g.kept (t':=a.toks) fun b o e=>bu _ e,AY x t _,⟨_,c_ _ rfl,rfl,rfl⟩,f,q⟩
 ·refine wpAny_pyIter_ascii n ?_;exact⟨a.heap.objs.size,[a.heap.objs.size],_,_,j,rfl,g.kept (t':=a.toks) fun b o e=>bu _ e,x_ x t _,⟨_,c_ _ rfl,rfl,rfl⟩,f,q⟩
end
def Hf(K:Za)(a b:Addr):It :=
  ⟨fun i H=>∃xs ys x y,ax K H a xs/\ax K H b ys/\xs[i]?=some x/\ys[i]?=some y,
   fun i H x H'=>∃p u v,x=.ref p/\H p=none/\(∀xs,ax K H a xs->xs[i]?=some u)/\(∀ys,ax K H b ys->ys[i]?=some v)/\H'=upd H p (.tup [u,v]),
   fun i H=>∃xs ys,ax K H a xs/\ax K H b ys/\(xs.length<=i∨ys.length<=i)⟩
theorem Cp{P:bD}{w:World}{K:Za}{es:List Expr}{kx:Nat}{J5:Pos}(a b z TI TO t A:Addr)(D:n8 z TI TO t A a b):
  sF P w K (.Tuple es kx J5) (Hf K a b) [z,TI,TO,t,A] z (fun i h=>IsZip h z TI TO .none/\IsPair h TI (.ref t) (.ref A)/\(∃a b,IsPair h TO a b)/\h.IsListIter t a i/\h.IsListIter A b i) where
 mem:=by simp
 obj:=fun i h st c f=>by
  obtain⟨p,j,⟨u,v,l⟩,G,J⟩:=st;simp only[du,qE,or_false]at f;rcases f with rfl|rfl|rfl|rfl|rfl
  ·exact⟨_,p,fun v z=>by cases z⟩
  ·exact⟨_,j,fun v z=>by cases z⟩
  ·exact⟨_,l,fun v z=>by cases z⟩
  ·obtain⟨o,e,c,d⟩:=G;exact⟨o,e,fun v z=>by rw[d]at z;cases z⟩
  ·obtain⟨o,e,c,d⟩:=J;exact⟨o,e,fun v z=>by rw[d]at z;cases z⟩
 keep:=fun i h N st k=>by
  obtain⟨p,j,⟨u,v,l⟩,G,J⟩:=st;exact⟨k z (by simp) _ p,k TI (by simp) _ j,⟨u,v,k TO (by simp) _ l⟩,G.at fun o e=>k t (by simp) o e,J.at fun o e=>k A (by simp) o e⟩
 item:=by
  intro X hP hw hK f i J2 s σ H E I hf st hg;subst hP hw hK;obtain⟨p,j,⟨u0,v0,l⟩,G,J⟩:=st;obtain⟨xs,ys,x,y,B,C,hx,hy⟩:=hg;obtain⟨aq,rx,px,zx⟩:=I.list B;obtain⟨as,ry,py,zy⟩:=I.list C;obtain⟨u,hu,ru⟩:=rx.get hx;obtain⟨v,hv,rv⟩:=ry.get hy;refine wpAny_pyNext_zip_item D p j l G J px.isList py.isList (x:=u) (y:=v) (by simpa using hu) (by simpa using hv) fun N a1 a2 a3 a4 a5 a6 hk=>?_;refine⟨_,rfl,wpAny_letOwnedTupleGo_zip (s:={ s with heap:=N }) a1 fun L aC aS=>?_⟩;have g:iK z N L:=aS;have O:s.heap.objs.size≠z:=gZ (ba p);have Q:s.heap.objs.size≠TO:=gZ (ba l);have T:s.heap.objs.size≠TI:=gZ (ba j);have U:s.heap.objs.size≠t:=by obtain⟨o,Y,_⟩:=G;exact gZ (ba Y)
  have al:s.heap.objs.size≠A:=by obtain⟨o,Y,_⟩:=J;exact gZ (ba Y)
  have an:IsPair L s.heap.objs.size u v:=g.extBut _ _ O a5;have I2:Inv X J2 σ (upd H s.heap.objs.size (.tup [x,y])) { s with heap:=L,toks:=s.toks }:=by
   refine I.turnedNew (ch:=[z,TI,TO,t,A]) hf (fun c o f q=>?_) ⟨_,an⟩ (fun _ z=>nomatch z) ⟨by show 2<=aj;decide,[u,v],.cons ru (.cons rv .nil),⟨_,an,rfl,_,rfl⟩⟩;have n1:c≠z:=fun q=>f (by simp[q]);exact g.extBut _ _ n1 (hk c o n1 (fun q=>f (by simp[q])) (fun q=>f (by simp[q])) (fun q=>f (by simp[q])) q)
  refine⟨.ref s.heap.objs.size,_,I2,rfl,⟨_,x,y,rfl,I.fresh,fun zs p=>by rw[I.list_inj p B];exact hx,fun zs p=>by rw[I.list_inj p C];exact hy,rfl⟩,⟨aC,g.extBut _ _ D.TIz (hk _ _ D.TIz D.TITO D.TIi1 D.TIi2 j),⟨_,_,g.extBut _ _ D.TOz a2⟩,a3.at fun o e=>g.extBut _ _ D.i1z e,a4.at fun o e=>g.extBut _ _ D.i2z e⟩,fun c f=>?_⟩;have a0:=(hf c f).1;simp only[du,qE,or_false]at f;have ne:c≠s.heap.objs.size:=by
   rcases f with rfl|rfl|rfl|rfl|rfl
   ·exact O.symm
   ·exact T.symm
   ·exact Q.symm
   ·exact U.symm
   ·exact al.symm
  rw[ai ne];exact a0
 done:=by
  intro X hP hw hK f i J2 s σ H E I hf st hg;subst hP hw hK;obtain⟨p,j,⟨u0,v0,l⟩,G,J⟩:=st;obtain⟨xs,ys,B,C,ap⟩:=hg;obtain⟨aq,rx,px,zx⟩:=I.list B;obtain⟨as,ry,py,zy⟩:=I.list C;have lx:=rx.length;have ly:=ry.length;refine wpAny_pyNext_zip_end (I.ok.hd f) D p j l G J px.isList py.isList (by rcases ap with q|q;exact .inl (by simp;omega);exact .inr (by simp;omega)) fun N hk=>⟨rfl,?_⟩;have tr:∀c q,H c=some q->c∉[z,TI,TO,t,A]:=fun c q e m=>by rw[(hf c m).1]at e;cases e
  have M:∀c o,c∉[z,TI,TO,t,A]->s.heap.get? c=some o->N.get? c=some o:=fun c o f q=>hk c o (fun q=>f (by simp[q])) (fun q=>f (by simp[q])) (fun q=>f (by simp[q])) (fun q=>f (by simp[q])) q;refine I.step (g':=s.gens) (d':=s.drawn) (t':=s.toks) (ch:=[z,TI,TO,t,A]) (fun c f=>?_) (fun c o _ _ f e _=>M c o f e) (fun c o _ _ f e _=>⟨o.slots,M c o f e⟩) (fun _ _ _ _ n=>n) (fun c o f e=>⟨o,M c o f e⟩) (fun _ _ e=>e) (fun c xs o e z=>M c o (tr c _ e) z) (fun _ _ _ e=>e) (fun c ps e=>⟨#[],by rw[e];simp⟩) (fun m hm=>?_) (fun c q e=>?_) I.bare
  ·obtain⟨f0,f1,f2,f3,f4,f5⟩:=hf c f;exact⟨f3,f1,f4,f5⟩
  ·obtain⟨q,a7,ep,Y,r⟩:=hm;exact⟨q,a7,ep,M _ q (fun z=>(hf _ z).2.1 rfl) Y,r⟩
  ·refine(I.hok c q e).stay (fun d v hd q'=>M d v ?_ q') (fun _ q=>q) fun _ _ q=>q;rcases hd with z|z
   ·subst z;exact tr _ _ e
   ·exact tr _ _ z
 self:=fun _ _ _ _ _ st h=>u2 st.1 h
section
variable{prog:bD}{w:World}{A:Around}{E:Zc}{s:Shared}
theorem jJ{it t:Addr}{i:Nat}{items:Array Value}{x:Value}{Q:Zc}(st:s.heap.IsTupleIter it t i)(g:s.heap.IsTuple t items)(hx:items[i]?=some x)
  (k:∀f,f.IsTupleIter it t (i+1)->iK it s.heap f->Q x { s with heap:=f }):wpAny (model prog w) A (j8 (.ref it)) Q E s:=by
 obtain⟨m,e,h,a⟩:=id st;obtain⟨n,j,_,o,l⟩:=g;unfold j8;refine am (n6 (name:=n5 "__next__") st.typeIs u1
  (uJ u1 st.typeIs F.entry_tuple_iterator_next ?_ (F.args_tuple_iterator_next_1 _)))
 show wpAny _ _ (field (.ref it) 0 >>= _) _ _ s;refine am (gP e a (x:=.ref t) rfl ?_);show wpAny _ _ (if(Value.ref t==Value.none)=true then _ else _) _ _ s
 rw[if_neg (show ¬((Value.ref t==Value.none)=true)from gL)];show wpAny _ _ (field (.ref it) 1 >>= _) _ _ s;refine am (gP e a (x:=.int i 0) rfl ?_);show wpAny _ _ (seqItems? (.ref t) >>= _) _ _ s;refine am (lC j l ?_);simp only[j_,hx];refine am (uZ e a (by simp) (aV ⟨x,rfl,aV (k _ ?_ (lT ..))⟩));exact⟨_,u8 _ e (Obj.isFreed_of_fields (uY a _)),(Obj.cls_mapFields ..).trans h,by
  rw[uY a];simp[rawInt]⟩
theorem pp{it t:Addr}{i:Nat}{items:Array Value}{Q:Zc}(j:A.handled=none)(st:s.heap.IsTupleIter it t i)(l:s.heap.IsTuple t items)(hx:items[i]?=none)
  (k:∀f e,Heap.ExtBut it s.heap f->(∃o,f.get? e=some o/\o.cls=.type "StopIteration")->E (.ref e) { s with heap:=f }):wpAny (model prog w) A (j8 (.ref it)) Q E s:=by
 obtain⟨q,g,r,h⟩:=id st;obtain⟨u,n,_,v,p⟩:=l;unfold j8;refine am (n6 (name:=n5 "__next__") st.typeIs u1
  (uJ u1 st.typeIs F.entry_tuple_iterator_next ?_ (F.args_tuple_iterator_next_1 _)))
 show wpAny _ _ (field (.ref it) 0 >>= _) _ _ s;refine am (gP g h (x:=.ref t) rfl ?_);show wpAny _ _ (if(Value.ref t==Value.none)=true then _ else _) _ _ s
 rw[if_neg (show ¬((Value.ref t==Value.none)=true)from gL)];show wpAny _ _ (field (.ref it) 1 >>= _) _ _ s;refine am (gP g h (x:=.int i 0) rfl ?_);show wpAny _ _ (seqItems? (.ref t) >>= _) _ _ s;refine am (lC n p ?_);simp only[j_,hx];refine am (pf (am (uZ g h (by simp) ?_)));show wpAny _ _ (newExc (.type "StopIteration") [] >>= _) _ _ _;refine am ?_;simp only[newExc,newTuple];refine am (n_ ?_ (by size_fits));refine am (m:=uX _ _) (wpAny_of_eq (a:=Value.none) (by first|rfl|(simp only[uX];rfl)) ?_)
 refine n_ ?_ (by size_fits);simp only[raiseNew];refine am (wpAny_handled ?_)
 first|rw[show A.in1.handled=none from j] | rw[j]
 refine am (aV (wpAny_throw ?_));exact k _ _ (((lT ..).extBut.push _).push _) ⟨_,c_ _ rfl,rfl⟩
theorem AW{z TI TO L M l1 l2:Addr}{k1 k2:Nat}{xs ys:Array Value}{x y a b:Value}{Q:Zc}(D:n8 z TI TO L M l1 l2)
  (gz:IsZip s.heap z TI TO .none) (gI:IsPair s.heap TI (.ref L) (.ref M)) (gO:IsPair s.heap TO a b)
  (g1:s.heap.IsTupleIter L l1 k1) (g2:s.heap.IsTupleIter M l2 k2) (t1:s.heap.IsTuple l1 xs) (t2:s.heap.IsTuple l2 ys) (hx:xs[k1]?=some x) (hy:ys[k2]?=some y)
  (k:∀N,IsZip N z TI TO (rawInt s.heap.objs.size)->IsPair N TO x y->N.IsTupleIter L l1 (k1+1)->N.IsTupleIter M l2 (k2+1)->IsPair N s.heap.objs.size x y->N.objs.size=s.heap.objs.size+1 ->
   (∀c o,c≠z->c≠TO->c≠L->c≠M->s.heap.get? c=some o->N.get? c=some o)->Q (.ref s.heap.objs.size) { s with heap:=N }) :
  wpAny (model prog w) A (cO.«zip.__next__» ⟨[.ref z],[]⟩) (fun aS s'=>∃v,aS=.done (.ret v)/\Q v s') E s:=by
 show wpAny _ _ (field (.ref z) 2 >>= _) _ _ _;refine am (gP gz rfl (x:=.bool false) rfl ?_);show wpAny _ _ (field (.ref z) 3 >>= _) _ _ _;refine am (gP gz rfl (x:=.ref TI) rfl ?_);refine am (lC gI rfl ?_);show wpAny _ _ (uW (.ref z) >>= _) _ _ _;refine am ?_;unfold uW;refine am (gP gz rfl (x:=.none) rfl (aV ?_));simp only[if_true];refine am (pf ?_);refine am (gP gz rfl (x:=.ref TO) rfl ?_);refine am (nZ gz (by simp) fun m₁ q g=>?_)
 replace q:IsZip m₁ z TI TO .ellipsis:=q
 refine am ?_;simp only[List.zipIdx_cons,List.zipIdx_nil,qG,List.forIn_nil];refine am (am (uV ?_));show wpAny _ _ (j8 (.ref L) >>= _) _ _ _;refine am (jJ (g1.extBut g.extBut D.i1z) (t1.extBut g.extBut D.l1z) hx fun m₂ O h=>aV ?_);have B:IsPair m₂ TO a b:=h.extBut _ _ D.TOi1 (g.extBut _ _ D.TOz gO);refine am (lC B rfl ?_);refine am (wpAny_updateSeq_pair B fun m₃ t i=>?_)
 replace t:IsPair m₃ TO x b:=t
 refine am (wpAny_letGo (aV ?_));refine am (am (uV ?_));show wpAny _ _ (j8 (.ref M) >>= _) _ _ _;refine am (jJ (((g2.extBut g.extBut D.i2z).extBut h.extBut D.i12.symm).extBut i.extBut D.TOi2.symm)
  (((t2.extBut g.extBut D.l2z).extBut h.extBut D.l2i1).extBut i.extBut D.l2TO) hy fun m₄ T m=>aV ?_)
 have C:IsPair m₄ TO x b:=m.extBut _ _ D.TOi2 t;refine am (lC C rfl ?_);refine am (wpAny_updateSeq_pair C fun f j n=>?_)
 replace j:IsPair f TO x y:=j
 refine am (wpAny_letGo (aV (aV ?_)));refine am (lC j rfl ?_);refine am (wpAny_newTuple ?_);have aq:f.objs.size=s.heap.objs.size:=by rw[n.1,m.1,i.1,h.1,g.1]
 have G:IsZip f z TI TO .ellipsis:=n.extBut _ _ D.TOz.symm (m.extBut _ _ D.i2z.symm (i.extBut _ _ D.TOz.symm (h.extBut _ _ D.i1z.symm q)));have U:∀c o,c≠z->c≠TO->c≠L->c≠M->s.heap.get? c=some o->f.get? c=some o:=fun c o Y c2 c3 c4 e =>
  n.extBut _ _ c2 (m.extBut _ _ c4 (i.extBut _ _ c2 (h.extBut _ _ c3 (g.extBut _ _ Y e))))
 have al:f.IsTupleIter L l1 (k1+1):=((O.extBut i.extBut D.TOi1.symm).extBut m.extBut D.i12).extBut n.extBut D.TOi1.symm;have an:f.IsTupleIter M l2 (k2+1):=T.extBut n.extBut D.TOi2.symm;have as:z<f.objs.size:=ba G;show wpAny _ _ (cO.SmallTypes.ownedTupleHandOut (.ref z) (.ref f.objs.size) >>= _) _ _ _;refine am ?_;unfold cO.SmallTypes.ownedTupleHandOut;have ap:IsZip (f.push { cls:=.type "tuple",data:=.seq #[x,y] }) z TI TO .ellipsis:=bu _ G;refine am (nZ ap (by simp) fun m₇ u H=>?_)
 replace u:IsZip m₇ z TI TO (rawInt f.objs.size):=u
 refine nZ u (by simp) fun p l I=>?_
 replace l:IsZip p z TI TO (rawInt f.objs.size):=l
 have up:∀c o,c≠z->f.get? c=some o->p.get? c=some o:=fun c o Y e=>I.extBut _ _ Y (H.extBut _ _ Y (bu _ e));have J:IsPair p f.objs.size x y:=I.extBut _ _ (gZ as) (H.extBut _ _ (gZ as) (c_ _ rfl));have aC:p.objs.size=f.objs.size+1:=by rw[I.1,H.1,o8]
 rw[aq]at l J aC;refine aV ⟨_,rfl,?_⟩;show Q (.ref f.objs.size) _;rw[aq];refine k p l (up _ _ D.TOz j) ?_ ?_ J aC fun c o Y c2 c3 c4 e=>up c o Y (U c o Y c2 c3 c4 e)
 ·obtain⟨o,e,r⟩:=al;exact⟨o,up _ o D.i1z e,r⟩
 ·obtain⟨o,e,r⟩:=an;exact⟨o,up _ o D.i2z e,r⟩
theorem Cg{z TI TO v y J L:Addr}{M N:Nat}{O T:Array Value}{a b:Value}{Q:Fin->Shared->Prop}(hh:A.handled=none)(D:n8 z TI TO v y J L)
  (B:IsZip s.heap z TI TO .none) (gI:IsPair s.heap TI (.ref v) (.ref y)) (gO:IsPair s.heap TO a b)
  (g1:s.heap.IsTupleIter v J M) (g2:s.heap.IsTupleIter y L N) (t1:s.heap.IsTuple J O) (t2:s.heap.IsTuple L T) (U:O[M]?=none∨T[N]?=none)
  (k:∀Y e,(∀c o,c≠z->c≠TO->c≠v->c≠y->s.heap.get? c=some o->Y.get? c=some o)->(∃o,Y.get? e=some o/\o.cls=.type "StopIteration")->E (.ref e) { s with heap:=Y }) :
  wpAny (model prog w) A (cO.«zip.__next__» ⟨[.ref z],[]⟩) Q E s:=by
 show wpAny _ _ (field (.ref z) 2 >>= _) _ _ _;refine am (gP B rfl (x:=.bool false) rfl ?_);show wpAny _ _ (field (.ref z) 3 >>= _) _ _ _;refine am (gP B rfl (x:=.ref TI) rfl ?_);refine am (lC gI rfl ?_);show wpAny _ _ (uW (.ref z) >>= _) _ _ _;refine am ?_;unfold uW;refine am (gP B rfl (x:=.none) rfl (aV ?_));simp only[if_true];refine am (pf ?_);refine am (gP B rfl (x:=.ref TO) rfl ?_);refine am (nZ B (by simp) fun m₁ i f=>?_)
 replace i:IsZip m₁ z TI TO .ellipsis:=i
 refine am ?_;simp only[List.zipIdx_cons,List.zipIdx_nil,qG,List.forIn_nil];refine am (am (uV ?_));show wpAny _ _ (j8 (.ref v) >>= _) _ _ _;cases hx:O[M]? with
 |none =>
  refine am (pp hh (g1.extBut f.extBut D.i1z) (t1.extBut f.extBut D.l1z) hx fun m₂ e g he=>?_);obtain⟨oe,t,C⟩:=he;have j:IsZip m₂ z TI TO .ellipsis:=g _ _ D.i1z.symm i;have u:e≠z:=fun q=>by subst q;rw[j]at t;cases t;simp at C
  refine nZ j (by simp) fun n _ h=>k n e (fun c o G _ c3 _ q=>h.extBut _ _ G (g _ _ c3 (f.extBut _ _ G q))) ⟨oe,h.extBut _ _ u t,C⟩
 |some x =>
  have hy:T[N]?=none:=by rcases U with q|q;rw[hx]at q;cases q;exact q
  refine am (jJ (g1.extBut f.extBut D.i1z) (t1.extBut f.extBut D.l1z) hx fun m₂ al g=>aV ?_);have l:IsPair m₂ TO a b:=g.extBut _ _ D.TOi1 (f.extBut _ _ D.TOz gO);refine am (lC l rfl ?_);refine am (wpAny_updateSeq_pair l fun n an h=>?_);refine am (wpAny_letGo (aV ?_));refine am (am (uV ?_));show wpAny _ _ (j8 (.ref y) >>= _) _ _ _;refine am (pp hh (((g2.extBut f.extBut D.i2z).extBut g.extBut D.i12.symm).extBut h.extBut D.TOi2.symm)
   (((t2.extBut f.extBut D.l2z).extBut g.extBut D.l2i1).extBut h.extBut D.l2TO) hy fun H e p he=>?_)
  obtain⟨oe,t,C⟩:=he;have m:IsZip H z TI TO .ellipsis:=p _ _ D.i2z.symm (h.extBut _ _ D.TOz.symm (g.extBut _ _ D.i1z.symm i));have u:e≠z:=fun q=>by subst q;rw[m]at t;cases t;simp at C
  refine nZ m (by simp) fun I _ r=>k I e (fun c o G c2 c3 c4 q=>r.extBut _ _ G (p _ _ c4 (h.extBut _ _ c2 (g.extBut _ _ c3 (f.extBut _ _ G q))))) ⟨oe,r.extBut _ _ u t,C⟩
theorem tH{z TI TO f g h i:Addr}{j l:Nat}{xs ys:Array Value}{x y a b:Value}{Q:Option Value->Shared->Prop}(D:n8 z TI TO f g h i)
  (m:IsZip s.heap z TI TO .none) (p:IsPair s.heap TI (.ref f) (.ref g)) (q:IsPair s.heap TO a b)
  (r:s.heap.IsTupleIter f h j) (t:s.heap.IsTupleIter g i l) (u:s.heap.IsTuple h xs) (v:s.heap.IsTuple i ys) (hx:xs[j]?=some x) (B:ys[l]?=some y)
  (k:∀e,IsZip e z TI TO (rawInt s.heap.objs.size)->IsPair e TO x y->e.IsTupleIter f h (j+1)->e.IsTupleIter g i (l+1)->IsPair e s.heap.objs.size x y->e.objs.size=s.heap.objs.size+1 ->
   (∀c o,c≠z->c≠TO->c≠f->c≠g->s.heap.get? c=some o->e.get? c=some o)->Q (some (.ref s.heap.objs.size)) { s with heap:=e }) :
  wpAny (model prog w) A (pyNext (.ref z)) Q E s:=by
 have n:s.TypeIs (.ref z) "zip":=⟨_,m,rfl⟩;unfold pyNext;exact am (uU (n6 (name:=n5 "__next__") n uT
  (uJ uT n F.entry_zip_next
   (AW D m p q r t u v hx B fun e a1 a2 a3 C G H I=>aV (k e a1 a2 a3 C G H I)) (F.args_zip_next_1 _))))
theorem vH{z TI TO f g h i:Addr}{m n:Nat}{xs ys:Array Value}{a b:Value}{Q:Option Value->Shared->Prop}(r:A.handled=none)(D:n8 z TI TO f g h i)
  (p:IsZip s.heap z TI TO .none) (t:IsPair s.heap TI (.ref f) (.ref g)) (u:IsPair s.heap TO a b)
  (v:s.heap.IsTupleIter f h m) (x:s.heap.IsTupleIter g i n) (y:s.heap.IsTuple h xs) (B:s.heap.IsTuple i ys) (j:xs[m]?=none∨ys[n]?=none)
  (k:∀l,(∀c o,c≠z->c≠TO->c≠f->c≠g->s.heap.get? c=some o->l.get? c=some o)->Q none { s with heap:=l }):wpAny (model prog w) A (pyNext (.ref z)) Q E s:=by
 have q:s.TypeIs (.ref z) "zip":=⟨_,p,rfl⟩;unfold pyNext;refine am (uU (n6 (name:=n5 "__next__") q uT
  (uJ uT q F.entry_zip_next (Cg r D p t u v x y B j fun l e kp C=>?_) (F.args_zip_next_1 _))))
 obtain⟨o,G,H⟩:=C;refine am (Ac (T:="StopIteration") (b:=true) ⟨o,G,H⟩ isSubtype_stop ?_);exact aV (k _ kp)
end
abbrev G0(h:Heap)(l1:Addr):Heap:=h.push { cls:=.type "tuple_iterator",data:=.fields #[.ref l1,.int 0 0] }
abbrev GZ(h:Heap)(l1 l2:Addr):Heap:=(G0 h l1).push { cls:=.type "tuple_iterator",data:=.fields #[.ref l2,.int 0 0] }
abbrev GY(h:Heap)(l1 l2:Addr):Heap:=(GZ h l1 l2).push { cls:=.type "tuple",data:=.seq #[.ref h.objs.size,.ref (G0 h l1).objs.size] }
abbrev GX(h:Heap)(l1 l2:Addr):Heap:=(GY h l1 l2).push { cls:=.type "tuple",data:=.seq #[.none,.none] }
abbrev Go(h:Heap)(l1 l2:Addr):Heap:=(GX h l1 l2).push { cls:=.type "zip",data:=.fields #[.none,.bool false,.bool false,.ref (GZ h l1 l2).objs.size,.ref (GY h l1 l2).objs.size] }
theorem yX(l1 l2:Addr)(a e:Array Value):
  Meets (cO.«zip.__new__» ⟨[.type "zip",.ref l1,.ref l2],[]⟩) (fun _ R s=>s.heap.IsTuple l1 a/\s.heap.IsTuple l2 e /\
   R (.ok (.ret (.ref (GX s.heap l1 l2).objs.size))) { s with heap:=Go s.heap l1 l2 }) :=
 .of_wp fun f w A R s h=>by
  obtain⟨i,g,d,tk,os⟩:=s;obtain⟨k,l,h⟩:=h;have j:=sub_zip;have m:Heap.IsTuple (Shared.heap ⟨i,g,d,tk,os⟩) l1 a:=k;have n:Heap.IsTuple (Shared.heap ⟨i.push { cls:=.type "tuple_iterator",data:=.fields #[.ref l1,.int 0 0] },g,d,tk,os⟩) l2 e:=Heap.IsTuple.push l _
  wp_walk using z8 m,z8 n
  exact⟨_,rfl,h⟩
section
variable{prog:bD}{w:World}{A:Around}{E:Zc}{s:Shared}
theorem BX{a e:Addr}{xs ys:Array Value}{Q:Zc}(r:s.heap.IsTuple a xs)(t:s.heap.IsTuple e ys)
  (k:∀f,IsZip f (s.heap.objs.size+4) (s.heap.objs.size+2) (s.heap.objs.size+3) .none->IsPair f (s.heap.objs.size+2) (.ref s.heap.objs.size) (.ref (s.heap.objs.size+1)) ->
   IsPair f (s.heap.objs.size+3) .none .none->f.IsTupleIter s.heap.objs.size a 0->f.IsTupleIter (s.heap.objs.size+1) e 0->(∀c o,s.heap.get? c=some o->f.get? c=some o)->Q (.ref (s.heap.objs.size+4)) { s with heap:=f }) :
  wpAny (model prog w) A (call (.type "zip") [.ref a,.ref e]) Q E s:=by
 refine callType_new F.called_zip (by decide) (F.typeCall_zip_2 _ _) (F.newCall_zip_2 _ _) (fun g=>F.args_object_init_3 g _ _) F.entry_zip_new
  (yX a e xs ys) ⟨r,t,?_⟩
 have h:(G0 s.heap a).objs.size=s.heap.objs.size+1:=o8 ..;have i:(GZ s.heap a e).objs.size=s.heap.objs.size+2:=by rw[o8,h]
 have j:(GY s.heap a e).objs.size=s.heap.objs.size+3:=by rw[o8,i]
 have m:(GX s.heap a e).objs.size=s.heap.objs.size+4:=by rw[o8,j]
 have l:(Go s.heap a e).get? (GX s.heap a e).objs.size=some _:=c_ _ rfl;have n:(Go s.heap a e).get? (GY s.heap a e).objs.size=some _:=bu _ (c_ _ rfl);have p:(Go s.heap a e).get? (GZ s.heap a e).objs.size=some _:=bu _ (bu _ (c_ _ rfl));have q:(Go s.heap a e).get? (G0 s.heap a).objs.size=some _:=bu _ (bu _ (bu _ (c_ _ rfl)));have u:(Go s.heap a e).get? s.heap.objs.size=some _:=bu _ (bu _ (bu _ (bu _ (c_ _ rfl))));show _/\_;rw[i,j,m]at l;rw[h,i]at p;rw[j]at n;rw[h]at q;rw[m];exact⟨⟨_,l,rfl⟩,k _ l p n ⟨_,u,rfl,rfl⟩ ⟨_,q,rfl,rfl⟩ fun c o x =>
  bu _ (bu _ (bu _ (bu _ (bu _ x))))⟩
end
def Fd(K:Za)(a b:Addr):It :=
  ⟨fun i H=>∃xs ys x y,bc K H a xs/\bc K H b ys/\xs[i]?=some x/\ys[i]?=some y,
   fun i H x H'=>∃p u v,x=.ref p/\H p=none/\(∀xs,bc K H a xs->xs[i]?=some u)/\(∀ys,bc K H b ys->ys[i]?=some v)/\H'=upd H p (.tup [u,v]),
   fun i H=>∃xs ys,bc K H a xs/\bc K H b ys/\(xs.length<=i∨ys.length<=i)⟩
theorem AX{P:bD}{w:World}{K:Za}{es:List Expr}{kx:Nat}{J5:Pos}(a b z TI TO t A:Addr)(D:n8 z TI TO t A a b):
  sF P w K (.Tuple es kx J5) (Fd K a b) [z,TI,TO,t,A] z (fun i h=>IsZip h z TI TO .none/\IsPair h TI (.ref t) (.ref A)/\(∃a b,IsPair h TO a b)/\h.IsTupleIter t a i/\h.IsTupleIter A b i) where
 mem:=by simp
 obj:=fun i h st c f=>by
  obtain⟨p,j,⟨u,v,l⟩,M,N⟩:=st;simp only[du,qE,or_false]at f;rcases f with rfl|rfl|rfl|rfl|rfl
  ·exact⟨_,p,fun v z=>by cases z⟩
  ·exact⟨_,j,fun v z=>by cases z⟩
  ·exact⟨_,l,fun v z=>by cases z⟩
  ·obtain⟨o,e,c,d⟩:=M;exact⟨o,e,fun v z=>by rw[d]at z;cases z⟩
  ·obtain⟨o,e,c,d⟩:=N;exact⟨o,e,fun v z=>by rw[d]at z;cases z⟩
 keep:=fun i h Q st k=>by
  obtain⟨p,j,⟨u,v,l⟩,⟨o1,e1,r1⟩,⟨o2,e2,r2⟩⟩:=st;exact⟨k z (by simp) _ p,k TI (by simp) _ j,⟨u,v,k TO (by simp) _ l⟩,⟨o1,k t (by simp) o1 e1,r1⟩,⟨o2,k A (by simp) o2 e2,r2⟩⟩
 item:=by
  intro X hP hw hK f i J2 s σ H E I hf st hg;subst hP hw hK;obtain⟨p,j,⟨u0,v0,l⟩,M,N⟩:=st;obtain⟨xs,ys,x,y,C,G,hx,hy⟩:=hg;obtain⟨J,rx,px,zx⟩:=I.tuple C;obtain⟨L,ry,py,zy⟩:=I.tuple G;obtain⟨u,hu,ru⟩:=rx.get hx;obtain⟨v,hv,rv⟩:=ry.get hy;refine tH D p j l M N (xs:=J.toArray) (ys:=L.toArray) px py (x:=u) (y:=v) (by simpa using hu) (by simpa using hv) fun Q a1 a2 a3 a4 a5 a6 hk=>?_;refine⟨_,rfl,wpAny_letOwnedTupleGo_zip (s:={ s with heap:=Q }) a1 fun B as aC=>?_⟩;have g:iK z Q B:=aC;have T:s.heap.objs.size≠z:=gZ (ba p);have U:s.heap.objs.size≠TO:=gZ (ba l);have Y:s.heap.objs.size≠TI:=gZ (ba j);have al:s.heap.objs.size≠t:=by obtain⟨o,ho,_⟩:=M;exact gZ (ba ho)
  have an:s.heap.objs.size≠A:=by obtain⟨o,ho,_⟩:=N;exact gZ (ba ho)
  have ap:IsPair B s.heap.objs.size u v:=g.extBut _ _ T a5;have I2:Inv X J2 σ (upd H s.heap.objs.size (.tup [x,y])) { s with heap:=B,toks:=s.toks }:=by
   refine I.turnedNew (ch:=[z,TI,TO,t,A]) hf (fun c o f q=>?_) ⟨_,ap⟩ (fun _ z=>nomatch z) ⟨by show 2<=aj;decide,[u,v],.cons ru (.cons rv .nil),⟨_,ap,rfl,_,rfl⟩⟩;have n1:c≠z:=fun q=>f (by simp[q]);exact g.extBut _ _ n1 (hk c o n1 (fun q=>f (by simp[q])) (fun q=>f (by simp[q])) (fun q=>f (by simp[q])) q)
  have aS:B.IsTupleIter t a (i+1):=by obtain⟨o,e,r⟩:=a3;exact⟨o,g.extBut _ _ D.i1z e,r⟩
  have a0:B.IsTupleIter A b (i+1):=by obtain⟨o,e,r⟩:=a4;exact⟨o,g.extBut _ _ D.i2z e,r⟩
  refine⟨.ref s.heap.objs.size,_,I2,rfl,⟨_,x,y,rfl,I.fresh,fun zs p=>by rw[I.tuple_inj p C];exact hx,fun zs p=>by rw[I.tuple_inj p G];exact hy,rfl⟩,⟨as,g.extBut _ _ D.TIz (hk _ _ D.TIz D.TITO D.TIi1 D.TIi2 j),⟨_,_,g.extBut _ _ D.TOz a2⟩,aS,a0⟩,fun c f=>?_⟩;have a7:=(hf c f).1;simp only[du,qE,or_false]at f;have ne:c≠s.heap.objs.size:=by
   rcases f with rfl|rfl|rfl|rfl|rfl
   ·exact T.symm
   ·exact Y.symm
   ·exact U.symm
   ·exact al.symm
   ·exact an.symm
  rw[ai ne];exact a7
 done:=by
  intro X hP hw hK f i J2 s σ H E I hf st hg;subst hP hw hK;obtain⟨p,j,⟨u0,v0,l⟩,M,N⟩:=st;obtain⟨xs,ys,C,G,aq⟩:=hg;obtain⟨J,rx,px,zx⟩:=I.tuple C;obtain⟨L,ry,py,zy⟩:=I.tuple G;have lx:=rx.length;have ly:=ry.length;refine vH (I.ok.hd f) D p j l M N (xs:=J.toArray) (ys:=L.toArray) px py (by rcases aq with q|q;exact .inl (by simp;omega);exact .inr (by simp;omega)) fun Q hk=>⟨rfl,?_⟩;have tr:∀c q,H c=some q->c∉[z,TI,TO,t,A]:=fun c q e m=>by rw[(hf c m).1]at e;cases e
  have O:∀c o,c∉[z,TI,TO,t,A]->s.heap.get? c=some o->Q.get? c=some o:=fun c o f q=>hk c o (fun q=>f (by simp[q])) (fun q=>f (by simp[q])) (fun q=>f (by simp[q])) (fun q=>f (by simp[q])) q;refine I.step (g':=s.gens) (d':=s.drawn) (t':=s.toks) (ch:=[z,TI,TO,t,A]) (fun c f=>?_) (fun c o _ _ f e _=>O c o f e) (fun c o _ _ f e _=>⟨o.slots,O c o f e⟩) (fun _ _ _ _ n=>n) (fun c o f e=>⟨o,O c o f e⟩) (fun _ _ e=>e) (fun c xs o e z=>O c o (tr c _ e) z) (fun _ _ _ e=>e) (fun c ps e=>⟨#[],by rw[e];simp⟩) (fun m hm=>?_) (fun c q e=>?_) I.bare
  ·obtain⟨f0,f1,f2,f3,f4,f5⟩:=hf c f;exact⟨f3,f1,f4,f5⟩
  ·obtain⟨q,a8,ep,ho,r⟩:=hm;exact⟨q,a8,ep,O _ q (fun z=>(hf _ z).2.1 rfl) ho,r⟩
  ·refine(I.hok c q e).stay (fun d v hd q'=>O d v ?_ q') (fun _ q=>q) fun _ _ q=>q;rcases hd with z|z
   ·subst z;exact tr _ _ e
   ·exact tr _ _ z
 self:=fun _ _ _ _ _ st h=>u2 st.1 h
section
variable{X:Cx}{p pos:Pos}{es:List Expr}{kx:Nat}{J5:Pos}
def Fy(K:Za)(ta:TA):TI:=fun σ H R=>ta σ H fun vs H1=>∃a b,vs=[.ref a,.ref b]/\(((∃xs,ax K H1 a xs)/\(∃ys,ax K H1 b ys)/\R (Hf K a b) H1)∨((∃xs,bc K H1 a xs)/\(∃ys,bc K H1 b ys)/\R (Fd K a b) H1))
theorem Ew{a b:Expr}{J:TA}(O:Gl X "zip")(Q:X.mg "zip"=none)(T:PA X [a,b] J)(U:aI [a,b] X.env=[(false,eval a X.env),(false,eval b X.env)]:=by rfl)(j:aI [b] X.env=[(false,eval b X.env)]:=by rfl):
  PI X (.Tuple es kx J5) (.Call (.Name "zip" p) [a,b] [] pos) (Fy X.K J):=by
 intro x s σ H R I h;refine Call_ (oP I O Q boot_zip (z7 (cA (T pos x s σ H _ I h) fun us s1 y=>?_) (by rw[U,j]) (by rw[j];rfl)));obtain⟨vs,k,f,Y,q1⟩:=y;obtain⟨L,M,e,q⟩:=q1;subst e;obtain⟨u,v,rfl,ru,rv⟩:=vals2 Y;cases ru;cases rv;have l:∀b∈[s1.heap.objs.size+4,s1.heap.objs.size+2,s1.heap.objs.size+3,s1.heap.objs.size,s1.heap.objs.size+1],mL X x k b:=fun b N=>by
  have m:s1.heap.objs.size<=b:=by
   simp only[du,qE,or_false]at N;rcases N with rfl|rfl|rfl|rfl|rfl<;>omega
  exact f.fpOk m (f.hok.fresh m)
 rcases q with⟨⟨xs,hx⟩,⟨ys,z⟩,q⟩|⟨⟨xs,hx⟩,⟨ys,z⟩,q⟩
 ·obtain⟨n,rx,r,zx⟩:=f.list hx;obtain⟨t,ry,w,zy⟩:=f.list z;obtain⟨o1,n1,A,_⟩:=id r;obtain⟨o2,n2,B,_⟩:=id w;refine call_zip_2 r.isList w.isList fun g a1 a2 a3 C D a6 E=>?_;refine u2 (s:={ s1 with heap:=g }) a1 ?_;have i:∀b o,s1.heap.get? b=some o->g.get? b=some o:=E;have G:Inv X x σ k { s1 with heap:=g }:=f.kept (t':=s1.toks) i;exact⟨_,_,_,_,k,rfl,G,Cp L M _ _ _ _ _ (zipApart_new (ba A) (ba B)),⟨a1,a2,⟨_,_,a3⟩,C,D⟩,l,q⟩
 ·obtain⟨n,rx,r,zx⟩:=f.tuple hx;obtain⟨t,ry,w,zy⟩:=f.tuple z;obtain⟨o1,A,_⟩:=id r;obtain⟨o2,B,_⟩:=id w;refine BX (xs:=n.toArray) (ys:=t.toArray) r w fun g a1 a2 a3 C D E=>?_;refine u2 (s:={ s1 with heap:=g }) a1 ?_;have i:∀b o,s1.heap.get? b=some o->g.get? b=some o:=E;have G:Inv X x σ k { s1 with heap:=g }:=f.kept (t':=s1.toks) i;exact⟨_,_,_,_,k,rfl,G,AX L M _ _ _ _ _ (zipApart_new (ba A) (ba B)),⟨a1,a2,⟨_,_,a3⟩,C,D⟩,l,q⟩
end
inductive DT where
 |k (a:ca)
 |t (l:List DT)
 |s (l:List DT)
mutual
def FI:(x y:DT)->Decidable (x=y)
 |.k a,.k b=>if h:a=b then Decidable.isTrue (by rw[h])else Decidable.isFalse fun e=>h (by injection e)
 |.t l,.t m=>match decDTs l m with
  |Decidable.isTrue h=>Decidable.isTrue (by rw[h])
  |Decidable.isFalse h=>Decidable.isFalse fun e=>h (by injection e)
 |.s l,.s m=>match decDTs l m with
  |Decidable.isTrue h=>Decidable.isTrue (by rw[h])
  |Decidable.isFalse h=>Decidable.isFalse fun e=>h (by injection e)
 |.k _,.t _=>Decidable.isFalse nofun
 |.k _,.s _=>Decidable.isFalse nofun
 |.t _,.k _=>Decidable.isFalse nofun
 |.t _,.s _=>Decidable.isFalse nofun
 |.s _,.k _=>Decidable.isFalse nofun
 |.s _,.t _=>Decidable.isFalse nofun
def decDTs:(x y:List DT)->Decidable (x=y)
 |[],[]=>Decidable.isTrue rfl
 |[],_::_=>Decidable.isFalse nofun
 |_::_,[]=>Decidable.isFalse nofun
 |a::l,b::m=>match FI a b with
  |Decidable.isTrue h=>match decDTs l m with
   |Decidable.isTrue h'=>Decidable.isTrue (by rw[h,h'])
   |Decidable.isFalse h'=>Decidable.isFalse fun e=>h' (by injection e)
  |Decidable.isFalse h=>Decidable.isFalse fun e=>h (by injection e)
end
instance:DecidableEq DT:=FI
mutual
def DT.depth:DT->Nat
 |.k _=>0
 |.t l=>DT.depths l+1
 |.s l=>DT.depths l+1
def DT.depths:List DT->Nat
 |[]=>0
 |a::r=>max (DT.depth a) (DT.depths r)
end
mutual
def qe(h:Heap):DT->Value->Prop
 |.k a,v=>cS a v=true
 |.t l,v=>∃a items,v=.ref a/\h.IsTuple a items/\DAts h l items.toList
 |.s l,v=>∃a items,v=.ref a/\h.IsList a items/\DAts h l items.toList
def DAts(h:Heap):List DT->List Value->Prop
 |[],vs=>vs=[]
 |k::r,vs=>∃v us,vs=v::us/\qe h k v/\DAts h r us
end
theorem DAts.length{h:Heap}:∀{f:List DT}{a:Zf},DAts h f a->f.length=a.length
 |[],a,e=>by have g:a=[]:=e;rw[g];rfl
 |x::f,a,e=>by
  obtain⟨v,j,rfl,_,i⟩:=e;simp[DAts.length i]
theorem DAts.get{h:Heap}:∀{f:List DT}{a:Zf}{i:Nat}{v:Value},DAts h f a->a[i]?=some v->∃x,f[i]?=some x/\qe h x v
 |[],a,i,v,e,q=>by have g:a=[]:=e;subst g;simp at q
 |x::f,a,i,v,e,q=>by
  obtain⟨u,n,rfl,j,k⟩:=e;cases i with
  |zero =>
   simp at q;subst q;exact⟨x,rfl,j⟩
  |succ i =>
   obtain⟨y,l,m⟩:=DAts.get k (i:=i) (v:=v) (by simpa using q);exact⟨y,by simpa using l,m⟩
theorem DT.depths_get{l:List DT}{x:DT}{i d:Nat}(h:DT.depths l<=d)(e:l[i]?=some x):x.depth<=d:=by
 induction l generalizing i with
 |nil=>simp at e
 |cons a r f =>
  have g:max a.depth (DT.depths r)<=d:=h;cases i with
  |zero=>simp at e;subst e;omega
  |succ i=>exact f (by omega) (by simpa using e)
theorem y9{h:Heap}{a:Addr}{i j:Array Value}(x:h.IsList a i)(y:h.IsList a j):i=j:=by
 obtain⟨o,g,_,n,k⟩:=x;obtain⟨l,e,_,m,f⟩:=y;rw[g]at e;cases e;rw[k]at f;injection f
theorem xu{h:Heap}{a:Addr}{i j:Array Value}(x:h.IsTuple a i)(y:h.IsTuple a j):i=j:=by
 obtain⟨o,g,_,n,k⟩:=x;obtain⟨l,e,_,m,f⟩:=y;rw[g]at e;cases e;rw[k]at f;injection f
theorem jt{h:Heap}{a:Addr}{i j:Array Value}(x:h.IsList a i)(y:h.IsTuple a j):False:=by
 obtain⟨o,g,k,_⟩:=x;obtain⟨l,e,f,_⟩:=y;rw[g]at e;cases e;rw[k]at f;simp at f
theorem ut{a b:ca}{v:Value}(g:cS a v=true)(f:cS b v=true):a=b:=by
 rcases aw g with⟨i,t,rfl,rfl⟩|⟨i,t,rfl,rfl⟩
 ·rcases aw f with⟨j,u,rfl,e⟩|⟨j,u,rfl,e⟩
  ·cases e;rfl
  ·cases e
 ·rcases aw f with⟨j,u,rfl,e⟩|⟨j,u,rfl,e⟩
  ·cases e
  ·cases e;rfl
theorem h_{a:ca}{b:Addr}(h:cS a (.ref b)=true):False:=by
 rcases aw h with⟨_,_,_,e⟩|⟨_,_,_,e⟩<;>cases e
theorem qe.inj{h:Heap}:∀(d:Nat) {x y:DT}{v:Value},x.depth<=d->qe h x v->qe h y v->x=y:=by
 have q:∀(d:Nat) (r:∀{x y:DT}{v:Value},x.depth<=d->qe h x v->qe h y v->x=y) (n g:List DT) (u:Zf),DT.depths n<=d->DAts h n u->DAts h g u->n=g:=by
  intro d r n
  induction n with
  |nil =>
   intro g u _ hx f;have w:u=[]:=hx;subst w;cases g with
   |nil=>rfl
   |cons y g=>obtain⟨_,_,e,_⟩:=f;cases e
  |cons x n z =>
   intro g u o hx f;obtain⟨v,I,rfl,A,B⟩:=hx;cases g with
   |nil=>have C:v::I=[]:=f;cases C
   |cons y g =>
    obtain⟨M,J,e,D,E⟩:=f;cases e;have L:max x.depth (DT.depths n)<=d:=o;rw[r (by omega) A D,z g I (by omega) B E]
 intro d
 induction d with
 |zero =>
  intro x y v o hx f;cases x with
  |t l=>exact absurd o (by show ¬(DT.depths l+1<=0);omega)
  |s l=>exact absurd o (by show ¬(DT.depths l+1<=0);omega)
  |k a =>
   cases y with
   |k b=>rw[ut hx f]
   |t l=>obtain⟨b,_,rfl,_⟩:=f;exact(h_ hx).elim
   |s l=>obtain⟨b,_,rfl,_⟩:=f;exact(h_ hx).elim
 |succ d r =>
  intro x y v o hx f;cases x with
  |k a =>
   cases y with
   |k b=>rw[ut hx f]
   |t l=>obtain⟨b,_,rfl,_⟩:=f;exact(h_ hx).elim
   |s l=>obtain⟨b,_,rfl,_⟩:=f;exact(h_ hx).elim
  |t l =>
   obtain⟨a,i,rfl,hi,hx⟩:=hx;cases y with
   |k b=>exact(h_ f).elim
   |t m =>
    obtain⟨G,j,e,p,f⟩:=f;cases e;rw[xu p hi]at f;rw[q d (fun H=>r H) l m i.toList (by have:DT.depths l+1<=d+1:=o;omega) hx f]
   |s m =>
    obtain⟨G,j,e,p,f⟩:=f;cases e;exact(jt p hi).elim
  |s l =>
   obtain⟨a,i,rfl,hi,hx⟩:=hx;cases y with
   |k b=>exact(h_ f).elim
   |s m =>
    obtain⟨G,j,e,p,f⟩:=f;cases e;rw[y9 p hi]at f;rw[q d (fun H=>r H) l m i.toList (by have:DT.depths l+1<=d+1:=o;omega) hx f]
   |t m =>
    obtain⟨G,j,e,p,f⟩:=f;cases e;exact(jt hi p).elim
theorem fI{l m:List DT}(f:l.length=m.length):((mU l.length).all fun j=>decide (l[j]?=m[j]?))=decide (l=m):=by
 by_cases e:l=m
 ·subst e;simp
 ·rw[zzr0 e];rw[List.all_eq_false];apply Classical.byContradiction;intro h;apply e;apply List.ext_getElem?;intro i;by_cases hi:i<l.length
  ·apply Classical.byContradiction;intro a;exact h ⟨i,List.mem_range.mpr hi,by simpa using a⟩
  ·rw[List.getElem?_eq_none (by omega),List.getElem?_eq_none (by omega)]
section
variable{s:Shared}
theorem FD:∀(d:Nat) {A:Around}{x y:DT}{u v:Value},y.depth<=d->A.units+d<cLine->qe s.heap x u->qe s.heap y v->bh A s u v (decide (x=y)):=by
 have leaves:∀{A:Around}{a b:ca}{u v:Value},cS a u=true->cS b v=true->bh A s u v (decide (DT.k a=DT.k b)):=by
  intro A a b u v B G;have J:decide (DT.k a=DT.k b)=decide (a=b):=by
   by_cases e:a=b
   ·subst e;simp
   ·have:¬(DT.k a=DT.k b):=fun z=>e (by injection z);rw[zzr0 this,zzr0 e]
  rw[J];rcases aw B with⟨i,t,rfl,rfl⟩|⟨i,t,rfl,rfl⟩
  ·rcases aw G with⟨j,u,rfl,rfl⟩|⟨j,u,rfl,rfl⟩
   ·rw[vQ];exact bh.int_int i t j u
   ·rw[vP];exact bh.int_str i t j u
  ·rcases aw G with⟨j,u,rfl,rfl⟩|⟨j,u,rfl,rfl⟩
   ·rw[vO];exact bh.str_int i t j u
   ·rw[vN];have:=bh.str_str (A:=A) (s:=s) i t j u;rwa[show(i==j)=decide (i=j)from by by_cases e:i=j<;>simp[e]]at this
 have kt:∀{A:Around}{a:ca}{u:Value}{b:Addr}{items:Array Value},A.units<cLine->cS a u=true->s.heap.IsTuple b items->bh A s u (.ref b) false/\bh A s (.ref b) u false:=by
  intro A a u b items h B w;rcases aw B with⟨i,t,rfl,rfl⟩|⟨i,t,rfl,rfl⟩
  ·exact⟨bh.int_tuple i t w h,bh.tuple_int i t w h⟩
  ·exact⟨bh.str_tuple i t w h,bh.tuple_str i t w h⟩
 have L:∀{A:Around}{a:ca}{u:Value}{b:Addr}{items:Array Value},A.units<cLine->cS a u=true->s.heap.IsList b items->bh A s u (.ref b) false/\bh A s (.ref b) u false:=by
  intro A a u b items h B w;rcases aw B with⟨i,t,rfl,rfl⟩|⟨i,t,rfl,rfl⟩
  ·exact⟨bh.int_list i t w h,bh.list_int i t w h⟩
  ·exact⟨bh.str_list i t w h,bh.list_str i t w h⟩
 intro d
 induction d with
 |zero =>
  intro A x y u v o h hx f;cases y with
  |t l=>exact absurd o (by show ¬(DT.depths l+1<=0);omega)
  |s l=>exact absurd o (by show ¬(DT.depths l+1<=0);omega)
  |k b =>
   cases x with
   |t l =>
    obtain⟨a,i,rfl,hi,_⟩:=hx;rw[zzr0 (by intro z;cases z)];exact(kt (by omega) f hi).2
   |s l =>
    obtain⟨a,i,rfl,hi,_⟩:=hx;rw[zzr0 (by intro z;cases z)];exact(L (by omega) f hi).2
   |k a=>exact leaves hx f
 |succ d Q =>
  intro A x y u v o h hx f;have items:∀{l m:List DT}{i j:Array Value},DT.depths m<=d->DAts s.heap l i.toList->DAts s.heap m j.toList->∀n (B:n<i.size) (G:n<j.size),bh A.in1 s i[n] j[n] (decide (l[n]?=m[n]?)):=by
   intro l m i j H hi p n B G;obtain⟨x,ex,hx⟩:=hi.get (i:=n) (v:=i[n]) (by simp[B]);obtain⟨y,O,f⟩:=p.get (i:=n) (v:=j[n]) (by simp[G]);rw[ex,O];have J:decide ((some x:Option DT)=some y)=decide (x=y):=by
    by_cases e:x=y
    ·subst e;simp
    ·rw[zzr0 e,zzr0 fun z=>e (eR z)]
   rw[J];exact Q (DT.depths_get H O) (by show A.units+1+d<cLine;omega) hx f
  cases x with
  |k a =>
   cases y with
   |k b=>exact leaves hx f
   |t l =>
    obtain⟨b,i,rfl,hi,_⟩:=f;rw[zzr0 (by intro z;cases z)];exact(kt (by omega) hx hi).1
   |s l =>
    obtain⟨b,i,rfl,hi,_⟩:=f;rw[zzr0 (by intro z;cases z)];exact(L (by omega) hx hi).1
  |t l =>
   have C:=hx;obtain⟨a,i,rfl,hi,hx⟩:=hx;cases y with
   |k b =>
    rw[zzr0 (by intro z;cases z)];exact(kt (by omega) f hi).2
   |s m =>
    obtain⟨b,j,rfl,p,_⟩:=f;rw[zzr0 (by intro z;cases z)];exact bh.tuple_list hi p (by omega)
   |t m =>
    have H:DT.depths m<=d:=by have:DT.depths m+1<=d+1:=o;omega
    have D:=f;obtain⟨b,j,rfl,p,f⟩:=f;by_cases g:a=b
    ·subst g;have e:DT.t l=DT.t m:=qe.inj _ (aN _) C D;rw[zzr1 e];exact bh.same _
    ·have r:=SeqAt.RcAt.tuples (A:=A) hi p (by omega) (items H hx f);have I:=hx.length;have M:=f.length;simp only[mS]at I M;have q:((mU (min i.size j.size)).all (fun n=>decide (l[n]?=m[n]?)) && i.size==j.size)=decide (DT.t l=DT.t m):=by
      by_cases e:l.length=m.length
      ·have N:i.size=j.size:=by omega
       rw[<-N,Nat.min_self,<-I,fI e];by_cases E:l=m
       ·subst E;simp
       ·have:¬(DT.t l=DT.t m):=fun z=>E (by injection z);rw[zzr0 this,zzr0 E];rfl
      ·have N:(i.size==j.size)=false:=by simp;omega
       have:¬(DT.t l=DT.t m):=fun z=>e (by injection z with z;rw[z]);rw[N,zzr0 this,Bool.and_false]
     rw[q]at r;exact .of_refs g r
  |s l =>
   have C:=hx;obtain⟨a,i,rfl,hi,hx⟩:=hx;cases y with
   |k b =>
    rw[zzr0 (by intro z;cases z)];exact(L (by omega) f hi).2
   |t m =>
    obtain⟨b,j,rfl,p,_⟩:=f;rw[zzr0 (by intro z;cases z)];exact bh.list_tuple hi p (by omega)
   |s m =>
    have H:DT.depths m<=d:=by have:DT.depths m+1<=d+1:=o;omega
    have D:=f;obtain⟨b,j,rfl,p,f⟩:=f;by_cases g:a=b
    ·subst g;have e:DT.s l=DT.s m:=qe.inj _ (aN _) C D;rw[zzr1 e];exact bh.same _
    ·have I:=hx.length;have M:=f.length;simp only[mS]at I M;by_cases e:l.length=m.length
     ·have r:=SeqAt.RcAt.lists (A:=A) hi p (by omega) (by omega) (items H hx f);rw[<-I,fI e]at r;have q:decide (l=m)=decide (DT.s l=DT.s m):=by
       by_cases E:l=m
       ·subst E;simp
       ·have:¬(DT.s l=DT.s m):=fun z=>E (by injection z);rw[zzr0 this,zzr0 E]
      rw[q]at r;exact .of_refs g r
     ·have:¬(DT.s l=DT.s m):=fun z=>e (by injection z with z;rw[z]);rw[zzr0 this];exact .of_refs g (SeqAt.RcAt.lists_lengths hi p (by simp;omega) (by omega))
end
theorem AJ(a b:ca):decide (DT.k a=DT.k b)=decide (a=b):=by
 by_cases e:a=b
 ·subst e;simp
 ·rw[zzr0 e,zzr0 fun z=>e (by injection z)]
theorem FF(l m:List DT):decide (DT.t l=DT.t m)=decide (l=m):=by
 by_cases e:l=m
 ·subst e;simp
 ·rw[zzr0 e,zzr0 fun z=>e (by injection z)]
theorem FG(l m:List DT):decide (DT.s l=DT.s m)=decide (l=m):=by
 by_cases e:l=m
 ·subst e;simp
 ·rw[zzr0 e,zzr0 fun z=>e (by injection z)]
theorem Dv(x y:DT):decide ((some x:Option DT)=some y)=decide (x=y):=by
 by_cases e:x=y
 ·subst e;simp
 ·rw[zzr0 e,zzr0 fun z=>e (eR z)]
section
variable{A:Around}{s:Shared}
theorem nK{d:Nat}(g:A.units+1+d<cLine){l m:List DT}{i j:Array Value}(h:DT.depths m<=d)(hi:DAts s.heap l i.toList)(k:DAts s.heap m j.toList):
  ∀n (a:n<i.size) (e:n<j.size),bh A.in1 s i[n] j[n] (decide (l[n]?=m[n]?)):=by
 intro n a e;obtain⟨x,ex,hx⟩:=hi.get (i:=n) (v:=i[n]) (by simp[a]);obtain⟨y,f,o⟩:=k.get (i:=n) (v:=j[n]) (by simp[e]);rw[ex,f,Dv];exact FD d (DT.depths_get h f) g hx o
theorem Ad{l m:List DT}{i j:Array Value}(hi:DAts s.heap l i.toList)(g:DAts s.heap m j.toList):((mU (min i.size j.size)).all (fun n=>decide (l[n]?=m[n]?)) && i.size==j.size)=decide (l=m):=by
 have f:=hi.length;have h:=g.length;simp only[mS]at f h;by_cases e:l.length=m.length
 ·have a:i.size=j.size:=by omega
  rw[<-a,Nat.min_self,<-f,fI e];simp
 ·have a:(i.size==j.size)=false:=by simp;omega
  rw[a,zzr0 fun z=>e (by rw[z]),Bool.and_false]
theorem FA{x y:DT}{u v:Value}(o:y.depth<=14)(w:A.units+16<cLine)(hx:qe s.heap x u)(f:qe s.heap y v):SeqAt.RcAt A s u v (decide (x=y)):=by
 cases x with
 |k a =>
  rcases aw (show cS a u=true from hx)with⟨i,t,rfl,rfl⟩|⟨i,t,rfl,rfl⟩
  ·cases y with
   |k b =>
    rw[AJ];rcases aw (show cS b v=true from f)with⟨j,h,rfl,rfl⟩|⟨j,h,rfl,rfl⟩
    ·rw[vQ];exact SeqAt.RcAt.int_int i t j h
    ·rw[vP];exact SeqAt.RcAt.int_str i t j h
   |t m=>obtain⟨b,j,rfl,g,_⟩:=f;rw[zzr0 (by intro z;cases z)];exact SeqAt.RcAt.int_tuple i t g (by omega)
   |s m=>obtain⟨b,j,rfl,g,_⟩:=f;rw[zzr0 (by intro z;cases z)];exact SeqAt.RcAt.int_list i t g (by omega)
  ·cases y with
   |k b =>
    rw[AJ];rcases aw (show cS b v=true from f)with⟨j,h,rfl,rfl⟩|⟨j,h,rfl,rfl⟩
    ·rw[vO];exact SeqAt.RcAt.str_int i t j h
    ·rw[vN];have:=SeqAt.RcAt.str_str (A:=A) (s:=s) i t j h;rwa[show(i==j)=decide (i=j)from by by_cases e:i=j<;>simp[e]]at this
   |t m=>obtain⟨b,j,rfl,g,_⟩:=f;rw[zzr0 (by intro z;cases z)];exact SeqAt.RcAt.str_tuple i t g (by omega)
   |s m=>obtain⟨b,j,rfl,g,_⟩:=f;rw[zzr0 (by intro z;cases z)];exact SeqAt.RcAt.str_list i t g (by omega)
 |t l =>
  obtain⟨a,i,rfl,hi,hx⟩:=hx;cases y with
  |k b =>
   rw[zzr0 (by intro z;cases z)];rcases aw (show cS b v=true from f)with⟨j,h,rfl,rfl⟩|⟨j,h,rfl,rfl⟩
   ·exact SeqAt.RcAt.tuple_int j h hi (by omega)
   ·exact SeqAt.RcAt.tuple_str j h hi (by omega)
  |t m =>
   obtain⟨b,j,rfl,g,f⟩:=f;have n:DT.depths m<=13:=by have:DT.depths m+1<=14:=o;omega
   have r:=SeqAt.RcAt.tuples (A:=A) hi g (by omega) (nK (by omega) n hx f);rw[Ad hx f]at r;rw[FF];exact r
  |s m=>obtain⟨b,j,rfl,g,_⟩:=f;rw[zzr0 (by intro z;cases z)];exact SeqAt.RcAt.tuple_list hi g (by omega)
 |s l =>
  obtain⟨a,i,rfl,hi,hx⟩:=hx;cases y with
  |k b =>
   rw[zzr0 (by intro z;cases z)];rcases aw (show cS b v=true from f)with⟨j,h,rfl,rfl⟩|⟨j,h,rfl,rfl⟩
   ·exact SeqAt.RcAt.list_int j h hi (by omega)
   ·exact SeqAt.RcAt.list_str j h hi (by omega)
  |t m=>obtain⟨b,j,rfl,g,_⟩:=f;rw[zzr0 (by intro z;cases z)];exact SeqAt.RcAt.list_tuple hi g (by omega)
  |s m =>
   obtain⟨b,j,rfl,g,f⟩:=f;have n:DT.depths m<=13:=by have:DT.depths m+1<=14:=o;omega
   have p:=hx.length;have q:=f.length;simp only[mS]at p q;rw[FG];by_cases e:l.length=m.length
   ·have r:=SeqAt.RcAt.lists (A:=A) hi g (by omega) (by omega) (nK (by omega) n hx f);rw[<-p,fI e]at r;exact r
   ·rw[zzr0 fun z=>e (by rw[z])];exact SeqAt.RcAt.lists_lengths hi g (by simp;omega) (by omega)
theorem FC{x y:DT}{u v:Value}(o:y.depth<=14)(w:A.units+16<cLine)(hx:qe s.heap x u)(f:qe s.heap y v):SeqAt.RcNeAt A s u v (!decide (x=y)):=by
 cases x with
 |k a =>
  rcases aw (show cS a u=true from hx)with⟨i,t,rfl,rfl⟩|⟨i,t,rfl,rfl⟩
  ·cases y with
   |k b =>
    rw[AJ];rcases aw (show cS b v=true from f)with⟨j,h,rfl,rfl⟩|⟨j,h,rfl,rfl⟩
    ·rw[vQ];exact SeqAt.RcNeAt.int_int i t j h
    ·rw[vP];exact SeqAt.RcNeAt.int_str i t j h
   |t m=>obtain⟨b,j,rfl,g,_⟩:=f;rw[zzr0 (by intro z;cases z)];exact SeqAt.RcNeAt.int_tuple i t g (by omega)
   |s m=>obtain⟨b,j,rfl,g,_⟩:=f;rw[zzr0 (by intro z;cases z)];exact SeqAt.RcNeAt.int_list i t g (by omega)
  ·cases y with
   |k b =>
    rw[AJ];rcases aw (show cS b v=true from f)with⟨j,h,rfl,rfl⟩|⟨j,h,rfl,rfl⟩
    ·rw[vO];exact SeqAt.RcNeAt.str_int i t j h
    ·rw[vN];have:=SeqAt.RcNeAt.str_str (A:=A) (s:=s) i t j h;rwa[show(i==j)=decide (i=j)from by by_cases e:i=j<;>simp[e]]at this
   |t m=>obtain⟨b,j,rfl,g,_⟩:=f;rw[zzr0 (by intro z;cases z)];exact SeqAt.RcNeAt.str_tuple i t g (by omega)
   |s m=>obtain⟨b,j,rfl,g,_⟩:=f;rw[zzr0 (by intro z;cases z)];exact SeqAt.RcNeAt.str_list i t g (by omega)
 |t l =>
  obtain⟨a,i,rfl,hi,hx⟩:=hx;cases y with
  |k b =>
   rw[zzr0 (by intro z;cases z)];rcases aw (show cS b v=true from f)with⟨j,h,rfl,rfl⟩|⟨j,h,rfl,rfl⟩
   ·exact SeqAt.RcNeAt.tuple_int j h hi (by omega)
   ·exact SeqAt.RcNeAt.tuple_str j h hi (by omega)
  |t m =>
   obtain⟨b,j,rfl,g,f⟩:=f;have n:DT.depths m<=13:=by have:DT.depths m+1<=14:=o;omega
   have r:=SeqAt.RcNeAt.tuples (A:=A) hi g (by omega) (nK (by omega) n hx f);rw[Ad hx f]at r;rw[FF];exact r
  |s m=>obtain⟨b,j,rfl,g,_⟩:=f;rw[zzr0 (by intro z;cases z)];exact SeqAt.RcNeAt.tuple_list hi g (by omega)
 |s l =>
  obtain⟨a,i,rfl,hi,hx⟩:=hx;cases y with
  |k b =>
   rw[zzr0 (by intro z;cases z)];rcases aw (show cS b v=true from f)with⟨j,h,rfl,rfl⟩|⟨j,h,rfl,rfl⟩
   ·exact SeqAt.RcNeAt.list_int j h hi (by omega)
   ·exact SeqAt.RcNeAt.list_str j h hi (by omega)
  |t m=>obtain⟨b,j,rfl,g,_⟩:=f;rw[zzr0 (by intro z;cases z)];exact SeqAt.RcNeAt.list_tuple hi g (by omega)
  |s m =>
   obtain⟨b,j,rfl,g,f⟩:=f;have n:DT.depths m<=13:=by have:DT.depths m+1<=14:=o;omega
   have p:=hx.length;have q:=f.length;simp only[mS]at p q;rw[FG];by_cases e:l.length=m.length
   ·have r:=SeqAt.RcNeAt.lists (A:=A) hi g (by omega) (by omega) (nK (by omega) n hx f);rw[<-p,fI e]at r;exact r
   ·rw[zzr0 fun z=>e (by rw[z])];exact SeqAt.RcNeAt.lists_lengths hi g (by simp;omega) (by omega)
end
mutual
def ib(K:Za)(H:Hp):DT->V->Prop
 |.k a,v=>v=kV a
 |.t l,v=>∃b xs,v=.ref b/\bc K H b xs/\DIns K H l xs
 |.s l,v=>∃b xs,v=.ref b/\ax K H b xs/\DIns K H l xs
def DIns(K:Za)(H:Hp):List DT->List V->Prop
 |[],vs=>vs=[]
 |k::r,vs=>∃v us,vs=v::us/\ib K H k v/\DIns K H r us
end
section
variable{X:Cx}{J2:Zd}{σ:St}{H:Hp}{s:Shared}
theorem iA(I:Inv X J2 σ H s):∀(d:Nat) {k:DT}{v:V}{u:Value},k.depth<=d->ib X.K H k v->RelV v u->qe s.heap k u:=by
 have h:∀(d:Nat) (i:∀{k:DT}{v:V}{u:Value},k.depth<=d->ib X.K H k v->RelV v u->qe s.heap k u) (f:List DT) (j:List V) (o:Zf),DT.depths f<=d->DIns X.K H f j->a_ j o->DAts s.heap f o:=by
  intro d i f
  induction f with
  |nil =>
   intro j o _ hx r;have e:j=[]:=hx;subst e;cases r
   rfl
  |cons k f p =>
   intro j o g hx r;obtain⟨v,q,rfl,m,B⟩:=hx;cases r with
   |@cons _ u _ n C D =>
    have E:max k.depth (DT.depths f)<=d:=g;exact⟨u,n,rfl,i (by omega) m C,p q n (by omega) B D⟩
 intro d
 induction d with
 |zero =>
  intro k v u g hx r;cases k with
  |t l=>exact absurd g (by show ¬(DT.depths l+1<=0);omega)
  |s l=>exact absurd g (by show ¬(DT.depths l+1<=0);omega)
  |k b =>
   have e:v=kV b:=hx;subst e;exact nG (P:=X.prog) (w:=X.w) r
 |succ d i =>
  intro k v u g hx r;cases k with
  |k b =>
   have e:v=kV b:=hx;subst e;exact nG (P:=X.prog) (w:=X.w) r
  |t l =>
   obtain⟨b,x,rfl,y,hi⟩:=hx;cases(show u=Value.ref b from r);obtain⟨a,z,A,_⟩:=I.tuple y;exact⟨b,a.toArray,rfl,A,by simpa using h d (fun m=>i m) l x a (by have:DT.depths l+1<=d+1:=g;omega) hi z⟩
  |s l =>
   obtain⟨b,x,rfl,y,hi⟩:=hx;cases(show u=Value.ref b from r);obtain⟨a,z,A,_⟩:=I.list y;exact⟨b,a.toArray,rfl,A.isList,by simpa using h d (fun m=>i m) l x a (by have:DT.depths l+1<=d+1:=g;omega) hi z⟩
theorem nN(I:Inv X J2 σ H s):∀{a:List DT}{f:List V}{g:Zf},DT.depths a<=8->DIns X.K H a f->a_ f g->DAts s.heap a g
 |[],f,g,_,hx,r=>by
  have e:f=[]:=hx;subst e;cases r
  rfl
 |k::a,f,g,i,hx,r=>by
  obtain⟨v,j,rfl,l,m⟩:=hx;cases r with
  |@cons _ u _ h n o =>
   have p:max k.depth (DT.depths a)<=8:=i;exact⟨u,h,rfl,iA I 8 (by omega) l n,nN I (by omega) m o⟩
end
def oG(K:Za):R2:=fun x y H Q=>∃d e:DT,ib K H d x/\ib K H e y/\d.depth<=8/\e.depth<=8/\Q (.bl (decide (d=e))) H
def vC(K:Za):R2:=fun x y H Q=>∃d e:DT,ib K H d x/\ib K H e y/\d.depth<=8/\e.depth<=8/\Q (.bl (!decide (d=e))) H
section
variable{X:Cx}
theorem gU(f:X.A.units+16<cLine):lM X (dO .Eq) (oG X.K):=by
 intro l s σ H x y v u Q I g i h;obtain⟨d,e,hx,j,k,a,q⟩:=h;exact FA (bp a (by decide)) f (iA I 8 k hx g) (iA I 8 a j i) X.prog X.w X.xe _ ⟨.bl _,H,I,rfl,q⟩
theorem rN(f:X.A.units+16<cLine):lM X (dO .NotEq) (vC X.K):=by
 intro l s σ H x y v u Q I g i h;obtain⟨d,e,hx,j,k,a,q⟩:=h;exact FC (bp a (by decide)) f (iA I 8 k hx g) (iA I 8 a j i) X.prog X.w X.xe _ ⟨.bl _,H,I,rfl,q⟩
def FQ(K:Za):R2:=fun x y H Q=>∃d e:DT,ib K H d x/\ib K H e y/\d.depth<=40/\e.depth<=14/\Q (.bl (decide (d=e))) H
def CU(K:Za):R2:=fun x y H Q=>∃d e:DT,ib K H d x/\ib K H e y/\d.depth<=40/\e.depth<=14/\Q (.bl (!decide (d=e))) H
theorem C6(f:X.A.units+16<cLine):lM X (dO .Eq) (FQ X.K):=by
 intro l s σ H x y v u Q I g i h;obtain⟨d,e,hx,j,k,a,q⟩:=h;exact FA a f (iA I 40 k hx g) (iA I 14 a j i) X.prog X.w X.xe _ ⟨.bl _,H,I,rfl,q⟩
theorem yU(f:X.A.units+16<cLine):lM X (dO .NotEq) (CU X.K):=by
 intro l s σ H x y v u Q I g i h;obtain⟨d,e,hx,j,k,a,q⟩:=h;exact FC a f (iA I 40 k hx g) (iA I 14 a j i) X.prog X.w X.xe _ ⟨.bl _,H,I,rfl,q⟩
def i6(K:Za)(neg:Bool):R2:=fun x y H Q=>∃(d:DT) (ds:List DT) (p:Addr) (xs:List V),ib K H d x/\y=.ref p/\(ax K H p xs∨bc K H p xs)/\DIns K H ds xs/\d.depth<=8/\DT.depths ds<=8/\Q (.bl (if neg then !decide (d∈ds)else decide (d∈ds))) H
open Classical in
theorem nP{h:Heap}{d:DT}(g:d.depth<=8):∀{a:List DT}{f:Zf},DAts h a f->DT.depths a<=8->f.any (fun u=>@decide (qe h d u) (propDecidable _))=decide (d∈a)
 |[],f,e,_=>by
  have j:f=[]:=e;subst j
  rfl
 |x::a,f,e,k=>by
  obtain⟨u,l,rfl,i,m⟩:=e;have o:max x.depth (DT.depths a)<=8:=k;rw[oh,nP g m (by omega)];by_cases q:d=x
  ·subst q;simp[i]
  ·have n:¬qe h d u:=fun z=>q (qe.inj 8 g z i);simp[n,q]
open Classical in
theorem rT{A:Around}{s:Shared}{d:DT}{v:Value}(g:d.depth<=8)(i:A.units+8<cLine)(j:qe s.heap d v):∀{f:List DT}{a:Zf},DAts s.heap f a->DT.depths f<=8->∀u∈a,bh A s u v (@decide (qe s.heap d u) (propDecidable _))
 |[],a,e,_,u,hm=>by
  have k:a=[]:=e;subst k;cases hm
 |x::f,a,e,l,u,hm=>by
  obtain⟨r,m,rfl,h,o⟩:=e;have p:max x.depth (DT.depths f)<=8:=l;rcases du.mp hm with rfl|hm
  ·have q:=FD 8 (A:=A) g i h j;by_cases z:x=d
   ·subst z;rw[zzr1 h];rwa[zzr1 rfl]at q
   ·have n:¬qe s.heap d u:=fun w=>z (qe.inj 8 g w h).symm;rw[zzr0 n];rwa[zzr0 z]at q
  ·exact rT g i j o (by omega) u hm
theorem oM(t:X.A.units+16<cLine):lM X (dO .In) (i6 X.K false):=by
 intro z s σ H x y v u Q I m n h;obtain⟨d,B,p,C,hx,rfl,hq,e,f,a,q⟩:=h;cases n;have l:=iA I 8 f hx m;have g:X.A.in1.units+8<cLine:=by show X.A.units+1+8<cLine;omega
 rcases hq with hq|hq
 ·obtain⟨i,r,j,o⟩:=I.list hq;have hi:=nN I a e r;refine SeqAt.in_listAt _ j.isList (fun w k=>rT f g l hi a w (by simpa using k)) ⟨.bl _,H,I,rfl,?_⟩;rw[uS,nP f hi a];exact q
 ·obtain⟨i,r,j,o⟩:=I.tuple hq;have hi:=nN I a e r;refine SeqAt.in_tupleAt _ j (fun w k=>rT f g l hi a w (by simpa using k)) ⟨.bl _,H,I,rfl,?_⟩;rw[uS,nP f hi a];exact q
theorem dg(t:X.A.units+16<cLine):lM X (dO .NotIn) (i6 X.K true):=by
 intro z s σ H x y v u Q I m n h;obtain⟨d,B,p,C,hx,rfl,hq,e,f,a,q⟩:=h;cases n;have l:=iA I 8 f hx m;have g:X.A.in1.units+8<cLine:=by show X.A.units+1+8<cLine;omega
 rcases hq with hq|hq
 ·obtain⟨i,r,j,o⟩:=I.list hq;have hi:=nN I a e r;refine SeqAt.notIn_listAt _ j.isList (fun w k=>rT f g l hi a w (by simpa using k)) ⟨.bl _,H,I,rfl,?_⟩;rw[uS,nP f hi a];exact q
 ·obtain⟨i,r,j,o⟩:=I.tuple hq;have hi:=nN I a e r;refine SeqAt.notIn_tupleAt _ j (fun w k=>rT f g l hi a w (by simpa using k)) ⟨.bl _,H,I,rfl,?_⟩;rw[uS,nP f hi a];exact q
end
def sk(z:Str)(lo hi:Option Int):Str:=⟨((z.cps.toList.drop (HT.sIx z.length 0 lo)).take (HT.sIx z.length z.length hi-HT.sIx z.length 0 lo)).toArray⟩
theorem sliceRange_one(a b:Nat):sliceRange (a:Int) (b:Int) 1=(mU (b-a)).map (fun k=>a+k):=by
 unfold sliceRange;simp only[show(1:Int) > 0 from by decide,if_true];by_cases h:(a:Int)<(b:Int)
 ·have e:(if(a:Int)<(b:Int)then((b:Int)-a+1-1) / 1 else 0).toNat=b-a:=by rw[if_pos h];omega
  rw[e];exact qC fun k _=>by omega
 ·have e:(if(a:Int)<(b:Int)then((b:Int)-a+1-1) / 1 else 0).toNat=b-a:=by rw[if_neg h];omega
  rw[e];exact qC fun k _=>by omega
theorem xI(v:Option Int)(n d:Nat):(match v with|none=>(d:Int)|some i=>max 0 (min (if i<0 then i+(n:Int)else i) (n:Int)))=((HT.sIx n d v:Nat):Int):=by
 cases v with
 |none=>rfl
 |some i =>
  rw[<-HT.clip_eq i n d];dsimp only;by_cases h:i<0
  ·rw[if_pos h,if_pos h];omega
  ·rw[if_neg h,if_neg h];omega
theorem nu(lo hi:Option Int)(n:Nat):qA lo hi 1 n=(mU (HT.sIx n n hi-HT.sIx n 0 lo)).map (fun k=>HT.sIx n 0 lo+k):=by
 have a:=xI lo n 0;have e:=xI hi n n;rw[<-sliceRange_one,<-a,<-e];unfold qA;simp only[show(1:Int) > 0 from by decide,if_true];cases lo<;>cases hi<;>rfl
theorem Bf(z:Str)(lo hi:Option Int):Txt.slice z lo hi=sk z lo hi:=by
 have k:HT.sIx z.length 0 lo<=z.length:=HT.sIx_le _ _ (c9 _) _;have l:HT.sIx z.length z.length hi<=z.length:=HT.sIx_le _ _ (aN _) _;have f:z.cps.toList.length=z.length:=by simp[Str.length]
 have e:(qA lo hi 1 z.length).filterMap (z.cps[·]?)=(z.cps.toList.drop (HT.sIx z.length 0 lo)).take (HT.sIx z.length z.length hi-HT.sIx z.length 0 lo):=by
  rw[nu];generalize HT.sIx z.length 0 lo=a at *;generalize HT.sIx z.length z.length hi=b at *;have h:=StrLaws.picks z.cps.toList (b-a) a (by omega);simpa using h
 unfold Txt.slice;by_cases h:((1:Int)==1 && (qA lo hi 1 z.length).length==z.length)=true
 ·rw[if_pos h];have g:(qA lo hi 1 z.length).length=z.length:=by simpa using h
  rw[nu,ak,List.length_range]at g;unfold sk;have i:HT.sIx z.length 0 lo=0:=by omega
  have j:HT.sIx z.length z.length hi-HT.sIx z.length 0 lo=z.cps.toList.length:=by omega
  rw[j,i,qz,bd]
 ·rw[if_neg h];unfold sk;rw[e]
section
variable{X:Cx}
def Bt:V->Option Int->Option Int->Hp->VK->Prop:=fun x lo hi H Q=>∃z,x=.str z/\z.length<=aj/\Q (.str (sk z lo hi)) H
theorem vx:FJ X Bt:=by
 intro g s σ H x v m n lo hi p Q I r y B f h;obtain⟨z,rfl,C,q⟩:=h;obtain⟨t,rfl⟩:=r;rw[<-Bf]at q;refine⟨"str",_,F.slot_str_getitem.lookup,typeIs_str _ _ _,?_⟩;obtain⟨o,D,E,G⟩:=y;have a:∀(l u:Option (Int×Tok)),m=partValue l->n=partValue u->lo=l.map (·.1)->hi=u.map (·.1)->wpAny (model X.prog X.w) X.A (lY (.str z t) (.ref p)) (EP X g σ Q) X.xe s:=by
  rintro l u rfl rfl rfl rfl;refine wpAny_getItem_str_slice (l:=l) (u:=u) (st:=none) ⟨o,D,E,G⟩ rfl (post_val_or_str ⟨bp (Txt.slice_le z _ _) C,fun e k=>⟨.str _,H,I.tok _,⟨_,rfl⟩,q⟩⟩)
 cases B with
 |none =>
  cases f with
  |none=>exact a none none rfl rfl rfl rfl
  |int j u=>exact a none (some (j,u)) rfl rfl rfl rfl
 |int i e =>
  cases f with
  |none=>exact a (some (i,e)) none rfl rfl rfl rfl
  |int j u=>exact a (some (i,e)) (some (j,u)) rfl rfl rfl rfl
theorem FN:FJ X (fun x lo hi H Q=>tG X.K x lo hi H Q∨Bt x lo hi H Q):=iS.or vx
def Fn(K:Za):V->List V->Hp->VK->Prop:=fun x vs H Q=>∃z p ys,x=.str z/\vs=[.ref p]/\ax K H p (ys.map V.str)/\(ys.map (·.length)).sum+ys.length * z.length<=16777216/\Q (.str (uR z ys)) H
theorem Ef{a:Zb}:∀{us:Zf},a_ (a.map V.str) us->StrsAre us a:=by
 induction a with
 |nil=>intro us r;cases r;exact .nil
 |cons y a e =>
  intro us r;cases r with
  |cons f g =>
   obtain⟨t,rfl⟩:=f;exact .cons _ _ (e g)
theorem EJ:Gs X "str.join" (Fn X.K):=by
 intro m s σ H x n v o Q I a e h;obtain⟨z,p,w,rfl,rfl,f,g,q⟩:=h;obtain⟨t,rfl⟩:=a;obtain⟨u,rfl,i⟩:=e.one;cases i;obtain⟨j,r,l,_⟩:=I.list f;exact join_list l.isList (by simpa using Ef r) g fun y k=>⟨.str _,H,I.tok _,⟨_,rfl⟩,q⟩
end
section
variable{X:Cx}
def Gf(K:Za)(H:Hp)(x:V)(t:Value):Prop:=iG K H x t∨(∃a xs,x=.ref a/\t=.type "tuple"/\bc K H a xs)∨(∃a xs,x=.ref a/\t=.type "list"/\ax K H a xs)
theorem y8{k:Zd}{σ:St}{H:Hp}{s:Shared}{A:Around}{E:Zc}{Q:Zc}{c:Value}{b:Bool}{x:V}{u t:Value}(I:Inv X k σ H s)(f:RelV x u)(ty:Gf X.K H x t)(e:zY X.K t c=some b)(h:∀tk,Q (.bool b) { s with toks:=tk }):
  wpAny (model X.prog X.w) A (call (.builtin "isinstance") [u,c]) Q E s:=by
 rcases ty with ty|⟨a,l,rfl,rfl,q⟩|⟨a,l,rfl,rfl,q⟩
 ·exact BI I f ty e h
 ·cases(show u=Value.ref a from f);obtain⟨g,m,p,r⟩:=I.tuple q;obtain⟨o,i,j,_⟩:=p;exact jf PySem.W.kitx_tuple I.kIn ⟨o,i,j⟩ e (fun z=>nomatch z) h
 ·cases(show u=Value.ref a from f);obtain⟨g,m,p,r⟩:=I.list q;obtain⟨o,n,i,j,_⟩:=p;exact jf PySem.W.kitx_list I.kIn ⟨o,i,j⟩ e (fun z=>nomatch z) h
theorem dk:fM X (.builtin "isinstance") (fun a H Q=>∃x c t b,a=[x,.ty c]/\Gf X.K H x t/\zY X.K t (.type c)=some b/\Q (.bl b) H):=by
 intro i s σ H a j Q I r h;obtain⟨x,c,t,b,rfl,ty,e,q⟩:=h;obtain⟨u,v,rfl,f,g⟩:=vals2 r;cases(show v=Value.type c from g);exact y8 I f ty e fun tk=>⟨.bl b,H,I.tok _,rfl,q⟩
theorem Gd{bs:List Bool}{a:Zf}(r:a_ (bs.map V.bl) a){i:Nat}{v:Value}(h:a[i]?=some v):v=.bool ((bs[i]?).getD false)/\i<bs.length:=by
 have hi:i<a.length:=(cE.mp h).1;have g:=r.length;rw[ak]at g;have e:i<bs.length:=by omega
 obtain⟨u,f,j⟩:=r.get (i:=i) (x:=V.bl bs[i]) (by simp[e]);rw[h]at f;cases f;refine⟨?_,e⟩;rw[nY e];exact j
theorem v_(bs:List Bool):((mU bs.length).all fun i=>(bs[i]?).getD false)=bs.all id:=by
 induction bs with
 |nil=>rfl
 |cons b bs a =>
  rw[gA,List.range_succ_eq_map,List.all_cons,List.all_map,List.all_cons,<-a]
  rfl
theorem iX(m:X.calm=true):fM X (.builtin "all") (fun j H Q=>∃(p:Addr) (bs:List Bool),j=[.ref p]/\ax X.K H p (bs.map V.bl)/\Q (.bl (bs.all id)) H):=by
 intro t s σ H j G Q I r h;obtain⟨p,bs,rfl,x,q⟩:=h;obtain⟨u,rfl,y⟩:=vals1 r;cases y;obtain⟨a,k,f,J⟩:=I.list x;obtain⟨o,n,z,_⟩:=id f;have l:=k.length;rw[ak]at l;refine call_all_walk (z9 f.isList ?_);refine⟨s.heap.objs.size,_,_,_,_,_,fun i=>(bs[i]?).getD false,rfl,Walks.list (prog:=X.prog) (w:=X.w) (A:=X.A.in1) (I.ok.hd m) s.heap.objs.size p (cY (ba z)) a.toArray,⟨⟨_,c_ _ rfl,rfl,rfl⟩,f.isList.push _⟩,?_,?_⟩
 ·intro i v L M N B g;obtain⟨e,_⟩:=Gd k (i:=i) (v:=v) (by simpa using B);rw[e];exact qq g
 ·intro C tk D;have E:Inv X t σ H { s with heap:=C,toks:=tk }:=I.kept fun b o e=>D b o (by simp;exact cY (ba e)) (bu _ e);rw[bX,<-l,v_];exact⟨.bl _,H,E,rfl,q⟩
theorem yV:lM X (dO .In) (fun x y H Q=>∃c j,x=.str ⟨#[c]⟩/\y=.str j/\Q (.bl (decide (c∈j.cps.toList))) H):=by
 intro a s σ H x y v u Q I e f h;obtain⟨c,j,rfl,rfl,q⟩:=h;rw[<-StrLaws.found_one]at q;exact Bz a s σ H _ _ v u Q I e f ⟨_,_,rfl,rfl,q⟩
theorem sB(T:X.calm=true):fM X (.type "list") (fun M H Q=>∃(d:Addr) (f:List (ca×V)),M=[.ref d]/\Rd H d (.dK f)/\∀l,H l=none->Q (.ref l) (upd H l (.lst (f.map fun g=>kV g.1)))):=by
 intro J2 s σ H M us Q I r h;obtain⟨d,f,rfl,U,q⟩:=h;obtain⟨u,rfl,Y⟩:=vals1 r;cases Y;obtain⟨z,n,N,y,dd⟩:=nM I.hok U;obtain⟨ep,E⟩:=dd.dictAt;have hl:=y.length;refine PySem.W.kdl_call (PySem.W.kdl_dict (knd:=bU X.prog X.w) (kvs:=N) (ep:=ep) n) (I.ok.hd T) E (by rw[<-hl];exact z) fun h' tk m c G hD A=>?_;have B:a_ (f.map fun g=>kV g.1) m.toList:=by
  obtain⟨hn,hP⟩:=A;have J:∀(a:Zf) (L:List (ca×V)) (C:List (ca×Value)),KV L C->a.length=C.length->(∀(j:Nat) (v:Value),a[j]?=some v->∃k x,C[j]?=some (k,x)/\(bU X.prog X.w).is k v=true)->a_ (L.map fun g=>kV g.1) a:=by
   intro a L C rl
   induction rl generalizing a with
   |nil=>intro D _;cases a with
    |nil=>exact .nil
    |cons _ _=>cases D
   |@cons p w' ps al hp _ ih =>
    intro D O;cases a with
    |nil=>cases D
    |cons v a =>
     obtain⟨k,x,e,G⟩:=O 0 v rfl;have e':w'=(k,x):=by simpa using e
     refine .cons ?_ (ih a (by simpa using D) fun j v B=>by simpa using O (j+1) v (by simpa using B));have ek:p.1=k:=by rw[hp.1,e']
     show RelV (kV p.1) v;rw[ek];rcases aw (show cS k v=true from G)with⟨i,t,rfl,rfl⟩|⟨i,t,rfl,rfl⟩
     ·exact⟨t,rfl⟩
     ·exact⟨t,rfl⟩
  exact J m.toList f N y (by rw[mS];exact hn) fun j v B=>hP j v (by rw[<-qJ];exact B)
 refine⟨.ref s.heap.objs.size,_,I.laid (o:=.lst (f.map fun g=>kV g.1)) G (aN _) ⟨by rw[ak];exact z,m.toList,c,B,by rw[Array.toArray_toList];exact hD⟩,rfl,q _ I.fresh⟩
end
section
variable{prog:bD}{w:World}{K:Type}[DecidableEq K]{knd:HeapKind prog w K}{A:Around}{E:Zc}{s:Shared}
theorem qO{d a:Addr}{h:List (K×Addr×Value)}{k:K}{v:Value}{Q:Zc}(u:knd.room A)(f:knd.is s.heap k a)(C:s.heap.DictOfH knd d h)
  (there:∀p,atKey h k=some p->Q p.2 { s with toks:=s.toks+knd.draws k })
  (new:atKey h k=none->∀r,r.DictOfH knd d (h++[(k,a,v)])->iK d s.heap r->Q v { s with heap:=r,toks:=s.toks+knd.draws k })
  (D:h.length<=aj):wpAny (model prog w) A (dictSetDefault d (.ref a) v) Q E s:=by
 obtain⟨o,I,G,i,H,g,q,l,t⟩:=C;unfold dictSetDefault
 try with_reducible refine pe ?_
 refine am (knd.pyHash u f ?_);refine am (wpAny_dictFind_heap (s:={ s with toks:=s.toks+knd.draws k }) u f i g q l t ?_ ?_)
 ·intro m;have n:k∉h.map (·.1):=not_mem_keys_of_get m;refine am (pf (am (wpAny_updateDictKeys (hz:=by have e:=size_of_entries q;omega) (s:={ s with toks:=s.toks+knd.draws k }) i g (aV (new (atKey_none_of_get m) _ ⟨_,_,G+1,u8 _ i (Obj.isFreed_of_dict (Obj.data_mapDictKeys g _)),
   H.mapDictKeys _,Obj.data_mapDictKeys g _,?_,?_,?_⟩ (lT ..))))))
  ·simp[q,entryOfKey]
  ·intro x hx;rcases bg.mp hx with hx|hx
   ·exact knd.keeps (l x hx) i g (lT ..)
   ·simp only[dY]at hx;subst hx;exact knd.keeps f i g (lT ..)
  ·rw[ar,cG];refine⟨t,by simp,?_⟩;intro x hx y z;simp only[bx,List.map_nil,dY]at z;subst z;exact fun e=>n (e▸hx)
 ·intro j p B;refine am (uQ (s:={ s with toks:=s.toks+knd.draws k }) i g ?_);rw[entry_at q j,B];exact am (pf (aV (there p (atKey_of_get t B))))
theorem nE(knd:HeapKind prog w K)(d a:Addr)(l:(d==g0)=false)(dflt:Value):
  MeetsIn prog w (cO.«dict.setdefault» ⟨[.ref d,.ref a,dflt],[]⟩) (fun A R s=>knd.room A.in1/\∃k e,knd.is s.heap k a/\s.heap.DictOfH knd d e/\e.length<=aj /\
   (∀p,atKey e k=some p->R (.ok (.ret p.2)) { s with toks:=s.toks+knd.draws k }) /\
   (atKey e k=none->∀f,f.DictOfH knd d (e++[(k,a,dflt)])->iK d s.heap f->R (.ok (.ret dflt)) { s with heap:=f,toks:=s.toks+knd.draws k })) :=
 .of_wp fun A R s ⟨m,k,e,g,j,n,o,q⟩=>by
  unfold cO.«dict.setdefault»;refine am ?_;unfold cO.Dict.keyAndDefault;refine am (wpAny_notOrdered_dict j.typeIs ?_);show wpAny _ _ (pure (d,Value.ref a,some dflt)) _ _ s;refine aV ?_;show wpAny _ _ (if(d==g0)=true then _ else(dictSetDefault d (.ref a) dflt >>= _)) _ _ s
  rw[if_neg (by rw[l];exact gL)];exact am (qO m g j (fun p r=>aV ⟨p.2,rfl,o p r⟩) (fun t f h i=>aV ⟨dflt,rfl,q t f h i⟩) n)
end
section
variable{X:Cx}
def Am:V->List V->Hp->VK->Prop:=fun x vs H Q=>∃(d b:Addr) (kvs:List (TK×V)) (k:TK) (z:V),x=.ref d/\vs=[.ref b,z]/\H d=some (.dT kvs)/\iB H k (.ref b)/\k.depth<=8/\kvs.length<aj /\
 (∀v,cz kvs k=some v->Q v H)/\(cz kvs k=none->Q z (upd H d (.dT (kvs++[(k,z)]))))
theorem BB(D:X.A.units+16<cLine):Gs X "dict.setdefault" Am:=by
 intro J2 s σ H x vs v us Q I E G h;obtain⟨d,b,a,k,z,rfl,rfl,l,q,j,hz,J,L⟩:=h;cases E;obtain⟨u,v,rfl,M,r⟩:=G.two;cases M;obtain⟨_,g,m,f,t⟩:=FB I.hok I.kIn l;have hl:a.length=m.length:=Paired.length f;refine call_meetsIn PySem.F.slot_dict_setdefault t.typeIs PySem.F.entry_dict_setdefault (PySem.F.args_dict_setdefault_3 _ _ _) (nE (eS X.prog X.w) d b g v)
  ⟨hZ D,k,m,y2 I.hok I.kIn (iB.c 8 j q) j,t,by omega,fun p N=>?_,fun O h' n T=>?_⟩
 ·have e:=f.val k;rw[N]at e;cases i:cz a k with
  |none=>rw[i]at e;exact e.elim
  |some y =>
   rw[i]at e;exact⟨y,H,I.tok _,e,J y i⟩
 ·have e:=f.val k;rw[O]at e;have i:cz a k=none:=by
   cases i:cz a k with
   |none=>rfl
   |some y=>rw[i]at e;exact e.elim
  obtain⟨o,U,Y,B,h2,h3,h4,_,h5⟩:=n;refine⟨z,_,qa (ob:=.dT (a++[(k,z)])) I (by rw[l];exact iJ) T ⟨o,B⟩ ⟨by rw[aD,List.length_singleton];omega,g,_,KT.keeps (kvs:=a++[(k,z)]) (xs:=m++[(k,b,v)]) (eX f ⟨rfl,iB.c 8 j q,j,r⟩) fun c ys C=>?_,o,U,Y,B,h2,h3,h4,h5⟩,r,L i⟩;rw[ai (Fu C l (fun z=>nomatch z))];exact C
end
theorem kD:entryFor table "dict.update.loop"=some cO.«dict.update.loop»:=entryFor_of_fast (by kernel_rfl)
theorem fB:plainId "dict.update.loop"=true:=by decide +kernel
theorem vG:typeLookup (.type "list") "keys"=pure none:=am_miss_of_fast (by decide +kernel)
section
variable{prog:bD}{w:World}{A:Around}{E:Zc}{s:Shared}
theorem BD{a:Addr}{o:Obj}{m:Array Value}{k:Nat}{Q:Option Value->Shared->Prop}(hx:s.heap.get? a=some o)(n:o.cls=.type "list")(f:o.data=.seq m k)(p:o.dict=none)(t:A.handled=none)
  (h:∀l tk,(∀b q,s.heap.get? b=some q->l.get? b=some q)->Q none { s with heap:=l,toks:=tk }):wpAny (model prog w) A (getAttr? (.ref a) "keys") Q E s:=by
 obtain⟨c,u,v,x⟩:=o;simp only at n f p;subst n f p;obtain⟨y,g,d,tk,os⟩:=s;have r:∀i,(⟨y,g,d,i,os⟩:Shared).TypeIs (.ref a) "list":=fun _=>⟨_,hx,rfl⟩;have z:=sub_AttributeError;have B:=F.slot_list_getattribute.lookup;have C:=F.slot_list_getattribute.bind (.ref a);have D:=am_list_getattr_none;unfold getAttr? getAttrBy? getAttrBy
 repeat (any_goals (first|assumption|exact r _|((with_reducible show wpAny _ _ (call (Value.builtin "list.__getattribute__") _ _) _ _ _);refine qK F.slot_list_getattribute (r _) am_entry_list_getattribute (F.args_list_getattribute_2 _ _) (meets_getattribute_miss_list a m k x "keys" _ vG (by decide +kernel) (by decide +kernel)) ⟨hx,t,fun l i e j=>?_⟩)|wp_step))
 obtain⟨G,H,I⟩:=j.there;show wpAny _ _ (getattributeRaised _ _ _ _ _ _ _) _ _ _;unfold getattributeRaised hookOrError attributeErrorLeaves
 repeat (any_goals (first|assumption|wp_step))
 all_goals first|exact h _ _ j.keeps|trace_state
def zK(h:Heap)(u:Value)(kv:ca×Value):Prop:=∃t ku,u=.ref t/\h.IsTuple t #[ku,kv.2]/\cS kv.1 ku=true
theorem yB{κ:Type}[DecidableEq κ](a:List (κ×Value))(k:κ)(v:Value):(stored a k v).length<=a.length+1:=by
 unfold stored;split
 ·rw[ak];omega
 ·rw[aD,List.length_singleton];exact aN _
theorem Ck{R:Result->Shared->Prop}(hh:A.handled=none){D it l:Addr}{items:Array Value}{ps:List (ca×Value)}(B:D≠it)(T:l≠it)(U:l≠D)(a8:ps.length=items.size):
  ∀(n i:Nat) (s:Shared) (a:List (ca×Value)),items.size-i=n->i<=items.size->a.length+(items.size-i)<=aj->s.heap.IsListIter it l i->s.heap.IsList l items->s.heap.DictOf (bU prog w) D a ->
   (∀(j:Nat) (u:Value) (N:ca×Value),items[j]?=some u->ps[j]?=some N->zK s.heap u N) ->
   (∀z tk,z.DictOf (bU prog w) D (merged a (ps.drop i))->(∀b o,b≠D->b≠it->s.heap.get? b=some o->z.get? b=some o)->R (.ok (.ret .none)) { s with heap:=z,toks:=tk }) ->
   zzl75 (model prog w) A (.builtin "dict.update.loop" ⟨[.ref D,.ref it,rawInt i,.none],[]⟩) R s:=by
 intro n
 induction n with
 |zero =>
  intro i s a hn hi hz p O Q Y hR;have e:i=items.size:=by omega
  subst e;refine codeAny_builtin kD ?_;rw[Around.under_plainId fB _];show wpAny _ A.in1 (pyNext (.ref it) >>= _) _ _ s;refine am (wpAny_pyNext_list_end hh p O (by simp) fun z eb=>?_);show wpAny _ _ (cO.Dict.addKeywords D [] >>= _) _ _ _;refine am (aV (aV ?_));have C:z.DictOf (bU prog w) D a:=Q.extBut eb B;have q:=hR z s.toks (by rw[uP (by omega)];exact C) fun b o _ hb e=>eb b o hb e;exact q
 |succ n ih =>
  intro i s a hn hi hz p O Q Y hR;have I:i<items.size:=by omega
  refine codeAny_builtin kD ?_;rw[Around.under_plainId fB _];show wpAny _ A.in1 (pyNext (.ref it) >>= _) _ _ s;have hu:items[i]?=some items[i]:=by simp[I]
  have hk:ps[i]?=some ps[i]:=nY (by omega);obtain⟨t,ku,eu,ht,al⟩:=Y i _ _ hu hk;refine am (wpAny_pyNext_list_item p O (x:=items[i]) hu fun h J an=>?_);rw[eu];have m:iK it s.heap h:=an;have nt:t≠it:=by
   rintro rfl;obtain⟨o,G,L,_⟩:=ht;obtain⟨o',f,g,_⟩:=p;rw[G]at f;cases f;rw[L]at g;simp at g
  have M:h.IsTuple t #[ku,ps[i].2]:=ht.extBut m.extBut nt;have ap:Shared.TypeIs { s with heap:=h } (.ref t) "tuple":=M.typeIs (s:={ s with heap:=h });obtain⟨ot,aq,a9,bb,as⟩:=id M;refine am (pe ?_);refine am (wpAny_tryCatch ?_);unfold cO.Dict.pairItems;refine am (wpAny_typeOf ap ?_);rw[if_pos (by decide)];refine am (lC aq as (aV ?_));show wpAny _ _ (j6 [ku,ps[i].2] (dictSet D ku ps[i].2)) _ _ _;have aC:h.DictOf (bU prog w) D a:=Q.extBut m.extBut B;refine pe (wpAny_dictSet_pairs (knd:=bU prog w) (k:=ps[i].1) al aC (fun y aS a0=>?_) (by omega));have v:iK D h y:=a0;show wpAny _ _ (again _) _ _ _;refine aV ⟨plainId_quiet fB _,?_⟩;have a4:h.IsList l items:=O.extBut m.extBut T;have kp:∀b o,b≠D->b≠it->s.heap.get? b=some o->y.get? b=some o:=fun b o h y e=>v.extBut b o h (m.extBut b o y e);refine ih (i+1) _ (stored a ps[i].1 ps[i].2) (by omega) I (by have:=yB a ps[i].1 ps[i].2;omega) (J.extBut v.extBut (ic B)) (a4.extBut v.extBut U) aS (fun j u N h y=>?_) fun z tk C a5=>?_
  ·obtain⟨t2,a6,e2,H,a7⟩:=Y j u N h y;have n1:t2≠it:=by
    rintro rfl;obtain⟨o,G,L,_⟩:=H;obtain⟨o',f,g,_⟩:=p;rw[G]at f;cases f;rw[L]at g;simp at g
   have n2:t2≠D:=by
    rintro rfl;obtain⟨o,G,L,_⟩:=H;obtain⟨o',_,_,f,g,_⟩:=Q;rw[G]at f;cases f;have:=g.1;rw[L]at this;simp at this
   obtain⟨o,G,r⟩:=H;exact⟨t2,a6,e2,⟨o,kp _ o n2 n1 G,r⟩,a7⟩
  ·refine hR z tk ?_ fun b o h y e=>a5 b o h y (kp b o h y e);have ed:ps.drop i=ps[i]::ps.drop (i+1):=qw (by omega);rw[ed];exact C
theorem pQ{l:Addr}{o:Obj}{items:Array Value}{n:Nat}{ps:List (ca×Value)}{Q:Zc}(T:A.handled=none)(U:s.heap.get? l=some o)(J:o.cls=.type "list")(v:o.data=.seq items n)(L:o.dict=none)
  (M:ps.length=items.size) (hp:∀(j:Nat) (u:Value) (H:ca×Value),items[j]?=some u->ps[j]?=some H->zK s.heap u H) (hz:items.size<=aj)
  (h:∀x tk,x.DictOf (bU prog w) s.heap.objs.size (merged [] ps)->(∀b o,s.heap.get? b=some o->x.get? b=some o)->Q (.ref s.heap.objs.size) { s with heap:=x,toks:=tk }) :
  wpAny (model prog w) A (call (.type "dict") [.ref l]) Q E s:=by
 refine callType_codes (Q₁:=fun y m=>y=.ref s.heap.objs.size/\m={ s with heap:=s.heap.push { cls:=.type "dict",data:=.dict #[] } }) F.kt_called_dict (F.kt_typeCall_dict_1 _) F.entry_dict_init (kt_code_dict_new _ ⟨rfl,rfl⟩) ?_;rintro y m ⟨rfl,rfl⟩;have f:(s.heap.push { cls:=.type "dict",data:=.dict #[] }).DictOf (bU prog w) s.heap.objs.size []:=Heap.DictOf.new s.heap;have p:(s.heap.push { cls:=.type "dict",data:=.dict #[] }).get? l=some o:=bu _ U;have z:l<s.heap.objs.size:=ba U;refine⟨f.typeIs,F.args_dict_init_2 _ _,?_⟩;unfold cO.«dict.__init__»;refine am ?_;unfold cO.Dict.selfAndRest;refine am (wpAny_notOrdered_dict f.typeIs ?_);show wpAny _ _ (pure (s.heap.objs.size,[Value.ref l])) _ _ _;refine aV ?_;show wpAny _ _ (cO.Dict.updateFrom "dict.__init__" s.heap.objs.size (.ref l) [] .none) _ _ _;unfold cO.Dict.updateFrom;have N:Shared.TypeIs { s with heap:=s.heap.push { cls:=.type "dict",data:=.dict #[] } } (.ref l) "list":=⟨o,p,J⟩;refine am (wpAny_typeOf N ?_);rw[if_pos (by decide)];refine am (BD p J v L T fun q O k1=>?_);have k:∀b I,(s.heap.push { cls:=.type "dict",data:=.dict #[] }).get? b=some I->q.get? b=some I:=k1;rw[if_pos (by rfl:(none:Option Value).isNone=true)];refine am (pf ?_);have B:q.IsList l items:=⟨o,k _ _ p,J,n,v⟩;refine am (z9 (s:={ s with heap:=q,toks:=O }) B ?_);have C:q.DictOf (bU prog w) s.heap.objs.size []:=by
  obtain⟨Y,es,ep,g,r⟩:=f;exact⟨Y,es,ep,k _ _ g,r⟩
 have i:s.heap.objs.size<q.objs.size:=by
  obtain⟨Y,es,ep,g,r⟩:=C;exact ba g
 refine aV ⟨plainId_quiet fB _,?_⟩;refine Ck (A:=A.in1) (prog:=prog) (w:=w) T (D:=s.heap.objs.size) (it:=q.objs.size) (l:=l) (items:=items) (ps:=ps) (cY i) (cY (Nat.lt_trans z i)) (cY z) M items.size 0 _ [] (Nat.sub_zero _) (c9 _) (by rw[u7];omega)
  ⟨_,c_ _ rfl,rfl,rfl⟩ (B.push _) (C.push _) (fun j u H a b=>?_) fun x tk G kp=>?_
 ·obtain⟨t,ku,e,ht,hk⟩:=hp j u H a b;obtain⟨ot,g,r⟩:=ht;exact⟨t,ku,e,⟨ot,bu _ (k _ _ (bu _ g)),r⟩,hk⟩
 ·rw[qz]at G;refine⟨rfl,h x tk G fun b I e=>kp b I (cY (ba e)) (cY (Nat.lt_trans (ba e) i)) (bu _ (k _ _ (bu _ e)))⟩
end
section
variable{X:Cx}
theorem v6(hc:X.calm=true):fM X (.type "dict") (fun Y H Q=>∃(l:Addr) (k:Ze) (f:List (ca×V)),Y=[.ref l]/\ax X.K H l (k.map V.ref)/\k.length=f.length /\
  (∀(j:Nat) (t:Addr) (g:ca×V),k[j]?=some t->f[j]?=some g->H t=some (.tup [kV g.1,g.2]))/\∀p,H p=none->Q (.ref p) (upd H p (.dK (eM [] f)))):=by
 intro J2 s σ H Y us Q I r h;obtain⟨l,k,f,rfl,v,z,D,q⟩:=h;obtain⟨u,rfl,ru⟩:=vals1 r;cases ru;obtain⟨E,rv,⟨o,n,ho,G,J,L⟩,M⟩:=I.list v;have N:∀(k:Ze) (f:List (ca×V)),k.length=f.length->(∀(j:Nat) (t:Addr) (g:ca×V),k[j]?=some t->f[j]?=some g->H t=some (.tup [kV g.1,g.2]))->∃y:List (ca×Value),KV f y/\∀(j:Nat) (t:Addr) (g:ca×Value),k[j]?=some t->y[j]?=some g->zK s.heap (.ref t) g:=by
  intro k
  induction k with
  |nil =>
   intro f v _;cases f with
   |nil=>exact⟨[],.nil,fun j t g e=>by simp at e⟩
   |cons _ _=>cases v
  |cons t k ih =>
   intro f v D;cases f with
   |nil=>cases v
   |cons g f =>
    obtain⟨y,O,r2⟩:=ih f (by simpa using v) fun j T m a b=>D (j+1) T m (by simpa using a) (by simpa using b);obtain⟨_,al,rt,p⟩:=(show cj X.prog X.w X.K H s.heap t (.tup [kV g.1,g.2])from I.hok t _ (D 0 t g rfl rfl));obtain⟨a,b,e,ra,rb⟩:=rt.two;subst e;refine⟨(g.1,b)::y,.cons ⟨rfl,rb⟩ O,fun j T m A U=>?_⟩;cases j with
    |zero =>
     simp at A U;subst A U;exact⟨t,a,rfl,p,nG (P:=X.prog) (w:=X.w) ra⟩
    |succ j=>exact r2 j T m (by simpa using A) (by simpa using U)
 obtain⟨y,B,pa⟩:=N k f z D;have C:=rv.length;rw[ak]at C;have an:=B.length;refine pQ (prog:=X.prog) (w:=X.w) (ps:=y) (I.ok.hd hc) ho G L J (by rw[bX];omega) (fun j u g a b=>?_) (by rw[bX,<-C];rw[ak]at M;exact M) fun h' tk hD kp=>?_
 ·have a':E[j]?=some u:=by simpa using a
  have hj:j<k.length:=by
   have:=(cE.mp a').1;omega
  obtain⟨u',e1,O⟩:=rv.get (i:=j) (x:=V.ref k[j]) (by simp[hj]);rw[a']at e1;cases e1;cases(show u=Value.ref k[j]from O);exact pa j k[j] g (by simp[hj]) b
 ·have hm:(eM [] f).length<=aj:=by
   have A:=i9 f [];rw[u7]at A;rw[ak]at M;omega
  exact⟨.ref s.heap.objs.size,_,I.laid (o:=.dK (eM [] f)) kp (aN _) (zv hm (beq_eq_false_iff_ne.mpr (ic (cY I.big))) (B.merge .nil) hD),rfl,q _ I.fresh⟩
end
abbrev fq:R2:=Ca fun i j=>.int (i+j)
abbrev ki:R2:=rI DR fun i j=>.int (i * j)
abbrev iT:R2:=rI (fun _ j=>0<j) fun i j=>.int (i % j)
abbrev CY:R2:=rI GW fun i j=>.int (i / j)
abbrev Fk:R2:=rI GV fun i j=>.int (i ^ j.toNat)
abbrev Es:R2:=Ca fun i j=>.bl (decide (i<j))
abbrev rLeI:R2:=Ca fun i j=>.bl (decide (i<=j))
abbrev Bv:R2:=Ca fun i j=>.bl (decide (j<i))
abbrev rGeI:R2:=Ca fun i j=>.bl (decide (j<=i))
abbrev Fo:R2:=fun x y H Q=>∃i j,x=.str i/\y=.str j/\i.length+j.length<=aj/\Q (.str (i++j)) H
abbrev rInS:R2:=fun x y H Q=>∃c j,x=.str ⟨#[c]⟩/\y=.str j/\Q (.bl (decide (c∈j.cps.toList))) H
abbrev rSlA(K:Za):V->Option Int->Option Int->Hp->VK->Prop:=fun x lo hi H Q=>tG K x lo hi H Q∨Bt x lo hi H Q
abbrev oF(K:Za):List V->Hp->VK->Prop:=fun xs H Q=>∃x c t b,xs=[x,.ty c]/\Gf K H x t/\zY K t (.type c)=some b/\Q (.bl b) H
abbrev Eu(K:Za):List V->Hp->VK->Prop:=fun xs H Q=>∃(p:Addr) (bs:List Bool),xs=[.ref p]/\ax K H p (bs.map V.bl)/\Q (.bl (bs.all id)) H
abbrev Al(K:Za):List V->Hp->VK->Prop:=fun xs H Q=>∃p ys,xs=[.ref p]/\((ax K H p ys/\∀l,H l=none->Q (.ref l) (upd H l (.tup ys)))∨(bc K H p ys/\Q (.ref p) H))
abbrev Et(K:Za):List V->Hp->VK->Prop:=fun xs H Q=>∃(l:Addr) (ts:Ze) (kvs:List (ca×V)),xs=[.ref l]/\ax K H l (ts.map V.ref)/\ts.length=kvs.length /\
  (∀(j:Nat) (t:Addr) (kv:ca×V),ts[j]?=some t->kvs[j]?=some kv->H t=some (.tup [kV kv.1,kv.2]))/\∀p,H p=none->Q (.ref p) (upd H p (.dK (eM [] kvs)))
abbrev cW(K:Za):List V->Hp->VK->Prop:=fun xs H Q =>
 (∃p ys,xs=[.ref p]/\(ax K H p ys∨bc K H p ys)/\∀l,H l=none->Q (.ref l) (upd H l (.lst ys))) ∨
 (∃(d:Addr) (kvs:List (ca×V)),xs=[.ref d]/\Rd H d (.dK kvs)/\∀l,H l=none->Q (.ref l) (upd H l (.lst (kvs.map fun kv=>kV kv.1))))
abbrev gf(K:Za):List V->Hp->VK->Prop:=fun xs H Q =>
 (∃p ys,xs=[.ref p]/\(ax K H p ys∨bc K H p ys)/\Q (.int ys.length) H)∨(∃z,xs=[.str z]/\z.length<=aj/\Q (.int z.length) H)
theorem dq:iL "isinstance"=some (.builtin "isinstance"):=by decide +kernel
theorem mB:iL "list"=some (.type "list"):=by decide +kernel
theorem gK:iL "tuple"=some (.type "tuple"):=by decide +kernel
theorem zG:iL "dict"=some (.type "dict"):=by decide +kernel
theorem zH:iL "bool"=some (.type "bool"):=by decide +kernel
theorem BZ:iL "int"=some (.type "int"):=by decide +kernel
theorem BY:iL "str"=some (.type "str"):=by decide +kernel
section
variable{X:Cx}{p pos:Pos}
theorem uB:fM X (.builtin "len") (gf X.K):=v5.or v4
theorem zE(a:X.calm=true):fM X (.type "list") (cW X.K):=vZ.or (sB a)
theorem mq(a:Gl X "bool")(e:X.mg "bool"=none):PE X (.Name "bool" pos) (tC (.ty "bool")):=nC a e zH rfl
theorem uj(a:Gl X "int")(e:X.mg "int"=none):PE X (.Name "int" pos) (tC (.ty "int")):=nC a e BZ rfl
theorem ui(a:Gl X "str")(e:X.mg "str"=none):PE X (.Name "str" pos) (tC (.ty "str")):=nC a e BY rfl
theorem mo(a:Gl X "list")(e:X.mg "list"=none):PE X (.Name "list" pos) (tC (.ty "list")):=nC a e mB rfl
theorem ko(a:Gl X "tuple")(e:X.mg "tuple"=none):PE X (.Name "tuple" pos) (tC (.ty "tuple")):=nC a e gK rfl
end
def Gc(mg:Str->Option Value)(x:Str)(v:V):Prop:=∃u,mg x=some u/\RelV v u
theorem iq{X:Cx}{x:Str}{v:V}{a:Pos}(e:Gl X x)(h:Gc X.mg x v)(f:(x==("__debug__":Str))=false:=by decide):PE X (.Name x a) (tC v):=by
 obtain⟨u,g,r⟩:=h;exact EB e g r f
structure Def(P:bD)(w:World)(K:Za)(mg:Str->Option Value)(base:Heap)(x:Str)(ps:Zb)(k:Nat)(sp:Sp):Prop where
 ex:∃f fd,lB P w K mg base CX0 k f fd ps sp/\mg x=some (.ref f)/\jg K (.ref f)=true/\Binds K fd ps []
structure New(P:bD)(w:World)(K:Za)(mg:Str->Option Value)(base:Heap)(x:Str)(C:Addr)(ps:Zb)(k:Nat)(sp:Sp):Prop where
 ex:∃f fd,lB P w K mg base CX0 k f fd ps sp/\mg x=some (.ref C)/\Mk K C f/\Binds K fd ps []
structure Ce(P:bD)(w:World)(K:Za)(mg:Str->Option Value)(base:Heap)(C:Addr)(m:Str)(ps:Zb)(k:Nat)(sp:Sp):Prop where
 ex:∃f fd,lB P w K mg base CX0 k f fd ps sp/\B9 K C/\Fb K C m f/\Binds K fd ps []
section
variable{X:Cx}{k:Nat}{ps:Zb}{sp:Sp}{x m:Str}{C:Addr}{p pos J4:Pos}{o e:Expr}{es:List Expr}{t:TA}{ta:TE}
theorem Ft(D:Def X.prog X.w X.K X.mg X.base x ps k sp)(h:eN k X.A)(i:Gl X x)(j:PA X (e::es) t)(a:(x==("__debug__":Str))=false:=by decide)
  (l:aI (e::es) X.env=(false,eval e X.env)::aI es X.env:=by rfl) (g:(backTo pos (aI es X.env)).any (·.1)=false:=by rfl) :
  PE X (.Call (.Name x p) (e::es) [] pos) (aQ sp t):=by
 obtain⟨f,s,F,n,q,r⟩:=D.ex;exact EE F h i n q r .nil At j a l g
theorem C2(D:New X.prog X.w X.K X.mg X.base x C ps k sp)(h:eN (k+1) X.A)(i:Gl X x)(j:PA X (e::es) t)(a:(x==("__debug__":Str))=false:=by decide)
  (l:aI (e::es) X.env=(false,eval e X.env)::aI es X.env:=by rfl) (g:(backTo pos (aI es X.env)).any (·.1)=false:=by rfl) :
  PE X (.Call (.Name x p) (e::es) [] pos) (Aj C sp [] E0 t):=by
 obtain⟨f,r,F,n,M,q⟩:=D.ex;exact EA M F h i n q .nil At j a l g
theorem FW{pl:Sem Bool}(M:Ce X.prog X.w X.K X.mg X.base C m ps k sp)(i:eN k X.A)(j:PE X o ta)(l:PA X (e::es) t)
  (a:aI (e::es) X.env=(false,eval e X.env)::aI es X.env:=by rfl) (g:(backTo pos (aI es X.env)).any (·.1)=false:=by rfl)
  (n:eval (.Call (.Attribute o m J4) (e::es) [] pos) X.env=(do
   let h <- eval o X.env
   pb J4.atName
   let(f,first) <- j6 [h] (o9 h m pl)
   tT pos f first (backTo pos (aI (e::es) X.env)) (o7 pos (o6 [] X.env))):=by rfl) :
  PE X (.Call (.Attribute o m J4) (e::es) [] pos) (fk C m sp [] E0 ta t):=by
 obtain⟨f,s,F,c,q,r⟩:=M.ex;exact Ez j c q F i r .nil At l a g n
theorem Ey{pl:Sem Bool}(M:Ce X.prog X.w X.K X.mg X.base C m ps k sp)(g:eN k X.A)(h:PE X o ta)
  (i:eval (.Call (.Attribute o m J4) [] [] pos) X.env=(do
   let a <- eval o X.env
   pb J4.atName
   let(f,first) <- j6 [a] (o9 a m pl)
   tT pos f first (backTo pos (aI [] X.env)) (o7 pos (o6 [] X.env))):=by rfl) :
  PE X (.Call (.Attribute o m J4) [] [] pos) (fk C m sp [] E0 ta bR):=by
 obtain⟨f,n,F,c,j,l⟩:=M.ex;exact C3 h c j F g l .nil At i
end
def GH(K:Za)(tl:TE):TI:=fun σ H R=>tl σ H fun x H1=>∃a,x=.ref a/\(((∃xs,ax K H1 a xs)/\R (DX K a) H1)∨((∃xs,bc K H1 a xs)/\R (Gk K a) H1))
theorem FT{X:Cx}{u l:Expr}{r:TE}(w:PE X l r):PI X u l (GH X.K r):=by
 intro t s σ H R I h;refine cA (w t s σ H _ I h) fun v f j=>?_;obtain⟨x,k,g,y,z⟩:=j;obtain⟨a,e,q⟩:=z;subst e;cases y;have i:∀b∈[f.heap.objs.size],mL X t k b:=fun b A=>by
  have e:b=f.heap.objs.size:=by simpa using A
  subst e;exact g.fpOk (aN _) (g.hok.fresh (aN _))
 rcases q with⟨⟨B,m⟩,q⟩|⟨⟨B,m⟩,q⟩
 ·obtain⟨n,C,p,D⟩:=g.list m;refine z9 p.isList ?_;exact⟨f.heap.objs.size,[f.heap.objs.size],_,_,k,rfl,g.kept (t':=f.toks) fun b o e=>bu _ e,t7 a _,⟨_,c_ _ rfl,rfl,rfl⟩,i,q⟩
 ·obtain⟨n,C,p,D⟩:=g.tuple m;refine z8 p ?_;exact⟨f.heap.objs.size,[f.heap.objs.size],_,_,k,rfl,g.kept (t':=f.toks) fun b o e=>bu _ e,qQ a _,⟨_,c_ _ rfl,rfl,rfl⟩,i,q⟩
theorem iz{K:Za}{a:Addr}{xs:List V}{g:TG}{k:TS}{D:pW}{σ:St}{H:Hp}(Pv:Nat->St->Hp->Prop)(n:Pv 0 σ H)(o:∀i σ H,i<=xs.length->Pv i σ H->ax K H a xs)
  (r:∀i x σ H p,xs[i]?=some x->Pv i σ H->H p=none->g (.ref p) σ (upd H p (.tup [.int i,x])) fun σ2 j=>k { D with nx:=Pv (i+1),ct:=Pv (i+1),bk:=D.nx } σ2 j) (s:∀σ H,Pv xs.length σ H->D.nx σ H) :
  ∃W:Nat->Nat->St->Hp->Prop,(∃m,W 0 m σ H)/\∀i m σ H,W i m σ H ->
   ((GR K a).stop i H/\D.nx σ H)∨((GR K a).go i H/\∃N:St->Hp->Prop,(∀σ' f,N σ' f->∃l,l<m/\W (i+1) l σ' f)/\∀x f,(GR K a).yld i H x f->g x σ f fun σ2 j=>k { D with nx:=N,ct:=N,bk:=D.nx } σ2 j):=by
 refine⟨fun i m σ H=>m=xs.length-i/\i<=xs.length/\Pv i σ H,⟨xs.length,by simp,c9 _,n⟩,?_⟩;rintro i m σ H ⟨rfl,hi,p⟩;have q:=o i σ H hi p;by_cases h:i<xs.length
 ·refine .inr ⟨⟨xs,xs[i],q,by simp[h]⟩,Pv (i+1),fun σ' f u=>⟨xs.length-(i+1),by omega,rfl,h,u⟩,fun x f y=>?_⟩;obtain⟨t,v,rfl,w,z,rfl⟩:=y;exact r i v σ H t (z xs q) p w
 ·have e:i=xs.length:=by omega
  subst e;exact .inl ⟨⟨xs,q,aN _⟩,s σ H p⟩
def Wc(n:Nat)(Pv:Nat->List V->Hp->Prop):Nat->Nat->List V->Hp->Prop:=fun i m vs H=>m=n-i/\i<=n/\Pv i vs H
theorem kq{n i:Nat}{Pv:Nat->List V->Hp->Prop}{a:List V}{H:Hp}(hi:i<n)(p:Pv (i+1) a H):∃e,e<n-i/\Wc n Pv (i+1) e a H:=⟨n-(i+1),by omega,rfl,hi,p⟩
abbrev ej(k:Nat)(fi:List Nat)(σ:St)(J:It)(g:TG)(tc:TT)(te:TE)(H1:Hp)(l:Addr)(Q:Hp->Prop):Prop :=
 ∃W:Nat->Nat->List V->Hp->Prop,(∃m,W 0 m [] (upd H1 l (.lst [])))/\∀i m vs H2,W i m vs H2->H2 l=some (.lst vs) /\
  ((J.stop i H2/\Q H2)∨(J.go i H2/\∀x H3,J.yld i H2 x H3->g x (dz k fi σ) H3 fun σ2 H4=>tc σ2 H4 fun b H5 =>
   if b=true then te σ2 H5 fun v H6=>H6 l=some (.lst vs)/\vs.length<aj/\∃m',m'<m/\W (i+1) m' (vs++[v]) (upd H6 l (.lst (vs++[v])))else ∃m',m'<m/\W (i+1) m' vs H5))
theorem jy{k:Nat}{r:List Nat}{J:It}{g:TG}{s:TT}{t:TE}{σ:St}{u:Hp}{Q:Hp->Prop}{l:Addr}(n:Nat)(Pv:Nat->List V->Hp->Prop)(A:Pv 0 [] (upd u l (.lst [])))
  (B:∀i a H,i<=n->Pv i a H->H l=some (.lst a)) (o:∀i a H,i<n->Pv i a H->J.go i H) (q:∀a H,Pv n a H->J.stop n H/\Q H)
  (C:∀i a H x j,i<n->Pv i a H->J.yld i H x j->g x (dz k r σ) j fun σ2 D=>s σ2 D fun b w =>
   if b=true then t σ2 w fun v z=>z l=some (.lst a)/\a.length<aj/\∃f,f<n-i/\Wc n Pv (i+1) f (a++[v]) (upd z l (.lst (a++[v])))else ∃f,f<n-i/\Wc n Pv (i+1) f a w) :
  ej k r σ J g s t u l Q:=by
 refine⟨Wc n Pv,⟨n,by simp[Wc],c9 _,A⟩,?_⟩;rintro i m a H ⟨rfl,hi,p⟩;refine⟨B i a H hi p,?_⟩;by_cases h:i<n
 ·exact .inr ⟨o i a H h p,fun x j y=>C i a H x j h p y⟩
 ·have e:i=n:=by omega
  subst e;exact .inl (q a H p)
section
variable{K:Za}{k:Nat}{fi:List Nat}{g:TG}{tc:TT}{te:TE}{σ:St}{H1:Hp}{Q:Hp->Prop}{l:Addr}
theorem bP{a:Addr}{xs:List V}(Pv:Nat->List V->Hp->Prop)(n:Pv 0 [] (upd H1 l (.lst [])))
  (h:∀i e H,i<=xs.length->Pv i e H->H l=some (.lst e)/\ax K H a xs) (o:∀e H,Pv xs.length e H->Q H)
  (q:∀i e H x,xs[i]?=some x->i<xs.length->Pv i e H->g x (dz k fi σ) H fun σ2 r=>tc σ2 r fun b j =>
   if b=true then te σ2 j fun v m=>m l=some (.lst e)/\e.length<aj/\∃f,f<xs.length-i/\Wc xs.length Pv (i+1) f (e++[v]) (upd m l (.lst (e++[v])))else ∃f,f<xs.length-i/\Wc xs.length Pv (i+1) f e j) :
  ej k fi σ (DX K a) g tc te H1 l Q:=by
 refine jy xs.length Pv n (fun i e H hi p=>(h i e H hi p).1) (fun i e H hi p=>⟨xs,xs[i],(h i e H (fj hi) p).2,by simp[hi]⟩) (fun e H p=>⟨⟨xs,(h _ e H (aN _) p).2,aN _⟩,o e H p⟩) fun i e H x s hi p y=>?_;obtain⟨rfl,y⟩:=y;exact q i e _ x (y xs (h i e _ (fj hi) p).2) hi p
theorem xG{a:Addr}{xs:List V}(Pv:Nat->List V->Hp->Prop)(n:Pv 0 [] (upd H1 l (.lst [])))
  (h:∀i e H,i<=xs.length->Pv i e H->H l=some (.lst e)/\bc K H a xs) (o:∀e H,Pv xs.length e H->Q H)
  (q:∀i e H x,xs[i]?=some x->i<xs.length->Pv i e H->g x (dz k fi σ) H fun σ2 r=>tc σ2 r fun b j =>
   if b=true then te σ2 j fun v m=>m l=some (.lst e)/\e.length<aj/\∃f,f<xs.length-i/\Wc xs.length Pv (i+1) f (e++[v]) (upd m l (.lst (e++[v])))else ∃f,f<xs.length-i/\Wc xs.length Pv (i+1) f e j) :
  ej k fi σ (Gk K a) g tc te H1 l Q:=by
 refine jy xs.length Pv n (fun i e H hi p=>(h i e H hi p).1) (fun i e H hi p=>⟨xs,xs[i],(h i e H (fj hi) p).2,by simp[hi]⟩) (fun e H p=>⟨⟨xs,(h _ e H (aN _) p).2,aN _⟩,o e H p⟩) fun i e H x s hi p y=>?_;obtain⟨rfl,y⟩:=y;exact q i e _ x (y xs (h i e _ (fj hi) p).2) hi p
theorem zA{lo:Int}{n:Nat}(Pv:Nat->List V->Hp->Prop)(j:Pv 0 [] (upd H1 l (.lst [])))
  (m:∀i a H,i<=n->Pv i a H->H l=some (.lst a)) (o:∀a H,Pv n a H->Q H)
  (q:∀i a H,i<n->Pv i a H->g (.int (lo+i)) (dz k fi σ) H fun σ2 r=>tc σ2 r fun b f =>
   if b=true then te σ2 f fun v h=>h l=some (.lst a)/\a.length<aj/\∃e,e<n-i/\Wc n Pv (i+1) e (a++[v]) (upd h l (.lst (a++[v])))else ∃e,e<n-i/\Wc n Pv (i+1) e a f) :
  ej k fi σ (Gm lo n) g tc te H1 l Q:=by
 refine jy n Pv j m (fun i a H hi p=>hi) (fun a H p=>⟨aN _,o a H p⟩) fun i a H x s hi p y=>?_;obtain⟨rfl,rfl⟩:=y;exact q i a _ hi p
theorem DB{x:Str}(Pv:Nat->List V->Hp->Prop)(j:Pv 0 [] (upd H1 l (.lst [])))
  (m:∀i a H,i<=x.cps.size->Pv i a H->H l=some (.lst a)) (n:∀a H,Pv x.cps.size a H->Q H)
  (o:∀i a H c,x.cps[i]?=some c->i<x.cps.size->Pv i a H->g (.str ⟨#[c]⟩) (dz k fi σ) H fun σ2 q=>tc σ2 q fun b f =>
   if b=true then te σ2 f fun v h=>h l=some (.lst a)/\a.length<aj/\∃e,e<x.cps.size-i/\Wc x.cps.size Pv (i+1) e (a++[v]) (upd h l (.lst (a++[v])))else ∃e,e<x.cps.size-i/\Wc x.cps.size Pv (i+1) e a f) :
  ej k fi σ (Hg x) g tc te H1 l Q:=by
 refine jy x.cps.size Pv j m (fun i a H hi p=>hi) (fun a H p=>⟨aN _,n a H p⟩) fun i a H y t hi p r=>?_;obtain⟨rfl,c,s,rfl⟩:=r;exact o i a _ c s hi p
end
theorem gN{j:Nat}{x:V}{σ:St}{H:Hp}{Q:St->Hp->Prop}(h:Q (σ.set j (some x)) H):dU j x σ H Q:=h
theorem u_{σ:St}{H:Hp}{A B:Hp->Prop}(h:A H):ka σ H (fun b a=>if b=true then A a else B a):=by
 show(if(true:Bool)=true then A H else B H)
 exact h
inductive DW{T0 T1:Type}(P:T0->T1->Prop):Prop
 |mk (x0:T0) (x1:T1):P x0 x1->DW P
inductive He{T0 T1 T2:Type}(P:T0->T1->T2->Prop):Prop
 |mk (x0:T0) (x1:T1) (x2:T2):P x0 x1 x2->He P
inductive Gi{T0 T1 T2 T3:Type}(P:T0->T1->T2->T3->Prop):Prop
 |mk (x0:T0) (x1:T1) (x2:T2) (x3:T3):P x0 x1 x2 x3->Gi P
inductive NE5{T0 T1 T2 T3 T4:Type}(P:T0->T1->T2->T3->T4->Prop):Prop
 |mk (x0:T0) (x1:T1) (x2:T2) (x3:T3) (x4:T4):P x0 x1 x2 x3 x4->NE5 P
inductive Gj(p0 p1 p2:Prop):Prop
 |mk:p0->p1->p2->Gj p0 p1 p2
inductive GP(p0 p1 p2 p3:Prop):Prop
 |mk:p0->p1->p2->p3->GP p0 p1 p2 p3
inductive Gr(p0 p1 p2 p3 p4:Prop):Prop
 |mk:p0->p1->p2->p3->p4->Gr p0 p1 p2 p3 p4
inductive Gq(p0 p1 p2 p3 p4 p5:Prop):Prop
 |mk:p0->p1->p2->p3->p4->p5->Gq p0 p1 p2 p3 p4 p5
end L2
namespace L2
open PySem PySem.W
end L2
end

section
set_option Elab.async false
set_option linter.all false
set_option maxRecDepth 100000
namespace L2
open PySem PySem.Spec PyProof.Rows PySem.W
def Ff:Expr->List Str
 |.Name x _=>[x]
 |.Tuple es _ _=>es.filterMap fun e=>match e with | .Name x _=>some x|_=>none
 |_=>[]
theorem bK{X:Cx}{b:List Stmt}{t:TS}{D:pW}{σ:St}{H:Hp}(r:t D σ H)(p:xW X b t):∃t,xW X b t/\t D σ H:=⟨t,p,r⟩
section
variable{X:Cx}{k k0:Nat}{ps:Zb}{sp:Sp}{x m:Str}{C:Addr}{p pos J4:Pos}{o e a b:Expr}{es:List Expr}{t:TA}{ta tb te:TE}
theorem qf(h:eN k0 X.A)(D:Def X.prog X.w X.K X.mg X.base x ps k sp)(i:PA X (e::es) t)(j:k<=k0:=by decide)(l:Gl X x:=by rfl)(f:(x==("__debug__":Str))=false:=by decide)
  (n:aI (e::es) X.env=(false,eval e X.env)::aI es X.env:=by rfl) (g:(backTo pos (aI es X.env)).any (·.1)=false:=by rfl) :
  PE X (.Call (.Name x p) (e::es) [] pos) (aQ sp t):=Ft D (h.mono j) l i f n g
theorem qm{pl:Sem Bool}(j:eN k0 X.A)(M:Ce X.prog X.w X.K X.mg X.base C m ps k sp)(l:PE X o ta)(n:PA X (e::es) t)(q:k<=k0:=by decide)
  (g:aI (e::es) X.env=(false,eval e X.env)::aI es X.env:=by rfl) (h:(backTo pos (aI es X.env)).any (·.1)=false:=by rfl)
  (r:eval (.Call (.Attribute o m J4) (e::es) [] pos) X.env=(do
   let i <- eval o X.env
   pb J4.atName
   let(f,first) <- j6 [i] (o9 i m pl)
   tT pos f first (backTo pos (aI (e::es) X.env)) (o7 pos (o6 [] X.env))):=by rfl) :
  PE X (.Call (.Attribute o m J4) (e::es) [] pos) (fk C m sp [] E0 ta t):=FW (pl:=pl) M (j.mono q) l n g h r
theorem Fq{pl:Sem Bool}(h:eN k0 X.A)(M:Ce X.prog X.w X.K X.mg X.base C m ps k sp)(i:PE X o ta)(j:k<=k0:=by decide)
  (l:eval (.Call (.Attribute o m J4) [] [] pos) X.env=(do
   let g <- eval o X.env
   pb J4.atName
   let(f,first) <- j6 [g] (o9 g m pl)
   tT pos f first (backTo pos (aI [] X.env)) (o7 pos (o6 [] X.env))):=by rfl) :
  PE X (.Call (.Attribute o m J4) [] [] pos) (fk C m sp [] E0 ta bR):=Ey (pl:=pl) M (h.mono j) i l
theorem xl(f:PE X a ta)(g:PE X b tb)(h:B4 b:=by exact fun _ _=>rfl):PE X (.Subscript a b pos) (aB (d_ X.K) ta tb):=Ar AA f g h
theorem xt(f:PE X a ta)(g:PE X b tb)(h:B4 b:=by exact fun _ _=>rfl):PE X (.Subscript a b pos) (aB (eJ X.K) ta tb):=Ar Di f g h
theorem xq(f:PE X a ta)(g:PE X b tb)(h:B4 b:=by exact fun _ _=>rfl):PE X (.Subscript a b pos) (aB (mP X.K) ta tb):=Ar F0 f g h
theorem xs'(f:PE X a ta)(g:PE X b tb)(h:B4 b:=by exact fun _ _=>rfl):PE X (.Subscript a b pos) (aB CW ta tb):=Ar Dj f g h
theorem iM{f:CmpOp}{r:R2}(g:lM X (dO f) r)(h:PE X a ta)(i:PE X b tb)(j:jV f b=false:=by exact C9 _):PT X (.Compare a [f] [b] pos) (aP (aB r ta tb)):=Ap g h i j
theorem Dr{f:CmpOp}{r:R2}(g:lM X (dO f) r)(h:PE X a ta)(i:PE X b tb)(j:jV f b=false:=by exact C9 _):PE X (.Compare a [f] [b] pos) (aB r ta tb):=As g h i j
theorem wB{f:CmpOp}{r:R2}(g:lM X (dO f) r)(h:PE X a ta)(i:PE X b tb)(j:jV f b=false:=by with_unfolding_all rfl):PT X (.Compare a [f] [b] pos) (aP (aB r ta tb)):=Ap g h i j
theorem eci{f:CmpOp}{r:R2}(g:lM X (dO f) r)(h:PE X a ta)(i:PE X b tb)(j:jV f b=false:=by with_unfolding_all rfl):PE X (.Compare a [f] [b] pos) (aB r ta tb):=As g h i j
theorem qB{id:String}{r:List V->Hp->VK->Prop}(h:fM X (.builtin id) r)(i:X.mg x=none)(j:iL x=some (.builtin id))(l:PA X (e::es) t)(n:Gl X x:=by rfl)(q:x≠"__name__":=by decide)(f:(x==("__debug__":Str))=false:=by decide)
  (s:aI (e::es) X.env=(false,eval e X.env)::aI es X.env:=by rfl) (g:(backTo pos (aI es X.env)).any (·.1)=false:=by rfl):PE X (.Call (.Name x p) (e::es) [] pos) (dW r t):=xc h n i j l q f s g
theorem qL(g:X.calm=true)(h:X.mg "list"=none)(i:PA X (e::es) t)(j:Gl X "list":=by rfl)
  (l:aI (e::es) X.env=(false,eval e X.env)::aI es X.env:=by rfl) (f:(backTo pos (aI es X.env)).any (·.1)=false:=by rfl):PE X (.Call (.Name "list" p) (e::es) [] pos) (dW (cW X.K) t):=gk (zE g) j h mB i (by decide) (by decide) l f
theorem ql(g:X.mg "len"=none)(h:PA X (e::es) t)(i:Gl X "len":=by rfl)
  (j:aI (e::es) X.env=(false,eval e X.env)::aI es X.env:=by rfl) (f:(backTo pos (aI es X.env)).any (·.1)=false:=by rfl):PE X (.Call (.Name "len" p) (e::es) [] pos) (dW (gf X.K) t):=xc uB i g PySem.boot_len h (by decide) (by decide) j f
theorem qs(i:Nat){f:Pos}(g:X.N.Nodup)(h:PE X e te)(hi:X.N[i]?=some x:=by rfl)(hx:Loc X.env.scope x:=by first|exact Or.inl rfl|exact Or.inr rfl)(j:qj e (some (.Name x f)) pos.line X.env=pure false:=by rfl)(hf:X.fn x=true∨X.env.scope.names.lookup x=some .local:=by first|exact .inl rfl|exact .inr rfl|assumption):
  PS X (.Assign [.Name x f] e pos) (aG te (dU i)):=FR g hi hx h j hf
theorem gn(i:Nat)(f:X.N.Nodup)(hi:X.N[i]?=some x:=by rfl)(hx:Loc X.env.scope x:=by first|exact Or.inl rfl|exact Or.inr rfl)(hf:X.fn x=true∨X.env.scope.names.lookup x=some .local:=by first|exact .inl rfl|exact .inr rfl|assumption):PG X (.Name x pos) (dU i):=Aq f hi hx hf
theorem gc(i:Nat)(f:X.N.Nodup:=by exact of_decide_eq_true (by with_unfolding_all rfl))(hi:X.N[i]?=some x:=by rfl)(hx:Loc X.env.scope x:=by exact Or.inl rfl)(hf:X.fn x=true∨X.env.scope.names.lookup x=some .local:=by first|exact .inl rfl|exact .inr rfl|assumption):PG X (.Name x pos) (dU i):=Aq f hi hx hf
theorem a1(f:PE X a ta)(g:aI [a] X.env=(false,eval a X.env)::aI [] X.env:=by rfl):PA X [a] (aJ ta bR):=cu f ck g
theorem a2(g:PE X a ta)(h:PE X b tb)(i:aI [a,b] X.env=(false,eval a X.env)::aI [b] X.env:=by rfl)(f:aI [b] X.env=(false,eval b X.env)::aI [] X.env:=by rfl):PA X [a,b] (aJ ta (aJ tb bR)):=cu g (cu h ck f) i
theorem a3{c:Expr}{h:TE}(i:PE X a ta)(j:PE X b tb)(l:PE X c h)(n:aI [a,b,c] X.env=(false,eval a X.env)::aI [b,c] X.env:=by rfl)(f:aI [b,c] X.env=(false,eval b X.env)::aI [c] X.env:=by rfl)(g:aI [c] X.env=(false,eval c X.env)::aI [] X.env:=by rfl):PA X [a,b,c] (aJ ta (aJ tb (aJ h bR))):=cu i (a2 j l f g) n
variable{elt iter tg:Expr}{ifs:List Expr}{scope:Scope}{fi:List Nat}{wi:TI}{g:TG}{tc:TT}
theorem qc(hi:PI X tg iter wi)(q:xL k g)
  (h:∀C l f j ex n,PG (dA X (Ff tg++fi.map fun i=>X.N.getD i "") scope C l f j ex n) tg g/\FK (dA X (Ff tg++fi.map fun i=>X.N.getD i "") scope C l f j ex n) ifs tc/\PE (dA X (Ff tg++fi.map fun i=>X.N.getD i "") scope C l f j ex n) elt te)
  (r:k5 X.env.scope scope k (Ff tg++fi.map fun i=>X.N.getD i "") X.N fi=true:=by with_unfolding_all rfl) (s:X.calm=true:=by rfl)
  (u:∀x,wv iter X.env x=pure x:=by intro _;rfl):PE X (.ListComp elt [⟨tg,iter,ifs,0⟩] scope pos) (cZ k fi wi g tc te) :=
 ED r s hi (fun _ _ _ _ _ _=>(h _ _ _ _ _ _).1) q (fun _ _ _ _ _ _=>(h _ _ _ _ _ _).2.1) (fun _ _ _ _ _ _=>(h _ _ _ _ _ _).2.2) u
theorem Fp(j:Nat){y:Str}{n u:Pos}(v:X.N.Nodup)(hi:PI X tg iter wi)(w:xL k g)
  (h:∀C q f l ex r,PG (dA X (Ff tg++fi.map fun i=>X.N.getD i "") scope C q f l ex r) tg g/\FK (dA X (Ff tg++fi.map fun i=>X.N.getD i "") scope C q f l ex r) ifs tc/\PE (dA X (Ff tg++fi.map fun i=>X.N.getD i "") scope C q f l ex r) elt te)
  (z:X.N[j]?=some y:=by rfl) (A:Loc X.env.scope y:=by first|exact Or.inl rfl|exact Or.inr rfl)
  (B:k5 X.env.scope scope k (Ff tg++fi.map fun i=>X.N.getD i "") X.N fi=true:=by with_unfolding_all rfl) (D:X.calm=true:=by rfl)
  (s:qj (.ListComp elt [⟨tg,iter,ifs,0⟩] scope pos) (some (.Name y u)) n.line X.env=pure true:=by rfl)
  (E:∀x,wv iter X.env x=pure x:=by intro _;rfl) (hf:X.fn y=true∨X.env.scope.names.lookup y=some .local:=by first|exact .inl rfl|exact .inr rfl|assumption) :
  PS X (.Assign [.Name y u] (.ListComp elt [⟨tg,iter,ifs,0⟩] scope pos) n) (aG (cZ k fi wi g tc te) (dU j)) :=
 yR v z A B D hi (fun _ _ _ _ _ _=>(h _ _ _ _ _ _).1) w (fun _ _ _ _ _ _=>(h _ _ _ _ _ _).2.1) (fun _ _ _ _ _ _=>(h _ _ _ _ _ _).2.2) s E hf
end
end L2
end

section
set_option Elab.async false
set_option linter.all false
set_option maxRecDepth 100000
namespace L2
open PySem PySem.Spec PyProof.Rows
def Gn(d:Addr)(o:Obj)(kvs:List (ca×V)):It :=
 ⟨fun i H=>H d=some (.frz o (.dK kvs))/\i<kvs.length,fun i H x H'=>H'=H/\∃kv,kvs[i]?=some kv/\x=kV kv.1,fun i H=>H d=some (.frz o (.dK kvs))/\kvs.length<=i⟩
theorem FZ{k:ca}{v:Value}(h:cS k v=true):RelV (kV k) v:=by
 rcases aw h with⟨i,t,rfl,rfl⟩|⟨i,t,rfl,rfl⟩
 ·exact⟨t,rfl⟩
 ·exact⟨t,rfl⟩
theorem By{α β:Type}{F:α->β->Prop}{e:List α}{f:List β}(g:Paired F e f){i:Nat}{a:α}{b:β}(h:e[i]?=some a)(j:f[i]?=some b):F a b:=by
 induction g generalizing i with
 |nil=>cases h
 |cons r _ k =>
  cases i with
  |zero=>injection h with h;injection j with j;subst h j;exact r
  |succ i=>exact k h j
theorem sh{P:bD}{w:World}{K:Za}{H:Hp}{h:Heap}{d:Addr}{o:Obj}{a:List (ca×V)}{k:Array i5}{n:Nat}(l:k7 P w K H h)(e:H d=some (.frz o (.dK a)))(p:o.data=.dict k n):
  (d==g0)=false/\∃j,KV a j/\h.DictAt (bU P w) d j n:=by
 obtain⟨g,_,f,j,m,s⟩:=(show cj P w K H h d (.frz o (.dK a))from l d _ e);obtain⟨t,v,x,i,u,q,r⟩:=s.dictAt;rw[g]at i;cases i;rw[p]at q;cases q;exact⟨f,j,m,o,_,g,u,p,r⟩
theorem A5{P:bD}{w:World}{K:Za}{Y:Expr}(d it:Addr)(o:Obj)(a:List (ca×V)){r:Array i5}{N:Nat}(O:o.data=.dict r N):sF P w K Y (Gn d o a) [it] it (fun i h=>h.IsKeyIter it d i a.length N) where
 mem:=by simp
 obj:=fun i h st b g=>by
  have e:b=it:=by simpa using g
  subst e;obtain⟨o,e,c,d⟩:=st;exact⟨o,e,fun v z=>by rw[d]at z;cases z⟩
 keep:=fun i h p st k=>by
  obtain⟨Q,e,c⟩:=st;exact⟨Q,k it (by simp) Q e,c⟩
 item:=by
  intro X t u x T i U s σ H E I hf st y;subst t u x;obtain⟨hd,hi⟩:=y;obtain⟨m,l,f,A⟩:=sh I.hok hd O;have q:=f.length;obtain⟨B,C,f2,D,G,J⟩:=hf it (by simp);have L:i<l.length:=by omega
  have hx:l[i]?=some (l[i].1,l[i].2):=by simp[L]
  rw[q]at st;refine wpAny_pyNext_dict_item st A hx fun M p hk j sb=>?_;have I1:Inv X U σ H { s with heap:=p }:=I.turned (t':=s.toks) (fun b o g e=>(sb.2 b g).trans e) B C D G J;obtain⟨oi,e,c,dd⟩:=id j;have n:a[i]?=some a[i]:=by simp[hi]
  have ek:a[i].1=l[i].1:=(By f n hx).1;rw[<-q]at j;exact⟨M,rfl,ux (s:={ s with heap:=p }) e c dd (by decide) ⟨kV a[i].1,H,I1,FZ (by rw[ek];exact hk),⟨rfl,a[i],n,rfl⟩,j,fun b g=>(hf b g).1⟩⟩
 done:=by
  intro X t u x T i U s σ H E I hf st y;subst t u x;obtain⟨hd,hi⟩:=y;obtain⟨m,l,f,A⟩:=sh I.hok hd O;have q:=f.length;obtain⟨B,C,f2,D,G,J⟩:=hf it (by simp);rw[q]at st;exact wpAny_pyNext_dict_end (I.ok.hd T) st A (by simp;omega) fun p eb=>⟨rfl,I.turned (t':=s.toks) (fun b o g e=>eb b o g e) B C D G J⟩
 self:=fun _ _ _ _ _ st h=>wpAny_pyIter_keyiter st h
def Fz(tl:TE):TI:=fun σ H R=>tl σ H fun x H1=>∃d kvs,x=.ref d /\
 ((H1 d=some (.dK kvs)/\∀o,R (Gn d o kvs) (upd H1 d (.frz o (.dK kvs))))∨∃o,H1 d=some (.frz o (.dK kvs))/\R (Gn d o kvs) H1)
theorem Do{P:bD}{w:World}{K:Za}{H:Hp}{h:Heap}{d:Addr}{o:Obj}{e:List (ca×V)}(x:cj P w K H h d (.frz o (.dK e))):∃f i,o.data=.dict f i:=by
 obtain⟨g,_,_,m,_,j⟩:=x;obtain⟨k,n,p,a,q,l,r⟩:=j.dictAt;rw[g]at a;cases a;exact⟨_,_,l⟩
theorem Ex{X:Cx}{B l:Expr}{C:TE}(p:PE X l C):PI X B l (Fz C):=by
 intro n s σ H R I h;refine cA (p n s σ H _ I h) fun v s1 t=>?_;obtain⟨x,u,y,G,J⟩:=t;obtain⟨d,a,e,q⟩:=J;subst e;cases G;have g:∀(k:Hp) (o:Obj),Inv X n σ k s1->k d=some (.frz o (.dK a))->R (Gn d o a) k->wpAny (model X.prog X.w) X.A (pyIter (.ref d)) (PIE X n σ B R) X.xe s1:=by
  intro k o i e q;obtain⟨L,M,m⟩:=Do (i.hok d _ e);obtain⟨f,D,j,N⟩:=sh i.hok e m;have p:=j.length;refine wpAny_pyIter_dict f N ?_;refine⟨s1.heap.objs.size,[s1.heap.objs.size],_,_,k,rfl,i.kept (t':=s1.toks) fun b o e=>bu _ e,A5 d _ o a m,?_,fun b O=>?_,q⟩
  ·rw[p];exact⟨_,c_ _ rfl,rfl,rfl⟩
  ·have e:b=s1.heap.objs.size:=by simpa using O
   subst e;exact i.fpOk (aN _) (i.hok.fresh (aN _))
 rcases q with⟨e,q⟩|⟨o,e,q⟩
 ·obtain⟨z,f,D,j,E⟩:=(show cj X.prog X.w X.K u s1.heap d (.dK a)from y.hok d _ e);obtain⟨M,o,Q,m,r⟩:=id E.dictAt;have i:Inv X n σ (upd u d (.frz o (.dK a))) { s1 with heap:=s1.heap,toks:=s1.toks } :=
   y.write (x:=d) (e:=d) (t':=s1.toks) (by rw[e];trivial) (.inl rfl) (fun _ _ _ q=>q) ⟨o,m⟩ ⟨m,z,f,D,j,E⟩
  exact g _ o i aa (q o)
 ·exact g u o y e q
abbrev CV(K:Za):List V->Hp->VK->Prop:=fun xs H Q=>gf K xs H Q∨∃(d:Addr) (kvs:List (ca×V)),xs=[.ref d]/\Rd H d (.dK kvs)/\Q (.int kvs.length) H
theorem uA{X:Cx}:fM X (.builtin "len") (CV X.K):=by
 refine uB.or ?_;intro i s σ H j k Q I r h;obtain⟨d,a,rfl,e,q⟩:=h;obtain⟨u,rfl,f⟩:=vals1 r;cases f;exact GJ I e fun t l g=>⟨.int a.length,H,g,⟨t,rfl⟩,q⟩
structure tL(h:Heap)(d:Addr)(es:Array i5)(ep:Nat):Prop where
 ex:∃o,h.get? d=some o/\o.ExactDict/\o.data=.dict es ep
section
variable{prog:bD}{w:World}{A:Around}{E:Zc}{s:Shared}{d v it:Addr}{es:Array i5}{ep i:Nat}
theorem tL.ty(h:tL s.heap d es ep):s.TypeIs (.ref d) "dict":=let⟨o,a,e,_⟩:=h.ex;⟨o,a,e.1⟩
end
end L2
end

section
set_option Elab.async false
set_option linter.all false
set_option maxRecDepth 100000
namespace L2
open PySem PySem.Spec PyProof.Rows
section
variable{prog:bD}{w:World}{A:Around}{E:Zc}{s:Shared}{d v it:Addr}{es:Array i5}{ep i:Nat}
theorem Bs{Q:Option Value->Shared->Prop}(j:s.heap.IsKeyIter it d i es.size ep)(h:tL s.heap d es ep)(hi:i<es.size)
  (q:∀k,k.IsKeyIter it d (i+1) es.size ep->iK it s.heap k->Q (some es[i].key) { s with heap:=k }):wpAny (model prog w) A (pyNext (.ref it)) Q E s:=by
 obtain⟨r,f,l,a⟩:=id j;obtain⟨o,m,hx,e⟩:=h.ex;have g:=j.typeIs;unfold pyNext;refine am <| uU <| n6 (name:=n5 "__next__") g qv <| uJ qv g F.entry_dict_keyiterator_next ?_ (F.args_dict_keyiterator_next_1 _);refine am <| aV <| am <| am ?_
 first|refine am <| uO g <| aV ?_|refine am <| uN g <| aV ?_
 refine am <| wpAny_fieldsOf f a ?_;simp only[show cO.Dict_items.ownsTuple "dict_keyiterator"=false by decide,qD,if_false];show wpAny _ _ (if(Value.ref d==Value.none)=true then _ else _) _ _ _
 rw[if_neg (show ¬((Value.ref d==Value.none)=true)from gL)];refine am <| aV <| am <| uQ m e ?_;rw[if_neg (by simp)];refine am <| aV <| am <| wpAny_dictEpoch m e ?_;rw[if_neg (by simp)];refine aV ?_;simp only[show ¬((i:Int)<0)from by omega,if_false,j_,Array.getElem?_eq_getElem hi];refine am ?_
 first|refine am <| uO g <| aV ?_|refine am <| uN g <| aV ?_
 refine am <| wpAny_isOneOf_keyiter g ?_;show wpAny _ _ (setField (.ref it) 1 (rawInt ((i:Int)+1)) >>= _) _ _ s;refine am <| uZ f a (by simp) ?_;have n:(s.heap.update it (Obj.mapFields (·.setIfInBounds 1 (rawInt ((i:Int)+1))))).IsKeyIter it d (i+1) es.size ep:=⟨_,u8 _ f (Obj.isFreed_of_fields (uY a _)),(Obj.cls_mapFields ..).trans l,by rw[uY a];simp[rawInt]⟩;have p:=Heap.IsKeyIter.typeIs (s:={ s with heap:=s.heap.update it (Obj.mapFields (·.setIfInBounds 1 (rawInt ((i:Int)+1)))) }) n;refine am <| pe <| am <| wpAny_isOneOf_keyiter p ?_;show wpAny _ _ (pure es[i].key) _ _ _;exact aV <| aV ⟨_,rfl,aV <| q _ n (lT ..)⟩
theorem CS{Q:Option Value->Shared->Prop}(p:A.handled=none)(g:s.heap.IsKeyIter it d i es.size ep)(h:tL s.heap d es ep)(hi:es.size<=i)
  (q:∀l,Heap.ExtBut it s.heap l->Q none { s with heap:=l }):wpAny (model prog w) A (pyNext (.ref it)) Q E s:=by
 obtain⟨t,j,r,k⟩:=id g;obtain⟨o,n,hx,e⟩:=h.ex;have f:=g.typeIs;unfold pyNext;refine am <| uU <| n6 (name:=n5 "__next__") f qv <| uJ qv f F.entry_dict_keyiterator_next ?_ (F.args_dict_keyiterator_next_1 _);refine am <| aV <| am <| am ?_
 first|refine am <| uO f <| aV ?_|refine am <| uN f <| aV ?_
 refine am <| wpAny_fieldsOf j k ?_;simp only[show cO.Dict_items.ownsTuple "dict_keyiterator"=false by decide,qD,if_false];show wpAny _ _ (if(Value.ref d==Value.none)=true then _ else _) _ _ _
 rw[if_neg (show ¬((Value.ref d==Value.none)=true)from gL)];refine am <| aV <| am <| uQ n e ?_;rw[if_neg (by simp)];refine am <| aV <| am <| wpAny_dictEpoch n e ?_;rw[if_neg (by simp)];refine aV ?_;simp only[show ¬((i:Int)<0)from by omega,if_false,j_,Array.getElem?_eq_none hi];refine am ?_
 first|refine am <| uO f <| aV ?_|refine am <| uN f <| aV ?_
 show wpAny _ _ (setField (.ref it) 0 .none >>= _) _ _ s;refine am <| uZ j k (by simp) ?_;show wpAny _ _ (newExc (.type "StopIteration") [] >>= _) _ _ _;refine am ?_;simp only[newExc,newTuple];refine am <| n_ ?_ (by size_fits);refine am (m:=uX _ _) <| wpAny_of_eq (a:=Value.none) (by first|rfl|(simp only[uX];rfl)) <| n_ ?_ (by size_fits)
 simp only[raiseNew];refine am <| wpAny_handled ?_;rw[show A.in1.handled=none from p];refine am <| aV <| wpAny_throw ?_;refine am (Ac (b:=true) (T:="StopIteration") ⟨_,c_ _ rfl,rfl⟩ isSubtype_stop (aV (q _ (((lT ..).extBut.push _).push _))))
end
end L2
end

section
set_option Elab.async false
set_option linter.all false
set_option maxRecDepth 100000
namespace HT
open PySem PySem.Spec PyProof.Rows
end HT
namespace L2
open PySem PySem.Spec PyProof.Rows
end L2
namespace HT
open PySem PySem.Spec PyProof.Rows
end HT
namespace L2
open PySem PySem.Spec PyProof.Rows
end L2
end

section
set_option Elab.async false
set_option linter.all false
set_option maxRecDepth 100000
namespace L2
open PySem PySem.Spec PyProof.Rows
end L2
namespace L2
open PySem PySem.Spec PyProof.Rows
end L2
end

section
set_option Elab.async false
set_option linter.all false
set_option maxRecDepth 100000
namespace L2
open PySem PySem.Spec PyProof.Rows
end L2
end

section
set_option Elab.async false
set_option linter.all false
set_option maxRecDepth 100000
namespace HT
open PySem PyProof.Rows
end HT
namespace L2
open PySem PySem.Spec PyProof.Rows
end L2
end

section
set_option Elab.async false
set_option linter.all false
set_option maxRecDepth 100000
namespace HT
open PySem PyProof.Rows
section
variable{prog:bD}{w:World}{A:Around}{E:Zc}{s:Shared}
end
end HT
end

section
set_option Elab.async false
set_option linter.all false
set_option maxRecDepth 100000
namespace L2
open PySem PySem.Spec PyProof.Rows
section
variable{prog:bD}{w:World}{A:Around}{E:Zc}{s:Shared}{d v it:Addr}{es:Array i5}{ep i:Nat}
theorem yO(g:(d==g0)=false)(h:tL s.heap d es ep):∃e:Obj,(∀(E Q:Zc),Q (.ref s.heap.objs.size) { s with heap:=s.heap.push e }->wpAny (model prog w) A (pyIter (.ref d)) Q E s)/\(s.heap.push e).IsKeyIter s.heap.objs.size d 0 es.size ep:=by
 obtain⟨o,f,hx,a⟩:=h.ex;refine⟨{ cls:=.type "dict_keyiterator",data:=.fields #[.ref d,rawInt 0,rawInt es.size,rawInt ep] },fun E Q q=>?_,⟨_,c_ _ rfl,rfl,by simp[rawInt]⟩⟩;refine wpAny_pyIter_slot h.ty F.slot_dict_iter <| uJ F.slot_dict_iter h.ty F.entry_dict_iter ?_ (F.args_dict_iter_1 _);unfold cO.«dict.__iter__»;refine am ?_;unfold cO.Dict.dictSlotNone;refine am <| wpAny_notOrdered_dict h.ty <| ?_;refine aV (show wpAny _ _ (cO.Dict.showsAll d >>= _) _ _ s from ?_);unfold cO.Dict.showsAll;rw[if_neg (fun z=>by rw[g]at z;cases z)];refine am <| aV <| am <| uQ f a <| am <| wpAny_dictEpoch f a ?_;exact am (n_ (aV ⟨_,rfl,"dict_keyiterator",_,⟨_,c_ _ rfl,rfl⟩,qv.lookup,q⟩))
end
theorem tL.kept{h h':Heap}{d:Addr}{a:Array i5}{f:Nat}(r:tL h d a f)(k:∀o,h.get? d=some o->h'.get? d=some o):tL h' d a f:=let⟨o,g,e⟩:=r.ex;⟨o,k o g,e⟩
theorem Er{prog:bD}{w:World}{d:Addr}{f:Array i5}{j:Nat}(t:(d==g0)=false):PySem.W.KdlSrc prog w "dict" d d f.size (fun i v=>(f[i]?).map (·.key)=some v) fun h=>tL h d f j where
 type:=fun s r=>r.ty
 there:=fun h r=>by obtain⟨o,g,_⟩:=r.ex;exact⟨ba g,ba g⟩
 keep:=fun h l r k=>r.kept (k d (.inl rfl))
 notList:=by decide
 notTuple:=by decide
 hint:=fun A E s Q r q=>PySem.W.kdl_hint_dict r.ty q
 iter:=fun A s u r=>by
  obtain⟨x,y,z⟩:=yO (prog:=prog) (w:=w) (A:=A) t r;have ne:d≠s.heap.objs.size:=by obtain⟨o,g,_⟩:=r.ex;exact cY (ba g)
  refine⟨x,fun i h=>h.IsKeyIter s.heap.objs.size d i f.size j/\tL h d f j,y,⟨by simp,?_,?_,?_,?_⟩,z,r.kept fun o e=>bu _ e⟩
  ·rintro i h l ⟨a,b⟩ k;obtain⟨o,e,c⟩:=a;exact⟨⟨o,k _ (by simp) o e,c⟩,b.kept fun o e=>k d (by simp) o e⟩
  ·rintro i n Q E hi ⟨a,b⟩ q;refine Bs a b hi fun l B p=>q _ _ _ (by simp[hi]) ⟨B,b.kept fun o e=>(p.2 d ne).trans e⟩ fun b o m e=>(p.2 b (by simpa using m)).trans e
  ·rintro n Q E ⟨a,b⟩ q;exact CS u a b (aN _) fun l C=>q _ _ fun b o m e=>C b o (by simpa using m) e
  ·rintro i n Q E ⟨a,b⟩ q;exact wpAny_pyIter_keyiter a q
abbrev yP(K:Za):List V->Hp->VK->Prop:=fun xs H Q=>∃(d:Addr) (kvs:List (TK×V)),xs=[.ref d]/\H d=some (.dT kvs) /\
 ∀(l:Addr) (us:Ze),H l=none->Paired (fun u (kv:TK×V)=>tK K H kv.1 (.ref u)) us kvs->Q (.ref l) (upd H l (.lst (us.map V.ref)))
theorem zD{X:Cx}(D:X.calm=true):fM X (.type "list") (yP X.K):=by
 intro J2 s σ H f us Q I r h;obtain⟨d,k,rfl,e,q⟩:=h;obtain⟨u,rfl,E⟩:=vals1 r;cases E;obtain⟨z,l,f,i,o,A,ep,G,ex,J,g,B⟩:=id (show cj X.prog X.w X.K H s.heap d (.dT k)from I.hok d _ e);have n:=Paired.length i;have t:A.size=f.length:=by rw[<-mS,g,ak]
 refine PySem.W.kdl_call (Er l) (I.ok.hd D) ⟨o,G,ex,J⟩ (by rw[t,<-n];exact z) fun h' tk a c L M m=>?_;obtain⟨hn,N⟩:=m;have v:a.toList=f.map fun x=>Value.ref x.2.1:=by
  apply List.ext_getElem?;intro j;by_cases O:j<a.size
  ·have p:a[j]?=some a[j]:=by simp[O]
   have T:=N j _ p;have U:A[j]?=(f[j]?).map fun x=>entryOfKey (eS X.prog X.w) x:=by rw[<-qJ,g,eG]
   rw[qJ,p,eG,<-T,U];cases f[j]?<;>rfl
  ·have p:a[j]?=none:=by simp;omega
   rw[qJ,p,eG,List.getElem?_eq_none (by omega)]
   rfl
 have C:a_ ((f.map (·.2.1)).map V.ref) a.toList:=by
  rw[v];clear v i n t g B
  induction f with
  |nil=>exact .nil
  |cons x f y=>exact .cons rfl y
 have Y:Paired (fun u (kv:TK×V)=>tK X.K H kv.1 (.ref u)) (f.map (·.2.1)) k:=by
  clear v C n t g B e q z
  induction i with
  |nil=>exact .nil
  |cons h _ y=>exact .cons h.2.1 y
 refine⟨.ref s.heap.objs.size,_,I.laid (o:=.lst ((f.map (·.2.1)).map V.ref)) L (aN _) ⟨by rw[ak,ak,<-n];exact z,a.toList,c,C,by rw[Array.toArray_toList];exact M⟩,rfl,q _ _ I.fresh Y⟩
section
variable{X:Cx}{e:Expr}{es:List Expr}{t:TA}{p pos:Pos}
theorem qLT(f:X.calm=true)(g:X.mg "list"=none)(h:PA X (e::es) t)(i:Gl X "list":=by rfl)
  (j:aI (e::es) X.env=(false,eval e X.env)::aI es X.env:=by rfl) (a:(backTo pos (aI es X.env)).any (·.1)=false:=by rfl):PE X (.Call (.Name "list" p) (e::es) [] pos) (dW (yP X.K) t):=gk (zD f) i g mB h (by decide) (by decide) j a
end
end L2
end

section
set_option Elab.async false
set_option linter.all false
set_option maxRecDepth 100000
namespace HT
open PySem PyProof.Rows
end HT
end

section
set_option Elab.async false
set_option linter.all false
set_option maxRecDepth 100000
namespace L2
open PySem PySem.Spec PyProof.Rows
end L2
end

section
set_option Elab.async false
set_option linter.all false
set_option maxRecDepth 100000
namespace L2
open PySem PySem.Spec PyProof.Rows
end L2
end

section
set_option Elab.async false
set_option linter.all false
set_option maxRecDepth 100000
namespace HT
open PySem PyProof.Rows
end HT
namespace L2
open PySem PySem.Spec PyProof.Rows
abbrev Fl:R2:=fun x y H Q=>∃b,y=.bl b/\Q (.bl (!decide (x=.bl b))) H
section
variable{X:Cx}{p pos:Pos}
theorem EF:lM X (dO .IsNot) Fl:=by
 intro j s σ H x y v u Q I g l h;obtain⟨b,rfl,q⟩:=h;cases(show u=Value.bool b from l);have f:∀k:Bool,k=!decide (x=.bl b)->EP X j σ Q (.bool k) s:=fun k e=>⟨.bl k,H,I,rfl,by rw[e];exact q⟩;cases x with
 |non=>cases(show v=Value.none from g);exact aV (f _ rfl)
 |bl a =>
  cases(show v=Value.bool a from g);refine aV (f _ ?_);cases a<;>cases b<;>rfl
 |int i=>obtain⟨t,rfl⟩:=g;exact aV (f _ rfl)
 |str i=>obtain⟨t,rfl⟩:=g;exact aV (f _ rfl)
 |byt i=>obtain⟨t,rfl⟩:=g;exact aV (f _ rfl)
 |flt i=>obtain⟨t,rfl⟩:=g;exact aV (f _ rfl)
 |ref a=>cases(show v=Value.ref a from g);exact aV (f _ rfl)
 |ty n=>cases(show v=Value.type n from g);exact aV (f _ rfl)
end
theorem BF{P:bD}{w:World}{K:Za}{G mb:Str->Option Value}{CX:DQ}{k:Nat}{fa a:Addr}{fd:j3}{x:Str}{sp:Sp}{f:Shared}{D:Zf}{I:List Int}
  {t:Addr}{A:List V}(zt:A.length<=aj) (hT:∃(o:Obj) (j:Array Value) (n:Nat),K.lookup t=some o/\o.cls=.type "tuple"/\o.data=.seq j n/\j.size<=aj/\a_ A j.toList)
  (KX:K.In f.heap) (J:f.heap.Ns bM G) (i:f.heap.Ns builtinsNs mb) (al:∀x:Str,x≠"__name__"->mb x=iL x) (L:f.heap.NoLimit) (hg:f.gens=#[])
  (M:f.heap.get? a=some { cls:=.type "list",data:=.seq D.toArray }) (hi:qH D I) (hl:I.length<=aj) (hr:eN k lU)
  (F:∀base:Heap,K.In base->base.Ns bM G->lB P w K G base CX k fa fd [x] sp) (E:∀(s:Shared) (u:Value),tU s fd ⟨[u],[]⟩ [(x,u)])
  (an:∀H:Hp,H t=some (.tup A)->ax K H a (I.map V.int)->sp [.ref a] H (fun v _=>v=.bl true) fun _ _ _=>False)
  (ap:∀H e l,CX [] H f (fun _ _ _=>False) e l->False) :
  zzl75 (model P w) lU (.call (.ref fa) ⟨[.ref a],[]⟩) (fun r l=>r=.ok (.ret (.bool true))/\OldK f.heap l.heap/\l.os=f.os/\mT l.gens) f:=by
 have rv:=t4 hi;have N:=hi.length;have B:∀H:Hp,Only H->ax K H a (I.map V.int)->k7 P w K H f.heap->(∀b,H b≠none->b=a)->(H a≠none->K.lookup a=none) ->
   zzl75 (model P w) lU (.call (.ref fa) ⟨[.ref a],[]⟩) (fun r l=>r=.ok (.ret (.bool true))/\OldK f.heap l.heap/\l.os=f.os/\mT l.gens) f:=by
  intro H hO hS aq hA hK;obtain⟨ot,j,nt,lt,ct,dt,_,vt⟩:=hT;have gt:=KX t ot lt;have ta:t≠a:=fun z=>by
   rw[z,M]at gt;cases gt;injection ct with ct;exact absurd ct (by decide)
  have Ht:H t=none:=by
   cases q:H t with
   |none=>rfl
   |some u=>exact absurd (hA t (by rw[q];simp)) ta
  have S2:ac H (upd H t (.tup A)):=fun b o e=>by rw[ai (ae e Ht)];exact e
  have C:k7 P w K (upd H t (.tup A)) f.heap:=fun b u z=>by
   by_cases c:b=t
   ·subst c;rw[aa]at z;cases z;exact⟨zt,j.toList,vt,ot,gt,ct,nt,by rw[dt]⟩
   ·rw[ai c]at z;rcases hO b with y|⟨ob,xs,y⟩
    ·rw[z]at y;cases y
    ·rw[z]at y;cases y;obtain⟨e1,e2⟩:=aq b _ z;exact⟨e1,e2⟩
  have g:∀{b:Addr}{o:Obj},f.heap.get? b=some o->H b=none->(vT f.heap H).get? b=some o:=fun e n=>Dk e n;have as:∀{b:Addr}{o:Obj}{es:Array i5}{O:Nat},f.heap.get? b=some o->o.data=.dict es O->H b=none:=fun{b o es O} e d=>by
   cases q:H b with
   |none=>rfl
   |some u =>
    have e':b=a:=hA b (by rw[q];simp);subst e';rw[M]at e;cases e;have d':Data.seq D.toArray _=Data.dict es O:=d;cases d'
  have p:∀{b:Addr}{m:Str->Option Value},f.heap.Ns b m->(vT f.heap H).Ns b m:=fun{b m} ⟨o,es,O,e,d,r⟩=>⟨o,es,O,g e (as e d),d,r⟩;have Q:K.In (vT f.heap H):=fun b o e=>g (KX b o e) (by
   cases q:H b with
   |none=>rfl
   |some u =>
    have e':b=a:=hA b (by rw[q];simp);subst e';rw[hK (by rw[q];simp)]at e;cases e)
  have hM:Mod K G (vT f.heap H):=⟨Q,p J,⟨mb,p i,al⟩,let⟨mc,h1,h2⟩:=L;⟨mc,p h1,h2⟩⟩;have e0:zT P w K G (vT f.heap H) lU [] f (upd H t (.tup A)):=⟨rfl,hM,fun b o e=>(EH e).imp id fun n=>(by
   by_cases c:b=t
   ·rw[c,aa];exact .inr ⟨_,rfl⟩
   ·rw[ai c];exact .inl n),Nat.le_of_eq (BM _ _),trivial,fun b i=>absurd (show b∈([]:Ze)from i) (by simp),C,.of_eq hg⟩
  refine zX ((F _ Q (p J)).run lU [] f (upd H t (.tup A)) ⟨[.ref a],[]⟩ [.ref a] [.ref a] _ _ hr e0 (E f (.ref a)) (.cons rfl .nil) (an _ aa (ac.seq S2 hS))) fun r l h=>?_;cases r with
  |error e=>exact(ap _ e l h).elim
  |ok fl =>
   cases fl with
   |next=>exact jh h
   |brk=>exact jh h
   |cont=>exact jh h
   |ret u =>
    obtain⟨v,H',os,T,un,U,r',q⟩:=h;have q':v=.bl true:=q;subst q';obtain rfl:u=Value.bool true:=r';refine⟨rfl,OldK.of_keep fun b o e=>?_,os,T⟩;cases q:upd H t (.tup A) b with
    |none=>exact un.keep b o e q (by intro z;exact absurd (show b∈([]:Ze)from z) (by simp)) (by simp)
    |some u =>
     by_cases c:b=t
     ·subst c;exact un.tupk b _ o aa e
     ·have q2:=q;rw[ai c]at q2;rcases hO b with z|⟨ob,xs,z⟩
      ·rw[q2]at z;cases z
      ·rw[q2]at z;cases z;have z2:=un.frzs b ob _ q;obtain⟨e1,_⟩:=C b _ q;obtain⟨e2,_⟩:=U b _ z2;rw[e]at e1;cases e1;exact e2
 cases hk:K.lookup a with
 |some o =>
  have e:=KX a o hk;rw[M]at e;cases e;refine B (fun _=>none) (fun _=>.inl rfl) (.inr ⟨_,D.toArray,_,hk,rfl,rfl,rfl,by rw[bX,N];exact hl,by simpa using rv⟩) (fun b u z=>by have Y:(none:Option HO)=some u:=z;cases Y) (fun b z=>absurd rfl z) fun z=>absurd rfl z
 |none =>
  refine B (fun b=>if b=a then some (.frz { cls:=.type "list",data:=.seq D.toArray } (.lst (I.map V.int)))else none) (fun b=>?_) (.inl (.inr ⟨{ cls:=.type "list",data:=.seq D.toArray },if_pos rfl⟩)) (fun b u z=>?_) (fun b z=>?_) fun _=>hk
  ·by_cases i:b=a
   ·exact .inr ⟨_,_,if_pos i⟩
   ·exact .inl (if_neg i)
  ·by_cases i:b=a
   ·have Y:=(if_pos i).symm.trans z;cases Y;subst i;exact⟨M,by rw[ak];exact hl,D,_,rv,M⟩
   ·have Y:=(if_neg i).symm.trans z;cases Y
  ·by_cases i:b=a
   ·exact i
   ·exact absurd (if_neg i) z
theorem walk_ofT{l:PySem.W.OpenLaw}{n k:Nat}{q:bD}{loose:Zb}{U:(Str->Option Value)->Heap->Prop}{N:World->Heap->Prop}{d:DefRec}{K:Params->Za}{CX:DQ}{sp:Za->Sp}{x:Str}{PT:Za->Addr->Prop}{ts:List V}(zt:ts.length<=aj)
  (hT:∀(w:World) (h:Heap),(K w.params).In h->∃t,PT (K w.params) t/\∃(o:Obj) (j:Array Value) (n:Nat),(K w.params).lookup t=some o/\o.cls=.type "tuple"/\o.data=.seq j n/\j.size<=aj/\a_ ts j.toList)
  (hn:l.most=some n) (A:n<=aj) (B:d.params.defaults=[]) (hr:eN k lU)
  (hY:∀(w:World) (h:Heap),N w h->(K w.params).In h)
  (F:∀(w:World) (m:Str->Option Value) (y:Addr) (h:Heap),(K w.params).In h->h.Ns bM m->m d.name=some (.ref y) ->
   ∃C:j3,(∀(s:Shared) (u:Value),tU s C ⟨[u],[]⟩ [(x,u)]) /\
    ∀base:Heap,(K w.params).In base->base.Ns bM m->lB l.prog w (K w.params) m base CX k y C [x] (sp (K w.params)))
  (D:∀(K:Za) (t:Addr) (H:Hp) (a:Addr) (z:List Int),PT K t->H t=some (.tup ts)->z.length<=n->ax K H a (z.map V.int)->sp K [.ref a] H (fun v _=>v=.bl true) fun _ _ _=>False)
  (E:∀(H:Hp) (s:Shared) (e:Value) (I:Shared),CX [] H s (fun _ _ _=>False) e I->False) :
  PySem.W.WalkO q loose U N l.row.toRowW d [] (fun f O=>PySem.call f O):=by
 refine Att.attach_call hn B fun w Q p m mb y o pm cd doc a O z G Y ho hd al J r hints i hg=>?_;have L:=hY w _ Y;obtain⟨C,hb,hF⟩:=F w m y _ L G.T.g J;obtain⟨t,pt,M⟩:=hT w _ L;exact BF zt M L G.T.g G.T.b G.T.builtins G.T.nolimit hg r hints (bp i A) hr hF hb (fun H ht hS=>D _ t H a z pt ht i hS) fun H e I=>E H p e I
end L2
end
set_option Elab.async false
set_option linter.all false
set_option maxRecDepth 100000
set_option maxHeartbeats 4000000
namespace Mum
open PySem PySem.Spec PyProof.Rows L2
def vc(K:Za):TS :=
 ao (cp (aP (aB rGeI V0 (aB Fk (tC (.int 10)) (tC (.int 18))))) (bo V0) (bt))
 (ao (aG (aB iT (aB fq (aB fq (aB ki (aB iT V0 (tC (.int 1000000007))) (tC (.int 69069))) (aB ki V1 (tC (.int 40503)))) (tC (.int 977))) (tC (.int 2147483629))) U2)
 (ao (aG (aB iT (aB fq (aB fq (aB ki V2 V2) (aB ki V1 (tC (.int 7919)))) (aB iT V0 (tC (.int 65537)))) (tC (.int 2147483587))) U3)
 (ao (aG (aB iT (aB fq (aB fq (aB ki V3 V3) (aB ki V2 (tC (.int 31)))) (tC (.int 5))) (tC (.int 2147483563))) U4)
 (bo (aB fq (aB ki (aB fq (aB ki V2 (tC (.int 2147483659))) V3) (tC (.int 2147483693))) V4)))))
def wd:List Str:=["cell","at","one","two","three"]
def yf(K:Za):TS :=
 ao (aG (dW (cW K) (aE (B_ (tG K) V0 (gu) (iN (tC (.int 12)))))) U1)
 (ao (d7 (pB K (aE (B_ (tG K) V0 (iN (tC (.int 12))) (iN (tC (.int 63)))))) (jZ K 2 (bO U2 (bO U3 (jO)))) (aG (aB fq (aB (d_ K) V1 (aB iT V2 (tC (.int 12)))) V3) (zj V1 (aB iT V2 (tC (.int 12))) rD)))
 (bo (fA (dZ V1 (tC (.int 0)) (tC (.int 0))))))
def zO:List Str:=["script","cells","k","cell"]
def yi(K:Za):TS :=
 ao (aG (tC (.int 0)) (zj V0 (tC (.int 2)) rD))
 (bo V0)
def zR:List Str:=["pen"]
def ye(K:Za)(sp_law_spread:Sp):TS :=
 ao (cp (aP (aB Es (aB (d_ K) V0 (tC (.int 2))) V1)) (ao (aG (aB (d_ K) V0 (tC (.int 1))) U2)
 (ao (aG (tC (.int 0)) U3)
 (ao (cp (aP (aB Es V2 (dW (gf K) (aE (aB (d_ K) V0 (tC (.int 0))))))) (aG (aB (d_ K) (aB (d_ K) V0 (tC (.int 0))) V2) U3) (cp (aP (aB Bv (dW (gf K) (aE (aB (d_ K) V0 (tC (.int 0))))) (tC (.int 0)))) (aG (aB iT (aB (d_ K) (aB (d_ K) V0 (tC (.int 0))) (aB iT (aB fq (aB ki V2 (tC (.int 5))) (tC (.int 3))) (dW (gf K) (aE (aB (d_ K) V0 (tC (.int 0))))))) (aB fq (aB Fk (tC (.int 10)) (tC (.int 17))) V2)) U3) (bt)))
 (ao (aG (aB fq V2 (tC (.int 1))) (zj V0 (tC (.int 1)) rD))
 (aG (aQ sp_law_spread (aY V3 V2)) (zj V0 (tC (.int 2)) rD)))))) (bt))
 (ao (aG (aB iT (aB (d_ K) V0 (tC (.int 2))) V1) U4)
 (ao (aG (aB CY (aB (d_ K) V0 (tC (.int 2))) V1) (zj V0 (tC (.int 2)) rD))
 (bo V4)))
def zN:List Str:=["pen","many","at","cell","found"]
def wH(K:Za)(sp_law_take:Sp):TS :=
 ao (aG (tC (.str "abcdefghijklmnopqrstuvwxyz")) U2)
 (ao (aG (ua K "str" (Fn K) (tC (.str "")) (aJ (cZ 1 [2,0] (uu (aE (tC (.int 7)))) U0 (ka) (aB CW V1 (aQ sp_law_take (aY V2 (tC (.int 26)))))) bR)) U3)
 (ao (aG (aQ sp_law_take (aY V0 (tC (.int 3)))) U4)
 (ao (aG (aQ sp_law_take (aY V0 (tC (.int 26)))) U5)
 (ao (aG (aQ sp_law_take (aY V0 (tC (.int 8)))) U6)
 (ao (aG (fA (bR)) U7)
 (ao (d7 (uu (aE V1)) U8 (ao (aG (aB CW V2 (aB iT (aB fq V5 (aB ki (tC (.int 3)) V8)) (tC (.int 26)))) U9)
 (ao (aG (B_ Bt V3 (gu) (iN (aB iT (aB fq V6 (aB ki V8 (aB iT V4 (tC (.int 2))))) (tC (.int 8))))) U10)
 (ao (aG (aB (d_ K) (fA (dZ (tC (.int 0)) (dW (gf K) (aE E_)) (aB CY (dW (gf K) (aE E_)) (tC (.int 2))))) V4) U11)
 (cr (ua K "list" cR V7 (aE (aB Fo (aB Fo (B_ Bt E_ (gu) (iN GN)) V9) (B_ Bt E_ (iN GN) (gu))))))))))
 (bo V7)))))))
def xR:List Str:=["pen","many","letters","base","way","turn","size","found","k","sign","part","at"]
def A8(K:Za):TS :=
 cp (aP (aB (i6 K true) V1 V0)) (cr (ua K "list" cR V0 (aE V1))) (bt)
def B6:List Str:=["doors","door"]
def oo(K:Za)(sp_law_take:Sp)(sp_law_put:Sp):TS :=
 ao (aG (fA (bR)) U5)
 (ao (aG (aQ sp_law_take (aY V0 (tC (.int 2)))) U6)
 (ao (d7 (pB K (aE V3)) (jZ K 2 (bO U7 (bO U8 (jO)))) (ao (d7 (uu (aJ (aB (d_ K) (fA (aJ (tC (.int 0)) (dZ (tC (.int 1)) (tC (.int 1)) (tC (.int 2))))) (aQ sp_law_take (aY V0 (tC (.int 4))))) bR)) U9 (ao (aG (b_ (aJ (tC (.str "say")) (aJ (aB (d_ K) V2 (aQ sp_law_take (aY V0 (dW (gf K) (aE V2))))) bR))) U10)
 (cr (aQ sp_law_put (aJ V5 (aJ (b_ (aJ V8 (aJ E_ (aJ (aB (d_ K) V3 (aQ sp_law_take (aY V0 (dW (gf K) (aE V3))))) bR)))) bR))))))
 (ao (d7 (bS K V1) U11 (d7 (uu (aJ (aB (d_ K) (fA (aJ V4 (dZ (tC (.int 1)) (tC (.int 1)) (tC (.int 2))))) (aQ sp_law_take (aY V0 (tC (.int 4))))) bR)) U9 (cr (aQ sp_law_put (aJ V5 (aJ (b_ (aJ V8 (aJ (b_ (aY (tC (.str "ask")) GN)) (aJ (aB (d_ K) V3 (aQ sp_law_take (aY V0 (dW (gf K) (aE V3))))) bR)))) bR))))))
 (ao (aG (aB (d_ K) (fA (aJ (B_ (tG K) V3 (iN (aB fq V7 (tC (.int 1)))) (gu)) (aE (B_ (tG K) V3 (gu) (iN V7))))) V6) U12)
 (cp (jY (aP (aB (vC K) GL (fA (bR)))) (aP (aB Ao (aQ sp_law_take (aY V0 (tC (.int 3)))) (tC (.int 0))))) (cr (aQ sp_law_put (aJ V5 (aJ (b_ (aJ V8 (aJ (b_ (aE (tC (.str "still")))) (aJ (aB (mP K) GL (aQ sp_law_take (aY V0 (dW (gf K) (aE GL))))) bR)))) bR)))) (bt))))))
 (bo V5)))
def oT:List Str:=["pen","asks","says","rooms","full","doors","down","k","room","turn","sign","ask","later"]
def wI(K:Za)(sp_law_draw_doors:Sp)(sp_law_names:Sp)(sp_law_take:Sp)(sp_law_anew:Sp):TS :=
 ao (cr (aQ sp_law_anew (aE V0)))
 (ao (aG (aQ sp_law_names (aY V0 (tC (.int 8)))) U3)
 (ao (aG (B_ (tG K) V3 (gu) (iN (aB fq (tC (.int 1)) (aB (d_ K) (fA (aJ (tC (.int 0)) (aJ (tC (.int 1)) (aJ (tC (.int 1)) (dZ (tC (.int 2)) (tC (.int 2)) (tC (.int 3))))))) (aQ sp_law_take (aY V0 (tC (.int 6)))))))) U4)
 (ao (aG (B_ (tG K) V3 (iN (tC (.int 4))) (iN (aB fq (tC (.int 5)) (aB (d_ K) (fA (aJ (tC (.int 0)) (aJ (tC (.int 1)) (aJ (tC (.int 1)) (dZ (tC (.int 2)) (tC (.int 2)) (tC (.int 3))))))) (aQ sp_law_take (aY V0 (tC (.int 6)))))))) U5)
 (ao (aG (aQ sp_law_names (aY V0 (aB fq (tC (.int 1)) (aQ sp_law_take (aJ V0 (aE V1)))))) U6)
 (ao (aG (aQ sp_law_draw_doors (aJ V0 (aJ V4 (dZ V5 V6 V2)))) U7)
 (bo (b_ (aJ V4 (dZ V5 V6 V7)))))))))
def xS:List Str:=["pen","most","full","words","asks","says","rooms","doors"]
def sV(K:Za)(C_Machine:Addr)(sp_Machine_init:Sp):TS :=
 bo (Aj C_Machine sp_Machine_init [] E0 (aJ (dW (cW K) (aE (aB (mP K) V0 (tC (.int 0))))) (aJ (dW (cW K) (aE (aB (mP K) V0 (tC (.int 1))))) (aJ (dW (cW K) (aE (aB (mP K) V0 (tC (.int 2))))) (aJ (dW (cW K) (aE (aB (mP K) V0 (tC (.int 3))))) bR)))))
def tO:List Str:=["told"]
def A9(K:Za):TS :=
 bo (ph (aB Fm V0 (tC (.str ""))) (ph (aB rLeI (dW (gf K) (aE V0)) (tC (.int 8))) (dW (Eu K) (aE (cZ 1 [] (GG V0) U0 (ka) (aB rInS V0 (tC (.str "abcdefghijklmnopqrstuvwxyz"))))))))
def B7:List Str:=["text"]
def Ba(K:Za):TS :=
 ao (aG (mm) U1)
 (ao (d7 (bS K V0) U2 (jm V1 V2 (tC (.bl true))))
 (bo V1))
def oX:List Str:=["things","keys","thing"]
def l9(K:Za)(sp_is_name:Sp)(sp_as_keys:Sp):TS :=
 ao (cp (aP (aB Ao (dW (gf K) (aE V0)) (tC (.int 0)))) (bo (tC (.int 0))) (bt))
 (ao (aG (aQ sp_as_keys (aE V2)) U3)
 (ao (d7 (pB K (aE V0)) (jZ K 2 (bO U4 (bO U5 (jO)))) (ao (cp (Bb (aP (aB Ao V4 V1)) (Bb (tB (yy K V5 V3)) (qV (tB (aQ sp_is_name (aE V5)))))) (bo V4) (bt))
 (jm V3 V5 (tC (.bl true)))))
 (bo (tC .non))))
def mF:List Str:=["names","most","taken","ahead","number","name"]
def ve(K:Za)(a_STILL:Addr):TS :=
 bo (aB Bw (aB Bw (cZ 1 [] (bS K V0) U0 (ka) (b_ (aY (tC (.str "ask")) V0))) (cZ 1 [] (bS K V1) U0 (ka) (b_ (aY (tC (.str "say")) V0)))) (fA (aE (tC (.ref a_STILL)))))
def wf:List Str:=["asks","says"]
def l_(K:Za)(sp_as_keys:Sp):TS :=
 ao (aG (aQ sp_as_keys (aE V1)) U3)
 (ao (aG (vn) U4)
 (ao (d7 (pB K (aE V0)) (jZ K 2 (bO U5 (bO U6 (jO)))) (ao (cp (Bb (aP (aB Ao V5 (tC (.int 2000)))) (tB (yy K V6 V4))) (bo V5) (bt))
 (ao (cp (Bb (tB (kL K (aB (mP K) V6 (tC (.int 0))) V3)) (Bb (aP (aB (i6 K true) (aB (mP K) V6 (tC (.int 1))) V2)) (tB (kL K (aB (mP K) V6 (tC (.int 2))) V3)))) (bo V5) (bt))
 (jm V4 V6 (tC (.bl true))))))
 (bo (tC .non))))
def mG:List Str:=["doors","rooms","signs","own_rooms","ahead","number","door"]
def iE(K:Za):TS :=
 ao (aG (vn) U1)
 (ao (d7 (bS K V0) (jZ K 3 (bO U2 (bO U3 (bO U4 (jO))))) (cr (ua K "list" cR (ua K "dict" Am V1 (aY (b_ (aJ V2 (aE V3))) (fA (bR)))) (aE V4))))
 (bo V1))
def iH:List Str:=["doors","goals","start","sign","goal"]
def qR(K:Za)(a_STILL:Addr):TS :=
 ao (aG (mm) U2)
 (ao (aG (fA (aE V1)) U3)
 (ao (ow (aP (aB Bv (dW (gf K) (aE V3)) (tC (.int 0)))) (ao (aG (yz K "list" Bu V3) U4)
 (d7 (GH K (vo K V0 (b_ (aY V4 (tC (.ref a_STILL)))) (b_ (bR)))) U5 (cp (tB (kL K V5 V2)) (ao (jm V2 V5 (tC (.bl true)))
 (cr (ua K "list" cR V3 (aE V5)))) (bt)))))
 (bo V2)))
def sH:List Str:=["goals","room","led","waiting","here","goal"]
def mZ(K:Za):TS :=
 ao (d7 (pB K (aE V0)) (jZ K 2 (bO U2 (bO U3 (jO)))) (cp (tB (yy K V3 (t_ K V1 V3))) (bo V2) (bt)))
 (bo (tC .non))
def nR:List Str:=["rooms","led","number","room"]
def wD(K:Za):TS :=
 cp (tB (Ai V1)) (vf) (bt)
def xN:List Str:=["part","number"]
def vb(K:Za)(sp_need_none:Sp)(sp_first_wrong_door:Sp)(sp_door_signs:Sp)(sp_first_wrong_name:Sp):TS :=
 ao (cr (aQ sp_need_none (aY (tC (.str "asks")) (aQ sp_first_wrong_name (dZ V0 (tC (.int 4)) (fA (bR)))))))
 (ao (cr (aQ sp_need_none (aY (tC (.str "says")) (aQ sp_first_wrong_name (dZ V1 (tC (.int 4)) V0)))))
 (ao (cr (aQ sp_need_none (aY (tC (.str "rooms")) (aQ sp_first_wrong_name (dZ V2 (tC (.int 150)) (fA (bR)))))))
 (cr (aQ sp_need_none (aJ (tC (.str "doors")) (aE (aQ sp_first_wrong_door (dZ V3 V2 (aQ sp_door_signs (aY V0 V1))))))))))
def wc:List Str:=["asks","says","rooms","doors"]
def ou(K:Za):TS :=
 ao (aG (mm) U2)
 (ao (d7 (bS K V0) U3 (jm V2 V3 (fA (bR))))
 (ao (d7 (bS K V1) U4 (cr (ua K "list" cR (t_ K V2 (aB (mP K) V4 (tC (.int 0)))) (aE V4))))
 (bo V2)))
def oW:List Str:=["rooms","doors","leaving","room","door"]
def oq(K:Za):TS :=
 bo (dW (Eu K) (aJ (cZ 1 [] (bS K V0) U0 (ka) (aB Ao (aB (mP K) (aB (mP K) V0 (tC (.int 1))) (tC (.int 0))) (tC (.str "ask")))) bR))
def oU:List Str:=["doors"]
def me(K:Za)(sp_need_none:Sp)(sp_first_led_round:Sp)(sp_led_by_still:Sp)(sp_goals_by_start_and_sign:Sp)(sp_as_keys:Sp)(sp_has_asks_alone:Sp)(sp_doors_by_start:Sp)(sp_need_parts:Sp):TS :=
 ao (cr (aQ sp_need_parts (aJ V1 (dZ V2 V3 V4))))
 (ao (vy K V0 (dW (cW K) (aE V1)) "own_asks")
 (ao (vy K V0 (dW (cW K) (aE V2)) "own_says")
 (ao (vy K V0 (dW (cW K) (aE V3)) "own_rooms")
 (ao (vy K V0 (dW (cW K) (aE V4)) "own_doors")
 (ao (vy K V0 (aQ sp_doors_by_start (aY V3 V4)) "leaving")
 (ao (vy K V0 (aQ sp_as_keys (aJ (cZ 1 [0] (bS K V3) U0 (tB (aQ sp_has_asks_alone (aE (t_ K (qW K V1 "leaving") V0)))) V0) bR)) "quiet")
 (ao (vy K V0 (aQ sp_goals_by_start_and_sign (aE V4)) "sign_goals")
 (ao (vy K V0 (dW (Et K) (aJ (cZ 1 [0] (bS K V3) U0 (ka) (b_ (aY V0 (aQ sp_led_by_still (aJ (qW K V1 "sign_goals") (aE V0)))))) bR)) "still_led")
 (cr (aQ sp_need_none (aY (tC (.str "still")) (aQ sp_first_led_round (aJ V3 (aE (qW K V0 "still_led")))))))))))))))
def mJ:List Str:=["self","asks","says","rooms","doors"]
def md(K:Za):TS :=
 bo (yy K V1 (qW K V0 "quiet"))
def mI:List Str:=["self","room"]
def lH(K:Za)(sp_with_still:Sp)(C_Machine:Addr)(sp_Machine_goals:Sp)(a_HUSH:Addr)(sp_Machine_is_quiet:Sp):TS :=
 ao (cp (aP (aB (oG K) V2 (tC (.ref a_HUSH)))) (bo (dW (Al K) (aE (cZ 1 [0] (EL K V1) U0 (tB (fk C_Machine "is_quiet" sp_Machine_is_quiet [] E0 V1 (aE V0))) V0)))) (bt))
 (ao (aG (fA (bR)) U3)
 (ao (d7 (EL K V1) U4 (cr (ua K "list" An V3 (aE (fk C_Machine "goals" sp_Machine_goals [] E0 V0 (aY V4 V2))))))
 (bo (aQ sp_with_still (aY V0 V3)))))
def lN:List Str:=["M","face","sign","goals","room"]
def cD(p:Addr)(H H':Hp):Prop:=∀b o,H b=some o->b≠p->H' b=some o
theorem cD.refl(p:Addr)(H:Hp):cD p H H:=fun _ _ h _=>h
theorem cD.trans{p:Addr}{H e f:Hp}(a:cD p H e)(b:cD p e f):cD p H f:=fun c o h n=>b c o (a c o h n) n
theorem ac.exB{p:Addr}{H e:Hp}(a:ac H e):cD p H e:=fun b o h _=>a b o h
theorem cD.upd(p:Addr)(H:Hp)(o:HO):cD p H (upd H p o):=fun b u h n=>by rw[ai n];exact h
theorem ac.new{H:Hp}{a:Addr}{o:HO}(h:H a=none):ac H (upd H a o):=fun b u e=>by rw[ai (ae e h)];exact e
theorem cD.free{p:Addr}{H a:Hp}(e:cD p H a){u:HO}(f:a p=some u){l:Addr}(h:a l=none):H l=none:=by
 cases q:H l with
 |none=>rfl
 |some o =>
  by_cases z:l=p
  ·subst z;rw[f]at h;cases h
  ·rw[e l o q z]at h;cases h
theorem kp{H:Hp}{a b:Addr}{o x:HO}(h:H b=some o)(n:H a=none):upd H a x b=some o:=by rw[ai (ae h n)];exact h
structure AT(H:Hp)(p c:Addr)(at_ rest:Int)(ns:List Int):Prop where
 pen:H p=some (.lst [.ref c,.int at_,.int rest])
 cells:H c=some (.lst (ns.map V.int))
 at0:0<=at_
 rest0:0<=rest
theorem AT.ne{H:Hp}{p c:Addr}{a r:Int}{g:List Int}(h:AT H p c a r g):c≠p:=by
 intro e;have i:=h.pen;have f:=h.cells;rw[e,i]at f;injection f with f;injection f with f;cases g with
 |nil=>cases f
 |cons n g=>injection f with f;cases f
def fV(H:Hp)(p c:Addr):Prop:=∃a r ns,AT H p c a r ns
theorem fV.ex{H H':Hp}{p c:Addr}(h:fV H p c)(e:ac H H'):fV H' p c:=by
 obtain⟨a,r,f,g,i,j,k⟩:=h;exact⟨a,r,f,e _ _ g,e _ _ i,j,k⟩
theorem fV.pen{H:Hp}{p c:Addr}(h:fV H p c):∃o,H p=some o:=by
 obtain⟨a,r,f,e,_⟩:=h;exact⟨_,e⟩
theorem fV.cell{H:Hp}{p c:Addr}(h:fV H p c):∃o,H c=some o:=by
 obtain⟨a,r,f,_,e,_⟩:=h;exact⟨_,e⟩
theorem fV.upd{H:Hp}{p c l:Addr}{o:HO}(h:fV H p c)(e:p≠l)(f:c≠l):fV (upd H l o) p c:=by
 obtain⟨a,r,g,i,j,k,m⟩:=h;exact⟨a,r,g,by rw[ai e];exact i,by rw[ai f];exact j,k,m⟩
theorem fV.nep{H:Hp}{p c l:Addr}(h:fV H p c)(a:H l=none):p≠l:=let⟨_,e⟩:=h.pen;ae e a
theorem fV.nec{H:Hp}{p c l:Addr}(h:fV H p c)(a:H l=none):c≠l:=let⟨_,e⟩:=h.cell;ae e a
theorem cD.new{p:Addr}{H:Hp}{a:Addr}{o:HO}(h:H a=none):cD p H (L2.upd H a o):=fun b u e _=>by rw[ai (ae e h)];exact e
inductive kN (vs:List V)(H:Hp)(Q:VK)(E:XK):Prop
 |mk (c a:Int):(vs=[.int c,.int a])->(0<=a)->(∀r:Int,0<=r->Q (.int r) H)->kN  vs H Q E
theorem nO{i j:Int}(a:-(2 ^ 64)<j)(e:j<2 ^ 64):DR i j:=.inr ⟨a,e⟩
theorem Bj{K:Za}{f:List V}{H:Hp}{Q:VK}{E:XK}(h:kN f H Q E):vc K (bQ Q) (start wd f) H:=by
 obtain⟨c,a,rfl,x,k⟩:=h;refine⟨_,rfl,_,_,rfl,rfl,⟨by decide,by decide,by decide⟩,_,_,rfl,rfl,_,rfl,?_⟩;refine gV (fun h=>?_) (fun _=>?_)
 ·refine⟨_,rfl,k _ ?_⟩;have:=of_decide_eq_true h;have e:((10:Int) ^ (18:Int).toNat)=1000000000000000000:=by decide
  omega
 ·have one:∀z:Int,0<=z % 2147483629/\z % 2147483629<2147483629:=fun z=>⟨nX _ (by decide),nW _ (by decide)⟩;have two:∀z:Int,0<=z % 2147483587/\z % 2147483587<2147483587:=fun z=>⟨nX _ (by decide),nW _ (by decide)⟩;have three:∀z:Int,0<=z % 2147483563/\z % 2147483563<2147483563:=fun z=>⟨nX _ (by decide),nW _ (by decide)⟩;refine⟨_,rfl,_,_,rfl,rfl,(by show(0:Int)<1000000007;decide),_,_,rfl,rfl,nO (by decide) (by decide),_,rfl,_,_,rfl,rfl,nO (by decide) (by decide),_,_,rfl,rfl,_,_,rfl,rfl,_,_,rfl,rfl,(by show(0:Int)<2147483629;decide),?_⟩;generalize l:(c % 1000000007 * 69069+a * 40503+977)=g;obtain⟨m,n⟩:=one g;generalize g % 2147483629=o at m n ⊢;refine⟨_,rfl,_,rfl,_,_,rfl,rfl,nO (by omega) (by omega),_,rfl,_,_,rfl,rfl,nO (by decide) (by decide),_,_,rfl,rfl,_,rfl,_,_,rfl,rfl,(by show(0:Int)<65537;decide),_,_,rfl,rfl,_,_,rfl,rfl,(by show(0:Int)<2147483587;decide),?_⟩;generalize p:(o * o+a * 7919+c % 65537)=i;obtain⟨s,t⟩:=two i;generalize i % 2147483587=q at s t ⊢;refine⟨_,rfl,_,rfl,_,_,rfl,rfl,nO (by omega) (by omega),_,rfl,_,_,rfl,rfl,nO (by decide) (by decide),_,_,rfl,rfl,_,_,rfl,rfl,_,_,rfl,rfl,(by show(0:Int)<2147483563;decide),?_⟩;generalize u:(q * q+o * 31+5)=j;obtain⟨v,w⟩:=three j;generalize j % 2147483563=r at v w ⊢;refine⟨_,rfl,_,_,rfl,rfl,nO (by decide) (by decide),_,rfl,_,_,rfl,rfl,_,_,rfl,rfl,nO (by decide) (by decide),_,rfl,_,_,rfl,rfl,k _ ?_⟩;omega
def vv:Sp:=fun vs H Q _=>∃p c,vs=[.ref p]/\fV H p c/\∀H',fV H' p c->cD p H H'->Q (.ref p) H'
theorem Ep{K:Za}{e:List V}{H:Hp}{Q:VK}{E:XK}(h:vv e H Q E):yi K (bQ Q) (start zR e) H:=by
 obtain⟨p,c,rfl,⟨a,r,f,h⟩,k⟩:=h;refine⟨_,rfl,p,_,_,_,rfl,rfl,h.pen,rfl,_,rfl,k _ ⟨a,0,f,aa,?_,h.at0,Int.le_refl 0⟩ (cD.upd _ _ _)⟩;rw[ai h.ne];exact h.cells
theorem AO{ns:List Int}{a:Int}(e:0<=a)(g:a<ns.length):∃z,xV (ns.map V.int) a=some (.int z):=by
 obtain⟨n,rfl⟩:=j7 e;have f:n<ns.length:=by omega
 exact⟨ns[n],bZ (by simp[f])⟩
inductive eV (vs:List V)(H:Hp)(Q:VK)(E:XK):Prop
 |mk (p c:Addr) (m:Int):(vs=[.ref p,.int m])->(fV H p c)->(0<m)->(m<1073741824)->(∀(r:Int) (H':Hp),0<=r->r<m->fV H' p c->cD p H H'->Q (.int r) H')->eV  vs H Q E
theorem d6{H:Hp}{Q:VK}{E:XK}{p c:Addr}{m:Int}(e:fV H p c)(f:0<m)(g:m<1073741824)(k:∀(r:Int) (a:Hp),0<=r->r<m->fV a p c->cD p H a->Q (.int r) a):eV [.ref p,.int m] H Q E:=by
 exact⟨p,c,m,rfl,e,f,g,k⟩
theorem Ei{K:Za}{t:List V}{H:Hp}{Q:VK}{E:XK}(h:eV t H Q E):ye K kN (bQ Q) (start zN t) H:=by
 obtain⟨p,c,m,rfl,⟨a,r,ns,h⟩,j,l,k⟩:=h;have f:∀(H':Hp) (n u:Int) (x y:Option V),AT H' p c n u ns->cD p H H' ->
   (ao (aG (aB iT (aB (d_ K) V0 (tC (.int 2))) V1) U4) (ao (aG (aB CY (aB (d_ K) V0 (tC (.int 2))) V1) (zj V0 (tC (.int 2)) rD)) (bo V4)))
    (bQ Q) [some (.ref p),some (.int m),x,y,none] H':=by
  intro H' n u x y g ex;refine⟨_,rfl,p,_,2,_,rfl,rfl,ax.of g.pen,rfl,_,rfl,_,_,rfl,rfl,j,?_⟩;refine⟨_,rfl,p,_,2,_,rfl,rfl,ax.of g.pen,rfl,_,rfl,_,_,rfl,rfl,⟨j,l⟩,_,rfl,p,_,_,_,rfl,rfl,g.pen,rfl,?_⟩;refine⟨_,rfl,k _ _ (nX _ (by omega)) (nW _ j) ⟨n,_,ns,aa,?_,g.at0,Int.ediv_nonneg g.rest0 (by omega)⟩ (ex.trans (cD.upd _ _ _))⟩;rw[ai g.ne];exact g.cells
 refine⟨_,rfl,p,_,2,_,rfl,rfl,ax.of h.pen,rfl,_,rfl,_,_,rfl,rfl,_,rfl,?_⟩;refine gV (fun B=>?_) (fun B=>?_)
 ·-- at=pen[1];cell=0;if at<len(pen[0])
  refine⟨_,rfl,p,_,1,_,rfl,rfl,ax.of h.pen,rfl,?_⟩;have o:(V.int ((ns.map V.int).length:Nat))=V.int (ns.length:Nat):=by rw[ak]
  refine⟨_,rfl,_,rfl,p,_,0,_,rfl,rfl,ax.of h.pen,rfl,.inl ⟨c,_,rfl,.inl (ax.of h.cells),_,_,rfl,o,_,rfl,?_⟩⟩;refine gV (fun v=>?_) (fun v=>?_)
  ·obtain⟨z,s⟩:=AO (ns:=ns) h.at0 (of_decide_eq_true v);refine⟨_,rfl,p,_,0,_,rfl,rfl,ax.of h.pen,rfl,_,rfl,c,_,_,_,rfl,rfl,ax.of h.cells,s,?_⟩;refine⟨_,rfl,_,_,rfl,rfl,_,rfl,p,_,_,_,rfl,rfl,h.pen,rfl,?_⟩;refine⟨_,rfl,_,rfl,_,_,rfl,h.at0,fun q i=>⟨_,rfl,p,_,_,_,rfl,rfl,aa,rfl,?_⟩⟩;rw[mW];refine f _ (a+1) q _ _ ⟨aa,by rw[ai h.ne];exact h.cells,by have:=h.at0;omega,i⟩ (cD.upd _ _ _)
  ·refine⟨_,rfl,p,_,0,_,rfl,rfl,ax.of h.pen,rfl,.inl ⟨c,_,rfl,.inl (ax.of h.cells),_,_,o,rfl,_,rfl,?_⟩⟩;refine gV (fun w=>?_) (fun w=>?_)
   ·have A:(0:Int)<ns.length:=of_decide_eq_true w;obtain⟨z,s⟩:=AO (ns:=ns) (a:=(a * 5+3) % (ns.length:Int)) (nX _ (by omega)) (nW _ A);refine⟨_,rfl,p,_,0,_,rfl,rfl,ax.of h.pen,rfl,_,rfl,_,_,rfl,rfl,nO (by decide) (by decide),_,_,rfl,rfl,_,rfl,p,_,0,_,rfl,rfl,ax.of h.pen,rfl,.inl ⟨c,_,rfl,.inl (ax.of h.cells),_,_,rfl,o,A,c,_,_,_,rfl,rfl,ax.of h.cells,s,?_⟩⟩;refine⟨_,_,rfl,rfl,⟨by decide,by decide,by decide⟩,_,rfl,_,_,rfl,rfl,_,_,rfl,rfl,?_,?_⟩
    ·have e:((10:Int) ^ (17:Int).toNat)=100000000000000000:=by decide
     have:=h.at0;show(0:Int)<10 ^ (17:Int).toNat+a;omega
    refine⟨_,rfl,_,_,rfl,rfl,_,rfl,p,_,_,_,rfl,rfl,h.pen,rfl,?_⟩;refine⟨_,rfl,_,rfl,_,_,rfl,h.at0,fun q i=>⟨_,rfl,p,_,_,_,rfl,rfl,aa,rfl,?_⟩⟩;rw[mW];refine f _ (a+1) q _ _ ⟨aa,by rw[ai h.ne];exact h.cells,by have:=h.at0;omega,i⟩ (cD.upd _ _ _)
   ·refine⟨_,rfl,_,_,rfl,rfl,_,rfl,p,_,_,_,rfl,rfl,h.pen,rfl,?_⟩;refine⟨_,rfl,_,rfl,_,_,rfl,h.at0,fun q i=>⟨_,rfl,p,_,_,_,rfl,rfl,aa,rfl,?_⟩⟩;rw[mW];refine f _ (a+1) q _ _ ⟨aa,by rw[ai h.ne];exact h.cells,by have:=h.at0;omega,i⟩ (cD.upd _ _ _)
 ·exact f H a r _ _ h (cD.refl _ _)
inductive pX(K:Za)(vs:List V)(H:Hp)(Q:VK)(E:XK):Prop
 |mk (a:Addr) (ns:List Int):(vs=[.ref a])->(ax K H a (ns.map V.int))->(ns.length<=63)->(∀(p c:Addr) (H':Hp),H p=none->fV H' p c->ac H H'->Q (.ref p) H')->pX K vs H Q E
theorem uy(a:List Int)(lo hi:Option Int):∃e:List Int,iF (a.map V.int) lo hi=e.map V.int/\e.length=(iF (a.map V.int) lo hi).length:=by
 refine⟨(a.drop (HT.sIx (a.map V.int).length 0 lo)).take (HT.sIx (a.map V.int).length (a.map V.int).length hi-HT.sIx (a.map V.int).length 0 lo),?_,?_⟩
 ·unfold iF;rw[List.map_take,List.map_drop]
 ·unfold iF;rw[bm,bm,ii,ii,ak]
theorem Ek{K:Za}{vs:List V}{H:Hp}{Q:VK}{E:XK}(h:pX K vs H Q E):yf K (bQ Q) (start zO vs) H:=by
 obtain⟨a,s,rfl,hs,hn,k⟩:=h;obtain⟨D,e0,l0⟩:=uy s none (some 12);obtain⟨B,e1,l1⟩:=uy s (some 12) (some 63);have G:B≠[]->D.length=12:=by
  intro L;have l:0<B.length:=by cases B with|nil=>exact absurd rfl L|cons _ _=>simp
  rw[l1]at l;rw[l0];unfold iF at l ⊢;rw[bm,ii,ak]at l;rw[bm,ii,ak];have s1:HT.sIx s.length 0 (some 12)=min 12 s.length:=HT.sIx_nat _ _ 12;have s2:HT.sIx s.length s.length (some 12)=min 12 s.length:=HT.sIx_nat _ _ 12;rw[HT.sIx_none,s2];rw[s1]at l;omega
 refine⟨_,rfl,_,rfl,a,_,rfl,hs,fun q hq=>.inl ⟨q,_,rfl,.inl (ax.of aa),fun c C=>?_⟩⟩;rw[e0]at C ⊢;have M:H c=none:=by
  have:c≠q:=fun z=>by subst z;rw[aa]at C;cases C
  rw[ai this]at C;exact C
 have hS:ac H (upd (upd H q (.lst (D.map V.int))) c (.lst (D.map V.int))):=(ac.new hq).trans (ac.new C);refine⟨_,rfl,_,rfl,_,rfl,a,_,rfl,hS.seq hs,fun r N=>⟨r,rfl,⟨_,ax.of aa⟩,?_⟩⟩;rw[e1];have O:c≠r:=ae aa N
 let T:Nat->L2.St->Hp->Prop:=fun i σ w=>He fun(j:List Int) (x y:Option V)=>Gr (σ=[some (.ref a),some (.ref c),x,y]) (w c=some (.lst (j.map V.int))) (j.length=D.length) (w r=some (.lst (B.map V.int))) (ac H w)
 refine iz (xs:=B.map V.int) T
  ⟨D,none,none,rfl,kp aa N,rfl,aa,hS.trans (ac.new N)⟩ (fun i σ w _ zq=>by obtain⟨j,x,y,_,_,_,h,_⟩:=zq;exact ax.of h) ?_ ?_
 ·rintro i x σ w t hi ⟨j,u,v,rfl,f,I,J,m⟩ U;have A:i<B.length:=by
   have:=(cE.mp hi).1;rwa[ak]at this
  have an:=G (fun z=>by rw[z]at A;simp at A);obtain⟨z,rfl⟩:∃z,x=V.int z:=by
   rw[eG,nY A]at hi;exact⟨_,(eR hi).symm⟩
  have g:upd w t (.tup [.int i,.int z]) c=some (.lst (j.map V.int)):=kp f U;have n:(i:Int) % 12=((i % 12:Nat):Int):=by omega
  have Y:i % 12<j.length:=by omega
  refine⟨t,_,rfl,bc.of aa,rfl,_,_,rfl,_,_,rfl,rfl,?_⟩;have al:xV (j.map V.int) ((i:Int) % 12)=some (.int j[i % 12]):=by rw[n];exact bZ (by simp[Y])
  refine⟨_,rfl,_,rfl,_,_,rfl,rfl,(by show(0:Int)<12;decide),c,_,_,_,rfl,rfl,ax.of g,al,_,rfl,_,_,rfl,rfl,_,rfl,_,rfl,_,_,rfl,rfl,(by show(0:Int)<12;decide),c,_,_,i % 12,rfl,rfl,g,?_,?_⟩
  ·rw[n];unfold DU;rw[if_pos (by omega),if_pos (by rw[ak];omega)];rw[j_]
  ·refine⟨j.set (i % 12) (j[i % 12]+z),_,_,rfl,?_,by rw[List.length_set];exact I,?_,?_⟩
   ·rw[aa,List.map_set]
   ·rw[ai O.symm];exact kp J U
   ·intro b o e;rw[ai (ae e M)];exact kp (m b o e) U
 ·rintro σ w ⟨j,x,y,rfl,f,I,J,m⟩;refine⟨_,rfl,(by show 3<=aj;decide),fun p hp=>k p c _ (m.free hp) ⟨0,0,j,aa,kp f hp,Int.le_refl _,Int.le_refl _⟩ (m.trans (ac.new hp))⟩
def vL(c:Nat):Prop:=97<=c/\c<=122
structure oY(w:Str):Prop where
 lo:1<=w.length
 hi:w.length<=8
 al:∀c∈w.cps.toList,vL c
theorem AR:∀n:Nat,n<26->(("abcdefghijklmnopqrstuvwxyz":Str).cps.toList)[n]?=some (97+n):=by decide +kernel
theorem AQ:("abcdefghijklmnopqrstuvwxyz":Str).length<=aj:=by decide +kernel
theorem DH{r:Int}(a:0<=r)(e:r<26):xV (("abcdefghijklmnopqrstuvwxyz":Str).cps.toList) r=some (97+r.toNat):=by
 obtain⟨n,rfl⟩:=j7 a;rw[j_];exact bZ (AR n (by omega))
theorem tI(f:List Nat):∀a:Array Nat,((f.map fun c=>(⟨#[c]⟩:Str)).foldl (fun a p=>a++("":Str).cps++p.cps) a).toList=a.toList++f:=by
 have e:("":Str).cps=#[]:=by decide +kernel
 induction f with
 |nil=>intro a;simp
 |cons c f g =>
  intro a;rw[bx,List.foldl_cons,g,e];simp
theorem y6(a:List Nat):(uR "" (a.map fun c=>(⟨#[c]⟩:Str))).cps.toList=a:=by
 unfold uR cO.Str.glued;cases a with
 |nil=>rfl
 |cons c a =>
  rw[bx];show((a.map fun c=>(⟨#[c]⟩:Str)).foldl (fun e p=>e++("":Str).cps++p.cps) #[c]).toList=_;rw[tI]
  rfl
theorem Eg{a b:Str}(h:a.cps.toList=b.cps.toList):a=b:=by
 cases a with|mk x=>cases b with|mk y=>exact congrArg Str.mk (Array.toList_inj.mp h)
theorem eU(a:Str):a.length=a.cps.toList.length:=by simp[Str.length]
theorem v9(a b:Str):(a++b).cps.toList=a.cps.toList++b.cps.toList:=by
 show(a.cps++b.cps).toList=_;simp
theorem Dy(z:Str)(m:Nat):(sk z none (some (m:Int))).cps.toList=z.cps.toList.take m:=by
 unfold sk;rw[HT.sIx_none,HT.sIx_nat,qz,Nat.sub_zero,eU];show List.take _ _=_;rw[List.take_eq_take_iff];omega
theorem Dz(z:Str)(m:Nat):(sk z (some (m:Int)) none).cps.toList=z.cps.toList.drop m:=by
 unfold sk;rw[HT.sIx_none,HT.sIx_nat,eU];show List.take _ _=_;rw[List.take_of_length_le (by rw[ii];omega)];by_cases h:m<=z.cps.toList.length
 ·rw[Nat.min_eq_left h]
 ·rw[Nat.min_eq_right (by omega),List.drop_length,uP (by omega)]
def eI(way size k:Nat):Nat:=(size+k * (way % 2)) % 8
def xU(way m:Nat):Nat:=if way=0 then 0 else if way=1 then m else m / 2
def lE(b:List Nat)(way turn size k:Nat):List Nat :=
 (b.take (eI way size k)).take (xU way (eI way size k))++[97+(turn+3 * k) % 26]++(b.take (eI way size k)).drop (xU way (eI way size k))
def ww(b:List Nat)(way turn size k:Nat):Str:=⟨(lE b way turn size k).toArray⟩
theorem ol{b:List Nat}(f:b.length=7)(e turn a k:Nat):(lE b e turn a k).length=eI e a k+1:=by
 have g:eI e a k<8:=qt _ (by decide);unfold lE;rw[aD,aD,bm,ii,bm,f];have:xU e (eI e a k)<=eI e a k:=by unfold xU;split;omega;split;omega;omega
 simp;omega
theorem D0{b:List Nat}(i:b.length=7)(g:∀c∈b,vL c)(f turn a k:Nat):oY (ww b f turn a k):=by
 have j:eI f a k<8:=qt _ (by decide);have h:=ol i f turn a k;have e:(ww b f turn a k).cps.toList=lE b f turn a k:=by simp[ww]
 refine⟨?_,?_,?_⟩
 ·rw[eU,e];omega
 ·rw[eU,e];omega
 ·rw[e];intro c hc;unfold lE at hc;rcases bg.mp hc with hc|hc
  ·rcases bg.mp hc with hc|hc
   ·exact g c (fy (fy hc))
   ·have:c=97+(turn+3 * k) % 26:=by simpa using hc
    subst this;have:(turn+3 * k) % 26<26:=qt _ (by decide);exact⟨by omega,by omega⟩
  ·exact g c (fy (List.mem_of_mem_drop hc))
theorem Ch{b:List Nat}(g:b.length=7){f turn a:Nat}(t:f<3){j k:Nat}(u:j<26)(v:k<26)(h:ww b f turn a j=ww b f turn a k):j=k:=by
 have o:∀i,eI f a i<8:=fun i=>qt _ (by decide);have e:lE b f turn a j=lE b f turn a k:=by
  have:=congrArg (fun s=>Str.cps s |>.toList) h;simpa[ww]using this
 have p:eI f a j=eI f a k:=by
  have:=congrArg List.length e;rw[ol g,ol g]at this;omega
 have q:97+(turn+3 * j) % 26=97+(turn+3 * k) % 26:=by
  have l:∀i,xU f (eI f a i)<=eI f a i:=fun i=>by unfold xU;split;omega;split;omega;omega
  have get:∀i,(lE b f turn a i)[xU f (eI f a i)]?=some (97+(turn+3 * i) % 26):=by
   intro i;unfold lE;have r:((b.take (eI f a i)).take (xU f (eI f a i))).length=xU f (eI f a i):=by
    rw[bm,bm,g];have:=o i;have:=l i;omega
   rw[dw,l5 (by omega),r,qr]
   rfl
  have m:=get j;have n:=get k;rw[e,p]at m;rw[m]at n;exact eR n
 omega
def hU(ws:Zb):Prop:=ws.Nodup/\∀w∈ws,oY w
def jC(b:List Nat)(way turn size n:Nat):List Str:=(mU n).map (ww b way turn size)
theorem xY{b:List Nat}(g:b.length=7)(i:∀c∈b,vL c){a turn e n:Nat}(l:a<3)(q:n<=26):hU (jC b a turn e n):=by
 refine⟨?_,fun w m=>?_⟩
 ·unfold jC;rw[List.nodup_iff_pairwise_ne,List.pairwise_map];refine(List.nodup_range (n:=n)).imp_of_mem ?_;intro j k o p f h;exact f (Ch g l (by have:=List.mem_range.mp o;omega) (by have:=List.mem_range.mp p;omega) h)
 ·obtain⟨k,_,rfl⟩:=aK.mp m;exact D0 g i _ _ _ _
inductive nj (vs:List V)(H:Hp)(Q:VK)(E:XK):Prop
 |mk (p c:Addr) (n:Nat):(vs=[.ref p,.int n])->(fV H p c)->(n<=26)->(∀(l:Addr) (ws:Zb) (H':Hp),hU ws->ws.length=n->H l=none->H' l=some (.lst (ws.map V.str))->fV H' p c->cD p H H'->Q (.ref l) H')->nj  vs H Q E
theorem CL{K:Za}{A:List V}{H:Hp}{Q:VK}{E:XK}(h:nj A H Q E):wH K eV (bQ Q) (start xR A) H:=by
 obtain⟨p,c,n,rfl,C,hn,k⟩:=h;refine⟨rfl,7,rfl,by decide,by decide,fun l I=>?_⟩
 let as:Nat->List V->Hp->Prop:=fun i A u=>∃o:List Nat,A=o.map (fun c=>V.str ⟨#[c]⟩)/\o.length=i/\(∀c∈o,vL c)/\fV u p c/\cD p H u/\u l=some (.lst A)
 refine zA (lo:=0) (n:=Int.toNat 7) as
  ⟨[],rfl,rfl,(fun _ h=>nomatch h),C.ex (ac.new I),cD.new I,aa⟩ (fun i A u _ zq=>by obtain⟨_,_,_,_,_,_,h⟩:=zq;exact h) ?_ ?_
 rotate_left
 ·rintro i A u hi ⟨o,rfl,g,w,v,aC,aS⟩;have J:=C.nep I;have a0:=C.nec I;refine gN (u_ ?_);refine⟨_,rfl,_,rfl,d6 v (by decide) (by decide) fun r H2 h0 h1 D s=>⟨_,r,_,rfl,rfl,AQ,DH h0 h1,?_⟩⟩;have a4:=s l _ aS J.symm;refine⟨a4,by rw[ak,g];exact ay (by omega),kq hi ⟨o++[97+r.toNat],by rw[ar];rfl,by rw[aD,g];rfl,?_,D.upd J a0,?_,aa⟩⟩
  ·intro x hc;rcases bg.mp hc with hc|hc
   ·exact w x hc
   ·have:x=97+r.toNat:=by simpa using hc
    subst this;exact⟨by omega,by omega⟩
  ·intro b o' e nb;rw[ai (ae e I)];exact s b o' (aC b o' e nb) nb
 ·rintro A H1 ⟨o,rfl,g,w,a5,L,a6⟩;refine⟨"",l,o.map fun c=>(⟨#[c]⟩:Str),rfl,rfl,ax.of (by rw[a6,nV];rfl),?_,?_⟩
  ·have e0:("":Str).length=0:=by decide +kernel
   rw[e0,Nat.mul_zero,nV];have:∀o:List Nat,(o.map ((fun x=>Str.length x) ∘ fun c=>(⟨#[c]⟩:Str))).sum=o.length:=by
    intro o
    induction o with
    |nil=>rfl
    |cons c o ih=>rw[bx,List.sum_cons,ih,gA];show 1+_=_;omega
   rw[this,g];decide
  refine⟨_,rfl,d6 a5 (by decide) (by decide) fun bl H2 w0 w1 D s=>?_⟩;refine⟨_,rfl,d6 D (by decide) (by decide) fun turn H3 t0 t1 a7 M=>?_⟩;refine⟨_,rfl,d6 a7 (by decide) (by decide) fun bi H4 s0 s1 N O=>?_⟩;have T:cD p H H4:=((L.trans s).trans M).trans O;obtain⟨j,rfl⟩:=j7 w0;obtain⟨G,rfl⟩:=j7 t0;obtain⟨sz,rfl⟩:=j7 s0;have hb:=y6 o;generalize uR "" (o.map fun c=>(⟨#[c]⟩:Str))=base at hb ⊢;refine⟨(by show 0<=aj;decide),fun f hf=>?_⟩;obtain⟨op,a8⟩:=N.pen;have y:H f=none:=T.free a8 hf;have U:=C.nep y;have Y:=C.nec y;refine⟨_,rfl,n,rfl,by omega,by omega,kY (lo:=0) (n:=((n:Int)).toNat) (fun i σ u=>∃(a b c' d:Option V),σ=[some (.ref p),some (.int n),some (.str "abcdefghijklmnopqrstuvwxyz"),some (.str base),some (.int j),some (.int G),some (.int sz),some (.ref f),a,b,c',d] /\
   fV u p c/\cD p H u/\u f=some (.lst ((jC o j G sz i).map V.str)))
   ⟨_,_,_,_,rfl,N.upd U Y,T.trans (cD.new hf),aa⟩ ?_ ?_⟩
  ·rintro i σ u hi ⟨a,b,c',d,rfl,v,t,z⟩;have bn:i<n:=by omega
   have b1:j<3:=by omega
   have a9:((G:Int)+3 * (0+(i:Int))) % 26=(((G+3 * i) % 26:Nat):Int):=by omega
   refine⟨_,rfl,_,rfl,_,rfl,_,_,rfl,rfl,.inl ⟨by decide,by decide⟩,_,_,rfl,rfl,_,_,rfl,rfl,(by show(0:Int)<26;decide),_,_,_,rfl,rfl,AQ,DH (nX _ (by decide)) (nW _ (by decide)),?_⟩;have al:base.length<=aj:=by rw[eU,hb,g];decide
   have e8:((sz:Int)+(0+(i:Int)) * ((j:Int) % 2)) % 8=((eI j sz i:Nat):Int):=by
    unfold eI;have:j=0∨j=1∨j=2:=by omega
    rcases this with rfl|rfl|rfl<;>simp<;>omega
   refine⟨_,rfl,_,rfl,_,rfl,_,rfl,_,_,rfl,rfl,(by show(0:Int)<2;decide),_,_,rfl,rfl,.inr ⟨by omega,by omega⟩,_,_,rfl,rfl,_,_,rfl,rfl,(by show(0:Int)<8;decide),_,rfl,base,rfl,al,?_⟩;rw[e8];have m:=Dy base (eI j sz i);rw[hb]at m;generalize sk base none (some ((eI j sz i:Nat):Int))=part at m ⊢;have h8:eI j sz i<8:=qt _ (by decide);have B:part.length=eI j sz i:=by rw[eU,m,bm,g];omega
   have pz:part.length<=aj:=by rw[B];exact fj (ay (by omega))
   refine⟨_,rfl,.inr ⟨part,rfl,pz,_,rfl,.inr ⟨part,rfl,pz,_,_,rfl,rfl,⟨by decide,by decide⟩,(by show 3<=aj;decide),fun q hq=>?_⟩⟩⟩;have an:H q=none:=by
    obtain⟨b2,ap⟩:=v.pen;exact t.free ap hq
   have bb:xV [V.int 0,V.int (part.length:Nat),V.int ((part.length:Int) / 2)] (j:Int)=some (.int (xU j (eI j sz i):Nat)):=by
    rw[B];have:j=0∨j=1∨j=2:=by omega
    rcases this with rfl|rfl|rfl
    ·rfl
    ·rfl
    ·show some (V.int (((eI 2 sz i:Nat):Int) / 2))=some (V.int ((xU 2 (eI 2 sz i):Nat):Int));have:xU 2 (eI 2 sz i)=eI 2 sz i / 2:=rfl;rw[this];congr 2
   refine⟨_,rfl,q,_,_,_,rfl,rfl,ax.of aa,bb,?_⟩;have aq:upd u q (.lst [V.int 0,V.int (part.length:Nat),V.int ((part.length:Int) / 2)]) f=some (.lst ((jC o j G sz i).map V.str)):=kp z hq;have c1:=Dy part (xU j (eI j sz i));have c2:=Dz part (xU j (eI j sz i));have l1:(sk part none (some ((xU j (eI j sz i):Nat):Int))).length<=8:=by rw[eU,c1,bm,m,bm,g];omega
   have l2:(sk part (some ((xU j (eI j sz i):Nat):Int)) none).length<=8:=by rw[eU,c2,ii,m,bm,g];omega
   refine⟨_,rfl,.inl ⟨rfl,_,ax.of aq⟩,_,rfl,_,rfl,_,rfl,part,rfl,pz,_,rfl,_,_,rfl,rfl,?_,_,rfl,_,rfl,_,rfl,part,rfl,pz,_,_,rfl,rfl,?_,f,_,_,rfl,rfl,aq,?_,?_⟩
   ·have:Str.length ⟨#[97+(((G:Int)+3 * (0+(i:Int))) % 26).toNat]⟩=1:=rfl;rw[this];exact fj (ay (by omega))
   ·rw[eU,v9,aD,<-eU,<-eU];have:Str.length ⟨#[97+(((G:Int)+3 * (0+(i:Int))) % 26).toNat]⟩=1:=rfl;rw[this];exact fj (ay (by omega))
   ·rw[ak];unfold jC;rw[ak,List.length_range];exact ay (by omega)
   ·refine⟨_,_,_,_,rfl,(v.upd (C.nep an) (C.nec an)).upd U Y,?_,?_⟩
    ·intro b' o' e nb;rw[ai (ae e y)];exact kp (t b' o' e nb) hq
    ·rw[aa];unfold jC;rw[List.range_succ,ar,ar];congr 3;show[V.str _]=[V.str _];congr 2;refine Eg ?_;rw[v9,v9,c1,c2,m,a9,j_];simp[ww,lE]
  ·rintro σ u ⟨a,b,c',d,rfl,v,t,z⟩;have en:((n:Int)).toNat=n:=by omega
   rw[en]at z;exact⟨_,rfl,k f _ u (xY g w (by omega) hn) (by unfold jC;rw[ak,List.length_range]) y z v t⟩
structure ag where
 a:Str
 sg:List Str
 b:Str
deriving DecidableEq
def SignAt(H:Hp)(s:Addr)(sg:Zb):Prop:=H s=some (.tup (sg.map V.str))
def eO(H:Hp)(t:Addr)(d:ag):Prop:=∃s,H t=some (.tup [.str d.a,.ref s,.str d.b])/\SignAt H s d.sg
def iI(H H':Hp):Prop:=∀b xs,H b=some (.tup xs)->H' b=some (.tup xs)
theorem eO.kt{H H':Hp}{t:Addr}{d:ag}(k:iI H H')(h:eO H t d):eO H' t d:=by
 obtain⟨s,a,e⟩:=h;exact⟨s,k _ _ a,k _ _ e⟩
theorem cD.kt{p:Addr}{H a:Hp}{f:List V}(e:cD p H a)(g:H p=some (.lst f)):iI H a:=fun b i h=>e b _ h (fun z=>by rw[z,g]at h;cases h)
theorem ac.kt{H a:Hp}(e:ac H a):iI H a:=fun b f h=>e b _ h
theorem iI.trans{H e f:Hp}(a:iI H e)(b:iI e f):iI H f:=fun x g h=>b x g (a x g h)
theorem cv{H:Hp}{l:Addr}{a:List V}{o:HO}(h:H l=some (.lst a)):iI H (upd H l o):=fun b f e=>by
 rw[ai (fun z=>by rw[z,h]at e;cases e)];exact e
abbrev b0(H:Hp)(ts:Ze)(ds:List ag):Prop:=Paired (eO H) ts ds
theorem Paired.get{α β:Type}{R:α->β->Prop}{a:List α}{e:List β}{i:Nat}{y:β}(g:Paired R a e)(h:e[i]?=some y):∃x,a[i]?=some x/\R x y:=by
 induction g generalizing i with
 |nil=>cases h
 |cons r _ f =>
  cases i with
  |zero=>injection h with h;subst h;exact⟨_,rfl,r⟩
  |succ i=>exact f h
theorem Paired.getL{α β:Type}{R:α->β->Prop}{a:List α}{e:List β}{i:Nat}{x:α}(g:Paired R a e)(h:a[i]?=some x):∃y,e[i]?=some y/\R x y:=by
 induction g generalizing i with
 |nil=>cases h
 |cons r _ f =>
  cases i with
  |zero=>injection h with h;subst h;exact⟨_,rfl,r⟩
  |succ i=>exact f h
theorem b0.kt{H H':Hp}{a:Ze}{e:List ag}(k:iI H H')(h:b0 H a e):b0 H' a e:=Paired.mapP h fun _ _ r=>r.kt k
theorem FL{H:Hp}{a:Addr}{o:HO}(h:H a=some o):upd H a o=H:=by
 funext b;by_cases e:b=a
 ·subst e;rw[aa,h]
 ·rw[ai e]
def dX(x:Str):DT:=.k (.inr x)
def lq(d:ag):DT:=.t [dX d.a,.t (d.sg.map dX),dX d.b]
theorem nv{x y:Str}(h:dX x=dX y):x=y:=by
 unfold dX at h;injection h with h;injection h
theorem iU:∀{x y:Zb},x.map dX=y.map dX->x=y
 |[],[],_=>rfl
 |[],_::_,h=>by cases h
 |_::_,[],h=>by cases h
 |a::x,b::y,h=>by
  rw[bx,bx]at h;injection h with e f;rw[nv e,iU f]
theorem AM{x y:ag}(h:lq x=lq y):x=y:=by
 unfold lq at h;injection h with h;injection h with e h;injection h with a h;injection h with f h;injection a with a;cases x;cases y;simp only at *;rw[nv e,iU a,nv f]
theorem cT(a:Zb):DT.depths (a.map dX)=0:=by
 induction a with
 |nil=>rfl
 |cons x a e=>rw[bx];show max (DT.depth (dX x)) (DT.depths _)=0;rw[e];rfl
theorem k4(d:ag):(lq d).depth=2:=by
 show DT.depths [dX d.a,.t (d.sg.map dX),dX d.b]+1=2;show max (DT.depth (dX d.a)) (max (DT.depths (d.sg.map dX)+1) (max (DT.depth (dX d.b)) 0))+1=2;rw[cT]
 rfl
theorem jw(a:List ag):DT.depths (a.map lq)<=8:=by
 induction a with
 |nil=>exact c9 _
 |cons x e f=>rw[bx];show max (DT.depth (lq x)) (DT.depths _)<=8;rw[k4];omega
theorem fH{K:Za}{H:Hp}:∀a:List Str,DIns K H (a.map dX) (a.map V.str)
 |[]=>by show DIns K H [] [];unfold DIns;rfl
 |x::a=>by
  rw[bx,bx];unfold DIns;refine⟨_,_,rfl,?_,fH a⟩;unfold dX ib
  rfl
theorem gJ{K:Za}{H:Hp}(x:Str):ib K H (dX x) (.str x):=by unfold dX ib;rfl
theorem aA{K:Za}{H:Hp}{s:Addr}{a:Zb}(h:bc K H s (a.map V.str)):ib K H (.t (a.map dX)) (.ref s):=by
 unfold ib;exact⟨s,_,rfl,h,fH _⟩
theorem eO.dIn{K:Za}{H:Hp}{t:Addr}{d:ag}(h:eO H t d):ib K H (lq d) (.ref t):=by
 obtain⟨s,a,e⟩:=h;unfold lq;unfold ib;refine⟨t,_,rfl,bc.of a,?_⟩;unfold DIns;refine⟨_,_,rfl,gJ _,?_⟩;unfold DIns;refine⟨_,_,rfl,aA (bc.of e),?_⟩;unfold DIns;refine⟨_,_,rfl,gJ _,?_⟩;unfold DIns
 rfl
theorem b0.dIns{K:Za}{H:Hp}{a:Ze}{e:List ag}(h:b0 H a e):DIns K H (e.map lq) (a.map V.ref):=by
 induction h with
 |nil=>show DIns K H [] [];unfold DIns;rfl
 |cons r _ f =>
  rw[bx,bx];unfold DIns;exact⟨_,_,rfl,r.dIn,f⟩
theorem vK{d:ag}{a:List ag}:lq d∈a.map lq↔d∈a:=by
 constructor
 ·intro h;obtain⟨x,hx,e⟩:=aK.mp h;rw[<-AM e];exact hx
 ·exact i4
def yQ(ds:List ag)(d:ag):List ag:=if d∈ds then ds else ds++[d]
inductive rq (vs:List V)(H:Hp)(Q:VK)(E:XK):Prop
 |mk (l t:Addr) (ts:Ze) (ds:List ag) (d:ag):(vs=[.ref l,.ref t])->(H l=some (.lst (ts.map V.ref)))->(b0 H ts ds)->(eO H t d)->(ds.length<=1000)->(∀ts':List Addr,b0 H ts' (yQ ds d)->Q .non (upd H l (.lst (ts'.map V.ref))))->rq  vs H Q E
theorem FP{K:Za}{i:List V}{H:Hp}{Q:VK}{E:XK}(h:rq i H Q E):A8 K (bQ Q) (start B6 i) H:=by
 obtain⟨l,t,j,g,d,rfl,a,e,m,n,k⟩:=h;refine⟨_,rfl,_,rfl,lq d,g.map lq,l,_,m.dIn,rfl,.inl (ax.of a),e.dIns,by rw[k4];decide,jw g,_,rfl,?_⟩;by_cases f:d∈g
 ·rw[if_pos rfl,zzr1 (vK.mpr f)];refine aU ?_;have:=k j (by unfold yQ;rw[if_pos f];exact e);rw[FL a]at this;exact this
 ·rw[if_pos rfl,zzr0 (fun z=>f (vK.mp z))];refine bN ?_;refine⟨_,rfl,.inl ⟨rfl,_,ax.of a⟩,_,rfl,l,_,_,rfl,rfl,a,?_,?_⟩
  ·rw[ak,Paired.length e];exact ay n
  ·have:=k (j++[t]) (by unfold yQ;rw[if_neg f];exact eX e m);rw[ar]at this;exact this
structure DI(R:ag->Prop)(H0:Hp)(p c l:Addr)(m:Nat)(H:Hp):Prop where
 pen:fV H p c
 ds:∃ts ds,H l=some (.lst (ts.map V.ref))/\b0 H ts ds/\ds.Nodup/\(∀d∈ds,R d)/\ds.length<=m
 ex:cD p H0 H
 fr:H0 l=none
 pl:p≠l
 cl:c≠l
section
variable{R:ag->Prop}{H0 H H':Hp}{p c l:Addr}{m:Nat}
theorem fV.lst{H:Hp}{p c:Addr}(h:fV H p c):∃e,H p=some (.lst e):=by
 obtain⟨a,r,g,f,_⟩:=h;exact⟨_,f⟩
theorem DI.took(h:DI R H0 p c l m H)(a:fV H' p c)(e:cD p H H'):DI R H0 p c l m H':=by
 obtain⟨f,g,i,j,k⟩:=h.ds;obtain⟨n,hx⟩:=h.pen.lst;exact⟨a,⟨f,g,e _ _ i h.pl.symm,j.kt (e.kt hx),k⟩,h.ex.trans e,h.fr,h.pl,h.cl⟩
theorem DI.new(h:DI R H0 p c l m H){q:Addr}{o:HO}(a:H q=none):DI R H0 p c l m (upd H q o) :=
 h.took (h.pen.ex (ac.new a)) (cD.new a)
theorem DI.up(h:DI R H0 p c l m H){n:Nat}(a:m<=n):DI R H0 p c l n H:=by
 obtain⟨e,f,g,i,j,k,o⟩:=h.ds;exact⟨h.pen,⟨e,f,g,i,j,k,bp o a⟩,h.ex,h.fr,h.pl,h.cl⟩
theorem DI.put(h:DI R H0 p c l m H){t:Addr}{d:ag}{Q:VK}{E:XK}(r:eO H t d)(s:R d)(u:m<=1000)(k:∀H',DI R H0 p c l (m+1) H'->Q .non H'):rq [.ref l,.ref t] H Q E:=by
 obtain⟨v,f,i,w,j,q,y⟩:=h.ds;refine⟨l,t,v,f,d,rfl,i,w,r,bp y u,fun g z=>k _ ⟨h.pen.upd h.pl h.cl,⟨g,yQ f d,aa,z.kt (cv i),?_,?_,?_⟩,?_,h.fr,h.pl,h.cl⟩⟩
 ·unfold yQ;split
  ·exact j
  ·next A =>
   rw[cG];refine⟨j,by simp,?_⟩;intro a B b C e;have:b=d:=by simpa using C
   subst this;exact A (e▸B)
 ·intro x hx;unfold yQ at hx;split at hx
  ·exact q x hx
  ·rcases bg.mp hx with hx|hx
   ·exact q x hx
   ·have:x=d:=by simpa using hx
    rw[this];exact s
 ·unfold yQ;split
  ·omega
  ·rw[aD];show f.length+1<=m+1;omega
 ·intro b o e n;rw[ai (ae e h.fr)];exact h.ex b o e n
end
theorem fV.ne_strs{H:Hp}{p c a:Addr}{g:Zb}(h:fV H p c)(f:H a=some (.lst (g.map V.str))):a≠p:=by
 intro e;obtain⟨x,y,j,i,_⟩:=h;rw[e,i]at f;injection f with f;injection f with f;cases g with
 |nil=>cases f
 |cons w g=>injection f with f;cases f
theorem p9{K:Za}{r:R2}(B:∀x y H Q,d_ K x y H Q->r x y H Q){σ:L2.St}{H:Hp}{Q:VK}{p c a:Addr}{j:Nat}{e:Zb}(C:σ[0]?=some (some (.ref p)))(o:σ[j]?=some (some (.ref a)))(q:fV H p c)
  (g:H a=some (.lst (e.map V.str))) (h:e≠[]) (s:e.length<=1000) (k:∀w∈e,∀H',fV H' p c->cD p H H'->Q (.str w) H') :
  ∃v,σ[j]?=some (some v)/\∃t,σ[0]?=some (some t)/\∃u,σ[j]?=some (some u)/\gf K [u] H fun y D=>eV [t,y] D (fun y E=>r v y E Q) E0:=by
 have I:0<e.length:=by cases e with|nil=>exact absurd rfl h|cons _ _=>simp
 have G:(V.int ((e.map V.str).length:Nat))=V.int (e.length:Nat):=by rw[ak]
 have i:=q.ne_strs g;have l:∀(x:Int) (H':Hp),0<=x->x<(e.length:Int)->fV H' p c->cD p H H'->d_ K (.ref a) (.int x) H' Q:=by
  intro x H' m z f ex;obtain⟨n,rfl⟩:=j7 m;have A:n<e.length:=by omega
  exact⟨a,_,(n:Int),.str e[n],rfl,rfl,ax.of (ex _ _ g i),bZ (by simp[A]),k _ (List.getElem_mem A) H' f ex⟩
 exact⟨_,o,_,C,_,o,.inl ⟨a,_,rfl,.inl (ax.of g),by rw[G];exact d6 q (by omega) (by omega) fun x H' m z f ex=>B _ _ _ _ (l x H' m z f ex)⟩⟩
def Up(up:Bool)(rooms:Zb)(a b:Str):Prop:=∃i j:Nat,rooms[i]?=some a/\rooms[j]?=some b/\(if up=true then i<j else j<i)
structure kG(J0 J1 rooms:Zb)(up:Bool)(d:ag):Prop where
 a:d.a∈rooms
 b:d.b∈rooms
 sg:(∃w∈J0,d.sg=[("ask":Str),w])∨(∃w∈J1,d.sg=[("say":Str),w])∨(d.sg=[("still":Str)]/\Up up rooms d.a d.b)
def stillSg:List Str:=[("still":Str)]
structure uH(J0 J1 rooms:Zb)(d:ag):Prop where
 a:d.a∈rooms
 b:d.b∈rooms
 sg:(∃w∈J0,d.sg=[("ask":Str),w])∨(∃w∈J1,d.sg=[("say":Str),w])∨d.sg=stillSg
theorem kG.d{J0 e rooms:Zb}{up:Bool}{d:ag}(h:kG J0 e rooms up d):uH J0 e rooms d:=⟨h.a,h.b,h.sg.imp id (Or.imp id And.left)⟩
inductive Reach(ds:List ag)(a:Str):Str->Prop
 |one {b:Str}(h:(⟨a,stillSg,b⟩:ag)∈ds):Reach ds a b
 |step {b c:Str}(r:Reach ds a b) (h:(⟨b,stillSg,c⟩:ag)∈ds):Reach ds a c
theorem AE{rooms:Zb}(m:rooms.Nodup){i j:Nat}{a:Str}(hi:rooms[i]?=some a)(n:rooms[j]?=some a):i=j:=by
 obtain⟨e,f⟩:=cE.mp hi;obtain⟨g,k⟩:=cE.mp n;have l:=List.pairwise_iff_getElem.mp m;rcases Nat.lt_trichotomy i j with h|h|h
 ·exact absurd (f.trans k.symm) (l i j e g h)
 ·exact h
 ·exact absurd (k.trans f.symm) (l j i g e h)
theorem Up.trans{up:Bool}{rooms:Zb}(f:rooms.Nodup){a b c:Str}(g:Up up rooms a b)(l:Up up rooms b c):Up up rooms a c:=by
 obtain⟨i,j,m,n,h⟩:=g;obtain⟨q,k,o,p,e⟩:=l;have:=AE f n o;subst this;refine⟨i,k,m,p,?_⟩;cases up
 ·simp at h e ⊢;omega
 ·simp at h e ⊢;omega
theorem Up.irr{up:Bool}{rooms:Zb}(e:rooms.Nodup){a:Str}(h:Up up rooms a a):False:=by
 obtain⟨i,j,f,g,h⟩:=h;have:=AE e f g;subst this;cases up
 ·simp at h
 ·simp at h
theorem Cm{i j rooms:Zb}{g:List ag}{up:Bool}(k:rooms.Nodup)(m:∀d∈g,kG i j rooms up d){a b:Str}(h:Reach g a b):Up up rooms a b:=by
 have f:∀{a b:Str},(⟨a,stillSg,b⟩:ag)∈g->Up up rooms a b:=by
  intro a b h;rcases(m _ h).sg with⟨w,_,e⟩|⟨w,_,e⟩|⟨_,e⟩
  ·cases e
  ·cases e
  ·exact e
 induction h with
 |one h=>exact f h
 |step r h l=>exact l.trans k (f h)
inductive gv (vs:List V)(H:Hp)(Q:VK)(E:XK):Prop
 |mk (p c l1 l2 l3:Addr) (J0 J1 rooms:Zb) (full:Int):(vs=[.ref p,.ref l1,.ref l2,.ref l3,.int full])->(fV H p c)->(H l1=some (.lst (J0.map V.str)))->(H l2=some (.lst (J1.map V.str)))->(H l3=some (.lst (rooms.map V.str)))->(J0.length<=4)->(J1≠[])->(J1.length<=4)->(rooms≠[])->(rooms.length<=26)->(0<=full)->(full<=2)->(∀(l:Addr) (ts:Ze) (ds:List ag) (up:Bool) (H':Hp),H l=none->H' l=some (.lst (ts.map V.ref))->b0 H' ts ds->ds.Nodup->(∀d∈ds,kG J0 J1 rooms up d)->ds.length<=600->fV H' p c->cD p H H'->Q (.ref l) H')->gv  vs H Q E
theorem at4{x r:Int}(a:0<=x)(e:x<=2)(f:0<=r)(g:r<4):∃j:Int,xV [V.int x,.int 1,.int 1,.int 2] r=some (.int j)/\0<=j/\j<=2:=by
 have:r=0∨r=1∨r=2∨r=3:=by omega
 rcases this with rfl|rfl|rfl|rfl
 ·exact⟨x,rfl,a,e⟩
 ·exact⟨1,rfl,by decide,by decide⟩
 ·exact⟨1,rfl,by decide,by decide⟩
 ·exact⟨2,rfl,by decide,by decide⟩
theorem BU(a:Zb)(k:Nat):iF (a.map V.str) (some (k:Int)) none=(a.drop k).map V.str:=by
 unfold iF;rw[HT.sIx_none,HT.sIx_nat,ak,List.take_of_length_le (by rw[ii,ak];omega),List.map_drop];by_cases h:k<=a.length
 ·rw[Nat.min_eq_left h]
 ·rw[Nat.min_eq_right (by omega),uP (by simp),uP (by rw[ak];omega)]
theorem qb(a:Zb)(k:Nat):iF (a.map V.str) none (some (k:Int))=(a.take k).map V.str:=by
 unfold iF;rw[HT.sIx_none,HT.sIx_nat,ak,qz,Nat.sub_zero,List.map_take,List.take_eq_take_iff,ak];omega
theorem Dx{K:Za}{H:Hp}{a:Addr}{e:Zb}(h:ax K H a (e.map V.str)):ib K H (.s (e.map dX)) (.ref a):=by
 unfold ib;exact⟨a,_,rfl,h,fH _⟩
theorem EW{K:Za}{H:Hp}{a:Addr}(h:ax K H a []):ib K H (.s []) (.ref a):=by
 unfold ib;refine⟨a,_,rfl,h,?_⟩;unfold DIns
 rfl
inductive DdI(G:ag->Prop)(H:Hp)(p c l l1 l2 l3:Addr)(full dn:Int)(i:Nat)(σ:L2.St)(H':Hp):Prop
 |mk (a7 a8 a9 a10 a11 a12:Option V):σ=[some (.ref p),some (.ref l1),some (.ref l2),some (.ref l3),some (.int full),some (.ref l),some (.int dn),a7,a8,a9,a10,a11,a12]->DI G H p c l (11 * i) H'->DdI G H p c l l1 l2 l3 full dn i σ H'
theorem tE{K:Za}{vs:List V}{H:Hp}{Q:VK}{E:XK}(h:gv vs H Q E):oo K eV rq (bQ Q) (start oT vs) H:=by
 obtain⟨p,c,l1,l2,l3,J0,J1,rooms,a,rfl,hp,h1,h2,h3,ha,b8,hs,aS,hr,f0,f2,k⟩:=h;have n1:=hp.ne_strs h1;have n2:=hp.ne_strs h2;have n3:=hp.ne_strs h3;refine⟨(by show 0<=aj;decide),fun l hl=>?_⟩;have a0:=hp.nep hl;have b9:=hp.nec hl;refine⟨_,rfl,d6 (hp.ex (ac.new hl)) (by decide) (by decide) fun M H1 d0 d1 cc a4=>?_⟩;generalize hG:kG J0 J1 rooms (decide (M=0))=G;have base:DI G H p c l 0 H1:=⟨cc,⟨[],[],a4 _ _ aa a0.symm,.nil,jB,by simp,c9 _⟩,(cD.new hl).trans a4,hl,a0,b9⟩;refine⟨_,rfl,l3,rfl,⟨_,ax.of (base.ex _ _ h3 n3)⟩,?_⟩;refine iz (xs:=rooms.map V.str) (DdI G H p c l l1 l2 l3 a M)
  ⟨_,_,_,_,_,_,rfl,base⟩ (fun i σ H' _ zq=>by obtain⟨_,_,_,_,_,_,_,D⟩:=zq;exact ax.of (D.ex _ _ h3 n3)) ?_ ?_
 ·rintro i x σ H' t hi ⟨a7,a8,C,m,v,A,rfl,D⟩ ht;obtain⟨room,f,rfl⟩:∃room,rooms[i]?=some room/\x=V.str room:=by
   rw[eG]at hi;cases q:rooms[i]? with
   |none=>rw[q]at hi;cases hi
   |some r=>rw[q]at hi;exact⟨r,rfl,(eR hi).symm⟩
  have dc:i<rooms.length:=(cE.mp f).1;have N:room∈rooms:=cV f;refine⟨t,_,rfl,bc.of aa,rfl,_,_,rfl,_,_,rfl,rfl,?_⟩;have D1:=D.new ht (o:=.tup [.int i,.str room]);refine⟨(by show 4<=aj;decide),fun q hq=>⟨_,rfl,d6 (D1.new hq).pen (by decide) (by decide) fun r H2 r0 r1 cd a5=>?_⟩⟩;obtain⟨j,hj,j0,j2⟩:=at4 (x:=0) (by decide) (by decide) r0 r1;have D2:=(D1.new hq).took cd a5;refine⟨q,_,_,_,rfl,rfl,ax.of (a5 q _ aa (D1.pen.nep hq).symm),hj,j,rfl,by omega,by omega,?_⟩
  let ce:Nat->L2.St->Hp->Prop:=fun i' σ O=>DW fun(C m:Option V)=>σ=[some (.ref p),some (.ref l1),some (.ref l2),some (.ref l3),some (.int a),some (.ref l),some (.int M),some (.int i),some (.str room),C,m,v,A]/\DI G H p c l (11 * i+i') O
  refine kY (lo:=0) (n:=j.toNat) ce
   ⟨_,_,rfl,D2⟩ ?_ ?_
  ·rintro i' σ H3 I ⟨C,m,rfl,D3⟩;refine p9 (fun _ _ _ _ h=>h) rfl rfl D3.pen (D3.ex _ _ h2 n2) b8 (by omega) fun w hw H4 ch ci=>?_;have D4:=D3.took ch ci;refine⟨(by show 2<=aj;decide),fun L g=>?_⟩;have D5:=D4.new g (o:=.tup [.str "say",.str w]);refine⟨_,rfl,_,rfl,_,rfl,p9 (fun _ _ _ _ h=>h) rfl rfl D5.pen (D5.ex _ _ h3 n3) aS (by omega) fun U J H6 cl a6=>?_⟩;have D6:=D5.took cl a6;refine⟨(by show 3<=aj;decide),fun dr u=>?_⟩;have D7:=D6.new u (o:=.tup [.str room,.ref L,.str U]);have bb:H6 L=some (.tup [.str "say",.str w]):=a6 _ _ aa (D4.pen.nep g).symm;refine D7.put (d:=⟨room,["say",w],U⟩) ⟨L,aa,kp bb u⟩ ?_ (by omega) fun H8 Y=>⟨_,_,rfl,Y⟩;rw[<-hG];exact⟨N,J,.inr (.inl ⟨w,hw,rfl⟩)⟩
  rintro σ H3 ⟨C,m,rfl,bi⟩;have D3:DI G H p c l (11 * i+2) H3:=bi.up (by omega);clear bi;refine⟨_,rfl,l1,rfl,⟨_,ax.of (D3.ex _ _ h1 n1)⟩,?_⟩
  let cm:Nat->L2.St->Hp->Prop:=fun i' σ O=>DW fun(C v:Option V)=>σ=[some (.ref p),some (.ref l1),some (.ref l2),some (.ref l3),some (.int a),some (.ref l),some (.int M),some (.int i),some (.str room),C,m,v,A]/\DI G H p c l (11 * i+2+2 * i') O
  refine bG (xs:=J0.map V.str) cm
   ⟨_,_,rfl,D3⟩ (fun i σ H' _ zq=>by obtain⟨_,_,_,D⟩:=zq;exact ax.of (D.ex _ _ h1 n1)) ?_ ?_
  ·rintro i' x σ H4 I ⟨C,v,rfl,D4⟩;obtain⟨ask,an,rfl⟩:∃ask,J0[i']?=some ask/\x=V.str ask:=by
    rw[eG]at I;cases q:J0[i']? with
    |none=>rw[q]at I;cases I
    |some r=>rw[q]at I;exact⟨r,rfl,(eR I).symm⟩
   have dd:i'<J0.length:=(cE.mp an).1;have co:ask∈J0:=cV an;refine⟨_,rfl,(by show 4<=aj;decide),fun q hq=>⟨_,rfl,d6 (D4.new hq).pen (by decide) (by decide) fun r H5 r0 r1 cq bl=>?_⟩⟩;obtain⟨j,hj,j0,j2⟩:=at4 f0 f2 r0 r1;have D5:=(D4.new hq).took cq bl;refine⟨q,_,_,_,rfl,rfl,ax.of (bl q _ aa (D4.pen.nep hq).symm),hj,j,rfl,by omega,by omega,?_⟩
   let cs:Nat->L2.St->Hp->Prop:=fun bn σ O=>∃C:Option V,σ=[some (.ref p),some (.ref l1),some (.ref l2),some (.ref l3),some (.int a),some (.ref l),some (.int M),some (.int i),some (.str room),C,m,some (.str ask),A]/\DI G H p c l (11 * i+2+2 * i'+bn) O
   refine kY (lo:=0) (n:=j.toNat) cs
    ⟨_,rfl,D5⟩ ?_ ?_
   ·rintro bn σ H6 c5 ⟨C,rfl,D6⟩;refine⟨_,rfl,_,rfl,_,rfl,(by show 2<=aj;decide),fun L g=>?_⟩;have D7:=D6.new g (o:=.tup [.str "ask",.str ask]);refine p9 (fun _ _ _ _ h=>h) rfl rfl D7.pen (D7.ex _ _ h3 n3) aS (by omega) fun U J H8 ct b1=>?_;have Y:=D7.took ct b1;refine⟨(by show 3<=aj;decide),fun dr u=>?_⟩;have D9:=Y.new u (o:=.tup [.str room,.ref L,.str U]);have b2:H8 L=some (.tup [.str "ask",.str ask]):=b1 _ _ aa (D6.pen.nep g).symm;refine D9.put (d:=⟨room,["ask",ask],U⟩) ⟨L,aa,kp b2 u⟩ ?_ (by omega) fun H8 Y=>⟨_,rfl,Y⟩;rw[<-hG];exact⟨N,J,.inl ⟨ask,co,rfl⟩⟩
   ·rintro σ H6 ⟨C,rfl,D6⟩;exact⟨_,_,rfl,D6.up (by omega)⟩
  rintro σ H4 ⟨C,v,rfl,b3⟩;have D4:DI G H p c l (11 * i+10) H4:=b3.up (by rw[ak];omega);clear b3;have B:∀(H9:Hp) (A:Option V),DI G H p c l (11 * i+11) H9->DdI G H p c l l1 l2 l3 a M (i+1) [some (.ref p),some (.ref l1),some (.ref l2),some (.ref l3),some (.int a),some (.ref l),some (.int M),some (.int i),some (.str room),C,m,v,A] H9:=fun H9 A D9=>⟨_,_,_,_,_,_,rfl,D9.up (by omega)⟩;refine⟨_,rfl,_,rfl,_,_,rfl,rfl,_,rfl,l3,_,rfl,ax.of (D4.ex _ _ h3 n3),fun q1 cx=>?_⟩;have D5:=D4.new cx (o:=.lst (iF (rooms.map V.str) (some ((i:Int)+1)) none));refine⟨_,rfl,_,rfl,_,rfl,l3,_,rfl,ax.of (D5.ex _ _ h3 n3),fun q2 b4=>?_⟩;have e1:iF (rooms.map V.str) (some ((i:Int)+1)) none=(rooms.drop (i+1)).map V.str:=BU rooms (i+1);rw[qb];have D6:=D5.new b4 (o:=.lst ((rooms.take i).map V.str));refine⟨(by show 2<=aj;decide),fun q3 aq=>?_⟩;have D7:=D6.new aq (o:=.lst [.ref q1,.ref q2]);obtain⟨lt,q,hq,al,T⟩:∃(lt:Zb) (q:Addr),xV [V.ref q1,.ref q2] M=some (.ref q) /\
    upd (upd (upd H4 q1 (.lst (iF (rooms.map V.str) (some ((i:Int)+1)) none))) q2 (.lst ((rooms.take i).map V.str))) q3 (.lst [.ref q1,.ref q2]) q=some (.lst (lt.map V.str))/\lt.length<=26 /\
    ∀w∈lt,w∈rooms/\Up (decide (M=0)) rooms room w:=by
   have:M=0∨M=1:=by omega
   rcases this with rfl|rfl
   ·refine⟨rooms.drop (i+1),q1,rfl,?_,by rw[ii];omega,fun w hw=>⟨List.mem_of_mem_drop hw,?_⟩⟩
    ·refine(kp (kp aa b4) aq).trans ?_;rw[e1]
    ·obtain⟨n,hn⟩:=List.getElem?_of_mem hw;rw[List.getElem?_drop]at hn;exact⟨i,i+1+n,f,hn,by rw[if_pos (by decide)];omega⟩
   ·refine⟨rooms.take i,q2,rfl,?_,by rw[bm];omega,fun w hw=>⟨fy hw,?_⟩⟩
    ·exact kp aa aq
    ·obtain⟨n,hn⟩:=List.getElem?_of_mem hw;have cL:n<i:=by
      have:=(cE.mp hn).1;rw[bm]at this;omega
     rw[List.getElem?_take_of_lt cL]at hn;exact⟨i,n,f,hn,by rw[if_neg (by decide)];omega⟩
  refine⟨_,rfl,q3,_,_,_,rfl,rfl,ax.of aa,hq,?_⟩;generalize upd (upd (upd H4 q1 (.lst (iF (rooms.map V.str) (some ((i:Int)+1)) none))) q2 (.lst ((rooms.take i).map V.str))) q3 (.lst [.ref q1,.ref q2])=H7 at D7 al ⊢;refine⟨_,rfl,(by show 0<=aj;decide),fun e he=>⟨.s (lt.map dX),.s [],Dx (ax.of (kp al he)),EW (ax.of aa),?_,by decide,_,rfl,?_⟩⟩
  ·show DT.depths (lt.map dX)+1<=8;rw[cT];decide
  have Y:=D7.new he (o:=.lst []);by_cases hz:lt=[]
  ·have ez:(!decide (DT.s (lt.map dX)=DT.s []))=false:=by rw[hz,zzr1 (by rfl)];rfl
   rw[ez];exact aU (aU (B _ _ (Y.up (by omega))))
  ·have ez:(!decide (DT.s (lt.map dX)=DT.s []))=true:=by
    rw[zzr0 (fun z=>hz (iU (y:=[]) (by injection z)))];rfl
   rw[ez];refine bN ?_;refine⟨_,rfl,d6 Y.pen (by decide) (by decide) fun r H9 r0 r1 c0 b5=>⟨rfl,_,rfl,?_⟩⟩;have D9:=Y.took c0 b5;refine gV (fun _=>?_) (fun _=>B _ _ (D9.up (by omega)));refine⟨_,rfl,_,rfl,(by show 1<=aj;decide),fun L g=>?_⟩;have b6:=D9.new g (o:=.tup [.str "still"]);have as:upd H9 L (.tup [.str "still"]) q=some (.lst (lt.map V.str)):=kp (b5 _ _ (kp al he) (Y.pen.ne_strs (kp al he))) g;refine p9 (fun _ _ _ _ h=>.inl h) rfl rfl b6.pen as hz (by omega) fun U J c1 b7 ap=>?_;have c2:=b6.took b7 ap;refine⟨(by show 3<=aj;decide),fun dr u=>?_⟩;have c3:=c2.new u (o:=.tup [.str room,.ref L,.str U]);have aC:c1 L=some (.tup [.str "still"]):=ap _ _ aa (D9.pen.nep g).symm;refine c3.put (d:=⟨room,[("still":Str)],U⟩) ⟨L,aa,kp aC u⟩ ?_ (by omega) fun di c4=>B _ _ c4;rw[<-hG];exact⟨N,(T.2 U J).1,.inr (.inr ⟨rfl,(T.2 U J).2⟩)⟩
 ·rintro σ H' ⟨a7,a8,C,m,v,A,rfl,D⟩;obtain⟨ts,ds,g1,g2,g3,g4,g5⟩:=D.ds;rw[ak]at g5;rw[<-hG]at g4;exact⟨_,rfl,k l ts ds _ H' hl g1 g2 g3 g4 (by omega) D.pen D.ex⟩
structure aW(J0 J1 rooms:Zb)(ds:List ag):Prop where
 okA:hU J0
 okS:hU J1
 apart:∀w∈J1,w∉J0
 okR:hU rooms
 asks0:J0≠[]
 says0:J1≠[]
 rooms0:rooms≠[]
 asks4:J0.length<=4
 says4:J1.length<=4
 rooms26:rooms.length<=150
 nodup:ds.Nodup
 good:∀d∈ds,uH J0 J1 rooms d
 few:ds.length<=1000
 noround:∀r,¬Reach ds r r
structure kE(H:Hp)(t l1 l2 l3 l4:Addr)(ts:Ze)(J0 J1 rooms:Zb)(ds:List ag):Prop where
 t:H t=some (.tup [.ref l1,.ref l2,.ref l3,.ref l4])
 a1:H l1=some (.lst (J0.map V.str))
 a2:H l2=some (.lst (J1.map V.str))
 a3:H l3=some (.lst (rooms.map V.str))
 a4:H l4=some (.lst (ts.map V.ref))
 ds:b0 H ts ds
theorem fV.ne_refs{H:Hp}{p c a:Addr}{g:Ze}(i:fV H p c)(f:H a=some (.lst (g.map V.ref))):a≠p:=by
 intro e;obtain⟨x,y,k,j,_⟩:=i;rw[e,j]at f;injection f with f;injection f with f;cases g with
 |nil=>cases f
 |cons w h =>
  injection f with _ f;cases h with
  |nil=>cases f
  |cons w h=>injection f with f;cases f
theorem kE.ex{H f:Hp}{p c t g i l3 j:Addr}{k:Ze}{l m rooms:Zb}{n:List ag}(h:kE H t g i l3 j k l m rooms n)(a:fV H p c)(e:cD p H f):kE f t g i l3 j k l m rooms n:=by
 obtain⟨o,hx⟩:=a.lst;exact⟨e.kt hx _ _ h.t,e _ _ h.a1 (a.ne_strs h.a1),e _ _ h.a2 (a.ne_strs h.a2),e _ _ h.a3 (a.ne_strs h.a3),e _ _ h.a4 (a.ne_refs h.a4),h.ds.kt (e.kt hx)⟩
theorem kE.same{H a:Hp}{t f g l3 i:Addr}{j:Ze}{k l rooms:Zb}{m:List ag}(h:kE H t f g l3 i j k l rooms m)(e:ac H a):kE a t f g l3 i j k l rooms m :=
 ⟨e _ _ h.t,e _ _ h.a1,e _ _ h.a2,e _ _ h.a3,e _ _ h.a4,h.ds.kt (ac.kt e)⟩
inductive nk (vs:List V)(H:Hp)(Q:VK)(E:XK):Prop
 |mk (p c:Addr) (most full:Int):(vs=[.ref p,.int most,.int full])->(fV H p c)->(0<most)->(most<=25)->(0<=full)->(full<=2)->(∀(t l1 l2 l3 l4:Addr) (ts:Ze) (J0 J1 rooms:Zb) (ds:List ag) (H':Hp),kE H' t l1 l2 l3 l4 ts J0 J1 rooms ds->aW J0 J1 rooms ds->rooms.length<=most.toNat->ds.length<=600->fV H' p c->cD p H H'->Q (.ref t) H')->nk  vs H Q E
theorem at6{r:Int}(a:0<=r)(e:r<6):∃n:Nat,xV [V.int 0,.int 1,.int 1,.int 2,.int 2,.int 3] r=some (.int n)/\n<=3:=by
 have:r=0∨r=1∨r=2∨r=3∨r=4∨r=5:=by omega
 rcases this with rfl|rfl|rfl|rfl|rfl|rfl
 ·exact⟨0,rfl,by decide⟩
 ·exact⟨1,rfl,by decide⟩
 ·exact⟨1,rfl,by decide⟩
 ·exact⟨2,rfl,by decide⟩
 ·exact⟨2,rfl,by decide⟩
 ·exact⟨3,rfl,by decide⟩
theorem DA{a:Zb}(e:a.length=8){n:Nat}(j:n<=3):iF (a.map V.str) (some 4) (some (5+(n:Int)))=((a.drop 4).take (1+n)).map V.str:=by
 unfold iF;have f:HT.sIx (a.map V.str).length 0 (some 4)=min 4 (a.map V.str).length:=HT.sIx_nat _ _ 4;have g:HT.sIx (a.map V.str).length (a.map V.str).length (some (5+(n:Int)))=min (5+n) (a.map V.str).length:=HT.sIx_nat _ _ (5+n);rw[f,g,ak,e,List.map_take,List.map_drop];have h:min 4 8=4:=by decide
 have i:min (5+n) 8-4=1+n:=by omega
 rw[h,i]
theorem CM{K:Za}{vs:List V}{H:Hp}{Q:VK}{E:XK}(h:nk vs H Q E):wI K gv nj eV vv (bQ Q) (start xS vs) H:=by
 obtain⟨p,c,b5,al,rfl,hp,m0,m1,f0,f2,k⟩:=h;refine⟨_,rfl,p,c,rfl,hp,fun H1 a4 a5=>?_⟩;refine⟨_,rfl,p,c,8,rfl,a4,by decide,fun lw a H2 ok len fr hl A a6=>?_⟩;have e2:=a5.trans a6;have nw:=A.ne_strs hl;refine⟨_,rfl,(by show 6<=aj;decide),fun q f=>⟨_,rfl,d6 (A.ex (ac.new f)) (by decide) (by decide) fun r B r0 r1 a7 C=>?_⟩⟩;obtain⟨n,hn,n3⟩:=at6 r0 r1;have an:B lw=some (.lst (a.map V.str)):=C _ _ (kp hl f) nw;refine⟨q,_,_,_,rfl,rfl,ax.of (C _ _ aa (A.nep f).symm),hn,_,_,rfl,rfl,_,rfl,lw,_,rfl,ax.of an,fun g D=>?_⟩;have ea:iF (a.map V.str) none (some (1+(n:Int)))=(a.take (1+n)).map V.str:=qb a (1+n);rw[ea];have e3:cD p H B:=e2.trans ((cD.new f).trans C);have i:fV (upd B g (.lst ((a.take (1+n)).map V.str))) p c:=a7.ex (ac.new D);have e4:cD p H (upd B g (.lst ((a.take (1+n)).map V.str))):=e3.trans (cD.new D);have ap:upd B g (.lst ((a.take (1+n)).map V.str)) lw=some (.lst (a.map V.str)):=kp an D;have G:upd B g (.lst ((a.take (1+n)).map V.str)) g=some (.lst ((a.take (1+n)).map V.str)):=aa;generalize upd B g (.lst ((a.take (1+n)).map V.str))=H4 at i e4 ap G ⊢;refine⟨_,rfl,_,rfl,(by show 6<=aj;decide),fun q f=>⟨_,rfl,d6 (i.ex (ac.new f)) (by decide) (by decide) fun r u r0 r1 a8 j=>?_⟩⟩;obtain⟨m,hm,m3⟩:=at6 r0 r1;have a9:u lw=some (.lst (a.map V.str)):=j _ _ (kp ap f) nw;have bb:u g=some (.lst ((a.take (1+n)).map V.str)):=j _ _ (kp G f) (i.ne_strs G);refine⟨q,_,_,_,rfl,rfl,ax.of (j _ _ aa (i.nep f).symm),hm,_,_,rfl,rfl,_,rfl,lw,_,rfl,ax.of a9,fun v I=>?_⟩;rw[DA len m3];have e5:cD p H u:=e4.trans ((cD.new f).trans j);have l:fV (upd u v (.lst (((a.drop 4).take (1+m)).map V.str))) p c:=a8.ex (ac.new I);have e6:cD p H (upd u v (.lst (((a.drop 4).take (1+m)).map V.str))):=e5.trans (cD.new I);have J:upd u v (.lst (((a.drop 4).take (1+m)).map V.str)) g=some (.lst ((a.take (1+n)).map V.str)):=kp bb I;have L:upd u v (.lst (((a.drop 4).take (1+m)).map V.str)) v=some (.lst (((a.drop 4).take (1+m)).map V.str)):=aa;generalize upd u v (.lst (((a.drop 4).take (1+m)).map V.str))=H6 at l e6 J L ⊢;refine⟨_,rfl,_,rfl,_,rfl,d6 l m0 (by omega) fun r H7 r0 r1 M N=>?_⟩;obtain⟨rn,rfl⟩:=j7 r0;have aq:=N _ _ J (l.ne_strs J);have as:=N _ _ L (l.ne_strs L);refine⟨_,_,rfl,rfl,p,c,1+rn,rfl,M,by omega,fun l3 rooms H8 O x b6 e o T=>?_⟩;have U:=T _ _ aq (M.ne_strs aq);have Y:=T _ _ as (M.ne_strs as);have aC:(a.drop 4).take (1+m)≠[]:=by
  intro z;have:=congrArg List.length z;rw[bm,ii,len]at this;simp at this
 have bi:a.take (1+n)≠[]:=by
  intro z;have:=congrArg List.length z;rw[bm,len]at this;simp at this
 have aS:rooms≠[]:=by
  intro z;rw[z]at x;simp at x;omega
 refine⟨_,rfl,_,rfl,_,rfl,_,rfl,_,rfl,p,c,g,v,l3,_,_,rooms,al,rfl,o,U,Y,e,by rw[bm];omega,aC,by rw[bm];omega,aS,by omega,f0,f2,fun l4 ts ds up H9 b7 a0 bl bn y few b1 s=>?_⟩;have b2:=s _ _ U (o.ne_strs U);have b3:=s _ _ Y (o.ne_strs Y);have b4:=s _ _ e (o.ne_strs e);refine⟨_,rfl,_,rfl,_,rfl,_,rfl,(by show 4<=aj;decide),fun t ht=>k t g v l3 l4 ts _ _ rooms ds _ ⟨aa,kp b2 ht,kp b3 ht,kp b4 ht,kp a0 ht,bl.kt (ac.kt (ac.new ht))⟩ ?_ ?_ few (b1.ex (ac.new ht)) ?_⟩
 ·refine⟨⟨?_,fun w h=>ok.2 w (fy h)⟩,⟨?_,fun w h=>ok.2 w (List.mem_of_mem_drop (fy h))⟩,?_,O,bi,aC,aS,by rw[bm];omega,by rw[bm];omega,by omega,bn,fun d hd=>(y d hd).d,by omega,fun r z=>(Cm O.1 y z).irr O.1⟩
  ·exact ok.1.sublist (List.take_sublist _ _)
  ·exact ok.1.sublist ((List.take_sublist _ _).trans (List.drop_sublist _ _))
  ·intro w h1 h2;have h3:w∈a.drop 4:=fy h1;have h4:w∈a.take 4:=by
    have:a.take (1+n)=(a.take 4).take (1+n):=by rw[List.take_take];congr 1;omega
    rw[this]at h2;exact fy h2
   have:=ok.1;rw[<-List.take_append_drop 4 a,cG]at this;exact this.2.2 w h4 w h3 rfl
 ·omega
 ·exact(((e6.trans N).trans T).trans s).trans (cD.new ht)
theorem bq{a:Zb}{i:Nat}{x:V}(h:(a.map V.str)[i]?=some x):∃w,a[i]?=some w/\x=.str w:=by
 rw[eG]at h;cases q:a[i]? with
 |none=>rw[q]at h;cases h
 |some r=>rw[q]at h;exact⟨r,rfl,(eR h).symm⟩
theorem take_snoc{α:Type}{a:List α}{i:Nat}{w:α}(h:a[i]?=some w):a.take (i+1)=a.take i++[w]:=by
 obtain⟨hi,rfl⟩:=cE.mp h;rw[List.take_succ_eq_append_getElem hi]
def nD(w:Str):Bool:=!decide (w=("":Str)) && (decide (w.length<=8) && w.cps.toList.all fun c=>decide (c∈("abcdefghijklmnopqrstuvwxyz":Str).cps.toList))
theorem oY.b{w:Str}(h:oY w):nD w=true:=by
 unfold nD;have a:¬(w=("":Str)):=fun e=>by
  have:=h.lo;rw[e]at this;exact absurd this (by decide +kernel)
 rw[zzr0 a,zzr1 h.hi,Bool.not_false,qp,qp,qF];intro c f;obtain⟨g,i⟩:=h.al c f;refine zzr1 ?_;have:=AR (c-97) (by omega);have e:97+(c-97)=c:=by omega
 rw[e]at this;exact cV this
inductive sp_is_name (vs:List V)(H:Hp)(Q:VK)(E:XK):Prop
 |mk (w:Str):(vs=[.str w])->(w.length<=1000)->(∀H',ac H H'->Q (.bl (nD w)) H')->sp_is_name  vs H Q E
theorem yI{K:Za}{a:List V}{H:Hp}{Q:VK}{E:XK}(h:sp_is_name a H Q E):A9 K (bQ Q) (start B7 a) H:=by
 obtain⟨w,rfl,s,k⟩:=h;refine⟨_,rfl,rfl,_,rfl,?_⟩;have t:(!decide (V.str w=V.str ("":Str)))=!decide (w=("":Str)):=by
  congr 1;by_cases e:w=("":Str)
  ·rw[zzr1 e,zzr1 (by rw[e])]
  ·rw[zzr0 e,zzr0 (fun z=>e (by injection z))]
 rw[t];refine gV (fun m=>?_) (fun m=>?_)
 ·refine⟨_,rfl,.inr ⟨w,rfl,fj (ay s),_,_,rfl,rfl,_,rfl,?_⟩⟩;refine gV (fun n=>?_) (fun n=>?_)
  ·refine⟨_,rfl,w,rfl,fun l r=>?_⟩
   let p:Nat->List V->Hp->Prop:=fun i a j=>a=((w.cps.toList.take i).map fun c=>V.bl (decide (c∈("abcdefghijklmnopqrstuvwxyz":Str).cps.toList)))/\ac H j/\j l=some (.lst a)
   refine DB p
    ⟨rfl,ac.new r,aa⟩ (fun i a j _ h=>h.2.2) ?_ ?_
   ·rintro a j ⟨rfl,q,f⟩;refine⟨l,w.cps.toList.map fun c=>decide (c∈("abcdefghijklmnopqrstuvwxyz":Str).cps.toList),rfl,ax.of ?_,?_⟩
    ·rw[f,nV];have:w.cps.toList.take w.cps.size=w.cps.toList:=by
      rw[List.take_of_length_le];simp
     rw[this]
     rfl
    ·have:=k j q;have g:decide (w.length<=8)=true:=zzr1 (by have:=of_decide_eq_true n;omega);unfold nD at this;rw[m,g,qp,qp]at this;rw[List.all_map];exact this
   ·rintro i a j c u hi ⟨rfl,q,f⟩;refine gN (u_ ?_);refine⟨_,rfl,c,_,rfl,rfl,f,?_,kq hi ⟨?_,?_,aa⟩⟩
    ·rw[ak,bm];have:w.length=w.cps.toList.length:=eU w;exact ay (by omega)
    ·rw[take_snoc (by rw[<-u];simp),ar]
     rfl
    ·intro b o e;rw[ai (ae e r)];exact q b o e
  ·have:=k H (ac.refl H);have g:decide (w.length<=8)=false:=zzr0 (fun z=>n (zzr1 (by omega)));unfold nD at this;rw[m,g,qp,Bool.false_and]at this;exact this
 ·have:=k H (ac.refl H);unfold nD at this;rw[Bool.eq_false_iff.mpr m,Bool.false_and]at this;exact this
def aL(ws:Zb):List (ca×V):=ws.foldl (fun acc w=>c7 acc (.inr w) (.bl true)) []
theorem cy(a:Zb)(w:Str):aL (a++[w])=c7 (aL a) (.inr w) (.bl true):=by
 unfold aL;rw[nU]
 rfl
theorem xb{κ:Type}[DecidableEq κ](a:List (κ×V))(k:κ)(v:V):(c7 a k v).length<=a.length+1:=by
 unfold c7;split
 ·rw[ak];omega
 ·rw[aD];exact aN _
theorem cn{α:Type}(P:List α->Prop)(f:P [])(g:∀a w,P a->P (a++[w]))(a:List α):P a:=by
 have:∀n (a:List α),a.length=n->P a:=by
  intro n
  induction n with
  |zero=>intro a h;rw[List.length_eq_zero_iff.mp h];exact f
  |succ n i =>
   intro a h;have e:a≠[]:=fun z=>by rw[z]at h;cases h
   rw[<-List.dropLast_concat_getLast e];exact g _ _ (i _ (by rw[List.length_dropLast,h];rfl))
 exact this _ a rfl
theorem iw(a:Zb):(aL a).length<=a.length:=by
 refine cn (fun a=>(aL a).length<=a.length) (aN _) (fun a w h=>?_) a;show(aL (a++[w])).length<=(a++[w]).length;rw[cy,aD];have:=xb (aL a) (.inr w) (.bl true);show _<=a.length+1;omega
theorem mw(a:Zb)(x:Str):cz (aL a) (.inr x)=if x∈a then some (.bl true)else none:=by
 refine cn (fun a=>cz (aL a) (.inr x)=if x∈a then some (.bl true)else none) rfl (fun a w h=>?_) a
 show cz (aL (a++[w])) (.inr x)=_;rw[cy,wz,h];by_cases e:x=w
 ·subst e;rw[if_pos rfl,if_pos (by simp)]
 ·have f:¬((Sum.inr x:ca)=.inr w):=fun z=>e (by injection z);rw[if_neg f];by_cases m:x∈a
  ·rw[if_pos m,if_pos (cJ _ m)]
  ·rw[if_neg m,if_neg (fun z=>by rcases bg.mp z with z|z;exact m z;exact e (by simpa using z))]
theorem dL(a:Zb)(x:Str):(cz (aL a) (.inr x)).isSome=decide (x∈a):=by
 rw[mw];by_cases m:x∈a
 ·rw[if_pos m,zzr1 m];rfl
 ·rw[if_neg m,zzr0 m];rfl
inductive sp_as_keys(K:Za)(vs:List V)(H:Hp)(Q:VK)(E:XK):Prop
 |mk (l:Addr) (ws:Zb):(vs=[.ref l])->(ax K H l (ws.map V.str))->(ws.length<=1000)->(∀d,H d=none->Q (.ref d) (upd H d (.dK (aL ws))))->sp_as_keys K vs H Q E
theorem yN{K:Za}{o:List V}{H:Hp}{Q:VK}{E:XK}(h:sp_as_keys K o H Q E):Ba K (bQ Q) (start oX o) H:=by
 obtain⟨l,j,rfl,q,t,k⟩:=h;refine fun d p=>?_;have a:∀f,ax K (upd H d (.dK f)) l (j.map V.str):=fun f=>(ac.new p).seq q;refine⟨_,rfl,l,rfl,⟨_,a _⟩,?_⟩
 let n:Nat->L2.St->Hp->Prop:=fun i σ m=>∃x,σ=[some (.ref l),some (.ref d),x]/\m=upd H d (.dK (aL (j.take i)))
 refine bG (xs:=j.map V.str) n ⟨_,rfl,rfl⟩ (fun i σ m _ r=>by obtain⟨_,_,e⟩:=r;exact by rw[e];exact a _) ?_ ?_
 ·rintro i x σ m hi ⟨y,rfl,rfl⟩;obtain⟨w,s,rfl⟩:=bq hi;have g:(aL (j.take i)).length<aj:=ay (bp (iw _) (by rw[bm];omega));refine⟨_,rfl,_,rfl,d,_,rfl,.inl ⟨_,.inr w,aa,rfl,g,rfl⟩,_,rfl,?_⟩;rw[mW,take_snoc s,cy]
 ·rintro σ m ⟨x,rfl,rfl⟩;rw[ak,bd];exact⟨_,rfl,k d p⟩
def Dm(most:Nat):Nat->List Str->List Str->Option Nat
 |_,_,[]=>none
 |i,ahead,n::ns=>if i=most∨n∈ahead∨nD n=false then some i else Dm most (i+1) (ahead++[n]) ns
def cI(names:Zb)(most:Nat)(taken:Zb):Option Nat:=if names=[]then some 0 else Dm most 0 taken names
def oV:Option Nat->V
 |none=>.non
 |some i=>.int i
inductive sp_first_wrong_name(K:Za)(vs:List V)(H:Hp)(Q:VK)(E:XK):Prop
 |mk (l t:Addr) (names taken:Zb) (most:Nat):(vs=[.ref l,.int most,.ref t])->(ax K H l (names.map V.str))->(ax K H t (taken.map V.str))->(names.length+taken.length<=1000)->((∀w∈names,w.length<=1000))->(∀H',ac H H'->Q (oV (cI names most taken)) H')->sp_first_wrong_name K vs H Q E
theorem oS{K:Za}{H:Hp}{Q:VK}{E:XK}{l:Addr}{ws:Zb}(a:ax K H l (ws.map V.str))(e:ws.length<=1000)(k:∀d,H d=none->Q (.ref d) (upd H d (.dK (aL ws)))):sp_as_keys K [.ref l] H Q E:=by
 exact⟨l,ws,rfl,a,e,k⟩
theorem BJ{H:Hp}{Q:VK}{E:XK}{w:Str}(e:w.length<=1000)(k:∀a,ac H a->Q (.bl (nD w)) a):sp_is_name [.str w] H Q E:=by
 exact⟨w,rfl,e,k⟩
theorem ln{K:Za}{M:List V}{H:Hp}{Q:VK}{E:XK}(h:sp_first_wrong_name K M H Q E):l9 K sp_is_name (sp_as_keys K) (bQ Q) (start mF M) H:=by
 obtain⟨l,t,names,taken,a,rfl,v,U,hz,Y,k⟩:=h;refine⟨_,rfl,.inl ⟨l,_,rfl,.inl v,rfl,_,rfl,?_⟩⟩;by_cases A:names=[]
 ·subst A;refine bN ?_;have:=k H (ac.refl H);exact this
 have e0:decide (V.int ((names.map V.str).length:Nat)=V.int 0)=false:=zzr0 (fun z=>A (by
  injection z with z;rw[ak]at z;exact List.length_eq_zero_iff.mp (by omega)))
 rw[e0];refine aU ?_;have r:∀H',ac H H'->Q (oV (Dm a 0 taken names)) H':=by
  unfold cI at k;rw[if_neg A]at k;exact k
 refine⟨_,rfl,oS U (by omega) fun d B=>?_⟩;refine⟨_,rfl,l,rfl,⟨_,(ac.new B).seq v⟩,?_⟩
 let C:Nat->L2.St->Hp->Prop:=fun i σ H'=>∃x y,σ=[some (.ref l),some (.int a),some (.ref t),some (.ref d),x,y]/\ac H H'/\H' d=some (.dK (aL (taken++names.take i)))/\Dm a i (taken++names.take i) (names.drop i)=Dm a 0 taken names
 refine iz (xs:=names.map V.str) C
  ⟨_,_,rfl,ac.new B,by rw[uM,cP];exact aa,by rw[uM,cP,qz]⟩ (fun i σ H' _ zq=>by obtain⟨_,_,_,n,_⟩:=zq;exact n.seq v) ?_ ?_
 ·rintro i x σ H' q hi ⟨x4,x5,rfl,n,D,hf⟩ N;obtain⟨w,f,rfl⟩:=bq hi;have G:i<names.length:=(cE.mp f).1;have ed:names.drop i=w::names.drop (i+1):=by
   rw[qw G];congr 1;exact(cE.mp f).2
  rw[ed]at hf;have j:upd H' q (.tup [.int i,.str w]) d=some (.dK (aL (taken++names.take i))):=kp D N;have g:ac H (upd H' q (.tup [.int i,.str w])):=n.trans (ac.new N);have I:w.length<=1000:=Y w (cV f);refine⟨q,_,rfl,bc.of aa,rfl,_,_,rfl,_,_,rfl,rfl,?_⟩;generalize upd H' q (.tup [.int i,.str w])=O at j g ⊢;refine⟨_,rfl,_,rfl,rfl,_,rfl,?_⟩;by_cases s:i=a
  ·have J:decide (V.int (i:Nat)=V.int (a:Nat))=true:=zzr1 (by rw[s]);rw[J];refine bN (bN ?_);refine⟨_,rfl,?_⟩;have:=r O g;rw[<-hf]at this;unfold Dm at this;rw[if_pos (.inl s)]at this;exact this
  have J:decide (V.int (i:Nat)=V.int (a:Nat))=false:=zzr0 (fun z=>s (by injection z with z;omega));rw[J];refine aU ?_;refine⟨_,rfl,_,rfl,d,_,rfl,.inl ⟨_,.inr w,.inl j,rfl,rfl⟩,_,rfl,?_⟩;rw[dL];by_cases u:w∈taken++names.take i
  ·rw[zzr1 u];refine bN (bN ?_);refine⟨_,rfl,?_⟩;have:=r O g;rw[<-hf]at this;unfold Dm at this;rw[if_pos (.inr (.inl u))]at this;exact this
  rw[zzr0 u];refine aU ?_;refine⟨_,rfl,BJ I fun H3 m=>⟨_,rfl,?_⟩⟩;have L:=m _ _ j;cases T:nD w with
  |false =>
   refine bN ?_;refine⟨_,rfl,?_⟩;have:=r H3 (g.trans m);rw[<-hf]at this;unfold Dm at this;rw[if_pos (.inr (.inr T))]at this;exact this
  |true =>
   refine aU ?_;have p:(aL (taken++names.take i)).length<aj:=ay (bp (iw _) (by rw[aD,bm];omega));refine⟨_,rfl,_,rfl,d,_,rfl,.inl ⟨_,.inr w,L,rfl,p,rfl⟩,_,_,rfl,?_,?_,?_⟩
   ·intro b o e;rw[ai (ae e B)];exact m _ _ (g _ _ e)
   ·rw[aa,take_snoc f,<-dw,cy]
   ·rw[<-hf,take_snoc f,<-dw]
    conv=>rhs;unfold Dm
    rw[if_neg];rintro(z|z|z)
    ·exact s z
    ·exact u z
    ·rw[T]at z;cases z
 ·rintro σ H' ⟨x,y,rfl,n,_,hf⟩;rw[ak,List.drop_length]at hf;have:=r H' n;rw[<-hf]at this;exact this
theorem xz{a:Nat}:∀(e ahead:Zb) (i:Nat),i+e.length<=a->(ahead++e).Nodup->(∀w∈e,oY w)->Dm a i ahead e=none
 |[],_,_,_,_,_=>rfl
 |n::e,ahead,i,h,f,g=>by
  rw[gA]at h;unfold Dm;rw[if_neg]
  ·refine xz e (ahead++[n]) (i+1) (by omega) (by rw[dw];exact f) fun w j=>g w (eQ _ j)
  ·rintro(z|z|z)
   ·omega
   ·rw[cG]at f;exact f.2.2 n z n (dP) rfl
   ·rw[(g n dP).b]at z;cases z
theorem gW{a:Nat}{e taken:Zb}(f:e≠[])(i:e.length<=a)(g:(taken++e).Nodup)(h:∀w∈e,oY w):cI e a taken=none:=by
 unfold cI;rw[if_neg f];exact xz e taken 0 (by omega) g h
theorem de{n:Nat}(h:n<=9000):n<aj:=og h (by decide)
def pj(x:Str):TK:=.k (some (.inr x))
def BQ(sg:Zb):TK:=.t (sg.map pj)
def jx(d:ag):TK:=.t [pj d.a,BQ d.sg,pj d.b]
theorem p8{x y:Str}(h:pj x=pj y):x=y:=by
 unfold pj at h;injection h with h;injection h with h;injection h
theorem pq:∀{x y:Zb},x.map pj=y.map pj->x=y
 |[],[],_=>rfl
 |[],_::_,h=>by cases h
 |_::_,[],h=>by cases h
 |a::x,b::y,h=>by
  rw[bx,bx]at h;injection h with e f;rw[p8 e,pq f]
theorem AF{x y:Zb}(h:BQ x=BQ y):x=y:=by
 unfold BQ at h;injection h with h;exact pq h
theorem EV{x y:ag}(h:jx x=jx y):x=y:=by
 unfold jx at h;injection h with h;injection h with a h;injection h with e h;injection h with f h;cases x;cases y;simp only at *;rw[p8 a,AF e,p8 f]
theorem ya(a:Zb):TK.depths (a.map pj)=0:=by
 induction a with
 |nil=>rfl
 |cons x a e=>rw[bx];show max (TK.depth (pj x)) (TK.depths _)=0;rw[e];rfl
theorem t8(a:Zb):(BQ a).depth=1:=by
 show TK.depths (a.map pj)+1=1;rw[ya]
theorem om(d:ag):(jx d).depth=2:=by
 show max (TK.depth (pj d.a)) (max (TK.depth (BQ d.sg)) (max (TK.depth (pj d.b)) 0))+1=2;rw[t8]
 rfl
theorem Ah{H:Hp}:∀a:List Str,TKAts H (a.map pj) (a.map V.str)
 |[]=>by show TKAts H [] [];unfold TKAts;rfl
 |x::a=>by
  rw[bx,bx];unfold TKAts;refine⟨_,_,rfl,?_,Ah a⟩;unfold pj iB
  rfl
theorem yb{H:Hp}(x:Str):iB H (pj x) (.str x):=by unfold pj iB;rfl
theorem SignAt.tk{H:Hp}{s:Addr}{a:Zb}(h:SignAt H s a):iB H (BQ a) (.ref s):=by
 unfold BQ iB;exact⟨s,_,rfl,h,Ah _⟩
theorem eO.tk{H:Hp}{t:Addr}{d:ag}(h:eO H t d):iB H (jx d) (.ref t):=by
 obtain⟨s,a,e⟩:=h;unfold jx iB;refine⟨t,_,rfl,a,?_⟩;unfold TKAts;refine⟨_,_,rfl,yb _,?_⟩;unfold TKAts;refine⟨_,_,rfl,SignAt.tk e,?_⟩;unfold TKAts;refine⟨_,_,rfl,yb _,?_⟩;unfold TKAts
 rfl
section
variable{κ:Type}[DecidableEq κ]
def dF(ks:List κ):List (κ×V):=ks.foldl (fun acc k=>c7 acc k (.bl true)) []
theorem ix(a:List κ)(w:κ):dF (a++[w])=c7 (dF a) w (.bl true):=by
 unfold dF;rw[nU]
 rfl
theorem uq(a:List κ):(dF a).length<=a.length:=by
 refine cn (fun a=>(dF a).length<=a.length) (aN _) (fun a w h=>?_) a;show(dF (a++[w])).length<=(a++[w]).length;rw[ix,aD];have:=xb (dF a) w (.bl true);show _<=a.length+1;omega
theorem xr(a:List κ)(x:κ):(cz (dF a) x).isSome=decide (x∈a):=by
 refine cn (fun a=>(cz (dF a) x).isSome=decide (x∈a)) rfl (fun a w h=>?_) a;show(cz (dF (a++[w])) x).isSome=_;rw[ix,wz];by_cases e:x=w
 ·subst e;rw[if_pos rfl,zzr1 (by simp)]
  rfl
 ·rw[if_neg e,h];by_cases m:x∈a
  ·rw[zzr1 m,zzr1 (cJ _ m)]
  ·rw[zzr0 m,zzr0 (fun z=>by rcases bg.mp z with z|z;exact m z;exact e (by simpa using z))]
end
theorem vJ{d:ag}{a:List ag}:jx d∈a.map jx↔d∈a:=by
 constructor
 ·intro h;obtain⟨x,hx,e⟩:=aK.mp h;rw[<-EV e];exact hx
 ·exact i4
def mC(K:Za)(H:Hp)(v:V)(sg:Zb):Prop:=∃s,v=.ref s/\bc K H s (sg.map V.str)
theorem ac.sqT{K:Za}{H f:Hp}{a:Addr}{g:List V}(e:ac H f)(h:bc K H a g):bc K f a g:=by
 rcases h with(h|⟨o,h⟩)|h
 ·exact .inl (.inl (e _ _ h))
 ·exact .inl (.inr ⟨o,e _ _ h⟩)
 ·exact .inr h
theorem Signs.same{K:Za}{H f:Hp}(e:ac H f){xs:List V}{a:List (List Str)}(h:Paired (mC K H) xs a):Paired (mC K f) xs a :=
 Paired.mapP h fun _ _ ⟨s,g,i⟩=>⟨s,g,ac.sqT e i⟩
def fx(sg:Zb):DT:=.t (sg.map dX)
theorem AG{x y:Zb}(h:fx x=fx y):x=y:=by
 unfold fx at h;injection h with h;exact iU h
theorem aX(a:Zb):(fx a).depth=1:=by
 show DT.depths (a.map dX)+1=1;rw[cT]
theorem BR(a:List (List Str)):DT.depths (a.map fx)<=8:=by
 induction a with
 |nil=>exact c9 _
 |cons x e f=>rw[bx];show max (DT.depth (fx x)) (DT.depths _)<=8;rw[aX];omega
theorem Signs.dIns{K:Za}{H:Hp}{xs:List V}{a:List (List Str)}(h:Paired (mC K H) xs a):DIns K H (a.map fx) xs:=by
 induction h with
 |nil=>show DIns K H [] [];unfold DIns;rfl
 |cons q _ f =>
  obtain⟨s,e,r⟩:=q;rw[bx];unfold DIns;refine⟨_,_,rfl,?_,f⟩;rw[e];exact aA r
theorem Az{d:Zb}{a:List (List Str)}:fx d∈a.map fx↔d∈a:=by
 constructor
 ·intro h;obtain⟨x,hx,e⟩:=aK.mp h;rw[<-AG e];exact hx
 ·exact i4
theorem Paired.app{α β:Type}{R:α->β->Prop}{a:List α}{b:List β}{c:List α}{d:List β}(g:Paired R a b)(h:Paired R c d):Paired R (a++c) (b++d):=by
 induction g with
 |nil=>exact h
 |cons r _ e=>exact .cons r e
def GK(w:Str):List Str:=[("ask":Str),w]
def Gz(w:Str):List Str:=[("say":Str),w]
def jv(J0 J1:Zb):List (List Str):=J0.map GK++J1.map Gz++[stillSg]
theorem rB{K:Za}{h:Str}{σ:L2.St}{H:Hp}{a l:Addr}{j:Zb}{Q:Hp->Prop}(B:H a=some (.lst (j.map V.str)))(A:H l=none)(J:j.length<=1000)
  (k:∀(xs:List V) (f:Hp),Paired (mC K f) xs (j.map fun w=>[h,w])->ac H f->f l=some (.lst xs)->Q f) :
  ej 1 [] σ (DX K a) U0 ka (b_ (aY (tC (.str h)) V0)) H l Q:=by
 let r:Nat->List V->Hp->Prop:=fun i g f=>Paired (mC K f) g ((j.take i).map fun w=>[h,w])/\ac H f/\f l=some (.lst g)
 refine bP (xs:=j.map V.str) r
  ⟨.nil,ac.new A,aa⟩ (fun i g f _ C=>by obtain⟨_,D,E⟩:=C;exact⟨E,ax.of (D _ _ B)⟩) ?_ ?_
 ·rintro g f ⟨m,u,n⟩;rw[ak,bd]at m;exact k g f m u n
 ·rintro i g f x hx hi ⟨m,u,n⟩;obtain⟨w,G,rfl⟩:=bq hx;refine gN (u_ ?_);refine⟨_,rfl,(by show 2<=aj;decide),fun t p=>⟨kp n p,?_,kq hi ⟨?_,?_,aa⟩⟩⟩
  ·rw[Paired.length m,ak,bm];exact ay (by omega)
  ·rw[take_snoc G,ar];have q:iI (upd f t (.tup [.str h,.str w])) (upd (upd f t (.tup [.str h,.str w])) l (.lst (g++[.ref t]))):=cv (kp n p);have y:iI f (upd (upd f t (.tup [.str h,.str w])) l (.lst (g++[.ref t]))):=(ac.kt (ac.new p)).trans q;refine Paired.app (Paired.mapP m fun v L ⟨s,I,e2⟩=>⟨s,I,?_⟩) (.cons ⟨t,rfl,bc.of (q _ _ aa)⟩ .nil);rcases e2 with(e2|⟨o,e2⟩)|e2
   ·exact .inl (.inl (y _ _ e2))
   ·refine .inl (.inr ⟨o,?_⟩);rw[ai (fun z=>by rw[z,n]at e2;cases e2)];exact kp e2 p
   ·exact .inr e2
  ·intro b o e;rw[ai (ae e A)];exact kp (u _ _ e) p
inductive sp_door_signs(K:Za)(vs:List V)(H:Hp)(Q:VK)(E:XK):Prop
 |mk (l1 l2:Addr) (J0 J1:Zb):(vs=[.ref l1,.ref l2])->(H l1=some (.lst (J0.map V.str)))->(H l2=some (.lst (J1.map V.str)))->(J0.length<=100)->(J1.length<=100)->(∀(l:Addr) (xs:List V) (H':Hp),Paired (mC K H') xs (jv J0 J1)->ac H H'->H' l=some (.lst xs)->Q (.ref l) H')->sp_door_signs K vs H Q E
theorem tF{K:Za}{st:Addr}(i:∀H,bc K H st (stillSg.map V.str)){n:List V}{H:Hp}{Q:VK}{E:XK}(h:sp_door_signs K n H Q E):ve K st (bQ Q) (start wf n) H:=by
 obtain⟨y,z,J,L,rfl,o,p,A,B,k⟩:=h;refine⟨_,rfl,y,rfl,⟨_,ax.of o⟩,fun a C=>?_⟩;refine rB o C (by omega) fun f M q j D=>?_;refine⟨_,rfl,z,rfl,⟨_,ax.of (j _ _ p)⟩,fun b G=>?_⟩;refine rB (j _ _ p) G (by omega) fun g r s l I=>?_;have t:f.length<=100:=by rw[Paired.length q,ak];exact A
 have u:g.length<=100:=by rw[Paired.length s,ak];exact B
 refine⟨a,b,f,g,rfl,rfl,l _ _ D,I,fj (ay (by omega)),fun c v=>?_⟩;refine⟨(by show 1<=aj;decide),fun d m=>?_⟩;refine⟨c,d,_,_,rfl,rfl,kp aa m,aa,?_,fun e w=>k e _ _ ?_ ?_ aa⟩
 ·rw[aD];show _+1<=aj;exact fj (ay (by omega))
 ·have x:ac r (upd (upd (upd r c (.lst (f++g))) d (.lst [.ref st])) e (.lst (f++g++[.ref st]))):=((ac.new v).trans (ac.new m)).trans (ac.new w);exact Paired.app (Paired.app (Signs.same (l.trans x) q) (Signs.same x s)) (.cons ⟨st,rfl,i _⟩ .nil)
 ·exact(((j.trans l).trans (ac.new v)).trans (ac.new m)).trans (ac.new w)
def EO(rooms:Zb)(sgs:List (List Str)):Nat->List ag->List ag->Option Nat
 |_,_,[]=>none
 |i,ahead,d::ds=>if i=2000∨d∈ahead∨d.a∉rooms∨d.sg∉sgs∨d.b∉rooms then some i else EO rooms sgs (i+1) (ahead++[d]) ds
inductive sp_first_wrong_door(K:Za)(vs:List V)(H:Hp)(Q:VK)(E:XK):Prop
 |mk (l l3 sl:Addr) (ts:Ze) (ds:List ag) (rooms:Zb) (xs:List V) (sgs:List (List Str)):(vs=[.ref l,.ref l3,.ref sl])->(H l=some (.lst (ts.map V.ref)))->(b0 H ts ds)->(H l3=some (.lst (rooms.map V.str)))->(rooms.length<=1000)->(H sl=some (.lst xs))->(Paired (mC K H) xs sgs)->(ds.length<=9000)->(∀H',ac H H'->Q (oV (EO rooms sgs 0 [] ds)) H')->sp_first_wrong_door K vs H Q E
theorem bE{a:Ze}{i:Nat}{x:V}(h:(a.map V.ref)[i]?=some x):∃w,a[i]?=some w/\x=.ref w:=by
 rw[eG]at h;cases q:a[i]? with
 |none=>rw[q]at h;cases h
 |some r=>rw[q]at h;exact⟨r,rfl,(eR h).symm⟩
theorem lp{K:Za}{vs:List V}{H:Hp}{Q:VK}{E:XK}(h:sp_first_wrong_door K vs H Q E):l_ K (sp_as_keys K) (bQ Q) (start mG vs) H:=by
 obtain⟨l,l3,sl,ts,p,rooms,xs,m,rfl,hl,A,h3,hr,T,U,hz,k⟩:=h;refine⟨_,rfl,oS (ax.of h3) hr fun d hd=>?_⟩;refine fun e Y=>?_;have B:ac H (upd (upd H d (.dK (aL rooms))) e (.dT [])):=(ac.new hd).trans (ac.new Y);have al:H e=none:=(ac.new hd).free Y;refine⟨_,rfl,l,rfl,⟨_,ax.of (B _ _ hl)⟩,?_⟩
 let an:Nat->L2.St->Hp->Prop:=fun i σ H'=>∃x y,σ=[some (.ref l),some (.ref l3),some (.ref sl),some (.ref d),some (.ref e),x,y]/\ac H H'/\H' d=some (.dK (aL rooms))/\H' e=some (.dT (dF ((p.take i).map jx)))/\EO rooms m i (p.take i) (p.drop i)=EO rooms m 0 [] p
 refine iz (xs:=ts.map V.ref) an
  ⟨_,_,rfl,B,kp aa Y,aa,rfl⟩ (fun i σ H' _ zq=>by obtain⟨_,_,_,C,_⟩:=zq;exact ax.of (C _ _ hl)) ?_ ?_
 ·rintro i x σ H' q hi ⟨x5,x6,rfl,C,ap,aq,hf⟩ hq;obtain⟨t,ht,rfl⟩:=bE hi;obtain⟨f,r,as⟩:=Paired.getL A ht;have aC:i<p.length:=(cE.mp r).1;have ed:p.drop i=f::p.drop (i+1):=by
   rw[qw aC];congr 1;exact(cE.mp r).2
  rw[ed]at hf;have g:ac H (upd H' q (.tup [.int i,.ref t])):=C.trans (ac.new hq);have j:upd H' q (.tup [.int i,.ref t]) d=_:=kp ap hq;have u:upd H' q (.tup [.int i,.ref t]) e=_:=kp aq hq;refine⟨q,_,rfl,bc.of aa,rfl,_,_,rfl,_,_,rfl,rfl,?_⟩;generalize upd H' q (.tup [.int i,.ref t])=H2 at j u g ⊢;have w:=as.kt (ac.kt g);have aS:lz K H2 (jx f) (.ref t):=iB.isIn 8 (by rw[om];decide) w.tk;have D:(jx f).depth<=8:=by rw[om];decide
  obtain⟨s,v,G⟩:=w;have n:(i=2000∨f∈p.take i∨f.a∉rooms∨f.sg∉m∨f.b∉rooms)->Q (.int i) H2:=by
   intro c;have:=k H2 g;rw[<-hf]at this;unfold EO at this;rw[if_pos c]at this;exact this
  refine⟨_,rfl,rfl,_,rfl,?_⟩;by_cases J:i=2000
  ·have e1:decide (V.int (i:Nat)=V.int 2000)=true:=zzr1 (by rw[J];rfl);rw[e1];exact bN (bN ⟨_,rfl,n (.inl J)⟩)
  have e1:decide (V.int (i:Nat)=V.int 2000)=false:=zzr0 (fun z=>J (by injection z with z;omega));rw[e1];refine aU ?_;refine⟨_,rfl,_,rfl,e,_,rfl,.inr ⟨_,jx f,t,.inl u,rfl,aS,D,rfl⟩,_,rfl,?_⟩;rw[xr];by_cases L:f∈p.take i
  ·rw[zzr1 (vJ.mpr L)];exact bN ⟨_,rfl,n (.inr (.inl L))⟩
  rw[zzr0 (fun z=>L (vJ.mp z))];refine aU ?_;refine⟨_,rfl,.inr (.inl ⟨t,_,0,_,rfl,rfl,bc.of v,rfl,_,rfl,d,_,rfl,.inl ⟨_,.inr f.a,.inl j,rfl,rfl⟩,_,rfl,?_⟩)⟩;rw[dL];by_cases M:f.a∈rooms;rotate_left
  ·rw[zzr0 M];exact bN (bN ⟨_,rfl,n (.inr (.inr (.inl M)))⟩)
  rw[zzr1 M];refine aU ?_;refine⟨_,rfl,.inr (.inl ⟨t,_,1,_,rfl,rfl,bc.of v,rfl,_,rfl,fx f.sg,m.map fx,sl,xs,aA (bc.of G),rfl,.inl (ax.of (g _ _ T)),Signs.dIns (Signs.same g U),by rw[aX];decide,BR _,_,rfl,?_⟩)⟩;rw[if_pos rfl];by_cases N:f.sg∈m;rotate_left
  ·rw[zzr0 (fun z=>N (Az.mp z))];exact bN (bN ⟨_,rfl,n (.inr (.inr (.inr (.inl N))))⟩)
  rw[zzr1 (Az.mpr N)];refine aU ?_;refine⟨_,rfl,.inr (.inl ⟨t,_,2,_,rfl,rfl,bc.of v,rfl,_,rfl,d,_,rfl,.inl ⟨_,.inr f.b,.inl j,rfl,rfl⟩,_,rfl,?_⟩)⟩;rw[dL];by_cases O:f.b∈rooms;rotate_left
  ·rw[zzr0 O];exact bN ⟨_,rfl,n (.inr (.inr (.inr (.inr O))))⟩
  rw[zzr1 O];refine aU ?_;have I:(dF ((p.take i).map jx)).length<aj:=de (bp (uq _) (by rw[ak,bm];omega));refine⟨_,rfl,_,rfl,e,_,rfl,.inr ⟨_,jx f,t,u,rfl,eO.tk ⟨s,v,G⟩,D,I,rfl⟩,_,_,rfl,?_,?_,?_,?_⟩
  ·intro b o q;rw[ai (ae q al)];exact g _ _ q
  ·rw[ai (fun z=>by rw[z,u]at j;cases j)];exact j
  ·rw[aa,take_snoc r,ar];exact congrArg (fun z=>some (HO.dT z)) (ix _ _).symm
  ·rw[<-hf,take_snoc r]
   conv=>rhs;unfold EO
   rw[if_neg];rintro(z|z|z|z|z)
   ·exact J z
   ·exact L z
   ·exact z M
   ·exact z N
   ·exact z O
 ·rintro σ H' ⟨x,y,rfl,C,_,_,hf⟩;have:=k H' C;rw[<-hf,ak,Paired.length A,List.drop_length]at this;exact this
theorem xA{rooms:Zb}{e:List (List Str)}:∀(f ahead:List ag) (i:Nat),i+f.length<=2000->(ahead++f).Nodup->(∀d∈f,d.a∈rooms/\d.sg∈e/\d.b∈rooms)->EO rooms e i ahead f=none
 |[],_,_,_,_,_=>rfl
 |n::j,ahead,i,k,g,h=>by
  rw[gA]at k;unfold EO;rw[if_neg]
  ·refine xA j (ahead++[n]) (i+1) (by omega) (by rw[dw];exact g) fun w l=>h w (eQ _ l)
  ·have:=h n dP;rintro(z|z|z|z|z)
   ·omega
   ·rw[cG]at g;exact g.2.2 n z n (dP) rfl
   ·exact z this.1
   ·exact z this.2.1
   ·exact z this.2.2
inductive sp_need_none (vs:List V)(H:Hp)(Q:VK)(E:XK):Prop
 |mk (x:V):(vs=[x,.non])->(Q .non H)->sp_need_none  vs H Q E
theorem vA{K:Za}{a:List V}{H:Hp}{Q:VK}{E:XK}(h:sp_need_none a H Q E):wD K (bQ Q) (start xN a) H:=by
 obtain⟨x,rfl,k⟩:=h;refine⟨_,rfl,_,rfl,?_⟩;have e:(!decide (V.non=V.non))=false:=by rw[zzr1 rfl];rfl
 rw[e];exact aU k
structure Lists(H:Hp)(l1 l2 l3 l4:Addr)(ts:Ze)(J0 J1 rooms:Zb)(ds:List ag):Prop where
 a1:H l1=some (.lst (J0.map V.str))
 a2:H l2=some (.lst (J1.map V.str))
 a3:H l3=some (.lst (rooms.map V.str))
 a4:H l4=some (.lst (ts.map V.ref))
 ds:b0 H ts ds
theorem Lists.same{H a:Hp}{f g l3 i:Addr}{j:Ze}{k l rooms:Zb}{m:List ag}(h:Lists H f g l3 i j k l rooms m)(e:ac H a):Lists a f g l3 i j k l rooms m :=
 ⟨e _ _ h.a1,e _ _ h.a2,e _ _ h.a3,e _ _ h.a4,h.ds.kt (ac.kt e)⟩
inductive sp_need_parts (vs:List V)(H:Hp)(Q:VK)(E:XK):Prop
 |mk (l1 l2 l3 l4:Addr) (ts:Ze) (J0 J1 rooms:Zb) (ds:List ag):(vs=[.ref l1,.ref l2,.ref l3,.ref l4])->(Lists H l1 l2 l3 l4 ts J0 J1 rooms ds)->(aW J0 J1 rooms ds)->(∀H',ac H H'->Q .non H')->sp_need_parts  vs H Q E
theorem aW.signs{J0 h rooms:Zb}{i:List ag}(m:aW J0 h rooms i):∀d∈i,d.a∈rooms/\d.sg∈jv J0 h/\d.b∈rooms:=by
 intro d j;have g:=m.good d j;refine⟨g.a,?_,g.b⟩;unfold jv;rcases g.sg with⟨w,f,e⟩|⟨w,f,e⟩|e
 ·rw[e];exact cJ _ (cJ _ (aK.mpr ⟨w,f,rfl⟩))
 ·rw[e];exact cJ _ (dC _ (aK.mpr ⟨w,f,rfl⟩))
 ·rw[e];exact dC _ (by simp[stillSg])
theorem oN{a:Zb}(h:hU a):∀w∈a,w.length<=1000:=fun w e=>bp (h.2 w e).hi (by decide)
theorem tw{K:Za}{r:List V}{H:Hp}{Q:VK}{E:XK}(h:sp_need_parts r H Q E):vb K sp_need_none (sp_first_wrong_door K) (sp_door_signs K) (sp_first_wrong_name K) (bQ Q) (start wc r) H:=by
 obtain⟨j,s,t,w,x,f,g,rooms,l,rfl,L,m,k⟩:=h;have y:cI f 4 []=none:=gW m.asks0 m.asks4 m.okA.1 m.okA.2;have z:cI g 4 f=none:=gW m.says0 m.says4 (by
  rw[cG];exact⟨m.okA.1,m.okS.1,fun a A b B e=>m.apart b B (e▸A)⟩) m.okS.2
 have C:cI rooms 150 []=none:=gW m.rooms0 (by have:=m.rooms26;omega) m.okR.1 m.okR.2;have D:EO rooms (jv f g) 0 [] l=none:=xA l [] 0 (by have:=m.few;omega) m.nodup m.signs;have Y:=m.asks4;have z2:=m.says4;have z3:=m.rooms26;have z4:=m.few;refine⟨_,rfl,(by show 0<=aj;decide),fun e i=>⟨j,e,f,[],4,rfl,ax.of (kp L.a1 i),ax.of aa,by simp;omega,oN m.okA,fun H1 G=>?_⟩⟩;rw[y];refine⟨_,rfl,?_⟩;have n:=(ac.new i).trans G;refine⟨_,rfl,_,rfl,s,j,g,f,4,rfl,ax.of (n _ _ L.a2),ax.of (n _ _ L.a1),by omega,oN m.okS,fun H2 I=>?_⟩;rw[z];refine⟨_,rfl,?_⟩;have u:=n.trans I;refine⟨_,rfl,(by show 0<=aj;decide),fun e i=>⟨t,e,rooms,[],150,rfl,ax.of (kp (u _ _ L.a3) i),ax.of aa,by simp;omega,oN m.okR,fun H3 J=>?_⟩⟩;rw[C];refine⟨_,rfl,?_⟩;have o:=(u.trans (ac.new i)).trans J;refine⟨_,rfl,_,rfl,_,rfl,_,rfl,j,s,f,g,rfl,o _ _ L.a1,o _ _ L.a2,by omega,by omega,fun M N H4 hx O p=>?_⟩;have v:=o.trans O;have q:=L.same v;refine⟨w,t,M,x,l,rooms,N,jv f g,rfl,q.a4,q.ds,q.a3,by omega,p,hx,by omega,fun T U=>?_⟩;rw[D];exact⟨_,rfl,k T (v.trans U)⟩
section
variable{κ ι:Type}[DecidableEq κ]{e:ι->κ}
def dE(e:ι->κ)(ps:List (ι×Addr)):List (κ×V):=ps.map fun x=>(e x.1,V.ref x.2)
theorem kS(inj:∀x y,e x=e y->x=y){i:ι}:∀{a:List (ι×Addr)},i∉a.map (·.1)->cz (dE e a) (e i)=none
 |[],_=>rfl
 |x::a,h=>by
  rw[bx,du]at h;show cz ((e x.1,V.ref x.2)::dE e a) (e i)=none;rw[db (fun z=>h (.inl (inj _ _ z).symm))];exact kS inj (fun z=>h (.inr z))
theorem eE(inj:∀x y,e x=e y->x=y){i:ι}{a:Addr}:∀{f:List (ι×Addr)},(f.map (·.1)).Nodup->(i,a)∈f->cz (dE e f) (e i)=some (.ref a)
 |[],_,h=>by cases h
 |x::f,g,h=>by
  rw[bx,mQ]at g;show cz ((e x.1,V.ref x.2)::dE e f) (e i)=_;rcases du.mp h with h|h
  ·rw[<-h];exact dD rfl
  ·rw[db (fun z=>g.1 (by rw[inj _ _ z];exact aK.mpr ⟨_,h,rfl⟩))];exact eE inj g.2 h
theorem uo(f:List (ι×Addr))(i:ι)(a:Addr):dE e (f++[(i,a)])=dE e f++[(e i,.ref a)]:=by
 unfold dE;rw[ar]
 rfl
end
structure DL{ι:Type}(H0 H:Hp)(d:Addr)(ps:List (ι×Addr)):Prop where
 nd:(ps.map (·.1)).Nodup
 na:(ps.map (·.2)).Nodup
 fr:∀x∈ps,H0 x.2=none
 frd:H0 d=none
 ned:∀x∈ps,x.2≠d
 same:ac H0 H
theorem DL.snoc{ι:Type}{f H k:Hp}{d:Addr}{g:List (ι×Addr)}{i:ι}{a:Addr}(h:DL f H d g)(hi:i∉g.map (·.1))(l:∀x∈g,x.2≠a)(m:f a=none)(n:a≠d)(s:ac f k):DL f k d (g++[(i,a)]):=by
 refine⟨?_,?_,?_,h.frd,?_,s⟩
 ·rw[ar,cG];refine⟨h.nd,by simp,fun x hx y j e=>?_⟩;have:y=i:=by simpa using j
  exact hi (by rw[<-this,<-e];exact hx)
 ·rw[ar,cG];refine⟨h.na,by simp,fun x hx y j e=>?_⟩;have:y=a:=by simpa using j
  obtain⟨z,o,rfl⟩:=aK.mp hx;exact l z o (e.trans this)
 ·intro x hx;rcases bg.mp hx with hx|hx
  ·exact h.fr x hx
  ·have:x=(i,a):=by simpa using hx
   rw[this];exact m
 ·intro x hx;rcases bg.mp hx with hx|hx
  ·exact h.ned x hx
  ·have:x=(i,a):=by simpa using hx
   rw[this];exact n
theorem Dd{ι:Type}:∀{a:List (ι×Addr)},(a.map (·.2)).Nodup->∀{x y:ι×Addr},x∈a->y∈a->x.2=y.2->x=y
 |[],_,x,_,h,_,_=>by cases h
 |p::a,f,x,y,hx,g,e=>by
  rw[bx,mQ]at f;rcases du.mp hx with hx'|hx'<;>rcases du.mp g with hy'|hy'
  ·rw[hx',hy']
  ·exact absurd (aK.mpr ⟨y,hy',by rw[<-e,hx']⟩) f.1
  ·exact absurd (aK.mpr ⟨x,hx',by rw[e,hy']⟩) f.1
  ·exact Dd f.2 hx' hy' e
theorem iV:∀x y:Str,(Sum.inr x:ca)=Sum.inr y->x=y:=fun x y h=>by injection h
def cg(ds:List ag)(r:Str):List ag:=ds.filter fun d=>decide (d.a=r)
inductive sp_doors_by_start (vs:List V)(H:Hp)(Q:VK)(E:XK):Prop
 |mk (l3 l4:Addr) (ts:Ze) (rooms:Zb) (ds:List ag):(vs=[.ref l3,.ref l4])->(H l3=some (.lst (rooms.map V.str)))->(H l4=some (.lst (ts.map V.ref)))->(b0 H ts ds)->(rooms.Nodup)->(rooms.length<=1000)->(ds.length<=9000)->((∀d∈ds,d.a∈rooms))->(∀(d:Addr) (ps:List (Str×Addr)) (H':Hp),ps.map (·.1)=rooms->H' d=some (.dK (dE Sum.inr ps))->(∀x∈ps,∃us,H' x.2=some (.lst (us.map V.ref))/\b0 H' us (cg ds x.1))->ac H H'->Q (.ref d) H')->sp_doors_by_start  vs H Q E
theorem nA{K:Za}{vs:List V}{H:Hp}{Q:VK}{E:XK}(h:sp_doors_by_start vs H Q E):ou K (bQ Q) (start oW vs) H:=by
 obtain⟨l3,l4,ts,rooms,L,rfl,h3,h4,M,aq,hz,bi,aC,k⟩:=h;refine fun d hd=>?_;refine⟨_,rfl,l3,rfl,⟨_,ax.of (kp h3 hd)⟩,?_⟩
 let aS:Nat->L2.St->Hp->Prop:=fun i σ j=>∃x y,σ=[some (.ref l3),some (.ref l4),some (.ref d),x,y]/\∃l:List (Str×Addr),l.map (·.1)=rooms.take i/\j d=some (.dK (dE Sum.inr l))/\DL H j d l/\∀x∈l,j x.2=some (.lst [])
 refine bG (xs:=rooms.map V.str) aS
  ⟨_,_,rfl,[],rfl,aa,⟨by simp,by simp,by simp,hd,by simp,ac.new hd⟩,by simp⟩ (fun i σ j _ zq=>by obtain⟨_,_,_,_,_,_,D,_⟩:=zq;exact ax.of (D.same _ _ h3)) ?_ ?_
 ·rintro i x σ j hi ⟨x3,N,rfl,l,m,n,D,g⟩;obtain⟨w,hw,rfl⟩:=bq hi;have v:w∉l.map (·.1):=by
   rw[m];intro z;have:=aq;rw[<-List.take_append_drop (i+1) rooms,take_snoc hw,cG]at this;have:=this.1;rw[cG]at this;exact this.2.2 w z w (by simp) rfl
  refine⟨(by show 0<=aj;decide),fun a G=>?_⟩;have O:(dE (Sum.inr:Str->ca) l).length<aj:=ay (by
   unfold dE;rw[ak,<-ak (f:=(·.1)) (as:=l),m,bm];omega)
  have a0:H a=none:=D.same.free G;have T:a≠d:=(ae n G).symm;have U:∀x∈l,x.2≠a:=fun x hx=>ae (g x hx) G;refine⟨_,rfl,_,rfl,d,_,rfl,.inl ⟨_,.inr w,kp n G,rfl,O,rfl⟩,_,_,rfl,l++[(w,a)],?_,?_,?_,?_⟩
  ·rw[ar,m,take_snoc hw];rfl
  ·rw[aa,kj _ (kS iV v),uo]
  ·refine D.snoc v U a0 T ?_;intro b o q;rw[ai (ae q hd)];exact kp (D.same _ _ q) G
  ·intro x hx;rcases bg.mp hx with hx|hx
   ·rw[ai (D.ned x hx)];exact kp (g x hx) G
   ·have:x=(w,a):=by simpa using hx
    rw[this,ai T];exact aa
 ·rintro σ H1 ⟨x3,N,rfl,l,m,a4,D1,g⟩;rw[ak,bd]at m;refine⟨_,rfl,l4,rfl,⟨_,ax.of (D1.same _ _ h4)⟩,?_⟩
  let a5:Nat->L2.St->Hp->Prop:=fun i σ j=>∃N,σ=[some (.ref l3),some (.ref l4),some (.ref d),x3,N]/\j d=some (.dK (dE Sum.inr l))/\DL H j d l/\∀x∈l,∃I,j x.2=some (.lst (I.map V.ref))/\b0 j I (cg (L.take i) x.1)
  refine bG (xs:=ts.map V.ref) a5
   ⟨_,rfl,a4,D1,fun x hx=>⟨[],g x hx,.nil⟩⟩ (fun i σ j _ zq=>by obtain⟨_,_,_,D,_⟩:=zq;exact ax.of (D.same _ _ h4)) ?_ ?_
  ·rintro i x σ j hi ⟨N,rfl,n,D,g⟩;obtain⟨t,ht,rfl⟩:=bE hi;obtain⟨u,B,a6⟩:=Paired.getL M ht;have A:=a6.kt (ac.kt D.same);have Y:=A;obtain⟨s,a7,bl⟩:=A;have al:u.a∈l.map (·.1):=by rw[m];exact aC u (cV B)
   obtain⟨⟨r,a⟩,p,er⟩:=aK.mp al;obtain rfl:r=u.a:=er;obtain⟨I,C,an⟩:=g _ p;have bn:i<L.length:=(cE.mp B).1;have a8:I.length<=9000:=by
    rw[Paired.length an];refine bp (cF _ _) ?_;rw[bm];omega
   have KT:iI j (upd j a (.lst (I.map V.ref++[.ref t]))):=cv C;refine⟨_,rfl,_,rfl,.inr (.inl ⟨t,_,0,_,rfl,rfl,bc.of a7,rfl,d,.ref a,rfl,.inl ⟨_,.inr u.a,.inl n,rfl,(eE iV D.nd p).symm⟩,.inl ⟨rfl,_,ax.of C⟩,_,rfl,a,_,_,rfl,rfl,C,?_,_,rfl,?_,?_,?_⟩)⟩
   ·rw[ak];exact de a8
   ·rw[ai (D.ned _ p).symm];exact n
   ·refine⟨D.nd,D.na,D.fr,D.frd,D.ned,fun b o q=>?_⟩;rw[ai (ae q (D.fr _ p))];exact D.same _ _ q
   ·intro x hx;have ap:∀r',cg (L.take (i+1)) r'=cg (L.take i) r'++(if u.a=r' then[u]else[]):=by
     intro r';unfold cg;rw[take_snoc B,lS];congr 1;by_cases c:u.a=r'
     ·rw[if_pos c];simp[c]
     ·rw[if_neg c];simp[c]
    by_cases c:x.2=a
    ·have ex:=Dd D.na hx p c;subst ex;refine⟨I++[t],?_,?_⟩
     ·show upd j a _ a=_;rw[aa,ar];rfl
     ·rw[ap];show b0 _ _ (cg (L.take i) u.a++(if u.a=u.a then[u]else[]))
      rw[if_pos rfl];exact Paired.app (an.kt KT) (.cons (Y.kt KT) .nil)
    ·obtain⟨a9,h1,h2⟩:=g x hx;have bb:¬(u.a=x.1):=fun z=>by
      have e1:=eE (e:=(Sum.inr:Str->ca)) iV D.nd p;have J:=eE (e:=(Sum.inr:Str->ca)) (i:=x.1) (a:=x.2) iV D.nd hx;rw[<-z,e1]at J;injection J with J;injection J with J;exact c J.symm
     refine⟨a9,by rw[ai c];exact h1,?_⟩;rw[ap,if_neg bb,cP];exact h2.kt KT
  ·rintro σ j ⟨N,rfl,n,D,g⟩;rw[ak,Paired.length M,bd]at g;exact⟨_,rfl,k d l j m n g D.same⟩
def ei(d:ag):Bool:=match d.sg with
 |s::_=>decide (s=("ask":Str))
 |[]=>false
inductive sp_has_asks_alone (vs:List V)(H:Hp)(Q:VK)(E:XK):Prop
 |mk (a:Addr) (us:Ze) (ds:List ag):(vs=[.ref a])->(H a=some (.lst (us.map V.ref)))->(b0 H us ds)->(ds.length<=9000)->((∀d∈ds,d.sg≠[]))->(∀H',ac H H'->Q (.bl (ds.all ei)) H')->sp_has_asks_alone  vs H Q E
theorem nz{K:Za}{f:List V}{H:Hp}{Q:VK}{E:XK}(h:sp_has_asks_alone f H Q E):oq K (bQ Q) (start oU f) H:=by
 obtain⟨a,O,L,rfl,M,v,Y,C,k⟩:=h;refine⟨_,rfl,a,rfl,⟨_,ax.of M⟩,fun l N=>?_⟩
 let D:Nat->List V->Hp->Prop:=fun i f n=>f=(L.take i).map (fun d=>V.bl (ei d))/\ac H n/\n l=some (.lst f)
 refine bP (xs:=O.map V.ref) D
  ⟨rfl,ac.new N,aa⟩ (fun i f n _ T=>by obtain⟨_,p,r⟩:=T;exact⟨r,ax.of (p _ _ M)⟩) ?_ ?_
 ·rintro f n ⟨rfl,p,r⟩;rw[ak,Paired.length v,bd]at r;refine⟨l,L.map ei,rfl,ax.of (by rw[r,nV];rfl),?_⟩;rw[List.all_map];exact k n p
 ·rintro i f n x hx hi ⟨rfl,p,r⟩;obtain⟨t,U,rfl⟩:=bE hx;obtain⟨G,w,I⟩:=Paired.getL v U;obtain⟨s,J,m⟩:=I.kt (ac.kt p);have A:=cV w;obtain⟨u,g,B⟩:∃u g,G.sg=u::g:=by
   cases q:G.sg with
   |nil=>exact absurd q (C G A)
   |cons x y=>exact⟨x,y,rfl⟩
  unfold SignAt at m;rw[B]at m;refine gN (u_ ?_);refine⟨_,rfl,.inr (.inl ⟨t,_,1,_,rfl,rfl,bc.of J,rfl,.inr (.inl ⟨s,_,0,.str u,rfl,rfl,bc.of m,bZ (j:=0) rfl,rfl,r,?_,kq hi ⟨?_,?_,aa⟩⟩)⟩)⟩
  ·rw[ak,bm];exact de (by omega)
  ·rw[take_snoc w,ar];congr 1;show[V.bl _]=[V.bl _];congr 2;unfold ei;rw[B];show decide (V.str u=V.str _)=decide (u=_);by_cases c:u=("ask":Str)
   ·rw[zzr1 c,zzr1 (by rw[c])]
   ·rw[zzr0 c,zzr0 (fun z=>c (by injection z))]
  ·intro b o e;rw[ai (ae e N)];exact p _ _ e
def sS(x:Str×List Str):TK:=.t [pj x.1,BQ x.2]
theorem g_:∀x y:Str×List Str,sS x=sS y->x=y:=by
 intro x y h;unfold sS at h;injection h with h;injection h with a h;injection h with e h;cases x;cases y;simp only at *;rw[p8 a,AF e]
theorem oC(x:Str×List Str):(sS x).depth<=8:=by
 show max (TK.depth (pj x.1)) (max (TK.depth (BQ x.2)) 0)+1<=8;rw[t8];show max 0 (max 1 0)+1<=8
 decide
def aM(ds:List ag)(x:Str×List Str):List Str:=(ds.filter fun d=>decide (d.a=x.1/\d.sg=x.2)).map (·.b)
theorem vV(e:List ag)(d:ag)(x:Str×List Str):aM (e++[d]) x=aM e x++(if(d.a,d.sg)=x then[d.b]else[]):=by
 unfold aM;rw[lS,ar];congr 1;by_cases c:(d.a,d.sg)=x
 ·subst c;simp
 ·rw[if_neg c];have:¬(d.a=x.1/\d.sg=x.2):=fun z=>c (by cases x;simp only at z;rw[z.1,z.2]);simp[lR];intro f g;exact this ⟨f,g⟩
theorem kA{e:List ag}{x:Str×List Str}(h:∀d∈e,(d.a,d.sg)≠x):aM e x=[]:=by
 unfold aM;rw[List.map_eq_nil_iff,List.filter_eq_nil_iff];intro d f;have:¬(d.a=x.1/\d.sg=x.2):=fun z=>h d f (by cases x;simp only at z;rw[z.1,z.2]);simp;intro g i;exact this ⟨g,i⟩
theorem bw{a:List ag}{x:Str×List Str}{b:Str}:b∈aM a x↔(⟨x.1,x.2,b⟩:ag)∈a:=by
 unfold aM;rw[aK];constructor
 ·rintro⟨d,e,rfl⟩;rw[bA]at e;obtain⟨i,j⟩:=e;obtain⟨f,g⟩:=of_decide_eq_true j;cases d;simp only at f g;rw[<-f,<-g];exact i
 ·intro h;exact⟨_,bA.mpr ⟨h,zzr1 ⟨rfl,rfl⟩⟩,rfl⟩
structure iY(H:Hp)(g:Addr)(ps:List ((Str×List Str)×Addr))(ds:List ag):Prop where
 nd:(ps.map (·.1)).Nodup
 g:H g=some (.dT (dE sS ps))
 ls:∀x∈ps,H x.2=some (.lst ((aM ds x.1).map V.str))
 all:∀d∈ds,(d.a,d.sg)∈ps.map (·.1)
theorem iY.same{H H':Hp}{g:Addr}{a:List ((Str×List Str)×Addr)}{e:List ag}(h:iY H g a e)(s:ac H H'):iY H' g a e:=⟨h.nd,s _ _ h.g,fun x hx=>s _ _ (h.ls x hx),h.all⟩
inductive np (vs:List V)(H:Hp)(Q:VK)(E:XK):Prop
 |mk (l4:Addr) (ts:Ze) (ds:List ag):(vs=[.ref l4])->(H l4=some (.lst (ts.map V.ref)))->(b0 H ts ds)->(ds.length<=9000)->(∀(g:Addr) (ps:List ((Str×List Str)×Addr)) (H':Hp),iY H' g ps ds->ac H H'->Q (.ref g) H')->np  vs H Q E
theorem ip{K:Za}{vs:List V}{H:Hp}{Q:VK}{E:XK}(h:np vs H Q E):iE K (bQ Q) (start iH vs) H:=by
 obtain⟨l4,ts,T,rfl,h4,al,hz,k⟩:=h;refine fun g hg=>?_;refine⟨_,rfl,l4,rfl,⟨_,ax.of (kp h4 hg)⟩,?_⟩
 let aS:Nat->L2.St->Hp->Prop:=fun i σ u=>∃x y z,σ=[some (.ref l4),some (.ref g),x,y,z]/\∃p:List ((Str×List Str)×Addr),DL H u g p/\u g=some (.dT (dE sS p))/\p.length<=i/\(∀x∈p,u x.2=some (.lst ((aM (T.take i) x.1).map V.str)))/\∀d∈T.take i,(d.a,d.sg)∈p.map (·.1)
 refine bG (xs:=ts.map V.ref) aS
  ⟨_,_,_,rfl,[],⟨by simp,by simp,by simp,hg,by simp,ac.new hg⟩,aa,by simp,by simp,by simp⟩ (fun i σ u _ zq=>by obtain⟨_,_,_,_,_,D,_⟩:=zq;exact ax.of (D.same _ _ h4)) ?_ ?_
 ·rintro i x σ u hi ⟨x2,x3,x4,rfl,p,D,w,an,m,l⟩;obtain⟨t,ht,rfl⟩:=bE hi;obtain⟨f,C,a0⟩:=Paired.getL al ht;have a9:i<T.length:=(cE.mp C).1;obtain⟨s,a4,a5⟩:=a0.kt (ac.kt D.same);refine⟨t,_,rfl,bc.of a4,rfl,_,_,rfl,_,_,rfl,_,_,rfl,rfl,?_⟩;refine⟨_,rfl,.inr (.inr (.inl ⟨rfl,.inr ⟨_,w⟩⟩)),_,rfl,_,rfl,(by show 2<=aj;decide),fun kt ap=>⟨(by show 0<=aj;decide),fun nl U=>?_⟩⟩;have G:ac u (upd (upd u kt (.tup [.str f.a,.ref s])) nl (.lst [])):=(ac.new ap).trans (ac.new U);have L:upd (upd u kt (.tup [.str f.a,.ref s])) nl (.lst []) kt=some (.tup [.str f.a,.ref s]):=kp aa U;have M:upd (upd u kt (.tup [.str f.a,.ref s])) nl (.lst []) nl=some (.lst []):=aa;have j:u nl=none:=(ac.new ap).free U;generalize upd (upd u kt (.tup [.str f.a,.ref s])) nl (.lst [])=H2 at G L M ⊢;have a6:iB H2 (sS (f.a,f.sg)) (.ref kt):=by
   unfold sS iB;refine⟨kt,_,rfl,L,?_⟩;unfold TKAts;refine⟨_,_,rfl,yb _,?_⟩;unfold TKAts;refine⟨_,_,rfl,SignAt.tk (G _ _ a5),?_⟩;unfold TKAts
   rfl
  have a7:(dE sS p).length<aj:=de (by unfold dE;rw[ak];omega);have I:∀x,aM (T.take (i+1)) x=aM (T.take i) x++(if(f.a,f.sg)=x then[f.b]else[]):=fun x=>by rw[take_snoc C,vV]
  have a8:∀x,(aM (T.take i) x).length<=9000:=fun x=>by
   unfold aM;rw[ak];refine bp (cF _ _) ?_;rw[bm];omega
  refine⟨g,kt,_,sS (f.a,f.sg),.ref nl,rfl,rfl,G _ _ w,a6,oC _,a7,fun v J=>?_,fun J=>?_⟩
  ·-- there aq
   have N:(f.a,f.sg)∈p.map (·.1):=by
    refine Classical.byContradiction fun z=>?_;rw[kS g_ z]at J;cases J
   obtain⟨⟨r,a⟩,n,er⟩:=aK.mp N;obtain rfl:r=(f.a,f.sg):=er;rw[eE g_ D.nd n]at J;injection J with J;subst J;have as:=G _ _ (m _ n);refine⟨.inl ⟨rfl,_,ax.of as⟩,_,rfl,a,_,_,rfl,rfl,as,by rw[ak];exact de (a8 _),_,_,_,rfl,p,⟨D.nd,D.na,D.fr,D.frd,D.ned,fun b o q=>?_⟩,?_,by omega,?_,?_⟩
   ·rw[ai (ae q (D.fr _ n))];exact G _ _ (D.same _ _ q)
   ·rw[ai (D.ned _ n).symm];exact G _ _ w
   ·intro x hx;by_cases c:x.2=a
    ·have ex:=Dd D.na hx n c;subst ex;show upd H2 a _ a=_;rw[aa,I,if_pos rfl,ar];rfl
    ·have Y:¬((f.a,f.sg)=x.1):=fun z=>by
      have e1:=eE (e:=sS) g_ D.nd n;have e2:=eE (e:=sS) (i:=x.1) (a:=x.2) g_ D.nd hx;rw[<-z,e1]at e2;injection e2 with e2;injection e2 with e2;exact c e2.symm
     rw[ai c,I,if_neg Y,cP];exact G _ _ (m x hx)
   ·intro d hd;rw[take_snoc C]at hd;rcases bg.mp hd with hd|hd
    ·exact l d hd
    ·have:d=f:=by simpa using hd
     rw[this];exact N
  ·-- a new list
   have A:(f.a,f.sg)∉p.map (·.1):=by
    intro z;obtain⟨⟨r,a⟩,n,er⟩:=aK.mp z;obtain rfl:r=(f.a,f.sg):=er;rw[eE g_ D.nd n]at J;cases J
   have B:nl≠g:=(ae w j).symm;have O:upd H2 g (.dT (dE sS p++[(sS (f.a,f.sg),.ref nl)])) nl=some (.lst []):=by rw[ai B];exact M
   refine⟨.inl ⟨rfl,_,ax.of O⟩,_,rfl,nl,_,_,rfl,rfl,O,(by show 0<aj;decide),_,_,_,rfl,p++[((f.a,f.sg),nl)],?_,?_,?_,?_,?_⟩
   ·refine D.snoc A (fun x hx=>ae (m x hx) j) (D.same.free j) B ?_;intro b o q;rw[ai (ae q (D.same.free j)),ai (ae q hg)];exact G _ _ (D.same _ _ q)
   ·rw[ai B.symm,aa,uo]
   ·rw[aD];show _+1<=_;omega
   ·intro x hx;rcases bg.mp hx with hx|hx
    ·have Y:¬((f.a,f.sg)=x.1):=fun z=>A (by rw[z];exact aK.mpr ⟨x,hx,rfl⟩);rw[ai (ae (m x hx) j),ai (D.ned x hx),I,if_neg Y,cP];exact G _ _ (m x hx)
    ·have:x=((f.a,f.sg),nl):=by simpa using hx
     subst this;have aC:aM (T.take i) (f.a,f.sg)=[]:=kA fun d hd z=>A (by rw[<-z];exact l d hd);show upd _ nl _ nl=_;rw[aa,I,if_pos rfl,aC]
     rfl
   ·intro d hd;rw[ar];rw[take_snoc C]at hd;rcases bg.mp hd with hd|hd
    ·exact cJ _ (l d hd)
    ·have:d=f:=by simpa using hd
     rw[this];exact dC _ (by simp)
 ·rintro σ u ⟨x2,x3,x4,rfl,p,D,w,an,m,l⟩;rw[ak,Paired.length al,bd]at m l;exact⟨_,rfl,k g p u ⟨D.nd,w,m,l⟩ D.same⟩
theorem fD:∀{L R:Zb},L.Nodup->(∀y∈L,y∈R)->L.length<=R.length
 |[],_,_,_=>c9 _
 |x::L,R,a,h=>by
  rw[mQ]at a;have hx:=h x dP;have:=fD (L:=L) (R:=R.erase x) a.2 fun y f=>(List.mem_erase_of_ne (fun e:y=x=>a.1 (by rw[<-e];exact f))).mpr (h y (eQ _ f));rw[List.length_erase_of_mem hx]at this;have:0<R.length:=List.length_pos_of_mem hx;rw[gA];omega
theorem Reach.in_{e:List ag}{a b:Str}{rooms:Zb}(f:∀d∈e,d.b∈rooms)(h:Reach e a b):b∈rooms:=by
 cases h with
 |one h=>exact f _ h
 |step r h=>exact f _ h
inductive vq (vs:List V)(H:Hp)(Q:VK)(E:XK):Prop
 |mk (g:Addr) (room:Str) (ps:List ((Str×List Str)×Addr)) (ds:List ag) (rooms:Zb):(vs=[.ref g,.str room])->(iY H g ps ds)->((∀d∈ds,d.b∈rooms))->(rooms.length<=1000)->(∀(d:Addr) (L:Zb) (H':Hp),H' d=some (.dK (aL L))->L.Nodup->(∀w,w∈L↔Reach ds room w)->H d=none->ac H H'->Q (.ref d) H')->vq  vs H Q E
structure Gu(H0 H:Hp)(ds:List ag)(room:Str)(d w:Addr)(L W:Zb)(open_:Str->Prop):Prop where
 d:H d=some (.dK (aL L))
 w:H w=some (.lst (W.map V.str))
 same:ac H0 H
 nd:L.Nodup
 sound:∀y∈L,Reach ds room y
 wait:∀y∈W,y=room∨y∈L
 closed:∀y,(y=room∨y∈L)->y∉W->¬open_ y->∀c∈aM ds (y,stillSg),c∈L
theorem pP{K:Za}{st:Addr}(bn:∀H,bc K H st (stillSg.map V.str)){vs:List V}{H:Hp}{Q:VK}{E:XK}(h:vq vs H Q E):qR K st (bQ Q) (start sH vs) H:=by
 obtain⟨g,room,ps,ds,rooms,rfl,G,b1,hz,k⟩:=h;refine fun d hd=>?_;refine⟨_,rfl,(by show 1<=aj;decide),fun w hw=>?_⟩;have as:H w=none:=(ac.new hd).free hw;have U:d≠w:=ae aa hw;refine⟨fun m σ B=>∃(L W:Zb) (x y:Option V),σ=[some (.ref g),some (.str room),some (.ref d),some (.ref w),x,y]/\Gu H B ds room d w L W (fun _=>False)/\m=2 * (rooms.length-L.length)+W.length/\m<=2 * rooms.length+1,
  ⟨_,[],[room],_,_,rfl,⟨kp aa hw,aa,(ac.new hd).trans (ac.new hw),jB,by simp,by simp,?_⟩,rfl,aN _⟩,?_⟩
 ·intro y hy O;rcases hy with rfl|hy
  ·simp at O
  ·cases hy
 rintro m σ H1 ⟨L,W,x4,x5,rfl,D,rfl,hbound⟩;have T:∀{l:Zb},l.Nodup->(∀y∈l,Reach ds room y)->l.length<=rooms.length:=fun nd sd=>fD nd fun y hy=>(sd y hy).in_ b1;refine⟨_,rfl,.inl ⟨w,_,rfl,.inl (ax.of D.w),_,_,rfl,rfl,_,rfl,?_⟩⟩;refine gV (fun A=>?_) (fun A=>?_)
 ·have aC:W≠[]:=by
   intro z;rw[z]at A;exact absurd (of_decide_eq_true A) (by decide)
  obtain⟨s,f,rfl⟩:∃s f,W=s++[f]:=⟨W.dropLast,W.getLast aC,(List.dropLast_concat_getLast aC).symm⟩;have Y:f=room∨f∈L:=D.wait f (by simp);refine⟨fun σ' B=>∃(l n:Zb) (x y:Option V),σ'=[some (.ref g),some (.str room),some (.ref d),some (.ref w),x,y]/\Gu H B ds room d w l n (fun _=>False)/\2 * (rooms.length-l.length)+n.length<2 * (rooms.length-L.length)+(s++[f]).length,
   fun σ' B ⟨l,n,x,y,e,D',hm⟩=>⟨_,hm,l,n,x,y,e,D',rfl,by omega⟩,?_⟩
  have al:((s++[f]).map V.str)[((s++[f]).map V.str).length-1]?=some (.str f):=by simp
  have an:((s++[f]).map V.str).dropLast=s.map V.str:=by rw[ar];simp
  refine⟨_,rfl,.inl ⟨rfl,_,ax.of D.w⟩,w,_,_,rfl,rfl,D.w,al,?_⟩;rw[an];have aS:upd H1 w (.lst (s.map V.str)) d=some (.dK (aL L)):=by rw[ai U];exact D.d
  have a0:upd H1 w (.lst (s.map V.str)) w=some (.lst (s.map V.str)):=aa;have S1:ac H (upd H1 w (.lst (s.map V.str))):=fun b o q=>by rw[ai (ae q as)];exact D.same _ _ q
  generalize upd H1 w (.lst (s.map V.str))=H2 at aS a0 S1 ⊢;have G2:=G.same S1;refine⟨_,rfl,g,rfl,.inr ⟨_,.inl G2.g⟩,_,rfl,(by show 2<=aj;decide),fun kt a4=>⟨(by show 0<=aj;decide),fun et ap=>⟨cz (dE sS ps) (sS (f,stillSg)),.inr ⟨_,sS (f,stillSg),kt,.inl ?_,rfl,?_,oC _,rfl⟩,?_⟩⟩⟩
  ·exact kp (kp G2.g a4) ap
  ·unfold sS lz;refine⟨kt,_,rfl,bc.of (kp aa ap),?_⟩;unfold TKIns;refine⟨_,_,rfl,?_,?_⟩
   ·unfold pj lz;rfl
   unfold TKIns;refine⟨_,_,rfl,?_,?_⟩
   ·unfold BQ lz;refine⟨st,_,rfl,bn _,?_⟩;unfold stillSg;show TKIns K _ [pj _] [V.str _];unfold TKIns;refine⟨_,_,rfl,?_,?_⟩
    ·unfold pj lz;rfl
    unfold TKIns;rfl
   unfold TKIns;rfl
  have S3:ac H2 (upd (upd H2 kt (.tup [.str f,.ref st])) et (.tup [])):=(ac.new a4).trans (ac.new ap);have C:upd (upd H2 kt (.tup [.str f,.ref st])) et (.tup []) et=some (.tup []):=aa;generalize upd (upd H2 kt (.tup [.str f,.ref st])) et (.tup [])=H3 at S3 C ⊢;have D3:Gu H H3 ds room d w L s (fun y=>y=f):=⟨S3 _ _ aS,S3 _ _ a0,S1.trans S3,D.nd,D.sound,fun y hy=>D.wait y (cJ _ hy),fun y hy O ho=>D.closed y hy (fun z=>by rcases bg.mp z with z|z;exact O z;exact ho (by simpa using z)) (fun z=>z)⟩;have a5:2 * (rooms.length-L.length)+s.length<2 * (rooms.length-L.length)+(s++[f]).length:=by rw[aD];show _<_+(_+1);omega
  have a6:∀(H4:Hp) (l n:Zb) (x y:Option V),Gu H H4 ds room d w l n (fun y=>y=f)->(∀c∈aM ds (f,stillSg),c∈l)->2 * (rooms.length-l.length)+n.length<2 * (rooms.length-L.length)+(s++[f]).length ->
    ∃(l n:Zb) (x' y':Option V),[some (V.ref g),some (.str room),some (.ref d),some (.ref w),x,y]=[some (.ref g),some (.str room),some (.ref d),some (.ref w),x',y']/\Gu H H4 ds room d w l n (fun _=>False)/\2 * (rooms.length-l.length)+n.length<2 * (rooms.length-L.length)+(s++[f]).length:=by
   intro H4 l n x y p hc hm;refine⟨l,n,x,y,rfl,⟨p.d,p.w,p.same,p.nd,p.sound,p.wait,fun y hy O _=>?_⟩,hm⟩;by_cases e:y=f
   ·rw[e];exact hc
   ·exact p.closed y hy O e
  by_cases I:(f,stillSg)∈ps.map (·.1)
  ·obtain⟨⟨r,a⟩,a7,er⟩:=aK.mp I;obtain rfl:r=(f,stillSg):=er;rw[eE g_ G.nd a7];have a8:=G.ls _ a7;refine⟨a,rfl,.inl ⟨⟨_,ax.of ((S1.trans S3) _ _ a8)⟩,?_⟩⟩
   let aq:Nat->L2.St->Hp->Prop:=fun j σ B=>He fun(l n:Zb) (y:Option V)=>Gr (σ=[some (.ref g),some (.str room),some (.ref d),some (.ref w),some (.str f),y]) (Gu H B ds room d w l n (fun y=>y=f)) ((f=room∨f∈l)) ((∀c∈(aM ds (f,stillSg)).take j,c∈l)) (2 * (rooms.length-l.length)+n.length<2 * (rooms.length-L.length)+(s++[f]).length)
   refine bG (xs:=(aM ds (f,stillSg)).map V.str) aq
    ⟨L,s,_,rfl,D3,Y,by simp,a5⟩ (fun j σ B _ zq=>by obtain⟨_,_,_,_,D',_,_,_⟩:=zq;exact ax.of (D'.same _ _ a8)) ?_ ?_
   ·rintro j x σ H4 hj ⟨l,n,y,rfl,p,hh,hc,hm⟩;obtain⟨i,t,rfl⟩:=bq hj;have u:(⟨f,stillSg,i⟩:ag)∈ds:=bw.mp (cV t);have N:Reach ds room i:=by
     rcases hh with hh|hh
     ·rw[hh]at u;exact .one u
     ·exact .step (p.sound _ hh) u
    have b2:=T p.nd p.sound;refine⟨_,rfl,_,rfl,d,_,rfl,.inl ⟨_,.inr i,.inl p.d,rfl,rfl⟩,_,rfl,?_⟩;rw[dL];by_cases c:i∈l
    ·rw[zzr1 c];refine aU ⟨l,n,_,rfl,p,hh,?_,hm⟩;intro c' v;rw[take_snoc t]at v;rcases bg.mp v with h|h
     ·exact hc c' h
     ·have:c'=i:=by simpa using h
      rw[this];exact c
    ·rw[zzr0 c];refine bN ?_;have a9:(l++[i]).Nodup:=by
      rw[cG];refine⟨p.nd,by simp,fun a ha b hb e=>?_⟩;have:b=i:=by simpa using hb
      exact c (by rw[<-this,<-e];exact ha)
     have bb:∀y∈l++[i],Reach ds room y:=by
      intro y hy;rcases bg.mp hy with hy|hy
      ·exact p.sound y hy
      ·have:y=i:=by simpa using hy
       rw[this];exact N
     have J:=T a9 bb;rw[aD]at J;have b3:l.length+1<=rooms.length:=J;have b4:n.length<=9000:=by omega
     refine⟨_,rfl,_,rfl,d,_,rfl,.inl ⟨_,.inr i,p.d,rfl,ay (bp (iw _) (by omega)),rfl⟩,?_⟩;have bi:upd H4 d (.dK (c7 (aL l) (.inr i) (.bl true))) w=some (.lst (n.map V.str)):=by rw[ai U.symm];exact p.w
     refine⟨_,rfl,.inl ⟨rfl,_,ax.of bi⟩,_,rfl,w,_,_,rfl,rfl,bi,by rw[ak];exact de b4,l++[i],n++[i],_,rfl,⟨?_,?_,?_,a9,bb,?_,?_⟩,?_,?_,?_⟩
     ·rw[ai U,aa,cy]
     ·rw[aa,ar];rfl
     ·intro b o q;rw[ai (ae q as),ai (ae q hd)];exact p.same _ _ q
     ·intro y hy;rcases bg.mp hy with hy|hy
      ·rcases p.wait y hy with h|h
       ·exact .inl h
       ·exact .inr (cJ _ h)
      ·exact .inr (dC _ hy)
     ·intro y hy O ho c' v;have b5:y∉n:=fun z=>O (cJ _ z);have b6:y≠i:=fun z=>O (dC _ (by simp[z]));refine cJ _ (p.closed y ?_ b5 ho c' v);rcases hy with hy|hy
      ·exact .inl hy
      ·rcases bg.mp hy with hy|hy
       ·exact .inr hy
       ·exact absurd (by simpa using hy) b6
     ·rcases hh with h|h
      ·exact .inl h
      ·exact .inr (cJ _ h)
     ·intro c' v;rw[take_snoc t]at v;rcases bg.mp v with h|h
      ·exact cJ _ (hc c' h)
      ·exact dC _ h
     ·rw[aD,aD];show 2 * (rooms.length-(l.length+1))+(n.length+1)<_;omega
   ·rintro σ H4 ⟨l,n,y,rfl,p,hh,hc,hm⟩;rw[ak,bd]at hc;exact a6 H4 l n _ _ p hc hm
  ·rw[kS g_ I];refine⟨et,rfl,.inr ⟨⟨_,bc.of C⟩,?_⟩⟩;have M:aM ds (f,stillSg)=[]:=kA fun x hx z=>I (by rw[<-z];exact G.all x hx)
   let aq:Nat->L2.St->Hp->Prop:=fun j σ B=>σ=[some (.ref g),some (.str room),some (.ref d),some (.ref w),some (.str f),x5]/\B=H3
   refine AH (xs:=[]) aq ⟨rfl,rfl⟩ (fun j σ B _ zq=>by obtain⟨_,e⟩:=zq;exact by rw[e];exact bc.of C) (fun j x σ B hj=>by cases hj) ?_;rintro σ B ⟨rfl,rfl⟩;exact a6 _ L s _ _ D3 (by rw[M];simp) a5
 ·have M:W=[]:=by
   cases W with
   |nil=>rfl
   |cons a W=>exact absurd (zzr1 (by rw[ak,gA];omega)) A
  subst M;refine⟨_,rfl,k d L H1 D.d D.nd (fun w=>⟨D.sound w,fun hr=>?_⟩) hd D.same⟩
  induction hr with
  |one h=>exact D.closed room (.inl rfl) (by simp) (fun z=>z) _ (bw.mpr h)
  |step r h ih=>exact D.closed _ (.inr ih) (by simp) (fun z=>z) _ (bw.mpr h)
inductive sp_first_led_round (vs:List V)(H:Hp)(Q:VK)(E:XK):Prop
 |mk (l3 d:Addr) (rooms:Zb) (ps:List (Str×Addr)):(vs=[.ref l3,.ref d])->(H l3=some (.lst (rooms.map V.str)))->(H d=some (.dK (dE Sum.inr ps)))->(ps.map (·.1)=rooms)->(rooms.Nodup)->((∀x∈ps,∃L,H x.2=some (.dK (aL L))/\x.1∉L))->(∀H',ac H H'->Q .non H')->sp_first_led_round  vs H Q E
theorem mn{K:Za}{p:List V}{H:Hp}{Q:VK}{E:XK}(h:sp_first_led_round p H Q E):mZ K (bQ Q) (start nR p) H:=by
 obtain⟨q,d,rooms,u,rfl,s,v,f,m,z,k⟩:=h;refine⟨_,rfl,q,rfl,⟨_,ax.of s⟩,?_⟩
 let n:Nat->L2.St->Hp->Prop:=fun i σ e=>∃x y,σ=[some (.ref q),some (.ref d),x,y]/\ac H e
 refine iz (xs:=rooms.map V.str) n ⟨_,_,rfl,ac.refl H⟩ (fun i σ e _ A=>by obtain⟨_,_,_,S⟩:=A;exact ax.of (S _ _ s)) ?_ ?_
 ·rintro i x σ e t hi ⟨I,J,rfl,S⟩ B;obtain⟨w,C,rfl⟩:=bq hi;refine⟨t,_,rfl,bc.of aa,rfl,_,_,rfl,_,_,rfl,rfl,?_⟩;have l:ac H (upd e t (.tup [.int i,.str w])):=S.trans (ac.new B);generalize upd e t (.tup [.int i,.str w])=M at l ⊢;have g:w∈u.map (·.1):=by rw[f];exact cV C
  obtain⟨⟨r,a⟩,j,D⟩:=aK.mp g;obtain rfl:r=w:=D;obtain⟨L,o,G⟩:=z _ j;refine⟨_,rfl,_,rfl,_,rfl,d,.ref a,rfl,.inl ⟨_,.inr r,.inl (l _ _ v),rfl,(eE iV (by rw[f];exact m) j).symm⟩,a,_,rfl,.inl ⟨_,.inr r,.inl (l _ _ o),rfl,rfl⟩,_,rfl,?_⟩;rw[dL,zzr0 G];exact aU ⟨_,_,rfl,l⟩
 ·rintro σ e ⟨x,y,rfl,S⟩;exact k e S
abbrev lk(f:Str)(fs:List (Str×V)):Option V:=fs.lookup f
def cX(ds:List ag)(r:Str):Bool:=(cg ds r).all ei
structure bB(C:Addr)(H:Hp)(x:Addr)(J0 J1 rooms:Zb)(ds:List ag):Prop where
 at_:∃(dx:Addr) (fs:List (Str×V)) (o1 o2 o3 o4 lv qu sg sl:Addr) (ts:Ze) (lps:List (Str×Addr)) (gps:List ((Str×List Str)×Addr)) (sps:List (Str×Addr)),
  H x=some (.ins C dx fs)/\lk "is_quiet" fs=none/\lk "goals" fs=none/\lk "led_from" fs=none/\lk "rooms" fs=none /\
  lk "own_asks" fs=some (.ref o1)/\lk "own_says" fs=some (.ref o2)/\lk "own_rooms" fs=some (.ref o3)/\lk "own_doors" fs=some (.ref o4) /\
  lk "leaving" fs=some (.ref lv)/\lk "quiet" fs=some (.ref qu)/\lk "sign_goals" fs=some (.ref sg)/\lk "still_led" fs=some (.ref sl) /\
  Lists H o1 o2 o3 o4 ts J0 J1 rooms ds /\
  lps.map (·.1)=rooms/\H lv=some (.dK (dE Sum.inr lps))/\(∀x∈lps,∃us,H x.2=some (.lst (us.map V.ref))/\b0 H us (cg ds x.1)) /\
  H qu=some (.dK (aL (rooms.filter (cX ds))))/\iY H sg gps ds /\
  sps.map (·.1)=rooms/\H sl=some (.dK (dE Sum.inr sps))/\(∀x∈sps,∃L,H x.2=some (.dK (aL L))/\L.Nodup/\∀w,w∈L↔Reach ds x.1 w)
 ok:aW J0 J1 rooms ds
 more:∃(dx:Addr) (fs:List (Str×V)),H x=some (.ins C dx fs)/\lk "asks" fs=none/\lk "says" fs=none/\lk "doors" fs=none/\lk "doors_from" fs=none
theorem gE(f:Str)(v:V):∀fs:List (Str×V),(c8 f v fs).length<=fs.length+1
 |[]=>aN _
 | (g,x)::r=>by
  unfold c8;split
  ·exact Nat.le_succ _
  ·rw[gA,gA];have:=gE f v r;omega
theorem rS:∀(a qs:List (Str×Addr)),((qs++a).map (·.1)).Nodup->eM (dE Sum.inr qs) (dE Sum.inr a)=dE Sum.inr (qs++a)
 |[],qs,_=>by rw[cP];rfl
 |p::a,qs,g=>by
  show eM (c7 (dE Sum.inr qs) (Sum.inr p.1) (.ref p.2)) (dE Sum.inr a)=_;have e:qs++p::a=(qs++[p])++a:=by simp
  rw[e]at g ⊢;have f:p.1∉qs.map (·.1):=by
   rw[ar,ar,cG]at g;have:=g.1;rw[cG]at this;intro z;exact this.2.2 _ z _ (by simp) rfl
  rw[kj _ (kS iV f)];have:=rS a (qs++[p]) g;rw[<-this];have h:dE (Sum.inr:Str->ca) (qs++[p])=dE Sum.inr qs++[(Sum.inr p.1,V.ref p.2)]:=by
   unfold dE;rw[ar];rfl
  rw[h]
inductive nn(C:Addr)(vs:List V)(H:Hp)(Q:VK)(E:XK):Prop
 |mk (x dx l1 l2 l3 l4:Addr) (ts:Ze) (J0 J1 rooms:Zb) (ds:List ag):(vs=[.ref x,.ref l1,.ref l2,.ref l3,.ref l4])->(H x=some (.ins C dx []))->(Lists H l1 l2 l3 l4 ts J0 J1 rooms ds)->(aW J0 J1 rooms ds)->(∀H',bB C H' x J0 J1 rooms ds->cD x H H'->Q .non H')->nn C vs H Q E
theorem Lists.exI{H f:Hp}{x C p:Addr}{fs:List (Str×V)}{g i l3 j:Addr}{k:Ze}{l m rooms:Zb}{n:List ag}(h:Lists H g i l3 j k l m rooms n)(hx:H x=some (.ins C p fs))(e:cD x H f):Lists f g i l3 j k l m rooms n:=by
 have ne:∀{b:Addr}{o:List V},H b=some (.lst o)->b≠x:=fun a z=>by rw[z,hx]at a;cases a
 exact⟨e _ _ h.a1 (ne h.a1),e _ _ h.a2 (ne h.a2),e _ _ h.a3 (ne h.a3),e _ _ h.a4 (ne h.a4),h.ds.kt fun b o a=>e _ _ a fun z=>by rw[z,hx]at a;cases a⟩
theorem cD.ktI{H f:Hp}{x C g:Addr}{fs:List (Str×V)}(e:cD x H f)(hx:H x=some (.ins C g fs)):iI H f:=fun b h a=>e _ _ a fun z=>by rw[z,hx]at a;cases a
theorem cD.neI{H:Hp}{x C e:Addr}{fs:List (Str×V)}(hx:H x=some (.ins C e fs)){b:Addr}{f:List V}(a:H b=some (.lst f)):b≠x:=fun z=>by rw[z,hx]at a;cases a
theorem Dc{H:Hp}{x C f:Addr}{fs:List (Str×V)}(hx:H x=some (.ins C f fs)){b:Addr}{a:List (ca×V)}(e:H b=some (.dK a)):b≠x:=fun z=>by rw[z,hx]at e;cases e
theorem Fv{H:Hp}{x C f:Addr}{fs:List (Str×V)}(hx:H x=some (.ins C f fs)){b:Addr}{a:List (TK×V)}(e:H b=some (.dT a)):b≠x:=fun z=>by rw[z,hx]at e;cases e
structure MC(K:Za)(C:Addr):Prop where
 cls:B9 K C
 a1:fL K C "own_asks"
 a2:fL K C "own_says"
 a3:fL K C "own_rooms"
 a4:fL K C "own_doors"
 a5:fL K C "leaving"
 a6:fL K C "quiet"
 a7:fL K C "sign_goals"
 a8:fL K C "still_led"
theorem xB{H:Hp}{x C a:Addr}{fs:List (Str×V)}(f:Str)(y:V)(hx:H x=some (.ins C a fs)):∃e,e=upd H x (.ins C a (c8 f y fs))/\e x=some (.ins C a (c8 f y fs))/\cD x H e :=
 ⟨_,rfl,aa,cD.upd _ _ _⟩
theorem bC{p:Str->Bool}{a:Zb}{i:Nat}{w:Str}(h:a[i]?=some w):(a.take (i+1)).filter p=(a.take i).filter p++(if p w=true then[w]else[]):=by
 rw[take_snoc h,lS];congr 1;by_cases c:p w=true
 ·rw[if_pos c];simp[c]
 ·rw[if_neg c];simp[c]
theorem y1(a:List ag)(r:Str):(cg a r).length<=a.length:=cF _ _
theorem aW.sg0{a f rooms:Zb}{ds:List ag}(m:aW a f rooms ds){r:Str}:∀d∈cg ds r,d.sg≠[]:=by
 intro d g;have:=m.good d (bA.mp g).1;rcases this.sg with⟨w,_,e⟩|⟨w,_,e⟩|e<;>rw[e]<;>exact List.cons_ne_nil _ _
theorem Em{K:Za}{C:Addr}(M:MC K C){B:List V}{H:Hp}{Q:VK}{E:XK}(h:nn C B H Q E):
  me K sp_need_none sp_first_led_round vq np (sp_as_keys K) sp_has_asks_alone sp_doors_by_start sp_need_parts (bQ Q) (start mJ B) H:=by
 obtain⟨x,G,l1,l2,l3,l4,ts,J0,J1,rooms,ds,rfl,hx,L,m,k⟩:=h;have z3:=m.rooms26;have z4:=m.few;refine⟨_,rfl,_,rfl,_,rfl,_,rfl,l1,l2,l3,l4,ts,J0,J1,rooms,ds,rfl,L,m,fun H1 S1=>?_⟩;have aC:=S1 _ _ hx;have L1:=L.same S1;have E1:cD x H H1:=ac.exB S1;refine⟨_,rfl,.inl ⟨l1,_,rfl,.inl (ax.of L1.a1),fun o1 aS=>⟨_,rfl,x,C,G,_,rfl,kp aC aS,M.cls,M.a1,(by show 0<1000;decide),?_⟩⟩⟩;obtain⟨H2,e2,a0,F2⟩:=xB "own_asks" (.ref o1) (kp (x:=.lst (J0.map V.str)) aC aS);rw[<-e2];have n1:o1≠x:=(ae aC aS).symm;have f1:=F2 _ _ aa n1;have E2:cD x H1 H2:=(cD.new aS).trans F2;have ci:=L1.exI aC E2;have d1:(c8 ("own_asks":Str) (.ref o1) []).length<=1:=gE _ _ _;clear e2 F2;refine⟨_,rfl,.inl ⟨l2,_,rfl,.inl (ax.of ci.a2),fun o2 a9=>⟨_,rfl,x,C,G,_,rfl,kp a0 a9,M.cls,M.a2,by omega,?_⟩⟩⟩;obtain⟨H3,e3,bb,F3⟩:=xB "own_says" (.ref o2) (kp (x:=.lst (J1.map V.str)) a0 a9);rw[<-e3];have n2:o2≠x:=(ae a0 a9).symm;have f2:=F3 _ _ aa n2;have E3:cD x H2 H3:=(cD.new a9).trans F3;have L3:=ci.exI a0 E3;have d2:=gE ("own_says":Str) (.ref o2) (c8 ("own_asks":Str) (.ref o1) []);clear e3 F3;refine⟨_,rfl,.inl ⟨l3,_,rfl,.inl (ax.of L3.a3),fun o3 bi=>⟨_,rfl,x,C,G,_,rfl,kp bb bi,M.cls,M.a3,by omega,?_⟩⟩⟩;obtain⟨H4,e4,bl,F4⟩:=xB "own_rooms" (.ref o3) (kp (x:=.lst (rooms.map V.str)) bb bi);rw[<-e4];have n3:o3≠x:=(ae bb bi).symm;have f3:=F4 _ _ aa n3;have E4:cD x H3 H4:=(cD.new bi).trans F4;have L4:=L3.exI bb E4;have d3:=gE ("own_rooms":Str) (.ref o3) (c8 ("own_says":Str) (.ref o2) (c8 ("own_asks":Str) (.ref o1) []));clear e4 F4;refine⟨_,rfl,.inl ⟨l4,_,rfl,.inl (ax.of L4.a4),fun o4 bn=>⟨_,rfl,x,C,G,_,rfl,kp bl bn,M.cls,M.a4,by omega,?_⟩⟩⟩;obtain⟨H5,e5,n,F5⟩:=xB "own_doors" (.ref o4) (kp (x:=.lst (ts.map V.ref)) bl bn);rw[<-e5];have n4:o4≠x:=(ae bl bn).symm;have f4:=F5 _ _ aa n4;have E5:cD x H4 H5:=(cD.new bn).trans F5;have L5:=L4.exI bl E5;generalize b6:c8 ("own_doors":Str) (.ref o4) (c8 ("own_rooms":Str) (.ref o3) (c8 ("own_says":Str) (.ref o2) (c8 ("own_asks":Str) (.ref o1) [])))=s at n;have d4:s.length<=4:=by
  rw[<-b6];have:=gE ("own_doors":Str) (.ref o4) (c8 ("own_rooms":Str) (.ref o3) (c8 ("own_says":Str) (.ref o2) (c8 ("own_asks":Str) (.ref o1) [])));omega
 clear e5 F5;refine⟨_,rfl,_,rfl,l3,l4,ts,rooms,ds,rfl,L5.a3,L5.a4,L5.ds,m.okR.1,by omega,by omega,fun d hd=>(m.good d hd).a,fun N b1 eb O T b7 S6=>⟨_,rfl,x,C,G,s,rfl,S6 _ _ n,M.cls,M.a5,by omega,?_⟩⟩;obtain⟨H6,e6,u,F6⟩:=xB "leaving" (.ref N) (S6 _ _ n);rw[<-e6];have E6:cD x H5 H6:=(ac.exB S6).trans F6;have L6:=L5.exI n E6;have b8:=F6 _ _ T (Dc (S6 _ _ n) T);have cl:∀y∈b1,∃A,H6 y.2=some (.lst (A.map V.ref))/\b0 H6 A (cg ds y.1):=fun y hy=>by
  obtain⟨A,I,g2⟩:=b7 y hy;exact⟨A,F6 _ _ I (cD.neI (S6 _ _ n) I),g2.kt (F6.ktI (S6 _ _ n))⟩
 have c2:(b1.map (·.1)).Nodup:=by rw[O];exact m.okR.1
 have d5:=gE ("leaving":Str) (.ref N) s;have c3:lk "leaving" (c8 ("leaving":Str) (.ref N) s)=some (.ref N):=by
  show j4 _ _=_;rw[fu,if_pos rfl]
 clear e6 F6 T b7;refine⟨_,rfl,l3,rfl,⟨_,ax.of L6.a3⟩,fun f hf=>?_⟩
 let c4:Nat->List V->Hp->Prop:=fun i B U=>B=((rooms.take i).filter (cX ds)).map V.str/\ac H6 U/\U f=some (.lst B)
 refine bP (xs:=rooms.map V.str) c4 ⟨rfl,ac.new hf,aa⟩ (fun i B U _ zq=>by obtain⟨_,S,h'⟩:=zq;exact⟨h',ax.of (S _ _ L6.a3)⟩) ?_ ?_;rotate_left
 ·rintro i B U x' b9 hi ⟨rfl,S,f'⟩;obtain⟨r,hr,rfl⟩:=bq b9;obtain⟨⟨r',a⟩,cm,er⟩:=aK.mp (show r∈b1.map (·.1) by rw[O];exact cV hr);obtain rfl:r'=r:=er;obtain⟨A,c5,dc⟩:=cl _ cm;refine gN ?_;refine⟨_,rfl,x,C,G,_,.ref N,rfl,S _ _ u,M.cls,M.a5,c3,_,rfl,N,.ref a,rfl,.inl ⟨_,.inr r',.inl (S _ _ b8),rfl,(eE iV c2 cm).symm⟩,a,A,cg ds r',rfl,S _ _ c5,dc.kt (ac.kt S),bp (y1 _ _) (by omega),m.sg0,fun b2 l=>⟨_,rfl,?_⟩⟩;have co:(((rooms.take i).filter (cX ds)).map V.str).length<aj:=by
   rw[ak];refine ay (bp (cF _ _) ?_);rw[bm];omega
  refine gV (fun hq=>?_) (fun hq=>?_)
  ·refine⟨_,rfl,l _ _ f',co,kq hi ⟨?_,?_,aa⟩⟩
   ·rw[bC hr,if_pos (show cX ds r'=true from hq),ar];rfl
   ·intro b o q;rw[ai (ae q hf)];exact l _ _ (S _ _ q)
  ·refine kq hi ⟨?_,S.trans l,?_⟩
   ·rw[bC hr,if_neg (show ¬cX ds r'=true from hq),cP]
   ·exact l _ _ f'
 rintro B ec ⟨rfl,S7,f7⟩;rw[ak,bd]at f7;refine oS (ws:=rooms.filter (cX ds)) (ax.of f7) (bp (cF _ _) (by omega)) fun qu b3=>⟨_,rfl,x,C,G,_,rfl,kp (S7 _ _ u) b3,M.cls,M.a6,by omega,?_⟩;obtain⟨H7,e7,al,F7⟩:=xB "quiet" (.ref qu) (kp (x:=.dK (aL (rooms.filter (cX ds)))) (S7 _ _ u) b3);rw[<-e7];have n7:qu≠x:=(ae (S7 _ _ u) b3).symm;have dd:=F7 _ _ aa n7;have E7:cD x H6 H7:=((ac.exB S7).trans (cD.new b3)).trans F7;have L7:=L6.exI u E7;have d8:=gE ("quiet":Str) (.ref qu) (c8 ("leaving":Str) (.ref N) s);clear e7 F7;refine⟨_,rfl,l4,ts,ds,rfl,L7.a4,L7.ds,by omega,fun sg cc ed G' S8=>⟨_,rfl,x,C,G,_,rfl,S8 _ _ al,M.cls,M.a7,by omega,?_⟩⟩;obtain⟨H8,e8,v,F8⟩:=xB "sign_goals" (.ref sg) (S8 _ _ al);rw[<-e8];have E8:cD x H7 H8:=(ac.exB S8).trans F8;have L8:=L7.exI al E8;have G8:iY H8 sg cc ds:=⟨G'.nd,F8 _ _ G'.g (Fv (S8 _ _ al) G'.g),fun y hy=>F8 _ _ (G'.ls y hy) (cD.neI (S8 _ _ al) (G'.ls y hy)),G'.all⟩;have ea:=gE ("sign_goals":Str) (.ref sg) (c8 ("quiet":Str) (.ref qu) (c8 ("leaving":Str) (.ref N) s));have di:lk "sign_goals" (c8 ("sign_goals":Str) (.ref sg) (c8 ("quiet":Str) (.ref qu) (c8 ("leaving":Str) (.ref N) s)))=some (.ref sg):=by
  show j4 _ _=_;rw[fu,if_pos rfl]
 clear e8 F8 G';refine⟨_,rfl,l3,rfl,⟨_,ax.of L8.a3⟩,fun b4 cq=>?_⟩
 let dm:Nat->List V->Hp->Prop:=fun i B U=>DW fun(A:Ze) (pl:List (Str×Addr))=>Gq (B=A.map V.ref) (Paired (fun t (p:Str×Addr)=>U t=some (.tup [.str p.1,.ref p.2])) A pl) (pl.map (·.1)=rooms.take i) ((∀p∈pl,∃L,U p.2=some (.dK (aL L))/\L.Nodup/\∀w,w∈L↔Reach ds p.1 w)) (ac H8 U) (U b4=some (.lst B))
 refine bP (xs:=rooms.map V.str) dm
  ⟨[],[],rfl,.nil,rfl,by simp,ac.new cq,aa⟩ (fun i B U _ zq=>by obtain⟨_,_,_,_,_,_,S,h'⟩:=zq;exact⟨h',ax.of (S _ _ L8.a3)⟩) ?_ ?_
 rotate_left
 ·rintro i B U x' b9 hi ⟨A,pl,rfl,an,cs,dn,S,f'⟩;obtain⟨r,hr,rfl⟩:=bq b9;have dp:A.length<=150:=by
   rw[Paired.length an,<-ak (f:=(·.1)) (as:=pl),cs,bm];omega
  refine gN (u_ ?_);refine⟨_,rfl,_,rfl,x,C,G,_,.ref sg,rfl,S _ _ v,M.cls,M.a7,di,_,rfl,sg,r,cc,ds,rooms,rfl,G8.same S,fun d hd=>(m.good d hd).b,by omega,fun ld Lr b2 dr nd dt ef l=>⟨(by show 2<=aj;decide),fun t ht=>⟨?_,?_,kq hi ⟨A++[t],pl++[(r,ld)],?_,?_,?_,?_,?_,aa⟩⟩⟩⟩
  ·exact kp (l _ _ f') ht
  ·rw[ak];exact ay (by omega)
  ·rw[ar];rfl
  ·have KT:iI (upd b2 t (.tup [.str r,.ref ld])) (upd (upd b2 t (.tup [.str r,.ref ld])) b4 (.lst (A.map V.ref++[.ref t]))):=cv (kp (l _ _ f') ht);exact Paired.app (Paired.mapP an fun t' p' e=>KT _ _ (kp (l _ _ e) ht)) (.cons (KT _ _ aa) .nil)
  ·rw[ar,cs,take_snoc hr];rfl
  ·have ct:∀{b:Addr}{dy:List (ca×V)},upd b2 t (.tup [.str r,.ref ld]) b=some (.dK dy)->b≠b4:=fun hb z=>by rw[z,kp (l _ _ f') ht]at hb;cases hb
   intro p hp;rcases bg.mp hp with hp|hp
   ·obtain⟨L0,I,g2⟩:=dn p hp;refine⟨L0,?_,g2⟩;have:=kp (x:=.tup [.str r,.ref ld]) (l _ _ I) ht;rw[ai (ct this)];exact this
   ·have:p=(r,ld):=by simpa using hp
    subst this;refine⟨Lr,?_,nd,dt⟩;have:=kp (x:=.tup [.str r,.ref ld]) dr ht;rw[ai (ct this)];exact this
  ·intro b o q;rw[ai (ae q cq)];exact kp (l _ _ (S _ _ q)) ht
 rintro B eg ⟨A,sps,rfl,an,D,cx,S9,f9⟩;rw[ak,bd]at D;have dT:(sps.map (·.1)).Nodup:=by rw[D];exact m.okR.1
 refine⟨b4,A,dE Sum.inr sps,rfl,ax.of f9,?_,?_,fun sl J=>⟨_,rfl,x,C,G,_,rfl,kp (S9 _ _ v) J,M.cls,M.a8,by omega,?_⟩⟩
 ·rw[Paired.length an];unfold dE;rw[ak]
 ·intro j t kv hj cd;obtain⟨p,hp,e⟩:=Paired.getL an hj;unfold dE at cd;rw[eG,hp]at cd;have:=eR cd;rw[<-this];exact e
 have b5:eM [] (dE Sum.inr sps)=dE Sum.inr sps:=rS sps [] dT;rw[b5];obtain⟨H9,e9,ce,F9⟩:=xB "still_led" (.ref sl) (kp (x:=.dK (dE Sum.inr sps)) (S9 _ _ v) J);rw[<-e9];have n9:sl≠x:=(ae (S9 _ _ v) J).symm;have cL:=F9 _ _ aa n9;have E9:cD x H8 H9:=((ac.exB S9).trans (cD.new J)).trans F9;have L9:=L8.exI v E9;have ap:∀p∈sps,∃L,H9 p.2=some (.dK (aL L))/\L.Nodup/\∀w,w∈L↔Reach ds p.1 w:=fun p hp=>by
  obtain⟨L0,I,g2⟩:=cx p hp;have g3:=kp (x:=.dK (dE Sum.inr sps)) I J;exact⟨L0,F9 _ _ g3 (Dc (kp (S9 _ _ v) J) g3),g2⟩
 clear e9 F9;have c0:lk "still_led" (c8 ("still_led":Str) (.ref sl) (c8 ("sign_goals":Str) (.ref sg) (c8 ("quiet":Str) (.ref qu) (c8 ("leaving":Str) (.ref N) s))))=some (.ref sl):=by
  show j4 _ _=_;rw[fu,if_pos rfl]
 refine⟨_,rfl,_,rfl,x,C,G,_,.ref sl,rfl,ce,M.cls,M.a8,c0,l3,sl,rooms,sps,rfl,L9.a3,cL,D,m.okR.1,fun p hp=>?_,fun c1 aq=>⟨_,rfl,k c1 ?_ ?_⟩⟩
 ·obtain⟨L0,I,g2,g3⟩:=ap p hp;exact⟨L0,I,fun z=>m.noround _ ((g3 _).mp z)⟩
 ·have ch:cD x H6 H9:=(E7.trans E8).trans E9;have dV:=((E6.trans E7).trans E8).trans E9;have Y:∀{b:Addr}{o:HO},H9 b=some o->c1 b=some o:=fun h=>aq _ _ h;have LL:Lists H5 o1 o2 o3 o4 ts J0 J1 rooms ds:=⟨(E3.trans (E4.trans E5)) _ _ f1 n1,(E4.trans E5) _ _ f2 n2,E5 _ _ f3 n3,f4,L5.ds⟩;refine⟨⟨G,_,o1,o2,o3,o4,N,qu,sg,sl,ts,b1,cc,sps,Y ce,?_,?_,?_,?_,?_,?_,?_,?_,?_,?_,?_,c0,(LL.exI n dV).same aq,O,?_,?_,?_,?_,D,Y cL,fun p hp=>?_⟩,m,⟨G,_,Y ce,?_,?_,?_,?_⟩⟩
  rotate_right 9
  ·exact Y (ch _ _ b8 (Dc u b8))
  ·intro y hy;obtain⟨d0,I,g2⟩:=cl y hy;exact⟨d0,Y (ch _ _ I (cD.neI u I)),(g2.kt (ch.ktI u)).kt (ac.kt aq)⟩
  ·exact Y ((E8.trans E9) _ _ dd n7)
  ·exact iY.same ⟨G8.nd,E9 _ _ G8.g (Fv v G8.g),fun y hy=>E9 _ _ (G8.ls y hy) (cD.neI v (G8.ls y hy)),G8.all⟩ aq
  ·obtain⟨L0,I,g2⟩:=ap p hp;exact⟨L0,Y I,g2⟩
  all_goals(show j4 _ _=_;subst b6;repeat (rw[fu];first|rw[if_pos rfl] | rw[if_neg (by decide +kernel)]))
  all_goals rfl
 ·exact((((((((E1.trans E2).trans E3).trans E4).trans E5).trans E6).trans E7).trans E8).trans E9).trans (ac.exB aq)
theorem ET(a b:Str):decide (dX a=dX b)=decide (a=b):=by
 by_cases e:a=b
 ·rw[zzr1 e,zzr1 (by rw[e])]
 ·rw[zzr0 e,zzr0 (fun z=>e (nv z))]
theorem bB.by{C:Addr}{H e:Hp}{x:Addr}{s t rooms:Zb}{u:List ag}(h:bB C H x s t rooms u)
  (j:∀b v,H b=some (.lst (List.map V.str v))->e b=some (.lst (List.map V.str v))) (w:∀b k,H b=some (.lst (List.map V.ref k))->e b=some (.lst (List.map V.ref k))) (z:iI H e)
  (l:∀b a,H b=some (.dK a)->e b=some (.dK a)) (A:∀b a,H b=some (.dT a)->e b=some (.dT a)) (hi:∀b C f fs,H b=some (.ins C f fs)->e b=some (.ins C f fs)):bB C e x s t rooms u:=by
 obtain⟨f,fs,B,D,E,I,J,M,N,O,k,m,n,o,Q,a1,a2,a3,T,U,Y,b3,b4,b5,b6,b7,b8,L,c1,c2,c3,c4,G,d1,d2,d3⟩:=h.at_;refine⟨⟨f,fs,B,D,E,I,J,M,N,O,k,m,n,o,hi _ _ _ _ Q,a1,a2,a3,T,U,Y,b3,b4,b5,b6,b7,b8,⟨j _ _ L.a1,j _ _ L.a2,j _ _ L.a3,w _ _ L.a4,L.ds.kt z⟩,c1,l _ _ c2,fun y i=>?_,l _ _ c4,⟨G.nd,A _ _ G.g,fun y i=>j _ _ (G.ls y i),G.all⟩,d1,l _ _ d2,fun y i=>?_⟩,h.ok,by obtain⟨f,fs,g,r⟩:=h.more;exact⟨f,fs,hi _ _ _ _ g,r⟩⟩
 ·obtain⟨us,p,q⟩:=c3 y i;exact⟨us,w _ _ p,q.kt z⟩
 ·obtain⟨L0,p,q⟩:=d3 y i;exact⟨L0,l _ _ p,q⟩
theorem bB.same{C:Addr}{H a:Hp}{x:Addr}{f g rooms:Zb}{i:List ag}(h:bB C H x f g rooms i)(S:ac H a):bB C a x f g rooms i :=
 h.by (fun _ _ e=>S _ _ e) (fun _ _ e=>S _ _ e) (ac.kt S) (fun _ _ e=>S _ _ e) (fun _ _ e=>S _ _ e) (fun _ _ _ _ e=>S _ _ e)
theorem bB.ex{C:Addr}{H f:Hp}{x p c:Addr}{g i rooms:Zb}{j:List ag}(h:bB C H x g i rooms j)(a:fV H p c)(S:cD p H f):bB C f x g i rooms j:=by
 obtain⟨k,hx⟩:=a.lst;exact h.by (fun _ _ e=>S _ _ e (a.ne_strs e)) (fun _ _ e=>S _ _ e (a.ne_refs e)) (S.kt hx) (fun _ _ e=>S _ _ e (fun z=>by rw[z,hx]at e;cases e)) (fun _ _ e=>S _ _ e (fun z=>by rw[z,hx]at e;cases e)) (fun _ _ _ _ e=>S _ _ e (fun z=>by rw[z,hx]at e;cases e))
inductive gC(C:Addr)(vs:List V)(H:Hp)(Q:VK)(E:XK):Prop
 |mk (x:Addr) (w:Str) (J0 J1 rooms:Zb) (ds:List ag):(vs=[.ref x,.str w])->(bB C H x J0 J1 rooms ds)->(Q (.bl (decide (w∈rooms.filter (cX ds)))) H)->gC C vs H Q E
theorem w6{K:Za}{C:Addr}(M:MC K C){a:List V}{H:Hp}{Q:VK}{E:XK}(h:gC C a H Q E):md K (bQ Q) (start mI a) H:=by
 obtain⟨x,w,o,p,rooms,q,rfl,h,k⟩:=h;obtain⟨f,fs,r,s,t,u,v,e,y,z,A,g,i,j,l,a1,a2,a3,B,D,G,I,J,N,m,O,T,L,U,Y,c3,n,_⟩:=h.at_;refine⟨_,rfl,_,rfl,x,C,f,fs,.ref e,rfl,l,M.cls,M.a6,m,e,_,rfl,.inl ⟨_,.inr w,.inl n,rfl,rfl⟩,?_⟩;rw[dL];exact k
def aF:List Str:=[("hush":Str)]
inductive jD(C:Addr)(vs:List V)(H:Hp)(Q:VK)(E:XK):Prop
 |mk (t l1 l2 l3 l4:Addr) (ts:Ze) (J0 J1 rooms:Zb) (ds:List ag):(vs=[.ref t])->(kE H t l1 l2 l3 l4 ts J0 J1 rooms ds)->(aW J0 J1 rooms ds)->(∀(x:Addr) (H':Hp),bB C H' x J0 J1 rooms ds->ac H H'->Q (.ref x) H')->jD C vs H Q E
theorem yH{K:Za}{C:Addr}{B:List V}{H:Hp}{Q:VK}{E:XK}(h:jD C B H Q E):sV K C (nn C) (bQ Q) (start tO B) H:=by
 obtain⟨t,J,L,N,O,f,g,i,rooms,U,rfl,T,m,k⟩:=h;refine⟨_,rfl,.inr (.inl ⟨t,_,0,_,rfl,rfl,bc.of T.t,rfl,.inl ⟨J,_,rfl,.inl (ax.of T.a1),fun r D=>?_⟩⟩)⟩;have s:=T.same (ac.new (o:=.lst (g.map V.str)) D);refine⟨_,rfl,.inr (.inl ⟨t,_,1,_,rfl,rfl,bc.of s.t,rfl,.inl ⟨L,_,rfl,.inl (ax.of s.a2),fun u v=>?_⟩⟩)⟩;have w:=s.same (ac.new (o:=.lst (i.map V.str)) v);refine⟨_,rfl,.inr (.inl ⟨t,_,2,_,rfl,rfl,bc.of w.t,rfl,.inl ⟨N,_,rfl,.inl (ax.of w.a3),fun y n=>?_⟩⟩)⟩;have z:=w.same (ac.new (o:=.lst (rooms.map V.str)) n);refine⟨_,rfl,.inr (.inl ⟨t,_,3,_,rfl,rfl,bc.of z.t,rfl,.inl ⟨O,_,rfl,.inl (ax.of z.a4),fun A j=>?_⟩⟩)⟩;have T4:=z.same (ac.new (o:=.lst (f.map V.ref)) j);have G:=(((ac.new (o:=.lst (g.map V.str)) D).trans (ac.new (o:=.lst (i.map V.str)) v)).trans (ac.new (o:=.lst (rooms.map V.str)) n)).trans (ac.new (o:=.lst (f.map V.ref)) j);refine fun x p hx a l=>?_;have I:ac H (upd (upd (upd (upd (upd (upd H r (.lst (g.map V.str))) u (.lst (i.map V.str))) y (.lst (rooms.map V.str))) A (.lst (f.map V.ref))) p (.own x)) x (.ins C p [])) :=
  (G.trans (ac.new a)).trans (ac.new (by rw[ai l.symm];exact hx))
 have e:upd (upd (upd (upd (upd H r (.lst (g.map V.str))) u (.lst (i.map V.str))) y (.lst (rooms.map V.str))) A (.lst (f.map V.ref))) p (.own x) x=none:=by rw[ai l.symm];exact hx
 refine⟨x,p,r,u,y,A,f,g,i,rooms,U,rfl,aa,⟨?_,?_,?_,?_,T.ds.kt (ac.kt I)⟩,m,fun Y M ex=>⟨rfl,k x Y M fun b o q=>?_⟩⟩
 ·exact kp (kp (kp (kp (kp aa v) n) j) a) e
 ·exact kp (kp (kp (kp aa n) j) a) e
 ·exact kp (kp (kp aa j) a) e
 ·exact kp (kp aa a) e
 ·have hq:=I _ _ q;exact ex _ _ hq (ae (G.trans (ac.new a) _ _ q) e)
def dj(ds:List ag):List Str:=(ds.filter fun d=>!ei d).map (·.a)
theorem jG(e:List ag)(r:Str):cX e r=decide (r∉dj e):=by
 unfold cX dj cg;rw[tV,qF,decide_eq_true_iff];constructor
 ·intro h z;obtain⟨d,a,rfl⟩:=aK.mp z;rw[bA]at a;have:=h d (bA.mpr ⟨a.1,zzr1 rfl⟩);rw[this]at a;exact absurd a.2 (by decide)
 ·intro h d a;rw[bA]at a;cases q:ei d with
  |true=>rfl
  |false =>
   refine absurd (aK.mpr ⟨d,bA.mpr ⟨a.1,by rw[q];rfl⟩,?_⟩) h;exact of_decide_eq_true a.2
theorem jL{w:Str}{a:Zb}:dX w∈a.map dX↔w∈a:=by
 constructor
 ·intro h;obtain⟨x,hx,e⟩:=aK.mp h;rw[<-nv e];exact hx
 ·exact i4
def va(K:Za)(C_Machine:Addr)(sp_Machine_rooms:Sp)(sp_Machine_led_from:Sp):TS :=
 ao (aG (mm) U2)
 (ao (d7 (bS K V1) U3 (cp (tB (kL K V3 V2)) (ao (jm V2 V3 (tC (.bl true)))
 (d7 (bS K (fk C_Machine "led_from" sp_Machine_led_from [] E0 V0 (aE V3))) U4 (jm V2 V4 (tC (.bl true))))) (bt)))
 (bo (dW (Al K) (aE (cZ 1 [2] (bS K (fk C_Machine "rooms" sp_Machine_rooms [] E0 V0 bR)) U0 (tB (yy K V0 V1)) V0)))))
def wa:List Str:=["M","rooms","found","room","led"]
def pG(K:Za):TS :=
 bo (dW (cW K) (aE (qW K V0 "own_rooms")))
def pT:List Str:=["self"]
def ma(K:Za):TS :=
 bo (dW (cW K) (aE (vo K (qW K V0 "still_led") V1 (b_ (bR)))))
def mH:List Str:=["self","room"]
def pH(K:Za):TS :=
 bo (dW (cW K) (aE (vo K (qW K V0 "sign_goals") (b_ (aY V1 V2)) (b_ (bR)))))
def pU:List Str:=["self","room","sign"]
def qS(K:Za):TS :=
 ao (aG (dW (cW K) (aE V1)) U2)
 (ao (aG (tC (.int 0)) U3)
 (ao (ow (aP (aB Es V3 (dW (gf K) (aE V2)))) (ao (d7 (bS K V0) (jZ K 3 (bO U4 (bO U5 (bO U6 (jO))))) (cp (jY (aP (aB (oG K) V4 (aB (mP K) V2 V3))) (jY (aP (aB (oG K) V5 (b_ (aE (tC (.str "still")))))) (aP (aB (i6 K true) V6 V2)))) (cr (ua K "list" cR V2 (aE V6))) (bt)))
 (aG (aB fq V3 (tC (.int 1))) U3)))
 (bo V2)))
def sI:List Str:=["doors","rooms","found","at","room","sign","other"]
inductive io(C:Addr)(vs:List V)(H:Hp)(Q:VK)(E:XK):Prop
 |mk (x:Addr) (J0 J1 rooms:Zb) (ds:List ag):(vs=[.ref x])->(bB C H x J0 J1 rooms ds)->(∀l,H l=none->Q (.ref l) (upd H l (.lst (rooms.map V.str))))->io C vs H Q E
theorem CK{K:Za}{C:Addr}(M:MC K C){a:List V}{H:Hp}{Q:VK}{E:XK}(h:io C a H Q E):pG K (bQ Q) (start pT a) H:=by
 obtain⟨x,n,o,rooms,p,rfl,h,k⟩:=h;obtain⟨f,fs,q,r,e,s,t,u,v,w,y,g,i,j,l,a1,a2,a3,z,A,B,m,D,G,I,J,N,L,_⟩:=h.at_;exact⟨_,rfl,x,C,f,fs,.ref e,rfl,l,M.cls,M.a3,m,.inl ⟨e,_,rfl,.inl (ax.of L.a3),k⟩⟩
theorem xp:∀{L:Zb},L.Nodup->(aL L).map (fun a=>kV a.1)=L.map V.str:=by
 intro L;refine cn (fun L=>L.Nodup->(aL L).map (fun a=>kV a.1)=L.map V.str) (fun _=>rfl) (fun f w g e=>?_) L;rw[cG]at e;have h:cz (aL f) (.inr w)=none:=by
  rw[mw,if_neg (fun z=>e.2.2 w z w (by simp) rfl)]
 show(aL (f++[w])).map _=_;rw[cy,kj _ h,ar,g e.1,ar]
 rfl
inductive iR(C:Addr)(vs:List V)(H:Hp)(Q:VK)(E:XK):Prop
 |mk (x:Addr) (r:Str) (J0 J1 rooms:Zb) (ds:List ag):(vs=[.ref x,.str r])->(bB C H x J0 J1 rooms ds)->(r∈rooms)->(∀(l:Addr) (L:Zb) (H':Hp),H' l=some (.lst (L.map V.str))->L.Nodup->(∀w,w∈L↔Reach ds r w)->H l=none->ac H H'->Q (.ref l) H')->iR C vs H Q E
theorem wY{K:Za}{C:Addr}(M:MC K C){j:List V}{H:Hp}{Q:VK}{E:XK}(h:iR C j H Q E):ma K (bQ Q) (start mH j) H:=by
 obtain⟨x,r,N,O,rooms,T,rfl,h,t,k⟩:=h;obtain⟨u,fs,U,Y,o3,o4,lv,qu,sg,m,ts,v,w,g,y,a1,a2,a3,a4,b1,b2,b3,b4,b5,b6,b7,z,L,c1,c2,c3,c4,G,n,o,A⟩:=h.at_;have i:=h.ok.okR.1;obtain⟨⟨p,a⟩,f,B⟩:=aK.mp (show r∈g.map (·.1) by rw[n];exact t);obtain rfl:p=r:=B;obtain⟨D,I,q,J⟩:=A _ f;refine⟨_,rfl,x,C,u,fs,.ref m,rfl,y,M.cls,M.a8,z,m,rfl,.inl ⟨_,.inl o⟩,_,rfl,(by show 0<=aj;decide),fun et e=>⟨_,.inl ⟨_,.inr p,.inl (kp o e),rfl,rfl⟩,?_⟩⟩;rw[eE iV (by rw[n];exact i) f];refine .inr ⟨a,_,rfl,.inl (kp I e),fun l s=>k l D _ ?_ q J ((ac.new e).free s) ((ac.new e).trans (ac.new s))⟩;rw[aa,xp q]
theorem Reach.trans{ds:List ag}{a b c:Str}(e:Reach ds a b)(f:Reach ds b c):Reach ds a c:=by
 induction f with
 |one h=>exact .step e h
 |step r h g=>exact .step g h
def fT(ds:List ag)(gs:Zb)(w:Str):Prop:=∃g∈gs,w=g∨Reach ds g w
theorem fT.in_{a:List ag}{e rooms:Zb}{w:Str}(f:∀g∈e,g∈rooms)(i:∀d∈a,d.b∈rooms)(h:fT a e w):w∈rooms:=by
 obtain⟨g,j,rfl|h2⟩:=h
 ·exact f _ j
 ·exact h2.in_ i
def pR(F:Zb)(w:Str):List Str:=if w∈F then F else F++[w]
theorem xo(F:Zb):∀e∈aL F,e.2=.bl true:=by
 refine cn (fun F=>∀e∈aL F,e.2=.bl true) (by intro e h;cases h) (fun g w f=>?_) F;intro e a;rw[cy]at a;unfold c7 at a;split at a
 ·obtain⟨x,hx,rfl⟩:=aK.mp a;split
  ·rfl
  ·exact f x hx
 ·rcases bg.mp a with h|h
  ·exact f e h
  ·have:e=(.inr w,.bl true):=by simpa using h
   rw[this]
theorem rX(F:Zb)(w:Str):c7 (aL F) (.inr w) (.bl true)=aL (pR F w):=by
 unfold pR;by_cases c:w∈F
 ·rw[if_pos c];have f:((aL F).any fun a=>decide (a.1=(.inr w:ca)))=true:=by
   rw[ji,dL,zzr1 c]
  unfold c7;rw[if_pos f];have:∀l:List (ca×V),(∀a∈l,a.2=.bl true)->l.map (fun a=>if a.1=(.inr w:ca)then(a.1,V.bl true)else a)=l:=by
   intro l
   induction l with
   |nil=>intro _;rfl
   |cons x l g =>
    intro h;rw[bx,g fun a e=>h a (eQ _ e)];congr 1;split
    ·rw[<-h x dP]
    ·rfl
  exact this _ (xo F)
 ·rw[if_neg c,cy]
theorem sE{F:Zb}(h:F.Nodup)(w:Str):(pR F w).Nodup:=by
 unfold pR;split
 ·exact h
 ·next c =>
  rw[cG];refine⟨h,by simp,fun a f b g e=>?_⟩;have:b=w:=by simpa using g
  exact c (by rw[<-this,<-e];exact f)
theorem xn{F:Zb}{w y:Str}:y∈pR F w↔y∈F∨y=w:=by
 unfold pR;split
 ·next c=>exact⟨.inl,fun h=>h.elim id fun e=>by rw[e];exact c⟩
 ·rw[bg];simp
inductive sp_with_still(C:Addr)(vs:List V)(H:Hp)(Q:VK)(E:XK):Prop
 |mk (x l:Addr) (gs J0 J1 rooms:Zb) (ds:List ag):(vs=[.ref x,.ref l])->(bB C H x J0 J1 rooms ds)->(H l=some (.lst (gs.map V.str)))->((∀g∈gs,g∈rooms))->(∀(t:Addr) (F:Zb) (H':Hp),H' t=some (.tup ((rooms.filter fun r=>decide (r∈F)).map V.str))->(∀w,w∈F↔fT ds gs w)->ac H H'->Q (.ref t) H')->sp_with_still C vs H Q E
theorem tu{K:Za}{C:Addr}{B:List V}{H:Hp}{Q:VK}{E:XK}(h:sp_with_still C B H Q E):va K C (io C) (iR C) (bQ Q) (start wa B) H:=by
 obtain⟨x,l,gs,J0,J1,rooms,D,rfl,M,hl,hg,k⟩:=h;have O:∀d∈D,d.b∈rooms:=fun d hd=>(M.ok.good d hd).b;have z3:=M.ok.rooms26;refine fun d hd=>?_;refine⟨_,rfl,l,rfl,⟨_,ax.of (kp hl hd)⟩,?_⟩
 let aS:Nat->L2.St->Hp->Prop:=fun i σ a=>He fun(F:Zb) (x3 x4:Option V)=>Gr (σ=[some (.ref x),some (.ref l),some (.ref d),x3,x4]) (a d=some (.dK (aL F))) (ac H a) (F.Nodup) (∀w,w∈F↔fT D (gs.take i) w)
 refine bG (xs:=gs.map V.str) aS
  ⟨[],_,_,rfl,aa,ac.new hd,jB,fun w=>⟨fun h=>(by cases h),fun⟨g,h,_⟩=>(by cases h)⟩⟩ (fun i σ a _ zq=>by obtain⟨_,_,_,_,_,S,_,_⟩:=zq;exact ax.of (S _ _ hl)) ?_ ?_
 ·rintro i y σ G hi ⟨F,x3,x4,rfl,p,S1,nd,T⟩;obtain⟨r,hr,rfl⟩:=bq hi;have ap:r∈rooms:=hg r (cV hr);have aq:∀w∈F,w∈rooms:=fun w hw=>((T w).mp hw).in_ (fun g hg'=>hg g (fy hg')) O;refine⟨_,rfl,_,rfl,d,_,rfl,.inl ⟨_,.inr r,.inl p,rfl,rfl⟩,_,rfl,?_⟩;rw[dL];have s:∀w,fT D (gs.take (i+1)) w↔(fT D (gs.take i) w∨w=r∨Reach D r w):=by
   intro w;rw[take_snoc hr];constructor
   ·rintro⟨g,hg',h⟩;rcases bg.mp hg' with hg'|hg'
    ·exact .inl ⟨g,hg',h⟩
    ·have:g=r:=by simpa using hg'
     subst this;exact .inr h
   ·rintro(⟨g,hg',h⟩|h)
    ·exact⟨g,cJ _ hg',h⟩
    ·exact⟨r,dC _ (by simp),h⟩
  by_cases c:r∈F
  ·rw[zzr1 c];refine aU ⟨F,_,_,rfl,p,S1,nd,fun w=>?_⟩;rw[s,T];refine⟨.inl,fun h=>h.elim id fun h=>?_⟩;obtain⟨g,hg',hgr⟩:=(T r).mp c;rcases h with h|h
   ·rw[h];exact⟨g,hg',hgr⟩
   ·refine⟨g,hg',.inr ?_⟩;rcases hgr with e|hgr
    ·rw[<-e];exact h
    ·exact hgr.trans h
  ·rw[zzr0 c];refine bN ?_;have m:∀{F:Zb},F.Nodup->(∀w∈F,w∈rooms)->(aL F).length<aj:=fun nd hs=>ay (bp (iw _) (bp (fD nd hs) (by omega)));refine⟨_,rfl,_,rfl,d,_,rfl,.inl ⟨_,.inr r,p,rfl,m nd aq,rfl⟩,?_⟩;rw[rX];have U:ac H (upd G d (.dK (aL (pR F r)))):=fun b o q=>by rw[ai (ae q hd)];exact S1 _ _ q
   have n:upd G d (.dK (aL (pR F r))) d=some (.dK (aL (pR F r))):=aa;generalize upd G d (.dK (aL (pR F r)))=H2 at U n ⊢;have M2:=M.same U;obtain⟨dx,fs,o1,o2,o3,o4,lv,qu,sg,sl,ts,a0,a5,a6,g1,a1,a2,a3,a4,_⟩:=M2.at_;refine⟨_,rfl,x,dx,fs,rfl,g1,a3,_,rfl,x,r,J0,J1,rooms,D,rfl,M2,ap,fun ll L H3 as bn hL Y S3=>⟨ll,rfl,⟨_,ax.of as⟩,?_⟩⟩;have a7:=S3 _ _ n;have b1:H ll=none:=U.free Y;have a8:ll≠d:=fun z=>by rw[z,n]at Y;cases Y
   let a9:Nat->L2.St->Hp->Prop:=fun j σ a=>DW fun(I:Zb) (x4:Option V)=>Gq (σ=[some (.ref x),some (.ref l),some (.ref d),some (.str r),x4]) (a d=some (.dK (aL I))) (a ll=some (.lst (L.map V.str))) (ac H a) (I.Nodup) (∀w,w∈I↔(fT D (gs.take i) w∨w=r∨w∈L.take j))
   refine bG (xs:=L.map V.str) a9
    ⟨pR F r,_,rfl,a7,as,U.trans S3,sE nd r,fun w=>?_⟩ (fun j σ a _ zq=>by obtain⟨_,_,_,_,h,_,_,_⟩:=zq;exact ax.of h) ?_ ?_
   ·rw[xn,T];simp
   ·rintro j y σ H4 hj ⟨I,bb,rfl,al,J,S4,A,u⟩;obtain⟨v,hv,rfl⟩:=bq hj;have an:∀w∈I,w∈rooms:=by
     intro w hw;rcases(u w).mp hw with h|h|h
     ·exact h.in_ (fun g hg'=>hg g (fy hg')) O
     ·rw[h];exact ap
     ·exact((hL w).mp (fy h)).in_ O
    refine⟨_,rfl,_,rfl,d,_,rfl,.inl ⟨_,.inr v,al,rfl,m A an,rfl⟩,pR I v,_,rfl,?_,?_,?_,sE A v,fun w=>?_⟩
    ·rw[aa,rX]
    ·rw[ai a8];exact J
    ·intro b o q;rw[ai (ae q hd)];exact S4 _ _ q
    ·rw[xn,u,take_snoc hv,bg];simp only[dY];constructor
     ·rintro((h|h|h)|h)
      ·exact .inl h
      ·exact .inr (.inl h)
      ·exact .inr (.inr (.inl h))
      ·exact .inr (.inr (.inr h))
     ·rintro(h|h|h|h)
      ·exact .inl (.inl h)
      ·exact .inl (.inr (.inl h))
      ·exact .inl (.inr (.inr h))
      ·exact .inr h
   ·rintro σ H4 ⟨I,bb,rfl,al,J,S4,A,u⟩;rw[ak,bd]at u;refine⟨I,_,_,rfl,al,S4,A,fun w=>?_⟩;rw[s,u,hL]
 ·rintro σ G ⟨F,x3,x4,rfl,p,S1,nd,T⟩;rw[ak,bd]at T;have M1:=M.same S1;obtain⟨dx,fs,o1,o2,o3,o4,lv,qu,sg,sl,ts,a0,a5,a6,g1,a1,a2,a3,a4,_⟩:=M1.at_;refine⟨_,rfl,x,dx,fs,rfl,g1,a4,x,J0,J1,rooms,D,rfl,M1,fun rl aC=>⟨rl,rfl,⟨_,ax.of aa⟩,fun f hf=>?_⟩⟩;have U:ac H (upd G rl (.lst (rooms.map V.str))):=S1.trans (ac.new aC);have n:upd G rl (.lst (rooms.map V.str)) d=some (.dK (aL F)):=kp p aC;have N:upd G rl (.lst (rooms.map V.str)) rl=some (.lst (rooms.map V.str)):=aa;generalize upd G rl (.lst (rooms.map V.str))=H2 at U n N hf ⊢
  let bi:Nat->List V->Hp->Prop:=fun i B a=>B=((rooms.take i).filter fun r=>decide (r∈F)).map V.str/\ac H2 a/\a f=some (.lst B)
  refine bP (xs:=rooms.map V.str) bi ⟨rfl,ac.new hf,aa⟩ (fun i B a _ zq=>by obtain⟨_,S,h'⟩:=zq;exact⟨h',ax.of (S _ _ N)⟩) ?_ ?_
  ·rintro B a ⟨rfl,S,f'⟩;rw[ak,bd]at f';exact⟨f,_,rfl,.inl ⟨ax.of f',fun t ht=>k t F _ aa T (U.trans (S.trans (ac.new ht)))⟩⟩
  ·rintro i B a x' bl hi ⟨rfl,S,f'⟩;obtain⟨r,hr,rfl⟩:=bq bl;refine gN ?_;refine⟨_,rfl,_,rfl,d,_,rfl,.inl ⟨_,.inr r,.inl (S _ _ n),rfl,rfl⟩,_,rfl,?_⟩;rw[dL];have m:(((rooms.take i).filter fun r=>decide (r∈F)).map V.str).length<aj:=by
    rw[ak];refine ay (bp (cF _ _) ?_);rw[bm];omega
   refine gV (fun hq=>?_) (fun hq=>?_)
   ·refine⟨_,rfl,f',m,kq hi ⟨?_,?_,aa⟩⟩
    ·rw[bC hr,if_pos hq,ar];rfl
    ·intro b o q;rw[ai (ae q hf)];exact S _ _ q
   ·refine kq hi ⟨?_,S,f'⟩;rw[bC hr,if_neg hq,cP]
inductive gB(K:Za)(vs:List V)(H:Hp)(Q:VK)(E:XK):Prop
 |mk (l4 l:Addr) (ts:Ze) (ds:List ag) (gs rooms:Zb):(vs=[.ref l4,.ref l])->(H l4=some (.lst (ts.map V.ref)))->(b0 H ts ds)->(H l=some (.lst (gs.map V.str)))->((∀d∈ds,d.b∈rooms))->(rooms.length<=1000)->(gs.length<=1000)->(∀(f:Addr) (F:Zb) (H':Hp),H' f=some (.lst (F.map V.str))->(∀w,w∈F↔fT ds gs w)->F.length<=2000->H f=none->ac H H'->Q (.ref f) H')->gB K vs H Q E
structure SO(H0 H:Hp)(ds:List ag)(gs:Zb)(f:Addr)(X:Zb):Prop where
 f:H f=some (.lst ((gs++X).map V.str))
 same:ac H0 H
 nd:X.Nodup
 new:∀y∈X,y∉gs
 sound:∀y∈X,fT ds gs y
theorem fT.step{ds:List ag}{f:Zb}{a b:Str}(h:fT ds f a)(e:(⟨a,stillSg,b⟩:ag)∈ds):fT ds f b:=by
 obtain⟨g,i,rfl|h⟩:=h
 ·exact⟨_,i,.inr (.one e)⟩
 ·exact⟨g,i,.inr (.step h e)⟩
theorem cU(a b:Zb):decide (fx a=fx b)=decide (a=b):=by
 by_cases e:a=b
 ·rw[zzr1 e,zzr1 (by rw[e])]
 ·rw[zzr0 e,zzr0 (fun z=>e (AG z))]
inductive SoI(l4 l f:Addr)(at_:Int)(H:Hp)(ds:List ag)(gs X:Zb)(here:Str)(j:Nat)(σ:L2.St)(H':Hp):Prop
 |mk (X' Y:Zb) (x y z:Option V):σ=[some (.ref l4),some (.ref l),some (.ref f),some (.int at_),x,y,z]->X'=X++Y->SO H H' ds gs f X'->(∀d∈ds.take j,d.a=here->d.sg=stillSg->d.b∈gs++X')->SoI l4 l f at_ H ds gs X here j σ H'
theorem wV{K:Za}{vs:List V}{H:Hp}{Q:VK}{E:XK}(h:gB K vs H Q E):qS K (bQ Q) (start sI vs) H:=by
 obtain⟨l4,l,ts,ds,p,rooms,rfl,h4,an,hl,a5,hz,b2,k⟩:=h;refine⟨_,rfl,.inl ⟨l,_,rfl,.inl (ax.of hl),fun f hf=>?_⟩⟩;have L:∀{X:Zb},X.Nodup->(∀y∈X,y∉p)->(∀y∈X,fT ds p y)->X.length<=rooms.length:=fun nd nw sd=>fD nd fun y hy=>by
  obtain⟨g,hg,e|h⟩:=sd y hy
  ·exact absurd (by rw[e];exact hg) (nw y hy)
  ·exact h.in_ a5
 refine⟨fun m σ H'=>∃(X:Zb) (at_:Nat) (x y z:Option V),σ=[some (.ref l4),some (.ref l),some (.ref f),some (.int at_),x,y,z]/\SO H H' ds p f X/\at_<=(p++X).length/\(∀i y,i<at_->(p++X)[i]?=some y->∀c,(⟨y,stillSg,c⟩:ag)∈ds->c∈p++X)/\m=p.length+rooms.length-at_,
  ⟨_,[],0,_,_,_,rfl,⟨by rw[cP];exact aa,ac.new hf,jB,by simp,by simp⟩,c9 _,fun i y h=>by omega,rfl⟩,?_⟩
 rintro m σ H1 ⟨X,at_,x4,x5,x6,rfl,D,b3,ap,rfl⟩;have b4:=L D.nd D.new D.sound;refine⟨_,rfl,_,rfl,.inl ⟨f,_,rfl,.inl (ax.of D.f),_,_,rfl,rfl,_,rfl,?_⟩⟩;refine gV (fun N=>?_) (fun N=>?_)
 ·have B:at_<(p++X).length:=by
   have:=of_decide_eq_true N;rw[ak]at this;omega
  have bl:at_<p.length+rooms.length:=by rw[aD]at B;omega
  generalize O:(p++X)[at_]=here;have I:(p++X)[at_]?=some here:=by rw[<-O];exact nY B
  have T:∀{Y:Zb}{y:Str},(∀y∈Y,fT ds p y)->y∈p++Y->fT ds p y:=fun sd hy=>by
   rcases bg.mp hy with hy|hy
   ·exact⟨_,hy,.inl rfl⟩
   ·exact sd _ hy
  refine⟨fun σ' H'=>∃(M:Zb) (x y z:Option V),σ'=[some (.ref l4),some (.ref l),some (.ref f),some (.int ((at_+1:Nat):Int)),x,y,z]/\SO H H' ds p f M/\at_+1<=(p++M).length/\(∀i y,i<at_+1->(p++M)[i]?=some y->∀c,(⟨y,stillSg,c⟩:ag)∈ds->c∈p++M),
   fun σ' H' ⟨M,x,y,z,e,D',h1,h2⟩=>⟨_,(by omega:p.length+rooms.length-(at_+1)<p.length+rooms.length-at_),M,at_+1,x,y,z,e,D',h1,h2,rfl⟩,?_⟩
  refine⟨_,rfl,l4,rfl,⟨_,ax.of (D.same _ _ h4)⟩,?_⟩;refine bG (xs:=ts.map V.ref) (SoI l4 l f at_ H ds p X here)
   ⟨X,[],_,_,_,rfl,by simp,D,by simp⟩ (fun j σ H' _ zq=>by obtain⟨_,_,_,_,_,_,_,D',_⟩:=zq;exact ax.of (D'.same _ _ h4)) ?_ ?_
  ·rintro j y σ H2 hj ⟨M,Y,a6,a7,a8,rfl,rfl,C,v⟩;obtain⟨t,ht,rfl⟩:=bE hj;obtain⟨u,aq,as⟩:=Paired.getL an ht;obtain⟨s,a9,bb⟩:=as.kt (ac.kt C.same);have aC:=cV aq;have bn:=L C.nd C.new C.sound;have U:(p++(X++Y))[at_]?=some here:=by
    rw[<-dw,qN B];exact I
   refine⟨t,_,rfl,bc.of a9,rfl,_,_,rfl,_,_,rfl,_,_,rfl,rfl,?_⟩;have A:∀(H3:Hp) (X3 Y3:Zb) (q4 q5 q6:Option V),X3=X++Y3->SO H H3 ds p f X3->(∀y∈X++Y,y∈X3)->(u.a=here->u.sg=stillSg->u.b∈p++X3) ->
     SoI l4 l f at_ H ds p X here (j+1) [some (.ref l4),some (.ref l),some (.ref f),some (.int at_),q4,q5,q6] H3:=by
    intro H3 X3 Y3 q4 q5 q6 e G aS a0;refine⟨X3,Y3,q4,q5,q6,rfl,e,G,fun d hd e1 e2=>?_⟩;rw[take_snoc aq]at hd;rcases bg.mp hd with hd|hd
    ·rcases bg.mp (v d hd e1 e2)with h|h
     ·exact cJ _ h
     ·exact dC _ (aS _ h)
    ·have:d=u:=by simpa using hd
     subst this;exact a0 e1 e2
   refine⟨_,rfl,_,rfl,_,rfl,.inl ⟨f,_,_,_,rfl,rfl,ax.of C.f,bZ (j:=at_) (by rw[eG,U];rfl),dX u.a,dX here,gJ _,gJ _,(by show 0<=8;decide),(by show 0<=8;decide),_,rfl,?_⟩⟩;rw[ET];by_cases c1:u.a=here;rotate_left
   ·rw[zzr0 c1];exact aU (aU (A H2 _ _ _ _ _ rfl C (fun _ h=>h) fun e=>absurd e c1))
   rw[zzr1 c1];refine bN ?_;refine⟨_,rfl,(by show 1<=aj;decide),fun st J=>⟨fx u.sg,fx stillSg,aA (bc.of (kp bb J)),aA (bc.of aa),by rw[aX];decide,by rw[aX];decide,_,rfl,?_⟩⟩;rw[cU];have G:SO H (upd H2 st (.tup [.str "still"])) ds p f (X++Y):=⟨kp C.f J,C.same.trans (ac.new J),C.nd,C.new,C.sound⟩;have b1:H st=none:=C.same.free J;generalize upd H2 st (.tup [.str "still"])=H3 at G ⊢;by_cases c2:u.sg=stillSg;rotate_left
   ·rw[zzr0 c2];exact aU (aU (A H3 _ _ _ _ _ rfl G (fun _ h=>h) fun _ e=>absurd e c2))
   rw[zzr1 c2];refine bN ?_;refine⟨_,rfl,_,rfl,dX u.b,(p++(X++Y)).map dX,f,_,gJ _,rfl,.inl (ax.of G.f),fH _,(by show 0<=8;decide),by rw[cT];decide,_,rfl,?_⟩;rw[if_pos rfl];by_cases c3:u.b∈p++(X++Y)
   ·rw[zzr1 (jL.mpr c3)];exact aU (A H3 _ _ _ _ _ rfl G (fun _ h=>h) fun _ _=>c3)
   rw[zzr0 (fun z=>c3 (jL.mp z))];refine bN ?_;refine⟨_,rfl,.inl ⟨rfl,_,ax.of G.f⟩,_,rfl,f,_,_,rfl,rfl,G.f,by rw[ak,aD];exact de (by omega),?_⟩;have al:(⟨here,stillSg,u.b⟩:ag)∈ds:=by
    have:u=⟨here,stillSg,u.b⟩:=by cases u;simp only at c1 c2;rw[c1,c2]
    rw[<-this];exact aC
   refine A _ (X++(Y++[u.b])) _ _ _ _ rfl ⟨?_,?_,?_,?_,?_⟩ ?_ ?_
   ·rw[aa];have:p++(X++(Y++[u.b]))=p++(X++Y)++[u.b]:=by simp
    rw[this,ar (l₂:=[u.b])]
    rfl
   ·intro b o q;rw[ai (ae q hf)];exact G.same _ _ q
   ·rw[<-dw,cG];refine⟨G.nd,by simp,fun a ha b hb e=>?_⟩;have:b=u.b:=by simpa using hb
    exact c3 (dC _ (by rw[<-this,<-e];exact ha))
   ·intro y hy;rw[<-dw]at hy;rcases bg.mp hy with hy|hy
    ·exact G.new y hy
    ·have:y=u.b:=by simpa using hy
     rw[this];exact fun z=>c3 (cJ _ z)
   ·intro y hy;rw[<-dw]at hy;rcases bg.mp hy with hy|hy
    ·exact G.sound y hy
    ·have:y=u.b:=by simpa using hy
     rw[this];exact(T D.sound (cV I)).step al
   ·intro y hy;rw[<-dw];exact cJ _ hy
   ·intro _ _;exact dC _ (by simp)
  ·rintro σ H2 ⟨M,Y,a6,a7,a8,rfl,rfl,C,v⟩;rw[ak,Paired.length an,bd]at v;refine⟨_,rfl,_,_,rfl,rfl,X++Y,_,_,_,rfl,C,?_,fun i y hi hy c hc=>?_⟩
   ·rw[<-dw,aD];omega
   ·by_cases e:i=at_
    ·subst e;rw[<-dw,qN B,I]at hy;have:=eR hy;subst this;exact v _ hc rfl rfl
    ·have bi:i<at_:=by omega
     rw[<-dw,qN (by omega)]at hy;have:=ap i y bi hy c hc;rw[<-dw];exact cJ _ this
 ·have a4:at_=(p++X).length:=by
   have:¬(at_<(p++X).length):=fun z=>N (zzr1 (by rw[ak];omega));omega
  refine⟨_,rfl,k f (p++X) H1 D.f (fun w=>⟨fun hw=>?_,fun hw=>?_⟩) (by rw[aD];omega) hf D.same⟩
  ·rcases bg.mp hw with hw|hw
   ·exact⟨_,hw,.inl rfl⟩
   ·exact D.sound _ hw
  ·have closed:∀y∈p++X,∀c,(⟨y,stillSg,c⟩:ag)∈ds->c∈p++X:=fun y hy c hc=>by
    obtain⟨n,hn⟩:=List.getElem?_of_mem hy;exact ap n y (by rw[a4];exact(cE.mp hn).1) hn c hc
   obtain⟨g,hg,rfl|h⟩:=hw
   ·exact cJ _ hg
   ·induction h with
    |one e=>exact closed _ (cJ _ hg) _ e
    |step r e ih=>exact closed _ ih _ e

def cH(ds:List ag)(sg:Zb)(face:Zb):List Str:=face.flatMap fun r=>aM ds (r,sg)
theorem tJ{a:List ag}{e face:Zb}{i:Nat}{r:Str}(h:face[i]?=some r):cH a e (face.take (i+1))=cH a e (face.take i)++aM a (r,e):=by
 unfold cH;rw[take_snoc h,List.flatMap_append];simp
theorem pC(a:List ag)(x:Str×List Str):(aM a x).length<=a.length:=by
 unfold aM;rw[ak];exact cF _ _
theorem nJ(a:List ag)(e:Zb):∀face:List Str,(cH a e face).length<=face.length * a.length
 |[]=>c9 _
 |r::face=>by
  show((aM a (r,e))++cH a e face).length<=(face.length+1) * a.length;rw[aD,Nat.succ_mul];have f:=pC a (r,e);have g:=nJ a e face;omega
theorem eD{e:List ag}{f face:Zb}{b:Str}:b∈cH e f face↔∃r∈face,(⟨r,f,b⟩:ag)∈e:=by
 unfold cH;rw[List.mem_flatMap];constructor
 ·rintro⟨r,a,h⟩;exact⟨r,a,bw.mp h⟩
 ·rintro⟨r,a,h⟩;exact⟨r,a,bw.mpr h⟩
inductive nq(C:Addr)(vs:List V)(H:Hp)(Q:VK)(E:XK):Prop
 |mk (x t s:Addr) (face sg J0 J1 rooms:Zb) (ds:List ag):(vs=[.ref x,.ref t,.ref s])->(bB C H x J0 J1 rooms ds)->(H t=some (.tup (face.map V.str)))->(H s=some (.tup (sg.map V.str)))->(sg≠aF)->(face.length<=1000)->(∀(t':Addr) (F:Zb) (H':Hp),H' t'=some (.tup ((rooms.filter fun r=>decide (r∈F)).map V.str))->(∀w,w∈F↔fT ds (cH ds sg face) w)->ac H H'->Q (.ref t') H')->nq C vs H Q E
theorem eF{a:List ag}{i:Nat}{d:ag}{p:ag->Bool}(h:a[i]?=some d):(a.take (i+1)).filter p=(a.take i).filter p++(if p d=true then[d]else[]):=by
 rw[take_snoc h,lS];congr 1;by_cases c:p d=true
 ·rw[if_pos c];simp[c]
 ·rw[if_neg c];simp[c]
def vd(K:Za)(sp_with_still:Sp)(C_Machine:Addr)(sp_Machine_rooms:Sp):TS :=
 bo (aQ sp_with_still (aY V0 (B_ (tG K) (fk C_Machine "rooms" sp_Machine_rooms [] E0 V0 bR) (gu) (iN (tC (.int 1))))))
def we:List Str:=["M"]
inductive dJ(C:Addr)(vs:List V)(H:Hp)(Q:VK)(E:XK):Prop
 |mk (x:Addr) (J0 J1 rooms:Zb) (ds:List ag):(vs=[.ref x])->(bB C H x J0 J1 rooms ds)->(∀(t':Addr) (F:Zb) (H':Hp),H' t'=some (.tup ((rooms.filter fun r=>decide (r∈F)).map V.str))->(∀w,w∈F↔fT ds (rooms.take 1) w)->ac H H'->Q (.ref t') H')->dJ C vs H Q E
theorem tz{K:Za}{C:Addr}{e:List V}{H:Hp}{Q:VK}{E:XK}(h:dJ C e H Q E):vd K (sp_with_still C) C (io C) (bQ Q) (start we e) H:=by
 obtain⟨x,f,i,rooms,j,rfl,M,k⟩:=h;obtain⟨n,fs,G,I,J,L,N,O,o,T,U,p,q,r,s,a1,a2,a3,t,_⟩:=M.at_;have u:iF (rooms.map V.str) none (some 1)=(rooms.take 1).map V.str:=qb rooms 1;refine⟨_,rfl,_,rfl,x,n,fs,rfl,s,t,x,f,i,rooms,j,rfl,M,fun m a=>⟨_,rfl,m,_,rfl,ax.of aa,fun l v=>?_⟩⟩;rw[u];have S:ac H (upd (upd H m (.lst (rooms.map V.str))) l (.lst ((rooms.take 1).map V.str))):=(ac.new a).trans (ac.new v);exact⟨x,l,rooms.take 1,f,i,rooms,j,rfl,M.same S,aa,fun g w=>fy w,fun y F z A B D=>k y F z A B (S.trans D)⟩
theorem vX(o:Str)(L:Zb):decide (dX o∈L.map dX)=decide (o∈L):=by
 by_cases c:o∈L
 ·rw[zzr1 (jL.mpr c),zzr1 c]
 ·rw[zzr0 (fun z=>c (jL.mp z)),zzr0 c]
theorem bc.same{K:Za}{H e:Hp}{a:Addr}{f:List V}(S:ac H e)(h:bc K H a f):bc K e a f:=by
 rcases h with(h|⟨o,h⟩)|h
 ·exact .inl (.inl (S _ _ h))
 ·exact .inl (.inr ⟨o,S _ _ h⟩)
 ·exact .inr h
theorem ax.same{K:Za}{H e:Hp}{a:Addr}{f:List V}(S:ac H e)(h:ax K H a f):ax K e a f:=by
 rcases h with(h|⟨o,h⟩)|h
 ·exact .inl (.inl (S _ _ h))
 ·exact .inl (.inr ⟨o,S _ _ h⟩)
 ·exact .inr h
mutual
theorem ib.same{K:Za}{H g:Hp}(S:ac H g):∀{d:DT}{v:V},ib K H d v->ib K g d v
 |.k a,v,h=>by unfold ib at h ⊢;exact h
 |.t l,v,h=>by
  unfold ib at h ⊢;obtain⟨b,f,e,q,r⟩:=h;exact⟨b,f,e,bc.same S q,DIns.same S r⟩
 |.s l,v,h=>by
  unfold ib at h ⊢;obtain⟨b,f,e,q,r⟩:=h;exact⟨b,f,e,ax.same S q,DIns.same S r⟩
theorem DIns.same{K:Za}{H g:Hp}(S:ac H g):∀{f:List DT}{a:List V},DIns K H f a->DIns K g f a
 |[],a,h=>by unfold DIns at h ⊢;exact h
 |d::f,a,h=>by
  unfold DIns at h ⊢;obtain⟨v,i,e,q,r⟩:=h;exact⟨v,i,e,ib.same S q,DIns.same S r⟩
end
theorem DIns.get{K:Za}{H:Hp}:∀{f:List DT}{a:List V}{i:Nat}{v:V},DIns K H f a->a[i]?=some v->∃d,f[i]?=some d/\ib K H d v
 |[],a,i,v,h,e=>by unfold DIns at h;subst h;simp at e
 |d::f,a,i,v,h,e=>by
  unfold DIns at h;obtain⟨l,m,rfl,q,r⟩:=h;cases i with
  |zero=>simp at e;subst e;exact⟨d,rfl,q⟩
  |succ i =>
   simp at e;obtain⟨g,j,k⟩:=DIns.get r e;exact⟨g,by simpa using j,k⟩
theorem DIns.len{K:Za}{H:Hp}:∀{e:List DT}{a:List V},DIns K H e a->a.length=e.length
 |[],a,h=>by unfold DIns at h;subst h;rfl
 |d::e,a,h=>by
  unfold DIns at h;obtain⟨f,g,rfl,q,r⟩:=h;rw[gA,gA,DIns.len r]
theorem sj{n:Nat}:∀{a:List DT}{i:Nat}{d:DT},DT.depths a<=n->a[i]?=some d->d.depth<=n
 |[],i,d,_,e=>by simp at e
 |x::a,i,d,h,e=>by
  have f:max (DT.depth x) (DT.depths a)<=n:=h;cases i with
  |zero=>simp at e;subst e;omega
  |succ i=>simp at e;exact sj (by omega) e
theorem ER{l:List DT}{n:Nat}(h:(DT.t l).depth<=n+1):DT.depths l<=n:=by
 have:DT.depths l+1<=n+1:=h;omega
theorem ES{l:List DT}{n:Nat}(h:(DT.s l).depth<=n+1):DT.depths l<=n:=by
 have:DT.depths l+1<=n+1:=h;omega
theorem Dt{l:List DT}{n:Nat}(h:(DT.t l).depth<=n):1<=n:=by
 have:DT.depths l+1<=n:=h;omega
theorem Du{l:List DT}{n:Nat}(h:(DT.s l).depth<=n):1<=n:=by
 have:DT.depths l+1<=n:=h;omega
inductive Kd(K:Za)(H:Hp):DT->V->Prop
 |int (i:Int):Kd K H (.k (.inl i)) (.int i)
 |str (x:Str):Kd K H (.k (.inr x)) (.str x)
 |tup {a:Addr}{xs:List V}{l:List DT}(q:bc K H a xs) (r:DIns K H l xs):Kd K H (.t l) (.ref a)
 |lst {a:Addr}{xs:List V}{l:List DT}(q:ax K H a xs) (r:DIns K H l xs):Kd K H (.s l) (.ref a)
theorem ib.kd{K:Za}{H:Hp}:∀{d:DT}{v:V},ib K H d v->Kd K H d v
 |.k (.inl i),v,h=>by unfold ib at h;subst h;exact .int i
 |.k (.inr x),v,h=>by unfold ib at h;subst h;exact .str x
 |.t l,v,h=>by
  unfold ib at h;obtain⟨b,a,rfl,q,r⟩:=h;exact .tup q r
 |.s l,v,h=>by
  unfold ib at h;obtain⟨b,a,rfl,q,r⟩:=h;exact .lst q r
def Cv(K:Za)(sp_law_still_on:Sp):TS :=
 ao (aG (aQ sp_law_still_on (aY (aB (mP K) V0 (tC (.int 3))) V1)) U2)
 (bo (dW (Al K) (aJ (cZ 1 [2] (bS K (aB (mP K) V0 (tC (.int 2)))) U0 (aP (aB (i6 K false) V0 V1)) V0) bR)))
def DK:List Str:=["told","some","there"]
def A_(K:Za)(sp_face_behind:Sp)(dJ:Sp):TS :=
 ao (aG (aQ dJ (aE V0)) U2)
 (ao (d7 (bS K V1) U3 (aG (aQ sp_face_behind (dZ V0 V2 V3)) U2))
 (bo V2))
def B8:List Str:=["M","story","face","sign"]
def yj(K:Za)(sp_face_of:Sp):TS :=
 bo (aB Bv (dW (gf K) (aE (aQ sp_face_of (aY V0 V1)))) (tC (.int 0)))
def zS:List Str:=["M","story"]
open Classical in
def closF(rooms:Zb)(ds:List ag)(gs:Zb):List Str:=rooms.filter fun r=>decide (fT ds gs r)
open Classical in
theorem sw{rooms F a:Zb}{e:List ag}(f:∀w,w∈F↔fT e a w):rooms.filter (fun r=>decide (r∈F))=closF rooms e a:=by
 unfold closF;refine List.filter_congr fun r _=>?_;by_cases c:r∈F
 ·rw[zzr1 c,zzr1 ((f r).mp c)]
 ·rw[zzr0 c,zzr0 fun z=>c ((f r).mpr z)]
open Classical in
theorem xH{rooms i a:Zb}{f:List ag}(h:∀g,g∈i↔g∈a):closF rooms f i=closF rooms f a:=by
 have:∀r,fT f i r↔fT f a r:=fun r=>⟨fun⟨g,j,e⟩=>⟨g,(h g).mp j,e⟩,fun⟨g,j,e⟩=>⟨g,(h g).mpr j,e⟩⟩;unfold closF;refine List.filter_congr fun r _=>?_;by_cases c:fT f i r
 ·rw[zzr1 c,zzr1 ((this r).mp c)]
 ·rw[zzr0 c,zzr0 fun z=>c ((this r).mpr z)]
theorem uz{rooms a:Zb}{e:List ag}:∀r∈closF rooms e a,r∈rooms:=fun r h=>(bA.mp h).1
theorem k6{rooms a:Zb}{e:List ag}:(closF rooms e a).length<=rooms.length:=cF _ _
def behF(rooms:Zb)(ds:List ag)(face sg:Zb):List Str:=if sg=aF then face.filter (fun r=>decide (r∉dj ds))else closF rooms ds (cH ds sg face)
theorem DE{rooms face a:Zb}{e:List ag}(hf:∀r∈face,r∈rooms):∀r∈behF rooms e face a,r∈rooms:=by
 intro r h;unfold behF at h;split at h
 ·exact hf r (bA.mp h).1
 ·exact uz r h
theorem DF{rooms face a:Zb}{e:List ag}(f:rooms.length<=1000)(hf:face.length<=1000):(behF rooms e face a).length<=1000:=by
 unfold behF;split
 ·exact bp (cF _ _) hf
 ·exact bp k6 f
theorem CZ{rooms:Zb}{a:List ag}{e:Zb}(f:∀r∈e,r∈rooms):(e.filter fun r=>decide (r∈rooms.filter (cX a)))=e.filter fun r=>decide (r∉dj a):=by
 refine List.filter_congr fun r g=>?_;rw[<-jG];cases q:cX a r with
 |true=>exact zzr1 (bA.mpr ⟨f r g,q⟩)
 |false=>exact zzr0 (fun z=>by rw[(bA.mp z).2]at q;cases q)
inductive pZ(K:Za)(C:Addr)(vs:List V)(H:Hp)(Q:VK)(E:XK):Prop
 |mk (x t s:Addr) (face sg J0 J1 rooms:Zb) (ds:List ag):(vs=[.ref x,.ref t,.ref s])->(bB C H x J0 J1 rooms ds)->(H t=some (.tup (face.map V.str)))->(bc K H s (sg.map V.str))->((sg=aF∨H s=some (.tup (sg.map V.str))))->((∀r∈face,r∈rooms))->(face.length<=1000)->(∀(t':Addr) (H':Hp),H' t'=some (.tup ((behF rooms ds face sg).map V.str))->ac H H'->Q (.ref t') H')->pZ K C vs H Q E
inductive wT (vs:List V)(H:Hp)(Q:VK)(E:XK):Prop
 |mk (t l l1 l2 l3 l4:Addr) (ts:Ze) (J0 J1 rooms gs:Zb) (ds:List ag):(vs=[.ref t,.ref l])->(kE H t l1 l2 l3 l4 ts J0 J1 rooms ds)->(aW J0 J1 rooms ds)->(H l=some (.lst (gs.map V.str)))->(gs.length<=1000)->(∀(t':Addr) (H':Hp),H' t'=some (.tup ((closF rooms ds gs).map V.str))->ac H H'->Q (.ref t') H')->wT  vs H Q E
theorem GA{K:Za}{a:List V}{H:Hp}{Q:VK}{E:XK}(h:wT a H Q E):Cv K (gB K) (bQ Q) (start DK a) H:=by
 obtain⟨t,l,l1,l2,z,A,B,J0,J1,rooms,C,D,rfl,T,m,G,I,k⟩:=h;have z3:=m.rooms26;refine⟨_,rfl,.inr (.inl ⟨t,_,3,_,rfl,rfl,bc.of T.t,rfl,_,rfl,A,l,B,D,C,rooms,rfl,T.a4,T.ds,G,fun d J=>(m.good d J).b,by omega,I,fun L F M n N O fr x=>?_⟩)⟩;have p:=T.same x;refine⟨_,rfl,.inr (.inl ⟨t,_,2,_,rfl,rfl,bc.of p.t,rfl,z,rfl,⟨_,ax.of p.a3⟩,fun f hf=>?_⟩)⟩
 let s:Nat->List V->Hp->Prop:=fun i a e=>a=((rooms.take i).filter fun r=>decide (r∈F)).map V.str/\ac M e/\e f=some (.lst a)
 refine bP (xs:=rooms.map V.str) s ⟨rfl,ac.new hf,aa⟩ (fun i a e _ U=>by obtain⟨_,S,Y⟩:=U;exact⟨Y,ax.of (S _ _ p.a3)⟩) ?_ ?_
 ·rintro a e ⟨rfl,S,g⟩;rw[ak,bd,sw N]at g;exact⟨f,_,rfl,.inl ⟨ax.of g,fun t' u=>k t' _ aa ((x.trans S).trans (ac.new u))⟩⟩
 ·rintro i a e x' v hi ⟨rfl,S,g⟩;obtain⟨r,y,rfl⟩:=bq v;refine gN ?_;refine⟨_,rfl,_,rfl,dX r,F.map dX,L,_,gJ r,rfl,.inl (ax.of (S _ _ n)),fH _,(by show 0<=8;decide),by rw[cT];decide,_,rfl,?_⟩;rw[if_neg gL,vX];have j:(((rooms.take i).filter fun r=>decide (r∈F)).map V.str).length<aj:=by
   rw[ak];refine ay (bp (cF _ _) ?_);rw[bm];omega
  refine gV (fun w=>?_) (fun w=>?_)
  ·refine⟨_,rfl,g,j,kq hi ⟨?_,?_,aa⟩⟩
   ·rw[bC y,if_pos w,ar];rfl
   ·intro b o q;rw[ai (ae q hf)];exact S _ _ q
  ·refine kq hi ⟨?_,S,g⟩;rw[bC y,if_neg w,cP]
theorem Bg{j k rooms:Zb}{i:ag}(g:uH j k rooms i):∃f a,i.sg=f::a/\(!decide (V.str f=V.str ("ask":Str)))=!ei i:=by
 obtain⟨f,a,h⟩:∃f a,i.sg=f::a:=by
  rcases g.sg with⟨w,_,e⟩|⟨w,_,e⟩|e<;>exact⟨_,_,e⟩
 refine⟨f,a,h,?_⟩;unfold ei;rw[h];congr 1;show _=decide (f=("ask":Str));by_cases c:f=("ask":Str)
 ·rw[zzr1 c,zzr1 (by rw[c])]
 ·rw[zzr0 c,zzr0 (fun z=>c (by injection z))]
inductive jj (vs:List V)(H:Hp)(Q:VK)(E:XK):Prop
 |mk (t l1 l2 l3 l4:Addr) (ts:Ze) (J0 J1 rooms:Zb) (ds:List ag) (r:Str):(vs=[.ref t,.str r])->(kE H t l1 l2 l3 l4 ts J0 J1 rooms ds)->(aW J0 J1 rooms ds)->(∀H',ac H H'->Q (.bl (decide (r∉dj ds))) H')->jj  vs H Q E
inductive oB(K:Za)(vs:List V)(H:Hp)(Q:VK)(E:XK):Prop
 |mk (t ft s l1 l2 l3 l4:Addr) (ts:Ze) (J0 J1 rooms face sg:Zb) (ds:List ag):(vs=[.ref t,.ref ft,.ref s])->(kE H t l1 l2 l3 l4 ts J0 J1 rooms ds)->(aW J0 J1 rooms ds)->(H ft=some (.tup (face.map V.str)))->(bc K H s (sg.map V.str))->(face.length<=1000)->(∀(t':Addr) (H':Hp),H' t'=some (.tup ((behF rooms ds face sg).map V.str))->ac H H'->Q (.ref t') H')->oB K vs H Q E
abbrev cw(H:Hp)(us:Ze)(L:List (List Str)):Prop:=Paired (SignAt H) us L
theorem cw.kt{H H':Hp}{a:Ze}{L:List (List Str)}(k:iI H H')(h:cw H a L):cw H' a L:=Paired.mapP h fun _ _ r=>k _ _ r
theorem cw.dIns{K:Za}{H:Hp}:∀{a:Ze}{L:List (List Str)},cw H a L->DIns K H (L.map fx) (a.map V.ref)
 |_,_,.nil=>by show DIns K H [] [];unfold DIns;rfl
 |_,_,.cons r t=>by
  rw[bx,bx];unfold DIns;exact⟨_,_,rfl,aA (bc.of r),cw.dIns t⟩
theorem my(L:List (List Str)):DT.depths (L.map fx)<=1:=by
 induction L with
 |nil=>exact c9 _
 |cons x a e=>rw[bx];show max (DT.depth (fx x)) (DT.depths _)<=1;rw[aX];omega
theorem Paired.takeP{α β:Type}{R:α->β->Prop}:∀(n:Nat) {a:List α}{e:List β},Paired R a e->Paired R (a.take n) (e.take n)
 |0,_,_,_=>by rw[uM,uM];exact .nil
 |_+1,_,_,.nil=>.nil
 |n+1,_,_,.cons r t=>.cons r (Paired.takeP n t)
def faceOf(rooms:Zb)(ds:List ag)(story:List (List Str)):List Str:=story.foldl (behF rooms ds) (closF rooms ds (rooms.take 1))
theorem dv(rooms:Zb)(e:List ag)(a:List (List Str))(f:Zb):faceOf rooms e (a++[f])=behF rooms e (faceOf rooms e a) f:=by
 unfold faceOf;rw[nU]
 rfl
theorem kZ{rooms:Zb}{ds:List ag}(i:rooms.length<=1000)(a:List (List Str)):(∀r∈faceOf rooms ds a,r∈rooms)/\(faceOf rooms ds a).length<=1000:=by
 have e:∀(L:List (List Str)) (f:Zb),(∀r∈f,r∈rooms)->f.length<=1000->(∀r∈L.foldl (behF rooms ds) f,r∈rooms)/\(L.foldl (behF rooms ds) f).length<=1000:=by
  intro L
  induction L with
  |nil=>intro f g h;exact⟨g,h⟩
  |cons k L j=>intro f g h;exact j _ (DE g) (DF i h)
 exact e a _ uz (bp k6 i)
inductive sp_face_of(C:Addr)(vs:List V)(H:Hp)(Q:VK)(E:XK):Prop
 |mk (x st:Addr) (us:Ze) (story:List (List Str)) (J0 J1 rooms:Zb) (ds:List ag):(vs=[.ref x,.ref st])->(bB C H x J0 J1 rooms ds)->(H st=some (.lst (us.map V.ref)))->(cw H us story)->(∀(t':Addr) (H':Hp),H' t'=some (.tup ((faceOf rooms ds story).map V.str))->ac H H'->Q (.ref t') H')->sp_face_of C vs H Q E
theorem yM{K:Za}{C:Addr}{r:List V}{H:Hp}{Q:VK}{E:XK}(h:sp_face_of C r H Q E):A_ K (pZ K C) (dJ C) (bQ Q) (start B8 r) H:=by
 obtain⟨x,st,A,a,s,t,rooms,ds,rfl,M,g,v,k⟩:=h;have U:=M.ok.rooms26;refine⟨_,rfl,x,s,t,rooms,ds,rfl,M,fun B F Y j D w=>?_⟩;rw[sw D]at j;refine⟨_,rfl,st,rfl,⟨_,ax.of (w _ _ g)⟩,?_⟩;refine bG (xs:=A.map V.ref) (fun i σ m=>DW fun(f:Addr) (n:Option V)=>Gj (σ=[some (.ref x),some (.ref st),some (.ref f),n]) (m f=some (.tup ((faceOf rooms ds (a.take i)).map V.str))) (ac H m))
  ⟨B,_,rfl,j,w⟩ (fun i σ m _ G=>by obtain⟨_,_,_,_,S⟩:=G;exact ax.of (S _ _ g)) ?_ ?_
 ·rintro i y σ z hi ⟨f,n,rfl,hf,l⟩;obtain⟨u,I,rfl⟩:=bE hi;obtain⟨J,o,p⟩:=Paired.getL v I;have e:=l _ _ p;obtain⟨L,N⟩:=kZ (ds:=ds) (show rooms.length<=1000 by omega) (a.take i);refine⟨_,rfl,_,rfl,_,rfl,x,f,u,_,J,s,t,rooms,ds,rfl,M.same l,hf,bc.of e,.inr e,L,N,fun O H3 q T=>⟨O,_,rfl,?_,l.trans T⟩⟩;rw[take_snoc o,dv];exact q
 ·rintro σ z ⟨f,n,rfl,hf,l⟩;rw[ak,Paired.length v,bd]at hf;exact⟨_,rfl,k f z hf l⟩
inductive d9(C:Addr)(vs:List V)(H:Hp)(Q:VK)(E:XK):Prop
 |mk (x st:Addr) (us:Ze) (story:List (List Str)) (J0 J1 rooms:Zb) (ds:List ag):(vs=[.ref x,.ref st])->(bB C H x J0 J1 rooms ds)->(H st=some (.lst (us.map V.ref)))->(cw H us story)->(∀H',ac H H'->Q (.bl (decide (faceOf rooms ds story≠[]))) H')->d9 C vs H Q E
theorem wZ{K:Za}{C:Addr}{j:List V}{H:Hp}{Q:VK}{E:XK}(h:d9 C j H Q E):yj K (sp_face_of C) (bQ Q) (start zS j) H:=by
 obtain⟨x,st,l,a,m,n,rooms,g,rfl,M,i,o,k⟩:=h;refine⟨_,rfl,_,rfl,x,st,l,a,m,n,rooms,g,rfl,M,i,o,fun f p hf q=>.inl ⟨f,_,rfl,.inr (bc.of hf),_,_,rfl,rfl,?_⟩⟩;have e:decide ((0:Int)<(((faceOf rooms g a).map V.str).length:Nat))=decide (faceOf rooms g a≠[]):=by
  rw[ak];by_cases c:faceOf rooms g a=[]
  ·rw[c];rfl
  ·rw[zzr1 c];have:=List.length_pos_iff.mpr c;exact zzr1 (by omega)
 have:=k p q;rw[<-e]at this;exact this
def qU(K:Za):TS :=
 bo (dW (cW K) (aE (qW K V0 "own_asks")))
def sK:List Str:=["self"]
def qT(K:Za):TS :=
 bo (dW (cW K) (aE (qW K V0 "own_says")))
def sJ:List Str:=["self"]
def yh(K:Za)(sp_law_behind:Sp)(sp_law_on:Sp):TS :=
 ao (aG (aQ sp_law_on (aY V0 (B_ (rSlA K) (aB (mP K) V0 (tC (.int 2))) (gu) (iN (tC (.int 1)))))) U2)
 (ao (d7 (bS K V1) U3 (aG (aQ sp_law_behind (dZ V0 V2 V3)) U2))
 (bo V2))
def zQ:List Str:=["told","story","face","sign"]


theorem CB{C x:Addr}{H:Hp}{k l rooms:Zb}{m:List ag}(h:bB C H x k l rooms m):∃(j:Addr) (fs:List (Str×V)) (f g i:Addr) (a:List (Str×Addr)),H x=some (.ins C j fs)/\lk "asks" fs=none/\lk "says" fs=none/\lk "doors_from" fs=none/\lk "is_quiet" fs=none/\lk "own_asks" fs=some (.ref f)/\lk "own_says" fs=some (.ref g)/\lk "leaving" fs=some (.ref i) /\
  H f=some (.lst (k.map V.str))/\H g=some (.lst (l.map V.str))/\a.map (·.1)=rooms/\H i=some (.dK (dE Sum.inr a))/\(∀x∈a,∃n,H x.2=some (.lst (n.map V.ref))/\b0 H n (cg m x.1)):=by
 obtain⟨j,fs,f,g,E,I,i,J,M,N,O,a,p,q,o,a1,a2,a3,Q,r,s,T,U,t,Y,b7,b8,L,u,v,w,c4,G,d1,d2,d3⟩:=h.at_;obtain⟨y,z,e,A,B,e3,D⟩:=h.more;rw[o]at e;cases e;exact⟨j,fs,f,g,i,a,o,A,B,D,a1,r,s,t,L.a1,L.a2,u,v,w⟩
inductive p7(C:Addr)(vs:List V)(H:Hp)(Q:VK)(E:XK):Prop
 |mk (x:Addr) (J0 J1 rooms:Zb) (ds:List ag):(vs=[.ref x])->(bB C H x J0 J1 rooms ds)->(∀l,H l=none->Q (.ref l) (upd H l (.lst (J0.map V.str))))->p7 C vs H Q E
theorem Eo{K:Za}{C:Addr}(M:MC K C){a:List V}{H:Hp}{Q:VK}{E:XK}(h:p7 C a H Q E):qU K (bQ Q) (start sK a) H:=by
 obtain⟨x,m,n,rooms,o,rfl,h,k⟩:=h;obtain⟨f,fs,e,p,q,g,i,a1,a2,a3,r,j,s,t,l,u,_⟩:=CB h;exact⟨_,rfl,x,C,f,fs,.ref e,rfl,i,M.cls,M.a1,j,.inl ⟨e,_,rfl,.inl (ax.of l),k⟩⟩
inductive nh(C:Addr)(vs:List V)(H:Hp)(Q:VK)(E:XK):Prop
 |mk (x:Addr) (J0 J1 rooms:Zb) (ds:List ag):(vs=[.ref x])->(bB C H x J0 J1 rooms ds)->(∀l,H l=none->Q (.ref l) (upd H l (.lst (J1.map V.str))))->nh C vs H Q E
theorem Ej{K:Za}{C:Addr}(M:MC K C){a:List V}{H:Hp}{Q:VK}{E:XK}(h:nh C a H Q E):qT K (bQ Q) (start sJ a) H:=by
 obtain⟨x,m,n,rooms,o,rfl,h,k⟩:=h;obtain⟨f,fs,p,e,q,g,i,a1,a2,a3,r,s,j,t,u,l,_⟩:=CB h;exact⟨_,rfl,x,C,f,fs,.ref e,rfl,i,M.cls,M.a2,j,.inl ⟨e,_,rfl,.inl (ax.of l),k⟩⟩
open Classical in
theorem h9{rooms a:Zb}{e:List ag}{r:Str}:r∈closF rooms e a↔r∈rooms/\fT e a r:=by
 unfold closF;rw[bA,decide_eq_true_iff]
theorem Hb(a:Zb):(fx a).depth<=8:=by rw[aX];decide
def pI(K:Za):TS :=
 bo (dW (cW K) (aE (qW K V0 "own_doors")))
def pV:List Str:=["self"]
def xO:List Str:=["found","due"]


def wF(K:Za)(sp_law_still_on:Sp):TS :=
 ao (aG (cZ 1 [] (bS K V1) U0 (aP (aB (oG K) (aB (mP K) V0 (tC (.int 1))) (b_ (aE (tC (.str "still")))))) V0) U2)
 (ao (d7 (pB K (aE V0)) (jZ K 2 (bO U3 (bO U4 (jO)))) (ao (aG (cZ 1 [4] (bS K V2) U0 (aP (aB Ao (aB (mP K) V0 (tC (.int 0))) V1)) (aB (mP K) V0 (tC (.int 2)))) U5)
 (cp (aP (aB (i6 K false) V4 (aQ sp_law_still_on (aY V2 V5)))) (bo V3) (bt))))
 (bo (tC .non)))
def xP:List Str:=["rooms","doors","stills","number","room","behind"]
def wE(K:Za)(sp_law_same:Sp):TS :=
 ao (cp (tB (Ed V1)) (bo (Ed V0)) (bt))
 (ao (cp (tB (dW (oF K) (aY V1 (tC (.ty "bool"))))) (bo (ph (dW (oF K) (aY V0 (tC (.ty "bool")))) (aB Ao V0 V1))) (bt))
 (ao (cp (tB (dW (oF K) (aY V1 (tC (.ty "str"))))) (bo (ph (dW (oF K) (aY V0 (tC (.ty "str")))) (aB (oG K) V0 V1))) (bt))
 (ao (cp (tB (dW (oF K) (aY V1 (tC (.ty "int"))))) (bo (ph (dW (oF K) (aY V0 (tC (.ty "int")))) (ph (Fg (dW (oF K) (aY V0 (tC (.ty "bool"))))) (aB (oG K) V0 V1)))) (bt))
 (ao (cp (jY (tB (dW (oF K) (aY V1 (tC (.ty "tuple"))))) (qV (tB (dW (oF K) (aY V0 (tC (.ty "tuple"))))))) (bo (tC (.bl false))) (bt))
 (ao (cp (jY (tB (dW (oF K) (aY V1 (tC (.ty "list"))))) (qV (tB (dW (oF K) (aY V0 (tC (.ty "list"))))))) (bo (tC (.bl false))) (bt))
 (ao (cp (aP (aB Fm (dW (gf K) (aE V0)) (dW (gf K) (aE V1)))) (bo (tC (.bl false))) (bt))
 (bo (dW (Eu K) (aJ (cZ 2 [] (Fy K (aY V0 V1)) (jZ K 2 (bO U0 (bO U1 (jO)))) (ka) (aQ sp_law_same (aY V0 V1))) bR)))))))))








def rA(C:Addr):Sp:=fun vs H Q _=>∃(x dx o4:Addr) (fs:List (Str×V)) (ts:Ze),vs=[.ref x]/\H x=some (.ins C dx fs)/\lk "own_doors" fs=some (.ref o4)/\H o4=some (.lst (ts.map V.ref))/\∀l,H l=none->Q (.ref l) (upd H l (.lst (ts.map V.ref)))
theorem CQ{K:Za}{C:Addr}(M:MC K C){a:List V}{H:Hp}{Q:VK}{E:XK}(h:rA C a H Q E):pI K (bQ Q) (start pV a) H:=by
 obtain⟨x,f,e,fs,l,rfl,g,i,j,k⟩:=h;exact⟨_,rfl,x,C,f,fs,.ref e,rfl,g,M.cls,M.a4,i,.inl ⟨e,_,rfl,.inl (ax.of j),k⟩⟩
def Fe(rooms:Zb)(P:Str->Prop)(o:Option Nat):Prop:=(o=none/\∀r∈rooms,¬P r)∨∃n r,o=some n/\rooms[n]?=some r/\P r/\∀j x,j<n->rooms[j]?=some x->¬P x
structure sL(J0 J1 rooms:Zb)(ds:List ag):Prop where
 okA:hU J0
 okS:hU J1
 apart:∀w∈J1,w∉J0
 okR:hU rooms
 asks0:J0≠[]
 says0:J1≠[]
 rooms0:rooms≠[]
 asks4:J0.length<=4
 says4:J1.length<=4
 rooms26:rooms.length<=150
 nodup:ds.Nodup
 good:∀d∈ds,uH J0 J1 rooms d
 few:ds.length<=2000
theorem sL.ok{J0 f rooms:Zb}{e:List ag}(m:sL J0 f rooms e)(z:e.length<=1000)(h:∀r∈rooms,¬Reach e r r):aW J0 f rooms e :=
 ⟨m.okA,m.okS,m.apart,m.okR,m.asks0,m.says0,m.rooms0,m.asks4,m.says4,m.rooms26,m.nodup,m.good,z,fun r z=>by
  have:∀{b:Str},Reach e r b->r∈rooms:=fun{b} g=>by
   induction g with
   |one i=>exact(m.good _ i).a
   |step _ _ j=>exact j
  exact h r (this z) z⟩
def im(d:ag):Bool:=decide (d.sg=stillSg)
def jz(ds:List ag)(r:Str):List Str:=((ds.filter im).filter fun d=>decide (d.a=r)).map ag.b
theorem rj{e:List ag}{a b:Str}:(⟨a,stillSg,b⟩:ag)∈e.filter im↔(⟨a,stillSg,b⟩:ag)∈e :=
 ⟨fun h=>(bA.mp h).1,fun h=>bA.mpr ⟨h,zzr1 rfl⟩⟩
theorem Reach.mono{g f:List ag}(h:∀a b,(⟨a,stillSg,b⟩:ag)∈g->(⟨a,stillSg,b⟩:ag)∈f){a b:Str}(r:Reach g a b):Reach f a b:=by
 induction r with
 |one e=>exact .one (h _ _ e)
 |step _ e i=>exact .step i (h _ _ e)
theorem Reach.front{f:List ag}{a b:Str}(r:Reach f a b):∃g,(⟨a,stillSg,g⟩:ag)∈f/\(b=g∨Reach f g b):=by
 induction r with
 |one e=>exact⟨_,e,.inl rfl⟩
 |step _ e h =>
  obtain⟨g,i,z⟩:=h;refine⟨g,i,.inr ?_⟩;rcases z with z|z
  ·subst z;exact .one e
  ·exact .step z e
theorem mv{i:List ag}{r g:Str}:g∈jz i r↔(⟨r,stillSg,g⟩:ag)∈i:=by
 constructor
 ·intro h;obtain⟨d,j,e⟩:=aK.mp h;obtain⟨k,a⟩:=bA.mp j;obtain⟨l,f⟩:=bA.mp k;have a:=of_decide_eq_true a;have f:=of_decide_eq_true f;cases d;simp only at *;subst e;subst a;subst f;exact l
 ·intro h;exact aK.mpr ⟨_,bA.mpr ⟨rj.mpr h,zzr1 rfl⟩,rfl⟩
theorem ug{ds:List ag}{r:Str}:fT (ds.filter im) (jz ds r) r↔Reach ds r r:=by
 constructor
 ·rintro⟨g,f,e⟩;have one:=Reach.one (mv.mp f);rcases e with e|e
  ·rw[<-e]at one;exact one
  ·exact one.trans (e.mono fun a b=>rj.mp)
 ·intro h;obtain⟨g,f,e⟩:=h.front;exact⟨g,mv.mpr f,e.imp id fun z=>z.mono fun a b=>rj.mpr⟩
theorem v7{f:List ag}(j:f.Nodup)(r:Str):(jz f r).Nodup:=by
 unfold jz List.Nodup;rw[List.pairwise_map];have g:((f.filter im).filter fun d=>decide (d.a=r)).Nodup:=(j.filter _).filter _;refine List.Pairwise.imp_of_mem (fun{a b} k l ne e=>ne ?_) g;obtain⟨m,h⟩:=bA.mp k;obtain⟨n,i⟩:=bA.mp l;have o:=of_decide_eq_true (bA.mp m).2;have p:=of_decide_eq_true (bA.mp n).2;have h:=of_decide_eq_true h;have i:=of_decide_eq_true i;cases a;cases b;simp only at *;rw[e,h,i,o,p]
inductive ni (vs:List V)(H:Hp)(Q:VK)(E:XK):Prop
 |mk (l3 l4:Addr) (ts:Ze) (J0 J1 rooms:Zb) (ds:List ag):(vs=[.ref l3,.ref l4])->(H l3=some (.lst (rooms.map V.str)))->(H l4=some (.lst (ts.map V.ref)))->(b0 H ts ds)->(sL J0 J1 rooms ds)->(∀o H',Fe rooms (fun r=>Reach ds r r) o->ac H H'->Q (oV o) H')->ni  vs H Q E
theorem CJ{K:Za}{p:List V}{H:Hp}{Q:VK}{E:XK}(h:ni p H Q E):wF K (gB K) (bQ Q) (start xP p) H:=by
 obtain⟨l3,l4,ts,J0,J1,rooms,ds,rfl,h3,h4,M,m,k⟩:=h;have z4:=m.few;have z3:=m.rooms26;refine⟨_,rfl,l4,rfl,⟨_,ax.of h4⟩,fun f hf=>?_⟩;refine bP (xs:=ts.map V.ref) (fun i p n=>∃A:List Addr,p=A.map V.ref/\b0 n A ((ds.take i).filter im)/\ac H n/\n f=some (.lst p)) ⟨[],rfl,.nil,ac.new hf,aa⟩ (fun i p n _ N=>by obtain⟨_,_,_,S,h'⟩:=N;exact⟨h',ax.of (S _ _ h4)⟩) ?_ ?_;rotate_left
 ·rintro i p n x hx hi ⟨A,rfl,D,S,f'⟩;obtain⟨t,ht,rfl⟩:=bE hx;obtain⟨J,v,B⟩:=Paired.getL M ht;obtain⟨s,C,O⟩:=B.kt (ac.kt S);refine gN ⟨_,rfl,.inr (.inl ⟨t,_,1,_,rfl,rfl,bc.of C,rfl,(by show 1<=aj;decide),fun st T=>⟨fx J.sg,fx stillSg,aA (bc.of (kp O T)),aA (bc.of aa),by rw[aX];decide,by rw[aX];decide,_,rfl,?_⟩⟩)⟩;rw[cU];have Sn:ac n (upd n st (.tup [.str "still"])):=ac.new T;have G:=S.trans Sn;have I:=Sn _ _ f';have L:=D.kt (ac.kt Sn);generalize upd n st (.tup [.str "still"])=H2 at Sn G I L ⊢;refine gV (fun c=>?_) (fun c=>?_)
  ·refine⟨_,rfl,I,?_,kq hi ⟨A++[t],by rw[ar];rfl,?_,?_,aa⟩⟩
   ·rw[ak,Paired.length D];refine de (bp (cF _ _) ?_);rw[bm];omega
   ·rw[eF v,if_pos (show im J=true from c)];exact Paired.app (L.kt (cv I)) (.cons ((B.kt (ac.kt G)).kt (cv I)) .nil)
   ·intro b o q;rw[ai (ae q hf)];exact G _ _ q
  ·refine kq hi ⟨A,rfl,?_,G,I⟩;rw[eF v,if_neg (show ¬im J=true from c),cP];exact L
 rintro p H1 ⟨A,rfl,D1,S1,f1⟩;rw[ak,Paired.length M,bd]at D1;have al:A.length=(ds.filter im).length:=Paired.length D1;refine⟨_,rfl,l3,rfl,⟨_,ax.of (S1 _ _ h3)⟩,?_⟩;refine iz (xs:=rooms.map V.str) (fun i σ n=>∃x y z,σ=[some (.ref l3),some (.ref l4),some (.ref f),x,y,z]/\ac H1 n/\∀j x,j<i->rooms[j]?=some x->¬Reach ds x x) ⟨_,_,_,rfl,ac.refl _,fun _ _ z=>absurd z (Nat.not_lt_zero _)⟩ (fun i σ n _ N=>by obtain⟨_,_,_,_,S,_⟩:=N;exact ax.of (S _ _ (S1 _ _ h3))) ?_ ?_
 ·rintro i x σ n t hi ⟨x2,x3,x4,rfl,S,nb⟩ ht;obtain⟨r,hr,rfl⟩:=bq hi;refine⟨t,_,rfl,bc.of aa,rfl,_,_,rfl,_,_,rfl,rfl,?_⟩;have G:ac H1 (upd n t (.tup [.int i,.str r])):=S.trans (ac.new ht);generalize upd n t (.tup [.int i,.str r])=H2 at G ⊢;have I:=G _ _ f1;have L:=D1.kt (ac.kt G);refine⟨_,rfl,f,rfl,⟨_,ax.of I⟩,fun g hg=>?_⟩;refine bP (xs:=A.map V.ref) (fun i p n=>p=((((ds.filter im).take i).filter fun d=>decide (d.a=r)).map ag.b).map V.str/\ac H2 n/\n g=some (.lst p)) ⟨rfl,ac.new hg,aa⟩ (fun i p n _ N=>by obtain⟨_,S,h'⟩:=N;exact⟨h',ax.of (S _ _ I)⟩) ?_ ?_;rotate_left
  ·rintro j p n x hx U ⟨rfl,S,g'⟩;obtain⟨u,hu,rfl⟩:=bE hx;obtain⟨J,v,B⟩:=Paired.getL L hu;obtain⟨s,C,O⟩:=B.kt (ac.kt S);refine gN ⟨_,rfl,.inr (.inl ⟨u,_,0,_,rfl,rfl,bc.of C,rfl,_,rfl,rfl,_,rfl,?_⟩)⟩;refine gV (fun c=>?_) (fun c=>?_)
   ·have c:J.a=r:=by have:=of_decide_eq_true c;injection this
    refine⟨_,rfl,.inr (.inl ⟨u,_,2,_,rfl,rfl,bc.of C,rfl,g',?_,kq U ⟨?_,?_,aa⟩⟩)⟩
    ·rw[ak,ak];refine de (bp (cF _ _) ?_);rw[bm];have:=cF im ds;omega
    ·rw[eF v,if_pos (zzr1 c),ar,ar];rfl
    ·intro b o q;rw[ai (ae q hg)];exact S _ _ q
   ·have c:¬J.a=r:=fun e=>c (zzr1 (by rw[e]));refine kq U ⟨?_,S,g'⟩;rw[eF v,if_neg (fun z=>c (of_decide_eq_true z)),cP]
  rintro p H3 ⟨rfl,S3,g3⟩;rw[ak,al,bd]at g3;have inR:∀w∈jz ds r,w∈rooms:=fun w hw=>(m.good _ (mv.mp hw)).b;have gz:=fD (v7 m.nodup r) inR;refine⟨_,rfl,_,rfl,_,rfl,f,g,A,ds.filter im,jz ds r,rooms,rfl,S3 _ _ I,L.kt (ac.kt S3),g3,fun d hd=>(m.good d (bA.mp hd).1).b,by omega,by omega,fun q F H4 hq hF zF _ S4=>⟨dX r,F.map dX,q,_,gJ r,rfl,.inl (ax.of hq),fH _,c9 _,by rw[cT];decide,_,rfl,?_⟩⟩;have Y:ac H1 H4:=(G.trans S3).trans S4;refine gV (fun c=>?_) (fun c=>?_)
  ·have c:r∈F:=jL.mp (of_decide_eq_true c);exact⟨_,rfl,k (some i) H4 (.inr ⟨i,r,rfl,hr,ug.mp ((hF r).mp c),nb⟩) (S1.trans Y)⟩
  ·refine⟨_,_,_,rfl,Y,fun j x l e=>?_⟩;rcases Nat.lt_or_ge j i with z|z
   ·exact nb j x z e
   ·have:j=i:=by omega
    rw[this,hr]at e;cases e;exact fun z=>c (zzr1 (jL.mpr ((hF r).mpr (ug.mpr z))))
 ·rintro σ n ⟨x,y,z,rfl,S,nb⟩;refine k none n (.inl ⟨rfl,fun r hr=>?_⟩) (S1.trans S);obtain⟨j,U,e⟩:=List.mem_iff_getElem.mp hr;exact nb j r (by rw[ak];exact U) (by rw[nY U,e])
open Classical in
abbrev Sg:=List Str
structure FMs where
 fs:List (List Str)
 ss:List (List Sg)
abbrev FMst:=FMs×List (List (Sg×Nat))
theorem Af{K:Za}{a:Addr}{e:List V}(h:∀H,bc K H a e)(H:Hp):bH K H a e:=by
 rcases h (fun _=>none)with(h|⟨o,h⟩)|h
 ·cases h
 ·cases h
 ·exact .inr h
theorem ifQ{b:Bool}{P X Y:Prop}(h:b=true↔P)(a:P->X)(e:¬P->Y):if b=true then X else Y:=by
 cases b with
 |true=>exact a (h.1 rfl)
 |false=>exact e fun z=>by cases h.2 z
abbrev AS(K:Za)(H:Hp)(w:Addr)(s:List Sg):Prop:=∃gs:List Addr,H w=some (.lst (gs.map V.ref))/\Paired (fun g (sg:Sg)=>bH K H g (sg.map V.str)) gs s
theorem bH.kt{K:Za}{H e:Hp}{a:Addr}{f:List V}(k:iI H e)(h:bH K H a f):bH K e a f:=h.keeps k
theorem bH.sq{K:Za}{H:Hp}{a:Addr}{e:List V}(h:bH K H a e):bc K H a e:=h.imp .inl id
theorem Paired.rev{α β:Type}{R:α->β->Prop}:∀{a:List α}{b:List β},Paired R a b->Paired R a.reverse b.reverse
 |_,_,.nil=>.nil
 |_,_,.cons r t=>by
  rw[oj,oj];exact Paired.app (Paired.rev t) (.cons r .nil)
def DJ(ds:List ag)(f:Zb):Prop:=∀d∈ds,d.sg=stillSg->d.a∈f->d.b∈f
theorem uf{rooms i:Zb}{e:List ag}(j:∀d∈e,d.b∈rooms):DJ e (closF rooms e i):=by
 classical
 intro d h f g;unfold closF at g ⊢;rw[bA]at g ⊢;obtain⟨a,k,b⟩:=d;have f:k=stillSg:=f;subst f;exact⟨j _ h,zzr1 (fT.step (of_decide_eq_true g.2) h)⟩
theorem CC{rooms f e:Zb}{a:List ag}(g:∀d∈a,d.b∈rooms):DJ a (behF rooms a f e):=by
 unfold behF;split
 ·intro d i j k;have h:=of_decide_eq_true (bA.1 k).2;refine absurd (aK.2 ⟨d,bA.2 ⟨i,?_⟩,rfl⟩) h;unfold ei;rw[j]
  decide
 ·exact uf g
abbrev FPr:=List Str×List Str
open Builtin.Int (intBits)
theorem l6{K:Za}{H:Hp}:∀{a:Ze}{L:List (List Str)},Paired (fun u f=>bH K H u (f.map V.str)) a L->DIns K H (L.map fx) (a.map V.ref)
 |_,_,.nil=>rfl
 |_,_,.cons h r=>⟨_,_,rfl,aA (bH.sq h),l6 r⟩
theorem Def.weak{P:bD}{w:World}{K:Za}{i:Str->Option Value}{base:Heap}{x:Str}{j:Zb}{k:Nat}{l g:Sp}(D:L2.Def P w K i base x j k l)(h:∀e H Q E,g e H Q E->l e H Q E):L2.Def P w K i base x j k g:=by
 obtain⟨f,m,F,r⟩:=D;exact⟨f,m,⟨fun e H Q E q=>F.len e H Q E (h _ _ _ _ q),fun A o s H a n e Q E p t u v q=>F.run A o s H a n e Q E p t u v (h _ _ _ _ q)⟩,r⟩


theorem BW{K:Za}{k:Nat}{o:List Nat}{g:TG}{q:TT}{r:TE}{σ:L2.St}{s:Hp}{Q:Hp->Prop}{l a b:Addr}{xs ys:List V}(A:xs.length<=ys.length)(Pv:Nat->List V->Hp->Prop)(B:Pv 0 [] (upd s l (.lst [])))
  (m:∀i e H,i<=xs.length->Pv i e H->H l=some (.lst e)/\ax K H a xs/\ax K H b ys) (C:∀e H,Pv xs.length e H->Q H)
  (D:∀i e H x y p,xs[i]?=some x->ys[i]?=some y->i<xs.length->Pv i e H->H p=none->g (.ref p) (dz k o σ) (upd H p (.tup [x,y])) fun σ2 E=>q σ2 E fun b w =>
   if b=true then r σ2 w fun v z=>z l=some (.lst e)/\e.length<aj/\∃f,f<xs.length-i/\Wc xs.length Pv (i+1) f (e++[v]) (upd z l (.lst (e++[v])))else ∃f,f<xs.length-i/\Wc xs.length Pv (i+1) f e w) :
  ej k o σ (Hf K a b) g q r s l Q:=by
 refine jy xs.length Pv B (fun i e H hi p=>(m i e H hi p).1) (fun i e H hi p=>?_) (fun e H p=>?_) fun i e H x L hi p y=>?_
 ·obtain⟨_,h,j⟩:=m i e H (fj hi) p;have n:i<ys.length:=by omega
  exact⟨xs,ys,xs[i],ys[i],h,j,by simp[hi],by simp[n]⟩
 ·obtain⟨_,h,j⟩:=m _ e H (aN _) p;exact⟨⟨xs,ys,h,j,.inl (aN _)⟩,C e H p⟩
 ·obtain⟨_,h,j⟩:=m i e H (fj hi) p;obtain⟨t,u,v,rfl,G,I,J,rfl⟩:=y;exact D i e H u v t (I xs h) (J ys j) hi p G
open Builtin.Int (intBits)
open Builtin.Int (intBits)
open Builtin.Int (intBits)
open Builtin.Int (intBits)
def hB:Nat->Nat
 |0=>0
 |d+1=>12+25 * hB d
open Builtin.Int (intBits)
open Builtin.Int (intBits)

abbrev sG(K:Za)(H:Hp)(gs:Ze)(s:List Sg):Prop:=Paired (fun g (sg:Sg)=>bH K H g (sg.map V.str)) gs s
theorem sG.same{K:Za}{H a:Hp}{e:Ze}{s:List Sg}(S:ac H a)(h:sG K H e s):sG K a e s:=Paired.mapP h fun _ _ r=>bH.kt (ac.kt S) r
def m5(K:Za)(C_Machine:Addr)(sp_Machine_goals:Sp)(a_STILL:Addr):TS :=
 ao (aG (dW (cW K) (aE V1)) U2)
 (ow (aP (aB Bv (dW (gf K) (aE V2)) (tC (.int 0)))) (ao (aG (yz K "list" Bu V2) U3)
 (d7 (bS K (fk C_Machine "goals" sp_Machine_goals [] E0 V0 (aY V3 (tC (.ref a_STILL))))) U4 (cp (tB (kL K V4 V1)) (ao (jm V1 V4 (b_ (dZ V3 (tC (.ref a_STILL)) V4)))
 (cr (ua K "list" cR V2 (aE V4)))) (bt)))))
def nS:List Str:=["M","steps","waiting","room","goal"]
def yd(K:Za)(a_HUSH:Addr)(C_Machine:Addr)(sp_Machine_is_quiet:Sp)(sp_Machine_goals:Sp):TS :=
 ao (aG (mm) U3)
 (ao (d7 (Fz V1) U4 (cp (aP (aB (oG K) V2 (tC (.ref a_HUSH)))) (cp (tB (fk C_Machine "is_quiet" sp_Machine_is_quiet [] E0 V0 (aE V4))) (jm V3 V4 (b_ (dZ V4 (tC (.ref a_HUSH)) V4))) (bt)) (d7 (bS K (fk C_Machine "goals" sp_Machine_goals [] E0 V0 (aY V4 V2))) U5 (jm V3 V5 (b_ (dZ V4 V2 V5))))))
 (bo V3))
def zM:List Str:=["M","rooms","sign","steps","room","goal"]
def sT(K:Za)(sp_add_still_steps:Sp)(sp_steps_by:Sp)(C_Machine:Addr)(sp_Machine_rooms:Sp):TS :=
 ao (aG (Fh [(aB (d_ K) (fk C_Machine "rooms" sp_Machine_rooms [] E0 V0 bR) (tC (.int 0)),tC .non)]) U2)
 (ao (aG (fA (aE V2)) U3)
 (ao (cr (aQ sp_add_still_steps (aY V0 V2)))
 (ao (d7 (bS K V1) U4 (ao (aG (aQ sp_steps_by (dZ V0 V2 V4)) U2)
 (ao (cr (ua K "list" cR V3 (aE V2)))
 (cr (aQ sp_add_still_steps (aY V0 V2))))))
 (bo V3))))
def tM:List Str:=["M","story","steps","along","sign"]
def A7(K:Za)(a_STILL:Addr)(sp_steps_along:Sp):TS :=
 ao (aG (aQ sp_steps_along (aY V0 V1)) U2)
 (ao (cp (aP (aB Ao (dW (CV K) (aE (aB (d_ K) V2 (tUn (rU fun i=>.int (-i)) (tC (.int 1)))))) (tC (.int 0)))) (bo (tC .non)) (bt))
 (ao (aG (aB (d_ K) (dW (cW K) (aE (aB (d_ K) V2 (tUn (rU fun i=>.int (-i)) (tC (.int 1)))))) (tC (.int 0))) U3)
 (ao (aG (fA (bR)) U4)
 (ao (aG (yz K "list" Bu V2) U5)
 (ao (ow (tB (Ai (t_ K V5 V3))) (ao (aG (t_ K V5 V3) U6)
 (ao (cr (ua K "list" cR V4 (aE V6)))
 (ao (aG (aB (eJ K) V6 (tC (.int 0))) U3)
 (cp (aP (aB (vC K) (aB (eJ K) V6 (tC (.int 1))) (tC (.ref a_STILL)))) (aG (yz K "list" Bu V2) U5) (bt))))))
 (ao (cr (yz K "list" xa V4))
 (bo V4)))))))
def B5:List Str:=["M","story","along","room","walk","steps","step"]
def f_(K:Za)(C:Addr):Sp:=fun vs H Q _=>∃(x s:Addr) (r:Str) (sg J0 J1 rooms:Zb) (ds:List ag),vs=[.ref x,.str r,.ref s]/\bB C H x J0 J1 rooms ds/\bc K H s (sg.map V.str) /\
 ∀(l:Addr) (H':Hp),H' l=some (.lst ((aM ds (r,sg)).map V.str))->H l=none->ac H H'->Q (.ref l) H'
theorem Ag{K:Za}{H:Hp}:∀a:List Str,TKIns K H (a.map pj) (a.map V.str)
 |[]=>by unfold TKIns;rfl
 |x::a=>by
  rw[bx,bx];unfold TKIns;exact⟨_,_,rfl,by unfold pj lz;rfl,Ag a⟩
theorem yG{K:Za}{C:Addr}(M:MC K C){t:List V}{H:Hp}{Q:VK}{E:XK}(h:f_ K C t H Q E):pH K (bQ Q) (start pU t) H:=by
 obtain⟨x,s,r,e,Y,J1,rooms,w,rfl,h,A,k⟩:=h;obtain⟨B,fs,o1,o2,o3,o4,lv,qu,u,sl,ts,D,m,I,J,a1,a2,a3,a4,b1,b2,b3,b4,b5,b6,N,b8,L,c1,c2,c3,c4,G,d1,d2,d3⟩:=h.at_;have O:=h.ok.okR.1;refine⟨_,rfl,x,C,B,fs,.ref u,rfl,J,M.cls,M.a7,N,u,rfl,.inr ⟨_,.inl G.g⟩,_,rfl,_,rfl,(by show 2<=aj;decide),fun kt j=>⟨(by show 0<=aj;decide),fun v i=>⟨cz (dE sS m) (sS (r,e)),.inr ⟨_,sS (r,e),kt,.inl (kp (kp G.g j) i),rfl,?_,oC _,rfl⟩,?_⟩⟩⟩
 ·unfold sS lz;refine⟨kt,_,rfl,bc.of (kp aa i),?_⟩;unfold TKIns;refine⟨_,_,rfl,by unfold pj lz;rfl,?_⟩;unfold TKIns;refine⟨_,_,rfl,?_,by unfold TKIns;rfl⟩;unfold BQ lz;exact⟨s,_,rfl,bc.same ((ac.new j).trans (ac.new i)) A,Ag e⟩
 have n:ac H (upd (upd H kt (.tup [.str r,.ref s])) v (.tup [])):=(ac.new j).trans (ac.new i);by_cases f:(r,e)∈m.map (·.1)
 ·obtain⟨⟨y,a⟩,o,T⟩:=aK.mp f;obtain rfl:y=(r,e):=T;rw[eE g_ G.nd o];exact .inl ⟨a,_,rfl,.inl (ax.of (n _ _ (G.ls _ o))),fun l p=>k l _ aa (n.free p) (n.trans (ac.new p))⟩
 ·rw[kS g_ f];have q:aM w (r,e)=[]:=kA fun y U z=>f (by rw[<-z];exact G.all y U);refine .inl ⟨v,[],rfl,.inr (bc.of aa),fun l p=>k l _ ?_ (n.free p) (n.trans (ac.new p))⟩;rw[q];exact aa
abbrev av:=List (Str×Option ag)
def g8(st:av)(r:Str):Option (Option ag):=(st.find? fun p=>decide (p.1=r)).map (·.2)
def iO(st:av)(r:Str)(d:Option ag):av:=if(st.any fun p=>decide (p.1=r))=true then st.map (fun p=>if p.1=r then(p.1,d)else p)else st++[(r,d)]
section
variable{K:Za}
theorem kM{st:av}{r:Str}:g8 st r=none↔r∉st.map (·.1):=by
 unfold g8;rw[Option.map_eq_none_iff,List.find?_eq_none];constructor
 ·intro h e;obtain⟨p,a,e⟩:=aK.mp e;exact h p a (zzr1 e)
 ·intro h p a e;exact h (aK.mpr ⟨p,a,of_decide_eq_true e⟩)
theorem ud{st:av}{r:Str}{d:Option ag}(h:r∉st.map (·.1)):iO st r d=st++[(r,d)]:=by
 unfold iO;rw[if_neg];intro e;obtain⟨p,a,e⟩:=List.any_eq_true.mp e;exact h (aK.mpr ⟨p,a,of_decide_eq_true e⟩)
inductive bJ(ds:List ag):av->av->Prop
 |refl (st:av):bJ ds st st
 |step {st st':av}{d:ag}(h:bJ ds st st') (hd:d.sg=stillSg) (ha:d.a∈st'.map (·.1)) (hb:d.b∈aM ds (d.a,d.sg)) (hn:d.b∉st'.map (·.1)):bJ ds st (st'++[(d.b,some d)])
theorem bJ.trans{ds:List ag}{a b c:av}(x:bJ ds a b)(y:bJ ds b c):bJ ds a c:=by
 induction y with
 |refl=>exact x
 |step _ e f g h i=>exact .step i e f g h
theorem bJ.keys{e:List ag}{a b:av}(x:bJ e a b):∀r∈a.map (·.1),r∈b.map (·.1):=by
 induction x with
 |refl=>exact fun r h=>h
 |step _ _ _ _ _ f=>exact fun r h=>by rw[ar];exact cJ _ (f r h)
theorem bJ.nodup{f:List ag}{a b:av}(x:bJ f a b)(h:(a.map (·.1)).Nodup):(b.map (·.1)).Nodup:=by
 induction x with
 |refl=>exact h
 |@step g d _ l m n i j =>
  rw[ar,cG];refine⟨j,by simp,fun x hx y k z=>?_⟩;have e:y=d.b:=by simpa using k
  exact i (by rw[<-e,<-z];exact hx)
end
theorem bJ.rooms{f:List ag}{rooms:Zb}{a b:av}(x:bJ f a b)(h:∀r∈a.map (·.1),r∈rooms)(k:∀d∈f,d.b∈rooms)(l:∀{w i g},g∈aM f (w,i)->(⟨w,i,g⟩:ag)∈f):∀r∈b.map (·.1),r∈rooms:=by
 induction x with
 |refl=>exact h
 |@step m d _ _ _ n _ o =>
  intro r j;rw[ar]at j;rcases bg.mp j with z|z
  ·exact o r z
  ·have e:r=d.b:=by simpa using z
   rw[e];exact k _ (l n)
structure Wt(ds:List ag)(st st':av)(wait:Zb):Prop where
 on:bJ ds st st'
 there:∀r∈wait,r∈st'.map (·.1)
 done:∀r∈st'.map (·.1),r∈wait∨∀g∈aM ds (r,stillSg),g∈st'.map (·.1)

def gH(ds:List ag)(sg:Zb)(r:Str)(gs:Zb)(acc:av):av:=gs.foldl (fun acc g=>iO acc g (some ⟨r,sg,g⟩)) acc
def cQ(rooms:Zb)(ds:List ag)(sg:Zb)(acc:av)(r:Str):av :=
 if sg=aF then(if r∈rooms.filter (cX ds)then iO acc r (some ⟨r,aF,r⟩)else acc)else gH ds sg r (aM ds (r,sg)) acc
def dQ(rooms:Zb)(ds:List ag)(sg:Zb)(keys:Zb):av:=keys.foldl (cQ rooms ds sg) []
theorem rp{st:av}{r:Str}{d:Option ag}:(iO st r d).map (·.1)=if r∈st.map (·.1)then st.map (·.1)else st.map (·.1)++[r]:=by
 by_cases z:r∈st.map (·.1)
 ·rw[if_pos z];unfold iO;have:(st.any fun p=>decide (p.1=r))=true:=by
   obtain⟨p,a,e⟩:=aK.mp z;exact List.any_eq_true.mpr ⟨p,a,zzr1 e⟩
  rw[if_pos this,nV];apply qC;intro p _;show(if p.1=r then(p.1,d)else p).1=p.1
  by_cases y:p.1=r
  ·rw[if_pos y]
  ·rw[if_neg y]
 ·rw[if_neg z,ud z,ar];rfl
structure sM(rooms:Zb)(st:av):Prop where
 nd:(st.map (·.1)).Nodup
 inr:∀r∈st.map (·.1),r∈rooms
theorem sM.put{rooms:Zb}{st:av}{r:Str}{d:Option ag}(h:sM rooms st)(a:r∈rooms):sM rooms (iO st r d):=by
 refine⟨?_,?_⟩<;>rw[rp]<;>by_cases z:r∈st.map (·.1)
 ·rw[if_pos z];exact h.nd
 ·rw[if_neg z,cG];refine⟨h.nd,by simp,fun x hx y f e=>z ?_⟩;have:y=r:=by simpa using f
  rw[<-this,<-e];exact hx
 ·rw[if_pos z];exact h.inr
 ·rw[if_neg z];intro x hx;rcases bg.mp hx with y|y
  ·exact h.inr x y
  ·have:x=r:=by simpa using y
   rw[this];exact a
theorem sM.len{rooms:Zb}{st:av}(h:sM rooms st):st.length<=rooms.length:=by simpa using fD h.nd h.inr
theorem sM.goals{rooms:Zb}{ds:List ag}{sg:Zb}{r:Str}:∀{gs:Zb}{a:av},sM rooms a->(∀g∈gs,g∈rooms)->sM rooms (gH ds sg r gs a)
 |[],_,h,_=>h
 |g::gs,a,h,e=>sM.goals (ds:=ds) (gs:=gs) (h.put (e g dP)) fun x hx=>e x (eQ _ hx)
theorem sM.room{rooms:Zb}{e:List ag}{f:Zb}{r:Str}{a:av}(h:sM rooms a)(i:∀d∈e,d.b∈rooms):sM rooms (cQ rooms e f a r):=by
 unfold cQ;by_cases z:f=aF
 ·rw[if_pos z];by_cases y:r∈rooms.filter (cX e)
  ·rw[if_pos y];exact h.put (bA.mp y).1
  ·rw[if_neg y];exact h
 ·rw[if_neg z];exact h.goals fun g j=>i _ (bw.mp j)
theorem sM.by_{rooms:Zb}{e:List ag}{g:Zb}(f:∀d∈e,d.b∈rooms):∀(keys:Zb) {a:av},sM rooms a->sM rooms (keys.foldl (cQ rooms e g) a)
 |[],_,h=>h
 |r::keys,a,h=>sM.by_ f keys (h.room f)
theorem kb{rooms:Zb}{a:List ag}{e:Zb}(f:∀d∈a,d.b∈rooms)(keys:Zb):sM rooms (dQ rooms a e keys):=sM.by_ f keys ⟨jB,by simp⟩
theorem vp{rooms:Zb}{ds:List ag}{sg:Zb}{keys:Zb}{i:Nat}{r:Str}(h:keys[i]?=some r):dQ rooms ds sg (keys.take (i+1))=cQ rooms ds sg (dQ rooms ds sg (keys.take i)) r:=by
 unfold dQ;rw[List.take_add_one,h,nU];rfl


theorem EM:aF≠stillSg:=by decide +kernel
def bV(rooms:Zb):Str:=rooms.headD ""
theorem aW.first{a e rooms:Zb}{f:List ag}(m:aW a e rooms f):rooms[0]?=some (bV rooms)/\bV rooms∈rooms:=by
 have:=m.rooms0;cases rooms with
 |nil=>exact absurd rfl this
 |cons r l=>exact⟨rfl,dP⟩
theorem aW.take1{a e rooms:Zb}{f:List ag}(m:aW a e rooms f):rooms.take 1=[bV rooms]:=by
 have:=m.rooms0;cases rooms with
 |nil=>exact absurd rfl this
 |cons r l=>rfl
def Cb(ds:List ag):Str->List ag->Bool
 |_,[]=>true
 |r,d::w=>decide (d.a=r) && ((if d.sg=aF then decide (d.b=r) && decide (r∉dj ds)else decide (d∈ds)) && Cb ds d.b w)
def az(w:List ag):List (List Str):=(w.filter fun d=>!decide (d.sg=stillSg)).map (·.sg)
theorem cC(w v:List ag):az (w++v)=az w++az v:=by
 unfold az;rw[lS,ar]
def ke(ds:List ag)(d:ag):Prop:=(d.sg=aF->d.b=d.a/\d.a∉dj ds)/\(d.sg≠aF->d∈ds)
inductive lK(ds:List ag)(r0:Str):List ag->Str->Prop
 |nil:lK ds r0 [] r0
 |snoc {w:List ag}{d:ag}(h:lK ds r0 w d.a) (ok:ke ds d):lK ds r0 (w++[d]) d.b
theorem lK.go{ds:List ag}{e:Str}{w:List ag}{r:Str}(h:lK ds e w r):∀v,Cb ds e (w++v)=Cb ds r v:=by
 induction h with
 |nil=>intro v;rfl
 |@snoc w d h ok f =>
  intro v;rw[dw,f];show(decide (d.a=d.a) && ((if d.sg=aF then decide (d.b=d.a) && decide (d.a∉dj ds)else decide (d∈ds)) && Cb ds d.b v))=Cb ds d.b v
  rw[zzr1 rfl];by_cases z:d.sg=aF
  ·rw[if_pos z,zzr1 (ok.1 z).1,zzr1 (ok.1 z).2];rfl
  ·rw[if_neg z,zzr1 (ok.2 z)];rfl
theorem lK.ok{a:List ag}{e:Str}{w:List ag}{r:Str}(h:lK a e w r):Cb a e w=true:=by
 have:=h.go [];rw[cP]at this;rw[this];rfl
theorem Cz{st:av}{r:Str}{v:Option ag}(h:g8 st r=some v):(r,v)∈st:=by
 unfold g8 at h;obtain⟨p,a,rfl⟩:=Option.map_eq_some_iff.mp h;have f:=List.find?_some a;have g:=List.mem_of_find?_eq_some a;have e:p.1=r:=of_decide_eq_true f;rw[<-e];exact g
theorem ue{st:av}{r:Str}(h:r∈st.map (·.1)):∃v,g8 st r=some v:=by
 cases q:g8 st r with
 |none=>exact absurd h (kM.mp q)
 |some v=>exact⟨v,rfl⟩
theorem CA{st:av}{x:av}{r:Str}(h:r∈st.map (·.1)):g8 (st++x) r=g8 st r:=by
 obtain⟨v,a⟩:=ue h;rw[a];unfold g8 at a ⊢;obtain⟨p,e,rfl⟩:=Option.map_eq_some_iff.mp a;rw[List.find?_append,e];rfl
theorem wS{st:av}{r:Str}{v:Option ag}(h:r∉st.map (·.1)):g8 (st++[(r,v)]) r=some v:=by
 have a:=kM.mpr h;unfold g8 at a ⊢;rw[Option.map_eq_none_iff]at a;rw[List.find?_append,a];show((([(r,v)]:av).find? fun p=>decide (p.1=r)).map (·.2))=some v;rw[gR,show decide ((r,v).1=r)=true from zzr1 rfl];rfl
theorem bJ.at_{e:List ag}{a b:av}(x:bJ e a b){r:Str}(h:r∈a.map (·.1)):g8 b r=g8 a r:=by
 induction x with
 |refl=>rfl
 |step y _ _ _ _ f=>rw[CA (y.keys r h),f]
theorem um{st:av}{r:Str}{d:Option ag}{p:Str×Option ag}(h:p∈iO st r d):p∈st∨p=(r,d):=by
 unfold iO at h;split at h
 ·obtain⟨q,a,e⟩:=aK.mp h;by_cases z:q.1=r
  ·rw[if_pos z]at e;rw[<-e,z];exact .inr rfl
  ·rw[if_neg z]at e;rw[<-e];exact .inl a
 ·rcases bg.mp h with z|z
  ·exact .inl z
  ·exact .inr (by simpa using z)
theorem kr{st:av}{r:Str}{d:Option ag}{x:Str}:x∈(iO st r d).map (·.1)↔x∈st.map (·.1)∨x=r:=by
 rw[rp];by_cases z:r∈st.map (·.1)
 ·rw[if_pos z];exact⟨.inl,fun h=>h.elim id fun e=>by rw[e];exact z⟩
 ·rw[if_neg z,bg];simp
def rM(rooms:Zb)(ds:List ag)(sg:Zb)(k:Str):List Str:=if sg=aF then(if k∈rooms.filter (cX ds)then[k]else[])else aM ds (k,sg)
def DS(ds:List ag)(sg:Zb)(ks:Zb)(p:Str×Option ag):Prop:=∃d,p.2=some d/\d.b=p.1/\d.sg=sg/\d.a∈ks/\ke ds d
theorem nI{ds:List ag}{a:Zb}{r:Str}{P:Str×Option ag->Prop}:∀{gs:Zb}{acc:av},(∀p∈acc,P p)->(∀g∈gs,P (g,some ⟨r,a,g⟩))->∀p∈gH ds a r gs acc,P p
 |[],_,h,_=>h
 |g::gs,acc,h,e=>nI (ds:=ds) (gs:=gs) (acc:=iO acc g (some ⟨r,a,g⟩)) (fun p f=>by
   rcases um f with z|z
   ·exact h p z
   ·rw[z];exact e g dP) fun x hx=>e x (eQ _ hx)
theorem lI{ds:List ag}{e:Zb}{r x:Str}:∀{gs:Zb}{a:av},x∈(gH ds e r gs a).map (·.1)↔x∈a.map (·.1)∨x∈gs
 |[],a=>by show x∈a.map (·.1)↔_;simp
 |g::gs,a=>by
  show x∈(gH ds e r gs (iO a g (some ⟨r,e,g⟩))).map (·.1)↔_;rw[lI (ds:=ds) (gs:=gs),kr,du];exact⟨fun h=>by rcases h with(h|h)|h;exact .inl h;exact .inr (.inl h);exact .inr (.inr h),fun h=>by rcases h with h|h|h;exact .inl (.inl h);exact .inl (.inr h);exact .inr h⟩
theorem vz{rooms:Zb}{e:List ag}{f:Zb}{a:av}{k x:Str}:x∈(cQ rooms e f a k).map (·.1)↔x∈a.map (·.1)∨x∈rM rooms e f k:=by
 unfold cQ rM;by_cases z:f=aF
 ·rw[if_pos z,if_pos z];by_cases y:k∈rooms.filter (cX e)
  ·rw[if_pos y,if_pos y,kr];simp
  ·rw[if_neg y,if_neg y];simp
 ·rw[if_neg z,if_neg z,lI]
theorem yF{rooms:Zb}{f:List ag}{sg:Zb}{a:av}{k:Str}{i:Zb}(j:k∈i)(h:∀p∈a,DS f sg i p):∀p∈cQ rooms f sg a k,DS f sg i p:=by
 unfold cQ;by_cases z:sg=aF
 ·rw[if_pos z];by_cases y:k∈rooms.filter (cX f)
  ·rw[if_pos y];intro p l;rcases um l with x|x
   ·exact h p x
   ·rw[x];have q:=(bA.mp y).2;rw[jG]at q;exact⟨⟨k,aF,k⟩,rfl,rfl,z.symm,j,fun _=>⟨rfl,of_decide_eq_true q⟩,fun n=>absurd rfl n⟩
  ·rw[if_neg y];exact h
 ·rw[if_neg z];exact nI h fun g m=>⟨⟨k,sg,g⟩,rfl,rfl,rfl,j,fun e=>absurd e z,fun _=>bw.mp m⟩
theorem pD{rooms:Zb}{e:List ag}{f:Zb}{x:Str}:∀{ks:Zb}{a:av},x∈(ks.foldl (cQ rooms e f) a).map (·.1)↔x∈a.map (·.1)∨∃k∈ks,x∈rM rooms e f k
 |[],a=>by show x∈a.map (·.1)↔_;simp
 |k::ks,a=>by
  show x∈(ks.foldl (cQ rooms e f) (cQ rooms e f a k)).map (·.1)↔_;rw[pD (ks:=ks),vz];constructor
  ·rintro((h|h)|⟨j,hj,h⟩)
   ·exact .inl h
   ·exact .inr ⟨k,dP,h⟩
   ·exact .inr ⟨j,eQ _ hj,h⟩
  ·rintro(h|⟨j,hj,h⟩)
   ·exact .inl (.inl h)
   ·rcases du.mp hj with rfl|hj
    ·exact .inl (.inr h)
    ·exact .inr ⟨j,hj,h⟩
theorem uC{rooms:Zb}{e:List ag}{f:Zb}{K:Zb}:∀{ks:Zb}{a:av},(∀k∈ks,k∈K)->(∀p∈a,DS e f K p)->∀p∈ks.foldl (cQ rooms e f) a,DS e f K p
 |[],_,_,h=>h
 |k::ks,a,g,h=>uC (ks:=ks) (fun x hx=>g x (eQ _ hx)) (yF (g k dP) h)
theorem m_{rooms:Zb}{a:List ag}{e f:Zb}{x:Str}:x∈(dQ rooms a e f).map (·.1)↔∃k∈f,x∈rM rooms a e k:=by
 unfold dQ;rw[pD];simp
theorem yC{rooms:Zb}{ds:List ag}{a e:Zb}:∀p∈dQ rooms ds a e,DS ds a e p:=uC (fun _ h=>h) fun _ h=>nomatch h
def kF(ds:List ag)(a b:av):Prop:=bJ ds a b/\∀r∈b.map (·.1),∀g∈aM ds (r,stillSg),g∈b.map (·.1)
inductive kH(rooms:Zb)(ds:List ag):List (List Str)->List av->av->Prop
 |nil {st:av}(h:kF ds [(bV rooms,none)] st):kH rooms ds [] [] st
 |snoc {story:List (List Str)}{fz:List av}{st:av}{sg:Zb}{st':av}(a:kH rooms ds story fz st) (h:kF ds (dQ rooms ds sg (st.map (·.1))) st'):kH rooms ds (story++[sg]) (st::fz) st'
theorem kF.from_{k:List ag}{a b:av}(h:kF k a b){r:Str}:r∈b.map (·.1)↔fT k (a.map (·.1)) r:=by
 obtain⟨on,l⟩:=h;constructor
 ·clear l;intro m
  induction on generalizing r with
  |refl=>exact⟨r,m,.inl rfl⟩
  |@step n d y o p s t j =>
   rw[ar]at m;rcases bg.mp m with z|z
   ·exact j z
   ·have e:r=d.b:=by simpa using z
    have f:(⟨d.a,stillSg,d.b⟩:ag)∈k:=by
     have:=bw.mp s;rw[o]at this;exact this
    obtain⟨g,i,q⟩:=j p;rw[e];rcases q with q|q
    ·exact⟨g,i,.inr (.one (by rw[<-q];exact f))⟩
    ·exact⟨g,i,.inr (.step q f)⟩
 ·rintro⟨g,i,rfl|q⟩
  ·exact on.keys _ i
  ·induction q with
   |one e=>exact l g (on.keys _ i) _ (bw.mpr e)
   |step _ e j=>exact l _ j _ (bw.mpr e)
theorem Bx{a:List ag}{r:Str}(h:r∉dj a){g:Str}:(⟨r,stillSg,g⟩:ag)∉a:=fun z=>h (aK.mpr ⟨_,bA.mpr ⟨z,by show(!decide (("still":Str)="ask"))=true;decide +kernel⟩,rfl⟩)
theorem zo{ds:List ag}{a:Zb}(h:∀g∈a,g∉dj ds){r:Str}:fT ds a r↔r∈a:=by
 constructor
 ·rintro⟨g,f,rfl|q⟩
  ·exact f
  ·exfalso;have:∀{x},Reach ds g x->∃y,(⟨g,stillSg,y⟩:ag)∈ds:=by
    intro x q
    induction q with
    |one e=>exact⟨_,e⟩
    |step _ _ i=>exact i
   obtain⟨y,j⟩:=this q;exact Bx (h g f) j
 ·exact fun k=>⟨r,k,.inl rfl⟩
section
variable{J0 J1 rooms:Zb}{ds:List ag}
theorem kH.face(m:aW J0 J1 rooms ds){f:List (List Str)}{t:List av}{st:av}(h:kH rooms ds f t st):∀r,r∈st.map (·.1)↔r∈faceOf rooms ds f:=by
 have l:∀d∈ds,d.b∈rooms:=fun d l=>(m.good d l).b
 induction h with
 |@nil st h =>
  intro r;rw[h.from_];show _↔r∈closF rooms ds (rooms.take 1);rw[h9,m.take1];have v:∀g∈[bV rooms],g∈rooms:=fun g i=>by
   rw[dY.mp i];exact m.first.2
  exact⟨fun q=>⟨q.in_ v l,q⟩,fun q=>q.2⟩
 |@snoc f t st n w a h p =>
  intro r;rw[h.from_,dv];have s:∀k∈st.map (·.1),k∈rooms:=fun k j=>(kZ (by have:=m.rooms26;omega) f).1 k ((p k).mp j);unfold behF;by_cases z:n=aF
  ·rw[if_pos z,bA,decide_eq_true_iff,<-p r];have o:∀g,g∈(dQ rooms ds n (st.map (·.1))).map (·.1)↔g∈st.map (·.1)/\g∉dj ds:=by
    intro g;rw[m_];constructor
    ·rintro⟨k,j,i⟩;unfold rM at i;rw[if_pos z]at i;by_cases y:k∈rooms.filter (cX ds)
     ·rw[if_pos y]at i;have e:g=k:=by simpa using i
      have q:=(bA.mp y).2;rw[jG]at q;rw[e];exact⟨j,of_decide_eq_true q⟩
     ·rw[if_neg y]at i;cases i
    ·rintro⟨j,A⟩;refine⟨g,j,?_⟩;unfold rM;rw[if_pos z,if_pos (bA.mpr ⟨s g j,by rw[jG];exact zzr1 A⟩)];exact dP
   rw[zo fun g i=>((o g).mp i).2,o]
  ·rw[if_neg z,h9];have o:∀g,g∈(dQ rooms ds n (st.map (·.1))).map (·.1)↔g∈cH ds n (faceOf rooms ds f):=by
    intro g;rw[m_,eD];unfold rM;simp only[if_neg z];exact⟨fun⟨k,j,i⟩=>⟨k,(p k).mp j,bw.mp i⟩,fun⟨k,j,i⟩=>⟨k,(p k).mpr j,bw.mpr i⟩⟩
   constructor
   ·rintro⟨g,i,q⟩;have u:fT ds (cH ds n (faceOf rooms ds f)) r:=⟨g,(o g).mp i,q⟩;exact⟨u.in_ (fun x hx=>by obtain⟨y,_,B⟩:=eD.mp hx;exact l _ B) l,u⟩
   ·rintro⟨_,g,i,q⟩;exact⟨g,(o g).mpr i,q⟩
theorem kH.kin(m:aW J0 J1 rooms ds){e:List (List Str)}{g:List av}{st:av}(h:kH rooms ds e g st):sM rooms st:=by
 have f:∀d∈ds,d.b∈rooms:=fun d f=>(m.good d f).b;refine⟨?_,fun r i=>(kZ (by have:=m.rooms26;omega) e).1 r ((h.face m r).mp i)⟩;cases h with
 |nil h=>exact h.1.nodup (by simp)
 |snoc a h=>exact h.1.nodup (kb f _).nd
end
inductive sN:List av->av->Str->List ag->Prop
 |stop {fz:List av}{st:av}{r:Str}(h:g8 st r=some none):sN fz st r []
 |still {fz:List av}{st:av}{r:Str}{d:ag}{ws:List ag}(h:g8 st r=some (some d)) (e:d.sg=stillSg) (b:sN fz st d.a ws):sN fz st r (d::ws)
 |pop {fz:List av}{st st':av}{r:Str}{d:ag}{ws:List ag}(h:g8 st r=some (some d)) (e:d.sg≠stillSg) (b:sN fz st' d.a ws):sN (st'::fz) st r (d::ws)
section
variable{J0 J1 rooms:Zb}{ds:List ag}
theorem sC{q:List av}{a st:av}{f:List (List Str)}{N:Nat}(h:bJ ds a st)(base:∀r∈a.map (·.1),∃w,lK ds (bV rooms) w r/\az w=f/\w.length<=N+a.length/\sN q st r w.reverse):
  ∀{b:av},bJ ds a b->bJ ds b st->∀r∈b.map (·.1),∃w,lK ds (bV rooms) w r/\az w=f/\w.length<=N+b.length/\sN q st r w.reverse:=by
 intro b j
 induction j with
 |refl=>exact fun _=>base
 |@step b d y k s j t u =>
  intro on r v;have g:bJ ds b st:=(bJ.step (.refl b) k s j t).trans on;rw[ar]at v;rcases bg.mp v with z|z
  ·obtain⟨w,l,m,x,n⟩:=u g r z;exact⟨w,l,m,by rw[aD];omega,n⟩
  ·have e:r=d.b:=by simpa using z
   obtain⟨w,l,m,x,n⟩:=u g d.a s;have i:d.b∈(b++[(d.b,some d)]).map (·.1):=by rw[ar];exact dC _ (by simp)
   have o:g8 st d.b=some (some d):=by rw[on.at_ i,wS t]
   have p:d∈ds:=bw.mp j;have A:d.sg≠aF:=by rw[k];exact fun z=>EM z.symm
   rw[e];refine⟨w++[d],.snoc l ⟨fun z=>absurd z A,fun _=>p⟩,?_,?_,?_⟩
   ·rw[cC,m];have:az [d]=[]:=by unfold az;rw[List.filter_cons_of_neg (by rw[k];simp)];rfl
    rw[this,cP]
   ·rw[aD,aD];show w.length+1<=N+(b.length+1);omega
   ·rw[List.reverse_append];exact .still o k n
theorem kH.back(m:aW J0 J1 rooms ds){f:List (List Str)}{l:List av}{st:av}(h:kH rooms ds f l st):(∀g∈f,g≠stillSg)->∀r∈st.map (·.1),∃w,lK ds (bV rooms) w r/\az w=f/\w.length<=f.length * 151+st.length/\sN l st r w.reverse:=by
 induction h with
 |@nil st h =>
  intro _;refine sC (N:=0) h.1 (fun r i=>?_) h.1 (.refl _);have e:r=bV rooms:=by simpa using i
  refine⟨[],by rw[e];exact .nil,rfl,c9 _,.stop ?_⟩;rw[h.1.at_ i,e];exact wS (st:=[]) (by simp)
 |@snoc f l st g u a h x =>
  intro q;have n:∀s∈f,s≠stillSg:=fun s y=>q s (cJ _ y);have j:g≠stillSg:=q g (dC _ (by simp));have I:=(a.kin m).len;have z:=m.rooms26;refine sC (N:=(f++[g]).length * 151) h.1 (fun r i=>?_) h.1 (.refl _);obtain⟨v,t⟩:=ue i;obtain⟨d,A,B,o,C,D⟩:=yC (r,v) (Cz t);have p:v=some d:=A;have k:d.b=r:=B;subst p;obtain⟨w,E,G,J,H⟩:=x n d.a C;rw[<-k];refine⟨w++[d],.snoc E D,?_,?_,?_⟩
  ·rw[cC,G];have:az [d]=[g]:=by unfold az;rw[List.filter_cons_of_pos (by rw[o];simp[j])];show[d.sg]=_;rw[o]
   rw[this]
  ·rw[aD,aD];show w.length+1<=(f.length+1) * 151+_;omega
  ·rw[List.reverse_append];exact .pop (by rw[k,h.1.at_ i];exact t) (by rw[o];exact j) H
end
def B3(K:Za)(H:Hp)(v:V):Option ag->Prop
 |none=>v=.non
 |some d=>∃t s,v=.ref t/\H t=some (.tup [.str d.a,.ref s,.str d.b])/\bH K H s (d.sg.map V.str)
theorem B3.kt{K:Za}{H a:Hp}{v:V}{o:Option ag}(k:iI H a)(h:B3 K H v o):B3 K a v o:=by
 cases o with
 |none=>exact h
 |some d =>
  obtain⟨t,s,e,f,g⟩:=h;exact⟨t,s,e,k _ _ f,bH.kt k g⟩
def KvAt(K:Za)(H:Hp)(kv:ca×V)(p:Str×Option ag):Prop:=kv.1=.inr p.1/\B3 K H kv.2 p.2
abbrev fK(K:Za)(H:Hp)(kvs:List (ca×V))(st:av):Prop:=Paired (KvAt K H) kvs st
theorem fK.kt{K:Za}{H e:Hp}{a:List (ca×V)}{st:av}(k:iI H e)(h:fK K H a st):fK K e a st:=Paired.mapP h fun _ _ r=>⟨r.1,r.2.kt k⟩
theorem fK.look{K:Za}{H:Hp}{r:Str}:∀{e:List (ca×V)}{st:av},fK K H e st->(cz e (.inr r:ca)=none/\g8 st r=none)∨∃v o,cz e (.inr r:ca)=some v/\g8 st r=some o/\B3 K H v o
 |_,_,.nil=>.inl ⟨rfl,rfl⟩
 |_,_,.cons (a:=f) (b:=p) (l₁:=e) (l₂:=st) h t=>by
  obtain⟨g,i⟩:=h;by_cases c:p.1=r
  ·refine .inr ⟨f.2,p.2,?_,?_,i⟩
   ·unfold cz;rw[gR,g,zzr1 (by rw[c])];rfl
   ·unfold g8;rw[gR,zzr1 c];rfl
  ·have j:cz (f::e) (.inr r:ca)=cz e (.inr r:ca):=by
    unfold cz;rw[gR,g,zzr0 (fun z=>c (by injection z))]
   have k:g8 (p::st) r=g8 st r:=by
    unfold g8;rw[gR,zzr0 c]
   rw[j,k];exact fK.look t
theorem fK.keys{K:Za}{H:Hp}:∀{a:List (ca×V)}{st:av},fK K H a st->(a.map fun e=>kV e.1)=(st.map (·.1)).map V.str
 |_,_,.nil=>rfl
 |_,_,.cons h t=>by
  rw[bx,bx,bx,fK.keys t,h.1];rfl
theorem fK.put{K:Za}{H:Hp}{e:List (ca×V)}{st:av}{r:Str}{v:V}{o:Option ag}(h:fK K H e st)(g:B3 K H v o):fK K H (c7 e (.inr r:ca) v) (iO st r o):=by
 have i:(e.any fun j=>decide (j.1=(.inr r:ca)))=st.any fun p=>decide (p.1=r):=by
  induction h with
  |nil=>rfl
  |cons a t f =>
   rw[oh,oh,f,a.1];congr 1;exact decide_eq_decide.2 ⟨fun z=>by injection z,fun z=>by rw[z]⟩
 unfold c7 iO;rw[i];split
 ·next k =>
  clear i k
  induction h with
  |nil=>exact .nil
  |@cons j p e st a t f =>
   rw[bx,bx];refine .cons ?_ f;by_cases c:p.1=r
   ·rw[if_pos (by rw[a.1,c]),if_pos c];exact⟨a.1,g⟩
   ·rw[if_neg (by rw[a.1];intro z;exact c (by injection z)),if_neg c];exact a
 ·exact eX h ⟨rfl,g⟩
inductive kR(K:Za)(C:Addr)(vs:List V)(H:Hp)(Q:VK)(E:XK):Prop
 |mk (H0:Hp) (x d:Addr) (kvs:List (ca×V)) (st:av) (J0 J1 rooms:Zb) (ds:List ag):(vs=[.ref x,.ref d])->(bB C H0 x J0 J1 rooms ds)->(H0 d=none)->(ac H0 H)->(H d=some (.dK kvs))->(fK K H kvs st)->(sM rooms st) ->
  (∀(kvs':List (ca×V)) (st':av) (H':Hp),H' d=some (.dK kvs')->fK K H' kvs' st'->kF ds st st'->cD d H H'->Q .non H')->kR K C vs H Q E
theorem Br{K:Za}{C a:Addr}(ha:∀H,bc K H a (stillSg.map V.str)){vs:List V}{H:Hp}{Q:VK}{E:XK}(h:kR K C vs H Q E):m5 K C (f_ K C) a (bQ Q) (start nS vs) H:=by
 obtain⟨H0,x,d,a0,st,J0,J1,rooms,A,rfl,MA,b9,S0,hd,a4,kin,k⟩:=h;have z3:=MA.ok.rooms26;have a5:=MA.ok.good;have gd:∀q∈A,q.b∈rooms:=fun q hq=>(a5 q hq).b;have rm:∀{j},bJ A st j->j.length<=rooms.length:=fun{j} o=>by
  have:=fD (o.nodup kin.nd) (o.rooms kin.inr gd fun hg=>bw.mp hg);simpa using this
 refine⟨_,rfl,.inr ⟨d,a0,rfl,.inl hd,fun s B=>?_⟩⟩;rw[a4.keys];have S1:ac H (upd H s (.lst ((st.map (·.1)).map V.str))):=ac.new B;have a6:upd H s (.lst ((st.map (·.1)).map V.str)) s=some (.lst ((st.map (·.1)).map V.str)):=aa;have aq:s≠d:=(ae hd B).symm;have cL:H0 s=none:=S0.free B;generalize upd H s (.lst ((st.map (·.1)).map V.str))=H1 at S1 a6 ⊢;refine⟨fun n σ G=>∃(m:List (ca×V)) (j:av) (f:Zb) (x3 Y:Option V),σ=[some (.ref x),some (.ref d),some (.ref s),x3,Y]/\G d=some (.dK m)/\fK K G m j/\G s=some (.lst (f.map V.str))/\Wt A st j f/\n=f.length+2 * (rooms.length-j.length)/\n<=300/\∀b o,H b=some o->b≠d->G b=some o,
  ⟨_,a0,st,st.map (·.1),_,_,rfl,S1 _ _ hd,a4.kt (ac.kt S1),a6,⟨.refl _,fun r h=>h,fun r h=>.inl h⟩,rfl,by rw[ak];have:=rm (.refl st);omega,fun b o e _=>S1 _ _ e⟩,?_⟩
 rintro n σ G ⟨D,L,f,x3,Y,rfl,a7,al,M,W,rfl,cx,a8⟩;refine⟨_,rfl,.inl ⟨s,_,rfl,.inl (ax.of M),_,_,rfl,rfl,_,rfl,?_⟩⟩;rw[ak];rcases List.eq_nil_or_concat f with e0|⟨u,room,e1⟩
 ·rw[e0,zzr0 (by show ¬(0:Int)<(([]:Zb).length:Nat);decide)];refine aU (k D L G a7 al ⟨W.on,fun r hr=>?_⟩ fun b o e nb=>a8 b o e nb);rcases W.done r hr with z|z
  ·rw[e0]at z;cases z
  ·exact z
 rw[List.concat_eq_append]at e1;subst e1;rw[zzr1 (by show(0:Int)<((u++[room]).length:Nat);rw[aD];show(0:Int)<((u.length+1:Nat));omega)];refine bN ?_;have l1:=rm W.on;refine⟨fun σ' I=>∃(m:List (ca×V)) (j:av) (f:Zb) (x3 Y:Option V),σ'=[some (.ref x),some (.ref d),some (.ref s),x3,Y]/\I d=some (.dK m)/\fK K I m j/\I s=some (.lst (f.map V.str))/\Wt A st j f/\f.length+2 * (rooms.length-j.length)<(u++[room]).length+2 * (rooms.length-L.length)/\∀b o,H b=some o->b≠d->I b=some o,?_,?_⟩
 ·rintro σ' I ⟨m,j,f,x3,Y,rfl,b1,b2,b3,b4,b5,b6⟩;exact⟨_,b5,m,j,f,x3,Y,rfl,b1,b2,b3,b4,rfl,by omega,b6⟩
 refine⟨_,rfl,.inl ⟨rfl,_,ax.of M⟩,s,_,.str room,rfl,rfl,M,?_,?_⟩
 ·rw[ar,aD,l5 (by show _<=_+1-1;omega)];show[V.str room][_+1-1-_]?=_;rw[Nat.add_sub_cancel,qr];rfl
 have cc:((u++[room]).map V.str).dropLast=u.map V.str:=by
  rw[ar];exact uL
 rw[cc];have cd:iI G (upd G s (.lst (u.map V.str))):=cv M;have as:upd G s (.lst (u.map V.str)) d=some (.dK D):=by rw[ai aq.symm];exact a7
 have aC:upd G s (.lst (u.map V.str)) s=some (.lst (u.map V.str)):=aa;have aS:∀b o,H b=some o->b≠d->upd G s (.lst (u.map V.str)) b=some o:=fun b o e nb=>by rw[ai (ae e B)];exact a8 b o e nb
 have an:=al.kt cd;generalize upd G s (.lst (u.map V.str))=G2 at as aC aS an ⊢;have ce:ac H0 G2:=fun b o e=>aS _ _ (S0 _ _ e) (ae e b9);have M2:=MA.same ce;obtain⟨dm,fm,_,_,_,_,_,_,_,_,_,_,_,_,q1,_,q2,_⟩:=M2.at_;refine⟨_,rfl,x,dm,fm,rfl,q1,q2,_,rfl,x,a,room,stillSg,J0,J1,rooms,A,rfl,M2,ha _,fun gl G3 a9 bb S3=>⟨gl,rfl,⟨_,ax.of a9⟩,?_⟩⟩;have ch:gl≠d:=(ae as bb).symm;have ci:gl≠s:=(ae aC bb).symm;refine bG (xs:=(aM A (room,stillSg)).map V.str) (fun i σ' I=>∃(m:List (ca×V)) (j:av) (f:Zb) (Y:Option V),σ'=[some (.ref x),some (.ref d),some (.ref s),some (.str room),Y]/\I d=some (.dK m)/\fK K I m j/\I s=some (.lst (f.map V.str))/\bJ A st j/\room∈j.map (·.1)/\(∀r∈f,r∈j.map (·.1))/\(∀r∈j.map (·.1),r=room∨r∈f∨∀g∈aM A (r,stillSg),g∈j.map (·.1))/\(∀g∈(aM A (room,stillSg)).take i,g∈j.map (·.1))/\f.length+2 * (rooms.length-j.length)<(u++[room]).length+2 * (rooms.length-L.length)/\∀b o,G3 b=some o->b≠d->b≠s->I b=some o)
  ⟨D,L,u,_,rfl,S3 _ _ as,an.kt (ac.kt S3),S3 _ _ aC,W.on,W.there room (by simp),fun r h=>W.there r (by simp[h]),fun r h=>?_,by simp,by simp,fun _ _ e _ _=>e⟩ (fun i σ' I _ zq=>by obtain⟨_,_,_,_,_,_,_,_,_,_,_,_,_,_,ex⟩:=zq;exact ax.of (ex _ _ a9 ch ci)) ?_ ?_
 ·rcases W.done r h with z|z
  ·rcases bg.mp z with z|z
   ·exact .inr (.inl z)
   ·exact .inl (by simpa using z)
  ·exact .inr (.inr z)
 ·rintro i y σ' G4 hy ⟨l,p,w4,cl,rfl,J,t,N,on,ir,th,dn,tk,lt,O⟩;obtain⟨g,hg,rfl⟩:=bq hy;have bi:∀{T:av},g∈T.map (·.1)->(∀y∈p.map (·.1),y∈T.map (·.1))->∀y∈(aM A (room,stillSg)).take (i+1),y∈T.map (·.1):=fun{T} h1 h2 y hy=>by
   rw[take_snoc hg]at hy;rcases bg.mp hy with z|z
   ·exact h2 y (tk y z)
   ·rw[dY.1 z];exact h1
  have gi:g∈aM A (room,stillSg):=cV hg;refine⟨_,rfl,_,rfl,d,_,rfl,.inl ⟨l,.inr g,.inl J,rfl,rfl⟩,_,rfl,?_⟩;rcases t.look (r:=g)with⟨e1,e2⟩|⟨v,o,e1,e2,_⟩
  ·rw[e1];refine bN ?_;have ng:g∉p.map (·.1):=kM.1 e2;refine⟨_,rfl,_,rfl,(by show 3<=aj;decide),fun w cm=>?_⟩;have S5:ac G4 (upd G4 w (.tup [.str room,.ref a,.str g])):=ac.new cm;have t5:upd G4 w (.tup [.str room,.ref a,.str g]) w=some (.tup [.str room,.ref a,.str g]):=aa;generalize upd G4 w (.tup [.str room,.ref a,.str g])=G5 at S5 t5 ⊢;have bl:=S5 _ _ J;have co:=S5 _ _ N;have bn:bJ A st (p++[(g,some (⟨room,stillSg,g⟩:ag))]):=.step (d:=⟨room,stillSg,g⟩) on rfl ir gi ng;have l3:=rm bn;rw[aD]at l3;have l3:p.length+1<=rooms.length:=l3;have zk:l.length=p.length:=Paired.length t;refine⟨_,rfl,_,rfl,d,_,rfl,.inl ⟨l,.inr g,bl,rfl,by rw[j5];omega,rfl⟩,?_⟩;have cq:iI G5 (upd G5 d (.dK (c7 l (.inr g) (.ref w)))):=fun b xs q=>by rw[ai (fun z=>by rw[z,bl]at q;cases q)];exact q
   have ap:fK K (upd G5 d (.dK (c7 l (.inr g) (.ref w)))) (c7 l (.inr g) (.ref w)) (p++[(g,some (⟨room,stillSg,g⟩:ag))]):=by
    rw[<-ud ng];exact((t.kt (ac.kt S5)).put (o:=some (⟨room,stillSg,g⟩:ag)) ⟨w,a,rfl,t5,Af ha _⟩).kt cq
   have U:upd G5 d (.dK (c7 l (.inr g) (.ref w))) s=some (.lst (w4.map V.str)):=by rw[ai aq];exact co
   have b7:upd G5 d (.dK (c7 l (.inr g) (.ref w))) d=some (.dK (c7 l (.inr g) (.ref w))):=aa;have b8:∀b o,G5 b=some o->b≠d->upd G5 d (.dK (c7 l (.inr g) (.ref w))) b=some o:=fun b o q n=>by rw[ai n];exact q
   generalize upd G5 d (.dK (c7 l (.inr g) (.ref w)))=G6 at ap U b7 b8 ⊢;have k3:∀y∈p.map (·.1),y∈(p++[(g,some (⟨room,stillSg,g⟩:ag))]).map (·.1):=fun y h=>by rw[ar];exact cJ _ h
   have kg:g∈(p++[(g,some (⟨room,stillSg,g⟩:ag))]).map (·.1):=by rw[ar];exact dC _ (by simp)
   refine⟨_,rfl,.inl ⟨rfl,_,ax.of U⟩,_,rfl,s,_,_,rfl,rfl,U,by rw[ak];exact ay (by omega),?_⟩;have cs:iI G6 (upd G6 s (.lst (w4.map V.str++[.str g]))):=cv U;refine⟨_,_,w4++[g],_,rfl,by rw[ai aq.symm];exact b7,ap.kt cs,by rw[aa,ar];rfl,bn,k3 _ ir,fun r h=>?_,fun r h=>?_,bi kg k3,?_,fun b o q n1 n2=>?_⟩
   ·rcases bg.1 h with h|h
    ·exact k3 r (th r h)
    ·rw[dY.1 h];exact kg
   ·rw[ar]at h;rcases bg.1 h with h|h
    ·rcases dn r h with z|z|z
     ·exact .inl z
     ·exact .inr (.inl (cJ _ z))
     ·exact .inr (.inr fun y hy=>k3 y (z y hy))
    ·have:r=g:=by simpa using h
     rw[this];exact .inr (.inl (dC _ (by simp)))
   ·rw[aD,aD];have:([g]:Zb).length=1:=rfl;have:([(g,some (⟨room,stillSg,g⟩:ag))]:av).length=1:=rfl;omega
   ·rw[ai n2];exact b8 _ _ (S5 _ _ (O _ _ q n1 n2)) n1
  ·rw[e1];refine aU ?_;have ct:g∈p.map (·.1):=by
    cases Classical.em (g∈p.map (·.1))with
    |inl h=>exact h
    |inr h=>rw[kM.2 h]at e2;cases e2
   exact⟨l,p,w4,_,rfl,J,t,N,on,ir,th,dn,bi ct fun _ h=>h,lt,O⟩
 ·rintro σ' G4 ⟨l,p,w4,cl,rfl,J,t,N,on,ir,th,dn,tk,lt,O⟩;rw[ak,bd]at tk;refine⟨l,p,w4,_,_,rfl,J,t,N,⟨on,th,fun r h=>?_⟩,lt,fun b o e nb=>O _ _ (S3 _ _ (aS b o e nb)) nb (ae e B)⟩;rcases dn r h with z|z|z
  ·rw[z];exact .inr tk
  ·exact .inl z
  ·exact .inr z
theorem EQ{d:Addr}{o:Obj}{a:List (ca×V)}{g:TG}{k:TS}{D:pW}{σ:L2.St}{H:Hp}(Pv:Nat->L2.St->Hp->Prop)(n:Pv 0 σ H)(r:∀i σ H,i<=a.length->Pv i σ H->H d=some (.frz o (.dK a)))
  (s:∀i h σ H,a[i]?=some h->Pv i σ H->g (kV h.1) σ H fun σ2 j=>k { D with nx:=Pv (i+1),ct:=Pv (i+1),bk:=D.nx } σ2 j) (t:∀σ H,Pv a.length σ H->D.nx σ H) :
  ∃W:Nat->Nat->L2.St->Hp->Prop,(∃m,W 0 m σ H)/\∀i m σ H,W i m σ H ->
   ((Gn d o a).stop i H/\D.nx σ H)∨((Gn d o a).go i H/\∃N:L2.St->Hp->Prop,(∀σ' f,N σ' f->∃l,l<m/\W (i+1) l σ' f)/\∀x f,(Gn d o a).yld i H x f->g x σ f fun σ2 j=>k { D with nx:=N,ct:=N,bk:=D.nx } σ2 j):=by
 refine⟨fun i m σ H=>m=a.length-i/\i<=a.length/\Pv i σ H,⟨a.length,by simp,c9 _,n⟩,?_⟩;rintro i m σ H ⟨rfl,hi,p⟩;have q:=r i σ H hi p;by_cases lt:i<a.length
 ·refine .inr ⟨⟨q,lt⟩,Pv (i+1),fun σ' f u=>⟨a.length-(i+1),by omega,rfl,lt,u⟩,fun x f y=>?_⟩;obtain⟨rfl,h,v,rfl⟩:=y;exact s i h σ _ v p
 ·have e:i=a.length:=by omega
  subst e;exact .inl ⟨⟨q,aN _⟩,t σ H p⟩
inductive iP(K:Za)(C:Addr)(vs:List V)(H:Hp)(Q:VK)(E:XK):Prop
 |mk (H0:Hp) (x d su:Addr) (kvs:List (ca×V)) (st:av) (sg:Sg) (J0 J1 rooms:Zb) (ds:List ag):(vs=[.ref x,.ref d,.ref su])->(bB C H0 x J0 J1 rooms ds)->(H0 d=none)->(ac H0 H)->(H d=some (.dK kvs))->(fK K H kvs st)->(bH K H su (sg.map V.str)) ->
  (∀(o:Obj) (d':Addr) (kvs':List (ca×V)) (H':Hp),H' d=some (.frz o (.dK kvs))->H' d'=some (.dK kvs')->H d'=none->fK K H' kvs' (dQ rooms ds sg (st.map (·.1)))->cD d H H'->Q (.ref d') H')->iP K C vs H Q E
theorem wW{K:Za}{C J:Addr}(hh:∀H,bc K H J (aF.map V.str)){vs:List V}{H:Hp}{Q:VK}{E:XK}(h:iP K C vs H Q E):yd K J C (gC C) (f_ K C) (bQ Q) (start zM vs) H:=by
 obtain⟨H0,x,d,D,f,st,sg,J0,J1,rooms,ds,rfl,MA,a5,S0,hd,al,a6,k⟩:=h;have z3:=MA.ok.rooms26;have an:∀q∈ds,q.b∈rooms:=fun q hq=>(MA.ok.good q hq).b;refine fun e m=>?_;have S1:ac H (upd H e (.dK [])):=ac.new m;have d1:upd H e (.dK []) e=some (.dK []):=aa;have L:e≠d:=(ae hd m).symm;have b6:H0 e=none:=S0.free m;generalize upd H e (.dK [])=Y at S1 d1 ⊢;refine⟨_,rfl,d,f,rfl,.inl ⟨S1 _ _ hd,fun o=>?_⟩⟩;have a7:iI Y (upd Y d (.frz o (.dK f))):=fun b xs q=>by rw[ai (fun z=>by rw[z,S1 _ _ hd]at q;cases q)];exact q
 have d2:upd Y d (.frz o (.dK f)) d=some (.frz o (.dK f)):=aa;have ap:upd Y d (.frz o (.dK f)) e=some (.dK []):=by rw[ai L];exact d1
 have M:∀b u,H b=some u->b≠d->upd Y d (.frz o (.dK f)) b=some u:=fun b u q n=>by rw[ai n];exact S1 _ _ q
 generalize upd Y d (.frz o (.dK f))=H2 at a7 d2 ap M ⊢;have zk:f.length=(st.map (·.1)).length:=by rw[Paired.length al,ak]
 refine EQ (fun i σ G=>∃(a:List (ca×V)) (x4 x5:Option V),σ=[some (.ref x),some (.ref d),some (.ref D),some (.ref e),x4,x5]/\G e=some (.dK a)/\fK K G a (dQ rooms ds sg ((st.map (·.1)).take i))/\∀b u,H2 b=some u->b≠e->G b=some u)
  ⟨[],_,_,rfl,ap,.nil,fun _ _ q _=>q⟩ (fun i σ G _ zq=>by obtain⟨_,_,_,_,_,_,ex⟩:=zq;exact ex _ _ d2 L.symm) ?_ ?_
 ·rintro i kv σ G hi ⟨a,x4,x5,rfl,N,I,ex⟩;obtain⟨p,hp,a8,_⟩:=Paired.getL al hi;have hr:(st.map (·.1))[i]?=some p.1:=by rw[eG,hp];rfl
  have a9:kV kv.1=V.str p.1:=by rw[a8];rfl
  rw[a9];have es:=vp (rooms:=rooms) (ds:=ds) (sg:=sg) hr;have aq:∀b u,H b=some u->b≠d->G b=some u:=fun b u q n=>ex _ _ (M b u q n) (ae q m);have bb:ac H0 G:=fun b u q=>aq _ _ (S0 _ _ q) (ae q a5);have bi:iI H G:=fun b xs q=>aq b _ q fun z=>by rw[z,hd]at q;cases q
  have MG:=MA.same bb;have kin:sM rooms (dQ rooms ds sg ((st.map (·.1)).take i)):=kb an _;have as:a.length<=150:=by rw[Paired.length I];exact bp kin.len z3
  generalize dQ rooms ds sg ((st.map (·.1)).take i)=base at I kin es as;obtain⟨dm,fm,_,_,_,_,_,_,_,_,_,_,_,_,q1,qi,q2,_⟩:=MG.at_;have t:=bH.kt bi a6;refine⟨_,rfl,fx sg,fx aF,aA (bH.sq t),aA (hh G),by rw[aX];decide,by rw[aX];decide,_,rfl,?_⟩;rw[cU];by_cases cs:sg=aF
  ·rw[zzr1 cs];refine bN ?_;refine⟨_,rfl,x,dm,fm,rfl,q1,qi,_,rfl,x,p.1,J0,J1,rooms,ds,rfl,MG,_,rfl,?_⟩;by_cases cq:p.1∈rooms.filter (cX ds)
   ·rw[zzr1 cq];refine bN ⟨_,rfl,_,rfl,(by show 3<=aj;decide),fun s O=>?_⟩;have A:ac G (upd G s (.tup [.str p.1,.ref J,.str p.1])):=ac.new O;have t3:upd G s (.tup [.str p.1,.ref J,.str p.1]) s=some (.tup [.str p.1,.ref J,.str p.1]):=aa;have T:=A _ _ N;have aC:=I.kt (ac.kt A);refine⟨_,rfl,_,rfl,e,_,rfl,.inl ⟨a,.inr p.1,T,rfl,by rw[j5];omega,rfl⟩,?_⟩;generalize upd G s (.tup [.str p.1,.ref J,.str p.1])=G3 at A t3 T aC ⊢;have bl:iI G3 (upd G3 e (.dK (c7 a (.inr p.1) (.ref s)))):=fun b xs q=>by rw[ai (fun z=>by rw[z,T]at q;cases q)];exact q
    refine⟨_,_,_,rfl,aa,?_,fun b u q n=>by rw[ai n];exact A _ _ (ex b u q n)⟩;rw[es];unfold cQ;rw[if_pos cs,if_pos cq];exact(aC.put (o:=some (⟨p.1,aF,p.1⟩:ag)) ⟨s,J,rfl,t3,Af hh _⟩).kt bl
   ·rw[zzr0 cq];refine aU ⟨a,_,_,rfl,N,?_,ex⟩;rw[es];unfold cQ;rw[if_pos cs,if_neg cq];exact I
  ·rw[zzr0 cs];refine aU ?_;refine⟨_,rfl,x,dm,fm,rfl,q1,q2,_,rfl,_,rfl,x,D,p.1,sg,J0,J1,rooms,ds,rfl,MG,bH.sq t,fun gl G3 aS bn A=>⟨gl,rfl,⟨_,ax.of aS⟩,?_⟩⟩;have b1:gl≠e:=(ae N bn).symm;have ep:∀acc:av,cQ rooms ds sg acc p.1=gH ds sg p.1 (aM ds (p.1,sg)) acc:=fun acc=>by unfold cQ;rw[if_neg cs]
   have gg:∀g∈aM ds (p.1,sg),g∈rooms:=fun g hg=>an _ (bw.mp hg);refine bG (xs:=(aM ds (p.1,sg)).map V.str) (fun j σ G'=>∃(v:List (ca×V)) (x5:Option V),σ=[some (.ref x),some (.ref d),some (.ref D),some (.ref e),some (.str p.1),x5]/\G' e=some (.dK v)/\fK K G' v (gH ds sg p.1 ((aM ds (p.1,sg)).take j) base)/\∀b u,G3 b=some u->b≠e->G' b=some u)
    ⟨a,_,rfl,A _ _ N,I.kt (ac.kt A),fun _ _ q _=>q⟩ (fun j σ G' _ zq=>by obtain⟨_,_,_,_,_,b2⟩:=zq;exact ax.of (b2 _ _ aS b1)) ?_ ?_
   ·rintro j y σ G4 hy ⟨l,b3,rfl,U,w,B⟩;obtain⟨g,hg,rfl⟩:=bq hy;have a0:=sM.goals (ds:=ds) (sg:=sg) (r:=p.1) (gs:=(aM ds (p.1,sg)).take j) kin fun g hg=>gg g (fy hg);have z4:l.length<=150:=by rw[Paired.length w];exact bp a0.len z3
    refine⟨_,rfl,_,rfl,_,rfl,(by show 3<=aj;decide),fun s O=>?_⟩;have S5:ac G4 (upd G4 s (.tup [.str p.1,.ref D,.str g])):=ac.new O;have t5:upd G4 s (.tup [.str p.1,.ref D,.str g]) s=some (.tup [.str p.1,.ref D,.str g]):=aa;generalize upd G4 s (.tup [.str p.1,.ref D,.str g])=G5 at S5 t5 ⊢;have a4:=S5 _ _ U;have b4:iI G G5:=fun b xs q=>S5 _ _ (B _ _ (A _ _ q) fun z=>by rw[z,N]at q;cases q);refine⟨_,rfl,_,rfl,e,_,rfl,.inl ⟨l,.inr g,a4,rfl,by rw[j5];omega,rfl⟩,?_⟩;have b5:iI G5 (upd G5 e (.dK (c7 l (.inr g) (.ref s)))):=fun b xs q=>by rw[ai (fun z=>by rw[z,a4]at q;cases q)];exact q
    refine⟨_,_,rfl,aa,?_,fun b u q n=>by rw[ai n];exact S5 _ _ (B _ _ q n)⟩;rw[take_snoc hg];unfold gH;rw[nU];exact((w.kt (ac.kt S5)).put (o:=some (⟨p.1,sg,g⟩:ag)) ⟨s,D,rfl,t5,bH.kt b4 t⟩).kt b5
   ·rintro σ G4 ⟨l,b3,rfl,U,w,B⟩;rw[ak,bd]at w;refine⟨l,_,_,rfl,U,?_,fun b u q n=>B _ _ (A _ _ (ex b u q n)) n⟩;rw[es,ep];exact w
 ·rintro σ G ⟨a,x4,x5,rfl,N,I,ex⟩;rw[zk,bd]at I;exact⟨_,rfl,k o e a G (ex _ _ d2 L.symm) N m I fun b u q n=>ex _ _ (M b u q n) (ae q m)⟩
def i_(K:Za)(H:Hp)(a:Addr)(st:av):Prop:=∃(o:Obj) (kvs:List (ca×V)),H a=some (.frz o (.dK kvs))/\fK K H kvs st
theorem i_.ex{K:Za}{H i:Hp}{a c:Addr}{st:av}{f:List (ca×V)}(h:i_ K H a st)(j:H c=some (.dK f))(e:cD c H i):i_ K i a st:=by
 obtain⟨o,k,g,l⟩:=h;exact⟨o,k,e _ _ g (fun z=>by rw[z,j]at g;cases g),l.kt fun b m q=>e _ _ q fun z=>by rw[z,j]at q;cases q⟩
theorem i_.same{K:Za}{H e:Hp}{a:Addr}{st:av}(h:i_ K H a st)(S:ac H e):i_ K e a st:=by
 obtain⟨o,f,g,i⟩:=h;exact⟨o,f,S _ _ g,i.kt (ac.kt S)⟩
inductive kQ(K:Za)(C:Addr)(vs:List V)(H:Hp)(Q:VK)(E:XK):Prop
 |mk (x sl:Addr) (story:List Sg) (J0 J1 rooms:Zb) (ds:List ag):(vs=[.ref x,.ref sl])->(bB C H x J0 J1 rooms ds)->(AS K H sl story)->(story.length<=1101) ->
  (∀(al d:Addr) (as:Ze) (kvs:List (ca×V)) (fz:List av) (st:av) (H':Hp),kH rooms ds story fz st->H' al=some (.lst ((as++[d]).map V.ref))->H al=none->Paired (i_ K H') as fz.reverse->H' d=some (.dK kvs)->fK K H' kvs st->ac H H'->Q (.ref al) H')->kQ K C vs H Q E
theorem Bq{K:Za}{C:Addr}{vs:List V}{H:Hp}{Q:VK}{E:XK}(h:kQ K C vs H Q E):sT K (kR K C) (iP K C) C (io C) (bQ Q) (start tM vs) H:=by
 obtain⟨x,sl,l,J0,J1,rooms,ds,rfl,MA,⟨gs,aS,a0⟩,zs,k⟩:=h;have m:=MA.ok;have z3:=m.rooms26;obtain⟨ef,cc⟩:=m.first;refine fun d hd=>?_;have S1:ac H (upd H d (.dK [])):=ac.new hd;have d1:upd H d (.dK []) d=some (.dK []):=aa;generalize upd H d (.dK [])=H1 at S1 d1 ⊢;obtain⟨dm,fm,_,_,_,_,_,_,_,_,_,_,_,_,q1,_,_,_,q4,_⟩:=(MA.same S1).at_;refine⟨_,rfl,x,dm,fm,rfl,q1,q4,x,J0,J1,rooms,ds,rfl,MA.same S1,fun rl cd=>?_⟩;have S2:ac H1 (upd H1 rl (.lst (rooms.map V.str))):=ac.new cd;have r2:upd H1 rl (.lst (rooms.map V.str)) rl=some (.lst (rooms.map V.str)):=aa;generalize upd H1 rl (.lst (rooms.map V.str))=H2 at S2 r2 ⊢;have ce:(rooms.map V.str)[0]?=some (.str (bV rooms)):=by rw[eG,ef];rfl
 refine⟨rl,_,0,.str (bV rooms),rfl,rfl,ax.of r2,bZ (j:=0) ce,?_⟩;have d2:=S2 _ _ d1;refine⟨d2,[(.inr (bV rooms),.non)],rfl,(by show 1<=15;decide),?_⟩;have ch:iI H2 (upd H2 d (.dK (eM [] [(.inr (bV rooms),.non)]))):=fun b xs q=>by rw[ai (fun z=>by rw[z,d2]at q;cases q)];exact q
 have d3:upd H2 d (.dK (eM [] [(.inr (bV rooms),.non)])) d=some (.dK [(.inr (bV rooms),.non)]):=aa;have a4:∀b o,H b=some o->upd H2 d (.dK (eM [] [(.inr (bV rooms),.non)])) b=some o:=fun b o q=>by rw[ai (ae q hd)];exact S2 _ _ (S1 _ _ q)
 generalize upd H2 d (.dK (eM [] [(.inr (bV rooms),.non)]))=H3 at ch d3 a4 ⊢;have O:ac H H3:=a4;refine⟨_,rfl,(by show 1<=aj;decide),fun g a5=>?_⟩;have S4:ac H3 (upd H3 g (.lst [.ref d])):=ac.new a5;have I:upd H3 g (.lst [.ref d]) g=some (.lst (([]++[d]:Ze).map V.ref)):=aa;have a6:H g=none:=O.free a5;generalize upd H3 g (.lst [.ref d])=H4 at S4 I ⊢;have d4:=S4 _ _ d3;have a7:fK K H4 [(.inr (bV rooms),.non)] [(bV rooms,none)]:=.cons ⟨rfl,rfl⟩ .nil;have a8:sM rooms [(bV rooms,none)]:=⟨by simp,fun r hr=>by have:r=bV rooms:=(by simpa using hr);rw[this];exact cc⟩;refine⟨_,rfl,_,rfl,H,x,d,_,_,J0,J1,rooms,ds,rfl,MA,hd,O.trans S4,d4,a7,a8,fun a9 ci H5 d5 bb cl bi=>?_⟩;have bl:ac H H5:=fun b o q=>bi _ _ ((O.trans S4) _ _ q) (ae q hd);have cm:g≠d:=fun z=>by rw[z,d4]at I;cases I
 refine⟨_,rfl,sl,rfl,⟨_,ax.of (bl _ _ aS)⟩,?_⟩;have zg:gs.length=l.length:=Paired.length a0;refine bG (xs:=gs.map V.ref) (fun i σ G=>∃(e:Addr) (t:Ze) (p:List (ca×V)) (T:List av) (st:av) (x4:Option V),σ=[some (.ref x),some (.ref sl),some (.ref e),some (.ref g),x4]/\kH rooms ds (l.take i) T st/\G g=some (.lst ((t++[e]).map V.ref))/\t.length=i/\Paired (i_ K G) t T.reverse/\G e=some (.dK p)/\fK K G p st/\H e=none/\ac H G)
  ⟨d,[],a9,[],ci,_,rfl,.nil cl,bi _ _ I cm,rfl,.nil,d5,bb,hd,bl⟩ (fun i σ G _ zq=>by obtain⟨_,_,_,_,_,_,_,_,_,_,_,_,_,_,S⟩:=zq;exact ax.of (S _ _ aS)) ?_ ?_
 ·rintro i v σ G hi ⟨e,t,p,T,st,x4,rfl,A,y,za,U,Y,J,he,SG⟩;obtain⟨su,co,rfl⟩:=bE hi;obtain⟨sg,bn,cq⟩:=Paired.getL a0 co;have il:i<l.length:=(cE.1 bn).1;have cs:g≠e:=fun z=>by rw[z,Y]at y;cases y
  refine⟨_,rfl,_,rfl,_,rfl,H,x,e,su,p,st,sg,J0,J1,rooms,ds,rfl,MA,he,SG,Y,J,bH.kt (ac.kt SG) cq,fun o B b1 D g1 b2 an b3 L=>?_⟩;have f:=L _ _ y cs;have c1:B≠e:=fun z=>by rw[z,Y]at an;cases an
  have N:g≠B:=fun z=>by rw[z,b2]at f;cases f
  have ct:ac H D:=fun b u q=>L _ _ (SG _ _ q) (ae q he);have ap:H B=none:=SG.free an;have b4:Paired (i_ K D) t T.reverse:=Paired.mapP U fun _ _ r=>r.ex Y L;have cx:i_ K D e st:=⟨o,p,g1,J.kt fun b xs q=>L _ _ q fun z=>by rw[z,Y]at q;cases q⟩;refine⟨_,rfl,.inl ⟨rfl,_,ax.of f⟩,_,rfl,g,_,_,rfl,rfl,f,by rw[ak,aD,za];exact og (m:=2000) (by show _+1<=2000;omega) (by rw[j5];decide),?_⟩;have b5:upd D g (.lst ((t++[e]).map V.ref++[.ref B])) g=some (.lst (((t++[e])++[B]).map V.ref)):=by rw[aa,ar (l₁:=t++[e])];rfl
  have M:∀b u,D b=some u->b≠g->upd D g (.lst ((t++[e]).map V.ref++[.ref B])) b=some u:=fun b u q n=>by rw[ai n];exact q
  have aq:iI D (upd D g (.lst ((t++[e]).map V.ref++[.ref B]))):=cv f;generalize upd D g (.lst ((t++[e]).map V.ref++[.ref B]))=G2 at b5 M aq ⊢;have b6:∀{a:Addr}{s:av},i_ K D a s->i_ K G2 a s:=fun{a s} r=>by
   obtain⟨o,kv,h1,h2⟩:=r;exact⟨o,kv,M _ _ h1 (fun z=>by rw[z,f]at h1;cases h1),h2.kt aq⟩
  have aC:=M _ _ b2 N.symm;have b7:ac H G2:=fun b u q=>M _ _ (ct _ _ q) (ae q a6);refine⟨_,rfl,_,rfl,H,x,B,b1,_,J0,J1,rooms,ds,rfl,MA,ap,b7,aC,b3.kt aq,kb (fun q hq=>(m.good q hq).b) _,fun b8 cL G3 g3 b9 c0 w=>?_⟩;refine⟨B,t++[e],b8,st::T,cL,_,rfl,?_,w _ _ b5 N,by rw[aD,za];rfl,?_,g3,b9,ap,fun b u q=>w _ _ (b7 _ _ q) (ae q ap)⟩
  ·rw[take_snoc bn];exact .snoc A c0
  ·rw[oj];exact eX (Paired.mapP b4 fun _ _ r=>(b6 r).ex aC w) ((b6 cx).ex aC w)
 ·rintro σ G ⟨e,t,p,T,st,x4,rfl,A,y,za,U,Y,J,he,SG⟩;rw[ak,zg,bd]at A;exact⟨_,rfl,k g e t p T st G A y a6 U Y J SG⟩
theorem CO{H H':Hp}{d:Addr}{x:HO}(k:∀o,H d=some o->H' d=some o)(h:Rd H d x):Rd H' d x:=h.imp (k _) fun⟨o,e⟩=>⟨o,k _ e⟩
def tS(K:Za)(H:Hp)(t:Addr)(d:ag):Prop:=∃s,H t=some (.tup [.str d.a,.ref s,.str d.b])/\bH K H s (d.sg.map V.str)
theorem tS.kt{K:Za}{H a:Hp}{t:Addr}{d:ag}(k:iI H a)(h:tS K H t d):tS K a t d:=by
 obtain⟨s,e,f⟩:=h;exact⟨s,k _ _ e,bH.kt k f⟩
theorem pk{α β:Type}{R:α->β->Prop}{f:List α}{bs:List β}{b:β}(h:Paired R f (bs++[b])):∃e a,f=e++[a]/\Paired R e bs/\R a b:=by
 have g:=Paired.length h;rw[aD]at g;have g:f.length=bs.length+1:=g;obtain⟨a,j,r⟩:=Paired.get (i:=bs.length) (y:=b) h (by rw[l5 (aN _),qr];rfl);refine⟨f.take bs.length,a,by rw[<-take_snoc j,<-g,bd],?_,r⟩;have:=Paired.takeP bs.length h;rw[List.take_left' rfl]at this;exact this
inductive nc(K:Za)(C:Addr)(vs:List V)(H:Hp)(Q:VK)(E:XK):Prop
 |mk (x sl:Addr) (story:List Sg) (J0 J1 rooms:Zb) (ds:List ag):(vs=[.ref x,.ref sl])->(bB C H x J0 J1 rooms ds)->(AS K H sl story)->(story.length<=1101)->(∀sg∈story,sg≠stillSg)->(faceOf rooms ds story=[]->∀H',ac H H'->Q .non H') ->
  (faceOf rooms ds story≠[]->∀(l:Addr) (ts:Ze) (w:List ag) (H':Hp),H' l=some (.lst (ts.map V.ref))->H l=none->Paired (tS K H') ts w->Cb ds (bV rooms) w=true->az w=story->w.length<=200000->ac H H'->Q (.ref l) H')->nc K C vs H Q E
theorem CI{K:Za}{C a:Addr}(ha:∀H,bc K H a (stillSg.map V.str)){vs:List V}{H:Hp}{Q:VK}{E:XK}(h:nc K C vs H Q E):A7 K a (kQ K C) (bQ Q) (start B5 vs) H:=by
 obtain⟨x,sl,D,J0,J1,rooms,ds,rfl,MA,hs,zs,ch,k0,k1⟩:=h;have m:=MA.ok;have z3:=m.rooms26;refine⟨_,rfl,_,rfl,x,sl,D,J0,J1,rooms,ds,rfl,MA,hs,zs,fun J d p f O st H1 A u bb an gd T S1=>?_⟩;have ci:(p++[d]).map V.ref=p.map V.ref++[.ref d]:=by rw[ar];rfl
 rw[ci]at u;have zk:f.length=st.length:=Paired.length T;have face:=A.face m;refine⟨_,rfl,_,rfl,J,_,-1,.ref d,rfl,rfl,ax.of u,xK _ _,.inr ⟨d,f,rfl,.inl gd,rfl,_,rfl,?_⟩⟩;rcases st with _|⟨p0,L⟩
 ·rw[zzr1 (by rw[zk];rfl)];refine bN (k0 ?_ H1 S1);cases ef:faceOf rooms ds D with
  |nil=>rfl
  |cons r l=>exact absurd ((face r).2 (by rw[ef];exact dP)) (by simp)
 have zk:f.length=L.length+1:=zk;rw[zzr0 (by intro z;injection z with z;omega)];refine aU ?_;have bi:p0.1∈(p0::L).map (·.1):=dP;have cl:faceOf rooms ds D≠[]:=fun z=>by have:=(face p0.1).1 bi;rw[z]at this;cases this
 obtain⟨w,wk,hw,zw,bk⟩:=A.back m ch p0.1 bi;have c2:(p0::L).length<=150:=bp (A.kin m).len z3;have cm:w.length<=200000:=by have:D.length * 151<=1101 * 151:=Nat.mul_le_mul_right _ zs;omega
 refine⟨_,rfl,_,rfl,J,_,-1,.ref d,rfl,rfl,ax.of u,xK _ _,.inr ⟨d,f,rfl,.inl gd,fun kl co=>?_⟩⟩;rw[T.keys];have S2:ac H1 (upd H1 kl (.lst (((p0::L).map (·.1)).map V.str))):=ac.new co;have bl:upd H1 kl (.lst (((p0::L).map (·.1)).map V.str)) kl=some (.lst (((p0::L).map (·.1)).map V.str)):=aa;generalize upd H1 kl (.lst (((p0::L).map (·.1)).map V.str))=H2 at S2 bl ⊢;refine⟨kl,_,0,.str p0.1,rfl,rfl,ax.of bl,bZ (j:=0) rfl,?_⟩;refine⟨(by show 0<=aj;decide),fun g a7=>?_⟩;have S3:ac H2 (upd H2 g (.lst [])):=ac.new a7;have bn:upd H2 g (.lst []) g=some (.lst (([]:Ze).map V.ref)):=aa;generalize upd H2 g (.lst [])=H3 at S3 bn ⊢;have ap:=S2.trans S3;have aq:=ap _ _ u;have a0:J≠g:=ae (S2 _ _ u) a7;have a4:H g=none:=(S1.trans S2).free a7;refine⟨_,rfl,.inl ⟨rfl,_,ax.of aq⟩,J,_,.ref d,rfl,rfl,aq,?_,?_⟩
 ·rw[aD,l5 (by show _<=_+1-1;omega)];show[V.ref d][_+1-1-_]?=_;rw[Nat.add_sub_cancel,qr];rfl
 rw[show(p.map V.ref++[V.ref d]).dropLast=p.map V.ref from uL];have popped:∀{G:Hp}{xs ys:List V},G J=some (.lst xs)->iI G (upd G J (.lst ys))/\(∀{b:Addr}{s:av},i_ K G b s->i_ K (upd G J (.lst ys)) b s):=fun{G xs ys} e=>by
  have kt:iI G (upd G J (.lst ys)):=cv e;refine⟨kt,fun{b s} r=>?_⟩;obtain⟨o,kv,Y,h2⟩:=r;exact⟨o,kv,by rw[ai (fun z=>by rw[z,e]at Y;cases Y)];exact Y,h2.kt kt⟩
 obtain⟨cq,cs⟩:=popped (ys:=p.map V.ref) aq;have ct:J≠d:=fun z=>by rw[z,gd]at u;cases u
 refine⟨fun n σ G=>∃(e:Addr) (p:Ze) (f:List (ca×V)) (O:List av) (st:av) (r:Str) (i:Ze) (M I:List ag) (x6:Option V),σ=[some (.ref x),some (.ref sl),some (.ref J),some (.str r),some (.ref g),some (.ref e),x6]/\G J=some (.lst (p.map V.ref))/\Paired (i_ K G) p O.reverse/\Rd G e (.dK f)/\fK K G f st/\sN O st r I/\G g=some (.lst (i.map V.ref))/\Paired (tS K G) i M/\M++I=w.reverse/\n=I.length/\ac H G,
  ⟨_,d,p,f,O,p0::L,p0.1,[],[],w.reverse,_,rfl,aa,Paired.mapP an fun _ _ r=>cs (r.same ap),.inl (by rw[ai ct.symm];exact ap _ _ gd),(T.kt (ac.kt ap)).kt cq,bk,by rw[ai a0.symm];exact bn,.nil,rfl,rfl,fun b o q=>by rw[ai (ae q bb)];exact(S1.trans ap) _ _ q⟩,?_⟩
 rintro n σ G ⟨e,p,f,O,st,r,i,M,I,x6,rfl,u,an,rd,T,bk,k,a5,ew,rfl,SG⟩;have c3:i.length=M.length:=Paired.length a5;have c4:M.length+I.length=w.length:=by rw[<-aD,ew,List.length_reverse]
 have go:∀{q:ag}{ws:List ag},g8 st r=some (some q)->I=q::ws->∃t s,cz f (.inr r:ca)=some (.ref t)/\G t=some (.tup [.str q.a,.ref s,.str q.b])/\bH K G s (q.sg.map V.str):=fun{q ws} Y _=>by
  rcases T.look (r:=r)with⟨_,U⟩|⟨v,o,e1,U,e3⟩
  ·rw[Y]at U;cases U
  ·rw[Y]at U;injection U with U;subst U;obtain⟨t,s,rfl,q1,q2⟩:=e3;exact⟨t,s,e1,q1,q2⟩
 cases bk with
 |stop hn =>
  rcases T.look (r:=r)with⟨_,U⟩|⟨v,o,e1,U,e3⟩
  ·rw[hn]at U;cases U
  rw[hn]at U;injection U with U;subst U;have e3:v=.non:=e3;subst e3;refine⟨_,rfl,_,rfl,e,_,rfl,.inl ⟨f,.inr r,rd,rfl,e1.symm⟩,_,rfl,?_⟩;refine aU ?_;rw[cP]at ew;refine⟨_,rfl,.inl ⟨rfl,_,ax.of k⟩,g,_,rfl,rfl,k,?_⟩;have kt:iI G (upd G g (.lst (i.map V.ref).reverse)):=cv k;refine⟨_,rfl,k1 cl g i.reverse w _ (by rw[aa,List.map_reverse]) a4 ?_ wk.ok hw cm fun b o q=>by rw[ai (ae q a4)];exact SG _ _ q⟩;have:=Paired.rev (Paired.mapP a5 fun _ _ r=>r.kt kt);rw[ew,List.reverse_reverse]at this;exact this
 |@still _ _ _ q ws hn es b =>
  obtain⟨t,s,e1,q1,q2⟩:=go hn rfl;refine⟨_,rfl,_,rfl,e,_,rfl,.inl ⟨f,.inr r,rd,rfl,e1.symm⟩,_,rfl,?_⟩;refine bN ⟨fun σ' N=>∃(e:Addr) (p:Ze) (f:List (ca×V)) (O:List av) (st:av) (r:Str) (i:Ze) (M I:List ag) (x6:Option V),σ'=[some (.ref x),some (.ref sl),some (.ref J),some (.str r),some (.ref g),some (.ref e),x6]/\N J=some (.lst (p.map V.ref))/\Paired (i_ K N) p O.reverse/\Rd N e (.dK f)/\fK K N f st/\sN O st r I/\N g=some (.lst (i.map V.ref))/\Paired (tS K N) i M/\M++I=w.reverse/\I.length<(q::ws).length/\ac H N,?_,?_⟩
  ·rintro σ' N ⟨e,p,f,O,st,r,i,M,I,x6,rfl,b1,b2,b3,b4,b5,b6,b7,b8,b9,a8⟩;exact⟨_,b9,e,p,f,O,st,r,i,M,I,x6,rfl,b1,b2,b3,b4,b5,b6,b7,b8,rfl,a8⟩
  refine⟨_,rfl,_,rfl,e,_,rfl,.inl ⟨f,.inr r,rd,rfl,e1.symm⟩,?_⟩;refine⟨_,rfl,.inl ⟨rfl,_,ax.of k⟩,_,rfl,g,_,_,rfl,rfl,k,by rw[ak,j5];show _<_;omega,?_⟩;have kt:iI G (upd G g (.lst (i.map V.ref++[.ref t]))):=cv k;have aC:upd G g (.lst (i.map V.ref++[.ref t])) g=some (.lst ((i++[t]).map V.ref)):=by rw[aa,ar];rfl
  have y:∀b o,G b=some o->b≠g->upd G g (.lst (i.map V.ref++[.ref t])) b=some o:=fun b o q n=>by rw[ai n];exact q
  generalize upd G g (.lst (i.map V.ref++[.ref t]))=G2 at kt aC y ⊢;have a6:∀{b:Addr}{s:av},i_ K G b s->i_ K G2 b s:=fun{b s} r=>by
   obtain⟨o,kv,Y,h2⟩:=r;exact⟨o,kv,y _ _ Y (fun z=>by rw[z,k]at Y;cases Y),h2.kt kt⟩
  have cx:Rd G2 e (.dK f):=CO (fun o q=>y _ _ q fun z=>by rw[z,k]at q;rcases rd with r|⟨_,r⟩<;>(rw[z,k]at r;cases r)) rd;refine⟨_,rfl,t,_,0,_,rfl,rfl,bc.of (kt _ _ q1),bZ (j:=0) rfl,?_⟩;refine⟨_,rfl,t,_,1,_,rfl,rfl,bc.of (kt _ _ q1),bZ (j:=1) rfl,fx q.sg,fx stillSg,aA (bH.sq (bH.kt kt q2)),aA (ha _),by rw[aX];decide,by rw[aX];decide,_,rfl,?_⟩;rw[cU,zzr1 es];refine aU ⟨e,p,f,O,st,q.a,i++[t],M++[q],ws,_,rfl,y _ _ u a0,Paired.mapP an fun _ _ r=>a6 r,cx,T.kt kt,b,aC,eX (Paired.mapP a5 fun _ _ r=>r.kt kt) ⟨s,kt _ _ q1,bH.kt kt q2⟩,by rw[dw];exact ew,zZ _,fun b o q=>y _ _ (SG _ _ q) (ae q a4)⟩
 |@pop cL _ c0 _ q ws hn es b =>
  obtain⟨t,s,e1,q1,q2⟩:=go hn rfl;refine⟨_,rfl,_,rfl,e,_,rfl,.inl ⟨f,.inr r,rd,rfl,e1.symm⟩,_,rfl,?_⟩;refine bN ⟨fun σ' N=>∃(e:Addr) (p:Ze) (f:List (ca×V)) (O:List av) (st:av) (r:Str) (i:Ze) (M I:List ag) (x6:Option V),σ'=[some (.ref x),some (.ref sl),some (.ref J),some (.str r),some (.ref g),some (.ref e),x6]/\N J=some (.lst (p.map V.ref))/\Paired (i_ K N) p O.reverse/\Rd N e (.dK f)/\fK K N f st/\sN O st r I/\N g=some (.lst (i.map V.ref))/\Paired (tS K N) i M/\M++I=w.reverse/\I.length<(q::ws).length/\ac H N,?_,?_⟩
  ·rintro σ' N ⟨e,p,f,O,st,r,i,M,I,x6,rfl,b1,b2,b3,b4,b5,b6,b7,b8,b9,a8⟩;exact⟨_,b9,e,p,f,O,st,r,i,M,I,x6,rfl,b1,b2,b3,b4,b5,b6,b7,b8,rfl,a8⟩
  refine⟨_,rfl,_,rfl,e,_,rfl,.inl ⟨f,.inr r,rd,rfl,e1.symm⟩,?_⟩;refine⟨_,rfl,.inl ⟨rfl,_,ax.of k⟩,_,rfl,g,_,_,rfl,rfl,k,by rw[ak,j5];show _<_;omega,?_⟩;have kt:iI G (upd G g (.lst (i.map V.ref++[.ref t]))):=cv k;have aC:upd G g (.lst (i.map V.ref++[.ref t])) g=some (.lst ((i++[t]).map V.ref)):=by rw[aa,ar];rfl
  have y:∀b o,G b=some o->b≠g->upd G g (.lst (i.map V.ref++[.ref t])) b=some o:=fun b o q n=>by rw[ai n];exact q
  generalize upd G g (.lst (i.map V.ref++[.ref t]))=G2 at kt aC y ⊢;have a6:∀{b:Addr}{s:av},i_ K G b s->i_ K G2 b s:=fun{b s} r=>by
   obtain⟨o,kv,Y,h2⟩:=r;exact⟨o,kv,y _ _ Y (fun z=>by rw[z,k]at Y;cases Y),h2.kt kt⟩
  refine⟨_,rfl,t,_,0,_,rfl,rfl,bc.of (kt _ _ q1),bZ (j:=0) rfl,?_⟩;refine⟨_,rfl,t,_,1,_,rfl,rfl,bc.of (kt _ _ q1),bZ (j:=1) rfl,fx q.sg,fx stillSg,aA (bH.sq (bH.kt kt q2)),aA (ha _),by rw[aX];decide,by rw[aX];decide,_,rfl,?_⟩;rw[cU,zzr0 es];refine bN ?_;rw[oj]at an;obtain⟨aS,e',rfl,cc,fe⟩:=pk an;have B:=y _ _ u a0;rw[ar]at B;have B:G2 J=some (.lst (aS.map V.ref++[.ref e'])):=B;refine⟨_,rfl,.inl ⟨rfl,_,ax.of B⟩,J,_,.ref e',rfl,rfl,B,?_,?_⟩
  ·rw[aD,l5 (by show _<=_+1-1;omega)];show[V.ref e'][_+1-1-_]?=_;rw[Nat.add_sub_cancel,qr];rfl
  rw[show(aS.map V.ref++[V.ref e']).dropLast=aS.map V.ref from uL];obtain⟨a9,cd⟩:=popped (ys:=aS.map V.ref) B;obtain⟨o',ce,g',c1⟩:=cd (a6 fe);refine⟨e',aS,ce,cL,c0,q.a,i++[t],M++[q],ws,_,rfl,aa,Paired.mapP cc fun _ _ r=>cd (a6 r),.inr ⟨o',g'⟩,c1,b,by rw[ai a0.symm];exact aC,eX (Paired.mapP a5 fun _ _ r=>(r.kt kt).kt a9) ⟨s,a9 _ _ (kt _ _ q1),bH.kt a9 (bH.kt kt q2)⟩,by rw[dw];exact ew,zZ _,fun b o q=>by rw[ai (ae q bb)];exact y _ _ (SG _ _ q) (ae q a4)⟩

def wG(K:Za):TS :=
 ao (aG (cZ 1 [1] (bS K (aB (eJ K) V0 (tC (.int 3)))) U0 (aP (aB Ao (aB (eJ K) V0 (tC (.int 0))) V1)) V0) U2)
 (bo (dW (Eu K) (aJ (cZ 1 [] (bS K V2) U0 (ka) (aB Ao (aB (eJ K) (aB (eJ K) V0 (tC (.int 1))) (tC (.int 0))) (tC (.str "ask")))) bR)))
def xQ:List Str:=["told","room","doors"]
def sX(K:Za)(sp_law_in_order:Sp)(sp_law_quiet:Sp):TS :=
 ao (cp (aP (aB (oG K) V2 (b_ (aE (tC (.str "hush")))))) (bo (dW (Al K) (aE (cZ 1 [0] (EL K V1) U0 (tB (aQ sp_law_quiet (aY V1 V0))) V0)))) (bt))
 (ao (aG (fA (bR)) U3)
 (ao (d7 (bS K (aB (eJ K) V0 (tC (.int 3)))) (jZ K 3 (bO U4 (bO U5 (bO U6 (jO))))) (cp (jY (aP (aB (i6 K false) V4 V1)) (jY (aP (aB (oG K) V5 V2)) (aP (aB (i6 K true) V6 V3)))) (cr (ua K "list" cR V3 (aE V6))) (bt)))
 (bo (aQ sp_law_in_order (aY V0 V3)))))
def tQ:List Str:=["told","face","sign","some","room","own","other"]
def sW(K:Za)(sp_law_quiet:Sp):TS :=
 ao (aG (aB (d_ K) (aB (eJ K) V0 (tC (.int 2))) (tC (.int 0))) U2)
 (ao (d7 (bS K V1) U3 (ao (cp (Bb (qV (tB (dW (oF K) (aY V3 (tC (.ty "tuple")))))) (Bb (aP (aB Fm (dW (gf K) (aE V3)) (tC (.int 3)))) (aP (aB Fm (aB (eJ K) V3 (tC (.int 0))) V2)))) (bo (tC (.bl false))) (bt))
 (ao (cp (jY (aP (aB (oG K) (aB (eJ K) V3 (tC (.int 1))) (b_ (aE (tC (.str "hush")))))) (Bb (aP (aB Fm (aB (eJ K) V3 (tC (.int 2))) V2)) (qV (tB (aQ sp_law_quiet (aY V0 V2)))))) (bo (tC (.bl false))) (bt))
 (ao (cp (jY (aP (aB (vC K) (aB (eJ K) V3 (tC (.int 1))) (b_ (aE (tC (.str "hush")))))) (aP (aB (i6 K true) V3 (aB (eJ K) V0 (tC (.int 3)))))) (bo (tC (.bl false))) (bt))
 (aG (aB (eJ K) V3 (tC (.int 2))) U2)))))
 (bo (tC (.bl true))))
def tP:List Str:=["told","walk","here","step"]
theorem B1{f:List ag}{r:Str}:((f.filter fun d=>decide (d.a=r)).map ei).all id=decide (r∉dj f):=by
 by_cases c:r∈dj f
 ·rw[zzr0 (fun z=>z c),List.all_eq_false];unfold dj at c;obtain⟨d,g,i⟩:=aK.mp c;obtain⟨h,e⟩:=bA.mp g;refine⟨ei d,i4 (bA.mpr ⟨h,zzr1 i⟩),?_⟩;intro z;have z:ei d=true:=z;rw[z]at e;cases e
 ·rw[zzr1 c,qF];intro b j;obtain⟨d,g,rfl⟩:=aK.mp j;obtain⟨h,e⟩:=bA.mp g;show ei d=true;cases q:ei d with
  |true=>rfl
  |false=>exact absurd (aK.mpr ⟨d,bA.mpr ⟨h,by rw[q];rfl⟩,of_decide_eq_true e⟩) c
theorem Bm{K:Za}{e:List V}{H:Hp}{Q:VK}{E:XK}(h:jj e H Q E):wG K (bQ Q) (start xQ e) H:=by
 obtain⟨t,l1,l2,l3,l4,ts,J0,J1,rooms,C,r,rfl,T,m,k⟩:=h;have z4:=m.few;refine⟨_,rfl,t,_,3,_,rfl,rfl,bc.of T.t,rfl,l4,rfl,⟨_,ax.of T.a4⟩,fun f hf=>?_⟩
 let G:Nat->List V->Hp->Prop:=fun i e n=>∃v:List Addr,e=v.map V.ref/\ac H n/\n f=some (.lst e)/\b0 n v ((C.take i).filter fun d=>decide (d.a=r))
 refine bP (xs:=ts.map V.ref) G ⟨[],rfl,ac.new hf,aa,.nil⟩ (fun i e n _ I=>by obtain⟨_,_,S,J,_⟩:=I;exact⟨J,ax.of (S _ _ T.a4)⟩) ?_ ?_;rotate_left
 ·rintro i e n x' x hi ⟨v,rfl,S,L,w⟩;obtain⟨u,M,rfl⟩:=bE x;obtain⟨A,p,l⟩:=Paired.getL T.ds M;have B:=l.kt (ac.kt S);obtain⟨Y,y,s⟩:=l.kt (ac.kt S);refine gN ?_;refine⟨_,rfl,u,_,0,_,rfl,rfl,bc.of y,rfl,_,rfl,rfl,_,rfl,?_⟩;have e1:decide (V.str A.a=V.str r)=decide (A.a=r):=decide_eq_decide.2 ⟨fun z=>by injection z,fun z=>by rw[z]⟩;rw[e1];by_cases D:A.a=r
  ·rw[zzr1 D];refine bN ?_;refine⟨_,rfl,L,?_,kq hi ⟨v++[u],by rw[ar];rfl,?_,aa,?_⟩⟩
   ·rw[ak,Paired.length w];refine ay (bp (cF _ _) ?_);rw[bm];omega
   ·intro b o q;rw[ai (ae q hf)];exact S _ _ q
   ·rw[eF p,if_pos (zzr1 D)];have hk:iI n (upd n f (.lst (v.map V.ref++[.ref u]))):=cv L;exact eX (w.kt hk) (B.kt hk)
  ·rw[zzr0 D];refine aU (kq hi ⟨v,rfl,S,L,?_⟩);rw[eF p,if_neg (by rw[zzr0 D];decide),cP];exact w
 rintro e H1 ⟨v,rfl,S1,f1,w⟩;rw[ak,Paired.length T.ds,bd]at w;refine⟨_,rfl,f,rfl,⟨_,ax.of f1⟩,fun g hg=>?_⟩;have zf:(C.filter fun d=>decide (d.a=r)).length<=1000:=bp (cF _ _) z4;have gd:∀d∈C.filter fun d=>decide (d.a=r),uH J0 J1 rooms d:=fun d hd=>m.good d (bA.1 hd).1;rw[<-B1]at k;generalize(C.filter fun d=>decide (d.a=r))=F at w zf gd k
 let N:Nat->List V->Hp->Prop:=fun i e n=>e=((F.take i).map ei).map V.bl/\ac H1 n/\n g=some (.lst e)
 refine bP (xs:=v.map V.ref) N ⟨rfl,ac.new hg,aa⟩ (fun i e n _ I=>by obtain⟨_,S,J⟩:=I;exact⟨J,ax.of (S _ _ f1)⟩) ?_ ?_
 ·rintro e H2 ⟨rfl,S2,g2⟩;rw[ak,Paired.length w,bd]at g2;exact⟨g,_,rfl,ax.of g2,k H2 (S1.trans S2)⟩
 ·rintro i e n x' x hi ⟨rfl,S,g'⟩;obtain⟨u,M,rfl⟩:=bE x;obtain⟨A,p,l⟩:=Paired.getL w M;obtain⟨Y,y,s⟩:=l.kt (ac.kt S);obtain⟨s0,al,O,U⟩:=Bg (gd A (cV p));unfold SignAt at s;rw[O]at s;refine gN (u_ ?_);refine⟨_,rfl,u,_,1,_,rfl,rfl,bc.of y,rfl,Y,_,0,.str s0,rfl,rfl,bc.of s,bZ (j:=0) rfl,rfl,g',?_,kq hi ⟨?_,?_,aa⟩⟩
  ·rw[ak,ak,bm];exact ay (by omega)
  ·have U:decide (V.str s0=V.str ("ask":Str))=ei A:=by
    have:=congrArg (!·) U;simpa using this
   rw[take_snoc p,ar,ar,U];rfl
  ·intro b o q;rw[ai (ae q hg)];exact S _ _ q
theorem Bp{K:Za}{x:List V}{H:Hp}{Q:VK}{E:XK}(h:oB K x H Q E):sX K wT jj (bQ Q) (start tQ x) H:=by
 obtain⟨t,ft,s,l1,l2,l3,L,ts,J0,J1,rooms,face,w,n,rfl,T,m,al,hs,hz,k⟩:=h;have z4:=m.few;refine⟨_,rfl,(by show 1<=aj;decide),fun hh M=>⟨fx w,fx aF,aA (bc.same (ac.new M) hs),aA (bc.of aa),by rw[aX];decide,by rw[aX];decide,_,rfl,?_⟩⟩;rw[cU];have D:ac H (upd H hh (.tup [.str "hush"])):=ac.new M;generalize upd H hh (.tup [.str "hush"])=y at D ⊢;have I:=T.same D;have B:=D _ _ al;have an:=bc.same D hs;by_cases c:w=aF
 ·rw[zzr1 c];refine bN ?_;refine⟨_,rfl,ft,rfl,⟨_,bc.of B⟩,fun f hf=>?_⟩
  let ap:Nat->List V->Hp->Prop:=fun i x H'=>x=((face.take i).filter fun r=>decide (r∉dj n)).map V.str/\ac y H'/\H' f=some (.lst x)
  refine xG (xs:=face.map V.str) ap ⟨rfl,ac.new hf,aa⟩ (fun i x H' _ zq=>by obtain⟨_,S,h'⟩:=zq;exact⟨h',bc.of (S _ _ B)⟩) ?_ ?_
  ·rintro x H' ⟨rfl,S,l⟩;rw[ak,bd]at l;refine⟨f,_,rfl,.inl ⟨ax.of l,fun t' aq=>k t' _ ?_ ((D.trans S).trans (ac.new aq))⟩⟩;rw[aa];unfold behF;rw[if_pos c]
  ·rintro i x H' x' C hi ⟨rfl,S,l⟩;obtain⟨r,hr,rfl⟩:=bq C;refine gN ?_;refine⟨_,rfl,_,rfl,t,l1,l2,l3,L,ts,J0,J1,rooms,n,r,rfl,I.same S,m,fun H2 A=>⟨_,rfl,?_⟩⟩;have N:(((face.take i).filter fun r=>decide (r∉dj n)).map V.str).length<aj:=by
    rw[ak];refine ay (bp (cF _ _) ?_);rw[bm];omega
   refine gV (fun hq=>?_) (fun hq=>?_)
   ·refine⟨_,rfl,A _ _ l,N,kq hi ⟨?_,?_,aa⟩⟩
    ·rw[bC hr,if_pos hq,ar];rfl
    ·intro b o q;rw[ai (ae q hf)];exact A _ _ (S _ _ q)
   ·refine kq hi ⟨?_,S.trans A,A _ _ l⟩;rw[bC hr,if_neg hq,cP]
 rw[zzr0 c];refine aU ?_;refine⟨(by show 0<=aj;decide),fun f hf=>?_⟩;have A:ac y (upd y f (.lst [])):=ac.new hf;have f2:upd y f (.lst []) f=some (.lst []):=aa;generalize upd y f (.lst [])=H2 at A f2 ⊢;have T2:=I.same A;have n4:L≠f:=ae I.a4 hf;refine⟨_,rfl,t,_,3,.ref L,rfl,rfl,bc.of T2.t,rfl,L,rfl,⟨_,ax.of T2.a4⟩,?_⟩
 let O:Nat->L2.St->Hp->Prop:=fun i σ H'=>Gi fun(G:Zb) (x4 x5 x6:Option V)=>Gr (σ=[some (.ref t),some (.ref ft),some (.ref s),some (.ref f),x4,x5,x6]) (H' f=some (.lst (G.map V.str))) (∀b o,y b=some o->H' b=some o) (G.length<=i) (∀g,g∈G↔∃d∈n.take i,d.a∈face/\d.sg=w/\d.b=g)
 refine bG (xs:=ts.map V.ref) O ⟨[],_,_,_,rfl,f2,fun b o e=>A _ _ e,aN _,fun g=>⟨fun h=>(by cases h),fun⟨_,h,_⟩=>(by simp at h)⟩⟩ (fun i σ H' _ zq=>by obtain⟨_,_,_,_,_,_,S,_,_⟩:=zq;exact ax.of (S _ _ I.a4)) ?_ ?_
 ·rintro i x' σ H' C ⟨G,x4,x5,x6,rfl,l,S,hl,J⟩;have S:ac y H':=S;obtain⟨u,hu,rfl⟩:=bE C;obtain⟨j,U,Y⟩:=Paired.getL I.ds hu;obtain⟨sb,as,aC⟩:=Y.kt (ac.kt S);have aS:i<n.length:=(cE.mp U).1;have p:∀g,(∃d∈n.take (i+1),d.a∈face/\d.sg=w/\d.b=g)↔((∃d∈n.take i,d.a∈face/\d.sg=w/\d.b=g)∨(j.a∈face/\j.sg=w/\j.b=g)):=by
   intro g;rw[take_snoc U];constructor
   ·rintro⟨d,hd,h⟩;rcases bg.mp hd with hd|hd
    ·exact .inl ⟨d,hd,h⟩
    ·have:d=j:=by simpa using hd
     subst this;exact .inr h
   ·rintro(⟨d,hd,h⟩|h)
    ·exact⟨d,cJ _ hd,h⟩
    ·exact⟨j,dC _ (by simp),h⟩
  refine⟨u,_,rfl,bc.of as,rfl,_,_,rfl,_,_,rfl,_,_,rfl,rfl,?_⟩;have v:¬(j.a∈face/\j.sg=w/\j.b∉G)->O (i+1) [some (.ref t),some (.ref ft),some (.ref s),some (.ref f),some (.str j.a),some (.ref sb),some (.str j.b)] H':=fun z=>by
   refine⟨G,_,_,_,rfl,l,S,by omega,fun g=>?_⟩;rw[p,J];refine⟨.inl,fun h=>h.elim id fun h=>?_⟩;rw[<-J];by_cases q:g∈G
   ·exact q
   ·exact absurd ⟨h.1,h.2.1,by rw[h.2.2];exact q⟩ z
  refine⟨_,rfl,_,rfl,dX j.a,face.map dX,ft,_,gJ _,rfl,.inr (bc.of (S _ _ B)),fH _,(by show 0<=8;decide),by rw[cT];decide,_,rfl,?_⟩;rw[if_neg gL,vX];by_cases c1:j.a∈face;rotate_left
  ·rw[zzr0 c1];exact aU (aU (v fun z=>c1 z.1))
  rw[zzr1 c1];refine bN ?_;refine⟨_,rfl,_,rfl,fx j.sg,fx w,aA (bc.of aC),aA (bc.same S an),by rw[aX];decide,by rw[aX];decide,_,rfl,?_⟩;rw[cU];by_cases c2:j.sg=w;rotate_left
  ·rw[zzr0 c2];exact aU (aU (v fun z=>c2 z.2.1))
  rw[zzr1 c2];refine bN ?_;refine⟨_,rfl,_,rfl,dX j.b,G.map dX,f,_,gJ _,rfl,.inl (ax.of l),fH _,(by show 0<=8;decide),by rw[cT];decide,_,rfl,?_⟩;rw[if_pos rfl,vX];by_cases c3:j.b∈G
  ·rw[zzr1 c3];exact aU (v fun z=>z.2.2 c3)
  rw[zzr0 c3];refine bN ?_;refine⟨_,rfl,.inl ⟨rfl,_,ax.of l⟩,_,rfl,f,_,_,rfl,rfl,l,by rw[ak];exact ay (by omega),G++[j.b],_,_,_,rfl,by rw[aa,ar];rfl,fun b o e=>?_,by rw[aD];show G.length+1<=i+1;omega,fun g=>?_⟩
  ·rw[ai (ae e hf)];exact S _ _ e
  ·rw[p,<-J,bg];simp only[dY];exact⟨fun h=>h.imp id fun h=>⟨c1,c2,h.symm⟩,fun h=>h.imp id fun h=>h.2.2.symm⟩
 ·rintro σ H' ⟨G,x4,x5,x6,rfl,l,S,hl,J⟩;have S:ac y H':=S;rw[ak,Paired.length T.ds]at hl;rw[ak,Paired.length T.ds,bd]at J;refine⟨_,rfl,_,rfl,t,f,l1,l2,l3,L,ts,J0,J1,rooms,G,n,rfl,I.same S,m,l,by omega,fun t' H' h1 S'=>k t' H' ?_ ((D.trans S).trans S')⟩;rw[h1];unfold behF;rw[if_neg c]
  suffices e0:closF rooms n G=closF rooms n (cH n w face) by rw[e0]
  refine xH fun g=>?_;rw[J,eD];constructor
  ·rintro⟨⟨a,a0,b⟩,hd,h1,h2,h3⟩;simp only at h1 h2 h3;subst h2 h3;exact⟨a,h1,hd⟩
  ·rintro⟨r,hr,h⟩;exact⟨_,h,hr,rfl,rfl⟩
open Classical in
structure F4(H:Hp)(sm:Addr)(A:Nat->Addr)(S:Nat->List Str):Prop where
 l:H sm=some (.lst [.ref (A 0),.ref (A 1),.ref (A 2),.ref (A 3)])
 s:∀k,k<4->H (A k)=some (.lst ((S k).map V.str))
def cf(i j:Nat):Bool:=decide ((i,j)∈[(0,1),(0,2),(1,3),(2,3)])
theorem BN{w:List ag}{i:Nat}{d:ag}(h:w[i]?=some d):az (w.take (i+1))=az (w.take i)++(if(!decide (d.sg=stillSg))=true then[d.sg]else[]):=by
 unfold az;rw[take_snoc h,lS,ar];by_cases c:(!decide (d.sg=stillSg))=true
 ·rw[if_pos c];simp only[List.filter,c];rfl
 ·rw[if_neg c];simp only[List.filter,Bool.not_eq_true _▸c];rfl
theorem tS.dIn{K:Za}{H:Hp}{t:Addr}{d:ag}(h:tS K H t d):ib K H (lq d) (.ref t):=by
 obtain⟨s,a,e⟩:=h;unfold lq;unfold ib;refine⟨t,_,rfl,bc.of a,?_⟩;unfold DIns;refine⟨_,_,rfl,gJ _,?_⟩;unfold DIns;refine⟨_,_,rfl,aA (bH.sq e),?_⟩;unfold DIns;refine⟨_,_,rfl,gJ _,?_⟩;unfold DIns
 rfl
theorem zc(w:List ag):(az w).length<=w.length:=by unfold az;rw[ak];exact cF _ _
inductive jk(K:Za)(vs:List V)(H:Hp)(Q:VK)(E:XK):Prop
 |mk (t st l1 l2 l3 l4:Addr) (ts us:Ze) (story:List Sg) (J0 J1 rooms:Zb) (ds:List ag):(vs=[.ref t,.ref st])->(kE H t l1 l2 l3 l4 ts J0 J1 rooms ds)->(aW J0 J1 rooms ds)->(H st=some (.lst (us.map V.ref)))->(sG K H us story)->(∀(t':Addr) (H':Hp),H' t'=some (.tup ((faceOf rooms ds story).map V.str))->ac H H'->Q (.ref t') H')->jk K vs H Q E
theorem Bn{K:Za}{w:List V}{H:Hp}{Q:VK}{E:XK}(h:jk K w H Q E):yh K (oB K) wT (bQ Q) (start zQ w) H:=by
 obtain⟨t,st,x,z,j,A,B,N,a,C,D,rooms,ds,rfl,T,m,e,G,k⟩:=h;have z3:=m.rooms26;have O:iF (rooms.map V.str) none (some 1)=(rooms.take 1).map V.str:=qb rooms 1;refine⟨_,rfl,_,rfl,.inr (.inl ⟨t,_,2,_,rfl,rfl,bc.of T.t,rfl,_,rfl,.inl ⟨j,_,rfl,ax.of T.a3,fun I l=>?_⟩⟩)⟩;rw[O];have J:ac H (upd H I (.lst ((rooms.take 1).map V.str))):=ac.new l;refine⟨t,I,x,z,j,A,B,C,D,rooms,rooms.take 1,ds,rfl,T.same J,m,aa,by rw[bm];omega,fun U H1 n o=>?_⟩;have L:=J.trans o;refine⟨_,rfl,st,rfl,⟨_,ax.of (L _ _ e)⟩,?_⟩;refine bG (xs:=N.map V.ref) (fun i σ p=>DW fun(f:Addr) (q:Option V)=>Gj (σ=[some (.ref t),some (.ref st),some (.ref f),q]) (p f=some (.tup ((faceOf rooms ds (a.take i)).map V.str))) (ac H p))
  ⟨U,_,rfl,n,L⟩ (fun i σ p _ Y=>by obtain⟨_,_,_,_,S⟩:=Y;exact ax.of (S _ _ e)) ?_ ?_
 ·rintro i y σ M hi ⟨f,q,rfl,hf,g⟩;obtain⟨u,hu,rfl⟩:=bE hi;obtain⟨sg,r,s⟩:=Paired.getL G hu;obtain⟨o1,o2⟩:=kZ (ds:=ds) (show rooms.length<=1000 by omega) (a.take i);refine⟨_,rfl,_,rfl,_,rfl,t,f,u,x,z,j,A,B,C,D,rooms,_,sg,ds,rfl,T.same g,m,hf,bH.sq (bH.kt (ac.kt g) s),o2,fun f' H3 v S3=>⟨f',_,rfl,?_,g.trans S3⟩⟩;rw[take_snoc r,dv];exact v
 ·rintro σ M ⟨f,q,rfl,hf,g⟩;rw[ak,Paired.length G,bd]at hf;exact⟨_,rfl,k f M hf g⟩
inductive kP(K:Za)(vs:List V)(H:Hp)(Q:VK)(E:XK):Prop
 |mk (t wl l1 l2 l3 l4:Addr) (ts us:Ze) (w:List ag) (J0 J1 rooms:Zb) (ds:List ag):(vs=[.ref t,.ref wl])->(kE H t l1 l2 l3 l4 ts J0 J1 rooms ds)->(aW J0 J1 rooms ds)->(H wl=some (.lst (us.map V.ref)))->(Paired (tS K H) us w)->(Cb ds (bV rooms) w=true)->(∀H',ac H H'->Q (.bl true) H')->kP K vs H Q E
theorem Ak(a b:Str):decide (V.str a=V.str b)=decide (a=b):=decide_eq_decide.2 ⟨fun z=>by injection z,fun z=>by rw[z]⟩
theorem Bo{K:Za}{vs:List V}{H:Hp}{Q:VK}{E:XK}(h:kP K vs H Q E):sW K jj (bQ Q) (start tP vs) H:=by
 obtain⟨t,J,l1,l2,N,O,ts,us,w,J0,J1,rooms,l,rfl,T,m,B,U,gw,k⟩:=h;obtain⟨f1,f2⟩:=m.first;refine⟨_,rfl,t,_,2,.ref N,rfl,rfl,bc.of T.t,rfl,N,_,0,_,rfl,rfl,ax.of T.a3,bZ (j:=0) (by rw[eG,f1];rfl),?_⟩;refine⟨_,rfl,J,rfl,⟨_,ax.of B⟩,?_⟩
 let f:Nat->L2.St->Hp->Prop:=fun i σ q=>DW fun(r:Str) (Y:Option V)=>Gj (σ=[some (.ref t),some (.ref J),some (.str r),Y]) (Cb l r (w.drop i)=true) (ac H q)
 refine bG (xs:=us.map V.ref) f ⟨_,_,rfl,gw,ac.refl _⟩ (fun i σ q _ zq=>by obtain⟨_,_,_,_,S⟩:=zq;exact ax.of (S _ _ B)) ?_ ?_
 ·rintro i y σ v hi ⟨r,Y,rfl,hg,x⟩;obtain⟨u,hu,rfl⟩:=bE hi;obtain⟨d,hd,C⟩:=Paired.getL U hu;have al:=C.kt (ac.kt x);obtain⟨s,e,hs⟩:=C.kt (ac.kt x);have ed:w.drop i=d::w.drop (i+1):=by
   obtain⟨h1,h2⟩:=cE.1 hd;rw[qw h1,h2]
  rw[ed]at hg;have D:(decide (d.a=r) && ((if d.sg=aF then decide (d.b=r) && decide (r∉dj l)else decide (d∈l)) && Cb l d.b (w.drop (i+1))))=true:=hg
  rw[fZ,fZ]at D;obtain⟨g1,L,g3⟩:=D;refine⟨_,rfl,.ref u,"tuple",_,true,rfl,.inl (iG.tup e),rfl,_,rfl,aU ?_⟩;refine⟨_,rfl,.inl ⟨u,_,rfl,.inr (bc.of e),rfl,_,rfl,?_⟩⟩;refine ifQ (P:=False) (by simp) (fun z=>z.elim) fun _=>?_;refine⟨_,rfl,u,_,0,_,rfl,rfl,bc.of e,rfl,_,rfl,rfl,_,rfl,?_⟩;rw[Ak,g1];refine aU ?_;refine⟨_,rfl,u,_,1,_,rfl,rfl,bc.of e,rfl,(by show 1<=aj;decide),fun p G=>⟨fx d.sg,fx aF,aA (bH.sq (bH.kt (ac.kt (ac.new G)) hs)),aA (bc.of aa),Hb _,Hb _,_,rfl,?_⟩⟩;rw[cU];have I:ac v (upd v p (.tup [.str "hush"])):=ac.new G;generalize upd v p (.tup [.str "hush"])=H3 at I ⊢;have g:∀o,ac v o->(d.sg≠aF->d∈l)->(ao (cp (jY (aP (aB (vC K) (aB (eJ K) V3 (tC (.int 1))) (b_ (aE (tC (.str "hush")))))) (aP (aB (i6 K true) V3 (aB (eJ K) V0 (tC (.int 3)))))) (bo (tC (.bl false))) (bt))
    (aG (aB (eJ K) V3 (tC (.int 2))) U2)) { nx:=f (i+1),ct:=f (i+1),bk:=fun σ q=>Q (.bl true) q,rt:=Q } [some (.ref t),some (.ref J),some (.str r),some (.ref u)] o:=by
   intro o A an;have e4:=A _ _ e;have ap:=x.trans A;refine⟨_,rfl,u,_,1,_,rfl,rfl,bc.of e4,rfl,(by show 1<=aj;decide),fun p G=>⟨fx d.sg,fx aF,aA (bH.sq (bH.kt (ac.kt (A.trans (ac.new G))) hs)),aA (bc.of aa),Hb _,Hb _,_,rfl,?_⟩⟩;rw[cU];have M:ac o (upd o p (.tup [.str "hush"])):=ac.new G;generalize upd o p (.tup [.str "hush"])=H5 at M ⊢;have aq:=A.trans M;have n:=ap.trans M;have nx:(aG (aB (eJ K) V3 (tC (.int 2))) U2) { nx:=f (i+1),ct:=f (i+1),bk:=fun σ q=>Q (.bl true) q,rt:=Q } [some (.ref t),some (.ref J),some (.str r),some (.ref u)] H5:=⟨_,rfl,u,_,2,_,rfl,rfl,bc.of (M _ _ e4),rfl,_,_,rfl,g3,n⟩;by_cases c:d.sg=aF
   ·rw[zzr1 c];exact aU (aU nx)
   ·rw[zzr0 c];refine bN ?_;refine⟨_,rfl,_,rfl,t,_,3,.ref O,rfl,rfl,bc.of (n _ _ T.t),rfl,lq d,l.map lq,O,_,(al.kt (ac.kt aq)).dIn,rfl,.inl (ax.of (n _ _ T.a4)),b0.dIns (T.same n).ds,by rw[k4];decide,jw _,_,rfl,?_⟩;rw[if_pos rfl,show decide (lq d∈l.map lq)=decide (d∈l)from by rw[tV,decide_eq_true_iff,decide_eq_true_iff];exact vK,zzr1 (an c)];exact aU nx
  by_cases c:d.sg=aF
  ·rw[zzr1 c];rw[if_pos c,fZ]at L;obtain⟨b1,b2⟩:=L;refine bN ⟨_,rfl,u,_,2,_,rfl,rfl,bc.of (I _ _ e),rfl,_,rfl,rfl,_,rfl,?_⟩;rw[Ak,b1];refine aU ⟨_,rfl,_,rfl,t,l1,l2,N,O,ts,J0,J1,rooms,l,r,rfl,T.same (x.trans I),m,fun o A=>⟨_,rfl,?_⟩⟩;rw[b2];exact aU (g o (I.trans A) fun z=>absurd c z)
  ·rw[zzr0 c];rw[if_neg c]at L;exact aU (aU (g H3 I fun _=>of_decide_eq_true L))
 ·rintro σ v ⟨r,Y,rfl,hg,x⟩;exact k v x
theorem tD{K:Za}{C J:Addr}(u:∀H,bc K H J (aF.map V.str)){v:Sp}{L:List V}{H:Hp}{Q:VK}{E:XK}(h:nq C L H Q E):
  lH K (sp_with_still C) C (f_ K C) J v (bQ Q) (start lN L) H:=by
 obtain⟨x,t,s,face,f,N,O,rooms,e,rfl,M,T,U,z,hz,k⟩:=h;have A:∀d∈e,d.b∈rooms:=fun d hd=>(M.ok.good d hd).b;have z4:=M.ok.few;refine⟨_,rfl,fx f,fx aF,aA (bc.of U),aA (u _),by rw[aX];decide,by rw[aX];decide,_,rfl,?_⟩;rw[cU,zzr0 z];refine aU ?_;refine⟨(by show 0<=aj;decide),fun g B=>?_⟩;refine⟨_,rfl,t,rfl,⟨_,bc.of (kp T B)⟩,?_⟩
 let D:Nat->L2.St->Hp->Prop:=fun i σ m=>∃G:Option V,σ=[some (.ref x),some (.ref t),some (.ref s),some (.ref g),G]/\m g=some (.lst ((cH e f (face.take i)).map V.str))/\ac H m
 refine AH (xs:=face.map V.str) D
  ⟨_,rfl,aa,ac.new B⟩ (fun i σ m _ zq=>by obtain⟨_,_,_,S⟩:=zq;exact bc.of (S _ _ T)) ?_ ?_
 ·rintro i y σ H1 hi ⟨G,rfl,a,j⟩;obtain⟨r,hr,rfl⟩:=bq hi;have Y:=M.same j;obtain⟨dx,fs,o1,o2,o3,o4,lv,qu,al,sl,ts,an,ap,aq,g1,a1,a2,a3,a4,_⟩:=Y.at_;refine⟨_,rfl,.inl ⟨rfl,_,ax.of a⟩,_,rfl,x,dx,fs,rfl,g1,a2,_,rfl,_,rfl,x,s,r,f,N,O,rooms,e,rfl,Y,bc.of (j _ _ U),fun l H2 hl fr p=>?_⟩;have I:=p _ _ a;have n:((cH e f (face.take i)).map V.str).length+((aM e (r,f)).map V.str).length<=aj:=by
   rw[ak,ak];have h1:=nJ e f (face.take i);have h2:=pC e (r,f);have h3:(face.take i).length * e.length<=1000 * 1000:=Nat.mul_le_mul (by rw[bm];omega) z4;have:(1001000:Nat)<=aj:=by decide
   omega
  refine⟨g,l,_,_,rfl,rfl,I,hl,n,_,rfl,?_,?_⟩
  ·rw[aa,tJ hr,ar]
  ·intro b o q;rw[ai (ae q B)];exact p _ _ (j _ _ q)
 ·rintro σ H1 ⟨G,rfl,a,j⟩;rw[ak,bd]at a;refine⟨_,rfl,_,rfl,x,g,cH e f face,N,O,rooms,e,rfl,M.same j,a,fun w hw=>?_,fun t' F m h1 h2 p=>k t' F m h1 h2 (j.trans p)⟩;obtain⟨r,_,h⟩:=eD.mp hw;exact A _ h
theorem CP{K:Za}{C D:Addr}(g:∀H,bc K H D (aF.map V.str)){a:List V}{H:Hp}{Q:VK}{E:XK}(h:pZ K C a H Q E):
  lH K (sp_with_still C) C (f_ K C) D (gC C) (bQ Q) (start lN a) H:=by
 obtain⟨x,t,s,face,G,I,J,rooms,n,rfl,M,u,O,v,j,T,k⟩:=h;by_cases p:G=aF;rotate_left
 ·refine tD (E:=E) g ⟨x,t,s,face,G,I,J,rooms,n,rfl,M,u,v.resolve_left p,p,T,fun w F e U Y S=>k w e ?_ S⟩;rw[U,sw Y];unfold behF;rw[if_neg p]
 subst p;refine⟨_,rfl,fx aF,fx aF,aA O,aA (g _),by rw[aX];decide,by rw[aX];decide,_,rfl,?_⟩;rw[zzr1 rfl];refine bN ?_;refine⟨_,rfl,t,rfl,⟨_,bc.of u⟩,fun f hf=>?_⟩
 let y:Nat->List V->Hp->Prop:=fun i a e=>a=((face.take i).filter fun r=>decide (r∈rooms.filter (cX n))).map V.str/\ac H e/\e f=some (.lst a)
 refine xG (xs:=face.map V.str) y ⟨rfl,ac.new hf,aa⟩ (fun i a e _ zq=>by obtain⟨_,S,h'⟩:=zq;exact⟨h',bc.of (S _ _ u)⟩) ?_ ?_
 ·rintro a e ⟨rfl,S,l⟩;rw[ak,bd]at l;refine⟨f,_,rfl,.inl ⟨ax.of l,fun w z=>k w _ ?_ (S.trans (ac.new z))⟩⟩;rw[aa,CZ j];unfold behF;rw[if_pos rfl]
 ·rintro i a e x' A hi ⟨rfl,S,l⟩;obtain⟨r,L,rfl⟩:=bq A;have N:=M.same S;obtain⟨dx,fs,o1,o2,o3,o4,lv,qu,al,sl,ts,an,ap,aq,g1,a1,_⟩:=N.at_;refine gN ?_;refine⟨_,rfl,x,dx,fs,rfl,g1,a1,_,rfl,x,r,I,J,rooms,n,rfl,N,_,rfl,?_⟩;have m:(((face.take i).filter fun r=>decide (r∈rooms.filter (cX n))).map V.str).length<aj:=by
   rw[ak];refine ay (bp (cF _ _) ?_);rw[bm];omega
  refine gV (fun B=>?_) (fun B=>?_)
  ·refine⟨_,rfl,l,m,kq hi ⟨?_,?_,aa⟩⟩
   ·rw[bC L,if_pos B,ar];rfl
   ·intro b o q;rw[ai (ae q hf)];exact S _ _ q
  ·refine kq hi ⟨?_,S,l⟩;rw[bC L,if_neg B,cP]

theorem BV{K:Za}{k:Nat}{o:List Nat}{g:TG}{q:TT}{r:TE}{σ:L2.St}{s:Hp}{Q:Hp->Prop}{l a b:Addr}{xs ys:List V}(A:xs.length<=ys.length)(Pv:Nat->List V->Hp->Prop)(B:Pv 0 [] (upd s l (.lst [])))
  (m:∀i e H,i<=xs.length->Pv i e H->H l=some (.lst e)/\bc K H a xs/\bc K H b ys) (C:∀e H,Pv xs.length e H->Q H)
  (D:∀i e H x y p,xs[i]?=some x->ys[i]?=some y->i<xs.length->Pv i e H->H p=none->g (.ref p) (dz k o σ) (upd H p (.tup [x,y])) fun σ2 E=>q σ2 E fun b w =>
   if b=true then r σ2 w fun v z=>z l=some (.lst e)/\e.length<aj/\∃f,f<xs.length-i/\Wc xs.length Pv (i+1) f (e++[v]) (upd z l (.lst (e++[v])))else ∃f,f<xs.length-i/\Wc xs.length Pv (i+1) f e w) :
  ej k o σ (Fd K a b) g q r s l Q:=by
 refine jy xs.length Pv B (fun i e H hi p=>(m i e H hi p).1) (fun i e H hi p=>?_) (fun e H p=>?_) fun i e H x L hi p y=>?_
 ·obtain⟨_,h,j⟩:=m i e H (fj hi) p;have n:i<ys.length:=by omega
  exact⟨xs,ys,xs[i],ys[i],h,j,by simp[hi],by simp[n]⟩
 ·obtain⟨_,h,j⟩:=m _ e H (aN _) p;exact⟨⟨xs,ys,h,j,.inl (aN _)⟩,C e H p⟩
 ·obtain⟨_,h,j⟩:=m i e H (fj hi) p;obtain⟨t,u,v,rfl,G,I,J,rfl⟩:=y;exact D i e H u v t (I xs h) (J ys j) hi p G
mutual
def DT.few:DT->Prop
 |.k _=>True
 |.t l=>l.length<=1000/\DT.fews l
 |.s l=>l.length<=1000/\DT.fews l
def DT.fews:List DT->Prop
 |[]=>True
 |a::r=>DT.few a/\DT.fews r
end
theorem xC:∀{l:List DT}{i:Nat}{d:DT},DT.fews l->l[i]?=some d->DT.few d
 |[],_,_,_,h=>by cases h
 |a::r,0,d,h,e=>by injection e with e;rw[<-e];exact h.1
 |a::r,i+1,d,h,e=>xC h.2 (by rw[List.getElem?_cons_succ]at e;exact e)
theorem sD:∀n:Nat,(qg n true).all id=true
 |0=>rfl
 |n+1=>sD n
theorem CH{α:Type}(a:α)(n:Nat):qg n a++[a]=qg (n+1) a:=by
 rw[List.replicate_succ']
inductive dI(K:Za)(n:Nat)(vs:List V)(H:Hp)(Q:VK)(E:XK):Prop
 |mk (x y:V) (d:DT):(vs=[x,y])->(ib K H d x)->(ib K H d y)->(d.depth<=n)->(DT.few d)->(∀H',ac H H'->Q (.bl true) H')->dI K n vs H Q E
 |bb (b:Bool):(vs=[.bl b,.bl b])->(Q (.bl true) H)->dI K n vs H Q E
theorem pi{K:Za}{n:Nat}{H:Hp}{f b l:Addr}{xs j:List V}{m:List DT}{σ:L2.St}{J:It}{Q:Hp->Prop}(U:(J=Hf K f b/\ax K H f xs/\ax K H b j)∨(J=Fd K f b/\bc K H f xs/\bc K H b j))(E:DIns K H m xs)(G:DIns K H m j)(Y:DT.depths m<=n)(hz:m.length<=1000)(hf:DT.fews m)(I:H l=none)
  (k:∀a,ac H a->a l=some (.lst ((qg m.length true).map V.bl))->Q a) :
  ej 2 [] σ J (jZ K 2 (bO U0 (bO U1 (jO)))) (ka) (aQ (dI K n) (aY V0 V1)) H l Q:=by
 have lx:=DIns.len E;have ly:=DIns.len G
 let g:Nat->List V->Hp->Prop:=fun i h a=>h=(qg i true).map V.bl/\ac H a/\a l=some (.lst h)
 have r:∀h a,g xs.length h a->Q a:=by
  rintro h a ⟨rfl,S,q⟩;rw[lx]at q;exact k a S q
 have step:∀i h a x y p,xs[i]?=some x->j[i]?=some y->i<xs.length->g i h a->a p=none->(jZ K 2 (bO U0 (bO U1 (jO)))) (.ref p) (dz 2 [] σ) (upd a p (.tup [x,y])) fun σ2 H4=>(ka) σ2 H4 fun b L =>
   if b=true then(aQ (dI K n) (aY V0 V1)) σ2 L fun v M=>M l=some (.lst h)/\h.length<aj/\∃s,s<xs.length-i/\Wc xs.length g (i+1) s (h++[v]) (upd M l (.lst (h++[v])))else ∃s,s<xs.length-i/\Wc xs.length g (i+1) s h L:=by
  rintro i h u x y p hx hy hi ⟨rfl,S,h1⟩ hp;have w:ac u (upd u p (.tup [x,y])):=ac.new hp;have N:upd u p (.tup [x,y]) p=some (.tup [x,y]):=aa;generalize upd u p (.tup [x,y])=H2 at w N ⊢;obtain⟨d,A,dx⟩:=DIns.get E hx;obtain⟨d',z,O⟩:=DIns.get G hy;rw[A]at z;injection z with z;rw[<-z]at O;refine⟨p,_,rfl,bc.of N,rfl,_,_,rfl,_,_,rfl,rfl,u_ ?_⟩;refine⟨_,rfl,_,rfl,.mk x y d rfl (ib.same (S.trans w) dx) (ib.same (S.trans w) O) (sj Y A) (xC hf A) fun H3 S3=>?_⟩;have t:=w.trans S3;refine⟨t _ _ h1,by rw[ak,List.length_replicate];exact ay (by omega),kq hi ⟨by rw[<-CH,ar];rfl,fun b o e=>?_,aa⟩⟩;rw[ai (ae e I)];exact t _ _ (S _ _ e)
 have T:g 0 [] (upd H l (.lst [])):=⟨rfl,ac.new I,aa⟩;rcases U with⟨rfl,B,C⟩|⟨rfl,B,C⟩
 ·exact BW (xs:=xs) (ys:=j) (by omega) g T (fun i h a _ D=>by obtain⟨_,S,q⟩:=D;exact⟨q,ax.same S B,ax.same S C⟩) r step
 ·exact BV (xs:=xs) (ys:=j) (by omega) g T (fun i h a _ D=>by obtain⟨_,S,q⟩:=D;exact⟨q,bc.same S B,bc.same S C⟩) r step
theorem Bk{K:Za}{n:Nat}(N:n<=8){I:Sp}(o:∀m,n=m+1->I=dI K m){J:List V}{H:Hp}{Q:VK}{E:XK}(h:dI K n J H Q E):wE K I (bQ Q) (start xO J) H:=by
 rcases h with⟨x,y,d,rfl,hx,w,u,v,k⟩|⟨b,rfl,k⟩;rotate_left
 ·refine⟨_,rfl,_,rfl,?_⟩;rw[zzr0 (show ¬V.bl b=V.non from fun z=>by cases z)];refine aU ⟨_,rfl,_,"bool",.type "bool",true,rfl,.inl (.bl b),rfl,_,rfl,bN ?_⟩;refine⟨_,rfl,_,"bool",.type "bool",true,rfl,.inl (.bl b),rfl,_,rfl,bN ⟨_,rfl,_,rfl,?_,?_⟩⟩
  ·cases b<;>rfl
  ·rw[zzr1 rfl];exact k
 have a:=ib.kd hx;have p:=ib.kd w;refine⟨_,rfl,_,rfl,?_⟩;have L:decide (y=V.non)=false:=by cases p<;>exact zzr0 nofun
 rw[L];refine aU ?_;cases p with
 |int i =>
  cases a;refine⟨_,rfl,.int i,"bool",_,false,rfl,.inl (iG.int i),rfl,_,rfl,aU ?_⟩;refine⟨_,rfl,.int i,"str",_,false,rfl,.inl (iG.int i),rfl,_,rfl,aU ?_⟩;refine⟨_,rfl,.int i,"int",_,true,rfl,.inl (iG.int i),rfl,_,rfl,bN ?_⟩;refine⟨_,rfl,.int i,"int",_,true,rfl,.inl (iG.int i),rfl,_,rfl,bN ?_⟩;refine⟨_,rfl,.int i,"bool",_,false,rfl,.inl (iG.int i),rfl,_,rfl,_,rfl,bN ?_⟩;refine⟨_,rfl,_,rfl,_,_,hx,w,by omega,by omega,?_⟩;rw[zzr1 rfl];exact k H (ac.refl _)
 |str i =>
  cases a;refine⟨_,rfl,.str i,"bool",_,false,rfl,.inl (iG.str i),rfl,_,rfl,aU ?_⟩;refine⟨_,rfl,.str i,"str",_,true,rfl,.inl (iG.str i),rfl,_,rfl,bN ?_⟩;refine⟨_,rfl,.str i,"str",_,true,rfl,.inl (iG.str i),rfl,_,rfl,bN ?_⟩;refine⟨_,rfl,_,rfl,_,_,hx,w,by omega,by omega,?_⟩;rw[zzr1 rfl];exact k H (ac.refl _)
 |@tup b q M e r =>
  cases a with
  |@tup f s _ g t =>
  have ty:Gf K H (.ref b) (.type "tuple"):=.inr (.inl ⟨_,_,rfl,rfl,e⟩);have A:Gf K H (.ref f) (.type "tuple"):=.inr (.inl ⟨_,_,rfl,rfl,g⟩);obtain⟨m,rfl⟩:∃m,n=m+1:=⟨n-1,by have:=Dt u;omega⟩;obtain rfl:=o m rfl;refine⟨_,rfl,.ref b,"bool",_,false,rfl,ty,rfl,_,rfl,aU ?_⟩;refine⟨_,rfl,.ref b,"str",_,false,rfl,ty,rfl,_,rfl,aU ?_⟩;refine⟨_,rfl,.ref b,"int",_,false,rfl,ty,rfl,_,rfl,aU ?_⟩;refine⟨_,rfl,.ref b,"tuple",_,true,rfl,ty,rfl,_,rfl,bN ⟨_,rfl,.ref f,"tuple",_,true,rfl,A,rfl,_,rfl,aU ?_⟩⟩;refine⟨_,rfl,.ref b,"list",_,false,rfl,ty,rfl,_,rfl,aU (aU ?_)⟩;refine⟨_,rfl,.inl ⟨f,_,rfl,.inr g,_,rfl,.inl ⟨b,_,rfl,.inr e,rfl,_,rfl,?_⟩⟩⟩;have B:s.length=q.length:=by rw[DIns.len t,DIns.len r]
  have C:(!decide (V.int (s.length:Nat)=V.int (q.length:Nat)))=false:=by rw[zzr1 (by rw[B])];rfl
  rw[C];refine aU ⟨_,rfl,_,rfl,f,b,rfl,.inr ⟨⟨_,g⟩,⟨_,e⟩,fun l j=>?_⟩⟩;exact pi (.inr ⟨rfl,g,e⟩) t r (ER u) v.1 v.2 j fun D S G=>⟨l,_,rfl,ax.of G,by rw[sD];exact k D S⟩
 |@lst b q M e r =>
  cases a with
  |@lst f s _ g t =>
  have ty:Gf K H (.ref b) (.type "list"):=.inr (.inr ⟨_,_,rfl,rfl,e⟩);have A:Gf K H (.ref f) (.type "list"):=.inr (.inr ⟨_,_,rfl,rfl,g⟩);obtain⟨m,rfl⟩:∃m,n=m+1:=⟨n-1,by have:=Du u;omega⟩;obtain rfl:=o m rfl;refine⟨_,rfl,.ref b,"bool",_,false,rfl,ty,rfl,_,rfl,aU ?_⟩;refine⟨_,rfl,.ref b,"str",_,false,rfl,ty,rfl,_,rfl,aU ?_⟩;refine⟨_,rfl,.ref b,"int",_,false,rfl,ty,rfl,_,rfl,aU ?_⟩;refine⟨_,rfl,.ref b,"tuple",_,false,rfl,ty,rfl,_,rfl,aU (aU ?_)⟩;refine⟨_,rfl,.ref b,"list",_,true,rfl,ty,rfl,_,rfl,bN ⟨_,rfl,.ref f,"list",_,true,rfl,A,rfl,_,rfl,aU ?_⟩⟩;refine⟨_,rfl,.inl ⟨f,_,rfl,.inl g,_,rfl,.inl ⟨b,_,rfl,.inl e,rfl,_,rfl,?_⟩⟩⟩;have B:s.length=q.length:=by rw[DIns.len t,DIns.len r]
  have C:(!decide (V.int (s.length:Nat)=V.int (q.length:Nat)))=false:=by rw[zzr1 (by rw[B])];rfl
  rw[C];refine aU ⟨_,rfl,_,rfl,f,b,rfl,.inl ⟨⟨_,g⟩,⟨_,e⟩,fun l j=>?_⟩⟩;exact pi (.inl ⟨rfl,g,e⟩) t r (ES u) v.1 v.2 j fun D S G=>⟨l,_,rfl,ax.of G,by rw[sD];exact k D S⟩
theorem EI{K:Za}{H:Hp}{a:Addr}{f:Zb}{Q:VK}(h:H a=some (.tup (f.map V.str)))(k:∀g,ac H g->Q (.bl (!decide (f=[]))) g):∀e,H e=none->vC K (.ref a) (.ref e) (upd H e (.tup [])) Q:=fun e i=>by
 refine⟨fx f,fx [],aA (bc.of (ac.new i _ _ h)),aA (bc.of (xs:=([]:Zb).map V.str) aa),by rw[aX];decide,by rw[aX];decide,?_⟩;rw[cU];exact k _ (ac.new i)
theorem zB{K:Za}{H:Hp}{E l:Addr}{y:Ze}{w:List ag}{σ:L2.St}{Q:Hp->Prop}(z:H E=some (.lst (y.map V.ref)))(h:Paired (tS K H) y w)(U:w.length<=200000)(G:H l=none)
  (k:∀(a:Ze) (f:Hp),f l=some (.lst (a.map V.ref))->sG K f a (az w)->ac H f->Q f) :
  ej 1 [] σ (DX K E) U0 (aP (aB (CU K) (aB (mP K) V0 (tC (.int 1))) (b_ (aE (tC (.str "still")))))) (aB (mP K) V0 (tC (.int 1))) H l Q:=by
 let M:Nat->List V->Hp->Prop:=fun i j f=>∃a:List Addr,GP (j=a.map V.ref) (sG K f a (az (w.take i))) (ac H f) (f l=some (.lst j))
 refine bP (xs:=y.map V.ref) M ⟨[],rfl,.nil,ac.new G,aa⟩ (fun i j f _ N=>by obtain⟨_,_,_,S,m⟩:=N;exact⟨m,ax.of (S _ _ z)⟩) ?_ ?_
 ·rintro j f ⟨a,rfl,n,S,m⟩;rw[ak,Paired.length h,bd]at n;exact k a f m n S
 ·rintro i j A x hx hi ⟨a,rfl,n,S,m⟩;obtain⟨u,O,rfl⟩:=bE hx;obtain⟨d,I,B⟩:=Paired.getL h O;obtain⟨s,e,J⟩:=B.kt (ac.kt S);have Y:i<w.length:=(cE.1 I).1;refine gN ⟨_,rfl,.inr (.inl ⟨u,_,1,_,rfl,rfl,bc.of e,rfl,(by show 1<=aj;decide),fun p L=>⟨fx d.sg,fx stillSg,aA (bH.sq (bH.kt (ac.kt (ac.new L)) J)),aA (bc.of aa),by rw[aX];decide,by rw[aX];decide,_,rfl,?_⟩⟩)⟩;rw[cU];have g:ac A (upd A p (.tup [.str "still"])):=ac.new L;generalize upd A p (.tup [.str "still"])=C at g ⊢;have v:=BN I;have D:=g _ _ m;have t:=sG.same g n;by_cases c:d.sg=stillSg
  ·rw[zzr1 c]at v ⊢;refine aU (kq hi ⟨a,rfl,?_,S.trans g,D⟩);rw[v];show sG K C a (_++[]);rw[cP];exact t
  ·rw[zzr0 c]at v ⊢;have zg:=Paired.length n;have T:=zc (w.take i);rw[bm]at T;refine bN ⟨_,rfl,.inr (.inl ⟨u,_,1,_,rfl,rfl,bc.of (g _ _ e),rfl,D,?_,kq hi ⟨a++[s],by rw[ar];rfl,?_,fun b o q=>?_,aa⟩⟩)⟩
   ·rw[ak,j5];omega
   ·rw[v];have kt:iI C (upd C l (.lst (a.map V.ref++[.ref s]))):=cv D;exact eX (Paired.mapP t fun _ _ r=>bH.kt kt r) (bH.kt kt (bH.kt (ac.kt g) J))
   ·rw[ai (ae q G)];exact g _ _ (S _ _ q)
def wC(K:Za)(C_Machine:Addr)(sp_Machine_says:Sp):TS :=
 ao (aG (fk C_Machine "says" sp_Machine_says [] E0 V0 bR) U2)
 (ao (aG (mm) U3)
 (ao (d7 (pB K (aE V1)) (jZ K 2 (bO U4 (bO U5 (jO)))) (ao (cp (Bb (aP (aB (i6 K true) V5 V2)) (tB (yy K V5 V3))) (vf) (bt))
 (jm V3 V5 (tC (.bl true)))))
 (cp (aP (aB Ao (dW (CV K) (aE V3)) (dW (gf K) (aE V2)))) (vf) (bt))))
def xM:List Str:=["M","words","says","ahead","number","word"]
def sY(K:Za)(a_STILL:Addr):TS :=
 bo (tIf (jY (aP (aB Ao (aB (mP K) V0 (tC (.int 0))) (tC (.str "say")))) (aP (aB (i6 K false) (aB (mP K) V0 (tC (.int 1))) V1))) (tC (.ref a_STILL)) V0)
def tR:List Str:=["sign","words"]
def Cw(K:Za)(C_Machine:Addr)(sp_Machine_init:Sp)(sp_as_keys:Sp)(sp_Machine_rooms:Sp)(sp_Machine_asks:Sp)(sp_Machine_says:Sp)(sp_Machine_doors:Sp)(sp_hidden_sign:Sp)(sp_need_says:Sp):TS :=
 ao (cr (aQ sp_need_says (aY V0 V1)))
 (ao (aG (cZ 3 [1] (bS K (fk C_Machine "doors" sp_Machine_doors [] E0 V0 bR)) (jZ K 3 (bO U0 (bO U1 (bO U2 (jO))))) (ka) (b_ (dZ V0 (aQ sp_hidden_sign (aY V1 V3)) V2))) U2)
 (ao (aG (cZ 1 [1] (bS K (fk C_Machine "says" sp_Machine_says [] E0 V0 bR)) U0 (aP (aB (i6 K true) V0 V1)) V0) U3)
 (bo (Aj C_Machine sp_Machine_init [] E0 (aJ (fk C_Machine "asks" sp_Machine_asks [] E0 V0 bR) (dZ V3 (fk C_Machine "rooms" sp_Machine_rooms [] E0 V0 bR) (dW (yP K) (aE (aQ sp_as_keys (aE V2))))))))))
def DM:List Str:=["M","words","doors","says"]
def l7(K:Za):TS :=
 ao (aG (fA (bR)) U2)
 (ao (d7 (bS K V0) (jZ K 3 (bO U3 (bO U4 (bO U5 (jO))))) (ao (cp (jY (aP (aB Ao (aB (mP K) V4 (tC (.int 0))) (tC (.str "say")))) (aP (aB (i6 K false) (aB (mP K) V4 (tC (.int 1))) V1))) (aG (b_ (aE (tC (.str "still")))) U4) (bt))
 (cp (aP (aB (i6 K true) (b_ (dZ V3 V4 V5)) V2)) (cr (ua K "list" cR V2 (aE (b_ (dZ V3 V4 V5))))) (bt))))
 (bo V2))
def mE:List Str:=["doors","words","found","room","sign","other"]
def pF(K:Za)(sp_law_take:Sp)(sp_law_round:Sp)(sp_law_hidden_doors:Sp):TS :=
 ao (aG (fA (bR)) U2)
 (ao (d7 (bS K (aB (eJ K) V1 (tC (.int 1)))) U3 (ao (aG (aB Bw V2 (fA (aE V3))) U4)
 (ao (aG (Ed (aQ sp_law_round (aJ (aB (eJ K) V1 (tC (.int 2))) (aJ (aQ sp_law_hidden_doors (aY (aB (eJ K) V1 (tC (.int 3))) V4)) bR)))) U5)
 (cp (jY (aP (aB Bv (aQ sp_law_take (aY V0 (tC (.int 3)))) (tC (.int 0)))) (jY (tB V5) (aP (aB Es (dW (gf K) (aE V4)) (dW (gf K) (aE (aB (eJ K) V1 (tC (.int 1))))))))) (aG V4 U2) (bt)))))
 (bo V2))
def pS:List Str:=["pen","told","words","word","some","quiet"]
def sU(K:Za)(sp_law_take:Sp)(sp_law_face_on:Sp)(sp_law_face_at:Sp):TS :=
 ao (aG (aB Bw (aB Bw (cZ 1 [] (bS K (aB (eJ K) V1 (tC (.int 0)))) U0 (ka) (b_ (aY (tC (.str "ask")) V0))) (cZ 1 [] (bS K (aB (eJ K) V1 (tC (.int 1)))) U0 (ka) (b_ (aY (tC (.str "say")) V0)))) (fA (aE (b_ (aE (tC (.str "hush"))))))) U3)
 (ao (aG (aQ sp_law_face_at (aY V1 (fA (bR)))) U4)
 (ao (aG (fA (bR)) U5)
 (ao (d7 (uu (aJ (aQ sp_law_take (aY V0 (aB fq V2 (tC (.int 1))))) bR)) U6 (ao (aG (cZ 1 [1,4] (bS K V3) U0 (aP (aB (vC K) (aQ sp_law_face_on (dZ V1 V2 V0)) (b_ (bR)))) V0) U7)
 (ao (aG V3 U8)
 (ao (cp (jY (aP (aB (vC K) V7 (fA (bR)))) (aP (aB Bv (aQ sp_law_take (aY V0 (tC (.int 6)))) (tC (.int 0))))) (aG V7 U8) (bt))
 (ao (aG (aB (d_ K) V8 (aQ sp_law_take (aY V0 (dW (gf K) (aE V8))))) U9)
 (ao (cr (ua K "list" cR V5 (aE V9)))
 (aG (aQ sp_law_face_on (dZ V1 V4 V9)) U4)))))))
 (bo V5))))
def tN:List Str:=["pen","told","most","signs","face","story","turn","good","some","sign"]
def mY(K:Za):TS :=
 ao (aG (fA (bR)) U3)
 (ao (d7 (bS K V2) (jZ K 3 (bO U4 (bO U5 (bO U6 (jO))))) (ao (cp (jY (aP (aB (oG K) V5 (b_ (aE (tC (.str "still")))))) (aP (aB (i6 K true) (b_ (dZ V4 V5 V6)) (aB (eJ K) V0 (tC (.int 3)))))) (d7 (bS K V1) U7 (cp (jY (aP (aB (oG K) V5 (b_ (aE (tC (.str "still")))))) (aP (aB (i6 K false) (b_ (dZ V4 (b_ (aY (tC (.str "say")) V7)) V6)) (aB (eJ K) V0 (tC (.int 3)))))) (aG (b_ (aY (tC (.str "say")) V7)) U5) (bt))) (bt))
 (cr (ua K "list" cR V3 (aE (b_ (dZ V4 V5 V6)))))))
 (bo V3))
def nQ:List Str:=["told","words","walk","found","room","sign","other","word"]
def yg(K:Za):TS :=
 bo (cZ 1 [1] (bS K V0) U0 (Bb (aP (aB Fm (aB (mP K) V0 (tC (.int 0))) (tC (.str "say")))) (aP (aB (i6 K true) (aB (mP K) V0 (tC (.int 1))) V1))) V0)
def zP:List Str:=["story","words"]
def Ec(K:Za)(sp_law_face_at:Sp)(sp_law_left:Sp)(sp_law_is_walk:Sp)(sp_law_turned_back:Sp)(sp_law_same:Sp)(d9:Sp)(sp_walk_of:Sp)(sp_law_road_of:Sp)(sp_law_hidden_doors:Sp)(sp_hidden:Sp)(sp_law_machine:Sp)(sp_law_some_says:Sp)(sp_law_model:Sp)(sp_law_take:Sp)(sp_law_open:Sp):TS :=
 ao (aG (aQ sp_law_open (aE V0)) U1)
 (ao (aG (aQ sp_law_model (aJ V1 (aJ (tC (.int 6)) (aE (aQ sp_law_take (aY V1 (tC (.int 2)))))))) U2)
 (ao (aG (aQ sp_law_some_says (aY V1 V2)) U3)
 (ao (aG (aQ sp_hidden (aY (aQ sp_law_machine (aE V2)) (dW (cW K) (aE V3)))) U4)
 (ao (aG (aQ sp_law_road_of (dZ V1 V2 (tC (.int 14)))) U5)
 (ao (ow (aP (aB (FQ K) (aQ sp_law_face_at (aY V2 V5)) (b_ (bR)))) (cr (yz K "list" Bu V5)))
 (ao (cp (aP (aB Fl (aQ d9 (aY V4 (aQ sp_law_left (aJ V5 (aE V3))))) (tC (.bl true)))) (bo (tC (.bl false))) (bt))
 (ao (aG (cZ 1 [3] (bS K (aB (eJ K) V2 (tC (.int 1)))) U0 (aP (aB (i6 K true) V0 V1)) V0) U6)
 (ao (aG (b_ (aJ (aB (eJ K) V2 (tC (.int 0))) (aJ V6 (aJ (aB (eJ K) V2 (tC (.int 2))) (aJ (aQ sp_law_hidden_doors (aY (aB (eJ K) V2 (tC (.int 3))) V3)) bR))))) U7)
 (ao (aG (aQ sp_law_road_of (dZ V1 V7 (tC (.int 10)))) U8)
 (ao (aG (aB (CU K) (aQ sp_law_face_at (aY V7 V8)) (b_ (bR))) U9)
 (ao (aG (aQ sp_walk_of (aY V4 V8)) U10)
 (ao (cp (Bb (qV (tB (aQ sp_law_same (aY (aQ d9 (aJ V4 (aE V8))) V9)))) (aP (aB Fm V9 (Ai E_)))) (bo (tC (.bl false))) (bt))
 (ao (cp (qV (tB V9)) (bo (tC (.bl true))) (bt))
 (ao (cp (Bb (qV (tB (dW (oF K) (aY E_ (tC (.ty "list")))))) (qV (tB (aQ sp_law_is_walk (aY V7 E_))))) (bo (tC (.bl false))) (bt))
 (ao (aG (aQ sp_law_turned_back (dZ V2 V3 E_)) U11)
 (ao (cp (qV (tB (aQ sp_law_is_walk (aY V2 GN)))) (bo (tC (.bl false))) (bt))
 (ao (aG (cZ 1 [] (bS K GN) U0 (aP (aB (CU K) (aB (mP K) V0 (tC (.int 1))) (b_ (aE (tC (.str "still")))))) (aB (mP K) V0 (tC (.int 1)))) U12)
 (bo (ph (aB (FQ K) (aQ sp_law_left (aY GL V3)) V8) (aB (CU K) (aQ sp_law_face_at (aY V2 GL)) (b_ (bR))))))))))))))))))))))
def AV:List Str:=["script","pen","told","words","covered","story","says","under","row","due","walk","back","heard"]
def C0:List Str:=["script"]
theorem De{C x:Addr}{H:Hp}{g i rooms:Zb}{j:List ag}(h:bB C H x g i rooms j):∃(e:Addr) (fs:List (Str×V)),H x=some (.ins C e fs)/\lk "asks" fs=none/\lk "says" fs=none/\lk "rooms" fs=none/\lk "doors" fs=none/\lk "doors_from" fs=none/\lk "is_quiet" fs=none:=by
 obtain⟨e,fs,u,v,w,y,z,A,B,D,E,k,l,m,f,a1,a2,a3,n,_⟩:=h.at_;obtain⟨o,p,a,q,r,s,t⟩:=h.more;rw[f]at a;cases a;exact⟨e,fs,f,q,r,n,s,t,a1⟩
theorem FX{C x:Addr}{H:Hp}{k l rooms:Zb}{i:List ag}(h:bB C H x k l rooms i):∃(g e:Addr) (fs:List (Str×V)) (f:Ze),H x=some (.ins C g fs)/\lk "doors" fs=none/\lk "own_doors" fs=some (.ref e)/\H e=some (.lst (f.map V.ref))/\b0 H f i:=by
 obtain⟨g,fs,t,u,v,e,w,y,z,A,f,m,n,o,j,a1,a2,a3,B,D,E,G,p,I,J,M,N,L,_⟩:=h.at_;obtain⟨q,r,a,O,Q,s,T⟩:=h.more;rw[j]at a;cases a;exact⟨g,e,fs,f,j,s,p,L.a4,L.ds⟩
def vD(acc:List ag)(d:ag):List ag:=if d∈acc then acc else acc++[d]
def gF(ds:List ag):List ag:=ds.foldl vD []
theorem h7(a:List ag)(d:ag):gF (a++[d])=vD (gF a) d:=by
 unfold gF;rw[nU]
 rfl
theorem vI{a:List ag}:∀{d:ag},d∈gF a↔d∈a:=by
 refine cn (fun a=>∀{d:ag},d∈gF a↔d∈a) (fun{d}=>Iff.rfl) (fun f w h {d}=>?_) a;rw[h7];unfold vD;split
 ·rename_i q;rw[h,bg,dY];exact⟨.inl,fun z=>z.elim id fun e=>by rw[e];exact h.1 q⟩
 ·rw[bg,h,bg]
theorem C7(a:List ag):(gF a).Nodup:=by
 refine cn (fun a=>(gF a).Nodup) jB (fun f w h=>?_) a;show(gF (f++[w])).Nodup;rw[h7];unfold vD;split
 ·exact h
 ·rename_i q;exact cG.2 ⟨h,by simp,fun x hx y g e=>q (by rw[<-dY.1 g,<-e];exact hx)⟩
theorem Ax(a:List ag):(gF a).length<=a.length:=by
 refine cn (fun a=>(gF a).length<=a.length) (aN _) (fun e w h=>?_) a;show(gF (e++[w])).length<=(e++[w]).length;rw[h7,aD];unfold vD;split
 ·exact bp h (Nat.le_add_right _ _)
 ·rw[aD];exact Nat.succ_le_succ h
theorem BH(g:List ag):(dF (g.map jx)).map nT=(gF g).map jx:=by
 refine cn (fun g=>(dF (g.map jx)).map nT=(gF g).map jx) rfl (fun a w h=>?_) g;show(dF ((a++[w]).map jx)).map nT=(gF (a++[w])).map jx;rw[ar];show(dF (a.map jx++[jx w])).map nT=_;rw[ix,h7];unfold vD;by_cases c:w∈gF a
 ·rw[if_pos c];unfold c7;have i:((dF (a.map jx)).any fun f=>decide (f.1=jx w))=true:=by
   have:jx w∈(dF (a.map jx)).map nT:=by rw[h];exact i4 c
   obtain⟨f,j,e⟩:=aK.1 this;exact List.any_eq_true.2 ⟨f,j,zzr1 e⟩
  rw[if_pos i,nV,<-h];refine qC fun f _=>?_;show(if f.1=jx w then(f.1,V.bl true)else f).1=f.1
  split<;>rfl
 ·rw[if_neg c];have k:cz (dF (a.map jx)) (jx w)=none:=by
   cases q:cz (dF (a.map jx)) (jx w)with
   |none=>rfl
   |some v =>
    have:=xr (a.map jx) (jx w);rw[q]at this;exact absurd (vI.2 (vJ.1 (of_decide_eq_true this.symm))) c
  rw[kj _ k,ar,ar,h]
  rfl
def yk(K:Za):TS :=
 ao (aG (vn) U1)
 (ao (d7 (bS K V0) U2 (jm V1 V2 (tC (.bl true))))
 (bo V1))
inductive kf(K:Za)(vs:List V)(H:Hp)(Q:VK)(E:XK):Prop
 |mk (l:Addr) (ts:Ze) (ds:List ag):(vs=[.ref l])->(H l=some (.lst (ts.map V.ref)))->(b0 H ts ds)->(ds.length<=9000)->(∀d,H d=none->Q (.ref d) (upd H d (.dT (dF (ds.map jx)))))->kf K vs H Q E
theorem w_{K:Za}{r:List V}{H:Hp}{Q:VK}{E:XK}(h:kf K r H Q E):yk K (bQ Q) (start oX r) H:=by
 obtain⟨l,s,u,rfl,v,a,C,k⟩:=h;refine fun d m=>?_;have f:∀o,upd H d o l=some (.lst (s.map V.ref)):=fun o=>kp v m;refine⟨_,rfl,l,rfl,⟨_,ax.of (f _)⟩,?_⟩
 let n:Nat->L2.St->Hp->Prop:=fun i σ j=>∃x,σ=[some (.ref l),some (.ref d),x]/\j=upd H d (.dT (dF ((u.take i).map jx)))
 refine bG (xs:=s.map V.ref) n ⟨_,rfl,rfl⟩ (fun i σ j _ w=>by obtain⟨_,_,e⟩:=w;rw[e];exact ax.of (f _)) ?_ ?_
 ·rintro i x σ j hi ⟨y,rfl,rfl⟩;obtain⟨t,A,rfl⟩:=bE hi;obtain⟨B,p,q⟩:=Paired.getL a A;have g:(dF ((u.take i).map jx)).length<aj:=de (bp (uq _) (by rw[ak,bm];omega));refine⟨_,rfl,_,rfl,d,_,rfl,.inr ⟨_,jx B,t,aa,rfl,eO.tk (q.kt (ac.kt (ac.new m))),by rw[om];decide,g,rfl⟩,_,rfl,?_⟩;rw[mW,take_snoc p,ar];exact congrArg (fun z=>upd H d (.dT z)) (ix _ _).symm
 ·rintro σ j ⟨x,rfl,rfl⟩;rw[ak,Paired.length a,bd];exact⟨_,rfl,k d m⟩
def wU(K:Za):Sp:=fun vs H Q E=>sp_as_keys K vs H Q E∨kf K vs H Q E
def NoTup(K:Za)(t:Addr):Prop:=∀(u:Addr) (o:Obj) (its:Array Value) (n:Nat) (x:Str) (k:Tok) (r:Zf),K.lookup u=some o->o.data=.seq its n->its.toList=.str x k::r->(x=("still":Str)->u=t/\r=[])/\x≠("ask":Str)/\x≠("say":Str)/\∀a q,r≠.ref a::q
theorem Cq{K:Za}{H:Hp}:∀{e:Zb}{a:List V},TKCs K H (e.map pj) a->a=e.map V.str
 |[],a,h=>h
 |x::e,a,h=>by
  obtain⟨v,i,rfl,f,g⟩:=h;rw[Cq g,bx];have:v=V.str x:=f;rw[this]
theorem Cr{K:Za}{H:Hp}{t s:Addr}{i:Zb}(j:NoTup K t)(u:H t=some (.tup (stillSg.map V.str)))(g:i=stillSg∨(∃w,i=[("ask":Str),w])∨∃w,i=[("say":Str),w])(h:tK K H (BQ i) (.ref s)):SignAt H s i:=by
 obtain⟨b,A,e,m,z⟩:=h;cases e;have:=Cq z;subst this;rcases m with m|⟨o,a,n,l,_,d,_,v⟩
 ·exact m
 ·have f:∀(x:Str) (r:Zb),i=x::r->∃k p,a.toList=.str x k::p:=fun x r e=>by
   rw[e]at v;cases q:a.toList with
   |nil=>rw[q]at v;cases v
   |cons y p =>
    rw[q]at v;cases v with
    |cons hx B =>
     obtain⟨k,rfl⟩:=hx;exact⟨k,p,rfl⟩
  rcases g with rfl|⟨w,rfl⟩|⟨w,rfl⟩
  ·obtain⟨k,r,q⟩:=f _ _ rfl;obtain⟨rfl,_⟩:=(j s o a n _ k r l d q).1 rfl;exact u
  ·obtain⟨k,r,q⟩:=f _ _ rfl;exact absurd rfl (j s o a n _ k r l d q).2.1
  ·obtain⟨k,r,q⟩:=f _ _ rfl;exact absurd rfl (j s o a n _ k r l d q).2.2.1
theorem Ct{K:Za}{H:Hp}{m u:Addr}{d:ag}(p:NoTup K m)(x:H m=some (.tup (stillSg.map V.str)))(g:d.sg=stillSg∨(∃w,d.sg=[("ask":Str),w])∨∃w,d.sg=[("say":Str),w])(h:tK K H (jx d) (.ref u)):eO H u d:=by
 obtain⟨b,M,e,j,f⟩:=h;cases e;obtain⟨z,N,rfl,A,f⟩:=f;obtain⟨O,Q,rfl,t,f⟩:=f;obtain⟨B,C,rfl,D,f⟩:=f;obtain rfl:C=[]:=f;obtain rfl:z=V.str d.a:=A;obtain rfl:B=V.str d.b:=D;obtain⟨s,T,E,U,Y⟩:=id t;subst E;refine⟨s,?_,Cr p x g t⟩;rcases j with j|⟨o,i,n,l,_,G,_,v⟩
 ·exact j
 ·cases q:i.toList with
  |nil=>rw[q]at v;cases v
  |cons y r =>
   rw[q]at v;cases v with
   |cons hx I =>
    obtain⟨k,rfl⟩:=hx;have J:=(p u o i n _ k r l G q).2.2.2;cases I with
    |cons L hz =>
     cases L;exact absurd rfl (J _ _)
theorem t9{K:Za}{H:Hp}{i:Addr}(j:NoTup K i)(k:H i=some (.tup (stillSg.map V.str))):∀{g:Ze}{a:List (TK×V)}{f:List ag},(∀d∈f,d.sg=stillSg∨(∃w,d.sg=[("ask":Str),w])∨∃w,d.sg=[("say":Str),w])->a.map nT=f.map jx->Paired (fun u (l:TK×V)=>tK K H l.1 (.ref u)) g a->b0 H g f
 |[],[],[],_,_,_=>.nil
 |[],[],_::_,_,e,_=>by cases e
 |_::_,_::_,[],_,e,_=>by cases e
 |u::g,l::a,d::f,m,e,h=>by
  cases h with
  |cons n o =>
   rw[bx,bx]at e;injection e with p q;rw[p]at n;exact .cons (Ct j k (m d dP) n) (t9 j k (fun x hx=>m x (eQ _ hx)) q o)
def ju(J1:Zb):Nat->List Str->List Str->Option Nat
 |_,_,[]=>none
 |n,ahead,w::ws=>if w∈J1/\w∉ahead then ju J1 (n+1) (ahead++[w]) ws else some n
def lD(J1 words:Zb):Option Nat:=match ju J1 0 [] words with
 |some n=>some n
 |none=>if words.length=J1.length then some words.length else none
theorem xg{g:Zb}:∀{a ahead:Zb}{n:Nat},ju g n ahead a=none->(∀w∈a,w∈g/\w∉ahead)/\a.Nodup
 |[],_,_,_=>⟨by simp,jB⟩
 |w::a,ahead,n,h=>by
  unfold ju at h;split at h
  ·rename_i q;obtain⟨f,i⟩:=xg h;refine⟨fun x hx=>?_,mQ.2 ⟨fun z=>(f w z).2 (by simp),i⟩⟩;rcases du.1 hx with e|e
   ·rw[e];exact q
   ·exact⟨(f x e).1,fun z=>(f x e).2 (cJ _ z)⟩
  ·cases h
theorem qP{a words:Zb}(h:lD a words=none):(∀w∈words,w∈a)/\words.Nodup/\words.length<a.length:=by
 unfold lD at h;split at h
 ·cases h
 ·rename_i q;obtain⟨g,e⟩:=xg q;split at h
  ·cases h
  ·rename_i c;have f:∀w∈words,w∈a:=fun w i=>(g w i).1;have:=fD e f;exact⟨f,e,by omega⟩
theorem BG{a:Zb}(h:a.Nodup):(aL a).length=a.length:=by
 have:∀a:List Str,a.Nodup->(aL a).length=a.length:=by
  intro a;refine cn (fun a=>a.Nodup->(aL a).length=a.length) (fun _=>rfl) (fun a w f g=>?_) a;have e:=cG.1 g;show(aL (a++[w])).length=_;rw[cy,kj _ ?_,aD,aD,f e.1];rfl;rw[mw,if_neg fun z=>e.2.2 w z w (by simp) rfl]
 exact this a h
theorem ia{w:Str}{a:Zb}:decide (dX w∈a.map dX)=decide (w∈a):=decide_eq_decide.mpr jL
theorem EK{a b:Nat}:decide (V.int (a:Nat)=V.int (b:Nat))=decide (a=b):=decide_eq_decide.mpr ⟨fun h=>by injection h with h;omega,fun h=>by rw[h]⟩
theorem Ay{words:Zb}(a:words.Nodup){i:Nat}{w:Str}(h:words[i]?=some w):w∉words.take i:=fun z=>by
 have e:words.take i++words.drop i=words:=List.take_append_drop _ _;obtain⟨hi,rfl⟩:=cE.1 h;rw[qw hi]at e;rw[<-e]at a;exact(cG.1 a).2.2 _ z _ dP rfl
inductive g9(C:Addr)(vs:List V)(H:Hp)(Q:VK)(E:XK):Prop
 |mk (x l:Addr) (J0 J1 rooms words:Zb) (ds:List ag):(vs=[.ref x,.ref l])->(bB C H x J0 J1 rooms ds)->(H l=some (.lst (words.map V.str)))->(words.length<=100)->(lD J1 words=none)->(∀H',ac H H'->Q .non H')->g9 C vs H Q E
theorem vB{K:Za}{C:Addr}{O:List V}{H:Hp}{Q:VK}{E:XK}(h:g9 C O H Q E):wC K C (nh C) (bQ Q) (start xM O) H:=by
 obtain⟨x,l,J0,e,rooms,words,ds,rfl,M,T,hz,tv,k⟩:=h;obtain⟨D,n,al⟩:=qP tv;have m:=M.ok;obtain⟨dx,fs,g1,a1,a2,a3,a4,_⟩:=De M;refine⟨_,rfl,x,dx,fs,rfl,g1,a2,x,J0,e,rooms,ds,rfl,M,fun f G=>?_⟩;have I:ac H (upd H f (.lst (e.map V.str))):=ac.new G;have U:upd H f (.lst (e.map V.str)) f=some (.lst (e.map V.str)):=aa;generalize upd H f (.lst (e.map V.str))=u at I U ⊢;refine fun d Y=>?_;have J:ac u (upd u d (.dK [])):=ac.new Y;have d2:upd u d (.dK []) d=some (.dK (aL [])):=aa;generalize upd u d (.dK [])=H2 at J d2 ⊢;have fd:H d=none:=I.free Y;have r:=I.trans J;refine⟨_,rfl,l,rfl,⟨_,ax.of (r _ _ T)⟩,?_⟩;refine iz (xs:=words.map V.str) (fun i σ A=>∃y z,σ=[some (.ref x),some (.ref l),some (.ref f),some (.ref d),y,z]/\ac H A/\A f=some (.lst (e.map V.str))/\A d=some (.dK (aL (words.take i)))) ⟨_,_,rfl,r,J _ _ U,d2⟩ (fun i σ A _ zq=>by obtain⟨_,_,_,S,_⟩:=zq;exact ax.of (S _ _ T)) ?_ ?_
 ·rintro i v σ s p hi ⟨y,z,rfl,S,L,g⟩ N;obtain⟨w,B,rfl⟩:=bq hi;have il:=(cE.1 B).1;refine⟨p,_,rfl,bc.of aa,rfl,_,_,rfl,_,_,rfl,rfl,?_⟩;have a:upd s p (.tup [.int i,.str w]) f=_:=kp L N;have j:upd s p (.tup [.int i,.str w]) d=_:=kp g N;have S4:ac H (upd s p (.tup [.int i,.str w])):=S.trans (ac.new N);generalize upd s p (.tup [.int i,.str w])=H4 at a j S4 ⊢;refine⟨_,rfl,_,rfl,dX w,e.map dX,f,_,gJ _,rfl,.inl (ax.of a),fH e,c9 _,by rw[cT];decide,_,rfl,?_⟩;show if(if true=true then !decide (dX w∈e.map dX)else _)=true then _ else _
  rw[if_pos rfl,ia];rw[zzr1 (D w (cV B))];refine aU ⟨_,rfl,_,rfl,d,_,rfl,.inl ⟨_,.inr w,.inl j,rfl,rfl⟩,_,rfl,?_⟩;rw[dL,zzr0 (Ay n B)];have t:(aL (words.take i)).length<aj:=ay (bp (iw _) (by rw[bm];omega));refine aU ⟨_,rfl,_,rfl,d,_,rfl,.inl ⟨_,.inr w,j,rfl,t,rfl⟩,_,_,rfl,fun b o q=>?_,?_,?_⟩
  ·rw[ai (ae q fd)];exact S4 _ _ q
  ·rw[ai (fun z=>by rw[z,j]at a;cases a)];exact a
  ·rw[aa,take_snoc B];exact congrArg (fun z=>some (HO.dK z)) (cy _ _).symm
 ·rintro σ s ⟨y,z,rfl,S,L,g⟩;rw[ak,bd]at g;refine⟨_,rfl,.inr ⟨d,_,rfl,.inl g,_,rfl,.inl ⟨f,_,rfl,.inl (ax.of L),rfl,_,rfl,?_⟩⟩⟩;rw[BG n,ak,EK,zzr0 (by omega)];exact aU (k _ S)
def cB(w:Str):List Str:=[("say":Str),w]
def fE(ws:Zb)(sg:Zb):List Str:=if sg∈ws.map cB then stillSg else sg
def cK(ws:Zb)(d:ag):ag:=⟨d.a,fE ws d.sg,d.b⟩
def aT(ws:Zb)(ds:List ag):List ag:=gF (ds.map (cK ws))
def dS(ws J1:Zb):List Str:=J1.filter fun w=>!decide (w∈ws)
theorem CF{ws a:Zb}(g:a=stillSg∨(∃w,a=[("ask":Str),w])∨∃w,a=cB w):∃x r,a=x::r/\((x=("say":Str)/\∃w,r=[w]/\fE ws a=if w∈ws then stillSg else a)∨(x≠("say":Str)/\fE ws a=a)):=by
 have f:∀{x:Str}{r:Zb},x≠"say"->fE ws (x::r)=x::r:=fun{x r} h=>by
  unfold fE;rw[if_neg];intro z;obtain⟨w,_,e⟩:=aK.1 z;unfold cB at e;injection e with e;exact h e.symm
 rcases g with rfl|⟨w,rfl⟩|⟨w,rfl⟩
 ·exact⟨_,_,rfl,.inr ⟨by decide,f (by decide)⟩⟩
 ·exact⟨_,_,rfl,.inr ⟨by decide,f (by decide)⟩⟩
 ·refine⟨_,_,rfl,.inl ⟨rfl,w,rfl,?_⟩⟩;unfold fE;by_cases c:w∈ws
  ·rw[if_pos c,if_pos (i4 c)]
  ·rw[if_neg c,if_neg];intro z;obtain⟨v,i,e⟩:=aK.1 z;unfold cB at e;injection e with _ e;injection e with e;exact c (e▸i)
def fJ(K:Za)(H:Hp)(aS:Addr):Prop:=bT K bM "STILL"=some (some (.ref aS))/\NoTup K aS/\H aS=some (.tup (stillSg.map V.str))
theorem fJ.same{K:Za}{H a:Hp}{e:Addr}(h:fJ K H e)(S:ac H a):fJ K a e:=⟨h.1,h.2.1,S _ _ h.2.2⟩
theorem fJ.eq{K:Za}{H:Hp}{e a:Addr}(h:fJ K H e)(g:bT K bM "STILL"=some (some (.ref a))):a=e:=by
 have:=g.symm.trans h.1;injection this with this;injection this with this;injection this
inductive jF(K:Za)(vs:List V)(H:Hp)(Q:VK)(E:XK):Prop
 |mk (aS s l:Addr) (sg words:Zb):(vs=[.ref s,.ref l])->(fJ K H aS)->(SignAt H s sg)->(sg=stillSg∨(∃w,sg=[("ask":Str),w])∨∃w,sg=cB w)->(H l=some (.lst (words.map V.str)))->(∀u,SignAt H u (fE words sg)->Q (.ref u) H)->jF K vs H Q E
theorem yL{K:Za}{i:Addr}(c:bT K bM "STILL"=some (some (.ref i))){m:List V}{H:Hp}{Q:VK}{E:XK}(h:jF K m H Q E):sY K i (bQ Q) (start tR m) H:=by
 obtain⟨a,s,l,n,words,rfl,st,f,g,o,k⟩:=h;obtain rfl:=st.eq c;have f:H s=some (.tup (n.map V.str)):=f;obtain⟨x,r,rfl,g⟩:=CF (ws:=words) g;refine⟨_,rfl,.inr (.inl ⟨s,_,0,.str x,rfl,rfl,bc.of f,bZ (j:=0) rfl,rfl,_,rfl,?_⟩)⟩;rcases g with⟨rfl,w,rfl,e⟩|⟨p,e⟩
 ·rw[zzr1 rfl];refine bN ⟨_,rfl,.inr (.inl ⟨s,_,1,.str w,rfl,rfl,bc.of f,bZ (j:=1) rfl,_,rfl,dX w,words.map dX,l,_,gJ _,rfl,.inl (ax.of o),fH words,c9 _,by rw[cT];decide,_,rfl,?_⟩)⟩;show if(if false=true then _ else decide (dX w∈words.map dX))=true then _ else _
  rw[ia];show if decide (w∈words)=true then _ else _
  rw[e]at k;by_cases c:w∈words
  ·rw[zzr1 c];rw[if_pos c]at k;exact bN (k _ st.2.2)
  ·rw[zzr0 c];rw[if_neg c]at k;exact aU ⟨_,rfl,k _ f⟩
 ·rw[zzr0 (fun z=>p (by injection z))];rw[e]at k;exact aU (aU ⟨_,rfl,k _ f⟩)
theorem xy(words a:Zb):(dS words a).length<=a.length:=cF _ _
theorem jN(words:Zb)(a:List ag):(aT words a).length<=a.length:=by
 have:=Ax (a.map (cK words));rw[ak]at this;exact this
theorem gG{words a:Zb}{w:Str}:w∈dS words a↔w∈a/\w∉words:=by
 unfold dS;rw[bA];exact and_congr Iff.rfl (by simp)
theorem zb{words a:Zb}(e:a.Nodup)(h:lD a words=none):dS words a≠[]:=fun z=>by
 obtain⟨g,i,j⟩:=qP h;have:∀w∈a,w∈words:=fun w f=>Decidable.by_contra fun c=>by
  have:=gG.2 ⟨f,c⟩;rw[z]at this;cases this
 have:=fD e this;omega
theorem se{h i rooms words a:Zb}(g:(∃w∈h,a=[("ask":Str),w])∨(∃w∈i,a=[("say":Str),w])∨a=stillSg):
  (∃w∈h,fE words a=[("ask":Str),w])∨(∃w∈dS words i,fE words a=[("say":Str),w])∨fE words a=stillSg:=by
 by_cases c:a∈words.map cB
 ·unfold fE;rw[if_pos c];exact .inr (.inr rfl)
 ·have e:fE words a=a:=if_neg c;rw[e];refine g.imp id (Or.imp (fun z=>?_) id);obtain⟨w,j,q⟩:=z;exact⟨w,gG.2 ⟨j,fun y=>c (by rw[q];exact i4 (f:=cB) y)⟩,q⟩
theorem uv{k f rooms words:Zb}{i:List ag}(m:aW k f rooms i)(h:lD f words=none):sL k (dS words f) rooms (aT words i):=by
 have o:=m.few;have p:=xy words f;have q:=jN words i;have r:=m.says4;refine⟨m.okA,⟨m.okS.1.filter _,fun w j=>m.okS.2 w (gG.1 j).1⟩,fun w j=>m.apart w (gG.1 j).1,m.okR,m.asks0,zb m.okS.1 h,m.rooms0,m.asks4,by omega,m.rooms26,C7 _,fun d l=>?_,by omega⟩;obtain⟨e,n,rfl⟩:=aK.1 (vI.1 l);have g:=m.good e n;exact⟨g.a,g.b,se (rooms:=rooms) g.sg⟩
theorem nH{a f rooms:Zb}{d:ag}(g:uH a f rooms d):d.sg=stillSg∨(∃w,d.sg=[("ask":Str),w])∨∃w,d.sg=cB w:=by
 rcases g.sg with⟨w,_,e⟩|⟨w,_,e⟩|e
 ·exact .inr (.inl ⟨w,e⟩)
 ·exact .inr (.inr ⟨w,e⟩)
 ·exact .inl e
inductive jE(K:Za)(C:Addr)(vs:List V)(H:Hp)(Q:VK)(E:XK):Prop
 |mk (aS x l:Addr) (J0 J1 rooms words:Zb) (ds:List ag):(vs=[.ref x,.ref l])->(fJ K H aS)->(bB C H x J0 J1 rooms ds)->(H l=some (.lst (words.map V.str)))->(words.length<=100)->(lD J1 words=none)->(aW J0 (dS words J1) rooms (aT words ds))->(∀y H',bB C H' y J0 (dS words J1) rooms (aT words ds)->ac H H'->Q (.ref y) H')->jE K C vs H Q E
theorem yJ{K:Za}{C:Addr}{n:List V}{H:Hp}{Q:VK}{E:XK}(h:jE K C n H Q E):Cw K C (nn C) (wU K) (io C) (p7 C) (nh C) (rA C) (jF K) (g9 C) (bQ Q) (start DM n) H:=by
 obtain⟨aS,x,l,z,r,rooms,words,A,rfl,st,M,hl,hz,tv,mh,k⟩:=h;have m:=M.ok;have z4:=m.few;have z3:=m.rooms26;have zs:=m.says4;refine⟨_,rfl,_,rfl,x,l,z,r,rooms,words,A,rfl,M,hl,hz,tv,fun H1 S1=>?_⟩;obtain⟨dx,o4,fs,ts,g1,b1,b2,b3,b4⟩:=FX (M.same S1);refine⟨_,rfl,x,dx,fs,rfl,g1,b1,x,dx,o4,fs,ts,rfl,g1,b2,b3,fun w hw=>?_⟩;have S2:ac H1 (upd H1 w (.lst (ts.map V.ref))):=ac.new hw;have w2:upd H1 w (.lst (ts.map V.ref)) w=some (.lst (ts.map V.ref)):=aa;have D2:=b4.kt (ac.kt S2);refine⟨w,rfl,⟨_,ax.of w2⟩,?_⟩;generalize upd H1 w (.lst (ts.map V.ref))=H2 at S2 w2 D2 ⊢;have B:=S1.trans S2;have I:=B _ _ hl;have an:=st.same B;have a7:=Paired.length D2;refine fun f hf=>?_;refine bP (xs:=ts.map V.ref) (fun i n j=>∃us:List Addr,n=us.map V.ref/\b0 j us ((A.take i).map (cK words))/\ac H2 j/\j f=some (.lst n)) ⟨[],rfl,.nil,ac.new hf,aa⟩ (fun i n j _ zq=>by obtain⟨_,_,_,S,h'⟩:=zq;exact⟨h',ax.of (S _ _ w2)⟩) ?_ ?_;rotate_left
 ·rintro i n j xv hx hi ⟨us,rfl,D,S,f'⟩;obtain⟨t,ht,rfl⟩:=bE hx;obtain⟨dr,ap,a8⟩:=Paired.getL D2 ht;obtain⟨s,a9,bb⟩:=a8.kt (ac.kt S);have gd:=m.good dr (cV ap);refine⟨t,_,rfl,bc.of a9,rfl,_,_,rfl,_,_,rfl,_,_,rfl,rfl,?_⟩;refine u_ ⟨_,rfl,_,rfl,_,rfl,aS,s,l,dr.sg,words,rfl,an.same S,bb,nH gd,S _ _ I,fun u hu=>⟨_,rfl,(by show 3<=aj;decide),fun p J=>⟨kp f' J,?_,kq hi ⟨us++[p],by rw[ar];rfl,?_,?_,aa⟩⟩⟩⟩
  ·rw[ak,Paired.length D,ak];exact de (by rw[bm];omega)
  ·rw[take_snoc ap,ar];have f2:=kp (x:=.tup [.str dr.a,.ref u,.str dr.b]) f' J;exact Paired.app ((D.kt (ac.kt (ac.new J))).kt (cv (kp f' J))) (.cons (eO.kt (cv (kp f' J)) ⟨u,aa,kp hu J⟩) .nil)
  ·intro b o q;rw[ai (ae q hf)];exact kp (S _ _ q) J
 rintro n H3 ⟨us,rfl,D3,S3,f3⟩;rw[ak,a7,bd]at D3;have L:=B.trans S3;obtain⟨N,O,T,a1,a2,a3,a4,_⟩:=De (M.same L);refine⟨_,rfl,x,N,O,rfl,T,a2,x,z,r,rooms,A,rfl,M.same L,fun sl bi=>⟨sl,rfl,⟨_,ax.of aa⟩,fun g hg=>?_⟩⟩;have S4:ac H3 (upd H3 sl (.lst (r.map V.str))):=ac.new bi;have s4:upd H3 sl (.lst (r.map V.str)) sl=some (.lst (r.map V.str)):=aa;generalize upd H3 sl (.lst (r.map V.str))=H4 at S4 s4 hg ⊢;have aq:=S4 _ _ (S3 _ _ I);refine bP (xs:=r.map V.str) (fun i n j=>n=((r.take i).filter fun w=>!decide (w∈words)).map V.str/\ac H4 j/\j g=some (.lst n)) ⟨rfl,ac.new hg,aa⟩ (fun i n j _ zq=>by obtain⟨_,S,h'⟩:=zq;exact⟨h',ax.of (S _ _ s4)⟩) ?_ ?_;rotate_left
 ·rintro i n j xv hx hi ⟨rfl,S,g'⟩;obtain⟨w,hw,rfl⟩:=bq hx;refine gN ⟨_,rfl,_,rfl,dX w,words.map dX,l,_,gJ _,rfl,.inl (ax.of (S _ _ aq)),fH words,c9 _,by rw[cT];decide,_,rfl,?_⟩;show if(if true=true then !decide (dX w∈words.map dX)else _)=true then _ else _
  rw[if_pos rfl,ia];refine gV (fun c=>?_) (fun c=>?_)
  ·refine⟨_,rfl,g',?_,kq hi ⟨?_,?_,aa⟩⟩
   ·rw[ak];refine ay (bp (cF _ _) ?_);rw[bm];omega
   ·rw[bC hw,if_pos c,ar];rfl
   ·intro b o q;rw[ai (ae q hg)];exact S _ _ q
  ·refine kq hi ⟨?_,S,g'⟩;rw[bC hw,if_neg c,cP]
 rintro n H5 ⟨rfl,S5,g5⟩;rw[ak,bd]at g5;have g5:H5 g=some (.lst ((dS words r).map V.str)):=g5;have v:=S4.trans S5;have U:=L.trans v;have f5:=v _ _ f3;have D5:=D3.kt (ac.kt v);clear S1 S2 B S3 S4 S5 s4 aq D3 f3 w2 I an D2;refine⟨_,rfl,x,N,O,rfl,v _ _ T,a1,x,z,r,rooms,A,rfl,M.same U,fun al bl=>?_⟩;have S6:ac H5 (upd H5 al (.lst (z.map V.str))):=ac.new bl;have e6:upd H5 al (.lst (z.map V.str)) al=some (.lst (z.map V.str)):=aa;generalize upd H5 al (.lst (z.map V.str))=H6 at S6 e6 ⊢;have bn:=v.trans S6;refine⟨_,rfl,_,rfl,x,N,O,rfl,bn _ _ T,a3,x,z,r,rooms,A,rfl,M.same (U.trans S6),fun rl b5=>?_⟩;have S7:ac H6 (upd H6 rl (.lst (rooms.map V.str))):=ac.new b5;have e7:upd H6 rl (.lst (rooms.map V.str)) rl=some (.lst (rooms.map V.str)):=aa;generalize upd H6 rl (.lst (rooms.map V.str))=H7 at S7 e7 ⊢;have G:=S6.trans S7;refine⟨_,rfl,Or.inr ⟨f,us,A.map (cK words),rfl,G _ _ f5,D5.kt (ac.kt G),by rw[ak];omega,fun d hd=>⟨d,_,rfl,aa,fun ll Y as pr=>?_⟩⟩⟩;have S8:ac H7 (upd H7 d (.dT (dF ((A.map (cK words)).map jx)))):=ac.new hd;generalize upd H7 d (.dT (dF ((A.map (cK words)).map jx)))=H8 at S8 pr as ⊢;have aC:ac H H8:=(U.trans G).trans S8;have a0:=st.same aC;have D8:b0 H8 Y (aT words A):=t9 a0.2.1 a0.2.2 (fun d hd=>nH ((uv m tv).good d hd)) (BH _) pr;have S9:ac H8 (upd H8 ll (.lst (Y.map V.ref))):=ac.new as;have e9:upd H8 ll (.lst (Y.map V.ref)) ll=some (.lst (Y.map V.ref)):=aa;generalize upd H8 ll (.lst (Y.map V.ref))=H9 at S9 e9 ⊢;have b6:=(G.trans S8).trans S9;have L9:Lists H9 al g rl ll Y z (dS words r) rooms (aT words A):=⟨S9 _ _ (S8 _ _ (S7 _ _ e6)),b6 _ _ g5,S9 _ _ (S8 _ _ e7),e9,D8.kt (ac.kt S9)⟩;have a5:=aC.trans S9;refine fun y dy hy b7 b8=>?_;have b9:upd H9 dy (.own y) y=none:=by rw[ai b8.symm];exact hy
 have a6:ac H9 (upd (upd H9 dy (.own y)) y (.ins C dy [])):=(ac.new b7).trans (ac.new b9);have ext:∀j,cD y (upd (upd H9 dy (.own y)) y (.ins C dy [])) j->ac H j:=fun j ex b o e=>ex _ _ (a6 _ _ (a5 _ _ e)) (ae (a5 _ _ e) hy);exact⟨y,dy,al,g,rl,ll,Y,z,_,rooms,_,rfl,aa,L9.same a6,mh,fun j mb ex=>⟨rfl,k y j mb (ext j ex)⟩⟩
inductive gD(vs:List V)(H:Hp)(Q:VK)(E:XK):Prop
 |mk (l4 l:Addr) (ts:Ze) (words:Zb) (ds:List ag):(vs=[.ref l4,.ref l])->(H l4=some (.lst (ts.map V.ref)))->(b0 H ts ds)->(H l=some (.lst (words.map V.str)))->(ds.length<=1000)->(∀d∈ds,d.sg=stillSg∨(∃w,d.sg=[("ask":Str),w])∨∃w,d.sg=cB w)->(∀(f:Addr) (us:Ze) (H':Hp),H' f=some (.lst (us.map V.ref))->b0 H' us (aT words ds)->ac H H'->Q (.ref f) H')->gD vs H Q E
theorem rV{d:ag}{a:List ag}:decide (lq d∈a.map lq)=decide (d∈a):=decide_eq_decide.mpr ⟨fun z=>by
  obtain⟨e,f,q⟩:=aK.mp z;rw[<-AM q];exact f,fun z=>aK.mpr ⟨d,z,rfl⟩⟩
theorem w8{K:Za}{vs:List V}{H:Hp}{Q:VK}{E:XK}(h:gD vs H Q E):l7 K (bQ Q) (start mE vs) H:=by
 obtain⟨l4,l,ts,words,A,rfl,h4,M,hl,hz,gs,k⟩:=h;refine⟨(by show 0<=aj;decide),fun f hf=>?_⟩;have S0:ac H (upd H f (.lst [])):=ac.new hf;refine⟨_,rfl,l4,rfl,⟨_,ax.of (S0 _ _ h4)⟩,?_⟩;have ld:=Paired.length M;refine bG (xs:=ts.map V.ref) (fun i σ B=>Gi fun(x y z:Option V) (n:Ze)=>GP (σ=[some (.ref l4),some (.ref l),some (.ref f),x,y,z]) (ac H B) (B f=some (.lst (n.map V.ref))) (b0 B n (gF ((A.take i).map (cK words))))) ⟨_,_,_,[],rfl,S0,aa,.nil⟩ (fun i σ B _ zq=>by obtain⟨_,_,_,_,_,S,_⟩:=zq;exact ax.of (S _ _ h4)) ?_ ?_
 ·rintro i xv σ L hi ⟨x,y,z,n,rfl,S,C,D⟩;obtain⟨t,ht,rfl⟩:=bE hi;obtain⟨m,G,al⟩:=Paired.getL M ht;have il:=(cE.1 G).1;obtain⟨s,an,I⟩:=al.kt (ac.kt S);refine⟨t,_,rfl,bc.of an,rfl,_,_,rfl,_,_,rfl,_,_,rfl,rfl,?_⟩;obtain⟨x0,r,as,g⟩:=CF (ws:=words) (gs m (cV G));have N:L s=some (.tup ((x0::r).map V.str)):=as▸I;have J:∀(u:Addr) (v:Hp),ac L v->SignAt v u (fE words m.sg) ->
    cp (aP (aB (i6 K true) (b_ (dZ V3 V4 V5)) V2)) (cr (ua K "list" cR V2 (aE (b_ (dZ V3 V4 V5))))) (bt)
     { nx:=fun σ' B=>Gi fun(x y z:Option V) (n:Ze)=>GP (σ'=[some (.ref l4),some (.ref l),some (.ref f),x,y,z]) (ac H B) (B f=some (.lst (n.map V.ref))) (b0 B n (gF ((A.take (i+1)).map (cK words)))),rt:=Q } [some (.ref l4),some (.ref l),some (.ref f),some (.str m.a),some (.ref u),some (.str m.b)] v:=by
   intro u v S2 hu;have O:=S.trans S2;have f2:=S2 _ _ C;have D2:=D.kt (ac.kt S2);have en:gF ((A.take (i+1)).map (cK words))=vD (gF ((A.take i).map (cK words))) (cK words m):=by
    rw[take_snoc G,ar];exact h7 _ _
   have nl:=Ax ((A.take i).map (cK words));rw[ak,bm]at nl;rw[en];unfold vD;refine⟨_,rfl,_,rfl,_,rfl,(by show 3<=aj;decide),fun p T=>?_⟩;have U:ac v (upd v p (.tup [.str m.a,.ref u,.str m.b])):=ac.new T;have ap:eO (upd v p (.tup [.str m.a,.ref u,.str m.b])) p (cK words m):=⟨u,aa,kp hu T⟩;have Y:=U _ _ f2;have D3:=D2.kt (ac.kt U);have u3:SignAt (upd v p (.tup [.str m.a,.ref u,.str m.b])) u (fE words m.sg):=kp hu T;generalize upd v p (.tup [.str m.a,.ref u,.str m.b])=H3 at U ap Y D3 u3 ⊢;refine⟨_,rfl,lq (cK words m),(gF ((A.take i).map (cK words))).map lq,f,_,ap.dIn,rfl,.inl (ax.of Y),D3.dIns,by rw[k4];decide,jw _,_,rfl,?_⟩;show if(if true=true then !decide (lq (cK words m)∈(gF ((A.take i).map (cK words))).map lq)else _)=true then _ else _
   rw[if_pos rfl,rV];by_cases c:cK words m∈gF ((A.take i).map (cK words))
   ·rw[zzr1 c,if_pos c];exact aU ⟨_,_,_,n,rfl,O.trans U,Y,D3⟩
   ·rw[zzr0 c,if_neg c];refine bN ⟨_,rfl,.inl ⟨rfl,n.map V.ref,ax.of Y⟩,_,rfl,_,rfl,_,rfl,(by show 3<=aj;decide),fun q hq=>?_⟩;have S4:ac H3 (upd H3 q (.tup [.str m.a,.ref u,.str m.b])):=ac.new hq;have aq:eO (upd H3 q (.tup [.str m.a,.ref u,.str m.b])) q (cK words m):=⟨u,aa,kp u3 hq⟩;have f4:=S4 _ _ Y;refine⟨f,_,_,rfl,rfl,f4,?_,_,_,_,n++[q],rfl,?_,?_,?_⟩
    ·rw[ak,Paired.length D3];exact ay (by omega)
    ·intro b o e;rw[ai (ae e hf)];exact S4 _ _ (U _ _ (O _ _ e))
    ·rw[aa,ar];rfl
    ·exact Paired.app ((D3.kt (ac.kt S4)).kt (cv f4)) (.cons (aq.kt (cv f4)) .nil)
  refine⟨_,rfl,.inr (.inl ⟨s,_,0,.str x0,rfl,rfl,bc.of N,bZ (j:=0) rfl,rfl,_,rfl,?_⟩)⟩;rcases g with⟨rfl,w,rfl,e⟩|⟨nx,e⟩
  ·rw[zzr1 rfl];refine bN ⟨_,rfl,.inr (.inl ⟨s,_,1,.str w,rfl,rfl,bc.of N,bZ (j:=1) rfl,_,rfl,dX w,words.map dX,l,_,gJ _,rfl,.inl (ax.of (S _ _ hl)),fH words,c9 _,by rw[cT];decide,_,rfl,?_⟩)⟩;show if(if false=true then _ else decide (dX w∈words.map dX))=true then _ else _
   rw[ia];show if decide (w∈words)=true then _ else _
   by_cases c:w∈words
   ·rw[zzr1 c];rw[if_pos c]at e;refine bN ⟨(by show 1<=aj;decide),fun p T=>?_⟩;exact J p _ (ac.new T) (by rw[e];exact aa)
   ·rw[zzr0 c];rw[if_neg c]at e;exact aU (J s L (ac.refl _) (by rw[e];exact I))
  ·rw[zzr0 (fun z=>nx (by injection z))];exact aU (aU (J s L (ac.refl _) (by rw[e];exact I)))
 ·rintro σ L ⟨x,y,z,n,rfl,S,C,D⟩;rw[ak,ld,bd]at D;exact⟨_,rfl,k f n L C D S⟩
section
variable{J0 J1 rooms words:Zb}{ds:List ag}
theorem lJ:∀{a ahead:Zb}{n:Nat},(∀w∈a,w∈J1/\w∉ahead)->a.Nodup->ju J1 n ahead a=none
 |[],_,_,_,_=>rfl
 |w::a,ahead,n,h,e=>by
  unfold ju;rw[if_pos (h w dP)];have e:=mQ.1 e;refine lJ (fun x hx=>⟨(h x (eQ _ hx)).1,fun z=>?_⟩) e.2;rcases bg.1 z with z|z
  ·exact(h x (eQ _ hx)).2 z
  ·rw[dY.1 z]at hx;exact e.1 hx
theorem Ci(h:∀w∈words,w∈J1)(a:words.Nodup)(lt:words.length<J1.length):lD J1 words=none:=by
 unfold lD;rw[lJ (fun w e=>⟨h w e,by simp⟩) a];exact if_neg (by omega)
theorem F_(m:aW J0 J1 rooms ds)(h:lD J1 words=none)(a:∀r,¬Reach (aT words ds) r r):aW J0 (dS words J1) rooms (aT words ds) :=
 (uv m h).ok (bp (jN _ _) m.few) fun r _=>a r
theorem Bh(m:aW J0 J1 rooms ds)(a:List (List Str)):DJ ds (faceOf rooms ds a):=by
 have e:∀d∈ds,d.b∈rooms:=fun d f=>(m.good d f).b;refine cn (fun a=>DJ ds (faceOf rooms ds a)) (uf e) (fun g w _=>?_) a;show DJ ds (faceOf rooms ds (g++[w]));rw[dv];exact CC e
theorem f6:stillSg≠aF:=by decide
theorem kB(m:aW J0 J1 rooms ds){w:List ag}{r:Str}(h:lK ds (bV rooms) w r):r∈faceOf rooms ds (az w):=by
 induction h with
 |nil=>exact h9.2 ⟨m.first.2,bV rooms,by rw[m.take1];simp,.inl rfl⟩
 |@snoc w d h ok e =>
  rw[cC];by_cases c:d.sg=stillSg
  ·have:az [d]=[]:=by unfold az;simp[c]
   rw[this,cP];exact Bh m _ d (ok.2 (by rw[c];exact f6)) c e
  ·have:az [d]=[d.sg]:=by unfold az;simp[c]
   rw[this,dv];unfold behF;by_cases z:d.sg=aF
   ·rw[if_pos z,(ok.1 z).1];exact bA.2 ⟨e,zzr1 (ok.1 z).2⟩
   ·rw[if_neg z];have f:=ok.2 z;exact h9.2 ⟨(m.good d f).b,d.b,eD.2 ⟨d.a,e,f⟩,.inl rfl⟩
theorem tX{f:Str}{w:List ag}{g r:Str}(h:lK ds f w g)(e:Reach ds g r):∃v,lK ds f (w++v) r/\az v=[]:=by
 have st:∀{w:List ag}{a b:Str},lK ds f w a->(⟨a,stillSg,b⟩:ag)∈ds->lK ds f (w++[⟨a,stillSg,b⟩]) b:=fun{w a b} h e =>
  lK.snoc (d:=⟨a,stillSg,b⟩) h ⟨fun z=>absurd z f6,fun _=>e⟩
 have i:∀a b:Str,az [(⟨a,stillSg,b⟩:ag)]=[]:=fun a b=>by unfold az;simp
 induction e with
 |one e=>exact⟨_,st h e,i _ _⟩
 |step _ e j =>
  obtain⟨v,k,l⟩:=j;rename_i b c _;refine⟨v++[⟨b,stillSg,c⟩],?_,?_⟩
  ·rw[<-dw];exact st k e
  ·rw[cC,l,i];rfl
theorem wx(m:aW J0 J1 rooms ds)(a:List (List Str)):(∀f∈a,f≠stillSg)->∀r∈faceOf rooms ds a,∃w,lK ds (bV rooms) w r/\az w=a:=by
 refine cn (fun a=>(∀f∈a,f≠stillSg)->∀r∈faceOf rooms ds a,∃w,lK ds (bV rooms) w r/\az w=a) (fun _ r h=>?_) (fun x f l t r h=>?_) a
 ·obtain⟨_,g,n,e⟩:=h9.1 h;rw[m.take1]at n;rw[dY.1 n]at e;rcases e with rfl|e
  ·exact⟨[],.nil,rfl⟩
  ·obtain⟨v,i,o⟩:=tX .nil e;exact⟨v,i,o⟩
 ·have y:f≠stillSg:=t f (by simp);have l:=l fun s A=>t s (cJ _ A);have h:r∈faceOf rooms ds (x++[f]):=h;rw[dv]at h;unfold behF at h;by_cases z:f=aF
  ·rw[if_pos z]at h;obtain⟨i,o⟩:=bA.1 h;obtain⟨w,p,e⟩:=l r i;refine⟨w++[⟨r,aF,r⟩],lK.snoc (d:=⟨r,aF,r⟩) p ⟨fun _=>⟨rfl,of_decide_eq_true o⟩,fun q=>absurd rfl q⟩,?_⟩;have:az [(⟨r,aF,r⟩:ag)]=[aF]:=by
    unfold az;rw[lR,show(!decide ((⟨r,aF,r⟩:ag).sg=stillSg))=true by rw[zzr0 (fun q=>f6 q.symm)];rfl]
    rfl
   rw[cC,e,this,z]
  ·rw[if_neg z]at h;obtain⟨_,g,n,e⟩:=h9.1 h;obtain⟨j,B,C⟩:=eD.1 n;obtain⟨w,p,u⟩:=l j B;have k:lK ds (bV rooms) (w++[⟨j,f,g⟩]) g:=lK.snoc (d:=⟨j,f,g⟩) p ⟨fun q=>absurd q z,fun _=>C⟩;have i:az [(⟨j,f,g⟩:ag)]=[f]:=by
    unfold az;rw[lR,show(!decide ((⟨j,f,g⟩:ag).sg=stillSg))=true by rw[zzr0 y];rfl]
    rfl
   rcases e with rfl|e
   ·exact⟨_,k,by rw[cC,u,i]⟩
   ·obtain⟨v,D,E⟩:=tX k e;exact⟨_,D,by rw[cC,cC,u,i,E,cP]⟩
theorem tZ{j:Str}:∀{w i:List ag}{r:Str},lK ds j i r->Cb ds r w=true->∃e,lK ds j (i++w) e
 |[],i,r,h,_=>⟨r,by rw[cP];exact h⟩
 |d::w,i,r,h,g=>by
  unfold Cb at g;rw[fZ,fZ]at g;obtain⟨k,f,l⟩:=g;have e:d.a=r:=of_decide_eq_true k;have ok:ke ds d:=by
   by_cases z:d.sg=aF
   ·rw[if_pos z,fZ]at f;exact⟨fun _=>⟨by rw[e];exact of_decide_eq_true f.1,by rw[e];exact of_decide_eq_true f.2⟩,fun q=>absurd z q⟩
   ·rw[if_neg z]at f;exact⟨fun q=>absurd q z,fun _=>of_decide_eq_true f⟩
  rw[<-e]at h;obtain⟨m,q⟩:=tZ (lK.snoc h ok) l;exact⟨m,by rw[dw]at q;exact q⟩
def fU(words:Zb)(story:List (List Str)):List (List Str):=story.filter fun sg=>!decide (sg∈words.map cB)
theorem nF(words:Zb)(s t:List (List Str)):fU words (s++t)=fU words s++fU words t:=lS ..
def c6(words:Zb)(ds:List ag)(d:ag):ag:=if d.sg=stillSg/\d∉ds then(match words.find? (fun v=>decide ((⟨d.a,cB v,d.b⟩:ag)∈ds))with
 |some v=>⟨d.a,cB v,d.b⟩
 |none=>d)else d
theorem kW{d:ag}:d∈aT words ds↔∃e∈ds,cK words e=d:=by
 unfold aT;rw[vI,aK]
theorem rZ:aF∉words.map cB:=fun z=>by
 obtain⟨w,_,e⟩:=aK.1 z;unfold cB aF at e;injection e with e;exact absurd e (by decide)
theorem oE{w:Str}:cB w≠stillSg:=fun z=>by
 unfold cB stillSg at z;injection z with _ z;cases z
theorem xw{a b:Str}:ei ⟨a,stillSg,b⟩=false:=by
 unfold ei stillSg;exact zzr0 (by decide)
theorem BK{a w b:Str}:ei ⟨a,cB w,b⟩=false:=by
 unfold ei cB;exact zzr0 (by decide)
theorem AD(d:ag):ei (cK words d)=ei d:=by
 unfold cK fE;by_cases c:d.sg∈words.map cB
 ·rw[if_pos c];obtain⟨w,_,e⟩:=aK.1 c;cases d;simp only at e;subst e;rw[xw,BK]
 ·rw[if_neg c]
theorem xx{r:Str}:r∈dj (aT words ds)↔r∈dj ds:=by
 unfold dj;rw[aK,aK];constructor
 ·rintro⟨d,f,rfl⟩;obtain⟨g,a⟩:=bA.1 f;obtain⟨e,h,rfl⟩:=kW.1 g;rw[AD]at a;exact⟨e,bA.2 ⟨h,a⟩,rfl⟩
 ·rintro⟨d,f,rfl⟩;obtain⟨g,a⟩:=bA.1 f;exact⟨cK words d,bA.2 ⟨kW.2 ⟨d,g,rfl⟩,by rw[AD];exact a⟩,rfl⟩
theorem r_{a:Zb}:fE words a=aF↔a=aF:=by
 unfold fE;by_cases c:a∈words.map cB
 ·rw[if_pos c];exact⟨fun z=>absurd z f6,fun z=>by rw[z]at c;exact absurd c rZ⟩
 ·rw[if_neg c]
theorem Cy{d:ag}(ok:ke ds d):ke (aT words ds) (cK words d) :=
 ⟨fun z=>by
  have:=ok.1 (r_.1 z);exact⟨this.1,fun q=>this.2 (xx.1 q)⟩,fun z=>kW.2 ⟨d,ok.2 fun q=>z (r_.2 q),rfl⟩⟩
theorem mx{d:ag}(c:d.sg≠stillSg):az [d]=[d.sg]:=by
 unfold az;rw[lR,show(!decide (d.sg=stillSg))=true by rw[zzr0 c];rfl]
 rfl
theorem oR{d:ag}(c:d.sg=stillSg):az [d]=[]:=by
 unfold az;rw[lR,show(!decide (d.sg=stillSg))=false by rw[zzr1 c];rfl]
 rfl
theorem Dg{a:Zb}(c:a∉words.map cB):fU words [a]=[a]:=by
 unfold fU;rw[lR,show(!decide (a∈words.map cB))=true by rw[zzr0 c];rfl]
 rfl
theorem Dh{sg:Zb}(c:sg∈words.map cB):fU words [sg]=[]:=by
 unfold fU;rw[lR,show(!decide (sg∈words.map cB))=false by rw[zzr1 c];rfl]
 rfl
theorem BO(d:ag):az [cK words d]=fU words (az [d]):=by
 by_cases c:d.sg∈words.map cB
 ·have e:(cK words d).sg=stillSg:=if_pos c;have n:d.sg≠stillSg:=fun z=>by
   obtain⟨w,_,q⟩:=aK.1 c;exact oE (q.trans z)
  rw[oR e,mx n,Dh c]
 ·have e:(cK words d).sg=d.sg:=if_neg c;by_cases s:d.sg=stillSg
  ·rw[oR (e.trans s),oR s];rfl
  ·rw[mx (by rw[e];exact s),mx s,Dg c,e]
theorem D_{a:Str}{w:List ag}{r:Str}(h:lK ds a w r):lK (aT words ds) a (w.map (cK words)) r/\az (w.map (cK words))=fU words (az w):=by
 induction h with
 |nil=>exact⟨.nil,rfl⟩
 |@snoc w d h ok e =>
  rw[ar,cC,cC,nF,e.2];exact⟨lK.snoc (d:=cK words d) e.1 (Cy ok),by rw[<-BO];rfl⟩
theorem Bd(m:aW J0 J1 rooms ds)(f:aW J0 (dS words J1) rooms (aT words ds)){a:List (List Str)}(g:∀i∈a,i≠stillSg)(h:faceOf rooms ds a≠[]):faceOf rooms (aT words ds) (fU words a)≠[]:=by
 obtain⟨r,j⟩:=List.exists_mem_of_ne_nil _ h;obtain⟨w,k,e⟩:=wx m a g r j;obtain⟨l,n⟩:=D_ (words:=words) k;have:=kB f l;rw[n,e]at this;exact List.ne_nil_of_mem this
theorem qd(d:ag):(c6 words ds d).a=d.a/\(c6 words ds d).b=d.b/\((c6 words ds d).sg=d.sg∨(d.sg=stillSg/\(c6 words ds d).sg∈words.map cB)):=by
 unfold c6;by_cases c:d.sg=stillSg/\d∉ds
 ·rw[if_pos c];cases q:words.find? (fun v=>decide ((⟨d.a,cB v,d.b⟩:ag)∈ds))with
  |none=>exact⟨rfl,rfl,.inl rfl⟩
  |some v=>exact⟨rfl,rfl,.inr ⟨c.1,i4 (List.mem_of_find?_eq_some q)⟩⟩
 ·rw[if_neg c];exact⟨rfl,rfl,.inl rfl⟩
theorem Be{d:ag}(ok:ke (aT words ds) d):ke ds (c6 words ds d):=by
 obtain⟨h,i,j⟩:=qd (words:=words) (ds:=ds) d;refine⟨fun z=>?_,fun z=>?_⟩
 ·have f:d.sg=aF:=by
   rcases j with e|⟨_,e⟩
   ·rw[<-e];exact z
   ·rw[z]at e;exact absurd e rZ
  rw[h,i];exact⟨(ok.1 f).1,fun q=>(ok.1 f).2 (xx.2 q)⟩
 ·have f:d.sg≠aF:=fun q=>by
   have:c6 words ds d=d:=if_neg fun y=>f6 (y.1.symm.trans q);rw[this]at z;exact z q
  obtain⟨e,g,rfl⟩:=kW.1 (ok.2 f);by_cases c:(cK words e).sg=stillSg/\cK words e∉ds
  ·have k:e.sg∈words.map cB:=Decidable.by_contra fun q=>c.2 (by
    have:cK words e=e:=by
     have s:fE words e.sg=e.sg:=if_neg q;unfold cK;rw[s]
    rw[this];exact g)
   obtain⟨v,l,m⟩:=aK.1 k;unfold c6;rw[if_pos c];cases q:words.find? (fun v=>decide ((⟨(cK words e).a,cB v,(cK words e).b⟩:ag)∈ds))with
   |none =>
    have:=List.find?_eq_none.1 q v l;exact absurd (zzr1 (by show(⟨e.a,cB v,e.b⟩:ag)∈ds;rw[m];exact g)) this
   |some p =>
    have n:=List.find?_some q;exact of_decide_eq_true n
  ·have:c6 words ds (cK words e)=cK words e:=if_neg c;rw[this];by_cases s:(cK words e).sg=stillSg
   ·exact Decidable.by_contra fun q=>c ⟨s,q⟩
   ·have o:e.sg∉words.map cB:=fun q=>s (if_pos q);have:cK words e=e:=by
     have s:fE words e.sg=e.sg:=if_neg o;unfold cK;rw[s]
    rw[this];exact g
theorem ze{d:ag}(ok:ke (aT words ds) d):fU words (az [c6 words ds d])=az [d]:=by
 obtain⟨_,_,f⟩:=qd (words:=words) (ds:=ds) d;by_cases s:d.sg=stillSg
 ·rw[oR s];rcases f with e|⟨_,e⟩
  ·rw[oR (e.trans s)];rfl
  ·have n:(c6 words ds d).sg≠stillSg:=fun z=>by
    obtain⟨w,_,q⟩:=aK.1 e;exact oE (q.trans z)
   rw[mx n,Dh e]
 ·have e:(c6 words ds d).sg=d.sg:=f.resolve_right fun z=>s z.1;rw[mx s,mx (by rw[e];exact s),e];refine Dg fun z=>?_;by_cases q:d.sg=aF
  ·rw[q]at z;exact rZ z
  ·obtain⟨a,_,rfl⟩:=kW.1 (ok.2 q);by_cases y:a.sg∈words.map cB
   ·exact s (if_pos y)
   ·have:(cK words a).sg=a.sg:=if_neg y;rw[this]at z;exact y z
theorem Cj{e:Str}{w:List ag}{r:Str}(h:lK (aT words ds) e w r):lK ds e (w.map (c6 words ds)) r/\fU words (az (w.map (c6 words ds)))=az w:=by
 induction h with
 |nil=>exact⟨.nil,rfl⟩
 |@snoc w d h ok f =>
  obtain⟨i,j,_⟩:=qd (words:=words) (ds:=ds) d;rw[ar,cC,cC,nF,f.2];have k:lK ds e (w.map (c6 words ds)) (c6 words ds d).a:=by rw[i];exact f.1
  have g:=lK.snoc k (Be ok);rw[j]at g;exact⟨g,by rw[<-ze ok];rfl⟩
end
theorem fJ.kt{K:Za}{H a:Hp}{e:Addr}(h:fJ K H e)(S:iI H a):fJ K a e:=⟨h.1,h.2.1,S _ _ h.2.2⟩
theorem cD.ktP{p c:Addr}{H a:Hp}(e:cD p H a)(f:fV H p c):iI H a:=by
 obtain⟨g,hx⟩:=f.lst;exact e.kt hx
theorem r9{i j rooms words:Zb}{f:List ag}(m:aW i j rooms f):sL i j rooms (aT words f):=by
 have o:=m.few;have p:=jN words f;refine⟨m.okA,m.okS,m.apart,m.okR,m.asks0,m.says0,m.rooms0,m.asks4,m.says4,m.rooms26,C7 _,fun d k=>?_,by omega⟩;obtain⟨e,l,rfl⟩:=kW.1 k;have g:=m.good e l;refine⟨g.a,g.b,?_⟩;rcases se (rooms:=rooms) (words:=words) g.sg with h|⟨w,n,h⟩|h
 ·exact .inl h
 ·exact .inr (.inl ⟨w,(gG.1 n).1,h⟩)
 ·exact .inr (.inr h)
theorem C_{f g rooms words:Zb}{e:List ag}(m:aW f g rooms e)(h:∀r∈rooms,¬Reach (aT words e) r r):∀r,¬Reach (aT words e) r r:=fun r z=>by
 have:∀{b:Str},Reach (aT words e) r b->r∈rooms:=fun{b} i=>by
  induction i with
  |one j=>exact((r9 m).good _ j).a
  |step _ _ k=>exact k
 exact h r (this z) z
theorem vU{a:List ag}(g:a.Nodup):aT [] a=a:=by
 have e:a.map (cK [])=a:=by
  have:∀d:ag,cK [] d=d:=fun d=>rfl;rw[qC (fun d _=>this d),List.map_id']
 unfold aT;rw[e];have:∀a:List ag,a.Nodup->gF a=a:=by
  intro a;refine cn (fun a=>a.Nodup->gF a=a) (fun _=>rfl) (fun h w i g=>?_) a;have f:=cG.1 g;show gF (h++[w])=_;rw[h7,i f.1];unfold vD;rw[if_neg fun z=>f.2.2 w z w (by simp) rfl]
 exact this a g
inductive iQ(vs:List V)(H:Hp)(Q:VK)(E:XK):Prop
 |mk (p c t l1 l2 l3 l4:Addr) (ts:Ze) (J0 J1 rooms:Zb) (ds:List ag):(vs=[.ref p,.ref t])->(fV H p c)->(kE H t l1 l2 l3 l4 ts J0 J1 rooms ds)->(aW J0 J1 rooms ds) ->
  (∀(f:Addr) (words:Zb) H',H' f=some (.lst (words.map V.str))->lD J1 words=none->(∀r,¬Reach (aT words ds) r r)->words.length<=4->fV H' p c->cD p H H'->Q (.ref f) H')->iQ vs H Q E
theorem wX{K:Za}{vs:List V}{H:Hp}{Q:VK}{E:XK}(h:iQ vs H Q E):pF K eV ni gD (bQ Q) (start pS vs) H:=by
 obtain⟨p,c,t,l1,l2,l3,l4,ts,J0,D,rooms,ds,rfl,O,T,m,k⟩:=h;have zs:=m.says4;have z4:=m.few;have n2:=O.ne_strs T.a2;refine⟨(by show 0<=aj;decide),fun f0 I=>?_⟩;have S0:ac H (upd H f0 (.lst [])):=ac.new I;refine⟨_,rfl,t,_,1,_,rfl,rfl,bc.of (S0 _ _ T.t),rfl,l2,rfl,⟨_,ax.of (S0 _ _ T.a2)⟩,?_⟩
 let zI:Nat->L2.St->Hp->Prop:=fun i σ H'=>Gi fun(f:Addr) (words:Zb) (x3 x4:Option V)=>DW fun(x5:Option V) (_:Unit)=>(Gq (σ=[some (.ref p),some (.ref t),some (.ref f),x3,x4,x5]) (fV H' p c) (cD p H H') (H' f=some (.lst (words.map V.str))) (words.Nodup) (∀w∈words,w∈D.take i))/\(Gj (f≠p/\H f=none) (words.length<D.length) (∀r,¬Reach (aT words ds) r r))
 have s0:0<D.length:=List.length_pos_iff.2 m.says0;refine bG (xs:=D.map V.str) zI ⟨f0,[],_,_,_,(),⟨rfl,O.ex S0,ac.exB S0,aa,jB,fun _ z=>by cases z⟩,⟨⟨(O.nep I).symm,I⟩,s0,by rw[vU m.nodup];exact m.noround⟩⟩ (fun i σ H' _ zq=>by obtain⟨_,_,_,_,_,_,⟨_,_,ex,_⟩,_⟩:=zq;exact ax.of (ex _ _ T.a2 n2)) ?_ ?_
 ·rintro i v σ G hi ⟨f,words,x3,x4,x5,_,⟨rfl,j,l,fG,nd,sub⟩,⟨⟨fp,fn⟩,lt,nr⟩⟩;obtain⟨w,L,rfl⟩:=bq hi;have il:=(cE.1 L).1;have TG:=T.ex O l;refine⟨_,rfl,_,rfl,(by show 1<=aj;decide),fun q hq=>?_⟩;have M:ac G (upd G q (.lst [.str w])):=ac.new hq;refine⟨f,q,_,_,rfl,rfl,M _ _ fG,aa,fj (ay (by rw[ak];show _+1<=1000;omega)),fun s N=>?_⟩;have e1:words.map V.str++[V.str w]=(words++[w]).map V.str:=by rw[ar];rfl
  rw[e1];generalize upd G q (.lst [.str w])=G1 at M N ⊢;have S2:ac G1 (upd G1 s (.lst ((words++[w]).map V.str))):=ac.new N;have s2:upd G1 s (.lst ((words++[w]).map V.str)) s=some (.lst ((words++[w]).map V.str)):=aa;have sn:H s=none:=by
   cases y:H s with
   |none=>rfl
   |some o =>
    by_cases e:s=p
    ·exact absurd e.symm ((j.ex M).nep N)
    ·rw[M _ _ (l _ _ y e)]at N;cases N
  have sp:s≠p:=((j.ex M).nep N).symm;generalize upd G1 s (.lst ((words++[w]).map V.str))=G2 at S2 s2 ⊢;have U:=M.trans S2;have T2:=TG.same U;refine⟨_,rfl,t,_,2,_,rfl,rfl,bc.of T2.t,rfl,_,rfl,t,_,3,_,rfl,rfl,bc.of T2.t,rfl,_,rfl,l4,s,ts,words++[w],ds,rfl,T2.a4,T2.ds,s2,z4,fun d hd=>nH (m.good d hd),fun g us G3 g3 D3 S3=>?_⟩;have Y:=U.trans S3;have T3:=TG.same Y;refine⟨l3,g,us,J0,D,rooms,_,rfl,T3.a3,g3,D3,r9 m,fun o G4 fo S4=>?_⟩;have A:=Y.trans S4;have T4:=TG.same A;have f4:=A _ _ fG;have s4:=S4 _ _ (S3 _ _ s2);have al:=j.ex A;have an:cD p H G4:=fun b o q n=>A _ _ (l b o q n);have C:∀x∈words,x∈D.take (i+1):=fun x hx=>by
   rw[take_snoc L];exact cJ _ (sub x hx)
  have u:∀(G':Hp) (y3 y4 y5:Option V),fV G' p c->cD p H G'->G' f=some (.lst (words.map V.str))->zI (i+1) [some (.ref p),some (.ref t),some (.ref f),y3,y4,y5] G':=fun G' y3 y4 y5 a1 a2 a3=>⟨f,words,_,_,_,(),⟨rfl,a1,a2,a3,nd,C⟩,⟨⟨fp,fn⟩,lt,nr⟩⟩;refine⟨_,rfl,d6 al (by decide) (by decide) fun r G5 r0 r1 B J=>⟨_,_,rfl,rfl,_,rfl,?_⟩⟩;have a:=an.trans J;have f5:=J _ _ f4 fp;have s5:=J _ _ s4 sp;refine gV (fun _=>?_) (fun _=>aU (u G5 _ _ _ B a f5));refine⟨_,rfl,_,rfl,?_⟩;have nw:w∉words:=fun z=>by
   have:=sub w z;exact absurd this (Ay m.okS.1 L)
  refine gV (fun cq=>?_) (fun _=>aU (u G5 _ _ _ B a f5));have on:o=none:=by
   cases o with
   |none=>rfl
   |some n =>
    have:V.int (n:Nat)=V.non:=of_decide_eq_true cq;cases this
  subst on;have T5:=T.ex O a;refine⟨_,rfl,.inl ⟨s,_,rfl,.inl (ax.of s5),_,rfl,t,_,1,_,rfl,rfl,bc.of T5.t,rfl,.inl ⟨l2,_,rfl,.inl (ax.of T5.a2),_,_,rfl,rfl,_,rfl,?_⟩⟩⟩;rw[ak,ak];refine gV (fun cl=>?_) (fun _=>u G5 _ _ _ B a f5);have cl:(((words++[w]).length:Nat):Int)<((D.length:Nat):Int):=of_decide_eq_true cl;refine⟨_,rfl,s,words++[w],_,_,_,(),⟨rfl,B,a,s5,cG.2 ⟨nd,by simp,fun x hx y hy e=>nw (by rw[<-dY.1 hy,<-e];exact hx)⟩,fun x hx=>?_⟩,⟨⟨sp,sn⟩,by omega,C_ m ?_⟩⟩
  ·rcases bg.1 hx with z|z
   ·exact C x z
   ·rw[dY.1 z,take_snoc L];simp
  ·rcases fo with⟨_,q⟩|⟨_,_,e,_⟩
   ·exact q
   ·cases e
 ·rintro σ G ⟨f,words,x3,x4,x5,_,⟨rfl,j,l,fG,nd,sub⟩,⟨_,lt,nr⟩⟩;refine⟨_,rfl,k f words G fG (Ci (fun w L=>?_) nd lt) nr (by omega) j l⟩;exact fy (sub w L)
def FO(sg:Zb):Prop:=∃x r,sg=x::r/\(x=("say":Str)->∃w,r=[w])
inductive pY(K:Za)(vs:List V)(H:Hp)(Q:VK)(E:XK):Prop
 |mk (st l:Addr) (us:Ze) (story:List (List Str)) (words:Zb):(vs=[.ref st,.ref l])->(H st=some (.lst (us.map V.ref)))->(sG K H us story)->(∀sg∈story,FO sg)->(H l=some (.lst (words.map V.str)))->(story.length<=200000) ->
  (∀(f:Addr) (us':Ze) (H':Hp),H' f=some (.lst (us'.map V.ref))->(∀R:Addr->List Str->Prop,Paired R us story->Paired R us' (fU words story))->ac H H'->Q (.ref f) H')->pY K vs H Q E
theorem gS{α β:Type}{R:α->β->Prop}{f:List α}{bs:List β}{a:α}{b:β}(h:Paired R (f++[a]) (bs++[b])):Paired R f bs/\R a b:=by
 obtain⟨g,m,e,i,j⟩:=pk h;obtain⟨k,l⟩:=List.append_inj' e rfl;cases l;subst k;exact⟨i,j⟩
theorem El{K:Za}{m:List V}{H:Hp}{Q:VK}{E:XK}(h:pY K m H Q E):yg K (bQ Q) (start zP m) H:=by
 obtain⟨st,l,y,g,words,rfl,A,N,I,hl,hz,k⟩:=h;have J:=Paired.length N;refine⟨_,rfl,st,rfl,⟨_,ax.of A⟩,fun f hf=>?_⟩;refine bP (xs:=y.map V.ref) (fun i m t=>∃a:List Addr,m=a.map V.ref/\a.length<=i/\(∀R:Addr->List Str->Prop,Paired R (y.take i) (g.take i)->Paired R a (fU words (g.take i)))/\ac H t/\t f=some (.lst m)) ⟨[],rfl,aN _,(fun R _=>.nil),ac.new hf,aa⟩ (fun i m t _ zq=>by obtain⟨_,_,_,_,S,h'⟩:=zq;exact⟨h',ax.of (S _ _ A)⟩) ?_ ?_;rotate_left
 ·rintro i m B xv hx hi ⟨a,rfl,O,C,S,D⟩;obtain⟨u,L,rfl⟩:=bE hx;obtain⟨sg,n,M⟩:=Paired.getL N L;have T:bH K B u (sg.map V.str):=bH.kt (ac.kt S) M;obtain⟨x,r,rfl,sx⟩:=I sg (cV n);have s:x::r∉words.map cB->∀(p:a.length<1000000),B f=some (.lst (a.map V.ref))/\(a.map V.ref).length<aj/\∃U,U<(y.map V.ref).length-i/\Wc (y.map V.ref).length (fun i m t=>∃a:List Addr,m=a.map V.ref/\a.length<=i/\(∀R:Addr->List Str->Prop,Paired R (y.take i) (g.take i)->Paired R a (fU words (g.take i)))/\ac H t/\t f=some (.lst m)) (i+1) U (a.map V.ref++[V.ref u]) (upd B f (.lst (a.map V.ref++[V.ref u]))):=fun c _=>by
   refine⟨D,?_,kq hi ⟨a++[u],by rw[ar];rfl,by rw[aD];exact Nat.succ_le_succ O,fun R q=>?_,fun b o e=>?_,aa⟩⟩
   ·rw[ak]at hi ⊢;exact og (show a.length<=200000 by omega) (by decide)
   ·rw[take_snoc L,take_snoc n]at q;obtain⟨q1,q2⟩:=gS q;rw[take_snoc n,nF,Dg c];exact eX (C R q1) q2
   ·rw[ai (ae e hf)];exact S _ _ e
  have small:a.length<1000000:=by rw[ak]at hi;omega
  refine gN ⟨_,rfl,.inr (.inl ⟨u,_,0,.str x,rfl,rfl,bH.sq T,bZ (j:=0) rfl,rfl,_,rfl,?_⟩)⟩;by_cases G:x=("say":Str)
  ·obtain⟨w,rfl⟩:=sx G;subst G;rw[show(!decide (V.str "say"=V.str "say"))=false by rw[zzr1 rfl];rfl];refine aU ⟨_,rfl,.inr (.inl ⟨u,_,1,.str w,rfl,rfl,bH.sq T,bZ (j:=1) rfl,_,rfl,dX w,words.map dX,l,_,gJ _,rfl,.inl (ax.of (S _ _ hl)),fH words,c9 _,by rw[cT];decide,_,rfl,?_⟩)⟩;show if(if true=true then !decide (dX w∈words.map dX)else _)=true then _ else _
   rw[if_pos rfl,ia];by_cases c:w∈words
   ·rw[zzr1 c];refine aU (kq hi ⟨a,rfl,Nat.le_succ_of_le O,fun R q=>?_,S,D⟩);rw[take_snoc L,take_snoc n]at q;rw[take_snoc n,nF,Dh (sg:=[("say":Str),w]) (i4 (f:=cB) c),cP];exact C R (gS q).1
   ·rw[zzr0 c];refine bN ⟨_,rfl,s (fun z=>?_) small⟩;obtain⟨v,Y,e⟩:=aK.1 z;unfold cB at e;injection e with _ e;injection e with e;exact c (e▸Y)
  ·rw[show(!decide (V.str x=V.str "say"))=true by rw[zzr0 (fun z=>G (by injection z))];rfl];refine bN (bN ⟨_,rfl,s (fun z=>?_) small⟩);obtain⟨v,Y,e⟩:=aK.1 z;unfold cB at e;injection e with e;exact G e.symm
 rintro m B ⟨a,rfl,_,C,S,D⟩;rw[ak,bd,J,bd]at C;exact k f a B D C S
def DV(words:Zb)(ds:List ag)(d:ag):Option Str:=words.find? fun v=>decide ((⟨d.a,cB v,d.b⟩:ag)∈ds)
def Gp(o:Option Str):List Str:=match o with
 |some v=>cB v
 |none=>stillSg
theorem EY{words:Zb}{e:List ag}{d:ag}(c:d.sg=stillSg/\d∉e):c6 words e d=⟨d.a,Gp (DV words e d),d.b⟩:=by
 unfold c6;rw[if_pos c];unfold DV Gp;cases words.find? (fun v=>decide ((⟨d.a,cB v,d.b⟩:ag)∈e))with
 |some v=>rfl
 |none=>rw[<-c.1]
theorem DD{f:Zb}{e:List ag}{d:ag}{w:Str}:DV (f++[w]) e d=(DV f e d).or (if(⟨d.a,cB w,d.b⟩:ag)∈e then some w else none):=by
 unfold DV;rw[List.find?_append];congr 1;rw[gR];by_cases c:(⟨d.a,cB w,d.b⟩:ag)∈e
 ·rw[zzr1 c,if_pos c]
 ·rw[zzr0 c,if_neg c];rfl
inductive p6(K:Za)(vs:List V)(H:Hp)(Q:VK)(E:XK):Prop
 |mk (t l1 l2 l3 l4 l wl:Addr) (ts us:Ze) (J0 J1 rooms words:Zb) (ds w:List ag):(vs=[.ref t,.ref l,.ref wl])->(kE H t l1 l2 l3 l4 ts J0 J1 rooms ds)->(ds.length<=1000)->(H l=some (.lst (words.map V.str)))->(H wl=some (.lst (us.map V.ref)))->(Paired (tS K H) us w)->(w.length<=200000) ->
  (∀(f:Addr) (us':Ze) (H':Hp),H' f=some (.lst (us'.map V.ref))->Paired (tS K H') us' (w.map (c6 words ds))->ac H H'->Q (.ref f) H')->p6 K vs H Q E
theorem vW{K:Za}{H:Hp}{q u:Addr}{d:ag}(e:H q=none)(h:bH K H u (d.sg.map V.str)):tS K (upd H q (.tup [.str d.a,.ref u,.str d.b])) q d :=
 ⟨u,aa,bH.kt (ac.kt (ac.new e)) h⟩
theorem En{K:Za}{vs:List V}{H:Hp}{Q:VK}{E:XK}(h:p6 K vs H Q E):mY K (bQ Q) (start nQ vs) H:=by
 obtain⟨t,l1,l2,l3,l4,l,wl,ts,us,J0,J1,rooms,words,ds,w,rfl,T,z4,hl,U,Y,hz,k⟩:=h;have aC:=Paired.length Y;refine⟨(by show 0<=aj;decide),fun f hf=>?_⟩;have S0:ac H (upd H f (.lst [])):=ac.new hf;refine⟨_,rfl,wl,rfl,⟨_,ax.of (S0 _ _ U)⟩,?_⟩
 let zI:Nat->L2.St->Hp->Prop:=fun i σ B=>NE5 fun(n:Ze) (x4 x5 x6 x:Option V)=>GP (σ=[some (.ref t),some (.ref l),some (.ref wl),some (.ref f),x4,x5,x6,x]) (ac H B) (B f=some (.lst (n.map V.ref))) (Paired (tS K B) n ((w.take i).map (c6 words ds)))
 refine bG (xs:=us.map V.ref) zI ⟨[],_,_,_,_,rfl,S0,aa,.nil⟩ (fun i σ B _ zq=>by obtain⟨_,_,_,_,_,_,S,_⟩:=zq;exact ax.of (S _ _ U)) ?_ ?_
 ·rintro i xv σ G hi ⟨n,x4,x5,x6,x,rfl,S,fG,DG⟩;obtain⟨q0,aS,rfl⟩:=bE hi;obtain⟨d,hd,a0⟩:=Paired.getL Y aS;have il:=(cE.1 hd).1;obtain⟨u,a5,hu⟩:=a0.kt (ac.kt S);refine⟨q0,_,rfl,bc.of a5,rfl,_,_,rfl,_,_,rfl,_,_,rfl,rfl,?_⟩;have I:∀(g:Addr) (x:Option V) (p:Hp),ac G p->bH K p g ((c6 words ds d).sg.map V.str) ->
    cr (ua K "list" cR V3 (aE (b_ (dZ V4 V5 V6)))) { nx:=zI (i+1),rt:=Q } [some (.ref t),some (.ref l),some (.ref wl),some (.ref f),some (.str d.a),some (.ref g),some (.str d.b),x] p:=by
   intro g x p C a7;have f1:=C _ _ fG;refine⟨_,rfl,.inl ⟨rfl,_,ax.of f1⟩,_,rfl,_,rfl,_,rfl,(by show 3<=aj;decide),fun q hq=>?_⟩;have D:ac p (upd p q (.tup [.str d.a,.ref g,.str d.b])):=ac.new hq;have aq:tS K (upd p q (.tup [.str d.a,.ref g,.str d.b])) q (c6 words ds d):=by
    obtain⟨ea,eb,_⟩:=qd (words:=words) (ds:=ds) d;have:=vW (d:=c6 words ds d) hq a7;rw[ea,eb]at this;exact this
   have f2:=D _ _ f1;have m:=S.trans (C.trans D);have D2:=Paired.mapP DG fun _ _ r=>tS.kt (ac.kt (C.trans D)) r;generalize upd p q (.tup [.str d.a,.ref g,.str d.b])=G2 at D aq f2 m D2 ⊢;refine⟨f,_,_,rfl,rfl,f2,?_,n++[q],_,_,_,_,rfl,fun b o e=>?_,by rw[aa,ar];rfl,?_⟩
   ·rw[ak,Paired.length DG,ak,bm];exact og (show min i w.length<=200000 by omega) (by decide)
   ·rw[ai (ae e hf)];exact m _ _ e
   ·rw[take_snoc hd,ar];have kt:=cv (o:=.lst (n.map V.ref++[V.ref q])) f2;exact eX (Paired.mapP D2 fun _ _ r=>tS.kt kt r) (aq.kt kt)
  have al:∀{p:Hp}{g:Addr}{sg:Zb},bH K p g (sg.map V.str)->ib K p (fx sg) (.ref g):=fun h=>aA (bH.sq h);refine⟨_,rfl,(by show 1<=aj;decide),fun p1 an=>⟨fx d.sg,fx stillSg,al (bH.kt (ac.kt (ac.new an)) hu),aA (bc.of aa),by rw[aX];decide,by rw[aX];decide,_,rfl,?_⟩⟩;rw[cU];have C:ac G (upd G p1 (.tup [.str "still"])):=ac.new an;generalize upd G p1 (.tup [.str "still"])=G1 at C ⊢;have J:=bH.kt (ac.kt C) hu;by_cases c1:d.sg=stillSg;rotate_left
  ·rw[zzr0 c1];refine aU (aU (I u _ G1 C ?_));rw[show c6 words ds d=d from if_neg fun y=>c1 y.1];exact J
  rw[zzr1 c1];refine bN ⟨_,rfl,_,rfl,_,rfl,(by show 3<=aj;decide),fun q hq=>?_⟩;have D:ac G1 (upd G1 q (.tup [.str d.a,.ref u,.str d.b])):=ac.new hq;have aq:=vW (d:=d) hq J;generalize upd G1 q (.tup [.str d.a,.ref u,.str d.b])=G2 at D aq ⊢;have m:=C.trans D;have T2:=T.same (S.trans m);refine⟨_,rfl,t,_,3,_,rfl,rfl,bc.of T2.t,rfl,lq d,ds.map lq,l4,_,aq.dIn,rfl,.inl (ax.of T2.a4),T2.ds.dIns,by rw[k4];decide,jw _,_,rfl,?_⟩;show if(if true=true then !decide (lq d∈ds.map lq)else _)=true then _ else _
  rw[if_pos rfl,rV];have ap:=bH.kt (ac.kt D) J;by_cases c2:d∈ds
  ·rw[zzr1 c2];refine aU (I u _ G2 m ?_);rw[show c6 words ds d=d from if_neg fun y=>y.2 c2];exact ap
  rw[zzr0 c2];have cc:d.sg=stillSg/\d∉ds:=⟨c1,c2⟩;refine bN ⟨_,rfl,l,rfl,⟨_,ax.of ((S.trans m) _ _ hl)⟩,?_⟩
  let zJ:Nat->L2.St->Hp->Prop:=fun j σ B=>DW fun(g:Addr) (x:Option V)=>Gj (σ=[some (.ref t),some (.ref l),some (.ref wl),some (.ref f),some (.str d.a),some (.ref g),some (.str d.b),x]) (ac G2 B) (bH K B g ((Gp (DV (words.take j) ds d)).map V.str))
  refine bG (xs:=words.map V.str) zJ ⟨u,_,rfl,ac.refl _,by show bH K G2 u (stillSg.map V.str);rw[<-c1];exact ap⟩ (fun j σ B _ zq=>by obtain⟨_,_,_,S',_⟩:=zq;exact ax.of (S' _ _ ((S.trans m) _ _ hl))) ?_ ?_
  ·rintro j yv σ G3 hj ⟨g,x,rfl,M,s⟩;obtain⟨v,hv,rfl⟩:=bq hj;have ev:DV (words.take (j+1)) ds d=(DV (words.take j) ds d).or (if(⟨d.a,cB v,d.b⟩:ag)∈ds then some v else none):=by rw[take_snoc hv,DD]
   refine gN ⟨_,rfl,(by show 1<=aj;decide),fun p2 as=>⟨fx (Gp (DV (words.take j) ds d)),fx stillSg,al (bH.kt (ac.kt (ac.new as)) s),aA (bc.of aa),by rw[aX];decide,by rw[aX];decide,_,rfl,?_⟩⟩;rw[cU];have N:ac G3 (upd G3 p2 (.tup [.str "still"])):=ac.new as;generalize upd G3 p2 (.tup [.str "still"])=G4 at N ⊢;have z:=bH.kt (ac.kt N) s;cases o:DV (words.take j) ds d with
   |some v0 =>
    rw[zzr0 (show Gp (some v0)≠stillSg from oE)];refine aU (aU ⟨g,_,rfl,M.trans N,?_⟩);rw[ev,o];rw[o]at z;exact z
   |none =>
    rw[zzr1 (show Gp none=stillSg from rfl)];refine bN ⟨_,rfl,_,rfl,(by show 2<=aj;decide),fun O a8=>⟨_,rfl,(by show 3<=aj;decide),fun p4 L=>?_⟩⟩;have S5:ac G4 (upd G4 O (.tup [.str "say",.str v])):=ac.new a8;have h5:bH K (upd G4 O (.tup [.str "say",.str v])) O ((cB v).map V.str):=.inl aa;generalize upd G4 O (.tup [.str "say",.str v])=G5 at S5 h5 L ⊢;have S6:ac G5 (upd G5 p4 (.tup [.str d.a,.ref O,.str d.b])):=ac.new L;have a6:=vW (d:=⟨d.a,cB v,d.b⟩) L h5;generalize upd G5 p4 (.tup [.str d.a,.ref O,.str d.b])=G6 at S6 a6 ⊢;have A:=S5.trans S6;have T6:=T2.same (M.trans (N.trans A));refine⟨_,rfl,t,_,3,_,rfl,rfl,bc.of T6.t,rfl,lq ⟨d.a,cB v,d.b⟩,ds.map lq,l4,_,a6.dIn,rfl,.inl (ax.of T6.a4),T6.ds.dIns,by rw[k4];decide,jw _,_,rfl,?_⟩;show if(if false=true then _ else decide (lq ⟨d.a,cB v,d.b⟩∈ds.map lq))=true then _ else _
    rw[rV];show if decide ((⟨d.a,cB v,d.b⟩:ag)∈ds)=true then _ else _
    by_cases c3:(⟨d.a,cB v,d.b⟩:ag)∈ds
    ·rw[zzr1 c3];refine bN ⟨_,rfl,(by show 2<=aj;decide),fun p5 a9=>⟨p5,_,rfl,M.trans (N.trans (A.trans (ac.new a9))),?_⟩⟩;rw[ev,o,if_pos c3];exact .inl aa
    ·rw[zzr0 c3];refine aU ⟨g,_,rfl,M.trans (N.trans A),?_⟩;rw[ev,o,if_neg c3];rw[o]at z;exact bH.kt (ac.kt A) z
  ·rintro σ G3 ⟨g,x,rfl,M,s⟩;rw[ak,bd]at s;refine I g _ G3 (m.trans M) ?_;rw[EY cc];exact s
 ·rintro σ G ⟨n,x4,x5,x6,x,rfl,S,fG,DG⟩;rw[ak,aC,bd]at DG;exact⟨_,rfl,k f n G fG DG S⟩
def pO(J0 J1:Zb):List (List Str):=J0.map (fun w=>[("ask":Str),w])++J1.map (fun w=>[("say":Str),w])++[aF]
theorem rC{e f:Zb}{a:Zb}(h:a∈pO e f):FO a/\a≠stillSg:=by
 unfold pO at h;rcases bg.1 h with h|h
 ·rcases bg.1 h with h|h<;>obtain⟨w,_,rfl⟩:=aK.1 h
  ·exact⟨⟨_,_,rfl,fun z=>absurd z (by decide)⟩,fun z=>by unfold stillSg at z;injection z with _ z;cases z⟩
  ·exact⟨⟨_,_,rfl,fun _=>⟨w,rfl⟩⟩,fun z=>by unfold stillSg at z;injection z with _ z;cases z⟩
 ·rw[dY.1 h];exact⟨⟨_,_,rfl,fun z=>absurd z (by decide)⟩,fun z=>f6 z.symm⟩
theorem CD{J0 J1:Zb}(a:J0.length<=4)(e:J1.length<=4):(pO J0 J1).length<=9/\pO J0 J1≠[]:=by
 unfold pO;refine⟨?_,fun z=>by have:=(List.append_eq_nil_iff.1 z).2;cases this⟩;rw[aD,aD,ak,ak];show _+_+1<=9;omega
theorem B0{rooms f a:Zb}{e:List ag}(h:f.length<=rooms.length):(behF rooms e f a).length<=rooms.length:=by
 unfold behF;split
 ·exact bp (cF _ _) h
 ·exact k6
theorem zp(rooms:Zb)(e:List ag)(a:List (List Str)):(faceOf rooms e a).length<=rooms.length:=by
 refine cn (fun a=>(faceOf rooms e a).length<=rooms.length) k6 (fun f w g=>?_) a;show(faceOf rooms e (f++[w])).length<=_;rw[dv];exact B0 g
theorem AN{K:Za}{H:Hp}{kd:Str}{r l:Addr}{g:Zb}{σ:L2.St}{Q:Hp->Prop}(q:H r=some (.lst (g.map V.str)))(v:g.length<=4)(s:H l=none)
  (k:∀(f:Ze) (a:Hp),a l=some (.lst (f.map V.ref))->cw a f (g.map fun w=>[kd,w])->ac H a->Q a) :
  ej 1 [] σ (DX K r) U0 ka (b_ (aY (tC (.str kd)) V0)) H l Q:=by
 refine bP (xs:=g.map V.str) (fun i j a=>∃f:List Addr,j=f.map V.ref/\cw a f ((g.take i).map fun w=>[kd,w])/\ac H a/\a l=some (.lst j)) ⟨[],rfl,.nil,ac.new s,aa⟩ (fun i j a _ u=>by obtain⟨_,_,_,S,h⟩:=u;exact⟨h,ax.of (S _ _ q)⟩) ?_ ?_
 ·rintro j a ⟨f,rfl,m,S,h⟩;rw[ak,bd]at m;exact k f a h m S
 ·rintro i j y x hx hi ⟨f,rfl,m,S,h⟩;obtain⟨w,t,rfl⟩:=bq hx;have z:i<g.length:=(cE.1 t).1;refine gN (u_ ⟨_,rfl,(by show 2<=aj;decide),fun p n=>⟨kp h n,?_,kq hi ⟨f++[p],by rw[ar];rfl,?_,fun b o e=>?_,aa⟩⟩⟩)
  ·rw[ak,Paired.length m,ak,bm];exact ay (by omega)
  ·rw[take_snoc t,ar];have kt:=cv (o:=.lst (f.map V.ref++[V.ref p])) (kp (x:=.tup [.str kd,.str w]) h n);exact eX (cw.kt kt (cw.kt (ac.kt (ac.new n)) m)) (kt _ _ aa)
  ·rw[ai (ae e s)];exact kp (S _ _ e) n
inductive kO(K:Za)(vs:List V)(H:Hp)(Q:VK)(E:XK):Prop
 |mk (p c t l1 l2 l3 l4:Addr) (ts:Ze) (J0 J1 rooms:Zb) (ds:List ag) (most:Nat):(vs=[.ref p,.ref t,.int most])->(fV H p c)->(kE H t l1 l2 l3 l4 ts J0 J1 rooms ds)->(aW J0 J1 rooms ds)->(most<=20) ->
  (∀(l:Addr) (us:Ze) (story:List (List Str)) (H':Hp),H' l=some (.lst (us.map V.ref))->H l=none->cw H' us story->(∀sg∈story,sg∈pO J0 J1)->story.length<=20->fV H' p c->cD p H H'->Q (.ref l) H')->kO K vs H Q E
theorem Bl{K:Za}{vs:List V}{H:Hp}{Q:VK}{E:XK}(h:kO K vs H Q E):sU K eV (oB K) (jk K) (bQ Q) (start tN vs) H:=by
 obtain⟨p,c,t,l1,l2,l3,l4,ts,J0,J1,rooms,ds,bi,rfl,hp,T,m,zm,k⟩:=h;have z1:=m.asks4;have z2:=m.says4;have z5:=m.rooms26;obtain⟨zl,zn⟩:=CD (J0:=J0) (J1:=J1) z1 z2;refine⟨_,rfl,t,_,0,_,rfl,rfl,bc.of T.t,rfl,l1,rfl,⟨_,ax.of T.a1⟩,fun ga dx=>?_⟩;refine AN T.a1 z1 dx fun N H1 h1 A1 C=>?_;have T1:=T.same C;refine⟨_,rfl,t,_,1,_,rfl,rfl,bc.of T1.t,rfl,l2,rfl,⟨_,ax.of T1.a2⟩,fun gb dy=>?_⟩;refine AN T1.a2 z2 dy fun bs H2 h2 B2 f=>?_;have la:=Paired.length A1;have lb:=Paired.length B2;rw[ak]at la lb;refine⟨ga,gb,_,_,rfl,rfl,f _ _ h1,h2,fj (ay (by rw[ak,ak];omega)),fun gc dK=>?_⟩;rw[<-ar];have S3:ac H2 (upd H2 gc (.lst ((N++bs).map V.ref))):=ac.new dK;have c3:upd H2 gc (.lst ((N++bs).map V.ref)) gc=some (.lst ((N++bs).map V.ref)):=aa;generalize upd H2 gc (.lst ((N++bs).map V.ref))=H3 at S3 c3 ⊢;refine⟨(by show 1<=aj;decide),fun g dT=>⟨(by show 1<=aj;decide),fun gh cq=>?_⟩⟩;have S4:ac H3 (upd H3 g (.tup [.str "hush"])):=ac.new dT;have u4:SignAt (upd H3 g (.tup [.str "hush"])) g aF:=aa;generalize upd H3 g (.tup [.str "hush"])=H4 at S4 u4 cq ⊢;have O:ac H4 (upd H4 gh (.lst [.ref g])):=ac.new cq;refine⟨gc,gh,_,_,rfl,rfl,O _ _ (S4 _ _ c3),aa,fj (ay (by rw[ak,aD];show _+1<=1000;omega)),fun gl cs=>?_⟩;have eg:(N++bs).map V.ref++[V.ref g]=(N++bs++[g]).map V.ref:=by rw[ar (l₁:=N++bs)];rfl
 rw[eg];have u5:=O _ _ u4;generalize upd H4 gh (.lst [.ref g])=H5 at O cs u5 ⊢;have S6:ac H5 (upd H5 gl (.lst ((N++bs++[g]).map V.ref))):=ac.new cs;have D:upd H5 gl (.lst ((N++bs++[g]).map V.ref)) gl=some (.lst ((N++bs++[g]).map V.ref)):=aa;have ct:cw H5 (N++bs++[g]) (pO J0 J1):=Paired.app (Paired.app (cw.kt (ac.kt (f.trans (S3.trans (S4.trans O)))) A1) (cw.kt (ac.kt (S3.trans (S4.trans O))) B2)) (.cons u5 .nil);have al:=cw.kt (ac.kt S6) ct;generalize upd H5 gl (.lst ((N++bs++[g]).map V.ref))=H6 at S6 D al ⊢;have b6:=C.trans (f.trans (S3.trans (S4.trans (O.trans S6))));generalize N++bs++[g]=gs at D al;have ec:=Paired.length al;clear C f S3 S4 O S6 ct u5 u4 c3 h1 h2 A1 B2 la lb T1;refine⟨_,rfl,(by show 0<=aj;decide),fun e1 dV=>?_⟩;have S7:ac H6 (upd H6 e1 (.lst [])):=ac.new dV;refine⟨t,e1,l1,l2,l3,l4,ts,[],[],J0,J1,rooms,ds,rfl,T.same (b6.trans S7),m,aa,.nil,fun fa H8 d0 S8=>?_⟩;have a7:=S7.trans S8;have a8:=b6.trans a7;have A:=hp.ex a8;have T8:=T.same a8;have bl:=a7 _ _ D;have d2:=cw.kt (ac.kt a7) al;clear a7 b6 S7 S8 al D T;refine⟨(by show 0<=aj;decide),fun w an=>?_⟩;have S9:ac H8 (upd H8 w (.lst [])):=ac.new an;have b7:upd H8 w (.lst []) w=some (.lst (([]:Ze).map V.ref)):=aa;have sn:H w=none:=a8.free an;generalize upd H8 w (.lst [])=H9 at S9 b7 ⊢;have b8:w≠p:=(A.nep an).symm;have d4:w≠c:=(A.nec an).symm;have b9:=A.ex S9;refine⟨_,rfl,_,rfl,_,_,rfl,rfl,d6 b9 (by omega) (by omega) fun tn d5 s0 s1 bn I=>⟨_,rfl,by omega,by omega,?_⟩⟩
 let zI:Nat->L2.St->Hp->Prop:=fun i σ H'=>Gi fun(us:Ze) (a:List (List Str)) (fa:Addr) (x6:Option V)=>Gi fun(x7 x8 x9:Option V) (_:Unit)=>Gj (σ=[some (.ref p),some (.ref t),some (.int (bi:Nat)),some (.ref gl),some (.ref fa),some (.ref w),x6,x7,x8,x9]) (Gr (fV H' p c) (cD p H8 H') (H' w=some (.lst (us.map V.ref))) (cw H' us a) (∀J∈a,J∈pO J0 J1)) (a.length=i/\H' fa=some (.tup ((faceOf rooms ds a).map V.str)))
 have cx:iI H9 d5:=by obtain⟨ys,hy⟩:=b9.lst;exact I.kt hy
 refine kY zI ⟨[],[],fa,_,_,_,_,(),rfl,⟨bn,fun b o q n=>I b o (S9 _ _ q) n,I _ _ b7 b8,.nil,fun _ z=>by cases z⟩,⟨rfl,cx _ _ (S9 _ _ d0)⟩⟩ ?_ ?_;rotate_left
 ·rintro σ G ⟨us,a,fa,x6,x7,x8,x9,_,rfl,⟨ap,B,aq,M,cc⟩,⟨lG,_⟩⟩;exact⟨_,rfl,k w us a G aq sn M cc (by omega) ap (fun b o q n=>B b o (a8 _ _ q) n)⟩
 clear cx bn I b7 S9 b9;rintro i σ G hi ⟨us,a,fa,x6,x7,x8,x9,_,rfl,⟨ap,B,aq,M,cc⟩,⟨lG,b1⟩⟩;have lF:=zp rooms ds a;have d8:iI H8 G:=by obtain⟨ys,hy⟩:=A.lst;exact B.kt hy
 have aC:=B _ _ bl (A.ne_refs bl);have c0:=cw.kt d8 d2;have TG:=T8.ex A B;have cd:∀(xl:Addr) (U:Ze) (L:List (List Str)) (x7 x9:Option V) (G2:Hp),G2 xl=some (.lst (U.map V.ref))->cw G2 U L->L≠[]->L.length<=100->(∀J∈L,J∈pO J0 J1)->fV G2 p c->cD p G G2 ->
   ao (aG (aB (d_ K) V8 (aQ eV (aY V0 (dW (gf K) (aE V8))))) U9)
    (ao (cr (ua K "list" cR V5 (aE V9)))
    (aG (aQ (oB K) (dZ V1 V4 V9)) U4)) { nx:=zI (i+1),rt:=Q } [some (.ref p),some (.ref t),some (.int (bi:Nat)),some (.ref gl),some (.ref fa),some (.ref w),some (.int (0+(i:Nat))),x7,some (.ref xl),x9] G2:=by
  intro xl U L x7 x9 G2 ce l nL lL ea v c1;have ed:=Paired.length l;have l0:0<L.length:=List.length_pos_iff.2 nL;refine⟨_,rfl,_,rfl,_,rfl,.inl ⟨xl,_,rfl,.inl (ax.of ce),?_⟩⟩;rw[ak];refine d6 v (by omega) (by omega) fun n G3 n0 n1 a9 x=>?_;obtain⟨n,rfl⟩:=j7 n0;obtain⟨u,g⟩:∃u,U[n]?=some u:=⟨_,nY (by omega)⟩;obtain⟨J,ch,ci⟩:=Paired.getL l g;have cl:iI G2 G3:=by obtain⟨ys,hy⟩:=v.lst;exact x.kt hy
  have c2:iI G G2:=by obtain⟨ys,hy⟩:=ap.lst;exact c1.kt hy
  have c4:SignAt G3 u J:=cl _ _ ci;refine⟨xl,_,_,.ref u,rfl,rfl,ax.of (x _ _ ce (v.ne_refs ce)),bZ (j:=n) (by rw[eG,g];rfl),?_⟩;have b2:=c1.trans x;have aS:=b2 _ _ aq b8;have ef:=Paired.length M;refine⟨_,rfl,.inl ⟨rfl,_,ax.of aS⟩,_,rfl,w,_,_,rfl,rfl,aS,by rw[ak];exact ay (by omega),?_⟩;have cm:=cv (o:=.lst (us.map V.ref++[V.ref u])) aS;have co:cD p H8 (upd G3 w (.lst (us.map V.ref++[V.ref u]))):=fun b o q nb=>by
   rw[ai (ae q an)];exact b2 _ _ (B b o q nb) nb
  have c5:fV (upd G3 w (.lst (us.map V.ref++[V.ref u]))) p c:=a9.upd b8.symm d4.symm;have dc:upd G3 w (.lst (us.map V.ref++[V.ref u])) w=some (.lst ((us++[u]).map V.ref)):=by rw[aa,ar];rfl
  have dd:=cw.kt cm (cw.kt (iI.trans c2 cl) M);have a0:=cm _ _ c4;have di:=cm _ _ (cl _ _ (c2 _ _ b1));generalize upd G3 w (.lst (us.map V.ref++[V.ref u]))=G4 at co c5 dc dd a0 di ⊢;refine⟨_,rfl,_,rfl,_,rfl,t,fa,u,l1,l2,l3,l4,ts,J0,J1,rooms,faceOf rooms ds a,J,ds,rfl,T8.ex A co,m,di,bc.of a0,by omega,fun dm G5 a4 O=>?_⟩;refine⟨us++[u],a++[J],dm,_,_,_,_,(),rfl,⟨c5.ex O,fun b o q nb=>O _ _ (co b o q nb),O _ _ dc,eX (cw.kt (ac.kt O) dd) (O _ _ a0),fun s hs=>?_⟩,⟨by rw[aD,lG];rfl,by rw[dv];exact a4⟩⟩;rcases bg.1 hs with z|z
  ·exact cc s z
  ·rw[dY.1 z];exact ea J (cV ch)
 refine gN ⟨_,rfl,gl,rfl,⟨_,ax.of aC⟩,fun dl a5=>?_⟩;have dn:H8 dl=none:=by
  cases q:H8 dl with
  |none=>rfl
  |some o =>
   by_cases e:dl=p
   ·exact absurd e.symm (ap.nep a5)
   ·rw[B _ _ q e]at a5;cases a5
 refine bP (xs:=gs.map V.ref) (fun j vs H'=>∃(U:Ze) (L:List (List Str)),vs=U.map V.ref/\cw H' U L/\(∀J∈L,J∈pO J0 J1)/\L.length<=j/\ac G H'/\H' dl=some (.lst vs)) ⟨[],[],rfl,.nil,(fun _ z=>by cases z),aN _,ac.new a5,aa⟩ (fun j vs H' _ zq=>by obtain⟨_,_,_,_,_,_,S,h'⟩:=zq;exact⟨h',ax.of (S _ _ aC)⟩) ?_ ?_;rotate_left
 ·rintro j vs G1 y hy hj ⟨U,L,rfl,l,bb,lW,C,d1⟩;obtain⟨u,g,rfl⟩:=bE hy;obtain⟨J,ch,ci⟩:=Paired.getL c0 g;have b3:G1 u=some (.tup (J.map V.str)):=C _ _ ci;refine gN ⟨_,rfl,_,rfl,_,rfl,t,fa,u,l1,l2,l3,l4,ts,J0,J1,rooms,faceOf rooms ds a,J,ds,rfl,TG.same C,m,C _ _ b1,bc.of b3,by omega,fun dm G2 a4 f=>⟨(by show 0<=aj;decide),?_⟩⟩;refine EI a4 fun G3 S3=>⟨_,rfl,?_⟩;have Y:=f.trans S3;have d3:=Y _ _ d1;have lw:=Paired.length l;refine gV (fun _=>?_) (fun _=>kq hj ⟨U,L,rfl,cw.kt (ac.kt Y) l,bb,Nat.le_succ_of_le lW,C.trans Y,d3⟩);have jl:j<gs.length:=by rw[ak]at hj;exact hj
  refine⟨_,rfl,d3,by rw[ak];exact ay (by omega),kq hj ⟨U++[u],L++[J],by rw[ar];rfl,?_,fun s hs=>?_,by rw[aD];exact Nat.succ_le_succ lW,fun b o e=>?_,aa⟩⟩
  ·have kt:=cv (o:=.lst (U.map V.ref++[V.ref u])) d3;exact eX (cw.kt kt (cw.kt (ac.kt Y) l)) (kt _ _ (Y _ _ b3))
  ·rcases bg.1 hs with z|z
   ·exact bb s z
   ·rw[dY.1 z];exact cV ch
  ·rw[ai (ae e a5)];exact Y _ _ (C _ _ e)
 rintro vs G1 ⟨U,L,rfl,l,bb,lW,C,d1⟩;rw[ak]at lW;have a6:=C _ _ aC;have dp:=cw.kt (ac.kt C) c0;have eb:=ap.ex C;refine⟨_,rfl,?_⟩;refine⟨_,rfl,(by show 0<=aj;decide),fun e he=>?_⟩;have f:ac G1 (upd G1 e (.lst [])):=ac.new he;have e2:upd G1 e (.lst []) e=some (.lst []):=aa;show vC K (.ref dl) (.ref e) (upd G1 e (.lst [])) _;generalize upd G1 e (.lst [])=G2 at f e2 ⊢;have dr:=C.trans f;refine⟨.s (L.map fx),.s [],(by unfold ib;exact⟨dl,_,rfl,ax.of (f _ _ d1),cw.dIns (cw.kt (ac.kt f) l)⟩),(by unfold ib;exact⟨e,_,rfl,ax.of e2,by unfold DIns;rfl⟩),(by show DT.depths _+1<=8;have:=my L;omega),(by decide),_,rfl,?_⟩;have v:=eb.ex f;have dt:∀{G':Hp},ac G G'->cD p G G':=fun s=>ac.exB s;by_cases cL:L=[]
 ·have eL:DT.s (L.map fx)=DT.s []:=by rw[cL];rfl
  rw[zzr1 eL];exact aU (aU (cd gl gs _ _ _ G2 (f _ _ a6) (cw.kt (ac.kt f) dp) zn (by omega) (fun _ h=>h) v (dt dr)))
 ·have eL:DT.s (L.map fx)≠DT.s []:=fun z=>by injection z with z;exact cL (List.map_eq_nil_iff.1 z)
  rw[zzr0 eL];refine bN ⟨_,rfl,d6 v (by decide) (by decide) fun r G3 r0 r1 a9 x=>⟨_,_,rfl,rfl,_,rfl,?_⟩⟩;have b4:cD p G G3:=(dt dr).trans x;have b5:iI G2 G3:=by obtain⟨ys,hy⟩:=v.lst;exact x.kt hy
  refine gV (fun _=>?_) (fun _=>?_)
  ·exact⟨_,rfl,cd dl U L _ _ G3 (x _ _ (f _ _ d1) (v.ne_refs (f _ _ d1))) (cw.kt b5 (cw.kt (ac.kt f) l)) cL (by omega) bb a9 b4⟩
  ·exact cd gl gs _ _ _ G3 (x _ _ (f _ _ a6) (v.ne_refs (f _ _ a6))) (cw.kt b5 (cw.kt (ac.kt f) dp)) zn (by omega) (fun _ h=>h) a9 b4
theorem cw.str{K:Za}{H:Hp}{e:Ze}{a:List (List Str)}(h:cw H e a):sG K H e a:=Paired.mapP h fun _ _ r=>.inl r
theorem Bi{g i rooms:Zb}{f:List ag}(m:aW g i rooms f){j:Str}{w:List ag}{r:Str}(h:lK f j w r):∀a∈az w,FO a:=by
 induction h with
 |nil=>intro a z;cases z
 |@snoc w d h ok k =>
  intro a z;rw[cC]at z;rcases bg.1 z with z|z
  ·exact k a z
  ·by_cases s:d.sg=stillSg
   ·rw[oR s]at z;cases z
   ·rw[mx s]at z;rw[dY.1 z];by_cases q:d.sg=aF
    ·rw[q];exact⟨_,_,rfl,fun z=>absurd z (by decide)⟩
    ·rcases(m.good d (ok.2 q)).sg with⟨v,_,e⟩|⟨v,_,e⟩|e
     ·rw[e];exact⟨_,_,rfl,fun z=>absurd z (by decide)⟩
     ·rw[e];exact⟨_,_,rfl,fun _=>⟨v,rfl⟩⟩
     ·exact absurd e s
theorem Dq{e f rooms:Zb}{a:List ag}(m:aW e f rooms a):faceOf rooms a []≠[]:=List.ne_nil_of_mem (kB m (w:=[]) .nil)
theorem kC{α:Type}(l:List α):l=[]∨∃e a,l=e++[a]:=by
 refine cn (fun l=>l=[]∨∃e a,l=e++[a]) (.inl rfl) (fun f w _=>.inr ⟨f,w,rfl⟩) l
inductive sp_law73(K:Za)(vs:List V)(H:Hp)(Q:VK)(E:XK):Prop
 |mk (aS a:Addr) (ns:List Int):(vs=[.ref a])->(fJ K H aS)->(ax K H a (ns.map V.int))->(ns.length<=63)->(∀H',Q (.bl true) H')->sp_law73 K vs H Q E
theorem CN{K:Za}{C:Addr}{vs:List V}{H:Hp}{Q:VK}{E:XK}(h:sp_law73 K vs H Q E):Ec K (jk K) (pY K) (kP K) (p6 K) (dI K 4) (d9 C) (nc K C) (kO K) gD (jE K C) (jD C) iQ nk eV (pX K) (bQ Q) (start AV vs) H:=by
 obtain⟨aS,a,ns,rfl,st,hs,hn,k⟩:=h;refine⟨_,rfl,a,ns,rfl,hs,hn,fun p c H1 _ co S1=>?_⟩;refine⟨_,rfl,_,rfl,d6 co (by decide) (by decide) fun c4 H2 f0 f1 cq c5=>?_⟩;refine⟨p,c,6,c4,rfl,cq,by decide,by decide,f0,by omega,fun t O l2 U l4 ts J Y rooms ds H3 T m zr zd b7 dc=>?_⟩;have dd:=((st.same S1).kt (c5.ktP co)).kt (dc.ktP cq);refine⟨_,rfl,_,rfl,p,c,t,O,l2,U,l4,ts,J,Y,rooms,ds,rfl,b7,T,m,fun f words H4 f4 wr nr lw di cs=>?_⟩;have T4:=T.ex b7 cs;have dm:=dd.kt (cs.ktP b7);have mh:=F_ m wr nr;have z4:=m.few;have zs:=m.says4;refine⟨_,rfl,t,O,l2,U,l4,ts,J,Y,rooms,ds,rfl,T4,m,fun x H5 MA S5=>?_⟩;refine⟨_,rfl,.inl ⟨f,_,rfl,.inl (ax.of (S5 _ _ f4)),fun g hg=>?_⟩⟩;have S6:ac H5 (upd H5 g (.lst (words.map V.str))):=ac.new hg;have ct:=S5.trans S6;refine⟨aS,x,g,J,Y,rooms,words,ds,rfl,dm.same ct,MA.same S6,aa,by omega,wr,mh,fun y H7 MY S7=>?_⟩;have b8:=ct.trans S7;have T7:=T4.same b8;have f7:=b8 _ _ f4;have v:=di.ex b8;clear st dd dm T T4 co cq b7 di c5 dc cs S1 S5 ct b8 S7 S6 f4 MA hs hg;have nf:=v.ne_strs f7;refine⟨_,rfl,_,rfl,p,c,t,O,l2,U,l4,ts,J,Y,rooms,ds,14,rfl,v,T7,m,by decide,fun sl us j H8 an cx ap aq b9 as B=>?_⟩;refine⟨fun n σ G=>∃(us:Ze) (j:List (List Str)),σ=[some (.ref a),some (.ref p),some (.ref t),some (.ref f),some (.ref y),some (.ref sl),none,none,none,none,none,none,none]/\n=us.length/\Gq (fV G p c) (cD p H7 G) (G sl=some (.lst (us.map V.ref))) (cw G us j) (∀M∈j,M∈pO J Y) (j.length<=20),⟨_,us,j,rfl,rfl,as,B,an,ap,aq,b9⟩,?_⟩;clear an ap aq b9 as B;rintro n σ G ⟨us,j,rfl,rfl,as,B,an,ap,aq,b9⟩;have T8:=T7.ex v B;refine⟨_,rfl,_,rfl,t,sl,O,l2,U,l4,ts,us,j,J,Y,rooms,ds,rfl,T8,m,an,ap.str,fun fa G1 cc S1=>⟨(by show 0<=aj;decide),fun e he=>⟨fx (faceOf rooms ds j),fx [],aA (bc.of (kp cc he)),aA (bc.of (xs:=([]:Zb).map V.str) aa),by rw[aX];decide,by rw[aX];decide,_,rfl,?_⟩⟩⟩;rw[cU];have S2:ac G (upd G1 e (.tup [])):=S1.trans (ac.new he);generalize upd G1 e (.tup [])=G2 at S2 ⊢;have cL:=as.ex S2;have a0:cD p H7 G2:=fun b o q nb=>S2 _ _ (B b o q nb);have a5:=S2 _ _ an;have a6:=cw.kt (ac.kt S2) ap;clear T8 as B an ap S1 S2 cc he;refine gV (fun cf=>?_) (fun cf=>?_)
 ·-- the ev ew is left ey
  have cf:faceOf rooms ds j=[]:=of_decide_eq_true cf;have cd:=Paired.length a6;obtain⟨A,u,rfl⟩:∃A u,us=A++[u]:=by
   rcases kC us with z|⟨A,u,z⟩
   ·rw[z]at cd;have:j=[]:=List.length_eq_zero_iff.1 cd.symm;rw[this]at cf;exact absurd cf (Dq m)
   ·exact⟨A,u,z⟩
  obtain⟨ce,M,rfl⟩:∃s' M,j=s'++[M]:=by
   rcases kC j with z|⟨A,u,z⟩
   ·rw[z,aD]at cd;cases cd
   ·exact⟨A,u,z⟩
  refine⟨fun σ' G'=>∃(L:Ze) (l:List (List Str)),σ'=[some (.ref a),some (.ref p),some (.ref t),some (.ref f),some (.ref y),some (.ref sl),none,none,none,none,none,none,none]/\L.length<(A++[u]).length/\Gq (fV G' p c) (cD p H7 G') (G' sl=some (.lst (L.map V.ref))) (cw G' L l) (∀M∈l,M∈pO J Y) (l.length<=20),fun σ' G' ⟨L,l,e1,e2,r⟩=>⟨_,e2,L,l,e1,rfl,r⟩,?_⟩;have d8:sl≠p:=(v.nep cx).symm;have ea:sl≠c:=(v.nec cx).symm;refine⟨_,rfl,.inl ⟨rfl,_,ax.of a5⟩,sl,_,.ref u,rfl,rfl,a5,?_,A,ce,rfl,?_,cL.upd d8.symm ea.symm,fun b o q nb=>?_,?_,?_,fun s hs=>aq s (cJ _ hs),?_⟩
  ·rw[ar,aD];simp
  ·rw[aD];show _<_+1;omega
  ·rw[ai (ae q cx)];exact a0 b o q nb
  ·rw[aa,ar];show some (HO.lst ((A.map V.ref++[V.ref u]).dropLast))=_;rw[uL]
  ·have kt:=cv (o:=.lst ((A++[u]).map V.ref).dropLast) a5;exact cw.kt kt (gS a6).1
  ·rw[aD]at b9;omega
 have eb:faceOf rooms ds j≠[]:=fun z=>cf (zzr1 z);have c0:=MY.ex v a0;have T9:=T7.ex v a0;have f9:=a0 _ _ f7 nf;have ns:∀M∈j,M≠stillSg:=fun M h=>(rC (aq M h)).2;refine⟨_,rfl,_,rfl,_,rfl,sl,f,us,j,words,rfl,a5,a6.str,fun M h=>(rC (aq M h)).1,f9,by omega,fun lf A G3 h3 pr S3=>?_⟩;have ci:cw G3 A (fU words j):=cw.kt (ac.kt S3) (pr _ a6);refine⟨y,lf,A,fU words j,J,_,rooms,_,rfl,c0.same S3,h3,ci,fun G4 S4=>?_⟩;rw[zzr1 (Bd m mh ns eb)];refine⟨true,rfl,_,rfl,?_⟩;rw[show(!decide (V.bl true=V.bl true))=false by rw[zzr1 rfl];rfl];refine aU ?_;have a7:=S3.trans S4;have dn:=c0.same a7;have Tb:=T9.same a7;have fb:=a7 _ _ f9;have dp:=cL.ex a7;clear c0 T9 f9 cL a5 a6 h3 ci S3 S4 a7 pr a0 T7 f7 v nf MY;refine⟨_,rfl,t,_,1,_,rfl,rfl,bc.of Tb.t,rfl,l2,rfl,⟨_,ax.of Tb.a2⟩,fun g hg=>?_⟩;refine bP (xs:=Y.map V.str) (fun i vs H'=>vs=((Y.take i).filter fun w=>!decide (w∈words)).map V.str/\ac G4 H'/\H' g=some (.lst vs)) ⟨rfl,ac.new hg,aa⟩ (fun i vs H' _ zq=>by obtain⟨_,S,h'⟩:=zq;exact⟨h',ax.of (S _ _ Tb.a2)⟩) ?_ ?_;rotate_left
 ·rintro i vs H' xv hx hi ⟨rfl,S',g'⟩;obtain⟨w,hw,rfl⟩:=bq hx;refine gN ⟨_,rfl,_,rfl,dX w,words.map dX,f,_,gJ _,rfl,.inl (ax.of (S' _ _ fb)),fH words,c9 _,by rw[cT];decide,_,rfl,?_⟩;show if(if true=true then !decide (dX w∈words.map dX)else _)=true then _ else _
  rw[if_pos rfl,ia];refine gV (fun c=>?_) (fun c=>?_)
  ·refine⟨_,rfl,g',?_,kq hi ⟨?_,?_,aa⟩⟩
   ·rw[ak];refine ay (bp (cF _ _) ?_);rw[bm];omega
   ·rw[bC hw,if_pos c,ar];rfl
   ·intro b o q;rw[ai (ae q hg)];exact S' _ _ q
  ·refine kq hi ⟨?_,S',g'⟩;rw[bC hw,if_neg c,cP]
 rintro vs G5 ⟨rfl,S5,g5⟩;rw[ak,bd]at g5;have g5:G5 g=some (.lst ((dS words Y).map V.str)):=g5;have T5:=Tb.same S5;refine⟨_,rfl,t,_,0,_,rfl,rfl,bc.of T5.t,rfl,_,rfl,_,rfl,t,_,2,_,rfl,rfl,bc.of T5.t,rfl,_,rfl,t,_,3,_,rfl,rfl,bc.of T5.t,rfl,_,rfl,l4,f,ts,words,ds,rfl,T5.a4,T5.ds,S5 _ _ fb,z4,fun d hd=>nH (m.good d hd),fun hd uh G6 h6 D6 S6=>⟨(by show 4<=aj;decide),fun un ec=>?_⟩⟩;have S7:ac G6 (upd G6 un (.tup [.ref O,.ref g,.ref U,.ref hd])):=ac.new ec;have a8:=S6.trans S7;have a9:=S5.trans a8;have TU:kE (upd G6 un (.tup [.ref O,.ref g,.ref U,.ref hd])) un O g U hd uh J (dS words Y) rooms (aT words ds):=⟨aa,a8 _ _ T5.a1,a8 _ _ g5,a8 _ _ T5.a3,S7 _ _ h6,D6.kt (ac.kt S7)⟩;have c1:=dn.same a9;have T7:=Tb.same a9;have f7:=a9 _ _ fb;have v:=dp.ex a9;generalize upd G6 un (.tup [.ref O,.ref g,.ref U,.ref hd])=G7 at TU c1 T7 f7 v ⊢;clear S5 S6 S7 a8 a9 h6 D6 g5 T5 dn Tb fb dp;have nf:=v.ne_strs f7;refine⟨_,rfl,_,rfl,p,c,un,O,g,U,hd,uh,J,_,rooms,_,10,rfl,v,TU,mh,by decide,fun rl ur D G8 r8 _ dr ed lr as B=>?_⟩;have dt:=TU.ex v B;have T8:=T7.ex v B;have c2:=c1.ex v B;have f8:=B _ _ f7 nf;have ef:∀M∈D,M≠stillSg:=fun M h=>(rC (ed M h)).2;clear TU T7 c1 f7 v B;refine⟨_,rfl,_,rfl,un,rl,O,g,U,hd,uh,ur,D,J,_,rooms,_,rfl,dt,mh,r8,dr.str,fun fa G9 cc S9=>⟨(by show 0<=aj;decide),fun e he=>⟨fx (faceOf rooms (aT words ds) D),fx [],aA (bc.of (kp cc he)),aA (bc.of (xs:=([]:Zb).map V.str) aa),by rw[aX];decide,by rw[aX];decide,?_⟩⟩⟩;rw[cU];have aC:ac G8 (upd G9 e (.tup [])):=S9.trans (ac.new he);generalize upd G9 e (.tup [])=ez at aC ⊢;have al:=cw.kt (ac.kt aC) dr;have ch:=aC _ _ r8;refine⟨_,rfl,_,rfl,y,rl,D,J,_,rooms,_,rfl,c2.same aC,⟨ur,ch,al.str⟩,by omega,ef,fun fe eg I=>?_,fun fe wl uw w eg ek _ hw go el bi I=>?_⟩
 ·have S:=aC.trans I;refine⟨_,rfl,_,rfl,y,rl,ur,D,J,_,rooms,_,rfl,c2.same S,I _ _ ch,cw.kt (ac.kt I) al,fun em bn=>?_⟩;rw[zzr0 (show ¬(faceOf rooms (aT words ds) D≠[])from fun z=>z fe),zzr1 fe];refine⟨_,rfl,.bb false rfl ⟨_,rfl,aU ⟨_,rfl,_,rfl,rfl,_,rfl,?_⟩⟩⟩;rw[show(!decide (V.bl (!true)=V.bl (!decide (V.non=V.non))))=false by rw[zzr1 (show V.non=V.non from rfl),zzr1 rfl];rfl];exact aU ⟨_,rfl,_,rfl,bN (k _)⟩
 ·have S:=aC.trans I;refine⟨_,rfl,_,rfl,y,rl,ur,D,J,_,rooms,_,rfl,c2.same S,I _ _ ch,cw.kt (ac.kt I) al,fun em bn=>?_⟩;rw[zzr1 (show faceOf rooms (aT words ds) D≠[]from fe),zzr0 fe];refine⟨_,rfl,.bb true rfl ⟨_,rfl,aU ⟨_,rfl,_,rfl,rfl,_,rfl,?_⟩⟩⟩;rw[show(!decide (V.bl (!false)=V.bl (!decide (V.ref wl=V.non))))=false by rw[zzr0 (show V.ref wl≠V.non from nofun),zzr1 rfl];rfl];refine aU ⟨_,rfl,_,rfl,aU ?_⟩;obtain⟨re,dx⟩:=tZ (.nil (ds:=aT words ds) (r0:=bV rooms)) go;rw[List.nil_append]at dx;obtain⟨wb,lb⟩:=Cj dx;have S':=S.trans bn;have dy:=dt.same S';have en:=T8.same S';have N:=bn _ _ ek;have cl:=Paired.mapP hw fun _ _ r=>tS.kt (ac.kt bn) r;refine⟨_,rfl,_,"list",.type "list",true,rfl,.inr (.inr ⟨wl,_,rfl,rfl,ax.of N⟩),rfl,_,rfl,aU ?_⟩;refine⟨_,rfl,_,rfl,un,wl,O,g,U,hd,uh,uw,w,J,_,rooms,_,rfl,dy,mh,N,cl,go,fun eH b1=>⟨_,rfl,aU ?_⟩⟩;have dK:=en.same b1;have dT:=b1 _ _ (S' _ _ f8);refine⟨_,rfl,_,rfl,_,rfl,t,O,l2,U,l4,f,wl,ts,uw,J,Y,rooms,words,ds,w,rfl,dK,z4,dT,b1 _ _ N,Paired.mapP cl fun _ _ r=>tS.kt (ac.kt b1) r,bi,fun bl ub eL dV d0 d1=>?_⟩;have d2:=dK.same d1;refine⟨_,rfl,_,rfl,t,bl,O,l2,U,l4,ts,ub,_,J,Y,rooms,ds,rfl,d2,m,dV,d0,wb.ok,fun eY c3=>⟨_,rfl,aU ?_⟩⟩;have b2:=c3 _ _ dV;refine⟨_,rfl,bl,rfl,⟨_,ax.of b2⟩,fun hl ep=>?_⟩;refine zB b2 (Paired.mapP d0 fun _ _ r=>tS.kt (ac.kt c3) r) (by rw[ak];exact bi) ep fun gs e0 d3 b3 er=>?_;have b4:=c3.trans er;have b5:=d1.trans b4;have lh:(az (w.map (c6 words ds))).length<=200000:=by
   unfold az;rw[ak];exact bp (cF _ _) (by rw[ak];exact bi)
  refine⟨_,rfl,_,rfl,hl,f,gs,_,words,rfl,d3,b3,Bi m wb,b5 _ _ dT,lh,fun lf ul es et pr b6=>?_⟩;have cm:sG K es ul (fU words (az (w.map (c6 words ds)))):=Paired.mapP (pr _ b3) fun _ _ r=>bH.kt (ac.kt b6) r;rw[lb,el]at cm;have Sx:=bn.trans (b1.trans (b5.trans b6));refine⟨_,rfl,.s (D.map fx),.s (D.map fx),⟨lf,_,rfl,ax.of et,l6 cm⟩,⟨rl,_,rfl,ax.of (Sx _ _ (I _ _ ch)),l6 (cw.kt (ac.kt Sx) (cw.kt (ac.kt I) al)).str⟩,?_,?_,?_⟩
  ·show DT.depths _+1<=40;have:=my D;omega
  ·show DT.depths _+1<=14;have:=my D;omega
  rw[zzr1 rfl];refine⟨true,rfl,bN ?_⟩;have d4:=b6 _ _ d3;refine⟨_,rfl,_,rfl,t,hl,O,l2,U,l4,ts,gs,_,J,Y,rooms,ds,rfl,d2.same (b4.trans b6),m,d4,Paired.mapP b3 fun _ _ r=>bH.kt (ac.kt b6) r,fun e3 e4 d5 e5=>⟨(by show 0<=aj;decide),fun e' eu=>⟨fx (faceOf rooms ds (az (w.map (c6 words ds)))),fx [],aA (bc.of (kp d5 eu)),aA (bc.of (xs:=([]:Zb).map V.str) aa),by rw[aX];decide,by rw[aX];decide,?_⟩⟩⟩;rw[cU,zzr0 (List.ne_nil_of_mem (kB m wb))];exact k _
def Gb(t:Addr)(x:Addr×Obj):Bool:=match x.2.data with
 |.seq its _=>match its.toList with
  |.str s _::r=>(!(s=="still") || (x.1==t && r.isEmpty)) && !(s=="ask") && !(s=="say") && (match r with | .ref _::_=>false|_=>true)
  |_=>true
 |_=>true
theorem rW{u:Addr}{o:Obj}:∀{K:Za},K.lookup u=some o->(u,o)∈K
 |[],h=>by cases h
 | (v,q)::K,h=>by
  rw[gQ]at h;cases e:u==v with
  |true =>
   rw[e]at h;cases h;have:u=v:=by simpa using e
   rw[this];exact dP
  |false =>
   rw[e]at h;exact eQ _ (rW h)
theorem Db{K:Za}{t:Addr}(h:K.all (Gb t)=true):NoTup K t:=fun u o m n x k r l d e=>by
 have:=qF.1 h _ (rW l);unfold Gb at this;simp only[d,e]at this;rw[fZ,fZ,fZ]at this;obtain⟨⟨⟨f,g⟩,i⟩,j⟩:=this;refine⟨fun q=>?_,fun q=>?_,fun q=>?_,fun a q z=>?_⟩
 ·rw[q]at f;have f:(u==t && r.isEmpty)=true:=by simpa using f
  rw[fZ]at f;exact⟨by simpa using f.1,by simpa using f.2⟩
 ·rw[q]at g;simp at g
 ·rw[q]at i;simp at i
 ·rw[z]at j;cases j
theorem still_mk{K:Za}{e:Addr}{o:Obj}{a:Array Value}{n:Nat}(g:bT K bM "STILL"=some (some (.ref e)))(l:K.lookup e=some o)(c:o.cls=.type "tuple")(d:o.data=.seq a n)(s:a.size<=aj)(v:a_ (stillSg.map V.str) a.toList)(f:K.all (Gb e)=true):
  ∃t,(bT K bM "STILL"=some (some (.ref t))/\NoTup K t)/\∃(o:Obj) (a:Array Value) (n:Nat),K.lookup t=some o/\o.cls=.type "tuple"/\o.data=.seq a n/\a.size<=aj/\a_ (stillSg.map V.str) a.toList :=
 ⟨e,⟨g,Db f⟩,o,a,n,l,c,d,s,v⟩
def fS(i:Nat):Stmt:=PySem.Challenge.pw_mumtrial_k73_stories_of_hidden.main.body.getD i (.Pass ⟨0,0,0,0⟩)
local macro_rules | `(tactic| walk_at "s")=>`(tactic| exact⟨rfl,rfl,rfl,by decide +kernel,rfl,by decide +kernel,by decide +kernel⟩)
local macro_rules | `(tactic| walk_at "l")=>`(tactic| (intro _ _ _ _ h;first|exact len_h h|exact len_g h|(cases h;subst_vars;rfl)|(obtain⟨_,_,h,_⟩:=h;subst h;rfl)|((repeat obtain⟨_,h⟩:=h);subst_vars;rfl)))
theorem zzlS{e:List Value}{n:Nat}(h:e.length=n+1):∃ a t,e=a::t∧t.length=n:=by
  cases e with
  |nil=>cases h
  |cons a t=>exact⟨a,t,rfl,Nat.succ.inj h⟩
local macro_rules | `(tactic| walk_at "b")=>`(tactic| (intro _ _ _ _ _ _ us hl;(repeat (have h:=zzlS hl;clear hl;obtain⟨_,_,e,hl⟩:=h;subst e));cases List.eq_nil_of_length_eq_zero hl;rfl))
def GS(K:Za)(x qual:Str)(st:Stmt)(f:Addr):Prop:=∃(oc:Value) (od an:Option Addr) (sl:Array (Option Value)) (kV dc pm cd ct:Value),
 K.lookup f=some ⟨oc,od,.func (ij x qual (hE st) (fF st) (bW st) .none kV dc pm an cd ct),sl⟩/\lZ K cd qual=true/\jg K (.ref f)=true
theorem Dp{K:Za}{x a:Str}{st:Stmt}{f:Addr}{g:Value}{h i:Option Addr}{j:Array (Option Value)}{kV m n e o:Value}(l:K.lookup f=some ⟨g,h,.func (ij x a (hE st) (fF st) (bW st) .none kV m n i e o),j⟩)
  (c:lZ K e a=true) (k:jg K (.ref f)=true):GS K x a st f:=⟨g,h,i,j,kV,m,n,e,o,l,c,k⟩
def hV(K:Za)(x:Str)(st:Stmt):Prop:=∃f,bT K bM x=some (some (.ref f))/\GS K x x st f
theorem fnG_mk{K:Za}{x:Str}{st:Stmt}{f:Addr}{g:Value}{h i:Option Addr}{j:Array (Option Value)}{kV m n e o:Value}(a:bT K bM x=some (some (.ref f)))(l:K.lookup f=some ⟨g,h,.func (ij x x (hE st) (fF st) (bW st) .none kV m n i e o),j⟩)
  (c:lZ K e x=true) (k:jg K (.ref f)=true):hV K x st:=⟨f,a,Dp l c k⟩
def DP(K:Za)(C:Addr)(m qual:Str)(st:Stmt):Prop:=∃f,eP K (.ref C) m=some (some (.ref f))/\wt K (.ref f)=true/\GS K m qual st f
theorem fnM_mk{K:Za}{C:Addr}{m e:Str}{st:Stmt}{f:Addr}{h:Value}{j n:Option Addr}{o:Array (Option Value)}{kV p q g r:Value}(a:eP K (.ref C) m=some (some (.ref f)))(i:wt K (.ref f)=true)
  (l:K.lookup f=some ⟨h,j,.func (ij m e (hE st) (fF st) (bW st) .none kV p q n g r),o⟩) (c:lZ K g e=true) (k:jg K (.ref f)=true):DP K C m e st:=⟨f,a,i,Dp l c k⟩
theorem GS.fun_{K:Za}{x a:Str}{st:Stmt}{f:Addr}(T:GS K x a st f):∃e,Gv K x a st f e:=by
 obtain⟨g,h,i,j,kV,m,n,o,p,l,c,k⟩:=T;exact⟨_,Dn (st:=st) l c k⟩
def Gx:Sp:=fun _ _ _ _=>False
theorem GD{P:bD}{w:World}{K:Za}{a:Str->Option Value}{base:Heap}{k:Nat}{f:Addr}{e:j3}{g:Zb}:lB P w K a base CX0 k f e g Gx:=⟨fun _ _ _ _ h=>h.elim,fun _ _ _ _ _ _ _ _ _ _ _ _ _ h=>h.elim⟩
def Gg(K:Za)(a:Addr)(ws:Zb):Prop:=∀H,bc K H a (ws.map V.str)
theorem Ae{K:Za}{a:Addr}{f:Zb}{o:Obj}{e:Array Value}{n:Nat}(l:K.lookup a=some o)(c:o.cls=.type "tuple")(d:o.data=.seq e n)(z:e.size<=aj)(v:a_ (f.map V.str) e.toList):Gg K a f :=
 fun _=>.inr ⟨o,e,n,l,c,d,z,v⟩
section
variable{P:bD}{w:World}{K:Za}{mg:Str->Option Value}{base h:Heap}{C:Addr}{x qual:Str}{st:Stmt}{N ps:Zb}{k:Nat}{sp:Sp}
abbrev DO(ps:Zb)(sp:Sp):Prop:=∀vs H Q E,sp vs H Q E->vs.length=ps.length
abbrev BodyOk(CX:DQ)(P:bD)(w:World)(K:Za)(mg:Str->Option Value)(base:Heap)(qual:Str)(st:Stmt)(N:Zb)(k:Nat)(sp:Sp)(nox:Cx->Cx):Prop:=N.Nodup->∀(f:Addr) (cdv:Value) (A:Around) (outer:List Env) (s:Shared) (H:Hp) (vs:List V) (Q:VK) (E:XK),eN k (A.deeper (envOfC qual (bW st) s.heap.objs.size f cdv))->(A.deeper (envOfC qual (bW st) s.heap.objs.size f cdv)).units+16<cLine->sp vs H Q E ->
 ∃t,xW (nox (zz CX P w K mg base N qual (bW st) f cdv A outer s H E)) (fF st) t/\t (bQ Q) (start N vs) H
abbrev zU(x qual:Str)(st:Stmt)(ps:Zb):Prop:=∀(kV doc pm:Value) (an:Option Addr) (cdv ct:Value) (us:Zf),us.length=ps.length->bindArgs (ij x qual (hE st) (fF st) (bW st) .none kV doc pm an cdv ct) ⟨us,[]⟩=pure (ps.zip us)
theorem dG(X:K.In h)(G:h.Ns bM mg)(T:hV K x st)(b:BodyOk CX0 P w K mg base x st N k sp Cx.nox)(i:zU x x st ps)(S:jP N ps (bW st):=by walk_at "s")(l:DO ps sp:=by walk_at "l"):Def P w K mg base x ps (k+1) sp:=by
 obtain⟨f,a,t⟩:=T;obtain⟨j,F⟩:=t.fun_;exact⟨f,j,F.ok S l fun e A outer s H m Q E g h=>b S.nd f e A outer s H m Q E g (AC g) h,ig X G a,F.kp,F.binds i⟩
theorem dM(j:B9 K C)(T:DP K C x qual st)(b:BodyOk CX0 P w K mg base qual st N k sp Cx.nox)(m:zU x qual st ps)(S:jP N ps (bW st):=by walk_at "s")(l:DO ps sp:=by walk_at "l"):Ce P w K mg base C x ps (k+1) sp:=by
 obtain⟨f,a,i,t⟩:=T;obtain⟨n,F⟩:=t.fun_;exact⟨f,n,F.ok S l fun e A outer s H o Q E g h=>b S.nd f e A outer s H o Q E g (AC g) h,j,⟨a,i,F.kp⟩,F.binds m⟩
theorem dN{y:Str}(j:mg y=some (.ref C))(m:wq K C=true)(n:jg K (.ref C)=true)(T:DP K C "__init__" qual st)(b:BodyOk CX0 P w K mg base qual st N k sp Cx.nox)(o:zU "__init__" qual st ps)(S:jP N ps (bW st):=by walk_at "s")(l:DO ps sp:=by walk_at "l"):New P w K mg base y C ps (k+1) sp:=by
 obtain⟨f,a,i,t⟩:=T;obtain⟨p,F⟩:=t.fun_;exact⟨f,p,F.ok S l fun e A outer s H q Q E g h=>b S.nd f e A outer s H q Q E g (AC g) h,j,⟨m,a,i,n⟩,F.binds o⟩
end
structure Zs(mg:Str->Option Value):Prop where
 all:mg "all"=none
 bool:mg "bool"=none
 dict:mg "dict"=none
 enumerate:mg "enumerate"=none
 int:mg "int"=none
 isinstance:mg "isinstance"=none
 len:mg "len"=none
 list:mg "list"=none
 range:mg "range"=none
 str:mg "str"=none
 tuple:mg "tuple"=none
 zip:mg "zip"=none
structure Cs(K:Za)(mg:Str->Option Value)(C a_STILL a_HUSH:Addr):Prop where
 LETTERS:Gc mg "LETTERS" (.str "abcdefghijklmnopqrstuvwxyz")
 LONGEST_NAME:Gc mg "LONGEST_NAME" (.int 8)
 MOST_WORDS:Gc mg "MOST_WORDS" (.int 4)
 MOST_ROOMS:Gc mg "MOST_ROOMS" (.int 150)
 MOST_DOORS:Gc mg "MOST_DOORS" (.int 2000)
 STILL:Gc mg "STILL" (.ref a_STILL)
 HUSH:Gc mg "HUSH" (.ref a_HUSH)
 still:Gg K a_STILL stillSg
 hush:Gg K a_HUSH aF
 nst:bT K bM "STILL"=some (some (.ref a_STILL))
 mc:MC K C
 cm:mg "Machine"=some (.ref C)
 makes:wq K C=true
 kc:jg K (.ref C)=true
structure Ts(K:Za)(C:Addr):Prop where
 f_law_spread:hV K "_law_spread" (fS 42)
 f_law_open:hV K "_law_open" (fS 43)
 f_law_anew:hV K "_law_anew" (fS 44)
 f_law_take:hV K "_law_take" (fS 45)
 f_law_names:hV K "_law_names" (fS 46)
 f_law_put:hV K "_law_put" (fS 48)
 f_law_draw_doors:hV K "_law_draw_doors" (fS 49)
 f_law_model:hV K "_law_model" (fS 50)
 f_is_name:hV K "is_name" (fS 12)
 f_as_keys:hV K "as_keys" (fS 13)
 f_first_wrong_name:hV K "first_wrong_name" (fS 14)
 f_door_signs:hV K "door_signs" (fS 15)
 f_first_wrong_door:hV K "first_wrong_door" (fS 16)
 f_goals_by_start_and_sign:hV K "goals_by_start_and_sign" (fS 17)
 f_led_by_still:hV K "led_by_still" (fS 18)
 f_first_led_round:hV K "first_led_round" (fS 19)
 f_need_none:hV K "need_none" (fS 20)
 f_need_parts:hV K "need_parts" (fS 21)
 f_doors_by_start:hV K "doors_by_start" (fS 22)
 f_has_asks_alone:hV K "has_asks_alone" (fS 23)
 f_Machine___init__:DP K C "__init__" "Machine.__init__" (iW (fS 24) 0)
 f_law_machine:hV K "_law_machine" (fS 59)
 f_Machine_rooms:DP K C "rooms" "Machine.rooms" (iW (fS 24) 3)
 f_Machine_led_from:DP K C "led_from" "Machine.led_from" (iW (fS 24) 8)
 f_with_still:hV K "with_still" (fS 31)
 f_Machine_goals:DP K C "goals" "Machine.goals" (iW (fS 24) 7)
 f_Machine_is_quiet:DP K C "is_quiet" "Machine.is_quiet" (iW (fS 24) 5)
 f_law_still_on:hV K "_law_still_on" (fS 47)
 f_Machine_asks:DP K C "asks" "Machine.asks" (iW (fS 24) 1)
 f_Machine_says:DP K C "says" "Machine.says" (iW (fS 24) 2)
 f_Machine_doors:DP K C "doors" "Machine.doors" (iW (fS 24) 4)
 f_first_face:hV K "first_face" (fS 32)
 f_face_behind:hV K "face_behind" (fS 33)
 f_face_of:hV K "face_of" (fS 34)
 f_is_story:hV K "is_story" (fS 35)
 f_add_still_steps:hV K "add_still_steps" (fS 37)
 f_steps_by:hV K "steps_by" (fS 38)
 f_steps_along:hV K "steps_along" (fS 39)
 f_walk_of:hV K "walk_of" (fS 40)
 f_law_quiet:hV K "_law_quiet" (fS 55)
 f_law_in_order:hV K "_law_in_order" (fS 56)
 f_law_face_on:hV K "_law_face_on" (fS 57)
 f_law_face_at:hV K "_law_face_at" (fS 58)
 f_law_same:hV K "_law_same" (fS 54)
 f_law_is_walk:hV K "_law_is_walk" (fS 60)
 f_law_round:hV K "_law_round" (fS 51)
 f_need_says:hV K "need_says" (fS 26)
 f_hidden_sign:hV K "hidden_sign" (fS 27)
 f_hidden:hV K "hidden" (fS 28)
 f_law_hidden_doors:hV K "_law_hidden_doors" (fS 52)
 f_law_some_says:hV K "_law_some_says" (fS 53)
 f_law_road_of:hV K "_law_road_of" (fS 61)
 f_law_turned_back:hV K "_law_turned_back" (fS 62)
 f_law_left:hV K "_law_left" (fS 63)
 f_law73:hV K "law" (fS 64)
section
variable{P:bD}{w:World}{K:Za}{mg:Str->Option Value}{base h:Heap}{C a_STILL a_HUSH:Addr}
section
variable(P:bD)(w:World)(K:Za)(mg:Str->Option Value)(C a_STILL a_HUSH:Addr)
abbrev jR:Prop:=∀base,Def P w K mg base "_law_spread" ["cell","at"] 1 kN
abbrev sP:Prop:=∀base,Def P w K mg base "_law_open" ["script"] 1 (pX K)
abbrev mO:Prop:=∀base,Def P w K mg base "_law_anew" ["pen"] 1 vv
abbrev eZ:Prop:=∀base,Def P w K mg base "_law_take" ["pen","many"] 2 eV
abbrev kK:Prop:=∀base,Def P w K mg base "_law_names" ["pen","many"] 3 nj
abbrev oZ:Prop:=∀base,Def P w K mg base "_law_put" ["doors","door"] 1 rq
abbrev gp:Prop:=∀base,Def P w K mg base "_law_draw_doors" ["pen","asks","says","rooms","full"] 3 gv
abbrev pE:Prop:=∀base,Def P w K mg base "_law_model" ["pen","most","full"] 4 nk
abbrev o0:Prop:=∀base,Def P w K mg base "is_name" ["text"] 1 sp_is_name
abbrev jU:Prop:=∀base,Def P w K mg base "as_keys" ["things"] 1 (wU K)
abbrev jA:Prop:=∀base,Def P w K mg base "as_keys" ["things"] 1 (sp_as_keys K)
abbrev ff:Prop:=∀base,Def P w K mg base "first_wrong_name" ["names","most","taken"] 2 (sp_first_wrong_name K)
abbrev jT:Prop:=∀base,Def P w K mg base "door_signs" ["asks","says"] 1 (sp_door_signs K)
abbrev fg:Prop:=∀base,Def P w K mg base "first_wrong_door" ["doors","rooms","signs"] 2 (sp_first_wrong_door K)
abbrev cM:Prop:=∀base,Def P w K mg base "goals_by_start_and_sign" ["doors"] 1 np
abbrev iC:Prop:=∀base,Def P w K mg base "led_by_still" ["goals","room"] 1 vq
abbrev fP:Prop:=∀base,Def P w K mg base "first_led_round" ["rooms","led"] 1 sp_first_led_round
abbrev iZ:Prop:=∀base,Def P w K mg base "need_none" ["part","number"] 1 sp_need_none
abbrev jQ:Prop:=∀base,Def P w K mg base "need_parts" ["asks","says","rooms","doors"] 3 sp_need_parts
abbrev gr:Prop:=∀base,Def P w K mg base "doors_by_start" ["rooms","doors"] 1 sp_doors_by_start
abbrev gq:Prop:=∀base,Def P w K mg base "has_asks_alone" ["doors"] 1 sp_has_asks_alone
abbrev k9:Prop:=∀base,New P w K mg base "Machine" C ["self","asks","says","rooms","doors"] 4 (nn C)
abbrev lP:Prop:=∀base,Def P w K mg base "_law_machine" ["told"] 6 (jD C)
abbrev cN:Prop:=∀base,Ce P w K mg base C "rooms" ["self"] 1 (io C)
abbrev fh:Prop:=∀base,Ce P w K mg base C "led_from" ["self","room"] 1 (iR C)
abbrev hW:Prop:=∀base,Def P w K mg base "with_still" ["M","rooms"] 2 (sp_with_still C)
abbrev dH:Prop:=∀base,Ce P w K mg base C "goals" ["self","room","sign"] 1 (f_ K C)
abbrev dB:Prop:=∀base,Ce P w K mg base C "is_quiet" ["self","room"] 1 (gC C)
abbrev fN:Prop:=∀base,Def P w K mg base "_law_still_on" ["doors","rooms"] 1 (gB K)
abbrev iD:Prop:=∀base,Ce P w K mg base C "asks" ["self"] 1 (p7 C)
abbrev fR:Prop:=∀base,Ce P w K mg base C "says" ["self"] 1 (nh C)
abbrev gX:Prop:=∀base,Ce P w K mg base C "doors" ["self"] 1 (rA C)
abbrev jS:Prop:=∀base,Def P w K mg base "first_face" ["M"] 3 (dJ C)
abbrev jd:Prop:=∀base,Def P w K mg base "face_behind" ["M","face","sign"] 3 (pZ K C)
abbrev o5:Prop:=∀base,Def P w K mg base "face_of" ["M","story"] 4 (sp_face_of C)
abbrev sR:Prop:=∀base,Def P w K mg base "is_story" ["M","story"] 5 (d9 C)
abbrev fQ:Prop:=∀base,Def P w K mg base "add_still_steps" ["M","steps"] 2 (kR K C)
abbrev mN:Prop:=∀base,Def P w K mg base "steps_by" ["M","rooms","sign"] 2 (iP K C)
abbrev ja:Prop:=∀base,Def P w K mg base "steps_along" ["M","story"] 3 (kQ K C)
abbrev uI:Prop:=∀base,Def P w K mg base "walk_of" ["M","story"] 4 (nc K C)
abbrev i3:Prop:=∀base,Def P w K mg base "_law_quiet" ["told","room"] 1 jj
abbrev fO:Prop:=∀base,Def P w K mg base "_law_in_order" ["told","some"] 2 wT
abbrev gy:Prop:=∀base,Def P w K mg base "_law_face_on" ["told","face","sign"] 3 (oB K)
abbrev jb:Prop:=∀base,Def P w K mg base "_law_face_at" ["told","story"] 4 (jk K)
abbrev sO:Prop:=∀base,Def P w K mg base "_law_same" ["found","due"] 5 (dI K 4)
abbrev lQ:Prop:=∀base,Def P w K mg base "_law_is_walk" ["told","walk"] 2 (kP K)
abbrev kJ:Prop:=∀base,Def P w K mg base "_law_round" ["rooms","doors"] 2 ni
abbrev kI:Prop:=∀base,Def P w K mg base "need_says" ["M","words"] 4 (g9 C)
abbrev jc:Prop:=∀base,Def P w K mg base "hidden_sign" ["sign","words"] 1 (jF K)
abbrev xT:Prop:=∀base,Def P w K mg base "hidden" ["M","words"] 6 (jE K C)
abbrev e_:Prop:=∀base,Def P w K mg base "_law_hidden_doors" ["doors","words"] 1 gD
abbrev jX:Prop:=∀base,Def P w K mg base "_law_some_says" ["pen","told"] 3 iQ
abbrev lO:Prop:=∀base,Def P w K mg base "_law_road_of" ["pen","told","most"] 5 (kO K)
abbrev i0:Prop:=∀base,Def P w K mg base "_law_turned_back" ["told","words","walk"] 1 (p6 K)
abbrev sQ:Prop:=∀base,Def P w K mg base "_law_left" ["story","words"] 1 (pY K)
end
section
variable(X:K.In h)(G:h.Ns bM mg)(z:Zs mg)(c:Cs K mg C a_STILL a_HUSH)(T:Ts K C)
include X G z c T
theorem tf:jR P w K mg:=fun base=>dG X G T.f_law_spread (fun S _ _ _ _ _ _ _ _ _ a e h=>bK (Bj (K:=K) h) (ab (bv (iM GC (pv 0) (be C5 ah ah)) (af (au (pv 0))) aH) (ab (qs 2 S (be gm (be dh (be dh (be iu (be gm (pv 0) ah) ah) (be iu (pv 1) ah)) ah) ah)) (ab (qs 3 S (be gm (be dh (be dh (be iu (pv 2) (pv 2)) (be iu (pv 1) ah)) (be gm (pv 0) ah)) ah)) (ab (qs 4 S (be gm (be dh (be dh (be iu (pv 3) (pv 3)) (be iu (pv 2) ah)) ah) ah)) (af (au (be dh (be iu (be dh (be iu (pv 2) ah) (pv 3)) ah) (pv 4))))))))) (by walk_at "b")
theorem wM:sP P w K mg:=fun base=>dG X G T.f_law_open (fun S _ _ _ _ _ _ _ _ _ a e h=>bK (Ek h) (ab (qs 1 S (qL rfl z.list (a1 (eh iS (pv 0) hC (eA ah))))) (ab (bz bj rfl (jI rfl z.enumerate (a1 (eh iS (pv 0) (eA ah) (eA ah)))) (fC rfl (aO (gn 2 S) (aO (gn 3 S) dR))) (af (rF (be dh (xl (pv 1) (be gm (pv 2) ah)) (pv 3)) (rH (pv 1) (be gm (pv 2) ah) kh)))) (af (au (bY (a3 (pv 1) ah ah))))))) (by walk_at "b")
theorem wO:mO P w K mg:=fun base=>dG X G T.f_law_anew (fun S _ _ _ _ _ _ _ _ _ a e h=>bK (Ep (K:=K) h) (ab (rF ah (rH (pv 0) ah kh)) (af (au (pv 0))))) (by walk_at "b")
theorem wK(a:jR P w K mg):eZ P w K mg:=fun base=>dG X G T.f_law_take (fun S _ _ _ _ _ _ _ _ _ e f h=>bK (Ei h) (ab (bv (iM Av (xl (pv 0) ah) (pv 1)) (ab (qs 2 S (xl (pv 0) ah)) (ab (qs 3 S ah) (ab (bv (iM Av (pv 2) (ql z.len (a1 (xl (pv 0) ah)))) (af (qs 3 S (xl (xl (pv 0) ah) (pv 2)))) (af (bv (iM uk (ql z.len (a1 (xl (pv 0) ah))) ah) (af (qs 3 S (be gm (xl (xl (pv 0) ah) (be gm (be dh (be iu (pv 2) ah) ah) (ql z.len (a1 (xl (pv 0) ah))))) (be dh (be C5 ah ah) (pv 2))))) aH))) (ab (rF (be dh (pv 2) ah) (rH (pv 0) ah kh)) (af (rF (qf e (a base) (a2 (pv 3) (pv 2))) (rH (pv 0) ah kh))))))) aH) (ab (qs 4 S (be gm (xl (pv 0) ah) (pv 1))) (ab (rF (be Aw (xl (pv 0) ah) (pv 1)) (rH (pv 0) ah kh)) (af (au (pv 4))))))) (by walk_at "b")
theorem vk(a:eZ P w K mg):kK P w K mg:=fun base=>dG X G T.f_law_names (fun S _ _ _ _ _ _ _ _ _ e f h=>bK (CL h) (ab (qs 2 S bF) (ab (qs 3 S (g6 PySem.F.plainAttrs_str PySem.F.slot_str_join PySem.F.type_str_join EJ bF (a1 (qc (jn rfl z.range (a1 ah)) (bf (by decide)) fun _ _ _ _ _ _=>⟨gc 0,ee,xs' (pv 1) (qf e (a base) (a2 (pv 2) ah))⟩)))) (ab (qs 4 S (qf e (a base) (a2 (pv 0) ah))) (ab (qs 5 S (qf e (a base) (a2 (pv 0) ah))) (ab (qs 6 S (qf e (a base) (a2 (pv 0) ah))) (ab (qs 7 S (bY ck)) (ab (bz bj rfl (jn rfl z.range (a1 (pv 1))) (gn 8 S) (ab (qs 9 S (xs' (pv 2) (be gm (be dh (pv 5) (be iu ah (pv 8))) ah))) (ab (qs 10 S (eh vx (pv 3) hC (eA (be gm (be dh (pv 6) (be iu (pv 8) (be gm (pv 4) ah))) ah)))) (ab (qs 11 S (xl (bY (a3 ah (ql z.len (a1 (pv 10))) (be Aw (ql z.len (a1 (pv 10))) ah))) (pv 4))) (af (br (g6 da fX fW cb (pv 7) (a1 (be rQ (be rQ (eh vx (pv 10) hC (eA (pv 11))) (pv 9)) (eh vx (pv 10) (eA (pv 11)) hC)))))))))) (af (au (pv 7))))))))))) (by walk_at "b")
theorem yo:oZ P w K mg:=fun base=>dG X G T.f_law_put (fun S _ _ _ _ _ _ _ _ _ e a h=>bK (FP h) (af (bv (wB (dg a) (pv 1) (pv 0)) (af (br (g6 da fX fW cb (pv 0) (a1 (pv 1))))) aH))) (by walk_at "b")
theorem m7(a:eZ P w K mg)(e:oZ P w K mg):gp P w K mg:=fun base=>dG X G T.f_law_draw_doors (fun S _ _ _ _ _ _ _ _ _ f g h=>bK (tE h) (ab (qs 5 S (bY ck)) (ab (qs 6 S (qf f (a base) (a2 (pv 0) ah))) (ab (bz bj rfl (jI rfl z.enumerate (a1 (pv 3))) (fC rfl (aO (gn 7 S) (aO (gn 8 S) dR))) (ab (bz bj rfl (jn rfl z.range (a1 (xl (bY (cu ah (a3 ah ah ah))) (qf f (a base) (a2 (pv 0) ah))))) (gn 9 S) (ab (qs 10 S (aZ (a2 bF (xl (pv 2) (qf f (a base) (a2 (pv 0) (ql z.len (a1 (pv 2))))))))) (af (br (qf f (e base) (a2 (pv 5) (aZ (a3 (pv 8) (pv 10) (xl (pv 3) (qf f (a base) (a2 (pv 0) (ql z.len (a1 (pv 3)))))))))))))) (ab (bz bj rfl (aR (pv 1)) (gn 11 S) (af (bz bj rfl (jn rfl z.range (a1 (xl (bY (cu (pv 4) (a3 ah ah ah))) (qf f (a base) (a2 (pv 0) ah))))) (gn 9 S) (af (br (qf f (e base) (a2 (pv 5) (aZ (a3 (pv 8) (aZ (a2 bF (pv 11))) (xl (pv 3) (qf f (a base) (a2 (pv 0) (ql z.len (a1 (pv 3))))))))))))))) (ab (qs 12 S (xl (bY (a2 (eh iS (pv 3) (eA (be dh (pv 7) ah)) hC) (eh iS (pv 3) hC (eA (pv 7))))) (pv 6))) (af (bv (PW.pt (eK (iM (rN g) (pv 12) (bY ck)) (eo (iM jr (qf f (a base) (a2 (pv 0) ah)) ah)))) (af (br (qf f (e base) (a2 (pv 5) (aZ (a3 (pv 8) (aZ (a1 bF)) (xq (pv 12) (qf f (a base) (a2 (pv 0) (ql z.len (a1 (pv 12)))))))))))) aH)))))) (af (au (pv 5))))))) (by walk_at "b")
theorem vm(g:mO P w K mg)(a:eZ P w K mg)(e:kK P w K mg)(f:gp P w K mg):pE P w K mg:=fun base=>dG X G T.f_law_model (fun S _ _ _ _ _ _ _ _ _ i j h=>bK (CM h) (ab (br (qf i (g base) (a1 (pv 0)))) (ab (qs 3 S (qf i (e base) (a2 (pv 0) ah))) (ab (qs 4 S (eh iS (pv 3) hC (eA (be dh ah (xl (bY (cu ah (cu ah (cu ah (a3 ah ah ah))))) (qf i (a base) (a2 (pv 0) ah))))))) (ab (qs 5 S (eh iS (pv 3) (eA ah) (eA (be dh ah (xl (bY (cu ah (cu ah (cu ah (a3 ah ah ah))))) (qf i (a base) (a2 (pv 0) ah))))))) (ab (qs 6 S (qf i (e base) (a2 (pv 0) (be dh ah (qf i (a base) (a2 (pv 0) (pv 1))))))) (ab (qs 7 S (qf i (f base) (cu (pv 0) (cu (pv 4) (a3 (pv 5) (pv 6) (pv 2)))))) (af (au (aZ (cu (pv 4) (a3 (pv 5) (pv 6) (pv 7))))))))))))) (by walk_at "b")
theorem yq:o0 P w K mg:=fun base=>dG X G T.f_is_name (fun S _ _ _ _ _ _ _ _ _ a e h=>bK (yI h) (af (au (mr (Dr rO (pv 0) bF) (mr (Dr GB (ql z.len (a1 (pv 0))) (iq rfl c.LONGEST_NAME)) (rJ (qB (iX rfl) z.all uK (a1 (qc (FS (pv 0)) (bf (by decide)) fun _ _ _ _ _ _=>⟨gc 0,ee,eci yV (pv 0) (iq rfl c.LETTERS)⟩))))))))) (by walk_at "b")
theorem wQ:jU P w K mg:=fun base=>dG X G T.f_as_keys (N:=oX) (fun S _ _ _ _ _ _ _ _ _ e a h=>by rcases h with h|h;(exact bK (yN h) (ab (qs 1 S jo) (ab (bz bj rfl (aR (pv 0)) (gn 2 S) (af (eW a (pv 1) (pv 2) eT rfl))) (af (au (pv 1))))));(exact bK (w_ h) (ab (qs 1 S rK) (ab (bz bj rfl (aR (pv 0)) (gn 2 S) (af (eW a (pv 1) (pv 2) eT rfl))) (af (au (pv 1))))))) (by walk_at "b") (l:=fun f H Q E h=>by rcases h with h|h<;>(cases h;subst_vars;rfl))
theorem yt(a:jU P w K mg):jA P w K mg:=fun base=>Def.weak (a base) (fun _ _ _ _ h=>.inl h)
theorem lg(a:o0 P w K mg)(e:jA P w K mg):ff P w K mg:=fun base=>dG X G T.f_first_wrong_name (fun S _ _ _ _ _ _ _ _ _ f g h=>bK (ln h) (ab (bv (iM jr (ql z.len (a1 (pv 0))) ah) (af (au ah)) aH) (ab (qs 3 S (qf f (e base) (a1 (pv 2)))) (ab (bz bj rfl (jI rfl z.enumerate (a1 (pv 0))) (fC rfl (aO (gn 4 S) (aO (gn 5 S) dR))) (ab (bv (PW.pt (jW (iM jr (pv 4) (pv 1)) (jW (gj (oK g (pv 5) (pv 3))) (jH (i7 (df (qf f (a base) (a1 (pv 5))))))))) (af (au (pv 4))) aH) (af (eW g (pv 3) (pv 5) eT rfl)))) (af (au oH)))))) (by walk_at "b")
theorem tm:jT P w K mg:=fun base=>dG X G T.f_door_signs (fun S _ _ _ _ _ _ _ _ _ a e h=>bK (tF c.still h) (af (au (be rP (be rP (qc (aR (pv 0)) (bf (by decide)) fun _ _ _ _ _ _=>⟨gc 0,ee,aZ (a2 bF (pv 0))⟩) (qc (aR (pv 1)) (bf (by decide)) fun _ _ _ _ _ _=>⟨gc 0,ee,aZ (a2 bF (pv 0))⟩)) (bY (a1 (iq rfl c.STILL))))))) (by walk_at "b")
theorem lm(a:jA P w K mg):fg P w K mg:=fun base=>dG X G T.f_first_wrong_door (fun S _ _ _ _ _ _ _ _ _ f e h=>bK (lp h) (ab (qs 3 S (qf f (a base) (a1 (pv 1)))) (ab (qs 4 S rK) (ab (bz bj rfl (jI rfl z.enumerate (a1 (pv 0))) (fC rfl (aO (gn 5 S) (aO (gn 6 S) dR))) (ab (bv (PW.pt (jW (iM jr (pv 5) (iq rfl c.MOST_DOORS)) (jH (gj (oK e (pv 6) (pv 4)))))) (af (au (pv 5))) aH) (ab (bv (PW.pt (jW (gj (jp e (xq (pv 6) ah) (pv 3))) (jW (wB (dg e) (xq (pv 6) ah) (pv 2)) (jH (gj (jp e (xq (pv 6) ah) (pv 3))))))) (af (au (pv 5))) aH) (af (eW e (pv 4) (pv 6) eT rfl))))) (af (au oH)))))) (by walk_at "b")
theorem ik:cM P w K mg:=fun base=>dG X G T.f_goals_by_start_and_sign (fun S _ _ _ _ _ _ _ _ _ e a h=>bK (ip h) (ab (qs 1 S rK) (ab (bz bj rfl (aR (pv 0)) (fC rfl (aO (gn 2 S) (aO (gn 3 S) (aO (gn 4 S) dR)))) (af (br (g6 da fX fW cb (g6 PySem.F.plainAttrs_dict PySem.F.slot_dict_setdefault PySem.F.type_dict_setdefault (BB a) (pv 1) (a2 (aZ (a2 (pv 2) (pv 3))) (bY ck))) (a1 (pv 4)))))) (af (au (pv 1)))))) (by walk_at "b")
theorem pL:iC P w K mg:=fun base=>dG X G T.f_led_by_still (fun S _ _ _ _ _ _ _ _ _ e a h=>bK (pP c.still h) (ab (qs 2 S jo) (ab (qs 3 S (bY (a1 (pv 1)))) (ab (km bj (iM uk (ql z.len (a1 (pv 3))) ah) (ab (qs 4 S (oJ da qo qk rR (pv 3))) (af (bz bj rfl (FT (rL a (pv 0) (aZ (a2 (pv 4) (iq rfl c.STILL))) (aZ ck) ⟨rfl,rfl,rfl,rfl⟩)) (gn 5 S) (af (bv (gj (jp a (pv 5) (pv 2))) (ab (eW a (pv 2) (pv 5) eT rfl) (af (br (g6 da fX fW cb (pv 3) (a1 (pv 5)))))) aH)))))) (af (au (pv 2))))))) (by walk_at "b")
theorem mj:fP P w K mg:=fun base=>dG X G T.f_first_led_round (fun S _ _ _ _ _ _ _ _ _ e a h=>bK (mn h) (ab (bz bj rfl (jI rfl z.enumerate (a1 (pv 0))) (fC rfl (aO (gn 2 S) (aO (gn 3 S) dR))) (af (bv (gj (oK a (pv 3) (nB a (pv 1) (pv 3) (fun _ _=>rfl)))) (af (au (pv 2))) aH))) (af (au oH)))) (by walk_at "b")
theorem vh:iZ P w K mg:=fun base=>dG X G T.f_need_none (fun S _ _ _ _ _ _ _ _ _ a e h=>bK (vA (K:=K) h) (af (bv (gj (vF (pv 1))) (af (rE)) aH))) (by walk_at "b")
theorem s_(a:ff P w K mg)(g:jT P w K mg)(f:fg P w K mg)(e:iZ P w K mg):jQ P w K mg:=fun base=>dG X G T.f_need_parts (fun S _ _ _ _ _ _ _ _ _ i j h=>bK (tw (K:=K) h) (ab (br (qf i (e base) (a2 bF (qf i (a base) (a3 (pv 0) (iq rfl c.MOST_WORDS) (bY ck)))))) (ab (br (qf i (e base) (a2 bF (qf i (a base) (a3 (pv 1) (iq rfl c.MOST_WORDS) (pv 0)))))) (ab (br (qf i (e base) (a2 bF (qf i (a base) (a3 (pv 2) (iq rfl c.MOST_ROOMS) (bY ck)))))) (af (br (qf i (e base) (a2 bF (qf i (f base) (a3 (pv 3) (pv 2) (qf i (g base) (a2 (pv 0) (pv 1))))))))))))) (by walk_at "b")
theorem m9:gr P w K mg:=fun base=>dG X G T.f_doors_by_start (fun S _ _ _ _ _ _ _ _ _ e a h=>bK (nA h) (ab (qs 2 S jo) (ab (bz bj rfl (aR (pv 0)) (gn 3 S) (af (eW a (pv 2) (pv 3) (bY ck) rfl))) (ab (bz bj rfl (aR (pv 1)) (gn 4 S) (af (br (g6 da fX fW cb (nB a (pv 2) (xq (pv 4) ah) (fun _ _=>rfl)) (a1 (pv 4)))))) (af (au (pv 2))))))) (by walk_at "b")
theorem m8:gq P w K mg:=fun base=>dG X G T.f_has_asks_alone (fun S _ _ _ _ _ _ _ _ _ a e h=>bK (nz h) (af (au (qB (iX rfl) z.all uK (a1 (qc (aR (pv 0)) (bf (by decide)) fun _ _ _ _ _ _=>⟨gc 0,ee,Dr jr (xq (xq (pv 0) ah) ah) bF⟩)))))) (by walk_at "b")
theorem yu(l:jA P w K mg)(a:cM P w K mg)(i:iC P w K mg)(e:fP P w K mg)(k:iZ P w K mg)(j:jQ P w K mg)(f:gr P w K mg)(g:gq P w K mg):k9 P w K mg C:=fun base=>dN c.cm c.makes c.kc T.f_Machine___init__ (fun S _ _ _ _ _ _ _ _ _ m n h=>bK (Em c.mc h) (ab (br (qf m (j base) (cu (pv 1) (a3 (pv 2) (pv 3) (pv 4))))) (ab (kn (pv 0) (qL rfl z.list (a1 (pv 1))) rfl) (ab (kn (pv 0) (qL rfl z.list (a1 (pv 2))) rfl) (ab (kn (pv 0) (qL rfl z.list (a1 (pv 3))) rfl) (ab (kn (pv 0) (qL rfl z.list (a1 (pv 4))) rfl) (ab (kn (pv 0) (qf m (f base) (a2 (pv 3) (pv 4))) rfl) (ab (kn (pv 0) (qf m (l base) (a1 (qc (aR (pv 3)) (bf (by decide)) fun _ _ _ _ _ _=>⟨gc 0,eB (df (qf m (g base) (a1 (nB n (i8 (pv 1) rfl) (pv 0) (fun _ _=>rfl))))),pv 0⟩))) rfl) (ab (kn (pv 0) (qf m (a base) (a1 (pv 4))) rfl) (ab (kn (pv 0) (gk (v6 rfl) rfl z.dict zG (a1 (qc (aR (pv 3)) (bf (by decide)) fun _ _ _ _ _ _=>⟨gc 0,ee,aZ (a2 (pv 0) (qf m (i base) (a2 (i8 (pv 1) rfl) (pv 0))))⟩))) rfl) (af (br (qf m (k base) (a2 bF (qf m (e base) (a2 (pv 3) (i8 (pv 0) rfl))))))))))))))))) (by walk_at "b")
theorem qZ(a:k9 P w K mg C):lP P w K mg C:=fun base=>dG X G T.f_law_machine (fun S _ _ _ _ _ _ _ _ _ e f h=>bK (yH h) (af (au (C2 (a base) (e.mono (by decide)) rfl (cu (qL rfl z.list (a1 (xq (pv 0) ah))) (a3 (qL rfl z.list (a1 (xq (pv 0) ah))) (qL rfl z.list (a1 (xq (pv 0) ah))) (qL rfl z.list (a1 (xq (pv 0) ah))))))))) (by walk_at "b")
theorem ox:cN P w K mg C:=fun base=>dM c.mc.cls T.f_Machine_rooms (fun S _ _ _ _ _ _ _ _ _ a e h=>bK (CK c.mc h) (af (au (qL rfl z.list (a1 (i8 (pv 0) rfl)))))) (by walk_at "b")
theorem k_:fh P w K mg C:=fun base=>dM c.mc.cls T.f_Machine_led_from (fun S _ _ _ _ _ _ _ _ _ e a h=>bK (wY c.mc h) (af (au (qL rfl z.list (a1 (rL a (i8 (pv 0) rfl) (pv 1) (aZ ck) ⟨rfl,rfl,rfl,rfl⟩)))))) (by walk_at "b")
theorem sZ(e:cN P w K mg C)(a:fh P w K mg C):hW P w K mg C:=fun base=>dG X G T.f_with_still (fun S _ _ _ _ _ _ _ _ _ g f h=>bK (tu h) (ab (qs 2 S jo) (ab (bz bj rfl (aR (pv 1)) (gn 3 S) (af (bv (gj (jp f (pv 3) (pv 2))) (ab (eW f (pv 2) (pv 3) eT rfl) (af (bz bj rfl (aR (qm g (a base) (pv 0) (a1 (pv 3)))) (gn 4 S) (af (eW f (pv 2) (pv 4) eT rfl))))) aH))) (af (au (gk gx rfl z.tuple gK (a1 (qc (aR (Fq g (e base) (pv 0))) (bf (by decide)) fun _ _ _ _ _ _=>⟨gc 0,eB (gj (oK f (pv 0) (pv 1))),pv 0⟩)))))))) (by walk_at "b")
theorem oy:dH P w K mg C:=fun base=>dM c.mc.cls T.f_Machine_goals (fun S _ _ _ _ _ _ _ _ _ e a h=>bK (yG c.mc h) (af (au (qL rfl z.list (a1 (rL a (i8 (pv 0) rfl) (aZ (a2 (pv 1) (pv 2))) (aZ ck) ⟨rfl,rfl,rfl,rfl⟩)))))) (by walk_at "b")
theorem lc:dB P w K mg C:=fun base=>dM c.mc.cls T.f_Machine_is_quiet (fun S _ _ _ _ _ _ _ _ _ e a h=>bK (w6 c.mc h) (af (au (vE (oK a (pv 1) (i8 (pv 0) rfl)))))) (by walk_at "b")
theorem pM:fN P w K mg:=fun base=>dG X G T.f_law_still_on (fun S _ _ _ _ _ _ _ _ _ e a h=>bK (wV h) (ab (qs 2 S (qL rfl z.list (a1 (pv 1)))) (ab (qs 3 S ah) (ab (km bj (iM Av (pv 3) (ql z.len (a1 (pv 2)))) (ab (bz bj rfl (aR (pv 0)) (fC rfl (aO (gn 4 S) (aO (gn 5 S) (aO (gn 6 S) dR)))) (af (bv (PW.pt (eK (iM (gU a) (pv 4) (xq (pv 2) (pv 3))) (eK (iM (gU a) (pv 5) (aZ (a1 bF))) (eo (wB (dg a) (pv 6) (pv 2)))))) (af (br (g6 da fX fW cb (pv 2) (a1 (pv 6))))) aH))) (af (qs 3 S (be dh (pv 3) ah))))) (af (au (pv 2))))))) (by walk_at "b")
theorem pK:iD P w K mg C:=fun base=>dM c.mc.cls T.f_Machine_asks (fun S _ _ _ _ _ _ _ _ _ a e h=>bK (Eo c.mc h) (af (au (qL rfl z.list (a1 (i8 (pv 0) rfl)))))) (by walk_at "b")
theorem pJ:fR P w K mg C:=fun base=>dM c.mc.cls T.f_Machine_says (fun S _ _ _ _ _ _ _ _ _ a e h=>bK (Ej c.mc h) (af (au (qL rfl z.list (a1 (i8 (pv 0) rfl)))))) (by walk_at "b")
theorem oz:gX P w K mg C:=fun base=>dM c.mc.cls T.f_Machine_doors (fun S _ _ _ _ _ _ _ _ _ a e h=>bK (CQ c.mc h) (af (au (qL rfl z.list (a1 (i8 (pv 0) rfl)))))) (by walk_at "b")
theorem tj(a:cN P w K mg C)(e:hW P w K mg C):jS P w K mg C:=fun base=>dG X G T.f_first_face (fun S _ _ _ _ _ _ _ _ _ f g h=>bK (tz h) (af (au (qf f (e base) (a2 (pv 0) (eh iS (Fq f (a base) (pv 0)) hC (eA ah))))))) (by walk_at "b")
theorem rh(f:hW P w K mg C)(e:dH P w K mg C)(a:dB P w K mg C):jd P w K mg C:=fun base=>dG X G T.f_face_behind (fun S _ _ _ _ _ _ _ _ _ g i h=>bK (CP c.hush h) (ab (bv (iM (gU i) (pv 2) (iq rfl c.HUSH)) (af (au (gk gx rfl z.tuple gK (a1 (qc (yS (pv 1)) (bf (by decide)) fun _ _ _ _ _ _=>⟨gc 0,eB (df (qm g (a base) (pv 1) (a1 (pv 0)))),pv 0⟩))))) aH) (ab (qs 3 S (bY ck)) (ab (bz bj rfl (yS (pv 1)) (gn 4 S) (af (br (g6 da PySem.F.slot_list_extend PySem.F.type_list_extend BC (pv 3) (a1 (qm g (e base) (pv 0) (a2 (pv 4) (pv 2)))))))) (af (au (qf g (f base) (a2 (pv 0) (pv 3))))))))) (by walk_at "b")
theorem yr(e:jS P w K mg C)(a:jd P w K mg C):o5 P w K mg C:=fun base=>dG X G T.f_face_of (fun S _ _ _ _ _ _ _ _ _ f g h=>bK (yM h) (ab (qs 2 S (qf f (e base) (a1 (pv 0)))) (ab (bz bj rfl (aR (pv 1)) (gn 3 S) (af (qs 2 S (qf f (a base) (a3 (pv 0) (pv 2) (pv 3)))))) (af (au (pv 2)))))) (by walk_at "b")
theorem wP(a:o5 P w K mg C):sR P w K mg C:=fun base=>dG X G T.f_is_story (fun S _ _ _ _ _ _ _ _ _ e f h=>bK (wZ h) (af (au (Dr uk (ql z.len (a1 (qf e (a base) (a2 (pv 0) (pv 1))))) ah)))) (by walk_at "b")
theorem ml(a:dH P w K mg C):fQ P w K mg C:=fun base=>dG X G T.f_add_still_steps (fun S _ _ _ _ _ _ _ _ _ f e h=>bK (Br c.still h) (ab (qs 2 S (qL rfl z.list (a1 (pv 1)))) (af (km bj (iM uk (ql z.len (a1 (pv 2))) ah) (ab (qs 3 S (oJ da qo qk rR (pv 2))) (af (bz bj rfl (aR (qm f (a base) (pv 0) (a2 (pv 3) (iq rfl c.STILL)))) (gn 4 S) (af (bv (gj (jp e (pv 4) (pv 1))) (ab (eW e (pv 1) (pv 4) (aZ (a3 (pv 3) (iq rfl c.STILL) (pv 4))) rfl) (af (br (g6 da fX fW cb (pv 2) (a1 (pv 4)))))) aH))))))))) (by walk_at "b")
theorem wJ(e:dH P w K mg C)(a:dB P w K mg C):mN P w K mg C:=fun base=>dG X G T.f_steps_by (fun S _ _ _ _ _ _ _ _ _ g f h=>bK (wW c.hush h) (ab (qs 3 S jo) (ab (bz bj rfl (Ex (pv 1)) (gn 4 S) (af (bv (iM (gU f) (pv 2) (iq rfl c.HUSH)) (af (bv (df (qm g (a base) (pv 0) (a1 (pv 4)))) (af (eW f (pv 3) (pv 4) (aZ (a3 (pv 4) (iq rfl c.HUSH) (pv 4))) rfl)) aH)) (af (bz bj rfl (aR (qm g (e base) (pv 0) (a2 (pv 4) (pv 2)))) (gn 5 S) (af (eW f (pv 3) (pv 5) (aZ (a3 (pv 4) (pv 2) (pv 5))) rfl))))))) (af (au (pv 3)))))) (by walk_at "b")
theorem qX(e:cN P w K mg C)(a:fQ P w K mg C)(f:mN P w K mg C):ja P w K mg C:=fun base=>dG X G T.f_steps_along (fun S _ _ _ _ _ _ _ _ _ g i h=>bK (Bq h) (ab (qs 2 S (EC (C1 (xl (Fq g (e base) (pv 0)) ah) oH Ev) rfl rfl nofun (by decide))) (ab (qs 3 S (bY (a1 (pv 2)))) (ab (br (qf g (a base) (a2 (pv 0) (pv 2)))) (ab (bz bj rfl (aR (pv 1)) (gn 4 S) (ab (qs 2 S (qf g (f base) (a3 (pv 0) (pv 2) (pv 4)))) (ab (br (g6 da fX fW cb (pv 3) (a1 (pv 2)))) (af (br (qf g (a base) (a2 (pv 0) (pv 2)))))))) (af (au (pv 3)))))))) (by walk_at "b")
theorem yn(a:ja P w K mg C):uI P w K mg C:=fun base=>dG X G T.f_walk_of (fun S _ _ _ _ _ _ _ _ _ f e h=>bK (CI c.still h) (ab (qs 2 S (qf f (a base) (a2 (pv 0) (pv 1)))) (ab (bv (iM jr (qB uA z.len PySem.boot_len (a1 (xl (pv 2) (Fs Cn ah)))) ah) (af (au oH)) aH) (ab (qs 3 S (xl (qL rfl z.list (a1 (xl (pv 2) (Fs Cn ah)))) ah)) (ab (qs 4 S (bY ck)) (ab (qs 5 S (oJ da qo qk rR (pv 2))) (ab (km bj (gj (vF (nB e (pv 5) (pv 3) (fun _ _=>rfl)))) (ab (qs 6 S (nB e (pv 5) (pv 3) (fun _ _=>rfl))) (ab (br (g6 da fX fW cb (pv 4) (a1 (pv 6)))) (ab (qs 3 S (xt (pv 6) ah)) (af (bv (iM (rN e) (xt (pv 6) ah) (iq rfl c.STILL)) (af (qs 5 S (oJ da qo qk rR (pv 2)))) aH)))))) (ab (br (oJ da PySem.F.slot_list_reverse PySem.F.type_list_reverse yW (pv 4))) (af (au (pv 4))))))))))) (by walk_at "b")
theorem vj:i3 P w K mg:=fun base=>dG X G T.f_law_quiet (fun S _ _ _ _ _ _ _ _ _ a e h=>bK (Bm h) (ab (Fp 2 S (aR (xt (pv 0) ah)) (bf (by decide)) fun _ _ _ _ _ _=>⟨gc 0,eB (iM jr (xt (pv 0) ah) (pv 1)),pv 0⟩) (af (au (qB (iX rfl) z.all uK (a1 (qc (aR (pv 2)) (bf (by decide)) fun _ _ _ _ _ _=>⟨gc 0,ee,Dr jr (xt (xt (pv 0) ah) ah) bF⟩))))))) (by walk_at "b")
theorem pN(a:fN P w K mg):fO P w K mg:=fun base=>dG X G T.f_law_in_order (fun S _ _ _ _ _ _ _ _ _ e f h=>bK (GA h) (ab (qs 2 S (qf e (a base) (a2 (xq (pv 0) ah) (pv 1)))) (af (au (gk gx rfl z.tuple gK (a1 (qc (aR (xq (pv 0) ah)) (bf (by decide)) fun _ _ _ _ _ _=>⟨gc 0,eB (wB (oM f) (pv 0) (pv 1)),pv 0⟩))))))) (by walk_at "b")
theorem rc(e:i3 P w K mg)(a:fO P w K mg):gy P w K mg:=fun base=>dG X G T.f_law_face_on (fun S _ _ _ _ _ _ _ _ _ g f h=>bK (Bp h) (ab (bv (iM (gU f) (pv 2) (aZ (a1 bF))) (af (au (gk gx rfl z.tuple gK (a1 (qc (yS (pv 1)) (bf (by decide)) fun _ _ _ _ _ _=>⟨gc 0,eB (df (qf g (e base) (a2 (pv 1) (pv 0)))),pv 0⟩))))) aH) (ab (qs 3 S (bY ck)) (ab (bz bj rfl (aR (xt (pv 0) ah)) (fC rfl (aO (gn 4 S) (aO (gn 5 S) (aO (gn 6 S) dR)))) (af (bv (PW.pt (eK (wB (oM f) (pv 4) (pv 1)) (eK (iM (gU f) (pv 5) (pv 2)) (eo (wB (dg f) (pv 6) (pv 3)))))) (af (br (g6 da fX fW cb (pv 3) (a1 (pv 6))))) aH))) (af (au (qf g (a base) (a2 (pv 0) (pv 3))))))))) (by walk_at "b")
theorem rf(a:fO P w K mg)(e:gy P w K mg):jb P w K mg:=fun base=>dG X G T.f_law_face_at (fun S _ _ _ _ _ _ _ _ _ f g h=>bK (Bn h) (ab (qs 2 S (qf f (a base) (a2 (pv 0) (eh FN (xq (pv 0) ah) hC (eA ah))))) (ab (bz bj rfl (aR (pv 1)) (gn 3 S) (af (qs 2 S (qf f (e base) (a3 (pv 0) (pv 2) (pv 3)))))) (af (au (pv 2)))))) (by walk_at "b")
theorem wL:sO P w K mg:=fun base=>by
  have E0:Def P w K mg base "_law_same" ["found","due"] 0 Gx:=by
   obtain⟨f,a,t⟩:=T.f_law_same;obtain⟨k,F⟩:=t.fun_;exact⟨f,k,GD,ig X G a,F.kp,F.binds (ps:=["found","due"]) (by walk_at "b")⟩
  have g:∀(n D:Nat) (i:Sp),0<=n->D<=4->(∀m,D=m+1->i=(dI K m))->Def P w K mg base "_law_same" ["found","due"] n i->Def P w K mg base "_law_same" ["found","due"] (n+1) (dI K D):=fun n D i A o p q=>dG X G T.f_law_same (fun S _ _ _ _ _ _ _ _ _ r j h=>bK (Bk (bp o (by decide)) p h) (ab (bv (gj (yT (pv 1))) (af (au (vE (yT (pv 0))))) aH) (ab (bv (df (qB dk z.isinstance dq (a2 (pv 1) (mq rfl z.bool)))) (af (au (mr (qB dk z.isinstance dq (a2 (pv 0) (mq rfl z.bool))) (rJ (Dr jr (pv 0) (pv 1)))))) aH) (ab (bv (df (qB dk z.isinstance dq (a2 (pv 1) (ui rfl z.str)))) (af (au (mr (qB dk z.isinstance dq (a2 (pv 0) (ui rfl z.str))) (rJ (Dr (gU j) (pv 0) (pv 1)))))) aH) (ab (bv (df (qB dk z.isinstance dq (a2 (pv 1) (uj rfl z.int)))) (af (au (mr (qB dk z.isinstance dq (a2 (pv 0) (uj rfl z.int))) (mr (FV (qB dk z.isinstance dq (a2 (pv 0) (mq rfl z.bool)))) (rJ (Dr (gU j) (pv 0) (pv 1))))))) aH) (ab (bv (PW.pt (eK (df (qB dk z.isinstance dq (a2 (pv 1) (ko rfl z.tuple)))) (eo (i7 (df (qB dk z.isinstance dq (a2 (pv 0) (ko rfl z.tuple)))))))) (af (au eT)) aH) (ab (bv (PW.pt (eK (df (qB dk z.isinstance dq (a2 (pv 1) (mo rfl z.list)))) (eo (i7 (df (qB dk z.isinstance dq (a2 (pv 0) (mo rfl z.list)))))))) (af (au eT)) aH) (ab (bv (iM rO (ql z.len (a1 (pv 0))) (ql z.len (a1 (pv 1)))) (af (au eT)) aH) (af (au (qB (iX rfl) z.all uK (a1 (qc (Ew rfl z.zip (a2 (pv 0) (pv 1))) (Au (jq (bf (by decide)) eC (jq (bf (by decide)) eC (xf) (js)) (jK eC (js)))) fun _ _ _ _ _ _=>⟨fC rfl (aO (gc 0) (aO (gc 1) dR)),ee,Ft q r rfl (a2 (pv 0) (pv 1))⟩))))))))))))) (by walk_at "b") (l:=fun B H Q E h=>by rcases h with⟨_,_,_,h,_⟩|⟨_,h,_⟩<;>(rw[h];rfl));have s:=g 0 0 _ (by decide) (by decide) (fun m e=>by cases e) E0;have u:=g 1 1 _ (by decide) (by decide) (fun m e=>by cases e;rfl) s;have v:=g 2 2 _ (by decide) (by decide) (fun m e=>by cases e;rfl) u;have x:=g 3 3 _ (by decide) (by decide) (fun m e=>by cases e;rfl) v;have y:=g 4 4 _ (by decide) (by decide) (fun m e=>by cases e;rfl) x;exact y
theorem q_(a:i3 P w K mg):lQ P w K mg:=fun base=>dG X G T.f_law_is_walk (fun S _ _ _ _ _ _ _ _ _ f e h=>bK (Bo h) (ab (qs 2 S (xl (xt (pv 0) ah) ah)) (ab (bz bj rfl (aR (pv 1)) (gn 3 S) (ab (bv (PW.pt (jW (i7 (df (qB dk z.isinstance dq (a2 (pv 3) (ko rfl z.tuple))))) (jW (iM rO (ql z.len (a1 (pv 3))) ah) (jH (iM rO (xt (pv 3) ah) (pv 2)))))) (af (au eT)) aH) (ab (bv (PW.pt (eK (iM (gU e) (xt (pv 3) ah) (aZ (a1 bF))) (eo (PW.pt (jW (iM rO (xt (pv 3) ah) (pv 2)) (jH (i7 (df (qf f (a base) (a2 (pv 0) (pv 2))))))))))) (af (au eT)) aH) (ab (bv (PW.pt (eK (iM (rN e) (xt (pv 3) ah) (aZ (a1 bF))) (eo (wB (dg e) (pv 3) (xt (pv 0) ah))))) (af (au eT)) aH) (af (qs 2 S (xt (pv 3) ah))))))) (af (au eT))))) (by walk_at "b")
theorem vi(a:fN P w K mg):kJ P w K mg:=fun base=>dG X G T.f_law_round (fun S _ _ _ _ _ _ _ _ _ f e h=>bK (CJ h) (ab (Fp 2 S (aR (pv 1)) (bf (by decide)) fun _ _ _ _ _ _=>⟨gc 0,eB (iM (gU e) (xq (pv 0) ah) (aZ (a1 bF))),pv 0⟩) (ab (bz bj rfl (jI rfl z.enumerate (a1 (pv 0))) (fC rfl (aO (gn 3 S) (aO (gn 4 S) dR))) (ab (Fp 5 S (aR (pv 2)) (bf (by decide)) fun _ _ _ _ _ _=>⟨gc 0,eB (iM jr (xq (pv 0) ah) (pv 1)),xq (pv 0) ah⟩) (af (bv (wB (oM e) (pv 4) (qf f (a base) (a2 (pv 2) (pv 5)))) (af (au (pv 3))) aH)))) (af (au oH))))) (by walk_at "b")
theorem vg(a:fR P w K mg C):kI P w K mg C:=fun base=>dG X G T.f_need_says (fun S _ _ _ _ _ _ _ _ _ f e h=>bK (vB h) (ab (qs 2 S (Fq f (a base) (pv 0))) (ab (qs 3 S jo) (ab (bz bj rfl (jI rfl z.enumerate (a1 (pv 1))) (fC rfl (aO (gn 4 S) (aO (gn 5 S) dR))) (ab (bv (PW.pt (jW (wB (dg e) (pv 5) (pv 2)) (jH (gj (oK e (pv 5) (pv 3)))))) (af (rE)) aH) (af (eW e (pv 3) (pv 5) eT rfl)))) (af (bv (iM jr (qB uA z.len PySem.boot_len (a1 (pv 3))) (ql z.len (a1 (pv 2)))) (af (rE)) aH)))))) (by walk_at "b")
theorem rg:jc P w K mg:=fun base=>dG X G T.f_hidden_sign (fun S _ _ _ _ _ _ _ _ _ e a h=>bK (yL c.nst h) (af (au (C4 (PW.pt (eK (iM jr (xq (pv 0) ah) bF) (eo (wB (oM a) (xq (pv 0) ah) (pv 1))))) (iq rfl c.STILL) (pv 0))))) (by walk_at "b")
theorem Bc(k:jU P w K mg)(l:k9 P w K mg C)(a:cN P w K mg C)(f:iD P w K mg C)(g:fR P w K mg C)(e:gX P w K mg C)(j:kI P w K mg C)(i:jc P w K mg):xT P w K mg C:=fun base=>dG X G T.f_hidden (fun S _ _ _ _ _ _ _ _ _ m n h=>bK (yJ h) (ab (br (qf m (j base) (a2 (pv 0) (pv 1)))) (ab (Fp 2 S (aR (Fq m (e base) (pv 0))) (Au (jq (bf (by decide)) eC (jq (bf (by decide)) eC (jq (bf (by decide)) eC (xf) (js)) (jK eC (js))) (jK eC (jK eC (js))))) fun _ _ _ _ _ _=>⟨fC rfl (aO (gc 0) (aO (gc 1) (aO (gc 2) dR))),ee,aZ (a3 (pv 0) (qf m (i base) (a2 (pv 1) (pv 3))) (pv 2))⟩) (ab (Fp 3 S (aR (Fq m (g base) (pv 0))) (bf (by decide)) fun _ _ _ _ _ _=>⟨gc 0,eB (wB (dg n) (pv 0) (pv 1)),pv 0⟩) (af (au (C2 (l base) (m.mono (by decide)) rfl (cu (Fq m (f base) (pv 0)) (a3 (pv 3) (Fq m (a base) (pv 0)) (qLT rfl z.list (a1 (qf m (k base) (a1 (pv 2)))))))))))))) (by walk_at "b")
theorem le:e_ P w K mg:=fun base=>dG X G T.f_law_hidden_doors (fun S _ _ _ _ _ _ _ _ _ e a h=>bK (w8 h) (ab (qs 2 S (bY ck)) (ab (bz bj rfl (aR (pv 0)) (fC rfl (aO (gn 3 S) (aO (gn 4 S) (aO (gn 5 S) dR)))) (ab (bv (PW.pt (eK (iM jr (xq (pv 4) ah) bF) (eo (wB (oM a) (xq (pv 4) ah) (pv 1))))) (af (qs 4 S (aZ (a1 bF)))) aH) (af (bv (wB (dg a) (aZ (a3 (pv 3) (pv 4) (pv 5))) (pv 2)) (af (br (g6 da fX fW cb (pv 2) (a1 (aZ (a3 (pv 3) (pv 4) (pv 5))))))) aH)))) (af (au (pv 2)))))) (by walk_at "b")
theorem oA(f:eZ P w K mg)(e:kJ P w K mg)(a:e_ P w K mg):jX P w K mg:=fun base=>dG X G T.f_law_some_says (fun S _ _ _ _ _ _ _ _ _ g i h=>bK (wX h) (ab (qs 2 S (bY ck)) (ab (bz bj rfl (aR (xt (pv 1) ah)) (gn 3 S) (ab (qs 4 S (be rP (pv 2) (bY (a1 (pv 3))))) (ab (qs 5 S (vE (yT (qf g (e base) (a2 (xt (pv 1) ah) (qf g (a base) (a2 (xt (pv 1) ah) (pv 4)))))))) (af (bv (PW.pt (eK (iM uk (qf g (f base) (a2 (pv 0) ah)) ah) (eK (df (pv 5)) (eo (iM Av (ql z.len (a1 (pv 4))) (ql z.len (a1 (xt (pv 1) ah)))))))) (af (qs 2 S (pv 4))) aH))))) (af (au (pv 2)))))) (by walk_at "b")
theorem qY(a:eZ P w K mg)(e:gy P w K mg)(f:jb P w K mg):lO P w K mg:=fun base=>dG X G T.f_law_road_of (fun S _ _ _ _ _ _ _ _ _ g i h=>bK (Bl h) (ab (qs 3 S (be rP (be rP (qc (aR (xt (pv 1) ah)) (bf (by decide)) fun _ _ _ _ _ _=>⟨gc 0,ee,aZ (a2 bF (pv 0))⟩) (qc (aR (xt (pv 1) ah)) (bf (by decide)) fun _ _ _ _ _ _=>⟨gc 0,ee,aZ (a2 bF (pv 0))⟩)) (bY (a1 (aZ (a1 bF)))))) (ab (qs 4 S (qf g (f base) (a2 (pv 1) (bY ck)))) (ab (qs 5 S (bY ck)) (ab (bz bj rfl (jn rfl z.range (a1 (qf g (a base) (a2 (pv 0) (be dh (pv 2) ah))))) (gn 6 S) (ab (Fp 7 S (aR (pv 3)) (bf (by decide)) fun _ _ _ _ _ _=>⟨gc 0,eB (iM (rN i) (qf g (e base) (a3 (pv 1) (pv 2) (pv 0))) (aZ ck)),pv 0⟩) (ab (qs 8 S (pv 3)) (ab (bv (PW.pt (eK (iM (rN i) (pv 7) (bY ck)) (eo (iM uk (qf g (a base) (a2 (pv 0) ah)) ah)))) (af (qs 8 S (pv 7))) aH) (ab (qs 9 S (xl (pv 8) (qf g (a base) (a2 (pv 0) (ql z.len (a1 (pv 8))))))) (ab (br (g6 da fX fW cb (pv 5) (a1 (pv 9)))) (af (qs 4 S (qf g (e base) (a3 (pv 1) (pv 4) (pv 9))))))))))) (af (au (pv 5)))))))) (by walk_at "b")
theorem mi:i0 P w K mg:=fun base=>dG X G T.f_law_turned_back (fun S _ _ _ _ _ _ _ _ _ e a h=>bK (En h) (ab (qs 3 S (bY ck)) (ab (bz bj rfl (aR (pv 2)) (fC rfl (aO (gn 4 S) (aO (gn 5 S) (aO (gn 6 S) dR)))) (ab (bv (PW.pt (eK (iM (gU a) (pv 5) (aZ (a1 bF))) (eo (wB (dg a) (aZ (a3 (pv 4) (pv 5) (pv 6))) (xt (pv 0) ah))))) (af (bz bj rfl (aR (pv 1)) (gn 7 S) (af (bv (PW.pt (eK (iM (gU a) (pv 5) (aZ (a1 bF))) (eo (wB (oM a) (aZ (a3 (pv 4) (aZ (a2 bF (pv 7))) (pv 6))) (xt (pv 0) ah))))) (af (qs 5 S (aZ (a2 bF (pv 7))))) aH)))) aH) (af (br (g6 da fX fW cb (pv 3) (a1 (aZ (a3 (pv 4) (pv 5) (pv 6))))))))) (af (au (pv 3)))))) (by walk_at "b")
theorem wN:sQ P w K mg:=fun base=>dG X G T.f_law_left (fun S _ _ _ _ _ _ _ _ _ e a h=>bK (El h) (af (au (qc (aR (pv 0)) (bf (by decide)) fun _ _ _ _ _ _=>⟨gc 0,eB (PW.pt (jW (iM rO (xq (pv 0) ah) bF) (jH (wB (dg a) (xq (pv 0) ah) (pv 1))))),pv 0⟩)))) (by walk_at "b")
end
theorem FY(X:K.In h)(G:h.Ns bM mg)(z:Zs mg)(c:Cs K mg C a_STILL a_HUSH)(T:Ts K C):∃f fd,mg "law"=some (.ref f)/\(∀(s:Shared) (v:Value),tU s fd ⟨[v],[]⟩ [("script",v)])/\∀base:Heap,lB P w K mg base CX0 7 f fd ["script"] (sp_law73 K):=by
 have a8:jR P w K mg:=tf X G z c T;have b3:sP P w K mg:=wM X G z c T;have b4:mO P w K mg:=wO X G z c T;have g:eZ P w K mg:=wK X G z c T a8;have bl:kK P w K mg:=vk X G z c T g;have b7:oZ P w K mg:=yo X G z c T;have M:gp P w K mg:=m7 X G z c T g b7;have bn:pE P w K mg:=vm X G z c T b4 g bl M;have b8:o0 P w K mg:=yq X G z c T;have ap:jU P w K mg:=wQ X G z c T;have H:jA P w K mg:=yt X G z c T ap;have A:ff P w K mg:=lg X G z c T b8 H;have a9:jT P w K mg:=tm X G z c T;have B:fg P w K mg:=lm X G z c T H;have o:cM P w K mg:=ik X G z c T;have aC:iC P w K mg:=pL X G z c T;have I:fP P w K mg:=mj X G z c T;have N:iZ P w K mg:=vh X G z c T;have bb:jQ P w K mg:=s_ X G z c T A a9 B N;have O:gr P w K mg:=m9 X G z c T;have Q:gq P w K mg:=m8 X G z c T;have a0:k9 P w K mg C:=yu X G z c T H o aC I N bb O Q;have a4:lP P w K mg C:=qZ X G z c T a0;have e:cN P w K mg C:=ox X G z c T;have D:fh P w K mg C:=k_ X G z c T;have E:hW P w K mg C:=sZ X G z c T e D
 have j:dH P w K mg C:=oy X G z c T;have m:dB P w K mg C:=lc X G z c T;have p:fN P w K mg:=pM X G z c T;have aS:iD P w K mg C:=pK X G z c T;have q:fR P w K mg C:=pJ X G z c T;have Y:gX P w K mg C:=oz X G z c T;have bi:jS P w K mg C:=tj X G z c T e E;have a5:jd P w K mg C:=rh X G z c T E j m;have b9:o5 P w K mg C:=yr X G z c T bi a5;have aq:sR P w K mg C:=wP X G z c T b9;have J:fQ P w K mg C:=ml X G z c T j;have b5:mN P w K mg C:=wJ X G z c T j m;have a6:ja P w K mg C:=qX X G z c T e J b5;have cc:uI P w K mg C:=yn X G z c T a6;have U:i3 P w K mg:=vj X G z c T;have r:fO P w K mg:=pN X G z c T p;have u:gy P w K mg:=rc X G z c T U r;have i:jb P w K mg:=rf X G z c T r u;have b6:sO P w K mg:=wL X G z c T;have x:lQ P w K mg:=q_ X G z c T U;have b1:kJ P w K mg:=vi X G z c T p;have b2:kI P w K mg C:=vg X G z c T q;have a7:jc P w K mg:=rg X G z c T;have ce:xT P w K mg C:=Bc X G z c T ap a0 e aS q Y b2 a7;have n:e_ P w K mg:=le X G z c T;have al:jX P w K mg:=oA X G z c T g b1 n;have y:lO P w K mg:=qY X G z c T g u i;have L:i0 P w K mg:=mi X G z c T;have as:sQ P w K mg:=wN X G z c T;obtain⟨f,a,t⟩:=T.f_law73;obtain⟨oc,od,an,sl,kV,dc,pm,cd,ct,l,c1,k1⟩:=t;have F:=Dn (st:=(fS 64)) l c1 k1;have sc:jP AV C0 (bW (fS 64)):=by walk_at "s"
 have S:=sc.nd;exact⟨f,_,ig X G a,fun s v=>.of_eq rfl,fun base=>F.ok (k:=6) sc (by walk_at "l") (fun _ _ _ _ _ _ _ _ hr h=>by have hu:=AC hr;exact bK (CN (C:=C) h) (ab (qs 1 S (qf hr (b3 base) (a1 (pv 0)))) (ab (qs 2 S (qf hr (bn base) (a3 (pv 1) ah (qf hr (g base) (a2 (pv 1) ah))))) (ab (qs 3 S (qf hr (al base) (a2 (pv 1) (pv 2)))) (ab (qs 4 S (qf hr (ce base) (a2 (qf hr (a4 base) (a1 (pv 2))) (qL rfl z.list (a1 (pv 3)))))) (ab (qs 5 S (qf hr (y base) (a3 (pv 1) (pv 2) ah))) (ab (km bj (iM (C6 hu) (qf hr (i base) (a2 (pv 2) (pv 5))) (aZ ck)) (af (br (oJ da qo qk rR (pv 5))))) (ab (bv (iM EF (qf hr (aq base) (a2 (pv 4) (qf hr (as base) (a2 (pv 5) (pv 3))))) eT) (af (au eT)) aH) (ab (Fp 6 S (aR (xt (pv 2) ah)) (bf (by decide)) fun _ _ _ _ _ _=>⟨gc 0,eB (wB (dg hu) (pv 0) (pv 1)),pv 0⟩) (ab (qs 7 S (aZ (cu (xt (pv 2) ah) (a3 (pv 6) (xt (pv 2) ah) (qf hr (n base) (a2 (xt (pv 2) ah) (pv 3))))))) (ab (qs 8 S (qf hr (y base) (a3 (pv 1) (pv 7) ah))) (ab (qs 9 S (Dr (yU hu) (qf hr (i base) (a2 (pv 7) (pv 8))) (aZ ck))) (ab (qs 10 S (qf hr (cc base) (a2 (pv 4) (pv 8)))) (ab (bv (PW.pt (jW (i7 (df (qf hr (b6 base) (a2 (qf hr (aq base) (a2 (pv 4) (pv 8))) (pv 9))))) (jH (iM rO (pv 9) (vE (vF (pv 10))))))) (af (au eT)) aH) (ab (bv (i7 (df (pv 9))) (af (au eT)) aH) (ab (bv (PW.pt (jW (i7 (df (qB dk z.isinstance dq (a2 (pv 10) (mo rfl z.list))))) (jH (i7 (df (qf hr (x base) (a2 (pv 7) (pv 10)))))))) (af (au eT)) aH) (ab (qs 11 S (qf hr (L base) (a3 (pv 2) (pv 3) (pv 10)))) (ab (bv (i7 (df (qf hr (x base) (a2 (pv 2) (pv 11))))) (af (au eT)) aH) (ab (Fp 12 S (aR (pv 11)) (bf (by decide)) fun _ _ _ _ _ _=>⟨gc 0,eB (iM (yU hu) (xq (pv 0) ah) (aZ (a1 bF))),xq (pv 0) ah⟩) (af (au (mr (Dr (C6 hu) (qf hr (as base) (a2 (pv 12) (pv 3))) (pv 8)) (rJ (Dr (yU hu) (qf hr (i base) (a2 (pv 2) (pv 12))) (aZ ck)))))))))))))))))))))))))⟩
theorem all_mk{l:PySem.W.OpenLaw}{fa:Addr}{o:Value}{a:Value}{g:Value}{i:Value}{j:Value}{p:Obj}{q:Array Value}{M:Nat}{D:Obj}{E:Array Value}{ap:Nat}(X:K.In h)(G:h.Ns bM mg)(b1:mg "law"=some (.ref fa))
  (aC:bT K bM "Machine"=some (some (.ref C)))
  (pg:wu K C Str.empty=true)
  (hd:z0 K C=true)
  (po:PySem.W.plainOver K C=true)
  (sa:eP K (.ref C) "__setattr__"=some (some (.builtin "object.__setattr__")))
  (mk:wq K C=true)
  (kc:jg K (.ref C)=true)
  (b2:eP K (.ref C) "own_asks"=some none)
  (b3:eP K (.ref C) "own_says"=some none)
  (b4:eP K (.ref C) "own_rooms"=some none)
  (b5:eP K (.ref C) "own_doors"=some none)
  (b6:eP K (.ref C) "leaving"=some none)
  (b7:eP K (.ref C) "quiet"=some none)
  (b8:eP K (.ref C) "sign_goals"=some none)
  (b9:eP K (.ref C) "still_led"=some none)
  (a9:bT K bM "all"=some none)
  (aq:bT K bM "bool"=some none)
  (as:bT K bM "dict"=some none)
  (H:bT K bM "enumerate"=some none)
  (bb:bT K bM "int"=some none)
  (r:bT K bM "isinstance"=some none)
  (bi:bT K bM "len"=some none)
  (aS:bT K bM "list"=some none)
  (N:bT K bM "range"=some none)
  (bl:bT K bM "str"=some none)
  (O:bT K bM "tuple"=some none)
  (bn:bT K bM "zip"=some none)
  (J:bT K bM "LETTERS"=some (some o))
  (L:RelV (.str "abcdefghijklmnopqrstuvwxyz") o)
  (m:bT K bM "LONGEST_NAME"=some (some a))
  (n:RelV (.int 8) a)
  (t:bT K bM "MOST_WORDS"=some (some g))
  (u:RelV (.int 4) g)
  (x:bT K bM "MOST_ROOMS"=some (some i))
  (y:RelV (.int 150) i)
  (A:bT K bM "MOST_DOORS"=some (some j))
  (B:RelV (.int 2000) j)
  (I:bT K bM "STILL"=some (some (.ref a_STILL)))
  (Q:K.lookup a_STILL=some p)
  (U:p.cls=.type "tuple")
  (Y:p.data=.seq q M)
  (al:q.size<=aj)
  (an:a_ (stillSg.map V.str) q.toList)
  (a0:bT K bM "HUSH"=some (some (.ref a_HUSH)))
  (a4:K.lookup a_HUSH=some D)
  (a5:D.cls=.type "tuple")
  (a6:D.data=.seq E ap)
  (a7:E.size<=aj)
  (a8:a_ (aF.map V.str) E.toList)
  (T:Ts K C)
 :∃fd:j3,(∀(s:Shared) (v:Value),tU s fd ⟨[v],[]⟩ [("script",v)])/\∀base:Heap,K.In base->base.Ns bM mg->lB l.prog w K mg base CX0 7 fa fd ["script"] (sp_law73 K):=by
 have z:Zs mg:=⟨gM X G a9,gM X G aq,gM X G as,gM X G H,gM X G bb,gM X G r,gM X G bi,gM X G aS,gM X G N,gM X G bl,gM X G O,gM X G bn⟩;have c:Cs K mg C a_STILL a_HUSH:=⟨⟨_,ig X G J,L⟩,⟨_,ig X G m,n⟩,⟨_,ig X G t,u⟩,⟨_,ig X G x,y⟩,⟨_,ig X G A,B⟩,⟨_,ig X G I,rfl⟩,⟨_,ig X G a0,rfl⟩,Ae Q U Y al an,Ae a4 a5 a6 a7 a8,I,⟨⟨pg,hd,po,sa⟩,b2,b3,b4,b5,b6,b7,b8,b9⟩,ig X G aC,mk,kc⟩;obtain⟨f,fd,e,b,k⟩:=FY (P:=l.prog) (w:=w) X G z c T;have e0:=b1.symm.trans e;cases e0;exact⟨fd,b,fun base _ _=>k base⟩
end
end Mum
namespace PySem.W.Fast
def tw4035635782623926277:=0
def tw13502957577598707620:=0
def tw8195839198668245964:=0
def tw4643663039588359561:=0
def tw13303754040215117335:=0
def tw10775687481436761101:=0
def tw16216786603887945134:=0
def tw1955940433689965304:=0
def tw7008024442474273701:=0
def tw16739354694455047935:=0
def tw15387293110327298715:=0
def tw3158707614928460931:=0
def tw15704788901715425355:=0
def tw8894617091875972760:=0
def tw12882110706388273573:=0
def tw3953056613936231489:=0
def tw8660458909436626630:=0
def tw2906937433777614958:=0
def tw10142670267790725208:=0
def tw16879401101429768291:=0
def tw8325525929616628217:=0
def tw10527139198945504384:=0
def tw9062217840533545860:=0
def tw13630431277275915930:=0
def tw9648542114070794996:=0
def tw13415980959552048343:=0
def tw8734483031477353231:=0
def tw3323905553539692207:=0
def tw17996305551647217653:=0
def tw11079499903490140246:=0
def tw15039022564755275012:=0
def tw11655919112313754221:=0
def tw3333740846903242694:=0
def tw3427680780892259320:=0
def tw9671128250369405437:=0
def tw9833525047357649110:=0
def tw6443064127695956705:=0
def tw9742494311308207609:=0
def tw9604753827868210469:=0
def tw4196509993316029323:=0
def tw16750094842358291248:=0
def tw13519397480385871923:=0
def tw9186021805816272470:=0
def tw16179721137857283985:=0
def tw6622259933863895656:=0
def tw16731787015198223801:=0
def tw7364498687099857747:=0
def tw12107934465022774785:=0
def tw9255482607809765781:=0
def tw2496296788128405925:=0
def tw5027577162420990488:=0
def tw2117860387254811189:=0
def tw8689676650843237644:=0
def tw12456440338303205032:=0
def tw11078833435333354553:=0
def tw2260101590276889519:=0
def tw5921692561702247947:=0
def tw4302182687784838499:=0
def tw13532595807463910366:=0
def tw10846313942408468671:=0
def tw17922269699251015705:=0
def tw2088746903538844514:=0
def tw8873856884047367380:=0
def tw4066942828798766880:=0
def tw2570011188876883363:=0
def tw6586204088572670700:=0
def tw15730518471469775980:=0
def tw2275880184407328292:=0
def tw1323080215343398764:=0
def tw12667251180356888724:=0
def tw10157999288669401734:=0
def tw12051537504566958400:=0
def tw5225493266922589537:=0
def tw17233787227728127903:=0
def tw1679183926381065693:=0
def tw7426016403940518962:=0
def tw4473895121188413095:=0
def tw5710426819819557311:=0
def tw11928199352018987520:=0
def tw3381454945577791928:=0
def tw14201870769023453322:=0
def tw10351861132445487003:=0
def tw17858079958908110950:=0
def tw16433968393938373376:=0
def tw1990211961685477516:=0
def tw492242730293358099:=0
def tw14475747547045454321:=0
def tw6751630811383561210:=0
def tw5998173464580556457:=0
def tw16584648482017389125:=0
def tw8267160225509802714:=0
def tw10399703381211101753:=0
def tw14721053138411596614:=0
def tw5604602226142620771:=0
def tw10089673371934089046:=0
def tw1672356667017169057:=0
def tw2807102582015306624:=0
def tw15195219954293487130:=0
def tw15248493023111193001:=0
def tw5908108510517154617:=0
def tw3504733743439168752:=0
def tw14657698386104357756:=0
def tw7019098208068042035:=0
def tw6670479147873550395:=0
def tw9044450748599842456:=0
def tw12195628801224816817:=0
def tw10793043499419942276:=0
def tw6035887660531146015:=0
def tw6588330977902486457:=0
def tw18043503163183629207:=0
def tw13368411261812840564:=0
def tw10645026604995251703:=0
def tw12258807390222474813:=0
def tw4697192181551883600:=0
def tw8070684191012557903:=0
def tw4847255145213095671:=0
def tw16765994434430773141:=0
def tw9465343130635922563:=0
def tw2917162679783459515:=0
def tw13367332325954446574:=0
def tw7922751812771491285:=0
def tw14298103872898478742:=0
def tw15522505067993031179:=0
def tw160205454123974100:=0
def tw17727014027550454817:=0
def tw6175798848637392252:=0
def tw3302529667707762288:=0
def tw15512351704693157320:=0
def tw7368993196942114709:=0
def tw9500899894649393022:=0
def tw6164204010285121678:=0
def tw7443434085187195764:=0
def tw586477796821003208:=0
def tw17884918501186606368:=0
def tw4901977177226335381:=0
def tw9264400198348880851:=0
def tw12219773881999965232:=0
def tw16933625410468967266:=0
def tw15532333080352261860:=0
def tw6165301893404322683:=0
def tw5301588187064511042:=0
def tw1836050227495103461:=0
def tw478959499174178076:=0
def tw17077894328963287017:=0
def tw4841930185120697459:=0
def tw2408751598926321147:=0
def tw12572894418072680015:=0
def tw8683529441229861278:=0
def tw16662466777902916591:=0
def tw16337594652049455895:=0
def tw14833752940484907998:=0
def tw3137123008682214298:=0
def tw17496460027636683583:=0
def tw16535506120053059507:=0
def tw9814965157808953477:=0
def tw2164911741670752667:=0
def tw12401815284384182911:=0
def tw12057546809631991068:=0
def tw4419874276336481912:=0
def tw12775143784688530623:=0
def tw18084020053611870646:=0
def tw14332081613154265264:=0
def tw17117037218673619319:=0
def tw15935994566391720873:=0
def tw14997975339940410708:=0
def tw15095457548005180586:=0
def tw3285867641323922870:=0
def tw13238064796770065113:=0
def tw10384394135665972517:=0
def tw8947416608491134033:=0
def tw10120858044615706482:=0
def tw14550976577032545470:=0
def tw10805727414317199499:=0
def tw11639399978195170938:=0
def tw7040580288671029337:=0
def tw10004265612822267664:=0
def tw12502672024607336852:=0
def tw11514463644216821041:=0
def tw987330174385774478:=0
def tw16940279885122194565:=0
def tw17604092476288487334:=0
def tw17581482434850890523:=0
def tw6448826718627069761:=0
def tw4919091026851839272:=0
def tw17965141170893614103:=0
def tw1382942716830243209:=0
def tw13852279521933356982:=0
def tw2846747391490409977:=0
def tw9888590115946214489:=0
def tw6248235630287504884:=0
def tw5788375465741941309:=0
def tw8703539933827838492:=0
def tw12082568921101807713:=0
def tw17205655251303750609:=0
def tw6022844145027290927:=0
def tw11796729247499236325:=0
def tw14497237583239204665:=0
def tw18333123881417974704:=0
def tw1187103891839071013:=0
def tw12503479081874287864:=0
def tw9024369740306020373:=0
def tw1936825948007199044:=0
def tw13145540168324187220:=0
def tw8851407822587842918:=0
def tw11425481373724695382:=0
def tw5092877664522903224:=0
def tw14629334580770771641:=0
def tw12676371735109867498:=0
def tw6525980717351713705:=0
def tw14693889766553207770:=0
def tw3169887413715074591:=0
def tw9447692166050655096:=0
def tw2572960464082027073:=0
def tw8636523746824510846:=0
def tw11716545002257109515:=0
def tw12918702415455529639:=0
def tw903270409161649991:=0
def tw15313861075556347404:=0
def tw15920932109319997241:=0
def tw2402003675257067364:=0
def tw1504991557881284095:=0
def tw16867353886286117183:=0
def tw9500098087475084356:=0
def tw14818213723462425470:=0
def tw4609993550553139805:=0
def tw641394480077853414:=0
def tw4135801169461241358:=0
def tw18166165411350385760:=0
def tw18028058064318358500:=0
def tw9363564432595661268:=0
def tw5402362090979507547:=0
def tw15337734711463694288:=0
def tw1800063042307949741:=0
def tw4700702949465518465:=0
def tw8343504793001012199:=0
def tw9255503877119726811:=0
def tw15413132822523652889:=0
def tw6608121640070302719:=0
def tw2900178927595520137:=0
def tw6509298776792300062:=0
def tw7948916769873592539:=0
def tw12596446038694371134:=0
def tw10272832221898424418:=0
def tw13447569076970966339:=0
def tw11480679537603214642:=0
def tw10993238910509090196:=0
def tw12062753702563221125:=0
def tw8258445465137829374:=0
def tw13881146994878047884:=0
def tw1080524216447331466:=0
def tw15957900644315828463:=0
def tw15214319125404647660:=0
def tw15951389212009190972:=0
def tw3112448097601911144:=0
def tw3037918485535373579:=0
def tw642482434204822079:=0
def tw5401335880938210681:=0
def tw17546086963534643746:=0
def tw13658909450606443704:=0
def tw15361813431588114815:=0
def tw17491913961906899736:=0
def tw16637573161270779456:=0
def tw16407073393540458402:=0
def tw6734979500718432368:=0
def tw2497550331873278086:=0
def tw8847008166766616006:=0
def tw3189651820424382041:=0
def tw17881473916147905488:=0
def tw14494706126816132749:=0
def tw15125574972627247157:=0
def tw14837452992068623780:=0
def tw5797276196400783662:=0
def tw16059803371092827368:=0
def tw14437416469056601972:=0
def tw17308164441180982227:=0
def tw5593055549119162839:=0
def tw11080830166653819685:=0
def tw11743987978673323919:=0
def tw6475546041033987261:=0
def tw17285919438884749081:=0
def tw17130384495209065672:=0
def tw4150316893706348240:=0
def tw3234566632774199732:=0
def tw6046887748511167170:=0
def tw12439759219145250977:=0
def tw9714356679623214033:=0
def tw13445714944634372863:=0
def tw17354564052646418220:=0
def tw11569808451472487464:=0
def tw9177104656635614682:=0
def tw354112654004436238:=0
def tw6183376373170143392:=0
def tw14059305435754040100:=0
def tw10922238167884360049:=0
def tw523731152149810701:=0
def tw15186705450276804432:=0
def tw5907667768618163396:=0
def tw14519084940439438866:=0
def tw8168509661130031032:=0
def tw12652006842256150858:=0
def tw2131284867686743058:=0
def tw7497332887905697681:=0
def tw17182006698753425305:=0
def tw2694528101807077057:=0
def tw3422549310325558631:=0
def tw11634670323309314497:=0
def tw3612945841231094228:=0
def tw9282497152949252916:=0
def tw10420602925887358468:=0
def tw4407432396167447254:=0
def tw787382760836165669:=0
def tw14931192061367160180:=0
def tw11971393140058172638:=0
def tw5746156020559524163:=0
def tw12939223128102879226:=0
def tw14777914457494995411:=0
def tw8853673711854383262:=0
def tw5279884348929255205:=0
def tw15209953295035091939:=0
def tw10980428603854250078:=0
def tw2115014024225362968:=0
def tw466685307630492926:=0
def tw10175079345143420810:=0
def tw11046107438822508138:=0
def tw10283702139054533293:=0
def tw15216898588668794865:=0
def tw10593042351599837010:=0
def tw11188804351580344180:=0
def tw14065776684551960505:=0
def tw12632587133196436843:=0
def tw1537739786171739714:=0
def tw5719067789749663515:=0
def tw5786085446884804293:=0
def tw14602671873409518780:=0
def tw7441474607895400615:=0
def tw5586923301909600946:=0
def tw16103025175100247136:=0
def tw624189200183346723:=0
def tw11278511756111095441:=0
def tw14444542721294137520:=0
def tw16339116108201419279:=0
def tw15383430261187378057:=0
def tw3233105865626984107:=0
def tw5956114587064868199:=0
def tw6851417205227937212:=0
def tw7627119985419061287:=0
def tw17929669972217365117:=0
def tw12835163112539858034:=0
def tw4618588617898150397:=0
def tw10336386753161291355:=0
def tw16060574668195622746:=0
def tw3012841029054899286:=0
def tw11400547028763001401:=0
def tw17881769443896276695:=0
def tw12514501468426955778:=0
def tw15254297914689007730:=0
def tw6340946981526053832:=0
def tw5407904904458837692:=0
def tw7802089804611494234:=0
def tw2915661981533194085:=0
def tw12919348611190576838:=0
def tw7353947336091137553:=0
def tw1942848830462650479:=0
def tw13441095697245749480:=0
def tw15664533169980420028:=0
def tw7795091033950187788:=0
def tw748095467978945968:=0
def tw1030848664265391103:=0
def tw4948361998986044923:=0
def tw16491326991783171514:=0
def tw8085202511466129279:=0
def tw10316699941752442329:=0
def tw8826686467262525233:=0
def tw8502586284032029256:=0
def tw8973881006393507985:=0
def tw17128110219688935914:=0
def tw8868676531005798472:=0
def tw6009416075979388598:=0
def tw14090837124309035706:=0
def tw11269825725400747740:=0
def tw3188096395760607468:=0
def tw17555869900076136095:=0
def tw3592285177789280349:=0
def tw12306166168551307114:=0
def tw16113081052429111396:=0
def tw6737086998890337028:=0
def tw14857310495413447750:=0
def tw8011606397452777094:=0
def tw425155203408819888:=0
def tw3290092624741915597:=0
def tw11340851706961304610:=0
def tw12405422547903726215:=0
def tw5565006014708332807:=0
def tw17904854441460234976:=0
def tw14815606878772179788:=0
def tw8139490990795532744:=0
def tw16446176713812617789:=0
def tw2816683082234847168:=0
def tw271666046316713129:=0
def tw16006013464384044215:=0
end PySem.W.Fast
open PySem PySem.W PyProof.Rows
set_option maxRecDepth 100000 in
set_option maxHeartbeats 0 in
theorem PySem.Challenge.cw_mumtrial_k73_stories_of_hidden_holds : PySem.Challenge.rw_mumtrial_k73_stories_of_hidden.Holds := by
 w_on;o_law;k_head;(case hw=>w_witness2)
 k_fill
 refine L2.walk_ofT (PT:=fun K t=>bT K bM "STILL"=some (some (.ref t))/\Mum.NoTup K t) (ts:=Mum.stillSg.map L2.V.str) (l:=PySem.Challenge.rw_mumtrial_k73_stories_of_hidden) (n:=63) (k:=7) (x:="script") (CX:=L2.CX0) (sp:=Mum.sp_law73) (by decide) ?T rfl (by decide) rfl ⟨rfl,by decide,by decide⟩ (fun w h Y=>PySem.W.kIn_of Y) ?F (fun _ t _ a ns pt ht hl hS=>⟨t,a,ns,rfl,⟨pt.1,pt.2,ht⟩,hS,hl,fun _=>rfl⟩) (fun _ _ _ _ z=>z)
 case T =>
  intro w h KX;refine' Mum.still_mk ?tg ?tl ?tc ?td ?ts ?tv ?tn
  case tg=>k_is
  case tl=>k_is
  case tc=>rfl
  case td=>rfl
  case ts=>decide
  case tv=>exact .cons ⟨_,rfl⟩ .nil
  case tn=>with_unfolding_all rfl
 case F =>
  intro w mg fa h KX G hmg;refine' Mum.all_mk KX G hmg ?aC ?pg ?hd ?po ?sa ?mk ?kc ?na1 ?na2 ?na3 ?na4 ?na5 ?na6 ?na7 ?na8 ?z_all ?z_bool ?z_dict ?z_enumerate ?z_int ?z_isinstance ?z_len ?z_list ?z_range ?z_str ?z_tuple ?z_zip ?g_LETTERS ?r_LETTERS ?g_LONGEST_NAME ?r_LONGEST_NAME ?g_MOST_WORDS ?r_MOST_WORDS ?g_MOST_ROOMS ?r_MOST_ROOMS ?g_MOST_DOORS ?r_MOST_DOORS ?g_STILL ?l_STILL ?c_STILL ?d_STILL ?s_STILL ?v_STILL ?g_HUSH ?l_HUSH ?c_HUSH ?d_HUSH ?s_HUSH ?v_HUSH ?T
  (case aC|pg|hd|po|sa|mk|kc|na1|na2|na3|na4|na5|na6|na7|na8|z_all|z_bool|z_dict|z_enumerate|z_int|z_isinstance|z_len|z_list|z_range|z_str|z_tuple|z_zip|g_LETTERS=>k_is)
  (case r_LETTERS=>exact⟨_,rfl⟩)
  (case g_LONGEST_NAME=>k_is)
  (case r_LONGEST_NAME=>exact⟨_,rfl⟩)
  (case g_MOST_WORDS=>k_is)
  (case r_MOST_WORDS=>exact⟨_,rfl⟩)
  (case g_MOST_ROOMS=>k_is)
  (case r_MOST_ROOMS=>exact⟨_,rfl⟩)
  (case g_MOST_DOORS=>k_is)
  (case r_MOST_DOORS=>exact⟨_,rfl⟩)
  (case g_STILL|l_STILL=>k_is)
  (case c_STILL|d_STILL=>rfl)
  (case s_STILL=>decide)
  (case v_STILL=>exact .cons ⟨_,rfl⟩ .nil)
  (case g_HUSH|l_HUSH=>k_is)
  (case c_HUSH|d_HUSH=>rfl)
  (case s_HUSH=>decide)
  (case v_HUSH=>exact .cons ⟨_,rfl⟩ .nil)
  (case T=>constructor<;>first|(refine' Mum.fnG_mk ?a ?l ?c ?k;(case a=>k_is);(case l=>k_is);(case c=>k_is);(case k=>k_is))|(refine' Mum.fnM_mk ?a ?i ?l ?c ?k;(case a=>k_is);(case i=>k_is);(case l=>k_is);(case c=>k_is);(case k=>k_is)))
