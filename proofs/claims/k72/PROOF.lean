
import PyProof.Rows.All
import Wide.All
import OpenK.AllK
import Wide.FinOn
import Lean
import PyProof.EqAt
import PyProof.EqKinds
import PyProof.TupleCall
import PyProof.NeKinds
import PyProof.RaisesMany
import PyProof.RulesAs
import PyProof.NsDelKeeps
import PyProof.InstStoreFacts
import PyProof.ExcClass3
import PyProof.ExcInit
import KE.KTryMore
import PyProof.AutoSeq1
import PyProof.WalkInts
import PyProof.DictIter
import PyProof.DictWalks
import PyProof.DictItems
import PyProof.DictItemsLoops
import KE.KPairComp
import PyProof.DictValues
import PyProof.SumAny
import PySem.Challenge.RW_mumtrial_k72_hidden
noncomputable section
open PySem renaming Program->bg,reduceHash->By,wpAny_mono->cR,wpAny_bind->aj,wpAny_specialOf->C7,wpAny_call_entry->tW,wpAny_pure->aD,wpAny_rule->pk,Builtin->bQ,isInstance->vY,wpAny_isInstance->zB,wpAny_holding->kb,wpAny_truthy_bool->qx,wpAny_seqItems->lG,sizeLine->am,sysModules->h9,Within->vX,mainGlobals->bq,bootBuiltins->iQ,starEach->au,compareOp->em,behindInMarks->jX,standAt->mH,holding->jW,wpAny_execs_nil->pf,wpAny_execs_cons->zw,swapsWith->lE,assignEach->sY,wpAny_standAt->qj,PassesOwn->zv,wpAny_passesOwn->jV,letOwnedTupleGo->zu,wpAny_pyIter_list->zp,foldedSetIterable->sX,binaryOp->pd,sizeLine_eq->sW,getAttr->vV,getMethod->mE,codeAny->zzl83,attributeBase->sV,FuncData->hZ,BindsTo->sU,wpAny_call->pb,codeAny_mono->qi,wpAny_Call_Name_kw->mC,callWith->lU,backToKw->jA,keywordEach->jz,NameKind->fL,mem_of_lookup->nZ,typeLookup->nX,getItem->lS,subscripted->uA,sliceBounds->lR,slicePick->uy,call_meets->ux,valueAt->lQ,callerA->lP,noteFrame->jv,wpAny_newObj_type->kg,ZipApart->nV,wpAny_pyIter_zip->ur,wpAny_callSpecial?_slot->nU,wpAny_field->bP,wpAny_setField->gE,firstArgMember->uo,wpAny_setField_rec->nR,wpAny_onRaise->qF,wpAny_letGo->ul,wpAny_attempt->qE,sliceRange->qD,wpAny_dictEntries->ug,setField->uc,setFlight->js,excClassObj->gD,checkBuiltinCall->ub,wpAny_loadPart_at->jr,wpAny_isSubtype_exc->qy,ExceptHandler->t_,DictEntry->ka,wpAny_typeNameOfWhole_keyiter->t7,wpAny_typeNameOf_keyiter->t6
open PySem.Builtin.Tuple renaming tupleHashOf->xJ
open PySem.Value renaming builtin->xI
open Bool renaming false_ne_true->iI,not_true->zA,false_eq_true->pj,eq_iff_iff->pc,and_eq_true->h_,and_false->uj,true_and->qq
open Nat renaming add_assoc->zC,le_refl->aO,lt_of_lt_of_le->e_,lt_irrefl->ph,ne_of_lt->bO,le_trans->bp,le_of_lt->eX,ne_of_gt->d9,zero_le->cf,le_succ->jy,lt_of_le_of_lt->uu,not_le_of_lt->fe,mod_lt->qr
open List renaming append_nil->cO,range->j8,mem_filter->eZ,filterMap_cons->jY,mem_cons_self->eQ,mem_cons_of_mem->dD,mem_cons->bY,mem_append->cj,mem_append_left->dC,getElem?_eq_some_iff->da,getElem?_set_ne->zz,mem_append_right->dw,length_cons->d7,lookup->iO,map_cons->bo,length_map->ao,nodup_cons->jx,of_mem_zip->qP,replicate->kq,length_take->aQ,getElem?_append_right->nY,getElem?_append_left->kj,getElem?_map->dq,mem_of_getElem?->cT,length_append->aY,length_replicate->uD,length_drop->fh,size_toArray->bE,length_set->uz,find?_cons->nW,any_cons->uw,length_nil->qK,nodup_nil->ki,lookup_cons->fJ,forIn_cons->qI,all_eq_true->qH,mem_map->bh,not_mem_nil->qG,any_toArray->ui,drop_zero->qA,take_length->cA,getElem?_eq_getElem->jt,mem_singleton->uh,map_append->aN,nodup_append->ee,drop_of_length_le->uf,drop_eq_getElem_cons->ue,contains_cons->i6,take_of_length_le->t8,map_take->t5,map_drop->tZ,drop_length->qt,mem_of_mem_take->j_,append_assoc->fb,map_map->j9,mem_map_of_mem->lN,length_filter_le->fH,filter_append->qo
open Option.some renaming inj->dE
open PySem.W renaming instObj->pi,lookIn->zm,plainGet->vW,hasDictIn->zk,findIn->bC,isFn->mF,makesIn->vU,emptyDict->mD,keepIn->dB,specialIn->zj,kitOne->vT,kia_one->jb,callWith_K->lV,fnOf->ib,codeIn->lT,exmOne->t9,nsIn->bw,mg_of->eG,mg_none_of->gB
open PySem.Heap renaming lt_size->aE,SameBut->iP,get?_push_of_some->aV,get?_push_size->cN,size_push->j7,get?_update_self->fK,get?_update_other->eI
open PyProof.Rows renaming AllBare->lF,callWith_type1->zo,Subscript_->uC,subscriptTail->uB,IntsAre->qJ,boot_all->qk
open Ne renaming symm->cy
open Array renaming length_toList->mG,getElem?_toList->qN,getElem?_eq_some_iff->d_
open False renaming elim->cg
open True renaming intro->ej
open Option renaming isSome_iff_exists->uE,map_some->qM
open Int renaming toNat_natCast->jw,emod_nonneg->nQ,emod_lt_of_pos->nO,eq_ofNat_of_zero_le->gC
open PySem.Obj renaming mapSeq->qO,isFreed_of_fields->ju,data_mapFields->ff,mapFields->ca
open PySem.Paired renaming snoc->uv
open ForInStep renaming yield->ut
open PySem.NameKind renaming free->kh
open PySem.Builtin.SmallTypes renaming nextOf->kf,ownedTupleIsFree->um
open PySem.Str renaming ofString->nS
open PySem.F renaming slot_tuple_iterator_next->uq,slot_zip_next->uk,slot_dict_keyiterator_next->qw,plainAttrs_list->jq,slot_list_append->lM,type_list_append->lL
open PySem.Heap.SameBut renaming update->lO
open PySem.SeqAt renaming EqAt->aW
open PySem.Builtin.Str renaming strSliceIndices->qC
open PySem.Txt renaming join->qz
open PySem.EntryCells renaming newEntry->ud
open PySem.Builtin.ObjectAttr renaming storeInDict->ua
open Iff renaming rfl->tX
open Prod renaming fst->nN
open PySem.PassesOwn renaming never->cz
theorem Q0:0<=PySem.sizeLine:=by decide
theorem Q1:1<=PySem.sizeLine:=by decide
theorem Q2:2<=PySem.sizeLine:=by decide
theorem Q3:3<=PySem.sizeLine:=by decide
theorem Q4:4<=PySem.sizeLine:=by decide
theorem Q6:6<=PySem.sizeLine:=by decide
theorem zzr0{p:Prop}[Decidable p](h:¬p):decide p=false:=decide_eq_false h
theorem zzr1{p:Prop}[Decidable p](h:p):decide p=true:=decide_eq_true h
abbrev Za:=PySem.W.Frag
abbrev Zb:=List PySem.Str
abbrev Zc:=PySem.Value->PySem.Shared->Prop
abbrev Zd:=List (PySem.Addr×PySem.Obj)
abbrev Ze:=List PySem.Addr
abbrev Zf:=List PySem.Value
section
set_option Elab.async false
set_option linter.all false
set_option maxRecDepth 100000
set_option maxHeartbeats 4000000
namespace L2
open PySem PySem.Spec PyProof.Rows
open Sem (wp)
abbrev dX:=Sum Int Str
def cP:dX->Value->Bool
 |.inl k,v=>Value.isInt k v
 |.inr x,v=>Value.isStrOf x v
def Gz(w:World):dX->Int
 |.inl k=>hashInt k
 |.inr x=>hashStr w x
theorem ax:∀{k:dX}{v:Value},cP k v=true->(∃i t,k=Sum.inl i/\v=Value.int i t)∨(∃x t,k=Sum.inr x/\v=Value.str x t)
 |.inl i,v,h=>by
  obtain⟨t,e⟩:=Value.isInt_shape (k:=i) (v:=v) h;exact .inl ⟨i,t,rfl,e⟩
 |.inr x,v,h=>by
  obtain⟨t,e⟩:=Value.isStrOf_shape (x:=x) (v:=v) h;exact .inr ⟨x,t,rfl,e⟩
theorem k9(i:Int)(t:Tok):cP (.inl i) (.int i t)=true:=by simp[cP,Value.isInt]
theorem k7(x:Str)(t:Tok):cP (.inr x) (.str x t)=true:=by simp[cP,Value.isStrOf]
theorem vj(a b:Int):decide ((Sum.inl a:dX)=Sum.inl b)=(a==b):=by
 by_cases e:a=b
 ·subst e;simp
 ·have h:¬(Sum.inl a:dX)=Sum.inl b:=fun q=>e (Sum.inl.inj q);rw[zzr0 h];exact(beq_eq_false_iff_ne.mpr e).symm
theorem vg(a b:Str):decide ((Sum.inr a:dX)=Sum.inr b)=decide (a=b):=by
 by_cases e:a=b
 ·subst e;simp
 ·have h:¬(Sum.inr a:dX)=Sum.inr b:=fun q=>e (Sum.inr.inj q);rw[zzr0 h,zzr0 e]
theorem vi(a:Int)(b:Str):decide ((Sum.inl a:dX)=Sum.inr b)=false:=zzr0 (fun q=>nomatch q)
theorem vh(a:Str)(b:Int):decide ((Sum.inr a:dX)=Sum.inl b)=false:=zzr0 (fun q=>nomatch q)
def bU(prog:bg)(w:World):PySem.KeyKind prog w dX where
 is:=cP
 hash:=Gz w
 inj:=fun v a b ha hb=>by
  rcases ax ha with⟨i,t,rfl,rfl⟩|⟨x,t,rfl,rfl⟩
  ·rcases ax hb with⟨j,u,rfl,e⟩|⟨y,u,rfl,e⟩
   ·injection e with e1 _;rw[e1]
   ·exact nomatch e
  ·rcases ax hb with⟨j,u,rfl,e⟩|⟨y,u,rfl,e⟩
   ·exact nomatch e
   ·injection e with e1 _;rw[e1]
 byValue:=fun k v h=>by
  rcases ax h with⟨i,t,rfl,rfl⟩|⟨x,t,rfl,rfl⟩<;>rfl
 pyHash:=fun hv h=>by
  rcases ax hv with⟨i,t,rfl,rfl⟩|⟨x,t,rfl,rfl⟩
  ·exact wpAny_pyHash_int h
  ·exact wpAny_pyHash_str h
 eqBool:=fun hu hv h=>by
  rcases ax hu with⟨i,t,rfl,rfl⟩|⟨x,t,rfl,rfl⟩
  ·rcases ax hv with⟨j,u,rfl,rfl⟩|⟨y,u,rfl,rfl⟩
   ·rw[vj]at h;exact wpAny_eqBool_int h
   ·rw[vi]at h;exact aW.int_str i t y u _ _ _ _ h
  ·rcases ax hv with⟨j,u,rfl,rfl⟩|⟨y,u,rfl,rfl⟩
   ·rw[vh]at h;exact aW.str_int x t j u _ _ _ _ h
   ·rw[vg]at h;exact wpAny_eqBool_str h
 «strs»:=fun k x t v h=>by
  rcases ax h with⟨i,u,rfl,e⟩|⟨y,u,rfl,e⟩
  ·exact nomatch e
  ·injection e with e1 _;subst e1;cases v<;>rfl
theorem wS(a:bg)(w:World)(i:Int)(t:Tok):(bU a w).is (.inl i) (.int i t)=true:=k9 i t
theorem wR(a:bg)(w:World)(x:Str)(t:Tok):(bU a w).is (.inr x) (.str x t)=true:=k7 x t
end L2
namespace L2
open PySem PySem.Spec PyProof.Rows
open Sem (wp)
abbrev mr:=Option dX
def iw:mr->Value->Bool
 |none,v=>match v with
  |.none=>true
  |_=>false
 |some k,v=>cP k v
def EE(w:World):mr->Int
 |none=>By 4238894112
 |some k=>Gz w k
theorem bt:∀{k:mr}{v:Value},iw k v=true->(∃i t,k=some (Sum.inl i)/\v=Value.int i t)∨(∃x t,k=some (Sum.inr x)/\v=Value.str x t)∨(k=none/\v=Value.none)
 |none,v,h=>by
  refine .inr (.inr ⟨rfl,?_⟩);cases v<;>first|rfl|cases h
 |some k,v,h=>by
  rcases ax (show cP k v=true from h)with⟨i,t,rfl,rfl⟩|⟨i,t,rfl,rfl⟩
  ·exact .inl ⟨i,t,rfl,rfl⟩
  ·exact .inr (.inl ⟨i,t,rfl,rfl⟩)
theorem rO{a b:mr}{v:Value}(f:iw a v=true)(g:iw b v=true):a=b:=by
 rcases bt f with⟨i,t,rfl,rfl⟩|⟨i,t,rfl,rfl⟩|⟨rfl,rfl⟩<;>rcases bt g with⟨j,u,rfl,e⟩|⟨j,u,rfl,e⟩|⟨rfl,e⟩<;>first|rfl|(cases e;rfl)|cases e
def wQ(prog:bg)(w:World):PySem.KeyKind prog w mr where
 is:=iw
 hash:=EE w
 inj:=fun v a b ha hb=>rO ha hb
 byValue:=fun k v h=>by
  rcases bt h with⟨i,t,rfl,rfl⟩|⟨x,t,rfl,rfl⟩|⟨rfl,rfl⟩<;>rfl
 pyHash:=fun{A E s k v Q} hv h=>by
  rcases bt hv with⟨i,t,rfl,rfl⟩|⟨x,t,rfl,rfl⟩|⟨rfl,rfl⟩
  ·exact wpAny_pyHash_int h
  ·exact wpAny_pyHash_str h
  ·refine PySem.W.pyHash_slot (T:="NoneType") rfl F.slot_NoneType_hash F.entry_NoneType_hash (F.args_NoneType_hash_1 _) (by rw[beq_builtin_none]) (.inl rfl) ?_;show wpAny _ _ (retInt 4238894112) _ _ _;refine cR (wpAny_ret_mkInt (Q:=fun v s'=>∃n t,v=Value.int n t/\Q (By n) s') ⟨_,_,rfl,h⟩) (fun fin s' ⟨v,e,n,t,e2,q⟩=>⟨n,t,by rw[e,e2],q⟩) (fun _ _ z=>z)
 eqBool:=fun{A E s a b u v Q} hu hv h=>by
  rcases bt hu with⟨i,t,rfl,rfl⟩|⟨x,t,rfl,rfl⟩|⟨rfl,rfl⟩
  ·rcases bt hv with⟨j,u,rfl,rfl⟩|⟨y,u,rfl,rfl⟩|⟨rfl,rfl⟩
   ·exact(bU prog w).eqBool (a:=.inl i) (b:=.inl j) (k9 i t) (k9 j u) (by rw[show decide ((Sum.inl i:dX)=Sum.inl j)=decide ((some (Sum.inl i):mr)=some (Sum.inl j))from decide_eq_decide.mpr ⟨fun z=>by rw[z],fun z=>by injection z⟩];exact h)
   ·rw[zzr0 (by intro z;injection z with z;cases z)]at h;exact aW.int_str i t y u _ _ _ _ h
   ·rw[zzr0 (by intro z;cases z)]at h;exact aW.int_none i t _ _ _ _ h
  ·rcases bt hv with⟨j,u,rfl,rfl⟩|⟨y,u,rfl,rfl⟩|⟨rfl,rfl⟩
   ·rw[zzr0 (by intro z;injection z with z;cases z)]at h;exact aW.str_int x t j u _ _ _ _ h
   ·exact(bU prog w).eqBool (a:=.inr x) (b:=.inr y) (k7 x t) (k7 y u) (by rw[show decide ((Sum.inr x:dX)=Sum.inr y)=decide ((some (Sum.inr x):mr)=some (Sum.inr y))from decide_eq_decide.mpr ⟨fun z=>by rw[z],fun z=>by injection z⟩];exact h)
   ·rw[zzr0 (by intro z;cases z)]at h;exact aW.str_none x t _ _ _ _ h
  ·rcases bt hv with⟨j,u,rfl,rfl⟩|⟨y,u,rfl,rfl⟩|⟨rfl,rfl⟩
   ·rw[zzr0 (by intro z;cases z)]at h;exact aW.none_int j u _ _ _ _ h
   ·rw[zzr0 (by intro z;cases z)]at h;exact aW.none_str y u _ _ _ _ h
   ·rw[zzr1 rfl]at h;exact aW.same _ _ _ _ _ h
 «strs»:=fun k x t v h=>by
  rcases bt h with⟨i,u,rfl,e⟩|⟨y,u,rfl,e⟩|⟨rfl,e⟩
  ·exact nomatch e
  ·injection e with e1 _;subst e1;cases v<;>rfl
  ·exact nomatch e
inductive TK where
 |k (a:mr)
 |t (l:List TK)
mutual
def ER:(x y:TK)->Decidable (x=y)
 |.k a,.k b=>if h:a=b then Decidable.isTrue (by rw[h])else Decidable.isFalse fun e=>h (by injection e)
 |.t l,.t m=>match decTKs l m with
  |Decidable.isTrue h=>Decidable.isTrue (by rw[h])
  |Decidable.isFalse h=>Decidable.isFalse fun e=>h (by injection e)
 |.k _,.t _=>Decidable.isFalse nofun
 |.t _,.k _=>Decidable.isFalse nofun
def decTKs:(x y:List TK)->Decidable (x=y)
 |[],[]=>Decidable.isTrue rfl
 |[],_::_=>Decidable.isFalse nofun
 |_::_,[]=>Decidable.isFalse nofun
 |a::l,b::m=>match ER a b with
  |Decidable.isTrue h=>match decTKs l m with
   |Decidable.isTrue h'=>Decidable.isTrue (by rw[h,h'])
   |Decidable.isFalse h'=>Decidable.isFalse fun e=>h' (by injection e)
  |Decidable.isFalse h=>Decidable.isFalse fun e=>h (by injection e)
end
instance:DecidableEq TK:=ER
mutual
def TK.depth:TK->Nat
 |.k _=>0
 |.t l=>TK.depths l+1
def TK.depths:List TK->Nat
 |[]=>0
 |a::r=>max (TK.depth a) (TK.depths r)
end
mutual
def TK.hash(w:World):TK->Int
 |.k a=>EE w a
 |.t l=>By (xJ (TK.hashs w l))
def TK.hashs(w:World):List TK->List Int
 |[]=>[]
 |a::r=>TK.hash w a::TK.hashs w r
end
mutual
def TK.draws:TK->Nat
 |.k _=>1
 |.t l=>TK.drawss l+1
def TK.drawss:List TK->Nat
 |[]=>0
 |a::r=>TK.draws a+TK.drawss r
end
mutual
def lD(h:Heap):TK->Value->Prop
 |.k a,v=>iw a v=true
 |.t l,v=>∃a o items n,v=.ref a/\h.get? a=some o/\o.cls=.type "tuple"/\o.data=.seq items n/\TAts h l items.toList
def TAts(h:Heap):List TK->List Value->Prop
 |[],vs=>vs=[]
 |k::r,vs=>∃v us,vs=v::us/\lD h k v/\TAts h r us
end
theorem lD.inj{h:Heap}:∀(d:Nat) {x y:TK}{v:Value},x.depth<=d->lD h x v->lD h y v->x=y:=by
 have z:∀(d:Nat) (s:∀{x y:TK}{v:Value},x.depth<=d->lD h x v->lD h y v->x=y) (xs i:List TK) (m:Zf),TK.depths xs<=d->TAts h xs m->TAts h i m->xs=i:=by
  intro d s xs
  induction xs with
  |nil =>
   intro i m _ hx f;have B:m=[]:=hx;subst B;cases i with
   |nil=>rfl
   |cons y i=>obtain⟨_,_,e,_⟩:=f;cases e
  |cons x xs C =>
   intro i m p hx f;obtain⟨v,N,rfl,D,E⟩:=hx;cases i with
   |nil=>have G:v::N=[]:=f;cases G
   |cons y i =>
    obtain⟨v',Q,e,H,I⟩:=f;cases e;have T:max x.depth (TK.depths xs)<=d:=p;rw[s (by omega) D H,C i N (by omega) E I]
 have g:∀(a:mr) (l:List TK) (v:Value),lD h (.k a) v->lD h (.t l) v->False:=by
  intro a l v q J;obtain⟨b,o,items,n,rfl,_⟩:=J;rcases bt (show iw a (.ref b)=true from q)with⟨_,_,_,e⟩|⟨_,_,_,e⟩|⟨_,e⟩<;>cases e
 have O:∀(a b:mr) (v:Value),iw a v=true->iw b v=true->a=b:=fun a b v q J=>rO q J;intro d
 induction d with
 |zero =>
  intro x y v p hx f;cases x with
  |t l=>exact absurd p (by show ¬(TK.depths l+1<=0);omega)
  |k a =>
   cases y with
   |k b=>rw[O a b v hx f]
   |t l=>exact(g a l v hx f).elim
 |succ d s =>
  intro x y v p hx f;cases x with
  |k a =>
   cases y with
   |k b=>rw[O a b v hx f]
   |t l=>exact(g a l v hx f).elim
  |t l =>
   cases y with
   |k b=>exact(g b l v f hx).elim
   |t U =>
    obtain⟨a,o,items,n,rfl,Y,hc,L,hi⟩:=hx;obtain⟨a',o',u,n',e,r,ab,j,M⟩:=f;cases e;rw[Y]at r;cases r;rw[L]at j;injection j with e1 _;subst e1;rw[z d (fun q=>s q) l U items.toList (by have:TK.depths l+1<=d+1:=p;omega) hi M]
theorem lD.mono{h g:Heap}(k:∀a o items n,h.get? a=some o->o.cls=.type "tuple"->o.data=.seq items n->g.get? a=some o):∀(d:Nat) {x:TK}{v:Value},x.depth<=d->lD h x v->lD g x v:=by
 have m:∀(d:Nat) (i:∀{x:TK}{v:Value},x.depth<=d->lD h x v->lD g x v) (xs:List TK) (j:Zf),TK.depths xs<=d->TAts h xs j->TAts g xs j:=by
  intro d i xs
  induction xs with
  |nil=>intro j _ hx;exact hx
  |cons x xs p =>
   intro j e hx;obtain⟨v,s,rfl,q,r⟩:=hx;have y:max x.depth (TK.depths xs)<=d:=e;exact⟨v,s,rfl,i (by omega) q,p s (by omega) r⟩
 intro d
 induction d with
 |zero =>
  intro x v e hx;cases x with
  |t l=>exact absurd e (by show ¬(TK.depths l+1<=0);omega)
  |k a=>exact hx
 |succ d i =>
  intro x v e hx;cases x with
  |k a=>exact hx
  |t l =>
   obtain⟨a,o,items,n,rfl,z,u,f,hi⟩:=hx;exact⟨a,o,items,n,rfl,k a o items n z u f,u,f,m d (fun B=>i B) l _ (by have:TK.depths l+1<=d+1:=e;omega) hi⟩
section
variable{prog:bg}{w:World}
theorem Dj:∀(d:Nat) {A:Around}{E:Zc}{s:Shared}{k:TK}{v:Value}{Q:Int->Shared->Prop},k.depth<=d->A.units+d<cLine->lD s.heap k v->Q (k.hash w) { s with toks:=s.toks+k.draws } ->
  wpAny (model prog w) A (pyHash v) Q E s:=by
 intro d
 induction d with
 |zero =>
  intro A E s k v Q C hu u h;cases k with
  |t l=>exact absurd C (by show ¬(TK.depths l+1<=0);omega)
  |k a=>exact(wQ prog w).pyHash (k:=a) u h
 |succ d ih =>
  intro A E s k v Q C hu u h;cases k with
  |k a=>exact(wQ prog w).pyHash (k:=a) u h
  |t l =>
   obtain⟨a,o,items,n,rfl,U,hc,D,hi⟩:=u;have y:s.TypeIs (.ref a) "tuple":=⟨o,U,hc⟩;have G:TK.depths l<=d:=by have:TK.depths l+1<=d+1:=C;omega
   unfold pyHash
   first|unfold pyHashByItsType|skip
   first|refine aj (wpAny_cRoomFor_or (.inr (by omega)) ?_)|skip
   refine aj (C7 y F.slot_tuple_hash.lookup ?_);show wpAny _ _ (if(some (xI "tuple.__hash__")==some Value.none)=true then _ else _) Q E s
   rw[if_neg (by rw[beq_builtin_none];exact iI)];refine aj (C7 y F.slot_tuple_hash.lookup ?_);show wpAny _ _ (callSpecialIfBoundUnlessNone? (.ref a) "__hash__" _ >>= _) Q E s;refine aj (wpAny_callSpecialIfBoundUnlessNone?_slot y F.slot_tuple_hash (tW F.slot_tuple_hash y F.entry_tuple_hash ?_ (F.args_tuple_hash_1 _)));show wpAny _ _ (bQ.Tuple.tupleItemsOf (.ref a) >>= _) _ _ s;refine aj (wpAny_tupleItemsOf U D ?_);refine aj ?_;rw[<-Array.forIn_toList];refine wpAny_forIn_list _
    (fun g (b:Array Int) H=>∃done left,l=done++left/\TAts s.heap left g/\b.toList=TK.hashs w done/\H={ s with toks:=s.toks+TK.drawss done })
    _ ?_ ?_ _ _ ⟨[],l,rfl,hi,rfl,rfl⟩
   ·rintro x g b H ⟨done,left,e,z,j,rfl⟩;cases left with
    |nil=>have I:x::g=[]:=z;cases I
    |cons f left =>
     obtain⟨x',J,L,h1,Y⟩:=z;cases L;have M:f.depth<=d:=by
      have gen:∀(p:List TK),TK.depths (p++f::left)<=d->f.depth<=d:=by
       intro p
       induction p with
       |nil=>intro N;have O:max f.depth (TK.depths left)<=d:=N;omega
       |cons q p i=>intro N;have O:max q.depth (TK.depths (p++f::left))<=d:=N;exact i (by omega)
      exact gen done (by rw[<-e];exact G)
     have T:TK.hashs w (done++[f])=TK.hashs w done++[f.hash w]:=by
      clear e j
      induction done with
      |nil=>rfl
      |cons q p i=>show _::TK.hashs w (p++[f])=_;rw[i];rfl
     have m:TK.drawss (done++[f])=TK.drawss done+f.draws:=by
      clear e j T
      induction done with
      |nil=>show f.draws+0=0+f.draws;omega
      |cons q p i=>show q.draws+TK.drawss (p++[f])=q.draws+TK.drawss p+f.draws;rw[i];omega
     refine aj (ih (k:=f) M (by show A.units+1+d<cLine;omega) h1 ?_)
     first
      |exact aD ⟨done++[f],left,by rw[e];simp,Y,by rw[T];simp[j],by rw[m];simp[zC]⟩
      |exact aj (aD (aD ⟨done++[f],left,by rw[e];simp,Y,by rw[T];simp[j],by rw[m];simp[zC]⟩))
   ·rintro b H ⟨done,left,e,z,j,rfl⟩;cases left with
    |cons f left=>obtain⟨_,_,L,_⟩:=z;cases L
    |nil =>
     rw[cO]at e;subst e;show wpAny _ _ (retInt (xJ b.toList)) _ _ _;rw[j];refine wpAny_ret_mkInt ?_;have r:Q (By (xJ (TK.hashs w l))) { s with toks:=s.toks+(TK.drawss l+1) }:=h;show wpAny _ _ (if(decide (-(2:Int) ^ 63<=xJ (TK.hashs w l)) && decide (xJ (TK.hashs w l)<2 ^ 63))=true then _ else _) Q E _
     unfold By at r;by_cases B:(decide (-(2:Int) ^ 63<=xJ (TK.hashs w l)) && decide (xJ (TK.hashs w l)<2 ^ 63))=true
     ·rw[if_pos B];rw[if_pos B]at r;exact aD (by simpa[zC]using r)
     ·rw[if_neg B];rw[if_neg B]at r;exact aj (pk (aD (by simpa[zC]using r)))
theorem AI(d:Nat)(ih:∀{A:Around}{E:Zc}{s:Shared}{x y:TK}{u v:Value}{Q:Bool->Shared->Prop},x.depth<=d->y.depth<=d->A.units+d<cLine->lD s.heap x u->lD s.heap y v->Q (decide (x=y)) s->wpAny (model prog w) A (eqBool u v) Q E s)
  {A:Around}{E:Zc}{s:Shared}{x y:List TK}{a b:Addr}{P:Fin->Shared->Prop}{oa J:Obj}{xs q:Array Value}{na nb:Nat}(hx:TK.depths x<=d) (hy:TK.depths y<=d) (hu:A.units+d<cLine)
  (M:s.heap.get? a=some oa) (N:oa.data=.seq xs na) (O:TAts s.heap x xs.toList) (z:s.heap.get? b=some J) (T:J.cls=.type "tuple") (U:J.data=.seq q nb) (Y:TAts s.heap y q.toList)
  (h:P (.done (.ret (.bool (decide (x=y))))) s):wpAny (model prog w) A (bQ.«tuple.__eq__» ⟨[.ref a,.ref b],[]⟩) P E s:=by
 have ab:s.TypeIs (.ref b) "tuple":=⟨J,z,T⟩;show wpAny _ _ (vY (.ref b) (.type "tuple") >>= _) _ _ s;refine aj (zB ab isSubtype_tuple_tuple ?_);simp only[zA,pj,if_false];refine aj (wpAny_tupleItemsOf M N ?_);refine aj (wpAny_tupleItemsOf z U ?_);refine aj ?_;refine wpAny_forIn_list _
  (fun l r L=>r.1=none/\L=s/\∃n m xs' f,l=List.zip xs' f/\TAts s.heap n xs'/\TAts s.heap m f/\TK.depths n<=d/\TK.depths m<=d/\decide (n=m)=decide (x=y)/\(xs'.length==f.length)=(xs.size==q.size))
  _ ?_ ?_ _ _ ⟨rfl,rfl,x,y,xs.toList,q.toList,rfl,O,Y,hx,hy,rfl,by simp⟩
 ·rintro⟨u,v⟩ l r L ⟨hr,rfl,n,m,xs',f,t,j,g,dx,dy,i,k⟩;cases n with
  |nil =>
   have e:xs'=[]:=j;subst e;simp at t
  |cons k1 o =>
   obtain⟨u',B,rfl,h1,C⟩:=j;cases m with
   |nil =>
    have e:f=[]:=g;subst e;simp at t
   |cons k2 p =>
    obtain⟨v',D,rfl,h2,G⟩:=g;simp only[List.zip_cons_cons,List.cons.injEq,Prod.mk.injEq]at t;obtain⟨⟨rfl,rfl⟩,rfl⟩:=t;have ak:max k1.depth (TK.depths o)<=d:=dx;have al:max k2.depth (TK.depths p)<=d:=dy;refine aj (ih (x:=k1) (y:=k2) (by omega) (by omega) hu h1 h2 ?_);by_cases hk:k1=k2
    ·subst hk;rw[zzr1 rfl];simp only[zA,pj,if_false];refine aD ⟨rfl,rfl,o,p,B,D,rfl,C,G,by omega,by omega,?_,by simpa using k⟩;rw[<-i];by_cases H:o=p
     ·simp[H]
     ·simp[H]
    ·rw[zzr0 hk];simp only[Bool.not_false,if_true];have hf:decide (x=y)=false:=by rw[<-i];simp[hk]
     rw[hf]at h;exact aj (aD (aD (aD h)))
 ·rintro⟨r1,r2⟩ L ⟨hr,rfl,n,m,xs',f,t,j,g,dx,dy,i,k⟩;simp only at hr;subst hr;refine aD ?_;have I:(xs.size==q.size)=decide (x=y):=by
   rw[<-i,<-k];cases n with
   |nil =>
    have e:xs'=[]:=j;subst e;cases m with
    |nil=>have e:f=[]:=g;subst e;simp
    |cons _ _=>obtain⟨_,_,rfl,_⟩:=g;simp
   |cons _ _ =>
    obtain⟨_,_,rfl,_⟩:=j;cases m with
    |nil=>have e:f=[]:=g;subst e;simp
    |cons _ _=>obtain⟨_,_,rfl,_⟩:=g;simp at t
  show P (.done (.ret (.bool (xs.size==q.size)))) L;rw[I];exact h
theorem Gi:∀(d:Nat) {A:Around}{E:Zc}{s:Shared}{x y:TK}{u v:Value}{Q:Bool->Shared->Prop},x.depth<=d->y.depth<=d->A.units+d<cLine->lD s.heap x u->lD s.heap y v->Q (decide (x=y)) s ->
  wpAny (model prog w) A (eqBool u v) Q E s:=by
 have g:∀{A:Around}{E:Zc}{s:Shared}{a:mr}{l:List TK}{u v:Value}{Q:Bool->Shared->Prop},A.units<cLine->lD s.heap (.k a) u->lD s.heap (.t l) v->Q false s->wpAny (model prog w) A (eqBool u v) Q E s:=by
  intro A E s a l u v Q j hx f h;obtain⟨b,o,items,n,rfl,L,M,q,hi⟩:=f;have r:s.heap.IsTuple b items:=⟨o,L,M,n,q⟩;rcases bt (show iw a u=true from hx)with⟨i,t,rfl,rfl⟩|⟨i,t,rfl,rfl⟩|⟨rfl,rfl⟩
  ·exact aW.int_tuple i t r j prog w E Q h
  ·exact aW.str_tuple i t r j prog w E Q h
  ·exact aW.none_tuple r j prog w E Q h
 have p:∀{A:Around}{E:Zc}{s:Shared}{a:mr}{l:List TK}{u v:Value}{Q:Bool->Shared->Prop},A.units<cLine->lD s.heap (.t l) u->lD s.heap (.k a) v->Q false s->wpAny (model prog w) A (eqBool u v) Q E s:=by
  intro A E s a l u v Q j hx f h;obtain⟨b,o,items,n,rfl,L,M,q,hi⟩:=hx;have r:s.heap.IsTuple b items:=⟨o,L,M,n,q⟩;rcases bt (show iw a v=true from f)with⟨i,t,rfl,rfl⟩|⟨i,t,rfl,rfl⟩|⟨rfl,rfl⟩
  ·exact aW.tuple_int i t r j prog w E Q h
  ·exact aW.tuple_str i t r j prog w E Q h
  ·exact aW.tuple_none r j prog w E Q h
 have leaves:∀{A:Around}{E:Zc}{s:Shared}{a b:mr}{u v:Value}{Q:Bool->Shared->Prop},lD s.heap (.k a) u->lD s.heap (.k b) v->Q (decide (TK.k a=TK.k b)) s->wpAny (model prog w) A (eqBool u v) Q E s:=by
  intro A E s a b u v Q hx f h;refine(wQ prog w).eqBool (a:=a) (b:=b) hx f ?_;by_cases e:a=b
  ·subst e;simpa using h
  ·have:¬(TK.k a=TK.k b):=fun z=>e (by injection z);rw[zzr0 this]at h;rw[zzr0 e];exact h
 intro d
 induction d with
 |zero =>
  intro A E s x y u v Q B C j hx f h;cases x with
  |t l=>exact absurd B (by show ¬(TK.depths l+1<=0);omega)
  |k a =>
   cases y with
   |t l=>exact absurd C (by show ¬(TK.depths l+1<=0);omega)
   |k b=>exact leaves hx f h
 |succ d ih =>
  intro A E s x y u v Q B C j hx f h;cases x with
  |k a =>
   cases y with
   |k b=>exact leaves hx f h
   |t l =>
    rw[zzr0 (by intro z;cases z)]at h;exact g (by omega) hx f h
  |t l =>
   cases y with
   |k b =>
    rw[zzr0 (by intro z;cases z)]at h;exact p (by omega) hx f h
   |t m =>
    have hl:TK.depths l<=d:=by have:TK.depths l+1<=d+1:=B;omega
    have hm:TK.depths m<=d:=by have:TK.depths m+1<=d+1:=C;omega
    have N:=hx;have O:=f;obtain⟨a,oa,xs,na,rfl,G,T,U,Y⟩:=hx;obtain⟨b,ob,ys,nb,rfl,H,I,ab,ak⟩:=f;have J:s.TypeIs (.ref a) "tuple":=⟨oa,G,T⟩;have al:s.TypeIs (.ref b) "tuple":=⟨ob,H,I⟩;have an:decide (TK.t l=TK.t m)=decide (l=m):=by
     by_cases e:l=m
     ·subst e;simp
     ·have:¬(TK.t l=TK.t m):=fun z=>e (by injection z);rw[zzr0 this,zzr0 e]
    unfold eqBool
    try with_reducible refine kb ?_
    show wpAny _ _ (if(Value.ref a==Value.ref b)=true then _ else _) Q E s
    by_cases D:(Value.ref a==Value.ref b)=true
    ·rw[if_pos D];have e:a=b:=by have:=eq_of_beq D;injection this
     subst e;have e2:TK.t l=TK.t m:=lD.inj _ (aO _) N O;rw[zzr1 e2]at h;exact aj (pk (aD h))
    ·rw[if_neg D];rw[an]at h;exact aj (wpAny_richCompare_same_room (op:=.Eq) J al F.slot_tuple_eq
      (tW F.slot_tuple_eq J F.entry_tuple_eq (AI d (fun h1 h2 h3 h4 h5 h6=>ih h1 h2 h3 h4 h5 h6) hl hm (by show A.units+1+d<cLine;omega) G U Y H I ab ak ⟨_,rfl,(fun e=>nomatch e),qx h⟩) (F.args_tuple_eq_2 _ _)) (by omega))
theorem BL:∀(d:Nat) {A:Around}{E:Zc}{s:Shared}{k:TK}{v:Value}{Q:Bool->Shared->Prop},k.depth<=d->lD s.heap k v->Q true s->wpAny (model prog w) A (eqIsQuiet d v) Q E s:=by
 intro d
 induction d with
 |zero =>
  intro A E s k v Q j i h;cases k with
  |t l=>exact absurd j (by show ¬(TK.depths l+1<=0);omega)
  |k a=>rw[eqIsQuiet_byValue _ ((wQ prog w).byValue a v i)];exact aD h
 |succ d D =>
  intro A E s k v Q j i h;cases k with
  |k a=>rw[eqIsQuiet_byValue _ ((wQ prog w).byValue a v i)];exact aD h
  |t l =>
   have G:TK.depths l<=d:=by have:TK.depths l+1<=d+1:=j;omega
   obtain⟨a,o,items,n,rfl,y,H,m,hi⟩:=i;have z:s.TypeIs (.ref a) "tuple":=⟨o,y,H⟩;unfold eqIsQuiet;refine aj (C7 z F.slot_tuple_eq.lookup ?_);show wpAny _ _ (vY (.ref a) (.type "tuple") >>= _) _ _ s;refine aj (zB z isSubtype_tuple_tuple ?_);simp only[zA,pj,if_false];refine aj (lG y m ?_);refine aj ?_;show wpAny _ _ (forIn items _ _) _ _ s;rw[<-Array.forIn_toList];refine wpAny_forIn_list _ (fun f r p=>r.1=none/\p=s/\∃left,TAts s.heap left f/\TK.depths left<=d) _ ?_ ?_ _ _ ⟨rfl,rfl,l,hi,G⟩
   ·rintro v f r p ⟨q,rfl,left,g,u⟩;cases left with
    |nil=>have e:v::f=[]:=g;cases e
    |cons B left =>
     obtain⟨L,x,e,I,J⟩:=g;cases e;have C:max B.depth (TK.depths left)<=d:=u;refine aj (D (k:=B) (by omega) I ?_);simp only[zA,pj,if_false];exact aD ⟨rfl,rfl,left,J,by omega⟩
   ·rintro⟨M,N⟩ p ⟨q,rfl,_⟩;simp only at q;subst q;exact aD h
def eo(prog:bg)(w:World):HeapKind prog w TK where
 is:=fun h k a=>lD h k (.ref a)/\k.depth<=8
 hash:=TK.hash w
 draws:=TK.draws
 room:=fun A=>A.units+8<cLine
 inj:=fun hx hy=>lD.inj 8 hx.2 hx.1 hy.1
 keeps:=fun{h h' k a d o es ep} x ho hd hs=>⟨lD.mono (fun b ob items n hb _ hdb=>(hs.2 b fun e=>by
  subst e;rw[ho]at hb;cases hb;rw[hd]at hdb;cases hdb).trans hb) 8 x.2 x.1,x.2⟩
 pyHash:=fun hu hk h=>Dj 8 hk.2 hu hk.1 h
 eqBool:=fun hu hx hy h=>Gi 8 hx.2 hy.2 hu hx.1 hy.1 h
 quiet:=fun hk h=>BL 8 hk.2 hk.1 h
end
end L2
namespace L2
open PySem PySem.Spec PyProof.Rows
inductive V where
 |non|bl (b:Bool)|int (i:Int)|str (x:Str)|byt (b:Array UInt8)|flt (b:UInt64)|ref (a:Addr)|ty (n:String)
 deriving DecidableEq
def RelV:V->Value->Prop
 |.non,u=>u=Value.none
 |.bl b,u=>u=Value.bool b
 |.int i,u=>∃t,u=Value.int i t
 |.str x,u=>∃t,u=Value.str x t
 |.byt b,u=>∃t,u=Value.bytes b t
 |.flt b,u=>∃t,u=Value.float b t
 |.ref a,u=>u=Value.ref a
 |.ty n,u=>u=Value.type n
abbrev aP:List V->List Value->Prop:=Paired RelV
theorem aP.length{xs:List V}{a:Zf}(r:aP xs a):xs.length=a.length:=Paired.length r
theorem aP.get:∀{xs:List V}{a:Zf}{i:Nat}{x:V},aP xs a->xs[i]?=some x->∃u,a[i]?=some u/\RelV x u
 |_,_,_,_,.nil,e=>by simp at e
 |_,_,0,_,.cons r _,e=>by simp at e;subst e;exact⟨_,rfl,r⟩
 |_,_,i+1,x,.cons _ t,e=>by
  obtain⟨u,f,g⟩:=aP.get (i:=i) (x:=x) t (by simpa using e);exact⟨u,by simpa using f,g⟩
theorem aP.set{x:V}{u:Value}(r:RelV x u):∀{xs:List V}{a:Zf}(i:Nat),aP xs a->aP (xs.set i x) (a.set i u)
 |_,_,_,.nil=>.nil
 |_,_,0,.cons _ t=>.cons r t
 |_,_,i+1,.cons q t=>.cons q (aP.set r i t)
theorem aP.append{xs a:List V}{e f:Zf}(h:aP xs e)(s:aP a f):aP (xs++a) (e++f):=by
 induction h with
 |nil=>exact s
 |cons r _ g=>exact .cons r g
theorem aP.take:∀{xs:List V}{a:Zf}(n:Nat),aP xs a->aP (xs.take n) (a.take n)
 |_,_,0,_=>.nil
 |_,_,_+1,.nil=>.nil
 |_,_,n+1,.cons r t=>.cons r (aP.take n t)
theorem aP.drop:∀{xs:List V}{a:Zf}(n:Nat),aP xs a->aP (xs.drop n) (a.drop n)
 |_,_,0,r=>r
 |_,_,_+1,.nil=>.nil
 |_,_,n+1,.cons _ t=>aP.drop n t
def iE:Option V->Option Value->Prop
 |some v,some u=>RelV v u
 |none,none=>True
 |_,_=>False
def KV{κ:Type}:List (κ×V)->List (κ×Value)->Prop:=Paired fun(p:κ×V) (q:κ×Value)=>p.1=q.1/\RelV p.2 q.2
def kV:dX->V
 |.inl i=>.int i
 |.inr x=>.str x
def EF:mr->V
 |none=>.non
 |some k=>kV k
inductive HO where
 |lst (xs:List V)
 |tup (xs:List V)
 |dK (kvs:List (dX×V))|dT (kvs:List (TK×V))
 |set (S:Int->Bool) (n:Nat)
 |ins (C dx:Addr) (fs:List (Str×V))
 |own (x:Addr)
 |xd (fs:List (Str×V))
 |met (f x:Addr)
 |rng (lo hi:Int)
 |frz (o:Obj) (u:HO)
 |tbl (ps:Array Value)
 |ext (φ:Heap->Prop)
abbrev Hp:=Addr->Option HO
mutual
def iD(H:Hp):TK->V->Prop
 |.k a,v=>v=EF a
 |.t l,v=>∃b xs,v=.ref b/\H b=some (.tup xs)/\TKAts H l xs
def TKAts(H:Hp):List TK->List V->Prop
 |[],vs=>vs=[]
 |k::r,vs=>∃v us,vs=v::us/\iD H k v/\TKAts H r us
end
def Eg(K:Za)(H:Hp)(a:Addr)(xs:List V):Prop :=
 H a=some (.tup xs)∨∃(o:Obj) (its:Array Value) (n:Nat),K.lookup a=some o/\o.cls=.type "tuple"/\o.data=.seq its n/\its.size<=am/\aP xs its.toList
theorem Eg.keeps{K:Za}{H e:Hp}{a:Addr}{xs:List V}(h:Eg K H a xs)(f:∀b xs,H b=some (.tup xs)->e b=some (.tup xs)):Eg K e a xs:=h.imp (f a xs) id
mutual
def sO(K:Za)(H:Hp):TK->V->Prop
 |.k a,v=>v=EF a
 |.t l,v=>∃b xs,v=.ref b/\Eg K H b xs/\TKCs K H l xs
def TKCs(K:Za)(H:Hp):List TK->List V->Prop
 |[],vs=>vs=[]
 |k::r,vs=>∃v us,vs=v::us/\sO K H k v/\TKCs K H r us
end
theorem sO.keeps{K:Za}{H f:Hp}(p:∀b xs,H b=some (.tup xs)->f b=some (.tup xs)):∀(d:Nat) {k:TK}{v:V},k.depth<=d->sO K H k v->sO K f k v:=by
 have i:∀(d:Nat) (g:∀{k:TK}{v:V},k.depth<=d->sO K H k v->sO K f k v) (xs:List TK) (h:List V),TK.depths xs<=d->TKCs K H xs h->TKCs K f xs h:=by
  intro d g xs
  induction xs with
  |nil=>intro h _ hx;exact hx
  |cons x xs j =>
   intro h e hx;obtain⟨v,o,rfl,m,n⟩:=hx;have q:max x.depth (TK.depths xs)<=d:=e;exact⟨v,o,rfl,g (by omega) m,j o (by omega) n⟩
 intro d
 induction d with
 |zero =>
  intro k v e hx;cases k with
  |t l=>exact absurd e (by show ¬(TK.depths l+1<=0);omega)
  |k a=>exact hx
 |succ d g =>
  intro k v e hx;cases k with
  |k a=>exact hx
  |t l =>
   obtain⟨b,xs,rfl,r,hi⟩:=hx;exact⟨b,xs,rfl,r.keeps p,i d (fun s=>g s) l xs (by have:TK.depths l+1<=d+1:=e;omega) hi⟩
theorem iD.c{K:Za}{H:Hp}:∀(d:Nat) {k:TK}{v:V},k.depth<=d->iD H k v->sO K H k v:=by
 have h:∀(d:Nat) (f:∀{k:TK}{v:V},k.depth<=d->iD H k v->sO K H k v) (xs:List TK) (g:List V),TK.depths xs<=d->TKAts H xs g->TKCs K H xs g:=by
  intro d f xs
  induction xs with
  |nil=>intro g _ hx;exact hx
  |cons x xs i =>
   intro g e hx;obtain⟨v,n,rfl,j,m⟩:=hx;have o:max x.depth (TK.depths xs)<=d:=e;exact⟨v,n,rfl,f (by omega) j,i n (by omega) m⟩
 intro d
 induction d with
 |zero =>
  intro k v e hx;cases k with
  |t l=>exact absurd e (by show ¬(TK.depths l+1<=0);omega)
  |k a=>exact hx
 |succ d f =>
  intro k v e hx;cases k with
  |k a=>exact hx
  |t l =>
   obtain⟨b,xs,rfl,p,hi⟩:=hx;exact⟨b,xs,rfl,.inl p,h d (fun q=>f q) l xs (by have:TK.depths l+1<=d+1:=e;omega) hi⟩
def upd(H:Hp)(a:Addr)(o:HO):Hp:=fun b=>if b=a then some o else H b
theorem aa{H:Hp}{a:Addr}{o:HO}:upd H a o a=some o:=by unfold upd;rw[if_pos rfl]
theorem ai{H:Hp}{a b:Addr}{o:HO}(h:b≠a):upd H a o b=H b:=by unfold upd;rw[if_neg h]
theorem mI{H:Hp}{a:Addr}{o u:HO}:upd (upd H a o) a u=upd H a u:=by
 funext b;unfold upd;split<;>rfl
theorem EB{H:Hp}{a b:Addr}{o u:HO}(h:H a=some o)(f:H b=some u)(d:o≠u):a≠b:=by
 intro e;subst e;rw[h]at f;exact d (dE f)
theorem ah{H:Hp}{a b:Addr}{o:HO}(h:H a=some o)(f:H b=none):a≠b:=by
 intro e;subst e;rw[h]at f;cases f
section
variable(P:bg)(w:World)(K:Za)
def b_(H:Hp)(h:Heap)(a:Addr):HO->Prop
 |.lst xs=>xs.length<=am/\∃(its:Zf) (n:Nat),aP xs its/\h.get? a=some { cls:=.type "list",data:=.seq its.toArray n }
 |.tup xs=>xs.length<=am/\∃its:List Value,aP xs its/\IsTup h a its.toArray
 |.dK kvs=>kvs.length<=am/\(a==h9)=false/\∃vs,KV kvs vs/\h.DictOf (bU P w) a vs
 |.dT kvs=>kvs.length<=am/\(a==h9)=false/\∃xs:List (TK×Addr×Value),
   Paired (fun(p:TK×V) (q:TK×Addr×Value)=>p.1=q.1/\sO K H p.1 (.ref q.2.1)/\p.1.depth<=8/\RelV p.2 q.2.2) kvs xs /\
   ∃o es ep,h.get? a=some o/\o.ExactDict/\o.data=.dict es ep/\es.toList=xs.map (entryOfKey (eo P w))/\(xs.map (·.1)).Nodup
 |.set S n=>h.SetOf (intKind P w) a S n
 |.ins C dx fs=>H dx=some (.own a)/\fs.length<=1000/\dx≠a/\h.get? a=some (pi C dx) /\
   ∃mA,h.Ns1 dx mA/\(∀f,iE (fs.lookup f) (mA f))/\vX mA (fs.map (·.1))
 |.own _=>∃o,h.get? a=some o
 |.xd fs=>∃mA,h.Ns1 a mA/\∀f,iE (fs.lookup f) (mA f)
 |.rng lo hi=>∃t u v,h.get? a=some { cls:=.type "range",data:=.fields #[.int lo t,.int hi u,.int 1 v] }
 |.frz o u=>h.get? a=some o/\b_ H h a u
 |.tbl ps=>h.get? a=some { cls:=.none,data:=.fields ps }
 |.met f x=>h.get? a=some (PySem.W.methodObj (.ref f) (.ref x))
 |.ext φ=>φ h/\(∃o,h.get? a=some o)/\∀h1 h2:Heap,φ h1->(∀o,h1.get? a=some o->h2.get? a=some o)->φ h2
def j3(H:Hp)(h:Heap):Prop:=∀a o,H a=some o->b_ P w K H h a o
end
section
variable{P:bg}{w:World}{K:Za}{H H':Hp}{h h':Heap}{a:Addr}{o:HO}
theorem b_.lt(x:b_ P w K H h a o):a<h.objs.size:=by
 cases o with
 |lst xs=>obtain⟨_,_,_,_,e⟩:=x;exact aE e
 |tup xs=>obtain⟨_,_,_,p⟩:=x;exact p.lt
 |dK g=>obtain⟨_,_,_,_,o,_,_,e,_⟩:=x;exact aE e
 |dT g=>obtain⟨_,_,_,_,o,_,_,e,_⟩:=x;exact aE e
 |set S n=>obtain⟨o,_,_,_,e,_⟩:=x;exact aE e
 |ins C i fs=>obtain⟨_,_,_,e,_⟩:=x;exact aE e
 |own y=>obtain⟨_,e⟩:=x;exact aE e
 |xd fs=>obtain⟨_,⟨_,_,_,e,_⟩,_⟩:=x;exact aE e
 |rng lo hi=>obtain⟨_,_,_,e⟩:=x;exact aE e
 |frz j u=>obtain⟨e,_⟩:=x;exact aE e
 |tbl k=>exact aE (show h.get? a=some _ from x)
 |met f y=>exact aE (show h.get? a=some _ from x)
 |ext φ=>obtain⟨_,⟨_,e⟩,_⟩:=x;exact aE e
theorem Paired.mapP{α β:Type}{F G:α->β->Prop}{e:List α}{g:List β}(h:Paired F e g)(f:∀a b,F a b->G a b):Paired G e g:=by
 induction h with
 |nil=>exact .nil
 |cons r _ i=>exact .cons (f _ _ r) i
theorem b_.stay(x:b_ P w K H h a o)(k:∀b u,(b=a∨H b=some (.own a))->h.get? b=some u->h'.get? b=some u)
  (E:∀b,H b=some (.own a)->H' b=some (.own a)) (G:∀b xs,H b=some (.tup xs)->H' b=some (.tup xs)):b_ P w K H' h' a o:=by
 induction o with
 |lst xs=>obtain⟨z,l,n,r,e⟩:=x;exact⟨z,l,n,r,k _ _ (.inl rfl) e⟩
 |tup xs=>obtain⟨z,l,r,g,e,c⟩:=x;exact⟨z,l,r,g,k _ _ (.inl rfl) e,c⟩
 |dK m=>obtain⟨z,y,I,r,g,i,j,e,c⟩:=x;exact⟨z,y,I,r,g,i,j,k _ _ (.inl rfl) e,c⟩
 |dT m =>
  obtain⟨z,y,xs,r,g,i,j,e,c⟩:=x;exact⟨z,y,xs,Paired.mapP r fun p q z=>⟨z.1,sO.keeps G 8 z.2.2.1 z.2.1,z.2.2⟩,g,i,j,k _ _ (.inl rfl) e,c⟩
 |set S n=>obtain⟨g,i,j,t,e,c⟩:=x;exact⟨g,i,j,t,k _ _ (.inl rfl) e,c⟩
 |ins C M fs =>
  obtain⟨d,z,ne,e,s,⟨B,i,j,J,c⟩,r⟩:=x;exact⟨E _ d,z,ne,k _ _ (.inl rfl) e,s,⟨B,i,j,k _ _ (.inr d) J,c⟩,r⟩
 |own y=>obtain⟨g,e⟩:=x;exact⟨g,k _ _ (.inl rfl) e⟩
 |xd fs=>obtain⟨s,⟨B,i,j,e,c⟩,r⟩:=x;exact⟨s,⟨B,i,j,k _ _ (.inl rfl) e,c⟩,r⟩
 |rng lo hi=>obtain⟨t,u,v,e⟩:=x;exact⟨t,u,v,k _ _ (.inl rfl) e⟩
 |frz g u L=>obtain⟨e,q⟩:=x;exact⟨k _ _ (.inl rfl) e,L q⟩
 |tbl D =>
  have e:h.get? a=some { cls:=.none,data:=.fields D }:=x;show h'.get? a=some { cls:=.none,data:=.fields D };exact k a _ (.inl rfl) e
 |met f y =>
  have e:h.get? a=some (PySem.W.methodObj (.ref f) (.ref y)):=x;show h'.get? a=some (PySem.W.methodObj (.ref f) (.ref y));exact k a _ (.inl rfl) e
 |ext φ=>obtain⟨p,⟨o,e⟩,st⟩:=x;exact⟨st _ _ p fun o q=>k _ _ (.inl rfl) q,⟨o,k _ _ (.inl rfl) e⟩,st⟩
theorem j3.lt(x:j3 P w K H h)(e:H a=some o):a<h.objs.size:=(x a o e).lt
theorem j3.fresh(x:j3 P w K H h)(e:h.objs.size<=a):H a=none:=by
 cases q:H a with
 |none=>rfl
 |some u=>exact absurd (e_ (x.lt q) e) (ph _)
theorem j3.kept(x:j3 P w K H h)(k:∀b u,h.get? b=some u->h'.get? b=some u):j3 P w K H h':=fun a o e =>
 (x a o e).stay (fun b u _ q=>k b u q) (fun _ q=>q) fun _ _ q=>q
theorem j3.laid(x:j3 P w K H h)(k:∀b u,h.get? b=some u->h'.get? b=some u)(i:h.objs.size<=a)(new:b_ P w K (upd H a o) h' a o):j3 P w K (upd H a o) h':=fun b u e=>by
 have f:=x.fresh i;by_cases g:b=a
 ·subst g;rw[aa]at e;cases e;exact new
 ·rw[ai g]at e;exact(x b u e).stay (fun c v _ q=>k c v q) (fun c q=>by rw[ai (ah q f)];exact q) fun c xs q=>by rw[ai (ah q f)];exact q
end
def Rd(H:Hp)(a:Addr)(u:HO):Prop:=H a=some u∨∃o,H a=some (.frz o u)
theorem Rd.ok{P:bg}{w:World}{K:Za}{H:Hp}{h:Heap}{a:Addr}{u:HO}(r:Rd H a u)(x:j3 P w K H h):b_ P w K H h a u:=by
 rcases r with r|⟨o,r⟩
 ·exact x a u r
 ·obtain⟨_,q⟩:=x a _ r;exact q
def GN:Option HO->Prop
 |some (.lst _)=>True
 |some (.dK _)=>True
 |some (.dT _)=>True
 |some (.set _ _)=>True
 |some (.ins _ _ _)=>True
 |some (.ext _)=>True
 |_=>False
section
variable{P:bg}{w:World}{K:Za}{H:Hp}{h h':Heap}{x e:Addr}{o':HO}
theorem j3.write(ok:j3 P w K H h)(i:GN (H x))(m:e=x∨H e=some (.own x))(k:∀b u,b≠e->h.get? b=some u->h'.get? b=some u)(l:∃u,h'.get? e=some u)
  (new:b_ P w K (upd H x o') h' x o'):j3 P w K (upd H x o') h':=fun b u q=>by
 have f:∀c y,H c=some (.own y)->c≠x:=fun c y r z=>by subst z;rw[r]at i;exact i
 have g:∀c xs,H c=some (.tup xs)->c≠x:=fun c xs r z=>by subst z;rw[r]at i;exact i
 by_cases j:b=x
 ·subst j;rw[aa]at q;cases q;exact new
 ·rw[ai j]at q;by_cases a:b=e
  ·have n:H b=some (.own x):=by
    rcases m with z|z
    ·exact absurd (a.trans z) j
    ·rw[a];exact z
   rw[q]at n;cases n;obtain⟨v,o⟩:=l;exact⟨v,by rw[a];exact o⟩
  ·refine(ok b u q).stay (fun c v hc r=>k c v ?_ r) (fun c r=>by rw[ai (f c b r)];exact r) fun c xs r=>by rw[ai (g c xs r)];exact r
   rcases hc with rfl|hc
   ·exact a
   ·rintro rfl;rcases m with z|z
    ·exact f c b hc z
    ·rw[hc]at z;cases z;exact j rfl
end
structure Un(fs ex:Ze)(H H':Hp)(h h':Heap):Prop where
 keep:∀b o,h.get? b=some o->H b=none->b∉fs->b∉ex->h'.get? b=some o
 slot:∀b o,h.get? b=some o->H b=none->b∈fs->b∉ex->∃sl,h'.get? b=some { o with slots:=sl }
 free:∀b o,h.get? b=some o->H b=none->b∉ex->H' b=none
 there:∀b o,h.get? b=some o->b∉ex->∃o',h'.get? b=some o'
 tups:∀b xs,H b=some (.tup xs)->H' b=some (.tup xs)
 tupk:∀b xs o,H b=some (.tup xs)->h.get? b=some o->h'.get? b=some o
 frzs:∀b o u,H b=some (.frz o u)->H' b=some (.frz o u)
 tbls:∀b ps,H b=some (.tbl ps)->∃more,H' b=some (.tbl (ps++more))
section
variable{fs fs' ex ex':Ze}{H H1 H2:Hp}{h h1 h2 h':Heap}{a x e:Addr}{o:HO}
theorem Un.any(u:Un fs ex H H1 h h1){b:Addr}{f:Obj}(q:h.get? b=some f)(n:H b=none)(hx:b∉ex):∃i,h1.get? b=some { f with slots:=i }:=by
 by_cases g:b∈fs
 ·exact u.slot b f q n g hx
 ·exact⟨f.slots,u.keep b f q n g hx⟩
theorem Un.kept(k:∀b u,h.get? b=some u->h'.get? b=some u):Un fs ex H H h h' :=
 ⟨fun b f q _ _ _=>k b f q,fun b f q _ _ _=>⟨f.slots,k b f q⟩,fun _ _ _ n _=>n,fun b f q _=>⟨f,k b f q⟩,fun _ _ q=>q,fun b _ o _ q=>k b o q,fun _ _ _ q=>q,fun _ g q=>⟨#[],by rw[q];simp⟩⟩
theorem Un.refl:Un fs ex H H h h:=Un.kept fun _ _ q=>q
theorem Un.laid(k:∀b u,h.get? b=some u->h'.get? b=some u)(g:h.objs.size<=a)(f:H a=none):Un fs ex H (upd H a o) h h' where
 keep:=fun b u q _ _ _=>k b u q
 slot:=fun b u q _ _ _=>⟨u.slots,k b u q⟩
 free:=fun b u q n _=>by rw[ai (bO (e_ (aE q) g))];exact n
 there:=fun b u q _=>⟨u,k b u q⟩
 tups:=fun b xs q=>by rw[ai (ah q f)];exact q
 tupk:=fun b _ o _ q=>k b o q
 frzs:=fun b u xs q=>by rw[ai (ah q f)];exact q
 tbls:=fun b i q=>⟨#[],by rw[ai (ah q f),q];simp⟩
theorem Un.write(g:GN (H x))(l:e=x∨H e=some (.own x))(k:∀b u,b≠e->h.get? b=some u->h'.get? b=some u)(j:∃u,h'.get? e=some u):Un fs ex H (upd H x o) h h':=by
 have hx:∀b,H b=none->b≠x:=fun b n z=>by subst z;rw[n]at g;exact g
 have m:∀b,H b=none->b≠e:=fun b n z=>by
  subst z;rcases l with r|r
  ·exact hx b n r
  ·rw[n]at r;cases r
 have i:∀b u,H b=some u->¬GN (some u)->b≠x:=fun b u q p z=>by subst z;rw[q]at g;exact p g
 refine⟨fun b u q n _ _=>k b u (m b n) q,fun b u q n _ _=>⟨u.slots,k b u (m b n) q⟩,fun b u q n _=>by rw[ai (hx b n)];exact n,fun b u q _=>?_,
  fun b xs q=>by rw[ai (i b _ q fun z=>z)];exact q,fun b xs u q z=>k b u (fun y=>by
   subst y;rcases l with r|r
   ·exact i b _ q (fun z=>z) r
   ·rw[q]at r;cases r) z,fun b u xs q=>by rw[ai (i b _ q fun z=>z)];exact q,fun b s q=>⟨#[],by rw[ai (i b _ q fun z=>z),q];simp⟩⟩
 by_cases f:b=e
 ·subst f;exact j
 ·exact⟨u,k b u f q⟩
end
def trk(h:Heap)(H:Hp):List Addr:=(j8 h.objs.size).filter fun a=>(H a).isSome
def vn(h:Heap)(H:Hp):Heap:=PySem.W.hideAll h (trk h H)
theorem Bb(h:Heap)(H:Hp):(vn h H).objs.size=h.objs.size:=PySem.W.hideAll_size _ _
theorem CF{h:Heap}{H:Hp}{b:Addr}{o:Obj}(e:h.get? b=some o)(n:H b=none):(vn h H).get? b=some o :=
 PySem.W.hideAll_get _ e fun a=>by
  have q:(H b).isSome=true:=(eZ.mp a).2;rw[n]at q;simp at q
theorem DP{h:Heap}{H:Hp}{b:Addr}{o:Obj}(e:(vn h H).get? b=some o):h.get? b=some o/\H b=none:=by
 have a:h.get? b=some o:=PySem.W.of_hideAll (trk h H) e;refine⟨a,?_⟩;cases q:H b with
 |none=>rfl
 |some x =>
  have f:b∈trk h H:=eZ.mpr ⟨List.mem_range.mpr (aE a),by simp[q]⟩;have z:(vn h H).get? b=none:=PySem.W.hideAll_none (trk h H) f;rw[z]at e;cases e
end L2
namespace L2
open PySem PySem.Spec PyProof.Rows
structure Mod(K:Za)(mg:Str->Option Value)(base:Heap):Prop where
 kin:K.In base
 glob:base.Ns bq mg
 blt:∃mb,base.Ns builtinsNs mb/\∀x:Str,x≠"__name__"->mb x=iQ x
 nolimit:base.NoLimit
structure Cx where
 prog:bg
 w:World
 K:Za
 mg:Str->Option Value
 base:Heap
 A:Around
 N:List Str
 s₀:Shared
 H₀:Hp
 env:Env
 outer:List Env
 stack:List Env
 ex:List Addr
 fn:Str->Bool
 calm:Bool
 pn:List (Addr×Obj)
 xe:Value->Shared->Prop
def lJ(l:List Env):List Addr:=l.filterMap (·.frame)
abbrev Cx.fs(X:Cx):List Addr:=lJ X.outer
def Vis(sc:Scope)(x:Str):Prop:=sc.names.lookup x=some .local∨sc.names.lookup x=some .cell∨sc.names.lookup x=some .free
def Loc(sc:Scope)(x:Str):Prop:=sc.names.lookup x=some .local∨sc.names.lookup x=some .cell
def Look(env:Env)(h:Heap)(m:Str->Option Value)(x:Str)(u:Value):Prop :=
 (env.kindOf x=some .local/\m x=some u)∨((env.kindOf x=some .cell∨env.kindOf x=some .free)/\∃c,env.cells.lookup x=some c/\h.IsCell c (some u))
structure Cx.Ok(X:Cx):Prop where
 mod:Mod X.K X.mg X.base
 kind:X.env.scope.kind=.function
 glob:X.env.globals=bq
 blt:X.env.builtins=builtinsNs
 above:X.s₀.heap.objs.size<=X.env.locals
 inj:∀x y c,X.env.cells.lookup x=some c->X.env.cells.lookup y=some c->x=y
 has:∀x,(X.env.kindOf x=some .cell∨X.env.kindOf x=some .free)->∃c,X.env.cells.lookup x=some c
 cab:∀x c,X.fn x=true->X.env.cells.lookup x=some c->X.s₀.heap.objs.size<=c
 hd:X.calm=true->X.A.handled=none
 frames:X.A.frames=some X.stack
 stk:X.stack=X.outer∨(X.stack=X.env::X.outer/\X.env.frame=some X.env.locals)
 exf:∀b∈X.ex,b≠X.env.locals/\∀x c,X.env.cells.lookup x=some c->c≠b
 bs:∀b o,X.base.get? b=some o->X.s₀.heap.get? b=some o/\(X.H₀ b=none∨∃xs,X.H₀ b=some (.tup xs))
 bsz:X.base.objs.size<=X.s₀.heap.objs.size
 noex:∀b o,X.base.get? b=some o->b∉X.ex
 exfs:∀b∈X.ex,b∉X.fs
 funs:X.s₀.heap.FunFrames X.base X.outer
 frf:∀b∈X.fs,X.H₀ b=none
structure Inv(X:Cx)(J3:Zd)(σ:List (Option V))(H:Hp)(s:Shared):Prop where
 ok:X.Ok
 os:s.os=X.s₀.os
 bare:lF s.gens
 base:Un X.fs X.ex X.H₀ H X.s₀.heap s.heap
 loc:∃m,s.heap.Ns X.env.locals m/\∀(i:Nat) (x:Str) (v:V),X.N[i]?=some x->σ[i]?=some (some v)->Vis X.env.scope x->∃u,RelV v u/\Look X.env s.heap m x u
 cell:∀x c,X.env.cells.lookup x=some c->∃v,s.heap.IsCell c v
 free:H X.env.locals=none
 freeC:∀x c,X.env.cells.lookup x=some c->H c=none
 pin:∀p∈X.pn++J3,s.heap.get? p.1=some p.2/\H p.1=none/\p.1≠X.env.locals/\p.1∉X.fs/\∀v,p.2.data≠.cell v
 hok:j3 X.prog X.w X.K H s.heap
 len:σ.length=X.N.length
section
variable{X:Cx}{J3:Zd}{σ:List (Option V)}{H H':Hp}{s:Shared}{h':Heap}
theorem Cx.Ok.nofr(ok:X.Ok){b:Addr}{o:Obj}(e:X.base.get? b=some o):b∉X.fs:=fun a=>by
 have:=(ok.funs.mem a).1;rw[e]at this;cases this
theorem Inv.bs(I:Inv X J3 σ H s):∀b o,X.base.get? b=some o->s.heap.get? b=some o/\(H b=none∨∃xs,H b=some (.tup xs)):=fun b o e=>by
 obtain⟨f,a|⟨xs,a⟩⟩:=I.ok.bs b o e
 ·exact⟨I.base.keep b o f a (I.ok.nofr e) (I.ok.noex b o e),.inl (I.base.free b o f a (I.ok.noex b o e))⟩
 ·exact⟨I.base.tupk b xs o a f,.inr ⟨xs,I.base.tups b xs a⟩⟩
theorem Inv.bk(I:Inv X J3 σ H s):∀b o,X.base.get? b=some o->s.heap.get? b=some o:=fun b o e=>(I.bs b o e).1
theorem Inv.mod(I:Inv X J3 σ H s):Mod X.K X.mg X.base:=I.ok.mod
theorem Inv.kIn(I:Inv X J3 σ H s):X.K.In s.heap:=I.ok.mod.kin.keeps I.bk
theorem Inv.lt(I:Inv X J3 σ H s):X.env.locals<s.heap.objs.size:=let⟨_,a,_⟩:=I.loc;a.lt
theorem Inv.sz(I:Inv X J3 σ H s):X.s₀.heap.objs.size<=s.heap.objs.size:=bp I.ok.above (eX I.lt)
theorem Inv.nofs(I:Inv X J3 σ H s){a:Addr}(h:s.heap.objs.size<=a):a∉X.fs:=fun e=>by
 obtain⟨_,o,f,_⟩:=I.ok.funs.mem e;exact absurd (e_ (aE f) (bp I.sz h)) (ph _)
theorem Inv.cne(I:Inv X J3 σ H s):∀x c,X.env.cells.lookup x=some c->c≠X.env.locals:=fun x c e z=>by
 obtain⟨v,o,g,h⟩:=I.cell x c e;obtain⟨m,⟨i,j,k,a,f,_⟩,_⟩:=I.loc;rw[z,a]at g;cases g;rw[f]at h;cases h
theorem Inv.funs(I:Inv X J3 σ H s):s.heap.FunFrames X.base X.outer:=by
 have all:∀(l:List Env),(∀b∈lJ l,b∈X.fs)->X.s₀.heap.FunFrames X.base l->s.heap.FunFrames X.base l:=by
  intro l
  induction l with
  |nil=>intro _ _;trivial
  |cons h r i =>
   intro g j;obtain⟨k,⟨L,o,hf,m,n,p⟩,q⟩:=j;have a:L∈X.fs:=g L (by unfold lJ;rw[jY,hf];exact eQ);obtain⟨t,e⟩:=I.base.slot L o n (I.ok.frf L a) a fun z=>I.ok.exfs L z a;exact⟨k,⟨L,_,hf,m,e,p⟩,i (fun b f=>g b (by unfold lJ;rw[jY,hf];exact dD _ f)) q⟩
 exact all X.outer (fun _ f=>f) I.ok.funs
theorem Inv.stack(I:Inv X J3 σ H s):s.heap.FunFrames X.base X.stack:=by
 rcases I.ok.stk with e|⟨e,hf⟩
 ·rw[e];exact I.funs
 ·rw[e];obtain⟨m,a,_⟩:=I.loc;refine .cons (by rw[I.ok.kind];decide) hf a ?_ I.funs;exact Heap.get?_none_of_le (bp I.ok.bsz I.ok.above)
theorem Inv.stkSub(I:Inv X J3 σ H s):∀b∈lJ X.stack,b∈X.env.locals::X.fs:=fun b a=>by
 rcases I.ok.stk with e|⟨e,hf⟩
 ·rw[e]at a;exact dD _ a
 ·rw[e]at a;unfold lJ at a;rw[jY,hf]at a;exact a
theorem Inv.stkFree(I:Inv X J3 σ H s):∀b∈lJ X.stack,H b=none:=fun b hb=>by
 rcases bY.mp (I.stkSub b hb)with e|hb
 ·rw[e];exact I.free
 ·obtain⟨_,o,a,_⟩:=I.ok.funs.mem hb;exact I.base.free b o a (I.ok.frf b hb) fun z=>I.ok.exfs b z hb
theorem Inv.step{g':Array GenState}{t':Nat}{d':Drawn}{ch:Ze}(I:Inv X J3 σ H s)
  (a:∀b∈ch,(b∈X.ex∨X.s₀.heap.objs.size<=b)/\b≠X.env.locals/\(∀x c,X.env.cells.lookup x=some c->c≠b)/\∀p∈X.pn++J3,p.1≠b)
  (f:∀b o,b≠X.env.locals->b∉X.fs->b∉ch->s.heap.get? b=some o->H b=none->h'.get? b=some o)
  (t:∀b o,b≠X.env.locals->b∈X.fs->b∉ch->s.heap.get? b=some o->H b=none->∃Q,h'.get? b=some { o with slots:=Q }) (free:∀b o,b∉ch->s.heap.get? b=some o->H b=none->H' b=none)
  (there:∀b o,b∉ch->s.heap.get? b=some o->∃C,h'.get? b=some C)
  (D:∀b xs,H b=some (.tup xs)->H' b=some (.tup xs)) (E:∀b xs o,H b=some (.tup xs)->s.heap.get? b=some o->h'.get? b=some o) (G:∀b o u,H b=some (.frz o u)->H' b=some (.frz o u)) (J:∀b O,H b=some (.tbl O)->∃L,H' b=some (.tbl (O++L)))
  (ns:∀m,s.heap.Ns X.env.locals m->h'.Ns X.env.locals m) (T:j3 X.prog X.w X.K H' h') (hg:lF g') :
  Inv X J3 σ H' { s with heap:=h',gens:=g',drawn:=d',toks:=t' }:=by
 have M:∀b o,X.s₀.heap.get? b=some o->b≠X.env.locals:=fun b o e=>bO (e_ (aE e) I.ok.above);have h:∀b o,X.s₀.heap.get? b=some o->b∉X.ex->b∉ch:=fun b o e hx y=>by
  rcases(a b y).1 with z|z
  ·exact hx z
  ·exact absurd (e_ (aE e) z) (ph _)
 have cellK:∀x c,X.env.cells.lookup x=some c->∀v,s.heap.IsCell c v->h'.IsCell c v:=fun x c e v ⟨o,B,U⟩=>by
  have g:c∉ch:=fun z=>(a c z).2.2.1 x c e rfl;by_cases hc:c∈X.fs
  ·obtain⟨Q,q⟩:=t c o (I.cne x c e) hc g B (I.freeC x c e);exact⟨_,q,U⟩
  ·exact⟨o,f c o (I.cne x c e) hc g B (I.freeC x c e),U⟩
 refine⟨I.ok,I.os,hg,⟨fun b o e n y hx=>?_,fun b o e n y hx=>?_,fun b o e n hx=>?_,fun b o e hx=>?_,fun b xs e=>D b xs (I.base.tups b xs e),fun b xs o e z=>E b xs o (I.base.tups b xs e) (I.base.tupk b xs o e z),fun b o xs e=>G b o xs (I.base.frzs b o xs e),fun b O e=>?_⟩,?_,fun x c e=>?_,?_,fun x c e=>?_,fun p hp=>?_,T,I.len⟩
 ·exact f b o (M b o e) y (h b o e hx) (I.base.keep b o e n y hx) (I.base.free b o e n hx)
 ·obtain⟨Q,j⟩:=I.base.slot b o e n y hx;obtain⟨Y,N⟩:=t b _ (M b o e) y (h b o e hx) j (I.base.free b o e n hx);exact⟨Y,N⟩
 ·obtain⟨C,j⟩:=I.base.there b o e hx;exact free b C (h b o e hx) j (I.base.free b o e n hx)
 ·obtain⟨C,j⟩:=I.base.there b o e hx;exact there b C (h b o e hx) j
 ·obtain⟨m1,j⟩:=I.base.tbls b O e;obtain⟨m2,N⟩:=J b _ j;exact⟨m1++m2,by rw[N,Array.append_assoc]⟩
 ·obtain⟨m,hn,hl⟩:=I.loc;refine⟨m,ns m hn,fun i x v j N e3=>?_⟩;obtain⟨u,r,l⟩:=hl i x v j N e3;refine⟨u,r,?_⟩;rcases l with l|⟨k,c,e,z⟩
  ·exact .inl l
  ·exact .inr ⟨k,c,e,cellK x c e _ z⟩
 ·obtain⟨v,z⟩:=I.cell x c e;exact⟨v,cellK x c e v z⟩
 ·obtain⟨m,⟨o,_,_,B,_⟩,_⟩:=I.loc;exact free _ o (fun z=>(a _ z).2.1 rfl) B I.free
 ·obtain⟨v,o,B,U⟩:=I.cell x c e;exact free c o (fun z=>(a c z).2.2.1 x c e rfl) B (I.freeC x c e)
 ·obtain⟨e,n,ne,nf,d⟩:=I.pin p hp;have g:p.1∉ch:=fun z=>(a p.1 z).2.2.2 p hp rfl;exact⟨f p.1 p.2 ne nf g e n,free p.1 p.2 g e n,ne,nf,d⟩
theorem Inv.un{t':Nat}(I:Inv X J3 σ H s)(u:Un X.fs [] H H' s.heap h')(f:j3 X.prog X.w X.K H' h'):Inv X J3 σ H' { s with heap:=h',toks:=t' }:=by
 obtain⟨m,⟨o,q,t,j,r⟩,_⟩:=id I.loc;obtain⟨v,k⟩:=u.any j I.free (by simp);exact I.step (g':=s.gens) (d':=s.drawn) (ch:=[]) (fun _ z=>nomatch z) (fun b o _ g _ e n=>u.keep b o e n g (by simp)) (fun b o _ g _ e n=>u.slot b o e n g (by simp)) (fun b o _ e n=>u.free b o e n (by simp)) (fun b o _ e=>u.there b o e (by simp)) u.tups u.tupk u.frzs u.tbls (fun x l=>by
  obtain⟨y,h,i,a,p⟩:=l;rw[j]at a;cases a;exact⟨_,h,i,k,p⟩) f I.bare
theorem Inv.call{g':Array GenState}{t':Nat}{d':Drawn}{ch:Ze}(I:Inv X J3 σ H s)(u:Un (lJ X.stack) ch H H' s.heap h')(h:j3 X.prog X.w X.K H' h')(q:lF g')
  (f:∀b∈ch,(b∈X.ex∨X.s₀.heap.objs.size<=b)/\b≠X.env.locals/\(∀x c,X.env.cells.lookup x=some c->c≠b)/\∀p∈X.pn++J3,p.1≠b) :
  Inv X J3 σ H' { s with heap:=h',gens:=g',drawn:=d',toks:=t' }:=by
 obtain⟨m,⟨o,B,C,l,r⟩,_⟩:=id I.loc;obtain⟨D,i⟩:=u.any l I.free fun z=>(f _ z).2.1 rfl;exact I.step (ch:=ch) f (fun b o i t a e n=>u.keep b o e n (fun z=>(bY.mp (I.stkSub b z)).elim i t) a) (fun b o _ _ a e n=>u.any e n a) (fun b o a e n=>u.free b o e n a) (fun b o a e=>u.there b o e a) u.tups u.tupk u.frzs u.tbls (fun E v=>by
  obtain⟨G,j,k,g,y⟩:=v;rw[l]at g;cases g;exact⟨_,j,k,i,y⟩) h q
theorem Inv.turned{t':Nat}{it:Addr}(I:Inv X J3 σ H s)(k:∀b o,b≠it->s.heap.get? b=some o->h'.get? b=some o)(h:H it=none)(g:it≠X.env.locals)
  (i:it∈X.ex∨X.s₀.heap.objs.size<=it) (j:∀x c,X.env.cells.lookup x=some c->c≠it) (l:∀p∈X.pn++J3,p.1≠it):Inv X J3 σ H { s with heap:=h',toks:=t' }:=by
 have a:∀b u,H b=some u->b≠it:=fun b u e z=>by rw[z,h]at e;cases e
 refine I.step (g':=s.gens) (d':=s.drawn) (ch:=[it]) (fun b t=>?_) (fun b o _ _ f e _=>k b o (fun z=>f (by simp[z])) e) (fun b o _ _ f e _=>⟨o.slots,k b o (fun z=>f (by simp[z])) e⟩) (fun _ _ _ _ n=>n)
  (fun b o f e=>⟨o,k b o (fun z=>f (by simp[z])) e⟩) (fun _ _ e=>e) (fun b xs o e z=>k b o (a b _ e) z) (fun _ _ _ e=>e) (fun b E e=>⟨#[],by rw[e];simp⟩) (fun m y=>?_) (fun b u e=>?_) I.bare
 ·have e:b=it:=by simpa using t
  subst e;exact⟨i,g,j,l⟩
 ·obtain⟨o,B,C,D,r⟩:=y;exact⟨o,B,C,k _ o (cy g) D,r⟩
 ·refine(I.hok b u e).stay (fun c v f q=>k c v ?_ q) (fun _ q=>q) fun _ _ q=>q;rcases f with z|z
  ·rw[z];exact a b u e
  ·exact a c _ z
theorem Inv.tok(I:Inv X J3 σ H s)(t:Nat):Inv X J3 σ H { s with toks:=t }:=I.un (h':=s.heap) (t':=t) Un.refl I.hok
theorem Inv.kept{t':Nat}(I:Inv X J3 σ H s)(k:∀b u,s.heap.get? b=some u->h'.get? b=some u):Inv X J3 σ H { s with heap:=h',toks:=t' }:=I.un (Un.kept k) (I.hok.kept k)
theorem Inv.laid{a:Addr}{o:HO}{t':Nat}(I:Inv X J3 σ H s)(k:∀b u,s.heap.get? b=some u->h'.get? b=some u)(e:s.heap.objs.size<=a)(new:b_ X.prog X.w X.K (upd H a o) h' a o):
  Inv X J3 σ (upd H a o) { s with heap:=h',toks:=t' }:=I.un (Un.laid k e (I.hok.fresh e)) (I.hok.laid k e new)
theorem Inv.write{x e:Addr}{o:HO}{t':Nat}(I:Inv X J3 σ H s)(f:GN (H x))(g:e=x∨H e=some (.own x))(k:∀b u,b≠e->s.heap.get? b=some u->h'.get? b=some u)(a:∃u,h'.get? e=some u)
  (new:b_ X.prog X.w X.K (upd H x o) h' x o):Inv X J3 σ (upd H x o) { s with heap:=h',toks:=t' }:=I.un (Un.write f g k a) (I.hok.write f g k a new)
theorem Inv.weak{σ':List (Option V)}(I:Inv X J3 σ H s)(e:σ'.length=σ.length)(w:∀(i:Nat) v,σ'[i]?=some (some v)->σ[i]?=some (some v)):Inv X J3 σ' H s :=
 ⟨I.ok,I.os,I.bare,I.base,let⟨m,f,a⟩:=I.loc;⟨m,f,fun i x v g h j=>a i x v g (w i v h) j⟩,I.cell,I.free,I.freeC,I.pin,I.hok,e.trans I.len⟩
theorem Inv.pins_of{a:Zd}(I:Inv X J3 σ H s)(h:∀p∈a,s.heap.get? p.1=some p.2/\H p.1=none/\p.1≠X.env.locals/\p.1∉X.fs/\∀v,p.2.data≠.cell v):Inv X a σ H s :=
 ⟨I.ok,I.os,I.bare,I.base,I.loc,I.cell,I.free,I.freeC,fun p e=>(cj.mp e).elim (fun z=>I.pin p (dC _ z)) (h p),I.hok,I.len⟩
theorem rD{N:Zb}(e:N.Nodup){i j:Nat}{x:Str}(a:N[i]?=some x)(b:N[j]?=some x):i=j:=by
 obtain⟨h,f⟩:=da.mp a;obtain⟨k,g⟩:=da.mp b;exact(List.getElem_inj e).mp (f.trans g.symm)
theorem tu{M:Model}{A:Around}{E:Zc}{i:Nat}{x:Str}{v:V}{u:Value}{Q:Unit->Shared->Prop}(I:Inv X J3 σ H s)(hN:X.N.Nodup)(hi:X.N[i]?=some x)(hx:Loc X.env.scope x)(r:RelV v u)
  (h:∀s',Inv X J3 (σ.set i (some v)) H s'->(∃a,iP a s.heap s'.heap/\(a=X.env.locals∨X.env.cells.lookup x=some a))->Q () s') (hf:X.fn x=true∨X.env.scope.names.lookup x=some .local:=by first|exact .inl rfl|exact .inr rfl|assumption):wpAny M A (storeName X.env x u) Q E s:=by
 obtain⟨m,hn,hl⟩:=id I.loc;have G:(X.env.scope.kind==.class || (X.env.scope.kind==.module && X.env.locals != X.env.globals))=false:=by rw[I.ok.kind];rfl
 have hiσ:i<σ.length:=by rw[I.len];exact(da.mp hi).1
 have cne:=I.cne;have tracked:∀{a:Addr}{h':Heap},(∃o,s.heap.get? a=some o/\H a=none)->iP a s.heap h'->j3 X.prog X.w X.K H h':=fun{a h'} ha f b ob e=>by
  obtain⟨_,_,l⟩:=ha;refine(I.hok b ob e).stay (fun c U hc q=>(f.2 c ?_).trans q) (fun _ q=>q) fun _ _ q=>q;rintro rfl;rcases hc with rfl|hc
  ·rw[l]at e;cases e
  ·rw[l]at hc;cases hc
 rcases hx with hk|hk
 ·refine wpAny_storeName_local hk hn (fun h' ab f=>?_) G;obtain⟨oL,_,_,ak,_⟩:=id hn;refine h _ ⟨I.ok,I.os,I.bare,⟨fun b o e n B hx=>?_,fun b o e n B hx=>?_,I.base.free,fun b o e hx=>?_,I.base.tups,fun b xs o e z=>(f.2 b (fun y=>by have:=I.base.tups b xs e;rw[y,I.free]at this;cases this)).trans (I.base.tupk b xs o e z),I.base.frzs,I.base.tbls⟩,⟨_,ab,fun j y v' g t e3=>?_⟩,fun y c e=>?_,I.free,I.freeC,fun p hp=>?_,tracked ⟨oL,ak,I.free⟩ f,by simpa using I.len⟩ ⟨_,f,.inl rfl⟩
  ·exact(f.2 b (bO (e_ (aE e) I.ok.above))).trans (I.base.keep b o e n B hx)
  ·obtain⟨sl,g⟩:=I.base.slot b o e n B hx;exact⟨sl,(f.2 b (bO (e_ (aE e) I.ok.above))).trans g⟩
  ·obtain⟨o',g⟩:=I.base.there b o e hx;exact⟨o',(f.2 b (bO (e_ (aE e) I.ok.above))).trans g⟩
  ·by_cases C:j=i
   ·subst C;rw[hi]at g;cases g;rw[List.getElem?_set_self hiσ]at t;cases t;exact⟨u,r,.inl ⟨hk,by simp⟩⟩
   ·rw[zz (cy C)]at t;obtain⟨u',r',q⟩:=hl j y v' g t e3;refine⟨u',r',?_⟩;rcases q with⟨k,e⟩|⟨k,c,e,z⟩
    ·refine .inl ⟨k,?_⟩;have:y≠x:=fun e=>C (rD hN g (e▸hi));simp[this,e]
    ·exact .inr ⟨k,c,e,z.sameBut f (cne y c e)⟩
  ·obtain⟨U,z⟩:=I.cell y c e;exact⟨U,z.sameBut f (cne y c e)⟩
  ·obtain⟨e,n,ne,nf,d⟩:=I.pin p hp;exact⟨(f.2 p.1 ne).trans e,n,ne,nf,d⟩
 ·have D:X.fn x=true:=by
   rcases hf with z|z
   ·exact z
   ·rw[z]at hk;cases hk
  obtain⟨c,hc⟩:=I.ok.has x (.inl hk);obtain⟨U,z⟩:=I.cell x c hc;refine wpAny_storeName_cell I.ok.kind hk hc z (fun h' J f=>?_);obtain⟨oc,L,O⟩:=id z;refine h { s with heap:=h' } ⟨I.ok,I.os,I.bare,⟨fun b o e n B hx=>?_,fun b o e n B hx=>?_,I.base.free,fun b o e hx=>?_,I.base.tups,fun b xs o e z=>(f.2 b (fun y=>by have:=I.base.tups b xs e;rw[y,I.freeC x c hc]at this;cases this)).trans (I.base.tupk b xs o e z),I.base.frzs,I.base.tbls⟩,⟨m,hn.sameBut f (cy (cne x c hc)),fun j y v' g t e3=>?_⟩,fun y Y e=>?_,I.free,I.freeC,fun p hp=>?_,tracked ⟨oc,L,I.freeC x c hc⟩ f,by simpa using I.len⟩ ⟨c,f,.inr hc⟩
  ·exact(f.2 b (bO (e_ (aE e) (I.ok.cab x c D hc)))).trans (I.base.keep b o e n B hx)
  ·obtain⟨sl,g⟩:=I.base.slot b o e n B hx;exact⟨sl,(f.2 b (bO (e_ (aE e) (I.ok.cab x c D hc)))).trans g⟩
  ·obtain⟨o',g⟩:=I.base.there b o e hx;exact⟨o',(f.2 b (bO (e_ (aE e) (I.ok.cab x c D hc)))).trans g⟩
  ·by_cases C:j=i
   ·subst C;rw[hi]at g;cases g;rw[List.getElem?_set_self hiσ]at t;cases t;exact⟨u,r,.inr ⟨.inl hk,c,hc,J⟩⟩
   ·rw[zz (cy C)]at t;obtain⟨u',r',q⟩:=hl j y v' g t e3;refine⟨u',r',?_⟩;rcases q with q|⟨k,Y,e,z'⟩
    ·exact .inl q
    ·refine .inr ⟨k,Y,e,z'.sameBut f ?_⟩;rintro rfl;exact C (rD hN g (I.ok.inj _ _ _ e hc▸hi))
  ·by_cases T:Y=c
   ·subst T;exact⟨_,J⟩
   ·obtain⟨w2,z2⟩:=I.cell y Y e;exact⟨w2,z2.sameBut f T⟩
  ·obtain⟨e,n,ne,nf,d⟩:=I.pin p hp;refine⟨(f.2 p.1 ?_).trans e,n,ne,nf,d⟩;intro q;rw[q,L]at e;have q':oc=p.2:=dE e;exact d U (by rw[<-q'];exact O)
theorem mP{M:Model}{A:Around}{E:Zc}{i:Nat}{x:Str}{v:V}{u:Value}{Q:Unit->Shared->Prop}(I:Inv X J3 σ H s)(e:X.N.Nodup)(hi:X.N[i]?=some x)(hx:Loc X.env.scope x)(r:RelV v u)
  (h:∀a,Inv X J3 (σ.set i (some v)) H a->Q () a) (hf:X.fn x=true∨X.env.scope.names.lookup x=some .local:=by first|exact .inl rfl|exact .inr rfl|assumption):wpAny M A (storeName X.env x u) Q E s :=
 tu I e hi hx r (fun a f _=>h a f) hf
theorem Inv.call'{s':Shared}{ch:Ze}(I:Inv X J3 σ H s)(g:s'.os=s.os)(u:Un (lJ X.stack) ch H H' s.heap s'.heap)(a:j3 X.prog X.w X.K H' s'.heap)(h:lF s'.gens)
  (f:∀b∈ch,(b∈X.ex∨X.s₀.heap.objs.size<=b)/\b≠X.env.locals/\(∀x c,X.env.cells.lookup x=some c->c≠b)/\∀p∈X.pn++J3,p.1≠b):Inv X J3 σ H' s':=by
 obtain⟨h',i,j,k,l⟩:=s';have e:l=s.os:=g;subst e;exact I.call (g':=i) (t':=k) (d':=j) u a h f
end
abbrev XK:=Value->Option Addr->Hp->Prop
abbrev St:=List (Option V)
abbrev VK:=V->Hp->Prop
abbrev TE:=St->Hp->VK->Prop
abbrev TT:=St->Hp->(Bool->Hp->Prop)->Prop
abbrev TA:=St->Hp->(List V->Hp->Prop)->Prop
structure g0 where
 nx:St->Hp->Prop
 rt:VK
 bk:St->Hp->Prop:=fun _ _=>False
 ct:St->Hp->Prop:=fun _ _=>False
abbrev bF(Q:VK):g0:={ nx:=fun _ H=>Q .non H,rt:=Q }
abbrev TS:=g0->St->Hp->Prop
def EP(X:Cx)(J3:Zd)(σ:St)(Q:VK)(u:Value)(s':Shared):Prop:=∃v H',Inv X J3 σ H' s'/\RelV v u/\Q v H'
def TP(X:Cx)(J3:Zd)(σ:St)(Q:Bool->Hp->Prop)(b:Bool)(s':Shared):Prop:=∃H',Inv X J3 σ H' s'/\Q b H'
def AP(X:Cx)(J3:Zd)(σ:St)(Q:List V->Hp->Prop)(us:Zf)(s':Shared):Prop:=∃vs H',Inv X J3 σ H' s'/\aP vs us/\Q vs H'
def SP(X:Cx)(J3:Zd)(D:g0)(f:Flow)(s':Shared):Prop :=
 match f with
 |.next=>∃σ' H',Inv X J3 σ' H' s'/\D.nx σ' H'
 |.brk=>∃σ' H',Inv X J3 σ' H' s'/\D.bk σ' H'
 |.cont=>∃σ' H',Inv X J3 σ' H' s'/\D.ct σ' H'
 |.ret u=>∃v σ' H',Inv X J3 σ' H' s'/\RelV v u/\D.rt v H'
def PE(X:Cx)(e:Expr)(t:TE):Prop :=
 ∀(J3:Zd) (s:Shared) (σ:St) (H:Hp) (Q:VK),Inv X J3 σ H s->t σ H Q->wpAny (model X.prog X.w) X.A (eval e X.env) (EP X J3 σ Q) X.xe s
def PT(X:Cx)(e:Expr)(t:TT):Prop :=
 ∀(J3:Zd) (s:Shared) (σ:St) (H:Hp) (Q:Bool->Hp->Prop),Inv X J3 σ H s->t σ H Q->wpAny (model X.prog X.w) X.A (isTrue e X.env (eval e X.env)) (TP X J3 σ Q) X.xe s
def PW(X:Cx)(e:Expr)(t:TT):Prop :=
 ∀(whole:Sem Value) (J3:Zd) (s:Shared) (σ:St) (H:Hp) (Q:Bool->Hp->Prop),Inv X J3 σ H s->t σ H Q->wpAny (model X.prog X.w) X.A (isTrue e X.env whole) (TP X J3 σ Q) X.xe s
theorem PW.pt{X:Cx}{e:Expr}{t:TT}(h:PW X e t):PT X e t:=h _
def PA(X:Cx)(es:List Expr)(t:TA):Prop :=
 ∀(pos:Pos) (J3:Zd) (s:Shared) (σ:St) (H:Hp) (Q:List V->Hp->Prop),Inv X J3 σ H s->t σ H Q->wpAny (model X.prog X.w) X.A (spliced (backTo pos (au es X.env))) (AP X J3 σ Q) X.xe s
def PS(X:Cx)(st:Stmt)(t:TS):Prop :=
 ∀(J3:Zd) (s:Shared) (σ:St) (H:Hp) (D:g0),Inv X J3 σ H s->t D σ H->wpAny (model X.prog X.w) X.A (exec st X.env) (SP X J3 D) X.xe s
def vJ(X:Cx)(st:List Stmt)(t:TS):Prop :=
 ∀(J3:Zd) (s:Shared) (σ:St) (H:Hp) (D:g0),Inv X J3 σ H s->t D σ H->wpAny (model X.prog X.w) X.A (execs st X.env) (SP X J3 D) X.xe s
theorem cb{α:Type}{t:Sem α}{Q e:α->Shared->Prop}{M:Model}{A:Around}{E:Zc}{s:Shared}(h:wpAny M A t Q E s)(f:∀a s,Q a s->e a s):wpAny M A t e E s:=cR h f fun _ _ x=>x
end L2
namespace L2
open PySem PySem.Spec PyProof.Rows
section
variable{X:Cx}
def lp(i:Nat):TE:=fun σ H Q=>∃v,σ[i]?=some (some v)/\Q v H
abbrev V0:TE:=lp 0
abbrev V1:TE:=lp 1
abbrev V2:TE:=lp 2
abbrev V3:TE:=lp 3
abbrev V4:TE:=lp 4
abbrev V5:TE:=lp 5
abbrev V6:TE:=lp 6
abbrev V7:TE:=lp 7
abbrev V8:TE:=lp 8
abbrev V9:TE:=lp 9
abbrev GI:TE:=lp 10
abbrev V11:TE:=lp 11
abbrev V12:TE:=lp 12
def tC(v:V):TE:=fun _ H Q=>Q v H
theorem Fy{i:Nat}{x:Str}{g:Pos}(o:X.N[i]?=some x)(p:Vis X.env.scope x)(j:(x==("__debug__":Str))=false:=by decide)(k:(x==("__classdict__":Str))=false:=by decide):PE X (.Name x g) (lp i):=by
 intro J3 s σ H Q I h;obtain⟨v,e,h⟩:=h;obtain⟨m,q,t⟩:=I.loc;obtain⟨u,r,l⟩:=t i x v o e p;have f:EP X J3 σ Q u s:=⟨v,H,I,r,h⟩;rcases l with⟨hk,y⟩|⟨hk,c,n,a⟩
 ·exact wpAny_Name (wpAny_loadName_local I.ok.kind hk q y f) j
 ·rcases hk with hk|hk
  ·exact wpAny_Name (wpAny_loadName_cell I.ok.kind hk n a f) j
  ·exact wpAny_Name (wpAny_loadName_free I.ok.kind hk n a f k) j
theorem ag{i j a}:PE X (.Constant (.int i) j a) (tC (.int i)):=fun _ _ _ H _ I h=>wpAny_Constant_int ⟨.int i,H,I.tok _,⟨_,rfl⟩,h⟩
theorem fx{b j a}:PE X (.Constant (.bool b) j a) (tC (.bl b)):=fun _ _ _ H _ I h=>Constant_bool ⟨.bl b,H,I,rfl,h⟩
theorem oC{j a}:PE X (.Constant .none j a) (tC .non):=fun _ _ _ H _ I h=>Constant_none ⟨.non,H,I,rfl,h⟩
theorem bG{x j a}:PE X (.Constant (.str x) j a) (tC (.str x)):=fun _ _ _ H _ I h=>Calls.Constant_str ⟨.str x,H,I.tok _,⟨_,rfl⟩,h⟩
def Gl(X:Cx)(x:Str):Prop:=X.env.kindOf x=some .globalImplicit
theorem gh{E:Zc}{e:Zd}{s:Shared}{σ:St}{H:Hp}{x:Str}{u:Value}{a:Pos}{Q:Zc}(I:Inv X e σ H s)(f:Gl X x)(g:X.mg x=some u)(h:Q u s)
  (i:(x==("__debug__":Str))=false:=by decide):wpAny (model X.prog X.w) X.A (eval (.Name x a) X.env) Q E s :=
 Calls.Name_function_global I.ok.kind f (Calls.loadGlobal_global (by rw[I.ok.glob];exact I.mod.glob.keeps I.bk) g h) i
theorem oO{E:Zc}{e:Zd}{s:Shared}{σ:St}{H:Hp}{x:Str}{u:Value}{a:Pos}{Q:Zc}(I:Inv X e σ H s)(f:Gl X x)(g:X.mg x=none)(i:iQ x=some u)(h:Q u s)
  (j:x≠"__name__":=by decide) (k:(x==("__debug__":Str))=false:=by decide):wpAny (model X.prog X.w) X.A (eval (.Name x a) X.env) Q E s:=by
 obtain⟨n,l,m⟩:=I.mod.blt;exact Calls.Name_function_global I.ok.kind f (Calls.loadGlobal_builtin (by rw[I.ok.glob];exact I.mod.glob.keeps I.bk) g (by rw[I.ok.blt];exact l.keeps I.bk) ((m x j).trans i) h) k
theorem DK{x:Str}{v:V}{u:Value}{a:Pos}(e:Gl X x)(f:X.mg x=some u)(r:RelV v u)(g:(x==("__debug__":Str))=false:=by decide):PE X (.Name x a) (tC v) :=
 fun _ _ _ H _ I h=>gh I e f ⟨v,H,I,r,h⟩ g
theorem nh{x:Str}{v:V}{u:Value}{a:Pos}(e:Gl X x)(f:X.mg x=none)(g:iQ x=some u)(r:RelV v u)(i:x≠"__name__":=by decide)(j:(x==("__debug__":Str))=false:=by decide):PE X (.Name x a) (tC v) :=
 fun _ _ _ H _ I h=>oO I e f g ⟨v,H,I,r,h⟩ i j
variable{a b:Expr}{ta tb:TE}{pos:Pos}
def PC(X:Cx)(op:CmpOp)(a b:Expr)(t:TE):Prop :=
 ∀(J3:Zd) (s:Shared) (σ:St) (H:Hp) (Q:VK),Inv X J3 σ H s->t σ H Q ->
  wpAny (model X.prog X.w) X.A (eval a X.env) (fun v s₁=>wpAny (model X.prog X.w) X.A (eval b X.env) (fun u s₂=>wpAny (model X.prog X.w) X.A (em op v u) (EP X J3 σ Q) X.xe s₂) X.xe s₁) X.xe s
theorem wP(b:Expr){e:CmpOp}(h:e≠.In)(f:e≠.NotIn):jX e b=false:=by
 have g:(e==CmpOp.In)=false:=by cases e<;>first|rfl|exact absurd rfl h
 have i:(e==CmpOp.NotIn)=false:=by cases e<;>first|rfl|exact absurd rfl f
 cases b<;>simp[jX,g,i]
def uL(ta:TE):TE:=fun σ H Q=>ta σ H fun x H1=>Q (.bl (decide (x=.non))) H1
def BO(ta:TE):TE:=fun σ H Q=>ta σ H fun x H1=>Q (.bl (!decide (x=.non))) H1
theorem RelV.none_iff{x:V}{v:Value}(r:RelV x v):(v==Value.none)=decide (x=.non):=by
 cases x with
 |non=>cases r;rfl
 |bl _=>cases r;rfl
 |int _=>obtain⟨t,rfl⟩:=r;rfl
 |str _=>obtain⟨t,rfl⟩:=r;rfl
 |byt _=>obtain⟨t,rfl⟩:=r;rfl
 |flt _=>obtain⟨t,rfl⟩:=r;rfl
 |ref _=>cases r;rfl
 |ty _=>cases r;rfl
theorem md{j e}(g:PE X a ta):PC X .Is a (.Constant .none j e) (uL ta):=by
 intro i s σ H Q I h;refine cb (g i s σ H _ I h) fun v o f=>?_;obtain⟨x,k,l,m,n⟩:=f;exact Constant_none (is_none_gen ⟨.bl _,k,l,by rw[m.none_iff];rfl,n⟩)
theorem z7{j e}(g:PE X a ta):PC X .IsNot a (.Constant .none j e) (BO ta):=by
 intro i s σ H Q I h;refine cb (g i s σ H _ I h) fun v o f=>?_;obtain⟨x,k,l,m,n⟩:=f;exact Constant_none (isnot_none_gen ⟨.bl _,k,l,by rw[m.none_iff];rfl,n⟩)
def tB(t:TE):TT:=fun σ H Q=>t σ H fun x H1=>∃c,x=.bl c/\Q c H1
theorem u_{e:CmpOp}{t:TE}(h:PC X e a b t)(f:jX e b=false:=by first|exact wP _ (by decide) (by decide)|rfl):PE X (.Compare a [e] [b] pos) t:=fun g s σ H Q I i=>wpAny_Compare1 (h g s σ H Q I i) f
theorem fO{e:CmpOp}{t:TE}(h:PC X e a b t)(f:jX e b=false:=by first|exact wP _ (by decide) (by decide)|rfl):PT X (.Compare a [e] [b] pos) (tB t):=by
 intro i s σ H Q I j;refine wpAny_isTrue_Compare1 (cb (h i s σ H _ I j) fun v p f=>cb f fun u r k=>cb k fun c y g=>?_) f;obtain⟨x,l,m,n,o⟩:=g;obtain⟨d,rfl,q⟩:=o;cases n;exact qx ⟨l,m,q⟩
theorem bJ{e:Expr}{t:TE}(h:PE X e t)(g:∀whole,isTrue e X.env whole=(do let v <- whole;mH e.pos;jW [v] (truthy v)):=by intro _;rfl):PT X e (tB t):=by
 intro i s σ H Q I j;refine isTrue_plain (cb (h i s σ H _ I j) fun v o f=>?_) (g _);obtain⟨x,k,l,m,n⟩:=f;obtain⟨d,rfl,q⟩:=n;cases m;exact qx ⟨k,l,q⟩
variable{tA tB':TT}{rest:List Expr}
def oo(t u:TT):TT:=fun σ H Q=>t σ H fun c H1=>if c=true then u σ H1 Q else Q false H1
def BN(t u:TT):TT:=fun σ H Q=>t σ H fun c H1=>if c=true then Q true H1 else u σ H1 Q
def pP(t:TT):TT:=fun σ H Q=>t σ H fun c H1=>Q (!c) H1
theorem ft(f:PT X a tA):PW X (.BoolOp .And [a] pos) tA:=by
 intro i g s σ H Q I h;refine isTrue_and (cb (f g s σ H Q I h) fun c j e=>?_);cases c with
 |true=>exact isTrue_and_nil e
 |false=>exact e
theorem ma(f:PT X a tA):PW X (.BoolOp .Or [a] pos) tA:=by
 intro i g s σ H Q I h;refine isTrue_or (cb (f g s σ H Q I h) fun c j e=>?_);cases c with
 |false=>exact isTrue_or_nil e
 |true=>exact e
theorem gF(k:PT X a tA)(l:PW X (.BoolOp .And (b::rest) pos) tB'):PW X (.BoolOp .And (a::b::rest) pos) (oo tA tB'):=by
 intro m f s σ H Q I h;refine isTrue_and (cb (k f s σ H _ I h) fun c n e=>?_);obtain⟨g,i,j⟩:=e;cases c with
 |true=>exact l m f n σ g Q i j
 |false=>exact⟨g,i,j⟩
theorem m9(k:PT X a tA)(l:PW X (.BoolOp .Or (b::rest) pos) tB'):PW X (.BoolOp .Or (a::b::rest) pos) (BN tA tB'):=by
 intro m f s σ H Q I h;refine isTrue_or (cb (k f s σ H _ I h) fun c n e=>?_);obtain⟨g,i,j⟩:=e;cases c with
 |true=>exact⟨g,i,j⟩
 |false=>exact l m f n σ g Q i j
theorem io(e:PT X a tA):PT X (.UnaryOp .Not a pos) (pP tA):=by
 intro f s σ H Q I h;exact isTrue_not (e f s σ H (fun c g=>Q (!c) g) I h)
def fF(ta tb:TE):TE:=fun σ H Q=>ta σ H fun x H1=>∃c,x=.bl c/\if c=true then tb σ H1 Q else Q (.bl false) H1
def zN(ta:TE):TE:=fun σ H Q=>ta σ H fun x H1=>∃c,x=.bl c/\Q (.bl (!c)) H1
theorem ip{e}{t:TE}(h:PE X a t):PE X (.BoolOp e [a] pos) t:=fun f s σ H Q I g=>BoolOp_one (h f s σ H Q I g)
theorem eh(k:PE X a ta)(l:PE X (.BoolOp .And (b::rest) pos) tb):PE X (.BoolOp .And (a::b::rest) pos) (fF ta tb):=by
 intro g s σ H Q I h;refine BoolOp_and (cb (k g s σ H _ I h) fun v m f=>?_);obtain⟨x,i,j,n,e⟩:=f;obtain⟨c,rfl,e⟩:=e;cases n;refine qx ?_;cases c with
 |true=>exact l g m σ i Q j e
 |false=>exact⟨.bl false,i,j,rfl,e⟩
theorem yB(g:PE X a ta):PE X (.UnaryOp .Not a pos) (zN ta):=by
 intro i s σ H Q I h;refine UnaryOp_ (cb (g i s σ H _ I h) fun v m e=>?_);obtain⟨x,j,k,l,f⟩:=e;obtain⟨c,rfl,f⟩:=f;cases l;exact not_of (qx ⟨.bl (!c),j,k,rfl,f⟩)
def tIf(t:TT)(ta tb:TE):TE:=fun σ H Q=>t σ H fun c H1=>if c=true then ta σ H1 Q else tb σ H1 Q
theorem Ch{c:Expr}(l:PT X c tA)(m:PE X a ta)(n:PE X b tb):PE X (.IfExp c a b pos) (tIf tA ta tb):=by
 intro e s σ H Q I h;refine wpAny_IfExp (cb (l e s σ H _ I h) fun d g f=>?_);obtain⟨i,j,k⟩:=f;cases d with
 |true=>exact m e g σ i Q j k
 |false=>exact n e g σ i Q j k
end
end L2
namespace L2
open PySem PySem.Spec PyProof.Rows
def aB(K:Za)(H:Hp)(a:Addr)(xs:List V):Prop :=
 Rd H a (.lst xs) ∨
  ∃(o:Obj) (its:Array Value) (n:Nat),K.lookup a=some o/\o.cls=.type "list"/\o.dict=none/\o.data=.seq its n/\its.size<=am/\aP xs its.toList
def bN(K:Za)(H:Hp)(a:Addr)(xs:List V):Prop :=
 Rd H a (.tup xs) ∨
  ∃(o:Obj) (its:Array Value) (n:Nat),K.lookup a=some o/\o.cls=.type "tuple"/\o.data=.seq its n/\its.size<=am/\aP xs its.toList
def absV:Value->Option V
 |.none=>some .non
 |.bool b=>some (.bl b)
 |.int i _=>some (.int i)
 |.str x _=>some (.str x)
 |.bytes b _=>some (.byt b)
 |.float b _=>some (.flt b)
 |.ref a=>some (.ref a)
 |.type n=>some (.ty n)
 |_=>none
theorem RelV.abs{x:V}{u:Value}(r:RelV x u):absV u=some x:=by
 cases x with
 |non=>cases r;rfl
 |bl _=>cases r;rfl
 |int _=>obtain⟨t,rfl⟩:=r;rfl
 |str _=>obtain⟨t,rfl⟩:=r;rfl
 |byt _=>obtain⟨t,rfl⟩:=r;rfl
 |flt _=>obtain⟨t,rfl⟩:=r;rfl
 |ref _=>cases r;rfl
 |ty _=>cases r;rfl
theorem RelV.inj{x y:V}{u:Value}(r:RelV x u)(q:RelV y u):x=y:=dE (r.abs.symm.trans q.abs)
theorem aP.inj{xs a:List V}{e:Zf}(h:aP xs e)(f:aP a e):xs=a:=by
 induction h generalizing a with
 |nil=>cases f;rfl
 |cons r _ g =>
  cases f with
  |cons i j=>rw[r.inj i,g j]
section
variable{X:Cx}{J3:Zd}{σ:St}{H:Hp}{s:Shared}{a:Addr}{xs ys:List V}
theorem aB.of{K:Za}(h:H a=some (.lst xs)):aB K H a xs:=.inl (.inl h)
theorem bN.of{K:Za}(h:H a=some (.tup xs)):bN K H a xs:=.inl (.inl h)
theorem Inv.list(I:Inv X J3 σ H s)(h:aB X.K H a xs):∃f:List Value,aP xs f/\PlainL s.heap a f.toArray/\xs.length<=am:=by
 rcases h with h|⟨o,f,n,g,i,j,k,l,r⟩
 ·obtain⟨z,f,n,r,e⟩:=h.ok I.hok;exact⟨f,r,⟨_,n,e,rfl,rfl,rfl⟩,z⟩
 ·refine⟨f.toList,r,⟨o,n,I.kIn a o g,i,j,by simpa using k⟩,?_⟩;have e:=r.length;simp only[mG]at e;omega
theorem Inv.tuple(I:Inv X J3 σ H s)(h:bN X.K H a xs):∃f:List Value,aP xs f/\IsTup s.heap a f.toArray/\xs.length<=am:=by
 rcases h with h|⟨o,f,n,g,i,j,k,r⟩
 ·obtain⟨z,f,r,p⟩:=h.ok I.hok;exact⟨f,r,p,z⟩
 ·refine⟨f.toList,r,⟨o,I.kIn a o g,i,n,by simpa using j⟩,?_⟩;have e:=r.length;simp only[mG]at e;omega
theorem Inv.list_inj(I:Inv X J3 σ H s)(h:aB X.K H a xs)(k:aB X.K H a ys):xs=ys:=by
 obtain⟨g,r,⟨o,n,e,_,_,d⟩,_⟩:=I.list h;obtain⟨f,l,⟨p,q,i,_,_,j⟩,_⟩:=I.list k;rw[e]at i;cases i;rw[d]at j;injection j with m _;have:g=f:=by simpa using congrArg Array.toList m
 subst this;exact r.inj l
theorem Inv.tuple_inj(I:Inv X J3 σ H s)(h:bN X.K H a xs)(k:bN X.K H a ys):xs=ys:=by
 obtain⟨g,r,⟨o,e,_,n,d⟩,_⟩:=I.tuple h;obtain⟨f,l,⟨p,i,_,q,j⟩,_⟩:=I.tuple k;rw[e]at i;cases i;rw[d]at j;injection j with m _;have:g=f:=by simpa using congrArg Array.toList m
 subst this;exact r.inj l
end
abbrev Cx.wish(X:Cx)(E:Zc):Cx:={ X with xe:=E }
abbrev Cx.nox(X:Cx):Cx:=X.wish fun _ _=>False
theorem Cx.Ok.wish{X:Cx}(ok:X.Ok)(E:Zc):(X.wish E).Ok :=
 ⟨ok.mod,ok.kind,ok.glob,ok.blt,ok.above,ok.inj,ok.has,ok.cab,ok.hd,ok.frames,ok.stk,ok.exf,ok.bs,ok.bsz,ok.noex,ok.exfs,ok.funs,ok.frf⟩
theorem Cx.Ok.unwish{X:Cx}{E:Zc}(ok:(X.wish E).Ok):X.Ok :=
 ⟨ok.mod,ok.kind,ok.glob,ok.blt,ok.above,ok.inj,ok.has,ok.cab,ok.hd,ok.frames,ok.stk,ok.exf,ok.bs,ok.bsz,ok.noex,ok.exfs,ok.funs,ok.frf⟩
section
variable{X:Cx}{J3:Zd}{σ:St}{H:Hp}{s:Shared}{E:Zc}
theorem Inv.wish(I:Inv X J3 σ H s)(E:Zc):Inv (X.wish E) J3 σ H s:=⟨I.ok.wish E,I.os,I.bare,I.base,I.loc,I.cell,I.free,I.freeC,I.pin,I.hok,I.len⟩
theorem Inv.unwish(I:Inv (X.wish E) J3 σ H s):Inv X J3 σ H s:=⟨I.ok.unwish,I.os,I.bare,I.base,I.loc,I.cell,I.free,I.freeC,I.pin,I.hok,I.len⟩
theorem SP.unwish{D:g0}{f:Flow}{e:Shared}(h:SP (X.wish E) J3 D f e):SP X J3 D f e:=by
 cases f with
 |next=>obtain⟨σ',a,I,q⟩:=h;exact⟨σ',a,I.unwish,q⟩
 |brk=>obtain⟨σ',a,I,q⟩:=h;exact⟨σ',a,I.unwish,q⟩
 |cont=>obtain⟨σ',a,I,q⟩:=h;exact⟨σ',a,I.unwish,q⟩
 |ret u=>obtain⟨v,σ',a,I,r,q⟩:=h;exact⟨v,σ',a,I.unwish,r,q⟩
theorem vJ.nox{st:List Stmt}{t:TS}(h:vJ X.nox st t):vJ X st t:=fun J3 s σ H D I a =>
 cR (h J3 s σ H D (I.wish _) a) (fun _ _ q=>q.unwish) fun _ _ z=>cg z
end
section
variable{X:Cx}{st:Stmt}{rest:List Stmt}{t u:TS}{e:Expr}{te:TE}{pos:Pos}
def aZ:TS:=fun D σ H=>D.nx σ H
def av(t u:TS):TS:=fun D σ H=>t { D with nx:=u D } σ H
theorem ay:vJ X [] aZ:=fun _ _ σ H _ I h=>pf ⟨σ,H,I,h⟩
theorem ac(g:PS X st t)(i:vJ X rest u):vJ X (st::rest) (av t u):=by
 intro a s σ H D I h;refine zw (cb (g a s σ H { D with nx:=u D } I h) fun f j q=>?_);cases f with
 |next =>
  obtain⟨σ',k,l,q⟩:=q;exact i a j σ' k D l q
 |ret v=>exact q
 |brk=>exact q
 |cont=>exact q
theorem af(a:PS X st t):vJ X [st] t:=by
 intro g s σ H D I h;refine zw (cb (a g s σ H D I h) fun f i q=>?_);cases f with
 |next=>exact pf q
 |ret v=>exact q
 |brk=>exact q
 |cont=>exact q
theorem Inv.quiet{a:Zd}{σ:St}{H:Hp}{s:Shared}(I:Inv X a σ H s):interactive X.env=false:=by simp[interactive,I.ok.kind]
def dF(te:TE):TS:=fun D σ H=>te σ H fun _ H1=>D.nx σ H1
theorem bT(a:PE X e te)(f:lE e none pos.line X.env=pure false:=by rfl):PS X (.Expr e pos) (dF te):=by
 intro g s σ H D I h;exact wpAny_Expr_any (cb (a g s σ H _ I h) fun v l ⟨x,i,j,m,k⟩=>⟨σ,i,j,k⟩) I.quiet f
def bb(te:TE):TS:=fun D σ H=>te σ H D.rt
theorem aw(a:PE X e te):PS X (.Return (some e) pos) (bb te):=by
 intro f s σ H D I h;exact wpAny_Return_some (cb (a f s σ H _ I h) fun v l ⟨x,g,i,j,k⟩=>⟨x,σ,g,i,j,k⟩)
def bS(c:TT)(t u:TS):TS:=fun D σ H=>c σ H fun b H1=>if b=true then t D σ H1 else u D σ H1
theorem bc{c:Expr}{a b:List Stmt}{i:TT}(n:PT X c i)(o:vJ X a t)(p:vJ X b u):PS X (.If c a b pos) (bS i t u):=by
 intro f s σ H D I h;refine wpAny_If (cb (n f s σ H _ I h) fun d j g=>?_);obtain⟨k,l,m⟩:=g;cases d with
 |true=>exact o f j σ k D l m
 |false=>exact p f j σ k D l m
end
abbrev TG:=V->St->Hp->(St->Hp->Prop)->Prop
abbrev y4:=List V->St->Hp->(St->Hp->Prop)->Prop
def PG(X:Cx)(target:Expr)(t:TG):Prop :=
 ∀(J3:Zd) (s:Shared) (σ:St) (H:Hp) (v:V) (u:Value) (Q:St->Hp->Prop),Inv X J3 σ H s->RelV v u->t v σ H Q ->
  wpAny (model X.prog X.w) X.A (assign target X.env u) (fun _ s'=>∃σ' H',Inv X J3 σ' H' s'/\Q σ' H') X.xe s
def G7(X:Cx)(ts:List Expr)(t:y4):Prop :=
 ∀(J3:Zd) (s:Shared) (σ:St) (H:Hp) (vs:List V) (us:Zf) (Q:St->Hp->Prop),Inv X J3 σ H s->aP vs us->t vs σ H Q ->
  wpAny (model X.prog X.w) X.A (assignInOrder ((sY ts X.env).map (·.2)) us) (fun _ s'=>∃σ' H',Inv X J3 σ' H' s'/\Q σ' H') X.xe s
abbrev FW:=V->V->V->Hp->(Hp->Prop)->Prop
def GL(X:Cx)(t:FW):Prop :=
 ∀(J3:Zd) (s:Shared) (σ:St) (H:Hp) (o i v:V) (ov iv u:Value) (Q:Hp->Prop),Inv X J3 σ H s->RelV o ov->RelV i iv->RelV v u->t o i v H Q ->
  wpAny (model X.prog X.w) X.A (setItem ov iv u) (fun _ s'=>∃H',Inv X J3 σ H' s'/\Q H') X.xe s
section
variable{X:Cx}{pos:Pos}
def dj(i:Nat):TG:=fun v σ H Q=>Q (σ.set i (some v)) H
abbrev U0:TG:=dj 0
abbrev U1:TG:=dj 1
abbrev U2:TG:=dj 2
abbrev U3:TG:=dj 3
abbrev U4:TG:=dj 4
abbrev U5:TG:=dj 5
abbrev U6:TG:=dj 6
abbrev U7:TG:=dj 7
abbrev U8:TG:=dj 8
abbrev U9:TG:=dj 9
abbrev U10:TG:=dj 10
abbrev U11:TG:=dj 11
abbrev U12:TG:=dj 12
theorem zY{i:Nat}{x:Str}(a:X.N.Nodup)(hi:X.N[i]?=some x)(hx:Loc X.env.scope x)(hf:X.fn x=true∨X.env.scope.names.lookup x=some .local:=by first|exact .inl rfl|exact .inr rfl|assumption):PG X (.Name x pos) (dj i):=by
 intro f s σ H v u Q I r h;exact wpAny_assign_Name (mP I a hi hx r (fun g e=>⟨_,H,e,h⟩) hf)
def ji:y4:=fun vs σ H Q=>vs=[]/\Q σ H
def bu(t:TG)(u:y4):y4:=fun vs σ H Q=>∃v r,vs=v::r/\t v σ H fun σ' H'=>u r σ' H' Q
theorem cQ:G7 X [] ji:=by
 intro a s σ H f g Q I r h;obtain⟨e,h⟩:=h;subst e;cases r;exact assignInOrder_nil ⟨σ,H,I,h⟩
theorem aA{e:Expr}{a:List Expr}{t:TG}{u:y4}(i:PG X e t)(j:G7 X a u)
  (k:(sY (e::a) X.env).map (·.2)=assign e X.env::(sY a X.env).map (·.2):=by rfl):G7 X (e::a) (bu t u):=by
 intro g s σ H x y Q I r h;obtain⟨v,z,l,h⟩:=h;subst l;cases r with
 |cons r m =>
  rw[k];refine assignInOrder_cons (cb (i g s σ H _ _ _ I r h) fun _ n f=>?_);obtain⟨σ1,o,p,q⟩:=f;exact j g n σ1 o _ _ Q p m q
def jO(K:Za)(n:Nat)(t:y4):TG:=fun v σ H Q=>∃a xs,v=.ref a/\bN K H a xs/\xs.length=n/\t xs σ H Q
theorem eg{f:List Expr}{k:Nat}{t:y4}{n:Nat}(m:X.calm=true)(h:G7 X f t)
  (p:(sY f X.env).length=n:=by rfl) (g:(sY f X.env).findIdx? (·.1)=none:=by rfl):PG X (.Tuple f k pos) (jO X.K n t):=by
 intro j s σ H v u Q I r i;obtain⟨a,xs,q,x,y,i⟩:=i;subst q;cases r;obtain⟨z,l,B,E⟩:=I.tuple x;refine assign_Tuple_tuple (I.ok.hd m) B (by simp[p,<-y,l.length]) g fun C hx=>?_;have D:Inv X j σ H { s with heap:=C }:=I.kept (t':=s.toks) fun b o e=>hx b o (bO (aE e)) e;exact h j _ σ H xs _ Q D (by simpa using l) i
def yQ(to ti:TE)(t:FW):TG:=fun v σ H Q=>to σ H fun o H1=>ti σ H1 fun i H2=>t o i v H2 fun H3=>Q σ H3
theorem rp{o i:Expr}{to j:TE}{t:FW}(k:PE X o to)(hi:PE X i j)(l:GL X t)
  (m:∀v,assign (.Subscript o i pos) X.env v=(do
   let e <- jW [v] (eval o X.env)
   let f <- jW [v,e] (eval i X.env)
   mH pos
   jW [v,e,f] (setItem e f v)
   release [v,e,f] []):=by intro _;rfl):PG X (.Subscript o i pos) (yQ to j t):=by
 intro g s σ H v u Q I r h;rw[m];refine aj (kb (cb (k g s σ H _ I h) fun e n a=>?_));obtain⟨x,p,q,z,B⟩:=a;refine aj (kb (cb (hi g n σ p _ q B) fun f C a=>?_));obtain⟨y,D,E,G,J⟩:=a;refine aj (qj (aj (kb (cb (l g C σ D x y v e f u _ E z G r J) fun _ O a=>?_))));obtain⟨L,M,N⟩:=a;exact wpAny_release ⟨σ,L,M,N⟩
def aR(te:TE)(g:TG):TS:=fun D σ H=>te σ H fun x H1=>g x σ H1 D.nx
theorem oA{tg e:Expr}{f:TE}{g:TG}(j:PE X e f)(k:PG X tg g)(l:swapsWithSole [tg] e pos.line X.env=pure false:=by rfl)(m:swappedStores [tg] e X.env=pure none:=by rfl)
  (n:(sY [tg] X.env).map (·.2)=[assign tg X.env]:=by rfl):PS X (.Assign [tg] e pos) (aR f g):=by
 intro i s σ H D I h;refine wpAny_Assign_stores (cb (j i s σ H _ I h) fun v o a=>?_) l m;obtain⟨x,p,r,t,u⟩:=a;rw[n];exact cb (k i o σ p x v _ r t u) fun _ y q=>q
theorem Fu{i:Nat}{x:Str}{e:Expr}{g:TE}{a:Pos}(j:X.N.Nodup)(hi:X.N[i]?=some x)(hx:Loc X.env.scope x)(k:PE X e g)(l:lE e (some (.Name x a)) pos.line X.env=pure false:=by rfl)(hf:X.fn x=true∨X.env.scope.names.lookup x=some .local:=by first|exact .inl rfl|exact .inr rfl|assumption):
  PS X (.Assign [.Name x a] e pos) (aR g (dj i)):=by
 intro m s σ H D I h;refine wpAny_Assign_Name (cb (k m s σ H _ I h) fun v t f=>?_) l;obtain⟨y,n,o,p,q⟩:=f;exact mP o j hi hx p (fun u r=>⟨_,n,r,q⟩) hf
end
section
variable{X:Cx}{pos:Pos}
def xZ(c:TT)(tb:TS):TS:=fun D σ H=>∃W:Nat->St->Hp->Prop,(∃m,W m σ H)/\∀m σ H,W m σ H ->
 c σ H fun b H1=>if b=true then ∃N:St->Hp->Prop,(∀σ' H',N σ' H'->∃m',m'<m/\W m' σ' H')/\tb { D with nx:=N,ct:=N,bk:=D.nx } σ H1 else D.nx σ H1
theorem wK{c:Expr}{body:List Stmt}{p:TT}{q:TS}(r:zv (model X.prog X.w) X.A X.env X.xe)(B:PT X c p)(C:vJ X body q):PS X (.While c body [] pos) (xZ p q):=by
 intro J3 s σ H D I h;obtain⟨W,⟨E,G⟩,turn⟩:=h;refine wpAny_While (codeAny_whileLoop (fun n J=>∃σ' t,Inv X J3 σ' t J/\W n σ' t) ?_ E ⟨σ,H,I,G⟩);rintro n L ⟨σ1,u,M,O⟩;refine jV r (cb (B J3 L σ1 u _ M (turn n σ1 u O)) fun b Q i=>?_);obtain⟨x,y,e⟩:=i;cases b with
 |true =>
  obtain⟨N,z,e⟩:=e;rw[if_pos rfl];refine jV r (cb (C J3 Q σ1 x _ y e) fun f T g=>?_);cases f with
  |next =>
   obtain⟨σ3,a,j,k⟩:=g;obtain⟨l,m,o⟩:=z σ3 a k;exact⟨l,m,σ3,a,j,o⟩
  |cont =>
   obtain⟨σ3,a,j,k⟩:=g;obtain⟨l,m,o⟩:=z σ3 a k;exact⟨l,m,σ3,a,j,o⟩
  |brk=>exact g
  |ret v=>exact g
 |false =>
  rw[if_neg iI];exact pf ⟨σ1,x,y,e⟩
end
structure It where
 go:Nat->Hp->Prop
 yld:Nat->Hp->V->Hp->Prop
 stop:Nat->Hp->Prop
def kP(X:Cx)(J3:Zd)(H:Hp)(b:Addr):Prop :=
 H b=none/\b≠X.env.locals/\b∉X.fs/\(b∈X.ex∨X.s₀.heap.objs.size<=b)/\(∀x c,X.env.cells.lookup x=some c->c≠b)/\∀p∈X.pn++J3,p.1≠b
theorem Inv.fpOk{X:Cx}{f:Zd}{σ:St}{H g:Hp}{s:Shared}{b:Addr}(I:Inv X f σ H s)(a:s.heap.objs.size<=b)(h:g b=none):kP X f g b:=by
 refine⟨h,d9 (e_ I.lt a),I.nofs a,.inr (bp I.sz a),fun x c e z=>?_,fun p i z=>?_⟩
 ·obtain⟨v,q⟩:=I.cell x c e;exact absurd (e_ q.lt (by rw[z];exact a)) (ph _)
 ·exact absurd (e_ (aE (I.pin p i).1) (by rw[z];exact a)) (ph _)
structure sN(P:bg)(w:World)(K:Za)(tg:Expr)(J:It)(fp:Ze)(it:Addr)(tn:Nat->Heap->Prop):Prop where
 mem:it∈fp
 obj:∀i h,tn i h->∀b∈fp,∃o,h.get? b=some o/\∀v,o.data≠.cell v
 keep:∀i h h',tn i h->(∀b∈fp,∀o,h.get? b=some o->h'.get? b=some o)->tn i h'
 item:∀(X:Cx),X.prog=P->X.w=w->X.K=K->X.calm=true->∀(i:Nat) (J3:Zd) (s:Shared) (σ:St) (H:Hp) (E:Zc),Inv X J3 σ H s->(∀b∈fp,kP X J3 H b)->tn i s.heap->J.go i H ->
  wpAny (model P w) X.A (pyNext (.ref it)) (fun r s1=>∃u,r=some u /\
   wpAny (model P w) X.A (zu tg (.ref it) u) (fun _ s2=>∃x H',Inv X J3 σ H' s2/\RelV x u/\J.yld i H x H'/\tn (i+1) s2.heap/\∀b∈fp,H' b=none) E s1) E s
 done:∀(X:Cx),X.prog=P->X.w=w->X.K=K->X.calm=true->∀(i:Nat) (J3:Zd) (s:Shared) (σ:St) (H:Hp) (E:Zc),Inv X J3 σ H s->(∀b∈fp,kP X J3 H b)->tn i s.heap->J.stop i H ->
  wpAny (model P w) X.A (pyNext (.ref it)) (fun r s1=>r=none/\Inv X J3 σ H s1) E s
 self:∀(A:Around) (i:Nat) (s:Shared) (Q:Zc) (E:Zc),tn i s.heap->Q (.ref it) s->wpAny (model P w) A (pyIter (.ref it)) Q E s
abbrev TI:=St->Hp->(It->Hp->Prop)->Prop
def PIE(X:Cx)(J3:Zd)(σ:St)(tg:Expr)(R:It->Hp->Prop)(itv:Value)(s2:Shared):Prop :=
 ∃(it:Addr) (fp:Ze) (tn:Nat->Heap->Prop) (J:It) (H':Hp),itv=.ref it/\Inv X J3 σ H' s2/\sN X.prog X.w X.K tg J fp it tn/\tn 0 s2.heap/\(∀b∈fp,kP X J3 H' b)/\R J H'
def PI(X:Cx)(tg iter:Expr)(wi:TI):Prop :=
 ∀(J3:Zd) (s:Shared) (σ:St) (H:Hp) (R:It->Hp->Prop),Inv X J3 σ H s->wi σ H R ->
  wpAny (model X.prog X.w) X.A (eval iter X.env) (fun v s1=>wpAny (model X.prog X.w) X.A (pyIter v) (PIE X J3 σ tg R) X.xe s1) X.xe s
theorem wY{M:Model}{A:Around}{E:Zc}{s:Shared}{e:Expr}{it:Addr}{u:Value}{o:Obj}{n:String}{f:Array Value}{Q:Unit->Shared->Prop}(g:s.heap.get? it=some o)(i:o.cls=.type n)(j:o.data=.fields f)
    (k:["enumerate","zip","dict_itemiterator","dict_reverseitemiterator","odict_iterator","itertools.zip_longest","itertools.pairwise"].contains n=false) (a:Q () s):wpAny M A (zu e (.ref it) u) Q E s:=by
  unfold zu;cases e<;>first
    |exact aD a
    | (cases u <;> first
        |exact aD a
        | (refine aj (wpAny_load g ?_)
           rw[i,j];show wpAny M A (if(["enumerate","zip","dict_itemiterator","dict_reverseitemiterator","odict_iterator","itertools.zip_longest","itertools.pairwise"].contains n && f[0]?==some (rawInt _))=true then _ else _) Q E s
           rw[if_neg (by intro h;rw[k,Bool.false_and]at h;cases h)];exact aD a))
def EY(K:Za)(a:Addr):It :=
 ⟨fun i H=>∃xs x,aB K H a xs/\xs[i]?=some x,fun i H x H'=>H'=H/\∀xs,aB K H a xs->xs[i]?=some x,fun i H=>∃xs,aB K H a xs/\xs.length<=i⟩
def GR(K:Za)(a:Addr):It :=
 ⟨fun i H=>∃xs x,bN K H a xs/\xs[i]?=some x,fun i H x H'=>H'=H/\∀xs,bN K H a xs->xs[i]?=some x,fun i H=>∃xs,bN K H a xs/\xs.length<=i⟩
def FZ(lo:Int)(n:Nat):It:=⟨fun i _=>i<n,fun i H x H'=>H'=H/\x=.int (lo+i),fun i _=>n<=i⟩
theorem tf{P:bg}{w:World}{K:Za}{N:Expr}(a it:Addr):sN P w K N (EY K a) [it] it (fun i h=>h.IsListIter it a i) where
 mem:=by simp
 obj:=fun i h st b f=>by
  have e:b=it:=by simpa using f
  subst e;obtain⟨o,e,c,d⟩:=st;exact⟨o,e,fun v z=>by rw[d]at z;cases z⟩
 keep:=fun i h j st k=>st.at fun o e=>k it (by simp) o e
 item:=by
  intro X m n q L i M s σ H E I hf st r;subst m n q;obtain⟨xs,x,l,hx⟩:=r;obtain⟨t,y,p,O⟩:=I.list l;obtain⟨u,Q,T⟩:=y.get hx;obtain⟨B,C,U,D,G,J⟩:=hf it (by simp);refine wpAny_pyNext_list_item st p.isList (x:=u) (by simpa using Q) fun j g Y=>?_;have I1:Inv X M σ H { s with heap:=j }:=I.turned (t':=s.toks) (fun b o f e=>(Y.2 b f).trans e) B C D G J;obtain⟨o,e,c,d⟩:=id g;exact⟨u,rfl,wY (s:={ s with heap:=j }) e c d (by decide) ⟨x,H,I1,T,⟨rfl,fun ys hy=>by rw[I.list_inj hy l];exact hx⟩,g,fun b f=>(hf b f).1⟩⟩
 done:=by
  intro X m n q L i M s σ H E I hf st r;subst m n q;obtain⟨xs,l,hx⟩:=r;obtain⟨t,y,p,O⟩:=I.list l;obtain⟨B,C,U,D,G,J⟩:=hf it (by simp);have hl:=y.length;exact wpAny_pyNext_list_end (I.ok.hd L) st p.isList (by simp;omega) fun j eb=>⟨rfl,I.turned (t':=s.toks) (fun b o f e=>eb b o f e) B C D G J⟩
 self:=fun _ _ _ _ _ st h=>wpAny_pyIter_listiter st h
theorem xO{P:bg}{w:World}{K:Za}{N:Expr}(a it:Addr):sN P w K N (GR K a) [it] it (fun i h=>h.IsTupleIter it a i) where
 mem:=by simp
 obj:=fun i h st b f=>by
  have e:b=it:=by simpa using f
  subst e;obtain⟨o,e,c,d⟩:=st;exact⟨o,e,fun v z=>by rw[d]at z;cases z⟩
 keep:=fun i h l st k=>st.at fun o e=>k it (by simp) o e
 item:=by
  intro X n q r L i M s σ H E I hf st t;subst n q r;obtain⟨xs,x,m,hx⟩:=t;obtain⟨g,y,p,O⟩:=I.tuple m;obtain⟨u,Q,T⟩:=y.get hx;obtain⟨B,C,U,D,G,J⟩:=hf it (by simp);refine wpAny_pyNext_tuple_item st (show s.heap.IsTuple a g.toArray from p) (x:=u) (by simpa using Q) fun l j Y=>?_;have I1:Inv X M σ H { s with heap:=l }:=I.turned (t':=s.toks) (fun b o f e=>(Y.2 b f).trans e) B C D G J;obtain⟨o,e,c,d⟩:=id j;exact⟨u,rfl,wY (s:={ s with heap:=l }) e c d (by decide) ⟨x,H,I1,T,⟨rfl,fun ys hy=>by rw[I.tuple_inj hy m];exact hx⟩,j,fun b f=>(hf b f).1⟩⟩
 done:=by
  intro X n q r L i M s σ H E I hf st t;subst n q r;obtain⟨xs,m,hx⟩:=t;obtain⟨g,y,p,O⟩:=I.tuple m;obtain⟨B,C,U,D,G,J⟩:=hf it (by simp);have hl:=y.length;exact wpAny_pyNext_tuple_end (I.ok.hd L) st (show s.heap.IsTuple a g.toArray from p) (by simp;omega) fun l eb=>⟨rfl,I.turned (t':=s.toks) (fun b o f e=>eb b o f e) B C D G J⟩
 self:=fun _ _ _ _ _ st h=>wpAny_pyIter_tupleiter st h
theorem xP{P:bg}{w:World}{K:Za}{D:Expr}(it:Addr)(lo:Int)(n:Nat):sN P w K D (FZ lo n) [it] it (fun i h=>IsRangeIter h it (lo+(i:Nat) * 1) ((n:Int)-(i:Nat)) 1) where
 mem:=by simp
 obj:=fun i h st b a=>by
  have e:b=it:=by simpa using a
  subst e;exact⟨_,st,fun v z=>by
   have G:Data.fields _=Data.cell v:=z;cases G⟩
 keep:=fun i h g st k=>k it (by simp) _ st
 item:=by
  intro X j l m p i C s σ H E I hf st q;subst j l m;obtain⟨r,u,J,x,y,B⟩:=hf it (by simp);have W:=Walks.range (prog:=X.prog) (w:=X.w) (I.ok.hd p) it lo 1 n;refine W.item i s _ _ q st fun v g tk L f M=>?_;obtain⟨t,rfl⟩:=L;have N:Inv X C σ H { s with heap:=g,toks:=tk }:=I.turned (fun b o a e=>M b o (by simpa using a) e) r u x y B;refine⟨_,rfl,wY (s:={ s with heap:=g,toks:=tk }) (n:="range_iterator") f rfl rfl (by decide) ⟨.int (lo+i),H,N,⟨t,?_⟩,⟨rfl,rfl⟩,f,fun b a=>(hf b a).1⟩⟩;rw[Int.mul_one]
 done:=by
  intro X j l m p i C s σ H E I hf st q;subst j l m;obtain⟨r,u,J,x,y,B⟩:=hf it (by simp);exact wpAny_pyNext_range_end (I.ok.hd p) st (by have:n<=i:=q;omega) fun g O=>⟨rfl,I.turned (t':=s.toks) (fun b o a e=>O b o a e) r u x y B⟩
 self:=fun _ _ _ _ _ st h=>wpAny_pyIter_rangeiter st h
end L2
namespace L2
open PySem PySem.Spec PyProof.Rows
section
variable{X:Cx}{tg:Expr}
def dR(K:Za)(tl:TE):TI:=fun σ H R=>tl σ H fun x H1=>∃a,x=.ref a/\(∃xs,aB K H1 a xs)/\R (EY K a) H1
theorem bI{l:Expr}{j:TE}(k:PE X l j):PI X tg l (dR X.K j):=by
 intro m s σ H R I h;refine cb (k m s σ H _ I h) fun v f i=>?_;obtain⟨x,n,g,r,t⟩:=i;obtain⟨a,e,⟨xs,u⟩,q⟩:=t;subst e;cases r;obtain⟨y,B,p,C⟩:=g.list u;refine zp p.isList ?_;refine⟨f.heap.objs.size,[f.heap.objs.size],_,_,n,rfl,g.kept (t':=f.toks) fun b o e=>aV _ e,tf a _,⟨_,cN _ rfl,rfl,rfl⟩,fun b z=>?_,q⟩;have e:b=f.heap.objs.size:=by simpa using z
 subst e;exact g.fpOk (aO _) (g.hok.fresh (aO _))
theorem B5{a:Zd}{σ:St}{H:Hp}{s:Shared}{R:It->Hp->Prop}{E:Zc}{lo hi:Int}{t u v:Tok}{tk:Nat}(I:Inv X a σ H s)(g:-(2 ^ 62)<=lo)(h:lo<2 ^ 62)(i:-(2 ^ 62)<=hi)(j:hi<2 ^ 62)
  (q:R (FZ lo (hi-lo).toNat) H):wpAny (model X.prog X.w) X.A (pyIter (.ref s.heap.objs.size)) (PIE X a σ tg R) E { s with heap:=s.heap.push { cls:=.type "range",data:=.fields #[.int lo t,.int hi u,.int 1 v] },toks:=tk }:=by
 refine wpAny_pyIter_range (IsRange.new ..) (small_one g h i j) ?_;have f:Inv X a σ H { s with heap:=s.heap.push { cls:=.type "range",data:=.fields #[.int lo t,.int hi u,.int 1 v] },toks:=tk }:=I.kept fun b o e=>aV _ e;refine⟨(s.heap.push { cls:=.type "range",data:=.fields #[.int lo t,.int hi u,.int 1 v] }).objs.size,[(s.heap.push { cls:=.type "range",data:=.fields #[.int lo t,.int hi u,.int 1 v] }).objs.size],_,_,H,rfl,
  f.kept (t':=tk) fun b o e=>aV _ e,xP _ lo (hi-lo).toNat,?_,fun b k=>?_,q⟩
 ·have l:lo+((0:Nat):Int) * 1=lo:=by simp
  have m:(((hi-lo).toNat:Nat):Int)-((0:Nat):Int)=bQ.Range.rangeSize lo hi 1:=by rw[rangeSize_one];split<;>omega
  show IsRangeIter _ _ (lo+((0:Nat):Int) * 1) ((((hi-lo).toNat:Nat):Int)-((0:Nat):Int)) 1;rw[l,m];exact cN _ rfl
 ·have e:b=(s.heap.push { cls:=.type "range",data:=.fields #[.int lo t,.int hi u,.int 1 v] }).objs.size:=by simpa using k
  subst e;exact f.fpOk (aO _) (f.hok.fresh (aO _))
def rQ(ta:TA):TI:=fun σ H R=>ta σ H fun vs H1=>∃j:Int,vs=[.int j]/\-(2 ^ 62)<=j/\j<2 ^ 62/\R (FZ 0 j.toNat) H1
theorem jd{a:Expr}{k:TA}{p f:Pos}(l:Gl X "range")(m:X.mg "range"=none)(n:PA X [a] k)(o:au [a] X.env=[(false,eval a X.env)]:=by rfl):PI X tg (.Call (.Name "range" p) [a] [] f) (rQ k):=by
 intro u s σ H R I h;refine Call_ (oO I l m boot_range (zo (cb (n f u s σ H _ I h) fun B C g=>?_) o rfl));obtain⟨D,E,v,x,i⟩:=g;obtain⟨j,e,i,y,q⟩:=i;subst e;cases x with
 |cons r z =>
  cases z;obtain⟨t,rfl⟩:=r;exact call_range_1 (B5 v (by omega) (by omega) i y (by simpa using q))
def iM(wi:TI)(g:TG)(tb:TS):TS:=fun D σ H=>wi σ H fun J H1=>∃W:Nat->Nat->St->Hp->Prop,(∃m,W 0 m σ H1)/\∀i m σ H,W i m σ H ->
 (J.stop i H/\D.nx σ H)∨(J.go i H/\∃N:St->Hp->Prop,(∀σ' H',N σ' H'->∃m',m'<m/\W (i+1) m' σ' H')/\∀x H',J.yld i H x H'->g x σ H' fun σ2 H2=>tb { D with nx:=N,ct:=N,bk:=D.nx } σ2 H2)
def oB(fp:Ze)(h:Heap):List (Addr×Obj):=fp.filterMap fun b=>(h.get? b).map fun o=>(b,o)
theorem fU{fp:Ze}{h:Heap}{b:Addr}{o:Obj}(a:b∈fp)(e:h.get? b=some o):(b,o)∈oB fp h:=List.mem_filterMap.mpr ⟨b,a,by rw[e];rfl⟩
theorem A2{a:Ze}{h:Heap}{p:Addr×Obj}(f:p∈oB a h):p.1∈a/\h.get? p.1=some p.2:=by
 obtain⟨b,g,e⟩:=List.mem_filterMap.mp f;cases q:h.get? b with
 |none=>rw[q]at e;cases e
 |some o =>
  rw[q]at e;have i:(b,o)=p:=dE e;subst i;exact⟨g,q⟩
theorem Inv.pinned{a:Zd}{σ:St}{H:Hp}{s:Shared}{f:Ze}(I:Inv X a σ H s)(hf:∀b∈f,kP X a H b)(i:∀b∈f,∃o,s.heap.get? b=some o/\∀v,o.data≠.cell v):Inv X (a++oB f s.heap) σ H s :=
 I.pins_of fun p j=>(cj.mp j).elim (fun z=>I.pin p (dw _ z)) fun z=>by
  obtain⟨g,e⟩:=A2 z;obtain⟨k,l,m,_⟩:=hf p.1 g;obtain⟨o,h,d⟩:=i p.1 g;rw[e]at h;cases h;exact⟨e,k,l,m,d⟩
theorem Inv.unpinned{a e:Zd}{σ:St}{H:Hp}{s:Shared}(I:Inv X (a++e) σ H s):Inv X a σ H s:=I.pins_of fun p f=>I.pin p (dw _ (dC _ f))
theorem cV{j:Expr}{body:List Stmt}{wi:TI}{g:TG}{tb:TS}{Q:Pos}(C:zv (model X.prog X.w) X.A X.env X.xe)(hc:X.calm=true)(hi:PI X tg j wi)(hg:PG X tg g)(k:vJ X body tb)
  (hs:∀x,sX j X.env x=pure x:=by intro _;rfl):PS X (.For tg j body [] Q) (iM wi g tb):=by
 intro z s σ H D I h;refine wpAny_For (cb (hi z s σ H _ I h) fun v s1 h1=>cb h1 fun al s2 h2=>?_) hs;obtain⟨it,E,tn,J,H2,e,I2,T,U,f2,W,⟨m0,w0⟩,turn⟩:=h2;subst e;have l:∀{t:Hp},(∀b∈E,t b=none)->∀b∈E,kP X z t b:=fun hn b k=>⟨hn b k,(f2 b k).2⟩;refine codeAny_forLoop_any (fun n s'=>∃i σ' t,Inv X z σ' t s'/\tn i s'.heap/\(∀b∈E,t b=none)/\W i n σ' t) ?_ m0 ⟨0,σ,H2,I2,U,fun b k=>(f2 b k).1,w0⟩;rintro n s3 ⟨i,σ3,O,I3,G,L,w3⟩;rcases turn i n σ3 O w3 with⟨stop,qn⟩|⟨go,N,hN,step⟩
 ·refine jV C (cb (T.done X rfl rfl rfl hc i z s3 σ3 O X.xe I3 (l L) G stop) fun r s4 a=>?_);obtain⟨Y,I4⟩:=a;subst Y;exact pf ⟨σ3,O,I4,qn⟩
 ·refine jV C (cb (T.item X rfl rfl rfl hc i z s3 σ3 O X.xe I3 (l L) G go) fun r s4 a=>?_);obtain⟨u,Y,h4⟩:=a;subst Y;refine jV C (cb h4 fun _ s5 a=>?_);obtain⟨x,H5,I5,r5,y5,B,ab⟩:=a;have ak:=I5.pinned (l ab) (T.obj _ _ B);refine jV C (cb (hg _ s5 σ3 H5 x u _ ak r5 (step x H5 y5)) fun _ s6 a=>?_);obtain⟨σ6,H6,I6,q6⟩:=a;refine jV C (cb (k _ s6 σ6 H6 _ I6 q6) fun f s7 y=>?_);have again:∀{σ7:St}{p:Hp},Inv X (z++oB E s5.heap) σ7 p s7->N σ7 p->∃m,m<n/\∃i σ' t,Inv X z σ' t s7/\tn i s7.heap/\(∀b∈E,t b=none)/\W i m σ' t:=fun{σ7 p} q M=>by
   obtain⟨m',hm,w7⟩:=hN σ7 p M;refine⟨m',hm,i+1,σ7,p,q.unpinned,T.keep _ _ _ B fun b k o e=>(q.pin (b,o) (dw _ (dw _ (fU k e)))).1,fun b k=>?_,w7⟩;obtain⟨o,e,d⟩:=T.obj _ _ B b k;exact(q.pin (b,o) (dw _ (dw _ (fU k e)))).2.1
  cases f with
  |next=>obtain⟨σ7,p,q,M⟩:=y;exact again q M
  |cont=>obtain⟨σ7,p,q,M⟩:=y;exact again q M
  |brk=>obtain⟨σ7,p,q,y⟩:=y;exact⟨σ7,p,q.unpinned,y⟩
  |ret v=>obtain⟨x7,σ7,p,q,r7,y⟩:=y;exact⟨x7,σ7,p,q.unpinned,r7,y⟩
end
theorem eA{K:Za}{a:Addr}{xs:List V}{g:TG}{k:TS}{D:g0}{σ:St}{H:Hp}(Pv:Nat->St->Hp->Prop)(n:Pv 0 σ H)(o:∀i σ H,i<=xs.length->Pv i σ H->aB K H a xs)
  (r:∀i x σ H,xs[i]?=some x->Pv i σ H->g x σ H fun σ2 j=>k { D with nx:=Pv (i+1),ct:=Pv (i+1),bk:=D.nx } σ2 j) (s:∀σ H,Pv xs.length σ H->D.nx σ H) :
  ∃W:Nat->Nat->St->Hp->Prop,(∃m,W 0 m σ H)/\∀i m σ H,W i m σ H ->
   ((EY K a).stop i H/\D.nx σ H)∨((EY K a).go i H/\∃N:St->Hp->Prop,(∀σ' f,N σ' f->∃l,l<m/\W (i+1) l σ' f)/\∀x f,(EY K a).yld i H x f->g x σ f fun σ2 j=>k { D with nx:=N,ct:=N,bk:=D.nx } σ2 j):=by
 refine⟨fun i m σ H=>m=xs.length-i/\i<=xs.length/\Pv i σ H,⟨xs.length,by simp,cf _,n⟩,?_⟩;rintro i m σ H ⟨rfl,hi,p⟩;have q:=o i σ H hi p;by_cases h:i<xs.length
 ·refine .inr ⟨⟨xs,xs[i],q,by simp[h]⟩,Pv (i+1),fun σ' f t=>⟨xs.length-(i+1),by omega,rfl,h,t⟩,fun x f y=>?_⟩;obtain⟨e,y⟩:=y;subst e;exact r i x σ _ (y xs q) p
 ·have e:i=xs.length:=by omega
  subst e;exact .inl ⟨⟨xs,q,aO _⟩,s σ H p⟩
theorem DV{K:Za}{a:Addr}{xs:List V}{g:TG}{k:TS}{D:g0}{σ:St}{H:Hp}(Pv:Nat->St->Hp->Prop)(n:Pv 0 σ H)(o:∀i σ H,i<=xs.length->Pv i σ H->bN K H a xs)
  (r:∀i x σ H,xs[i]?=some x->Pv i σ H->g x σ H fun σ2 j=>k { D with nx:=Pv (i+1),ct:=Pv (i+1),bk:=D.nx } σ2 j) (s:∀σ H,Pv xs.length σ H->D.nx σ H) :
  ∃W:Nat->Nat->St->Hp->Prop,(∃m,W 0 m σ H)/\∀i m σ H,W i m σ H ->
   ((GR K a).stop i H/\D.nx σ H)∨((GR K a).go i H/\∃N:St->Hp->Prop,(∀σ' f,N σ' f->∃l,l<m/\W (i+1) l σ' f)/\∀x f,(GR K a).yld i H x f->g x σ f fun σ2 j=>k { D with nx:=N,ct:=N,bk:=D.nx } σ2 j):=by
 refine⟨fun i m σ H=>m=xs.length-i/\i<=xs.length/\Pv i σ H,⟨xs.length,by simp,cf _,n⟩,?_⟩;rintro i m σ H ⟨rfl,hi,p⟩;have q:=o i σ H hi p;by_cases h:i<xs.length
 ·refine .inr ⟨⟨xs,xs[i],q,by simp[h]⟩,Pv (i+1),fun σ' f t=>⟨xs.length-(i+1),by omega,rfl,h,t⟩,fun x f y=>?_⟩;obtain⟨e,y⟩:=y;subst e;exact r i x σ _ (y xs q) p
 ·have e:i=xs.length:=by omega
  subst e;exact .inl ⟨⟨xs,q,aO _⟩,s σ H p⟩
theorem oR{lo:Int}{n:Nat}{g:TG}{j:TS}{D:g0}{σ:St}{H:Hp}(Pv:Nat->St->Hp->Prop)(l:Pv 0 σ H)
  (o:∀i σ H,i<n->Pv i σ H->g (.int (lo+i)) σ H fun σ2 h=>j { D with nx:=Pv (i+1),ct:=Pv (i+1),bk:=D.nx } σ2 h) (q:∀σ H,Pv n σ H->D.nx σ H) :
  ∃W:Nat->Nat->St->Hp->Prop,(∃m,W 0 m σ H)/\∀i m σ H,W i m σ H ->
   ((FZ lo n).stop i H/\D.nx σ H)∨((FZ lo n).go i H/\∃N:St->Hp->Prop,(∀σ' a,N σ' a->∃k,k<m/\W (i+1) k σ' a)/\∀x a,(FZ lo n).yld i H x a->g x σ a fun σ2 h=>j { D with nx:=N,ct:=N,bk:=D.nx } σ2 h):=by
 refine⟨fun i m σ H=>m=n-i/\i<=n/\Pv i σ H,⟨n,by simp,cf _,l⟩,?_⟩;rintro i m σ H ⟨rfl,hi,p⟩;by_cases f:i<n
 ·refine .inr ⟨f,Pv (i+1),fun σ' a r=>⟨n-(i+1),by omega,rfl,f,r⟩,fun x a y=>?_⟩;obtain⟨e,y⟩:=y;subst e y;exact o i σ _ f p
 ·have e:i=n:=by omega
  subst e;exact .inl ⟨aO _,q σ H p⟩
end L2
namespace L2
open PySem PySem.Spec PyProof.Rows
abbrev R2:=V->V->Hp->VK->Prop
def nI(X:Cx)(f:Value->Value->Sem Value)(r:R2):Prop :=
 ∀(J3:Zd) (s:Shared) (σ:St) (H:Hp) (x y:V) (v u:Value) (Q:VK),Inv X J3 σ H s->RelV x v->RelV y u->r x y H Q ->
  wpAny (model X.prog X.w) X.A (f v u) (EP X J3 σ Q) X.xe s
def UnR(X:Cx)(f:Value->Sem Value)(r:V->Hp->VK->Prop):Prop :=
 ∀(J3:Zd) (s:Shared) (σ:St) (H:Hp) (x:V) (v:Value) (Q:VK),Inv X J3 σ H s->RelV x v->r x H Q ->
  wpAny (model X.prog X.w) X.A (f v) (EP X J3 σ Q) X.xe s
def fG(X:Cx)(f:Value)(r:List V->Hp->VK->Prop):Prop :=
 ∀(J3:Zd) (s:Shared) (σ:St) (H:Hp) (xs:List V) (us:Zf) (Q:VK),Inv X J3 σ H s->aP xs us->r xs H Q ->
  wpAny (model X.prog X.w) X.A (call f us) (EP X J3 σ Q) X.xe s
def aM(r:R2)(ta tb:TE):TE:=fun σ H Q=>ta σ H fun x H1=>tb σ H1 fun y H2=>r x y H2 Q
def tUn(r:V->Hp->VK->Prop)(ta:TE):TE:=fun σ H Q=>ta σ H fun x H1=>r x H1 Q
def rI(C:Int->Int->Prop)(g:Int->Int->V):R2:=fun x y H Q=>∃i j,x=.int i/\y=.int j/\C i j/\Q (g i j) H
def Bv(g:Int->Int->V):R2:=fun x y H Q=>∃i j,x=.int i/\y=.int j/\Q (g i j) H
def rU(g:Int->V):V->Hp->VK->Prop:=fun x H Q=>∃i,x=.int i/\Q (g i) H
section
variable{X:Cx}{a b c:Expr}{ta tb tc:TE}{pos:Pos}
theorem FU(n:PE X a ta)(o:PE X b tb){k:Zd}{s:Shared}{σ:St}{H:Hp}{R:V->V->Hp->Prop}(I:Inv X k σ H s)
  (h:ta σ H fun x m=>tb σ m fun y g=>R x y g) {Q:Zc}{f:Value->Value->Sem Value}
  (hf:∀v u l x y g,Inv X k σ g l->RelV x v->RelV y u->R x y g->wpAny (model X.prog X.w) X.A (f v u) Q X.xe l) :
  wpAny (model X.prog X.w) X.A (eval a X.env) (fun v i=>wpAny (model X.prog X.w) X.A (eval b X.env) (fun u j=>wpAny (model X.prog X.w) X.A (f v u) Q X.xe j) X.xe i) X.xe s:=by
 refine cb (n k s σ H _ I h) fun v p e=>?_;obtain⟨x,m,q,r,t⟩:=e;refine cb (o k p σ m _ q t) fun u l e=>?_;obtain⟨y,g,z,B,C⟩:=e;exact hf v u l x y g z r B C
theorem aU{e:Operator}{r:R2}(f:nI X (pd e) r)(g:PE X a ta)(i:PE X b tb):PE X (.BinOp a e b pos) (aM r ta tb):=by
 intro j s σ H Q I h;exact wpAny_BinOp (FU g i I h fun v u k x y l m n o q=>f j k σ l x y v u Q m n o q)
theorem Gu{e:UnaryOp}{r:V->Hp->VK->Prop}(g:UnR X (unaryOp e) r)(i:PE X a ta):PE X (.UnaryOp e a pos) (tUn r ta):=by
 intro f s σ H Q I h;exact UnaryOp_ (cb (i f s σ H _ I h) fun v j ⟨x,k,l,m,n⟩=>g f j σ k x v Q l m n)
theorem G5{f:Value->Value->Sem Value}{C:Int->Int->Prop}{g:Int->Int->Int}
  (rule:∀(i j:Int) (t u:Tok) (s:Shared) (Q:Zc) (E:Zc),C i j->Q (.int (g i j) s.toks) { s with toks:=s.toks+1 }->wpAny (model X.prog X.w) X.A (f (.int i t) (.int j u)) Q E s) :
  nI X f (rI C fun i j=>.int (g i j)):=by
 intro n s σ H x y v u Q I e k h;obtain⟨i,j,rfl,rfl,l,q⟩:=h;obtain⟨t,rfl⟩:=e;obtain⟨m,rfl⟩:=k;exact rule i j t m s _ _ l ⟨.int (g i j),H,I.tok _,⟨_,rfl⟩,q⟩
theorem opI0{f:Value->Value->Sem Value}{g:Int->Int->Int}
  (rule:∀(i j:Int) (t u:Tok) (s:Shared) (Q:Zc) (E:Zc),Q (.int (g i j) s.toks) { s with toks:=s.toks+1 }->wpAny (model X.prog X.w) X.A (f (.int i t) (.int j u)) Q E s) :
  nI X f (Bv fun i j=>.int (g i j)):=by
 intro m s σ H x y v u Q I e k h;obtain⟨i,j,rfl,rfl,q⟩:=h;obtain⟨t,rfl⟩:=e;obtain⟨l,rfl⟩:=k;exact rule i j t l s _ _ ⟨.int (g i j),H,I.tok _,⟨_,rfl⟩,q⟩
theorem DO{f:Value->Value->Sem Value}{g:Int->Int->Bool}
  (rule:∀(i j:Int) (t u:Tok) (s:Shared) (Q:Zc) (E:Zc),Q (.bool (g i j)) s->wpAny (model X.prog X.w) X.A (f (.int i t) (.int j u)) Q E s) :
  nI X f (Bv fun i j=>.bl (g i j)):=by
 intro m s σ H x y v u Q I e k h;obtain⟨i,j,rfl,rfl,q⟩:=h;obtain⟨t,rfl⟩:=e;obtain⟨l,rfl⟩:=k;exact rule i j t l s _ _ ⟨.bl (g i j),H,I,rfl,q⟩
def GY(i j:Int):Prop:=0<j/\j<1073741824
def GX(i j:Int):Prop:=0<=j/\j<=1000000/\i.natAbs<2 ^ 64
def C4(i j:Int):Prop:=(-(2 ^ 64)<i/\i<2 ^ 64)∨(-(2 ^ 64)<j/\j<2 ^ 64)
theorem C4.ok{i j:Int}(h:C4 i j):IntMulOk i j:=by
 rcases h with⟨e,f⟩|⟨e,f⟩
 ·exact .of_left (intBits_le_64 e f)
 ·exact .of_right (intBits_le_64 e f)
theorem cF:nI X (pd .Add) (Bv fun i j=>.int (i+j)):=opI0 fun _ _ _ _ _ _ _ q=>add_int q
theorem iq:nI X (pd .Mult) (rI C4 fun i j=>.int (i * j)):=G5 fun _ _ _ _ _ _ _ e q=>mul_int q e.ok
theorem z9:nI X (pd .FloorDiv) (rI GY fun i j=>.int (i / j)):=G5 fun i j _ _ _ _ _ e q=>by
 have f:(0:Int)<j:=e.1;have g:j<1073741824:=e.2;exact floordiv_int (by omega) (by rw[Int.fdiv_eq_ediv_of_nonneg i (by omega)];exact q) (.inl (PyProof.noPylong_small (by omega)))
theorem fQ:nI X (pd .Mod) (rI (fun _ j=>0<j) fun i j=>.int (i % j)):=G5 fun i j _ _ _ _ _ e q=>by
 have f:(0:Int)<j:=e;exact mod_int' (by omega) (by rw[Int.fmod_eq_emod_of_nonneg i (by omega)];exact q)
theorem Cm:nI X (pd .Pow) (rI GX fun i j=>.int (i ^ j.toNat)):=G5 fun _ _ _ _ _ _ _ e q=>pow_int_small e.1 e.2.1 e.2.2 q
theorem unI{f:Value->Sem Value}{g:Int->Int}
  (rule:∀(i:Int) (t:Tok) (s:Shared) (Q:Zc) (E:Zc),Q (.int (g i) s.toks) { s with toks:=s.toks+1 }->wpAny (model X.prog X.w) X.A (f (.int i t)) Q E s) :
  UnR X f (rU fun i=>.int (g i)):=by
 intro j s σ H x v Q I e h;obtain⟨i,rfl,q⟩:=h;obtain⟨t,rfl⟩:=e;exact rule i t s _ _ ⟨.int (g i),H,I.tok _,⟨_,rfl⟩,q⟩
theorem Fe:UnR X (unaryOp .USub) (rU fun i=>.int (-i)):=unI fun _ _ _ _ _ q=>neg_int q
end
def Gp:V->V->Bool
 |.non,.non=>true | .non,.int _=>true | .int _,.non=>true | .non,.bl _=>true | .bl _,.non=>true | .non,.str _=>true | .str _,.non=>true
 |.int _,.int _=>true | .bl _,.bl _=>true | .str _,.str _=>true | .byt _,.byt _=>true
 |.int _,.str _=>true | .str _,.int _=>true | .bl _,.str _=>true | .str _,.bl _=>true
 |_,_=>false
def u5:R2:=fun x y H Q=>Gp x y=true/\Q (.bl (decide (x=y))) H
def Dy:R2:=fun x y H Q=>Gp x y=true/\Q (.bl (!decide (x=y))) H
theorem Ap{i j:Int}:decide (V.int i=V.int j)=(i==j):=by
 rw[pc];simp
theorem CS{i j:Bool}:decide (V.bl i=V.bl j)=(i==j):=by
 rw[pc];simp
theorem Am{i j:Str}:decide (V.str i=V.str j)=(i==j):=by
 rw[pc];simp
theorem Ar{i j:Array UInt8}:decide (V.byt i=V.byt j)=(i.toList==j.toList):=by
 rw[pc];cases i;cases j;simp
section
variable{X:Cx}{a b c:Expr}{ta tb tc:TE}{pos:Pos}
theorem bx{f:Zd}{σ:St}{H:Hp}{s:Shared}{Q:VK}{k g:Bool}(I:Inv X f σ H s)(q:Q (.bl k) H)(e:k=g):EP X f σ Q (.bool g) s:=by
 subst e;exact⟨.bl k,H,I,rfl,q⟩
theorem gL:nI X (em .Eq) u5:=by
 intro l s σ H x y v u Q I k e h;obtain⟨g,q⟩:=h;cases x with
 |non =>
  cases k;cases y with
  |non=>cases e;exact PySem.EqNone.eq_none_none (bx I q (by simp))
  |bl j=>cases e;exact PySem.EqNone.eq_none_bool (bx I q (by simp))
  |int j=>obtain⟨f,rfl⟩:=e;exact PySem.EqNone.eq_none_int (bx I q (by simp))
  |str j=>obtain⟨f,rfl⟩:=e;exact PySem.EqNone.eq_none_str (bx I q (by simp))
  |_=>exact absurd (show false=true from g) iI
 |bl i =>
  cases k;cases y with
  |non=>cases e;exact PySem.EqNone.eq_bool_none (bx I q (by simp))
  |bl j=>cases e;exact eq_bool (bx I q CS)
  |str j=>obtain⟨f,rfl⟩:=e;exact PySem.EqMixed.eq_bool_str (bx I q (by simp))
  |_=>exact absurd (show false=true from g) iI
 |int i =>
  obtain⟨t,rfl⟩:=k;cases y with
  |non=>cases e;exact PySem.EqNone.eq_int_none (bx I q (by simp))
  |int j=>obtain⟨f,rfl⟩:=e;exact eq_int (bx I q Ap)
  |str j=>obtain⟨f,rfl⟩:=e;exact PySem.EqMixed.eq_int_str (bx I q (by simp))
  |_=>exact absurd (show false=true from g) iI
 |str i =>
  obtain⟨t,rfl⟩:=k;cases y with
  |non=>cases e;exact PySem.EqNone.eq_str_none (bx I q (by simp))
  |bl j=>cases e;exact PySem.EqMixed.eq_str_bool (bx I q (by simp))
  |int j=>obtain⟨f,rfl⟩:=e;exact PySem.EqMixed.eq_str_int (bx I q (by simp))
  |str j=>obtain⟨f,rfl⟩:=e;exact eq_str (bx I q Am)
  |_=>exact absurd (show false=true from g) iI
 |byt i =>
  obtain⟨t,rfl⟩:=k;cases y with
  |byt j=>obtain⟨f,rfl⟩:=e;exact PySem.W.eq_bytes (bx I q Ar)
  |_=>exact absurd (show false=true from g) iI
 |_=>cases y<;>exact absurd (show false=true from g) iI
theorem tI:nI X (em .NotEq) Dy:=by
 intro l s σ H x y v u Q I k e h;obtain⟨g,q⟩:=h;cases x with
 |non =>
  cases k;cases y with
  |non=>cases e;exact PySem.EqNone.ne_none_none (bx I q (by simp))
  |bl j=>cases e;exact PySem.EqNone.ne_none_bool (bx I q (by simp))
  |int j=>obtain⟨f,rfl⟩:=e;exact PySem.EqNone.ne_none_int (bx I q (by simp))
  |str j=>obtain⟨f,rfl⟩:=e;exact PySem.EqNone.ne_none_str (bx I q (by simp))
  |_=>exact absurd (show false=true from g) iI
 |bl i =>
  cases k;cases y with
  |non=>cases e;exact PySem.EqNone.ne_bool_none (bx I q (by simp))
  |bl j=>cases e;exact ne_bool (bx I q (congrArg not CS))
  |str j=>obtain⟨f,rfl⟩:=e;exact PySem.EqMixed.ne_bool_str (bx I q (by simp))
  |_=>exact absurd (show false=true from g) iI
 |int i =>
  obtain⟨t,rfl⟩:=k;cases y with
  |non=>cases e;exact PySem.EqNone.ne_int_none (bx I q (by simp))
  |int j=>obtain⟨f,rfl⟩:=e;exact ne_int (bx I q (congrArg not Ap))
  |str j=>obtain⟨f,rfl⟩:=e;exact PySem.EqMixed.ne_int_str (bx I q (by simp))
  |_=>exact absurd (show false=true from g) iI
 |str i =>
  obtain⟨t,rfl⟩:=k;cases y with
  |non=>cases e;exact PySem.EqNone.ne_str_none (bx I q (by simp))
  |bl j=>cases e;exact PySem.EqMixed.ne_str_bool (bx I q (by simp))
  |int j=>obtain⟨f,rfl⟩:=e;exact PySem.EqMixed.ne_str_int (bx I q (by simp))
  |str j=>obtain⟨f,rfl⟩:=e;exact ne_str (bx I q (congrArg not Am))
  |_=>exact absurd (show false=true from g) iI
 |byt i =>
  obtain⟨t,rfl⟩:=k;cases y with
  |byt j=>obtain⟨f,rfl⟩:=e;exact PySem.W.ne_bytes (bx I q (congrArg not Ar))
  |_=>exact absurd (show false=true from g) iI
 |_=>cases y<;>exact absurd (show false=true from g) iI
theorem Cp:nI X (em .Lt) (Bv fun i j=>.bl (decide (i<j))):=DO fun _ _ _ _ _ _ _ q=>lt_int q
theorem Gw:nI X (em .LtE) (Bv fun i j=>.bl (decide (i<=j))):=DO fun _ _ _ _ _ _ _ q=>le_int q
theorem Ey:nI X (em .Gt) (Bv fun i j=>.bl (decide (j<i))):=DO fun _ _ _ _ _ _ _ q=>gt_int q
theorem Gx:nI X (em .GtE) (Bv fun i j=>.bl (decide (j<=i))):=DO fun _ _ _ _ _ _ _ q=>ge_int q
theorem A1:nI X (em .In) (fun x y H Q=>∃i j,x=.str i/\y=.str j/\Q (.bl (!(bQ.Str.occurrences j i 0 j.length 1).isEmpty)) H):=by
 intro g s σ H x y v u Q I e f h;obtain⟨i,j,rfl,rfl,q⟩:=h;obtain⟨t,rfl⟩:=e;obtain⟨k,rfl⟩:=f;exact in_str (bx I q rfl)
theorem Cu(b:Expr){e:CmpOp}(h:e≠.In:=by decide)(f:e≠.NotIn:=by decide):jX e b=false:=by
 have g:(e==CmpOp.In)=false:=by cases e<;>first|rfl|exact absurd rfl h
 have i:(e==CmpOp.NotIn)=false:=by cases e<;>first|rfl|exact absurd rfl f
 cases b<;>simp[jX,g,i]
theorem z5{e:CmpOp}{r:R2}(f:nI X (em e) r)(g:PE X a ta)(i:PE X b tb)(j:jX e b=false):PE X (.Compare a [e] [b] pos) (aM r ta tb):=by
 intro k s σ H Q I h;exact wpAny_Compare1 (FU g i I h fun v u l x y m n o p q=>f k l σ m x y v u Q n o p q) j
def ba(t:TE):TT:=fun σ H Q=>t σ H fun x H'=>∃k,x=.bl k/\Q k H'
theorem zW{f:CmpOp}{r:R2}(i:nI X (em f) r)(j:PE X a ta)(l:PE X b tb)(m:jX f b=false):PT X (.Compare a [f] [b] pos) (ba (aM r ta tb)):=by
 intro g s σ H Q I h;refine wpAny_isTrue_Compare1 (cb (j g s σ H _ I h) fun v n ⟨x,o,p,q,t⟩=>cb (l g n σ o _ p t) fun u B ⟨y,C,D,E,G⟩ =>
  cb (i g B σ C x y v u _ D q E G) fun c O ⟨z,J,L,M,k,e,N⟩=>?_) m
 subst e;cases M;exact qx ⟨J,L,N⟩
theorem oM:(am:Nat)<2 ^ 63:=by rw[sW];decide
theorem jK:nI X (pd .Add) (fun x y H Q=>∃i j,x=.str i/\y=.str j/\i.length+j.length<=am/\Q (.str (i++j)) H):=by
 intro l s σ H x y v u Q I e f h;obtain⟨i,j,rfl,rfl,g,q⟩:=h;obtain⟨t,rfl⟩:=e;obtain⟨k,rfl⟩:=f;exact add_str (fun k tk=>⟨.str (i++j),H,I.tok _,⟨_,rfl⟩,q⟩) g
theorem vals1{x:V}{e:Zf}(r:aP [x] e):∃u,e=[u]/\RelV x u:=by
 cases r with
 |cons f g=>cases g;exact⟨_,rfl,f⟩
theorem vals2{x y:V}{e:Zf}(r:aP [x,y] e):∃u f,e=[u,f]/\RelV x u/\RelV y f:=by
 cases r with
 |cons g h =>
  cases h with
  |cons i j=>cases j;exact⟨_,_,rfl,g,i⟩
end
end L2
namespace L2
open PySem PySem.Spec PyProof.Rows
structure y8(h:Heap)(x dx C:Addr)(mA:Str->Option Value):Prop where
 obj:h.get? x=some (pi C dx)
 ns:h.Ns1 dx mA
 ne:dx≠x
theorem oK{h:Heap}{g:Addr}{i:Str->Option Value}(n:h.Ns1 g i):∃j,h.get? g=some j/\∀name,zm name j=some (i name):=by
 obtain⟨o,k,v,l,m,p,_,r⟩:=n;refine⟨o,l,fun name=>?_⟩;have e:=r name;unfold nsFind findBy at e;rw[<-Array.find?_toList]at e;unfold zm;rw[m];dsimp only;split
 ·rename_i y q;rw[q]at e;exact congrArg some e
 ·rename_i q;rw[q]at e;have a:k.toList.any (·.refKey)=false:=by
   rw[List.any_eq_false];intro y s;obtain⟨z,t,f⟩:=p y (Array.mem_toList_iff.mp s);simp[ka.refKey,f]
  have u:¬k.toList.any (·.refKey)=true:=by rw[a];exact iI
  rw[if_neg u];exact congrArg some e
theorem y8.look{h:Heap}{x e C:Addr}{f:Str->Option Value}(I:y8 h x e C f):∃a,PySem.W.InstAt h x (pi C e) C (some a)/\∀name,zm name a=some (f name) :=
 let⟨a,g,i⟩:=oK I.ns
 ⟨a,⟨I.obj,rfl,rfl,g⟩,i⟩
section
variable{prog:bg}{w:World}{A:Around}{E:Zc}{s:Shared}{K:Za}{x dx C f:Addr}{mA:Str->Option Value}{name:Str}{v:Value}
theorem DS{a:Bool}{Q:Zc}(X:K.In s.heap)(I:y8 s.heap x dx C mA)(g:vW K C name=true)(i:zk K C=true)
  (j:bC K (.ref C) name=some none) (k:mA name=some v) (e:PySem.W.handedIn v=true) (h:Q v { s with toks:=s.toks+1 }) :
  wpAny (model prog w) A (vV (.ref x) name a) Q E s:=by
 obtain⟨m,J,l⟩:=I.look;exact PySem.W.get_value X J (PySem.W.plainGet_of g).1 (PySem.W.findObj_own i j rfl (by rw[l,k])) e h
theorem CG{e:Sem Bool}{Q:Value×List Value->Shared->Prop}(X:K.In s.heap)(I:y8 s.heap x dx C mA)(a:vW K C name=true)
  (hf:bC K (.ref C) name=some (some (.ref f))) (g:mF K (.ref f)=true) (i:mA name=none) (h:Q (.ref f,[.ref x]) s) :
  wpAny (model prog w) A (mE (.ref x) name e) Q E s:=by
 obtain⟨j,J,k⟩:=I.look;exact PySem.W.method_fn X J (PySem.W.plainGet_of a).1 (PySem.W.plainGet_of a).2 hf (beq_iff_eq.mp g) (by show(zm name j).map (·.isSome)=some false;rw[k,i];rfl) h
theorem Do{n:Zb}{Q:Unit->Shared->Prop}(X:K.In s.heap)(I:y8 s.heap x dx C mA)
  (o:bC K (.ref C) "__setattr__"=some (some (.builtin "object.__setattr__"))) (p:PySem.W.plainOver K C=true) (q:PySem.W.takerIn K C name=some none) (t:zk K C=true)
  (u:vX mA n) (z:n.length<=am)
  (h:∀i,y8 i x dx C (fun y=>if y=name then some v else mA y)->iP dx s.heap i->Q () { s with heap:=i,toks:=s.toks+2 }) :
  wpAny (model prog w) A (setAttr (.ref x) name v) Q E s:=by
 obtain⟨H,J,L⟩:=I.look;refine PySem.W.set_plain X J o (PySem.W.osa_open (s:={ s with toks:=s.toks+1 }) (r:=none) X J p q fun b=>?_);obtain⟨cd,B,j⟩:=PySem.W.any_some t;have hx:s.heap.get? x=some ⟨.ref C,some dx,.plain,#[]⟩:=I.obj;refine aj (aD (aj (aj (wpAny_loadPart hx (aj (PySem.W.Looks.here (s:={ s with toks:=s.toks+1 }) (PySem.W.looks_clsIn X B) ?_))))));rw[j];refine aD (a:=some dx) (aj (aD (aj ?_)));refine wpAny_nsSet1 (s:={ s with toks:=s.toks+1 }) I.ns fun i e g=>?_;obtain⟨M,D,G,k,l,m⟩:=e.count (vX.cons name v u);refine aj (wpAny_lookBehind k (by rw[l];exact pastItsLine_dict (bp m (by rw[d7];omega))) ?_);exact aD (h _ ⟨(g.2 _ (cy I.ne)).trans I.obj,e,I.ne⟩ g)
theorem wT{R:Result->Shared->Prop}{a:Zf}{e:List (Str×Value)}(X:K.In s.heap)(i:vU K C=true)
  (hi:bC K (.ref C) "__init__"=some (some (.ref f))) (hf:PySem.W.typeIn K (.ref f)=some (.type "function"))
  (h:zzl83 (model prog w) (A.under (.builtin "type.__call__" ⟨.ref C::a,e⟩)) (.call (.ref f) ⟨.ref (s.heap.objs.size+1)::a,e⟩) (PySem.W.InitBack (s.heap.objs.size+1) R)
   { s with heap:=(s.heap.push mD).push (pi C s.heap.objs.size) }) :
  zzl83 (model prog w) A (.call (.ref C) ⟨a,e⟩) R s:=by
 obtain⟨j,g,d,t,os⟩:=s;exact PySem.W.make_core (PySem.W.makes_of X i) (PySem.W.looks_findIn X hi) (fun self=>PySem.W.bind_fn X self hf) (.inl rfl) h
end
def cD(f:Str)(v:V):List (Str×V)->List (Str×V)
 |[]=>[(f,v)]
 | (g,x)::r=>if g=f then(g,v)::r else(g,x)::cD f v r
theorem dP(f g:Str)(v:V):∀fs:List (Str×V),(cD f v fs).lookup g=if g=f then some v else fs.lookup g
 |[]=>by
  show iO g [(f,v)]=_;by_cases h:g=f
  ·have a:(g==f)=true:=beq_iff_eq.mpr h;simp only[iO,a,if_pos h]
  ·have a:(g==f)=false:=beq_eq_false_iff_ne.mpr h;simp only[iO,a,if_neg h]
 | (k,x)::r=>by
  have j:=dP f g v r;rw[show cD f v ((k,x)::r)=(if k=f then(k,v)::r else(k,x)::cD f v r)from rfl]
  by_cases i:k=f
  ·rw[if_pos i];by_cases h:g=k
   ·have a:(g==k)=true:=beq_iff_eq.mpr h;simp only[iO,a,if_pos (h.trans i)]
   ·have a:(g==k)=false:=beq_eq_false_iff_ne.mpr h;simp only[iO,a,if_neg (fun e:g=f=>h (e.trans i.symm))]
  ·rw[if_neg i];by_cases h:g=k
   ·have a:(g==k)=true:=beq_iff_eq.mpr h;simp only[iO,a,if_neg (fun e:g=f=>i (h.symm.trans e))]
   ·have a:(g==k)=false:=beq_eq_false_iff_ne.mpr h;simp only[iO,a];exact j
theorem oP(f:Str)(v:V):∀fs:List (Str×V),f∈(cD f v fs).map (·.1)/\∀g,g∈fs.map (·.1)->g∈(cD f v fs).map (·.1)
 |[]=>⟨by simp[cD],fun g h=>by simp at h⟩
 | (k,x)::r=>by
  obtain⟨i,j⟩:=oP f v r;rw[show cD f v ((k,x)::r)=(if k=f then(k,v)::r else(k,x)::cD f v r)from rfl]
  by_cases a:k=f
  ·rw[if_pos a];subst a;exact⟨by simp,fun g h=>by simpa using h⟩
  ·rw[if_neg a];refine⟨?_,fun g h=>?_⟩
   ·rw[bo];exact dD _ i
   ·rw[bo]at h ⊢;rcases bY.mp h with e|e
    ·exact bY.mpr (.inl e)
    ·exact dD _ (j g e)
theorem pE(f:Str)(v:V):∀fs:List (Str×V),(cD f v fs).length<=fs.length+1
 |[]=>by simp[cD]
 | (k,x)::r=>by
  have e:=pE f v r;rw[show cD f v ((k,x)::r)=(if k=f then(k,v)::r else(k,x)::cD f v r)from rfl]
  by_cases a:k=f
  ·rw[if_pos a,d7,d7];omega
  ·rw[if_neg a,d7,d7];omega
theorem iE.some_of{v:V}{o:Option Value}(r:iE (some v) o):∃u,o=some u/\RelV v u:=by
 cases o with
 |none=>exact(show False from r).elim
 |some u=>exact⟨u,rfl,r⟩
theorem iE.none_of{o:Option Value}(r:iE none o):o=none:=by
 cases o with
 |none=>rfl
 |some u=>exact(show False from r).elim
theorem tN{v:V}{u:Value}(r:RelV v u):PySem.W.handedIn u=true:=by
 cases v with
 |non=>cases(show u=Value.none from r);rfl
 |bl b=>cases(show u=Value.bool b from r);rfl
 |int i=>obtain⟨t,e⟩:=(show ∃t,u=Value.int i t from r);cases e;rfl
 |str x=>obtain⟨t,e⟩:=(show ∃t,u=Value.str x t from r);cases e;rfl
 |byt b=>obtain⟨t,e⟩:=(show ∃t,u=Value.bytes b t from r);cases e;rfl
 |flt b=>obtain⟨t,e⟩:=(show ∃t,u=Value.float b t from r);cases e;rfl
 |ref a=>cases(show u=Value.ref a from r);rfl
 |ty n=>cases(show u=Value.type n from r);rfl
section
variable{P:bg}{w:World}{H H':Hp}{h h':Heap}{a C dx:Addr}{fs fs':List (Str×V)}
theorem qd{K:Za}(i:j3 P w K H h)(e:H a=some (.ins C dx fs)):∃g,y8 h a dx C g/\(∀f,iE (fs.lookup f) (g f))/\vX g (fs.map (·.1))/\fs.length<=1000/\H dx=some (.own a):=by
 obtain⟨d,z,ne,j,g,n,r,q⟩:=(show b_ P w K H h a (.ins C dx fs)from i a _ e);exact⟨g,⟨j,n,ne⟩,r,q,z,d⟩
end
structure Bq(K:Za)(C:Addr):Prop where
 pg:vW K C Str.empty=true
 hd:zk K C=true
 po:PySem.W.plainOver K C=true
 sa:bC K (.ref C) "__setattr__"=some (some (.builtin "object.__setattr__"))
theorem Bq.get{K:Za}{C:Addr}(c:Bq K C)(f:Str):vW K C f=true:=c.pg
def cG(K:Za)(C:Addr)(f:Str):Prop:=bC K (.ref C) f=some none
theorem cG.taker{K:Za}{C:Addr}{f:Str}(n:cG K C f):PySem.W.takerIn K C f=some none:=by
 unfold PySem.W.takerIn;rw[show bC K (.ref C) f=some none from n]
 rfl
structure Ek(K:Za)(C:Addr)(m:Str)(f:Addr):Prop where
 at_:bC K (.ref C) m=some (some (.ref f))
 fn:mF K (.ref f)=true
 kp:dB K (.ref f)=true
section
variable{X:Cx}{J3:Zd}{σ:St}{H:Hp}{s:Shared}{a C dx:Addr}{fs:List (Str×V)}{f:Str}{v:V}{A:Around}{E:Zc}
theorem yP{b:Bool}{Q:Zc}(I:Inv X J3 σ H s)(e:H a=some (.ins C dx fs))(c:Bq X.K C)(n:cG X.K C f)(l:fs.lookup f=some v)
  (h:∀u g,Inv X J3 σ H g->RelV v u->Q u g):wpAny (model X.prog X.w) A (vV (.ref a) f b) Q E s:=by
 obtain⟨j,O,r,_,_,_⟩:=qd I.hok e;obtain⟨u,k,i⟩:=iE.some_of (v:=v) (o:=j f) (by rw[<-l];exact r f);exact DS I.kIn O (c.get f) c.hd n k (tN i) (h u _ (I.tok _) i)
theorem rS{m:Str}{g:Addr}{i:Sem Bool}{Q:Value×List Value->Shared->Prop}(I:Inv X J3 σ H s)(e:H a=some (.ins C dx fs))(c:Bq X.K C)(k:Ek X.K C m g)(l:fs.lookup m=none)
  (h:Q (.ref g,[.ref a]) s):wpAny (model X.prog X.w) A (mE (.ref a) m i) Q E s:=by
 obtain⟨j,O,r,_,_,_⟩:=qd I.hok e;have n:j m=none:=iE.none_of (by rw[<-l];exact r m);exact CG I.kIn O (c.get m) k.at_ k.fn n h
theorem yj{y:V}{u:Value}{Q:Unit->Shared->Prop}(I:Inv X J3 σ H s)(e:H a=some (.ins C dx fs))(c:Bq X.K C)(n:cG X.K C f)(N:fs.length<1000)(p:RelV y u)
  (h:∀j,Inv X J3 σ (upd H a (.ins C dx (cD f y fs))) j->Q () j):wpAny (model X.prog X.w) A (setAttr (.ref a) f u) Q E s:=by
 obtain⟨k,O,r,l,_,m⟩:=qd I.hok e;have t:(fs.map (·.1)).length<=am:=by rw[ao,sW];omega
 refine Do I.kIn O c.sa c.po n.taker c.hd l t fun B i D=>h _ ?_;have G:∃o,B.get? dx=some o:=let⟨o,_,_,J,_⟩:=i.ns;⟨o,J⟩;refine I.write (x:=a) (e:=dx) (by rw[e];exact ej) (.inr m) (fun b q L z=>(D.2 b L).trans z) G ?_;refine⟨by rw[ai O.ne];exact m,?_,O.ne,i.obj,_,i.ns,fun g=>?_,fun g M=>?_⟩
 ·have:=pE f y fs;omega
 ·show iE ((cD f y fs).lookup g) (if g=f then some u else k g)
  rw[dP];by_cases q:g=f
  ·rw[if_pos q,if_pos q];exact p
  ·rw[if_neg q,if_neg q];exact r g
 ·by_cases q:g=f
  ·rw[q];exact(oP f y fs).1
  ·refine(oP f y fs).2 g (l g fun z=>M ?_);show(if g=f then some u else k g)=none
   rw[if_neg q];exact z
theorem Inv.made(I:Inv X J3 σ H s):Inv X J3 σ (upd (upd H s.heap.objs.size (.own (s.heap.objs.size+1))) (s.heap.objs.size+1) (.ins C s.heap.objs.size []))
  { s with heap:=(s.heap.push mD).push (pi C s.heap.objs.size) }:=by
 have g:(s.heap.push mD).get? s.heap.objs.size=some mD:=cN s.heap rfl;have h:((s.heap.push mD).push (pi C s.heap.objs.size)).get? (s.heap.objs.size+1)=some (pi C s.heap.objs.size):=by
  have:=cN (s.heap.push mD) (o:=pi C s.heap.objs.size) rfl;rwa[j7]at this
 have i:(s.heap.push mD).Ns s.heap.objs.size (fun _=>none):=⟨mD,#[],_,g,rfl,(fun e j=>absurd j (by simp)),fun _=>rfl⟩;have k:=I.laid (a:=s.heap.objs.size) (o:=.own (s.heap.objs.size+1)) (h':=s.heap.push mD) (t':=s.toks) (fun b u q=>aV _ q) (aO _) ⟨_,g⟩;refine k.laid (a:=s.heap.objs.size+1) (o:=.ins C s.heap.objs.size []) (t':=s.toks) (fun b u q=>aV _ q) (Nat.le_of_eq (j7 _ _)) ?_;have ne:s.heap.objs.size≠s.heap.objs.size+1:=bO (Nat.lt_succ_self _);refine⟨by rw[ai ne,aa],cf _,ne,h,fun _=>none,(Heap.Ns1.of_empty i).at fun o q=>aV _ q,fun _=>ej,fun y l=>absurd rfl l⟩
theorem At{g:bg}{w:World}{i:Env}{e:Expr}{f:Str}{k:Pos}{s:Shared}{Q:Zc}(l:sV e f i (eval e i)=eval e i)
  (h:wpAny (model g w) A (eval e i) (fun o j=>wpAny (model g w) A (vV o f true) Q E j) E s):wpAny (model g w) A (eval (.Attribute e f k) i) Q E s :=
 Attribute_any_ h (by rw[arm_eval_Attribute,l])
end
def sB(K:Za)(ta:TE)(f:Str):TE:=fun σ H Q=>ta σ H fun x H1=>∃a C dx fs v,x=.ref a/\H1 a=some (.ins C dx fs)/\Bq K C/\cG K C f/\fs.lookup f=some v/\Q v H1
def uX(K:Za)(ta tv:TE)(f:Str):TS:=fun D σ H=>tv σ H fun y H1=>ta σ H1 fun x H2=>∃a C dx fs,x=.ref a/\H2 a=some (.ins C dx fs)/\Bq K C/\cG K C f/\fs.length<1000 /\
 D.nx σ (upd H2 a (.ins C dx (cD f y fs)))
section
variable{X:Cx}{o e value:Expr}{f:Str}{pos pos' J8:Pos}{ta tv:TE}
theorem jJ(i:PE X e ta)(j:sV e f X.env (eval e X.env)=eval e X.env):PE X (.Attribute e f pos) (sB X.K ta f):=by
 intro k s σ H Q I h;refine At j (cb (i k s σ H _ I h) fun u B g=>?_);obtain⟨x,m,p,r,a,C,D,fs,v,ex,t,c,n,l,q⟩:=g;subst ex;obtain rfl:u=Value.ref a:=r;exact yP p t c n l fun E G y z=>⟨v,m,y,z,q⟩
theorem kH(j:PE X o ta)(k:PE X value tv)(m:lE value (some (.Attribute o f pos')) pos.line X.env=pure false):PS X (.Assign [.Attribute o f pos'] value pos) (uX X.K ta tv f):=by
 intro i s σ H D I h;refine plainObj_wpAny_Assign_Attribute (cb (k i s σ H _ I h) fun u p ⟨y,r,t,v,q⟩=>cb (j i p σ r _ t q) fun z M g=>?_) m;obtain⟨x,N,B,E,a,C,O,fs,ex,G,c,n,l,J⟩:=g;subst ex;obtain rfl:z=Value.ref a:=E;exact yj B G c n l v fun Q L=>⟨σ,_,L,J⟩
end
section
variable{X:Cx}{J3:Zd}{σ:St}{H:Hp}{s:Shared}{A:Around}{E:Zc}{Q:Zc}{c:Value}{b:Bool}
inductive mj(K:Za)(H:Hp):V->Value->Prop where
 |non:mj K H .non (.type "NoneType")
 |bl (x:Bool):mj K H (.bl x) (.type "bool")
 |int (i:Int):mj K H (.int i) (.type "int")
 |str (x:Str):mj K H (.str x) (.type "str")
 |flt (x:UInt64):mj K H (.flt x) (.type "float")
 |lst {a:Addr}{xs:List V}(e:H a=some (.lst xs)):mj K H (.ref a) (.type "list")
 |frz {a:Addr}{o:Obj}{xs:List V}(e:H a=some (.frz o (.lst xs))):mj K H (.ref a) (.type "list")
 |tup {a:Addr}{xs:List V}(e:H a=some (.tup xs)):mj K H (.ref a) (.type "tuple")
 |dK {a:Addr}{kvs:List (dX×V)}(e:H a=some (.dK kvs)):mj K H (.ref a) (.type "dict")
 |dT {a:Addr}{kvs:List (TK×V)}(e:H a=some (.dT kvs)):mj K H (.ref a) (.type "dict")
 |ins {a C dx:Addr}{fs:List (Str×V)}(e:H a=some (.ins C dx fs)) (cl:Bq K C) (ha:bC K (.ref C) "__class__"=some (some (.builtin "object.__class__")))
   (hn:zj K (.builtin "object.__class__") "__get__"=some (some (.builtin "getset_descriptor.__get__"))) (htk:PySem.W.takesIn K (.builtin "object.__class__")=some true)
   (hm:PySem.W.mroIn K C (.type "object")=some true):mj K H (.ref a) (.ref C)
theorem A9{x:V}{u t:Value}(I:Inv X J3 σ H s)(f:RelV x u)(ty:mj X.K H x t)(e:vT X.K t c=some b)(h:∀tk,Q (.bool b) { s with toks:=tk }):
  wpAny (model X.prog X.w) A (call (.builtin "isinstance") [u,c]) Q E s:=by
 cases ty with
 |non=>cases(show u=Value.none from f);exact jb PySem.W.kitx_none I.kIn ej e (fun z=>nomatch z) h
 |bl y=>cases(show u=Value.bool y from f);exact jb PySem.W.kitx_bool I.kIn ej e (fun z=>nomatch z) h
 |int i=>obtain⟨t,q⟩:=(show ∃t,u=Value.int i t from f);cases q;exact jb PySem.W.kitx_int I.kIn ej e (fun z=>nomatch z) h
 |str y=>obtain⟨t,q⟩:=(show ∃t,u=Value.str y t from f);cases q;exact jb PySem.W.kitx_str I.kIn ej e (fun z=>nomatch z) h
 |flt y=>obtain⟨t,q⟩:=(show ∃t,u=Value.float y t from f);cases q;exact jb PySem.W.kitx_float I.kIn ej e (fun z=>nomatch z) h
 |@lst a xs g =>
  cases(show u=Value.ref a from f);obtain⟨_,_,n,_,j⟩:=(show b_ X.prog X.w X.K H s.heap a (.lst xs)from I.hok a _ g);exact jb PySem.W.kitx_list I.kIn ⟨_,j,rfl⟩ e (fun z=>nomatch z) h
 |@frz a v xs g =>
  cases(show u=Value.ref a from f);obtain⟨_,_,_,n,_,j⟩:=(show b_ X.prog X.w X.K H s.heap a (.frz v (.lst xs))from I.hok a _ g);exact jb PySem.W.kitx_list I.kIn ⟨_,j,rfl⟩ e (fun z=>nomatch z) h
 |@tup a xs g =>
  cases(show u=Value.ref a from f);obtain⟨_,_,_,p⟩:=(show b_ X.prog X.w X.K H s.heap a (.tup xs)from I.hok a _ g);obtain⟨o,j,l,_⟩:=p;exact jb PySem.W.kitx_tuple I.kIn ⟨o,j,l⟩ e (fun z=>nomatch z) h
 |@dK a k g =>
  cases(show u=Value.ref a from f);obtain⟨_,_,N,_,p⟩:=(show b_ X.prog X.w X.K H s.heap a (.dK k)from I.hok a _ g);obtain⟨o,B,D,j,l,_⟩:=p;exact jb PySem.W.kitx_dict I.kIn ⟨o,j,l.1⟩ e (fun z=>nomatch z) h
 |@dT a k g =>
  cases(show u=Value.ref a from f);obtain⟨_,_,xs,_,o,B,D,j,l,_⟩:=(show b_ X.prog X.w X.K H s.heap a (.dT k)from I.hok a _ g);exact jb PySem.W.kitx_dict I.kIn ⟨o,j,l.1⟩ e (fun z=>nomatch z) h
 |@ins a C T fs g r G L m M =>
  cases(show u=Value.ref a from f);obtain⟨U,O,_⟩:=qd I.hok g;obtain⟨Y,J,_⟩:=O.look;exact jb (PySem.W.kitx_own (r.get _) r.hd G L m M) I.kIn J e (fun z=>nomatch z) h
end
end L2
namespace L2
open PySem PySem.Spec PyProof.Rows
structure cx(k:Nat)(A:Around):Prop where
 hd:A.handled=none
 dp:A.depth+3 * k+5<recursionLimit
 un:A.units+16 * k+200<cLine
theorem cx.mono{j k:Nat}{A:Around}(r:cx k A)(h:j<=k):cx j A:=⟨r.hd,by have:=r.dp;omega,by have:=r.un;omega⟩
theorem cx.deeper{k:Nat}{A:Around}(r:cx (k+1) A)(a:Env):cx k (A.deeper a) :=
 ⟨r.hd,by have:=r.dp;show A.depth+1+3 * k+5<_;omega,by have:=r.un;show A.units+3+16 * k+200<_;omega⟩
theorem yH{A:Around}{C:Addr}{a:Zf}{e:List (Str×Value)}:(A.under (.builtin "type.__call__" ⟨.ref C::a,e⟩)).depth=A.depth+1:=by
 first|rfl|simp[Around.under,Code.weight,Code.isCreation,Code.isGuard,Code.isCaller,Code.frames,Code.isFrame,guardIds]
theorem yG{A:Around}{C:Addr}{a:Zf}{e:List (Str×Value)}:(A.under (.builtin "type.__call__" ⟨.ref C::a,e⟩)).units=A.units+1:=by
 first|rfl|simp[Around.under,Code.cUnits,Code.frames,Code.isFrame]
theorem cx.make{k:Nat}{A:Around}(r:cx (k+1) A)(C:Addr)(a:Zf)(e:List (Str×Value)):cx k (A.under (.builtin "type.__call__" ⟨.ref C::a,e⟩)) :=
 ⟨r.hd,by have:=r.dp;rw[yH];omega,by have:=r.un;rw[yG];omega⟩
theorem cx.depth{k:Nat}{A:Around}(r:cx k A):A.depth<recursionLimit:=by have:=r.dp;omega
theorem cx.units{k:Nat}{A:Around}(r:cx k A):A.units+64<cLine:=by have:=r.un;omega
def bA:TA:=fun _ H Q=>Q [] H
def az(ta:TE)(tr:TA):TA:=fun σ H Q=>ta σ H fun x H1=>tr σ H1 fun xs H2=>Q (x::xs) H2
abbrev aK(a:TE):TA:=az a bA
abbrev aF(a b:TE):TA:=az a (az b bA)
abbrev gR(a b c:TE):TA:=az a (az b (az c bA))
section
variable{X:Cx}{e:Expr}{es:List Expr}{te:TE}{t:TA}{pos:Pos}
theorem fP:PA X [] bA:=fun _ _ _ _ H Q I h=>Calls.spliced_nil ⟨[],H,I,.nil,h⟩
theorem bM(g:PE X e te)(i:PA X es t)(j:au (e::es) X.env=(false,eval e X.env)::au es X.env:=by rfl):PA X (e::es) (az te t):=by
 intro pos f s σ H Q I h;rw[j];show wpAny _ _ (spliced ((false,eval e X.env)::backTo pos (au es X.env))) _ _ s;refine Calls.spliced_cons (cb (g f s σ H _ I h) fun u k a=>?_);obtain⟨x,l,m,n,o⟩:=a;exact cb (i pos f k σ l _ m o) fun y z ⟨xs,p,q,r,v⟩=>⟨x::xs,p,q,.cons n r,v⟩
def eV(t:TA):TE:=fun σ H Q=>t σ H fun xs H1=>xs.length<=am/\∀p,H1 p=none->Q (.ref p) (upd H1 p (.tup xs))
def gS(t:TA):TE:=fun σ H Q=>t σ H fun xs H1=>xs.length<=am/\∀p,H1 p=none->Q (.ref p) (upd H1 p (.lst xs))
theorem bX{i}(h:PA X es t):PE X (.Tuple es i pos) (eV t):=by
 intro j s σ H Q I k;refine wpAny_Tuple_spliced (cb (h pos j s σ H _ I k) fun l a ⟨xs,f,g,r,z,q⟩=>⟨by rw[<-r.length];exact z,?_⟩);have hf:f a.heap.objs.size=none:=g.hok.fresh (aO _);refine⟨.ref a.heap.objs.size,upd f a.heap.objs.size (.tup xs),g.laid (t':=a.toks) (fun b u e=>aV _ e) (aO _) ?_,rfl,q _ hf⟩;exact⟨z,l,r,⟨_,cN _ rfl,rfl,_,rfl⟩⟩
theorem cE(h:PA X es t):PE X (.List es pos) (gS t):=by
 intro i s σ H Q I j;refine wpAny_List_spliced (cb (h pos i s σ H _ I j) fun k a ⟨xs,f,g,r,z,q⟩=>⟨by rw[<-r.length];exact z,?_⟩);have hf:f a.heap.objs.size=none:=g.hok.fresh (aO _);refine⟨.ref a.heap.objs.size,upd f a.heap.objs.size (.lst xs),g.laid (t':=a.toks) (fun b u e=>aV _ e) (aO _) ?_,rfl,q _ hf⟩;exact⟨z,k,0,r,cN _ rfl⟩
end
abbrev Sp:=List V->Hp->VK->XK->Prop
abbrev Bx:=List Env->Hp->Shared->XK->Value->Shared->Prop
structure zg(P:bg)(w:World)(K:Za)(mg:Str->Option Value)(base:Heap)(A:Around)(outer:List Env)(s:Shared)(H:Hp):Prop where
 frames:A.frames=some outer
 mod:Mod K mg base
 bs:∀b o,base.get? b=some o->s.heap.get? b=some o/\(H b=none∨∃xs,H b=some (.tup xs))
 bsz:base.objs.size<=s.heap.objs.size
 funs:s.heap.FunFrames base outer
 frf:∀b∈lJ outer,H b=none
 hok:j3 P w K H s.heap
 bare:lF s.gens
def CE(outer:List Env)(P:bg)(w:World)(K:Za)(H:Hp)(s:Shared)(Q:VK)(u:Value)(s':Shared):Prop :=
 ∃v H',s'.os=s.os/\lF s'.gens/\Un (lJ outer) [] H H' s.heap s'.heap/\j3 P w K H' s'.heap/\RelV v u/\Q v H'
def CR(CX:Bx)(outer:List Env)(P:bg)(w:World)(K:Za)(H:Hp)(s:Shared)(Q:VK)(E:XK)(r:Result)(s':Shared):Prop :=
 match r with
 |.ok (.ret u)=>CE outer P w K H s Q u s'
 |.ok _=>False
 |.error e=>CX outer H s E e s'
structure gJ(P:bg)(w:World)(K:Za)(mg:Str->Option Value)(base:Heap)(CX:Bx)(k:Nat)(f:Addr)(fd:hZ)(ps:Zb)(sp:Sp):Prop where
 len:∀vs H Q E,sp vs H Q E->vs.length=ps.length
 run:∀(A:Around) (outer:List Env) (s:Shared) (H:Hp) (args:Args) (us:Zf) (vs:List V) (Q:VK) (E:XK),cx k A->zg P w K mg base A outer s H->sU s fd args (ps.zip us)->aP vs us->sp vs H Q E ->
  zzl83 (model P w) A (.call (.ref f) args) (CR CX outer P w K H s Q E) s
theorem zg.make{P:bg}{w:World}{K:Za}{a:Str->Option Value}{base:Heap}{A:Around}{outer:List Env}{s:Shared}{H:Hp}(e:zg P w K a base A outer s H)(C:Addr)(f:Zf)(g:List (Str×Value)):
  zg P w K a base (A.under (.builtin "type.__call__" ⟨.ref C::f,g⟩)) outer s H:=⟨by first|exact e.frames|(simpa[Around.under,Code.envs,Code.isFrame,pushEnvs]using e.frames),e.mod,e.bs,e.bsz,e.funs,e.frf,e.hok,e.bare⟩
section
variable{X:Cx}{J3:Zd}{σ:St}{H:Hp}{s s':Shared}
theorem Inv.env0(I:Inv X J3 σ H s):zg X.prog X.w X.K X.mg X.base X.A X.stack s H :=
 ⟨I.ok.frames,I.ok.mod,I.bs,bp I.ok.bsz I.sz,I.stack,I.stkFree,I.hok,I.bare⟩
theorem Inv.after{Q:VK}{u:Value}(I:Inv X J3 σ H s)(h:CE X.stack X.prog X.w X.K H s Q u s'):EP X J3 σ Q u s':=by
 obtain⟨v,i,os,a,un,e,r,q⟩:=h;obtain⟨j,g,d,t,f⟩:=s';obtain rfl:f=s.os:=os;exact⟨v,i,I.call (h':=j) (g':=g) (d':=d) (t':=t) (ch:=[]) un e a (fun b z=>absurd z (by simp)),r,q⟩
end
def pA(sp:Sp)(dvs:List V)(E:XK)(t:TA):TE:=fun σ H Q=>t σ H fun vs H1=>sp (vs++dvs) H1 Q E
def gm(C:Addr)(m:Str)(sp:Sp)(dvs:List V)(E:XK)(ta:TE)(t:TA):TE:=fun σ H Q=>ta σ H fun x H1=>∃a dx fs,x=.ref a/\H1 a=some (.ins C dx fs)/\fs.lookup m=none /\
 t σ H1 fun vs H2=>sp (x::(vs++dvs)) H2 Q E
def tq(C:Addr)(sp:Sp)(dvs:List V)(E:XK)(t:TA):TE:=fun σ H Q=>t σ H fun vs H1=>∀x dx,H1 x=none->H1 dx=none->dx≠x ->
 sp (.ref x::(vs++dvs)) (upd (upd H1 dx (.own x)) x (.ins C dx [])) (fun v H2=>v=.non/\Q (.ref x) H2) E
def Binds(K:Za)(fd:hZ)(ps:Zb)(ds:Zf):Prop :=
 ∀(s:Shared) (us:Zf),K.In s.heap->(us++ds).length=ps.length->sU s fd ⟨us,[]⟩ (ps.zip (us++ds))
theorem Binds.all{K:Za}{f:hZ}{e:Zb}(h:∀a:List Value,a.length=e.length->bindArgs f ⟨a,[]⟩=pure (e.zip a)):Binds K f e []:=fun s a _ g=>by
 rw[cO]at g ⊢;exact .of_eq (h a g)
def i9(CX:Bx)(X:Cx)(E:XK):Prop:=∀(J3:Zd) (σ:St) (H:Hp) (s:Shared) (e:Value) (s':Shared),Inv X J3 σ H s->CX X.stack H s E e s'->X.xe e s'
section
variable{X:Cx}{CX:Bx}{k:Nat}{f C:Addr}{fd:hZ}{ps:Zb}{sp:Sp}{dvs:List V}{ds:Zf}{E:XK}{x m:Str}{p pos J5:Pos}{e o:Expr}{es:List Expr}{ta:TE}{t:TA}
theorem uY{g:Zd}{σ:St}{H:Hp}{s:Shared}{Q:VK}{us:Zf}{vs:List V}(F:gJ X.prog X.w X.K X.mg X.base CX k f fd ps sp)(j:cx k X.A)(l:Binds X.K fd ps ds)(n:aP dvs ds)(hx:i9 CX X E)
  (I:Inv X g σ H s) (r:aP vs us) (h:sp (vs++dvs) H Q E):wpAny (model X.prog X.w) X.A (call (.ref f) us) (EP X g σ Q) X.xe s:=by
 have i:aP (vs++dvs) (us++ds):=r.append n;have q:(us++ds).length=ps.length:=by rw[<-i.length];exact F.len _ _ _ _ h
 refine pb (qi (F.run X.A X.stack s H ⟨us,[]⟩ (us++ds) (vs++dvs) Q E j I.env0 (l s us I.kIn q) i h) fun r v a=>?_);cases r with
 |error e=>exact hx g σ H s e v I a
 |ok y =>
  cases y with
  |ret u=>exact I.after a
  |next=>exact cg a
  |brk=>exact cg a
  |cont=>exact cg a
theorem z6(F:gJ X.prog X.w X.K X.mg X.base CX k f fd ps sp)(j:cx k X.A)(l:Gl X x)(n:X.mg x=some (.ref f))(u:dB X.K (.ref f)=true)(v:Binds X.K fd ps ds)(y:aP dvs ds)(hx:i9 CX X E)
  (z:PA X (e::es) t) (a:(x==("__debug__":Str))=false:=by decide) (B:au (e::es) X.env=(false,eval e X.env)::au es X.env:=by rfl) (g:(backTo pos (au es X.env)).any (·.1)=false:=by rfl) :
  PE X (.Call (.Name x p) (e::es) [] pos) (pA sp dvs E t):=by
 intro D s σ H Q I h;refine mC (gh I l n ?_ a);refine lV (h₀:=X.base) I.ok.mod.kin u (cb (z pos D s σ H _ I h) fun G J ⟨L,M,i,r,q⟩=>⟨i.kIn,?_⟩) B g;exact uY F j v y hx i r q
theorem Ci(F:gJ X.prog X.w X.K X.mg X.base CX k f fd ps sp)(g:cx k X.A)(i:Gl X x)(j:X.mg x=some (.ref f))(l:dB X.K (.ref f)=true)(n:Binds X.K fd ps ds)(q:aP dvs ds)(hx:i9 CX X E)
  (a:(x==("__debug__":Str))=false:=by decide):PE X (.Call (.Name x p) [] [] pos) (pA sp dvs E bA):=by
 intro r s σ H Q I h;refine mC (gh I i j ?_ a);exact PySem.W.callWith_K0 I.kIn l (uY (us:=[]) F g n q hx I .nil h)
theorem DH{pl:Sem Bool}(D:PE X o ta)(c:Bq X.K C)(n:Ek X.K C m f)(F:gJ X.prog X.w X.K X.mg X.base CX k f fd ps sp)(G:cx k X.A)(J:Binds X.K fd ps ds)(L:aP dvs ds)(hx:i9 CX X E)(M:PA X (e::es) t)
  (g:au (e::es) X.env=(false,eval e X.env)::au es X.env:=by rfl) (i:(backTo pos (au es X.env)).any (·.1)=false:=by rfl)
  (N:eval (.Call (.Attribute o m J5) (e::es) [] pos) X.env=(do
   let v <- eval o X.env
   mH J5.atName
   let(f,first) <- jW [v] (mE v m pl)
   lU pos f first (backTo pos (au (e::es) X.env)) (jA pos (jz [] X.env))):=by rfl) :
  PE X (.Call (.Attribute o m J5) (e::es) [] pos) (gm C m sp dvs E ta t):=by
 intro y s σ H Q I h;refine PySem.W.methodCall_KW (pl:=pl) (cb (D y s σ H _ I h) fun u O j=>?_) N;obtain⟨x,T,z,U,a,dx,fs,ex,Y,l,q⟩:=j;subst ex;obtain rfl:u=Value.ref a:=U;refine rS z Y c n l ?_;refine lV (first:=[.ref a]) (h₀:=X.base) I.ok.mod.kin n.kp (cb (M pos y O σ T _ z q) fun us s2 ⟨vs,H2,B,r,q2⟩=>⟨B.kIn,?_⟩) g i
 exact uY (us:=.ref a::us) (vs:=.ref a::vs) F G J L hx B (.cons rfl r) q2
theorem Cg{pl:Sem Bool}(r:PE X o ta)(c:Bq X.K C)(j:Ek X.K C m f)(F:gJ X.prog X.w X.K X.mg X.base CX k f fd ps sp)(v:cx k X.A)(y:Binds X.K fd ps ds)(z:aP dvs ds)(hx:i9 CX X E)
  (B:eval (.Call (.Attribute o m J5) [] [] pos) X.env=(do
   let n <- eval o X.env
   mH J5.atName
   let(f,first) <- jW [n] (mE n m pl)
   lU pos f first (backTo pos (au [] X.env)) (jA pos (jz [] X.env))):=by rfl) :
  PE X (.Call (.Attribute o m J5) [] [] pos) (gm C m sp dvs E ta bA):=by
 intro D s σ H Q I h;refine PySem.W.methodCall_KW (pl:=pl) (cb (r D s σ H _ I h) fun u L g=>?_) B;obtain⟨x,M,i,G,a,N,fs,ex,J,l,q⟩:=g;subst ex;obtain rfl:u=Value.ref a:=G;refine rS i J c j l ?_;exact PySem.W.callWith_K0 (first:=[.ref a]) i.kIn j.kp (uY (us:=[.ref a]) (vs:=[.ref a]) F v y z hx i (.cons rfl .nil) q)
structure Mk(K:Za)(C f:Addr):Prop where
 makes:vU K C=true
 init:bC K (.ref C) "__init__"=some (some (.ref f))
 fn:mF K (.ref f)=true
 kp:dB K (.ref C)=true
theorem BT{l:Zd}{σ:St}{H:Hp}{s:Shared}{Q:VK}{g:Zf}{n:List V}(M:Mk X.K C f)(F:gJ X.prog X.w X.K X.mg X.base CX k f fd ps sp)(z:cx (k+1) X.A)(B:Binds X.K fd ps ds)(D:aP dvs ds)
  (hx:i9 CX X E) (I:Inv X l σ H s) (r:aP n g)
  (h:∀x i,H x=none->H i=none->i≠x->sp (.ref x::(n++dvs)) (upd (upd H i (.own x)) x (.ins C i [])) (fun v G=>v=.non/\Q (.ref x) G) E) :
  wpAny (model X.prog X.w) X.A (call (.ref C) g) (EP X l σ Q) X.xe s:=by
 have q:=h (s.heap.objs.size+1) s.heap.objs.size (I.hok.fresh (jy _)) (I.hok.fresh (aO _)) (bO (Nat.lt_succ_self _));have j:=Inv.made (C:=C) I;have y:aP (V.ref (s.heap.objs.size+1)::(n++dvs)) (Value.ref (s.heap.objs.size+1)::(g++ds)):=.cons rfl (r.append D);have J:(Value.ref (s.heap.objs.size+1)::g++ds).length=ps.length:=by
  have e:=y.length;rw[F.len _ _ _ _ q]at e;exact e.symm
 refine pb (wT (f:=f) I.kIn M.makes M.init (beq_iff_eq.mp M.fn) (qi (F.run _ X.stack _ _ ⟨Value.ref (s.heap.objs.size+1)::g,[]⟩ (Value.ref (s.heap.objs.size+1)::(g++ds)) _ _ E (z.make C g [])
  (j.env0.make C g []) (B _ (Value.ref (s.heap.objs.size+1)::g) j.kIn J) y q) fun r L a=>?_))
 cases r with
 |error e=>exact hx l σ _ _ e L j a
 |ok N =>
  cases N with
  |ret u =>
   obtain⟨v,O,T,U,Y,q3⟩:=j.after a;subst Y;exact⟨U,⟨V.ref (s.heap.objs.size+1),O,T,rfl,q3⟩⟩
  |next=>exact cg a
  |brk=>exact cg a
  |cont=>exact cg a
theorem DJ(M:Mk X.K C f)(F:gJ X.prog X.w X.K X.mg X.base CX k f fd ps sp)(j:cx (k+1) X.A)(l:Gl X x)(n:X.mg x=some (.ref C))(u:Binds X.K fd ps ds)(v:aP dvs ds)(hx:i9 CX X E)
  (y:PA X (e::es) t) (a:(x==("__debug__":Str))=false:=by decide) (z:au (e::es) X.env=(false,eval e X.env)::au es X.env:=by rfl) (g:(backTo pos (au es X.env)).any (·.1)=false:=by rfl) :
  PE X (.Call (.Name x p) (e::es) [] pos) (tq C sp dvs E t):=by
 intro B s σ H Q I h;refine mC (gh I l n ?_ a);refine lV (h₀:=X.base) I.ok.mod.kin M.kp (cb (y pos B s σ H _ I h) fun D G ⟨J,L,i,r,q⟩=>⟨i.kIn,?_⟩) z g;exact BT M F j u v hx i r q
end
structure gj(N P:Zb)(sc:Scope):Prop where
 kind:sc.kind=.function
 co:sc.isCoroutine=false
 gen:sc.isGenerator=false
 nd:N.Nodup
 pre:N.take P.length=P
 par:∀x∈P,sc.names.lookup x=some .local∨sc.names.lookup x=some .cell
 nofree:∀y∈sc.names,y.2≠.free
theorem tS{kindOf:Str->Option fL}{x:Str}:∀{binds:List (Str×Value)}{m:Str->Option Value},(∀v,(x,v)∉binds)->bindL kindOf binds m x=m x
 |[],_,_=>rfl
 | (n,v)::r,m,h=>by
  unfold bindL;rw[tS fun w a=>h w (dD _ a)];split
  ·have:x≠n:=by rintro rfl;exact h v eQ
   simp[this]
  ·rfl
theorem tU{kindOf:Str->Option fL}{x:Str}:∀{binds:List (Str×Value)}{m:Str->Option Value},(∀v,(x,v)∉binds)->bindC kindOf binds m x=m x
 |[],_,_=>rfl
 | (n,v)::r,m,h=>by
  unfold bindC;rw[tU fun w a=>h w (dD _ a)];split
  ·rfl
  ·have:x≠n:=by rintro rfl;exact h v eQ
   simp[this]
theorem tT{kindOf:Str->Option fL}{x:Str}{v:Value}:∀{P:Zb}{a:Zf}{i:Nat}{m:Str->Option Value},P.Nodup->P[i]?=some x->a[i]?=some v->kindOf x=some .local ->
  bindL kindOf (P.zip a) m x=some v
 |[],_,_,_,_,h,_,_=>by simp at h
 |_::_,[],_,_,_,_,h,_=>by simp at h
 |p::P,w::a,0,m,g,e,f,j=>by
  simp at e f;subst e;subst f;show bindL kindOf ((p,w)::P.zip a) m p=_;unfold bindL;rw[tS fun v k=>(jx.mp g).1 (qP k).1,if_pos j];simp
 |p::P,w::a,i+1,m,g,e,f,j=>by
  show bindL kindOf ((p,w)::P.zip a) m x=_;unfold bindL;exact tT (i:=i) (jx.mp g).2 (by simpa using e) (by simpa using f) j
theorem tV{kindOf:Str->Option fL}{x:Str}{v:Value}:∀{P:Zb}{a:Zf}{i:Nat}{m:Str->Option Value},P.Nodup->P[i]?=some x->a[i]?=some v->kindOf x≠some .local ->
  bindC kindOf (P.zip a) m x=some v
 |[],_,_,_,_,h,_,_=>by simp at h
 |_::_,[],_,_,_,_,h,_=>by simp at h
 |p::P,w::a,0,m,g,e,f,j=>by
  simp at e f;subst e;subst f;show bindC kindOf ((p,w)::P.zip a) m p=_;unfold bindC;rw[tU fun v k=>(jx.mp g).1 (qP k).1,if_neg j];simp
 |p::P,w::a,i+1,m,g,e,f,j=>by
  show bindC kindOf ((p,w)::P.zip a) m x=_;unfold bindC;exact tV (i:=i) (jx.mp g).2 (by simpa using e) (by simpa using f) j
def start(N:Zb)(vs:List V):St:=vs.map some++kq (N.length-vs.length) none
def rZ(CX:Bx)(P:bg)(w:World)(K:Za)(mg:Str->Option Value)(base:Heap)(N:Zb)(qual:Str)(scope:Scope)(f:Addr)(cd:Value)(A:Around)(outer:List Env)(s:Shared)(H:Hp)(E:XK):Cx where
 prog:=P
 w:=w
 K:=K
 mg:=mg
 base:=base
 A:=A.deeper (envOfC qual scope s.heap.objs.size f cd)
 N:=N
 s₀:=s
 H₀:=H
 env:=envOfC qual scope s.heap.objs.size f cd
 outer:=outer
 stack:=envOfC qual scope s.heap.objs.size f cd::outer
 ex:=[]
 calm:=true
 fn:=fun _=>true
 pn:=[]
 xe:=fun e s'=>wpAny (model P w) (A.deeper (envOfC qual scope s.heap.objs.size f cd)) (leaving (envOfC qual scope s.heap.objs.size f cd) e) (fun _ s''=>CX outer H s E e s'') (fun e' s''=>CX outer H s E e' s'') s'
theorem xm{a:Scope}{n:Nat}{x:Str}(h:a.names.lookup x=some .cell):∃c,(cellsFrom n a.names []).lookup x=some c:=by
 have q:=PySem.W.cellsFrom_some a.names n [] (.inl h);exact uE.mp q
theorem Ba{J:Bx}{P:bg}{w:World}{K:Za}{G:Str->Option Value}{base:Heap}{N m:Zb}{g:Str}{scope:Scope}{f:Addr}{cd:Value}{A:Around}{outer:List Env}{s L:Shared}{H:Hp}{E:XK}{I:Zf}{o:List V}
  (S:gj N m scope) (Q:A.handled=none) (l:zg P w K G base A outer s H) (hl:o.length=m.length) (r:aP o I)
  (x:InCallC s s.heap.objs.size (bindL (envOfC g scope s.heap.objs.size f cd).kindOf (m.zip I) fun _=>none) (cellsFrom (s.heap.objs.size+1) scope.names []) (bindC (envOfC g scope s.heap.objs.size f cd).kindOf (m.zip I) fun _=>none) L) :
  Inv (rZ J P w K G base N g scope f cd A outer s H E) [] (start N o) H L:=by
 have T:m.length<=N.length:=by have:=congrArg List.length S.pre;rw[aQ]at this;omega
 obtain⟨D,tk,rfl,M⟩:=x.done;have t:∀b:Addr,b∉(rZ J P w K G base N g scope f cd A outer s H E).ex:=fun b z=>absurd (show b∈([]:Ze)from z) (by simp);refine⟨⟨l.mod,S.kind,rfl,rfl,aO _,fun y z c D j=>?_,fun y hy=>?_,fun y c _ h=>?_,fun _=>Q,Around.frames_deeper l.frames,.inr ⟨rfl,rfl⟩,fun b z=>absurd z (t b),l.bs,l.bsz,fun b _ _=>t b,fun b z=>absurd z (t b),l.funs,l.frf⟩,
  rfl,l.bare,Un.kept M,⟨_,x.toInCall.ns,fun i y v D j h3=>?_⟩,fun y c h=>⟨_,x.cell y c h⟩,l.hok.fresh (aO _),fun y c h=>?_,fun p B=>absurd (show p∈([]:Zd)from B) (by simp),l.hok.kept M,?_⟩
 ·exact name_of_addr x.apart (nZ D) (nZ j)
 ·have hy:scope.names.lookup y=some .cell∨scope.names.lookup y=some .free:=hy;rcases hy with hy|hy
  ·exact xm hy
  ·exact absurd rfl (S.nofree _ (nZ hy))
 ·exact eX (x.above y c (nZ h))
 ·have hi:i<o.length:=by
   unfold start at j;by_cases hi:i<o.length
   ·exact hi
   ·rw[nY (by simpa using hi)]at j;rw[List.getElem?_replicate]at j;split at j<;>cases j
  have U:o[i]?=some v:=by
   unfold start at j;rw[kj (by simpa using hi),dq]at j;cases e:o[i]? with
   |none=>rw[e]at j;cases j
   |some a=>rw[e]at j;cases j;rfl
  obtain⟨u,O,Y⟩:=r.get U;have B:m[i]?=some y:=by
   rw[<-S.pre,List.getElem?_take_of_lt (by omega)];exact D
  have C:m.Nodup:=by rw[<-S.pre];exact S.nd.sublist (List.take_sublist _ _)
  refine⟨u,Y,?_⟩;rcases S.par y (cT B)with k|k
  ·exact .inl ⟨k,tT C B O k⟩
  ·obtain⟨c,e⟩:=xm (n:=s.heap.objs.size+1) k;refine .inr ⟨.inl k,c,e,?_⟩;have q:=x.cell y c e;rw[tV C B O (by show scope.names.lookup y≠_;rw[k];decide)]at q;exact q
 ·exact l.hok.fresh (eX (x.above y c (nZ h)))
 ·unfold start;show _=N.length;rw[aY,ao,uD];omega
theorem EJ{C:Bx}{P:bg}{w:World}{K:Za}{D:Str->Option Value}{base:Heap}{k:Nat}{f:Addr}{name a:Str}{params:Arguments}{body:List Stmt}{scope:Scope}{dV kV doc pm g ct oc:Value}{an od:Option Addr}
  {G:Array (Option Value)}{N ps:Zb}{L:Sp}(lk:K.lookup f=some ⟨oc,od,.func (ib name a params body scope dV kV doc pm an g ct),G⟩) (M:lT K g a=true) (S:gj N ps scope)
  (len:∀h H Q E,L h H Q E->h.length=ps.length)
  (i:∀(A:Around) (outer:List Env) (s:Shared) (H:Hp) (h:List V) (Q:VK) (E:XK),cx k (A.deeper (envOfC a scope s.heap.objs.size f g))->L h H Q E ->
   ∃t,vJ (rZ C P w K D base N a scope f g A outer s H E) body t/\t (bF Q) (start N h) H) :
  gJ P w K D base C (k+1) f (ib name a params body scope dV kV doc pm an g ct) ps L:=by
 refine⟨len,fun A outer s H args us h Q E O p hb r z=>?_⟩;have hl:=len _ _ _ _ z;have KX:K.In s.heap:=p.mod.kin.keeps fun b o e=>(p.bs b o e).1;have T:s.heap.NoLimit:=p.mod.nolimit.keeps fun b o e=>(p.bs b o e).1;have j:∀y∈ps.zip us,scope.names.lookup y.1=some .local∨(scope.names.lookup y.1=some .cell/\((cellsFrom (s.heap.objs.size+1) scope.names []).lookup y.1).isSome=true):=fun⟨n,v⟩ hy=>by
  rcases S.par n (qP hy).1 with q|q
  ·exact .inl q
  ·exact .inr ⟨q,PySem.W.cellsFrom_some _ _ _ (.inl q)⟩
 refine codeAny_call_function O.depth (KX _ _ lk) rfl S.co S.gen rfl (PySem.W.codeRec_of KX M) (hb _ _ _ _ ?_);refine wpAny_newFunctionEnv_cells S.kind j fun ab he s1 x=>?_;subst he;refine⟨T.keeps x.toInCall.keep,codeAny_func ?_⟩;obtain⟨t,ht,hq⟩:=i A outer s H h Q E (O.deeper _) z;have I:Inv (rZ C P w K D base N a scope f g A outer s H E) [] (start N h) H s1:=Ba S O.hd p hl r x;refine cR (ht [] s1 (start N h) H _ I hq) (fun fl U l=>?_) fun e U l=>l;have B:∀{σ':St}{m:Hp}{v:V}{u:Value},Inv (rZ C P w K D base N a scope f g A outer s H E) [] σ' m U->RelV v u->Q v m->CE outer P w K H s Q u U :=
  fun{σ' m v u} J Y q=>⟨v,m,J.os,J.bare,J.base,J.hok,Y,q⟩
 cases fl with
 |ret u =>
  obtain⟨v,σ',m,J,Y,q⟩:=l;exact B J Y q
 |next =>
  obtain⟨σ',m,J,q⟩:=l;exact B (v:=V.non) (u:=Value.none) J rfl q
 |brk =>
  obtain⟨_,_,_,q⟩:=l;exact cg q
 |cont =>
  obtain⟨_,_,_,q⟩:=l;exact cg q
end L2
namespace L2
open PySem PySem.Spec PyProof.Rows
section
variable{X:Cx}{x:Str}{p pos:Pos}{e:Expr}{es:List Expr}{t:TA}{id T:String}{r:List V->Hp->VK->Prop}
def cJ(r:List V->Hp->VK->Prop)(t:TA):TE:=fun σ H Q=>t σ H fun vs H1=>r vs H1 Q
theorem wM(i:fG X (.builtin id) r)(j:Gl X x)(k:X.mg x=none)(l:iQ x=some (.builtin id))(m:PA X (e::es) t)(n:x≠"__name__":=by decide)(a:(x==("__debug__":Str))=false:=by decide)
  (o:au (e::es) X.env=(false,eval e X.env)::au es X.env:=by rfl) (f:(backTo pos (au es X.env)).any (·.1)=false:=by rfl):PE X (.Call (.Name x p) (e::es) [] pos) (cJ r t):=by
 intro g s σ H Q I h;refine mC (oO I j k l ?_ n a);exact PyProof.Rows.callWith_builtin1 (cb (m pos g s σ H _ I h) fun q u ⟨v,y,z,B,C⟩=>i g u σ y v q Q z B C) o f
theorem oF(i:fG X (.type T) r)(j:Gl X x)(k:X.mg x=none)(l:iQ x=some (.type T))(m:PA X (e::es) t)(n:x≠"__name__":=by decide)(a:(x==("__debug__":Str))=false:=by decide)
  (o:au (e::es) X.env=(false,eval e X.env)::au es X.env:=by rfl) (f:(backTo pos (au es X.env)).any (·.1)=false:=by rfl):PE X (.Call (.Name x p) (e::es) [] pos) (cJ r t):=by
 intro g s σ H Q I h;refine mC (oO I j k l ?_ n a);exact zo (cb (m pos g s σ H _ I h) fun q u ⟨v,y,z,B,C⟩=>i g u σ y v q Q z B C) o f
end
end L2
namespace HT
open PySem PyProof.Rows
section
variable{prog:bg}{w:World}{A:Around}{E:Zc}{s:Shared}
def sIx(n d:Nat):Option Int->Nat
 |none=>d
 |some v=>if v<0 then(v+(n:Int)).toNat else min v.toNat n
theorem sIx_none(n d:Nat):sIx n d none=d:=rfl
theorem sIx_nat(n d k:Nat):sIx n d (some (k:Int))=min k n:=by
 show(if(k:Int)<0 then((k:Int)+(n:Int)).toNat else min (k:Int).toNat n)=min k n
 rw[if_neg (by omega),jw]
theorem sIx_le(n d:Nat)(e:d<=n)(o:Option Int):sIx n d o<=n:=by
 cases o with
 |none=>exact e
 |some v =>
  show(if v<0 then(v+(n:Int)).toNat else min v.toNat n)<=n
  by_cases a:v<0
  ·rw[if_pos a];omega
  ·rw[if_neg a];exact Nat.min_le_right _ _
theorem clip_eq(v:Int)(n d:Nat):(if v<0 then max (v+(n:Int)) 0 else min v (n:Int))=((sIx n d (some v):Nat):Int):=by
 show(if v<0 then max (v+(n:Int)) 0 else min v (n:Int))=(((if v<0 then(v+(n:Int)).toNat else min v.toNat n):Nat):Int)
 by_cases a:v<0
 ·simp only[if_pos a];omega
 ·simp only[if_neg a];omega
end
end HT
namespace L2
open PySem PySem.Spec PyProof.Rows
abbrev TO:=St->Hp->(Option Int->Hp->Prop)->Prop
def PO(X:Cx)(e:Option Expr)(t:TO):Prop :=
 ∀(J3:Zd) (s:Shared) (σ:St) (H:Hp) (Q:Option Int->Hp->Prop),Inv X J3 σ H s->t σ H Q ->
  wpAny (model X.prog X.w) X.A (evalPart e X.env) (fun u s'=>∃o H',Inv X J3 σ H' s'/\IsPart u o/\Q o H') X.xe s
def dY:TO:=fun _ H Q=>Q none H
def gk(t:TE):TO:=fun σ H Q=>t σ H fun x H1=>∃i,x=.int i/\Q (some i) H1
section
variable{X:Cx}{e:Expr}{te:TE}{lo hi:Option Expr}{tl th:TO}{pos p2:Pos}
theorem gf:PO X none dY:=by
 intro a s σ H Q I h;rw[evalPart_none];exact aD ⟨none,H,I,.none,h⟩
theorem dA(h:PE X e te):PO X (some e) (gk te):=by
 intro f s σ H Q I g;rw[evalPart_some];refine cb (h f s σ H _ I g) fun u n a=>?_;obtain⟨x,j,k,l,m⟩:=a;obtain⟨i,rfl,q⟩:=m;obtain⟨t,rfl⟩:=l;exact⟨some i,j,k,.int i t,q⟩
def SlR(X:Cx)(r:V->Option Int->Option Int->Hp->VK->Prop):Prop :=
 ∀(J3:Zd) (s:Shared) (σ:St) (H:Hp) (x:V) (v vl vu:Value) (lo hi:Option Int) (sl:Addr) (Q:VK),Inv X J3 σ H s->RelV x v->s.heap.IsSliceOf sl vl vu .none->IsPart vl lo->IsPart vu hi->r x lo hi H Q ->
  ∃T id,nX (.type T) "__getitem__"=pure (some (.builtin id))/\s.TypeIs v T/\wpAny (model X.prog X.w) X.A (lS v (.ref sl)) (EP X J3 σ Q) X.xe s
def x8(r:V->Option Int->Option Int->Hp->VK->Prop)(te:TE)(tl th:TO):TE:=fun σ H Q=>te σ H fun x H1=>tl σ H1 fun l H2=>th σ H2 fun u H3=>r x l u H3 Q
theorem dg{r:V->Option Int->Option Int->Hp->VK->Prop}(m:SlR X r)(n:PE X e te)(o:PO X lo tl)(p:PO X hi th):PE X (.Subscript e (.Slice lo hi none p2) pos) (x8 r te tl th):=by
 intro g s σ H Q I h;refine uC (cb (n g s σ H _ I h) fun v t f=>?_);obtain⟨x,y,z,B,C⟩:=f;refine wpAny_Slice (cb (o g t σ y _ z C) fun i D ⟨l,E,G,J,L⟩=>cb (p g D σ E _ G L) fun j a f=>?_);obtain⟨u,k,M,N,O⟩:=f;rw[evalPart_none];refine aD ?_;have U:Inv X g σ k { a with heap:=a.heap.push { cls:=.type "slice",data:=.fields #[i,j,.none] } }:=M.kept (t':=a.toks) fun b ob q=>aV _ q;obtain⟨T,id,Y,ht,hg⟩:=m g { a with heap:=a.heap.push { cls:=.type "slice",data:=.fields #[i,j,.none] } } σ k x v i j l u a.heap.objs.size Q U B (Heap.IsSliceOf.new ..) J N O;show wpAny (model X.prog X.w) X.A (uB e (.Slice lo hi none p2) v (.ref a.heap.objs.size)) (EP X g σ Q) X.xe { a with heap:=a.heap.push { cls:=.type "slice",data:=.fields #[i,j,.none] } };exact tail_any (ops:=[.ref a.heap.objs.size,v]) ht Y hg (by with_unfolding_all rfl)
def jm(xs:List V)(lo hi:Option Int):List V:=(xs.drop (HT.sIx xs.length 0 lo)).take (HT.sIx xs.length xs.length hi-HT.sIx xs.length 0 lo)
theorem xj(xs:List V)(lo hi:Option Int):(jm xs lo hi).length<=xs.length:=by
 unfold jm;rw[aQ,fh];omega
end
end L2
namespace L2
open PySem PySem.Spec PyProof.Rows
def EH(n:Nat)(i:Int):Option Nat:=if 0<=i then(if i<n then some i.toNat else none)else if -(n:Int)<=i then some (i+n).toNat else none
def y0{α:Type}(xs:List α)(i:Int):Option α:=(EH xs.length i).bind fun j=>xs[j]?
theorem Af{n:Nat}{i:Int}{j:Nat}(h:EH n i=some j):seqIndex? i n=some j/\j<n/\-(n:Int)<=i/\i<n:=by
 unfold EH at h;by_cases f:0<=i
 ·rw[if_pos f]at h;by_cases a:i<n
  ·rw[if_pos a]at h;have e:i.toNat=j:=dE h;exact⟨by rw[seqIndex_of f a,e],by omega,by omega,a⟩
  ·rw[if_neg a]at h;cases h
 ·rw[if_neg f]at h;by_cases a:-(n:Int)<=i
  ·rw[if_pos a]at h;have e:(i+n).toNat=j:=dE h;exact⟨by rw[seqIndex_neg (by omega) a,e],by omega,a,by omega⟩
  ·rw[if_neg a]at h;cases h
theorem vF{α:Type}{xs:List α}{i:Int}{v:α}(h:y0 xs i=some v):∃j,seqIndex? i xs.length=some j/\xs[j]?=some v/\j<xs.length/\-(xs.length:Int)<=i/\i<xs.length:=by
 unfold y0 at h;cases e:EH xs.length i with
 |none=>rw[e]at h;cases h
 |some j =>
  rw[e]at h;obtain⟨a,f,g,k⟩:=Af e;exact⟨j,a,h,f,g,k⟩
theorem c_{α:Type}{xs:List α}{j:Nat}{v:α}(h:xs[j]?=some v):y0 xs (j:Int)=some v:=by
 have a:j<xs.length:=(da.mp h).1;have e:EH xs.length (j:Int)=some j:=by
  unfold EH;rw[if_pos (by omega),if_pos (by omega)];simp
 unfold y0;rw[e];exact h
def Ei(b:Expr):Prop:=∀o i,uA b false o i=operate [o,i] (lS o i)
def El(X:Cx)(r:R2):Prop :=
 ∀(value slice:Expr) (J3:Zd) (s:Shared) (σ:St) (H:Hp) (x y:V) (v u:Value) (Q:VK),Inv X J3 σ H s->RelV x v->RelV y u->r x y H Q ->
  uA slice false v u=operate [v,u] (lS v u)->wpAny (model X.prog X.w) X.A (uB value slice v u) (EP X J3 σ Q) X.xe s
def MtR(X:Cx)(id:String)(r:V->List V->Hp->VK->Prop):Prop :=
 ∀(J3:Zd) (s:Shared) (σ:St) (H:Hp) (x:V) (xs:List V) (v:Value) (us:Zf) (Q:VK),Inv X J3 σ H s->RelV x v->aP xs us->r x xs H Q ->
  wpAny (model X.prog X.w) X.A (call (.builtin id) (v::us)) (EP X J3 σ Q) X.xe s
section
variable{X:Cx}{a b:Expr}{ta tb:TE}{pos:Pos}
theorem El.or{r e:R2}(h:El X r)(k:El X e):El X (fun x y H Q=>r x y H Q∨e x y H Q):=by
 intro value slice f s σ H x y v u Q I g i q j;rcases q with q|q
 ·exact h value slice f s σ H x y v u Q I g i q j
 ·exact k value slice f s σ H x y v u Q I g i q j
theorem zZ{r:R2}(e:El X r)(f:PE X a ta)(g:PE X b tb)(i:Ei b):PE X (.Subscript a b pos) (aM r ta tb):=by
 intro j s σ H Q I h;exact uC (FU f g I h fun v u k x y l m n o q=>e a b j k σ l x y v u Q m n o q (i _ _))
def eJ(K:Za):R2:=fun x y H Q=>∃p xs i v,x=.ref p/\y=.int i/\aB K H p xs/\y0 xs i=some v/\Q v H
def B6(K:Za):R2:=fun x y H Q=>∃p xs i v,x=.ref p/\y=.int i/\bN K H p xs/\y0 xs i=some v/\Q v H
def uZ:R2:=fun x y H Q=>∃z i c,x=.str z/\y=.int i/\z.length<=am/\y0 z.cps.toList i=some c/\Q (.str ⟨#[c]⟩) H
theorem Ae:El X (eJ X.K):=by
 intro value slice n s σ H x y v u Q I D E h o;obtain⟨p,xs,i,z,rfl,rfl,G,J,q⟩:=h;cases D;obtain⟨t,rfl⟩:=E;obtain⟨g,r,k,U⟩:=I.list G;obtain⟨j,f,L,Y,M,N⟩:=vF J;obtain⟨w,B,l⟩:=r.get L;have O:=r.length;have hn:=oM;have e:EP X n σ Q w s:=⟨z,H,I,l,q⟩;by_cases C:0<=i
 ·have m:i.toNat=j:=by
   rw[seqIndex_of C N]at f;exact dE f
  exact item_listR k.isList C (by omega) (by rw[m];simpa using B) e o
 ·have m:(i+(g.toArray.size:Int)).toNat=j:=by
   rw[seqIndex_neg (by omega) M]at f;rw[bE,<-O];exact dE f
  exact subscriptTail_builtinR (x:=w) k.isList.typeIs slot_list_getitem.lookup
   (wpAny_getItem_list_neg (Q:=fun r T=>r=w/\EP X n σ Q r T) k.isList (by omega) (by rw[bE]<;>omega) (by omega) (by rw[m];simpa using B) ⟨rfl,e⟩) o
theorem CA:El X (B6 X.K):=by
 intro value slice g s σ H x y v u Q I l m h n;obtain⟨p,xs,i,z,rfl,rfl,o,B,q⟩:=h;cases l;obtain⟨t,rfl⟩:=m;obtain⟨C,r,k,M⟩:=I.tuple o;obtain⟨j,D,E,N,O,T⟩:=vF B;obtain⟨w,G,e⟩:=r.get E;have J:=r.length;have U:=oM;have f:EP X g σ Q w s:=⟨z,H,I,e,q⟩;exact subscriptTail_builtinR (x:=w) k.typeIs slot_tuple_getitem.lookup
  (getItem_tuple (j:=j) (Q:=fun r L=>r=w/\EP X g σ Q r L) k (by omega) (by omega) (by rw[bE,<-J];exact D) (by simpa using G) ⟨rfl,f⟩) n
theorem CB:El X uZ:=by
 intro value slice C s σ H x y v u Q I f g h k;obtain⟨z,i,c,rfl,rfl,D,l,q⟩:=h;obtain⟨t,rfl⟩:=f;obtain⟨E,rfl⟩:=g;obtain⟨j,e,m,G,n,o⟩:=vF l;have p:z.cps.toList.length=z.length:=by simp[Str.length]
 rw[p]at e n o;have J:=oM;exact tail_any (typeIs_str s z t) slot_str_getitem.lookup (getItem_str (c:=c) (by
  have r:decide (i < -(2 ^ 63:Int))=false:=zzr0 (by omega);have B:decide (i ≥ 2 ^ 63)=false:=zzr0 (by omega);rw[r,B,Bool.or_false]) (by rw[e];simpa using m) ⟨.str ⟨#[c]⟩,H,I.tok _,⟨_,rfl⟩,q⟩) k
def oy(K:Za):R2:=fun x y H Q=>eJ K x y H Q∨B6 K x y H Q∨uZ x y H Q
theorem FF:El X (oy X.K):=Ae.or (CA.or CB)
theorem yF(e:Zf)(n j:Nat)(u:Value):qO (·.setIfInBounds j u) { cls:=.type "list",data:=.seq e.toArray n }={ cls:=.type "list",data:=.seq (e.set j u).toArray n }:=by
 simp[qO]
theorem Inv.lst{g:Zd}{σ:St}{H:Hp}{s:Shared}{p:Addr}{xs:List V}(I:Inv X g σ H s)(h:H p=some (.lst xs)):
  ∃(f:Zf) (n:Nat),aP xs f/\s.heap.get? p=some { cls:=.type "list",data:=.seq f.toArray n }/\xs.length<=am:=by
 obtain⟨z,f,n,r,e⟩:=I.hok p _ h;exact⟨f,n,r,e,z⟩
theorem Inv.lstUpd{l:Zd}{σ:St}{H:Hp}{s:Shared}{p:Addr}{xs j:List V}{i g:Zf}{n k:Nat}{f:Obj->Obj}(I:Inv X l σ H s)(h:H p=some (.lst xs))
  (m:s.heap.get? p=some { cls:=.type "list",data:=.seq i.toArray n }) (hf:f { cls:=.type "list",data:=.seq i.toArray n }={ cls:=.type "list",data:=.seq g.toArray k }) (r:aP j g) (o:j.length<=am) (t:Nat) :
  Inv X l σ (upd H p (.lst j)) { s with heap:=s.heap.update p f,toks:=t }:=by
 have e:(s.heap.update p f).get? p=some { cls:=.type "list",data:=.seq g.toArray k }:=by
  rw[fK f m (by rw[hf]<;>rfl),hf]
 refine I.write (x:=p) (e:=p) (by rw[h];trivial) (.inl rfl) (fun b u v q=>(eI _ _ (cy v)).trans q) ⟨_,e⟩ ?_;exact⟨o,g,k,r,e⟩
def rm:V->V->V->Hp->(Hp->Prop)->Prop:=fun o i v H Q=>∃p xs k j,o=.ref p/\i=.int k/\H p=some (.lst xs)/\EH xs.length k=some j/\Q (upd H p (.lst (xs.set j v)))
theorem kF:GL X rm:=by
 intro D s σ H o i v N O u Q I E G J h;obtain⟨p,xs,k,j,rfl,rfl,x,L,q⟩:=h;cases E;obtain⟨t,rfl⟩:=G;obtain⟨e,n,r,g,M⟩:=I.lst x;obtain⟨f,T,y,z⟩:=Af L;have l:=r.length;have U:=oM;have B:Inv X D σ (upd H p (.lst (xs.set j v))) { s with heap:=s.heap.update p (qO (·.setIfInBounds j u)) } :=
  I.lstUpd x g (yF e n j u) (r.set J j) (by rw[uz];exact M) s.toks
 by_cases C:0<=k
 ·have m:k.toNat=j:=by
   rw[seqIndex_of C z]at f;exact dE f
  exact PySem.W.ki_setAt g C (by omega) (by rw[bE,<-l];exact z) (by rw[m];exact⟨_,B,q⟩)
 ·have m:(k+(e.toArray.size:Int)).toNat=j:=by
   rw[seqIndex_neg (by omega) y]at f;rw[bE,<-l];exact dE f
  exact PySem.W.ki_setBack g (by omega) (by rw[bE,<-l];exact y) (by omega) (by rw[m];exact⟨_,B,q⟩)
theorem uV(lo hi:Option Int)(n:Nat):(lR lo hi none n).1=((HT.sIx n 0 lo:Nat):Int)/\(lR lo hi none n).2.1=((HT.sIx n n hi:Nat):Int)/\(lR lo hi none n).2.2=1:=by
 refine⟨?_,?_,rfl⟩
 ·cases lo with
  |none=>simp[lR,HT.sIx]
  |some i =>
   simp only[lR,HT.sIx,Option.getD_none,show(1:Int) > 0 by decide,if_true];by_cases h:i<0
   ·simp only[h,if_true]<;>omega
   ·simp only[h,if_false]<;>omega
 ·cases hi with
  |none=>simp[lR,HT.sIx]
  |some i =>
   simp only[lR,HT.sIx,Option.getD_none,show(1:Int) > 0 by decide,if_true];by_cases h:i<0
   ·simp only[h,if_true]<;>omega
   ·simp only[h,if_false]<;>omega
theorem sG(e:Zf)(lo hi:Option Int):uy e.toArray lo hi none=((e.drop (HT.sIx e.length 0 lo)).take (HT.sIx e.length e.length hi-HT.sIx e.length 0 lo)).toArray:=by
 obtain⟨f,g,h⟩:=uV lo hi e.toArray.size;unfold uy;rw[f,g,h];simp only[sliceRange_one,pick_run,bE]<;>rfl
def wH(K:Za):V->Option Int->Option Int->Hp->VK->Prop:=fun x lo hi H Q=>∃a xs,x=.ref a/\aB K H a xs/\∀p,H p=none->Q (.ref p) (upd H p (.lst (jm xs lo hi)))
theorem jF:SlR X (wH X.K):=by
 intro n s σ H x v p t lo hi u Q I g i j k h;obtain⟨a,xs,rfl,hx,q⟩:=h;cases g;obtain⟨l,r,f,m⟩:=I.list hx;have e:=r.length;refine⟨"list",_,slot_list_getitem.lookup,f.isList.typeIs,?_⟩;refine wpAny_getItem_list_slice f.isList i j k .none (by simp) ?_ (by rw[bE]<;>omega);rw[sG,<-e];refine⟨.ref s.heap.objs.size,_,I.laid (t':=s.toks) (o:=.lst (jm xs lo hi)) (fun b y q=>aV _ q) (aO _) ?_,rfl,q _ (I.hok.fresh (aO _))⟩;exact⟨bp (xj xs lo hi) m,_,0,(r.drop (HT.sIx xs.length 0 lo)).take (HT.sIx xs.length xs.length hi-HT.sIx xs.length 0 lo),cN _ rfl⟩
theorem vC:fG X (.builtin "len") (fun xs H Q=>∃p f,xs=[.ref p]/\(aB X.K H p f∨bN X.K H p f)/\Q (.int f.length) H):=by
 intro m s σ H xs n Q I r h;obtain⟨p,f,rfl,hq,q⟩:=h;obtain⟨u,rfl,k⟩:=vals1 r;cases k;have o:=oM;rcases hq with hq|hq
 ·obtain⟨g,i,j,l⟩:=I.list hq;have e:=i.length;exact Calls.call_len_list j.isList (by simp only[bE]<;>omega) ⟨.int f.length,H,I.tok _,⟨s.toks+1,by rw[bE,e]⟩,q⟩
 ·obtain⟨g,i,j,l⟩:=I.tuple hq;have e:=i.length;exact len_tuple j (by simp only[bE]<;>omega) ⟨.int f.length,H,I.tok _,⟨s.toks+1,by rw[bE,e]⟩,q⟩
theorem vB:fG X (.builtin "len") (fun xs H Q=>∃z,xs=[.str z]/\z.length<=am/\Q (.int z.length) H):=by
 intro e s σ H xs f Q I r h;obtain⟨z,rfl,g,q⟩:=h;obtain⟨u,rfl,t,rfl⟩:=vals1 r;have i:=oM;exact len_str (by omega) ⟨.int z.length,H,I.tok _,⟨_,rfl⟩,q⟩
theorem fG.or{f:Value}{r e:List V->Hp->VK->Prop}(h:fG X f r)(k:fG X f e):fG X f (fun xs H Q=>r xs H Q∨e xs H Q):=by
 intro g s σ H xs i Q I j q;rcases q with q|q
 ·exact h g s σ H xs i Q I j q
 ·exact k g s σ H xs i Q I j q
theorem vA:fG X (.type "list") (fun xs H Q=>∃p i,xs=[.ref p]/\(aB X.K H p i∨bN X.K H p i)/\∀l,H l=none->Q (.ref l) (upd H l (.lst i))):=by
 intro D s σ H xs G Q I r h;obtain⟨p,i,rfl,hq,q⟩:=h;obtain⟨u,rfl,E⟩:=vals1 r;cases E;have m:∀(f:Zf),aP i f->i.length<=am->∀(g:Heap) (j:Nat),(∀b C,s.heap.get? b=some C->g.get? b=some C) ->
   g.get? s.heap.objs.size=some { cls:=.type "list",dict:=none,data:=.seq f.toArray j,slots:=#[] }->EP X D σ Q (.ref s.heap.objs.size) { s with heap:=g }:=fun f k t g j kp e =>
  ⟨.ref s.heap.objs.size,_,I.laid (t':=s.toks) kp (aO _) (show b_ X.prog X.w X.K _ g _ (.lst i)from⟨t,f,j,k,e⟩),rfl,q _ (I.hok.fresh (aO _))⟩
 rcases hq with hq|hq
 ·obtain⟨f,k,x,t⟩:=I.list hq;have v:=k.length;obtain⟨o,y,z,n,B⟩:=x.isList;exact call_list_seq p (.inl rfl) y z B (fun g j kp e=>m f k t g j kp e) (by simp only[bE]<;>omega)
 ·obtain⟨f,k,x,t⟩:=I.tuple hq;have v:=k.length;obtain⟨o,y,z,n,B⟩:=x;exact call_list_seq p (.inr rfl) y z B (fun g j kp e=>m f k t g j kp e) (by simp only[bE]<;>omega)
def tyV(K:Za)(T:String)(x:V)(H:Hp):Prop:=match x with
 |.str _=>T="str"
 |.int _=>T="int"
 |.ref p=>(T="list"/\∃xs,aB K H p xs)∨(T="tuple"/\∃o,K.lookup p=some o/\o.cls=.type "tuple"/\o.dict=none) ∨
   (T="dict"/\((∃kvs,H p=some (.dK kvs))∨∃kvs,H p=some (.dT kvs)))∨(T="set"/\∃S n,H p=some (.set S n))
 |_=>False
theorem BG{m:Zd}{σ:St}{H:Hp}{s:Shared}{T:String}{x:V}{v:Value}(I:Inv X m σ H s)(r:RelV x v)(ty:tyV X.K T x H):
  s.TypeIs v T/\∀a,v=.ref a->∃k,s.heap.get? a=some k/\k.dict=none:=by
 cases x with
 |str z =>
  obtain⟨t,rfl⟩:=r;cases(show T="str" from ty);exact⟨typeIs_str s z t,fun _ e=>nomatch e⟩
 |int i =>
  obtain⟨t,rfl⟩:=r;cases(show T="int" from ty);exact⟨typeIs_int s i t,fun _ e=>nomatch e⟩
 |ref p =>
  cases r;rcases ty with⟨rfl,xs,q⟩|⟨rfl,o,f,u,g⟩|⟨rfl,f⟩|⟨rfl,S,n,f⟩
  ·obtain⟨y,_,l,_⟩:=I.list q;refine⟨l.isList.typeIs,fun a e=>?_⟩;cases e;obtain⟨o,n,e,c,g,_⟩:=l;exact⟨o,e,g⟩
  ·refine⟨⟨o,I.kIn p o f,u⟩,fun a e=>?_⟩;cases e;exact⟨o,I.kIn _ o f,g⟩
  ·have z:∃o,s.heap.get? p=some o/\o.ExactDict:=by
    rcases f with⟨h,f⟩|⟨h,f⟩
    ·obtain⟨_,_,_,_,o,_,_,e,ex,_⟩:=I.hok p _ f;exact⟨o,e,ex⟩
    ·obtain⟨_,_,_,_,o,_,_,e,ex,_⟩:=I.hok p _ f;exact⟨o,e,ex⟩
   obtain⟨o,e,ex⟩:=z;refine⟨⟨o,e,ex.1⟩,fun a j=>?_⟩;cases j;exact⟨o,e,ex.2.1⟩
  ·obtain⟨o,_,_,_,e,ex,_⟩:=I.hok p _ f;refine⟨⟨o,e,ex.1⟩,fun a j=>?_⟩;cases j;exact⟨o,e,ex.2.1⟩
 |_=>exact cg ty
def Gn(K:Za)(T:String)(r:V->List V->Hp->VK->Prop)(to:TE):TE:=fun σ H Q=>to σ H fun x H1=>tyV K T x H1/\r x [] H1 Q
def yf(K:Za)(T:String)(r:V->List V->Hp->VK->Prop)(to:TE)(t:TA):TE:=fun σ H Q=>to σ H fun x H1=>tyV K T x H1/\t σ H1 fun xs H2=>r x xs H2 Q
variable{o e:Expr}{es:List Expr}{to:TE}{t:TA}{name:Str}{J5 J4:Pos}{T id:String}{r:V->List V->Hp->VK->Prop}
theorem FB(p:PlainAttrs T)(i:Slot T name id)(j:typeOf (.builtin id)=pure (.type "method_descriptor"))(q:MtR X id r)(u:PE X o to)
  (f:sV o name X.env (eval o X.env)=eval o X.env:=by rfl) (g:(J5.endLine==J4.line)=true:=by rfl):PE X (.Call (.Attribute o name J5) [] [] J4) (Gn X.K T r to):=by
 intro l s σ H Q I h;refine wpAny_Call_method0_late f g (cb (u l s σ H _ I h) fun v y k=>?_);obtain⟨x,z,m,n,ty,B⟩:=k;obtain⟨C,D⟩:=BG m n ty;exact⟨T,id,p,i,j,C,D,Calls.callWith_builtin rfl (PySem.evalArgs_none (q l y σ z x [] v [] Q m n .nil B))⟩
theorem kI(y:PlainAttrs T)(j:Slot T name id)(l:typeOf (.builtin id)=pure (.type "method_descriptor"))(z:MtR X id r)(B:PE X o to)(C:PA X (e::es) t)
  (g:sV o name X.env (eval o X.env)=eval o X.env:=by rfl)
  (k:((backTo J4 (au (e::es) X.env)).all (fun x=>!x.1) && (jA J4 (jz [] X.env)).all (fun x=>x.1.isSome)
   && decide ((e::es).length+([]:List Keyword).length+(if([]:List Keyword).isEmpty then 0 else 1)<30))=true:=by rfl)
  (i:(J5.endLine==J4.line)=true:=by rfl) (D:au (e::es) X.env=(false,eval e X.env)::au es X.env:=by rfl) (f:(backTo J4 (au es X.env)).any (·.1)=false:=by rfl) :
  PE X (.Call (.Attribute o name J5) (e::es) [] J4) (yf X.K T r to t):=by
 intro m s σ H Q I h;refine wpAny_Call_method_late g k i rfl (cb (B m s σ H _ I h) fun v E n=>?_);obtain⟨x,G,p,q,ty,J⟩:=n;obtain⟨L,M⟩:=BG p q ty;refine⟨T,id,y,j,l,L,M,?_⟩;have u:=C J4 m E σ G _ p J;rw[D]at u ⊢;refine Calls.callWith_builtin (by show(false || (backTo J4 (au es X.env)).any (·.1))=false;rw[f]<;>rfl) (Calls.evalArgs_plain ?_);exact cb u fun N O ⟨U,Y,I2,r2,q2⟩=>z m O σ Y x U v N Q I2 q r2 q2
end
end L2
namespace L2
open PySem PySem.Spec PyProof.Rows
def GO(X:Cx)(id:String)(r:V->List V->Hp->VK->Prop):Prop :=
 ∀(J3:Zd) (s:Shared) (σ:St) (H:Hp) (x:V) (xs:List V) (v:Value) (us:Zf) (Q:VK),Inv X J3 σ H s->RelV x v->aP xs us->r x xs H Q ->
  wpAny (model X.prog X.w) X.A (call (.builtin id) (v::us)) (EP X J3 σ Q) X.xe s
theorem aP.one{x:V}{a:Zf}(h:aP [x] a):∃u,a=[u]/\RelV x u:=by
 cases h with
 |cons r t=>cases t;exact⟨_,rfl,r⟩
theorem aP.two{x y:V}{a:Zf}(h:aP [x,y] a):∃u v,a=[u,v]/\RelV x u/\RelV y v:=by
 cases h with
 |cons r t =>
  obtain⟨v,e,q⟩:=aP.one t;exact⟨_,v,by rw[e],r,q⟩
theorem aP.zero:∀{a:Zf},aP [] a->a=[]
 |_,.nil=>rfl
theorem aP.dropLast{xs:List V}{a:Zf}(h:aP xs a):aP xs.dropLast a.dropLast:=by
 induction h with
 |nil=>exact .nil
 |cons r t e =>
  cases t with
  |nil=>exact .nil
  |cons q f=>exact .cons r e
theorem aP.reverse{xs:List V}{a:Zf}(h:aP xs a):aP xs.reverse a.reverse:=by
 induction h with
 |nil=>exact .nil
 |cons r t e=>rw[List.reverse_cons,List.reverse_cons];exact aP.append e (.cons r .nil)
theorem yS{α:Type}(l:List α):l.eraseIdx (l.length-1)=l.dropLast:=by
 induction l with
 |nil=>rfl
 |cons a r f =>
  cases r with
  |nil=>rfl
  |cons b r =>
   have e:(a::b::r).length-1=((b::r).length-1)+1:=by
    have g:(a::b::r).length=r.length+2:=rfl;have h:(b::r).length=r.length+1:=rfl;omega
   rw[e,List.eraseIdx_cons_succ,f]
   all_goals rfl
section
variable{X:Cx}{J3:Zd}{σ:St}{H:Hp}{s:Shared}{l b:Addr}{xs ys zs:List V}
theorem Inv.lset{a its':Zf}{n:Nat}{f:Array Value->Array Value}{g:Nat}(I:Inv X J3 σ H s)(h:H l=some (.lst xs))
  (e:s.heap.get? l=some { cls:=.type "list",data:=.seq a.toArray n }) (hf:f a.toArray=its'.toArray) (i:aP ys its') (j:ys.length<=am) :
  Inv X J3 σ (upd H l (.lst ys)) { s with heap:=s.heap.update l (qO f),toks:=g }:=by
 have q:=PySem.IsL.update e f;rw[hf]at q;refine I.write (x:=l) (e:=l) (by rw[h];exact trivial) (.inl rfl) (fun o u k m=>(eI s.heap (qO f) (cy k)).trans m) ⟨_,q⟩ ?_;exact⟨j,its',_,i,q⟩
theorem Inv.lnew{a:Zf}{t':Nat}(I:Inv X J3 σ H s)(e:aP ys a)(f:ys.length<=am):
  Inv X J3 σ (upd H s.heap.objs.size (.lst ys)) { s with heap:=s.heap.push { cls:=.type "list",data:=.seq a.toArray },toks:=t' } :=
 I.laid (fun _ _ q=>aV _ q) (aO _) ⟨f,a,0,e,cN _ rfl⟩
theorem Inv.fresh(I:Inv X J3 σ H s):H s.heap.objs.size=none:=I.hok.fresh (aO _)
theorem Inv.lstM(I:Inv X J3 σ H s)(f:H l=some (.lst xs)):xs.length<=am/\∃(a:Zf) (n:Nat),aP xs a/\xs.length=a.length/\s.heap.get? l=some { cls:=.type "list",data:=.seq a.toArray n }:=by
 obtain⟨z,a,n,r,e⟩:=I.hok l _ f;exact⟨z,a,n,r,r.length,e⟩
end
section
variable{X:Cx}
def gU:V->List V->Hp->VK->Prop:=fun x vs H Q=>∃l xs y,x=.ref l/\vs=[y]/\H l=some (.lst xs)/\xs.length<am/\Q .non (upd H l (.lst (xs++[y])))
theorem eT:GO X "list.append" gU:=by
 intro k s σ H x m v o Q I g i h;obtain⟨l,xs,y,rfl,rfl,f,p,q⟩:=h;cases g;obtain⟨u,rfl,j⟩:=i.one;obtain⟨z,a,n,r,t,e⟩:=I.lstM f;refine ux F.slot_list_append ⟨_,e,rfl⟩ F.entry_list_append (F.args_list_append_2 _ _) (PySem.list_append l a.toArray n u (by rw[bE];omega)) ⟨e,?_⟩;refine⟨.non,_,I.lset (its':=a++[u]) f e (by simp) (r.append (.cons j .nil)) ?_,rfl,q⟩;rw[aY,List.length_singleton];omega
def Gr:V->List V->Hp->VK->Prop:=fun x vs H Q=>∃l xs y,x=.ref l/\vs=[]/\H l=some (.lst xs)/\xs[xs.length-1]?=some y/\Q y (upd H l (.lst xs.dropLast))
theorem FD:GO X "list.pop" Gr:=by
 intro B s σ H x C v D Q I j k h;obtain⟨l,xs,y,rfl,rfl,i,m,q⟩:=h;cases j;have f:=k.zero;subst f;obtain⟨z,a,n,r,o,e⟩:=I.lstM i;obtain⟨u,p,t⟩:=r.get m;have g:a.toArray[a.toArray.size-1]?=some u:=by
  show a.toArray[a.length-1]?=some u;rw[<-qN,<-o];exact p
 refine ux F.slot_list_pop ⟨_,e,rfl⟩ F.entry_list_pop (F.args_list_pop_1 _) (MeetsSeq.list_pop_last l a.toArray n u g (by rw[bE];omega)) ⟨e,?_⟩;refine⟨y,_,I.lset (its':=a.dropLast) i e ?_ r.dropLast ?_,t,q⟩
 ·show a.toArray.eraseIdxIfInBounds (a.toArray.size-1)=a.dropLast.toArray;rw[bE,List.eraseIdxIfInBounds_toArray,yS]
 ·rw[List.length_dropLast];omega
def yv:R2:=fun x y H Q=>∃l b xs zs,x=.ref l/\y=.ref b/\H l=some (.lst xs)/\H b=some (.lst zs)/\xs.length+zs.length<=am/\∀p,H p=none->Q (.ref p) (upd H p (.lst (xs++zs)))
theorem vb:nI X (pd .Add) yv:=by
 intro B s σ H x y v u Q I g i h;obtain⟨l,b,xs,C,rfl,rfl,j,k,D,q⟩:=h;cases g;cases i;obtain⟨z,f,n,r,E,e⟩:=I.lstM j;obtain⟨G,a,J,m,o,p⟩:=I.lstM k;refine PySem.P.add_list e p ?_ (by rw[bE,bE];omega);have t:f.toArray++a.toArray=(f++a).toArray:=by simp
 rw[t];exact⟨.ref _,_,I.lnew (t':=s.toks) (r.append m) (by rw[aY];omega),rfl,q _ I.fresh⟩
end
end L2
namespace L2
open PySem PySem.Spec PyProof.Rows
section
variable{κ:Type}[DecidableEq κ]
def cY(kvs:List (κ×V))(k:κ):Option V:=(kvs.find? fun kv=>decide (kv.1=k)).map (·.2)
def fM(kvs:List (κ×V))(k:κ)(v:V):List (κ×V) :=
 if(kvs.any fun kv=>decide (kv.1=k))=true then kvs.map (fun kv=>if kv.1=k then(kv.1,v)else kv)else kvs++[(k,v)]
theorem db{p:κ×V}{r:List (κ×V)}{k:κ}(e:p.1=k):cY (p::r) k=some p.2:=by simp[cY,nW,e]
theorem cU{p:κ×V}{r:List (κ×V)}{k:κ}(e:¬p.1=k):cY (p::r) k=cY r k:=by simp[cY,nW,e]
theorem kr(k:κ):∀a:List (κ×V),(a.any fun f=>decide (f.1=k))=(cY a k).isSome
 |[]=>rfl
 |p::r=>by
  rw[uw];by_cases e:p.1=k
  ·simp only[db e,zzr1 e,Bool.true_or,Option.isSome_some]
  ·rw[cU e,zzr0 e,Bool.false_or];exact kr k r
theorem v5(k j:κ)(y:V):∀a:List (κ×V),cY (a.map fun f=>if f.1=k then(f.1,y)else f) j=(cY a j).map fun x=>if j=k then y else x
 |[]=>rfl
 |p::r=>by
  have g:=v5 k j y r;rw[bo];by_cases h:p.1=k
  ·rw[if_pos h];by_cases e:p.1=j
   ·rw[db (p:=(p.1,y)) e,db e,qM,if_pos (e.symm.trans h)]
   ·rw[cU (p:=(p.1,y)) e,cU e,g]
  ·rw[if_neg h];by_cases e:p.1=j
   ·rw[db (p:=p) e,db e,qM,if_neg (fun z=>h (e.trans z))]
   ·rw[cU (p:=p) e,cU e,g]
theorem s_(k j:κ)(y:V):∀a:List (κ×V),cY a k=none->cY (a++[(k,y)]) j=if j=k then some y else cY a j
 |[],_=>by
  by_cases e:k=j
  ·rw[if_pos e.symm];exact db (p:=(k,y)) e
  ·rw[if_neg (fun z=>e z.symm)];exact cU (p:=(k,y)) e
 |p::r,f=>by
  rw[List.cons_append];have g:¬p.1=k:=fun z=>by rw[db z]at f;cases f
  rw[cU g]at f;have h:=s_ k j y r f;by_cases e:p.1=j
  ·rw[db e,db e,if_neg (fun z=>g (e.trans z))]
  ·rw[cU e,cU e,h]
theorem v4(f:List (κ×V))(k j:κ)(y:V):cY (fM f k y) j=if j=k then some y else cY f j:=by
 unfold fM;by_cases a:(f.any fun g=>decide (g.1=k))=true
 ·rw[if_pos a,v5];rw[kr]at a;by_cases e:j=k
  ·obtain⟨x,hx⟩:=uE.mp a;rw[if_pos e,e,hx,qM,if_pos rfl]
  ·rw[if_neg e];cases cY f j with
   |none=>rfl
   |some x=>rw[qM,if_neg e]
 ·rw[if_neg a];refine s_ k j y f ?_;rw[kr]at a;cases q:cY f k with
  |none=>rfl
  |some x=>rw[q]at a;exact(a rfl).elim
theorem kK(a:List (κ×V))(k:κ)(v:V):(fM a k v).length<=a.length+1:=by
 unfold fM;split
 ·rw[ao];omega
 ·rw[aY,d7,qK];omega
theorem m_{a:List (κ×V)}{k:κ}(v:V)(h:cY a k=none):fM a k v=a++[(k,v)]:=by
 unfold fM;rw[kr,h];exact if_neg (by decide)
theorem iE.isSome_eq{o:Option V}{u:Option Value}(r:iE o u):o.isSome=u.isSome:=by
 cases o with
 |none=>cases u with
  |none=>rfl
  |some _=>exact(show False from r).elim
 |some _=>cases u with
  |none=>exact(show False from r).elim
  |some _=>rfl
theorem iE.getD{o:Option V}{u:Option Value}{d:V}{a:Value}(r:iE o u)(e:RelV d a):RelV (o.getD d) (u.getD a):=by
 cases o with
 |none=>cases u with
  |none=>exact e
  |some _=>exact(show False from r).elim
 |some _=>cases u with
  |none=>exact(show False from r).elim
  |some _=>exact r
theorem KV.val{a:List (κ×V)}{g:List (κ×Value)}(r:KV a g)(k:κ):iE (cY a k) (lQ g k):=by
 unfold KV at r
 induction r with
 |nil=>exact ej
 |@cons p q m qs h t j =>
  obtain⟨i,l⟩:=h;by_cases e:p.1=k
  ·have f:q.1=k:=i.symm.trans e;have b:lQ (q::qs) k=some q.2:=by simp[lQ,nW,f]
   rw[db e,b];exact l
  ·have f:¬q.1=k:=fun z=>e (i.trans z);have b:lQ (q::qs) k=lQ qs k:=by simp[lQ,nW,f]
   rw[cU e,b];exact j
theorem KV.any{a:List (κ×V)}{f:List (κ×Value)}(r:KV a f)(k:κ):(a.any fun e=>decide (e.1=k))=f.any fun e=>decide (e.1=k):=by
 unfold KV at r
 induction r with
 |nil=>rfl
 |cons h t g=>rw[uw,uw,g,h.1]
theorem KV.repl{f:List (κ×V)}{i:List (κ×Value)}(r:KV f i)(k:κ){y:V}{u:Value}(j:RelV y u):
  KV (f.map fun a=>if a.1=k then(a.1,y)else a) (i.map fun a=>if a.1=k then(a.1,u)else a):=by
 unfold KV at r ⊢
 induction r with
 |nil=>exact .nil
 |@cons p q n qs h t l =>
  rw[bo,bo];refine .cons ?_ l;obtain⟨g,m⟩:=h;by_cases e:p.1=k
  ·rw[if_pos e,if_pos (g.symm.trans e)];exact⟨g,j⟩
  ·rw[if_neg e,if_neg (fun z=>e (g.trans z))];exact⟨g,m⟩
theorem KV.put{a:List (κ×V)}{f:List (κ×Value)}(r:KV a f)(k:κ){y:V}{u:Value}(g:RelV y u):KV (fM a k y) (stored f k u):=by
 unfold fM stored;rw[r.any k];by_cases e:(f.any fun h=>decide (h.1=k))=true
 ·rw[if_pos e,if_pos e];exact r.repl k g
 ·rw[if_neg e,if_neg e];exact uv r ⟨rfl,g⟩
theorem KV.length{a:List (κ×V)}{e:List (κ×Value)}(r:KV a e):a.length=e.length:=Paired.length r
end
theorem pF{P:bg}{w:World}{k:dX}{u:Value}(r:RelV (kV k) u):(bU P w).is k u=true:=by
 cases k with
 |inl i=>obtain⟨t,e⟩:=(show ∃t,u=Value.int i t from r);subst e;exact wS P w i t
 |inr x=>obtain⟨t,e⟩:=(show ∃t,u=Value.str x t from r);subst e;exact wR P w x t
theorem vm:∀{k:mr}{u:Value},RelV (EF k) u->iw k u=true
 |none,u,r=>by cases(show u=Value.none from r);rfl
 |some (.inl i),u,r=>by obtain⟨t,rfl⟩:=r;exact k9 i t
 |some (.inr x),u,r=>by obtain⟨t,rfl⟩:=r;exact k7 x t
abbrev KT(K:Za)(H:Hp):List (TK×V)->List (TK×Addr×Value)->Prop:=Paired fun p q=>p.1=q.1/\sO K H p.1 (.ref q.2.1)/\p.1.depth<=8/\RelV p.2 q.2.2
theorem KT.val{K:Za}{H:Hp}{a:List (TK×V)}{xs:List (TK×Addr×Value)}(r:KT K H a xs)(k:TK):iE (cY a k) ((atKey xs k).map (·.2)):=by
 induction r with
 |nil=>exact ej
 |@cons p q l qs h t i =>
  obtain⟨g,_,_,j⟩:=h;by_cases e:p.1=k
  ·have f:q.1=k:=g.symm.trans e;have b:atKey (q::qs) k=some q.2:=by simp[atKey,nW,f]
   rw[db e,b];exact j
  ·have f:¬q.1=k:=fun z=>e (g.trans z);have b:atKey (q::qs) k=atKey qs k:=by simp[atKey,nW,f]
   rw[cU e,b];exact i
theorem KT.repl{K:Za}{H:Hp}{a:List (TK×V)}{xs:List (TK×Addr×Value)}(r:KT K H a xs)(k:TK){y:V}{u:Value}(l:RelV y u):
  KT K H (a.map fun g=>if g.1=k then(g.1,y)else g) (xs.map (putAt k u)):=by
 induction r with
 |nil=>exact .nil
 |@cons p q n qs h t m =>
  rw[bo,bo];refine .cons ?_ m;obtain⟨f,i,j⟩:=h;unfold putAt;by_cases e:p.1=k
  ·rw[if_pos e,if_pos (f.symm.trans e)];exact⟨f,i,j.1,l⟩
  ·rw[if_neg e,if_neg (fun z=>e (f.trans z))];exact⟨f,i,j⟩
theorem KT.put{K:Za}{H:Hp}{a:List (TK×V)}{xs:List (TK×Addr×Value)}(r:KT K H a xs)(k:TK){b:Addr}{y:V}{u:Value}(g:sO K H k (.ref b))(h:k.depth<=8)(f:RelV y u):
  KT K H (fM a k y) (storedH xs k b u):=by
 have e:(a.any fun i=>decide (i.1=k))=(atKey xs k).isSome:=by
  rw[kr,(r.val k).isSome_eq,Option.isSome_map]
 unfold fM storedH;rw[e];by_cases q:(atKey xs k).isSome=true
 ·rw[if_pos q,if_pos q];exact r.repl k f
 ·rw[if_neg q,if_neg q];exact uv r ⟨rfl,g,h,f⟩
theorem KT.keeps{K:Za}{H a:Hp}{kvs:List (TK×V)}{xs:List (TK×Addr×Value)}(r:KT K H kvs xs)(f:∀b e,H b=some (.tup e)->a b=some (.tup e)):KT K a kvs xs :=
 Paired.mapP r fun _ _ z=>⟨z.1,sO.keeps f 8 z.2.2.1 z.2.1,z.2.2⟩
section
variable{P:bg}{w:World}{K:Za}{H:Hp}{h:Heap}{a:Addr}
theorem Et{u:HO}(ok:j3 P w K H h)(e:Rd H a u):b_ P w K H h a u:=e.ok ok
theorem nC{f:List (dX×V)}(ok:j3 P w K H h)(e:Rd H a (.dK f)):f.length<=am/\(a==h9)=false/\∃g,KV f g/\h.DictOf (bU P w) a g :=
 show b_ P w K H h a (.dK f)from Et ok e
theorem GF{f:List (dX×V)}(ok:j3 P w K H h)(e:H a=some (.dK f)):f.length<=am/\(a==h9)=false/\∃g,KV f g/\h.DictOf (bU P w) a g:=nC ok (.inl e)
theorem Ff(ok:j3 P w K H h)(y:K.In h):∀(d:Nat) {k:TK}{v:V}{u:Value},k.depth<=d->sO K H k v->RelV v u->lD h k u:=by
 have z:∀(d:Nat) (s:∀{k:TK}{v:V}{u:Value},k.depth<=d->sO K H k v->RelV v u->lD h k u) (g:List TK) (i:List V) (x:Zf),TK.depths g<=d->TKCs K H g i->aP i x->TAts h g x:=by
  intro d s g
  induction g with
  |nil =>
   intro i x _ hx r;have e:i=[]:=hx;subst e;cases r
   rfl
  |cons k g B =>
   intro i x j hx r;obtain⟨v,C,rfl,m,D⟩:=hx;cases r with
   |@cons _ u _ q I J =>
    have L:max k.depth (TK.depths g)<=d:=j;exact⟨u,q,rfl,s (by omega) m I,B C q (by omega) D J⟩
 intro d
 induction d with
 |zero =>
  intro k v u j hx r;cases k with
  |t l=>exact absurd j (by show ¬(TK.depths l+1<=0);omega)
  |k b =>
   have e:v=EF b:=hx;subst e;exact vm r
 |succ d s =>
  intro k v u j hx r;cases k with
  |k b =>
   have e:v=EF b:=hx;subst e;exact vm r
  |t l =>
   obtain⟨b,xs,rfl,E,hi⟩:=hx;cases(show u=Value.ref b from r);obtain⟨f,G,M,m,D,n,N⟩:∃f:List Value,aP xs f/\IsTup h b f.toArray:=by
    rcases E with E|⟨o,f,n,O,Q,T,U,r⟩
    ·obtain⟨_,f,G,p⟩:=(show b_ P w K H h b (.tup xs)from ok b _ E);exact⟨f,G,p⟩
    ·exact⟨f.toList,r,o,y b o O,Q,n,by simpa using T⟩
   exact⟨b,M,f.toArray,n,rfl,m,D,N,by simpa using z d (fun m=>s m) l xs f (by have:TK.depths l+1<=d+1:=j;omega) hi G⟩
theorem yI{k:TK}(ok:j3 P w K H h)(f:K.In h)(e:sO K H k (.ref a))(g:k.depth<=8):(eo P w).is h k a:=⟨Ff ok f 8 g e rfl,g⟩
theorem rV{f:List (TK×V)}(ok:j3 P w K H h)(i:K.In h)(e:Rd H a (.dT f)):f.length<=am/\(a==h9)=false /\
  ∃xs,KT K H f xs/\h.DictOfH (eo P w) a xs:=by
 obtain⟨z,y,xs,r,o,j,k,n,s,u,v,B⟩:=(show b_ P w K H h a (.dT f)from Et ok e);refine⟨z,y,xs,r,o,j,k,n,s,u,v,fun x hx=>?_,B⟩;have all:∀{l:List (TK×V)}{m:List (TK×Addr×Value)},KT K H l m->∀x∈m,(eo P w).is h x.1 x.2.1:=by
  intro l m q
  induction q with
  |nil=>intro x hx;exact nomatch hx
  |@cons p q D qs g t C =>
   intro x hx;rcases bY.mp hx with e|hx
   ·subst e;exact yI ok i (by rw[<-g.1];exact g.2.1) (by rw[<-g.1];exact g.2.2.1)
   ·exact C x hx
 exact all r x hx
theorem EK{f:List (TK×V)}(ok:j3 P w K H h)(g:K.In h)(e:H a=some (.dT f)):f.length<=am/\(a==h9)=false /\
  ∃xs,KT K H f xs/\h.DictOfH (eo P w) a xs:=rV ok g (.inl e)
end
mutual
def pY(K:Za)(H:Hp):TK->V->Prop
 |.k a,v=>v=EF a
 |.t l,v=>∃b xs,v=.ref b/\bN K H b xs/\TKIns K H l xs
def TKIns(K:Za)(H:Hp):List TK->List V->Prop
 |[],vs=>vs=[]
 |k::r,vs=>∃v us,vs=v::us/\pY K H k v/\TKIns K H r us
end
theorem iD.isIn{K:Za}{H:Hp}:∀(d:Nat) {k:TK}{v:V},k.depth<=d->iD H k v->pY K H k v:=by
 have h:∀(d:Nat) (f:∀{k:TK}{v:V},k.depth<=d->iD H k v->pY K H k v) (xs:List TK) (g:List V),TK.depths xs<=d->TKAts H xs g->TKIns K H xs g:=by
  intro d f xs
  induction xs with
  |nil=>intro g _ hx;exact hx
  |cons x xs i =>
   intro g e hx;obtain⟨v,n,rfl,j,m⟩:=hx;have o:max x.depth (TK.depths xs)<=d:=e;exact⟨v,n,rfl,f (by omega) j,i n (by omega) m⟩
 intro d
 induction d with
 |zero =>
  intro k v e hx;cases k with
  |t l=>exact absurd e (by show ¬(TK.depths l+1<=0);omega)
  |k a=>exact hx
 |succ d f =>
  intro k v e hx;cases k with
  |k a=>exact hx
  |t l =>
   obtain⟨b,xs,rfl,p,hi⟩:=hx;exact⟨b,xs,rfl,bN.of p,h d (fun q=>f q) l xs (by have:TK.depths l+1<=d+1:=e;omega) hi⟩
theorem Dk{X:Cx}{z:Zd}{σ:St}{H:Hp}{s:Shared}(I:Inv X z σ H s):∀(d:Nat) {k:TK}{v:V}{u:Value},k.depth<=d->pY X.K H k v->RelV v u->lD s.heap k u:=by
 have p:∀(d:Nat) (m:∀{k:TK}{v:V}{u:Value},k.depth<=d->pY X.K H k v->RelV v u->lD s.heap k u) (a:List TK) (f:List V) (o:Zf),TK.depths a<=d->TKIns X.K H a f->aP f o->TAts s.heap a o:=by
  intro d m a
  induction a with
  |nil =>
   intro f o _ hx r;have e:f=[]:=hx;subst e;cases r
   rfl
  |cons k a q =>
   intro f o g hx r;obtain⟨v,x,rfl,h,y⟩:=hx;cases r with
   |@cons _ u _ i B C =>
    have D:max k.depth (TK.depths a)<=d:=g;exact⟨u,i,rfl,m (by omega) h B,q x i (by omega) y C⟩
 intro d
 induction d with
 |zero =>
  intro k v u g hx r;cases k with
  |t l=>exact absurd g (by show ¬(TK.depths l+1<=0);omega)
  |k b =>
   have e:v=EF b:=hx;subst e;exact vm r
 |succ d m =>
  intro k v u g hx r;cases k with
  |k b =>
   have e:v=EF b:=hx;subst e;exact vm r
  |t l =>
   obtain⟨b,xs,rfl,E,hi⟩:=hx;cases(show u=Value.ref b from r);obtain⟨j,G,⟨J,h,y,n,L⟩,_⟩:=I.tuple E;exact⟨b,J,j.toArray,n,rfl,h,y,L,by simpa using p d (fun h=>m h) l xs j (by have:TK.depths l+1<=d+1:=g;omega) hi G⟩
theorem vk{X:Cx}{f:Zd}{σ:St}{H:Hp}{s:Shared}{k:TK}{b:Addr}(I:Inv X f σ H s)(e:pY X.K H k (.ref b))(a:k.depth<=8):(eo X.prog X.w).is s.heap k b:=⟨Dk I 8 a e rfl,a⟩
theorem g8{P:bg}{w:World}{A:Around}(a:A.units+16<cLine):(eo P w).room A.in1:=by
 show A.units+1+8<cLine;omega
def vQ(K:Za)(H:Hp)(a:Addr)(y:V)(r:Option V):Prop :=
 (∃kvs k,Rd H a (.dK kvs)/\y=kV k/\r=cY kvs k)∨∃kvs k b,Rd H a (.dT kvs)/\y=.ref b/\pY K H k (.ref b)/\k.depth<=8/\r=cY kvs k
def GV(H:Hp)(a:Addr)(y v:V)(H':Hp):Prop :=
 (∃kvs k,H a=some (.dK kvs)/\y=kV k/\kvs.length<am/\H'=upd H a (.dK (fM kvs k v))) ∨
 ∃kvs k b,H a=some (.dT kvs)/\y=.ref b/\iD H k (.ref b)/\k.depth<=8/\kvs.length<am/\H'=upd H a (.dT (fM kvs k v))
section
variable{X:Cx}{J3:Zd}{σ:St}{H:Hp}{s:Shared}{a:Addr}{y v:V}{u r:Value}{o:Option V}{A:Around}{E:Zc}
theorem Inv.big(I:Inv X J3 σ H s):h9<s.heap.objs.size:=by
 have h:bq<s.heap.objs.size:=(I.mod.glob.keeps I.bk).lt;exact Nat.lt_trans (by decide) h
theorem Bf{Q:Zc}(D:A.units+16<cLine)(I:Inv X J3 σ H s)(g:vQ X.K H a y (some v))(B:RelV y u)(h:∀j C,Inv X J3 σ H C->RelV v j->Q j C):
  wpAny (model X.prog X.w) A (lS (.ref a) u) Q E s:=by
 rcases g with⟨m,k,e,n,l⟩|⟨m,k,b,e,n,G,J,l⟩
 ·subst n;obtain⟨z,L,M,f,q⟩:=nC I.hok e;obtain⟨j,t,i⟩:=iE.some_of (v:=v) (o:=lQ M k) (by rw[l];exact f.val k);exact wpAny_getItem_of (pF B) q.mapOf t (h j _ (I.tok _) i)
 ·subst n;cases(show u=Value.ref b from B);obtain⟨z,L,xs,f,q⟩:=rV I.hok I.kIn e;obtain⟨j,t,i⟩:=iE.some_of (v:=v) (o:=(atKey xs k).map (·.2)) (by rw[l];exact f.val k);obtain⟨p,N,x⟩:=Option.map_eq_some_iff.mp t;refine wpAny_getItem_heap (g8 D) (vk I G J) q N ?_;rw[x];exact h j _ (I.tok _) i
theorem d_in{Q:Zc}(t:A.units+16<cLine)(I:Inv X J3 σ H s)(g:vQ X.K H a y o)(n:RelV y u)(h:∀p,Inv X J3 σ H p->Q (.bool o.isSome) p):
  wpAny (model X.prog X.w) A (em .In u (.ref a)) Q E s:=by
 rcases g with⟨i,k,e,j,l⟩|⟨i,k,b,e,j,x,B,l⟩
 ·subst j;obtain⟨z,hd,C,f,m⟩:=nC I.hok e;refine wpAny_in_of (pF n) hd m.mapOf ?_;rw[<-(f.val k).isSome_eq,<-l];exact h _ (I.tok _)
 ·subst j;cases(show u=Value.ref b from n);obtain⟨z,hd,xs,f,m⟩:=rV I.hok I.kIn e;refine wpAny_in_heap (g8 t) (vk I x B) hd m ?_;have q:=(f.val k).isSome_eq;rw[Option.isSome_map]at q;rw[<-q,<-l];exact h _ (I.tok _)
theorem Ec{Q:Zc}(t:A.units+16<cLine)(I:Inv X J3 σ H s)(g:vQ X.K H a y o)(n:RelV y u)(h:∀p,Inv X J3 σ H p->Q (.bool (!o.isSome)) p):
  wpAny (model X.prog X.w) A (em .NotIn u (.ref a)) Q E s:=by
 rcases g with⟨i,k,e,j,l⟩|⟨i,k,b,e,j,x,B,l⟩
 ·subst j;obtain⟨z,hd,C,f,m⟩:=nC I.hok e;refine wpAny_notIn_of (pF n) hd m.mapOf ?_;rw[<-(f.val k).isSome_eq,<-l];exact h _ (I.tok _)
 ·subst j;cases(show u=Value.ref b from n);obtain⟨z,hd,xs,f,m⟩:=rV I.hok I.kIn e;refine wpAny_notIn_heap (g8 t) (vk I x B) hd m ?_;have q:=(f.val k).isSome_eq;rw[Option.isSome_map]at q;rw[<-q,<-l];exact h _ (I.tok _)
theorem vx{f:Heap}{g:Nat}{ob:HO}(I:Inv X J3 σ H s)(h:GN (H a))(i:iP a s.heap f)(j:∃q,f.get? a=some q)(new:b_ X.prog X.w X.K (upd H a ob) f a ob):
  Inv X J3 σ (upd H a ob) { s with heap:=f,toks:=g } :=
 I.write (x:=a) (e:=a) h (.inl rfl) (fun b q k z=>(i.2 b k).trans z) j new
theorem CO{P:bg}{w:World}{K:Za}{i:Hp}{h:Heap}{e:List (dX×V)}{f:List (dX×Value)}(z:e.length<=am)(j:(a==h9)=false)(g:KV e f)(k:h.DictOf (bU P w) a f):
  b_ P w K i h a (.dK e):=⟨z,j,f,g,k⟩
theorem Be{J:Hp}{Q:Unit->Shared->Prop}(Y:A.units+16<cLine)(I:Inv X J3 σ H s)(g:GV H a y v J)(L:RelV y u)(M:RelV v r)(h:∀N,Inv X J3 σ J N->Q () N):
  wpAny (model X.prog X.w) A (setItem (.ref a) u r) Q E s:=by
 rcases g with⟨f,k,e,p,l,t⟩|⟨f,k,b,e,p,O,m,l,t⟩
 ·subst p t;obtain⟨z,x,vs,i,B⟩:=GF I.hok e;have C:vs.length<=am:=by rw[<-i.length];exact z
  have D:(fM f k v).length<=am:=by have:=kK f k v;omega
  refine wpAny_setItem_pairs (hsz:=C) (pF L) B fun T j G=>h _ ?_;have he:∃q,T.get? a=some q:=let⟨q,_,_,n,_⟩:=j;⟨q,n⟩;exact vx I (by rw[e];exact ej) G he (CO D x (i.put k M) j)
 ·subst p t;cases(show u=Value.ref b from L);obtain⟨z,x,xs,i,B⟩:=EK I.hok I.kIn e;have C:xs.length<=am:=by rw[<-Paired.length i];exact z
  have D:(fM f k v).length<=am:=by have:=kK f k v;omega
  refine wpAny_setItem_heap (hsz:=C) (g8 Y) (yI I.hok I.kIn (iD.c 8 m O) m) B fun T j G=>h _ ?_;obtain⟨q,es,ep,n,h2,h3,h4,_,h5⟩:=j;refine vx I (by rw[e];exact ej) G ⟨q,n⟩ ⟨D,x,_,(i.put k (iD.c 8 m O) m M).keeps fun c ys U=>?_,q,es,ep,n,h2,h3,h4,h5⟩;rw[ai (EB U e (fun z=>nomatch z))];exact U
end
section
variable{X:Cx}{J3:Zd}{σ:St}{H:Hp}{s:Shared}{a:Addr}{kvs:List (dX×V)}{k:dX}{u:Value}{A:Around}{E:Zc}
theorem GG{Q:Zc}(I:Inv X J3 σ H s)(e:Rd H a (.dK kvs))(h:∀t g,Inv X J3 σ H g->Q (.int kvs.length t) g):wpAny (model X.prog X.w) A (call (.builtin "len") [.ref a]) Q E s:=by
 obtain⟨z,i,l,f,j⟩:=nC I.hok e;refine call_len_dict i j (by rw[<-f.length];rw[sW]at z;omega) ?_;rw[<-f.length];exact h _ _ (I.tok _)
end
def Bm(i:Expr):Prop:=∀ov iv,uA i false ov iv=operate [ov,iv] (lS ov iv)
theorem Dm{a:bg}{w:World}{A:Around}{E:Zc}{s:Shared}{k:Env}{value slice:Expr}{p:Pos}{T id:String}{Q:Zc}
  (t:nX (.type T) "__getitem__"=pure (some (.builtin id))) (u:Bm slice)
  (h:wpAny (model a w) A (eval value k) (fun o g=>wpAny (model a w) A (eval slice k) (fun i e=>e.TypeIs o T/\wpAny (model a w) A (lS o i) Q E e) E g) E s) :
  wpAny (model a w) A (eval (.Subscript value slice p) k) Q E s:=by
 refine uC (cR h (fun o g m=>cR m (fun i e f=>?_) fun _ _ x=>x) fun _ _ x=>x);obtain⟨q,f⟩:=f;unfold uB;refine aj ?_;rw[getitemInPython_of_ne q.not_modules];refine aj (C7 q t ?_);have l:wpAny (model a w) A (uA slice false o i) (fun r j=>wpAny (model a w) A (letTemporaryGo value o r >>= fun _=>pure r) Q E j) E e:=by
  rw[u o i];exact wpAny_operating (cR f (fun r j n=>aj (wpAny_letTemporaryGo (aD n))) fun _ _ x=>x)
 first
  |exact aD (aj l)
  |exact aj (aD (aj l))
  |exact aj l
theorem xh{X:Cx}{i:Zd}{σ:St}{H:Hp}{s:Shared}{a:Addr}{y:V}{o:Option V}(I:Inv X i σ H s)(g:vQ X.K H a y o):s.TypeIs (.ref a) "dict":=by
 rcases g with⟨f,k,e,_,_⟩|⟨f,k,b,e,_,_,_⟩
 ·obtain⟨_,_,j,_,h⟩:=nC I.hok e;exact h.typeIs
 ·obtain⟨_,_,xs,_,h⟩:=rV I.hok I.kIn e;exact h.typeIs
def zO(K:Za)(td ty:TE):TE:=fun σ H Q=>td σ H fun x H1=>ty σ H1 fun y H2=>∃a v,x=.ref a/\vQ K H2 a y (some v)/\Q v H2
def AO(K:Za)(ty td:TE):TE:=fun σ H Q=>ty σ H fun y H1=>td σ H1 fun x H2=>∃a o,x=.ref a/\vQ K H2 a y o/\Q (.bl o.isSome) H2
def p7(K:Za)(ty td:TE):TE:=fun σ H Q=>ty σ H fun y H1=>td σ H1 fun x H2=>∃a o,x=.ref a/\vQ K H2 a y o/\Q (.bl (!o.isSome)) H2
def pB(td ty tv:TE):TS:=fun D σ H=>tv σ H fun v H1=>td σ H1 fun x H2=>ty σ H2 fun y H3=>∃a H4,x=.ref a/\GV H3 a y v H4/\D.nx σ H4
section
variable{X:Cx}{o i e value:Expr}{pos pos' J8:Pos}{td ty tv:TE}
theorem u9(m:X.A.units+16<cLine)(n:PE X o td)(hi:PE X i ty)(p:Bm i):PE X (.Subscript o i pos) (zO X.K td ty):=by
 intro k s σ H Q I h;refine Dm PySem.F.slot_dict_getitem.lookup p (cb (n k s σ H _ I h) fun u q ⟨x,r,t,z,B⟩=>cb (hi k q σ r _ t B) fun J L f=>?_);obtain⟨y,C,l,D,a,v,ex,g,E⟩:=f;subst ex;obtain rfl:u=Value.ref a:=z;exact⟨xh l g,Bf m l g D fun M N G j=>⟨v,C,G,j,E⟩⟩
theorem rB(k:X.A.units+16<cLine)(hi:PE X i ty)(l:PE X o td):PC X .In i o (AO X.K ty td):=by
 intro j s σ H Q I h;refine cb (hi j s σ H _ I h) fun E m ⟨y,n,p,q,r⟩=>cb (l j m σ n _ p r) fun u G f=>?_;obtain⟨x,t,v,z,a,B,ex,g,C⟩:=f;subst ex;obtain rfl:u=Value.ref a:=z;exact d_in k v g q fun J D=>⟨.bl B.isSome,t,D,rfl,C⟩
theorem oG(k:X.A.units+16<cLine)(hi:PE X i ty)(l:PE X o td):PC X .NotIn i o (p7 X.K ty td):=by
 intro j s σ H Q I h;refine cb (hi j s σ H _ I h) fun E m ⟨y,n,p,q,r⟩=>cb (l j m σ n _ p r) fun u G f=>?_;obtain⟨x,t,v,z,a,B,ex,g,C⟩:=f;subst ex;obtain rfl:u=Value.ref a:=z;exact Ec k v g q fun J D=>⟨.bl (!B.isSome),t,D,rfl,C⟩
theorem jI(k:X.A.units+16<cLine)(l:PE X o td)(hi:PE X i ty)(m:PE X value tv)(n:lE value (some (.Subscript o i pos')) pos.line X.env=pure false):
  PS X (.Assign [.Subscript o i pos'] value pos) (pB td ty tv):=by
 intro f s σ H D I h;refine wpAny_Assign_Subscript (cb (m f s σ H _ I h) fun r p ⟨v,q,t,z,B⟩=>cb (l f p σ q _ t B) fun u C ⟨x,E,G,J,L⟩=>cb (hi f C σ E _ G L) fun U Y j=>?_) n;obtain⟨y,H3,M,N,a,O,ex,g,Q⟩:=j;subst ex;obtain rfl:u=Value.ref a:=J;exact Be k M g N z fun s4 T=>⟨σ,O,T,Q⟩
end
theorem CP{P:bg}{w:World}{K:Za}{H:Hp}(h:Heap)(a:h9<h.objs.size):b_ P w K H (h.push { cls:=.type "dict",data:=.dict #[] }) h.objs.size (.dK []) :=
 ⟨cf _,beq_eq_false_iff_ne.mpr (cy (bO a)),[],.nil,Heap.DictOf.new h⟩
theorem CN{P:bg}{w:World}{K:Za}{H:Hp}(h:Heap)(a:h9<h.objs.size):b_ P w K H (h.push { cls:=.type "dict",data:=.dict #[] }) h.objs.size (.dT []) :=
 ⟨cf _,beq_eq_false_iff_ne.mpr (cy (bO a)),[],.nil,_,#[],0,cN _ rfl,⟨rfl,rfl,rfl⟩,rfl,rfl,ki⟩
def q0:TE:=fun _ H Q=>∀p,H p=none->Q (.ref p) (upd H p (.dK []))
def uT:TE:=fun _ H Q=>∀p,H p=none->Q (.ref p) (upd H p (.dT []))
section
variable{X:Cx}{pos:Pos}
theorem ng:PE X (.Dict [] [] pos) q0:=fun e s σ H Q I h =>
 wpAny_Dict_empty ⟨.ref s.heap.objs.size,_,I.laid (a:=s.heap.objs.size) (o:=.dK []) (t':=s.toks) (fun _ _ q=>aV _ q) (aO _) (CP s.heap I.big),rfl,h _ (I.hok.fresh (aO _))⟩
theorem rq:PE X (.Dict [] [] pos) uT:=fun e s σ H Q I h =>
 wpAny_Dict_empty ⟨.ref s.heap.objs.size,_,I.laid (a:=s.heap.objs.size) (o:=.dT []) (t':=s.toks) (fun _ _ q=>aV _ q) (aO _) (CN s.heap I.big),rfl,h _ (I.hok.fresh (aO _))⟩
end
def i8(kvs more:List (dX×V)):List (dX×V):=more.foldl (fun acc kv=>fM acc kv.1 kv.2) kvs
theorem KV.merge:∀{a:List (dX×V)}{i:List (dX×Value)}{f:List (dX×V)}{g:List (dX×Value)},KV a i->KV f g->KV (i8 f a) (merged g i):=by
 intro a i f g r;unfold KV at r
 induction r generalizing f g with
 |nil=>intro q;exact q
 |@cons p q l qs h t j =>
  intro k;have e:KV (fM f p.1 p.2) (stored g q.1 q.2):=by
   have:=k.put p.1 h.2;rw[<-h.1];exact this
  exact j e
theorem lI:∀(e a:List (dX×V)),(i8 a e).length<=a.length+e.length
 |[],a=>by show a.length<=a.length+0;omega
 |p::r,a=>by
  have f:=lI r (fM a p.1 p.2);have g:=kK a p.1 p.2;show(i8 (fM a p.1 p.2) r).length<=_;rw[d7];omega
structure M2(X:Cx)(o:Expr)(m:Str)(J5:Pos)(e f:Expr)(J4:Pos):Prop where
 base:sV o m X.env (eval o X.env)=eval o X.env
 few:((backTo J4 (au [e,f] X.env)).all (fun x=>!x.1) && (jA J4 (jz [] X.env)).all (fun x=>x.1.isSome)
  && decide (([e,f]:List Expr).length+([]:List Keyword).length+(if([]:List Keyword).isEmpty then 0 else 1)<30))=true
 line:(J5.endLine==J4.line)=true
 trees:backTo J4 (au [e,f] X.env)=[(false,eval e X.env),(false,eval f X.env)]
def IsD(H:Hp)(a:Addr):Prop:=(∃kvs,Rd H a (.dK kvs))∨∃kvs,Rd H a (.dT kvs)
theorem FG{X:Cx}{l:Zd}{σ:St}{H:Hp}{s:Shared}{a:Addr}(I:Inv X l σ H s)(d:IsD H a):
  s.TypeIs (.ref a) "dict"/\(∀b,Value.ref a=.ref b->∃f,s.heap.get? b=some f/\f.dict=none)/\(a==h9)=false:=by
 rcases d with⟨h,e⟩|⟨h,e⟩
 ·obtain⟨_,i,m,_,g⟩:=nC I.hok e;refine⟨g.typeIs,fun b q=>?_,i⟩;cases q;obtain⟨f,_,_,j,k,_⟩:=g;exact⟨f,j,k.2.1⟩
 ·obtain⟨_,i,xs,_,g⟩:=rV I.hok I.kIn e;refine⟨g.typeIs,fun b q=>?_,i⟩;cases q;obtain⟨f,_,_,j,k,_⟩:=g;exact⟨f,j,k.2.1⟩
section
variable{X:Cx}{J3:Zd}{σ:St}{H:Hp}{s:Shared}{a:Addr}{y d:V}{u r:Value}{o:Option V}{A:Around}{E:Zc}
theorem FQ{Q:Zc}(x:A.units+16<cLine)(I:Inv X J3 σ H s)(g:vQ X.K H a y o)(p:RelV y u)(q:RelV d r)(h:∀t v,Inv X J3 σ H v->RelV (o.getD d) t->Q t v):
  wpAny (model X.prog X.w) A (call (.builtin "dict.get") [.ref a,u,r]) Q E s:=by
 rcases g with⟨j,k,e,m,l⟩|⟨j,k,b,e,m,B,C,l⟩
 ·subst m;obtain⟨z,n,D,f,i⟩:=nC I.hok e;refine call_meetsIn PySem.F.slot_dict_get i.typeIs PySem.F.entry_dict_get (PySem.F.args_dict_get_3 _ _ _) (meets_dict_get_default (bU X.prog X.w) a (pF p) n r) ⟨_,i.mapOf,h _ _ (I.tok _) ?_⟩;rw[l];exact(f.val k).getD q
 ·subst m;cases(show u=Value.ref b from p);obtain⟨z,n,xs,f,i⟩:=rV I.hok I.kIn e;refine call_meetsIn PySem.F.slot_dict_get i.typeIs PySem.F.entry_dict_get (PySem.F.args_dict_get_3 _ _ _) (meetsH_dict_get_default (eo X.prog X.w) a b n r) ⟨g8 x,k,xs,vk I B C,i,h _ _ (I.tok _) ?_⟩;rw[l];exact(f.val k).getD q
end
def ye(K:Za)(td ty tx:TE):TE:=fun σ H Q=>td σ H fun x H1=>∃a,x=.ref a/\IsD H1 a/\ty σ H1 fun y H2=>tx σ H2 fun z H3=>∃o,vQ K H3 a y o/\Q (o.getD z) H3
section
variable{X:Cx}{o e f:Expr}{J5 J4:Pos}{td ty tx:TE}
theorem wL(n:X.A.units+16<cLine)(p:PE X o td)(q:PE X e ty)(hf:PE X f tx)(m:M2 X o "get" J5 e f J4):PE X (.Call (.Attribute o "get" J5) [e,f] [] J4) (ye X.K td ty tx):=by
 intro i s σ H Q I h;refine wpAny_Call_method m.base m.few m.line PySem.F.plainAttrs_dict PySem.F.slot_dict_get PySem.F.type_dict_get (cb (p i s σ H _ I h) fun u r j=>?_);obtain⟨x,t,l,v,a,ex,d,B⟩:=j;subst ex;obtain rfl:u=Value.ref a:=v;obtain⟨C,D,_⟩:=FG l d;refine⟨C,D,?_⟩;rw[m.trees];refine Calls.callWith_builtin rfl (Calls.evalArgs_plain (Calls.spliced_cons (cb (q i r σ t _ l B) fun iv E ⟨y,G,J,L,M⟩ =>
  Calls.spliced_cons (cb (hf i E σ G _ J M) fun fv s3 ⟨z,N,O,T,ov,g,U⟩=>Calls.spliced_nil ?_))))
 exact FQ n O g L T fun w' s4 Y k=>⟨_,N,Y,k,U⟩
end
end L2
namespace Att
open PySem PySem.W PySem.Calls PyProof.Rows
theorem ints_of_wellAll{P:Params}{h:Heap}:∀(e:List Int) (vs:Zf),WellAll P h vs (e.map WData.int)->qJ vs e:=by
 intro e
 induction e with
 |nil =>
  intro vs w;rw[List.map_nil]at w;cases w;exact .nil
 |cons n e f =>
  intro vs w;rw[bo]at w;cases w with
  |cons a b =>
   cases a;exact .cons _ _ (f _ b)
theorem script_of{l:OpenLaw}{n:Nat}(u:l.most=some n){P:Params}{h:Heap}{args:List WData}{f:Zf}
  (g:l.row.toRowW.claim.pre args=true) (o:WellAll P h f args) :
  ∃a s e,f=[Value.ref a]/\args=[WData.list (e.map WData.int)]/\h.get? a=some { cls:=.type "list",data:=.seq s.toArray }/\qJ s e/\e.length<=n:=by
 have p:WShape.hasAll [] args [.list .int]=true:=(pre_splitW g).1;have t:l.pre.holds [] { args:=args }=true:=(pre_splitW g).2;obtain⟨d,r,rfl,v,x⟩:=hasAllW_cons p;obtain rfl:=hasAllW_nil x;obtain⟨xs,rfl,y⟩:=hasW_list v;obtain⟨e,rfl⟩:=items_int y;have i:e.length<=n:=by
  unfold OpenLaw.pre at t;have k:(WTm.not (.lt (.lit (.int (n:Int))) (.len (.arg 0)))).holds [] { args:=[.list (e.map .int)] }=true:=by
   have k:=(holds_andW t).1;rw[u]at k;exact k
  have m:=condW_of k (w_not (w_lt w_lit (w_len_list (w_arg rfl))));rw[ao]at m;refine Nat.le_of_not_lt fun q=>?_;have z:(n:Int)<((e.length:Nat):Int):=by omega
  first
   | (rw[zzr1 z]at m;exact absurd m (by decide))
   | (simp at m;omega)
 cases o with
 |cons B C =>
  cases C;cases B with
  |list D j=>exact⟨_,_,e,rfl,rfl,D,ints_of_wellAll e _ j,i⟩
theorem post_true(l:OpenLaw)(args:List WData):l.row.toRowW.claim.post args (.bool true) args=true :=
 postW_of (r:=l.row.toRowW) (X:=(true==true))
  (show WShape.has [] (.bool true) .bool=true by first|rfl|decide|simp[WShape.has,WShape.arms,WShape.armsAll])
  (show(WTm.eq .res (.lit (.bool true))).value [] { args:=args,res:=some (.bool true),after:=args }=some (.bool (true==true))from w_eq_bool (w_res rfl) w_lit) rfl
theorem attach_call{l:OpenLaw}{n:Nat}{q:bg}{loose:Zb}{C:(Str->Option Value)->Heap->Prop}{D:World->Heap->Prop}{d:DefRec}
  (J:l.most=some n) (u:d.params.defaults=[])
  (call:∀(w:World) (g e:Shared) (p v:Str->Option Value) (i:Addr) (o:Obj) (x cd doc:Value) (a:Addr) (h:Zf) (s:List Int),
   Ground q loose [] C w g p v e.heap->D w e.heap ->
   e.heap.get? i=some o->o.data=.func (docDef d.name d.params d.body d.scope x cd doc)->e.heap.CodeRec cd d.name->p d.name=some (.ref i) ->
   e.heap.get? a=some { cls:=.type "list",data:=.seq h.toArray }->qJ h s->s.length<=n->e.gens=#[] ->
   zzl83 (model l.prog w) lP (.call (.ref i) ⟨[.ref a],[]⟩) (fun r t=>r=.ok (.ret (.bool true))/\OldK e.heap t.heap/\t.os=e.os/\lF t.gens) e) :
  WalkO q loose C D l.row.toRowW d [] (fun f h=>PySem.call f h):=by
 intro w g e p v G Y i o x cd doc L kV M N y E z O args H as j I Q B T;obtain rfl:L=.none:=Dflts.none E u;obtain rfl:kV=.none:=Dflts.noKw E;obtain⟨a,h,s,rfl,rfl,k,hints,m⟩:=script_of J j B;refine enter_call (qi (call w g e p v i o x cd doc a h s G Y M (fd_plain N) y z k hints m O) fun r t U=>?_);obtain⟨rfl,h2,h3,h4⟩:=U;exact⟨.inl ⟨.bool true,.bool true,[],rfl,fun _=>rfl,.bool true,post_true l _,fun _=>⟨List.Pairwise.nil,fun _ hm=>(nomatch hm)⟩⟩,h2,h3,h4⟩
end Att
namespace L2
open PySem PySem.Spec PyProof.Rows
theorem sZ:∀{a:Zf}{e:List Int},qJ a e->aP (e.map V.int) a
 |_,_,.nil=>.nil
 |_,_,.cons n t h=>.cons ⟨t,rfl⟩ (sZ h)
def Only(H:Hp):Prop:=∀b,H b=none∨∃o xs,H b=some (.frz o (.lst xs))
end L2
namespace L2
open PySem PySem.Spec PyProof.Rows
end L2
namespace L2
open PySem PySem.Spec PyProof.Rows
def gV(s:Stmt)(j:Nat):Stmt:=match s with
 |.ClassDef _ _ _ body _ _ _ _ _ _ _=>body.getD j (.Pass ⟨0,0,0,0⟩)
 |_=>.Pass ⟨0,0,0,0⟩
def gW(s:Stmt):Arguments:=match s with
 |.FunctionDef _ a _ _ _ _ _ _ _ _=>a
 |_=>{ posonlyargs:=[],args:=[],vararg:=none,kwonlyargs:=[],kw_defaults:=[],kwarg:=none,defaults:=[] }
def eD(s:Stmt):List Stmt:=match s with
 |.FunctionDef _ _ b _ _ _ _ _ _ _=>b
 |_=>[]
def bf(s:Stmt):Scope:=match s with
 |.FunctionDef _ _ _ _ _ _ sc _ _ _=>sc
 |_=>{ kind:=.function,names:=[],isGenerator:=false,isCoroutine:=false }
abbrev CX0:Bx:=fun _ _ _ _ _ _=>False
abbrev E0:XK:=fun _ _ _=>False
abbrev aL(sp:Sp)(a:TA):TE:=pA sp [] E0 a
theorem z8{X:Cx}:i9 CX0 X E0:=fun _ _ _ _ _ _ _ h=>h.elim
structure EZ(K:Za)(x qual:Str)(st:Stmt)(f:Addr)(fd:hZ):Prop where
 ex:∃(oc:Value) (od:Option Addr) (kV doc pm:Value) (an:Option Addr) (cdv ct:Value) (osl:Array (Option Value)),
  fd=ib x qual (gW st) (eD st) (bf st) .none kV doc pm an cdv ct/\K.lookup f=some ⟨oc,od,.func fd,osl⟩/\lT K cdv qual=true
 kp:dB K (.ref f)=true
section
variable{P:bg}{w:World}{K:Za}{mg:Str->Option Value}{base:Heap}
theorem EZ.ok{x a:Str}{st:Stmt}{f:Addr}{o:hZ}{N j:Zb}{k:Nat}{l:Sp}(F:EZ K x a st f o)(S:gj N j (bf st))(len:∀g H Q E,l g H Q E->g.length=j.length)
  (i:∀(e:Value) (A:Around) (outer:List Env) (s:Shared) (H:Hp) (g:List V) (Q:VK) (E:XK),cx k (A.deeper (envOfC a (bf st) s.heap.objs.size f e))->l g H Q E ->
   ∃t,vJ (rZ CX0 P w K mg base N a (bf st) f e A outer s H E).nox (eD st) t/\t (bF Q) (start N g) H):gJ P w K mg base CX0 (k+1) f o j l:=by
 obtain⟨u,v,kV,doc,y,z,e,B,p,rfl,lk,m⟩:=F.ex;refine EJ lk m S len fun A outer s H g Q E r n=>?_;obtain⟨t,h,q⟩:=i e A outer s H g Q E r n;exact⟨t,h.nox,q⟩
theorem EZ.binds{x a:Str}{st:Stmt}{f:Addr}{l:hZ}{ps:Zb}(F:EZ K x a st f l)
  (h:∀(kV doc g:Value) (i:Option Addr) (e j:Value) (k:Zf),k.length=ps.length->bindArgs (ib x a (gW st) (eD st) (bf st) .none kV doc g i e j) ⟨k,[]⟩=pure (ps.zip k)):Binds K l ps []:=by
 obtain⟨o,p,kV,doc,g,i,e,j,m,rfl,lk,n⟩:=F.ex;exact .all (h kV doc g i e j)
theorem CI{x a:Str}{st:Stmt}{f:Addr}{m:Value}{n h:Option Addr}{g:Array (Option Value)}{kV doc i e j:Value}(l:K.lookup f=some ⟨m,n,.func (ib x a (gW st) (eD st) (bf st) .none kV doc i h e j),g⟩)
  (c:lT K e a=true) (k:dB K (.ref f)=true):EZ K x a st f (ib x a (gW st) (eD st) (bf st) .none kV doc i h e j):=⟨⟨m,n,kV,doc,i,h,e,j,g,rfl,l,c⟩,k⟩
end
theorem tM{A:Around}{k:Nat}(a:cx k A):A.units+16<cLine:=uu (Nat.add_le_add_left (by decide:16<=64) _) a.units
theorem aG{n:Nat}(h:n<=1000):n<am:=uu h (by decide)
section
variable{X:Cx}
theorem pv(i:Nat){x:Str}{a:Pos}(f:X.N[i]?=some x:=by rfl)(g:Vis X.env.scope x:=by first|exact Or.inl rfl|exact Or.inr (Or.inl rfl)|exact Or.inr (Or.inr rfl))(h:(x==("__debug__":Str))=false:=by decide)
  (e:(x==("__classdict__":Str))=false:=by decide):PE X (.Name x a) (lp i):=Fy f g h e
end
theorem bj{A B:Prop}(h:B):if false=true then A else B:=by
 rw[if_neg iI];exact h
theorem bB{A B:Prop}(h:A):if true=true then A else B:=by
 rw[if_pos rfl];exact h
theorem iy{c A B:Prop}[Decidable c](a:c->A)(e:¬c->B):if c then A else B:=by
 by_cases h:c
 ·rw[if_pos h];exact a h
 ·rw[if_neg h];exact e h
def ae(H H':Hp):Prop:=∀b o,H b=some o->H' b=some o
theorem ae.refl(H:Hp):ae H H:=fun _ _ h=>h
theorem ae.trans{H e f:Hp}(a:ae H e)(b:ae e f):ae H f:=fun c o h=>b c o (a c o h)
theorem ae.free{H a:Hp}(e:ae H a){l:Addr}(h:a l=Option.none):H l=Option.none:=by
 cases q:H l with
 |none=>rfl
 |some o =>
  rw[e l o q]at h;cases h
theorem ae.seq{K:Za}{H f:Hp}{a:Addr}{xs:List V}(e:ae H f)(h:aB K H a xs):aB K f a xs:=by
 rcases h with(h|⟨o,h⟩)|h
 ·exact .inl (.inl (e _ _ h))
 ·exact .inl (.inr ⟨o,e _ _ h⟩)
 ·exact .inr h
section
variable{prog:bg}{w:World}{A:Around}{R:Result->Shared->Prop}{s:Shared}
abbrev XF:Value->Shared->Prop:=fun _ _=>False
abbrev yM(ifs:List Expr)(env:Env):Sem Bool:=forIn ifs true fun c r=>if r=true then do let ok <- isTrue c env (eval c env);pure (ut ok)else pure (ut r)
theorem vz{t target j:Expr}{u:List Expr}{scope:Scope}{B:Pos}{it y:Value}{a:Env}(I:Nat->Shared->Prop)
  (turn:∀n s,I n s->wpAny (model prog w) A (pyNext it) (fun r e=>match r with
   |none=>R (.ok .next) e
   |some v=>wpAny (model prog w) A (zu target it v) (fun _ f=>wpAny (model prog w) A (assign target a v) (fun _ k =>
     wpAny (model prog w) A (yM u a) (fun ok g =>
      if ok=true then wpAny (model prog w) A (eval t a) (fun x l =>
       wpAny (model prog w) A (call (.builtin "list.append") [y,x]) (fun _ o=>∃m,m<n/\I m o) XF l) XF g
      else ∃m,m<n/\I m g) XF k) XF f) XF e) XF s)
  (n:Nat) (h:I n s):zzl83 (model prog w) A (.compLoop (.ListComp t [⟨target,j,u,0⟩] scope B) 0 it y a) R s:=by
 refine codeAny_loop rfl I (fun n s G=>?_) n h;show wpAny _ A ((compTurn (.ListComp t [⟨target,j,u,0⟩] scope B) 0 it y a).onRaise (fun x=>do jv x a;theTreesLotGoes x)) _ _ s
 refine wpAny_noted ?_;rw[compTurn_list];refine aj (qj (aj (cR (turn n s G) (fun r e p=>?_) fun _ _ i=>i.elim)));cases r with
 |none=>exact aD p
 |some v =>
  refine aj (cR p (fun _ f z=>?_) fun _ _ i=>i.elim);refine aj (cR z (fun _ k C=>aj (cR C (fun ok g q=>?_) fun _ _ i=>i.elim)) fun _ _ i=>i.elim);cases ok with
  |false=>exact aD ⟨rfl,q⟩
  |true =>
   exact aj (aj (cR q (fun x l D=>aj (cR D (fun _ o E=>aD (aD ⟨rfl,E⟩)) fun _ _ i=>i.elim)) fun _ _ i=>i.elim))
end
theorem mh{env:Env}:∀(names:List (Str×fL)) (a:List (Str×Addr)),(∀y∈names,y.2=.free->∃c,env.cells.lookup y.1=some c)->(∀x c,a.lookup x=some c->env.cells.lookup x=some c) ->
  ∃f:List (Str×Addr),(forIn names a fun(x:Str×fL) (r:List (Str×Addr))=>if(x.2==kh)=true then(cellOf env x.1 >>= fun c=>(pure (ut ((x.1,c)::r)):Sem (ForInStep (List (Str×Addr)))))else pure (ut r))=pure f /\
   (∀x c,f.lookup x=some c->env.cells.lookup x=some c)/\(∀x,(a.lookup x).isSome=true->(f.lookup x).isSome=true)/\∀y∈names,y.2=.free->(f.lookup y.1).isSome=true
 |[],a,_,m=>⟨a,rfl,m,fun _ h=>h,fun _ h=>nomatch h⟩
 | (n,k)::r,a,has,m=>by
  have t:∀y∈r,y.2=.free->∃c,env.cells.lookup y.1=some c:=fun y hy=>has y (dD _ hy);by_cases p:k=.free
  ·subst p;obtain⟨c,u⟩:=has (n,.free) eQ rfl;obtain⟨f,e,q,o,s⟩:=mh r ((n,c)::a) t (fun x d l=>by
    rw[fJ]at l;cases hx:x==n with
    |true =>
     rw[hx]at l;have:x=n:=by simpa using hx
     subst this;cases l;exact u
    |false=>rw[hx]at l;exact m x d l)
   have g:(((n,c)::a).lookup n).isSome=true:=by rw[fJ,beq_self_eq_true];rfl
   have i:∀x,(a.lookup x).isSome=true->(((n,c)::a).lookup x).isSome=true:=fun x hx=>by
    rw[fJ];cases x==n with
    |true=>rfl
    |false=>exact hx
   refine⟨f,?_,q,fun x hx=>o x (i x hx),fun y hy hf=>?_⟩
   ·rw[qI];have j:cellOf env n=pure c:=by unfold cellOf;rw[u]
    simp only[beq_self_eq_true,if_true,j];exact e
   ·rcases bY.mp hy with rfl|hy
    ·exact o _ g
    ·exact s y hy hf
  ·obtain⟨f,e,q,o,s⟩:=mh r a t m;refine⟨f,?_,q,o,fun y hy hf=>?_⟩
   ·rw[qI];have v:(k==kh)=false:=by simpa using p
    simp only[v,pj,if_false];exact e
   ·rcases bY.mp hy with rfl|hy
    ·exact absurd hf p
    ·exact s y hy hf
theorem se{env:Env}{scope:Scope}(has:∀y∈scope.names,y.2=.free->∃c,env.cells.lookup y.1=some c):
  ∃a:List (Str×Addr),closureFor scope env=pure a/\(∀x c,a.lookup x=some c->env.cells.lookup x=some c)/\∀y∈scope.names,y.2=.free->(a.lookup y.1).isSome=true:=by
 obtain⟨a,e,f,_,g⟩:=mh (env:=env) scope.names [] has (fun _ _ h=>nomatch h);refine⟨a,?_,f,g⟩;unfold closureFor
 first
  |exact e
  | (simp only[bind_pure];exact e)
  | (rw[show(forIn scope.names [] _:Sem (List (Str×Addr)))=pure a from e];rfl)
def c9(X:Cx)(N:Zb)(scope:Scope)(C:Addr)(cl:List (Str×Addr))(s₀:Shared)(H₀:Hp)(ex:Ze)(pn:Zd):Cx where
 prog:=X.prog
 w:=X.w
 K:=X.K
 mg:=X.mg
 base:=X.base
 A:=X.A
 N:=N
 s₀:=s₀
 H₀:=H₀
 env:=compEnvC scope cl C X.env
 outer:=X.stack
 stack:=X.stack
 ex:=ex
 fn:=fun _=>false
 calm:=X.calm
 pn:=pn
 xe:=XF
def lg(sc scope:Scope)(k:Nat)(N XN:Zb)(fi:List Nat):Bool :=
 decide (scope.kind=.function) &&
 (scope.names.all fun y=>decide (y.2≠.cell) && (decide (y.2≠.local) || decide (scope.names.lookup y.1=some .local)) && (decide (y.2≠.free) || decide (sc.names.lookup y.1=some .cell) || decide (sc.names.lookup y.1=some .free))) &&
 decide (N.length=k+fi.length) &&
 ((j8 fi.length).all fun j=>match fi[j]? with
  |some i=>match N[k+j]?,XN[i]? with
   |some x,some y=>decide (x=y) && decide (scope.names.lookup x=some .free)
   |_,_=>false
  |none=>false)
structure mx(sc scope:Scope)(k:Nat)(N XN:Zb)(fi:List Nat):Prop where
 kind:scope.kind=.function
 cell:∀y∈scope.names,y.2≠.cell
 nm:∀y∈scope.names,y.2=.local->scope.names.lookup y.1=some .local
 fr:∀y∈scope.names,y.2=.free->sc.names.lookup y.1=some .cell∨sc.names.lookup y.1=some .free
 len:N.length=k+fi.length
 sl:∀j i,fi[j]?=some i->∃x,N[k+j]?=some x/\XN[i]?=some x/\scope.names.lookup x=some .free
theorem mx.of{sc scope:Scope}{k:Nat}{N g:Zb}{l:List Nat}(h:lg sc scope k N g l=true):mx sc scope k N g l:=by
 unfold lg at h;simp only[h_,qH,Bool.or_eq_true,decide_eq_true_eq]at h;obtain⟨⟨⟨n,m⟩,o⟩,p⟩:=h;refine⟨n,fun y f=>(m y f).1.1,fun y f e=>((m y f).1.2).resolve_left fun z=>z e,fun y f e=>?_,o,fun j i e=>?_⟩
 ·rcases(m y f).2 with(z|z)|z
  ·exact absurd e z
  ·exact .inl z
  ·exact .inr z
 ·have r:j<l.length:=(da.mp e).1;have q:=p j (List.mem_range.mpr r);rw[e]at q;dsimp only at q;cases a:N[k+j]? with
  |none=>rw[a]at q;cases q
  |some x =>
   cases b:g[i]? with
   |none=>rw[a,b]at q;cases q
   |some y =>
    rw[a,b]at q;simp only[h_,decide_eq_true_eq]at q;exact⟨x,rfl,by rw[q.1],q.2⟩
theorem gM{a:Env}:∀{names:List (Str×fL)}{x:Str},names.lookup x=some .free ->
  (names.map fun(n,k)=>if(k==kh && a.scope.kind==.function && a.kindOf n==some .cell)then(n,fL.cell)else(n,k)).lookup x=some .cell ∨
  (names.map fun(n,k)=>if(k==kh && a.scope.kind==.function && a.kindOf n==some .cell)then(n,fL.cell)else(n,k)).lookup x=some .free
 |[],_,h=>by simp at h
 | (n,k)::r,x,h=>by
  have f:=@gM a r x;simp only[bo];cases hx:x==n with
  |true =>
   simp only[fJ,hx]at h;cases h;by_cases e:(kh==kh && a.scope.kind==.function && a.kindOf n==some .cell)=true
   ·left;rw[if_pos e];simp[fJ,hx]
   ·right;rw[if_neg e];simp[fJ,hx]
  |false =>
   simp only[fJ,hx]at h;by_cases e:(k==kh && a.scope.kind==.function && a.kindOf n==some .cell)=true
   ·rw[if_pos e];simp only[fJ,hx];exact f h
   ·rw[if_neg e];simp only[fJ,hx];exact f h
def du(k:Nat)(fi:List Nat)(σ:St):St:=kq k none++fi.map fun i=>(σ[i]?).join
theorem yU(k:Nat)(a:List Nat)(σ:St):(du k a σ).length=k+a.length:=by simp[du]
theorem r_{k:Nat}{f:List Nat}{σ:St}{i:Nat}{v:V}(h:(du k f σ)[i]?=some (some v)):∃j t,i=k+j/\f[j]?=some t/\σ[t]?=some (some v):=by
 unfold du at h;by_cases hi:i<k
 ·rw[kj (by simpa using hi),List.getElem?_replicate_of_lt hi]at h;cases h
 ·rw[nY (by simp;omega),uD,dq]at h;refine⟨i-k,?_⟩;cases e:f[i-k]? with
  |none=>rw[e]at h;cases h
  |some t =>
   rw[e]at h;simp only[qM]at h;refine⟨t,by omega,rfl,?_⟩;have a:=dE h;cases g:σ[t]? with
   |none=>rw[g]at a;cases a
   |some o=>rw[g]at a;simp only[Option.join]at a;first|(rw[a])|(subst a;rfl)|(simpa using a)
def xw(k:Nat)(g:TG):Prop:=∀x σ H Q,g x σ H Q->g x σ H fun σ2 H2=>Q σ2 H2/\σ2.length=σ.length/\∀i,k<=i->σ2[i]?=σ[i]?
def Ax(k:Nat)(g:y4):Prop:=∀x σ H Q,g x σ H Q->g x σ H fun σ2 H2=>Q σ2 H2/\σ2.length=σ.length/\∀i,k<=i->σ2[i]?=σ[i]?
theorem be{k i:Nat}(h:i<k):xw k (dj i):=fun x σ H Q q=>⟨q,by simp,fun j a=>by rw[zz (by omega)]⟩
theorem ni{k:Nat}:Ax k ji:=fun x σ H Q ⟨e,q⟩=>⟨e,q,rfl,fun _ _=>rfl⟩
def C0(g:TG):Prop:=∀x σ H Q Q',(∀σ2 H2,Q σ2 H2->Q' σ2 H2)->g x σ H Q->g x σ H Q'
def vN(g:y4):Prop:=∀x σ H Q Q',(∀σ2 H2,Q σ2 H2->Q' σ2 H2)->g x σ H Q->g x σ H Q'
theorem bL{i:Nat}:C0 (dj i):=fun _ _ _ _ _ f q=>f _ _ q
theorem d5:vN ji:=fun _ _ _ _ _ f ⟨e,q⟩=>⟨e,f _ _ q⟩
theorem fS{g:TG}{u:y4}(a:C0 g)(h:vN u):vN (bu g u):=fun _ _ _ _ _ f ⟨v,r,e,q⟩=>⟨v,r,e,a _ _ _ _ _ (fun _ _ q=>h _ _ _ _ _ f q) q⟩
theorem d4{k:Nat}{g:TG}{u:y4}(a:xw k g)(f:C0 g)(h:Ax k u)(j:vN u):Ax k (bu g u):=fun x σ H Q ⟨v,r,e,q⟩ =>
 ⟨v,r,e,f _ _ _ _ _ (fun σ2 p ⟨q,l,s⟩=>j _ _ _ _ _ (fun σ3 t ⟨m,n,o⟩=>⟨m,n.trans l,fun i hi=>(o i hi).trans (s i hi)⟩) (h _ _ _ _ q)) (a _ _ _ _ q)⟩
theorem qa{K:Za}{k n:Nat}{t:y4}(h:Ax k t):xw k (jO K n t):=fun x σ H Q ⟨a,xs,e,f,g,q⟩=>⟨a,xs,e,f,g,h _ _ _ _ q⟩
def EX(X:Cx)(ifs:List Expr)(t:TT):Prop :=
 ∀(J3:Zd) (s:Shared) (σ:St) (H:Hp) (Q:Bool->Hp->Prop),Inv X J3 σ H s->t σ H Q->wpAny (model X.prog X.w) X.A (yM ifs X.env) (TP X J3 σ Q) X.xe s
def ln:TT:=fun _ H Q=>Q true H
theorem dO{X:Cx}:EX X [] ln:=fun a s σ H Q I h=>aD ⟨H,I,h⟩
theorem iW{X:Cx}{c:Expr}{t:TT}(h:PT X c t):EX X [c] t:=by
 intro a s σ H Q I e;unfold yM;rw[qI];simp only[if_true];refine aj (aj (cb (h a s σ H Q I e) fun b f q=>aD ?_));exact aD q
def de(k:Nat)(fi:List Nat)(wi:TI)(g:TG)(tc:TT)(te:TE):TE:=fun σ H Q=>wi σ H fun J H1=>∀l,H1 l=none->∃W:Nat->Nat->List V->Hp->Prop,(∃m,W 0 m [] (upd H1 l (.lst [])))/\∀i m vs H2,W i m vs H2->H2 l=some (.lst vs) /\
 ((J.stop i H2/\Q (.ref l) H2)∨(J.go i H2/\∀x H3,J.yld i H2 x H3->g x (du k fi σ) H3 fun σ2 H4=>tc σ2 H4 fun b H5 =>
  if b=true then te σ2 H5 fun v H6=>H6 l=some (.lst vs)/\vs.length<am/\∃m',m'<m/\W (i+1) m' (vs++[v]) (upd H6 l (.lst (vs++[v])))else ∃m',m'<m/\W (i+1) m' vs H5))
section
variable{X:Cx}{J3:Zd}{σ:St}
theorem Ef{k:Nat}{N:Zb}{scope:Scope}{L:List Nat}{H:Hp}{s:Shared}{u:List (Str×Addr)}{v:Ze}(S:mx X.env.scope scope k N X.N L)(I:Inv X J3 σ H s)
  (i:∀x c,u.lookup x=some c->X.env.cells.lookup x=some c) (B:∀y∈scope.names,y.2=.free->(u.lookup y.1).isSome=true) (hf:∀b∈v,kP X J3 H b) (C:∀b∈v,b<s.heap.objs.size) :
  (c9 X N scope s.heap.objs.size u s H v (X.pn++J3)).Ok where
 mod:=I.ok.mod
 kind:=S.kind
 glob:=I.ok.glob
 blt:=I.ok.blt
 above:=aO _
 inj:=fun x y c M O=>I.ok.inj x y c (i x c M) (i y c O)
 has:=fun x h=>by
  have D:∃y∈scope.names,y.1=x/\y.2=.free:=by
   have h':(relabel scope X.env).names.lookup x=some .cell∨(relabel scope X.env).names.lookup x=some .free:=h;have m:∀(l:List (Str×fL)) (f:fL),l.lookup x=some f->(x,f)∈l:=by
    intro l
    induction l with
    |nil=>intro f e;cases e
    |cons a r Q =>
     intro f e;obtain⟨n,E⟩:=a;rw[fJ]at e;cases hx:x==n with
     |true =>
      rw[hx]at e;have:x=n:=by simpa using hx
      subst this;cases e;exact eQ
     |false=>rw[hx]at e;exact dD _ (Q f e)
   have g:∀f,(x,f)∈(relabel scope X.env).names->f=.cell∨f=.free->∃y∈scope.names,y.1=x/\y.2=.free:=by
    intro f T G;obtain⟨⟨n,E⟩,p,e⟩:=bh.mp T;dsimp only at e;by_cases t:(E==kh && X.env.scope.kind==.function && X.env.kindOf n==some .cell)=true
    ·have J:E=.free:=by
      simp only[h_]at t;simpa using t.1.1
     rw[if_pos t]at e;cases e;exact⟨_,p,rfl,J⟩
    ·rw[if_neg t]at e;cases e;rcases G with rfl|rfl
     ·exact absurd rfl (S.cell _ p)
     ·exact⟨_,p,rfl,rfl⟩
   rcases h' with h'|h'
   ·exact g _ (m _ _ h') (.inl rfl)
   ·exact g _ (m _ _ h') (.inr rfl)
  obtain⟨y,p,rfl,G⟩:=D;exact uE.mp (B y p G)
 cab:=fun x c h=>by cases h
 hd:=I.ok.hd
 frames:=I.ok.frames
 stk:=.inl rfl
 exf:=fun b j=>⟨bO (C b j),fun x c e=>(hf b j).2.2.2.2.1 x c (i x c e)⟩
 bs:=I.bs
 bsz:=bp I.ok.bsz I.sz
 noex:=fun b o e j=>by
  rcases(hf b j).2.2.2.1 with z|z
  ·exact I.ok.noex b o e z
  ·exact absurd (e_ (aE (I.ok.bs b o e).1) z) (ph _)
 exfs:=fun b j z=>by
  obtain⟨_,U,Y,_⟩:=hf b j;rcases bY.mp (I.stkSub b z)with q|q
  ·exact U q
  ·exact Y q
 funs:=I.stack
 frf:=I.stkFree
theorem CV{k:Nat}{N:Zb}{scope:Scope}{fi:List Nat}{H:Hp}{s:Shared}{L:List (Str×Addr)}{M:Ze}{f:Heap}{t':Nat}{m:Str->Option Value}(S:mx X.env.scope scope k N X.N fi)(I:Inv X J3 σ H s)
  (h:∀x c,L.lookup x=some c->X.env.cells.lookup x=some c) (D:∀y∈scope.names,y.2=.free->(L.lookup y.1).isSome=true) (hf:∀b∈M,kP X J3 H b) (O:∀b∈M,b<s.heap.objs.size)
  (hn:f.Ns s.heap.objs.size m) (g:∀b o,s.heap.get? b=some o->f.get? b=some o) :
  Inv (c9 X N scope s.heap.objs.size L s H M (X.pn++J3)) [] (du k fi σ) H { s with heap:=f,toks:=t' }:=by
 have C:∀(l:List (Str×fL)) (x:Str) (E:fL),l.lookup x=some E->(x,E)∈l:=by
  intro l
  induction l with
  |nil=>intro x E e;cases e
  |cons a r ih =>
   intro x E e;obtain⟨n,k'⟩:=a;rw[fJ]at e;cases hx:x==n with
   |true =>
    rw[hx]at e;have:x=n:=by simpa using hx
    subst this;cases e;exact eQ
   |false=>rw[hx]at e;exact dD _ (ih x E e)
 refine⟨Ef S I h D hf O,rfl,I.bare,Un.kept g,⟨m,hn,fun i x v e1 e2 e3=>?_⟩,fun x c e=>?_,I.hok.fresh (aO _),fun x c e=>I.freeC x c (h x c e),fun p hp=>?_,I.hok.kept g,?_⟩
 ·obtain⟨j,t,rfl,ht,hv⟩:=r_ e2;obtain⟨y,hy,Q,G⟩:=S.sl j t ht;have J:N[k+j]?=some x:=e1;rw[hy]at J;cases J;have B:=C _ _ _ G;obtain⟨c,hc⟩:=uE.mp (D _ B rfl);have hX:=h _ _ hc;obtain⟨mX,ab,T⟩:=I.loc;have kX:=S.fr _ B rfl;obtain⟨u,ru,lk⟩:=T t x v Q hv (by rcases kX with z|z;exact .inr (.inl z);exact .inr (.inr z));refine⟨u,ru,.inr ⟨?_,c,hc,?_⟩⟩
  ·exact gM G
  ·rcases lk with⟨z,_⟩|⟨_,c',e',q⟩
   ·have z':X.env.scope.names.lookup x=some .local:=z;rcases kX with kX|kX<;>rw[z']at kX<;>cases kX
   ·rw[hX]at e';cases e';obtain⟨o,U,Y⟩:=q;exact⟨o,g _ o U,Y⟩
 ·obtain⟨v,o,U,Y⟩:=I.cell x c (h x c e);exact⟨v,o,g _ o U,Y⟩
 ·rw[cO]at hp;obtain⟨e,n,ne,nf,d⟩:=I.pin p hp;refine⟨g _ _ e,n,bO (aE e),fun z=>?_,d⟩;rcases bY.mp (I.stkSub _ z)with q|q
  ·exact ne q
  ·exact nf q
 ·rw[yU];exact S.len.symm
structure vR(X:Cx)(J3:Zd)(H:Hp)(C:Addr):Prop where
 free:H C=none
 loc:C≠X.env.locals
 young:X.s₀.heap.objs.size<=C
 cells:∀x c,X.env.cells.lookup x=some c->c≠C
 pin:∀p∈X.pn++J3,p.1≠C
theorem r9{elt iter tg:Expr}{ifs:List Expr}{scope:Scope}{pos:Pos}{k:Nat}{N:Zb}{fi:List Nat}{cl:List (Str×Addr)}{g:TG}{tc:TT}{te:TE}{it:Addr}{fp:Ze}{tn:Nat->Heap->Prop}{J:It}{s:Hp}{s2:Shared}{Q:VK}
  {E:Zc}{RR:Value->Addr->Result->Shared->Prop}
  (S:mx X.env.scope scope k N X.N fi) (hc:X.calm=true) (a0:∀x c,cl.lookup x=some c->X.env.cells.lookup x=some c) (b8:∀y∈scope.names,y.2=.free->(cl.lookup y.1).isSome=true)
  (hg:∀C cl G H ex pn,PG (c9 X N scope C cl G H ex pn) tg g) (ho:xw k g) (ht:∀C cl G H ex pn,EX (c9 X N scope C cl G H ex pn) ifs tc) (he:∀C cl G H ex pn,PE (c9 X N scope C cl G H ex pn) elt te)
  (I2:Inv X J3 σ s s2) (T:sN X.prog X.w X.K tg J fp it tn) (a4:tn 0 s2.heap) (f2:∀b∈fp,kP X J3 s b)
  (hw:∀l,s l=none->∃W:Nat->Nat->List V->Hp->Prop,(∃m,W 0 m [] (upd s l (.lst [])))/\∀i m O s,W i m O s->s l=some (.lst O) /\
   ((J.stop i s/\Q (.ref l) s)∨(J.go i s/\∀x H3,J.yld i s x H3->g x (du k fi σ) H3 fun σ2 H4=>tc σ2 H4 fun b H5 =>
    if b=true then te σ2 H5 fun v H6=>H6 l=some (.lst O)/\O.length<am/\∃U,U<m/\W (i+1) U (O++[v]) (upd H6 l (.lst (O++[v])))else ∃U,U<m/\W (i+1) U O H5)))
  (hR:∀D C L s' U,Inv X J3 σ L s'->s'.heap.Ns C U->vR X J3 L C->Q (.ref D) L->RR (.ref D) C (.ok .next) s') :
  wpAny (model X.prog X.w) X.A (newList []) (fun acc s₃=>wpAny (model X.prog X.w) X.A (newFunctionEnv scope X.env.globals cl [] X.env.qual none .none (some X.env)) (fun ap s₄ =>
   zzl83 (model X.prog X.w) X.A (.compStart (.ListComp elt [⟨tg,iter,ifs,0⟩] scope pos) 0 (.ref it) acc { ap with scope:=relabel scope X.env }) (RR acc ap.locals) s₄) E s₃) E s2:=by
 have al:s s2.heap.objs.size=none:=I2.fresh;obtain⟨W,⟨m0,w0⟩,turn⟩:=hw _ al;refine kg (wpAny_newFunctionEnv S.cell (by intro y hy;simp at hy) (fun I ab ak=>?_) S.kind);dsimp only at ab ak ⊢;have I3:Inv X J3 σ (upd s s2.heap.objs.size (.lst [])) { s2 with heap:=s2.heap.push { cls:=.type "list",data:=.seq ([]:Zf).toArray },toks:=s2.toks }:=I2.lnew (ys:=[]) .nil (cf _);generalize a5:({ s2 with heap:=s2.heap.push { cls:=.type "list",data:=.seq ([]:Zf).toArray },toks:=s2.toks }:Shared)=B at I3;have an:B.heap=s2.heap.push { cls:=.type "list",data:=.seq ([]:Zf).toArray }:=by rw[<-a5]
 have ce:B.heap.objs.size=s2.heap.objs.size+1:=by rw[an,j7]
 have a6:∀b∈fp,b<s2.heap.objs.size:=fun b f=>by
  obtain⟨o,e,_⟩:=T.obj 0 _ a4 b f;exact aE e
 have f3:∀b∈fp,kP X J3 (upd s s2.heap.objs.size (.lst [])) b:=fun b f=>⟨by rw[ai (bO (a6 b f))];exact(f2 b f).1,(f2 b f).2⟩;have aq:∀b∈fp,b<B.heap.objs.size:=fun b f=>by rw[ce];exact Nat.lt_succ_of_lt (a6 b f)
 have bd:∀b o,B.heap.get? b=some o->I.get? b=some o:=fun b o e=>by
  have f:b≠B.heap.objs.size:=bO (aE e);rw[an]at e f;exact ak.extBut b o f (aV _ e)
 have ch:I.Ns B.heap.objs.size (fun x=>([]:List (Str×Value)).reverse.lookup x):=by rw[an];exact ab
 have I4:Inv (c9 X N scope B.heap.objs.size cl B (upd s s2.heap.objs.size (.lst [])) fp (X.pn++J3)) [] (du k fi σ) (upd s s2.heap.objs.size (.lst [])) { B with heap:=I,toks:=s2.toks+([]:List (Str×Value)).length } :=
  CV S I3 a0 b8 f3 aq ch bd
 have bi:tn 0 I:=T.keep _ _ _ a4 fun b f o e=>bd b o (by rw[an];exact aV _ e);generalize M:c9 X N scope B.heap.objs.size cl B (upd s s2.heap.objs.size (.lst [])) fp (X.pn++J3)=Y at I4;have yp:Y.prog=X.prog:=by rw[<-M];rfl
 have yw:Y.w=X.w:=by rw[<-M];rfl
 have yK:Y.K=X.K:=by rw[<-M];rfl
 have yA:Y.A=X.A:=by rw[<-M];rfl
 have yx:Y.xe=XF:=by rw[<-M];rfl
 have yc:Y.calm=true:=by rw[<-M];exact hc
 have gY:PG Y tg g:=by rw[<-M];exact hg _ _ _ _ _ _
 have tY:EX Y ifs tc:=by rw[<-M];exact ht _ _ _ _ _ _
 have eY:PE Y elt te:=by rw[<-M];exact he _ _ _ _ _ _
 have bl:Y.env=compEnvC scope cl B.heap.objs.size X.env:=by rw[<-M];rfl
 have fY:∀{L:Hp},(∀b∈fp,L b=none)->∀b∈fp,kP Y [] L b:=fun hn b f=>by
  obtain⟨f0,f1,bm,bn,f4,f5⟩:=f3 b f;rw[<-M];refine⟨hn b f,bO (aq b f),fun z=>?_,.inl f,fun x c e=>f4 x c (a0 x c e),fun p hp=>?_⟩
  ·rcases bY.mp (I3.stkSub _ z)with q|q
   ·exact f1 q
   ·exact bm q
  ·rw[cO]at hp;exact f5 p hp
 have as:∀s4:Shared,s4={ B with heap:=I,toks:=s2.toks+([]:List (Str×Value)).length } ->
   zzl83 (model X.prog X.w) X.A (.compLoop (.ListComp elt [⟨tg,iter,ifs,0⟩] scope pos) 0 (.ref it) (.ref s2.heap.objs.size) Y.env) (RR (.ref s2.heap.objs.size) B.heap.objs.size) s4:=by
  rintro s4 rfl;refine vz (fun n s'=>∃i O L,Inv Y [] (du k fi σ) L s'/\tn i s'.heap/\(∀b∈fp,L b=none)/\W i n O L) ?_ m0 ⟨0,[],_,I4,bi,fun b f=>(f3 b f).1,w0⟩;rintro n s5 ⟨i,O,H5,I5,b0,b1,w5⟩;obtain⟨c1,aC⟩:=turn i n O H5 w5;rcases aC with⟨stop,q⟩|⟨go,step⟩
  ·have d:=T.done Y yp yw yK yc i [] s5 _ H5 XF I5 (fY b1) b0 stop;rw[yA]at d;refine cb d fun r s6 a=>?_;obtain⟨hr,I6⟩:=a;subst hr;have hu:Un (lJ X.stack) fp (upd s s2.heap.objs.size (.lst [])) H5 B.heap s6.heap:=by have:=I6.base;rw[<-M]at this;exact this
   have ci:s6.os=B.os:=by have:=I6.os;rw[<-M]at this;exact this
   have b2:j3 X.prog X.w X.K H5 s6.heap:=by have:=I6.hok;rw[<-M]at this;exact this
   have ck:H5 B.heap.objs.size=none:=by have:=I6.free;rw[<-M]at this;exact this
   obtain⟨m6,b3,_⟩:=I6.loc;have b4:s6.heap.Ns B.heap.objs.size m6:=by rw[<-M]at b3;exact b3
   have IX:Inv X J3 σ H5 s6:=I3.call' ci hu b2 I6.bare fun b f=>by
    obtain⟨f0,f1,bm,bn,f4,f5⟩:=f3 b f;exact⟨bn,f1,f4,f5⟩
   refine hR _ _ H5 s6 m6 IX b4 ⟨ck,d9 I3.lt,I3.sz,fun x c e z=>?_,fun p hp z=>?_⟩ q
   ·obtain⟨v,o,ho,_⟩:=I3.cell x c e;exact absurd (aE ho) (by rw[z];exact ph _)
   ·exact absurd (aE (I3.pin p hp).1) (by rw[z];exact ph _)
  ·have d:=T.item Y yp yw yK yc i [] s5 _ H5 XF I5 (fY b1) b0 go;rw[yA]at d;refine cb d fun r s6 a=>?_;obtain⟨u,hr,h6⟩:=a;subst hr;refine cb h6 fun _ s7 a=>?_;obtain⟨x,H7,I7,r7,y7,aS,cm⟩:=a;have cn:=I7.pinned (fY cm) (T.obj _ _ aS);have a7:=gY _ s7 _ H7 x u _ cn r7 (ho _ _ _ _ (step x H7 y7));rw[yp,yw,yA,yx]at a7;refine cb a7 fun _ s8 a=>?_;obtain⟨σ8,H8,I8,q8,l8,k8⟩:=a;have a8:=tY _ s8 σ8 H8 _ I8 q8;rw[yp,yw,yA,yx]at a8;have again:∀{H9:Hp}{s9:Shared}{aT:List V}{U:Nat},Inv Y ([]++oB fp s7.heap) σ8 H9 s9->U<n->W (i+1) U aT H9->∃m,m<n/\∃i O L,Inv Y [] (du k fi σ) L s9/\tn i s9.heap/\(∀b∈fp,L b=none)/\W i m O L:=fun{H9 s9 aT U} I9 hm w9=>by
    refine⟨U,hm,i+1,aT,H9,(I9.unpinned).weak l8.symm (fun j v e=>?_),T.keep _ _ _ aS fun b f o e=>(I9.pin (b,o) (dw _ (dw _ (fU f e)))).1,fun b f=>?_,w9⟩
    ·obtain⟨j',t,rfl,_,_⟩:=r_ e;rw[k8 _ (Nat.le_add_right _ _)];exact e
    ·obtain⟨o,e,_⟩:=T.obj _ _ aS b f;exact(I9.pin (b,o) (dw _ (dw _ (fU f e)))).2.1
   refine cb a8 fun b s9 a=>?_;obtain⟨H9,I9,q9⟩:=a;cases b with
   |false =>
    rw[if_neg iI]at q9 ⊢;obtain⟨U,hm,w9⟩:=q9;exact again I9 hm w9
   |true =>
    rw[if_pos rfl]at q9 ⊢;have a9:=eY _ s9 σ8 H9 _ I9 q9;rw[yp,yw,yA,yx]at a9;refine cb a9 fun y co a=>?_;obtain⟨v,b5,cs,ct,b6,aX,U,hm,cB⟩:=a;have b7:=eT (X:=Y) _ co σ8 b5 (.ref s2.heap.objs.size) [v] (.ref s2.heap.objs.size) [y] (fun z L=>z=.non/\L=upd b5 s2.heap.objs.size (.lst (O++[v]))) cs rfl (.cons ct .nil) ⟨_,O,v,rfl,rfl,b6,aX,rfl,rfl⟩;rw[yp,yw,yA,yx]at b7;refine cb b7 fun _ c2 a=>?_;obtain⟨_,c3,cC,_,_,c0⟩:=a;subst c0;exact again cC hm cB
 have h:=codeAny_compStart_list (prog:=X.prog) (w:=X.w) (A:=X.A) (elt:=elt) (target:=tg) (iter:=iter) (ifs:=ifs) (rest:=[]) (scope:=scope) (pos:=pos) (it:=.ref it) (acc:=.ref s2.heap.objs.size) (env:=Y.env) (as _ rfl) (T.self _ 0 _ _ _ bi (as _ rfl));rw[bl]at h;rw[<-a5]at h;exact h
end
section
variable{X:Cx}
theorem vR.turned{a:Zd}{σ:St}{H:Hp}{s:Shared}{C:Addr}{f:Heap}(c:vR X a H C)(I:Inv X a σ H s)(g:iP C s.heap f):Inv X a σ H { s with heap:=f } :=
 I.turned (t':=s.toks) (fun b o h e=>g.extBut b o h e) c.free c.loc (.inr c.young) c.cells c.pin
theorem DM{m i p:Expr}{n:List Expr}{scope:Scope}{r:Pos}{k:Nat}{N:Zb}{G:List Nat}{L:TI}{g:TG}{M:TT}{O:TE}(Y:lg X.env.scope scope k N X.N G=true)(hc:X.calm=true)(hi:PI X p i L)
  (hg:∀C l a f ex o,PG (c9 X N scope C l a f ex o) p g) (ho:xw k g) (ht:∀C l a f ex o,EX (c9 X N scope C l a f ex o) n M) (he:∀C l a f ex o,PE (c9 X N scope C l a f ex o) m O)
  (hs:∀x,sX i X.env x=pure x:=by intro _;rfl):PE X (.ListComp m [⟨p,i,n,0⟩] scope r) (de k G L g M O):=by
 intro U s σ H Q I h;have S:=mx.of Y;obtain⟨l,j,t,u⟩:=se (env:=X.env) (scope:=scope) fun y hy e=>I.ok.has y.1 (S.fr y hy e);rw[eval_ListComp];refine wpAny_comprehension_free (use:=none) rfl hs j S.kind S.nm (cb (hi U s σ H _ I h) fun v s1 h1=>cb h1 fun ab s2 h2=>?_);obtain⟨it,fp,tn,J,H2,e,I2,T,z,f2,hw⟩:=h2;subst e;refine r9 (RR:=fun B C=>compPost (model X.prog X.w) X.A X.xe none (EP X U σ Q) B C) S hc t u hg ho ht he I2 T z f2 hw ?_;intro D C H' s' m' I' hn ce q;exact⟨m',hn,fun h' E=>⟨.ref D,H',ce.turned I' E,rfl,q⟩⟩
theorem yz{m f B:Expr}{n:List Expr}{scope:Scope}{p o t:Pos}{k:Nat}{N:Zb}{fi:List Nat}{wi:TI}{g:TG}{tc:TT}{te:TE}{j:Nat}{y:Str}(hN:X.N.Nodup)(hj:X.N[j]?=some y)(L:Loc X.env.scope y)(hS:lg X.env.scope scope k N X.N fi=true)(hc:X.calm=true)(hi:PI X B f wi)
  (hg:∀C u i l ex E,PG (c9 X N scope C u i l ex E) B g) (ho:xw k g) (ht:∀C u i l ex E,EX (c9 X N scope C u i l ex E) n tc) (he:∀C u i l ex E,PE (c9 X N scope C u i l ex E) m te)
  (M:lE (.ListComp m [⟨B,f,n,0⟩] scope p) (some (.Name y t)) o.line X.env=pure true:=by rfl)
  (hs:∀x,sX f X.env x=pure x:=by intro _;rfl) (hf:X.fn y=true∨X.env.scope.names.lookup y=some .local:=by first|exact .inl rfl|exact .inr rfl|assumption) :
  PS X (.Assign [.Name y t] (.ListComp m [⟨B,f,n,0⟩] scope p) o) (aR (de k fi wi g tc te) (dj j)):=by
 intro O s σ H D I h;have S:=mx.of hS;obtain⟨u,r,U,Y⟩:=se (env:=X.env) (scope:=scope) fun y L e=>I.ok.has y.1 (S.fr y L e);rw[exec_Assign_Name_used _ _ _ _ M];refine aj (qj (aj ?_));show wpAny _ X.A (do let _ <- comprehension (.ListComp m [⟨B,f,n,0⟩] scope p) scope X.env _ (newList []) false (eval f X.env) (some (assign (.Name y t) X.env))) _ _ s
 refine aj (cR (wpAny_comprehension_free (use:=some (assign (.Name y t) X.env)) (Q:=fun _ G=>SP X O D .next G) rfl hs r S.kind S.nm
  (cb (hi O s σ H _ I h) fun v s1 h1=>cb h1 fun aC s2 h2=>?_)) (fun _ G hq=>aD (aD hq)) fun _ _ e=>e)
 obtain⟨it,fp,tn,J,H2,e,I2,T,ab,f2,hw⟩:=h2;subst e;refine r9 (RR:=fun ak C=>compPost (model X.prog X.w) X.A X.xe (some (assign (.Name y t) X.env)) (fun _ G=>SP X O D .next G) ak C) (Q:=fun x H1=>dj j x σ H1 D.nx) S hc U Y hg ho ht he I2 T ab f2 hw ?_;intro A C H' G m' I' hn ce q;show wpAny _ X.A (assign (.Name y t) X.env (.ref A)) _ _ _;refine wpAny_assign_Name (tu I' hN hj L (v:=.ref A) rfl (fun aS al an=>?_) hf);obtain⟨a,ap,ha⟩:=an;have aq:C≠a:=by
  rcases ha with z|z
  ·rw[z];exact ce.loc
  ·exact cy (ce.cells y a z)
 refine⟨m',hn.sameBut ap aq,fun h' as=>?_⟩;exact⟨_,H',ce.turned al as,q⟩
end
theorem Inv.turnedNew{X:Cx}{i:Zd}{σ:St}{H:Hp}{s:Shared}{g:Heap}{p:Nat}{ch:Ze}{o:HO}(I:Inv X i σ H s)(hf:∀b∈ch,kP X i H b)
  (k:∀b q,b∉ch->s.heap.get? b=some q->g.get? b=some q) (M:∃q,g.get? s.heap.objs.size=some q) (t:∀y,o≠.own y) (new:b_ X.prog X.w X.K (upd H s.heap.objs.size o) g s.heap.objs.size o) :
  Inv X i σ (upd H s.heap.objs.size o) { s with heap:=g,toks:=p }:=by
 have a:H s.heap.objs.size=none:=I.fresh;have j:∀b q,s.heap.get? b=some q->b≠s.heap.objs.size:=fun b q e=>bO (aE e);have l:∀b u,H b=some u->b∉ch:=fun b u e z=>by rw[(hf b z).1]at e;cases e
 refine I.step (g':=s.gens) (d':=s.drawn) (ch:=ch) (fun b h=>?_) (fun b q _ _ f e _=>k b q f e) (fun b q _ _ f e _=>⟨q.slots,k b q f e⟩) (fun b q _ e n=>by rw[ai (j b q e)];exact n) (fun b q f e=>⟨q,k b q f e⟩)
  (fun b xs e=>by rw[ai (ah e a)];exact e) (fun b xs q e z=>k b q (l b _ e) z) (fun b q u e=>by rw[ai (ah e a)];exact e) (fun b N e=>⟨#[],by rw[ai (ah e a),e];simp⟩) (fun m x=>?_) (fun b u e=>?_) I.bare
 ·obtain⟨O,B,Q,C,D,E⟩:=hf b h;exact⟨C,B,D,E⟩
 ·obtain⟨q,G,J,L,r⟩:=x;exact⟨q,G,J,k _ q (fun z=>(hf _ z).2.1 rfl) L,r⟩
 ·by_cases h:b=s.heap.objs.size
  ·subst h;rw[aa]at e;cases e;exact new
  ·rw[ai h]at e;refine(I.hok b u e).stay (fun c v f q=>k c v ?_ q) (fun c q=>by rw[ai (ah q a)];exact q) fun c xs q=>by rw[ai (ah q a)];exact q
   rcases f with z|z
   ·subst z;exact l _ _ e
   ·exact l _ _ z
def GS(K:Za)(a:Addr):It :=
 ⟨fun i H=>∃xs x,aB K H a xs/\xs[i]?=some x,fun i H x H'=>∃p v,x=.ref p/\H p=none/\(∀xs,aB K H a xs->xs[i]?=some v)/\H'=upd H p (.tup [.int i,v]),fun i H=>∃xs,aB K H a xs/\xs.length<=i⟩
theorem AH{P:bg}{w:World}{K:Za}{es:List Expr}{kx:Nat}{J8:Pos}(a e it:Addr)(n:e≠it):
  sN P w K (.Tuple es kx J8) (GS K a) [e,it] e (fun i h=>(∃f,IsEnum h e it i f)/\h.IsListIter it a i) where
 mem:=by simp
 obj:=fun i h st b m=>by
  obtain⟨⟨f,j⟩,o,J,L,hd⟩:=st;rcases bY.mp m with z|z
  ·subst z;exact⟨_,j,fun v z=>by cases z⟩
  ·have M:b=it:=by simpa using z
   subst M;exact⟨o,J,fun v z=>by rw[hd]at z;cases z⟩
 keep:=fun i h D st k=>⟨let⟨f,j⟩:=st.1;⟨f,k e (by simp) _ j⟩,st.2.at fun o e=>k it (by simp) o e⟩
 item:=by
  intro X N O Q L i J3 s σ H E I hf st T;subst N O Q;obtain⟨⟨f,j⟩,l⟩:=st;obtain⟨xs,x,G,hx⟩:=T;obtain⟨U,Y,p,hz⟩:=I.list G;obtain⟨u,hu,ru⟩:=Y.get hx;obtain⟨e0,e1,e2,e3,e4,e5⟩:=hf e (by simp);obtain⟨f0,f1,f2,f3,f4,f5⟩:=hf it (by simp);refine wpAny_pyNext_enum_item j l p.isList (x:=u) (by simpa using hu) n fun D ab r ak aX al=>?_;refine⟨_,rfl,wpAny_letOwnedTupleGo_enum (s:={ s with heap:=D,toks:=s.toks+1 }) ab fun h2 an ap=>?_⟩;have g:iP e D h2:=ap;have t:s.heap.objs.size≠e:=d9 (aE j);have B:h2.get? s.heap.objs.size=some { cls:=.type "tuple",data:=.seq #[.int i s.toks,u] }:=g.extBut _ _ t ak;have aq:H s.heap.objs.size=none:=I.fresh;have as:upd H s.heap.objs.size (.tup [.int i,x]) e=none:=by rw[ai (cy t)];exact e0
  have aC:s.heap.objs.size≠it:=by
   obtain⟨o,J,_⟩:=l;exact d9 (aE J)
  have aS:upd H s.heap.objs.size (.tup [.int i,x]) it=none:=by rw[ai (cy aC)];exact f0
  have I2:Inv X J3 σ (upd H s.heap.objs.size (.tup [.int i,x])) { s with heap:=h2,toks:=s.toks+1 }:=by
   refine I.turnedNew (ch:=[e,it]) hf (fun b o m q=>?_) ⟨_,B⟩ (fun _ z=>nomatch z) ⟨by show 2<=am;decide,[.int i s.toks,u],.cons ⟨_,rfl⟩ (.cons ru .nil),⟨_,B,rfl,_,rfl⟩⟩;have C:b≠e:=fun z=>m (by simp[z]);have aT:b≠it:=fun z=>m (by simp[z]);exact g.extBut _ _ C (al b o C aT q)
  refine⟨.ref s.heap.objs.size,_,I2,rfl,⟨_,x,rfl,aq,fun ys hy=>by rw[I.list_inj hy G];exact hx,rfl⟩,⟨⟨u,by simpa using an⟩,r.at fun o y=>(g.2 it (cy n)).trans y⟩,fun b m=>?_⟩;rcases bY.mp m with z|z
  ·subst z;exact as
  ·have M:b=it:=by simpa using z
   subst M;exact aS
 done:=by
  intro X N O Q L i J3 s σ H E I hf st T;subst N O Q;obtain⟨⟨f,j⟩,l⟩:=st;obtain⟨xs,G,hx⟩:=T;obtain⟨U,Y,p,hz⟩:=I.list G;obtain⟨f0,f1,f2,f3,f4,f5⟩:=hf it (by simp);have hl:=Y.length;exact wpAny_pyNext_enum_end (I.ok.hd L) j l p.isList (by simp;omega) fun D eb=>⟨rfl,I.turned (t':=s.toks) (fun b o m e=>eb b o m e) f0 f1 f3 f4 f5⟩
 self:=fun _ _ _ _ _ st h=>let⟨_,j⟩:=st.1;wpAny_pyIter_enum j h
section
variable{X:Cx}{p pos:Pos}{es:List Expr}{kx:Nat}{J8:Pos}
def nu(K:Za)(ta:TA):TI:=fun σ H R=>ta σ H fun vs H1=>∃a,vs=[.ref a]/\(∃xs,aB K H1 a xs)/\R (GS K a) H1
theorem iX{a:Expr}{n:TA}(x:Gl X "enumerate")(y:X.mg "enumerate"=none)(B:PA X [a] n)(C:au [a] X.env=[(false,eval a X.env)]:=by rfl):PI X (.Tuple es kx J8) (.Call (.Name "enumerate" p) [a] [] pos) (nu X.K n):=by
 intro r s σ H R I h;refine Call_ (oO I x y boot_enumerate (zo (cb (B pos r s σ H _ I h) fun Y s1 i=>?_) C rfl));obtain⟨vs,t,g,D,E⟩:=i;obtain⟨l,e,⟨xs,G⟩,q⟩:=E;subst e;obtain⟨u,rfl,J⟩:=vals1 D;cases J;obtain⟨L,rv,M,hz⟩:=g.list G;refine call_enumerate_list M.isList fun j v k N O=>?_;refine wpAny_pyIter_enum (s:={ s1 with heap:=j }) v ?_;have m:∀b o,s1.heap.get? b=some o->j.get? b=some o:=O;have Q:Inv X r σ t { s1 with heap:=j }:=g.kept (t':=s1.toks) m;refine⟨_,[s1.heap.objs.size+1,s1.heap.objs.size],_,_,t,rfl,Q,AH l _ _ (Nat.succ_ne_self _),⟨⟨_,v⟩,k⟩,fun b T=>?_,q⟩;have f:s1.heap.objs.size<=b:=by
  rcases bY.mp T with z|z
  ·rw[z];exact jy _
  ·have U:b=s1.heap.objs.size:=by simpa using z
   rw[U];exact aO _
 exact g.fpOk f (g.hok.fresh f)
end
def Ha(x:Str):It:=⟨fun i _=>i<x.cps.size,fun i H y H'=>H'=H/\∃c,x.cps[i]?=some c/\y=.str ⟨#[c]⟩,fun i _=>x.cps.size<=i⟩
theorem xQ{P:bg}{w:World}{K:Za}{G:Expr}(x:Str)(t:Tok)(it:Addr):sN P w K G (Ha x) [it] it (fun i h=>h.IsStrIter it "str_ascii_iterator" x t i) where
 mem:=by simp
 obj:=fun i h st b a=>by
  have e:b=it:=by simpa using a
  subst e;obtain⟨o,e,c,d⟩:=st;exact⟨o,e,fun v z=>by rw[d]at z;cases z⟩
 keep:=fun i h g st k=>by
  obtain⟨o,e,c,d⟩:=st;exact⟨o,k it (by simp) o e,c,d⟩
 item:=by
  intro X j l m C i D s σ H E I hf st n;subst j l m;have p:i<x.cps.size:=n;obtain⟨q,r,J,u,y,B⟩:=hf it (by simp);have hx:x.cps[i]?=some x.cps[i]:=by simp[p]
  refine wpAny_pyNext_ascii_item st hx fun g f L=>?_;have M:Inv X D σ H { s with heap:=g,toks:=s.toks+1 }:=I.turned (t':=s.toks+1) (fun b o a e=>(L.2 b a).trans e) q r u y B;obtain⟨o,e,c,d⟩:=id f;exact⟨_,rfl,wY (s:={ s with heap:=g,toks:=s.toks+1 }) e c d (by decide) ⟨.str ⟨#[x.cps[i]]⟩,H,M,⟨_,rfl⟩,⟨rfl,_,hx,rfl⟩,f,fun b a=>(hf b a).1⟩⟩
 done:=by
  intro X j l m C i D s σ H E I hf st n;subst j l m;have N:x.cps.size<=i:=n;obtain⟨q,r,J,u,y,B⟩:=hf it (by simp);exact wpAny_pyNext_ascii_end (I.ok.hd C) st (by simp;omega) fun g O=>⟨rfl,I.turned (t':=s.toks) (fun b o a e=>O b o a e) q r u y B⟩
 self:=fun _ _ _ _ _ st h=>wpAny_pyIter_striter_ascii st h
theorem AG{P:bg}{w:World}{K:Za}{G:Expr}(x:Str)(t:Tok)(it:Addr):sN P w K G (Ha x) [it] it (fun i h=>h.IsStrIter it "str_iterator" x t i) where
 mem:=by simp
 obj:=fun i h st b a=>by
  have e:b=it:=by simpa using a
  subst e;obtain⟨o,e,c,d⟩:=st;exact⟨o,e,fun v z=>by rw[d]at z;cases z⟩
 keep:=fun i h g st k=>by
  obtain⟨o,e,c,d⟩:=st;exact⟨o,k it (by simp) o e,c,d⟩
 item:=by
  intro X j l m C i D s σ H E I hf st n;subst j l m;have p:i<x.cps.size:=n;obtain⟨q,r,J,u,y,B⟩:=hf it (by simp);have hx:x.cps[i]?=some x.cps[i]:=by simp[p]
  refine wpAny_pyNext_wide_item st hx fun g f L=>?_;have M:Inv X D σ H { s with heap:=g,toks:=s.toks+1 }:=I.turned (t':=s.toks+1) (fun b o a e=>(L.2 b a).trans e) q r u y B;obtain⟨o,e,c,d⟩:=id f;exact⟨_,rfl,wY (s:={ s with heap:=g,toks:=s.toks+1 }) e c d (by decide) ⟨.str ⟨#[x.cps[i]]⟩,H,M,⟨_,rfl⟩,⟨rfl,_,hx,rfl⟩,f,fun b a=>(hf b a).1⟩⟩
 done:=by
  intro X j l m C i D s σ H E I hf st n;subst j l m;have N:x.cps.size<=i:=n;obtain⟨q,r,J,u,y,B⟩:=hf it (by simp);exact wpAny_pyNext_wide_end (I.ok.hd C) st (by simp;omega) fun g O=>⟨rfl,I.turned (t':=s.toks) (fun b o a e=>O b o a e) q r u y B⟩
 self:=fun _ _ _ _ _ st h=>wpAny_pyIter_striter_wide st h
section
variable{X:Cx}{p pos:Pos}{tg:Expr}
def GA(tl:TE):TI:=fun σ H R=>tl σ H fun v H1=>∃x,v=.str x/\R (Ha x) H1
theorem Fv{l:Expr}{k:TE}(r:PE X l k):PI X tg l (GA k):=by
 intro m s σ H R I h;refine cb (r m s σ H _ I h) fun v a i=>?_;obtain⟨y,j,g,u,z⟩:=i;obtain⟨x,e,q⟩:=z;subst e;obtain⟨t,rfl⟩:=u;have f:∀b∈[a.heap.objs.size],kP X m j b:=fun b B=>by
  have e:b=a.heap.objs.size:=by simpa using B
  subst e;exact g.fpOk (aO _) (g.hok.fresh (aO _))
 cases n:x.cps.all (·<128)
 ·refine wpAny_pyIter_wide n ?_;exact⟨a.heap.objs.size,[a.heap.objs.size],_,_,j,rfl,g.kept (t':=a.toks) fun b o e=>aV _ e,AG x t _,⟨_,cN _ rfl,rfl,rfl⟩,f,q⟩
 ·refine wpAny_pyIter_ascii n ?_;exact⟨a.heap.objs.size,[a.heap.objs.size],_,_,j,rfl,g.kept (t':=a.toks) fun b o e=>aV _ e,xQ x t _,⟨_,cN _ rfl,rfl,rfl⟩,f,q⟩
end
def Itz(K:Za)(a b:Addr):It :=
  ⟨fun i H=>∃xs ys x y,aB K H a xs/\aB K H b ys/\xs[i]?=some x/\ys[i]?=some y,
   fun i H x H'=>∃p u v,x=.ref p/\H p=none/\(∀xs,aB K H a xs->xs[i]?=some u)/\(∀ys,aB K H b ys->ys[i]?=some v)/\H'=upd H p (.tup [u,v]),
   fun i H=>∃xs ys,aB K H a xs/\aB K H b ys/\(xs.length<=i∨ys.length<=i)⟩
theorem BH{P:bg}{w:World}{K:Za}{es:List Expr}{kx:Nat}{J8:Pos}(a b z TI TO t B:Addr)(D:nV z TI TO t B a b):
  sN P w K (.Tuple es kx J8) (Itz K a b) [z,TI,TO,t,B] z (fun i h=>IsZip h z TI TO .none/\IsPair h TI (.ref t) (.ref B)/\(∃a b,IsPair h TO a b)/\h.IsListIter t a i/\h.IsListIter B b i) where
 mem:=by simp
 obj:=fun i h st c f=>by
  obtain⟨p,j,⟨u,v,l⟩,J,L⟩:=st;simp only[bY,qG,or_false]at f;rcases f with rfl|rfl|rfl|rfl|rfl
  ·exact⟨_,p,fun v z=>by cases z⟩
  ·exact⟨_,j,fun v z=>by cases z⟩
  ·exact⟨_,l,fun v z=>by cases z⟩
  ·obtain⟨o,e,c,d⟩:=J;exact⟨o,e,fun v z=>by rw[d]at z;cases z⟩
  ·obtain⟨o,e,c,d⟩:=L;exact⟨o,e,fun v z=>by rw[d]at z;cases z⟩
 keep:=fun i h O st k=>by
  obtain⟨p,j,⟨u,v,l⟩,J,L⟩:=st;exact⟨k z (by simp) _ p,k TI (by simp) _ j,⟨u,v,k TO (by simp) _ l⟩,J.at fun o e=>k t (by simp) o e,L.at fun o e=>k B (by simp) o e⟩
 item:=by
  intro X hP hw hK f i J3 s σ H E I hf st hg;subst hP hw hK;obtain⟨p,j,⟨u0,v0,l⟩,J,L⟩:=st;obtain⟨xs,ys,x,y,C,G,hx,hy⟩:=hg;obtain⟨an,rx,px,zx⟩:=I.list C;obtain⟨ap,ry,py,zy⟩:=I.list G;obtain⟨u,hu,ru⟩:=rx.get hx;obtain⟨v,hv,rv⟩:=ry.get hy;refine wpAny_pyNext_zip_item D p j l J L px.isList py.isList (x:=u) (y:=v) (by simpa using hu) (by simpa using hv) fun O a1 a2 a3 a4 a5 a6 hk=>?_;refine⟨_,rfl,wpAny_letOwnedTupleGo_zip (s:={ s with heap:=O }) a1 fun M aq as=>?_⟩;have g:iP z O M:=as;have Q:s.heap.objs.size≠z:=d9 (aE p);have T:s.heap.objs.size≠TO:=d9 (aE l);have U:s.heap.objs.size≠TI:=d9 (aE j);have Y:s.heap.objs.size≠t:=by obtain⟨o,ho,_⟩:=J;exact d9 (aE ho)
  have ab:s.heap.objs.size≠B:=by obtain⟨o,ho,_⟩:=L;exact d9 (aE ho)
  have ak:IsPair M s.heap.objs.size u v:=g.extBut _ _ Q a5;have I2:Inv X J3 σ (upd H s.heap.objs.size (.tup [x,y])) { s with heap:=M,toks:=s.toks }:=by
   refine I.turnedNew (ch:=[z,TI,TO,t,B]) hf (fun c o f q=>?_) ⟨_,ak⟩ (fun _ z=>nomatch z) ⟨by show 2<=am;decide,[u,v],.cons ru (.cons rv .nil),⟨_,ak,rfl,_,rfl⟩⟩;have n1:c≠z:=fun q=>f (by simp[q]);exact g.extBut _ _ n1 (hk c o n1 (fun q=>f (by simp[q])) (fun q=>f (by simp[q])) (fun q=>f (by simp[q])) q)
  refine⟨.ref s.heap.objs.size,_,I2,rfl,⟨_,x,y,rfl,I.fresh,fun zs p=>by rw[I.list_inj p C];exact hx,fun zs p=>by rw[I.list_inj p G];exact hy,rfl⟩,⟨aq,g.extBut _ _ D.TIz (hk _ _ D.TIz D.TITO D.TIi1 D.TIi2 j),⟨_,_,g.extBut _ _ D.TOz a2⟩,a3.at fun o e=>g.extBut _ _ D.i1z e,a4.at fun o e=>g.extBut _ _ D.i2z e⟩,fun c f=>?_⟩;have aC:=(hf c f).1;simp only[bY,qG,or_false]at f;have ne:c≠s.heap.objs.size:=by
   rcases f with rfl|rfl|rfl|rfl|rfl
   ·exact Q.symm
   ·exact U.symm
   ·exact T.symm
   ·exact Y.symm
   ·exact ab.symm
  rw[ai ne];exact aC
 done:=by
  intro X hP hw hK f i J3 s σ H E I hf st hg;subst hP hw hK;obtain⟨p,j,⟨u0,v0,l⟩,J,L⟩:=st;obtain⟨xs,ys,C,G,al⟩:=hg;obtain⟨an,rx,px,zx⟩:=I.list C;obtain⟨ap,ry,py,zy⟩:=I.list G;have lx:=rx.length;have ly:=ry.length;refine wpAny_pyNext_zip_end (I.ok.hd f) D p j l J L px.isList py.isList (by rcases al with q|q;exact .inl (by simp;omega);exact .inr (by simp;omega)) fun O hk=>⟨rfl,?_⟩;have tr:∀c q,H c=some q->c∉[z,TI,TO,t,B]:=fun c q e m=>by rw[(hf c m).1]at e;cases e
  have N:∀c o,c∉[z,TI,TO,t,B]->s.heap.get? c=some o->O.get? c=some o:=fun c o f q=>hk c o (fun q=>f (by simp[q])) (fun q=>f (by simp[q])) (fun q=>f (by simp[q])) (fun q=>f (by simp[q])) q;refine I.step (g':=s.gens) (d':=s.drawn) (t':=s.toks) (ch:=[z,TI,TO,t,B]) (fun c f=>?_) (fun c o _ _ f e _=>N c o f e) (fun c o _ _ f e _=>⟨o.slots,N c o f e⟩) (fun _ _ _ _ n=>n) (fun c o f e=>⟨o,N c o f e⟩) (fun _ _ e=>e) (fun c xs o e z=>N c o (tr c _ e) z) (fun _ _ _ e=>e) (fun c ps e=>⟨#[],by rw[e];simp⟩) (fun m hm=>?_) (fun c q e=>?_) I.bare
  ·obtain⟨f0,f1,f2,f3,f4,f5⟩:=hf c f;exact⟨f3,f1,f4,f5⟩
  ·obtain⟨q,aS,ep,ho,r⟩:=hm;exact⟨q,aS,ep,N _ q (fun z=>(hf _ z).2.1 rfl) ho,r⟩
  ·refine(I.hok c q e).stay (fun d v hd q'=>N d v ?_ q') (fun _ q=>q) fun _ _ q=>q;rcases hd with z|z
   ·subst z;exact tr _ _ e
   ·exact tr _ _ z
 self:=fun _ _ _ _ _ st h=>ur st.1 h
section
variable{prog:bg}{w:World}{A:Around}{E:Zc}{s:Shared}
theorem jL{it t:Addr}{i:Nat}{items:Array Value}{x:Value}{Q:Zc}(st:s.heap.IsTupleIter it t i)(g:s.heap.IsTuple t items)(hx:items[i]?=some x)
  (k:∀f,f.IsTupleIter it t (i+1)->iP it s.heap f->Q x { s with heap:=f }):wpAny (model prog w) A (kf (.ref it)) Q E s:=by
 obtain⟨m,e,h,a⟩:=id st;obtain⟨n,j,_,o,l⟩:=g;unfold kf;refine aj (nU (name:=nS "__next__") st.typeIs uq
  (tW uq st.typeIs F.entry_tuple_iterator_next ?_ (F.args_tuple_iterator_next_1 _)))
 show wpAny _ _ (field (.ref it) 0 >>= _) _ _ s;refine aj (bP e a (x:=.ref t) rfl ?_);show wpAny _ _ (if(Value.ref t==Value.none)=true then _ else _) _ _ s
 rw[if_neg (show ¬((Value.ref t==Value.none)=true)from iI)];show wpAny _ _ (field (.ref it) 1 >>= _) _ _ s;refine aj (bP e a (x:=.int i 0) rfl ?_);show wpAny _ _ (seqItems? (.ref t) >>= _) _ _ s;refine aj (lG j l ?_);simp only[jw,hx];refine aj (gE e a (by simp) (aD ⟨x,rfl,aD (k _ ?_ (lO ..))⟩));exact⟨_,fK _ e (ju (ff a _)),(Obj.cls_mapFields ..).trans h,by
  rw[ff a];simp[rawInt]⟩
theorem pC{it t:Addr}{i:Nat}{items:Array Value}{Q:Zc}(j:A.handled=none)(st:s.heap.IsTupleIter it t i)(l:s.heap.IsTuple t items)(hx:items[i]?=none)
  (k:∀f e,Heap.ExtBut it s.heap f->(∃o,f.get? e=some o/\o.cls=.type "StopIteration")->E (.ref e) { s with heap:=f }):wpAny (model prog w) A (kf (.ref it)) Q E s:=by
 obtain⟨q,g,r,h⟩:=id st;obtain⟨u,n,_,v,p⟩:=l;unfold kf;refine aj (nU (name:=nS "__next__") st.typeIs uq
  (tW uq st.typeIs F.entry_tuple_iterator_next ?_ (F.args_tuple_iterator_next_1 _)))
 show wpAny _ _ (field (.ref it) 0 >>= _) _ _ s;refine aj (bP g h (x:=.ref t) rfl ?_);show wpAny _ _ (if(Value.ref t==Value.none)=true then _ else _) _ _ s
 rw[if_neg (show ¬((Value.ref t==Value.none)=true)from iI)];show wpAny _ _ (field (.ref it) 1 >>= _) _ _ s;refine aj (bP g h (x:=.int i 0) rfl ?_);show wpAny _ _ (seqItems? (.ref t) >>= _) _ _ s;refine aj (lG n p ?_);simp only[jw,hx];refine aj (pk (aj (gE g h (by simp) ?_)));show wpAny _ _ (newExc (.type "StopIteration") [] >>= _) _ _ _;refine aj ?_;simp only[newExc,newTuple];refine aj (kg ?_ (by size_fits));refine aj (m:=uo _ _) (wpAny_of_eq (a:=Value.none) (by first|rfl|(simp only[uo];rfl)) ?_)
 refine kg ?_ (by size_fits);simp only[raiseNew];refine aj (wpAny_handled ?_)
 first|rw[show A.in1.handled=none from j] | rw[j]
 refine aj (aD (wpAny_throw ?_));exact k _ _ (((lO ..).extBut.push _).push _) ⟨_,cN _ rfl,rfl⟩
theorem AB{z TI TO L M l1 l2:Addr}{k1 k2:Nat}{xs ys:Array Value}{x y a b:Value}{Q:Zc}(D:nV z TI TO L M l1 l2)
  (gz:IsZip s.heap z TI TO .none) (gI:IsPair s.heap TI (.ref L) (.ref M)) (gO:IsPair s.heap TO a b)
  (g1:s.heap.IsTupleIter L l1 k1) (g2:s.heap.IsTupleIter M l2 k2) (t1:s.heap.IsTuple l1 xs) (t2:s.heap.IsTuple l2 ys) (hx:xs[k1]?=some x) (hy:ys[k2]?=some y)
  (k:∀N,IsZip N z TI TO (rawInt s.heap.objs.size)->IsPair N TO x y->N.IsTupleIter L l1 (k1+1)->N.IsTupleIter M l2 (k2+1)->IsPair N s.heap.objs.size x y->N.objs.size=s.heap.objs.size+1 ->
   (∀c o,c≠z->c≠TO->c≠L->c≠M->s.heap.get? c=some o->N.get? c=some o)->Q (.ref s.heap.objs.size) { s with heap:=N }) :
  wpAny (model prog w) A (bQ.«zip.__next__» ⟨[.ref z],[]⟩) (fun as s'=>∃v,as=.done (.ret v)/\Q v s') E s:=by
 show wpAny _ _ (field (.ref z) 2 >>= _) _ _ _;refine aj (bP gz rfl (x:=.bool false) rfl ?_);show wpAny _ _ (field (.ref z) 3 >>= _) _ _ _;refine aj (bP gz rfl (x:=.ref TI) rfl ?_);refine aj (lG gI rfl ?_);show wpAny _ _ (um (.ref z) >>= _) _ _ _;refine aj ?_;unfold um;refine aj (bP gz rfl (x:=.none) rfl (aD ?_));simp only[if_true];refine aj (pk ?_);refine aj (bP gz rfl (x:=.ref TO) rfl ?_);refine aj (nR gz (by simp) fun m₁ q g=>?_)
 replace q:IsZip m₁ z TI TO .ellipsis:=q
 refine aj ?_;simp only[List.zipIdx_cons,List.zipIdx_nil,qI,List.forIn_nil];refine aj (aj (qF ?_));show wpAny _ _ (kf (.ref L) >>= _) _ _ _;refine aj (jL (g1.extBut g.extBut D.i1z) (t1.extBut g.extBut D.l1z) hx fun m₂ O h=>aD ?_);have B:IsPair m₂ TO a b:=h.extBut _ _ D.TOi1 (g.extBut _ _ D.TOz gO);refine aj (lG B rfl ?_);refine aj (wpAny_updateSeq_pair B fun m₃ t i=>?_)
 replace t:IsPair m₃ TO x b:=t
 refine aj (ul (aD ?_));refine aj (aj (qF ?_));show wpAny _ _ (kf (.ref M) >>= _) _ _ _;refine aj (jL (((g2.extBut g.extBut D.i2z).extBut h.extBut D.i12.symm).extBut i.extBut D.TOi2.symm)
  (((t2.extBut g.extBut D.l2z).extBut h.extBut D.l2i1).extBut i.extBut D.l2TO) hy fun m₄ T m=>aD ?_)
 have C:IsPair m₄ TO x b:=m.extBut _ _ D.TOi2 t;refine aj (lG C rfl ?_);refine aj (wpAny_updateSeq_pair C fun f j n=>?_)
 replace j:IsPair f TO x y:=j
 refine aj (ul (aD (aD ?_)));refine aj (lG j rfl ?_);refine aj (wpAny_newTuple ?_);have an:f.objs.size=s.heap.objs.size:=by rw[n.1,m.1,i.1,h.1,g.1]
 have G:IsZip f z TI TO .ellipsis:=n.extBut _ _ D.TOz.symm (m.extBut _ _ D.i2z.symm (i.extBut _ _ D.TOz.symm (h.extBut _ _ D.i1z.symm q)));have U:∀c o,c≠z->c≠TO->c≠L->c≠M->s.heap.get? c=some o->f.get? c=some o:=fun c o Y c2 c3 c4 e =>
  n.extBut _ _ c2 (m.extBut _ _ c4 (i.extBut _ _ c2 (h.extBut _ _ c3 (g.extBut _ _ Y e))))
 have ab:f.IsTupleIter L l1 (k1+1):=((O.extBut i.extBut D.TOi1.symm).extBut m.extBut D.i12).extBut n.extBut D.TOi1.symm;have ak:f.IsTupleIter M l2 (k2+1):=T.extBut n.extBut D.TOi2.symm;have ap:z<f.objs.size:=aE G;show wpAny _ _ (bQ.SmallTypes.ownedTupleHandOut (.ref z) (.ref f.objs.size) >>= _) _ _ _;refine aj ?_;unfold bQ.SmallTypes.ownedTupleHandOut;have al:IsZip (f.push { cls:=.type "tuple",data:=.seq #[x,y] }) z TI TO .ellipsis:=aV _ G;refine aj (nR al (by simp) fun m₇ u H=>?_)
 replace u:IsZip m₇ z TI TO (rawInt f.objs.size):=u
 refine nR u (by simp) fun p l I=>?_
 replace l:IsZip p z TI TO (rawInt f.objs.size):=l
 have up:∀c o,c≠z->f.get? c=some o->p.get? c=some o:=fun c o Y e=>I.extBut _ _ Y (H.extBut _ _ Y (aV _ e));have J:IsPair p f.objs.size x y:=I.extBut _ _ (d9 ap) (H.extBut _ _ (d9 ap) (cN _ rfl));have aq:p.objs.size=f.objs.size+1:=by rw[I.1,H.1,j7]
 rw[an]at l J aq;refine aD ⟨_,rfl,?_⟩;show Q (.ref f.objs.size) _;rw[an];refine k p l (up _ _ D.TOz j) ?_ ?_ J aq fun c o Y c2 c3 c4 e=>up c o Y (U c o Y c2 c3 c4 e)
 ·obtain⟨o,e,r⟩:=ab;exact⟨o,up _ o D.i1z e,r⟩
 ·obtain⟨o,e,r⟩:=ak;exact⟨o,up _ o D.i2z e,r⟩
theorem Bz{z TI TO v y J L:Addr}{M N:Nat}{xs O:Array Value}{a b:Value}{Q:Fin->Shared->Prop}(hh:A.handled=none)(D:nV z TI TO v y J L)
  (B:IsZip s.heap z TI TO .none) (gI:IsPair s.heap TI (.ref v) (.ref y)) (gO:IsPair s.heap TO a b)
  (g1:s.heap.IsTupleIter v J M) (g2:s.heap.IsTupleIter y L N) (t1:s.heap.IsTuple J xs) (t2:s.heap.IsTuple L O) (T:xs[M]?=none∨O[N]?=none)
  (k:∀U e,(∀c o,c≠z->c≠TO->c≠v->c≠y->s.heap.get? c=some o->U.get? c=some o)->(∃o,U.get? e=some o/\o.cls=.type "StopIteration")->E (.ref e) { s with heap:=U }) :
  wpAny (model prog w) A (bQ.«zip.__next__» ⟨[.ref z],[]⟩) Q E s:=by
 show wpAny _ _ (field (.ref z) 2 >>= _) _ _ _;refine aj (bP B rfl (x:=.bool false) rfl ?_);show wpAny _ _ (field (.ref z) 3 >>= _) _ _ _;refine aj (bP B rfl (x:=.ref TI) rfl ?_);refine aj (lG gI rfl ?_);show wpAny _ _ (um (.ref z) >>= _) _ _ _;refine aj ?_;unfold um;refine aj (bP B rfl (x:=.none) rfl (aD ?_));simp only[if_true];refine aj (pk ?_);refine aj (bP B rfl (x:=.ref TO) rfl ?_);refine aj (nR B (by simp) fun m₁ i f=>?_)
 replace i:IsZip m₁ z TI TO .ellipsis:=i
 refine aj ?_;simp only[List.zipIdx_cons,List.zipIdx_nil,qI,List.forIn_nil];refine aj (aj (qF ?_));show wpAny _ _ (kf (.ref v) >>= _) _ _ _;cases hx:xs[M]? with
 |none =>
  refine aj (pC hh (g1.extBut f.extBut D.i1z) (t1.extBut f.extBut D.l1z) hx fun m₂ e g Y=>?_);obtain⟨oe,t,C⟩:=Y;have j:IsZip m₂ z TI TO .ellipsis:=g _ _ D.i1z.symm i;have u:e≠z:=fun q=>by subst q;rw[j]at t;cases t;simp at C
  refine nR j (by simp) fun n _ h=>k n e (fun c o G _ c3 _ q=>h.extBut _ _ G (g _ _ c3 (f.extBut _ _ G q))) ⟨oe,h.extBut _ _ u t,C⟩
 |some x =>
  have hy:O[N]?=none:=by rcases T with q|q;rw[hx]at q;cases q;exact q
  refine aj (jL (g1.extBut f.extBut D.i1z) (t1.extBut f.extBut D.l1z) hx fun m₂ ab g=>aD ?_);have l:IsPair m₂ TO a b:=g.extBut _ _ D.TOi1 (f.extBut _ _ D.TOz gO);refine aj (lG l rfl ?_);refine aj (wpAny_updateSeq_pair l fun n ak h=>?_);refine aj (ul (aD ?_));refine aj (aj (qF ?_));show wpAny _ _ (kf (.ref y) >>= _) _ _ _;refine aj (pC hh (((g2.extBut f.extBut D.i2z).extBut g.extBut D.i12.symm).extBut h.extBut D.TOi2.symm)
   (((t2.extBut f.extBut D.l2z).extBut g.extBut D.l2i1).extBut h.extBut D.l2TO) hy fun H e p Y=>?_)
  obtain⟨oe,t,C⟩:=Y;have m:IsZip H z TI TO .ellipsis:=p _ _ D.i2z.symm (h.extBut _ _ D.TOz.symm (g.extBut _ _ D.i1z.symm i));have u:e≠z:=fun q=>by subst q;rw[m]at t;cases t;simp at C
  refine nR m (by simp) fun I _ r=>k I e (fun c o G c2 c3 c4 q=>r.extBut _ _ G (p _ _ c4 (h.extBut _ _ c2 (g.extBut _ _ c3 (f.extBut _ _ G q))))) ⟨oe,r.extBut _ _ u t,C⟩
theorem sL{z TI TO f g h i:Addr}{j l:Nat}{xs ys:Array Value}{x y a b:Value}{Q:Option Value->Shared->Prop}(D:nV z TI TO f g h i)
  (m:IsZip s.heap z TI TO .none) (p:IsPair s.heap TI (.ref f) (.ref g)) (q:IsPair s.heap TO a b)
  (r:s.heap.IsTupleIter f h j) (t:s.heap.IsTupleIter g i l) (u:s.heap.IsTuple h xs) (v:s.heap.IsTuple i ys) (hx:xs[j]?=some x) (B:ys[l]?=some y)
  (k:∀e,IsZip e z TI TO (rawInt s.heap.objs.size)->IsPair e TO x y->e.IsTupleIter f h (j+1)->e.IsTupleIter g i (l+1)->IsPair e s.heap.objs.size x y->e.objs.size=s.heap.objs.size+1 ->
   (∀c o,c≠z->c≠TO->c≠f->c≠g->s.heap.get? c=some o->e.get? c=some o)->Q (some (.ref s.heap.objs.size)) { s with heap:=e }) :
  wpAny (model prog w) A (pyNext (.ref z)) Q E s:=by
 have n:s.TypeIs (.ref z) "zip":=⟨_,m,rfl⟩;unfold pyNext;exact aj (qE (nU (name:=nS "__next__") n uk
  (tW uk n F.entry_zip_next
   (AB D m p q r t u v hx B fun e a1 a2 a3 C G H I=>aD (k e a1 a2 a3 C G H I)) (F.args_zip_next_1 _))))
theorem vd{z TI TO f g h i:Addr}{m n:Nat}{xs ys:Array Value}{a b:Value}{Q:Option Value->Shared->Prop}(r:A.handled=none)(D:nV z TI TO f g h i)
  (p:IsZip s.heap z TI TO .none) (t:IsPair s.heap TI (.ref f) (.ref g)) (u:IsPair s.heap TO a b)
  (v:s.heap.IsTupleIter f h m) (x:s.heap.IsTupleIter g i n) (y:s.heap.IsTuple h xs) (B:s.heap.IsTuple i ys) (j:xs[m]?=none∨ys[n]?=none)
  (k:∀l,(∀c o,c≠z->c≠TO->c≠f->c≠g->s.heap.get? c=some o->l.get? c=some o)->Q none { s with heap:=l }):wpAny (model prog w) A (pyNext (.ref z)) Q E s:=by
 have q:s.TypeIs (.ref z) "zip":=⟨_,p,rfl⟩;unfold pyNext;refine aj (qE (nU (name:=nS "__next__") q uk
  (tW uk q F.entry_zip_next (Bz r D p t u v x y B j fun l e kp C=>?_) (F.args_zip_next_1 _))))
 obtain⟨o,G,H⟩:=C;refine aj (zB (T:="StopIteration") (b:=true) ⟨o,G,H⟩ isSubtype_stop ?_);exact aD (k _ kp)
end
abbrev G3(h:Heap)(l1:Addr):Heap:=h.push { cls:=.type "tuple_iterator",data:=.fields #[.ref l1,.int 0 0] }
abbrev G1(h:Heap)(l1 l2:Addr):Heap:=(G3 h l1).push { cls:=.type "tuple_iterator",data:=.fields #[.ref l2,.int 0 0] }
abbrev G0(h:Heap)(l1 l2:Addr):Heap:=(G1 h l1 l2).push { cls:=.type "tuple",data:=.seq #[.ref h.objs.size,.ref (G3 h l1).objs.size] }
abbrev GZ(h:Heap)(l1 l2:Addr):Heap:=(G0 h l1 l2).push { cls:=.type "tuple",data:=.seq #[.none,.none] }
abbrev F1(h:Heap)(l1 l2:Addr):Heap:=(GZ h l1 l2).push { cls:=.type "zip",data:=.fields #[.none,.bool false,.bool false,.ref (G1 h l1 l2).objs.size,.ref (G0 h l1 l2).objs.size] }
theorem yE(l1 l2:Addr)(xs a:Array Value):
  Meets (bQ.«zip.__new__» ⟨[.type "zip",.ref l1,.ref l2],[]⟩) (fun _ R s=>s.heap.IsTuple l1 xs/\s.heap.IsTuple l2 a /\
   R (.ok (.ret (.ref (GZ s.heap l1 l2).objs.size))) { s with heap:=F1 s.heap l1 l2 }) :=
 .of_wp fun e w A R s h=>by
  obtain⟨f,g,d,tk,os⟩:=s;obtain⟨j,k,h⟩:=h;have i:=sub_zip;have l:Heap.IsTuple (Shared.heap ⟨f,g,d,tk,os⟩) l1 xs:=j;have m:Heap.IsTuple (Shared.heap ⟨f.push { cls:=.type "tuple_iterator",data:=.fields #[.ref l1,.int 0 0] },g,d,tk,os⟩) l2 a:=Heap.IsTuple.push k _
  wp_walk using wpAny_pyIter_tuple l,wpAny_pyIter_tuple m
  exact⟨_,rfl,h⟩
section
variable{prog:bg}{w:World}{A:Around}{E:Zc}{s:Shared}
theorem Bh{a e:Addr}{xs ys:Array Value}{Q:Zc}(r:s.heap.IsTuple a xs)(t:s.heap.IsTuple e ys)
  (k:∀f,IsZip f (s.heap.objs.size+4) (s.heap.objs.size+2) (s.heap.objs.size+3) .none->IsPair f (s.heap.objs.size+2) (.ref s.heap.objs.size) (.ref (s.heap.objs.size+1)) ->
   IsPair f (s.heap.objs.size+3) .none .none->f.IsTupleIter s.heap.objs.size a 0->f.IsTupleIter (s.heap.objs.size+1) e 0->(∀c o,s.heap.get? c=some o->f.get? c=some o)->Q (.ref (s.heap.objs.size+4)) { s with heap:=f }) :
  wpAny (model prog w) A (call (.type "zip") [.ref a,.ref e]) Q E s:=by
 refine callType_new F.called_zip (by decide) (F.typeCall_zip_2 _ _) (F.newCall_zip_2 _ _) (fun g=>F.args_object_init_3 g _ _) F.entry_zip_new
  (yE a e xs ys) ⟨r,t,?_⟩
 have h:(G3 s.heap a).objs.size=s.heap.objs.size+1:=j7 ..;have i:(G1 s.heap a e).objs.size=s.heap.objs.size+2:=by rw[j7,h]
 have j:(G0 s.heap a e).objs.size=s.heap.objs.size+3:=by rw[j7,i]
 have m:(GZ s.heap a e).objs.size=s.heap.objs.size+4:=by rw[j7,j]
 have l:(F1 s.heap a e).get? (GZ s.heap a e).objs.size=some _:=cN _ rfl;have n:(F1 s.heap a e).get? (G0 s.heap a e).objs.size=some _:=aV _ (cN _ rfl);have p:(F1 s.heap a e).get? (G1 s.heap a e).objs.size=some _:=aV _ (aV _ (cN _ rfl));have q:(F1 s.heap a e).get? (G3 s.heap a).objs.size=some _:=aV _ (aV _ (aV _ (cN _ rfl)));have u:(F1 s.heap a e).get? s.heap.objs.size=some _:=aV _ (aV _ (aV _ (aV _ (cN _ rfl))));show _/\_;rw[i,j,m]at l;rw[h,i]at p;rw[j]at n;rw[h]at q;rw[m];exact⟨⟨_,l,rfl⟩,k _ l p n ⟨_,u,rfl,rfl⟩ ⟨_,q,rfl,rfl⟩ fun c o x =>
  aV _ (aV _ (aV _ (aV _ (aV _ x))))⟩
end
def GQ(K:Za)(a b:Addr):It :=
  ⟨fun i H=>∃xs ys x y,bN K H a xs/\bN K H b ys/\xs[i]?=some x/\ys[i]?=some y,
   fun i H x H'=>∃p u v,x=.ref p/\H p=none/\(∀xs,bN K H a xs->xs[i]?=some u)/\(∀ys,bN K H b ys->ys[i]?=some v)/\H'=upd H p (.tup [u,v]),
   fun i H=>∃xs ys,bN K H a xs/\bN K H b ys/\(xs.length<=i∨ys.length<=i)⟩
theorem AF{P:bg}{w:World}{K:Za}{es:List Expr}{kx:Nat}{J8:Pos}(a b z TI TO t B:Addr)(D:nV z TI TO t B a b):
  sN P w K (.Tuple es kx J8) (GQ K a b) [z,TI,TO,t,B] z (fun i h=>IsZip h z TI TO .none/\IsPair h TI (.ref t) (.ref B)/\(∃a b,IsPair h TO a b)/\h.IsTupleIter t a i/\h.IsTupleIter B b i) where
 mem:=by simp
 obj:=fun i h st c f=>by
  obtain⟨p,j,⟨u,v,l⟩,N,O⟩:=st;simp only[bY,qG,or_false]at f;rcases f with rfl|rfl|rfl|rfl|rfl
  ·exact⟨_,p,fun v z=>by cases z⟩
  ·exact⟨_,j,fun v z=>by cases z⟩
  ·exact⟨_,l,fun v z=>by cases z⟩
  ·obtain⟨o,e,c,d⟩:=N;exact⟨o,e,fun v z=>by rw[d]at z;cases z⟩
  ·obtain⟨o,e,c,d⟩:=O;exact⟨o,e,fun v z=>by rw[d]at z;cases z⟩
 keep:=fun i h T st k=>by
  obtain⟨p,j,⟨u,v,l⟩,⟨o1,e1,r1⟩,⟨o2,e2,r2⟩⟩:=st;exact⟨k z (by simp) _ p,k TI (by simp) _ j,⟨u,v,k TO (by simp) _ l⟩,⟨o1,k t (by simp) o1 e1,r1⟩,⟨o2,k B (by simp) o2 e2,r2⟩⟩
 item:=by
  intro X hP hw hK f i J3 s σ H E I hf st hg;subst hP hw hK;obtain⟨p,j,⟨u0,v0,l⟩,N,O⟩:=st;obtain⟨xs,ys,x,y,G,J,hx,hy⟩:=hg;obtain⟨L,rx,px,zx⟩:=I.tuple G;obtain⟨M,ry,py,zy⟩:=I.tuple J;obtain⟨u,hu,ru⟩:=rx.get hx;obtain⟨v,hv,rv⟩:=ry.get hy;refine sL D p j l N O (xs:=L.toArray) (ys:=M.toArray) px py (x:=u) (y:=v) (by simpa using hu) (by simpa using hv) fun T a1 a2 a3 a4 a5 a6 hk=>?_;refine⟨_,rfl,wpAny_letOwnedTupleGo_zip (s:={ s with heap:=T }) a1 fun C aq as=>?_⟩;have g:iP z T C:=as;have U:s.heap.objs.size≠z:=d9 (aE p);have Y:s.heap.objs.size≠TO:=d9 (aE l);have ab:s.heap.objs.size≠TI:=d9 (aE j);have ak:s.heap.objs.size≠t:=by obtain⟨o,ho,_⟩:=N;exact d9 (aE ho)
  have al:s.heap.objs.size≠B:=by obtain⟨o,ho,_⟩:=O;exact d9 (aE ho)
  have an:IsPair C s.heap.objs.size u v:=g.extBut _ _ U a5;have I2:Inv X J3 σ (upd H s.heap.objs.size (.tup [x,y])) { s with heap:=C,toks:=s.toks }:=by
   refine I.turnedNew (ch:=[z,TI,TO,t,B]) hf (fun c o f q=>?_) ⟨_,an⟩ (fun _ z=>nomatch z) ⟨by show 2<=am;decide,[u,v],.cons ru (.cons rv .nil),⟨_,an,rfl,_,rfl⟩⟩;have n1:c≠z:=fun q=>f (by simp[q]);exact g.extBut _ _ n1 (hk c o n1 (fun q=>f (by simp[q])) (fun q=>f (by simp[q])) (fun q=>f (by simp[q])) q)
  have aC:C.IsTupleIter t a (i+1):=by obtain⟨o,e,r⟩:=a3;exact⟨o,g.extBut _ _ D.i1z e,r⟩
  have aS:C.IsTupleIter B b (i+1):=by obtain⟨o,e,r⟩:=a4;exact⟨o,g.extBut _ _ D.i2z e,r⟩
  refine⟨.ref s.heap.objs.size,_,I2,rfl,⟨_,x,y,rfl,I.fresh,fun zs p=>by rw[I.tuple_inj p G];exact hx,fun zs p=>by rw[I.tuple_inj p J];exact hy,rfl⟩,⟨aq,g.extBut _ _ D.TIz (hk _ _ D.TIz D.TITO D.TIi1 D.TIi2 j),⟨_,_,g.extBut _ _ D.TOz a2⟩,aC,aS⟩,fun c f=>?_⟩;have aT:=(hf c f).1;simp only[bY,qG,or_false]at f;have ne:c≠s.heap.objs.size:=by
   rcases f with rfl|rfl|rfl|rfl|rfl
   ·exact U.symm
   ·exact ab.symm
   ·exact Y.symm
   ·exact ak.symm
   ·exact al.symm
  rw[ai ne];exact aT
 done:=by
  intro X hP hw hK f i J3 s σ H E I hf st hg;subst hP hw hK;obtain⟨p,j,⟨u0,v0,l⟩,N,O⟩:=st;obtain⟨xs,ys,G,J,ap⟩:=hg;obtain⟨L,rx,px,zx⟩:=I.tuple G;obtain⟨M,ry,py,zy⟩:=I.tuple J;have lx:=rx.length;have ly:=ry.length;refine vd (I.ok.hd f) D p j l N O (xs:=L.toArray) (ys:=M.toArray) px py (by rcases ap with q|q;exact .inl (by simp;omega);exact .inr (by simp;omega)) fun T hk=>⟨rfl,?_⟩;have tr:∀c q,H c=some q->c∉[z,TI,TO,t,B]:=fun c q e m=>by rw[(hf c m).1]at e;cases e
  have Q:∀c o,c∉[z,TI,TO,t,B]->s.heap.get? c=some o->T.get? c=some o:=fun c o f q=>hk c o (fun q=>f (by simp[q])) (fun q=>f (by simp[q])) (fun q=>f (by simp[q])) (fun q=>f (by simp[q])) q;refine I.step (g':=s.gens) (d':=s.drawn) (t':=s.toks) (ch:=[z,TI,TO,t,B]) (fun c f=>?_) (fun c o _ _ f e _=>Q c o f e) (fun c o _ _ f e _=>⟨o.slots,Q c o f e⟩) (fun _ _ _ _ n=>n) (fun c o f e=>⟨o,Q c o f e⟩) (fun _ _ e=>e) (fun c xs o e z=>Q c o (tr c _ e) z) (fun _ _ _ e=>e) (fun c ps e=>⟨#[],by rw[e];simp⟩) (fun m hm=>?_) (fun c q e=>?_) I.bare
  ·obtain⟨f0,f1,f2,f3,f4,f5⟩:=hf c f;exact⟨f3,f1,f4,f5⟩
  ·obtain⟨q,aX,ep,ho,r⟩:=hm;exact⟨q,aX,ep,Q _ q (fun z=>(hf _ z).2.1 rfl) ho,r⟩
  ·refine(I.hok c q e).stay (fun d v hd q'=>Q d v ?_ q') (fun _ q=>q) fun _ _ q=>q;rcases hd with z|z
   ·subst z;exact tr _ _ e
   ·exact tr _ _ z
 self:=fun _ _ _ _ _ st h=>ur st.1 h
section
variable{X:Cx}{p pos:Pos}{es:List Expr}{kx:Nat}{J8:Pos}
def wW(K:Za)(ta:TA):TI:=fun σ H R=>ta σ H fun vs H1=>∃a b,vs=[.ref a,.ref b]/\(((∃xs,aB K H1 a xs)/\(∃ys,aB K H1 b ys)/\R (Itz K a b) H1)∨((∃xs,bN K H1 a xs)/\(∃ys,bN K H1 b ys)/\R (GQ K a b) H1))
theorem u7{a b:Expr}{M:TA}(T:Gl X "zip")(U:X.mg "zip"=none)(Y:PA X [a,b] M)(hs:au [a,b] X.env=[(false,eval a X.env),(false,eval b X.env)]:=by rfl)(j:au [b] X.env=[(false,eval b X.env)]:=by rfl):
  PI X (.Tuple es kx J8) (.Call (.Name "zip" p) [a,b] [] pos) (wW X.K M):=by
 intro y s σ H R I h;refine Call_ (oO I T U boot_zip (zo (cb (Y pos y s σ H _ I h) fun us s1 z=>?_) (by rw[hs,j]) (by rw[j];rfl)));obtain⟨vs,k,f,r1,q1⟩:=z;obtain⟨N,O,e,q⟩:=q1;subst e;obtain⟨u,v,rfl,ru,rv⟩:=vals2 r1;cases ru;cases rv;have l:∀b∈[s1.heap.objs.size+4,s1.heap.objs.size+2,s1.heap.objs.size+3,s1.heap.objs.size,s1.heap.objs.size+1],kP X y k b:=fun b Q=>by
  have m:s1.heap.objs.size<=b:=by
   simp only[bY,qG,or_false]at Q;rcases Q with rfl|rfl|rfl|rfl|rfl<;>omega
  exact f.fpOk m (f.hok.fresh m)
 rcases q with⟨⟨xs,hx⟩,⟨ys,B⟩,q⟩|⟨⟨xs,hx⟩,⟨ys,B⟩,q⟩
 ·obtain⟨n,rx,r,zx⟩:=f.list hx;obtain⟨t,ry,x,zy⟩:=f.list B;obtain⟨o1,n1,C,_⟩:=id r;obtain⟨o2,n2,D,_⟩:=id x;refine call_zip_2 r.isList x.isList fun g a1 a2 a3 E G a6 J=>?_;refine ur (s:={ s1 with heap:=g }) a1 ?_;have i:∀b o,s1.heap.get? b=some o->g.get? b=some o:=J;have L:Inv X y σ k { s1 with heap:=g }:=f.kept (t':=s1.toks) i;exact⟨_,_,_,_,k,rfl,L,BH N O _ _ _ _ _ (zipApart_new (aE C) (aE D)),⟨a1,a2,⟨_,_,a3⟩,E,G⟩,l,q⟩
 ·obtain⟨n,rx,r,zx⟩:=f.tuple hx;obtain⟨t,ry,x,zy⟩:=f.tuple B;obtain⟨o1,C,_⟩:=id r;obtain⟨o2,D,_⟩:=id x;refine Bh (xs:=n.toArray) (ys:=t.toArray) r x fun g a1 a2 a3 E G J=>?_;refine ur (s:={ s1 with heap:=g }) a1 ?_;have i:∀b o,s1.heap.get? b=some o->g.get? b=some o:=J;have L:Inv X y σ k { s1 with heap:=g }:=f.kept (t':=s1.toks) i;exact⟨_,_,_,_,k,rfl,L,AF N O _ _ _ _ _ (zipApart_new (aE C) (aE D)),⟨a1,a2,⟨_,_,a3⟩,E,G⟩,l,q⟩
end
inductive DT where
 |k (a:dX)
 |t (l:List DT)
 |s (l:List DT)
mutual
def ES:(x y:DT)->Decidable (x=y)
 |.k a,.k b=>if h:a=b then Decidable.isTrue (by rw[h])else Decidable.isFalse fun e=>h (by injection e)
 |.t l,.t m=>match decDTs l m with
  |Decidable.isTrue h=>Decidable.isTrue (by rw[h])
  |Decidable.isFalse h=>Decidable.isFalse fun e=>h (by injection e)
 |.s l,.s m=>match decDTs l m with
  |Decidable.isTrue h=>Decidable.isTrue (by rw[h])
  |Decidable.isFalse h=>Decidable.isFalse fun e=>h (by injection e)
 |.k _,.t _=>Decidable.isFalse nofun
 |.k _,.s _=>Decidable.isFalse nofun
 |.t _,.k _=>Decidable.isFalse nofun
 |.t _,.s _=>Decidable.isFalse nofun
 |.s _,.k _=>Decidable.isFalse nofun
 |.s _,.t _=>Decidable.isFalse nofun
def decDTs:(x y:List DT)->Decidable (x=y)
 |[],[]=>Decidable.isTrue rfl
 |[],_::_=>Decidable.isFalse nofun
 |_::_,[]=>Decidable.isFalse nofun
 |a::l,b::m=>match ES a b with
  |Decidable.isTrue h=>match decDTs l m with
   |Decidable.isTrue h'=>Decidable.isTrue (by rw[h,h'])
   |Decidable.isFalse h'=>Decidable.isFalse fun e=>h' (by injection e)
  |Decidable.isFalse h=>Decidable.isFalse fun e=>h (by injection e)
end
instance:DecidableEq DT:=ES
mutual
def DT.depth:DT->Nat
 |.k _=>0
 |.t l=>DT.depths l+1
 |.s l=>DT.depths l+1
def DT.depths:List DT->Nat
 |[]=>0
 |a::r=>max (DT.depth a) (DT.depths r)
end
mutual
def qh(h:Heap):DT->Value->Prop
 |.k a,v=>cP a v=true
 |.t l,v=>∃a items,v=.ref a/\h.IsTuple a items/\DAts h l items.toList
 |.s l,v=>∃a items,v=.ref a/\h.IsList a items/\DAts h l items.toList
def DAts(h:Heap):List DT->List Value->Prop
 |[],vs=>vs=[]
 |k::r,vs=>∃v us,vs=v::us/\qh h k v/\DAts h r us
end
theorem DAts.length{h:Heap}:∀{xs:List DT}{a:Zf},DAts h xs a->xs.length=a.length
 |[],a,e=>by have f:a=[]:=e;rw[f];rfl
 |x::xs,a,e=>by
  obtain⟨v,i,rfl,_,g⟩:=e;simp[DAts.length g]
theorem DAts.get{h:Heap}:∀{xs:List DT}{a:Zf}{i:Nat}{v:Value},DAts h xs a->a[i]?=some v->∃x,xs[i]?=some x/\qh h x v
 |[],a,i,v,e,q=>by have f:a=[]:=e;subst f;simp at q
 |x::xs,a,i,v,e,q=>by
  obtain⟨u,m,rfl,g,j⟩:=e;cases i with
  |zero =>
   simp at q;subst q;exact⟨x,rfl,g⟩
  |succ i =>
   obtain⟨y,k,l⟩:=DAts.get j (i:=i) (v:=v) (by simpa using q);exact⟨y,by simpa using k,l⟩
theorem DT.depths_get{l:List DT}{x:DT}{i d:Nat}(h:DT.depths l<=d)(e:l[i]?=some x):x.depth<=d:=by
 induction l generalizing i with
 |nil=>simp at e
 |cons a r f =>
  have g:max a.depth (DT.depths r)<=d:=h;cases i with
  |zero=>simp at e;subst e;omega
  |succ i=>exact f (by omega) (by simpa using e)
theorem yL{h:Heap}{a:Addr}{i j:Array Value}(x:h.IsList a i)(y:h.IsList a j):i=j:=by
 obtain⟨o,g,_,n,k⟩:=x;obtain⟨l,e,_,m,f⟩:=y;rw[g]at e;cases e;rw[k]at f;injection f
theorem wV{h:Heap}{a:Addr}{i j:Array Value}(x:h.IsTuple a i)(y:h.IsTuple a j):i=j:=by
 obtain⟨o,g,_,n,k⟩:=x;obtain⟨l,e,_,m,f⟩:=y;rw[g]at e;cases e;rw[k]at f;injection f
theorem jg{h:Heap}{a:Addr}{i j:Array Value}(x:h.IsList a i)(y:h.IsTuple a j):False:=by
 obtain⟨o,g,k,_⟩:=x;obtain⟨l,e,f,_⟩:=y;rw[g]at e;cases e;rw[k]at f;simp at f
theorem tL{a b:dX}{v:Value}(g:cP a v=true)(f:cP b v=true):a=b:=by
 rcases ax g with⟨i,t,rfl,rfl⟩|⟨i,t,rfl,rfl⟩
 ·rcases ax f with⟨j,u,rfl,e⟩|⟨j,u,rfl,e⟩
  ·cases e;rfl
  ·cases e
 ·rcases ax f with⟨j,u,rfl,e⟩|⟨j,u,rfl,e⟩
  ·cases e
  ·cases e;rfl
theorem hV{a:dX}{b:Addr}(h:cP a (.ref b)=true):False:=by
 rcases ax h with⟨_,_,_,e⟩|⟨_,_,_,e⟩<;>cases e
theorem qh.inj{h:Heap}:∀(d:Nat) {x y:DT}{v:Value},x.depth<=d->qh h x v->qh h y v->x=y:=by
 have p:∀(d:Nat) (q:∀{x y:DT}{v:Value},x.depth<=d->qh h x v->qh h y v->x=y) (xs g:List DT) (r:Zf),DT.depths xs<=d->DAts h xs r->DAts h g r->xs=g:=by
  intro d q xs
  induction xs with
  |nil =>
   intro g r _ hx f;have u:r=[]:=hx;subst u;cases g with
   |nil=>rfl
   |cons y g=>obtain⟨_,_,e,_⟩:=f;cases e
  |cons x xs z =>
   intro g r n hx f;obtain⟨v,J,rfl,B,C⟩:=hx;cases g with
   |nil=>have D:v::J=[]:=f;cases D
   |cons y g =>
    obtain⟨N,L,e,E,G⟩:=f;cases e;have M:max x.depth (DT.depths xs)<=d:=n;rw[q (by omega) B E,z g J (by omega) C G]
 intro d
 induction d with
 |zero =>
  intro x y v n hx f;cases x with
  |t l=>exact absurd n (by show ¬(DT.depths l+1<=0);omega)
  |s l=>exact absurd n (by show ¬(DT.depths l+1<=0);omega)
  |k a =>
   cases y with
   |k b=>rw[tL hx f]
   |t l=>obtain⟨b,_,rfl,_⟩:=f;exact(hV hx).elim
   |s l=>obtain⟨b,_,rfl,_⟩:=f;exact(hV hx).elim
 |succ d q =>
  intro x y v n hx f;cases x with
  |k a =>
   cases y with
   |k b=>rw[tL hx f]
   |t l=>obtain⟨b,_,rfl,_⟩:=f;exact(hV hx).elim
   |s l=>obtain⟨b,_,rfl,_⟩:=f;exact(hV hx).elim
  |t l =>
   obtain⟨a,i,rfl,hi,hx⟩:=hx;cases y with
   |k b=>exact(hV f).elim
   |t m =>
    obtain⟨H,j,e,o,f⟩:=f;cases e;rw[wV o hi]at f;rw[p d (fun I=>q I) l m i.toList (by have:DT.depths l+1<=d+1:=n;omega) hx f]
   |s m =>
    obtain⟨H,j,e,o,f⟩:=f;cases e;exact(jg o hi).elim
  |s l =>
   obtain⟨a,i,rfl,hi,hx⟩:=hx;cases y with
   |k b=>exact(hV f).elim
   |s m =>
    obtain⟨H,j,e,o,f⟩:=f;cases e;rw[yL o hi]at f;rw[p d (fun I=>q I) l m i.toList (by have:DT.depths l+1<=d+1:=n;omega) hx f]
   |t m =>
    obtain⟨H,j,e,o,f⟩:=f;cases e;exact(jg hi o).elim
theorem fz{l m:List DT}(f:l.length=m.length):((j8 l.length).all fun j=>decide (l[j]?=m[j]?))=decide (l=m):=by
 by_cases e:l=m
 ·subst e;simp
 ·rw[zzr0 e];rw[List.all_eq_false];apply Classical.byContradiction;intro h;apply e;apply List.ext_getElem?;intro i;by_cases hi:i<l.length
  ·apply Classical.byContradiction;intro a;exact h ⟨i,List.mem_range.mpr hi,by simpa using a⟩
  ·rw[List.getElem?_eq_none (by omega),List.getElem?_eq_none (by omega)]
section
variable{s:Shared}
theorem EL:∀(d:Nat) {A:Around}{x y:DT}{u v:Value},y.depth<=d->A.units+d<cLine->qh s.heap x u->qh s.heap y v->aW A s u v (decide (x=y)):=by
 have leaves:∀{A:Around}{a b:dX}{u v:Value},cP a u=true->cP b v=true->aW A s u v (decide (DT.k a=DT.k b)):=by
  intro A a b u v C H;have L:decide (DT.k a=DT.k b)=decide (a=b):=by
   by_cases e:a=b
   ·subst e;simp
   ·have:¬(DT.k a=DT.k b):=fun z=>e (by injection z);rw[zzr0 this,zzr0 e]
  rw[L];rcases ax C with⟨i,t,rfl,rfl⟩|⟨i,t,rfl,rfl⟩
  ·rcases ax H with⟨j,u,rfl,rfl⟩|⟨j,u,rfl,rfl⟩
   ·rw[vj];exact aW.int_int i t j u
   ·rw[vi];exact aW.int_str i t j u
  ·rcases ax H with⟨j,u,rfl,rfl⟩|⟨j,u,rfl,rfl⟩
   ·rw[vh];exact aW.str_int i t j u
   ·rw[vg];have:=aW.str_str (A:=A) (s:=s) i t j u;rwa[show(i==j)=decide (i=j)from by by_cases e:i=j<;>simp[e]]at this
 have kt:∀{A:Around}{a:dX}{u:Value}{b:Addr}{items:Array Value},A.units<cLine->cP a u=true->s.heap.IsTuple b items->aW A s u (.ref b) false/\aW A s (.ref b) u false:=by
  intro A a u b items h C B;rcases ax C with⟨i,t,rfl,rfl⟩|⟨i,t,rfl,rfl⟩
  ·exact⟨aW.int_tuple i t B h,aW.tuple_int i t B h⟩
  ·exact⟨aW.str_tuple i t B h,aW.tuple_str i t B h⟩
 have M:∀{A:Around}{a:dX}{u:Value}{b:Addr}{items:Array Value},A.units<cLine->cP a u=true->s.heap.IsList b items->aW A s u (.ref b) false/\aW A s (.ref b) u false:=by
  intro A a u b items h C B;rcases ax C with⟨i,t,rfl,rfl⟩|⟨i,t,rfl,rfl⟩
  ·exact⟨aW.int_list i t B h,aW.list_int i t B h⟩
  ·exact⟨aW.str_list i t B h,aW.list_str i t B h⟩
 intro d
 induction d with
 |zero =>
  intro A x y u v o h hx f;cases y with
  |t l=>exact absurd o (by show ¬(DT.depths l+1<=0);omega)
  |s l=>exact absurd o (by show ¬(DT.depths l+1<=0);omega)
  |k b =>
   cases x with
   |t l =>
    obtain⟨a,i,rfl,hi,_⟩:=hx;rw[zzr0 (by intro z;cases z)];exact(kt (by omega) f hi).2
   |s l =>
    obtain⟨a,i,rfl,hi,_⟩:=hx;rw[zzr0 (by intro z;cases z)];exact(M (by omega) f hi).2
   |k a=>exact leaves hx f
 |succ d T =>
  intro A x y u v o h hx f;have items:∀{l m:List DT}{i j:Array Value},DT.depths m<=d->DAts s.heap l i.toList->DAts s.heap m j.toList->∀n (C:n<i.size) (H:n<j.size),aW A.in1 s i[n] j[n] (decide (l[n]?=m[n]?)):=by
   intro l m i j I hi p n C H;obtain⟨x,ex,hx⟩:=hi.get (i:=n) (v:=i[n]) (by simp[C]);obtain⟨y,Q,f⟩:=p.get (i:=n) (v:=j[n]) (by simp[H]);rw[ex,Q];have L:decide ((some x:Option DT)=some y)=decide (x=y):=by
    by_cases e:x=y
    ·subst e;simp
    ·rw[zzr0 e,zzr0 fun z=>e (dE z)]
   rw[L];exact T (DT.depths_get I Q) (by show A.units+1+d<cLine;omega) hx f
  cases x with
  |k a =>
   cases y with
   |k b=>exact leaves hx f
   |t l =>
    obtain⟨b,i,rfl,hi,_⟩:=f;rw[zzr0 (by intro z;cases z)];exact(kt (by omega) hx hi).1
   |s l =>
    obtain⟨b,i,rfl,hi,_⟩:=f;rw[zzr0 (by intro z;cases z)];exact(M (by omega) hx hi).1
  |t l =>
   have D:=hx;obtain⟨a,i,rfl,hi,hx⟩:=hx;cases y with
   |k b =>
    rw[zzr0 (by intro z;cases z)];exact(kt (by omega) f hi).2
   |s m =>
    obtain⟨b,j,rfl,p,_⟩:=f;rw[zzr0 (by intro z;cases z)];exact aW.tuple_list hi p (by omega)
   |t m =>
    have I:DT.depths m<=d:=by have:DT.depths m+1<=d+1:=o;omega
    have E:=f;obtain⟨b,j,rfl,p,f⟩:=f;by_cases g:a=b
    ·subst g;have e:DT.t l=DT.t m:=qh.inj _ (aO _) D E;rw[zzr1 e];exact aW.same _
    ·have r:=SeqAt.RcAt.tuples (A:=A) hi p (by omega) (items I hx f);have J:=hx.length;have N:=f.length;simp only[mG]at J N;have q:((j8 (min i.size j.size)).all (fun n=>decide (l[n]?=m[n]?)) && i.size==j.size)=decide (DT.t l=DT.t m):=by
      by_cases e:l.length=m.length
      ·have O:i.size=j.size:=by omega
       rw[<-O,Nat.min_self,<-J,fz e];by_cases G:l=m
       ·subst G;simp
       ·have:¬(DT.t l=DT.t m):=fun z=>G (by injection z);rw[zzr0 this,zzr0 G];rfl
      ·have O:(i.size==j.size)=false:=by simp;omega
       have:¬(DT.t l=DT.t m):=fun z=>e (by injection z with z;rw[z]);rw[O,zzr0 this,uj]
     rw[q]at r;exact .of_refs g r
  |s l =>
   have D:=hx;obtain⟨a,i,rfl,hi,hx⟩:=hx;cases y with
   |k b =>
    rw[zzr0 (by intro z;cases z)];exact(M (by omega) f hi).2
   |t m =>
    obtain⟨b,j,rfl,p,_⟩:=f;rw[zzr0 (by intro z;cases z)];exact aW.list_tuple hi p (by omega)
   |s m =>
    have I:DT.depths m<=d:=by have:DT.depths m+1<=d+1:=o;omega
    have E:=f;obtain⟨b,j,rfl,p,f⟩:=f;by_cases g:a=b
    ·subst g;have e:DT.s l=DT.s m:=qh.inj _ (aO _) D E;rw[zzr1 e];exact aW.same _
    ·have J:=hx.length;have N:=f.length;simp only[mG]at J N;by_cases e:l.length=m.length
     ·have r:=SeqAt.RcAt.lists (A:=A) hi p (by omega) (by omega) (items I hx f);rw[<-J,fz e]at r;have q:decide (l=m)=decide (DT.s l=DT.s m):=by
       by_cases G:l=m
       ·subst G;simp
       ·have:¬(DT.s l=DT.s m):=fun z=>G (by injection z);rw[zzr0 this,zzr0 G]
      rw[q]at r;exact .of_refs g r
     ·have:¬(DT.s l=DT.s m):=fun z=>e (by injection z with z;rw[z]);rw[zzr0 this];exact .of_refs g (SeqAt.RcAt.lists_lengths hi p (by simp;omega) (by omega))
end
theorem Ao(a b:dX):decide (DT.k a=DT.k b)=decide (a=b):=by
 by_cases e:a=b
 ·subst e;simp
 ·rw[zzr0 e,zzr0 fun z=>e (by injection z)]
theorem EO(l m:List DT):decide (DT.t l=DT.t m)=decide (l=m):=by
 by_cases e:l=m
 ·subst e;simp
 ·rw[zzr0 e,zzr0 fun z=>e (by injection z)]
theorem EQ(l m:List DT):decide (DT.s l=DT.s m)=decide (l=m):=by
 by_cases e:l=m
 ·subst e;simp
 ·rw[zzr0 e,zzr0 fun z=>e (by injection z)]
theorem CQ(x y:DT):decide ((some x:Option DT)=some y)=decide (x=y):=by
 by_cases e:x=y
 ·subst e;simp
 ·rw[zzr0 e,zzr0 fun z=>e (dE z)]
section
variable{A:Around}{s:Shared}
theorem nB{d:Nat}(g:A.units+1+d<cLine){l m:List DT}{i j:Array Value}(h:DT.depths m<=d)(hi:DAts s.heap l i.toList)(k:DAts s.heap m j.toList):
  ∀n (a:n<i.size) (e:n<j.size),aW A.in1 s i[n] j[n] (decide (l[n]?=m[n]?)):=by
 intro n a e;obtain⟨x,ex,hx⟩:=hi.get (i:=n) (v:=i[n]) (by simp[a]);obtain⟨y,f,o⟩:=k.get (i:=n) (v:=j[n]) (by simp[e]);rw[ex,f,CQ];exact EL d (DT.depths_get h f) g hx o
theorem zJ{l m:List DT}{i j:Array Value}(hi:DAts s.heap l i.toList)(g:DAts s.heap m j.toList):((j8 (min i.size j.size)).all (fun n=>decide (l[n]?=m[n]?)) && i.size==j.size)=decide (l=m):=by
 have f:=hi.length;have h:=g.length;simp only[mG]at f h;by_cases e:l.length=m.length
 ·have a:i.size=j.size:=by omega
  rw[<-a,Nat.min_self,<-f,fz e];simp
 ·have a:(i.size==j.size)=false:=by simp;omega
  rw[a,zzr0 fun z=>e (by rw[z]),uj]
theorem GC{x y:DT}{u v:Value}(o:y.depth<=14)(B:A.units+16<cLine)(hx:qh s.heap x u)(f:qh s.heap y v):SeqAt.RcAt A s u v (decide (x=y)):=by
 cases x with
 |k a =>
  rcases ax (show cP a u=true from hx)with⟨i,t,rfl,rfl⟩|⟨i,t,rfl,rfl⟩
  ·cases y with
   |k b =>
    rw[Ao];rcases ax (show cP b v=true from f)with⟨j,h,rfl,rfl⟩|⟨j,h,rfl,rfl⟩
    ·rw[vj];exact SeqAt.RcAt.int_int i t j h
    ·rw[vi];exact SeqAt.RcAt.int_str i t j h
   |t m=>obtain⟨b,j,rfl,g,_⟩:=f;rw[zzr0 (by intro z;cases z)];exact SeqAt.RcAt.int_tuple i t g (by omega)
   |s m=>obtain⟨b,j,rfl,g,_⟩:=f;rw[zzr0 (by intro z;cases z)];exact SeqAt.RcAt.int_list i t g (by omega)
  ·cases y with
   |k b =>
    rw[Ao];rcases ax (show cP b v=true from f)with⟨j,h,rfl,rfl⟩|⟨j,h,rfl,rfl⟩
    ·rw[vh];exact SeqAt.RcAt.str_int i t j h
    ·rw[vg];have:=SeqAt.RcAt.str_str (A:=A) (s:=s) i t j h;rwa[show(i==j)=decide (i=j)from by by_cases e:i=j<;>simp[e]]at this
   |t m=>obtain⟨b,j,rfl,g,_⟩:=f;rw[zzr0 (by intro z;cases z)];exact SeqAt.RcAt.str_tuple i t g (by omega)
   |s m=>obtain⟨b,j,rfl,g,_⟩:=f;rw[zzr0 (by intro z;cases z)];exact SeqAt.RcAt.str_list i t g (by omega)
 |t l =>
  obtain⟨a,i,rfl,hi,hx⟩:=hx;cases y with
  |k b =>
   rw[zzr0 (by intro z;cases z)];rcases ax (show cP b v=true from f)with⟨j,h,rfl,rfl⟩|⟨j,h,rfl,rfl⟩
   ·exact SeqAt.RcAt.tuple_int j h hi (by omega)
   ·exact SeqAt.RcAt.tuple_str j h hi (by omega)
  |t m =>
   obtain⟨b,j,rfl,g,f⟩:=f;have n:DT.depths m<=13:=by have:DT.depths m+1<=14:=o;omega
   have r:=SeqAt.RcAt.tuples (A:=A) hi g (by omega) (nB (by omega) n hx f);rw[zJ hx f]at r;rw[EO];exact r
  |s m=>obtain⟨b,j,rfl,g,_⟩:=f;rw[zzr0 (by intro z;cases z)];exact SeqAt.RcAt.tuple_list hi g (by omega)
 |s l =>
  obtain⟨a,i,rfl,hi,hx⟩:=hx;cases y with
  |k b =>
   rw[zzr0 (by intro z;cases z)];rcases ax (show cP b v=true from f)with⟨j,h,rfl,rfl⟩|⟨j,h,rfl,rfl⟩
   ·exact SeqAt.RcAt.list_int j h hi (by omega)
   ·exact SeqAt.RcAt.list_str j h hi (by omega)
  |t m=>obtain⟨b,j,rfl,g,_⟩:=f;rw[zzr0 (by intro z;cases z)];exact SeqAt.RcAt.list_tuple hi g (by omega)
  |s m =>
   obtain⟨b,j,rfl,g,f⟩:=f;have n:DT.depths m<=13:=by have:DT.depths m+1<=14:=o;omega
   have p:=hx.length;have q:=f.length;simp only[mG]at p q;rw[EQ];by_cases e:l.length=m.length
   ·have r:=SeqAt.RcAt.lists (A:=A) hi g (by omega) (by omega) (nB (by omega) n hx f);rw[<-p,fz e]at r;exact r
   ·rw[zzr0 fun z=>e (by rw[z])];exact SeqAt.RcAt.lists_lengths hi g (by simp;omega) (by omega)
theorem GD{x y:DT}{u v:Value}(o:y.depth<=14)(B:A.units+16<cLine)(hx:qh s.heap x u)(f:qh s.heap y v):SeqAt.RcNeAt A s u v (!decide (x=y)):=by
 cases x with
 |k a =>
  rcases ax (show cP a u=true from hx)with⟨i,t,rfl,rfl⟩|⟨i,t,rfl,rfl⟩
  ·cases y with
   |k b =>
    rw[Ao];rcases ax (show cP b v=true from f)with⟨j,h,rfl,rfl⟩|⟨j,h,rfl,rfl⟩
    ·rw[vj];exact SeqAt.RcNeAt.int_int i t j h
    ·rw[vi];exact SeqAt.RcNeAt.int_str i t j h
   |t m=>obtain⟨b,j,rfl,g,_⟩:=f;rw[zzr0 (by intro z;cases z)];exact SeqAt.RcNeAt.int_tuple i t g (by omega)
   |s m=>obtain⟨b,j,rfl,g,_⟩:=f;rw[zzr0 (by intro z;cases z)];exact SeqAt.RcNeAt.int_list i t g (by omega)
  ·cases y with
   |k b =>
    rw[Ao];rcases ax (show cP b v=true from f)with⟨j,h,rfl,rfl⟩|⟨j,h,rfl,rfl⟩
    ·rw[vh];exact SeqAt.RcNeAt.str_int i t j h
    ·rw[vg];have:=SeqAt.RcNeAt.str_str (A:=A) (s:=s) i t j h;rwa[show(i==j)=decide (i=j)from by by_cases e:i=j<;>simp[e]]at this
   |t m=>obtain⟨b,j,rfl,g,_⟩:=f;rw[zzr0 (by intro z;cases z)];exact SeqAt.RcNeAt.str_tuple i t g (by omega)
   |s m=>obtain⟨b,j,rfl,g,_⟩:=f;rw[zzr0 (by intro z;cases z)];exact SeqAt.RcNeAt.str_list i t g (by omega)
 |t l =>
  obtain⟨a,i,rfl,hi,hx⟩:=hx;cases y with
  |k b =>
   rw[zzr0 (by intro z;cases z)];rcases ax (show cP b v=true from f)with⟨j,h,rfl,rfl⟩|⟨j,h,rfl,rfl⟩
   ·exact SeqAt.RcNeAt.tuple_int j h hi (by omega)
   ·exact SeqAt.RcNeAt.tuple_str j h hi (by omega)
  |t m =>
   obtain⟨b,j,rfl,g,f⟩:=f;have n:DT.depths m<=13:=by have:DT.depths m+1<=14:=o;omega
   have r:=SeqAt.RcNeAt.tuples (A:=A) hi g (by omega) (nB (by omega) n hx f);rw[zJ hx f]at r;rw[EO];exact r
  |s m=>obtain⟨b,j,rfl,g,_⟩:=f;rw[zzr0 (by intro z;cases z)];exact SeqAt.RcNeAt.tuple_list hi g (by omega)
 |s l =>
  obtain⟨a,i,rfl,hi,hx⟩:=hx;cases y with
  |k b =>
   rw[zzr0 (by intro z;cases z)];rcases ax (show cP b v=true from f)with⟨j,h,rfl,rfl⟩|⟨j,h,rfl,rfl⟩
   ·exact SeqAt.RcNeAt.list_int j h hi (by omega)
   ·exact SeqAt.RcNeAt.list_str j h hi (by omega)
  |t m=>obtain⟨b,j,rfl,g,_⟩:=f;rw[zzr0 (by intro z;cases z)];exact SeqAt.RcNeAt.list_tuple hi g (by omega)
  |s m =>
   obtain⟨b,j,rfl,g,f⟩:=f;have n:DT.depths m<=13:=by have:DT.depths m+1<=14:=o;omega
   have p:=hx.length;have q:=f.length;simp only[mG]at p q;rw[EQ];by_cases e:l.length=m.length
   ·have r:=SeqAt.RcNeAt.lists (A:=A) hi g (by omega) (by omega) (nB (by omega) n hx f);rw[<-p,fz e]at r;exact r
   ·rw[zzr0 fun z=>e (by rw[z])];exact SeqAt.RcNeAt.lists_lengths hi g (by simp;omega) (by omega)
end
mutual
def j6(K:Za)(H:Hp):DT->V->Prop
 |.k a,v=>v=kV a
 |.t l,v=>∃b xs,v=.ref b/\bN K H b xs/\DIns K H l xs
 |.s l,v=>∃b xs,v=.ref b/\aB K H b xs/\DIns K H l xs
def DIns(K:Za)(H:Hp):List DT->List V->Prop
 |[],vs=>vs=[]
 |k::r,vs=>∃v us,vs=v::us/\j6 K H k v/\DIns K H r us
end
section
variable{X:Cx}{J3:Zd}{σ:St}{H:Hp}{s:Shared}
theorem mf(I:Inv X J3 σ H s):∀(d:Nat) {k:DT}{v:V}{u:Value},k.depth<=d->j6 X.K H k v->RelV v u->qh s.heap k u:=by
 have h:∀(d:Nat) (i:∀{k:DT}{v:V}{u:Value},k.depth<=d->j6 X.K H k v->RelV v u->qh s.heap k u) (f:List DT) (j:List V) (o:Zf),DT.depths f<=d->DIns X.K H f j->aP j o->DAts s.heap f o:=by
  intro d i f
  induction f with
  |nil =>
   intro j o _ hx r;have e:j=[]:=hx;subst e;cases r
   rfl
  |cons k f p =>
   intro j o g hx r;obtain⟨v,q,rfl,m,B⟩:=hx;cases r with
   |@cons _ u _ n C D =>
    have E:max k.depth (DT.depths f)<=d:=g;exact⟨u,n,rfl,i (by omega) m C,p q n (by omega) B D⟩
 intro d
 induction d with
 |zero =>
  intro k v u g hx r;cases k with
  |t l=>exact absurd g (by show ¬(DT.depths l+1<=0);omega)
  |s l=>exact absurd g (by show ¬(DT.depths l+1<=0);omega)
  |k b =>
   have e:v=kV b:=hx;subst e;exact pF (P:=X.prog) (w:=X.w) r
 |succ d i =>
  intro k v u g hx r;cases k with
  |k b =>
   have e:v=kV b:=hx;subst e;exact pF (P:=X.prog) (w:=X.w) r
  |t l =>
   obtain⟨b,xs,rfl,x,hi⟩:=hx;cases(show u=Value.ref b from r);obtain⟨a,y,z,_⟩:=I.tuple x;exact⟨b,a.toArray,rfl,z,by simpa using h d (fun m=>i m) l xs a (by have:DT.depths l+1<=d+1:=g;omega) hi y⟩
  |s l =>
   obtain⟨b,xs,rfl,x,hi⟩:=hx;cases(show u=Value.ref b from r);obtain⟨a,y,z,_⟩:=I.list x;exact⟨b,a.toArray,rfl,z.isList,by simpa using h d (fun m=>i m) l xs a (by have:DT.depths l+1<=d+1:=g;omega) hi y⟩
theorem nE(I:Inv X J3 σ H s):∀{a:List DT}{f:List V}{g:Zf},DT.depths a<=8->DIns X.K H a f->aP f g->DAts s.heap a g
 |[],f,g,_,hx,r=>by
  have e:f=[]:=hx;subst e;cases r
  rfl
 |k::a,f,g,i,hx,r=>by
  obtain⟨v,j,rfl,l,m⟩:=hx;cases r with
  |@cons _ u _ h n o =>
   have p:max k.depth (DT.depths a)<=8:=i;exact⟨u,h,rfl,mf I 8 (by omega) l n,nE I (by omega) m o⟩
end
def pV(K:Za):R2:=fun x y H Q=>∃d e:DT,j6 K H d x/\j6 K H e y/\d.depth<=8/\e.depth<=8/\Q (.bl (decide (d=e))) H
def Dx(K:Za):R2:=fun x y H Q=>∃d e:DT,j6 K H d x/\j6 K H e y/\d.depth<=8/\e.depth<=8/\Q (.bl (!decide (d=e))) H
section
variable{X:Cx}
theorem fR(f:X.A.units+16<cLine):nI X (em .Eq) (pV X.K):=by
 intro l s σ H x y v u Q I g i h;obtain⟨d,e,hx,j,k,a,q⟩:=h;exact GC (bp a (by decide)) f (mf I 8 k hx g) (mf I 8 a j i) X.prog X.w X.xe _ ⟨.bl _,H,I,rfl,q⟩
theorem Co(f:X.A.units+16<cLine):nI X (em .NotEq) (Dx X.K):=by
 intro l s σ H x y v u Q I g i h;obtain⟨d,e,hx,j,k,a,q⟩:=h;exact GD (bp a (by decide)) f (mf I 8 k hx g) (mf I 8 a j i) X.prog X.w X.xe _ ⟨.bl _,H,I,rfl,q⟩
def l_(K:Za)(neg:Bool):R2:=fun x y H Q=>∃(d:DT) (ds:List DT) (p:Addr) (xs:List V),j6 K H d x/\y=.ref p/\(aB K H p xs∨bN K H p xs)/\DIns K H ds xs/\d.depth<=8/\DT.depths ds<=8/\Q (.bl (if neg then !decide (d∈ds)else decide (d∈ds))) H
open Classical in
theorem nH{h:Heap}{d:DT}(g:d.depth<=8):∀{a:List DT}{f:Zf},DAts h a f->DT.depths a<=8->f.any (fun u=>@decide (qh h d u) (propDecidable _))=decide (d∈a)
 |[],f,e,_=>by
  have j:f=[]:=e;subst j
  rfl
 |x::a,f,e,k=>by
  obtain⟨u,l,rfl,i,m⟩:=e;have o:max x.depth (DT.depths a)<=8:=k;rw[uw,nH g m (by omega)];by_cases q:d=x
  ·subst q;simp[i]
  ·have n:¬qh h d u:=fun z=>q (qh.inj 8 g z i);simp[n,q]
open Classical in
theorem rH{A:Around}{s:Shared}{d:DT}{v:Value}(g:d.depth<=8)(i:A.units+8<cLine)(j:qh s.heap d v):∀{f:List DT}{a:Zf},DAts s.heap f a->DT.depths f<=8->∀u∈a,aW A s u v (@decide (qh s.heap d u) (propDecidable _))
 |[],a,e,_,u,hm=>by
  have k:a=[]:=e;subst k;cases hm
 |x::f,a,e,l,u,hm=>by
  obtain⟨r,m,rfl,h,o⟩:=e;have p:max x.depth (DT.depths f)<=8:=l;rcases bY.mp hm with rfl|hm
  ·have q:=EL 8 (A:=A) g i h j;by_cases z:x=d
   ·subst z;rw[zzr1 h];rwa[zzr1 rfl]at q
   ·have n:¬qh s.heap d u:=fun w=>z (qh.inj 8 g w h).symm;rw[zzr0 n];rwa[zzr0 z]at q
  ·exact rH g i j o (by omega) u hm
theorem va(t:X.A.units+16<cLine):nI X (em .In) (l_ X.K false):=by
 intro z s σ H x y v u Q I m n h;obtain⟨d,B,p,xs,hx,rfl,hq,e,f,a,q⟩:=h;cases n;have l:=mf I 8 f hx m;have g:X.A.in1.units+8<cLine:=by show X.A.units+1+8<cLine;omega
 rcases hq with hq|hq
 ·obtain⟨i,r,j,o⟩:=I.list hq;have hi:=nE I a e r;refine SeqAt.in_listAt _ j.isList (fun w k=>rH f g l hi a w (by simpa using k)) ⟨.bl _,H,I,rfl,?_⟩;rw[ui,nH f hi a];exact q
 ·obtain⟨i,r,j,o⟩:=I.tuple hq;have hi:=nE I a e r;refine SeqAt.in_tupleAt _ j (fun w k=>rH f g l hi a w (by simpa using k)) ⟨.bl _,H,I,rfl,?_⟩;rw[ui,nH f hi a];exact q
theorem eS(t:X.A.units+16<cLine):nI X (em .NotIn) (l_ X.K true):=by
 intro z s σ H x y v u Q I m n h;obtain⟨d,B,p,xs,hx,rfl,hq,e,f,a,q⟩:=h;cases n;have l:=mf I 8 f hx m;have g:X.A.in1.units+8<cLine:=by show X.A.units+1+8<cLine;omega
 rcases hq with hq|hq
 ·obtain⟨i,r,j,o⟩:=I.list hq;have hi:=nE I a e r;refine SeqAt.notIn_listAt _ j.isList (fun w k=>rH f g l hi a w (by simpa using k)) ⟨.bl _,H,I,rfl,?_⟩;rw[ui,nH f hi a];exact q
 ·obtain⟨i,r,j,o⟩:=I.tuple hq;have hi:=nE I a e r;refine SeqAt.notIn_tupleAt _ j (fun w k=>rH f g l hi a w (by simpa using k)) ⟨.bl _,H,I,rfl,?_⟩;rw[ui,nH f hi a];exact q
end
def oW(z:Str)(lo hi:Option Int):Str:=⟨((z.cps.toList.drop (HT.sIx z.length 0 lo)).take (HT.sIx z.length z.length hi-HT.sIx z.length 0 lo)).toArray⟩
theorem sliceRange_one(a b:Nat):qD (a:Int) (b:Int) 1=(j8 (b-a)).map (fun k=>a+k):=by
 unfold qD;simp only[show(1:Int) > 0 from by decide,if_true];by_cases h:(a:Int)<(b:Int)
 ·have e:(if(a:Int)<(b:Int)then((b:Int)-a+1-1) / 1 else 0).toNat=b-a:=by rw[if_pos h];omega
  rw[e];exact List.map_congr_left fun k _=>by omega
 ·have e:(if(a:Int)<(b:Int)then((b:Int)-a+1-1) / 1 else 0).toNat=b-a:=by rw[if_neg h];omega
  rw[e];exact List.map_congr_left fun k _=>by omega
theorem xk(v:Option Int)(n d:Nat):(match v with|none=>(d:Int)|some i=>max 0 (min (if i<0 then i+(n:Int)else i) (n:Int)))=((HT.sIx n d v:Nat):Int):=by
 cases v with
 |none=>rfl
 |some i =>
  rw[<-HT.clip_eq i n d];dsimp only;by_cases h:i<0
  ·rw[if_pos h,if_pos h];omega
  ·rw[if_neg h,if_neg h];omega
theorem mY(lo hi:Option Int)(n:Nat):qC lo hi 1 n=(j8 (HT.sIx n n hi-HT.sIx n 0 lo)).map (fun k=>HT.sIx n 0 lo+k):=by
 have a:=xk lo n 0;have e:=xk hi n n;rw[<-sliceRange_one,<-a,<-e];unfold qC;simp only[show(1:Int) > 0 from by decide,if_true];cases lo<;>cases hi<;>rfl
theorem AQ(z:Str)(lo hi:Option Int):Txt.slice z lo hi=oW z lo hi:=by
 have k:HT.sIx z.length 0 lo<=z.length:=HT.sIx_le _ _ (cf _) _;have l:HT.sIx z.length z.length hi<=z.length:=HT.sIx_le _ _ (aO _) _;have f:z.cps.toList.length=z.length:=by simp[Str.length]
 have e:(qC lo hi 1 z.length).filterMap (z.cps[·]?)=(z.cps.toList.drop (HT.sIx z.length 0 lo)).take (HT.sIx z.length z.length hi-HT.sIx z.length 0 lo):=by
  rw[mY];generalize HT.sIx z.length 0 lo=a at *;generalize HT.sIx z.length z.length hi=b at *;have h:=StrLaws.picks z.cps.toList (b-a) a (by omega);simpa using h
 unfold Txt.slice;by_cases h:((1:Int)==1 && (qC lo hi 1 z.length).length==z.length)=true
 ·rw[if_pos h];have g:(qC lo hi 1 z.length).length=z.length:=by simpa using h
  rw[mY,ao,List.length_range]at g;unfold oW;have i:HT.sIx z.length 0 lo=0:=by omega
  have j:HT.sIx z.length z.length hi-HT.sIx z.length 0 lo=z.cps.toList.length:=by omega
  rw[j,i,qA,cA]
 ·rw[if_neg h];unfold oW;rw[e]
section
variable{X:Cx}
def wG:V->Option Int->Option Int->Hp->VK->Prop:=fun x lo hi H Q=>∃z,x=.str z/\z.length<=am/\Q (.str (oW z lo hi)) H
theorem rf:SlR X wG:=by
 intro g s σ H x v m n lo hi p Q I r y B f h;obtain⟨z,rfl,C,q⟩:=h;obtain⟨t,rfl⟩:=r;rw[<-AQ]at q;refine⟨"str",_,F.slot_str_getitem.lookup,typeIs_str _ _ _,?_⟩;obtain⟨o,D,E,G⟩:=y;have a:∀(l u:Option (Int×Tok)),m=partValue l->n=partValue u->lo=l.map (·.1)->hi=u.map (·.1)->wpAny (model X.prog X.w) X.A (lS (.str z t) (.ref p)) (EP X g σ Q) X.xe s:=by
  rintro l u rfl rfl rfl rfl;refine wpAny_getItem_str_slice (l:=l) (u:=u) (st:=none) ⟨o,D,E,G⟩ rfl (post_val_or_str ⟨bp (Txt.slice_le z _ _) C,fun e k=>⟨.str _,H,I.tok _,⟨_,rfl⟩,q⟩⟩)
 cases B with
 |none =>
  cases f with
  |none=>exact a none none rfl rfl rfl rfl
  |int j u=>exact a none (some (j,u)) rfl rfl rfl rfl
 |int i e =>
  cases f with
  |none=>exact a (some (i,e)) none rfl rfl rfl rfl
  |int j u=>exact a (some (i,e)) (some (j,u)) rfl rfl rfl rfl
def zV(K:Za):V->List V->Hp->VK->Prop:=fun x vs H Q=>∃z p ys,x=.str z/\vs=[.ref p]/\aB K H p (ys.map V.str)/\(ys.map (·.length)).sum+ys.length * z.length<=16777216/\Q (.str (qz z ys)) H
theorem Dn{a:Zb}:∀{us:Zf},aP (a.map V.str) us->StrsAre us a:=by
 induction a with
 |nil=>intro us r;cases r;exact .nil
 |cons y a e =>
  intro us r;cases r with
  |cons f g =>
   obtain⟨t,rfl⟩:=f;exact .cons _ _ (e g)
theorem Aa:GO X "str.join" (zV X.K):=by
 intro m s σ H x n v o Q I a e h;obtain⟨z,p,y,rfl,rfl,f,g,q⟩:=h;obtain⟨t,rfl⟩:=a;obtain⟨u,rfl,i⟩:=e.one;cases i;obtain⟨j,r,l,_⟩:=I.list f;exact join_list l.isList (by simpa using Dn r) g fun B k=>⟨.str _,H,I.tok _,⟨_,rfl⟩,q⟩
end
section
variable{X:Cx}
def TyX(K:Za)(H:Hp)(x:V)(t:Value):Prop:=mj K H x t∨(∃a xs,x=.ref a/\t=.type "tuple"/\bN K H a xs)∨(∃a xs,x=.ref a/\t=.type "list"/\aB K H a xs)
theorem yJ{k:Zd}{σ:St}{H:Hp}{s:Shared}{A:Around}{E:Zc}{Q:Zc}{c:Value}{b:Bool}{x:V}{u t:Value}(I:Inv X k σ H s)(f:RelV x u)(ty:TyX X.K H x t)(e:vT X.K t c=some b)(h:∀tk,Q (.bool b) { s with toks:=tk }):
  wpAny (model X.prog X.w) A (call (.builtin "isinstance") [u,c]) Q E s:=by
 rcases ty with ty|⟨a,xs,rfl,rfl,q⟩|⟨a,xs,rfl,rfl,q⟩
 ·exact A9 I f ty e h
 ·cases(show u=Value.ref a from f);obtain⟨g,l,p,m⟩:=I.tuple q;obtain⟨o,i,j,_⟩:=p;exact jb PySem.W.kitx_tuple I.kIn ⟨o,i,j⟩ e (fun z=>nomatch z) h
 ·cases(show u=Value.ref a from f);obtain⟨g,l,p,m⟩:=I.list q;obtain⟨o,n,i,j,_⟩:=p;exact jb PySem.W.kitx_list I.kIn ⟨o,i,j⟩ e (fun z=>nomatch z) h
theorem aI:fG X (.builtin "isinstance") (fun xs H Q=>∃x c t b,xs=[x,.ty c]/\TyX X.K H x t/\vT X.K t (.type c)=some b/\Q (.bl b) H):=by
 intro g s σ H xs i Q I r h;obtain⟨x,c,t,b,rfl,ty,a,q⟩:=h;obtain⟨u,v,rfl,e,f⟩:=vals2 r;cases(show v=Value.type c from f);exact yJ I e ty a fun tk=>⟨.bl b,H,I.tok _,rfl,q⟩
theorem FT{bs:List Bool}{a:Zf}(r:aP (bs.map V.bl) a){i:Nat}{v:Value}(h:a[i]?=some v):v=.bool ((bs[i]?).getD false)/\i<bs.length:=by
 have hi:i<a.length:=(da.mp h).1;have g:=r.length;rw[ao]at g;have e:i<bs.length:=by omega
 obtain⟨u,f,j⟩:=r.get (i:=i) (x:=V.bl bs[i]) (by simp[e]);rw[h]at f;cases f;refine⟨?_,e⟩;rw[jt e];exact j
theorem vG(bs:List Bool):((j8 bs.length).all fun i=>(bs[i]?).getD false)=bs.all id:=by
 induction bs with
 |nil=>rfl
 |cons b bs a =>
  rw[d7,List.range_succ_eq_map,List.all_cons,List.all_map,List.all_cons,<-a]
  rfl
theorem gA(l:X.calm=true):fG X (.builtin "all") (fun xs H Q=>∃(p:Addr) (bs:List Bool),xs=[.ref p]/\aB X.K H p (bs.map V.bl)/\Q (.bl (bs.all id)) H):=by
 intro m s σ H xs E Q I r h;obtain⟨p,bs,rfl,t,q⟩:=h;obtain⟨u,rfl,x⟩:=vals1 r;cases x;obtain⟨a,j,f,G⟩:=I.list t;obtain⟨o,n,y,_⟩:=id f;have k:=j.length;rw[ao]at k;refine call_all_walk (zp f.isList ?_);refine⟨s.heap.objs.size,_,_,_,_,_,fun i=>(bs[i]?).getD false,rfl,Walks.list (prog:=X.prog) (w:=X.w) (A:=X.A.in1) (I.ok.hd l) s.heap.objs.size p (bO (aE y)) a.toArray,⟨⟨_,cN _ rfl,rfl,rfl⟩,f.isList.push _⟩,?_,?_⟩
 ·intro i v J L M z g;obtain⟨e,_⟩:=FT j (i:=i) (v:=v) (by simpa using z);rw[e];exact qx g
 ·intro B tk C;have D:Inv X m σ H { s with heap:=B,toks:=tk }:=I.kept fun b o e=>C b o (by simp;exact bO (aE e)) (aV _ e);rw[bE,<-k,vG];exact⟨.bl _,H,D,rfl,q⟩
theorem yD:nI X (em .In) (fun x y H Q=>∃c j,x=.str ⟨#[c]⟩/\y=.str j/\Q (.bl (decide (c∈j.cps.toList))) H):=by
 intro a s σ H x y v u Q I e f h;obtain⟨c,j,rfl,rfl,q⟩:=h;rw[<-StrLaws.found_one]at q;exact A1 a s σ H _ _ v u Q I e f ⟨_,_,rfl,rfl,q⟩
theorem sh(T:X.calm=true):fG X (.type "list") (fun xs H Q=>∃(d:Addr) (f:List (dX×V)),xs=[.ref d]/\Rd H d (.dK f)/\∀l,H l=none->Q (.ref l) (upd H l (.lst (f.map fun g=>kV g.1)))):=by
 intro J3 s σ H xs us Q I r h;obtain⟨d,f,rfl,U,q⟩:=h;obtain⟨u,rfl,Y⟩:=vals1 r;cases Y;obtain⟨z,n,N,y,dd⟩:=nC I.hok U;obtain⟨ep,G⟩:=dd.dictAt;have hl:=y.length;refine PySem.W.kdl_call (PySem.W.kdl_dict (knd:=bU X.prog X.w) (kvs:=N) (ep:=ep) n) (I.ok.hd T) G (by rw[<-hl];exact z) fun h' tk m c J hD B=>?_;have C:aP (f.map fun g=>kV g.1) m.toList:=by
  obtain⟨hn,hP⟩:=B;have L:∀(a:Zf) (M:List (dX×V)) (D:List (dX×Value)),KV M D->a.length=D.length->(∀(j:Nat) (v:Value),a[j]?=some v->∃k x,D[j]?=some (k,x)/\(bU X.prog X.w).is k v=true)->aP (M.map fun g=>kV g.1) a:=by
   intro a M D rl
   induction rl generalizing a with
   |nil=>intro E _;cases a with
    |nil=>exact .nil
    |cons _ _=>cases E
   |@cons p w' ps ab hp _ ih =>
    intro E O;cases a with
    |nil=>cases E
    |cons v a =>
     obtain⟨k,x,e,J⟩:=O 0 v rfl;have e':w'=(k,x):=by simpa using e
     refine .cons ?_ (ih a (by simpa using E) fun j v C=>by simpa using O (j+1) v (by simpa using C));have ek:p.1=k:=by rw[hp.1,e']
     show RelV (kV p.1) v;rw[ek];rcases ax (show cP k v=true from J)with⟨i,t,rfl,rfl⟩|⟨i,t,rfl,rfl⟩
     ·exact⟨t,rfl⟩
     ·exact⟨t,rfl⟩
  exact L m.toList f N y (by rw[mG];exact hn) fun j v C=>hP j v (by rw[<-qN];exact C)
 refine⟨.ref s.heap.objs.size,_,I.laid (o:=.lst (f.map fun g=>kV g.1)) J (aO _) ⟨by rw[ao];exact z,m.toList,c,C,by rw[Array.toArray_toList];exact hD⟩,rfl,q _ I.fresh⟩
end
section
variable{prog:bg}{w:World}{K:Type}[DecidableEq K]{knd:HeapKind prog w K}{A:Around}{E:Zc}{s:Shared}
theorem qQ{d a:Addr}{xs:List (K×Addr×Value)}{k:K}{v:Value}{Q:Zc}(t:knd.room A)(f:knd.is s.heap k a)(B:s.heap.DictOfH knd d xs)
  (there:∀p,atKey xs k=some p->Q p.2 { s with toks:=s.toks+knd.draws k })
  (new:atKey xs k=none->∀q,q.DictOfH knd d (xs++[(k,a,v)])->iP d s.heap q->Q v { s with heap:=q,toks:=s.toks+knd.draws k })
  (C:xs.length<=am):wpAny (model prog w) A (dictSetDefault d (.ref a) v) Q E s:=by
 obtain⟨o,H,D,h,G,g,n,i,r⟩:=B;unfold dictSetDefault
 try with_reducible refine kb ?_
 refine aj (knd.pyHash t f ?_);refine aj (wpAny_dictFind_heap (s:={ s with toks:=s.toks+knd.draws k }) t f h g n i r ?_ ?_)
 ·intro l;have m:k∉xs.map (·.1):=not_mem_keys_of_get l;refine aj (pk (aj (wpAny_updateDictKeys (hz:=by have e:=size_of_entries n;omega) (s:={ s with toks:=s.toks+knd.draws k }) h g (aD (new (atKey_none_of_get l) _ ⟨_,_,D+1,fK _ h (Obj.isFreed_of_dict (Obj.data_mapDictKeys g _)),
   G.mapDictKeys _,Obj.data_mapDictKeys g _,?_,?_,?_⟩ (lO ..))))))
  ·simp[n,entryOfKey]
  ·intro x hx;rcases cj.mp hx with hx|hx
   ·exact knd.keeps (i x hx) h g (lO ..)
   ·simp only[uh]at hx;subst hx;exact knd.keeps f h g (lO ..)
  ·rw[aN,ee];refine⟨r,by simp,?_⟩;intro x hx y u;simp only[bo,List.map_nil,uh]at u;subst u;exact fun e=>m (e▸hx)
 ·intro j p z;refine aj (ug (s:={ s with toks:=s.toks+knd.draws k }) h g ?_);rw[entry_at n j,z];exact aj (pk (aD (there p (atKey_of_get r z))))
theorem nk(knd:HeapKind prog w K)(d a:Addr)(j:(d==h9)=false)(dflt:Value):
  MeetsIn prog w (bQ.«dict.setdefault» ⟨[.ref d,.ref a,dflt],[]⟩) (fun A R s=>knd.room A.in1/\∃k xs,knd.is s.heap k a/\s.heap.DictOfH knd d xs/\xs.length<=am /\
   (∀p,atKey xs k=some p->R (.ok (.ret p.2)) { s with toks:=s.toks+knd.draws k }) /\
   (atKey xs k=none->∀e,e.DictOfH knd d (xs++[(k,a,dflt)])->iP d s.heap e->R (.ok (.ret dflt)) { s with heap:=e,toks:=s.toks+knd.draws k })) :=
 .of_wp fun A R s ⟨l,k,xs,f,i,m,n,o⟩=>by
  unfold bQ.«dict.setdefault»;refine aj ?_;unfold bQ.Dict.keyAndDefault;refine aj (wpAny_notOrdered_dict i.typeIs ?_);show wpAny _ _ (pure (d,Value.ref a,some dflt)) _ _ s;refine aD ?_;show wpAny _ _ (if(d==h9)=true then _ else(dictSetDefault d (.ref a) dflt >>= _)) _ _ s
  rw[if_neg (by rw[j];exact iI)];exact aj (qQ l f i (fun p q=>aD ⟨p.2,rfl,n p q⟩) (fun r e g h=>aD ⟨dflt,rfl,o r e g h⟩) m)
end
section
variable{X:Cx}
def zU:V->List V->Hp->VK->Prop:=fun x vs H Q=>∃(d b:Addr) (kvs:List (TK×V)) (k:TK) (z:V),x=.ref d/\vs=[.ref b,z]/\H d=some (.dT kvs)/\iD H k (.ref b)/\k.depth<=8/\kvs.length<am /\
 (∀v,cY kvs k=some v->Q v H)/\(cY kvs k=none->Q z (upd H d (.dT (kvs++[(k,z)]))))
theorem A3(C:X.A.units+16<cLine):GO X "dict.setdefault" zU:=by
 intro J3 s σ H x vs v us Q I D E h;obtain⟨d,b,a,k,z,rfl,rfl,l,n,j,hz,G,J⟩:=h;cases D;obtain⟨u,v,rfl,L,q⟩:=E.two;cases L;obtain⟨_,g,xs,f,r⟩:=EK I.hok I.kIn l;have hl:a.length=xs.length:=Paired.length f;refine call_meetsIn PySem.F.slot_dict_setdefault r.typeIs PySem.F.entry_dict_setdefault (PySem.F.args_dict_setdefault_3 _ _ _) (nk (eo X.prog X.w) d b g v)
  ⟨g8 C,k,xs,yI I.hok I.kIn (iD.c 8 j n) j,r,by omega,fun p M=>?_,fun N h' m O=>?_⟩
 ·have e:=f.val k;rw[M]at e;cases i:cY a k with
  |none=>rw[i]at e;exact e.elim
  |some y =>
   rw[i]at e;exact⟨y,H,I.tok _,e,G y i⟩
 ·have e:=f.val k;rw[N]at e;have i:cY a k=none:=by
   cases i:cY a k with
   |none=>rfl
   |some y=>rw[i]at e;exact e.elim
  obtain⟨o,T,U,t,Y,h3,h4,_,h5⟩:=m;refine⟨z,_,vx (ob:=.dT (a++[(k,z)])) I (by rw[l];exact ej) O ⟨o,t⟩ ⟨by rw[aY,List.length_singleton];omega,g,_,KT.keeps (kvs:=a++[(k,z)]) (xs:=xs++[(k,b,v)]) (uv f ⟨rfl,iD.c 8 j n,j,q⟩) fun c ys B=>?_,o,T,U,t,Y,h3,h4,h5⟩,q,J i⟩;rw[ai (EB B l (fun z=>nomatch z))];exact B
end
theorem kL:entryFor table "dict.update.loop"=some bQ.«dict.update.loop»:=entryFor_of_fast (by kernel_rfl)
theorem fu:plainId "dict.update.loop"=true:=by decide +kernel
theorem vc:nX (.type "list") "keys"=pure none:=am_miss_of_fast (by decide +kernel)
section
variable{prog:bg}{w:World}{A:Around}{E:Zc}{s:Shared}
theorem A5{a:Addr}{o:Obj}{xs:Array Value}{k:Nat}{Q:Option Value->Shared->Prop}(hx:s.heap.get? a=some o)(m:o.cls=.type "list")(f:o.data=.seq xs k)(n:o.dict=none)(r:A.handled=none)
  (h:∀l tk,(∀b p,s.heap.get? b=some p->l.get? b=some p)->Q none { s with heap:=l,toks:=tk }):wpAny (model prog w) A (getAttr? (.ref a) "keys") Q E s:=by
 obtain⟨c,t,u,v⟩:=o;simp only at m f n;subst m f n;obtain⟨x,g,d,tk,os⟩:=s;have q:∀i,(⟨x,g,d,i,os⟩:Shared).TypeIs (.ref a) "list":=fun _=>⟨_,hx,rfl⟩;have y:=sub_AttributeError;have z:=F.slot_list_getattribute.lookup;have B:=F.slot_list_getattribute.bind (.ref a);have C:=am_list_getattr_none;unfold getAttr? getAttrBy? getAttrBy
 repeat (any_goals (first|assumption|exact q _|((with_reducible show wpAny _ _ (call (xI "list.__getattribute__") _ _) _ _ _);refine ux F.slot_list_getattribute (q _) am_entry_list_getattribute (F.args_list_getattribute_2 _ _) (meets_getattribute_miss_list a xs k v "keys" _ vc (by decide +kernel) (by decide +kernel)) ⟨hx,r,fun l i e j=>?_⟩)|wp_step))
 obtain⟨D,G,H⟩:=j.there;show wpAny _ _ (getattributeRaised _ _ _ _ _ _ _) _ _ _;unfold getattributeRaised hookOrError attributeErrorLeaves
 repeat (any_goals (first|assumption|wp_step))
 all_goals first|exact h _ _ j.keeps|trace_state
def y6(h:Heap)(u:Value)(kv:dX×Value):Prop:=∃t ku,u=.ref t/\h.IsTuple t #[ku,kv.2]/\cP kv.1 ku=true
theorem yh{κ:Type}[DecidableEq κ](a:List (κ×Value))(k:κ)(v:Value):(stored a k v).length<=a.length+1:=by
 unfold stored;split
 ·rw[ao];omega
 ·rw[aY,List.length_singleton];exact aO _
theorem BE{R:Result->Shared->Prop}(hh:A.handled=none){D it l:Addr}{items:Array Value}{ps:List (dX×Value)}(B:D≠it)(T:l≠it)(U:l≠D)(a4:ps.length=items.size):
  ∀(n i:Nat) (s:Shared) (a:List (dX×Value)),items.size-i=n->i<=items.size->a.length+(items.size-i)<=am->s.heap.IsListIter it l i->s.heap.IsList l items->s.heap.DictOf (bU prog w) D a ->
   (∀(j:Nat) (u:Value) (N:dX×Value),items[j]?=some u->ps[j]?=some N->y6 s.heap u N) ->
   (∀z tk,z.DictOf (bU prog w) D (merged a (ps.drop i))->(∀b o,b≠D->b≠it->s.heap.get? b=some o->z.get? b=some o)->R (.ok (.ret .none)) { s with heap:=z,toks:=tk }) ->
   zzl83 (model prog w) A (.builtin "dict.update.loop" ⟨[.ref D,.ref it,rawInt i,.none],[]⟩) R s:=by
 intro n
 induction n with
 |zero =>
  intro i s a hn hi hz p O Q Y hR;have e:i=items.size:=by omega
  subst e;refine codeAny_builtin kL ?_;rw[Around.under_plainId fu _];show wpAny _ A.in1 (pyNext (.ref it) >>= _) _ _ s;refine aj (wpAny_pyNext_list_end hh p O (by simp) fun z eb=>?_);show wpAny _ _ (bQ.Dict.addKeywords D [] >>= _) _ _ _;refine aj (aD (aD ?_));have C:z.DictOf (bU prog w) D a:=Q.extBut eb B;have q:=hR z s.toks (by rw[uf (by omega)];exact C) fun b o _ hb e=>eb b o hb e;exact q
 |succ n ih =>
  intro i s a hn hi hz p O Q Y hR;have I:i<items.size:=by omega
  refine codeAny_builtin kL ?_;rw[Around.under_plainId fu _];show wpAny _ A.in1 (pyNext (.ref it) >>= _) _ _ s;have hu:items[i]?=some items[i]:=by simp[I]
  have hk:ps[i]?=some ps[i]:=jt (by omega);obtain⟨t,ku,eu,ht,ab⟩:=Y i _ _ hu hk;refine aj (wpAny_pyNext_list_item p O (x:=items[i]) hu fun h J ak=>?_);rw[eu];have m:iP it s.heap h:=ak;have nt:t≠it:=by
   rintro rfl;obtain⟨o,G,L,_⟩:=ht;obtain⟨o',f,g,_⟩:=p;rw[G]at f;cases f;rw[L]at g;simp at g
  have M:h.IsTuple t #[ku,ps[i].2]:=ht.extBut m.extBut nt;have al:Shared.TypeIs { s with heap:=h } (.ref t) "tuple":=M.typeIs (s:={ s with heap:=h });obtain⟨ot,an,a5,a6,ap⟩:=id M;refine aj (kb ?_);refine aj (wpAny_tryCatch ?_);unfold bQ.Dict.pairItems;refine aj (wpAny_typeOf al ?_);rw[if_pos (by decide)];refine aj (lG an ap (aD ?_));show wpAny _ _ (jW [ku,ps[i].2] (dictSet D ku ps[i].2)) _ _ _;have aq:h.DictOf (bU prog w) D a:=Q.extBut m.extBut B;refine kb (wpAny_dictSet_pairs (knd:=bU prog w) (k:=ps[i].1) ab aq (fun y as aC=>?_) (by omega));have v:iP D h y:=aC;show wpAny _ _ (again _) _ _ _;refine aD ⟨plainId_quiet fu _,?_⟩;have aS:h.IsList l items:=O.extBut m.extBut T;have kp:∀b o,b≠D->b≠it->s.heap.get? b=some o->y.get? b=some o:=fun b o h y e=>v.extBut b o h (m.extBut b o y e);refine ih (i+1) _ (stored a ps[i].1 ps[i].2) (by omega) I (by have:=yh a ps[i].1 ps[i].2;omega) (J.extBut v.extBut (cy B)) (aS.extBut v.extBut U) as (fun j u N h y=>?_) fun z tk C aT=>?_
  ·obtain⟨t2,aX,e2,H,a0⟩:=Y j u N h y;have n1:t2≠it:=by
    rintro rfl;obtain⟨o,G,L,_⟩:=H;obtain⟨o',f,g,_⟩:=p;rw[G]at f;cases f;rw[L]at g;simp at g
   have n2:t2≠D:=by
    rintro rfl;obtain⟨o,G,L,_⟩:=H;obtain⟨o',_,_,f,g,_⟩:=Q;rw[G]at f;cases f;have:=g.1;rw[L]at this;simp at this
   obtain⟨o,G,r⟩:=H;exact⟨t2,aX,e2,⟨o,kp _ o n2 n1 G,r⟩,a0⟩
  ·refine hR z tk ?_ fun b o h y e=>aT b o h y (kp b o h y e);have ed:ps.drop i=ps[i]::ps.drop (i+1):=ue (by omega);rw[ed];exact C
theorem pX{l:Addr}{o:Obj}{items:Array Value}{n:Nat}{ps:List (dX×Value)}{Q:Zc}(T:A.handled=none)(U:s.heap.get? l=some o)(J:o.cls=.type "list")(v:o.data=.seq items n)(L:o.dict=none)
  (M:ps.length=items.size) (hp:∀(j:Nat) (u:Value) (H:dX×Value),items[j]?=some u->ps[j]?=some H->y6 s.heap u H) (hz:items.size<=am)
  (h:∀x tk,x.DictOf (bU prog w) s.heap.objs.size (merged [] ps)->(∀b o,s.heap.get? b=some o->x.get? b=some o)->Q (.ref s.heap.objs.size) { s with heap:=x,toks:=tk }) :
  wpAny (model prog w) A (call (.type "dict") [.ref l]) Q E s:=by
 refine callType_codes (Q₁:=fun y m=>y=.ref s.heap.objs.size/\m={ s with heap:=s.heap.push { cls:=.type "dict",data:=.dict #[] } }) F.kt_called_dict (F.kt_typeCall_dict_1 _) F.entry_dict_init (kt_code_dict_new _ ⟨rfl,rfl⟩) ?_;rintro y m ⟨rfl,rfl⟩;have f:(s.heap.push { cls:=.type "dict",data:=.dict #[] }).DictOf (bU prog w) s.heap.objs.size []:=Heap.DictOf.new s.heap;have p:(s.heap.push { cls:=.type "dict",data:=.dict #[] }).get? l=some o:=aV _ U;have z:l<s.heap.objs.size:=aE U;refine⟨f.typeIs,F.args_dict_init_2 _ _,?_⟩;unfold bQ.«dict.__init__»;refine aj ?_;unfold bQ.Dict.selfAndRest;refine aj (wpAny_notOrdered_dict f.typeIs ?_);show wpAny _ _ (pure (s.heap.objs.size,[Value.ref l])) _ _ _;refine aD ?_;show wpAny _ _ (bQ.Dict.updateFrom "dict.__init__" s.heap.objs.size (.ref l) [] .none) _ _ _;unfold bQ.Dict.updateFrom;have N:Shared.TypeIs { s with heap:=s.heap.push { cls:=.type "dict",data:=.dict #[] } } (.ref l) "list":=⟨o,p,J⟩;refine aj (wpAny_typeOf N ?_);rw[if_pos (by decide)];refine aj (A5 p J v L T fun q O k1=>?_);have k:∀b I,(s.heap.push { cls:=.type "dict",data:=.dict #[] }).get? b=some I->q.get? b=some I:=k1;rw[if_pos (by rfl:(none:Option Value).isNone=true)];refine aj (pk ?_);have B:q.IsList l items:=⟨o,k _ _ p,J,n,v⟩;refine aj (zp (s:={ s with heap:=q,toks:=O }) B ?_);have C:q.DictOf (bU prog w) s.heap.objs.size []:=by
  obtain⟨Y,es,ep,g,r⟩:=f;exact⟨Y,es,ep,k _ _ g,r⟩
 have i:s.heap.objs.size<q.objs.size:=by
  obtain⟨Y,es,ep,g,r⟩:=C;exact aE g
 refine aD ⟨plainId_quiet fu _,?_⟩;refine BE (A:=A.in1) (prog:=prog) (w:=w) T (D:=s.heap.objs.size) (it:=q.objs.size) (l:=l) (items:=items) (ps:=ps) (bO i) (bO (Nat.lt_trans z i)) (bO z) M items.size 0 _ [] (Nat.sub_zero _) (cf _) (by rw[qK];omega)
  ⟨_,cN _ rfl,rfl,rfl⟩ (B.push _) (C.push _) (fun j u H a b=>?_) fun x tk G kp=>?_
 ·obtain⟨t,ku,e,ht,hk⟩:=hp j u H a b;obtain⟨ot,g,r⟩:=ht;exact⟨t,ku,e,⟨ot,aV _ (k _ _ (aV _ g)),r⟩,hk⟩
 ·rw[qA]at G;refine⟨rfl,h x tk G fun b I e=>kp b I (bO (aE e)) (bO (Nat.lt_trans (aE e) i)) (aV _ (k _ _ (aV _ e)))⟩
end
section
variable{X:Cx}
theorem vD(hc:X.calm=true):fG X (.type "dict") (fun xs H Q=>∃(l:Addr) (k:Ze) (f:List (dX×V)),xs=[.ref l]/\aB X.K H l (k.map V.ref)/\k.length=f.length /\
  (∀(j:Nat) (t:Addr) (g:dX×V),k[j]?=some t->f[j]?=some g->H t=some (.tup [kV g.1,g.2]))/\∀p,H p=none->Q (.ref p) (upd H p (.dK (i8 [] f)))):=by
 intro J3 s σ H xs us Q I r h;obtain⟨l,k,f,rfl,v,z,E,q⟩:=h;obtain⟨u,rfl,ru⟩:=vals1 r;cases ru;obtain⟨G,rv,⟨o,n,ho,J,L,M⟩,N⟩:=I.list v;have O:∀(k:Ze) (f:List (dX×V)),k.length=f.length->(∀(j:Nat) (t:Addr) (g:dX×V),k[j]?=some t->f[j]?=some g->H t=some (.tup [kV g.1,g.2]))->∃y:List (dX×Value),KV f y/\∀(j:Nat) (t:Addr) (g:dX×Value),k[j]?=some t->y[j]?=some g->y6 s.heap (.ref t) g:=by
  intro k
  induction k with
  |nil =>
   intro f v _;cases f with
   |nil=>exact⟨[],.nil,fun j t g e=>by simp at e⟩
   |cons _ _=>cases v
  |cons t k ih =>
   intro f v E;cases f with
   |nil=>cases v
   |cons g f =>
    obtain⟨y,T,r2⟩:=ih f (by simpa using v) fun j U m a b=>E (j+1) U m (by simpa using a) (by simpa using b);obtain⟨_,ab,rt,p⟩:=(show b_ X.prog X.w X.K H s.heap t (.tup [kV g.1,g.2])from I.hok t _ (E 0 t g rfl rfl));obtain⟨a,b,e,ra,rb⟩:=rt.two;subst e;refine⟨(g.1,b)::y,.cons ⟨rfl,rb⟩ T,fun j U m B Y=>?_⟩;cases j with
    |zero =>
     simp at B Y;subst B Y;exact⟨t,a,rfl,p,pF (P:=X.prog) (w:=X.w) ra⟩
    |succ j=>exact r2 j U m (by simpa using B) (by simpa using Y)
 obtain⟨y,C,pa⟩:=O k f z E;have D:=rv.length;rw[ao]at D;have ak:=C.length;refine pX (prog:=X.prog) (w:=X.w) (ps:=y) (I.ok.hd hc) ho J M L (by rw[bE];omega) (fun j u g a b=>?_) (by rw[bE,<-D];rw[ao]at N;exact N) fun h' tk hD kp=>?_
 ·have a':G[j]?=some u:=by simpa using a
  have hj:j<k.length:=by
   have:=(da.mp a').1;omega
  obtain⟨u',e1,T⟩:=rv.get (i:=j) (x:=V.ref k[j]) (by simp[hj]);rw[a']at e1;cases e1;cases(show u=Value.ref k[j]from T);exact pa j k[j] g (by simp[hj]) b
 ·have hm:(i8 [] f).length<=am:=by
   have B:=lI f [];rw[qK]at B;rw[ao]at N;omega
  exact⟨.ref s.heap.objs.size,_,I.laid (o:=.dK (i8 [] f)) kp (aO _) (CO hm (beq_eq_false_iff_ne.mpr (cy (bO I.big))) (C.merge .nil) hD),rfl,q _ I.fresh⟩
end
abbrev dz:R2:=Bv fun i j=>.int (i+j)
abbrev kG:R2:=rI C4 fun i j=>.int (i * j)
abbrev iV:R2:=rI (fun _ j=>0<j) fun i j=>.int (i % j)
abbrev B7:R2:=rI GY fun i j=>.int (i / j)
abbrev Eu:R2:=rI GX fun i j=>.int (i ^ j.toNat)
abbrev Fp:R2:=Bv fun i j=>.bl (decide (i<j))
abbrev rLeI:R2:=Bv fun i j=>.bl (decide (i<=j))
abbrev Gs:R2:=Bv fun i j=>.bl (decide (j<i))
abbrev rGeI:R2:=Bv fun i j=>.bl (decide (j<=i))
abbrev tF:R2:=fun x y H Q=>∃i j,x=.str i/\y=.str j/\i.length+j.length<=am/\Q (.str (i++j)) H
abbrev rInS:R2:=fun x y H Q=>∃c j,x=.str ⟨#[c]⟩/\y=.str j/\Q (.bl (decide (c∈j.cps.toList))) H
abbrev gr(K:Za):List V->Hp->VK->Prop:=fun xs H Q=>∃x c t b,xs=[x,.ty c]/\TyX K H x t/\vT K t (.type c)=some b/\Q (.bl b) H
abbrev AY(K:Za):List V->Hp->VK->Prop:=fun xs H Q=>∃(p:Addr) (bs:List Bool),xs=[.ref p]/\aB K H p (bs.map V.bl)/\Q (.bl (bs.all id)) H
abbrev Dz(K:Za):List V->Hp->VK->Prop:=fun xs H Q=>∃(l:Addr) (ts:Ze) (kvs:List (dX×V)),xs=[.ref l]/\aB K H l (ts.map V.ref)/\ts.length=kvs.length /\
  (∀(j:Nat) (t:Addr) (kv:dX×V),ts[j]?=some t->kvs[j]?=some kv->H t=some (.tup [kV kv.1,kv.2]))/\∀p,H p=none->Q (.ref p) (upd H p (.dK (i8 [] kvs)))
abbrev cZ(K:Za):List V->Hp->VK->Prop:=fun xs H Q =>
 (∃p ys,xs=[.ref p]/\(aB K H p ys∨bN K H p ys)/\∀l,H l=none->Q (.ref l) (upd H l (.lst ys))) ∨
 (∃(d:Addr) (kvs:List (dX×V)),xs=[.ref d]/\Rd H d (.dK kvs)/\∀l,H l=none->Q (.ref l) (upd H l (.lst (kvs.map fun kv=>kV kv.1))))
abbrev dJ(K:Za):List V->Hp->VK->Prop:=fun xs H Q =>
 (∃p ys,xs=[.ref p]/\(aB K H p ys∨bN K H p ys)/\Q (.int ys.length) H)∨(∃z,xs=[.str z]/\z.length<=am/\Q (.int z.length) H)
theorem aJ:iQ "isinstance"=some (.builtin "isinstance"):=by decide +kernel
theorem mi:iQ "list"=some (.type "list"):=by decide +kernel
theorem xr:iQ "tuple"=some (.type "tuple"):=by decide +kernel
theorem yY:iQ "dict"=some (.type "dict"):=by decide +kernel
theorem yZ:iQ "bool"=some (.type "bool"):=by decide +kernel
theorem Bl:iQ "int"=some (.type "int"):=by decide +kernel
theorem Bk:iQ "str"=some (.type "str"):=by decide +kernel
section
variable{X:Cx}{p pos:Pos}
theorem tR:fG X (.builtin "len") (dJ X.K):=vC.or vB
theorem yX(a:X.calm=true):fG X (.type "list") (cZ X.K):=vA.or (sh a)
theorem c6(a:Gl X "bool")(e:X.mg "bool"=none):PE X (.Name "bool" pos) (tC (.ty "bool")):=nh a e yZ rfl
theorem hJ(a:Gl X "int")(e:X.mg "int"=none):PE X (.Name "int" pos) (tC (.ty "int")):=nh a e Bl rfl
theorem g_(a:Gl X "str")(e:X.mg "str"=none):PE X (.Name "str" pos) (tC (.ty "str")):=nh a e Bk rfl
theorem eK(a:Gl X "list")(e:X.mg "list"=none):PE X (.Name "list" pos) (tC (.ty "list")):=nh a e mi rfl
theorem eR(a:Gl X "tuple")(e:X.mg "tuple"=none):PE X (.Name "tuple" pos) (tC (.ty "tuple")):=nh a e xr rfl
end
def Gc(mg:Str->Option Value)(x:Str)(v:V):Prop:=∃u,mg x=some u/\RelV v u
theorem nc{X:Cx}{x:Str}{v:V}{a:Pos}(e:Gl X x)(h:Gc X.mg x v)(f:(x==("__debug__":Str))=false:=by decide):PE X (.Name x a) (tC v):=by
 obtain⟨u,g,r⟩:=h;exact DK e g r f
structure Def(P:bg)(w:World)(K:Za)(mg:Str->Option Value)(base:Heap)(x:Str)(ps:Zb)(k:Nat)(sp:Sp):Prop where
 ex:∃f fd,gJ P w K mg base CX0 k f fd ps sp/\mg x=some (.ref f)/\dB K (.ref f)=true/\Binds K fd ps []
structure CZ(P:bg)(w:World)(K:Za)(mg:Str->Option Value)(base:Heap)(C:Addr)(m:Str)(ps:Zb)(k:Nat)(sp:Sp):Prop where
 ex:∃f fd,gJ P w K mg base CX0 k f fd ps sp/\Bq K C/\Ek K C m f/\Binds K fd ps []
section
variable{X:Cx}{k:Nat}{ps:Zb}{sp:Sp}{x m:Str}{C:Addr}{p pos J5:Pos}{o e:Expr}{es:List Expr}{t:TA}{ta:TE}
theorem z0(D:Def X.prog X.w X.K X.mg X.base x ps k sp)(h:cx k X.A)(i:Gl X x)(j:PA X (e::es) t)(a:(x==("__debug__":Str))=false:=by decide)
  (l:au (e::es) X.env=(false,eval e X.env)::au es X.env:=by rfl) (g:(backTo pos (au es X.env)).any (·.1)=false:=by rfl) :
  PE X (.Call (.Name x p) (e::es) [] pos) (aL sp t):=by
 obtain⟨f,s,F,n,q,r⟩:=D.ex;exact z6 F h i n q r .nil z8 j a l g
theorem FA(D:Def X.prog X.w X.K X.mg X.base x ps k sp)(g:cx k X.A)(h:Gl X x)(a:(x==("__debug__":Str))=false:=by decide):
  PE X (.Call (.Name x p) [] [] pos) (aL sp bA):=by
 obtain⟨f,n,F,i,j,l⟩:=D.ex;exact Ci F g h i j l .nil z8 a
theorem Fz{pl:Sem Bool}(M:CZ X.prog X.w X.K X.mg X.base C m ps k sp)(i:cx k X.A)(j:PE X o ta)(l:PA X (e::es) t)
  (a:au (e::es) X.env=(false,eval e X.env)::au es X.env:=by rfl) (g:(backTo pos (au es X.env)).any (·.1)=false:=by rfl)
  (n:eval (.Call (.Attribute o m J5) (e::es) [] pos) X.env=(do
   let h <- eval o X.env
   mH J5.atName
   let(f,first) <- jW [h] (mE h m pl)
   lU pos f first (backTo pos (au (e::es) X.env)) (jA pos (jz [] X.env))):=by rfl) :
  PE X (.Call (.Attribute o m J5) (e::es) [] pos) (gm C m sp [] E0 ta t):=by
 obtain⟨f,s,F,c,q,r⟩:=M.ex;exact DH j c q F i r .nil z8 l a g n
theorem DG{pl:Sem Bool}(M:CZ X.prog X.w X.K X.mg X.base C m ps k sp)(g:cx k X.A)(h:PE X o ta)
  (i:eval (.Call (.Attribute o m J5) [] [] pos) X.env=(do
   let a <- eval o X.env
   mH J5.atName
   let(f,first) <- jW [a] (mE a m pl)
   lU pos f first (backTo pos (au [] X.env)) (jA pos (jz [] X.env))):=by rfl) :
  PE X (.Call (.Attribute o m J5) [] [] pos) (gm C m sp [] E0 ta bA):=by
 obtain⟨f,n,F,c,j,l⟩:=M.ex;exact Cg h c j F g l .nil z8 i
end
def GB(K:Za)(tl:TE):TI:=fun σ H R=>tl σ H fun x H1=>∃a,x=.ref a/\(((∃xs,aB K H1 a xs)/\R (EY K a) H1)∨((∃xs,bN K H1 a xs)/\R (GR K a) H1))
theorem Fw{X:Cx}{u l:Expr}{r:TE}(y:PE X l r):PI X u l (GB X.K r):=by
 intro t s σ H R I h;refine cb (y t s σ H _ I h) fun v f j=>?_;obtain⟨x,k,g,z,B⟩:=j;obtain⟨a,e,q⟩:=B;subst e;cases z;have i:∀b∈[f.heap.objs.size],kP X t k b:=fun b C=>by
  have e:b=f.heap.objs.size:=by simpa using C
  subst e;exact g.fpOk (aO _) (g.hok.fresh (aO _))
 rcases q with⟨⟨xs,m⟩,q⟩|⟨⟨xs,m⟩,q⟩
 ·obtain⟨n,D,p,E⟩:=g.list m;refine zp p.isList ?_;exact⟨f.heap.objs.size,[f.heap.objs.size],_,_,k,rfl,g.kept (t':=f.toks) fun b o e=>aV _ e,tf a _,⟨_,cN _ rfl,rfl,rfl⟩,i,q⟩
 ·obtain⟨n,D,p,E⟩:=g.tuple m;refine wpAny_pyIter_tuple p ?_;exact⟨f.heap.objs.size,[f.heap.objs.size],_,_,k,rfl,g.kept (t':=f.toks) fun b o e=>aV _ e,xO a _,⟨_,cN _ rfl,rfl,rfl⟩,i,q⟩
theorem gy{K:Za}{a:Addr}{xs:List V}{g:TG}{k:TS}{D:g0}{σ:St}{H:Hp}(Pv:Nat->St->Hp->Prop)(n:Pv 0 σ H)(o:∀i σ H,i<=xs.length->Pv i σ H->aB K H a xs)
  (r:∀i x σ H p,xs[i]?=some x->Pv i σ H->H p=none->g (.ref p) σ (upd H p (.tup [.int i,x])) fun σ2 j=>k { D with nx:=Pv (i+1),ct:=Pv (i+1),bk:=D.nx } σ2 j) (s:∀σ H,Pv xs.length σ H->D.nx σ H) :
  ∃W:Nat->Nat->St->Hp->Prop,(∃m,W 0 m σ H)/\∀i m σ H,W i m σ H ->
   ((GS K a).stop i H/\D.nx σ H)∨((GS K a).go i H/\∃N:St->Hp->Prop,(∀σ' f,N σ' f->∃l,l<m/\W (i+1) l σ' f)/\∀x f,(GS K a).yld i H x f->g x σ f fun σ2 j=>k { D with nx:=N,ct:=N,bk:=D.nx } σ2 j):=by
 refine⟨fun i m σ H=>m=xs.length-i/\i<=xs.length/\Pv i σ H,⟨xs.length,by simp,cf _,n⟩,?_⟩;rintro i m σ H ⟨rfl,hi,p⟩;have q:=o i σ H hi p;by_cases h:i<xs.length
 ·refine .inr ⟨⟨xs,xs[i],q,by simp[h]⟩,Pv (i+1),fun σ' f u=>⟨xs.length-(i+1),by omega,rfl,h,u⟩,fun x f y=>?_⟩;obtain⟨t,v,rfl,z,B,rfl⟩:=y;exact r i v σ H t (B xs q) p z
 ·have e:i=xs.length:=by omega
  subst e;exact .inl ⟨⟨xs,q,aO _⟩,s σ H p⟩
def Wc(n:Nat)(Pv:Nat->List V->Hp->Prop):Nat->Nat->List V->Hp->Prop:=fun i m vs H=>m=n-i/\i<=n/\Pv i vs H
theorem pW{n i:Nat}{Pv:Nat->List V->Hp->Prop}{a:List V}{H:Hp}(hi:i<n)(p:Pv (i+1) a H):∃m',m'<n-i/\Wc n Pv (i+1) m' a H:=⟨n-(i+1),by omega,rfl,hi,p⟩
abbrev kQ(k:Nat)(fi:List Nat)(σ:St)(J:It)(g:TG)(tc:TT)(te:TE)(H1:Hp)(l:Addr)(Q:Hp->Prop):Prop :=
 ∃W:Nat->Nat->List V->Hp->Prop,(∃m,W 0 m [] (upd H1 l (.lst [])))/\∀i m vs H2,W i m vs H2->H2 l=some (.lst vs) /\
  ((J.stop i H2/\Q H2)∨(J.go i H2/\∀x H3,J.yld i H2 x H3->g x (du k fi σ) H3 fun σ2 H4=>tc σ2 H4 fun b H5 =>
   if b=true then te σ2 H5 fun v H6=>H6 l=some (.lst vs)/\vs.length<am/\∃m',m'<m/\W (i+1) m' (vs++[v]) (upd H6 l (.lst (vs++[v])))else ∃m',m'<m/\W (i+1) m' vs H5))
theorem nF{k:Nat}{r:List Nat}{J:It}{g:TG}{s:TT}{t:TE}{σ:St}{u:Hp}{Q:Hp->Prop}{l:Addr}(n:Nat)(Pv:Nat->List V->Hp->Prop)(C:Pv 0 [] (upd u l (.lst [])))
  (D:∀i a H,i<=n->Pv i a H->H l=some (.lst a)) (o:∀i a H,i<n->Pv i a H->J.go i H) (q:∀a H,Pv n a H->J.stop n H/\Q H)
  (E:∀i a H x j,i<n->Pv i a H->J.yld i H x j->g x (du k r σ) j fun σ2 G=>s σ2 G fun b z =>
   if b=true then t σ2 z fun v B=>B l=some (.lst a)/\a.length<am/\∃f,f<n-i/\Wc n Pv (i+1) f (a++[v]) (upd B l (.lst (a++[v])))else ∃f,f<n-i/\Wc n Pv (i+1) f a z) :
  kQ k r σ J g s t u l Q:=by
 refine⟨Wc n Pv,⟨n,by simp[Wc],cf _,C⟩,?_⟩;rintro i m a H ⟨rfl,hi,p⟩;refine⟨D i a H hi p,?_⟩;by_cases h:i<n
 ·exact .inr ⟨o i a H h p,fun x j y=>E i a H x j h p y⟩
 ·have e:i=n:=by omega
  subst e;exact .inl (q a H p)
section
variable{K:Za}{k:Nat}{fi:List Nat}{g:TG}{tc:TT}{te:TE}{σ:St}{H1:Hp}{Q:Hp->Prop}{l:Addr}
theorem cI{a:Addr}{xs:List V}(Pv:Nat->List V->Hp->Prop)(n:Pv 0 [] (upd H1 l (.lst [])))
  (h:∀i e H,i<=xs.length->Pv i e H->H l=some (.lst e)/\aB K H a xs) (o:∀e H,Pv xs.length e H->Q H)
  (q:∀i e H x,xs[i]?=some x->i<xs.length->Pv i e H->g x (du k fi σ) H fun σ2 r=>tc σ2 r fun b j =>
   if b=true then te σ2 j fun v m=>m l=some (.lst e)/\e.length<am/\∃f,f<xs.length-i/\Wc xs.length Pv (i+1) f (e++[v]) (upd m l (.lst (e++[v])))else ∃f,f<xs.length-i/\Wc xs.length Pv (i+1) f e j) :
  kQ k fi σ (EY K a) g tc te H1 l Q:=by
 refine nF xs.length Pv n (fun i e H hi p=>(h i e H hi p).1) (fun i e H hi p=>⟨xs,xs[i],(h i e H (eX hi) p).2,by simp[hi]⟩) (fun e H p=>⟨⟨xs,(h _ e H (aO _) p).2,aO _⟩,o e H p⟩) fun i e H x s hi p y=>?_;obtain⟨rfl,y⟩:=y;exact q i e _ x (y xs (h i e _ (eX hi) p).2) hi p
theorem r8{lo:Int}{n:Nat}(Pv:Nat->List V->Hp->Prop)(j:Pv 0 [] (upd H1 l (.lst [])))
  (m:∀i a H,i<=n->Pv i a H->H l=some (.lst a)) (o:∀a H,Pv n a H->Q H)
  (q:∀i a H,i<n->Pv i a H->g (.int (lo+i)) (du k fi σ) H fun σ2 r=>tc σ2 r fun b f =>
   if b=true then te σ2 f fun v h=>h l=some (.lst a)/\a.length<am/\∃e,e<n-i/\Wc n Pv (i+1) e (a++[v]) (upd h l (.lst (a++[v])))else ∃e,e<n-i/\Wc n Pv (i+1) e a f) :
  kQ k fi σ (FZ lo n) g tc te H1 l Q:=by
 refine nF n Pv j m (fun i a H hi p=>hi) (fun a H p=>⟨aO _,o a H p⟩) fun i a H x s hi p y=>?_;obtain⟨rfl,rfl⟩:=y;exact q i a _ hi p
theorem CU{x:Str}(Pv:Nat->List V->Hp->Prop)(j:Pv 0 [] (upd H1 l (.lst [])))
  (m:∀i a H,i<=x.cps.size->Pv i a H->H l=some (.lst a)) (n:∀a H,Pv x.cps.size a H->Q H)
  (o:∀i a H c,x.cps[i]?=some c->i<x.cps.size->Pv i a H->g (.str ⟨#[c]⟩) (du k fi σ) H fun σ2 q=>tc σ2 q fun b f =>
   if b=true then te σ2 f fun v h=>h l=some (.lst a)/\a.length<am/\∃e,e<x.cps.size-i/\Wc x.cps.size Pv (i+1) e (a++[v]) (upd h l (.lst (a++[v])))else ∃e,e<x.cps.size-i/\Wc x.cps.size Pv (i+1) e a f) :
  kQ k fi σ (Ha x) g tc te H1 l Q:=by
 refine nF x.cps.size Pv j m (fun i a H hi p=>hi) (fun a H p=>⟨aO _,n a H p⟩) fun i a H y t hi p r=>?_;obtain⟨rfl,c,s,rfl⟩:=r;exact o i a _ c s hi p
end
theorem gN{j:Nat}{x:V}{σ:St}{H:Hp}{Q:St->Hp->Prop}(h:Q (σ.set j (some x)) H):dj j x σ H Q:=h
theorem xK{σ:St}{H:Hp}{A B:Hp->Prop}(h:A H):ln σ H (fun b a=>if b=true then A a else B a):=by
 show(if(true:Bool)=true then A H else B H)
 exact h
inductive G_{T0 T1:Type}(P:T0->T1->Prop):Prop
 |mk (x0:T0) (x1:T1):P x0 x1->G_ P
inductive G9{T0 T1 T2:Type}(P:T0->T1->T2->Prop):Prop
 |mk (x0:T0) (x1:T1) (x2:T2):P x0 x1 x2->G9 P
inductive NE4{T0 T1 T2 T3:Type}(P:T0->T1->T2->T3->Prop):Prop
 |mk (x0:T0) (x1:T1) (x2:T2) (x3:T3):P x0 x1 x2 x3->NE4 P
inductive NA4(p0 p1 p2 p3:Prop):Prop
 |mk:p0->p1->p2->p3->NA4 p0 p1 p2 p3
inductive NA5(p0 p1 p2 p3 p4:Prop):Prop
 |mk:p0->p1->p2->p3->p4->NA5 p0 p1 p2 p3 p4
inductive NA6(p0 p1 p2 p3 p4 p5:Prop):Prop
 |mk:p0->p1->p2->p3->p4->p5->NA6 p0 p1 p2 p3 p4 p5
end L2
end

section
set_option Elab.async false
set_option linter.all false
set_option maxRecDepth 100000
namespace L2
open PySem PySem.Spec PyProof.Rows
theorem Obj.mapF{o:Obj}{a:Array Value}(e:o.data=.fields a)(f:Array Value->Array Value):o.mapFields f={ o with data:=.fields (f a) }:=by
 obtain⟨c,d,g,h⟩:=o;cases e
 rfl
structure C3(fs:Ze)(e:Addr)(T:Option Addr)(h h':Heap):Prop where
 keep:∀b o,h.get? b=some o->b≠e->some b≠T->b∉fs->h'.get? b=some o
 slot:∀b o,h.get? b=some o->b≠e->some b≠T->b∈fs->∃sl,h'.get? b=some { o with slots:=sl }
 there:∀b o,h.get? b=some o->∃o',h'.get? b=some o'
def Trc(n:Nat)(h:Heap)(e:Addr)(vs:Array Value)(T:Option Addr):Prop :=
 (vs[1]?=some .none/\T=none)∨∃t oT ts,T=some t/\vs[1]?=some (.ref t)/\n<=t/\t≠e/\h.get? t=some oT/\oT.data=.fields ts/\ts[3]?=some .none
section
variable{M:Model}{A:Around}{E:Zc}{s:Shared}{base:Heap}{env:Env}{outer:List Env}{L e:Addr}{oe:Obj}{vs:Array Value}{Q:Unit->Shared->Prop}
theorem zI{g:Value}{i:Bool}(B:A.frames=some (env::outer))(G:s.heap.FunFrames base (env::outer))(hf:env.frame=some L)
  (H:s.heap.get? e=some oe) (v:oe.data=.fields vs) (l:1<vs.size)
  (h:∀y r I J,C3 (lJ (env::outer)) e none s.heap y->y.get? e=some { oe with data:=.fields r }->r[1]?=some (.ref s.heap.objs.size) ->
   y.get? s.heap.objs.size=some I->I.data=.fields J->J[3]?=some .none->Q () { s with heap:=y }) :
  wpAny M A (do let fr <- frameOf env;let n <- entryPlaceOf L i;let nw <- ud g fr .none (rawInt L) .none n;uc (.ref e) 1 nw) (fun _ s'=>wpAny M A (js (.ref e) none) Q E s') E s:=by
 have C:e∉lJ (env::outer):=fun z=>by
  obtain⟨_,o,p,q2⟩:=G.mem z;rw[H]at p;cases p;exact q2 vs v
 refine aj (wpAny_frameOf_fun B G hf fun a t=>aj (wpAny_entryPlaceOf fun n u=>?_));unfold ud newFields;refine aj (kg ?_ (u.sizeOk5 _ _ _ _ _));generalize N:({ cls:=.type "traceback",dict:=none,data:=.fields ([g,.ref L,.none,rawInt L,.none]++(if n.isEmpty then kq 6 Value.none else n)).toArray }:Obj)=j
 have D:j.data=.fields ([g,.ref L,.none,rawInt L,.none]++(if n.isEmpty then kq 6 Value.none else n)).toArray:=by rw[<-N]
 have fN:j.isFreed=false:=by rw[<-N];rfl
 have O:a.get? e=some oe:=(t.2.1 e C).trans H;have T:=aV (h:=a) j O;have U:a.objs.size=s.heap.objs.size:=t.1;refine gE T v l ?_;have ne:a.objs.size≠e:=d9 (aE O);have Y:=ff v (·.setIfInBounds 1 (Value.ref a.objs.size));have e3:=fK (ca (·.setIfInBounds 1 (Value.ref a.objs.size))) T (ju Y);have t3:((a.push j).update e (ca (·.setIfInBounds 1 (Value.ref a.objs.size)))).get? a.objs.size=some j:=(eI (a.push j) _ (cy ne)).trans (cN a fN);unfold js;refine aj (bP e3 Y (x:=.ref a.objs.size) (by simp[l]) ?_);rw[if_pos (show(Value.ref a.objs.size != Value.none)=true from by simp)];refine gE t3 D (by simp only[bE,aY,d7,qK]<;>omega) ?_;have t4:=fK (ca (·.setIfInBounds 3 ((none:Option Addr).elim Value.none fun f=>rawInt f))) t3 (ju (ff D _));have m:∀b o,b≠e->a.get? b=some o->(((a.push j).update e (ca (·.setIfInBounds 1 (Value.ref a.objs.size)))).update a.objs.size (ca (·.setIfInBounds 3 ((none:Option Addr).elim Value.none fun f=>rawInt f)))).get? b=some o:=fun b o k q=>by
  rw[eI _ _ (d9 (aE q)),eI _ _ (cy k)];exact aV _ q
 have e4:(((a.push j).update e (ca (·.setIfInBounds 1 (Value.ref a.objs.size)))).update a.objs.size (ca (·.setIfInBounds 3 ((none:Option Addr).elim Value.none fun f=>rawInt f)))).get? e=some { oe with data:=.fields (vs.setIfInBounds 1 (Value.ref a.objs.size)) }:=by
  rw[eI _ _ ne,e3,Obj.mapF v]
 refine h _ _ _ _ ⟨fun b o q k _ nf=>m b o k ((t.2.1 b nf).trans q),fun b o q k _ nf=>?_,fun b o q=>?_⟩ e4 ?_ (by rw[<-U];exact t4) (ff D _) ?_
 ·obtain⟨sl,p⟩:=t.2.2 b o q;exact⟨sl,m b _ k p⟩
 ·by_cases k:b=e
  ·rw[k];exact⟨_,e4⟩
  ·obtain⟨sl,p⟩:=t.2.2 b o q;exact⟨_,m b _ k p⟩
 ·rw[<-U];simp[l]
 ·first|(simp;done)|(rcases u with rfl|⟨_,_,_,_,_,_,_,rfl⟩<;>simp)
theorem Fa{n:Nat}{T:Option Addr}(l:A.frames=some (env::outer))(D:s.heap.FunFrames base (env::outer))(hf:env.frame=some L)
  (v:s.heap.get? e=some oe) (x:oe.data=.fields vs) (ht:Trc n s.heap e vs T)
  (h:∀k i G m,C3 (lJ (env::outer)) e T s.heap k->k.get? e=some { oe with data:=.fields i }->i[1]?=some (.ref s.heap.objs.size) ->
   k.get? s.heap.objs.size=some G->G.data=.fields m->m[3]?=some .none->Q () { s with heap:=k }):wpAny M A (jv (.ref e) env) (fun _ s'=>wpAny M A (js (.ref e) none) Q E s') E s:=by
 unfold jv;simp only[hf];rcases ht with⟨p,rfl⟩|⟨t,G,m,rfl,p,_,H,r,a,Y⟩
 ·refine aj (bP v x p ?_);rw[if_neg (by decide)];exact zI l D hf v x (d_.mp p).1 h
 ·refine aj (bP v x p ?_);rw[if_pos (show(Value.ref t != Value.none)=true from by simp)];refine aj (bP r a Y ?_);rw[if_neg (show ¬((Value.none==rawInt L)=true)from by simp[rawInt])];refine aj (gE r a (d_.mp Y).1 ?_);have f:∀b,b≠t->(s.heap.update t (ca (·.setIfInBounds 3 Value.none))).get? b=s.heap.get? b:=fun b g=>eI _ _ (cy g);have tt:=fK (ca (·.setIfInBounds 3 Value.none)) r (ju (ff a _));have ab:t∉lJ (env::outer):=fun z=>by
   obtain⟨_,o,y,B⟩:=D.mem z;rw[r]at y;cases y;exact B m a
  have u:∀b o,s.heap.get? b=some o->(∀ws,o.data≠.fields ws)->b≠t:=fun b o g j q=>by
   rw[q,r]at g;cases g;exact j m a
  have sz:(s.heap.update t (ca (·.setIfInBounds 3 Value.none))).objs.size=s.heap.objs.size:=Heap.size_after_update ..;refine zI (s:={ s with heap:=s.heap.update t (ca (·.setIfInBounds 3 Value.none)) }) l (D.of_keeps fun b o g j=>⟨o,(f b (u b o g j)).trans g,rfl⟩) hf ((f e (cy H)).trans v) x (d_.mp p).1 ?_;intro k i I J C y B q3 q4 q5;rw[sz]at B q3;refine h k i I J ⟨fun b o q N O U=>C.keep b o ((f b fun z=>O (by rw[z])).trans q) N (by simp) U,fun b o q N O U=>C.slot b o ((f b fun z=>O (by rw[z])).trans q) N (by simp) U,fun b o q=>?_⟩ y B q3 q4 q5;by_cases g:b=t
  ·rw[g];exact C.there t _ tt
  ·exact C.there b o ((f b g).trans q)
end
def gK(a C:Addr)(od:Option Addr):Heap->Prop:=fun h=>∃vs,h.get? a=some { cls:=.ref C,dict:=od,data:=.fields vs }/\1<vs.size
def cu(a C:Addr)(od:Option Addr):Heap->Prop:=fun h=>∃vs,h.get? a=some { cls:=.ref C,dict:=od,data:=.fields vs }/\vs[1]?=some .none
theorem oS{P:bg}{w:World}{K:Za}{H:Hp}{h:Heap}{a C:Addr}{g:Option Addr}{f:Array Value}(e:h.get? a=some { cls:=.ref C,dict:=g,data:=.fields f })(z:1<f.size):b_ P w K H h a (.ext (gK a C g)) :=
 ⟨⟨f,e,z⟩,⟨_,e⟩,fun _ _ ⟨i,q,y⟩ k=>⟨i,k _ q,y⟩⟩
theorem oU{P:bg}{w:World}{K:Za}{H:Hp}{h:Heap}{a C:Addr}{g:Option Addr}{f:Array Value}(e:h.get? a=some { cls:=.ref C,dict:=g,data:=.fields f })(z:f[1]?=some .none):b_ P w K H h a (.ext (cu a C g)) :=
 ⟨⟨f,e,z⟩,⟨_,e⟩,fun _ _ ⟨i,q,y⟩ k=>⟨i,k _ q,y⟩⟩
structure gQ(n:Nat)(h:Heap)(H:Hp)(a C:Addr)(od:Option Addr):Prop where
 trk:H a=some (.ext (gK a C od))
 new:n<=a
 tr:∃vs T,h.get? a=some { cls:=.ref C,dict:=od,data:=.fields vs }/\1<vs.size/\Trc n h a vs T/\∀t,T=some t->H t=none
theorem gQ.mono{n g:Nat}{h:Heap}{H:Hp}{a C:Addr}{i:Option Addr}(x:gQ n h H a C i)(l:g<=n):gQ g h H a C i :=
 ⟨x.trk,bp l x.new,let⟨j,T,e,z,k,f⟩:=x.tr;⟨j,T,e,z,by
  rcases k with q|⟨t,m,o,p,r,s,u⟩
  ·exact .inl q
  ·exact .inr ⟨t,m,o,p,r,bp l s,u⟩,f⟩⟩
theorem wX{P:bg}{w:World}{K:Za}{H:Hp}{h f:Heap}{fs:Ze}{a C:Addr}{j T:Option Addr}{e:Array Value}(ok:j3 P w K H h)(k:H a=some (.ext (gK a C j)))(n:∀t,T=some t->H t=none)(i:∀b∈fs,H b=none)
  (p:C3 fs a T h f) (s:f.get? a=some { cls:=.ref C,dict:=j,data:=.fields e }) (z:1<e.size):j3 P w K H f:=fun b u q=>by
 by_cases l:b=a
 ·subst l;rw[k]at q;cases q;exact oS s z
 ·have m:∀c o v,H c=some v->c≠a->h.get? c=some o->f.get? c=some o:=fun c o v hc x g =>
   p.keep c o g x (fun z=>by rw[n c z.symm]at hc;cases hc) fun z=>by rw[i c z]at hc;cases hc
  refine(ok b u q).stay (fun c o hc g=>?_) (fun _ r=>r) fun _ _ r=>r;rcases hc with rfl|hc
  ·exact m c o u q l g
  ·exact m c o _ hc (fun z=>by rw[z,k]at hc;cases hc) g
structure jZ(X:Cx)(J3:Zd)(n:Nat):Prop where
 s0:X.s₀.heap.objs.size<=n
 loc:X.env.locals<n
 cell:∀x c,X.env.cells.lookup x=some c->c<n
 pin:∀p∈X.pn++J3,p.1<n
theorem Inv.young{X:Cx}{a:Zd}{σ:St}{H:Hp}{s:Shared}(I:Inv X a σ H s):jZ X a s.heap.objs.size :=
 ⟨I.sz,I.lt,fun x c e=>let⟨_,_,q,_⟩:=I.cell x c e;aE q,fun p f=>aE (I.pin p f).1⟩
section
variable{X:Cx}{J3:Zd}{σ:St}{H:Hp}{s:Shared}{n:Nat}{a C:Addr}{od:Option Addr}
theorem Db{M:Model}{Q:Unit->Shared->Prop}{E:Zc}(I:Inv X J3 σ H s)(y:jZ X J3 n)(st:X.stack=X.env::X.outer)(O:X.env.frame=some X.env.locals)(j:gQ n s.heap H a C od)
  (h:∀u,Inv X J3 σ H u->gQ n u.heap H a C od->Q () u):wpAny M X.A (jv (.ref a) X.env) (fun _ u=>wpAny M X.A (js (.ref a) none) Q E u) E s:=by
 obtain⟨vs,T,e,z,tr,fT⟩:=j.tr;have v:=I.stack;rw[st]at v;refine Fa (n:=n) (base:=X.base) (by rw[I.ok.frames,st]) v O e rfl tr fun h' B oT ts k q1 q2 q3 q4 q5=>?_;have z':1<B.size:=(d_.mp q2).1;have D:∀b∈lJ (X.env::X.outer),H b=none:=fun b f=>I.stkFree b (by rw[st];exact f);have Y:=wX I.hok j.trk fT D k q1 z';have nT:∀t,T=some t->n<=t:=fun t r=>by
  rcases tr with⟨_,q⟩|⟨t',_,_,q,_,l,_⟩
  ·rw[q]at r;cases r
  ·rw[q]at r;cases r;exact l
 have ab:∀b,b≠X.env.locals->b∉X.fs->b∉lJ (X.env::X.outer):=fun b h1 h2 f=>by
  unfold lJ at f;rw[jY,O]at f;exact(bY.mp f).elim h1 h2
 have i:∀b,H b=none->b≠a:=fun b f q=>by rw[q,j.trk]at f;cases f
 obtain⟨m0,⟨oL,aq,as,G,rL⟩,_⟩:=id I.loc;have J:X.env.locals∈lJ (X.env::X.outer):=by unfold lJ;rw[jY,O];exact eQ
 have ak:some X.env.locals≠T:=fun q=>absurd (nT _ q.symm) (fe y.loc);obtain⟨aC,al⟩:=k.slot _ oL G (i _ I.free) ak J;refine h _ (I.step (g':=s.gens) (d':=s.drawn) (t':=s.toks) (ch:=T.toList) (fun b f=>?_) (fun b o hL hf hc g L=>?_) (fun b o hL hf hc g L=>?_) (fun b o _ _ L=>L) (fun b o _ g=>k.there b o g)
  (fun _ _ g=>g) (fun b xs o e g=>k.keep b o g (fun q=>by rw[q,j.trk]at e;cases e) (fun q=>by rw[fT b q.symm]at e;cases e) (fun z=>by rw[D b z]at e;cases e)) (fun _ _ _ g=>g) (fun b ps g=>⟨#[],by rw[g];simp⟩) (fun m hm=>?_) Y I.bare) ⟨j.trk,j.new,B,some s.heap.objs.size,q1,z',.inr ⟨_,oT,ts,rfl,q2,?_,?_,q3,q4,q5⟩,fun t r=>?_⟩
 ·have hT:T=some b:=by cases T with
   |none=>simp at f
   |some t=>simp at f;rw[f]
  have U:=nT b hT;exact⟨.inr (bp y.s0 U),fun q=>absurd U (fe (q▸y.loc)),fun x c g q=>absurd U (fe (q▸y.cell x c g)),fun p hp q=>absurd U (fe (q▸y.pin p hp))⟩
 ·exact k.keep b o g (i b L) (fun q=>hc (by rw[<-q];simp)) (ab b hL hf)
 ·refine k.slot b o g (i b L) (fun q=>hc (by rw[<-q];simp)) ?_;unfold lJ;rw[jY,O];exact dD _ hf
 ·obtain⟨o',an,ap,N,r'⟩:=hm;rw[G]at N;cases N;exact⟨_,an,ap,al,r'⟩
 ·exact bp (bp j.new (eX (aE e))) (aO _)
 ·exact d9 (aE e)
 ·cases r;exact I.hok.fresh (aO _)
theorem Fb{M:Model}{Q:Unit->Shared->Prop}{E:Zc}(I:Inv X J3 σ H s)(y:jZ X J3 n)(st:X.stack=X.env::X.outer)(f:X.env.frame=some X.env.locals)(g:gQ n s.heap H a C od)
  (h:∀e,Inv X J3 σ H e->gQ n e.heap H a C od->Q () e):wpAny M X.A (leaving X.env (.ref a)) Q E s:=by
 unfold leaving;exact aj (Db I y st f g h)
def AA(P:bg)(w:World)(K:Za):Bx:=fun outer H s E e s'=>∃a C od H',e=.ref a/\s'.os=s.os/\lF s'.gens/\Un (lJ outer) [] H H' s.heap s'.heap/\j3 P w K H' s'.heap/\gQ s.heap.objs.size s'.heap H' a C od/\E (.ref C) (some a) H'
def Lv(X:Cx)(E:XK):Prop:=∀(J3:Zd) (σ:St) (H:Hp) (s:Shared) (n:Nat) (a C:Addr) (od:Option Addr),Inv X J3 σ H s->jZ X J3 n->gQ n s.heap H a C od->E (.ref C) (some a) H->X.xe (.ref a) s
theorem Lv.passes{E:XK}(l:Lv X E):i9 (AA X.prog X.w X.K) X E:=fun J3 σ H s e h I ⟨a,C,od,i,j,os,f,un,g,k,q⟩=>by
 subst j;have m:=I.call' (s':=h) (ch:=[]) os un g f (fun b z=>absurd z (by simp));exact l J3 σ i h _ a C od m I.young k q
theorem rJ{P:bg}{w:World}{K:Za}{i:Str->Option Value}{base:Heap}{N:Zb}{g:Str}{scope:Scope}{f:Addr}{cd:Value}{A:Around}{outer:List Env}{s:Shared}{H:Hp}{E:XK}:
  Lv (rZ (AA P w K) P w K i base N g scope f cd A outer s H E) E:=fun J3 σ j m n a C od I y k q=>by
 show wpAny _ _ _ _ _ _;refine Fb I y rfl rfl k fun l e h=>⟨a,C,od,j,rfl,e.os,e.bare,e.base,e.hok,h.mono y.s0,q⟩
end
abbrev jC:List Value:=[.type "ValueError",.type "Exception",.type "BaseException",.type "object"]
inductive ei:List Value->Prop
 |base:ei jC
 |own {a:Addr}{r:Zf}:ei r->ei (.ref a::r)
theorem ei.has{l:Zf}(x:ei l){n:String}{b:Bool}(e:jC.contains (.type n)=b):l.contains (.type n)=b:=by
 induction x with
 |base=>exact e
 |own _ a=>rw[i6,a];rfl
section
variable{prog:bg}{w:World}{A:Around}{E:Zc}{h:Heap}{g:Array GenState}{d:Drawn}{t:Nat}{os:OsState}
variable{nm q:Str}{C N:Addr}{bs bm:Zf}{hdct:Bool}{sn:Zb}{sub:Zf}{ab:Bool}{col:Option Bool}{dd:Option Addr}{k0 k1 k2 k3 k5:Option Value}
theorem Df{M:Model}(e:ei bm){f:Zf}{Q:Unit->Shared->Prop}(a:h.get? C=some (gD nm q C N bs bm hdct sn sub ab col dd k0 k1 k2 k3 k5 "ValueError.__new__"))
  (i:Q () ⟨h,g,d,t,os⟩):wpAny M A (ub "ValueError.__new__" ⟨.ref C::f,[]⟩) Q E ⟨h,g,d,t,os⟩:=by
 have G:=PySem.F.excBase_ValueError;have j:(Value.ref C::bm).contains (.type "ValueError")=true:=by rw[i6,e.has (b:=true) (by decide +kernel)];rfl
 have k:=G.noStar;simp only[ub,G.newKind,G.newSplit,G.newRow]
 repeat (first|refine jr a ?_|(refine qy a ?_;rw[j])|refine wpAny_staticBase_exc a ?_|refine wpAny_madeBy_exc a ?_|simp only[bne_self_eq_false,pj,if_false] | wp_step)
 exact i
theorem Gh{R:Result->Shared->Prop}(a:ei bm){e:Zf}(f:h.get? C=some (gD nm q C N bs bm hdct sn sub ab col dd k0 k1 k2 k3 k5 "ValueError.__new__"))(m:e.length<=am)
  (i:R (.ok (.ret (.ref (h.objs.size+1)))) ⟨(h.push { cls:=.type "tuple",data:=.seq e.toArray }).push { cls:=.ref C,data:=.fields #[.ref h.objs.size,.none,.none,.none,.bool false,.none] },g,d,t,os⟩) :
  zzl83 (model prog w) A (.builtin "ValueError.__new__" ⟨.ref C::e,[]⟩) R ⟨h,g,d,t,os⟩:=by
 have G:=PySem.F.excBase_ValueError;have n:=G.ends;have j:(Value.ref C::bm).contains (.type "ValueError")=true:=by rw[i6,a.has (b:=true) (by decide +kernel)];rfl
 have k:(Value.ref C::bm).contains (.type "AttributeError")=false:=by rw[i6,a.has (b:=false) (by decide +kernel)];rfl
 have l:(Value.ref C::bm).contains (.type "NameError")=false:=by rw[i6,a.has (b:=false) (by decide +kernel)];rfl
 refine codeAny_builtinAt G.entry ?_;unfold bQ.«BaseException.__new__»;refine PySem.wpAt_bind ?_;show PySem.wpAt _ _ _ (stack >>= _) _ _ _;refine PySem.wpAt_bind (PySem.wpAt_stack fun p below=>PySem.wpAt_of_wpAny ?_)
 wp_walk
 refine PySem.wpAt_of_wpAny ?_;rw[G.owner]
 repeat (first|with_reducible refine wpAny_madeHere_exc G.canon f ?_|with_reducible refine jr f ?_|(with_reducible refine qy f ?_;first|rw[j] | rw[k] | rw[l])|wp_step)
 show R _ _;rw[j7];exact i
theorem C9(m:ei bm){a:Zf}{j:Addr}{n:Obj}{Q:Fin->Shared->Prop}(f:h.get? C=some (gD nm q C N bs bm hdct sn sub ab col dd k0 k1 k2 k3 k5 "ValueError.__new__"))
  (hi:PySem.W.Looks (model prog w) h (nX (.ref C) "__init__") (some (.ref j))) (k:h.get? j=some n) (l:n.cls=.type "function") (u:a.length<=am)
  (v:∀i,(∀b o,h.get? b=some o->i.get? b=some o)->i.objs.size=h.objs.size+2->i.get? (h.objs.size+1)=some { cls:=.ref C,data:=.fields #[.ref h.objs.size,.none,.none,.none,.bool false,.none] } ->
   wpAny (model prog w) A (call (.ref j) (.ref (h.objs.size+1)::a)) (fun r p=>r=.none/\Q (.done (.ret (.ref (h.objs.size+1)))) p) E ⟨i,g,d,t,os⟩) :
  wpAny (model prog w) A (bQ.«type.__call__» ⟨.ref C::a,[]⟩) Q E ⟨h,g,d,t,os⟩:=by
 repeat (first|with_reducible refine jr f ?_|with_reducible refine wpAny_madeBy_exc f ?_|wp_step)
 refine codeAny_call_builtin_code (Code.quiet_builtin _ PySem.F.excBase_ValueError.quiet) (Df m f (Gh m f u ?_));show wpAny _ _ _ _ _ _;have kp:∀b o,h.get? b=some o->((h.push { cls:=.type "tuple",data:=.seq a.toArray }).push { cls:=.ref C,data:=.fields #[.ref h.objs.size,.none,.none,.none,.bool false,.none] }).get? b=some o :=
  fun b o e=>aV _ (aV _ e)
 have y:=kp _ _ f;have s:((h.push { cls:=.type "tuple",data:=.seq a.toArray }).push { cls:=.ref C,data:=.fields #[.ref h.objs.size,.none,.none,.none,.bool false,.none] }).get? (h.objs.size+1)
  =some { cls:=.ref C,data:=.fields #[.ref h.objs.size,.none,.none,.none,.bool false,.none] }:=by heap_get
 have z:(Value.ref C::bm).contains (.ref C)=true:=by simp
 unfold vY
 repeat (first|with_reducible refine jr s ?_|(with_reducible refine qy y ?_;rw[z])|wp_step)
 show wpAny _ _ (nX (.ref C) _) _ _ _;refine hi _ _ _ _ kp ?_;refine kb (aj ?_);unfold bindSpecial;refine aj (wpAny_typeOf (T:="function") ⟨_,kp _ _ k,l⟩ ?_);rw[if_pos (by decide)];refine aD (aj (cR (v _ kp (by rw[j7,j7]) s) (fun r p B=>?_) fun _ _ x=>x));obtain⟨rfl,D⟩:=B
 wp_walk
 exact D
theorem Fc(m:ei bm){e:Zf}{i:Addr}{l:Obj}{Q:Zc}(f:h.get? C=some (gD nm q C N bs bm hdct sn sub ab col dd k0 k1 k2 k3 k5 "ValueError.__new__"))
  (hi:PySem.W.Looks (model prog w) h (nX (.ref C) "__init__") (some (.ref i))) (j:h.get? i=some l) (k:l.cls=.type "function") (n:e.length<=am)
  (p:∀a,(∀b o,h.get? b=some o->a.get? b=some o)->a.objs.size=h.objs.size+2->a.get? (h.objs.size+1)=some { cls:=.ref C,data:=.fields #[.ref h.objs.size,.none,.none,.none,.bool false,.none] } ->
   wpAny (model prog w) (A.under (.builtin "type.__call__" ⟨.ref C::e,[]⟩)) (call (.ref i) (.ref (h.objs.size+1)::e)) (fun r s=>r=.none/\Q (.ref (h.objs.size+1)) s) E ⟨a,g,d,t,os⟩) :
  wpAny (model prog w) A (call (.ref C) e) Q E ⟨h,g,d,t,os⟩:=by
 have u:=tc_lookup;have v:=tc_bind (.ref C);have x:(⟨h,g,d,t,os⟩:Shared).TypeIs (.ref C) "type":=⟨_,f,rfl⟩;refine pb (codeAny_of_tree ?_);show wpAny _ _ (callAny (.ref C) _) _ _ _
 repeat (any_goals (first|assumption|with_reducible refine jr f ?_|wp_step))
 exact⟨rfl,codeAny_call_builtin_at (Code.quiet_builtin _ (by decide +kernel)) entry_typeCall (wpAny_check_type_call_sub f (C9 m f hi j k n fun a a1 a2 a3=>p a a1 a2 a3))⟩
end
structure jQ(K:Za)(C:Addr):Prop where
 obj:∃nm q N bs bm sn sub ab col dd k0 k1 k2 k3 k5,K.lookup C=some (gD nm q C N bs bm true sn sub ab col dd k0 k1 k2 k3 k5 "ValueError.__new__")/\ei bm
 sa:bC K (.ref C) "__setattr__"=some (some (.builtin "object.__setattr__"))
 ga:bC K (.ref C) "__getattribute__"=some (some (.builtin "BaseException.__getattribute__"))
 gx:bC K (.ref C) "__getattr__"=some none
theorem jQ.cd{K:Za}{C:Addr}(c:jQ K C):∃cd,PySem.W.clsIn K C=some cd/\ei cd.mro/\cd.hasDict=true:=by
 obtain⟨f,q,N,bs,g,h,sub,i,a,j,k,l,m,n,o,e,v⟩:=c.obj;exact⟨_,by unfold PySem.W.clsIn;rw[e],.own v,rfl⟩
theorem ei.ne{l:Zf}(x:ei l):l.isEmpty=false:=by cases x<;>rfl
theorem wv(self:Value){l:Zf}(x:ei l):refuseLoop self "__setattr__" l=pure ():=by
 induction x with
 |base=>exact PySem.F.store_ValueError.passes self
 |own _ a=>rw[refuseLoop_ref];exact a
section
variable{prog:bg}{w:World}{A:Around}{E:Zc}{s:Shared}{K:Za}{x C:Addr}{od:Option Addr}{vs:Array Value}{name:Str}{v:Value}
open PySem.W
theorem Em{M:Model}{h:Heap}{cd:ClassData}(X:K.In h)(e:clsIn K C=some cd)(a:ei cd.mro){n:String}(f:jC.contains (.type n)=true):Looks M h (isSubtype (.ref C) (.type n)) true :=
 looks_mroIn X (by unfold mroIn;rw[e,Option.bind_some,if_neg (by rw[a.ne];decide),a.has f])
theorem E_{M:Model}{h:Heap}(hx:h.get? x=some { cls:=.ref C,dict:=od,data:=.fields vs }):Looks M h (typeOf (.ref x)) (.ref C):=(Looks.ld hx).andThen .now
theorem Dg{f:Zf}{Q:Zc}(X:K.In s.heap)(c:jQ K C)(hx:s.heap.get? x=some { cls:=.ref C,dict:=od,data:=.fields vs })(T:f.length<=am)(u:0<vs.size)
  (h:∀l,(∀b o,b≠x->s.heap.get? b=some o->l.get? b=some o)->l.get? x=some { cls:=.ref C,dict:=od,data:=.fields (vs.setIfInBounds 0 (.ref s.heap.objs.size)) }->Q .none { s with heap:=l }) :
  wpAny (model prog w) A (call (.builtin "ValueError.__init__") (.ref x::f)) Q E s:=by
 obtain⟨U,q,N,bs,B,Y,sub,ab,D,dd,k0,k1,k2,k3,k5,e,H⟩:=c.obj;have G:=PySem.F.excBase_ValueError;have m:=X _ _ e;have I:(Value.ref C::B).contains (.type "ValueError")=true:=by rw[i6,H.has (b:=true) (by decide +kernel)];rfl
 have c2:=G.noStar;obtain⟨i,g,d,t,os⟩:=s;dsimp only at hx m;refine pb (codeAny_call_builtin G.init.plain G.initEntry ?_);have J:∀(p:Unit->Shared->Prop),p () ⟨i,g,d,t,os⟩->wpAny (model prog w) A.in1 (ub "ValueError.__init__" ⟨.ref x::f,[]⟩) p (fun e z=>match (Except.error e:Result)with | .ok (.ret v)=>Q v z | .ok _=>False | .error e=>E e z) ⟨i,g,d,t,os⟩:=fun p L=>by
  simp only[ub,G.initKind,G.initSplit,G.initRow]
  repeat (first|with_reducible refine jr hx ?_|with_reducible refine jr m ?_|(with_reducible refine qy m ?_;rw[I])|wp_step)
  refine qF ?_;rw[show ∀(a b:String) (n:Nat),Bind.check ⟨.positional,"*","ValueError",.self,[⟨"args",.varPos,false⟩]⟩ a b n (List.map (fun y=>y.fst) ({ pos:=Value.ref x::f }:Args).kw)=pure ()from fun a b n=>check_star_args _ _ _ _ _ _];exact aD L
 refine J _ ?_;unfold bQ.«BaseException.__init__»;have j:(i.push { cls:=.type "tuple",data:=.seq f.toArray }).get? x=some { cls:=.ref C,dict:=od,data:=.fields vs }:=aV _ hx;obtain⟨r,M⟩:∃r,vs[0]?=some r:=⟨vs[0],by simp[u]⟩
 wp_walk
 rw[M];have k:Q .none ⟨(i.push { cls:=.type "tuple",data:=.seq f.toArray }).update x (ca (·.setIfInBounds 0 (.ref i.objs.size))),g,d,t,os⟩:=by
  refine h _ (fun b o O e=>?_) ?_
  ·rw[eI _ _ (cy O)];exact aV _ e
  ·rw[fK _ j rfl];rfl
 refine aD (aj (gE j rfl u ?_));cases r<;>first|exact ul (aD k)|exact aD (aD k)
theorem BC{h:Heap}{e:Addr}{a:Obj}(hx:h.get? x=some { cls:=.ref C,dict:=some e,data:=.fields vs })(f:h.get? e=some a):InstAt h x { cls:=.ref C,dict:=some e,data:=.fields vs } C (some a):=⟨hx,rfl,rfl,f⟩
theorem Dd{h:Heap}(hx:h.get? x=some { cls:=.ref C,dict:=none,data:=.fields vs }):InstAt h x { cls:=.ref C,dict:=none,data:=.fields vs } C none:=⟨hx,rfl,rfl,ej⟩
theorem Gg{R:Result->Shared->Prop}{o:Obj}{od:Option Obj}{tk:Tok}(X:K.In s.heap)(c:jQ K C)(I:InstAt s.heap x o C od)(p:takerIn K C name=some none)
  (h:∀b,wpAny (model prog w) A.in1 (bQ.ObjectAttr.storeInOwnDict (.ref x) (.ref C) (.str name tk) name v b) (fun k j=>match k with | .done f=>R (.ok f) j | .again l=>l.quiet=true/\zzl83 (model prog w) A l R j) (fun e j=>R (.error e) j) s) :
  zzl83 (model prog w) A (.call (.builtin "object.__setattr__") ⟨[.ref x,.str name tk,v],[]⟩) R s:=by
 have i:=PySem.F.store_object;obtain⟨cd,m,n,_⟩:=c.cd;have sub:Looks (model prog w) s.heap (vY (.ref x) (.type "object")) true:=I.type.andThen (Em X m n (by decide +kernel));refine codeAny_call_builtin i.slot.plain i.entry (@check_slot (model prog w) _ _ s "object.__setattr__" "object" "__setattr__" (.ref x) [.str name tk,v] [] _ i.kind i.split sub (i.args (.ref x) (.str name tk) v) ?_);obtain⟨g,q,r⟩:=Option.bind_eq_some_iff.mp p;have t:Looks (model prog w) s.heap (mroOf (.ref C)) cd.mro:=(looks_clsIn X m).andThen .now;have u:Looks (model prog w) s.heap (bQ.ObjectAttr.storeTaker? g) none:=by
  cases g with
  |none=>exact .now
  |some a =>
   obtain⟨b,y,e⟩:=Option.map_eq_some_iff.mp r;refine(looks_takesIn X y).andThen ?_;cases b with
   |true=>cases e
   |false=>exact .now
 rw[osa_eq,refuse_eq];refine aj (aj (I.type.here (aj (t.here ?_))));rw[wv _ n];refine aD (aj (I.type.here (aj ((looks_findIn X q).here (aj (u.here ?_))))));exact h _
theorem AD{Q:Unit->Shared->Prop}(X:K.In s.heap)(c:jQ K C)(hx:s.heap.get? x=some { cls:=.ref C,dict:=none,data:=.fields vs })(p:takerIn K C name=some none)
  (h:∀f tk,(∀b o,b≠x->s.heap.get? b=some o->f.get? b=some o)->f.get? x=some { cls:=.ref C,dict:=some s.heap.objs.size,data:=.fields vs } ->
   f.Ns1 s.heap.objs.size (fun y=>if y=name then some v else none)->Q () { s with heap:=f,toks:=tk }) :
  wpAny (model prog w) A (setAttr (.ref x) name v) Q E s:=by
 obtain⟨cd,q,_,r⟩:=c.cd;have I:=Dd hx;refine set_plain X I c.sa (Gg (s:={ s with toks:=s.toks+1 }) X c I p fun b=>?_);obtain⟨a,g,d,t,os⟩:=s;dsimp only at hx I X;have i:(a.push { cls:=.type "dict",data:=.dict #[] }).get? x=some { cls:=.ref C,dict:=none,data:=.fields vs }:=aV _ hx;have xs:x≠a.objs.size:=bO (aE hx);refine aj (aD (aj (aj (wpAny_loadPart hx (aj ((looks_clsIn X q).here ?_))))));rw[r];refine aj (wpAny_alloc' (aj (wpAny_update' i ?_)));refine aD ?_;have u:((a.push { cls:=.type "dict",data:=.dict #[] }).update x fun o=>{ o with dict:=some a.objs.size }).get? a.objs.size=some { cls:=.type "dict",data:=.dict #[] } :=
  (eI _ _ xs).trans (Heap.get?_push_at rfl rfl)
 have z:((a.push { cls:=.type "dict",data:=.dict #[] }).update x fun o=>{ o with dict:=some a.objs.size }).Ns a.objs.size (fun _=>none):=⟨_,#[],_,u,rfl,fun e B=>absurd B (by simp),fun _=>rfl⟩;show wpAny _ _ (ua a.objs.size (.str name _) name v) _ _ _;unfold ua bQ.ObjectAttr.newKeyGuard;refine aj (aD (aj (wpAny_nsSet1 (Heap.Ns1.of_empty z) fun f j n=>?_)));obtain⟨J,D,G,k,l,m⟩:=j.count (Within.cons name v Within.nil);refine aj (wpAny_lookBehind k (by rw[l];exact pastItsLine_dict (bp m (by rw[d7,qK,sW];omega))) ?_);refine aD (h f _ (fun b o H e=>?_) ?_ j)
 ·exact(n.2 b (bO (aE e))).trans ((eI _ _ (cy H)).trans (aV _ e))
 ·exact(n.2 x xs).trans (fK _ i rfl)
theorem AC{Q:Unit->Shared->Prop}{f:Addr}{k:Str->Option Value}{q:Zb}(X:K.In s.heap)(c:jQ K C)(hx:s.heap.get? x=some { cls:=.ref C,dict:=some f,data:=.fields vs })(l:s.heap.Ns1 f k)
  (r:Within k q) (N:q.length<am) (u:takerIn K C name=some none)
  (h:∀i tk,(∀b o,b≠f->s.heap.get? b=some o->i.get? b=some o)->i.Ns1 f (fun y=>if y=name then some v else k y)->Q () { s with heap:=i,toks:=tk }) :
  wpAny (model prog w) A (setAttr (.ref x) name v) Q E s:=by
 obtain⟨cd,z,_,B⟩:=c.cd;obtain⟨D,G,_⟩:=oK l;have I:=BC hx G;refine set_plain X I c.sa (Gg (s:={ s with toks:=s.toks+1 }) X c I u fun b=>?_);obtain⟨O,g,d,t,os⟩:=s;dsimp only at hx I X l;refine aj (aD (aj (aj (wpAny_loadPart hx (aj ((looks_clsIn X z).here ?_))))));rw[B];refine aD (a:=some f) ?_;show wpAny _ _ (ua f (.str name _) name v) _ _ _;unfold ua bQ.ObjectAttr.newKeyGuard;refine aj (aD (aj (wpAny_nsSet1 l fun i j H=>?_)));obtain⟨T,J,L,m,n,p⟩:=j.count (Within.cons name v r);refine aj (wpAny_lookBehind m (by rw[n];exact pastItsLine_dict (bp p (by rw[d7];omega))) ?_);exact aD (h i _ (fun b o M e=>(H.2 b M).trans e) j)
theorem xget{Q:Zc}{j:Addr}{k:Str->Option Value}{a:Bool}(X:K.In s.heap)(c:jQ K C)(hx:s.heap.get? x=some { cls:=.ref C,dict:=some j,data:=.fields vs })(n:s.heap.Ns1 j k)
  (o:findIn K (.ref C) name=some none) (p:k name=some v) (q:handedIn v=true) (h:Q v { s with toks:=s.toks+1 }):wpAny (model prog w) A (vV (.ref x) name a) Q E s:=by
 obtain⟨cd,l,e,r⟩:=c.cd;obtain⟨f,u,y⟩:=oK n;have I:=BC hx u;have G:=PySem.F.attrBase_ValueError;obtain⟨m,g,d,t,os⟩:=s;dsimp only at hx I X;have i:=I.type (M:=model prog w);have z:=looks_findIn (M:=model prog w) X c.ga;have L2:=looks_findIn (M:=model prog w) X c.gx;have hf:findObj K C (some f) name=some (.value v):=findObj_own (by unfold hasDictIn;rw[l];exact r) o rfl (by rw[y,p]);have B:=looks_find (M:=model prog w) X I hf;have sub:Looks (model prog w) m (vY (.ref x) (.type "BaseException")) true:=i.andThen (Em X l e (by decide +kernel));unfold vV getAttrBy;refine aj (wpAny_mkText (kb (aj (i.at (aj (z.at ?_))))));have ne:(onTheHeap (Value.ref C) && xI "BaseException.__getattribute__"==xI "object.__getattribute__")=false:=by
  rw[show(xI "BaseException.__getattribute__"==xI "object.__getattribute__")=false from by decide +kernel,uj]
 dsimp only;rw[ne,if_neg (by decide)];have D:Looks (model prog w) m (hookBefore (.ref C)) none:=L2;refine aj (D.at (aj (qE (kb ?_))));unfold callGetattribute;rw[show(a && onTheHeap (xI "BaseException.__getattribute__"))=false from uj _,if_neg (by decide)];unfold boundAndCalled;rw[G.ga.bind];refine aj (aD ?_);show wpAny _ _ (call (.builtin "BaseException.__getattribute__") [.ref x,.str name _]) _ _ _;refine pb (codeAny_call_builtin G.ga.plain PySem.F.entry_bexc_ga ?_);refine @check_slot (model prog w) _ _ _ "BaseException.__getattribute__" "BaseException" "__getattribute__" (.ref x) [.str name _] [] _ (by decide +kernel) (by decide +kernel) sub (PySem.F.args_bexc_ga _ _) ?_;unfold bQ.«object.__getattribute__»;refine aj (aD (aj (aD (aj (i.at (aj (B.at ?_)))))));refine aD ?_;show wpAny _ _ (handedOut v) _ _ _;rw[handedOut_of q];exact aD h
end
theorem upd_id{H:Hp}{a:Addr}{o:HO}(e:H a=some o):upd H a o=H:=by
 funext b;unfold upd;split
 ·rename_i q;rw[q,e]
 ·rfl
def iC(d:Addr)(fs:List (Str×V)):Heap->Prop:=fun h=>∃mA,h.Ns1 d mA/\∀f,iE (fs.lookup f) (mA f)
theorem vZ{P:bg}{w:World}{K:Za}{H:Hp}{h:Heap}{d:Addr}{fs:List (Str×V)}{a:Str->Option Value}(n:h.Ns1 d a)(r:∀f,iE (fs.lookup f) (a f)):b_ P w K H h d (.ext (iC d fs)):=by
 refine⟨⟨a,n,r⟩,?_,fun j l ⟨m,⟨o,g,i,e,q⟩,z⟩ k=>⟨m,⟨o,g,i,k _ e,q⟩,z⟩⟩;obtain⟨o,g,i,e,_⟩:=n;exact⟨o,e⟩
structure EW(K:Za)(T:Addr):Prop where
 rd:PySem.W.readsIn K T (.type "type")=true
 fi:PySem.W.findCls K (.ref T) (.type "type") "__init__"=some (.val (.builtin "ValueError.__init__"))
 ga:zj K (.ref T) "__getattribute__"=some (some (.builtin "type.__getattribute__"))
section
variable{X:Cx}{J3:Zd}{σ:St}{H:Hp}{s:Shared}{a C:Addr}{od:Option Addr}
theorem Inv.exc(I:Inv X J3 σ H s)(e:H a=some (.ext (gK a C od))):∃f,s.heap.get? a=some { cls:=.ref C,dict:=od,data:=.fields f }/\1<f.size:=(I.hok a _ e).1
theorem Inv.excN(I:Inv X J3 σ H s)(e:H a=some (.ext (cu a C od))):∃f,s.heap.get? a=some { cls:=.ref C,dict:=od,data:=.fields f }/\f[1]?=some .none:=(I.hok a _ e).1
def yg(K:Za)(t:TA):TE:=fun σ H Q=>t σ H fun vs H1=>∃a C od us,vs=.ref a::us/\H1 a=some (.ext (cu a C od))/\jQ K C/\us.length<=am/\Q .non H1
theorem wN{T:Addr}{x:Str}{p k i:Pos}{e:Expr}{es:List Expr}{t:TA}{pl:Sem Bool}(B:EW X.K T)(J:Gl X x)(L:X.mg x=some (.ref T))(M:PA X (e::es) t)(l:(x==("__debug__":Str))=false:=by decide)
  (m:au (e::es) X.env=(false,eval e X.env)::au es X.env:=by rfl) (n:(backTo i (au es X.env)).any (·.1)=false:=by rfl)
  (N:eval (.Call (.Attribute (.Name x p) "__init__" k) (e::es) [] i) X.env=(do
   let E <- eval (.Name x p) X.env
   mH k.atName
   let(f,first) <- jW [E] (mE E "__init__" pl)
   lU i f first (backTo i (au (e::es) X.env)) (jA i (jz [] X.env))):=by rfl) :
  PE X (.Call (.Attribute (.Name x p) "__init__" k) (e::es) [] i) (yg X.K t):=by
 intro J3 s σ H Q I h;refine PySem.W.methodCall_KW (pl:=pl) (gh I J L ?_ l) N;refine PySem.W.method_cls I.kIn B.ga (PySem.W.cls_value I.kIn B.rd B.fi rfl ?_);refine callWith_builtin1 (cb (M i J3 _ σ H _ (I.tok _) h) fun us O v=>?_) m n;obtain⟨vs,U,y,r,a,C,od,Y,ev,D,c,hz,q⟩:=v;subst ev;cases r with
 |cons ra rr =>
  obtain rfl:=(show _=Value.ref a from ra);obtain⟨ws,ew,j⟩:=y.excN D;have h0:0<ws.size:=e_ Nat.zero_lt_one (eX (d_.mp j).1);refine Dg y.kIn c ew (by rw[<-rr.length];exact hz) h0 fun h' kp G=>⟨.non,U,?_,rfl,q⟩;have z:=y.write (x:=a) (e:=a) (o:=.ext (cu a C od)) (h':=h') (t':=O.toks) (by rw[D];exact ej) (.inl rfl) (fun b u nb g=>kp b u nb g) ⟨_,G⟩ (oU G (by rw[Array.getElem?_setIfInBounds_ne (by decide)];exact j));rw[upd_id D]at z;exact z
def zS(K:Za)(ta tv:TE)(f:Str):TS:=fun D σ H=>tv σ H fun y H1=>ta σ H1 fun x H2=>∃a C,x=.ref a/\jQ K C/\cG K C f /\
  ((H2 a=some (.ext (cu a C none))/\∀d,H2 d=none->d≠a->D.nx σ (upd (upd H2 d (.ext (iC d [(f,y)]))) a (.ext (cu a C (some d))))) ∨
   (∃d fs,H2 a=some (.ext (cu a C (some d)))/\H2 d=some (.ext (iC d fs))/\fs.length<1000/\D.nx σ (upd H2 d (.ext (iC d (cD f y fs))))))
theorem u6{o value:Expr}{f:Str}{L B:Pos}{Y tv:TE}(ha:PE X o Y)(hv:PE X value tv)(hs:lE value (some (.Attribute o f B)) L.line X.env=pure false):PS X (.Assign [.Attribute o f B] value L) (zS X.K Y tv f):=by
 intro J3 s σ H D I h;refine plainObj_wpAny_Assign_Attribute (cb (hv J3 s σ H _ I h) fun u s1 ⟨y,H1,I1,ry,q⟩=>cb (ha J3 s1 σ H1 _ I1 q) fun ov j Q=>?_) hs;obtain⟨x,m,p,rx,a,C,ex,c,n,M⟩:=Q;subst ex;obtain rfl:ov=Value.ref a:=rx;rcases M with⟨e,M⟩|⟨d,fs,e,ed,hl,M⟩
 ·obtain⟨vs,g,g1⟩:=p.excN e;refine AD p.kIn c g n.taker fun h' tk kp gx O=>?_;have nd:j.heap.objs.size≠a:=d9 (aE g);have hn:m j.heap.objs.size=none:=p.hok.fresh (aO _);have other:∀b u,m b=some u->(∀φ,u≠.ext φ)->b≠a:=fun b u z nz i=>nz _ (by rw[i,e]at z;exact(dE z).symm);have E:∀b,b≠a->b≠j.heap.objs.size->upd (upd m j.heap.objs.size (.ext (iC j.heap.objs.size [(f,y)]))) a (.ext (cu a C (some j.heap.objs.size))) b=m b:=fun b h1 h2=>by rw[ai h1,ai h2]
  have N:∀b u,m b=some u->b≠j.heap.objs.size:=fun b u z i=>by rw[i,hn]at z;cases z
  have un:Un X.fs [] m (upd (upd m j.heap.objs.size (.ext (iC j.heap.objs.size [(f,y)]))) a (.ext (cu a C (some j.heap.objs.size)))) j.heap h':=by
   have T:∀b,m b=none->b≠a:=fun b z i=>by rw[i,e]at z;cases z
   refine⟨fun b o z J _ _=>kp b o (T b J) z,fun b o z J _ _=>⟨o.slots,kp b o (T b J) z⟩,fun b o z J _=>by rw[E b (T b J) (bO (aE z))];exact J,fun b o z _=>?_,
    fun b xs z=>by rw[E b (other b _ z (by intro φ i;cases i)) (N b _ z)];exact z,fun b xs o z y=>kp b o (other b _ z (by intro φ i;cases i)) y,fun b ob u z=>by rw[E b (other b _ z (by intro φ i;cases i)) (N b _ z)];exact z,
    fun b ps z=>⟨#[],by rw[E b (other b _ z (by intro φ i;cases i)) (N b _ z),z];simp⟩⟩
   by_cases G:b=a
   ·rw[G];exact⟨_,gx⟩
   ·exact⟨o,kp b o G z⟩
  have ok:j3 X.prog X.w X.K (upd (upd m j.heap.objs.size (.ext (iC j.heap.objs.size [(f,y)]))) a (.ext (cu a C (some j.heap.objs.size)))) h':=fun b u z=>by
   by_cases G:b=a
   ·subst G;rw[aa]at z;cases z;exact oU gx g1
   ·by_cases hd:b=j.heap.objs.size
    ·subst hd;rw[ai G,aa]at z;cases z;refine vZ O fun k=>?_;show iE (iO k [(f,y)]) _;by_cases q:k=f
     ·rw[q,if_pos rfl];simp[iO];exact ry
     ·rw[if_neg q];have:(k==f)=false:=beq_eq_false_iff_ne.mpr q;simp only[iO,this];exact ej
    ·rw[E b G hd]at z;refine(p.hok b u z).stay (fun l v hc t=>kp l v ?_ t) (fun l t=>by rw[E l (other l _ t (by intro φ i;cases i)) (N l _ t)];exact t) fun l xs t=>by rw[E l (other l _ t (by intro φ i;cases i)) (N l _ t)];exact t
     rcases hc with rfl|hc
     ·exact G
     ·exact other l _ hc (by intro φ i;cases i)
  exact⟨σ,_,p.un (t':=tk) un ok,M _ hn nd⟩
 ·obtain⟨vs,g,g1⟩:=p.excN e;obtain⟨mA,nA,rA⟩:=(p.hok d _ ed).1;have wi:vX mA (fs.map (·.1)):=fun k hg=>by
   have r:=rA k;cases q:fs.lookup k with
   |none=>rw[q]at r;exact absurd (iE.none_of r) hg
   |some y'=>exact bh.mpr ⟨(k,y'),nZ q,rfl⟩
  refine AC p.kIn c g nA wi (by rw[ao,sW];omega) n.taker fun h' tk kp O=>?_;have U:∃o,h'.get? d=some o:=let⟨o,_,_,e',_⟩:=O;⟨o,e'⟩;refine⟨σ,_,p.write (x:=d) (e:=d) (h':=h') (t':=tk) (by rw[ed];exact ej) (.inl rfl) (fun b u nb z=>kp b u nb z) U (vZ O fun k=>?_),M⟩;rw[dP];by_cases q:k=f
  ·rw[if_pos q,if_pos q];exact ry
  ·rw[if_neg q,if_neg q];exact rA k
def zM(K:Za)(ta:TE)(f:Str):TE:=fun σ H Q=>ta σ H fun x H1=>∃a C d fs v,x=.ref a/\H1 a=some (.ext (gK a C (some d)))/\H1 d=some (.ext (iC d fs))/\jQ K C/\cG K C f/\fs.lookup f=some v/\Q v H1
theorem u8{e:Expr}{f:Str}{j:Pos}{m:TE}(r:PE X e m)(t:sV e f X.env (eval e X.env)=eval e X.env):PE X (.Attribute e f j) (zM X.K m f):=by
 intro J3 s σ H Q I h;refine At t (cb (r J3 s σ H _ I h) fun u M k=>?_);obtain⟨x,y,i,z,a,C,d,fs,v,ex,B,D,c,n,l,q⟩:=k;subst ex;obtain rfl:u=Value.ref a:=z;obtain⟨N,g,_⟩:=i.exc B;obtain⟨E,G,J⟩:=(i.hok d _ D).1;obtain⟨O,L,p⟩:=iE.some_of (v:=v) (o:=E f) (by rw[<-l];exact J f);exact xget i.kIn c g G n L (tN p) ⟨v,y,i.tok _,p,q⟩
end
section
variable{M:Model}{A:Around}{E:Zc}{s:Shared}{env:Env}{nm q:Str}{C N a:Addr}{bs bm:Zf}{hdct:Bool}{sn:Zb}{sub:Zf}{ab:Bool}{col:Option Bool}{dd od:Option Addr}{k0 k1 k2 k3 k5:Option Value}{newId:String}{vs:Array Value}
theorem zH{x:Sem Value}{Q:Flow->Shared->Prop}(j:ei bm)(k:A.handled=none)
  (h:wpAny M A x (fun v e=>∃a od vs,v=.ref a/\e.heap.get? C=some (gD nm q C N bs bm hdct sn sub ab col dd k0 k1 k2 k3 k5 newId)/\e.heap.get? a=some { cls:=.ref C,dict:=od,data:=.fields vs }/\vs[1]?=some .none/\E (.ref a) e) E s) :
  wpAny M A (raiseStmt env (some x) none) Q E s:=by
 have l:(Value.ref C::bm).contains (.type "BaseException")=true:=by rw[i6,j.has (b:=true) (by decide +kernel)];rfl
 unfold raiseStmt;refine aj (cR h (fun v e m=>?_) fun _ _ y=>y);obtain⟨a,od,vs,rfl,f,i,n,o⟩:=m;obtain⟨p,g,d,tk,os⟩:=e
 repeat (first|with_reducible refine bP i rfl n ?_|with_reducible refine jr i ?_|with_reducible refine jr f ?_|(with_reducible refine qy f ?_;rw[l])|wp_step)
 exact wpAny_raiseNew_none k o
end
section
variable{X:Cx}{J3:Zd}{σ:St}{H:Hp}{s:Shared}{C f:Addr}{k:Nat}{fd:hZ}{ps:Zb}{sp:Sp}
theorem tD{i:Zf}{n:List V}{J:Hp->Prop}(c:jQ X.K C)(hi:bC X.K (.ref C) "__init__"=some (some (.ref f)))(hf:mF X.K (.ref f)=true)
  (F:gJ X.prog X.w X.K X.mg X.base CX0 k f fd ps sp) (Q:cx (k+1) X.A) (T:Binds X.K fd ps []) (I:Inv X J3 σ H s) (r:aP n i) (U:i.length<=am)
  (h:sp (.ref (s.heap.objs.size+1)::n) (upd H (s.heap.objs.size+1) (.ext (cu (s.heap.objs.size+1) C none))) (fun v m=>v=.non/\J m) E0) {E:Zc} :
  wpAny (model X.prog X.w) X.A (call (.ref C) i) (fun u L=>u=.ref (s.heap.objs.size+1)/\∃m,Inv X J3 σ m L/\J m) E s:=by
 obtain⟨nm,q,N,bs,bm,sn,sub,ab,Y,dd,k0,k1,k2,k3,k5,e,hv⟩:=c.obj;have p:=I.kIn;obtain⟨x,y,B⟩:∃x,X.K.lookup f=some x/\x.cls=.type "function":=by
  obtain⟨o,ho,e⟩:=Option.map_eq_some_iff.mp (beq_iff_eq.mp hf);exact⟨o,ho,e⟩
 obtain⟨j,g,d,t,os⟩:=s;refine Fc (q:=q) (h:=j) hv (p _ _ e) (PySem.W.looks_findIn p hi) (p _ _ y) B U fun h' kp z gx=>?_;dsimp only at h I;have D:=I.laid (a:=j.objs.size+1) (o:=.ext (cu (j.objs.size+1) C none)) (h':=h') (t':=t) kp (jy _) (oU gx rfl);have M:aP (V.ref (j.objs.size+1)::n) (Value.ref (j.objs.size+1)::i):=.cons rfl r;have hl:((Value.ref (j.objs.size+1)::i)++[]).length=ps.length:=by rw[cO,<-M.length];exact F.len _ _ _ _ h
 have O:=T _ (Value.ref (j.objs.size+1)::i) D.kIn hl;rw[cO]at O;refine pb (qi (F.run _ X.stack _ _ ⟨Value.ref (j.objs.size+1)::i,[]⟩ (Value.ref (j.objs.size+1)::i) _ _ E0 (Q.make C i []) (D.env0.make C i []) O M h) fun G L l=>?_);cases G with
 |error e=>exact l.elim
 |ok fl =>
  cases fl with
  |ret u =>
   obtain⟨v,H',I3,rv,ev,q3⟩:=D.after l;subst ev;exact⟨rv,rfl,H',I3,q3⟩
  |next=>exact cg l
  |brk=>exact cg l
  |cont=>exact cg l
def x9(C:Addr)(sp:Sp)(E:XK)(t:TA):TS:=fun _ σ H=>t σ H fun vs H1=>vs.length<=am/\∀a,H1 a=none ->
 sp (.ref a::vs) (upd H1 a (.ext (cu a C none))) (fun v H2=>v=.non/\∃od,H2 a=some (.ext (cu a C od))/\E (.ref C) (some a) (upd H2 a (.ext (gK a C od)))) E0
theorem Ca{E:XK}{x:Str}{np B G:Pos}{e:Expr}{es:List Expr}{t:TA}(l:Lv X E)(c:jQ X.K C)(hi:bC X.K (.ref C) "__init__"=some (some (.ref f)))(hf:mF X.K (.ref f)=true)(kp:dB X.K (.ref C)=true)
  (F:gJ X.prog X.w X.K X.mg X.base CX0 k f fd ps sp) (hr:cx (k+1) X.A) (hb:Binds X.K fd ps []) (hc:X.calm=true) (hg:Gl X x) (hm:X.mg x=some (.ref C)) (ha:PA X (e::es) t) (J:(x==("__debug__":Str))=false:=by decide)
  (he:au (e::es) X.env=(false,eval e X.env)::au es X.env:=by rfl) (L:(backTo B (au es X.env)).any (·.1)=false:=by rfl) :
  PS X (.Raise (some (.Call (.Name x np) (e::es) [] B)) none G) (x9 C sp E t):=by
 intro J3 s σ H D I h;obtain⟨nm,q,N,bs,bm,sn,sub,ab,col,dd,k0,k1,k2,k3,k5,eC,hv⟩:=c.obj;rw[arm_exec_Raise];simp only[evalOpt,Option.map];refine aj (qj (zH (C:=C) (nm:=nm) (q:=q) (N:=N) (bs:=bs) (bm:=bm) (hdct:=true) (sn:=sn) (sub:=sub) (ab:=ab) (col:=col) (dd:=dd) (k0:=k0) (k1:=k1) (k2:=k2) (k3:=k3) (k5:=k5) (newId:="ValueError.__new__") hv (I.ok.hd hc) ?_));refine aj (cR (Q:=fun v i=>∃a m M,v=.ref a/\i.heap.get? C=some (gD nm q C N bs bm true sn sub ab col dd k0 k1 k2 k3 k5 "ValueError.__new__")/\i.heap.get? a=some { cls:=.ref C,dict:=m,data:=.fields M }/\M[1]?=some .none/\X.xe (.ref a) i) ?_ (fun v s3 h3=>aj (qj (aD h3))) fun _ _ y=>y);refine mC (gh I hg hm ?_ J);refine lV (h₀:=X.base) I.ok.mod.kin kp (cb (ha B J3 s σ H _ I h) fun us i ⟨M,H1,n,r,hz,q1⟩=>⟨n.kIn,?_⟩) he L;refine cb (tD c hi hf F hr hb n r (by rw[<-r.length];exact hz) (q1 (i.heap.objs.size+1) (n.hok.fresh (jy _)))) fun u O T=>?_;obtain⟨eu,H2,U,m,e2,q2⟩:=T;obtain⟨Y,p,j⟩:=U.excN e2;refine⟨i.heap.objs.size+1,m,Y,eu,U.kIn _ _ eC,p,j,?_⟩;have w1:1<Y.size:=(d_.mp j).1;have I3:=U.write (x:=i.heap.objs.size+1) (e:=i.heap.objs.size+1) (o:=.ext (gK (i.heap.objs.size+1) C m)) (h':=O.heap) (t':=O.toks) (by rw[e2];exact ej) (.inl rfl) (fun b u _ g=>g) ⟨_,p⟩ (oS p w1);exact l J3 σ _ O i.heap.objs.size _ C m I3 n.young ⟨aa,jy _,Y,none,p,w1,.inl ⟨j,rfl⟩,fun t z=>by cases z⟩ q2
end
abbrev Cx.hnd(X:Cx)(v:Value):Cx:={ X with A:=X.A.mark (some v),calm:=false,xe:=fun _ _=>False }
section
variable{X:Cx}{J3:Zd}{σ:St}{H:Hp}{s:Shared}{n:Nat}{a C:Addr}{od:Option Addr}{v:Value}
theorem Inv.hnd(I:Inv X J3 σ H s)(v:Value):Inv (X.hnd v) J3 σ H s :=
 ⟨⟨I.ok.mod,I.ok.kind,I.ok.glob,I.ok.blt,I.ok.above,I.ok.inj,I.ok.has,I.ok.cab,(fun z=>nomatch z),I.ok.frames,I.ok.stk,I.ok.exf,I.ok.bs,I.ok.bsz,I.ok.noex,I.ok.exfs,I.ok.funs,I.ok.frf⟩,I.os,I.bare,I.base,I.loc,I.cell,I.free,I.freeC,I.pin,I.hok,I.len⟩
theorem Inv.unhnd(e:Inv (X.hnd v) J3 σ H s)(ok:X.Ok):Inv X J3 σ H s:=⟨ok,e.os,e.bare,e.base,e.loc,e.cell,e.free,e.freeC,e.pin,e.hok,e.len⟩
theorem C_{M:Model}{A:Around}{Q:Unit->Shared->Prop}{E:Zc}(I:Inv X J3 σ H s)(y:jZ X J3 n)(l:gQ n s.heap H a C od)(h:∀r,Inv X J3 σ H r->gQ n r.heap H a C od->Q () r):
  wpAny M A (js (.ref a) none) Q E s:=by
 obtain⟨J,T,e,z,L,B⟩:=l.tr;unfold js;rcases L with⟨m,rfl⟩|⟨t,U,Y,rfl,m,j,k,D,i,G⟩
 ·refine aj (bP e rfl m ?_);rw[if_neg (by decide)];exact aD (h s I l)
 ·refine aj (bP e rfl m ?_);rw[if_pos (show(Value.ref t != Value.none)=true from by simp)];refine gE D i (d_.mp G).1 ?_;have kp:∀b o,b≠t->s.heap.get? b=some o->(s.heap.update t (ca (·.setIfInBounds 3 ((none:Option Addr).elim Value.none fun f=>rawInt f)))).get? b=some o:=fun b o N g=>by
   rw[eI _ _ (cy N)];exact g
  have u:=(d_.mp G).1;refine h _ (I.turned (t':=s.toks) (it:=t) kp (B t rfl) (fun q=>absurd j (fe (q▸y.loc))) (.inr (bp y.s0 j)) (fun x c g q=>absurd j (fe (q▸y.cell x c g))) (fun p O q=>absurd j (fe (q▸y.pin p O))))
   ⟨l.trk,l.new,J,some t,kp a _ (cy k) e,z,.inr ⟨t,_,_,rfl,m,j,k,fK _ D (ju (ff i _)),ff i _,by simp[u]⟩,B⟩
theorem qe{M:Model}{A:Around}{E:Zc}{i:Nat}{x:Str}{t:Pos}{Q:Unit->Shared->Prop}(I:Inv X J3 σ H s)(O:X.N.Nodup)(hi:X.N[i]?=some x)(hx:X.env.scope.names.lookup x=some .local)
  (h:∀G,Inv X J3 (σ.set i none) H G->Q () G):wpAny M A (do bindName X.env x .none;unbindBehindTheSuite X.env x t) Q E s:=by
 obtain⟨m,J,T⟩:=id I.loc;have l:(X.env.scope.kind==.class || (X.env.scope.kind==.module && X.env.locals != X.env.globals))=false:=by rw[I.ok.kind];rfl
 have hiσ:i<σ.length:=by rw[I.len];exact(da.mp hi).1
 have cne:=I.cne;refine wpAny_nameGoes_keeps hx J l fun U v u f=>?_;obtain⟨oL,_,_,Y,_⟩:=id J;have tracked:j3 X.prog X.w X.K H U:=fun b ob e=>by
  refine(I.hok b ob e).stay (fun c L hc q=>(f.2 c ?_).trans q) (fun _ q=>q) fun _ _ q=>q;rintro rfl;rcases hc with rfl|hc
  ·rw[I.free]at e;cases e
  ·rw[I.free]at hc;cases hc
 refine h _ ⟨I.ok,I.os,I.bare,⟨fun b o e n B hx=>?_,fun b o e n B hx=>?_,I.base.free,fun b o e hx=>?_,I.base.tups,fun b xs o e z=>(f.2 b (fun y=>by have:=I.base.tups b xs e;rw[y,I.free]at this;cases this)).trans (I.base.tupk b xs o e z),I.base.frzs,I.base.tbls⟩,⟨_,u,fun j y v' g r e3=>?_⟩,fun y c e=>?_,I.free,I.freeC,fun p hp=>?_,tracked,by simpa using I.len⟩
 ·exact(f.2 b (bO (e_ (aE e) I.ok.above))).trans (I.base.keep b o e n B hx)
 ·obtain⟨sl,g⟩:=I.base.slot b o e n B hx;exact⟨sl,(f.2 b (bO (e_ (aE e) I.ok.above))).trans g⟩
 ·obtain⟨o',g⟩:=I.base.there b o e hx;exact⟨o',(f.2 b (bO (e_ (aE e) I.ok.above))).trans g⟩
 ·by_cases D:j=i
  ·subst D;rw[List.getElem?_set_self hiσ]at r;cases r
  ·rw[zz (cy D)]at r;obtain⟨u',r',q⟩:=T j y v' g r e3;refine⟨u',r',?_⟩;rcases q with⟨k,e⟩|⟨k,c,e,z⟩
   ·refine .inl ⟨k,?_⟩;have:y≠x:=fun e=>D (rD O g (e▸hi));simp[this,e]
   ·exact .inr ⟨k,c,e,z.sameBut f (cne y c e)⟩
 ·obtain⟨L,z⟩:=I.cell y c e;exact⟨L,z.sameBut f (cne y c e)⟩
 ·obtain⟨e,n,ne,nf,d⟩:=I.pin p hp;exact⟨(f.2 p.1 ne).trans e,n,ne,nf,d⟩
def XE(X:Cx)(J3:Zd)(σ:St)(W:XK)(e:Value)(s':Shared):Prop:=∃n a C od H',e=.ref a/\jZ X J3 n/\Inv X J3 σ H' s'/\gQ n s'.heap H' a C od/\W (.ref C) (some a) H'
def XS(X:Cx)(J3:Zd)(W:St->XK)(e:Value)(s':Shared):Prop:=∃n a C od σ' H',e=.ref a/\jZ X J3 n/\Inv X J3 σ' H' s'/\gQ n s'.heap H' a C od/\W σ' (.ref C) (some a) H'
def FY(X:Cx)(e:Expr)(t:XK->TE):Prop:=∀(J3:Zd) (s:Shared) (σ:St) (H:Hp) (Q:VK) (W:XK),Inv X J3 σ H s->t W σ H Q->wpAny (model X.prog X.w) X.A (eval e X.env) (EP X J3 σ Q) (XE X J3 σ W) s
def PH(X:Cx)(hs:List t_)(t:g0->St->XK):Prop:=∀(J3:Zd) (n:Nat) (s:Shared) (σ:St) (H:Hp) (D:g0) (a C:Addr) (od:Option Addr),Inv X J3 σ H s->jZ X J3 n->gQ n s.heap H a C od->t D σ (.ref C) (some a) H ->
 wpAny (model X.prog X.w) X.A (handleBy (.ref a) X.env hs) (SP X J3 D) X.xe s
def Gk(tb:(St->XK)->TS)(th:g0->St->XK):TS:=fun D σ H=>tb (th D) D σ H
def Eo(te:XK->TE)(i:Nat):(St->XK)->TS:=fun W D σ H=>te (W σ) σ H fun v H1=>D.nx (σ.set i (some v)) H1
def BP(te:XK->TE):(St->XK)->TS:=fun W D σ H=>te (W σ) σ H fun _ H1=>D.nx σ H1
def Fg(tc:TT)(ta tb:(St->XK)->TS):(St->XK)->TS:=fun W=>bS tc (ta W) (tb W)
def uK(t:TS):(St->XK)->TS:=fun _=>t
def FX(X:Cx)(b:Stmt)(t:(St->XK)->TS):Prop:=∀(J3:Zd) (s:Shared) (σ:St) (H:Hp) (D:g0) (W:St->XK),Inv X J3 σ H s->t W D σ H->wpAny (model X.prog X.w) X.A (exec b X.env) (SP X J3 D) (XS X J3 W) s
theorem XE.xs{e:Value}{W:St->XK}(h:XE X J3 σ (W σ) e s):XS X J3 W e s:=let⟨n,a,C,od,f,g,y,I,i,q⟩:=h;⟨n,a,C,od,σ,f,g,y,I,i,q⟩
theorem Fs{e:Expr}{j:XK->TE}{x:Str}{i:Nat}{k f:Pos}(l:X.N.Nodup)(hi:X.N[i]?=some x)(hx:Loc X.env.scope x)(m:FY X e j)
  (o:lE e (some (.Name x k)) f.line X.env=pure false:=by rfl) (hf:X.fn x=true∨X.env.scope.names.lookup x=some .local:=by first|exact .inl rfl|exact .inr rfl|assumption) :
  FX X (.Assign [.Name x k] e f) (Eo j i):=by
 intro J3 s σ H D W I h;refine wpAny_Assign_Name (cR (m J3 s σ H _ (W σ) I h) (fun v B g=>?_) fun _ _ z=>z.xs) o;obtain⟨y,p,q,r,t⟩:=g;exact mP q l hi hx r (fun E u=>⟨_,p,u,t⟩) hf
theorem DB{e:Expr}{g:XK->TE}{f:Pos}(i:FY X e g)(j:lE e none f.line X.env=pure false:=by rfl):FX X (.Expr e f) (BP g):=by
 intro J3 s σ H D W I h;exact wpAny_Expr_any (cR (i J3 s σ H _ (W σ) I h) (fun v o ⟨x,k,l,p,m⟩=>⟨σ,k,l,m⟩) fun _ _ z=>z.xs) I.quiet j
section
variable{f:Addr}{k:Nat}{fd:hZ}{ps:Zb}{sp:Sp}{x:Str}{p pos:Pos}{e:Expr}{es:List Expr}{t:TA}
theorem XE.of{W:XK}{j:Value}{l:Hp}{m o:Shared}(r:Inv X J3 σ l m)(h:AA X.prog X.w X.K X.stack l m W j o):XE X J3 σ W j o:=by
 obtain⟨a,C,od,u,y,os,g,un,i,B,q⟩:=h;exact⟨_,a,C,od,u,y,r.young,r.call' (ch:=[]) os un i g (fun b z=>absurd z (by simp)),B,q⟩
theorem Cf(F:gJ X.prog X.w X.K X.mg X.base (AA X.prog X.w X.K) k f fd ps sp)(E:cx k X.A)(G:Gl X x)(J:X.mg x=some (.ref f))(L:dB X.K (.ref f)=true)(M:Binds X.K fd ps [])
  (N:PA X.nox (e::es) t) (m:(x==("__debug__":Str))=false:=by decide) (O:au (e::es) X.env=(false,eval e X.env)::au es X.env:=by rfl) (o:(backTo pos (au es X.env)).any (·.1)=false:=by rfl) :
  FY X (.Call (.Name x p) (e::es) [] pos) (fun W=>pA sp [] W t):=by
 intro J3 s σ H Q W I h;refine mC (gh I G J ?_ m);refine lV (h₀:=X.base) I.ok.mod.kin L (cR (N pos J3 s σ H _ (I.wish _) h) (fun j B ⟨T,U,g,r,q⟩=>⟨g.kIn,?_⟩) fun _ _ z=>cg z) O o;have l:=g.unwish;dsimp only at q;rw[cO]at q;have Y:(j++[]).length=ps.length:=by rw[cO,<-r.length];exact F.len _ _ _ _ q
 have D:=M B j l.kIn Y;rw[cO]at D;refine pb (qi (F.run X.A X.stack B U ⟨j,[]⟩ j T Q W E l.env0 D r q) fun y s' i=>?_);cases y with
 |error ev=>exact XE.of l i
 |ok fl =>
  cases fl with
  |ret u=>exact l.after i
  |next=>exact cg i
  |brk=>exact cg i
  |cont=>exact cg i
theorem Cc{C:Addr}(M:Mk X.K C f)(F:gJ X.prog X.w X.K X.mg X.base (AA X.prog X.w X.K) k f fd ps sp)(N:cx (k+1) X.A)(O:Gl X x)(T:X.mg x=some (.ref C))(U:Binds X.K fd ps [])
  (Y:PA X.nox (e::es) t) (y:(x==("__debug__":Str))=false:=by decide) (he:au (e::es) X.env=(false,eval e X.env)::au es X.env:=by rfl) (B:(backTo pos (au es X.env)).any (·.1)=false:=by rfl) :
  FY X (.Call (.Name x p) (e::es) [] pos) (fun W=>tq C sp [] W t):=by
 intro J3 s σ H Q W I h;refine mC (gh I O T ?_ y);refine lV (h₀:=X.base) I.ok.mod.kin M.kp (cR (Y pos J3 s σ H _ (I.wish _) h) (fun j i ⟨vs,H1,l,r,q⟩=>⟨l.kIn,?_⟩) fun _ _ z=>cg z) he B;have m:=l.unwish;have D:=q (i.heap.objs.size+1) i.heap.objs.size (m.hok.fresh (jy _)) (m.hok.fresh (aO _)) (bO (Nat.lt_succ_self _));rw[cO]at D;have o:=Inv.made (C:=C) m;have G:aP (V.ref (i.heap.objs.size+1)::vs) (Value.ref (i.heap.objs.size+1)::j):=.cons rfl r;have hl:((Value.ref (i.heap.objs.size+1)::j)++[]).length=ps.length:=by rw[cO,<-G.length];exact F.len _ _ _ _ D
 have J:=U _ (Value.ref (i.heap.objs.size+1)::j) o.kIn hl;rw[cO]at J;refine pb (wT (f:=f) m.kIn M.makes M.init (beq_iff_eq.mp M.fn) (qi (F.run _ X.stack _ _ ⟨Value.ref (i.heap.objs.size+1)::j,[]⟩ (Value.ref (i.heap.objs.size+1)::j) _ _ W (N.make C j [])
  (o.env0.make C j []) J G D) fun E s' g=>?_))
 cases E with
 |error L=>exact XE.of o g
 |ok fl =>
  cases fl with
  |ret u =>
   obtain⟨v,H',I3,rv,L,q3⟩:=o.after g;subst L;exact⟨rv,⟨V.ref (i.heap.objs.size+1),H',I3,rfl,q3⟩⟩
  |next=>exact cg g
  |brk=>exact cg g
  |cont=>exact cg g
end
section
variable{cn nme:Str}{Dc:Addr}{np hpos:Pos}{b0:Stmt}{suite:List Stmt}{rest:List t_}{th:TS}{tr:g0->St->XK}{i:Nat}
def Fh(K:Za)(Dc:Addr)(i:Nat)(th:TS)(tr:g0->St->XK):g0->St->XK:=fun D σ cls oa H=>∃C a b,cls=.ref C/\oa=some a/\t9 K (.ref C) (.ref Dc)=some b /\
 if b=true then th { nx:=fun σ' H'=>D.nx (σ'.set i none) H',rt:=D.rt,bk:=fun σ' H'=>D.bk (σ'.set i none) H',ct:=fun σ' H'=>D.ct (σ'.set i none) H' } (σ.set i (some (.ref a))) H else tr D σ cls oa H
def Gm:g0->St->XK:=fun _ _ _ _ _=>False
theorem Fx:PH X [] Gm:=fun _ _ _ _ _ _ _ _ _ _ _ _ h=>h.elim
theorem Ex(l:X.N.Nodup)(hi:X.N[i]?=some nme)(hx:X.env.scope.names.lookup nme=some .local)(B:Gl X cn)(E:X.mg cn=some (.ref Dc))(o:∀a:Addr,vJ (X.hnd (.ref a)) (b0::suite) th)(p:PH X rest tr)
  (r:(cn==("__debug__":Str))=false:=by decide):PH X (.ExceptHandler (some (.Name cn np)) (some nme) (b0::suite) hpos::rest) (Fh X.K Dc i th tr):=by
 intro J3 n s σ H D a C od I y t ⟨Y,a',b,G,J,ex,h⟩;cases G;cases J;obtain⟨vs,g,_⟩:=I.exc t.trk;refine wpAny_handleBy_cons (codeAny_handlers_test ?_) (by intro q;cases q);refine gh (X:=X.hnd (.ref a)) (I.hnd (.ref a)) B E ?_ r;refine(PySem.W.exm_one (M:=model X.prog X.w) I.kIn (E_ g) ex).here ?_;cases b with
 |false=>exact p J3 n s σ H D a C od I y t h
 |true =>
  refine codeAny_handlers_suite_as (C_ I y t fun s1 L O=>?_);refine mP (X:=X) L l hi (.inl hx) (v:=.ref a) (u:=.ref a) rfl (fun Q T=>?_) (.inr hx);refine cR (o a J3 Q _ H _ (T.hnd (.ref a)) h) (fun f s3 m=>?_) fun _ _ z=>cg z;cases f with
  |next=>obtain⟨σ',e,j,q⟩:=m;exact qe (j.unhnd I.ok) l hi hx fun x k=>⟨_,e,k,q⟩
  |brk=>obtain⟨σ',e,j,q⟩:=m;exact qe (j.unhnd I.ok) l hi hx fun x k=>⟨_,e,k,q⟩
  |cont=>obtain⟨σ',e,j,q⟩:=m;exact qe (j.unhnd I.ok) l hi hx fun x k=>⟨_,e,k,q⟩
  |ret u=>obtain⟨v,σ',e,j,U,q⟩:=m;exact qe (j.unhnd I.ok) l hi hx fun x k=>⟨v,_,e,k,U,q⟩
end
end
def yR(sp:Sp)(E:XK):Sp:=fun vs H Q _=>sp vs H Q E
structure zh(P:bg)(w:World)(K:Za)(mg:Str->Option Value)(base:Heap)(x:Str)(ps:Zb)(k:Nat)(sp:Sp):Prop where
 ex:∃f fd,gJ P w K mg base (AA P w K) k f fd ps sp/\mg x=some (.ref f)/\dB K (.ref f)=true/\Binds K fd ps []
structure Ej(P:bg)(w:World)(K:Za)(mg:Str->Option Value)(base:Heap)(x:Str)(C:Addr)(ps:Zb)(k:Nat)(sp:Sp):Prop where
 ex:∃f fd,gJ P w K mg base (AA P w K) k f fd ps sp/\mg x=some (.ref C)/\Mk K C f/\Binds K fd ps []
structure CW(P:bg)(w:World)(K:Za)(mg:Str->Option Value)(base:Heap)(x:Str)(C:Addr)(ps:Zb)(k:Nat)(sp:Sp):Prop where
 ex:∃f fd,gJ P w K mg base CX0 k f fd ps sp/\mg x=some (.ref C)/\jQ K C/\bC K (.ref C) "__init__"=some (some (.ref f))/\mF K (.ref f)=true/\dB K (.ref C)=true/\Binds K fd ps []
section
variable{X:Cx}{k:Nat}{ps:Zb}{sp:Sp}{E:XK}{x:Str}{C:Addr}{p pos np J4:Pos}{e:Expr}{es:List Expr}{t:TA}{st:Stmt}{ts:TS}
theorem PS.nox(h:PS X.nox st ts):PS X st ts:=fun a s σ H D I f=>cR (h a s σ H D (I.wish _) f) (fun _ _ q=>q.unwish) fun _ _ z=>cg z
theorem oE(D:zh X.prog X.w X.K X.mg X.base x ps k sp)(l:Lv X E)(i:cx k X.A)(j:Gl X x)(m:PA X (e::es) t)(a:(x==("__debug__":Str))=false:=by decide)
  (n:au (e::es) X.env=(false,eval e X.env)::au es X.env:=by rfl) (g:(backTo pos (au es X.env)).any (·.1)=false:=by rfl) :
  PE X (.Call (.Name x p) (e::es) [] pos) (aL (yR sp E) t):=by
 obtain⟨f,s,F,o,q,r⟩:=D.ex;have h:PE X (.Call (.Name x p) (e::es) [] pos) (pA sp [] E t):=z6 F i j o q r .nil l.passes m a n g;exact h
theorem Cd(D:zh X.prog X.w X.K X.mg X.base x ps k sp)(h:cx k X.A)(i:Gl X x)(j:PA X.nox (e::es) t)(a:(x==("__debug__":Str))=false:=by decide)
  (l:au (e::es) X.env=(false,eval e X.env)::au es X.env:=by rfl) (g:(backTo pos (au es X.env)).any (·.1)=false:=by rfl) :
  FY X (.Call (.Name x p) (e::es) [] pos) (fun W=>pA sp [] W t):=by
 obtain⟨f,q,F,m,n,o⟩:=D.ex;exact Cf F h i m n o j a l g
theorem DD(D:Ej X.prog X.w X.K X.mg X.base x C ps k sp)(h:cx (k+1) X.A)(i:Gl X x)(j:PA X.nox (e::es) t)(a:(x==("__debug__":Str))=false:=by decide)
  (l:au (e::es) X.env=(false,eval e X.env)::au es X.env:=by rfl) (g:(backTo pos (au es X.env)).any (·.1)=false:=by rfl) :
  FY X (.Call (.Name x p) (e::es) [] pos) (fun W=>tq C sp [] W t):=by
 obtain⟨f,o,F,m,M,n⟩:=D.ex;exact Cc M F h i m n j a l g
theorem A0(D:CW X.prog X.w X.K X.mg X.base x C ps k sp)(l:Lv X E)(h:cx (k+1) X.A)(i:X.calm=true)(j:Gl X x)(m:PA X (e::es) t)(a:(x==("__debug__":Str))=false:=by decide)
  (n:au (e::es) X.env=(false,eval e X.env)::au es X.env:=by rfl) (g:(backTo J4 (au es X.env)).any (·.1)=false:=by rfl) :
  PS X (.Raise (some (.Call (.Name x np) (e::es) [] J4)) none pos) (x9 C sp E t):=by
 obtain⟨f,r,F,o,c,hi,hf,kp,q⟩:=D.ex;exact Ca l c hi hf kp F h q i j o m a n g
end
section
variable{P:bg}{w:World}{K:Za}{mg:Str->Option Value}{base:Heap}
theorem EZ.okX{x a:Str}{st:Stmt}{f:Addr}{n:hZ}{N i:Zb}{k:Nat}{j:Sp}(F:EZ K x a st f n)(S:gj N i (bf st))(len:∀g H Q E,j g H Q E->g.length=i.length)
  (h:∀(e:Value) (A:Around) (outer:List Env) (s:Shared) (H:Hp) (g:List V) (Q:VK) (E:XK),cx k (A.deeper (envOfC a (bf st) s.heap.objs.size f e))->j g H Q E ->
   ∃t,vJ (rZ (AA P w K) P w K mg base N a (bf st) f e A outer s H E) (eD st) t/\t (bF Q) (start N g) H):gJ P w K mg base (AA P w K) (k+1) f n i j:=by
 obtain⟨q,r,kV,doc,u,v,e,y,o,rfl,lk,l⟩:=F.ex;refine EJ lk l S len fun A outer s H g Q E p m=>?_;exact h e A outer s H g Q E p m
end
end L2
namespace L2
open PySem PySem.W
theorem FH{K:Frag}{C D:Addr}{b:Bool}(e:subIn K (.ref D) (.type "BaseException")=some true)(f:isClsIn K D=true)(g:typeIn K (.ref D)=some (.type "type"))(h:subIn K (.ref C) (.ref D)=some b):exmOne K (.ref C) (.ref D)=some b:=by
 have a:(clsIn K D).isSome=true:=f;unfold exmOne;rw[e,if_pos (by decide)];show(if((clsIn K D).isSome && typeIn K (.ref D)==some (.type "type"))=true then subIn K (.ref C) (.ref D)else none)=some b
 rw[if_pos (by rw[a,g];decide)];exact h
section
variable{X:Cx}
def u4:V->List V->Hp->VK->Prop:=fun x vs H Q=>∃(l:Addr) (xs:List V) (i:Nat) (y:V),x=.ref l/\vs=[.int i,y]/\H l=some (.lst xs)/\i<=xs.length/\xs.length<am/\Q .non (upd H l (.lst (xs.take i++y::xs.drop i)))
theorem A4:GO X "list.insert" u4:=by
 intro T s σ H x U v B Q I C D h;obtain⟨l,xs,i,y,rfl,rfl,u,hi,Y,q⟩:=h;cases C;obtain⟨j,f,rfl,k,m⟩:∃j f,B=[j,f]/\RelV (.int (i:Int)) j/\RelV y f:=by
  cases D with
  |cons k E =>
   cases E with
   |cons m o=>cases o;exact⟨_,_,rfl,k,m⟩
 obtain⟨t,rfl⟩:=k;obtain⟨z,a,n,r,G,e⟩:=I.lstM u;have zl:am=16777216:=sW;have g:¬(!Builtin.List.listFitsIndex (i:Int))=true:=by
  have J:-(2 ^ 63:Int)<=(i:Int):=by omega
  have L:(i:Int)<2 ^ 63:=by omega
  unfold bQ.List.listFitsIndex;rw[zzr1 J,zzr1 L]
  decide
 have N:a.toArray.size<=am:=by rw[bE];omega
 generalize p:(i:Int)=O at g;have M:=@PySem.AutoSeq1.list_insert_list_int_val_1 l a.toArray n O t f g N;refine ux F.slot_list_insert ⟨_,e,rfl⟩ F.entry_list_insert (F.args_list_insert_3 _ _ _) M ⟨e,?_⟩;refine⟨.non,_,I.lset (its':=a.take i++f::a.drop i) u e ?_ (aP.append (aP.take i r) (.cons m (aP.drop i r))) ?_,rfl,q⟩
 ·subst p;have li:a.length=xs.length:=G.symm;show(a.toArray.extract 0 (if(i:Int)<0 then((i:Int)+(a.toArray.size:Int)).toNat else min (i:Int).toNat a.toArray.size)).push f++a.toArray.extract (if(i:Int)<0 then((i:Int)+(a.toArray.size:Int)).toNat else min (i:Int).toNat a.toArray.size)=_
  rw[if_neg (by omega),bE,jw,Nat.min_eq_left (by omega)];apply Array.toList_inj.mp;simp[List.extract_eq_drop_take,t8]
 ·rw[aY,d7,aQ,fh];omega
end
section
variable{X:Cx}{k:Nat}{ps:Zb}{sp:Sp}{x:Str}{C:Addr}{p pos:Pos}{e:Expr}{es:List Expr}{t:TA}
theorem Gv:i9 (AA X.prog X.w X.K) X E0:=fun _ _ _ _ _ _ _ ⟨_,_,_,_,_,_,_,_,_,_,q⟩=>q.elim
theorem DF(D:Ej X.prog X.w X.K X.mg X.base x C ps k sp)(h:cx (k+1) X.A)(i:Gl X x)(j:PA X (e::es) t)(a:(x==("__debug__":Str))=false:=by decide)
  (l:au (e::es) X.env=(false,eval e X.env)::au es X.env:=by rfl) (g:(backTo pos (au es X.env)).any (·.1)=false:=by rfl) :
  PE X (.Call (.Name x p) (e::es) [] pos) (tq C sp [] E0 t):=by
 obtain⟨f,o,F,m,M,n⟩:=D.ex;exact DJ M F h i m n .nil Gv j a l g
end
section
variable{X:Cx}{J3:Zd}{σ:St}{H:Hp}{s:Shared}{k:Nat}{f C:Addr}{fd:hZ}{ps:Zb}{sp:Sp}
def kW(C:Addr)(sp:Sp)(t:TA):(St->XK)->TS:=fun W _ σ H=>t σ H fun vs H1=>vs.length<=am/\∀a,H1 a=none ->
 sp (.ref a::vs) (upd H1 a (.ext (cu a C none))) (fun v H2=>v=.non/\∃od,H2 a=some (.ext (cu a C od))/\W σ (.ref C) (some a) (upd H2 a (.ext (gK a C od)))) E0
theorem B9{x:Str}{np p B:Pos}{e:Expr}{es:List Expr}{t:TA}(c:jQ X.K C)(hi:bC X.K (.ref C) "__init__"=some (some (.ref f)))(hf:mF X.K (.ref f)=true)(kp:dB X.K (.ref C)=true)
  (F:gJ X.prog X.w X.K X.mg X.base CX0 k f fd ps sp) (hr:cx (k+1) X.A) (hb:Binds X.K fd ps []) (hc:X.calm=true) (hg:Gl X x) (hm:X.mg x=some (.ref C)) (ha:PA X.nox (e::es) t) (G:(x==("__debug__":Str))=false:=by decide)
  (he:au (e::es) X.env=(false,eval e X.env)::au es X.env:=by rfl) (J:(backTo p (au es X.env)).any (·.1)=false:=by rfl) :
  FX X (.Raise (some (.Call (.Name x np) (e::es) [] p)) none B) (kW C sp t):=by
 intro J3 s σ H D W I h;obtain⟨nm,q,N,bs,bm,sn,sub,Y,col,dd,k0,k1,k2,k3,k5,eC,hv⟩:=c.obj;rw[arm_exec_Raise];simp only[evalOpt,Option.map];refine aj (qj (zH (C:=C) (nm:=nm) (q:=q) (N:=N) (bs:=bs) (bm:=bm) (hdct:=true) (sn:=sn) (sub:=sub) (ab:=Y) (col:=col) (dd:=dd) (k0:=k0) (k1:=k1) (k2:=k2) (k3:=k3) (k5:=k5) (newId:="ValueError.__new__") hv (I.ok.hd hc) ?_));refine aj (cR (Q:=fun v i=>∃a l L,v=.ref a/\i.heap.get? C=some (gD nm q C N bs bm true sn sub Y col dd k0 k1 k2 k3 k5 "ValueError.__new__")/\i.heap.get? a=some { cls:=.ref C,dict:=l,data:=.fields L }/\L[1]?=some .none/\XS X J3 W (.ref a) i) ?_ (fun v s3 h3=>aj (qj (aD h3))) fun _ _ y=>y);refine mC (gh I hg hm ?_ G);refine lV (h₀:=X.base) I.ok.mod.kin kp (cR (ha p J3 s σ H _ (I.wish _) h) (fun us i ⟨L,H1,m,r,hz,q1⟩=>⟨m.kIn,?_⟩) fun _ _ z=>cg z) he J;have M:=m.unwish;refine cR (tD (E:=XS X J3 W) c hi hf F hr hb M r (by rw[<-r.length];exact hz) (q1 (i.heap.objs.size+1) (M.hok.fresh (jy _)))) (fun u s2 O=>?_) fun _ _ z=>z;obtain⟨eu,H2,T,l,e2,q2⟩:=O;obtain⟨U,n,j⟩:=T.excN e2;refine⟨i.heap.objs.size+1,l,U,eu,T.kIn _ _ eC,n,j,?_⟩;have w1:1<U.size:=(d_.mp j).1;have I3:=T.write (x:=i.heap.objs.size+1) (e:=i.heap.objs.size+1) (o:=.ext (gK (i.heap.objs.size+1) C l)) (h':=s2.heap) (t':=s2.toks) (by rw[e2];exact ej) (.inl rfl) (fun b u _ g=>g) ⟨_,n⟩ (oS n w1);exact⟨i.heap.objs.size,_,C,l,σ,_,rfl,M.young,I3,⟨aa,jy _,U,none,n,w1,.inl ⟨j,rfl⟩,fun t z=>by cases z⟩,q2⟩
theorem tG{x:Str}{j i a:Pos}{e:Expr}{es:List Expr}{t:TA}(D:CW X.prog X.w X.K X.mg X.base x C ps k sp)(l:cx (k+1) X.A)(m:X.calm=true)(n:Gl X x)(o:PA X.nox (e::es) t)(g:(x==("__debug__":Str))=false:=by decide)
  (p:au (e::es) X.env=(false,eval e X.env)::au es X.env:=by rfl) (h:(backTo i (au es X.env)).any (·.1)=false:=by rfl) :
  FX X (.Raise (some (.Call (.Name x j) (e::es) [] i)) none a) (kW C sp t):=by
 obtain⟨f,fd,F,q,c,hi,hf,kp,r⟩:=D.ex;exact B9 c hi hf kp F l r m n q o g p h
end
section
variable{X:Cx}
def pq(t u:(St->XK)->TS):(St->XK)->TS:=fun W=>av (t W) (u W)
end
end L2
end

section
set_option Elab.async false
set_option linter.all false
set_option maxRecDepth 100000
namespace L2
open PySem PySem.Spec PyProof.Rows PySem.W
structure XO(K:Frag)(C:Addr)(bm:Zf):Prop where
 ex:∃nm q N bs sn sub ab col dd k0 k1 k2 k3 k5,K.lookup C=some (gD nm q C N bs bm true sn sub ab col dd k0 k1 k2 k3 k5 "ValueError.__new__")
structure XG(K:Frag):Prop where
 hn:specialIn K (.builtin "object.__class__") "__get__"=some (some (.builtin "getset_descriptor.__get__"))
 htk:takesIn K (.builtin "object.__class__")=some true
structure XX(K:Frag)(mg:Str->Option Value)(x:Str)(C Ct:Addr):Prop where
 g:mg x=some (.ref C)
 o:XO K C (.ref Ct::jC)
 sa:findIn K (.ref C) "__setattr__"=some (some (.builtin "object.__setattr__"))
 ga:findIn K (.ref C) "__getattribute__"=some (some (.builtin "BaseException.__getattribute__"))
 gx:findIn K (.ref C) "__getattr__"=some none
 kp:keepIn K (.ref C)=true
 cl:findIn K (.ref C) "__class__"=some (some (.builtin "object.__class__"))
section
variable{K:Frag}{mg:Str->Option Value}{x y:Str}{C D Ct:Addr}{bm:Zf}
theorem XO.cls(h:XO K C bm):∃cd,clsIn K C=some cd/\cd.mro=.ref C::bm:=by
 obtain⟨f,q,N,bs,g,sub,i,a,j,k,l,m,n,o,e⟩:=h.ex;exact⟨_,by unfold clsIn;rw[e],rfl⟩
theorem XO.ty(h:XO K C bm):typeIn K (.ref C)=some (.type "type"):=by
 obtain⟨f,q,N,bs,g,sub,i,a,j,k,l,m,n,o,e⟩:=h.ex;show(K.lookup C).map (·.cls)=_;rw[e];rfl
theorem XO.sub(h:XO K C bm)(v:Value):subIn K (.ref C) v=some ((Value.ref C::bm).contains v):=by
 obtain⟨cd,e,m⟩:=h.cls;unfold subIn mroIn;dsimp only;rw[e];show(if cd.mro.isEmpty then none else some (cd.mro.contains v))=_
 rw[m];rfl
theorem XO.kitC(h:XO K C bm){a:Zf}(g:XO K D a):kitCls K (.ref C) (.ref D)=some ((Value.ref C::bm).contains (.ref D)):=by
 obtain⟨cd,e,m⟩:=g.cls;unfold kitCls;dsimp only;rw[e,g.ty,if_pos (show((some cd).isSome && some (Value.type "type")==some (Value.type "type"))=true by show(some (Value.type "type")==some (Value.type "type"))=true;decide)];exact h.sub _
theorem zT(a b:Addr):((Value.ref a)==(Value.ref b))=decide (b=a):=by
 by_cases e:b=a
 ·subst e;simp
 ·rw[zzr0 e];exact beq_false_of_ne fun z=>e (by injection z with z;exact z.symm)
theorem Fd(a:Addr):jC.contains (Value.ref a)=false:=rfl
theorem XX.cls(h:XX K mg x C Ct):jQ K C:=by
 obtain⟨f,q,N,bs,g,sub,i,a,j,k,l,m,n,p,e⟩:=h.o.ex;exact⟨⟨f,q,N,bs,_,g,sub,i,a,j,k,l,m,n,p,e,.own .base⟩,h.sa,h.ga,h.gx⟩
theorem XO.exm(h:XO K C bm){a:Zf}(g:XO K D a)(b:a.contains (.type "BaseException")=true):exmOne K (.ref C) (.ref D)=some ((Value.ref C::bm).contains (.ref D)):=by
 unfold exmOne;rw[g.sub,i6,b,if_pos (by simp)];exact h.kitC g
theorem XX.exm(h:XX K mg x C Ct)(g:XX K mg y D Ct)(a:D≠Ct):exmOne K (.ref C) (.ref D)=some (decide (D=C)):=by
 have f:((Value.ref D)==(Value.ref Ct))=false:=by rw[zT];exact zzr0 fun z=>a z.symm
 rw[h.o.exm g.o rfl,i6,i6,Fd,f,zT];by_cases e:C=D
 ·subst e;simp
 ·rw[zzr0 e,zzr0 fun z=>e z.symm];rfl
end
theorem m8{X:Cx}{b:Stmt}{t:TS}(h:PS X.nox b t):FX X b (uK t):=fun a s σ H D W I q=>cR (h a s σ H D (I.wish _) q) (fun _ _ z=>z.unwish) fun _ _ z=>cg z
structure zf(n:Nat)(h:Heap)(H:Hp)(a C:Addr)(od:Option Addr)(L:Addr):Prop where
 trk:H a=some (.ext (gK a C od))
 new:n<=a
 tr:∃vs t oT ts,h.get? a=some { cls:=.ref C,dict:=od,data:=.fields vs }/\vs[1]?=some (.ref t)/\n<=t/\t≠a/\h.get? t=some oT/\oT.data=.fields ts/\ts[3]?=some (rawInt L)/\H t=none
section
variable{M:Model}{A:Around}{E:Zc}{s:Shared}{base:Heap}{env:Env}{outer:List Env}{L e:Addr}{oe:Obj}{vs:Array Value}{Q:Unit->Shared->Prop}
theorem zG{f:Value}{g:Bool}(v:A.frames=some (env::outer))(B:s.heap.FunFrames base (env::outer))(hf:env.frame=some L)
  (C:s.heap.get? e=some oe) (t:oe.data=.fields vs) (n:1<vs.size)
  (h:∀u p D G,C3 (lJ (env::outer)) e none s.heap u->u.get? e=some { oe with data:=.fields p }->p[1]?=some (.ref s.heap.objs.size) ->
   u.get? s.heap.objs.size=some D->D.data=.fields G->G[3]?=some (rawInt L)->Q () { s with heap:=u }) :
  wpAny M A (do let Y <- frameOf env;let l <- entryPlaceOf L g;let nw <- ud f Y .none (rawInt L) .none l;uc (.ref e) 1 nw) Q E s:=by
 have x:e∉lJ (env::outer):=fun z=>by
  obtain⟨_,o,m,q2⟩:=B.mem z;rw[C]at m;cases m;exact q2 vs t
 refine aj (wpAny_frameOf_fun v B hf fun a r=>aj (wpAny_entryPlaceOf fun l y=>?_));unfold ud newFields;refine aj (kg ?_ (y.sizeOk5 _ _ _ _ _));generalize H:({ cls:=.type "traceback",dict:=none,data:=.fields ([f,.ref L,.none,rawInt L,.none]++(if l.isEmpty then kq 6 Value.none else l)).toArray }:Obj)=i
 have dN:i.data=.fields ([f,.ref L,.none,rawInt L,.none]++(if l.isEmpty then kq 6 Value.none else l)).toArray:=by rw[<-H]
 have fN:i.isFreed=false:=by rw[<-H];rfl
 have I:a.get? e=some oe:=(r.2.1 e x).trans C;have J:=aV (h:=a) i I;have N:a.objs.size=s.heap.objs.size:=r.1;refine gE J t n ?_;have ne:a.objs.size≠e:=d9 (aE I);have d3:=ff t (·.setIfInBounds 1 (Value.ref a.objs.size));have e3:=fK (ca (·.setIfInBounds 1 (Value.ref a.objs.size))) J (ju d3);have t3:((a.push i).update e (ca (·.setIfInBounds 1 (Value.ref a.objs.size)))).get? a.objs.size=some i:=(eI (a.push i) _ (cy ne)).trans (cN a fN);have k:∀b o,b≠e->a.get? b=some o->((a.push i).update e (ca (·.setIfInBounds 1 (Value.ref a.objs.size)))).get? b=some o:=fun b o j q=>by
  rw[eI _ _ (cy j)];exact aV _ q
 have O:((a.push i).update e (ca (·.setIfInBounds 1 (Value.ref a.objs.size)))).get? e=some { oe with data:=.fields (vs.setIfInBounds 1 (Value.ref a.objs.size)) }:=by
  rw[e3,Obj.mapF t]
 refine h _ _ _ _ ⟨fun b o q j _ T=>k b o j ((r.2.1 b T).trans q),fun b o q j _ T=>?_,fun b o q=>?_⟩ O ?_ (by rw[<-N];exact t3) dN ?_
 ·obtain⟨U,m⟩:=r.2.2 b o q;exact⟨U,k b _ j m⟩
 ·by_cases j:b=e
  ·rw[j];exact⟨_,O⟩
  ·obtain⟨U,m⟩:=r.2.2 b o q;exact⟨_,k b _ j m⟩
 ·rw[<-N];simp[n]
 ·simp
theorem C8{n:Nat}{T:Option Addr}(l:A.frames=some (env::outer))(N:s.heap.FunFrames base (env::outer))(hf:env.frame=some L)
  (r:s.heap.get? e=some oe) (u:oe.data=.fields vs) (ht:Trc n s.heap e vs T)
  (h:∀k g B v,C3 (lJ (env::outer)) e T s.heap k->k.get? e=some { oe with data:=.fields g }->g[1]?=some (.ref s.heap.objs.size) ->
   k.get? s.heap.objs.size=some B->B.data=.fields v->v[3]?=some (rawInt L)->Q () { s with heap:=k }):wpAny M A (jv (.ref e) env) Q E s:=by
 unfold jv;simp only[hf];rcases ht with⟨m,rfl⟩|⟨t,B,v,rfl,m,_,C,x,i,O⟩
 ·refine aj (bP r u m ?_);rw[if_neg (by decide)];exact zG l N hf r u (d_.mp m).1 h
 ·refine aj (bP r u m ?_);rw[if_pos (show(Value.ref t != Value.none)=true from by simp)];refine aj (bP x i O ?_);rw[if_neg (show ¬((Value.none==rawInt L)=true)from by simp[rawInt])];refine aj (gE x i (d_.mp O).1 ?_);have a:∀b,b≠t->(s.heap.update t (ca (·.setIfInBounds 3 Value.none))).get? b=s.heap.get? b:=fun b f=>eI _ _ (cy f);have tt:=fK (ca (·.setIfInBounds 3 Value.none)) x (ju (ff i _));have p:∀b o,s.heap.get? b=some o->(∀ws,o.data≠.fields ws)->b≠t:=fun b o f j q=>by
   rw[q,x]at f;cases f;exact j v i
  have sz:(s.heap.update t (ca (·.setIfInBounds 3 Value.none))).objs.size=s.heap.objs.size:=Heap.size_after_update ..;refine zG (s:={ s with heap:=s.heap.update t (ca (·.setIfInBounds 3 Value.none)) }) l (N.of_keeps fun b o f j=>⟨o,(a b (p b o f j)).trans f,rfl⟩) hf ((a e (cy C)).trans r) u (d_.mp m).1 ?_;intro k g D G y q1 U Y q4 q5;rw[sz]at U Y;refine h k g D G ⟨fun b o q H I J=>y.keep b o ((a b fun z=>I (by rw[z])).trans q) H (by simp) J,fun b o q H I J=>y.slot b o ((a b fun z=>I (by rw[z])).trans q) H (by simp) J,fun b o q=>?_⟩ q1 U Y q4 q5;by_cases f:b=t
  ·rw[f];exact y.there t _ tt
  ·exact y.there b o ((a b f).trans q)
end
section
variable{X:Cx}{J3:Zd}{σ:St}{H:Hp}{s:Shared}{n:Nat}{a C:Addr}{od:Option Addr}
def Fly(X:Cx)(n:Nat)(h:Heap)(H:Hp)(a C:Addr)(od:Option Addr):Prop:=gQ n h H a C od∨zf n h H a C od X.env.locals
theorem BA{M:Model}{Q:Unit->Shared->Prop}{E:Zc}(I:Inv X J3 σ H s)(y:jZ X J3 n)(st:X.stack=X.env::X.outer)(k:X.env.frame=some X.env.locals)(fl:Fly X n s.heap H a C od)
  (h:∀O,Inv X J3 σ H O->zf n O.heap H a C od X.env.locals->Q () O):wpAny M X.A (jv (.ref a) X.env) Q E s:=by
 rcases fl with fl|fl
 ·obtain⟨vs,T,e,z,tr,fT⟩:=fl.tr;have r:=I.stack;rw[st]at r;refine C8 (n:=n) (base:=X.base) (by rw[I.ok.frames,st]) r k e rfl tr fun h' u oT ts j q1 q2 q3 q4 q5=>?_;have z':1<u.size:=(d_.mp q2).1;have v:∀b∈lJ (X.env::X.outer),H b=none:=fun b f=>I.stkFree b (by rw[st];exact f);have U:=wX I.hok fl.trk fT v j q1 z';have nT:∀t,T=some t->n<=t:=fun t N=>by
   rcases tr with⟨_,q⟩|⟨t',_,_,q,_,l,_⟩
   ·rw[q]at N;cases N
   ·rw[q]at N;cases N;exact l
  have Y:∀b,b≠X.env.locals->b∉X.fs->b∉lJ (X.env::X.outer):=fun b h1 h2 f=>by
   unfold lJ at f;rw[jY,k]at f;exact(bY.mp f).elim h1 h2
  have i:∀b,H b=none->b≠a:=fun b f q=>by rw[q,fl.trk]at f;cases f
  obtain⟨m0,⟨oL,aq,as,B,rL⟩,_⟩:=id I.loc;have D:X.env.locals∈lJ (X.env::X.outer):=by unfold lJ;rw[jY,k];exact eQ
  have ab:some X.env.locals≠T:=fun q=>absurd (nT _ q.symm) (fe y.loc);obtain⟨aC,ak⟩:=j.slot _ oL B (i _ I.free) ab D;refine h _ (I.step (g':=s.gens) (d':=s.drawn) (t':=s.toks) (ch:=T.toList) (fun b f=>?_) (fun b o hL hf hc g G=>?_) (fun b o hL hf hc g G=>?_) (fun b o _ _ G=>G) (fun b o _ g=>j.there b o g)
   (fun _ _ g=>g) (fun b xs o e g=>j.keep b o g (fun q=>by rw[q,fl.trk]at e;cases e) (fun q=>by rw[fT b q.symm]at e;cases e) (fun z=>by rw[v b z]at e;cases e)) (fun _ _ _ g=>g) (fun b ps g=>⟨#[],by rw[g];simp⟩) (fun m hm=>?_) U I.bare) ⟨fl.trk,fl.new,u,s.heap.objs.size,oT,ts,q1,q2,?_,?_,q3,q4,q5,?_⟩
  ·have hT:T=some b:=by cases T with
    |none=>simp at f
    |some t=>simp at f;rw[f]
   have J:=nT b hT;exact⟨.inr (bp y.s0 J),fun q=>absurd J (fe (q▸y.loc)),fun x c g q=>absurd J (fe (q▸y.cell x c g)),fun p hp q=>absurd J (fe (q▸y.pin p hp))⟩
  ·exact j.keep b o g (i b G) (fun q=>hc (by rw[<-q];simp)) (Y b hL hf)
  ·refine j.slot b o g (i b G) (fun q=>hc (by rw[<-q];simp)) ?_;unfold lJ;rw[jY,k];exact dD _ hf
  ·obtain⟨o',al,an,L,r'⟩:=hm;rw[B]at L;cases L;exact⟨_,al,an,ak,r'⟩
  ·exact bp (bp fl.new (eX (aE e))) (aO _)
  ·exact d9 (aE e)
  ·exact I.hok.fresh (aO _)
 ·obtain⟨vs,t,oT,ts,e,h1,J,aS,hT,ap,h3,nt⟩:=fl.tr;unfold jv;simp only[k];refine aj (bP e rfl h1 ?_);rw[if_pos (show(Value.ref t != Value.none)=true from by simp)];refine aj (bP hT ap h3 ?_);rw[if_pos (show(rawInt X.env.locals==rawInt X.env.locals)=true from by simp)];exact aD (h s I fl)
theorem BB{M:Model}{A:Around}{Q:Unit->Shared->Prop}{E:Zc}{L:Addr}(r:Option Addr)(I:Inv X J3 σ H s)(y:jZ X J3 n)(N:zf n s.heap H a C od L)
  (h:∀l m t u v,Inv X J3 σ H l->l.heap.get? a=some { cls:=.ref C,dict:=od,data:=.fields m }->m[1]?=some (.ref t)->n<=t->t≠a->l.heap.get? t=some u->u.data=.fields v->v[3]?=some (r.elim Value.none fun f=>rawInt f)->H t=none->Q () l) :
  wpAny M A (js (.ref a) r) Q E s:=by
 obtain⟨m,t,u,v,e,B,j,k,D,i,G,J⟩:=N.tr;unfold js;refine aj (bP e rfl B ?_);rw[if_pos (show(Value.ref t != Value.none)=true from by simp)];refine gE D i (d_.mp G).1 ?_;have kp:∀b o,b≠t->s.heap.get? b=some o->(s.heap.update t (ca (·.setIfInBounds 3 (r.elim Value.none fun f=>rawInt f)))).get? b=some o:=fun b o O g=>by
  rw[eI _ _ (cy O)];exact g
 have z:=(d_.mp G).1;exact h _ m t _ _ (I.turned (t':=s.toks) (it:=t) kp J (fun q=>absurd j (fe (q▸y.loc))) (.inr (bp y.s0 j)) (fun x c g q=>absurd j (fe (q▸y.cell x c g))) (fun p T q=>absurd j (fe (q▸y.pin p T))))
  (kp a _ (cy k) e) B j k (fK _ D (ju (ff i _))) (ff i _) (by simp[z]) J
theorem zE{M:Model}{Q:Unit->Shared->Prop}{E:Zc}(I:Inv X J3 σ H s)(y:jZ X J3 n)(st:X.stack=X.env::X.outer)(i:X.env.frame=some X.env.locals)(j:Fly X n s.heap H a C od)
  (h:∀e,Inv X J3 σ H e->gQ n e.heap H a C od->Q () e):wpAny M X.A (jv (.ref a) X.env) (fun _ e=>wpAny M X.A (js (.ref a) none) Q E e) E s:=by
 refine BA I y st i j fun J k f=>BB none k y f fun l m t o p q r g u v x z B D=>h l q ⟨f.trk,f.new,m,some t,r,(d_.mp g).1,.inr ⟨t,o,p,rfl,g,u,v,x,z,B⟩,fun L G=>by cases G;exact D⟩
def EU(X:Cx)(J3:Zd)(W:St->XK)(e:Value)(s':Shared):Prop:=∃n a C od σ' H',e=.ref a/\jZ X J3 n/\Inv X J3 σ' H' s'/\Fly X n s'.heap H' a C od/\W σ' (.ref C) (some a) H'
theorem XS.two{W:St->XK}{e:Value}{f:Shared}(h:XS X J3 W e f):EU X J3 W e f:=let⟨n,a,C,od,σ',g,i,y,I,j,q⟩:=h;⟨n,a,C,od,σ',g,i,y,I,.inl j,q⟩
theorem xL{W:St->XK}{M:Model}(st:X.stack=X.env::X.outer)(g:X.env.frame=some X.env.locals):zv M X.A X.env (EU X J3 W):=by
 rintro e N ⟨n,a,C,od,σ',k,rfl,y,I,l,q⟩;refine BA I y st g l fun O m f=>?_;obtain⟨h,t,i,j,o,p,Q,r,T,u,U,Y⟩:=id f.tr;refine aj (bP o rfl p ?_);rw[if_neg (show ¬((Value.ref t==Value.none)=true)from by simp)];rw[g];exact BB (some X.env.locals) m y f fun s2 h t i j v x z B D E G J L=>⟨n,a,C,od,σ',k,rfl,y,v,.inr ⟨f.trk,f.new,h,t,i,j,x,z,B,D,E,G,J,L⟩,q⟩
end
def PY(X:Cx)(b:List Stmt)(t:(St->XK)->TS):Prop:=∀(J3:Zd) (s:Shared) (σ:St) (H:Hp) (D:g0) (W:St->XK),Inv X J3 σ H s->t W D σ H->wpAny (model X.prog X.w) X.A (execs b X.env) (SP X J3 D) (EU X J3 W) s
def GK(X:Cx)(b:Stmt)(t:(St->XK)->TS):Prop:=∀(J3:Zd) (s:Shared) (σ:St) (H:Hp) (D:g0) (W:St->XK),Inv X J3 σ H s->t W D σ H->wpAny (model X.prog X.w) X.A (exec b X.env) (SP X J3 D) (EU X J3 W) s
section
variable{X:Cx}{J3:Zd}{σ:St}{H:Hp}{s:Shared}{t u:(St->XK)->TS}{b:Stmt}{bs:List Stmt}{pos:Pos}
theorem C5(h:FX X b t):GK X b t:=fun J3 s σ H D W I q=>cR (h J3 s σ H D W I q) (fun _ _ z=>z) fun _ _ z=>z.two
theorem oz(h:GK X b t):PY X [b] t:=by
 intro J3 s σ H D W I q;refine zw (cR (h J3 s σ H D W I q) (fun f a q=>?_) fun _ _ y=>y);cases f with
 |next=>exact pf q
 |ret v=>exact q
 |brk=>exact q
 |cont=>exact q
theorem jH(h:GK X b t)(a:PY X bs u):PY X (b::bs) (pq t u):=by
 intro J3 s σ H D W I q;refine zw (cR (h J3 s σ H _ W I q) (fun f e q=>?_) fun _ _ y=>y);cases f with
 |next=>obtain⟨σ1,g,i,j⟩:=q;exact a J3 e σ1 g D W i j
 |ret v=>exact q
 |brk=>exact q
 |cont=>exact q
theorem B8:PY X [] (uK aZ):=fun _ _ σ H _ _ I h=>pf ⟨σ,H,I,h⟩
theorem Ew{c:Expr}{a b:List Stmt}{f:TT}{g i:(St->XK)->TS}(n:PT X.nox c f)(o:PY X a g)(p:PY X b i):GK X (.If c a b pos) (Fg f g i):=by
 intro J3 s σ H D W I h;refine wpAny_If (cR (n J3 s σ H _ (I.wish _) h) (fun d j e=>?_) fun _ _ z=>cg z);obtain⟨k,l,m⟩:=e;cases d with
 |true=>exact o J3 j σ k D W l.unwish m
 |false=>exact p J3 j σ k D W l.unwish m
def Er(te:XK->TE):(St->XK)->TS:=fun W D σ H=>te (W σ) σ H fun v H1=>D.rt v H1
def Es(wi:TI)(g:TG)(tb:(St->XK)->TS):(St->XK)->TS:=fun W=>iM wi g (tb W)
theorem EU.unpinned{g:Zd}{W:St->XK}{e:Value}{f:Shared}(h:EU X (J3++g) W e f):EU X J3 W e f:=by
 obtain⟨n,a,C,i,σ',j,k,y,I,l,q⟩:=h;exact⟨n,a,C,i,σ',j,k,⟨y.s0,y.loc,y.cell,fun p m=>y.pin p (by rcases cj.mp m with z|z;exact dC _ z;exact dw _ (dC _ z))⟩,I.unpinned,l,q⟩
theorem Fq{Y j:Expr}{body:List Stmt}{wi:TI}{g:TG}{tb:(St->XK)->TS}(hc:X.calm=true)(hi:PI X.nox Y j wi)(hg:PG X.nox Y g)(k:PY X body tb)
  (hs:∀x,sX j X.env x=pure x:=by intro _;rfl) (st:X.stack=X.env::X.outer:=by rfl) (sf:X.env.frame=some X.env.locals:=by rfl):GK X (.For Y j body [] pos) (Es wi g tb):=by
 intro J3 s σ H D E I h;have L:zv (model X.prog X.w) X.A X.env (EU X J3 E):=xL st sf;refine wpAny_For (cR (hi J3 s σ H _ (I.wish _) h) (fun v s1 h1=>cR h1 (fun aq s2 h2=>?_) fun _ _ z=>cg z) fun _ _ z=>cg z) hs;obtain⟨it,G,tn,J,H2,e,ab,T,ak,al,W,⟨m0,w0⟩,turn⟩:=h2;subst e;have I2:=ab.unwish;have f2:∀b∈G,kP X J3 H2 b:=al;have l:∀{y:Hp},(∀b∈G,y b=none)->∀b∈G,kP X J3 y b:=fun hn b k=>⟨hn b k,(f2 b k).2⟩;refine codeAny_forLoop_any (fun n s'=>∃i σ' y,Inv X J3 σ' y s'/\tn i s'.heap/\(∀b∈G,y b=none)/\W i n σ' y) ?_ m0 ⟨0,σ,H2,I2,ak,fun b k=>(f2 b k).1,w0⟩;rintro n s3 ⟨i,σ3,U,I3,M,O,w3⟩;rcases turn i n σ3 U w3 with⟨stop,qn⟩|⟨go,N,hN,step⟩
 ·refine jV L (cR (T.done X rfl rfl rfl hc i J3 s3 σ3 U _ I3 (l O) M stop) (fun r s4 a=>?_) fun _ _ z=>z);obtain⟨hr,I4⟩:=a;subst hr;exact pf ⟨σ3,U,I4,qn⟩
 ·refine jV L (cR (T.item X rfl rfl rfl hc i J3 s3 σ3 U _ I3 (l O) M go) (fun r s4 a=>?_) fun _ _ z=>z);obtain⟨u,hr,h4⟩:=a;subst hr;refine jV L (cR h4 (fun _ s5 a=>?_) fun _ _ z=>z);obtain⟨x,H5,I5,r5,y5,C,an⟩:=a;have ap:=I5.pinned (l an) (T.obj _ _ C);refine jV L (cR (hg _ s5 σ3 H5 x u _ (ap.wish _) r5 (step x H5 y5)) (fun _ s6 a=>?_) fun _ _ z=>cg z);obtain⟨σ6,H6,I6,q6⟩:=a;refine jV L (cR (k _ s6 σ6 H6 _ E I6.unwish q6) (fun f s7 B=>?_) fun _ _ z=>z.unpinned);have again:∀{σ7:St}{p:Hp},Inv X (J3++oB G s5.heap) σ7 p s7->N σ7 p->∃m,m<n/\∃i σ' y,Inv X J3 σ' y s7/\tn i s7.heap/\(∀b∈G,y b=none)/\W i m σ' y:=fun{σ7 p} q Q=>by
   obtain⟨m',hm,w7⟩:=hN σ7 p Q;refine⟨m',hm,i+1,σ7,p,q.unpinned,T.keep _ _ _ C fun b k o e=>(q.pin (b,o) (dw _ (dw _ (fU k e)))).1,fun b k=>?_,w7⟩;obtain⟨o,e,d⟩:=T.obj _ _ C b k;exact(q.pin (b,o) (dw _ (dw _ (fU k e)))).2.1
  cases f with
  |next=>obtain⟨σ7,p,q,Q⟩:=B;exact again q Q
  |cont=>obtain⟨σ7,p,q,Q⟩:=B;exact again q Q
  |brk=>obtain⟨σ7,p,q,B⟩:=B;exact⟨σ7,p,q.unpinned,B⟩
  |ret v=>obtain⟨x7,σ7,p,q,r7,B⟩:=B;exact⟨x7,σ7,p,q.unpinned,r7,B⟩
theorem DC{body:List Stmt}{j:t_}{k:List t_}{l:(St->XK)->TS}{g:g0->St->XK}(m:PY X body l)(o:PH X (j::k) g)(st:X.stack=X.env::X.outer:=by rfl)(p:X.env.frame=some X.env.locals:=by rfl):
  PS X (.Try body (j::k) [] [] pos) (Gk l g):=by
 intro J3 s σ H D I h;refine wpAny_Try_except (cR (m J3 s σ H D (g D) I h) (fun f r q=>?_) fun e r ⟨n,a,C,x,σ',z,B,y,E,G,q⟩=>?_)
 ·cases f with
  |next=>exact pf q
  |ret v=>exact q
  |brk=>exact q
  |cont=>exact q
 ·subst B;exact zE E y st p G fun J L i=>o J3 _ J σ' z D a C x L y i q
end
theorem B_{P:bg}{w:World}{K:Za}{l:Str->Option Value}{base:Heap}{N:Zb}{i:Str}{scope:Scope}{f:Addr}{cd:Value}{A:Around}{outer:List Env}{m:Shared}{o:Hp}{E:XK}{b:List Stmt}{t:(St->XK)->TS}
  (h:PY (rZ (AA P w K) P w K l base N i scope f cd A outer m o E) b t):vJ (rZ (AA P w K) P w K l base N i scope f cd A outer m o E) b (t fun _=>E):=by
 intro p s σ H D I q;refine cR (h p s σ H D (fun _=>E) I q) (fun _ _ z=>z) fun e J k=>?_;obtain⟨n,a,C,r,σ',u,v,y,x,B,q⟩:=k;subst v;show wpAny _ _ _ _ _ _;unfold leaving;exact aj (zE x y rfl rfl B fun G g j=>⟨a,C,r,u,rfl,g.os,g.bare,g.base,g.hok,j.mono y.s0,q⟩)
section
variable{X:Cx}{k:Nat}{ps:Zb}{sp:Sp}{x m:Str}{C:Addr}{p pos J5:Pos}{o e:Expr}{es:List Expr}{t:TA}{ta:TE}
theorem Ft{a:XK->TE}(f:FY X e a):FX X (.Return (some e) pos) (Er a):=by
 intro g s σ H D W I h;exact wpAny_Return_some (cR (f g s σ H _ (W σ) I h) (fun v q ⟨x,i,j,l,n⟩=>⟨x,σ,i,j,l,n⟩) fun _ _ z=>z.xs)
end
def En:Expr->List Str
 |.Name x _=>[x]
 |.Tuple es _ _=>es.filterMap fun e=>match e with | .Name x _=>some x|_=>none
 |_=>[]
theorem bK{X:Cx}{b:List Stmt}{t:TS}{D:g0}{σ:St}{H:Hp}(r:t D σ H)(p:vJ X b t):∃t,vJ X b t/\t D σ H:=⟨t,p,r⟩
section
variable{X:Cx}{k k0:Nat}{ps:Zb}{sp:Sp}{x m:Str}{C:Addr}{p pos J5:Pos}{o e a b:Expr}{es:List Expr}{t:TA}{ta tb te:TE}
theorem qf(h:cx k0 X.A)(D:Def X.prog X.w X.K X.mg X.base x ps k sp)(i:PA X (e::es) t)(j:k<=k0:=by decide)(l:Gl X x:=by rfl)(f:(x==("__debug__":Str))=false:=by decide)
  (n:au (e::es) X.env=(false,eval e X.env)::au es X.env:=by rfl) (g:(backTo pos (au es X.env)).any (·.1)=false:=by rfl) :
  PE X (.Call (.Name x p) (e::es) [] pos) (aL sp t):=z0 D (h.mono j) l i f n g
theorem qm{pl:Sem Bool}(j:cx k0 X.A)(M:CZ X.prog X.w X.K X.mg X.base C m ps k sp)(l:PE X o ta)(n:PA X (e::es) t)(q:k<=k0:=by decide)
  (g:au (e::es) X.env=(false,eval e X.env)::au es X.env:=by rfl) (h:(backTo pos (au es X.env)).any (·.1)=false:=by rfl)
  (r:eval (.Call (.Attribute o m J5) (e::es) [] pos) X.env=(do
   let i <- eval o X.env
   mH J5.atName
   let(f,first) <- jW [i] (mE i m pl)
   lU pos f first (backTo pos (au (e::es) X.env)) (jA pos (jz [] X.env))):=by rfl) :
  PE X (.Call (.Attribute o m J5) (e::es) [] pos) (gm C m sp [] E0 ta t):=Fz (pl:=pl) M (j.mono q) l n g h r
theorem DA{pl:Sem Bool}(h:cx k0 X.A)(M:CZ X.prog X.w X.K X.mg X.base C m ps k sp)(i:PE X o ta)(j:k<=k0:=by decide)
  (l:eval (.Call (.Attribute o m J5) [] [] pos) X.env=(do
   let g <- eval o X.env
   mH J5.atName
   let(f,first) <- jW [g] (mE g m pl)
   lU pos f first (backTo pos (au [] X.env)) (jA pos (jz [] X.env))):=by rfl) :
  PE X (.Call (.Attribute o m J5) [] [] pos) (gm C m sp [] E0 ta bA):=DG (pl:=pl) M (h.mono j) i l
theorem xl(f:PE X a ta)(g:PE X b tb)(h:Bm b:=by exact fun _ _=>rfl):PE X (.Subscript a b pos) (aM (eJ X.K) ta tb):=zZ Ae f g h
theorem xt(f:PE X a ta)(g:PE X b tb)(h:Bm b:=by exact fun _ _=>rfl):PE X (.Subscript a b pos) (aM (B6 X.K) ta tb):=zZ CA f g h
theorem xq(f:PE X a ta)(g:PE X b tb)(h:Bm b:=by exact fun _ _=>rfl):PE X (.Subscript a b pos) (aM (oy X.K) ta tb):=zZ FF f g h
theorem xs'(f:PE X a ta)(g:PE X b tb)(h:Bm b:=by exact fun _ _=>rfl):PE X (.Subscript a b pos) (aM uZ ta tb):=zZ CB f g h
theorem lW{f:CmpOp}{r:R2}(g:nI X (em f) r)(h:PE X a ta)(i:PE X b tb)(j:jX f b=false:=by exact Cu _):PT X (.Compare a [f] [b] pos) (ba (aM r ta tb)):=zW g h i j
theorem Bc{f:CmpOp}{r:R2}(g:nI X (em f) r)(h:PE X a ta)(i:PE X b tb)(j:jX f b=false:=by exact Cu _):PE X (.Compare a [f] [b] pos) (aM r ta tb):=z5 g h i j
theorem Bu{f:CmpOp}{r:R2}(g:nI X (em f) r)(h:PE X a ta)(i:PE X b tb)(j:jX f b=false:=by with_unfolding_all rfl):PT X (.Compare a [f] [b] pos) (ba (aM r ta tb)):=zW g h i j
theorem eci{f:CmpOp}{r:R2}(g:nI X (em f) r)(h:PE X a ta)(i:PE X b tb)(j:jX f b=false:=by with_unfolding_all rfl):PE X (.Compare a [f] [b] pos) (aM r ta tb):=z5 g h i j
theorem qB{id:String}{r:List V->Hp->VK->Prop}(h:fG X (.builtin id) r)(i:X.mg x=none)(j:iQ x=some (.builtin id))(l:PA X (e::es) t)(n:Gl X x:=by rfl)(q:x≠"__name__":=by decide)(f:(x==("__debug__":Str))=false:=by decide)
  (s:au (e::es) X.env=(false,eval e X.env)::au es X.env:=by rfl) (g:(backTo pos (au es X.env)).any (·.1)=false:=by rfl):PE X (.Call (.Name x p) (e::es) [] pos) (cJ r t):=wM h n i j l q f s g
theorem qL(g:X.calm=true)(h:X.mg "list"=none)(i:PA X (e::es) t)(j:Gl X "list":=by rfl)
  (l:au (e::es) X.env=(false,eval e X.env)::au es X.env:=by rfl) (f:(backTo pos (au es X.env)).any (·.1)=false:=by rfl):PE X (.Call (.Name "list" p) (e::es) [] pos) (cJ (cZ X.K) t):=oF (yX g) j h mi i (by decide) (by decide) l f
theorem ql(g:X.mg "len"=none)(h:PA X (e::es) t)(i:Gl X "len":=by rfl)
  (j:au (e::es) X.env=(false,eval e X.env)::au es X.env:=by rfl) (f:(backTo pos (au es X.env)).any (·.1)=false:=by rfl):PE X (.Call (.Name "len" p) (e::es) [] pos) (cJ (dJ X.K) t):=wM tR i g PySem.boot_len h (by decide) (by decide) j f
theorem qs(i:Nat){f:Pos}(g:X.N.Nodup)(h:PE X e te)(hi:X.N[i]?=some x:=by rfl)(hx:Loc X.env.scope x:=by first|exact Or.inl rfl|exact Or.inr rfl)(j:lE e (some (.Name x f)) pos.line X.env=pure false:=by rfl)(hf:X.fn x=true∨X.env.scope.names.lookup x=some .local:=by first|exact .inl rfl|exact .inr rfl|assumption):
  PS X (.Assign [.Name x f] e pos) (aR te (dj i)):=Fu g hi hx h j hf
theorem gn(i:Nat)(f:X.N.Nodup)(hi:X.N[i]?=some x:=by rfl)(hx:Loc X.env.scope x:=by first|exact Or.inl rfl|exact Or.inr rfl)(hf:X.fn x=true∨X.env.scope.names.lookup x=some .local:=by first|exact .inl rfl|exact .inr rfl|assumption):PG X (.Name x pos) (dj i):=zY f hi hx hf
theorem gc(i:Nat)(f:X.N.Nodup:=by exact of_decide_eq_true (by with_unfolding_all rfl))(hi:X.N[i]?=some x:=by rfl)(hx:Loc X.env.scope x:=by exact Or.inl rfl)(hf:X.fn x=true∨X.env.scope.names.lookup x=some .local:=by first|exact .inl rfl|exact .inr rfl|assumption):PG X (.Name x pos) (dj i):=zY f hi hx hf
theorem a1(f:PE X a ta)(g:au [a] X.env=(false,eval a X.env)::au [] X.env:=by rfl):PA X [a] (az ta bA):=bM f fP g
theorem a2(g:PE X a ta)(h:PE X b tb)(i:au [a,b] X.env=(false,eval a X.env)::au [b] X.env:=by rfl)(f:au [b] X.env=(false,eval b X.env)::au [] X.env:=by rfl):PA X [a,b] (az ta (az tb bA)):=bM g (bM h fP f) i
theorem a3{c:Expr}{h:TE}(i:PE X a ta)(j:PE X b tb)(l:PE X c h)(n:au [a,b,c] X.env=(false,eval a X.env)::au [b,c] X.env:=by rfl)(f:au [b,c] X.env=(false,eval b X.env)::au [c] X.env:=by rfl)(g:au [c] X.env=(false,eval c X.env)::au [] X.env:=by rfl):PA X [a,b,c] (az ta (az tb (az h bA))):=bM i (a2 j l f g) n
variable{elt iter tg:Expr}{ifs:List Expr}{scope:Scope}{fi:List Nat}{wi:TI}{g:TG}{tc:TT}
theorem qc(hi:PI X tg iter wi)(q:xw k g)
  (h:∀C l f j ex n,PG (c9 X (En tg++fi.map fun i=>X.N.getD i "") scope C l f j ex n) tg g/\EX (c9 X (En tg++fi.map fun i=>X.N.getD i "") scope C l f j ex n) ifs tc/\PE (c9 X (En tg++fi.map fun i=>X.N.getD i "") scope C l f j ex n) elt te)
  (r:lg X.env.scope scope k (En tg++fi.map fun i=>X.N.getD i "") X.N fi=true:=by with_unfolding_all rfl) (s:X.calm=true:=by rfl)
  (u:∀x,sX iter X.env x=pure x:=by intro _;rfl):PE X (.ListComp elt [⟨tg,iter,ifs,0⟩] scope pos) (de k fi wi g tc te) :=
 DM r s hi (fun _ _ _ _ _ _=>(h _ _ _ _ _ _).1) q (fun _ _ _ _ _ _=>(h _ _ _ _ _ _).2.1) (fun _ _ _ _ _ _=>(h _ _ _ _ _ _).2.2) u
theorem F_(j:Nat){y:Str}{n u:Pos}(v:X.N.Nodup)(hi:PI X tg iter wi)(z:xw k g)
  (h:∀C q f l ex r,PG (c9 X (En tg++fi.map fun i=>X.N.getD i "") scope C q f l ex r) tg g/\EX (c9 X (En tg++fi.map fun i=>X.N.getD i "") scope C q f l ex r) ifs tc/\PE (c9 X (En tg++fi.map fun i=>X.N.getD i "") scope C q f l ex r) elt te)
  (B:X.N[j]?=some y:=by rfl) (D:Loc X.env.scope y:=by first|exact Or.inl rfl|exact Or.inr rfl)
  (E:lg X.env.scope scope k (En tg++fi.map fun i=>X.N.getD i "") X.N fi=true:=by with_unfolding_all rfl) (G:X.calm=true:=by rfl)
  (s:lE (.ListComp elt [⟨tg,iter,ifs,0⟩] scope pos) (some (.Name y u)) n.line X.env=pure true:=by rfl)
  (H:∀x,sX iter X.env x=pure x:=by intro _;rfl) (hf:X.fn y=true∨X.env.scope.names.lookup y=some .local:=by first|exact .inl rfl|exact .inr rfl|assumption) :
  PS X (.Assign [.Name y u] (.ListComp elt [⟨tg,iter,ifs,0⟩] scope pos) n) (aR (de k fi wi g tc te) (dj j)) :=
 yz v B D E G hi (fun _ _ _ _ _ _=>(h _ _ _ _ _ _).1) z (fun _ _ _ _ _ _=>(h _ _ _ _ _ _).2.1) (fun _ _ _ _ _ _=>(h _ _ _ _ _ _).2.2) s H hf
end
end L2
end

section
set_option Elab.async false
set_option linter.all false
set_option maxRecDepth 100000
namespace L2
open PySem PySem.Spec PyProof.Rows
theorem tO{f g:Nat->Option Value}:∀{l:List Nat},(∀m∈l,f m=g m)->l.filterMap f=l.filterMap g
 |[],_=>rfl
 |a::l,h=>by rw[jY,jY,h a eQ,tO fun m e=>h m (dD _ e)]
theorem rk:∀a:List Value,(j8 a.length).filterMap (fun m=>a[m]?)=a
 |[]=>rfl
 |y::a=>by
  rw[d7,List.range_succ_eq_map,jY,List.filterMap_map];simp only[List.getElem?_cons_zero];congr 1;exact rk a
theorem yt(n:Nat):qD ((n:Int)-1) (-1) (-1)=(j8 n).map fun(k:Nat)=>((n:Int)-1+(-1) * (k:Int)).toNat:=by
 unfold qD;have e:(if(-1:Int) > 0 then if(n:Int)-1 < -1 then(-1-((n:Int)-1)+-1-1) / -1 else 0 else if(n:Int)-1 > -1 then((n:Int)-1 - -1 - -1-1) / - -1 else 0).toNat=n:=by
  rw[if_neg (by decide)];by_cases h:(n:Int)-1 > -1
  ·rw[if_pos h,show((n:Int)-1 - -1 - -1-1)=n by omega,show(- -1:Int)=1 by decide,Int.ediv_one];omega
  ·rw[if_neg h];omega
 simp only[e]
theorem sF(xs:Zf):uy xs.toArray none none (some (-1))=xs.reverse.toArray:=by
 have e:uy xs.toArray none none (some (-1))=((qD ((xs.toArray.size:Int)-1) (-1) (-1)).filterMap fun m=>xs.toArray[m]?).toArray:=rfl;rw[e,bE,yt,List.filterMap_map];congr 1;have h:=rk xs.reverse;rw[List.length_reverse]at h;refine Eq.trans (tO fun m a=>?_) h;have lt:=List.mem_range.1 a;have f:((xs.length:Int)-1+(-1) * (m:Int)).toNat=xs.length-1-m:=by omega
 show xs.toArray[((xs.length:Int)-1+(-1) * (m:Int)).toNat]?=_;rw[f,List.getElem?_reverse lt,List.getElem?_toArray]
def Ep(K:Za)(te:TE):TE:=fun σ H Q=>te σ H fun x H1=>∃a xs,x=.ref a/\aB K H1 a xs/\∀p,H1 p=none->Q (.ref p) (upd H1 p (.lst xs.reverse))
theorem DE{X:Cx}{e st:Expr}{n:TE}{p k:Pos}(C:PE X e n)(l:PE X st (tUn (rU fun i=>.int (-i)) (tC (.int 1)))):PE X (.Subscript e (.Slice none none (some st) p) k) (Ep X.K n):=by
 intro j s σ H Q I h;refine uC (cb (C j s σ H _ I h) fun v D g=>?_);obtain⟨x,t,E,G,a,xs,J,hx,q⟩:=g;subst J;cases G;refine wpAny_Slice ?_;rw[evalPart_none];refine aD ?_;refine aD ?_;rw[evalPart_some];refine cb (l j D σ t (fun x L=>x=.int (-1)/\L=t) E ⟨_,rfl,rfl,rfl⟩) fun vu f g=>?_;obtain⟨y,M,N,O,T,U⟩:=g;subst T U;obtain⟨u,rfl⟩:=O;have m:Inv X j σ M { f with heap:=f.heap.push { cls:=.type "slice",data:=.fields #[.none,.none,.int (-1) u] } }:=N.kept (t':=f.toks) fun b Y q=>aV _ q;obtain⟨ab,r,z,hz⟩:=m.list hx;show wpAny (model X.prog X.w) X.A (uB e (.Slice none none (some st) p) (.ref a) (.ref f.heap.objs.size)) (EP X j σ Q) X.xe { f with heap:=f.heap.push { cls:=.type "slice",data:=.fields #[.none,.none,.int (-1) u] } };have B:=r.length;refine tail_any (ops:=[.ref a,.ref f.heap.objs.size]) z.isList.typeIs slot_list_getitem.lookup (wpAny_getItem_list_slice z.isList (Heap.IsSliceOf.new ..) .none .none (.int (-1) u) (by simp) ?_ (by rw[bE]<;>omega)) (by with_unfolding_all rfl);rw[sF];refine⟨.ref _,_,m.laid (t':=f.toks) (o:=.lst xs.reverse) (fun b Y q=>aV _ q) (aO _) ?_,rfl,q _ (m.hok.fresh (aO _))⟩;exact⟨by rw[List.length_reverse];exact hz,_,0,r.reverse,cN _ rfl⟩
abbrev Ev(K:Za):List V->Hp->VK->Prop:=fun xs H Q=>dJ K xs H Q∨∃(d:Addr) (kvs:List (dX×V)),xs=[.ref d]/\Rd H d (.dK kvs)/\Q (.int kvs.length) H
theorem Bi{X:Cx}:fG X (.builtin "len") (Ev X.K):=by
 refine tR.or ?_;intro i s σ H xs j Q I r h;obtain⟨d,a,rfl,e,q⟩:=h;obtain⟨u,rfl,f⟩:=vals1 r;cases f;exact GG I e fun t k g=>⟨.int a.length,H,g,⟨t,rfl⟩,q⟩
structure sP(h:Heap)(d:Addr)(es:Array ka)(ep:Nat):Prop where
 ex:∃o,h.get? d=some o/\o.ExactDict/\o.data=.dict es ep
section
variable{prog:bg}{w:World}{A:Around}{E:Zc}{s:Shared}{d v it:Addr}{es:Array ka}{ep i:Nat}
theorem sP.ty(h:sP s.heap d es ep):s.TypeIs (.ref d) "dict":=let⟨o,a,e,_⟩:=h.ex;⟨o,a,e.1⟩
end
end L2
end

section
set_option Elab.async false
set_option linter.all false
set_option maxRecDepth 100000
namespace L2
open PySem PySem.Spec PyProof.Rows
section
variable{prog:bg}{w:World}{A:Around}{E:Zc}{s:Shared}{d v it:Addr}{es:Array ka}{ep i:Nat}
theorem AX{Q:Option Value->Shared->Prop}(j:s.heap.IsKeyIter it d i es.size ep)(h:sP s.heap d es ep)(hi:i<es.size)
  (q:∀k,k.IsKeyIter it d (i+1) es.size ep->iP it s.heap k->Q (some es[i].key) { s with heap:=k }):wpAny (model prog w) A (pyNext (.ref it)) Q E s:=by
 obtain⟨r,f,l,a⟩:=id j;obtain⟨o,m,hx,e⟩:=h.ex;have g:=j.typeIs;unfold pyNext;refine aj <| qE <| nU (name:=nS "__next__") g qw <| tW qw g F.entry_dict_keyiterator_next ?_ (F.args_dict_keyiterator_next_1 _);refine aj <| aD <| aj <| aj ?_
 first|refine aj <| t7 g <| aD ?_|refine aj <| t6 g <| aD ?_
 refine aj <| wpAny_fieldsOf f a ?_;simp only[show bQ.Dict_items.ownsTuple "dict_keyiterator"=false by decide,pj,if_false];show wpAny _ _ (if(Value.ref d==Value.none)=true then _ else _) _ _ _
 rw[if_neg (show ¬((Value.ref d==Value.none)=true)from iI)];refine aj <| aD <| aj <| ug m e ?_;rw[if_neg (by simp)];refine aj <| aD <| aj <| wpAny_dictEpoch m e ?_;rw[if_neg (by simp)];refine aD ?_;simp only[show ¬((i:Int)<0)from by omega,if_false,jw,Array.getElem?_eq_getElem hi];refine aj ?_
 first|refine aj <| t7 g <| aD ?_|refine aj <| t6 g <| aD ?_
 refine aj <| wpAny_isOneOf_keyiter g ?_;show wpAny _ _ (uc (.ref it) 1 (rawInt ((i:Int)+1)) >>= _) _ _ s;refine aj <| gE f a (by simp) ?_;have n:(s.heap.update it (ca (·.setIfInBounds 1 (rawInt ((i:Int)+1))))).IsKeyIter it d (i+1) es.size ep:=⟨_,fK _ f (ju (ff a _)),(Obj.cls_mapFields ..).trans l,by rw[ff a];simp[rawInt]⟩;have p:=Heap.IsKeyIter.typeIs (s:={ s with heap:=s.heap.update it (ca (·.setIfInBounds 1 (rawInt ((i:Int)+1)))) }) n;refine aj <| kb <| aj <| wpAny_isOneOf_keyiter p ?_;show wpAny _ _ (pure es[i].key) _ _ _;exact aD <| aD ⟨_,rfl,aD <| q _ n (lO ..)⟩
theorem B4{Q:Option Value->Shared->Prop}(p:A.handled=none)(g:s.heap.IsKeyIter it d i es.size ep)(h:sP s.heap d es ep)(hi:es.size<=i)
  (q:∀l,Heap.ExtBut it s.heap l->Q none { s with heap:=l }):wpAny (model prog w) A (pyNext (.ref it)) Q E s:=by
 obtain⟨t,j,r,k⟩:=id g;obtain⟨o,n,hx,e⟩:=h.ex;have f:=g.typeIs;unfold pyNext;refine aj <| qE <| nU (name:=nS "__next__") f qw <| tW qw f F.entry_dict_keyiterator_next ?_ (F.args_dict_keyiterator_next_1 _);refine aj <| aD <| aj <| aj ?_
 first|refine aj <| t7 f <| aD ?_|refine aj <| t6 f <| aD ?_
 refine aj <| wpAny_fieldsOf j k ?_;simp only[show bQ.Dict_items.ownsTuple "dict_keyiterator"=false by decide,pj,if_false];show wpAny _ _ (if(Value.ref d==Value.none)=true then _ else _) _ _ _
 rw[if_neg (show ¬((Value.ref d==Value.none)=true)from iI)];refine aj <| aD <| aj <| ug n e ?_;rw[if_neg (by simp)];refine aj <| aD <| aj <| wpAny_dictEpoch n e ?_;rw[if_neg (by simp)];refine aD ?_;simp only[show ¬((i:Int)<0)from by omega,if_false,jw,Array.getElem?_eq_none hi];refine aj ?_
 first|refine aj <| t7 f <| aD ?_|refine aj <| t6 f <| aD ?_
 show wpAny _ _ (uc (.ref it) 0 .none >>= _) _ _ s;refine aj <| gE j k (by simp) ?_;show wpAny _ _ (newExc (.type "StopIteration") [] >>= _) _ _ _;refine aj ?_;simp only[newExc,newTuple];refine aj <| kg ?_ (by size_fits);refine aj (m:=uo _ _) <| wpAny_of_eq (a:=Value.none) (by first|rfl|(simp only[uo];rfl)) <| kg ?_ (by size_fits)
 simp only[raiseNew];refine aj <| wpAny_handled ?_;rw[show A.in1.handled=none from p];refine aj <| aD <| wpAny_throw ?_;refine aj (zB (b:=true) (T:="StopIteration") ⟨_,cN _ rfl,rfl⟩ isSubtype_stop (aD (q _ (((lO ..).extBut.push _).push _))))
end
section
variable{prog:bg}{w:World}{A:Around}{E:Zc}{s:Shared}{d v it:Addr}{es:Array ka}{ep i:Nat}
theorem yr(g:(d==h9)=false)(h:sP s.heap d es ep):∃e:Obj,(∀(E Q:Zc),Q (.ref s.heap.objs.size) { s with heap:=s.heap.push e }->wpAny (model prog w) A (pyIter (.ref d)) Q E s)/\(s.heap.push e).IsKeyIter s.heap.objs.size d 0 es.size ep:=by
 obtain⟨o,f,hx,a⟩:=h.ex;refine⟨{ cls:=.type "dict_keyiterator",data:=.fields #[.ref d,rawInt 0,rawInt es.size,rawInt ep] },fun E Q q=>?_,⟨_,cN _ rfl,rfl,by simp[rawInt]⟩⟩;refine wpAny_pyIter_slot h.ty F.slot_dict_iter <| tW F.slot_dict_iter h.ty F.entry_dict_iter ?_ (F.args_dict_iter_1 _);unfold bQ.«dict.__iter__»;refine aj ?_;unfold bQ.Dict.dictSlotNone;refine aj <| wpAny_notOrdered_dict h.ty <| ?_;refine aD (show wpAny _ _ (bQ.Dict.showsAll d >>= _) _ _ s from ?_);unfold bQ.Dict.showsAll;rw[if_neg (fun z=>by rw[g]at z;cases z)];refine aj <| aD <| aj <| ug f a <| aj <| wpAny_dictEpoch f a ?_;exact aj (kg (aD ⟨_,rfl,"dict_keyiterator",_,⟨_,cN _ rfl,rfl⟩,qw.lookup,q⟩))
end
theorem sP.kept{h h':Heap}{d:Addr}{a:Array ka}{f:Nat}(r:sP h d a f)(k:∀o,h.get? d=some o->h'.get? d=some o):sP h' d a f:=let⟨o,g,e⟩:=r.ex;⟨o,k o g,e⟩
theorem Dw{prog:bg}{w:World}{d:Addr}{f:Array ka}{j:Nat}(t:(d==h9)=false):PySem.W.KdlSrc prog w "dict" d d f.size (fun i v=>(f[i]?).map (·.key)=some v) fun h=>sP h d f j where
 type:=fun s r=>r.ty
 there:=fun h r=>by obtain⟨o,g,_⟩:=r.ex;exact⟨aE g,aE g⟩
 keep:=fun h l r k=>r.kept (k d (.inl rfl))
 notList:=by decide
 notTuple:=by decide
 hint:=fun A E s Q r q=>PySem.W.kdl_hint_dict r.ty q
 iter:=fun A s u r=>by
  obtain⟨x,y,z⟩:=yr (prog:=prog) (w:=w) (A:=A) t r;have ne:d≠s.heap.objs.size:=by obtain⟨o,g,_⟩:=r.ex;exact bO (aE g)
  refine⟨x,fun i h=>h.IsKeyIter s.heap.objs.size d i f.size j/\sP h d f j,y,⟨by simp,?_,?_,?_,?_⟩,z,r.kept fun o e=>aV _ e⟩
  ·rintro i h l ⟨a,b⟩ k;obtain⟨o,e,c⟩:=a;exact⟨⟨o,k _ (by simp) o e,c⟩,b.kept fun o e=>k d (by simp) o e⟩
  ·rintro i n Q E hi ⟨a,b⟩ q;refine AX a b hi fun l B p=>q _ _ _ (by simp[hi]) ⟨B,b.kept fun o e=>(p.2 d ne).trans e⟩ fun b o m e=>(p.2 b (by simpa using m)).trans e
  ·rintro n Q E ⟨a,b⟩ q;exact B4 u a b (aO _) fun l C=>q _ _ fun b o m e=>C b o (by simpa using m) e
  ·rintro i n Q E ⟨a,b⟩ q;exact wpAny_pyIter_keyiter a q
abbrev yu(K:Za):List V->Hp->VK->Prop:=fun xs H Q=>∃(d:Addr) (kvs:List (TK×V)),xs=[.ref d]/\H d=some (.dT kvs) /\
 ∀(l:Addr) (us:Ze),H l=none->Paired (fun u (kv:TK×V)=>sO K H kv.1 (.ref u)) us kvs->Q (.ref l) (upd H l (.lst (us.map V.ref)))
theorem yW{X:Cx}(D:X.calm=true):fG X (.type "list") (yu X.K):=by
 intro J3 s σ H xs us Q I r h;obtain⟨d,i,rfl,e,q⟩:=h;obtain⟨u,rfl,E⟩:=vals1 r;cases E;obtain⟨z,k,xs,g,o,y,ep,G,ex,J,f,B⟩:=id (show b_ X.prog X.w X.K H s.heap d (.dT i)from I.hok d _ e);have m:=Paired.length g;have p:y.size=xs.length:=by rw[<-mG,f,ao]
 refine PySem.W.kdl_call (Dw k) (I.ok.hd D) ⟨o,G,ex,J⟩ (by rw[p,<-m];exact z) fun h' tk a c L M l=>?_;obtain⟨hn,N⟩:=l;have t:a.toList=xs.map fun x=>Value.ref x.2.1:=by
  apply List.ext_getElem?;intro j;by_cases O:j<a.size
  ·have n:a[j]?=some a[j]:=by simp[O]
   have T:=N j _ n;have U:y[j]?=(xs[j]?).map fun x=>entryOfKey (eo X.prog X.w) x:=by rw[<-qN,f,dq]
   rw[qN,n,dq,<-T,U];cases xs[j]?<;>rfl
  ·have n:a[j]?=none:=by simp;omega
   rw[qN,n,dq,List.getElem?_eq_none (by omega)]
   rfl
 have C:aP ((xs.map (·.2.1)).map V.ref) a.toList:=by
  rw[t];clear t g m p f B
  induction xs with
  |nil=>exact .nil
  |cons x xs v=>exact .cons rfl v
 have Y:Paired (fun u (kv:TK×V)=>sO X.K H kv.1 (.ref u)) (xs.map (·.2.1)) i:=by
  clear t C m p f B e q z
  induction g with
  |nil=>exact .nil
  |cons h _ v=>exact .cons h.2.1 v
 refine⟨.ref s.heap.objs.size,_,I.laid (o:=.lst ((xs.map (·.2.1)).map V.ref)) L (aO _) ⟨by rw[ao,ao,<-m];exact z,a.toList,c,C,by rw[Array.toArray_toList];exact M⟩,rfl,q _ _ I.fresh Y⟩
section
variable{X:Cx}{e:Expr}{es:List Expr}{t:TA}{p pos:Pos}
theorem qLT(f:X.calm=true)(g:X.mg "list"=none)(h:PA X (e::es) t)(i:Gl X "list":=by rfl)
  (j:au (e::es) X.env=(false,eval e X.env)::au es X.env:=by rfl) (a:(backTo pos (au es X.env)).any (·.1)=false:=by rfl):PE X (.Call (.Name "list" p) (e::es) [] pos) (cJ (yu X.K) t):=oF (yW f) i g mi h (by decide) (by decide) j a
end
theorem A6{P:bg}{w:World}{K:Za}{I mb:Str->Option Value}{CX:Bx}{k:Nat}{fa a:Addr}{fd:hZ}{x:Str}{sp:Sp}{f:Shared}{E:Zf}{J:List Int}
  {t:Addr}{B:List V}(zt:B.length<=am) (hT:∃(o:Obj) (j:Array Value) (n:Nat),K.lookup t=some o/\o.cls=.type "tuple"/\o.data=.seq j n/\j.size<=am/\aP B j.toList)
  (KX:K.In f.heap) (L:f.heap.Ns bq I) (i:f.heap.Ns builtinsNs mb) (ab:∀x:Str,x≠"__name__"->mb x=iQ x) (M:f.heap.NoLimit) (hg:f.gens=#[])
  (N:f.heap.get? a=some { cls:=.type "list",data:=.seq E.toArray }) (hi:qJ E J) (hl:J.length<=am) (hr:cx k lP)
  (F:∀base:Heap,K.In base->base.Ns bq I->gJ P w K I base CX k fa fd [x] sp) (G:∀(s:Shared) (u:Value),sU s fd ⟨[u],[]⟩ [(x,u)])
  (ak:∀H:Hp,H t=some (.tup B)->aB K H a (J.map V.int)->sp [.ref a] H (fun v _=>v=.bl true) fun _ _ _=>False)
  (al:∀H e l,CX [] H f (fun _ _ _=>False) e l->False) :
  zzl83 (model P w) lP (.call (.ref fa) ⟨[.ref a],[]⟩) (fun r l=>r=.ok (.ret (.bool true))/\OldK f.heap l.heap/\l.os=f.os/\lF l.gens) f:=by
 have rv:=sZ hi;have O:=hi.length;have C:∀H:Hp,Only H->aB K H a (J.map V.int)->j3 P w K H f.heap->(∀b,H b≠none->b=a)->(H a≠none->K.lookup a=none) ->
   zzl83 (model P w) lP (.call (.ref fa) ⟨[.ref a],[]⟩) (fun r l=>r=.ok (.ret (.bool true))/\OldK f.heap l.heap/\l.os=f.os/\lF l.gens) f:=by
  intro H hO hS an hA hK;obtain⟨ot,j,nt,lt,ct,dt,_,vt⟩:=hT;have gt:=KX t ot lt;have ta:t≠a:=fun z=>by
   rw[z,N]at gt;cases gt;injection ct with ct;exact absurd ct (by decide)
  have Ht:H t=none:=by
   cases q:H t with
   |none=>rfl
   |some u=>exact absurd (hA t (by rw[q];simp)) ta
  have S2:ae H (upd H t (.tup B)):=fun b o e=>by rw[ai (ah e Ht)];exact e
  have D:j3 P w K (upd H t (.tup B)) f.heap:=fun b u z=>by
   by_cases c:b=t
   ·subst c;rw[aa]at z;cases z;exact⟨zt,j.toList,vt,ot,gt,ct,nt,by rw[dt]⟩
   ·rw[ai c]at z;rcases hO b with y|⟨ob,xs,y⟩
    ·rw[z]at y;cases y
    ·rw[z]at y;cases y;obtain⟨e1,e2⟩:=an b _ z;exact⟨e1,e2⟩
  have g:∀{b:Addr}{o:Obj},f.heap.get? b=some o->H b=none->(vn f.heap H).get? b=some o:=fun e n=>CF e n;have ap:∀{b:Addr}{o:Obj}{es:Array ka}{Q:Nat},f.heap.get? b=some o->o.data=.dict es Q->H b=none:=fun{b o es Q} e d=>by
   cases q:H b with
   |none=>rfl
   |some u =>
    have e':b=a:=hA b (by rw[q];simp);subst e';rw[N]at e;cases e;have d':Data.seq E.toArray _=Data.dict es Q:=d;cases d'
  have p:∀{b:Addr}{m:Str->Option Value},f.heap.Ns b m->(vn f.heap H).Ns b m:=fun{b m} ⟨o,es,Q,e,d,r⟩=>⟨o,es,Q,g e (ap e d),d,r⟩;have T:K.In (vn f.heap H):=fun b o e=>g (KX b o e) (by
   cases q:H b with
   |none=>rfl
   |some u =>
    have e':b=a:=hA b (by rw[q];simp);subst e';rw[hK (by rw[q];simp)]at e;cases e)
  have hM:Mod K I (vn f.heap H):=⟨T,p L,⟨mb,p i,ab⟩,let⟨mc,h1,h2⟩:=M;⟨mc,p h1,h2⟩⟩;have e0:zg P w K I (vn f.heap H) lP [] f (upd H t (.tup B)):=⟨rfl,hM,fun b o e=>(DP e).imp id fun n=>(by
   by_cases c:b=t
   ·rw[c,aa];exact .inr ⟨_,rfl⟩
   ·rw[ai c];exact .inl n),Nat.le_of_eq (Bb _ _),trivial,fun b i=>absurd (show b∈([]:Ze)from i) (by simp),D,.of_eq hg⟩
  refine qi ((F _ T (p L)).run lP [] f (upd H t (.tup B)) ⟨[.ref a],[]⟩ [.ref a] [.ref a] _ _ hr e0 (G f (.ref a)) (.cons rfl .nil) (ak _ aa (ae.seq S2 hS))) fun r l h=>?_;cases r with
  |error e=>exact(al _ e l h).elim
  |ok fl =>
   cases fl with
   |next=>exact cg h
   |brk=>exact cg h
   |cont=>exact cg h
   |ret u =>
    obtain⟨v,H',os,U,un,Y,r',q⟩:=h;have q':v=.bl true:=q;subst q';obtain rfl:u=Value.bool true:=r';refine⟨rfl,OldK.of_keep fun b o e=>?_,os,U⟩;cases q:upd H t (.tup B) b with
    |none=>exact un.keep b o e q (by intro z;exact absurd (show b∈([]:Ze)from z) (by simp)) (by simp)
    |some u =>
     by_cases c:b=t
     ·subst c;exact un.tupk b _ o aa e
     ·have q2:=q;rw[ai c]at q2;rcases hO b with z|⟨ob,xs,z⟩
      ·rw[q2]at z;cases z
      ·rw[q2]at z;cases z;have z2:=un.frzs b ob _ q;obtain⟨e1,_⟩:=D b _ q;obtain⟨e2,_⟩:=Y b _ z2;rw[e]at e1;cases e1;exact e2
 cases hk:K.lookup a with
 |some o =>
  have e:=KX a o hk;rw[N]at e;cases e;refine C (fun _=>none) (fun _=>.inl rfl) (.inr ⟨_,E.toArray,_,hk,rfl,rfl,rfl,by rw[bE,O];exact hl,by simpa using rv⟩) (fun b u z=>by have z':(none:Option HO)=some u:=z;cases z') (fun b z=>absurd rfl z) fun z=>absurd rfl z
 |none =>
  refine C (fun b=>if b=a then some (.frz { cls:=.type "list",data:=.seq E.toArray } (.lst (J.map V.int)))else none) (fun b=>?_) (.inl (.inr ⟨{ cls:=.type "list",data:=.seq E.toArray },if_pos rfl⟩)) (fun b u z=>?_) (fun b z=>?_) fun _=>hk
  ·by_cases i:b=a
   ·exact .inr ⟨_,_,if_pos i⟩
   ·exact .inl (if_neg i)
  ·by_cases i:b=a
   ·have z':=(if_pos i).symm.trans z;cases z';subst i;exact⟨N,by rw[ao];exact hl,E,_,rv,N⟩
   ·have z':=(if_neg i).symm.trans z;cases z'
  ·by_cases i:b=a
   ·exact i
   ·exact absurd (if_neg i) z
theorem walk_ofT{l:PySem.W.OpenLaw}{n k:Nat}{q:bg}{loose:Zb}{XP:(Str->Option Value)->Heap->Prop}{O:World->Heap->Prop}{d:DefRec}{K:Params->Za}{CX:Bx}{sp:Za->Sp}{x:Str}{PT:Za->Addr->Prop}{ts:List V}(zt:ts.length<=am)
  (hT:∀(w:World) (h:Heap),(K w.params).In h->∃t,PT (K w.params) t/\∃(o:Obj) (j:Array Value) (n:Nat),(K w.params).lookup t=some o/\o.cls=.type "tuple"/\o.data=.seq j n/\j.size<=am/\aP ts j.toList)
  (hn:l.most=some n) (B:n<=am) (C:d.params.defaults=[]) (hr:cx k lP)
  (hY:∀(w:World) (h:Heap),O w h->(K w.params).In h)
  (F:∀(w:World) (m:Str->Option Value) (y:Addr) (h:Heap),(K w.params).In h->h.Ns bq m->m d.name=some (.ref y) ->
   ∃D:hZ,(∀(s:Shared) (u:Value),sU s D ⟨[u],[]⟩ [(x,u)]) /\
    ∀base:Heap,(K w.params).In base->base.Ns bq m->gJ l.prog w (K w.params) m base CX k y D [x] (sp (K w.params)))
  (E:∀(K:Za) (t:Addr) (H:Hp) (a:Addr) (z:List Int),PT K t->H t=some (.tup ts)->z.length<=n->aB K H a (z.map V.int)->sp K [.ref a] H (fun v _=>v=.bl true) fun _ _ _=>False)
  (I:∀(H:Hp) (s:Shared) (e:Value) (J:Shared),CX [] H s (fun _ _ _=>False) e J->False) :
  PySem.W.WalkO q loose XP O l.row.toRowW d [] (fun f Q=>PySem.call f Q):=by
 refine Att.attach_call hn C fun w U p m mb y o pm cd doc a Q z G Y ho hd ab L r hints i hg=>?_;have M:=hY w _ Y;obtain⟨D,hb,hF⟩:=F w m y _ M G.T.g L;obtain⟨t,pt,N⟩:=hT w _ M;exact A6 zt N M G.T.g G.T.b G.T.builtins G.T.nolimit hg r hints (bp i B) hr hF hb (fun H ht hS=>E _ t H a z pt ht i hS) fun H e J=>I H p e J
end L2
end
set_option Elab.async false
set_option linter.all false
set_option maxRecDepth 100000
set_option maxHeartbeats 4000000
namespace Mum
open PySem PySem.Spec PyProof.Rows L2
def uI(K:Za):TS :=
 av (bS (ba (aM rGeI V0 (aM Eu (tC (.int 10)) (tC (.int 18))))) (bb V0) (aZ))
 (av (aR (aM iV (aM dz (aM dz (aM kG (aM iV V0 (tC (.int 1000000007))) (tC (.int 69069))) (aM kG V1 (tC (.int 40503)))) (tC (.int 977))) (tC (.int 2147483629))) U2)
 (av (aR (aM iV (aM dz (aM dz (aM kG V2 V2) (aM kG V1 (tC (.int 7919)))) (aM iV V0 (tC (.int 65537)))) (tC (.int 2147483587))) U3)
 (av (aR (aM iV (aM dz (aM dz (aM kG V3 V3) (aM kG V2 (tC (.int 31)))) (tC (.int 5))) (tC (.int 2147483563))) U4)
 (bb (aM dz (aM kG (aM dz (aM kG V2 (tC (.int 2147483659))) V3) (tC (.int 2147483693))) V4)))))
def vL:List Str:=["cell","at","one","two","three"]
def xW(K:Za):TS :=
 av (aR (cJ (cZ K) (aK (x8 (wH K) V0 (dY) (gk (tC (.int 12)))))) U1)
 (av (iM (nu K (aK (x8 (wH K) V0 (gk (tC (.int 12))) (gk (tC (.int 63)))))) (jO K 2 (bu U2 (bu U3 (ji)))) (aR (aM dz (aM (eJ K) V1 (aM iV V2 (tC (.int 12)))) V3) (yQ V1 (aM iV V2 (tC (.int 12))) rm)))
 (bb (gS (gR V1 (tC (.int 0)) (tC (.int 0))))))
def zb:List Str:=["script","cells","k","cell"]
def xX(K:Za):TS :=
 av (aR (tC (.int 0)) (yQ V0 (tC (.int 2)) rm))
 (bb V0)
def zc:List Str:=["pen"]
def xV(K:Za)(sp_law_spread:Sp):TS :=
 av (bS (ba (aM Fp (aM (eJ K) V0 (tC (.int 2))) V1)) (av (aR (aM (eJ K) V0 (tC (.int 1))) U2)
 (av (aR (tC (.int 0)) U3)
 (av (bS (ba (aM Fp V2 (cJ (dJ K) (aK (aM (eJ K) V0 (tC (.int 0))))))) (aR (aM (eJ K) (aM (eJ K) V0 (tC (.int 0))) V2) U3) (bS (ba (aM Gs (cJ (dJ K) (aK (aM (eJ K) V0 (tC (.int 0))))) (tC (.int 0)))) (aR (aM iV (aM (eJ K) (aM (eJ K) V0 (tC (.int 0))) (aM iV (aM dz (aM kG V2 (tC (.int 5))) (tC (.int 3))) (cJ (dJ K) (aK (aM (eJ K) V0 (tC (.int 0))))))) (aM dz (aM Eu (tC (.int 10)) (tC (.int 17))) V2)) U3) (aZ)))
 (av (aR (aM dz V2 (tC (.int 1))) (yQ V0 (tC (.int 1)) rm))
 (aR (aL sp_law_spread (aF V3 V2)) (yQ V0 (tC (.int 2)) rm)))))) (aZ))
 (av (aR (aM iV (aM (eJ K) V0 (tC (.int 2))) V1) U4)
 (av (aR (aM B7 (aM (eJ K) V0 (tC (.int 2))) V1) (yQ V0 (tC (.int 2)) rm))
 (bb V4)))
def y_:List Str:=["pen","many","at","cell","found"]
def we(K:Za)(sp_law_take:Sp):TS :=
 av (aR (tC (.str "abcdefghijklmnopqrstuvwxyz")) U2)
 (av (aR (yf K "str" (zV K) (tC (.str "")) (az (de 1 [2,0] (rQ (aK (tC (.int 7)))) U0 (ln) (aM uZ V1 (aL sp_law_take (aF V2 (tC (.int 26)))))) bA)) U3)
 (av (aR (aL sp_law_take (aF V0 (tC (.int 3)))) U4)
 (av (aR (aL sp_law_take (aF V0 (tC (.int 26)))) U5)
 (av (aR (aL sp_law_take (aF V0 (tC (.int 8)))) U6)
 (av (aR (gS (bA)) U7)
 (av (iM (rQ (aK V1)) U8 (av (aR (aM uZ V2 (aM iV (aM dz V5 (aM kG (tC (.int 3)) V8)) (tC (.int 26)))) U9)
 (av (aR (x8 wG V3 (dY) (gk (aM iV (aM dz V6 (aM kG V8 (aM iV V4 (tC (.int 2))))) (tC (.int 8))))) U10)
 (av (aR (aM (eJ K) (gS (gR (tC (.int 0)) (cJ (dJ K) (aK GI)) (aM B7 (cJ (dJ K) (aK GI)) (tC (.int 2))))) V4) U11)
 (dF (yf K "list" gU V7 (aK (aM tF (aM tF (x8 wG GI (dY) (gk V11)) V9) (x8 wG GI (gk V11) (dY))))))))))
 (bb V7)))))))
def xB:List Str:=["pen","many","letters","base","way","turn","size","found","k","sign","part","at"]
def AJ(K:Za):TS :=
 bS (ba (aM (l_ K true) V1 V0)) (dF (yf K "list" gU V0 (aK V1))) (aZ)
def Bn:List Str:=["doors","door"]
def og(K:Za)(sp_law_take:Sp)(sp_law_put:Sp):TS :=
 av (aR (gS (bA)) U5)
 (av (aR (aL sp_law_take (aF V0 (tC (.int 2)))) U6)
 (av (iM (nu K (aK V3)) (jO K 2 (bu U7 (bu U8 (ji)))) (av (iM (rQ (az (aM (eJ K) (gS (az (tC (.int 0)) (gR (tC (.int 1)) (tC (.int 1)) (tC (.int 2))))) (aL sp_law_take (aF V0 (tC (.int 4))))) bA)) U9 (av (aR (eV (az (tC (.str "say")) (az (aM (eJ K) V2 (aL sp_law_take (aF V0 (cJ (dJ K) (aK V2))))) bA))) U10)
 (dF (aL sp_law_put (az V5 (az (eV (az V8 (az GI (az (aM (eJ K) V3 (aL sp_law_take (aF V0 (cJ (dJ K) (aK V3))))) bA)))) bA))))))
 (av (iM (dR K V1) U11 (iM (rQ (az (aM (eJ K) (gS (az V4 (gR (tC (.int 1)) (tC (.int 1)) (tC (.int 2))))) (aL sp_law_take (aF V0 (tC (.int 4))))) bA)) U9 (dF (aL sp_law_put (az V5 (az (eV (az V8 (az (eV (aF (tC (.str "ask")) V11)) (az (aM (eJ K) V3 (aL sp_law_take (aF V0 (cJ (dJ K) (aK V3))))) bA)))) bA))))))
 (av (aR (aM (eJ K) (gS (az (x8 (wH K) V3 (gk (aM dz V7 (tC (.int 1)))) (dY)) (aK (x8 (wH K) V3 (dY) (gk V7))))) V6) U12)
 (bS (oo (ba (aM (Dx K) V12 (gS (bA)))) (ba (aM u5 (aL sp_law_take (aF V0 (tC (.int 3)))) (tC (.int 0))))) (dF (aL sp_law_put (az V5 (az (eV (az V8 (az (eV (aK (tC (.str "still")))) (az (aM (oy K) V12 (aL sp_law_take (aF V0 (cJ (dJ K) (aK V12))))) bA)))) bA)))) (aZ))))))
 (bb V5)))
def oZ:List Str:=["pen","asks","says","rooms","full","doors","down","k","room","turn","sign","ask","later"]
def wg(K:Za)(sp_law_draw_doors:Sp)(sp_law_names:Sp)(sp_law_take:Sp)(sp_law_anew:Sp):TS :=
 av (dF (aL sp_law_anew (aK V0)))
 (av (aR (aL sp_law_names (aF V0 (tC (.int 8)))) U3)
 (av (aR (x8 (wH K) V3 (dY) (gk (aM dz (tC (.int 1)) (aM (eJ K) (gS (az (tC (.int 0)) (az (tC (.int 1)) (az (tC (.int 1)) (gR (tC (.int 2)) (tC (.int 2)) (tC (.int 3))))))) (aL sp_law_take (aF V0 (tC (.int 6)))))))) U4)
 (av (aR (x8 (wH K) V3 (gk (tC (.int 4))) (gk (aM dz (tC (.int 5)) (aM (eJ K) (gS (az (tC (.int 0)) (az (tC (.int 1)) (az (tC (.int 1)) (gR (tC (.int 2)) (tC (.int 2)) (tC (.int 3))))))) (aL sp_law_take (aF V0 (tC (.int 6)))))))) U5)
 (av (aR (aL sp_law_names (aF V0 (aM dz (tC (.int 1)) (aL sp_law_take (az V0 (aK V1)))))) U6)
 (av (aR (aL sp_law_draw_doors (az V0 (az V4 (gR V5 V6 V2)))) U7)
 (bb (eV (az V4 (gR V5 V6 V7)))))))))
def xC:List Str:=["pen","most","full","words","asks","says","rooms","doors"]
def sw(K:Za)(C_Machine:Addr)(sp_Machine_init:Sp):TS :=
 bb (tq C_Machine sp_Machine_init [] E0 (az (cJ (cZ K) (aK (aM (oy K) V0 (tC (.int 0))))) (az (cJ (cZ K) (aK (aM (oy K) V0 (tC (.int 1))))) (az (cJ (cZ K) (aK (aM (oy K) V0 (tC (.int 2))))) (az (cJ (cZ K) (aK (aM (oy K) V0 (tC (.int 3))))) bA)))))
def sR:List Str:=["told"]
def AK(K:Za):TS :=
 bb (fF (aM Dy V0 (tC (.str ""))) (fF (aM rLeI (cJ (dJ K) (aK V0)) (tC (.int 8))) (cJ (AY K) (aK (de 1 [] (GA V0) U0 (ln) (aM rInS V0 (tC (.str "abcdefghijklmnopqrstuvwxyz"))))))))
def Bo:List Str:=["text"]
def AL(K:Za):TS :=
 av (aR (q0) U1)
 (av (iM (dR K V0) U2 (pB V1 V2 (tC (.bl true))))
 (bb V1))
def o6:List Str:=["things","keys","thing"]
def lY(K:Za)(sp_is_name:Sp)(sp_as_keys:Sp):TS :=
 av (bS (ba (aM u5 (cJ (dJ K) (aK V0)) (tC (.int 0)))) (bb (tC (.int 0))) (aZ))
 (av (aR (aL sp_as_keys (aK V2)) U3)
 (av (iM (nu K (aK V0)) (jO K 2 (bu U4 (bu U5 (ji)))) (av (bS (BN (ba (aM u5 V4 V1)) (BN (tB (AO K V5 V3)) (pP (tB (aL sp_is_name (aK V5)))))) (bb V4) (aZ))
 (pB V3 V5 (tC (.bl true)))))
 (bb (tC .non))))
def mn:List Str:=["names","most","taken","ahead","number","name"]
def uJ(K:Za)(a_STILL:Addr):TS :=
 bb (aM yv (aM yv (de 1 [] (dR K V0) U0 (ln) (eV (aF (tC (.str "ask")) V0))) (de 1 [] (dR K V1) U0 (ln) (eV (aF (tC (.str "say")) V0)))) (gS (aK (tC (.ref a_STILL)))))
def vM:List Str:=["asks","says"]
def lZ(K:Za)(sp_as_keys:Sp):TS :=
 av (aR (aL sp_as_keys (aK V1)) U3)
 (av (aR (uT) U4)
 (av (iM (nu K (aK V0)) (jO K 2 (bu U5 (bu U6 (ji)))) (av (bS (BN (ba (aM u5 V5 (tC (.int 2000)))) (tB (AO K V6 V4))) (bb V5) (aZ))
 (av (bS (BN (tB (p7 K (aM (oy K) V6 (tC (.int 0))) V3)) (BN (ba (aM (l_ K true) (aM (oy K) V6 (tC (.int 1))) V2)) (tB (p7 K (aM (oy K) V6 (tC (.int 2))) V3)))) (bb V5) (aZ))
 (pB V4 V6 (tC (.bl true))))))
 (bb (tC .non))))
def mo:List Str:=["doors","rooms","signs","own_rooms","ahead","number","door"]
def iL(K:Za):TS :=
 av (aR (uT) U1)
 (av (iM (dR K V0) (jO K 3 (bu U2 (bu U3 (bu U4 (ji))))) (dF (yf K "list" gU (yf K "dict" zU V1 (aF (eV (az V2 (aK V3))) (gS (bA)))) (aK V4))))
 (bb V1))
def iN:List Str:=["doors","goals","start","sign","goal"]
def qR(K:Za)(a_STILL:Addr):TS :=
 av (aR (q0) U2)
 (av (aR (gS (aK V1)) U3)
 (av (xZ (ba (aM Gs (cJ (dJ K) (aK V3)) (tC (.int 0)))) (av (aR (Gn K "list" Gr V3) U4)
 (iM (GB K (ye K V0 (eV (aF V4 (tC (.ref a_STILL)))) (eV (bA)))) U5 (bS (tB (p7 K V5 V2)) (av (pB V2 V5 (tC (.bl true)))
 (dF (yf K "list" gU V3 (aK V5)))) (aZ)))))
 (bb V2)))
def si:List Str:=["goals","room","led","waiting","here","goal"]
def mK(K:Za):TS :=
 av (iM (nu K (aK V0)) (jO K 2 (bu U2 (bu U3 (ji)))) (bS (tB (AO K V3 (zO K V1 V3))) (bb V2) (aZ)))
 (bb (tC .non))
def nK:List Str:=["rooms","led","number","room"]
def xy:List Str:=["part","number"]
def uG(K:Za)(sp_need_none:Sp)(sp_first_wrong_door:Sp)(sp_door_signs:Sp)(sp_first_wrong_name:Sp):TS :=
 av (dF (aL sp_need_none (aF (tC (.str "asks")) (aL sp_first_wrong_name (gR V0 (tC (.int 4)) (gS (bA)))))))
 (av (dF (aL sp_need_none (aF (tC (.str "says")) (aL sp_first_wrong_name (gR V1 (tC (.int 4)) V0)))))
 (av (dF (aL sp_need_none (aF (tC (.str "rooms")) (aL sp_first_wrong_name (gR V2 (tC (.int 150)) (gS (bA)))))))
 (dF (aL sp_need_none (az (tC (.str "doors")) (aK (aL sp_first_wrong_door (gR V3 V2 (aL sp_door_signs (aF V0 V1))))))))))
def vK:List Str:=["asks","says","rooms","doors"]
def oj(K:Za):TS :=
 av (aR (q0) U2)
 (av (iM (dR K V0) U3 (pB V2 V3 (gS (bA))))
 (av (iM (dR K V1) U4 (dF (yf K "list" gU (zO K V2 (aM (oy K) V4 (tC (.int 0)))) (aK V4))))
 (bb V2)))
def o5:List Str:=["rooms","doors","leaving","room","door"]
def oh(K:Za):TS :=
 bb (cJ (AY K) (az (de 1 [] (dR K V0) U0 (ln) (aM u5 (aM (oy K) (aM (oy K) V0 (tC (.int 1))) (tC (.int 0))) (tC (.str "ask")))) bA))
def o0:List Str:=["doors"]
def ic(K:Za)(sp_need_none:Sp)(sp_first_led_round:Sp)(sp_led_by_still:Sp)(sp_goals_by_start_and_sign:Sp)(sp_as_keys:Sp)(sp_has_asks_alone:Sp)(sp_doors_by_start:Sp)(sp_need_parts:Sp):TS :=
 av (dF (aL sp_need_parts (az V1 (gR V2 V3 V4))))
 (av (uX K V0 (cJ (cZ K) (aK V1)) "own_asks")
 (av (uX K V0 (cJ (cZ K) (aK V2)) "own_says")
 (av (uX K V0 (cJ (cZ K) (aK V3)) "own_rooms")
 (av (uX K V0 (cJ (cZ K) (aK V4)) "own_doors")
 (av (uX K V0 (aL sp_doors_by_start (aF V3 V4)) "leaving")
 (av (uX K V0 (aL sp_as_keys (az (de 1 [0] (dR K V3) U0 (tB (aL sp_has_asks_alone (aK (zO K (sB K V1 "leaving") V0)))) V0) bA)) "quiet")
 (av (uX K V0 (aL sp_goals_by_start_and_sign (aK V4)) "sign_goals")
 (av (uX K V0 (cJ (Dz K) (az (de 1 [0] (dR K V3) U0 (ln) (eV (aF V0 (aL sp_led_by_still (az (sB K V1 "sign_goals") (aK V0)))))) bA)) "still_led")
 (dF (aL sp_need_none (aF (tC (.str "still")) (aL sp_first_led_round (az V3 (aK (sB K V0 "still_led")))))))))))))))
def iF:List Str:=["self","asks","says","rooms","doors"]
def l5(K:Za):TS :=
 bb (AO K V1 (sB K V0 "quiet"))
def mq:List Str:=["self","room"]
def cv(p:Addr)(H H':Hp):Prop:=∀b o,H b=some o->b≠p->H' b=some o
theorem cv.refl(p:Addr)(H:Hp):cv p H H:=fun _ _ h _=>h
theorem cv.trans{p:Addr}{H e f:Hp}(a:cv p H e)(b:cv p e f):cv p H f:=fun c o h n=>b c o (a c o h n) n
theorem ae.exB{p:Addr}{H e:Hp}(a:ae H e):cv p H e:=fun b o h _=>a b o h
theorem cv.upd(p:Addr)(H:Hp)(o:HO):cv p H (upd H p o):=fun b u h n=>by rw[ai n];exact h
theorem ae.new{H:Hp}{a:Addr}{o:HO}(h:H a=none):ae H (upd H a o):=fun b u e=>by rw[ai (ah e h)];exact e
theorem cv.free{p:Addr}{H a:Hp}(e:cv p H a){u:HO}(f:a p=some u){l:Addr}(h:a l=none):H l=none:=by
 cases q:H l with
 |none=>rfl
 |some o =>
  by_cases z:l=p
  ·subst z;rw[f]at h;cases h
  ·rw[e l o q z]at h;cases h
theorem kp{H:Hp}{a b:Addr}{o x:HO}(h:H b=some o)(n:H a=none):upd H a x b=some o:=by rw[ai (ah h n)];exact h
structure Aw(H:Hp)(p c:Addr)(at_ rest:Int)(ns:List Int):Prop where
 pen:H p=some (.lst [.ref c,.int at_,.int rest])
 cells:H c=some (.lst (ns.map V.int))
 at0:0<=at_
 rest0:0<=rest
theorem Aw.ne{H:Hp}{p c:Addr}{a r:Int}{g:List Int}(h:Aw H p c a r g):c≠p:=by
 intro e;have i:=h.pen;have f:=h.cells;rw[e,i]at f;injection f with f;injection f with f;cases g with
 |nil=>cases f
 |cons n g=>injection f with f;cases f
def eW(H:Hp)(p c:Addr):Prop:=∃a r ns,Aw H p c a r ns
theorem eW.ex{H H':Hp}{p c:Addr}(h:eW H p c)(e:ae H H'):eW H' p c:=by
 obtain⟨a,r,f,g,i,j,k⟩:=h;exact⟨a,r,f,e _ _ g,e _ _ i,j,k⟩
theorem eW.pen{H:Hp}{p c:Addr}(h:eW H p c):∃o,H p=some o:=by
 obtain⟨a,r,f,e,_⟩:=h;exact⟨_,e⟩
theorem eW.cell{H:Hp}{p c:Addr}(h:eW H p c):∃o,H c=some o:=by
 obtain⟨a,r,f,_,e,_⟩:=h;exact⟨_,e⟩
theorem eW.upd{H:Hp}{p c l:Addr}{o:HO}(h:eW H p c)(e:p≠l)(f:c≠l):eW (upd H l o) p c:=by
 obtain⟨a,r,g,i,j,k,m⟩:=h;exact⟨a,r,g,by rw[ai e];exact i,by rw[ai f];exact j,k,m⟩
theorem eW.nep{H:Hp}{p c l:Addr}(h:eW H p c)(a:H l=none):p≠l:=let⟨_,e⟩:=h.pen;ah e a
theorem eW.nec{H:Hp}{p c l:Addr}(h:eW H p c)(a:H l=none):c≠l:=let⟨_,e⟩:=h.cell;ah e a
theorem cv.new{p:Addr}{H:Hp}{a:Addr}{o:HO}(h:H a=none):cv p H (L2.upd H a o):=fun b u e _=>by rw[ai (ah e h)];exact e
inductive kY (vs:List V)(H:Hp)(Q:VK)(E:XK):Prop
 |mk (c a:Int):(vs=[.int c,.int a])->(0<=a)->(∀r:Int,0<=r->Q (.int r) H)->kY  vs H Q E
theorem nG{i j:Int}(a:-(2 ^ 64)<j)(e:j<2 ^ 64):C4 i j:=.inr ⟨a,e⟩
theorem AS{K:Za}{f:List V}{H:Hp}{Q:VK}{E:XK}(h:kY f H Q E):uI K (bF Q) (start vL f) H:=by
 obtain⟨c,a,rfl,y,k⟩:=h;refine⟨_,rfl,_,_,rfl,rfl,⟨by decide,by decide,by decide⟩,_,_,rfl,rfl,_,rfl,?_⟩;refine iy (fun h=>?_) (fun _=>?_)
 ·refine⟨_,rfl,k _ ?_⟩;have:=of_decide_eq_true h;have e:((10:Int) ^ (18:Int).toNat)=1000000000000000000:=by decide
  omega
 ·have one:∀z:Int,0<=z % 2147483629/\z % 2147483629<2147483629:=fun z=>⟨nQ _ (by decide),nO _ (by decide)⟩;have two:∀z:Int,0<=z % 2147483587/\z % 2147483587<2147483587:=fun z=>⟨nQ _ (by decide),nO _ (by decide)⟩;have three:∀z:Int,0<=z % 2147483563/\z % 2147483563<2147483563:=fun z=>⟨nQ _ (by decide),nO _ (by decide)⟩;refine⟨_,rfl,_,_,rfl,rfl,(by show(0:Int)<1000000007;decide),_,_,rfl,rfl,nG (by decide) (by decide),_,rfl,_,_,rfl,rfl,nG (by decide) (by decide),_,_,rfl,rfl,_,_,rfl,rfl,_,_,rfl,rfl,(by show(0:Int)<2147483629;decide),?_⟩;generalize l:(c % 1000000007 * 69069+a * 40503+977)=g;obtain⟨m,n⟩:=one g;generalize g % 2147483629=o at m n ⊢;refine⟨_,rfl,_,rfl,_,_,rfl,rfl,nG (by omega) (by omega),_,rfl,_,_,rfl,rfl,nG (by decide) (by decide),_,_,rfl,rfl,_,rfl,_,_,rfl,rfl,(by show(0:Int)<65537;decide),_,_,rfl,rfl,_,_,rfl,rfl,(by show(0:Int)<2147483587;decide),?_⟩;generalize p:(o * o+a * 7919+c % 65537)=i;obtain⟨s,t⟩:=two i;generalize i % 2147483587=q at s t ⊢;refine⟨_,rfl,_,rfl,_,_,rfl,rfl,nG (by omega) (by omega),_,rfl,_,_,rfl,rfl,nG (by decide) (by decide),_,_,rfl,rfl,_,_,rfl,rfl,_,_,rfl,rfl,(by show(0:Int)<2147483563;decide),?_⟩;generalize u:(q * q+o * 31+5)=j;obtain⟨v,x⟩:=three j;generalize j % 2147483563=r at v x ⊢;refine⟨_,rfl,_,_,rfl,rfl,nG (by decide) (by decide),_,rfl,_,_,rfl,rfl,_,_,rfl,rfl,nG (by decide) (by decide),_,rfl,_,_,rfl,rfl,k _ ?_⟩;omega
def uU:Sp:=fun vs H Q _=>∃p c,vs=[.ref p]/\eW H p c/\∀H',eW H' p c->cv p H H'->Q (.ref p) H'
theorem Dv{K:Za}{e:List V}{H:Hp}{Q:VK}{E:XK}(h:uU e H Q E):xX K (bF Q) (start zc e) H:=by
 obtain⟨p,c,rfl,⟨a,r,f,h⟩,k⟩:=h;refine⟨_,rfl,p,_,_,_,rfl,rfl,h.pen,rfl,_,rfl,k _ ⟨a,0,f,aa,?_,h.at0,Int.le_refl 0⟩ (cv.upd _ _ _)⟩;rw[ai h.ne];exact h.cells
theorem Au{ns:List Int}{a:Int}(e:0<=a)(g:a<ns.length):∃z,y0 (ns.map V.int) a=some (.int z):=by
 obtain⟨n,rfl⟩:=gC e;have f:n<ns.length:=by omega
 exact⟨ns[n],c_ (by simp[f])⟩
inductive cw (vs:List V)(H:Hp)(Q:VK)(E:XK):Prop
 |mk (p c:Addr) (m:Int):(vs=[.ref p,.int m])->(eW H p c)->(0<m)->(m<1073741824)->(∀(r:Int) (H':Hp),0<=r->r<m->eW H' p c->cv p H H'->Q (.int r) H')->cw  vs H Q E
theorem bV{H:Hp}{Q:VK}{E:XK}{p c:Addr}{m:Int}(e:eW H p c)(f:0<m)(g:m<1073741824)(k:∀(r:Int) (a:Hp),0<=r->r<m->eW a p c->cv p H a->Q (.int r) a):cw [.ref p,.int m] H Q E:=by
 exact⟨p,c,m,rfl,e,f,g,k⟩
theorem Dq{K:Za}{t:List V}{H:Hp}{Q:VK}{E:XK}(h:cw t H Q E):xV K kY (bF Q) (start y_ t) H:=by
 obtain⟨p,c,m,rfl,⟨a,r,ns,h⟩,j,l,k⟩:=h;have f:∀(H':Hp) (n u:Int) (x y:Option V),Aw H' p c n u ns->cv p H H' ->
   (av (aR (aM iV (aM (eJ K) V0 (tC (.int 2))) V1) U4) (av (aR (aM B7 (aM (eJ K) V0 (tC (.int 2))) V1) (yQ V0 (tC (.int 2)) rm)) (bb V4)))
    (bF Q) [some (.ref p),some (.int m),x,y,none] H':=by
  intro H' n u x y g ex;refine⟨_,rfl,p,_,2,_,rfl,rfl,aB.of g.pen,rfl,_,rfl,_,_,rfl,rfl,j,?_⟩;refine⟨_,rfl,p,_,2,_,rfl,rfl,aB.of g.pen,rfl,_,rfl,_,_,rfl,rfl,⟨j,l⟩,_,rfl,p,_,_,_,rfl,rfl,g.pen,rfl,?_⟩;refine⟨_,rfl,k _ _ (nQ _ (by omega)) (nO _ j) ⟨n,_,ns,aa,?_,g.at0,Int.ediv_nonneg g.rest0 (by omega)⟩ (ex.trans (cv.upd _ _ _))⟩;rw[ai g.ne];exact g.cells
 refine⟨_,rfl,p,_,2,_,rfl,rfl,aB.of h.pen,rfl,_,rfl,_,_,rfl,rfl,_,rfl,?_⟩;refine iy (fun D=>?_) (fun D=>?_)
 ·-- at=pen[1];cell=0;if at<len(pen[0])
  refine⟨_,rfl,p,_,1,_,rfl,rfl,aB.of h.pen,rfl,?_⟩;have o:(V.int ((ns.map V.int).length:Nat))=V.int (ns.length:Nat):=by rw[ao]
  refine⟨_,rfl,_,rfl,p,_,0,_,rfl,rfl,aB.of h.pen,rfl,.inl ⟨c,_,rfl,.inl (aB.of h.cells),_,_,rfl,o,_,rfl,?_⟩⟩;refine iy (fun v=>?_) (fun v=>?_)
  ·obtain⟨z,s⟩:=Au (ns:=ns) h.at0 (of_decide_eq_true v);refine⟨_,rfl,p,_,0,_,rfl,rfl,aB.of h.pen,rfl,_,rfl,c,_,_,_,rfl,rfl,aB.of h.cells,s,?_⟩;refine⟨_,rfl,_,_,rfl,rfl,_,rfl,p,_,_,_,rfl,rfl,h.pen,rfl,?_⟩;refine⟨_,rfl,_,rfl,_,_,rfl,h.at0,fun q i=>⟨_,rfl,p,_,_,_,rfl,rfl,aa,rfl,?_⟩⟩;rw[mI];refine f _ (a+1) q _ _ ⟨aa,by rw[ai h.ne];exact h.cells,by have:=h.at0;omega,i⟩ (cv.upd _ _ _)
  ·refine⟨_,rfl,p,_,0,_,rfl,rfl,aB.of h.pen,rfl,.inl ⟨c,_,rfl,.inl (aB.of h.cells),_,_,o,rfl,_,rfl,?_⟩⟩;refine iy (fun B=>?_) (fun B=>?_)
   ·have C:(0:Int)<ns.length:=of_decide_eq_true B;obtain⟨z,s⟩:=Au (ns:=ns) (a:=(a * 5+3) % (ns.length:Int)) (nQ _ (by omega)) (nO _ C);refine⟨_,rfl,p,_,0,_,rfl,rfl,aB.of h.pen,rfl,_,rfl,_,_,rfl,rfl,nG (by decide) (by decide),_,_,rfl,rfl,_,rfl,p,_,0,_,rfl,rfl,aB.of h.pen,rfl,.inl ⟨c,_,rfl,.inl (aB.of h.cells),_,_,rfl,o,C,c,_,_,_,rfl,rfl,aB.of h.cells,s,?_⟩⟩;refine⟨_,_,rfl,rfl,⟨by decide,by decide,by decide⟩,_,rfl,_,_,rfl,rfl,_,_,rfl,rfl,?_,?_⟩
    ·have e:((10:Int) ^ (17:Int).toNat)=100000000000000000:=by decide
     have:=h.at0;show(0:Int)<10 ^ (17:Int).toNat+a;omega
    refine⟨_,rfl,_,_,rfl,rfl,_,rfl,p,_,_,_,rfl,rfl,h.pen,rfl,?_⟩;refine⟨_,rfl,_,rfl,_,_,rfl,h.at0,fun q i=>⟨_,rfl,p,_,_,_,rfl,rfl,aa,rfl,?_⟩⟩;rw[mI];refine f _ (a+1) q _ _ ⟨aa,by rw[ai h.ne];exact h.cells,by have:=h.at0;omega,i⟩ (cv.upd _ _ _)
   ·refine⟨_,rfl,_,_,rfl,rfl,_,rfl,p,_,_,_,rfl,rfl,h.pen,rfl,?_⟩;refine⟨_,rfl,_,rfl,_,_,rfl,h.at0,fun q i=>⟨_,rfl,p,_,_,_,rfl,rfl,aa,rfl,?_⟩⟩;rw[mI];refine f _ (a+1) q _ _ ⟨aa,by rw[ai h.ne];exact h.cells,by have:=h.at0;omega,i⟩ (cv.upd _ _ _)
 ·exact f H a r _ _ h (cv.refl _ _)
inductive p8(K:Za)(vs:List V)(H:Hp)(Q:VK)(E:XK):Prop
 |mk (a:Addr) (ns:List Int):(vs=[.ref a])->(aB K H a (ns.map V.int))->(ns.length<=63)->(∀(p c:Addr) (H':Hp),H p=none->eW H' p c->ae H H'->Q (.ref p) H')->p8 K vs H Q E
theorem tQ(a:List Int)(lo hi:Option Int):∃e:List Int,jm (a.map V.int) lo hi=e.map V.int/\e.length=(jm (a.map V.int) lo hi).length:=by
 refine⟨(a.drop (HT.sIx (a.map V.int).length 0 lo)).take (HT.sIx (a.map V.int).length (a.map V.int).length hi-HT.sIx (a.map V.int).length 0 lo),?_,?_⟩
 ·unfold jm;rw[t5,tZ]
 ·unfold jm;rw[aQ,aQ,fh,fh,ao]
theorem Dt{K:Za}{vs:List V}{H:Hp}{Q:VK}{E:XK}(h:p8 K vs H Q E):xW K (bF Q) (start zb vs) H:=by
 obtain⟨a,s,rfl,hs,hn,k⟩:=h;obtain⟨I,e0,l0⟩:=tQ s none (some 12);obtain⟨D,e1,l1⟩:=tQ s (some 12) (some 63);have J:D≠[]->I.length=12:=by
  intro N;have l:0<D.length:=by cases D with|nil=>exact absurd rfl N|cons _ _=>simp
  rw[l1]at l;rw[l0];unfold jm at l ⊢;rw[aQ,fh,ao]at l;rw[aQ,fh,ao];have s1:HT.sIx s.length 0 (some 12)=min 12 s.length:=HT.sIx_nat _ _ 12;have s2:HT.sIx s.length s.length (some 12)=min 12 s.length:=HT.sIx_nat _ _ 12;rw[HT.sIx_none,s2];rw[s1]at l;omega
 refine⟨_,rfl,_,rfl,a,_,rfl,hs,fun q hq=>.inl ⟨q,_,rfl,.inl (aB.of aa),fun c G=>?_⟩⟩;rw[e0]at G ⊢;have O:H c=none:=by
  have:c≠q:=fun z=>by subst z;rw[aa]at G;cases G
  rw[ai this]at G;exact G
 have hS:ae H (upd (upd H q (.lst (I.map V.int))) c (.lst (I.map V.int))):=(ae.new hq).trans (ae.new G);refine⟨_,rfl,_,rfl,_,rfl,a,_,rfl,hS.seq hs,fun r T=>⟨r,rfl,⟨_,aB.of aa⟩,?_⟩⟩;rw[e1];have U:c≠r:=ah aa T
 let Y:Nat->L2.St->Hp->Prop:=fun i σ B=>G9 fun(j:List Int) (x y:Option V)=>NA5 (σ=[some (.ref a),some (.ref c),x,y]) (B c=some (.lst (j.map V.int))) (j.length=I.length) (B r=some (.lst (D.map V.int))) (ae H B)
 refine gy (xs:=D.map V.int) Y
  ⟨I,none,none,rfl,kp aa T,rfl,aa,hS.trans (ae.new T)⟩ (fun i σ B _ zq=>by obtain⟨j,x,y,_,_,_,h,_⟩:=zq;exact aB.of h) ?_ ?_
 ·rintro i x σ B t hi ⟨j,u,v,rfl,f,L,M,m⟩ ht;have C:i<D.length:=by
   have:=(da.mp hi).1;rwa[ao]at this
  have al:=J (fun z=>by rw[z]at C;simp at C);obtain⟨z,rfl⟩:∃z,x=V.int z:=by
   rw[dq,jt C]at hi;exact⟨_,(dE hi).symm⟩
  have g:upd B t (.tup [.int i,.int z]) c=some (.lst (j.map V.int)):=kp f ht;have n:(i:Int) % 12=((i % 12:Nat):Int):=by omega
  have ab:i % 12<j.length:=by omega
  refine⟨t,_,rfl,bN.of aa,rfl,_,_,rfl,_,_,rfl,rfl,?_⟩;have ak:y0 (j.map V.int) ((i:Int) % 12)=some (.int j[i % 12]):=by rw[n];exact c_ (by simp[ab])
  refine⟨_,rfl,_,rfl,_,_,rfl,rfl,(by show(0:Int)<12;decide),c,_,_,_,rfl,rfl,aB.of g,ak,_,rfl,_,_,rfl,rfl,_,rfl,_,rfl,_,_,rfl,rfl,(by show(0:Int)<12;decide),c,_,_,i % 12,rfl,rfl,g,?_,?_⟩
  ·rw[n];unfold EH;rw[if_pos (by omega),if_pos (by rw[ao];omega)];rw[jw]
  ·refine⟨j.set (i % 12) (j[i % 12]+z),_,_,rfl,?_,by rw[uz];exact L,?_,?_⟩
   ·rw[aa,List.map_set]
   ·rw[ai U.symm];exact kp M ht
   ·intro b o e;rw[ai (ah e O)];exact kp (m b o e) ht
 ·rintro σ B ⟨j,x,y,rfl,f,L,M,m⟩;refine⟨_,rfl,(by show 3<=am;decide),fun p hp=>k p c _ (m.free hp) ⟨0,0,j,aa,kp f hp,Int.le_refl _,Int.le_refl _⟩ (m.trans (ae.new hp))⟩
def vf(c:Nat):Prop:=97<=c/\c<=122
structure o8(w:Str):Prop where
 lo:1<=w.length
 hi:w.length<=8
 al:∀c∈w.cps.toList,vf c
theorem Av:∀n:Nat,n<26->(("abcdefghijklmnopqrstuvwxyz":Str).cps.toList)[n]?=some (97+n):=by decide +kernel
theorem vH:("abcdefghijklmnopqrstuvwxyz":Str).length<=am:=by decide +kernel
theorem y3{r:Int}(a:0<=r)(e:r<26):y0 (("abcdefghijklmnopqrstuvwxyz":Str).cps.toList) r=some (97+r.toNat):=by
 obtain⟨n,rfl⟩:=gC a;rw[jw];exact c_ (Av n (by omega))
theorem sM(f:List Nat):∀a:Array Nat,((f.map fun c=>(⟨#[c]⟩:Str)).foldl (fun a p=>a++("":Str).cps++p.cps) a).toList=a.toList++f:=by
 have e:("":Str).cps=#[]:=by decide +kernel
 induction f with
 |nil=>intro a;simp
 |cons c f g =>
  intro a;rw[bo,List.foldl_cons,g,e];simp
theorem rP(a:List Nat):(qz "" (a.map fun c=>(⟨#[c]⟩:Str))).cps.toList=a:=by
 unfold qz bQ.Str.glued;cases a with
 |nil=>rfl
 |cons c a =>
  rw[bo];show((a.map fun c=>(⟨#[c]⟩:Str)).foldl (fun e p=>e++("":Str).cps++p.cps) #[c]).toList=_;rw[sM]
  rfl
theorem zP{a b:Str}(h:a.cps.toList=b.cps.toList):a=b:=by
 cases a with|mk x=>cases b with|mk y=>exact congrArg Str.mk (Array.toList_inj.mp h)
theorem bH(a:Str):a.length=a.cps.toList.length:=by simp[Str.length]
theorem qg(a b:Str):(a++b).cps.toList=a.cps.toList++b.cps.toList:=by
 show(a.cps++b.cps).toList=_;simp
theorem yT(z:Str)(m:Nat):(oW z none (some (m:Int))).cps.toList=z.cps.toList.take m:=by
 unfold oW;rw[HT.sIx_none,HT.sIx_nat,qA,Nat.sub_zero,bH];show List.take _ _=_;rw[List.take_eq_take_iff];omega
theorem xi(z:Str)(m:Nat):(oW z (some (m:Int)) none).cps.toList=z.cps.toList.drop m:=by
 unfold oW;rw[HT.sIx_none,HT.sIx_nat,bH];show List.take _ _=_;rw[t8 (by rw[fh];omega)];by_cases h:m<=z.cps.toList.length
 ·rw[Nat.min_eq_left h]
 ·rw[Nat.min_eq_right (by omega),qt,uf (by omega)]
def ef(way size k:Nat):Nat:=(size+k * (way % 2)) % 8
def xH(way m:Nat):Nat:=if way=0 then 0 else if way=1 then m else m / 2
def lH(b:List Nat)(way turn size k:Nat):List Nat :=
 (b.take (ef way size k)).take (xH way (ef way size k))++[97+(turn+3 * k) % 26]++(b.take (ef way size k)).drop (xH way (ef way size k))
def iJ(b:List Nat)(way turn size k:Nat):Str:=⟨(lH b way turn size k).toArray⟩
theorem n5{b:List Nat}(f:b.length=7)(e turn a k:Nat):(lH b e turn a k).length=ef e a k+1:=by
 have g:ef e a k<8:=qr _ (by decide);unfold lH;rw[aY,aY,aQ,fh,aQ,f];have:xH e (ef e a k)<=ef e a k:=by unfold xH;split;omega;split;omega;omega
 simp;omega
theorem Dh{b:List Nat}(i:b.length=7)(g:∀c∈b,vf c)(f turn a k:Nat):o8 (iJ b f turn a k):=by
 have j:ef f a k<8:=qr _ (by decide);have h:=n5 i f turn a k;have e:(iJ b f turn a k).cps.toList=lH b f turn a k:=by simp[iJ]
 refine⟨?_,?_,?_⟩
 ·rw[bH,e];omega
 ·rw[bH,e];omega
 ·rw[e];intro c hc;unfold lH at hc;rcases cj.mp hc with hc|hc
  ·rcases cj.mp hc with hc|hc
   ·exact g c (j_ (j_ hc))
   ·have:c=97+(turn+3 * k) % 26:=by simpa using hc
    subst this;have:(turn+3 * k) % 26<26:=qr _ (by decide);exact⟨by omega,by omega⟩
  ·exact g c (j_ (List.mem_of_mem_drop hc))
theorem BD{b:List Nat}(g:b.length=7){f turn a:Nat}(t:f<3){j k:Nat}(u:j<26)(v:k<26)(h:iJ b f turn a j=iJ b f turn a k):j=k:=by
 have o:∀i,ef f a i<8:=fun i=>qr _ (by decide);have e:lH b f turn a j=lH b f turn a k:=by
  have:=congrArg (fun s=>Str.cps s |>.toList) h;simpa[iJ]using this
 have p:ef f a j=ef f a k:=by
  have:=congrArg List.length e;rw[n5 g,n5 g]at this;omega
 have q:97+(turn+3 * j) % 26=97+(turn+3 * k) % 26:=by
  have l:∀i,xH f (ef f a i)<=ef f a i:=fun i=>by unfold xH;split;omega;split;omega;omega
  have get:∀i,(lH b f turn a i)[xH f (ef f a i)]?=some (97+(turn+3 * i) % 26):=by
   intro i;unfold lH;have r:((b.take (ef f a i)).take (xH f (ef f a i))).length=xH f (ef f a i):=by
    rw[aQ,aQ,g];have:=o i;have:=l i;omega
   rw[fb,nY (by omega),r,Nat.sub_self]
   rfl
  have m:=get j;have n:=get k;rw[e,p]at m;rw[m]at n;exact dE n
 omega
def gX(ws:Zb):Prop:=ws.Nodup/\∀w∈ws,o8 w
def jB(b:List Nat)(way turn size n:Nat):List Str:=(j8 n).map (iJ b way turn size)
theorem xM{b:List Nat}(g:b.length=7)(i:∀c∈b,vf c){a turn e n:Nat}(l:a<3)(q:n<=26):gX (jB b a turn e n):=by
 refine⟨?_,fun w m=>?_⟩
 ·unfold jB;rw[List.nodup_iff_pairwise_ne,List.pairwise_map];refine(List.nodup_range (n:=n)).imp_of_mem ?_;intro j k o p f h;exact f (BD g l (by have:=List.mem_range.mp o;omega) (by have:=List.mem_range.mp p;omega) h)
 ·obtain⟨k,_,rfl⟩:=bh.mp m;exact Dh g i _ _ _ _
inductive mT (vs:List V)(H:Hp)(Q:VK)(E:XK):Prop
 |mk (p c:Addr) (n:Nat):(vs=[.ref p,.int n])->(eW H p c)->(n<=26)->(∀(l:Addr) (ws:Zb) (H':Hp),gX ws->ws.length=n->H l=none->H' l=some (.lst (ws.map V.str))->eW H' p c->cv p H H'->Q (.ref l) H')->mT  vs H Q E
theorem BY{K:Za}{C:List V}{H:Hp}{Q:VK}{E:XK}(h:mT C H Q E):we K cw (bF Q) (start xB C) H:=by
 obtain⟨p,c,n,rfl,G,hn,k⟩:=h;refine⟨rfl,7,rfl,by decide,by decide,fun l L=>?_⟩
 let as:Nat->List V->Hp->Prop:=fun i C u=>∃o:List Nat,C=o.map (fun c=>V.str ⟨#[c]⟩)/\o.length=i/\(∀c∈o,vf c)/\eW u p c/\cv p H u/\u l=some (.lst C)
 refine r8 (lo:=0) (n:=Int.toNat 7) as
  ⟨[],rfl,rfl,(fun _ h=>nomatch h),G.ex (ae.new L),cv.new L,aa⟩ (fun i C u _ zq=>by obtain⟨_,_,_,_,_,_,h⟩:=zq;exact h) ?_ ?_
 rotate_left
 ·rintro i C u hi ⟨o,rfl,g,y,v,aC,aS⟩;have M:=G.nep L;have aT:=G.nec L;refine gN (xK ?_);refine⟨_,rfl,_,rfl,bV v (by decide) (by decide) fun r H2 h0 h1 I s=>⟨_,r,_,rfl,rfl,vH,y3 h0 h1,?_⟩⟩;have aX:=s l _ aS M.symm;refine⟨aX,by rw[ao,g];exact aG (by omega),pW hi ⟨o++[97+r.toNat],by rw[aN];rfl,by rw[aY,g];rfl,?_,I.upd M aT,?_,aa⟩⟩
  ·intro x hc;rcases cj.mp hc with hc|hc
   ·exact y x hc
   ·have:x=97+r.toNat:=by simpa using hc
    subst this;exact⟨by omega,by omega⟩
  ·intro b o' e nb;rw[ai (ah e L)];exact s b o' (aC b o' e nb) nb
 ·rintro C H1 ⟨o,rfl,g,y,a0,N,a4⟩;refine⟨"",l,o.map fun c=>(⟨#[c]⟩:Str),rfl,rfl,aB.of (by rw[a4,j9];rfl),?_,?_⟩
  ·have e0:("":Str).length=0:=by decide +kernel
   rw[e0,Nat.mul_zero,j9];have:∀o:List Nat,(o.map ((fun x=>Str.length x) ∘ fun c=>(⟨#[c]⟩:Str))).sum=o.length:=by
    intro o
    induction o with
    |nil=>rfl
    |cons c o ih=>rw[bo,List.sum_cons,ih,d7];show 1+_=_;omega
   rw[this,g];decide
  refine⟨_,rfl,bV a0 (by decide) (by decide) fun bd H2 w0 w1 I s=>?_⟩;refine⟨_,rfl,bV I (by decide) (by decide) fun turn H3 t0 t1 a5 O=>?_⟩;refine⟨_,rfl,bV a5 (by decide) (by decide) fun a9 H4 s0 s1 T U=>?_⟩;have Y:cv p H H4:=((N.trans s).trans O).trans U;obtain⟨j,rfl⟩:=gC w0;obtain⟨J,rfl⟩:=gC t0;obtain⟨sz,rfl⟩:=gC s0;have hb:=rP o;generalize qz "" (o.map fun c=>(⟨#[c]⟩:Str))=base at hb ⊢;refine⟨(by show 0<=am;decide),fun f hf=>?_⟩;obtain⟨op,a6⟩:=T.pen;have z:H f=none:=Y.free a6 hf;have ab:=G.nep z;have ak:=G.nec z;refine⟨_,rfl,n,rfl,by omega,by omega,oR (lo:=0) (n:=((n:Int)).toNat) (fun i σ u=>∃(a b c' d:Option V),σ=[some (.ref p),some (.int n),some (.str "abcdefghijklmnopqrstuvwxyz"),some (.str base),some (.int j),some (.int J),some (.int sz),some (.ref f),a,b,c',d] /\
   eW u p c/\cv p H u/\u f=some (.lst ((jB o j J sz i).map V.str)))
   ⟨_,_,_,_,rfl,T.upd ab ak,Y.trans (cv.new hf),aa⟩ ?_ ?_⟩
  ·rintro i σ u hi ⟨a,b,c',d,rfl,v,t,B⟩;have bi:i<n:=by omega
   have bl:j<3:=by omega
   have a7:((J:Int)+3 * (0+(i:Int))) % 26=(((J+3 * i) % 26:Nat):Int):=by omega
   refine⟨_,rfl,_,rfl,_,rfl,_,_,rfl,rfl,.inl ⟨by decide,by decide⟩,_,_,rfl,rfl,_,_,rfl,rfl,(by show(0:Int)<26;decide),_,_,_,rfl,rfl,vH,y3 (nQ _ (by decide)) (nO _ (by decide)),?_⟩;have al:base.length<=am:=by rw[bH,hb,g];decide
   have e8:((sz:Int)+(0+(i:Int)) * ((j:Int) % 2)) % 8=((ef j sz i:Nat):Int):=by
    unfold ef;have:j=0∨j=1∨j=2:=by omega
    rcases this with rfl|rfl|rfl<;>simp<;>omega
   refine⟨_,rfl,_,rfl,_,rfl,_,rfl,_,_,rfl,rfl,(by show(0:Int)<2;decide),_,_,rfl,rfl,.inr ⟨by omega,by omega⟩,_,_,rfl,rfl,_,_,rfl,rfl,(by show(0:Int)<8;decide),_,rfl,base,rfl,al,?_⟩;rw[e8];have m:=yT base (ef j sz i);rw[hb]at m;generalize oW base none (some ((ef j sz i:Nat):Int))=part at m ⊢;have h8:ef j sz i<8:=qr _ (by decide);have D:part.length=ef j sz i:=by rw[bH,m,aQ,g];omega
   have pz:part.length<=am:=by rw[D];exact eX (aG (by omega))
   refine⟨_,rfl,.inr ⟨part,rfl,pz,_,rfl,.inr ⟨part,rfl,pz,_,_,rfl,rfl,⟨by decide,by decide⟩,(by show 3<=am;decide),fun q hq=>?_⟩⟩⟩;have an:H q=none:=by
    obtain⟨bm,ap⟩:=v.pen;exact t.free ap hq
   have a8:y0 [V.int 0,V.int (part.length:Nat),V.int ((part.length:Int) / 2)] (j:Int)=some (.int (xH j (ef j sz i):Nat)):=by
    rw[D];have:j=0∨j=1∨j=2:=by omega
    rcases this with rfl|rfl|rfl
    ·rfl
    ·rfl
    ·show some (V.int (((ef 2 sz i:Nat):Int) / 2))=some (V.int ((xH 2 (ef 2 sz i):Nat):Int));have:xH 2 (ef 2 sz i)=ef 2 sz i / 2:=rfl;rw[this];congr 2
   refine⟨_,rfl,q,_,_,_,rfl,rfl,aB.of aa,a8,?_⟩;have aq:upd u q (.lst [V.int 0,V.int (part.length:Nat),V.int ((part.length:Int) / 2)]) f=some (.lst ((jB o j J sz i).map V.str)):=kp B hq;have c1:=yT part (xH j (ef j sz i));have c2:=xi part (xH j (ef j sz i));have l1:(oW part none (some ((xH j (ef j sz i):Nat):Int))).length<=8:=by rw[bH,c1,aQ,m,aQ,g];omega
   have l2:(oW part (some ((xH j (ef j sz i):Nat):Int)) none).length<=8:=by rw[bH,c2,fh,m,aQ,g];omega
   refine⟨_,rfl,.inl ⟨rfl,_,aB.of aq⟩,_,rfl,_,rfl,_,rfl,part,rfl,pz,_,rfl,_,_,rfl,rfl,?_,_,rfl,_,rfl,_,rfl,part,rfl,pz,_,_,rfl,rfl,?_,f,_,_,rfl,rfl,aq,?_,?_⟩
   ·have:Str.length ⟨#[97+(((J:Int)+3 * (0+(i:Int))) % 26).toNat]⟩=1:=rfl;rw[this];exact eX (aG (by omega))
   ·rw[bH,qg,aY,<-bH,<-bH];have:Str.length ⟨#[97+(((J:Int)+3 * (0+(i:Int))) % 26).toNat]⟩=1:=rfl;rw[this];exact eX (aG (by omega))
   ·rw[ao];unfold jB;rw[ao,List.length_range];exact aG (by omega)
   ·refine⟨_,_,_,_,rfl,(v.upd (G.nep an) (G.nec an)).upd ab ak,?_,?_⟩
    ·intro b' o' e nb;rw[ai (ah e z)];exact kp (t b' o' e nb) hq
    ·rw[aa];unfold jB;rw[List.range_succ,aN,aN];congr 3;show[V.str _]=[V.str _];congr 2;refine zP ?_;rw[qg,qg,c1,c2,m,a7,jw];simp[iJ,lH]
  ·rintro σ u ⟨a,b,c',d,rfl,v,t,B⟩;have en:((n:Int)).toNat=n:=by omega
   rw[en]at B;exact⟨_,rfl,k f _ u (xM g y (by omega) hn) (by unfold jB;rw[ao,List.length_range]) z B v t⟩
structure ar where
 a:Str
 sg:List Str
 b:Str
deriving DecidableEq
def SignAt(H:Hp)(s:Addr)(sg:Zb):Prop:=H s=some (.tup (sg.map V.str))
def dS(H:Hp)(t:Addr)(d:ar):Prop:=∃s,H t=some (.tup [.str d.a,.ref s,.str d.b])/\SignAt H s d.sg
def xF(H H':Hp):Prop:=∀b xs,H b=some (.tup xs)->H' b=some (.tup xs)
theorem dS.kt{H H':Hp}{t:Addr}{d:ar}(k:xF H H')(h:dS H t d):dS H' t d:=by
 obtain⟨s,a,e⟩:=h;exact⟨s,k _ _ a,k _ _ e⟩
theorem cv.kt{p:Addr}{H a:Hp}{xs:List V}(e:cv p H a)(f:H p=some (.lst xs)):xF H a:=fun b g h=>e b _ h (fun z=>by rw[z,f]at h;cases h)
theorem ae.kt{H a:Hp}(e:ae H a):xF H a:=fun b f h=>e b _ h
theorem xF.trans{H e f:Hp}(a:xF H e)(b:xF e f):xF H f:=fun x xs h=>b x xs (a x xs h)
theorem fy{H:Hp}{l:Addr}{xs:List V}{o:HO}(h:H l=some (.lst xs)):xF H (upd H l o):=fun b a e=>by
 rw[ai (fun z=>by rw[z,h]at e;cases e)];exact e
abbrev bD(H:Hp)(ts:Ze)(ds:List ar):Prop:=Paired (dS H) ts ds
theorem Paired.get{α β:Type}{R:α->β->Prop}{xs:List α}{a:List β}{i:Nat}{y:β}(g:Paired R xs a)(h:a[i]?=some y):∃x,xs[i]?=some x/\R x y:=by
 induction g generalizing i with
 |nil=>cases h
 |cons r _ e =>
  cases i with
  |zero=>injection h with h;subst h;exact⟨_,rfl,r⟩
  |succ i=>exact e h
theorem Paired.getL{α β:Type}{R:α->β->Prop}{xs:List α}{a:List β}{i:Nat}{x:α}(g:Paired R xs a)(h:xs[i]?=some x):∃y,a[i]?=some y/\R x y:=by
 induction g generalizing i with
 |nil=>cases h
 |cons r _ e =>
  cases i with
  |zero=>injection h with h;subst h;exact⟨_,rfl,r⟩
  |succ i=>exact e h
theorem bD.kt{H H':Hp}{a:Ze}{e:List ar}(k:xF H H')(h:bD H a e):bD H' a e:=Paired.mapP h fun _ _ r=>r.kt k
theorem upd_id{H:Hp}{a:Addr}{o:HO}(h:H a=some o):upd H a o=H:=by
 funext b;by_cases e:b=a
 ·subst e;rw[aa,h]
 ·rw[ai e]
def bW(x:Str):DT:=.k (.inr x)
def jk(d:ar):DT:=.t [bW d.a,.t (d.sg.map bW),bW d.b]
theorem mZ{x y:Str}(h:bW x=bW y):x=y:=by
 unfold bW at h;injection h with h;injection h
theorem iY:∀{x y:Zb},x.map bW=y.map bW->x=y
 |[],[],_=>rfl
 |[],_::_,h=>by cases h
 |_::_,[],h=>by cases h
 |a::x,b::y,h=>by
  rw[bo,bo]at h;injection h with e f;rw[mZ e,iY f]
theorem As{x y:ar}(h:jk x=jk y):x=y:=by
 unfold jk at h;injection h with h;injection h with e h;injection h with a h;injection h with f h;injection a with a;cases x;cases y;simp only at *;rw[mZ e,iY a,mZ f]
theorem bR(xs:Zb):DT.depths (xs.map bW)=0:=by
 induction xs with
 |nil=>rfl
 |cons x xs a=>rw[bo];show max (DT.depth (bW x)) (DT.depths _)=0;rw[a];rfl
theorem nD(d:ar):(jk d).depth=2:=by
 show DT.depths [bW d.a,.t (d.sg.map bW),bW d.b]+1=2;show max (DT.depth (bW d.a)) (max (DT.depths (d.sg.map bW)+1) (max (DT.depth (bW d.b)) 0))+1=2;rw[bR]
 rfl
theorem tP(a:List ar):DT.depths (a.map jk)<=8:=by
 induction a with
 |nil=>exact cf _
 |cons x xs e=>rw[bo];show max (DT.depth (jk x)) (DT.depths _)<=8;rw[nD];omega
theorem gH{K:Za}{H:Hp}:∀xs:List Str,DIns K H (xs.map bW) (xs.map V.str)
 |[]=>by show DIns K H [] [];unfold DIns;rfl
 |x::xs=>by
  rw[bo,bo];unfold DIns;refine⟨_,_,rfl,?_,gH xs⟩;unfold bW j6
  rfl
theorem iB{K:Za}{H:Hp}(x:Str):j6 K H (bW x) (.str x):=by unfold bW j6;rfl
theorem iA{K:Za}{H:Hp}{s:Addr}{a:Zb}(h:bN K H s (a.map V.str)):j6 K H (.t (a.map bW)) (.ref s):=by
 unfold j6;exact⟨s,_,rfl,h,gH _⟩
theorem dS.dIn{K:Za}{H:Hp}{t:Addr}{d:ar}(h:dS H t d):j6 K H (jk d) (.ref t):=by
 obtain⟨s,a,e⟩:=h;unfold jk;unfold j6;refine⟨t,_,rfl,bN.of a,?_⟩;unfold DIns;refine⟨_,_,rfl,iB _,?_⟩;unfold DIns;refine⟨_,_,rfl,iA (bN.of e),?_⟩;unfold DIns;refine⟨_,_,rfl,iB _,?_⟩;unfold DIns
 rfl
theorem bD.dIns{K:Za}{H:Hp}{a:Ze}{e:List ar}(h:bD H a e):DIns K H (e.map jk) (a.map V.ref):=by
 induction h with
 |nil=>show DIns K H [] [];unfold DIns;rfl
 |cons r _ f =>
  rw[bo,bo];unfold DIns;exact⟨_,_,rfl,r.dIn,f⟩
theorem Ad{d:ar}{a:List ar}:jk d∈a.map jk↔d∈a:=by
 constructor
 ·intro h;obtain⟨x,hx,e⟩:=bh.mp h;rw[<-As e];exact hx
 ·exact lN
def yy(ds:List ar)(d:ar):List ar:=if d∈ds then ds else ds++[d]
inductive rc (vs:List V)(H:Hp)(Q:VK)(E:XK):Prop
 |mk (l t:Addr) (ts:Ze) (ds:List ar) (d:ar):(vs=[.ref l,.ref t])->(H l=some (.lst (ts.map V.ref)))->(bD H ts ds)->(dS H t d)->(ds.length<=1000)->(∀ts':List Addr,bD H ts' (yy ds d)->Q .non (upd H l (.lst (ts'.map V.ref))))->rc  vs H Q E
theorem Fo{K:Za}{i:List V}{H:Hp}{Q:VK}{E:XK}(h:rc i H Q E):AJ K (bF Q) (start Bn i) H:=by
 obtain⟨l,t,j,g,d,rfl,a,e,m,n,k⟩:=h;refine⟨_,rfl,_,rfl,jk d,g.map jk,l,_,m.dIn,rfl,.inl (aB.of a),e.dIns,by rw[nD];decide,tP g,_,rfl,?_⟩;by_cases f:d∈g
 ·rw[if_pos rfl,zzr1 (Ad.mpr f)];refine bj ?_;have:=k j (by unfold yy;rw[if_pos f];exact e);rw[upd_id a]at this;exact this
 ·rw[if_pos rfl,zzr0 (fun z=>f (Ad.mp z))];refine bB ?_;refine⟨_,rfl,.inl ⟨rfl,_,aB.of a⟩,_,rfl,l,_,_,rfl,rfl,a,?_,?_⟩
  ·rw[ao,Paired.length e];exact aG n
  ·have:=k (j++[t]) (by unfold yy;rw[if_neg f];exact uv e m);rw[aN]at this;exact this
structure DI(R:ar->Prop)(H0:Hp)(p c l:Addr)(m:Nat)(H:Hp):Prop where
 pen:eW H p c
 ds:∃ts ds,H l=some (.lst (ts.map V.ref))/\bD H ts ds/\ds.Nodup/\(∀d∈ds,R d)/\ds.length<=m
 ex:cv p H0 H
 fr:H0 l=none
 pl:p≠l
 cl:c≠l
section
variable{R:ar->Prop}{H0 H H':Hp}{p c l:Addr}{m:Nat}
theorem eW.lst{H:Hp}{p c:Addr}(h:eW H p c):∃xs,H p=some (.lst xs):=by
 obtain⟨a,r,f,e,_⟩:=h;exact⟨_,e⟩
theorem DI.took(h:DI R H0 p c l m H)(a:eW H' p c)(e:cv p H H'):DI R H0 p c l m H':=by
 obtain⟨f,g,i,j,k⟩:=h.ds;obtain⟨xs,hx⟩:=h.pen.lst;exact⟨a,⟨f,g,e _ _ i h.pl.symm,j.kt (e.kt hx),k⟩,h.ex.trans e,h.fr,h.pl,h.cl⟩
theorem DI.new(h:DI R H0 p c l m H){q:Addr}{o:HO}(a:H q=none):DI R H0 p c l m (upd H q o) :=
 h.took (h.pen.ex (ae.new a)) (cv.new a)
theorem DI.up(h:DI R H0 p c l m H){n:Nat}(a:m<=n):DI R H0 p c l n H:=by
 obtain⟨e,f,g,i,j,k,o⟩:=h.ds;exact⟨h.pen,⟨e,f,g,i,j,k,bp o a⟩,h.ex,h.fr,h.pl,h.cl⟩
theorem DI.put(h:DI R H0 p c l m H){t:Addr}{d:ar}{Q:VK}{E:XK}(r:dS H t d)(s:R d)(u:m<=1000)(k:∀H',DI R H0 p c l (m+1) H'->Q .non H'):rc [.ref l,.ref t] H Q E:=by
 obtain⟨v,f,i,y,j,q,z⟩:=h.ds;refine⟨l,t,v,f,d,rfl,i,y,r,bp z u,fun g B=>k _ ⟨h.pen.upd h.pl h.cl,⟨g,yy f d,aa,B.kt (fy i),?_,?_,?_⟩,?_,h.fr,h.pl,h.cl⟩⟩
 ·unfold yy;split
  ·exact j
  ·next C =>
   rw[ee];refine⟨j,by simp,?_⟩;intro a D b G e;have:b=d:=by simpa using G
   subst this;exact C (e▸D)
 ·intro x hx;unfold yy at hx;split at hx
  ·exact q x hx
  ·rcases cj.mp hx with hx|hx
   ·exact q x hx
   ·have:x=d:=by simpa using hx
    rw[this];exact s
 ·unfold yy;split
  ·omega
  ·rw[aY];show f.length+1<=m+1;omega
 ·intro b o e n;rw[ai (ah e h.fr)];exact h.ex b o e n
end
theorem eW.ne_strs{H:Hp}{p c a:Addr}{g:Zb}(h:eW H p c)(f:H a=some (.lst (g.map V.str))):a≠p:=by
 intro e;obtain⟨x,y,j,i,_⟩:=h;rw[e,i]at f;injection f with f;injection f with f;cases g with
 |nil=>cases f
 |cons w g=>injection f with f;cases f
theorem p_{K:Za}{r:R2}(C:∀x y H Q,eJ K x y H Q->r x y H Q){σ:L2.St}{H:Hp}{Q:VK}{p c a:Addr}{j:Nat}{e:Zb}(D:σ[0]?=some (some (.ref p)))(o:σ[j]?=some (some (.ref a)))(q:eW H p c)
  (g:H a=some (.lst (e.map V.str))) (h:e≠[]) (s:e.length<=1000) (k:∀w∈e,∀H',eW H' p c->cv p H H'->Q (.str w) H') :
  ∃v,σ[j]?=some (some v)/\∃t,σ[0]?=some (some t)/\∃u,σ[j]?=some (some u)/\dJ K [u] H fun y E=>cw [t,y] E (fun y G=>r v y G Q) E0:=by
 have J:0<e.length:=by cases e with|nil=>exact absurd rfl h|cons _ _=>simp
 have I:(V.int ((e.map V.str).length:Nat))=V.int (e.length:Nat):=by rw[ao]
 have i:=q.ne_strs g;have l:∀(x:Int) (H':Hp),0<=x->x<(e.length:Int)->eW H' p c->cv p H H'->eJ K (.ref a) (.int x) H' Q:=by
  intro x H' m z f ex;obtain⟨n,rfl⟩:=gC m;have B:n<e.length:=by omega
  exact⟨a,_,(n:Int),.str e[n],rfl,rfl,aB.of (ex _ _ g i),c_ (by simp[B]),k _ (List.getElem_mem B) H' f ex⟩
 exact⟨_,o,_,D,_,o,.inl ⟨a,_,rfl,.inl (aB.of g),by rw[I];exact bV q (by omega) (by omega) fun x H' m z f ex=>C _ _ _ _ (l x H' m z f ex)⟩⟩
def Up(up:Bool)(J2:Zb)(a b:Str):Prop:=∃i j:Nat,J2[i]?=some a/\J2[j]?=some b/\(if up=true then i<j else j<i)
structure kO(J0 J1 J2:Zb)(up:Bool)(d:ar):Prop where
 a:d.a∈J2
 b:d.b∈J2
 sg:(∃w∈J0,d.sg=[("ask":Str),w])∨(∃w∈J1,d.sg=[("say":Str),w])∨(d.sg=[("still":Str)]/\Up up J2 d.a d.b)
def stillSg:List Str:=[("still":Str)]
structure Az(J0 J1 J2:Zb)(d:ar):Prop where
 a:d.a∈J2
 b:d.b∈J2
 sg:(∃w∈J0,d.sg=[("ask":Str),w])∨(∃w∈J1,d.sg=[("say":Str),w])∨d.sg=stillSg
theorem kO.d{J0 e f:Zb}{up:Bool}{d:ar}(h:kO J0 e f up d):Az J0 e f d:=⟨h.a,h.b,h.sg.imp id (Or.imp id And.left)⟩
inductive Reach(ds:List ar)(a:Str):Str->Prop
 |one {b:Str}(h:(⟨a,stillSg,b⟩:ar)∈ds):Reach ds a b
 |step {b c:Str}(r:Reach ds a b) (h:(⟨b,stillSg,c⟩:ar)∈ds):Reach ds a c
theorem Ah{e:Zb}(n:e.Nodup){i j:Nat}{a:Str}(hi:e[i]?=some a)(o:e[j]?=some a):i=j:=by
 obtain⟨f,g⟩:=da.mp hi;obtain⟨k,l⟩:=da.mp o;have m:=List.pairwise_iff_getElem.mp n;rcases Nat.lt_trichotomy i j with h|h|h
 ·exact absurd (g.trans l.symm) (m i j f k h)
 ·exact h
 ·exact absurd (l.trans g.symm) (m j i k f h)
theorem Up.trans{up:Bool}{e:Zb}(g:e.Nodup){a b c:Str}(l:Up up e a b)(m:Up up e b c):Up up e a c:=by
 obtain⟨i,j,n,o,h⟩:=l;obtain⟨r,k,p,q,f⟩:=m;have:=Ah g o p;subst this;refine⟨i,k,n,q,?_⟩;cases up
 ·simp at h f ⊢;omega
 ·simp at h f ⊢;omega
theorem Up.irr{up:Bool}{e:Zb}(f:e.Nodup){a:Str}(h:Up up e a a):False:=by
 obtain⟨i,j,g,k,h⟩:=h;have:=Ah f g k;subst this;cases up
 ·simp at h
 ·simp at h
theorem BF{j k g:Zb}{i:List ar}{up:Bool}(l:g.Nodup)(m:∀d∈i,kO j k g up d){a b:Str}(h:Reach i a b):Up up g a b:=by
 have f:∀{a b:Str},(⟨a,stillSg,b⟩:ar)∈i->Up up g a b:=by
  intro a b h;rcases(m _ h).sg with⟨w,_,e⟩|⟨w,_,e⟩|⟨_,e⟩
  ·cases e
  ·cases e
  ·exact e
 induction h with
 |one h=>exact f h
 |step r h n=>exact n.trans l (f h)
inductive f_ (vs:List V)(H:Hp)(Q:VK)(E:XK):Prop
 |mk (p c l1 l2 l3:Addr) (J0 J1 J2:Zb) (full:Int):(vs=[.ref p,.ref l1,.ref l2,.ref l3,.int full])->(eW H p c)->(H l1=some (.lst (J0.map V.str)))->(H l2=some (.lst (J1.map V.str)))->(H l3=some (.lst (J2.map V.str)))->(J0.length<=4)->(J1≠[])->(J1.length<=4)->(J2≠[])->(J2.length<=26)->(0<=full)->(full<=2)->(∀(l:Addr) (ts:Ze) (ds:List ar) (up:Bool) (H':Hp),H l=none->H' l=some (.lst (ts.map V.ref))->bD H' ts ds->ds.Nodup->(∀d∈ds,kO J0 J1 J2 up d)->ds.length<=600->eW H' p c->cv p H H'->Q (.ref l) H')->f_  vs H Q E
theorem at4{x r:Int}(a:0<=x)(e:x<=2)(f:0<=r)(g:r<4):∃j:Int,y0 [V.int x,.int 1,.int 1,.int 2] r=some (.int j)/\0<=j/\j<=2:=by
 have:r=0∨r=1∨r=2∨r=3:=by omega
 rcases this with rfl|rfl|rfl|rfl
 ·exact⟨x,rfl,a,e⟩
 ·exact⟨1,rfl,by decide,by decide⟩
 ·exact⟨1,rfl,by decide,by decide⟩
 ·exact⟨2,rfl,by decide,by decide⟩
theorem Bg(a:Zb)(k:Nat):jm (a.map V.str) (some (k:Int)) none=(a.drop k).map V.str:=by
 unfold jm;rw[HT.sIx_none,HT.sIx_nat,ao,t8 (by rw[fh,ao];omega),tZ];by_cases h:k<=a.length
 ·rw[Nat.min_eq_left h]
 ·rw[Nat.min_eq_right (by omega),uf (by simp),uf (by rw[ao];omega)]
theorem vy(a:Zb)(k:Nat):jm (a.map V.str) none (some (k:Int))=(a.take k).map V.str:=by
 unfold jm;rw[HT.sIx_none,HT.sIx_nat,ao,qA,Nat.sub_zero,t5,List.take_eq_take_iff,ao];omega
theorem rY{K:Za}{H:Hp}{a:Addr}{e:Zb}(h:aB K H a (e.map V.str)):j6 K H (.s (e.map bW)) (.ref a):=by
 unfold j6;exact⟨a,_,rfl,h,gH _⟩
theorem Ee{K:Za}{H:Hp}{a:Addr}(h:aB K H a []):j6 K H (.s []) (.ref a):=by
 unfold j6;refine⟨a,_,rfl,h,?_⟩;unfold DIns
 rfl
inductive DdI(G:ar->Prop)(H:Hp)(p c l l1 l2 l3:Addr)(full dn:Int)(i:Nat)(σ:L2.St)(H':Hp):Prop
 |mk (a7 a8 a9 a10 a11 a12:Option V):σ=[some (.ref p),some (.ref l1),some (.ref l2),some (.ref l3),some (.int full),some (.ref l),some (.int dn),a7,a8,a9,a10,a11,a12]->DI G H p c l (11 * i) H'->DdI G H p c l l1 l2 l3 full dn i σ H'
theorem sI{K:Za}{vs:List V}{H:Hp}{Q:VK}{E:XK}(h:f_ vs H Q E):og K cw rc (bF Q) (start oZ vs) H:=by
 obtain⟨p,c,l1,l2,l3,J0,J1,J2,a,rfl,hp,h1,h2,h3,ha,b2,hs,as,hr,f0,f2,k⟩:=h;have n1:=hp.ne_strs h1;have n2:=hp.ne_strs h2;have n3:=hp.ne_strs h3;refine⟨(by show 0<=am;decide),fun l hl=>?_⟩;have aC:=hp.nep hl;have b3:=hp.nec hl;refine⟨_,rfl,bV (hp.ex (ae.new hl)) (by decide) (by decide) fun N H1 d0 d1 b4 aS=>?_⟩;generalize hG:kO J0 J1 J2 (decide (N=0))=G;have base:DI G H p c l 0 H1:=⟨b4,⟨[],[],aS _ _ aa aC.symm,.nil,ki,by simp,cf _⟩,(cv.new hl).trans aS,hl,aC,b3⟩;refine⟨_,rfl,l3,rfl,⟨_,aB.of (base.ex _ _ h3 n3)⟩,?_⟩;refine gy (xs:=J2.map V.str) (DdI G H p c l l1 l2 l3 a N)
  ⟨_,_,_,_,_,_,rfl,base⟩ (fun i σ H' _ zq=>by obtain⟨_,_,_,_,_,_,_,D⟩:=zq;exact aB.of (D.ex _ _ h3 n3)) ?_ ?_
 ·rintro i x σ H' t hi ⟨a7,a8,I,m,v,B,rfl,D⟩ ht;obtain⟨room,f,rfl⟩:∃room,J2[i]?=some room/\x=V.str room:=by
   rw[dq]at hi;cases q:J2[i]? with
   |none=>rw[q]at hi;cases hi
   |some r=>rw[q]at hi;exact⟨r,rfl,(dE hi).symm⟩
  have c2:i<J2.length:=(da.mp f).1;have O:room∈J2:=cT f;refine⟨t,_,rfl,bN.of aa,rfl,_,_,rfl,_,_,rfl,rfl,?_⟩;have D1:=D.new ht (o:=.tup [.int i,.str room]);refine⟨(by show 4<=am;decide),fun q hq=>⟨_,rfl,bV (D1.new hq).pen (by decide) (by decide) fun r H2 r0 r1 b5 aT=>?_⟩⟩;obtain⟨j,hj,j0,j2⟩:=at4 (x:=0) (by decide) (by decide) r0 r1;have D2:=(D1.new hq).took b5 aT;refine⟨q,_,_,_,rfl,rfl,aB.of (aT q _ aa (D1.pen.nep hq).symm),hj,j,rfl,by omega,by omega,?_⟩
  let b6:Nat->L2.St->Hp->Prop:=fun i' σ T=>G_ fun(I m:Option V)=>σ=[some (.ref p),some (.ref l1),some (.ref l2),some (.ref l3),some (.int a),some (.ref l),some (.int N),some (.int i),some (.str room),I,m,v,B]/\DI G H p c l (11 * i+i') T
  refine oR (lo:=0) (n:=j.toNat) b6
   ⟨_,_,rfl,D2⟩ ?_ ?_
  ·rintro i' σ H3 J ⟨I,m,rfl,D3⟩;refine p_ (fun _ _ _ _ h=>h) rfl rfl D3.pen (D3.ex _ _ h2 n2) b2 (by omega) fun w hw H4 b7 b8=>?_;have D4:=D3.took b7 b8;refine⟨(by show 2<=am;decide),fun M g=>?_⟩;have D5:=D4.new g (o:=.tup [.str "say",.str w]);refine⟨_,rfl,_,rfl,_,rfl,p_ (fun _ _ _ _ h=>h) rfl rfl D5.pen (D5.ex _ _ h3 n3) as (by omega) fun Y L H6 ce aX=>?_⟩;have D6:=D5.took ce aX;refine⟨(by show 3<=am;decide),fun dr u=>?_⟩;have D7:=D6.new u (o:=.tup [.str room,.ref M,.str Y]);have a0:H6 M=some (.tup [.str "say",.str w]):=aX _ _ aa (D4.pen.nep g).symm;refine D7.put (d:=⟨room,["say",w],Y⟩) ⟨M,aa,kp a0 u⟩ ?_ (by omega) fun H8 D8=>⟨_,_,rfl,D8⟩;rw[<-hG];exact⟨O,L,.inr (.inl ⟨w,hw,rfl⟩)⟩
  rintro σ H3 ⟨I,m,rfl,a4⟩;have D3:DI G H p c l (11 * i+2) H3:=a4.up (by omega);clear a4;refine⟨_,rfl,l1,rfl,⟨_,aB.of (D3.ex _ _ h1 n1)⟩,?_⟩
  let ch:Nat->L2.St->Hp->Prop:=fun i' σ T=>G_ fun(I v:Option V)=>σ=[some (.ref p),some (.ref l1),some (.ref l2),some (.ref l3),some (.int a),some (.ref l),some (.int N),some (.int i),some (.str room),I,m,v,B]/\DI G H p c l (11 * i+2+2 * i') T
  refine eA (xs:=J0.map V.str) ch
   ⟨_,_,rfl,D3⟩ (fun i σ H' _ zq=>by obtain⟨_,_,_,D⟩:=zq;exact aB.of (D.ex _ _ h1 n1)) ?_ ?_
  ·rintro i' x σ H4 J ⟨I,v,rfl,D4⟩;obtain⟨ask,ak,rfl⟩:∃ask,J0[i']?=some ask/\x=V.str ask:=by
    rw[dq]at J;cases q:J0[i']? with
    |none=>rw[q]at J;cases J
    |some r=>rw[q]at J;exact⟨r,rfl,(dE J).symm⟩
   have c3:i'<J0.length:=(da.mp ak).1;have ci:ask∈J0:=cT ak;refine⟨_,rfl,(by show 4<=am;decide),fun q hq=>⟨_,rfl,bV (D4.new hq).pen (by decide) (by decide) fun r H5 r0 r1 ck a5=>?_⟩⟩;obtain⟨j,hj,j0,j2⟩:=at4 f0 f2 r0 r1;have D5:=(D4.new hq).took ck a5;refine⟨q,_,_,_,rfl,rfl,aB.of (a5 q _ aa (D4.pen.nep hq).symm),hj,j,rfl,by omega,by omega,?_⟩
   let cl:Nat->L2.St->Hp->Prop:=fun a6 σ T=>∃I:Option V,σ=[some (.ref p),some (.ref l1),some (.ref l2),some (.ref l3),some (.int a),some (.ref l),some (.int N),some (.int i),some (.str room),I,m,some (.str ask),B]/\DI G H p c l (11 * i+2+2 * i'+a6) T
   refine oR (lo:=0) (n:=j.toNat) cl
    ⟨_,rfl,D5⟩ ?_ ?_
   ·rintro a6 σ H6 c1 ⟨I,rfl,D6⟩;refine⟨_,rfl,_,rfl,_,rfl,(by show 2<=am;decide),fun M g=>?_⟩;have D7:=D6.new g (o:=.tup [.str "ask",.str ask]);refine p_ (fun _ _ _ _ h=>h) rfl rfl D7.pen (D7.ex _ _ h3 n3) as (by omega) fun Y L H8 cm bd=>?_;have D8:=D7.took cm bd;refine⟨(by show 3<=am;decide),fun dr u=>?_⟩;have D9:=D8.new u (o:=.tup [.str room,.ref M,.str Y]);have bi:H8 M=some (.tup [.str "ask",.str ask]):=bd _ _ aa (D6.pen.nep g).symm;refine D9.put (d:=⟨room,["ask",ask],Y⟩) ⟨M,aa,kp bi u⟩ ?_ (by omega) fun H8 D8=>⟨_,rfl,D8⟩;rw[<-hG];exact⟨O,L,.inl ⟨ask,ci,rfl⟩⟩
   ·rintro σ H6 ⟨I,rfl,D6⟩;exact⟨_,_,rfl,D6.up (by omega)⟩
  rintro σ H4 ⟨I,v,rfl,bl⟩;have D4:DI G H p c l (11 * i+10) H4:=bl.up (by rw[ao];omega);clear bl;have C:∀(H9:Hp) (B:Option V),DI G H p c l (11 * i+11) H9->DdI G H p c l l1 l2 l3 a N (i+1) [some (.ref p),some (.ref l1),some (.ref l2),some (.ref l3),some (.int a),some (.ref l),some (.int N),some (.int i),some (.str room),I,m,v,B] H9:=fun H9 B D9=>⟨_,_,_,_,_,_,rfl,D9.up (by omega)⟩;refine⟨_,rfl,_,rfl,_,_,rfl,rfl,_,rfl,l3,_,rfl,aB.of (D4.ex _ _ h3 n3),fun q1 cn=>?_⟩;have D5:=D4.new cn (o:=.lst (jm (J2.map V.str) (some ((i:Int)+1)) none));refine⟨_,rfl,_,rfl,_,rfl,l3,_,rfl,aB.of (D5.ex _ _ h3 n3),fun q2 bm=>?_⟩;have e1:jm (J2.map V.str) (some ((i:Int)+1)) none=(J2.drop (i+1)).map V.str:=Bg J2 (i+1);rw[vy];have D6:=D5.new bm (o:=.lst ((J2.take i).map V.str));refine⟨(by show 2<=am;decide),fun q3 an=>?_⟩;have D7:=D6.new an (o:=.lst [.ref q1,.ref q2]);obtain⟨lt,q,hq,ab,U⟩:∃(lt:Zb) (q:Addr),y0 [V.ref q1,.ref q2] N=some (.ref q) /\
    upd (upd (upd H4 q1 (.lst (jm (J2.map V.str) (some ((i:Int)+1)) none))) q2 (.lst ((J2.take i).map V.str))) q3 (.lst [.ref q1,.ref q2]) q=some (.lst (lt.map V.str))/\lt.length<=26 /\
    ∀w∈lt,w∈J2/\Up (decide (N=0)) J2 room w:=by
   have:N=0∨N=1:=by omega
   rcases this with rfl|rfl
   ·refine⟨J2.drop (i+1),q1,rfl,?_,by rw[fh];omega,fun w hw=>⟨List.mem_of_mem_drop hw,?_⟩⟩
    ·refine(kp (kp aa bm) an).trans ?_;rw[e1]
    ·obtain⟨n,hn⟩:=List.getElem?_of_mem hw;rw[List.getElem?_drop]at hn;exact⟨i,i+1+n,f,hn,by rw[if_pos (by decide)];omega⟩
   ·refine⟨J2.take i,q2,rfl,?_,by rw[aQ];omega,fun w hw=>⟨j_ hw,?_⟩⟩
    ·exact kp aa an
    ·obtain⟨n,hn⟩:=List.getElem?_of_mem hw;have co:n<i:=by
      have:=(da.mp hn).1;rw[aQ]at this;omega
     rw[List.getElem?_take_of_lt co]at hn;exact⟨i,n,f,hn,by rw[if_neg (by decide)];omega⟩
  refine⟨_,rfl,q3,_,_,_,rfl,rfl,aB.of aa,hq,?_⟩;generalize upd (upd (upd H4 q1 (.lst (jm (J2.map V.str) (some ((i:Int)+1)) none))) q2 (.lst ((J2.take i).map V.str))) q3 (.lst [.ref q1,.ref q2])=H7 at D7 ab ⊢;refine⟨_,rfl,(by show 0<=am;decide),fun e he=>⟨.s (lt.map bW),.s [],rY (aB.of (kp ab he)),Ee (aB.of aa),?_,by decide,_,rfl,?_⟩⟩
  ·show DT.depths (lt.map bW)+1<=8;rw[bR];decide
  have D8:=D7.new he (o:=.lst []);by_cases hz:lt=[]
  ·have ez:(!decide (DT.s (lt.map bW)=DT.s []))=false:=by rw[hz,zzr1 (by rfl)];rfl
   rw[ez];exact bj (bj (C _ _ (D8.up (by omega))))
  ·have ez:(!decide (DT.s (lt.map bW)=DT.s []))=true:=by
    rw[zzr0 (fun z=>hz (iY (y:=[]) (by injection z)))];rfl
   rw[ez];refine bB ?_;refine⟨_,rfl,bV D8.pen (by decide) (by decide) fun r H9 r0 r1 cs bn=>⟨rfl,_,rfl,?_⟩⟩;have D9:=D8.took cs bn;refine iy (fun _=>?_) (fun _=>C _ _ (D9.up (by omega)));refine⟨_,rfl,_,rfl,(by show 1<=am;decide),fun M g=>?_⟩;have b0:=D9.new g (o:=.tup [.str "still"]);have ap:upd H9 M (.tup [.str "still"]) q=some (.lst (lt.map V.str)):=kp (bn _ _ (kp ab he) (D8.pen.ne_strs (kp ab he))) g;refine p_ (fun _ _ _ _ h=>.inl h) rfl rfl b0.pen ap hz (by omega) fun Y L ct b1 al=>?_;have cB:=b0.took b1 al;refine⟨(by show 3<=am;decide),fun dr u=>?_⟩;have cC:=cB.new u (o:=.tup [.str room,.ref M,.str Y]);have aq:ct M=some (.tup [.str "still"]):=al _ _ aa (D9.pen.nep g).symm;refine cC.put (d:=⟨room,[("still":Str)],Y⟩) ⟨M,aa,kp aq u⟩ ?_ (by omega) fun c4 c0=>C _ _ c0;rw[<-hG];exact⟨O,(U.2 Y L).1,.inr (.inr ⟨rfl,(U.2 Y L).2⟩)⟩
 ·rintro σ H' ⟨a7,a8,I,m,v,B,rfl,D⟩;obtain⟨ts,ds,g1,g2,g3,g4,g5⟩:=D.ds;rw[ao]at g5;rw[<-hG]at g4;exact⟨_,rfl,k l ts ds _ H' hl g1 g2 g3 g4 (by omega) D.pen D.ex⟩
structure cL(J0 J1 J2:Zb)(ds:List ar):Prop where
 okA:gX J0
 okS:gX J1
 apart:∀w∈J1,w∉J0
 okR:gX J2
 asks0:J0≠[]
 says0:J1≠[]
 rooms0:J2≠[]
 asks4:J0.length<=4
 says4:J1.length<=4
 rooms26:J2.length<=150
 nodup:ds.Nodup
 good:∀d∈ds,Az J0 J1 J2 d
 few:ds.length<=1000
 noround:∀r,¬Reach ds r r
structure vI(H:Hp)(t l1 l2 l3 l4:Addr)(ts:Ze)(J0 J1 J2:Zb)(ds:List ar):Prop where
 t:H t=some (.tup [.ref l1,.ref l2,.ref l3,.ref l4])
 a1:H l1=some (.lst (J0.map V.str))
 a2:H l2=some (.lst (J1.map V.str))
 a3:H l3=some (.lst (J2.map V.str))
 a4:H l4=some (.lst (ts.map V.ref))
 ds:bD H ts ds
theorem eW.ne_refs{H:Hp}{p c a:Addr}{g:Ze}(i:eW H p c)(f:H a=some (.lst (g.map V.ref))):a≠p:=by
 intro e;obtain⟨x,y,k,j,_⟩:=i;rw[e,j]at f;injection f with f;injection f with f;cases g with
 |nil=>cases f
 |cons w h =>
  injection f with _ f;cases h with
  |nil=>cases f
  |cons w h=>injection f with f;cases f
theorem vI.ex{H f:Hp}{p c t g i l3 j:Addr}{k:Ze}{l m n:Zb}{o:List ar}(h:vI H t g i l3 j k l m n o)(a:eW H p c)(e:cv p H f):vI f t g i l3 j k l m n o:=by
 obtain⟨xs,hx⟩:=a.lst;exact⟨e.kt hx _ _ h.t,e _ _ h.a1 (a.ne_strs h.a1),e _ _ h.a2 (a.ne_strs h.a2),e _ _ h.a3 (a.ne_strs h.a3),e _ _ h.a4 (a.ne_refs h.a4),h.ds.kt (e.kt hx)⟩
theorem vI.same{H a:Hp}{t f g l3 i:Addr}{j:Ze}{k l m:Zb}{n:List ar}(h:vI H t f g l3 i j k l m n)(e:ae H a):vI a t f g l3 i j k l m n :=
 ⟨e _ _ h.t,e _ _ h.a1,e _ _ h.a2,e _ _ h.a3,e _ _ h.a4,h.ds.kt (ae.kt e)⟩
inductive mU (vs:List V)(H:Hp)(Q:VK)(E:XK):Prop
 |mk (p c:Addr) (most full:Int):(vs=[.ref p,.int most,.int full])->(eW H p c)->(0<most)->(most<=25)->(0<=full)->(full<=2)->(∀(t l1 l2 l3 l4:Addr) (ts:Ze) (J0 J1 J2:Zb) (ds:List ar) (H':Hp),vI H' t l1 l2 l3 l4 ts J0 J1 J2 ds->cL J0 J1 J2 ds->J2.length<=most.toNat->ds.length<=600->eW H' p c->cv p H H'->Q (.ref t) H')->mU  vs H Q E
theorem at6{r:Int}(a:0<=r)(e:r<6):∃n:Nat,y0 [V.int 0,.int 1,.int 1,.int 2,.int 2,.int 3] r=some (.int n)/\n<=3:=by
 have:r=0∨r=1∨r=2∨r=3∨r=4∨r=5:=by omega
 rcases this with rfl|rfl|rfl|rfl|rfl|rfl
 ·exact⟨0,rfl,by decide⟩
 ·exact⟨1,rfl,by decide⟩
 ·exact⟨1,rfl,by decide⟩
 ·exact⟨2,rfl,by decide⟩
 ·exact⟨2,rfl,by decide⟩
 ·exact⟨3,rfl,by decide⟩
theorem CT{a:Zb}(e:a.length=8){n:Nat}(j:n<=3):jm (a.map V.str) (some 4) (some (5+(n:Int)))=((a.drop 4).take (1+n)).map V.str:=by
 unfold jm;have f:HT.sIx (a.map V.str).length 0 (some 4)=min 4 (a.map V.str).length:=HT.sIx_nat _ _ 4;have g:HT.sIx (a.map V.str).length (a.map V.str).length (some (5+(n:Int)))=min (5+n) (a.map V.str).length:=HT.sIx_nat _ _ (5+n);rw[f,g,ao,e,t5,tZ];have h:min 4 8=4:=by decide
 have i:min (5+n) 8-4=1+n:=by omega
 rw[h,i]
theorem BZ{K:Za}{vs:List V}{H:Hp}{Q:VK}{E:XK}(h:mU vs H Q E):wg K f_ mT cw uU (bF Q) (start xC vs) H:=by
 obtain⟨p,c,b1,ak,rfl,hp,m0,m1,f0,f2,k⟩:=h;refine⟨_,rfl,p,c,rfl,hp,fun H1 aT aX=>?_⟩;refine⟨_,rfl,p,c,8,rfl,aT,by decide,fun lw a H2 ok len fr hl B a0=>?_⟩;have e2:=aX.trans a0;have nw:=B.ne_strs hl;refine⟨_,rfl,(by show 6<=am;decide),fun q f=>⟨_,rfl,bV (B.ex (ae.new f)) (by decide) (by decide) fun r C r0 r1 a4 D=>?_⟩⟩;obtain⟨n,hn,n3⟩:=at6 r0 r1;have al:C lw=some (.lst (a.map V.str)):=D _ _ (kp hl f) nw;refine⟨q,_,_,_,rfl,rfl,aB.of (D _ _ aa (B.nep f).symm),hn,_,_,rfl,rfl,_,rfl,lw,_,rfl,aB.of al,fun g G=>?_⟩;have ea:jm (a.map V.str) none (some (1+(n:Int)))=(a.take (1+n)).map V.str:=vy a (1+n);rw[ea];have e3:cv p H C:=e2.trans ((cv.new f).trans D);have i:eW (upd C g (.lst ((a.take (1+n)).map V.str))) p c:=a4.ex (ae.new G);have e4:cv p H (upd C g (.lst ((a.take (1+n)).map V.str))):=e3.trans (cv.new G);have an:upd C g (.lst ((a.take (1+n)).map V.str)) lw=some (.lst (a.map V.str)):=kp al G;have I:upd C g (.lst ((a.take (1+n)).map V.str)) g=some (.lst ((a.take (1+n)).map V.str)):=aa;generalize upd C g (.lst ((a.take (1+n)).map V.str))=H4 at i e4 an I ⊢;refine⟨_,rfl,_,rfl,(by show 6<=am;decide),fun q f=>⟨_,rfl,bV (i.ex (ae.new f)) (by decide) (by decide) fun r u r0 r1 a5 j=>?_⟩⟩;obtain⟨m,hm,m3⟩:=at6 r0 r1;have a6:u lw=some (.lst (a.map V.str)):=j _ _ (kp an f) nw;have a7:u g=some (.lst ((a.take (1+n)).map V.str)):=j _ _ (kp I f) (i.ne_strs I);refine⟨q,_,_,_,rfl,rfl,aB.of (j _ _ aa (i.nep f).symm),hm,_,_,rfl,rfl,_,rfl,lw,_,rfl,aB.of a6,fun v J=>?_⟩;rw[CT len m3];have e5:cv p H u:=e4.trans ((cv.new f).trans j);have l:eW (upd u v (.lst (((a.drop 4).take (1+m)).map V.str))) p c:=a5.ex (ae.new J);have e6:cv p H (upd u v (.lst (((a.drop 4).take (1+m)).map V.str))):=e5.trans (cv.new J);have L:upd u v (.lst (((a.drop 4).take (1+m)).map V.str)) g=some (.lst ((a.take (1+n)).map V.str)):=kp a7 J;have M:upd u v (.lst (((a.drop 4).take (1+m)).map V.str)) v=some (.lst (((a.drop 4).take (1+m)).map V.str)):=aa;generalize upd u v (.lst (((a.drop 4).take (1+m)).map V.str))=H6 at l e6 L M ⊢;refine⟨_,rfl,_,rfl,_,rfl,bV l m0 (by omega) fun r H7 r0 r1 N O=>?_⟩;obtain⟨rn,rfl⟩:=gC r0;have ap:=O _ _ L (l.ne_strs L);have aq:=O _ _ M (l.ne_strs M);refine⟨_,_,rfl,rfl,p,c,1+rn,rfl,N,by omega,fun l3 J2 H8 T x b2 e o U=>?_⟩;have Y:=U _ _ ap (N.ne_strs ap);have ab:=U _ _ aq (N.ne_strs aq);have as:(a.drop 4).take (1+m)≠[]:=by
  intro z;have:=congrArg List.length z;rw[aQ,fh,len]at this;simp at this
 have a8:a.take (1+n)≠[]:=by
  intro z;have:=congrArg List.length z;rw[aQ,len]at this;simp at this
 have aC:J2≠[]:=by
  intro z;rw[z]at x;simp at x;omega
 refine⟨_,rfl,_,rfl,_,rfl,_,rfl,_,rfl,p,c,g,v,l3,_,_,J2,ak,rfl,o,Y,ab,e,by rw[aQ];omega,as,by rw[aQ];omega,aC,by omega,f0,f2,fun l4 ts ds up H9 b3 aS a9 bd y bi bl s=>?_⟩;have bm:=s _ _ Y (o.ne_strs Y);have bn:=s _ _ ab (o.ne_strs ab);have b0:=s _ _ e (o.ne_strs e);refine⟨_,rfl,_,rfl,_,rfl,_,rfl,(by show 4<=am;decide),fun t ht=>k t g v l3 l4 ts _ _ J2 ds _ ⟨aa,kp bm ht,kp bn ht,kp b0 ht,kp aS ht,a9.kt (ae.kt (ae.new ht))⟩ ?_ ?_ bi (bl.ex (ae.new ht)) ?_⟩
 ·refine⟨⟨?_,fun w h=>ok.2 w (j_ h)⟩,⟨?_,fun w h=>ok.2 w (List.mem_of_mem_drop (j_ h))⟩,?_,T,a8,as,aC,by rw[aQ];omega,by rw[aQ];omega,by omega,bd,fun d hd=>(y d hd).d,by omega,fun r z=>(BF T.1 y z).irr T.1⟩
  ·exact ok.1.sublist (List.take_sublist _ _)
  ·exact ok.1.sublist ((List.take_sublist _ _).trans (List.drop_sublist _ _))
  ·intro w h1 h2;have h3:w∈a.drop 4:=j_ h1;have h4:w∈a.take 4:=by
    have:a.take (1+n)=(a.take 4).take (1+n):=by rw[List.take_take];congr 1;omega
    rw[this]at h2;exact j_ h2
   have:=ok.1;rw[<-List.take_append_drop 4 a,ee]at this;exact this.2.2 w h4 w h3 rfl
 ·omega
 ·exact(((e6.trans O).trans U).trans s).trans (cv.new ht)
theorem cq{a:Zb}{i:Nat}{x:V}(h:(a.map V.str)[i]?=some x):∃w,a[i]?=some w/\x=.str w:=by
 rw[dq]at h;cases q:a[i]? with
 |none=>rw[q]at h;cases h
 |some r=>rw[q]at h;exact⟨r,rfl,(dE h).symm⟩
theorem take_snoc{α:Type}{a:List α}{i:Nat}{w:α}(h:a[i]?=some w):a.take (i+1)=a.take i++[w]:=by
 obtain⟨hi,rfl⟩:=da.mp h;rw[List.take_succ_eq_append_getElem hi]
def nj(w:Str):Bool:=!decide (w=("":Str)) && (decide (w.length<=8) && w.cps.toList.all fun c=>decide (c∈("abcdefghijklmnopqrstuvwxyz":Str).cps.toList))
theorem o8.b{w:Str}(h:o8 w):nj w=true:=by
 unfold nj;have a:¬(w=("":Str)):=fun e=>by
  have:=h.lo;rw[e]at this;exact absurd this (by decide +kernel)
 rw[zzr0 a,zzr1 h.hi,Bool.not_false,qq,qq,qH];intro c f;obtain⟨g,i⟩:=h.al c f;refine zzr1 ?_;have:=Av (c-97) (by omega);have e:97+(c-97)=c:=by omega
 rw[e]at this;exact cT this
inductive sp_is_name (vs:List V)(H:Hp)(Q:VK)(E:XK):Prop
 |mk (w:Str):(vs=[.str w])->(w.length<=1000)->(∀H',ae H H'->Q (.bl (nj w)) H')->sp_is_name  vs H Q E
theorem yn{K:Za}{a:List V}{H:Hp}{Q:VK}{E:XK}(h:sp_is_name a H Q E):AK K (bF Q) (start Bo a) H:=by
 obtain⟨w,rfl,s,k⟩:=h;refine⟨_,rfl,rfl,_,rfl,?_⟩;have t:(!decide (V.str w=V.str ("":Str)))=!decide (w=("":Str)):=by
  congr 1;by_cases e:w=("":Str)
  ·rw[zzr1 e,zzr1 (by rw[e])]
  ·rw[zzr0 e,zzr0 (fun z=>e (by injection z))]
 rw[t];refine iy (fun m=>?_) (fun m=>?_)
 ·refine⟨_,rfl,.inr ⟨w,rfl,eX (aG s),_,_,rfl,rfl,_,rfl,?_⟩⟩;refine iy (fun n=>?_) (fun n=>?_)
  ·refine⟨_,rfl,w,rfl,fun l r=>?_⟩
   let p:Nat->List V->Hp->Prop:=fun i a j=>a=((w.cps.toList.take i).map fun c=>V.bl (decide (c∈("abcdefghijklmnopqrstuvwxyz":Str).cps.toList)))/\ae H j/\j l=some (.lst a)
   refine CU p
    ⟨rfl,ae.new r,aa⟩ (fun i a j _ h=>h.2.2) ?_ ?_
   ·rintro a j ⟨rfl,q,f⟩;refine⟨l,w.cps.toList.map fun c=>decide (c∈("abcdefghijklmnopqrstuvwxyz":Str).cps.toList),rfl,aB.of ?_,?_⟩
    ·rw[f,j9];have:w.cps.toList.take w.cps.size=w.cps.toList:=by
      rw[t8];simp
     rw[this]
     rfl
    ·have:=k j q;have g:decide (w.length<=8)=true:=zzr1 (by have:=of_decide_eq_true n;omega);unfold nj at this;rw[m,g,qq,qq]at this;rw[List.all_map];exact this
   ·rintro i a j c u hi ⟨rfl,q,f⟩;refine gN (xK ?_);refine⟨_,rfl,c,_,rfl,rfl,f,?_,pW hi ⟨?_,?_,aa⟩⟩
    ·rw[ao,aQ];have:w.length=w.cps.toList.length:=bH w;exact aG (by omega)
    ·rw[take_snoc (by rw[<-u];simp),aN]
     rfl
    ·intro b o e;rw[ai (ah e r)];exact q b o e
  ·have:=k H (ae.refl H);have g:decide (w.length<=8)=false:=zzr0 (fun z=>n (zzr1 (by omega)));unfold nj at this;rw[m,g,qq,Bool.false_and]at this;exact this
 ·have:=k H (ae.refl H);unfold nj at this;rw[Bool.eq_false_iff.mpr m,Bool.false_and]at this;exact this
def a_(ws:Zb):List (dX×V):=ws.foldl (fun acc w=>fM acc (.inr w) (.bl true)) []
theorem dQ(a:Zb)(w:Str):a_ (a++[w])=fM (a_ a) (.inr w) (.bl true):=by
 unfold a_;rw[List.foldl_append]
 rfl
theorem wJ{κ:Type}[DecidableEq κ](a:List (κ×V))(k:κ)(v:V):(fM a k v).length<=a.length+1:=by
 unfold fM;split
 ·rw[ao];omega
 ·rw[aY];exact aO _
theorem fm{α:Type}(P:List α->Prop)(e:P [])(f:∀ws w,P ws->P (ws++[w]))(ws:List α):P ws:=by
 have:∀n (ws:List α),ws.length=n->P ws:=by
  intro n
  induction n with
  |zero=>intro ws h;rw[List.length_eq_zero_iff.mp h];exact e
  |succ n g =>
   intro ws h;have a:ws≠[]:=fun z=>by rw[z]at h;cases h
   rw[<-List.dropLast_concat_getLast a];exact f _ _ (g _ (by rw[List.length_dropLast,h];rfl))
 exact this _ ws rfl
theorem jM(a:Zb):(a_ a).length<=a.length:=by
 refine fm (fun a=>(a_ a).length<=a.length) (aO _) (fun a w h=>?_) a;show(a_ (a++[w])).length<=(a++[w]).length;rw[dQ,aY];have:=wJ (a_ a) (.inr w) (.bl true);show _<=a.length+1;omega
theorem rN(a:Zb)(x:Str):cY (a_ a) (.inr x)=if x∈a then some (.bl true)else none:=by
 refine fm (fun a=>cY (a_ a) (.inr x)=if x∈a then some (.bl true)else none) rfl (fun a w h=>?_) a
 show cY (a_ (a++[w])) (.inr x)=_;rw[dQ,v4,h];by_cases e:x=w
 ·subst e;rw[if_pos rfl,if_pos (by simp)]
 ·have f:¬((Sum.inr x:dX)=.inr w):=fun z=>e (by injection z);rw[if_neg f];by_cases m:x∈a
  ·rw[if_pos m,if_pos (dC _ m)]
  ·rw[if_neg m,if_neg (fun z=>by rcases cj.mp z with z|z;exact m z;exact e (by simpa using z))]
theorem fV(a:Zb)(x:Str):(cY (a_ a) (.inr x)).isSome=decide (x∈a):=by
 rw[rN];by_cases m:x∈a
 ·rw[if_pos m,zzr1 m];rfl
 ·rw[if_neg m,zzr0 m];rfl
inductive sp_as_keys(K:Za)(vs:List V)(H:Hp)(Q:VK)(E:XK):Prop
 |mk (l:Addr) (ws:Zb):(vs=[.ref l])->(aB K H l (ws.map V.str))->(ws.length<=1000)->(∀d,H d=none->Q (.ref d) (upd H d (.dK (a_ ws))))->sp_as_keys K vs H Q E
theorem yq{K:Za}{o:List V}{H:Hp}{Q:VK}{E:XK}(h:sp_as_keys K o H Q E):AL K (bF Q) (start o6 o) H:=by
 obtain⟨l,j,rfl,q,t,k⟩:=h;refine fun d p=>?_;have a:∀f,aB K (upd H d (.dK f)) l (j.map V.str):=fun f=>(ae.new p).seq q;refine⟨_,rfl,l,rfl,⟨_,a _⟩,?_⟩
 let n:Nat->L2.St->Hp->Prop:=fun i σ m=>∃x,σ=[some (.ref l),some (.ref d),x]/\m=upd H d (.dK (a_ (j.take i)))
 refine eA (xs:=j.map V.str) n ⟨_,rfl,rfl⟩ (fun i σ m _ r=>by obtain⟨_,_,e⟩:=r;exact by rw[e];exact a _) ?_ ?_
 ·rintro i x σ m hi ⟨y,rfl,rfl⟩;obtain⟨w,s,rfl⟩:=cq hi;have g:(a_ (j.take i)).length<am:=aG (bp (jM _) (by rw[aQ];omega));refine⟨_,rfl,_,rfl,d,_,rfl,.inl ⟨_,.inr w,aa,rfl,g,rfl⟩,_,rfl,?_⟩;rw[mI,take_snoc s,dQ]
 ·rintro σ m ⟨x,rfl,rfl⟩;rw[ao,cA];exact⟨_,rfl,k d p⟩
def CH(most:Nat):Nat->List Str->List Str->Option Nat
 |_,_,[]=>none
 |i,ahead,n::ns=>if i=most∨n∈ahead∨nj n=false then some i else CH most (i+1) (ahead++[n]) ns
def br(names:Zb)(most:Nat)(taken:Zb):Option Nat:=if names=[]then some 0 else CH most 0 taken names
def oV:Option Nat->V
 |none=>.non
 |some i=>.int i
inductive sp_first_wrong_name(K:Za)(vs:List V)(H:Hp)(Q:VK)(E:XK):Prop
 |mk (l t:Addr) (names taken:Zb) (most:Nat):(vs=[.ref l,.int most,.ref t])->(aB K H l (names.map V.str))->(aB K H t (taken.map V.str))->(names.length+taken.length<=1000)->((∀w∈names,w.length<=1000))->(∀H',ae H H'->Q (oV (br names most taken)) H')->sp_first_wrong_name K vs H Q E
theorem oX{K:Za}{H:Hp}{Q:VK}{E:XK}{l:Addr}{ws:Zb}(a:aB K H l (ws.map V.str))(e:ws.length<=1000)(k:∀d,H d=none->Q (.ref d) (upd H d (.dK (a_ ws)))):sp_as_keys K [.ref l] H Q E:=by
 exact⟨l,ws,rfl,a,e,k⟩
theorem A_{H:Hp}{Q:VK}{E:XK}{w:Str}(e:w.length<=1000)(k:∀a,ae H a->Q (.bl (nj w)) a):sp_is_name [.str w] H Q E:=by
 exact⟨w,rfl,e,k⟩
theorem lA{K:Za}{N:List V}{H:Hp}{Q:VK}{E:XK}(h:sp_first_wrong_name K N H Q E):lY K sp_is_name (sp_as_keys K) (bF Q) (start mn N) H:=by
 obtain⟨l,t,names,taken,a,rfl,v,Y,hz,hw,k⟩:=h;refine⟨_,rfl,.inl ⟨l,_,rfl,.inl v,rfl,_,rfl,?_⟩⟩;by_cases B:names=[]
 ·subst B;refine bB ?_;have:=k H (ae.refl H);exact this
 have e0:decide (V.int ((names.map V.str).length:Nat)=V.int 0)=false:=zzr0 (fun z=>B (by
  injection z with z;rw[ao]at z;exact List.length_eq_zero_iff.mp (by omega)))
 rw[e0];refine bj ?_;have r:∀H',ae H H'->Q (oV (CH a 0 taken names)) H':=by
  unfold br at k;rw[if_neg B]at k;exact k
 refine⟨_,rfl,oX Y (by omega) fun d C=>?_⟩;refine⟨_,rfl,l,rfl,⟨_,(ae.new C).seq v⟩,?_⟩
 let D:Nat->L2.St->Hp->Prop:=fun i σ H'=>∃x y,σ=[some (.ref l),some (.int a),some (.ref t),some (.ref d),x,y]/\ae H H'/\H' d=some (.dK (a_ (taken++names.take i)))/\CH a i (taken++names.take i) (names.drop i)=CH a 0 taken names
 refine gy (xs:=names.map V.str) D
  ⟨_,_,rfl,ae.new C,by rw[List.take_zero,cO];exact aa,by rw[List.take_zero,cO,qA]⟩ (fun i σ H' _ zq=>by obtain⟨_,_,_,n,_⟩:=zq;exact n.seq v) ?_ ?_
 ·rintro i x σ H' q hi ⟨x4,x5,rfl,n,G,hf⟩ O;obtain⟨w,f,rfl⟩:=cq hi;have I:i<names.length:=(da.mp f).1;have ed:names.drop i=w::names.drop (i+1):=by
   rw[ue I];congr 1;exact(da.mp f).2
  rw[ed]at hf;have j:upd H' q (.tup [.int i,.str w]) d=some (.dK (a_ (taken++names.take i))):=kp G O;have g:ae H (upd H' q (.tup [.int i,.str w])):=n.trans (ae.new O);have J:w.length<=1000:=hw w (cT f);refine⟨q,_,rfl,bN.of aa,rfl,_,_,rfl,_,_,rfl,rfl,?_⟩;generalize upd H' q (.tup [.int i,.str w])=T at j g ⊢;refine⟨_,rfl,_,rfl,rfl,_,rfl,?_⟩;by_cases s:i=a
  ·have L:decide (V.int (i:Nat)=V.int (a:Nat))=true:=zzr1 (by rw[s]);rw[L];refine bB (bB ?_);refine⟨_,rfl,?_⟩;have:=r T g;rw[<-hf]at this;unfold CH at this;rw[if_pos (.inl s)]at this;exact this
  have L:decide (V.int (i:Nat)=V.int (a:Nat))=false:=zzr0 (fun z=>s (by injection z with z;omega));rw[L];refine bj ?_;refine⟨_,rfl,_,rfl,d,_,rfl,.inl ⟨_,.inr w,.inl j,rfl,rfl⟩,_,rfl,?_⟩;rw[fV];by_cases u:w∈taken++names.take i
  ·rw[zzr1 u];refine bB (bB ?_);refine⟨_,rfl,?_⟩;have:=r T g;rw[<-hf]at this;unfold CH at this;rw[if_pos (.inr (.inl u))]at this;exact this
  rw[zzr0 u];refine bj ?_;refine⟨_,rfl,A_ J fun H3 m=>⟨_,rfl,?_⟩⟩;have M:=m _ _ j;cases U:nj w with
  |false =>
   refine bB ?_;refine⟨_,rfl,?_⟩;have:=r H3 (g.trans m);rw[<-hf]at this;unfold CH at this;rw[if_pos (.inr (.inr U))]at this;exact this
  |true =>
   refine bj ?_;have p:(a_ (taken++names.take i)).length<am:=aG (bp (jM _) (by rw[aY,aQ];omega));refine⟨_,rfl,_,rfl,d,_,rfl,.inl ⟨_,.inr w,M,rfl,p,rfl⟩,_,_,rfl,?_,?_,?_⟩
   ·intro b o e;rw[ai (ah e C)];exact m _ _ (g _ _ e)
   ·rw[aa,take_snoc f,<-fb,dQ]
   ·rw[<-hf,take_snoc f,<-fb]
    conv=>rhs;unfold CH
    rw[if_neg];rintro(z|z|z)
    ·exact s z
    ·exact u z
    ·rw[U]at z;cases z
 ·rintro σ H' ⟨x,y,rfl,n,_,hf⟩;rw[ao,qt]at hf;have:=r H' n;rw[<-hf]at this;exact this
theorem wZ{a:Nat}:∀(e ahead:Zb) (i:Nat),i+e.length<=a->(ahead++e).Nodup->(∀w∈e,o8 w)->CH a i ahead e=none
 |[],_,_,_,_,_=>rfl
 |n::e,ahead,i,h,f,g=>by
  rw[d7]at h;unfold CH;rw[if_neg]
  ·refine wZ e (ahead++[n]) (i+1) (by omega) (by rw[fb];exact f) fun w j=>g w (dD _ j)
  ·rintro(z|z|z)
   ·omega
   ·rw[ee]at f;exact f.2.2 n z n (eQ) rfl
   ·rw[(g n eQ).b]at z;cases z
theorem gG{a:Nat}{e taken:Zb}(f:e≠[])(i:e.length<=a)(g:(taken++e).Nodup)(h:∀w∈e,o8 w):br e a taken=none:=by
 unfold br;rw[if_neg f];exact wZ e taken 0 (by omega) g h
theorem cp{n:Nat}(h:n<=9000):n<am:=uu h (by decide)
def rh(x:Str):TK:=.k (some (.inr x))
def Bw(sg:Zb):TK:=.t (sg.map rh)
def jj(d:ar):TK:=.t [rh d.a,Bw d.sg,rh d.b]
theorem p9{x y:Str}(h:rh x=rh y):x=y:=by
 unfold rh at h;injection h with h;injection h with h;injection h
theorem pD:∀{x y:Zb},x.map rh=y.map rh->x=y
 |[],[],_=>rfl
 |[],_::_,h=>by cases h
 |_::_,[],h=>by cases h
 |a::x,b::y,h=>by
  rw[bo,bo]at h;injection h with e f;rw[p9 e,pD f]
theorem Ai{x y:Zb}(h:Bw x=Bw y):x=y:=by
 unfold Bw at h;injection h with h;exact pD h
theorem Ed{x y:ar}(h:jj x=jj y):x=y:=by
 unfold jj at h;injection h with h;injection h with a h;injection h with e h;injection h with f h;cases x;cases y;simp only at *;rw[p9 a,Ai e,p9 f]
theorem xS(xs:Zb):TK.depths (xs.map rh)=0:=by
 induction xs with
 |nil=>rfl
 |cons x xs a=>rw[bo];show max (TK.depth (rh x)) (TK.depths _)=0;rw[a];rfl
theorem tj(a:Zb):(Bw a).depth=1:=by
 show TK.depths (a.map rh)+1=1;rw[xS]
theorem n6(d:ar):(jj d).depth=2:=by
 show max (TK.depth (rh d.a)) (max (TK.depth (Bw d.sg)) (max (TK.depth (rh d.b)) 0))+1=2;rw[tj]
 rfl
theorem zL{H:Hp}:∀xs:List Str,TKAts H (xs.map rh) (xs.map V.str)
 |[]=>by show TKAts H [] [];unfold TKAts;rfl
 |x::xs=>by
  rw[bo,bo];unfold TKAts;refine⟨_,_,rfl,?_,zL xs⟩;unfold rh iD
  rfl
theorem xT{H:Hp}(x:Str):iD H (rh x) (.str x):=by unfold rh iD;rfl
theorem SignAt.tk{H:Hp}{s:Addr}{a:Zb}(h:SignAt H s a):iD H (Bw a) (.ref s):=by
 unfold Bw iD;exact⟨s,_,rfl,h,zL _⟩
theorem dS.tk{H:Hp}{t:Addr}{d:ar}(h:dS H t d):iD H (jj d) (.ref t):=by
 obtain⟨s,a,e⟩:=h;unfold jj iD;refine⟨t,_,rfl,a,?_⟩;unfold TKAts;refine⟨_,_,rfl,xT _,?_⟩;unfold TKAts;refine⟨_,_,rfl,SignAt.tk e,?_⟩;unfold TKAts;refine⟨_,_,rfl,xT _,?_⟩;unfold TKAts
 rfl
section
variable{κ:Type}[DecidableEq κ]
def dh(ks:List κ):List (κ×V):=ks.foldl (fun acc k=>fM acc k (.bl true)) []
theorem iu(a:List κ)(w:κ):dh (a++[w])=fM (dh a) w (.bl true):=by
 unfold dh;rw[List.foldl_append]
 rfl
theorem tK(a:List κ):(dh a).length<=a.length:=by
 refine fm (fun a=>(dh a).length<=a.length) (aO _) (fun a w h=>?_) a;show(dh (a++[w])).length<=(a++[w]).length;rw[iu,aY];have:=wJ (dh a) w (.bl true);show _<=a.length+1;omega
theorem wU(a:List κ)(x:κ):(cY (dh a) x).isSome=decide (x∈a):=by
 refine fm (fun a=>(cY (dh a) x).isSome=decide (x∈a)) rfl (fun a w h=>?_) a;show(cY (dh (a++[w])) x).isSome=_;rw[iu,v4];by_cases e:x=w
 ·subst e;rw[if_pos rfl,zzr1 (by simp)]
  rfl
 ·rw[if_neg e,h];by_cases m:x∈a
  ·rw[zzr1 m,zzr1 (dC _ m)]
  ·rw[zzr0 m,zzr0 (fun z=>by rcases cj.mp z with z|z;exact m z;exact e (by simpa using z))]
end
theorem ve{d:ar}{a:List ar}:jj d∈a.map jj↔d∈a:=by
 constructor
 ·intro h;obtain⟨x,hx,e⟩:=bh.mp h;rw[<-Ed e];exact hx
 ·exact lN
def ml(K:Za)(H:Hp)(v:V)(sg:Zb):Prop:=∃s,v=.ref s/\bN K H s (sg.map V.str)
theorem ae.sqT{K:Za}{H f:Hp}{a:Addr}{xs:List V}(e:ae H f)(h:bN K H a xs):bN K f a xs:=by
 rcases h with(h|⟨o,h⟩)|h
 ·exact .inl (.inl (e _ _ h))
 ·exact .inl (.inr ⟨o,e _ _ h⟩)
 ·exact .inr h
theorem Signs.same{K:Za}{H f:Hp}(e:ae H f){xs:List V}{a:List (List Str)}(h:Paired (ml K H) xs a):Paired (ml K f) xs a :=
 Paired.mapP h fun _ _ ⟨s,g,i⟩=>⟨s,g,ae.sqT e i⟩
def vp(sg:Zb):DT:=.t (sg.map bW)
theorem Aj{x y:Zb}(h:vp x=vp y):x=y:=by
 unfold vp at h;injection h with h;exact iY h
theorem lf(a:Zb):(vp a).depth=1:=by
 show DT.depths (a.map bW)+1=1;rw[bR]
theorem Bd(a:List (List Str)):DT.depths (a.map vp)<=8:=by
 induction a with
 |nil=>exact cf _
 |cons x xs e=>rw[bo];show max (DT.depth (vp x)) (DT.depths _)<=8;rw[lf];omega
theorem Signs.dIns{K:Za}{H:Hp}{xs:List V}{a:List (List Str)}(h:Paired (ml K H) xs a):DIns K H (a.map vp) xs:=by
 induction h with
 |nil=>show DIns K H [] [];unfold DIns;rfl
 |cons q _ f =>
  obtain⟨s,e,r⟩:=q;rw[bo];unfold DIns;refine⟨_,_,rfl,?_,f⟩;rw[e];exact iA r
theorem Ac{d:Zb}{a:List (List Str)}:vp d∈a.map vp↔d∈a:=by
 constructor
 ·intro h;obtain⟨x,hx,e⟩:=bh.mp h;rw[<-Aj e];exact hx
 ·exact lN
theorem Paired.app{α β:Type}{R:α->β->Prop}{a:List α}{b:List β}{c:List α}{d:List β}(g:Paired R a b)(h:Paired R c d):Paired R (a++c) (b++d):=by
 induction g with
 |nil=>exact h
 |cons r _ e=>exact .cons r e
def GH(w:Str):List Str:=[("ask":Str),w]
def Gq(w:Str):List Str:=[("say":Str),w]
def hW(J0 J1:Zb):List (List Str):=J0.map GH++J1.map Gq++[stillSg]
theorem rg{K:Za}{h:Str}{σ:L2.St}{H:Hp}{a l:Addr}{j:Zb}{Q:Hp->Prop}(C:H a=some (.lst (j.map V.str)))(B:H l=none)(L:j.length<=1000)
  (k:∀(xs:List V) (f:Hp),Paired (ml K f) xs (j.map fun w=>[h,w])->ae H f->f l=some (.lst xs)->Q f) :
  kQ 1 [] σ (EY K a) U0 ln (eV (aF (tC (.str h)) V0)) H l Q:=by
 let r:Nat->List V->Hp->Prop:=fun i g f=>Paired (ml K f) g ((j.take i).map fun w=>[h,w])/\ae H f/\f l=some (.lst g)
 refine cI (xs:=j.map V.str) r
  ⟨.nil,ae.new B,aa⟩ (fun i g f _ D=>by obtain⟨_,E,G⟩:=D;exact⟨G,aB.of (E _ _ C)⟩) ?_ ?_
 ·rintro g f ⟨m,u,n⟩;rw[ao,cA]at m;exact k g f m u n
 ·rintro i g f x hx hi ⟨m,u,n⟩;obtain⟨w,I,rfl⟩:=cq hx;refine gN (xK ?_);refine⟨_,rfl,(by show 2<=am;decide),fun t p=>⟨kp n p,?_,pW hi ⟨?_,?_,aa⟩⟩⟩
  ·rw[Paired.length m,ao,aQ];exact aG (by omega)
  ·rw[take_snoc I,aN];have q:xF (upd f t (.tup [.str h,.str w])) (upd (upd f t (.tup [.str h,.str w])) l (.lst (g++[.ref t]))):=fy (kp n p);have y:xF f (upd (upd f t (.tup [.str h,.str w])) l (.lst (g++[.ref t]))):=(ae.kt (ae.new p)).trans q;refine Paired.app (Paired.mapP m fun v M ⟨s,J,e2⟩=>⟨s,J,?_⟩) (.cons ⟨t,rfl,bN.of (q _ _ aa)⟩ .nil);rcases e2 with(e2|⟨o,e2⟩)|e2
   ·exact .inl (.inl (y _ _ e2))
   ·refine .inl (.inr ⟨o,?_⟩);rw[ai (fun z=>by rw[z,n]at e2;cases e2)];exact kp e2 p
   ·exact .inr e2
  ·intro b o e;rw[ai (ah e B)];exact kp (u _ _ e) p
inductive sp_door_signs(K:Za)(vs:List V)(H:Hp)(Q:VK)(E:XK):Prop
 |mk (l1 l2:Addr) (J0 J1:Zb):(vs=[.ref l1,.ref l2])->(H l1=some (.lst (J0.map V.str)))->(H l2=some (.lst (J1.map V.str)))->(J0.length<=100)->(J1.length<=100)->(∀(l:Addr) (xs:List V) (H':Hp),Paired (ml K H') xs (hW J0 J1)->ae H H'->H' l=some (.lst xs)->Q (.ref l) H')->sp_door_signs K vs H Q E
theorem sK{K:Za}{st:Addr}(i:∀H,bN K H st (stillSg.map V.str)){n:List V}{H:Hp}{Q:VK}{E:XK}(h:sp_door_signs K n H Q E):uJ K st (bF Q) (start vM n) H:=by
 obtain⟨z,B,M,N,rfl,o,p,C,D,k⟩:=h;refine⟨_,rfl,z,rfl,⟨_,aB.of o⟩,fun a G=>?_⟩;refine rg o G (by omega) fun f O q j I=>?_;refine⟨_,rfl,B,rfl,⟨_,aB.of (j _ _ p)⟩,fun b J=>?_⟩;refine rg (j _ _ p) J (by omega) fun g r s l L=>?_;have t:f.length<=100:=by rw[Paired.length q,ao];exact C
 have u:g.length<=100:=by rw[Paired.length s,ao];exact D
 refine⟨a,b,f,g,rfl,rfl,l _ _ I,L,eX (aG (by omega)),fun c v=>?_⟩;refine⟨(by show 1<=am;decide),fun d m=>?_⟩;refine⟨c,d,_,_,rfl,rfl,kp aa m,aa,?_,fun e x=>k e _ _ ?_ ?_ aa⟩
 ·rw[aY];show _+1<=am;exact eX (aG (by omega))
 ·have y:ae r (upd (upd (upd r c (.lst (f++g))) d (.lst [.ref st])) e (.lst (f++g++[.ref st]))):=((ae.new v).trans (ae.new m)).trans (ae.new x);exact Paired.app (Paired.app (Signs.same (l.trans y) q) (Signs.same y s)) (.cons ⟨st,rfl,i _⟩ .nil)
 ·exact(((j.trans l).trans (ae.new v)).trans (ae.new m)).trans (ae.new x)
def C6(J2:Zb)(sgs:List (List Str)):Nat->List ar->List ar->Option Nat
 |_,_,[]=>none
 |i,ahead,d::ds=>if i=2000∨d∈ahead∨d.a∉J2∨d.sg∉sgs∨d.b∉J2 then some i else C6 J2 sgs (i+1) (ahead++[d]) ds
inductive sp_first_wrong_door(K:Za)(vs:List V)(H:Hp)(Q:VK)(E:XK):Prop
 |mk (l l3 sl:Addr) (ts:Ze) (ds:List ar) (J2:Zb) (xs:List V) (sgs:List (List Str)):(vs=[.ref l,.ref l3,.ref sl])->(H l=some (.lst (ts.map V.ref)))->(bD H ts ds)->(H l3=some (.lst (J2.map V.str)))->(J2.length<=1000)->(H sl=some (.lst xs))->(Paired (ml K H) xs sgs)->(ds.length<=9000)->(∀H',ae H H'->Q (oV (C6 J2 sgs 0 [] ds)) H')->sp_first_wrong_door K vs H Q E
theorem df{a:Ze}{i:Nat}{x:V}(h:(a.map V.ref)[i]?=some x):∃w,a[i]?=some w/\x=.ref w:=by
 rw[dq]at h;cases q:a[i]? with
 |none=>rw[q]at h;cases h
 |some r=>rw[q]at h;exact⟨r,rfl,(dE h).symm⟩
theorem lB{K:Za}{vs:List V}{H:Hp}{Q:VK}{E:XK}(h:sp_first_wrong_door K vs H Q E):lZ K (sp_as_keys K) (bF Q) (start mo vs) H:=by
 obtain⟨l,l3,sl,ts,n,v,xs,j,rfl,hl,C,h3,hr,Y,ab,hz,k⟩:=h;refine⟨_,rfl,oX (aB.of h3) hr fun d hd=>?_⟩;refine fun e he=>?_;have D:ae H (upd (upd H d (.dK (a_ v))) e (.dT [])):=(ae.new hd).trans (ae.new he);have ak:H e=none:=(ae.new hd).free he;refine⟨_,rfl,l,rfl,⟨_,aB.of (D _ _ hl)⟩,?_⟩
 let al:Nat->L2.St->Hp->Prop:=fun i σ H'=>∃x y,σ=[some (.ref l),some (.ref l3),some (.ref sl),some (.ref d),some (.ref e),x,y]/\ae H H'/\H' d=some (.dK (a_ v))/\H' e=some (.dT (dh ((n.take i).map jj)))/\C6 v j i (n.take i) (n.drop i)=C6 v j 0 [] n
 refine gy (xs:=ts.map V.ref) al
  ⟨_,_,rfl,D,kp aa he,aa,rfl⟩ (fun i σ H' _ zq=>by obtain⟨_,_,_,G,_⟩:=zq;exact aB.of (G _ _ hl)) ?_ ?_
 ·rintro i x σ H' q hi ⟨x5,x6,rfl,G,an,ap,hf⟩ hq;obtain⟨t,ht,rfl⟩:=df hi;obtain⟨dr,p,aq⟩:=Paired.getL C ht;have as:i<n.length:=(da.mp p).1;have ed:n.drop i=dr::n.drop (i+1):=by
   rw[ue as];congr 1;exact(da.mp p).2
  rw[ed]at hf;have f:ae H (upd H' q (.tup [.int i,.ref t])):=G.trans (ae.new hq);have g:upd H' q (.tup [.int i,.ref t]) d=_:=kp an hq;have r:upd H' q (.tup [.int i,.ref t]) e=_:=kp ap hq;refine⟨q,_,rfl,bN.of aa,rfl,_,_,rfl,_,_,rfl,rfl,?_⟩;generalize upd H' q (.tup [.int i,.ref t])=H2 at g r f ⊢;have B:=aq.kt (ae.kt f);have aC:pY K H2 (jj dr) (.ref t):=iD.isIn 8 (by rw[n6];decide) B.tk;have I:(jj dr).depth<=8:=by rw[n6];decide
  obtain⟨s,u,J⟩:=B;have m:(i=2000∨dr∈n.take i∨dr.a∉v∨dr.sg∉j∨dr.b∉v)->Q (.int i) H2:=by
   intro c;have:=k H2 f;rw[<-hf]at this;unfold C6 at this;rw[if_pos c]at this;exact this
  refine⟨_,rfl,rfl,_,rfl,?_⟩;by_cases M:i=2000
  ·have e1:decide (V.int (i:Nat)=V.int 2000)=true:=zzr1 (by rw[M];rfl);rw[e1];exact bB (bB ⟨_,rfl,m (.inl M)⟩)
  have e1:decide (V.int (i:Nat)=V.int 2000)=false:=zzr0 (fun z=>M (by injection z with z;omega));rw[e1];refine bj ?_;refine⟨_,rfl,_,rfl,e,_,rfl,.inr ⟨_,jj dr,t,.inl r,rfl,aC,I,rfl⟩,_,rfl,?_⟩;rw[wU];by_cases N:dr∈n.take i
  ·rw[zzr1 (ve.mpr N)];exact bB ⟨_,rfl,m (.inr (.inl N))⟩
  rw[zzr0 (fun z=>N (ve.mp z))];refine bj ?_;refine⟨_,rfl,.inr (.inl ⟨t,_,0,_,rfl,rfl,bN.of u,rfl,_,rfl,d,_,rfl,.inl ⟨_,.inr dr.a,.inl g,rfl,rfl⟩,_,rfl,?_⟩)⟩;rw[fV];by_cases O:dr.a∈v;rotate_left
  ·rw[zzr0 O];exact bB (bB ⟨_,rfl,m (.inr (.inr (.inl O)))⟩)
  rw[zzr1 O];refine bj ?_;refine⟨_,rfl,.inr (.inl ⟨t,_,1,_,rfl,rfl,bN.of u,rfl,_,rfl,vp dr.sg,j.map vp,sl,xs,iA (bN.of J),rfl,.inl (aB.of (f _ _ Y)),Signs.dIns (Signs.same f ab),by rw[lf];decide,Bd _,_,rfl,?_⟩)⟩;rw[if_pos rfl];by_cases T:dr.sg∈j;rotate_left
  ·rw[zzr0 (fun z=>T (Ac.mp z))];exact bB (bB ⟨_,rfl,m (.inr (.inr (.inr (.inl T))))⟩)
  rw[zzr1 (Ac.mpr T)];refine bj ?_;refine⟨_,rfl,.inr (.inl ⟨t,_,2,_,rfl,rfl,bN.of u,rfl,_,rfl,d,_,rfl,.inl ⟨_,.inr dr.b,.inl g,rfl,rfl⟩,_,rfl,?_⟩)⟩;rw[fV];by_cases U:dr.b∈v;rotate_left
  ·rw[zzr0 U];exact bB ⟨_,rfl,m (.inr (.inr (.inr (.inr U))))⟩
  rw[zzr1 U];refine bj ?_;have L:(dh ((n.take i).map jj)).length<am:=cp (bp (tK _) (by rw[ao,aQ];omega));refine⟨_,rfl,_,rfl,e,_,rfl,.inr ⟨_,jj dr,t,r,rfl,dS.tk ⟨s,u,J⟩,I,L,rfl⟩,_,_,rfl,?_,?_,?_,?_⟩
  ·intro b o q;rw[ai (ah q ak)];exact f _ _ q
  ·rw[ai (fun z=>by rw[z,r]at g;cases g)];exact g
  ·rw[aa,take_snoc p,aN];exact congrArg (fun z=>some (HO.dT z)) (iu _ _).symm
  ·rw[<-hf,take_snoc p]
   conv=>rhs;unfold C6
   rw[if_neg];rintro(z|z|z|z|z)
   ·exact M z
   ·exact N z
   ·exact z O
   ·exact z T
   ·exact z U
 ·rintro σ H' ⟨x,y,rfl,G,_,_,hf⟩;have:=k H' G;rw[<-hf,ao,Paired.length C,qt]at this;exact this
theorem w6{g:Zb}{e:List (List Str)}:∀(f ahead:List ar) (i:Nat),i+f.length<=2000->(ahead++f).Nodup->(∀d∈f,d.a∈g/\d.sg∈e/\d.b∈g)->C6 g e i ahead f=none
 |[],_,_,_,_,_=>rfl
 |n::k,ahead,i,l,h,j=>by
  rw[d7]at l;unfold C6;rw[if_neg]
  ·refine w6 k (ahead++[n]) (i+1) (by omega) (by rw[fb];exact h) fun w m=>j w (dD _ m)
  ·have:=j n eQ;rintro(z|z|z|z|z)
   ·omega
   ·rw[ee]at h;exact h.2.2 n z n (eQ) rfl
   ·exact z this.1
   ·exact z this.2.1
   ·exact z this.2.2
structure Lists(H:Hp)(l1 l2 l3 l4:Addr)(ts:Ze)(J0 J1 J2:Zb)(ds:List ar):Prop where
 a1:H l1=some (.lst (J0.map V.str))
 a2:H l2=some (.lst (J1.map V.str))
 a3:H l3=some (.lst (J2.map V.str))
 a4:H l4=some (.lst (ts.map V.ref))
 ds:bD H ts ds
theorem Lists.same{H a:Hp}{f g l3 i:Addr}{j:Ze}{k l m:Zb}{n:List ar}(h:Lists H f g l3 i j k l m n)(e:ae H a):Lists a f g l3 i j k l m n :=
 ⟨e _ _ h.a1,e _ _ h.a2,e _ _ h.a3,e _ _ h.a4,h.ds.kt (ae.kt e)⟩
theorem hU{a:Zb}(h:gX a):∀w∈a,w.length<=1000:=fun w e=>bp (h.2 w e).hi (by decide)
section
variable{κ ι:Type}[DecidableEq κ]{e:ι->κ}
def c7(e:ι->κ)(ps:List (ι×Addr)):List (κ×V):=ps.map fun x=>(e x.1,V.ref x.2)
theorem nq(inj:∀x y,e x=e y->x=y){i:ι}:∀{a:List (ι×Addr)},i∉a.map (·.1)->cY (c7 e a) (e i)=none
 |[],_=>rfl
 |x::a,h=>by
  rw[bo,bY]at h;show cY ((e x.1,V.ref x.2)::c7 e a) (e i)=none;rw[cU (fun z=>h (.inl (inj _ _ z).symm))];exact nq inj (fun z=>h (.inr z))
theorem eB(inj:∀x y,e x=e y->x=y){i:ι}{a:Addr}:∀{f:List (ι×Addr)},(f.map (·.1)).Nodup->(i,a)∈f->cY (c7 e f) (e i)=some (.ref a)
 |[],_,h=>by cases h
 |x::f,g,h=>by
  rw[bo,jx]at g;show cY ((e x.1,V.ref x.2)::c7 e f) (e i)=_;rcases bY.mp h with h|h
  ·rw[<-h];exact db rfl
  ·rw[cU (fun z=>g.1 (by rw[inj _ _ z];exact bh.mpr ⟨_,h,rfl⟩))];exact eB inj g.2 h
theorem tJ(f:List (ι×Addr))(i:ι)(a:Addr):c7 e (f++[(i,a)])=c7 e f++[(e i,.ref a)]:=by
 unfold c7;rw[aN]
 rfl
end
structure DL{ι:Type}(H0 H:Hp)(d:Addr)(ps:List (ι×Addr)):Prop where
 nd:(ps.map (·.1)).Nodup
 na:(ps.map (·.2)).Nodup
 fr:∀x∈ps,H0 x.2=none
 frd:H0 d=none
 ned:∀x∈ps,x.2≠d
 same:ae H0 H
theorem DL.snoc{ι:Type}{f H k:Hp}{d:Addr}{g:List (ι×Addr)}{i:ι}{a:Addr}(h:DL f H d g)(hi:i∉g.map (·.1))(l:∀x∈g,x.2≠a)(m:f a=none)(n:a≠d)(s:ae f k):DL f k d (g++[(i,a)]):=by
 refine⟨?_,?_,?_,h.frd,?_,s⟩
 ·rw[aN,ee];refine⟨h.nd,by simp,fun x hx y j e=>?_⟩;have:y=i:=by simpa using j
  exact hi (by rw[<-this,<-e];exact hx)
 ·rw[aN,ee];refine⟨h.na,by simp,fun x hx y j e=>?_⟩;have:y=a:=by simpa using j
  obtain⟨z,o,rfl⟩:=bh.mp hx;exact l z o (e.trans this)
 ·intro x hx;rcases cj.mp hx with hx|hx
  ·exact h.fr x hx
  ·have:x=(i,a):=by simpa using hx
   rw[this];exact m
 ·intro x hx;rcases cj.mp hx with hx|hx
  ·exact h.ned x hx
  ·have:x=(i,a):=by simpa using hx
   rw[this];exact n
theorem Cy{ι:Type}:∀{a:List (ι×Addr)},(a.map (·.2)).Nodup->∀{x y:ι×Addr},x∈a->y∈a->x.2=y.2->x=y
 |[],_,x,_,h,_,_=>by cases h
 |p::a,f,x,y,hx,g,e=>by
  rw[bo,jx]at f;rcases bY.mp hx with hx'|hx'<;>rcases bY.mp g with hy'|hy'
  ·rw[hx',hy']
  ·exact absurd (bh.mpr ⟨y,hy',by rw[<-e,hx']⟩) f.1
  ·exact absurd (bh.mpr ⟨x,hx',by rw[e,hy']⟩) f.1
  ·exact Cy f.2 hx' hy' e
theorem iZ:∀x y:Str,(Sum.inr x:dX)=Sum.inr y->x=y:=fun x y h=>by injection h
def aH(ds:List ar)(r:Str):List ar:=ds.filter fun d=>decide (d.a=r)
inductive sp_doors_by_start (vs:List V)(H:Hp)(Q:VK)(E:XK):Prop
 |mk (l3 l4:Addr) (ts:Ze) (J2:Zb) (ds:List ar):(vs=[.ref l3,.ref l4])->(H l3=some (.lst (J2.map V.str)))->(H l4=some (.lst (ts.map V.ref)))->(bD H ts ds)->(J2.Nodup)->(J2.length<=1000)->(ds.length<=9000)->((∀d∈ds,d.a∈J2))->(∀(d:Addr) (ps:List (Str×Addr)) (H':Hp),ps.map (·.1)=J2->H' d=some (.dK (c7 Sum.inr ps))->(∀x∈ps,∃us,H' x.2=some (.lst (us.map V.ref))/\bD H' us (aH ds x.1))->ae H H'->Q (.ref d) H')->sp_doors_by_start  vs H Q E
theorem m7{K:Za}{vs:List V}{H:Hp}{Q:VK}{E:XK}(h:sp_doors_by_start vs H Q E):oj K (bF Q) (start o5 vs) H:=by
 obtain⟨l3,l4,ts,J2,L,rfl,h3,h4,M,an,hz,a7,ap,k⟩:=h;refine fun d hd=>?_;refine⟨_,rfl,l3,rfl,⟨_,aB.of (kp h3 hd)⟩,?_⟩
 let aq:Nat->L2.St->Hp->Prop:=fun i σ j=>∃x y,σ=[some (.ref l3),some (.ref l4),some (.ref d),x,y]/\∃l:List (Str×Addr),l.map (·.1)=J2.take i/\j d=some (.dK (c7 Sum.inr l))/\DL H j d l/\∀x∈l,j x.2=some (.lst [])
 refine eA (xs:=J2.map V.str) aq
  ⟨_,_,rfl,[],rfl,aa,⟨by simp,by simp,by simp,hd,by simp,ae.new hd⟩,by simp⟩ (fun i σ j _ zq=>by obtain⟨_,_,_,_,_,_,D,_⟩:=zq;exact aB.of (D.same _ _ h3)) ?_ ?_
 ·rintro i x σ j hi ⟨x3,N,rfl,l,m,n,D,g⟩;obtain⟨w,hw,rfl⟩:=cq hi;have u:w∉l.map (·.1):=by
   rw[m];intro z;have:=an;rw[<-List.take_append_drop (i+1) J2,take_snoc hw,ee]at this;have:=this.1;rw[ee]at this;exact this.2.2 w z w (by simp) rfl
  refine⟨(by show 0<=am;decide),fun a G=>?_⟩;have O:(c7 (Sum.inr:Str->dX) l).length<am:=aG (by
   unfold c7;rw[ao,<-ao (f:=(·.1)) (as:=l),m,aQ];omega)
  have aC:H a=none:=D.same.free G;have T:a≠d:=(ah n G).symm;have U:∀x∈l,x.2≠a:=fun x hx=>ah (g x hx) G;refine⟨_,rfl,_,rfl,d,_,rfl,.inl ⟨_,.inr w,kp n G,rfl,O,rfl⟩,_,_,rfl,l++[(w,a)],?_,?_,?_,?_⟩
  ·rw[aN,m,take_snoc hw];rfl
  ·rw[aa,m_ _ (nq iZ u),tJ]
  ·refine D.snoc u U aC T ?_;intro b o q;rw[ai (ah q hd)];exact kp (D.same _ _ q) G
  ·intro x hx;rcases cj.mp hx with hx|hx
   ·rw[ai (D.ned x hx)];exact kp (g x hx) G
   ·have:x=(w,a):=by simpa using hx
    rw[this,ai T];exact aa
 ·rintro σ H1 ⟨x3,N,rfl,l,m,aS,D1,g⟩;rw[ao,cA]at m;refine⟨_,rfl,l4,rfl,⟨_,aB.of (D1.same _ _ h4)⟩,?_⟩
  let aT:Nat->L2.St->Hp->Prop:=fun i σ j=>∃N,σ=[some (.ref l3),some (.ref l4),some (.ref d),x3,N]/\j d=some (.dK (c7 Sum.inr l))/\DL H j d l/\∀x∈l,∃I,j x.2=some (.lst (I.map V.ref))/\bD j I (aH (L.take i) x.1)
  refine eA (xs:=ts.map V.ref) aT
   ⟨_,rfl,aS,D1,fun x hx=>⟨[],g x hx,.nil⟩⟩ (fun i σ j _ zq=>by obtain⟨_,_,_,D,_⟩:=zq;exact aB.of (D.same _ _ h4)) ?_ ?_
  ·rintro i x σ j hi ⟨N,rfl,n,D,g⟩;obtain⟨t,ht,rfl⟩:=df hi;obtain⟨dr,B,aX⟩:=Paired.getL M ht;have v:=aX.kt (ae.kt D.same);have Y:=v;obtain⟨s,a0,a8⟩:=v;have ab:dr.a∈l.map (·.1):=by rw[m];exact ap dr (cT B)
   obtain⟨⟨r,a⟩,p,er⟩:=bh.mp ab;obtain rfl:r=dr.a:=er;obtain⟨I,C,ak⟩:=g _ p;have a9:i<L.length:=(da.mp B).1;have a4:I.length<=9000:=by
    rw[Paired.length ak];refine bp (fH _ _) ?_;rw[aQ];omega
   have KT:xF j (upd j a (.lst (I.map V.ref++[.ref t]))):=fy C;refine⟨_,rfl,_,rfl,.inr (.inl ⟨t,_,0,_,rfl,rfl,bN.of a0,rfl,d,.ref a,rfl,.inl ⟨_,.inr dr.a,.inl n,rfl,(eB iZ D.nd p).symm⟩,.inl ⟨rfl,_,aB.of C⟩,_,rfl,a,_,_,rfl,rfl,C,?_,_,rfl,?_,?_,?_⟩)⟩
   ·rw[ao];exact cp a4
   ·rw[ai (D.ned _ p).symm];exact n
   ·refine⟨D.nd,D.na,D.fr,D.frd,D.ned,fun b o q=>?_⟩;rw[ai (ah q (D.fr _ p))];exact D.same _ _ q
   ·intro x hx;have al:∀r',aH (L.take (i+1)) r'=aH (L.take i) r'++(if dr.a=r' then[dr]else[]):=by
     intro r';unfold aH;rw[take_snoc B,qo];congr 1;by_cases c:dr.a=r'
     ·rw[if_pos c];simp[c]
     ·rw[if_neg c];simp[c]
    by_cases c:x.2=a
    ·have ex:=Cy D.na hx p c;subst ex;refine⟨I++[t],?_,?_⟩
     ·show upd j a _ a=_;rw[aa,aN];rfl
     ·rw[al];show bD _ _ (aH (L.take i) dr.a++(if dr.a=dr.a then[dr]else[]))
      rw[if_pos rfl];exact Paired.app (ak.kt KT) (.cons (Y.kt KT) .nil)
    ·obtain⟨a5,h1,h2⟩:=g x hx;have a6:¬(dr.a=x.1):=fun z=>by
      have e1:=eB (e:=(Sum.inr:Str->dX)) iZ D.nd p;have J:=eB (e:=(Sum.inr:Str->dX)) (i:=x.1) (a:=x.2) iZ D.nd hx;rw[<-z,e1]at J;injection J with J;injection J with J;exact c J.symm
     refine⟨a5,by rw[ai c];exact h1,?_⟩;rw[al,if_neg a6,cO];exact h2.kt KT
  ·rintro σ j ⟨N,rfl,n,D,g⟩;rw[ao,Paired.length M,cA]at g;exact⟨_,rfl,k d l j m n g D.same⟩
def gP(d:ar):Bool:=match d.sg with
 |s::_=>decide (s=("ask":Str))
 |[]=>false
inductive sp_has_asks_alone (vs:List V)(H:Hp)(Q:VK)(E:XK):Prop
 |mk (a:Addr) (us:Ze) (ds:List ar):(vs=[.ref a])->(H a=some (.lst (us.map V.ref)))->(bD H us ds)->(ds.length<=9000)->((∀d∈ds,d.sg≠[]))->(∀H',ae H H'->Q (.bl (ds.all gP)) H')->sp_has_asks_alone  vs H Q E
theorem m5{K:Za}{f:List V}{H:Hp}{Q:VK}{E:XK}(h:sp_has_asks_alone f H Q E):oh K (bF Q) (start o0 f) H:=by
 obtain⟨a,T,M,rfl,N,v,hz,G,k⟩:=h;refine⟨_,rfl,a,rfl,⟨_,aB.of N⟩,fun l O=>?_⟩
 let I:Nat->List V->Hp->Prop:=fun i f n=>f=(M.take i).map (fun d=>V.bl (gP d))/\ae H n/\n l=some (.lst f)
 refine cI (xs:=T.map V.ref) I
  ⟨rfl,ae.new O,aa⟩ (fun i f n _ U=>by obtain⟨_,p,r⟩:=U;exact⟨r,aB.of (p _ _ N)⟩) ?_ ?_
 ·rintro f n ⟨rfl,p,r⟩;rw[ao,Paired.length v,cA]at r;refine⟨l,M.map gP,rfl,aB.of (by rw[r,j9];rfl),?_⟩;rw[List.all_map];exact k n p
 ·rintro i f n x hx hi ⟨rfl,p,r⟩;obtain⟨t,Y,rfl⟩:=df hx;obtain⟨dr,B,J⟩:=Paired.getL v Y;obtain⟨s,L,m⟩:=J.kt (ae.kt p);have C:=cT B;obtain⟨u,g,D⟩:∃u g,dr.sg=u::g:=by
   cases q:dr.sg with
   |nil=>exact absurd q (G dr C)
   |cons x y=>exact⟨x,y,rfl⟩
  unfold SignAt at m;rw[D]at m;refine gN (xK ?_);refine⟨_,rfl,.inr (.inl ⟨t,_,1,_,rfl,rfl,bN.of L,rfl,.inr (.inl ⟨s,_,0,.str u,rfl,rfl,bN.of m,c_ (j:=0) rfl,rfl,r,?_,pW hi ⟨?_,?_,aa⟩⟩)⟩)⟩
  ·rw[ao,aQ];exact cp (by omega)
  ·rw[take_snoc B,aN];congr 1;show[V.bl _]=[V.bl _];congr 2;unfold gP;rw[D];show decide (V.str u=V.str _)=decide (u=_);by_cases c:u=("ask":Str)
   ·rw[zzr1 c,zzr1 (by rw[c])]
   ·rw[zzr0 c,zzr0 (fun z=>c (by injection z))]
  ·intro b o e;rw[ai (ah e O)];exact p _ _ e
def vS(x:Str×List Str):TK:=.t [rh x.1,Bw x.2]
theorem jG:∀x y:Str×List Str,vS x=vS y->x=y:=by
 intro x y h;unfold vS at h;injection h with h;injection h with a h;injection h with e h;cases x;cases y;simp only at *;rw[p9 a,Ai e]
theorem tw(x:Str×List Str):(vS x).depth<=8:=by
 show max (TK.depth (rh x.1)) (max (TK.depth (Bw x.2)) 0)+1<=8;rw[tj];show max 0 (max 1 0)+1<=8
 decide
def cc(ds:List ar)(x:Str×List Str):List Str:=(ds.filter fun d=>decide (d.a=x.1/\d.sg=x.2)).map (·.b)
theorem vo(e:List ar)(d:ar)(x:Str×List Str):cc (e++[d]) x=cc e x++(if(d.a,d.sg)=x then[d.b]else[]):=by
 unfold cc;rw[qo,aN];congr 1;by_cases c:(d.a,d.sg)=x
 ·subst c;simp
 ·rw[if_neg c];have:¬(d.a=x.1/\d.sg=x.2):=fun z=>c (by cases x;simp only at z;rw[z.1,z.2]);simp[List.filter_cons];intro f g;exact this ⟨f,g⟩
theorem pH{e:List ar}{x:Str×List Str}(h:∀d∈e,(d.a,d.sg)≠x):cc e x=[]:=by
 unfold cc;rw[List.map_eq_nil_iff,List.filter_eq_nil_iff];intro d f;have:¬(d.a=x.1/\d.sg=x.2):=fun z=>h d f (by cases x;simp only at z;rw[z.1,z.2]);simp;intro g i;exact this ⟨g,i⟩
theorem kJ{a:List ar}{x:Str×List Str}{b:Str}:b∈cc a x↔(⟨x.1,x.2,b⟩:ar)∈a:=by
 unfold cc;rw[bh];constructor
 ·rintro⟨d,e,rfl⟩;rw[eZ]at e;obtain⟨i,j⟩:=e;obtain⟨f,g⟩:=of_decide_eq_true j;cases d;simp only at f g;rw[<-f,<-g];exact i
 ·intro h;exact⟨_,eZ.mpr ⟨h,zzr1 ⟨rfl,rfl⟩⟩,rfl⟩
structure gZ(H:Hp)(g:Addr)(ps:List ((Str×List Str)×Addr))(ds:List ar):Prop where
 nd:(ps.map (·.1)).Nodup
 g:H g=some (.dT (c7 vS ps))
 ls:∀x∈ps,H x.2=some (.lst ((cc ds x.1).map V.str))
 all:∀d∈ds,(d.a,d.sg)∈ps.map (·.1)
theorem gZ.same{H H':Hp}{g:Addr}{a:List ((Str×List Str)×Addr)}{e:List ar}(h:gZ H g a e)(s:ae H H'):gZ H' g a e:=⟨h.nd,s _ _ h.g,fun x hx=>s _ _ (h.ls x hx),h.all⟩
inductive kD (vs:List V)(H:Hp)(Q:VK)(E:XK):Prop
 |mk (l4:Addr) (ts:Ze) (ds:List ar):(vs=[.ref l4])->(H l4=some (.lst (ts.map V.ref)))->(bD H ts ds)->(ds.length<=9000)->(∀(g:Addr) (ps:List ((Str×List Str)×Addr)) (H':Hp),gZ H' g ps ds->ae H H'->Q (.ref g) H')->kD  vs H Q E
theorem ik{K:Za}{vs:List V}{H:Hp}{Q:VK}{E:XK}(h:kD vs H Q E):iL K (bF Q) (start iN vs) H:=by
 obtain⟨l4,ts,U,rfl,h4,ak,hz,k⟩:=h;refine fun g hg=>?_;refine⟨_,rfl,l4,rfl,⟨_,aB.of (kp h4 hg)⟩,?_⟩
 let aC:Nat->L2.St->Hp->Prop:=fun i σ p=>∃x y z,σ=[some (.ref l4),some (.ref g),x,y,z]/\∃n:List ((Str×List Str)×Addr),DL H p g n/\p g=some (.dT (c7 vS n))/\n.length<=i/\(∀x∈n,p x.2=some (.lst ((cc (U.take i) x.1).map V.str)))/\∀d∈U.take i,(d.a,d.sg)∈n.map (·.1)
 refine eA (xs:=ts.map V.ref) aC
  ⟨_,_,_,rfl,[],⟨by simp,by simp,by simp,hg,by simp,ae.new hg⟩,aa,by simp,by simp,by simp⟩ (fun i σ p _ zq=>by obtain⟨_,_,_,_,_,D,_⟩:=zq;exact aB.of (D.same _ _ h4)) ?_ ?_
 ·rintro i x σ p hi ⟨x2,x3,x4,rfl,n,D,u,al,l,j⟩;obtain⟨t,ht,rfl⟩:=df hi;obtain⟨dr,G,aS⟩:=Paired.getL ak ht;have a6:i<U.length:=(da.mp G).1;obtain⟨s,aT,aX⟩:=aS.kt (ae.kt D.same);refine⟨t,_,rfl,bN.of aT,rfl,_,_,rfl,_,_,rfl,_,_,rfl,rfl,?_⟩;refine⟨_,rfl,.inr (.inr (.inl ⟨rfl,.inr ⟨_,u⟩⟩)),_,rfl,_,rfl,(by show 2<=am;decide),fun kt an=>⟨(by show 0<=am;decide),fun nl Y=>?_⟩⟩;have I:ae p (upd (upd p kt (.tup [.str dr.a,.ref s])) nl (.lst [])):=(ae.new an).trans (ae.new Y);have M:upd (upd p kt (.tup [.str dr.a,.ref s])) nl (.lst []) kt=some (.tup [.str dr.a,.ref s]):=kp aa Y;have N:upd (upd p kt (.tup [.str dr.a,.ref s])) nl (.lst []) nl=some (.lst []):=aa;have f:p nl=none:=(ae.new an).free Y;generalize upd (upd p kt (.tup [.str dr.a,.ref s])) nl (.lst [])=H2 at I M N ⊢;have a0:iD H2 (vS (dr.a,dr.sg)) (.ref kt):=by
   unfold vS iD;refine⟨kt,_,rfl,M,?_⟩;unfold TKAts;refine⟨_,_,rfl,xT _,?_⟩;unfold TKAts;refine⟨_,_,rfl,SignAt.tk (I _ _ aX),?_⟩;unfold TKAts
   rfl
  have a4:(c7 vS n).length<am:=cp (by unfold c7;rw[ao];omega);have J:∀x,cc (U.take (i+1)) x=cc (U.take i) x++(if(dr.a,dr.sg)=x then[dr.b]else[]):=fun x=>by rw[take_snoc G,vo]
  have a5:∀x,(cc (U.take i) x).length<=9000:=fun x=>by
   unfold cc;rw[ao];refine bp (fH _ _) ?_;rw[aQ];omega
  refine⟨g,kt,_,vS (dr.a,dr.sg),.ref nl,rfl,rfl,I _ _ u,a0,tw _,a4,fun v L=>?_,fun L=>?_⟩
  ·-- there ap
   have O:(dr.a,dr.sg)∈n.map (·.1):=by
    refine Classical.byContradiction fun z=>?_;rw[nq jG z]at L;cases L
   obtain⟨⟨r,a⟩,m,er⟩:=bh.mp O;obtain rfl:r=(dr.a,dr.sg):=er;rw[eB jG D.nd m]at L;injection L with L;subst L;have aq:=I _ _ (l _ m);refine⟨.inl ⟨rfl,_,aB.of aq⟩,_,rfl,a,_,_,rfl,rfl,aq,by rw[ao];exact cp (a5 _),_,_,_,rfl,n,⟨D.nd,D.na,D.fr,D.frd,D.ned,fun b o q=>?_⟩,?_,by omega,?_,?_⟩
   ·rw[ai (ah q (D.fr _ m))];exact I _ _ (D.same _ _ q)
   ·rw[ai (D.ned _ m).symm];exact I _ _ u
   ·intro x hx;by_cases c:x.2=a
    ·have ex:=Cy D.na hx m c;subst ex;show upd H2 a _ a=_;rw[aa,J,if_pos rfl,aN];rfl
    ·have ab:¬((dr.a,dr.sg)=x.1):=fun z=>by
      have e1:=eB (e:=vS) jG D.nd m;have e2:=eB (e:=vS) (i:=x.1) (a:=x.2) jG D.nd hx;rw[<-z,e1]at e2;injection e2 with e2;injection e2 with e2;exact c e2.symm
     rw[ai c,J,if_neg ab,cO];exact I _ _ (l x hx)
   ·intro d hd;rw[take_snoc G]at hd;rcases cj.mp hd with hd|hd
    ·exact j d hd
    ·have:d=dr:=by simpa using hd
     rw[this];exact O
  ·-- a new list
   have B:(dr.a,dr.sg)∉n.map (·.1):=by
    intro z;obtain⟨⟨r,a⟩,m,er⟩:=bh.mp z;obtain rfl:r=(dr.a,dr.sg):=er;rw[eB jG D.nd m]at L;cases L
   have C:nl≠g:=(ah u f).symm;have T:upd H2 g (.dT (c7 vS n++[(vS (dr.a,dr.sg),.ref nl)])) nl=some (.lst []):=by rw[ai C];exact N
   refine⟨.inl ⟨rfl,_,aB.of T⟩,_,rfl,nl,_,_,rfl,rfl,T,(by show 0<am;decide),_,_,_,rfl,n++[((dr.a,dr.sg),nl)],?_,?_,?_,?_,?_⟩
   ·refine D.snoc B (fun x hx=>ah (l x hx) f) (D.same.free f) C ?_;intro b o q;rw[ai (ah q (D.same.free f)),ai (ah q hg)];exact I _ _ (D.same _ _ q)
   ·rw[ai C.symm,aa,tJ]
   ·rw[aY];show _+1<=_;omega
   ·intro x hx;rcases cj.mp hx with hx|hx
    ·have ab:¬((dr.a,dr.sg)=x.1):=fun z=>B (by rw[z];exact bh.mpr ⟨x,hx,rfl⟩);rw[ai (ah (l x hx) f),ai (D.ned x hx),J,if_neg ab,cO];exact I _ _ (l x hx)
    ·have:x=((dr.a,dr.sg),nl):=by simpa using hx
     subst this;have as:cc (U.take i) (dr.a,dr.sg)=[]:=pH fun d hd z=>B (by rw[<-z];exact j d hd);show upd _ nl _ nl=_;rw[aa,J,if_pos rfl,as]
     rfl
   ·intro d hd;rw[aN];rw[take_snoc G]at hd;rcases cj.mp hd with hd|hd
    ·exact dC _ (j d hd)
    ·have:d=dr:=by simpa using hd
     rw[this];exact dw _ (by simp)
 ·rintro σ p ⟨x2,x3,x4,rfl,n,D,u,al,l,j⟩;rw[ao,Paired.length ak,cA]at l j;exact⟨_,rfl,k g n p ⟨D.nd,u,l,j⟩ D.same⟩
theorem jf:∀{L R:Zb},L.Nodup->(∀y∈L,y∈R)->L.length<=R.length
 |[],_,_,_=>cf _
 |x::L,R,a,h=>by
  rw[jx]at a;have hx:=h x eQ;have:=jf (L:=L) (R:=R.erase x) a.2 fun y f=>(List.mem_erase_of_ne (fun e:y=x=>a.1 (by rw[<-e];exact f))).mpr (h y (dD _ f));rw[List.length_erase_of_mem hx]at this;have:0<R.length:=List.length_pos_of_mem hx;rw[d7];omega
theorem Reach.in_{e:List ar}{a b:Str}{f:Zb}(g:∀d∈e,d.b∈f)(h:Reach e a b):b∈f:=by
 cases h with
 |one h=>exact g _ h
 |step r h=>exact g _ h
inductive re (vs:List V)(H:Hp)(Q:VK)(E:XK):Prop
 |mk (g:Addr) (room:Str) (ps:List ((Str×List Str)×Addr)) (ds:List ar) (J2:Zb):(vs=[.ref g,.str room])->(gZ H g ps ds)->((∀d∈ds,d.b∈J2))->(J2.length<=1000)->(∀(d:Addr) (L:Zb) (H':Hp),H' d=some (.dK (a_ L))->L.Nodup->(∀w,w∈L↔Reach ds room w)->H d=none->ae H H'->Q (.ref d) H')->re  vs H Q E
structure Ge(H0 H:Hp)(ds:List ar)(room:Str)(d w:Addr)(L W:Zb)(open_:Str->Prop):Prop where
 d:H d=some (.dK (a_ L))
 w:H w=some (.lst (W.map V.str))
 same:ae H0 H
 nd:L.Nodup
 sound:∀y∈L,Reach ds room y
 wait:∀y∈W,y=room∨y∈L
 closed:∀y,(y=room∨y∈L)->y∉W->¬open_ y->∀c∈cc ds (y,stillSg),c∈L
theorem pU{K:Za}{st:Addr}(bd:∀H,bN K H st (stillSg.map V.str)){vs:List V}{H:Hp}{Q:VK}{E:XK}(h:re vs H Q E):qR K st (bF Q) (start si vs) H:=by
 obtain⟨g,room,ps,ds,t,rfl,G,bi,hz,k⟩:=h;refine fun d hd=>?_;refine⟨_,rfl,(by show 1<=am;decide),fun w hw=>?_⟩;have as:H w=none:=(ae.new hd).free hw;have ab:d≠w:=ah aa hw;refine⟨fun m σ I=>∃(L W:Zb) (x y:Option V),σ=[some (.ref g),some (.str room),some (.ref d),some (.ref w),x,y]/\Ge H I ds room d w L W (fun _=>False)/\m=2 * (t.length-L.length)+W.length/\m<=2 * t.length+1,
  ⟨_,[],[room],_,_,rfl,⟨kp aa hw,aa,(ae.new hd).trans (ae.new hw),ki,by simp,by simp,?_⟩,rfl,aO _⟩,?_⟩
 ·intro y hy U;rcases hy with rfl|hy
  ·simp at U
  ·cases hy
 rintro m σ H1 ⟨L,W,x4,x5,rfl,D,rfl,hbound⟩;have Y:∀{l:Zb},l.Nodup->(∀y∈l,Reach ds room y)->l.length<=t.length:=fun nd sd=>jf nd fun y hy=>(sd y hy).in_ bi;refine⟨_,rfl,.inl ⟨w,_,rfl,.inl (aB.of D.w),_,_,rfl,rfl,_,rfl,?_⟩⟩;refine iy (fun C=>?_) (fun C=>?_)
 ·have aC:W≠[]:=by
   intro z;rw[z]at C;exact absurd (of_decide_eq_true C) (by decide)
  obtain⟨s,f,rfl⟩:∃s f,W=s++[f]:=⟨W.dropLast,W.getLast aC,(List.dropLast_concat_getLast aC).symm⟩;have ak:f=room∨f∈L:=D.wait f (by simp);refine⟨fun σ' I=>∃(l n:Zb) (x y:Option V),σ'=[some (.ref g),some (.str room),some (.ref d),some (.ref w),x,y]/\Ge H I ds room d w l n (fun _=>False)/\2 * (t.length-l.length)+n.length<2 * (t.length-L.length)+(s++[f]).length,
   fun σ' I ⟨l,n,x,y,e,D',hm⟩=>⟨_,hm,l,n,x,y,e,D',rfl,by omega⟩,?_⟩
  have al:((s++[f]).map V.str)[((s++[f]).map V.str).length-1]?=some (.str f):=by simp
  have an:((s++[f]).map V.str).dropLast=s.map V.str:=by rw[aN];simp
  refine⟨_,rfl,.inl ⟨rfl,_,aB.of D.w⟩,w,_,_,rfl,rfl,D.w,al,?_⟩;rw[an];have aS:upd H1 w (.lst (s.map V.str)) d=some (.dK (a_ L)):=by rw[ai ab];exact D.d
  have aT:upd H1 w (.lst (s.map V.str)) w=some (.lst (s.map V.str)):=aa;have S1:ae H (upd H1 w (.lst (s.map V.str))):=fun b o q=>by rw[ai (ah q as)];exact D.same _ _ q
  generalize upd H1 w (.lst (s.map V.str))=H2 at aS aT S1 ⊢;have G2:=G.same S1;refine⟨_,rfl,g,rfl,.inr ⟨_,.inl G2.g⟩,_,rfl,(by show 2<=am;decide),fun kt aX=>⟨(by show 0<=am;decide),fun et ap=>⟨cY (c7 vS ps) (vS (f,stillSg)),.inr ⟨_,vS (f,stillSg),kt,.inl ?_,rfl,?_,tw _,rfl⟩,?_⟩⟩⟩
  ·exact kp (kp G2.g aX) ap
  ·unfold vS pY;refine⟨kt,_,rfl,bN.of (kp aa ap),?_⟩;unfold TKIns;refine⟨_,_,rfl,?_,?_⟩
   ·unfold rh pY;rfl
   unfold TKIns;refine⟨_,_,rfl,?_,?_⟩
   ·unfold Bw pY;refine⟨st,_,rfl,bd _,?_⟩;unfold stillSg;show TKIns K _ [rh _] [V.str _];unfold TKIns;refine⟨_,_,rfl,?_,?_⟩
    ·unfold rh pY;rfl
    unfold TKIns;rfl
   unfold TKIns;rfl
  have S3:ae H2 (upd (upd H2 kt (.tup [.str f,.ref st])) et (.tup [])):=(ae.new aX).trans (ae.new ap);have J:upd (upd H2 kt (.tup [.str f,.ref st])) et (.tup []) et=some (.tup []):=aa;generalize upd (upd H2 kt (.tup [.str f,.ref st])) et (.tup [])=H3 at S3 J ⊢;have D3:Ge H H3 ds room d w L s (fun y=>y=f):=⟨S3 _ _ aS,S3 _ _ aT,S1.trans S3,D.nd,D.sound,fun y hy=>D.wait y (dC _ hy),fun y hy U ho=>D.closed y hy (fun z=>by rcases cj.mp z with z|z;exact U z;exact ho (by simpa using z)) (fun z=>z)⟩;have a0:2 * (t.length-L.length)+s.length<2 * (t.length-L.length)+(s++[f]).length:=by rw[aY];show _<_+(_+1);omega
  have a4:∀(H4:Hp) (l n:Zb) (x y:Option V),Ge H H4 ds room d w l n (fun y=>y=f)->(∀c∈cc ds (f,stillSg),c∈l)->2 * (t.length-l.length)+n.length<2 * (t.length-L.length)+(s++[f]).length ->
    ∃(l n:Zb) (x' y':Option V),[some (V.ref g),some (.str room),some (.ref d),some (.ref w),x,y]=[some (.ref g),some (.str room),some (.ref d),some (.ref w),x',y']/\Ge H H4 ds room d w l n (fun _=>False)/\2 * (t.length-l.length)+n.length<2 * (t.length-L.length)+(s++[f]).length:=by
   intro H4 l n x y p hc hm;refine⟨l,n,x,y,rfl,⟨p.d,p.w,p.same,p.nd,p.sound,p.wait,fun y hy U _=>?_⟩,hm⟩;by_cases e:y=f
   ·rw[e];exact hc
   ·exact p.closed y hy U e
  by_cases M:(f,stillSg)∈ps.map (·.1)
  ·obtain⟨⟨r,a⟩,a5,er⟩:=bh.mp M;obtain rfl:r=(f,stillSg):=er;rw[eB jG G.nd a5];have a6:=G.ls _ a5;refine⟨a,rfl,.inl ⟨⟨_,aB.of ((S1.trans S3) _ _ a6)⟩,?_⟩⟩
   let aq:Nat->L2.St->Hp->Prop:=fun j σ I=>G9 fun(l n:Zb) (y:Option V)=>NA5 (σ=[some (.ref g),some (.str room),some (.ref d),some (.ref w),some (.str f),y]) (Ge H I ds room d w l n (fun y=>y=f)) ((f=room∨f∈l)) ((∀c∈(cc ds (f,stillSg)).take j,c∈l)) (2 * (t.length-l.length)+n.length<2 * (t.length-L.length)+(s++[f]).length)
   refine eA (xs:=(cc ds (f,stillSg)).map V.str) aq
    ⟨L,s,_,rfl,D3,ak,by simp,a0⟩ (fun j σ I _ zq=>by obtain⟨_,_,_,_,D',_,_,_⟩:=zq;exact aB.of (D'.same _ _ a6)) ?_ ?_
   ·rintro j x σ H4 hj ⟨l,n,y,rfl,p,hh,hc,hm⟩;obtain⟨i,u,rfl⟩:=cq hj;have v:(⟨f,stillSg,i⟩:ar)∈ds:=kJ.mp (cT u);have T:Reach ds room i:=by
     rcases hh with hh|hh
     ·rw[hh]at v;exact .one v
     ·exact .step (p.sound _ hh) v
    have bm:=Y p.nd p.sound;refine⟨_,rfl,_,rfl,d,_,rfl,.inl ⟨_,.inr i,.inl p.d,rfl,rfl⟩,_,rfl,?_⟩;rw[fV];by_cases c:i∈l
    ·rw[zzr1 c];refine bj ⟨l,n,_,rfl,p,hh,?_,hm⟩;intro c' B;rw[take_snoc u]at B;rcases cj.mp B with h|h
     ·exact hc c' h
     ·have:c'=i:=by simpa using h
      rw[this];exact c
    ·rw[zzr0 c];refine bB ?_;have a7:(l++[i]).Nodup:=by
      rw[ee];refine⟨p.nd,by simp,fun a ha b hb e=>?_⟩;have:b=i:=by simpa using hb
      exact c (by rw[<-this,<-e];exact ha)
     have a8:∀y∈l++[i],Reach ds room y:=by
      intro y hy;rcases cj.mp hy with hy|hy
      ·exact p.sound y hy
      ·have:y=i:=by simpa using hy
       rw[this];exact T
     have N:=Y a7 a8;rw[aY]at N;have bn:l.length+1<=t.length:=N;have b0:n.length<=9000:=by omega
     refine⟨_,rfl,_,rfl,d,_,rfl,.inl ⟨_,.inr i,p.d,rfl,aG (bp (jM _) (by omega)),rfl⟩,?_⟩;have a9:upd H4 d (.dK (fM (a_ l) (.inr i) (.bl true))) w=some (.lst (n.map V.str)):=by rw[ai ab.symm];exact p.w
     refine⟨_,rfl,.inl ⟨rfl,_,aB.of a9⟩,_,rfl,w,_,_,rfl,rfl,a9,by rw[ao];exact cp b0,l++[i],n++[i],_,rfl,⟨?_,?_,?_,a7,a8,?_,?_⟩,?_,?_,?_⟩
     ·rw[ai ab,aa,dQ]
     ·rw[aa,aN];rfl
     ·intro b o q;rw[ai (ah q as),ai (ah q hd)];exact p.same _ _ q
     ·intro y hy;rcases cj.mp hy with hy|hy
      ·rcases p.wait y hy with h|h
       ·exact .inl h
       ·exact .inr (dC _ h)
      ·exact .inr (dw _ hy)
     ·intro y hy U ho c' B;have b1:y∉n:=fun z=>U (dC _ z);have b2:y≠i:=fun z=>U (dw _ (by simp[z]));refine dC _ (p.closed y ?_ b1 ho c' B);rcases hy with hy|hy
      ·exact .inl hy
      ·rcases cj.mp hy with hy|hy
       ·exact .inr hy
       ·exact absurd (by simpa using hy) b2
     ·rcases hh with h|h
      ·exact .inl h
      ·exact .inr (dC _ h)
     ·intro c' B;rw[take_snoc u]at B;rcases cj.mp B with h|h
      ·exact dC _ (hc c' h)
      ·exact dw _ h
     ·rw[aY,aY];show 2 * (t.length-(l.length+1))+(n.length+1)<_;omega
   ·rintro σ H4 ⟨l,n,y,rfl,p,hh,hc,hm⟩;rw[ao,cA]at hc;exact a4 H4 l n _ _ p hc hm
  ·rw[nq jG M];refine⟨et,rfl,.inr ⟨⟨_,bN.of J⟩,?_⟩⟩;have O:cc ds (f,stillSg)=[]:=pH fun x hx z=>M (by rw[<-z];exact G.all x hx)
   let aq:Nat->L2.St->Hp->Prop:=fun j σ I=>σ=[some (.ref g),some (.str room),some (.ref d),some (.ref w),some (.str f),x5]/\I=H3
   refine DV (xs:=[]) aq ⟨rfl,rfl⟩ (fun j σ I _ zq=>by obtain⟨_,e⟩:=zq;exact by rw[e];exact bN.of J) (fun j x σ I hj=>by cases hj) ?_;rintro σ I ⟨rfl,rfl⟩;exact a4 _ L s _ _ D3 (by rw[O];simp) a0
 ·have O:W=[]:=by
   cases W with
   |nil=>rfl
   |cons a W=>exact absurd (zzr1 (by rw[ao,d7];omega)) C
  subst O;refine⟨_,rfl,k d L H1 D.d D.nd (fun w=>⟨D.sound w,fun hr=>?_⟩) hd D.same⟩
  induction hr with
  |one h=>exact D.closed room (.inl rfl) (by simp) (fun z=>z) _ (kJ.mpr h)
  |step r h ih=>exact D.closed _ (.inr ih) (by simp) (fun z=>z) _ (kJ.mpr h)
abbrev lk(f:Str)(fs:List (Str×V)):Option V:=fs.lookup f
def dL(ds:List ar)(r:Str):Bool:=(aH ds r).all gP
structure cX(C:Addr)(H:Hp)(x:Addr)(J0 J1 J2:Zb)(ds:List ar):Prop where
 at_:∃(dx:Addr) (fs:List (Str×V)) (o1 o2 o3 o4 lv qu sg sl:Addr) (ts:Ze) (lps:List (Str×Addr)) (gps:List ((Str×List Str)×Addr)) (sps:List (Str×Addr)),
  H x=some (.ins C dx fs)/\lk "is_quiet" fs=none/\lk "goals" fs=none/\lk "led_from" fs=none/\lk "rooms" fs=none /\
  lk "own_asks" fs=some (.ref o1)/\lk "own_says" fs=some (.ref o2)/\lk "own_rooms" fs=some (.ref o3)/\lk "own_doors" fs=some (.ref o4) /\
  lk "leaving" fs=some (.ref lv)/\lk "quiet" fs=some (.ref qu)/\lk "sign_goals" fs=some (.ref sg)/\lk "still_led" fs=some (.ref sl) /\
  Lists H o1 o2 o3 o4 ts J0 J1 J2 ds /\
  lps.map (·.1)=J2/\H lv=some (.dK (c7 Sum.inr lps))/\(∀x∈lps,∃us,H x.2=some (.lst (us.map V.ref))/\bD H us (aH ds x.1)) /\
  H qu=some (.dK (a_ (J2.filter (dL ds))))/\gZ H sg gps ds /\
  sps.map (·.1)=J2/\H sl=some (.dK (c7 Sum.inr sps))/\(∀x∈sps,∃L,H x.2=some (.dK (a_ L))/\L.Nodup/\∀w,w∈L↔Reach ds x.1 w)
 ok:cL J0 J1 J2 ds
 more:∃(dx:Addr) (fs:List (Str×V)),H x=some (.ins C dx fs)/\lk "asks" fs=none/\lk "says" fs=none/\lk "doors" fs=none/\lk "doors_from" fs=none
theorem gu(f:Str)(v:V):∀fs:List (Str×V),(cD f v fs).length<=fs.length+1
 |[]=>aO _
 | (g,x)::r=>by
  unfold cD;split
  ·exact jy _
  ·rw[d7,d7];have:=gu f v r;omega
theorem rG:∀(a qs:List (Str×Addr)),((qs++a).map (·.1)).Nodup->i8 (c7 Sum.inr qs) (c7 Sum.inr a)=c7 Sum.inr (qs++a)
 |[],qs,_=>by rw[cO];rfl
 |p::a,qs,g=>by
  show i8 (fM (c7 Sum.inr qs) (Sum.inr p.1) (.ref p.2)) (c7 Sum.inr a)=_;have e:qs++p::a=(qs++[p])++a:=by simp
  rw[e]at g ⊢;have f:p.1∉qs.map (·.1):=by
   rw[aN,aN,ee]at g;have:=g.1;rw[ee]at this;intro z;exact this.2.2 _ z _ (by simp) rfl
  rw[m_ _ (nq iZ f)];have:=rG a (qs++[p]) g;rw[<-this];have h:c7 (Sum.inr:Str->dX) (qs++[p])=c7 Sum.inr qs++[(Sum.inr p.1,V.ref p.2)]:=by
   unfold c7;rw[aN];rfl
  rw[h]
theorem Lists.exI{H f:Hp}{x C p:Addr}{fs:List (Str×V)}{g i l3 j:Addr}{k:Ze}{l m n:Zb}{o:List ar}(h:Lists H g i l3 j k l m n o)(hx:H x=some (.ins C p fs))(e:cv x H f):Lists f g i l3 j k l m n o:=by
 have ne:∀{b:Addr}{xs:List V},H b=some (.lst xs)->b≠x:=fun a z=>by rw[z,hx]at a;cases a
 exact⟨e _ _ h.a1 (ne h.a1),e _ _ h.a2 (ne h.a2),e _ _ h.a3 (ne h.a3),e _ _ h.a4 (ne h.a4),h.ds.kt fun b xs a=>e _ _ a fun z=>by rw[z,hx]at a;cases a⟩
theorem cv.ktI{H f:Hp}{x C g:Addr}{fs:List (Str×V)}(e:cv x H f)(hx:H x=some (.ins C g fs)):xF H f:=fun b xs a=>e _ _ a fun z=>by rw[z,hx]at a;cases a
theorem cv.neI{H:Hp}{x C e:Addr}{fs:List (Str×V)}(hx:H x=some (.ins C e fs)){b:Addr}{xs:List V}(a:H b=some (.lst xs)):b≠x:=fun z=>by rw[z,hx]at a;cases a
theorem Cw{H:Hp}{x C f:Addr}{fs:List (Str×V)}(hx:H x=some (.ins C f fs)){b:Addr}{a:List (dX×V)}(e:H b=some (.dK a)):b≠x:=fun z=>by rw[z,hx]at e;cases e
theorem EC{H:Hp}{x C f:Addr}{fs:List (Str×V)}(hx:H x=some (.ins C f fs)){b:Addr}{a:List (TK×V)}(e:H b=some (.dT a)):b≠x:=fun z=>by rw[z,hx]at e;cases e
structure MC(K:Za)(C:Addr):Prop where
 cls:Bq K C
 a1:cG K C "own_asks"
 a2:cG K C "own_says"
 a3:cG K C "own_rooms"
 a4:cG K C "own_doors"
 a5:cG K C "leaving"
 a6:cG K C "quiet"
 a7:cG K C "sign_goals"
 a8:cG K C "still_led"
theorem w8{H:Hp}{x C a:Addr}{fs:List (Str×V)}(f:Str)(y:V)(hx:H x=some (.ins C a fs)):∃e,e=upd H x (.ins C a (cD f y fs))/\e x=some (.ins C a (cD f y fs))/\cv x H e :=
 ⟨_,rfl,aa,cv.upd _ _ _⟩
theorem eU{p:Str->Bool}{a:Zb}{i:Nat}{w:Str}(h:a[i]?=some w):(a.take (i+1)).filter p=(a.take i).filter p++(if p w=true then[w]else[]):=by
 rw[take_snoc h,qo];congr 1;by_cases c:p w=true
 ·rw[if_pos c];simp[c]
 ·rw[if_neg c];simp[c]
theorem rM(a:List ar)(r:Str):(aH a r).length<=a.length:=fH _ _
theorem An(a b:Str):decide (bW a=bW b)=decide (a=b):=by
 by_cases e:a=b
 ·rw[zzr1 e,zzr1 (by rw[e])]
 ·rw[zzr0 e,zzr0 (fun z=>e (mZ z))]
theorem cX.by{C:Addr}{H e:Hp}{x:Addr}{s t u:Zb}{v:List ar}(h:cX C H x s t u v)
  (j:∀b z,H b=some (.lst (List.map V.str z))->e b=some (.lst (List.map V.str z))) (B:∀b k,H b=some (.lst (List.map V.ref k))->e b=some (.lst (List.map V.ref k))) (D:xF H e)
  (l:∀b a,H b=some (.dK a)->e b=some (.dK a)) (E:∀b a,H b=some (.dT a)->e b=some (.dT a)) (hi:∀b C f fs,H b=some (.ins C f fs)->e b=some (.ins C f fs)):cX C e x s t u v:=by
 obtain⟨f,fs,I,J,M,N,lv,O,Q,T,k,m,n,o,U,a1,a2,a3,Y,b1,b2,b3,b4,b5,b6,b7,b8,L,c1,c2,c3,c4,G,d1,d2,d3⟩:=h.at_;refine⟨⟨f,fs,I,J,M,N,lv,O,Q,T,k,m,n,o,hi _ _ _ _ U,a1,a2,a3,Y,b1,b2,b3,b4,b5,b6,b7,b8,⟨j _ _ L.a1,j _ _ L.a2,j _ _ L.a3,B _ _ L.a4,L.ds.kt D⟩,c1,l _ _ c2,fun y i=>?_,l _ _ c4,⟨G.nd,E _ _ G.g,fun y i=>j _ _ (G.ls y i),G.all⟩,d1,l _ _ d2,fun y i=>?_⟩,h.ok,by obtain⟨f,fs,g,r⟩:=h.more;exact⟨f,fs,hi _ _ _ _ g,r⟩⟩
 ·obtain⟨us,p,q⟩:=c3 y i;exact⟨us,B _ _ p,q.kt D⟩
 ·obtain⟨L0,p,q⟩:=d3 y i;exact⟨L0,l _ _ p,q⟩
theorem cX.same{C:Addr}{H a:Hp}{x:Addr}{f g i:Zb}{j:List ar}(h:cX C H x f g i j)(S:ae H a):cX C a x f g i j :=
 h.by (fun _ _ e=>S _ _ e) (fun _ _ e=>S _ _ e) (ae.kt S) (fun _ _ e=>S _ _ e) (fun _ _ e=>S _ _ e) (fun _ _ _ _ e=>S _ _ e)
inductive iT(C:Addr)(vs:List V)(H:Hp)(Q:VK)(E:XK):Prop
 |mk (x:Addr) (w:Str) (J0 J1 J2:Zb) (ds:List ar):(vs=[.ref x,.str w])->(cX C H x J0 J1 J2 ds)->(Q (.bl (decide (w∈J2.filter (dL ds)))) H)->iT C vs H Q E
theorem wC{K:Za}{C:Addr}(M:MC K C){a:List V}{H:Hp}{Q:VK}{E:XK}(h:iT C a H Q E):l5 K (bF Q) (start mq a) H:=by
 obtain⟨x,w,o,p,q,r,rfl,h,k⟩:=h;obtain⟨f,fs,s,t,u,v,lv,e,y,z,B,g,i,j,l,a1,a2,a3,D,G,I,J,N,O,m,T,U,L,Y,c2,c3,n,_⟩:=h.at_;refine⟨_,rfl,_,rfl,x,C,f,fs,.ref e,rfl,l,M.cls,M.a6,m,e,_,rfl,.inl ⟨_,.inr w,.inl n,rfl,rfl⟩,?_⟩;rw[fV];exact k
inductive jD(C:Addr)(vs:List V)(H:Hp)(Q:VK)(E:XK):Prop
 |mk (t l1 l2 l3 l4:Addr) (ts:Ze) (J0 J1 J2:Zb) (ds:List ar):(vs=[.ref t])->(vI H t l1 l2 l3 l4 ts J0 J1 J2 ds)->(cL J0 J1 J2 ds)->(∀(x:Addr) (H':Hp),cX C H' x J0 J1 J2 ds->ae H H'->Q (.ref x) H')->jD C vs H Q E
theorem qb{w:Str}{a:Zb}:bW w∈a.map bW↔w∈a:=by
 constructor
 ·intro h;obtain⟨x,hx,e⟩:=bh.mp h;rw[<-mZ e];exact hx
 ·exact lN
def pN(K:Za):TS :=
 bb (cJ (cZ K) (aK (sB K V0 "own_rooms")))
def pZ:List Str:=["self"]
def qS(K:Za):TS :=
 av (aR (cJ (cZ K) (aK V1)) U2)
 (av (aR (tC (.int 0)) U3)
 (av (xZ (ba (aM Fp V3 (cJ (dJ K) (aK V2)))) (av (iM (dR K V0) (jO K 3 (bu U4 (bu U5 (bu U6 (ji))))) (bS (oo (ba (aM (pV K) V4 (aM (oy K) V2 V3))) (oo (ba (aM (pV K) V5 (eV (aK (tC (.str "still")))))) (ba (aM (l_ K true) V6 V2)))) (dF (yf K "list" gU V2 (aK V6))) (aZ)))
 (aR (aM dz V3 (tC (.int 1))) U3)))
 (bb V2)))
def sj:List Str:=["doors","rooms","found","at","room","sign","other"]
inductive kB(C:Addr)(vs:List V)(H:Hp)(Q:VK)(E:XK):Prop
 |mk (x:Addr) (J0 J1 J2:Zb) (ds:List ar):(vs=[.ref x])->(cX C H x J0 J1 J2 ds)->(∀l,H l=none->Q (.ref l) (upd H l (.lst (J2.map V.str))))->kB C vs H Q E
theorem BX{K:Za}{C:Addr}(M:MC K C){a:List V}{H:Hp}{Q:VK}{E:XK}(h:kB C a H Q E):pN K (bF Q) (start pZ a) H:=by
 obtain⟨x,n,o,p,q,rfl,h,k⟩:=h;obtain⟨f,fs,r,s,e,t,lv,u,v,y,z,g,i,j,l,a1,a2,a3,B,D,G,m,I,J,N,O,T,L,_⟩:=h.at_;exact⟨_,rfl,x,C,f,fs,.ref e,rfl,l,M.cls,M.a3,m,.inl ⟨e,_,rfl,.inl (aB.of L.a3),k⟩⟩
theorem Reach.trans{ds:List ar}{a b c:Str}(e:Reach ds a b)(f:Reach ds b c):Reach ds a c:=by
 induction f with
 |one h=>exact .step e h
 |step r h g=>exact .step g h
def vP(ds:List ar)(gs:Zb)(w:Str):Prop:=∃g∈gs,w=g∨Reach ds g w
inductive iR(K:Za)(vs:List V)(H:Hp)(Q:VK)(E:XK):Prop
 |mk (l4 l:Addr) (ts:Ze) (ds:List ar) (gs J2:Zb):(vs=[.ref l4,.ref l])->(H l4=some (.lst (ts.map V.ref)))->(bD H ts ds)->(H l=some (.lst (gs.map V.str)))->((∀d∈ds,d.b∈J2))->(J2.length<=1000)->(gs.length<=1000)->(∀(f:Addr) (F:Zb) (H':Hp),H' f=some (.lst (F.map V.str))->(∀w,w∈F↔vP ds gs w)->F.length<=2000->H f=none->ae H H'->Q (.ref f) H')->iR K vs H Q E
structure SO(H0 H:Hp)(ds:List ar)(gs:Zb)(f:Addr)(X:Zb):Prop where
 f:H f=some (.lst ((gs++X).map V.str))
 same:ae H0 H
 nd:X.Nodup
 new:∀y∈X,y∉gs
 sound:∀y∈X,vP ds gs y
theorem vP.step{ds:List ar}{f:Zb}{a b:Str}(h:vP ds f a)(e:(⟨a,stillSg,b⟩:ar)∈ds):vP ds f b:=by
 obtain⟨g,i,rfl|h⟩:=h
 ·exact⟨_,i,.inr (.one e)⟩
 ·exact⟨g,i,.inr (.step h e)⟩
theorem Aq(a b:Zb):decide (vp a=vp b)=decide (a=b):=by
 by_cases e:a=b
 ·rw[zzr1 e,zzr1 (by rw[e])]
 ·rw[zzr0 e,zzr0 (fun z=>e (Aj z))]
inductive SoI(l4 l f:Addr)(at_:Int)(H:Hp)(ds:List ar)(gs X:Zb)(here:Str)(j:Nat)(σ:L2.St)(H':Hp):Prop
 |mk (X' Y:Zb) (x y z:Option V):σ=[some (.ref l4),some (.ref l),some (.ref f),some (.int at_),x,y,z]->X'=X++Y->SO H H' ds gs f X'->(∀d∈ds.take j,d.a=here->d.sg=stillSg->d.b∈gs++X')->SoI l4 l f at_ H ds gs X here j σ H'
theorem ww{K:Za}{vs:List V}{H:Hp}{Q:VK}{E:XK}(h:iR K vs H Q E):qS K (bF Q) (start sj vs) H:=by
 obtain⟨l4,l,ts,ds,u,J2,rfl,h4,al,hl,aX,hz,bl,k⟩:=h;refine⟨_,rfl,.inl ⟨l,_,rfl,.inl (aB.of hl),fun f hf=>?_⟩⟩;have M:∀{X:Zb},X.Nodup->(∀y∈X,y∉u)->(∀y∈X,vP ds u y)->X.length<=J2.length:=fun nd nw sd=>jf nd fun y hy=>by
  obtain⟨g,hg,e|h⟩:=sd y hy
  ·exact absurd (by rw[e];exact hg) (nw y hy)
  ·exact h.in_ aX
 refine⟨fun m σ H'=>∃(X:Zb) (p:Nat) (x y z:Option V),σ=[some (.ref l4),some (.ref l),some (.ref f),some (.int p),x,y,z]/\SO H H' ds u f X/\p<=(u++X).length/\(∀i y,i<p->(u++X)[i]?=some y->∀c,(⟨y,stillSg,c⟩:ar)∈ds->c∈u++X)/\m=u.length+J2.length-p,
  ⟨_,[],0,_,_,_,rfl,⟨by rw[cO];exact aa,ae.new hf,ki,by simp,by simp⟩,cf _,fun i y h=>by omega,rfl⟩,?_⟩
 rintro m σ H1 ⟨X,p,x4,x5,x6,rfl,D,bm,an,rfl⟩;have bn:=M D.nd D.new D.sound;refine⟨_,rfl,_,rfl,.inl ⟨f,_,rfl,.inl (aB.of D.f),_,_,rfl,rfl,_,rfl,?_⟩⟩;refine iy (fun O=>?_) (fun O=>?_)
 ·have C:p<(u++X).length:=by
   have:=of_decide_eq_true O;rw[ao]at this;omega
  have a9:p<u.length+J2.length:=by rw[aY]at C;omega
  generalize T:(u++X)[p]=here;have J:(u++X)[p]?=some here:=by rw[<-T];exact jt C
  have U:∀{Y:Zb}{y:Str},(∀y∈Y,vP ds u y)->y∈u++Y->vP ds u y:=fun sd hy=>by
   rcases cj.mp hy with hy|hy
   ·exact⟨_,hy,.inl rfl⟩
   ·exact sd _ hy
  refine⟨fun σ' H'=>∃(N:Zb) (x y z:Option V),σ'=[some (.ref l4),some (.ref l),some (.ref f),some (.int ((p+1:Nat):Int)),x,y,z]/\SO H H' ds u f N/\p+1<=(u++N).length/\(∀i y,i<p+1->(u++N)[i]?=some y->∀c,(⟨y,stillSg,c⟩:ar)∈ds->c∈u++N),
   fun σ' H' ⟨N,x,y,z,e,D',h1,h2⟩=>⟨_,(by omega:u.length+J2.length-(p+1)<u.length+J2.length-p),N,p+1,x,y,z,e,D',h1,h2,rfl⟩,?_⟩
  refine⟨_,rfl,l4,rfl,⟨_,aB.of (D.same _ _ h4)⟩,?_⟩;refine eA (xs:=ts.map V.ref) (SoI l4 l f p H ds u X here)
   ⟨X,[],_,_,_,rfl,by simp,D,by simp⟩ (fun j σ H' _ zq=>by obtain⟨_,_,_,_,_,_,_,D',_⟩:=zq;exact aB.of (D'.same _ _ h4)) ?_ ?_
  ·rintro j y σ H2 hj ⟨N,Y,a0,a4,a5,rfl,rfl,G,v⟩;obtain⟨t,ht,rfl⟩:=df hj;obtain⟨dr,ap,aq⟩:=Paired.getL al ht;obtain⟨s,a6,a7⟩:=aq.kt (ae.kt G.same);have as:=cT ap;have bd:=M G.nd G.new G.sound;have ab:(u++(X++Y))[p]?=some here:=by
    rw[<-fb,kj C];exact J
   refine⟨t,_,rfl,bN.of a6,rfl,_,_,rfl,_,_,rfl,_,_,rfl,rfl,?_⟩;have B:∀(H3:Hp) (X3 Y3:Zb) (q4 q5 q6:Option V),X3=X++Y3->SO H H3 ds u f X3->(∀y∈X++Y,y∈X3)->(dr.a=here->dr.sg=stillSg->dr.b∈u++X3) ->
     SoI l4 l f p H ds u X here (j+1) [some (.ref l4),some (.ref l),some (.ref f),some (.int p),q4,q5,q6] H3:=by
    intro H3 X3 Y3 q4 q5 q6 e I aC aS;refine⟨X3,Y3,q4,q5,q6,rfl,e,I,fun d hd e1 e2=>?_⟩;rw[take_snoc ap]at hd;rcases cj.mp hd with hd|hd
    ·rcases cj.mp (v d hd e1 e2)with h|h
     ·exact dC _ h
     ·exact dw _ (aC _ h)
    ·have:d=dr:=by simpa using hd
     subst this;exact aS e1 e2
   refine⟨_,rfl,_,rfl,_,rfl,.inl ⟨f,_,_,_,rfl,rfl,aB.of G.f,c_ (j:=p) (by rw[dq,ab];rfl),bW dr.a,bW here,iB _,iB _,(by show 0<=8;decide),(by show 0<=8;decide),_,rfl,?_⟩⟩;rw[An];by_cases c1:dr.a=here;rotate_left
   ·rw[zzr0 c1];exact bj (bj (B H2 _ _ _ _ _ rfl G (fun _ h=>h) fun e=>absurd e c1))
   rw[zzr1 c1];refine bB ?_;refine⟨_,rfl,(by show 1<=am;decide),fun st L=>⟨vp dr.sg,vp stillSg,iA (bN.of (kp a7 L)),iA (bN.of aa),by rw[lf];decide,by rw[lf];decide,_,rfl,?_⟩⟩;rw[Aq];have I:SO H (upd H2 st (.tup [.str "still"])) ds u f (X++Y):=⟨kp G.f L,G.same.trans (ae.new L),G.nd,G.new,G.sound⟩;have bi:H st=none:=G.same.free L;generalize upd H2 st (.tup [.str "still"])=H3 at I ⊢;by_cases c2:dr.sg=stillSg;rotate_left
   ·rw[zzr0 c2];exact bj (bj (B H3 _ _ _ _ _ rfl I (fun _ h=>h) fun _ e=>absurd e c2))
   rw[zzr1 c2];refine bB ?_;refine⟨_,rfl,_,rfl,bW dr.b,(u++(X++Y)).map bW,f,_,iB _,rfl,.inl (aB.of I.f),gH _,(by show 0<=8;decide),by rw[bR];decide,_,rfl,?_⟩;rw[if_pos rfl];by_cases c3:dr.b∈u++(X++Y)
   ·rw[zzr1 (qb.mpr c3)];exact bj (B H3 _ _ _ _ _ rfl I (fun _ h=>h) fun _ _=>c3)
   rw[zzr0 (fun z=>c3 (qb.mp z))];refine bB ?_;refine⟨_,rfl,.inl ⟨rfl,_,aB.of I.f⟩,_,rfl,f,_,_,rfl,rfl,I.f,by rw[ao,aY];exact cp (by omega),?_⟩;have ak:(⟨here,stillSg,dr.b⟩:ar)∈ds:=by
    have:dr=⟨here,stillSg,dr.b⟩:=by cases dr;simp only at c1 c2;rw[c1,c2]
    rw[<-this];exact as
   refine B _ (X++(Y++[dr.b])) _ _ _ _ rfl ⟨?_,?_,?_,?_,?_⟩ ?_ ?_
   ·rw[aa];have:u++(X++(Y++[dr.b]))=u++(X++Y)++[dr.b]:=by simp
    rw[this,aN (l₂:=[dr.b])]
    rfl
   ·intro b o q;rw[ai (ah q hf)];exact I.same _ _ q
   ·rw[<-fb,ee];refine⟨I.nd,by simp,fun a ha b hb e=>?_⟩;have:b=dr.b:=by simpa using hb
    exact c3 (dw _ (by rw[<-this,<-e];exact ha))
   ·intro y hy;rw[<-fb]at hy;rcases cj.mp hy with hy|hy
    ·exact I.new y hy
    ·have:y=dr.b:=by simpa using hy
     rw[this];exact fun z=>c3 (dC _ z)
   ·intro y hy;rw[<-fb]at hy;rcases cj.mp hy with hy|hy
    ·exact I.sound y hy
    ·have:y=dr.b:=by simpa using hy
     rw[this];exact(U D.sound (cT J)).step ak
   ·intro y hy;rw[<-fb];exact dC _ hy
   ·intro _ _;exact dw _ (by simp)
  ·rintro σ H2 ⟨N,Y,a0,a4,a5,rfl,rfl,G,v⟩;rw[ao,Paired.length al,cA]at v;refine⟨_,rfl,_,_,rfl,rfl,X++Y,_,_,_,rfl,G,?_,fun i y hi hy c hc=>?_⟩
   ·rw[<-fb,aY];omega
   ·by_cases e:i=p
    ·subst e;rw[<-fb,kj C,J]at hy;have:=dE hy;subst this;exact v _ hc rfl rfl
    ·have a8:i<p:=by omega
     rw[<-fb,kj (by omega)]at hy;have:=an i y a8 hy c hc;rw[<-fb];exact dC _ this
 ·have aT:p=(u++X).length:=by
   have:¬(p<(u++X).length):=fun z=>O (zzr1 (by rw[ao];omega));omega
  refine⟨_,rfl,k f (u++X) H1 D.f (fun w=>⟨fun hw=>?_,fun hw=>?_⟩) (by rw[aY];omega) hf D.same⟩
  ·rcases cj.mp hw with hw|hw
   ·exact⟨_,hw,.inl rfl⟩
   ·exact D.sound _ hw
  ·have closed:∀y∈u++X,∀c,(⟨y,stillSg,c⟩:ar)∈ds->c∈u++X:=fun y hy c hc=>by
    obtain⟨n,hn⟩:=List.getElem?_of_mem hy;exact an n y (by rw[aT];exact(da.mp hn).1) hn c hc
   obtain⟨g,hg,rfl|h⟩:=hw
   ·exact dC _ hg
   ·induction h with
    |one e=>exact closed _ (dC _ hg) _ e
    |step r e ih=>exact closed _ ih _ e

theorem cK{a:List ar}{i:Nat}{d:ar}{p:ar->Bool}(h:a[i]?=some d):(a.take (i+1)).filter p=(a.take i).filter p++(if p d=true then[d]else[]):=by
 rw[take_snoc h,qo];congr 1;by_cases c:p d=true
 ·rw[if_pos c];simp[c]
 ·rw[if_neg c];simp[c]
theorem bN.same{K:Za}{H e:Hp}{a:Addr}{xs:List V}(S:ae H e)(h:bN K H a xs):bN K e a xs:=by
 rcases h with(h|⟨o,h⟩)|h
 ·exact .inl (.inl (S _ _ h))
 ·exact .inl (.inr ⟨o,S _ _ h⟩)
 ·exact .inr h
theorem aB.same{K:Za}{H e:Hp}{a:Addr}{xs:List V}(S:ae H e)(h:aB K H a xs):aB K e a xs:=by
 rcases h with(h|⟨o,h⟩)|h
 ·exact .inl (.inl (S _ _ h))
 ·exact .inl (.inr ⟨o,S _ _ h⟩)
 ·exact .inr h
mutual
theorem j6.same{K:Za}{H f:Hp}(S:ae H f):∀{d:DT}{v:V},j6 K H d v->j6 K f d v
 |.k a,v,h=>by unfold j6 at h ⊢;exact h
 |.t l,v,h=>by
  unfold j6 at h ⊢;obtain⟨b,xs,e,q,r⟩:=h;exact⟨b,xs,e,bN.same S q,DIns.same S r⟩
 |.s l,v,h=>by
  unfold j6 at h ⊢;obtain⟨b,xs,e,q,r⟩:=h;exact⟨b,xs,e,aB.same S q,DIns.same S r⟩
theorem DIns.same{K:Za}{H g:Hp}(S:ae H g):∀{f:List DT}{a:List V},DIns K H f a->DIns K g f a
 |[],a,h=>by unfold DIns at h ⊢;exact h
 |d::f,a,h=>by
  unfold DIns at h ⊢;obtain⟨v,i,e,q,r⟩:=h;exact⟨v,i,e,j6.same S q,DIns.same S r⟩
end
theorem rW{n:Nat}:∀{a:List DT}{i:Nat}{d:DT},DT.depths a<=n->a[i]?=some d->d.depth<=n
 |[],i,d,_,e=>by simp at e
 |x::a,i,d,h,e=>by
  have f:max (DT.depth x) (DT.depths a)<=n:=h;cases i with
  |zero=>simp at e;subst e;omega
  |succ i=>simp at e;exact rW (by omega) e
open Classical in
theorem rX(a:List ar):DT.depths (a.map jk)<=2:=by
 induction a with
 |nil=>exact cf _
 |cons x xs e=>rw[bo];show max (DT.depth (jk x)) (DT.depths _)<=2;rw[nD];omega
def qV(K:Za):TS :=
 bb (cJ (cZ K) (aK (sB K V0 "own_asks")))
def sr:List Str:=["self"]
def qU(K:Za):TS :=
 bb (cJ (cZ K) (aK (sB K V0 "own_says")))
def sk:List Str:=["self"]
def ky(K:Za):TS :=
 bb (cJ (cZ K) (aK (ye K (sB K V0 "leaving") V1 (eV (bA)))))
def kN:List Str:=["self","room"]
theorem yi{C x:Addr}{H:Hp}{j k l:Zb}{m:List ar}(h:cX C H x j k l m):∃(i:Addr) (fs:List (Str×V)) (f g lv:Addr) (a:List (Str×Addr)),H x=some (.ins C i fs)/\lk "asks" fs=none/\lk "says" fs=none/\lk "doors_from" fs=none/\lk "is_quiet" fs=none/\lk "own_asks" fs=some (.ref f)/\lk "own_says" fs=some (.ref g)/\lk "leaving" fs=some (.ref lv) /\
  H f=some (.lst (j.map V.str))/\H g=some (.lst (k.map V.str))/\a.map (·.1)=l/\H lv=some (.dK (c7 Sum.inr a))/\(∀x∈a,∃n,H x.2=some (.lst (n.map V.ref))/\bD H n (aH m x.1)):=by
 obtain⟨i,fs,f,g,J,M,lv,N,O,Q,T,a,p,q,o,a1,a2,a3,U,r,s,Y,b4,t,b6,b7,b8,L,u,v,y,c4,G,d1,d2,d3⟩:=h.at_;obtain⟨z,B,e,D,E,e3,I⟩:=h.more;rw[o]at e;cases e;exact⟨i,fs,f,g,lv,a,o,D,E,I,a1,r,s,t,L.a1,L.a2,u,v,y⟩
inductive mW(C:Addr)(vs:List V)(H:Hp)(Q:VK)(E:XK):Prop
 |mk (x:Addr) (J0 J1 J2:Zb) (ds:List ar):(vs=[.ref x])->(cX C H x J0 J1 J2 ds)->(∀l,H l=none->Q (.ref l) (upd H l (.lst (J0.map V.str))))->mW C vs H Q E
theorem Du{K:Za}{C:Addr}(M:MC K C){a:List V}{H:Hp}{Q:VK}{E:XK}(h:mW C a H Q E):qV K (bF Q) (start sr a) H:=by
 obtain⟨x,m,n,o,p,rfl,h,k⟩:=h;obtain⟨f,fs,e,q,lv,g,i,a1,a2,a3,r,j,s,t,l,u,_⟩:=yi h;exact⟨_,rfl,x,C,f,fs,.ref e,rfl,i,M.cls,M.a1,j,.inl ⟨e,_,rfl,.inl (aB.of l),k⟩⟩
inductive kZ(C:Addr)(vs:List V)(H:Hp)(Q:VK)(E:XK):Prop
 |mk (x:Addr) (J0 J1 J2:Zb) (ds:List ar):(vs=[.ref x])->(cX C H x J0 J1 J2 ds)->(∀l,H l=none->Q (.ref l) (upd H l (.lst (J1.map V.str))))->kZ C vs H Q E
theorem Dr{K:Za}{C:Addr}(M:MC K C){a:List V}{H:Hp}{Q:VK}{E:XK}(h:kZ C a H Q E):qU K (bF Q) (start sk a) H:=by
 obtain⟨x,m,n,o,p,rfl,h,k⟩:=h;obtain⟨f,fs,q,e,lv,g,i,a1,a2,a3,r,s,j,t,u,l,_⟩:=yi h;exact⟨_,rfl,x,C,f,fs,.ref e,rfl,i,M.cls,M.a2,j,.inl ⟨e,_,rfl,.inl (aB.of l),k⟩⟩
inductive gb(C:Addr)(vs:List V)(H:Hp)(Q:VK)(E:XK):Prop
 |mk (x:Addr) (r:Str) (J0 J1 J2:Zb) (ds:List ar):(vs=[.ref x,.str r])->(cX C H x J0 J1 J2 ds)->(r∈J2)->(∀(l:Addr) (us:Ze) (H':Hp),H' l=some (.lst (us.map V.ref))->bD H' us (aH ds r)->H l=none->ae H H'->Q (.ref l) H')->gb C vs H Q E
theorem sJ{K:Za}{C:Addr}(M:MC K C){n:List V}{H:Hp}{Q:VK}{E:XK}(h:gb C n H Q E):ky K (bF Q) (start kN n) H:=by
 obtain⟨x,r,J,L,N,O,rfl,h,s,k⟩:=h;obtain⟨t,fs,T,U,lv,i,u,a1,a2,a3,Y,b1,b2,v,c1,c2,o,p,y⟩:=yi h;have j:=h.ok.okR.1;obtain⟨⟨q,a⟩,e,z⟩:=bh.mp (show r∈i.map (·.1) by rw[o];exact s);obtain rfl:q=r:=z;obtain⟨B,D,G⟩:=y _ e;refine⟨_,rfl,x,C,t,fs,.ref lv,rfl,u,M.cls,M.a5,v,lv,rfl,.inl ⟨_,.inl p⟩,_,rfl,(by show 0<=am;decide),fun I f=>⟨_,.inl ⟨_,.inr q,.inl (kp p f),rfl,rfl⟩,?_⟩⟩;rw[eB iZ (by rw[o];exact j) e];have g:ae H (upd H I (.tup [])):=ae.new f;refine .inl ⟨a,_,rfl,.inl (aB.of (g _ _ D)),fun l m=>k l B _ aa ?_ (g.free m) (g.trans (ae.new m))⟩;exact G.kt (ae.kt (g.trans (ae.new m)))
mutual
def DR(K:Za)(G:Hp):DT->V->Prop
 |.k a,v=>v=kV a
 |.t l,v=>∃b xs,v=.ref b/\bN K G b xs/\DRs K G l xs
 |.s l,v=>∃b xs,v=.ref b/\G b=some (.lst xs)/\DRs K G l xs
def DRs(K:Za)(G:Hp):List DT->List V->Prop
 |[],vs=>vs=[]
 |k::r,vs=>∃v us,vs=v::us/\DR K G k v/\DRs K G r us
end
mutual
theorem DR.same{K:Za}{H f:Hp}(S:ae H f):∀{d:DT}{v:V},DR K H d v->DR K f d v
 |.k a,v,h=>by unfold DR at h ⊢;exact h
 |.t l,v,h=>by
  unfold DR at h ⊢;obtain⟨b,xs,e,q,r⟩:=h;exact⟨b,xs,e,bN.same S q,DRs.same S r⟩
 |.s l,v,h=>by
  unfold DR at h ⊢;obtain⟨b,xs,e,q,r⟩:=h;exact⟨b,xs,e,S _ _ q,DRs.same S r⟩
theorem DRs.same{K:Za}{H g:Hp}(S:ae H g):∀{f:List DT}{a:List V},DRs K H f a->DRs K g f a
 |[],a,h=>by unfold DRs at h ⊢;exact h
 |d::f,a,h=>by
  unfold DRs at h ⊢;obtain⟨v,i,e,q,r⟩:=h;exact⟨v,i,e,DR.same S q,DRs.same S r⟩
end
mutual
theorem DR.dIn{K:Za}{H:Hp}:∀{d:DT}{v:V},DR K H d v->j6 K H d v
 |.k a,v,h=>by unfold DR at h;unfold j6;exact h
 |.t l,v,h=>by
  unfold DR at h;unfold j6;obtain⟨b,xs,e,q,r⟩:=h;exact⟨b,xs,e,q,DRs.dIns r⟩
 |.s l,v,h=>by
  unfold DR at h;unfold j6;obtain⟨b,xs,e,q,r⟩:=h;exact⟨b,xs,e,aB.of q,DRs.dIns r⟩
theorem DRs.dIns{K:Za}{H:Hp}:∀{f:List DT}{a:List V},DRs K H f a->DIns K H f a
 |[],a,h=>by unfold DRs at h;unfold DIns;exact h
 |d::f,a,h=>by
  unfold DRs at h;unfold DIns;obtain⟨v,g,e,q,r⟩:=h;exact⟨v,g,e,DR.dIn q,DRs.dIns r⟩
end
theorem DRs.paired{K:Za}{G:Hp}:∀{e:List DT}{a:List V},DRs K G e a->Paired (fun v d=>DR K G d v) a e
 |[],a,h=>by unfold DRs at h;subst h;exact .nil
 |d::e,a,h=>by
  unfold DRs at h;obtain⟨v,f,rfl,q,r⟩:=h;exact .cons q (DRs.paired r)
theorem DRs.len{K:Za}{G:Hp}{a:List DT}{e:List V}(h:DRs K G a e):e.length=a.length:=Paired.length h.paired
theorem DRs.getL{K:Za}{G:Hp}{a:List DT}{f:List V}{i:Nat}{v:V}(h:DRs K G a f)(e:f[i]?=some v):∃d,a[i]?=some d/\DR K G d v:=Paired.getL h.paired e
structure AV where
 p:Hp->V->Prop
 mono:∀{G G':Hp}{v:V},ae G G'->p G v->p G' v
def dv(K:Za)(d:DT):AV:=⟨fun G v=>DR K G d v,fun S h=>DR.same S h⟩
def bv(b:Bool):AV:=⟨fun _ v=>v=.bl b,fun _ h=>h⟩
def nv:AV:=⟨fun _ v=>v=.non,fun _ h=>h⟩
abbrev Ga(n:Int):DT:=.k (.inl n)
section
variable{K:Za}
def RV(v:V)(z:AV):Prop:=∀G,z.p G v
theorem Fl{n:Int}:RV (.int n) (dv K (Ga n)):=fun G=>by show DR K G _ _;unfold DR;rfl
theorem yk{w:Str}:RV (.str w) (dv K (bW w)):=fun G=>by show DR K G _ _;unfold bW DR;rfl
theorem kM{G:Hp}:∀a:List Str,DRs K G (a.map bW) (a.map V.str)
 |[]=>by unfold DRs;rfl
 |w::a=>by
  rw[bo,bo];unfold DRs;exact⟨_,_,rfl,yk (K:=K) G,kM a⟩
theorem Ea{G:Hp}{s:Addr}{a:Zb}(h:bN K G s (a.map V.str)):DR K G (vp a) (.ref s):=by
 unfold vp DR;exact⟨s,_,rfl,h,kM a⟩
theorem Eb{G:Hp}{t:Addr}{d:ar}(h:dS G t d):DR K G (jk d) (.ref t):=by
 obtain⟨s,a,e⟩:=h;unfold jk DR;refine⟨t,_,rfl,bN.of a,?_⟩;unfold DRs;refine⟨_,_,rfl,yk (K:=K) G,?_⟩;unfold DRs;refine⟨_,_,rfl,Ea (bN.of e),?_⟩;unfold DRs;refine⟨_,_,rfl,yk (K:=K) G,?_⟩;unfold DRs
 rfl
theorem k_{G:Hp}:∀{a:Ze}{e:List ar},bD G a e->DRs K G (e.map jk) (a.map V.ref)
 |_,_,.nil=>by unfold DRs;rfl
 |_,_,.cons h r=>by
  rw[bo,bo];unfold DRs;exact⟨_,_,rfl,Eb h,k_ r⟩
end
inductive Sl where
 |no
 |im (a:AV)
 |lc (n:Nat)
 |pn
inductive Ce where
 |lst (xs:List Sl)
 |dk (kvs:List (dX×Sl))
 |dt (kvs:List (TK×Sl))
 |ins (C:Addr) (fs:List (Str×Sl))
 |fk (o:Obj) (l:List (dX×V)) (kvs:List (dX×Sl))
abbrev SH:=List (Nat×Ce)
structure Mp where
 G:Hp
 H:Hp
 ad:Nat->Addr
 P:Addr->Prop
def Ok(m:Mp)(h:SH):Sl->V->Prop
 |.no,_=>True
 |.im a,v=>a.p m.G v
 |.lc n,v=>(∃c,(n,c)∈h)/\v=.ref (m.ad n)
 |.pn,v=>∃p c o,v=.ref p/\m.P p/\m.G c=some o/\eW m.H p c
abbrev sQ(m:Mp)(h:SH):List V->List Sl->Prop:=Paired fun v x=>Ok m h x v
def zi(m:Mp)(h:SH)(a:Addr):Ce->Prop
 |.lst xs=>∃vs,m.H a=some (.lst vs)/\sQ m h vs xs
 |.dk kvs=>∃vs,m.H a=some (.dK ((kvs.map (·.1)).zip vs))/\sQ m h vs (kvs.map (·.2))
 |.dt kvs=>∃vs,m.H a=some (.dT ((kvs.map (·.1)).zip vs))/\sQ m h vs (kvs.map (·.2))
 |.ins C fs=>∃dx vs,m.H a=some (.ins C dx ((fs.map (·.1)).zip vs))/\sQ m h vs (fs.map (·.2))
 |.fk o l kvs=>m.H a=some (.frz o (.dK l))/\Paired (fun(p:dX×V) (q:dX×Sl)=>p.1=q.1/\Ok m h q.2 p.2) l kvs
structure Wf(m:Mp)(h:SH):Prop where
 s:ae m.G m.H
 p:∀a,m.P a->m.G a=none/\m.H a≠none
 c:∀n c,(n,c)∈h->m.G (m.ad n)=none/\¬m.P (m.ad n)/\zi m h (m.ad n) c
 i:∀n c n' c',(n,c)∈h->(n',c')∈h->m.ad n=m.ad n'->n=n'
 u:(h.map (·.1)).Nodup
structure Bs where
 G:Hp
 H:Hp
 P:Addr->Prop
 M:Addr->Prop
 R:Addr->Prop
 N:List (Nat×Addr)
structure Fr(B:Bs)(m:Mp)(h:SH):Prop where
 gg:ae B.G m.G
 hh:∀a o,B.H a=some o->¬B.P a->¬B.M a->m.H a=some o
 al:∀a,B.H a≠none->m.H a≠none
 fr:∀a,m.G a≠none->B.G a≠none∨B.H a=none
 pe:∀p c o,B.P p->B.G c=some o->eW B.H p c->eW m.H p c
 pp:∀a,B.P a↔m.P a
 ow:∀n c,(n,c)∈h->B.H (m.ad n)=none∨B.M (m.ad n)∨B.R (m.ad n)
 nd:∀n a,(n,a)∈B.N->1000<=n/\m.ad n=a/\∃c,(n,c)∈h
structure Rw(B:Bs)(s:List Sl)(h:SH)(T:List Sl)(σ:L2.St)(vs:List V)(m:Mp):Prop where
 fr:Fr B m h
 wf:Wf m h
 len:s.length=σ.length
 sl:∀(i:Nat) (x:Sl),s[i]?=some x->x=.no∨∃v,σ[i]?=some (some v)/\Ok m h x v
 tm:sQ m h vs T
def A(B:Bs)(s:List Sl)(h:SH)(T:List Sl)(σ:L2.St)(vs:List V)(H:Hp):Prop:=∃m,m.H=H/\Rw B s h T σ vs m
theorem zi.some{m:Mp}{h:SH}{a:Addr}{c:Ce}(x:zi m h a c):∃o,m.H a=some o:=by
 cases c with
 |lst xs=>obtain⟨f,e,_⟩:=x;exact⟨_,e⟩
 |dk xs=>obtain⟨f,e,_⟩:=x;exact⟨_,e⟩
 |dt xs=>obtain⟨f,e,_⟩:=x;exact⟨_,e⟩
 |ins C fs=>obtain⟨g,f,e,_⟩:=x;exact⟨_,e⟩
 |fk o l xs=>exact⟨_,x.1⟩
structure Mv(m:Mp)(h:SH)(m':Mp)(h':SH):Prop where
 gg:ae m.G m'.G
 s:ae m'.G m'.H
 hh:∀a o,m.H a=some o->¬m.P a->m'.H a=some o
 al:∀a,m.H a≠none->m'.H a≠none
 fr:∀a,m'.G a≠none->m.G a≠none∨m.H a=none
 pe:∀p c o,m.P p->m.G c=some o->eW m.H p c->eW m'.H p c
 pp:m'.P=m.P
 ad:∀n c,(n,c)∈h->m'.ad n=m.ad n
 nm:∀n c,(n,c)∈h->∃c',(n,c')∈h'
theorem Ok.mv{m f:Mp}{h g:SH}(M:Mv m h f g):∀{x:Sl}{v:V},Ok m h x v->Ok f g x v
 |.no,_,_=>ej
 |.im a,_,q=>a.mono M.gg q
 |.lc n,v,⟨⟨c,i⟩,e⟩=>⟨M.nm n c i,by rw[M.ad n c i];exact e⟩
 |.pn,v,⟨p,c,o,l,j,k,r⟩=>⟨p,c,o,l,by rw[M.pp];exact j,M.gg _ _ k,M.pe p c o j k r⟩
theorem zi.mv{m m':Mp}{h i:SH}{a:Addr}{c:Ce}(M:Mv m h m' i)(g:¬m.P a)(x:zi m h a c):zi m' i a c:=by
 cases c with
 |lst xs=>obtain⟨f,e,r⟩:=x;exact⟨f,M.hh _ _ e g,Paired.mapP r fun v x q=>Ok.mv M q⟩
 |dk xs=>obtain⟨f,e,r⟩:=x;exact⟨f,M.hh _ _ e g,Paired.mapP r fun v x q=>Ok.mv M q⟩
 |dt xs=>obtain⟨f,e,r⟩:=x;exact⟨f,M.hh _ _ e g,Paired.mapP r fun v x q=>Ok.mv M q⟩
 |ins C fs=>obtain⟨j,f,e,r⟩:=x;exact⟨j,f,M.hh _ _ e g,Paired.mapP r fun v x q=>Ok.mv M q⟩
 |fk o l xs=>exact⟨M.hh _ _ x.1 g,Paired.mapP x.2 fun v x q=>⟨q.1,Ok.mv M q.2⟩⟩
theorem Mv.trans{m i j:Mp}{h k l:SH}(a:Mv m h i k)(b:Mv i k j l):Mv m h j l :=
 ⟨a.gg.trans b.gg,b.s,fun x o e n=>b.hh x o (a.hh x o e n) (by rw[a.pp];exact n),fun x e=>b.al x (a.al x e),fun x e=>by
  rcases b.fr x e with e|e
  ·exact a.fr x e
  ·refine .inr ?_;cases q:m.H x with
   |none=>rfl
   |some u=>exact absurd e (a.al x (by rw[q];exact nofun)),fun p c o r t e=>b.pe p c o (by rw[a.pp];exact r) (a.gg _ _ t) (a.pe p c o r t e),b.pp.trans a.pp,fun n c e=>by
  obtain⟨f,g⟩:=a.nm n c e;rw[b.ad n f g,a.ad n c e],fun n c e=>by
  obtain⟨f,g⟩:=a.nm n c e;exact b.nm n f g⟩
theorem Rw.mv{B:Bs}{s:List Sl}{h:SH}{T:List Sl}{σ:L2.St}{l:List V}{m k:Mp}(R:Rw B s h T σ l m)(M:Mv m h k h):Rw B s h T σ l k:=by
 refine⟨⟨R.fr.gg.trans M.gg,fun a o e r I=>M.hh a o (R.fr.hh a o e r I) (fun z=>r ((R.fr.pp a).mpr z)),fun a e=>M.al a (R.fr.al a e),fun a e=>?_,fun p c o t y e=>M.pe p c o ((R.fr.pp p).mp t) (R.fr.gg _ _ y) (R.fr.pe p c o t y e),fun a=>by rw[M.pp];exact R.fr.pp a,fun n c e=>by rw[M.ad n c e];exact R.fr.ow n c e,fun n a e=>by
   obtain⟨g,f,c,j⟩:=R.fr.nd n a e;exact⟨g,by rw[M.ad n c j];exact f,c,j⟩⟩,
  ⟨M.s,fun a e=>?_,fun n c e=>?_,fun n c C D e E z=>?_,R.wf.u⟩,R.len,fun i x e=>(R.sl i x e).imp id fun⟨v,e,q⟩=>⟨v,e,Ok.mv M q⟩,Paired.mapP R.tm fun v x q=>Ok.mv M q⟩
 ·rcases M.fr a e with e|e
  ·exact R.fr.fr a e
  ·refine .inr ?_;cases q:B.H a with
   |none=>rfl
   |some u=>exact absurd e (R.fr.al a (by rw[q];exact nofun))
 ·rw[M.pp]at e;obtain⟨g,f⟩:=R.wf.p a e;refine⟨?_,M.al a f⟩;cases q:k.G a with
  |none=>rfl
  |some u=>rcases M.fr a (by rw[q];exact nofun)with z|z;exact absurd g z;exact absurd z f
 ·obtain⟨g,f,j⟩:=R.wf.c n c e;rw[M.ad n c e];refine⟨?_,by rw[M.pp];exact f,j.mv M f⟩;cases q:k.G (m.ad n)with
  |none=>rfl
  |some u =>
   obtain⟨o,J⟩:=j.some;rcases M.fr _ (by rw[q];exact nofun)with z|z
   ·exact absurd g z
   ·rw[J]at z;cases z
 ·rw[M.ad n c e,M.ad C D E]at z;exact R.wf.i n c C D e E z
section
variable{B:Bs}{s:List Sl}{h:SH}{T:List Sl}{σ:L2.St}{vs:List V}{m:Mp}
theorem Rw.push(R:Rw B s h T σ vs m){x:Sl}{v:V}(q:Ok m h x v):A B s h (x::T) σ (v::vs) m.H:=⟨m,rfl,R.fr,R.wf,R.len,R.sl,.cons q R.tm⟩
theorem Rw.drop{x:Sl}{v:V}(R:Rw B s h (x::T) σ (v::vs) m):Rw B s h T σ vs m:=⟨R.fr,R.wf,R.len,R.sl,by cases R.tm with|cons _ r=>exact r⟩
theorem Rw.top{x:Sl}{v:V}(R:Rw B s h (x::T) σ (v::vs) m):Ok m h x v:=by cases R.tm with|cons q _=>exact q
theorem Rw.fresh(R:Rw B s h T σ vs m){l:Addr}(a:m.H l=none):B.H l=none/\m.G l=none/\¬m.P l/\∀n c,(n,c)∈h->m.ad n≠l:=by
 refine⟨?_,R.wf.s.free a,fun z=>(R.wf.p l z).2 a,fun n c e z=>?_⟩
 ·cases q:B.H l with
  |none=>rfl
  |some u=>exact absurd a (R.fr.al l (by rw[q];exact nofun))
 ·obtain⟨o,f⟩:=(R.wf.c n c e).2.2.some;rw[z,a]at f;cases f
theorem Mv.new{l:Addr}{o:HO}(S:ae m.G m.H)(g:m.H l=none):Mv m h { m with G:=upd m.G l o,H:=upd m.H l o } h:=by
 have i:m.G l=none:=S.free g;refine⟨ae.new i,fun b u e=>?_,fun a u e _=>kp e g,fun a e=>?_,fun a e=>?_,fun p c _ _ _ e=>e.ex (ae.new g),rfl,fun _ _ _=>rfl,fun n c e=>⟨c,e⟩⟩
 ·by_cases z:b=l
  ·subst z;have f:upd m.G b o b=some u:=e;rw[aa]at f;show upd m.H b o b=some u;rw[aa];exact f
  ·have f:upd m.G l o b=some u:=e;rw[ai z]at f;show upd m.H l o b=some u;rw[ai z];exact S _ _ f
 ·show upd m.H l o a≠none;by_cases z:a=l
  ·subst z;rw[aa];exact nofun
  ·rw[ai z];exact e
 ·by_cases z:a=l
  ·subst z;exact .inr g
  ·have f:upd m.G l o a≠none:=e;rw[ai z]at f;exact .inl f
def free(h:SH)(n:Nat):Prop:=n<1000/\∀c,(n,c)∉h
theorem DU{h:SH}{n:Nat}(l:n<1000)(e:(h.map (·.1)).contains n=false):free h n:=⟨l,fun c z=>by
 have:n∈h.map (·.1):=bh.mpr ⟨(n,c),z,rfl⟩;have:=List.contains_iff_mem.mpr this;rw[e]at this;cases this⟩
theorem Rw.cell{l:Addr}{n:Nat}{c:Ce}{m':Mp}(R:Rw B s h T σ vs m)(M:Mv m h m' h)(J:free h n)(L:m.H l=none)(N:m'.G l=none)(O:zi { m' with ad:=fun k=>if k=n then l else m'.ad k } ((n,c)::h) l c):
  ∃o:Mp,o.H=m'.H/\o.ad n=l/\Rw B s ((n,c)::h) T σ vs o:=by
 have g:=R.mv M;obtain⟨Q,f2,U,I⟩:=R.fresh L
 let o:Mp:={ m' with ad:=fun k=>if k=n then l else m'.ad k }
 have t:o.ad n=l:=if_pos rfl;have ne:∀k f,(k,f)∈h->k≠n:=fun k f e z=>J.2 f (by rw[<-z];exact e);have r:∀k f,(k,f)∈h->o.ad k=m'.ad k:=fun k f e=>if_neg (ne k f e);have M2:Mv m' h o ((n,c)::h):=⟨.refl _,g.wf.s,fun _ _ e _=>e,fun _ e=>e,fun _ e=>.inl e,fun _ _ _ _ _ e=>e,rfl,r,fun k f e=>⟨f,dD _ e⟩⟩;have Y:¬m'.P l:=by rw[M.pp];exact U
 refine⟨o,rfl,t,⟨g.fr.gg,g.fr.hh,g.fr.al,g.fr.fr,g.fr.pe,g.fr.pp,fun k f e=>?_,fun k a e=>?_⟩,⟨g.wf.s,g.wf.p,fun k f e=>?_,fun k f y j e e' z=>?_,?_⟩,g.len,fun i x e=>(g.sl i x e).imp id fun⟨v,e,q⟩=>⟨v,e,Ok.mv M2 q⟩,Paired.mapP g.tm fun v x q=>Ok.mv M2 q⟩
 ·rcases bY.mp e with e|e
  ·cases e;rw[t];exact .inl Q
  ·rw[r k f e];exact g.fr.ow k f e
 ·obtain⟨E,C,f,D⟩:=g.fr.nd k a e;exact⟨E,by rw[r k f D];exact C,f,dD _ D⟩
 ·rcases bY.mp e with e|e
  ·cases e;rw[t];exact⟨N,Y,O⟩
  ·obtain⟨E,C,D⟩:=g.wf.c k f e;rw[r k f e];exact⟨E,C,D.mv M2 C⟩
 ·rcases bY.mp e with e|e
  ·cases e;rcases bY.mp e' with e'|e'
   ·cases e';rfl
   ·rw[t,r y j e',M.ad y j e']at z;exact absurd z.symm (I y j e')
  ·rcases bY.mp e' with e'|e'
   ·cases e';rw[t,r k f e,M.ad k f e]at z;exact absurd z (I k f e)
   ·rw[r k f e,r y j e']at z;exact g.wf.i k f y j e e' z
 ·rw[bo,jx];refine⟨fun z=>?_,g.wf.u⟩;obtain⟨⟨k,f⟩,e,ek⟩:=bh.mp z;exact ne k f e ek
end
theorem nn{h:SH}{n:Nat}{c:Ce}(e:h.lookup n=some c):(n,c)∈h:=by
 induction h with
 |nil=>cases e
 |cons p h a =>
  obtain⟨k,g⟩:=p;rw[fJ]at e;by_cases z:n==k
  ·rw[z]at e;cases e;have:n=k:=by simpa using z
   subst this;exact eQ
  ·have f:(n==k)=false:=by simpa using z
   rw[f]at e;exact dD _ (a e)
def EV(s:List Sl)(h:SH)(t:TE)(φ:Sl->SH->Prop):Prop:=∀B T σ vs H Q,A B s h T σ vs H->(∀x v h' H',φ x h'->A B s h' (x::T) σ (v::vs) H'->Q v H')->t σ H Q
def ET(s:List Sl)(h:SH)(t:TT)(ψ:Bool->SH->Prop):Prop:=∀B T σ vs H Q,A B s h T σ vs H->(∀b h' H',ψ b h'->A B s h' T σ vs H'->Q b H')->t σ H Q
def EA(s:List Sl)(h:SH)(t:TA)(Φ:List Sl->SH->Prop):Prop:=∀B T σ vs H Q,A B s h T σ vs H->(∀xs us h' H',Φ xs h'->us.length=xs.length->A B s h' (xs++T) σ (us++vs) H'->Q us H')->t σ H Q
abbrev nL(K:Za)(d:DT):Sl:=.im (dv K d)
def lv(as:List AV):AV:=⟨fun G v=>∃a vs,v=.ref a/\G a=some (.lst vs)/\Paired (fun v (x:AV)=>x.p G v) vs as,fun S ⟨a,vs,e,h,r⟩=>⟨a,vs,e,S _ _ h,Paired.mapP r fun v x q=>x.mono S q⟩⟩
def tv(as:List AV):AV:=⟨fun G v=>∃a vs,v=.ref a/\G a=some (.tup vs)/\Paired (fun v (x:AV)=>x.p G v) vs as,fun S ⟨a,vs,e,h,r⟩=>⟨a,vs,e,S _ _ h,Paired.mapP r fun v x q=>x.mono S q⟩⟩
inductive C2(K:Za)(h:SH):Sl->Bool->List Sl->Prop
 |s {ds:List DT}:C2 K h (nL K (.s ds)) true (ds.map (nL K))
 |t {ds:List DT}:C2 K h (nL K (.t ds)) false (ds.map (nL K))
 |v {as:List AV}:C2 K h (.im (lv as)) true (as.map .im)
 |w {as:List AV}:C2 K h (.im (tv as)) false (as.map .im)
 |c {n:Nat}{xs:List Sl}(e:h.lookup n=some (.lst xs)):C2 K h (.lc n) true xs
inductive ze(K:Za)(h:SH):Sl->DT->Prop
 |d {d:DT}:ze K h (nL K d) d
 |c {n:Nat}{xs:List Sl}{ds:List DT}(e:h.lookup n=some (.lst xs)) (r:Paired (ze K h) xs ds):ze K h (.lc n) (.s ds)
inductive Bt(K:Za):List Sl->List DT->Prop
 |nil:Bt K [] []
 |cons {d:DT}{xs:List Sl}{ds:List DT}:Bt K xs ds->Bt K (nL K d::xs) (d::ds)
inductive Br:List Sl->List AV->Prop
 |nil:Br [] []
 |cons {a:AV}{xs:List Sl}{as:List AV}:Br xs as->Br (.im a::xs) (a::as)
section
variable{K:Za}{m:Mp}{h:SH}
theorem Ez{a:List DT}:∀{us:List V},DRs K m.G a us->sQ m h us (a.map (nL K)):=by
 induction a with
 |nil=>intro us q;unfold DRs at q;subst q;exact .nil
 |cons d a e=>intro us q;unfold DRs at q;obtain⟨v,us,rfl,f,g⟩:=q;exact .cons f (e g)
theorem Cq:∀{a:List AV}{e:List V},Paired (fun v (x:AV)=>x.p m.G v) e a->sQ m h e (a.map .im)
 |_,_,.nil=>.nil
 |_,_,.cons q r=>.cons q (Cq r)
theorem C2.view{x:Sl}{b:Bool}{xs:List Sl}{v:V}(q:C2 K h x b xs)(W:Wf m h)(o:Ok m h x v):∃a f,v=.ref a/\sQ m h f xs/\(b=true->m.H a=some (.lst f))/\(b=false->bN K m.H a f):=by
 cases q with
 |@s k =>
  have j:DR K m.G (.s k) v:=o;unfold DR at j;obtain⟨a,f,e,g,i⟩:=j;exact⟨a,f,e,Ez i,fun _=>W.s _ _ g,nofun⟩
 |@t k =>
  have j:DR K m.G (.t k) v:=o;unfold DR at j;obtain⟨a,f,e,g,i⟩:=j;exact⟨a,f,e,Ez i,nofun,fun _=>bN.same W.s g⟩
 |v=>obtain⟨a,f,e,g,i⟩:=o;exact⟨a,f,e,Cq i,fun _=>W.s _ _ g,nofun⟩
 |w=>obtain⟨a,f,e,g,i⟩:=o;exact⟨a,f,e,Cq i,nofun,fun _=>bN.of (W.s _ _ g)⟩
 |c e =>
  obtain⟨_,rfl⟩:=o;obtain⟨_,_,f,g,i⟩:=W.c _ _ (nn e);exact⟨_,f,rfl,i,fun _=>g,nofun⟩
theorem Ag{x:Sl}{d:DT}(q:ze K h x d)(W:Wf m h):∀{v:V},Ok m h x v->j6 K m.H d v:=by
 have f:∀(n:Nat) {x:Sl}{d:DT},d.depth<=n->ze K h x d->∀{v:V},Ok m h x v->j6 K m.H d v:=by
  intro n
  induction n with
  |zero =>
   intro x d a q v o;cases q with
   |d=>exact j6.same W.s (DR.dIn o)
   |c e r=>exact absurd a (by show ¬(DT.depths _+1<=0);omega)
  |succ n z =>
   intro x d a q v o;cases q with
   |d=>exact j6.same W.s (DR.dIn o)
   |@c k xs l e r =>
    obtain⟨_,rfl⟩:=o;obtain⟨_,_,p,t,u⟩:=W.c _ _ (nn e);have g:DT.depths l<=n:=by have:DT.depths l+1<=n+1:=a;omega
    unfold j6;refine⟨_,p,rfl,aB.of t,?_⟩;clear e t a
    induction r generalizing p with
    |nil=>cases u;unfold DIns;rfl
    |@cons y B I i C J j =>
     cases u with
     |cons D E =>
      have G:max (DT.depth B) (DT.depths i)<=n:=g;unfold DIns;exact⟨_,_,rfl,z (by omega) C D,j _ E (by omega)⟩
 exact fun{v} o=>f _ (aO _) q o
theorem Bt.view{xs:List Sl}{e:List DT}(q:Bt K xs e):∀{a:List V},sQ m h a xs->DRs K m.G e a:=by
 induction q with
 |nil=>intro a h;cases h;unfold DRs;rfl
 |cons _ f=>intro a h;cases h with|cons g i=>unfold DRs;exact⟨_,_,rfl,g,f i⟩
theorem Br.view{xs:List Sl}{a:List AV}(q:Br xs a):∀{us:List V},sQ m h us xs->Paired (fun v (x:AV)=>x.p m.G v) us a:=by
 induction q with
 |nil=>intro us h;cases h;exact .nil
 |cons _ e=>intro us h;cases h with|cons f g=>exact .cons f (e g)
end
theorem Paired.cut{R:V->Sl->Prop}:∀{a:List V}{xs:List Sl}{f:List V}{T:List Sl},a.length=xs.length->Paired R (a++f) (xs++T)->Paired R a xs/\Paired R f T
 |[],[],_,_,_,h=>⟨.nil,h⟩
 |[],_::_,_,_,e,_=>by cases e
 |_::_,[],_,_,e,_=>by cases e
 |u::a,x::xs,_,_,e,h=>by
  cases h with
  |cons g i=>obtain⟨j,k⟩:=Paired.cut (by simpa using e) i;exact⟨.cons g j,k⟩
theorem Rw.args{B:Bs}{s:List Sl}{h:SH}{T:List Sl}{σ:L2.St}{f:List V}{m:Mp}{xs:List Sl}{a:List V}(R:Rw B s h (xs++T) σ (a++f) m)(e:a.length=xs.length):sQ m h a xs/\Rw B s h T σ f m:=by
 obtain⟨g,i⟩:=Paired.cut e R.tm;exact⟨g,R.fr,R.wf,R.len,R.sl,i⟩
def GP(K:Za)(h:SH)(φ:Sl->SH->Prop)(xs:List Sl):Prop:=(∃ds,Bt K xs ds/\φ (nL K (.s ds)) h)∨(∃as,Br xs as/\φ (.im (lv as)) h)∨∃n,(n<1000/\(h.map (·.1)).contains n=false)/\φ (.lc n) ((n,.lst xs)::h)
section
variable{B:Bs}{s:List Sl}{h:SH}{T:List Sl}{σ:L2.St}{vs:List V}{m m':Mp}
theorem Rw.adopt{K:Za}{φ:Sl->SH->Prop}{xs:List Sl}{f:List V}{l:Addr}(R:Rw B s h T σ vs m)(M:Mv m h m' h)(j:m.H l=none)(i:m'.G l=none)(e:m'.H l=some (.lst f))(o:sQ m' h f xs)(q:GP K h φ xs):∃x t,φ x t/\A B s t (x::T) σ (.ref l::vs) m'.H:=by
 have C:Mv m h { m' with G:=upd m'.G l (.lst f) } h:=⟨M.gg.trans (ae.new i),fun b u q=>by
   have g:upd m'.G l (.lst f) b=some u:=q;by_cases z:b=l
   ·subst z;rw[aa]at g;rw[<-g];exact e
   ·rw[ai z]at g;exact M.s _ _ g,M.hh,M.al,fun b q=>by
   have g:upd m'.G l (.lst f) b≠none:=q;by_cases z:b=l
   ·subst z;exact .inr j
   ·rw[ai z]at g;exact M.fr b g,M.pe,M.pp,M.ad,M.nm⟩
 rcases q with⟨E,a,q⟩|⟨J,a,q⟩|⟨n,D,q⟩
 ·refine⟨_,_,q,(R.mv C).push ?_⟩;show DR K (upd m'.G l (.lst f)) (.s E) (.ref l);unfold DR;exact⟨l,f,rfl,aa,DRs.same (ae.new i) (a.view o)⟩
 ·refine⟨_,_,q,(R.mv C).push ?_⟩;exact⟨l,f,rfl,aa,Paired.mapP (a.view o) fun v x r=>x.mono (ae.new i) r⟩
 ·have fr:=DU D.1 D.2;obtain⟨L,N,O,Q⟩:=R.fresh j;have M2:Mv m' h { m' with ad:=fun k=>if k=n then l else m'.ad k } ((n,.lst xs)::h):=⟨.refl _,M.s,fun _ _ e _=>e,fun _ e=>e,fun _ e=>.inl e,fun _ _ _ _ _ e=>e,rfl,fun k p z=>if_neg (fun y=>fr.2 p (by rw[<-y];exact z)),fun k p z=>⟨p,dD _ z⟩⟩
  obtain⟨U,I,a2,R2⟩:=R.cell (c:=.lst xs) M fr j i ⟨f,e,Paired.mapP o fun v x r=>Ok.mv M2 r⟩;refine⟨_,_,q,?_⟩;rw[<-I];exact R2.push ⟨⟨_,eQ⟩,by rw[a2]⟩
theorem Mv.newO{l:Addr}{o:HO}(S:ae m.G m.H)(f:m.H l=none):Mv m h { m with H:=upd m.H l o } h:=by
 refine⟨.refl _,S.trans (ae.new f),fun a u e _=>kp e f,fun a e=>?_,fun a e=>.inl e,fun p c _ _ _ e=>e.ex (ae.new f),rfl,fun _ _ _=>rfl,fun n c e=>⟨c,e⟩⟩;show upd m.H l o a≠none;by_cases z:a=l
 ·subst z;rw[aa];exact nofun
 ·rw[ai z];exact e
theorem A.pushI{H:Hp}(a:A B s h T σ vs H){x:AV}{v:V}(q:∀G,x.p G v):A B s h (.im x::T) σ (v::vs) H:=let⟨m,e,R⟩:=a;⟨m,e,R.fr,R.wf,R.len,R.sl,.cons (q m.G) R.tm⟩
end
section
variable{K:Za}{s:List Sl}{h:SH}{φ:Sl->SH->Prop}{ψ:Bool->SH->Prop}{Φ:List Sl->SH->Prop}{ta tb te:TE}{i:Nat}
theorem bz{x:Sl}(e:s[i]?=some x)(q:φ x h)(hx:x≠.no:=by exact nofun):EV s h (lp i) φ:=by
 intro B T σ g H Q a k;obtain⟨m,rfl,R⟩:=a;rcases R.sl i x e with z|⟨v,f,o⟩
 ·exact absurd z hx
 ·exact⟨v,f,k x v h _ q (R.push o)⟩
theorem w_{b:Bool}(q:φ (.im (bv b)) h):EV s h (tC (.bl b)) φ:=fun B T σ e H Q a k=>k _ _ _ _ q (a.pushI fun G=>rfl)
theorem FO(q:Φ [] h):EA s h bA Φ:=fun B T σ e H Q a k=>k [] [] h H q rfl a
theorem Al{o:TA}(q:EV s h ta fun x l=>EA s l o fun xs g=>Φ (x::xs) g):EA s h (az ta o) Φ:=by
 intro B T σ n H Q a k;refine q B T σ n H _ a fun x v l p r a1=>r B _ σ _ p _ a1 fun xs f g t z j a2=>k (x::xs) (v::f) g t z (by simp[j]) ?_;obtain⟨m,e,R⟩:=a2;refine⟨m,e,R.fr,R.wf,R.len,R.sl,?_⟩;have C:∀(xs:List Sl) (f:List V),f.length=xs.length->sQ m g (f++v::n) (xs++x::T)->sQ m g (v::f++n) (x::xs++T):=by
  intro xs
  induction xs with
  |nil=>intro f j h;cases f with|nil=>exact h|cons _ _=>cases j
  |cons y xs D =>
   intro f j h;cases f with
   |nil=>cases j
   |cons u f =>
    cases h with
    |cons l g =>
     have:=D f (by simpa using j) g;cases this with
     |cons E G=>exact .cons E (.cons l G)
 exact C xs f j R.tm
theorem xR{B:Bs}{T:List Sl}{σ:L2.St}{f:List V}{H:Hp}{b:Bool}{v:V}(a:A B s h (.im (bv b)::T) σ (v::f) H):v=.bl b/\A B s h T σ f H:=by
 obtain⟨m,e,R⟩:=a;exact⟨R.top,m,e,R.drop⟩
theorem zK{B:Bs}{T:List Sl}{σ:L2.St}{f:List V}{H:Hp}{n:Int}{v:V}(a:A B s h (nL K (Ga n)::T) σ (v::f) H):v=.int n/\A B s h T σ f H:=by
 obtain⟨m,e,R⟩:=a;have:DR K m.G (Ga n) v:=R.top;unfold DR at this;exact⟨this,m,e,R.drop⟩
theorem jP(q:EV s h te fun x f=>∃b,x=.im (bv b)/\ψ b f):ET s h (tB te) ψ:=by
 intro B T σ j H Q a k;refine q B T σ j H _ a fun x v f l g a1=>?_;obtain⟨b,e,m⟩:=g;subst e;obtain⟨e,a2⟩:=xR a1;exact⟨b,e,k b f l m a2⟩
theorem DZ(q:EV s h te fun x a=>∃b,x=.im (bv b)/\ψ b a):ET s h (ba te) ψ:=jP q
theorem CM{t:TT}(q:ET s h t fun b e=>ψ (!b) e):ET s h (pP t) ψ:=fun B T σ f H Q a k=>q B T σ f H _ a fun b e g j a1=>k (!b) e g j a1
theorem vv{t u:TT}(q:ET s h t fun b e=>if b=true then ET s e u ψ else ψ false e):ET s h (oo t u) ψ:=by
 intro B T σ f H Q a k;refine q B T σ f H _ a fun b e g j a1=>?_;cases b with
 |true=>exact bB ((if_pos rfl).mp j B T σ f g Q a1 k)
 |false=>exact bj (k false e g ((if_neg nofun).mp j) a1)
theorem FL(q:ψ true h):ET s h ln ψ:=fun B T σ e H Q a k=>k true h H q a
theorem vq(q:EV s h ta fun x f=>∃b,x=.im (bv b)/\if b=true then EV s f tb φ else φ (.im (bv false)) f):EV s h (fF ta tb) φ:=by
 intro B T σ j H Q a k;refine q B T σ j H _ a fun x u f l g a1=>?_;obtain⟨b,e,m⟩:=g;subst e;obtain⟨e,a2⟩:=xR a1;refine⟨b,e,?_⟩;cases b with
 |true=>exact bB ((if_pos rfl).mp m B T σ j l Q a2 k)
 |false=>exact bj (k _ _ f l ((if_neg nofun).mp m) (a2.pushI fun G=>rfl))
theorem DW(q:EV s h ta fun x f=>∃b,x=.im (bv b)/\φ (.im (bv (!b))) f):EV s h (zN ta) φ:=by
 intro B T σ j H Q a k;refine q B T σ j H _ a fun x u f l g a1=>?_;obtain⟨b,e,m⟩:=g;subst e;obtain⟨e,a2⟩:=xR a1;exact⟨b,e,k _ _ f l m (a2.pushI fun G=>rfl)⟩
inductive vO:Sl->Bool->Prop
 |n:vO (.im nv) true
 |b {b:Bool}:vO (.im (bv b)) false
 |c {n:Nat}:vO (.lc n) false
 |d {K:Za}{d:DT}:vO (nL K d) false
 |l {as:List AV}:vO (.im (lv as)) false
 |t {as:List AV}:vO (.im (tv as)) false
theorem vO.view{x:Sl}{b:Bool}(q:vO x b){m:Mp}{v:V}(o:Ok m h x v):decide (v=.non)=b:=by
 cases q with
 |n=>exact zzr1 o
 |b=>have e:v=.bl _:=o;subst e;rfl
 |c=>obtain⟨_,rfl⟩:=o;rfl
 |@d K d =>
  have e:DR K m.G d v:=o;cases d with
  |k a=>unfold DR at e;subst e;cases a<;>rfl
  |t l=>unfold DR at e;obtain⟨_,_,rfl,_⟩:=e;rfl
  |s l=>unfold DR at e;obtain⟨_,_,rfl,_⟩:=e;rfl
 |l=>obtain⟨_,_,rfl,_⟩:=o;rfl
 |t=>obtain⟨_,_,rfl,_⟩:=o;rfl
theorem FJ(q:EV s h ta fun x f=>∃b,vO x b/\φ (.im (bv b)) f):EV s h (uL ta) φ:=by
 intro B T σ j H Q a k;refine q B T σ j H _ a fun x u f n g a1=>?_;obtain⟨b,e,l⟩:=g;obtain⟨m,rfl,R⟩:=a1;rw[e.view R.top];exact k _ _ f _ l (R.drop.push rfl)
theorem CL(q:EV s h ta fun x g=>EV s g tb fun y f=>∃d e,ze K f x d/\ze K f y e/\d.depth<=8/\e.depth<=8/\φ (.im (bv (decide (d=e)))) f):EV s h (aM (pV K) ta tb) φ:=by
 intro B T σ j H Q a k;refine q B T σ j H _ a fun x u g l n a1=>n B _ σ _ l _ a1 fun y v f C o a2=>?_;obtain⟨d,e,p,r,t,z,c⟩:=o;obtain⟨m,rfl,R⟩:=a2;exact⟨d,e,Ag p R.wf R.drop.top,Ag r R.wf R.top,t,z,k _ _ f _ c (R.drop.drop.push rfl)⟩
theorem FP(i j:Int):decide (V.int i=V.int j)=decide (i=j):=by
 rw[pc,decide_eq_true_iff,decide_eq_true_iff];exact⟨fun z=>by injection z,fun z=>by rw[z]⟩
theorem FI(q:EV s h ta fun x f=>EV s f tb fun y e=>∃i j:Int,x=nL K (Ga i)/\y=nL K (Ga j)/\φ (.im (bv (!decide (i=j)))) e):EV s h (aM Dy ta tb) φ:=by
 intro B T σ g H Q a k;refine q B T σ g H _ a fun x u f l m a1=>m B _ σ _ l _ a1 fun y v e p n a2=>?_;obtain⟨i,j,rfl,rfl,c⟩:=n;obtain⟨rfl,a3⟩:=zK a2;obtain⟨rfl,o⟩:=zK a3;refine⟨rfl,?_⟩;rw[FP];exact k _ _ e _ c (o.pushI fun G=>rfl)
theorem CK{t:TE}(q:EV s h t fun x e=>∃b xs,C2 K e x b xs/\φ (nL K (Ga xs.length)) e):EV s h (cJ (dJ K) (az t bA)) φ:=by
 intro B T σ g H Q a k;refine q B T σ g H _ a fun x v e u f a1=>?_;obtain⟨b,xs,j,c⟩:=f;obtain⟨m,rfl,R⟩:=a1;obtain⟨p,l,rfl,n,o,r⟩:=j.view R.wf R.top;refine .inl ⟨p,l,rfl,?_,?_⟩
 ·cases b with
  |true=>exact .inl (aB.of (o rfl))
  |false=>exact .inr (r rfl)
 ·rw[Paired.length n];exact k _ _ e _ c (R.drop.push (Fl (K:=K) m.G))
end
abbrev bas(m:Mp)(h:SH)(N:List (Nat×Addr)):Bs:=⟨m.G,m.H,m.P,fun a=>∃n c,(n,c)∈h/\m.ad n=a,fun _=>False,N⟩
def Fin(m:Mp)(h:SH)(Q:VK)(φ:Sl->SH->Prop):Prop:=∀r v h' m',φ r h'->Fr (bas m h (h.map fun p=>(p.1,m.ad p.1))) m' h'->Wf m' h'->Ok m' h' r v->Q v m'.H
def Cn(sp:Sp)(xs:List Sl)(h:SH)(φ:Sl->SH->Prop):Prop:=∀us m Q E,(∀n c,(n,c)∈h->1000<=n)->Wf m h->sQ m h us xs->Fin m h Q φ->sp us m.H Q E
theorem Cn.imp{sp:Sp}{xs:List Sl}{h:SH}{φ φ':Sl->SH->Prop}(c:Cn sp xs h φ)(q:∀r a,φ r a->φ' r a):Cn sp xs h φ':=fun e m Q E g W o f=>c e m Q E g W o fun r v a i j=>f r v a i (q r a j)
def plain:Sl->Prop
 |.im _=>True
 |.pn=>True
 |_=>False
def Res(K:Za)(h:SH)(φ:Sl->SH->Prop)(r:Sl)(h':SH):Prop:=(∃a,r=.im a/\φ r h)∨∃n xs,r=.lc n/\h'.lookup n=some (.lst xs)/\(∀x∈xs,plain x)/\GP K h φ xs
theorem Cr{m m':Mp}{h f:SH}{x:Sl}{v:V}(hx:plain x)(e:m'.G=m.G)(g:m'.H=m.H)(i:m'.P=m.P)(o:Ok m h x v):Ok m' f x v:=by
 cases x with
 |no=>exact ej
 |im a=>show a.p m'.G v;rw[e];exact o
 |lc n=>exact hx.elim
 |pn=>obtain⟨p,c,o,j,k,l,q⟩:=o;exact⟨p,c,o,j,by rw[i];exact k,by rw[e];exact l,by rw[g];exact q⟩
theorem Wf.nil{m:Mp}{h:SH}(W:Wf m h):Wf m []:=⟨W.s,W.p,(fun _ _ e=>nomatch e),(fun _ _ _ _ e=>nomatch e),ki⟩
theorem oJ{m m':Mp}{h j:SH}(e:m'.G=m.G)(f:m'.H=m.H)(g:m'.P=m.P):∀{i:List V}{xs:List Sl},(∀x∈xs,plain x)->sQ m h i xs->sQ m' j i xs
 |_,_,_,.nil=>.nil
 |_,_,hx,.cons o r=>.cons (Cr (hx _ eQ) e f g o) (oJ e f g (fun x a=>hx x (dD _ a)) r)
section
variable{K:Za}{B:Bs}{s:List Sl}{h:SH}{T:List Sl}{σ:L2.St}{vs:List V}{φ:Sl->SH->Prop}
theorem Fr.mv0{m m':Mp}{h f h0:SH}{N:List (Nat×Addr)}{M:Addr->Prop}{R:Addr->Prop}(F:Fr ⟨m.G,m.H,m.P,M,R,N⟩ m' f)(W:Wf m' f)(g:∀a,¬M a):Mv m h { m' with ad:=m.ad } h :=
 ⟨F.gg,W.s,fun a o e n=>F.hh a o e n (g a),F.al,F.fr,F.pe,by funext a;exact propext (F.pp a).symm,fun _ _ _=>rfl,fun n c e=>⟨c,e⟩⟩
theorem Bj{i:Sp}{H:Hp}{Q:VK}{E:XK}{xs:List Sl}{us:List V}(p:∀x∈xs,plain x)(c:Cn i xs [] (Res K h φ))(t:us.length=xs.length)(a:A B s h (xs++T) σ (us++vs) H)
  (k:∀x v f j,φ x f->A B s f (x::T) σ (v::vs) j->Q v j):i us H Q E:=by
 obtain⟨m,rfl,R⟩:=a;obtain⟨u,g⟩:=R.args t;refine c us m Q E (fun _ _ e=>nomatch e) g.wf.nil (oJ rfl rfl rfl p u) fun r v f m' q F W o=>?_;have l:∀a,¬∃n c,(n,c)∈([]:SH)/\m.ad n=a:=fun a ⟨_,_,e,_⟩=>nomatch e;have M:Mv m h { m' with ad:=m.ad } h:=Fr.mv0 (h0:=[]) F W l;rcases q with⟨x,rfl,q⟩|⟨n,G,rfl,lk,y,q⟩
 ·exact k _ _ h _ q ((g.mv M).push o)
 ·obtain⟨_,rfl⟩:=o;obtain⟨gn,_,I,e,os⟩:=W.c _ _ (nn lk);have C:m.H (m'.ad n)=none:=by
   rcases F.ow _ _ (nn lk)with z|z|z
   ·exact z
   ·exact absurd z (l _)
   ·exact z.elim
  obtain⟨x,D,hx,a2⟩:=g.adopt M C gn e (oJ (m:=m') (m':={ m' with ad:=m.ad }) rfl rfl rfl y os) q;exact k x _ D _ hx a2
theorem DY{f:Sp}{t:TA}(q:EA s h t fun xs g=>(∀x∈xs,plain x)/\Cn f xs [] (Res K g φ)):EV s h (aL f t) φ:=by
 intro B T σ vs H Q a k;refine q B T σ vs H _ a fun xs l g m e i a1=>?_;obtain⟨j,c⟩:=e;rw[cO];exact Bj j c i a1 k
end
def EG(s:List Sl)(h:SH)(x:Sl)(g:TG)(Ψ:List Sl->SH->Prop):Prop:=∀B T σ vs v H Q,A B s h (x::T) σ (v::vs) H->(∀s' σ' h' H',Ψ s' h'->A B s' h' T σ' vs H'->Q σ' H')->g v σ H Q
def Hb(s:List Sl)(h:SH)(xs:List Sl)(g:y4)(Ψ:List Sl->SH->Prop):Prop:=∀B T σ vs us H Q,A B s h (xs++T) σ (us++vs) H->us.length=xs.length->(∀s' σ' h' H',Ψ s' h'->A B s' h' T σ' vs H'->Q σ' H')->g us σ H Q
section
variable{K:Za}{s:List Sl}{h:SH}{Ψ:List Sl->SH->Prop}
theorem Ak{x:Sl}{i:Nat}(q:Ψ (s.set i x) h):EG s h x (dj i) Ψ:=by
 intro B T σ vs v H Q a k;obtain⟨m,e,R⟩:=a;refine k _ _ h H q ⟨m,e,R.drop.fr,R.drop.wf,by rw[uz,uz];exact R.len,fun j y f=>?_,R.drop.tm⟩;rw[List.getElem?_set]at f;by_cases z:i=j
 ·subst z;rw[if_pos rfl]at f;by_cases l:i<s.length
  ·rw[if_pos l]at f;cases f;refine .inr ⟨v,?_,R.top⟩;rw[List.getElem?_set,if_pos rfl,if_pos (by rw[<-R.len];exact l)]
  ·rw[if_neg l]at f;cases f
 ·rw[if_neg z]at f;refine(R.sl j y f).imp id fun⟨w,e,o⟩=>⟨w,?_,o⟩;rw[List.getElem?_set,if_neg z];exact e
theorem D0(q:Ψ s h):Hb s h [] ji Ψ:=by
 intro B T σ g e H Q a f k;cases e with
 |nil=>exact⟨rfl,k s σ h H q a⟩
 |cons _ _=>cases f
theorem xf{x:Sl}{xs:List Sl}{g:TG}{f:y4}(q:EG s h x g fun i j=>Hb i j xs f Ψ):Hb s h (x::xs) (bu g f) Ψ:=by
 intro B T σ m e H Q a l k;cases e with
 |nil=>cases l
 |cons u e=>exact⟨u,e,rfl,q B _ σ _ u H _ a fun i σ' j n o p=>o B T σ' m e n Q p (by simpa using l) k⟩
theorem D_{x:Sl}{xs:List Sl}{n:Nat}{f:y4}(i:C2 K h x false xs)(j:xs.length=n)(q:Hb s h xs f Ψ):EG s h x (jO K n f) Ψ:=by
 intro B T σ vs v H Q a k;obtain⟨m,rfl,R⟩:=a;obtain⟨b,g,rfl,e,_,l⟩:=i.view R.wf R.top;exact⟨b,g,rfl,l rfl,by rw[Paired.length e];exact j,q B T σ vs g _ Q ⟨m,rfl,R.fr,R.wf,R.len,R.sl,Paired.app e R.drop.tm⟩ (Paired.length e) k⟩
end
structure Src(G:Hp)(J:It)(n:Nat)(el:Nat->AV):Prop where
 go:∀i G2 H2,i<n->ae G G2->ae G2 H2->J.go i H2
 st:∀G2 H2,ae G G2->ae G2 H2->J.stop n H2
 yl:∀i (m:Mp) (h:SH) x H3,i<n->ae G m.G->ae m.G m.H->J.yld i m.H x H3->∃m3:Mp,m3.H=H3/\Mv m h m3 h/\(el i).p m3.G x
def EI(s:List Sl)(h:SH)(wi:L2.TI)(Θ:Nat->(Nat->AV)->SH->Prop):Prop:=∀B T σ vs H R,A B s h T σ vs H->(∀n el J h1 m,Θ n el h1->Rw B s h1 T σ vs m->Src m.G J n el->R J m.H)->wi σ H R
def FM(as:List AV)(i:Nat):AV:=as.getD i nv
section
variable{K:Za}{s:List Sl}{h:SH}{φ:Sl->SH->Prop}{Θ:Nat->(Nat->AV)->SH->Prop}{te:TE}
inductive Gf(K:Za):AV->Bool->List AV->Prop
 |s {ds:List DT}:Gf K (dv K (.s ds)) true (ds.map (dv K))
 |t {ds:List DT}:Gf K (dv K (.t ds)) false (ds.map (dv K))
 |v {as:List AV}:Gf K (lv as) true as
 |w {as:List AV}:Gf K (tv as) false as
theorem EM{G:Hp}{a:List DT}{e:List V}(q:DRs K G a e):Paired (fun v (x:AV)=>x.p G v) e (a.map (dv K)):=by
 induction a generalizing e with
 |nil=>unfold DRs at q;subst q;exact .nil
 |cons d a f=>unfold DRs at q;obtain⟨v,e,rfl,g,i⟩:=q;exact .cons g (f i)
theorem Gf.view{a:AV}{b:Bool}{l:List AV}(q:Gf K a b l){G:Hp}{v:V}(o:a.p G v):∃p f,v=.ref p/\Paired (fun v (x:AV)=>x.p G v) f l/\(b=true->G p=some (.lst f))/\(b=false->bN K G p f):=by
 cases q with
 |@s k =>
  have j:DR K G (.s k) v:=o;unfold DR at j;obtain⟨a,f,e,g,i⟩:=j;exact⟨a,f,e,EM i,fun _=>g,nofun⟩
 |@t k =>
  have j:DR K G (.t k) v:=o;unfold DR at j;obtain⟨a,f,e,g,i⟩:=j;exact⟨a,f,e,EM i,nofun,fun _=>g⟩
 |v=>obtain⟨a,f,e,g,i⟩:=o;exact⟨a,f,e,i,fun _=>g,nofun⟩
 |w=>obtain⟨a,f,e,g,i⟩:=o;exact⟨a,f,e,i,nofun,fun _=>bN.of g⟩
end
def cS(k:Nat)(fi:List Nat)(s:List Sl):List Sl:=kq k .no++fi.map fun i=>s.getD i .no
theorem lend{B:Bs}{s:List Sl}{h:SH}{T:List Sl}{σ:L2.St}{p:List V}{m:Mp}(R:Rw B s h T σ p m)(k:Nat)(g:List Nat):Rw ⟨m.G,m.H,m.P,fun _=>False,fun a=>∃n c,(n,c)∈h/\m.ad n=a,[]⟩ (cS k g s) h [] (du k g σ) [] m:=by
 refine⟨⟨.refl _,fun _ _ e _ _=>e,fun _ e=>e,fun _ e=>.inl e,fun _ _ _ _ _ e=>e,fun _=>tX,fun n c e=>.inr (.inr ⟨n,c,e,rfl⟩),fun _ _ e=>nomatch e⟩,R.wf,by unfold cS du;simp,fun i x e=>?_,.nil⟩;unfold cS at e;by_cases z:i<k
 ·rw[kj (by simpa using z)]at e;exact .inl (List.eq_of_mem_replicate (cT e))
 ·rw[nY (by simpa using z),uD,dq]at e;cases q:g[i-k]? with
  |none=>rw[q]at e;cases e
  |some j =>
   rw[q]at e;have f:s.getD j .no=x:=dE e;rw[List.getD_eq_getElem?_getD]at f;cases l:s[j]? with
   |none=>rw[l]at f;exact .inl f.symm
   |some y =>
    rw[l]at f;have r:y=x:=f;subst r;refine(R.sl j y l).imp id fun⟨v,e,o⟩=>⟨v,?_,o⟩;unfold du;rw[nY (by simpa using z),uD,dq,q];show some ((σ[j]?).join)=_;rw[e];rfl
theorem Fk{n:Nat}(h:n<=1000000):n<am:=uu h (by decide)
theorem Mv.put{m m':Mp}{h:SH}(M:Mv m h m' h){l:Addr}{o:HO}(g:m.H l=none)(i:m'.G l=none)(k:∀a,m.P a->m.H a≠none):Mv m h { m' with H:=upd m'.H l o } h :=
 ⟨M.gg,fun b u e=>by show upd m'.H l o b=some u;rw[ai (fun z=>by rw[z,i]at e;cases e)];exact M.s _ _ e,fun a u e n=>by show upd m'.H l o a=some u;rw[ai (ah e g)];exact M.hh a u e n,fun a e=>by
  show upd m'.H l o a≠none;rw[ai (fun z=>e (by rw[z];exact g))];exact M.al a e,M.fr,fun p c q f j e=>by
  show eW (upd m'.H l o) p c;exact(M.pe p c q f j e).upd (fun z=>k p f (by rw[z];exact g)) (fun z=>by have:=M.gg _ _ j;rw[z,i]at this;cases this),M.pp,M.ad,M.nm⟩
section
variable{K:Za}{s:List Sl}{h:SH}{φ:Sl->SH->Prop}{ψ:Bool->SH->Prop}{te:TE}
theorem DX{k:Nat}{fi:List Nat}{wi:L2.TI}{g:TG}{tc:TT}(q:EI s h wi fun n el t=>n<=1000000/\∃I:Nat->List AV->Prop,I 0 [] /\
  (∀i f,i<n->I i f->EG (cS k fi s) t (.im (el i)) g fun sc h2=>ET sc h2 tc fun b h3=>if b=true then EV sc h3 te fun y _=>∃a,y=.im a/\I (i+1) (f++[a])else I (i+1) f)/\(∀f,I n f->GP K t φ (f.map .im))):EV s h (de k fi wi g tc te) φ:=by
 intro B T σ vs H Q a kk;refine q B T σ vs H _ a fun n el J t m N R S l hl=>?_;obtain⟨hz,I,i0,st,an⟩:=N;obtain⟨f1,f2,f3,f4⟩:=R.fresh hl;refine nF (Q:=fun E=>Q (.ref l) E) n (fun i ws E=>∃D f,D.H=E/\I i f/\f.length<=i/\Mv m t D t/\D.G l=none/\E l=some (.lst ws)/\sQ D t ws (f.map .im))
  ⟨_,[],rfl,i0,aO _,Mv.newO (o:=.lst []) R.wf.s hl,f2,aa,.nil⟩ (fun i ws E _ zq=>by obtain⟨_,_,_,_,_,_,_,e,_⟩:=zq;exact e) (fun i ws E hi ⟨D,_,e,_,_,M,_⟩=>by rw[<-e];exact S.go i D.G D.H hi M.gg M.s) (fun ws E ⟨D,f,e0,hI,_,M,g,e,hd⟩=>?_) ?_
 ·subst e0;refine⟨S.st D.G D.H M.gg M.s,?_⟩;obtain⟨x,h2,hx,a2⟩:=R.adopt M hl g e hd (an f hI);exact kk x _ h2 _ hx a2
 ·rintro i ws E x H3 hi ⟨D,f,rfl,hI,aS,M,gl,e,hd⟩ y;obtain⟨C,rfl,U,hx⟩:=S.yl i D t x H3 hi M.gg M.s y;have Y:=M.trans U;have R3:=R.mv Y;have nP:¬D.P l:=by rw[M.pp];exact f3
  have ab:¬C.P l:=by rw[U.pp];exact nP
  have e3:C.H l=some (.lst ws):=U.hh l _ e nP;have ap:C.G l=none:=by
   cases q:C.G l with
   |none=>rfl
   |some u =>
    rcases U.fr l (by rw[q];exact nofun)with z|z
    ·exact absurd gl z
    ·rw[e]at z;cases z
  have aq:sQ C t ws (f.map .im):=Paired.mapP hd fun v x r=>Ok.mv U r;refine st i f hi hI _ [] _ [] x _ _ ((lend R3 k fi).push hx) fun sc σ2 h2 H4 h4 a4=>h4 _ [] σ2 [] H4 _ a4 fun b h3 H5 h5 a5=>?_;have step:∀{j:Mp}{h6:SH},Fr ⟨C.G,C.H,C.P,fun _=>False,fun a=>∃n c,(n,c)∈t/\C.ad n=a,[]⟩ j h6->Wf j h6->Mv m t { j with ad:=C.ad } t/\j.G l=none/\j.H l=some (.lst ws)/\sQ { j with ad:=C.ad } t ws (f.map .im):=by
   intro j h6 F W;have L:Mv C t { j with ad:=C.ad } t:=Fr.mv0 (h0:=[]) F W (fun _ z=>z);refine⟨Y.trans L,?_,L.hh l _ e3 ab,Paired.mapP aq fun v x r=>Ok.mv L r⟩;cases q:j.G l with
   |none=>rfl
   |some u =>
    rcases L.fr l (by show j.G l≠none;rw[q];exact nofun)with z|z
    ·exact absurd ap z
    ·rw[e3]at z;cases z
  have as:∀a,m.P a->m.H a≠none:=fun a z=>(R.wf.p a z).2;cases b with
  |true =>
   refine bB ?_;refine(if_pos rfl).mp h5 _ [] σ2 [] H5 _ a5 fun y v h7 H6 N a6=>?_;obtain⟨ea,ey,aC⟩:=N;subst ey;obtain⟨j,rfl,O⟩:=a6;obtain⟨L,g6,e6,d6⟩:=step O.fr O.wf;have l6:=Paired.length d6;rw[ao]at l6;refine⟨e6,by rw[l6];exact Fk (by omega),pW hi ⟨_,f++[ea],rfl,aC,by simp;omega,L.put (o:=.lst (ws++[v])) hl g6 as,g6,aa,?_⟩⟩;rw[aN];exact Paired.app (Paired.mapP d6 fun v x r=>by
    cases x with
    |im a=>exact r
    |no=>exact ej
    |lc n=>exact r
    |pn =>
     obtain⟨p,c,o,z1,z2,z3,z4⟩:=r;refine⟨p,c,o,z1,z2,z3,?_⟩;have ak:j.P p:=z2;have al:j.G c=some o:=z3;exact(show eW j.H p c from z4).upd (fun z=>by rw[z]at ak;exact ab ((O.fr.pp l).mpr ak)) (fun z=>by rw[z,g6]at al;cases al)) (.cons O.top .nil)
  |false =>
   refine bj ?_;obtain⟨j,rfl,O⟩:=a5;obtain⟨L,g6,e6,d6⟩:=step O.fr O.wf;exact pW hi ⟨{ j with ad:=C.ad },f,rfl,(if_neg nofun).mp h5,by omega,L,g6,e6,d6⟩
end
structure AE where
 nx:List Sl->SH->Prop
 rt:Sl->SH->Prop
 bk:List Sl->SH->Prop:=fun _ _=>False
 ct:List Sl->SH->Prop:=fun _ _=>False
structure Le(De:g0)(D:AE)(B:Bs)(T:List AV)(vs:List V):Prop where
 nx:∀s h σ H,D.nx s h->A B s h (T.map .im) σ vs H->De.nx σ H
 rt:∀x h v H,D.rt x h->A B [] h [x] [] [v] H->De.rt v H
 bk:∀s h σ H,D.bk s h->A B s h (T.map .im) σ vs H->De.bk σ H
 ct:∀s h σ H,D.ct s h->A B s h (T.map .im) σ vs H->De.ct σ H
def SS(s:List Sl)(h:SH)(t:TS)(D:AE):Prop:=∀B (T:List AV) σ vs H De,(∀a,¬B.R a)->A B s h (T.map .im) σ vs H->Le De D B T vs->t De σ H
theorem A.only{B:Bs}{s:List Sl}{h:SH}{T:List Sl}{σ:L2.St}{f:List V}{H:Hp}{x:Sl}{v:V}(a:A B s h (x::T) σ (v::f) H):A B [] h [x] [] [v] H:=by
 obtain⟨m,e,R⟩:=a;exact⟨m,e,R.fr,R.wf,rfl,fun i x h=>by simp at h,.cons R.top .nil⟩
section
variable{K:Za}{s:List Sl}{h:SH}{D:AE}{te:TE}{t u:TS}
theorem dH(q:SS s h t { D with nx:=fun e f=>SS e f u D }):SS s h (av t u) D:=fun B T σ g H i r a l=>q B T σ g H _ r a ⟨fun e f σ' j k m=>k B T σ' g j i r m l,l.rt,l.bk,l.ct⟩
theorem ii(q:D.nx s h):SS s h aZ D:=fun B T σ e H f r a l=>l.nx s h σ H q a
theorem kz(q:EV s h te D.rt):SS s h (bb te) D:=fun B T σ e H j r a l=>q B _ σ e H _ a fun x v f g i a1=>l.rt x f v g i a1.only
theorem gq{c:TT}(q:ET s h c fun b e=>if b=true then SS s e t D else SS s e u D):SS s h (bS c t u) D:=by
 intro B T σ f H g r a l;refine q B _ σ f H _ a fun b e i j a1=>?_;cases b with
 |true=>exact bB ((if_pos rfl).mp j B T σ f i g r a1 l)
 |false=>exact bj ((if_neg nofun).mp j B T σ f i g r a1 l)
end
def G4(n:Nat)(PRE:List Sl->SH->(Sl->SH->Prop)->Prop):Sp:=fun vs H Q _=>∃xs h φ m,xs.length=n/\m.H=H/\(∀n c,(n,c)∈h->1000<=n)/\Wf m h/\sQ m h vs xs/\PRE xs h φ/\Fin m h Q φ
theorem cn_h{n:Nat}{a:List Sl->SH->(Sl->SH->Prop)->Prop}{xs:List Sl}{h:SH}{φ:Sl->SH->Prop}(q:a xs h φ)(e:xs.length=n:=by rfl):Cn (G4 n a) xs h φ:=fun i m Q E g W o f=>⟨xs,h,φ,m,e,rfl,g,W,o,q,f⟩
theorem ED{n:Nat}{a:List Sl->SH->(Sl->SH->Prop)->Prop}{e:List V}{H:Hp}{Q:VK}{E:XK}(q:G4 n a e H Q E):e.length=n:=by
 obtain⟨xs,h,φ,m,f,_,_,_,hx,_⟩:=q;rw[Paired.length hx,f]
theorem body{n:Nat}{g:List Sl->SH->(Sl->SH->Prop)->Prop}{o:List V}{H:Hp}{Q:VK}{E:XK}{t:TS}{N:Zb}(q:G4 n g o H Q E)(B:∀xs h φ,g xs h φ->SS (xs++kq (N.length-xs.length) .no) h t ⟨fun _ j=>φ (.im nv) j,φ,fun _ _=>False,fun _ _=>False⟩):
  t (bF Q) (start N o) H:=by
 obtain⟨xs,h,φ,m,_,rfl,C,W,hx,l,f⟩:=q;have u:o.length=xs.length:=Paired.length hx;refine B xs h φ l (bas m h (h.map fun p=>(p.1,m.ad p.1))) [] (start N o) [] _ _ (fun _ z=>z) ⟨m,rfl,⟨.refl _,fun _ _ e _ _=>e,fun _ e=>e,fun _ e=>.inl e,fun _ _ _ _ _ e=>e,fun _=>tX,fun n c e=>.inr (.inl ⟨n,c,e,rfl⟩),fun n a e=>?_⟩,W,by unfold L2.start;simp[u],fun i x e=>?_,.nil⟩ ⟨?_,?_,fun _ _ _ _ z=>z.elim,fun _ _ _ _ z=>z.elim⟩
 ·obtain⟨⟨k,c⟩,y,D⟩:=bh.mp e;cases D;exact⟨C k c y,rfl,c,y⟩
 ·by_cases z:i<xs.length
  ·rw[kj z]at e;obtain⟨v,G,I⟩:=Paired.get (R:=fun v x=>Ok m h x v) hx e;refine .inr ⟨v,?_,I⟩;unfold L2.start;rw[kj (by simpa[u]using z),dq,G];rfl
  ·rw[nY (by omega)]at e;exact .inl (List.eq_of_mem_replicate (cT e))
 ·rintro s j σ J q ⟨r,rfl,R⟩;exact f (.im nv) .non j r q R.fr R.wf rfl
 ·rintro x j v J q ⟨r,rfl,R⟩;exact f x v j r q R.fr R.wf R.top
theorem ifB{b:Bool}{X Y:Prop}(a:b=true->X)(e:b=false->Y):if b=true then X else Y:=by
 cases b with
 |true=>exact bB (a rfl)
 |false=>exact bj (e rfl)
section
variable{K:Za}{s:List Sl}{h:SH}{φ φ':Sl->SH->Prop}{ψ ψ':Bool->SH->Prop}{ta tb te tl:TE}{g:TG}{tc:TT}{k:Nat}{fi:List Nat}
theorem pI{α β:Type}{xs:List α}{i:Nat}{a:α}(h:xs[i]?=some a)(p:α->Bool)(f:α->β):((xs.take (i+1)).filter p).map f=((xs.take i).filter p).map f++(if p a=true then[f a]else[]):=by
 rw[take_snoc h,qo,aN];by_cases c:p a=true
 ·rw[if_pos c];simp[List.filter,c]
 ·rw[if_neg c];simp[List.filter,c]
def GW(K:Za)(s:List Sl)(h:SH)(φ:Sl->SH->Prop)(k:Nat)(fi:List Nat)(g:TG)(tc:TT)(te:TE)(α:Type)(xs:List α)(enc:α->AV)(p:α->Bool)(f:α->AV):Prop :=
 xs.length<=1000000/\(∀a∈xs,EG (cS k fi s) h (.im (enc a)) g fun sc h2=>ET sc h2 tc fun b h3=>b=p a/\(p a=true->EV sc h3 te fun y _=>y=.im (f a)))/\GP K h φ (((xs.filter p).map f).map .im)
theorem yV{α:Type}{xs:List α}{l:α->AV}{p:α->Bool}{f:α->AV}(q:GW K s h φ k fi g tc te α xs l p f):(xs.map l).length<=1000000/\∃I:Nat->List AV->Prop,I 0 [] /\
  (∀i j,i<(xs.map l).length->I i j->EG (cS k fi s) h (.im (FM (xs.map l) i)) g fun n o=>ET n o tc fun b r=>if b=true then EV n r te fun y _=>∃a,y=.im a/\I (i+1) (j++[a])else I (i+1) j)/\(∀j,I (xs.map l).length j->GP K h φ (j.map .im)):=by
 obtain⟨C,st,t⟩:=q;refine⟨by rw[ao];exact C,fun i j=>j=((xs.take i).filter p).map f,by simp,fun i j hi e=>?_,fun j e=>?_⟩
 ·rw[ao]at hi;have u:xs[i]?=some xs[i]:=by simp[hi]
  have D:FM (xs.map l) i=l xs[i]:=by unfold FM;rw[List.getD_eq_getElem?_getD,dq,u];rfl
  rw[D];have:=st xs[i] (List.getElem_mem hi);intro B T σ m v H Q a k;refine this B T σ m v H Q a fun n σ' o E G J=>k n σ' o E (fun B T σ m H Q a k=>G B T σ m H Q a fun b r x ⟨L,M⟩ a1=>k b r x ?_ a1) J;subst L;by_cases c:p xs[i]=true
  ·rw[if_pos c];intro B T σ m H Q a k;refine M c B T σ m H Q a fun y v N x O a1=>k y v N x ⟨f xs[i],O,?_⟩ a1;show j++[f xs[i]]=((xs.take (i+1)).filter p).map f;rw[e,pI u,if_pos c]
  ·rw[if_neg c];show j=((xs.take (i+1)).filter p).map f;rw[e,pI u,if_neg c,cO]
 ·have z:j=((xs.take (xs.map l).length).filter p).map f:=e;rw[ao,cA]at z;rw[z];exact t
end
def pO(K:Za):TS :=
 bb (cJ (cZ K) (aK (sB K V0 "own_doors")))
def p6:List Str:=["self"]
def wc(K:Za)(sp_law_same:Sp):TS :=
 av (bS (tB (uL V1)) (bb (uL V0)) (aZ))
 (av (bS (tB (cJ (gr K) (aF V1 (tC (.ty "bool"))))) (bb (fF (cJ (gr K) (aF V0 (tC (.ty "bool")))) (aM (pV K) V0 V1))) (aZ))
 (av (bS (tB (cJ (gr K) (aF V1 (tC (.ty "str"))))) (bb (fF (cJ (gr K) (aF V0 (tC (.ty "str")))) (aM (pV K) V0 V1))) (aZ))
 (av (bS (tB (cJ (gr K) (aF V1 (tC (.ty "int"))))) (bb (fF (cJ (gr K) (aF V0 (tC (.ty "int")))) (fF (zN (cJ (gr K) (aF V0 (tC (.ty "bool"))))) (aM (pV K) V0 V1)))) (aZ))
 (av (bS (oo (tB (cJ (gr K) (aF V1 (tC (.ty "tuple"))))) (pP (tB (cJ (gr K) (aF V0 (tC (.ty "tuple"))))))) (bb (tC (.bl false))) (aZ))
 (av (bS (oo (tB (cJ (gr K) (aF V1 (tC (.ty "list"))))) (pP (tB (cJ (gr K) (aF V0 (tC (.ty "list"))))))) (bb (tC (.bl false))) (aZ))
 (av (bS (ba (aM Dy (cJ (dJ K) (aK V0)) (cJ (dJ K) (aK V1)))) (bb (tC (.bl false))) (aZ))
 (bb (cJ (AY K) (az (de 2 [] (wW K (aF V0 V1)) (jO K 2 (bu U0 (bu U1 (ji)))) (ln) (aL sp_law_same (aF V0 V1))) bA)))))))))
def pK:List Str:=["found","due"]
theorem FS{G:Hp}{bs:List Bool}:∀{a:List V},Paired (fun v (x:AV)=>x.p G v) a (bs.map bv)->a=bs.map V.bl:=by
 induction bs with
 |nil=>intro a r;cases r;rfl
 |cons b bs f =>
  intro a r;cases r with
  |cons g h =>
   have e:_=V.bl b:=g;rw[e,f h];rfl
section
variable{K:Za}{s:List Sl}{h:SH}{φ:Sl->SH->Prop}{ta tb te:TE}
def tyD:DT->String
 |.k (.inl _)=>"int"
 |.k (.inr _)=>"str"
 |.t _=>"tuple"
 |.s _=>"list"
theorem cW{c:String}(q:EV s h te fun x f=>∃d b,x=nL K d/\vT K (.type (tyD d)) (.type c)=some b/\φ (.im (bv b)) f):EV s h (cJ (gr K) (az te (aK (tC (.ty c))))) φ:=by
 intro B T σ p H Q a k;refine q B T σ p H _ a fun x u f y j a1=>?_;obtain⟨d,b,e,r,v⟩:=j;subst e;obtain⟨m,rfl,R⟩:=a1;have o:DR K m.G d u:=R.top;refine⟨u,c,.type (tyD d),b,rfl,?_,r,k _ _ f _ v (R.drop.push rfl)⟩;cases d with
 |k a =>
  unfold DR at o;subst o;cases a with
  |inl i=>exact .inl (mj.int i)
  |inr i=>exact .inl (mj.str i)
 |t l=>unfold DR at o;obtain⟨a,n,rfl,g,_⟩:=o;exact .inr (.inl ⟨a,n,rfl,rfl,bN.same R.wf.s g⟩)
 |s l=>unfold DR at o;obtain⟨a,n,rfl,g,_⟩:=o;exact .inr (.inr ⟨a,n,rfl,rfl,aB.of (R.wf.s _ _ g)⟩)
theorem FK(q:EV s h te fun x f=>∃bs:List Bool,x=.im (lv (bs.map bv))/\φ (.im (bv (bs.all id))) f):EV s h (cJ (AY K) (az te bA)) φ:=by
 intro B T σ j H Q a k;refine q B T σ j H _ a fun x u f l i a1=>?_;obtain⟨bs,e,c⟩:=i;subst e;obtain⟨m,rfl,R⟩:=a1;obtain⟨p,n,rfl,g,r⟩:=(show(lv (bs.map bv)).p m.G u from R.top);have:=FS r;subst this;exact⟨p,bs,rfl,aB.of (R.wf.s _ _ g),k _ _ f _ c (R.drop.push rfl)⟩
def tH(K:Za)(x:DT×DT):AV:=tv [dv K x.1,dv K x.2]
theorem FN{Θ:Nat->(Nat->AV)->SH->Prop}(q:EV s h ta fun x h1=>EV s h1 tb fun y N=>∃g n:List DT,((x=nL K (.s g)/\y=nL K (.s n))∨(x=nL K (.t g)/\y=nL K (.t n)))/\g.length=n.length/\Θ ((g.zip n).map (tH K)).length (FM ((g.zip n).map (tH K))) N):EI s h (wW K (az ta (az tb bA))) Θ:=by
 intro B T σ vs H R a k;refine q B T σ vs H _ a fun x u h1 H1 C a1=>C B _ σ _ H1 _ a1 fun y v N H2 ab a2=>?_;obtain⟨g,n,ak,hl,c⟩:=ab;obtain⟨m,rfl,R2⟩:=a2;have O:=R2.drop.drop;have Q:((g.zip n).map (tH K)).length=g.length:=by rw[ao,List.length_zip,<-hl,Nat.min_self]
 have Y:∀{i:Nat}{d e:DT},g[i]?=some d->n[i]?=some e->FM ((g.zip n).map (tH K)) i=tH K (d,e):=fun{i d e} h1 N=>by
  unfold FM;rw[List.getD_eq_getElem?_getD,dq,(List.getElem?_zip_eq_some (z:=(d,e))).mpr ⟨h1,N⟩];rfl
 have yl:∀{j l:List V},DRs K m.G g j->DRs K m.G n l->∀(i:Nat) (r:Mp) (I:SH) (p:Addr) (a b:V),i<g.length->ae m.G r.G->ae r.G r.H->r.H p=none->j[i]?=some a->l[i]?=some b->∃m3:Mp,m3.H=upd r.H p (.tup [a,b])/\Mv r I m3 I/\(FM ((g.zip n).map (tH K)) i).p m3.G (.ref p):=by
  intro j l C J i r I p a b hi f s2 U ha hb;obtain⟨d,hd,L⟩:=C.getL ha;obtain⟨e,he,M⟩:=J.getL hb;rw[Y hd he];refine⟨_,rfl,Mv.new (o:=.tup [a,b]) s2 U,p,[a,b],rfl,aa,?_⟩;have S:=f.trans (ae.new (o:=.tup [a,b]) (s2.free U));exact .cons (DR.same S L) (.cons (DR.same S M) .nil)
 rcases ak with⟨rfl,rfl⟩|⟨rfl,rfl⟩
 ·have L:DR K m.G (.s g) u:=R2.drop.top;have M:DR K m.G (.s n) v:=R2.top;unfold DR at L M;obtain⟨b1,j,rfl,D,C⟩:=L;obtain⟨b2,l,rfl,E,J⟩:=M;have l1:=C.len;have l2:=J.len;refine⟨b1,b2,rfl,.inl ⟨⟨j,aB.of (O.wf.s _ _ D)⟩,⟨l,aB.of (O.wf.s _ _ E)⟩,k _ _ _ N m c O ⟨fun i G2 H2 hi f s2=>?_,fun G2 H2 f s2=>?_,fun i r I x H3 hi f s2 y=>?_⟩⟩⟩
  ·rw[Q]at hi;exact⟨j,l,j[i],l[i],aB.of (s2 _ _ (f _ _ D)),aB.of (s2 _ _ (f _ _ E)),by simp[l1,hi],by simp[l2,<-hl,hi]⟩
  ·exact⟨j,l,aB.of (s2 _ _ (f _ _ D)),aB.of (s2 _ _ (f _ _ E)),.inl (by rw[Q];omega)⟩
  ·obtain⟨p,a,b,rfl,U,ha,hb,rfl⟩:=y;rw[Q]at hi;exact yl C J i r I p a b hi f s2 U (ha j (aB.of (s2 _ _ (f _ _ D)))) (hb l (aB.of (s2 _ _ (f _ _ E))))
 ·have L:DR K m.G (.t g) u:=R2.drop.top;have M:DR K m.G (.t n) v:=R2.top;unfold DR at L M;obtain⟨b1,j,rfl,D,C⟩:=L;obtain⟨b2,l,rfl,E,J⟩:=M;have l1:=C.len;have l2:=J.len;refine⟨b1,b2,rfl,.inr ⟨⟨j,bN.same O.wf.s D⟩,⟨l,bN.same O.wf.s E⟩,k _ _ _ N m c O ⟨fun i G2 H2 hi f s2=>?_,fun G2 H2 f s2=>?_,fun i r I x H3 hi f s2 y=>?_⟩⟩⟩
  ·rw[Q]at hi;exact⟨j,l,j[i],l[i],bN.same (f.trans s2) D,bN.same (f.trans s2) E,by simp[l1,hi],by simp[l2,<-hl,hi]⟩
  ·exact⟨j,l,bN.same (f.trans s2) D,bN.same (f.trans s2) E,.inl (by rw[Q];omega)⟩
  ·obtain⟨p,a,b,rfl,U,ha,hb,rfl⟩:=y;rw[Q]at hi;exact yl C J i r I p a b hi f s2 U (ha j (bN.same (f.trans s2) D)) (hb l (bN.same (f.trans s2) E))
end
mutual
def DT.sm:DT->Bool
 |.k _=>true
 |.t l=>decide (l.length<=1000000) && DT.sms l
 |.s l=>decide (l.length<=1000000) && DT.sms l
def DT.sms:List DT->Bool
 |[]=>true
 |a::r=>DT.sm a && DT.sms r
end
theorem zQ:∀{l:List DT}{d:DT},DT.sms l=true->d∈l->DT.sm d=true
 |a::r,d,h,e=>by
  have f:(DT.sm a && DT.sms r)=true:=h;rw[h_]at f;rcases bY.mp e with e|e
  ·rw[e];exact f.1
  ·exact zQ f.2 e
def fq(K:Za)(n:Nat):Sp:=G4 2 fun xs h φ=>h=[]/\∃d e,xs=[nL K d,nL K e]/\d.depth<=n/\e.depth<=n/\n<=8/\DT.sm d=true/\φ (.im (bv (decide (d=e)))) []
theorem zD:∀{f g:List DT},f.length=g.length->((f.zip g).map fun x=>decide (x.1=x.2)).all id=decide (f=g)
 |[],[],_=>rfl
 |[],_::_,e=>by cases e
 |_::_,[],e=>by cases e
 |d::f,e::g,h=>by
  rw[List.zip_cons_cons,bo,List.all_cons,zD (by simpa using h)];rw[pc,h_];show(decide (d=e)=true/\_)↔_;rw[decide_eq_true_iff,decide_eq_true_iff,decide_eq_true_iff];exact⟨fun⟨a,b⟩=>by rw[a,b],fun z=>by injection z with a b;exact⟨a,b⟩⟩
theorem pJ{n:Nat}{l:List DT}{d:DT}(h:DT.depths l<=n)(e:d∈l):d.depth<=n:=by
 obtain⟨i,hi,rfl⟩:=List.getElem_of_mem e;exact rW h (jt hi)
theorem tz{K:Za}{n:Nat}{i:Sp}(h:∀m,n=m+1->i=fq K m){φ:Sl->SH->Prop}{ds es:List DT}{d e:DT}(g:(d=.s ds/\e=.s es)∨(d=.t ds/\e=.t es))(M:DT.depths ds+1<=n)(N:DT.depths es+1<=n)(O:n<=8)(v:ds.length<=1000000/\DT.sms ds=true)(c:φ (.im (bv (decide (ds=es)))) []):
  SS [nL K d,nL K e] [] (av (bS (ba (aM Dy (cJ (dJ K) (aK V0)) (cJ (dJ K) (aK V1)))) (bb (tC (.bl false))) (aZ)) (bb (cJ (AY K) (az (de 2 [] (wW K (aF V0 V1)) (jO K 2 (bu U0 (bu U1 (ji)))) (ln) (aL i (aF V0 V1))) bA)))) ⟨fun _ j=>φ (.im nv) j,φ,fun _ _=>False,fun _ _=>False⟩:=by
 have B:∃b,C2 K [] (nL K d) b (ds.map (nL K))/\C2 K [] (nL K e) b (es.map (nL K)):=by
  rcases g with⟨rfl,rfl⟩|⟨rfl,rfl⟩
  ·exact⟨true,.s,.s⟩
  ·exact⟨false,.t,.t⟩
 obtain⟨b,C,D⟩:=B;obtain⟨k,rfl⟩:∃k,n=k+1:=⟨n-1,by omega⟩;have E:=h k rfl;subst E;refine dH <| gq <| DZ <| FI (K:=K) <| CK <| bz rfl ⟨_,_,C,CK <| bz rfl ⟨_,_,D,_,_,rfl,rfl,_,rfl,?_⟩⟩;rw[ao,ao];refine ifB (fun z=>?_) (fun z=>?_)
 ·refine kz <| w_ ?_;have:decide (ds=es)=false:=zzr0 fun y=>by rw[y]at z;simp at z
  rw[this]at c;exact c
 ·have G:(ds.length:Int)=es.length:=by simpa using z
  have l:ds.length=es.length:=by omega
  refine ii <| kz <| FK <| DX (K:=K) <| FN (K:=K) <| bz rfl <| bz rfl ⟨ds,es,?_,l,yV (xs:=ds.zip es) (p:=fun _=>true) (f:=fun x=>bv (decide (x.1=x.2))) ⟨?_,fun x hx=>?_,.inr (.inl ⟨(ds.zip es).map fun x=>bv (decide (x.1=x.2)),?_,(ds.zip es).map fun x=>decide (x.1=x.2),?_,?_⟩)⟩⟩
  ·rcases g with⟨rfl,rfl⟩|⟨rfl,rfl⟩
   ·exact .inl ⟨rfl,rfl⟩
   ·exact .inr ⟨rfl,rfl⟩
  ·rw[List.length_zip];omega
  ·obtain⟨o,q⟩:=x;have u:=(qP hx).1;have H:=(qP hx).2;refine D_ (K:=K) .w rfl <| xf <| Ak <| xf <| Ak <| D0 <| FL ⟨rfl,fun _=>?_⟩;refine DY (K:=K) <| Al <| bz rfl <| Al <| bz rfl <| FO ⟨by simp[plain],Cn.imp (cn_h (φ:=fun r _=>r=.im (bv (decide (o=q)))) ⟨rfl,o,q,rfl,pJ (by omega) u,pJ (by omega) H,by omega,zQ v.2 u,rfl⟩) fun r j e=>.inl ⟨_,e,e⟩⟩
  ·have I:(ds.zip es).filter (fun _=>true)=ds.zip es:=List.filter_eq_self.mpr fun _ _=>rfl;rw[I];generalize(ds.zip es).map (fun x=>bv (decide (x.1=x.2)))=L
   induction L with
   |nil=>exact .nil
   |cons a L J=>exact .cons J
  ·rw[j9];rfl
  ·rw[zD l];exact c
theorem wx{K:Za}{n:Nat}{g:Sp}(f:∀m,n=m+1->g=fq K m){h:List V}{H:Hp}{Q:VK}{E:XK}(q:fq K n h H Q E):wc K g (bF Q) (start pK h) H:=by
 refine body q ?_;rintro _ _ φ ⟨rfl,d,e,rfl,o,p,u,v,c⟩;refine dH <| gq <| jP <| FJ <| bz rfl ⟨_,.d,_,rfl,bj <| ii ?_⟩;have no:¬d=e->φ (.im (bv false)) []:=fun z=>by rw[zzr0 z]at c;exact c
 cases e with
 |k a =>
  cases a with
  |inl i =>
   refine dH <| gq <| jP <| cW <| bz rfl ⟨_,false,rfl,rfl,_,rfl,bj <| ii ?_⟩;refine dH <| gq <| jP <| cW <| bz rfl ⟨_,false,rfl,rfl,_,rfl,bj <| ii ?_⟩;refine dH <| gq <| jP <| cW <| bz rfl ⟨_,true,rfl,rfl,_,rfl,bB <| kz <| vq <| cW <| bz rfl ?_⟩;cases d with
   |k b =>
    cases b with
    |inl j=>exact⟨_,true,rfl,rfl,_,rfl,bB <| vq <| DW <| cW <| bz rfl ⟨_,false,rfl,rfl,_,rfl,_,rfl,bB <| CL <| bz rfl <| bz rfl ⟨_,_,.d,.d,cf _,cf _,c⟩⟩⟩
    |inr j=>exact⟨_,false,rfl,rfl,_,rfl,bj <| no nofun⟩
   |t l=>exact⟨_,false,rfl,rfl,_,rfl,bj <| no nofun⟩
   |s l=>exact⟨_,false,rfl,rfl,_,rfl,bj <| no nofun⟩
  |inr i =>
   refine dH <| gq <| jP <| cW <| bz rfl ⟨_,false,rfl,rfl,_,rfl,bj <| ii ?_⟩;refine dH <| gq <| jP <| cW <| bz rfl ⟨_,true,rfl,rfl,_,rfl,bB <| kz <| vq <| cW <| bz rfl ?_⟩;cases d with
   |k b =>
    cases b with
    |inl j=>exact⟨_,false,rfl,rfl,_,rfl,bj <| no nofun⟩
    |inr j=>exact⟨_,true,rfl,rfl,_,rfl,bB <| CL <| bz rfl <| bz rfl ⟨_,_,.d,.d,cf _,cf _,c⟩⟩
   |t l=>exact⟨_,false,rfl,rfl,_,rfl,bj <| no nofun⟩
   |s l=>exact⟨_,false,rfl,rfl,_,rfl,bj <| no nofun⟩
 |t le =>
  refine dH <| gq <| jP <| cW <| bz rfl ⟨_,false,rfl,rfl,_,rfl,bj <| ii ?_⟩;refine dH <| gq <| jP <| cW <| bz rfl ⟨_,false,rfl,rfl,_,rfl,bj <| ii ?_⟩;refine dH <| gq <| jP <| cW <| bz rfl ⟨_,false,rfl,rfl,_,rfl,bj <| ii ?_⟩;refine dH <| gq <| vv <| jP <| cW <| bz rfl ⟨_,true,rfl,rfl,_,rfl,bB <| CM <| jP <| cW <| bz rfl ?_⟩;cases d with
  |k b=>cases b<;>exact⟨_,false,rfl,rfl,_,rfl,bB <| kz <| w_ <| no nofun⟩
  |s l=>exact⟨_,false,rfl,rfl,_,rfl,bB <| kz <| w_ <| no nofun⟩
  |t ld =>
   refine⟨_,true,rfl,rfl,_,rfl,bj <| ii <| dH <| gq <| vv <| jP <| cW <| bz rfl ⟨_,false,rfl,rfl,_,rfl,bj <| bj <| ii ?_⟩⟩;have r:=tz (K:=K) (φ:=φ) (ds:=ld) (es:=le) f (.inr ⟨rfl,rfl⟩) o p u ?_ ?_
   ·exact r
   ·have:(decide (ld.length<=1000000) && DT.sms ld)=true:=v;rw[h_]at this;exact⟨of_decide_eq_true this.1,this.2⟩
   ·have:decide (DT.t ld=DT.t le)=decide (ld=le):=by
     rw[pc,decide_eq_true_iff,decide_eq_true_iff];exact⟨fun z=>by injection z,fun z=>by rw[z]⟩
    rw[this]at c;exact c
 |s le =>
  refine dH <| gq <| jP <| cW <| bz rfl ⟨_,false,rfl,rfl,_,rfl,bj <| ii ?_⟩;refine dH <| gq <| jP <| cW <| bz rfl ⟨_,false,rfl,rfl,_,rfl,bj <| ii ?_⟩;refine dH <| gq <| jP <| cW <| bz rfl ⟨_,false,rfl,rfl,_,rfl,bj <| ii ?_⟩;refine dH <| gq <| vv <| jP <| cW <| bz rfl ⟨_,false,rfl,rfl,_,rfl,bj <| bj <| ii ?_⟩;refine dH <| gq <| vv <| jP <| cW <| bz rfl ⟨_,true,rfl,rfl,_,rfl,bB <| CM <| jP <| cW <| bz rfl ?_⟩;cases d with
  |k b=>cases b<;>exact⟨_,false,rfl,rfl,_,rfl,bB <| kz <| w_ <| no nofun⟩
  |t l=>exact⟨_,false,rfl,rfl,_,rfl,bB <| kz <| w_ <| no nofun⟩
  |s ld =>
   refine⟨_,true,rfl,rfl,_,rfl,bj <| ii ?_⟩;have r:=tz (K:=K) (φ:=φ) (ds:=ld) (es:=le) f (.inl ⟨rfl,rfl⟩) o p u ?_ ?_
   ·exact r
   ·have:(decide (ld.length<=1000000) && DT.sms ld)=true:=v;rw[h_]at this;exact⟨of_decide_eq_true this.1,this.2⟩
   ·have:decide (DT.s ld=DT.s le)=decide (ld=le):=by
     rw[pc,decide_eq_true_iff,decide_eq_true_iff];exact⟨fun z=>by injection z,fun z=>by rw[z]⟩
    rw[this]at c;exact c
theorem BS(a b:Str):(a++b).length=a.length+b.length:=by rw[bH,bH,bH,qg,aY]
def mV(C:Addr):Sp:=fun vs H Q _=>∃(x dx o4:Addr) (fs:List (Str×V)) (ts:Ze),vs=[.ref x]/\H x=some (.ins C dx fs)/\lk "own_doors" fs=some (.ref o4)/\H o4=some (.lst (ts.map V.ref))/\∀l,H l=none->Q (.ref l) (upd H l (.lst (ts.map V.ref)))
theorem B3{K:Za}{C:Addr}(M:MC K C){a:List V}{H:Hp}{Q:VK}{E:XK}(h:mV C a H Q E):pO K (bF Q) (start p6 a) H:=by
 obtain⟨x,f,e,fs,l,rfl,g,i,j,k⟩:=h;exact⟨_,rfl,x,C,f,fs,.ref e,rfl,g,M.cls,M.a4,i,.inl ⟨e,_,rfl,.inl (aB.of j),k⟩⟩
def sy(K:Za):TS :=
 bb (tC (.str "abcdefghijklmnopqrstuvwxyz"))
def sS:List Str:=[]
def xU(K:Za)(sp_law_take:Sp)(sp_law_letters:Sp):TS :=
 av (aR (aM dz (tC (.int 1)) (aL sp_law_take (aF V0 (tC (.int 8))))) U1)
 (av (bS (ba (aM u5 (aL sp_law_take (aF V0 (tC (.int 12)))) (tC (.int 0)))) (aR (aM (eJ K) (gS (az (tC (.int 0)) (gR (tC (.int 9)) (tC (.int 10)) (tC (.int 30))))) (aL sp_law_take (aF V0 (tC (.int 4))))) U1) (aZ))
 (av (aR (yf K "str" (zV K) (tC (.str "")) (az (de 1 [0] (rQ (aK V1)) U0 (ln) (aM uZ (aL sp_law_letters bA) (aL sp_law_take (aF V1 (tC (.int 26)))))) bA)) U2)
 (av (bS (oo (ba (aM Dy V2 (tC (.str "")))) (ba (aM u5 (aL sp_law_take (aF V0 (tC (.int 9)))) (tC (.int 0))))) (av (aR (tC (.str " !\"#$&'()*+,-./0123456789:;<=>?@ABCDEFGHIJKLMNOPQRSTUVWXYZ[\\]^_{|}~\n\t")) U3)
 (av (aR (aL sp_law_take (aF V0 V1)) U4)
 (aR (aM tF (aM tF (x8 wG V2 (dY) (gk V4)) (aM uZ V3 (aL sp_law_take (aF V0 (cJ (dJ K) (aK V3)))))) (x8 wG V2 (gk (aM dz V4 (tC (.int 1)))) (dY))) U2))) (aZ))
 (bb V2))))
def y9:List Str:=["pen","many","word","others","at"]
def ol(K:Za):TS :=
 av (dF (yg K (gR V0 V1 V2)))
 (av (zS K V0 V1 "part")
 (zS K V0 V2 "number"))
def o7:List Str:=["self","part","number"]
def uH(C:Addr)(sp_i:Sp)(E:XK):TS:=bS (tB (BO V1)) (x9 C sp_i E (aF V0 V1)) (aZ)

def wd(K:Za)(sp_law_still_on:Sp):TS :=
 av (aR (de 1 [] (dR K V1) U0 (ba (aM (pV K) (aM (oy K) V0 (tC (.int 1))) (eV (aK (tC (.str "still")))))) V0) U2)
 (av (iM (nu K (aK V0)) (jO K 2 (bu U3 (bu U4 (ji)))) (av (aR (de 1 [4] (dR K V2) U0 (ba (aM u5 (aM (oy K) V0 (tC (.int 0))) V1)) (aM (oy K) V0 (tC (.int 2)))) U5)
 (bS (ba (aM (l_ K false) V4 (aL sp_law_still_on (aF V2 V5)))) (bb V3) (aZ))))
 (bb (tC .non)))
def xA:List Str:=["rooms","doors","stills","number","room","behind"]
def wb(K:Za)(sp_law_same:Sp):TS :=
 av (bS (tB (uL V1)) (bb (uL V0)) (aZ))
 (av (bS (tB (cJ (gr K) (aF V1 (tC (.ty "bool"))))) (bb (fF (cJ (gr K) (aF V0 (tC (.ty "bool")))) (aM u5 V0 V1))) (aZ))
 (av (bS (tB (cJ (gr K) (aF V1 (tC (.ty "str"))))) (bb (fF (cJ (gr K) (aF V0 (tC (.ty "str")))) (aM (pV K) V0 V1))) (aZ))
 (av (bS (tB (cJ (gr K) (aF V1 (tC (.ty "int"))))) (bb (fF (cJ (gr K) (aF V0 (tC (.ty "int")))) (fF (zN (cJ (gr K) (aF V0 (tC (.ty "bool"))))) (aM (pV K) V0 V1)))) (aZ))
 (av (bS (oo (tB (cJ (gr K) (aF V1 (tC (.ty "tuple"))))) (pP (tB (cJ (gr K) (aF V0 (tC (.ty "tuple"))))))) (bb (tC (.bl false))) (aZ))
 (av (bS (oo (tB (cJ (gr K) (aF V1 (tC (.ty "list"))))) (pP (tB (cJ (gr K) (aF V0 (tC (.ty "list"))))))) (bb (tC (.bl false))) (aZ))
 (av (bS (ba (aM Dy (cJ (dJ K) (aK V0)) (cJ (dJ K) (aK V1)))) (bb (tC (.bl false))) (aZ))
 (bb (cJ (AY K) (az (de 2 [] (wW K (aF V0 V1)) (jO K 2 (bu U0 (bu U1 (ji)))) (ln) (aL sp_law_same (aF V0 V1))) bA)))))))))



structure XC(K:Za)(Cx:Addr):Prop where
 cls:jQ K Cx
 p:cG K Cx "part"
 n:cG K Cx "number"
 self:t9 K (.ref Cx) (.ref Cx)=some true
structure Gd(Cx:Addr)(H:Hp)(a:Addr)(x y:V):Prop where
 at_:∃d,H a=some (.ext (gK a Cx (some d)))/\H d=some (.ext (iC d [("part",x),("number",y)]))
inductive mQ(Cx:Addr)(vs:List V)(H:Hp)(Q:VK)(E:XK):Prop
 |mk (a:Addr) (x y:V):(vs=[.ref a,x,y])->(H a=some (.ext (cu a Cx none)))->(∀d H',H' a=some (.ext (cu a Cx (some d)))->H' d=some (.ext (iC d [("part",x),("number",y)]))->d≠a->(∀b o,H b=some o->b≠a->H' b=some o)->Q .non H')->mQ Cx vs H Q E
theorem BU{K:Za}{Cx:Addr}(M:XC K Cx){i:List V}{H:Hp}{Q:VK}{E:XK}(h:mQ Cx i H Q E):ol K (bF Q) (start o7 i) H:=by
  obtain⟨a,x,y,rfl,j,k⟩:=h;refine⟨_,rfl,_,rfl,_,rfl,a,Cx,none,[x,y],rfl,j,M.cls,(by show 2<=am;decide),?_⟩;refine⟨_,rfl,_,rfl,a,Cx,rfl,M.cls,M.p,.inl ⟨j,fun d l f=>?_⟩⟩;have m:upd (upd H d (.ext (iC d [("part",x)]))) a (.ext (cu a Cx (some d))) a=some (.ext (cu a Cx (some d))):=aa;have q:upd (upd H d (.ext (iC d [("part",x)]))) a (.ext (cu a Cx (some d))) d=some (.ext (iC d [("part",x)])):=by rw[ai f,aa]
  refine⟨_,rfl,_,rfl,a,Cx,rfl,M.cls,M.n,.inr ⟨d,_,m,q,(by show 1<1000;decide),?_⟩⟩;refine k d _ (by rw[ai f.symm];exact m) ?_ f fun b o e r=>?_
  · rw[aa]
    have:cD ("number":Str) y [(("part":Str),x)]=[(("part":Str),x),(("number":Str),y)]:=by
      have ne:(("part":Str)==("number":Str))=false:=by decide +kernel
      simp only[cD,ne]
      first | rfl | (have g:¬(("part":Str)=("number":Str)):=by decide +kernel
                     simp[g])
    rw[this]
  · rw[ai (fun z=>by rw[z,l]at e;cases e),ai r,ai (fun z=>by rw[z,l]at e;cases e)]
    exact e
inductive cM(Cx:Addr)(vs:List V)(H:Hp)(Q:VK)(E:XK):Prop
 |mk (x y:V):(vs=[x,y])->(((y=.non/\Q .non H)∨(∃n:Int,y=.int n/\∀a H',Gd Cx H' a x y->ae H H'->E (.ref Cx) (some a) H')))->cM Cx vs H Q E
theorem sH{Cx:Addr}{i:List V}{H:Hp}{Q:VK}{E:XK}(h:cM Cx i H Q E):uH Cx (mQ Cx) E (bF Q) (start xy i) H:=by
 obtain⟨x,y,rfl,h⟩:=h;refine⟨_,rfl,_,rfl,?_⟩;rcases h with⟨rfl,k⟩|⟨n,rfl,k⟩
 ·have e:(!decide (V.non=V.non))=false:=by rw[zzr1 rfl];rfl
  rw[e];exact bj k
 ·have e:(!decide (V.int n=V.non))=true:=by rw[zzr0 (by intro z;cases z)];rfl
  rw[e];refine bB ?_;refine⟨_,rfl,_,rfl,(by show 2<=am;decide),fun a j=>?_⟩;refine⟨a,x,.int n,rfl,aa,fun d r l m p q=>⟨rfl,some d,l,k a _ ⟨d,aa,by rw[ai p];exact m⟩ fun b o f=>?_⟩⟩;have g:b≠a:=fun z=>by rw[z,j]at f;cases f
  rw[ai g];exact q b o (by rw[ai g];exact f) g
def i7(J0 J1 J2:Zb)(ds:List ar):Option (Str×Nat) :=
 match br J0 4 []with
 |some n=>some ("asks",n)
 |none=>match br J1 4 J0 with
  |some n=>some ("says",n)
  |none=>match br J2 150 []with
   |some n=>some ("rooms",n)
   |none=>(C6 J2 (hW J0 J1) 0 [] ds).map fun n=>("doors",n)
structure F0(J0 J1 J2:Zb)(ds:List ar):Prop where
 a:J0.length<=100
 s:J1.length<=100
 r:J2.length<=900
 d:ds.length<=9000
 wa:∀w∈J0,w.length<=1000
 ws:∀w∈J1,w.length<=1000
 wr:∀w∈J2,w.length<=1000
inductive dI(Cx:Addr)(vs:List V)(H:Hp)(Q:VK)(E:XK):Prop
 |mk (l1 l2 l3 l4:Addr) (ts:Ze) (J0 J1 J2:Zb) (ds:List ar):(vs=[.ref l1,.ref l2,.ref l3,.ref l4])->(Lists H l1 l2 l3 l4 ts J0 J1 J2 ds)->(F0 J0 J1 J2 ds)->((i7 J0 J1 J2 ds=none->∀H',ae H H'->Q .non H'))->(∀p n,i7 J0 J1 J2 ds=some (p,n)->∀a H',Gd Cx H' a (.str p) (.int (n:Nat))->ae H H'->E (.ref Cx) (some a) H')->dI Cx vs H Q E
theorem rE{Cx:Addr}{x:Str}{o:Option Nat}{H:Hp}{Q:VK}{E:XK}(f:o=none->Q .non H)(g:∀n,o=some n->∀a e,Gd Cx e a (.str x) (.int (n:Nat))->ae H e->E (.ref Cx) (some a) e):
  yR (cM Cx) E [.str x,oV o] H Q E0:=by
 cases o with
 |none=>exact⟨_,_,rfl,.inl ⟨rfl,f rfl⟩⟩
 |some n=>exact⟨_,_,rfl,.inr ⟨n,rfl,g n rfl⟩⟩
theorem rj{K:Za}{Cx:Addr}{C:List V}{H:Hp}{Q:VK}{E:XK}(h:dI Cx C H Q E):
  uG K (yR (cM Cx) E) (sp_first_wrong_door K) (sp_door_signs K) (sp_first_wrong_name K) (bF Q) (start vK C) H:=by
 obtain⟨t,D,G,M,N,l,u,I,O,rfl,L,F,T,m⟩:=h;have z1:=F.a;have z2:=F.s;have z3:=F.r;have z4:=F.d;refine⟨_,rfl,(by show 0<=am;decide),fun e j=>⟨t,e,l,[],4,rfl,aB.of (kp L.a1 j),aB.of aa,by simp;omega,F.wa,fun H1 U=>?_⟩⟩;have o:=(ae.new j).trans U;refine rE (fun i=>?_) fun n i a f g s=>m "asks" n (by unfold i7;rw[i]) a f g (o.trans s);refine⟨_,rfl,_,rfl,D,t,u,l,4,rfl,aB.of (o _ _ L.a2),aB.of (o _ _ L.a1),by omega,F.ws,fun H2 Y=>?_⟩;have v:=o.trans Y;refine rE (fun k=>?_) fun n k a f g s=>m "says" n (by unfold i7;rw[i,k]) a f g (v.trans s);refine⟨_,rfl,(by show 0<=am;decide),fun e j=>⟨G,e,I,[],150,rfl,aB.of (kp (v _ _ L.a3) j),aB.of aa,by simp;omega,F.wr,fun H3 s3=>?_⟩⟩;have p:=(v.trans (ae.new j)).trans s3;refine rE (fun q=>?_) fun n q a f g s=>m "rooms" n (by unfold i7;rw[i,k,q]) a f g (p.trans s);refine⟨_,rfl,_,rfl,_,rfl,_,rfl,t,D,l,u,rfl,p _ _ L.a1,p _ _ L.a2,by omega,by omega,fun sl xs H4 hx s4 x=>?_⟩;have y:=p.trans s4;have z:=L.same y;refine⟨M,G,sl,N,O,I,xs,hW l u,rfl,z.a4,z.ds,z.a3,by omega,x,hx,by omega,fun H5 J=>?_⟩;refine rE (fun B=>T (by unfold i7;rw[i,k,q,B];rfl) H5 (y.trans J)) fun n B a f g s=>m "doors" n (by unfold i7;rw[i,k,q,B];rfl) a f g ((y.trans J).trans s)
theorem cL.few'{J0 a e:Zb}{f:List ar}(m:cL J0 a e f):F0 J0 a e f :=
 ⟨by have:=m.asks4;omega,by have:=m.says4;omega,by have:=m.rooms26;omega,by have:=m.few;omega,hU m.okA,hU m.okS,hU m.okR⟩
def oH(J0 J1 J2:Zb)(ds:List ar):List DT:=[.s (J0.map bW),.s (J1.map bW),.s (J2.map bW),.s (ds.map jk)]
theorem vw(e f g:Zb)(a:List ar):DT.depths (oH e f g a)<=3:=by
 have h:DT.depths (a.map jk)<=2:=by
  induction a with
  |nil=>exact cf _
  |cons x xs i=>rw[bo];show max (DT.depth (jk x)) (DT.depths _)<=2;rw[nD];omega
 unfold oH;show max (DT.depths (e.map bW)+1) (max (DT.depths (f.map bW)+1) (max (DT.depths (g.map bW)+1) (max (DT.depths (a.map jk)+1) 0)))<=3;rw[bR,bR,bR];omega
abbrev abc:Str:="abcdefghijklmnopqrstuvwxyz"
inductive ij (vs:List V)(H:Hp)(Q:VK)(E:XK):Prop
 |mk (u:Unit):(vs=[])->(Q (.str abc) H)->ij  vs H Q E
theorem ym{K:Za}{a:List V}{H:Hp}{Q:VK}{E:XK}(h:ij a H Q E):sy K (bF Q) (start sS a) H:=by
 obtain⟨_,rfl,k⟩:=h;exact k
theorem len0{w:Str}:w.length=0↔w=("":Str):=by
 constructor
 ·intro h;refine zP ?_;rw[bH]at h;rw[List.length_eq_zero_iff.mp h]
  rfl
 ·intro h;rw[h];decide +kernel
inductive mR (vs:List V)(H:Hp)(Q:VK)(E:XK):Prop
 |mk (p c:Addr):(vs=[.ref p])->(eW H p c)->(∀(w:Str) (H':Hp),w.length<=30->eW H' p c->cv p H H'->Q (.str w) H')->mR  vs H Q E
abbrev DN:Str:=" !\"#$&'()*+,-./0123456789:;<=>?@ABCDEFGHIJKLMNOPQRSTUVWXYZ[\\]^_{|}~\n\t"
theorem k6:DN.length=69:=by decide +kernel
theorem Dp{K:Za}{v:List V}{H:Hp}{Q:VK}{E:XK}(h:mR v H Q E):xU K cw ij (bF Q) (start y9 v) H:=by
 obtain⟨p,c,rfl,hp,k⟩:=h;refine⟨_,rfl,bV hp (by decide) (by decide) fun r H1 h0 y ak J=>⟨_,_,rfl,rfl,?_⟩⟩;refine⟨_,rfl,bV ak (by decide) (by decide) fun r2 H2 a0 a1 q L=>?_⟩;have M:∀(f:Nat) (G:Hp),f<=30->eW G p c->cv p H G->(av (aR (yf K "str" (zV K) (tC (.str "")) (az (de 1 [0] (rQ (aK V1)) U0 (ln) (aM uZ (aL ij bA) (aL cw (aF V1 (tC (.int 26)))))) bA)) U2)
  (av (bS (oo (ba (aM Dy V2 (tC (.str "")))) (ba (aM u5 (aL cw (aF V0 (tC (.int 9)))) (tC (.int 0))))) (av (aR (tC (.str DN)) U3)
  (av (aR (aL cw (aF V0 V1)) U4)
  (aR (aM tF (aM tF (x8 wG V2 (dY) (gk V4)) (aM uZ V3 (aL cw (aF V0 (cJ (dJ K) (aK V3)))))) (x8 wG V2 (gk (aM dz V4 (tC (.int 1)))) (dY))) U2))) (aZ))
  (bb V2))) (bF Q) [some (.ref p),some (.int f),none,none,none] G:=by
  intro f G hm t s;refine⟨rfl,_,rfl,f,rfl,by omega,by omega,fun l B=>?_⟩;have N:H l=none:=by
   obtain⟨op,al⟩:=t.pen;exact s.free al B
  refine r8 (lo:=0) (n:=((f:Int)).toNat) (fun i v H'=>∃o:List Nat,v=o.map (fun c=>V.str ⟨#[c]⟩)/\o.length=i/\eW H' p c/\cv p G H'/\H' l=some (.lst v))
   ⟨[],rfl,rfl,t.ex (ae.new B),cv.new B,aa⟩ (fun i v H' _ zq=>by obtain⟨_,_,_,_,_,h⟩:=zq;exact h) ?_ ?_
  rotate_left
  ·rintro i v H' hi ⟨o,rfl,g,an,ap,aq⟩;have u:=hp.nep N;have as:=hp.nec N;refine gN (xK ?_);refine⟨(),rfl,_,rfl,bV an (by decide) (by decide) fun r H2 h0 y q C=>⟨_,r,_,rfl,rfl,vH,y3 h0 y,?_⟩⟩;have aC:=C l _ aq u.symm;refine⟨aC,by rw[ao,g];exact aG (by omega),pW hi ⟨o++[97+r.toNat],by rw[aN];rfl,by rw[aY,g];rfl,q.upd u as,?_,aa⟩⟩;intro b o' e nb;rw[ai (ah e B)];exact C b o' (ap b o' e nb) nb
  ·rintro v H4 ⟨o,rfl,g,O,T,aS⟩;refine⟨"",l,o.map fun c=>(⟨#[c]⟩:Str),rfl,rfl,aB.of (by rw[aS,j9];rfl),?_,?_⟩
   ·have e0:("":Str).length=0:=by decide +kernel
    rw[e0,Nat.mul_zero,j9];have:∀o:List Nat,(o.map ((fun x=>Str.length x) ∘ fun c=>(⟨#[c]⟩:Str))).sum=o.length:=by
     intro o
     induction o with
     |nil=>rfl
     |cons c o ih=>rw[bo,List.sum_cons,ih,d7];show 1+_=_;omega
    rw[this,g];omega
   have hb:=rP o;generalize qz "" (o.map fun c=>(⟨#[c]⟩:Str))=iJ at hb ⊢;have wl:iJ.length=f:=by rw[bH,hb,g];omega
   have U:=s.trans T;refine⟨_,rfl,rfl,_,rfl,?_⟩;have done:∀H',eW H' p c->cv p H H'->Q (.str iJ) H':=fun H' y Y=>k iJ H' (by omega) y Y;have ed:(!decide (V.str iJ=V.str ("":Str)))=!decide (iJ=("":Str)):=by
    congr 1;by_cases e:iJ=("":Str)
    ·rw[zzr1 e,zzr1 (by rw[e])]
    ·rw[zzr0 e,zzr0 (fun z=>e (by injection z))]
   rw[ed];refine iy (fun y=>?_) (fun y=>?_)
   ·have n0:0<f:=by
     rw[<-wl];have:¬(iJ=("":Str)):=fun z=>by rw[zzr1 z]at y;cases y
     have:=mt len0.mp this;omega
    refine⟨_,rfl,bV O (by decide) (by decide) fun I H5 b0 b1 ab aT=>⟨rfl,_,rfl,?_⟩⟩;have D:=U.trans aT;refine iy (fun Y=>?_) (fun Y=>?_)
    ·refine⟨_,rfl,_,rfl,bV ab (by omega) (by omega) fun a9 H6 c0 c1 aX a4=>?_⟩;obtain⟨a,rfl⟩:=gC c0;have wz:iJ.length<=am:=eX (aG (by omega));refine⟨_,rfl,_,rfl,_,rfl,iJ,rfl,wz,?_⟩;refine⟨_,rfl,_,rfl,_,rfl,.inr ⟨DN,rfl,(by rw[k6];decide),bV aX (by rw[k6];decide) (by rw[k6];decide) fun r4 H7 d0 d1 a5 a6=>?_⟩⟩;obtain⟨j,rfl⟩:=gC d0;rw[k6]at d1;obtain⟨ch,a7⟩:∃ch,DN.cps.toList[j]?=some ch:=⟨_,jt (by rw[<-bH,k6];omega)⟩;refine⟨_,_,ch,rfl,rfl,(by rw[k6];decide),c_ a7,?_⟩;have la:(oW iJ none (some (a:Int))).length=min a f:=by rw[bH,yT,aQ,<-bH,wl]
     have l1:(⟨#[ch]⟩:Str).length=1:=rfl;refine⟨_,_,rfl,rfl,(by rw[la,l1];exact eX (aG (by omega))),?_⟩;refine⟨_,rfl,_,rfl,_,_,rfl,rfl,_,rfl,iJ,rfl,wz,?_⟩;have lb:(oW iJ (some ((a:Int)+1)) none).length=f-(a+1):=by
      have:=xi iJ (a+1);have e:(((a+1:Nat)):Int)=(a:Int)+1:=by omega
      rw[e]at this;rw[bH,this,fh,<-bH,wl]
     refine⟨_,_,rfl,rfl,(by rw[BS,la,l1,lb];exact eX (aG (by omega))),?_⟩;refine⟨_,rfl,k _ H7 (by rw[BS,BS,la,l1,lb];omega) a5 ((D.trans a4).trans a6)⟩
    ·exact⟨_,rfl,done H5 ab D⟩
   ·exact bj ⟨_,rfl,done H4 O U⟩
 refine⟨rfl,_,rfl,?_⟩;obtain⟨m,rfl⟩:=gC h0;refine iy (fun Y=>?_) (fun Y=>?_)
 ·refine⟨(by show 4<=am;decide),fun l B=>⟨_,rfl,bV (q.ex (ae.new B)) (by decide) (by decide) fun I G c0 c1 t s=>?_⟩⟩;have u:=q.nep B;have a8:=s l _ aa u.symm;obtain⟨n,en,hn⟩:∃n:Nat,y0 [V.int 0,.int 9,.int 10,.int 30] I=some (.int n)/\n<=30:=by
   have:I=0∨I=1∨I=2∨I=3:=by omega
   rcases this with rfl|rfl|rfl|rfl
   ·exact⟨0,rfl,by decide⟩
   ·exact⟨9,rfl,by decide⟩
   ·exact⟨10,rfl,by decide⟩
   ·exact⟨30,rfl,by decide⟩
  exact⟨l,_,I,_,rfl,rfl,aB.of a8,en,M n G hn t (((J.trans L).trans (cv.new B)).trans s)⟩
 ·have:=M (1+m) H2 (by omega) q (J.trans L);have e:((1:Int)+(m:Int))=(((1+m:Nat)):Int):=by omega
  rw[<-e]at this;exact this
theorem Lists.dr{K:Za}{H:Hp}{r a e f g:Addr}{m:Ze}{i j k:Zb}{l:List ar}(L:Lists H a e f g m i j k l)(h:H r=some (.lst [.ref a,.ref e,.ref f,.ref g])):DR K H (.s (oH i j k l)) (.ref r):=by
 unfold DR;refine⟨r,_,rfl,h,?_⟩;unfold oH;unfold DRs;refine⟨_,_,rfl,by unfold DR;exact⟨a,_,rfl,L.a1,kM _⟩,?_⟩;unfold DRs;refine⟨_,_,rfl,by unfold DR;exact⟨e,_,rfl,L.a2,kM _⟩,?_⟩;unfold DRs;refine⟨_,_,rfl,by unfold DR;exact⟨f,_,rfl,L.a3,kM _⟩,?_⟩;unfold DRs;refine⟨_,_,rfl,by unfold DR;exact⟨g,_,rfl,L.a4,k_ L.ds⟩,?_⟩;unfold DRs
 rfl
theorem Fi:∀a:List Str,DT.sms (a.map bW)=true
 |[]=>rfl
 |w::a=>by
  rw[bo];show(DT.sm (bW w) && DT.sms (a.map bW))=true;rw[Fi a];rfl
theorem smS{a:Zb}(h:a.length<=1000000):DT.sm (.s (a.map bW))=true:=by
 show(decide ((a.map bW).length<=1000000) && DT.sms (a.map bW))=true;rw[Fi,ao,zzr1 h];rfl
theorem smG{a:Zb}(h:a.length<=1000000):DT.sm (.t (a.map bW))=true:=by
 show(decide ((a.map bW).length<=1000000) && DT.sms (a.map bW))=true;rw[Fi,ao,zzr1 h];rfl
theorem Fj:∀{ds:List ar},(∀d∈ds,d.sg.length<=1000000)->DT.sms (ds.map jk)=true
 |[],_=>rfl
 |d::ds,h=>by
  rw[bo];show(DT.sm (jk d) && DT.sms (ds.map jk))=true;rw[Fj fun x hx=>h x (dD _ hx)];have:DT.sm (jk d)=true:=by
   show(decide (3<=1000000) && (DT.sm (bW d.a) && (DT.sm (.t (d.sg.map bW)) && (DT.sm (bW d.b) && true))))=true;rw[smG (h d eQ)];rfl
  rw[this];rfl
theorem BQ{f h i:Zb}{e:List ar}(F:F0 f h i e)(g:∀d∈e,d.sg.length<=1000000):DT.sm (.s (oH f h i e))=true:=by
 have j:=F.a;have k:=F.s;have l:=F.r;have m:=F.d;show(decide (4<=1000000) && (DT.sm (.s (f.map bW)) && (DT.sm (.s (h.map bW)) && (DT.sm (.s (i.map bW)) && (DT.sm (.s (e.map jk)) && true)))))=true;rw[smS (by omega),smS (by omega),smS (by omega)];have:DT.sm (.s (e.map jk))=true:=by
  show(decide ((e.map jk).length<=1000000) && DT.sms (e.map jk))=true;rw[Fj g,ao,zzr1 (by omega)];rfl
 rw[this];rfl
abbrev pnD(p:Str)(n:Nat):DT:=.t [bW p,.k (.inl (n:Int))]
theorem EN{K:Za}{H:Hp}{t:Addr}{p:Str}{n:Nat}(h:H t=some (.tup [.str p,.int (n:Nat)])):DR K H (pnD p n) (.ref t):=by
 unfold pnD DR;refine⟨t,_,rfl,bN.of h,?_⟩;unfold DRs;refine⟨_,_,rfl,by unfold bW DR;rfl,?_⟩;unfold DRs;refine⟨_,_,rfl,by unfold DR;rfl,?_⟩;unfold DRs
 rfl
def fC(J2:Zb)(P:Str->Prop)(o:Option Nat):Prop:=(o=none/\∀r∈J2,¬P r)∨∃n r,o=some n/\J2[n]?=some r/\P r/\∀j x,j<n->J2[j]?=some x->¬P x
theorem fC.uniq{g:Zb}{P:Str->Prop}{o i:Option Nat}(h:fC g P o)(a:fC g P i):o=i:=by
 rcases h with⟨rfl,h⟩|⟨n,r,rfl,e,p,b⟩<;>rcases a with⟨rfl,a⟩|⟨f,j,rfl,k,m,q⟩
 ·rfl
 ·exact absurd m (h j (cT k))
 ·exact absurd p (a r (cT e))
 ·have:n=f:=by
   rcases Nat.lt_trichotomy n f with l|l|l
   ·exact absurd p (q n r l e)
   ·exact l
   ·exact absurd m (b f j l k)
  rw[this]
inductive bZ (vs:List V)(H:Hp)(Q:VK)(E:XK):Prop
 |mk (l3 d:Addr) (J2:Zb) (ps:List (Str×Addr)) (P:Str->Prop):(vs=[.ref l3,.ref d])->(H l3=some (.lst (J2.map V.str)))->(H d=some (.dK (c7 Sum.inr ps)))->(ps.map (·.1)=J2)->(J2.Nodup)->((∀x∈ps,∃L,H x.2=some (.dK (a_ L))/\(x.1∈L↔P x.1)))->(∀o H',fC J2 P o->ae H H'->Q (oV o) H')->bZ  vs H Q E
theorem lC{K:Za}{v:List V}{H:Hp}{Q:VK}{E:XK}(h:bZ v H Q E):mK K (bF Q) (start nK v) H:=by
 obtain⟨B,d,C,J,P,rfl,D,M,g,q,N,k⟩:=h;refine⟨_,rfl,B,rfl,⟨_,aB.of D⟩,?_⟩;refine gy (xs:=C.map V.str) (fun i σ f=>∃x y,σ=[some (.ref B),some (.ref d),x,y]/\ae H f/\∀j x,j<i->C[j]?=some x->¬P x) ⟨_,_,rfl,ae.refl H,fun _ _ z=>absurd z (Nat.not_lt_zero _)⟩ (fun i σ f _ O=>by obtain⟨_,_,_,S,_⟩:=O;exact aB.of (S _ _ D)) ?_ ?_
 ·rintro i x σ f t hi ⟨x2,x3,rfl,S,p⟩ T;obtain⟨w,s,rfl⟩:=cq hi;refine⟨t,_,rfl,bN.of aa,rfl,_,_,rfl,_,_,rfl,rfl,?_⟩;have m:ae H (upd f t (.tup [.int i,.str w])):=S.trans (ae.new T);generalize upd f t (.tup [.int i,.str w])=U at m ⊢;have n:w∈J.map (·.1):=by rw[g];exact cT s
  obtain⟨⟨r,a⟩,o,Y⟩:=bh.mp n;obtain rfl:r=w:=Y;obtain⟨L,u,G⟩:=N _ o;refine⟨_,rfl,_,rfl,_,rfl,d,.ref a,rfl,.inl ⟨_,.inr r,.inl (m _ _ M),rfl,(eB iZ (by rw[g];exact q) o).symm⟩,a,_,rfl,.inl ⟨_,.inr r,.inl (m _ _ u),rfl,rfl⟩,_,rfl,?_⟩;rw[fV];by_cases c:r∈L
  ·rw[zzr1 c];exact bB ⟨_,rfl,k (some i) U (.inr ⟨i,r,rfl,s,G.mp c,p⟩) m⟩
  ·rw[zzr0 c];refine bj ⟨_,_,rfl,m,fun j x l e=>?_⟩;rcases Nat.lt_or_ge j i with z|z
   ·exact p j x z e
   ·have:j=i:=by omega
    rw[this,s]at e;cases e;exact fun z=>c (G.mpr z)
 ·rintro σ f ⟨x,y,rfl,S,p⟩;refine k none f (.inl ⟨rfl,fun r hr=>?_⟩) S;obtain⟨j,I,e⟩:=List.mem_iff_getElem.mp hr;exact p j r (by rw[ao];exact I) (by rw[jt I,e])
structure fB(J0 J1 J2:Zb)(ds:List ar):Prop where
 okA:gX J0
 okS:gX J1
 apart:∀w∈J1,w∉J0
 okR:gX J2
 asks0:J0≠[]
 says0:J1≠[]
 rooms0:J2≠[]
 asks4:J0.length<=4
 says4:J1.length<=4
 rooms26:J2.length<=150
 nodup:ds.Nodup
 good:∀d∈ds,Az J0 J1 J2 d
 few:ds.length<=2000
theorem fB.ok{J0 g f:Zb}{e:List ar}(m:fB J0 g f e)(z:e.length<=1000)(h:∀r∈f,¬Reach e r r):cL J0 g f e :=
 ⟨m.okA,m.okS,m.apart,m.okR,m.asks0,m.says0,m.rooms0,m.asks4,m.says4,m.rooms26,m.nodup,m.good,z,fun r z=>by
  have:∀{b:Str},Reach e r b->r∈f:=fun{b} i=>by
   induction i with
   |one j=>exact(m.good _ j).a
   |step _ _ k=>exact k
  exact h r (this z) z⟩
theorem fB.few'{J0 a e:Zb}{f:List ar}(m:fB J0 a e f):F0 J0 a e f :=
 ⟨by have:=m.asks4;omega,by have:=m.says4;omega,by have:=m.rooms26;omega,by have:=m.few;omega,hU m.okA,hU m.okS,hU m.okR⟩
theorem fB.sg0{a f g:Zb}{ds:List ar}(m:fB a f g ds){r:Str}:∀d∈aH ds r,d.sg≠[]:=by
 intro d h;have:=m.good d (eZ.mp h).1;rcases this.sg with⟨w,_,e⟩|⟨w,_,e⟩|e<;>rw[e]<;>exact List.cons_ne_nil _ _
theorem fB.signs{J0 i f:Zb}{j:List ar}(m:fB J0 i f j):∀d∈j,d.a∈f/\d.sg∈hW J0 i/\d.b∈f:=by
 intro d k;have g:=m.good d k;refine⟨g.a,?_,g.b⟩;unfold hW;rcases g.sg with⟨w,h,e⟩|⟨w,h,e⟩|e
 ·rw[e];exact dC _ (dC _ (bh.mpr ⟨w,h,rfl⟩))
 ·rw[e];exact dC _ (dw _ (bh.mpr ⟨w,h,rfl⟩))
 ·rw[e];exact dw _ (by simp[stillSg])
theorem uF{f g h:Zb}{i:List ar}(m:fB f g h i):i7 f g h i=none:=by
 have j:br f 4 []=none:=gG m.asks0 m.asks4 m.okA.1 m.okA.2;have k:br g 4 f=none:=gG m.says0 m.says4 (by
  rw[ee];exact⟨m.okA.1,m.okS.1,fun a l b n e=>m.apart b n (e▸l)⟩) m.okS.2
 have o:br h 150 []=none:=gG m.rooms0 m.rooms26 m.okR.1 m.okR.2;have p:C6 h (hW f g) 0 [] i=none:=w6 i [] 0 (by have:=m.few;omega) m.nodup m.signs;unfold i7;rw[j,k,o,p]
 rfl
structure xD(C:Addr)(H:Hp)(x:Addr)(J0 J1 J2:Zb)(ds:List ar):Prop where
 at_:∃(dx:Addr) (fs:List (Str×V)) (o1 o2 o3 o4 lv qu sg sl:Addr) (ts:Ze) (lps:List (Str×Addr)) (gps:List ((Str×List Str)×Addr)) (sps:List (Str×Addr)),
  H x=some (.ins C dx fs)/\lk "is_quiet" fs=none/\lk "goals" fs=none/\lk "led_from" fs=none/\lk "rooms" fs=none /\
  lk "own_asks" fs=some (.ref o1)/\lk "own_says" fs=some (.ref o2)/\lk "own_rooms" fs=some (.ref o3)/\lk "own_doors" fs=some (.ref o4) /\
  lk "leaving" fs=some (.ref lv)/\lk "quiet" fs=some (.ref qu)/\lk "sign_goals" fs=some (.ref sg)/\lk "still_led" fs=some (.ref sl) /\
  Lists H o1 o2 o3 o4 ts J0 J1 J2 ds /\
  lps.map (·.1)=J2/\H lv=some (.dK (c7 Sum.inr lps))/\(∀x∈lps,∃us,H x.2=some (.lst (us.map V.ref))/\bD H us (aH ds x.1)) /\
  H qu=some (.dK (a_ (J2.filter (dL ds))))/\gZ H sg gps ds /\
  sps.map (·.1)=J2/\H sl=some (.dK (c7 Sum.inr sps))/\(∀x∈sps,∃L,H x.2=some (.dK (a_ L))/\L.Nodup/\∀w,w∈L↔Reach ds x.1 w)
 more:∃(dx:Addr) (fs:List (Str×V)),H x=some (.ins C dx fs)/\lk "asks" fs=none/\lk "says" fs=none/\lk "doors" fs=none/\lk "doors_from" fs=none
theorem xD.ok{C:Addr}{H:Hp}{x:Addr}{a e f:Zb}{g:List ar}(b:xD C H x a e f g)(m:cL a e f g):cX C H x a e f g:=⟨b.at_,m,b.more⟩
inductive wu(C Cx:Addr)(vs:List V)(H:Hp)(Q:VK)(E:XK):Prop
 |mk (x dx l1 l2 l3 l4:Addr) (ts:Ze) (J0 J1 J2:Zb) (ds:List ar):(vs=[.ref x,.ref l1,.ref l2,.ref l3,.ref l4])->(H x=some (.ins C dx []))->(Lists H l1 l2 l3 l4 ts J0 J1 J2 ds)->(fB J0 J1 J2 ds)->((∀H',fC J2 (fun r=>Reach ds r r) none->xD C H' x J0 J1 J2 ds->cv x H H'->Q .non H'))->(∀n a H',fC J2 (fun r=>Reach ds r r) (some n)->Gd Cx H' a (.str "still") (.int (n:Nat))->cv x H H'->E (.ref Cx) (some a) H')->wu C Cx vs H Q E
theorem B2{K:Za}{C Cx:Addr}(M:MC K C){I:List V}{H:Hp}{Q:VK}{E:XK}(h:wu C Cx I H Q E):
  ic K (yR (cM Cx) E) bZ re kD (sp_as_keys K) sp_has_asks_alone sp_doors_by_start (yR (dI Cx) E) (bF Q) (start iF I) H:=by
 obtain⟨x,N,l1,l2,l3,l4,ts,J0,J1,O,ds,rfl,hx,L,m,k,kx⟩:=h;have z3:=m.rooms26;have z4:=m.few;refine⟨_,rfl,_,rfl,_,rfl,_,rfl,l1,l2,l3,l4,ts,J0,J1,O,ds,rfl,L,m.few',fun _ H1 S1=>?_,fun p n e=>by rw[uF m]at e;cases e⟩;have aS:=S1 _ _ hx;have L1:=L.same S1;have E1:cv x H H1:=ae.exB S1;refine⟨_,rfl,.inl ⟨l1,_,rfl,.inl (aB.of L1.a1),fun o1 aT=>⟨_,rfl,x,C,N,_,rfl,kp aS aT,M.cls,M.a1,(by show 0<1000;decide),?_⟩⟩⟩;obtain⟨H2,e2,aX,F2⟩:=w8 "own_asks" (.ref o1) (kp (x:=.lst (J0.map V.str)) aS aT);rw[<-e2];have n1:o1≠x:=(ah aS aT).symm;have f1:=F2 _ _ aa n1;have E2:cv x H1 H2:=(cv.new aT).trans F2;have ci:=L1.exI aS E2;have dN:(cD ("own_asks":Str) (.ref o1) []).length<=1:=gu _ _ _;clear e2 F2;refine⟨_,rfl,.inl ⟨l2,_,rfl,.inl (aB.of ci.a2),fun o2 a0=>⟨_,rfl,x,C,N,_,rfl,kp aX a0,M.cls,M.a2,by omega,?_⟩⟩⟩;obtain⟨H3,e3,a9,F3⟩:=w8 "own_says" (.ref o2) (kp (x:=.lst (J1.map V.str)) aX a0);rw[<-e3];have n2:o2≠x:=(ah aX a0).symm;have f2:=F3 _ _ aa n2;have E3:cv x H2 H3:=(cv.new a0).trans F3;have L3:=ci.exI aX E3;have dT:=gu ("own_says":Str) (.ref o2) (cD ("own_asks":Str) (.ref o1) []);clear e3 F3;refine⟨_,rfl,.inl ⟨l3,_,rfl,.inl (aB.of L3.a3),fun o3 bd=>⟨_,rfl,x,C,N,_,rfl,kp a9 bd,M.cls,M.a3,by omega,?_⟩⟩⟩;obtain⟨H4,e4,bi,F4⟩:=w8 "own_rooms" (.ref o3) (kp (x:=.lst (O.map V.str)) a9 bd);rw[<-e4];have n3:o3≠x:=(ah a9 bd).symm;have f3:=F4 _ _ aa n3;have E4:cv x H3 H4:=(cv.new bd).trans F4;have L4:=L3.exI a9 E4;have dV:=gu ("own_rooms":Str) (.ref o3) (cD ("own_says":Str) (.ref o2) (cD ("own_asks":Str) (.ref o1) []));clear e4 F4;refine⟨_,rfl,.inl ⟨l4,_,rfl,.inl (aB.of L4.a4),fun o4 bl=>⟨_,rfl,x,C,N,_,rfl,kp bi bl,M.cls,M.a4,by omega,?_⟩⟩⟩;obtain⟨H5,e5,u,F5⟩:=w8 "own_doors" (.ref o4) (kp (x:=.lst (ts.map V.ref)) bi bl);rw[<-e5];have n4:o4≠x:=(ah bi bl).symm;have f4:=F5 _ _ aa n4;have E5:cv x H4 H5:=(cv.new bl).trans F5;have L5:=L4.exI bi E5;generalize b3:cD ("own_doors":Str) (.ref o4) (cD ("own_rooms":Str) (.ref o3) (cD ("own_says":Str) (.ref o2) (cD ("own_asks":Str) (.ref o1) [])))=v at u;have d0:v.length<=4:=by
  rw[<-b3];have:=gu ("own_doors":Str) (.ref o4) (cD ("own_rooms":Str) (.ref o3) (cD ("own_says":Str) (.ref o2) (cD ("own_asks":Str) (.ref o1) [])));omega
 clear e5 F5;refine⟨_,rfl,_,rfl,l3,l4,ts,O,ds,rfl,L5.a3,L5.a4,L5.ds,m.okR.1,by omega,by omega,fun d hd=>(m.good d hd).a,fun lv bm d6 al an b4 S6=>⟨_,rfl,x,C,N,v,rfl,S6 _ _ u,M.cls,M.a5,by omega,?_⟩⟩;obtain⟨H6,e6,B,F6⟩:=w8 "leaving" (.ref lv) (S6 _ _ u);rw[<-e6];have E6:cv x H5 H6:=(ae.exB S6).trans F6;have L6:=L5.exI u E6;have b5:=F6 _ _ an (Cw (S6 _ _ u) an);have ck:∀y∈bm,∃G,H6 y.2=some (.lst (G.map V.ref))/\bD H6 G (aH ds y.1):=fun y hy=>by
  obtain⟨G,T,g2⟩:=b4 y hy;exact⟨G,F6 _ _ T (cv.neI (S6 _ _ u) T),g2.kt (F6.ktI (S6 _ _ u))⟩
 have c1:(bm.map (·.1)).Nodup:=by rw[al];exact m.okR.1
 have d1:=gu ("leaving":Str) (.ref lv) v;have c2:lk "leaving" (cD ("leaving":Str) (.ref lv) v)=some (.ref lv):=by
  show iO _ _=_;rw[dP,if_pos rfl]
 clear e6 F6 an b4;refine⟨_,rfl,l3,rfl,⟨_,aB.of L6.a3⟩,fun f hf=>?_⟩;refine cI (xs:=O.map V.str) (fun i I U=>I=((O.take i).filter (dL ds)).map V.str/\ae H6 U/\U f=some (.lst I)) ⟨rfl,ae.new hf,aa⟩ (fun i I U _ zq=>by obtain⟨_,S,h'⟩:=zq;exact⟨h',aB.of (S _ _ L6.a3)⟩) ?_ ?_;rotate_left
 ·rintro i I U x' b6 hi ⟨rfl,S,f'⟩;obtain⟨r,hr,rfl⟩:=cq b6;obtain⟨⟨r',a⟩,cl,er⟩:=bh.mp (show r∈bm.map (·.1) by rw[al];exact cT hr);obtain rfl:r'=r:=er;obtain⟨G,c3,c4⟩:=ck _ cl;refine gN ?_;refine⟨_,rfl,x,C,N,_,.ref lv,rfl,S _ _ B,M.cls,M.a5,c2,_,rfl,lv,.ref a,rfl,.inl ⟨_,.inr r',.inl (S _ _ b5),rfl,(eB iZ c1 cl).symm⟩,a,G,aH ds r',rfl,S _ _ c3,c4.kt (ae.kt S),bp (rM _ _) (by omega),m.sg0,fun bn l=>⟨_,rfl,?_⟩⟩;have cm:(((O.take i).filter (dL ds)).map V.str).length<am:=by
   rw[ao];refine aG (bp (fH _ _) ?_);rw[aQ];omega
  refine iy (fun hq=>?_) (fun hq=>?_)
  ·refine⟨_,rfl,l _ _ f',cm,pW hi ⟨?_,?_,aa⟩⟩
   ·rw[eU hr,if_pos (show dL ds r'=true from hq),aN];rfl
   ·intro b o q;rw[ai (ah q hf)];exact l _ _ (S _ _ q)
  ·refine pW hi ⟨?_,S.trans l,?_⟩
   ·rw[eU hr,if_neg (show ¬dL ds r'=true from hq),cO]
   ·exact l _ _ f'
 rintro I d8 ⟨rfl,S7,f7⟩;rw[ao,cA]at f7;refine oX (ws:=O.filter (dL ds)) (aB.of f7) (bp (fH _ _) (by omega)) fun qu b0=>⟨_,rfl,x,C,N,_,rfl,kp (S7 _ _ B) b0,M.cls,M.a6,by omega,?_⟩;obtain⟨H7,e7,ap,F7⟩:=w8 "quiet" (.ref qu) (kp (x:=.dK (a_ (O.filter (dL ds)))) (S7 _ _ B) b0);rw[<-e7];have n7:qu≠x:=(ah (S7 _ _ B) b0).symm;have c5:=F7 _ _ aa n7;have E7:cv x H6 H7:=((ae.exB S7).trans (cv.new b0)).trans F7;have L7:=L6.exI B E7;have d2:=gu ("quiet":Str) (.ref qu) (cD ("leaving":Str) (.ref lv) v);clear e7 F7;refine⟨_,rfl,l4,ts,ds,rfl,L7.a4,L7.ds,by omega,fun sg b7 ea G' S8=>⟨_,rfl,x,C,N,_,rfl,S8 _ _ ap,M.cls,M.a7,by omega,?_⟩⟩;obtain⟨H8,e8,D,F8⟩:=w8 "sign_goals" (.ref sg) (S8 _ _ ap);rw[<-e8];have E8:cv x H7 H8:=(ae.exB S8).trans F8;have L8:=L7.exI ap E8;have G8:gZ H8 sg b7 ds:=⟨G'.nd,F8 _ _ G'.g (EC (S8 _ _ ap) G'.g),fun y hy=>F8 _ _ (G'.ls y hy) (cv.neI (S8 _ _ ap) (G'.ls y hy)),G'.all⟩;have d3:=gu ("sign_goals":Str) (.ref sg) (cD ("quiet":Str) (.ref qu) (cD ("leaving":Str) (.ref lv) v));have dc:lk "sign_goals" (cD ("sign_goals":Str) (.ref sg) (cD ("quiet":Str) (.ref qu) (cD ("leaving":Str) (.ref lv) v)))=some (.ref sg):=by
  show iO _ _=_;rw[dP,if_pos rfl]
 clear e8 F8 G';refine⟨_,rfl,l3,rfl,⟨_,aB.of L8.a3⟩,fun b1 cn=>?_⟩;refine cI (xs:=O.map V.str) (fun i I U=>G_ fun(G:Ze) (pl:List (Str×Addr))=>NA6 (I=G.map V.ref) (Paired (fun t (p:Str×Addr)=>U t=some (.tup [.str p.1,.ref p.2])) G pl) (pl.map (·.1)=O.take i) ((∀p∈pl,∃L,U p.2=some (.dK (a_ L))/\L.Nodup/\∀w,w∈L↔Reach ds p.1 w)) (ae H8 U) (U b1=some (.lst I)))
  ⟨[],[],rfl,.nil,rfl,by simp,ae.new cn,aa⟩ (fun i I U _ zq=>by obtain⟨_,_,_,_,_,_,S,h'⟩:=zq;exact⟨h',aB.of (S _ _ L8.a3)⟩) ?_ ?_
 rotate_left
 ·rintro i I U x' b6 hi ⟨G,pl,rfl,aq,co,dd,S,f'⟩;obtain⟨r,hr,rfl⟩:=cq b6;have di:G.length<=150:=by
   rw[Paired.length aq,<-ao (f:=(·.1)) (as:=pl),co,aQ];omega
  refine gN (xK ?_);refine⟨_,rfl,_,rfl,x,C,N,_,.ref sg,rfl,S _ _ D,M.cls,M.a7,dc,_,rfl,sg,r,b7,ds,O,rfl,G8.same S,fun d hd=>(m.good d hd).b,by omega,fun ld Lr bn dk nd dm eb l=>⟨(by show 2<=am;decide),fun t ht=>⟨?_,?_,pW hi ⟨G++[t],pl++[(r,ld)],?_,?_,?_,?_,?_,aa⟩⟩⟩⟩
  ·exact kp (l _ _ f') ht
  ·rw[ao];exact aG (by omega)
  ·rw[aN];rfl
  ·have KT:xF (upd bn t (.tup [.str r,.ref ld])) (upd (upd bn t (.tup [.str r,.ref ld])) b1 (.lst (G.map V.ref++[.ref t]))):=fy (kp (l _ _ f') ht);exact Paired.app (Paired.mapP aq fun t' p' e=>KT _ _ (kp (l _ _ e) ht)) (.cons (KT _ _ aa) .nil)
  ·rw[aN,co,take_snoc hr];rfl
  ·have cs:∀{b:Addr}{dn:List (dX×V)},upd bn t (.tup [.str r,.ref ld]) b=some (.dK dn)->b≠b1:=fun hb z=>by rw[z,kp (l _ _ f') ht]at hb;cases hb
   intro p hp;rcases cj.mp hp with hp|hp
   ·obtain⟨L0,T,g2⟩:=dd p hp;refine⟨L0,?_,g2⟩;have:=kp (x:=.tup [.str r,.ref ld]) (l _ _ T) ht;rw[ai (cs this)];exact this
   ·have:p=(r,ld):=by simpa using hp
    subst this;refine⟨Lr,?_,nd,dm⟩;have:=kp (x:=.tup [.str r,.ref ld]) dk ht;rw[ai (cs this)];exact this
  ·intro b o q;rw[ai (ah q cn)];exact kp (l _ _ (S _ _ q)) ht
 rintro I ec ⟨G,sps,rfl,aq,J,ct,S9,f9⟩;rw[ao,cA]at J;have dp:(sps.map (·.1)).Nodup:=by rw[J];exact m.okR.1
 refine⟨b1,G,c7 Sum.inr sps,rfl,aB.of f9,?_,?_,fun sl ab=>⟨_,rfl,x,C,N,_,rfl,kp (S9 _ _ D) ab,M.cls,M.a8,by omega,?_⟩⟩
 ·rw[Paired.length aq];unfold c7;rw[ao]
 ·intro j t kv hj b8;obtain⟨p,hp,e⟩:=Paired.getL aq hj;unfold c7 at b8;rw[dq,hp]at b8;have:=dE b8;rw[<-this];exact e
 have b2:i8 [] (c7 Sum.inr sps)=c7 Sum.inr sps:=rG sps [] dp;rw[b2];obtain⟨H9,e9,ce,F9⟩:=w8 "still_led" (.ref sl) (kp (x:=.dK (c7 Sum.inr sps)) (S9 _ _ D) ab);rw[<-e9];have n9:sl≠x:=(ah (S9 _ _ D) ab).symm;have cB:=F9 _ _ aa n9;have E9:cv x H8 H9:=((ae.exB S9).trans (cv.new ab)).trans F9;have L9:=L8.exI D E9;have aC:∀p∈sps,∃L,H9 p.2=some (.dK (a_ L))/\L.Nodup/\∀w,w∈L↔Reach ds p.1 w:=fun p hp=>by
  obtain⟨L0,T,g2⟩:=ct p hp;have g3:=kp (x:=.dK (c7 Sum.inr sps)) T ab;exact⟨L0,F9 _ _ g3 (Cw (kp (S9 _ _ D) ab) g3),g2⟩
 clear e9 F9;have cC:lk "still_led" (cD ("still_led":Str) (.ref sl) (cD ("sign_goals":Str) (.ref sg) (cD ("quiet":Str) (.ref qu) (cD ("leaving":Str) (.ref lv) v))))=some (.ref sl):=by
  show iO _ _=_;rw[dP,if_pos rfl]
 refine⟨_,rfl,_,rfl,x,C,N,_,.ref sl,rfl,ce,M.cls,M.a8,cC,l3,sl,O,sps,(fun r=>Reach ds r r),rfl,L9.a3,cB,J,m.okR.1,fun p hp=>?_,fun o c0 fo ak=>rE (fun ho=>k c0 (ho▸fo) ?_ ?_) fun n hn a U xa s=>kx n a U (hn▸fo) xa ?_⟩
 ·obtain⟨L0,T,g2,g3⟩:=aC p hp;exact⟨L0,T,g3 _⟩
 ·have ch:cv x H6 H9:=(E7.trans E8).trans E9;have dt:=((E6.trans E7).trans E8).trans E9;have Y:∀{b:Addr}{o:HO},H9 b=some o->c0 b=some o:=fun h=>ak _ _ h;have LL:Lists H5 o1 o2 o3 o4 ts J0 J1 O ds:=⟨(E3.trans (E4.trans E5)) _ _ f1 n1,(E4.trans E5) _ _ f2 n2,E5 _ _ f3 n3,f4,L5.ds⟩;refine⟨⟨N,_,o1,o2,o3,o4,lv,qu,sg,sl,ts,bm,b7,sps,Y ce,?_,?_,?_,?_,?_,?_,?_,?_,?_,?_,?_,cC,(LL.exI u dt).same ak,al,?_,?_,?_,?_,J,Y cB,fun p hp=>?_⟩,⟨N,_,Y ce,?_,?_,?_,?_⟩⟩
  rotate_right 9
  ·exact Y (ch _ _ b5 (Cw B b5))
  ·intro y hy;obtain⟨dy,T,g2⟩:=ck y hy;exact⟨dy,Y (ch _ _ T (cv.neI B T)),(g2.kt (ch.ktI B)).kt (ae.kt ak)⟩
  ·exact Y ((E8.trans E9) _ _ c5 n7)
  ·exact gZ.same ⟨G8.nd,E9 _ _ G8.g (EC D G8.g),fun y hy=>E9 _ _ (G8.ls y hy) (cv.neI D (G8.ls y hy)),G8.all⟩ ak
  ·obtain⟨L0,T,g2⟩:=aC p hp;exact⟨L0,Y T,g2⟩
  all_goals(show iO _ _=_;subst b3;repeat (rw[dP];first|rw[if_pos rfl] | rw[if_neg (by decide +kernel)]))
  all_goals rfl
 ·exact((((((((E1.trans E2).trans E3).trans E4).trans E5).trans E6).trans E7).trans E8).trans E9).trans (ae.exB ak)
 ·exact(((((((((E1.trans E2).trans E3).trans E4).trans E5).trans E6).trans E7).trans E8).trans E9).trans (ae.exB ak)).trans (ae.exB s)
def lh(J0 J1 J2:Zb)(ds:List ar)(o:Option (Str×Nat)):Prop :=
 (∃p n,o=some (p,n)/\i7 J0 J1 J2 ds=some (p,n))∨(fB J0 J1 J2 ds/\∃q,fC J2 (fun r=>Reach ds r r) q/\o=q.map fun n=>(("still":Str),n))
inductive kC(C Cx:Addr)(vs:List V)(H:Hp)(Q:VK)(E:XK):Prop
 |mk (x dx l1 l2 l3 l4:Addr) (ts:Ze) (J0 J1 J2:Zb) (ds:List ar) (o:Option (Str×Nat)):(vs=[.ref x,.ref l1,.ref l2,.ref l3,.ref l4])->(H x=some (.ins C dx []))->(Lists H l1 l2 l3 l4 ts J0 J1 J2 ds)->(F0 J0 J1 J2 ds)->(lh J0 J1 J2 ds o)->((o=none->∀H',xD C H' x J0 J1 J2 ds->cv x H H'->Q .non H'))->(∀p n,o=some (p,n)->∀a H',Gd Cx H' a (.str p) (.int (n:Nat))->cv x H H'->E (.ref Cx) (some a) H')->kC C Cx vs H Q E
theorem B1{K:Za}{C Cx:Addr}(M:MC K C){r:List V}{H:Hp}{Q:VK}{E:XK}(h:kC C Cx r H Q E):
  ic K (yR (cM Cx) E) bZ re kD (sp_as_keys K) sp_has_asks_alone sp_doors_by_start (yR (dI Cx) E) (bF Q) (start iF r) H:=by
 obtain⟨x,O,t,u,y,B,D,G,I,J,N,o,rfl,hx,L,F,v,k,i⟩:=h;rcases v with⟨p,n,rfl,w⟩|⟨m,q,f,rfl⟩
 ·refine⟨_,rfl,_,rfl,_,rfl,_,rfl,t,u,y,B,D,G,I,J,N,rfl,L,F,fun z=>?_,fun U Y e a g j s=>?_⟩
  ·rw[w]at z;cases z
  ·rw[w]at e;cases e;exact i _ _ rfl a g j (ae.exB s)
 ·refine B2 M ⟨x,O,t,u,y,B,D,G,I,J,N,rfl,hx,L,m,fun g l T ex=>?_,fun n a g l j ex=>?_⟩
  ·rw[f.uniq l]at k;exact k rfl g T ex
  ·rw[f.uniq l]at i;exact i _ _ rfl a g j ex
def Eh(ds:List ar):Prop:=∀d∈ds,d.sg.length=1∨d.sg.length=2
def ig(d:ar):Bool:=decide (d.sg=stillSg)
def jn(ds:List ar)(r:Str):List Str:=((ds.filter ig).filter fun d=>decide (d.a=r)).map ar.b
theorem q_{e:List ar}{a b:Str}:(⟨a,stillSg,b⟩:ar)∈e.filter ig↔(⟨a,stillSg,b⟩:ar)∈e :=
 ⟨fun h=>(eZ.mp h).1,fun h=>eZ.mpr ⟨h,zzr1 rfl⟩⟩
theorem Reach.mono{g f:List ar}(h:∀a b,(⟨a,stillSg,b⟩:ar)∈g->(⟨a,stillSg,b⟩:ar)∈f){a b:Str}(r:Reach g a b):Reach f a b:=by
 induction r with
 |one e=>exact .one (h _ _ e)
 |step _ e i=>exact .step i (h _ _ e)
theorem Reach.front{f:List ar}{a b:Str}(r:Reach f a b):∃g,(⟨a,stillSg,g⟩:ar)∈f/\(b=g∨Reach f g b):=by
 induction r with
 |one e=>exact⟨_,e,.inl rfl⟩
 |step _ e h =>
  obtain⟨g,i,z⟩:=h;refine⟨g,i,.inr ?_⟩;rcases z with z|z
  ·subst z;exact .one e
  ·exact .step z e
theorem me{i:List ar}{r g:Str}:g∈jn i r↔(⟨r,stillSg,g⟩:ar)∈i:=by
 constructor
 ·intro h;obtain⟨d,j,e⟩:=bh.mp h;obtain⟨k,a⟩:=eZ.mp j;obtain⟨l,f⟩:=eZ.mp k;have a:=of_decide_eq_true a;have f:=of_decide_eq_true f;cases d;simp only at *;subst e;subst a;subst f;exact l
 ·intro h;exact bh.mpr ⟨_,eZ.mpr ⟨q_.mpr h,zzr1 rfl⟩,rfl⟩
theorem tE{ds:List ar}{r:Str}:vP (ds.filter ig) (jn ds r) r↔Reach ds r r:=by
 constructor
 ·rintro⟨g,f,e⟩;have one:=Reach.one (me.mp f);rcases e with e|e
  ·rw[<-e]at one;exact one
  ·exact one.trans (e.mono fun a b=>q_.mp)
 ·intro h;obtain⟨g,f,e⟩:=h.front;exact⟨g,me.mpr f,e.imp id fun z=>z.mono fun a b=>q_.mpr⟩
theorem vE{f:List ar}(j:f.Nodup)(r:Str):(jn f r).Nodup:=by
 unfold jn List.Nodup;rw[List.pairwise_map];have g:((f.filter ig).filter fun d=>decide (d.a=r)).Nodup:=(j.filter _).filter _;refine List.Pairwise.imp_of_mem (fun{a b} k l ne e=>ne ?_) g;obtain⟨m,h⟩:=eZ.mp k;obtain⟨n,i⟩:=eZ.mp l;have o:=of_decide_eq_true (eZ.mp m).2;have p:=of_decide_eq_true (eZ.mp n).2;have h:=of_decide_eq_true h;have i:=of_decide_eq_true i;cases a;cases b;simp only at *;rw[e,h,i,o,p]
theorem rT(P:Str->Prop):∀f:List Str,∃o,fC f P o
 |[]=>⟨none,.inl ⟨rfl,fun _ h=>nomatch h⟩⟩
 |r::g=>by
  by_cases h:P r
  ·exact⟨some 0,.inr ⟨0,r,rfl,rfl,h,fun j x z=>absurd z (Nat.not_lt_zero _)⟩⟩
  ·obtain⟨o,i⟩:=rT P g;rcases i with⟨rfl,z⟩|⟨n,x,rfl,e,p,b⟩
   ·refine⟨none,.inl ⟨rfl,fun y k=>?_⟩⟩;rcases bY.mp k with q|q
    ·rw[q];exact h
    ·exact z y q
   ·refine⟨some (n+1),.inr ⟨n+1,x,rfl,e,p,fun j y l a=>?_⟩⟩;cases j with
    |zero=>cases a;exact h
    |succ j=>exact b j y (by omega) a
inductive mS (vs:List V)(H:Hp)(Q:VK)(E:XK):Prop
 |mk (l3 l4:Addr) (ts:Ze) (J0 J1 J2:Zb) (ds:List ar):(vs=[.ref l3,.ref l4])->(H l3=some (.lst (J2.map V.str)))->(H l4=some (.lst (ts.map V.ref)))->(bD H ts ds)->(fB J0 J1 J2 ds)->(∀o H',fC J2 (fun r=>Reach ds r r) o->ae H H'->Q (oV o) H')->mS  vs H Q E
theorem BW{K:Za}{p:List V}{H:Hp}{Q:VK}{E:XK}(h:mS p H Q E):wd K (iR K) (bF Q) (start xA p) H:=by
 obtain⟨l3,l4,ts,J0,J1,J2,ds,rfl,h3,h4,M,m,k⟩:=h;have z4:=m.few;have z3:=m.rooms26;refine⟨_,rfl,l4,rfl,⟨_,aB.of h4⟩,fun f hf=>?_⟩;refine cI (xs:=ts.map V.ref) (fun i p n=>∃B:List Addr,p=B.map V.ref/\bD n B ((ds.take i).filter ig)/\ae H n/\n f=some (.lst p)) ⟨[],rfl,.nil,ae.new hf,aa⟩ (fun i p n _ N=>by obtain⟨_,_,_,S,h'⟩:=N;exact⟨h',aB.of (S _ _ h4)⟩) ?_ ?_;rotate_left
 ·rintro i p n x hx hi ⟨B,rfl,D,S,f'⟩;obtain⟨t,ht,rfl⟩:=df hx;obtain⟨dr,v,C⟩:=Paired.getL M ht;obtain⟨s,G,O⟩:=C.kt (ae.kt S);refine gN ⟨_,rfl,.inr (.inl ⟨t,_,1,_,rfl,rfl,bN.of G,rfl,(by show 1<=am;decide),fun st T=>⟨vp dr.sg,vp stillSg,iA (bN.of (kp O T)),iA (bN.of aa),by rw[lf];decide,by rw[lf];decide,_,rfl,?_⟩⟩)⟩;rw[Aq];have Sn:ae n (upd n st (.tup [.str "still"])):=ae.new T;have I:=S.trans Sn;have J:=Sn _ _ f';have L:=D.kt (ae.kt Sn);generalize upd n st (.tup [.str "still"])=H2 at Sn I J L ⊢;refine iy (fun c=>?_) (fun c=>?_)
  ·refine⟨_,rfl,J,?_,pW hi ⟨B++[t],by rw[aN];rfl,?_,?_,aa⟩⟩
   ·rw[ao,Paired.length D];refine cp (bp (fH _ _) ?_);rw[aQ];omega
   ·rw[cK v,if_pos (show ig dr=true from c)];exact Paired.app (L.kt (fy J)) (.cons ((C.kt (ae.kt I)).kt (fy J)) .nil)
   ·intro b o q;rw[ai (ah q hf)];exact I _ _ q
  ·refine pW hi ⟨B,rfl,?_,I,J⟩;rw[cK v,if_neg (show ¬ig dr=true from c),cO];exact L
 rintro p H1 ⟨B,rfl,D1,S1,f1⟩;rw[ao,Paired.length M,cA]at D1;have ab:B.length=(ds.filter ig).length:=Paired.length D1;refine⟨_,rfl,l3,rfl,⟨_,aB.of (S1 _ _ h3)⟩,?_⟩;refine gy (xs:=J2.map V.str) (fun i σ n=>∃x y z,σ=[some (.ref l3),some (.ref l4),some (.ref f),x,y,z]/\ae H1 n/\∀j x,j<i->J2[j]?=some x->¬Reach ds x x) ⟨_,_,_,rfl,ae.refl _,fun _ _ z=>absurd z (Nat.not_lt_zero _)⟩ (fun i σ n _ N=>by obtain⟨_,_,_,_,S,_⟩:=N;exact aB.of (S _ _ (S1 _ _ h3))) ?_ ?_
 ·rintro i x σ n t hi ⟨x2,x3,x4,rfl,S,nb⟩ ht;obtain⟨r,hr,rfl⟩:=cq hi;refine⟨t,_,rfl,bN.of aa,rfl,_,_,rfl,_,_,rfl,rfl,?_⟩;have I:ae H1 (upd n t (.tup [.int i,.str r])):=S.trans (ae.new ht);generalize upd n t (.tup [.int i,.str r])=H2 at I ⊢;have J:=I _ _ f1;have L:=D1.kt (ae.kt I);refine⟨_,rfl,f,rfl,⟨_,aB.of J⟩,fun g hg=>?_⟩;refine cI (xs:=B.map V.ref) (fun i p n=>p=((((ds.filter ig).take i).filter fun d=>decide (d.a=r)).map ar.b).map V.str/\ae H2 n/\n g=some (.lst p)) ⟨rfl,ae.new hg,aa⟩ (fun i p n _ N=>by obtain⟨_,S,h'⟩:=N;exact⟨h',aB.of (S _ _ J)⟩) ?_ ?_;rotate_left
  ·rintro j p n x hx U ⟨rfl,S,g'⟩;obtain⟨u,hu,rfl⟩:=df hx;obtain⟨dr,v,C⟩:=Paired.getL L hu;obtain⟨s,G,O⟩:=C.kt (ae.kt S);refine gN ⟨_,rfl,.inr (.inl ⟨u,_,0,_,rfl,rfl,bN.of G,rfl,_,rfl,rfl,_,rfl,?_⟩)⟩;refine iy (fun c=>?_) (fun c=>?_)
   ·have c:dr.a=r:=by have:=of_decide_eq_true c;injection this
    refine⟨_,rfl,.inr (.inl ⟨u,_,2,_,rfl,rfl,bN.of G,rfl,g',?_,pW U ⟨?_,?_,aa⟩⟩)⟩
    ·rw[ao,ao];refine cp (bp (fH _ _) ?_);rw[aQ];have:=fH ig ds;omega
    ·rw[cK v,if_pos (zzr1 c),aN,aN];rfl
    ·intro b o q;rw[ai (ah q hg)];exact S _ _ q
   ·have c:¬dr.a=r:=fun e=>c (zzr1 (by rw[e]));refine pW U ⟨?_,S,g'⟩;rw[cK v,if_neg (fun z=>c (of_decide_eq_true z)),cO]
  rintro p H3 ⟨rfl,S3,g3⟩;rw[ao,ab,cA]at g3;have inR:∀w∈jn ds r,w∈J2:=fun w hw=>(m.good _ (me.mp hw)).b;have gz:=jf (vE m.nodup r) inR;refine⟨_,rfl,_,rfl,_,rfl,f,g,B,ds.filter ig,jn ds r,J2,rfl,S3 _ _ J,L.kt (ae.kt S3),g3,fun d hd=>(m.good d (eZ.mp hd).1).b,by omega,by omega,fun q F H4 hq hF zF _ S4=>⟨bW r,F.map bW,q,_,iB r,rfl,.inl (aB.of hq),gH _,cf _,by rw[bR];decide,_,rfl,?_⟩⟩;have Y:ae H1 H4:=(I.trans S3).trans S4;refine iy (fun c=>?_) (fun c=>?_)
  ·have c:r∈F:=qb.mp (of_decide_eq_true c);exact⟨_,rfl,k (some i) H4 (.inr ⟨i,r,rfl,hr,tE.mp ((hF r).mp c),nb⟩) (S1.trans Y)⟩
  ·refine⟨_,_,_,rfl,Y,fun j x l e=>?_⟩;rcases Nat.lt_or_ge j i with z|z
   ·exact nb j x z e
   ·have:j=i:=by omega
    rw[this,hr]at e;cases e;exact fun z=>c (zzr1 (qb.mpr ((hF r).mpr (tE.mpr z))))
 ·rintro σ n ⟨x,y,z,rfl,S,nb⟩;refine k none n (.inl ⟨rfl,fun r hr=>?_⟩) (S1.trans S);obtain⟨j,U,e⟩:=List.mem_iff_getElem.mp hr;exact nb j r (by rw[ao];exact U) (by rw[jt U,e])
theorem Eh.le{a:List ar}(G:Eh a):∀d∈a,d.sg.length<=1000000:=fun d e=>by rcases G d e with z|z<;>rw[z]<;>decide
theorem cL.sg12{a f g:Zb}{ds:List ar}(m:cL a f g ds):Eh ds:=fun d h=>by
 rcases(m.good d h).sg with⟨w,_,e⟩|⟨w,_,e⟩|e<;>rw[e]
 ·exact .inr rfl
 ·exact .inr rfl
 ·exact .inl rfl
def kA(K:Za):Sp:=fun vs H Q E=>fq K 4 vs H Q E∨∃b c:Bool,vs=[.bl b,.bl c]/\Q (.bl (decide (V.bl b=V.bl c))) H
theorem BV{K:Za}{e:Sp}{a:List V}{H:Hp}{Q:VK}{b c:Bool}(h:a=[.bl b,.bl c]/\Q (.bl (decide (V.bl b=V.bl c))) H):wb K e (bF Q) (start pK a) H:=by
 obtain⟨rfl,k⟩:=h;refine⟨_,rfl,_,rfl,?_⟩;rw[zzr0 (show ¬V.bl c=V.non from fun z=>by cases z)];refine bj ⟨_,rfl,_,"bool",.type "bool",true,rfl,.inl (.bl c),rfl,_,rfl,bB ?_⟩;exact⟨_,rfl,_,"bool",.type "bool",true,rfl,.inl (.bl b),rfl,_,rfl,bB ⟨_,rfl,_,rfl,rfl,k⟩⟩
theorem ou{K:Za}{n:Nat}{x y:V}{H:Hp}{Q:VK}{E:XK}{d:DT}(i:DR K H d x)(j:DR K H d y)(g:d.depth<=n)(l:n<=8)(sm:DT.sm d=true)(k:∀h,ae H h->Q (.bl true) h):fq K n [x,y] H Q E:=by
 refine⟨[nL K d,nL K d],[],fun r _=>r=.im (bv true),⟨H,H,fun _=>0,fun _=>False⟩,rfl,rfl,(fun _ _ e=>nomatch e),⟨ae.refl _,(fun _ e=>e.elim),(fun _ _ e=>nomatch e),(fun _ _ _ _ e=>nomatch e),ki⟩,.cons i (.cons j .nil),⟨rfl,d,d,rfl,g,g,l,sm,?_⟩,?_⟩
 ·rw[zzr1 rfl]
 ·intro r v m p e w f o;subst e;rw[show v=.bl true from o];exact k _ fun a o q=>w.hh a o q (fun z=>z) (fun z=>by simp[bas]at z)
theorem cL.w{J0 a e:Zb}{f:List ar}(m:cL J0 a e f):fB J0 a e f :=
 ⟨m.okA,m.okS,m.apart,m.okR,m.asks0,m.says0,m.rooms0,m.asks4,m.says4,m.rooms26,m.nodup,m.good,by have:=m.few;omega⟩
theorem cL.verdict{J0 a e:Zb}{f:List ar}(m:cL J0 a e f):lh J0 a e f none :=
 .inr ⟨m.w,none,.inl ⟨rfl,fun r _=>m.noround r⟩,rfl⟩
theorem AZ{a:List ar}{r:Str}:dL a r=decide ((aH a r).filter (fun d=>!gP d)=[]):=by
 unfold dL;generalize aH a r=f;by_cases h:f.filter (fun d=>!gP d)=[]
 ·rw[zzr1 h,qH];intro d e;have:=List.filter_eq_nil_iff.mp h d e;cases q:gP d with
  |true=>rfl
  |false=>rw[q]at this;exact absurd rfl this
 ·rw[zzr0 h,Bool.eq_false_iff];intro z;refine h (List.filter_eq_nil_iff.mpr fun d e=>?_);rw[qH.mp z d e]
  decide
theorem lh.ok{J0 g h:Zb}{a:List ar}(v:lh J0 g h a none)(z:a.length<=1000):cL J0 g h a:=by
 rcases v with⟨p,n,e,_⟩|⟨m,q,f,e⟩
 ·cases e
 ·cases q with
  |some n=>cases e
  |none =>
   rcases f with⟨_,f⟩|⟨n,r,e,_⟩
   ·exact m.ok z f
   ·cases e
def Gj(K:Za)(f:Str):TS:=av (dF (yg K (aF V0 V1))) (zS K V0 V1 f)
def FV(a:Addr)(H H':Hp):Prop:=∀b o,H b=some o->b≠a->H' b=some o
inductive oq(Cx:Addr)(f:Str)(vs:List V)(H:Hp)(Q:VK)(E:XK):Prop
 |mk (a:Addr) (x:V):(vs=[.ref a,x])->(H a=some (.ext (cu a Cx none)))->(∀d H',H' a=some (.ext (cu a Cx (some d)))->H' d=some (.ext (iC d [(f,x)]))->d≠a->FV a H H'->Q .non H')->oq Cx f vs H Q E
theorem Fn{K:Za}{Cx:Addr}{f n0 n1:Str}(c:jQ K Cx)(l:cG K Cx f){g:List V}{H:Hp}{Q:VK}{E:XK}(h:oq Cx f g H Q E):Gj K f (bF Q) (start [n0,n1] g) H:=by
 obtain⟨a,x,rfl,i,k⟩:=h;refine⟨_,rfl,_,rfl,a,Cx,none,[x],rfl,i,c,(by show 1<=am;decide),?_⟩;refine⟨_,rfl,_,rfl,a,Cx,rfl,c,l,.inl ⟨i,fun d m j=>?_⟩⟩;refine k d _ aa (by rw[ai j,aa]) j fun b o e n=>?_;rw[ai n,ai (fun z=>by rw[z,m]at e;cases e)];exact e
open Classical in
theorem CC{a b:Nat}:decide (V.int (a:Nat)=V.int (b:Nat))=decide (a=b):=decide_eq_decide.mpr ⟨fun h=>by injection h with h;omega,fun h=>by rw[h]⟩
theorem CD{w:Str}{a:Zb}:decide (bW w∈a.map bW)=decide (w∈a):=decide_eq_decide.mpr ⟨fun z=>by
  obtain⟨v,f,e⟩:=bh.mp z;have:v=w:=by unfold bW at e;injection e with e;injection e
  rw[<-this];exact f,fun z=>bh.mpr ⟨w,z,rfl⟩⟩
def Gb(Ck:Addr)(n:Nat)(H H':Hp)(e:Addr):Prop:=ae H H'/\∃d,H' e=some (.ext (gK e Ck (some d)))/\H' d=some (.ext (iC d [("number",.int (n:Nat))]))
theorem wF{a:Addr}{W:L2.St->XK}{D:g0}{σ:L2.St}{H:Hp}{h:TE}{n:Nat}(i:∀Q:VK,Q (.int (n:Nat)) H->h σ H Q)(k:∀e f,Gb a n H f e->W σ (.ref a) (some e) f):
  kW a (oq a "number") (az h bA) W D σ H:=by
 refine i _ ⟨(by show 1<=am;decide),fun e j=>⟨e,_,rfl,aa,fun d f l m p kp=>⟨rfl,some d,l,k e _ ⟨fun b o q=>?_,d,aa,by rw[ai p];exact m⟩⟩⟩⟩;have g:b≠e:=ah q j;rw[ai g];exact kp b o (by rw[ai g];exact q) g
theorem Gb.pre{a:Addr}{n:Nat}{H f g:Hp}{e:Addr}(h:Gb a n f g e)(S:ae H f):Gb a n H g e:=⟨S.trans h.1,h.2⟩
structure RtC(K:Za)(Cx Cn:Addr):Prop where
 x:XC K Cx
 n:jQ K Cn
 na:cG K Cn "number"
 self:t9 K (.ref Cn) (.ref Cn)=some true
 no:t9 K (.ref Cx) (.ref Cn)=some false
theorem Fm{K:Za}{g:Str->Option Value}{x y:Str}{a Cx Cn:Addr}(c:XC K Cx)(hx:XX K g x Cx a)(f:XX K g y Cn a)(h:cG K Cn "number")(i:[a,Cx,Cn].Nodup):RtC K Cx Cn:=by
 have q:Cn≠a/\Cn≠Cx:=by refine⟨?_,?_⟩<;>(intro e;simp[e]at i)
 exact⟨c,f.cls,h,by rw[f.exm f q.1,zzr1 rfl],by rw[hx.exm f q.1,zzr0 q.2]⟩
theorem zX{K:Za}{H:Hp}{t u:Addr}{p:Str}{n:Nat}{Q:VK}{E:XK}(h:H t=some (.tup [.str p,.int (n:Nat)]))(g:H u=some (.tup [.str p,.int (n:Nat)]))(k:∀a,ae H a->Q (.bl true) a):fq K 4 [.ref t,.ref u] H Q E :=
 ou (EN h) (EN g) (show(1:Nat)<=4 by decide) (by decide) rfl k
theorem yC{K:Za}{H:Hp}{t u j l m n o p q r:Addr}{x y:Ze}{e f i:Zb}{a:List ar}{Q:VK}{E:XK}(F:F0 e f i a)(z:Eh a)(h:H t=some (.lst [.ref j,.ref l,.ref m,.ref n]))(L:Lists H j l m n x e f i a)(g:H u=some (.lst [.ref o,.ref p,.ref q,.ref r]))(M:Lists H o p q r y e f i a)(k:∀v,ae H v->Q (.bl true) v):fq K 4 [.ref t,.ref u] H Q E :=
 ou (d:=.s (oH e f i a)) (L.dr h) (M.dr g) (by show DT.depths _+1<=4;have:=vw e f i a;omega) (by decide) (BQ F fun d B=>by have:=z d B;omega) k
def v9(K:Za)(C_NoWord:Addr)(sp_NoWord_init:Sp)(C_Machine:Addr)(sp_Machine_says:Sp):(L2.St->XK)->TS :=
 pq (uK (aR (gm C_Machine "says" sp_Machine_says [] E0 V0 bA) U2))
 (pq (uK (aR (q0) U3))
 (pq (Es (nu K (aK V1)) (jO K 2 (bu U4 (bu U5 (ji)))) (pq (Fg (BN (ba (aM (l_ K true) V5 V2)) (tB (AO K V5 V3))) (kW C_NoWord sp_NoWord_init (aK V4)) (uK aZ))
 (uK (pB V3 V5 (tC (.bl true))))))
 (Fg (ba (aM u5 (cJ (Ev K) (aK V3)) (cJ (dJ K) (aK V2)))) (kW C_NoWord sp_NoWord_init (aK (cJ (dJ K) (aK V1)))) (uK aZ))))
def xx:List Str:=["M","words","says","ahead","number","word"]
def sA(K:Za)(a_STILL:Addr):TS :=
 bb (tIf (oo (ba (aM u5 (aM (oy K) V0 (tC (.int 0))) (tC (.str "say")))) (ba (aM (l_ K false) (aM (oy K) V0 (tC (.int 1))) V1))) (tC (.ref a_STILL)) V0)
def sT:List Str:=["sign","words"]
def BM(K:Za)(sp_as_keys:Sp)(C_Machine:Addr)(sp_Machine_rooms:Sp)(sp_Machine_asks:Sp)(sp_Machine_init:Sp)(sp_Machine_says:Sp)(sp_Machine_doors:Sp)(sp_hidden_sign:Sp)(sp_need_says:Sp):(L2.St->XK)->TS :=
 pq (BP (fun W=>pA sp_need_says [] W (aF V0 V1)))
 (pq (uK (aR (de 3 [1] (dR K (gm C_Machine "doors" sp_Machine_doors [] E0 V0 bA)) (jO K 3 (bu U0 (bu U1 (bu U2 (ji))))) (ln) (eV (gR V0 (aL sp_hidden_sign (aF V1 V3)) V2))) U2))
 (pq (uK (aR (de 1 [1] (dR K (gm C_Machine "says" sp_Machine_says [] E0 V0 bA)) U0 (ba (aM (l_ K true) V0 V1)) V0) U3))
 (Er (fun W=>tq C_Machine sp_Machine_init [] W (az (gm C_Machine "asks" sp_Machine_asks [] E0 V0 bA) (gR V3 (gm C_Machine "rooms" sp_Machine_rooms [] E0 V0 bA) (cJ (yu K) (aK (aL sp_as_keys (aK V2))))))))))
def CY:List Str:=["M","words","doors","says"]
def lX(K:Za):TS :=
 av (aR (gS (bA)) U2)
 (av (iM (dR K V0) (jO K 3 (bu U3 (bu U4 (bu U5 (ji))))) (av (bS (oo (ba (aM u5 (aM (oy K) V4 (tC (.int 0))) (tC (.str "say")))) (ba (aM (l_ K false) (aM (oy K) V4 (tC (.int 1))) V1))) (aR (eV (aK (tC (.str "still")))) U4) (aZ))
 (bS (ba (aM (l_ K true) (eV (gR V3 V4 V5)) V2)) (dF (yf K "list" gU V2 (aK (eV (gR V3 V4 V5))))) (aZ))))
 (bb V2))
def mm:List Str:=["doors","words","found","room","sign","other"]
def n_(K:Za)(sp_law_round:Sp)(sp_law_hidden_doors:Sp):TS :=
 av (aR V0 (jO K 4 (bu U2 (bu U3 (bu U4 (bu U5 (ji)))))))
 (av (iM (nu K (aK V1)) (jO K 2 (bu U6 (bu U7 (ji)))) (bS (BN (ba (aM (l_ K true) V7 V3)) (ba (aM (l_ K false) V7 (x8 (wH K) V1 (dY) (gk V6))))) (bb (eV (aF (tC (.str "word")) V6))) (aZ)))
 (av (bS (ba (aM u5 (cJ (dJ K) (aK V1)) (cJ (dJ K) (aK V3)))) (bb (eV (aF (tC (.str "word")) (cJ (dJ K) (aK V1))))) (aZ))
 (av (aR (aL sp_law_hidden_doors (aF V5 V1)) U5)
 (av (aR (aL sp_law_round (aF V4 V5)) U6)
 (av (bS (tB (BO V6)) (bb (eV (aF (tC (.str "still")) V6))) (aZ))
 (bb (gS (az V2 (gR (de 1 [1] (dR K V3) U0 (ba (aM (l_ K true) V0 V1)) V0) V4 V5)))))))))
def oY:List Str:=["told","words","asks","says","rooms","doors","number","word"]
def mJ(K:Za)(sp_law_take:Sp)(sp_law_text:Sp):TS :=
 av (aR (de 1 [0] (dR K V2) U0 (ba (aM u5 (aL sp_law_take (aF V1 (tC (.int 2)))) (tC (.int 0)))) V0) U3)
 (av (bS (ba (aM u5 (aL sp_law_take (aF V0 (tC (.int 2)))) (tC (.int 0)))) (aR (Ep K V3) U3) (aZ))
 (av (bS (ba (aM u5 (aL sp_law_take (aF V0 (tC (.int 2)))) (tC (.int 0)))) (av (aR (aM yv (aM yv V2 V1) (gS (aK (aL sp_law_text (aK V0))))) U4)
 (dF (yf K "list" u4 V3 (az (aL sp_law_take (aF V0 (aM dz (cJ (dJ K) (aK V3)) (tC (.int 1))))) (az (aM (eJ K) V4 (aL sp_law_take (aF V0 (cJ (dJ K) (aK V4))))) bA))))) (aZ))
 (bb V3)))
def nJ:List Str:=["pen","asks","says","words","some"]
def v_(K:Za)(sp_law_same:Sp)(C_Machine:Addr)(sp_Machine_is_quiet:Sp)(sp_Machine_doors_from:Sp)(sp_Machine_doors:Sp)(sp_Machine_rooms:Sp)(sp_Machine_says:Sp)(sp_Machine_asks:Sp):TS :=
 av (bS (pP (tB (aL sp_law_same (aF (gS (az (gm C_Machine "asks" sp_Machine_asks [] E0 V0 bA) (gR (gm C_Machine "says" sp_Machine_says [] E0 V0 bA) (gm C_Machine "rooms" sp_Machine_rooms [] E0 V0 bA) (gm C_Machine "doors" sp_Machine_doors [] E0 V0 bA)))) (cJ (cZ K) (aK V1)))))) (bb (tC (.bl false))) (aZ))
 (av (iM (dR K (aM (oy K) V1 (tC (.int 2)))) U2 (av (aR (de 1 [2] (dR K (aM (oy K) V1 (tC (.int 3)))) U0 (ba (aM (pV K) (aM (oy K) V0 (tC (.int 0))) V1)) V0) U3)
 (av (aR (aM (pV K) (de 1 [] (dR K V3) U0 (ba (aM Dy (aM (oy K) (aM (oy K) V0 (tC (.int 1))) (tC (.int 0))) (tC (.str "ask")))) V0) (gS (bA))) U4)
 (bS (BN (pP (tB (aL sp_law_same (aF (gm C_Machine "doors_from" sp_Machine_doors_from [] E0 V0 (aK V2)) V3)))) (pP (tB (aL sp_law_same (aF (gm C_Machine "is_quiet" sp_Machine_is_quiet [] E0 V0 (aK V2)) V4))))) (bb (tC (.bl false))) (aZ)))))
 (bb (tC (.bl true))))
def xz:List Str:=["machine","told","room","some","quiet"]
def Dl(K:Za)(sp_law_tells:Sp)(sp_law_same:Sp)(sp_law_hidden_due:Sp)(sp_hidden:Sp)(C_NoMachine:Addr)(C_NoWord:Addr)(sp_law_machine:Sp)(sp_law_drawn_words:Sp)(sp_law_model:Sp)(sp_law_take:Sp)(sp_law_open:Sp):TS :=
 av (aR (aL sp_law_open (aK V0)) U1)
 (av (aR (aL sp_law_model (az V1 (az (tC (.int 7)) (aK (aL sp_law_take (aF V1 (tC (.int 2)))))))) U2)
 (av (aR (aL sp_law_drawn_words (gR V1 (aM (B6 K) V2 (tC (.int 0))) (aM (B6 K) V2 (tC (.int 1))))) U3)
 (av (aR (aL sp_law_machine (aK V2)) U4)
 (av (aR (cJ (cZ K) (aK V3)) U5)
 (av (aR (tC .non) U6)
 (av (aR (tC .non) U7)
 (av (Gk (Eo (fun W=>pA sp_hidden [] W (aF V4 V5)) 6) (Fh K C_NoWord 8 (aR (eV (aF (tC (.str "word")) (zM K V8 "number"))) U7) (Fh K C_NoMachine 8 (aR (eV (aF (zM K V8 "part") (zM K V8 "number"))) U7) (Gm))))
 (av (bS (BN (ba (aM (Dx K) V5 V3)) (pP (tB (aL sp_law_tells (aF V4 V2))))) (bb (tC (.bl false))) (aZ))
 (av (aR (aL sp_law_hidden_due (aF V2 V3)) U9)
 (av (bS (tB (uL V6)) (bb (aL sp_law_same (aF V7 V9))) (aZ))
 (bb (fF (cJ (gr K) (aF V9 (tC (.ty "list")))) (fF (aL sp_law_tells (aF V6 V9)) (aL sp_law_tells (aF V4 V2)))))))))))))))
def Ay:List Str:=["script","pen","told","words","machine","handed","found","wrong","e","due"]
def Cb:List Str:=["script"]
theorem rF{C x:Addr}{H:Hp}{g i j:Zb}{k:List ar}(h:cX C H x g i j k):∃(e:Addr) (fs:List (Str×V)),H x=some (.ins C e fs)/\lk "asks" fs=none/\lk "says" fs=none/\lk "rooms" fs=none/\lk "doors" fs=none/\lk "doors_from" fs=none/\lk "is_quiet" fs=none:=by
 obtain⟨e,fs,v,y,z,B,lv,D,E,G,I,l,m,n,f,a1,a2,a3,o,_⟩:=h.at_;obtain⟨p,q,a,r,s,t,u⟩:=h.more;rw[f]at a;cases a;exact⟨e,fs,f,r,s,o,t,u,a1⟩
theorem Cj{C x:Addr}{H:Hp}{k l m:Zb}{i:List ar}(h:cX C H x k l m i):∃(g e:Addr) (fs:List (Str×V)) (f:Ze),H x=some (.ins C g fs)/\lk "doors" fs=none/\lk "own_doors" fs=some (.ref e)/\H e=some (.lst (f.map V.ref))/\bD H f i:=by
 obtain⟨g,fs,u,v,y,e,lv,z,B,D,f,n,o,p,j,a1,a2,a3,E,G,I,J,q,M,N,O,Q,L,_⟩:=h.at_;obtain⟨r,s,a,T,U,t,Y⟩:=h.more;rw[j]at a;cases a;exact⟨g,e,fs,f,j,t,q,L.a4,L.ds⟩
def wI(acc:List ar)(d:ar):List ar:=if d∈acc then acc else acc++[d]
def ir(ds:List ar):List ar:=ds.foldl wI []
theorem je(a:List ar)(d:ar):ir (a++[d])=wI (ir a) d:=by
 unfold ir;rw[List.foldl_append]
 rfl
theorem Ab{a:List ar}:∀{d:ar},d∈ir a↔d∈a:=by
 refine fm (fun a=>∀{d:ar},d∈ir a↔d∈a) (fun{d}=>tX) (fun f w h {d}=>?_) a;rw[je];unfold wI;split
 ·rename_i q;rw[h,cj,uh];exact⟨.inl,fun z=>z.elim id fun e=>by rw[e];exact h.1 q⟩
 ·rw[cj,h,cj]
theorem FC(a:List ar):(ir a).Nodup:=by
 refine fm (fun a=>(ir a).Nodup) ki (fun f w h=>?_) a;show(ir (f++[w])).Nodup;rw[je];unfold wI;split
 ·exact h
 ·rename_i q;exact ee.2 ⟨h,by simp,fun x hx y g e=>q (by rw[<-uh.1 g,<-e];exact hx)⟩
theorem z_(a:List ar):(ir a).length<=a.length:=by
 refine fm (fun a=>(ir a).length<=a.length) (aO _) (fun e w h=>?_) a;show(ir (e++[w])).length<=(e++[w]).length;rw[je,aY];unfold wI;split
 ·exact bp h (Nat.le_add_right _ _)
 ·rw[aY];exact Nat.succ_le_succ h
theorem A8(g:List ar):(dh (g.map jj)).map nN=(ir g).map jj:=by
 refine fm (fun g=>(dh (g.map jj)).map nN=(ir g).map jj) rfl (fun a w h=>?_) g;show(dh ((a++[w]).map jj)).map nN=(ir (a++[w])).map jj;rw[aN];show(dh (a.map jj++[jj w])).map nN=_;rw[iu,je];unfold wI;by_cases c:w∈ir a
 ·rw[if_pos c];unfold fM;have i:((dh (a.map jj)).any fun f=>decide (f.1=jj w))=true:=by
   have:jj w∈(dh (a.map jj)).map nN:=by rw[h];exact lN c
   obtain⟨f,j,e⟩:=bh.1 this;exact List.any_eq_true.2 ⟨f,j,zzr1 e⟩
  rw[if_pos i,j9,<-h];refine List.map_congr_left fun f _=>?_;show(if f.1=jj w then(f.1,V.bl true)else f).1=f.1
  split<;>rfl
 ·rw[if_neg c];have k:cY (dh (a.map jj)) (jj w)=none:=by
   cases q:cY (dh (a.map jj)) (jj w)with
   |none=>rfl
   |some v =>
    have:=wU (a.map jj) (jj w);rw[q]at this;exact absurd (Ab.2 (ve.1 (of_decide_eq_true this.symm))) c
  rw[m_ _ k,aN,aN,h]
  rfl
def xY(K:Za):TS :=
 av (aR (uT) U1)
 (av (iM (dR K V0) U2 (pB V1 V2 (tC (.bl true))))
 (bb V1))
inductive kE(K:Za)(vs:List V)(H:Hp)(Q:VK)(E:XK):Prop
 |mk (l:Addr) (ts:Ze) (ds:List ar):(vs=[.ref l])->(H l=some (.lst (ts.map V.ref)))->(bD H ts ds)->(ds.length<=9000)->(∀d,H d=none->Q (.ref d) (upd H d (.dT (dh (ds.map jj)))))->kE K vs H Q E
theorem wE{K:Za}{r:List V}{H:Hp}{Q:VK}{E:XK}(h:kE K r H Q E):xY K (bF Q) (start o6 r) H:=by
 obtain⟨l,s,u,rfl,v,a,D,k⟩:=h;refine fun d m=>?_;have f:∀o,upd H d o l=some (.lst (s.map V.ref)):=fun o=>kp v m;refine⟨_,rfl,l,rfl,⟨_,aB.of (f _)⟩,?_⟩
 let n:Nat->L2.St->Hp->Prop:=fun i σ j=>∃x,σ=[some (.ref l),some (.ref d),x]/\j=upd H d (.dT (dh ((u.take i).map jj)))
 refine eA (xs:=s.map V.ref) n ⟨_,rfl,rfl⟩ (fun i σ j _ B=>by obtain⟨_,_,e⟩:=B;rw[e];exact aB.of (f _)) ?_ ?_
 ·rintro i x σ j hi ⟨y,rfl,rfl⟩;obtain⟨t,C,rfl⟩:=df hi;obtain⟨dr,p,q⟩:=Paired.getL a C;have g:(dh ((u.take i).map jj)).length<am:=cp (bp (tK _) (by rw[ao,aQ];omega));refine⟨_,rfl,_,rfl,d,_,rfl,.inr ⟨_,jj dr,t,aa,rfl,dS.tk (q.kt (ae.kt (ae.new m))),by rw[n6];decide,g,rfl⟩,_,rfl,?_⟩;rw[mI,take_snoc p,aN];exact congrArg (fun z=>upd H d (.dT z)) (iu _ _).symm
 ·rintro σ j ⟨x,rfl,rfl⟩;rw[ao,Paired.length a,cA];exact⟨_,rfl,k d m⟩
def wt(K:Za):Sp:=fun vs H Q E=>sp_as_keys K vs H Q E∨kE K vs H Q E
def NoTup(K:Za)(t:Addr):Prop:=∀(u:Addr) (o:Obj) (its:Array Value) (n:Nat) (x:Str) (k:Tok) (r:Zf),K.lookup u=some o->o.data=.seq its n->its.toList=.str x k::r->(x=("still":Str)->u=t/\r=[])/\x≠("ask":Str)/\x≠("say":Str)/\∀a q,r≠.ref a::q
theorem BI{K:Za}{H:Hp}:∀{e:Zb}{a:List V},TKCs K H (e.map rh) a->a=e.map V.str
 |[],a,h=>h
 |x::e,a,h=>by
  obtain⟨v,i,rfl,f,g⟩:=h;rw[BI g,bo];have:v=V.str x:=f;rw[this]
theorem BJ{K:Za}{H:Hp}{t s:Addr}{i:Zb}(j:NoTup K t)(u:H t=some (.tup (stillSg.map V.str)))(g:i=stillSg∨(∃w,i=[("ask":Str),w])∨∃w,i=[("say":Str),w])(h:sO K H (Bw i) (.ref s)):SignAt H s i:=by
 obtain⟨b,xs,e,m,z⟩:=h;cases e;have:=BI z;subst this;rcases m with m|⟨o,a,n,l,_,d,_,v⟩
 ·exact m
 ·have f:∀(x:Str) (r:Zb),i=x::r->∃k p,a.toList=.str x k::p:=fun x r e=>by
   rw[e]at v;cases q:a.toList with
   |nil=>rw[q]at v;cases v
   |cons y p =>
    rw[q]at v;cases v with
    |cons hx B =>
     obtain⟨k,rfl⟩:=hx;exact⟨k,p,rfl⟩
  rcases g with rfl|⟨w,rfl⟩|⟨w,rfl⟩
  ·obtain⟨k,r,q⟩:=f _ _ rfl;obtain⟨rfl,_⟩:=(j s o a n _ k r l d q).1 rfl;exact u
  ·obtain⟨k,r,q⟩:=f _ _ rfl;exact absurd rfl (j s o a n _ k r l d q).2.1
  ·obtain⟨k,r,q⟩:=f _ _ rfl;exact absurd rfl (j s o a n _ k r l d q).2.2.1
theorem BK{K:Za}{H:Hp}{m u:Addr}{d:ar}(p:NoTup K m)(x:H m=some (.tup (stillSg.map V.str)))(g:d.sg=stillSg∨(∃w,d.sg=[("ask":Str),w])∨∃w,d.sg=[("say":Str),w])(h:sO K H (jj d) (.ref u)):dS H u d:=by
 obtain⟨b,xs,e,j,f⟩:=h;cases e;obtain⟨z,N,rfl,B,f⟩:=f;obtain⟨O,Q,rfl,t,f⟩:=f;obtain⟨C,D,rfl,E,f⟩:=f;obtain rfl:D=[]:=f;obtain rfl:z=V.str d.a:=B;obtain rfl:C=V.str d.b:=E;obtain⟨s,T,G,U,Y⟩:=id t;subst G;refine⟨s,?_,BJ p x g t⟩;rcases j with j|⟨o,i,n,l,_,I,_,v⟩
 ·exact j
 ·cases q:i.toList with
  |nil=>rw[q]at v;cases v
  |cons y r =>
   rw[q]at v;cases v with
   |cons hx J =>
    obtain⟨k,rfl⟩:=hx;have L:=(p u o i n _ k r l I q).2.2.2;cases J with
    |cons M hz =>
     cases M;exact absurd rfl (L _ _)
theorem tp{K:Za}{H:Hp}{i:Addr}(j:NoTup K i)(k:H i=some (.tup (stillSg.map V.str))):∀{g:Ze}{a:List (TK×V)}{f:List ar},(∀d∈f,d.sg=stillSg∨(∃w,d.sg=[("ask":Str),w])∨∃w,d.sg=[("say":Str),w])->a.map nN=f.map jj->Paired (fun u (l:TK×V)=>sO K H l.1 (.ref u)) g a->bD H g f
 |[],[],[],_,_,_=>.nil
 |[],[],_::_,_,e,_=>by cases e
 |_::_,_::_,[],_,e,_=>by cases e
 |u::g,l::a,d::f,m,e,h=>by
  cases h with
  |cons n o =>
   rw[bo,bo]at e;injection e with p q;rw[p]at n;exact .cons (BK j k (m d eQ) n) (tp j k (fun x hx=>m x (dD _ hx)) q o)
def b9(J1:Zb):Nat->List Str->List Str->Option Nat
 |_,_,[]=>none
 |n,ahead,w::ws=>if w∈J1/\w∉ahead then b9 J1 (n+1) (ahead++[w]) ws else some n
def fj(J1 words:Zb):Option Nat:=match b9 J1 0 [] words with
 |some n=>some n
 |none=>if words.length=J1.length then some words.length else none
theorem wO{a words:Zb}{i:Nat}{w:Str}(e:words[i]?=some w)(h:b9 a i (words.take i) (words.drop i)=b9 a 0 [] words):
  b9 a 0 [] words=if w∈a/\w∉words.take i then b9 a (i+1) (words.take (i+1)) (words.drop (i+1))else some i:=by
 obtain⟨hi,rfl⟩:=da.mp e;rw[<-h,ue hi,take_snoc e]
 rfl
theorem rC{g:Zb}:∀{a ahead:Zb}{n:Nat},b9 g n ahead a=none->(∀w∈a,w∈g/\w∉ahead)/\a.Nodup
 |[],_,_,_=>⟨by simp,ki⟩
 |w::a,ahead,n,h=>by
  unfold b9 at h;split at h
  ·rename_i q;obtain⟨f,i⟩:=rC h;refine⟨fun x hx=>?_,jx.2 ⟨fun z=>(f w z).2 (by simp),i⟩⟩;rcases bY.1 hx with e|e
   ·rw[e];exact q
   ·exact⟨(f x e).1,fun z=>(f x e).2 (dC _ z)⟩
  ·cases h
theorem xN{a words:Zb}(h:fj a words=none):(∀w∈words,w∈a)/\words.Nodup/\words.length<a.length:=by
 unfold fj at h;split at h
 ·cases h
 ·rename_i q;obtain⟨g,e⟩:=rC q;split at h
  ·cases h
  ·rename_i c;have f:∀w∈words,w∈a:=fun w i=>(g w i).1;have:=jf e f;exact⟨f,e,by omega⟩
theorem A7{a:Zb}(h:a.Nodup):(a_ a).length=a.length:=by
 have:∀a:List Str,a.Nodup->(a_ a).length=a.length:=by
  intro a;refine fm (fun a=>a.Nodup->(a_ a).length=a.length) (fun _=>rfl) (fun a w f g=>?_) a;have e:=ee.1 g;show(a_ (a++[w])).length=_;rw[dQ,m_ _ ?_,aY,aY,f e.1];rfl;rw[rN,if_neg fun z=>e.2.2 w z w (by simp) rfl]
 exact this a h
theorem fW{w:Str}{a:Zb}:decide (bW w∈a.map bW)=decide (w∈a):=CD
inductive iS(C Cn:Addr)(vs:List V)(H:Hp)(Q:VK)(E:XK):Prop
 |mk (x l:Addr) (J0 J1 J2 words:Zb) (ds:List ar):(vs=[.ref x,.ref l])->(cX C H x J0 J1 J2 ds)->(H l=some (.lst (words.map V.str)))->(words.length<=100)->(fj J1 words=none->∀H',ae H H'->Q .non H')->(∀n,fj J1 words=some n->∀e H',Gb Cn n H H' e->E (.ref Cn) (some e) H')->iS C Cn vs H Q E
theorem wA{K:Za}{C Cn:Addr}{vs:List V}{H:Hp}{Q:VK}{E:XK}(h:iS C Cn vs H Q E):v9 K Cn (oq Cn "number") C (kZ C) (fun _=>E) (bF Q) (start xx vs) H:=by
 obtain⟨x,l,J0,a,J2,words,ds,rfl,M,L,hz,k,kx⟩:=h;have m:=M.ok;obtain⟨dx,fs,g1,a1,a2,a3,a4,_⟩:=rF M;refine⟨_,rfl,x,dx,fs,rfl,g1,a2,x,J0,a,J2,ds,rfl,M,fun g N=>?_⟩;have O:ae H (upd H g (.lst (a.map V.str))):=ae.new N;have s1:upd H g (.lst (a.map V.str)) g=some (.lst (a.map V.str)):=aa;generalize upd H g (.lst (a.map V.str))=I at O s1 ⊢;refine fun d hd=>?_;have T:ae I (upd I d (.dK [])):=ae.new hd;have d2:upd I d (.dK []) d=some (.dK (a_ [])):=aa;generalize upd I d (.dK [])=H2 at T d2 ⊢;have fd:H d=none:=O.free hd;have u:=O.trans T;refine⟨_,rfl,l,rfl,⟨_,aB.of (u _ _ L)⟩,?_⟩;refine gy (xs:=words.map V.str) (fun i σ s=>∃y z,σ=[some (.ref x),some (.ref l),some (.ref g),some (.ref d),y,z]/\ae H s/\s g=some (.lst (a.map V.str))/\s d=some (.dK (a_ (words.take i)))/\b9 a i (words.take i) (words.drop i)=b9 a 0 [] words) ⟨_,_,rfl,u,T _ _ s1,d2,rfl⟩ (fun i σ s _ zq=>by obtain⟨_,_,_,S,_⟩:=zq;exact aB.of (S _ _ L)) ?_ ?_
 ·rintro i v σ B p hi ⟨y,z,rfl,S,U,j,t⟩ Y;obtain⟨w,hw,rfl⟩:=cq hi;have il:=(da.1 hw).1;have st:=wO hw t;refine⟨p,_,rfl,bN.of aa,rfl,_,_,rfl,_,_,rfl,rfl,?_⟩;have f:upd B p (.tup [.int i,.str w]) g=_:=kp U Y;have r:upd B p (.tup [.int i,.str w]) d=_:=kp j Y;have S4:ae H (upd B p (.tup [.int i,.str w])):=S.trans (ae.new Y);generalize upd B p (.tup [.int i,.str w])=H4 at f r S4 ⊢;refine⟨_,rfl,_,rfl,bW w,a.map bW,g,_,iB _,rfl,.inl (aB.of f),gH a,cf _,by rw[bR];decide,_,rfl,?_⟩;show if(if true=true then !decide (bW w∈a.map bW)else _)=true then _ else _
  rw[if_pos rfl,fW];have D:¬(w∈a/\w∉words.take i)->kW Cn (oq Cn "number") (aK V4) (fun _=>E) (bF Q) [some (.ref x),some (.ref l),some (.ref g),some (.ref d),some (.int i),some (.str w)] H4:=fun q =>
   wF (n:=i) (fun Q q=>⟨_,rfl,q⟩) fun e s xe=>kx i (by unfold fj;rw[st,if_neg q]) e s (xe.pre S4)
  by_cases c:w∈a
  ·rw[zzr1 c];refine bj ⟨_,rfl,_,rfl,d,_,rfl,.inl ⟨_,.inr w,.inl r,rfl,rfl⟩,_,rfl,?_⟩;rw[fV];by_cases J:w∈words.take i
   ·rw[zzr1 J];exact bB (D fun q=>q.2 J)
   ·rw[zzr0 J];have G:(a_ (words.take i)).length<am:=aG (bp (jM _) (by rw[aQ];omega));refine bj ⟨_,rfl,_,rfl,d,_,rfl,.inl ⟨_,.inr w,r,rfl,G,rfl⟩,_,_,rfl,fun b o q=>?_,?_,?_,?_⟩
    ·rw[ai (ah q fd)];exact S4 _ _ q
    ·rw[ai (fun z=>by rw[z,r]at f;cases f)];exact f
    ·rw[aa,take_snoc hw];exact congrArg (fun z=>some (HO.dK z)) (dQ _ _).symm
    ·rw[st,if_pos ⟨c,J⟩]
  ·rw[zzr0 c];exact bB (bB (D fun q=>c q.1))
 ·rintro σ B ⟨y,z,rfl,S,U,j,t⟩;rw[ao,qt]at t;rw[ao,cA]at j;have t:b9 a 0 [] words=none:=t.symm;have nd:=(rC t).2;refine⟨_,rfl,.inr ⟨d,_,rfl,.inl j,_,rfl,.inl ⟨g,_,rfl,.inl (aB.of U),rfl,_,rfl,?_⟩⟩⟩;rw[A7 nd,ao,CC];by_cases c:words.length=a.length
  ·rw[zzr1 c];refine bB (wF (n:=words.length) (fun Q q=>⟨_,rfl,.inl ⟨l,_,rfl,.inl (aB.of (S _ _ L)),by rw[ao];exact q⟩⟩) fun e s xe=>kx _ (by unfold fj;rw[t];exact if_pos c) e s (xe.pre S))
  ·rw[zzr0 c];exact bj (k (by unfold fj;rw[t];exact if_neg c) _ S)
def uW(w:Str):List Str:=[("say":Str),w]
def i3(ws:Zb)(sg:Zb):List Str:=if sg∈ws.map uW then stillSg else sg
def jh(ws:Zb)(d:ar):ar:=⟨d.a,i3 ws d.sg,d.b⟩
def cr(ws:Zb)(ds:List ar):List ar:=ir (ds.map (jh ws))
def c8(ws J1:Zb):List Str:=J1.filter fun w=>!decide (w∈ws)
theorem BR{ws a:Zb}(g:a=stillSg∨(∃w,a=[("ask":Str),w])∨∃w,a=uW w):∃x r,a=x::r/\((x=("say":Str)/\∃w,r=[w]/\i3 ws a=if w∈ws then stillSg else a)∨(x≠("say":Str)/\i3 ws a=a)):=by
 have f:∀{x:Str}{r:Zb},x≠"say"->i3 ws (x::r)=x::r:=fun{x r} h=>by
  unfold i3;rw[if_neg];intro z;obtain⟨w,_,e⟩:=bh.1 z;unfold uW at e;injection e with e;exact h e.symm
 rcases g with rfl|⟨w,rfl⟩|⟨w,rfl⟩
 ·exact⟨_,_,rfl,.inr ⟨by decide,f (by decide)⟩⟩
 ·exact⟨_,_,rfl,.inr ⟨by decide,f (by decide)⟩⟩
 ·refine⟨_,_,rfl,.inl ⟨rfl,w,rfl,?_⟩⟩;unfold i3;by_cases c:w∈ws
  ·rw[if_pos c,if_pos (lN c)]
  ·rw[if_neg c,if_neg];intro z;obtain⟨v,i,e⟩:=bh.1 z;unfold uW at e;injection e with _ e;injection e with e;exact c (e▸i)
def fA(K:Za)(H:Hp)(aS:Addr):Prop:=bw K bq "STILL"=some (some (.ref aS))/\NoTup K aS/\H aS=some (.tup (stillSg.map V.str))
theorem fA.same{K:Za}{H a:Hp}{e:Addr}(h:fA K H e)(S:ae H a):fA K a e:=⟨h.1,h.2.1,S _ _ h.2.2⟩
theorem fA.eq{K:Za}{H:Hp}{e a:Addr}(h:fA K H e)(g:bw K bq "STILL"=some (some (.ref a))):a=e:=by
 have:=g.symm.trans h.1;injection this with this;injection this with this;injection this
inductive jE(K:Za)(vs:List V)(H:Hp)(Q:VK)(E:XK):Prop
 |mk (aS s l:Addr) (sg words:Zb):(vs=[.ref s,.ref l])->(fA K H aS)->(SignAt H s sg)->(sg=stillSg∨(∃w,sg=[("ask":Str),w])∨∃w,sg=uW w)->(H l=some (.lst (words.map V.str)))->(∀u,SignAt H u (i3 words sg)->Q (.ref u) H)->jE K vs H Q E
theorem yo{K:Za}{i:Addr}(c:bw K bq "STILL"=some (some (.ref i))){m:List V}{H:Hp}{Q:VK}{E:XK}(h:jE K m H Q E):sA K i (bF Q) (start sT m) H:=by
 obtain⟨a,s,l,n,words,rfl,st,f,g,o,k⟩:=h;obtain rfl:=st.eq c;have f:H s=some (.tup (n.map V.str)):=f;obtain⟨x,r,rfl,g⟩:=BR (ws:=words) g;refine⟨_,rfl,.inr (.inl ⟨s,_,0,.str x,rfl,rfl,bN.of f,c_ (j:=0) rfl,rfl,_,rfl,?_⟩)⟩;rcases g with⟨rfl,w,rfl,e⟩|⟨p,e⟩
 ·rw[zzr1 rfl];refine bB ⟨_,rfl,.inr (.inl ⟨s,_,1,.str w,rfl,rfl,bN.of f,c_ (j:=1) rfl,_,rfl,bW w,words.map bW,l,_,iB _,rfl,.inl (aB.of o),gH words,cf _,by rw[bR];decide,_,rfl,?_⟩)⟩;show if(if false=true then _ else decide (bW w∈words.map bW))=true then _ else _
  rw[fW];show if decide (w∈words)=true then _ else _
  rw[e]at k;by_cases c:w∈words
  ·rw[zzr1 c];rw[if_pos c]at k;exact bB (k _ st.2.2)
  ·rw[zzr0 c];rw[if_neg c]at k;exact bj ⟨_,rfl,k _ f⟩
 ·rw[zzr0 (fun z=>p (by injection z))];rw[e]at k;exact bj (bj ⟨_,rfl,k _ f⟩)
theorem pG(words a:Zb):(c8 words a).length<=a.length:=fH _ _
theorem jN(words:Zb)(a:List ar):(cr words a).length<=a.length:=by
 have:=z_ (a.map (jh words));rw[ao]at this;exact this
theorem gv{words a:Zb}{w:Str}:w∈c8 words a↔w∈a/\w∉words:=by
 unfold c8;rw[eZ];exact and_congr tX (by simp)
theorem yO{words a:Zb}(e:a.Nodup)(h:fj a words=none):c8 words a≠[]:=fun z=>by
 obtain⟨g,i,j⟩:=xN h;have:∀w∈a,w∈words:=fun w f=>Decidable.by_contra fun c=>by
  have:=gv.2 ⟨f,c⟩;rw[z]at this;cases this
 have:=jf e this;omega
theorem yN{h i J2 words a:Zb}(g:(∃w∈h,a=[("ask":Str),w])∨(∃w∈i,a=[("say":Str),w])∨a=stillSg):
  (∃w∈h,i3 words a=[("ask":Str),w])∨(∃w∈c8 words i,i3 words a=[("say":Str),w])∨i3 words a=stillSg:=by
 by_cases c:a∈words.map uW
 ·unfold i3;rw[if_pos c];exact .inr (.inr rfl)
 ·have e:i3 words a=a:=if_neg c;rw[e];refine g.imp id (Or.imp (fun z=>?_) id);obtain⟨w,j,q⟩:=z;exact⟨w,gv.2 ⟨j,fun y=>c (by rw[q];exact lN (f:=uW) y)⟩,q⟩
theorem oQ{k f J2 words:Zb}{i:List ar}(m:cL k f J2 i)(h:fj f words=none):fB k (c8 words f) J2 (cr words i):=by
 have o:=m.few;have p:=pG words f;have q:=jN words i;have r:=m.says4;refine⟨m.okA,⟨m.okS.1.filter _,fun w j=>m.okS.2 w (gv.1 j).1⟩,fun w j=>m.apart w (gv.1 j).1,m.okR,m.asks0,yO m.okS.1 h,m.rooms0,m.asks4,by omega,m.rooms26,FC _,fun d l=>?_,by omega⟩;obtain⟨e,n,rfl⟩:=bh.1 (Ab.1 l);have g:=m.good e n;exact⟨g.a,g.b,yN (J2:=J2) g.sg⟩
theorem DQ{h e i words:Zb}{g:List ar}(m:cL h e i g):F0 h (c8 words e) i (cr words g):=by
 have f:=m.few';have k:=pG words e;have l:=jN words g;have:=f.s;have:=f.d;exact⟨f.a,by omega,f.r,by omega,f.wa,fun w j=>f.ws w (gv.1 j).1,f.wr⟩
theorem rR{a f h:Zb}{d:ar}(g:Az a f h d):d.sg=stillSg∨(∃w,d.sg=[("ask":Str),w])∨∃w,d.sg=uW w:=by
 rcases g.sg with⟨w,_,e⟩|⟨w,_,e⟩|e
 ·exact .inr (.inl ⟨w,e⟩)
 ·exact .inr (.inr ⟨w,e⟩)
 ·exact .inl e
inductive sp_hidden(K:Za)(C Cx Cn:Addr)(vs:List V)(H:Hp)(Q:VK)(E:XK):Prop
 |mk (aS x l:Addr) (J0 J1 J2 words:Zb) (ds:List ar):(vs=[.ref x,.ref l])->(fA K H aS)->(cX C H x J0 J1 J2 ds)->(H l=some (.lst (words.map V.str)))->(words.length<=100)->(∀n,fj J1 words=some n->∀e H',Gb Cn n H H' e->E (.ref Cn) (some e) H')->(fj J1 words=none->∃o,lh J0 (c8 words J1) J2 (cr words ds) o/\(o=none->∀y H',xD C H' y J0 (c8 words J1) J2 (cr words ds)->ae H H'->Q (.ref y) H')/\(∀p n,o=some (p,n)->∀a H',Gd Cx H' a (.str p) (.int (n:Nat))->ae H H'->E (.ref Cx) (some a) H'))->sp_hidden K C Cx Cn vs H Q E
theorem AT{K:Za}{C Cx Cn:Addr}{k:List V}{H:Hp}{Q:VK}{E:XK}(h:sp_hidden K C Cx Cn k H Q E):BM K (wt K) C (kB C) (mW C) (kC C Cx) (kZ C) (mV C) (jE K) (iS C Cn) (fun _=>E) (bF Q) (start CY k) H:=by
 obtain⟨aS,x,l,B,r,G,words,I,rfl,st,M,hl,hz,kn,km⟩:=h;have m:=M.ok;have z4:=m.few;have z3:=m.rooms26;have zs:=m.says4;refine⟨_,rfl,_,rfl,x,l,B,r,G,words,I,rfl,M,hl,hz,fun tv H1 S1=>?_,kn⟩;obtain⟨o,v,ko,ke⟩:=km tv;obtain⟨dx,o4,fs,ts,g1,b1,b2,b3,b4⟩:=Cj (M.same S1);refine⟨_,rfl,x,dx,fs,rfl,g1,b1,x,dx,o4,fs,ts,rfl,g1,b2,b3,fun w hw=>?_⟩;have S2:ae H1 (upd H1 w (.lst (ts.map V.ref))):=ae.new hw;have w2:upd H1 w (.lst (ts.map V.ref)) w=some (.lst (ts.map V.ref)):=aa;have D2:=b4.kt (ae.kt S2);refine⟨w,rfl,⟨_,aB.of w2⟩,?_⟩;generalize upd H1 w (.lst (ts.map V.ref))=H2 at S2 w2 D2 ⊢;have J:=S1.trans S2;have N:=J _ _ hl;have an:=st.same J;have a5:=Paired.length D2;refine fun f hf=>?_;refine cI (xs:=ts.map V.ref) (fun i k j=>∃us:List Addr,k=us.map V.ref/\bD j us ((I.take i).map (jh words))/\ae H2 j/\j f=some (.lst k)) ⟨[],rfl,.nil,ae.new hf,aa⟩ (fun i k j _ zq=>by obtain⟨_,_,_,S,h'⟩:=zq;exact⟨h',aB.of (S _ _ w2)⟩) ?_ ?_;rotate_left
 ·rintro i k j xv hx hi ⟨us,rfl,D,S,f'⟩;obtain⟨t,ht,rfl⟩:=df hx;obtain⟨dr,ap,a6⟩:=Paired.getL D2 ht;obtain⟨s,a7,a8⟩:=a6.kt (ae.kt S);have gd:=m.good dr (cT ap);refine⟨t,_,rfl,bN.of a7,rfl,_,_,rfl,_,_,rfl,_,_,rfl,rfl,?_⟩;refine xK ⟨_,rfl,_,rfl,_,rfl,aS,s,l,dr.sg,words,rfl,an.same S,a8,rR gd,S _ _ N,fun u hu=>⟨_,rfl,(by show 3<=am;decide),fun p O=>⟨kp f' O,?_,pW hi ⟨us++[p],by rw[aN];rfl,?_,?_,aa⟩⟩⟩⟩
  ·rw[ao,Paired.length D,ao];exact cp (by rw[aQ];omega)
  ·rw[take_snoc ap,aN];have f2:=kp (x:=.tup [.str dr.a,.ref u,.str dr.b]) f' O;exact Paired.app ((D.kt (ae.kt (ae.new O))).kt (fy (kp f' O))) (.cons (dS.kt (fy (kp f' O)) ⟨u,aa,kp hu O⟩) .nil)
  ·intro b o q;rw[ai (ah q hf)];exact kp (S _ _ q) O
 rintro k H3 ⟨us,rfl,D3,S3,f3⟩;rw[ao,a5,cA]at D3;have T:=J.trans S3;obtain⟨U,Y,ab,a1,a2,a3,a4,_⟩:=rF (M.same T);refine⟨_,rfl,x,U,Y,rfl,ab,a2,x,B,r,G,I,rfl,M.same T,fun sl a9=>⟨sl,rfl,⟨_,aB.of aa⟩,fun g hg=>?_⟩⟩;have S4:ae H3 (upd H3 sl (.lst (r.map V.str))):=ae.new a9;have s4:upd H3 sl (.lst (r.map V.str)) sl=some (.lst (r.map V.str)):=aa;generalize upd H3 sl (.lst (r.map V.str))=H4 at S4 s4 hg ⊢;have aq:=S4 _ _ (S3 _ _ N);refine cI (xs:=r.map V.str) (fun i k j=>k=((r.take i).filter fun w=>!decide (w∈words)).map V.str/\ae H4 j/\j g=some (.lst k)) ⟨rfl,ae.new hg,aa⟩ (fun i k j _ zq=>by obtain⟨_,S,h'⟩:=zq;exact⟨h',aB.of (S _ _ s4)⟩) ?_ ?_;rotate_left
 ·rintro i k j xv hx hi ⟨rfl,S,g'⟩;obtain⟨w,hw,rfl⟩:=cq hx;refine gN ⟨_,rfl,_,rfl,bW w,words.map bW,l,_,iB _,rfl,.inl (aB.of (S _ _ aq)),gH words,cf _,by rw[bR];decide,_,rfl,?_⟩;show if(if true=true then !decide (bW w∈words.map bW)else _)=true then _ else _
  rw[if_pos rfl,fW];refine iy (fun c=>?_) (fun c=>?_)
  ·refine⟨_,rfl,g',?_,pW hi ⟨?_,?_,aa⟩⟩
   ·rw[ao];refine aG (bp (fH _ _) ?_);rw[aQ];omega
   ·rw[eU hw,if_pos c,aN];rfl
   ·intro b o q;rw[ai (ah q hg)];exact S _ _ q
  ·refine pW hi ⟨?_,S,g'⟩;rw[eU hw,if_neg c,cO]
 rintro k H5 ⟨rfl,S5,g5⟩;rw[ao,cA]at g5;have g5:H5 g=some (.lst ((c8 words r).map V.str)):=g5;have z:=S4.trans S5;have ak:=T.trans z;have f5:=z _ _ f3;have D5:=D3.kt (ae.kt z);clear S1 S2 J S3 S4 S5 s4 aq D3 f3 w2 N an D2;refine⟨_,rfl,x,U,Y,rfl,z _ _ ab,a1,x,B,r,G,I,rfl,M.same ak,fun al bd=>?_⟩;have S6:ae H5 (upd H5 al (.lst (B.map V.str))):=ae.new bd;have e6:upd H5 al (.lst (B.map V.str)) al=some (.lst (B.map V.str)):=aa;generalize upd H5 al (.lst (B.map V.str))=H6 at S6 e6 ⊢;have bi:=z.trans S6;refine⟨_,rfl,_,rfl,x,U,Y,rfl,bi _ _ ab,a3,x,B,r,G,I,rfl,M.same (ak.trans S6),fun rl bl=>?_⟩;have S7:ae H6 (upd H6 rl (.lst (G.map V.str))):=ae.new bl;have e7:upd H6 rl (.lst (G.map V.str)) rl=some (.lst (G.map V.str)):=aa;generalize upd H6 rl (.lst (G.map V.str))=H7 at S7 e7 ⊢;have L:=S6.trans S7;refine⟨_,rfl,Or.inr ⟨f,us,I.map (jh words),rfl,L _ _ f5,D5.kt (ae.kt L),by rw[ao];omega,fun d hd=>⟨d,_,rfl,aa,fun ll ws as pr=>?_⟩⟩⟩;have S8:ae H7 (upd H7 d (.dT (dh ((I.map (jh words)).map jj)))):=ae.new hd;generalize upd H7 d (.dT (dh ((I.map (jh words)).map jj)))=H8 at S8 pr as ⊢;have aC:ae H H8:=(ak.trans L).trans S8;have aT:=st.same aC;have D8:bD H8 ws (cr words I):=tp aT.2.1 aT.2.2 (fun d hd=>rR ((oQ m tv).good d hd)) (A8 _) pr;have S9:ae H8 (upd H8 ll (.lst (ws.map V.ref))):=ae.new as;have e9:upd H8 ll (.lst (ws.map V.ref)) ll=some (.lst (ws.map V.ref)):=aa;generalize upd H8 ll (.lst (ws.map V.ref))=H9 at S9 e9 ⊢;have bm:=(L.trans S8).trans S9;have L9:Lists H9 al g rl ll ws B (c8 words r) G (cr words I):=⟨S9 _ _ (S8 _ _ (S7 _ _ e6)),bm _ _ g5,S9 _ _ (S8 _ _ e7),e9,D8.kt (ae.kt S9)⟩;have aX:=aC.trans S9;refine fun y dy hy bn b0=>?_;have b5:upd H9 dy (.own y) y=none:=by rw[ai b0.symm];exact hy
 have a0:ae H9 (upd (upd H9 dy (.own y)) y (.ins C dy [])):=(ae.new bn).trans (ae.new b5);have ext:∀j,cv y (upd (upd H9 dy (.own y)) y (.ins C dy [])) j->ae H j:=fun j ex b o e=>ex _ _ (a0 _ _ (aX _ _ e)) (ah (aX _ _ e) hy);exact⟨y,dy,al,g,rl,ll,ws,B,_,G,_,o,rfl,aa,L9.same a0,DQ m,v,fun ho j mb ex=>⟨rfl,ko ho y j mb (ext j ex)⟩,fun p n ho a j xa ex=>ke p n ho a j xa (ext j ex)⟩
inductive iU(vs:List V)(H:Hp)(Q:VK)(E:XK):Prop
 |mk (l4 l:Addr) (ts:Ze) (words:Zb) (ds:List ar):(vs=[.ref l4,.ref l])->(H l4=some (.lst (ts.map V.ref)))->(bD H ts ds)->(H l=some (.lst (words.map V.str)))->(ds.length<=1000)->(∀d∈ds,d.sg=stillSg∨(∃w,d.sg=[("ask":Str),w])∨∃w,d.sg=uW w)->(∀(f:Addr) (us:Ze) (H':Hp),H' f=some (.lst (us.map V.ref))->bD H' us (cr words ds)->ae H H'->Q (.ref f) H')->iU vs H Q E
theorem Cz{d:ar}{a:List ar}:decide (jk d∈a.map jk)=decide (d∈a):=decide_eq_decide.mpr ⟨fun z=>by
  obtain⟨e,f,q⟩:=bh.mp z;rw[<-As q];exact f,fun z=>bh.mpr ⟨d,z,rfl⟩⟩
theorem wD{K:Za}{vs:List V}{H:Hp}{Q:VK}{E:XK}(h:iU vs H Q E):lX K (bF Q) (start mm vs) H:=by
 obtain⟨l4,l,ts,words,v,rfl,h4,M,hl,hz,gs,k⟩:=h;refine⟨(by show 0<=am;decide),fun f hf=>?_⟩;have S0:ae H (upd H f (.lst [])):=ae.new hf;refine⟨_,rfl,l4,rfl,⟨_,aB.of (S0 _ _ h4)⟩,?_⟩;have ld:=Paired.length M;refine eA (xs:=ts.map V.ref) (fun i σ B=>NE4 fun(x y z:Option V) (m:Ze)=>NA4 (σ=[some (.ref l4),some (.ref l),some (.ref f),x,y,z]) (ae H B) (B f=some (.lst (m.map V.ref))) (bD B m (ir ((v.take i).map (jh words))))) ⟨_,_,_,[],rfl,S0,aa,.nil⟩ (fun i σ B _ zq=>by obtain⟨_,_,_,_,_,S,_⟩:=zq;exact aB.of (S _ _ h4)) ?_ ?_
 ·rintro i xv σ L hi ⟨x,y,z,m,rfl,S,C,D⟩;obtain⟨t,ht,rfl⟩:=df hi;obtain⟨dr,G,ab⟩:=Paired.getL M ht;have il:=(da.1 G).1;obtain⟨s,ak,I⟩:=ab.kt (ae.kt S);refine⟨t,_,rfl,bN.of ak,rfl,_,_,rfl,_,_,rfl,_,_,rfl,rfl,?_⟩;obtain⟨x0,r,al,g⟩:=BR (ws:=words) (gs dr (cT G));have N:L s=some (.tup ((x0::r).map V.str)):=al▸I;have J:∀(u:Addr) (n:Hp),ae L n->SignAt n u (i3 words dr.sg) ->
    bS (ba (aM (l_ K true) (eV (gR V3 V4 V5)) V2)) (dF (yf K "list" gU V2 (aK (eV (gR V3 V4 V5))))) (aZ)
     { nx:=fun σ' B=>NE4 fun(x y z:Option V) (m:Ze)=>NA4 (σ'=[some (.ref l4),some (.ref l),some (.ref f),x,y,z]) (ae H B) (B f=some (.lst (m.map V.ref))) (bD B m (ir ((v.take (i+1)).map (jh words)))),rt:=Q } [some (.ref l4),some (.ref l),some (.ref f),some (.str dr.a),some (.ref u),some (.str dr.b)] n:=by
   intro u n S2 hu;have O:=S.trans S2;have f2:=S2 _ _ C;have D2:=D.kt (ae.kt S2);have en:ir ((v.take (i+1)).map (jh words))=wI (ir ((v.take i).map (jh words))) (jh words dr):=by
    rw[take_snoc G,aN];exact je _ _
   have nl:=z_ ((v.take i).map (jh words));rw[ao,aQ]at nl;rw[en];unfold wI;refine⟨_,rfl,_,rfl,_,rfl,(by show 3<=am;decide),fun p T=>?_⟩;have U:ae n (upd n p (.tup [.str dr.a,.ref u,.str dr.b])):=ae.new T;have ap:dS (upd n p (.tup [.str dr.a,.ref u,.str dr.b])) p (jh words dr):=⟨u,aa,kp hu T⟩;have Y:=U _ _ f2;have D3:=D2.kt (ae.kt U);have u3:SignAt (upd n p (.tup [.str dr.a,.ref u,.str dr.b])) u (i3 words dr.sg):=kp hu T;generalize upd n p (.tup [.str dr.a,.ref u,.str dr.b])=H3 at U ap Y D3 u3 ⊢;refine⟨_,rfl,jk (jh words dr),(ir ((v.take i).map (jh words))).map jk,f,_,ap.dIn,rfl,.inl (aB.of Y),D3.dIns,by rw[nD];decide,tP _,_,rfl,?_⟩;show if(if true=true then !decide (jk (jh words dr)∈(ir ((v.take i).map (jh words))).map jk)else _)=true then _ else _
   rw[if_pos rfl,Cz];by_cases c:jh words dr∈ir ((v.take i).map (jh words))
   ·rw[zzr1 c,if_pos c];exact bj ⟨_,_,_,m,rfl,O.trans U,Y,D3⟩
   ·rw[zzr0 c,if_neg c];refine bB ⟨_,rfl,.inl ⟨rfl,m.map V.ref,aB.of Y⟩,_,rfl,_,rfl,_,rfl,(by show 3<=am;decide),fun q hq=>?_⟩;have S4:ae H3 (upd H3 q (.tup [.str dr.a,.ref u,.str dr.b])):=ae.new hq;have aq:dS (upd H3 q (.tup [.str dr.a,.ref u,.str dr.b])) q (jh words dr):=⟨u,aa,kp u3 hq⟩;have f4:=S4 _ _ Y;refine⟨f,_,_,rfl,rfl,f4,?_,_,_,_,m++[q],rfl,?_,?_,?_⟩
    ·rw[ao,Paired.length D3];exact aG (by omega)
    ·intro b o e;rw[ai (ah e hf)];exact S4 _ _ (U _ _ (O _ _ e))
    ·rw[aa,aN];rfl
    ·exact Paired.app ((D3.kt (ae.kt S4)).kt (fy f4)) (.cons (aq.kt (fy f4)) .nil)
  refine⟨_,rfl,.inr (.inl ⟨s,_,0,.str x0,rfl,rfl,bN.of N,c_ (j:=0) rfl,rfl,_,rfl,?_⟩)⟩;rcases g with⟨rfl,w,rfl,e⟩|⟨nx,e⟩
  ·rw[zzr1 rfl];refine bB ⟨_,rfl,.inr (.inl ⟨s,_,1,.str w,rfl,rfl,bN.of N,c_ (j:=1) rfl,_,rfl,bW w,words.map bW,l,_,iB _,rfl,.inl (aB.of (S _ _ hl)),gH words,cf _,by rw[bR];decide,_,rfl,?_⟩)⟩;show if(if false=true then _ else decide (bW w∈words.map bW))=true then _ else _
   rw[fW];show if decide (w∈words)=true then _ else _
   by_cases c:w∈words
   ·rw[zzr1 c];rw[if_pos c]at e;refine bB ⟨(by show 1<=am;decide),fun p T=>?_⟩;exact J p _ (ae.new T) (by rw[e];exact aa)
   ·rw[zzr0 c];rw[if_neg c]at e;exact bj (J s L (ae.refl _) (by rw[e];exact I))
  ·rw[zzr0 (fun z=>nx (by injection z))];exact bj (bj (J s L (ae.refl _) (by rw[e];exact I)))
 ·rintro σ L ⟨x,y,z,m,rfl,S,C,D⟩;rw[ao,ld,cA]at D;exact⟨_,rfl,k f m L C D S⟩
inductive jc(vs:List V)(H:Hp)(Q:VK)(E:XK):Prop
 |mk (tt l1 l2 l3 l4 l:Addr) (ts:Ze) (J0 J1 J2 words:Zb) (ds:List ar):(vs=[.ref tt,.ref l])->(vI H tt l1 l2 l3 l4 ts J0 J1 J2 ds)->(H l=some (.lst (words.map V.str)))->(words.length<=100)->(cL J0 J1 J2 ds) ->
  (∀n,fj J1 words=some n->∀t H',H' t=some (.tup [.str "word",.int (n:Nat)])->ae H H'->Q (.ref t) H') ->
  (fj J1 words=none->∀o,fC J2 (fun r=>Reach (cr words ds) r r) o->(∀n,o=some n->∀t H',H' t=some (.tup [.str "still",.int (n:Nat)])->ae H H'->Q (.ref t) H')/\(o=none->∀(r q1 q2 q3 q4:Addr) (us:Ze) H',H' r=some (.lst [.ref q1,.ref q2,.ref q3,.ref q4])->Lists H' q1 q2 q3 q4 us J0 (c8 words J1) J2 (cr words ds)->ae H H'->Q (.ref r) H'))->jc vs H Q E
theorem AU{K:Za}{s:List V}{H:Hp}{Q:VK}{E:XK}(h:jc s H Q E):n_ K mS iU (bF Q) (start oY s) H:=by
 obtain⟨O,J,D,G,U,l,ts,J0,J1,J2,words,ds,rfl,T,x,hz,m,kn,km⟩:=h;have z4:=m.few;have zs:=m.says4;refine⟨_,rfl,O,_,rfl,bN.of T.t,rfl,_,_,rfl,_,_,rfl,_,_,rfl,_,_,rfl,rfl,?_⟩;refine⟨_,rfl,l,rfl,⟨_,aB.of x⟩,?_⟩;refine gy (xs:=words.map V.str) (fun i σ j=>∃y z,σ=[some (.ref O),some (.ref l),some (.ref J),some (.ref D),some (.ref G),some (.ref U),y,z]/\ae H j/\b9 J1 i (words.take i) (words.drop i)=b9 J1 0 [] words) ⟨_,_,rfl,ae.refl _,rfl⟩ (fun i σ j _ zq=>by obtain⟨_,_,_,S,_⟩:=zq;exact aB.of (S _ _ x)) ?_ ?_
 ·rintro i v σ H3 p hi ⟨y,z,rfl,S,B⟩ hp;obtain⟨w,Y,rfl⟩:=cq hi;have st:=wO Y B;refine⟨p,_,rfl,bN.of aa,rfl,_,_,rfl,_,_,rfl,rfl,?_⟩;have u:ae H (upd H3 p (.tup [.int i,.str w])):=S.trans (ae.new hp);generalize upd H3 p (.tup [.int i,.str w])=I at u ⊢;have L:∀C,ae H C->¬(w∈J1/\w∉words.take i)->bb (eV (aF (tC (.str "word")) V6)) { nx:=fun σ' j=>∃y z,σ'=[some (.ref O),some (.ref l),some (.ref J),some (.ref D),some (.ref G),some (.ref U),y,z]/\ae H j/\b9 J1 (i+1) (words.take (i+1)) (words.drop (i+1))=b9 J1 0 [] words,rt:=Q } [some (.ref O),some (.ref l),some (.ref J),some (.ref D),some (.ref G),some (.ref U),some (.int i),some (.str w)] C:=fun C k q =>
   ⟨_,rfl,(by show 2<=am;decide),fun t M=>kn i (by unfold fj;rw[st,if_neg q]) t _ aa (k.trans (ae.new M))⟩
  refine⟨_,rfl,_,rfl,bW w,J1.map bW,D,_,iB _,rfl,.inl (aB.of (u _ _ T.a2)),gH J1,cf _,by rw[bR];decide,_,rfl,?_⟩;show if(if true=true then !decide (bW w∈J1.map bW)else _)=true then _ else _
  rw[if_pos rfl,fW];by_cases c:w∈J1
  ·rw[zzr1 c];refine bj ⟨_,rfl,_,rfl,_,rfl,_,rfl,l,_,rfl,aB.of (u _ _ x),fun q hq=>?_⟩;rw[vy];have k:ae I (upd I q (.lst ((words.take i).map V.str))):=ae.new hq;have e5:upd I q (.lst ((words.take i).map V.str)) q=some (.lst ((words.take i).map V.str)):=aa;generalize upd I q (.lst ((words.take i).map V.str))=C at k e5 ⊢;refine⟨bW w,(words.take i).map bW,q,_,iB _,rfl,.inl (aB.of e5),gH _,cf _,by rw[bR];decide,_,rfl,?_⟩;show if(if false=true then _ else decide (bW w∈(words.take i).map bW))=true then _ else _
   rw[fW];show if decide (w∈words.take i)=true then _ else _
   by_cases c2:w∈words.take i
   ·rw[zzr1 c2];exact bB (L C (u.trans k) fun q=>q.2 c2)
   ·rw[zzr0 c2];exact bj ⟨_,_,rfl,u.trans k,by rw[st,if_pos ⟨c,c2⟩]⟩
  ·rw[zzr0 c];exact bB (bB (L I u fun q=>c q.1))
 ·rintro σ H3 ⟨y,z,rfl,S,B⟩;rw[ao,qt]at B;have B:b9 J1 0 [] words=none:=B.symm;refine⟨_,rfl,.inl ⟨l,_,rfl,.inl (aB.of (S _ _ x)),_,rfl,.inl ⟨D,_,rfl,.inl (aB.of (S _ _ T.a2)),rfl,_,rfl,?_⟩⟩⟩;rw[ao,ao,CC];by_cases c:words.length=J1.length
  ·rw[zzr1 c];refine bB ⟨_,rfl,.inl ⟨l,_,rfl,.inl (aB.of (S _ _ x)),?_⟩⟩;rw[ao];exact⟨(by show 2<=am;decide),fun t M=>kn words.length (by unfold fj;rw[B];exact if_pos c) t _ aa (S.trans (ae.new M))⟩
  ·rw[zzr0 c];refine bj ?_;have tv:fj J1 words=none:=by unfold fj;rw[B];exact if_neg c
   have km:=km tv;have T3:=T.same S;refine⟨_,rfl,_,rfl,U,l,ts,words,ds,rfl,T3.a4,T3.ds,S _ _ x,z4,fun d hd=>rR (m.good d hd),fun f us I f4 D4 u=>?_⟩;have N:=S.trans u;refine⟨_,rfl,_,rfl,G,f,us,J0,_,J2,_,rfl,N _ _ T.a3,f4,D4,oQ m tv,fun o C fi k=>?_⟩;have a:=N.trans k;obtain⟨k1,k2⟩:=km o fi;cases o with
   |some n =>
    refine⟨_,rfl,_,rfl,?_⟩;rw[zzr0 (by intro z;cases z)];refine bB ⟨_,rfl,(by show 2<=am;decide),fun t M=>k1 n rfl t _ aa (a.trans (ae.new M))⟩
   |none =>
    refine⟨_,rfl,_,rfl,?_⟩;rw[show(!decide (oV none=V.non))=false by rw[zzr1 (show oV none=V.non from rfl)];rfl];refine bj ⟨_,rfl,_,rfl,D,rfl,⟨_,aB.of (a _ _ T.a2)⟩,fun g hg=>?_⟩;refine cI (xs:=J1.map V.str) (fun i s j=>s=((J1.take i).filter fun w=>!decide (w∈words)).map V.str/\ae C j/\j g=some (.lst s)) ⟨rfl,ae.new hg,aa⟩ (fun i s j _ zq=>by obtain⟨_,S,h'⟩:=zq;exact⟨h',aB.of (S _ _ (a _ _ T.a2))⟩) ?_ ?_;rotate_left
    ·rintro i s j xv hx hi ⟨rfl,S',g'⟩;obtain⟨w,Y,rfl⟩:=cq hx;refine gN ⟨_,rfl,_,rfl,bW w,words.map bW,l,_,iB _,rfl,.inl (aB.of (S' _ _ (a _ _ x))),gH words,cf _,by rw[bR];decide,_,rfl,?_⟩;show if(if true=true then !decide (bW w∈words.map bW)else _)=true then _ else _
     rw[if_pos rfl,fW];refine iy (fun c=>?_) (fun c=>?_)
     ·refine⟨_,rfl,g',?_,pW hi ⟨?_,?_,aa⟩⟩
      ·rw[ao];refine aG (bp (fH _ _) ?_);rw[aQ];omega
      ·rw[eU Y,if_pos c,aN];rfl
      ·intro b o q;rw[ai (ah q hg)];exact S' _ _ q
     ·refine pW hi ⟨?_,S',g'⟩;rw[eU Y,if_neg c,cO]
    rintro s H6 ⟨rfl,S6,g6⟩;rw[ao,cA]at g6;refine⟨_,rfl,_,rfl,(by show 4<=am;decide),fun r hr=>?_⟩;have S7:ae H6 (upd H6 r (.lst [.ref J,.ref g,.ref G,.ref f])):=ae.new hr;have e:=S6.trans S7;exact k2 rfl r J g G f us _ aa ⟨e _ _ (a _ _ T.a1),S7 _ _ g6,e _ _ (a _ _ T.a3),e _ _ (k _ _ f4),D4.kt (ae.kt (k.trans e))⟩ (a.trans e)
inductive k4(vs:List V)(H:Hp)(Q:VK)(E:XK):Prop
 |mk (p c l1 l2:Addr) (J0 J1:Zb):(vs=[.ref p,.ref l1,.ref l2])->(eW H p c)->(H l1=some (.lst (J0.map V.str)))->(H l2=some (.lst (J1.map V.str)))->(J0.length<=4)->(J1.length<=4)->(∀(f:Addr) (words:Zb) H',words.length<=5->H' f=some (.lst (words.map V.str))->eW H' p c->cv p H H'->Q (.ref f) H')->k4 vs H Q E
theorem AW{K:Za}{t:List V}{H:Hp}{Q:VK}{E:XK}(h:k4 t H Q E):mJ K cw mR (bF Q) (start nJ t) H:=by
 obtain⟨p,c,l1,l2,B,u,rfl,C,h1,h2,za,zs,k⟩:=h;have n1:=C.ne_strs h1;have n2:=C.ne_strs h2;refine⟨_,rfl,l2,rfl,⟨_,aB.of h2⟩,fun f hf=>?_⟩;have fp:f≠p:=(C.nep hf).symm;have fc:f≠c:=(C.nec hf).symm;refine cI (xs:=u.map V.str) (fun i t H'=>∃v:List Str,t=v.map V.str/\v.length<=i/\eW H' p c/\cv p H H'/\H' f=some (.lst t)) ⟨[],rfl,aO _,C.upd fp.symm fc.symm,ae.exB (ae.new hf),aa⟩ (fun i t H' _ zq=>by obtain⟨_,_,_,_,S,h'⟩:=zq;exact⟨h',aB.of (S _ _ h2 n2)⟩) ?_ ?_;rotate_left
 ·rintro i t H1 xv hx hi ⟨v,rfl,O,D,S,f'⟩;obtain⟨w,hw,rfl⟩:=cq hx;refine gN ⟨_,rfl,bV D (by decide) (by decide) fun r n r0 r1 l m=>⟨rfl,_,rfl,?_⟩⟩;have T:=m _ _ f' fp;have x:cv p H n:=S.trans m;refine iy (fun c=>?_) (fun c=>?_)
  ·refine⟨_,rfl,T,?_,pW hi ⟨v++[w],by rw[aN];rfl,?_,l.upd fp.symm fc.symm,?_,aa⟩⟩
   ·rw[ao]at hi ⊢;exact aG (by omega)
   ·rw[aY];exact Nat.succ_le_succ O
   ·intro b o q nb;rw[ai (ah q hf)];exact x _ _ q nb
  ·exact pW hi ⟨v,rfl,Nat.le_succ_of_le O,l,x,T⟩
 rintro t H1 ⟨v,rfl,O,D,S1,f1⟩;rw[ao]at O;have y:∀(g:Addr) (words:Zb) (n:Hp),words.length<=4->n g=some (.lst (words.map V.str))->eW n p c->cv p H n->H g=none ->
   av (bS (ba (aM u5 (aL cw (aF V0 (tC (.int 2)))) (tC (.int 0)))) (av (aR (aM yv (aM yv V2 V1) (gS (aK (aL mR (aK V0))))) U4)
    (dF (yf K "list" u4 V3 (az (aL cw (aF V0 (aM dz (cJ (dJ K) (aK V3)) (tC (.int 1))))) (az (aM (eJ K) V4 (aL cw (aF V0 (cJ (dJ K) (aK V4))))) bA))))) (aZ))
    (bb V3) (bF Q) [some (.ref p),some (.ref l1),some (.ref l2),some (.ref g),none] n:=by
  intro g words n O z l x U;have gp:g≠p:=(C.nep U).symm;have gc:g≠c:=(C.nec U).symm;refine⟨_,rfl,bV l (by decide) (by decide) fun r G r0 r1 I Y=>⟨rfl,_,rfl,?_⟩⟩;have S3:cv p H G:=x.trans Y;have g3:=Y _ _ z gp;refine iy (fun _=>?_) (fun _=>⟨_,rfl,k g words G (by omega) g3 I S3⟩);refine⟨_,rfl,_,rfl,l2,l1,_,_,rfl,rfl,S3 _ _ h2 n2,S3 _ _ h1 n1,eX <| aG (by rw[ao,ao];omega),fun q hq=>?_⟩;rw[<-aN];have qp:q≠p:=(I.nep hq).symm;have S4:ae G (upd G q (.lst ((u++B).map V.str))):=ae.new hq;have e4:upd G q (.lst ((u++B).map V.str)) q=some (.lst ((u++B).map V.str)):=aa;have ab:=I.ex S4;generalize upd G q (.lst ((u++B).map V.str))=H4 at S4 e4 ab ⊢;refine⟨_,rfl,p,c,rfl,ab,fun w H5 _ aS ak=>⟨(by show 1<=am;decide),fun s hs=>?_⟩⟩;have e5:=ak _ _ e4 qp;have S6:ae H5 (upd H5 s (.lst [.str w])):=ae.new hs;have e6:upd H5 s (.lst [.str w]) s=some (.lst ([w].map V.str)):=aa;have J:=aS.ex S6;have q6:=S6 _ _ e5;generalize upd H5 s (.lst [.str w])=H6 at S6 e6 J q6 ⊢;refine⟨q,s,_,_,rfl,rfl,q6,e6,eX <| aG (by rw[ao,ao,aY];show _+_+1<=1000;omega),fun L al=>?_⟩;rw[<-aN];have aT:(u++B++[w]).length<=9:=by rw[aY,aY];show _+_+1<=9;omega
  have an:0<(u++B++[w]).length:=by rw[aY,aY];show 0<_+_+1;omega
  generalize u++B++[w]=a at aT an ⊢;have M:L≠p:=(J.nep al).symm;have S7:ae H6 (upd H6 L (.lst (a.map V.str))):=ae.new al;have e7:upd H6 L (.lst (a.map V.str)) L=some (.lst (a.map V.str)):=aa;have ap:=J.ex S7;generalize upd H6 L (.lst (a.map V.str))=H7 at S7 e7 ap ⊢;have aq:cv p G H7:=(ae.exB S4).trans (ak.trans ((ae.exB S6).trans (ae.exB S7)));have g7:=aq _ _ g3 gp;refine⟨_,rfl,.inl ⟨rfl,_,aB.of g7⟩,_,rfl,_,rfl,.inl ⟨g,_,rfl,.inl (aB.of g7),_,_,rfl,rfl,?_⟩⟩;rw[ao];refine bV ap (by omega) (by omega) fun i H8 i0 i1 aX N=>⟨_,rfl,_,rfl,_,rfl,.inl ⟨L,_,rfl,.inl (aB.of (N _ _ e7 M)),?_⟩⟩;rw[ao];refine bV aX (by omega) (by omega) fun j H9 j0 j1 a0 as=>?_;obtain⟨i,rfl⟩:=gC i0;obtain⟨j,rfl⟩:=gC j0;have aC:=aq.trans (N.trans as);have g9:=aC _ _ g3 gp;have jl:j<a.length:=by omega
  refine⟨L,_,j,.str a[j],rfl,rfl,aB.of (as _ _ (N _ _ e7 M) M),c_ (j:=j) (by rw[dq,jt jl];rfl),?_⟩;refine⟨g,_,i,.str a[j],rfl,rfl,g9,by rw[ao];omega,by rw[ao];exact aG (by omega),⟨_,rfl,?_⟩⟩;refine k g (words.take i++a[j]::words.drop i) _ ?_ (by rw[aa,aN,bo,t5,tZ]) (a0.upd gp.symm gc.symm) fun b o e nb=>?_
  ·rw[aY,d7,aQ,fh];omega
  ·rw[ai (ah e U)];exact aC _ _ (S3 _ _ e nb) nb
 refine⟨_,rfl,bV D (by decide) (by decide) fun r n r0 r1 l m=>⟨rfl,_,rfl,?_⟩⟩;have x:cv p H n:=S1.trans m;have T:=m _ _ f1 fp;refine iy (fun _=>?_) (fun _=>y f v n (by omega) T l x hf);refine⟨_,rfl,f,_,rfl,aB.of T,fun g z=>?_⟩;have U:H g=none:=by
  cases q:H g with
  |none=>rfl
  |some o =>
   by_cases e:g=p
   ·have:=l.nep z;exact absurd e.symm this
   ·rw[x _ _ q e]at z;cases z
 rw[<-List.map_reverse];exact y g v.reverse _ (by rw[List.length_reverse];omega) aa (l.upd (l.nep z) (l.nec z)) (x.trans (ae.exB (ae.new z))) U
def xu(H:Hp)(tt l1 l2 l3 l4:Addr):Prop:=H tt=some (.tup [.ref l1,.ref l2,.ref l3,.ref l4])∨H tt=some (.lst [.ref l1,.ref l2,.ref l3,.ref l4])
theorem xu.same{H H':Hp}{a e f g i:Addr}(h:xu H a e f g i)(S:ae H H'):xu H' a e f g i:=h.imp (S _ _) (S _ _)
theorem xu.sq{K:Za}{H:Hp}{a f g i j:Addr}(h:xu H a f g i j):aB K H a [.ref f,.ref g,.ref i,.ref j]∨bN K H a [.ref f,.ref g,.ref i,.ref j]:=h.elim (fun e=>.inr (bN.of e)) fun e=>.inl (aB.of e)
theorem xu.ix{K:Za}{H:Hp}{a f g i k:Addr}{j:Nat}{v:V}{Q:VK}(h:xu H a f g i k)(e:[V.ref f,.ref g,.ref i,.ref k][j]?=some v)(q:Q v H):oy K (.ref a) (.int j) H Q :=
 h.elim (fun t=>.inr (.inl ⟨a,_,j,v,rfl,rfl,bN.of t,c_ (j:=j) e,q⟩)) fun t=>.inl ⟨a,_,j,v,rfl,rfl,aB.of t,c_ (j:=j) e,q⟩
inductive dZ(C:Addr)(vs:List V)(H:Hp)(Q:VK)(E:XK):Prop
 |mk (x tt l1 l2 l3 l4:Addr) (ts:Ze) (J0 J1 J2:Zb) (ds:List ar):(vs=[.ref x,.ref tt])->(cX C H x J0 J1 J2 ds)->(xu H tt l1 l2 l3 l4)->(Lists H l1 l2 l3 l4 ts J0 J1 J2 ds)->(∀H',ae H H'->Q (.bl true) H')->dZ C vs H Q E
theorem AR{K:Za}{C:Addr}{p:List V}{H:Hp}{Q:VK}{E:XK}(h:dZ C p H Q E):v_ K (kA K) C (iT C) (gb C) (mV C) (kB C) (kZ C) (mW C) (bF Q) (start xz p) H:=by
 obtain⟨x,tt,l1,l2,l3,l4,ts,I,J,v,ds,rfl,e,T4,T0,k⟩:=h;have m:=e.ok;have z4:=m.few;obtain⟨dx,fs,g1,a1,a2,a3,a4,_⟩:=rF e;refine⟨_,rfl,x,dx,fs,rfl,g1,a1,x,I,J,v,ds,rfl,e,fun w1 bn=>?_⟩;have S1:ae H (upd H w1 (.lst (I.map V.str))):=ae.new bn;have aq:upd H w1 (.lst (I.map V.str)) w1=some (.lst (I.map V.str)):=aa;generalize upd H w1 (.lst (I.map V.str))=H1 at S1 aq ⊢;have M1:=e.same S1;refine⟨_,rfl,x,dx,fs,rfl,S1 _ _ g1,a2,x,I,J,v,ds,rfl,M1,fun w2 b0=>?_⟩;have S2:ae H1 (upd H1 w2 (.lst (J.map V.str))):=ae.new b0;have as:upd H1 w2 (.lst (J.map V.str)) w2=some (.lst (J.map V.str)):=aa;generalize upd H1 w2 (.lst (J.map V.str))=H2 at S2 as ⊢;have L:=S1.trans S2;refine⟨_,rfl,x,dx,fs,rfl,L _ _ g1,a3,x,I,J,v,ds,rfl,e.same L,fun w3 b1=>?_⟩;have S3:ae H2 (upd H2 w3 (.lst (v.map V.str))):=ae.new b1;have aC:upd H2 w3 (.lst (v.map V.str)) w3=some (.lst (v.map V.str)):=aa;generalize upd H2 w3 (.lst (v.map V.str))=H3 at S3 aC ⊢;have aS:=L.trans S3;obtain⟨a7,o4,a8,l,aT,b2,b3,b4,b5⟩:=Cj (e.same aS);refine⟨_,rfl,x,a7,a8,rfl,aT,b2,x,a7,o4,a8,l,rfl,aT,b3,b4,fun w4 b6=>?_⟩;have S4:ae H3 (upd H3 w4 (.lst (l.map V.ref))):=ae.new b6;have aX:upd H3 w4 (.lst (l.map V.ref)) w4=some (.lst (l.map V.ref)):=aa;show _/\_;generalize upd H3 w4 (.lst (l.map V.ref))=H4 at S4 aX ⊢;refine⟨(by show 4<=am;decide),fun pl b7=>?_⟩;have S5:ae H4 (upd H4 pl (.lst [.ref w1,.ref w2,.ref w3,.ref w4])):=ae.new b7;have p5:upd H4 pl (.lst [.ref w1,.ref w2,.ref w3,.ref w4]) pl=some (.lst [.ref w1,.ref w2,.ref w3,.ref w4]):=aa;generalize upd H4 pl (.lst [.ref w1,.ref w2,.ref w3,.ref w4])=H5 at S5 p5 ⊢;have M:=aS.trans (S4.trans S5);have T5:=T0.same M;refine⟨_,rfl,.inl ⟨tt,_,rfl,(T4.same M).sq,fun ql b8=>?_⟩⟩;have S6:ae H5 (upd H5 ql (.lst [.ref l1,.ref l2,.ref l3,.ref l4])):=ae.new b8;have q6:upd H5 ql (.lst [.ref l1,.ref l2,.ref l3,.ref l4]) ql=some (.lst [.ref l1,.ref l2,.ref l3,.ref l4]):=aa;generalize upd H5 ql (.lst [.ref l1,.ref l2,.ref l3,.ref l4])=H6 at S6 q6 ⊢;have T6:=T5.same S6;have a0:=S5.trans S6;have y:=S4.trans a0;refine .inl (yC m.few' m.sg12 (S6 _ _ p5) ⟨(S2.trans (S3.trans y)) _ _ aq,(S3.trans y) _ _ as,y _ _ aC,a0 _ _ aX,b5.kt (ae.kt y)⟩ q6 T6 fun H7 S7=>⟨_,rfl,bj ?_⟩);have N:=M.trans (S6.trans S7);clear a0 y T6 T5 S6 q6 p5 S5 aX aC as aq S4 b5 b4 b3 b2 aT S3 S2 L M1 S1 aS M S7;have T7:=T0.same N;refine⟨_,rfl,(T4.same N).ix (j:=2) rfl ⟨l3,rfl,⟨_,aB.of T7.a3⟩,?_⟩⟩
 let zR:Nat->L2.St->Hp->Prop:=fun i σ n=>G9 fun(x2 x3 x4:Option V)=>σ=[some (.ref x),some (.ref tt),x2,x3,x4]/\ae H n
 refine eA (xs:=v.map V.str) zR ⟨_,_,_,rfl,N⟩ (fun i σ n _ zq=>by obtain⟨_,_,_,_,S⟩:=zq;exact aB.of (S _ _ T0.a3)) ?_ ?_;rotate_left
 ·rintro σ H8 ⟨x2,x3,x4,rfl,S8⟩;exact k H8 S8
 clear T7 N;rintro i0 xv σ0 H8 ce ⟨x2,x3,x4,rfl,O⟩;obtain⟨r,ch,rfl⟩:=cq ce;have a9:=cT ch;have MA:=e.same O;have T:=T0.same O;have L8:=T;refine gN ⟨_,rfl,(T4.same O).ix (j:=3) rfl ⟨l4,rfl,⟨_,aB.of L8.a4⟩,fun f hf=>?_⟩⟩;refine cI (xs:=ts.map V.ref) (fun i p n=>∃l:List Addr,p=l.map V.ref/\bD n l ((ds.take i).filter fun d=>decide (d.a=r))/\ae H8 n/\n f=some (.lst p)) ⟨[],rfl,.nil,ae.new hf,aa⟩ (fun i p n _ zq=>by obtain⟨_,_,_,S,h'⟩:=zq;exact⟨h',aB.of (S _ _ L8.a4)⟩) ?_ ?_;rotate_left
 ·rintro i p n x hx hi ⟨l,rfl,D,S,f'⟩;obtain⟨t,ht,rfl⟩:=df hx;obtain⟨dr,u,B⟩:=Paired.getL L8.ds ht;obtain⟨s,a5,U⟩:=B.kt (ae.kt S);refine gN ⟨_,rfl,.inr (.inl ⟨t,_,0,_,rfl,rfl,bN.of a5,rfl,_,rfl,bW dr.a,bW r,iB _,iB _,cf _,cf _,_,rfl,?_⟩)⟩;rw[An];refine iy (fun c=>?_) (fun c=>?_)
  ·refine⟨_,rfl,f',?_,pW hi ⟨l++[t],by rw[aN];rfl,?_,?_,aa⟩⟩
   ·rw[ao,Paired.length D];refine cp (bp (fH _ _) ?_);rw[aQ];omega
   ·rw[cK u,if_pos c];exact Paired.app (D.kt (fy f')) (.cons ((B.kt (ae.kt S)).kt (fy f')) .nil)
   ·intro b o q;rw[ai (ah q hf)];exact S _ _ q
  ·refine pW hi ⟨l,rfl,?_,S,f'⟩;rw[cK u,if_neg c,cO];exact D
 rintro p H9 ⟨l,rfl,D9,S9,f9⟩;rw[ao,Paired.length L8.ds,cA]at D9;have D9:bD H9 l (aH ds r):=D9;have ci:l.length=(aH ds r).length:=Paired.length D9;have c4:=rM ds r;refine⟨_,rfl,f,rfl,⟨_,aB.of f9⟩,fun g hg=>?_⟩;refine cI (xs:=l.map V.ref) (fun i p n=>∃ws:List Addr,p=ws.map V.ref/\bD n ws (((aH ds r).take i).filter fun d=>!gP d)/\ae H9 n/\n g=some (.lst p)) ⟨[],rfl,.nil,ae.new hg,aa⟩ (fun i p n _ zq=>by obtain⟨_,_,_,S,h'⟩:=zq;exact⟨h',aB.of (S _ _ f9)⟩) ?_ ?_;rotate_left
 ·rintro i p n x hx hi ⟨ws,rfl,D,S,g'⟩;obtain⟨t,ht,rfl⟩:=df hx;obtain⟨dr,u,B⟩:=Paired.getL D9 ht;obtain⟨s,a5,U⟩:=B.kt (ae.kt S);have sg0:=m.w.sg0 dr (cT u);obtain⟨s0,c3,bd⟩:∃a b,dr.sg=a::b:=by
   cases q:dr.sg with
   |nil=>exact absurd q sg0
   |cons a b=>exact⟨a,b,rfl⟩
  have U:n s=some (.tup ((dr.sg).map V.str)):=U;have ia:gP dr=decide (s0=("ask":Str)):=by unfold gP;rw[bd]
  refine gN ⟨_,rfl,.inr (.inl ⟨t,_,1,_,rfl,rfl,bN.of a5,rfl,.inr (.inl ⟨s,_,0,.str s0,rfl,rfl,bN.of U,by rw[bd];exact c_ (j:=0) rfl,rfl,_,rfl,?_⟩)⟩)⟩;have eb:(!decide (V.str s0=V.str "ask"))=!gP dr:=by
   rw[ia];by_cases c:s0=("ask":Str)
   ·rw[zzr1 c,zzr1 (by rw[c])]
   ·rw[zzr0 c,zzr0 (fun z=>c (by injection z))]
  rw[eb];refine iy (fun c=>?_) (fun c=>?_)
  ·refine⟨_,rfl,g',?_,pW hi ⟨ws++[t],by rw[aN];rfl,?_,?_,aa⟩⟩
   ·rw[ao,Paired.length D];refine cp (bp (fH _ _) ?_);rw[aQ];omega
   ·rw[cK u,if_pos c];exact Paired.app (D.kt (fy g')) (.cons ((B.kt (ae.kt S)).kt (fy g')) .nil)
   ·intro b o q;rw[ai (ah q hg)];exact S _ _ q
  ·refine pW hi ⟨ws,rfl,?_,S,g'⟩;rw[cK u,if_neg c,cO];exact D
 rintro p Y ⟨ws,rfl,bi,ck,cl⟩;rw[ao,ci,cA]at bi;refine⟨(by show 0<=am;decide),fun q hq=>?_⟩;have ab:ae Y (upd Y q (.lst [])):=ae.new hq;have bl:upd Y q (.lst []) q=some (.lst []):=aa;generalize upd Y q (.lst [])=cm at ab bl ⊢;have G:=ck.trans ab;have cn:=bi.kt (ae.kt ab);refine⟨.s (((aH ds r).filter fun d=>!gP d).map jk),.s [],(by unfold j6;exact⟨g,_,rfl,aB.of (ab _ _ cl),cn.dIns⟩),(by unfold j6;exact⟨q,_,rfl,aB.of bl,by unfold DIns;rfl⟩),(by show DT.depths _+1<=8;have:=rX ((aH ds r).filter fun d=>!gP d);omega),(by decide),?_⟩;have eq:decide (DT.s (((aH ds r).filter fun d=>!gP d).map jk)=DT.s [])=dL ds r:=by
  rw[AZ];by_cases c:(aH ds r).filter (fun d=>!gP d)=[]
  ·rw[zzr1 c,c];rfl
  ·rw[zzr0 c,zzr0 fun z=>c (by injection z with z;exact List.map_eq_nil_iff.mp z)]
 rw[eq];have ak:ae H8 cm:=S9.trans G;have co:=G _ _ f9;have bm:=D9.kt (ae.kt G);have al:=MA.same ak;obtain⟨ex,es,y1,_,_,_,_,y2,_⟩:=rF al;refine⟨_,rfl,x,ex,es,rfl,y1,y2,_,rfl,x,r,I,J,v,ds,rfl,al,a9,fun dl c5 dc cs ct _ a6=>?_⟩;refine⟨_,rfl,.inl (ou (d:=.s ((aH ds r).map jk)) (by unfold DR;exact⟨dl,_,rfl,cs,k_ ct⟩) (by unfold DR;exact⟨f,_,rfl,a6 _ _ co,k_ (bm.kt (ae.kt a6))⟩) (by show DT.depths _+1<=4;have:=rX (aH ds r);omega) (by decide) ?_ fun dd cB=>⟨_,rfl,bj ?_⟩)⟩
 ·show(decide (((aH ds r).map jk).length<=1000000) && DT.sms ((aH ds r).map jk))=true;rw[Fj (ds:=aH ds r) (fun d hd=>m.sg12.le d (eZ.mp hd).1),ao,zzr1 (by omega)];rfl
 have an:=ak.trans (a6.trans cB);have ap:=MA.same an;obtain⟨cC,c0,c1,_,_,_,_,_,c2⟩:=rF ap;refine⟨_,rfl,x,cC,c0,rfl,c1,c2,_,rfl,x,r,I,J,v,ds,rfl,ap,?_⟩;have qv:decide (r∈v.filter (dL ds))=dL ds r:=by
  cases q:dL ds r with
  |true=>exact zzr1 (eZ.2 ⟨a9,q⟩)
  |false=>exact zzr0 fun z=>by rw[(eZ.1 z).2]at q;cases q
 rw[qv];refine⟨_,rfl,.inr ⟨dL ds r,dL ds r,rfl,_,rfl,?_⟩⟩;rw[zzr1 rfl];exact bj ⟨_,_,_,rfl,O.trans an⟩
theorem wB{K:Za}{C Cx:Addr}{N:List V}{H:Hp}{Q:VK}{E:XK}(h:jD C N H Q E):sw K C (kC C Cx) (bF Q) (start sR N) H:=by
 obtain⟨t,l1,l2,l3,l4,g,i,j,l,ds,rfl,T,m,k⟩:=h;refine⟨_,rfl,.inr (.inl ⟨t,_,0,_,rfl,rfl,bN.of T.t,rfl,.inl ⟨l1,_,rfl,.inl (aB.of T.a1),fun y O=>?_⟩⟩)⟩;have z:=T.same (ae.new (o:=.lst (i.map V.str)) O);refine⟨_,rfl,.inr (.inl ⟨t,_,1,_,rfl,rfl,bN.of z.t,rfl,.inl ⟨l2,_,rfl,.inl (aB.of z.a2),fun B D=>?_⟩⟩)⟩;have G:=z.same (ae.new (o:=.lst (j.map V.str)) D);refine⟨_,rfl,.inr (.inl ⟨t,_,2,_,rfl,rfl,bN.of G.t,rfl,.inl ⟨l3,_,rfl,.inl (aB.of G.a3),fun I u=>?_⟩⟩)⟩;have J:=G.same (ae.new (o:=.lst (l.map V.str)) u);refine⟨_,rfl,.inr (.inl ⟨t,_,3,_,rfl,rfl,bN.of J.t,rfl,.inl ⟨l4,_,rfl,.inl (aB.of J.a4),fun L r=>?_⟩⟩)⟩;have T4:=J.same (ae.new (o:=.lst (g.map V.ref)) r);have U:=(((ae.new (o:=.lst (i.map V.str)) O).trans (ae.new (o:=.lst (j.map V.str)) D)).trans (ae.new (o:=.lst (l.map V.str)) u)).trans (ae.new (o:=.lst (g.map V.ref)) r);refine fun x v hx a s=>?_;have Y:ae H (upd (upd (upd (upd (upd (upd H y (.lst (i.map V.str))) B (.lst (j.map V.str))) I (.lst (l.map V.str))) L (.lst (g.map V.ref))) v (.own x)) x (.ins C v [])) :=
  (U.trans (ae.new a)).trans (ae.new (by rw[ai s.symm];exact hx))
 have f:upd (upd (upd (upd (upd H y (.lst (i.map V.str))) B (.lst (j.map V.str))) I (.lst (l.map V.str))) L (.lst (g.map V.ref))) v (.own x) x=none:=by rw[ai s.symm];exact hx
 refine⟨x,v,y,B,I,L,g,i,j,l,ds,none,rfl,aa,⟨?_,?_,?_,?_,T.ds.kt (ae.kt Y)⟩,m.few',m.verdict,fun _ H' M ex=>⟨rfl,k x H' (M.ok m) fun b o q=>?_⟩,fun p n e=>by cases e⟩
 ·exact kp (kp (kp (kp (kp aa D) u) r) a) f
 ·exact kp (kp (kp (kp aa u) r) a) f
 ·exact kp (kp (kp aa r) a) f
 ·exact kp (kp aa a) f
 ·have hq:=Y _ _ q;exact ex _ _ hq (ah (U.trans (ae.new a) _ _ q) f)
theorem fA.kt{K:Za}{H a:Hp}{e:Addr}(h:fA K H e)(S:xF H a):fA K a e:=⟨h.1,h.2.1,S _ _ h.2.2⟩
theorem cv.ktP{p c:Addr}{H a:Hp}(e:cv p H a)(f:eW H p c):xF H a:=by
 obtain⟨xs,hx⟩:=f.lst;exact e.kt hx
inductive sp_law72(K:Za)(vs:List V)(H:Hp)(Q:VK)(E:XK):Prop
 |mk (aS a:Addr) (ns:List Int):(vs=[.ref a])->(fA K H aS)->(aB K H a (ns.map V.int))->(ns.length<=63)->(∀H',Q (.bl true) H')->sp_law72 K vs H Q E
theorem B0{K:Za}{C Cx Cn:Addr}(F:RtC K Cx Cn){vs:List V}{H:Hp}{Q:VK}{E:XK}(h:sp_law72 K vs H Q E):Dl K (dZ C) (kA K) jc (sp_hidden K C Cx Cn) Cx Cn (jD C) k4 mU cw (p8 K) (bF Q) (start Ay vs) H:=by
 obtain⟨aS,a,ns,rfl,st,hs,hn,k⟩:=h;refine⟨_,rfl,a,ns,rfl,hs,hn,fun p c H1 _ ak S1=>?_⟩;refine⟨_,rfl,_,rfl,bV ak (by decide) (by decide) fun as H2 f0 f1 al aC=>?_⟩;refine⟨p,c,7,as,rfl,al,by decide,by decide,f0,by omega,fun t l1 l2 l3 l4 ts N I J B H3 T m zr zd O aT=>?_⟩;have aX:=((st.same S1).kt (aC.ktP ak)).kt (aT.ktP al);refine⟨_,rfl,_,rfl,t,_,0,_,rfl,rfl,bN.of T.t,rfl,_,rfl,t,_,1,_,rfl,rfl,bN.of T.t,rfl,p,c,l1,l2,N,I,rfl,O,T.a1,T.a2,m.asks4,m.says4,fun f words H4 lw f4 a7 an=>?_⟩;have T4:=T.ex O an;have a0:=aX.kt (an.ktP O);refine⟨_,rfl,t,l1,l2,l3,l4,ts,N,I,J,B,rfl,T4,m,fun x H5 MA S5=>?_⟩;have f5:=S5 _ _ f4;refine⟨_,rfl,.inl ⟨f,_,rfl,.inl (aB.of f5),fun g hg=>?_⟩⟩;have S6:ae H5 (upd H5 g (.lst (words.map V.str))):=ae.new hg;have g6:upd H5 g (.lst (words.map V.str)) g=some (.lst (words.map V.str)):=aa;generalize upd H5 g (.lst (words.map V.str))=H6 at S6 g6 ⊢;have f6:=S6 _ _ f5;have ap:=S5.trans S6;have T6:=T4.same ap;have a8:=a0.same ap;have M6:=MA.same S6;clear st aX a0 T T4 ak al O a7 aC aT an S1 S5 ap f4 f5 MA S6;have M:∀(v6 v7 v8:Option V) (l:Hp),ae H6 l ->
   (∀(j:V) (H8:Hp),ae l H8 ->
    ((∃n,fj I words=some n/\∃u,j=.ref u/\H8 u=some (.tup [.str "word",.int (n:Nat)]))∨(fj I words=none/\∃o,fC J (fun r=>Reach (cr words B) r r) o/\((∃n,o=some n/\∃u,j=.ref u/\H8 u=some (.tup [.str "still",.int (n:Nat)]))∨(o=none/\∃(r q1 q2 q3 q4:Addr) (us:Ze),j=.ref r/\H8 r=some (.lst [.ref q1,.ref q2,.ref q3,.ref q4])/\Lists H8 q1 q2 q3 q4 us N (c8 words I) J (cr words B))))) ->
    (av (bS (tB (uL V6)) (bb (aL (kA K) (aF V7 V9))) (aZ))
    (bb (fF (cJ (gr K) (aF V9 (tC (.ty "list")))) (fF (aL (dZ C) (aF V6 V9)) (aL (dZ C) (aF V4 V2)))))) (bF Q) [some (.ref a),some (.ref p),some (.ref t),some (.ref f),some (.ref x),some (.ref g),v6,v7,v8,some j] H8) ->
   (av (bS (BN (ba (aM (Dx K) V5 V3)) (pP (tB (aL (dZ C) (aF V4 V2))))) (bb (tC (.bl false))) (aZ))
   (av (aR (aL jc (aF V2 V3)) U9)
   (av (bS (tB (uL V6)) (bb (aL (kA K) (aF V7 V9))) (aZ))
    (bb (fF (cJ (gr K) (aF V9 (tC (.ty "list")))) (fF (aL (dZ C) (aF V6 V9)) (aL (dZ C) (aF V4 V2)))))))) (bF Q) [some (.ref a),some (.ref p),some (.ref t),some (.ref f),some (.ref x),some (.ref g),v6,v7,v8,none] l:=by
  intro v6 v7 v8 l D kk;have T7:=T6.same D;refine⟨_,rfl,_,rfl,.s (words.map bW),.s (words.map bW),rY (aB.of (D _ _ g6)),rY (aB.of (D _ _ f6)),(by show DT.depths (words.map bW)+1<=8;rw[bR];decide),(by show DT.depths (words.map bW)+1<=8;rw[bR];decide),_,rfl,?_⟩;rw[zzr1 rfl];refine bj ⟨_,rfl,_,rfl,x,t,l1,l2,l3,l4,ts,N,I,J,B,rfl,M6.same D,.inl T7.t,⟨T7.a1,T7.a2,T7.a3,T7.a4,T7.ds⟩,fun H8 S8=>⟨_,rfl,bj ?_⟩⟩;have a5:=D.trans S8;refine⟨_,rfl,_,rfl,t,l1,l2,l3,l4,f,ts,N,I,J,words,B,rfl,T6.same a5,a5 _ _ f6,by omega,m,fun n hn u H9 hu G=>?_,fun tv o fo=>⟨fun n U u H9 hu G=>?_,fun U r q1 q2 q3 q4 us H9 hr L G=>?_⟩⟩
  ·exact kk _ H9 (S8.trans G) (.inl ⟨n,hn,u,rfl,hu⟩)
  ·exact kk _ H9 (S8.trans G) (.inr ⟨tv,o,fo,.inl ⟨n,U,u,rfl,hu⟩⟩)
  ·exact kk _ H9 (S8.trans G) (.inr ⟨tv,o,fo,.inr ⟨U,r,q1,q2,q3,q4,us,rfl,hr,L⟩⟩)
 refine⟨_,rfl,_,rfl,aS,x,g,N,I,J,words,B,rfl,a8,M6,g6,by omega,fun n hn e l xe=>?_,fun tv=>?_⟩
 ·obtain⟨D,d,ha,hd⟩:=xe;refine⟨Cn,e,true,rfl,rfl,F.self,bB ?_⟩;refine⟨_,rfl,e,Cn,d,_,_,rfl,ha,hd,F.n,F.na,rfl,(by show 2<=am;decide),fun u hu=>?_⟩;have S8:ae l (upd l u (.tup [.str "word",.int (n:Nat)])):=ae.new hu;have e8:upd l u (.tup [.str "word",.int (n:Nat)]) u=some (.tup [.str "word",.int (n:Nat)]):=aa;refine M _ _ _ _ (D.trans S8) fun j H9 G Y=>?_;refine⟨_,rfl,_,rfl,?_⟩;rw[zzr1 rfl];rcases Y with⟨n',i,w,rfl,hw⟩|⟨tv,_⟩
  ·rw[hn]at i;cases i;exact bB ⟨_,rfl,_,rfl,.inl (zX (G _ _ e8) hw fun ab _=>k ab)⟩
  ·rw[hn]at tv;cases tv
 obtain⟨o,fo⟩:=rT (fun r=>Reach (cr words B) r r) J;have mw:=oQ m tv;have v:lh N (c8 words I) J (cr words B) (o.map fun n=>(("still":Str),n)):=.inr ⟨mw,o,fo,rfl⟩;refine⟨_,v,fun U y l mb D=>?_,fun pt n U e l xa D=>?_⟩;rotate_left
 ·obtain⟨n',rfl,en⟩:=Option.map_eq_some_iff.1 U;cases en;obtain⟨d,ha,hd⟩:=xa.at_;refine⟨Cx,e,false,rfl,rfl,F.no,bj ⟨Cx,e,true,rfl,rfl,F.x.self,bB ?_⟩⟩;refine⟨_,rfl,e,Cx,d,_,_,rfl,ha,hd,F.x.cls,F.x.p,rfl,?_⟩;refine⟨_,rfl,e,Cx,d,_,_,rfl,ha,hd,F.x.cls,F.x.n,rfl,(by show 2<=am;decide),fun u hu=>?_⟩;have S8:ae l (upd l u (.tup [.str "still",.int (n:Nat)])):=ae.new hu;have e8:upd l u (.tup [.str "still",.int (n:Nat)]) u=some (.tup [.str "still",.int (n:Nat)]):=aa;refine M _ _ _ _ (D.trans S8) fun j H9 G Y=>?_;refine⟨_,rfl,_,rfl,?_⟩;rw[zzr1 rfl];rcases Y with⟨n',i,_⟩|⟨_,o',aq,Y⟩
  ·rw[tv]at i;cases i
  ·have:=fo.uniq aq;subst this;rcases Y with⟨n',i,w,rfl,hw⟩|⟨i,_⟩
   ·cases i;exact bB ⟨_,rfl,_,rfl,.inl (zX (G _ _ e8) hw fun ab _=>k ab)⟩
   ·cases i
 ·have U:o=none:=by cases o with
   |none=>rfl
   |some n=>cases U
  subst U;have bi:B.length<=1000:=m.few;have ld:=jN words B;have M7:cX C l y N (c8 words I) J (cr words B):=mb.ok (v.ok (by omega));refine M _ _ _ _ D fun j H9 G Y=>?_;refine⟨_,rfl,_,rfl,?_⟩;rw[zzr0 (by intro z;cases z)];rcases Y with⟨n',i,_⟩|⟨_,o',aq,Y⟩
  ·rw[tv]at i;cases i
  ·have:=fo.uniq aq;subst this;rcases Y with⟨n',i,_⟩|⟨_,r,q1,q2,q3,q4,us,rfl,hr,L⟩
   ·cases i
   ·refine bj ⟨_,rfl,_,"list",.type "list",true,rfl,.inr (.inr ⟨r,_,rfl,rfl,aB.of hr⟩),rfl,_,rfl,bB ?_⟩;refine⟨_,rfl,_,rfl,y,r,q1,q2,q3,q4,us,N,_,J,_,rfl,M7.same G,.inr hr,L,fun ab a9=>⟨_,rfl,bB ?_⟩⟩;have a6:=D.trans (G.trans a9);have q:=T6.same a6;exact⟨_,rfl,_,rfl,x,t,l1,l2,l3,l4,ts,N,I,J,B,rfl,M6.same a6,.inl q.t,⟨q.a1,q.a2,q.a3,q.a4,q.ds⟩,fun bd _=>k bd⟩
def FR(t:Addr)(x:Addr×Obj):Bool:=match x.2.data with
 |.seq its _=>match its.toList with
  |.str s _::r=>(!(s=="still") || (x.1==t && r.isEmpty)) && !(s=="ask") && !(s=="say") && (match r with | .ref _::_=>false|_=>true)
  |_=>true
 |_=>true
theorem rK{u:Addr}{o:Obj}:∀{K:Za},K.lookup u=some o->(u,o)∈K
 |[],h=>by cases h
 | (v,q)::K,h=>by
  rw[fJ]at h;cases e:u==v with
  |true =>
   rw[e]at h;cases h;have:u=v:=by simpa using e
   rw[this];exact eQ
  |false =>
   rw[e]at h;exact dD _ (rK h)
theorem Cv{K:Za}{t:Addr}(h:K.all (FR t)=true):NoTup K t:=fun u o m n x k r l d e=>by
 have:=qH.1 h _ (rK l);unfold FR at this;simp only[d,e]at this;rw[h_,h_,h_]at this;obtain⟨⟨⟨f,g⟩,i⟩,j⟩:=this;refine⟨fun q=>?_,fun q=>?_,fun q=>?_,fun a q z=>?_⟩
 ·rw[q]at f;have f:(u==t && r.isEmpty)=true:=by simpa using f
  rw[h_]at f;exact⟨by simpa using f.1,by simpa using f.2⟩
 ·rw[q]at g;simp at g
 ·rw[q]at i;simp at i
 ·rw[z]at j;cases j
theorem still_mk{K:Za}{e:Addr}{o:Obj}{a:Array Value}{n:Nat}(g:bw K bq "STILL"=some (some (.ref e)))(l:K.lookup e=some o)(c:o.cls=.type "tuple")(d:o.data=.seq a n)(s:a.size<=am)(v:aP (stillSg.map V.str) a.toList)(f:K.all (FR e)=true):
  ∃t,(bw K bq "STILL"=some (some (.ref t))/\NoTup K t)/\∃(o:Obj) (a:Array Value) (n:Nat),K.lookup t=some o/\o.cls=.type "tuple"/\o.data=.seq a n/\a.size<=am/\aP (stillSg.map V.str) a.toList :=
 ⟨e,⟨g,Cv f⟩,o,a,n,l,c,d,s,v⟩
theorem Def.weak{P:bg}{w:World}{K:Za}{i:Str->Option Value}{base:Heap}{x:Str}{j:Zb}{k:Nat}{l g:Sp}(D:L2.Def P w K i base x j k l)(h:∀e H Q E,g e H Q E->l e H Q E):L2.Def P w K i base x j k g:=by
 obtain⟨f,m,F,r⟩:=D;exact⟨f,m,⟨fun e H Q E q=>F.len e H Q E (h _ _ _ _ q),fun A o s H a n e Q E p t u v q=>F.run A o s H a n e Q E p t u v (h _ _ _ _ q)⟩,r⟩
def iK(i:Nat):Stmt:=PySem.Challenge.pw_mumtrial_k72_hidden.main.body.getD i (.Pass ⟨0,0,0,0⟩)
local macro_rules | `(tactic| walk_at "s")=>`(tactic| exact⟨rfl,rfl,rfl,by decide +kernel,rfl,by decide +kernel,by decide +kernel⟩)
local macro_rules | `(tactic| walk_at "l")=>`(tactic| (intro _ _ _ _ h;first|exact ED h|exact len_g h|(cases h;subst_vars;rfl)|(obtain⟨_,_,h,_⟩:=h;subst h;rfl)|((repeat obtain⟨_,h⟩:=h);subst_vars;rfl)))
theorem zzlS{e:List Value}{n:Nat}(h:e.length=n+1):∃ a t,e=a::t∧t.length=n:=by
  cases e with
  |nil=>cases h
  |cons a t=>exact⟨a,t,rfl,Nat.succ.inj h⟩
local macro_rules | `(tactic| walk_at "b")=>`(tactic| (intro _ _ _ _ _ _ us hl;(repeat (have h:=zzlS hl;clear hl;obtain⟨_,_,e,hl⟩:=h;subst e));cases List.eq_nil_of_length_eq_zero hl;rfl))
def GU(K:Za)(x qual:Str)(st:Stmt)(f:Addr):Prop:=∃(oc:Value) (od an:Option Addr) (sl:Array (Option Value)) (kV dc pm cd ct:Value),
 K.lookup f=some ⟨oc,od,.func (ib x qual (gW st) (eD st) (bf st) .none kV dc pm an cd ct),sl⟩/\lT K cd qual=true/\dB K (.ref f)=true
theorem CJ{K:Za}{x a:Str}{st:Stmt}{f:Addr}{e:Value}{g h:Option Addr}{i:Array (Option Value)}{kV j m cd n:Value}(l:K.lookup f=some ⟨e,g,.func (ib x a (gW st) (eD st) (bf st) .none kV j m h cd n),i⟩)
  (c:lT K cd a=true) (k:dB K (.ref f)=true):GU K x a st f:=⟨e,g,h,i,kV,j,m,cd,n,l,c,k⟩
def j5(K:Za)(x:Str)(st:Stmt):Prop:=∃f,bw K bq x=some (some (.ref f))/\GU K x x st f
theorem fnG_mk{K:Za}{x:Str}{st:Stmt}{f:Addr}{e:Value}{g h:Option Addr}{i:Array (Option Value)}{kV j m cd n:Value}(a:bw K bq x=some (some (.ref f)))(l:K.lookup f=some ⟨e,g,.func (ib x x (gW st) (eD st) (bf st) .none kV j m h cd n),i⟩)
  (c:lT K cd x=true) (k:dB K (.ref f)=true):j5 K x st:=⟨f,a,CJ l c k⟩
def Bp(K:Za)(C:Addr)(m qual:Str)(st:Stmt):Prop:=∃f,bC K (.ref C) m=some (some (.ref f))/\mF K (.ref f)=true/\GU K m qual st f
theorem fnM_mk{K:Za}{C:Addr}{m e:Str}{st:Stmt}{f:Addr}{g:Value}{h j:Option Addr}{n:Array (Option Value)}{kV o p cd q:Value}(a:bC K (.ref C) m=some (some (.ref f)))(i:mF K (.ref f)=true)
  (l:K.lookup f=some ⟨g,h,.func (ib m e (gW st) (eD st) (bf st) .none kV o p j cd q),n⟩) (c:lT K cd e=true) (k:dB K (.ref f)=true):Bp K C m e st:=⟨f,a,i,CJ l c k⟩
theorem GU.fun_{K:Za}{x a:Str}{st:Stmt}{f:Addr}(T:GU K x a st f):∃e,EZ K x a st f e:=by
 obtain⟨g,h,i,j,kV,m,n,cd,o,l,c,k⟩:=T;exact⟨_,CI (st:=st) l c k⟩
def Go:Sp:=fun _ _ _ _=>False
theorem Gy{P:bg}{w:World}{K:Za}{a:Str->Option Value}{base:Heap}{k:Nat}{f:Addr}{e:hZ}{g:Zb}:gJ P w K a base CX0 k f e g Go:=⟨fun _ _ _ _ h=>h.elim,fun _ _ _ _ _ _ _ _ _ _ _ _ _ h=>h.elim⟩
def GJ(K:Za)(a:Addr)(ws:Zb):Prop:=∀H,bN K H a (ws.map V.str)
theorem Di{K:Za}{a:Addr}{f:Zb}{o:Obj}{e:Array Value}{n:Nat}(l:K.lookup a=some o)(c:o.cls=.type "tuple")(d:o.data=.seq e n)(z:e.size<=am)(v:aP (f.map V.str) e.toList):GJ K a f :=
 fun _=>.inr ⟨o,e,n,l,c,d,z,v⟩
section
variable{P:bg}{w:World}{K:Za}{mg:Str->Option Value}{base h:Heap}{C:Addr}{x qual:Str}{st:Stmt}{N ps:Zb}{k:Nat}{sp:Sp}
abbrev xE(ps:Zb)(sp:Sp):Prop:=∀vs H Q E,sp vs H Q E->vs.length=ps.length
abbrev BodyOk(CX:Bx)(P:bg)(w:World)(K:Za)(mg:Str->Option Value)(base:Heap)(qual:Str)(st:Stmt)(N:Zb)(k:Nat)(sp:Sp)(nox:Cx->Cx):Prop:=N.Nodup->∀(f:Addr) (cdv:Value) (A:Around) (outer:List Env) (s:Shared) (H:Hp) (vs:List V) (Q:VK) (E:XK),cx k (A.deeper (envOfC qual (bf st) s.heap.objs.size f cdv))->(A.deeper (envOfC qual (bf st) s.heap.objs.size f cdv)).units+16<cLine->sp vs H Q E ->
 ∃t,vJ (nox (rZ CX P w K mg base N qual (bf st) f cdv A outer s H E)) (eD st) t/\t (bF Q) (start N vs) H
abbrev ss(x qual:Str)(st:Stmt)(ps:Zb):Prop:=∀(kV doc pm:Value) (an:Option Addr) (cdv ct:Value) (us:Zf),us.length=ps.length->bindArgs (ib x qual (gW st) (eD st) (bf st) .none kV doc pm an cdv ct) ⟨us,[]⟩=pure (ps.zip us)
theorem dG(X:K.In h)(G:h.Ns bq mg)(T:j5 K x st)(b:BodyOk CX0 P w K mg base x st N k sp Cx.nox)(i:ss x x st ps)(S:gj N ps (bf st):=by walk_at "s")(l:xE ps sp:=by walk_at "l"):Def P w K mg base x ps (k+1) sp:=by
 obtain⟨f,a,t⟩:=T;obtain⟨j,F⟩:=t.fun_;exact⟨f,j,F.ok S l fun e A outer s H m Q E g h=>b S.nd f e A outer s H m Q E g (tM g) h,eG X G a,F.kp,F.binds i⟩
theorem dM(j:Bq K C)(T:Bp K C x qual st)(b:BodyOk CX0 P w K mg base qual st N k sp Cx.nox)(m:ss x qual st ps)(S:gj N ps (bf st):=by walk_at "s")(l:xE ps sp:=by walk_at "l"):CZ P w K mg base C x ps (k+1) sp:=by
 obtain⟨f,a,i,t⟩:=T;obtain⟨n,F⟩:=t.fun_;exact⟨f,n,F.ok S l fun e A outer s H o Q E g h=>b S.nd f e A outer s H o Q E g (tM g) h,j,⟨a,i,F.kp⟩,F.binds m⟩
theorem G6(X:K.In h)(G:h.Ns bq mg)(T:j5 K x st)(b:BodyOk (AA P w K) P w K mg base x st N k sp id)(i:ss x x st ps)(S:gj N ps (bf st):=by walk_at "s")(l:xE ps sp:=by walk_at "l"):zh P w K mg base x ps (k+1) sp:=by
 obtain⟨f,a,t⟩:=T;obtain⟨j,F⟩:=t.fun_;exact⟨f,j,F.okX S l fun e A outer s H m Q E g h=>b S.nd f e A outer s H m Q E g (tM g) h,eG X G a,F.kp,F.binds i⟩
theorem dNX{y:Str}(j:mg y=some (.ref C))(m:vU K C=true)(n:dB K (.ref C)=true)(T:Bp K C "__init__" qual st)(b:BodyOk (AA P w K) P w K mg base qual st N k sp id)(o:ss "__init__" qual st ps)(S:gj N ps (bf st):=by walk_at "s")(l:xE ps sp:=by walk_at "l"):Ej P w K mg base y C ps (k+1) sp:=by
 obtain⟨f,a,i,t⟩:=T;obtain⟨p,F⟩:=t.fun_;exact⟨f,p,F.okX S l fun e A outer s H q Q E g h=>b S.nd f e A outer s H q Q E g (tM g) h,j,⟨m,a,i,n⟩,F.binds o⟩
theorem dXN{y:Str}(j:mg y=some (.ref C))(m:jQ K C)(n:dB K (.ref C)=true)(T:Bp K C "__init__" qual st)(b:BodyOk CX0 P w K mg base qual st N k sp Cx.nox)(o:ss "__init__" qual st ps)(S:gj N ps (bf st):=by walk_at "s")(l:xE ps sp:=by walk_at "l"):CW P w K mg base y C ps (k+1) sp:=by
 obtain⟨f,a,i,t⟩:=T;obtain⟨p,F⟩:=t.fun_;exact⟨f,p,F.ok S l fun e A outer s H q Q E g h=>b S.nd f e A outer s H q Q E g (tM g) h,j,m,a,i,n,F.binds o⟩
end
structure Zs(mg:Str->Option Value):Prop where
 all:mg "all"=none
 bool:mg "bool"=none
 dict:mg "dict"=none
 enumerate:mg "enumerate"=none
 int:mg "int"=none
 isinstance:mg "isinstance"=none
 len:mg "len"=none
 list:mg "list"=none
 range:mg "range"=none
 str:mg "str"=none
 tuple:mg "tuple"=none
 zip:mg "zip"=none
structure Cs(K:Za)(mg:Str->Option Value)(C Cx Ct a_STILL C_NoWord:Addr):Prop where
 LETTERS:Gc mg "LETTERS" (.str "abcdefghijklmnopqrstuvwxyz")
 LONGEST_NAME:Gc mg "LONGEST_NAME" (.int 8)
 MOST_WORDS:Gc mg "MOST_WORDS" (.int 4)
 MOST_ROOMS:Gc mg "MOST_ROOMS" (.int 150)
 MOST_DOORS:Gc mg "MOST_DOORS" (.int 2000)
 STILL:Gc mg "STILL" (.ref a_STILL)
 still:GJ K a_STILL stillSg
 nst:bw K bq "STILL"=some (some (.ref a_STILL))
 mc:MC K C
 cm:mg "Machine"=some (.ref C)
 makes:vU K C=true
 kc:dB K (.ref C)=true
 xc:XC K Cx
 xb:EW K Ct
 NoMachine:mg "NoMachine"=some (.ref Cx)
 TrialError:mg "TrialError"=some (.ref Ct)
 kx:dB K (.ref Cx)=true
 xt:XO K Ct jC
 xg:XG K
 x_NoMachine:XX K mg "NoMachine" Cx Ct
 nd:[Ct,Cx,C_NoWord].Nodup
 x_NoWord:XX K mg "NoWord" C_NoWord Ct
 na_NoWord_number:cG K C_NoWord "number"
structure Ts(K:Za)(C Cx C_NoWord:Addr):Prop where
 f_law_spread:j5 K "_law_spread" (iK 30)
 f_law_open:j5 K "_law_open" (iK 31)
 f_law_anew:j5 K "_law_anew" (iK 32)
 f_law_take:j5 K "_law_take" (iK 33)
 f_law_names:j5 K "_law_names" (iK 34)
 f_law_put:j5 K "_law_put" (iK 36)
 f_law_draw_doors:j5 K "_law_draw_doors" (iK 37)
 f_law_model:j5 K "_law_model" (iK 38)
 f_law_still_on:j5 K "_law_still_on" (iK 35)
 f_NoMachine_init:Bp K Cx "__init__" "NoMachine.__init__" (gV (iK 3) 0)
 f_is_name:j5 K "is_name" (iK 12)
 f_as_keys:j5 K "as_keys" (iK 13)
 f_first_wrong_name:j5 K "first_wrong_name" (iK 14)
 f_door_signs:j5 K "door_signs" (iK 15)
 f_first_wrong_door:j5 K "first_wrong_door" (iK 16)
 f_goals_by_start_and_sign:j5 K "goals_by_start_and_sign" (iK 17)
 f_led_by_still:j5 K "led_by_still" (iK 18)
 f_first_led_round:j5 K "first_led_round" (iK 19)
 f_need_none:j5 K "need_none" (iK 20)
 f_need_parts:j5 K "need_parts" (iK 21)
 f_doors_by_start:j5 K "doors_by_start" (iK 22)
 f_has_asks_alone:j5 K "has_asks_alone" (iK 23)
 f_Machine___init__:Bp K C "__init__" "Machine.__init__" (gV (iK 24) 0)
 f_NoWord_init:Bp K C_NoWord "__init__" "NoWord.__init__" (gV (iK 4) 0)
 f_Machine_asks:Bp K C "asks" "Machine.asks" (gV (iK 24) 1)
 f_Machine_says:Bp K C "says" "Machine.says" (gV (iK 24) 2)
 f_Machine_rooms:Bp K C "rooms" "Machine.rooms" (gV (iK 24) 3)
 f_Machine_doors:Bp K C "doors" "Machine.doors" (gV (iK 24) 4)
 f_Machine_doors_from:Bp K C "doors_from" "Machine.doors_from" (gV (iK 24) 6)
 f_Machine_is_quiet:Bp K C "is_quiet" "Machine.is_quiet" (gV (iK 24) 5)
 f_law_same:j5 K "_law_same" (iK 43)
 f_law_letters:j5 K "_law_letters" (iK 39)
 f_law_text:j5 K "_law_text" (iK 40)
 f_law_round:j5 K "_law_round" (iK 41)
 f_law_machine:j5 K "_law_machine" (iK 44)
 f_need_says:j5 K "need_says" (iK 26)
 f_hidden_sign:j5 K "hidden_sign" (iK 27)
 f_hidden:j5 K "hidden" (iK 28)
 f_law_hidden_doors:j5 K "_law_hidden_doors" (iK 42)
 f_law_hidden_due:j5 K "_law_hidden_due" (iK 45)
 f_law_drawn_words:j5 K "_law_drawn_words" (iK 46)
 f_law_tells:j5 K "_law_tells" (iK 47)
 f_law72:j5 K "law" (iK 48)
section
variable{P:bg}{w:World}{K:Za}{mg:Str->Option Value}{base h:Heap}{C Cx Ct a_STILL C_NoWord:Addr}
section
variable(P:bg)(w:World)(K:Za)(mg:Str->Option Value)(C Cx Ct a_STILL C_NoWord:Addr)
abbrev jS:Prop:=∀base,Def P w K mg base "_law_spread" ["cell","at"] 1 kY
abbrev su:Prop:=∀base,Def P w K mg base "_law_open" ["script"] 1 (p8 K)
abbrev mB:Prop:=∀base,Def P w K mg base "_law_anew" ["pen"] 1 uU
abbrev eL:Prop:=∀base,Def P w K mg base "_law_take" ["pen","many"] 2 cw
abbrev kT:Prop:=∀base,Def P w K mg base "_law_names" ["pen","many"] 3 mT
abbrev o9:Prop:=∀base,Def P w K mg base "_law_put" ["doors","door"] 1 rc
abbrev fX:Prop:=∀base,Def P w K mg base "_law_draw_doors" ["pen","asks","says","rooms","full"] 3 f_
abbrev pM:Prop:=∀base,Def P w K mg base "_law_model" ["pen","most","full"] 4 mU
abbrev iH:Prop:=∀base,Def P w K mg base "_law_still_on" ["doors","rooms"] 1 (iR K)
abbrev kU:Prop:=∀base,CW P w K mg base "NoMachine" Cx ["self","part","number"] 1 (mQ Cx)
abbrev o_:Prop:=∀base,Def P w K mg base "is_name" ["text"] 1 sp_is_name
abbrev jU:Prop:=∀base,Def P w K mg base "as_keys" ["things"] 1 (wt K)
abbrev jp:Prop:=∀base,Def P w K mg base "as_keys" ["things"] 1 (sp_as_keys K)
abbrev eN:Prop:=∀base,Def P w K mg base "first_wrong_name" ["names","most","taken"] 2 (sp_first_wrong_name K)
abbrev jT:Prop:=∀base,Def P w K mg base "door_signs" ["asks","says"] 1 (sp_door_signs K)
abbrev eO:Prop:=∀base,Def P w K mg base "first_wrong_door" ["doors","rooms","signs"] 2 (sp_first_wrong_door K)
abbrev cH:Prop:=∀base,Def P w K mg base "goals_by_start_and_sign" ["doors"] 1 kD
abbrev iG:Prop:=∀base,Def P w K mg base "led_by_still" ["goals","room"] 1 re
abbrev fD:Prop:=∀base,Def P w K mg base "first_led_round" ["rooms","led"] 1 bZ
abbrev i4:Prop:=∀base,zh P w K mg base "need_none" ["part","number"] 3 (cM Cx)
abbrev jR:Prop:=∀base,zh P w K mg base "need_parts" ["asks","says","rooms","doors"] 4 (dI Cx)
abbrev f8:Prop:=∀base,Def P w K mg base "doors_by_start" ["rooms","doors"] 1 sp_doors_by_start
abbrev fZ:Prop:=∀base,Def P w K mg base "has_asks_alone" ["doors"] 1 sp_has_asks_alone
abbrev lm:Prop:=∀base,Ej P w K mg base "Machine" C ["self","asks","says","rooms","doors"] 5 (kC C Cx)
abbrev sv:Prop:=∀base,CW P w K mg base "NoWord" C_NoWord ["self","number"] 2 (oq C_NoWord "number")
abbrev fE:Prop:=∀base,CZ P w K mg base C "asks" ["self"] 1 (mW C)
abbrev dU:Prop:=∀base,CZ P w K mg base C "says" ["self"] 1 (kZ C)
abbrev eE:Prop:=∀base,CZ P w K mg base C "rooms" ["self"] 1 (kB C)
abbrev eF:Prop:=∀base,CZ P w K mg base C "doors" ["self"] 1 (mV C)
abbrev dW:Prop:=∀base,CZ P w K mg base C "doors_from" ["self","room"] 1 (gb C)
abbrev eP:Prop:=∀base,CZ P w K mg base C "is_quiet" ["self","room"] 1 (iT C)
abbrev mz:Prop:=∀base,Def P w K mg base "_law_same" ["found","due"] 5 (kA K)
abbrev i_:Prop:=∀base,Def P w K mg base "_law_letters" [] 1 ij
abbrev my:Prop:=∀base,Def P w K mg base "_law_text" ["pen"] 3 mR
abbrev kS:Prop:=∀base,Def P w K mg base "_law_round" ["rooms","doors"] 2 mS
abbrev lK:Prop:=∀base,Def P w K mg base "_law_machine" ["told"] 7 (jD C)
abbrev kR:Prop:=∀base,zh P w K mg base "need_says" ["M","words"] 4 (iS C C_NoWord)
abbrev ja:Prop:=∀base,Def P w K mg base "hidden_sign" ["sign","words"] 1 (jE K)
abbrev xG:Prop:=∀base,zh P w K mg base "hidden" ["M","words"] 7 (sp_hidden K C Cx C_NoWord)
abbrev eM:Prop:=∀base,Def P w K mg base "_law_hidden_doors" ["doors","words"] 1 iU
abbrev jo:Prop:=∀base,Def P w K mg base "_law_hidden_due" ["told","words"] 3 jc
abbrev i5:Prop:=∀base,Def P w K mg base "_law_drawn_words" ["pen","asks","says"] 4 k4
abbrev pL:Prop:=∀base,Def P w K mg base "_law_tells" ["machine","told"] 6 (dZ C)
end
section
variable(X:K.In h)(G:h.Ns bq mg)(z:Zs mg)(c:Cs K mg C Cx Ct a_STILL C_NoWord)(T:Ts K C Cx C_NoWord)
include X G z c T
theorem sD:jS P w K mg:=fun base=>dG X G T.f_law_spread (fun S _ _ _ _ _ _ _ _ _ a e h=>bK (AS (K:=K) h) (ac (bc (lW Gx (pv 0) (aU Cm ag ag)) (af (aw (pv 0))) ay) (ac (qs 2 S (aU fQ (aU cF (aU cF (aU iq (aU fQ (pv 0) ag) ag) (aU iq (pv 1) ag)) ag) ag)) (ac (qs 3 S (aU fQ (aU cF (aU cF (aU iq (pv 2) (pv 2)) (aU iq (pv 1) ag)) (aU fQ (pv 0) ag)) ag)) (ac (qs 4 S (aU fQ (aU cF (aU cF (aU iq (pv 3) (pv 3)) (aU iq (pv 2) ag)) ag) ag)) (af (aw (aU cF (aU iq (aU cF (aU iq (pv 2) ag) (pv 3)) ag) (pv 4))))))))) (by walk_at "b")
theorem wn:su P w K mg:=fun base=>dG X G T.f_law_open (fun S _ _ _ _ _ _ _ _ _ a e h=>bK (Dt h) (ac (qs 1 S (qL rfl z.list (a1 (dg jF (pv 0) gf (dA ag))))) (ac (cV cz rfl (iX rfl z.enumerate (a1 (dg jF (pv 0) (dA ag) (dA ag)))) (eg rfl (aA (gn 2 S) (aA (gn 3 S) cQ))) (af (oA (aU cF (xl (pv 1) (aU fQ (pv 2) ag)) (pv 3)) (rp (pv 1) (aU fQ (pv 2) ag) kF)))) (af (aw (cE (a3 (pv 1) ag ag))))))) (by walk_at "b")
theorem wo:mB P w K mg:=fun base=>dG X G T.f_law_anew (fun S _ _ _ _ _ _ _ _ _ a e h=>bK (Dv (K:=K) h) (ac (oA ag (rp (pv 0) ag kF)) (af (aw (pv 0))))) (by walk_at "b")
theorem wk(a:jS P w K mg):eL P w K mg:=fun base=>dG X G T.f_law_take (fun S _ _ _ _ _ _ _ _ _ e f h=>bK (Dq h) (ac (bc (lW Cp (xl (pv 0) ag) (pv 1)) (ac (qs 2 S (xl (pv 0) ag)) (ac (qs 3 S ag) (ac (bc (lW Cp (pv 2) (ql z.len (a1 (xl (pv 0) ag)))) (af (qs 3 S (xl (xl (pv 0) ag) (pv 2)))) (af (bc (lW Ey (ql z.len (a1 (xl (pv 0) ag))) ag) (af (qs 3 S (aU fQ (xl (xl (pv 0) ag) (aU fQ (aU cF (aU iq (pv 2) ag) ag) (ql z.len (a1 (xl (pv 0) ag))))) (aU cF (aU Cm ag ag) (pv 2))))) ay))) (ac (oA (aU cF (pv 2) ag) (rp (pv 0) ag kF)) (af (oA (qf e (a base) (a2 (pv 3) (pv 2))) (rp (pv 0) ag kF))))))) ay) (ac (qs 4 S (aU fQ (xl (pv 0) ag) (pv 1))) (ac (oA (aU z9 (xl (pv 0) ag) (pv 1)) (rp (pv 0) ag kF)) (af (aw (pv 4))))))) (by walk_at "b")
theorem uQ(a:eL P w K mg):kT P w K mg:=fun base=>dG X G T.f_law_names (fun S _ _ _ _ _ _ _ _ _ e f h=>bK (BY h) (ac (qs 2 S bG) (ac (qs 3 S (kI PySem.F.plainAttrs_str PySem.F.slot_str_join PySem.F.type_str_join Aa bG (a1 (qc (jd rfl z.range (a1 ag)) (be (by decide)) fun _ _ _ _ _ _=>⟨gc 0,dO,xs' (pv 1) (qf e (a base) (a2 (pv 2) ag))⟩)))) (ac (qs 4 S (qf e (a base) (a2 (pv 0) ag))) (ac (qs 5 S (qf e (a base) (a2 (pv 0) ag))) (ac (qs 6 S (qf e (a base) (a2 (pv 0) ag))) (ac (qs 7 S (cE fP)) (ac (cV cz rfl (jd rfl z.range (a1 (pv 1))) (gn 8 S) (ac (qs 9 S (xs' (pv 2) (aU fQ (aU cF (pv 5) (aU iq ag (pv 8))) ag))) (ac (qs 10 S (dg rf (pv 3) gf (dA (aU fQ (aU cF (pv 6) (aU iq (pv 8) (aU fQ (pv 4) ag))) ag)))) (ac (qs 11 S (xl (cE (a3 ag (ql z.len (a1 (pv 10))) (aU z9 (ql z.len (a1 (pv 10))) ag))) (pv 4))) (af (bT (kI jq lM lL eT (pv 7) (a1 (aU jK (aU jK (dg rf (pv 10) gf (dA (pv 11))) (pv 9)) (dg rf (pv 10) (dA (pv 11)) gf)))))))))) (af (aw (pv 7))))))))))) (by walk_at "b")
theorem x_:o9 P w K mg:=fun base=>dG X G T.f_law_put (fun S _ _ _ _ _ _ _ _ _ e a h=>bK (Fo h) (af (bc (Bu (eS a) (pv 1) (pv 0)) (af (bT (kI jq lM lL eT (pv 0) (a1 (pv 1))))) ay))) (by walk_at "b")
theorem mM(a:eL P w K mg)(e:o9 P w K mg):fX P w K mg:=fun base=>dG X G T.f_law_draw_doors (fun S _ _ _ _ _ _ _ _ _ f g h=>bK (sI h) (ac (qs 5 S (cE fP)) (ac (qs 6 S (qf f (a base) (a2 (pv 0) ag))) (ac (cV cz rfl (iX rfl z.enumerate (a1 (pv 3))) (eg rfl (aA (gn 7 S) (aA (gn 8 S) cQ))) (ac (cV cz rfl (jd rfl z.range (a1 (xl (cE (bM ag (a3 ag ag ag))) (qf f (a base) (a2 (pv 0) ag))))) (gn 9 S) (ac (qs 10 S (bX (a2 bG (xl (pv 2) (qf f (a base) (a2 (pv 0) (ql z.len (a1 (pv 2))))))))) (af (bT (qf f (e base) (a2 (pv 5) (bX (a3 (pv 8) (pv 10) (xl (pv 3) (qf f (a base) (a2 (pv 0) (ql z.len (a1 (pv 3)))))))))))))) (ac (cV cz rfl (bI (pv 1)) (gn 11 S) (af (cV cz rfl (jd rfl z.range (a1 (xl (cE (bM (pv 4) (a3 ag ag ag))) (qf f (a base) (a2 (pv 0) ag))))) (gn 9 S) (af (bT (qf f (e base) (a2 (pv 5) (bX (a3 (pv 8) (bX (a2 bG (pv 11))) (xl (pv 3) (qf f (a base) (a2 (pv 0) (ql z.len (a1 (pv 3))))))))))))))) (ac (qs 12 S (xl (cE (a2 (dg jF (pv 3) (dA (aU cF (pv 7) ag)) gf) (dg jF (pv 3) gf (dA (pv 7))))) (pv 6))) (af (bc (PW.pt (gF (lW (Co g) (pv 12) (cE fP)) (ft (lW gL (qf f (a base) (a2 (pv 0) ag)) ag)))) (af (bT (qf f (e base) (a2 (pv 5) (bX (a3 (pv 8) (bX (a1 bG)) (xq (pv 12) (qf f (a base) (a2 (pv 0) (ql z.len (a1 (pv 12)))))))))))) ay)))))) (af (aw (pv 5))))))) (by walk_at "b")
theorem uR(g:mB P w K mg)(a:eL P w K mg)(e:kT P w K mg)(f:fX P w K mg):pM P w K mg:=fun base=>dG X G T.f_law_model (fun S _ _ _ _ _ _ _ _ _ i j h=>bK (BZ h) (ac (bT (qf i (g base) (a1 (pv 0)))) (ac (qs 3 S (qf i (e base) (a2 (pv 0) ag))) (ac (qs 4 S (dg jF (pv 3) gf (dA (aU cF ag (xl (cE (bM ag (bM ag (bM ag (a3 ag ag ag))))) (qf i (a base) (a2 (pv 0) ag))))))) (ac (qs 5 S (dg jF (pv 3) (dA ag) (dA (aU cF ag (xl (cE (bM ag (bM ag (bM ag (a3 ag ag ag))))) (qf i (a base) (a2 (pv 0) ag))))))) (ac (qs 6 S (qf i (e base) (a2 (pv 0) (aU cF ag (qf i (a base) (a2 (pv 0) (pv 1))))))) (ac (qs 7 S (qf i (f base) (bM (pv 0) (bM (pv 4) (a3 (pv 5) (pv 6) (pv 2)))))) (af (aw (bX (bM (pv 4) (a3 (pv 5) (pv 6) (pv 7))))))))))))) (by walk_at "b")
theorem pT:iH P w K mg:=fun base=>dG X G T.f_law_still_on (fun S _ _ _ _ _ _ _ _ _ e a h=>bK (ww h) (ac (qs 2 S (qL rfl z.list (a1 (pv 1)))) (ac (qs 3 S ag) (ac (wK cz (lW Cp (pv 3) (ql z.len (a1 (pv 2)))) (ac (cV cz rfl (bI (pv 0)) (eg rfl (aA (gn 4 S) (aA (gn 5 S) (aA (gn 6 S) cQ)))) (af (bc (PW.pt (gF (lW (fR a) (pv 4) (xq (pv 2) (pv 3))) (gF (lW (fR a) (pv 5) (bX (a1 bG))) (ft (Bu (eS a) (pv 6) (pv 2)))))) (af (bT (kI jq lM lL eT (pv 2) (a1 (pv 6))))) ay))) (af (qs 3 S (aU cF (pv 3) ag))))) (af (aw (pv 2))))))) (by walk_at "b")
theorem uS:kU P w K mg Cx:=fun base=>dXN c.NoMachine c.xc.cls c.kx T.f_NoMachine_init (fun S _ _ _ _ _ _ _ _ _ a e h=>bK (BU c.xc h) (ac (bT (wN c.xb rfl c.TrialError (a3 (pv 0) (pv 1) (pv 2)))) (ac (u6 (pv 0) (pv 1) rfl) (af (u6 (pv 0) (pv 2) rfl))))) (by walk_at "b")
theorem ya:o_ P w K mg:=fun base=>dG X G T.f_is_name (fun S _ _ _ _ _ _ _ _ _ a e h=>bK (yn h) (af (aw (eh (Bc tI (pv 0) bG) (eh (Bc Gw (ql z.len (a1 (pv 0))) (nc rfl c.LONGEST_NAME)) (ip (qB (gA rfl) z.all qk (a1 (qc (Fv (pv 0)) (be (by decide)) fun _ _ _ _ _ _=>⟨gc 0,dO,eci yD (pv 0) (nc rfl c.LETTERS)⟩))))))))) (by walk_at "b")
theorem wq:jU P w K mg:=fun base=>dG X G T.f_as_keys (N:=o6) (fun S _ _ _ _ _ _ _ _ _ e a h=>by rcases h with h|h;(exact bK (yq h) (ac (qs 1 S ng) (ac (cV cz rfl (bI (pv 0)) (gn 2 S) (af (jI a (pv 1) (pv 2) fx rfl))) (af (aw (pv 1))))));(exact bK (wE h) (ac (qs 1 S rq) (ac (cV cz rfl (bI (pv 0)) (gn 2 S) (af (jI a (pv 1) (pv 2) fx rfl))) (af (aw (pv 1))))))) (by walk_at "b") (l:=fun f H Q E h=>by rcases h with h|h<;>(cases h;subst_vars;rfl))
theorem yb(a:jU P w K mg):jp P w K mg:=fun base=>Def.weak (a base) (fun _ _ _ _ h=>.inl h)
theorem lu(a:o_ P w K mg)(e:jp P w K mg):eN P w K mg:=fun base=>dG X G T.f_first_wrong_name (fun S _ _ _ _ _ _ _ _ _ f g h=>bK (lA h) (ac (bc (lW gL (ql z.len (a1 (pv 0))) ag) (af (aw ag)) ay) (ac (qs 3 S (qf f (e base) (a1 (pv 2)))) (ac (cV cz rfl (iX rfl z.enumerate (a1 (pv 0))) (eg rfl (aA (gn 4 S) (aA (gn 5 S) cQ))) (ac (bc (PW.pt (m9 (lW gL (pv 4) (pv 1)) (m9 (fO (rB g (pv 5) (pv 3))) (ma (io (bJ (qf f (a base) (a1 (pv 5))))))))) (af (aw (pv 4))) ay) (af (jI g (pv 3) (pv 5) fx rfl)))) (af (aw oC)))))) (by walk_at "b")
theorem sE:jT P w K mg:=fun base=>dG X G T.f_door_signs (fun S _ _ _ _ _ _ _ _ _ a e h=>bK (sK c.still h) (af (aw (aU vb (aU vb (qc (bI (pv 0)) (be (by decide)) fun _ _ _ _ _ _=>⟨gc 0,dO,bX (a2 bG (pv 0))⟩) (qc (bI (pv 1)) (be (by decide)) fun _ _ _ _ _ _=>⟨gc 0,dO,bX (a2 bG (pv 0))⟩)) (cE (a1 (nc rfl c.STILL))))))) (by walk_at "b")
theorem lz(a:jp P w K mg):eO P w K mg:=fun base=>dG X G T.f_first_wrong_door (fun S _ _ _ _ _ _ _ _ _ f e h=>bK (lB h) (ac (qs 3 S (qf f (a base) (a1 (pv 1)))) (ac (qs 4 S rq) (ac (cV cz rfl (iX rfl z.enumerate (a1 (pv 0))) (eg rfl (aA (gn 5 S) (aA (gn 6 S) cQ))) (ac (bc (PW.pt (m9 (lW gL (pv 5) (nc rfl c.MOST_DOORS)) (ma (fO (rB e (pv 6) (pv 4)))))) (af (aw (pv 5))) ay) (ac (bc (PW.pt (m9 (fO (oG e (xq (pv 6) ag) (pv 3))) (m9 (Bu (eS e) (xq (pv 6) ag) (pv 2)) (ma (fO (oG e (xq (pv 6) ag) (pv 3))))))) (af (aw (pv 5))) ay) (af (jI e (pv 4) (pv 6) fx rfl))))) (af (aw oC)))))) (by walk_at "b")
theorem ie:cH P w K mg:=fun base=>dG X G T.f_goals_by_start_and_sign (fun S _ _ _ _ _ _ _ _ _ e a h=>bK (ik h) (ac (qs 1 S rq) (ac (cV cz rfl (bI (pv 0)) (eg rfl (aA (gn 2 S) (aA (gn 3 S) (aA (gn 4 S) cQ)))) (af (bT (kI jq lM lL eT (kI PySem.F.plainAttrs_dict PySem.F.slot_dict_setdefault PySem.F.type_dict_setdefault (A3 a) (pv 1) (a2 (bX (a2 (pv 2) (pv 3))) (cE fP))) (a1 (pv 4)))))) (af (aw (pv 1)))))) (by walk_at "b")
theorem pS:iG P w K mg:=fun base=>dG X G T.f_led_by_still (fun S _ _ _ _ _ _ _ _ _ e a h=>bK (pU c.still h) (ac (qs 2 S ng) (ac (qs 3 S (cE (a1 (pv 1)))) (ac (wK cz (lW Ey (ql z.len (a1 (pv 3))) ag) (ac (qs 4 S (FB jq PySem.F.slot_list_pop PySem.F.type_list_pop FD (pv 3))) (af (cV cz rfl (Fw (wL a (pv 0) (bX (a2 (pv 4) (nc rfl c.STILL))) (bX fP) ⟨rfl,rfl,rfl,rfl⟩)) (gn 5 S) (af (bc (fO (oG a (pv 5) (pv 2))) (ac (jI a (pv 2) (pv 5) fx rfl) (af (bT (kI jq lM lL eT (pv 3) (a1 (pv 5)))))) ay)))))) (af (aw (pv 2))))))) (by walk_at "b")
theorem l9:fD P w K mg:=fun base=>dG X G T.f_first_led_round (fun S _ _ _ _ _ _ _ _ _ e a h=>bK (lC h) (ac (cV cz rfl (iX rfl z.enumerate (a1 (pv 0))) (eg rfl (aA (gn 2 S) (aA (gn 3 S) cQ))) (af (bc (fO (rB a (pv 3) (u9 a (pv 1) (pv 3) (fun _ _=>rfl)))) (af (aw (pv 2))) ay))) (af (aw oC)))) (by walk_at "b")
theorem uN(a:kU P w K mg Cx):i4 P w K mg Cx:=fun base=>G6 X G T.f_need_none (fun S _ _ _ _ _ _ _ _ _ e f h=>bK (sH h) (af (bc (fO (z7 (pv 1))) (af (A0 (a base) rJ (e.mono (by decide)) rfl rfl (a2 (pv 0) (pv 1)))) ay))) (by walk_at "b")
theorem sC(a:eN P w K mg)(g:jT P w K mg)(f:eO P w K mg)(e:i4 P w K mg Cx):jR P w K mg Cx:=fun base=>G6 X G T.f_need_parts (fun S _ _ _ _ _ _ _ _ _ i j h=>bK (rj h) (ac (bT (oE (e base) rJ (i.mono (by decide)) rfl (a2 bG (qf i (a base) (a3 (pv 0) (nc rfl c.MOST_WORDS) (cE fP)))))) (ac (bT (oE (e base) rJ (i.mono (by decide)) rfl (a2 bG (qf i (a base) (a3 (pv 1) (nc rfl c.MOST_WORDS) (pv 0)))))) (ac (bT (oE (e base) rJ (i.mono (by decide)) rfl (a2 bG (qf i (a base) (a3 (pv 2) (nc rfl c.MOST_ROOMS) (cE fP)))))) (af (bT (oE (e base) rJ (i.mono (by decide)) rfl (a2 bG (qf i (f base) (a3 (pv 3) (pv 2) (qf i (g base) (a2 (pv 0) (pv 1))))))))))))) (by walk_at "b")
theorem mO:f8 P w K mg:=fun base=>dG X G T.f_doors_by_start (fun S _ _ _ _ _ _ _ _ _ e a h=>bK (m7 h) (ac (qs 2 S ng) (ac (cV cz rfl (bI (pv 0)) (gn 3 S) (af (jI a (pv 2) (pv 3) (cE fP) rfl))) (ac (cV cz rfl (bI (pv 1)) (gn 4 S) (af (bT (kI jq lM lL eT (u9 a (pv 2) (xq (pv 4) ag) (fun _ _=>rfl)) (a1 (pv 4)))))) (af (aw (pv 2))))))) (by walk_at "b")
theorem mN:fZ P w K mg:=fun base=>dG X G T.f_has_asks_alone (fun S _ _ _ _ _ _ _ _ _ a e h=>bK (m5 h) (af (aw (qB (gA rfl) z.all qk (a1 (qc (bI (pv 0)) (be (by decide)) fun _ _ _ _ _ _=>⟨gc 0,dO,Bc gL (xq (xq (pv 0) ag) ag) bG⟩)))))) (by walk_at "b")
theorem yd(l:jp P w K mg)(a:cH P w K mg)(i:iG P w K mg)(e:fD P w K mg)(k:i4 P w K mg Cx)(j:jR P w K mg Cx)(f:f8 P w K mg)(g:fZ P w K mg):lm P w K mg C Cx:=fun base=>dNX c.cm c.makes c.kc T.f_Machine___init__ (fun S _ _ _ _ _ _ _ _ _ m n h=>bK (B1 c.mc h) (ac (bT (oE (j base) rJ (m.mono (by decide)) rfl (bM (pv 1) (a3 (pv 2) (pv 3) (pv 4))))) (ac (PS.nox (kH (pv 0) (qL rfl z.list (a1 (pv 1))) rfl)) (ac (PS.nox (kH (pv 0) (qL rfl z.list (a1 (pv 2))) rfl)) (ac (PS.nox (kH (pv 0) (qL rfl z.list (a1 (pv 3))) rfl)) (ac (PS.nox (kH (pv 0) (qL rfl z.list (a1 (pv 4))) rfl)) (ac (PS.nox (kH (pv 0) (qf m (f base) (a2 (pv 3) (pv 4))) rfl)) (ac (PS.nox (kH (pv 0) (qf m (l base) (a1 (qc (bI (pv 3)) (be (by decide)) fun _ _ _ _ _ _=>⟨gc 0,iW (bJ (qf m (g base) (a1 (u9 n (jJ (pv 1) rfl) (pv 0) (fun _ _=>rfl))))),pv 0⟩))) rfl)) (ac (PS.nox (kH (pv 0) (qf m (a base) (a1 (pv 4))) rfl)) (ac (PS.nox (kH (pv 0) (oF (vD rfl) rfl z.dict yY (a1 (qc (bI (pv 3)) (be (by decide)) fun _ _ _ _ _ _=>⟨gc 0,dO,bX (a2 (pv 0) (qf m (i base) (a2 (jJ (pv 1) rfl) (pv 0))))⟩))) rfl)) (af (bT (oE (k base) rJ (m.mono (by decide)) rfl (a2 bG (qf m (e base) (a2 (pv 3) (jJ (pv 0) rfl))))))))))))))))) (by walk_at "b")
theorem AN:sv P w K mg C_NoWord:=fun base=>dXN c.x_NoWord.g c.x_NoWord.cls c.x_NoWord.kp T.f_NoWord_init (fun S _ _ _ _ _ _ _ _ _ a e h=>bK (Fn (n0:="self") (n1:="number") c.x_NoWord.cls c.na_NoWord_number h) (ac (bT (wN c.xb rfl c.TrialError (a2 (pv 0) (pv 1)))) (af (u6 (pv 0) (pv 1) rfl)))) (by walk_at "b")
theorem pR:fE P w K mg C:=fun base=>dM c.mc.cls T.f_Machine_asks (fun S _ _ _ _ _ _ _ _ _ a e h=>bK (Du c.mc h) (af (aw (qL rfl z.list (a1 (jJ (pv 0) rfl)))))) (by walk_at "b")
theorem pQ:dU P w K mg C:=fun base=>dM c.mc.cls T.f_Machine_says (fun S _ _ _ _ _ _ _ _ _ a e h=>bK (Dr c.mc h) (af (aw (qL rfl z.list (a1 (jJ (pv 0) rfl)))))) (by walk_at "b")
theorem om:eE P w K mg C:=fun base=>dM c.mc.cls T.f_Machine_rooms (fun S _ _ _ _ _ _ _ _ _ a e h=>bK (BX c.mc h) (af (aw (qL rfl z.list (a1 (jJ (pv 0) rfl)))))) (by walk_at "b")
theorem on:eF P w K mg C:=fun base=>dM c.mc.cls T.f_Machine_doors (fun S _ _ _ _ _ _ _ _ _ a e h=>bK (B3 c.mc h) (af (aw (qL rfl z.list (a1 (jJ (pv 0) rfl)))))) (by walk_at "b")
theorem j4:dW P w K mg C:=fun base=>dM c.mc.cls T.f_Machine_doors_from (fun S _ _ _ _ _ _ _ _ _ e a h=>bK (sJ c.mc h) (af (aw (qL rfl z.list (a1 (wL a (jJ (pv 0) rfl) (pv 1) (bX fP) ⟨rfl,rfl,rfl,rfl⟩)))))) (by walk_at "b")
theorem lq:eP P w K mg C:=fun base=>dM c.mc.cls T.f_Machine_is_quiet (fun S _ _ _ _ _ _ _ _ _ e a h=>bK (wC c.mc h) (af (aw (u_ (rB a (pv 1) (jJ (pv 0) rfl)))))) (by walk_at "b")
theorem wm:mz P w K mg:=fun base=>by
  have E0:Def P w K mg base "_law_same" ["found","due"] 0 Go:=by
   obtain⟨f,a,t⟩:=T.f_law_same;obtain⟨p,F⟩:=t.fun_;exact⟨f,p,Gy,eG X G a,F.kp,F.binds (ps:=["found","due"]) (by walk_at "b")⟩
  have st:∀(j:Nat) (k:Sp),j<=8->(∀m,j=m+1->k=(fq K m))->Def P w K mg base "_law_same" ["found","due"] j k->Def P w K mg base "_law_same" ["found","due"] (j+1) (fq K j):=fun j k v n q=>dG X G T.f_law_same (fun S _ _ _ _ _ _ _ _ _ i g h=>bK (wx n h) (ac (bc (fO (md (pv 1))) (af (aw (u_ (md (pv 0))))) ay) (ac (bc (bJ (qB aI z.isinstance aJ (a2 (pv 1) (c6 rfl z.bool)))) (af (aw (eh (qB aI z.isinstance aJ (a2 (pv 0) (c6 rfl z.bool))) (ip (Bc (fR g) (pv 0) (pv 1)))))) ay) (ac (bc (bJ (qB aI z.isinstance aJ (a2 (pv 1) (g_ rfl z.str)))) (af (aw (eh (qB aI z.isinstance aJ (a2 (pv 0) (g_ rfl z.str))) (ip (Bc (fR g) (pv 0) (pv 1)))))) ay) (ac (bc (bJ (qB aI z.isinstance aJ (a2 (pv 1) (hJ rfl z.int)))) (af (aw (eh (qB aI z.isinstance aJ (a2 (pv 0) (hJ rfl z.int))) (eh (yB (qB aI z.isinstance aJ (a2 (pv 0) (c6 rfl z.bool)))) (ip (Bc (fR g) (pv 0) (pv 1))))))) ay) (ac (bc (PW.pt (gF (bJ (qB aI z.isinstance aJ (a2 (pv 1) (eR rfl z.tuple)))) (ft (io (bJ (qB aI z.isinstance aJ (a2 (pv 0) (eR rfl z.tuple)))))))) (af (aw fx)) ay) (ac (bc (PW.pt (gF (bJ (qB aI z.isinstance aJ (a2 (pv 1) (eK rfl z.list)))) (ft (io (bJ (qB aI z.isinstance aJ (a2 (pv 0) (eK rfl z.list)))))))) (af (aw fx)) ay) (ac (bc (lW tI (ql z.len (a1 (pv 0))) (ql z.len (a1 (pv 1)))) (af (aw fx)) ay) (af (aw (qB (gA rfl) z.all qk (a1 (qc (u7 rfl z.zip (a2 (pv 0) (pv 1))) (qa (d4 (be (by decide)) bL (d4 (be (by decide)) bL (ni) (d5)) (fS bL (d5)))) fun _ _ _ _ _ _=>⟨eg rfl (aA (gc 0) (aA (gc 1) cQ)),dO,z0 q i rfl (a2 (pv 0) (pv 1))⟩))))))))))))) (by walk_at "b");have r:=st 0 _ (by decide) (fun m e=>by cases e) E0;have s:=st 1 _ (by decide) (fun m e=>by cases e;rfl) r;have u:=st 2 _ (by decide) (fun m e=>by cases e;rfl) s;have o:=st 3 _ (by decide) (fun m e=>by cases e;rfl) u;exact dG X G T.f_law_same (fun S _ _ _ _ _ _ _ _ _ i g h=>by rcases h with h|⟨_,_,h⟩;(exact bK (wx (fun m e=>by cases e;rfl) h) (ac (bc (fO (md (pv 1))) (af (aw (u_ (md (pv 0))))) ay) (ac (bc (bJ (qB aI z.isinstance aJ (a2 (pv 1) (c6 rfl z.bool)))) (af (aw (eh (qB aI z.isinstance aJ (a2 (pv 0) (c6 rfl z.bool))) (ip (Bc (fR g) (pv 0) (pv 1)))))) ay) (ac (bc (bJ (qB aI z.isinstance aJ (a2 (pv 1) (g_ rfl z.str)))) (af (aw (eh (qB aI z.isinstance aJ (a2 (pv 0) (g_ rfl z.str))) (ip (Bc (fR g) (pv 0) (pv 1)))))) ay) (ac (bc (bJ (qB aI z.isinstance aJ (a2 (pv 1) (hJ rfl z.int)))) (af (aw (eh (qB aI z.isinstance aJ (a2 (pv 0) (hJ rfl z.int))) (eh (yB (qB aI z.isinstance aJ (a2 (pv 0) (c6 rfl z.bool)))) (ip (Bc (fR g) (pv 0) (pv 1))))))) ay) (ac (bc (PW.pt (gF (bJ (qB aI z.isinstance aJ (a2 (pv 1) (eR rfl z.tuple)))) (ft (io (bJ (qB aI z.isinstance aJ (a2 (pv 0) (eR rfl z.tuple)))))))) (af (aw fx)) ay) (ac (bc (PW.pt (gF (bJ (qB aI z.isinstance aJ (a2 (pv 1) (eK rfl z.list)))) (ft (io (bJ (qB aI z.isinstance aJ (a2 (pv 0) (eK rfl z.list)))))))) (af (aw fx)) ay) (ac (bc (lW tI (ql z.len (a1 (pv 0))) (ql z.len (a1 (pv 1)))) (af (aw fx)) ay) (af (aw (qB (gA rfl) z.all qk (a1 (qc (u7 rfl z.zip (a2 (pv 0) (pv 1))) (qa (d4 (be (by decide)) bL (d4 (be (by decide)) bL (ni) (d5)) (fS bL (d5)))) fun _ _ _ _ _ _=>⟨eg rfl (aA (gc 0) (aA (gc 1) cQ)),dO,z0 o i rfl (a2 (pv 0) (pv 1))⟩)))))))))))));(exact bK (BV h) (ac (bc (fO (md (pv 1))) (af (aw (u_ (md (pv 0))))) ay) (ac (bc (bJ (qB aI z.isinstance aJ (a2 (pv 1) (c6 rfl z.bool)))) (af (aw (eh (qB aI z.isinstance aJ (a2 (pv 0) (c6 rfl z.bool))) (ip (Bc gL (pv 0) (pv 1)))))) ay) (ac (bc (bJ (qB aI z.isinstance aJ (a2 (pv 1) (g_ rfl z.str)))) (af (aw (eh (qB aI z.isinstance aJ (a2 (pv 0) (g_ rfl z.str))) (ip (Bc (fR g) (pv 0) (pv 1)))))) ay) (ac (bc (bJ (qB aI z.isinstance aJ (a2 (pv 1) (hJ rfl z.int)))) (af (aw (eh (qB aI z.isinstance aJ (a2 (pv 0) (hJ rfl z.int))) (eh (yB (qB aI z.isinstance aJ (a2 (pv 0) (c6 rfl z.bool)))) (ip (Bc (fR g) (pv 0) (pv 1))))))) ay) (ac (bc (PW.pt (gF (bJ (qB aI z.isinstance aJ (a2 (pv 1) (eR rfl z.tuple)))) (ft (io (bJ (qB aI z.isinstance aJ (a2 (pv 0) (eR rfl z.tuple)))))))) (af (aw fx)) ay) (ac (bc (PW.pt (gF (bJ (qB aI z.isinstance aJ (a2 (pv 1) (eK rfl z.list)))) (ft (io (bJ (qB aI z.isinstance aJ (a2 (pv 0) (eK rfl z.list)))))))) (af (aw fx)) ay) (ac (bc (lW tI (ql z.len (a1 (pv 0))) (ql z.len (a1 (pv 1)))) (af (aw fx)) ay) (af (aw (qB (gA rfl) z.all qk (a1 (qc (u7 rfl z.zip (a2 (pv 0) (pv 1))) (qa (d4 (be (by decide)) bL (d4 (be (by decide)) bL (ni) (d5)) (fS bL (d5)))) fun _ _ _ _ _ _=>⟨eg rfl (aA (gc 0) (aA (gc 1) cQ)),dO,z0 o i rfl (a2 (pv 0) (pv 1))⟩)))))))))))))) (by walk_at "b") (l:=fun x H Q E h=>by rcases h with h|h;(exact ED h);(obtain⟨_,_,h,_⟩:=h;subst h;rfl))
theorem qY:i_ P w K mg:=fun base=>dG X G T.f_law_letters (fun S _ _ _ _ _ _ _ _ _ a e h=>bK (ym (K:=K) h) (af (aw bG))) (by walk_at "b")
theorem wj(a:eL P w K mg)(e:i_ P w K mg):my P w K mg:=fun base=>dG X G T.f_law_text (fun S _ _ _ _ _ _ _ _ _ f g h=>bK (Dp h) (ac (qs 1 S (aU cF ag (qf f (a base) (a2 (pv 0) ag)))) (ac (bc (lW gL (qf f (a base) (a2 (pv 0) ag)) ag) (af (qs 1 S (xl (cE (bM ag (a3 ag ag ag))) (qf f (a base) (a2 (pv 0) ag))))) ay) (ac (qs 2 S (kI PySem.F.plainAttrs_str PySem.F.slot_str_join PySem.F.type_str_join Aa bG (a1 (qc (jd rfl z.range (a1 (pv 1))) (be (by decide)) fun _ _ _ _ _ _=>⟨gc 0,dO,xs' (FA (e base) (f.mono (by decide)) rfl) (qf f (a base) (a2 (pv 1) ag))⟩)))) (ac (bc (PW.pt (gF (lW tI (pv 2) bG) (ft (lW gL (qf f (a base) (a2 (pv 0) ag)) ag)))) (ac (qs 3 S bG) (ac (qs 4 S (qf f (a base) (a2 (pv 0) (pv 1)))) (af (qs 2 S (aU jK (aU jK (dg rf (pv 2) gf (dA (pv 4))) (xs' (pv 3) (qf f (a base) (a2 (pv 0) (ql z.len (a1 (pv 3))))))) (dg rf (pv 2) (dA (aU cF (pv 4) ag)) gf)))))) ay) (af (aw (pv 2)))))))) (by walk_at "b")
theorem uP(a:iH P w K mg):kS P w K mg:=fun base=>dG X G T.f_law_round (fun S _ _ _ _ _ _ _ _ _ f e h=>bK (BW h) (ac (F_ 2 S (bI (pv 1)) (be (by decide)) fun _ _ _ _ _ _=>⟨gc 0,iW (lW (fR e) (xq (pv 0) ag) (bX (a1 bG))),pv 0⟩) (ac (cV cz rfl (iX rfl z.enumerate (a1 (pv 0))) (eg rfl (aA (gn 3 S) (aA (gn 4 S) cQ))) (ac (F_ 5 S (bI (pv 2)) (be (by decide)) fun _ _ _ _ _ _=>⟨gc 0,iW (lW gL (xq (pv 0) ag) (pv 1)),xq (pv 0) ag⟩) (af (bc (Bu (va e) (pv 4) (qf f (a base) (a2 (pv 2) (pv 5)))) (af (aw (pv 3))) ay)))) (af (aw oC))))) (by walk_at "b")
theorem qW(a:lm P w K mg C Cx):lK P w K mg C:=fun base=>dG X G T.f_law_machine (fun S _ _ _ _ _ _ _ _ _ e f h=>bK (wB h) (af (aw (DF (a base) (e.mono (by decide)) rfl (bM (qL rfl z.list (a1 (xq (pv 0) ag))) (a3 (qL rfl z.list (a1 (xq (pv 0) ag))) (qL rfl z.list (a1 (xq (pv 0) ag))) (qL rfl z.list (a1 (xq (pv 0) ag))))))))) (by walk_at "b")
theorem uM(e:sv P w K mg C_NoWord)(a:dU P w K mg C):kR P w K mg C C_NoWord:=fun base=>G6 X G T.f_need_says (fun S _ _ _ _ _ _ _ _ _ f g h=>bK (wA h) (B_ (jH (C5 (m8 (qs 2 S (DA f (a base) (pv 0))))) (jH (C5 (m8 (qs 3 S ng))) (jH (Fq rfl (iX rfl z.enumerate (a1 (pv 1))) (eg rfl (aA (gn 4 S) (aA (gn 5 S) cQ))) (jH (Ew (PW.pt (m9 (Bu (eS g) (pv 5) (pv 2)) (ma (fO (rB g (pv 5) (pv 3)))))) (oz (C5 (tG (e base) (f.mono (by decide)) rfl rfl (a1 (pv 4))))) B8) (oz (C5 (m8 (jI g (pv 3) (pv 5) fx rfl)))))) (oz (Ew (lW gL (qB Bi z.len PySem.boot_len (a1 (pv 3))) (ql z.len (a1 (pv 2)))) (oz (C5 (tG (e base) (f.mono (by decide)) rfl rfl (a1 (ql z.len (a1 (pv 1))))))) B8))))))) (by walk_at "b")
theorem qZ:ja P w K mg:=fun base=>dG X G T.f_hidden_sign (fun S _ _ _ _ _ _ _ _ _ e a h=>bK (yo c.nst h) (af (aw (Ch (PW.pt (gF (lW gL (xq (pv 0) ag) bG) (ft (Bu (va a) (xq (pv 0) ag) (pv 1))))) (nc rfl c.STILL) (pv 0))))) (by walk_at "b")
theorem AM(k:jU P w K mg)(l:lm P w K mg C Cx)(f:fE P w K mg C)(g:dU P w K mg C)(a:eE P w K mg C)(e:eF P w K mg C)(j:kR P w K mg C C_NoWord)(i:ja P w K mg):xG P w K mg C Cx C_NoWord:=fun base=>G6 X G T.f_hidden (fun S _ _ _ _ _ _ _ _ _ m n h=>bK (AT h) (B_ (jH (C5 (DB (Cd (j base) (m.mono (by decide)) rfl (a2 (pv 0) (pv 1))))) (jH (C5 (m8 (F_ 2 S (bI (DA m (e base) (pv 0))) (qa (d4 (be (by decide)) bL (d4 (be (by decide)) bL (d4 (be (by decide)) bL (ni) (d5)) (fS bL (d5))) (fS bL (fS bL (d5))))) fun _ _ _ _ _ _=>⟨eg rfl (aA (gc 0) (aA (gc 1) (aA (gc 2) cQ))),dO,bX (a3 (pv 0) (qf m (i base) (a2 (pv 1) (pv 3))) (pv 2))⟩))) (jH (C5 (m8 (F_ 3 S (bI (DA m (g base) (pv 0))) (be (by decide)) fun _ _ _ _ _ _=>⟨gc 0,iW (Bu (eS n) (pv 0) (pv 1)),pv 0⟩))) (oz (C5 (Ft (DD (l base) (m.mono (by decide)) rfl (bM (DA m (f base) (pv 0)) (a3 (pv 3) (DA m (a base) (pv 0)) (qLT rfl z.list (a1 (qf m (k base) (a1 (pv 2)))))))))))))))) (by walk_at "b")
theorem lr:eM P w K mg:=fun base=>dG X G T.f_law_hidden_doors (fun S _ _ _ _ _ _ _ _ _ e a h=>bK (wD h) (ac (qs 2 S (cE fP)) (ac (cV cz rfl (bI (pv 0)) (eg rfl (aA (gn 3 S) (aA (gn 4 S) (aA (gn 5 S) cQ)))) (ac (bc (PW.pt (gF (lW gL (xq (pv 4) ag) bG) (ft (Bu (va a) (xq (pv 4) ag) (pv 1))))) (af (qs 4 S (bX (a1 bG)))) ay) (af (bc (Bu (eS a) (bX (a3 (pv 3) (pv 4) (pv 5))) (pv 2)) (af (bT (kI jq lM lL eT (pv 2) (a1 (bX (a3 (pv 3) (pv 4) (pv 5))))))) ay)))) (af (aw (pv 2)))))) (by walk_at "b")
theorem mL(e:kS P w K mg)(a:eM P w K mg):jo P w K mg:=fun base=>dG X G T.f_law_hidden_due (fun S _ _ _ _ _ _ _ _ _ g f h=>bK (AU h) (ac (oA (pv 0) (eg rfl (aA (gn 2 S) (aA (gn 3 S) (aA (gn 4 S) (aA (gn 5 S) cQ)))))) (ac (cV cz rfl (iX rfl z.enumerate (a1 (pv 1))) (eg rfl (aA (gn 6 S) (aA (gn 7 S) cQ))) (af (bc (PW.pt (m9 (Bu (eS f) (pv 7) (pv 3)) (ma (Bu (va f) (pv 7) (dg jF (pv 1) gf (dA (pv 6))))))) (af (aw (bX (a2 bG (pv 6))))) ay))) (ac (bc (lW gL (ql z.len (a1 (pv 1))) (ql z.len (a1 (pv 3)))) (af (aw (bX (a2 bG (ql z.len (a1 (pv 1))))))) ay) (ac (qs 5 S (qf g (a base) (a2 (pv 5) (pv 1)))) (ac (qs 6 S (qf g (e base) (a2 (pv 4) (pv 5)))) (ac (bc (fO (z7 (pv 6))) (af (aw (bX (a2 bG (pv 6))))) ay) (af (aw (cE (bM (pv 2) (a3 (qc (bI (pv 3)) (be (by decide)) fun _ _ _ _ _ _=>⟨gc 0,iW (Bu (eS f) (pv 0) (pv 1)),pv 0⟩) (pv 4) (pv 5))))))))))))) (by walk_at "b")
theorem l7(a:eL P w K mg)(e:my P w K mg):i5 P w K mg:=fun base=>dG X G T.f_law_drawn_words (fun S _ _ _ _ _ _ _ _ _ f g h=>bK (AW h) (ac (F_ 3 S (bI (pv 2)) (be (by decide)) fun _ _ _ _ _ _=>⟨gc 0,iW (lW gL (qf f (a base) (a2 (pv 1) ag)) ag),pv 0⟩) (ac (bc (lW gL (qf f (a base) (a2 (pv 0) ag)) ag) (af (qs 3 S (DE (pv 3) (Gu Fe ag)))) ay) (ac (bc (lW gL (qf f (a base) (a2 (pv 0) ag)) ag) (ac (qs 4 S (aU vb (aU vb (pv 2) (pv 1)) (cE (a1 (qf f (e base) (a1 (pv 0))))))) (af (bT (kI jq PySem.F.slot_list_insert PySem.F.type_list_insert A4 (pv 3) (a2 (qf f (a base) (a2 (pv 0) (aU cF (ql z.len (a1 (pv 3))) ag))) (xl (pv 4) (qf f (a base) (a2 (pv 0) (ql z.len (a1 (pv 4))))))))))) ay) (af (aw (pv 3))))))) (by walk_at "b")
theorem uO(j:fE P w K mg C)(k:dU P w K mg C)(g:eE P w K mg C)(i:eF P w K mg C)(a:dW P w K mg C)(f:eP P w K mg C)(e:mz P w K mg):pL P w K mg C:=fun base=>dG X G T.f_law_tells (fun S _ _ _ _ _ _ _ _ _ l m h=>bK (AR h) (ac (bc (io (bJ (qf l (e base) (a2 (cE (bM (DA l (j base) (pv 0)) (a3 (DA l (k base) (pv 0)) (DA l (g base) (pv 0)) (DA l (i base) (pv 0))))) (qL rfl z.list (a1 (pv 1))))))) (af (aw fx)) ay) (ac (cV cz rfl (bI (xq (pv 1) ag)) (gn 2 S) (ac (F_ 3 S (bI (xq (pv 1) ag)) (be (by decide)) fun _ _ _ _ _ _=>⟨gc 0,iW (lW (fR m) (xq (pv 0) ag) (pv 1)),pv 0⟩) (ac (qs 4 S (Bc (fR m) (qc (bI (pv 3)) (be (by decide)) fun _ _ _ _ _ _=>⟨gc 0,iW (lW tI (xq (xq (pv 0) ag) ag) bG),pv 0⟩) (cE fP))) (af (bc (PW.pt (m9 (io (bJ (qf l (e base) (a2 (qm l (a base) (pv 0) (a1 (pv 2))) (pv 3))))) (ma (io (bJ (qf l (e base) (a2 (qm l (f base) (pv 0) (a1 (pv 2))) (pv 4)))))))) (af (aw fx)) ay))))) (af (aw fx))))) (by walk_at "b")
end
theorem FE(X:K.In h)(G:h.Ns bq mg)(z:Zs mg)(c:Cs K mg C Cx Ct a_STILL C_NoWord)(T:Ts K C Cx C_NoWord):∃f fd,mg "law"=some (.ref f)/\(∀(s:Shared) (v:Value),sU s fd ⟨[v],[]⟩ [("script",v)])/\∀base:Heap,gJ P w K mg base CX0 8 f fd ["script"] (sp_law72 K):=by
 have aq:jS P w K mg:=sD X G z c T;have a5:su P w K mg:=wn X G z c T;have a6:mB P w K mg:=wo X G z c T;have e:eL P w K mg:=wk X G z c T aq;have aS:kT P w K mg:=uQ X G z c T e;have a8:o9 P w K mg:=x_ X G z c T;have I:fX P w K mg:=mM X G z c T e a8;have aT:pM P w K mg:=uR X G z c T a6 e aS I;have U:iH P w K mg:=pT X G z c T;have aX:kU P w K mg Cx:=uS X G z c T;have a9:o_ P w K mg:=ya X G z c T;have O:jU P w K mg:=wq X G z c T;have D:jp P w K mg:=yb X G z c T O;have u:eN P w K mg:=lu X G z c T a9 D;have as:jT P w K mg:=sE X G z c T;have x:eO P w K mg:=lz X G z c T D;have m:cH P w K mg:=ie X G z c T;have Y:iG P w K mg:=pS X G z c T;have E:fD P w K mg:=l9 X G z c T;have J:i4 P w K mg Cx:=uN X G z c T aX;have aC:jR P w K mg Cx:=sC X G z c T u as x J;have L:f8 P w K mg:=mO X G z c T;have M:fZ P w K mg:=mN X G z c T;have ab:lm P w K mg C Cx:=yd X G z c T D m Y E J aC L M;have bd:sv P w K mg C_NoWord:=AN X G z c T;have q:fE P w K mg C:=pR X G z c T;have j:dU P w K mg C:=pQ X G z c T;have n:eE P w K mg C:=om X G z c T;have o:eF P w K mg C:=on X G z c T;have r:dW P w K mg C:=j4 X G z c T;have y:eP P w K mg C:=lq X G z c T;have Q:mz P w K mg:=wm X G z c T;have ak:i_ P w K mg:=qY X G z c T;have a7:my P w K mg:=wj X G z c T e ak;have a0:kS P w K mg:=uP X G z c T U;have al:lK P w K mg C:=qW X G z c T ab;have a4:kR P w K mg C C_NoWord:=uM X G z c T bd j;have ap:ja P w K mg:=qZ X G z c T;have bi:xG P w K mg C Cx C_NoWord:=AM X G z c T O ab q j n o a4 ap;have B:eM P w K mg:=lr X G z c T;have N:jo P w K mg:=mL X G z c T a0 B;have H:i5 P w K mg:=l7 X G z c T e a7;have p:pL P w K mg C:=uO X G z c T q j n o r y Q;obtain⟨f,a,t⟩:=T.f_law72;obtain⟨oc,od,an,sl,kV,dc,pm,cd,ct,l,c1,k1⟩:=t;have F:=CI (st:=(iK 48)) l c1 k1;have sc:gj Ay Cb (bf (iK 48)):=by walk_at "s"
 have S:=sc.nd;exact⟨f,_,eG X G a,fun s v=>.of_eq rfl,fun base=>F.ok (k:=7) sc (by walk_at "l") (fun _ _ _ _ _ _ _ _ hr h=>by have hu:=tM hr;exact bK (B0 (Fm c.xc c.x_NoMachine c.x_NoWord c.na_NoWord_number c.nd) h) (ac (qs 1 S (qf hr (a5 base) (a1 (pv 0)))) (ac (qs 2 S (qf hr (aT base) (a3 (pv 1) ag (qf hr (e base) (a2 (pv 1) ag))))) (ac (qs 3 S (qf hr (H base) (a3 (pv 1) (xt (pv 2) ag) (xt (pv 2) ag)))) (ac (qs 4 S (qf hr (al base) (a1 (pv 2)))) (ac (qs 5 S (qL rfl z.list (a1 (pv 3)))) (ac (qs 6 S oC) (ac (qs 7 S oC) (ac (DC (oz (C5 (Fs (i:=6) S rfl (Or.inl rfl) (Cd (bi base) (hr.mono (by decide)) rfl (a2 (pv 4) (pv 5)))))) (Ex (i:=8) S rfl rfl rfl c.x_NoWord.g (fun a=>af (qs 7 S (bX (a2 bG (u8 (pv 8) rfl))))) (Ex (i:=8) S rfl rfl rfl c.x_NoMachine.g (fun a=>af (qs 7 S (bX (a2 (u8 (pv 8) rfl) (u8 (pv 8) rfl))))) Fx))) (ac (bc (PW.pt (m9 (lW (Co hu) (pv 5) (pv 3)) (ma (io (bJ (qf hr (p base) (a2 (pv 4) (pv 2)))))))) (af (aw fx)) ay) (ac (qs 9 S (qf hr (N base) (a2 (pv 2) (pv 3)))) (ac (bc (fO (md (pv 6))) (af (aw (qf hr (Q base) (a2 (pv 7) (pv 9))))) ay) (af (aw (eh (qB aI z.isinstance aJ (a2 (pv 9) (eK rfl z.list))) (eh (qf hr (p base) (a2 (pv 6) (pv 9))) (ip (qf hr (p base) (a2 (pv 4) (pv 2))))))))))))))))))))⟩
theorem all_mk{l:PySem.W.OpenLaw}{fa:Addr}{co qX:Str}{NX:Addr}{cs bi:Zf}{ct:Zb}{cB:Bool}{bl:Option Bool}{cC:Option Addr}{c0 c1 c2 c3 c4:Option Value}{c5 qT:Str}{NT:Addr}{dc bm:Zf}{dd:Zb}{di:Bool}{bn:Option Bool}{dk:Option Addr}{dm dn dp ds dt:Option Value}{b0 dx:Str}{dy:Addr}{b1 ap:Zf}{b2:Zb}{b3:Bool}{aq:Option Bool}{b4:Option Addr}{b5 b6 b7 b8 ce:Option Value}{o:Value}{a:Value}{g:Value}{i:Value}{j:Value}{p:Obj}{q:Array Value}{L:Nat}(X:K.In h)(G:h.Ns bq mg)(dK:mg "law"=some (.ref fa))
  (aC:bw K bq "Machine"=some (some (.ref C)))
  (pg:vW K C Str.empty=true)
  (hd:zk K C=true)
  (po:PySem.W.plainOver K C=true)
  (sa:bC K (.ref C) "__setattr__"=some (some (.builtin "object.__setattr__")))
  (mk:vU K C=true)
  (kc:dB K (.ref C)=true)
  (dN:bC K (.ref C) "own_asks"=some none)
  (dT:bC K (.ref C) "own_says"=some none)
  (dV:bC K (.ref C) "own_rooms"=some none)
  (d0:bC K (.ref C) "own_doors"=some none)
  (d1:bC K (.ref C) "leaving"=some none)
  (d2:bC K (.ref C) "quiet"=some none)
  (d3:bC K (.ref C) "sign_goals"=some none)
  (d6:bC K (.ref C) "still_led"=some none)
  (aX:bw K bq "NoMachine"=some (some (.ref Cx)))
  (aT:bw K bq "TrialError"=some (some (.ref Ct)))
  (xo:K.lookup Cx=some (gD co qX Cx NX cs (.ref Ct::jC) true ct bi cB bl cC c0 c1 c2 c3 c4 "ValueError.__new__"))
  (ch:bC K (.ref Cx) "__setattr__"=some (some (.builtin "object.__setattr__")))
  (ci:bC K (.ref Cx) "__getattribute__"=some (some (.builtin "BaseException.__getattribute__")))
  (ck:bC K (.ref Cx) "__getattr__"=some none)
  (xp:bC K (.ref Cx) "part"=some none)
  (xn:bC K (.ref Cx) "number"=some none)
  (d8:PySem.W.subIn K (.ref Cx) (.type "BaseException")=some true)
  (ea:PySem.W.isClsIn K Cx=true)
  (eb:PySem.W.typeIn K (.ref Cx)=some (.type "type"))
  (ec:PySem.W.subIn K (.ref Cx) (.ref Cx)=some true)
  (ed:PySem.W.readsIn K Ct (.type "type")=true)
  (ek:PySem.W.findCls K (.ref Ct) (.type "type") "__init__"=some (.val (.builtin "ValueError.__init__")))
  (el:zj K (.ref Ct) "__getattribute__"=some (some (.builtin "type.__getattribute__")))
  (kx:dB K (.ref Cx)=true)
  (en:bC K (.ref Cx) "__class__"=some (some (.builtin "object.__class__")))
  (ep:zj K (.builtin "object.__class__") "__get__"=some (some (.builtin "getset_descriptor.__get__")))
  (er:PySem.W.takesIn K (.builtin "object.__class__")=some true)
  (es:K.lookup Ct=some (gD c5 qT Ct NT dc jC true dd bm di bn dk dm dn dp ds dt "ValueError.__new__"))
  (cl:bw K bq "NoWord"=some (some (.ref C_NoWord)))
  (cm:K.lookup C_NoWord=some (gD b0 dx C_NoWord dy b1 (.ref Ct::jC) true b2 ap b3 aq b4 b5 b6 b7 b8 ce "ValueError.__new__"))
  (as:bC K (.ref C_NoWord) "__setattr__"=some (some (.builtin "object.__setattr__")))
  (aS:bC K (.ref C_NoWord) "__getattribute__"=some (some (.builtin "BaseException.__getattribute__")))
  (a0:bC K (.ref C_NoWord) "__getattr__"=some none)
  (a4:bC K (.ref C_NoWord) "__class__"=some (some (.builtin "object.__class__")))
  (cn:dB K (.ref C_NoWord)=true)
  (a5:bC K (.ref C_NoWord) "number"=some none)
  (nd:[Ct,Cx,C_NoWord].Nodup)
  (a6:bw K bq "all"=some none)
  (ak:bw K bq "bool"=some none)
  (al:bw K bq "dict"=some none)
  (E:bw K bq "enumerate"=some none)
  (a7:bw K bq "int"=some none)
  (r:bw K bq "isinstance"=some none)
  (a8:bw K bq "len"=some none)
  (an:bw K bq "list"=some none)
  (M:bw K bq "range"=some none)
  (a9:bw K bq "str"=some none)
  (N:bw K bq "tuple"=some none)
  (bd:bw K bq "zip"=some none)
  (I:bw K bq "LETTERS"=some (some o))
  (J:RelV (.str "abcdefghijklmnopqrstuvwxyz") o)
  (m:bw K bq "LONGEST_NAME"=some (some a))
  (n:RelV (.int 8) a)
  (t:bw K bq "MOST_WORDS"=some (some g))
  (u:RelV (.int 4) g)
  (x:bw K bq "MOST_ROOMS"=some (some i))
  (y:RelV (.int 150) i)
  (B:bw K bq "MOST_DOORS"=some (some j))
  (D:RelV (.int 2000) j)
  (H:bw K bq "STILL"=some (some (.ref a_STILL)))
  (O:K.lookup a_STILL=some p)
  (Q:p.cls=.type "tuple")
  (U:p.data=.seq q L)
  (Y:q.size<=am)
  (ab:aP (stillSg.map V.str) q.toList)
  (T:Ts K C Cx C_NoWord)
 :∃fd:hZ,(∀(s:Shared) (v:Value),sU s fd ⟨[v],[]⟩ [("script",v)])/\∀base:Heap,K.In base->base.Ns bq mg->gJ l.prog w K mg base CX0 8 fa fd ["script"] (sp_law72 K):=by
 have z:Zs mg:=⟨gB X G a6,gB X G ak,gB X G al,gB X G E,gB X G a7,gB X G r,gB X G a8,gB X G an,gB X G M,gB X G a9,gB X G N,gB X G bd⟩;have c:Cs K mg C Cx Ct a_STILL C_NoWord:=⟨⟨_,eG X G I,J⟩,⟨_,eG X G m,n⟩,⟨_,eG X G t,u⟩,⟨_,eG X G x,y⟩,⟨_,eG X G B,D⟩,⟨_,eG X G H,rfl⟩,Di O Q U Y ab,H,⟨⟨pg,hd,po,sa⟩,dN,dT,dV,d0,d1,d2,d3,d6⟩,eG X G aC,mk,kc,⟨⟨⟨_,_,_,_,_,_,_,_,_,_,_,_,_,_,_,xo,.own .base⟩,ch,ci,ck⟩,xp,xn,FH d8 ea eb ec⟩,⟨ed,ek,el⟩,eG X G aX,eG X G aT,kx,⟨⟨_,_,_,_,_,_,_,_,_,_,_,_,_,_,es⟩⟩,⟨ep,er⟩,⟨eG X G aX,⟨⟨_,_,_,_,_,_,_,_,_,_,_,_,_,_,xo⟩⟩,ch,ci,ck,kx,en⟩,nd,⟨eG X G cl,⟨⟨_,_,_,_,_,_,_,_,_,_,_,_,_,_,cm⟩⟩,as,aS,a0,cn,a4⟩,a5⟩;obtain⟨f,fd,e,b,k⟩:=FE (P:=l.prog) (w:=w) X G z c T;have e0:=dK.symm.trans e;cases e0;exact⟨fd,b,fun base _ _=>k base⟩
end
end Mum
namespace PySem.W.Fast
def tw12678680918353952813:=0
def tw14686729626480004685:=0
def tw14398108252525803009:=0
def tw1648021657075069704:=0
def tw3999134193705574532:=0
def tw17333827531419495029:=0
def tw15161036692569719545:=0
def tw9670917828250820863:=0
def tw14743932393673641218:=0
def tw3471755662043180106:=0
def tw7198865579475524761:=0
def tw13751663600483388074:=0
def tw11577558155025365271:=0
def tw2665116785254632153:=0
def tw15001205446846645218:=0
def tw17419849880349664192:=0
def tw6332521194479922252:=0
def tw9011857043205822161:=0
def tw18287511661772097785:=0
def tw2309475957938265906:=0
def tw6890925232601914091:=0
def tw1943599394853148081:=0
def tw14563361263777444566:=0
def tw10830597930277810278:=0
def tw18371025991699775791:=0
def tw2910537626313039880:=0
def tw3030447524960760037:=0
def tw5460461441463164703:=0
def tw14112459123503725995:=0
def tw12869137685317377965:=0
def tw9619492758113438694:=0
def tw9277309790819148342:=0
def tw5125518781150228470:=0
def tw2887296510180351052:=0
def tw2038923796487936505:=0
def tw10299381674035149140:=0
def tw8147695311382394607:=0
def tw11566087440993768712:=0
def tw11284045194544349185:=0
def tw12421969670030323469:=0
def tw13115656957284936495:=0
def tw18218997527724208698:=0
def tw3503562075850853488:=0
def tw2576754994671356553:=0
def tw18160722860498750593:=0
def tw3574009963550037596:=0
def tw11463048959245436073:=0
def tw4765344596064485921:=0
def tw4323588325728734678:=0
def tw3244180293010254540:=0
def tw3382628043901651736:=0
def tw6253386749997340899:=0
def tw15515213820820446845:=0
def tw833829295938934857:=0
def tw15633740220446232645:=0
def tw13744739786416718789:=0
def tw6278630239282346036:=0
def tw7426290449853130896:=0
def tw13450188956981776198:=0
def tw761640556794713415:=0
def tw4198042676529383943:=0
def tw2138037790159563833:=0
def tw17066390363533606730:=0
def tw4076570570070728247:=0
def tw5766304656213060965:=0
def tw14120492927167275922:=0
def tw18412438994875572299:=0
def tw260271010223015113:=0
def tw13695383892902146284:=0
def tw10244251825828422584:=0
def tw17850076430566436834:=0
def tw13320665546150191663:=0
def tw10634627053641405776:=0
def tw7682157224444936145:=0
def tw2308003345861759419:=0
def tw8098640723945366200:=0
def tw8994252786076630593:=0
def tw1382197654801125810:=0
def tw1867331925478084970:=0
def tw584514357403454617:=0
def tw17574553548052770784:=0
def tw16263839469738301894:=0
def tw12884661585003946697:=0
def tw10331368565911754884:=0
def tw8355916150240835150:=0
def tw4618141133178594580:=0
def tw3047638843010988193:=0
def tw15103405997752037947:=0
def tw2448527516912332110:=0
def tw7235805710568375228:=0
def tw1472783244210751210:=0
def tw15212569330000886535:=0
def tw2181990835071833468:=0
def tw3882799670481199674:=0
def tw12154729652626444392:=0
def tw4890521887062518224:=0
def tw9805482532634020134:=0
def tw12819992854398182593:=0
def tw13149024603534709304:=0
def tw10916696303149181884:=0
def tw9780362872557781543:=0
def tw13865097226299966391:=0
def tw7414208720495072541:=0
def tw2097839648636845257:=0
def tw2509214731071960231:=0
def tw11313892838474143420:=0
def tw15080434462688400850:=0
def tw12123681759992465153:=0
def tw17473765361979697379:=0
def tw11685279158353400333:=0
def tw157767394808702506:=0
def tw8054228620856242700:=0
def tw5416268798104779637:=0
def tw17478640183737219944:=0
def tw9333395314673697394:=0
def tw3162358255701490602:=0
def tw7559335407845182966:=0
def tw6697853751052928327:=0
def tw11709121964484298134:=0
def tw4751798821008080363:=0
def tw1592310024255012454:=0
def tw4252232468821843095:=0
def tw7740729804069933891:=0
def tw3802973917213306904:=0
def tw2454161912779623754:=0
def tw1728896242597317203:=0
def tw12574082499410518657:=0
def tw13603627113967921017:=0
def tw10523291605520233702:=0
def tw12486610094415897231:=0
def tw7717315138023715457:=0
def tw4257910394871737038:=0
def tw8507872657128541693:=0
def tw6415824515930383611:=0
def tw14374090714279946924:=0
def tw4767234429060677720:=0
def tw9119929928678401792:=0
def tw1473317285362485107:=0
def tw9307562757802290407:=0
def tw792509092327697338:=0
def tw12183744262552593867:=0
def tw3317500076548555480:=0
def tw4935971036360103649:=0
def tw12185831414713713085:=0
def tw10453259487367888055:=0
def tw9030938802591354540:=0
def tw16569355324440844799:=0
def tw7862525500404620272:=0
def tw10628229531393465997:=0
def tw13444730465387025774:=0
def tw5451066646193278728:=0
def tw7357938115374552207:=0
def tw6789657108527492649:=0
def tw12379686220376632158:=0
def tw10615724902578073876:=0
def tw14931703048113037981:=0
def tw12654135776622425717:=0
def tw9460717584064000828:=0
def tw3837810402214793745:=0
def tw2815949643351347798:=0
def tw2128598206287227404:=0
def tw7742304459530354234:=0
def tw3912988264692185457:=0
def tw2406707064642700149:=0
def tw17531640266416679405:=0
def tw12415474727019987007:=0
def tw6335893284815080110:=0
def tw14539829259309039417:=0
def tw15045150289611511487:=0
def tw6926967193203642566:=0
def tw16252212993795781241:=0
def tw12402755715863981525:=0
def tw17264220519778208510:=0
def tw236844175468206320:=0
def tw4529614997581466558:=0
def tw13158362674555883969:=0
def tw5812542810315164432:=0
def tw11056695877046051785:=0
def tw9086683349406862246:=0
def tw2579156391082753282:=0
def tw18024587496133721196:=0
def tw17491832097900500941:=0
def tw10533468431887401397:=0
def tw15061848548717797800:=0
def tw18119959298578323710:=0
def tw14204265522847207856:=0
def tw11314549962250124734:=0
def tw3722324792502516234:=0
def tw15039434153614450086:=0
def tw18250742323241376815:=0
def tw12939485638741753031:=0
def tw16229642097152783882:=0
def tw12275456687071228519:=0
def tw16652264857770351587:=0
def tw5238239083279801410:=0
def tw560894925998769612:=0
def tw9482157918946014380:=0
def tw6320211910724490151:=0
def tw9852691717595975525:=0
def tw9595500377895395931:=0
def tw1172823454379973189:=0
def tw6678379875137165462:=0
def tw13414772087027864853:=0
def tw17885442674479024617:=0
def tw12660529384266736442:=0
def tw9409249863880224888:=0
def tw6619669044377102182:=0
def tw4168834146391179811:=0
def tw346586460671318054:=0
def tw3684493949274181657:=0
def tw6538079892794865977:=0
def tw14463210061311200529:=0
def tw18129091321864838307:=0
def tw2854714535497956033:=0
def tw12053661569098831064:=0
def tw17616371899025240351:=0
def tw4658482096475084383:=0
def tw1014748262416170010:=0
def tw7121229399374776070:=0
def tw3474558136714182733:=0
def tw14333966240065128535:=0
def tw12660163579722780265:=0
def tw5183453676851548445:=0
def tw15599974066672387538:=0
def tw2796672909807256268:=0
def tw18361253637661696310:=0
def tw11982636267372435092:=0
def tw11475734884635565238:=0
def tw1451374943986603704:=0
def tw3724058168723994401:=0
def tw14638881257236057795:=0
def tw10017022420751449984:=0
def tw17823134861720538790:=0
def tw10275344894870973445:=0
def tw3974854924778554704:=0
def tw14389997491183570929:=0
def tw18035801534346554283:=0
def tw8546875348847005481:=0
def tw7128638728974737207:=0
def tw2890292109709431501:=0
def tw10417587165213085668:=0
def tw8366362723925098272:=0
def tw16598450467992258209:=0
def tw2361471810373350969:=0
def tw1230143046925254253:=0
def tw2314716212934151059:=0
def tw2615043205603601088:=0
def tw8332260024169447235:=0
def tw85798475874106755:=0
def tw8152398232987840140:=0
def tw3669964012004415819:=0
def tw903487179277485131:=0
def tw5990199256684731320:=0
def tw7536832767643869265:=0
def tw10088235602543795147:=0
def tw7267102698811954761:=0
def tw12353224384467818963:=0
def tw10325040156827006811:=0
def tw10047437776355601360:=0
def tw17842864165274345358:=0
def tw14958092706997475302:=0
def tw1754761255905370452:=0
def tw6882419122955577298:=0
def tw10571384326082094465:=0
def tw10323533093217954752:=0
def tw15022222948324033765:=0
def tw3027435406540516774:=0
def tw6825125531222220843:=0
def tw8755745546523040819:=0
def tw7488876719317899659:=0
def tw3212560417218923217:=0
def tw17457981873373102448:=0
def tw14386144182188382154:=0
def tw3046079572281738302:=0
def tw18201430085043813677:=0
def tw15236086079825742554:=0
def tw12749673359965662122:=0
def tw13093871574120447550:=0
def tw4332449755668609465:=0
def tw8444860357859050089:=0
def tw10257600056073430610:=0
def tw17412615978892508873:=0
def tw16632068376831043456:=0
def tw3883904141302664043:=0
def tw14852563190879432473:=0
def tw813751158224642079:=0
def tw14158705436691074738:=0
def tw4195870379060272223:=0
def tw6727411215976992088:=0
def tw7684218456298818965:=0
def tw17155813890037460371:=0
def tw17367272782219932340:=0
def tw5382824653967763491:=0
def tw10742874580515603352:=0
def tw10175431495973542589:=0
def tw11027315534248298271:=0
def tw12699973867397447775:=0
def tw6559191255407575252:=0
def tw13083789894476253565:=0
def tw2052845820931929956:=0
def tw8026917101065014946:=0
def tw17027690969986518413:=0
def tw14610198955072606346:=0
def tw13770556292222998604:=0
def tw12715498344694574731:=0
def tw808320198192866055:=0
def tw2710067815411335845:=0
def tw5500965495052144706:=0
def tw15063636973394472280:=0
def tw988126353108359045:=0
def tw10549845005879884128:=0
def tw15705498680175401757:=0
def tw16014242342250756252:=0
def tw11506182326375091745:=0
def tw8567420396537269964:=0
def tw13747005298418599496:=0
def tw11402180551786987805:=0
def tw11349045074643784597:=0
def tw15278990622938985534:=0
def tw14862709356918861472:=0
def tw4369524317805495320:=0
def tw14245803417156315067:=0
def tw4901540640207431343:=0
def tw797412094819236000:=0
def tw12173617619949289748:=0
def tw13433362811656186406:=0
def tw14395331829093579333:=0
def tw13843603685328229854:=0
def tw2450626582090478941:=0
def tw5746979548888143942:=0
def tw3977636664406009400:=0
def tw15675744762868496939:=0
def tw6397336005317052402:=0
def tw15259193178687287754:=0
end PySem.W.Fast
open PySem PySem.W PyProof.Rows
set_option maxRecDepth 100000 in
set_option maxHeartbeats 0 in
theorem PySem.Challenge.cw_mumtrial_k72_hidden_holds : PySem.Challenge.rw_mumtrial_k72_hidden.Holds := by
 w_on;o_law;k_head;(case hw=>w_witness2)
 k_fill
 refine L2.walk_ofT (PT:=fun K t=>bw K bq "STILL"=some (some (.ref t))/\Mum.NoTup K t) (ts:=Mum.stillSg.map L2.V.str) (l:=PySem.Challenge.rw_mumtrial_k72_hidden) (n:=63) (k:=8) (x:="script") (CX:=L2.CX0) (sp:=Mum.sp_law72) (by decide) ?T rfl (by decide) rfl ⟨rfl,by decide,by decide⟩ (fun w h Y=>PySem.W.kIn_of Y) ?F (fun _ t _ a ns pt ht hl hS=>⟨t,a,ns,rfl,⟨pt.1,pt.2,ht⟩,hS,hl,fun _=>rfl⟩) (fun _ _ _ _ z=>z)
 case T =>
  intro w h KX;refine' Mum.still_mk ?tg ?tl ?tc ?td ?ts ?tv ?tn
  case tg=>k_is
  case tl=>k_is
  case tc=>rfl
  case td=>rfl
  case ts=>decide
  case tv=>exact .cons ⟨_,rfl⟩ .nil
  case tn=>with_unfolding_all rfl
 case F =>
  intro w mg fa h KX G hmg;refine' Mum.all_mk KX G hmg ?aC ?pg ?hd ?po ?sa ?mk ?kc ?na1 ?na2 ?na3 ?na4 ?na5 ?na6 ?na7 ?na8 ?aX ?aT ?xo ?xsa ?xga ?xgx ?xp ?xn ?xs1 ?xs2 ?xs3 ?xs4 ?xrd ?xfi ?xgt ?kx ?xcl ?xgn ?xgk ?xoT ?aXY0 ?xoY0 ?xsaY0 ?xgaY0 ?xgxY0 ?xclY0 ?kxY0 ?xf0Y0 ?nd ?z_all ?z_bool ?z_dict ?z_enumerate ?z_int ?z_isinstance ?z_len ?z_list ?z_range ?z_str ?z_tuple ?z_zip ?g_LETTERS ?r_LETTERS ?g_LONGEST_NAME ?r_LONGEST_NAME ?g_MOST_WORDS ?r_MOST_WORDS ?g_MOST_ROOMS ?r_MOST_ROOMS ?g_MOST_DOORS ?r_MOST_DOORS ?g_STILL ?l_STILL ?c_STILL ?d_STILL ?s_STILL ?v_STILL ?T
  (case aC|pg|hd|po|sa|mk|kc|na1|na2|na3|na4|na5|na6|na7|na8|aX|aT|xo|xsa|xga|xgx|xp|xn|xs1|xs2|xs3|xs4|xrd|xfi|xgt|kx|xcl|xgn|xgk|xoT|aXY0|xoY0|xsaY0|xgaY0|xgxY0|xclY0|kxY0|xf0Y0=>k_is)
  (case nd=>decide)
  (case z_all|z_bool|z_dict|z_enumerate|z_int|z_isinstance|z_len|z_list|z_range|z_str|z_tuple|z_zip|g_LETTERS=>k_is)
  (case r_LETTERS=>exact⟨_,rfl⟩)
  (case g_LONGEST_NAME=>k_is)
  (case r_LONGEST_NAME=>exact⟨_,rfl⟩)
  (case g_MOST_WORDS=>k_is)
  (case r_MOST_WORDS=>exact⟨_,rfl⟩)
  (case g_MOST_ROOMS=>k_is)
  (case r_MOST_ROOMS=>exact⟨_,rfl⟩)
  (case g_MOST_DOORS=>k_is)
  (case r_MOST_DOORS=>exact⟨_,rfl⟩)
  (case g_STILL|l_STILL=>k_is)
  (case c_STILL|d_STILL=>rfl)
  (case s_STILL=>decide)
  (case v_STILL=>exact .cons ⟨_,rfl⟩ .nil)
  (case T=>constructor<;>first|(refine' Mum.fnG_mk ?a ?l ?c ?k;(case a=>k_is);(case l=>k_is);(case c=>k_is);(case k=>k_is))|(refine' Mum.fnM_mk ?a ?i ?l ?c ?k;(case a=>k_is);(case i=>k_is);(case l=>k_is);(case c=>k_is);(case k=>k_is)))
