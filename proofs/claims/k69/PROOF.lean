
import PyProof.Rows.All
import Wide.All
import OpenK.AllK
import Wide.FinOn
import Lean
import PyProof.EqAt
import PyProof.EqKinds
import PyProof.TupleCall
import PyProof.NeKinds
import PyProof.RaisesMany
import PyProof.RulesAs
import PyProof.NsDelKeeps
import PyProof.InstStoreFacts
import PyProof.ExcClass3
import PyProof.ExcInit
import KE.KTryMore
import PyProof.AutoSeq1
import PyProof.WalkInts
import PyProof.DictIter
import PyProof.DictWalks
import PyProof.DictItems
import PyProof.DictItemsLoops
import KE.KPairComp
import PyProof.DictValues
import PyProof.SumAny
import PyProof.Rows.SumAny
import PyProof.Rows.RuleDivmod
import KE.KRevIter
import PyProof.TupleOfGen
import KE.KDictSum
import KE.KMinKey
import PyProof.Rows.CallKwBuiltin
import KE.IntBitsLaws
import PySem.Challenge.RW_mumtrial_k69_joined_step_by_step
noncomputable section
open PySem renaming Program->bP,reduceHash->Ez,wpAny_mono->oO,wpAny_bind->ai,wpAny_specialOf->GJ,wpAny_call_entry->nk,wpAny_pure->aG,wpAny_rule->lB,Builtin->c9,wpAny_isInstance->vI,wpAny_holding->kR,wpAny_truthy_bool->rH,wpAny_seqItems->hZ,sizeLine->aj,sysModules->hW,entryOfKey->BX,mainGlobals->cj,bootBuiltins->ji,starEach->aQ,compareOp->eZ,behindInMarks->kQ,standAt->rE,holding->kP,wpAny_execs_nil->BW,swapsWith->tD,assignEach->rD,wpAny_standAt->BV,wpAny_passesOwn->tz,letOwnedTupleGo->BU,wpAny_pyIter_list->tw,wpAny_pyIter_tuple->yR,foldedSetIterable->yQ,binaryOp->rC,getMethod->rB,codeAny->zzl77,attributeBase->vG,FuncData->kN,BindsTo->tu,codeAny_mono->BO,wpAny_Call_Name_kw->BN,callWith->vF,backToKw->rA,keywordEach->rq,NameKind->jI,mem_of_lookup->tV,getItem->nJ,subscripted->xc,sliceBounds->nI,call_meets->xa,valueAt->nG,storedH->nF,callerA->lr,DictEntry->iU,wpAny_newObj_type->jy,ZipApart->iS,wpAny_pyIter_zip->qq,wpAny_callSpecial?_slot->jx,wpAny_field->dE,wpAny_setField->qp,firstArgMember->qk,wpAny_setField_rec->im,wpAny_onRaise->ln,wpAny_updateSeq_pair->qj,wpAny_letGo->qi,wpAny_attempt->lh,isSubtype_stop->wR,wpAny_dictEntries->nC,wpAny_notOrdered_dict->tL,codeAny_builtin->wN,wpAny_typeOf->wL,plainId_quiet->wK,wpAny_typeNameOfWhole_valiter->wF,wpAny_typeNameOf_valiter->wE,wpAny_fieldsOf->wD,wpAny_dictEpoch->qg,setField->wC,wpAny_typeNameOfWhole_keyiter->wA,wpAny_typeNameOf_keyiter->wz
open PySem.Builtin.Tuple renaming tupleHashOf->Ay
open Bool renaming false_ne_true->gw,not_true->BY,false_eq_true->mZ,false_and->BT,eq_iff_iff->k7,and_false->w8,and_eq_true->ka,or_eq_true->tN,true_and->tE,eq_false_iff->k_
open Nat renaming add_assoc->GI,le_refl->aP,lt_of_lt_of_le->iP,lt_irrefl->rF,ne_of_lt->cy,le_trans->bz,le_of_lt->cV,ne_of_gt->eP,zero_le->c7,le_succ->BM,lt_trans->tQ,sub_zero->wH,mod_lt->tF,succ_mul->ww,mul_le_mul->nv
open List renaming append_nil->cM,range->mY,mem_filter->bJ,mem_cons_self->dS,mem_cons_of_mem->fX,mem_cons->c8,mem_append->bx,mem_append_left->bV,getElem?_eq_some_iff->bN,mem_append_right->cx,length_cons->eO,lookup->k6,map_cons->cg,length_map->ag,nodup_cons->k5,replicate->tq,length_take->aM,getElem?_append_right->xf,getElem?_append_left->qw,getElem?_map->du,getElem?_take_of_lt->nL,mem_of_getElem?->bW,length_append->aS,length_drop->jz,size_toArray->b9,length_singleton->w_,find?_cons->qt,any_cons->lA,length_nil->nH,nodup_nil->tP,lookup_cons->iT,forIn_cons->nE,all_eq_true->qr,mem_map->aA,not_mem_nil->iR,zipIdx_cons->wX,zipIdx_nil->wW,forIn_nil->wV,any_toArray->wP,drop_zero->qh,take_length->bg,getElem?_eq_getElem->ik,mem_singleton->cX,map_append->av,nodup_append->dq,drop_of_length_le->tK,drop_eq_getElem_cons->wJ,mem_of_mem_take->j8,append_assoc->dZ,pairwise_map->iQ,map_map->qb,mem_map_of_mem->e_,length_filter_le->bo,filter_append->f6,filter_cons->qa,getElem?_of_mem->nB,flatMap_append->nA,mem_flatMap->fE,filter_congr->le,any_eq_true->wv,length_pos_iff->wu,flatMap_singleton->wt,Nodup->p_,pairwise_flatMap->wr,exists_mem_of_ne_nil->nr,ne_nil_of_mem->np
open Option.some renaming inj->fj
open PySem.W renaming instObj->rG,lookIn->BS,plainGet->yP,hasDictIn->BR,findIn->fh,isFn->yO,makesIn->yN,emptyDict->oM,keepIn->jK,kitOne->BQ,kia_one->jJ,fnOf->iV,codeIn->nK,nsIn->cC,mg_of->gD,mg_none_of->fZ
open PySem.Heap renaming lt_size->aU,SameBut->gy,get?_push_of_some->aO,get?_push_size->cu,size_push->jh,get?_update_self->tT
open PyProof.Rows renaming AllBare->oN,callWith_type1->vH,IntsAre->tO,boot_all->wo
open Ne renaming symm->hV
open Array renaming length_toList->k9,getElem?_toList->tS
open False renaming elim->jL
open True renaming intro->kO
open PySem.Calls renaming spliced_cons->BP,callWith_builtin->xb
open Option renaming isSome_iff_exists->xg,map_some->tR
open Int renaming toNat_natCast->jA,emod_nonneg->qe,emod_lt_of_pos->qd,eq_ofNat_of_zero_le->j9,ofNat->wq
open PySem.Obj renaming mapSeq->tU,data_mapFields->qo,mapFields->wB
open PySem.Paired renaming snoc->fF
open ForInStep renaming yield->wZ
open PySem.NameKind renaming free->lq
open PySem.Builtin.SmallTypes renaming nextOf->io,ownedTupleIsFree->lp,ownedTupleHandOut->wU
open PySem.Str renaming ofString->jw
open PySem.F renaming slot_tuple_iterator_next->wY,slot_zip_next->lg,entry_zip_next->wT,args_zip_next_1->wS,slot_dict_valueiterator_next->tI,slot_dict_keyiterator_next->tG,plainAttrs_list->eK,slot_list_append->gC,type_list_append->gB,slot_list_extend->wm,type_list_extend->wk
open PySem.Heap.SameBut renaming update->j_
open PySem.Shared renaming heap->wQ,TypeIs->tJ
open PySem.SeqAt renaming EqAt->bB
open PySem.Builtin.Str renaming strSliceIndices->tM
open PySem.Txt renaming join->wO
open PySem.Around renaming under_plainId->wM
open PySem.Builtin.Dict renaming updateFrom->wI,showsAll->wG
open PySem.Builtin.Dict_items renaming ownsTuple->tH
open Prod renaming snd->wx
open List.Pairwise renaming imp->nu,imp_of_mem->p9
open PySem.PassesOwn renaming never->bE
theorem Q0:0<=PySem.sizeLine:=by decide
theorem Q1:1<=PySem.sizeLine:=by decide
theorem Q2:2<=PySem.sizeLine:=by decide
theorem Q3:3<=PySem.sizeLine:=by decide
theorem Q4:4<=PySem.sizeLine:=by decide
theorem Q6:6<=PySem.sizeLine:=by decide
theorem zzr0{p:Prop}[Decidable p](h:¬p):decide p=false:=decide_eq_false h
theorem zzr1{p:Prop}[Decidable p](h:p):decide p=true:=decide_eq_true h
abbrev Za:=PySem.W.Frag
abbrev Zb:=List PySem.Str
abbrev Zc:=PySem.Value->PySem.Shared->Prop
abbrev Zd:=List (PySem.Addr×PySem.Obj)
abbrev Ze:=List PySem.Addr
abbrev Zf:=List PySem.Value
section
set_option Elab.async false
set_option linter.all false
set_option maxRecDepth 100000
set_option maxHeartbeats 4000000
namespace L2
open PySem PySem.Spec PyProof.Rows
open Sem (wp)
abbrev fu:=Sum Int Str
def dO:fu->Value->Bool
 |.inl k,v=>Value.isInt k v
 |.inr x,v=>Value.isStrOf x v
def JA(w:World):fu->Int
 |.inl k=>hashInt k
 |.inr x=>hashStr w x
theorem aD:∀{k:fu}{v:Value},dO k v=true->(∃i t,k=Sum.inl i/\v=Value.int i t)∨(∃x t,k=Sum.inr x/\v=Value.str x t)
 |.inl i,v,h=>by
  obtain⟨t,e⟩:=Value.isInt_shape (k:=i) (v:=v) h;exact .inl ⟨i,t,rfl,e⟩
 |.inr x,v,h=>by
  obtain⟨t,e⟩:=Value.isStrOf_shape (x:=x) (v:=v) h;exact .inr ⟨x,t,rfl,e⟩
theorem mD(i:Int)(t:Tok):dO (.inl i) (.int i t)=true:=by simp[dO,Value.isInt]
theorem mC(x:Str)(t:Tok):dO (.inr x) (.str x t)=true:=by simp[dO,Value.isStrOf]
theorem xZ(a b:Int):decide ((Sum.inl a:fu)=Sum.inl b)=(a==b):=by
 by_cases e:a=b
 ·subst e;simp
 ·have h:¬(Sum.inl a:fu)=Sum.inl b:=fun q=>e (Sum.inl.inj q);rw[zzr0 h];exact(beq_eq_false_iff_ne.mpr e).symm
theorem xV(a b:Str):decide ((Sum.inr a:fu)=Sum.inr b)=decide (a=b):=by
 by_cases e:a=b
 ·subst e;simp
 ·have h:¬(Sum.inr a:fu)=Sum.inr b:=fun q=>e (Sum.inr.inj q);rw[zzr0 h,zzr0 e]
theorem xY(a:Int)(b:Str):decide ((Sum.inl a:fu)=Sum.inr b)=false:=zzr0 (fun q=>nomatch q)
theorem xW(a:Str)(b:Int):decide ((Sum.inr a:fu)=Sum.inl b)=false:=zzr0 (fun q=>nomatch q)
def cQ(prog:bP)(w:World):PySem.KeyKind prog w fu where
 is:=dO
 hash:=JA w
 inj:=fun v a b ha hb=>by
  rcases aD ha with⟨i,t,rfl,rfl⟩|⟨x,t,rfl,rfl⟩
  ·rcases aD hb with⟨j,u,rfl,e⟩|⟨y,u,rfl,e⟩
   ·injection e with e1 _;rw[e1]
   ·exact nomatch e
  ·rcases aD hb with⟨j,u,rfl,e⟩|⟨y,u,rfl,e⟩
   ·exact nomatch e
   ·injection e with e1 _;rw[e1]
 byValue:=fun k v h=>by
  rcases aD h with⟨i,t,rfl,rfl⟩|⟨x,t,rfl,rfl⟩<;>rfl
 pyHash:=fun hv h=>by
  rcases aD hv with⟨i,t,rfl,rfl⟩|⟨x,t,rfl,rfl⟩
  ·exact wpAny_pyHash_int h
  ·exact wpAny_pyHash_str h
 eqBool:=fun hu hv h=>by
  rcases aD hu with⟨i,t,rfl,rfl⟩|⟨x,t,rfl,rfl⟩
  ·rcases aD hv with⟨j,u,rfl,rfl⟩|⟨y,u,rfl,rfl⟩
   ·rw[xZ]at h;exact wpAny_eqBool_int h
   ·rw[xY]at h;exact bB.int_str i t y u _ _ _ _ h
  ·rcases aD hv with⟨j,u,rfl,rfl⟩|⟨y,u,rfl,rfl⟩
   ·rw[xW]at h;exact bB.str_int x t j u _ _ _ _ h
   ·rw[xV]at h;exact wpAny_eqBool_str h
 «strs»:=fun k x t v h=>by
  rcases aD h with⟨i,u,rfl,e⟩|⟨y,u,rfl,e⟩
  ·exact nomatch e
  ·injection e with e1 _;subst e1;cases v<;>rfl
theorem zT(a:bP)(w:World)(i:Int)(t:Tok):(cQ a w).is (.inl i) (.int i t)=true:=mD i t
theorem zS(a:bP)(w:World)(x:Str)(t:Tok):(cQ a w).is (.inr x) (.str x t)=true:=mC x t
end L2
namespace L2
open PySem PySem.Spec PyProof.Rows
open Sem (wp)
abbrev oB:=Option fu
def i6:oB->Value->Bool
 |none,v=>match v with
  |.none=>true
  |_=>false
 |some k,v=>dO k v
def Ih(w:World):oB->Int
 |none=>Ez 4238894112
 |some k=>JA w k
theorem bY:∀{k:oB}{v:Value},i6 k v=true->(∃i t,k=some (Sum.inl i)/\v=Value.int i t)∨(∃x t,k=some (Sum.inr x)/\v=Value.str x t)∨(k=none/\v=Value.none)
 |none,v,h=>by
  refine .inr (.inr ⟨rfl,?_⟩);cases v<;>first|rfl|cases h
 |some k,v,h=>by
  rcases aD (show dO k v=true from h)with⟨i,t,rfl,rfl⟩|⟨i,t,rfl,rfl⟩
  ·exact .inl ⟨i,t,rfl,rfl⟩
  ·exact .inr (.inl ⟨i,t,rfl,rfl⟩)
theorem uD{a b:oB}{v:Value}(f:i6 a v=true)(g:i6 b v=true):a=b:=by
 rcases bY f with⟨i,t,rfl,rfl⟩|⟨i,t,rfl,rfl⟩|⟨rfl,rfl⟩<;>rcases bY g with⟨j,u,rfl,e⟩|⟨j,u,rfl,e⟩|⟨rfl,e⟩<;>first|rfl|(cases e;rfl)|cases e
def zQ(prog:bP)(w:World):PySem.KeyKind prog w oB where
 is:=i6
 hash:=Ih w
 inj:=fun v a b ha hb=>uD ha hb
 byValue:=fun k v h=>by
  rcases bY h with⟨i,t,rfl,rfl⟩|⟨x,t,rfl,rfl⟩|⟨rfl,rfl⟩<;>rfl
 pyHash:=fun{A E s k v Q} hv h=>by
  rcases bY hv with⟨i,t,rfl,rfl⟩|⟨x,t,rfl,rfl⟩|⟨rfl,rfl⟩
  ·exact wpAny_pyHash_int h
  ·exact wpAny_pyHash_str h
  ·refine PySem.W.pyHash_slot (T:="NoneType") rfl F.slot_NoneType_hash F.entry_NoneType_hash (F.args_NoneType_hash_1 _) (by rw[beq_builtin_none]) (.inl rfl) ?_;show wpAny _ _ (retInt 4238894112) _ _ _;refine oO (wpAny_ret_mkInt (Q:=fun v s'=>∃n t,v=Value.int n t/\Q (Ez n) s') ⟨_,_,rfl,h⟩) (fun fin s' ⟨v,e,n,t,e2,q⟩=>⟨n,t,by rw[e,e2],q⟩) (fun _ _ z=>z)
 eqBool:=fun{A E s a b u v Q} hu hv h=>by
  rcases bY hu with⟨i,t,rfl,rfl⟩|⟨x,t,rfl,rfl⟩|⟨rfl,rfl⟩
  ·rcases bY hv with⟨j,u,rfl,rfl⟩|⟨y,u,rfl,rfl⟩|⟨rfl,rfl⟩
   ·exact(cQ prog w).eqBool (a:=.inl i) (b:=.inl j) (mD i t) (mD j u) (by rw[show decide ((Sum.inl i:fu)=Sum.inl j)=decide ((some (Sum.inl i):oB)=some (Sum.inl j))from decide_eq_decide.mpr ⟨fun z=>by rw[z],fun z=>by injection z⟩];exact h)
   ·rw[zzr0 (by intro z;injection z with z;cases z)]at h;exact bB.int_str i t y u _ _ _ _ h
   ·rw[zzr0 (by intro z;cases z)]at h;exact bB.int_none i t _ _ _ _ h
  ·rcases bY hv with⟨j,u,rfl,rfl⟩|⟨y,u,rfl,rfl⟩|⟨rfl,rfl⟩
   ·rw[zzr0 (by intro z;injection z with z;cases z)]at h;exact bB.str_int x t j u _ _ _ _ h
   ·exact(cQ prog w).eqBool (a:=.inr x) (b:=.inr y) (mC x t) (mC y u) (by rw[show decide ((Sum.inr x:fu)=Sum.inr y)=decide ((some (Sum.inr x):oB)=some (Sum.inr y))from decide_eq_decide.mpr ⟨fun z=>by rw[z],fun z=>by injection z⟩];exact h)
   ·rw[zzr0 (by intro z;cases z)]at h;exact bB.str_none x t _ _ _ _ h
  ·rcases bY hv with⟨j,u,rfl,rfl⟩|⟨y,u,rfl,rfl⟩|⟨rfl,rfl⟩
   ·rw[zzr0 (by intro z;cases z)]at h;exact bB.none_int j u _ _ _ _ h
   ·rw[zzr0 (by intro z;cases z)]at h;exact bB.none_str y u _ _ _ _ h
   ·rw[zzr1 rfl]at h;exact bB.same _ _ _ _ _ h
 «strs»:=fun k x t v h=>by
  rcases bY h with⟨i,u,rfl,e⟩|⟨y,u,rfl,e⟩|⟨rfl,e⟩
  ·exact nomatch e
  ·injection e with e1 _;subst e1;cases v<;>rfl
  ·exact nomatch e
inductive TK where
 |k (a:oB)
 |t (l:List TK)
mutual
def Iu:(x y:TK)->Decidable (x=y)
 |.k a,.k b=>if h:a=b then Decidable.isTrue (by rw[h])else Decidable.isFalse fun e=>h (by injection e)
 |.t l,.t m=>match decTKs l m with
  |Decidable.isTrue h=>Decidable.isTrue (by rw[h])
  |Decidable.isFalse h=>Decidable.isFalse fun e=>h (by injection e)
 |.k _,.t _=>Decidable.isFalse nofun
 |.t _,.k _=>Decidable.isFalse nofun
def decTKs:(x y:List TK)->Decidable (x=y)
 |[],[]=>Decidable.isTrue rfl
 |[],_::_=>Decidable.isFalse nofun
 |_::_,[]=>Decidable.isFalse nofun
 |a::l,b::m=>match Iu a b with
  |Decidable.isTrue h=>match decTKs l m with
   |Decidable.isTrue h'=>Decidable.isTrue (by rw[h,h'])
   |Decidable.isFalse h'=>Decidable.isFalse fun e=>h' (by injection e)
  |Decidable.isFalse h=>Decidable.isFalse fun e=>h (by injection e)
end
instance:DecidableEq TK:=Iu
mutual
def TK.depth:TK->Nat
 |.k _=>0
 |.t l=>TK.depths l+1
def TK.depths:List TK->Nat
 |[]=>0
 |a::r=>max (TK.depth a) (TK.depths r)
end
mutual
def TK.hash(w:World):TK->Int
 |.k a=>Ih w a
 |.t l=>Ez (Ay (TK.hashs w l))
def TK.hashs(w:World):List TK->List Int
 |[]=>[]
 |a::r=>TK.hash w a::TK.hashs w r
end
mutual
def TK.draws:TK->Nat
 |.k _=>1
 |.t l=>TK.drawss l+1
def TK.drawss:List TK->Nat
 |[]=>0
 |a::r=>TK.draws a+TK.drawss r
end
mutual
def mJ(h:Heap):TK->Value->Prop
 |.k a,v=>i6 a v=true
 |.t l,v=>∃a o items n,v=.ref a/\h.get? a=some o/\o.cls=.type "tuple"/\o.data=.seq items n/\TAts h l items.toList
def TAts(h:Heap):List TK->List Value->Prop
 |[],vs=>vs=[]
 |k::r,vs=>∃v us,vs=v::us/\mJ h k v/\TAts h r us
end
theorem mJ.inj{h:Heap}:∀(d:Nat) {x y:TK}{v:Value},x.depth<=d->mJ h x v->mJ h y v->x=y:=by
 have A:∀(d:Nat) (u:∀{x y:TK}{v:Value},x.depth<=d->mJ h x v->mJ h y v->x=y) (m i:List TK) (p:Zf),TK.depths m<=d->TAts h m p->TAts h i p->m=i:=by
  intro d u m
  induction m with
  |nil =>
   intro i p _ hx f;have B:p=[]:=hx;subst B;cases i with
   |nil=>rfl
   |cons y i=>obtain⟨_,_,e,_⟩:=f;cases e
  |cons x m C =>
   intro i p q hx f;obtain⟨v,N,rfl,D,E⟩:=hx;cases i with
   |nil=>have G:v::N=[]:=f;cases G
   |cons y i =>
    obtain⟨v',Q,e,H,I⟩:=f;cases e;have T:max x.depth (TK.depths m)<=d:=q;rw[u (by omega) D H,C i N (by omega) E I]
 have g:∀(a:oB) (l:List TK) (v:Value),mJ h (.k a) v->mJ h (.t l) v->False:=by
  intro a l v r J;obtain⟨b,o,items,n,rfl,_⟩:=J;rcases bY (show i6 a (.ref b)=true from r)with⟨_,_,_,e⟩|⟨_,_,_,e⟩|⟨_,e⟩<;>cases e
 have O:∀(a b:oB) (v:Value),i6 a v=true->i6 b v=true->a=b:=fun a b v r J=>uD r J;intro d
 induction d with
 |zero =>
  intro x y v q hx f;cases x with
  |t l=>exact absurd q (by show ¬(TK.depths l+1<=0);omega)
  |k a =>
   cases y with
   |k b=>rw[O a b v hx f]
   |t l=>exact(g a l v hx f).elim
 |succ d u =>
  intro x y v q hx f;cases x with
  |k a =>
   cases y with
   |k b=>rw[O a b v hx f]
   |t l=>exact(g a l v hx f).elim
  |t l =>
   cases y with
   |k b=>exact(g b l v f hx).elim
   |t U =>
    obtain⟨a,o,items,n,rfl,Y,hc,L,hi⟩:=hx;obtain⟨a',o',z,n',e,s,al,j,M⟩:=f;cases e;rw[Y]at s;cases s;rw[L]at j;injection j with e1 _;subst e1;rw[A d (fun r=>u r) l U items.toList (by have:TK.depths l+1<=d+1:=q;omega) hi M]
theorem mJ.mono{h i:Heap}(k:∀a o items n,h.get? a=some o->o.cls=.type "tuple"->o.data=.seq items n->i.get? a=some o):∀(d:Nat) {x:TK}{v:Value},x.depth<=d->mJ h x v->mJ i x v:=by
 have p:∀(d:Nat) (j:∀{x:TK}{v:Value},x.depth<=d->mJ h x v->mJ i x v) (e:List TK) (m:Zf),TK.depths e<=d->TAts h e m->TAts i e m:=by
  intro d j e
  induction e with
  |nil=>intro m _ hx;exact hx
  |cons x e q =>
   intro m f hx;obtain⟨v,u,rfl,r,s⟩:=hx;have z:max x.depth (TK.depths e)<=d:=f;exact⟨v,u,rfl,j (by omega) r,q u (by omega) s⟩
 intro d
 induction d with
 |zero =>
  intro x v f hx;cases x with
  |t l=>exact absurd f (by show ¬(TK.depths l+1<=0);omega)
  |k a=>exact hx
 |succ d j =>
  intro x v f hx;cases x with
  |k a=>exact hx
  |t l =>
   obtain⟨a,o,items,n,rfl,A,y,g,hi⟩:=hx;exact⟨a,o,items,n,rfl,k a o items n A y g,y,g,p d (fun B=>j B) l _ (by have:TK.depths l+1<=d+1:=f;omega) hi⟩
section
variable{prog:bP}{w:World}
theorem GP:∀(d:Nat) {A:Around}{E:Zc}{s:Shared}{k:TK}{v:Value}{Q:Int->Shared->Prop},k.depth<=d->A.units+d<cLine->mJ s.heap k v->Q (k.hash w) { s with toks:=s.toks+k.draws } ->
  wpAny (model prog w) A (pyHash v) Q E s:=by
 intro d
 induction d with
 |zero =>
  intro A E s k v Q C hu u h;cases k with
  |t l=>exact absurd C (by show ¬(TK.depths l+1<=0);omega)
  |k a=>exact(zQ prog w).pyHash (k:=a) u h
 |succ d ih =>
  intro A E s k v Q C hu u h;cases k with
  |k a=>exact(zQ prog w).pyHash (k:=a) u h
  |t l =>
   obtain⟨a,o,items,n,rfl,U,hc,D,hi⟩:=u;have y:s.TypeIs (.ref a) "tuple":=⟨o,U,hc⟩;have G:TK.depths l<=d:=by have:TK.depths l+1<=d+1:=C;omega
   unfold pyHash
   first|unfold pyHashByItsType|skip
   first|refine ai (wpAny_cRoomFor_or (.inr (by omega)) ?_)|skip
   refine ai (GJ y F.slot_tuple_hash.lookup ?_);show wpAny _ _ (if(some (Value.builtin "tuple.__hash__")==some Value.none)=true then _ else _) Q E s
   rw[if_neg (by rw[beq_builtin_none];exact gw)];refine ai (GJ y F.slot_tuple_hash.lookup ?_);show wpAny _ _ (callSpecialIfBoundUnlessNone? (.ref a) "__hash__" _ >>= _) Q E s;refine ai (wpAny_callSpecialIfBoundUnlessNone?_slot y F.slot_tuple_hash (nk F.slot_tuple_hash y F.entry_tuple_hash ?_ (F.args_tuple_hash_1 _)));show wpAny _ _ (c9.Tuple.tupleItemsOf (.ref a) >>= _) _ _ s;refine ai (wpAny_tupleItemsOf U D ?_);refine ai ?_;rw[<-Array.forIn_toList];refine wpAny_forIn_list _
    (fun g (b:Array Int) H=>∃done left,l=done++left/\TAts s.heap left g/\b.toList=TK.hashs w done/\H={ s with toks:=s.toks+TK.drawss done })
    _ ?_ ?_ _ _ ⟨[],l,rfl,hi,rfl,rfl⟩
   ·rintro x g b H ⟨done,left,e,z,j,rfl⟩;cases left with
    |nil=>have I:x::g=[]:=z;cases I
    |cons f left =>
     obtain⟨x',J,L,h1,Y⟩:=z;cases L;have M:f.depth<=d:=by
      have gen:∀(p:List TK),TK.depths (p++f::left)<=d->f.depth<=d:=by
       intro p
       induction p with
       |nil=>intro N;have O:max f.depth (TK.depths left)<=d:=N;omega
       |cons q p i=>intro N;have O:max q.depth (TK.depths (p++f::left))<=d:=N;exact i (by omega)
      exact gen done (by rw[<-e];exact G)
     have T:TK.hashs w (done++[f])=TK.hashs w done++[f.hash w]:=by
      clear e j
      induction done with
      |nil=>rfl
      |cons q p i=>show _::TK.hashs w (p++[f])=_;rw[i];rfl
     have m:TK.drawss (done++[f])=TK.drawss done+f.draws:=by
      clear e j T
      induction done with
      |nil=>show f.draws+0=0+f.draws;omega
      |cons q p i=>show q.draws+TK.drawss (p++[f])=q.draws+TK.drawss p+f.draws;rw[i];omega
     refine ai (ih (k:=f) M (by show A.units+1+d<cLine;omega) h1 ?_)
     first
      |exact aG ⟨done++[f],left,by rw[e];simp,Y,by rw[T];simp[j],by rw[m];simp[GI]⟩
      |exact ai (aG (aG ⟨done++[f],left,by rw[e];simp,Y,by rw[T];simp[j],by rw[m];simp[GI]⟩))
   ·rintro b H ⟨done,left,e,z,j,rfl⟩;cases left with
    |cons f left=>obtain⟨_,_,L,_⟩:=z;cases L
    |nil =>
     rw[cM]at e;subst e;show wpAny _ _ (retInt (Ay b.toList)) _ _ _;rw[j];refine wpAny_ret_mkInt ?_;have r:Q (Ez (Ay (TK.hashs w l))) { s with toks:=s.toks+(TK.drawss l+1) }:=h;show wpAny _ _ (if(decide (-(2:Int) ^ 63<=Ay (TK.hashs w l)) && decide (Ay (TK.hashs w l)<2 ^ 63))=true then _ else _) Q E _
     unfold Ez at r;by_cases B:(decide (-(2:Int) ^ 63<=Ay (TK.hashs w l)) && decide (Ay (TK.hashs w l)<2 ^ 63))=true
     ·rw[if_pos B];rw[if_pos B]at r;exact aG (by simpa[GI]using r)
     ·rw[if_neg B];rw[if_neg B]at r;exact ai (lB (aG (by simpa[GI]using r)))
theorem C2(d:Nat)(ih:∀{A:Around}{E:Zc}{s:Shared}{x y:TK}{u v:Value}{Q:Bool->Shared->Prop},x.depth<=d->y.depth<=d->A.units+d<cLine->mJ s.heap x u->mJ s.heap y v->Q (decide (x=y)) s->wpAny (model prog w) A (eqBool u v) Q E s)
  {A:Around}{E:Zc}{s:Shared}{x y:List TK}{a b:Addr}{P:Fin->Shared->Prop}{oa L:Obj}{q t:Array Value}{na nb:Nat}(hx:TK.depths x<=d) (hy:TK.depths y<=d) (hu:A.units+d<cLine)
  (N:s.heap.get? a=some oa) (O:oa.data=.seq q na) (T:TAts s.heap x q.toList) (B:s.heap.get? b=some L) (U:L.cls=.type "tuple") (Y:L.data=.seq t nb) (al:TAts s.heap y t.toList)
  (h:P (.done (.ret (.bool (decide (x=y))))) s):wpAny (model prog w) A (c9.«tuple.__eq__» ⟨[.ref a,.ref b],[]⟩) P E s:=by
 have an:s.TypeIs (.ref b) "tuple":=⟨L,B,U⟩;show wpAny _ _ (isInstance (.ref b) (.type "tuple") >>= _) _ _ s;refine ai (vI an isSubtype_tuple_tuple ?_);simp only[BY,mZ,if_false];refine ai (wpAny_tupleItemsOf N O ?_);refine ai (wpAny_tupleItemsOf B Y ?_);refine ai ?_;refine wpAny_forIn_list _
  (fun l r M=>r.1=none/\M=s/\∃n m xs' f,l=List.zip xs' f/\TAts s.heap n xs'/\TAts s.heap m f/\TK.depths n<=d/\TK.depths m<=d/\decide (n=m)=decide (x=y)/\(xs'.length==f.length)=(q.size==t.size))
  _ ?_ ?_ _ _ ⟨rfl,rfl,x,y,q.toList,t.toList,rfl,T,al,hx,hy,rfl,by simp⟩
 ·rintro⟨u,v⟩ l r M ⟨hr,rfl,n,m,xs',f,z,j,g,dx,dy,i,k⟩;cases n with
  |nil =>
   have e:xs'=[]:=j;subst e;simp at z
  |cons k1 o =>
   obtain⟨u',C,rfl,h1,D⟩:=j;cases m with
   |nil =>
    have e:f=[]:=g;subst e;simp at z
   |cons k2 p =>
    obtain⟨v',G,rfl,h2,H⟩:=g;simp only[List.zip_cons_cons,List.cons.injEq,Prod.mk.injEq]at z;obtain⟨⟨rfl,rfl⟩,rfl⟩:=z;have ap:max k1.depth (TK.depths o)<=d:=dx;have as:max k2.depth (TK.depths p)<=d:=dy;refine ai (ih (x:=k1) (y:=k2) (by omega) (by omega) hu h1 h2 ?_);by_cases hk:k1=k2
    ·subst hk;rw[zzr1 rfl];simp only[BY,mZ,if_false];refine aG ⟨rfl,rfl,o,p,C,G,rfl,D,H,by omega,by omega,?_,by simpa using k⟩;rw[<-i];by_cases I:o=p
     ·simp[I]
     ·simp[I]
    ·rw[zzr0 hk];simp only[Bool.not_false,if_true];have hf:decide (x=y)=false:=by rw[<-i];simp[hk]
     rw[hf]at h;exact ai (aG (aG (aG h)))
 ·rintro⟨r1,r2⟩ M ⟨hr,rfl,n,m,xs',f,z,j,g,dx,dy,i,k⟩;simp only at hr;subst hr;refine aG ?_;have J:(q.size==t.size)=decide (x=y):=by
   rw[<-i,<-k];cases n with
   |nil =>
    have e:xs'=[]:=j;subst e;cases m with
    |nil=>have e:f=[]:=g;subst e;simp
    |cons _ _=>obtain⟨_,_,rfl,_⟩:=g;simp
   |cons _ _ =>
    obtain⟨_,_,rfl,_⟩:=j;cases m with
    |nil=>have e:f=[]:=g;subst e;simp
    |cons _ _=>obtain⟨_,_,rfl,_⟩:=g;simp at z
  show P (.done (.ret (.bool (q.size==t.size)))) M;rw[J];exact h
theorem Jn:∀(d:Nat) {A:Around}{E:Zc}{s:Shared}{x y:TK}{u v:Value}{Q:Bool->Shared->Prop},x.depth<=d->y.depth<=d->A.units+d<cLine->mJ s.heap x u->mJ s.heap y v->Q (decide (x=y)) s ->
  wpAny (model prog w) A (eqBool u v) Q E s:=by
 have g:∀{A:Around}{E:Zc}{s:Shared}{a:oB}{l:List TK}{u v:Value}{Q:Bool->Shared->Prop},A.units<cLine->mJ s.heap (.k a) u->mJ s.heap (.t l) v->Q false s->wpAny (model prog w) A (eqBool u v) Q E s:=by
  intro A E s a l u v Q j hx f h;obtain⟨b,o,items,n,rfl,L,M,q,hi⟩:=f;have r:s.heap.IsTuple b items:=⟨o,L,M,n,q⟩;rcases bY (show i6 a u=true from hx)with⟨i,t,rfl,rfl⟩|⟨i,t,rfl,rfl⟩|⟨rfl,rfl⟩
  ·exact bB.int_tuple i t r j prog w E Q h
  ·exact bB.str_tuple i t r j prog w E Q h
  ·exact bB.none_tuple r j prog w E Q h
 have p:∀{A:Around}{E:Zc}{s:Shared}{a:oB}{l:List TK}{u v:Value}{Q:Bool->Shared->Prop},A.units<cLine->mJ s.heap (.t l) u->mJ s.heap (.k a) v->Q false s->wpAny (model prog w) A (eqBool u v) Q E s:=by
  intro A E s a l u v Q j hx f h;obtain⟨b,o,items,n,rfl,L,M,q,hi⟩:=hx;have r:s.heap.IsTuple b items:=⟨o,L,M,n,q⟩;rcases bY (show i6 a v=true from f)with⟨i,t,rfl,rfl⟩|⟨i,t,rfl,rfl⟩|⟨rfl,rfl⟩
  ·exact bB.tuple_int i t r j prog w E Q h
  ·exact bB.tuple_str i t r j prog w E Q h
  ·exact bB.tuple_none r j prog w E Q h
 have leaves:∀{A:Around}{E:Zc}{s:Shared}{a b:oB}{u v:Value}{Q:Bool->Shared->Prop},mJ s.heap (.k a) u->mJ s.heap (.k b) v->Q (decide (TK.k a=TK.k b)) s->wpAny (model prog w) A (eqBool u v) Q E s:=by
  intro A E s a b u v Q hx f h;refine(zQ prog w).eqBool (a:=a) (b:=b) hx f ?_;by_cases e:a=b
  ·subst e;simpa using h
  ·have:¬(TK.k a=TK.k b):=fun z=>e (by injection z);rw[zzr0 this]at h;rw[zzr0 e];exact h
 intro d
 induction d with
 |zero =>
  intro A E s x y u v Q B C j hx f h;cases x with
  |t l=>exact absurd B (by show ¬(TK.depths l+1<=0);omega)
  |k a =>
   cases y with
   |t l=>exact absurd C (by show ¬(TK.depths l+1<=0);omega)
   |k b=>exact leaves hx f h
 |succ d ih =>
  intro A E s x y u v Q B C j hx f h;cases x with
  |k a =>
   cases y with
   |k b=>exact leaves hx f h
   |t l =>
    rw[zzr0 (by intro z;cases z)]at h;exact g (by omega) hx f h
  |t l =>
   cases y with
   |k b =>
    rw[zzr0 (by intro z;cases z)]at h;exact p (by omega) hx f h
   |t m =>
    have hl:TK.depths l<=d:=by have:TK.depths l+1<=d+1:=B;omega
    have hm:TK.depths m<=d:=by have:TK.depths m+1<=d+1:=C;omega
    have N:=hx;have O:=f;obtain⟨a,oa,xs,na,rfl,G,T,U,Y⟩:=hx;obtain⟨b,ob,ys,nb,rfl,H,I,al,an⟩:=f;have J:s.TypeIs (.ref a) "tuple":=⟨oa,G,T⟩;have ap:s.TypeIs (.ref b) "tuple":=⟨ob,H,I⟩;have as:decide (TK.t l=TK.t m)=decide (l=m):=by
     by_cases e:l=m
     ·subst e;simp
     ·have:¬(TK.t l=TK.t m):=fun z=>e (by injection z);rw[zzr0 this,zzr0 e]
    unfold eqBool
    try with_reducible refine kR ?_
    show wpAny _ _ (if(Value.ref a==Value.ref b)=true then _ else _) Q E s
    by_cases D:(Value.ref a==Value.ref b)=true
    ·rw[if_pos D];have e:a=b:=by have:=eq_of_beq D;injection this
     subst e;have e2:TK.t l=TK.t m:=mJ.inj _ (aP _) N O;rw[zzr1 e2]at h;exact ai (lB (aG h))
    ·rw[if_neg D];rw[as]at h;exact ai (wpAny_richCompare_same_room (op:=.Eq) J ap F.slot_tuple_eq
      (nk F.slot_tuple_eq J F.entry_tuple_eq (C2 d (fun h1 h2 h3 h4 h5 h6=>ih h1 h2 h3 h4 h5 h6) hl hm (by show A.units+1+d<cLine;omega) G U Y H I al an ⟨_,rfl,(fun e=>nomatch e),rH h⟩) (F.args_tuple_eq_2 _ _)) (by omega))
theorem EK:∀(d:Nat) {A:Around}{E:Zc}{s:Shared}{k:TK}{v:Value}{Q:Bool->Shared->Prop},k.depth<=d->mJ s.heap k v->Q true s->wpAny (model prog w) A (eqIsQuiet d v) Q E s:=by
 intro d
 induction d with
 |zero =>
  intro A E s k v Q j i h;cases k with
  |t l=>exact absurd j (by show ¬(TK.depths l+1<=0);omega)
  |k a=>rw[eqIsQuiet_byValue _ ((zQ prog w).byValue a v i)];exact aG h
 |succ d D =>
  intro A E s k v Q j i h;cases k with
  |k a=>rw[eqIsQuiet_byValue _ ((zQ prog w).byValue a v i)];exact aG h
  |t l =>
   have G:TK.depths l<=d:=by have:TK.depths l+1<=d+1:=j;omega
   obtain⟨a,o,items,n,rfl,y,H,m,hi⟩:=i;have z:s.TypeIs (.ref a) "tuple":=⟨o,y,H⟩;unfold eqIsQuiet;refine ai (GJ z F.slot_tuple_eq.lookup ?_);show wpAny _ _ (isInstance (.ref a) (.type "tuple") >>= _) _ _ s;refine ai (vI z isSubtype_tuple_tuple ?_);simp only[BY,mZ,if_false];refine ai (hZ y m ?_);refine ai ?_;show wpAny _ _ (forIn items _ _) _ _ s;rw[<-Array.forIn_toList];refine wpAny_forIn_list _ (fun f r p=>r.1=none/\p=s/\∃left,TAts s.heap left f/\TK.depths left<=d) _ ?_ ?_ _ _ ⟨rfl,rfl,l,hi,G⟩
   ·rintro v f r p ⟨q,rfl,left,g,u⟩;cases left with
    |nil=>have e:v::f=[]:=g;cases e
    |cons B left =>
     obtain⟨L,x,e,I,J⟩:=g;cases e;have C:max B.depth (TK.depths left)<=d:=u;refine ai (D (k:=B) (by omega) I ?_);simp only[BY,mZ,if_false];exact aG ⟨rfl,rfl,left,J,by omega⟩
   ·rintro⟨M,N⟩ p ⟨q,rfl,_⟩;simp only at q;subst q;exact aG h
def bL(prog:bP)(w:World):HeapKind prog w TK where
 is:=fun h k a=>mJ h k (.ref a)/\k.depth<=8
 hash:=TK.hash w
 draws:=TK.draws
 room:=fun A=>A.units+8<cLine
 inj:=fun hx hy=>mJ.inj 8 hx.2 hx.1 hy.1
 keeps:=fun{h h' k a d o es ep} x ho hd hs=>⟨mJ.mono (fun b ob items n hb _ hdb=>(hs.2 b fun e=>by
  subst e;rw[ho]at hb;cases hb;rw[hd]at hdb;cases hdb).trans hb) 8 x.2 x.1,x.2⟩
 pyHash:=fun hu hk h=>GP 8 hk.2 hu hk.1 h
 eqBool:=fun hu hx hy h=>Jn 8 hx.2 hy.2 hu hx.1 hy.1 h
 quiet:=fun hk h=>EK 8 hk.2 hk.1 h
end
end L2
namespace L2
open PySem PySem.Spec PyProof.Rows
inductive V where
 |non|bl (b:Bool)|int (i:Int)|str (x:Str)|byt (b:Array UInt8)|flt (b:UInt64)|ref (a:Addr)|ty (n:String)
 deriving DecidableEq
def RelV:V->Value->Prop
 |.non,u=>u=Value.none
 |.bl b,u=>u=Value.bool b
 |.int i,u=>∃t,u=Value.int i t
 |.str x,u=>∃t,u=Value.str x t
 |.byt b,u=>∃t,u=Value.bytes b t
 |.flt b,u=>∃t,u=Value.float b t
 |.ref a,u=>u=Value.ref a
 |.ty n,u=>u=Value.type n
abbrev bC:List V->List Value->Prop:=Paired RelV
theorem bC.length{a:List V}{e:Zf}(r:bC a e):a.length=e.length:=Paired.length r
theorem bC.get:∀{a:List V}{f:Zf}{i:Nat}{x:V},bC a f->a[i]?=some x->∃u,f[i]?=some u/\RelV x u
 |_,_,_,_,.nil,e=>by simp at e
 |_,_,0,_,.cons r _,e=>by simp at e;subst e;exact⟨_,rfl,r⟩
 |_,_,i+1,x,.cons _ t,e=>by
  obtain⟨u,g,h⟩:=bC.get (i:=i) (x:=x) t (by simpa using e);exact⟨u,by simpa using g,h⟩
theorem bC.set{x:V}{u:Value}(r:RelV x u):∀{a:List V}{e:Zf}(i:Nat),bC a e->bC (a.set i x) (e.set i u)
 |_,_,_,.nil=>.nil
 |_,_,0,.cons _ t=>.cons r t
 |_,_,i+1,.cons q t=>.cons q (bC.set r i t)
theorem bC.append{a e:List V}{f g:Zf}(h:bC a f)(s:bC e g):bC (a++e) (f++g):=by
 induction h with
 |nil=>exact s
 |cons r _ i=>exact .cons r i
theorem bC.take:∀{a:List V}{e:Zf}(n:Nat),bC a e->bC (a.take n) (e.take n)
 |_,_,0,_=>.nil
 |_,_,_+1,.nil=>.nil
 |_,_,n+1,.cons r t=>.cons r (bC.take n t)
theorem bC.drop:∀{a:List V}{e:Zf}(n:Nat),bC a e->bC (a.drop n) (e.drop n)
 |_,_,0,r=>r
 |_,_,_+1,.nil=>.nil
 |_,_,n+1,.cons _ t=>bC.drop n t
def kY:Option V->Option Value->Prop
 |some v,some u=>RelV v u
 |none,none=>True
 |_,_=>False
def KV{κ:Type}:List (κ×V)->List (κ×Value)->Prop:=Paired fun(p:κ×V) (q:κ×Value)=>p.1=q.1/\RelV p.2 q.2
def kV:fu->V
 |.inl i=>.int i
 |.inr x=>.str x
def Ii:oB->V
 |none=>.non
 |some k=>kV k
inductive HO where
 |lst (xs:List V)
 |tup (xs:List V)
 |dK (kvs:List (fu×V))|dT (kvs:List (TK×V))
 |set (S:Int->Bool) (n:Nat)
 |ins (C dx:Addr) (fs:List (Str×V))
 |own (x:Addr)
 |xd (fs:List (Str×V))
 |met (f x:Addr)
 |rng (lo hi:Int)
 |frz (o:Obj) (u:HO)
 |tbl (ps:Array Value)
 |ext (φ:Heap->Prop)
abbrev Hp:=Addr->Option HO
mutual
def gQ(H:Hp):TK->V->Prop
 |.k a,v=>v=Ii a
 |.t l,v=>∃b xs,v=.ref b/\H b=some (.tup xs)/\TKAts H l xs
def TKAts(H:Hp):List TK->List V->Prop
 |[],vs=>vs=[]
 |k::r,vs=>∃v us,vs=v::us/\gQ H k v/\TKAts H r us
end
def eC(K:Za)(H:Hp)(a:Addr)(xs:List V):Prop :=
 H a=some (.tup xs)∨∃(o:Obj) (its:Array Value) (n:Nat),K.lookup a=some o/\o.cls=.type "tuple"/\o.data=.seq its n/\its.size<=aj/\bC xs its.toList
theorem eC.keeps{K:Za}{H e:Hp}{a:Addr}{xs:List V}(h:eC K H a xs)(f:∀b xs,H b=some (.tup xs)->e b=some (.tup xs)):eC K e a xs:=h.imp (f a xs) id
mutual
def rW(K:Za)(H:Hp):TK->V->Prop
 |.k a,v=>v=Ii a
 |.t l,v=>∃b xs,v=.ref b/\eC K H b xs/\TKCs K H l xs
def TKCs(K:Za)(H:Hp):List TK->List V->Prop
 |[],vs=>vs=[]
 |k::r,vs=>∃v us,vs=v::us/\rW K H k v/\TKCs K H r us
end
theorem rW.keeps{K:Za}{H f:Hp}(p:∀b xs,H b=some (.tup xs)->f b=some (.tup xs)):∀(d:Nat) {k:TK}{v:V},k.depth<=d->rW K H k v->rW K f k v:=by
 have i:∀(d:Nat) (g:∀{k:TK}{v:V},k.depth<=d->rW K H k v->rW K f k v) (xs:List TK) (h:List V),TK.depths xs<=d->TKCs K H xs h->TKCs K f xs h:=by
  intro d g xs
  induction xs with
  |nil=>intro h _ hx;exact hx
  |cons x xs j =>
   intro h e hx;obtain⟨v,o,rfl,m,n⟩:=hx;have q:max x.depth (TK.depths xs)<=d:=e;exact⟨v,o,rfl,g (by omega) m,j o (by omega) n⟩
 intro d
 induction d with
 |zero =>
  intro k v e hx;cases k with
  |t l=>exact absurd e (by show ¬(TK.depths l+1<=0);omega)
  |k a=>exact hx
 |succ d g =>
  intro k v e hx;cases k with
  |k a=>exact hx
  |t l =>
   obtain⟨b,xs,rfl,r,hi⟩:=hx;exact⟨b,xs,rfl,r.keeps p,i d (fun s=>g s) l xs (by have:TK.depths l+1<=d+1:=e;omega) hi⟩
theorem gQ.c{K:Za}{H:Hp}:∀(d:Nat) {k:TK}{v:V},k.depth<=d->gQ H k v->rW K H k v:=by
 have i:∀(d:Nat) (g:∀{k:TK}{v:V},k.depth<=d->gQ H k v->rW K H k v) (e:List TK) (h:List V),TK.depths e<=d->TKAts H e h->TKCs K H e h:=by
  intro d g e
  induction e with
  |nil=>intro h _ hx;exact hx
  |cons x e j =>
   intro h f hx;obtain⟨v,o,rfl,m,n⟩:=hx;have p:max x.depth (TK.depths e)<=d:=f;exact⟨v,o,rfl,g (by omega) m,j o (by omega) n⟩
 intro d
 induction d with
 |zero =>
  intro k v f hx;cases k with
  |t l=>exact absurd f (by show ¬(TK.depths l+1<=0);omega)
  |k a=>exact hx
 |succ d g =>
  intro k v f hx;cases k with
  |k a=>exact hx
  |t l =>
   obtain⟨b,e,rfl,q,hi⟩:=hx;exact⟨b,e,rfl,.inl q,i d (fun r=>g r) l e (by have:TK.depths l+1<=d+1:=f;omega) hi⟩
def upd(H:Hp)(a:Addr)(o:HO):Hp:=fun b=>if b=a then some o else H b
theorem aa{H:Hp}{a:Addr}{o:HO}:upd H a o a=some o:=by unfold upd;rw[if_pos rfl]
theorem am{H:Hp}{a b:Addr}{o:HO}(h:b≠a):upd H a o b=H b:=by unfold upd;rw[if_neg h]
theorem sL{H:Hp}{a:Addr}{o u:HO}:upd (upd H a o) a u=upd H a u:=by
 funext b;unfold upd;split<;>rfl
theorem Ie{H:Hp}{a b:Addr}{o u:HO}(h:H a=some o)(f:H b=some u)(d:o≠u):a≠b:=by
 intro e;subst e;rw[h]at f;exact d (fj f)
theorem ae{H:Hp}{a b:Addr}{o:HO}(h:H a=some o)(f:H b=none):a≠b:=by
 intro e;subst e;rw[h]at f;cases f
section
variable(P:bP)(w:World)(K:Za)
def cq(H:Hp)(h:Heap)(a:Addr):HO->Prop
 |.lst xs=>xs.length<=aj/\∃(its:Zf) (n:Nat),bC xs its/\h.get? a=some { cls:=.type "list",data:=.seq its.toArray n }
 |.tup xs=>xs.length<=aj/\∃its:List Value,bC xs its/\IsTup h a its.toArray
 |.dK kvs=>kvs.length<=aj/\(a==hW)=false/\∃vs,KV kvs vs/\h.DictOf (cQ P w) a vs
 |.dT kvs=>kvs.length<=aj/\(a==hW)=false/\∃xs:List (TK×Addr×Value),
   Paired (fun(p:TK×V) (q:TK×Addr×Value)=>p.1=q.1/\rW K H p.1 (.ref q.2.1)/\p.1.depth<=8/\RelV p.2 q.2.2) kvs xs /\
   ∃o es ep,h.get? a=some o/\o.ExactDict/\o.data=.dict es ep/\es.toList=xs.map (BX (bL P w))/\(xs.map (·.1)).Nodup
 |.set S n=>h.SetOf (intKind P w) a S n
 |.ins C dx fs=>H dx=some (.own a)/\fs.length<=1000/\dx≠a/\h.get? a=some (rG C dx) /\
   ∃mA,h.Ns1 dx mA/\(∀f,kY (fs.lookup f) (mA f))/\PySem.Within mA (fs.map (·.1))
 |.own _=>∃o,h.get? a=some o
 |.xd fs=>∃mA,h.Ns1 a mA/\∀f,kY (fs.lookup f) (mA f)
 |.rng lo hi=>∃t u v,h.get? a=some { cls:=.type "range",data:=.fields #[.int lo t,.int hi u,.int 1 v] }
 |.frz o u=>h.get? a=some o/\cq H h a u
 |.tbl ps=>h.get? a=some { cls:=.none,data:=.fields ps }
 |.met f x=>h.get? a=some (PySem.W.methodObj (.ref f) (.ref x))
 |.ext φ=>φ h/\(∃o,h.get? a=some o)/\∀h1 h2:Heap,φ h1->(∀o,h1.get? a=some o->h2.get? a=some o)->φ h2
def mK(H:Hp)(h:Heap):Prop:=∀a o,H a=some o->cq P w K H h a o
end
section
variable{P:bP}{w:World}{K:Za}{H H':Hp}{h h':Heap}{a:Addr}{o:HO}
theorem cq.lt(x:cq P w K H h a o):a<h.objs.size:=by
 cases o with
 |lst i=>obtain⟨_,_,_,_,e⟩:=x;exact aU e
 |tup i=>obtain⟨_,_,_,p⟩:=x;exact p.lt
 |dK g=>obtain⟨_,_,_,_,o,_,_,e,_⟩:=x;exact aU e
 |dT g=>obtain⟨_,_,_,_,o,_,_,e,_⟩:=x;exact aU e
 |set S n=>obtain⟨o,_,_,_,e,_⟩:=x;exact aU e
 |ins C j fs=>obtain⟨_,_,_,e,_⟩:=x;exact aU e
 |own y=>obtain⟨_,e⟩:=x;exact aU e
 |xd fs=>obtain⟨_,⟨_,_,_,e,_⟩,_⟩:=x;exact aU e
 |rng lo hi=>obtain⟨_,_,_,e⟩:=x;exact aU e
 |frz k u=>obtain⟨e,_⟩:=x;exact aU e
 |tbl l=>exact aU (show h.get? a=some _ from x)
 |met f y=>exact aU (show h.get? a=some _ from x)
 |ext φ=>obtain⟨_,⟨_,e⟩,_⟩:=x;exact aU e
theorem Paired.mapP{α β:Type}{F G:α->β->Prop}{e:List α}{g:List β}(h:Paired F e g)(f:∀a b,F a b->G a b):Paired G e g:=by
 induction h with
 |nil=>exact .nil
 |cons r _ i=>exact .cons (f _ _ r) i
theorem cq.stay(x:cq P w K H h a o)(k:∀b u,(b=a∨H b=some (.own a))->h.get? b=some u->h'.get? b=some u)
  (E:∀b,H b=some (.own a)->H' b=some (.own a)) (G:∀b m,H b=some (.tup m)->H' b=some (.tup m)):cq P w K H' h' a o:=by
 induction o with
 |lst m=>obtain⟨z,l,n,r,e⟩:=x;exact⟨z,l,n,r,k _ _ (.inl rfl) e⟩
 |tup m=>obtain⟨z,l,r,g,e,c⟩:=x;exact⟨z,l,r,g,k _ _ (.inl rfl) e,c⟩
 |dK s=>obtain⟨z,y,I,r,g,i,j,e,c⟩:=x;exact⟨z,y,I,r,g,i,j,k _ _ (.inl rfl) e,c⟩
 |dT s =>
  obtain⟨z,y,m,r,g,i,j,e,c⟩:=x;exact⟨z,y,m,Paired.mapP r fun p q z=>⟨z.1,rW.keeps G 8 z.2.2.1 z.2.1,z.2.2⟩,g,i,j,k _ _ (.inl rfl) e,c⟩
 |set S n=>obtain⟨g,i,j,t,e,c⟩:=x;exact⟨g,i,j,t,k _ _ (.inl rfl) e,c⟩
 |ins C M fs =>
  obtain⟨d,z,ne,e,A,⟨B,i,j,J,c⟩,r⟩:=x;exact⟨E _ d,z,ne,k _ _ (.inl rfl) e,A,⟨B,i,j,k _ _ (.inr d) J,c⟩,r⟩
 |own y=>obtain⟨g,e⟩:=x;exact⟨g,k _ _ (.inl rfl) e⟩
 |xd fs=>obtain⟨A,⟨B,i,j,e,c⟩,r⟩:=x;exact⟨A,⟨B,i,j,k _ _ (.inl rfl) e,c⟩,r⟩
 |rng lo hi=>obtain⟨t,u,v,e⟩:=x;exact⟨t,u,v,k _ _ (.inl rfl) e⟩
 |frz g u L=>obtain⟨e,q⟩:=x;exact⟨k _ _ (.inl rfl) e,L q⟩
 |tbl D =>
  have e:h.get? a=some { cls:=.none,data:=.fields D }:=x;show h'.get? a=some { cls:=.none,data:=.fields D };exact k a _ (.inl rfl) e
 |met f y =>
  have e:h.get? a=some (PySem.W.methodObj (.ref f) (.ref y)):=x;show h'.get? a=some (PySem.W.methodObj (.ref f) (.ref y));exact k a _ (.inl rfl) e
 |ext φ=>obtain⟨p,⟨o,e⟩,st⟩:=x;exact⟨st _ _ p fun o q=>k _ _ (.inl rfl) q,⟨o,k _ _ (.inl rfl) e⟩,st⟩
theorem mK.lt(x:mK P w K H h)(e:H a=some o):a<h.objs.size:=(x a o e).lt
theorem mK.fresh(x:mK P w K H h)(e:h.objs.size<=a):H a=none:=by
 cases q:H a with
 |none=>rfl
 |some u=>exact absurd (iP (x.lt q) e) (rF _)
theorem mK.kept(x:mK P w K H h)(k:∀b u,h.get? b=some u->h'.get? b=some u):mK P w K H h':=fun a o e =>
 (x a o e).stay (fun b u _ q=>k b u q) (fun _ q=>q) fun _ _ q=>q
theorem mK.laid(x:mK P w K H h)(k:∀b u,h.get? b=some u->h'.get? b=some u)(i:h.objs.size<=a)(new:cq P w K (upd H a o) h' a o):mK P w K (upd H a o) h':=fun b u e=>by
 have f:=x.fresh i;by_cases g:b=a
 ·subst g;rw[aa]at e;cases e;exact new
 ·rw[am g]at e;exact(x b u e).stay (fun c v _ q=>k c v q) (fun c q=>by rw[am (ae q f)];exact q) fun c j q=>by rw[am (ae q f)];exact q
end
def Rd(H:Hp)(a:Addr)(u:HO):Prop:=H a=some u∨∃o,H a=some (.frz o u)
theorem Rd.ok{P:bP}{w:World}{K:Za}{H:Hp}{h:Heap}{a:Addr}{u:HO}(r:Rd H a u)(x:mK P w K H h):cq P w K H h a u:=by
 rcases r with r|⟨o,r⟩
 ·exact x a u r
 ·obtain⟨_,q⟩:=x a _ r;exact q
def JN:Option HO->Prop
 |some (.lst _)=>True
 |some (.dK _)=>True
 |some (.dT _)=>True
 |some (.set _ _)=>True
 |some (.ins _ _ _)=>True
 |some (.ext _)=>True
 |_=>False
section
variable{P:bP}{w:World}{K:Za}{H:Hp}{h h':Heap}{x e:Addr}{o':HO}
theorem mK.write(ok:mK P w K H h)(i:JN (H x))(n:e=x∨H e=some (.own x))(k:∀b u,b≠e->h.get? b=some u->h'.get? b=some u)(m:∃u,h'.get? e=some u)
  (new:cq P w K (upd H x o') h' x o'):mK P w K (upd H x o') h':=fun b u q=>by
 have f:∀c y,H c=some (.own y)->c≠x:=fun c y r z=>by subst z;rw[r]at i;exact i
 have g:∀c j,H c=some (.tup j)->c≠x:=fun c j r z=>by subst z;rw[r]at i;exact i
 by_cases l:b=x
 ·subst l;rw[aa]at q;cases q;exact new
 ·rw[am l]at q;by_cases a:b=e
  ·have o:H b=some (.own x):=by
    rcases n with z|z
    ·exact absurd (a.trans z) l
    ·rw[a];exact z
   rw[q]at o;cases o;obtain⟨v,p⟩:=m;exact⟨v,by rw[a];exact p⟩
  ·refine(ok b u q).stay (fun c v hc r=>k c v ?_ r) (fun c r=>by rw[am (f c b r)];exact r) fun c j r=>by rw[am (g c j r)];exact r
   rcases hc with rfl|hc
   ·exact a
   ·rintro rfl;rcases n with z|z
    ·exact f c b hc z
    ·rw[hc]at z;cases z;exact l rfl
end
structure Un(fs ex:Ze)(H H':Hp)(h h':Heap):Prop where
 keep:∀b o,h.get? b=some o->H b=none->b∉fs->b∉ex->h'.get? b=some o
 slot:∀b o,h.get? b=some o->H b=none->b∈fs->b∉ex->∃sl,h'.get? b=some { o with slots:=sl }
 free:∀b o,h.get? b=some o->H b=none->b∉ex->H' b=none
 there:∀b o,h.get? b=some o->b∉ex->∃o',h'.get? b=some o'
 tups:∀b xs,H b=some (.tup xs)->H' b=some (.tup xs)
 frzs:∀b o u,H b=some (.frz o u)->H' b=some (.frz o u)
 tbls:∀b ps,H b=some (.tbl ps)->∃more,H' b=some (.tbl (ps++more))
section
variable{fs fs' ex ex':Ze}{H H1 H2:Hp}{h h1 h2 h':Heap}{a x e:Addr}{o:HO}
theorem Un.any(u:Un fs ex H H1 h h1){b:Addr}{f:Obj}(q:h.get? b=some f)(n:H b=none)(hx:b∉ex):∃i,h1.get? b=some { f with slots:=i }:=by
 by_cases g:b∈fs
 ·exact u.slot b f q n g hx
 ·exact⟨f.slots,u.keep b f q n g hx⟩
theorem Un.kept(k:∀b u,h.get? b=some u->h'.get? b=some u):Un fs ex H H h h' :=
 ⟨fun b f q _ _ _=>k b f q,fun b f q _ _ _=>⟨f.slots,k b f q⟩,fun _ _ _ n _=>n,fun b f q _=>⟨f,k b f q⟩,fun _ _ q=>q,fun _ _ _ q=>q,fun _ g q=>⟨#[],by rw[q];simp⟩⟩
theorem Un.refl:Un fs ex H H h h:=Un.kept fun _ _ q=>q
theorem Un.laid(k:∀b u,h.get? b=some u->h'.get? b=some u)(g:h.objs.size<=a)(f:H a=none):Un fs ex H (upd H a o) h h' where
 keep:=fun b u q _ _ _=>k b u q
 slot:=fun b u q _ _ _=>⟨u.slots,k b u q⟩
 free:=fun b u q n _=>by rw[am (cy (iP (aU q) g))];exact n
 there:=fun b u q _=>⟨u,k b u q⟩
 tups:=fun b i q=>by rw[am (ae q f)];exact q
 frzs:=fun b u i q=>by rw[am (ae q f)];exact q
 tbls:=fun b j q=>⟨#[],by rw[am (ae q f),q];simp⟩
theorem Un.write(g:JN (H x))(m:e=x∨H e=some (.own x))(k:∀b u,b≠e->h.get? b=some u->h'.get? b=some u)(i:∃u,h'.get? e=some u):Un fs ex H (upd H x o) h h':=by
 have hx:∀b,H b=none->b≠x:=fun b n z=>by subst z;rw[n]at g;exact g
 have l:∀b,H b=none->b≠e:=fun b n z=>by
  subst z;rcases m with r|r
  ·exact hx b n r
  ·rw[n]at r;cases r
 have j:∀b u,H b=some u->¬JN (some u)->b≠x:=fun b u q p z=>by subst z;rw[q]at g;exact p g
 refine⟨fun b u q n _ _=>k b u (l b n) q,fun b u q n _ _=>⟨u.slots,k b u (l b n) q⟩,fun b u q n _=>by rw[am (hx b n)];exact n,fun b u q _=>?_,
  fun b s q=>by rw[am (j b _ q fun z=>z)];exact q,fun b u s q=>by rw[am (j b _ q fun z=>z)];exact q,fun b t q=>⟨#[],by rw[am (j b _ q fun z=>z),q];simp⟩⟩
 by_cases f:b=e
 ·subst f;exact i
 ·exact⟨u,k b u f q⟩
end
def Kb(h:Heap)(H:Hp):List Addr:=(mY h.objs.size).filter fun a=>(H a).isSome
def yb(h:Heap)(H:Hp):Heap:=PySem.W.hideAll h (Kb h H)
theorem DR(h:Heap)(H:Hp):(yb h H).objs.size=h.objs.size:=PySem.W.hideAll_size _ _
theorem FX{h:Heap}{H:Hp}{b:Addr}{o:Obj}(e:h.get? b=some o)(n:H b=none):(yb h H).get? b=some o :=
 PySem.W.hideAll_get _ e fun a=>by
  have q:(H b).isSome=true:=(bJ.mp a).2;rw[n]at q;simp at q
theorem Hw{h:Heap}{H:Hp}{b:Addr}{o:Obj}(e:(yb h H).get? b=some o):h.get? b=some o/\H b=none:=by
 have a:h.get? b=some o:=PySem.W.of_hideAll (Kb h H) e;refine⟨a,?_⟩;cases q:H b with
 |none=>rfl
 |some x =>
  have f:b∈Kb h H:=bJ.mpr ⟨List.mem_range.mpr (aU a),by simp[q]⟩;have z:(yb h H).get? b=none:=PySem.W.hideAll_none (Kb h H) f;rw[z]at e;cases e
end L2
namespace L2
open PySem PySem.Spec PyProof.Rows
structure Mod(K:Za)(mg:Str->Option Value)(base:Heap):Prop where
 kin:K.In base
 glob:base.Ns cj mg
 blt:∃mb,base.Ns builtinsNs mb/\∀x:Str,x≠"__name__"->mb x=ji x
 nolimit:base.NoLimit
structure Cx where
 prog:bP
 w:World
 K:Za
 mg:Str->Option Value
 base:Heap
 A:Around
 N:List Str
 s₀:Shared
 H₀:Hp
 env:Env
 outer:List Env
 stack:List Env
 ex:List Addr
 fn:Str->Bool
 calm:Bool
 pn:List (Addr×Obj)
 xe:Value->Shared->Prop
def Eu(l:List Env):List Addr:=l.filterMap (·.frame)
abbrev Cx.fs(X:Cx):List Addr:=Eu X.outer
def Vis(sc:Scope)(x:Str):Prop:=sc.names.lookup x=some .local∨sc.names.lookup x=some .cell∨sc.names.lookup x=some .free
def Loc(sc:Scope)(x:Str):Prop:=sc.names.lookup x=some .local∨sc.names.lookup x=some .cell
def Look(env:Env)(h:Heap)(m:Str->Option Value)(x:Str)(u:Value):Prop :=
 (env.kindOf x=some .local/\m x=some u)∨((env.kindOf x=some .cell∨env.kindOf x=some .free)/\∃c,env.cells.lookup x=some c/\h.IsCell c (some u))
structure Cx.Ok(X:Cx):Prop where
 mod:Mod X.K X.mg X.base
 kind:X.env.scope.kind=.function
 glob:X.env.globals=cj
 blt:X.env.builtins=builtinsNs
 above:X.s₀.heap.objs.size<=X.env.locals
 inj:∀x y c,X.env.cells.lookup x=some c->X.env.cells.lookup y=some c->x=y
 has:∀x,(X.env.kindOf x=some .cell∨X.env.kindOf x=some .free)->∃c,X.env.cells.lookup x=some c
 cab:∀x c,X.fn x=true->X.env.cells.lookup x=some c->X.s₀.heap.objs.size<=c
 hd:X.calm=true->X.A.handled=none
 frames:X.A.frames=some X.stack
 stk:X.stack=X.outer∨(X.stack=X.env::X.outer/\X.env.frame=some X.env.locals)
 exf:∀b∈X.ex,b≠X.env.locals/\∀x c,X.env.cells.lookup x=some c->c≠b
 bs:∀b o,X.base.get? b=some o->X.s₀.heap.get? b=some o/\X.H₀ b=none
 bsz:X.base.objs.size<=X.s₀.heap.objs.size
 noex:∀b o,X.base.get? b=some o->b∉X.ex
 exfs:∀b∈X.ex,b∉X.fs
 funs:X.s₀.heap.FunFrames X.base X.outer
 frf:∀b∈X.fs,X.H₀ b=none
structure Inv(X:Cx)(J4:Zd)(σ:List (Option V))(H:Hp)(s:Shared):Prop where
 ok:X.Ok
 os:s.os=X.s₀.os
 bare:oN s.gens
 base:Un X.fs X.ex X.H₀ H X.s₀.heap s.heap
 loc:∃m,s.heap.Ns X.env.locals m/\∀(i:Nat) (x:Str) (v:V),X.N[i]?=some x->σ[i]?=some (some v)->Vis X.env.scope x->∃u,RelV v u/\Look X.env s.heap m x u
 cell:∀x c,X.env.cells.lookup x=some c->∃v,s.heap.IsCell c v
 free:H X.env.locals=none
 freeC:∀x c,X.env.cells.lookup x=some c->H c=none
 pin:∀p∈X.pn++J4,s.heap.get? p.1=some p.2/\H p.1=none/\p.1≠X.env.locals/\p.1∉X.fs/\∀v,p.2.data≠.cell v
 hok:mK X.prog X.w X.K H s.heap
 len:σ.length=X.N.length
section
variable{X:Cx}{J4:Zd}{σ:List (Option V)}{H H':Hp}{s:Shared}{h':Heap}
theorem Cx.Ok.nofr(ok:X.Ok){b:Addr}{o:Obj}(e:X.base.get? b=some o):b∉X.fs:=fun a=>by
 have:=(ok.funs.mem a).1;rw[e]at this;cases this
theorem Inv.bs(I:Inv X J4 σ H s):∀b o,X.base.get? b=some o->s.heap.get? b=some o/\H b=none:=fun b o e =>
 ⟨I.base.keep b o (I.ok.bs b o e).1 (I.ok.bs b o e).2 (I.ok.nofr e) (I.ok.noex b o e),I.base.free b o (I.ok.bs b o e).1 (I.ok.bs b o e).2 (I.ok.noex b o e)⟩
theorem Inv.bk(I:Inv X J4 σ H s):∀b o,X.base.get? b=some o->s.heap.get? b=some o:=fun b o e=>(I.bs b o e).1
theorem Inv.mod(I:Inv X J4 σ H s):Mod X.K X.mg X.base:=I.ok.mod
theorem Inv.kIn(I:Inv X J4 σ H s):X.K.In s.heap:=I.ok.mod.kin.keeps I.bk
theorem Inv.lt(I:Inv X J4 σ H s):X.env.locals<s.heap.objs.size:=let⟨_,a,_⟩:=I.loc;a.lt
theorem Inv.sz(I:Inv X J4 σ H s):X.s₀.heap.objs.size<=s.heap.objs.size:=bz I.ok.above (cV I.lt)
theorem Inv.nofs(I:Inv X J4 σ H s){a:Addr}(h:s.heap.objs.size<=a):a∉X.fs:=fun e=>by
 obtain⟨_,o,f,_⟩:=I.ok.funs.mem e;exact absurd (iP (aU f) (bz I.sz h)) (rF _)
theorem Inv.cne(I:Inv X J4 σ H s):∀x c,X.env.cells.lookup x=some c->c≠X.env.locals:=fun x c e z=>by
 obtain⟨v,o,g,h⟩:=I.cell x c e;obtain⟨m,⟨i,j,k,a,f,_⟩,_⟩:=I.loc;rw[z,a]at g;cases g;rw[f]at h;cases h
theorem Inv.funs(I:Inv X J4 σ H s):s.heap.FunFrames X.base X.outer:=by
 have all:∀(l:List Env),(∀b∈Eu l,b∈X.fs)->X.s₀.heap.FunFrames X.base l->s.heap.FunFrames X.base l:=by
  intro l
  induction l with
  |nil=>intro _ _;trivial
  |cons h r i =>
   intro g j;obtain⟨k,⟨L,o,hf,m,n,p⟩,q⟩:=j;have a:L∈X.fs:=g L (by unfold Eu;rw[List.filterMap_cons,hf];exact dS);obtain⟨t,e⟩:=I.base.slot L o n (I.ok.frf L a) a fun z=>I.ok.exfs L z a;exact⟨k,⟨L,_,hf,m,e,p⟩,i (fun b f=>g b (by unfold Eu;rw[List.filterMap_cons,hf];exact fX _ f)) q⟩
 exact all X.outer (fun _ f=>f) I.ok.funs
theorem Inv.stack(I:Inv X J4 σ H s):s.heap.FunFrames X.base X.stack:=by
 rcases I.ok.stk with e|⟨e,hf⟩
 ·rw[e];exact I.funs
 ·rw[e];obtain⟨m,a,_⟩:=I.loc;refine .cons (by rw[I.ok.kind];decide) hf a ?_ I.funs;exact Heap.get?_none_of_le (bz I.ok.bsz I.ok.above)
theorem Inv.stkSub(I:Inv X J4 σ H s):∀b∈Eu X.stack,b∈X.env.locals::X.fs:=fun b a=>by
 rcases I.ok.stk with e|⟨e,hf⟩
 ·rw[e]at a;exact fX _ a
 ·rw[e]at a;unfold Eu at a;rw[List.filterMap_cons,hf]at a;exact a
theorem Inv.stkFree(I:Inv X J4 σ H s):∀b∈Eu X.stack,H b=none:=fun b hb=>by
 rcases c8.mp (I.stkSub b hb)with e|hb
 ·rw[e];exact I.free
 ·obtain⟨_,o,a,_⟩:=I.ok.funs.mem hb;exact I.base.free b o a (I.ok.frf b hb) fun z=>I.ok.exfs b z hb
theorem Inv.step{g':Array GenState}{t':Nat}{d':Drawn}{ch:Ze}(I:Inv X J4 σ H s)
  (a:∀b∈ch,(b∈X.ex∨X.s₀.heap.objs.size<=b)/\b≠X.env.locals/\(∀x c,X.env.cells.lookup x=some c->c≠b)/\∀p∈X.pn++J4,p.1≠b)
  (f:∀b o,b≠X.env.locals->b∉X.fs->b∉ch->s.heap.get? b=some o->H b=none->h'.get? b=some o)
  (t:∀b o,b≠X.env.locals->b∈X.fs->b∉ch->s.heap.get? b=some o->H b=none->∃O,h'.get? b=some { o with slots:=O }) (free:∀b o,b∉ch->s.heap.get? b=some o->H b=none->H' b=none)
  (there:∀b o,b∉ch->s.heap.get? b=some o->∃C,h'.get? b=some C)
  (D:∀b y,H b=some (.tup y)->H' b=some (.tup y)) (E:∀b o u,H b=some (.frz o u)->H' b=some (.frz o u)) (G:∀b N,H b=some (.tbl N)->∃J,H' b=some (.tbl (N++J)))
  (ns:∀m,s.heap.Ns X.env.locals m->h'.Ns X.env.locals m) (Q:mK X.prog X.w X.K H' h') (hg:oN g') :
  Inv X J4 σ H' { s with heap:=h',gens:=g',drawn:=d',toks:=t' }:=by
 have L:∀b o,X.s₀.heap.get? b=some o->b≠X.env.locals:=fun b o e=>cy (iP (aU e) I.ok.above);have h:∀b o,X.s₀.heap.get? b=some o->b∉X.ex->b∉ch:=fun b o e hx A=>by
  rcases(a b A).1 with z|z
  ·exact hx z
  ·exact absurd (iP (aU e) z) (rF _)
 have cellK:∀x c,X.env.cells.lookup x=some c->∀v,s.heap.IsCell c v->h'.IsCell c v:=fun x c e v ⟨o,B,T⟩=>by
  have g:c∉ch:=fun z=>(a c z).2.2.1 x c e rfl;by_cases Y:c∈X.fs
  ·obtain⟨O,q⟩:=t c o (I.cne x c e) Y g B (I.freeC x c e);exact⟨_,q,T⟩
  ·exact⟨o,f c o (I.cne x c e) Y g B (I.freeC x c e),T⟩
 refine⟨I.ok,I.os,hg,⟨fun b o e n A hx=>?_,fun b o e n A hx=>?_,fun b o e n hx=>?_,fun b o e hx=>?_,fun b y e=>D b y (I.base.tups b y e),fun b o y e=>E b o y (I.base.frzs b o y e),fun b N e=>?_⟩,?_,fun x c e=>?_,?_,fun x c e=>?_,fun p hp=>?_,Q,I.len⟩
 ·exact f b o (L b o e) A (h b o e hx) (I.base.keep b o e n A hx) (I.base.free b o e n hx)
 ·obtain⟨O,j⟩:=I.base.slot b o e n A hx;obtain⟨U,M⟩:=t b _ (L b o e) A (h b o e hx) j (I.base.free b o e n hx);exact⟨U,M⟩
 ·obtain⟨C,j⟩:=I.base.there b o e hx;exact free b C (h b o e hx) j (I.base.free b o e n hx)
 ·obtain⟨C,j⟩:=I.base.there b o e hx;exact there b C (h b o e hx) j
 ·obtain⟨m1,j⟩:=I.base.tbls b N e;obtain⟨m2,M⟩:=G b _ j;exact⟨m1++m2,by rw[M,Array.append_assoc]⟩
 ·obtain⟨m,hn,hl⟩:=I.loc;refine⟨m,ns m hn,fun i x v j M e3=>?_⟩;obtain⟨u,r,l⟩:=hl i x v j M e3;refine⟨u,r,?_⟩;rcases l with l|⟨k,c,e,z⟩
  ·exact .inl l
  ·exact .inr ⟨k,c,e,cellK x c e _ z⟩
 ·obtain⟨v,z⟩:=I.cell x c e;exact⟨v,cellK x c e v z⟩
 ·obtain⟨m,⟨o,_,_,B,_⟩,_⟩:=I.loc;exact free _ o (fun z=>(a _ z).2.1 rfl) B I.free
 ·obtain⟨v,o,B,T⟩:=I.cell x c e;exact free c o (fun z=>(a c z).2.2.1 x c e rfl) B (I.freeC x c e)
 ·obtain⟨e,n,ne,nf,d⟩:=I.pin p hp;have g:p.1∉ch:=fun z=>(a p.1 z).2.2.2 p hp rfl;exact⟨f p.1 p.2 ne nf g e n,free p.1 p.2 g e n,ne,nf,d⟩
theorem Inv.un{t':Nat}(I:Inv X J4 σ H s)(u:Un X.fs [] H H' s.heap h')(f:mK X.prog X.w X.K H' h'):Inv X J4 σ H' { s with heap:=h',toks:=t' }:=by
 obtain⟨m,⟨o,q,t,j,r⟩,_⟩:=id I.loc;obtain⟨v,k⟩:=u.any j I.free (by simp);exact I.step (g':=s.gens) (d':=s.drawn) (ch:=[]) (fun _ z=>nomatch z) (fun b o _ g _ e n=>u.keep b o e n g (by simp)) (fun b o _ g _ e n=>u.slot b o e n g (by simp)) (fun b o _ e n=>u.free b o e n (by simp)) (fun b o _ e=>u.there b o e (by simp)) u.tups u.frzs u.tbls (fun x l=>by
  obtain⟨y,h,i,a,p⟩:=l;rw[j]at a;cases a;exact⟨_,h,i,k,p⟩) f I.bare
theorem Inv.call{g':Array GenState}{t':Nat}{d':Drawn}{ch:Ze}(I:Inv X J4 σ H s)(u:Un (Eu X.stack) ch H H' s.heap h')(h:mK X.prog X.w X.K H' h')(q:oN g')
  (f:∀b∈ch,(b∈X.ex∨X.s₀.heap.objs.size<=b)/\b≠X.env.locals/\(∀x c,X.env.cells.lookup x=some c->c≠b)/\∀p∈X.pn++J4,p.1≠b) :
  Inv X J4 σ H' { s with heap:=h',gens:=g',drawn:=d',toks:=t' }:=by
 obtain⟨m,⟨o,A,B,l,r⟩,_⟩:=id I.loc;obtain⟨C,i⟩:=u.any l I.free fun z=>(f _ z).2.1 rfl;exact I.step (ch:=ch) f (fun b o i t a e n=>u.keep b o e n (fun z=>(c8.mp (I.stkSub b z)).elim i t) a) (fun b o _ _ a e n=>u.any e n a) (fun b o a e n=>u.free b o e n a) (fun b o a e=>u.there b o e a) u.tups u.frzs u.tbls (fun D v=>by
  obtain⟨E,j,k,g,y⟩:=v;rw[l]at g;cases g;exact⟨_,j,k,i,y⟩) h q
theorem Inv.turned{t':Nat}{it:Addr}(I:Inv X J4 σ H s)(k:∀b o,b≠it->s.heap.get? b=some o->h'.get? b=some o)(h:H it=none)(g:it≠X.env.locals)
  (i:it∈X.ex∨X.s₀.heap.objs.size<=it) (j:∀x c,X.env.cells.lookup x=some c->c≠it) (l:∀p∈X.pn++J4,p.1≠it):Inv X J4 σ H { s with heap:=h',toks:=t' }:=by
 have f:∀b u,H b=some u->b≠it:=fun b u e z=>by rw[z,h]at e;cases e
 refine I.step (g':=s.gens) (d':=s.drawn) (ch:=[it]) (fun b t=>?_) (fun b o _ _ a e _=>k b o (fun z=>a (by simp[z])) e) (fun b o _ _ a e _=>⟨o.slots,k b o (fun z=>a (by simp[z])) e⟩) (fun _ _ _ _ n=>n)
  (fun b o a e=>⟨o,k b o (fun z=>a (by simp[z])) e⟩) (fun _ _ e=>e) (fun _ _ _ e=>e) (fun b D e=>⟨#[],by rw[e];simp⟩) (fun m y=>?_) (fun b u e=>?_) I.bare
 ·have e:b=it:=by simpa using t
  subst e;exact⟨i,g,j,l⟩
 ·obtain⟨o,A,B,C,r⟩:=y;exact⟨o,A,B,k _ o (hV g) C,r⟩
 ·refine(I.hok b u e).stay (fun c v a q=>k c v ?_ q) (fun _ q=>q) fun _ _ q=>q;rcases a with z|z
  ·rw[z];exact f b u e
  ·exact f c _ z
theorem Inv.tok(I:Inv X J4 σ H s)(t:Nat):Inv X J4 σ H { s with toks:=t }:=I.un (h':=s.heap) (t':=t) Un.refl I.hok
theorem Inv.kept{t':Nat}(I:Inv X J4 σ H s)(k:∀b u,s.heap.get? b=some u->h'.get? b=some u):Inv X J4 σ H { s with heap:=h',toks:=t' }:=I.un (Un.kept k) (I.hok.kept k)
theorem Inv.laid{a:Addr}{o:HO}{t':Nat}(I:Inv X J4 σ H s)(k:∀b u,s.heap.get? b=some u->h'.get? b=some u)(e:s.heap.objs.size<=a)(new:cq X.prog X.w X.K (upd H a o) h' a o):
  Inv X J4 σ (upd H a o) { s with heap:=h',toks:=t' }:=I.un (Un.laid k e (I.hok.fresh e)) (I.hok.laid k e new)
theorem Inv.write{x e:Addr}{o:HO}{t':Nat}(I:Inv X J4 σ H s)(f:JN (H x))(g:e=x∨H e=some (.own x))(k:∀b u,b≠e->s.heap.get? b=some u->h'.get? b=some u)(a:∃u,h'.get? e=some u)
  (new:cq X.prog X.w X.K (upd H x o) h' x o):Inv X J4 σ (upd H x o) { s with heap:=h',toks:=t' }:=I.un (Un.write f g k a) (I.hok.write f g k a new)
theorem Inv.weak{σ':List (Option V)}(I:Inv X J4 σ H s)(e:σ'.length=σ.length)(w:∀(i:Nat) v,σ'[i]?=some (some v)->σ[i]?=some (some v)):Inv X J4 σ' H s :=
 ⟨I.ok,I.os,I.bare,I.base,let⟨m,f,a⟩:=I.loc;⟨m,f,fun i x v g h j=>a i x v g (w i v h) j⟩,I.cell,I.free,I.freeC,I.pin,I.hok,e.trans I.len⟩
theorem Inv.pins_of{a:Zd}(I:Inv X J4 σ H s)(h:∀p∈a,s.heap.get? p.1=some p.2/\H p.1=none/\p.1≠X.env.locals/\p.1∉X.fs/\∀v,p.2.data≠.cell v):Inv X a σ H s :=
 ⟨I.ok,I.os,I.bare,I.base,I.loc,I.cell,I.free,I.freeC,fun p e=>(bx.mp e).elim (fun z=>I.pin p (bV _ z)) (h p),I.hok,I.len⟩
theorem zO{N:Zb}(e:N.Nodup){i j:Nat}{x:Str}(a:N[i]?=some x)(b:N[j]?=some x):i=j:=by
 obtain⟨h,f⟩:=bN.mp a;obtain⟨k,g⟩:=bN.mp b;exact(List.getElem_inj e).mp (f.trans g.symm)
theorem vR{M:Model}{A:Around}{E:Zc}{i:Nat}{x:Str}{v:V}{u:Value}{Q:Unit->Shared->Prop}(I:Inv X J4 σ H s)(hN:X.N.Nodup)(hi:X.N[i]?=some x)(hx:Loc X.env.scope x)(r:RelV v u)
  (h:∀s',Inv X J4 (σ.set i (some v)) H s'->(∃a,gy a s.heap s'.heap/\(a=X.env.locals∨X.env.cells.lookup x=some a))->Q () s') (hf:X.fn x=true∨X.env.scope.names.lookup x=some .local:=by first|exact .inl rfl|exact .inr rfl|assumption):wpAny M A (storeName X.env x u) Q E s:=by
 obtain⟨m,hn,hl⟩:=id I.loc;have G:(X.env.scope.kind==.class || (X.env.scope.kind==.module && X.env.locals != X.env.globals))=false:=by rw[I.ok.kind];rfl
 have hiσ:i<σ.length:=by rw[I.len];exact(bN.mp hi).1
 have cne:=I.cne;have tracked:∀{a:Addr}{h':Heap},(∃o,s.heap.get? a=some o/\H a=none)->gy a s.heap h'->mK X.prog X.w X.K H h':=fun{a h'} ha f b ob e=>by
  obtain⟨_,_,l⟩:=ha;refine(I.hok b ob e).stay (fun c U hc q=>(f.2 c ?_).trans q) (fun _ q=>q) fun _ _ q=>q;rintro rfl;rcases hc with rfl|hc
  ·rw[l]at e;cases e
  ·rw[l]at hc;cases hc
 rcases hx with hk|hk
 ·refine wpAny_storeName_local hk hn (fun h' al f=>?_) G;obtain⟨oL,_,_,an,_⟩:=id hn;refine h _ ⟨I.ok,I.os,I.bare,⟨fun b o e n B hx=>?_,fun b o e n B hx=>?_,I.base.free,fun b o e hx=>?_,I.base.tups,I.base.frzs,I.base.tbls⟩,⟨_,al,fun j y v' g t e3=>?_⟩,fun y c e=>?_,I.free,I.freeC,fun p hp=>?_,tracked ⟨oL,an,I.free⟩ f,by simpa using I.len⟩ ⟨_,f,.inl rfl⟩
  ·exact(f.2 b (cy (iP (aU e) I.ok.above))).trans (I.base.keep b o e n B hx)
  ·obtain⟨sl,g⟩:=I.base.slot b o e n B hx;exact⟨sl,(f.2 b (cy (iP (aU e) I.ok.above))).trans g⟩
  ·obtain⟨o',g⟩:=I.base.there b o e hx;exact⟨o',(f.2 b (cy (iP (aU e) I.ok.above))).trans g⟩
  ·by_cases C:j=i
   ·subst C;rw[hi]at g;cases g;rw[List.getElem?_set_self hiσ]at t;cases t;exact⟨u,r,.inl ⟨hk,by simp⟩⟩
   ·rw[List.getElem?_set_ne (hV C)]at t;obtain⟨u',r',q⟩:=hl j y v' g t e3;refine⟨u',r',?_⟩;rcases q with⟨k,e⟩|⟨k,c,e,z⟩
    ·refine .inl ⟨k,?_⟩;have:y≠x:=fun e=>C (zO hN g (e▸hi));simp[this,e]
    ·exact .inr ⟨k,c,e,z.sameBut f (cne y c e)⟩
  ·obtain⟨U,z⟩:=I.cell y c e;exact⟨U,z.sameBut f (cne y c e)⟩
  ·obtain⟨e,n,ne,nf,d⟩:=I.pin p hp;exact⟨(f.2 p.1 ne).trans e,n,ne,nf,d⟩
 ·have D:X.fn x=true:=by
   rcases hf with z|z
   ·exact z
   ·rw[z]at hk;cases hk
  obtain⟨c,hc⟩:=I.ok.has x (.inl hk);obtain⟨U,z⟩:=I.cell x c hc;refine wpAny_storeName_cell I.ok.kind hk hc z (fun h' J f=>?_);obtain⟨oc,L,O⟩:=id z;refine h { s with heap:=h' } ⟨I.ok,I.os,I.bare,⟨fun b o e n B hx=>?_,fun b o e n B hx=>?_,I.base.free,fun b o e hx=>?_,I.base.tups,I.base.frzs,I.base.tbls⟩,⟨m,hn.sameBut f (hV (cne x c hc)),fun j y v' g t e3=>?_⟩,fun y Y e=>?_,I.free,I.freeC,fun p hp=>?_,tracked ⟨oc,L,I.freeC x c hc⟩ f,by simpa using I.len⟩ ⟨c,f,.inr hc⟩
  ·exact(f.2 b (cy (iP (aU e) (I.ok.cab x c D hc)))).trans (I.base.keep b o e n B hx)
  ·obtain⟨sl,g⟩:=I.base.slot b o e n B hx;exact⟨sl,(f.2 b (cy (iP (aU e) (I.ok.cab x c D hc)))).trans g⟩
  ·obtain⟨o',g⟩:=I.base.there b o e hx;exact⟨o',(f.2 b (cy (iP (aU e) (I.ok.cab x c D hc)))).trans g⟩
  ·by_cases C:j=i
   ·subst C;rw[hi]at g;cases g;rw[List.getElem?_set_self hiσ]at t;cases t;exact⟨u,r,.inr ⟨.inl hk,c,hc,J⟩⟩
   ·rw[List.getElem?_set_ne (hV C)]at t;obtain⟨u',r',q⟩:=hl j y v' g t e3;refine⟨u',r',?_⟩;rcases q with q|⟨k,Y,e,z'⟩
    ·exact .inl q
    ·refine .inr ⟨k,Y,e,z'.sameBut f ?_⟩;rintro rfl;exact C (zO hN g (I.ok.inj _ _ _ e hc▸hi))
  ·by_cases T:Y=c
   ·subst T;exact⟨_,J⟩
   ·obtain⟨w2,z2⟩:=I.cell y Y e;exact⟨w2,z2.sameBut f T⟩
  ·obtain⟨e,n,ne,nf,d⟩:=I.pin p hp;refine⟨(f.2 p.1 ?_).trans e,n,ne,nf,d⟩;intro q;rw[q,L]at e;have q':oc=p.2:=fj e;exact d U (by rw[<-q'];exact O)
theorem zm{M:Model}{A:Around}{E:Zc}{i:Nat}{x:Str}{v:V}{u:Value}{Q:Unit->Shared->Prop}(I:Inv X J4 σ H s)(e:X.N.Nodup)(hi:X.N[i]?=some x)(hx:Loc X.env.scope x)(r:RelV v u)
  (h:∀a,Inv X J4 (σ.set i (some v)) H a->Q () a) (hf:X.fn x=true∨X.env.scope.names.lookup x=some .local:=by first|exact .inl rfl|exact .inr rfl|assumption):wpAny M A (storeName X.env x u) Q E s :=
 vR I e hi hx r (fun a f _=>h a f) hf
theorem Inv.call'{a:Shared}{h:Ze}(I:Inv X J4 σ H s)(i:a.os=s.os)(u:Un (Eu X.stack) h H H' s.heap a.heap)(f:mK X.prog X.w X.K H' a.heap)(j:oN a.gens)
  (g:∀b∈h,(b∈X.ex∨X.s₀.heap.objs.size<=b)/\b≠X.env.locals/\(∀x c,X.env.cells.lookup x=some c->c≠b)/\∀p∈X.pn++J4,p.1≠b):Inv X J4 σ H' a:=by
 obtain⟨h',k,l,t',m⟩:=a;have e:m=s.os:=i;subst e;exact I.call (g':=k) (t':=t') (d':=l) u f j g
end
abbrev XK:=Value->Option Addr->Hp->Prop
abbrev St:=List (Option V)
abbrev VK:=V->Hp->Prop
abbrev TE:=St->Hp->VK->Prop
abbrev TT:=St->Hp->(Bool->Hp->Prop)->Prop
abbrev TA:=St->Hp->(List V->Hp->Prop)->Prop
structure oE where
 nx:St->Hp->Prop
 rt:VK
 bk:St->Hp->Prop:=fun _ _=>False
 ct:St->Hp->Prop:=fun _ _=>False
abbrev bS(Q:VK):oE:={ nx:=fun _ H=>Q .non H,rt:=Q }
abbrev TS:=oE->St->Hp->Prop
def EP(X:Cx)(J4:Zd)(σ:St)(Q:VK)(u:Value)(s':Shared):Prop:=∃v H',Inv X J4 σ H' s'/\RelV v u/\Q v H'
def TP(X:Cx)(J4:Zd)(σ:St)(Q:Bool->Hp->Prop)(b:Bool)(s':Shared):Prop:=∃H',Inv X J4 σ H' s'/\Q b H'
def AP(X:Cx)(J4:Zd)(σ:St)(Q:List V->Hp->Prop)(us:Zf)(s':Shared):Prop:=∃vs H',Inv X J4 σ H' s'/\bC vs us/\Q vs H'
def SP(X:Cx)(J4:Zd)(D:oE)(f:Flow)(s':Shared):Prop :=
 match f with
 |.next=>∃σ' H',Inv X J4 σ' H' s'/\D.nx σ' H'
 |.brk=>∃σ' H',Inv X J4 σ' H' s'/\D.bk σ' H'
 |.cont=>∃σ' H',Inv X J4 σ' H' s'/\D.ct σ' H'
 |.ret u=>∃v σ' H',Inv X J4 σ' H' s'/\RelV v u/\D.rt v H'
def PE(X:Cx)(e:Expr)(t:TE):Prop :=
 ∀(J4:Zd) (s:Shared) (σ:St) (H:Hp) (Q:VK),Inv X J4 σ H s->t σ H Q->wpAny (model X.prog X.w) X.A (eval e X.env) (EP X J4 σ Q) X.xe s
def PT(X:Cx)(e:Expr)(t:TT):Prop :=
 ∀(J4:Zd) (s:Shared) (σ:St) (H:Hp) (Q:Bool->Hp->Prop),Inv X J4 σ H s->t σ H Q->wpAny (model X.prog X.w) X.A (isTrue e X.env (eval e X.env)) (TP X J4 σ Q) X.xe s
def PW(X:Cx)(e:Expr)(t:TT):Prop :=
 ∀(whole:Sem Value) (J4:Zd) (s:Shared) (σ:St) (H:Hp) (Q:Bool->Hp->Prop),Inv X J4 σ H s->t σ H Q->wpAny (model X.prog X.w) X.A (isTrue e X.env whole) (TP X J4 σ Q) X.xe s
theorem PW.pt{X:Cx}{e:Expr}{t:TT}(h:PW X e t):PT X e t:=h _
def PA(X:Cx)(es:List Expr)(t:TA):Prop :=
 ∀(pos:Pos) (J4:Zd) (s:Shared) (σ:St) (H:Hp) (Q:List V->Hp->Prop),Inv X J4 σ H s->t σ H Q->wpAny (model X.prog X.w) X.A (spliced (backTo pos (aQ es X.env))) (AP X J4 σ Q) X.xe s
def PS(X:Cx)(st:Stmt)(t:TS):Prop :=
 ∀(J4:Zd) (s:Shared) (σ:St) (H:Hp) (D:oE),Inv X J4 σ H s->t D σ H->wpAny (model X.prog X.w) X.A (exec st X.env) (SP X J4 D) X.xe s
def Ax(X:Cx)(st:List Stmt)(t:TS):Prop :=
 ∀(J4:Zd) (s:Shared) (σ:St) (H:Hp) (D:oE),Inv X J4 σ H s->t D σ H->wpAny (model X.prog X.w) X.A (execs st X.env) (SP X J4 D) X.xe s
theorem dk{α:Type}{t:Sem α}{Q e:α->Shared->Prop}{M:Model}{A:Around}{E:Zc}{s:Shared}(h:wpAny M A t Q E s)(f:∀a s,Q a s->e a s):wpAny M A t e E s:=oO h f fun _ _ x=>x
end L2
namespace L2
open PySem PySem.Spec PyProof.Rows
section
variable{X:Cx}
def nT(i:Nat):TE:=fun σ H Q=>∃v,σ[i]?=some (some v)/\Q v H
abbrev V0:TE:=nT 0
abbrev V1:TE:=nT 1
abbrev V2:TE:=nT 2
abbrev V3:TE:=nT 3
abbrev V4:TE:=nT 4
abbrev V5:TE:=nT 5
abbrev V6:TE:=nT 6
abbrev V7:TE:=nT 7
abbrev V8:TE:=nT 8
abbrev V9:TE:=nT 9
abbrev IZ:TE:=nT 10
abbrev JJ:TE:=nT 11
abbrev Ji:TE:=nT 12
def tC(v:V):TE:=fun _ H Q=>Q v H
theorem IH{i:Nat}{x:Str}{g:Pos}(o:X.N[i]?=some x)(p:Vis X.env.scope x)(j:(x==("__debug__":Str))=false:=by decide)(k:(x==("__classdict__":Str))=false:=by decide):PE X (.Name x g) (nT i):=by
 intro J4 s σ H Q I h;obtain⟨v,e,h⟩:=h;obtain⟨m,q,t⟩:=I.loc;obtain⟨u,r,l⟩:=t i x v o e p;have f:EP X J4 σ Q u s:=⟨v,H,I,r,h⟩;rcases l with⟨hk,y⟩|⟨hk,c,n,a⟩
 ·exact wpAny_Name (wpAny_loadName_local I.ok.kind hk q y f) j
 ·rcases hk with hk|hk
  ·exact wpAny_Name (wpAny_loadName_cell I.ok.kind hk n a f) j
  ·exact wpAny_Name (wpAny_loadName_free I.ok.kind hk n a f k) j
theorem ah{i j a}:PE X (.Constant (.int i) j a) (tC (.int i)):=fun _ _ _ H _ I h=>wpAny_Constant_int ⟨.int i,H,I.tok _,⟨_,rfl⟩,h⟩
theorem iZ{b j a}:PE X (.Constant (.bool b) j a) (tC (.bl b)):=fun _ _ _ H _ I h=>Constant_bool ⟨.bl b,H,I,rfl,h⟩
theorem xN{j a}:PE X (.Constant .none j a) (tC .non):=fun _ _ _ H _ I h=>Constant_none ⟨.non,H,I,rfl,h⟩
theorem bM{x j a}:PE X (.Constant (.str x) j a) (tC (.str x)):=fun _ _ _ H _ I h=>Calls.Constant_str ⟨.str x,H,I.tok _,⟨_,rfl⟩,h⟩
def Gl(X:Cx)(x:Str):Prop:=X.env.kindOf x=some .globalImplicit
theorem xT{E:Zc}{e:Zd}{s:Shared}{σ:St}{H:Hp}{x:Str}{u:Value}{a:Pos}{Q:Zc}(I:Inv X e σ H s)(f:Gl X x)(g:X.mg x=some u)(h:Q u s)
  (i:(x==("__debug__":Str))=false:=by decide):wpAny (model X.prog X.w) X.A (eval (.Name x a) X.env) Q E s :=
 Calls.Name_function_global I.ok.kind f (Calls.loadGlobal_global (by rw[I.ok.glob];exact I.mod.glob.keeps I.bk) g h) i
theorem lY{E:Zc}{e:Zd}{s:Shared}{σ:St}{H:Hp}{x:Str}{u:Value}{a:Pos}{Q:Zc}(I:Inv X e σ H s)(f:Gl X x)(g:X.mg x=none)(i:ji x=some u)(h:Q u s)
  (j:x≠"__name__":=by decide) (k:(x==("__debug__":Str))=false:=by decide):wpAny (model X.prog X.w) X.A (eval (.Name x a) X.env) Q E s:=by
 obtain⟨n,l,m⟩:=I.mod.blt;exact Calls.Name_function_global I.ok.kind f (Calls.loadGlobal_builtin (by rw[I.ok.glob];exact I.mod.glob.keeps I.bk) g (by rw[I.ok.blt];exact l.keeps I.bk) ((m x j).trans i) h) k
theorem Hr{x:Str}{v:V}{u:Value}{a:Pos}(e:Gl X x)(f:X.mg x=some u)(r:RelV v u)(g:(x==("__debug__":Str))=false:=by decide):PE X (.Name x a) (tC v) :=
 fun _ _ _ H _ I h=>xT I e f ⟨v,H,I,r,h⟩ g
theorem pK{x:Str}{v:V}{u:Value}{a:Pos}(e:Gl X x)(f:X.mg x=none)(g:ji x=some u)(r:RelV v u)(i:x≠"__name__":=by decide)(j:(x==("__debug__":Str))=false:=by decide):PE X (.Name x a) (tC v) :=
 fun _ _ _ H _ I h=>lY I e f g ⟨v,H,I,r,h⟩ i j
variable{a b:Expr}{ta tb:TE}{pos:Pos}
def PC(X:Cx)(op:CmpOp)(a b:Expr)(t:TE):Prop :=
 ∀(J4:Zd) (s:Shared) (σ:St) (H:Hp) (Q:VK),Inv X J4 σ H s->t σ H Q ->
  wpAny (model X.prog X.w) X.A (eval a X.env) (fun v s₁=>wpAny (model X.prog X.w) X.A (eval b X.env) (fun u s₂=>wpAny (model X.prog X.w) X.A (eZ op v u) (EP X J4 σ Q) X.xe s₂) X.xe s₁) X.xe s
theorem zP(b:Expr){e:CmpOp}(h:e≠.In)(f:e≠.NotIn):kQ e b=false:=by
 have g:(e==CmpOp.In)=false:=by cases e<;>first|rfl|exact absurd rfl h
 have i:(e==CmpOp.NotIn)=false:=by cases e<;>first|rfl|exact absurd rfl f
 cases b<;>simp[kQ,g,i]
def GU(ta:TE):TE:=fun σ H Q=>ta σ H fun x H1=>Q (.bl (decide (x=.non))) H1
def HY(ta:TE):TE:=fun σ H Q=>ta σ H fun x H1=>Q (.bl (!decide (x=.non))) H1
theorem RelV.none_iff{x:V}{v:Value}(r:RelV x v):(v==Value.none)=decide (x=.non):=by
 cases x with
 |non=>cases r;rfl
 |bl _=>cases r;rfl
 |int _=>obtain⟨t,rfl⟩:=r;rfl
 |str _=>obtain⟨t,rfl⟩:=r;rfl
 |byt _=>obtain⟨t,rfl⟩:=r;rfl
 |flt _=>obtain⟨t,rfl⟩:=r;rfl
 |ref _=>cases r;rfl
 |ty _=>cases r;rfl
theorem A_{j e}(g:PE X a ta):PC X .Is a (.Constant .none j e) (GU ta):=by
 intro i s σ H Q I h;refine dk (g i s σ H _ I h) fun v o f=>?_;obtain⟨x,k,l,m,n⟩:=f;exact Constant_none (is_none_gen ⟨.bl _,k,l,by rw[m.none_iff];rfl,n⟩)
theorem Hu{j e}(g:PE X a ta):PC X .IsNot a (.Constant .none j e) (HY ta):=by
 intro i s σ H Q I h;refine dk (g i s σ H _ I h) fun v o f=>?_;obtain⟨x,k,l,m,n⟩:=f;exact Constant_none (isnot_none_gen ⟨.bl _,k,l,by rw[m.none_iff];rfl,n⟩)
def tB(t:TE):TT:=fun σ H Q=>t σ H fun x H1=>∃c,x=.bl c/\Q c H1
theorem FH{e:CmpOp}{t:TE}(h:PC X e a b t)(f:kQ e b=false:=by first|exact zP _ (by decide) (by decide)|rfl):PE X (.Compare a [e] [b] pos) t:=fun g s σ H Q I i=>wpAny_Compare1 (h g s σ H Q I i) f
theorem gG{e:CmpOp}{t:TE}(h:PC X e a b t)(f:kQ e b=false:=by first|exact zP _ (by decide) (by decide)|rfl):PT X (.Compare a [e] [b] pos) (tB t):=by
 intro i s σ H Q I j;refine wpAny_isTrue_Compare1 (dk (h i s σ H _ I j) fun v p f=>dk f fun u r k=>dk k fun c y g=>?_) f;obtain⟨x,l,m,n,o⟩:=g;obtain⟨d,rfl,q⟩:=o;cases n;exact rH ⟨l,m,q⟩
theorem dw{e:Expr}{t:TE}(h:PE X e t)(g:∀whole,isTrue e X.env whole=(do let v <- whole;rE e.pos;kP [v] (truthy v)):=by intro _;rfl):PT X e (tB t):=by
 intro i s σ H Q I j;refine isTrue_plain (dk (h i s σ H _ I j) fun v o f=>?_) (g _);obtain⟨x,k,l,m,n⟩:=f;obtain⟨d,rfl,q⟩:=n;cases m;exact rH ⟨k,l,q⟩
variable{tA tB':TT}{rest:List Expr}
def su(t u:TT):TT:=fun σ H Q=>t σ H fun c H1=>if c=true then u σ H1 Q else Q false H1
def Dd(t u:TT):TT:=fun σ H Q=>t σ H fun c H1=>if c=true then Q true H1 else u σ H1 Q
def oQ(t:TT):TT:=fun σ H Q=>t σ H fun c H1=>Q (!c) H1
theorem jm(f:PT X a tA):PW X (.BoolOp .And [a] pos) tA:=by
 intro i g s σ H Q I h;refine isTrue_and (dk (f g s σ H Q I h) fun c j e=>?_);cases c with
 |true=>exact isTrue_and_nil e
 |false=>exact e
theorem jC(f:PT X a tA):PW X (.BoolOp .Or [a] pos) tA:=by
 intro i g s σ H Q I h;refine isTrue_or (dk (f g s σ H Q I h) fun c j e=>?_);cases c with
 |false=>exact isTrue_or_nil e
 |true=>exact e
theorem jD(k:PT X a tA)(l:PW X (.BoolOp .And (b::rest) pos) tB'):PW X (.BoolOp .And (a::b::rest) pos) (su tA tB'):=by
 intro m f s σ H Q I h;refine isTrue_and (dk (k f s σ H _ I h) fun c n e=>?_);obtain⟨g,i,j⟩:=e;cases c with
 |true=>exact l m f n σ g Q i j
 |false=>exact⟨g,i,j⟩
theorem kT(k:PT X a tA)(l:PW X (.BoolOp .Or (b::rest) pos) tB'):PW X (.BoolOp .Or (a::b::rest) pos) (Dd tA tB'):=by
 intro m f s σ H Q I h;refine isTrue_or (dk (k f s σ H _ I h) fun c n e=>?_);obtain⟨g,i,j⟩:=e;cases c with
 |true=>exact⟨g,i,j⟩
 |false=>exact l m f n σ g Q i j
theorem gF(e:PT X a tA):PT X (.UnaryOp .Not a pos) (oQ tA):=by
 intro f s σ H Q I h;exact isTrue_not (e f s σ H (fun c g=>Q (!c) g) I h)
def o5(ta tb:TE):TE:=fun σ H Q=>ta σ H fun x H1=>∃c,x=.bl c/\if c=true then tb σ H1 Q else Q (.bl false) H1
def HX(ta:TE):TE:=fun σ H Q=>ta σ H fun x H1=>∃c,x=.bl c/\Q (.bl (!c)) H1
theorem qT{e}{t:TE}(h:PE X a t):PE X (.BoolOp e [a] pos) t:=fun f s σ H Q I g=>BoolOp_one (h f s σ H Q I g)
theorem lU(k:PE X a ta)(l:PE X (.BoolOp .And (b::rest) pos) tb):PE X (.BoolOp .And (a::b::rest) pos) (o5 ta tb):=by
 intro g s σ H Q I h;refine BoolOp_and (dk (k g s σ H _ I h) fun v m f=>?_);obtain⟨x,i,j,n,e⟩:=f;obtain⟨c,rfl,e⟩:=e;cases n;refine rH ?_;cases c with
 |true=>exact l g m σ i Q j e
 |false=>exact⟨.bl false,i,j,rfl,e⟩
theorem II(g:PE X a ta):PE X (.UnaryOp .Not a pos) (HX ta):=by
 intro i s σ H Q I h;refine UnaryOp_ (dk (g i s σ H _ I h) fun v m e=>?_);obtain⟨x,j,k,l,f⟩:=e;obtain⟨c,rfl,f⟩:=f;cases l;exact not_of (rH ⟨.bl (!c),j,k,rfl,f⟩)
def tIf(t:TT)(ta tb:TE):TE:=fun σ H Q=>t σ H fun c H1=>if c=true then ta σ H1 Q else tb σ H1 Q
theorem FG{c:Expr}(l:PT X c tA)(m:PE X a ta)(n:PE X b tb):PE X (.IfExp c a b pos) (tIf tA ta tb):=by
 intro e s σ H Q I h;refine wpAny_IfExp (dk (l e s σ H _ I h) fun d g f=>?_);obtain⟨i,j,k⟩:=f;cases d with
 |true=>exact m e g σ i Q j k
 |false=>exact n e g σ i Q j k
end
end L2
namespace L2
open PySem PySem.Spec PyProof.Rows
def au(K:Za)(H:Hp)(a:Addr)(xs:List V):Prop :=
 Rd H a (.lst xs) ∨
  ∃(o:Obj) (its:Array Value) (n:Nat),K.lookup a=some o/\o.cls=.type "list"/\o.dict=none/\o.data=.seq its n/\its.size<=aj/\bC xs its.toList
def br(K:Za)(H:Hp)(a:Addr)(xs:List V):Prop :=
 Rd H a (.tup xs) ∨
  ∃(o:Obj) (its:Array Value) (n:Nat),K.lookup a=some o/\o.cls=.type "tuple"/\o.data=.seq its n/\its.size<=aj/\bC xs its.toList
def absV:Value->Option V
 |.none=>some .non
 |.bool b=>some (.bl b)
 |.int i _=>some (.int i)
 |.str x _=>some (.str x)
 |.bytes b _=>some (.byt b)
 |.float b _=>some (.flt b)
 |.ref a=>some (.ref a)
 |.type n=>some (.ty n)
 |_=>none
theorem RelV.abs{x:V}{u:Value}(r:RelV x u):absV u=some x:=by
 cases x with
 |non=>cases r;rfl
 |bl _=>cases r;rfl
 |int _=>obtain⟨t,rfl⟩:=r;rfl
 |str _=>obtain⟨t,rfl⟩:=r;rfl
 |byt _=>obtain⟨t,rfl⟩:=r;rfl
 |flt _=>obtain⟨t,rfl⟩:=r;rfl
 |ref _=>cases r;rfl
 |ty _=>cases r;rfl
theorem RelV.inj{x y:V}{u:Value}(r:RelV x u)(q:RelV y u):x=y:=fj (r.abs.symm.trans q.abs)
theorem bC.inj{e a:List V}{f:Zf}(h:bC e f)(g:bC a f):e=a:=by
 induction h generalizing a with
 |nil=>cases g;rfl
 |cons r _ i =>
  cases g with
  |cons j k=>rw[r.inj j,i k]
section
variable{X:Cx}{J4:Zd}{σ:St}{H:Hp}{s:Shared}{a:Addr}{xs ys:List V}
theorem au.of{K:Za}(h:H a=some (.lst xs)):au K H a xs:=.inl (.inl h)
theorem br.of{K:Za}(h:H a=some (.tup xs)):br K H a xs:=.inl (.inl h)
theorem Inv.list(I:Inv X J4 σ H s)(h:au X.K H a xs):∃f:List Value,bC xs f/\PlainL s.heap a f.toArray/\xs.length<=aj:=by
 rcases h with h|⟨o,f,n,g,i,j,k,l,r⟩
 ·obtain⟨z,f,n,r,e⟩:=h.ok I.hok;exact⟨f,r,⟨_,n,e,rfl,rfl,rfl⟩,z⟩
 ·refine⟨f.toList,r,⟨o,n,I.kIn a o g,i,j,by simpa using k⟩,?_⟩;have e:=r.length;simp only[k9]at e;omega
theorem Inv.tuple(I:Inv X J4 σ H s)(h:br X.K H a xs):∃f:List Value,bC xs f/\IsTup s.heap a f.toArray/\xs.length<=aj:=by
 rcases h with h|⟨o,f,n,g,i,j,k,r⟩
 ·obtain⟨z,f,r,p⟩:=h.ok I.hok;exact⟨f,r,p,z⟩
 ·refine⟨f.toList,r,⟨o,I.kIn a o g,i,n,by simpa using j⟩,?_⟩;have e:=r.length;simp only[k9]at e;omega
theorem Inv.list_inj(I:Inv X J4 σ H s)(h:au X.K H a xs)(k:au X.K H a ys):xs=ys:=by
 obtain⟨g,r,⟨o,n,e,_,_,d⟩,_⟩:=I.list h;obtain⟨f,l,⟨p,q,i,_,_,j⟩,_⟩:=I.list k;rw[e]at i;cases i;rw[d]at j;injection j with m _;have:g=f:=by simpa using congrArg Array.toList m
 subst this;exact r.inj l
theorem Inv.tuple_inj(I:Inv X J4 σ H s)(h:br X.K H a xs)(k:br X.K H a ys):xs=ys:=by
 obtain⟨g,r,⟨o,e,_,n,d⟩,_⟩:=I.tuple h;obtain⟨f,l,⟨p,i,_,q,j⟩,_⟩:=I.tuple k;rw[e]at i;cases i;rw[d]at j;injection j with m _;have:g=f:=by simpa using congrArg Array.toList m
 subst this;exact r.inj l
end
abbrev Cx.wish(X:Cx)(E:Zc):Cx:={ X with xe:=E }
abbrev Cx.nox(X:Cx):Cx:=X.wish fun _ _=>False
theorem Cx.Ok.wish{X:Cx}(ok:X.Ok)(E:Zc):(X.wish E).Ok :=
 ⟨ok.mod,ok.kind,ok.glob,ok.blt,ok.above,ok.inj,ok.has,ok.cab,ok.hd,ok.frames,ok.stk,ok.exf,ok.bs,ok.bsz,ok.noex,ok.exfs,ok.funs,ok.frf⟩
theorem Cx.Ok.unwish{X:Cx}{E:Zc}(ok:(X.wish E).Ok):X.Ok :=
 ⟨ok.mod,ok.kind,ok.glob,ok.blt,ok.above,ok.inj,ok.has,ok.cab,ok.hd,ok.frames,ok.stk,ok.exf,ok.bs,ok.bsz,ok.noex,ok.exfs,ok.funs,ok.frf⟩
section
variable{X:Cx}{J4:Zd}{σ:St}{H:Hp}{s:Shared}{E:Zc}
theorem Inv.wish(I:Inv X J4 σ H s)(E:Zc):Inv (X.wish E) J4 σ H s:=⟨I.ok.wish E,I.os,I.bare,I.base,I.loc,I.cell,I.free,I.freeC,I.pin,I.hok,I.len⟩
theorem Inv.unwish(I:Inv (X.wish E) J4 σ H s):Inv X J4 σ H s:=⟨I.ok.unwish,I.os,I.bare,I.base,I.loc,I.cell,I.free,I.freeC,I.pin,I.hok,I.len⟩
theorem SP.unwish{D:oE}{f:Flow}{e:Shared}(h:SP (X.wish E) J4 D f e):SP X J4 D f e:=by
 cases f with
 |next=>obtain⟨σ',a,I,q⟩:=h;exact⟨σ',a,I.unwish,q⟩
 |brk=>obtain⟨σ',a,I,q⟩:=h;exact⟨σ',a,I.unwish,q⟩
 |cont=>obtain⟨σ',a,I,q⟩:=h;exact⟨σ',a,I.unwish,q⟩
 |ret u=>obtain⟨v,σ',a,I,r,q⟩:=h;exact⟨v,σ',a,I.unwish,r,q⟩
theorem Ax.nox{st:List Stmt}{t:TS}(h:Ax X.nox st t):Ax X st t:=fun J4 s σ H D I a =>
 oO (h J4 s σ H D (I.wish _) a) (fun _ _ q=>q.unwish) fun _ _ z=>jL z
end
section
variable{X:Cx}{st:Stmt}{rest:List Stmt}{t u:TS}{e:Expr}{te:TE}{pos:Pos}
def bQ:TS:=fun D σ H=>D.nx σ H
def aw(t u:TS):TS:=fun D σ H=>t { D with nx:=u D } σ H
theorem aR:Ax X [] bQ:=fun _ _ σ H _ I h=>BW ⟨σ,H,I,h⟩
theorem ac(g:PS X st t)(i:Ax X rest u):Ax X (st::rest) (aw t u):=by
 intro a s σ H D I h;refine wpAny_execs_cons (dk (g a s σ H { D with nx:=u D } I h) fun f j q=>?_);cases f with
 |next =>
  obtain⟨σ',k,l,q⟩:=q;exact i a j σ' k D l q
 |ret v=>exact q
 |brk=>exact q
 |cont=>exact q
theorem af(a:PS X st t):Ax X [st] t:=by
 intro g s σ H D I h;refine wpAny_execs_cons (dk (a g s σ H D I h) fun f i q=>?_);cases f with
 |next=>exact BW q
 |ret v=>exact q
 |brk=>exact q
 |cont=>exact q
theorem Inv.quiet{a:Zd}{σ:St}{H:Hp}{s:Shared}(I:Inv X a σ H s):interactive X.env=false:=by simp[interactive,I.ok.kind]
def c_(te:TE):TS:=fun D σ H=>te σ H fun _ H1=>D.nx σ H1
theorem bH(a:PE X e te)(f:tD e none pos.line X.env=pure false:=by rfl):PS X (.Expr e pos) (c_ te):=by
 intro g s σ H D I h;exact wpAny_Expr_any (dk (a g s σ H _ I h) fun v l ⟨x,i,j,m,k⟩=>⟨σ,i,j,k⟩) I.quiet f
def bt(te:TE):TS:=fun D σ H=>te σ H D.rt
theorem ax(a:PE X e te):PS X (.Return (some e) pos) (bt te):=by
 intro f s σ H D I h;exact wpAny_Return_some (dk (a f s σ H _ I h) fun v l ⟨x,g,i,j,k⟩=>⟨x,σ,g,i,j,k⟩)
def df(c:TT)(t u:TS):TS:=fun D σ H=>c σ H fun b H1=>if b=true then t D σ H1 else u D σ H1
theorem bT{c:Expr}{a b:List Stmt}{i:TT}(n:PT X c i)(o:Ax X a t)(p:Ax X b u):PS X (.If c a b pos) (df i t u):=by
 intro f s σ H D I h;refine wpAny_If (dk (n f s σ H _ I h) fun d j g=>?_);obtain⟨k,l,m⟩:=g;cases d with
 |true=>exact o f j σ k D l m
 |false=>exact p f j σ k D l m
def nU:TS:=fun _ _ _=>False
theorem jS:PS X st nU:=fun _ _ _ _ _ _ h=>h.elim
end
abbrev TG:=V->St->Hp->(St->Hp->Prop)->Prop
abbrev CM:=List V->St->Hp->(St->Hp->Prop)->Prop
def PG(X:Cx)(target:Expr)(t:TG):Prop :=
 ∀(J4:Zd) (s:Shared) (σ:St) (H:Hp) (v:V) (u:Value) (Q:St->Hp->Prop),Inv X J4 σ H s->RelV v u->t v σ H Q ->
  wpAny (model X.prog X.w) X.A (assign target X.env u) (fun _ s'=>∃σ' H',Inv X J4 σ' H' s'/\Q σ' H') X.xe s
def JL(X:Cx)(ts:List Expr)(t:CM):Prop :=
 ∀(J4:Zd) (s:Shared) (σ:St) (H:Hp) (vs:List V) (us:Zf) (Q:St->Hp->Prop),Inv X J4 σ H s->bC vs us->t vs σ H Q ->
  wpAny (model X.prog X.w) X.A (assignInOrder ((rD ts X.env).map (·.2)) us) (fun _ s'=>∃σ' H',Inv X J4 σ' H' s'/\Q σ' H') X.xe s
abbrev Ja:=V->V->V->Hp->(Hp->Prop)->Prop
def JK(X:Cx)(t:Ja):Prop :=
 ∀(J4:Zd) (s:Shared) (σ:St) (H:Hp) (o i v:V) (ov iv u:Value) (Q:Hp->Prop),Inv X J4 σ H s->RelV o ov->RelV i iv->RelV v u->t o i v H Q ->
  wpAny (model X.prog X.w) X.A (setItem ov iv u) (fun _ s'=>∃H',Inv X J4 σ H' s'/\Q H') X.xe s
section
variable{X:Cx}{pos:Pos}
def dX(i:Nat):TG:=fun v σ H Q=>Q (σ.set i (some v)) H
abbrev U0:TG:=dX 0
abbrev U1:TG:=dX 1
abbrev U2:TG:=dX 2
abbrev U3:TG:=dX 3
abbrev U4:TG:=dX 4
abbrev U5:TG:=dX 5
abbrev U6:TG:=dX 6
abbrev U7:TG:=dX 7
abbrev U8:TG:=dX 8
abbrev U9:TG:=dX 9
abbrev U10:TG:=dX 10
abbrev U11:TG:=dX 11
abbrev U12:TG:=dX 12
theorem Ch{i:Nat}{x:Str}(a:X.N.Nodup)(hi:X.N[i]?=some x)(hx:Loc X.env.scope x)(hf:X.fn x=true∨X.env.scope.names.lookup x=some .local:=by first|exact .inl rfl|exact .inr rfl|assumption):PG X (.Name x pos) (dX i):=by
 intro f s σ H v u Q I r h;exact wpAny_assign_Name (zm I a hi hx r (fun g e=>⟨_,H,e,h⟩) hf)
def ir:CM:=fun vs σ H Q=>vs=[]/\Q σ H
def bA(t:TG)(u:CM):CM:=fun vs σ H Q=>∃v r,vs=v::r/\t v σ H fun σ' H'=>u r σ' H' Q
theorem cZ:JL X [] ir:=by
 intro a s σ H f g Q I r h;obtain⟨e,h⟩:=h;subst e;cases r;exact assignInOrder_nil ⟨σ,H,I,h⟩
theorem aE{e:Expr}{a:List Expr}{t:TG}{u:CM}(i:PG X e t)(j:JL X a u)
  (k:(rD (e::a) X.env).map (·.2)=assign e X.env::(rD a X.env).map (·.2):=by rfl):JL X (e::a) (bA t u):=by
 intro g s σ H x y Q I r h;obtain⟨v,z,l,h⟩:=h;subst l;cases r with
 |cons r m =>
  rw[k];refine assignInOrder_cons (dk (i g s σ H _ _ _ I r h) fun _ n f=>?_);obtain⟨σ1,o,p,q⟩:=f;exact j g n σ1 o _ _ Q p m q
def i7(K:Za)(n:Nat)(t:CM):TG:=fun v σ H Q=>∃a xs,v=.ref a/\br K H a xs/\xs.length=n/\t xs σ H Q
theorem eL{f:List Expr}{k:Nat}{t:CM}{n:Nat}(m:X.calm=true)(h:JL X f t)
  (p:(rD f X.env).length=n:=by rfl) (g:(rD f X.env).findIdx? (·.1)=none:=by rfl):PG X (.Tuple f k pos) (i7 X.K n t):=by
 intro j s σ H v u Q I r i;obtain⟨a,q,x,y,z,i⟩:=i;subst x;cases r;obtain⟨A,l,B,E⟩:=I.tuple y;refine assign_Tuple_tuple (I.ok.hd m) B (by simp[p,<-z,l.length]) g fun C hx=>?_;have D:Inv X j σ H { s with heap:=C }:=I.kept (t':=s.toks) fun b o e=>hx b o (cy (aU e)) e;exact h j _ σ H q _ Q D (by simpa using l) i
def DU(to ti:TE)(t:Ja):TG:=fun v σ H Q=>to σ H fun o H1=>ti σ H1 fun i H2=>t o i v H2 fun H3=>Q σ H3
theorem xM{o i:Expr}{to j:TE}{t:Ja}(k:PE X o to)(hi:PE X i j)(l:JK X t)
  (m:∀v,assign (.Subscript o i pos) X.env v=(do
   let e <- kP [v] (eval o X.env)
   let f <- kP [v,e] (eval i X.env)
   rE pos
   kP [v,e,f] (setItem e f v)
   release [v,e,f] []):=by intro _;rfl):PG X (.Subscript o i pos) (DU to j t):=by
 intro g s σ H v u Q I r h;rw[m];refine ai (kR (dk (k g s σ H _ I h) fun e n a=>?_));obtain⟨x,p,q,z,A⟩:=a;refine ai (kR (dk (hi g n σ p _ q A) fun f B a=>?_));obtain⟨y,C,D,E,G⟩:=a;refine ai (BV (ai (kR (dk (l g B σ C x y v e f u _ D z E r G) fun _ N a=>?_))));obtain⟨J,L,M⟩:=a;exact wpAny_release ⟨σ,J,L,M⟩
def bf(te:TE)(g:TG):TS:=fun D σ H=>te σ H fun x H1=>g x σ H1 D.nx
theorem lK{tg e:Expr}{f:TE}{g:TG}(j:PE X e f)(k:PG X tg g)(l:swapsWithSole [tg] e pos.line X.env=pure false:=by rfl)(m:swappedStores [tg] e X.env=pure none:=by rfl)
  (n:(rD [tg] X.env).map (·.2)=[assign tg X.env]:=by rfl):PS X (.Assign [tg] e pos) (bf f g):=by
 intro i s σ H D I h;refine wpAny_Assign_stores (dk (j i s σ H _ I h) fun v o a=>?_) l m;obtain⟨x,p,r,t,u⟩:=a;rw[n];exact dk (k i o σ p x v _ r t u) fun _ y q=>q
theorem FA{i:Nat}{x:Str}{e:Expr}{g:TE}{a:Pos}(j:X.N.Nodup)(hi:X.N[i]?=some x)(hx:Loc X.env.scope x)(k:PE X e g)(l:tD e (some (.Name x a)) pos.line X.env=pure false:=by rfl)(hf:X.fn x=true∨X.env.scope.names.lookup x=some .local:=by first|exact .inl rfl|exact .inr rfl|assumption):
  PS X (.Assign [.Name x a] e pos) (bf g (dX i)):=by
 intro m s σ H D I h;refine wpAny_Assign_Name (dk (k m s σ H _ I h) fun v t f=>?_) l;obtain⟨y,n,o,p,q⟩:=f;exact zm o j hi hx p (fun u r=>⟨_,n,r,q⟩) hf
end
section
variable{X:Cx}{pos:Pos}
def AM(c:TT)(tb:TS):TS:=fun D σ H=>∃W:Nat->St->Hp->Prop,(∃m,W m σ H)/\∀m σ H,W m σ H ->
 c σ H fun b H1=>if b=true then ∃N:St->Hp->Prop,(∀σ' H',N σ' H'->∃m',m'<m/\W m' σ' H')/\tb { D with nx:=N,ct:=N,bk:=D.nx } σ H1 else D.nx σ H1
theorem zH{c:Expr}{a:List Stmt}{q:TT}{r:TS}(t:PassesOwn (model X.prog X.w) X.A X.env X.xe)(C:PT X c q)(E:Ax X a r):PS X (.While c a [] pos) (AM q r):=by
 intro J4 s σ H D I h;obtain⟨W,⟨G,J⟩,turn⟩:=h;refine wpAny_While (codeAny_whileLoop (fun n L=>∃σ' u,Inv X J4 σ' u L/\W n σ' u) ?_ G ⟨σ,H,I,J⟩);rintro n M ⟨σ1,x,O,Q⟩;refine tz t (dk (C J4 M σ1 x _ O (turn n σ1 x Q)) fun b T j=>?_);obtain⟨y,z,g⟩:=j;cases b with
 |true =>
  obtain⟨N,B,g⟩:=g;rw[if_pos rfl];refine tz t (dk (E J4 T σ1 y _ z g) fun f U i=>?_);cases f with
  |next =>
   obtain⟨σ3,e,k,l⟩:=i;obtain⟨m,o,p⟩:=B σ3 e l;exact⟨m,o,σ3,e,k,p⟩
  |cont =>
   obtain⟨σ3,e,k,l⟩:=i;obtain⟨m,o,p⟩:=B σ3 e l;exact⟨m,o,σ3,e,k,p⟩
  |brk=>exact i
  |ret v=>exact i
 |false =>
  rw[if_neg gw];exact BW ⟨σ1,y,z,g⟩
end
structure It where
 go:Nat->Hp->Prop
 yld:Nat->Hp->V->Hp->Prop
 stop:Nat->Hp->Prop
def mW(X:Cx)(J4:Zd)(H:Hp)(b:Addr):Prop :=
 H b=none/\b≠X.env.locals/\b∉X.fs/\(b∈X.ex∨X.s₀.heap.objs.size<=b)/\(∀x c,X.env.cells.lookup x=some c->c≠b)/\∀p∈X.pn++J4,p.1≠b
theorem Inv.fpOk{X:Cx}{f:Zd}{σ:St}{H g:Hp}{s:Shared}{b:Addr}(I:Inv X f σ H s)(a:s.heap.objs.size<=b)(h:g b=none):mW X f g b:=by
 refine⟨h,eP (iP I.lt a),I.nofs a,.inr (bz I.sz a),fun x c e z=>?_,fun p i z=>?_⟩
 ·obtain⟨v,q⟩:=I.cell x c e;exact absurd (iP q.lt (by rw[z];exact a)) (rF _)
 ·exact absurd (iP (aU (I.pin p i).1) (by rw[z];exact a)) (rF _)
structure sE(P:bP)(w:World)(K:Za)(tg:Expr)(J:It)(fp:Ze)(it:Addr)(tn:Nat->Heap->Prop):Prop where
 mem:it∈fp
 obj:∀i h,tn i h->∀b∈fp,∃o,h.get? b=some o/\∀v,o.data≠.cell v
 keep:∀i h h',tn i h->(∀b∈fp,∀o,h.get? b=some o->h'.get? b=some o)->tn i h'
 item:∀(X:Cx),X.prog=P->X.w=w->X.K=K->X.calm=true->∀(i:Nat) (J4:Zd) (s:Shared) (σ:St) (H:Hp) (E:Zc),Inv X J4 σ H s->(∀b∈fp,mW X J4 H b)->tn i s.heap->J.go i H ->
  wpAny (model P w) X.A (pyNext (.ref it)) (fun r s1=>∃u,r=some u /\
   wpAny (model P w) X.A (BU tg (.ref it) u) (fun _ s2=>∃x H',Inv X J4 σ H' s2/\RelV x u/\J.yld i H x H'/\tn (i+1) s2.heap/\∀b∈fp,H' b=none) E s1) E s
 done:∀(X:Cx),X.prog=P->X.w=w->X.K=K->X.calm=true->∀(i:Nat) (J4:Zd) (s:Shared) (σ:St) (H:Hp) (E:Zc),Inv X J4 σ H s->(∀b∈fp,mW X J4 H b)->tn i s.heap->J.stop i H ->
  wpAny (model P w) X.A (pyNext (.ref it)) (fun r s1=>r=none/\Inv X J4 σ H s1) E s
 self:∀(A:Around) (i:Nat) (s:Shared) (Q:Zc) (E:Zc),tn i s.heap->Q (.ref it) s->wpAny (model P w) A (pyIter (.ref it)) Q E s
abbrev TI:=St->Hp->(It->Hp->Prop)->Prop
def PIE(X:Cx)(J4:Zd)(σ:St)(tg:Expr)(R:It->Hp->Prop)(itv:Value)(s2:Shared):Prop :=
 ∃(it:Addr) (fp:Ze) (tn:Nat->Heap->Prop) (J:It) (H':Hp),itv=.ref it/\Inv X J4 σ H' s2/\sE X.prog X.w X.K tg J fp it tn/\tn 0 s2.heap/\(∀b∈fp,mW X J4 H' b)/\R J H'
def PI(X:Cx)(tg iter:Expr)(wi:TI):Prop :=
 ∀(J4:Zd) (s:Shared) (σ:St) (H:Hp) (R:It->Hp->Prop),Inv X J4 σ H s->wi σ H R ->
  wpAny (model X.prog X.w) X.A (eval iter X.env) (fun v s1=>wpAny (model X.prog X.w) X.A (pyIter v) (PIE X J4 σ tg R) X.xe s1) X.xe s
theorem v9{M:Model}{A:Around}{E:Zc}{s:Shared}{e:Expr}{it:Addr}{u:Value}{o:Obj}{n:String}{f:Array Value}{Q:Unit->Shared->Prop}(g:s.heap.get? it=some o)(i:o.cls=.type n)(j:o.data=.fields f)
    (k:["enumerate","zip","dict_itemiterator","dict_reverseitemiterator","odict_iterator","itertools.zip_longest","itertools.pairwise"].contains n=false) (a:Q () s):wpAny M A (BU e (.ref it) u) Q E s:=by
  unfold BU;cases e<;>first
    |exact aG a
    | (cases u <;> first
        |exact aG a
        | (refine ai (wpAny_load g ?_)
           rw[i,j];show wpAny M A (if(["enumerate","zip","dict_itemiterator","dict_reverseitemiterator","odict_iterator","itertools.zip_longest","itertools.pairwise"].contains n && f[0]?==some (rawInt _))=true then _ else _) Q E s
           rw[if_neg (by intro h;rw[k,BT]at h;cases h)];exact aG a))
def CQ(K:Za)(a:Addr):It :=
 ⟨fun i H=>∃xs x,au K H a xs/\xs[i]?=some x,fun i H x H'=>H'=H/\∀xs,au K H a xs->xs[i]?=some x,fun i H=>∃xs,au K H a xs/\xs.length<=i⟩
def Jc(K:Za)(a:Addr):It :=
 ⟨fun i H=>∃xs x,br K H a xs/\xs[i]?=some x,fun i H x H'=>H'=H/\∀xs,br K H a xs->xs[i]?=some x,fun i H=>∃xs,br K H a xs/\xs.length<=i⟩
def Jd(lo:Int)(n:Nat):It:=⟨fun i _=>i<n,fun i H x H'=>H'=H/\x=.int (lo+i),fun i _=>n<=i⟩
theorem vN{P:bP}{w:World}{K:Za}{M:Expr}(a it:Addr):sE P w K M (CQ K a) [it] it (fun i h=>h.IsListIter it a i) where
 mem:=by simp
 obj:=fun i h st b f=>by
  have e:b=it:=by simpa using f
  subst e;obtain⟨o,e,c,d⟩:=st;exact⟨o,e,fun v z=>by rw[d]at z;cases z⟩
 keep:=fun i h j st k=>st.at fun o e=>k it (by simp) o e
 item:=by
  intro X m n q J i L s σ H E I hf st r;subst m n q;obtain⟨N,x,l,hx⟩:=r;obtain⟨t,y,p,O⟩:=I.list l;obtain⟨u,Q,T⟩:=y.get hx;obtain⟨A,B,U,C,D,G⟩:=hf it (by simp);refine wpAny_pyNext_list_item st p.isList (x:=u) (by simpa using Q) fun j g Y=>?_;have I1:Inv X L σ H { s with heap:=j }:=I.turned (t':=s.toks) (fun b o f e=>(Y.2 b f).trans e) A B C D G;obtain⟨o,e,c,d⟩:=id g;exact⟨u,rfl,v9 (s:={ s with heap:=j }) e c d (by decide) ⟨x,H,I1,T,⟨rfl,fun ys hy=>by rw[I.list_inj hy l];exact hx⟩,g,fun b f=>(hf b f).1⟩⟩
 done:=by
  intro X m n q J i L s σ H E I hf st r;subst m n q;obtain⟨N,l,hx⟩:=r;obtain⟨t,y,p,O⟩:=I.list l;obtain⟨A,B,U,C,D,G⟩:=hf it (by simp);have hl:=y.length;exact wpAny_pyNext_list_end (I.ok.hd J) st p.isList (by simp;omega) fun j eb=>⟨rfl,I.turned (t':=s.toks) (fun b o f e=>eb b o f e) A B C D G⟩
 self:=fun _ _ _ _ _ st h=>wpAny_pyIter_listiter st h
theorem tZ{P:bP}{w:World}{K:Za}{M:Expr}(a it:Addr):sE P w K M (Jc K a) [it] it (fun i h=>h.IsTupleIter it a i) where
 mem:=by simp
 obj:=fun i h st b f=>by
  have e:b=it:=by simpa using f
  subst e;obtain⟨o,e,c,d⟩:=st;exact⟨o,e,fun v z=>by rw[d]at z;cases z⟩
 keep:=fun i h l st k=>st.at fun o e=>k it (by simp) o e
 item:=by
  intro X n q r J i L s σ H E I hf st t;subst n q r;obtain⟨N,x,m,hx⟩:=t;obtain⟨g,y,p,O⟩:=I.tuple m;obtain⟨u,Q,T⟩:=y.get hx;obtain⟨A,B,U,C,D,G⟩:=hf it (by simp);refine wpAny_pyNext_tuple_item st (show s.heap.IsTuple a g.toArray from p) (x:=u) (by simpa using Q) fun l j Y=>?_;have I1:Inv X L σ H { s with heap:=l }:=I.turned (t':=s.toks) (fun b o f e=>(Y.2 b f).trans e) A B C D G;obtain⟨o,e,c,d⟩:=id j;exact⟨u,rfl,v9 (s:={ s with heap:=l }) e c d (by decide) ⟨x,H,I1,T,⟨rfl,fun ys hy=>by rw[I.tuple_inj hy m];exact hx⟩,j,fun b f=>(hf b f).1⟩⟩
 done:=by
  intro X n q r J i L s σ H E I hf st t;subst n q r;obtain⟨N,m,hx⟩:=t;obtain⟨g,y,p,O⟩:=I.tuple m;obtain⟨A,B,U,C,D,G⟩:=hf it (by simp);have hl:=y.length;exact wpAny_pyNext_tuple_end (I.ok.hd J) st (show s.heap.IsTuple a g.toArray from p) (by simp;omega) fun l eb=>⟨rfl,I.turned (t':=s.toks) (fun b o f e=>eb b o f e) A B C D G⟩
 self:=fun _ _ _ _ _ st h=>wpAny_pyIter_tupleiter st h
theorem AA{P:bP}{w:World}{K:Za}{C:Expr}(it:Addr)(lo:Int)(n:Nat):sE P w K C (Jd lo n) [it] it (fun i h=>IsRangeIter h it (lo+(i:Nat) * 1) ((n:Int)-(i:Nat)) 1) where
 mem:=by simp
 obj:=fun i h st b a=>by
  have e:b=it:=by simpa using a
  subst e;exact⟨_,st,fun v z=>by
   have D:Data.fields _=Data.cell v:=z;cases D⟩
 keep:=fun i h g st k=>k it (by simp) _ st
 item:=by
  intro X j l m p i B s σ H E I hf st q;subst j l m;obtain⟨r,u,G,x,y,A⟩:=hf it (by simp);have W:=Walks.range (prog:=X.prog) (w:=X.w) (I.ok.hd p) it lo 1 n;refine W.item i s _ _ q st fun v g tk J f L=>?_;obtain⟨t,rfl⟩:=J;have M:Inv X B σ H { s with heap:=g,toks:=tk }:=I.turned (fun b o a e=>L b o (by simpa using a) e) r u x y A;refine⟨_,rfl,v9 (s:={ s with heap:=g,toks:=tk }) (n:="range_iterator") f rfl rfl (by decide) ⟨.int (lo+i),H,M,⟨t,?_⟩,⟨rfl,rfl⟩,f,fun b a=>(hf b a).1⟩⟩;rw[Int.mul_one]
 done:=by
  intro X j l m p i B s σ H E I hf st q;subst j l m;obtain⟨r,u,G,x,y,A⟩:=hf it (by simp);exact wpAny_pyNext_range_end (I.ok.hd p) st (by have:n<=i:=q;omega) fun g N=>⟨rfl,I.turned (t':=s.toks) (fun b o a e=>N b o a e) r u x y A⟩
 self:=fun _ _ _ _ _ st h=>wpAny_pyIter_rangeiter st h
end L2
namespace L2
open PySem PySem.Spec PyProof.Rows
section
variable{X:Cx}{tg:Expr}
def bG(K:Za)(tl:TE):TI:=fun σ H R=>tl σ H fun x H1=>∃a,x=.ref a/\(∃xs,au K H1 a xs)/\R (CQ K a) H1
def DQ(K:Za)(tl:TE):TI:=fun σ H R=>tl σ H fun x H1=>∃a,x=.ref a/\(∃xs,br K H1 a xs)/\R (Jc K a) H1
theorem aL{l:Expr}{j:TE}(k:PE X l j):PI X tg l (bG X.K j):=by
 intro m s σ H R I h;refine dk (k m s σ H _ I h) fun v f i=>?_;obtain⟨x,n,g,r,t⟩:=i;obtain⟨a,e,⟨A,u⟩,q⟩:=t;subst e;cases r;obtain⟨y,B,p,C⟩:=g.list u;refine tw p.isList ?_;refine⟨f.heap.objs.size,[f.heap.objs.size],_,_,n,rfl,g.kept (t':=f.toks) fun b o e=>aO _ e,vN a _,⟨_,cu _ rfl,rfl,rfl⟩,fun b z=>?_,q⟩;have e:b=f.heap.objs.size:=by simpa using z
 subst e;exact g.fpOk (aP _) (g.hok.fresh (aP _))
theorem uq{l:Expr}{k:TE}(m:PE X l k):PI X tg l (DQ X.K k):=by
 intro n s σ H R I h;refine dk (m n s σ H _ I h) fun v f i=>?_;obtain⟨x,r,g,t,u⟩:=i;obtain⟨a,e,⟨A,y⟩,q⟩:=u;subst e;cases t;obtain⟨j,B,p,C⟩:=g.tuple y;refine yR (show f.heap.IsTuple a j.toArray from p) ?_;refine⟨f.heap.objs.size,[f.heap.objs.size],_,_,r,rfl,g.kept (t':=f.toks) fun b o e=>aO _ e,tZ a _,⟨_,cu _ rfl,rfl,rfl⟩,fun b z=>?_,q⟩;have e:b=f.heap.objs.size:=by simpa using z
 subst e;exact g.fpOk (aP _) (g.hok.fresh (aP _))
theorem Fu{a:Zd}{σ:St}{H:Hp}{s:Shared}{R:It->Hp->Prop}{E:Zc}{lo hi:Int}{t u v:Tok}{tk:Nat}(I:Inv X a σ H s)(g:-(2 ^ 62)<=lo)(h:lo<2 ^ 62)(i:-(2 ^ 62)<=hi)(j:hi<2 ^ 62)
  (q:R (Jd lo (hi-lo).toNat) H):wpAny (model X.prog X.w) X.A (pyIter (.ref s.heap.objs.size)) (PIE X a σ tg R) E { s with heap:=s.heap.push { cls:=.type "range",data:=.fields #[.int lo t,.int hi u,.int 1 v] },toks:=tk }:=by
 refine wpAny_pyIter_range (IsRange.new ..) (small_one g h i j) ?_;have f:Inv X a σ H { s with heap:=s.heap.push { cls:=.type "range",data:=.fields #[.int lo t,.int hi u,.int 1 v] },toks:=tk }:=I.kept fun b o e=>aO _ e;refine⟨(s.heap.push { cls:=.type "range",data:=.fields #[.int lo t,.int hi u,.int 1 v] }).objs.size,[(s.heap.push { cls:=.type "range",data:=.fields #[.int lo t,.int hi u,.int 1 v] }).objs.size],_,_,H,rfl,
  f.kept (t':=tk) fun b o e=>aO _ e,AA _ lo (hi-lo).toNat,?_,fun b k=>?_,q⟩
 ·have l:lo+((0:Nat):Int) * 1=lo:=by simp
  have m:(((hi-lo).toNat:Nat):Int)-((0:Nat):Int)=c9.Range.rangeSize lo hi 1:=by rw[rangeSize_one];split<;>omega
  show IsRangeIter _ _ (lo+((0:Nat):Int) * 1) ((((hi-lo).toNat:Nat):Int)-((0:Nat):Int)) 1;rw[l,m];exact cu _ rfl
 ·have e:b=(s.heap.push { cls:=.type "range",data:=.fields #[.int lo t,.int hi u,.int 1 v] }).objs.size:=by simpa using k
  subst e;exact f.fpOk (aP _) (f.hok.fresh (aP _))
def uE(ta:TA):TI:=fun σ H R=>ta σ H fun vs H1=>∃j:Int,vs=[.int j]/\-(2 ^ 62)<=j/\j<2 ^ 62/\R (Jd 0 j.toNat) H1
theorem iN{a:Expr}{k:TA}{p f:Pos}(l:Gl X "range")(m:X.mg "range"=none)(n:PA X [a] k)(o:aQ [a] X.env=[(false,eval a X.env)]:=by rfl):PI X tg (.Call (.Name "range" p) [a] [] f) (uE k):=by
 intro u s σ H R I h;refine Call_ (lY I l m boot_range (vH (dk (n f u s σ H _ I h) fun A B g=>?_) o rfl));obtain⟨C,D,v,x,i⟩:=g;obtain⟨j,e,i,y,q⟩:=i;subst e;cases x with
 |cons r z =>
  cases z;obtain⟨t,rfl⟩:=r;exact call_range_1 (Fu v (by omega) (by omega) i y (by simpa using q))
def d6(wi:TI)(g:TG)(tb:TS):TS:=fun D σ H=>wi σ H fun J H1=>∃W:Nat->Nat->St->Hp->Prop,(∃m,W 0 m σ H1)/\∀i m σ H,W i m σ H ->
 (J.stop i H/\D.nx σ H)∨(J.go i H/\∃N:St->Hp->Prop,(∀σ' H',N σ' H'->∃m',m'<m/\W (i+1) m' σ' H')/\∀x H',J.yld i H x H'->g x σ H' fun σ2 H2=>tb { D with nx:=N,ct:=N,bk:=D.nx } σ2 H2)
def uo(fp:Ze)(h:Heap):List (Addr×Obj):=fp.filterMap fun b=>(h.get? b).map fun o=>(b,o)
theorem kq{fp:Ze}{h:Heap}{b:Addr}{o:Obj}(a:b∈fp)(e:h.get? b=some o):(b,o)∈uo fp h:=List.mem_filterMap.mpr ⟨b,a,by rw[e];rfl⟩
theorem DG{a:Ze}{h:Heap}{p:Addr×Obj}(f:p∈uo a h):p.1∈a/\h.get? p.1=some p.2:=by
 obtain⟨b,g,e⟩:=List.mem_filterMap.mp f;cases q:h.get? b with
 |none=>rw[q]at e;cases e
 |some o =>
  rw[q]at e;have i:(b,o)=p:=fj e;subst i;exact⟨g,q⟩
theorem Inv.pinned{a:Zd}{σ:St}{H:Hp}{s:Shared}{f:Ze}(I:Inv X a σ H s)(hf:∀b∈f,mW X a H b)(i:∀b∈f,∃o,s.heap.get? b=some o/\∀v,o.data≠.cell v):Inv X (a++uo f s.heap) σ H s :=
 I.pins_of fun p j=>(bx.mp j).elim (fun z=>I.pin p (cx _ z)) fun z=>by
  obtain⟨g,e⟩:=DG z;obtain⟨k,l,m,_⟩:=hf p.1 g;obtain⟨o,h,d⟩:=i p.1 g;rw[e]at h;cases h;exact⟨e,k,l,m,d⟩
theorem Inv.unpinned{a e:Zd}{σ:St}{H:Hp}{s:Shared}(I:Inv X (a++e) σ H s):Inv X a σ H s:=I.pins_of fun p f=>I.pin p (cx _ (bV _ f))
theorem bI{j:Expr}{y:List Stmt}{wi:TI}{g:TG}{tb:TS}{U:Pos}(E:PassesOwn (model X.prog X.w) X.A X.env X.xe)(hc:X.calm=true)(hi:PI X tg j wi)(hg:PG X tg g)(k:Ax X y tb)
  (hs:∀x,yQ j X.env x=pure x:=by intro _;rfl):PS X (.For tg j y [] U) (d6 wi g tb):=by
 intro B s σ H D I h;refine wpAny_For (dk (hi B s σ H _ I h) fun v s1 h1=>dk h1 fun ap s2 h2=>?_) hs;obtain⟨it,G,tn,J,H2,e,I2,T,Y,f2,W,⟨m0,w0⟩,turn⟩:=h2;subst e;have l:∀{t:Hp},(∀b∈G,t b=none)->∀b∈G,mW X B t b:=fun hn b k=>⟨hn b k,(f2 b k).2⟩;refine codeAny_forLoop_any (fun n s'=>∃i σ' t,Inv X B σ' t s'/\tn i s'.heap/\(∀b∈G,t b=none)/\W i n σ' t) ?_ m0 ⟨0,σ,H2,I2,Y,fun b k=>(f2 b k).1,w0⟩;rintro n s3 ⟨i,σ3,Q,I3,L,M,w3⟩;rcases turn i n σ3 Q w3 with⟨stop,qn⟩|⟨go,N,hN,step⟩
 ·refine tz E (dk (T.done X rfl rfl rfl hc i B s3 σ3 Q X.xe I3 (l M) L stop) fun r s4 a=>?_);obtain⟨hr,I4⟩:=a;subst hr;exact BW ⟨σ3,Q,I4,qn⟩
 ·refine tz E (dk (T.item X rfl rfl rfl hc i B s3 σ3 Q X.xe I3 (l M) L go) fun r s4 a=>?_);obtain⟨u,hr,h4⟩:=a;subst hr;refine tz E (dk h4 fun _ s5 a=>?_);obtain⟨x,H5,I5,r5,y5,C,al⟩:=a;have an:=I5.pinned (l al) (T.obj _ _ C);refine tz E (dk (hg _ s5 σ3 H5 x u _ an r5 (step x H5 y5)) fun _ s6 a=>?_);obtain⟨σ6,H6,I6,q6⟩:=a;refine tz E (dk (k _ s6 σ6 H6 _ I6 q6) fun f s7 z=>?_);have again:∀{σ7:St}{p:Hp},Inv X (B++uo G s5.heap) σ7 p s7->N σ7 p->∃m,m<n/\∃i σ' t,Inv X B σ' t s7/\tn i s7.heap/\(∀b∈G,t b=none)/\W i m σ' t:=fun{σ7 p} q O=>by
   obtain⟨m',hm,w7⟩:=hN σ7 p O;refine⟨m',hm,i+1,σ7,p,q.unpinned,T.keep _ _ _ C fun b k o e=>(q.pin (b,o) (cx _ (cx _ (kq k e)))).1,fun b k=>?_,w7⟩;obtain⟨o,e,d⟩:=T.obj _ _ C b k;exact(q.pin (b,o) (cx _ (cx _ (kq k e)))).2.1
  cases f with
  |next=>obtain⟨σ7,p,q,O⟩:=z;exact again q O
  |cont=>obtain⟨σ7,p,q,O⟩:=z;exact again q O
  |brk=>obtain⟨σ7,p,q,z⟩:=z;exact⟨σ7,p,q.unpinned,z⟩
  |ret v=>obtain⟨x7,σ7,p,q,r7,z⟩:=z;exact⟨x7,σ7,p,q.unpinned,r7,z⟩
end
theorem bO{K:Za}{a:Addr}{xs:List V}{g:TG}{k:TS}{D:oE}{σ:St}{H:Hp}(Pv:Nat->St->Hp->Prop)(n:Pv 0 σ H)(o:∀i σ H,i<=xs.length->Pv i σ H->au K H a xs)
  (r:∀i x σ H,xs[i]?=some x->Pv i σ H->g x σ H fun σ2 j=>k { D with nx:=Pv (i+1),ct:=Pv (i+1),bk:=D.nx } σ2 j) (s:∀σ H,Pv xs.length σ H->D.nx σ H) :
  ∃W:Nat->Nat->St->Hp->Prop,(∃m,W 0 m σ H)/\∀i m σ H,W i m σ H ->
   ((CQ K a).stop i H/\D.nx σ H)∨((CQ K a).go i H/\∃N:St->Hp->Prop,(∀σ' f,N σ' f->∃l,l<m/\W (i+1) l σ' f)/\∀x f,(CQ K a).yld i H x f->g x σ f fun σ2 j=>k { D with nx:=N,ct:=N,bk:=D.nx } σ2 j):=by
 refine⟨fun i m σ H=>m=xs.length-i/\i<=xs.length/\Pv i σ H,⟨xs.length,by simp,c7 _,n⟩,?_⟩;rintro i m σ H ⟨rfl,hi,p⟩;have q:=o i σ H hi p;by_cases h:i<xs.length
 ·refine .inr ⟨⟨xs,xs[i],q,by simp[h]⟩,Pv (i+1),fun σ' f t=>⟨xs.length-(i+1),by omega,rfl,h,t⟩,fun x f y=>?_⟩;obtain⟨e,y⟩:=y;subst e;exact r i x σ _ (y xs q) p
 ·have e:i=xs.length:=by omega
  subst e;exact .inl ⟨⟨xs,q,aP _⟩,s σ H p⟩
theorem ye{K:Za}{a:Addr}{xs:List V}{g:TG}{k:TS}{D:oE}{σ:St}{H:Hp}(Pv:Nat->St->Hp->Prop)(n:Pv 0 σ H)(o:∀i σ H,i<=xs.length->Pv i σ H->br K H a xs)
  (r:∀i x σ H,xs[i]?=some x->Pv i σ H->g x σ H fun σ2 j=>k { D with nx:=Pv (i+1),ct:=Pv (i+1),bk:=D.nx } σ2 j) (s:∀σ H,Pv xs.length σ H->D.nx σ H) :
  ∃W:Nat->Nat->St->Hp->Prop,(∃m,W 0 m σ H)/\∀i m σ H,W i m σ H ->
   ((Jc K a).stop i H/\D.nx σ H)∨((Jc K a).go i H/\∃N:St->Hp->Prop,(∀σ' f,N σ' f->∃l,l<m/\W (i+1) l σ' f)/\∀x f,(Jc K a).yld i H x f->g x σ f fun σ2 j=>k { D with nx:=N,ct:=N,bk:=D.nx } σ2 j):=by
 refine⟨fun i m σ H=>m=xs.length-i/\i<=xs.length/\Pv i σ H,⟨xs.length,by simp,c7 _,n⟩,?_⟩;rintro i m σ H ⟨rfl,hi,p⟩;have q:=o i σ H hi p;by_cases h:i<xs.length
 ·refine .inr ⟨⟨xs,xs[i],q,by simp[h]⟩,Pv (i+1),fun σ' f t=>⟨xs.length-(i+1),by omega,rfl,h,t⟩,fun x f y=>?_⟩;obtain⟨e,y⟩:=y;subst e;exact r i x σ _ (y xs q) p
 ·have e:i=xs.length:=by omega
  subst e;exact .inl ⟨⟨xs,q,aP _⟩,s σ H p⟩
theorem jZ{lo:Int}{n:Nat}{g:TG}{j:TS}{D:oE}{σ:St}{H:Hp}(Pv:Nat->St->Hp->Prop)(l:Pv 0 σ H)
  (o:∀i σ H,i<n->Pv i σ H->g (.int (lo+i)) σ H fun σ2 h=>j { D with nx:=Pv (i+1),ct:=Pv (i+1),bk:=D.nx } σ2 h) (q:∀σ H,Pv n σ H->D.nx σ H) :
  ∃W:Nat->Nat->St->Hp->Prop,(∃m,W 0 m σ H)/\∀i m σ H,W i m σ H ->
   ((Jd lo n).stop i H/\D.nx σ H)∨((Jd lo n).go i H/\∃N:St->Hp->Prop,(∀σ' a,N σ' a->∃k,k<m/\W (i+1) k σ' a)/\∀x a,(Jd lo n).yld i H x a->g x σ a fun σ2 h=>j { D with nx:=N,ct:=N,bk:=D.nx } σ2 h):=by
 refine⟨fun i m σ H=>m=n-i/\i<=n/\Pv i σ H,⟨n,by simp,c7 _,l⟩,?_⟩;rintro i m σ H ⟨rfl,hi,p⟩;by_cases f:i<n
 ·refine .inr ⟨f,Pv (i+1),fun σ' a r=>⟨n-(i+1),by omega,rfl,f,r⟩,fun x a y=>?_⟩;obtain⟨e,y⟩:=y;subst e y;exact o i σ _ f p
 ·have e:i=n:=by omega
  subst e;exact .inl ⟨aP _,q σ H p⟩
end L2
namespace L2
open PySem PySem.Spec PyProof.Rows
abbrev R2:=V->V->Hp->VK->Prop
def oK(X:Cx)(f:Value->Value->Sem Value)(r:R2):Prop :=
 ∀(J4:Zd) (s:Shared) (σ:St) (H:Hp) (x y:V) (v u:Value) (Q:VK),Inv X J4 σ H s->RelV x v->RelV y u->r x y H Q ->
  wpAny (model X.prog X.w) X.A (f v u) (EP X J4 σ Q) X.xe s
def fU(X:Cx)(f:Value)(r:List V->Hp->VK->Prop):Prop :=
 ∀(J4:Zd) (s:Shared) (σ:St) (H:Hp) (xs:List V) (us:Zf) (Q:VK),Inv X J4 σ H s->bC xs us->r xs H Q ->
  wpAny (model X.prog X.w) X.A (call f us) (EP X J4 σ Q) X.xe s
def aK(r:R2)(ta tb:TE):TE:=fun σ H Q=>ta σ H fun x H1=>tb σ H1 fun y H2=>r x y H2 Q
def rI(C:Int->Int->Prop)(g:Int->Int->V):R2:=fun x y H Q=>∃i j,x=.int i/\y=.int j/\C i j/\Q (g i j) H
def Es(g:Int->Int->V):R2:=fun x y H Q=>∃i j,x=.int i/\y=.int j/\Q (g i j) H
section
variable{X:Cx}{a b c:Expr}{ta tb tc:TE}{pos:Pos}
theorem IY(n:PE X a ta)(o:PE X b tb){k:Zd}{s:Shared}{σ:St}{H:Hp}{R:V->V->Hp->Prop}(I:Inv X k σ H s)
  (h:ta σ H fun x m=>tb σ m fun y g=>R x y g) {Q:Zc}{f:Value->Value->Sem Value}
  (hf:∀v u l x y g,Inv X k σ g l->RelV x v->RelV y u->R x y g->wpAny (model X.prog X.w) X.A (f v u) Q X.xe l) :
  wpAny (model X.prog X.w) X.A (eval a X.env) (fun v i=>wpAny (model X.prog X.w) X.A (eval b X.env) (fun u j=>wpAny (model X.prog X.w) X.A (f v u) Q X.xe j) X.xe i) X.xe s:=by
 refine dk (n k s σ H _ I h) fun v p e=>?_;obtain⟨x,m,q,r,t⟩:=e;refine dk (o k p σ m _ q t) fun u l e=>?_;obtain⟨y,g,z,B,C⟩:=e;exact hf v u l x y g z r B C
theorem be{e:Operator}{r:R2}(f:oK X (rC e) r)(g:PE X a ta)(i:PE X b tb):PE X (.BinOp a e b pos) (aK r ta tb):=by
 intro j s σ H Q I h;exact wpAny_BinOp (IY g i I h fun v u k x y l m n o q=>f j k σ l x y v u Q m n o q)
theorem Kf{f:Value->Value->Sem Value}{C:Int->Int->Prop}{g:Int->Int->Int}
  (rule:∀(i j:Int) (t u:Tok) (s:Shared) (Q:Zc) (E:Zc),C i j->Q (.int (g i j) s.toks) { s with toks:=s.toks+1 }->wpAny (model X.prog X.w) X.A (f (.int i t) (.int j u)) Q E s) :
  oK X f (rI C fun i j=>.int (g i j)):=by
 intro n s σ H x y v u Q I e k h;obtain⟨i,j,rfl,rfl,l,q⟩:=h;obtain⟨t,rfl⟩:=e;obtain⟨m,rfl⟩:=k;exact rule i j t m s _ _ l ⟨.int (g i j),H,I.tok _,⟨_,rfl⟩,q⟩
theorem opI0{f:Value->Value->Sem Value}{g:Int->Int->Int}
  (rule:∀(i j:Int) (t u:Tok) (s:Shared) (Q:Zc) (E:Zc),Q (.int (g i j) s.toks) { s with toks:=s.toks+1 }->wpAny (model X.prog X.w) X.A (f (.int i t) (.int j u)) Q E s) :
  oK X f (Es fun i j=>.int (g i j)):=by
 intro m s σ H x y v u Q I e k h;obtain⟨i,j,rfl,rfl,q⟩:=h;obtain⟨t,rfl⟩:=e;obtain⟨l,rfl⟩:=k;exact rule i j t l s _ _ ⟨.int (g i j),H,I.tok _,⟨_,rfl⟩,q⟩
theorem Hv{f:Value->Value->Sem Value}{g:Int->Int->Bool}
  (rule:∀(i j:Int) (t u:Tok) (s:Shared) (Q:Zc) (E:Zc),Q (.bool (g i j)) s->wpAny (model X.prog X.w) X.A (f (.int i t) (.int j u)) Q E s) :
  oK X f (Es fun i j=>.bl (g i j)):=by
 intro m s σ H x y v u Q I e k h;obtain⟨i,j,rfl,rfl,q⟩:=h;obtain⟨t,rfl⟩:=e;obtain⟨l,rfl⟩:=k;exact rule i j t l s _ _ ⟨.bl (g i j),H,I,rfl,q⟩
def JT(i j:Int):Prop:=0<j/\j<1073741824
def JR(i j:Int):Prop:=0<=j/\j<=1000000/\i.natAbs<2 ^ 64
def GF(i j:Int):Prop:=(-(2 ^ 64)<i/\i<2 ^ 64)∨(-(2 ^ 64)<j/\j<2 ^ 64)
theorem GF.ok{i j:Int}(h:GF i j):IntMulOk i j:=by
 rcases h with⟨e,f⟩|⟨e,f⟩
 ·exact .of_left (intBits_le_64 e f)
 ·exact .of_right (intBits_le_64 e f)
theorem dJ:oK X (rC .Add) (Es fun i j=>.int (i+j)):=opI0 fun _ _ _ _ _ _ _ q=>add_int q
theorem gK:oK X (rC .Mult) (rI GF fun i j=>.int (i * j)):=Kf fun _ _ _ _ _ _ _ e q=>mul_int q e.ok
theorem Cn:oK X (rC .FloorDiv) (rI JT fun i j=>.int (i / j)):=Kf fun i j _ _ _ _ _ e q=>by
 have f:(0:Int)<j:=e.1;have g:j<1073741824:=e.2;exact floordiv_int (by omega) (by rw[Int.fdiv_eq_ediv_of_nonneg i (by omega)];exact q) (.inl (PyProof.noPylong_small (by omega)))
theorem gL:oK X (rC .Mod) (rI (fun _ j=>0<j) fun i j=>.int (i % j)):=Kf fun i j _ _ _ _ _ e q=>by
 have f:(0:Int)<j:=e;exact mod_int' (by omega) (by rw[Int.fmod_eq_emod_of_nonneg i (by omega)];exact q)
theorem FI:oK X (rC .Pow) (rI JR fun i j=>.int (i ^ j.toNat)):=Kf fun _ _ _ _ _ _ _ e q=>pow_int_small e.1 e.2.1 e.2.2 q
end
def Jr:V->V->Bool
 |.non,.non=>true | .non,.int _=>true | .int _,.non=>true | .non,.bl _=>true | .bl _,.non=>true | .non,.str _=>true | .str _,.non=>true
 |.int _,.int _=>true | .bl _,.bl _=>true | .str _,.str _=>true | .byt _,.byt _=>true
 |.int _,.str _=>true | .str _,.int _=>true | .bl _,.str _=>true | .str _,.bl _=>true
 |_,_=>false
def Fv:R2:=fun x y H Q=>Jr x y=true/\Q (.bl (decide (x=y))) H
def Ke:R2:=fun x y H Q=>Jr x y=true/\Q (.bl (!decide (x=y))) H
theorem CB{i j:Int}:decide (V.int i=V.int j)=(i==j):=by
 rw[k7];simp
theorem Gj{i j:Bool}:decide (V.bl i=V.bl j)=(i==j):=by
 rw[k7];simp
theorem Cy{i j:Str}:decide (V.str i=V.str j)=(i==j):=by
 rw[k7];simp
theorem CD{i j:Array UInt8}:decide (V.byt i=V.byt j)=(i.toList==j.toList):=by
 rw[k7];cases i;cases j;simp
section
variable{X:Cx}{a b c:Expr}{ta tb tc:TE}{pos:Pos}
theorem cb{f:Zd}{σ:St}{H:Hp}{s:Shared}{Q:VK}{k g:Bool}(I:Inv X f σ H s)(q:Q (.bl k) H)(e:k=g):EP X f σ Q (.bool g) s:=by
 subst e;exact⟨.bl k,H,I,rfl,q⟩
theorem m9:oK X (eZ .Eq) Fv:=by
 intro l s σ H x y v u Q I k e h;obtain⟨g,q⟩:=h;cases x with
 |non =>
  cases k;cases y with
  |non=>cases e;exact PySem.EqNone.eq_none_none (cb I q (by simp))
  |bl j=>cases e;exact PySem.EqNone.eq_none_bool (cb I q (by simp))
  |int j=>obtain⟨f,rfl⟩:=e;exact PySem.EqNone.eq_none_int (cb I q (by simp))
  |str j=>obtain⟨f,rfl⟩:=e;exact PySem.EqNone.eq_none_str (cb I q (by simp))
  |_=>exact absurd (show false=true from g) gw
 |bl i =>
  cases k;cases y with
  |non=>cases e;exact PySem.EqNone.eq_bool_none (cb I q (by simp))
  |bl j=>cases e;exact eq_bool (cb I q Gj)
  |str j=>obtain⟨f,rfl⟩:=e;exact PySem.EqMixed.eq_bool_str (cb I q (by simp))
  |_=>exact absurd (show false=true from g) gw
 |int i =>
  obtain⟨t,rfl⟩:=k;cases y with
  |non=>cases e;exact PySem.EqNone.eq_int_none (cb I q (by simp))
  |int j=>obtain⟨f,rfl⟩:=e;exact eq_int (cb I q CB)
  |str j=>obtain⟨f,rfl⟩:=e;exact PySem.EqMixed.eq_int_str (cb I q (by simp))
  |_=>exact absurd (show false=true from g) gw
 |str i =>
  obtain⟨t,rfl⟩:=k;cases y with
  |non=>cases e;exact PySem.EqNone.eq_str_none (cb I q (by simp))
  |bl j=>cases e;exact PySem.EqMixed.eq_str_bool (cb I q (by simp))
  |int j=>obtain⟨f,rfl⟩:=e;exact PySem.EqMixed.eq_str_int (cb I q (by simp))
  |str j=>obtain⟨f,rfl⟩:=e;exact eq_str (cb I q Cy)
  |_=>exact absurd (show false=true from g) gw
 |byt i =>
  obtain⟨t,rfl⟩:=k;cases y with
  |byt j=>obtain⟨f,rfl⟩:=e;exact PySem.W.eq_bytes (cb I q CD)
  |_=>exact absurd (show false=true from g) gw
 |_=>cases y<;>exact absurd (show false=true from g) gw
theorem FJ:oK X (eZ .NotEq) Ke:=by
 intro l s σ H x y v u Q I k e h;obtain⟨g,q⟩:=h;cases x with
 |non =>
  cases k;cases y with
  |non=>cases e;exact PySem.EqNone.ne_none_none (cb I q (by simp))
  |bl j=>cases e;exact PySem.EqNone.ne_none_bool (cb I q (by simp))
  |int j=>obtain⟨f,rfl⟩:=e;exact PySem.EqNone.ne_none_int (cb I q (by simp))
  |str j=>obtain⟨f,rfl⟩:=e;exact PySem.EqNone.ne_none_str (cb I q (by simp))
  |_=>exact absurd (show false=true from g) gw
 |bl i =>
  cases k;cases y with
  |non=>cases e;exact PySem.EqNone.ne_bool_none (cb I q (by simp))
  |bl j=>cases e;exact ne_bool (cb I q (congrArg not Gj))
  |str j=>obtain⟨f,rfl⟩:=e;exact PySem.EqMixed.ne_bool_str (cb I q (by simp))
  |_=>exact absurd (show false=true from g) gw
 |int i =>
  obtain⟨t,rfl⟩:=k;cases y with
  |non=>cases e;exact PySem.EqNone.ne_int_none (cb I q (by simp))
  |int j=>obtain⟨f,rfl⟩:=e;exact ne_int (cb I q (congrArg not CB))
  |str j=>obtain⟨f,rfl⟩:=e;exact PySem.EqMixed.ne_int_str (cb I q (by simp))
  |_=>exact absurd (show false=true from g) gw
 |str i =>
  obtain⟨t,rfl⟩:=k;cases y with
  |non=>cases e;exact PySem.EqNone.ne_str_none (cb I q (by simp))
  |bl j=>cases e;exact PySem.EqMixed.ne_str_bool (cb I q (by simp))
  |int j=>obtain⟨f,rfl⟩:=e;exact PySem.EqMixed.ne_str_int (cb I q (by simp))
  |str j=>obtain⟨f,rfl⟩:=e;exact ne_str (cb I q (congrArg not Cy))
  |_=>exact absurd (show false=true from g) gw
 |byt i =>
  obtain⟨t,rfl⟩:=k;cases y with
  |byt j=>obtain⟨f,rfl⟩:=e;exact PySem.W.ne_bytes (cb I q (congrArg not CD))
  |_=>exact absurd (show false=true from g) gw
 |_=>cases y<;>exact absurd (show false=true from g) gw
theorem Cm:oK X (eZ .Lt) (Es fun i j=>.bl (decide (i<j))):=Hv fun _ _ _ _ _ _ _ q=>lt_int q
theorem FK:oK X (eZ .LtE) (Es fun i j=>.bl (decide (i<=j))):=Hv fun _ _ _ _ _ _ _ q=>le_int q
theorem uw:oK X (eZ .Gt) (Es fun i j=>.bl (decide (j<i))):=Hv fun _ _ _ _ _ _ _ q=>gt_int q
theorem Jx:oK X (eZ .GtE) (Es fun i j=>.bl (decide (j<=i))):=Hv fun _ _ _ _ _ _ _ q=>ge_int q
theorem DF:oK X (eZ .In) (fun x y H Q=>∃i j,x=.str i/\y=.str j/\Q (.bl (!(c9.Str.occurrences j i 0 j.length 1).isEmpty)) H):=by
 intro g s σ H x y v u Q I e f h;obtain⟨i,j,rfl,rfl,q⟩:=h;obtain⟨t,rfl⟩:=e;obtain⟨k,rfl⟩:=f;exact in_str (cb I q rfl)
theorem FM(b:Expr){e:CmpOp}(h:e≠.In:=by decide)(f:e≠.NotIn:=by decide):kQ e b=false:=by
 have g:(e==CmpOp.In)=false:=by cases e<;>first|rfl|exact absurd rfl h
 have i:(e==CmpOp.NotIn)=false:=by cases e<;>first|rfl|exact absurd rfl f
 cases b<;>simp[kQ,g,i]
theorem Cj{e:CmpOp}{r:R2}(f:oK X (eZ e) r)(g:PE X a ta)(i:PE X b tb)(j:kQ e b=false):PE X (.Compare a [e] [b] pos) (aK r ta tb):=by
 intro k s σ H Q I h;exact wpAny_Compare1 (IY g i I h fun v u l x y m n o p q=>f k l σ m x y v u Q n o p q) j
def bj(t:TE):TT:=fun σ H Q=>t σ H fun x H'=>∃k,x=.bl k/\Q k H'
theorem Cf{f:CmpOp}{r:R2}(i:oK X (eZ f) r)(j:PE X a ta)(l:PE X b tb)(m:kQ f b=false):PT X (.Compare a [f] [b] pos) (bj (aK r ta tb)):=by
 intro g s σ H Q I h;refine wpAny_isTrue_Compare1 (dk (j g s σ H _ I h) fun v n ⟨x,o,p,q,t⟩=>dk (l g n σ o _ p t) fun u A ⟨y,B,C,D,E⟩ =>
  dk (i g A σ B x y v u _ C q D E) fun c N ⟨z,G,J,L,k,e,M⟩=>?_) m
 subst e;cases L;exact rH ⟨G,J,M⟩
theorem qV:(aj:Nat)<2 ^ 63:=by rw[sizeLine_eq];decide
theorem n5:oK X (rC .Add) (fun x y H Q=>∃i j,x=.str i/\y=.str j/\i.length+j.length<=aj/\Q (.str (i++j)) H):=by
 intro l s σ H x y v u Q I e f h;obtain⟨i,j,rfl,rfl,g,q⟩:=h;obtain⟨t,rfl⟩:=e;obtain⟨k,rfl⟩:=f;exact add_str (fun k tk=>⟨.str (i++j),H,I.tok _,⟨_,rfl⟩,q⟩) g
theorem vals1{x:V}{e:Zf}(r:bC [x] e):∃u,e=[u]/\RelV x u:=by
 cases r with
 |cons f g=>cases g;exact⟨_,rfl,f⟩
theorem vals2{x y:V}{e:Zf}(r:bC [x,y] e):∃u f,e=[u,f]/\RelV x u/\RelV y f:=by
 cases r with
 |cons g h =>
  cases h with
  |cons i j=>cases j;exact⟨_,_,rfl,g,i⟩
end
end L2
namespace L2
open PySem PySem.Spec PyProof.Rows
structure By(h:Heap)(x dx C:Addr)(mA:Str->Option Value):Prop where
 obj:h.get? x=some (rG C dx)
 ns:h.Ns1 dx mA
 ne:dx≠x
theorem DJ{h:Heap}{g:Addr}{i:Str->Option Value}(n:h.Ns1 g i):∃j,h.get? g=some j/\∀name,BS name j=some (i name):=by
 obtain⟨o,k,v,l,m,p,_,r⟩:=n;refine⟨o,l,fun name=>?_⟩;have e:=r name;unfold nsFind findBy at e;rw[<-Array.find?_toList]at e;unfold BS;rw[m];dsimp only;split
 ·rename_i y q;rw[q]at e;exact congrArg some e
 ·rename_i q;rw[q]at e;have a:k.toList.any (·.refKey)=false:=by
   rw[List.any_eq_false];intro y s;obtain⟨z,t,f⟩:=p y (Array.mem_toList_iff.mp s);simp[iU.refKey,f]
  have u:¬k.toList.any (·.refKey)=true:=by rw[a];exact gw
  rw[if_neg u];exact congrArg some e
theorem By.look{h:Heap}{x e C:Addr}{f:Str->Option Value}(I:By h x e C f):∃a,PySem.W.InstAt h x (rG C e) C (some a)/\∀name,BS name a=some (f name) :=
 let⟨a,g,i⟩:=DJ I.ns
 ⟨a,⟨I.obj,rfl,rfl,g⟩,i⟩
section
variable{prog:bP}{w:World}{A:Around}{E:Zc}{s:Shared}{K:Za}{x dx C f:Addr}{mA:Str->Option Value}{name:Str}{v:Value}
theorem HB{a:Bool}{Q:Zc}(X:K.In s.heap)(I:By s.heap x dx C mA)(g:yP K C name=true)(i:BR K C=true)
  (j:fh K (.ref C) name=some none) (k:mA name=some v) (e:PySem.W.handedIn v=true) (h:Q v { s with toks:=s.toks+1 }) :
  wpAny (model prog w) A (getAttr (.ref x) name a) Q E s:=by
 obtain⟨m,J,l⟩:=I.look;exact PySem.W.get_value X J (PySem.W.plainGet_of g).1 (PySem.W.findObj_own i j rfl (by rw[l,k])) e h
theorem FY{e:Sem Bool}{Q:Value×List Value->Shared->Prop}(X:K.In s.heap)(I:By s.heap x dx C mA)(a:yP K C name=true)
  (hf:fh K (.ref C) name=some (some (.ref f))) (g:yO K (.ref f)=true) (i:mA name=none) (h:Q (.ref f,[.ref x]) s) :
  wpAny (model prog w) A (rB (.ref x) name e) Q E s:=by
 obtain⟨j,J,k⟩:=I.look;exact PySem.W.method_fn X J (PySem.W.plainGet_of a).1 (PySem.W.plainGet_of a).2 hf (beq_iff_eq.mp g) (by show(BS name j).map (·.isSome)=some false;rw[k,i];rfl) h
theorem GY{n:Zb}{Q:Unit->Shared->Prop}(X:K.In s.heap)(I:By s.heap x dx C mA)
  (o:fh K (.ref C) "__setattr__"=some (some (.builtin "object.__setattr__"))) (p:PySem.W.plainOver K C=true) (q:PySem.W.takerIn K C name=some none) (t:BR K C=true)
  (u:PySem.Within mA n) (z:n.length<=aj)
  (h:∀i,By i x dx C (fun y=>if y=name then some v else mA y)->gy dx s.heap i->Q () { s with heap:=i,toks:=s.toks+2 }) :
  wpAny (model prog w) A (setAttr (.ref x) name v) Q E s:=by
 obtain⟨H,J,L⟩:=I.look;refine PySem.W.set_plain X J o (PySem.W.osa_open (s:={ s with toks:=s.toks+1 }) (r:=none) X J p q fun b=>?_);obtain⟨M,B,j⟩:=PySem.W.any_some t;have hx:s.heap.get? x=some ⟨.ref C,some dx,.plain,#[]⟩:=I.obj;refine ai (aG (ai (ai (wpAny_loadPart hx (ai (PySem.W.Looks.here (s:={ s with toks:=s.toks+1 }) (PySem.W.looks_clsIn X B) ?_))))));rw[j];refine aG (a:=some dx) (ai (aG (ai ?_)));refine wpAny_nsSet1 (s:={ s with toks:=s.toks+1 }) I.ns fun i e g=>?_;obtain⟨N,D,G,k,l,m⟩:=e.count (PySem.Within.cons name v u);refine ai (wpAny_lookBehind k (by rw[l];exact pastItsLine_dict (bz m (by rw[eO];omega))) ?_);exact aG (h _ ⟨(g.2 _ (hV I.ne)).trans I.obj,e,I.ne⟩ g)
theorem FR{R:Result->Shared->Prop}{a:Zf}{e:List (Str×Value)}(X:K.In s.heap)(i:yN K C=true)
  (hi:fh K (.ref C) "__init__"=some (some (.ref f))) (hf:PySem.W.typeIn K (.ref f)=some (.type "function"))
  (h:zzl77 (model prog w) (A.under (.builtin "type.__call__" ⟨.ref C::a,e⟩)) (.call (.ref f) ⟨.ref (s.heap.objs.size+1)::a,e⟩) (PySem.W.InitBack (s.heap.objs.size+1) R)
   { s with heap:=(s.heap.push oM).push (rG C s.heap.objs.size) }) :
  zzl77 (model prog w) A (.call (.ref C) ⟨a,e⟩) R s:=by
 obtain⟨j,g,d,t,os⟩:=s;exact PySem.W.make_core (PySem.W.makes_of X i) (PySem.W.looks_findIn X hi) (fun self=>PySem.W.bind_fn X self hf) (.inl rfl) h
end
def dR(f:Str)(v:V):List (Str×V)->List (Str×V)
 |[]=>[(f,v)]
 | (g,x)::r=>if g=f then(g,v)::r else(g,x)::dR f v r
theorem fR(f g:Str)(v:V):∀fs:List (Str×V),(dR f v fs).lookup g=if g=f then some v else fs.lookup g
 |[]=>by
  show k6 g [(f,v)]=_;by_cases h:g=f
  ·have a:(g==f)=true:=beq_iff_eq.mpr h;simp only[k6,a,if_pos h]
  ·have a:(g==f)=false:=beq_eq_false_iff_ne.mpr h;simp only[k6,a,if_neg h]
 | (k,x)::r=>by
  have j:=fR f g v r;rw[show dR f v ((k,x)::r)=(if k=f then(k,v)::r else(k,x)::dR f v r)from rfl]
  by_cases i:k=f
  ·rw[if_pos i];by_cases h:g=k
   ·have a:(g==k)=true:=beq_iff_eq.mpr h;simp only[k6,a,if_pos (h.trans i)]
   ·have a:(g==k)=false:=beq_eq_false_iff_ne.mpr h;simp only[k6,a,if_neg (fun e:g=f=>h (e.trans i.symm))]
  ·rw[if_neg i];by_cases h:g=k
   ·have a:(g==k)=true:=beq_iff_eq.mpr h;simp only[k6,a,if_neg (fun e:g=f=>i (h.symm.trans e))]
   ·have a:(g==k)=false:=beq_eq_false_iff_ne.mpr h;simp only[k6,a];exact j
theorem qW(f:Str)(v:V):∀fs:List (Str×V),f∈(dR f v fs).map (·.1)/\∀g,g∈fs.map (·.1)->g∈(dR f v fs).map (·.1)
 |[]=>⟨by simp[dR],fun g h=>by simp at h⟩
 | (k,x)::r=>by
  obtain⟨i,j⟩:=qW f v r;rw[show dR f v ((k,x)::r)=(if k=f then(k,v)::r else(k,x)::dR f v r)from rfl]
  by_cases a:k=f
  ·rw[if_pos a];subst a;exact⟨by simp,fun g h=>by simpa using h⟩
  ·rw[if_neg a];refine⟨?_,fun g h=>?_⟩
   ·rw[cg];exact fX _ i
   ·rw[cg]at h ⊢;rcases c8.mp h with e|e
    ·exact c8.mpr (.inl e)
    ·exact fX _ (j g e)
theorem rL(f:Str)(v:V):∀fs:List (Str×V),(dR f v fs).length<=fs.length+1
 |[]=>by simp[dR]
 | (k,x)::r=>by
  have e:=rL f v r;rw[show dR f v ((k,x)::r)=(if k=f then(k,v)::r else(k,x)::dR f v r)from rfl]
  by_cases a:k=f
  ·rw[if_pos a,eO,eO];omega
  ·rw[if_neg a,eO,eO];omega
theorem kY.some_of{v:V}{o:Option Value}(r:kY (some v) o):∃u,o=some u/\RelV v u:=by
 cases o with
 |none=>exact(show False from r).elim
 |some u=>exact⟨u,rfl,r⟩
theorem kY.none_of{o:Option Value}(r:kY none o):o=none:=by
 cases o with
 |none=>rfl
 |some u=>exact(show False from r).elim
theorem DS{v:V}{u:Value}(r:RelV v u):PySem.W.handedIn u=true:=by
 cases v with
 |non=>cases(show u=Value.none from r);rfl
 |bl b=>cases(show u=Value.bool b from r);rfl
 |int i=>obtain⟨t,e⟩:=(show ∃t,u=Value.int i t from r);cases e;rfl
 |str x=>obtain⟨t,e⟩:=(show ∃t,u=Value.str x t from r);cases e;rfl
 |byt b=>obtain⟨t,e⟩:=(show ∃t,u=Value.bytes b t from r);cases e;rfl
 |flt b=>obtain⟨t,e⟩:=(show ∃t,u=Value.float b t from r);cases e;rfl
 |ref a=>cases(show u=Value.ref a from r);rfl
 |ty n=>cases(show u=Value.type n from r);rfl
section
variable{P:bP}{w:World}{H H':Hp}{h h':Heap}{a C dx:Addr}{fs fs':List (Str×V)}
theorem sY{K:Za}(i:mK P w K H h)(e:H a=some (.ins C dx fs)):∃g,By h a dx C g/\(∀f,kY (fs.lookup f) (g f))/\PySem.Within g (fs.map (·.1))/\fs.length<=1000/\H dx=some (.own a):=by
 obtain⟨d,z,ne,j,g,n,r,q⟩:=(show cq P w K H h a (.ins C dx fs)from i a _ e);exact⟨g,⟨j,n,ne⟩,r,q,z,d⟩
end
structure Er(K:Za)(C:Addr):Prop where
 pg:yP K C Str.empty=true
 hd:BR K C=true
 po:PySem.W.plainOver K C=true
 sa:fh K (.ref C) "__setattr__"=some (some (.builtin "object.__setattr__"))
theorem Er.get{K:Za}{C:Addr}(c:Er K C)(f:Str):yP K C f=true:=c.pg
def gp(K:Za)(C:Addr)(f:Str):Prop:=fh K (.ref C) f=some none
theorem gp.taker{K:Za}{C:Addr}{f:Str}(n:gp K C f):PySem.W.takerIn K C f=some none:=by
 unfold PySem.W.takerIn;rw[show fh K (.ref C) f=some none from n]
 rfl
structure HS(K:Za)(C:Addr)(m:Str)(f:Addr):Prop where
 at_:fh K (.ref C) m=some (some (.ref f))
 fn:yO K (.ref f)=true
 kp:jK K (.ref f)=true
section
variable{X:Cx}{J4:Zd}{σ:St}{H:Hp}{s:Shared}{a C dx:Addr}{fs:List (Str×V)}{f:Str}{v:V}{A:Around}{E:Zc}
theorem Bl{b:Bool}{Q:Zc}(I:Inv X J4 σ H s)(e:H a=some (.ins C dx fs))(c:Er X.K C)(n:gp X.K C f)(l:fs.lookup f=some v)
  (h:∀u g,Inv X J4 σ H g->RelV v u->Q u g):wpAny (model X.prog X.w) A (getAttr (.ref a) f b) Q E s:=by
 obtain⟨j,O,r,_,_,_⟩:=sY I.hok e;obtain⟨u,k,i⟩:=kY.some_of (v:=v) (o:=j f) (by rw[<-l];exact r f);exact HB I.kIn O (c.get f) c.hd n k (DS i) (h u _ (I.tok _) i)
theorem uG{m:Str}{g:Addr}{i:Sem Bool}{Q:Value×List Value->Shared->Prop}(I:Inv X J4 σ H s)(e:H a=some (.ins C dx fs))(c:Er X.K C)(k:HS X.K C m g)(l:fs.lookup m=none)
  (h:Q (.ref g,[.ref a]) s):wpAny (model X.prog X.w) A (rB (.ref a) m i) Q E s:=by
 obtain⟨j,O,r,_,_,_⟩:=sY I.hok e;have n:j m=none:=kY.none_of (by rw[<-l];exact r m);exact FY I.kIn O (c.get m) k.at_ k.fn n h
theorem AT{y:V}{u:Value}{Q:Unit->Shared->Prop}(I:Inv X J4 σ H s)(e:H a=some (.ins C dx fs))(c:Er X.K C)(n:gp X.K C f)(M:fs.length<1000)(m:RelV y u)
  (h:∀j,Inv X J4 σ (upd H a (.ins C dx (dR f y fs))) j->Q () j):wpAny (model X.prog X.w) A (setAttr (.ref a) f u) Q E s:=by
 obtain⟨k,O,r,wi,_,l⟩:=sY I.hok e;have p:(fs.map (·.1)).length<=aj:=by rw[ag,sizeLine_eq];omega
 refine GY I.kIn O c.sa c.po n.taker c.hd wi p fun t i B=>h _ ?_;have D:∃o,t.get? dx=some o:=let⟨o,_,_,G,_⟩:=i.ns;⟨o,G⟩;refine I.write (x:=a) (e:=dx) (by rw[e];exact kO) (.inr l) (fun b q J z=>(B.2 b J).trans z) D ?_;refine⟨by rw[am O.ne];exact l,?_,O.ne,i.obj,_,i.ns,fun g=>?_,fun g L=>?_⟩
 ·have:=rL f y fs;omega
 ·show kY ((dR f y fs).lookup g) (if g=f then some u else k g)
  rw[fR];by_cases q:g=f
  ·rw[if_pos q,if_pos q];exact m
  ·rw[if_neg q,if_neg q];exact r g
 ·by_cases q:g=f
  ·rw[q];exact(qW f y fs).1
  ·refine(qW f y fs).2 g (wi g fun z=>L ?_);show(if g=f then some u else k g)=none
   rw[if_neg q];exact z
theorem Inv.made(I:Inv X J4 σ H s):Inv X J4 σ (upd (upd H s.heap.objs.size (.own (s.heap.objs.size+1))) (s.heap.objs.size+1) (.ins C s.heap.objs.size []))
  { s with heap:=(s.heap.push oM).push (rG C s.heap.objs.size) }:=by
 have g:(s.heap.push oM).get? s.heap.objs.size=some oM:=cu s.heap rfl;have h:((s.heap.push oM).push (rG C s.heap.objs.size)).get? (s.heap.objs.size+1)=some (rG C s.heap.objs.size):=by
  have:=cu (s.heap.push oM) (o:=rG C s.heap.objs.size) rfl;rwa[jh]at this
 have i:(s.heap.push oM).Ns s.heap.objs.size (fun _=>none):=⟨oM,#[],_,g,rfl,(fun e j=>absurd j (by simp)),fun _=>rfl⟩;have k:=I.laid (a:=s.heap.objs.size) (o:=.own (s.heap.objs.size+1)) (h':=s.heap.push oM) (t':=s.toks) (fun b u q=>aO _ q) (aP _) ⟨_,g⟩;refine k.laid (a:=s.heap.objs.size+1) (o:=.ins C s.heap.objs.size []) (t':=s.toks) (fun b u q=>aO _ q) (Nat.le_of_eq (jh _ _)) ?_;have ne:s.heap.objs.size≠s.heap.objs.size+1:=cy (Nat.lt_succ_self _);refine⟨by rw[am ne,aa],c7 _,ne,h,fun _=>none,(Heap.Ns1.of_empty i).at fun o q=>aO _ q,fun _=>kO,fun y l=>absurd rfl l⟩
theorem HM{g:bP}{w:World}{i:Env}{e:Expr}{f:Str}{k:Pos}{s:Shared}{Q:Zc}(l:vG e f i (eval e i)=eval e i)
  (h:wpAny (model g w) A (eval e i) (fun o j=>wpAny (model g w) A (getAttr o f true) Q E j) E s):wpAny (model g w) A (eval (.Attribute e f k) i) Q E s :=
 Attribute_any_ h (by rw[arm_eval_Attribute,l])
end
def si(K:Za)(ta:TE)(f:Str):TE:=fun σ H Q=>ta σ H fun x H1=>∃a C dx fs v,x=.ref a/\H1 a=some (.ins C dx fs)/\Er K C/\gp K C f/\fs.lookup f=some v/\Q v H1
def xH(K:Za)(ta tv:TE)(f:Str):TS:=fun D σ H=>tv σ H fun y H1=>ta σ H1 fun x H2=>∃a C dx fs,x=.ref a/\H2 a=some (.ins C dx fs)/\Er K C/\gp K C f/\fs.length<1000 /\
 D.nx σ (upd H2 a (.ins C dx (dR f y fs)))
section
variable{X:Cx}{o e value:Expr}{f:Str}{pos pos' J8:Pos}{ta tv:TE}
theorem iY(i:PE X e ta)(j:vG e f X.env (eval e X.env)=eval e X.env):PE X (.Attribute e f pos) (si X.K ta f):=by
 intro k s σ H Q I h;refine HM j (dk (i k s σ H _ I h) fun u A g=>?_);obtain⟨x,m,p,r,a,C,B,fs,v,ex,t,c,n,l,q⟩:=g;subst ex;obtain rfl:u=Value.ref a:=r;exact Bl p t c n l fun D E y z=>⟨v,m,y,z,q⟩
theorem lI(j:PE X o ta)(k:PE X value tv)(m:tD value (some (.Attribute o f pos')) pos.line X.env=pure false):PS X (.Assign [.Attribute o f pos'] value pos) (xH X.K ta tv f):=by
 intro i s σ H D I h;refine plainObj_wpAny_Assign_Attribute (dk (k i s σ H _ I h) fun u p ⟨y,r,t,v,q⟩=>dk (j i p σ r _ t q) fun z L g=>?_) m;obtain⟨x,M,A,B,a,C,N,fs,ex,E,c,n,l,G⟩:=g;subst ex;obtain rfl:z=Value.ref a:=B;exact AT A E c n l v fun O J=>⟨σ,_,J,G⟩
end
section
variable{X:Cx}{J4:Zd}{σ:St}{H:Hp}{s:Shared}{A:Around}{E:Zc}{Q:Zc}{c:Value}{b:Bool}
inductive jf(K:Za)(H:Hp):V->Value->Prop where
 |non:jf K H .non (.type "NoneType")
 |bl (x:Bool):jf K H (.bl x) (.type "bool")
 |int (i:Int):jf K H (.int i) (.type "int")
 |str (x:Str):jf K H (.str x) (.type "str")
 |flt (x:UInt64):jf K H (.flt x) (.type "float")
 |lst {a:Addr}{xs:List V}(e:H a=some (.lst xs)):jf K H (.ref a) (.type "list")
 |frz {a:Addr}{o:Obj}{xs:List V}(e:H a=some (.frz o (.lst xs))):jf K H (.ref a) (.type "list")
 |tup {a:Addr}{xs:List V}(e:H a=some (.tup xs)):jf K H (.ref a) (.type "tuple")
 |dK {a:Addr}{kvs:List (fu×V)}(e:H a=some (.dK kvs)):jf K H (.ref a) (.type "dict")
 |dT {a:Addr}{kvs:List (TK×V)}(e:H a=some (.dT kvs)):jf K H (.ref a) (.type "dict")
 |ins {a C dx:Addr}{fs:List (Str×V)}(e:H a=some (.ins C dx fs)) (cl:Er K C) (ha:fh K (.ref C) "__class__"=some (some (.builtin "object.__class__")))
   (hn:PySem.W.specialIn K (.builtin "object.__class__") "__get__"=some (some (.builtin "getset_descriptor.__get__"))) (htk:PySem.W.takesIn K (.builtin "object.__class__")=some true)
   (hm:PySem.W.mroIn K C (.type "object")=some true):jf K H (.ref a) (.ref C)
theorem DN{x:V}{u t:Value}(I:Inv X J4 σ H s)(f:RelV x u)(ty:jf X.K H x t)(e:BQ X.K t c=some b)(h:∀tk,Q (.bool b) { s with toks:=tk }):
  wpAny (model X.prog X.w) A (call (.builtin "isinstance") [u,c]) Q E s:=by
 cases ty with
 |non=>cases(show u=Value.none from f);exact jJ PySem.W.kitx_none I.kIn kO e (fun z=>nomatch z) h
 |bl y=>cases(show u=Value.bool y from f);exact jJ PySem.W.kitx_bool I.kIn kO e (fun z=>nomatch z) h
 |int i=>obtain⟨t,q⟩:=(show ∃t,u=Value.int i t from f);cases q;exact jJ PySem.W.kitx_int I.kIn kO e (fun z=>nomatch z) h
 |str y=>obtain⟨t,q⟩:=(show ∃t,u=Value.str y t from f);cases q;exact jJ PySem.W.kitx_str I.kIn kO e (fun z=>nomatch z) h
 |flt y=>obtain⟨t,q⟩:=(show ∃t,u=Value.float y t from f);cases q;exact jJ PySem.W.kitx_float I.kIn kO e (fun z=>nomatch z) h
 |@lst a l g =>
  cases(show u=Value.ref a from f);obtain⟨_,_,n,_,j⟩:=(show cq X.prog X.w X.K H s.heap a (.lst l)from I.hok a _ g);exact jJ PySem.W.kitx_list I.kIn ⟨_,j,rfl⟩ e (fun z=>nomatch z) h
 |@frz a B l g =>
  cases(show u=Value.ref a from f);obtain⟨_,_,_,n,_,j⟩:=(show cq X.prog X.w X.K H s.heap a (.frz B (.lst l))from I.hok a _ g);exact jJ PySem.W.kitx_list I.kIn ⟨_,j,rfl⟩ e (fun z=>nomatch z) h
 |@tup a l g =>
  cases(show u=Value.ref a from f);obtain⟨_,_,_,p⟩:=(show cq X.prog X.w X.K H s.heap a (.tup l)from I.hok a _ g);obtain⟨o,j,m,_⟩:=p;exact jJ PySem.W.kitx_tuple I.kIn ⟨o,j,m⟩ e (fun z=>nomatch z) h
 |@dK a k g =>
  cases(show u=Value.ref a from f);obtain⟨_,_,T,_,p⟩:=(show cq X.prog X.w X.K H s.heap a (.dK k)from I.hok a _ g);obtain⟨o,D,G,j,m,_⟩:=p;exact jJ PySem.W.kitx_dict I.kIn ⟨o,j,m.1⟩ e (fun z=>nomatch z) h
 |@dT a k g =>
  cases(show u=Value.ref a from f);obtain⟨_,_,l,_,o,D,G,j,m,_⟩:=(show cq X.prog X.w X.K H s.heap a (.dT k)from I.hok a _ g);exact jJ PySem.W.kitx_dict I.kIn ⟨o,j,m.1⟩ e (fun z=>nomatch z) h
 |@ins a C U fs g v L M r N =>
  cases(show u=Value.ref a from f);obtain⟨Y,O,_⟩:=sY I.hok g;obtain⟨od,J,_⟩:=O.look;exact jJ (PySem.W.kitx_own (v.get _) v.hd L M r N) I.kIn J e (fun z=>nomatch z) h
end
end L2
namespace L2
open PySem PySem.Spec PyProof.Rows
structure eV(k:Nat)(A:Around):Prop where
 hd:A.handled=none
 dp:A.depth+3 * k+5<recursionLimit
 un:A.units+16 * k+200<cLine
theorem eV.mono{j k:Nat}{A:Around}(r:eV k A)(h:j<=k):eV j A:=⟨r.hd,by have:=r.dp;omega,by have:=r.un;omega⟩
theorem eV.deeper{k:Nat}{A:Around}(r:eV (k+1) A)(a:Env):eV k (A.deeper a) :=
 ⟨r.hd,by have:=r.dp;show A.depth+1+3 * k+5<_;omega,by have:=r.un;show A.units+3+16 * k+200<_;omega⟩
theorem Bg{A:Around}{C:Addr}{a:Zf}{e:List (Str×Value)}:(A.under (.builtin "type.__call__" ⟨.ref C::a,e⟩)).depth=A.depth+1:=by
 first|rfl|simp[Around.under,Code.weight,Code.isCreation,Code.isGuard,Code.isCaller,Code.frames,Code.isFrame,guardIds]
theorem Bf{A:Around}{C:Addr}{a:Zf}{e:List (Str×Value)}:(A.under (.builtin "type.__call__" ⟨.ref C::a,e⟩)).units=A.units+1:=by
 first|rfl|simp[Around.under,Code.cUnits,Code.frames,Code.isFrame]
theorem eV.make{k:Nat}{A:Around}(r:eV (k+1) A)(C:Addr)(a:Zf)(e:List (Str×Value)):eV k (A.under (.builtin "type.__call__" ⟨.ref C::a,e⟩)) :=
 ⟨r.hd,by have:=r.dp;rw[Bg];omega,by have:=r.un;rw[Bf];omega⟩
theorem eV.depth{k:Nat}{A:Around}(r:eV k A):A.depth<recursionLimit:=by have:=r.dp;omega
theorem eV.units{k:Nat}{A:Around}(r:eV k A):A.units+64<cLine:=by have:=r.un;omega
def aY:TA:=fun _ H Q=>Q [] H
def ar(ta:TE)(tr:TA):TA:=fun σ H Q=>ta σ H fun x H1=>tr σ H1 fun xs H2=>Q (x::xs) H2
abbrev aB(a:TE):TA:=ar a aY
abbrev aJ(a b:TE):TA:=ar a (ar b aY)
abbrev dQ(a b c:TE):TA:=ar a (ar b (ar c aY))
section
variable{X:Cx}{e:Expr}{es:List Expr}{te:TE}{t:TA}{pos:Pos}
theorem bd:PA X [] aY:=fun _ _ _ _ H Q I h=>Calls.spliced_nil ⟨[],H,I,.nil,h⟩
theorem bc(g:PE X e te)(i:PA X es t)(j:aQ (e::es) X.env=(false,eval e X.env)::aQ es X.env:=by rfl):PA X (e::es) (ar te t):=by
 intro pos f s σ H Q I h;rw[j];show wpAny _ _ (spliced ((false,eval e X.env)::backTo pos (aQ es X.env))) _ _ s;refine BP (dk (g f s σ H _ I h) fun u k a=>?_);obtain⟨x,l,m,n,o⟩:=a;exact dk (i pos f k σ l _ m o) fun z A ⟨p,q,r,v,y⟩=>⟨x::p,q,r,.cons n v,y⟩
def bX(t:TA):TE:=fun σ H Q=>t σ H fun xs H1=>xs.length<=aj/\∀p,H1 p=none->Q (.ref p) (upd H1 p (.tup xs))
def bF(t:TA):TE:=fun σ H Q=>t σ H fun xs H1=>xs.length<=aj/\∀p,H1 p=none->Q (.ref p) (upd H1 p (.lst xs))
theorem aW{i}(h:PA X es t):PE X (.Tuple es i pos) (bX t):=by
 intro j s σ H Q I k;refine wpAny_Tuple_spliced (dk (h pos j s σ H _ I k) fun l a ⟨m,f,g,r,z,q⟩=>⟨by rw[<-r.length];exact z,?_⟩);have hf:f a.heap.objs.size=none:=g.hok.fresh (aP _);refine⟨.ref a.heap.objs.size,upd f a.heap.objs.size (.tup m),g.laid (t':=a.toks) (fun b u e=>aO _ e) (aP _) ?_,rfl,q _ hf⟩;exact⟨z,l,r,⟨_,cu _ rfl,rfl,_,rfl⟩⟩
theorem aT(h:PA X es t):PE X (.List es pos) (bF t):=by
 intro i s σ H Q I j;refine wpAny_List_spliced (dk (h pos i s σ H _ I j) fun k a ⟨l,f,g,r,z,q⟩=>⟨by rw[<-r.length];exact z,?_⟩);have hf:f a.heap.objs.size=none:=g.hok.fresh (aP _);refine⟨.ref a.heap.objs.size,upd f a.heap.objs.size (.lst l),g.laid (t':=a.toks) (fun b u e=>aO _ e) (aP _) ?_,rfl,q _ hf⟩;exact⟨z,k,0,r,cu _ rfl⟩
end
abbrev Sp:=List V->Hp->VK->XK->Prop
abbrev Ey:=List Env->Hp->Shared->XK->Value->Shared->Prop
structure BJ(P:bP)(w:World)(K:Za)(mg:Str->Option Value)(base:Heap)(A:Around)(outer:List Env)(s:Shared)(H:Hp):Prop where
 frames:A.frames=some outer
 mod:Mod K mg base
 bs:∀b o,base.get? b=some o->s.heap.get? b=some o/\H b=none
 bsz:base.objs.size<=s.heap.objs.size
 funs:s.heap.FunFrames base outer
 frf:∀b∈Eu outer,H b=none
 hok:mK P w K H s.heap
 bare:oN s.gens
def CE(outer:List Env)(P:bP)(w:World)(K:Za)(H:Hp)(s:Shared)(Q:VK)(u:Value)(s':Shared):Prop :=
 ∃v H',s'.os=s.os/\oN s'.gens/\Un (Eu outer) [] H H' s.heap s'.heap/\mK P w K H' s'.heap/\RelV v u/\Q v H'
def CR(CX:Ey)(outer:List Env)(P:bP)(w:World)(K:Za)(H:Hp)(s:Shared)(Q:VK)(E:XK)(r:Result)(s':Shared):Prop :=
 match r with
 |.ok (.ret u)=>CE outer P w K H s Q u s'
 |.ok _=>False
 |.error e=>CX outer H s E e s'
structure l_(P:bP)(w:World)(K:Za)(mg:Str->Option Value)(base:Heap)(CX:Ey)(k:Nat)(f:Addr)(fd:kN)(ps:Zb)(sp:Sp):Prop where
 len:∀vs H Q E,sp vs H Q E->vs.length=ps.length
 run:∀(A:Around) (outer:List Env) (s:Shared) (H:Hp) (args:Args) (us:Zf) (vs:List V) (Q:VK) (E:XK),eV k A->BJ P w K mg base A outer s H->tu s fd args (ps.zip us)->bC vs us->sp vs H Q E ->
  zzl77 (model P w) A (.call (.ref f) args) (CR CX outer P w K H s Q E) s
theorem BJ.make{P:bP}{w:World}{K:Za}{a:Str->Option Value}{base:Heap}{A:Around}{outer:List Env}{s:Shared}{H:Hp}(e:BJ P w K a base A outer s H)(C:Addr)(f:Zf)(g:List (Str×Value)):
  BJ P w K a base (A.under (.builtin "type.__call__" ⟨.ref C::f,g⟩)) outer s H:=⟨by first|exact e.frames|(simpa[Around.under,Code.envs,Code.isFrame,pushEnvs]using e.frames),e.mod,e.bs,e.bsz,e.funs,e.frf,e.hok,e.bare⟩
section
variable{X:Cx}{J4:Zd}{σ:St}{H:Hp}{s s':Shared}
theorem Inv.env0(I:Inv X J4 σ H s):BJ X.prog X.w X.K X.mg X.base X.A X.stack s H :=
 ⟨I.ok.frames,I.ok.mod,I.bs,bz I.ok.bsz I.sz,I.stack,I.stkFree,I.hok,I.bare⟩
theorem Inv.after{Q:VK}{u:Value}(I:Inv X J4 σ H s)(h:CE X.stack X.prog X.w X.K H s Q u s'):EP X J4 σ Q u s':=by
 obtain⟨v,i,os,a,un,e,r,q⟩:=h;obtain⟨j,g,d,t,f⟩:=s';obtain rfl:f=s.os:=os;exact⟨v,i,I.call (h':=j) (g':=g) (d':=d) (t':=t) (ch:=[]) un e a (fun b z=>absurd z (by simp)),r,q⟩
end
def HZ(sp:Sp)(dvs:List V)(E:XK)(t:TA):TE:=fun σ H Q=>t σ H fun vs H1=>sp (vs++dvs) H1 Q E
def bR(C:Addr)(m:Str)(sp:Sp)(dvs:List V)(E:XK)(ta:TE)(t:TA):TE:=fun σ H Q=>ta σ H fun x H1=>∃a dx fs,x=.ref a/\H1 a=some (.ins C dx fs)/\fs.lookup m=none /\
 t σ H1 fun vs H2=>sp (x::(vs++dvs)) H2 Q E
def Cb(C:Addr)(sp:Sp)(dvs:List V)(E:XK)(t:TA):TE:=fun σ H Q=>t σ H fun vs H1=>∀x dx,H1 x=none->H1 dx=none->dx≠x ->
 sp (.ref x::(vs++dvs)) (upd (upd H1 dx (.own x)) x (.ins C dx [])) (fun v H2=>v=.non/\Q (.ref x) H2) E
def Binds(K:Za)(fd:kN)(ps:Zb)(ds:Zf):Prop :=
 ∀(s:Shared) (us:Zf),K.In s.heap->(us++ds).length=ps.length->tu s fd ⟨us,[]⟩ (ps.zip (us++ds))
theorem Binds.all{K:Za}{f:kN}{e:Zb}(h:∀a:List Value,a.length=e.length->bindArgs f ⟨a,[]⟩=pure (e.zip a)):Binds K f e []:=fun s a _ g=>by
 rw[cM]at g ⊢;exact .of_eq (h a g)
def oq(CX:Ey)(X:Cx)(E:XK):Prop:=∀(J4:Zd) (σ:St) (H:Hp) (s:Shared) (e:Value) (s':Shared),Inv X J4 σ H s->CX X.stack H s E e s'->X.xe e s'
section
variable{X:Cx}{CX:Ey}{k:Nat}{f C:Addr}{fd:kN}{ps:Zb}{sp:Sp}{dvs:List V}{ds:Zf}{E:XK}{x m:Str}{p pos J6:Pos}{e o:Expr}{es:List Expr}{ta:TE}{t:TA}
theorem AU{g:Zd}{σ:St}{H:Hp}{s:Shared}{Q:VK}{us:Zf}{vs:List V}(F:l_ X.prog X.w X.K X.mg X.base CX k f fd ps sp)(j:eV k X.A)(l:Binds X.K fd ps ds)(n:bC dvs ds)(hx:oq CX X E)
  (I:Inv X g σ H s) (r:bC vs us) (h:sp (vs++dvs) H Q E):wpAny (model X.prog X.w) X.A (call (.ref f) us) (EP X g σ Q) X.xe s:=by
 have i:bC (vs++dvs) (us++ds):=r.append n;have q:(us++ds).length=ps.length:=by rw[<-i.length];exact F.len _ _ _ _ h
 refine wpAny_call (BO (F.run X.A X.stack s H ⟨us,[]⟩ (us++ds) (vs++dvs) Q E j I.env0 (l s us I.kIn q) i h) fun r v a=>?_);cases r with
 |error e=>exact hx g σ H s e v I a
 |ok y =>
  cases y with
  |ret u=>exact I.after a
  |next=>exact jL a
  |brk=>exact jL a
  |cont=>exact jL a
theorem Ht(F:l_ X.prog X.w X.K X.mg X.base CX k f fd ps sp)(j:eV k X.A)(l:Gl X x)(n:X.mg x=some (.ref f))(u:jK X.K (.ref f)=true)(v:Binds X.K fd ps ds)(y:bC dvs ds)(hx:oq CX X E)
  (z:PA X (e::es) t) (a:(x==("__debug__":Str))=false:=by decide) (B:aQ (e::es) X.env=(false,eval e X.env)::aQ es X.env:=by rfl) (g:(backTo pos (aQ es X.env)).any (·.1)=false:=by rfl) :
  PE X (.Call (.Name x p) (e::es) [] pos) (HZ sp dvs E t):=by
 intro D s σ H Q I h;refine BN (xT I l n ?_ a);refine PySem.W.callWith_K (h₀:=X.base) I.ok.mod.kin u (dk (z pos D s σ H _ I h) fun G J ⟨L,M,i,r,q⟩=>⟨i.kIn,?_⟩) B g;exact AU F j v y hx i r q
theorem Ho{pl:Sem Bool}(D:PE X o ta)(c:Er X.K C)(n:HS X.K C m f)(F:l_ X.prog X.w X.K X.mg X.base CX k f fd ps sp)(G:eV k X.A)(J:Binds X.K fd ps ds)(L:bC dvs ds)(hx:oq CX X E)(M:PA X (e::es) t)
  (g:aQ (e::es) X.env=(false,eval e X.env)::aQ es X.env:=by rfl) (i:(backTo pos (aQ es X.env)).any (·.1)=false:=by rfl)
  (N:eval (.Call (.Attribute o m J6) (e::es) [] pos) X.env=(do
   let v <- eval o X.env
   rE J6.atName
   let(f,first) <- kP [v] (rB v m pl)
   vF pos f first (backTo pos (aQ (e::es) X.env)) (rA pos (rq [] X.env))):=by rfl) :
  PE X (.Call (.Attribute o m J6) (e::es) [] pos) (bR C m sp dvs E ta t):=by
 intro y s σ H Q I h;refine PySem.W.methodCall_KW (pl:=pl) (dk (D y s σ H _ I h) fun u O j=>?_) N;obtain⟨x,T,z,U,a,dx,fs,ex,Y,l,q⟩:=j;subst ex;obtain rfl:u=Value.ref a:=U;refine uG z Y c n l ?_;refine PySem.W.callWith_K (first:=[.ref a]) (h₀:=X.base) I.ok.mod.kin n.kp (dk (M pos y O σ T _ z q) fun us s2 ⟨vs,H2,B,r,q2⟩=>⟨B.kIn,?_⟩) g i
 exact AU (us:=.ref a::us) (vs:=.ref a::vs) F G J L hx B (.cons rfl r) q2
theorem FF{pl:Sem Bool}(r:PE X o ta)(c:Er X.K C)(j:HS X.K C m f)(F:l_ X.prog X.w X.K X.mg X.base CX k f fd ps sp)(v:eV k X.A)(y:Binds X.K fd ps ds)(z:bC dvs ds)(hx:oq CX X E)
  (B:eval (.Call (.Attribute o m J6) [] [] pos) X.env=(do
   let n <- eval o X.env
   rE J6.atName
   let(f,first) <- kP [n] (rB n m pl)
   vF pos f first (backTo pos (aQ [] X.env)) (rA pos (rq [] X.env))):=by rfl) :
  PE X (.Call (.Attribute o m J6) [] [] pos) (bR C m sp dvs E ta aY):=by
 intro D s σ H Q I h;refine PySem.W.methodCall_KW (pl:=pl) (dk (r D s σ H _ I h) fun u L g=>?_) B;obtain⟨x,M,i,G,a,N,fs,ex,J,l,q⟩:=g;subst ex;obtain rfl:u=Value.ref a:=G;refine uG i J c j l ?_;exact PySem.W.callWith_K0 (first:=[.ref a]) i.kIn j.kp (AU (us:=[.ref a]) (vs:=[.ref a]) F v y z hx i (.cons rfl .nil) q)
structure Mk(K:Za)(C f:Addr):Prop where
 makes:yN K C=true
 init:fh K (.ref C) "__init__"=some (some (.ref f))
 fn:yO K (.ref f)=true
 kp:jK K (.ref C)=true
theorem EZ{l:Zd}{σ:St}{H:Hp}{s:Shared}{Q:VK}{g:Zf}{n:List V}(M:Mk X.K C f)(F:l_ X.prog X.w X.K X.mg X.base CX k f fd ps sp)(z:eV (k+1) X.A)(B:Binds X.K fd ps ds)(D:bC dvs ds)
  (hx:oq CX X E) (I:Inv X l σ H s) (r:bC n g)
  (h:∀x i,H x=none->H i=none->i≠x->sp (.ref x::(n++dvs)) (upd (upd H i (.own x)) x (.ins C i [])) (fun v G=>v=.non/\Q (.ref x) G) E) :
  wpAny (model X.prog X.w) X.A (call (.ref C) g) (EP X l σ Q) X.xe s:=by
 have q:=h (s.heap.objs.size+1) s.heap.objs.size (I.hok.fresh (BM _)) (I.hok.fresh (aP _)) (cy (Nat.lt_succ_self _));have j:=Inv.made (C:=C) I;have y:bC (V.ref (s.heap.objs.size+1)::(n++dvs)) (Value.ref (s.heap.objs.size+1)::(g++ds)):=.cons rfl (r.append D);have J:(Value.ref (s.heap.objs.size+1)::g++ds).length=ps.length:=by
  have e:=y.length;rw[F.len _ _ _ _ q]at e;exact e.symm
 refine wpAny_call (FR (f:=f) I.kIn M.makes M.init (beq_iff_eq.mp M.fn) (BO (F.run _ X.stack _ _ ⟨Value.ref (s.heap.objs.size+1)::g,[]⟩ (Value.ref (s.heap.objs.size+1)::(g++ds)) _ _ E (z.make C g [])
  (j.env0.make C g []) (B _ (Value.ref (s.heap.objs.size+1)::g) j.kIn J) y q) fun r L a=>?_))
 cases r with
 |error e=>exact hx l σ _ _ e L j a
 |ok N =>
  cases N with
  |ret u =>
   obtain⟨v,O,T,U,Y,q3⟩:=j.after a;subst Y;exact⟨U,⟨V.ref (s.heap.objs.size+1),O,T,rfl,q3⟩⟩
  |next=>exact jL a
  |brk=>exact jL a
  |cont=>exact jL a
theorem Hq(M:Mk X.K C f)(F:l_ X.prog X.w X.K X.mg X.base CX k f fd ps sp)(j:eV (k+1) X.A)(l:Gl X x)(n:X.mg x=some (.ref C))(u:Binds X.K fd ps ds)(v:bC dvs ds)(hx:oq CX X E)
  (y:PA X (e::es) t) (a:(x==("__debug__":Str))=false:=by decide) (z:aQ (e::es) X.env=(false,eval e X.env)::aQ es X.env:=by rfl) (g:(backTo pos (aQ es X.env)).any (·.1)=false:=by rfl) :
  PE X (.Call (.Name x p) (e::es) [] pos) (Cb C sp dvs E t):=by
 intro B s σ H Q I h;refine BN (xT I l n ?_ a);refine PySem.W.callWith_K (h₀:=X.base) I.ok.mod.kin M.kp (dk (y pos B s σ H _ I h) fun D G ⟨J,L,i,r,q⟩=>⟨i.kIn,?_⟩) z g;exact EZ M F j u v hx i r q
end
structure kF(N P:Zb)(sc:Scope):Prop where
 kind:sc.kind=.function
 co:sc.isCoroutine=false
 gen:sc.isGenerator=false
 nd:N.Nodup
 pre:N.take P.length=P
 par:∀x∈P,sc.names.lookup x=some .local∨sc.names.lookup x=some .cell
 nofree:∀y∈sc.names,y.2≠.free
theorem we{kindOf:Str->Option jI}{x:Str}:∀{binds:List (Str×Value)}{m:Str->Option Value},(∀v,(x,v)∉binds)->bindL kindOf binds m x=m x
 |[],_,_=>rfl
 | (n,v)::r,m,h=>by
  unfold bindL;rw[we fun w a=>h w (fX _ a)];split
  ·have:x≠n:=by rintro rfl;exact h v dS
   simp[this]
  ·rfl
theorem wg{kindOf:Str->Option jI}{x:Str}:∀{binds:List (Str×Value)}{m:Str->Option Value},(∀v,(x,v)∉binds)->bindC kindOf binds m x=m x
 |[],_,_=>rfl
 | (n,v)::r,m,h=>by
  unfold bindC;rw[wg fun w a=>h w (fX _ a)];split
  ·rfl
  ·have:x≠n:=by rintro rfl;exact h v dS
   simp[this]
theorem wf{kindOf:Str->Option jI}{x:Str}{v:Value}:∀{P:Zb}{a:Zf}{i:Nat}{m:Str->Option Value},P.Nodup->P[i]?=some x->a[i]?=some v->kindOf x=some .local ->
  bindL kindOf (P.zip a) m x=some v
 |[],_,_,_,_,h,_,_=>by simp at h
 |_::_,[],_,_,_,_,h,_=>by simp at h
 |p::P,w::a,0,m,g,e,f,j=>by
  simp at e f;subst e;subst f;show bindL kindOf ((p,w)::P.zip a) m p=_;unfold bindL;rw[we fun v k=>(k5.mp g).1 (List.of_mem_zip k).1,if_pos j];simp
 |p::P,w::a,i+1,m,g,e,f,j=>by
  show bindL kindOf ((p,w)::P.zip a) m x=_;unfold bindL;exact wf (i:=i) (k5.mp g).2 (by simpa using e) (by simpa using f) j
theorem wj{kindOf:Str->Option jI}{x:Str}{v:Value}:∀{P:Zb}{a:Zf}{i:Nat}{m:Str->Option Value},P.Nodup->P[i]?=some x->a[i]?=some v->kindOf x≠some .local ->
  bindC kindOf (P.zip a) m x=some v
 |[],_,_,_,_,h,_,_=>by simp at h
 |_::_,[],_,_,_,_,h,_=>by simp at h
 |p::P,w::a,0,m,g,e,f,j=>by
  simp at e f;subst e;subst f;show bindC kindOf ((p,w)::P.zip a) m p=_;unfold bindC;rw[wg fun v k=>(k5.mp g).1 (List.of_mem_zip k).1,if_neg j];simp
 |p::P,w::a,i+1,m,g,e,f,j=>by
  show bindC kindOf ((p,w)::P.zip a) m x=_;unfold bindC;exact wj (i:=i) (k5.mp g).2 (by simpa using e) (by simpa using f) j
def start(N:Zb)(vs:List V):St:=vs.map some++tq (N.length-vs.length) none
def Bq(CX:Ey)(P:bP)(w:World)(K:Za)(mg:Str->Option Value)(base:Heap)(N:Zb)(qual:Str)(scope:Scope)(f:Addr)(cd:Value)(A:Around)(outer:List Env)(s:Shared)(H:Hp)(E:XK):Cx where
 prog:=P
 w:=w
 K:=K
 mg:=mg
 base:=base
 A:=A.deeper (envOfC qual scope s.heap.objs.size f cd)
 N:=N
 s₀:=s
 H₀:=H
 env:=envOfC qual scope s.heap.objs.size f cd
 outer:=outer
 stack:=envOfC qual scope s.heap.objs.size f cd::outer
 ex:=[]
 calm:=true
 fn:=fun _=>true
 pn:=[]
 xe:=fun e s'=>wpAny (model P w) (A.deeper (envOfC qual scope s.heap.objs.size f cd)) (leaving (envOfC qual scope s.heap.objs.size f cd) e) (fun _ s''=>CX outer H s E e s'') (fun e' s''=>CX outer H s E e' s'') s'
theorem Ag{a:Scope}{n:Nat}{x:Str}(h:a.names.lookup x=some .cell):∃c,(cellsFrom n a.names []).lookup x=some c:=by
 have q:=PySem.W.cellsFrom_some a.names n [] (.inl h);exact xg.mp q
theorem DP{L:Ey}{P:bP}{w:World}{K:Za}{I:Str->Option Value}{base:Heap}{N m:Zb}{g:Str}{scope:Scope}{f:Addr}{D:Value}{A:Around}{outer:List Env}{s M:Shared}{H:Hp}{E:XK}{J:Zf}{o:List V}
  (S:kF N m scope) (T:A.handled=none) (l:BJ P w K I base A outer s H) (hl:o.length=m.length) (r:bC o J)
  (x:InCallC s s.heap.objs.size (bindL (envOfC g scope s.heap.objs.size f D).kindOf (m.zip J) fun _=>none) (cellsFrom (s.heap.objs.size+1) scope.names []) (bindC (envOfC g scope s.heap.objs.size f D).kindOf (m.zip J) fun _=>none) M) :
  Inv (Bq L P w K I base N g scope f D A outer s H E) [] (start N o) H M:=by
 have U:m.length<=N.length:=by have:=congrArg List.length S.pre;rw[aM]at this;omega
 obtain⟨G,tk,rfl,O⟩:=x.done;have t:∀b:Addr,b∉(Bq L P w K I base N g scope f D A outer s H E).ex:=fun b z=>absurd (show b∈([]:Ze)from z) (by simp);refine⟨⟨l.mod,S.kind,rfl,rfl,aP _,fun y z c G j=>?_,fun y hy=>?_,fun y c _ h=>?_,fun _=>T,Around.frames_deeper l.frames,.inr ⟨rfl,rfl⟩,fun b z=>absurd z (t b),l.bs,l.bsz,fun b _ _=>t b,fun b z=>absurd z (t b),l.funs,l.frf⟩,
  rfl,l.bare,Un.kept O,⟨_,x.toInCall.ns,fun i y v G j h3=>?_⟩,fun y c h=>⟨_,x.cell y c h⟩,l.hok.fresh (aP _),fun y c h=>?_,fun p B=>absurd (show p∈([]:Zd)from B) (by simp),l.hok.kept O,?_⟩
 ·exact name_of_addr x.apart (tV G) (tV j)
 ·have hy:scope.names.lookup y=some .cell∨scope.names.lookup y=some .free:=hy;rcases hy with hy|hy
  ·exact Ag hy
  ·exact absurd rfl (S.nofree _ (tV hy))
 ·exact cV (x.above y c (tV h))
 ·have hi:i<o.length:=by
   unfold start at j;by_cases hi:i<o.length
   ·exact hi
   ·rw[xf (by simpa using hi)]at j;rw[List.getElem?_replicate]at j;split at j<;>cases j
  have Y:o[i]?=some v:=by
   unfold start at j;rw[qw (by simpa using hi),du]at j;cases e:o[i]? with
   |none=>rw[e]at j;cases j
   |some a=>rw[e]at j;cases j;rfl
  obtain⟨u,Q,rv⟩:=r.get Y;have B:m[i]?=some y:=by
   rw[<-S.pre,nL (by omega)];exact G
  have C:m.Nodup:=by rw[<-S.pre];exact S.nd.sublist (List.take_sublist _ _)
  refine⟨u,rv,?_⟩;rcases S.par y (bW B)with k|k
  ·exact .inl ⟨k,wf C B Q k⟩
  ·obtain⟨c,e⟩:=Ag (n:=s.heap.objs.size+1) k;refine .inr ⟨.inl k,c,e,?_⟩;have q:=x.cell y c e;rw[wj C B Q (by show scope.names.lookup y≠_;rw[k];decide)]at q;exact q
 ·exact l.hok.fresh (cV (x.above y c (tV h)))
 ·unfold start;show _=N.length;rw[aS,ag,List.length_replicate];omega
theorem JF{D:Ey}{P:bP}{w:World}{K:Za}{G:Str->Option Value}{base:Heap}{k:Nat}{f:Addr}{name a:Str}{params:Arguments}{h:List Stmt}{scope:Scope}{dV kV doc pm g ct oc:Value}{an od:Option Addr}
  {L:Array (Option Value)}{N ps:Zb}{M:Sp}(lk:K.lookup f=some ⟨oc,od,.func (iV name a params h scope dV kV doc pm an g ct),L⟩) (O:nK K g a=true) (S:kF N ps scope)
  (len:∀i H Q E,M i H Q E->i.length=ps.length)
  (j:∀(A:Around) (outer:List Env) (s:Shared) (H:Hp) (i:List V) (Q:VK) (E:XK),eV k (A.deeper (envOfC a scope s.heap.objs.size f g))->M i H Q E ->
   ∃t,Ax (Bq D P w K G base N a scope f g A outer s H E) h t/\t (bS Q) (start N i) H) :
  l_ P w K G base D (k+1) f (iV name a params h scope dV kV doc pm an g ct) ps M:=by
 refine⟨len,fun A outer s H args us i Q E T z hb r B=>?_⟩;have hl:=len _ _ _ _ B;have KX:K.In s.heap:=z.mod.kin.keeps fun b o e=>(z.bs b o e).1;have U:s.heap.NoLimit:=z.mod.nolimit.keeps fun b o e=>(z.bs b o e).1;have l:∀y∈ps.zip us,scope.names.lookup y.1=some .local∨(scope.names.lookup y.1=some .cell/\((cellsFrom (s.heap.objs.size+1) scope.names []).lookup y.1).isSome=true):=fun⟨n,v⟩ hy=>by
  rcases S.par n (List.of_mem_zip hy).1 with q|q
  ·exact .inl q
  ·exact .inr ⟨q,PySem.W.cellsFrom_some _ _ _ (.inl q)⟩
 refine codeAny_call_function T.depth (KX _ _ lk) rfl S.co S.gen rfl (PySem.W.codeRec_of KX O) (hb _ _ _ _ ?_);refine wpAny_newFunctionEnv_cells S.kind l fun al he s1 x=>?_;subst he;refine⟨U.keeps x.toInCall.keep,codeAny_func ?_⟩;obtain⟨t,ht,hq⟩:=j A outer s H i Q E (T.deeper _) B;have I:Inv (Bq D P w K G base N a scope f g A outer s H E) [] (start N i) H s1:=DP S T.hd z hl r x;refine oO (ht [] s1 (start N i) H _ I hq) (fun fl Y m=>?_) fun e Y m=>m;have C:∀{σ':St}{p:Hp}{v:V}{u:Value},Inv (Bq D P w K G base N a scope f g A outer s H E) [] σ' p Y->RelV v u->Q v p->CE outer P w K H s Q u Y :=
  fun{σ' p v u} J rv q=>⟨v,p,J.os,J.bare,J.base,J.hok,rv,q⟩
 cases fl with
 |ret u =>
  obtain⟨v,σ',p,J,rv,q⟩:=m;exact C J rv q
 |next =>
  obtain⟨σ',p,J,q⟩:=m;exact C (v:=V.non) (u:=Value.none) J rfl q
 |brk =>
  obtain⟨_,_,_,q⟩:=m;exact jL q
 |cont =>
  obtain⟨_,_,_,q⟩:=m;exact jL q
end L2
namespace L2
open PySem PySem.Spec PyProof.Rows
section
variable{X:Cx}{x:Str}{p pos:Pos}{e:Expr}{es:List Expr}{t:TA}{id T:String}{r:List V->Hp->VK->Prop}
def eE(r:List V->Hp->VK->Prop)(t:TA):TE:=fun σ H Q=>t σ H fun vs H1=>r vs H1 Q
theorem zM(i:fU X (.builtin id) r)(j:Gl X x)(k:X.mg x=none)(l:ji x=some (.builtin id))(m:PA X (e::es) t)(n:x≠"__name__":=by decide)(a:(x==("__debug__":Str))=false:=by decide)
  (o:aQ (e::es) X.env=(false,eval e X.env)::aQ es X.env:=by rfl) (f:(backTo pos (aQ es X.env)).any (·.1)=false:=by rfl):PE X (.Call (.Name x p) (e::es) [] pos) (eE r t):=by
 intro g s σ H Q I h;refine BN (lY I j k l ?_ n a);exact PyProof.Rows.callWith_builtin1 (dk (m pos g s σ H _ I h) fun q u ⟨v,y,z,A,B⟩=>i g u σ y v q Q z A B) o f
theorem gH(i:fU X (.type T) r)(j:Gl X x)(k:X.mg x=none)(l:ji x=some (.type T))(m:PA X (e::es) t)(n:x≠"__name__":=by decide)(a:(x==("__debug__":Str))=false:=by decide)
  (o:aQ (e::es) X.env=(false,eval e X.env)::aQ es X.env:=by rfl) (f:(backTo pos (aQ es X.env)).any (·.1)=false:=by rfl):PE X (.Call (.Name x p) (e::es) [] pos) (eE r t):=by
 intro g s σ H Q I h;refine BN (lY I j k l ?_ n a);exact vH (dk (m pos g s σ H _ I h) fun q u ⟨v,y,z,A,B⟩=>i g u σ y v q Q z A B) o f
end
end L2
namespace HT
open PySem PyProof.Rows
section
variable{prog:bP}{w:World}{A:Around}{E:Zc}{s:Shared}
def sIx(n d:Nat):Option Int->Nat
 |none=>d
 |some v=>if v<0 then(v+(n:Int)).toNat else min v.toNat n
theorem sIx_none(n d:Nat):sIx n d none=d:=rfl
theorem sIx_nat(n d k:Nat):sIx n d (some (k:Int))=min k n:=by
 show(if(k:Int)<0 then((k:Int)+(n:Int)).toNat else min (k:Int).toNat n)=min k n
 rw[if_neg (by omega),jA]
theorem sIx_le(n d:Nat)(e:d<=n)(o:Option Int):sIx n d o<=n:=by
 cases o with
 |none=>exact e
 |some v =>
  show(if v<0 then(v+(n:Int)).toNat else min v.toNat n)<=n
  by_cases a:v<0
  ·rw[if_pos a];omega
  ·rw[if_neg a];exact Nat.min_le_right _ _
theorem clip_eq(v:Int)(n d:Nat):(if v<0 then max (v+(n:Int)) 0 else min v (n:Int))=((sIx n d (some v):Nat):Int):=by
 show(if v<0 then max (v+(n:Int)) 0 else min v (n:Int))=(((if v<0 then(v+(n:Int)).toNat else min v.toNat n):Nat):Int)
 by_cases a:v<0
 ·simp only[if_pos a];omega
 ·simp only[if_neg a];omega
end
end HT
namespace L2
open PySem PySem.Spec PyProof.Rows
abbrev TO:=St->Hp->(Option Int->Hp->Prop)->Prop
def PO(X:Cx)(e:Option Expr)(t:TO):Prop :=
 ∀(J4:Zd) (s:Shared) (σ:St) (H:Hp) (Q:Option Int->Hp->Prop),Inv X J4 σ H s->t σ H Q ->
  wpAny (model X.prog X.w) X.A (evalPart e X.env) (fun u s'=>∃o H',Inv X J4 σ H' s'/\IsPart u o/\Q o H') X.xe s
def g_:TO:=fun _ H Q=>Q none H
def kS(t:TE):TO:=fun σ H Q=>t σ H fun x H1=>∃i,x=.int i/\Q (some i) H1
section
variable{X:Cx}{e:Expr}{te:TE}{lo hi:Option Expr}{tl th:TO}{pos p2:Pos}
theorem iF:PO X none g_:=by
 intro a s σ H Q I h;rw[evalPart_none];exact aG ⟨none,H,I,.none,h⟩
theorem ga(h:PE X e te):PO X (some e) (kS te):=by
 intro f s σ H Q I g;rw[evalPart_some];refine dk (h f s σ H _ I g) fun u n a=>?_;obtain⟨x,j,k,l,m⟩:=a;obtain⟨i,rfl,q⟩:=m;obtain⟨t,rfl⟩:=l;exact⟨some i,j,k,.int i t,q⟩
def Iw(X:Cx)(r:V->Option Int->Option Int->Hp->VK->Prop):Prop :=
 ∀(J4:Zd) (s:Shared) (σ:St) (H:Hp) (x:V) (v vl vu:Value) (lo hi:Option Int) (sl:Addr) (Q:VK),Inv X J4 σ H s->RelV x v->s.heap.IsSliceOf sl vl vu .none->IsPart vl lo->IsPart vu hi->r x lo hi H Q ->
  ∃T id,typeLookup (.type T) "__getitem__"=pure (some (.builtin id))/\s.TypeIs v T/\wpAny (model X.prog X.w) X.A (nJ v (.ref sl)) (EP X J4 σ Q) X.xe s
theorem Iw.or{r a:V->Option Int->Option Int->Hp->VK->Prop}(h:Iw X r)(o:Iw X a):Iw X (fun x lo hi H Q=>r x lo hi H Q∨a x lo hi H Q):=by
 intro f s σ H x v g i lo hi j Q I k l m n q;rcases q with q|q
 ·exact h f s σ H x v g i lo hi j Q I k l m n q
 ·exact o f s σ H x v g i lo hi j Q I k l m n q
def ER(r:V->Option Int->Option Int->Hp->VK->Prop)(te:TE)(tl th:TO):TE:=fun σ H Q=>te σ H fun x H1=>tl σ H1 fun l H2=>th σ H2 fun u H3=>r x l u H3 Q
theorem fo{r:V->Option Int->Option Int->Hp->VK->Prop}(m:Iw X r)(n:PE X e te)(o:PO X lo tl)(p:PO X hi th):PE X (.Subscript e (.Slice lo hi none p2) pos) (ER r te tl th):=by
 intro g s σ H Q I h;refine Subscript_ (dk (n g s σ H _ I h) fun v t f=>?_);obtain⟨x,y,z,B,C⟩:=f;refine wpAny_Slice (dk (o g t σ y _ z C) fun i D ⟨l,E,G,J,L⟩=>dk (p g D σ E _ G L) fun j a f=>?_);obtain⟨u,k,M,N,O⟩:=f;rw[evalPart_none];refine aG ?_;have U:Inv X g σ k { a with heap:=a.heap.push { cls:=.type "slice",data:=.fields #[i,j,.none] } }:=M.kept (t':=a.toks) fun b ob q=>aO _ q;obtain⟨T,id,Y,ht,hg⟩:=m g { a with heap:=a.heap.push { cls:=.type "slice",data:=.fields #[i,j,.none] } } σ k x v i j l u a.heap.objs.size Q U B (Heap.IsSliceOf.new ..) J N O;show wpAny (model X.prog X.w) X.A (subscriptTail e (.Slice lo hi none p2) v (.ref a.heap.objs.size)) (EP X g σ Q) X.xe { a with heap:=a.heap.push { cls:=.type "slice",data:=.fields #[i,j,.none] } };exact tail_any (ops:=[.ref a.heap.objs.size,v]) ht Y hg (by with_unfolding_all rfl)
def j1(xs:List V)(lo hi:Option Int):List V:=(xs.drop (HT.sIx xs.length 0 lo)).take (HT.sIx xs.length xs.length hi-HT.sIx xs.length 0 lo)
theorem Ac(a:List V)(lo hi:Option Int):(j1 a lo hi).length<=a.length:=by
 unfold j1;rw[aM,jz];omega
end
end L2
namespace L2
open PySem PySem.Spec PyProof.Rows
def Ij(n:Nat)(i:Int):Option Nat:=if 0<=i then(if i<n then some i.toNat else none)else if -(n:Int)<=i then some (i+n).toNat else none
def yM{α:Type}(xs:List α)(i:Int):Option α:=(Ij xs.length i).bind fun j=>xs[j]?
theorem Ct{n:Nat}{i:Int}{j:Nat}(h:Ij n i=some j):seqIndex? i n=some j/\j<n/\-(n:Int)<=i/\i<n:=by
 unfold Ij at h;by_cases f:0<=i
 ·rw[if_pos f]at h;by_cases a:i<n
  ·rw[if_pos a]at h;have e:i.toNat=j:=fj h;exact⟨by rw[seqIndex_of f a,e],by omega,by omega,a⟩
  ·rw[if_neg a]at h;cases h
 ·rw[if_neg f]at h;by_cases a:-(n:Int)<=i
  ·rw[if_pos a]at h;have e:(i+n).toNat=j:=fj h;exact⟨by rw[seqIndex_neg (by omega) a,e],by omega,a,by omega⟩
  ·rw[if_neg a]at h;cases h
theorem yq{α:Type}{a:List α}{i:Int}{v:α}(h:yM a i=some v):∃j,seqIndex? i a.length=some j/\a[j]?=some v/\j<a.length/\-(a.length:Int)<=i/\i<a.length:=by
 unfold yM at h;cases e:Ij a.length i with
 |none=>rw[e]at h;cases h
 |some j =>
  rw[e]at h;obtain⟨f,g,k,l⟩:=Ct e;exact⟨j,f,h,g,k,l⟩
theorem cp{α:Type}{a:List α}{j:Nat}{v:α}(h:a[j]?=some v):yM a (j:Int)=some v:=by
 have f:j<a.length:=(bN.mp h).1;have e:Ij a.length (j:Int)=some j:=by
  unfold Ij;rw[if_pos (by omega),if_pos (by omega)];simp
 unfold yM;rw[e];exact h
def HN(b:Expr):Prop:=∀o i,xc b false o i=operate [o,i] (nJ o i)
def HU(X:Cx)(r:R2):Prop :=
 ∀(value slice:Expr) (J4:Zd) (s:Shared) (σ:St) (H:Hp) (x y:V) (v u:Value) (Q:VK),Inv X J4 σ H s->RelV x v->RelV y u->r x y H Q ->
  xc slice false v u=operate [v,u] (nJ v u)->wpAny (model X.prog X.w) X.A (subscriptTail value slice v u) (EP X J4 σ Q) X.xe s
def MtR(X:Cx)(id:String)(r:V->List V->Hp->VK->Prop):Prop :=
 ∀(J4:Zd) (s:Shared) (σ:St) (H:Hp) (x:V) (xs:List V) (v:Value) (us:Zf) (Q:VK),Inv X J4 σ H s->RelV x v->bC xs us->r x xs H Q ->
  wpAny (model X.prog X.w) X.A (call (.builtin id) (v::us)) (EP X J4 σ Q) X.xe s
section
variable{X:Cx}{a b:Expr}{ta tb:TE}{pos:Pos}
theorem HU.or{r e:R2}(h:HU X r)(k:HU X e):HU X (fun x y H Q=>r x y H Q∨e x y H Q):=by
 intro value slice f s σ H x y v u Q I g i q j;rcases q with q|q
 ·exact h value slice f s σ H x y v u Q I g i q j
 ·exact k value slice f s σ H x y v u Q I g i q j
theorem Ci{r:R2}(e:HU X r)(f:PE X a ta)(g:PE X b tb)(i:HN b):PE X (.Subscript a b pos) (aK r ta tb):=by
 intro j s σ H Q I h;exact Subscript_ (IY f g I h fun v u k x y l m n o q=>e a b j k σ l x y v u Q m n o q (i _ _))
def dH(K:Za):R2:=fun x y H Q=>∃p xs i v,x=.ref p/\y=.int i/\au K H p xs/\yM xs i=some v/\Q v H
def ui(K:Za):R2:=fun x y H Q=>∃p xs i v,x=.ref p/\y=.int i/\br K H p xs/\yM xs i=some v/\Q v H
def A7:R2:=fun x y H Q=>∃z i c,x=.str z/\y=.int i/\z.length<=aj/\yM z.cps.toList i=some c/\Q (.str ⟨#[c]⟩) H
theorem Cr:HU X (dH X.K):=by
 intro value slice n s σ H x y v u Q I C D h o;obtain⟨p,T,i,z,rfl,rfl,E,G,q⟩:=h;cases C;obtain⟨t,rfl⟩:=D;obtain⟨g,r,k,U⟩:=I.list E;obtain⟨j,f,J,Y,L,M⟩:=yq G;obtain⟨w,A,l⟩:=r.get J;have N:=r.length;have hn:=qV;have e:EP X n σ Q w s:=⟨z,H,I,l,q⟩;by_cases B:0<=i
 ·have m:i.toNat=j:=by
   rw[seqIndex_of B M]at f;exact fj f
  exact item_listR k.isList B (by omega) (by rw[m];simpa using A) e o
 ·have m:(i+(g.toArray.size:Int)).toNat=j:=by
   rw[seqIndex_neg (by omega) L]at f;rw[b9,<-N];exact fj f
  exact subscriptTail_builtinR (x:=w) k.isList.typeIs slot_list_getitem.lookup
   (wpAny_getItem_list_neg (Q:=fun r O=>r=w/\EP X n σ Q r O) k.isList (by omega) (by rw[b9]<;>omega) (by omega) (by rw[m];simpa using A) ⟨rfl,e⟩) o
theorem FU:HU X (ui X.K):=by
 intro value slice g s σ H x y v u Q I l m h n;obtain⟨p,L,i,z,rfl,rfl,o,A,q⟩:=h;cases l;obtain⟨t,rfl⟩:=m;obtain⟨B,r,k,M⟩:=I.tuple o;obtain⟨j,C,D,N,O,T⟩:=yq A;obtain⟨w,E,e⟩:=r.get D;have G:=r.length;have U:=qV;have f:EP X g σ Q w s:=⟨z,H,I,e,q⟩;exact subscriptTail_builtinR (x:=w) k.typeIs slot_tuple_getitem.lookup
  (getItem_tuple (j:=j) (Q:=fun r J=>r=w/\EP X g σ Q r J) k (by omega) (by omega) (by rw[b9,<-G];exact C) (by simpa using E) ⟨rfl,f⟩) n
theorem FV:HU X A7:=by
 intro value slice B s σ H x y v u Q I f g h k;obtain⟨z,i,c,rfl,rfl,C,l,q⟩:=h;obtain⟨t,rfl⟩:=f;obtain⟨D,rfl⟩:=g;obtain⟨j,e,m,E,n,o⟩:=yq l;have p:z.cps.toList.length=z.length:=by simp[Str.length]
 rw[p]at e n o;have G:=qV;exact tail_any (typeIs_str s z t) slot_str_getitem.lookup (getItem_str (c:=c) (by
  have r:decide (i < -(2 ^ 63:Int))=false:=zzr0 (by omega);have A:decide (i ≥ 2 ^ 63)=false:=zzr0 (by omega);rw[r,A,Bool.or_false]) (by rw[e];simpa using m) ⟨.str ⟨#[c]⟩,H,I.tok _,⟨_,rfl⟩,q⟩) k
def ij(K:Za):R2:=fun x y H Q=>dH K x y H Q∨ui K x y H Q∨A7 x y H Q
theorem IT:HU X (ij X.K):=Cr.or (FU.or FV)
theorem Be(e:Zf)(n j:Nat)(u:Value):tU (·.setIfInBounds j u) { cls:=.type "list",data:=.seq e.toArray n }={ cls:=.type "list",data:=.seq (e.set j u).toArray n }:=by
 simp[tU]
theorem Inv.lst{i:Zd}{σ:St}{H:Hp}{s:Shared}{p:Addr}{g:List V}(I:Inv X i σ H s)(h:H p=some (.lst g)):
  ∃(f:Zf) (n:Nat),bC g f/\s.heap.get? p=some { cls:=.type "list",data:=.seq f.toArray n }/\g.length<=aj:=by
 obtain⟨z,f,n,r,e⟩:=I.hok p _ h;exact⟨f,n,r,e,z⟩
theorem Inv.lstUpd{l:Zd}{σ:St}{H:Hp}{s:Shared}{p:Addr}{m j:List V}{i g:Zf}{n k:Nat}{f:Obj->Obj}(I:Inv X l σ H s)(h:H p=some (.lst m))
  (o:s.heap.get? p=some { cls:=.type "list",data:=.seq i.toArray n }) (hf:f { cls:=.type "list",data:=.seq i.toArray n }={ cls:=.type "list",data:=.seq g.toArray k }) (r:bC j g) (v:j.length<=aj) (t:Nat) :
  Inv X l σ (upd H p (.lst j)) { s with heap:=s.heap.update p f,toks:=t }:=by
 have e:(s.heap.update p f).get? p=some { cls:=.type "list",data:=.seq g.toArray k }:=by
  rw[tT f o (by rw[hf]<;>rfl),hf]
 refine I.write (x:=p) (e:=p) (by rw[h];trivial) (.inl rfl) (fun b u y q=>(Heap.get?_update_other _ _ (hV y)).trans q) ⟨_,e⟩ ?_;exact⟨v,g,k,r,e⟩
def vT:V->V->V->Hp->(Hp->Prop)->Prop:=fun o i v H Q=>∃p xs k j,o=.ref p/\i=.int k/\H p=some (.lst xs)/\Ij xs.length k=some j/\Q (upd H p (.lst (xs.set j v)))
theorem pj:JK X vT:=by
 intro C s σ H o i v N O u Q I D E G h;obtain⟨p,J,k,j,rfl,rfl,x,L,q⟩:=h;cases D;obtain⟨t,rfl⟩:=E;obtain⟨e,n,r,g,M⟩:=I.lst x;obtain⟨f,T,y,z⟩:=Ct L;have l:=r.length;have U:=qV;have A:Inv X C σ (upd H p (.lst (J.set j v))) { s with heap:=s.heap.update p (tU (·.setIfInBounds j u)) } :=
  I.lstUpd x g (Be e n j u) (r.set G j) (by rw[List.length_set];exact M) s.toks
 by_cases B:0<=k
 ·have m:k.toNat=j:=by
   rw[seqIndex_of B z]at f;exact fj f
  exact PySem.W.ki_setAt g B (by omega) (by rw[b9,<-l];exact z) (by rw[m];exact⟨_,A,q⟩)
 ·have m:(k+(e.toArray.size:Int)).toNat=j:=by
   rw[seqIndex_neg (by omega) y]at f;rw[b9,<-l];exact fj f
  exact PySem.W.ki_setBack g (by omega) (by rw[b9,<-l];exact y) (by omega) (by rw[m];exact⟨_,A,q⟩)
theorem xE(lo hi:Option Int)(n:Nat):(nI lo hi none n).1=((HT.sIx n 0 lo:Nat):Int)/\(nI lo hi none n).2.1=((HT.sIx n n hi:Nat):Int)/\(nI lo hi none n).2.2=1:=by
 refine⟨?_,?_,rfl⟩
 ·cases lo with
  |none=>simp[nI,HT.sIx]
  |some i =>
   simp only[nI,HT.sIx,Option.getD_none,show(1:Int) > 0 by decide,if_true];by_cases h:i<0
   ·simp only[h,if_true]<;>omega
   ·simp only[h,if_false]<;>omega
 ·cases hi with
  |none=>simp[nI,HT.sIx]
  |some i =>
   simp only[nI,HT.sIx,Option.getD_none,show(1:Int) > 0 by decide,if_true];by_cases h:i<0
   ·simp only[h,if_true]<;>omega
   ·simp only[h,if_false]<;>omega
theorem vn(e:Zf)(lo hi:Option Int):slicePick e.toArray lo hi none=((e.drop (HT.sIx e.length 0 lo)).take (HT.sIx e.length e.length hi-HT.sIx e.length 0 lo)).toArray:=by
 obtain⟨f,g,h⟩:=xE lo hi e.toArray.size;unfold slicePick;rw[f,g,h];simp only[sliceRange_one,pick_run,b9]<;>rfl
def xL(K:Za):V->Option Int->Option Int->Hp->VK->Prop:=fun x lo hi H Q=>∃a xs,x=.ref a/\au K H a xs/\∀p,H p=none->Q (.ref p) (upd H p (.lst (j1 xs lo hi)))
theorem kj:Iw X (xL X.K):=by
 intro p s σ H x v t u lo hi y Q I i j k l h;obtain⟨a,e,rfl,hx,q⟩:=h;cases i;obtain⟨m,r,g,n⟩:=I.list hx;have f:=r.length;refine⟨"list",_,slot_list_getitem.lookup,g.isList.typeIs,?_⟩;refine wpAny_getItem_list_slice g.isList j k l .none (by simp) ?_ (by rw[b9]<;>omega);rw[vn,<-f];refine⟨.ref s.heap.objs.size,_,I.laid (t':=s.toks) (o:=.lst (j1 e lo hi)) (fun b z q=>aO _ q) (aP _) ?_,rfl,q _ (I.hok.fresh (aP _))⟩;exact⟨bz (Ac e lo hi) n,_,0,(r.drop (HT.sIx e.length 0 lo)).take (HT.sIx e.length e.length hi-HT.sIx e.length 0 lo),cu _ rfl⟩
theorem ym:fU X (.builtin "len") (fun k H Q=>∃p f,k=[.ref p]/\(au X.K H p f∨br X.K H p f)/\Q (.int f.length) H):=by
 intro n s σ H k o Q I r h;obtain⟨p,f,rfl,hq,q⟩:=h;obtain⟨u,rfl,l⟩:=vals1 r;cases l;have t:=qV;rcases hq with hq|hq
 ·obtain⟨g,i,j,m⟩:=I.list hq;have e:=i.length;exact Calls.call_len_list j.isList (by simp only[b9]<;>omega) ⟨.int f.length,H,I.tok _,⟨s.toks+1,by rw[b9,e]⟩,q⟩
 ·obtain⟨g,i,j,m⟩:=I.tuple hq;have e:=i.length;exact len_tuple j (by simp only[b9]<;>omega) ⟨.int f.length,H,I.tok _,⟨s.toks+1,by rw[b9,e]⟩,q⟩
theorem yk:fU X (.builtin "len") (fun e H Q=>∃z,e=[.str z]/\z.length<=aj/\Q (.int z.length) H):=by
 intro f s σ H e g Q I r h;obtain⟨z,rfl,i,q⟩:=h;obtain⟨u,rfl,t,rfl⟩:=vals1 r;have j:=qV;exact len_str (by omega) ⟨.int z.length,H,I.tok _,⟨_,rfl⟩,q⟩
theorem fU.or{f:Value}{r g:List V->Hp->VK->Prop}(h:fU X f r)(l:fU X f g):fU X f (fun e H Q=>r e H Q∨g e H Q):=by
 intro i s σ H e j Q I k q;rcases q with q|q
 ·exact h i s σ H e j Q I k q
 ·exact l i s σ H e j Q I k q
theorem yj:fU X (.type "list") (fun B H Q=>∃p i,B=[.ref p]/\(au X.K H p i∨br X.K H p i)/\∀l,H l=none->Q (.ref l) (upd H l (.lst i))):=by
 intro D s σ H B G Q I r h;obtain⟨p,i,rfl,hq,q⟩:=h;obtain⟨u,rfl,E⟩:=vals1 r;cases E;have m:∀(f:Zf),bC i f->i.length<=aj->∀(g:Heap) (j:Nat),(∀b C,s.heap.get? b=some C->g.get? b=some C) ->
   g.get? s.heap.objs.size=some { cls:=.type "list",dict:=none,data:=.seq f.toArray j,slots:=#[] }->EP X D σ Q (.ref s.heap.objs.size) { s with heap:=g }:=fun f k t g j kp e =>
  ⟨.ref s.heap.objs.size,_,I.laid (t':=s.toks) kp (aP _) (show cq X.prog X.w X.K _ g _ (.lst i)from⟨t,f,j,k,e⟩),rfl,q _ (I.hok.fresh (aP _))⟩
 rcases hq with hq|hq
 ·obtain⟨f,k,x,t⟩:=I.list hq;have v:=k.length;obtain⟨o,y,z,n,A⟩:=x.isList;exact call_list_seq p (.inl rfl) y z A (fun g j kp e=>m f k t g j kp e) (by simp only[b9]<;>omega)
 ·obtain⟨f,k,x,t⟩:=I.tuple hq;have v:=k.length;obtain⟨o,y,z,n,A⟩:=x;exact call_list_seq p (.inr rfl) y z A (fun g j kp e=>m f k t g j kp e) (by simp only[b9]<;>omega)
theorem hU:fU X (.type "tuple") (fun n H Q=>∃p g,n=[.ref p]/\((au X.K H p g/\∀l,H l=none->Q (.ref l) (upd H l (.tup g)))∨(br X.K H p g/\Q (.ref p) H))):=by
 intro t s σ H n B Q I r h;obtain⟨p,g,rfl,h⟩:=h;obtain⟨u,rfl,z⟩:=vals1 r;cases z;rcases h with⟨j,q⟩|⟨j,q⟩
 ·obtain⟨f,k,m,v⟩:=I.list j;have x:=k.length;refine call_tuple_list m.isList (fun i kp=>?_) (by simp only[b9]<;>omega);have y:Inv X t σ H { s with heap:=i }:=I.kept (t':=s.toks) kp;have A:Inv X t σ (upd H i.objs.size (.tup g)) { s with heap:=i.push { cls:=.type "tuple",data:=.seq f.toArray } } :=
   y.laid (t':=s.toks) (fun b o e=>aO _ e) (aP _) (show cq X.prog X.w X.K _ _ _ (.tup g)from⟨v,f,k,IsTup.new _ _⟩)
  exact⟨.ref i.objs.size,_,A,rfl,q _ (y.hok.fresh (aP _))⟩
 ·obtain⟨f,k,m,v⟩:=I.tuple j;exact call_tuple_same m ⟨.ref p,H,I,rfl,q⟩
def tyV(K:Za)(T:String)(x:V)(H:Hp):Prop:=match x with
 |.str _=>T="str"
 |.int _=>T="int"
 |.ref p=>(T="list"/\∃xs,au K H p xs)∨(T="tuple"/\∃o,K.lookup p=some o/\o.cls=.type "tuple"/\o.dict=none) ∨
   (T="dict"/\((∃kvs,H p=some (.dK kvs))∨∃kvs,H p=some (.dT kvs)))∨(T="set"/\∃S n,H p=some (.set S n))
 |_=>False
theorem EG{m:Zd}{σ:St}{H:Hp}{s:Shared}{T:String}{x:V}{v:Value}(I:Inv X m σ H s)(r:RelV x v)(ty:tyV X.K T x H):
  s.TypeIs v T/\∀a,v=.ref a->∃k,s.heap.get? a=some k/\k.dict=none:=by
 cases x with
 |str z =>
  obtain⟨t,rfl⟩:=r;cases(show T="str" from ty);exact⟨typeIs_str s z t,fun _ e=>nomatch e⟩
 |int i =>
  obtain⟨t,rfl⟩:=r;cases(show T="int" from ty);exact⟨typeIs_int s i t,fun _ e=>nomatch e⟩
 |ref p =>
  cases r;rcases ty with⟨rfl,A,q⟩|⟨rfl,o,f,u,g⟩|⟨rfl,f⟩|⟨rfl,S,n,f⟩
  ·obtain⟨y,_,l,_⟩:=I.list q;refine⟨l.isList.typeIs,fun a e=>?_⟩;cases e;obtain⟨o,n,e,c,g,_⟩:=l;exact⟨o,e,g⟩
  ·refine⟨⟨o,I.kIn p o f,u⟩,fun a e=>?_⟩;cases e;exact⟨o,I.kIn _ o f,g⟩
  ·have z:∃o,s.heap.get? p=some o/\o.ExactDict:=by
    rcases f with⟨h,f⟩|⟨h,f⟩
    ·obtain⟨_,_,_,_,o,_,_,e,ex,_⟩:=I.hok p _ f;exact⟨o,e,ex⟩
    ·obtain⟨_,_,_,_,o,_,_,e,ex,_⟩:=I.hok p _ f;exact⟨o,e,ex⟩
   obtain⟨o,e,ex⟩:=z;refine⟨⟨o,e,ex.1⟩,fun a j=>?_⟩;cases j;exact⟨o,e,ex.2.1⟩
  ·obtain⟨o,_,_,_,e,ex,_⟩:=I.hok p _ f;refine⟨⟨o,e,ex.1⟩,fun a j=>?_⟩;cases j;exact⟨o,e,ex.2.1⟩
 |_=>exact jL ty
def Jp(K:Za)(T:String)(r:V->List V->Hp->VK->Prop)(to:TE):TE:=fun σ H Q=>to σ H fun x H1=>tyV K T x H1/\r x [] H1 Q
def vm(K:Za)(T:String)(r:V->List V->Hp->VK->Prop)(to:TE)(t:TA):TE:=fun σ H Q=>to σ H fun x H1=>tyV K T x H1/\t σ H1 fun xs H2=>r x xs H2 Q
variable{o e:Expr}{es:List Expr}{to:TE}{t:TA}{name:Str}{J6 J5:Pos}{T id:String}{r:V->List V->Hp->VK->Prop}
theorem IK(p:PlainAttrs T)(i:Slot T name id)(j:typeOf (.builtin id)=pure (.type "method_descriptor"))(q:MtR X id r)(u:PE X o to)
  (f:vG o name X.env (eval o X.env)=eval o X.env:=by rfl) (g:(J6.endLine==J5.line)=true:=by rfl):PE X (.Call (.Attribute o name J6) [] [] J5) (Jp X.K T r to):=by
 intro l s σ H Q I h;refine wpAny_Call_method0_late f g (dk (u l s σ H _ I h) fun v y k=>?_);obtain⟨x,z,m,n,ty,A⟩:=k;obtain⟨B,C⟩:=EG m n ty;exact⟨T,id,p,i,j,B,C,xb rfl (PySem.evalArgs_none (q l y σ z x [] v [] Q m n .nil A))⟩
theorem gb(y:PlainAttrs T)(j:Slot T name id)(l:typeOf (.builtin id)=pure (.type "method_descriptor"))(z:MtR X id r)(A:PE X o to)(B:PA X (e::es) t)
  (g:vG o name X.env (eval o X.env)=eval o X.env:=by rfl)
  (k:((backTo J5 (aQ (e::es) X.env)).all (fun x=>!x.1) && (rA J5 (rq [] X.env)).all (fun x=>x.1.isSome)
   && decide ((e::es).length+([]:List Keyword).length+(if([]:List Keyword).isEmpty then 0 else 1)<30))=true:=by rfl)
  (i:(J6.endLine==J5.line)=true:=by rfl) (C:aQ (e::es) X.env=(false,eval e X.env)::aQ es X.env:=by rfl) (f:(backTo J5 (aQ es X.env)).any (·.1)=false:=by rfl) :
  PE X (.Call (.Attribute o name J6) (e::es) [] J5) (vm X.K T r to t):=by
 intro m s σ H Q I h;refine wpAny_Call_method_late g k i rfl (dk (A m s σ H _ I h) fun v D n=>?_);obtain⟨x,E,p,q,ty,G⟩:=n;obtain⟨J,L⟩:=EG p q ty;refine⟨T,id,y,j,l,J,L,?_⟩;have u:=B J5 m D σ E _ p G;rw[C]at u ⊢;refine xb (by show(false || (backTo J5 (aQ es X.env)).any (·.1))=false;rw[f]<;>rfl) (Calls.evalArgs_plain ?_);exact dk u fun M N ⟨O,U,Y,r2,q2⟩=>z m N σ U x O v M Q Y q r2 q2
end
end L2
namespace L2
open PySem PySem.Spec PyProof.Rows
def JO(X:Cx)(id:String)(r:V->List V->Hp->VK->Prop):Prop :=
 ∀(J4:Zd) (s:Shared) (σ:St) (H:Hp) (x:V) (xs:List V) (v:Value) (us:Zf) (Q:VK),Inv X J4 σ H s->RelV x v->bC xs us->r x xs H Q ->
  wpAny (model X.prog X.w) X.A (call (.builtin id) (v::us)) (EP X J4 σ Q) X.xe s
theorem bC.one{x:V}{a:Zf}(h:bC [x] a):∃u,a=[u]/\RelV x u:=by
 cases h with
 |cons r t=>cases t;exact⟨_,rfl,r⟩
theorem bC.two{x y:V}{a:Zf}(h:bC [x,y] a):∃u v,a=[u,v]/\RelV x u/\RelV y v:=by
 cases h with
 |cons r t =>
  obtain⟨v,e,q⟩:=bC.one t;exact⟨_,v,by rw[e],r,q⟩
theorem bC.zero:∀{a:Zf},bC [] a->a=[]
 |_,.nil=>rfl
theorem bC.dropLast{a:List V}{e:Zf}(h:bC a e):bC a.dropLast e.dropLast:=by
 induction h with
 |nil=>exact .nil
 |cons r t f =>
  cases t with
  |nil=>exact .nil
  |cons q g=>exact .cons r f
theorem Bo{α:Type}(l:List α):l.eraseIdx (l.length-1)=l.dropLast:=by
 induction l with
 |nil=>rfl
 |cons a r f =>
  cases r with
  |nil=>rfl
  |cons b r =>
   have e:(a::b::r).length-1=((b::r).length-1)+1:=by
    have g:(a::b::r).length=r.length+2:=rfl;have h:(b::r).length=r.length+1:=rfl;omega
   rw[e,List.eraseIdx_cons_succ,f]
   all_goals rfl
section
variable{X:Cx}{J4:Zd}{σ:St}{H:Hp}{s:Shared}{l b:Addr}{xs ys zs:List V}
theorem Inv.lset{a its':Zf}{n:Nat}{f:Array Value->Array Value}{g:Nat}(I:Inv X J4 σ H s)(h:H l=some (.lst xs))
  (e:s.heap.get? l=some { cls:=.type "list",data:=.seq a.toArray n }) (hf:f a.toArray=its'.toArray) (i:bC ys its') (j:ys.length<=aj) :
  Inv X J4 σ (upd H l (.lst ys)) { s with heap:=s.heap.update l (tU f),toks:=g }:=by
 have q:=PySem.IsL.update e f;rw[hf]at q;refine I.write (x:=l) (e:=l) (by rw[h];exact trivial) (.inl rfl) (fun o u k m=>(Heap.get?_update_other s.heap (tU f) (hV k)).trans m) ⟨_,q⟩ ?_;exact⟨j,its',_,i,q⟩
theorem Inv.lnew{a:Zf}{t':Nat}(I:Inv X J4 σ H s)(e:bC ys a)(f:ys.length<=aj):
  Inv X J4 σ (upd H s.heap.objs.size (.lst ys)) { s with heap:=s.heap.push { cls:=.type "list",data:=.seq a.toArray },toks:=t' } :=
 I.laid (fun _ _ q=>aO _ q) (aP _) ⟨f,a,0,e,cu _ rfl⟩
theorem Inv.fresh(I:Inv X J4 σ H s):H s.heap.objs.size=none:=I.hok.fresh (aP _)
theorem Inv.lstM(I:Inv X J4 σ H s)(f:H l=some (.lst xs)):xs.length<=aj/\∃(a:Zf) (n:Nat),bC xs a/\xs.length=a.length/\s.heap.get? l=some { cls:=.type "list",data:=.seq a.toArray n }:=by
 obtain⟨z,a,n,r,e⟩:=I.hok l _ f;exact⟨z,a,n,r,r.length,e⟩
theorem FL{n:Nat}(h:n<=aj):c9.List.listTooLong n=false:=by
 unfold c9.List.listTooLong;exact zzr0 (by omega)
end
section
variable{X:Cx}
def d_:V->List V->Hp->VK->Prop:=fun x vs H Q=>∃l xs y,x=.ref l/\vs=[y]/\H l=some (.lst xs)/\xs.length<aj/\Q .non (upd H l (.lst (xs++[y])))
theorem cO:JO X "list.append" d_:=by
 intro k s σ H x m v o Q I g i h;obtain⟨l,p,y,rfl,rfl,f,t,q⟩:=h;cases g;obtain⟨u,rfl,j⟩:=i.one;obtain⟨z,a,n,r,A,e⟩:=I.lstM f;refine xa F.slot_list_append ⟨_,e,rfl⟩ F.entry_list_append (F.args_list_append_2 _ _) (PySem.list_append l a.toArray n u (by rw[b9];omega)) ⟨e,?_⟩;refine⟨.non,_,I.lset (its':=a++[u]) f e (by simp) (r.append (.cons j .nil)) ?_,rfl,q⟩;rw[aS,w_];omega
def pC:V->List V->Hp->VK->Prop:=fun x vs H Q=>∃l b xs zs,x=.ref l/\vs=[.ref b]/\H l=some (.lst xs)/\H b=some (.lst zs)/\xs.length+zs.length<=aj/\Q .non (upd H l (.lst (xs++zs)))
theorem mz:JO X "list.extend" pC:=by
 intro B s σ H x C v D Q I k m h;obtain⟨l,b,E,G,rfl,rfl,j,hB,J,q⟩:=h;cases k;obtain⟨u,rfl,o⟩:=m.one;cases o;obtain⟨z,f,n,r,L,e⟩:=I.lstM j;obtain⟨M,a,p,t,y,A⟩:=I.lstM hB;have i:f.toArray.size+a.toArray.size<=aj:=by rw[b9,b9];omega
 have g:¬(!f.toArray.isEmpty && c9.List.listTooLong (f.toArray.size+a.toArray.size))=true:=by
  rw[FL i,w8];exact gw
 refine xa F.slot_list_extend ⟨_,e,rfl⟩ F.entry_list_extend (F.args_list_extend_2 _ _)
  (AutoSeq1.list_extend_list_list_0 l f.toArray n b a.toArray p g (by rw[b9];omega) (by omega)) ⟨e,A,?_⟩
 refine⟨.non,_,I.lset (its':=f++a) j e (by simp) (r.append t) ?_,rfl,q⟩;rw[aS];omega
def Jt:V->List V->Hp->VK->Prop:=fun x vs H Q=>∃l xs y,x=.ref l/\vs=[]/\H l=some (.lst xs)/\xs[xs.length-1]?=some y/\Q y (upd H l (.lst xs.dropLast))
theorem IN:JO X "list.pop" Jt:=by
 intro A s σ H x B v C Q I j k h;obtain⟨l,D,y,rfl,rfl,i,m,q⟩:=h;cases j;have f:=k.zero;subst f;obtain⟨z,a,n,r,o,e⟩:=I.lstM i;obtain⟨u,p,t⟩:=r.get m;have g:a.toArray[a.toArray.size-1]?=some u:=by
  show a.toArray[a.length-1]?=some u;rw[<-tS,<-o];exact p
 refine xa F.slot_list_pop ⟨_,e,rfl⟩ F.entry_list_pop (F.args_list_pop_1 _) (MeetsSeq.list_pop_last l a.toArray n u g (by rw[b9];omega)) ⟨e,?_⟩;refine⟨y,_,I.lset (its':=a.dropLast) i e ?_ r.dropLast ?_,t,q⟩
 ·show a.toArray.eraseIdxIfInBounds (a.toArray.size-1)=a.dropLast.toArray;rw[b9,List.eraseIdxIfInBounds_toArray,Bo]
 ·rw[List.length_dropLast];omega
def mU:R2:=fun x y H Q=>∃l b xs zs,x=.ref l/\y=.ref b/\H l=some (.lst xs)/\H b=some (.lst zs)/\xs.length+zs.length<=aj/\∀p,H p=none->Q (.ref p) (upd H p (.lst (xs++zs)))
theorem iq:oK X (rC .Add) mU:=by
 intro t s σ H x y v u Q I g i h;obtain⟨l,b,A,B,rfl,rfl,j,hB,C,q⟩:=h;cases g;cases i;obtain⟨z,f,n,r,D,e⟩:=I.lstM j;obtain⟨E,a,G,k,m,o⟩:=I.lstM hB;refine PySem.P.add_list e o ?_ (by rw[b9,b9];omega);have p:f.toArray++a.toArray=(f++a).toArray:=by simp
 rw[p];exact⟨.ref _,_,I.lnew (t':=s.toks) (r.append k) (by rw[aS];omega),rfl,q _ I.fresh⟩
end
end L2
namespace L2
open PySem PySem.Spec PyProof.Rows
section
variable{κ:Type}[DecidableEq κ]
def de(kvs:List (κ×V))(k:κ):Option V:=(kvs.find? fun kv=>decide (kv.1=k)).map (·.2)
def eT(kvs:List (κ×V))(k:κ)(v:V):List (κ×V) :=
 if(kvs.any fun kv=>decide (kv.1=k))=true then kvs.map (fun kv=>if kv.1=k then(kv.1,v)else kv)else kvs++[(k,v)]
theorem dU{p:κ×V}{r:List (κ×V)}{k:κ}(e:p.1=k):de (p::r) k=some p.2:=by simp[de,qt,e]
theorem dB{p:κ×V}{r:List (κ×V)}{k:κ}(e:¬p.1=k):de (p::r) k=de r k:=by simp[de,qt,e]
theorem jM(k:κ):∀a:List (κ×V),(a.any fun f=>decide (f.1=k))=(de a k).isSome
 |[]=>rfl
 |p::r=>by
  rw[lA];by_cases e:p.1=k
  ·simp only[dU e,zzr1 e,Bool.true_or,Option.isSome_some]
  ·rw[dB e,zzr0 e,Bool.false_or];exact jM k r
theorem yU(k j:κ)(y:V):∀a:List (κ×V),de (a.map fun f=>if f.1=k then(f.1,y)else f) j=(de a j).map fun x=>if j=k then y else x
 |[]=>rfl
 |p::r=>by
  have g:=yU k j y r;rw[cg];by_cases h:p.1=k
  ·rw[if_pos h];by_cases e:p.1=j
   ·rw[dU (p:=(p.1,y)) e,dU e,tR,if_pos (e.symm.trans h)]
   ·rw[dB (p:=(p.1,y)) e,dB e,g]
  ·rw[if_neg h];by_cases e:p.1=j
   ·rw[dU (p:=p) e,dU e,tR,if_neg (fun z=>h (e.trans z))]
   ·rw[dB (p:=p) e,dB e,g]
theorem vL(k j:κ)(y:V):∀a:List (κ×V),de a k=none->de (a++[(k,y)]) j=if j=k then some y else de a j
 |[],_=>by
  by_cases e:k=j
  ·rw[if_pos e.symm];exact dU (p:=(k,y)) e
  ·rw[if_neg (fun z=>e z.symm)];exact dB (p:=(k,y)) e
 |p::r,f=>by
  rw[List.cons_append];have g:¬p.1=k:=fun z=>by rw[dU z]at f;cases f
  rw[dB g]at f;have h:=vL k j y r f;by_cases e:p.1=j
  ·rw[dU e,dU e,if_neg (fun z=>g (e.trans z))]
  ·rw[dB e,dB e,h]
theorem tX(f:List (κ×V))(k j:κ)(y:V):de (eT f k y) j=if j=k then some y else de f j:=by
 unfold eT;by_cases a:(f.any fun g=>decide (g.1=k))=true
 ·rw[if_pos a,yU];rw[jM]at a;by_cases e:j=k
  ·obtain⟨x,hx⟩:=xg.mp a;rw[if_pos e,e,hx,tR,if_pos rfl]
  ·rw[if_neg e];cases de f j with
   |none=>rfl
   |some x=>rw[tR,if_neg e]
 ·rw[if_neg a];refine vL k j y f ?_;rw[jM]at a;cases q:de f k with
  |none=>rfl
  |some x=>rw[q]at a;exact(a rfl).elim
theorem jq(a:List (κ×V))(k:κ)(v:V):(eT a k v).length<=a.length+1:=by
 unfold eT;split
 ·rw[ag];omega
 ·rw[aS,eO,nH];omega
theorem pE{a:List (κ×V)}{k:κ}(v:V)(h:de a k=none):eT a k v=a++[(k,v)]:=by
 unfold eT;rw[jM,h];exact if_neg (by decide)
theorem kY.isSome_eq{o:Option V}{u:Option Value}(r:kY o u):o.isSome=u.isSome:=by
 cases o with
 |none=>cases u with
  |none=>rfl
  |some _=>exact(show False from r).elim
 |some _=>cases u with
  |none=>exact(show False from r).elim
  |some _=>rfl
theorem kY.getD{o:Option V}{u:Option Value}{d:V}{a:Value}(r:kY o u)(e:RelV d a):RelV (o.getD d) (u.getD a):=by
 cases o with
 |none=>cases u with
  |none=>exact e
  |some _=>exact(show False from r).elim
 |some _=>cases u with
  |none=>exact(show False from r).elim
  |some _=>exact r
theorem KV.val{a:List (κ×V)}{g:List (κ×Value)}(r:KV a g)(k:κ):kY (de a k) (nG g k):=by
 unfold KV at r
 induction r with
 |nil=>exact kO
 |@cons p q m qs h t j =>
  obtain⟨i,l⟩:=h;by_cases e:p.1=k
  ·have f:q.1=k:=i.symm.trans e;have b:nG (q::qs) k=some q.2:=by simp[nG,qt,f]
   rw[dU e,b];exact l
  ·have f:¬q.1=k:=fun z=>e (i.trans z);have b:nG (q::qs) k=nG qs k:=by simp[nG,qt,f]
   rw[dB e,b];exact j
theorem KV.any{a:List (κ×V)}{f:List (κ×Value)}(r:KV a f)(k:κ):(a.any fun e=>decide (e.1=k))=f.any fun e=>decide (e.1=k):=by
 unfold KV at r
 induction r with
 |nil=>rfl
 |cons h t g=>rw[lA,lA,g,h.1]
theorem KV.repl{f:List (κ×V)}{i:List (κ×Value)}(r:KV f i)(k:κ){y:V}{u:Value}(j:RelV y u):
  KV (f.map fun a=>if a.1=k then(a.1,y)else a) (i.map fun a=>if a.1=k then(a.1,u)else a):=by
 unfold KV at r ⊢
 induction r with
 |nil=>exact .nil
 |@cons p q n qs h t l =>
  rw[cg,cg];refine .cons ?_ l;obtain⟨g,m⟩:=h;by_cases e:p.1=k
  ·rw[if_pos e,if_pos (g.symm.trans e)];exact⟨g,j⟩
  ·rw[if_neg e,if_neg (fun z=>e (g.trans z))];exact⟨g,m⟩
theorem KV.put{a:List (κ×V)}{f:List (κ×Value)}(r:KV a f)(k:κ){y:V}{u:Value}(g:RelV y u):KV (eT a k y) (stored f k u):=by
 unfold eT stored;rw[r.any k];by_cases e:(f.any fun h=>decide (h.1=k))=true
 ·rw[if_pos e,if_pos e];exact r.repl k g
 ·rw[if_neg e,if_neg e];exact fF r ⟨rfl,g⟩
theorem KV.length{a:List (κ×V)}{e:List (κ×Value)}(r:KV a e):a.length=e.length:=Paired.length r
end
theorem rO{P:bP}{w:World}{k:fu}{u:Value}(r:RelV (kV k) u):(cQ P w).is k u=true:=by
 cases k with
 |inl i=>obtain⟨t,e⟩:=(show ∃t,u=Value.int i t from r);subst e;exact zT P w i t
 |inr x=>obtain⟨t,e⟩:=(show ∃t,u=Value.str x t from r);subst e;exact zS P w x t
theorem x_:∀{k:oB}{u:Value},RelV (Ii k) u->i6 k u=true
 |none,u,r=>by cases(show u=Value.none from r);rfl
 |some (.inl i),u,r=>by obtain⟨t,rfl⟩:=r;exact mD i t
 |some (.inr x),u,r=>by obtain⟨t,rfl⟩:=r;exact mC x t
abbrev KT(K:Za)(H:Hp):List (TK×V)->List (TK×Addr×Value)->Prop:=Paired fun p q=>p.1=q.1/\rW K H p.1 (.ref q.2.1)/\p.1.depth<=8/\RelV p.2 q.2.2
theorem KT.val{K:Za}{H:Hp}{a:List (TK×V)}{g:List (TK×Addr×Value)}(r:KT K H a g)(k:TK):kY (de a k) ((atKey g k).map (·.2)):=by
 induction r with
 |nil=>exact kO
 |@cons p q m qs h t j =>
  obtain⟨i,_,_,l⟩:=h;by_cases e:p.1=k
  ·have f:q.1=k:=i.symm.trans e;have b:atKey (q::qs) k=some q.2:=by simp[atKey,qt,f]
   rw[dU e,b];exact l
  ·have f:¬q.1=k:=fun z=>e (i.trans z);have b:atKey (q::qs) k=atKey qs k:=by simp[atKey,qt,f]
   rw[dB e,b];exact j
theorem KT.repl{K:Za}{H:Hp}{a:List (TK×V)}{i:List (TK×Addr×Value)}(r:KT K H a i)(k:TK){y:V}{u:Value}(m:RelV y u):
  KT K H (a.map fun g=>if g.1=k then(g.1,y)else g) (i.map (putAt k u)):=by
 induction r with
 |nil=>exact .nil
 |@cons p q o qs h t n =>
  rw[cg,cg];refine .cons ?_ n;obtain⟨f,j,l⟩:=h;unfold putAt;by_cases e:p.1=k
  ·rw[if_pos e,if_pos (f.symm.trans e)];exact⟨f,j,l.1,m⟩
  ·rw[if_neg e,if_neg (fun z=>e (f.trans z))];exact⟨f,j,l⟩
theorem KT.put{K:Za}{H:Hp}{a:List (TK×V)}{f:List (TK×Addr×Value)}(r:KT K H a f)(k:TK){b:Addr}{y:V}{u:Value}(h:rW K H k (.ref b))(i:k.depth<=8)(g:RelV y u):
  KT K H (eT a k y) (nF f k b u):=by
 have e:(a.any fun j=>decide (j.1=k))=(atKey f k).isSome:=by
  rw[jM,(r.val k).isSome_eq,Option.isSome_map]
 unfold eT nF;rw[e];by_cases q:(atKey f k).isSome=true
 ·rw[if_pos q,if_pos q];exact r.repl k g
 ·rw[if_neg q,if_neg q];exact fF r ⟨rfl,h,i,g⟩
theorem KT.keeps{K:Za}{H a:Hp}{kvs:List (TK×V)}{xs:List (TK×Addr×Value)}(r:KT K H kvs xs)(f:∀b e,H b=some (.tup e)->a b=some (.tup e)):KT K a kvs xs :=
 Paired.mapP r fun _ _ z=>⟨z.1,rW.keeps f 8 z.2.2.1 z.2.1,z.2.2⟩
section
variable{P:bP}{w:World}{K:Za}{H:Hp}{h:Heap}{a:Addr}
theorem Fh{u:HO}(ok:mK P w K H h)(e:Rd H a u):cq P w K H h a u:=e.ok ok
theorem rT{f:List (fu×V)}(ok:mK P w K H h)(e:Rd H a (.dK f)):f.length<=aj/\(a==hW)=false/\∃g,KV f g/\h.DictOf (cQ P w) a g :=
 show cq P w K H h a (.dK f)from Fh ok e
theorem JH{f:List (fu×V)}(ok:mK P w K H h)(e:H a=some (.dK f)):f.length<=aj/\(a==hW)=false/\∃g,KV f g/\h.DictOf (cQ P w) a g:=rT ok (.inl e)
theorem IA(ok:mK P w K H h)(y:K.In h):∀(d:Nat) {k:TK}{v:V}{u:Value},k.depth<=d->rW K H k v->RelV v u->mJ h k u:=by
 have z:∀(d:Nat) (s:∀{k:TK}{v:V}{u:Value},k.depth<=d->rW K H k v->RelV v u->mJ h k u) (g:List TK) (i:List V) (x:Zf),TK.depths g<=d->TKCs K H g i->bC i x->TAts h g x:=by
  intro d s g
  induction g with
  |nil =>
   intro i x _ hx r;have e:i=[]:=hx;subst e;cases r
   rfl
  |cons k g A =>
   intro i x j hx r;obtain⟨v,B,rfl,m,C⟩:=hx;cases r with
   |@cons _ u _ q I J =>
    have L:max k.depth (TK.depths g)<=d:=j;exact⟨u,q,rfl,s (by omega) m I,A B q (by omega) C J⟩
 intro d
 induction d with
 |zero =>
  intro k v u j hx r;cases k with
  |t l=>exact absurd j (by show ¬(TK.depths l+1<=0);omega)
  |k b =>
   have e:v=Ii b:=hx;subst e;exact x_ r
 |succ d s =>
  intro k v u j hx r;cases k with
  |k b =>
   have e:v=Ii b:=hx;subst e;exact x_ r
  |t l =>
   obtain⟨b,D,rfl,E,hi⟩:=hx;cases(show u=Value.ref b from r);obtain⟨f,G,M,m,C,n,N⟩:∃f:List Value,bC D f/\IsTup h b f.toArray:=by
    rcases E with E|⟨o,f,n,O,Q,T,U,r⟩
    ·obtain⟨_,f,G,p⟩:=(show cq P w K H h b (.tup D)from ok b _ E);exact⟨f,G,p⟩
    ·exact⟨f.toList,r,o,y b o O,Q,n,by simpa using T⟩
   exact⟨b,M,f.toArray,n,rfl,m,C,N,by simpa using z d (fun m=>s m) l D f (by have:TK.depths l+1<=d+1:=j;omega) hi G⟩
theorem xX{k:TK}(ok:mK P w K H h)(f:K.In h)(e:rW K H k (.ref a))(g:k.depth<=8):(bL P w).is h k a:=⟨IA ok f 8 g e rfl,g⟩
theorem uH{f:List (TK×V)}(ok:mK P w K H h)(j:K.In h)(e:Rd H a (.dT f)):f.length<=aj/\(a==hW)=false /\
  ∃g,KT K H f g/\h.DictOfH (bL P w) a g:=by
 obtain⟨z,y,g,r,o,k,n,s,u,v,A,B⟩:=(show cq P w K H h a (.dT f)from Fh ok e);refine⟨z,y,g,r,o,k,n,s,u,v,A,fun x hx=>?_,B⟩;have all:∀{l:List (TK×V)}{m:List (TK×Addr×Value)},KT K H l m->∀x∈m,(bL P w).is h x.1 x.2.1:=by
  intro l m q
  induction q with
  |nil=>intro x hx;exact nomatch hx
  |@cons p q D qs i t C =>
   intro x hx;rcases c8.mp hx with e|hx
   ·subst e;exact xX ok j (by rw[<-i.1];exact i.2.1) (by rw[<-i.1];exact i.2.2.1)
   ·exact C x hx
 exact all r x hx
theorem Im{f:List (TK×V)}(ok:mK P w K H h)(g:K.In h)(e:H a=some (.dT f)):f.length<=aj/\(a==hW)=false /\
  ∃i,KT K H f i/\h.DictOfH (bL P w) a i:=uH ok g (.inl e)
end
mutual
def om(K:Za)(H:Hp):TK->V->Prop
 |.k a,v=>v=Ii a
 |.t l,v=>∃b xs,v=.ref b/\br K H b xs/\TKIns K H l xs
def TKIns(K:Za)(H:Hp):List TK->List V->Prop
 |[],vs=>vs=[]
 |k::r,vs=>∃v us,vs=v::us/\om K H k v/\TKIns K H r us
end
theorem gQ.isIn{K:Za}{H:Hp}:∀(d:Nat) {k:TK}{v:V},k.depth<=d->gQ H k v->om K H k v:=by
 have i:∀(d:Nat) (g:∀{k:TK}{v:V},k.depth<=d->gQ H k v->om K H k v) (e:List TK) (h:List V),TK.depths e<=d->TKAts H e h->TKIns K H e h:=by
  intro d g e
  induction e with
  |nil=>intro h _ hx;exact hx
  |cons x e j =>
   intro h f hx;obtain⟨v,o,rfl,m,n⟩:=hx;have p:max x.depth (TK.depths e)<=d:=f;exact⟨v,o,rfl,g (by omega) m,j o (by omega) n⟩
 intro d
 induction d with
 |zero =>
  intro k v f hx;cases k with
  |t l=>exact absurd f (by show ¬(TK.depths l+1<=0);omega)
  |k a=>exact hx
 |succ d g =>
  intro k v f hx;cases k with
  |k a=>exact hx
  |t l =>
   obtain⟨b,e,rfl,q,hi⟩:=hx;exact⟨b,e,rfl,br.of q,i d (fun r=>g r) l e (by have:TK.depths l+1<=d+1:=f;omega) hi⟩
theorem GQ{X:Cx}{z:Zd}{σ:St}{H:Hp}{s:Shared}(I:Inv X z σ H s):∀(d:Nat) {k:TK}{v:V}{u:Value},k.depth<=d->om X.K H k v->RelV v u->mJ s.heap k u:=by
 have p:∀(d:Nat) (m:∀{k:TK}{v:V}{u:Value},k.depth<=d->om X.K H k v->RelV v u->mJ s.heap k u) (a:List TK) (f:List V) (o:Zf),TK.depths a<=d->TKIns X.K H a f->bC f o->TAts s.heap a o:=by
  intro d m a
  induction a with
  |nil =>
   intro f o _ hx r;have e:f=[]:=hx;subst e;cases r
   rfl
  |cons k a q =>
   intro f o g hx r;obtain⟨v,x,rfl,h,y⟩:=hx;cases r with
   |@cons _ u _ i A B =>
    have C:max k.depth (TK.depths a)<=d:=g;exact⟨u,i,rfl,m (by omega) h A,q x i (by omega) y B⟩
 intro d
 induction d with
 |zero =>
  intro k v u g hx r;cases k with
  |t l=>exact absurd g (by show ¬(TK.depths l+1<=0);omega)
  |k b =>
   have e:v=Ii b:=hx;subst e;exact x_ r
 |succ d m =>
  intro k v u g hx r;cases k with
  |k b =>
   have e:v=Ii b:=hx;subst e;exact x_ r
  |t l =>
   obtain⟨b,D,rfl,E,hi⟩:=hx;cases(show u=Value.ref b from r);obtain⟨j,G,⟨J,h,y,n,L⟩,_⟩:=I.tuple E;exact⟨b,J,j.toArray,n,rfl,h,y,L,by simpa using p d (fun h=>m h) l D j (by have:TK.depths l+1<=d+1:=g;omega) hi G⟩
theorem x8{X:Cx}{f:Zd}{σ:St}{H:Hp}{s:Shared}{k:TK}{b:Addr}(I:Inv X f σ H s)(e:om X.K H k (.ref b))(a:k.depth<=8):(bL X.prog X.w).is s.heap k b:=⟨GQ I 8 a e rfl,a⟩
theorem iM{P:bP}{w:World}{A:Around}(a:A.units+16<cLine):(bL P w).room A.in1:=by
 show A.units+1+8<cLine;omega
def yI(K:Za)(H:Hp)(a:Addr)(y:V)(r:Option V):Prop :=
 (∃kvs k,Rd H a (.dK kvs)/\y=kV k/\r=de kvs k)∨∃kvs k b,Rd H a (.dT kvs)/\y=.ref b/\om K H k (.ref b)/\k.depth<=8/\r=de kvs k
def JQ(H:Hp)(a:Addr)(y v:V)(H':Hp):Prop :=
 (∃kvs k,H a=some (.dK kvs)/\y=kV k/\kvs.length<aj/\H'=upd H a (.dK (eT kvs k v))) ∨
 ∃kvs k b,H a=some (.dT kvs)/\y=.ref b/\gQ H k (.ref b)/\k.depth<=8/\kvs.length<aj/\H'=upd H a (.dT (eT kvs k v))
section
variable{X:Cx}{J4:Zd}{σ:St}{H:Hp}{s:Shared}{a:Addr}{y v:V}{u r:Value}{o:Option V}{A:Around}{E:Zc}
theorem Inv.big(I:Inv X J4 σ H s):hW<s.heap.objs.size:=by
 have h:cj<s.heap.objs.size:=(I.mod.glob.keeps I.bk).lt;exact tQ (by decide) h
theorem D0{Q:Zc}(D:A.units+16<cLine)(I:Inv X J4 σ H s)(g:yI X.K H a y (some v))(B:RelV y u)(h:∀j C,Inv X J4 σ H C->RelV v j->Q j C):
  wpAny (model X.prog X.w) A (nJ (.ref a) u) Q E s:=by
 rcases g with⟨m,k,e,n,l⟩|⟨m,k,b,e,n,G,J,l⟩
 ·subst n;obtain⟨z,L,M,f,q⟩:=rT I.hok e;obtain⟨j,t,i⟩:=kY.some_of (v:=v) (o:=nG M k) (by rw[l];exact f.val k);exact wpAny_getItem_of (rO B) q.mapOf t (h j _ (I.tok _) i)
 ·subst n;cases(show u=Value.ref b from B);obtain⟨z,L,N,f,q⟩:=uH I.hok I.kIn e;obtain⟨j,t,i⟩:=kY.some_of (v:=v) (o:=(atKey N k).map (·.2)) (by rw[l];exact f.val k);obtain⟨p,O,x⟩:=Option.map_eq_some_iff.mp t;refine wpAny_getItem_heap (iM D) (x8 I G J) q O ?_;rw[x];exact h j _ (I.tok _) i
theorem d_in{Q:Zc}(t:A.units+16<cLine)(I:Inv X J4 σ H s)(g:yI X.K H a y o)(n:RelV y u)(h:∀p,Inv X J4 σ H p->Q (.bool o.isSome) p):
  wpAny (model X.prog X.w) A (eZ .In u (.ref a)) Q E s:=by
 rcases g with⟨i,k,e,j,l⟩|⟨i,k,b,e,j,x,B,l⟩
 ·subst j;obtain⟨z,hd,C,f,m⟩:=rT I.hok e;refine wpAny_in_of (rO n) hd m.mapOf ?_;rw[<-(f.val k).isSome_eq,<-l];exact h _ (I.tok _)
 ·subst j;cases(show u=Value.ref b from n);obtain⟨z,hd,D,f,m⟩:=uH I.hok I.kIn e;refine wpAny_in_heap (iM t) (x8 I x B) hd m ?_;have q:=(f.val k).isSome_eq;rw[Option.isSome_map]at q;rw[<-q,<-l];exact h _ (I.tok _)
theorem HH{Q:Zc}(t:A.units+16<cLine)(I:Inv X J4 σ H s)(g:yI X.K H a y o)(n:RelV y u)(h:∀p,Inv X J4 σ H p->Q (.bool (!o.isSome)) p):
  wpAny (model X.prog X.w) A (eZ .NotIn u (.ref a)) Q E s:=by
 rcases g with⟨i,k,e,j,l⟩|⟨i,k,b,e,j,x,B,l⟩
 ·subst j;obtain⟨z,hd,C,f,m⟩:=rT I.hok e;refine wpAny_notIn_of (rO n) hd m.mapOf ?_;rw[<-(f.val k).isSome_eq,<-l];exact h _ (I.tok _)
 ·subst j;cases(show u=Value.ref b from n);obtain⟨z,hd,D,f,m⟩:=uH I.hok I.kIn e;refine wpAny_notIn_heap (iM t) (x8 I x B) hd m ?_;have q:=(f.val k).isSome_eq;rw[Option.isSome_map]at q;rw[<-q,<-l];exact h _ (I.tok _)
theorem yg{f:Heap}{g:Nat}{ob:HO}(I:Inv X J4 σ H s)(h:JN (H a))(i:gy a s.heap f)(j:∃q,f.get? a=some q)(new:cq X.prog X.w X.K (upd H a ob) f a ob):
  Inv X J4 σ (upd H a ob) { s with heap:=f,toks:=g } :=
 I.write (x:=a) (e:=a) h (.inl rfl) (fun b q k z=>(i.2 b k).trans z) j new
theorem Ge{P:bP}{w:World}{K:Za}{i:Hp}{h:Heap}{e:List (fu×V)}{f:List (fu×Value)}(z:e.length<=aj)(j:(a==hW)=false)(g:KV e f)(k:h.DictOf (cQ P w) a f):
  cq P w K i h a (.dK e):=⟨z,j,f,g,k⟩
theorem DZ{J:Hp}{Q:Unit->Shared->Prop}(Y:A.units+16<cLine)(I:Inv X J4 σ H s)(g:JQ H a y v J)(L:RelV y u)(M:RelV v r)(h:∀N,Inv X J4 σ J N->Q () N):
  wpAny (model X.prog X.w) A (setItem (.ref a) u r) Q E s:=by
 rcases g with⟨f,k,e,p,l,t⟩|⟨f,k,b,e,p,O,m,l,t⟩
 ·subst p t;obtain⟨z,x,vs,i,B⟩:=JH I.hok e;have C:vs.length<=aj:=by rw[<-i.length];exact z
  have D:(eT f k v).length<=aj:=by have:=jq f k v;omega
  refine wpAny_setItem_pairs (hsz:=C) (rO L) B fun T j G=>h _ ?_;have he:∃q,T.get? a=some q:=let⟨q,_,_,n,_⟩:=j;⟨q,n⟩;exact yg I (by rw[e];exact kO) G he (Ge D x (i.put k M) j)
 ·subst p t;cases(show u=Value.ref b from L);obtain⟨z,x,xs,i,B⟩:=Im I.hok I.kIn e;have C:xs.length<=aj:=by rw[<-Paired.length i];exact z
  have D:(eT f k v).length<=aj:=by have:=jq f k v;omega
  refine wpAny_setItem_heap (hsz:=C) (iM Y) (xX I.hok I.kIn (gQ.c 8 m O) m) B fun T j G=>h _ ?_;obtain⟨q,es,ep,n,h2,h3,h4,_,h5⟩:=j;refine yg I (by rw[e];exact kO) G ⟨q,n⟩ ⟨D,x,_,(i.put k (gQ.c 8 m O) m M).keeps fun c ys U=>?_,q,es,ep,n,h2,h3,h4,h5⟩;rw[am (Ie U e (fun z=>nomatch z))];exact U
end
def El(i:Expr):Prop:=∀ov iv,xc i false ov iv=operate [ov,iv] (nJ ov iv)
theorem GV{a:bP}{w:World}{A:Around}{E:Zc}{s:Shared}{k:Env}{value slice:Expr}{p:Pos}{T id:String}{Q:Zc}
  (t:typeLookup (.type T) "__getitem__"=pure (some (.builtin id))) (u:El slice)
  (h:wpAny (model a w) A (eval value k) (fun o g=>wpAny (model a w) A (eval slice k) (fun i e=>e.TypeIs o T/\wpAny (model a w) A (nJ o i) Q E e) E g) E s) :
  wpAny (model a w) A (eval (.Subscript value slice p) k) Q E s:=by
 refine Subscript_ (oO h (fun o g m=>oO m (fun i e f=>?_) fun _ _ x=>x) fun _ _ x=>x);obtain⟨q,f⟩:=f;unfold subscriptTail;refine ai ?_;rw[getitemInPython_of_ne q.not_modules];refine ai (GJ q t ?_);have l:wpAny (model a w) A (xc slice false o i) (fun r j=>wpAny (model a w) A (letTemporaryGo value o r >>= fun _=>pure r) Q E j) E e:=by
  rw[u o i];exact wpAny_operating (oO f (fun r j n=>ai (wpAny_letTemporaryGo (aG n))) fun _ _ x=>x)
 first
  |exact aG (ai l)
  |exact ai (aG (ai l))
  |exact ai l
theorem Ab{X:Cx}{i:Zd}{σ:St}{H:Hp}{s:Shared}{a:Addr}{y:V}{o:Option V}(I:Inv X i σ H s)(g:yI X.K H a y o):s.TypeIs (.ref a) "dict":=by
 rcases g with⟨f,k,e,_,_⟩|⟨f,k,b,e,_,_,_⟩
 ·obtain⟨_,_,j,_,h⟩:=rT I.hok e;exact h.typeIs
 ·obtain⟨_,_,l,_,h⟩:=uH I.hok I.kIn e;exact h.typeIs
def vQ(K:Za)(td ty:TE):TE:=fun σ H Q=>td σ H fun x H1=>ty σ H1 fun y H2=>∃a v,x=.ref a/\yI K H2 a y (some v)/\Q v H2
def zk(K:Za)(ty td:TE):TE:=fun σ H Q=>ty σ H fun y H1=>td σ H1 fun x H2=>∃a o,x=.ref a/\yI K H2 a y o/\Q (.bl o.isSome) H2
def o0(K:Za)(ty td:TE):TE:=fun σ H Q=>ty σ H fun y H1=>td σ H1 fun x H2=>∃a o,x=.ref a/\yI K H2 a y o/\Q (.bl (!o.isSome)) H2
def pq(td ty tv:TE):TS:=fun D σ H=>tv σ H fun v H1=>td σ H1 fun x H2=>ty σ H2 fun y H3=>∃a H4,x=.ref a/\JQ H3 a y v H4/\D.nx σ H4
section
variable{X:Cx}{o i e value:Expr}{pos pos' J8:Pos}{td ty tv:TE}
theorem pJ(m:X.A.units+16<cLine)(n:PE X o td)(hi:PE X i ty)(p:El i):PE X (.Subscript o i pos) (vQ X.K td ty):=by
 intro k s σ H Q I h;refine GV PySem.F.slot_dict_getitem.lookup p (dk (n k s σ H _ I h) fun u q ⟨x,r,t,z,B⟩=>dk (hi k q σ r _ t B) fun J L f=>?_);obtain⟨y,C,l,D,a,v,ex,g,E⟩:=f;subst ex;obtain rfl:u=Value.ref a:=z;exact⟨Ab l g,D0 m l g D fun M N G j=>⟨v,C,G,j,E⟩⟩
theorem nZ(k:X.A.units+16<cLine)(hi:PE X i ty)(l:PE X o td):PC X .In i o (zk X.K ty td):=by
 intro j s σ H Q I h;refine dk (hi j s σ H _ I h) fun E m ⟨y,n,p,q,r⟩=>dk (l j m σ n _ p r) fun u G f=>?_;obtain⟨x,t,v,z,a,B,ex,g,C⟩:=f;subst ex;obtain rfl:u=Value.ref a:=z;exact d_in k v g q fun J D=>⟨.bl B.isSome,t,D,rfl,C⟩
theorem mx(k:X.A.units+16<cLine)(hi:PE X i ty)(l:PE X o td):PC X .NotIn i o (o0 X.K ty td):=by
 intro j s σ H Q I h;refine dk (hi j s σ H _ I h) fun E m ⟨y,n,p,q,r⟩=>dk (l j m σ n _ p r) fun u G f=>?_;obtain⟨x,t,v,z,a,B,ex,g,C⟩:=f;subst ex;obtain rfl:u=Value.ref a:=z;exact HH k v g q fun J D=>⟨.bl (!B.isSome),t,D,rfl,C⟩
theorem jn(k:X.A.units+16<cLine)(l:PE X o td)(hi:PE X i ty)(m:PE X value tv)(n:tD value (some (.Subscript o i pos')) pos.line X.env=pure false):
  PS X (.Assign [.Subscript o i pos'] value pos) (pq td ty tv):=by
 intro f s σ H D I h;refine wpAny_Assign_Subscript (dk (m f s σ H _ I h) fun r p ⟨v,q,t,z,B⟩=>dk (l f p σ q _ t B) fun u C ⟨x,E,G,J,L⟩=>dk (hi f C σ E _ G L) fun U Y j=>?_) n;obtain⟨y,H3,M,N,a,O,ex,g,Q⟩:=j;subst ex;obtain rfl:u=Value.ref a:=J;exact DZ k M g N z fun s4 T=>⟨σ,O,T,Q⟩
end
theorem Gf{P:bP}{w:World}{K:Za}{H:Hp}(h:Heap)(a:hW<h.objs.size):cq P w K H (h.push { cls:=.type "dict",data:=.dict #[] }) h.objs.size (.dK []) :=
 ⟨c7 _,beq_eq_false_iff_ne.mpr (hV (cy a)),[],.nil,Heap.DictOf.new h⟩
theorem Gd{P:bP}{w:World}{K:Za}{H:Hp}(h:Heap)(a:hW<h.objs.size):cq P w K H (h.push { cls:=.type "dict",data:=.dict #[] }) h.objs.size (.dT []) :=
 ⟨c7 _,beq_eq_false_iff_ne.mpr (hV (cy a)),[],.nil,_,#[],0,cu _ rfl,⟨rfl,rfl,rfl⟩,rfl,rfl,tP⟩
def uf:TE:=fun _ H Q=>∀p,H p=none->Q (.ref p) (upd H p (.dK []))
def xC:TE:=fun _ H Q=>∀p,H p=none->Q (.ref p) (upd H p (.dT []))
section
variable{X:Cx}{pos:Pos}
theorem pH:PE X (.Dict [] [] pos) uf:=fun e s σ H Q I h =>
 wpAny_Dict_empty ⟨.ref s.heap.objs.size,_,I.laid (a:=s.heap.objs.size) (o:=.dK []) (t':=s.toks) (fun _ _ q=>aO _ q) (aP _) (Gf s.heap I.big),rfl,h _ (I.hok.fresh (aP _))⟩
theorem uu:PE X (.Dict [] [] pos) xC:=fun e s σ H Q I h =>
 wpAny_Dict_empty ⟨.ref s.heap.objs.size,_,I.laid (a:=s.heap.objs.size) (o:=.dT []) (t':=s.toks) (fun _ _ q=>aO _ q) (aP _) (Gd s.heap I.big),rfl,h _ (I.hok.fresh (aP _))⟩
end
def jE(kvs more:List (fu×V)):List (fu×V):=more.foldl (fun acc kv=>eT acc kv.1 kv.2) kvs
theorem KV.merge:∀{a:List (fu×V)}{i:List (fu×Value)}{f:List (fu×V)}{g:List (fu×Value)},KV a i->KV f g->KV (jE f a) (merged g i):=by
 intro a i f g r;unfold KV at r
 induction r generalizing f g with
 |nil=>intro q;exact q
 |@cons p q l qs h t j =>
  intro k;have e:KV (eT f p.1 p.2) (stored g q.1 q.2):=by
   have:=k.put p.1 h.2;rw[<-h.1];exact this
  exact j e
theorem m_:∀(e a:List (fu×V)),(jE a e).length<=a.length+e.length
 |[],a=>by show a.length<=a.length+0;omega
 |p::r,a=>by
  have f:=m_ r (eT a p.1 p.2);have g:=jq a p.1 p.2;show(jE (eT a p.1 p.2) r).length<=_;rw[eO];omega
structure M2(X:Cx)(o:Expr)(m:Str)(J6:Pos)(e f:Expr)(J5:Pos):Prop where
 base:vG o m X.env (eval o X.env)=eval o X.env
 few:((backTo J5 (aQ [e,f] X.env)).all (fun x=>!x.1) && (rA J5 (rq [] X.env)).all (fun x=>x.1.isSome)
  && decide (([e,f]:List Expr).length+([]:List Keyword).length+(if([]:List Keyword).isEmpty then 0 else 1)<30))=true
 line:(J6.endLine==J5.line)=true
 trees:backTo J5 (aQ [e,f] X.env)=[(false,eval e X.env),(false,eval f X.env)]
def IsD(H:Hp)(a:Addr):Prop:=(∃kvs,Rd H a (.dK kvs))∨∃kvs,Rd H a (.dT kvs)
theorem IU{X:Cx}{l:Zd}{σ:St}{H:Hp}{s:Shared}{a:Addr}(I:Inv X l σ H s)(d:IsD H a):
  s.TypeIs (.ref a) "dict"/\(∀b,Value.ref a=.ref b->∃f,s.heap.get? b=some f/\f.dict=none)/\(a==hW)=false:=by
 rcases d with⟨h,e⟩|⟨h,e⟩
 ·obtain⟨_,i,m,_,g⟩:=rT I.hok e;refine⟨g.typeIs,fun b q=>?_,i⟩;cases q;obtain⟨f,_,_,j,k,_⟩:=g;exact⟨f,j,k.2.1⟩
 ·obtain⟨_,i,n,_,g⟩:=uH I.hok I.kIn e;refine⟨g.typeIs,fun b q=>?_,i⟩;cases q;obtain⟨f,_,_,j,k,_⟩:=g;exact⟨f,j,k.2.1⟩
section
variable{X:Cx}{J4:Zd}{σ:St}{H:Hp}{s:Shared}{a:Addr}{y d:V}{u r:Value}{o:Option V}{A:Around}{E:Zc}
theorem IW{Q:Zc}(x:A.units+16<cLine)(I:Inv X J4 σ H s)(g:yI X.K H a y o)(p:RelV y u)(q:RelV d r)(h:∀t v,Inv X J4 σ H v->RelV (o.getD d) t->Q t v):
  wpAny (model X.prog X.w) A (call (.builtin "dict.get") [.ref a,u,r]) Q E s:=by
 rcases g with⟨j,k,e,m,l⟩|⟨j,k,b,e,m,B,C,l⟩
 ·subst m;obtain⟨z,n,G,f,i⟩:=rT I.hok e;refine call_meetsIn PySem.F.slot_dict_get i.typeIs PySem.F.entry_dict_get (PySem.F.args_dict_get_3 _ _ _) (meets_dict_get_default (cQ X.prog X.w) a (rO p) n r) ⟨_,i.mapOf,h _ _ (I.tok _) ?_⟩;rw[l];exact(f.val k).getD q
 ·subst m;cases(show u=Value.ref b from p);obtain⟨z,n,D,f,i⟩:=uH I.hok I.kIn e;refine call_meetsIn PySem.F.slot_dict_get i.typeIs PySem.F.entry_dict_get (PySem.F.args_dict_get_3 _ _ _) (meetsH_dict_get_default (bL X.prog X.w) a b n r) ⟨iM x,k,D,x8 I B C,i,h _ _ (I.tok _) ?_⟩;rw[l];exact(f.val k).getD q
end
def ug(K:Za)(td ty tx:TE):TE:=fun σ H Q=>td σ H fun x H1=>∃a,x=.ref a/\IsD H1 a/\ty σ H1 fun y H2=>tx σ H2 fun z H3=>∃o,yI K H3 a y o/\Q (o.getD z) H3
section
variable{X:Cx}{o e f:Expr}{J6 J5:Pos}{td ty tx:TE}
theorem pI(n:X.A.units+16<cLine)(p:PE X o td)(q:PE X e ty)(hf:PE X f tx)(m:M2 X o "get" J6 e f J5):PE X (.Call (.Attribute o "get" J6) [e,f] [] J5) (ug X.K td ty tx):=by
 intro i s σ H Q I h;refine wpAny_Call_method m.base m.few m.line PySem.F.plainAttrs_dict PySem.F.slot_dict_get PySem.F.type_dict_get (dk (p i s σ H _ I h) fun u r j=>?_);obtain⟨x,t,l,v,a,ex,d,B⟩:=j;subst ex;obtain rfl:u=Value.ref a:=v;obtain⟨C,D,_⟩:=IU l d;refine⟨C,D,?_⟩;rw[m.trees];refine xb rfl (Calls.evalArgs_plain (BP (dk (q i r σ t _ l B) fun iv E ⟨y,G,J,L,M⟩ =>
  BP (dk (hf i E σ G _ J M) fun fv s3 ⟨z,N,O,T,ov,g,U⟩=>Calls.spliced_nil ?_))))
 exact IW n O g L T fun w' s4 Y k=>⟨_,N,Y,k,U⟩
end
end L2
namespace Att
open PySem PySem.W PySem.Calls PyProof.Rows
theorem ints_of_wellAll{P:Params}{h:Heap}:∀(e:List Int) (vs:Zf),WellAll P h vs (e.map WData.int)->tO vs e:=by
 intro e
 induction e with
 |nil =>
  intro vs w;rw[List.map_nil]at w;cases w;exact .nil
 |cons n e f =>
  intro vs w;rw[cg]at w;cases w with
  |cons a b =>
   cases a;exact .cons _ _ (f _ b)
theorem script_of{l:OpenLaw}{n:Nat}(u:l.most=some n){P:Params}{h:Heap}{args:List WData}{f:Zf}
  (g:l.row.toRowW.claim.pre args=true) (o:WellAll P h f args) :
  ∃a s e,f=[Value.ref a]/\args=[WData.list (e.map WData.int)]/\h.get? a=some { cls:=.type "list",data:=.seq s.toArray }/\tO s e/\e.length<=n:=by
 have p:WShape.hasAll [] args [.list .int]=true:=(pre_splitW g).1;have t:l.pre.holds [] { args:=args }=true:=(pre_splitW g).2;obtain⟨d,r,rfl,v,x⟩:=hasAllW_cons p;obtain rfl:=hasAllW_nil x;obtain⟨D,rfl,y⟩:=hasW_list v;obtain⟨e,rfl⟩:=items_int y;have i:e.length<=n:=by
  unfold OpenLaw.pre at t;have k:(WTm.not (.lt (.lit (.int (n:Int))) (.len (.arg 0)))).holds [] { args:=[.list (e.map .int)] }=true:=by
   have k:=(holds_andW t).1;rw[u]at k;exact k
  have m:=condW_of k (w_not (w_lt w_lit (w_len_list (w_arg rfl))));rw[ag]at m;refine Nat.le_of_not_lt fun q=>?_;have z:(n:Int)<((e.length:Nat):Int):=by omega
  first
   | (rw[zzr1 z]at m;exact absurd m (by decide))
   | (simp at m;omega)
 cases o with
 |cons A B =>
  cases B;cases A with
  |list C j=>exact⟨_,_,e,rfl,rfl,C,ints_of_wellAll e _ j,i⟩
theorem post_true(l:OpenLaw)(args:List WData):l.row.toRowW.claim.post args (.bool true) args=true :=
 postW_of (r:=l.row.toRowW) (X:=(true==true))
  (show WShape.has [] (.bool true) .bool=true by first|rfl|decide|simp[WShape.has,WShape.arms,WShape.armsAll])
  (show(WTm.eq .res (.lit (.bool true))).value [] { args:=args,res:=some (.bool true),after:=args }=some (.bool (true==true))from w_eq_bool (w_res rfl) w_lit) rfl
theorem attach_call{l:OpenLaw}{n:Nat}{q:bP}{loose:Zb}{C:(Str->Option Value)->Heap->Prop}{D:World->Heap->Prop}{d:DefRec}
  (J:l.most=some n) (v:d.params.defaults=[])
  (call:∀(w:World) (g e:Shared) (p x:Str->Option Value) (i:Addr) (o:Obj) (y s doc:Value) (a:Addr) (h:Zf) (t:List Int),
   Ground q loose [] C w g p x e.heap->D w e.heap ->
   e.heap.get? i=some o->o.data=.func (docDef d.name d.params d.body d.scope y s doc)->e.heap.CodeRec s d.name->p d.name=some (.ref i) ->
   e.heap.get? a=some { cls:=.type "list",data:=.seq h.toArray }->tO h t->t.length<=n->e.gens=#[] ->
   zzl77 (model l.prog w) lr (.call (.ref i) ⟨[.ref a],[]⟩) (fun r u=>r=.ok (.ret (.bool true))/\OldK e.heap u.heap/\u.os=e.os/\oN u.gens) e) :
  WalkO q loose C D l.row.toRowW d [] (fun f h=>PySem.call f h):=by
 intro w g e p x G Y i o y s doc L kV M N z E A O args H as j I Q B T;obtain rfl:L=.none:=Dflts.none E v;obtain rfl:kV=.none:=Dflts.noKw E;obtain⟨a,h,t,rfl,rfl,k,hints,m⟩:=script_of J j B;refine enter_call (BO (call w g e p x i o y s doc a h t G Y M (fd_plain N) z A k hints m O) fun r u U=>?_);obtain⟨rfl,h2,h3,h4⟩:=U;exact⟨.inl ⟨.bool true,.bool true,[],rfl,fun _=>rfl,.bool true,post_true l _,fun _=>⟨List.Pairwise.nil,fun _ hm=>(nomatch hm)⟩⟩,h2,h3,h4⟩
end Att
namespace L2
open PySem PySem.Spec PyProof.Rows
theorem vK:∀{a:Zf}{e:List Int},tO a e->bC (e.map V.int) a
 |_,_,.nil=>.nil
 |_,_,.cons n t h=>.cons ⟨t,rfl⟩ (vK h)
def HP(H:Hp):Prop:=∀b,H b=none∨∃o xs,H b=some (.frz o (.lst xs))
theorem FS{P:bP}{w:World}{K:Za}{A Q:Str->Option Value}{CX:Ey}{k:Nat}{T a:Addr}{fd:kN}{x:Str}{sp:Sp}{f:Shared}{t:Zf}{B:List Int}
  (KX:K.In f.heap) (C:f.heap.Ns cj A) (i:f.heap.Ns builtinsNs Q) (U:∀x:Str,x≠"__name__"->Q x=ji x) (D:f.heap.NoLimit) (hg:f.gens=#[])
  (O:f.heap.get? a=some { cls:=.type "list",data:=.seq t.toArray }) (hi:tO t B) (hl:B.length<=aj) (hr:eV k lr)
  (F:∀base:Heap,K.In base->base.Ns cj A->l_ P w K A base CX k T fd [x] sp) (y:∀(s:Shared) (u:Value),tu s fd ⟨[u],[]⟩ [(x,u)])
  (Y:∀H:Hp,HP H->au K H a (B.map V.int)->sp [.ref a] H (fun v _=>v=.bl true) fun _ _ _=>False)
  (al:∀H e j,CX [] H f (fun _ _ _=>False) e j->False) :
  zzl77 (model P w) lr (.call (.ref T) ⟨[.ref a],[]⟩) (fun r j=>r=.ok (.ret (.bool true))/\OldK f.heap j.heap/\j.os=f.os/\oN j.gens) f:=by
 have rv:=vK hi;have E:=hi.length;have p:∀H:Hp,HP H->au K H a (B.map V.int)->mK P w K H f.heap->(∀b,H b≠none->b=a)->(H a≠none->K.lookup a=none) ->
   zzl77 (model P w) lr (.call (.ref T) ⟨[.ref a],[]⟩) (fun r j=>r=.ok (.ret (.bool true))/\OldK f.heap j.heap/\j.os=f.os/\oN j.gens) f:=by
  intro H hO hS G hA hK;have g:∀{b:Addr}{o:Obj},f.heap.get? b=some o->H b=none->(yb f.heap H).get? b=some o:=fun e n=>FX e n;have an:∀{b:Addr}{o:Obj}{es:Array iU}{I:Nat},f.heap.get? b=some o->o.data=.dict es I->H b=none:=fun{b o es I} e d=>by
   cases q:H b with
   |none=>rfl
   |some u =>
    have e':b=a:=hA b (by rw[q];simp);subst e';rw[O]at e;cases e;have d':Data.seq t.toArray _=Data.dict es I:=d;cases d'
  have l:∀{b:Addr}{m:Str->Option Value},f.heap.Ns b m->(yb f.heap H).Ns b m:=fun{b m} ⟨o,es,I,e,d,r⟩=>⟨o,es,I,g e (an e d),d,r⟩;have J:K.In (yb f.heap H):=fun b o e=>g (KX b o e) (by
   cases q:H b with
   |none=>rfl
   |some u =>
    have e':b=a:=hA b (by rw[q];simp);subst e';rw[hK (by rw[q];simp)]at e;cases e)
  have hM:Mod K A (yb f.heap H):=⟨J,l C,⟨Q,l i,U⟩,let⟨mc,h1,h2⟩:=D;⟨mc,l h1,h2⟩⟩;have e0:BJ P w K A (yb f.heap H) lr [] f H:=⟨rfl,hM,fun b o e=>Hw e,Nat.le_of_eq (DR _ _),trivial,fun b i=>absurd (show b∈([]:Ze)from i) (by simp),G,.of_eq hg⟩;refine BO ((F _ J (l C)).run lr [] f H ⟨[.ref a],[]⟩ [.ref a] [.ref a] _ _ hr e0 (y f (.ref a)) (.cons rfl .nil) (Y H hO hS)) fun r j h=>?_;cases r with
  |error e=>exact(al H e j h).elim
  |ok fl =>
   cases fl with
   |next=>exact jL h
   |brk=>exact jL h
   |cont=>exact jL h
   |ret u =>
    obtain⟨v,H',os,L,un,M,r',q⟩:=h;have q':v=.bl true:=q;subst q';obtain rfl:u=Value.bool true:=r';refine⟨rfl,OldK.of_keep fun b o e=>?_,os,L⟩;cases q:H b with
    |none=>exact un.keep b o e q (by intro z;exact absurd (show b∈([]:Ze)from z) (by simp)) (by simp)
    |some u =>
     rcases hO b with z|⟨ob,xs,z⟩
     ·rw[q]at z;cases z
     ·have z2:=un.frzs b ob _ z;obtain⟨e1,_⟩:=G b _ z;obtain⟨e2,_⟩:=M b _ z2;rw[e]at e1;cases e1;exact e2
 cases hk:K.lookup a with
 |some o =>
  have e:=KX a o hk;rw[O]at e;cases e;refine p (fun _=>none) (fun _=>.inl rfl) (.inr ⟨_,t.toArray,_,hk,rfl,rfl,rfl,by rw[b9,E];exact hl,by simpa using rv⟩) (fun b u z=>by have N:(none:Option HO)=some u:=z;cases N) (fun b z=>absurd rfl z) fun z=>absurd rfl z
 |none =>
  refine p (fun b=>if b=a then some (.frz { cls:=.type "list",data:=.seq t.toArray } (.lst (B.map V.int)))else none) (fun b=>?_) (.inl (.inr ⟨{ cls:=.type "list",data:=.seq t.toArray },if_pos rfl⟩)) (fun b u z=>?_) (fun b z=>?_) fun _=>hk
  ·by_cases i:b=a
   ·exact .inr ⟨_,_,if_pos i⟩
   ·exact .inl (if_neg i)
  ·by_cases i:b=a
   ·have N:=(if_pos i).symm.trans z;cases N;subst i;exact⟨O,by rw[ag];exact hl,t,_,rv,O⟩
   ·have N:=(if_neg i).symm.trans z;cases N
  ·by_cases i:b=a
   ·exact i
   ·exact absurd (if_neg i) z
end L2
namespace L2
open PySem PySem.Spec PyProof.Rows
theorem GN{l:PySem.W.OpenLaw}{n k:Nat}{q:bP}{loose:Zb}{N:(Str->Option Value)->Heap->Prop}{I:World->Heap->Prop}{d:DefRec}{K:Params->Za}{CX:World->Ey}{sp:World->Sp}{x:Str}
  (O:l.most=some n) (y:n<=aj) (z:d.params.defaults=[]) (Q:eV k lr)
  (U:∀(w:World) (h:Heap),I w h->(K w.params).In h)
  (F:∀(w:World) (j:Str->Option Value) (r:Addr) (h:Heap),(K w.params).In h->h.Ns cj j->j d.name=some (.ref r) ->
   ∃A:kN,(∀(s:Shared) (u:Value),tu s A ⟨[u],[]⟩ [(x,u)]) /\
    ∀base:Heap,(K w.params).In base->base.Ns cj j->l_ l.prog w (K w.params) j base (CX w) k r A [x] (sp w))
  (B:∀(w:World) (H:Hp) (a:Addr) (t:List Int),t.length<=n->HP H->au (K w.params) H a (t.map V.int)->sp w [.ref a] H (fun v _=>v=.bl true) fun _ _ _=>False)
  (C:∀(w:World) (H:Hp) (s:Shared) (e:Value) (D:Shared),CX w [] H s (fun _ _ _=>False) e D->False) :
  PySem.W.WalkO q loose N I l.row.toRowW d [] (fun f J=>PySem.call f J):=by
 refine Att.attach_call O z fun w L m j mb r o pm cd doc a J t G Y ho hd al E p hints i hg=>?_;have M:=U w _ Y;obtain⟨A,hb,hF⟩:=F w j r _ M G.T.g E;exact FS M G.T.g G.T.b G.T.builtins G.T.nolimit hg p hints (bz i y) Q hF hb (fun H hO hS=>B w H a t i hO hS) fun H e D=>C w H m e D
theorem walk_ofK{l:PySem.W.OpenLaw}{n k:Nat}{q:bP}{loose:Zb}{A:(Str->Option Value)->Heap->Prop}{t:World->Heap->Prop}{d:DefRec}{K:Params->Za}{CX:Ey}{sp:Za->Sp}{x:Str}
  (B:l.most=some n) (j:n<=aj) (m:d.params.defaults=[]) (C:eV k lr)
  (D:∀(w:World) (h:Heap),t w h->(K w.params).In h)
  (F:∀(w:World) (g:Str->Option Value) (y:Addr) (h:Heap),(K w.params).In h->h.Ns cj g->g d.name=some (.ref y) ->
   ∃z:kN,(∀(s:Shared) (u:Value),tu s z ⟨[u],[]⟩ [(x,u)]) /\
    ∀base:Heap,(K w.params).In base->base.Ns cj g->l_ l.prog w (K w.params) g base CX k y z [x] (sp (K w.params)))
  (o:∀(K:Za) (H:Hp) (a:Addr) (i:List Int),i.length<=n->HP H->au K H a (i.map V.int)->sp K [.ref a] H (fun v _=>v=.bl true) fun _ _ _=>False)
  (p:∀(H:Hp) (s:Shared) (e:Value) (r:Shared),CX [] H s (fun _ _ _=>False) e r->False) :
  PySem.W.WalkO q loose A t l.row.toRowW d [] (fun f E=>PySem.call f E) :=
 GN (K:=K) (CX:=fun _=>CX) (sp:=fun w=>sp (K w.params)) B j m C D F (fun w H a i G I J=>o (K w.params) H a i G I J) fun _ H s e r=>p H s e r
end L2
namespace L2
open PySem PySem.Spec PyProof.Rows
def iJ(s:Stmt)(j:Nat):Stmt:=match s with
 |.ClassDef _ _ _ body _ _ _ _ _ _ _=>body.getD j (.Pass ⟨0,0,0,0⟩)
 |_=>.Pass ⟨0,0,0,0⟩
def iK(s:Stmt):Arguments:=match s with
 |.FunctionDef _ a _ _ _ _ _ _ _ _=>a
 |_=>{ posonlyargs:=[],args:=[],vararg:=none,kwonlyargs:=[],kw_defaults:=[],kwarg:=none,defaults:=[] }
def gj(s:Stmt):List Stmt:=match s with
 |.FunctionDef _ _ b _ _ _ _ _ _ _=>b
 |_=>[]
def cn(s:Stmt):Scope:=match s with
 |.FunctionDef _ _ _ _ _ _ sc _ _ _=>sc
 |_=>{ kind:=.function,names:=[],isGenerator:=false,isCoroutine:=false }
abbrev CX0:Ey:=fun _ _ _ _ _ _=>False
abbrev E0:XK:=fun _ _ _=>False
abbrev aN(sp:Sp)(a:TA):TE:=HZ sp [] E0 a
theorem Ck{X:Cx}:oq CX0 X E0:=fun _ _ _ _ _ _ _ h=>h.elim
structure Jm(K:Za)(x qual:Str)(st:Stmt)(f:Addr)(fd:kN):Prop where
 ex:∃(oc:Value) (od:Option Addr) (kV doc pm:Value) (an:Option Addr) (cdv ct:Value) (osl:Array (Option Value)),
  fd=iV x qual (iK st) (gj st) (cn st) .none kV doc pm an cdv ct/\K.lookup f=some ⟨oc,od,.func fd,osl⟩/\nK K cdv qual=true
 kp:jK K (.ref f)=true
section
variable{P:bP}{w:World}{K:Za}{mg:Str->Option Value}{base:Heap}
theorem Jm.ok{x a:Str}{st:Stmt}{f:Addr}{o:kN}{N j:Zb}{k:Nat}{l:Sp}(F:Jm K x a st f o)(S:kF N j (cn st))(len:∀g H Q E,l g H Q E->g.length=j.length)
  (i:∀(e:Value) (A:Around) (outer:List Env) (s:Shared) (H:Hp) (g:List V) (Q:VK) (E:XK),eV k (A.deeper (envOfC a (cn st) s.heap.objs.size f e))->l g H Q E ->
   ∃t,Ax (Bq CX0 P w K mg base N a (cn st) f e A outer s H E).nox (gj st) t/\t (bS Q) (start N g) H):l_ P w K mg base CX0 (k+1) f o j l:=by
 obtain⟨u,v,kV,doc,y,z,e,B,p,rfl,lk,m⟩:=F.ex;refine JF lk m S len fun A outer s H g Q E r n=>?_;obtain⟨t,h,q⟩:=i e A outer s H g Q E r n;exact⟨t,h.nox,q⟩
theorem Jm.binds{x a:Str}{st:Stmt}{f:Addr}{l:kN}{ps:Zb}(F:Jm K x a st f l)
  (h:∀(kV doc g:Value) (i:Option Addr) (e j:Value) (k:Zf),k.length=ps.length->bindArgs (iV x a (iK st) (gj st) (cn st) .none kV doc g i e j) ⟨k,[]⟩=pure (ps.zip k)):Binds K l ps []:=by
 obtain⟨o,p,kV,doc,g,i,e,j,m,rfl,lk,n⟩:=F.ex;exact .all (h kV doc g i e j)
theorem F0{x a:Str}{st:Stmt}{f:Addr}{m:Value}{n h:Option Addr}{g:Array (Option Value)}{kV doc i e j:Value}(l:K.lookup f=some ⟨m,n,.func (iV x a (iK st) (gj st) (cn st) .none kV doc i h e j),g⟩)
  (c:nK K e a=true) (k:jK K (.ref f)=true):Jm K x a st f (iV x a (iK st) (gj st) (cn st) .none kV doc i h e j):=⟨⟨m,n,kV,doc,i,h,e,j,g,rfl,l,c⟩,k⟩
end
theorem Cu{A:Around}{k:Nat}(a:eV k A):A.units+16<cLine:=Nat.lt_of_le_of_lt (Nat.add_le_add_left (by decide:16<=64) _) a.units
theorem ao{n:Nat}(h:n<=1000):n<aj:=Nat.lt_of_le_of_lt h (by decide)
section
variable{X:Cx}
theorem pv(i:Nat){x:Str}{a:Pos}(f:X.N[i]?=some x:=by rfl)(g:Vis X.env.scope x:=by first|exact Or.inl rfl|exact Or.inr (Or.inl rfl)|exact Or.inr (Or.inr rfl))(h:(x==("__debug__":Str))=false:=by decide)
  (e:(x==("__classdict__":Str))=false:=by decide):PE X (.Name x a) (nT i):=IH f g h e
end
theorem bv{A B:Prop}(h:B):if false=true then A else B:=by
 rw[if_neg gw];exact h
theorem cr{A B:Prop}(h:A):if true=true then A else B:=by
 rw[if_pos rfl];exact h
theorem kz{c A B:Prop}[Decidable c](a:c->A)(e:¬c->B):if c then A else B:=by
 by_cases h:c
 ·rw[if_pos h];exact a h
 ·rw[if_neg h];exact e h
def ab(H H':Hp):Prop:=∀b o,H b=some o->H' b=some o
theorem ab.refl(H:Hp):ab H H:=fun _ _ h=>h
theorem ab.trans{H e f:Hp}(a:ab H e)(b:ab e f):ab H f:=fun c o h=>b c o (a c o h)
theorem ab.free{H a:Hp}(e:ab H a){l:Addr}(h:a l=Option.none):H l=Option.none:=by
 cases q:H l with
 |none=>rfl
 |some o =>
  rw[e l o q]at h;cases h
theorem ab.seq{K:Za}{H f:Hp}{a:Addr}{g:List V}(e:ab H f)(h:au K H a g):au K f a g:=by
 rcases h with(h|⟨o,h⟩)|h
 ·exact .inl (.inl (e _ _ h))
 ·exact .inl (.inr ⟨o,e _ _ h⟩)
 ·exact .inr h
section
variable{prog:bP}{w:World}{A:Around}{R:Result->Shared->Prop}{s:Shared}
abbrev XF:Value->Shared->Prop:=fun _ _=>False
abbrev Bk(ifs:List Expr)(env:Env):Sem Bool:=forIn ifs true fun c r=>if r=true then do let ok <- isTrue c env (eval c env);pure (wZ ok)else pure (wZ r)
theorem yi{t target j:Expr}{u:List Expr}{scope:Scope}{B:Pos}{it y:Value}{a:Env}(I:Nat->Shared->Prop)
  (turn:∀n s,I n s->wpAny (model prog w) A (pyNext it) (fun r e=>match r with
   |none=>R (.ok .next) e
   |some v=>wpAny (model prog w) A (BU target it v) (fun _ f=>wpAny (model prog w) A (assign target a v) (fun _ k =>
     wpAny (model prog w) A (Bk u a) (fun ok g =>
      if ok=true then wpAny (model prog w) A (eval t a) (fun x l =>
       wpAny (model prog w) A (call (.builtin "list.append") [y,x]) (fun _ o=>∃m,m<n/\I m o) XF l) XF g
      else ∃m,m<n/\I m g) XF k) XF f) XF e) XF s)
  (n:Nat) (h:I n s):zzl77 (model prog w) A (.compLoop (.ListComp t [⟨target,j,u,0⟩] scope B) 0 it y a) R s:=by
 refine codeAny_loop rfl I (fun n s G=>?_) n h;show wpAny _ A ((compTurn (.ListComp t [⟨target,j,u,0⟩] scope B) 0 it y a).onRaise (fun x=>do noteFrame x a;theTreesLotGoes x)) _ _ s
 refine wpAny_noted ?_;rw[compTurn_list];refine ai (BV (ai (oO (turn n s G) (fun r e p=>?_) fun _ _ i=>i.elim)));cases r with
 |none=>exact aG p
 |some v =>
  refine ai (oO p (fun _ f z=>?_) fun _ _ i=>i.elim);refine ai (oO z (fun _ k C=>ai (oO C (fun ok g q=>?_) fun _ _ i=>i.elim)) fun _ _ i=>i.elim);cases ok with
  |false=>exact aG ⟨rfl,q⟩
  |true =>
   exact ai (ai (oO q (fun x l D=>ai (oO D (fun _ o E=>aG (aG ⟨rfl,E⟩)) fun _ _ i=>i.elim)) fun _ _ i=>i.elim))
end
theorem og{env:Env}:∀(names:List (Str×jI)) (a:List (Str×Addr)),(∀y∈names,y.2=.free->∃c,env.cells.lookup y.1=some c)->(∀x c,a.lookup x=some c->env.cells.lookup x=some c) ->
  ∃f:List (Str×Addr),(forIn names a fun(x:Str×jI) (r:List (Str×Addr))=>if(x.2==lq)=true then(cellOf env x.1 >>= fun c=>(pure (wZ ((x.1,c)::r)):Sem (ForInStep (List (Str×Addr)))))else pure (wZ r))=pure f /\
   (∀x c,f.lookup x=some c->env.cells.lookup x=some c)/\(∀x,(a.lookup x).isSome=true->(f.lookup x).isSome=true)/\∀y∈names,y.2=.free->(f.lookup y.1).isSome=true
 |[],a,_,o=>⟨a,rfl,o,fun _ h=>h,fun _ h=>nomatch h⟩
 | (n,k)::r,a,l,o=>by
  have u:∀y∈r,y.2=.free->∃c,env.cells.lookup y.1=some c:=fun y hy=>l y (fX _ hy);by_cases q:k=.free
  ·subst q;obtain⟨c,v⟩:=l (n,.free) dS rfl;obtain⟨f,e,s,p,t⟩:=og r ((n,c)::a) u (fun x d m=>by
    rw[iT]at m;cases hx:x==n with
    |true =>
     rw[hx]at m;have:x=n:=by simpa using hx
     subst this;cases m;exact v
    |false=>rw[hx]at m;exact o x d m)
   have g:(((n,c)::a).lookup n).isSome=true:=by rw[iT,beq_self_eq_true];rfl
   have i:∀x,(a.lookup x).isSome=true->(((n,c)::a).lookup x).isSome=true:=fun x hx=>by
    rw[iT];cases x==n with
    |true=>rfl
    |false=>exact hx
   refine⟨f,?_,s,fun x hx=>p x (i x hx),fun y hy hf=>?_⟩
   ·rw[nE];have j:cellOf env n=pure c:=by unfold cellOf;rw[v]
    simp only[beq_self_eq_true,if_true,j];exact e
   ·rcases c8.mp hy with rfl|hy
    ·exact p _ g
    ·exact t y hy hf
  ·obtain⟨f,e,s,p,t⟩:=og r a u o;refine⟨f,?_,s,p,fun y hy hf=>?_⟩
   ·rw[nE];have z:(k==lq)=false:=by simpa using q
    simp only[z,mZ,if_false];exact e
   ·rcases c8.mp hy with rfl|hy
    ·exact absurd hf q
    ·exact t y hy hf
theorem uO{env:Env}{scope:Scope}(f:∀y∈scope.names,y.2=.free->∃c,env.cells.lookup y.1=some c):
  ∃a:List (Str×Addr),closureFor scope env=pure a/\(∀x c,a.lookup x=some c->env.cells.lookup x=some c)/\∀y∈scope.names,y.2=.free->(a.lookup y.1).isSome=true:=by
 obtain⟨a,e,g,_,i⟩:=og (env:=env) scope.names [] f (fun _ _ h=>nomatch h);refine⟨a,?_,g,i⟩;unfold closureFor
 first
  |exact e
  | (simp only[bind_pure];exact e)
  | (rw[show(forIn scope.names [] _:Sem (List (Str×Addr)))=pure a from e];rfl)
def eg(X:Cx)(N:Zb)(scope:Scope)(C:Addr)(cl:List (Str×Addr))(s₀:Shared)(H₀:Hp)(ex:Ze)(pn:Zd):Cx where
 prog:=X.prog
 w:=X.w
 K:=X.K
 mg:=X.mg
 base:=X.base
 A:=X.A
 N:=N
 s₀:=s₀
 H₀:=H₀
 env:=compEnvC scope cl C X.env
 outer:=X.stack
 stack:=X.stack
 ex:=ex
 fn:=fun _=>false
 calm:=X.calm
 pn:=pn
 xe:=XF
def mH(sc scope:Scope)(k:Nat)(N XN:Zb)(fi:List Nat):Bool :=
 decide (scope.kind=.function) &&
 (scope.names.all fun y=>decide (y.2≠.cell) && (decide (y.2≠.local) || decide (scope.names.lookup y.1=some .local)) && (decide (y.2≠.free) || decide (sc.names.lookup y.1=some .cell) || decide (sc.names.lookup y.1=some .free))) &&
 decide (N.length=k+fi.length) &&
 ((mY fi.length).all fun j=>match fi[j]? with
  |some i=>match N[k+j]?,XN[i]? with
   |some x,some y=>decide (x=y) && decide (scope.names.lookup x=some .free)
   |_,_=>false
  |none=>false)
structure oF(sc scope:Scope)(k:Nat)(N XN:Zb)(fi:List Nat):Prop where
 kind:scope.kind=.function
 cell:∀y∈scope.names,y.2≠.cell
 nm:∀y∈scope.names,y.2=.local->scope.names.lookup y.1=some .local
 fr:∀y∈scope.names,y.2=.free->sc.names.lookup y.1=some .cell∨sc.names.lookup y.1=some .free
 len:N.length=k+fi.length
 sl:∀j i,fi[j]?=some i->∃x,N[k+j]?=some x/\XN[i]?=some x/\scope.names.lookup x=some .free
theorem oF.of{sc scope:Scope}{k:Nat}{N g:Zb}{l:List Nat}(h:mH sc scope k N g l=true):oF sc scope k N g l:=by
 unfold mH at h;simp only[ka,qr,tN,decide_eq_true_eq]at h;obtain⟨⟨⟨n,m⟩,o⟩,p⟩:=h;refine⟨n,fun y f=>(m y f).1.1,fun y f e=>((m y f).1.2).resolve_left fun z=>z e,fun y f e=>?_,o,fun j i e=>?_⟩
 ·rcases(m y f).2 with(z|z)|z
  ·exact absurd e z
  ·exact .inl z
  ·exact .inr z
 ·have r:j<l.length:=(bN.mp e).1;have q:=p j (List.mem_range.mpr r);rw[e]at q;dsimp only at q;cases a:N[k+j]? with
  |none=>rw[a]at q;cases q
  |some x =>
   cases b:g[i]? with
   |none=>rw[a,b]at q;cases q
   |some y =>
    rw[a,b]at q;simp only[ka,decide_eq_true_eq]at q;exact⟨x,rfl,by rw[q.1],q.2⟩
theorem iA{a:Env}:∀{names:List (Str×jI)}{x:Str},names.lookup x=some .free ->
  (names.map fun(n,k)=>if(k==lq && a.scope.kind==.function && a.kindOf n==some .cell)then(n,jI.cell)else(n,k)).lookup x=some .cell ∨
  (names.map fun(n,k)=>if(k==lq && a.scope.kind==.function && a.kindOf n==some .cell)then(n,jI.cell)else(n,k)).lookup x=some .free
 |[],_,h=>by simp at h
 | (n,k)::r,x,h=>by
  have f:=@iA a r x;simp only[cg];cases hx:x==n with
  |true =>
   simp only[iT,hx]at h;cases h;by_cases e:(lq==lq && a.scope.kind==.function && a.kindOf n==some .cell)=true
   ·left;rw[if_pos e];simp[iT,hx]
   ·right;rw[if_neg e];simp[iT,hx]
  |false =>
   simp only[iT,hx]at h;by_cases e:(k==lq && a.scope.kind==.function && a.kindOf n==some .cell)=true
   ·rw[if_pos e];simp only[iT,hx];exact f h
   ·rw[if_neg e];simp only[iT,hx];exact f h
def cH(k:Nat)(fi:List Nat)(σ:St):St:=tq k none++fi.map fun i=>(σ[i]?).join
theorem Bu(k:Nat)(a:List Nat)(σ:St):(cH k a σ).length=k+a.length:=by simp[cH]
theorem uN{k:Nat}{f:List Nat}{σ:St}{i:Nat}{v:V}(h:(cH k f σ)[i]?=some (some v)):∃j t,i=k+j/\f[j]?=some t/\σ[t]?=some (some v):=by
 unfold cH at h;by_cases hi:i<k
 ·rw[qw (by simpa using hi),List.getElem?_replicate_of_lt hi]at h;cases h
 ·rw[xf (by simp;omega),List.length_replicate,du]at h;refine⟨i-k,?_⟩;cases e:f[i-k]? with
  |none=>rw[e]at h;cases h
  |some t =>
   rw[e]at h;simp only[tR]at h;refine⟨t,by omega,rfl,?_⟩;have a:=fj h;cases g:σ[t]? with
   |none=>rw[g]at a;cases a
   |some o=>rw[g]at a;simp only[Option.join]at a;first|(rw[a])|(subst a;rfl)|(simpa using a)
def Am(k:Nat)(g:TG):Prop:=∀x σ H Q,g x σ H Q->g x σ H fun σ2 H2=>Q σ2 H2/\σ2.length=σ.length/\∀i,k<=i->σ2[i]?=σ[i]?
def CO(k:Nat)(g:CM):Prop:=∀x σ H Q,g x σ H Q->g x σ H fun σ2 H2=>Q σ2 H2/\σ2.length=σ.length/\∀i,k<=i->σ2[i]?=σ[i]?
theorem aI{k i:Nat}(h:i<k):Am k (dX i):=fun x σ H Q q=>⟨q,by simp,fun j a=>by rw[List.getElem?_set_ne (by omega)]⟩
theorem jT{k:Nat}:CO k ir:=fun x σ H Q ⟨e,q⟩=>⟨e,q,rfl,fun _ _=>rfl⟩
def GB(g:TG):Prop:=∀x σ H Q Q',(∀σ2 H2,Q σ2 H2->Q' σ2 H2)->g x σ H Q->g x σ H Q'
def yH(g:CM):Prop:=∀x σ H Q Q',(∀σ2 H2,Q σ2 H2->Q' σ2 H2)->g x σ H Q->g x σ H Q'
theorem bq{i:Nat}:GB (dX i):=fun _ _ _ _ _ f q=>f _ _ q
theorem cP:yH ir:=fun _ _ _ _ _ f ⟨e,q⟩=>⟨e,f _ _ q⟩
theorem dL{g:TG}{u:CM}(a:GB g)(h:yH u):yH (bA g u):=fun _ _ _ _ _ f ⟨v,r,e,q⟩=>⟨v,r,e,a _ _ _ _ _ (fun _ _ q=>h _ _ _ _ _ f q) q⟩
theorem cN{k:Nat}{g:TG}{u:CM}(a:Am k g)(f:GB g)(h:CO k u)(j:yH u):CO k (bA g u):=fun x σ H Q ⟨v,r,e,q⟩ =>
 ⟨v,r,e,f _ _ _ _ _ (fun σ2 p ⟨q,l,s⟩=>j _ _ _ _ _ (fun σ3 t ⟨m,n,o⟩=>⟨m,n.trans l,fun i hi=>(o i hi).trans (s i hi)⟩) (h _ _ _ _ q)) (a _ _ _ _ q)⟩
theorem my{K:Za}{k n:Nat}{t:CM}(h:CO k t):Am k (i7 K n t):=fun x σ H Q ⟨a,f,e,g,i,q⟩=>⟨a,f,e,g,i,h _ _ _ _ q⟩
def Ix(X:Cx)(ifs:List Expr)(t:TT):Prop :=
 ∀(J4:Zd) (s:Shared) (σ:St) (H:Hp) (Q:Bool->Hp->Prop),Inv X J4 σ H s->t σ H Q->wpAny (model X.prog X.w) X.A (Bk ifs X.env) (TP X J4 σ Q) X.xe s
def ip:TT:=fun _ H Q=>Q true H
theorem cF{X:Cx}:Ix X [] ip:=fun a s σ H Q I h=>aG ⟨H,I,h⟩
theorem dC{X:Cx}{c:Expr}{t:TT}(h:PT X c t):Ix X [c] t:=by
 intro a s σ H Q I e;unfold Bk;rw[nE];simp only[if_true];refine ai (ai (dk (h a s σ H Q I e) fun b f q=>aG ?_));exact aG q
def cv(k:Nat)(fi:List Nat)(wi:TI)(g:TG)(tc:TT)(te:TE):TE:=fun σ H Q=>wi σ H fun J H1=>∀l,H1 l=none->∃W:Nat->Nat->List V->Hp->Prop,(∃m,W 0 m [] (upd H1 l (.lst [])))/\∀i m vs H2,W i m vs H2->H2 l=some (.lst vs) /\
 ((J.stop i H2/\Q (.ref l) H2)∨(J.go i H2/\∀x H3,J.yld i H2 x H3->g x (cH k fi σ) H3 fun σ2 H4=>tc σ2 H4 fun b H5 =>
  if b=true then te σ2 H5 fun v H6=>H6 l=some (.lst vs)/\vs.length<aj/\∃m',m'<m/\W (i+1) m' (vs++[v]) (upd H6 l (.lst (vs++[v])))else ∃m',m'<m/\W (i+1) m' vs H5))
section
variable{X:Cx}{J4:Zd}{σ:St}
theorem HK{k:Nat}{N:Zb}{scope:Scope}{G:List Nat}{H:Hp}{s:Shared}{t:List (Str×Addr)}{u:Ze}(S:oF X.env.scope scope k N X.N G)(I:Inv X J4 σ H s)
  (g:∀x c,t.lookup x=some c->X.env.cells.lookup x=some c) (v:∀y∈scope.names,y.2=.free->(t.lookup y.1).isSome=true) (hf:∀b∈u,mW X J4 H b) (A:∀b∈u,b<s.heap.objs.size) :
  (eg X N scope s.heap.objs.size t s H u (X.pn++J4)).Ok where
 mod:=I.ok.mod
 kind:=S.kind
 glob:=I.ok.glob
 blt:=I.ok.blt
 above:=aP _
 inj:=fun x y c J L=>I.ok.inj x y c (g x c J) (g y c L)
 has:=fun x h=>by
  have B:∃y∈scope.names,y.1=x/\y.2=.free:=by
   have h':(relabel scope X.env).names.lookup x=some .cell∨(relabel scope X.env).names.lookup x=some .free:=h;have j:∀(l:List (Str×jI)) (kd:jI),l.lookup x=some kd->(x,kd)∈l:=by
    intro l
    induction l with
    |nil=>intro kd e;cases e
    |cons a r M =>
     intro kd e;obtain⟨n,C⟩:=a;rw[iT]at e;cases hx:x==n with
     |true =>
      rw[hx]at e;have:x=n:=by simpa using hx
      subst this;cases e;exact dS
     |false=>rw[hx]at e;exact fX _ (M kd e)
   have f:∀kd,(x,kd)∈(relabel scope X.env).names->kd=.cell∨kd=.free->∃y∈scope.names,y.1=x/\y.2=.free:=by
    intro kd O D;obtain⟨⟨n,C⟩,m,e⟩:=aA.mp O;dsimp only at e;by_cases p:(C==lq && X.env.scope.kind==.function && X.env.kindOf n==some .cell)=true
    ·have E:C=.free:=by
      simp only[ka]at p;simpa using p.1.1
     rw[if_pos p]at e;cases e;exact⟨_,m,rfl,E⟩
    ·rw[if_neg p]at e;cases e;rcases D with rfl|rfl
     ·exact absurd rfl (S.cell _ m)
     ·exact⟨_,m,rfl,rfl⟩
   rcases h' with h'|h'
   ·exact f _ (j _ _ h') (.inl rfl)
   ·exact f _ (j _ _ h') (.inr rfl)
  obtain⟨y,m,rfl,D⟩:=B;exact xg.mp (v y m D)
 cab:=fun x c h=>by cases h
 hd:=I.ok.hd
 frames:=I.ok.frames
 stk:=.inl rfl
 exf:=fun b i=>⟨cy (A b i),fun x c e=>(hf b i).2.2.2.2.1 x c (g x c e)⟩
 bs:=I.bs
 bsz:=bz I.ok.bsz I.sz
 noex:=fun b o e i=>by
  rcases(hf b i).2.2.2.1 with z|z
  ·exact I.ok.noex b o e z
  ·exact absurd (iP (aU (I.ok.bs b o e).1) z) (rF _)
 exfs:=fun b i z=>by
  obtain⟨_,Q,T,_⟩:=hf b i;rcases c8.mp (I.stkSub b z)with q|q
  ·exact Q q
  ·exact T q
 funs:=I.stack
 frf:=I.stkFree
theorem Gp{k:Nat}{N:Zb}{scope:Scope}{U:List Nat}{H:Hp}{s:Shared}{G:List (Str×Addr)}{J:Ze}{f:Heap}{t':Nat}{m:Str->Option Value}(S:oF X.env.scope scope k N X.N U)(I:Inv X J4 σ H s)
  (h:∀x c,G.lookup x=some c->X.env.cells.lookup x=some c) (C:∀y∈scope.names,y.2=.free->(G.lookup y.1).isSome=true) (hf:∀b∈J,mW X J4 H b) (L:∀b∈J,b<s.heap.objs.size)
  (hn:f.Ns s.heap.objs.size m) (g:∀b o,s.heap.get? b=some o->f.get? b=some o) :
  Inv (eg X N scope s.heap.objs.size G s H J (X.pn++J4)) [] (cH k U σ) H { s with heap:=f,toks:=t' }:=by
 have B:∀(l:List (Str×jI)) (x:Str) (kd:jI),l.lookup x=some kd->(x,kd)∈l:=by
  intro l
  induction l with
  |nil=>intro x kd e;cases e
  |cons a r ih =>
   intro x kd e;obtain⟨n,k'⟩:=a;rw[iT]at e;cases hx:x==n with
   |true =>
    rw[hx]at e;have:x=n:=by simpa using hx
    subst this;cases e;exact dS
   |false=>rw[hx]at e;exact fX _ (ih x kd e)
 refine⟨HK S I h C hf L,rfl,I.bare,Un.kept g,⟨m,hn,fun i x v e1 e2 e3=>?_⟩,fun x c e=>?_,I.hok.fresh (aP _),fun x c e=>I.freeC x c (h x c e),fun p Y=>?_,I.hok.kept g,?_⟩
 ·obtain⟨j,t,rfl,ht,hv⟩:=uN e2;obtain⟨y,hy,M,D⟩:=S.sl j t ht;have E:N[k+j]?=some x:=e1;rw[hy]at E;cases E;have A:=B _ _ _ D;obtain⟨c,hc⟩:=xg.mp (C _ A rfl);have hX:=h _ _ hc;obtain⟨mX,al,O⟩:=I.loc;have kX:=S.fr _ A rfl;obtain⟨u,ru,lk⟩:=O t x v M hv (by rcases kX with z|z;exact .inr (.inl z);exact .inr (.inr z));refine⟨u,ru,.inr ⟨?_,c,hc,?_⟩⟩
  ·exact iA D
  ·rcases lk with⟨z,_⟩|⟨_,c',e',q⟩
   ·have z':X.env.scope.names.lookup x=some .local:=z;rcases kX with kX|kX<;>rw[z']at kX<;>cases kX
   ·rw[hX]at e';cases e';obtain⟨o,Q,T⟩:=q;exact⟨o,g _ o Q,T⟩
 ·obtain⟨v,o,Q,T⟩:=I.cell x c (h x c e);exact⟨v,o,g _ o Q,T⟩
 ·rw[cM]at Y;obtain⟨e,n,ne,nf,d⟩:=I.pin p Y;refine⟨g _ _ e,n,cy (aU e),fun z=>?_,d⟩;rcases c8.mp (I.stkSub _ z)with q|q
  ·exact ne q
  ·exact nf q
 ·rw[Bu];exact S.len.symm
structure yJ(X:Cx)(J4:Zd)(H:Hp)(C:Addr):Prop where
 free:H C=none
 loc:C≠X.env.locals
 young:X.s₀.heap.objs.size<=C
 cells:∀x c,X.env.cells.lookup x=some c->c≠C
 pin:∀p∈X.pn++J4,p.1≠C
theorem uL{elt iter tg:Expr}{ifs:List Expr}{scope:Scope}{pos:Pos}{k:Nat}{N:Zb}{fi:List Nat}{cl:List (Str×Addr)}{g:TG}{tc:TT}{te:TE}{it:Addr}{fp:Ze}{tn:Nat->Heap->Prop}{J:It}{s:Hp}{s2:Shared}{Q:VK}
  {E:Zc}{RR:Value->Addr->Result->Shared->Prop}
  (S:oF X.env.scope scope k N X.N fi) (hc:X.calm=true) (bl:∀x c,cl.lookup x=some c->X.env.cells.lookup x=some c) (ci:∀y∈scope.names,y.2=.free->(cl.lookup y.1).isSome=true)
  (hg:∀C cl G H ex pn,PG (eg X N scope C cl G H ex pn) tg g) (ho:Am k g) (ht:∀C cl G H ex pn,Ix (eg X N scope C cl G H ex pn) ifs tc) (he:∀C cl G H ex pn,PE (eg X N scope C cl G H ex pn) elt te)
  (I2:Inv X J4 σ s s2) (T:sE X.prog X.w X.K tg J fp it tn) (bn:tn 0 s2.heap) (f2:∀b∈fp,mW X J4 s b)
  (hw:∀l,s l=none->∃W:Nat->Nat->List V->Hp->Prop,(∃m,W 0 m [] (upd s l (.lst [])))/\∀i m O s,W i m O s->s l=some (.lst O) /\
   ((J.stop i s/\Q (.ref l) s)∨(J.go i s/\∀x H3,J.yld i s x H3->g x (cH k fi σ) H3 fun σ2 H4=>tc σ2 H4 fun b H5 =>
    if b=true then te σ2 H5 fun v H6=>H6 l=some (.lst O)/\O.length<aj/\∃U,U<m/\W (i+1) U (O++[v]) (upd H6 l (.lst (O++[v])))else ∃U,U<m/\W (i+1) U O H5)))
  (hR:∀D C L s' U,Inv X J4 σ L s'->s'.heap.Ns C U->yJ X J4 L C->Q (.ref D) L->RR (.ref D) C (.ok .next) s') :
  wpAny (model X.prog X.w) X.A (newList []) (fun acc s₃=>wpAny (model X.prog X.w) X.A (newFunctionEnv scope X.env.globals cl [] X.env.qual none .none (some X.env)) (fun aC s₄ =>
   zzl77 (model X.prog X.w) X.A (.compStart (.ListComp elt [⟨tg,iter,ifs,0⟩] scope pos) 0 (.ref it) acc { aC with scope:=relabel scope X.env }) (RR acc aC.locals) s₄) E s₃) E s2:=by
 have ap:s s2.heap.objs.size=none:=I2.fresh;obtain⟨W,⟨m0,w0⟩,turn⟩:=hw _ ap;refine jy (wpAny_newFunctionEnv S.cell (by intro y hy;simp at hy) (fun I al an=>?_) S.kind);dsimp only at al an ⊢;have I3:Inv X J4 σ (upd s s2.heap.objs.size (.lst [])) { s2 with heap:=s2.heap.push { cls:=.type "list",data:=.seq ([]:Zf).toArray },toks:=s2.toks }:=I2.lnew (ys:=[]) .nil (c7 _);generalize bp:({ s2 with heap:=s2.heap.push { cls:=.type "list",data:=.seq ([]:Zf).toArray },toks:=s2.toks }:Shared)=B at I3;have as:B.heap=s2.heap.push { cls:=.type "list",data:=.seq ([]:Zf).toArray }:=by rw[<-bp]
 have cm:B.heap.objs.size=s2.heap.objs.size+1:=by rw[as,jh]
 have b0:∀b∈fp,b<s2.heap.objs.size:=fun b f=>by
  obtain⟨o,e,_⟩:=T.obj 0 _ bn b f;exact aU e
 have f3:∀b∈fp,mW X J4 (upd s s2.heap.objs.size (.lst [])) b:=fun b f=>⟨by rw[am (cy (b0 b f))];exact(f2 b f).1,(f2 b f).2⟩;have a0:∀b∈fp,b<B.heap.objs.size:=fun b f=>by rw[cm];exact Nat.lt_succ_of_lt (b0 b f)
 have b1:∀b o,B.heap.get? b=some o->I.get? b=some o:=fun b o e=>by
  have f:b≠B.heap.objs.size:=cy (aU e);rw[as]at e f;exact an.extBut b o f (aO _ e)
 have co:I.Ns B.heap.objs.size (fun x=>([]:List (Str×Value)).reverse.lookup x):=by rw[as];exact al
 have I4:Inv (eg X N scope B.heap.objs.size cl B (upd s s2.heap.objs.size (.lst [])) fp (X.pn++J4)) [] (cH k fi σ) (upd s s2.heap.objs.size (.lst [])) { B with heap:=I,toks:=s2.toks+([]:List (Str×Value)).length } :=
  Gp S I3 bl ci f3 a0 co b1
 have b2:tn 0 I:=T.keep _ _ _ bn fun b f o e=>b1 b o (by rw[as];exact aO _ e);generalize M:eg X N scope B.heap.objs.size cl B (upd s s2.heap.objs.size (.lst [])) fp (X.pn++J4)=Y at I4;have yp:Y.prog=X.prog:=by rw[<-M];rfl
 have yw:Y.w=X.w:=by rw[<-M];rfl
 have yK:Y.K=X.K:=by rw[<-M];rfl
 have yA:Y.A=X.A:=by rw[<-M];rfl
 have yx:Y.xe=XF:=by rw[<-M];rfl
 have yc:Y.calm=true:=by rw[<-M];exact hc
 have gY:PG Y tg g:=by rw[<-M];exact hg _ _ _ _ _ _
 have tY:Ix Y ifs tc:=by rw[<-M];exact ht _ _ _ _ _ _
 have eY:PE Y elt te:=by rw[<-M];exact he _ _ _ _ _ _
 have b3:Y.env=compEnvC scope cl B.heap.objs.size X.env:=by rw[<-M];rfl
 have fY:∀{L:Hp},(∀b∈fp,L b=none)->∀b∈fp,mW Y [] L b:=fun hn b f=>by
  obtain⟨f0,f1,b4,b5,f4,f5⟩:=f3 b f;rw[<-M];refine⟨hn b f,cy (a0 b f),fun z=>?_,.inl f,fun x c e=>f4 x c (bl x c e),fun p hp=>?_⟩
  ·rcases c8.mp (I3.stkSub _ z)with q|q
   ·exact f1 q
   ·exact b4 q
  ·rw[cM]at hp;exact f5 p hp
 have a4:∀s4:Shared,s4={ B with heap:=I,toks:=s2.toks+([]:List (Str×Value)).length } ->
   zzl77 (model X.prog X.w) X.A (.compLoop (.ListComp elt [⟨tg,iter,ifs,0⟩] scope pos) 0 (.ref it) (.ref s2.heap.objs.size) Y.env) (RR (.ref s2.heap.objs.size) B.heap.objs.size) s4:=by
  rintro s4 rfl;refine yi (fun n s'=>∃i O L,Inv Y [] (cH k fi σ) L s'/\tn i s'.heap/\(∀b∈fp,L b=none)/\W i n O L) ?_ m0 ⟨0,[],_,I4,b2,fun b f=>(f3 b f).1,w0⟩;rintro n s5 ⟨i,O,H5,I5,b6,b7,w5⟩;obtain⟨dc,a5⟩:=turn i n O H5 w5;rcases a5 with⟨stop,q⟩|⟨go,step⟩
  ·have d:=T.done Y yp yw yK yc i [] s5 _ H5 XF I5 (fY b7) b6 stop;rw[yA]at d;refine dk d fun r s6 a=>?_;obtain⟨hr,I6⟩:=a;subst hr;have hu:Un (Eu X.stack) fp (upd s s2.heap.objs.size (.lst [])) H5 B.heap s6.heap:=by have:=I6.base;rw[<-M]at this;exact this
   have cs:s6.os=B.os:=by have:=I6.os;rw[<-M]at this;exact this
   have b8:mK X.prog X.w X.K H5 s6.heap:=by have:=I6.hok;rw[<-M]at this;exact this
   have ct:H5 B.heap.objs.size=none:=by have:=I6.free;rw[<-M]at this;exact this
   obtain⟨m6,ca,_⟩:=I6.loc;have cc:s6.heap.Ns B.heap.objs.size m6:=by rw[<-M]at ca;exact ca
   have IX:Inv X J4 σ H5 s6:=I3.call' cs hu b8 I6.bare fun b f=>by
    obtain⟨f0,f1,b4,b5,f4,f5⟩:=f3 b f;exact⟨b5,f1,f4,f5⟩
   refine hR _ _ H5 s6 m6 IX cc ⟨ct,eP I3.lt,I3.sz,fun x c e z=>?_,fun p hp z=>?_⟩ q
   ·obtain⟨v,o,ho,_⟩:=I3.cell x c e;exact absurd (aU ho) (by rw[z];exact rF _)
   ·exact absurd (aU (I3.pin p hp).1) (by rw[z];exact rF _)
  ·have d:=T.item Y yp yw yK yc i [] s5 _ H5 XF I5 (fY b7) b6 go;rw[yA]at d;refine dk d fun r s6 a=>?_;obtain⟨u,hr,h6⟩:=a;subst hr;refine dk h6 fun _ s7 a=>?_;obtain⟨x,H7,I7,r7,y7,a6,c0⟩:=a;have c1:=I7.pinned (fY c0) (T.obj _ _ a6);have a7:=gY _ s7 _ H7 x u _ c1 r7 (ho _ _ _ _ (step x H7 y7));rw[yp,yw,yA,yx]at a7;refine dk a7 fun _ s8 a=>?_;obtain⟨σ8,H8,I8,q8,l8,k8⟩:=a;have a8:=tY _ s8 σ8 H8 _ I8 q8;rw[yp,yw,yA,yx]at a8;have again:∀{H9:Hp}{s9:Shared}{bb:List V}{U:Nat},Inv Y ([]++uo fp s7.heap) σ8 H9 s9->U<n->W (i+1) U bb H9->∃m,m<n/\∃i O L,Inv Y [] (cH k fi σ) L s9/\tn i s9.heap/\(∀b∈fp,L b=none)/\W i m O L:=fun{H9 s9 bb U} I9 hm w9=>by
    refine⟨U,hm,i+1,bb,H9,(I9.unpinned).weak l8.symm (fun j v e=>?_),T.keep _ _ _ a6 fun b f o e=>(I9.pin (b,o) (cx _ (cx _ (kq f e)))).1,fun b f=>?_,w9⟩
    ·obtain⟨j',t,rfl,_,_⟩:=uN e;rw[k8 _ (Nat.le_add_right _ _)];exact e
    ·obtain⟨o,e,_⟩:=T.obj _ _ a6 b f;exact(I9.pin (b,o) (cx _ (cx _ (kq f e)))).2.1
   refine dk a8 fun b s9 a=>?_;obtain⟨H9,I9,q9⟩:=a;cases b with
   |false =>
    rw[if_neg gw]at q9 ⊢;obtain⟨U,hm,w9⟩:=q9;exact again I9 hm w9
   |true =>
    rw[if_pos rfl]at q9 ⊢;have a9:=eY _ s9 σ8 H9 _ I9 q9;rw[yp,yw,yA,yx]at a9;refine dk a9 fun y c2 a=>?_;obtain⟨v,cd,c3,c4,ce,bi,U,hm,c5⟩:=a;have ch:=cO (X:=Y) _ c2 σ8 cd (.ref s2.heap.objs.size) [v] (.ref s2.heap.objs.size) [y] (fun z L=>z=.non/\L=upd cd s2.heap.objs.size (.lst (O++[v]))) c3 rfl (.cons c4 .nil) ⟨_,O,v,rfl,rfl,ce,bi,rfl,rfl⟩;rw[yp,yw,yA,yx]at ch;refine dk ch fun _ dd a=>?_;obtain⟨_,di,da,_,_,db⟩:=a;subst db;exact again da hm c5
 have h:=codeAny_compStart_list (prog:=X.prog) (w:=X.w) (A:=X.A) (elt:=elt) (target:=tg) (iter:=iter) (ifs:=ifs) (rest:=[]) (scope:=scope) (pos:=pos) (it:=.ref it) (acc:=.ref s2.heap.objs.size) (env:=Y.env) (a4 _ rfl) (T.self _ 0 _ _ _ b2 (a4 _ rfl));rw[b3]at h;rw[<-bp]at h;exact h
end
section
variable{X:Cx}
theorem yJ.turned{a:Zd}{σ:St}{H:Hp}{s:Shared}{C:Addr}{f:Heap}(c:yJ X a H C)(I:Inv X a σ H s)(g:gy C s.heap f):Inv X a σ H { s with heap:=f } :=
 I.turned (t':=s.toks) (fun b o h e=>g.extBut b o h e) c.free c.loc (.inr c.young) c.cells c.pin
theorem Hs{m i p:Expr}{n:List Expr}{scope:Scope}{r:Pos}{k:Nat}{N:Zb}{G:List Nat}{wi:TI}{g:TG}{L:TT}{M:TE}(U:mH X.env.scope scope k N X.N G=true)(Y:X.calm=true)(hi:PI X p i wi)
  (hg:∀C l a f ex o,PG (eg X N scope C l a f ex o) p g) (ho:Am k g) (ht:∀C l a f ex o,Ix (eg X N scope C l a f ex o) n L) (he:∀C l a f ex o,PE (eg X N scope C l a f ex o) m M)
  (hs:∀x,yQ i X.env x=pure x:=by intro _;rfl):PE X (.ListComp m [⟨p,i,n,0⟩] scope r) (cv k G wi g L M):=by
 intro O s σ H Q I h;have S:=oF.of U;obtain⟨l,j,t,u⟩:=uO (env:=X.env) (scope:=scope) fun y hy e=>I.ok.has y.1 (S.fr y hy e);rw[eval_ListComp];refine wpAny_comprehension_free (use:=none) rfl hs j S.kind S.nm (dk (hi O s σ H _ I h) fun v s1 h1=>dk h1 fun al s2 h2=>?_);obtain⟨it,fp,tn,J,H2,e,I2,T,z,f2,hw⟩:=h2;subst e;refine uL (RR:=fun B C=>compPost (model X.prog X.w) X.A X.xe none (EP X O σ Q) B C) S Y t u hg ho ht he I2 T z f2 hw ?_;intro D C H' s' m' I' hn ce q;exact⟨m',hn,fun h' E=>⟨.ref D,H',ce.turned I' E,rfl,q⟩⟩
theorem A9{m f B:Expr}{n:List Expr}{scope:Scope}{p o t:Pos}{k:Nat}{N:Zb}{fi:List Nat}{wi:TI}{g:TG}{tc:TT}{te:TE}{j:Nat}{y:Str}(hN:X.N.Nodup)(hj:X.N[j]?=some y)(L:Loc X.env.scope y)(hS:mH X.env.scope scope k N X.N fi=true)(hc:X.calm=true)(hi:PI X B f wi)
  (hg:∀C u i l ex E,PG (eg X N scope C u i l ex E) B g) (ho:Am k g) (ht:∀C u i l ex E,Ix (eg X N scope C u i l ex E) n tc) (he:∀C u i l ex E,PE (eg X N scope C u i l ex E) m te)
  (M:tD (.ListComp m [⟨B,f,n,0⟩] scope p) (some (.Name y t)) o.line X.env=pure true:=by rfl)
  (hs:∀x,yQ f X.env x=pure x:=by intro _;rfl) (hf:X.fn y=true∨X.env.scope.names.lookup y=some .local:=by first|exact .inl rfl|exact .inr rfl|assumption) :
  PS X (.Assign [.Name y t] (.ListComp m [⟨B,f,n,0⟩] scope p) o) (bf (cv k fi wi g tc te) (dX j)):=by
 intro O s σ H D I h;have S:=oF.of hS;obtain⟨u,r,U,Y⟩:=uO (env:=X.env) (scope:=scope) fun y L e=>I.ok.has y.1 (S.fr y L e);rw[exec_Assign_Name_used _ _ _ _ M];refine ai (BV (ai ?_));show wpAny _ X.A (do let _ <- comprehension (.ListComp m [⟨B,f,n,0⟩] scope p) scope X.env _ (newList []) false (eval f X.env) (some (assign (.Name y t) X.env))) _ _ s
 refine ai (oO (wpAny_comprehension_free (use:=some (assign (.Name y t) X.env)) (Q:=fun _ G=>SP X O D .next G) rfl hs r S.kind S.nm
  (dk (hi O s σ H _ I h) fun v s1 h1=>dk h1 fun a5 s2 h2=>?_)) (fun _ G hq=>aG (aG hq)) fun _ _ e=>e)
 obtain⟨it,fp,tn,J,H2,e,I2,T,al,f2,hw⟩:=h2;subst e;refine uL (RR:=fun an C=>compPost (model X.prog X.w) X.A X.xe (some (assign (.Name y t) X.env)) (fun _ G=>SP X O D .next G) an C) (Q:=fun x H1=>dX j x σ H1 D.nx) S hc U Y hg ho ht he I2 T al f2 hw ?_;intro A C H' G m' I' hn ce q;show wpAny _ X.A (assign (.Name y t) X.env (.ref A)) _ _ _;refine wpAny_assign_Name (vR I' hN hj L (v:=.ref A) rfl (fun a6 ap as=>?_) hf);obtain⟨a,aC,ha⟩:=as;have a0:C≠a:=by
  rcases ha with z|z
  ·rw[z];exact ce.loc
  ·exact hV (ce.cells y a z)
 refine⟨m',hn.sameBut aC a0,fun h' a4=>?_⟩;exact⟨_,H',ce.turned ap a4,q⟩
end
theorem Inv.turnedNew{X:Cx}{i:Zd}{σ:St}{H:Hp}{s:Shared}{g:Heap}{p:Nat}{ch:Ze}{o:HO}(I:Inv X i σ H s)(hf:∀b∈ch,mW X i H b)
  (k:∀b q,b∉ch->s.heap.get? b=some q->g.get? b=some q) (M:∃q,g.get? s.heap.objs.size=some q) (t:∀y,o≠.own y) (new:cq X.prog X.w X.K (upd H s.heap.objs.size o) g s.heap.objs.size o) :
  Inv X i σ (upd H s.heap.objs.size o) { s with heap:=g,toks:=p }:=by
 have a:H s.heap.objs.size=none:=I.fresh;have j:∀b q,s.heap.get? b=some q->b≠s.heap.objs.size:=fun b q e=>cy (aU e);have l:∀b u,H b=some u->b∉ch:=fun b u e z=>by rw[(hf b z).1]at e;cases e
 refine I.step (g':=s.gens) (d':=s.drawn) (ch:=ch) (fun b h=>?_) (fun b q _ _ f e _=>k b q f e) (fun b q _ _ f e _=>⟨q.slots,k b q f e⟩) (fun b q _ e n=>by rw[am (j b q e)];exact n) (fun b q f e=>⟨q,k b q f e⟩)
  (fun b x e=>by rw[am (ae e a)];exact e) (fun b q u e=>by rw[am (ae e a)];exact e) (fun b N e=>⟨#[],by rw[am (ae e a),e];simp⟩) (fun m A=>?_) (fun b u e=>?_) I.bare
 ·obtain⟨O,B,Q,C,D,E⟩:=hf b h;exact⟨C,B,D,E⟩
 ·obtain⟨q,G,J,L,r⟩:=A;exact⟨q,G,J,k _ q (fun z=>(hf _ z).2.1 rfl) L,r⟩
 ·by_cases h:b=s.heap.objs.size
  ·subst h;rw[aa]at e;cases e;exact new
  ·rw[am h]at e;refine(I.hok b u e).stay (fun c v f q=>k c v ?_ q) (fun c q=>by rw[am (ae q a)];exact q) fun c x q=>by rw[am (ae q a)];exact q
   rcases f with z|z
   ·subst z;exact l _ _ e
   ·exact l _ _ z
def Jl(K:Za)(a:Addr):It :=
 ⟨fun i H=>∃xs x,au K H a xs/\xs[i]?=some x,fun i H x H'=>∃p v,x=.ref p/\H p=none/\(∀xs,au K H a xs->xs[i]?=some v)/\H'=upd H p (.tup [.int i,v]),fun i H=>∃xs,au K H a xs/\xs.length<=i⟩
theorem C0{P:bP}{w:World}{K:Za}{es:List Expr}{kx:Nat}{J8:Pos}(a e it:Addr)(n:e≠it):
  sE P w K (.Tuple es kx J8) (Jl K a) [e,it] e (fun i h=>(∃f,IsEnum h e it i f)/\h.IsListIter it a i) where
 mem:=by simp
 obj:=fun i h st b m=>by
  obtain⟨⟨f,j⟩,o,G,J,hd⟩:=st;rcases c8.mp m with z|z
  ·subst z;exact⟨_,j,fun v z=>by cases z⟩
  ·have L:b=it:=by simpa using z
   subst L;exact⟨o,G,fun v z=>by rw[hd]at z;cases z⟩
 keep:=fun i h C st k=>⟨let⟨f,j⟩:=st.1;⟨f,k e (by simp) _ j⟩,st.2.at fun o e=>k it (by simp) o e⟩
 item:=by
  intro X M N O J i J4 s σ H E I hf st Q;subst M N O;obtain⟨⟨f,j⟩,l⟩:=st;obtain⟨xs,x,D,hx⟩:=Q;obtain⟨T,U,p,hz⟩:=I.list D;obtain⟨u,hu,ru⟩:=U.get hx;obtain⟨e0,e1,e2,e3,e4,e5⟩:=hf e (by simp);obtain⟨Y,f1,f2,f3,f4,f5⟩:=hf it (by simp);refine wpAny_pyNext_enum_item j l p.isList (x:=u) (by simpa using hu) n fun C al r an a8 ap=>?_;refine⟨_,rfl,wpAny_letOwnedTupleGo_enum (s:={ s with heap:=C,toks:=s.toks+1 }) al fun h2 as aC=>?_⟩;have g:gy e C h2:=aC;have t:s.heap.objs.size≠e:=eP (aU j);have A:h2.get? s.heap.objs.size=some { cls:=.type "tuple",data:=.seq #[.int i s.toks,u] }:=g.extBut _ _ t an;have a0:H s.heap.objs.size=none:=I.fresh;have a4:upd H s.heap.objs.size (.tup [.int i,x]) e=none:=by rw[am (hV t)];exact e0
  have a5:s.heap.objs.size≠it:=by
   obtain⟨o,G,_⟩:=l;exact eP (aU G)
  have a6:upd H s.heap.objs.size (.tup [.int i,x]) it=none:=by rw[am (hV a5)];exact Y
  have I2:Inv X J4 σ (upd H s.heap.objs.size (.tup [.int i,x])) { s with heap:=h2,toks:=s.toks+1 }:=by
   refine I.turnedNew (ch:=[e,it]) hf (fun b o m q=>?_) ⟨_,A⟩ (fun _ z=>nomatch z) ⟨by show 2<=aj;decide,[.int i s.toks,u],.cons ⟨_,rfl⟩ (.cons ru .nil),⟨_,A,rfl,_,rfl⟩⟩;have B:b≠e:=fun z=>m (by simp[z]);have a7:b≠it:=fun z=>m (by simp[z]);exact g.extBut _ _ B (ap b o B a7 q)
  refine⟨.ref s.heap.objs.size,_,I2,rfl,⟨_,x,rfl,a0,fun ys hy=>by rw[I.list_inj hy D];exact hx,rfl⟩,⟨⟨u,by simpa using as⟩,r.at fun o y=>(g.2 it (hV n)).trans y⟩,fun b m=>?_⟩;rcases c8.mp m with z|z
  ·subst z;exact a4
  ·have L:b=it:=by simpa using z
   subst L;exact a6
 done:=by
  intro X M N O J i J4 s σ H E I hf st Q;subst M N O;obtain⟨⟨f,j⟩,l⟩:=st;obtain⟨xs,D,hx⟩:=Q;obtain⟨T,U,p,hz⟩:=I.list D;obtain⟨Y,f1,f2,f3,f4,f5⟩:=hf it (by simp);have hl:=U.length;exact wpAny_pyNext_enum_end (I.ok.hd J) j l p.isList (by simp;omega) fun C eb=>⟨rfl,I.turned (t':=s.toks) (fun b o m e=>eb b o m e) Y f1 f3 f4 f5⟩
 self:=fun _ _ _ _ _ st h=>let⟨_,j⟩:=st.1;wpAny_pyIter_enum j h
section
variable{X:Cx}{p pos:Pos}{es:List Expr}{kx:Nat}{J8:Pos}
def uF(K:Za)(ta:TA):TI:=fun σ H R=>ta σ H fun vs H1=>∃a,vs=[.ref a]/\(∃xs,au K H1 a xs)/\R (Jl K a) H1
theorem mw{a:Expr}{n:TA}(x:Gl X "enumerate")(y:X.mg "enumerate"=none)(A:PA X [a] n)(B:aQ [a] X.env=[(false,eval a X.env)]:=by rfl):PI X (.Tuple es kx J8) (.Call (.Name "enumerate" p) [a] [] pos) (uF X.K n):=by
 intro r s σ H R I h;refine Call_ (lY I x y boot_enumerate (vH (dk (A pos r s σ H _ I h) fun U s1 i=>?_) B rfl));obtain⟨Y,t,g,C,D⟩:=i;obtain⟨l,e,⟨xs,E⟩,q⟩:=D;subst e;obtain⟨u,rfl,G⟩:=vals1 C;cases G;obtain⟨J,rv,L,hz⟩:=g.list E;refine call_enumerate_list L.isList fun j v k M N=>?_;refine wpAny_pyIter_enum (s:={ s1 with heap:=j }) v ?_;have m:∀b o,s1.heap.get? b=some o->j.get? b=some o:=N;have O:Inv X r σ t { s1 with heap:=j }:=g.kept (t':=s1.toks) m;refine⟨_,[s1.heap.objs.size+1,s1.heap.objs.size],_,_,t,rfl,O,C0 l _ _ (Nat.succ_ne_self _),⟨⟨_,v⟩,k⟩,fun b Q=>?_,q⟩;have f:s1.heap.objs.size<=b:=by
  rcases c8.mp Q with z|z
  ·rw[z];exact BM _
  ·have T:b=s1.heap.objs.size:=by simpa using z
   rw[T];exact aP _
 exact g.fpOk f (g.hok.fresh f)
end
def Kk(x:Str):It:=⟨fun i _=>i<x.cps.size,fun i H y H'=>H'=H/\∃c,x.cps[i]?=some c/\y=.str ⟨#[c]⟩,fun i _=>x.cps.size<=i⟩
theorem AB{P:bP}{w:World}{K:Za}{D:Expr}(x:Str)(t:Tok)(it:Addr):sE P w K D (Kk x) [it] it (fun i h=>h.IsStrIter it "str_ascii_iterator" x t i) where
 mem:=by simp
 obj:=fun i h st b a=>by
  have e:b=it:=by simpa using a
  subst e;obtain⟨o,e,c,d⟩:=st;exact⟨o,e,fun v z=>by rw[d]at z;cases z⟩
 keep:=fun i h g st k=>by
  obtain⟨o,e,c,d⟩:=st;exact⟨o,k it (by simp) o e,c,d⟩
 item:=by
  intro X j l m B i C s σ H E I hf st n;subst j l m;have p:i<x.cps.size:=n;obtain⟨q,r,G,u,y,A⟩:=hf it (by simp);have hx:x.cps[i]?=some x.cps[i]:=by simp[p]
  refine wpAny_pyNext_ascii_item st hx fun g f J=>?_;have L:Inv X C σ H { s with heap:=g,toks:=s.toks+1 }:=I.turned (t':=s.toks+1) (fun b o a e=>(J.2 b a).trans e) q r u y A;obtain⟨o,e,c,d⟩:=id f;exact⟨_,rfl,v9 (s:={ s with heap:=g,toks:=s.toks+1 }) e c d (by decide) ⟨.str ⟨#[x.cps[i]]⟩,H,L,⟨_,rfl⟩,⟨rfl,_,hx,rfl⟩,f,fun b a=>(hf b a).1⟩⟩
 done:=by
  intro X j l m B i C s σ H E I hf st n;subst j l m;have M:x.cps.size<=i:=n;obtain⟨q,r,G,u,y,A⟩:=hf it (by simp);exact wpAny_pyNext_ascii_end (I.ok.hd B) st (by simp;omega) fun g N=>⟨rfl,I.turned (t':=s.toks) (fun b o a e=>N b o a e) q r u y A⟩
 self:=fun _ _ _ _ _ st h=>wpAny_pyIter_striter_ascii st h
theorem CY{P:bP}{w:World}{K:Za}{D:Expr}(x:Str)(t:Tok)(it:Addr):sE P w K D (Kk x) [it] it (fun i h=>h.IsStrIter it "str_iterator" x t i) where
 mem:=by simp
 obj:=fun i h st b a=>by
  have e:b=it:=by simpa using a
  subst e;obtain⟨o,e,c,d⟩:=st;exact⟨o,e,fun v z=>by rw[d]at z;cases z⟩
 keep:=fun i h g st k=>by
  obtain⟨o,e,c,d⟩:=st;exact⟨o,k it (by simp) o e,c,d⟩
 item:=by
  intro X j l m B i C s σ H E I hf st n;subst j l m;have p:i<x.cps.size:=n;obtain⟨q,r,G,u,y,A⟩:=hf it (by simp);have hx:x.cps[i]?=some x.cps[i]:=by simp[p]
  refine wpAny_pyNext_wide_item st hx fun g f J=>?_;have L:Inv X C σ H { s with heap:=g,toks:=s.toks+1 }:=I.turned (t':=s.toks+1) (fun b o a e=>(J.2 b a).trans e) q r u y A;obtain⟨o,e,c,d⟩:=id f;exact⟨_,rfl,v9 (s:={ s with heap:=g,toks:=s.toks+1 }) e c d (by decide) ⟨.str ⟨#[x.cps[i]]⟩,H,L,⟨_,rfl⟩,⟨rfl,_,hx,rfl⟩,f,fun b a=>(hf b a).1⟩⟩
 done:=by
  intro X j l m B i C s σ H E I hf st n;subst j l m;have M:x.cps.size<=i:=n;obtain⟨q,r,G,u,y,A⟩:=hf it (by simp);exact wpAny_pyNext_wide_end (I.ok.hd B) st (by simp;omega) fun g N=>⟨rfl,I.turned (t':=s.toks) (fun b o a e=>N b o a e) q r u y A⟩
 self:=fun _ _ _ _ _ st h=>wpAny_pyIter_striter_wide st h
section
variable{X:Cx}{p pos:Pos}{tg:Expr}
def JB(tl:TE):TI:=fun σ H R=>tl σ H fun v H1=>∃x,v=.str x/\R (Kk x) H1
theorem IE{l:Expr}{k:TE}(r:PE X l k):PI X tg l (JB k):=by
 intro m s σ H R I h;refine dk (r m s σ H _ I h) fun v a i=>?_;obtain⟨y,j,g,u,z⟩:=i;obtain⟨x,e,q⟩:=z;subst e;obtain⟨t,rfl⟩:=u;have f:∀b∈[a.heap.objs.size],mW X m j b:=fun b A=>by
  have e:b=a.heap.objs.size:=by simpa using A
  subst e;exact g.fpOk (aP _) (g.hok.fresh (aP _))
 cases n:x.cps.all (·<128)
 ·refine wpAny_pyIter_wide n ?_;exact⟨a.heap.objs.size,[a.heap.objs.size],_,_,j,rfl,g.kept (t':=a.toks) fun b o e=>aO _ e,CY x t _,⟨_,cu _ rfl,rfl,rfl⟩,f,q⟩
 ·refine wpAny_pyIter_ascii n ?_;exact⟨a.heap.objs.size,[a.heap.objs.size],_,_,j,rfl,g.kept (t':=a.toks) fun b o e=>aO _ e,AB x t _,⟨_,cu _ rfl,rfl,rfl⟩,f,q⟩
end
def Kj(K:Za)(a b:Addr):It :=
  ⟨fun i H=>∃xs ys x y,au K H a xs/\au K H b ys/\xs[i]?=some x/\ys[i]?=some y,
   fun i H x H'=>∃p u v,x=.ref p/\H p=none/\(∀xs,au K H a xs->xs[i]?=some u)/\(∀ys,au K H b ys->ys[i]?=some v)/\H'=upd H p (.tup [u,v]),
   fun i H=>∃xs ys,au K H a xs/\au K H b ys/\(xs.length<=i∨ys.length<=i)⟩
theorem EI{P:bP}{w:World}{K:Za}{es:List Expr}{kx:Nat}{J8:Pos}(a b z TI TO t A:Addr)(D:iS z TI TO t A a b):
  sE P w K (.Tuple es kx J8) (Kj K a b) [z,TI,TO,t,A] z (fun i h=>IsZip h z TI TO .none/\IsPair h TI (.ref t) (.ref A)/\(∃a b,IsPair h TO a b)/\h.IsListIter t a i/\h.IsListIter A b i) where
 mem:=by simp
 obj:=fun i h st c f=>by
  obtain⟨p,j,⟨u,v,l⟩,G,J⟩:=st;simp only[c8,iR,or_false]at f;rcases f with rfl|rfl|rfl|rfl|rfl
  ·exact⟨_,p,fun v z=>by cases z⟩
  ·exact⟨_,j,fun v z=>by cases z⟩
  ·exact⟨_,l,fun v z=>by cases z⟩
  ·obtain⟨o,e,c,d⟩:=G;exact⟨o,e,fun v z=>by rw[d]at z;cases z⟩
  ·obtain⟨o,e,c,d⟩:=J;exact⟨o,e,fun v z=>by rw[d]at z;cases z⟩
 keep:=fun i h M st k=>by
  obtain⟨p,j,⟨u,v,l⟩,G,J⟩:=st;exact⟨k z (by simp) _ p,k TI (by simp) _ j,⟨u,v,k TO (by simp) _ l⟩,G.at fun o e=>k t (by simp) o e,J.at fun o e=>k A (by simp) o e⟩
 item:=by
  intro X hP hw hK f i J4 s σ H E I hf st hg;subst hP hw hK;obtain⟨p,j,⟨u0,v0,l⟩,G,J⟩:=st;obtain⟨xs,ys,x,y,B,C,hx,hy⟩:=hg;obtain⟨ap,rx,px,zx⟩:=I.list B;obtain⟨as,ry,py,zy⟩:=I.list C;obtain⟨u,hu,ru⟩:=rx.get hx;obtain⟨v,hv,rv⟩:=ry.get hy;refine wpAny_pyNext_zip_item D p j l G J px.isList py.isList (x:=u) (y:=v) (by simpa using hu) (by simpa using hv) fun M a1 a2 a3 a4 a5 a6 hk=>?_;refine⟨_,rfl,wpAny_letOwnedTupleGo_zip (s:={ s with heap:=M }) a1 fun L aC a0=>?_⟩;have g:gy z M L:=a0;have N:s.heap.objs.size≠z:=eP (aU p);have O:s.heap.objs.size≠TO:=eP (aU l);have Q:s.heap.objs.size≠TI:=eP (aU j);have T:s.heap.objs.size≠t:=by obtain⟨o,U,_⟩:=G;exact eP (aU U)
  have Y:s.heap.objs.size≠A:=by obtain⟨o,U,_⟩:=J;exact eP (aU U)
  have al:IsPair L s.heap.objs.size u v:=g.extBut _ _ N a5;have I2:Inv X J4 σ (upd H s.heap.objs.size (.tup [x,y])) { s with heap:=L,toks:=s.toks }:=by
   refine I.turnedNew (ch:=[z,TI,TO,t,A]) hf (fun c o f q=>?_) ⟨_,al⟩ (fun _ z=>nomatch z) ⟨by show 2<=aj;decide,[u,v],.cons ru (.cons rv .nil),⟨_,al,rfl,_,rfl⟩⟩;have n1:c≠z:=fun q=>f (by simp[q]);exact g.extBut _ _ n1 (hk c o n1 (fun q=>f (by simp[q])) (fun q=>f (by simp[q])) (fun q=>f (by simp[q])) q)
  refine⟨.ref s.heap.objs.size,_,I2,rfl,⟨_,x,y,rfl,I.fresh,fun zs p=>by rw[I.list_inj p B];exact hx,fun zs p=>by rw[I.list_inj p C];exact hy,rfl⟩,⟨aC,g.extBut _ _ D.TIz (hk _ _ D.TIz D.TITO D.TIi1 D.TIi2 j),⟨_,_,g.extBut _ _ D.TOz a2⟩,a3.at fun o e=>g.extBut _ _ D.i1z e,a4.at fun o e=>g.extBut _ _ D.i2z e⟩,fun c f=>?_⟩;have a7:=(hf c f).1;simp only[c8,iR,or_false]at f;have ne:c≠s.heap.objs.size:=by
   rcases f with rfl|rfl|rfl|rfl|rfl
   ·exact N.symm
   ·exact Q.symm
   ·exact O.symm
   ·exact T.symm
   ·exact Y.symm
  rw[am ne];exact a7
 done:=by
  intro X hP hw hK f i J4 s σ H E I hf st hg;subst hP hw hK;obtain⟨p,j,⟨u0,v0,l⟩,G,J⟩:=st;obtain⟨xs,ys,B,C,an⟩:=hg;obtain⟨ap,rx,px,zx⟩:=I.list B;obtain⟨as,ry,py,zy⟩:=I.list C;have lx:=rx.length;have ly:=ry.length;refine wpAny_pyNext_zip_end (I.ok.hd f) D p j l G J px.isList py.isList (by rcases an with q|q;exact .inl (by simp;omega);exact .inr (by simp;omega)) fun M hk=>⟨rfl,?_⟩;have tr:∀c q,H c=some q->c∉[z,TI,TO,t,A]:=fun c q e m=>by rw[(hf c m).1]at e;cases e
  have kk:∀c o,c∉[z,TI,TO,t,A]->s.heap.get? c=some o->M.get? c=some o:=fun c o f q=>hk c o (fun q=>f (by simp[q])) (fun q=>f (by simp[q])) (fun q=>f (by simp[q])) (fun q=>f (by simp[q])) q;refine I.step (g':=s.gens) (d':=s.drawn) (t':=s.toks) (ch:=[z,TI,TO,t,A]) (fun c f=>?_) (fun c o _ _ f e _=>kk c o f e) (fun c o _ _ f e _=>⟨o.slots,kk c o f e⟩) (fun _ _ _ _ n=>n) (fun c o f e=>⟨o,kk c o f e⟩) (fun _ _ e=>e) (fun _ _ _ e=>e) (fun c ps e=>⟨#[],by rw[e];simp⟩) (fun m hm=>?_) (fun c q e=>?_) I.bare
  ·obtain⟨f0,f1,f2,f3,f4,f5⟩:=hf c f;exact⟨f3,f1,f4,f5⟩
  ·obtain⟨q,a8,ep,U,r⟩:=hm;exact⟨q,a8,ep,kk _ q (fun z=>(hf _ z).2.1 rfl) U,r⟩
  ·refine(I.hok c q e).stay (fun d v hd q'=>kk d v ?_ q') (fun _ q=>q) fun _ _ q=>q;rcases hd with z|z
   ·subst z;exact tr _ _ e
   ·exact tr _ _ z
 self:=fun _ _ _ _ _ st h=>qq st.1 h
section
variable{prog:bP}{w:World}{A:Around}{E:Zc}{s:Shared}
theorem iH{it t:Addr}{i:Nat}{items:Array Value}{x:Value}{Q:Zc}(st:s.heap.IsTupleIter it t i)(g:s.heap.IsTuple t items)(hx:items[i]?=some x)
  (k:∀f,f.IsTupleIter it t (i+1)->gy it s.heap f->Q x { s with heap:=f }):wpAny (model prog w) A (io (.ref it)) Q E s:=by
 obtain⟨m,e,h,a⟩:=id st;obtain⟨n,j,_,o,l⟩:=g;unfold io;refine ai (jx (name:=jw "__next__") st.typeIs wY
  (nk wY st.typeIs F.entry_tuple_iterator_next ?_ (F.args_tuple_iterator_next_1 _)))
 show wpAny _ _ (field (.ref it) 0 >>= _) _ _ s;refine ai (dE e a (x:=.ref t) rfl ?_);show wpAny _ _ (if(Value.ref t==Value.none)=true then _ else _) _ _ s
 rw[if_neg (show ¬((Value.ref t==Value.none)=true)from gw)];show wpAny _ _ (field (.ref it) 1 >>= _) _ _ s;refine ai (dE e a (x:=.int i 0) rfl ?_);show wpAny _ _ (seqItems? (.ref t) >>= _) _ _ s;refine ai (hZ j l ?_);simp only[jA,hx];refine ai (qp e a (by simp) (aG ⟨x,rfl,aG (k _ ?_ (j_ ..))⟩));exact⟨_,tT _ e (Obj.isFreed_of_fields (qo a _)),(Obj.cls_mapFields ..).trans h,by
  rw[qo a];simp[rawInt]⟩
theorem lX{it t:Addr}{i:Nat}{items:Array Value}{Q:Zc}(j:A.handled=none)(st:s.heap.IsTupleIter it t i)(l:s.heap.IsTuple t items)(hx:items[i]?=none)
  (k:∀f e,Heap.ExtBut it s.heap f->(∃o,f.get? e=some o/\o.cls=.type "StopIteration")->E (.ref e) { s with heap:=f }):wpAny (model prog w) A (io (.ref it)) Q E s:=by
 obtain⟨q,g,r,h⟩:=id st;obtain⟨u,n,_,v,p⟩:=l;unfold io;refine ai (jx (name:=jw "__next__") st.typeIs wY
  (nk wY st.typeIs F.entry_tuple_iterator_next ?_ (F.args_tuple_iterator_next_1 _)))
 show wpAny _ _ (field (.ref it) 0 >>= _) _ _ s;refine ai (dE g h (x:=.ref t) rfl ?_);show wpAny _ _ (if(Value.ref t==Value.none)=true then _ else _) _ _ s
 rw[if_neg (show ¬((Value.ref t==Value.none)=true)from gw)];show wpAny _ _ (field (.ref it) 1 >>= _) _ _ s;refine ai (dE g h (x:=.int i 0) rfl ?_);show wpAny _ _ (seqItems? (.ref t) >>= _) _ _ s;refine ai (hZ n p ?_);simp only[jA,hx];refine ai (lB (ai (qp g h (by simp) ?_)));show wpAny _ _ (newExc (.type "StopIteration") [] >>= _) _ _ _;refine ai ?_;simp only[newExc,newTuple];refine ai (jy ?_ (by size_fits));refine ai (m:=qk _ _) (wpAny_of_eq (a:=Value.none) (by first|rfl|(simp only[qk];rfl)) ?_)
 refine jy ?_ (by size_fits);simp only[raiseNew];refine ai (wpAny_handled ?_)
 first|rw[show A.in1.handled=none from j] | rw[j]
 refine ai (aG (wpAny_throw ?_));exact k _ _ (((j_ ..).extBut.push _).push _) ⟨_,cu _ rfl,rfl⟩
theorem CS{z TI TO L M l1 l2:Addr}{k1 k2:Nat}{xs ys:Array Value}{x y a b:Value}{Q:Zc}(D:iS z TI TO L M l1 l2)
  (gz:IsZip s.heap z TI TO .none) (gI:IsPair s.heap TI (.ref L) (.ref M)) (gO:IsPair s.heap TO a b)
  (g1:s.heap.IsTupleIter L l1 k1) (g2:s.heap.IsTupleIter M l2 k2) (t1:s.heap.IsTuple l1 xs) (t2:s.heap.IsTuple l2 ys) (hx:xs[k1]?=some x) (hy:ys[k2]?=some y)
  (k:∀N,IsZip N z TI TO (rawInt s.heap.objs.size)->IsPair N TO x y->N.IsTupleIter L l1 (k1+1)->N.IsTupleIter M l2 (k2+1)->IsPair N s.heap.objs.size x y->N.objs.size=s.heap.objs.size+1 ->
   (∀c o,c≠z->c≠TO->c≠L->c≠M->s.heap.get? c=some o->N.get? c=some o)->Q (.ref s.heap.objs.size) { s with heap:=N }) :
  wpAny (model prog w) A (c9.«zip.__next__» ⟨[.ref z],[]⟩) (fun a4 s'=>∃v,a4=.done (.ret v)/\Q v s') E s:=by
 show wpAny _ _ (field (.ref z) 2 >>= _) _ _ _;refine ai (dE gz rfl (x:=.bool false) rfl ?_);show wpAny _ _ (field (.ref z) 3 >>= _) _ _ _;refine ai (dE gz rfl (x:=.ref TI) rfl ?_);refine ai (hZ gI rfl ?_);show wpAny _ _ (lp (.ref z) >>= _) _ _ _;refine ai ?_;unfold lp;refine ai (dE gz rfl (x:=.none) rfl (aG ?_));simp only[if_true];refine ai (lB ?_);refine ai (dE gz rfl (x:=.ref TO) rfl ?_);refine ai (im gz (by simp) fun m₁ q g=>?_)
 replace q:IsZip m₁ z TI TO .ellipsis:=q
 refine ai ?_;simp only[wX,wW,nE,wV];refine ai (ai (ln ?_));show wpAny _ _ (io (.ref L) >>= _) _ _ _;refine ai (iH (g1.extBut g.extBut D.i1z) (t1.extBut g.extBut D.l1z) hx fun m₂ O h=>aG ?_);have B:IsPair m₂ TO a b:=h.extBut _ _ D.TOi1 (g.extBut _ _ D.TOz gO);refine ai (hZ B rfl ?_);refine ai (qj B fun m₃ t i=>?_)
 replace t:IsPair m₃ TO x b:=t
 refine ai (qi (aG ?_));refine ai (ai (ln ?_));show wpAny _ _ (io (.ref M) >>= _) _ _ _;refine ai (iH (((g2.extBut g.extBut D.i2z).extBut h.extBut D.i12.symm).extBut i.extBut D.TOi2.symm)
  (((t2.extBut g.extBut D.l2z).extBut h.extBut D.l2i1).extBut i.extBut D.l2TO) hy fun m₄ T m=>aG ?_)
 have C:IsPair m₄ TO x b:=m.extBut _ _ D.TOi2 t;refine ai (hZ C rfl ?_);refine ai (qj C fun f j n=>?_)
 replace j:IsPair f TO x y:=j
 refine ai (qi (aG (aG ?_)));refine ai (hZ j rfl ?_);refine ai (wpAny_newTuple ?_);have as:f.objs.size=s.heap.objs.size:=by rw[n.1,m.1,i.1,h.1,g.1]
 have G:IsZip f z TI TO .ellipsis:=n.extBut _ _ D.TOz.symm (m.extBut _ _ D.i2z.symm (i.extBut _ _ D.TOz.symm (h.extBut _ _ D.i1z.symm q)));have U:∀c o,c≠z->c≠TO->c≠L->c≠M->s.heap.get? c=some o->f.get? c=some o:=fun c o Y c2 c3 c4 e =>
  n.extBut _ _ c2 (m.extBut _ _ c4 (i.extBut _ _ c2 (h.extBut _ _ c3 (g.extBut _ _ Y e))))
 have al:f.IsTupleIter L l1 (k1+1):=((O.extBut i.extBut D.TOi1.symm).extBut m.extBut D.i12).extBut n.extBut D.TOi1.symm;have an:f.IsTupleIter M l2 (k2+1):=T.extBut n.extBut D.TOi2.symm;have aC:z<f.objs.size:=aU G;show wpAny _ _ (wU (.ref z) (.ref f.objs.size) >>= _) _ _ _;refine ai ?_;unfold wU;have ap:IsZip (f.push { cls:=.type "tuple",data:=.seq #[x,y] }) z TI TO .ellipsis:=aO _ G;refine ai (im ap (by simp) fun m₇ u H=>?_)
 replace u:IsZip m₇ z TI TO (rawInt f.objs.size):=u
 refine im u (by simp) fun p l I=>?_
 replace l:IsZip p z TI TO (rawInt f.objs.size):=l
 have up:∀c o,c≠z->f.get? c=some o->p.get? c=some o:=fun c o Y e=>I.extBut _ _ Y (H.extBut _ _ Y (aO _ e));have J:IsPair p f.objs.size x y:=I.extBut _ _ (eP aC) (H.extBut _ _ (eP aC) (cu _ rfl));have a0:p.objs.size=f.objs.size+1:=by rw[I.1,H.1,jh]
 rw[as]at l J a0;refine aG ⟨_,rfl,?_⟩;show Q (.ref f.objs.size) _;rw[as];refine k p l (up _ _ D.TOz j) ?_ ?_ J a0 fun c o Y c2 c3 c4 e=>up c o Y (U c o Y c2 c3 c4 e)
 ·obtain⟨o,e,r⟩:=al;exact⟨o,up _ o D.i1z e,r⟩
 ·obtain⟨o,e,r⟩:=an;exact⟨o,up _ o D.i2z e,r⟩
theorem EA{z TI TO v y J L:Addr}{M N:Nat}{O T:Array Value}{a b:Value}{Q:Fin->Shared->Prop}(hh:A.handled=none)(D:iS z TI TO v y J L)
  (B:IsZip s.heap z TI TO .none) (gI:IsPair s.heap TI (.ref v) (.ref y)) (gO:IsPair s.heap TO a b)
  (g1:s.heap.IsTupleIter v J M) (g2:s.heap.IsTupleIter y L N) (t1:s.heap.IsTuple J O) (t2:s.heap.IsTuple L T) (U:O[M]?=none∨T[N]?=none)
  (k:∀Y e,(∀c o,c≠z->c≠TO->c≠v->c≠y->s.heap.get? c=some o->Y.get? c=some o)->(∃o,Y.get? e=some o/\o.cls=.type "StopIteration")->E (.ref e) { s with heap:=Y }) :
  wpAny (model prog w) A (c9.«zip.__next__» ⟨[.ref z],[]⟩) Q E s:=by
 show wpAny _ _ (field (.ref z) 2 >>= _) _ _ _;refine ai (dE B rfl (x:=.bool false) rfl ?_);show wpAny _ _ (field (.ref z) 3 >>= _) _ _ _;refine ai (dE B rfl (x:=.ref TI) rfl ?_);refine ai (hZ gI rfl ?_);show wpAny _ _ (lp (.ref z) >>= _) _ _ _;refine ai ?_;unfold lp;refine ai (dE B rfl (x:=.none) rfl (aG ?_));simp only[if_true];refine ai (lB ?_);refine ai (dE B rfl (x:=.ref TO) rfl ?_);refine ai (im B (by simp) fun m₁ i f=>?_)
 replace i:IsZip m₁ z TI TO .ellipsis:=i
 refine ai ?_;simp only[wX,wW,nE,wV];refine ai (ai (ln ?_));show wpAny _ _ (io (.ref v) >>= _) _ _ _;cases hx:O[M]? with
 |none =>
  refine ai (lX hh (g1.extBut f.extBut D.i1z) (t1.extBut f.extBut D.l1z) hx fun m₂ e g he=>?_);obtain⟨oe,t,C⟩:=he;have j:IsZip m₂ z TI TO .ellipsis:=g _ _ D.i1z.symm i;have u:e≠z:=fun q=>by subst q;rw[j]at t;cases t;simp at C
  refine im j (by simp) fun n _ h=>k n e (fun c o G _ c3 _ q=>h.extBut _ _ G (g _ _ c3 (f.extBut _ _ G q))) ⟨oe,h.extBut _ _ u t,C⟩
 |some x =>
  have hy:T[N]?=none:=by rcases U with q|q;rw[hx]at q;cases q;exact q
  refine ai (iH (g1.extBut f.extBut D.i1z) (t1.extBut f.extBut D.l1z) hx fun m₂ al g=>aG ?_);have l:IsPair m₂ TO a b:=g.extBut _ _ D.TOi1 (f.extBut _ _ D.TOz gO);refine ai (hZ l rfl ?_);refine ai (qj l fun n an h=>?_);refine ai (qi (aG ?_));refine ai (ai (ln ?_));show wpAny _ _ (io (.ref y) >>= _) _ _ _;refine ai (lX hh (((g2.extBut f.extBut D.i2z).extBut g.extBut D.i12.symm).extBut h.extBut D.TOi2.symm)
   (((t2.extBut f.extBut D.l2z).extBut g.extBut D.l2i1).extBut h.extBut D.l2TO) hy fun H e p he=>?_)
  obtain⟨oe,t,C⟩:=he;have m:IsZip H z TI TO .ellipsis:=p _ _ D.i2z.symm (h.extBut _ _ D.TOz.symm (g.extBut _ _ D.i1z.symm i));have u:e≠z:=fun q=>by subst q;rw[m]at t;cases t;simp at C
  refine im m (by simp) fun I _ r=>k I e (fun c o G c2 c3 c4 q=>r.extBut _ _ G (p _ _ c4 (h.extBut _ _ c2 (g.extBut _ _ c3 (f.extBut _ _ G q))))) ⟨oe,r.extBut _ _ u t,C⟩
theorem vw{z TI TO f g h i:Addr}{j l:Nat}{xs ys:Array Value}{x y a b:Value}{Q:Option Value->Shared->Prop}(D:iS z TI TO f g h i)
  (m:IsZip s.heap z TI TO .none) (p:IsPair s.heap TI (.ref f) (.ref g)) (q:IsPair s.heap TO a b)
  (r:s.heap.IsTupleIter f h j) (t:s.heap.IsTupleIter g i l) (u:s.heap.IsTuple h xs) (v:s.heap.IsTuple i ys) (hx:xs[j]?=some x) (B:ys[l]?=some y)
  (k:∀e,IsZip e z TI TO (rawInt s.heap.objs.size)->IsPair e TO x y->e.IsTupleIter f h (j+1)->e.IsTupleIter g i (l+1)->IsPair e s.heap.objs.size x y->e.objs.size=s.heap.objs.size+1 ->
   (∀c o,c≠z->c≠TO->c≠f->c≠g->s.heap.get? c=some o->e.get? c=some o)->Q (some (.ref s.heap.objs.size)) { s with heap:=e }) :
  wpAny (model prog w) A (pyNext (.ref z)) Q E s:=by
 have n:s.TypeIs (.ref z) "zip":=⟨_,m,rfl⟩;unfold pyNext;exact ai (lh (jx (name:=jw "__next__") n lg
  (nk lg n wT
   (CS D m p q r t u v hx B fun e a1 a2 a3 C G H I=>aG (k e a1 a2 a3 C G H I)) (wS _))))
theorem xR{z TI TO f g h i:Addr}{m n:Nat}{xs ys:Array Value}{a b:Value}{Q:Option Value->Shared->Prop}(r:A.handled=none)(D:iS z TI TO f g h i)
  (p:IsZip s.heap z TI TO .none) (t:IsPair s.heap TI (.ref f) (.ref g)) (u:IsPair s.heap TO a b)
  (v:s.heap.IsTupleIter f h m) (x:s.heap.IsTupleIter g i n) (y:s.heap.IsTuple h xs) (B:s.heap.IsTuple i ys) (j:xs[m]?=none∨ys[n]?=none)
  (k:∀l,(∀c o,c≠z->c≠TO->c≠f->c≠g->s.heap.get? c=some o->l.get? c=some o)->Q none { s with heap:=l }):wpAny (model prog w) A (pyNext (.ref z)) Q E s:=by
 have q:s.TypeIs (.ref z) "zip":=⟨_,p,rfl⟩;unfold pyNext;refine ai (lh (jx (name:=jw "__next__") q lg
  (nk lg q wT (EA r D p t u v x y B j fun l e kp C=>?_) (wS _))))
 obtain⟨o,G,H⟩:=C;refine ai (vI (T:="StopIteration") (b:=true) ⟨o,G,H⟩ wR ?_);exact aG (k _ kp)
end
abbrev JY(h:Heap)(l1:Addr):Heap:=h.push { cls:=.type "tuple_iterator",data:=.fields #[.ref l1,.int 0 0] }
abbrev JX(h:Heap)(l1 l2:Addr):Heap:=(JY h l1).push { cls:=.type "tuple_iterator",data:=.fields #[.ref l2,.int 0 0] }
abbrev JW(h:Heap)(l1 l2:Addr):Heap:=(JX h l1 l2).push { cls:=.type "tuple",data:=.seq #[.ref h.objs.size,.ref (JY h l1).objs.size] }
abbrev JV(h:Heap)(l1 l2:Addr):Heap:=(JW h l1 l2).push { cls:=.type "tuple",data:=.seq #[.none,.none] }
abbrev Jg(h:Heap)(l1 l2:Addr):Heap:=(JV h l1 l2).push { cls:=.type "zip",data:=.fields #[.none,.bool false,.bool false,.ref (JX h l1 l2).objs.size,.ref (JW h l1 l2).objs.size] }
theorem Bc(l1 l2:Addr)(a e:Array Value):
  Meets (c9.«zip.__new__» ⟨[.type "zip",.ref l1,.ref l2],[]⟩) (fun _ R s=>s.heap.IsTuple l1 a/\s.heap.IsTuple l2 e /\
   R (.ok (.ret (.ref (JV s.heap l1 l2).objs.size))) { s with heap:=Jg s.heap l1 l2 }) :=
 .of_wp fun f w A R s h=>by
  obtain⟨i,g,d,tk,os⟩:=s;obtain⟨k,l,h⟩:=h;have j:=sub_zip;have m:Heap.IsTuple (wQ ⟨i,g,d,tk,os⟩) l1 a:=k;have n:Heap.IsTuple (wQ ⟨i.push { cls:=.type "tuple_iterator",data:=.fields #[.ref l1,.int 0 0] },g,d,tk,os⟩) l2 e:=Heap.IsTuple.push l _
  wp_walk using yR m,yR n
  exact⟨_,rfl,h⟩
section
variable{prog:bP}{w:World}{A:Around}{E:Zc}{s:Shared}
theorem Ed{a e:Addr}{xs ys:Array Value}{Q:Zc}(r:s.heap.IsTuple a xs)(t:s.heap.IsTuple e ys)
  (k:∀f,IsZip f (s.heap.objs.size+4) (s.heap.objs.size+2) (s.heap.objs.size+3) .none->IsPair f (s.heap.objs.size+2) (.ref s.heap.objs.size) (.ref (s.heap.objs.size+1)) ->
   IsPair f (s.heap.objs.size+3) .none .none->f.IsTupleIter s.heap.objs.size a 0->f.IsTupleIter (s.heap.objs.size+1) e 0->(∀c o,s.heap.get? c=some o->f.get? c=some o)->Q (.ref (s.heap.objs.size+4)) { s with heap:=f }) :
  wpAny (model prog w) A (call (.type "zip") [.ref a,.ref e]) Q E s:=by
 refine callType_new F.called_zip (by decide) (F.typeCall_zip_2 _ _) (F.newCall_zip_2 _ _) (fun g=>F.args_object_init_3 g _ _) F.entry_zip_new
  (Bc a e xs ys) ⟨r,t,?_⟩
 have h:(JY s.heap a).objs.size=s.heap.objs.size+1:=jh ..;have i:(JX s.heap a e).objs.size=s.heap.objs.size+2:=by rw[jh,h]
 have j:(JW s.heap a e).objs.size=s.heap.objs.size+3:=by rw[jh,i]
 have m:(JV s.heap a e).objs.size=s.heap.objs.size+4:=by rw[jh,j]
 have l:(Jg s.heap a e).get? (JV s.heap a e).objs.size=some _:=cu _ rfl;have n:(Jg s.heap a e).get? (JW s.heap a e).objs.size=some _:=aO _ (cu _ rfl);have p:(Jg s.heap a e).get? (JX s.heap a e).objs.size=some _:=aO _ (aO _ (cu _ rfl));have q:(Jg s.heap a e).get? (JY s.heap a).objs.size=some _:=aO _ (aO _ (aO _ (cu _ rfl)));have u:(Jg s.heap a e).get? s.heap.objs.size=some _:=aO _ (aO _ (aO _ (aO _ (cu _ rfl))));show _/\_;rw[i,j,m]at l;rw[h,i]at p;rw[j]at n;rw[h]at q;rw[m];exact⟨⟨_,l,rfl⟩,k _ l p n ⟨_,u,rfl,rfl⟩ ⟨_,q,rfl,rfl⟩ fun c o x =>
  aO _ (aO _ (aO _ (aO _ (aO _ x))))⟩
end
def HV(K:Za)(a b:Addr):It :=
  ⟨fun i H=>∃xs ys x y,br K H a xs/\br K H b ys/\xs[i]?=some x/\ys[i]?=some y,
   fun i H x H'=>∃p u v,x=.ref p/\H p=none/\(∀xs,br K H a xs->xs[i]?=some u)/\(∀ys,br K H b ys->ys[i]?=some v)/\H'=upd H p (.tup [u,v]),
   fun i H=>∃xs ys,br K H a xs/\br K H b ys/\(xs.length<=i∨ys.length<=i)⟩
theorem CV{P:bP}{w:World}{K:Za}{es:List Expr}{kx:Nat}{J8:Pos}(a b z TI TO t A:Addr)(D:iS z TI TO t A a b):
  sE P w K (.Tuple es kx J8) (HV K a b) [z,TI,TO,t,A] z (fun i h=>IsZip h z TI TO .none/\IsPair h TI (.ref t) (.ref A)/\(∃a b,IsPair h TO a b)/\h.IsTupleIter t a i/\h.IsTupleIter A b i) where
 mem:=by simp
 obj:=fun i h st c f=>by
  obtain⟨p,j,⟨u,v,l⟩,M,N⟩:=st;simp only[c8,iR,or_false]at f;rcases f with rfl|rfl|rfl|rfl|rfl
  ·exact⟨_,p,fun v z=>by cases z⟩
  ·exact⟨_,j,fun v z=>by cases z⟩
  ·exact⟨_,l,fun v z=>by cases z⟩
  ·obtain⟨o,e,c,d⟩:=M;exact⟨o,e,fun v z=>by rw[d]at z;cases z⟩
  ·obtain⟨o,e,c,d⟩:=N;exact⟨o,e,fun v z=>by rw[d]at z;cases z⟩
 keep:=fun i h O st k=>by
  obtain⟨p,j,⟨u,v,l⟩,⟨o1,e1,r1⟩,⟨o2,e2,r2⟩⟩:=st;exact⟨k z (by simp) _ p,k TI (by simp) _ j,⟨u,v,k TO (by simp) _ l⟩,⟨o1,k t (by simp) o1 e1,r1⟩,⟨o2,k A (by simp) o2 e2,r2⟩⟩
 item:=by
  intro X hP hw hK f i J4 s σ H E I hf st hg;subst hP hw hK;obtain⟨p,j,⟨u0,v0,l⟩,M,N⟩:=st;obtain⟨xs,ys,x,y,C,G,hx,hy⟩:=hg;obtain⟨J,rx,px,zx⟩:=I.tuple C;obtain⟨L,ry,py,zy⟩:=I.tuple G;obtain⟨u,hu,ru⟩:=rx.get hx;obtain⟨v,hv,rv⟩:=ry.get hy;refine vw D p j l M N (xs:=J.toArray) (ys:=L.toArray) px py (x:=u) (y:=v) (by simpa using hu) (by simpa using hv) fun O a1 a2 a3 a4 a5 a6 hk=>?_;refine⟨_,rfl,wpAny_letOwnedTupleGo_zip (s:={ s with heap:=O }) a1 fun B as aC=>?_⟩;have g:gy z O B:=aC;have Q:s.heap.objs.size≠z:=eP (aU p);have T:s.heap.objs.size≠TO:=eP (aU l);have U:s.heap.objs.size≠TI:=eP (aU j);have Y:s.heap.objs.size≠t:=by obtain⟨o,ho,_⟩:=M;exact eP (aU ho)
  have al:s.heap.objs.size≠A:=by obtain⟨o,ho,_⟩:=N;exact eP (aU ho)
  have an:IsPair B s.heap.objs.size u v:=g.extBut _ _ Q a5;have I2:Inv X J4 σ (upd H s.heap.objs.size (.tup [x,y])) { s with heap:=B,toks:=s.toks }:=by
   refine I.turnedNew (ch:=[z,TI,TO,t,A]) hf (fun c o f q=>?_) ⟨_,an⟩ (fun _ z=>nomatch z) ⟨by show 2<=aj;decide,[u,v],.cons ru (.cons rv .nil),⟨_,an,rfl,_,rfl⟩⟩;have n1:c≠z:=fun q=>f (by simp[q]);exact g.extBut _ _ n1 (hk c o n1 (fun q=>f (by simp[q])) (fun q=>f (by simp[q])) (fun q=>f (by simp[q])) q)
  have a0:B.IsTupleIter t a (i+1):=by obtain⟨o,e,r⟩:=a3;exact⟨o,g.extBut _ _ D.i1z e,r⟩
  have a7:B.IsTupleIter A b (i+1):=by obtain⟨o,e,r⟩:=a4;exact⟨o,g.extBut _ _ D.i2z e,r⟩
  refine⟨.ref s.heap.objs.size,_,I2,rfl,⟨_,x,y,rfl,I.fresh,fun zs p=>by rw[I.tuple_inj p C];exact hx,fun zs p=>by rw[I.tuple_inj p G];exact hy,rfl⟩,⟨as,g.extBut _ _ D.TIz (hk _ _ D.TIz D.TITO D.TIi1 D.TIi2 j),⟨_,_,g.extBut _ _ D.TOz a2⟩,a0,a7⟩,fun c f=>?_⟩;have a8:=(hf c f).1;simp only[c8,iR,or_false]at f;have ne:c≠s.heap.objs.size:=by
   rcases f with rfl|rfl|rfl|rfl|rfl
   ·exact Q.symm
   ·exact U.symm
   ·exact T.symm
   ·exact Y.symm
   ·exact al.symm
  rw[am ne];exact a8
 done:=by
  intro X hP hw hK f i J4 s σ H E I hf st hg;subst hP hw hK;obtain⟨p,j,⟨u0,v0,l⟩,M,N⟩:=st;obtain⟨xs,ys,C,G,ap⟩:=hg;obtain⟨J,rx,px,zx⟩:=I.tuple C;obtain⟨L,ry,py,zy⟩:=I.tuple G;have lx:=rx.length;have ly:=ry.length;refine xR (I.ok.hd f) D p j l M N (xs:=J.toArray) (ys:=L.toArray) px py (by rcases ap with q|q;exact .inl (by simp;omega);exact .inr (by simp;omega)) fun O hk=>⟨rfl,?_⟩;have tr:∀c q,H c=some q->c∉[z,TI,TO,t,A]:=fun c q e m=>by rw[(hf c m).1]at e;cases e
  have kk:∀c o,c∉[z,TI,TO,t,A]->s.heap.get? c=some o->O.get? c=some o:=fun c o f q=>hk c o (fun q=>f (by simp[q])) (fun q=>f (by simp[q])) (fun q=>f (by simp[q])) (fun q=>f (by simp[q])) q;refine I.step (g':=s.gens) (d':=s.drawn) (t':=s.toks) (ch:=[z,TI,TO,t,A]) (fun c f=>?_) (fun c o _ _ f e _=>kk c o f e) (fun c o _ _ f e _=>⟨o.slots,kk c o f e⟩) (fun _ _ _ _ n=>n) (fun c o f e=>⟨o,kk c o f e⟩) (fun _ _ e=>e) (fun _ _ _ e=>e) (fun c ps e=>⟨#[],by rw[e];simp⟩) (fun m hm=>?_) (fun c q e=>?_) I.bare
  ·obtain⟨f0,f1,f2,f3,f4,f5⟩:=hf c f;exact⟨f3,f1,f4,f5⟩
  ·obtain⟨q,a9,ep,ho,r⟩:=hm;exact⟨q,a9,ep,kk _ q (fun z=>(hf _ z).2.1 rfl) ho,r⟩
  ·refine(I.hok c q e).stay (fun d v hd q'=>kk d v ?_ q') (fun _ q=>q) fun _ _ q=>q;rcases hd with z|z
   ·subst z;exact tr _ _ e
   ·exact tr _ _ z
 self:=fun _ _ _ _ _ st h=>qq st.1 h
section
variable{X:Cx}{p pos:Pos}{es:List Expr}{kx:Nat}{J8:Pos}
def Il(K:Za)(ta:TA):TI:=fun σ H R=>ta σ H fun vs H1=>∃a b,vs=[.ref a,.ref b]/\(((∃xs,au K H1 a xs)/\(∃ys,au K H1 b ys)/\R (Kj K a b) H1)∨((∃xs,br K H1 a xs)/\(∃ys,br K H1 b ys)/\R (HV K a b) H1))
theorem Hm{a b:Expr}{L:TA}(Q:Gl X "zip")(T:X.mg "zip"=none)(U:PA X [a,b] L)(Y:aQ [a,b] X.env=[(false,eval a X.env),(false,eval b X.env)]:=by rfl)(j:aQ [b] X.env=[(false,eval b X.env)]:=by rfl):
  PI X (.Tuple es kx J8) (.Call (.Name "zip" p) [a,b] [] pos) (Il X.K L):=by
 intro y s σ H R I h;refine Call_ (lY I Q T boot_zip (vH (dk (U pos y s σ H _ I h) fun us s1 z=>?_) (by rw[Y,j]) (by rw[j];rfl)));obtain⟨vs,k,f,r1,q1⟩:=z;obtain⟨M,N,e,q⟩:=q1;subst e;obtain⟨u,v,rfl,ru,rv⟩:=vals2 r1;cases ru;cases rv;have l:∀b∈[s1.heap.objs.size+4,s1.heap.objs.size+2,s1.heap.objs.size+3,s1.heap.objs.size,s1.heap.objs.size+1],mW X y k b:=fun b O=>by
  have m:s1.heap.objs.size<=b:=by
   simp only[c8,iR,or_false]at O;rcases O with rfl|rfl|rfl|rfl|rfl<;>omega
  exact f.fpOk m (f.hok.fresh m)
 rcases q with⟨⟨xs,hx⟩,⟨ys,A⟩,q⟩|⟨⟨xs,hx⟩,⟨ys,A⟩,q⟩
 ·obtain⟨n,rx,r,zx⟩:=f.list hx;obtain⟨t,ry,x,zy⟩:=f.list A;obtain⟨o1,n1,B,_⟩:=id r;obtain⟨o2,n2,C,_⟩:=id x;refine call_zip_2 r.isList x.isList fun g a1 a2 a3 D E a6 G=>?_;refine qq (s:={ s1 with heap:=g }) a1 ?_;have i:∀b o,s1.heap.get? b=some o->g.get? b=some o:=G;have J:Inv X y σ k { s1 with heap:=g }:=f.kept (t':=s1.toks) i;exact⟨_,_,_,_,k,rfl,J,EI M N _ _ _ _ _ (zipApart_new (aU B) (aU C)),⟨a1,a2,⟨_,_,a3⟩,D,E⟩,l,q⟩
 ·obtain⟨n,rx,r,zx⟩:=f.tuple hx;obtain⟨t,ry,x,zy⟩:=f.tuple A;obtain⟨o1,B,_⟩:=id r;obtain⟨o2,C,_⟩:=id x;refine Ed (xs:=n.toArray) (ys:=t.toArray) r x fun g a1 a2 a3 D E G=>?_;refine qq (s:={ s1 with heap:=g }) a1 ?_;have i:∀b o,s1.heap.get? b=some o->g.get? b=some o:=G;have J:Inv X y σ k { s1 with heap:=g }:=f.kept (t':=s1.toks) i;exact⟨_,_,_,_,k,rfl,J,CV M N _ _ _ _ _ (zipApart_new (aU B) (aU C)),⟨a1,a2,⟨_,_,a3⟩,D,E⟩,l,q⟩
end
inductive DT where
 |k (a:fu)
 |t (l:List DT)
 |s (l:List DT)
mutual
def Iv:(x y:DT)->Decidable (x=y)
 |.k a,.k b=>if h:a=b then Decidable.isTrue (by rw[h])else Decidable.isFalse fun e=>h (by injection e)
 |.t l,.t m=>match decDTs l m with
  |Decidable.isTrue h=>Decidable.isTrue (by rw[h])
  |Decidable.isFalse h=>Decidable.isFalse fun e=>h (by injection e)
 |.s l,.s m=>match decDTs l m with
  |Decidable.isTrue h=>Decidable.isTrue (by rw[h])
  |Decidable.isFalse h=>Decidable.isFalse fun e=>h (by injection e)
 |.k _,.t _=>Decidable.isFalse nofun
 |.k _,.s _=>Decidable.isFalse nofun
 |.t _,.k _=>Decidable.isFalse nofun
 |.t _,.s _=>Decidable.isFalse nofun
 |.s _,.k _=>Decidable.isFalse nofun
 |.s _,.t _=>Decidable.isFalse nofun
def decDTs:(x y:List DT)->Decidable (x=y)
 |[],[]=>Decidable.isTrue rfl
 |[],_::_=>Decidable.isFalse nofun
 |_::_,[]=>Decidable.isFalse nofun
 |a::l,b::m=>match Iv a b with
  |Decidable.isTrue h=>match decDTs l m with
   |Decidable.isTrue h'=>Decidable.isTrue (by rw[h,h'])
   |Decidable.isFalse h'=>Decidable.isFalse fun e=>h' (by injection e)
  |Decidable.isFalse h=>Decidable.isFalse fun e=>h (by injection e)
end
instance:DecidableEq DT:=Iv
mutual
def DT.depth:DT->Nat
 |.k _=>0
 |.t l=>DT.depths l+1
 |.s l=>DT.depths l+1
def DT.depths:List DT->Nat
 |[]=>0
 |a::r=>max (DT.depth a) (DT.depths r)
end
mutual
def tp(h:Heap):DT->Value->Prop
 |.k a,v=>dO a v=true
 |.t l,v=>∃a items,v=.ref a/\h.IsTuple a items/\DAts h l items.toList
 |.s l,v=>∃a items,v=.ref a/\h.IsList a items/\DAts h l items.toList
def DAts(h:Heap):List DT->List Value->Prop
 |[],vs=>vs=[]
 |k::r,vs=>∃v us,vs=v::us/\tp h k v/\DAts h r us
end
theorem DAts.length{h:Heap}:∀{f:List DT}{a:Zf},DAts h f a->f.length=a.length
 |[],a,e=>by have g:a=[]:=e;rw[g];rfl
 |x::f,a,e=>by
  obtain⟨v,j,rfl,_,i⟩:=e;simp[DAts.length i]
theorem DAts.get{h:Heap}:∀{f:List DT}{a:Zf}{i:Nat}{v:Value},DAts h f a->a[i]?=some v->∃x,f[i]?=some x/\tp h x v
 |[],a,i,v,e,q=>by have g:a=[]:=e;subst g;simp at q
 |x::f,a,i,v,e,q=>by
  obtain⟨u,n,rfl,j,k⟩:=e;cases i with
  |zero =>
   simp at q;subst q;exact⟨x,rfl,j⟩
  |succ i =>
   obtain⟨y,l,m⟩:=DAts.get k (i:=i) (v:=v) (by simpa using q);exact⟨y,by simpa using l,m⟩
theorem DT.depths_get{l:List DT}{x:DT}{i d:Nat}(h:DT.depths l<=d)(e:l[i]?=some x):x.depth<=d:=by
 induction l generalizing i with
 |nil=>simp at e
 |cons a r f =>
  have g:max a.depth (DT.depths r)<=d:=h;cases i with
  |zero=>simp at e;subst e;omega
  |succ i=>exact f (by omega) (by simpa using e)
theorem Bj{h:Heap}{a:Addr}{i j:Array Value}(x:h.IsList a i)(y:h.IsList a j):i=j:=by
 obtain⟨o,g,_,n,k⟩:=x;obtain⟨l,e,_,m,f⟩:=y;rw[g]at e;cases e;rw[k]at f;injection f
theorem zZ{h:Heap}{a:Addr}{i j:Array Value}(x:h.IsTuple a i)(y:h.IsTuple a j):i=j:=by
 obtain⟨o,g,_,n,k⟩:=x;obtain⟨l,e,_,m,f⟩:=y;rw[g]at e;cases e;rw[k]at f;injection f
theorem jY{h:Heap}{a:Addr}{i j:Array Value}(x:h.IsList a i)(y:h.IsTuple a j):False:=by
 obtain⟨o,g,k,_⟩:=x;obtain⟨l,e,f,_⟩:=y;rw[g]at e;cases e;rw[k]at f;simp at f
theorem v6{a b:fu}{v:Value}(g:dO a v=true)(f:dO b v=true):a=b:=by
 rcases aD g with⟨i,t,rfl,rfl⟩|⟨i,t,rfl,rfl⟩
 ·rcases aD f with⟨j,u,rfl,e⟩|⟨j,u,rfl,e⟩
  ·cases e;rfl
  ·cases e
 ·rcases aD f with⟨j,u,rfl,e⟩|⟨j,u,rfl,e⟩
  ·cases e
  ·cases e;rfl
theorem iO{a:fu}{b:Addr}(h:dO a (.ref b)=true):False:=by
 rcases aD h with⟨_,_,_,e⟩|⟨_,_,_,e⟩<;>cases e
theorem tp.inj{h:Heap}:∀(d:Nat) {x y:DT}{v:Value},x.depth<=d->tp h x v->tp h y v->x=y:=by
 have q:∀(d:Nat) (r:∀{x y:DT}{v:Value},x.depth<=d->tp h x v->tp h y v->x=y) (n g:List DT) (u:Zf),DT.depths n<=d->DAts h n u->DAts h g u->n=g:=by
  intro d r n
  induction n with
  |nil =>
   intro g u _ hx f;have z:u=[]:=hx;subst z;cases g with
   |nil=>rfl
   |cons y g=>obtain⟨_,_,e,_⟩:=f;cases e
  |cons x n A =>
   intro g u o hx f;obtain⟨v,J,rfl,B,C⟩:=hx;cases g with
   |nil=>have D:v::J=[]:=f;cases D
   |cons y g =>
    obtain⟨N,L,e,E,G⟩:=f;cases e;have M:max x.depth (DT.depths n)<=d:=o;rw[r (by omega) B E,A g J (by omega) C G]
 intro d
 induction d with
 |zero =>
  intro x y v o hx f;cases x with
  |t l=>exact absurd o (by show ¬(DT.depths l+1<=0);omega)
  |s l=>exact absurd o (by show ¬(DT.depths l+1<=0);omega)
  |k a =>
   cases y with
   |k b=>rw[v6 hx f]
   |t l=>obtain⟨b,_,rfl,_⟩:=f;exact(iO hx).elim
   |s l=>obtain⟨b,_,rfl,_⟩:=f;exact(iO hx).elim
 |succ d r =>
  intro x y v o hx f;cases x with
  |k a =>
   cases y with
   |k b=>rw[v6 hx f]
   |t l=>obtain⟨b,_,rfl,_⟩:=f;exact(iO hx).elim
   |s l=>obtain⟨b,_,rfl,_⟩:=f;exact(iO hx).elim
  |t l =>
   obtain⟨a,i,rfl,hi,hx⟩:=hx;cases y with
   |k b=>exact(iO f).elim
   |t m =>
    obtain⟨H,j,e,p,f⟩:=f;cases e;rw[zZ p hi]at f;rw[q d (fun I=>r I) l m i.toList (by have:DT.depths l+1<=d+1:=o;omega) hx f]
   |s m =>
    obtain⟨H,j,e,p,f⟩:=f;cases e;exact(jY p hi).elim
  |s l =>
   obtain⟨a,i,rfl,hi,hx⟩:=hx;cases y with
   |k b=>exact(iO f).elim
   |s m =>
    obtain⟨H,j,e,p,f⟩:=f;cases e;rw[Bj p hi]at f;rw[q d (fun I=>r I) l m i.toList (by have:DT.depths l+1<=d+1:=o;omega) hx f]
   |t m =>
    obtain⟨H,j,e,p,f⟩:=f;cases e;exact(jY hi p).elim
theorem gm{l m:List DT}(f:l.length=m.length):((mY l.length).all fun j=>decide (l[j]?=m[j]?))=decide (l=m):=by
 by_cases e:l=m
 ·subst e;simp
 ·rw[zzr0 e];rw[List.all_eq_false];apply Classical.byContradiction;intro h;apply e;apply List.ext_getElem?;intro i;by_cases hi:i<l.length
  ·apply Classical.byContradiction;intro a;exact h ⟨i,List.mem_range.mpr hi,by simpa using a⟩
  ·rw[List.getElem?_eq_none (by omega),List.getElem?_eq_none (by omega)]
section
variable{s:Shared}
theorem Ip:∀(d:Nat) {A:Around}{x y:DT}{u v:Value},y.depth<=d->A.units+d<cLine->tp s.heap x u->tp s.heap y v->bB A s u v (decide (x=y)):=by
 have leaves:∀{A:Around}{a b:fu}{u v:Value},dO a u=true->dO b v=true->bB A s u v (decide (DT.k a=DT.k b)):=by
  intro A a b u v C H;have L:decide (DT.k a=DT.k b)=decide (a=b):=by
   by_cases e:a=b
   ·subst e;simp
   ·have:¬(DT.k a=DT.k b):=fun z=>e (by injection z);rw[zzr0 this,zzr0 e]
  rw[L];rcases aD C with⟨i,t,rfl,rfl⟩|⟨i,t,rfl,rfl⟩
  ·rcases aD H with⟨j,u,rfl,rfl⟩|⟨j,u,rfl,rfl⟩
   ·rw[xZ];exact bB.int_int i t j u
   ·rw[xY];exact bB.int_str i t j u
  ·rcases aD H with⟨j,u,rfl,rfl⟩|⟨j,u,rfl,rfl⟩
   ·rw[xW];exact bB.str_int i t j u
   ·rw[xV];have:=bB.str_str (A:=A) (s:=s) i t j u;rwa[show(i==j)=decide (i=j)from by by_cases e:i=j<;>simp[e]]at this
 have kt:∀{A:Around}{a:fu}{u:Value}{b:Addr}{items:Array Value},A.units<cLine->dO a u=true->s.heap.IsTuple b items->bB A s u (.ref b) false/\bB A s (.ref b) u false:=by
  intro A a u b items h C B;rcases aD C with⟨i,t,rfl,rfl⟩|⟨i,t,rfl,rfl⟩
  ·exact⟨bB.int_tuple i t B h,bB.tuple_int i t B h⟩
  ·exact⟨bB.str_tuple i t B h,bB.tuple_str i t B h⟩
 have M:∀{A:Around}{a:fu}{u:Value}{b:Addr}{items:Array Value},A.units<cLine->dO a u=true->s.heap.IsList b items->bB A s u (.ref b) false/\bB A s (.ref b) u false:=by
  intro A a u b items h C B;rcases aD C with⟨i,t,rfl,rfl⟩|⟨i,t,rfl,rfl⟩
  ·exact⟨bB.int_list i t B h,bB.list_int i t B h⟩
  ·exact⟨bB.str_list i t B h,bB.list_str i t B h⟩
 intro d
 induction d with
 |zero =>
  intro A x y u v o h hx f;cases y with
  |t l=>exact absurd o (by show ¬(DT.depths l+1<=0);omega)
  |s l=>exact absurd o (by show ¬(DT.depths l+1<=0);omega)
  |k b =>
   cases x with
   |t l =>
    obtain⟨a,i,rfl,hi,_⟩:=hx;rw[zzr0 (by intro z;cases z)];exact(kt (by omega) f hi).2
   |s l =>
    obtain⟨a,i,rfl,hi,_⟩:=hx;rw[zzr0 (by intro z;cases z)];exact(M (by omega) f hi).2
   |k a=>exact leaves hx f
 |succ d T =>
  intro A x y u v o h hx f;have items:∀{l m:List DT}{i j:Array Value},DT.depths m<=d->DAts s.heap l i.toList->DAts s.heap m j.toList->∀n (C:n<i.size) (H:n<j.size),bB A.in1 s i[n] j[n] (decide (l[n]?=m[n]?)):=by
   intro l m i j I hi p n C H;obtain⟨x,ex,hx⟩:=hi.get (i:=n) (v:=i[n]) (by simp[C]);obtain⟨y,Q,f⟩:=p.get (i:=n) (v:=j[n]) (by simp[H]);rw[ex,Q];have L:decide ((some x:Option DT)=some y)=decide (x=y):=by
    by_cases e:x=y
    ·subst e;simp
    ·rw[zzr0 e,zzr0 fun z=>e (fj z)]
   rw[L];exact T (DT.depths_get I Q) (by show A.units+1+d<cLine;omega) hx f
  cases x with
  |k a =>
   cases y with
   |k b=>exact leaves hx f
   |t l =>
    obtain⟨b,i,rfl,hi,_⟩:=f;rw[zzr0 (by intro z;cases z)];exact(kt (by omega) hx hi).1
   |s l =>
    obtain⟨b,i,rfl,hi,_⟩:=f;rw[zzr0 (by intro z;cases z)];exact(M (by omega) hx hi).1
  |t l =>
   have D:=hx;obtain⟨a,i,rfl,hi,hx⟩:=hx;cases y with
   |k b =>
    rw[zzr0 (by intro z;cases z)];exact(kt (by omega) f hi).2
   |s m =>
    obtain⟨b,j,rfl,p,_⟩:=f;rw[zzr0 (by intro z;cases z)];exact bB.tuple_list hi p (by omega)
   |t m =>
    have I:DT.depths m<=d:=by have:DT.depths m+1<=d+1:=o;omega
    have E:=f;obtain⟨b,j,rfl,p,f⟩:=f;by_cases g:a=b
    ·subst g;have e:DT.t l=DT.t m:=tp.inj _ (aP _) D E;rw[zzr1 e];exact bB.same _
    ·have r:=SeqAt.RcAt.tuples (A:=A) hi p (by omega) (items I hx f);have J:=hx.length;have N:=f.length;simp only[k9]at J N;have q:((mY (min i.size j.size)).all (fun n=>decide (l[n]?=m[n]?)) && i.size==j.size)=decide (DT.t l=DT.t m):=by
      by_cases e:l.length=m.length
      ·have O:i.size=j.size:=by omega
       rw[<-O,Nat.min_self,<-J,gm e];by_cases G:l=m
       ·subst G;simp
       ·have:¬(DT.t l=DT.t m):=fun z=>G (by injection z);rw[zzr0 this,zzr0 G];rfl
      ·have O:(i.size==j.size)=false:=by simp;omega
       have:¬(DT.t l=DT.t m):=fun z=>e (by injection z with z;rw[z]);rw[O,zzr0 this,w8]
     rw[q]at r;exact .of_refs g r
  |s l =>
   have D:=hx;obtain⟨a,i,rfl,hi,hx⟩:=hx;cases y with
   |k b =>
    rw[zzr0 (by intro z;cases z)];exact(M (by omega) f hi).2
   |t m =>
    obtain⟨b,j,rfl,p,_⟩:=f;rw[zzr0 (by intro z;cases z)];exact bB.list_tuple hi p (by omega)
   |s m =>
    have I:DT.depths m<=d:=by have:DT.depths m+1<=d+1:=o;omega
    have E:=f;obtain⟨b,j,rfl,p,f⟩:=f;by_cases g:a=b
    ·subst g;have e:DT.s l=DT.s m:=tp.inj _ (aP _) D E;rw[zzr1 e];exact bB.same _
    ·have J:=hx.length;have N:=f.length;simp only[k9]at J N;by_cases e:l.length=m.length
     ·have r:=SeqAt.RcAt.lists (A:=A) hi p (by omega) (by omega) (items I hx f);rw[<-J,gm e]at r;have q:decide (l=m)=decide (DT.s l=DT.s m):=by
       by_cases G:l=m
       ·subst G;simp
       ·have:¬(DT.s l=DT.s m):=fun z=>G (by injection z);rw[zzr0 this,zzr0 G]
      rw[q]at r;exact .of_refs g r
     ·have:¬(DT.s l=DT.s m):=fun z=>e (by injection z with z;rw[z]);rw[zzr0 this];exact .of_refs g (SeqAt.RcAt.lists_lengths hi p (by simp;omega) (by omega))
end
theorem CA(a b:fu):decide (DT.k a=DT.k b)=decide (a=b):=by
 by_cases e:a=b
 ·subst e;simp
 ·rw[zzr0 e,zzr0 fun z=>e (by injection z)]
theorem Iq(l m:List DT):decide (DT.t l=DT.t m)=decide (l=m):=by
 by_cases e:l=m
 ·subst e;simp
 ·rw[zzr0 e,zzr0 fun z=>e (by injection z)]
theorem Ir(l m:List DT):decide (DT.s l=DT.s m)=decide (l=m):=by
 by_cases e:l=m
 ·subst e;simp
 ·rw[zzr0 e,zzr0 fun z=>e (by injection z)]
theorem Gi(x y:DT):decide ((some x:Option DT)=some y)=decide (x=y):=by
 by_cases e:x=y
 ·subst e;simp
 ·rw[zzr0 e,zzr0 fun z=>e (fj z)]
section
variable{A:Around}{s:Shared}
theorem pR{d:Nat}(g:A.units+1+d<cLine){l m:List DT}{i j:Array Value}(h:DT.depths m<=d)(hi:DAts s.heap l i.toList)(k:DAts s.heap m j.toList):
  ∀n (a:n<i.size) (e:n<j.size),bB A.in1 s i[n] j[n] (decide (l[n]?=m[n]?)):=by
 intro n a e;obtain⟨x,ex,hx⟩:=hi.get (i:=n) (v:=i[n]) (by simp[a]);obtain⟨y,f,o⟩:=k.get (i:=n) (v:=j[n]) (by simp[e]);rw[ex,f,Gi];exact Ip d (DT.depths_get h f) g hx o
theorem BZ{l m:List DT}{i j:Array Value}(hi:DAts s.heap l i.toList)(g:DAts s.heap m j.toList):((mY (min i.size j.size)).all (fun n=>decide (l[n]?=m[n]?)) && i.size==j.size)=decide (l=m):=by
 have f:=hi.length;have h:=g.length;simp only[k9]at f h;by_cases e:l.length=m.length
 ·have a:i.size=j.size:=by omega
  rw[<-a,Nat.min_self,<-f,gm e];simp
 ·have a:(i.size==j.size)=false:=by simp;omega
  rw[a,zzr0 fun z=>e (by rw[z]),w8]
theorem JG{x y:DT}{u v:Value}(o:y.depth<=14)(B:A.units+16<cLine)(hx:tp s.heap x u)(f:tp s.heap y v):SeqAt.RcAt A s u v (decide (x=y)):=by
 cases x with
 |k a =>
  rcases aD (show dO a u=true from hx)with⟨i,t,rfl,rfl⟩|⟨i,t,rfl,rfl⟩
  ·cases y with
   |k b =>
    rw[CA];rcases aD (show dO b v=true from f)with⟨j,h,rfl,rfl⟩|⟨j,h,rfl,rfl⟩
    ·rw[xZ];exact SeqAt.RcAt.int_int i t j h
    ·rw[xY];exact SeqAt.RcAt.int_str i t j h
   |t m=>obtain⟨b,j,rfl,g,_⟩:=f;rw[zzr0 (by intro z;cases z)];exact SeqAt.RcAt.int_tuple i t g (by omega)
   |s m=>obtain⟨b,j,rfl,g,_⟩:=f;rw[zzr0 (by intro z;cases z)];exact SeqAt.RcAt.int_list i t g (by omega)
  ·cases y with
   |k b =>
    rw[CA];rcases aD (show dO b v=true from f)with⟨j,h,rfl,rfl⟩|⟨j,h,rfl,rfl⟩
    ·rw[xW];exact SeqAt.RcAt.str_int i t j h
    ·rw[xV];have:=SeqAt.RcAt.str_str (A:=A) (s:=s) i t j h;rwa[show(i==j)=decide (i=j)from by by_cases e:i=j<;>simp[e]]at this
   |t m=>obtain⟨b,j,rfl,g,_⟩:=f;rw[zzr0 (by intro z;cases z)];exact SeqAt.RcAt.str_tuple i t g (by omega)
   |s m=>obtain⟨b,j,rfl,g,_⟩:=f;rw[zzr0 (by intro z;cases z)];exact SeqAt.RcAt.str_list i t g (by omega)
 |t l =>
  obtain⟨a,i,rfl,hi,hx⟩:=hx;cases y with
  |k b =>
   rw[zzr0 (by intro z;cases z)];rcases aD (show dO b v=true from f)with⟨j,h,rfl,rfl⟩|⟨j,h,rfl,rfl⟩
   ·exact SeqAt.RcAt.tuple_int j h hi (by omega)
   ·exact SeqAt.RcAt.tuple_str j h hi (by omega)
  |t m =>
   obtain⟨b,j,rfl,g,f⟩:=f;have n:DT.depths m<=13:=by have:DT.depths m+1<=14:=o;omega
   have r:=SeqAt.RcAt.tuples (A:=A) hi g (by omega) (pR (by omega) n hx f);rw[BZ hx f]at r;rw[Iq];exact r
  |s m=>obtain⟨b,j,rfl,g,_⟩:=f;rw[zzr0 (by intro z;cases z)];exact SeqAt.RcAt.tuple_list hi g (by omega)
 |s l =>
  obtain⟨a,i,rfl,hi,hx⟩:=hx;cases y with
  |k b =>
   rw[zzr0 (by intro z;cases z)];rcases aD (show dO b v=true from f)with⟨j,h,rfl,rfl⟩|⟨j,h,rfl,rfl⟩
   ·exact SeqAt.RcAt.list_int j h hi (by omega)
   ·exact SeqAt.RcAt.list_str j h hi (by omega)
  |t m=>obtain⟨b,j,rfl,g,_⟩:=f;rw[zzr0 (by intro z;cases z)];exact SeqAt.RcAt.list_tuple hi g (by omega)
  |s m =>
   obtain⟨b,j,rfl,g,f⟩:=f;have n:DT.depths m<=13:=by have:DT.depths m+1<=14:=o;omega
   have p:=hx.length;have q:=f.length;simp only[k9]at p q;rw[Ir];by_cases e:l.length=m.length
   ·have r:=SeqAt.RcAt.lists (A:=A) hi g (by omega) (by omega) (pR (by omega) n hx f);rw[<-p,gm e]at r;exact r
   ·rw[zzr0 fun z=>e (by rw[z])];exact SeqAt.RcAt.lists_lengths hi g (by simp;omega) (by omega)
theorem Io{x y:DT}{u v:Value}(o:y.depth<=14)(B:A.units+16<cLine)(hx:tp s.heap x u)(f:tp s.heap y v):SeqAt.RcNeAt A s u v (!decide (x=y)):=by
 cases x with
 |k a =>
  rcases aD (show dO a u=true from hx)with⟨i,t,rfl,rfl⟩|⟨i,t,rfl,rfl⟩
  ·cases y with
   |k b =>
    rw[CA];rcases aD (show dO b v=true from f)with⟨j,h,rfl,rfl⟩|⟨j,h,rfl,rfl⟩
    ·rw[xZ];exact SeqAt.RcNeAt.int_int i t j h
    ·rw[xY];exact SeqAt.RcNeAt.int_str i t j h
   |t m=>obtain⟨b,j,rfl,g,_⟩:=f;rw[zzr0 (by intro z;cases z)];exact SeqAt.RcNeAt.int_tuple i t g (by omega)
   |s m=>obtain⟨b,j,rfl,g,_⟩:=f;rw[zzr0 (by intro z;cases z)];exact SeqAt.RcNeAt.int_list i t g (by omega)
  ·cases y with
   |k b =>
    rw[CA];rcases aD (show dO b v=true from f)with⟨j,h,rfl,rfl⟩|⟨j,h,rfl,rfl⟩
    ·rw[xW];exact SeqAt.RcNeAt.str_int i t j h
    ·rw[xV];have:=SeqAt.RcNeAt.str_str (A:=A) (s:=s) i t j h;rwa[show(i==j)=decide (i=j)from by by_cases e:i=j<;>simp[e]]at this
   |t m=>obtain⟨b,j,rfl,g,_⟩:=f;rw[zzr0 (by intro z;cases z)];exact SeqAt.RcNeAt.str_tuple i t g (by omega)
   |s m=>obtain⟨b,j,rfl,g,_⟩:=f;rw[zzr0 (by intro z;cases z)];exact SeqAt.RcNeAt.str_list i t g (by omega)
 |t l =>
  obtain⟨a,i,rfl,hi,hx⟩:=hx;cases y with
  |k b =>
   rw[zzr0 (by intro z;cases z)];rcases aD (show dO b v=true from f)with⟨j,h,rfl,rfl⟩|⟨j,h,rfl,rfl⟩
   ·exact SeqAt.RcNeAt.tuple_int j h hi (by omega)
   ·exact SeqAt.RcNeAt.tuple_str j h hi (by omega)
  |t m =>
   obtain⟨b,j,rfl,g,f⟩:=f;have n:DT.depths m<=13:=by have:DT.depths m+1<=14:=o;omega
   have r:=SeqAt.RcNeAt.tuples (A:=A) hi g (by omega) (pR (by omega) n hx f);rw[BZ hx f]at r;rw[Iq];exact r
  |s m=>obtain⟨b,j,rfl,g,_⟩:=f;rw[zzr0 (by intro z;cases z)];exact SeqAt.RcNeAt.tuple_list hi g (by omega)
 |s l =>
  obtain⟨a,i,rfl,hi,hx⟩:=hx;cases y with
  |k b =>
   rw[zzr0 (by intro z;cases z)];rcases aD (show dO b v=true from f)with⟨j,h,rfl,rfl⟩|⟨j,h,rfl,rfl⟩
   ·exact SeqAt.RcNeAt.list_int j h hi (by omega)
   ·exact SeqAt.RcNeAt.list_str j h hi (by omega)
  |t m=>obtain⟨b,j,rfl,g,_⟩:=f;rw[zzr0 (by intro z;cases z)];exact SeqAt.RcNeAt.list_tuple hi g (by omega)
  |s m =>
   obtain⟨b,j,rfl,g,f⟩:=f;have n:DT.depths m<=13:=by have:DT.depths m+1<=14:=o;omega
   have p:=hx.length;have q:=f.length;simp only[k9]at p q;rw[Ir];by_cases e:l.length=m.length
   ·have r:=SeqAt.RcNeAt.lists (A:=A) hi g (by omega) (by omega) (pR (by omega) n hx f);rw[<-p,gm e]at r;exact r
   ·rw[zzr0 fun z=>e (by rw[z])];exact SeqAt.RcNeAt.lists_lengths hi g (by simp;omega) (by omega)
end
mutual
def gV(K:Za)(H:Hp):DT->V->Prop
 |.k a,v=>v=kV a
 |.t l,v=>∃b xs,v=.ref b/\br K H b xs/\DIns K H l xs
 |.s l,v=>∃b xs,v=.ref b/\au K H b xs/\DIns K H l xs
def DIns(K:Za)(H:Hp):List DT->List V->Prop
 |[],vs=>vs=[]
 |k::r,vs=>∃v us,vs=v::us/\gV K H k v/\DIns K H r us
end
section
variable{X:Cx}{J4:Zd}{σ:St}{H:Hp}{s:Shared}
theorem kC(I:Inv X J4 σ H s):∀(d:Nat) {k:DT}{v:V}{u:Value},k.depth<=d->gV X.K H k v->RelV v u->tp s.heap k u:=by
 have h:∀(d:Nat) (i:∀{k:DT}{v:V}{u:Value},k.depth<=d->gV X.K H k v->RelV v u->tp s.heap k u) (f:List DT) (j:List V) (o:Zf),DT.depths f<=d->DIns X.K H f j->bC j o->DAts s.heap f o:=by
  intro d i f
  induction f with
  |nil =>
   intro j o _ hx r;have e:j=[]:=hx;subst e;cases r
   rfl
  |cons k f p =>
   intro j o g hx r;obtain⟨v,q,rfl,m,B⟩:=hx;cases r with
   |@cons _ u _ n C D =>
    have E:max k.depth (DT.depths f)<=d:=g;exact⟨u,n,rfl,i (by omega) m C,p q n (by omega) B D⟩
 intro d
 induction d with
 |zero =>
  intro k v u g hx r;cases k with
  |t l=>exact absurd g (by show ¬(DT.depths l+1<=0);omega)
  |s l=>exact absurd g (by show ¬(DT.depths l+1<=0);omega)
  |k b =>
   have e:v=kV b:=hx;subst e;exact rO (P:=X.prog) (w:=X.w) r
 |succ d i =>
  intro k v u g hx r;cases k with
  |k b =>
   have e:v=kV b:=hx;subst e;exact rO (P:=X.prog) (w:=X.w) r
  |t l =>
   obtain⟨b,x,rfl,y,hi⟩:=hx;cases(show u=Value.ref b from r);obtain⟨a,z,A,_⟩:=I.tuple y;exact⟨b,a.toArray,rfl,A,by simpa using h d (fun m=>i m) l x a (by have:DT.depths l+1<=d+1:=g;omega) hi z⟩
  |s l =>
   obtain⟨b,x,rfl,y,hi⟩:=hx;cases(show u=Value.ref b from r);obtain⟨a,z,A,_⟩:=I.list y;exact⟨b,a.toArray,rfl,A.isList,by simpa using h d (fun m=>i m) l x a (by have:DT.depths l+1<=d+1:=g;omega) hi z⟩
theorem pS(I:Inv X J4 σ H s):∀{a:List DT}{f:List V}{g:Zf},DT.depths a<=8->DIns X.K H a f->bC f g->DAts s.heap a g
 |[],f,g,_,hx,r=>by
  have e:f=[]:=hx;subst e;cases r
  rfl
 |k::a,f,g,i,hx,r=>by
  obtain⟨v,j,rfl,l,m⟩:=hx;cases r with
  |@cons _ u _ h n o =>
   have p:max k.depth (DT.depths a)<=8:=i;exact⟨u,h,rfl,kC I 8 (by omega) l n,pS I (by omega) m o⟩
end
def jQ(K:Za):R2:=fun x y H Q=>∃d e:DT,gV K H d x/\gV K H e y/\d.depth<=8/\e.depth<=8/\Q (.bl (decide (d=e))) H
def zD(K:Za):R2:=fun x y H Q=>∃d e:DT,gV K H d x/\gV K H e y/\d.depth<=8/\e.depth<=8/\Q (.bl (!decide (d=e))) H
section
variable{X:Cx}
theorem fH(f:X.A.units+16<cLine):oK X (eZ .Eq) (jQ X.K):=by
 intro l s σ H x y v u Q I g i h;obtain⟨d,e,hx,j,k,a,q⟩:=h;exact JG (bz a (by decide)) f (kC I 8 k hx g) (kC I 8 a j i) X.prog X.w X.xe _ ⟨.bl _,H,I,rfl,q⟩
theorem xP(f:X.A.units+16<cLine):oK X (eZ .NotEq) (zD X.K):=by
 intro l s σ H x y v u Q I g i h;obtain⟨d,e,hx,j,k,a,q⟩:=h;exact Io (bz a (by decide)) f (kC I 8 k hx g) (kC I 8 a j i) X.prog X.w X.xe _ ⟨.bl _,H,I,rfl,q⟩
def Ju(K:Za):R2:=fun x y H Q=>∃d e:DT,gV K H d x/\gV K H e y/\d.depth<=40/\e.depth<=14/\Q (.bl (!decide (d=e))) H
theorem IL(f:X.A.units+16<cLine):oK X (eZ .NotEq) (Ju X.K):=by
 intro l s σ H x y v u Q I g i h;obtain⟨d,e,hx,j,k,a,q⟩:=h;exact Io a f (kC I 40 k hx g) (kC I 14 a j i) X.prog X.w X.xe _ ⟨.bl _,H,I,rfl,q⟩
def jB(K:Za)(neg:Bool):R2:=fun x y H Q=>∃(d:DT) (ds:List DT) (p:Addr) (xs:List V),gV K H d x/\y=.ref p/\(au K H p xs∨br K H p xs)/\DIns K H ds xs/\d.depth<=8/\DT.depths ds<=8/\Q (.bl (if neg then !decide (d∈ds)else decide (d∈ds))) H
open Classical in
theorem pX{h:Heap}{d:DT}(g:d.depth<=8):∀{a:List DT}{f:Zf},DAts h a f->DT.depths a<=8->f.any (fun u=>@decide (tp h d u) (propDecidable _))=decide (d∈a)
 |[],f,e,_=>by
  have j:f=[]:=e;subst j
  rfl
 |x::a,f,e,k=>by
  obtain⟨u,l,rfl,i,m⟩:=e;have o:max x.depth (DT.depths a)<=8:=k;rw[lA,pX g m (by omega)];by_cases q:d=x
  ·subst q;simp[i]
  ·have n:¬tp h d u:=fun z=>q (tp.inj 8 g z i);simp[n,q]
open Classical in
theorem uy{A:Around}{s:Shared}{d:DT}{v:Value}(g:d.depth<=8)(i:A.units+8<cLine)(j:tp s.heap d v):∀{f:List DT}{a:Zf},DAts s.heap f a->DT.depths f<=8->∀u∈a,bB A s u v (@decide (tp s.heap d u) (propDecidable _))
 |[],a,e,_,u,hm=>by
  have k:a=[]:=e;subst k;cases hm
 |x::f,a,e,l,u,hm=>by
  obtain⟨r,m,rfl,h,o⟩:=e;have p:max x.depth (DT.depths f)<=8:=l;rcases c8.mp hm with rfl|hm
  ·have q:=Ip 8 (A:=A) g i h j;by_cases z:x=d
   ·subst z;rw[zzr1 h];rwa[zzr1 rfl]at q
   ·have n:¬tp s.heap d u:=fun w=>z (tp.inj 8 g w h).symm;rw[zzr0 n];rwa[zzr0 z]at q
  ·exact uy g i j o (by omega) u hm
theorem ko(t:X.A.units+16<cLine):oK X (eZ .In) (jB X.K false):=by
 intro z s σ H x y v u Q I m n h;obtain⟨d,B,p,C,hx,rfl,hq,e,f,a,q⟩:=h;cases n;have l:=kC I 8 f hx m;have g:X.A.in1.units+8<cLine:=by show X.A.units+1+8<cLine;omega
 rcases hq with hq|hq
 ·obtain⟨i,r,j,o⟩:=I.list hq;have hi:=pS I a e r;refine SeqAt.in_listAt _ j.isList (fun w k=>uy f g l hi a w (by simpa using k)) ⟨.bl _,H,I,rfl,?_⟩;rw[wP,pX f hi a];exact q
 ·obtain⟨i,r,j,o⟩:=I.tuple hq;have hi:=pS I a e r;refine SeqAt.in_tupleAt _ j (fun w k=>uy f g l hi a w (by simpa using k)) ⟨.bl _,H,I,rfl,?_⟩;rw[wP,pX f hi a];exact q
theorem gJ(t:X.A.units+16<cLine):oK X (eZ .NotIn) (jB X.K true):=by
 intro z s σ H x y v u Q I m n h;obtain⟨d,B,p,C,hx,rfl,hq,e,f,a,q⟩:=h;cases n;have l:=kC I 8 f hx m;have g:X.A.in1.units+8<cLine:=by show X.A.units+1+8<cLine;omega
 rcases hq with hq|hq
 ·obtain⟨i,r,j,o⟩:=I.list hq;have hi:=pS I a e r;refine SeqAt.notIn_listAt _ j.isList (fun w k=>uy f g l hi a w (by simpa using k)) ⟨.bl _,H,I,rfl,?_⟩;rw[wP,pX f hi a];exact q
 ·obtain⟨i,r,j,o⟩:=I.tuple hq;have hi:=pS I a e r;refine SeqAt.notIn_tupleAt _ j (fun w k=>uy f g l hi a w (by simpa using k)) ⟨.bl _,H,I,rfl,?_⟩;rw[wP,pX f hi a];exact q
end
def uJ(z:Str)(lo hi:Option Int):Str:=⟨((z.cps.toList.drop (HT.sIx z.length 0 lo)).take (HT.sIx z.length z.length hi-HT.sIx z.length 0 lo)).toArray⟩
theorem sliceRange_one(a b:Nat):sliceRange (a:Int) (b:Int) 1=(mY (b-a)).map (fun k=>a+k):=by
 unfold sliceRange;simp only[show(1:Int) > 0 from by decide,if_true];by_cases h:(a:Int)<(b:Int)
 ·have e:(if(a:Int)<(b:Int)then((b:Int)-a+1-1) / 1 else 0).toNat=b-a:=by rw[if_pos h];omega
  rw[e];exact List.map_congr_left fun k _=>by omega
 ·have e:(if(a:Int)<(b:Int)then((b:Int)-a+1-1) / 1 else 0).toNat=b-a:=by rw[if_neg h];omega
  rw[e];exact List.map_congr_left fun k _=>by omega
theorem Af(v:Option Int)(n d:Nat):(match v with|none=>(d:Int)|some i=>max 0 (min (if i<0 then i+(n:Int)else i) (n:Int)))=((HT.sIx n d v:Nat):Int):=by
 cases v with
 |none=>rfl
 |some i =>
  rw[<-HT.clip_eq i n d];dsimp only;by_cases h:i<0
  ·rw[if_pos h,if_pos h];omega
  ·rw[if_neg h,if_neg h];omega
theorem pi(lo hi:Option Int)(n:Nat):tM lo hi 1 n=(mY (HT.sIx n n hi-HT.sIx n 0 lo)).map (fun k=>HT.sIx n 0 lo+k):=by
 have a:=Af lo n 0;have e:=Af hi n n;rw[<-sliceRange_one,<-a,<-e];unfold tM;simp only[show(1:Int) > 0 from by decide,if_true];cases lo<;>cases hi<;>rfl
theorem Dg(z:Str)(lo hi:Option Int):Txt.slice z lo hi=uJ z lo hi:=by
 have k:HT.sIx z.length 0 lo<=z.length:=HT.sIx_le _ _ (c7 _) _;have l:HT.sIx z.length z.length hi<=z.length:=HT.sIx_le _ _ (aP _) _;have f:z.cps.toList.length=z.length:=by simp[Str.length]
 have e:(tM lo hi 1 z.length).filterMap (z.cps[·]?)=(z.cps.toList.drop (HT.sIx z.length 0 lo)).take (HT.sIx z.length z.length hi-HT.sIx z.length 0 lo):=by
  rw[pi];generalize HT.sIx z.length 0 lo=a at *;generalize HT.sIx z.length z.length hi=b at *;have h:=StrLaws.picks z.cps.toList (b-a) a (by omega);simpa using h
 unfold Txt.slice;by_cases h:((1:Int)==1 && (tM lo hi 1 z.length).length==z.length)=true
 ·rw[if_pos h];have g:(tM lo hi 1 z.length).length=z.length:=by simpa using h
  rw[pi,ag,List.length_range]at g;unfold uJ;have i:HT.sIx z.length 0 lo=0:=by omega
  have j:HT.sIx z.length z.length hi-HT.sIx z.length 0 lo=z.cps.toList.length:=by omega
  rw[j,i,qh,bg]
 ·rw[if_neg h];unfold uJ;rw[e]
section
variable{X:Cx}
def Dy:V->Option Int->Option Int->Hp->VK->Prop:=fun x lo hi H Q=>∃z,x=.str z/\z.length<=aj/\Q (.str (uJ z lo hi)) H
theorem xF:Iw X Dy:=by
 intro g s σ H x v m n lo hi p Q I r y B f h;obtain⟨z,rfl,C,q⟩:=h;obtain⟨t,rfl⟩:=r;rw[<-Dg]at q;refine⟨"str",_,F.slot_str_getitem.lookup,typeIs_str _ _ _,?_⟩;obtain⟨o,D,E,G⟩:=y;have a:∀(l u:Option (Int×Tok)),m=partValue l->n=partValue u->lo=l.map (·.1)->hi=u.map (·.1)->wpAny (model X.prog X.w) X.A (nJ (.str z t) (.ref p)) (EP X g σ Q) X.xe s:=by
  rintro l u rfl rfl rfl rfl;refine wpAny_getItem_str_slice (l:=l) (u:=u) (st:=none) ⟨o,D,E,G⟩ rfl (post_val_or_str ⟨bz (Txt.slice_le z _ _) C,fun e k=>⟨.str _,H,I.tok _,⟨_,rfl⟩,q⟩⟩)
 cases B with
 |none =>
  cases f with
  |none=>exact a none none rfl rfl rfl rfl
  |int j u=>exact a none (some (j,u)) rfl rfl rfl rfl
 |int i e =>
  cases f with
  |none=>exact a (some (i,e)) none rfl rfl rfl rfl
  |int j u=>exact a (some (i,e)) (some (j,u)) rfl rfl rfl rfl
theorem IB:Iw X (fun x lo hi H Q=>xL X.K x lo hi H Q∨Dy x lo hi H Q):=kj.or xF
def Ia(K:Za):V->List V->Hp->VK->Prop:=fun x vs H Q=>∃z p ys,x=.str z/\vs=[.ref p]/\au K H p (ys.map V.str)/\(ys.map (·.length)).sum+ys.length * z.length<=16777216/\Q (.str (wO z ys)) H
theorem GW{a:Zb}:∀{us:Zf},bC (a.map V.str) us->StrsAre us a:=by
 induction a with
 |nil=>intro us r;cases r;exact .nil
 |cons y a e =>
  intro us r;cases r with
  |cons f g =>
   obtain⟨t,rfl⟩:=f;exact .cons _ _ (e g)
theorem Hy:JO X "str.join" (Ia X.K):=by
 intro m s σ H x n v o Q I a e h;obtain⟨z,p,y,rfl,rfl,f,g,q⟩:=h;obtain⟨t,rfl⟩:=a;obtain⟨u,rfl,i⟩:=e.one;cases i;obtain⟨j,r,l,_⟩:=I.list f;exact join_list l.isList (by simpa using GW r) g fun A k=>⟨.str _,H,I.tok _,⟨_,rfl⟩,q⟩
end
section
variable{X:Cx}
def I0(K:Za)(H:Hp)(x:V)(t:Value):Prop:=jf K H x t∨(∃a xs,x=.ref a/\t=.type "tuple"/\br K H a xs)∨(∃a xs,x=.ref a/\t=.type "list"/\au K H a xs)
theorem Bi{k:Zd}{σ:St}{H:Hp}{s:Shared}{A:Around}{E:Zc}{Q:Zc}{c:Value}{b:Bool}{x:V}{u t:Value}(I:Inv X k σ H s)(f:RelV x u)(ty:I0 X.K H x t)(e:BQ X.K t c=some b)(h:∀tk,Q (.bool b) { s with toks:=tk }):
  wpAny (model X.prog X.w) A (call (.builtin "isinstance") [u,c]) Q E s:=by
 rcases ty with ty|⟨a,l,rfl,rfl,q⟩|⟨a,l,rfl,rfl,q⟩
 ·exact DN I f ty e h
 ·cases(show u=Value.ref a from f);obtain⟨g,m,p,r⟩:=I.tuple q;obtain⟨o,i,j,_⟩:=p;exact jJ PySem.W.kitx_tuple I.kIn ⟨o,i,j⟩ e (fun z=>nomatch z) h
 ·cases(show u=Value.ref a from f);obtain⟨g,m,p,r⟩:=I.list q;obtain⟨o,n,i,j,_⟩:=p;exact jJ PySem.W.kitx_list I.kIn ⟨o,i,j⟩ e (fun z=>nomatch z) h
theorem eA:fU X (.builtin "isinstance") (fun a H Q=>∃x c t b,a=[x,.ty c]/\I0 X.K H x t/\BQ X.K t (.type c)=some b/\Q (.bl b) H):=by
 intro i s σ H a j Q I r h;obtain⟨x,c,t,b,rfl,ty,e,q⟩:=h;obtain⟨u,v,rfl,f,g⟩:=vals2 r;cases(show v=Value.type c from g);exact Bi I f ty e fun tk=>⟨.bl b,H,I.tok _,rfl,q⟩
theorem Gr{bs:List Bool}{a:Zf}(r:bC (bs.map V.bl) a){i:Nat}{v:Value}(h:a[i]?=some v):v=.bool ((bs[i]?).getD false)/\i<bs.length:=by
 have hi:i<a.length:=(bN.mp h).1;have g:=r.length;rw[ag]at g;have e:i<bs.length:=by omega
 obtain⟨u,f,j⟩:=r.get (i:=i) (x:=V.bl bs[i]) (by simp[e]);rw[h]at f;cases f;refine⟨?_,e⟩;rw[ik e];exact j
theorem yv(bs:List Bool):((mY bs.length).all fun i=>(bs[i]?).getD false)=bs.all id:=by
 induction bs with
 |nil=>rfl
 |cons b bs a =>
  rw[eO,List.range_succ_eq_map,List.all_cons,List.all_map,List.all_cons,<-a]
  rfl
theorem yu(bs:List Bool):((mY bs.length).any fun i=>(bs[i]?).getD false)=bs.any id:=by
 induction bs with
 |nil=>rfl
 |cons b bs a =>
  rw[eO,List.range_succ_eq_map,lA,List.any_map,lA,<-a]
  rfl
theorem jr(m:X.calm=true):fU X (.builtin "all") (fun j H Q=>∃(p:Addr) (bs:List Bool),j=[.ref p]/\au X.K H p (bs.map V.bl)/\Q (.bl (bs.all id)) H):=by
 intro t s σ H j G Q I r h;obtain⟨p,bs,rfl,x,q⟩:=h;obtain⟨u,rfl,y⟩:=vals1 r;cases y;obtain⟨a,k,f,J⟩:=I.list x;obtain⟨o,n,z,_⟩:=id f;have l:=k.length;rw[ag]at l;refine call_all_walk (tw f.isList ?_);refine⟨s.heap.objs.size,_,_,_,_,_,fun i=>(bs[i]?).getD false,rfl,Walks.list (prog:=X.prog) (w:=X.w) (A:=X.A.in1) (I.ok.hd m) s.heap.objs.size p (cy (aU z)) a.toArray,⟨⟨_,cu _ rfl,rfl,rfl⟩,f.isList.push _⟩,?_,?_⟩
 ·intro i v L M N B g;obtain⟨e,_⟩:=Gr k (i:=i) (v:=v) (by simpa using B);rw[e];exact rH g
 ·intro C tk D;have E:Inv X t σ H { s with heap:=C,toks:=tk }:=I.kept fun b o e=>D b o (by simp;exact cy (aU e)) (aO _ e);rw[b9,<-l,yv];exact⟨.bl _,H,E,rfl,q⟩
theorem rV(m:X.calm=true):fU X (.builtin "any") (fun j H Q=>∃(p:Addr) (bs:List Bool),j=[.ref p]/\au X.K H p (bs.map V.bl)/\Q (.bl (bs.any id)) H):=by
 intro t s σ H j G Q I r h;obtain⟨p,bs,rfl,x,q⟩:=h;obtain⟨u,rfl,y⟩:=vals1 r;cases y;obtain⟨a,k,f,J⟩:=I.list x;obtain⟨o,n,z,_⟩:=id f;have l:=k.length;rw[ag]at l;refine call_any_walk (tw f.isList ?_);refine⟨s.heap.objs.size,_,_,_,_,_,fun i=>(bs[i]?).getD false,rfl,Walks.list (prog:=X.prog) (w:=X.w) (A:=X.A.in1) (I.ok.hd m) s.heap.objs.size p (cy (aU z)) a.toArray,⟨⟨_,cu _ rfl,rfl,rfl⟩,f.isList.push _⟩,?_,?_⟩
 ·intro i v L M N B g;obtain⟨e,_⟩:=Gr k (i:=i) (v:=v) (by simpa using B);rw[e];exact rH g
 ·intro C tk D;have E:Inv X t σ H { s with heap:=C,toks:=tk }:=I.kept fun b o e=>D b o (by simp;exact cy (aU e)) (aO _ e);rw[b9,<-l,yu];exact⟨.bl _,H,E,rfl,q⟩
theorem Bb:oK X (eZ .In) (fun x y H Q=>∃c j,x=.str ⟨#[c]⟩/\y=.str j/\Q (.bl (decide (c∈j.cps.toList))) H):=by
 intro a s σ H x y v u Q I e f h;obtain⟨c,j,rfl,rfl,q⟩:=h;rw[<-StrLaws.found_one]at q;exact DF a s σ H _ _ v u Q I e f ⟨_,_,rfl,rfl,q⟩
theorem uQ(T:X.calm=true):fU X (.type "list") (fun M H Q=>∃(d:Addr) (f:List (fu×V)),M=[.ref d]/\Rd H d (.dK f)/\∀l,H l=none->Q (.ref l) (upd H l (.lst (f.map fun g=>kV g.1)))):=by
 intro J4 s σ H M us Q I r h;obtain⟨d,f,rfl,U,q⟩:=h;obtain⟨u,rfl,Y⟩:=vals1 r;cases Y;obtain⟨z,n,N,y,dd⟩:=rT I.hok U;obtain⟨ep,E⟩:=dd.dictAt;have hl:=y.length;refine PySem.W.kdl_call (PySem.W.kdl_dict (knd:=cQ X.prog X.w) (kvs:=N) (ep:=ep) n) (I.ok.hd T) E (by rw[<-hl];exact z) fun h' tk m c G hD A=>?_;have B:bC (f.map fun g=>kV g.1) m.toList:=by
  obtain⟨hn,hP⟩:=A;have J:∀(a:Zf) (L:List (fu×V)) (C:List (fu×Value)),KV L C->a.length=C.length->(∀(j:Nat) (v:Value),a[j]?=some v->∃k x,C[j]?=some (k,x)/\(cQ X.prog X.w).is k v=true)->bC (L.map fun g=>kV g.1) a:=by
   intro a L C rl
   induction rl generalizing a with
   |nil=>intro D _;cases a with
    |nil=>exact .nil
    |cons _ _=>cases D
   |@cons p w' ps al hp _ ih =>
    intro D O;cases a with
    |nil=>cases D
    |cons v a =>
     obtain⟨k,x,e,G⟩:=O 0 v rfl;have e':w'=(k,x):=by simpa using e
     refine .cons ?_ (ih a (by simpa using D) fun j v B=>by simpa using O (j+1) v (by simpa using B));have ek:p.1=k:=by rw[hp.1,e']
     show RelV (kV p.1) v;rw[ek];rcases aD (show dO k v=true from G)with⟨i,t,rfl,rfl⟩|⟨i,t,rfl,rfl⟩
     ·exact⟨t,rfl⟩
     ·exact⟨t,rfl⟩
  exact J m.toList f N y (by rw[k9];exact hn) fun j v B=>hP j v (by rw[<-tS];exact B)
 refine⟨.ref s.heap.objs.size,_,I.laid (o:=.lst (f.map fun g=>kV g.1)) G (aP _) ⟨by rw[ag];exact z,m.toList,c,B,by rw[Array.toArray_toList];exact hD⟩,rfl,q _ I.fresh⟩
end
section
variable{prog:bP}{w:World}{K:Type}[DecidableEq K]{knd:HeapKind prog w K}{A:Around}{E:Zc}{s:Shared}
theorem tW{d a:Addr}{h:List (K×Addr×Value)}{k:K}{v:Value}{Q:Zc}(u:knd.room A)(f:knd.is s.heap k a)(C:s.heap.DictOfH knd d h)
  (there:∀p,atKey h k=some p->Q p.2 { s with toks:=s.toks+knd.draws k })
  (new:atKey h k=none->∀r,r.DictOfH knd d (h++[(k,a,v)])->gy d s.heap r->Q v { s with heap:=r,toks:=s.toks+knd.draws k })
  (D:h.length<=aj):wpAny (model prog w) A (dictSetDefault d (.ref a) v) Q E s:=by
 obtain⟨o,I,G,i,H,g,q,l,t⟩:=C;unfold dictSetDefault
 try with_reducible refine kR ?_
 refine ai (knd.pyHash u f ?_);refine ai (wpAny_dictFind_heap (s:={ s with toks:=s.toks+knd.draws k }) u f i g q l t ?_ ?_)
 ·intro m;have n:k∉h.map (·.1):=not_mem_keys_of_get m;refine ai (lB (ai (wpAny_updateDictKeys (hz:=by have e:=size_of_entries q;omega) (s:={ s with toks:=s.toks+knd.draws k }) i g (aG (new (atKey_none_of_get m) _ ⟨_,_,G+1,tT _ i (Obj.isFreed_of_dict (Obj.data_mapDictKeys g _)),
   H.mapDictKeys _,Obj.data_mapDictKeys g _,?_,?_,?_⟩ (j_ ..))))))
  ·simp[q,BX]
  ·intro x hx;rcases bx.mp hx with hx|hx
   ·exact knd.keeps (l x hx) i g (j_ ..)
   ·simp only[cX]at hx;subst hx;exact knd.keeps f i g (j_ ..)
  ·rw[av,dq];refine⟨t,by simp,?_⟩;intro x hx y z;simp only[cg,List.map_nil,cX]at z;subst z;exact fun e=>n (e▸hx)
 ·intro j p B;refine ai (nC (s:={ s with toks:=s.toks+knd.draws k }) i g ?_);rw[entry_at q j,B];exact ai (lB (aG (there p (atKey_of_get t B))))
theorem pM(knd:HeapKind prog w K)(d a:Addr)(l:(d==hW)=false)(dflt:Value):
  MeetsIn prog w (c9.«dict.setdefault» ⟨[.ref d,.ref a,dflt],[]⟩) (fun A R s=>knd.room A.in1/\∃k e,knd.is s.heap k a/\s.heap.DictOfH knd d e/\e.length<=aj /\
   (∀p,atKey e k=some p->R (.ok (.ret p.2)) { s with toks:=s.toks+knd.draws k }) /\
   (atKey e k=none->∀f,f.DictOfH knd d (e++[(k,a,dflt)])->gy d s.heap f->R (.ok (.ret dflt)) { s with heap:=f,toks:=s.toks+knd.draws k })) :=
 .of_wp fun A R s ⟨m,k,e,g,j,n,o,q⟩=>by
  unfold c9.«dict.setdefault»;refine ai ?_;unfold c9.Dict.keyAndDefault;refine ai (tL j.typeIs ?_);show wpAny _ _ (pure (d,Value.ref a,some dflt)) _ _ s;refine aG ?_;show wpAny _ _ (if(d==hW)=true then _ else(dictSetDefault d (.ref a) dflt >>= _)) _ _ s
  rw[if_neg (by rw[l];exact gw)];exact ai (tW m g j (fun p r=>aG ⟨p.2,rfl,o p r⟩) (fun t f h i=>aG ⟨dflt,rfl,q t f h i⟩) n)
end
section
variable{X:Cx}
def Cd:V->List V->Hp->VK->Prop:=fun x vs H Q=>∃(d b:Addr) (kvs:List (TK×V)) (k:TK) (z:V),x=.ref d/\vs=[.ref b,z]/\H d=some (.dT kvs)/\gQ H k (.ref b)/\k.depth<=8/\kvs.length<aj /\
 (∀v,de kvs k=some v->Q v H)/\(de kvs k=none->Q z (upd H d (.dT (kvs++[(k,z)]))))
theorem DH(D:X.A.units+16<cLine):JO X "dict.setdefault" Cd:=by
 intro J4 s σ H x vs v us Q I E G h;obtain⟨d,b,a,k,z,rfl,rfl,l,q,j,hz,J,L⟩:=h;cases E;obtain⟨u,v,rfl,M,r⟩:=G.two;cases M;obtain⟨_,g,m,f,t⟩:=Im I.hok I.kIn l;have hl:a.length=m.length:=Paired.length f;refine call_meetsIn PySem.F.slot_dict_setdefault t.typeIs PySem.F.entry_dict_setdefault (PySem.F.args_dict_setdefault_3 _ _ _) (pM (bL X.prog X.w) d b g v)
  ⟨iM D,k,m,xX I.hok I.kIn (gQ.c 8 j q) j,t,by omega,fun p N=>?_,fun O h' n T=>?_⟩
 ·have e:=f.val k;rw[N]at e;cases i:de a k with
  |none=>rw[i]at e;exact e.elim
  |some y =>
   rw[i]at e;exact⟨y,H,I.tok _,e,J y i⟩
 ·have e:=f.val k;rw[O]at e;have i:de a k=none:=by
   cases i:de a k with
   |none=>rfl
   |some y=>rw[i]at e;exact e.elim
  obtain⟨o,U,Y,B,h2,h3,h4,_,h5⟩:=n;refine⟨z,_,yg (ob:=.dT (a++[(k,z)])) I (by rw[l];exact kO) T ⟨o,B⟩ ⟨by rw[aS,w_];omega,g,_,KT.keeps (kvs:=a++[(k,z)]) (xs:=m++[(k,b,v)]) (fF f ⟨rfl,gQ.c 8 j q,j,r⟩) fun c ys C=>?_,o,U,Y,B,h2,h3,h4,h5⟩,r,L i⟩;rw[am (Ie C l (fun z=>nomatch z))];exact C
end
theorem gh:entryFor table "dict.update.loop"=some c9.«dict.update.loop»:=entryFor_of_fast (by kernel_rfl)
theorem cE:plainId "dict.update.loop"=true:=by decide +kernel
theorem xQ:typeLookup (.type "list") "keys"=pure none:=am_miss_of_fast (by decide +kernel)
section
variable{prog:bP}{w:World}{A:Around}{E:Zc}{s:Shared}
theorem vX{a:Addr}{o:Obj}{m:Array Value}{k:Nat}{Q:Option Value->Shared->Prop}(hx:s.heap.get? a=some o)(n:o.cls=.type "list")(f:o.data=.seq m k)(p:o.dict=none)(t:A.handled=none)
  (h:∀l tk,(∀b q,s.heap.get? b=some q->l.get? b=some q)->Q none { s with heap:=l,toks:=tk }):wpAny (model prog w) A (getAttr? (.ref a) "keys") Q E s:=by
 obtain⟨c,u,v,x⟩:=o;simp only at n f p;subst n f p;obtain⟨y,g,d,tk,os⟩:=s;have r:∀i,(⟨y,g,d,i,os⟩:Shared).TypeIs (.ref a) "list":=fun _=>⟨_,hx,rfl⟩;have z:=sub_AttributeError;have B:=F.slot_list_getattribute.lookup;have C:=F.slot_list_getattribute.bind (.ref a);have D:=am_list_getattr_none;unfold getAttr? getAttrBy? getAttrBy
 repeat (any_goals (first|assumption|exact r _|((with_reducible show wpAny _ _ (call (Value.builtin "list.__getattribute__") _ _) _ _ _);refine xa F.slot_list_getattribute (r _) am_entry_list_getattribute (F.args_list_getattribute_2 _ _) (meets_getattribute_miss_list a m k x "keys" _ xQ (by decide +kernel) (by decide +kernel)) ⟨hx,t,fun l i e j=>?_⟩)|wp_step))
 obtain⟨G,H,I⟩:=j.there;show wpAny _ _ (getattributeRaised _ _ _ _ _ _ _) _ _ _;unfold getattributeRaised hookOrError attributeErrorLeaves
 repeat (any_goals (first|assumption|wp_step))
 all_goals first|exact h _ _ j.keeps|trace_state
def Bx(h:Heap)(u:Value)(kv:fu×Value):Prop:=∃t ku,u=.ref t/\h.IsTuple t #[ku,kv.2]/\dO kv.1 ku=true
theorem AS{κ:Type}[DecidableEq κ](a:List (κ×Value))(k:κ)(v:Value):(stored a k v).length<=a.length+1:=by
 unfold stored;split
 ·rw[ag];omega
 ·rw[aS,w_];exact aP _
theorem EE{R:Result->Shared->Prop}(hh:A.handled=none){D it l:Addr}{items:Array Value}{ps:List (fu×Value)}(B:D≠it)(T:l≠it)(U:l≠D)(bb:ps.length=items.size):
  ∀(n i:Nat) (s:Shared) (a:List (fu×Value)),items.size-i=n->i<=items.size->a.length+(items.size-i)<=aj->s.heap.IsListIter it l i->s.heap.IsList l items->s.heap.DictOf (cQ prog w) D a ->
   (∀(j:Nat) (u:Value) (N:fu×Value),items[j]?=some u->ps[j]?=some N->Bx s.heap u N) ->
   (∀z tk,z.DictOf (cQ prog w) D (merged a (ps.drop i))->(∀b o,b≠D->b≠it->s.heap.get? b=some o->z.get? b=some o)->R (.ok (.ret .none)) { s with heap:=z,toks:=tk }) ->
   zzl77 (model prog w) A (.builtin "dict.update.loop" ⟨[.ref D,.ref it,rawInt i,.none],[]⟩) R s:=by
 intro n
 induction n with
 |zero =>
  intro i s a hn hi hz p O Q Y hR;have e:i=items.size:=by omega
  subst e;refine wN gh ?_;rw[wM cE _];show wpAny _ A.in1 (pyNext (.ref it) >>= _) _ _ s;refine ai (wpAny_pyNext_list_end hh p O (by simp) fun z eb=>?_);show wpAny _ _ (c9.Dict.addKeywords D [] >>= _) _ _ _;refine ai (aG (aG ?_));have C:z.DictOf (cQ prog w) D a:=Q.extBut eb B;have q:=hR z s.toks (by rw[tK (by omega)];exact C) fun b o _ hb e=>eb b o hb e;exact q
 |succ n ih =>
  intro i s a hn hi hz p O Q Y hR;have I:i<items.size:=by omega
  refine wN gh ?_;rw[wM cE _];show wpAny _ A.in1 (pyNext (.ref it) >>= _) _ _ s;have hu:items[i]?=some items[i]:=by simp[I]
  have hk:ps[i]?=some ps[i]:=ik (by omega);obtain⟨t,ku,eu,ht,al⟩:=Y i _ _ hu hk;refine ai (wpAny_pyNext_list_item p O (x:=items[i]) hu fun h J an=>?_);rw[eu];have m:gy it s.heap h:=an;have nt:t≠it:=by
   rintro rfl;obtain⟨o,G,L,_⟩:=ht;obtain⟨o',f,g,_⟩:=p;rw[G]at f;cases f;rw[L]at g;simp at g
  have M:h.IsTuple t #[ku,ps[i].2]:=ht.extBut m.extBut nt;have ap:tJ { s with heap:=h } (.ref t) "tuple":=M.typeIs (s:={ s with heap:=h });obtain⟨ot,as,bi,bl,aC⟩:=id M;refine ai (kR ?_);refine ai (wpAny_tryCatch ?_);unfold c9.Dict.pairItems;refine ai (wL ap ?_);rw[if_pos (by decide)];refine ai (hZ as aC (aG ?_));show wpAny _ _ (kP [ku,ps[i].2] (dictSet D ku ps[i].2)) _ _ _;have a0:h.DictOf (cQ prog w) D a:=Q.extBut m.extBut B;refine kR (wpAny_dictSet_pairs (knd:=cQ prog w) (k:=ps[i].1) al a0 (fun y a4 a5=>?_) (by omega));have v:gy D h y:=a5;show wpAny _ _ (again _) _ _ _;refine aG ⟨wK cE _,?_⟩;have a6:h.IsList l items:=O.extBut m.extBut T;have kp:∀b o,b≠D->b≠it->s.heap.get? b=some o->y.get? b=some o:=fun b o h y e=>v.extBut b o h (m.extBut b o y e);refine ih (i+1) _ (stored a ps[i].1 ps[i].2) (by omega) I (by have:=AS a ps[i].1 ps[i].2;omega) (J.extBut v.extBut (hV B)) (a6.extBut v.extBut U) a4 (fun j u N h y=>?_) fun z tk C a7=>?_
  ·obtain⟨t2,a8,e2,H,a9⟩:=Y j u N h y;have n1:t2≠it:=by
    rintro rfl;obtain⟨o,G,L,_⟩:=H;obtain⟨o',f,g,_⟩:=p;rw[G]at f;cases f;rw[L]at g;simp at g
   have n2:t2≠D:=by
    rintro rfl;obtain⟨o,G,L,_⟩:=H;obtain⟨o',_,_,f,g,_⟩:=Q;rw[G]at f;cases f;have:=g.1;rw[L]at this;simp at this
   obtain⟨o,G,r⟩:=H;exact⟨t2,a8,e2,⟨o,kp _ o n2 n1 G,r⟩,a9⟩
  ·refine hR z tk ?_ fun b o h y e=>a7 b o h y (kp b o h y e);have ed:ps.drop i=ps[i]::ps.drop (i+1):=wJ (by omega);rw[ed];exact C
theorem sC{l:Addr}{o:Obj}{items:Array Value}{n:Nat}{ps:List (fu×Value)}{Q:Zc}(T:A.handled=none)(U:s.heap.get? l=some o)(J:o.cls=.type "list")(v:o.data=.seq items n)(L:o.dict=none)
  (M:ps.length=items.size) (hp:∀(j:Nat) (u:Value) (H:fu×Value),items[j]?=some u->ps[j]?=some H->Bx s.heap u H) (hz:items.size<=aj)
  (h:∀x tk,x.DictOf (cQ prog w) s.heap.objs.size (merged [] ps)->(∀b o,s.heap.get? b=some o->x.get? b=some o)->Q (.ref s.heap.objs.size) { s with heap:=x,toks:=tk }) :
  wpAny (model prog w) A (call (.type "dict") [.ref l]) Q E s:=by
 refine callType_codes (Q₁:=fun y m=>y=.ref s.heap.objs.size/\m={ s with heap:=s.heap.push { cls:=.type "dict",data:=.dict #[] } }) F.kt_called_dict (F.kt_typeCall_dict_1 _) F.entry_dict_init (kt_code_dict_new _ ⟨rfl,rfl⟩) ?_;rintro y m ⟨rfl,rfl⟩;have f:(s.heap.push { cls:=.type "dict",data:=.dict #[] }).DictOf (cQ prog w) s.heap.objs.size []:=Heap.DictOf.new s.heap;have p:(s.heap.push { cls:=.type "dict",data:=.dict #[] }).get? l=some o:=aO _ U;have z:l<s.heap.objs.size:=aU U;refine⟨f.typeIs,F.args_dict_init_2 _ _,?_⟩;unfold c9.«dict.__init__»;refine ai ?_;unfold c9.Dict.selfAndRest;refine ai (tL f.typeIs ?_);show wpAny _ _ (pure (s.heap.objs.size,[Value.ref l])) _ _ _;refine aG ?_;show wpAny _ _ (wI "dict.__init__" s.heap.objs.size (.ref l) [] .none) _ _ _;unfold wI;have N:tJ { s with heap:=s.heap.push { cls:=.type "dict",data:=.dict #[] } } (.ref l) "list":=⟨o,p,J⟩;refine ai (wL N ?_);rw[if_pos (by decide)];refine ai (vX p J v L T fun q O k1=>?_);have k:∀b I,(s.heap.push { cls:=.type "dict",data:=.dict #[] }).get? b=some I->q.get? b=some I:=k1;rw[if_pos (by rfl:(none:Option Value).isNone=true)];refine ai (lB ?_);have B:q.IsList l items:=⟨o,k _ _ p,J,n,v⟩;refine ai (tw (s:={ s with heap:=q,toks:=O }) B ?_);have C:q.DictOf (cQ prog w) s.heap.objs.size []:=by
  obtain⟨Y,es,ep,g,r⟩:=f;exact⟨Y,es,ep,k _ _ g,r⟩
 have i:s.heap.objs.size<q.objs.size:=by
  obtain⟨Y,es,ep,g,r⟩:=C;exact aU g
 refine aG ⟨wK cE _,?_⟩;refine EE (A:=A.in1) (prog:=prog) (w:=w) T (D:=s.heap.objs.size) (it:=q.objs.size) (l:=l) (items:=items) (ps:=ps) (cy i) (cy (tQ z i)) (cy z) M items.size 0 _ [] (wH _) (c7 _) (by rw[nH];omega)
  ⟨_,cu _ rfl,rfl,rfl⟩ (B.push _) (C.push _) (fun j u H a b=>?_) fun x tk G kp=>?_
 ·obtain⟨t,ku,e,ht,hk⟩:=hp j u H a b;obtain⟨ot,g,r⟩:=ht;exact⟨t,ku,e,⟨ot,aO _ (k _ _ (aO _ g)),r⟩,hk⟩
 ·rw[qh]at G;refine⟨rfl,h x tk G fun b I e=>kp b I (cy (aU e)) (cy (tQ (aU e) i)) (aO _ (k _ _ (aO _ e)))⟩
end
section
variable{X:Cx}
theorem yo(hc:X.calm=true):fU X (.type "dict") (fun Y H Q=>∃(l:Addr) (k:Ze) (f:List (fu×V)),Y=[.ref l]/\au X.K H l (k.map V.ref)/\k.length=f.length /\
  (∀(j:Nat) (t:Addr) (g:fu×V),k[j]?=some t->f[j]?=some g->H t=some (.tup [kV g.1,g.2]))/\∀p,H p=none->Q (.ref p) (upd H p (.dK (jE [] f)))):=by
 intro J4 s σ H Y us Q I r h;obtain⟨l,k,f,rfl,v,z,D,q⟩:=h;obtain⟨u,rfl,ru⟩:=vals1 r;cases ru;obtain⟨E,rv,⟨o,n,ho,G,J,L⟩,M⟩:=I.list v;have N:∀(k:Ze) (f:List (fu×V)),k.length=f.length->(∀(j:Nat) (t:Addr) (g:fu×V),k[j]?=some t->f[j]?=some g->H t=some (.tup [kV g.1,g.2]))->∃y:List (fu×Value),KV f y/\∀(j:Nat) (t:Addr) (g:fu×Value),k[j]?=some t->y[j]?=some g->Bx s.heap (.ref t) g:=by
  intro k
  induction k with
  |nil =>
   intro f v _;cases f with
   |nil=>exact⟨[],.nil,fun j t g e=>by simp at e⟩
   |cons _ _=>cases v
  |cons t k ih =>
   intro f v D;cases f with
   |nil=>cases v
   |cons g f =>
    obtain⟨y,O,r2⟩:=ih f (by simpa using v) fun j T m a b=>D (j+1) T m (by simpa using a) (by simpa using b);obtain⟨_,al,rt,p⟩:=(show cq X.prog X.w X.K H s.heap t (.tup [kV g.1,g.2])from I.hok t _ (D 0 t g rfl rfl));obtain⟨a,b,e,ra,rb⟩:=rt.two;subst e;refine⟨(g.1,b)::y,.cons ⟨rfl,rb⟩ O,fun j T m A U=>?_⟩;cases j with
    |zero =>
     simp at A U;subst A U;exact⟨t,a,rfl,p,rO (P:=X.prog) (w:=X.w) ra⟩
    |succ j=>exact r2 j T m (by simpa using A) (by simpa using U)
 obtain⟨y,B,pa⟩:=N k f z D;have C:=rv.length;rw[ag]at C;have an:=B.length;refine sC (prog:=X.prog) (w:=X.w) (ps:=y) (I.ok.hd hc) ho G L J (by rw[b9];omega) (fun j u g a b=>?_) (by rw[b9,<-C];rw[ag]at M;exact M) fun h' tk hD kp=>?_
 ·have a':E[j]?=some u:=by simpa using a
  have hj:j<k.length:=by
   have:=(bN.mp a').1;omega
  obtain⟨u',e1,O⟩:=rv.get (i:=j) (x:=V.ref k[j]) (by simp[hj]);rw[a']at e1;cases e1;cases(show u=Value.ref k[j]from O);exact pa j k[j] g (by simp[hj]) b
 ·have hm:(jE [] f).length<=aj:=by
   have A:=m_ f [];rw[nH]at A;rw[ag]at M;omega
  exact⟨.ref s.heap.objs.size,_,I.laid (o:=.dK (jE [] f)) kp (aP _) (Ge hm (beq_eq_false_iff_ne.mpr (hV (cy I.big))) (B.merge .nil) hD),rfl,q _ I.fresh⟩
end
abbrev fk:R2:=Es fun i j=>.int (i+j)
abbrev jP:R2:=rI GF fun i j=>.int (i * j)
abbrev jk:R2:=rI (fun _ j=>0<j) fun i j=>.int (i % j)
abbrev Fw:R2:=rI JT fun i j=>.int (i / j)
abbrev H_:R2:=rI JR fun i j=>.int (i ^ j.toNat)
abbrev Hi:R2:=Es fun i j=>.bl (decide (i<j))
abbrev ID:R2:=Es fun i j=>.bl (decide (i<=j))
abbrev A8:R2:=Es fun i j=>.bl (decide (j<i))
abbrev rGeI:R2:=Es fun i j=>.bl (decide (j<=i))
abbrev Fy:R2:=fun x y H Q=>∃i j,x=.str i/\y=.str j/\i.length+j.length<=aj/\Q (.str (i++j)) H
abbrev rInS:R2:=fun x y H Q=>∃c j,x=.str ⟨#[c]⟩/\y=.str j/\Q (.bl (decide (c∈j.cps.toList))) H
abbrev rSlA(K:Za):V->Option Int->Option Int->Hp->VK->Prop:=fun x lo hi H Q=>xL K x lo hi H Q∨Dy x lo hi H Q
abbrev sy(K:Za):List V->Hp->VK->Prop:=fun xs H Q=>∃x c t b,xs=[x,.ty c]/\I0 K H x t/\BQ K t (.type c)=some b/\Q (.bl b) H
abbrev Hk(K:Za):List V->Hp->VK->Prop:=fun xs H Q=>∃(p:Addr) (bs:List Bool),xs=[.ref p]/\au K H p (bs.map V.bl)/\Q (.bl (bs.all id)) H
abbrev Jv(K:Za):List V->Hp->VK->Prop:=fun xs H Q=>∃(p:Addr) (bs:List Bool),xs=[.ref p]/\au K H p (bs.map V.bl)/\Q (.bl (bs.any id)) H
abbrev Cc(K:Za):List V->Hp->VK->Prop:=fun xs H Q=>∃p ys,xs=[.ref p]/\((au K H p ys/\∀l,H l=none->Q (.ref l) (upd H l (.tup ys)))∨(br K H p ys/\Q (.ref p) H))
abbrev Hj(K:Za):List V->Hp->VK->Prop:=fun xs H Q=>∃(l:Addr) (ts:Ze) (kvs:List (fu×V)),xs=[.ref l]/\au K H l (ts.map V.ref)/\ts.length=kvs.length /\
  (∀(j:Nat) (t:Addr) (kv:fu×V),ts[j]?=some t->kvs[j]?=some kv->H t=some (.tup [kV kv.1,kv.2]))/\∀p,H p=none->Q (.ref p) (upd H p (.dK (jE [] kvs)))
abbrev dF(K:Za):List V->Hp->VK->Prop:=fun xs H Q =>
 (∃p ys,xs=[.ref p]/\(au K H p ys∨br K H p ys)/\∀l,H l=none->Q (.ref l) (upd H l (.lst ys))) ∨
 (∃(d:Addr) (kvs:List (fu×V)),xs=[.ref d]/\Rd H d (.dK kvs)/\∀l,H l=none->Q (.ref l) (upd H l (.lst (kvs.map fun kv=>kV kv.1))))
abbrev fV(K:Za):List V->Hp->VK->Prop:=fun xs H Q =>
 (∃p ys,xs=[.ref p]/\(au K H p ys∨br K H p ys)/\Q (.int ys.length) H)∨(∃z,xs=[.str z]/\z.length<=aj/\Q (.int z.length) H)
theorem eB:ji "isinstance"=some (.builtin "isinstance"):=by decide +kernel
theorem oh:ji "list"=some (.type "list"):=by decide +kernel
theorem ig:ji "tuple"=some (.type "tuple"):=by decide +kernel
theorem uR:ji "dict"=some (.type "dict"):=by decide +kernel
theorem Bw:ji "bool"=some (.type "bool"):=by decide +kernel
theorem Eh:ji "int"=some (.type "int"):=by decide +kernel
theorem Eg:ji "str"=some (.type "str"):=by decide +kernel
section
variable{X:Cx}{p pos:Pos}
theorem Ef:fU X (.builtin "len") (fV X.K):=ym.or yk
theorem Bv(a:X.calm=true):fU X (.type "list") (dF X.K):=yj.or (uQ a)
theorem nY(a:Gl X "bool")(e:X.mg "bool"=none):PE X (.Name "bool" pos) (tC (.ty "bool")):=pK a e Bw rfl
theorem vV(a:Gl X "int")(e:X.mg "int"=none):PE X (.Name "int" pos) (tC (.ty "int")):=pK a e Eh rfl
theorem vU(a:Gl X "str")(e:X.mg "str"=none):PE X (.Name "str" pos) (tC (.ty "str")):=pK a e Eg rfl
theorem ur(a:Gl X "list")(e:X.mg "list"=none):PE X (.Name "list" pos) (tC (.ty "list")):=pK a e oh rfl
theorem lQ(a:Gl X "tuple")(e:X.mg "tuple"=none):PE X (.Name "tuple" pos) (tC (.ty "tuple")):=pK a e ig rfl
end
def Gc(mg:Str->Option Value)(x:Str)(v:V):Prop:=∃u,mg x=some u/\RelV v u
theorem gA{X:Cx}{x:Str}{v:V}{a:Pos}(e:Gl X x)(h:Gc X.mg x v)(f:(x==("__debug__":Str))=false:=by decide):PE X (.Name x a) (tC v):=by
 obtain⟨u,g,r⟩:=h;exact Hr e g r f
structure fW(P:bP)(w:World)(K:Za)(mg:Str->Option Value)(base:Heap)(x:Str)(ps:Zb)(k:Nat)(sp:Sp):Prop where
 ex:∃f fd,l_ P w K mg base CX0 k f fd ps sp/\mg x=some (.ref f)/\jK K (.ref f)=true/\Binds K fd ps []
structure New(P:bP)(w:World)(K:Za)(mg:Str->Option Value)(base:Heap)(x:Str)(C:Addr)(ps:Zb)(k:Nat)(sp:Sp):Prop where
 ex:∃f fd,l_ P w K mg base CX0 k f fd ps sp/\mg x=some (.ref C)/\Mk K C f/\Binds K fd ps []
structure Ep(P:bP)(w:World)(K:Za)(mg:Str->Option Value)(base:Heap)(C:Addr)(m:Str)(ps:Zb)(k:Nat)(sp:Sp):Prop where
 ex:∃f fd,l_ P w K mg base CX0 k f fd ps sp/\Er K C/\HS K C m f/\Binds K fd ps []
section
variable{X:Cx}{k:Nat}{ps:Zb}{sp:Sp}{x m:Str}{C:Addr}{p pos J6:Pos}{o e:Expr}{es:List Expr}{t:TA}{ta:TE}
theorem Ic(D:fW X.prog X.w X.K X.mg X.base x ps k sp)(h:eV k X.A)(i:Gl X x)(j:PA X (e::es) t)(a:(x==("__debug__":Str))=false:=by decide)
  (l:aQ (e::es) X.env=(false,eval e X.env)::aQ es X.env:=by rfl) (g:(backTo pos (aQ es X.env)).any (·.1)=false:=by rfl) :
  PE X (.Call (.Name x p) (e::es) [] pos) (aN sp t):=by
 obtain⟨f,s,F,n,q,r⟩:=D.ex;exact Ht F h i n q r .nil Ck j a l g
theorem FE(D:New X.prog X.w X.K X.mg X.base x C ps k sp)(h:eV (k+1) X.A)(i:Gl X x)(j:PA X (e::es) t)(a:(x==("__debug__":Str))=false:=by decide)
  (l:aQ (e::es) X.env=(false,eval e X.env)::aQ es X.env:=by rfl) (g:(backTo pos (aQ es X.env)).any (·.1)=false:=by rfl) :
  PE X (.Call (.Name x p) (e::es) [] pos) (Cb C sp [] E0 t):=by
 obtain⟨f,r,F,n,M,q⟩:=D.ex;exact Hq M F h i n q .nil Ck j a l g
theorem IJ{pl:Sem Bool}(M:Ep X.prog X.w X.K X.mg X.base C m ps k sp)(i:eV k X.A)(j:PE X o ta)(l:PA X (e::es) t)
  (a:aQ (e::es) X.env=(false,eval e X.env)::aQ es X.env:=by rfl) (g:(backTo pos (aQ es X.env)).any (·.1)=false:=by rfl)
  (n:eval (.Call (.Attribute o m J6) (e::es) [] pos) X.env=(do
   let h <- eval o X.env
   rE J6.atName
   let(f,first) <- kP [h] (rB h m pl)
   vF pos f first (backTo pos (aQ (e::es) X.env)) (rA pos (rq [] X.env))):=by rfl) :
  PE X (.Call (.Attribute o m J6) (e::es) [] pos) (bR C m sp [] E0 ta t):=by
 obtain⟨f,s,F,c,q,r⟩:=M.ex;exact Ho j c q F i r .nil Ck l a g n
theorem Hn{pl:Sem Bool}(M:Ep X.prog X.w X.K X.mg X.base C m ps k sp)(g:eV k X.A)(h:PE X o ta)
  (i:eval (.Call (.Attribute o m J6) [] [] pos) X.env=(do
   let a <- eval o X.env
   rE J6.atName
   let(f,first) <- kP [a] (rB a m pl)
   vF pos f first (backTo pos (aQ [] X.env)) (rA pos (rq [] X.env))):=by rfl) :
  PE X (.Call (.Attribute o m J6) [] [] pos) (bR C m sp [] E0 ta aY):=by
 obtain⟨f,n,F,c,j,l⟩:=M.ex;exact FF h c j F g l .nil Ck i
end
def JC(K:Za)(tl:TE):TI:=fun σ H R=>tl σ H fun x H1=>∃a,x=.ref a/\(((∃xs,au K H1 a xs)/\R (CQ K a) H1)∨((∃xs,br K H1 a xs)/\R (Jc K a) H1))
theorem IF{X:Cx}{u l:Expr}{r:TE}(y:PE X l r):PI X u l (JC X.K r):=by
 intro t s σ H R I h;refine dk (y t s σ H _ I h) fun v f j=>?_;obtain⟨x,k,g,z,A⟩:=j;obtain⟨a,e,q⟩:=A;subst e;cases z;have i:∀b∈[f.heap.objs.size],mW X t k b:=fun b B=>by
  have e:b=f.heap.objs.size:=by simpa using B
  subst e;exact g.fpOk (aP _) (g.hok.fresh (aP _))
 rcases q with⟨⟨C,m⟩,q⟩|⟨⟨C,m⟩,q⟩
 ·obtain⟨n,D,p,E⟩:=g.list m;refine tw p.isList ?_;exact⟨f.heap.objs.size,[f.heap.objs.size],_,_,k,rfl,g.kept (t':=f.toks) fun b o e=>aO _ e,vN a _,⟨_,cu _ rfl,rfl,rfl⟩,i,q⟩
 ·obtain⟨n,D,p,E⟩:=g.tuple m;refine yR p ?_;exact⟨f.heap.objs.size,[f.heap.objs.size],_,_,k,rfl,g.kept (t':=f.toks) fun b o e=>aO _ e,tZ a _,⟨_,cu _ rfl,rfl,rfl⟩,i,q⟩
theorem l5{K:Za}{a:Addr}{xs:List V}{g:TG}{k:TS}{D:oE}{σ:St}{H:Hp}(Pv:Nat->St->Hp->Prop)(n:Pv 0 σ H)(o:∀i σ H,i<=xs.length->Pv i σ H->au K H a xs)
  (r:∀i x σ H p,xs[i]?=some x->Pv i σ H->H p=none->g (.ref p) σ (upd H p (.tup [.int i,x])) fun σ2 j=>k { D with nx:=Pv (i+1),ct:=Pv (i+1),bk:=D.nx } σ2 j) (s:∀σ H,Pv xs.length σ H->D.nx σ H) :
  ∃W:Nat->Nat->St->Hp->Prop,(∃m,W 0 m σ H)/\∀i m σ H,W i m σ H ->
   ((Jl K a).stop i H/\D.nx σ H)∨((Jl K a).go i H/\∃N:St->Hp->Prop,(∀σ' f,N σ' f->∃l,l<m/\W (i+1) l σ' f)/\∀x f,(Jl K a).yld i H x f->g x σ f fun σ2 j=>k { D with nx:=N,ct:=N,bk:=D.nx } σ2 j):=by
 refine⟨fun i m σ H=>m=xs.length-i/\i<=xs.length/\Pv i σ H,⟨xs.length,by simp,c7 _,n⟩,?_⟩;rintro i m σ H ⟨rfl,hi,p⟩;have q:=o i σ H hi p;by_cases h:i<xs.length
 ·refine .inr ⟨⟨xs,xs[i],q,by simp[h]⟩,Pv (i+1),fun σ' f u=>⟨xs.length-(i+1),by omega,rfl,h,u⟩,fun x f y=>?_⟩;obtain⟨t,v,rfl,z,A,rfl⟩:=y;exact r i v σ H t (A xs q) p z
 ·have e:i=xs.length:=by omega
  subst e;exact .inl ⟨⟨xs,q,aP _⟩,s σ H p⟩
def Wc(n:Nat)(Pv:Nat->List V->Hp->Prop):Nat->Nat->List V->Hp->Prop:=fun i m vs H=>m=n-i/\i<=n/\Pv i vs H
theorem jo{n i:Nat}{Pv:Nat->List V->Hp->Prop}{a:List V}{H:Hp}(hi:i<n)(p:Pv (i+1) a H):∃e,e<n-i/\Wc n Pv (i+1) e a H:=⟨n-(i+1),by omega,rfl,hi,p⟩
abbrev cW(k:Nat)(fi:List Nat)(σ:St)(J:It)(g:TG)(tc:TT)(te:TE)(H1:Hp)(l:Addr)(Q:Hp->Prop):Prop :=
 ∃W:Nat->Nat->List V->Hp->Prop,(∃m,W 0 m [] (upd H1 l (.lst [])))/\∀i m vs H2,W i m vs H2->H2 l=some (.lst vs) /\
  ((J.stop i H2/\Q H2)∨(J.go i H2/\∀x H3,J.yld i H2 x H3->g x (cH k fi σ) H3 fun σ2 H4=>tc σ2 H4 fun b H5 =>
   if b=true then te σ2 H5 fun v H6=>H6 l=some (.lst vs)/\vs.length<aj/\∃m',m'<m/\W (i+1) m' (vs++[v]) (upd H6 l (.lst (vs++[v])))else ∃m',m'<m/\W (i+1) m' vs H5))
theorem jb{k:Nat}{r:List Nat}{J:It}{g:TG}{s:TT}{t:TE}{σ:St}{u:Hp}{Q:Hp->Prop}{l:Addr}(n:Nat)(Pv:Nat->List V->Hp->Prop)(B:Pv 0 [] (upd u l (.lst [])))
  (C:∀i a H,i<=n->Pv i a H->H l=some (.lst a)) (o:∀i a H,i<n->Pv i a H->J.go i H) (q:∀a H,Pv n a H->J.stop n H/\Q H)
  (D:∀i a H x j,i<n->Pv i a H->J.yld i H x j->g x (cH k r σ) j fun σ2 E=>s σ2 E fun b z =>
   if b=true then t σ2 z fun v A=>A l=some (.lst a)/\a.length<aj/\∃f,f<n-i/\Wc n Pv (i+1) f (a++[v]) (upd A l (.lst (a++[v])))else ∃f,f<n-i/\Wc n Pv (i+1) f a z) :
  cW k r σ J g s t u l Q:=by
 refine⟨Wc n Pv,⟨n,by simp[Wc],c7 _,B⟩,?_⟩;rintro i m a H ⟨rfl,hi,p⟩;refine⟨C i a H hi p,?_⟩;by_cases h:i<n
 ·exact .inr ⟨o i a H h p,fun x j y=>D i a H x j h p y⟩
 ·have e:i=n:=by omega
  subst e;exact .inl (q a H p)
section
variable{K:Za}{k:Nat}{fi:List Nat}{g:TG}{tc:TT}{te:TE}{σ:St}{H1:Hp}{Q:Hp->Prop}{l:Addr}
theorem bD{a:Addr}{xs:List V}(Pv:Nat->List V->Hp->Prop)(n:Pv 0 [] (upd H1 l (.lst [])))
  (h:∀i e H,i<=xs.length->Pv i e H->H l=some (.lst e)/\au K H a xs) (o:∀e H,Pv xs.length e H->Q H)
  (q:∀i e H x,xs[i]?=some x->i<xs.length->Pv i e H->g x (cH k fi σ) H fun σ2 r=>tc σ2 r fun b j =>
   if b=true then te σ2 j fun v m=>m l=some (.lst e)/\e.length<aj/\∃f,f<xs.length-i/\Wc xs.length Pv (i+1) f (e++[v]) (upd m l (.lst (e++[v])))else ∃f,f<xs.length-i/\Wc xs.length Pv (i+1) f e j) :
  cW k fi σ (CQ K a) g tc te H1 l Q:=by
 refine jb xs.length Pv n (fun i e H hi p=>(h i e H hi p).1) (fun i e H hi p=>⟨xs,xs[i],(h i e H (cV hi) p).2,by simp[hi]⟩) (fun e H p=>⟨⟨xs,(h _ e H (aP _) p).2,aP _⟩,o e H p⟩) fun i e H x s hi p y=>?_;obtain⟨rfl,y⟩:=y;exact q i e _ x (y xs (h i e _ (cV hi) p).2) hi p
theorem uK{a:Addr}{xs:List V}(Pv:Nat->List V->Hp->Prop)(n:Pv 0 [] (upd H1 l (.lst [])))
  (h:∀i e H,i<=xs.length->Pv i e H->H l=some (.lst e)/\br K H a xs) (o:∀e H,Pv xs.length e H->Q H)
  (q:∀i e H x,xs[i]?=some x->i<xs.length->Pv i e H->g x (cH k fi σ) H fun σ2 r=>tc σ2 r fun b j =>
   if b=true then te σ2 j fun v m=>m l=some (.lst e)/\e.length<aj/\∃f,f<xs.length-i/\Wc xs.length Pv (i+1) f (e++[v]) (upd m l (.lst (e++[v])))else ∃f,f<xs.length-i/\Wc xs.length Pv (i+1) f e j) :
  cW k fi σ (Jc K a) g tc te H1 l Q:=by
 refine jb xs.length Pv n (fun i e H hi p=>(h i e H hi p).1) (fun i e H hi p=>⟨xs,xs[i],(h i e H (cV hi) p).2,by simp[hi]⟩) (fun e H p=>⟨⟨xs,(h _ e H (aP _) p).2,aP _⟩,o e H p⟩) fun i e H x s hi p y=>?_;obtain⟨rfl,y⟩:=y;exact q i e _ x (y xs (h i e _ (cV hi) p).2) hi p
theorem Bs{lo:Int}{n:Nat}(Pv:Nat->List V->Hp->Prop)(j:Pv 0 [] (upd H1 l (.lst [])))
  (m:∀i a H,i<=n->Pv i a H->H l=some (.lst a)) (o:∀a H,Pv n a H->Q H)
  (q:∀i a H,i<n->Pv i a H->g (.int (lo+i)) (cH k fi σ) H fun σ2 r=>tc σ2 r fun b f =>
   if b=true then te σ2 f fun v h=>h l=some (.lst a)/\a.length<aj/\∃e,e<n-i/\Wc n Pv (i+1) e (a++[v]) (upd h l (.lst (a++[v])))else ∃e,e<n-i/\Wc n Pv (i+1) e a f) :
  cW k fi σ (Jd lo n) g tc te H1 l Q:=by
 refine jb n Pv j m (fun i a H hi p=>hi) (fun a H p=>⟨aP _,o a H p⟩) fun i a H x s hi p y=>?_;obtain⟨rfl,rfl⟩:=y;exact q i a _ hi p
theorem Go{x:Str}(Pv:Nat->List V->Hp->Prop)(j:Pv 0 [] (upd H1 l (.lst [])))
  (m:∀i a H,i<=x.cps.size->Pv i a H->H l=some (.lst a)) (n:∀a H,Pv x.cps.size a H->Q H)
  (o:∀i a H c,x.cps[i]?=some c->i<x.cps.size->Pv i a H->g (.str ⟨#[c]⟩) (cH k fi σ) H fun σ2 q=>tc σ2 q fun b f =>
   if b=true then te σ2 f fun v h=>h l=some (.lst a)/\a.length<aj/\∃e,e<x.cps.size-i/\Wc x.cps.size Pv (i+1) e (a++[v]) (upd h l (.lst (a++[v])))else ∃e,e<x.cps.size-i/\Wc x.cps.size Pv (i+1) e a f) :
  cW k fi σ (Kk x) g tc te H1 l Q:=by
 refine jb x.cps.size Pv j m (fun i a H hi p=>hi) (fun a H p=>⟨aP _,n a H p⟩) fun i a H y t hi p r=>?_;obtain⟨rfl,c,s,rfl⟩:=r;exact o i a _ c s hi p
end
theorem gN{j:Nat}{x:V}{σ:St}{H:Hp}{Q:St->Hp->Prop}(h:Q (σ.set j (some x)) H):dX j x σ H Q:=h
theorem nM{σ:St}{H:Hp}{A B:Hp->Prop}(h:A H):ip σ H (fun b a=>if b=true then A a else B a):=by
 show(if(true:Bool)=true then A H else B H)
 exact h
inductive Ew{T0 T1:Type}(P:T0->T1->Prop):Prop
 |mk (x0:T0) (x1:T1):P x0 x1->Ew P
inductive HR{T0 T1 T2:Type}(P:T0->T1->T2->Prop):Prop
 |mk (x0:T0) (x1:T1) (x2:T2):P x0 x1 x2->HR P
inductive Jj{T0 T1 T2 T3:Type}(P:T0->T1->T2->T3->Prop):Prop
 |mk (x0:T0) (x1:T1) (x2:T2) (x3:T3):P x0 x1 x2 x3->Jj P
inductive NE6{T0 T1 T2 T3 T4 T5:Type}(P:T0->T1->T2->T3->T4->T5->Prop):Prop
 |mk (x0:T0) (x1:T1) (x2:T2) (x3:T3) (x4:T4) (x5:T5):P x0 x1 x2 x3 x4 x5->NE6 P
inductive Kh(p0 p1 p2:Prop):Prop
 |mk:p0->p1->p2->Kh p0 p1 p2
inductive Iy(p0 p1 p2 p3:Prop):Prop
 |mk:p0->p1->p2->p3->Iy p0 p1 p2 p3
inductive GA(p0 p1 p2 p3 p4:Prop):Prop
 |mk:p0->p1->p2->p3->p4->GA p0 p1 p2 p3 p4
inductive JM(p0 p1 p2 p3 p4 p5:Prop):Prop
 |mk:p0->p1->p2->p3->p4->p5->JM p0 p1 p2 p3 p4 p5
inductive NA7(p0 p1 p2 p3 p4 p5 p6:Prop):Prop
 |mk:p0->p1->p2->p3->p4->p5->p6->NA7 p0 p1 p2 p3 p4 p5 p6
end L2
namespace L2
open PySem PySem.W
theorem vP{K:Za}{H:Hp}:∀a:List Str,TKCs K H (a.map fun x=>TK.k (some (.inr x))) (a.map V.str)
 |[]=>by show TKCs K H [] [];unfold TKCs;rfl
 |x::a=>by
  rw[cg,cg];unfold TKCs;refine⟨_,_,rfl,?_,vP a⟩;unfold rW
  rfl
theorem EL{K:Za}{H:Hp}{a:Addr}{xs:Zb}(h:eC K H a (xs.map V.str)):rW K H (.t (xs.map fun x=>TK.k (some (.inr x)))) (.ref a):=by
 unfold rW;exact⟨a,_,rfl,h,vP xs⟩
end L2
end

section
set_option Elab.async false
set_option linter.all false
set_option maxRecDepth 100000
namespace L2
open PySem PySem.Spec PyProof.Rows PySem.W
def HW:Expr->List Str
 |.Name x _=>[x]
 |.Tuple es _ _=>es.filterMap fun e=>match e with | .Name x _=>some x|_=>none
 |_=>[]
theorem bK{X:Cx}{b:List Stmt}{t:TS}{D:oE}{σ:St}{H:Hp}(r:t D σ H)(p:Ax X b t):∃t,Ax X b t/\t D σ H:=⟨t,p,r⟩
section
variable{X:Cx}{k k0:Nat}{ps:Zb}{sp:Sp}{x m:Str}{C:Addr}{p pos J6:Pos}{o e a b:Expr}{es:List Expr}{t:TA}{ta tb te:TE}
theorem qf(h:eV k0 X.A)(D:fW X.prog X.w X.K X.mg X.base x ps k sp)(i:PA X (e::es) t)(j:k<=k0:=by decide)(l:Gl X x:=by rfl)(f:(x==("__debug__":Str))=false:=by decide)
  (n:aQ (e::es) X.env=(false,eval e X.env)::aQ es X.env:=by rfl) (g:(backTo pos (aQ es X.env)).any (·.1)=false:=by rfl) :
  PE X (.Call (.Name x p) (e::es) [] pos) (aN sp t):=Ic D (h.mono j) l i f n g
theorem qm{pl:Sem Bool}(j:eV k0 X.A)(M:Ep X.prog X.w X.K X.mg X.base C m ps k sp)(l:PE X o ta)(n:PA X (e::es) t)(q:k<=k0:=by decide)
  (g:aQ (e::es) X.env=(false,eval e X.env)::aQ es X.env:=by rfl) (h:(backTo pos (aQ es X.env)).any (·.1)=false:=by rfl)
  (r:eval (.Call (.Attribute o m J6) (e::es) [] pos) X.env=(do
   let i <- eval o X.env
   rE J6.atName
   let(f,first) <- kP [i] (rB i m pl)
   vF pos f first (backTo pos (aQ (e::es) X.env)) (rA pos (rq [] X.env))):=by rfl) :
  PE X (.Call (.Attribute o m J6) (e::es) [] pos) (bR C m sp [] E0 ta t):=IJ (pl:=pl) M (j.mono q) l n g h r
theorem pD{pl:Sem Bool}(h:eV k0 X.A)(M:Ep X.prog X.w X.K X.mg X.base C m ps k sp)(i:PE X o ta)(j:k<=k0:=by decide)
  (l:eval (.Call (.Attribute o m J6) [] [] pos) X.env=(do
   let g <- eval o X.env
   rE J6.atName
   let(f,first) <- kP [g] (rB g m pl)
   vF pos f first (backTo pos (aQ [] X.env)) (rA pos (rq [] X.env))):=by rfl) :
  PE X (.Call (.Attribute o m J6) [] [] pos) (bR C m sp [] E0 ta aY):=Hn (pl:=pl) M (h.mono j) i l
theorem xl(f:PE X a ta)(g:PE X b tb)(h:El b:=by exact fun _ _=>rfl):PE X (.Subscript a b pos) (aK (dH X.K) ta tb):=Ci Cr f g h
theorem xt(f:PE X a ta)(g:PE X b tb)(h:El b:=by exact fun _ _=>rfl):PE X (.Subscript a b pos) (aK (ui X.K) ta tb):=Ci FU f g h
theorem xq(f:PE X a ta)(g:PE X b tb)(h:El b:=by exact fun _ _=>rfl):PE X (.Subscript a b pos) (aK (ij X.K) ta tb):=Ci IT f g h
theorem xs'(f:PE X a ta)(g:PE X b tb)(h:El b:=by exact fun _ _=>rfl):PE X (.Subscript a b pos) (aK A7 ta tb):=Ci FV f g h
theorem k3{f:CmpOp}{r:R2}(g:oK X (eZ f) r)(h:PE X a ta)(i:PE X b tb)(j:kQ f b=false:=by exact FM _):PT X (.Compare a [f] [b] pos) (bj (aK r ta tb)):=Cf g h i j
theorem Ev{f:CmpOp}{r:R2}(g:oK X (eZ f) r)(h:PE X a ta)(i:PE X b tb)(j:kQ f b=false:=by exact FM _):PE X (.Compare a [f] [b] pos) (aK r ta tb):=Cj g h i j
theorem Aw{f:CmpOp}{r:R2}(g:oK X (eZ f) r)(h:PE X a ta)(i:PE X b tb)(j:kQ f b=false:=by with_unfolding_all rfl):PT X (.Compare a [f] [b] pos) (bj (aK r ta tb)):=Cf g h i j
theorem eci{f:CmpOp}{r:R2}(g:oK X (eZ f) r)(h:PE X a ta)(i:PE X b tb)(j:kQ f b=false:=by with_unfolding_all rfl):PE X (.Compare a [f] [b] pos) (aK r ta tb):=Cj g h i j
theorem qB{id:String}{r:List V->Hp->VK->Prop}(h:fU X (.builtin id) r)(i:X.mg x=none)(j:ji x=some (.builtin id))(l:PA X (e::es) t)(n:Gl X x:=by rfl)(q:x≠"__name__":=by decide)(f:(x==("__debug__":Str))=false:=by decide)
  (s:aQ (e::es) X.env=(false,eval e X.env)::aQ es X.env:=by rfl) (g:(backTo pos (aQ es X.env)).any (·.1)=false:=by rfl):PE X (.Call (.Name x p) (e::es) [] pos) (eE r t):=zM h n i j l q f s g
theorem qL(g:X.calm=true)(h:X.mg "list"=none)(i:PA X (e::es) t)(j:Gl X "list":=by rfl)
  (l:aQ (e::es) X.env=(false,eval e X.env)::aQ es X.env:=by rfl) (f:(backTo pos (aQ es X.env)).any (·.1)=false:=by rfl):PE X (.Call (.Name "list" p) (e::es) [] pos) (eE (dF X.K) t):=gH (Bv g) j h oh i (by decide) (by decide) l f
theorem ql(g:X.mg "len"=none)(h:PA X (e::es) t)(i:Gl X "len":=by rfl)
  (j:aQ (e::es) X.env=(false,eval e X.env)::aQ es X.env:=by rfl) (f:(backTo pos (aQ es X.env)).any (·.1)=false:=by rfl):PE X (.Call (.Name "len" p) (e::es) [] pos) (eE (fV X.K) t):=zM Ef i g PySem.boot_len h (by decide) (by decide) j f
theorem qs(i:Nat){f:Pos}(g:X.N.Nodup)(h:PE X e te)(hi:X.N[i]?=some x:=by rfl)(hx:Loc X.env.scope x:=by first|exact Or.inl rfl|exact Or.inr rfl)(j:tD e (some (.Name x f)) pos.line X.env=pure false:=by rfl)(hf:X.fn x=true∨X.env.scope.names.lookup x=some .local:=by first|exact .inl rfl|exact .inr rfl|assumption):
  PS X (.Assign [.Name x f] e pos) (bf te (dX i)):=FA g hi hx h j hf
theorem gn(i:Nat)(f:X.N.Nodup)(hi:X.N[i]?=some x:=by rfl)(hx:Loc X.env.scope x:=by first|exact Or.inl rfl|exact Or.inr rfl)(hf:X.fn x=true∨X.env.scope.names.lookup x=some .local:=by first|exact .inl rfl|exact .inr rfl|assumption):PG X (.Name x pos) (dX i):=Ch f hi hx hf
theorem gc(i:Nat)(f:X.N.Nodup:=by exact of_decide_eq_true (by with_unfolding_all rfl))(hi:X.N[i]?=some x:=by rfl)(hx:Loc X.env.scope x:=by exact Or.inl rfl)(hf:X.fn x=true∨X.env.scope.names.lookup x=some .local:=by first|exact .inl rfl|exact .inr rfl|assumption):PG X (.Name x pos) (dX i):=Ch f hi hx hf
theorem a1(f:PE X a ta)(g:aQ [a] X.env=(false,eval a X.env)::aQ [] X.env:=by rfl):PA X [a] (ar ta aY):=bc f bd g
theorem a2(g:PE X a ta)(h:PE X b tb)(i:aQ [a,b] X.env=(false,eval a X.env)::aQ [b] X.env:=by rfl)(f:aQ [b] X.env=(false,eval b X.env)::aQ [] X.env:=by rfl):PA X [a,b] (ar ta (ar tb aY)):=bc g (bc h bd f) i
theorem a3{c:Expr}{h:TE}(i:PE X a ta)(j:PE X b tb)(l:PE X c h)(n:aQ [a,b,c] X.env=(false,eval a X.env)::aQ [b,c] X.env:=by rfl)(f:aQ [b,c] X.env=(false,eval b X.env)::aQ [c] X.env:=by rfl)(g:aQ [c] X.env=(false,eval c X.env)::aQ [] X.env:=by rfl):PA X [a,b,c] (ar ta (ar tb (ar h aY))):=bc i (a2 j l f g) n
variable{elt iter tg:Expr}{ifs:List Expr}{scope:Scope}{fi:List Nat}{wi:TI}{g:TG}{tc:TT}
theorem qc(hi:PI X tg iter wi)(q:Am k g)
  (h:∀C l f j ex n,PG (eg X (HW tg++fi.map fun i=>X.N.getD i "") scope C l f j ex n) tg g/\Ix (eg X (HW tg++fi.map fun i=>X.N.getD i "") scope C l f j ex n) ifs tc/\PE (eg X (HW tg++fi.map fun i=>X.N.getD i "") scope C l f j ex n) elt te)
  (r:mH X.env.scope scope k (HW tg++fi.map fun i=>X.N.getD i "") X.N fi=true:=by with_unfolding_all rfl) (s:X.calm=true:=by rfl)
  (u:∀x,yQ iter X.env x=pure x:=by intro _;rfl):PE X (.ListComp elt [⟨tg,iter,ifs,0⟩] scope pos) (cv k fi wi g tc te) :=
 Hs r s hi (fun _ _ _ _ _ _=>(h _ _ _ _ _ _).1) q (fun _ _ _ _ _ _=>(h _ _ _ _ _ _).2.1) (fun _ _ _ _ _ _=>(h _ _ _ _ _ _).2.2) u
theorem Jw(j:Nat){y:Str}{n u:Pos}(v:X.N.Nodup)(hi:PI X tg iter wi)(z:Am k g)
  (h:∀C q f l ex r,PG (eg X (HW tg++fi.map fun i=>X.N.getD i "") scope C q f l ex r) tg g/\Ix (eg X (HW tg++fi.map fun i=>X.N.getD i "") scope C q f l ex r) ifs tc/\PE (eg X (HW tg++fi.map fun i=>X.N.getD i "") scope C q f l ex r) elt te)
  (A:X.N[j]?=some y:=by rfl) (B:Loc X.env.scope y:=by first|exact Or.inl rfl|exact Or.inr rfl)
  (D:mH X.env.scope scope k (HW tg++fi.map fun i=>X.N.getD i "") X.N fi=true:=by with_unfolding_all rfl) (E:X.calm=true:=by rfl)
  (s:tD (.ListComp elt [⟨tg,iter,ifs,0⟩] scope pos) (some (.Name y u)) n.line X.env=pure true:=by rfl)
  (G:∀x,yQ iter X.env x=pure x:=by intro _;rfl) (hf:X.fn y=true∨X.env.scope.names.lookup y=some .local:=by first|exact .inl rfl|exact .inr rfl|assumption) :
  PS X (.Assign [.Name y u] (.ListComp elt [⟨tg,iter,ifs,0⟩] scope pos) n) (bf (cv k fi wi g tc te) (dX j)) :=
 A9 v A B D E hi (fun _ _ _ _ _ _=>(h _ _ _ _ _ _).1) z (fun _ _ _ _ _ _=>(h _ _ _ _ _ _).2.1) (fun _ _ _ _ _ _=>(h _ _ _ _ _ _).2.2) s G hf
end
end L2
end

section
set_option Elab.async false
set_option linter.all false
set_option maxRecDepth 100000
namespace L2
open PySem PySem.Spec PyProof.Rows
theorem DE{α β:Type}{F:α->β->Prop}{e:List α}{f:List β}(g:Paired F e f){i:Nat}{a:α}{b:β}(h:e[i]?=some a)(j:f[i]?=some b):F a b:=by
 induction g generalizing i with
 |nil=>cases h
 |cons r _ k =>
  cases i with
  |zero=>injection h with h;injection j with j;subst h j;exact r
  |succ i=>exact k h j
structure oo(h:Heap)(d:Addr)(es:Array iU)(ep:Nat):Prop where
 ex:∃o,h.get? d=some o/\o.ExactDict/\o.data=.dict es ep
section
variable{prog:bP}{w:World}{A:Around}{E:Zc}{s:Shared}{d v it:Addr}{es:Array iU}{ep i:Nat}
theorem oo.ty(h:oo s.heap d es ep):s.TypeIs (.ref d) "dict":=let⟨o,a,e,_⟩:=h.ex;⟨o,a,e.1⟩
end
structure Jf(P:bP)(w:World)(K:Za)(d:Addr)(o:Obj)(u:HO)(n:Nat)(ent:Nat->Hp->V->V->Prop)(es:Array iU)(ep:Nat):Prop where
 ex:o.ExactDict
 dat:o.data=.dict es ep
 sz:es.size=n
 get:∀{H:Hp}{h:Heap}{i:Nat}(hi:i<es.size),mK P w K H h->H d=some (.frz o u)->∃a b,ent i H a b/\RelV a es[i].key/\RelV b es[i].val
def IV(K:Za)(kvs:List (TK×V)):Nat->Hp->V->V->Prop:=fun i H a b=>∃k,kvs[i]?=some (k,b)/\rW K H k a
theorem v_{P:bP}{w:World}{K:Za}{H:Hp}{h:Heap}{d:Addr}{o:Obj}{f:List (TK×V)}(s:mK P w K H h)(e:H d=some (.frz o (.dT f))):
  (d==hW)=false/\∃es t,Jf P w K d o (.dT f) f.length (IV K f) es t:=by
 obtain⟨g,z,n,D,u,Y,es,t,p,ex,y,v,nd⟩:=(show cq P w K H h d (.frz o (.dT f))from s d _ e);rw[g]at p;cases p;have E:es.size=D.length:=by rw[<-k9,v,ag]
 refine⟨n,es,t,ex,y,by rw[E,Paired.length u],fun{G I i} hi q J=>?_⟩;obtain⟨L,z',x,xs',j,M,N,O,k,Q,r,l,T⟩:=(show cq P w K G I d (.frz o (.dT f))from q d _ J);rw[L]at k;cases k;rw[y]at r;cases r;have U:es.size=xs'.length:=by rw[<-k9,l,ag]
 have m:i<xs'.length:=by omega
 have A:i<f.length:=by rw[Paired.length j];exact m
 have B:=DE j (i:=i) (a:=f[i]) (b:=xs'[i]) (by simp[A]) (by simp[m]);have C:es[i]=BX (bL P w) xs'[i]:=by
  have:es.toList[i]?=some es[i]:=by simp[hi]
  rw[l,du,ik m]at this;injection this with this;exact this.symm
 refine⟨.ref xs'[i].2.1,f[i].2,⟨f[i].1,by simp[A],B.2.1⟩,?_,?_⟩
 ·rw[C];exact rfl
 ·rw[C];exact B.2.2.2
section
variable{prog:bP}{w:World}{A:Around}{E:Zc}{s:Shared}{d v it:Addr}{es:Array iU}{ep i:Nat}
theorem A6{Q:Zc}(h:oo s.heap d es ep)(a:(d==hW)=false)(q:Q (.ref s.heap.objs.size) { s with heap:=s.heap.push { cls:=.type "dict_values",data:=.fields #[.ref d] } }):
  wpAny (model prog w) A (call (.builtin "dict.values") [.ref d]) Q E s:=by
 refine nk F.slot_dict_values h.ty F.entry_dict_values ?_ (F.args_dict_values_1 _);refine ai ?_;unfold c9.Dict.noArgs;refine ai <| tL h.ty <| ?_;refine aG (show wpAny _ _ (wG d >>= _) _ _ s from ?_);unfold wG;rw[if_neg (fun z=>by rw[a]at z;cases z)];exact ai <| aG <| ai <| jy <| aG ⟨_,rfl,q⟩
theorem Dv{Q:Option Value->Shared->Prop}(j:s.heap.IsValIter it d i es.size ep)(h:oo s.heap d es ep)(hi:i<es.size)
  (q:∀k,k.IsValIter it d (i+1) es.size ep->gy it s.heap k->Q (some es[i].val) { s with heap:=k }):wpAny (model prog w) A (pyNext (.ref it)) Q E s:=by
 obtain⟨r,f,l,a⟩:=id j;obtain⟨o,m,hx,e⟩:=h.ex;have g:=j.typeIs;unfold pyNext;refine ai <| lh <| jx (name:=jw "__next__") g tI <| nk tI g F.entry_dict_valueiterator_next ?_ (F.args_dict_valueiterator_next_1 _);refine ai <| aG <| ai <| ai ?_
 first|refine ai <| wF g <| aG ?_|refine ai <| wE g <| aG ?_
 refine ai <| wD f a ?_;simp only[show tH "dict_valueiterator"=false by decide,mZ,if_false];show wpAny _ _ (if(Value.ref d==Value.none)=true then _ else _) _ _ _
 rw[if_neg (show ¬((Value.ref d==Value.none)=true)from gw)];refine ai <| aG <| ai <| nC m e ?_;rw[if_neg (by simp)];refine ai <| aG <| ai <| qg m e ?_;rw[if_neg (by simp)];refine aG ?_;simp only[show ¬((i:Int)<0)from by omega,if_false,jA,Array.getElem?_eq_getElem hi];refine ai ?_
 first|refine ai <| wF g <| aG ?_|refine ai <| wE g <| aG ?_
 refine ai <| wpAny_isOneOf_valiter g ?_;show wpAny _ _ (wC (.ref it) 1 (rawInt ((i:Int)+1)) >>= _) _ _ s;refine ai <| qp f a (by simp) ?_;have n:(s.heap.update it (wB (·.setIfInBounds 1 (rawInt ((i:Int)+1))))).IsValIter it d (i+1) es.size ep:=⟨_,tT _ f (Obj.isFreed_of_fields (qo a _)),(Obj.cls_mapFields ..).trans l,by rw[qo a];simp[rawInt]⟩;have p:=Heap.IsValIter.typeIs (s:={ s with heap:=s.heap.update it (wB (·.setIfInBounds 1 (rawInt ((i:Int)+1)))) }) n;refine ai <| kR <| ai <| wpAny_isOneOf_valiter p <| ai <| wpAny_isOneOf_valiter p ?_;show wpAny _ _ (pure es[i].val) _ _ _;exact aG <| aG ⟨_,rfl,aG <| q _ n (j_ ..)⟩
theorem Fs{Q:Option Value->Shared->Prop}(p:A.handled=none)(g:s.heap.IsValIter it d i es.size ep)(h:oo s.heap d es ep)(hi:es.size<=i)
  (q:∀l,Heap.ExtBut it s.heap l->Q none { s with heap:=l }):wpAny (model prog w) A (pyNext (.ref it)) Q E s:=by
 obtain⟨t,j,r,k⟩:=id g;obtain⟨o,n,hx,e⟩:=h.ex;have f:=g.typeIs;unfold pyNext;refine ai <| lh <| jx (name:=jw "__next__") f tI <| nk tI f F.entry_dict_valueiterator_next ?_ (F.args_dict_valueiterator_next_1 _);refine ai <| aG <| ai <| ai ?_
 first|refine ai <| wF f <| aG ?_|refine ai <| wE f <| aG ?_
 refine ai <| wD j k ?_;simp only[show tH "dict_valueiterator"=false by decide,mZ,if_false];show wpAny _ _ (if(Value.ref d==Value.none)=true then _ else _) _ _ _
 rw[if_neg (show ¬((Value.ref d==Value.none)=true)from gw)];refine ai <| aG <| ai <| nC n e ?_;rw[if_neg (by simp)];refine ai <| aG <| ai <| qg n e ?_;rw[if_neg (by simp)];refine aG ?_;simp only[show ¬((i:Int)<0)from by omega,if_false,jA,Array.getElem?_eq_none hi];refine ai ?_
 first|refine ai <| wF f <| aG ?_|refine ai <| wE f <| aG ?_
 show wpAny _ _ (wC (.ref it) 0 .none >>= _) _ _ s;refine ai <| qp j k (by simp) ?_;show wpAny _ _ (newExc (.type "StopIteration") [] >>= _) _ _ _;refine ai ?_;simp only[newExc,newTuple];refine ai <| jy ?_ (by size_fits);refine ai (m:=qk _ _) <| wpAny_of_eq (a:=Value.none) (by first|rfl|(simp only[qk];rfl)) <| jy ?_ (by size_fits)
 simp only[raiseNew];refine ai <| wpAny_handled ?_;rw[show A.in1.handled=none from p];refine ai <| aG <| wpAny_throw ?_;refine ai (vI (b:=true) (T:="StopIteration") ⟨_,cu _ rfl,rfl⟩ wR (aG (q _ (((j_ ..).extBut.push _).push _))))
end
end L2
end

section
set_option Elab.async false
set_option linter.all false
set_option maxRecDepth 100000
namespace L2
open PySem PySem.Spec PyProof.Rows
section
variable{prog:bP}{w:World}{A:Around}{E:Zc}{s:Shared}{d v it:Addr}{es:Array iU}{ep i:Nat}
theorem Dx{Q:Zc}(j:(d==hW)=false)(h:oo s.heap d es ep)
  (q:∀f,f.IsKeyIter s.heap.objs.size d 0 es.size ep->(∀b o,s.heap.get? b=some o->f.get? b=some o)->Q (.ref s.heap.objs.size) { s with heap:=f }):wpAny (model prog w) A (pyIter (.ref d)) Q E s:=by
 obtain⟨o,g,hx,a⟩:=h.ex;refine wpAny_pyIter_slot h.ty F.slot_dict_iter <| nk F.slot_dict_iter h.ty F.entry_dict_iter ?_ (F.args_dict_iter_1 _);unfold c9.«dict.__iter__»;refine ai ?_;unfold c9.Dict.dictSlotNone;refine ai <| tL h.ty <| ?_;refine aG (show wpAny _ _ (wG d >>= _) _ _ s from ?_);unfold wG;rw[if_neg (fun z=>by rw[j]at z;cases z)];refine ai <| aG <| ai <| nC g a <| ai <| qg g a ?_;refine ai (jy (aG ⟨_,rfl,"dict_keyiterator",_,⟨_,cu _ rfl,rfl⟩,tG.lookup,?_⟩));exact q _ ⟨_,cu _ rfl,rfl,by simp[rawInt]⟩ fun b o e=>aO _ e
theorem Dw{Q:Option Value->Shared->Prop}(j:s.heap.IsKeyIter it d i es.size ep)(h:oo s.heap d es ep)(hi:i<es.size)
  (q:∀k,k.IsKeyIter it d (i+1) es.size ep->gy it s.heap k->Q (some es[i].key) { s with heap:=k }):wpAny (model prog w) A (pyNext (.ref it)) Q E s:=by
 obtain⟨r,f,l,a⟩:=id j;obtain⟨o,m,hx,e⟩:=h.ex;have g:=j.typeIs;unfold pyNext;refine ai <| lh <| jx (name:=jw "__next__") g tG <| nk tG g F.entry_dict_keyiterator_next ?_ (F.args_dict_keyiterator_next_1 _);refine ai <| aG <| ai <| ai ?_
 first|refine ai <| wA g <| aG ?_|refine ai <| wz g <| aG ?_
 refine ai <| wD f a ?_;simp only[show tH "dict_keyiterator"=false by decide,mZ,if_false];show wpAny _ _ (if(Value.ref d==Value.none)=true then _ else _) _ _ _
 rw[if_neg (show ¬((Value.ref d==Value.none)=true)from gw)];refine ai <| aG <| ai <| nC m e ?_;rw[if_neg (by simp)];refine ai <| aG <| ai <| qg m e ?_;rw[if_neg (by simp)];refine aG ?_;simp only[show ¬((i:Int)<0)from by omega,if_false,jA,Array.getElem?_eq_getElem hi];refine ai ?_
 first|refine ai <| wA g <| aG ?_|refine ai <| wz g <| aG ?_
 refine ai <| wpAny_isOneOf_keyiter g ?_;show wpAny _ _ (wC (.ref it) 1 (rawInt ((i:Int)+1)) >>= _) _ _ s;refine ai <| qp f a (by simp) ?_;have n:(s.heap.update it (wB (·.setIfInBounds 1 (rawInt ((i:Int)+1))))).IsKeyIter it d (i+1) es.size ep:=⟨_,tT _ f (Obj.isFreed_of_fields (qo a _)),(Obj.cls_mapFields ..).trans l,by rw[qo a];simp[rawInt]⟩;have p:=Heap.IsKeyIter.typeIs (s:={ s with heap:=s.heap.update it (wB (·.setIfInBounds 1 (rawInt ((i:Int)+1)))) }) n;refine ai <| kR <| ai <| wpAny_isOneOf_keyiter p ?_;show wpAny _ _ (pure es[i].key) _ _ _;exact aG <| aG ⟨_,rfl,aG <| q _ n (j_ ..)⟩
theorem Ft{Q:Option Value->Shared->Prop}(p:A.handled=none)(g:s.heap.IsKeyIter it d i es.size ep)(h:oo s.heap d es ep)(hi:es.size<=i)
  (q:∀l,Heap.ExtBut it s.heap l->Q none { s with heap:=l }):wpAny (model prog w) A (pyNext (.ref it)) Q E s:=by
 obtain⟨t,j,r,k⟩:=id g;obtain⟨o,n,hx,e⟩:=h.ex;have f:=g.typeIs;unfold pyNext;refine ai <| lh <| jx (name:=jw "__next__") f tG <| nk tG f F.entry_dict_keyiterator_next ?_ (F.args_dict_keyiterator_next_1 _);refine ai <| aG <| ai <| ai ?_
 first|refine ai <| wA f <| aG ?_|refine ai <| wz f <| aG ?_
 refine ai <| wD j k ?_;simp only[show tH "dict_keyiterator"=false by decide,mZ,if_false];show wpAny _ _ (if(Value.ref d==Value.none)=true then _ else _) _ _ _
 rw[if_neg (show ¬((Value.ref d==Value.none)=true)from gw)];refine ai <| aG <| ai <| nC n e ?_;rw[if_neg (by simp)];refine ai <| aG <| ai <| qg n e ?_;rw[if_neg (by simp)];refine aG ?_;simp only[show ¬((i:Int)<0)from by omega,if_false,jA,Array.getElem?_eq_none hi];refine ai ?_
 first|refine ai <| wA f <| aG ?_|refine ai <| wz f <| aG ?_
 show wpAny _ _ (wC (.ref it) 0 .none >>= _) _ _ s;refine ai <| qp j k (by simp) ?_;show wpAny _ _ (newExc (.type "StopIteration") [] >>= _) _ _ _;refine ai ?_;simp only[newExc,newTuple];refine ai <| jy ?_ (by size_fits);refine ai (m:=qk _ _) <| wpAny_of_eq (a:=Value.none) (by first|rfl|(simp only[qk];rfl)) <| jy ?_ (by size_fits)
 simp only[raiseNew];refine ai <| wpAny_handled ?_;rw[show A.in1.handled=none from p];refine ai <| aG <| wpAny_throw ?_;refine ai (vI (b:=true) (T:="StopIteration") ⟨_,cu _ rfl,rfl⟩ wR (aG (q _ (((j_ ..).extBut.push _).push _))))
end
def Je(d:Addr)(o:Obj)(u:HO)(n:Nat)(ent:Nat->Hp->V->V->Prop):It :=
 ⟨fun i H=>H d=some (.frz o u)/\i<n,fun i H x H'=>H'=H/\∃b,ent i H x b,fun i H=>H d=some (.frz o u)/\n<=i⟩
theorem CZ{P:bP}{w:World}{K:Za}{Q:Expr}{d it:Addr}{o:Obj}{u:HO}{n:Nat}{l:Nat->Hp->V->V->Prop}{L:Array iU}{M:Nat}(f:Jf P w K d o u n l L M):
  sE P w K Q (Je d o u n l) [it] it (fun i h=>h.IsKeyIter it d i n M) where
 mem:=by simp
 obj:=fun i h st b j=>by
  have e:b=it:=by simpa using j
  subst e;obtain⟨o,e,c,d⟩:=st;exact⟨o,e,fun v z=>by rw[d]at z;cases z⟩
 keep:=fun i h q st k=>st.at fun o e=>k it (by simp) o e
 item:=by
  intro X t x y N i O s σ H E I hf st A;subst t x y;obtain⟨r,hi⟩:=A;have m:i<L.size:=by rw[f.sz];exact hi
  obtain⟨g,T⟩:=(show cq X.prog X.w X.K H s.heap d (.frz o u)from I.hok d _ r);obtain⟨a,b,U,Y,rb⟩:=f.get m I.hok r;obtain⟨B,C,f2,D,G,J⟩:=hf it (by simp);rw[<-f.sz]at st;refine Dw st ⟨o,g,f.ex,f.dat⟩ m fun q p sb=>?_;have I1:Inv X O σ H { s with heap:=q }:=I.turned (t':=s.toks) (fun b o j e=>(sb.2 b j).trans e) B C D G J;obtain⟨oi,e,c,dd⟩:=id p;exact⟨_,rfl,v9 (s:={ s with heap:=q }) e c dd (by decide) ⟨a,H,I1,Y,⟨rfl,b,U⟩,by rw[<-f.sz];exact p,fun b j=>(hf b j).1⟩⟩
 done:=by
  intro X t x y N i O s σ H E I hf st A;subst t x y;obtain⟨r,hi⟩:=A;obtain⟨g,T⟩:=(show cq X.prog X.w X.K H s.heap d (.frz o u)from I.hok d _ r);obtain⟨B,C,f2,D,G,J⟩:=hf it (by simp);rw[<-f.sz]at st;exact Ft (I.ok.hd N) st ⟨o,g,f.ex,f.dat⟩ (by rw[f.sz];exact hi) fun q eb=>⟨rfl,I.turned (t':=s.toks) (fun b o j e=>eb b o j e) B C D G J⟩
 self:=fun _ _ _ _ _ st h=>wpAny_pyIter_keyiter st h
def FW(K:Za)(tl:TE):TI:=fun σ H R=>tl σ H fun x H1=>∃d kvs,x=.ref d /\
 ((H1 d=some (.dT kvs)/\∀o,R (Je d o (.dT kvs) kvs.length (IV K kvs)) (upd H1 d (.frz o (.dT kvs))))∨∃o,H1 d=some (.frz o (.dT kvs))/\R (Je d o (.dT kvs) kvs.length (IV K kvs)) H1)
section
variable{X:Cx}{J4:Zd}{σ:St}{l tg:Expr}{tl:TE}
theorem v5{R:It->Hp->Prop}{a:Hp}{s1:Shared}{d:Addr}{o:Obj}{u:HO}{n:Nat}{f:Nat->Hp->V->V->Prop}{m:Array iU}{p:Nat}(i:Jf X.prog X.w X.K d o u n f m p)(h:(d==hW)=false)(j:Inv X J4 σ a s1)(e:a d=some (.frz o u))(q:R (Je d o u n f) a):
  wpAny (model X.prog X.w) X.A (pyIter (.ref d)) (PIE X J4 σ tg R) X.xe s1:=by
 obtain⟨g,_⟩:=(show cq X.prog X.w X.K a s1.heap d (.frz o u)from j.hok d _ e);refine Dx h ⟨o,g,i.ex,i.dat⟩ fun r k s=>?_;have t:Inv X J4 σ a { s1 with heap:=r,toks:=s1.toks }:=j.kept (t':=s1.toks) s;refine⟨_,[_],_,_,a,rfl,t,CZ i,by rw[<-i.sz];exact k,fun b v=>?_,q⟩;have e:b=s1.heap.objs.size:=by simpa using v
 subst e;exact j.fpOk (aP _) (j.hok.fresh (aP _))
theorem FD(D:PE X l tl):PI X tg l (FW X.K tl):=by
 intro J4 s σ H R I h;refine dk (D J4 s σ H _ I h) fun v s1 k=>?_;obtain⟨x,m,j,E,d,g,ex,q⟩:=k;subst ex;cases E;rcases q with⟨e,q⟩|⟨o,e,q⟩
 ·obtain⟨z,i,xs',n,o,G,J,t,r⟩:=id (show cq X.prog X.w X.K m s1.heap d (.dT g)from j.hok d _ e);have C:Inv X J4 σ (upd m d (.frz o (.dT g))) { s1 with heap:=s1.heap,toks:=s1.toks } :=
   j.write (x:=d) (e:=d) (t':=s1.toks) (by rw[e];trivial) (.inl rfl) (fun _ _ _ q=>q) ⟨o,t⟩ ⟨t,z,i,xs',Paired.mapP n (fun p q r=>⟨r.1,rW.keeps (fun b L u=>by rw[am (fun z=>by rw[z,e]at u;cases u)];exact u) 8 r.2.2.1 r.2.1,r.2.2⟩),o,G,J,t,r⟩
  obtain⟨f,y,A,B⟩:=v_ C.hok (aa (H:=m) (a:=d));exact v5 B f C aa (q o)
 ·obtain⟨f,y,A,B⟩:=v_ j.hok e;exact v5 B f j e q
end
end L2
end

section
set_option Elab.async false
set_option linter.all false
set_option maxRecDepth 100000
namespace HT
open PySem PySem.Spec PyProof.Rows
end HT
namespace L2
open PySem PySem.Spec PyProof.Rows
end L2
namespace HT
open PySem PySem.Spec PyProof.Rows
end HT
namespace L2
open PySem PySem.Spec PyProof.Rows
end L2
end

section
set_option Elab.async false
set_option linter.all false
set_option maxRecDepth 100000
namespace L2
open PySem PySem.Spec PyProof.Rows
def JS(_ j:Int):Prop:=0<j/\j.natAbs.log2<9000
abbrev Ce:List V->Hp->VK->Prop:=fun xs H Q=>∃i j,xs=[.int i,.int j]/\JS i j/\∀p,H p=none->Q (.ref p) (upd H p (.tup [.int (i / j),.int (i % j)]))
section
variable{X:Cx}
theorem yn:fU X (.builtin "divmod") Ce:=by
 intro k s σ H l m Q I r h;obtain⟨i,j,rfl,a,q⟩:=h;obtain⟨u,v,rfl,f,g⟩:=vals2 r;obtain⟨t,rfl⟩:=f;obtain⟨n,rfl⟩:=g;have p:0<j:=a.1;refine divmod_int (by omega) ?_ (.inl (PyProof.noPylong_of_log2 a.2));rw[Int.fdiv_eq_ediv_of_nonneg i (by omega),Int.fmod_eq_emod_of_nonneg i (by omega)];exact⟨.ref s.heap.objs.size,_,I.laid (t':=s.toks+1+1) (fun b o e=>aO _ e) (aP _) (show cq X.prog X.w X.K _ _ _ (.tup [.int (i / j),.int (i % j)])from⟨by show 2<=aj;decide,_,.cons ⟨_,rfl⟩ (.cons ⟨_,rfl⟩ .nil),IsTup.new _ _⟩),rfl,q _ (I.hok.fresh (aP _))⟩
variable{tg l:Expr}{ta:TA}{p pos:Pos}
end
end L2
namespace L2
open PySem PySem.Spec PyProof.Rows
end L2
end

section
set_option Elab.async false
set_option linter.all false
set_option maxRecDepth 100000
namespace L2
open PySem PySem.Spec PyProof.Rows
end L2
end

section
set_option Elab.async false
set_option linter.all false
set_option maxRecDepth 100000
namespace HT
open PySem PyProof.Rows
end HT
namespace L2
open PySem PySem.Spec PyProof.Rows
end L2
end

section
set_option Elab.async false
set_option linter.all false
set_option maxRecDepth 100000
namespace HT
open PySem PyProof.Rows
section
variable{prog:bP}{w:World}{A:Around}{E:Zc}{s:Shared}
end
end HT
end

section
set_option Elab.async false
set_option linter.all false
set_option maxRecDepth 100000
namespace L2
open PySem PySem.Spec PyProof.Rows
theorem oo.kept{h h':Heap}{d:Addr}{a:Array iU}{f:Nat}(r:oo h d a f)(k:∀o,h.get? d=some o->h'.get? d=some o):oo h' d a f:=let⟨o,g,e⟩:=r.ex;⟨o,k o g,e⟩
end L2
end

section
set_option Elab.async false
set_option linter.all false
set_option maxRecDepth 100000
namespace HT
open PySem PyProof.Rows
end HT
end

section
set_option Elab.async false
set_option linter.all false
set_option maxRecDepth 100000
namespace L2
open PySem PySem.Spec PyProof.Rows
def txK(f:Zb):TK:=.t (f.map fun x=>TK.k (some (.inr x)))
theorem vM{K:Za}{H:Hp}:∀{e:Zb}{a:List V},TKCs K H (e.map fun x=>TK.k (some (.inr x))) a->a=e.map V.str
 |[],a,h=>by rw[List.map_nil]at h;unfold TKCs at h;exact h
 |s::e,a,h=>by
  rw[cg]at h;unfold TKCs at h;obtain⟨v,i,rfl,f,g⟩:=h;unfold rW at f;rw[f,vM g]
  rfl
theorem EH{K:Za}{H:Hp}{f:Zb}{a:V}(h:rW K H (txK f) a):∃b,a=.ref b/\eC K H b (f.map V.str):=by
 unfold txK rW at h;obtain⟨b,i,rfl,e,g⟩:=h;rw[vM g]at e;exact⟨b,rfl,e⟩
section
variable{prog:bP}{w:World}{A:Around}{s:Shared}{d v:Addr}{es:Array iU}{ep:Nat}
theorem AZ(e:s.heap.IsValuesView v d)(h:oo s.heap d es ep):∃i:Obj,(∀(E Q:Zc),Q (.ref s.heap.objs.size) { s with heap:=s.heap.push i }->wpAny (model prog w) A (pyIter (.ref v)) Q E s)/\(s.heap.push i).IsValIter s.heap.objs.size d 0 es.size ep:=by
 obtain⟨l,f,k,g⟩:=id e;obtain⟨o,j,hx,a⟩:=h.ex;refine⟨{ cls:=.type "dict_valueiterator",data:=.fields #[.ref d,rawInt 0,rawInt es.size,rawInt ep] },fun E Q q=>?_,⟨_,cu _ rfl,rfl,by simp[rawInt]⟩⟩;refine wpAny_pyIter_slot e.typeIs F.slot_dict_values_iter <| nk F.slot_dict_values_iter e.typeIs F.entry_dict_values_iter ?_ (F.args_dict_values_iter_1 _);unfold c9.«dict_values.__iter__» c9.Dict_items.dictOf c9.Dict_items.newIterator;refine ai <| aG <| ai <| ai <| dE f g (x:=.ref d) rfl <| aG <| ai <| ai <| nC j a <| ai <| qg j a ?_;simp only[show tH "dict_valueiterator"=false by decide,mZ,if_false];exact jy (aG ⟨_,rfl,"dict_valueiterator",_,⟨_,cu _ rfl,rfl⟩,tI.lookup,q⟩)
theorem ED:PySem.W.KdlSrc prog w "dict_values" v d es.size (fun i x=>(es[i]?).map (·.val)=some x) fun h=>h.IsValuesView v d/\oo h d es ep where
 type:=fun s r=>r.1.typeIs
 there:=fun h r=>by obtain⟨o,f,_⟩:=r.2.ex;obtain⟨C,g,_⟩:=r.1;exact⟨aU g,aU f⟩
 keep:=fun h j r k=>⟨let⟨o,e,c⟩:=r.1;⟨o,k v (.inl rfl) o e,c⟩,r.2.kept (k d (.inr rfl))⟩
 notList:=by decide
 notTuple:=by decide
 hint:=fun A E s Q r q=>PySem.W.kdl_hint_values r.1.typeIs q
 iter:=fun A s p r=>by
  obtain⟨t,u,y⟩:=AZ (prog:=prog) (w:=w) (A:=A) r.1 r.2;have ne:d≠s.heap.objs.size:=by obtain⟨o,f,_⟩:=r.2.ex;exact cy (aU f)
  refine⟨t,fun i h=>h.IsValIter s.heap.objs.size d i es.size ep/\oo h d es ep,u,⟨by simp,?_,?_,?_,?_⟩,y,r.2.kept fun o e=>aO _ e⟩
  ·rintro i h j ⟨a,b⟩ k;obtain⟨o,e,c⟩:=a;exact⟨⟨o,k _ (by simp) o e,c⟩,b.kept fun o e=>k d (by simp) o e⟩
  ·rintro i m Q E hi ⟨a,b⟩ q;refine Dv a b hi fun j z n=>q _ _ _ (by simp[hi]) ⟨z,b.kept fun o e=>(n.2 d ne).trans e⟩ fun b o l e=>(n.2 b (by simpa using l)).trans e
  ·rintro m Q E ⟨a,b⟩ q;exact Fs p a b (aP _) fun j B=>q _ _ fun b o l e=>B b o (by simpa using l) e
  ·rintro i m Q E ⟨a,b⟩ q;exact wpAny_pyIter_valiter a q
end
def ES(tl:TE):TE:=fun σ H Q=>tl σ H fun x H1=>∃(d:Addr) (kvs:List (TK×V)),x=.ref d/\Rd H1 d (.dT kvs)/\∀l,H1 l=none->Q (.ref l) (upd H1 l (.lst (kvs.map wx)))
section
variable{X:Cx}{p2 pos2 J6 J5:Pos}
theorem zK{l:Expr}{J:TE}(O:X.calm=true)(T:Gl X "list")(D:X.mg "list"=none)(U:PE X l J)(i:vG l "values" X.env (eval l X.env)=eval l X.env:=by rfl)(k:(J6.endLine==J5.line)=true:=by rfl)
  (r:aQ [.Call (.Attribute l "values" J6) [] [] J5] X.env=[(false,eval (.Call (.Attribute l "values" J6) [] [] J5) X.env)]:=by rfl) :
  PE X (.Call (.Name "list" p2) [.Call (.Attribute l "values" J6) [] [] J5] [] pos2) (ES J):=by
 intro Y s σ H Q I h;refine Call_ (lY I T D oh (vH ?_ (by rw[r];rfl) (by rfl)));rw[r];show wpAny _ _ (spliced ((false,eval (.Call (.Attribute l "values" J6) [] [] J5) X.env)::[])) _ _ s;refine BP ?_;refine wpAny_Call_method0_late i k (dk (U Y s σ H _ I h) fun v s1 E=>?_);obtain⟨x,H1,G,r1,d,m,ex,e,q⟩:=E;subst ex;cases r1;obtain⟨z,t,B,u,o,es,ep,L,ex,hd,n,nd⟩:=id (show cq X.prog X.w X.K H1 s1.heap d (.dT m)from Fh G.hok e);have p:oo s1.heap d es ep:=⟨o,L,ex,hd⟩;refine⟨"dict","dict.values",F.plainAttrs_dict,F.slot_dict_values,F.type_dict_values,p.ty,fun a z=>?_,xb rfl (PySem.evalArgs_none (A6 p t ?_))⟩
 ·cases z;exact⟨o,L,ex.2.1⟩
 refine Calls.spliced_nil ?_;have g:=Paired.length u;have y:es.size=B.length:=by rw[<-k9,n,ag]
 refine PySem.W.kdl_call (s:={ s1 with heap:=s1.heap.push { cls:=.type "dict_values",data:=.fields #[.ref d] } }) (ED (v:=s1.heap.objs.size) (d:=d) (es:=es) (ep:=ep)) (I.ok.hd O) ⟨⟨_,cu _ rfl,rfl,rfl⟩,p.kept fun o e=>aO _ e⟩ (by rw[y,<-g];exact z) fun h' tk f c hk hD A=>?_;obtain⟨hn,hP⟩:=A;have M:f.toList=B.map fun x=>x.2.2:=by
  apply List.ext_getElem?;intro j;by_cases hj:j<f.size
  ·have C:f[j]?=some f[j]:=by simp[hj]
   have e2:=hP j _ C;have e3:es[j]?=(B[j]?).map fun x=>BX (bL X.prog X.w) x:=by rw[<-tS,n,du]
   rw[tS,C,du,<-e2,e3];cases B[j]?<;>rfl
  ·have C:f[j]?=none:=by simp;omega
   rw[tS,C,du,List.getElem?_eq_none (by omega)]
   rfl
 have hv:bC (m.map wx) f.toList:=by
  rw[M];clear M g y n nd e q z
  induction u with
  |nil=>exact .nil
  |cons h _ ih=>exact .cons h.2.2.2 ih
 have N:s1.heap.objs.size<=(s1.heap.push { cls:=.type "dict_values",data:=.fields #[.ref d] }).objs.size:=by rw[jh];exact BM _
 exact⟨.ref _,_,G.laid (o:=.lst (m.map wx)) (fun b o e=>hk b o (aO _ e)) N ⟨by rw[ag];exact z,f.toList,c,hv,by rw[Array.toArray_toList];exact hD⟩,rfl,q _ (G.hok.fresh N)⟩
end
section
variable{prog:bP}{w:World}{A:Around}{E:Zc}{s:Shared}
def Gw(prog:bP)(w:World)(h:Heap)(u:Value)(x:TK×Addr×Value):Prop:=∃t,u=.ref t/\h.IsTuple t #[.ref x.2.1,x.2.2]/\(bL prog w).is h x.1 x.2.1
def storeAll(acc xs:List (TK×Addr×Value)):List (TK×Addr×Value):=xs.foldl (fun a x=>nF a x.1 x.2.1 x.2.2) acc
theorem zl(e:List (TK×Addr×Value))(k:TK)(a:Addr)(v:Value):(nF e k a v).length<=e.length+1:=by
 unfold nF;split
 ·rw[ag];omega
 ·rw[aS,w_];exact aP _
theorem sM{h h':Heap}{k:TK}{a:Addr}(t:(bL prog w).is h k a)(m:∀b o items n,h.get? b=some o->o.cls=.type "tuple"->o.data=.seq items n->h'.get? b=some o):(bL prog w).is h' k a:=⟨mJ.mono m 8 t.2 t.1,t.2⟩
theorem tf{h f:Heap}{D:Addr}{a:List (TK×Addr×Value)}(g:h.DictOfH (bL prog w) D a)(e:∀o,h.get? D=some o->f.get? D=some o)(m:∀b o items n,h.get? b=some o->o.cls=.type "tuple"->o.data=.seq items n->f.get? b=some o):f.DictOfH (bL prog w) D a:=by
 obtain⟨o,i,j,k,l,p,q,r,t⟩:=g;exact⟨o,i,j,e o k,l,p,q,fun x hx=>sM (r x hx) m,t⟩
theorem CU{R:Result->Shared->Prop}(hh:A.handled=none)(hu:A.units+14<cLine){D it l:Addr}{items:Array Value}{ps:List (TK×Addr×Value)}(C:D≠it)(U:l≠it)(Y:l≠D)(bb:ps.length=items.size):
  ∀(n i:Nat) (s:Shared) (a:List (TK×Addr×Value)),items.size-i=n->i<=items.size->a.length+(items.size-i)<=aj->s.heap.IsListIter it l i->s.heap.IsList l items->s.heap.DictOfH (bL prog w) D a ->
   (∀(j:Nat) (u:Value) (x:TK×Addr×Value),items[j]?=some u->ps[j]?=some x->Gw prog w s.heap u x) ->
   (∀y tk,y.DictOfH (bL prog w) D (storeAll a (ps.drop i))->(∀b o,b≠D->b≠it->s.heap.get? b=some o->y.get? b=some o)->R (.ok (.ret .none)) { s with heap:=y,toks:=tk }) ->
   zzl77 (model prog w) A (.builtin "dict.update.loop" ⟨[.ref D,.ref it,rawInt i,.none],[]⟩) R s:=by
 intro n
 induction n with
 |zero =>
  intro i s a hn hi hz p Q T hp hR;have e:i=items.size:=by omega
  subst e;refine wN gh ?_;rw[wM cE _];show wpAny _ A.in1 (pyNext (.ref it) >>= _) _ _ s;refine ai (wpAny_pyNext_list_end hh p Q (by simp) fun y eb=>?_);show wpAny _ _ (c9.Dict.addKeywords D [] >>= _) _ _ _;refine ai (aG (aG ?_));have G:∀b o,b≠it->s.heap.get? b=some o->y.get? b=some o:=fun b o hb e=>eb b o hb e;have H:y.DictOfH (bL prog w) D a:=tf T (fun o e=>G D o C e) fun b o items n e c d=>G b o (by
   rintro rfl;obtain⟨o',f,h,_⟩:=p;rw[e]at f;cases f;rw[c]at h;simp at h) e
  have q:=hR y s.toks (by rw[tK (by omega)];exact H) fun b o _ hb e=>G b o hb e;exact q
 |succ n ih =>
  intro i s a hn hi hz p Q T hp hR;have I:i<items.size:=by omega
  refine wN gh ?_;rw[wM cE _];show wpAny _ A.in1 (pyNext (.ref it) >>= _) _ _ s;have J:items[i]?=some items[i]:=by simp[I]
  have hk:ps[i]?=some ps[i]:=ik (by omega);obtain⟨t,eu,ht,al⟩:=hp i _ _ J hk;refine ai (wpAny_pyNext_list_item p Q (x:=items[i]) J fun m L an=>?_);rw[eu];have g:gy it s.heap m:=an;have z:∀b o,s.heap.get? b=some o->o.cls=.type "tuple"->b≠it:=by
   rintro b o e c rfl;obtain⟨o',f,h,_⟩:=p;rw[e]at f;cases f;rw[c]at h;simp at h
  have nD:∀b o,s.heap.get? b=some o->o.cls=.type "tuple"->b≠D:=by
   rintro b o e c rfl;obtain⟨o',_,_,f,h,_⟩:=T;rw[e]at f;cases f;have:=h.1;rw[c]at this;simp at this
  have nt:t≠it:=by
   obtain⟨o,M,N,_⟩:=ht;exact z t o M N
  have O:m.IsTuple t #[.ref ps[i].2.1,ps[i].2.2]:=ht.extBut g.extBut nt;have ap:tJ { s with heap:=m } (.ref t) "tuple":=O.typeIs (s:={ s with heap:=m });obtain⟨ot,as,bi,bl,aC⟩:=id O;refine ai (kR ?_);refine ai (wpAny_tryCatch ?_);unfold c9.Dict.pairItems;refine ai (wL ap ?_);rw[if_pos (by decide)];refine ai (hZ as aC (aG ?_));show wpAny _ _ (kP [.ref ps[i].2.1,ps[i].2.2] (dictSet D (.ref ps[i].2.1) ps[i].2.2)) _ _ _;have m1:∀b o items n,s.heap.get? b=some o->o.cls=.type "tuple"->o.data=.seq items n->m.get? b=some o:=fun b o _ _ e c _=>(g.2 b (z b o e c)).trans e;have a0:m.DictOfH (bL prog w) D a:=tf T (fun o e=>(g.2 D C).trans e) m1;refine kR (wpAny_dictSet_heap (knd:=bL prog w) (k:=ps[i].1) (by show A.units+1+8<cLine;omega) (sM al m1) a0 (fun B a4 a5=>?_) (by omega));have v:gy D m B:=a5;show wpAny _ _ (again _) _ _ _;refine aG ⟨wK cE _,?_⟩;have a6:m.IsList l items:=Q.extBut g.extBut U;have kp:∀b o,b≠D->b≠it->s.heap.get? b=some o->B.get? b=some o:=fun b o m B e=>v.extBut b o m (g.extBut b o B e);refine ih (i+1) _ (nF a ps[i].1 ps[i].2.1 ps[i].2.2) (by omega) I (by have:=zl a ps[i].1 ps[i].2.1 ps[i].2.2;omega) (L.extBut v.extBut (hV C)) (a6.extBut v.extBut Y) a4 (fun j u x m B=>?_) fun y tk H a7=>?_
  ·obtain⟨t2,e2,a8,a9⟩:=hp j u x m B;obtain⟨o,M,N,r⟩:=id a8;exact⟨t2,e2,⟨o,kp _ o (nD t2 o M N) (z t2 o M N) M,N,r⟩,sM a9 fun b o _ _ e c _=>kp b o (nD b o e c) (z b o e c) e⟩
  ·refine hR y tk ?_ fun b o m B e=>a7 b o m B (kp b o m B e);have ed:ps.drop i=ps[i]::ps.drop (i+1):=wJ (by omega);rw[ed];exact H
theorem q0{l:Addr}{o:Obj}{items:Array Value}{n:Nat}{ps:List (TK×Addr×Value)}{Q:Zc}(U:A.handled=none)(hu:A.units+16<cLine)(Y:s.heap.get? l=some o)(L:o.cls=.type "list")(v:o.data=.seq items n)(M:o.dict=none)
  (N:ps.length=items.size) (hp:∀(j:Nat) (u:Value) (x:TK×Addr×Value),items[j]?=some u->ps[j]?=some x->Gw prog w s.heap u x) (hz:items.size<=aj)
  (h:∀y tk,y.DictOfH (bL prog w) s.heap.objs.size (storeAll [] ps)->(∀b o,s.heap.get? b=some o->y.get? b=some o)->Q (.ref s.heap.objs.size) { s with heap:=y,toks:=tk }) :
  wpAny (model prog w) A (call (.type "dict") [.ref l]) Q E s:=by
 refine callType_codes (Q₁:=fun z k=>z=.ref s.heap.objs.size/\k={ s with heap:=s.heap.push { cls:=.type "dict",data:=.dict #[] } }) F.kt_called_dict (F.kt_typeCall_dict_1 _) F.entry_dict_init (kt_code_dict_new _ ⟨rfl,rfl⟩) ?_;rintro z k ⟨rfl,rfl⟩;have m:(s.heap.push { cls:=.type "dict",data:=.dict #[] }).DictOfH (bL prog w) s.heap.objs.size []:=Heap.DictOfH.new s.heap;have p:(s.heap.push { cls:=.type "dict",data:=.dict #[] }).get? l=some o:=aO _ Y;have B:l<s.heap.objs.size:=aU Y;have C:tJ { s with heap:=s.heap.push { cls:=.type "dict",data:=.dict #[] } } (.ref s.heap.objs.size) "dict":=m.typeIs;refine⟨C,F.args_dict_init_2 _ _,?_⟩;unfold c9.«dict.__init__»;refine ai ?_;unfold c9.Dict.selfAndRest;refine ai (tL C ?_);show wpAny _ _ (pure (s.heap.objs.size,[Value.ref l])) _ _ _;refine aG ?_;show wpAny _ _ (wI "dict.__init__" s.heap.objs.size (.ref l) [] .none) _ _ _;unfold wI;have O:tJ { s with heap:=s.heap.push { cls:=.type "dict",data:=.dict #[] } } (.ref l) "list":=⟨o,p,L⟩;refine ai (wL O ?_);rw[if_pos (by decide)];refine ai (vX p L v M U fun q T k1=>?_);have f:∀b J,(s.heap.push { cls:=.type "dict",data:=.dict #[] }).get? b=some J->q.get? b=some J:=k1;rw[if_pos (by rfl:(none:Option Value).isNone=true)];refine ai (lB ?_);have G:q.IsList l items:=⟨o,f _ _ p,L,n,v⟩;refine ai (tw (s:={ s with heap:=q,toks:=T }) G ?_);have H:q.DictOfH (bL prog w) s.heap.objs.size []:=tf m (fun o e=>f _ o e) fun b o _ _ e _ _=>f b o e;have i:s.heap.objs.size<q.objs.size:=by
  obtain⟨od,es,ep,g,r⟩:=H;exact aU g
 refine aG ⟨wK cE _,?_⟩;refine CU (A:=A.in1) (prog:=prog) (w:=w) U (by show A.units+1+14<cLine;omega) (D:=s.heap.objs.size) (it:=q.objs.size) (l:=l) (items:=items) (ps:=ps) (cy i) (cy (tQ B i)) (cy B) N items.size 0 _ [] (wH _) (c7 _) (by rw[nH];omega)
  ⟨_,cu _ rfl,rfl,rfl⟩ (G.push _) (tf H (fun o e=>aO _ e) fun b o _ _ e _ _=>aO _ e) (fun j u x a b=>?_) fun y tk I kp=>?_
 ·obtain⟨t,e,ht,hk⟩:=hp j u x a b;obtain⟨ot,g,r⟩:=ht;exact⟨t,e,⟨ot,aO _ (f _ _ (aO _ g)),r⟩,sM hk fun b o _ _ e _ _=>aO _ (f _ _ (aO _ e))⟩
 ·rw[qh]at I;refine⟨rfl,h y tk I fun b J e=>kp b J (cy (aU e)) (cy (tQ (aU e) i)) (aO _ (f _ _ (aO _ e)))⟩
end
def putAll(acc:List (TK×V))(kvs:List (TK×V)):List (TK×V):=kvs.foldl (fun a x=>eT a x.1 x.2) acc
theorem um:∀(e a:List (TK×V)),(putAll a e).length<=a.length+e.length
 |[],a=>aP _
 |kv::e,a=>by
  have f:=um e (eT a kv.1 kv.2);have g:=jq a kv.1 kv.2;show(putAll (eT a kv.1 kv.2) e).length<=_;rw[eO];omega
abbrev Fx(K:Za):List V->Hp->VK->Prop:=fun xs H Q=>∃(l:Addr) (ts bs:Ze) (kvs:List (TK×V)),xs=[.ref l]/\au K H l (ts.map V.ref)/\ts.length=kvs.length/\bs.length=kvs.length /\
  (∀(j:Nat) (t b:Addr) (kv:TK×V),ts[j]?=some t->bs[j]?=some b->kvs[j]?=some kv->H t=some (.tup [.ref b,kv.2])/\rW K H kv.1 (.ref b)/\kv.1.depth<=8)/\∀p,H p=none->Q (.ref p) (upd H p (.dT (putAll [] kvs)))
theorem vA{X:Cx}(hc:X.calm=true)(hu:X.A.units+16<cLine):fU X (.type "dict") (Fx X.K):=by
 intro J4 s σ H xs us Q I r h;obtain⟨l,ts,bs,f,rfl,m,v,k,J,q⟩:=h;obtain⟨u,rfl,ru⟩:=vals1 r;cases ru;obtain⟨L,rv,⟨o,n,ho,M,N,O⟩,T⟩:=I.list m;have U:∀(ts bs:Ze) (f:List (TK×V)),ts.length=f.length->bs.length=f.length->(∀(j:Nat) (t b:Addr) (g:TK×V),ts[j]?=some t->bs[j]?=some b->f[j]?=some g->H t=some (.tup [.ref b,g.2])/\rW X.K H g.1 (.ref b)/\g.1.depth<=8)->∃ps:List (TK×Addr×Value),KT X.K H f ps/\∀(j:Nat) (t:Addr) (x:TK×Addr×Value),ts[j]?=some t->ps[j]?=some x->Gw X.prog X.w s.heap (.ref t) x:=by
  intro ts
  induction ts with
  |nil =>
   intro bs f m _ _;cases f with
   |nil=>exact⟨[],.nil,fun j t g e=>by simp at e⟩
   |cons _ _=>cases m
  |cons t ts Y =>
   intro bs f m hb J;cases f with
   |nil=>cases m
   |cons g f =>
    cases bs with
    |nil=>cases hb
    |cons b bs =>
     obtain⟨ps,r1,r2⟩:=Y bs f (by simpa using m) (by simpa using hb) fun j t' b' al a c d=>J (j+1) t' b' al (by simpa using a) (by simpa using c) (by simpa using d);obtain⟨g1,g2,g3⟩:=J 0 t b g rfl rfl rfl;obtain⟨_,an,rt,p⟩:=(show cq X.prog X.w X.K H s.heap t (.tup [.ref b,g.2])from I.hok t _ g1);obtain⟨x,y,e,rx,ry⟩:=rt.two;subst e;cases(show x=Value.ref b from rx);refine⟨(g.1,b,y)::ps,.cons ⟨rfl,g2,g3,ry⟩ r1,fun j t' x' B C=>?_⟩;cases j with
     |zero =>
      simp at B C;subst B C;exact⟨t,rfl,p,xX I.hok I.kIn g2 g3⟩
     |succ j=>exact r2 j t' x' (by simpa using B) (by simpa using C)
 obtain⟨ps,D,pa⟩:=U ts bs f v k J;have E:=rv.length;rw[ag]at E;have ap:=Paired.length D;have all:∀{f:List (TK×V)}{ps:List (TK×Addr×Value)},KT X.K H f ps->∀{acc:List (TK×V)}{acc':List (TK×Addr×Value)},KT X.K H acc acc'->KT X.K H (putAll acc f) (storeAll acc' ps):=by
  intro f ps r
  induction r with
  |nil=>exact fun a=>a
  |@cons p q ps qs h t Y =>
   intro acc acc' a;show KT X.K H (putAll (eT acc p.1 p.2) ps) (storeAll (nF acc' q.1 q.2.1 q.2.2) qs);refine Y ?_;rw[<-h.1];exact a.put p.1 h.2.1 h.2.2.1 h.2.2.2
 refine q0 (prog:=X.prog) (w:=X.w) (ps:=ps) (I.ok.hd hc) hu ho M O N (by rw[b9];omega) (fun j u x a b=>?_) (by rw[b9,<-E];rw[ag]at T;exact T) fun h' tk hD kp=>?_
 ·have a':L[j]?=some u:=by simpa using a
  have hj:j<ts.length:=by
   have:=(bN.mp a').1;omega
  obtain⟨u',e1,r1⟩:=rv.get (i:=j) (x:=V.ref ts[j]) (by simp[hj]);rw[a']at e1;cases e1;cases(show u=Value.ref ts[j]from r1);exact pa j ts[j] x (by simp[hj]) b
 ·have hm:(putAll [] f).length<=aj:=by
   have B:=um f [];rw[nH]at B;rw[ag]at T;omega
  obtain⟨q',es,ep,hq,C,h3,h4,_,h5⟩:=hD;have G:=all D (acc:=[]) (acc':=[]) .nil;have fr:H s.heap.objs.size=none:=I.fresh;exact⟨.ref s.heap.objs.size,_,I.laid (o:=.dT (putAll [] f)) kp (aP _) ⟨hm,beq_eq_false_iff_ne.mpr (hV (cy I.big)),_,G.keeps fun c ys ec=>by rw[am (fun z=>by rw[z,fr]at ec;cases ec)];exact ec,q',es,ep,hq,C,h3,h4,h5⟩,rfl,q _ fr⟩
section
variable{prog:bP}{w:World}{A:Around}{E:Zc}{s:Shared}
theorem CT{z TI TO L M l1 l2:Addr}{k1 k2:Nat}{xs ys:Array Value}{x y a b:Value}{Q:Zc}(D:iS z TI TO L M l1 l2)
  (gz:IsZip s.heap z TI TO .none) (gI:IsPair s.heap TI (.ref L) (.ref M)) (gO:IsPair s.heap TO a b)
  (g1:s.heap.IsListIter L l1 k1) (g2:s.heap.IsTupleIter M l2 k2) (t1:s.heap.IsList l1 xs) (t2:s.heap.IsTuple l2 ys) (hx:xs[k1]?=some x) (hy:ys[k2]?=some y)
  (k:∀N,IsZip N z TI TO (rawInt s.heap.objs.size)->IsPair N TO x y->N.IsListIter L l1 (k1+1)->N.IsTupleIter M l2 (k2+1)->IsPair N s.heap.objs.size x y->N.objs.size=s.heap.objs.size+1 ->
   (∀c o,c≠z->c≠TO->c≠L->c≠M->s.heap.get? c=some o->N.get? c=some o)->Q (.ref s.heap.objs.size) { s with heap:=N }) :
  wpAny (model prog w) A (c9.«zip.__next__» ⟨[.ref z],[]⟩) (fun a4 s'=>∃v,a4=.done (.ret v)/\Q v s') E s:=by
 show wpAny _ _ (field (.ref z) 2 >>= _) _ _ _;refine ai (dE gz rfl (x:=.bool false) rfl ?_);show wpAny _ _ (field (.ref z) 3 >>= _) _ _ _;refine ai (dE gz rfl (x:=.ref TI) rfl ?_);refine ai (hZ gI rfl ?_);show wpAny _ _ (lp (.ref z) >>= _) _ _ _;refine ai ?_;unfold lp;refine ai (dE gz rfl (x:=.none) rfl (aG ?_));simp only[if_true];refine ai (lB ?_);refine ai (dE gz rfl (x:=.ref TO) rfl ?_);refine ai (im gz (by simp) fun m₁ q g=>?_)
 replace q:IsZip m₁ z TI TO .ellipsis:=q
 refine ai ?_;simp only[wX,wW,nE,wV];refine ai (ai (ln ?_));show wpAny _ _ (io (.ref L) >>= _) _ _ _;refine ai (wpAny_nextOf_list_item (g1.extBut g.extBut D.i1z) (t1.extBut g.extBut D.l1z) hx fun m₂ O h=>aG ?_);have B:IsPair m₂ TO a b:=h.extBut _ _ D.TOi1 (g.extBut _ _ D.TOz gO);refine ai (hZ B rfl ?_);refine ai (qj B fun m₃ t i=>?_)
 replace t:IsPair m₃ TO x b:=t
 refine ai (qi (aG ?_));refine ai (ai (ln ?_));show wpAny _ _ (io (.ref M) >>= _) _ _ _;refine ai (iH (((g2.extBut g.extBut D.i2z).extBut h.extBut D.i12.symm).extBut i.extBut D.TOi2.symm)
  (((t2.extBut g.extBut D.l2z).extBut h.extBut D.l2i1).extBut i.extBut D.l2TO) hy fun m₄ T m=>aG ?_)
 have C:IsPair m₄ TO x b:=m.extBut _ _ D.TOi2 t;refine ai (hZ C rfl ?_);refine ai (qj C fun f j n=>?_)
 replace j:IsPair f TO x y:=j
 refine ai (qi (aG (aG ?_)));refine ai (hZ j rfl ?_);refine ai (wpAny_newTuple ?_);have as:f.objs.size=s.heap.objs.size:=by rw[n.1,m.1,i.1,h.1,g.1]
 have G:IsZip f z TI TO .ellipsis:=n.extBut _ _ D.TOz.symm (m.extBut _ _ D.i2z.symm (i.extBut _ _ D.TOz.symm (h.extBut _ _ D.i1z.symm q)));have U:∀c o,c≠z->c≠TO->c≠L->c≠M->s.heap.get? c=some o->f.get? c=some o:=fun c o Y c2 c3 c4 e =>
  n.extBut _ _ c2 (m.extBut _ _ c4 (i.extBut _ _ c2 (h.extBut _ _ c3 (g.extBut _ _ Y e))))
 have al:f.IsListIter L l1 (k1+1):=((O.extBut i.extBut D.TOi1.symm).extBut m.extBut D.i12).extBut n.extBut D.TOi1.symm;have an:f.IsTupleIter M l2 (k2+1):=T.extBut n.extBut D.TOi2.symm;have aC:z<f.objs.size:=aU G;show wpAny _ _ (wU (.ref z) (.ref f.objs.size) >>= _) _ _ _;refine ai ?_;unfold wU;have ap:IsZip (f.push { cls:=.type "tuple",data:=.seq #[x,y] }) z TI TO .ellipsis:=aO _ G;refine ai (im ap (by simp) fun m₇ u H=>?_)
 replace u:IsZip m₇ z TI TO (rawInt f.objs.size):=u
 refine im u (by simp) fun p l I=>?_
 replace l:IsZip p z TI TO (rawInt f.objs.size):=l
 have up:∀c o,c≠z->f.get? c=some o->p.get? c=some o:=fun c o Y e=>I.extBut _ _ Y (H.extBut _ _ Y (aO _ e));have J:IsPair p f.objs.size x y:=I.extBut _ _ (eP aC) (H.extBut _ _ (eP aC) (cu _ rfl));have a0:p.objs.size=f.objs.size+1:=by rw[I.1,H.1,jh]
 rw[as]at l J a0;refine aG ⟨_,rfl,?_⟩;show Q (.ref f.objs.size) _;rw[as];refine k p l (up _ _ D.TOz j) ?_ ?_ J a0 fun c o Y c2 c3 c4 e=>up c o Y (U c o Y c2 c3 c4 e)
 ·obtain⟨o,e,r⟩:=al;exact⟨o,up _ o D.i1z e,r⟩
 ·obtain⟨o,e,r⟩:=an;exact⟨o,up _ o D.i2z e,r⟩
theorem EB{z TI TO v y J L:Addr}{M N:Nat}{O T:Array Value}{a b:Value}{Q:Fin->Shared->Prop}(hh:A.handled=none)(D:iS z TI TO v y J L)
  (B:IsZip s.heap z TI TO .none) (gI:IsPair s.heap TI (.ref v) (.ref y)) (gO:IsPair s.heap TO a b)
  (g1:s.heap.IsListIter v J M) (g2:s.heap.IsTupleIter y L N) (t1:s.heap.IsList J O) (t2:s.heap.IsTuple L T) (U:O[M]?=none∨T[N]?=none)
  (k:∀Y e,(∀c o,c≠z->c≠TO->c≠v->c≠y->s.heap.get? c=some o->Y.get? c=some o)->(∃o,Y.get? e=some o/\o.cls=.type "StopIteration")->E (.ref e) { s with heap:=Y }) :
  wpAny (model prog w) A (c9.«zip.__next__» ⟨[.ref z],[]⟩) Q E s:=by
 show wpAny _ _ (field (.ref z) 2 >>= _) _ _ _;refine ai (dE B rfl (x:=.bool false) rfl ?_);show wpAny _ _ (field (.ref z) 3 >>= _) _ _ _;refine ai (dE B rfl (x:=.ref TI) rfl ?_);refine ai (hZ gI rfl ?_);show wpAny _ _ (lp (.ref z) >>= _) _ _ _;refine ai ?_;unfold lp;refine ai (dE B rfl (x:=.none) rfl (aG ?_));simp only[if_true];refine ai (lB ?_);refine ai (dE B rfl (x:=.ref TO) rfl ?_);refine ai (im B (by simp) fun m₁ i f=>?_)
 replace i:IsZip m₁ z TI TO .ellipsis:=i
 refine ai ?_;simp only[wX,wW,nE,wV];refine ai (ai (ln ?_));show wpAny _ _ (io (.ref v) >>= _) _ _ _;cases hx:O[M]? with
 |none =>
  refine ai (wpAny_nextOf_list_end hh (g1.extBut f.extBut D.i1z) (t1.extBut f.extBut D.l1z) hx fun m₂ e g he=>?_);obtain⟨oe,t,C⟩:=he;have j:IsZip m₂ z TI TO .ellipsis:=g _ _ D.i1z.symm i;have u:e≠z:=fun q=>by subst q;rw[j]at t;cases t;simp at C
  refine im j (by simp) fun n _ h=>k n e (fun c o G _ c3 _ q=>h.extBut _ _ G (g _ _ c3 (f.extBut _ _ G q))) ⟨oe,h.extBut _ _ u t,C⟩
 |some x =>
  have hy:T[N]?=none:=by rcases U with q|q;rw[hx]at q;cases q;exact q
  refine ai (wpAny_nextOf_list_item (g1.extBut f.extBut D.i1z) (t1.extBut f.extBut D.l1z) hx fun m₂ al g=>aG ?_);have l:IsPair m₂ TO a b:=g.extBut _ _ D.TOi1 (f.extBut _ _ D.TOz gO);refine ai (hZ l rfl ?_);refine ai (qj l fun n an h=>?_);refine ai (qi (aG ?_));refine ai (ai (ln ?_));show wpAny _ _ (io (.ref y) >>= _) _ _ _;refine ai (lX hh (((g2.extBut f.extBut D.i2z).extBut g.extBut D.i12.symm).extBut h.extBut D.TOi2.symm)
   (((t2.extBut f.extBut D.l2z).extBut g.extBut D.l2i1).extBut h.extBut D.l2TO) hy fun H e p he=>?_)
  obtain⟨oe,t,C⟩:=he;have m:IsZip H z TI TO .ellipsis:=p _ _ D.i2z.symm (h.extBut _ _ D.TOz.symm (g.extBut _ _ D.i1z.symm i));have u:e≠z:=fun q=>by subst q;rw[m]at t;cases t;simp at C
  refine im m (by simp) fun I _ r=>k I e (fun c o G c2 c3 c4 q=>r.extBut _ _ G (p _ _ c4 (h.extBut _ _ c2 (g.extBut _ _ c3 (f.extBut _ _ G q))))) ⟨oe,r.extBut _ _ u t,C⟩
theorem vx{z TI TO f g h i:Addr}{j l:Nat}{xs ys:Array Value}{x y a b:Value}{Q:Option Value->Shared->Prop}(D:iS z TI TO f g h i)
  (m:IsZip s.heap z TI TO .none) (p:IsPair s.heap TI (.ref f) (.ref g)) (q:IsPair s.heap TO a b)
  (r:s.heap.IsListIter f h j) (t:s.heap.IsTupleIter g i l) (u:s.heap.IsList h xs) (v:s.heap.IsTuple i ys) (hx:xs[j]?=some x) (B:ys[l]?=some y)
  (k:∀e,IsZip e z TI TO (rawInt s.heap.objs.size)->IsPair e TO x y->e.IsListIter f h (j+1)->e.IsTupleIter g i (l+1)->IsPair e s.heap.objs.size x y->e.objs.size=s.heap.objs.size+1 ->
   (∀c o,c≠z->c≠TO->c≠f->c≠g->s.heap.get? c=some o->e.get? c=some o)->Q (some (.ref s.heap.objs.size)) { s with heap:=e }) :
  wpAny (model prog w) A (pyNext (.ref z)) Q E s:=by
 have n:s.TypeIs (.ref z) "zip":=⟨_,m,rfl⟩;unfold pyNext;exact ai (lh (jx (name:=jw "__next__") n lg
  (nk lg n wT
   (CT D m p q r t u v hx B fun e a1 a2 a3 C G H I=>aG (k e a1 a2 a3 C G H I)) (wS _))))
theorem xS{z TI TO f g h i:Addr}{m n:Nat}{xs ys:Array Value}{a b:Value}{Q:Option Value->Shared->Prop}(r:A.handled=none)(D:iS z TI TO f g h i)
  (p:IsZip s.heap z TI TO .none) (t:IsPair s.heap TI (.ref f) (.ref g)) (u:IsPair s.heap TO a b)
  (v:s.heap.IsListIter f h m) (x:s.heap.IsTupleIter g i n) (y:s.heap.IsList h xs) (B:s.heap.IsTuple i ys) (j:xs[m]?=none∨ys[n]?=none)
  (k:∀l,(∀c o,c≠z->c≠TO->c≠f->c≠g->s.heap.get? c=some o->l.get? c=some o)->Q none { s with heap:=l }):wpAny (model prog w) A (pyNext (.ref z)) Q E s:=by
 have q:s.TypeIs (.ref z) "zip":=⟨_,p,rfl⟩;unfold pyNext;refine ai (lh (jx (name:=jw "__next__") q lg
  (nk lg q wT (EB r D p t u v x y B j fun l e kp C=>?_) (wS _))))
 obtain⟨o,G,H⟩:=C;refine ai (vI (T:="StopIteration") (b:=true) ⟨o,G,H⟩ wR ?_);exact aG (k _ kp)
end
abbrev Ka(h:Heap)(l1:Addr):Heap:=h.push { cls:=.type "list_iterator",data:=.fields #[.ref l1,.int 0 0] }
abbrev J_(h:Heap)(l1 l2:Addr):Heap:=(Ka h l1).push { cls:=.type "tuple_iterator",data:=.fields #[.ref l2,.int 0 0] }
abbrev J9(h:Heap)(l1 l2:Addr):Heap:=(J_ h l1 l2).push { cls:=.type "tuple",data:=.seq #[.ref h.objs.size,.ref (Ka h l1).objs.size] }
abbrev JZ(h:Heap)(l1 l2:Addr):Heap:=(J9 h l1 l2).push { cls:=.type "tuple",data:=.seq #[.none,.none] }
abbrev Jh(h:Heap)(l1 l2:Addr):Heap:=(JZ h l1 l2).push { cls:=.type "zip",data:=.fields #[.none,.bool false,.bool false,.ref (J_ h l1 l2).objs.size,.ref (J9 h l1 l2).objs.size] }
theorem Bd(l1 l2:Addr)(a e:Array Value):
  Meets (c9.«zip.__new__» ⟨[.type "zip",.ref l1,.ref l2],[]⟩) (fun _ R s=>s.heap.IsList l1 a/\s.heap.IsTuple l2 e /\
   R (.ok (.ret (.ref (JZ s.heap l1 l2).objs.size))) { s with heap:=Jh s.heap l1 l2 }) :=
 .of_wp fun f w A R s h=>by
  obtain⟨i,g,d,tk,os⟩:=s;obtain⟨k,l,h⟩:=h;have j:=sub_zip;have m:Heap.IsList (wQ ⟨i,g,d,tk,os⟩) l1 a:=k;have n:Heap.IsTuple (wQ ⟨i.push { cls:=.type "list_iterator",data:=.fields #[.ref l1,.int 0 0] },g,d,tk,os⟩) l2 e:=Heap.IsTuple.push l _
  wp_walk using tw m,yR n
  exact⟨_,rfl,h⟩
section
variable{prog:bP}{w:World}{A:Around}{E:Zc}{s:Shared}
theorem Ee{a e:Addr}{xs ys:Array Value}{Q:Zc}(r:s.heap.IsList a xs)(t:s.heap.IsTuple e ys)
  (k:∀f,IsZip f (s.heap.objs.size+4) (s.heap.objs.size+2) (s.heap.objs.size+3) .none->IsPair f (s.heap.objs.size+2) (.ref s.heap.objs.size) (.ref (s.heap.objs.size+1)) ->
   IsPair f (s.heap.objs.size+3) .none .none->f.IsListIter s.heap.objs.size a 0->f.IsTupleIter (s.heap.objs.size+1) e 0->(∀c o,s.heap.get? c=some o->f.get? c=some o)->Q (.ref (s.heap.objs.size+4)) { s with heap:=f }) :
  wpAny (model prog w) A (call (.type "zip") [.ref a,.ref e]) Q E s:=by
 refine callType_new F.called_zip (by decide) (F.typeCall_zip_2 _ _) (F.newCall_zip_2 _ _) (fun g=>F.args_object_init_3 g _ _) F.entry_zip_new
  (Bd a e xs ys) ⟨r,t,?_⟩
 have h:(Ka s.heap a).objs.size=s.heap.objs.size+1:=jh ..;have i:(J_ s.heap a e).objs.size=s.heap.objs.size+2:=by rw[jh,h]
 have j:(J9 s.heap a e).objs.size=s.heap.objs.size+3:=by rw[jh,i]
 have m:(JZ s.heap a e).objs.size=s.heap.objs.size+4:=by rw[jh,j]
 have l:(Jh s.heap a e).get? (JZ s.heap a e).objs.size=some _:=cu _ rfl;have n:(Jh s.heap a e).get? (J9 s.heap a e).objs.size=some _:=aO _ (cu _ rfl);have p:(Jh s.heap a e).get? (J_ s.heap a e).objs.size=some _:=aO _ (aO _ (cu _ rfl));have q:(Jh s.heap a e).get? (Ka s.heap a).objs.size=some _:=aO _ (aO _ (aO _ (cu _ rfl)));have u:(Jh s.heap a e).get? s.heap.objs.size=some _:=aO _ (aO _ (aO _ (aO _ (cu _ rfl))));show _/\_;rw[i,j,m]at l;rw[h,i]at p;rw[j]at n;rw[h]at q;rw[m];exact⟨⟨_,l,rfl⟩,k _ l p n ⟨_,u,rfl,rfl⟩ ⟨_,q,rfl,rfl⟩ fun c o x =>
  aO _ (aO _ (aO _ (aO _ (aO _ x))))⟩
end
def GD(K:Za)(a b:Addr):It :=
  ⟨fun i H=>∃xs ys x y,au K H a xs/\br K H b ys/\xs[i]?=some x/\ys[i]?=some y,
   fun i H x H'=>∃p u v,x=.ref p/\H p=none/\(∀xs,au K H a xs->xs[i]?=some u)/\(∀ys,br K H b ys->ys[i]?=some v)/\H'=upd H p (.tup [u,v]),
   fun i H=>∃xs ys,au K H a xs/\br K H b ys/\(xs.length<=i∨ys.length<=i)⟩
theorem CW{P:bP}{w:World}{K:Za}{es:List Expr}{kx:Nat}{J8:Pos}(a b z TI TO t A:Addr)(D:iS z TI TO t A a b):
  sE P w K (.Tuple es kx J8) (GD K a b) [z,TI,TO,t,A] z (fun i h=>IsZip h z TI TO .none/\IsPair h TI (.ref t) (.ref A)/\(∃a b,IsPair h TO a b)/\h.IsListIter t a i/\h.IsTupleIter A b i) where
 mem:=by simp
 obj:=fun i h st c f=>by
  obtain⟨p,j,⟨u,v,l⟩,M,N⟩:=st;simp only[c8,iR,or_false]at f;rcases f with rfl|rfl|rfl|rfl|rfl
  ·exact⟨_,p,fun v z=>by cases z⟩
  ·exact⟨_,j,fun v z=>by cases z⟩
  ·exact⟨_,l,fun v z=>by cases z⟩
  ·obtain⟨o,e,c,d⟩:=M;exact⟨o,e,fun v z=>by rw[d]at z;cases z⟩
  ·obtain⟨o,e,c,d⟩:=N;exact⟨o,e,fun v z=>by rw[d]at z;cases z⟩
 keep:=fun i h O st k=>by
  obtain⟨p,j,⟨u,v,l⟩,⟨o1,e1,r1⟩,⟨o2,e2,r2⟩⟩:=st;exact⟨k z (by simp) _ p,k TI (by simp) _ j,⟨u,v,k TO (by simp) _ l⟩,⟨o1,k t (by simp) o1 e1,r1⟩,⟨o2,k A (by simp) o2 e2,r2⟩⟩
 item:=by
  intro X hP hw hK f i J4 s σ H E I hf st hg;subst hP hw hK;obtain⟨p,j,⟨u0,v0,l⟩,M,N⟩:=st;obtain⟨xs,ys,x,y,C,G,hx,hy⟩:=hg;obtain⟨J,rx,px,zx⟩:=I.list C;obtain⟨L,ry,py,zy⟩:=I.tuple G;obtain⟨u,hu,ru⟩:=rx.get hx;obtain⟨v,hv,rv⟩:=ry.get hy;refine vx D p j l M N (xs:=J.toArray) (ys:=L.toArray) px.isList py (x:=u) (y:=v) (by simpa using hu) (by simpa using hv) fun O a1 a2 a3 a4 a5 a6 hk=>?_;refine⟨_,rfl,wpAny_letOwnedTupleGo_zip (s:={ s with heap:=O }) a1 fun B as aC=>?_⟩;have g:gy z O B:=aC;have Q:s.heap.objs.size≠z:=eP (aU p);have T:s.heap.objs.size≠TO:=eP (aU l);have U:s.heap.objs.size≠TI:=eP (aU j);have Y:s.heap.objs.size≠t:=by obtain⟨o,ho,_⟩:=M;exact eP (aU ho)
  have al:s.heap.objs.size≠A:=by obtain⟨o,ho,_⟩:=N;exact eP (aU ho)
  have an:IsPair B s.heap.objs.size u v:=g.extBut _ _ Q a5;have I2:Inv X J4 σ (upd H s.heap.objs.size (.tup [x,y])) { s with heap:=B,toks:=s.toks }:=by
   refine I.turnedNew (ch:=[z,TI,TO,t,A]) hf (fun c o f q=>?_) ⟨_,an⟩ (fun _ z=>nomatch z) ⟨by show 2<=aj;decide,[u,v],.cons ru (.cons rv .nil),⟨_,an,rfl,_,rfl⟩⟩;have n1:c≠z:=fun q=>f (by simp[q]);exact g.extBut _ _ n1 (hk c o n1 (fun q=>f (by simp[q])) (fun q=>f (by simp[q])) (fun q=>f (by simp[q])) q)
  have a0:B.IsListIter t a (i+1):=by obtain⟨o,e,r⟩:=a3;exact⟨o,g.extBut _ _ D.i1z e,r⟩
  have a7:B.IsTupleIter A b (i+1):=by obtain⟨o,e,r⟩:=a4;exact⟨o,g.extBut _ _ D.i2z e,r⟩
  refine⟨.ref s.heap.objs.size,_,I2,rfl,⟨_,x,y,rfl,I.fresh,fun zs p=>by rw[I.list_inj p C];exact hx,fun zs p=>by rw[I.tuple_inj p G];exact hy,rfl⟩,⟨as,g.extBut _ _ D.TIz (hk _ _ D.TIz D.TITO D.TIi1 D.TIi2 j),⟨_,_,g.extBut _ _ D.TOz a2⟩,a0,a7⟩,fun c f=>?_⟩;have a8:=(hf c f).1;simp only[c8,iR,or_false]at f;have ne:c≠s.heap.objs.size:=by
   rcases f with rfl|rfl|rfl|rfl|rfl
   ·exact Q.symm
   ·exact U.symm
   ·exact T.symm
   ·exact Y.symm
   ·exact al.symm
  rw[am ne];exact a8
 done:=by
  intro X hP hw hK f i J4 s σ H E I hf st hg;subst hP hw hK;obtain⟨p,j,⟨u0,v0,l⟩,M,N⟩:=st;obtain⟨xs,ys,C,G,ap⟩:=hg;obtain⟨J,rx,px,zx⟩:=I.list C;obtain⟨L,ry,py,zy⟩:=I.tuple G;have lx:=rx.length;have ly:=ry.length;refine xS (I.ok.hd f) D p j l M N (xs:=J.toArray) (ys:=L.toArray) px.isList py (by rcases ap with q|q;exact .inl (by simp;omega);exact .inr (by simp;omega)) fun O hk=>⟨rfl,?_⟩;have tr:∀c q,H c=some q->c∉[z,TI,TO,t,A]:=fun c q e m=>by rw[(hf c m).1]at e;cases e
  have kk:∀c o,c∉[z,TI,TO,t,A]->s.heap.get? c=some o->O.get? c=some o:=fun c o f q=>hk c o (fun q=>f (by simp[q])) (fun q=>f (by simp[q])) (fun q=>f (by simp[q])) (fun q=>f (by simp[q])) q;refine I.step (g':=s.gens) (d':=s.drawn) (t':=s.toks) (ch:=[z,TI,TO,t,A]) (fun c f=>?_) (fun c o _ _ f e _=>kk c o f e) (fun c o _ _ f e _=>⟨o.slots,kk c o f e⟩) (fun _ _ _ _ n=>n) (fun c o f e=>⟨o,kk c o f e⟩) (fun _ _ e=>e) (fun _ _ _ e=>e) (fun c ps e=>⟨#[],by rw[e];simp⟩) (fun m hm=>?_) (fun c q e=>?_) I.bare
  ·obtain⟨f0,f1,f2,f3,f4,f5⟩:=hf c f;exact⟨f3,f1,f4,f5⟩
  ·obtain⟨q,a9,ep,ho,r⟩:=hm;exact⟨q,a9,ep,kk _ q (fun z=>(hf _ z).2.1 rfl) ho,r⟩
  ·refine(I.hok c q e).stay (fun d v hd q'=>kk d v ?_ q') (fun _ q=>q) fun _ _ q=>q;rcases hd with z|z
   ·subst z;exact tr _ _ e
   ·exact tr _ _ z
 self:=fun _ _ _ _ _ st h=>qq st.1 h
section
variable{X:Cx}{p pos:Pos}{es:List Expr}{kx:Nat}{J8:Pos}
def Ik(K:Za)(ta:TA):TI:=fun σ H R=>ta σ H fun vs H1=>∃a b,vs=[.ref a,.ref b]/\(∃xs,au K H1 a xs)/\(∃ys,br K H1 b ys)/\R (GD K a b) H1
theorem Hl{a b:Expr}{y:TA}(C:Gl X "zip")(D:X.mg "zip"=none)(E:PA X [a,b] y)(G:aQ [a,b] X.env=[(false,eval a X.env),(false,eval b X.env)]:=by rfl)(f:aQ [b] X.env=[(false,eval b X.env)]:=by rfl):
  PI X (.Tuple es kx J8) (.Call (.Name "zip" p) [a,b] [] pos) (Ik X.K y):=by
 intro j s σ H R I h;refine Call_ (lY I C D boot_zip (vH (dk (E pos j s σ H _ I h) fun us s1 k=>?_) (by rw[G,f]) (by rw[f];rfl)));obtain⟨vs,l,g,J,L⟩:=k;obtain⟨M,N,e,⟨xs,hx⟩,⟨ys,O⟩,q⟩:=L;subst e;obtain⟨u,v,rfl,Q,T⟩:=vals2 J;cases Q;cases T;have m:∀b∈[s1.heap.objs.size+4,s1.heap.objs.size+2,s1.heap.objs.size+3,s1.heap.objs.size,s1.heap.objs.size+1],mW X j l b:=fun b z=>by
  have i:s1.heap.objs.size<=b:=by
   simp only[c8,iR,or_false]at z;rcases z with rfl|rfl|rfl|rfl|rfl<;>omega
  exact g.fpOk i (g.hok.fresh i)
 obtain⟨n,rx,A,zx⟩:=g.list hx;obtain⟨r,ry,B,zy⟩:=g.tuple O;obtain⟨o1,n1,U,_⟩:=id A;obtain⟨o2,Y,_⟩:=id B;refine Ee (xs:=n.toArray) (ys:=r.toArray) A.isList B fun t a1 a2 a3 a4 a5 hk=>?_;refine qq (s:={ s1 with heap:=t }) a1 ?_;have x:∀b o,s1.heap.get? b=some o->t.get? b=some o:=hk;have I2:Inv X j σ l { s1 with heap:=t }:=g.kept (t':=s1.toks) x;exact⟨_,_,_,_,l,rfl,I2,CW M N _ _ _ _ _ (zipApart_new (aU U) (aU Y)),⟨a1,a2,⟨_,_,a3⟩,a4,a5⟩,m,q⟩
end
theorem F_{K:Za}{a b:Addr}{xs ys:List V}{g:TG}{l:TS}{D:oE}{σ:St}{H:Hp}(o:xs.length<=ys.length)(Pv:Nat->St->Hp->Prop)(q:Pv 0 σ H)(r:∀i σ H,i<=xs.length->Pv i σ H->au K H a xs/\br K H b ys)
  (s:∀i x y σ H p,xs[i]?=some x->ys[i]?=some y->Pv i σ H->H p=none->g (.ref p) σ (upd H p (.tup [x,y])) fun σ2 h=>l { D with nx:=Pv (i+1),ct:=Pv (i+1),bk:=D.nx } σ2 h) (z:∀σ H,Pv xs.length σ H->D.nx σ H) :
  ∃W:Nat->Nat->St->Hp->Prop,(∃m,W 0 m σ H)/\∀i m σ H,W i m σ H ->
   ((GD K a b).stop i H/\D.nx σ H)∨((GD K a b).go i H/\∃N:St->Hp->Prop,(∀σ' f,N σ' f->∃n,n<m/\W (i+1) n σ' f)/\∀x f,(GD K a b).yld i H x f->g x σ f fun σ2 h=>l { D with nx:=N,ct:=N,bk:=D.nx } σ2 h):=by
 refine⟨fun i m σ H=>m=xs.length-i/\i<=xs.length/\Pv i σ H,⟨xs.length,by simp,c7 _,q⟩,?_⟩;rintro i m σ H ⟨rfl,hi,p⟩;obtain⟨j,k⟩:=r i σ H hi p;by_cases lt:i<xs.length
 ·refine .inr ⟨⟨xs,ys,xs[i],ys[i],j,k,by simp[lt],by simp⟩,Pv (i+1),fun σ' f A=>⟨xs.length-(i+1),by omega,rfl,lt,A⟩,fun x f y=>?_⟩;obtain⟨t,u,v,rfl,B,C,E,rfl⟩:=y;exact s i u v σ H t (C xs j) (E ys k) p B
 ·have e:i=xs.length:=by omega
  subst e;exact .inl ⟨⟨xs,ys,j,k,.inl (aP _)⟩,z σ H p⟩
def JE(K:Za)(n:Nat)(t:CM):TG:=fun v σ H Q=>∃a xs,v=.ref a/\au K H a xs/\xs.length=n/\t xs σ H Q
theorem IG{X:Cx}{g:Pos}{f:List Expr}{k:Nat}{t:CM}{n:Nat}(x:X.calm=true)(h:JL X f t)
  (y:(rD f X.env).length=n:=by rfl) (i:(rD f X.env).findIdx? (·.1)=none:=by rfl):PG X (.Tuple f k g) (JE X.K n t):=by
 intro p s σ H v u Q I r j;obtain⟨a,z,A,B,C,j⟩:=j;subst A;cases r;obtain⟨l,q,D,J⟩:=I.list B;have m:l.toArray.size=n:=by rw[b9,<-q.length,C]
 rw[assign_Tuple];refine ai (BV ?_);unfold unpack;rw[i,y,<-m];refine ai (kR (PySem.W.kun_itemsOf (I.ok.hd x) D.isList fun E hx=>?_));have G:Inv X p σ H { s with heap:=E }:=I.kept (t':=s.toks) fun b o e=>hx b o (cy (aU e)) e;exact h p _ σ H z _ Q G (by simpa using q) j
end L2
end

section
set_option Elab.async false
set_option linter.all false
set_option maxRecDepth 100000
namespace HT
open PySem PyProof.Rows
end HT
namespace L2
open PySem PySem.Spec PyProof.Rows
section
variable{X:Cx}
theorem ck{l:List Expr}{p:Pos}{a:List Expr}{e:TE}{t:TA}(f:PE X (.List l p) e)(g:PA X a t):PA X (.List l p::a) (ar e t):=bc f g rfl
theorem qsL(i:Nat){x:Str}{l:List Expr}{p e a:Pos}{f:TE}(g:X.N.Nodup)(h:PE X (.List l p) f)(hi:X.N[i]?=some x:=by rfl)(hx:Loc X.env.scope x:=by first|exact Or.inl rfl|exact Or.inr rfl)(hf:X.fn x=true∨X.env.scope.names.lookup x=some .local:=by first|exact .inl rfl|exact .inr rfl|assumption):
  PS X (.Assign [.Name x a] (.List l p) e) (bf f (dX i)):=FA g hi hx h rfl hf
end
end L2
end
set_option Elab.async false
set_option linter.all false
set_option maxRecDepth 100000
set_option maxHeartbeats 4000000
namespace Mum
open PySem PySem.Spec PyProof.Rows L2
def xn(K:Za):TS :=
 aw (df (bj (aK rGeI V0 (aK H_ (tC (.int 10)) (tC (.int 18))))) (bt V0) (bQ))
 (aw (bf (aK jk (aK fk (aK fk (aK jP (aK jk V0 (tC (.int 1000000007))) (tC (.int 69069))) (aK jP V1 (tC (.int 40503)))) (tC (.int 977))) (tC (.int 2147483629))) U2)
 (aw (bf (aK jk (aK fk (aK fk (aK jP V2 V2) (aK jP V1 (tC (.int 7919)))) (aK jk V0 (tC (.int 65537)))) (tC (.int 2147483587))) U3)
 (aw (bf (aK jk (aK fk (aK fk (aK jP V3 V3) (aK jP V2 (tC (.int 31)))) (tC (.int 5))) (tC (.int 2147483563))) U4)
 (bt (aK fk (aK jP (aK fk (aK jP V2 (tC (.int 2147483659))) V3) (tC (.int 2147483693))) V4)))))
def yC:List Str:=["cell","at","one","two","three"]
def AI(K:Za):TS :=
 aw (bf (eE (dF K) (aB (ER (xL K) V0 (g_) (kS (tC (.int 12)))))) U1)
 (aw (d6 (uF K (aB (ER (xL K) V0 (kS (tC (.int 12))) (kS (tC (.int 63)))))) (i7 K 2 (bA U2 (bA U3 (ir)))) (bf (aK fk (aK (dH K) V1 (aK jk V2 (tC (.int 12)))) V3) (DU V1 (aK jk V2 (tC (.int 12))) vT)))
 (bt (bF (dQ V1 (tC (.int 0)) (tC (.int 0))))))
def BE:List Str:=["script","cells","k","cell"]
def AG(K:Za)(sp_law_spread:Sp):TS :=
 aw (df (bj (aK Hi (aK (dH K) V0 (tC (.int 2))) V1)) (aw (bf (aK (dH K) V0 (tC (.int 1))) U2)
 (aw (bf (tC (.int 0)) U3)
 (aw (df (bj (aK Hi V2 (eE (fV K) (aB (aK (dH K) V0 (tC (.int 0))))))) (bf (aK (dH K) (aK (dH K) V0 (tC (.int 0))) V2) U3) (df (bj (aK A8 (eE (fV K) (aB (aK (dH K) V0 (tC (.int 0))))) (tC (.int 0)))) (bf (aK jk (aK (dH K) (aK (dH K) V0 (tC (.int 0))) (aK jk (aK fk (aK jP V2 (tC (.int 5))) (tC (.int 3))) (eE (fV K) (aB (aK (dH K) V0 (tC (.int 0))))))) (aK fk (aK H_ (tC (.int 10)) (tC (.int 17))) V2)) U3) (bQ)))
 (aw (bf (aK fk V2 (tC (.int 1))) (DU V0 (tC (.int 1)) vT))
 (bf (aN sp_law_spread (aJ V3 V2)) (DU V0 (tC (.int 2)) vT)))))) (bQ))
 (aw (bf (aK jk (aK (dH K) V0 (tC (.int 2))) V1) U4)
 (aw (bf (aK Fw (aK (dH K) V0 (tC (.int 2))) V1) (DU V0 (tC (.int 2)) vT))
 (bt V4)))
def BC:List Str:=["pen","many","at","cell","found"]
def y8(K:Za)(sp_law_take:Sp):TS :=
 aw (bf (tC (.str "abcdefghijklmnopqrstuvwxyz")) U2)
 (aw (bf (vm K "str" (Ia K) (tC (.str "")) (ar (cv 1 [2,0] (uE (aB (tC (.int 7)))) U0 (ip) (aK A7 V1 (aN sp_law_take (aJ V2 (tC (.int 26)))))) aY)) U3)
 (aw (bf (aN sp_law_take (aJ V0 (tC (.int 3)))) U4)
 (aw (bf (aN sp_law_take (aJ V0 (tC (.int 26)))) U5)
 (aw (bf (aN sp_law_take (aJ V0 (tC (.int 8)))) U6)
 (aw (bf (bF (aY)) U7)
 (aw (d6 (uE (aB V1)) U8 (aw (bf (aK A7 V2 (aK jk (aK fk V5 (aK jP (tC (.int 3)) V8)) (tC (.int 26)))) U9)
 (aw (bf (ER Dy V3 (g_) (kS (aK jk (aK fk V6 (aK jP V8 (aK jk V4 (tC (.int 2))))) (tC (.int 8))))) U10)
 (aw (bf (aK (dH K) (bF (dQ (tC (.int 0)) (eE (fV K) (aB IZ)) (aK Fw (eE (fV K) (aB IZ)) (tC (.int 2))))) V4) U11)
 (c_ (vm K "list" d_ V7 (aB (aK Fy (aK Fy (ER Dy IZ (g_) (kS JJ)) V9) (ER Dy IZ (kS JJ) (g_))))))))))
 (bt V7)))))))
def As:List Str:=["pen","many","letters","base","way","turn","size","found","k","sign","part","at"]
def C_(K:Za):TS :=
 df (bj (aK (jB K true) V1 V0)) (c_ (vm K "list" d_ V0 (aB V1))) (bQ)
def Em:List Str:=["doors","door"]
def qG(K:Za)(sp_law_take:Sp)(sp_law_put:Sp):TS :=
 aw (bf (bF (aY)) U5)
 (aw (bf (aN sp_law_take (aJ V0 (tC (.int 2)))) U6)
 (aw (d6 (uF K (aB V3)) (i7 K 2 (bA U7 (bA U8 (ir)))) (aw (d6 (uE (ar (aK (dH K) (bF (ar (tC (.int 0)) (dQ (tC (.int 1)) (tC (.int 1)) (tC (.int 2))))) (aN sp_law_take (aJ V0 (tC (.int 4))))) aY)) U9 (aw (bf (bX (ar (tC (.str "say")) (ar (aK (dH K) V2 (aN sp_law_take (aJ V0 (eE (fV K) (aB V2))))) aY))) U10)
 (c_ (aN sp_law_put (ar V5 (ar (bX (ar V8 (ar IZ (ar (aK (dH K) V3 (aN sp_law_take (aJ V0 (eE (fV K) (aB V3))))) aY)))) aY))))))
 (aw (d6 (bG K V1) U11 (d6 (uE (ar (aK (dH K) (bF (ar V4 (dQ (tC (.int 1)) (tC (.int 1)) (tC (.int 2))))) (aN sp_law_take (aJ V0 (tC (.int 4))))) aY)) U9 (c_ (aN sp_law_put (ar V5 (ar (bX (ar V8 (ar (bX (aJ (tC (.str "ask")) JJ)) (ar (aK (dH K) V3 (aN sp_law_take (aJ V0 (eE (fV K) (aB V3))))) aY)))) aY))))))
 (aw (bf (aK (dH K) (bF (ar (ER (xL K) V3 (kS (aK fk V7 (tC (.int 1)))) (g_)) (aB (ER (xL K) V3 (g_) (kS V7))))) V6) U12)
 (df (su (bj (aK (zD K) Ji (bF (aY)))) (bj (aK Fv (aN sp_law_take (aJ V0 (tC (.int 3)))) (tC (.int 0))))) (c_ (aN sp_law_put (ar V5 (ar (bX (ar V8 (ar (bX (aB (tC (.str "still")))) (ar (aK (ij K) Ji (aN sp_law_take (aJ V0 (eE (fV K) (aB Ji))))) aY)))) aY)))) (bQ))))))
 (bt V5)))
def rh:List Str:=["pen","asks","says","rooms","full","doors","down","k","room","turn","sign","ask","later"]
def va(K:Za)(C_Machine:Addr)(sp_Machine_init:Sp):TS :=
 bt (Cb C_Machine sp_Machine_init [] E0 (ar (eE (dF K) (aB (aK (ij K) V0 (tC (.int 0))))) (ar (eE (dF K) (aB (aK (ij K) V0 (tC (.int 1))))) (ar (eE (dF K) (aB (aK (ij K) V0 (tC (.int 2))))) (ar (eE (dF K) (aB (aK (ij K) V0 (tC (.int 3))))) aY)))))
def vC:List Str:=["told"]
def Db(K:Za):TS :=
 bt (o5 (aK Ke V0 (tC (.str ""))) (o5 (aK ID (eE (fV K) (aB V0)) (tC (.int 8))) (eE (Hk K) (aB (cv 1 [] (JB V0) U0 (ip) (aK rInS V0 (tC (.str "abcdefghijklmnopqrstuvwxyz"))))))))
def En:List Str:=["text"]
def Dc(K:Za):TS :=
 aw (bf (uf) U1)
 (aw (d6 (bG K V0) U2 (pq V1 V2 (tC (.bl true))))
 (bt V1))
def Eo:List Str:=["things","keys","thing"]
def nO(K:Za)(sp_is_name:Sp)(sp_as_keys:Sp):TS :=
 aw (df (bj (aK Fv (eE (fV K) (aB V0)) (tC (.int 0)))) (bt (tC (.int 0))) (bQ))
 (aw (bf (aN sp_as_keys (aB V2)) U3)
 (aw (d6 (uF K (aB V0)) (i7 K 2 (bA U4 (bA U5 (ir)))) (aw (df (Dd (bj (aK Fv V4 V1)) (Dd (tB (zk K V5 V3)) (oQ (tB (aN sp_is_name (aB V5)))))) (bt V4) (bQ))
 (pq V3 V5 (tC (.bl true)))))
 (bt (tC .non))))
def ow:List Str:=["names","most","taken","ahead","number","name"]
def xr(K:Za)(a_STILL:Addr):TS :=
 bt (aK mU (aK mU (cv 1 [] (bG K V0) U0 (ip) (bX (aJ (tC (.str "ask")) V0))) (cv 1 [] (bG K V1) U0 (ip) (bX (aJ (tC (.str "say")) V0)))) (bF (aB (tC (.ref a_STILL)))))
def yF:List Str:=["asks","says"]
def nP(K:Za)(sp_as_keys:Sp):TS :=
 aw (bf (aN sp_as_keys (aB V1)) U3)
 (aw (bf (xC) U4)
 (aw (d6 (uF K (aB V0)) (i7 K 2 (bA U5 (bA U6 (ir)))) (aw (df (Dd (bj (aK Fv V5 (tC (.int 2000)))) (tB (zk K V6 V4))) (bt V5) (bQ))
 (aw (df (Dd (tB (o0 K (aK (ij K) V6 (tC (.int 0))) V3)) (Dd (bj (aK (jB K true) (aK (ij K) V6 (tC (.int 1))) V2)) (tB (o0 K (aK (ij K) V6 (tC (.int 2))) V3)))) (bt V5) (bQ))
 (pq V4 V6 (tC (.bl true))))))
 (bt (tC .non))))
def ox:List Str:=["doors","rooms","signs","own_rooms","ahead","number","door"]
def je(K:Za):TS :=
 aw (bf (xC) U1)
 (aw (d6 (bG K V0) (i7 K 3 (bA U2 (bA U3 (bA U4 (ir))))) (c_ (vm K "list" d_ (vm K "dict" Cd V1 (aJ (bX (ar V2 (aB V3))) (bF (aY)))) (aB V4))))
 (bt V1))
def jg:List Str:=["doors","goals","start","sign","goal"]
def t3(K:Za)(a_STILL:Addr):TS :=
 aw (bf (uf) U2)
 (aw (bf (bF (aB V1)) U3)
 (aw (AM (bj (aK A8 (eE (fV K) (aB V3)) (tC (.int 0)))) (aw (bf (Jp K "list" Jt V3) U4)
 (d6 (JC K (ug K V0 (bX (aJ V4 (tC (.ref a_STILL)))) (bX (aY)))) U5 (df (tB (o0 K V5 V2)) (aw (pq V2 V5 (tC (.bl true)))
 (c_ (vm K "list" d_ V3 (aB V5)))) (bQ)))))
 (bt V2)))
def uW:List Str:=["goals","room","led","waiting","here","goal"]
def oP(K:Za):TS :=
 aw (d6 (uF K (aB V0)) (i7 K 2 (bA U2 (bA U3 (ir)))) (df (tB (zk K V3 (vQ K V1 V3))) (bt V2) (bQ)))
 (bt (tC .non))
def pY:List Str:=["rooms","led","number","room"]
def yV(K:Za):TS :=
 df (tB (HY V1)) (nU) (bQ)
def An:List Str:=["part","number"]
def xm(K:Za)(sp_need_none:Sp)(sp_first_wrong_door:Sp)(sp_door_signs:Sp)(sp_first_wrong_name:Sp):TS :=
 aw (c_ (aN sp_need_none (aJ (tC (.str "asks")) (aN sp_first_wrong_name (dQ V0 (tC (.int 4)) (bF (aY)))))))
 (aw (c_ (aN sp_need_none (aJ (tC (.str "says")) (aN sp_first_wrong_name (dQ V1 (tC (.int 4)) V0)))))
 (aw (c_ (aN sp_need_none (aJ (tC (.str "rooms")) (aN sp_first_wrong_name (dQ V2 (tC (.int 150)) (bF (aY)))))))
 (c_ (aN sp_need_none (ar (tC (.str "doors")) (aB (aN sp_first_wrong_door (dQ V3 V2 (aN sp_door_signs (aJ V0 V1))))))))))
def yB:List Str:=["asks","says","rooms","doors"]
def qJ(K:Za):TS :=
 aw (bf (uf) U2)
 (aw (d6 (bG K V0) U3 (pq V2 V3 (bF (aY))))
 (aw (d6 (bG K V1) U4 (c_ (vm K "list" d_ (vQ K V2 (aK (ij K) V4 (tC (.int 0)))) (aB V4))))
 (bt V2)))
def rm:List Str:=["rooms","doors","leaving","room","door"]
def qH(K:Za):TS :=
 bt (eE (Hk K) (ar (cv 1 [] (bG K V0) U0 (ip) (aK Fv (aK (ij K) (aK (ij K) V0 (tC (.int 1))) (tC (.int 0))) (tC (.str "ask")))) aY))
def rj:List Str:=["doors"]
def nS(K:Za)(sp_need_none:Sp)(sp_first_led_round:Sp)(sp_led_by_still:Sp)(sp_goals_by_start_and_sign:Sp)(sp_as_keys:Sp)(sp_has_asks_alone:Sp)(sp_doors_by_start:Sp)(sp_need_parts:Sp):TS :=
 aw (c_ (aN sp_need_parts (ar V1 (dQ V2 V3 V4))))
 (aw (xH K V0 (eE (dF K) (aB V1)) "own_asks")
 (aw (xH K V0 (eE (dF K) (aB V2)) "own_says")
 (aw (xH K V0 (eE (dF K) (aB V3)) "own_rooms")
 (aw (xH K V0 (eE (dF K) (aB V4)) "own_doors")
 (aw (xH K V0 (aN sp_doors_by_start (aJ V3 V4)) "leaving")
 (aw (xH K V0 (aN sp_as_keys (ar (cv 1 [0] (bG K V3) U0 (tB (aN sp_has_asks_alone (aB (vQ K (si K V1 "leaving") V0)))) V0) aY)) "quiet")
 (aw (xH K V0 (aN sp_goals_by_start_and_sign (aB V4)) "sign_goals")
 (aw (xH K V0 (eE (Hj K) (ar (cv 1 [0] (bG K V3) U0 (ip) (bX (aJ V0 (aN sp_led_by_still (ar (si K V1 "sign_goals") (aB V0)))))) aY)) "still_led")
 (c_ (aN sp_need_none (aJ (tC (.str "still")) (aN sp_first_led_round (ar V3 (aB (si K V0 "still_led")))))))))))))))
def oA:List Str:=["self","asks","says","rooms","doors"]
def nR(K:Za):TS :=
 bt (zk K V1 (si K V0 "quiet"))
def oz:List Str:=["self","room"]
def m8(K:Za)(sp_with_still:Sp)(C_Machine:Addr)(sp_Machine_goals:Sp)(a_HUSH:Addr)(sp_Machine_is_quiet:Sp):TS :=
 aw (df (bj (aK (jQ K) V2 (tC (.ref a_HUSH)))) (bt (eE (Cc K) (aB (cv 1 [0] (DQ K V1) U0 (tB (bR C_Machine "is_quiet" sp_Machine_is_quiet [] E0 V1 (aB V0))) V0)))) (bQ))
 (aw (bf (bF (aY)) U3)
 (aw (d6 (DQ K V1) U4 (c_ (vm K "list" pC V3 (aB (bR C_Machine "goals" sp_Machine_goals [] E0 V0 (aJ V4 V2))))))
 (bt (aN sp_with_still (aJ V0 V3)))))
def ng:List Str:=["M","face","sign","goals","room"]
def eI(p:Addr)(H H':Hp):Prop:=∀b o,H b=some o->b≠p->H' b=some o
theorem eI.refl(p:Addr)(H:Hp):eI p H H:=fun _ _ h _=>h
theorem eI.trans{p:Addr}{H e f:Hp}(a:eI p H e)(b:eI p e f):eI p H f:=fun c o h n=>b c o (a c o h n) n
theorem ab.exB{p:Addr}{H e:Hp}(a:ab H e):eI p H e:=fun b o h _=>a b o h
theorem eI.upd(p:Addr)(H:Hp)(o:HO):eI p H (upd H p o):=fun b u h n=>by rw[am n];exact h
theorem ab.new{H:Hp}{a:Addr}{o:HO}(h:H a=none):ab H (upd H a o):=fun b u e=>by rw[am (ae e h)];exact e
theorem eI.free{p:Addr}{H a:Hp}(e:eI p H a){u:HO}(f:a p=some u){l:Addr}(h:a l=none):H l=none:=by
 cases q:H l with
 |none=>rfl
 |some o =>
  by_cases z:l=p
  ·subst z;rw[f]at h;cases h
  ·rw[e l o q z]at h;cases h
theorem kp{H:Hp}{a b:Addr}{o x:HO}(h:H b=some o)(n:H a=none):upd H a x b=some o:=by rw[am (ae h n)];exact h
structure CN(H:Hp)(p c:Addr)(at_ rest:Int)(ns:List Int):Prop where
 pen:H p=some (.lst [.ref c,.int at_,.int rest])
 cells:H c=some (.lst (ns.map V.int))
 at0:0<=at_
 rest0:0<=rest
theorem CN.ne{H:Hp}{p c:Addr}{a r:Int}{g:List Int}(h:CN H p c a r g):c≠p:=by
 intro e;have i:=h.pen;have f:=h.cells;rw[e,i]at f;injection f with f;injection f with f;cases g with
 |nil=>cases f
 |cons n g=>injection f with f;cases f
def ii(H:Hp)(p c:Addr):Prop:=∃a r ns,CN H p c a r ns
theorem ii.ex{H H':Hp}{p c:Addr}(h:ii H p c)(e:ab H H'):ii H' p c:=by
 obtain⟨a,r,f,g,i,j,k⟩:=h;exact⟨a,r,f,e _ _ g,e _ _ i,j,k⟩
theorem ii.pen{H:Hp}{p c:Addr}(h:ii H p c):∃o,H p=some o:=by
 obtain⟨a,r,f,e,_⟩:=h;exact⟨_,e⟩
theorem ii.cell{H:Hp}{p c:Addr}(h:ii H p c):∃o,H c=some o:=by
 obtain⟨a,r,f,_,e,_⟩:=h;exact⟨_,e⟩
theorem ii.upd{H:Hp}{p c l:Addr}{o:HO}(h:ii H p c)(e:p≠l)(f:c≠l):ii (upd H l o) p c:=by
 obtain⟨a,r,g,i,j,k,m⟩:=h;exact⟨a,r,g,by rw[am e];exact i,by rw[am f];exact j,k,m⟩
theorem ii.nep{H:Hp}{p c l:Addr}(h:ii H p c)(a:H l=none):p≠l:=let⟨_,e⟩:=h.pen;ae e a
theorem ii.nec{H:Hp}{p c l:Addr}(h:ii H p c)(a:H l=none):c≠l:=let⟨_,e⟩:=h.cell;ae e a
theorem eI.new{p:Addr}{H:Hp}{a:Addr}{o:HO}(h:H a=none):eI p H (L2.upd H a o):=fun b u e _=>by rw[am (ae e h)];exact e
inductive mi (vs:List V)(H:Hp)(Q:VK)(E:XK):Prop
 |mk (c a:Int):(vs=[.int c,.int a])->(0<=a)->(∀r:Int,0<=r->Q (.int r) H)->mi  vs H Q E
theorem pT{i j:Int}(a:-(2 ^ 64)<j)(e:j<2 ^ 64):GF i j:=.inr ⟨a,e⟩
theorem Dj{K:Za}{f:List V}{H:Hp}{Q:VK}{E:XK}(h:mi f H Q E):xn K (bS Q) (start yC f) H:=by
 obtain⟨c,a,rfl,y,k⟩:=h;refine⟨_,rfl,_,_,rfl,rfl,⟨by decide,by decide,by decide⟩,_,_,rfl,rfl,_,rfl,?_⟩;refine kz (fun h=>?_) (fun _=>?_)
 ·refine⟨_,rfl,k _ ?_⟩;have:=of_decide_eq_true h;have e:((10:Int) ^ (18:Int).toNat)=1000000000000000000:=by decide
  omega
 ·have one:∀z:Int,0<=z % 2147483629/\z % 2147483629<2147483629:=fun z=>⟨qe _ (by decide),qd _ (by decide)⟩;have two:∀z:Int,0<=z % 2147483587/\z % 2147483587<2147483587:=fun z=>⟨qe _ (by decide),qd _ (by decide)⟩;have three:∀z:Int,0<=z % 2147483563/\z % 2147483563<2147483563:=fun z=>⟨qe _ (by decide),qd _ (by decide)⟩;refine⟨_,rfl,_,_,rfl,rfl,(by show(0:Int)<1000000007;decide),_,_,rfl,rfl,pT (by decide) (by decide),_,rfl,_,_,rfl,rfl,pT (by decide) (by decide),_,_,rfl,rfl,_,_,rfl,rfl,_,_,rfl,rfl,(by show(0:Int)<2147483629;decide),?_⟩;generalize l:(c % 1000000007 * 69069+a * 40503+977)=g;obtain⟨m,n⟩:=one g;generalize g % 2147483629=o at m n ⊢;refine⟨_,rfl,_,rfl,_,_,rfl,rfl,pT (by omega) (by omega),_,rfl,_,_,rfl,rfl,pT (by decide) (by decide),_,_,rfl,rfl,_,rfl,_,_,rfl,rfl,(by show(0:Int)<65537;decide),_,_,rfl,rfl,_,_,rfl,rfl,(by show(0:Int)<2147483587;decide),?_⟩;generalize p:(o * o+a * 7919+c % 65537)=i;obtain⟨s,t⟩:=two i;generalize i % 2147483587=q at s t ⊢;refine⟨_,rfl,_,rfl,_,_,rfl,rfl,pT (by omega) (by omega),_,rfl,_,_,rfl,rfl,pT (by decide) (by decide),_,_,rfl,rfl,_,_,rfl,rfl,_,_,rfl,rfl,(by show(0:Int)<2147483563;decide),?_⟩;generalize u:(q * q+o * 31+5)=j;obtain⟨v,x⟩:=three j;generalize j % 2147483563=r at v x ⊢;refine⟨_,rfl,_,_,rfl,rfl,pT (by decide) (by decide),_,rfl,_,_,rfl,rfl,_,_,rfl,rfl,pT (by decide) (by decide),_,rfl,_,_,rfl,rfl,k _ ?_⟩;omega
theorem CG{ns:List Int}{a:Int}(e:0<=a)(g:a<ns.length):∃z,yM (ns.map V.int) a=some (.int z):=by
 obtain⟨n,rfl⟩:=j9 e;have f:n<ns.length:=by omega
 exact⟨ns[n],cp (by simp[f])⟩
inductive f8 (vs:List V)(H:Hp)(Q:VK)(E:XK):Prop
 |mk (p c:Addr) (m:Int):(vs=[.ref p,.int m])->(ii H p c)->(0<m)->(m<1073741824)->(∀(r:Int) (H':Hp),0<=r->r<m->ii H' p c->eI p H H'->Q (.int r) H')->f8  vs H Q E
theorem ff{H:Hp}{Q:VK}{E:XK}{p c:Addr}{m:Int}(e:ii H p c)(f:0<m)(g:m<1073741824)(k:∀(r:Int) (a:Hp),0<=r->r<m->ii a p c->eI p H a->Q (.int r) a):f8 [.ref p,.int m] H Q E:=by
 exact⟨p,c,m,rfl,e,f,g,k⟩
theorem G_{K:Za}{t:List V}{H:Hp}{Q:VK}{E:XK}(h:f8 t H Q E):AG K mi (bS Q) (start BC t) H:=by
 obtain⟨p,c,m,rfl,⟨a,r,ns,h⟩,j,l,k⟩:=h;have f:∀(H':Hp) (n u:Int) (x y:Option V),CN H' p c n u ns->eI p H H' ->
   (aw (bf (aK jk (aK (dH K) V0 (tC (.int 2))) V1) U4) (aw (bf (aK Fw (aK (dH K) V0 (tC (.int 2))) V1) (DU V0 (tC (.int 2)) vT)) (bt V4)))
    (bS Q) [some (.ref p),some (.int m),x,y,none] H':=by
  intro H' n u x y g ex;refine⟨_,rfl,p,_,2,_,rfl,rfl,au.of g.pen,rfl,_,rfl,_,_,rfl,rfl,j,?_⟩;refine⟨_,rfl,p,_,2,_,rfl,rfl,au.of g.pen,rfl,_,rfl,_,_,rfl,rfl,⟨j,l⟩,_,rfl,p,_,_,_,rfl,rfl,g.pen,rfl,?_⟩;refine⟨_,rfl,k _ _ (qe _ (by omega)) (qd _ j) ⟨n,_,ns,aa,?_,g.at0,Int.ediv_nonneg g.rest0 (by omega)⟩ (ex.trans (eI.upd _ _ _))⟩;rw[am g.ne];exact g.cells
 refine⟨_,rfl,p,_,2,_,rfl,rfl,au.of h.pen,rfl,_,rfl,_,_,rfl,rfl,_,rfl,?_⟩;refine kz (fun C=>?_) (fun C=>?_)
 ·-- at=pen[1];cell=0;if at<len(pen[0])
  refine⟨_,rfl,p,_,1,_,rfl,rfl,au.of h.pen,rfl,?_⟩;have o:(V.int ((ns.map V.int).length:Nat))=V.int (ns.length:Nat):=by rw[ag]
  refine⟨_,rfl,_,rfl,p,_,0,_,rfl,rfl,au.of h.pen,rfl,.inl ⟨c,_,rfl,.inl (au.of h.cells),_,_,rfl,o,_,rfl,?_⟩⟩;refine kz (fun v=>?_) (fun v=>?_)
  ·obtain⟨z,s⟩:=CG (ns:=ns) h.at0 (of_decide_eq_true v);refine⟨_,rfl,p,_,0,_,rfl,rfl,au.of h.pen,rfl,_,rfl,c,_,_,_,rfl,rfl,au.of h.cells,s,?_⟩;refine⟨_,rfl,_,_,rfl,rfl,_,rfl,p,_,_,_,rfl,rfl,h.pen,rfl,?_⟩;refine⟨_,rfl,_,rfl,_,_,rfl,h.at0,fun q i=>⟨_,rfl,p,_,_,_,rfl,rfl,aa,rfl,?_⟩⟩;rw[sL];refine f _ (a+1) q _ _ ⟨aa,by rw[am h.ne];exact h.cells,by have:=h.at0;omega,i⟩ (eI.upd _ _ _)
  ·refine⟨_,rfl,p,_,0,_,rfl,rfl,au.of h.pen,rfl,.inl ⟨c,_,rfl,.inl (au.of h.cells),_,_,o,rfl,_,rfl,?_⟩⟩;refine kz (fun A=>?_) (fun A=>?_)
   ·have B:(0:Int)<ns.length:=of_decide_eq_true A;obtain⟨z,s⟩:=CG (ns:=ns) (a:=(a * 5+3) % (ns.length:Int)) (qe _ (by omega)) (qd _ B);refine⟨_,rfl,p,_,0,_,rfl,rfl,au.of h.pen,rfl,_,rfl,_,_,rfl,rfl,pT (by decide) (by decide),_,_,rfl,rfl,_,rfl,p,_,0,_,rfl,rfl,au.of h.pen,rfl,.inl ⟨c,_,rfl,.inl (au.of h.cells),_,_,rfl,o,B,c,_,_,_,rfl,rfl,au.of h.cells,s,?_⟩⟩;refine⟨_,_,rfl,rfl,⟨by decide,by decide,by decide⟩,_,rfl,_,_,rfl,rfl,_,_,rfl,rfl,?_,?_⟩
    ·have e:((10:Int) ^ (17:Int).toNat)=100000000000000000:=by decide
     have:=h.at0;show(0:Int)<10 ^ (17:Int).toNat+a;omega
    refine⟨_,rfl,_,_,rfl,rfl,_,rfl,p,_,_,_,rfl,rfl,h.pen,rfl,?_⟩;refine⟨_,rfl,_,rfl,_,_,rfl,h.at0,fun q i=>⟨_,rfl,p,_,_,_,rfl,rfl,aa,rfl,?_⟩⟩;rw[sL];refine f _ (a+1) q _ _ ⟨aa,by rw[am h.ne];exact h.cells,by have:=h.at0;omega,i⟩ (eI.upd _ _ _)
   ·refine⟨_,rfl,_,_,rfl,rfl,_,rfl,p,_,_,_,rfl,rfl,h.pen,rfl,?_⟩;refine⟨_,rfl,_,rfl,_,_,rfl,h.at0,fun q i=>⟨_,rfl,p,_,_,_,rfl,rfl,aa,rfl,?_⟩⟩;rw[sL];refine f _ (a+1) q _ _ ⟨aa,by rw[am h.ne];exact h.cells,by have:=h.at0;omega,i⟩ (eI.upd _ _ _)
 ·exact f H a r _ _ h (eI.refl _ _)
inductive sQ(K:Za)(vs:List V)(H:Hp)(Q:VK)(E:XK):Prop
 |mk (a:Addr) (ns:List Int):(vs=[.ref a])->(au K H a (ns.map V.int))->(ns.length<=63)->(∀(p c:Addr) (H':Hp),H p=none->ii H' p c->ab H H'->Q (.ref p) H')->sQ K vs H Q E
theorem wc(a:List Int)(lo hi:Option Int):∃e:List Int,j1 (a.map V.int) lo hi=e.map V.int/\e.length=(j1 (a.map V.int) lo hi).length:=by
 refine⟨(a.drop (HT.sIx (a.map V.int).length 0 lo)).take (HT.sIx (a.map V.int).length (a.map V.int).length hi-HT.sIx (a.map V.int).length 0 lo),?_,?_⟩
 ·unfold j1;rw[List.map_take,List.map_drop]
 ·unfold j1;rw[aM,aM,jz,jz,ag]
theorem Hc{K:Za}{vs:List V}{H:Hp}{Q:VK}{E:XK}(h:sQ K vs H Q E):AI K (bS Q) (start BE vs) H:=by
 obtain⟨a,s,rfl,hs,hn,k⟩:=h;obtain⟨G,e0,l0⟩:=wc s none (some 12);obtain⟨C,e1,l1⟩:=wc s (some 12) (some 63);have I:C≠[]->G.length=12:=by
  intro M;have l:0<C.length:=by cases C with|nil=>exact absurd rfl M|cons _ _=>simp
  rw[l1]at l;rw[l0];unfold j1 at l ⊢;rw[aM,jz,ag]at l;rw[aM,jz,ag];have s1:HT.sIx s.length 0 (some 12)=min 12 s.length:=HT.sIx_nat _ _ 12;have s2:HT.sIx s.length s.length (some 12)=min 12 s.length:=HT.sIx_nat _ _ 12;rw[HT.sIx_none,s2];rw[s1]at l;omega
 refine⟨_,rfl,_,rfl,a,_,rfl,hs,fun q hq=>.inl ⟨q,_,rfl,.inl (au.of aa),fun c D=>?_⟩⟩;rw[e0]at D ⊢;have N:H c=none:=by
  have:c≠q:=fun z=>by subst z;rw[aa]at D;cases D
  rw[am this]at D;exact D
 have hS:ab H (upd (upd H q (.lst (G.map V.int))) c (.lst (G.map V.int))):=(ab.new hq).trans (ab.new D);refine⟨_,rfl,_,rfl,_,rfl,a,_,rfl,hS.seq hs,fun r O=>⟨r,rfl,⟨_,au.of aa⟩,?_⟩⟩;rw[e1];have T:c≠r:=ae aa O
 let U:Nat->L2.St->Hp->Prop:=fun i σ A=>HR fun(j:List Int) (x y:Option V)=>GA (σ=[some (.ref a),some (.ref c),x,y]) (A c=some (.lst (j.map V.int))) (j.length=G.length) (A r=some (.lst (C.map V.int))) (ab H A)
 refine l5 (xs:=C.map V.int) U
  ⟨G,none,none,rfl,kp aa O,rfl,aa,hS.trans (ab.new O)⟩ (fun i σ A _ zq=>by obtain⟨j,x,y,_,_,_,h,_⟩:=zq;exact au.of h) ?_ ?_
 ·rintro i x σ A t hi ⟨j,u,v,rfl,f,J,L,m⟩ Y;have B:i<C.length:=by
   have:=(bN.mp hi).1;rwa[ag]at this
  have ap:=I (fun z=>by rw[z]at B;simp at B);obtain⟨z,rfl⟩:∃z,x=V.int z:=by
   rw[du,ik B]at hi;exact⟨_,(fj hi).symm⟩
  have g:upd A t (.tup [.int i,.int z]) c=some (.lst (j.map V.int)):=kp f Y;have n:(i:Int) % 12=((i % 12:Nat):Int):=by omega
  have al:i % 12<j.length:=by omega
  refine⟨t,_,rfl,br.of aa,rfl,_,_,rfl,_,_,rfl,rfl,?_⟩;have an:yM (j.map V.int) ((i:Int) % 12)=some (.int j[i % 12]):=by rw[n];exact cp (by simp[al])
  refine⟨_,rfl,_,rfl,_,_,rfl,rfl,(by show(0:Int)<12;decide),c,_,_,_,rfl,rfl,au.of g,an,_,rfl,_,_,rfl,rfl,_,rfl,_,rfl,_,_,rfl,rfl,(by show(0:Int)<12;decide),c,_,_,i % 12,rfl,rfl,g,?_,?_⟩
  ·rw[n];unfold Ij;rw[if_pos (by omega),if_pos (by rw[ag];omega)];rw[jA]
  ·refine⟨j.set (i % 12) (j[i % 12]+z),_,_,rfl,?_,by rw[List.length_set];exact J,?_,?_⟩
   ·rw[aa,List.map_set]
   ·rw[am T.symm];exact kp L Y
   ·intro b o e;rw[am (ae e N)];exact kp (m b o e) Y
 ·rintro σ A ⟨j,x,y,rfl,f,J,L,m⟩;refine⟨_,rfl,(by show 3<=aj;decide),fun p hp=>k p c _ (m.free hp) ⟨0,0,j,aa,kp f hp,Int.le_refl _,Int.le_refl _⟩ (m.trans (ab.new hp))⟩
def uz(c:Nat):Prop:=97<=c/\c<=122
structure oC(w:Str):Prop where
 lo:1<=w.length
 hi:w.length<=8
 al:∀c∈w.cps.toList,uz c
theorem CI:∀n:Nat,n<26->(("abcdefghijklmnopqrstuvwxyz":Str).cps.toList)[n]?=some (97+n):=by decide +kernel
theorem CH:("abcdefghijklmnopqrstuvwxyz":Str).length<=aj:=by decide +kernel
theorem Gv{r:Int}(a:0<=r)(e:r<26):yM (("abcdefghijklmnopqrstuvwxyz":Str).cps.toList) r=some (97+r.toNat):=by
 obtain⟨n,rfl⟩:=j9 a;rw[jA];exact cp (CI n (by omega))
theorem vy(f:List Nat):∀a:Array Nat,((f.map fun c=>(⟨#[c]⟩:Str)).foldl (fun a p=>a++("":Str).cps++p.cps) a).toList=a.toList++f:=by
 have e:("":Str).cps=#[]:=by decide +kernel
 induction f with
 |nil=>intro a;simp
 |cons c f g =>
  intro a;rw[cg,List.foldl_cons,g,e];simp
theorem Bh(a:List Nat):(wO "" (a.map fun c=>(⟨#[c]⟩:Str))).cps.toList=a:=by
 unfold wO c9.Str.glued;cases a with
 |nil=>rfl
 |cons c a =>
  rw[cg];show((a.map fun c=>(⟨#[c]⟩:Str)).foldl (fun e p=>e++("":Str).cps++p.cps) #[c]).toList=_;rw[vy]
  rfl
theorem GX{a b:Str}(h:a.cps.toList=b.cps.toList):a=b:=by
 cases a with|mk x=>cases b with|mk y=>exact congrArg Str.mk (Array.toList_inj.mp h)
theorem fC(a:Str):a.length=a.cps.toList.length:=by simp[Str.length]
theorem yt(a b:Str):(a++b).cps.toList=a.cps.toList++b.cps.toList:=by
 show(a.cps++b.cps).toList=_;simp
theorem Gk(z:Str)(m:Nat):(uJ z none (some (m:Int))).cps.toList=z.cps.toList.take m:=by
 unfold uJ;rw[HT.sIx_none,HT.sIx_nat,qh,wH,fC];show List.take _ _=_;rw[List.take_eq_take_iff];omega
theorem Gm(z:Str)(m:Nat):(uJ z (some (m:Int)) none).cps.toList=z.cps.toList.drop m:=by
 unfold uJ;rw[HT.sIx_none,HT.sIx_nat,fC];show List.take _ _=_;rw[List.take_of_length_le (by rw[jz];omega)];by_cases h:m<=z.cps.toList.length
 ·rw[Nat.min_eq_left h]
 ·rw[Nat.min_eq_right (by omega),List.drop_length,tK (by omega)]
def fe(way size k:Nat):Nat:=(size+k * (way % 2)) % 8
def Av(way m:Nat):Nat:=if way=0 then 0 else if way=1 then m else m / 2
def m7(b:List Nat)(way turn size k:Nat):List Nat :=
 (b.take (fe way size k)).take (Av way (fe way size k))++[97+(turn+3 * k) % 26]++(b.take (fe way size k)).drop (Av way (fe way size k))
def yS(b:List Nat)(way turn size k:Nat):Str:=⟨(m7 b way turn size k).toArray⟩
theorem qz{b:List Nat}(f:b.length=7)(e turn a k:Nat):(m7 b e turn a k).length=fe e a k+1:=by
 have g:fe e a k<8:=tF _ (by decide);unfold m7;rw[aS,aS,aM,jz,aM,f];have:Av e (fe e a k)<=fe e a k:=by unfold Av;split;omega;split;omega;omega
 simp;omega
theorem GK{b:List Nat}(i:b.length=7)(g:∀c∈b,uz c)(f turn a k:Nat):oC (yS b f turn a k):=by
 have j:fe f a k<8:=tF _ (by decide);have h:=qz i f turn a k;have e:(yS b f turn a k).cps.toList=m7 b f turn a k:=by simp[yS]
 refine⟨?_,?_,?_⟩
 ·rw[fC,e];omega
 ·rw[fC,e];omega
 ·rw[e];intro c hc;unfold m7 at hc;rcases bx.mp hc with hc|hc
  ·rcases bx.mp hc with hc|hc
   ·exact g c (j8 (j8 hc))
   ·have:c=97+(turn+3 * k) % 26:=by simpa using hc
    subst this;have:(turn+3 * k) % 26<26:=tF _ (by decide);exact⟨by omega,by omega⟩
  ·exact g c (j8 (List.mem_of_mem_drop hc))
theorem EC{b:List Nat}(g:b.length=7){f turn a:Nat}(t:f<3){j k:Nat}(u:j<26)(v:k<26)(h:yS b f turn a j=yS b f turn a k):j=k:=by
 have o:∀i,fe f a i<8:=fun i=>tF _ (by decide);have e:m7 b f turn a j=m7 b f turn a k:=by
  have:=congrArg (fun s=>Str.cps s |>.toList) h;simpa[yS]using this
 have p:fe f a j=fe f a k:=by
  have:=congrArg List.length e;rw[qz g,qz g]at this;omega
 have q:97+(turn+3 * j) % 26=97+(turn+3 * k) % 26:=by
  have l:∀i,Av f (fe f a i)<=fe f a i:=fun i=>by unfold Av;split;omega;split;omega;omega
  have get:∀i,(m7 b f turn a i)[Av f (fe f a i)]?=some (97+(turn+3 * i) % 26):=by
   intro i;unfold m7;have r:((b.take (fe f a i)).take (Av f (fe f a i))).length=Av f (fe f a i):=by
    rw[aM,aM,g];have:=o i;have:=l i;omega
   rw[dZ,xf (by omega),r,Nat.sub_self]
   rfl
  have m:=get j;have n:=get k;rw[e,p]at m;rw[m]at n;exact fj n
 omega
def eX(ws:Zb):Prop:=ws.Nodup/\∀w∈ws,oC w
def kb(b:List Nat)(way turn size n:Nat):List Str:=(mY n).map (yS b way turn size)
theorem Az{b:List Nat}(g:b.length=7)(i:∀c∈b,uz c){a turn e n:Nat}(l:a<3)(q:n<=26):eX (kb b a turn e n):=by
 refine⟨?_,fun w m=>?_⟩
 ·unfold kb;rw[List.nodup_iff_pairwise_ne,iQ];refine(List.nodup_range (n:=n)).imp_of_mem ?_;intro j k o p f h;exact f (EC g l (by have:=List.mem_range.mp o;omega) (by have:=List.mem_range.mp p;omega) h)
 ·obtain⟨k,_,rfl⟩:=aA.mp m;exact GK g i _ _ _ _
inductive lF (vs:List V)(H:Hp)(Q:VK)(E:XK):Prop
 |mk (p c:Addr) (n:Nat):(vs=[.ref p,.int n])->(ii H p c)->(n<=26)->(∀(l:Addr) (ws:Zb) (H':Hp),eX ws->ws.length=n->H l=none->H' l=some (.lst (ws.map V.str))->ii H' p c->eI p H H'->Q (.ref l) H')->lF  vs H Q E
theorem Fj{K:Za}{B:List V}{H:Hp}{Q:VK}{E:XK}(h:lF B H Q E):y8 K f8 (bS Q) (start As B) H:=by
 obtain⟨p,c,n,rfl,D,hn,k⟩:=h;refine⟨rfl,7,rfl,by decide,by decide,fun l J=>?_⟩
 let a0:Nat->List V->Hp->Prop:=fun i B u=>∃o:List Nat,B=o.map (fun c=>V.str ⟨#[c]⟩)/\o.length=i/\(∀c∈o,uz c)/\ii u p c/\eI p H u/\u l=some (.lst B)
 refine Bs (lo:=0) (n:=Int.toNat 7) a0
  ⟨[],rfl,rfl,(fun _ h=>nomatch h),D.ex (ab.new J),eI.new J,aa⟩ (fun i B u _ zq=>by obtain⟨_,_,_,_,_,_,h⟩:=zq;exact h) ?_ ?_
 rotate_left
 ·rintro i B u hi ⟨o,rfl,g,y,v,a4,a5⟩;have L:=D.nep J;have a6:=D.nec J;refine gN (nM ?_);refine⟨_,rfl,_,rfl,ff v (by decide) (by decide) fun r H2 h0 h1 G s=>⟨_,r,_,rfl,rfl,CH,Gv h0 h1,?_⟩⟩;have a7:=s l _ a5 L.symm;refine⟨a7,by rw[ag,g];exact ao (by omega),jo hi ⟨o++[97+r.toNat],by rw[av];rfl,by rw[aS,g];rfl,?_,G.upd L a6,?_,aa⟩⟩
  ·intro x hc;rcases bx.mp hc with hc|hc
   ·exact y x hc
   ·have:x=97+r.toNat:=by simpa using hc
    subst this;exact⟨by omega,by omega⟩
  ·intro b o' e nb;rw[am (ae e J)];exact s b o' (a4 b o' e nb) nb
 ·rintro B H1 ⟨o,rfl,g,y,a8,M,a9⟩;refine⟨"",l,o.map fun c=>(⟨#[c]⟩:Str),rfl,rfl,au.of (by rw[a9,qb];rfl),?_,?_⟩
  ·have e0:("":Str).length=0:=by decide +kernel
   rw[e0,Nat.mul_zero,qb];have:∀o:List Nat,(o.map ((fun x=>Str.length x) ∘ fun c=>(⟨#[c]⟩:Str))).sum=o.length:=by
    intro o
    induction o with
    |nil=>rfl
    |cons c o ih=>rw[cg,List.sum_cons,ih,eO];show 1+_=_;omega
   rw[this,g];decide
  refine⟨_,rfl,ff a8 (by decide) (by decide) fun b0 H2 w0 w1 G s=>?_⟩;refine⟨_,rfl,ff G (by decide) (by decide) fun turn H3 t0 t1 bb N=>?_⟩;refine⟨_,rfl,ff bb (by decide) (by decide) fun bp H4 s0 s1 O T=>?_⟩;have U:eI p H H4:=((M.trans s).trans N).trans T;obtain⟨j,rfl⟩:=j9 w0;obtain⟨I,rfl⟩:=j9 t0;obtain⟨sz,rfl⟩:=j9 s0;have hb:=Bh o;generalize wO "" (o.map fun c=>(⟨#[c]⟩:Str))=base at hb ⊢;refine⟨(by show 0<=aj;decide),fun f hf=>?_⟩;obtain⟨op,bi⟩:=O.pen;have z:H f=none:=U.free bi hf;have Y:=D.nep z;have al:=D.nec z;refine⟨_,rfl,n,rfl,by omega,by omega,jZ (lo:=0) (n:=((n:Int)).toNat) (fun i σ u=>∃(a b c' d:Option V),σ=[some (.ref p),some (.int n),some (.str "abcdefghijklmnopqrstuvwxyz"),some (.str base),some (.int j),some (.int I),some (.int sz),some (.ref f),a,b,c',d] /\
   ii u p c/\eI p H u/\u f=some (.lst ((kb o j I sz i).map V.str)))
   ⟨_,_,_,_,rfl,O.upd Y al,U.trans (eI.new hf),aa⟩ ?_ ?_⟩
  ·rintro i σ u hi ⟨a,b,c',d,rfl,v,t,A⟩;have b1:i<n:=by omega
   have b2:j<3:=by omega
   have bl:((I:Int)+3 * (0+(i:Int))) % 26=(((I+3 * i) % 26:Nat):Int):=by omega
   refine⟨_,rfl,_,rfl,_,rfl,_,_,rfl,rfl,.inl ⟨by decide,by decide⟩,_,_,rfl,rfl,_,_,rfl,rfl,(by show(0:Int)<26;decide),_,_,_,rfl,rfl,CH,Gv (qe _ (by decide)) (qd _ (by decide)),?_⟩;have an:base.length<=aj:=by rw[fC,hb,g];decide
   have e8:((sz:Int)+(0+(i:Int)) * ((j:Int) % 2)) % 8=((fe j sz i:Nat):Int):=by
    unfold fe;have:j=0∨j=1∨j=2:=by omega
    rcases this with rfl|rfl|rfl<;>simp<;>omega
   refine⟨_,rfl,_,rfl,_,rfl,_,rfl,_,_,rfl,rfl,(by show(0:Int)<2;decide),_,_,rfl,rfl,.inr ⟨by omega,by omega⟩,_,_,rfl,rfl,_,_,rfl,rfl,(by show(0:Int)<8;decide),_,rfl,base,rfl,an,?_⟩;rw[e8];have m:=Gk base (fe j sz i);rw[hb]at m;generalize uJ base none (some ((fe j sz i:Nat):Int))=part at m ⊢;have h8:fe j sz i<8:=tF _ (by decide);have C:part.length=fe j sz i:=by rw[fC,m,aM,g];omega
   have pz:part.length<=aj:=by rw[C];exact cV (ao (by omega))
   refine⟨_,rfl,.inr ⟨part,rfl,pz,_,rfl,.inr ⟨part,rfl,pz,_,_,rfl,rfl,⟨by decide,by decide⟩,(by show 3<=aj;decide),fun q hq=>?_⟩⟩⟩;have ap:H q=none:=by
    obtain⟨b3,as⟩:=v.pen;exact t.free as hq
   have bn:yM [V.int 0,V.int (part.length:Nat),V.int ((part.length:Int) / 2)] (j:Int)=some (.int (Av j (fe j sz i):Nat)):=by
    rw[C];have:j=0∨j=1∨j=2:=by omega
    rcases this with rfl|rfl|rfl
    ·rfl
    ·rfl
    ·show some (V.int (((fe 2 sz i:Nat):Int) / 2))=some (V.int ((Av 2 (fe 2 sz i):Nat):Int));have:Av 2 (fe 2 sz i)=fe 2 sz i / 2:=rfl;rw[this];congr 2
   refine⟨_,rfl,q,_,_,_,rfl,rfl,au.of aa,bn,?_⟩;have aC:upd u q (.lst [V.int 0,V.int (part.length:Nat),V.int ((part.length:Int) / 2)]) f=some (.lst ((kb o j I sz i).map V.str)):=kp A hq;have c1:=Gk part (Av j (fe j sz i));have c2:=Gm part (Av j (fe j sz i));have l1:(uJ part none (some ((Av j (fe j sz i):Nat):Int))).length<=8:=by rw[fC,c1,aM,m,aM,g];omega
   have l2:(uJ part (some ((Av j (fe j sz i):Nat):Int)) none).length<=8:=by rw[fC,c2,jz,m,aM,g];omega
   refine⟨_,rfl,.inl ⟨rfl,_,au.of aC⟩,_,rfl,_,rfl,_,rfl,part,rfl,pz,_,rfl,_,_,rfl,rfl,?_,_,rfl,_,rfl,_,rfl,part,rfl,pz,_,_,rfl,rfl,?_,f,_,_,rfl,rfl,aC,?_,?_⟩
   ·have:Str.length ⟨#[97+(((I:Int)+3 * (0+(i:Int))) % 26).toNat]⟩=1:=rfl;rw[this];exact cV (ao (by omega))
   ·rw[fC,yt,aS,<-fC,<-fC];have:Str.length ⟨#[97+(((I:Int)+3 * (0+(i:Int))) % 26).toNat]⟩=1:=rfl;rw[this];exact cV (ao (by omega))
   ·rw[ag];unfold kb;rw[ag,List.length_range];exact ao (by omega)
   ·refine⟨_,_,_,_,rfl,(v.upd (D.nep ap) (D.nec ap)).upd Y al,?_,?_⟩
    ·intro b' o' e nb;rw[am (ae e z)];exact kp (t b' o' e nb) hq
    ·rw[aa];unfold kb;rw[List.range_succ,av,av];congr 3;show[V.str _]=[V.str _];congr 2;refine GX ?_;rw[yt,yt,c1,c2,m,bl,jA];simp[yS,m7]
  ·rintro σ u ⟨a,b,c',d,rfl,v,t,A⟩;have en:((n:Int)).toNat=n:=by omega
   rw[en]at A;exact⟨_,rfl,k f _ u (Az g y (by omega) hn) (by unfold kb;rw[ag,List.length_range]) z A v t⟩
structure ak where
 a:Str
 sg:List Str
 b:Str
deriving DecidableEq
def SignAt(H:Hp)(s:Addr)(sg:Zb):Prop:=H s=some (.tup (sg.map V.str))
def gU(H:Hp)(t:Addr)(d:ak):Prop:=∃s,H t=some (.tup [.str d.a,.ref s,.str d.b])/\SignAt H s d.sg
def j7(H H':Hp):Prop:=∀b xs,H b=some (.tup xs)->H' b=some (.tup xs)
theorem gU.kt{H H':Hp}{t:Addr}{d:ak}(k:j7 H H')(h:gU H t d):gU H' t d:=by
 obtain⟨s,a,e⟩:=h;exact⟨s,k _ _ a,k _ _ e⟩
theorem eI.kt{p:Addr}{H a:Hp}{f:List V}(e:eI p H a)(g:H p=some (.lst f)):j7 H a:=fun b i h=>e b _ h (fun z=>by rw[z,g]at h;cases h)
theorem ab.kt{H a:Hp}(e:ab H a):j7 H a:=fun b f h=>e b _ h
theorem j7.trans{H e f:Hp}(a:j7 H e)(b:j7 e f):j7 H f:=fun x g h=>b x g (a x g h)
theorem cU{H:Hp}{l:Addr}{a:List V}{o:HO}(h:H l=some (.lst a)):j7 H (upd H l o):=fun b f e=>by
 rw[am (fun z=>by rw[z,h]at e;cases e)];exact e
abbrev cA(H:Hp)(ts:Ze)(ds:List ak):Prop:=Paired (gU H) ts ds
theorem Paired.get{α β:Type}{R:α->β->Prop}{a:List α}{e:List β}{i:Nat}{y:β}(g:Paired R a e)(h:e[i]?=some y):∃x,a[i]?=some x/\R x y:=by
 induction g generalizing i with
 |nil=>cases h
 |cons r _ f =>
  cases i with
  |zero=>injection h with h;subst h;exact⟨_,rfl,r⟩
  |succ i=>exact f h
theorem Paired.getL{α β:Type}{R:α->β->Prop}{a:List α}{e:List β}{i:Nat}{x:α}(g:Paired R a e)(h:a[i]?=some x):∃y,e[i]?=some y/\R x y:=by
 induction g generalizing i with
 |nil=>cases h
 |cons r _ f =>
  cases i with
  |zero=>injection h with h;subst h;exact⟨_,rfl,r⟩
  |succ i=>exact f h
theorem cA.kt{H H':Hp}{a:Ze}{e:List ak}(k:j7 H H')(h:cA H a e):cA H' a e:=Paired.mapP h fun _ _ r=>r.kt k
theorem Iz{H:Hp}{a:Addr}{o:HO}(h:H a=some o):upd H a o=H:=by
 funext b;by_cases e:b=a
 ·subst e;rw[aa,h]
 ·rw[am e]
def cB(x:Str):DT:=.k (.inr x)
def sB(d:ak):DT:=.t [cB d.a,.t (d.sg.map cB),cB d.b]
theorem pk{x y:Str}(h:cB x=cB y):x=y:=by
 unfold cB at h;injection h with h;injection h
theorem fQ:∀{x y:Zb},x.map cB=y.map cB->x=y
 |[],[],_=>rfl
 |[],_::_,h=>by cases h
 |_::_,[],h=>by cases h
 |a::x,b::y,h=>by
  rw[cg,cg]at h;injection h with e f;rw[pk e,fQ f]
theorem HJ{x y:ak}(h:sB x=sB y):x=y:=by
 unfold sB at h;injection h with h;injection h with e h;injection h with a h;injection h with f h;injection a with a;cases x;cases y;simp only at *;rw[pk e,fQ a,pk f]
theorem dD(a:Zb):DT.depths (a.map cB)=0:=by
 induction a with
 |nil=>rfl
 |cons x a e=>rw[cg];show max (DT.depth (cB x)) (DT.depths _)=0;rw[e];rfl
theorem yf(d:ak):(sB d).depth=2:=by
 show DT.depths [cB d.a,.t (d.sg.map cB),cB d.b]+1=2;show max (DT.depth (cB d.a)) (max (DT.depths (d.sg.map cB)+1) (max (DT.depth (cB d.b)) 0))+1=2;rw[dD]
 rfl
theorem DY(a:List ak):DT.depths (a.map sB)<=8:=by
 induction a with
 |nil=>exact c7 _
 |cons x e f=>rw[cg];show max (DT.depth (sB x)) (DT.depths _)<=8;rw[yf];omega
theorem gk{K:Za}{H:Hp}:∀a:List Str,DIns K H (a.map cB) (a.map V.str)
 |[]=>by show DIns K H [] [];unfold DIns;rfl
 |x::a=>by
  rw[cg,cg];unfold DIns;refine⟨_,_,rfl,?_,gk a⟩;unfold cB gV
  rfl
theorem l6{K:Za}{H:Hp}(x:Str):gV K H (cB x) (.str x):=by unfold cB gV;rfl
theorem bw{K:Za}{H:Hp}{s:Addr}{a:Zb}(h:br K H s (a.map V.str)):gV K H (.t (a.map cB)) (.ref s):=by
 unfold gV;exact⟨s,_,rfl,h,gk _⟩
theorem gU.dIn{K:Za}{H:Hp}{t:Addr}{d:ak}(h:gU H t d):gV K H (sB d) (.ref t):=by
 obtain⟨s,a,e⟩:=h;unfold sB;unfold gV;refine⟨t,_,rfl,br.of a,?_⟩;unfold DIns;refine⟨_,_,rfl,l6 _,?_⟩;unfold DIns;refine⟨_,_,rfl,bw (br.of e),?_⟩;unfold DIns;refine⟨_,_,rfl,l6 _,?_⟩;unfold DIns
 rfl
theorem cA.dIns{K:Za}{H:Hp}{a:Ze}{e:List ak}(h:cA H a e):DIns K H (e.map sB) (a.map V.ref):=by
 induction h with
 |nil=>show DIns K H [] [];unfold DIns;rfl
 |cons r _ f =>
  rw[cg,cg];unfold DIns;exact⟨_,_,rfl,r.dIn,f⟩
theorem Cq{d:ak}{a:List ak}:sB d∈a.map sB↔d∈a:=by
 constructor
 ·intro h;obtain⟨x,hx,e⟩:=aA.mp h;rw[<-HJ e];exact hx
 ·exact e_
def pF(ds:List ak)(d:ak):List ak:=if d∈ds then ds else ds++[d]
inductive qQ (vs:List V)(H:Hp)(Q:VK)(E:XK):Prop
 |mk (l t:Addr) (ts:Ze) (ds:List ak) (d:ak):(vs=[.ref l,.ref t])->(H l=some (.lst (ts.map V.ref)))->(cA H ts ds)->(gU H t d)->(ds.length<=1000)->(∀ts':List Addr,cA H ts' (pF ds d)->Q .non (upd H l (.lst (ts'.map V.ref))))->qQ  vs H Q E
theorem IC{K:Za}{i:List V}{H:Hp}{Q:VK}{E:XK}(h:qQ i H Q E):C_ K (bS Q) (start Em i) H:=by
 obtain⟨l,t,j,g,d,rfl,a,e,m,n,k⟩:=h;refine⟨_,rfl,_,rfl,sB d,g.map sB,l,_,m.dIn,rfl,.inl (au.of a),e.dIns,by rw[yf];decide,DY g,_,rfl,?_⟩;by_cases f:d∈g
 ·rw[if_pos rfl,zzr1 (Cq.mpr f)];refine bv ?_;have:=k j (by unfold pF;rw[if_pos f];exact e);rw[Iz a]at this;exact this
 ·rw[if_pos rfl,zzr0 (fun z=>f (Cq.mp z))];refine cr ?_;refine⟨_,rfl,.inl ⟨rfl,_,au.of a⟩,_,rfl,l,_,_,rfl,rfl,a,?_,?_⟩
  ·rw[ag,Paired.length e];exact ao n
  ·have:=k (j++[t]) (by unfold pF;rw[if_neg f];exact fF e m);rw[av]at this;exact this
structure DI(R:ak->Prop)(H0:Hp)(p c l:Addr)(m:Nat)(H:Hp):Prop where
 pen:ii H p c
 ds:∃ts ds,H l=some (.lst (ts.map V.ref))/\cA H ts ds/\ds.Nodup/\(∀d∈ds,R d)/\ds.length<=m
 ex:eI p H0 H
 fr:H0 l=none
 pl:p≠l
 cl:c≠l
section
variable{R:ak->Prop}{H0 H H':Hp}{p c l:Addr}{m:Nat}
theorem ii.lst{H:Hp}{p c:Addr}(h:ii H p c):∃e,H p=some (.lst e):=by
 obtain⟨a,r,g,f,_⟩:=h;exact⟨_,f⟩
theorem DI.took(h:DI R H0 p c l m H)(a:ii H' p c)(e:eI p H H'):DI R H0 p c l m H':=by
 obtain⟨f,g,i,j,k⟩:=h.ds;obtain⟨n,hx⟩:=h.pen.lst;exact⟨a,⟨f,g,e _ _ i h.pl.symm,j.kt (e.kt hx),k⟩,h.ex.trans e,h.fr,h.pl,h.cl⟩
theorem DI.new(h:DI R H0 p c l m H){q:Addr}{o:HO}(a:H q=none):DI R H0 p c l m (upd H q o) :=
 h.took (h.pen.ex (ab.new a)) (eI.new a)
theorem DI.up(h:DI R H0 p c l m H){n:Nat}(a:m<=n):DI R H0 p c l n H:=by
 obtain⟨e,f,g,i,j,k,o⟩:=h.ds;exact⟨h.pen,⟨e,f,g,i,j,k,bz o a⟩,h.ex,h.fr,h.pl,h.cl⟩
theorem DI.put(h:DI R H0 p c l m H){t:Addr}{d:ak}{Q:VK}{E:XK}(r:gU H t d)(s:R d)(u:m<=1000)(k:∀H',DI R H0 p c l (m+1) H'->Q .non H'):qQ [.ref l,.ref t] H Q E:=by
 obtain⟨v,f,i,y,j,q,z⟩:=h.ds;refine⟨l,t,v,f,d,rfl,i,y,r,bz z u,fun g A=>k _ ⟨h.pen.upd h.pl h.cl,⟨g,pF f d,aa,A.kt (cU i),?_,?_,?_⟩,?_,h.fr,h.pl,h.cl⟩⟩
 ·unfold pF;split
  ·exact j
  ·next B =>
   rw[dq];refine⟨j,by simp,?_⟩;intro a C b D e;have:b=d:=by simpa using D
   subst this;exact B (e▸C)
 ·intro x hx;unfold pF at hx;split at hx
  ·exact q x hx
  ·rcases bx.mp hx with hx|hx
   ·exact q x hx
   ·have:x=d:=by simpa using hx
    rw[this];exact s
 ·unfold pF;split
  ·omega
  ·rw[aS];show f.length+1<=m+1;omega
 ·intro b o e n;rw[am (ae e h.fr)];exact h.ex b o e n
end
theorem ii.ne_strs{H:Hp}{p c a:Addr}{g:Zb}(h:ii H p c)(f:H a=some (.lst (g.map V.str))):a≠p:=by
 intro e;obtain⟨x,y,j,i,_⟩:=h;rw[e,i]at f;injection f with f;injection f with f;cases g with
 |nil=>cases f
 |cons w g=>injection f with f;cases f
theorem sW{K:Za}{r:R2}(B:∀x y H Q,dH K x y H Q->r x y H Q){σ:L2.St}{H:Hp}{Q:VK}{p c a:Addr}{j:Nat}{e:Zb}(C:σ[0]?=some (some (.ref p)))(o:σ[j]?=some (some (.ref a)))(q:ii H p c)
  (g:H a=some (.lst (e.map V.str))) (h:e≠[]) (s:e.length<=1000) (k:∀w∈e,∀H',ii H' p c->eI p H H'->Q (.str w) H') :
  ∃v,σ[j]?=some (some v)/\∃t,σ[0]?=some (some t)/\∃u,σ[j]?=some (some u)/\fV K [u] H fun y D=>f8 [t,y] D (fun y E=>r v y E Q) E0:=by
 have I:0<e.length:=by cases e with|nil=>exact absurd rfl h|cons _ _=>simp
 have G:(V.int ((e.map V.str).length:Nat))=V.int (e.length:Nat):=by rw[ag]
 have i:=q.ne_strs g;have l:∀(x:Int) (H':Hp),0<=x->x<(e.length:Int)->ii H' p c->eI p H H'->dH K (.ref a) (.int x) H' Q:=by
  intro x H' m z f ex;obtain⟨n,rfl⟩:=j9 m;have A:n<e.length:=by omega
  exact⟨a,_,(n:Int),.str e[n],rfl,rfl,au.of (ex _ _ g i),cp (by simp[A]),k _ (List.getElem_mem A) H' f ex⟩
 exact⟨_,o,_,C,_,o,.inl ⟨a,_,rfl,.inl (au.of g),by rw[G];exact ff q (by omega) (by omega) fun x H' m z f ex=>B _ _ _ _ (l x H' m z f ex)⟩⟩
def Up(up:Bool)(J3:Zb)(a b:Str):Prop:=∃i j:Nat,J3[i]?=some a/\J3[j]?=some b/\(if up=true then i<j else j<i)
structure l9(J0 J2 J3:Zb)(up:Bool)(d:ak):Prop where
 a:d.a∈J3
 b:d.b∈J3
 sg:(∃w∈J0,d.sg=[("ask":Str),w])∨(∃w∈J2,d.sg=[("say":Str),w])∨(d.sg=[("still":Str)]/\Up up J3 d.a d.b)
def ay:List Str:=[("still":Str)]
structure rX(J0 J2 J3:Zb)(d:ak):Prop where
 a:d.a∈J3
 b:d.b∈J3
 sg:(∃w∈J0,d.sg=[("ask":Str),w])∨(∃w∈J2,d.sg=[("say":Str),w])∨d.sg=ay
theorem l9.d{J0 e f:Zb}{up:Bool}{d:ak}(h:l9 J0 e f up d):rX J0 e f d:=⟨h.a,h.b,h.sg.imp id (Or.imp id And.left)⟩
inductive Reach(ds:List ak)(a:Str):Str->Prop
 |one {b:Str}(h:(⟨a,ay,b⟩:ak)∈ds):Reach ds a b
 |step {b c:Str}(r:Reach ds a b) (h:(⟨b,ay,c⟩:ak)∈ds):Reach ds a c
theorem pO{e:Zb}(n:e.Nodup){i j:Nat}{a:Str}(hi:e[i]?=some a)(o:e[j]?=some a):i=j:=by
 obtain⟨f,g⟩:=bN.mp hi;obtain⟨k,l⟩:=bN.mp o;have m:=List.pairwise_iff_getElem.mp n;rcases Nat.lt_trichotomy i j with h|h|h
 ·exact absurd (g.trans l.symm) (m i j f k h)
 ·exact h
 ·exact absurd (l.trans g.symm) (m j i k f h)
theorem Up.trans{up:Bool}{e:Zb}(g:e.Nodup){a b c:Str}(l:Up up e a b)(m:Up up e b c):Up up e a c:=by
 obtain⟨i,j,n,o,h⟩:=l;obtain⟨r,k,p,q,f⟩:=m;have:=pO g o p;subst this;refine⟨i,k,n,q,?_⟩;cases up
 ·simp at h f ⊢;omega
 ·simp at h f ⊢;omega
theorem Up.irr{up:Bool}{e:Zb}(f:e.Nodup){a:Str}(h:Up up e a a):False:=by
 obtain⟨i,j,g,k,h⟩:=h;have:=pO f g k;subst this;cases up
 ·simp at h
 ·simp at h
theorem EF{j k g:Zb}{i:List ak}{up:Bool}(l:g.Nodup)(m:∀d∈i,l9 j k g up d){a b:Str}(h:Reach i a b):Up up g a b:=by
 have f:∀{a b:Str},(⟨a,ay,b⟩:ak)∈i->Up up g a b:=by
  intro a b h;rcases(m _ h).sg with⟨w,_,e⟩|⟨w,_,e⟩|⟨_,e⟩
  ·cases e
  ·cases e
  ·exact e
 induction h with
 |one h=>exact f h
 |step r h n=>exact n.trans l (f h)
theorem at4{x r:Int}(a:0<=x)(e:x<=2)(f:0<=r)(g:r<4):∃j:Int,yM [V.int x,.int 1,.int 1,.int 2] r=some (.int j)/\0<=j/\j<=2:=by
 have:r=0∨r=1∨r=2∨r=3:=by omega
 rcases this with rfl|rfl|rfl|rfl
 ·exact⟨x,rfl,a,e⟩
 ·exact⟨1,rfl,by decide,by decide⟩
 ·exact⟨1,rfl,by decide,by decide⟩
 ·exact⟨2,rfl,by decide,by decide⟩
theorem D_(a:Zb)(k:Nat):j1 (a.map V.str) (some (k:Int)) none=(a.drop k).map V.str:=by
 unfold j1;rw[HT.sIx_none,HT.sIx_nat,ag,List.take_of_length_le (by rw[jz,ag];omega),List.map_drop];by_cases h:k<=a.length
 ·rw[Nat.min_eq_left h]
 ·rw[Nat.min_eq_right (by omega),tK (by simp),tK (by rw[ag];omega)]
theorem tj(a:Zb)(k:Nat):j1 (a.map V.str) none (some (k:Int))=(a.take k).map V.str:=by
 unfold j1;rw[HT.sIx_none,HT.sIx_nat,ag,qh,wH,List.map_take,List.take_eq_take_iff,ag];omega
theorem ie{K:Za}{H:Hp}{a:Addr}{e:Zb}(h:au K H a (e.map V.str)):gV K H (.s (e.map cB)) (.ref a):=by
 unfold gV;exact⟨a,_,rfl,h,gk _⟩
theorem yh{K:Za}{H:Hp}{a:Addr}(h:au K H a []):gV K H (.s []) (.ref a):=by
 unfold gV;refine⟨a,_,rfl,h,?_⟩;unfold DIns
 rfl
structure aq(J0 J2 J3:Zb)(ds:List ak):Prop where
 okA:eX J0
 okS:eX J2
 apart:∀w∈J2,w∉J0
 okR:eX J3
 asks0:J0≠[]
 says0:J2≠[]
 rooms0:J3≠[]
 asks4:J0.length<=4
 says4:J2.length<=4
 rooms26:J3.length<=150
 nodup:ds.Nodup
 good:∀d∈ds,rX J0 J2 J3 d
 few:ds.length<=1000
 noround:∀r,¬Reach ds r r
structure iw(H:Hp)(t l1 l2 l3 l4:Addr)(ts:Ze)(J0 J2 J3:Zb)(ds:List ak):Prop where
 t:H t=some (.tup [.ref l1,.ref l2,.ref l3,.ref l4])
 a1:H l1=some (.lst (J0.map V.str))
 a2:H l2=some (.lst (J2.map V.str))
 a3:H l3=some (.lst (J3.map V.str))
 a4:H l4=some (.lst (ts.map V.ref))
 ds:cA H ts ds
theorem ii.ne_refs{H:Hp}{p c a:Addr}{ts:Ze}(h:ii H p c)(f:H a=some (.lst (ts.map V.ref))):a≠p:=by
 intro e;obtain⟨x,y,j,i,_⟩:=h;rw[e,i]at f;injection f with f;injection f with f;cases ts with
 |nil=>cases f
 |cons w g =>
  injection f with _ f;cases g with
  |nil=>cases f
  |cons w g=>injection f with f;cases f
theorem iw.ex{H f:Hp}{p c t g i l3 j:Addr}{k:Ze}{l m n:Zb}{o:List ak}(h:iw H t g i l3 j k l m n o)(a:ii H p c)(e:eI p H f):iw f t g i l3 j k l m n o:=by
 obtain⟨q,hx⟩:=a.lst;exact⟨e.kt hx _ _ h.t,e _ _ h.a1 (a.ne_strs h.a1),e _ _ h.a2 (a.ne_strs h.a2),e _ _ h.a3 (a.ne_strs h.a3),e _ _ h.a4 (a.ne_refs h.a4),h.ds.kt (e.kt hx)⟩
theorem iw.same{H a:Hp}{t f g l3 i:Addr}{j:Ze}{k l m:Zb}{n:List ak}(h:iw H t f g l3 i j k l m n)(e:ab H a):iw a t f g l3 i j k l m n :=
 ⟨e _ _ h.t,e _ _ h.a1,e _ _ h.a2,e _ _ h.a3,e _ _ h.a4,h.ds.kt (ab.kt e)⟩
theorem aZ{a:Zb}{i:Nat}{x:V}(h:(a.map V.str)[i]?=some x):∃w,a[i]?=some w/\x=.str w:=by
 rw[du]at h;cases q:a[i]? with
 |none=>rw[q]at h;cases h
 |some r=>rw[q]at h;exact⟨r,rfl,(fj h).symm⟩
theorem take_snoc{α:Type}{a:List α}{i:Nat}{w:α}(h:a[i]?=some w):a.take (i+1)=a.take i++[w]:=by
 obtain⟨hi,rfl⟩:=bN.mp h;rw[List.take_succ_eq_append_getElem hi]
def pL(w:Str):Bool:=!decide (w=("":Str)) && (decide (w.length<=8) && w.cps.toList.all fun c=>decide (c∈("abcdefghijklmnopqrstuvwxyz":Str).cps.toList))
theorem oC.b{w:Str}(h:oC w):pL w=true:=by
 unfold pL;have a:¬(w=("":Str)):=fun e=>by
  have:=h.lo;rw[e]at this;exact absurd this (by decide +kernel)
 rw[zzr0 a,zzr1 h.hi,Bool.not_false,tE,tE,qr];intro c f;obtain⟨g,i⟩:=h.al c f;refine zzr1 ?_;have:=CI (c-97) (by omega);have e:97+(c-97)=c:=by omega
 rw[e]at this;exact bW this
inductive sp_is_name (vs:List V)(H:Hp)(Q:VK)(E:XK):Prop
 |mk (w:Str):(vs=[.str w])->(w.length<=1000)->(∀H',ab H H'->Q (.bl (pL w)) H')->sp_is_name  vs H Q E
theorem AX{K:Za}{a:List V}{H:Hp}{Q:VK}{E:XK}(h:sp_is_name a H Q E):Db K (bS Q) (start En a) H:=by
 obtain⟨w,rfl,s,k⟩:=h;refine⟨_,rfl,rfl,_,rfl,?_⟩;have t:(!decide (V.str w=V.str ("":Str)))=!decide (w=("":Str)):=by
  congr 1;by_cases e:w=("":Str)
  ·rw[zzr1 e,zzr1 (by rw[e])]
  ·rw[zzr0 e,zzr0 (fun z=>e (by injection z))]
 rw[t];refine kz (fun m=>?_) (fun m=>?_)
 ·refine⟨_,rfl,.inr ⟨w,rfl,cV (ao s),_,_,rfl,rfl,_,rfl,?_⟩⟩;refine kz (fun n=>?_) (fun n=>?_)
  ·refine⟨_,rfl,w,rfl,fun l r=>?_⟩
   let p:Nat->List V->Hp->Prop:=fun i a j=>a=((w.cps.toList.take i).map fun c=>V.bl (decide (c∈("abcdefghijklmnopqrstuvwxyz":Str).cps.toList)))/\ab H j/\j l=some (.lst a)
   refine Go p
    ⟨rfl,ab.new r,aa⟩ (fun i a j _ h=>h.2.2) ?_ ?_
   ·rintro a j ⟨rfl,q,f⟩;refine⟨l,w.cps.toList.map fun c=>decide (c∈("abcdefghijklmnopqrstuvwxyz":Str).cps.toList),rfl,au.of ?_,?_⟩
    ·rw[f,qb];have:w.cps.toList.take w.cps.size=w.cps.toList:=by
      rw[List.take_of_length_le];simp
     rw[this]
     rfl
    ·have:=k j q;have g:decide (w.length<=8)=true:=zzr1 (by have:=of_decide_eq_true n;omega);unfold pL at this;rw[m,g,tE,tE]at this;rw[List.all_map];exact this
   ·rintro i a j c u hi ⟨rfl,q,f⟩;refine gN (nM ?_);refine⟨_,rfl,c,_,rfl,rfl,f,?_,jo hi ⟨?_,?_,aa⟩⟩
    ·rw[ag,aM];have:w.length=w.cps.toList.length:=fC w;exact ao (by omega)
    ·rw[take_snoc (by rw[<-u];simp),av]
     rfl
    ·intro b o e;rw[am (ae e r)];exact q b o e
  ·have:=k H (ab.refl H);have g:decide (w.length<=8)=false:=zzr0 (fun z=>n (zzr1 (by omega)));unfold pL at this;rw[m,g,tE,BT]at this;exact this
 ·have:=k H (ab.refl H);unfold pL at this;rw[k_.mpr m,BT]at this;exact this
def bh(ws:Zb):List (fu×V):=ws.foldl (fun acc w=>eT acc (.inr w) (.bl true)) []
theorem dW(a:Zb)(w:Str):bh (a++[w])=eT (bh a) (.inr w) (.bl true):=by
 unfold bh;rw[List.foldl_append]
 rfl
theorem uk{κ:Type}[DecidableEq κ](a:List (κ×V))(k:κ)(v:V):(eT a k v).length<=a.length+1:=by
 unfold eT;split
 ·rw[ag];omega
 ·rw[aS];exact aP _
theorem jN{α:Type}(P:List α->Prop)(f:P [])(g:∀a w,P a->P (a++[w]))(a:List α):P a:=by
 have:∀n (a:List α),a.length=n->P a:=by
  intro n
  induction n with
  |zero=>intro a h;rw[List.length_eq_zero_iff.mp h];exact f
  |succ n i =>
   intro a h;have e:a≠[]:=fun z=>by rw[z]at h;cases h
   rw[<-List.dropLast_concat_getLast e];exact g _ _ (i _ (by rw[List.length_dropLast,h];rfl))
 exact this _ a rfl
theorem kr(a:Zb):(bh a).length<=a.length:=by
 refine jN (fun a=>(bh a).length<=a.length) (aP _) (fun a w h=>?_) a;show(bh (a++[w])).length<=(a++[w]).length;rw[dW,aS];have:=uk (bh a) (.inr w) (.bl true);show _<=a.length+1;omega
theorem uB(a:Zb)(x:Str):de (bh a) (.inr x)=if x∈a then some (.bl true)else none:=by
 refine jN (fun a=>de (bh a) (.inr x)=if x∈a then some (.bl true)else none) rfl (fun a w h=>?_) a
 show de (bh (a++[w])) (.inr x)=_;rw[dW,tX,h];by_cases e:x=w
 ·subst e;rw[if_pos rfl,if_pos (by simp)]
 ·have f:¬((Sum.inr x:fu)=.inr w):=fun z=>e (by injection z);rw[if_neg f];by_cases m:x∈a
  ·rw[if_pos m,if_pos (bV _ m)]
  ·rw[if_neg m,if_neg (fun z=>by rcases bx.mp z with z|z;exact m z;exact e (by simpa using z))]
theorem eU(a:Zb)(x:Str):(de (bh a) (.inr x)).isSome=decide (x∈a):=by
 rw[uB];by_cases m:x∈a
 ·rw[if_pos m,zzr1 m];rfl
 ·rw[if_neg m,zzr0 m];rfl
inductive sp_as_keys(K:Za)(vs:List V)(H:Hp)(Q:VK)(E:XK):Prop
 |mk (l:Addr) (ws:Zb):(vs=[.ref l])->(au K H l (ws.map V.str))->(ws.length<=1000)->(∀d,H d=none->Q (.ref d) (upd H d (.dK (bh ws))))->sp_as_keys K vs H Q E
theorem AY{K:Za}{o:List V}{H:Hp}{Q:VK}{E:XK}(h:sp_as_keys K o H Q E):Dc K (bS Q) (start Eo o) H:=by
 obtain⟨l,j,rfl,q,t,k⟩:=h;refine fun d p=>?_;have a:∀f,au K (upd H d (.dK f)) l (j.map V.str):=fun f=>(ab.new p).seq q;refine⟨_,rfl,l,rfl,⟨_,a _⟩,?_⟩
 let n:Nat->L2.St->Hp->Prop:=fun i σ m=>∃x,σ=[some (.ref l),some (.ref d),x]/\m=upd H d (.dK (bh (j.take i)))
 refine bO (xs:=j.map V.str) n ⟨_,rfl,rfl⟩ (fun i σ m _ r=>by obtain⟨_,_,e⟩:=r;exact by rw[e];exact a _) ?_ ?_
 ·rintro i x σ m hi ⟨y,rfl,rfl⟩;obtain⟨w,s,rfl⟩:=aZ hi;have g:(bh (j.take i)).length<aj:=ao (bz (kr _) (by rw[aM];omega));refine⟨_,rfl,_,rfl,d,_,rfl,.inl ⟨_,.inr w,aa,rfl,g,rfl⟩,_,rfl,?_⟩;rw[sL,take_snoc s,dW]
 ·rintro σ m ⟨x,rfl,rfl⟩;rw[ag,bg];exact⟨_,rfl,k d p⟩
def FZ(most:Nat):Nat->List Str->List Str->Option Nat
 |_,_,[]=>none
 |i,ahead,n::ns=>if i=most∨n∈ahead∨pL n=false then some i else FZ most (i+1) (ahead++[n]) ns
def dh(names:Zb)(most:Nat)(taken:Zb):Option Nat:=if names=[]then some 0 else FZ most 0 taken names
def oV:Option Nat->V
 |none=>.non
 |some i=>.int i
inductive sp_first_wrong_name(K:Za)(vs:List V)(H:Hp)(Q:VK)(E:XK):Prop
 |mk (l t:Addr) (names taken:Zb) (most:Nat):(vs=[.ref l,.int most,.ref t])->(au K H l (names.map V.str))->(au K H t (taken.map V.str))->(names.length+taken.length<=1000)->((∀w∈names,w.length<=1000))->(∀H',ab H H'->Q (oV (dh names most taken)) H')->sp_first_wrong_name K vs H Q E
theorem q_{K:Za}{H:Hp}{Q:VK}{E:XK}{l:Addr}{ws:Zb}(a:au K H l (ws.map V.str))(e:ws.length<=1000)(k:∀d,H d=none->Q (.ref d) (upd H d (.dK (bh ws)))):sp_as_keys K [.ref l] H Q E:=by
 exact⟨l,ws,rfl,a,e,k⟩
theorem DO{H:Hp}{Q:VK}{E:XK}{w:Str}(e:w.length<=1000)(k:∀a,ab H a->Q (.bl (pL w)) a):sp_is_name [.str w] H Q E:=by
 exact⟨w,rfl,e,k⟩
theorem mS{K:Za}{M:List V}{H:Hp}{Q:VK}{E:XK}(h:sp_first_wrong_name K M H Q E):nO K sp_is_name (sp_as_keys K) (bS Q) (start ow M) H:=by
 obtain⟨l,t,names,taken,a,rfl,v,U,hz,Y,k⟩:=h;refine⟨_,rfl,.inl ⟨l,_,rfl,.inl v,rfl,_,rfl,?_⟩⟩;by_cases A:names=[]
 ·subst A;refine cr ?_;have:=k H (ab.refl H);exact this
 have e0:decide (V.int ((names.map V.str).length:Nat)=V.int 0)=false:=zzr0 (fun z=>A (by
  injection z with z;rw[ag]at z;exact List.length_eq_zero_iff.mp (by omega)))
 rw[e0];refine bv ?_;have r:∀H',ab H H'->Q (oV (FZ a 0 taken names)) H':=by
  unfold dh at k;rw[if_neg A]at k;exact k
 refine⟨_,rfl,q_ U (by omega) fun d B=>?_⟩;refine⟨_,rfl,l,rfl,⟨_,(ab.new B).seq v⟩,?_⟩
 let C:Nat->L2.St->Hp->Prop:=fun i σ H'=>∃x y,σ=[some (.ref l),some (.int a),some (.ref t),some (.ref d),x,y]/\ab H H'/\H' d=some (.dK (bh (taken++names.take i)))/\FZ a i (taken++names.take i) (names.drop i)=FZ a 0 taken names
 refine l5 (xs:=names.map V.str) C
  ⟨_,_,rfl,ab.new B,by rw[List.take_zero,cM];exact aa,by rw[List.take_zero,cM,qh]⟩ (fun i σ H' _ zq=>by obtain⟨_,_,_,n,_⟩:=zq;exact n.seq v) ?_ ?_
 ·rintro i x σ H' q hi ⟨x4,x5,rfl,n,D,hf⟩ N;obtain⟨w,f,rfl⟩:=aZ hi;have G:i<names.length:=(bN.mp f).1;have ed:names.drop i=w::names.drop (i+1):=by
   rw[wJ G];congr 1;exact(bN.mp f).2
  rw[ed]at hf;have j:upd H' q (.tup [.int i,.str w]) d=some (.dK (bh (taken++names.take i))):=kp D N;have g:ab H (upd H' q (.tup [.int i,.str w])):=n.trans (ab.new N);have I:w.length<=1000:=Y w (bW f);refine⟨q,_,rfl,br.of aa,rfl,_,_,rfl,_,_,rfl,rfl,?_⟩;generalize upd H' q (.tup [.int i,.str w])=O at j g ⊢;refine⟨_,rfl,_,rfl,rfl,_,rfl,?_⟩;by_cases s:i=a
  ·have J:decide (V.int (i:Nat)=V.int (a:Nat))=true:=zzr1 (by rw[s]);rw[J];refine cr (cr ?_);refine⟨_,rfl,?_⟩;have:=r O g;rw[<-hf]at this;unfold FZ at this;rw[if_pos (.inl s)]at this;exact this
  have J:decide (V.int (i:Nat)=V.int (a:Nat))=false:=zzr0 (fun z=>s (by injection z with z;omega));rw[J];refine bv ?_;refine⟨_,rfl,_,rfl,d,_,rfl,.inl ⟨_,.inr w,.inl j,rfl,rfl⟩,_,rfl,?_⟩;rw[eU];by_cases u:w∈taken++names.take i
  ·rw[zzr1 u];refine cr (cr ?_);refine⟨_,rfl,?_⟩;have:=r O g;rw[<-hf]at this;unfold FZ at this;rw[if_pos (.inr (.inl u))]at this;exact this
  rw[zzr0 u];refine bv ?_;refine⟨_,rfl,DO I fun H3 m=>⟨_,rfl,?_⟩⟩;have L:=m _ _ j;cases T:pL w with
  |false =>
   refine cr ?_;refine⟨_,rfl,?_⟩;have:=r H3 (g.trans m);rw[<-hf]at this;unfold FZ at this;rw[if_pos (.inr (.inr T))]at this;exact this
  |true =>
   refine bv ?_;have p:(bh (taken++names.take i)).length<aj:=ao (bz (kr _) (by rw[aS,aM];omega));refine⟨_,rfl,_,rfl,d,_,rfl,.inl ⟨_,.inr w,L,rfl,p,rfl⟩,_,_,rfl,?_,?_,?_⟩
   ·intro b o e;rw[am (ae e B)];exact m _ _ (g _ _ e)
   ·rw[aa,take_snoc f,<-dZ,dW]
   ·rw[<-hf,take_snoc f,<-dZ]
    conv=>rhs;unfold FZ
    rw[if_neg];rintro(z|z|z)
    ·exact s z
    ·exact u z
    ·rw[T]at z;cases z
 ·rintro σ H' ⟨x,y,rfl,n,_,hf⟩;rw[ag,List.drop_length]at hf;have:=r H' n;rw[<-hf]at this;exact this
theorem z6{a:Nat}:∀(e ahead:Zb) (i:Nat),i+e.length<=a->(ahead++e).Nodup->(∀w∈e,oC w)->FZ a i ahead e=none
 |[],_,_,_,_,_=>rfl
 |n::e,ahead,i,h,f,g=>by
  rw[eO]at h;unfold FZ;rw[if_neg]
  ·refine z6 e (ahead++[n]) (i+1) (by omega) (by rw[dZ];exact f) fun w j=>g w (fX _ j)
  ·rintro(z|z|z)
   ·omega
   ·rw[dq]at f;exact f.2.2 n z n (dS) rfl
   ·rw[(g n dS).b]at z;cases z
theorem iu{a:Nat}{e taken:Zb}(f:e≠[])(i:e.length<=a)(g:(taken++e).Nodup)(h:∀w∈e,oC w):dh e a taken=none:=by
 unfold dh;rw[if_neg f];exact z6 e taken 0 (by omega) g h
theorem eR{n:Nat}(h:n<=9000):n<aj:=Nat.lt_of_le_of_lt h (by decide)
def qR(x:Str):TK:=.k (some (.inr x))
def nc(sg:Zb):TK:=.t (sg.map qR)
def CF(d:ak):TK:=.t [qR d.a,nc d.sg,qR d.b]
theorem sV{x y:Str}(h:qR x=qR y):x=y:=by
 unfold qR at h;injection h with h;injection h with h;injection h
theorem rK:∀{x y:Zb},x.map qR=y.map qR->x=y
 |[],[],_=>rfl
 |[],_::_,h=>by cases h
 |_::_,[],h=>by cases h
 |a::x,b::y,h=>by
  rw[cg,cg]at h;injection h with e f;rw[sV e,rK f]
theorem sZ{x y:Zb}(h:nc x=nc y):x=y:=by
 unfold nc at h;injection h with h;exact rK h
theorem HI{x y:ak}(h:CF x=CF y):x=y:=by
 unfold CF at h;injection h with h;injection h with a h;injection h with e h;injection h with f h;cases x;cases y;simp only at *;rw[sV a,sZ e,sV f]
theorem AC(a:Zb):TK.depths (a.map qR)=0:=by
 induction a with
 |nil=>rfl
 |cons x a e=>rw[cg];show max (TK.depth (qR x)) (TK.depths _)=0;rw[e];rfl
theorem gE(a:Zb):(nc a).depth=1:=by
 show TK.depths (a.map qR)+1=1;rw[AC]
theorem vO(d:ak):(CF d).depth=2:=by
 show max (TK.depth (qR d.a)) (max (TK.depth (nc d.sg)) (max (TK.depth (qR d.b)) 0))+1=2;rw[gE]
 rfl
theorem Ca{H:Hp}:∀a:List Str,TKAts H (a.map qR) (a.map V.str)
 |[]=>by show TKAts H [] [];unfold TKAts;rfl
 |x::a=>by
  rw[cg,cg];unfold TKAts;refine⟨_,_,rfl,?_,Ca a⟩;unfold qR gQ
  rfl
theorem xh{H:Hp}(x:Str):gQ H (qR x) (.str x):=by unfold qR gQ;rfl
theorem SignAt.tk{H:Hp}{s:Addr}{sg:Zb}(h:SignAt H s sg):gQ H (nc sg) (.ref s):=by
 unfold nc gQ;exact⟨s,_,rfl,h,Ca _⟩
theorem gU.tk{H:Hp}{t:Addr}{d:ak}(h:gU H t d):gQ H (CF d) (.ref t):=by
 obtain⟨s,a,e⟩:=h;unfold CF gQ;refine⟨t,_,rfl,a,?_⟩;unfold TKAts;refine⟨_,_,rfl,xh _,?_⟩;unfold TKAts;refine⟨_,_,rfl,SignAt.tk e,?_⟩;unfold TKAts;refine⟨_,_,rfl,xh _,?_⟩;unfold TKAts
 rfl
section
variable{κ:Type}[DecidableEq κ]
def kU(ks:List κ):List (κ×V):=ks.foldl (fun acc k=>eT acc k (.bl true)) []
theorem n6(a:List κ)(w:κ):kU (a++[w])=eT (kU a) w (.bl true):=by
 unfold kU;rw[List.foldl_append]
 rfl
theorem DM(a:List κ):(kU a).length<=a.length:=by
 refine jN (fun a=>(kU a).length<=a.length) (aP _) (fun a w h=>?_) a;show(kU (a++[w])).length<=(a++[w]).length;rw[n6,aS];have:=uk (kU a) w (.bl true);show _<=a.length+1;omega
theorem FT(a:List κ)(x:κ):(de (kU a) x).isSome=decide (x∈a):=by
 refine jN (fun a=>(de (kU a) x).isSome=decide (x∈a)) rfl (fun a w h=>?_) a;show(de (kU (a++[w])) x).isSome=_;rw[n6,tX];by_cases e:x=w
 ·subst e;rw[if_pos rfl,zzr1 (by simp)]
  rfl
 ·rw[if_neg e,h];by_cases m:x∈a
  ·rw[zzr1 m,zzr1 (bV _ m)]
  ·rw[zzr0 m,zzr0 (fun z=>by rcases bx.mp z with z|z;exact m z;exact e (by simpa using z))]
end
theorem Cp{d:ak}{a:List ak}:CF d∈a.map CF↔d∈a:=by
 constructor
 ·intro h;obtain⟨x,hx,e⟩:=aA.mp h;rw[<-HI e];exact hx
 ·exact e_
def on(K:Za)(H:Hp)(v:V)(sg:Zb):Prop:=∃s,v=.ref s/\br K H s (sg.map V.str)
theorem ab.sqT{K:Za}{H f:Hp}{a:Addr}{g:List V}(e:ab H f)(h:br K H a g):br K f a g:=by
 rcases h with(h|⟨o,h⟩)|h
 ·exact .inl (.inl (e _ _ h))
 ·exact .inl (.inr ⟨o,e _ _ h⟩)
 ·exact .inr h
theorem Signs.same{K:Za}{H f:Hp}(e:ab H f){xs:List V}{a:List (List Str)}(h:Paired (on K H) xs a):Paired (on K f) xs a :=
 Paired.mapP h fun _ _ ⟨s,g,i⟩=>⟨s,g,ab.sqT e i⟩
def jF(sg:Zb):DT:=.t (sg.map cB)
theorem Cv{x y:Zb}(h:jF x=jF y):x=y:=by
 unfold jF at h;injection h with h;exact fQ h
theorem bZ(a:Zb):(jF a).depth=1:=by
 show DT.depths (a.map cB)+1=1;rw[dD]
theorem DX(a:List (List Str)):DT.depths (a.map jF)<=8:=by
 induction a with
 |nil=>exact c7 _
 |cons x e f=>rw[cg];show max (DT.depth (jF x)) (DT.depths _)<=8;rw[bZ];omega
theorem Signs.dIns{K:Za}{H:Hp}{xs:List V}{a:List (List Str)}(h:Paired (on K H) xs a):DIns K H (a.map jF) xs:=by
 induction h with
 |nil=>show DIns K H [] [];unfold DIns;rfl
 |cons q _ f =>
  obtain⟨s,e,r⟩:=q;rw[cg];unfold DIns;refine⟨_,_,rfl,?_,f⟩;rw[e];exact bw r
theorem Co{d:Zb}{a:List (List Str)}:jF d∈a.map jF↔d∈a:=by
 constructor
 ·intro h;obtain⟨x,hx,e⟩:=aA.mp h;rw[<-Cv e];exact hx
 ·exact e_
theorem Paired.app{α β:Type}{R:α->β->Prop}{a:List α}{b:List β}{c:List α}{d:List β}(g:Paired R a b)(h:Paired R c d):Paired R (a++c) (b++d):=by
 induction g with
 |nil=>exact h
 |cons r _ e=>exact .cons r e
def bm(w:Str):List Str:=[("ask":Str),w]
def aV(w:Str):List Str:=[("say":Str),w]
def fS(J0 J2:Zb):List (List Str):=J0.map bm++J2.map aV++[ay]
theorem uh{K:Za}{h:Str}{σ:L2.St}{H:Hp}{a l:Addr}{j:Zb}{Q:Hp->Prop}(B:H a=some (.lst (j.map V.str)))(A:H l=none)(J:j.length<=1000)
  (k:∀(xs:List V) (f:Hp),Paired (on K f) xs (j.map fun w=>[h,w])->ab H f->f l=some (.lst xs)->Q f) :
  cW 1 [] σ (CQ K a) U0 ip (bX (aJ (tC (.str h)) V0)) H l Q:=by
 let r:Nat->List V->Hp->Prop:=fun i g f=>Paired (on K f) g ((j.take i).map fun w=>[h,w])/\ab H f/\f l=some (.lst g)
 refine bD (xs:=j.map V.str) r
  ⟨.nil,ab.new A,aa⟩ (fun i g f _ C=>by obtain⟨_,D,E⟩:=C;exact⟨E,au.of (D _ _ B)⟩) ?_ ?_
 ·rintro g f ⟨m,u,n⟩;rw[ag,bg]at m;exact k g f m u n
 ·rintro i g f x hx hi ⟨m,u,n⟩;obtain⟨w,G,rfl⟩:=aZ hx;refine gN (nM ?_);refine⟨_,rfl,(by show 2<=aj;decide),fun t p=>⟨kp n p,?_,jo hi ⟨?_,?_,aa⟩⟩⟩
  ·rw[Paired.length m,ag,aM];exact ao (by omega)
  ·rw[take_snoc G,av];have q:j7 (upd f t (.tup [.str h,.str w])) (upd (upd f t (.tup [.str h,.str w])) l (.lst (g++[.ref t]))):=cU (kp n p);have y:j7 f (upd (upd f t (.tup [.str h,.str w])) l (.lst (g++[.ref t]))):=(ab.kt (ab.new p)).trans q;refine Paired.app (Paired.mapP m fun v L ⟨s,I,e2⟩=>⟨s,I,?_⟩) (.cons ⟨t,rfl,br.of (q _ _ aa)⟩ .nil);rcases e2 with(e2|⟨o,e2⟩)|e2
   ·exact .inl (.inl (y _ _ e2))
   ·refine .inl (.inr ⟨o,?_⟩);rw[am (fun z=>by rw[z,n]at e2;cases e2)];exact kp e2 p
   ·exact .inr e2
  ·intro b o e;rw[am (ae e A)];exact kp (u _ _ e) p
inductive sp_door_signs(K:Za)(vs:List V)(H:Hp)(Q:VK)(E:XK):Prop
 |mk (l1 l2:Addr) (J0 J2:Zb):(vs=[.ref l1,.ref l2])->(H l1=some (.lst (J0.map V.str)))->(H l2=some (.lst (J2.map V.str)))->(J0.length<=100)->(J2.length<=100)->(∀(l:Addr) (xs:List V) (H':Hp),Paired (on K H') xs (fS J0 J2)->ab H H'->H' l=some (.lst xs)->Q (.ref l) H')->sp_door_signs K vs H Q E
theorem vv{K:Za}{st:Addr}(i:∀H,br K H st (ay.map V.str)){n:List V}{H:Hp}{Q:VK}{E:XK}(h:sp_door_signs K n H Q E):xr K st (bS Q) (start yF n) H:=by
 obtain⟨z,A,L,M,rfl,o,p,B,C,k⟩:=h;refine⟨_,rfl,z,rfl,⟨_,au.of o⟩,fun a D=>?_⟩;refine uh o D (by omega) fun f N q j G=>?_;refine⟨_,rfl,A,rfl,⟨_,au.of (j _ _ p)⟩,fun b I=>?_⟩;refine uh (j _ _ p) I (by omega) fun g r s l J=>?_;have t:f.length<=100:=by rw[Paired.length q,ag];exact B
 have u:g.length<=100:=by rw[Paired.length s,ag];exact C
 refine⟨a,b,f,g,rfl,rfl,l _ _ G,J,cV (ao (by omega)),fun c v=>?_⟩;refine⟨(by show 1<=aj;decide),fun d m=>?_⟩;refine⟨c,d,_,_,rfl,rfl,kp aa m,aa,?_,fun e x=>k e _ _ ?_ ?_ aa⟩
 ·rw[aS];show _+1<=aj;exact cV (ao (by omega))
 ·have y:ab r (upd (upd (upd r c (.lst (f++g))) d (.lst [.ref st])) e (.lst (f++g++[.ref st]))):=((ab.new v).trans (ab.new m)).trans (ab.new x);exact Paired.app (Paired.app (Signs.same (l.trans y) q) (Signs.same y s)) (.cons ⟨st,rfl,i _⟩ .nil)
 ·exact(((j.trans l).trans (ab.new v)).trans (ab.new m)).trans (ab.new x)
def HC(J3:Zb)(sgs:List (List Str)):Nat->List ak->List ak->Option Nat
 |_,_,[]=>none
 |i,ahead,d::ds=>if i=2000∨d∈ahead∨d.a∉J3∨d.sg∉sgs∨d.b∉J3 then some i else HC J3 sgs (i+1) (ahead++[d]) ds
inductive sp_first_wrong_door(K:Za)(vs:List V)(H:Hp)(Q:VK)(E:XK):Prop
 |mk (l l3 sl:Addr) (ts:Ze) (ds:List ak) (J3:Zb) (xs:List V) (sgs:List (List Str)):(vs=[.ref l,.ref l3,.ref sl])->(H l=some (.lst (ts.map V.ref)))->(cA H ts ds)->(H l3=some (.lst (J3.map V.str)))->(J3.length<=1000)->(H sl=some (.lst xs))->(Paired (on K H) xs sgs)->(ds.length<=9000)->(∀H',ab H H'->Q (oV (HC J3 sgs 0 [] ds)) H')->sp_first_wrong_door K vs H Q E
theorem cD{a:Ze}{i:Nat}{x:V}(h:(a.map V.ref)[i]?=some x):∃w,a[i]?=some w/\x=.ref w:=by
 rw[du]at h;cases q:a[i]? with
 |none=>rw[q]at h;cases h
 |some r=>rw[q]at h;exact⟨r,rfl,(fj h).symm⟩
theorem mT{K:Za}{vs:List V}{H:Hp}{Q:VK}{E:XK}(h:sp_first_wrong_door K vs H Q E):nP K (sp_as_keys K) (bS Q) (start ox vs) H:=by
 obtain⟨l,l3,sl,ts,p,A,xs,m,rfl,hl,C,h3,hr,Y,al,hz,k⟩:=h;refine⟨_,rfl,q_ (au.of h3) hr fun d hd=>?_⟩;refine fun e he=>?_;have D:ab H (upd (upd H d (.dK (bh A))) e (.dT [])):=(ab.new hd).trans (ab.new he);have an:H e=none:=(ab.new hd).free he;refine⟨_,rfl,l,rfl,⟨_,au.of (D _ _ hl)⟩,?_⟩
 let ap:Nat->L2.St->Hp->Prop:=fun i σ H'=>∃x y,σ=[some (.ref l),some (.ref l3),some (.ref sl),some (.ref d),some (.ref e),x,y]/\ab H H'/\H' d=some (.dK (bh A))/\H' e=some (.dT (kU ((p.take i).map CF)))/\HC A m i (p.take i) (p.drop i)=HC A m 0 [] p
 refine l5 (xs:=ts.map V.ref) ap
  ⟨_,_,rfl,D,kp aa he,aa,rfl⟩ (fun i σ H' _ zq=>by obtain⟨_,_,_,G,_⟩:=zq;exact au.of (G _ _ hl)) ?_ ?_
 ·rintro i x σ H' q hi ⟨x5,x6,rfl,G,as,aC,hf⟩ hq;obtain⟨t,ht,rfl⟩:=cD hi;obtain⟨f,r,a0⟩:=Paired.getL C ht;have a4:i<p.length:=(bN.mp r).1;have ed:p.drop i=f::p.drop (i+1):=by
   rw[wJ a4];congr 1;exact(bN.mp r).2
  rw[ed]at hf;have g:ab H (upd H' q (.tup [.int i,.ref t])):=G.trans (ab.new hq);have j:upd H' q (.tup [.int i,.ref t]) d=_:=kp as hq;have u:upd H' q (.tup [.int i,.ref t]) e=_:=kp aC hq;refine⟨q,_,rfl,br.of aa,rfl,_,_,rfl,_,_,rfl,rfl,?_⟩;generalize upd H' q (.tup [.int i,.ref t])=H2 at j u g ⊢;have B:=a0.kt (ab.kt g);have a5:om K H2 (CF f) (.ref t):=gQ.isIn 8 (by rw[vO];decide) B.tk;have I:(CF f).depth<=8:=by rw[vO];decide
  obtain⟨s,v,J⟩:=B;have n:(i=2000∨f∈p.take i∨f.a∉A∨f.sg∉m∨f.b∉A)->Q (.int i) H2:=by
   intro c;have:=k H2 g;rw[<-hf]at this;unfold HC at this;rw[if_pos c]at this;exact this
  refine⟨_,rfl,rfl,_,rfl,?_⟩;by_cases M:i=2000
  ·have e1:decide (V.int (i:Nat)=V.int 2000)=true:=zzr1 (by rw[M];rfl);rw[e1];exact cr (cr ⟨_,rfl,n (.inl M)⟩)
  have e1:decide (V.int (i:Nat)=V.int 2000)=false:=zzr0 (fun z=>M (by injection z with z;omega));rw[e1];refine bv ?_;refine⟨_,rfl,_,rfl,e,_,rfl,.inr ⟨_,CF f,t,.inl u,rfl,a5,I,rfl⟩,_,rfl,?_⟩;rw[FT];by_cases N:f∈p.take i
  ·rw[zzr1 (Cp.mpr N)];exact cr ⟨_,rfl,n (.inr (.inl N))⟩
  rw[zzr0 (fun z=>N (Cp.mp z))];refine bv ?_;refine⟨_,rfl,.inr (.inl ⟨t,_,0,_,rfl,rfl,br.of v,rfl,_,rfl,d,_,rfl,.inl ⟨_,.inr f.a,.inl j,rfl,rfl⟩,_,rfl,?_⟩)⟩;rw[eU];by_cases O:f.a∈A;rotate_left
  ·rw[zzr0 O];exact cr (cr ⟨_,rfl,n (.inr (.inr (.inl O)))⟩)
  rw[zzr1 O];refine bv ?_;refine⟨_,rfl,.inr (.inl ⟨t,_,1,_,rfl,rfl,br.of v,rfl,_,rfl,jF f.sg,m.map jF,sl,xs,bw (br.of J),rfl,.inl (au.of (g _ _ Y)),Signs.dIns (Signs.same g al),by rw[bZ];decide,DX _,_,rfl,?_⟩)⟩;rw[if_pos rfl];by_cases T:f.sg∈m;rotate_left
  ·rw[zzr0 (fun z=>T (Co.mp z))];exact cr (cr ⟨_,rfl,n (.inr (.inr (.inr (.inl T))))⟩)
  rw[zzr1 (Co.mpr T)];refine bv ?_;refine⟨_,rfl,.inr (.inl ⟨t,_,2,_,rfl,rfl,br.of v,rfl,_,rfl,d,_,rfl,.inl ⟨_,.inr f.b,.inl j,rfl,rfl⟩,_,rfl,?_⟩)⟩;rw[eU];by_cases U:f.b∈A;rotate_left
  ·rw[zzr0 U];exact cr ⟨_,rfl,n (.inr (.inr (.inr (.inr U))))⟩
  rw[zzr1 U];refine bv ?_;have L:(kU ((p.take i).map CF)).length<aj:=eR (bz (DM _) (by rw[ag,aM];omega));refine⟨_,rfl,_,rfl,e,_,rfl,.inr ⟨_,CF f,t,u,rfl,gU.tk ⟨s,v,J⟩,I,L,rfl⟩,_,_,rfl,?_,?_,?_,?_⟩
  ·intro b o q;rw[am (ae q an)];exact g _ _ q
  ·rw[am (fun z=>by rw[z,u]at j;cases j)];exact j
  ·rw[aa,take_snoc r,av];exact congrArg (fun z=>some (HO.dT z)) (n6 _ _).symm
  ·rw[<-hf,take_snoc r]
   conv=>rhs;unfold HC
   rw[if_neg];rintro(z|z|z|z|z)
   ·exact M z
   ·exact N z
   ·exact z O
   ·exact z T
   ·exact z U
 ·rintro σ H' ⟨x,y,rfl,G,_,_,hf⟩;have:=k H' G;rw[<-hf,ag,Paired.length C,List.drop_length]at this;exact this
theorem z7{g:Zb}{e:List (List Str)}:∀(f ahead:List ak) (i:Nat),i+f.length<=2000->(ahead++f).Nodup->(∀d∈f,d.a∈g/\d.sg∈e/\d.b∈g)->HC g e i ahead f=none
 |[],_,_,_,_,_=>rfl
 |n::k,ahead,i,l,h,j=>by
  rw[eO]at l;unfold HC;rw[if_neg]
  ·refine z7 k (ahead++[n]) (i+1) (by omega) (by rw[dZ];exact h) fun w m=>j w (fX _ m)
  ·have:=j n dS;rintro(z|z|z|z|z)
   ·omega
   ·rw[dq]at h;exact h.2.2 n z n (dS) rfl
   ·exact z this.1
   ·exact z this.2.1
   ·exact z this.2.2
inductive sp_need_none (vs:List V)(H:Hp)(Q:VK)(E:XK):Prop
 |mk (x:V):(vs=[x,.non])->(Q .non H)->sp_need_none  vs H Q E
theorem xI{K:Za}{a:List V}{H:Hp}{Q:VK}{E:XK}(h:sp_need_none a H Q E):yV K (bS Q) (start An a) H:=by
 obtain⟨x,rfl,k⟩:=h;refine⟨_,rfl,_,rfl,?_⟩;have e:(!decide (V.non=V.non))=false:=by rw[zzr1 rfl];rfl
 rw[e];exact bv k
structure Lists(H:Hp)(l1 l2 l3 l4:Addr)(ts:Ze)(J0 J2 J3:Zb)(ds:List ak):Prop where
 a1:H l1=some (.lst (J0.map V.str))
 a2:H l2=some (.lst (J2.map V.str))
 a3:H l3=some (.lst (J3.map V.str))
 a4:H l4=some (.lst (ts.map V.ref))
 ds:cA H ts ds
theorem Lists.same{H a:Hp}{f g l3 i:Addr}{j:Ze}{k l m:Zb}{n:List ak}(h:Lists H f g l3 i j k l m n)(e:ab H a):Lists a f g l3 i j k l m n :=
 ⟨e _ _ h.a1,e _ _ h.a2,e _ _ h.a3,e _ _ h.a4,h.ds.kt (ab.kt e)⟩
inductive sp_need_parts (vs:List V)(H:Hp)(Q:VK)(E:XK):Prop
 |mk (l1 l2 l3 l4:Addr) (ts:Ze) (J0 J2 J3:Zb) (ds:List ak):(vs=[.ref l1,.ref l2,.ref l3,.ref l4])->(Lists H l1 l2 l3 l4 ts J0 J2 J3 ds)->(aq J0 J2 J3 ds)->(∀H',ab H H'->Q .non H')->sp_need_parts  vs H Q E
theorem aq.signs{J0 i f:Zb}{j:List ak}(m:aq J0 i f j):∀d∈j,d.a∈f/\d.sg∈fS J0 i/\d.b∈f:=by
 intro d k;have g:=m.good d k;refine⟨g.a,?_,g.b⟩;unfold fS;rcases g.sg with⟨w,h,e⟩|⟨w,h,e⟩|e
 ·rw[e];exact bV _ (bV _ (aA.mpr ⟨w,h,rfl⟩))
 ·rw[e];exact bV _ (cx _ (aA.mpr ⟨w,h,rfl⟩))
 ·rw[e];exact cx _ (by simp[ay])
theorem qU{a:Zb}(h:eX a):∀w∈a,w.length<=1000:=fun w e=>bz (h.2 w e).hi (by decide)
theorem vp{K:Za}{s:List V}{H:Hp}{Q:VK}{E:XK}(h:sp_need_parts s H Q E):xm K sp_need_none (sp_first_wrong_door K) (sp_door_signs K) (sp_first_wrong_name K) (bS Q) (start yB s) H:=by
 obtain⟨l,t,u,y,z,f,g,j,n,rfl,L,m,k⟩:=h;have A:dh f 4 []=none:=iu m.asks0 m.asks4 m.okA.1 m.okA.2;have B:dh g 4 f=none:=iu m.says0 m.says4 (by
  rw[dq];exact⟨m.okA.1,m.okS.1,fun a C b D e=>m.apart b D (e▸C)⟩) m.okS.2
 have G:dh j 150 []=none:=iu m.rooms0 (by have:=m.rooms26;omega) m.okR.1 m.okR.2;have I:HC j (fS f g) 0 [] n=none:=z7 n [] 0 (by have:=m.few;omega) m.nodup m.signs;have z1:=m.asks4;have z2:=m.says4;have z3:=m.rooms26;have z4:=m.few;refine⟨_,rfl,(by show 0<=aj;decide),fun e i=>⟨l,e,f,[],4,rfl,au.of (kp L.a1 i),au.of aa,by simp;omega,qU m.okA,fun H1 J=>?_⟩⟩;rw[A];refine⟨_,rfl,?_⟩;have o:=(ab.new i).trans J;refine⟨_,rfl,_,rfl,t,l,g,f,4,rfl,au.of (o _ _ L.a2),au.of (o _ _ L.a1),by omega,qU m.okS,fun H2 M=>?_⟩;rw[B];refine⟨_,rfl,?_⟩;have v:=o.trans M;refine⟨_,rfl,(by show 0<=aj;decide),fun e i=>⟨u,e,j,[],150,rfl,au.of (kp (v _ _ L.a3) i),au.of aa,by simp;omega,qU m.okR,fun H3 N=>?_⟩⟩;rw[G];refine⟨_,rfl,?_⟩;have p:=(v.trans (ab.new i)).trans N;refine⟨_,rfl,_,rfl,_,rfl,_,rfl,l,t,f,g,rfl,p _ _ L.a1,p _ _ L.a2,by omega,by omega,fun O T H4 hx U q=>?_⟩;have x:=p.trans U;have r:=L.same x;refine⟨y,u,O,z,n,j,T,fS f g,rfl,r.a4,r.ds,r.a3,by omega,q,hx,by omega,fun Y s5=>?_⟩;rw[I];exact⟨_,rfl,k Y (x.trans s5)⟩
section
variable{κ ι:Type}[DecidableEq κ]{e:ι->κ}
def eo(e:ι->κ)(ps:List (ι×Addr)):List (κ×V):=ps.map fun x=>(e x.1,V.ref x.2)
theorem mB(inj:∀x y,e x=e y->x=y){i:ι}:∀{a:List (ι×Addr)},i∉a.map (·.1)->de (eo e a) (e i)=none
 |[],_=>rfl
 |x::a,h=>by
  rw[cg,c8]at h;show de ((e x.1,V.ref x.2)::eo e a) (e i)=none;rw[dB (fun z=>h (.inl (inj _ _ z).symm))];exact mB inj (fun z=>h (.inr z))
theorem eN(inj:∀x y,e x=e y->x=y){i:ι}{a:Addr}:∀{f:List (ι×Addr)},(f.map (·.1)).Nodup->(i,a)∈f->de (eo e f) (e i)=some (.ref a)
 |[],_,h=>by cases h
 |x::f,g,h=>by
  rw[cg,k5]at g;show de ((e x.1,V.ref x.2)::eo e f) (e i)=_;rcases c8.mp h with h|h
  ·rw[<-h];exact dU rfl
  ·rw[dB (fun z=>g.1 (by rw[inj _ _ z];exact aA.mpr ⟨_,h,rfl⟩))];exact eN inj g.2 h
theorem vZ(f:List (ι×Addr))(i:ι)(a:Addr):eo e (f++[(i,a)])=eo e f++[(e i,.ref a)]:=by
 unfold eo;rw[av]
 rfl
end
structure DL{ι:Type}(H0 H:Hp)(d:Addr)(ps:List (ι×Addr)):Prop where
 nd:(ps.map (·.1)).Nodup
 na:(ps.map (·.2)).Nodup
 fr:∀x∈ps,H0 x.2=none
 frd:H0 d=none
 ned:∀x∈ps,x.2≠d
 same:ab H0 H
theorem DL.snoc{ι:Type}{f H k:Hp}{d:Addr}{g:List (ι×Addr)}{i:ι}{a:Addr}(h:DL f H d g)(hi:i∉g.map (·.1))(l:∀x∈g,x.2≠a)(m:f a=none)(n:a≠d)(s:ab f k):DL f k d (g++[(i,a)]):=by
 refine⟨?_,?_,?_,h.frd,?_,s⟩
 ·rw[av,dq];refine⟨h.nd,by simp,fun x hx y j e=>?_⟩;have:y=i:=by simpa using j
  exact hi (by rw[<-this,<-e];exact hx)
 ·rw[av,dq];refine⟨h.na,by simp,fun x hx y j e=>?_⟩;have:y=a:=by simpa using j
  obtain⟨z,o,rfl⟩:=aA.mp hx;exact l z o (e.trans this)
 ·intro x hx;rcases bx.mp hx with hx|hx
  ·exact h.fr x hx
  ·have:x=(i,a):=by simpa using hx
   rw[this];exact m
 ·intro x hx;rcases bx.mp hx with hx|hx
  ·exact h.ned x hx
  ·have:x=(i,a):=by simpa using hx
   rw[this];exact n
theorem FP{ι:Type}:∀{a:List (ι×Addr)},(a.map (·.2)).Nodup->∀{x y:ι×Addr},x∈a->y∈a->x.2=y.2->x=y
 |[],_,x,_,h,_,_=>by cases h
 |p::a,f,x,y,hx,g,e=>by
  rw[cg,k5]at f;rcases c8.mp hx with hx'|hx'<;>rcases c8.mp g with hy'|hy'
  ·rw[hx',hy']
  ·exact absurd (aA.mpr ⟨y,hy',by rw[<-e,hx']⟩) f.1
  ·exact absurd (aA.mpr ⟨x,hx',by rw[e,hy']⟩) f.1
  ·exact FP f.2 hx' hy' e
theorem iI:∀x y:Str,(Sum.inr x:fu)=Sum.inr y->x=y:=fun x y h=>by injection h
def az(ds:List ak)(r:Str):List ak:=ds.filter fun d=>decide (d.a=r)
inductive sp_doors_by_start (vs:List V)(H:Hp)(Q:VK)(E:XK):Prop
 |mk (l3 l4:Addr) (ts:Ze) (J3:Zb) (ds:List ak):(vs=[.ref l3,.ref l4])->(H l3=some (.lst (J3.map V.str)))->(H l4=some (.lst (ts.map V.ref)))->(cA H ts ds)->(J3.Nodup)->(J3.length<=1000)->(ds.length<=9000)->((∀d∈ds,d.a∈J3))->(∀(d:Addr) (ps:List (Str×Addr)) (H':Hp),ps.map (·.1)=J3->H' d=some (.dK (eo Sum.inr ps))->(∀x∈ps,∃us,H' x.2=some (.lst (us.map V.ref))/\cA H' us (az ds x.1))->ab H H'->Q (.ref d) H')->sp_doors_by_start  vs H Q E
theorem pB{K:Za}{vs:List V}{H:Hp}{Q:VK}{E:XK}(h:sp_doors_by_start vs H Q E):qJ K (bS Q) (start rm vs) H:=by
 obtain⟨l3,l4,ts,J3,L,rfl,h3,h4,M,aC,hz,bn,a0,k⟩:=h;refine fun d hd=>?_;refine⟨_,rfl,l3,rfl,⟨_,au.of (kp h3 hd)⟩,?_⟩
 let a4:Nat->L2.St->Hp->Prop:=fun i σ j=>∃x y,σ=[some (.ref l3),some (.ref l4),some (.ref d),x,y]/\∃l:List (Str×Addr),l.map (·.1)=J3.take i/\j d=some (.dK (eo Sum.inr l))/\DL H j d l/\∀x∈l,j x.2=some (.lst [])
 refine bO (xs:=J3.map V.str) a4
  ⟨_,_,rfl,[],rfl,aa,⟨by simp,by simp,by simp,hd,by simp,ab.new hd⟩,by simp⟩ (fun i σ j _ zq=>by obtain⟨_,_,_,_,_,_,D,_⟩:=zq;exact au.of (D.same _ _ h3)) ?_ ?_
 ·rintro i x σ j hi ⟨x3,N,rfl,l,m,n,D,g⟩;obtain⟨w,hw,rfl⟩:=aZ hi;have v:w∉l.map (·.1):=by
   rw[m];intro z;have:=aC;rw[<-List.take_append_drop (i+1) J3,take_snoc hw,dq]at this;have:=this.1;rw[dq]at this;exact this.2.2 w z w (by simp) rfl
  refine⟨(by show 0<=aj;decide),fun a G=>?_⟩;have O:(eo (Sum.inr:Str->fu) l).length<aj:=ao (by
   unfold eo;rw[ag,<-ag (f:=(·.1)) (as:=l),m,aM];omega)
  have a5:H a=none:=D.same.free G;have T:a≠d:=(ae n G).symm;have U:∀x∈l,x.2≠a:=fun x hx=>ae (g x hx) G;refine⟨_,rfl,_,rfl,d,_,rfl,.inl ⟨_,.inr w,kp n G,rfl,O,rfl⟩,_,_,rfl,l++[(w,a)],?_,?_,?_,?_⟩
  ·rw[av,m,take_snoc hw];rfl
  ·rw[aa,pE _ (mB iI v),vZ]
  ·refine D.snoc v U a5 T ?_;intro b o q;rw[am (ae q hd)];exact kp (D.same _ _ q) G
  ·intro x hx;rcases bx.mp hx with hx|hx
   ·rw[am (D.ned x hx)];exact kp (g x hx) G
   ·have:x=(w,a):=by simpa using hx
    rw[this,am T];exact aa
 ·rintro σ H1 ⟨x3,N,rfl,l,m,a6,D1,g⟩;rw[ag,bg]at m;refine⟨_,rfl,l4,rfl,⟨_,au.of (D1.same _ _ h4)⟩,?_⟩
  let a7:Nat->L2.St->Hp->Prop:=fun i σ j=>∃N,σ=[some (.ref l3),some (.ref l4),some (.ref d),x3,N]/\j d=some (.dK (eo Sum.inr l))/\DL H j d l/\∀x∈l,∃I,j x.2=some (.lst (I.map V.ref))/\cA j I (az (L.take i) x.1)
  refine bO (xs:=ts.map V.ref) a7
   ⟨_,rfl,a6,D1,fun x hx=>⟨[],g x hx,.nil⟩⟩ (fun i σ j _ zq=>by obtain⟨_,_,_,D,_⟩:=zq;exact au.of (D.same _ _ h4)) ?_ ?_
  ·rintro i x σ j hi ⟨N,rfl,n,D,g⟩;obtain⟨t,ht,rfl⟩:=cD hi;obtain⟨u,B,a8⟩:=Paired.getL M ht;have A:=a8.kt (ab.kt D.same);have Y:=A;obtain⟨s,a9,bp⟩:=A;have al:u.a∈l.map (·.1):=by rw[m];exact a0 u (bW B)
   obtain⟨⟨r,a⟩,p,er⟩:=aA.mp al;obtain rfl:r=u.a:=er;obtain⟨I,C,an⟩:=g _ p;have b0:i<L.length:=(bN.mp B).1;have bb:I.length<=9000:=by
    rw[Paired.length an];refine bz (bo _ _) ?_;rw[aM];omega
   have KT:j7 j (upd j a (.lst (I.map V.ref++[.ref t]))):=cU C;refine⟨_,rfl,_,rfl,.inr (.inl ⟨t,_,0,_,rfl,rfl,br.of a9,rfl,d,.ref a,rfl,.inl ⟨_,.inr u.a,.inl n,rfl,(eN iI D.nd p).symm⟩,.inl ⟨rfl,_,au.of C⟩,_,rfl,a,_,_,rfl,rfl,C,?_,_,rfl,?_,?_,?_⟩)⟩
   ·rw[ag];exact eR bb
   ·rw[am (D.ned _ p).symm];exact n
   ·refine⟨D.nd,D.na,D.fr,D.frd,D.ned,fun b o q=>?_⟩;rw[am (ae q (D.fr _ p))];exact D.same _ _ q
   ·intro x hx;have ap:∀r',az (L.take (i+1)) r'=az (L.take i) r'++(if u.a=r' then[u]else[]):=by
     intro r';unfold az;rw[take_snoc B,f6];congr 1;by_cases c:u.a=r'
     ·rw[if_pos c];simp[c]
     ·rw[if_neg c];simp[c]
    by_cases c:x.2=a
    ·have ex:=FP D.na hx p c;subst ex;refine⟨I++[t],?_,?_⟩
     ·show upd j a _ a=_;rw[aa,av];rfl
     ·rw[ap];show cA _ _ (az (L.take i) u.a++(if u.a=u.a then[u]else[]))
      rw[if_pos rfl];exact Paired.app (an.kt KT) (.cons (Y.kt KT) .nil)
    ·obtain⟨bi,h1,h2⟩:=g x hx;have bl:¬(u.a=x.1):=fun z=>by
      have e1:=eN (e:=(Sum.inr:Str->fu)) iI D.nd p;have J:=eN (e:=(Sum.inr:Str->fu)) (i:=x.1) (a:=x.2) iI D.nd hx;rw[<-z,e1]at J;injection J with J;injection J with J;exact c J.symm
     refine⟨bi,by rw[am c];exact h1,?_⟩;rw[ap,if_neg bl,cM];exact h2.kt KT
  ·rintro σ j ⟨N,rfl,n,D,g⟩;rw[ag,Paired.length M,bg]at g;exact⟨_,rfl,k d l j m n g D.same⟩
def dP(d:ak):Bool:=match d.sg with
 |s::_=>decide (s=("ask":Str))
 |[]=>false
inductive sp_has_asks_alone (vs:List V)(H:Hp)(Q:VK)(E:XK):Prop
 |mk (a:Addr) (us:Ze) (ds:List ak):(vs=[.ref a])->(H a=some (.lst (us.map V.ref)))->(cA H us ds)->(ds.length<=9000)->((∀d∈ds,d.sg≠[]))->(∀H',ab H H'->Q (.bl (ds.all dP)) H')->sp_has_asks_alone  vs H Q E
theorem pA{K:Za}{f:List V}{H:Hp}{Q:VK}{E:XK}(h:sp_has_asks_alone f H Q E):qH K (bS Q) (start rj f) H:=by
 obtain⟨a,T,M,rfl,N,v,hz,D,k⟩:=h;refine⟨_,rfl,a,rfl,⟨_,au.of N⟩,fun l O=>?_⟩
 let G:Nat->List V->Hp->Prop:=fun i f n=>f=(M.take i).map (fun d=>V.bl (dP d))/\ab H n/\n l=some (.lst f)
 refine bD (xs:=T.map V.ref) G
  ⟨rfl,ab.new O,aa⟩ (fun i f n _ U=>by obtain⟨_,p,r⟩:=U;exact⟨r,au.of (p _ _ N)⟩) ?_ ?_
 ·rintro f n ⟨rfl,p,r⟩;rw[ag,Paired.length v,bg]at r;refine⟨l,M.map dP,rfl,au.of (by rw[r,qb];rfl),?_⟩;rw[List.all_map];exact k n p
 ·rintro i f n x hx hi ⟨rfl,p,r⟩;obtain⟨t,Y,rfl⟩:=cD hx;obtain⟨I,A,J⟩:=Paired.getL v Y;obtain⟨s,L,m⟩:=J.kt (ab.kt p);have B:=bW A;obtain⟨u,g,C⟩:∃u g,I.sg=u::g:=by
   cases q:I.sg with
   |nil=>exact absurd q (D I B)
   |cons x y=>exact⟨x,y,rfl⟩
  unfold SignAt at m;rw[C]at m;refine gN (nM ?_);refine⟨_,rfl,.inr (.inl ⟨t,_,1,_,rfl,rfl,br.of L,rfl,.inr (.inl ⟨s,_,0,.str u,rfl,rfl,br.of m,cp (j:=0) rfl,rfl,r,?_,jo hi ⟨?_,?_,aa⟩⟩)⟩)⟩
  ·rw[ag,aM];exact eR (by omega)
  ·rw[take_snoc A,av];congr 1;show[V.bl _]=[V.bl _];congr 2;unfold dP;rw[C];show decide (V.str u=V.str _)=decide (u=_);by_cases c:u=("ask":Str)
   ·rw[zzr1 c,zzr1 (by rw[c])]
   ·rw[zzr0 c,zzr0 (fun z=>c (by injection z))]
  ·intro b o e;rw[am (ae e O)];exact p _ _ e
def u7(x:Str×List Str):TK:=.t [qR x.1,nc x.2]
theorem iE:∀x y:Str×List Str,u7 x=u7 y->x=y:=by
 intro x y h;unfold u7 at h;injection h with h;injection h with a h;injection h with e h;cases x;cases y;simp only at *;rw[sV a,sZ e]
theorem mv(x:Str×List Str):(u7 x).depth<=8:=by
 show max (TK.depth (qR x.1)) (max (TK.depth (nc x.2)) 0)+1<=8;rw[gE];show max 0 (max 1 0)+1<=8
 decide
def a_(ds:List ak)(x:Str×List Str):List Str:=(ds.filter fun d=>decide (d.a=x.1/\d.sg=x.2)).map (·.b)
theorem yd(e:List ak)(d:ak)(x:Str×List Str):a_ (e++[d]) x=a_ e x++(if(d.a,d.sg)=x then[d.b]else[]):=by
 unfold a_;rw[f6,av];congr 1;by_cases c:(d.a,d.sg)=x
 ·subst c;simp
 ·rw[if_neg c];have:¬(d.a=x.1/\d.sg=x.2):=fun z=>c (by cases x;simp only at z;rw[z.1,z.2]);simp[qa];intro f g;exact this ⟨f,g⟩
theorem lZ{e:List ak}{x:Str×List Str}(h:∀d∈e,(d.a,d.sg)≠x):a_ e x=[]:=by
 unfold a_;rw[List.map_eq_nil_iff,List.filter_eq_nil_iff];intro d f;have:¬(d.a=x.1/\d.sg=x.2):=fun z=>h d f (by cases x;simp only at z;rw[z.1,z.2]);simp;intro g i;exact this ⟨g,i⟩
theorem cG{a:List ak}{x:Str×List Str}{b:Str}:b∈a_ a x↔(⟨x.1,x.2,b⟩:ak)∈a:=by
 unfold a_;rw[aA];constructor
 ·rintro⟨d,e,rfl⟩;rw[bJ]at e;obtain⟨i,j⟩:=e;obtain⟨f,g⟩:=of_decide_eq_true j;cases d;simp only at f g;rw[<-f,<-g];exact i
 ·intro h;exact⟨_,bJ.mpr ⟨h,zzr1 ⟨rfl,rfl⟩⟩,rfl⟩
structure js(H:Hp)(g:Addr)(ps:List ((Str×List Str)×Addr))(ds:List ak):Prop where
 nd:(ps.map (·.1)).Nodup
 g:H g=some (.dT (eo u7 ps))
 ls:∀x∈ps,H x.2=some (.lst ((a_ ds x.1).map V.str))
 all:∀d∈ds,(d.a,d.sg)∈ps.map (·.1)
theorem js.same{H H':Hp}{g:Addr}{a:List ((Str×List Str)×Addr)}{e:List ak}(h:js H g a e)(s:ab H H'):js H' g a e:=⟨h.nd,s _ _ h.g,fun x hx=>s _ _ (h.ls x hx),h.all⟩
inductive pc (vs:List V)(H:Hp)(Q:VK)(E:XK):Prop
 |mk (l4:Addr) (ts:Ze) (ds:List ak):(vs=[.ref l4])->(H l4=some (.lst (ts.map V.ref)))->(cA H ts ds)->(ds.length<=9000)->(∀(g:Addr) (ps:List ((Str×List Str)×Addr)) (H':Hp),js H' g ps ds->ab H H'->Q (.ref g) H')->pc  vs H Q E
theorem iX{K:Za}{vs:List V}{H:Hp}{Q:VK}{E:XK}(h:pc vs H Q E):je K (bS Q) (start jg vs) H:=by
 obtain⟨l4,ts,U,rfl,h4,an,hz,k⟩:=h;refine fun g hg=>?_;refine⟨_,rfl,l4,rfl,⟨_,au.of (kp h4 hg)⟩,?_⟩
 let a5:Nat->L2.St->Hp->Prop:=fun i σ u=>∃x y z,σ=[some (.ref l4),some (.ref g),x,y,z]/\∃p:List ((Str×List Str)×Addr),DL H u g p/\u g=some (.dT (eo u7 p))/\p.length<=i/\(∀x∈p,u x.2=some (.lst ((a_ (U.take i) x.1).map V.str)))/\∀d∈U.take i,(d.a,d.sg)∈p.map (·.1)
 refine bO (xs:=ts.map V.ref) a5
  ⟨_,_,_,rfl,[],⟨by simp,by simp,by simp,hg,by simp,ab.new hg⟩,aa,by simp,by simp,by simp⟩ (fun i σ u _ zq=>by obtain⟨_,_,_,_,_,D,_⟩:=zq;exact au.of (D.same _ _ h4)) ?_ ?_
 ·rintro i x σ u hi ⟨x2,x3,x4,rfl,p,D,A,ap,m,l⟩;obtain⟨t,ht,rfl⟩:=cD hi;obtain⟨f,G,a6⟩:=Paired.getL an ht;have bl:i<U.length:=(bN.mp G).1;obtain⟨s,a7,a8⟩:=a6.kt (ab.kt D.same);refine⟨t,_,rfl,br.of a7,rfl,_,_,rfl,_,_,rfl,_,_,rfl,rfl,?_⟩;refine⟨_,rfl,.inr (.inr (.inl ⟨rfl,.inr ⟨_,A⟩⟩)),_,rfl,_,rfl,(by show 2<=aj;decide),fun kt as=>⟨(by show 0<=aj;decide),fun nl Y=>?_⟩⟩;have I:ab u (upd (upd u kt (.tup [.str f.a,.ref s])) nl (.lst [])):=(ab.new as).trans (ab.new Y);have M:upd (upd u kt (.tup [.str f.a,.ref s])) nl (.lst []) kt=some (.tup [.str f.a,.ref s]):=kp aa Y;have N:upd (upd u kt (.tup [.str f.a,.ref s])) nl (.lst []) nl=some (.lst []):=aa;have j:u nl=none:=(ab.new as).free Y;generalize upd (upd u kt (.tup [.str f.a,.ref s])) nl (.lst [])=H2 at I M N ⊢;have a9:gQ H2 (u7 (f.a,f.sg)) (.ref kt):=by
   unfold u7 gQ;refine⟨kt,_,rfl,M,?_⟩;unfold TKAts;refine⟨_,_,rfl,xh _,?_⟩;unfold TKAts;refine⟨_,_,rfl,SignAt.tk (I _ _ a8),?_⟩;unfold TKAts
   rfl
  have bb:(eo u7 p).length<aj:=eR (by unfold eo;rw[ag];omega);have J:∀x,a_ (U.take (i+1)) x=a_ (U.take i) x++(if(f.a,f.sg)=x then[f.b]else[]):=fun x=>by rw[take_snoc G,yd]
  have bi:∀x,(a_ (U.take i) x).length<=9000:=fun x=>by
   unfold a_;rw[ag];refine bz (bo _ _) ?_;rw[aM];omega
  refine⟨g,kt,_,u7 (f.a,f.sg),.ref nl,rfl,rfl,I _ _ A,a9,mv _,bb,fun v L=>?_,fun L=>?_⟩
  ·-- there aC
   have O:(f.a,f.sg)∈p.map (·.1):=by
    refine Classical.byContradiction fun z=>?_;rw[mB iE z]at L;cases L
   obtain⟨⟨r,a⟩,n,er⟩:=aA.mp O;obtain rfl:r=(f.a,f.sg):=er;rw[eN iE D.nd n]at L;injection L with L;subst L;have a0:=I _ _ (m _ n);refine⟨.inl ⟨rfl,_,au.of a0⟩,_,rfl,a,_,_,rfl,rfl,a0,by rw[ag];exact eR (bi _),_,_,_,rfl,p,⟨D.nd,D.na,D.fr,D.frd,D.ned,fun b o q=>?_⟩,?_,by omega,?_,?_⟩
   ·rw[am (ae q (D.fr _ n))];exact I _ _ (D.same _ _ q)
   ·rw[am (D.ned _ n).symm];exact I _ _ A
   ·intro x hx;by_cases c:x.2=a
    ·have ex:=FP D.na hx n c;subst ex;show upd H2 a _ a=_;rw[aa,J,if_pos rfl,av];rfl
    ·have al:¬((f.a,f.sg)=x.1):=fun z=>by
      have e1:=eN (e:=u7) iE D.nd n;have e2:=eN (e:=u7) (i:=x.1) (a:=x.2) iE D.nd hx;rw[<-z,e1]at e2;injection e2 with e2;injection e2 with e2;exact c e2.symm
     rw[am c,J,if_neg al,cM];exact I _ _ (m x hx)
   ·intro d hd;rw[take_snoc G]at hd;rcases bx.mp hd with hd|hd
    ·exact l d hd
    ·have:d=f:=by simpa using hd
     rw[this];exact O
  ·-- a new list
   have B:(f.a,f.sg)∉p.map (·.1):=by
    intro z;obtain⟨⟨r,a⟩,n,er⟩:=aA.mp z;obtain rfl:r=(f.a,f.sg):=er;rw[eN iE D.nd n]at L;cases L
   have C:nl≠g:=(ae A j).symm;have T:upd H2 g (.dT (eo u7 p++[(u7 (f.a,f.sg),.ref nl)])) nl=some (.lst []):=by rw[am C];exact N
   refine⟨.inl ⟨rfl,_,au.of T⟩,_,rfl,nl,_,_,rfl,rfl,T,(by show 0<aj;decide),_,_,_,rfl,p++[((f.a,f.sg),nl)],?_,?_,?_,?_,?_⟩
   ·refine D.snoc B (fun x hx=>ae (m x hx) j) (D.same.free j) C ?_;intro b o q;rw[am (ae q (D.same.free j)),am (ae q hg)];exact I _ _ (D.same _ _ q)
   ·rw[am C.symm,aa,vZ]
   ·rw[aS];show _+1<=_;omega
   ·intro x hx;rcases bx.mp hx with hx|hx
    ·have al:¬((f.a,f.sg)=x.1):=fun z=>B (by rw[z];exact aA.mpr ⟨x,hx,rfl⟩);rw[am (ae (m x hx) j),am (D.ned x hx),J,if_neg al,cM];exact I _ _ (m x hx)
    ·have:x=((f.a,f.sg),nl):=by simpa using hx
     subst this;have a4:a_ (U.take i) (f.a,f.sg)=[]:=lZ fun d hd z=>B (by rw[<-z];exact l d hd);show upd _ nl _ nl=_;rw[aa,J,if_pos rfl,a4]
     rfl
   ·intro d hd;rw[av];rw[take_snoc G]at hd;rcases bx.mp hd with hd|hd
    ·exact bV _ (l d hd)
    ·have:d=f:=by simpa using hd
     rw[this];exact cx _ (by simp)
 ·rintro σ u ⟨x2,x3,x4,rfl,p,D,A,ap,m,l⟩;rw[ag,Paired.length an,bg]at m l;exact⟨_,rfl,k g p u ⟨D.nd,A,m,l⟩ D.same⟩
theorem lV:∀{L R:Zb},L.Nodup->(∀y∈L,y∈R)->L.length<=R.length
 |[],_,_,_=>c7 _
 |x::L,R,a,h=>by
  rw[k5]at a;have hx:=h x dS;have:=lV (L:=L) (R:=R.erase x) a.2 fun y f=>(List.mem_erase_of_ne (fun e:y=x=>a.1 (by rw[<-e];exact f))).mpr (h y (fX _ f));rw[List.length_erase_of_mem hx]at this;have:0<R.length:=List.length_pos_of_mem hx;rw[eO];omega
theorem Reach.in_{e:List ak}{a b:Str}{f:Zb}(g:∀d∈e,d.b∈f)(h:Reach e a b):b∈f:=by
 cases h with
 |one h=>exact g _ h
 |step r h=>exact g _ h
inductive xD (vs:List V)(H:Hp)(Q:VK)(E:XK):Prop
 |mk (g:Addr) (room:Str) (ps:List ((Str×List Str)×Addr)) (ds:List ak) (J3:Zb):(vs=[.ref g,.str room])->(js H g ps ds)->((∀d∈ds,d.b∈J3))->(J3.length<=1000)->(∀(d:Addr) (L:Zb) (H':Hp),H' d=some (.dK (bh L))->L.Nodup->(∀w,w∈L↔Reach ds room w)->H d=none->ab H H'->Q (.ref d) H')->xD  vs H Q E
structure Jk(H0 H:Hp)(ds:List ak)(room:Str)(d w:Addr)(L W:Zb)(open_:Str->Prop):Prop where
 d:H d=some (.dK (bh L))
 w:H w=some (.lst (W.map V.str))
 same:ab H0 H
 nd:L.Nodup
 sound:∀y∈L,Reach ds room y
 wait:∀y∈W,y=room∨y∈L
 closed:∀y,(y=room∨y∈L)->y∉W->¬open_ y->∀c∈a_ ds (y,ay),c∈L
theorem sw{K:Za}{st:Addr}(b1:∀H,br K H st (ay.map V.str)){vs:List V}{H:Hp}{Q:VK}{E:XK}(h:xD vs H Q E):t3 K st (bS Q) (start uW vs) H:=by
 obtain⟨g,room,ps,ds,t,rfl,G,b2,hz,k⟩:=h;refine fun d hd=>?_;refine⟨_,rfl,(by show 1<=aj;decide),fun w hw=>?_⟩;have a0:H w=none:=(ab.new hd).free hw;have Y:d≠w:=ae aa hw;refine⟨fun m σ C=>∃(L W:Zb) (x y:Option V),σ=[some (.ref g),some (.str room),some (.ref d),some (.ref w),x,y]/\Jk H C ds room d w L W (fun _=>False)/\m=2 * (t.length-L.length)+W.length/\m<=2 * t.length+1,
  ⟨_,[],[room],_,_,rfl,⟨kp aa hw,aa,(ab.new hd).trans (ab.new hw),tP,by simp,by simp,?_⟩,rfl,aP _⟩,?_⟩
 ·intro y hy T;rcases hy with rfl|hy
  ·simp at T
  ·cases hy
 rintro m σ H1 ⟨L,W,x4,x5,rfl,D,rfl,hbound⟩;have U:∀{l:Zb},l.Nodup->(∀y∈l,Reach ds room y)->l.length<=t.length:=fun nd sd=>lV nd fun y hy=>(sd y hy).in_ b2;refine⟨_,rfl,.inl ⟨w,_,rfl,.inl (au.of D.w),_,_,rfl,rfl,_,rfl,?_⟩⟩;refine kz (fun B=>?_) (fun B=>?_)
 ·have a4:W≠[]:=by
   intro z;rw[z]at B;exact absurd (of_decide_eq_true B) (by decide)
  obtain⟨s,f,rfl⟩:∃s f,W=s++[f]:=⟨W.dropLast,W.getLast a4,(List.dropLast_concat_getLast a4).symm⟩;have al:f=room∨f∈L:=D.wait f (by simp);refine⟨fun σ' C=>∃(l n:Zb) (x y:Option V),σ'=[some (.ref g),some (.str room),some (.ref d),some (.ref w),x,y]/\Jk H C ds room d w l n (fun _=>False)/\2 * (t.length-l.length)+n.length<2 * (t.length-L.length)+(s++[f]).length,
   fun σ' C ⟨l,n,x,y,e,D',hm⟩=>⟨_,hm,l,n,x,y,e,D',rfl,by omega⟩,?_⟩
  have an:((s++[f]).map V.str)[((s++[f]).map V.str).length-1]?=some (.str f):=by simp
  have ap:((s++[f]).map V.str).dropLast=s.map V.str:=by rw[av];simp
  refine⟨_,rfl,.inl ⟨rfl,_,au.of D.w⟩,w,_,_,rfl,rfl,D.w,an,?_⟩;rw[ap];have a5:upd H1 w (.lst (s.map V.str)) d=some (.dK (bh L)):=by rw[am Y];exact D.d
  have a6:upd H1 w (.lst (s.map V.str)) w=some (.lst (s.map V.str)):=aa;have S1:ab H (upd H1 w (.lst (s.map V.str))):=fun b o q=>by rw[am (ae q a0)];exact D.same _ _ q
  generalize upd H1 w (.lst (s.map V.str))=H2 at a5 a6 S1 ⊢;have G2:=G.same S1;refine⟨_,rfl,g,rfl,.inr ⟨_,.inl G2.g⟩,_,rfl,(by show 2<=aj;decide),fun kt a7=>⟨(by show 0<=aj;decide),fun et as=>⟨de (eo u7 ps) (u7 (f,ay)),.inr ⟨_,u7 (f,ay),kt,.inl ?_,rfl,?_,mv _,rfl⟩,?_⟩⟩⟩
  ·exact kp (kp G2.g a7) as
  ·unfold u7 om;refine⟨kt,_,rfl,br.of (kp aa as),?_⟩;unfold TKIns;refine⟨_,_,rfl,?_,?_⟩
   ·unfold qR om;rfl
   unfold TKIns;refine⟨_,_,rfl,?_,?_⟩
   ·unfold nc om;refine⟨st,_,rfl,b1 _,?_⟩;unfold ay;show TKIns K _ [qR _] [V.str _];unfold TKIns;refine⟨_,_,rfl,?_,?_⟩
    ·unfold qR om;rfl
    unfold TKIns;rfl
   unfold TKIns;rfl
  have S3:ab H2 (upd (upd H2 kt (.tup [.str f,.ref st])) et (.tup [])):=(ab.new a7).trans (ab.new as);have I:upd (upd H2 kt (.tup [.str f,.ref st])) et (.tup []) et=some (.tup []):=aa;generalize upd (upd H2 kt (.tup [.str f,.ref st])) et (.tup [])=H3 at S3 I ⊢;have D3:Jk H H3 ds room d w L s (fun y=>y=f):=⟨S3 _ _ a5,S3 _ _ a6,S1.trans S3,D.nd,D.sound,fun y hy=>D.wait y (bV _ hy),fun y hy T ho=>D.closed y hy (fun z=>by rcases bx.mp z with z|z;exact T z;exact ho (by simpa using z)) (fun z=>z)⟩;have a8:2 * (t.length-L.length)+s.length<2 * (t.length-L.length)+(s++[f]).length:=by rw[aS];show _<_+(_+1);omega
  have a9:∀(H4:Hp) (l n:Zb) (x y:Option V),Jk H H4 ds room d w l n (fun y=>y=f)->(∀c∈a_ ds (f,ay),c∈l)->2 * (t.length-l.length)+n.length<2 * (t.length-L.length)+(s++[f]).length ->
    ∃(l n:Zb) (x' y':Option V),[some (V.ref g),some (.str room),some (.ref d),some (.ref w),x,y]=[some (.ref g),some (.str room),some (.ref d),some (.ref w),x',y']/\Jk H H4 ds room d w l n (fun _=>False)/\2 * (t.length-l.length)+n.length<2 * (t.length-L.length)+(s++[f]).length:=by
   intro H4 l n x y p hc hm;refine⟨l,n,x,y,rfl,⟨p.d,p.w,p.same,p.nd,p.sound,p.wait,fun y hy T _=>?_⟩,hm⟩;by_cases e:y=f
   ·rw[e];exact hc
   ·exact p.closed y hy T e
  by_cases J:(f,ay)∈ps.map (·.1)
  ·obtain⟨⟨r,a⟩,bb,er⟩:=aA.mp J;obtain rfl:r=(f,ay):=er;rw[eN iE G.nd bb];have bi:=G.ls _ bb;refine⟨a,rfl,.inl ⟨⟨_,au.of ((S1.trans S3) _ _ bi)⟩,?_⟩⟩
   let aC:Nat->L2.St->Hp->Prop:=fun j σ C=>HR fun(l n:Zb) (y:Option V)=>GA (σ=[some (.ref g),some (.str room),some (.ref d),some (.ref w),some (.str f),y]) (Jk H C ds room d w l n (fun y=>y=f)) ((f=room∨f∈l)) ((∀c∈(a_ ds (f,ay)).take j,c∈l)) (2 * (t.length-l.length)+n.length<2 * (t.length-L.length)+(s++[f]).length)
   refine bO (xs:=(a_ ds (f,ay)).map V.str) aC
    ⟨L,s,_,rfl,D3,al,by simp,a8⟩ (fun j σ C _ zq=>by obtain⟨_,_,_,_,D',_,_,_⟩:=zq;exact au.of (D'.same _ _ bi)) ?_ ?_
   ·rintro j x σ H4 hj ⟨l,n,y,rfl,p,hh,hc,hm⟩;obtain⟨i,u,rfl⟩:=aZ hj;have v:(⟨f,ay,i⟩:ak)∈ds:=cG.mp (bW u);have O:Reach ds room i:=by
     rcases hh with hh|hh
     ·rw[hh]at v;exact .one v
     ·exact .step (p.sound _ hh) v
    have b3:=U p.nd p.sound;refine⟨_,rfl,_,rfl,d,_,rfl,.inl ⟨_,.inr i,.inl p.d,rfl,rfl⟩,_,rfl,?_⟩;rw[eU];by_cases c:i∈l
    ·rw[zzr1 c];refine bv ⟨l,n,_,rfl,p,hh,?_,hm⟩;intro c' A;rw[take_snoc u]at A;rcases bx.mp A with h|h
     ·exact hc c' h
     ·have:c'=i:=by simpa using h
      rw[this];exact c
    ·rw[zzr0 c];refine cr ?_;have bn:(l++[i]).Nodup:=by
      rw[dq];refine⟨p.nd,by simp,fun a ha b hb e=>?_⟩;have:b=i:=by simpa using hb
      exact c (by rw[<-this,<-e];exact ha)
     have bp:∀y∈l++[i],Reach ds room y:=by
      intro y hy;rcases bx.mp hy with hy|hy
      ·exact p.sound y hy
      ·have:y=i:=by simpa using hy
       rw[this];exact O
     have M:=U bn bp;rw[aS]at M;have b4:l.length+1<=t.length:=M;have b5:n.length<=9000:=by omega
     refine⟨_,rfl,_,rfl,d,_,rfl,.inl ⟨_,.inr i,p.d,rfl,ao (bz (kr _) (by omega)),rfl⟩,?_⟩;have b0:upd H4 d (.dK (eT (bh l) (.inr i) (.bl true))) w=some (.lst (n.map V.str)):=by rw[am Y.symm];exact p.w
     refine⟨_,rfl,.inl ⟨rfl,_,au.of b0⟩,_,rfl,w,_,_,rfl,rfl,b0,by rw[ag];exact eR b5,l++[i],n++[i],_,rfl,⟨?_,?_,?_,bn,bp,?_,?_⟩,?_,?_,?_⟩
     ·rw[am Y,aa,dW]
     ·rw[aa,av];rfl
     ·intro b o q;rw[am (ae q a0),am (ae q hd)];exact p.same _ _ q
     ·intro y hy;rcases bx.mp hy with hy|hy
      ·rcases p.wait y hy with h|h
       ·exact .inl h
       ·exact .inr (bV _ h)
      ·exact .inr (cx _ hy)
     ·intro y hy T ho c' A;have b6:y∉n:=fun z=>T (bV _ z);have b7:y≠i:=fun z=>T (cx _ (by simp[z]));refine bV _ (p.closed y ?_ b6 ho c' A);rcases hy with hy|hy
      ·exact .inl hy
      ·rcases bx.mp hy with hy|hy
       ·exact .inr hy
       ·exact absurd (by simpa using hy) b7
     ·rcases hh with h|h
      ·exact .inl h
      ·exact .inr (bV _ h)
     ·intro c' A;rw[take_snoc u]at A;rcases bx.mp A with h|h
      ·exact bV _ (hc c' h)
      ·exact cx _ h
     ·rw[aS,aS];show 2 * (t.length-(l.length+1))+(n.length+1)<_;omega
   ·rintro σ H4 ⟨l,n,y,rfl,p,hh,hc,hm⟩;rw[ag,bg]at hc;exact a9 H4 l n _ _ p hc hm
  ·rw[mB iE J];refine⟨et,rfl,.inr ⟨⟨_,br.of I⟩,?_⟩⟩;have N:a_ ds (f,ay)=[]:=lZ fun x hx z=>J (by rw[<-z];exact G.all x hx)
   let aC:Nat->L2.St->Hp->Prop:=fun j σ C=>σ=[some (.ref g),some (.str room),some (.ref d),some (.ref w),some (.str f),x5]/\C=H3
   refine ye (xs:=[]) aC ⟨rfl,rfl⟩ (fun j σ C _ zq=>by obtain⟨_,e⟩:=zq;exact by rw[e];exact br.of I) (fun j x σ C hj=>by cases hj) ?_;rintro σ C ⟨rfl,rfl⟩;exact a9 _ L s _ _ D3 (by rw[N];simp) a8
 ·have N:W=[]:=by
   cases W with
   |nil=>rfl
   |cons a W=>exact absurd (zzr1 (by rw[ag,eO];omega)) B
  subst N;refine⟨_,rfl,k d L H1 D.d D.nd (fun w=>⟨D.sound w,fun hr=>?_⟩) hd D.same⟩
  induction hr with
  |one h=>exact D.closed room (.inl rfl) (by simp) (fun z=>z) _ (cG.mpr h)
  |step r h ih=>exact D.closed _ (.inr ih) (by simp) (fun z=>z) _ (cG.mpr h)
inductive sp_first_led_round (vs:List V)(H:Hp)(Q:VK)(E:XK):Prop
 |mk (l3 d:Addr) (J3:Zb) (ps:List (Str×Addr)):(vs=[.ref l3,.ref d])->(H l3=some (.lst (J3.map V.str)))->(H d=some (.dK (eo Sum.inr ps)))->(ps.map (·.1)=J3)->(J3.Nodup)->((∀x∈ps,∃L,H x.2=some (.dK (bh L))/\x.1∉L))->(∀H',ab H H'->Q .non H')->sp_first_led_round  vs H Q E
theorem nX{K:Za}{p:List V}{H:Hp}{Q:VK}{E:XK}(h:sp_first_led_round p H Q E):oP K (bS Q) (start pY p) H:=by
 obtain⟨q,d,u,v,rfl,s,z,f,m,A,k⟩:=h;refine⟨_,rfl,q,rfl,⟨_,au.of s⟩,?_⟩
 let n:Nat->L2.St->Hp->Prop:=fun i σ e=>∃x y,σ=[some (.ref q),some (.ref d),x,y]/\ab H e
 refine l5 (xs:=u.map V.str) n ⟨_,_,rfl,ab.refl H⟩ (fun i σ e _ B=>by obtain⟨_,_,_,S⟩:=B;exact au.of (S _ _ s)) ?_ ?_
 ·rintro i x σ e t hi ⟨J,M,rfl,S⟩ C;obtain⟨w,D,rfl⟩:=aZ hi;refine⟨t,_,rfl,br.of aa,rfl,_,_,rfl,_,_,rfl,rfl,?_⟩;have l:ab H (upd e t (.tup [.int i,.str w])):=S.trans (ab.new C);generalize upd e t (.tup [.int i,.str w])=N at l ⊢;have g:w∈v.map (·.1):=by rw[f];exact bW D
  obtain⟨⟨r,a⟩,j,G⟩:=aA.mp g;obtain rfl:r=w:=G;obtain⟨L,o,I⟩:=A _ j;refine⟨_,rfl,_,rfl,_,rfl,d,.ref a,rfl,.inl ⟨_,.inr r,.inl (l _ _ z),rfl,(eN iI (by rw[f];exact m) j).symm⟩,a,_,rfl,.inl ⟨_,.inr r,.inl (l _ _ o),rfl,rfl⟩,_,rfl,?_⟩;rw[eU,zzr0 I];exact bv ⟨_,_,rfl,l⟩
 ·rintro σ e ⟨x,y,rfl,S⟩;exact k e S
abbrev lk(f:Str)(fs:List (Str×V)):Option V:=fs.lookup f
def cY(ds:List ak)(r:Str):Bool:=(az ds r).all dP
structure aX(C:Addr)(H:Hp)(x:Addr)(J0 J2 J3:Zb)(ds:List ak):Prop where
 at_:∃(dx:Addr) (fs:List (Str×V)) (o1 o2 o3 o4 lv qu sg sl:Addr) (ts:Ze) (lps:List (Str×Addr)) (gps:List ((Str×List Str)×Addr)) (sps:List (Str×Addr)),
  H x=some (.ins C dx fs)/\lk "is_quiet" fs=none/\lk "goals" fs=none/\lk "led_from" fs=none/\lk "rooms" fs=none /\
  lk "own_asks" fs=some (.ref o1)/\lk "own_says" fs=some (.ref o2)/\lk "own_rooms" fs=some (.ref o3)/\lk "own_doors" fs=some (.ref o4) /\
  lk "leaving" fs=some (.ref lv)/\lk "quiet" fs=some (.ref qu)/\lk "sign_goals" fs=some (.ref sg)/\lk "still_led" fs=some (.ref sl) /\
  Lists H o1 o2 o3 o4 ts J0 J2 J3 ds /\
  lps.map (·.1)=J3/\H lv=some (.dK (eo Sum.inr lps))/\(∀x∈lps,∃us,H x.2=some (.lst (us.map V.ref))/\cA H us (az ds x.1)) /\
  H qu=some (.dK (bh (J3.filter (cY ds))))/\js H sg gps ds /\
  sps.map (·.1)=J3/\H sl=some (.dK (eo Sum.inr sps))/\(∀x∈sps,∃L,H x.2=some (.dK (bh L))/\L.Nodup/\∀w,w∈L↔Reach ds x.1 w)
 ok:aq J0 J2 J3 ds
 more:∃(dx:Addr) (fs:List (Str×V)),H x=some (.ins C dx fs)/\lk "asks" fs=none/\lk "says" fs=none/\lk "doors" fs=none/\lk "doors_from" fs=none
theorem ic(f:Str)(v:V):∀fs:List (Str×V),(dR f v fs).length<=fs.length+1
 |[]=>aP _
 | (g,x)::r=>by
  unfold dR;split
  ·exact BM _
  ·rw[eO,eO];have:=ic f v r;omega
theorem ux:∀(a qs:List (Str×Addr)),((qs++a).map (·.1)).Nodup->jE (eo Sum.inr qs) (eo Sum.inr a)=eo Sum.inr (qs++a)
 |[],qs,_=>by rw[cM];rfl
 |p::a,qs,g=>by
  show jE (eT (eo Sum.inr qs) (Sum.inr p.1) (.ref p.2)) (eo Sum.inr a)=_;have e:qs++p::a=(qs++[p])++a:=by simp
  rw[e]at g ⊢;have f:p.1∉qs.map (·.1):=by
   rw[av,av,dq]at g;have:=g.1;rw[dq]at this;intro z;exact this.2.2 _ z _ (by simp) rfl
  rw[pE _ (mB iI f)];have:=ux a (qs++[p]) g;rw[<-this];have h:eo (Sum.inr:Str->fu) (qs++[p])=eo Sum.inr qs++[(Sum.inr p.1,V.ref p.2)]:=by
   unfold eo;rw[av];rfl
  rw[h]
inductive pb(C:Addr)(vs:List V)(H:Hp)(Q:VK)(E:XK):Prop
 |mk (x dx l1 l2 l3 l4:Addr) (ts:Ze) (J0 J2 J3:Zb) (ds:List ak):(vs=[.ref x,.ref l1,.ref l2,.ref l3,.ref l4])->(H x=some (.ins C dx []))->(Lists H l1 l2 l3 l4 ts J0 J2 J3 ds)->(aq J0 J2 J3 ds)->(∀H',aX C H' x J0 J2 J3 ds->eI x H H'->Q .non H')->pb C vs H Q E
theorem Lists.exI{H f:Hp}{x C q:Addr}{fs:List (Str×V)}{g i l3 j:Addr}{k:Ze}{l m n:Zb}{o:List ak}(h:Lists H g i l3 j k l m n o)(hx:H x=some (.ins C q fs))(e:eI x H f):Lists f g i l3 j k l m n o:=by
 have ne:∀{b:Addr}{p:List V},H b=some (.lst p)->b≠x:=fun a z=>by rw[z,hx]at a;cases a
 exact⟨e _ _ h.a1 (ne h.a1),e _ _ h.a2 (ne h.a2),e _ _ h.a3 (ne h.a3),e _ _ h.a4 (ne h.a4),h.ds.kt fun b p a=>e _ _ a fun z=>by rw[z,hx]at a;cases a⟩
theorem eI.ktI{H f:Hp}{x C g:Addr}{fs:List (Str×V)}(e:eI x H f)(hx:H x=some (.ins C g fs)):j7 H f:=fun b h a=>e _ _ a fun z=>by rw[z,hx]at a;cases a
theorem eI.neI{H:Hp}{x C e:Addr}{fs:List (Str×V)}(hx:H x=some (.ins C e fs)){b:Addr}{f:List V}(a:H b=some (.lst f)):b≠x:=fun z=>by rw[z,hx]at a;cases a
theorem FO{H:Hp}{x C f:Addr}{fs:List (Str×V)}(hx:H x=some (.ins C f fs)){b:Addr}{a:List (fu×V)}(e:H b=some (.dK a)):b≠x:=fun z=>by rw[z,hx]at e;cases e
theorem Ig{H:Hp}{x C f:Addr}{fs:List (Str×V)}(hx:H x=some (.ins C f fs)){b:Addr}{a:List (TK×V)}(e:H b=some (.dT a)):b≠x:=fun z=>by rw[z,hx]at e;cases e
structure MC(K:Za)(C:Addr):Prop where
 cls:Er K C
 a1:gp K C "own_asks"
 a2:gp K C "own_says"
 a3:gp K C "own_rooms"
 a4:gp K C "own_doors"
 a5:gp K C "leaving"
 a6:gp K C "quiet"
 a7:gp K C "sign_goals"
 a8:gp K C "still_led"
theorem z9{H:Hp}{x C a:Addr}{fs:List (Str×V)}(f:Str)(y:V)(hx:H x=some (.ins C a fs)):∃e,e=upd H x (.ins C a (dR f y fs))/\e x=some (.ins C a (dR f y fs))/\eI x H e :=
 ⟨_,rfl,aa,eI.upd _ _ _⟩
theorem bU{p:Str->Bool}{a:Zb}{i:Nat}{w:Str}(h:a[i]?=some w):(a.take (i+1)).filter p=(a.take i).filter p++(if p w=true then[w]else[]):=by
 rw[take_snoc h,f6];congr 1;by_cases c:p w=true
 ·rw[if_pos c];simp[c]
 ·rw[if_neg c];simp[c]
theorem uA(a:List ak)(r:Str):(az a r).length<=a.length:=bo _ _
theorem aq.sg0{a f g:Zb}{ds:List ak}(m:aq a f g ds){r:Str}:∀d∈az ds r,d.sg≠[]:=by
 intro d h;have:=m.good d (bJ.mp h).1;rcases this.sg with⟨w,_,e⟩|⟨w,_,e⟩|e<;>rw[e]<;>exact List.cons_ne_nil _ _
theorem He{K:Za}{C:Addr}(M:MC K C){B:List V}{H:Hp}{Q:VK}{E:XK}(h:pb C B H Q E):
  nS K sp_need_none sp_first_led_round xD pc (sp_as_keys K) sp_has_asks_alone sp_doors_by_start sp_need_parts (bS Q) (start oA B) H:=by
 obtain⟨x,G,l1,l2,l3,l4,ts,J0,J2,I,ds,rfl,hx,L,m,k⟩:=h;have z3:=m.rooms26;have z4:=m.few;refine⟨_,rfl,_,rfl,_,rfl,_,rfl,l1,l2,l3,l4,ts,J0,J2,I,ds,rfl,L,m,fun H1 S1=>?_⟩;have a0:=S1 _ _ hx;have L1:=L.same S1;have E1:eI x H H1:=ab.exB S1;refine⟨_,rfl,.inl ⟨l1,_,rfl,.inl (au.of L1.a1),fun o1 a9=>⟨_,rfl,x,C,G,_,rfl,kp a0 a9,M.cls,M.a1,(by show 0<1000;decide),?_⟩⟩⟩;obtain⟨H2,e2,bb,F2⟩:=z9 "own_asks" (.ref o1) (kp (x:=.lst (J0.map V.str)) a0 a9);rw[<-e2];have n1:o1≠x:=(ae a0 a9).symm;have f1:=F2 _ _ aa n1;have E2:eI x H1 H2:=(eI.new a9).trans F2;have ci:=L1.exI a0 E2;have d0:(dR ("own_asks":Str) (.ref o1) []).length<=1:=ic _ _ _;clear e2 F2;refine⟨_,rfl,.inl ⟨l2,_,rfl,.inl (au.of ci.a2),fun o2 bi=>⟨_,rfl,x,C,G,_,rfl,kp bb bi,M.cls,M.a2,by omega,?_⟩⟩⟩;obtain⟨H3,e3,bl,F3⟩:=z9 "own_says" (.ref o2) (kp (x:=.lst (J2.map V.str)) bb bi);rw[<-e3];have n2:o2≠x:=(ae bb bi).symm;have f2:=F3 _ _ aa n2;have E3:eI x H2 H3:=(eI.new bi).trans F3;have L3:=ci.exI bb E3;have d1:=ic ("own_says":Str) (.ref o2) (dR ("own_asks":Str) (.ref o1) []);clear e3 F3;refine⟨_,rfl,.inl ⟨l3,_,rfl,.inl (au.of L3.a3),fun o3 bn=>⟨_,rfl,x,C,G,_,rfl,kp bl bn,M.cls,M.a3,by omega,?_⟩⟩⟩;obtain⟨H4,e4,bp,F4⟩:=z9 "own_rooms" (.ref o3) (kp (x:=.lst (I.map V.str)) bl bn);rw[<-e4];have n3:o3≠x:=(ae bl bn).symm;have f3:=F4 _ _ aa n3;have E4:eI x H3 H4:=(eI.new bn).trans F4;have L4:=L3.exI bl E4;have d2:=ic ("own_rooms":Str) (.ref o3) (dR ("own_says":Str) (.ref o2) (dR ("own_asks":Str) (.ref o1) []));clear e4 F4;refine⟨_,rfl,.inl ⟨l4,_,rfl,.inl (au.of L4.a4),fun o4 b0=>⟨_,rfl,x,C,G,_,rfl,kp bp b0,M.cls,M.a4,by omega,?_⟩⟩⟩;obtain⟨H5,e5,n,F5⟩:=z9 "own_doors" (.ref o4) (kp (x:=.lst (ts.map V.ref)) bp b0);rw[<-e5];have n4:o4≠x:=(ae bp b0).symm;have f4:=F5 _ _ aa n4;have E5:eI x H4 H5:=(eI.new b0).trans F5;have L5:=L4.exI bp E5;generalize b6:dR ("own_doors":Str) (.ref o4) (dR ("own_rooms":Str) (.ref o3) (dR ("own_says":Str) (.ref o2) (dR ("own_asks":Str) (.ref o1) [])))=s at n;have d3:s.length<=4:=by
  rw[<-b6];have:=ic ("own_doors":Str) (.ref o4) (dR ("own_rooms":Str) (.ref o3) (dR ("own_says":Str) (.ref o2) (dR ("own_asks":Str) (.ref o1) [])));omega
 clear e5 F5;refine⟨_,rfl,_,rfl,l3,l4,ts,I,ds,rfl,L5.a3,L5.a4,L5.ds,m.okR.1,by omega,by omega,fun d hd=>(m.good d hd).a,fun O b1 d8 T U b7 S6=>⟨_,rfl,x,C,G,s,rfl,S6 _ _ n,M.cls,M.a5,by omega,?_⟩⟩;obtain⟨H6,e6,u,F6⟩:=z9 "leaving" (.ref O) (S6 _ _ n);rw[<-e6];have E6:eI x H5 H6:=(ab.exB S6).trans F6;have L6:=L5.exI n E6;have b8:=F6 _ _ U (FO (S6 _ _ n) U);have cl:∀y∈b1,∃A,H6 y.2=some (.lst (A.map V.ref))/\cA H6 A (az ds y.1):=fun y hy=>by
  obtain⟨A,J,g2⟩:=b7 y hy;exact⟨A,F6 _ _ J (eI.neI (S6 _ _ n) J),g2.kt (F6.ktI (S6 _ _ n))⟩
 have c5:(b1.map (·.1)).Nodup:=by rw[T];exact m.okR.1
 have d4:=ic ("leaving":Str) (.ref O) s;have da:lk "leaving" (dR ("leaving":Str) (.ref O) s)=some (.ref O):=by
  show k6 _ _=_;rw[fR,if_pos rfl]
 clear e6 F6 U b7;refine⟨_,rfl,l3,rfl,⟨_,au.of L6.a3⟩,fun f hf=>?_⟩
 let db:Nat->List V->Hp->Prop:=fun i B H'=>B=((I.take i).filter (cY ds)).map V.str/\ab H6 H'/\H' f=some (.lst B)
 refine bD (xs:=I.map V.str) db ⟨rfl,ab.new hf,aa⟩ (fun i B H' _ zq=>by obtain⟨_,S,h'⟩:=zq;exact⟨h',au.of (S _ _ L6.a3)⟩) ?_ ?_;rotate_left
 ·rintro i B H' x' ca hi ⟨rfl,S,f'⟩;obtain⟨r,hr,rfl⟩:=aZ ca;obtain⟨⟨r',a⟩,cm,er⟩:=aA.mp (show r∈b1.map (·.1) by rw[T];exact bW hr);obtain rfl:r'=r:=er;obtain⟨A,dc,dd⟩:=cl _ cm;refine gN ?_;refine⟨_,rfl,x,C,G,_,.ref O,rfl,S _ _ u,M.cls,M.a5,da,_,rfl,O,.ref a,rfl,.inl ⟨_,.inr r',.inl (S _ _ b8),rfl,(eN iI c5 cm).symm⟩,a,A,az ds r',rfl,S _ _ dc,dd.kt (ab.kt S),bz (uA _ _) (by omega),m.sg0,fun b2 l=>⟨_,rfl,?_⟩⟩;have co:(((I.take i).filter (cY ds)).map V.str).length<aj:=by
   rw[ag];refine ao (bz (bo _ _) ?_);rw[aM];omega
  refine kz (fun hq=>?_) (fun hq=>?_)
  ·refine⟨_,rfl,l _ _ f',co,jo hi ⟨?_,?_,aa⟩⟩
   ·rw[bU hr,if_pos (show cY ds r'=true from hq),av];rfl
   ·intro b o q;rw[am (ae q hf)];exact l _ _ (S _ _ q)
  ·refine jo hi ⟨?_,S.trans l,?_⟩
   ·rw[bU hr,if_neg (show ¬cY ds r'=true from hq),cM]
   ·exact l _ _ f'
 rintro B d9 ⟨rfl,S7,f7⟩;rw[ag,bg]at f7;refine q_ (ws:=I.filter (cY ds)) (au.of f7) (bz (bo _ _) (by omega)) fun qu b3=>⟨_,rfl,x,C,G,_,rfl,kp (S7 _ _ u) b3,M.cls,M.a6,by omega,?_⟩;obtain⟨H7,e7,al,F7⟩:=z9 "quiet" (.ref qu) (kp (x:=.dK (bh (I.filter (cY ds)))) (S7 _ _ u) b3);rw[<-e7];have n7:qu≠x:=(ae (S7 _ _ u) b3).symm;have di:=F7 _ _ aa n7;have E7:eI x H6 H7:=((ab.exB S7).trans (eI.new b3)).trans F7;have L7:=L6.exI u E7;have d5:=ic ("quiet":Str) (.ref qu) (dR ("leaving":Str) (.ref O) s);clear e7 F7;refine⟨_,rfl,l4,ts,ds,rfl,L7.a4,L7.ds,by omega,fun sg cc ea G' S8=>⟨_,rfl,x,C,G,_,rfl,S8 _ _ al,M.cls,M.a7,by omega,?_⟩⟩;obtain⟨H8,e8,v,F8⟩:=z9 "sign_goals" (.ref sg) (S8 _ _ al);rw[<-e8];have E8:eI x H7 H8:=(ab.exB S8).trans F8;have L8:=L7.exI al E8;have G8:js H8 sg cc ds:=⟨G'.nd,F8 _ _ G'.g (Ig (S8 _ _ al) G'.g),fun y hy=>F8 _ _ (G'.ls y hy) (eI.neI (S8 _ _ al) (G'.ls y hy)),G'.all⟩;have d7:=ic ("sign_goals":Str) (.ref sg) (dR ("quiet":Str) (.ref qu) (dR ("leaving":Str) (.ref O) s));have dm:lk "sign_goals" (dR ("sign_goals":Str) (.ref sg) (dR ("quiet":Str) (.ref qu) (dR ("leaving":Str) (.ref O) s)))=some (.ref sg):=by
  show k6 _ _=_;rw[fR,if_pos rfl]
 clear e8 F8 G';refine⟨_,rfl,l3,rfl,⟨_,au.of L8.a3⟩,fun b4 cs=>?_⟩
 let dn:Nat->List V->Hp->Prop:=fun i B H'=>Ew fun(A:Ze) (pl:List (Str×Addr))=>JM (B=A.map V.ref) (Paired (fun t (p:Str×Addr)=>H' t=some (.tup [.str p.1,.ref p.2])) A pl) (pl.map (·.1)=I.take i) ((∀p∈pl,∃L,H' p.2=some (.dK (bh L))/\L.Nodup/\∀w,w∈L↔Reach ds p.1 w)) (ab H8 H') (H' b4=some (.lst B))
 refine bD (xs:=I.map V.str) dn
  ⟨[],[],rfl,.nil,rfl,by simp,ab.new cs,aa⟩ (fun i B H' _ zq=>by obtain⟨_,_,_,_,_,_,S,h'⟩:=zq;exact⟨h',au.of (S _ _ L8.a3)⟩) ?_ ?_
 rotate_left
 ·rintro i B H' x' ca hi ⟨A,pl,rfl,an,ct,dp,S,f'⟩;obtain⟨r,hr,rfl⟩:=aZ ca;have dr:A.length<=150:=by
   rw[Paired.length an,<-ag (f:=(·.1)) (as:=pl),ct,aM];omega
  refine gN (nM ?_);refine⟨_,rfl,_,rfl,x,C,G,_,.ref sg,rfl,S _ _ v,M.cls,M.a7,dm,_,rfl,sg,r,cc,ds,I,rfl,G8.same S,fun d hd=>(m.good d hd).b,by omega,fun ld Lr b2 dt nd dv eb l=>⟨(by show 2<=aj;decide),fun t ht=>⟨?_,?_,jo hi ⟨A++[t],pl++[(r,ld)],?_,?_,?_,?_,?_,aa⟩⟩⟩⟩
  ·exact kp (l _ _ f') ht
  ·rw[ag];exact ao (by omega)
  ·rw[av];rfl
  ·have KT:j7 (upd b2 t (.tup [.str r,.ref ld])) (upd (upd b2 t (.tup [.str r,.ref ld])) b4 (.lst (A.map V.ref++[.ref t]))):=cU (kp (l _ _ f') ht);exact Paired.app (Paired.mapP an fun t' p' e=>KT _ _ (kp (l _ _ e) ht)) (.cons (KT _ _ aa) .nil)
  ·rw[av,ct,take_snoc hr];rfl
  ·have c0:∀{b:Addr}{dy:List (fu×V)},upd b2 t (.tup [.str r,.ref ld]) b=some (.dK dy)->b≠b4:=fun hb z=>by rw[z,kp (l _ _ f') ht]at hb;cases hb
   intro p hp;rcases bx.mp hp with hp|hp
   ·obtain⟨L0,J,g2⟩:=dp p hp;refine⟨L0,?_,g2⟩;have:=kp (x:=.tup [.str r,.ref ld]) (l _ _ J) ht;rw[am (c0 this)];exact this
   ·have:p=(r,ld):=by simpa using hp
    subst this;refine⟨Lr,?_,nd,dv⟩;have:=kp (x:=.tup [.str r,.ref ld]) dt ht;rw[am (c0 this)];exact this
  ·intro b o q;rw[am (ae q cs)];exact kp (l _ _ (S _ _ q)) ht
 rintro B ec ⟨A,sps,rfl,an,D,c1,S9,f9⟩;rw[ag,bg]at D;have dI:(sps.map (·.1)).Nodup:=by rw[D];exact m.okR.1
 refine⟨b4,A,eo Sum.inr sps,rfl,au.of f9,?_,?_,fun sl N=>⟨_,rfl,x,C,G,_,rfl,kp (S9 _ _ v) N,M.cls,M.a8,by omega,?_⟩⟩
 ·rw[Paired.length an];unfold eo;rw[ag]
 ·intro j t kv hj cd;obtain⟨p,hp,e⟩:=Paired.getL an hj;unfold eo at cd;rw[du,hp]at cd;have:=fj cd;rw[<-this];exact e
 have b5:jE [] (eo Sum.inr sps)=eo Sum.inr sps:=ux sps [] dI;rw[b5];obtain⟨H9,e9,ce,F9⟩:=z9 "still_led" (.ref sl) (kp (x:=.dK (eo Sum.inr sps)) (S9 _ _ v) N);rw[<-e9];have n9:sl≠x:=(ae (S9 _ _ v) N).symm;have c2:=F9 _ _ aa n9;have E9:eI x H8 H9:=((ab.exB S9).trans (eI.new N)).trans F9;have L9:=L8.exI v E9;have ap:∀p∈sps,∃L,H9 p.2=some (.dK (bh L))/\L.Nodup/\∀w,w∈L↔Reach ds p.1 w:=fun p hp=>by
  obtain⟨L0,J,g2⟩:=c1 p hp;have g3:=kp (x:=.dK (eo Sum.inr sps)) J N;exact⟨L0,F9 _ _ g3 (FO (kp (S9 _ _ v) N) g3),g2⟩
 clear e9 F9;have c3:lk "still_led" (dR ("still_led":Str) (.ref sl) (dR ("sign_goals":Str) (.ref sg) (dR ("quiet":Str) (.ref qu) (dR ("leaving":Str) (.ref O) s))))=some (.ref sl):=by
  show k6 _ _=_;rw[fR,if_pos rfl]
 refine⟨_,rfl,_,rfl,x,C,G,_,.ref sl,rfl,ce,M.cls,M.a8,c3,l3,sl,I,sps,rfl,L9.a3,c2,D,m.okR.1,fun p hp=>?_,fun c4 aC=>⟨_,rfl,k c4 ?_ ?_⟩⟩
 ·obtain⟨L0,J,g2,g3⟩:=ap p hp;exact⟨L0,J,fun z=>m.noround _ ((g3 _).mp z)⟩
 ·have ch:eI x H6 H9:=(E7.trans E8).trans E9;have dT:=((E6.trans E7).trans E8).trans E9;have Y:∀{b:Addr}{o:HO},H9 b=some o->c4 b=some o:=fun h=>aC _ _ h;have LL:Lists H5 o1 o2 o3 o4 ts J0 J2 I ds:=⟨(E3.trans (E4.trans E5)) _ _ f1 n1,(E4.trans E5) _ _ f2 n2,E5 _ _ f3 n3,f4,L5.ds⟩;refine⟨⟨G,_,o1,o2,o3,o4,O,qu,sg,sl,ts,b1,cc,sps,Y ce,?_,?_,?_,?_,?_,?_,?_,?_,?_,?_,?_,c3,(LL.exI n dT).same aC,T,?_,?_,?_,?_,D,Y c2,fun p hp=>?_⟩,m,⟨G,_,Y ce,?_,?_,?_,?_⟩⟩
  rotate_right 9
  ·exact Y (ch _ _ b8 (FO u b8))
  ·intro y hy;obtain⟨dV,J,g2⟩:=cl y hy;exact⟨dV,Y (ch _ _ J (eI.neI u J)),(g2.kt (ch.ktI u)).kt (ab.kt aC)⟩
  ·exact Y ((E8.trans E9) _ _ di n7)
  ·exact js.same ⟨G8.nd,E9 _ _ G8.g (Ig v G8.g),fun y hy=>E9 _ _ (G8.ls y hy) (eI.neI v (G8.ls y hy)),G8.all⟩ aC
  ·obtain⟨L0,J,g2⟩:=ap p hp;exact⟨L0,Y J,g2⟩
  all_goals(show k6 _ _=_;subst b6;repeat (rw[fR];first|rw[if_pos rfl] | rw[if_neg (by decide +kernel)]))
  all_goals rfl
 ·exact((((((((E1.trans E2).trans E3).trans E4).trans E5).trans E6).trans E7).trans E8).trans E9).trans (ab.exB aC)
theorem Cz(a b:Str):decide (cB a=cB b)=decide (a=b):=by
 by_cases e:a=b
 ·rw[zzr1 e,zzr1 (by rw[e])]
 ·rw[zzr0 e,zzr0 (fun z=>e (pk z))]
theorem aX.by{C:Addr}{H e:Hp}{x:Addr}{s t u:Zb}{v:List ak}(h:aX C H x s t u v)
  (j:∀b z,H b=some (.lst (List.map V.str z))->e b=some (.lst (List.map V.str z))) (A:∀b k,H b=some (.lst (List.map V.ref k))->e b=some (.lst (List.map V.ref k))) (B:j7 H e)
  (l:∀b a,H b=some (.dK a)->e b=some (.dK a)) (D:∀b a,H b=some (.dT a)->e b=some (.dT a)) (hi:∀b C f fs,H b=some (.ins C f fs)->e b=some (.ins C f fs)):aX C e x s t u v:=by
 obtain⟨f,fs,E,I,J,M,N,O,Q,T,k,m,n,o,U,a1,a2,a3,Y,b1,b2,b3,b4,b5,b6,b7,b8,L,c1,c2,c3,c4,G,d1,d2,d3⟩:=h.at_;refine⟨⟨f,fs,E,I,J,M,N,O,Q,T,k,m,n,o,hi _ _ _ _ U,a1,a2,a3,Y,b1,b2,b3,b4,b5,b6,b7,b8,⟨j _ _ L.a1,j _ _ L.a2,j _ _ L.a3,A _ _ L.a4,L.ds.kt B⟩,c1,l _ _ c2,fun y i=>?_,l _ _ c4,⟨G.nd,D _ _ G.g,fun y i=>j _ _ (G.ls y i),G.all⟩,d1,l _ _ d2,fun y i=>?_⟩,h.ok,by obtain⟨f,fs,g,r⟩:=h.more;exact⟨f,fs,hi _ _ _ _ g,r⟩⟩
 ·obtain⟨us,p,q⟩:=c3 y i;exact⟨us,A _ _ p,q.kt B⟩
 ·obtain⟨L0,p,q⟩:=d3 y i;exact⟨L0,l _ _ p,q⟩
theorem aX.same{C:Addr}{H a:Hp}{x:Addr}{f g i:Zb}{j:List ak}(h:aX C H x f g i j)(S:ab H a):aX C a x f g i j :=
 h.by (fun _ _ e=>S _ _ e) (fun _ _ e=>S _ _ e) (ab.kt S) (fun _ _ e=>S _ _ e) (fun _ _ e=>S _ _ e) (fun _ _ _ _ e=>S _ _ e)
theorem aX.ex{C:Addr}{H f:Hp}{x p c:Addr}{g i j:Zb}{k:List ak}(h:aX C H x g i j k)(a:ii H p c)(S:eI p H f):aX C f x g i j k:=by
 obtain⟨l,hx⟩:=a.lst;exact h.by (fun _ _ e=>S _ _ e (a.ne_strs e)) (fun _ _ e=>S _ _ e (a.ne_refs e)) (S.kt hx) (fun _ _ e=>S _ _ e (fun z=>by rw[z,hx]at e;cases e)) (fun _ _ e=>S _ _ e (fun z=>by rw[z,hx]at e;cases e)) (fun _ _ _ _ e=>S _ _ e (fun z=>by rw[z,hx]at e;cases e))
inductive fO(C:Addr)(vs:List V)(H:Hp)(Q:VK)(E:XK):Prop
 |mk (x:Addr) (w:Str) (J0 J2 J3:Zb) (ds:List ak):(vs=[.ref x,.str w])->(aX C H x J0 J2 J3 ds)->(Q (.bl (decide (w∈J3.filter (cY ds)))) H)->fO C vs H Q E
theorem zA{K:Za}{C:Addr}(M:MC K C){a:List V}{H:Hp}{Q:VK}{E:XK}(h:fO C a H Q E):nR K (bS Q) (start oz a) H:=by
 obtain⟨x,w,o,p,q,r,rfl,h,k⟩:=h;obtain⟨f,fs,s,t,u,v,y,e,z,A,B,g,i,j,l,a1,a2,a3,D,G,I,J,N,O,m,T,U,L,Y,c2,c3,n,_⟩:=h.at_;refine⟨_,rfl,_,rfl,x,C,f,fs,.ref e,rfl,l,M.cls,M.a6,m,e,_,rfl,.inl ⟨_,.inr w,.inl n,rfl,rfl⟩,?_⟩;rw[eU];exact k
def ba:List Str:=[("hush":Str)]
inductive kh(C:Addr)(vs:List V)(H:Hp)(Q:VK)(E:XK):Prop
 |mk (t l1 l2 l3 l4:Addr) (ts:Ze) (J0 J2 J3:Zb) (ds:List ak):(vs=[.ref t])->(iw H t l1 l2 l3 l4 ts J0 J2 J3 ds)->(aq J0 J2 J3 ds)->(∀(x:Addr) (H':Hp),aX C H' x J0 J2 J3 ds->ab H H'->Q (.ref x) H')->kh C vs H Q E
theorem AW{K:Za}{C:Addr}{G:List V}{H:Hp}{Q:VK}{E:XK}(h:kh C G H Q E):va K C (pb C) (bS Q) (start vC G) H:=by
 obtain⟨t,N,O,U,Y,f,g,i,j,ds,rfl,T,m,k⟩:=h;refine⟨_,rfl,.inr (.inl ⟨t,_,0,_,rfl,rfl,br.of T.t,rfl,.inl ⟨N,_,rfl,.inl (au.of T.a1),fun s I=>?_⟩⟩)⟩;have u:=T.same (ab.new (o:=.lst (g.map V.str)) I);refine⟨_,rfl,.inr (.inl ⟨t,_,1,_,rfl,rfl,br.of u.t,rfl,.inl ⟨O,_,rfl,.inl (au.of u.a2),fun v y=>?_⟩⟩)⟩;have z:=u.same (ab.new (o:=.lst (i.map V.str)) y);refine⟨_,rfl,.inr (.inl ⟨t,_,2,_,rfl,rfl,br.of z.t,rfl,.inl ⟨U,_,rfl,.inl (au.of z.a3),fun A p=>?_⟩⟩)⟩;have B:=z.same (ab.new (o:=.lst (j.map V.str)) p);refine⟨_,rfl,.inr (.inl ⟨t,_,3,_,rfl,rfl,br.of B.t,rfl,.inl ⟨Y,_,rfl,.inl (au.of B.a4),fun D l=>?_⟩⟩)⟩;have T4:=B.same (ab.new (o:=.lst (f.map V.ref)) l);have J:=(((ab.new (o:=.lst (g.map V.str)) I).trans (ab.new (o:=.lst (i.map V.str)) y)).trans (ab.new (o:=.lst (j.map V.str)) p)).trans (ab.new (o:=.lst (f.map V.ref)) l);refine fun x r hx a n=>?_;have L:ab H (upd (upd (upd (upd (upd (upd H s (.lst (g.map V.str))) v (.lst (i.map V.str))) A (.lst (j.map V.str))) D (.lst (f.map V.ref))) r (.own x)) x (.ins C r [])) :=
  (J.trans (ab.new a)).trans (ab.new (by rw[am n.symm];exact hx))
 have e:upd (upd (upd (upd (upd H s (.lst (g.map V.str))) v (.lst (i.map V.str))) A (.lst (j.map V.str))) D (.lst (f.map V.ref))) r (.own x) x=none:=by rw[am n.symm];exact hx
 refine⟨x,r,s,v,A,D,f,g,i,j,ds,rfl,aa,⟨?_,?_,?_,?_,T.ds.kt (ab.kt L)⟩,m,fun H' M ex=>⟨rfl,k x H' M fun b o q=>?_⟩⟩
 ·exact kp (kp (kp (kp (kp aa y) p) l) a) e
 ·exact kp (kp (kp (kp aa p) l) a) e
 ·exact kp (kp (kp aa l) a) e
 ·exact kp (kp aa a) e
 ·have hq:=L _ _ q;exact ex _ _ hq (ae (J.trans (ab.new a) _ _ q) e)
def ef(ds:List ak):List Str:=(ds.filter fun d=>!dP d).map (·.a)
theorem uj(e:List ak)(r:Str):cY e r=decide (r∉ef e):=by
 unfold cY ef az;rw[k7,qr,decide_eq_true_iff];constructor
 ·intro h z;obtain⟨d,a,rfl⟩:=aA.mp z;rw[bJ]at a;have:=h d (bJ.mpr ⟨a.1,zzr1 rfl⟩);rw[this]at a;exact absurd a.2 (by decide)
 ·intro h d a;rw[bJ]at a;cases q:dP d with
  |true=>rfl
  |false =>
   refine absurd (aA.mpr ⟨d,bJ.mpr ⟨a.1,by rw[q];rfl⟩,?_⟩) h;exact of_decide_eq_true a.2
theorem sX{w:Str}{a:Zb}:cB w∈a.map cB↔w∈a:=by
 constructor
 ·intro h;obtain⟨x,hx,e⟩:=aA.mp h;rw[<-pk e];exact hx
 ·exact e_
def xj(K:Za)(C_Machine:Addr)(sp_Machine_rooms:Sp)(sp_Machine_led_from:Sp):TS :=
 aw (bf (uf) U2)
 (aw (d6 (bG K V1) U3 (df (tB (o0 K V3 V2)) (aw (pq V2 V3 (tC (.bl true)))
 (d6 (bG K (bR C_Machine "led_from" sp_Machine_led_from [] E0 V0 (aB V3))) U4 (pq V2 V4 (tC (.bl true))))) (bQ)))
 (bt (eE (Cc K) (aB (cv 1 [2] (bG K (bR C_Machine "rooms" sp_Machine_rooms [] E0 V0 aY)) U0 (tB (zk K V0 V1)) V0)))))
def yy:List Str:=["M","rooms","found","room","led"]
def r8(K:Za):TS :=
 bt (eE (dF K) (aB (si K V0 "own_rooms")))
def sH:List Str:=["self"]
def nQ(K:Za):TS :=
 bt (eE (dF K) (aB (ug K (si K V0 "still_led") V1 (bX (aY)))))
def oy:List Str:=["self","room"]
def r9(K:Za):TS :=
 bt (eE (dF K) (aB (ug K (si K V0 "sign_goals") (bX (aJ V1 V2)) (bX (aY)))))
def sI:List Str:=["self","room","sign"]
def t4(K:Za):TS :=
 aw (bf (eE (dF K) (aB V1)) U2)
 (aw (bf (tC (.int 0)) U3)
 (aw (AM (bj (aK Hi V3 (eE (fV K) (aB V2)))) (aw (d6 (bG K V0) (i7 K 3 (bA U4 (bA U5 (bA U6 (ir))))) (df (su (bj (aK (jQ K) V4 (aK (ij K) V2 V3))) (su (bj (aK (jQ K) V5 (bX (aB (tC (.str "still")))))) (bj (aK (jB K true) V6 V2)))) (c_ (vm K "list" d_ V2 (aB V6))) (bQ)))
 (bf (aK fk V3 (tC (.int 1))) U3)))
 (bt V2)))
def uX:List Str:=["doors","rooms","found","at","room","sign","other"]
inductive f_(C:Addr)(vs:List V)(H:Hp)(Q:VK)(E:XK):Prop
 |mk (x:Addr) (J0 J2 J3:Zb) (ds:List ak):(vs=[.ref x])->(aX C H x J0 J2 J3 ds)->(∀l,H l=none->Q (.ref l) (upd H l (.lst (J3.map V.str))))->f_ C vs H Q E
theorem Fg{K:Za}{C:Addr}(M:MC K C){a:List V}{H:Hp}{Q:VK}{E:XK}(h:f_ C a H Q E):r8 K (bS Q) (start sH a) H:=by
 obtain⟨x,n,o,p,q,rfl,h,k⟩:=h;obtain⟨f,fs,r,s,e,t,u,v,y,z,A,g,i,j,l,a1,a2,a3,B,D,G,m,I,J,N,O,T,L,_⟩:=h.at_;exact⟨_,rfl,x,C,f,fs,.ref e,rfl,l,M.cls,M.a3,m,.inl ⟨e,_,rfl,.inl (au.of L.a3),k⟩⟩
theorem zX:∀{L:Zb},L.Nodup->(bh L).map (fun a=>kV a.1)=L.map V.str:=by
 intro L;refine jN (fun L=>L.Nodup->(bh L).map (fun a=>kV a.1)=L.map V.str) (fun _=>rfl) (fun f w g e=>?_) L;rw[dq]at e;have h:de (bh f) (.inr w)=none:=by
  rw[uB,if_neg (fun z=>e.2.2 w z w (by simp) rfl)]
 show(bh (f++[w])).map _=_;rw[dW,pE _ h,av,g e.1,av]
 rfl
inductive h_(C:Addr)(vs:List V)(H:Hp)(Q:VK)(E:XK):Prop
 |mk (x:Addr) (r:Str) (J0 J2 J3:Zb) (ds:List ak):(vs=[.ref x,.str r])->(aX C H x J0 J2 J3 ds)->(r∈J3)->(∀(l:Addr) (L:Zb) (H':Hp),H' l=some (.lst (L.map V.str))->L.Nodup->(∀w,w∈L↔Reach ds r w)->H l=none->ab H H'->Q (.ref l) H')->h_ C vs H Q E
theorem zv{K:Za}{C:Addr}(M:MC K C){j:List V}{H:Hp}{Q:VK}{E:XK}(h:h_ C j H Q E):nQ K (bS Q) (start oy j) H:=by
 obtain⟨x,r,O,T,U,Y,rfl,h,t,k⟩:=h;obtain⟨u,fs,o1,o2,o3,o4,lv,qu,sg,m,ts,v,y,g,z,a1,a2,a3,a4,b1,b2,b3,b4,b5,b6,b7,A,L,c1,c2,c3,c4,G,n,o,B⟩:=h.at_;have i:=h.ok.okR.1;obtain⟨⟨p,a⟩,f,D⟩:=aA.mp (show r∈g.map (·.1) by rw[n];exact t);obtain rfl:p=r:=D;obtain⟨I,J,q,N⟩:=B _ f;refine⟨_,rfl,x,C,u,fs,.ref m,rfl,z,M.cls,M.a8,A,m,rfl,.inl ⟨_,.inl o⟩,_,rfl,(by show 0<=aj;decide),fun et e=>⟨_,.inl ⟨_,.inr p,.inl (kp o e),rfl,rfl⟩,?_⟩⟩;rw[eN iI (by rw[n];exact i) f];refine .inr ⟨a,_,rfl,.inl (kp J e),fun l s=>k l I _ ?_ q N ((ab.new e).free s) ((ab.new e).trans (ab.new s))⟩;rw[aa,zX q]
inductive fM(C:Addr)(vs:List V)(H:Hp)(Q:VK)(E:XK):Prop
 |mk (x s:Addr) (r:Str) (sg J0 J2 J3:Zb) (ds:List ak):(vs=[.ref x,.str r,.ref s])->(aX C H x J0 J2 J3 ds)->(H s=some (.tup (sg.map V.str)))->(∀(l:Addr) (H':Hp),H' l=some (.lst ((a_ ds (r,sg)).map V.str))->H l=none->ab H H'->Q (.ref l) H')->fM C vs H Q E
theorem Dn{K:Za}{C:Addr}(M:MC K C){t:List V}{H:Hp}{Q:VK}{E:XK}(h:fM C t H Q E):r9 K (bS Q) (start sI t) H:=by
 obtain⟨x,s,r,e,J0,J2,J3,A,rfl,h,B,k⟩:=h;obtain⟨D,fs,o1,o2,o3,o4,lv,qu,u,sl,ts,I,m,J,N,a1,a2,a3,a4,b1,b2,b3,b4,b5,b6,O,b8,L,c1,c2,c3,c4,G,d1,d2,d3⟩:=h.at_;have T:=h.ok.okR.1;refine⟨_,rfl,x,C,D,fs,.ref u,rfl,N,M.cls,M.a7,O,u,rfl,.inr ⟨_,.inl G.g⟩,_,rfl,_,rfl,(by show 2<=aj;decide),fun kt j=>⟨(by show 0<=aj;decide),fun v i=>⟨de (eo u7 m) (u7 (r,e)),.inr ⟨_,u7 (r,e),kt,.inl (kp (kp G.g j) i),rfl,?_,mv _,rfl⟩,?_⟩⟩⟩
 ·refine gQ.isIn 8 (mv _) ?_;unfold u7 gQ;refine⟨kt,_,rfl,kp aa i,?_⟩;unfold TKAts;refine⟨_,_,rfl,xh _,?_⟩;unfold TKAts;refine⟨_,_,rfl,SignAt.tk (kp (kp B j) i),?_⟩;unfold TKAts
  rfl
 have n:ab H (upd (upd H kt (.tup [.str r,.ref s])) v (.tup [])):=(ab.new j).trans (ab.new i);by_cases f:(r,e)∈m.map (·.1)
 ·obtain⟨⟨y,a⟩,o,U⟩:=aA.mp f;obtain rfl:y=(r,e):=U;rw[eN iE G.nd o];exact .inl ⟨a,_,rfl,.inl (au.of (n _ _ (G.ls _ o))),fun l p=>k l _ aa (n.free p) (n.trans (ab.new p))⟩
 ·rw[mB iE f];have q:a_ A (r,e)=[]:=lZ fun y Y z=>f (by rw[<-z];exact G.all y Y);refine .inl ⟨v,[],rfl,.inr (br.of aa),fun l p=>k l _ ?_ (n.free p) (n.trans (ab.new p))⟩;rw[q];exact aa
theorem Reach.trans{ds:List ak}{a b c:Str}(e:Reach ds a b)(f:Reach ds b c):Reach ds a c:=by
 induction f with
 |one h=>exact .step e h
 |step r h g=>exact .step g h
def gS(ds:List ak)(gs:Zb)(w:Str):Prop:=∃g∈gs,w=g∨Reach ds g w
theorem gS.in_{e:List ak}{f a:Zb}{w:Str}(i:∀g∈f,g∈a)(j:∀d∈e,d.b∈a)(h:gS e f w):w∈a:=by
 obtain⟨g,k,rfl|h2⟩:=h
 ·exact i _ k
 ·exact h2.in_ j
def sD(F:Zb)(w:Str):List Str:=if w∈F then F else F++[w]
theorem zW(F:Zb):∀e∈bh F,e.2=.bl true:=by
 refine jN (fun F=>∀e∈bh F,e.2=.bl true) (by intro e h;cases h) (fun g w f=>?_) F;intro e a;rw[dW]at a;unfold eT at a;split at a
 ·obtain⟨x,hx,rfl⟩:=aA.mp a;split
  ·rfl
  ·exact f x hx
 ·rcases bx.mp a with h|h
  ·exact f e h
  ·have:e=(.inr w,.bl true):=by simpa using h
   rw[this]
theorem uC(F:Zb)(w:Str):eT (bh F) (.inr w) (.bl true)=bh (sD F w):=by
 unfold sD;by_cases c:w∈F
 ·rw[if_pos c];have f:((bh F).any fun a=>decide (a.1=(.inr w:fu)))=true:=by
   rw[jM,eU,zzr1 c]
  unfold eT;rw[if_pos f];have:∀l:List (fu×V),(∀a∈l,a.2=.bl true)->l.map (fun a=>if a.1=(.inr w:fu)then(a.1,V.bl true)else a)=l:=by
   intro l
   induction l with
   |nil=>intro _;rfl
   |cons x l g =>
    intro h;rw[cg,g fun a e=>h a (fX _ e)];congr 1;split
    ·rw[<-h x dS]
    ·rfl
  exact this _ (zW F)
 ·rw[if_neg c,dW]
theorem uV{F:Zb}(h:F.Nodup)(w:Str):(sD F w).Nodup:=by
 unfold sD;split
 ·exact h
 ·next c =>
  rw[dq];refine⟨h,by simp,fun a f b g e=>?_⟩;have:b=w:=by simpa using g
  exact c (by rw[<-this,<-e];exact f)
theorem zU{F:Zb}{w y:Str}:y∈sD F w↔y∈F∨y=w:=by
 unfold sD;split
 ·next c=>exact⟨.inl,fun h=>h.elim id fun e=>by rw[e];exact c⟩
 ·rw[bx];simp
inductive sp_with_still(C:Addr)(vs:List V)(H:Hp)(Q:VK)(E:XK):Prop
 |mk (x l:Addr) (gs J0 J2 J3:Zb) (ds:List ak):(vs=[.ref x,.ref l])->(aX C H x J0 J2 J3 ds)->(H l=some (.lst (gs.map V.str)))->((∀g∈gs,g∈J3))->(∀(t:Addr) (F:Zb) (H':Hp),H' t=some (.tup ((J3.filter fun r=>decide (r∈F)).map V.str))->(∀w,w∈F↔gS ds gs w)->ab H H'->Q (.ref t) H')->sp_with_still C vs H Q E
theorem vo{K:Za}{C:Addr}{D:List V}{H:Hp}{Q:VK}{E:XK}(h:sp_with_still C D H Q E):xj K C (f_ C) (h_ C) (bS Q) (start yy D) H:=by
 obtain⟨x,l,gs,J0,J2,a,G,rfl,M,hl,hg,k⟩:=h;have T:∀d∈G,d.b∈a:=fun d hd=>(M.ok.good d hd).b;have z3:=M.ok.rooms26;refine fun d hd=>?_;refine⟨_,rfl,l,rfl,⟨_,au.of (kp hl hd)⟩,?_⟩
 let a6:Nat->L2.St->Hp->Prop:=fun i σ m=>HR fun(F:Zb) (x3 x4:Option V)=>GA (σ=[some (.ref x),some (.ref l),some (.ref d),x3,x4]) (m d=some (.dK (bh F))) (ab H m) (F.Nodup) (∀w,w∈F↔gS G (gs.take i) w)
 refine bO (xs:=gs.map V.str) a6
  ⟨[],_,_,rfl,aa,ab.new hd,tP,fun w=>⟨fun h=>(by cases h),fun⟨g,h,_⟩=>(by cases h)⟩⟩ (fun i σ m _ zq=>by obtain⟨_,_,_,_,_,S,_,_⟩:=zq;exact au.of (S _ _ hl)) ?_ ?_
 ·rintro i y σ I hi ⟨F,x3,x4,rfl,s,S1,nd,U⟩;obtain⟨r,hr,rfl⟩:=aZ hi;have as:r∈a:=hg r (bW hr);have aC:∀w∈F,w∈a:=fun w hw=>((U w).mp hw).in_ (fun g hg'=>hg g (j8 hg')) T;refine⟨_,rfl,_,rfl,d,_,rfl,.inl ⟨_,.inr r,.inl s,rfl,rfl⟩,_,rfl,?_⟩;rw[eU];have u:∀w,gS G (gs.take (i+1)) w↔(gS G (gs.take i) w∨w=r∨Reach G r w):=by
   intro w;rw[take_snoc hr];constructor
   ·rintro⟨g,hg',h⟩;rcases bx.mp hg' with hg'|hg'
    ·exact .inl ⟨g,hg',h⟩
    ·have:g=r:=by simpa using hg'
     subst this;exact .inr h
   ·rintro(⟨g,hg',h⟩|h)
    ·exact⟨g,bV _ hg',h⟩
    ·exact⟨r,cx _ (by simp),h⟩
  by_cases c:r∈F
  ·rw[zzr1 c];refine bv ⟨F,_,_,rfl,s,S1,nd,fun w=>?_⟩;rw[u,U];refine⟨.inl,fun h=>h.elim id fun h=>?_⟩;obtain⟨g,hg',hgr⟩:=(U r).mp c;rcases h with h|h
   ·rw[h];exact⟨g,hg',hgr⟩
   ·refine⟨g,hg',.inr ?_⟩;rcases hgr with e|hgr
    ·rw[<-e];exact h
    ·exact hgr.trans h
  ·rw[zzr0 c];refine cr ?_;have n:∀{F:Zb},F.Nodup->(∀w∈F,w∈a)->(bh F).length<aj:=fun nd hs=>ao (bz (kr _) (bz (lV nd hs) (by omega)));refine⟨_,rfl,_,rfl,d,_,rfl,.inl ⟨_,.inr r,s,rfl,n nd aC,rfl⟩,?_⟩;rw[uC];have Y:ab H (upd I d (.dK (bh (sD F r)))):=fun b o q=>by rw[am (ae q hd)];exact S1 _ _ q
   have p:upd I d (.dK (bh (sD F r))) d=some (.dK (bh (sD F r))):=aa;generalize upd I d (.dK (bh (sD F r)))=H2 at Y p ⊢;have M2:=M.same Y;obtain⟨dx,fs,o1,o2,o3,o4,lv,qu,sg,sl,ts,a7,a8,a9,g1,a1,a2,a3,a4,_⟩:=M2.at_;refine⟨_,rfl,x,dx,fs,rfl,g1,a3,_,rfl,x,r,J0,J2,a,G,rfl,M2,as,fun ll L H3 a0 b1 hL al S3=>⟨ll,rfl,⟨_,au.of a0⟩,?_⟩⟩;have bb:=S3 _ _ p;have b2:H ll=none:=Y.free al;have bi:ll≠d:=fun z=>by rw[z,p]at al;cases al
   let bl:Nat->L2.St->Hp->Prop:=fun j σ m=>Ew fun(J:Zb) (x4:Option V)=>JM (σ=[some (.ref x),some (.ref l),some (.ref d),some (.str r),x4]) (m d=some (.dK (bh J))) (m ll=some (.lst (L.map V.str))) (ab H m) (J.Nodup) (∀w,w∈J↔(gS G (gs.take i) w∨w=r∨w∈L.take j))
   refine bO (xs:=L.map V.str) bl
    ⟨sD F r,_,rfl,bb,a0,Y.trans S3,uV nd r,fun w=>?_⟩ (fun j σ m _ zq=>by obtain⟨_,_,_,_,h,_,_,_⟩:=zq;exact au.of h) ?_ ?_
   ·rw[zU,U];simp
   ·rintro j y σ H4 hj ⟨J,bn,rfl,an,N,S4,B,A⟩;obtain⟨v,hv,rfl⟩:=aZ hj;have ap:∀w∈J,w∈a:=by
     intro w hw;rcases(A w).mp hw with h|h|h
     ·exact h.in_ (fun g hg'=>hg g (j8 hg')) T
     ·rw[h];exact as
     ·exact((hL w).mp (j8 h)).in_ T
    refine⟨_,rfl,_,rfl,d,_,rfl,.inl ⟨_,.inr v,an,rfl,n B ap,rfl⟩,sD J v,_,rfl,?_,?_,?_,uV B v,fun w=>?_⟩
    ·rw[aa,uC]
    ·rw[am bi];exact N
    ·intro b o q;rw[am (ae q hd)];exact S4 _ _ q
    ·rw[zU,A,take_snoc hv,bx];simp only[cX];constructor
     ·rintro((h|h|h)|h)
      ·exact .inl h
      ·exact .inr (.inl h)
      ·exact .inr (.inr (.inl h))
      ·exact .inr (.inr (.inr h))
     ·rintro(h|h|h|h)
      ·exact .inl (.inl h)
      ·exact .inl (.inr (.inl h))
      ·exact .inl (.inr (.inr h))
      ·exact .inr h
   ·rintro σ H4 ⟨J,bn,rfl,an,N,S4,B,A⟩;rw[ag,bg]at A;refine⟨J,_,_,rfl,an,S4,B,fun w=>?_⟩;rw[u,A,hL]
 ·rintro σ I ⟨F,x3,x4,rfl,s,S1,nd,U⟩;rw[ag,bg]at U;have M1:=M.same S1;obtain⟨dx,fs,o1,o2,o3,o4,lv,qu,sg,sl,ts,a7,a8,a9,g1,a1,a2,a3,a4,_⟩:=M1.at_;refine⟨_,rfl,x,dx,fs,rfl,g1,a4,x,J0,J2,a,G,rfl,M1,fun rl a5=>⟨rl,rfl,⟨_,au.of aa⟩,fun f hf=>?_⟩⟩;have Y:ab H (upd I rl (.lst (a.map V.str))):=S1.trans (ab.new a5);have p:upd I rl (.lst (a.map V.str)) d=some (.dK (bh F)):=kp s a5;have O:upd I rl (.lst (a.map V.str)) rl=some (.lst (a.map V.str)):=aa;generalize upd I rl (.lst (a.map V.str))=H2 at Y p O hf ⊢
  let bp:Nat->List V->Hp->Prop:=fun i D m=>D=((a.take i).filter fun r=>decide (r∈F)).map V.str/\ab H2 m/\m f=some (.lst D)
  refine bD (xs:=a.map V.str) bp ⟨rfl,ab.new hf,aa⟩ (fun i D m _ zq=>by obtain⟨_,S,h'⟩:=zq;exact⟨h',au.of (S _ _ O)⟩) ?_ ?_
  ·rintro D m ⟨rfl,S,f'⟩;rw[ag,bg]at f';exact⟨f,_,rfl,.inl ⟨au.of f',fun t ht=>k t F _ aa U (Y.trans (S.trans (ab.new ht)))⟩⟩
  ·rintro i D m x' b0 hi ⟨rfl,S,f'⟩;obtain⟨r,hr,rfl⟩:=aZ b0;refine gN ?_;refine⟨_,rfl,_,rfl,d,_,rfl,.inl ⟨_,.inr r,.inl (S _ _ p),rfl,rfl⟩,_,rfl,?_⟩;rw[eU];have n:(((a.take i).filter fun r=>decide (r∈F)).map V.str).length<aj:=by
    rw[ag];refine ao (bz (bo _ _) ?_);rw[aM];omega
   refine kz (fun hq=>?_) (fun hq=>?_)
   ·refine⟨_,rfl,f',n,jo hi ⟨?_,?_,aa⟩⟩
    ·rw[bU hr,if_pos hq,av];rfl
    ·intro b o q;rw[am (ae q hf)];exact S _ _ q
   ·refine jo hi ⟨?_,S,f'⟩;rw[bU hr,if_neg hq,cM]
inductive h9(K:Za)(vs:List V)(H:Hp)(Q:VK)(E:XK):Prop
 |mk (l4 l:Addr) (ts:Ze) (ds:List ak) (gs J3:Zb):(vs=[.ref l4,.ref l])->(H l4=some (.lst (ts.map V.ref)))->(cA H ts ds)->(H l=some (.lst (gs.map V.str)))->((∀d∈ds,d.b∈J3))->(J3.length<=1000)->(gs.length<=1000)->(∀(f:Addr) (F:Zb) (H':Hp),H' f=some (.lst (F.map V.str))->(∀w,w∈F↔gS ds gs w)->F.length<=2000->H f=none->ab H H'->Q (.ref f) H')->h9 K vs H Q E
structure SO(H0 H:Hp)(ds:List ak)(gs:Zb)(f:Addr)(X:Zb):Prop where
 f:H f=some (.lst ((gs++X).map V.str))
 same:ab H0 H
 nd:X.Nodup
 new:∀y∈X,y∉gs
 sound:∀y∈X,gS ds gs y
theorem gS.step{ds:List ak}{f:Zb}{a b:Str}(h:gS ds f a)(e:(⟨a,ay,b⟩:ak)∈ds):gS ds f b:=by
 obtain⟨g,i,rfl|h⟩:=h
 ·exact⟨_,i,.inr (.one e)⟩
 ·exact⟨g,i,.inr (.step h e)⟩
theorem hE(a b:Zb):decide (jF a=jF b)=decide (a=b):=by
 by_cases e:a=b
 ·rw[zzr1 e,zzr1 (by rw[e])]
 ·rw[zzr0 e,zzr0 (fun z=>e (Cv z))]
inductive SoI(l4 l f:Addr)(at_:Int)(H:Hp)(ds:List ak)(gs X:Zb)(here:Str)(j:Nat)(σ:L2.St)(H':Hp):Prop
 |mk (X' Y:Zb) (x y z:Option V):σ=[some (.ref l4),some (.ref l),some (.ref f),some (.int at_),x,y,z]->X'=X++Y->SO H H' ds gs f X'->(∀d∈ds.take j,d.a=here->d.sg=ay->d.b∈gs++X')->SoI l4 l f at_ H ds gs X here j σ H'
theorem zo{K:Za}{vs:List V}{H:Hp}{Q:VK}{E:XK}(h:h9 K vs H Q E):t4 K (bS Q) (start uX vs) H:=by
 obtain⟨l4,l,ts,ds,u,J3,rfl,h4,ap,hl,a8,hz,b3,k⟩:=h;refine⟨_,rfl,.inl ⟨l,_,rfl,.inl (au.of hl),fun f hf=>?_⟩⟩;have M:∀{X:Zb},X.Nodup->(∀y∈X,y∉u)->(∀y∈X,gS ds u y)->X.length<=J3.length:=fun nd nw sd=>lV nd fun y hy=>by
  obtain⟨g,hg,e|h⟩:=sd y hy
  ·exact absurd (by rw[e];exact hg) (nw y hy)
  ·exact h.in_ a8
 refine⟨fun m σ H'=>∃(X:Zb) (p:Nat) (x y z:Option V),σ=[some (.ref l4),some (.ref l),some (.ref f),some (.int p),x,y,z]/\SO H H' ds u f X/\p<=(u++X).length/\(∀i y,i<p->(u++X)[i]?=some y->∀c,(⟨y,ay,c⟩:ak)∈ds->c∈u++X)/\m=u.length+J3.length-p,
  ⟨_,[],0,_,_,_,rfl,⟨by rw[cM];exact aa,ab.new hf,tP,by simp,by simp⟩,c7 _,fun i y h=>by omega,rfl⟩,?_⟩
 rintro m σ H1 ⟨X,p,x4,x5,x6,rfl,D,b4,as,rfl⟩;have b5:=M D.nd D.new D.sound;refine⟨_,rfl,_,rfl,.inl ⟨f,_,rfl,.inl (au.of D.f),_,_,rfl,rfl,_,rfl,?_⟩⟩;refine kz (fun O=>?_) (fun O=>?_)
 ·have C:p<(u++X).length:=by
   have:=of_decide_eq_true O;rw[ag]at this;omega
  have b0:p<u.length+J3.length:=by rw[aS]at C;omega
  generalize T:(u++X)[p]=here;have J:(u++X)[p]?=some here:=by rw[<-T];exact ik C
  have U:∀{Y:Zb}{y:Str},(∀y∈Y,gS ds u y)->y∈u++Y->gS ds u y:=fun sd hy=>by
   rcases bx.mp hy with hy|hy
   ·exact⟨_,hy,.inl rfl⟩
   ·exact sd _ hy
  refine⟨fun σ' H'=>∃(N:Zb) (x y z:Option V),σ'=[some (.ref l4),some (.ref l),some (.ref f),some (.int ((p+1:Nat):Int)),x,y,z]/\SO H H' ds u f N/\p+1<=(u++N).length/\(∀i y,i<p+1->(u++N)[i]?=some y->∀c,(⟨y,ay,c⟩:ak)∈ds->c∈u++N),
   fun σ' H' ⟨N,x,y,z,e,D',h1,h2⟩=>⟨_,(by omega:u.length+J3.length-(p+1)<u.length+J3.length-p),N,p+1,x,y,z,e,D',h1,h2,rfl⟩,?_⟩
  refine⟨_,rfl,l4,rfl,⟨_,au.of (D.same _ _ h4)⟩,?_⟩;refine bO (xs:=ts.map V.ref) (SoI l4 l f p H ds u X here)
   ⟨X,[],_,_,_,rfl,by simp,D,by simp⟩ (fun j σ H' _ zq=>by obtain⟨_,_,_,_,_,_,_,D',_⟩:=zq;exact au.of (D'.same _ _ h4)) ?_ ?_
  ·rintro j y σ H2 hj ⟨N,Y,a9,bb,bi,rfl,rfl,G,A⟩;obtain⟨t,ht,rfl⟩:=cD hj;obtain⟨v,aC,a0⟩:=Paired.getL ap ht;obtain⟨s,bl,bn⟩:=a0.kt (ab.kt G.same);have a4:=bW aC;have b1:=M G.nd G.new G.sound;have al:(u++(X++Y))[p]?=some here:=by
    rw[<-dZ,qw C];exact J
   refine⟨t,_,rfl,br.of bl,rfl,_,_,rfl,_,_,rfl,_,_,rfl,rfl,?_⟩;have B:∀(H3:Hp) (X3 Y3:Zb) (q4 q5 q6:Option V),X3=X++Y3->SO H H3 ds u f X3->(∀y∈X++Y,y∈X3)->(v.a=here->v.sg=ay->v.b∈u++X3) ->
     SoI l4 l f p H ds u X here (j+1) [some (.ref l4),some (.ref l),some (.ref f),some (.int p),q4,q5,q6] H3:=by
    intro H3 X3 Y3 q4 q5 q6 e I a5 a6;refine⟨X3,Y3,q4,q5,q6,rfl,e,I,fun d hd e1 e2=>?_⟩;rw[take_snoc aC]at hd;rcases bx.mp hd with hd|hd
    ·rcases bx.mp (A d hd e1 e2)with h|h
     ·exact bV _ h
     ·exact cx _ (a5 _ h)
    ·have:d=v:=by simpa using hd
     subst this;exact a6 e1 e2
   refine⟨_,rfl,_,rfl,_,rfl,.inl ⟨f,_,_,_,rfl,rfl,au.of G.f,cp (j:=p) (by rw[du,al];rfl),cB v.a,cB here,l6 _,l6 _,(by show 0<=8;decide),(by show 0<=8;decide),_,rfl,?_⟩⟩;rw[Cz];by_cases c1:v.a=here;rotate_left
   ·rw[zzr0 c1];exact bv (bv (B H2 _ _ _ _ _ rfl G (fun _ h=>h) fun e=>absurd e c1))
   rw[zzr1 c1];refine cr ?_;refine⟨_,rfl,(by show 1<=aj;decide),fun st L=>⟨jF v.sg,jF ay,bw (br.of (kp bn L)),bw (br.of aa),by rw[bZ];decide,by rw[bZ];decide,_,rfl,?_⟩⟩;rw[hE];have I:SO H (upd H2 st (.tup [.str "still"])) ds u f (X++Y):=⟨kp G.f L,G.same.trans (ab.new L),G.nd,G.new,G.sound⟩;have b2:H st=none:=G.same.free L;generalize upd H2 st (.tup [.str "still"])=H3 at I ⊢;by_cases c2:v.sg=ay;rotate_left
   ·rw[zzr0 c2];exact bv (bv (B H3 _ _ _ _ _ rfl I (fun _ h=>h) fun _ e=>absurd e c2))
   rw[zzr1 c2];refine cr ?_;refine⟨_,rfl,_,rfl,cB v.b,(u++(X++Y)).map cB,f,_,l6 _,rfl,.inl (au.of I.f),gk _,(by show 0<=8;decide),by rw[dD];decide,_,rfl,?_⟩;rw[if_pos rfl];by_cases c3:v.b∈u++(X++Y)
   ·rw[zzr1 (sX.mpr c3)];exact bv (B H3 _ _ _ _ _ rfl I (fun _ h=>h) fun _ _=>c3)
   rw[zzr0 (fun z=>c3 (sX.mp z))];refine cr ?_;refine⟨_,rfl,.inl ⟨rfl,_,au.of I.f⟩,_,rfl,f,_,_,rfl,rfl,I.f,by rw[ag,aS];exact eR (by omega),?_⟩;have an:(⟨here,ay,v.b⟩:ak)∈ds:=by
    have:v=⟨here,ay,v.b⟩:=by cases v;simp only at c1 c2;rw[c1,c2]
    rw[<-this];exact a4
   refine B _ (X++(Y++[v.b])) _ _ _ _ rfl ⟨?_,?_,?_,?_,?_⟩ ?_ ?_
   ·rw[aa];have:u++(X++(Y++[v.b]))=u++(X++Y)++[v.b]:=by simp
    rw[this,av (l₂:=[v.b])]
    rfl
   ·intro b o q;rw[am (ae q hf)];exact I.same _ _ q
   ·rw[<-dZ,dq];refine⟨I.nd,by simp,fun a ha b hb e=>?_⟩;have:b=v.b:=by simpa using hb
    exact c3 (cx _ (by rw[<-this,<-e];exact ha))
   ·intro y hy;rw[<-dZ]at hy;rcases bx.mp hy with hy|hy
    ·exact I.new y hy
    ·have:y=v.b:=by simpa using hy
     rw[this];exact fun z=>c3 (bV _ z)
   ·intro y hy;rw[<-dZ]at hy;rcases bx.mp hy with hy|hy
    ·exact I.sound y hy
    ·have:y=v.b:=by simpa using hy
     rw[this];exact(U D.sound (bW J)).step an
   ·intro y hy;rw[<-dZ];exact bV _ hy
   ·intro _ _;exact cx _ (by simp)
  ·rintro σ H2 ⟨N,Y,a9,bb,bi,rfl,rfl,G,A⟩;rw[ag,Paired.length ap,bg]at A;refine⟨_,rfl,_,_,rfl,rfl,X++Y,_,_,_,rfl,G,?_,fun i y hi hy c hc=>?_⟩
   ·rw[<-dZ,aS];omega
   ·by_cases e:i=p
    ·subst e;rw[<-dZ,qw C,J]at hy;have:=fj hy;subst this;exact A _ hc rfl rfl
    ·have bp:i<p:=by omega
     rw[<-dZ,qw (by omega)]at hy;have:=as i y bp hy c hc;rw[<-dZ];exact bV _ this
 ·have a7:p=(u++X).length:=by
   have:¬(p<(u++X).length):=fun z=>O (zzr1 (by rw[ag];omega));omega
  refine⟨_,rfl,k f (u++X) H1 D.f (fun w=>⟨fun hw=>?_,fun hw=>?_⟩) (by rw[aS];omega) hf D.same⟩
  ·rcases bx.mp hw with hw|hw
   ·exact⟨_,hw,.inl rfl⟩
   ·exact D.sound _ hw
  ·have closed:∀y∈u++X,∀c,(⟨y,ay,c⟩:ak)∈ds->c∈u++X:=fun y hy c hc=>by
    obtain⟨n,hn⟩:=nB hy;exact as n y (by rw[a7];exact(bN.mp hn).1) hn c hc
   obtain⟨g,hg,rfl|h⟩:=hw
   ·exact bV _ hg
   ·induction h with
    |one e=>exact closed _ (bV _ hg) _ e
    |step r e ih=>exact closed _ ih _ e

theorem zF(a:List ak)(d:ak):(pF a d).length<=a.length+1:=by
 unfold pF;split
 ·omega
 ·rw[aS];exact aP _
def dg(ds:List ak)(sg:Zb)(J7:Zb):List Str:=J7.flatMap fun r=>a_ ds (r,sg)
theorem vz{a:List ak}{e f:Zb}{i:Nat}{r:Str}(h:f[i]?=some r):dg a e (f.take (i+1))=dg a e (f.take i)++a_ a (r,e):=by
 unfold dg;rw[take_snoc h,nA];simp
theorem rR(a:List ak)(x:Str×List Str):(a_ a x).length<=a.length:=by
 unfold a_;rw[ag];exact bo _ _
theorem pN(a:List ak)(f:Zb):∀e:List Str,(dg a f e).length<=e.length * a.length
 |[]=>c7 _
 |r::e=>by
  show((a_ a (r,f))++dg a f e).length<=(e.length+1) * a.length;rw[aS,ww];have g:=rR a (r,f);have h:=pN a f e;omega
theorem ee{e:List ak}{f g:Zb}{b:Str}:b∈dg e f g↔∃r∈g,(⟨r,f,b⟩:ak)∈e:=by
 unfold dg;rw[fE];constructor
 ·rintro⟨r,a,h⟩;exact⟨r,a,cG.mp h⟩
 ·rintro⟨r,a,h⟩;exact⟨r,a,cG.mpr h⟩
inductive pd(C:Addr)(vs:List V)(H:Hp)(Q:VK)(E:XK):Prop
 |mk (x t s:Addr) (J7 sg J0 J2 J3:Zb) (ds:List ak):(vs=[.ref x,.ref t,.ref s])->(aX C H x J0 J2 J3 ds)->(H t=some (.tup (J7.map V.str)))->(H s=some (.tup (sg.map V.str)))->(sg≠ba)->(J7.length<=1000)->(∀(t':Addr) (F:Zb) (H':Hp),H' t'=some (.tup ((J3.filter fun r=>decide (r∈F)).map V.str))->(∀w,w∈F↔gS ds (dg ds sg J7) w)->ab H H'->Q (.ref t') H')->pd C vs H Q E
theorem xK{K:Za}{C N:Addr}(v:∀H,br K H N (ba.map V.str)){z:Sp}{O:List V}{H:Hp}{Q:VK}{E:XK}(h:pd C O H Q E):
  m8 K (sp_with_still C) C (fM C) N z (bS Q) (start ng O) H:=by
 obtain⟨x,t,s,j,f,T,U,A,e,rfl,M,Y,hs,B,hz,k⟩:=h;have D:∀d∈e,d.b∈A:=fun d hd=>(M.ok.good d hd).b;have z4:=M.ok.few;refine⟨_,rfl,jF f,jF ba,bw (br.of hs),bw (v _),by rw[bZ];decide,by rw[bZ];decide,_,rfl,?_⟩;rw[hE,zzr0 B];refine bv ?_;refine⟨(by show 0<=aj;decide),fun g G=>?_⟩;refine⟨_,rfl,t,rfl,⟨_,br.of (kp Y G)⟩,?_⟩
 let I:Nat->L2.St->Hp->Prop:=fun i σ n=>∃J:Option V,σ=[some (.ref x),some (.ref t),some (.ref s),some (.ref g),J]/\n g=some (.lst ((dg e f (j.take i)).map V.str))/\ab H n
 refine ye (xs:=j.map V.str) I
  ⟨_,rfl,aa,ab.new G⟩ (fun i σ n _ zq=>by obtain⟨_,_,_,S⟩:=zq;exact br.of (S _ _ Y)) ?_ ?_
 ·rintro i y σ H1 hi ⟨J,rfl,a,m⟩;obtain⟨r,hr,rfl⟩:=aZ hi;have M1:=M.same m;obtain⟨dx,fs,o1,o2,o3,o4,lv,qu,al,sl,ts,an,ap,as,g1,a1,a2,a3,a4,_⟩:=M1.at_;refine⟨_,rfl,.inl ⟨rfl,_,au.of a⟩,_,rfl,x,dx,fs,rfl,g1,a2,_,rfl,_,rfl,x,s,r,f,T,U,A,e,rfl,M1,m _ _ hs,fun l H2 hl fr u=>?_⟩;have L:=u _ _ a;have p:((dg e f (j.take i)).map V.str).length+((a_ e (r,f)).map V.str).length<=aj:=by
   rw[ag,ag];have h1:=pN e f (j.take i);have h2:=rR e (r,f);have h3:(j.take i).length * e.length<=1000 * 1000:=nv (by rw[aM];omega) z4;have:(1001000:Nat)<=aj:=by decide
   omega
  refine⟨g,l,_,_,rfl,rfl,L,hl,p,_,rfl,?_,?_⟩
  ·rw[aa,vz hr,av]
  ·intro b o q;rw[am (ae q G)];exact u _ _ (m _ _ q)
 ·rintro σ H1 ⟨J,rfl,a,m⟩;rw[ag,bg]at a;refine⟨_,rfl,_,rfl,x,g,dg e f j,T,U,A,e,rfl,M.same m,a,fun w hw=>?_,fun t' F n h1 h2 u=>k t' F n h1 h2 (m.trans u)⟩;obtain⟨r,_,h⟩:=ee.mp hw;exact D _ h
theorem c6{a:List ak}{i:Nat}{d:ak}{p:ak->Bool}(h:a[i]?=some d):(a.take (i+1)).filter p=(a.take i).filter p++(if p d=true then[d]else[]):=by
 rw[take_snoc h,f6];congr 1;by_cases c:p d=true
 ·rw[if_pos c];simp[c]
 ·rw[if_neg c];simp[c]
def xp(K:Za)(sp_with_still:Sp)(C_Machine:Addr)(sp_Machine_rooms:Sp):TS :=
 bt (aN sp_with_still (aJ V0 (ER (xL K) (bR C_Machine "rooms" sp_Machine_rooms [] E0 V0 aY) (g_) (kS (tC (.int 1))))))
def yE:List Str:=["M"]
inductive eF(C:Addr)(vs:List V)(H:Hp)(Q:VK)(E:XK):Prop
 |mk (x:Addr) (J0 J2 J3:Zb) (ds:List ak):(vs=[.ref x])->(aX C H x J0 J2 J3 ds)->(∀(t':Addr) (F:Zb) (H':Hp),H' t'=some (.tup ((J3.filter fun r=>decide (r∈F)).map V.str))->(∀w,w∈F↔gS ds (J3.take 1) w)->ab H H'->Q (.ref t') H')->eF C vs H Q E
theorem vq{K:Za}{C:Addr}{f:List V}{H:Hp}{Q:VK}{E:XK}(h:eF C f H Q E):xp K (sp_with_still C) C (f_ C) (bS Q) (start yE f) H:=by
 obtain⟨x,i,j,a,m,rfl,M,k⟩:=h;obtain⟨o,fs,J,L,N,O,T,U,p,Y,ts,q,r,s,t,a1,a2,a3,u,_⟩:=M.at_;have v:j1 (a.map V.str) none (some 1)=(a.take 1).map V.str:=tj a 1;refine⟨_,rfl,_,rfl,x,o,fs,rfl,t,u,x,i,j,a,m,rfl,M,fun n e=>⟨_,rfl,n,_,rfl,au.of aa,fun l y=>?_⟩⟩;rw[v];have S:ab H (upd (upd H n (.lst (a.map V.str))) l (.lst ((a.take 1).map V.str))):=(ab.new e).trans (ab.new y);exact⟨x,l,a.take 1,i,j,a,m,rfl,M.same S,aa,fun g z=>j8 z,fun A F B D G I=>k A F B D G (S.trans I)⟩
theorem s_(o:Str)(L:Zb):decide (cB o∈L.map cB)=decide (o∈L):=by
 by_cases c:o∈L
 ·rw[zzr1 (sX.mpr c),zzr1 c]
 ·rw[zzr0 (fun z=>c (sX.mp z)),zzr0 c]
theorem br.same{K:Za}{H e:Hp}{a:Addr}{f:List V}(S:ab H e)(h:br K H a f):br K e a f:=by
 rcases h with(h|⟨o,h⟩)|h
 ·exact .inl (.inl (S _ _ h))
 ·exact .inl (.inr ⟨o,S _ _ h⟩)
 ·exact .inr h
theorem au.same{K:Za}{H e:Hp}{a:Addr}{f:List V}(S:ab H e)(h:au K H a f):au K e a f:=by
 rcases h with(h|⟨o,h⟩)|h
 ·exact .inl (.inl (S _ _ h))
 ·exact .inl (.inr ⟨o,S _ _ h⟩)
 ·exact .inr h
mutual
theorem gV.same{K:Za}{H g:Hp}(S:ab H g):∀{d:DT}{v:V},gV K H d v->gV K g d v
 |.k a,v,h=>by unfold gV at h ⊢;exact h
 |.t l,v,h=>by
  unfold gV at h ⊢;obtain⟨b,f,e,q,r⟩:=h;exact⟨b,f,e,br.same S q,DIns.same S r⟩
 |.s l,v,h=>by
  unfold gV at h ⊢;obtain⟨b,f,e,q,r⟩:=h;exact⟨b,f,e,au.same S q,DIns.same S r⟩
theorem DIns.same{K:Za}{H g:Hp}(S:ab H g):∀{f:List DT}{a:List V},DIns K H f a->DIns K g f a
 |[],a,h=>by unfold DIns at h ⊢;exact h
 |d::f,a,h=>by
  unfold DIns at h ⊢;obtain⟨v,i,e,q,r⟩:=h;exact⟨v,i,e,gV.same S q,DIns.same S r⟩
end
theorem DIns.get{K:Za}{H:Hp}:∀{f:List DT}{a:List V}{i:Nat}{v:V},DIns K H f a->a[i]?=some v->∃d,f[i]?=some d/\gV K H d v
 |[],a,i,v,h,e=>by unfold DIns at h;subst h;simp at e
 |d::f,a,i,v,h,e=>by
  unfold DIns at h;obtain⟨l,m,rfl,q,r⟩:=h;cases i with
  |zero=>simp at e;subst e;exact⟨d,rfl,q⟩
  |succ i =>
   simp at e;obtain⟨g,j,k⟩:=DIns.get r e;exact⟨g,by simpa using j,k⟩
theorem DIns.len{K:Za}{H:Hp}:∀{e:List DT}{a:List V},DIns K H e a->a.length=e.length
 |[],a,h=>by unfold DIns at h;subst h;rfl
 |d::e,a,h=>by
  unfold DIns at h;obtain⟨f,g,rfl,q,r⟩:=h;rw[eO,eO,DIns.len r]
theorem uI{n:Nat}:∀{a:List DT}{i:Nat}{d:DT},DT.depths a<=n->a[i]?=some d->d.depth<=n
 |[],i,d,_,e=>by simp at e
 |x::a,i,d,h,e=>by
  have f:max (DT.depth x) (DT.depths a)<=n:=h;cases i with
  |zero=>simp at e;subst e;omega
  |succ i=>simp at e;exact uI (by omega) e
theorem HF{l:List DT}{n:Nat}(h:(DT.t l).depth<=n+1):DT.depths l<=n:=by
 have:DT.depths l+1<=n+1:=h;omega
theorem HG{l:List DT}{n:Nat}(h:(DT.s l).depth<=n+1):DT.depths l<=n:=by
 have:DT.depths l+1<=n+1:=h;omega
theorem Gg{l:List DT}{n:Nat}(h:(DT.t l).depth<=n):1<=n:=by
 have:DT.depths l+1<=n:=h;omega
theorem Gh{l:List DT}{n:Nat}(h:(DT.s l).depth<=n):1<=n:=by
 have:DT.depths l+1<=n:=h;omega
inductive Kd(K:Za)(H:Hp):DT->V->Prop
 |int (i:Int):Kd K H (.k (.inl i)) (.int i)
 |str (x:Str):Kd K H (.k (.inr x)) (.str x)
 |tup {a:Addr}{xs:List V}{l:List DT}(q:br K H a xs) (r:DIns K H l xs):Kd K H (.t l) (.ref a)
 |lst {a:Addr}{xs:List V}{l:List DT}(q:au K H a xs) (r:DIns K H l xs):Kd K H (.s l) (.ref a)
theorem gV.kd{K:Za}{H:Hp}:∀{d:DT}{v:V},gV K H d v->Kd K H d v
 |.k (.inl i),v,h=>by unfold gV at h;subst h;exact .int i
 |.k (.inr x),v,h=>by unfold gV at h;subst h;exact .str x
 |.t l,v,h=>by
  unfold gV at h;obtain⟨b,a,rfl,q,r⟩:=h;exact .tup q r
 |.s l,v,h=>by
  unfold gV at h;obtain⟨b,a,rfl,q,r⟩:=h;exact .lst q r
def EN(K:Za)(sp_law_still_on:Sp):TS :=
 aw (bf (aN sp_law_still_on (aJ (aK (ij K) V0 (tC (.int 3))) V1)) U2)
 (bt (eE (Cc K) (ar (cv 1 [2] (bG K (aK (ij K) V0 (tC (.int 2)))) U0 (bj (aK (jB K false) V0 V1)) V0) aY)))
def Gx:List Str:=["told","some","there"]
open Classical in
def closF(J3:Zb)(ds:List ak)(gs:Zb):List Str:=J3.filter fun r=>decide (gS ds gs r)
open Classical in
theorem uP{J3 F a:Zb}{e:List ak}(f:∀w,w∈F↔gS e a w):J3.filter (fun r=>decide (r∈F))=closF J3 e a:=by
 unfold closF;refine le fun r _=>?_;by_cases c:r∈F
 ·rw[zzr1 c,zzr1 ((f r).mp c)]
 ·rw[zzr0 c,zzr0 fun z=>c ((f r).mpr z)]
open Classical in
theorem Ae{J3 i a:Zb}{f:List ak}(h:∀g,g∈i↔g∈a):closF J3 f i=closF J3 f a:=by
 have:∀r,gS f i r↔gS f a r:=fun r=>⟨fun⟨g,j,e⟩=>⟨g,(h g).mp j,e⟩,fun⟨g,j,e⟩=>⟨g,(h g).mpr j,e⟩⟩;unfold closF;refine le fun r _=>?_;by_cases c:gS f i r
 ·rw[zzr1 c,zzr1 ((this r).mp c)]
 ·rw[zzr0 c,zzr0 fun z=>c ((this r).mpr z)]
theorem qZ{J3 a:Zb}{e:List ak}:∀r∈closF J3 e a,r∈J3:=fun r h=>(bJ.mp h).1
theorem mI{a e:Zb}{f:List ak}:(closF a f e).length<=a.length:=bo _ _
def behF(J3:Zb)(ds:List ak)(J7 sg:Zb):List Str:=if sg=ba then J7.filter (fun r=>decide (r∉ef ds))else closF J3 ds (dg ds sg J7)
theorem j3{J3 a e:Zb}{f:List ak}(hf:∀r∈a,r∈J3):∀r∈behF J3 f a e,r∈J3:=by
 intro r h;unfold behF at h;split at h
 ·exact hf r (bJ.mp h).1
 ·exact qZ r h
theorem Gs{a e f:Zb}{g:List ak}(h:a.length<=1000)(hf:e.length<=1000):(behF a g e f).length<=1000:=by
 unfold behF;split
 ·exact bz (bo _ _) hf
 ·exact bz mI h
theorem Fz{g:Zb}{a:List ak}{e:Zb}(f:∀r∈e,r∈g):(e.filter fun r=>decide (r∈g.filter (cY a)))=e.filter fun r=>decide (r∉ef a):=by
 refine le fun r h=>?_;rw[<-uj];cases q:cY a r with
 |true=>exact zzr1 (bJ.mpr ⟨f r h,q⟩)
 |false=>exact zzr0 (fun z=>by rw[(bJ.mp z).2]at q;cases q)
inductive sS(K:Za)(C:Addr)(vs:List V)(H:Hp)(Q:VK)(E:XK):Prop
 |mk (x t s:Addr) (J7 sg J0 J2 J3:Zb) (ds:List ak):(vs=[.ref x,.ref t,.ref s])->(aX C H x J0 J2 J3 ds)->(H t=some (.tup (J7.map V.str)))->(br K H s (sg.map V.str))->((sg=ba∨H s=some (.tup (sg.map V.str))))->((∀r∈J7,r∈J3))->(J7.length<=1000)->(∀(t':Addr) (H':Hp),H' t'=some (.tup ((behF J3 ds J7 sg).map V.str))->ab H H'->Q (.ref t') H')->sS K C vs H Q E
theorem Hf{K:Za}{C J:Addr}(g:∀H,br K H J (ba.map V.str)){a:List V}{H:Hp}{Q:VK}{E:XK}(h:sS K C a H Q E):
  m8 K (sp_with_still C) C (fM C) J (fO C) (bS Q) (start ng a) H:=by
 obtain⟨x,t,s,n,L,N,O,p,u,rfl,M,y,Y,z,j,hz,k⟩:=h;by_cases v:L=ba;rotate_left
 ·refine xK (E:=E) g ⟨x,t,s,n,L,N,O,p,u,rfl,M,y,z.resolve_left v,v,hz,fun A F e h1 hF S=>k A e ?_ S⟩;rw[h1,uP hF];unfold behF;rw[if_neg v]
 subst v;refine⟨_,rfl,jF ba,jF ba,bw Y,bw (g _),by rw[bZ];decide,by rw[bZ];decide,_,rfl,?_⟩;rw[zzr1 rfl];refine cr ?_;refine⟨_,rfl,t,rfl,⟨_,br.of y⟩,fun f hf=>?_⟩
 let B:Nat->List V->Hp->Prop:=fun i a e=>a=((n.take i).filter fun r=>decide (r∈p.filter (cY u))).map V.str/\ab H e/\e f=some (.lst a)
 refine uK (xs:=n.map V.str) B ⟨rfl,ab.new hf,aa⟩ (fun i a e _ zq=>by obtain⟨_,S,h'⟩:=zq;exact⟨h',br.of (S _ _ y)⟩) ?_ ?_
 ·rintro a e ⟨rfl,S,l⟩;rw[ag,bg]at l;refine⟨f,_,rfl,.inl ⟨au.of l,fun A D=>k A _ ?_ (S.trans (ab.new D))⟩⟩;rw[aa,Fz j];unfold behF;rw[if_pos rfl]
 ·rintro i a e x' G hi ⟨rfl,S,l⟩;obtain⟨r,T,rfl⟩:=aZ G;have U:=M.same S;obtain⟨dx,fs,o1,o2,o3,o4,lv,qu,al,sl,ts,an,ap,as,g1,a1,_⟩:=U.at_;refine gN ?_;refine⟨_,rfl,x,dx,fs,rfl,g1,a1,_,rfl,x,r,N,O,p,u,rfl,U,_,rfl,?_⟩;have m:(((n.take i).filter fun r=>decide (r∈p.filter (cY u))).map V.str).length<aj:=by
   rw[ag];refine ao (bz (bo _ _) ?_);rw[aM];omega
  refine kz (fun I=>?_) (fun I=>?_)
  ·refine⟨_,rfl,l,m,jo hi ⟨?_,?_,aa⟩⟩
   ·rw[bU T,if_pos I,av];rfl
   ·intro b o q;rw[am (ae q hf)];exact S _ _ q
  ·refine jo hi ⟨?_,S,l⟩;rw[bU T,if_neg I,cM]
inductive zn (vs:List V)(H:Hp)(Q:VK)(E:XK):Prop
 |mk (t l l1 l2 l3 l4:Addr) (ts:Ze) (J0 J2 J3 gs:Zb) (ds:List ak):(vs=[.ref t,.ref l])->(iw H t l1 l2 l3 l4 ts J0 J2 J3 ds)->(aq J0 J2 J3 ds)->(H l=some (.lst (gs.map V.str)))->(gs.length<=1000)->(∀(t':Addr) (H':Hp),H' t'=some (.tup ((closF J3 ds gs).map V.str))->ab H H'->Q (.ref t') H')->zn  vs H Q E
theorem Js{K:Za}{a:List V}{H:Hp}{Q:VK}{E:XK}(h:zn a H Q E):EN K (h9 K) (bS Q) (start Gx a) H:=by
 obtain⟨t,l,l1,l2,B,C,D,J0,J2,n,G,I,rfl,T,m,J,L,k⟩:=h;have z3:=m.rooms26;refine⟨_,rfl,.inr (.inl ⟨t,_,3,_,rfl,rfl,br.of T.t,rfl,_,rfl,C,l,D,I,G,n,rfl,T.a4,T.ds,J,fun d M=>(m.good d M).b,by omega,L,fun N F O p U Y fr z=>?_⟩)⟩;have s:=T.same z;refine⟨_,rfl,.inr (.inl ⟨t,_,2,_,rfl,rfl,br.of s.t,rfl,B,rfl,⟨_,au.of s.a3⟩,fun f hf=>?_⟩)⟩
 let u:Nat->List V->Hp->Prop:=fun i a e=>a=((n.take i).filter fun r=>decide (r∈F)).map V.str/\ab O e/\e f=some (.lst a)
 refine bD (xs:=n.map V.str) u ⟨rfl,ab.new hf,aa⟩ (fun i a e _ zq=>by obtain⟨_,S,h'⟩:=zq;exact⟨h',au.of (S _ _ s.a3)⟩) ?_ ?_
 ·rintro a e ⟨rfl,S,g⟩;rw[ag,bg,uP U]at g;exact⟨f,_,rfl,.inl ⟨au.of g,fun t' v=>k t' _ aa ((z.trans S).trans (ab.new v))⟩⟩
 ·rintro i a e x' x hi ⟨rfl,S,g⟩;obtain⟨r,A,rfl⟩:=aZ x;refine gN ?_;refine⟨_,rfl,_,rfl,cB r,F.map cB,N,_,l6 r,rfl,.inl (au.of (S _ _ p)),gk _,(by show 0<=8;decide),by rw[dD];decide,_,rfl,?_⟩;rw[if_neg gw,s_];have j:(((n.take i).filter fun r=>decide (r∈F)).map V.str).length<aj:=by
   rw[ag];refine ao (bz (bo _ _) ?_);rw[aM];omega
  refine kz (fun y=>?_) (fun y=>?_)
  ·refine⟨_,rfl,g,j,jo hi ⟨?_,?_,aa⟩⟩
   ·rw[bU A,if_pos y,av];rfl
   ·intro b o q;rw[am (ae q hf)];exact S _ _ q
  ·refine jo hi ⟨?_,S,g⟩;rw[bU A,if_neg y,cM]
theorem kB(a:List ak):DT.depths (a.map sB)<=2:=by
 induction a with
 |nil=>exact c7 _
 |cons x e f=>rw[cg];show max (DT.depth (sB x)) (DT.depths _)<=2;rw[yf];omega
theorem Dh{j k l:Zb}{i:ak}(g:rX j k l i):∃f a,i.sg=f::a/\(!decide (V.str f=V.str ("ask":Str)))=!dP i:=by
 obtain⟨f,a,h⟩:∃f a,i.sg=f::a:=by
  rcases g.sg with⟨w,_,e⟩|⟨w,_,e⟩|e<;>exact⟨_,_,e⟩
 refine⟨f,a,h,?_⟩;unfold dP;rw[h];congr 1;show _=decide (f=("ask":Str));by_cases c:f=("ask":Str)
 ·rw[zzr1 c,zzr1 (by rw[c])]
 ·rw[zzr0 c,zzr0 (fun z=>c (by injection z))]
inductive mm (vs:List V)(H:Hp)(Q:VK)(E:XK):Prop
 |mk (t l1 l2 l3 l4:Addr) (ts:Ze) (J0 J2 J3:Zb) (ds:List ak) (r:Str):(vs=[.ref t,.str r])->(iw H t l1 l2 l3 l4 ts J0 J2 J3 ds)->(aq J0 J2 J3 ds)->(∀H',ab H H'->Q (.bl (decide (r∉ef ds))) H')->mm  vs H Q E
inductive ki(K:Za)(vs:List V)(H:Hp)(Q:VK)(E:XK):Prop
 |mk (t ft s l1 l2 l3 l4:Addr) (ts:Ze) (J0 J2 J3 J7 sg:Zb) (ds:List ak):(vs=[.ref t,.ref ft,.ref s])->(iw H t l1 l2 l3 l4 ts J0 J2 J3 ds)->(aq J0 J2 J3 ds)->(H ft=some (.tup (J7.map V.str)))->(br K H s (sg.map V.str))->(J7.length<=1000)->(∀(t':Addr) (H':Hp),H' t'=some (.tup ((behF J3 ds J7 sg).map V.str))->ab H H'->Q (.ref t') H')->ki K vs H Q E
abbrev jc(H:Hp)(us:Ze)(L:List (List Str)):Prop:=Paired (SignAt H) us L
theorem jc.kt{H H':Hp}{a:Ze}{L:List (List Str)}(k:j7 H H')(h:jc H a L):jc H' a L:=Paired.mapP h fun _ _ r=>k _ _ r
theorem jc.dIns{K:Za}{H:Hp}:∀{a:Ze}{L:List (List Str)},jc H a L->DIns K H (L.map jF) (a.map V.ref)
 |_,_,.nil=>by show DIns K H [] [];unfold DIns;rfl
 |_,_,.cons r t=>by
  rw[cg,cg];unfold DIns;exact⟨_,_,rfl,bw (br.of r),jc.dIns t⟩
theorem Bp(L:List (List Str)):DT.depths (L.map jF)<=1:=by
 induction L with
 |nil=>exact c7 _
 |cons x a e=>rw[cg];show max (DT.depth (jF x)) (DT.depths _)<=1;rw[bZ];omega
theorem Br{K:Za}{σ:L2.St}{H:Hp}{a l:Addr}{g:Zb}{kd:Str}{Q:Hp->Prop}(v:H a=some (.lst (g.map V.str)))(A:g.length<=1000)(t:H l=none)
  (k:∀(f:Ze) (e:Hp),e l=some (.lst (f.map V.ref))->jc e f (g.map fun w=>[kd,w])->ab H e->Q e) :
  cW 1 [] σ (CQ K a) U0 ip (bX (aJ (tC (.str kd)) V0)) H l Q:=by
 let n:Nat->List V->Hp->Prop:=fun i h e=>∃f:List Addr,h=f.map V.ref/\ab H e/\e l=some (.lst h)/\jc e f ((g.take i).map fun w=>[kd,w])
 refine bD (xs:=g.map V.str) n ⟨[],rfl,ab.new t,aa,.nil⟩ (fun i h e _ x=>by obtain⟨_,_,S,p,_⟩:=x;exact⟨p,au.of (S _ _ v)⟩) ?_ ?_
 ·rintro h e ⟨f,rfl,S,p,j⟩;rw[ag,bg]at j;exact k f e p j S
 ·rintro i h e B r hi ⟨f,rfl,S,s,j⟩;obtain⟨w,y,rfl⟩:=aZ r;refine gN (nM ?_);refine⟨_,rfl,(by show 2<=aj;decide),fun u m=>⟨kp s m,?_,jo hi ⟨f++[u],by rw[av];rfl,?_,aa,?_⟩⟩⟩
  ·rw[ag,Paired.length j,ag,aM];exact ao (by omega)
  ·intro b o q;rw[am (ae q t)];exact kp (S _ _ q) m
  ·rw[take_snoc y,av];have z:j7 e (upd (upd e u (.tup [.str kd,.str w])) l (.lst (f.map V.ref++[.ref u]))):=(ab.kt (ab.new m)).trans (cU (kp s m));exact fF (jc.kt z j) ((cU (kp s m)) _ _ aa)
def faceOf(J3:Zb)(ds:List ak)(story:List (List Str)):List Str:=story.foldl (behF J3 ds) (closF J3 ds (J3.take 1))
theorem Aa(e:Zb)(f:List ak)(a:List (List Str))(g:Zb):faceOf e f (a++[g])=behF e f (faceOf e f a) g:=by
 unfold faceOf;rw[List.foldl_append]
 rfl
theorem DW{e:Zb}{ds:List ak}(j:e.length<=1000)(a:List (List Str)):(∀r∈faceOf e ds a,r∈e)/\(faceOf e ds a).length<=1000:=by
 have g:∀(L:List (List Str)) (f:Zb),(∀r∈f,r∈e)->f.length<=1000->(∀r∈L.foldl (behF e ds) f,r∈e)/\(L.foldl (behF e ds) f).length<=1000:=by
  intro L
  induction L with
  |nil=>intro f h i;exact⟨h,i⟩
  |cons l L k=>intro f h i;exact k _ (j3 h) (Gs j i)
 exact g a _ qZ (bz mI j)
def AE(K:Za)(C_Machine:Addr)(sp_Machine_doors_from:Sp):TS :=
 aw (bf (xC) U2)
 (aw (d6 (DQ K V1) U3 (d6 (bG K (bR C_Machine "doors_from" sp_Machine_doors_from [] E0 V0 (aB V3))) U4 (pq V2 (aK (ij K) V4 (tC (.int 1))) (tC (.bl true)))))
 (bt V2))
def BA:List Str:=["M","face","signs","room","door"]
def AF(K:Za)(C_Machine:Addr)(sp_Machine_is_quiet:Sp)(a_HUSH:Addr)(sp_Machine_says:Sp)(sp_signs_at:Sp):TS :=
 aw (bf (aN sp_signs_at (aJ V0 V1)) U2)
 (aw (bf (cv 1 [2] (bG K (bR C_Machine "says" sp_Machine_says [] E0 V0 aY)) U0 (tB (zk K (bX (aJ (tC (.str "say")) V0)) V1)) (bX (aJ (tC (.str "say")) V0))) U3)
 (aw (df (tB (eE (Jv K) (aB (cv 1 [0] (DQ K V1) U0 (ip) (bR C_Machine "is_quiet" sp_Machine_is_quiet [] E0 V1 (aB V0)))))) (c_ (vm K "list" d_ V3 (aB (tC (.ref a_HUSH))))) (bQ))
 (bt V3)))
def BB:List Str:=["M","face","signs","coming"]
def AL(K:Za)(C_Machine:Addr)(sp_Machine_asks:Sp)(sp_signs_at:Sp):TS :=
 aw (bf (aN sp_signs_at (aJ V0 V1)) U2)
 (bt (cv 1 [2] (bG K (bR C_Machine "asks" sp_Machine_asks [] E0 V0 aY)) U0 (tB (zk K (bX (aJ (tC (.str "ask")) V0)) V1)) V0))
def BH:List Str:=["M","face","signs"]
def t7(K:Za):TS :=
 bt (eE (dF K) (aB (si K V0 "own_asks")))
def u1:List Str:=["self"]
def t6(K:Za):TS :=
 bt (eE (dF K) (aB (si K V0 "own_says")))
def uZ:List Str:=["self"]
def lD(K:Za):TS :=
 bt (eE (dF K) (aB (ug K (si K V0 "leaving") V1 (bX (aY)))))
def l7:List Str:=["self","room"]
def AJ(K:Za)(sp_law_behind:Sp)(sp_law_on:Sp):TS :=
 aw (bf (aN sp_law_on (aJ V0 (ER (rSlA K) (aK (ij K) V0 (tC (.int 2))) (g_) (kS (tC (.int 1)))))) U2)
 (aw (d6 (bG K V1) U3 (bf (aN sp_law_behind (dQ V0 V2 V3)) U2))
 (bt V2))
def BF:List Str:=["told","story","face","sign"]


theorem nW{C x:Addr}{H:Hp}{k l m:Zb}{n:List ak}(h:aX C H x k l m n):∃(j:Addr) (fs:List (Str×V)) (f g i:Addr) (a:List (Str×Addr)),H x=some (.ins C j fs)/\lk "asks" fs=none/\lk "says" fs=none/\lk "doors_from" fs=none/\lk "is_quiet" fs=none/\lk "own_asks" fs=some (.ref f)/\lk "own_says" fs=some (.ref g)/\lk "leaving" fs=some (.ref i) /\
  H f=some (.lst (k.map V.str))/\H g=some (.lst (l.map V.str))/\a.map (·.1)=m/\H i=some (.dK (eo Sum.inr a))/\(∀x∈a,∃o,H x.2=some (.lst (o.map V.ref))/\cA H o (az n x.1)):=by
 obtain⟨j,fs,f,g,J,M,i,N,O,Q,T,a,q,r,p,a1,a2,a3,U,s,t,Y,b4,u,b6,b7,b8,L,v,y,z,c4,G,d1,d2,d3⟩:=h.at_;obtain⟨A,B,e,D,E,e3,I⟩:=h.more;rw[p]at e;cases e;exact⟨j,fs,f,g,i,a,p,D,E,I,a1,s,t,u,L.a1,L.a2,v,y,z⟩
inductive iD(C:Addr)(vs:List V)(H:Hp)(Q:VK)(E:XK):Prop
 |mk (x:Addr) (J0 J2 J3:Zb) (ds:List ak):(vs=[.ref x])->(aX C H x J0 J2 J3 ds)->(∀l,H l=none->Q (.ref l) (upd H l (.lst (J0.map V.str))))->iD C vs H Q E
theorem Hh{K:Za}{C:Addr}(M:MC K C){a:List V}{H:Hp}{Q:VK}{E:XK}(h:iD C a H Q E):t7 K (bS Q) (start u1 a) H:=by
 obtain⟨x,m,n,o,p,rfl,h,k⟩:=h;obtain⟨f,fs,e,q,r,g,i,a1,a2,a3,s,j,t,u,l,v,_⟩:=nW h;exact⟨_,rfl,x,C,f,fs,.ref e,rfl,i,M.cls,M.a1,j,.inl ⟨e,_,rfl,.inl (au.of l),k⟩⟩
inductive iB(C:Addr)(vs:List V)(H:Hp)(Q:VK)(E:XK):Prop
 |mk (x:Addr) (J0 J2 J3:Zb) (ds:List ak):(vs=[.ref x])->(aX C H x J0 J2 J3 ds)->(∀l,H l=none->Q (.ref l) (upd H l (.lst (J2.map V.str))))->iB C vs H Q E
theorem Ha{K:Za}{C:Addr}(M:MC K C){a:List V}{H:Hp}{Q:VK}{E:XK}(h:iB C a H Q E):t6 K (bS Q) (start uZ a) H:=by
 obtain⟨x,m,n,o,p,rfl,h,k⟩:=h;obtain⟨f,fs,q,e,r,g,i,a1,a2,a3,s,t,j,u,v,l,_⟩:=nW h;exact⟨_,rfl,x,C,f,fs,.ref e,rfl,i,M.cls,M.a2,j,.inl ⟨e,_,rfl,.inl (au.of l),k⟩⟩
inductive eG(C:Addr)(vs:List V)(H:Hp)(Q:VK)(E:XK):Prop
 |mk (x:Addr) (r:Str) (J0 J2 J3:Zb) (ds:List ak):(vs=[.ref x,.str r])->(aX C H x J0 J2 J3 ds)->(r∈J3)->(∀(l:Addr) (us:Ze) (H':Hp),H' l=some (.lst (us.map V.ref))->cA H' us (az ds r)->H l=none->ab H H'->Q (.ref l) H')->eG C vs H Q E
theorem vt{K:Za}{C:Addr}(M:MC K C){n:List V}{H:Hp}{Q:VK}{E:XK}(h:eG C n H Q E):lD K (bS Q) (start l7 n) H:=by
 obtain⟨x,r,J,L,N,O,rfl,h,t,k⟩:=h;obtain⟨u,fs,T,U,o,i,v,a1,a2,a3,Y,b1,b2,y,c1,c2,p,q,z⟩:=nW h;have j:=h.ok.okR.1;obtain⟨⟨s,a⟩,e,A⟩:=aA.mp (show r∈i.map (·.1) by rw[p];exact t);obtain rfl:s=r:=A;obtain⟨B,D,G⟩:=z _ e;refine⟨_,rfl,x,C,u,fs,.ref o,rfl,v,M.cls,M.a5,y,o,rfl,.inl ⟨_,.inl q⟩,_,rfl,(by show 0<=aj;decide),fun I f=>⟨_,.inl ⟨_,.inr s,.inl (kp q f),rfl,rfl⟩,?_⟩⟩;rw[eN iI (by rw[p];exact j) e];have g:ab H (upd H I (.tup [])):=ab.new f;refine .inl ⟨a,_,rfl,.inl (au.of (g _ _ D)),fun l m=>k l B _ aa ?_ (g.free m) (g.trans (ab.new m))⟩;exact G.kt (ab.kt (g.trans (ab.new m)))
def EW(ds:List ak)(J7:Zb)(sg:Zb):Bool:=ds.any fun d=>decide (d.a∈J7) && decide (d.sg=sg)
theorem sU{f:List ak}{g i:Zb}:EW f g i=true↔∃d∈f,d.a∈g/\d.sg=i:=by
 unfold EW;rw[wv];constructor
 ·rintro⟨d,e,h⟩;rw[ka]at h;exact⟨d,e,of_decide_eq_true h.1,of_decide_eq_true h.2⟩
 ·rintro⟨d,e,j,k⟩;exact⟨d,e,by rw[zzr1 j,zzr1 k];rfl⟩
inductive sp_signs_at(C:Addr)(vs:List V)(H:Hp)(Q:VK)(E:XK):Prop
 |mk (x ft:Addr) (J7 J0 J2 J3:Zb) (ds:List ak):(vs=[.ref x,.ref ft])->(aX C H x J0 J2 J3 ds)->(H ft=some (.tup (J7.map V.str)))->((∀r∈J7,r∈J3))->(J7.length<=1000)->(∀(d:Addr) (kvs:List (TK×V)) (H':Hp),H' d=some (.dT kvs)->(∀sg,(de kvs (nc sg)).isSome=EW ds J7 sg)->H d=none->ab H H'->Q (.ref d) H')->sp_signs_at C vs H Q E
theorem zp{K:Za}{C:Addr}{vs:List V}{H:Hp}{Q:VK}{E:XK}(h:sp_signs_at C vs H Q E):AE K C (eG C) (bS Q) (start BA vs) H:=by
 obtain⟨x,ft,N,J0,J2,J3,D,rfl,M,O,T,hz,k⟩:=h;have z4:=M.ok.few;refine fun d hd=>?_;refine⟨_,rfl,ft,rfl,⟨_,br.of (kp O hd)⟩,?_⟩;refine ye (xs:=N.map V.str) (fun i σ n=>HR fun(g:List (TK×V)) (x3 U:Option V)=>GA (σ=[some (.ref x),some (.ref ft),some (.ref d),x3,U]) (n d=some (.dT g)) (ab H n) (g.length<=i * 1000) (∀m,(de g (nc m)).isSome=EW D (N.take i) m))
  ⟨[],_,_,rfl,aa,ab.new hd,by simp,fun m=>?_⟩ (fun i σ n _ zq=>by obtain⟨_,_,_,_,_,S,_,_⟩:=zq;exact br.of (S _ _ O)) ?_ ?_
 ·have:EW D (N.take 0) m=false:=by
   rw[k_];intro z;obtain⟨_,_,h,_⟩:=sU.mp z;simp at h
  rw[this];rfl
 ·rintro i y σ H1 hi ⟨g,x3,U,rfl,p,S1,an,t⟩;obtain⟨r,hr,rfl⟩:=aZ hi;have a8:i<N.length:=(bN.mp hr).1;have M1:=M.same S1;obtain⟨dx,fs,o1,o2,lv,a9,g1,a1,a2,a3,a4,_⟩:=nW M1;refine⟨_,rfl,x,dx,fs,rfl,g1,a3,_,rfl,x,r,J0,J2,J3,D,rfl,M1,T r (bW hr),fun l us H2 hl G fr S2=>⟨l,rfl,⟨_,au.of hl⟩,?_⟩⟩;have ld:l≠d:=fun z=>by rw[z,p]at fr;cases fr
  have a7:(az D r).length<=1000:=by
   unfold az;exact bz (bo _ _) z4
  refine bO (xs:=us.map V.ref) (fun j σ n=>Ew fun(f:List (TK×V)) (U:Option V)=>NA7 (σ=[some (.ref x),some (.ref ft),some (.ref d),some (.str r),U]) (n d=some (.dT f)) (n l=some (.lst (us.map V.ref))) (j7 H2 n) (ab H n) (f.length<=i * 1000+j) (∀m,(de f (nc m)).isSome=(EW D (N.take i) m || ((az D r).take j).any fun e=>decide (e.sg=m))))
   ⟨g,_,rfl,S2 _ _ p,hl,fun _ _ h=>h,S1.trans S2,by omega,fun m=>by rw[t];simp⟩ (fun j σ n _ zq=>by obtain⟨_,_,_,_,h,_,_,_,_⟩:=zq;exact au.of h) ?_ ?_
  ·rintro j y σ H3 hj ⟨f,ap,rfl,v,Y,I,S3,B,A⟩;obtain⟨u,hu,rfl⟩:=cD hj;obtain⟨dr,al,as⟩:=Paired.getL G hu;obtain⟨s,aC,a0⟩:=as.kt I;have bb:j<(az D r).length:=(bN.mp al).1;refine⟨_,rfl,_,rfl,.inr (.inl ⟨u,_,1,_,rfl,rfl,br.of aC,rfl,d,_,rfl,.inr ⟨f,nc dr.sg,s,v,rfl,SignAt.tk a0,by rw[gE];decide,?_,rfl⟩,_,_,rfl,aa,?_,?_,?_,?_,fun m=>?_⟩)⟩
   ·have:i * 1000<=1000 * 1000:=Nat.mul_le_mul_right _ (by omega);have J:(1001000:Nat)<aj:=by decide
    omega
   ·rw[am ld];exact Y
   ·intro b xs hb;have:=I b xs hb;rw[am (fun z=>by rw[z,v]at this;cases this)];exact this
   ·intro b o q;rw[am (ae q hd)];exact S3 _ _ q
   ·have:=uk f (nc dr.sg) (.bl true);omega
   ·rw[tX,take_snoc al,List.any_append];by_cases c:nc m=nc dr.sg
    ·rw[if_pos c];have:dr.sg=m:=(sZ c).symm;simp[this]
    ·rw[if_neg c,A];have:decide (dr.sg=m)=false:=zzr0 fun z=>c (by rw[z]);simp[this]
  ·rintro σ H3 ⟨f,ap,rfl,v,Y,I,S3,B,A⟩;rw[ag,Paired.length G]at B;rw[ag,Paired.length G,bg]at A;refine⟨f,_,_,rfl,v,S3,by rw[ww];omega,fun m=>?_⟩;rw[A,k7,tN,sU,sU,wv,take_snoc hr];constructor
   ·rintro(⟨e,L,h1,J⟩|⟨e,L,J⟩)
    ·exact⟨e,L,bV _ h1,J⟩
    ·unfold az at L;obtain⟨a5,a6⟩:=bJ.mp L;exact⟨e,a5,cx _ (by rw[of_decide_eq_true a6];simp),of_decide_eq_true J⟩
   ·rintro⟨e,L,h1,J⟩;rcases bx.mp h1 with h1|h1
    ·exact .inl ⟨e,L,h1,J⟩
    ·have:e.a=r:=by simpa using h1
     exact .inr ⟨e,bJ.mpr ⟨L,zzr1 this⟩,zzr1 J⟩
 ·rintro σ H1 ⟨g,x3,U,rfl,p,S1,an,t⟩;rw[ag,bg]at t;exact⟨_,rfl,k d g H1 p t hd S1⟩
def v8(ds:List ak)(J7:Zb):Bool:=J7.any fun r=>decide (r∉ef ds)
def Ad(J2:Zb)(ds:List ak)(J7:Zb):List (List Str):=(J2.filter fun w=>EW ds J7 (aV w)).map aV++(if v8 ds J7=true then[ba]else[])
def EY(J0:Zb)(ds:List ak)(J7:Zb):List Str:=J0.filter fun w=>EW ds J7 (bm w)
def Jb(K:Za)(H:Hp)(l:Addr)(L:List (List Str)):Prop:=∃vs:List V,H l=some (.lst vs)/\DIns K H (L.map jF) vs
theorem DIns.app{K:Za}{H:Hp}:∀{a b:List DT}{e f:List V},DIns K H a e->DIns K H b f->DIns K H (a++b) (e++f)
 |[],b,e,f,h,g=>by unfold DIns at h;subst h;exact g
 |d::a,b,e,f,h,g=>by
  unfold DIns at h;obtain⟨v,i,rfl,q,r⟩:=h;rw[List.cons_append,List.cons_append];unfold DIns;exact⟨v,_,rfl,q,DIns.app r g⟩
inductive fN(K:Za)(C:Addr)(vs:List V)(H:Hp)(Q:VK)(E:XK):Prop
 |mk (x ft:Addr) (J7 J0 J2 J3:Zb) (ds:List ak):(vs=[.ref x,.ref ft])->(aX C H x J0 J2 J3 ds)->(H ft=some (.tup (J7.map V.str)))->((∀r∈J7,r∈J3))->(J7.length<=1000)->(∀(l:Addr) (H':Hp),Jb K H' l (Ad J2 ds J7)->H l=none->ab H H'->Q (.ref l) H')->fN K C vs H Q E
theorem Ej{f:Zb}{ds:List ak}{e:Zb}(a:∀r∈e,r∈f):(e.map fun r=>decide (r∈f.filter (cY ds))).any id=v8 ds e:=by
 unfold v8;rw[List.any_map]
 induction e with
 |nil=>rfl
 |cons r e g =>
  rw[lA,lA,g fun y h=>a y (fX _ h)];congr 1;show decide (r∈f.filter (cY ds))=_;rw[<-uj];cases q:cY ds r with
  |true=>exact zzr1 (bJ.mpr ⟨a r dS,q⟩)
  |false=>exact zzr0 (fun z=>by rw[(bJ.mp z).2]at q;cases q)
theorem zt{K:Za}{C T:Addr}(al:∀H,br K H T (ba.map V.str)){vs:List V}{H:Hp}{Q:VK}{E:XK}(h:fN K C vs H Q E):AF K C (fO C) T (iB C) (sp_signs_at C) (bS Q) (start BB vs) H:=by
 obtain⟨x,ft,U,J0,j,Y,B,rfl,M,p,m,hz,k⟩:=h;have z2:=M.ok.says4;refine⟨_,rfl,_,rfl,x,ft,U,J0,j,Y,B,rfl,M,p,m,hz,fun d an H1 ap hv a5 S1=>?_⟩;have M1:=M.same S1;obtain⟨dx,fs,o1,o2,lv,as,g1,a1,a2,a3,a4,_⟩:=nW M1;refine⟨_,rfl,x,dx,fs,rfl,g1,a2,x,J0,j,Y,B,rfl,M1,fun D aC=>⟨D,rfl,⟨_,au.of aa⟩,fun f hf=>?_⟩⟩;have S2:ab H1 (upd H1 D (.lst (j.map V.str))):=ab.new aC;have G:upd H1 D (.lst (j.map V.str)) D=some (.lst (j.map V.str)):=aa;have I:=S2 _ _ ap;generalize upd H1 D (.lst (j.map V.str))=H2 at S2 G I hf ⊢;refine bD (xs:=j.map V.str) (fun i vs a=>∃n:List Addr,vs=n.map V.ref/\ab H2 a/\a f=some (.lst vs)/\jc a n (((j.take i).filter fun w=>EW B U (aV w)).map aV)) ⟨[],rfl,ab.new hf,aa,.nil⟩ (fun i vs a _ zq=>by obtain⟨_,_,S,h',_⟩:=zq;exact⟨h',au.of (S _ _ G)⟩) ?_ ?_;rotate_left
 ·rintro i vs a x' s hi ⟨n,rfl,S,f',z⟩;obtain⟨w,hw,rfl⟩:=aZ s;refine gN ?_;refine⟨_,rfl,(by show 2<=aj;decide),fun kt J=>⟨_,rfl,d,_,rfl,.inr ⟨an,nc (aV w),kt,.inl (kp (S _ _ I) J),rfl,gQ.isIn 8 (by rw[gE];decide) (SignAt.tk (sg:=aV w) aa),by rw[gE];decide,rfl⟩,_,rfl,?_⟩⟩;rw[hv];have t:ab a (upd a kt (.tup [.str "say",.str w])):=ab.new J;generalize upd a kt (.tup [.str "say",.str w])=H3 at t ⊢;have A:=t _ _ f';have L:=jc.kt (ab.kt t) z;refine kz (fun v=>?_) (fun v=>?_)
  ·refine⟨_,rfl,(by show 2<=aj;decide),fun u e=>⟨kp A e,?_,jo hi ⟨n++[u],by rw[av];rfl,?_,aa,?_⟩⟩⟩
   ·rw[ag,Paired.length z,ag];refine ao (bz (bo _ _) ?_);rw[aM];omega
   ·intro b o q;rw[am (ae q hf)];exact kp (t _ _ (S _ _ q)) e
   ·rw[bU hw,if_pos v,av];have hk:j7 H3 (upd (upd H3 u (.tup [.str "say",.str w])) f (.lst (n.map V.ref++[.ref u]))):=(ab.kt (ab.new e)).trans (cU (kp A e));exact fF (jc.kt hk L) ((cU (kp A e)) _ _ aa)
  ·refine jo hi ⟨n,rfl,S.trans t,A,?_⟩;rw[bU hw,if_neg v,cM];exact L
 rintro vs H3 ⟨n,rfl,t,A,z⟩;rw[ag,bg]at z;have a0:=S2.trans t;have l:=S1.trans a0;have y:H f=none:=(S1.trans S2).free hf;refine⟨_,rfl,ft,rfl,⟨_,br.of (l _ _ p)⟩,fun g hg=>?_⟩;refine uK (xs:=U.map V.str) (fun i vs a=>vs=((U.take i).map fun r=>decide (r∈Y.filter (cY B))).map V.bl/\ab H3 a/\a g=some (.lst vs)) ⟨rfl,ab.new hg,aa⟩ (fun i vs a _ zq=>by obtain⟨_,S,h'⟩:=zq;exact⟨h',br.of (S _ _ (l _ _ p))⟩) ?_ ?_;rotate_left
 ·rintro i vs a x' s hi ⟨rfl,S,g'⟩;obtain⟨r,hr,rfl⟩:=aZ s;have M':=M.same (l.trans S);obtain⟨dx,fs,o1,o2,lv,as,g1,a1,a2,a3,a4,_⟩:=nW M';refine gN (nM ?_);refine⟨_,rfl,x,dx,fs,rfl,g1,a4,_,rfl,x,r,J0,j,Y,B,rfl,M',g',?_,jo hi ⟨?_,?_,aa⟩⟩
  ·rw[ag,ag,aM];exact ao (by omega)
  ·rw[take_snoc hr,av,av];rfl
  ·intro b o q;rw[am (ae q hg)];exact S _ _ q
 rintro vs H4 ⟨rfl,S4,g4⟩;rw[ag,bg]at g4;refine⟨g,_,rfl,au.of g4,_,rfl,?_⟩;rw[Ej m];have f4:=S4 _ _ A;have N:=jc.kt (ab.kt S4) z;have O:=l.trans S4;refine kz (fun v=>?_) (fun v=>?_)
 ·refine⟨_,rfl,.inl ⟨rfl,_,au.of f4⟩,f,_,_,rfl,rfl,f4,?_,?_⟩
  ·rw[ag,Paired.length z,ag];exact ao (bz (bo _ _) (by omega))
  refine⟨_,rfl,k f _ ⟨_,aa,?_⟩ y ?_⟩
  ·unfold Ad;rw[if_pos v,av];have hk:j7 H4 (upd H4 f (.lst (n.map V.ref++[.ref T]))):=cU f4;refine DIns.app (jc.dIns (jc.kt hk N)) ?_;show DIns K _ [jF ba] [.ref T];unfold DIns;refine⟨_,_,rfl,bw (al _),?_⟩;unfold DIns
   rfl
  ·intro b o q;rw[am (ae q y)];exact O _ _ q
 ·refine⟨_,rfl,k f _ ⟨_,f4,?_⟩ y O⟩;unfold Ad;rw[if_neg v,cM];exact jc.dIns N
inductive fP(C:Addr)(vs:List V)(H:Hp)(Q:VK)(E:XK):Prop
 |mk (x ft:Addr) (J7 J0 J2 J3:Zb) (ds:List ak):(vs=[.ref x,.ref ft])->(aX C H x J0 J2 J3 ds)->(H ft=some (.tup (J7.map V.str)))->((∀r∈J7,r∈J3))->(J7.length<=1000)->(∀(l:Addr) (H':Hp),H' l=some (.lst ((EY J0 ds J7).map V.str))->H l=none->ab H H'->Q (.ref l) H')->fP C vs H Q E
theorem zB{K:Za}{C:Addr}{a:List V}{H:Hp}{Q:VK}{E:XK}(h:fP C a H Q E):AL K C (iD C) (sp_signs_at C) (bS Q) (start BH a) H:=by
 obtain⟨x,Y,J,e,L,N,v,rfl,M,y,l,hz,k⟩:=h;have z1:=M.ok.asks4;refine⟨_,rfl,_,rfl,x,Y,J,e,L,N,v,rfl,M,y,l,hz,fun d z t A hv al B=>?_⟩;have O:=M.same B;obtain⟨dx,fs,o1,o2,lv,an,g1,a1,a2,a3,a4,_⟩:=nW O;refine⟨_,rfl,x,dx,fs,rfl,g1,a1,x,e,L,N,v,rfl,O,fun m D=>⟨m,rfl,⟨_,au.of aa⟩,fun f hf=>?_⟩⟩;have u:ab t (upd t m (.lst (e.map V.str))):=ab.new D;have n:upd t m (.lst (e.map V.str)) m=some (.lst (e.map V.str)):=aa;have p:=u _ _ A;generalize upd t m (.lst (e.map V.str))=H2 at u n p hf ⊢;refine bD (xs:=e.map V.str) (fun i a g=>a=((e.take i).filter fun w=>EW v J (bm w)).map V.str/\ab H2 g/\g f=some (.lst a)) ⟨rfl,ab.new hf,aa⟩ (fun i a g _ zq=>by obtain⟨_,S,h'⟩:=zq;exact⟨h',au.of (S _ _ n)⟩) ?_ ?_
 ·rintro a T ⟨rfl,j,r⟩;rw[ag,bg]at r;exact k f T r ((B.trans u).free hf) ((B.trans u).trans j)
 ·rintro i a g x' G hi ⟨rfl,S,f'⟩;obtain⟨w,U,rfl⟩:=aZ G;refine gN ?_;refine⟨_,rfl,(by show 2<=aj;decide),fun kt s=>⟨_,rfl,d,_,rfl,.inr ⟨z,nc (bm w),kt,.inl (kp (S _ _ p) s),rfl,gQ.isIn 8 (by rw[gE];decide) (SignAt.tk (sg:=bm w) aa),by rw[gE];decide,rfl⟩,_,rfl,?_⟩⟩;rw[hv];have j:ab g (upd g kt (.tup [.str "ask",.str w])):=ab.new s;generalize upd g kt (.tup [.str "ask",.str w])=T at j ⊢;have r:=j _ _ f';refine kz (fun I=>?_) (fun I=>?_)
  ·refine⟨_,rfl,r,?_,jo hi ⟨?_,?_,aa⟩⟩
   ·rw[ag];refine ao (bz (bo _ _) ?_);rw[aM];omega
   ·rw[bU U,if_pos I,av];rfl
   ·intro b o q;rw[am (ae q hf)];exact j _ _ (S _ _ q)
  ·refine jo hi ⟨?_,S.trans j,r⟩;rw[bU U,if_neg I,cM]
open Classical in
theorem jW{J3 a:Zb}{e:List ak}{r:Str}:r∈closF J3 e a↔r∈J3/\gS e a r:=by
 unfold closF;rw[bJ,decide_eq_true_iff]
def r_(K:Za):TS :=
 bt (eE (dF K) (aB (si K V0 "own_doors")))
def sK:List Str:=["self"]
def Aq:List Str:=["found","due"]



def yY(K:Za)(sp_law_same:Sp):TS :=
 aw (df (tB (GU V1)) (bt (GU V0)) (bQ))
 (aw (df (tB (eE (sy K) (aJ V1 (tC (.ty "bool"))))) (bt (o5 (eE (sy K) (aJ V0 (tC (.ty "bool")))) (aK Fv V0 V1))) (bQ))
 (aw (df (tB (eE (sy K) (aJ V1 (tC (.ty "str"))))) (bt (o5 (eE (sy K) (aJ V0 (tC (.ty "str")))) (aK (jQ K) V0 V1))) (bQ))
 (aw (df (tB (eE (sy K) (aJ V1 (tC (.ty "int"))))) (bt (o5 (eE (sy K) (aJ V0 (tC (.ty "int")))) (o5 (HX (eE (sy K) (aJ V0 (tC (.ty "bool"))))) (aK (jQ K) V0 V1)))) (bQ))
 (aw (df (su (tB (eE (sy K) (aJ V1 (tC (.ty "tuple"))))) (oQ (tB (eE (sy K) (aJ V0 (tC (.ty "tuple"))))))) (bt (tC (.bl false))) (bQ))
 (aw (df (su (tB (eE (sy K) (aJ V1 (tC (.ty "list"))))) (oQ (tB (eE (sy K) (aJ V0 (tC (.ty "list"))))))) (bt (tC (.bl false))) (bQ))
 (aw (df (bj (aK Ke (eE (fV K) (aB V0)) (eE (fV K) (aB V1)))) (bt (tC (.bl false))) (bQ))
 (bt (eE (Hk K) (ar (cv 2 [] (Il K (aJ V0 V1)) (i7 K 2 (bA U0 (bA U1 (ir)))) (ip) (aN sp_law_same (aJ V0 V1))) aY)))))))))




def GR(K:Za)(C_Machine:Addr)(sp_Machine_led_from:Sp)(sp_Machine_goals:Sp):TS :=
 bt (eE (Jv K) (ar (cv 1 [0,2] (bG K (aK mU (bF (aB V1)) (bR C_Machine "led_from" sp_Machine_led_from [] E0 V0 (aB V1)))) U0 (ip) (aK A8 (eE (fV K) (ar (bR C_Machine "goals" sp_Machine_goals [] E0 V1 (aJ V0 (bX (ar (tC (.str "ask")) (aB V2))))) aY)) (tC (.int 0)))) aY))
def HQ:List Str:=["I","room","ask"]
def u_(K:Za)(sp_law_put:Sp)(sp_law_take:Sp)(sp_law_still_on:Sp):TS :=
 aw (bf V1 (i7 K 4 (bA U2 (bA U3 (bA U4 (bA U5 (ir)))))))
 (aw (bf (eE (dF K) (aB V5)) U5)
 (aw (d6 (bG K V4) U6 (d6 (bG K V2) U7 (aw (bf (aN sp_law_still_on (aJ V5 (bF (aB V6)))) U8)
 (df (bj (aK (jQ K) (cv 1 [8,7] (bG K V5) U0 (su (bj (aK (jB K false) (aK (ij K) V0 (tC (.int 0))) V1)) (bj (aK (jQ K) (aK (ij K) V0 (tC (.int 1))) (bX (aJ (tC (.str "ask")) V2))))) V0) (bF (aY)))) (aw (bf (aK (dH K) (bF (ar V6 (ar (aK (dH K) V4 (aN sp_law_take (aJ V0 (eE (fV K) (aB V4))))) aY))) (aN sp_law_take (aJ V0 (tC (.int 2))))) U9)
 (c_ (aN sp_law_put (ar V5 (ar (bX (dQ V6 (bX (aJ (tC (.str "ask")) V7)) V9)) aY))))) (bQ)))))
 (bt (bX (ar V2 (dQ V3 V4 V5))))))
def vB:List Str:=["pen","told","asks","says","rooms","doors","room","ask","there","other"]
def ke(K:Za)(C_Machine:Addr)(sp_Machine_rooms:Sp)(sp_Machine_asks:Sp)(sp_takes:Sp):TS :=
 d6 (bG K (bR C_Machine "rooms" sp_Machine_rooms [] E0 V0 aY)) U1 (d6 (bG K (bR C_Machine "asks" sp_Machine_asks [] E0 V0 aY)) U2 (df (oQ (tB (aN sp_takes (dQ V0 V1 V2)))) (nU) (bQ)))
def kE:List Str:=["I","room","ask"]


def pf(C:Addr):Sp:=fun vs H Q _=>∃(x dx o4:Addr) (fs:List (Str×V)) (ts:Ze),vs=[.ref x]/\H x=some (.ins C dx fs)/\lk "own_doors" fs=some (.ref o4)/\H o4=some (.lst (ts.map V.ref))/\∀l,H l=none->Q (.ref l) (upd H l (.lst (ts.map V.ref)))
theorem Fn{K:Za}{C:Addr}(M:MC K C){a:List V}{H:Hp}{Q:VK}{E:XK}(h:pf C a H Q E):r_ K (bS Q) (start sK a) H:=by
 obtain⟨x,f,e,fs,l,rfl,g,i,j,k⟩:=h;exact⟨_,rfl,x,C,f,fs,.ref e,rfl,g,M.cls,M.a4,i,.inl ⟨e,_,rfl,.inl (au.of j),k⟩⟩
structure BI(J0 J2 J3:Zb)(ds:List ak):Prop where
 okA:eX J0
 okS:eX J2
 apart:∀w∈J2,w∉J0
 okR:eX J3
 asks0:J0≠[]
 says0:J2≠[]
 rooms0:J3≠[]
 asks4:J0.length<=4
 says4:J2.length<=4
 rooms26:J3.length<=150
 nodup:ds.Nodup
 good:∀d∈ds,rX J0 J2 J3 d
 few:ds.length<=2000
theorem BI.sg0{a f g:Zb}{ds:List ak}(m:BI a f g ds){r:Str}:∀d∈az ds r,d.sg≠[]:=by
 intro d h;have:=m.good d (bJ.mp h).1;rcases this.sg with⟨w,_,e⟩|⟨w,_,e⟩|e<;>rw[e]<;>exact List.cons_ne_nil _ _
theorem Reach.mono{f ds':List ak}(h:∀a b,(⟨a,ay,b⟩:ak)∈f->(⟨a,ay,b⟩:ak)∈ds'){a b:Str}(r:Reach f a b):Reach ds' a b:=by
 induction r with
 |one e=>exact .one (h _ _ e)
 |step _ e g=>exact .step g (h _ _ e)
theorem Reach.front{f:List ak}{a b:Str}(r:Reach f a b):∃g,(⟨a,ay,g⟩:ak)∈f/\(b=g∨Reach f g b):=by
 induction r with
 |one e=>exact⟨_,e,.inl rfl⟩
 |step _ e h =>
  obtain⟨g,i,z⟩:=h;refine⟨g,i,.inr ?_⟩;rcases z with z|z
  ·subst z;exact .one e
  ·exact .step z e
theorem aq.w{J0 a e:Zb}{f:List ak}(m:aq J0 a e f):BI J0 a e f :=
 ⟨m.okA,m.okS,m.apart,m.okR,m.asks0,m.says0,m.rooms0,m.asks4,m.says4,m.rooms26,m.nodup,m.good,by have:=m.few;omega⟩
theorem Dz{a:List ak}{r:Str}:cY a r=decide ((az a r).filter (fun d=>!dP d)=[]):=by
 unfold cY;generalize az a r=f;by_cases h:f.filter (fun d=>!dP d)=[]
 ·rw[zzr1 h,qr];intro d e;have:=List.filter_eq_nil_iff.mp h d e;cases q:dP d with
  |true=>rfl
  |false=>rw[q]at this;exact absurd rfl this
 ·rw[zzr0 h,k_];intro z;refine h (List.filter_eq_nil_iff.mpr fun d e=>?_);rw[qr.mp z d e]
  decide
def dY(ds:List ak)(r a:Str):Prop:=∃h,(h=r∨Reach ds r h)/\∃b,(⟨h,bm a,b⟩:ak)∈ds
open Classical in
def takesB(ds:List ak)(r a:Str):Bool:=decide (dY ds r a)
theorem lC{ds:List ak}{r a:Str}:takesB ds r a=true↔dY ds r a:=by unfold takesB;exact @decide_eq_true_iff _ (Classical.propDecidable _)
theorem xi{ds:List ak}{r a:Str}:takesB ds r a=false↔¬dY ds r a:=by unfold takesB;exact @decide_eq_false_iff_not _ (Classical.propDecidable _)
theorem rQ{e:List ak}{h:Str}{f:Zb}:0<(a_ e (h,f)).length↔∃b,(⟨h,f,b⟩:ak)∈e:=by
 rw[List.length_pos_iff_exists_mem];constructor
 ·rintro⟨b,a⟩;exact⟨b,cG.mp a⟩
 ·rintro⟨b,a⟩;exact⟨b,cG.mpr a⟩
theorem C4{ds:List ak}{r a:Str}{L:Zb}(i:∀w,w∈L↔Reach ds r w):((r::L).map fun h=>decide ((0:Int)<(a_ ds (h,bm a)).length)).any id=takesB ds r a:=by
 rw[k7,lC,wv];constructor
 ·rintro⟨b,f,e⟩;obtain⟨h,g,rfl⟩:=aA.mp f;have:=of_decide_eq_true e;refine⟨h,?_,rQ.mp (by omega)⟩;rcases c8.mp g with e|e
  ·exact .inl e
  ·exact .inr ((i h).mp e)
 ·rintro⟨h,g,f⟩;refine⟨true,aA.mpr ⟨h,?_,zzr1 (by have:=rQ.mpr f;omega)⟩,rfl⟩;rcases g with e|e
  ·rw[e];exact dS
  ·exact fX _ ((i h).mpr e)
inductive sp_takes(C:Addr)(vs:List V)(H:Hp)(Q:VK)(E:XK):Prop
 |mk (x:Addr) (r a:Str) (J0 J2 J3:Zb) (ds:List ak):(vs=[.ref x,.str r,.str a])->(aX C H x J0 J2 J3 ds)->(r∈J3)->(∀H',ab H H'->Q (.bl (takesB ds r a)) H')->sp_takes C vs H Q E
theorem Fe{K:Za}{C:Addr}{f:List V}{H:Hp}{Q:VK}{E:XK}(h:sp_takes C f H Q E):GR K C (h_ C) (fM C) (bS Q) (start HQ f) H:=by
 obtain⟨x,r,a,J0,J2,t,p,rfl,M,hr,k⟩:=h;refine⟨_,rfl,(by show 1<=aj;decide),fun l u=>?_⟩;have v:ab H (upd H l (.lst [.str r])):=ab.new u;have e1:upd H l (.lst [.str r]) l=some (.lst [.str r]):=aa;generalize upd H l (.lst [.str r])=H1 at v e1 ⊢;have M1:=M.same v;obtain⟨z,fs,o1,o2,o3,o4,lv,qu,A,sl,ts,B,D,G,I,a1,a2,a3,a4,_⟩:=id M1.at_;refine⟨_,rfl,x,z,fs,rfl,I,a3,_,rfl,x,r,J0,J2,t,p,rfl,M1,hr,fun l2 L J e2 nd hL _ S2=>?_⟩;have N:∀w∈L,w∈t:=fun w O=>((hL w).mp O).in_ fun d hd=>(M.ok.good d hd).b;have zL:=lV nd N;have z3:=M.ok.rooms26;refine⟨l,l2,_,_,rfl,rfl,S2 _ _ e1,e2,by rw[ag];show 1+L.length<=aj;exact cV (ao (by omega)),fun m T=>?_⟩;have eq:([.str r]++L.map V.str:List V)=(r::L).map V.str:=rfl;rw[eq];have U:ab H (upd J m (.lst ((r::L).map V.str))):=(v.trans S2).trans (ab.new T);have Y:upd J m (.lst ((r::L).map V.str)) m=some (.lst ((r::L).map V.str)):=aa;generalize upd J m (.lst ((r::L).map V.str))=H3 at U Y ⊢;refine⟨m,rfl,⟨_,au.of Y⟩,fun q hq=>?_⟩
 let al:Nat->List V->Hp->Prop:=fun i f j=>f=(((r::L).take i).map fun h=>decide ((0:Int)<(a_ p (h,bm a)).length)).map V.bl/\ab H3 j/\j q=some (.lst f)
 refine bD (xs:=(r::L).map V.str) al ⟨rfl,ab.new hq,aa⟩ (fun i f j _ zq=>by obtain⟨_,S,h⟩:=zq;exact⟨h,au.of (S _ _ Y)⟩) ?_ ?_
 ·rintro f j ⟨rfl,S,h⟩;rw[ag,bg]at h;refine⟨q,_,rfl,au.of h,?_⟩;rw[C4 hL];exact k j (U.trans S)
 ·rintro i f j y hy hi ⟨rfl,S,h⟩;obtain⟨w,O,rfl⟩:=aZ hy;refine gN (nM ?_);have M':=M.same (U.trans S);obtain⟨z,fs,o1,o2,o3,o4,lv,qu,A,sl,ts,B,D,G,I,a1,a2,a3,a4,_⟩:=id M'.at_;refine⟨_,rfl,x,z,fs,rfl,I,a2,_,rfl,_,rfl,(by show 2<=aj;decide),fun s hs=>?_⟩;have S4:ab j (upd j s (.tup ((bm a).map V.str))):=ab.new hs;refine⟨x,s,w,bm a,J0,J2,t,p,rfl,M'.same S4,aa,fun g H5 hg _ S5=>?_⟩;have n:=S4.trans S5;refine .inl ⟨g,_,rfl,.inl (au.of hg),_,_,rfl,rfl,n _ _ h,?_,?_⟩
  ·rw[ag,ag,aM];exact ao (by rw[eO];omega)
  refine jo hi ⟨?_,fun b o e=>?_,aa⟩
  ·rw[take_snoc O,av,av];show _++[V.bl (decide ((0:Int)<(((a_ p (w,bm a)).map V.str).length:Nat)))]=_;rw[ag];rfl
  ·rw[am (ae e hq)];exact n _ _ (S _ _ e)
def Aj(F:Zb)(a:Str)(d:ak):Bool:=decide (d.a∈F) && decide (d.sg=bm a)
theorem Ai{f:List ak}{F:Zb}{r a:Str}(i:∀w,w∈F↔gS f [r] w):f.filter (Aj F a)=[]↔takesB f r a=false:=by
 rw[xi,List.filter_eq_nil_iff];constructor
 ·rintro h ⟨w,j,b,k⟩;refine h _ k ?_;unfold Aj;rw[zzr1,zzr1]
  ·rfl
  ·rfl
  ·exact(i w).mpr ⟨r,dS,j⟩
 ·intro n d hd q;unfold Aj at q;rw[ka]at q;have l:=of_decide_eq_true q.1;have m:=of_decide_eq_true q.2;obtain⟨g,o,e⟩:=(i _).mp l;have:g=r:=by simpa using o
  subst this;obtain⟨x,p,b⟩:=d;exact n ⟨x,e,b,by rw[<-m];exact hd⟩
theorem Gu{K:Za}{σ:L2.St}{jt ja:Nat}{J f l:Addr}{C:Ze}{r:List ak}{F:Zb}{a:Str}{m:Hp}{Q:Hp->Prop}(st:σ[jt]?=some (some (.ref f)))(O:σ[ja]?=some (some (.str a)))
  (T:m J=some (.lst (C.map V.ref))) (hd:cA m C r) (hf:m f=some (.lst (F.map V.str))) (z:r.length<=1000) (L:m l=none)
  (k:∀(g:Ze) (e:Hp),e l=some (.lst (g.map V.ref))->cA e g (r.filter (Aj F a))->ab m e->Q e) :
  cW 1 [jt,ja] σ (CQ K J) U0 (su (bj (aK (jB K false) (aK (ij K) V0 (tC (.int 0))) V1)) (bj (aK (jQ K) (aK (ij K) V0 (tC (.int 1))) (bX (aJ (tC (.str "ask")) V2))))) V0 m l Q:=by
 have U:cH 1 [jt,ja] σ=[none,some (.ref f),some (.str a)]:=by simp[cH,st,O]
 let E:Nat->List V->Hp->Prop:=fun i t e=>∃g:List Addr,t=g.map V.ref/\cA e g ((r.take i).filter (Aj F a))/\ab m e/\e l=some (.lst t)
 refine bD (xs:=C.map V.ref) E
  ⟨[],rfl,.nil,ab.new L,aa⟩ (fun i t e _ Y=>by obtain⟨_,_,_,S,n⟩:=Y;exact⟨n,au.of (S _ _ T)⟩) ?_ ?_
 ·rintro t e ⟨g,rfl,D,S,n⟩;rw[ag,Paired.length hd,bg]at D;exact k g e n D S
 ·rintro i t e y hy hi ⟨g,rfl,D,S,n⟩;obtain⟨u,hu,rfl⟩:=cD hy;obtain⟨x,j,G⟩:=Paired.getL hd hu;obtain⟨sb,p,v⟩:=G.kt (ab.kt S);have al:i<r.length:=(bN.mp j).1;have zu:g.length<=i:=by
   have:=Paired.length D;rw[this];refine bz (bo _ _) ?_;rw[aM];omega
  rw[U];refine gN ?_;refine⟨_,rfl,.inr (.inl ⟨u,_,0,_,rfl,rfl,br.of p,rfl,_,rfl,cB x.a,F.map cB,f,_,l6 _,rfl,.inl (au.of (S _ _ hf)),gk _,(by show 0<=8;decide),by rw[dD];decide,_,rfl,?_⟩)⟩;rw[if_neg gw,s_];by_cases A:x.a∈F;rotate_left
  ·rw[zzr0 A];refine bv (bv (jo hi ⟨g,rfl,?_,S,n⟩));rw[c6 j,if_neg (by unfold Aj;rw[zzr0 A,BT];decide),cM];exact D
  rw[zzr1 A];refine cr ?_;refine⟨_,rfl,.inr (.inl ⟨u,_,1,_,rfl,rfl,br.of p,rfl,_,rfl,(by show 2<=aj;decide),fun s hs=>?_⟩)⟩;have h:ab e (upd e s (.tup ((bm a).map V.str))):=ab.new hs;have M:upd e s (.tup ((bm a).map V.str)) s=some (.tup ((bm a).map V.str)):=aa;have H:(.tup [.str "ask",.str a]:HO)=.tup ((bm a).map V.str):=rfl;rw[H];generalize upd e s (.tup ((bm a).map V.str))=I at h M ⊢;have N:=D.kt (ab.kt h);refine⟨jF x.sg,jF (bm a),bw (br.of (h _ _ v)),bw (br.of M),by rw[bZ];decide,by rw[bZ];decide,_,rfl,?_⟩;rw[hE];by_cases B:x.sg=bm a;rotate_left
  ·rw[zzr0 B];refine bv (jo hi ⟨g,rfl,?_,S.trans h,h _ _ n⟩);rw[c6 j,if_neg (by unfold Aj;rw[zzr0 B,w8];decide),cM];exact N
  rw[zzr1 B];refine cr ?_;have S3:ab m (upd I l (.lst (g.map V.ref++[.ref u]))):=fun b o q=>by
   rw[am (ae q L)];exact h _ _ (S _ _ q)
  have kt:j7 I (upd I l (.lst (g.map V.ref++[.ref u]))):=fun b xs q=>by
   rw[am (fun z=>by rw[z,h _ _ n]at q;cases q)];exact q
  refine⟨_,rfl,h _ _ n,by rw[ag];exact ao (by omega),jo hi ⟨g++[u],by rw[av];rfl,?_,S3,aa⟩⟩;rw[c6 j,if_pos (by unfold Aj;rw[zzr1 A,zzr1 B];rfl)];exact fF (N.kt kt) ⟨sb,kt _ _ (h _ _ p),kt _ _ (h _ _ v)⟩
theorem Gb{K:Za}{H:Hp}{l q:Addr}{e:Ze}{a:List ak}{Q:VK}(f:H l=some (.lst (e.map V.ref)))(g:cA H e a)(i:H q=some (.lst []))(h:Q (.bl (decide (a=[]))) H):jQ K (.ref l) (.ref q) H Q:=by
 refine⟨.s (a.map sB),.s [],(by unfold gV;exact⟨l,_,rfl,au.of f,g.dIns⟩),(by unfold gV;exact⟨q,_,rfl,au.of i,by unfold DIns;rfl⟩),?_,(by decide),?_⟩
 ·show DT.depths _+1<=8;have:=kB a;omega
 ·rw[decide_eq_decide.mpr (show DT.s (a.map sB)=DT.s []↔a=[]from⟨fun z=>List.map_eq_nil_iff.mp (by injection z),fun z=>by rw[z];rfl⟩)];exact h
theorem Reach.unask{ds:List ak}{d:ak}(n:d.sg≠ay){a b:Str}(r:Reach (ds++[d]) a b):Reach ds a b:=by
 have f:∀{x y:Str},(⟨x,ay,y⟩:ak)∈ds++[d]->(⟨x,ay,y⟩:ak)∈ds:=fun q=>by
  rcases bx.mp q with q|q
  ·exact q
  ·have e:=cX.mp q;exact absurd (by rw[<-e]) n
 induction r with
 |one q=>exact .one (f q)
 |step _ q g=>exact .step g (f q)
theorem dY.mono{ds e:List ak}(h:∀d∈ds,d∈e){r a:Str}:dY ds r a->dY e r a:=fun⟨w,f,b,g⟩=>⟨w,f.imp id (Reach.mono fun x y=>h _),b,h _ g⟩
theorem mem_putD{a:List ak}{d x:ak}:x∈pF a d↔x∈a∨x=d:=by
 unfold pF;split
 ·rename_i h;exact⟨.inl,fun z=>z.elim id fun e=>by rw[e];exact h⟩
 ·simp
theorem aq.putOne{i j k:Zb}{f:List ak}{d:ak}(m:aq i j k f)(g:rX i j k d)(n:d.sg≠ay)(z:f.length+1<=1000):aq i j k (pF f d):=by
 refine⟨m.okA,m.okS,m.apart,m.okR,m.asks0,m.says0,m.rooms0,m.asks4,m.says4,m.rooms26,?_,fun x hx=>?_,?_,fun r q=>?_⟩
 ·unfold pF;split
  ·exact m.nodup
  ·rename_i h;rw[dq];exact⟨m.nodup,by simp,fun a l b o e=>h (by rw[<-cX.1 o,<-e];exact l)⟩
 ·rcases mem_putD.mp hx with h|h
  ·exact m.good x h
  ·rw[h];exact g
 ·have:=zF f d;omega
 ·refine m.noround r ?_;unfold pF at q;split at q
  ·exact q
  ·exact q.unask n
theorem Ei(a:Str):bm a≠ay:=by unfold bm ay;intro h;injection h with _ h;cases h
structure TX(H0:Hp)(p c l:Addr)(R:List ak->Prop)(H:Hp):Prop where
 pen:ii H p c
 ds:∃ts ds,H l=some (.lst (ts.map V.ref))/\cA H ts ds/\R ds
 ex:eI p H0 H
 fr:H0 l=none
 pl:p≠l
 cl:c≠l
section
variable{H0 H H':Hp}{p c l:Addr}{R R':List ak->Prop}
theorem TX.took(h:TX H0 p c l R H)(a:ii H' p c)(e:eI p H H'):TX H0 p c l R H':=by
 obtain⟨f,g,i,j,k⟩:=h.ds;obtain⟨m,hx⟩:=h.pen.lst;exact⟨a,⟨f,g,e _ _ i h.pl.symm,j.kt (e.kt hx),k⟩,h.ex.trans e,h.fr,h.pl,h.cl⟩
theorem TX.same(h:TX H0 p c l R H)(S:ab H H'):TX H0 p c l R H':=h.took (h.pen.ex S) (ab.exB S)
theorem TX.imp(h:TX H0 p c l R H)(q:∀a,R a->R' a):TX H0 p c l R' H:=by
 obtain⟨e,a,f,g,i⟩:=h.ds;exact⟨h.pen,⟨e,a,f,g,q _ i⟩,h.ex,h.fr,h.pl,h.cl⟩
theorem TX.put{a:Ze}{e:List ak}(h:TX H0 p c l R H)(g:∃f,H l=some (.lst f))(i:cA H a e)(r:R' e):TX H0 p c l R' (upd H l (.lst (a.map V.ref))):=by
 obtain⟨f,hx⟩:=g;refine⟨h.pen.upd h.pl h.cl,⟨a,e,aa,i.kt fun b j q=>?_,r⟩,fun b o q n=>?_,h.fr,h.pl,h.cl⟩
 ·rw[am (fun z=>by rw[z,hx]at q;cases q)];exact q
 ·rw[am (ae q h.fr)];exact h.ex _ _ q n
end
def WR(J0 J2 J3:Zb)(D:List (Str×Str))(n:Nat)(ds:List ak):Prop:=aq J0 J2 J3 ds/\ds.length<=n/\∀x∈D,dY ds x.1 x.2
theorem WR.up{J0 a e:Zb}{D:List (Str×Str)}{n f:Nat}{g:List ak}(h:WR J0 a e D n g)(z:n<=f):WR J0 a e D f g:=⟨h.1,bz h.2.1 z,h.2.2⟩
inductive kg (vs:List V)(H:Hp)(Q:VK)(E:XK):Prop
 |mk (p c t l1 l2 l3 l4:Addr) (ts:Ze) (J0 J2 J3:Zb) (ds:List ak):(vs=[.ref p,.ref t])->(ii H p c)->(iw H t l1 l2 l3 l4 ts J0 J2 J3 ds)->(aq J0 J2 J3 ds)->(J3.length<=26)->(ds.length<=800)->(∀(t' l4':Addr) (ts':Ze) (ds':List ak) (H':Hp),iw H' t' l1 l2 l3 l4' ts' J0 J2 J3 ds'->aq J0 J2 J3 ds'->(∀r∈J3,∀a∈J0,dY ds' r a)->ds'.length<=ds.length+4 * J3.length->ii H' p c->eI p H H'->Q (.ref t') H')->kg  vs H Q E
theorem AV{K:Za}{vs:List V}{H:Hp}{Q:VK}{E:XK}(h:kg vs H Q E):u_ K qQ f8 (h9 K) (bS Q) (start vB vs) H:=by
 obtain⟨p,c,t,l1,l2,O,l4,ts,J0,U,C,ds,rfl,hp,T,m,b7,z8,k⟩:=h;have a4:=m.asks4;refine⟨_,rfl,t,_,rfl,br.of T.t,rfl,_,_,rfl,_,_,rfl,_,_,rfl,_,_,rfl,rfl,?_⟩;refine⟨_,rfl,.inl ⟨l4,_,rfl,.inl (au.of T.a4),fun f hf=>?_⟩⟩;have B0:TX H p c f (WR J0 U C [] ds.length) (upd H f (.lst (ts.map V.ref))):=⟨hp.ex (ab.new hf),⟨ts,ds,aa,T.ds.kt (ab.kt (ab.new hf)),m,aP _,by simp⟩,eI.new hf,hf,hp.nep hf,hp.nec hf⟩;generalize upd H f (.lst (ts.map V.ref))=H1 at B0 ⊢;have A:∀{I:Hp}{R:List ak->Prop},TX H p c f R I->I l1=some (.lst (J0.map V.str))/\I l2=some (.lst (U.map V.str))/\I O=some (.lst (C.map V.str)):=fun B =>
  ⟨B.ex _ _ T.a1 (hp.ne_strs T.a1),B.ex _ _ T.a2 (hp.ne_strs T.a2),B.ex _ _ T.a3 (hp.ne_strs T.a3)⟩
 refine⟨_,rfl,O,rfl,⟨_,au.of (A B0).2.2⟩,?_⟩
 let bb:Nat->L2.St->Hp->Prop:=fun i σ I=>Jj fun(a6 Y a8 a9:Option V)=>σ=[some (.ref p),some (.ref t),some (.ref l1),some (.ref l2),some (.ref O),some (.ref f),a6,Y,a8,a9]/\TX H p c f (WR J0 U C ((C.take i).flatMap fun r=>J0.map fun a=>(r,a)) (ds.length+4 * i)) I
 refine bO (xs:=C.map V.str) bb
  ⟨_,_,_,_,rfl,B0⟩ (fun i σ I _ zq=>by obtain⟨_,_,_,_,_,B⟩:=zq;exact au.of (A B).2.2) ?_ ?_
 ·rintro i v σ H2 hi ⟨a6,Y,a8,a9,rfl,L⟩;obtain⟨r,hr,rfl⟩:=aZ hi;have b8:i<C.length:=(bN.mp hr).1;have al:=bW hr;refine⟨_,rfl,l1,rfl,⟨_,au.of (A L).1⟩,?_⟩
  let bi:Nat->L2.St->Hp->Prop:=fun j σ I=>HR fun(Y a8 a9:Option V)=>σ=[some (.ref p),some (.ref t),some (.ref l1),some (.ref l2),some (.ref O),some (.ref f),some (.str r),Y,a8,a9]/\TX H p c f (WR J0 U C ((C.take i).flatMap (fun r=>J0.map fun a=>(r,a))++(J0.take j).map fun a=>(r,a)) (ds.length+4 * i+j)) I
  refine bO (xs:=J0.map V.str) bi
   ⟨_,_,_,rfl,L.imp fun ds h=>by simpa using h⟩ (fun i σ I _ zq=>by obtain⟨_,_,_,_,B⟩:=zq;exact au.of (A B).1) ?_ ?_
  ·rintro j v σ H3 hj ⟨Y,a8,a9,rfl,B3⟩;obtain⟨a,ha,rfl⟩:=aZ hj;have ca:j<J0.length:=(bN.mp ha).1;have bl:=bW ha;have an:∀D n,WR J0 U C ((C.take i).flatMap (fun r=>J0.map fun a=>(r,a))++(J0.take j).map fun a=>(r,a)) n D->dY D r a->WR J0 U C ((C.take i).flatMap (fun r=>J0.map fun a=>(r,a))++(J0.take (j+1)).map fun a=>(r,a)) n D:=fun D n w tk=>by
    refine⟨w.1,w.2.1,fun x hx=>?_⟩;rw[take_snoc ha,av,<-dZ]at hx;rcases bx.mp hx with h|h
    ·exact w.2.2 x h
    ·have:x=(r,a):=by simpa using h
     rw[this];exact tk
   refine⟨_,rfl,_,rfl,(by show 1<=aj;decide),fun q hq=>?_⟩;have B4:=B3.same (ab.new (o:=.lst [.str r]) hq);have q4:upd H3 q (.lst [.str r]) q=some (.lst [.str r]):=aa;generalize upd H3 q (.lst [.str r])=H4 at B4 q4 ⊢;obtain⟨us,D,g1,g2,G⟩:=B4.ds;refine⟨f,q,us,D,[r],C,rfl,g1,g2,q4,fun d hd=>(G.1.good d hd).b,by omega,(by show 1<=1000;decide),fun th F H5 bn hF _ _ S5=>?_⟩;have B5:=B4.same S5;have f5:=S5 _ _ g1;have d5:=g2.kt (ab.kt S5);refine⟨_,rfl,f,rfl,⟨_,au.of f5⟩,fun l hl=>?_⟩;refine Gu (K:=K) (jt:=8) (ja:=7) rfl rfl f5 d5 bn G.1.few hl fun vs H6 h6 D6 S6=>⟨(by show 0<=aj;decide),fun e he=>?_⟩;refine Gb (kp h6 he) (D6.kt (ab.kt (ab.new he))) aa ⟨_,rfl,?_⟩;have S7:ab H5 (upd H6 e (.lst [])):=S6.trans (ab.new he);generalize upd H6 e (.lst [])=H7 at S7 ⊢;have f7:=S7 _ _ f5;have d7:=d5.kt (ab.kt S7);have B7:TX H p c f (fun ap=>ap=D) H7:=by
    have B:=B5.same S7;exact⟨B.pen,⟨us,D,f7,d7,rfl⟩,B.ex,B.fr,B.pl,B.cl⟩
   cases q:takesB D r a with
   |true =>
    rw[zzr0 (fun z=>by rw[Ai hF,q]at z;cases z)];exact bv ⟨_,_,_,rfl,B7.imp fun ap e=>by rw[e];exact an _ _ (G.up (by omega)) (lC.mp q)⟩
   |false =>
    rw[zzr1 ((Ai hF).mpr q)];refine cr ?_;have bp:=(A B7).2.2;refine⟨_,rfl,_,rfl,_,rfl,_,rfl,.inl ⟨O,_,rfl,.inl (au.of bp),?_⟩⟩;rw[ag];refine ff B7.pen (by omega) (by omega) fun x H8 x0 x1 b0 b1=>?_;obtain⟨n,rfl⟩:=j9 x0;have B8:=B7.took b0 b1;obtain⟨w,hw⟩:∃w,C[n]?=some w:=⟨_,ik (by omega)⟩;refine⟨O,_,(n:Int),.str w,rfl,rfl,au.of (A B8).2.2,cp (j:=n) (by rw[du,hw];rfl),(by show 2<=aj;decide),fun u hu=>?_⟩;have B9:=B8.same (ab.new (o:=.lst [.str r,.str w]) hu);have u9:upd H8 u (.lst [.str r,.str w]) u=some (.lst ([r,w].map V.str)):=aa;generalize upd H8 u (.lst [.str r,.str w])=H9 at B9 u9 ⊢;refine⟨_,rfl,ff B9.pen (by decide) (by decide) fun y J y0 y1 as M=>?_⟩;have b2:=B9.took as M;obtain⟨g,hg,b3⟩:∃g,yM ([r,w].map V.str) y=some (.str g)/\g∈C:=by
     have:y=0∨y=1:=by omega
     rcases this with rfl|rfl
     ·exact⟨r,rfl,al⟩
     ·exact⟨w,rfl,bW hw⟩
    refine⟨u,_,y,.str g,rfl,rfl,au.of (M _ _ u9 (B9.pen.ne_strs u9)),hg,?_⟩;refine⟨_,rfl,_,rfl,_,rfl,(by show 2<=aj;decide),fun s hs=>⟨_,rfl,(by show 3<=aj;decide),fun d hd=>?_⟩⟩;have aC:ab J (upd (upd J s (.tup [.str "ask",.str a])) d (.tup [.str r,.ref s,.str g])):=(ab.new hs).trans (ab.new hd);have N:gU (upd (upd J s (.tup [.str "ask",.str a])) d (.tup [.str r,.ref s,.str g])) d ⟨r,bm a,g⟩:=⟨s,aa,kp aa hd⟩;generalize upd (upd J s (.tup [.str "ask",.str a])) d (.tup [.str r,.ref s,.str g])=cc at aC N ⊢;have a0:=b2.same aC;obtain⟨b4,b5,k1,k2,rfl⟩:=id a0.ds;have zz:=G.2.1;have a5:rX J0 U C ⟨r,bm a,g⟩:=⟨al,b3,.inl ⟨a,bl,rfl⟩⟩;refine⟨f,d,b4,_,⟨r,bm a,g⟩,rfl,k1,k2,N,G.1.few,fun cd D2=>?_⟩;refine⟨_,_,_,rfl,a0.put ⟨_,k1⟩ D2 (an _ _ ⟨G.1.putOne a5 (Ei a) (by omega),?_,fun x hx=>(G.2.2 x hx).mono fun y hy=>mem_putD.mpr (.inl hy)⟩ ⟨r,.inl rfl,g,mem_putD.mpr (.inr rfl)⟩)⟩;have:=zF b5 ⟨r,bm a,g⟩;omega
  ·rintro σ H3 ⟨Y,a8,a9,rfl,B3⟩;refine⟨_,_,_,_,rfl,B3.imp fun D h=>?_⟩;rw[ag]at h;refine⟨h.1,by have:=h.2.1;omega,fun x hx=>h.2.2 x ?_⟩;rw[take_snoc hr,nA]at hx;rw[bg];simpa using hx
 ·rintro σ H2 ⟨a6,Y,a8,a9,rfl,L⟩;rw[ag,bg]at L;obtain⟨us,D,g1,g2,G⟩:=L.ds;obtain⟨q1,q2,q3⟩:=A L;refine⟨_,rfl,_,rfl,_,rfl,_,rfl,(by show 4<=aj;decide),fun t' b6=>?_⟩;have S3:=ab.new (o:=.tup [.ref l1,.ref l2,.ref O,.ref f]) b6;exact k t' f us D _ ⟨aa,S3 _ _ q1,S3 _ _ q2,S3 _ _ q3,S3 _ _ g1,g2.kt (ab.kt S3)⟩ G.1 (fun r hr a ha=>G.2.2 (r,a) (fE.mpr ⟨r,hr,aA.mpr ⟨a,ha,rfl⟩⟩)) G.2.1 (L.pen.ex S3) (L.ex.trans (ab.exB S3))
abbrev Sg:=List Str
structure FMs where
 fs:List (List Str)
 ss:List (List Sg)
abbrev FMst:=FMs×List (List (Sg×Nat))
theorem vW{α:Type}[DecidableEq α]:∀{L R:List α},L.Nodup->(∀y∈L,y∈R)->L.length<=R.length
 |[],_,_,_=>c7 _
 |x::L,R,h,a=>by
  rw[k5]at h;have hx:x∈R:=a x dS;have g:∀y∈L,y∈R.erase x:=fun y f=>(List.mem_erase_of_ne (fun e=>h.1 (by rw[<-e];exact f))).2 (a y (fX _ f));have i:=vW h.2 g;rw[List.length_erase_of_mem hx]at i;have j:0<R.length:=List.length_pos_of_mem hx;rw[eO];omega
theorem GO{κ:Type}[DecidableEq κ]{a:List (κ×V)}{k:κ}(h:∀e∈a,e.1≠k):de a k=none:=by
 unfold de;rw[List.find?_eq_none.2 fun e f=>by simpa using h e f]
 rfl
theorem qY(e:Zb):(nc e).depth<=8:=by
 have:∀l:List Str,TK.depths (l.map qR)=0:=by
  intro l
  induction l with
  |nil=>rfl
  |cons a l f=>show max (TK.depth (qR a)) (TK.depths _)=0;rw[f];rfl
 show TK.depths (e.map qR)+1<=8;rw[this];decide
theorem eC.kt{K:Za}{H e:Hp}{a:Addr}{f:List V}(k:j7 H e)(h:eC K H a f):eC K e a f:=h.keeps k
theorem B6{K:Za}{H:Hp}:∀a:List Str,TKIns K H (a.map qR) (a.map V.str)
 |[]=>by show TKIns K H [] [];unfold TKIns;rfl
 |x::a=>by
  rw[cg,cg];unfold TKIns;refine⟨_,_,rfl,?_,B6 a⟩;unfold qR om
  rfl
theorem eC.sq{K:Za}{H:Hp}{a:Addr}{e:List V}(h:eC K H a e):br K H a e:=h.imp .inl id
theorem B_{K:Za}{H:Hp}{a:Addr}{f:Zb}(h:eC K H a (f.map V.str)):om K H (nc f) (.ref a):=by
 unfold nc om;exact⟨a,_,rfl,eC.sq h,B6 f⟩
def Al(ds:List ak)(f:Zb):Prop:=∀d∈ds,d.sg=ay->d.a∈f->d.b∈f
theorem vS{h j:Zb}{e:List ak}(k:∀d∈e,d.b∈h):Al e (closF h e j):=by
 classical
 intro d i f g;unfold closF at g ⊢;rw[bJ]at g ⊢;obtain⟨a,l,b⟩:=d;have f:l=ay:=f;subst f;exact⟨k _ i,zzr1 (gS.step (of_decide_eq_true g.2) i)⟩
inductive iC(C:Addr)(vs:List V)(H:Hp)(Q:VK)(E:XK):Prop
 |mk (x:Addr) (J0 J2 J3:Zb) (ds:List ak):(vs=[.ref x])->(aX C H x J0 J2 J3 ds)->((∀r∈J3,∀a∈J0,dY ds r a))->(∀H',ab H H'->Q .non H')->iC C vs H Q E
theorem xJ{K:Za}{C:Addr}{N:List V}{H:Hp}{Q:VK}{E:XK}(h:iC C N H Q E):ke K C (f_ C) (iD C) (sp_takes C) (bS Q) (start kE N) H:=by
 obtain⟨x,e,s,f,t,rfl,M,tk,k⟩:=h;obtain⟨u,fs,o1,o2,o3,o4,lv,qu,U,sl,ts,Y,al,an,A,a1,a2,a3,a4,_⟩:=id M.at_;refine⟨_,rfl,x,u,fs,rfl,A,a4,x,e,s,f,t,rfl,M,fun g h1=>?_⟩;have o:ab H (upd H g (.lst (f.map V.str))):=ab.new h1;have B:upd H g (.lst (f.map V.str)) g=some (.lst (f.map V.str)):=aa;generalize upd H g (.lst (f.map V.str))=O at o B ⊢;refine⟨g,rfl,⟨_,au.of B⟩,?_⟩
 let D:Nat->L2.St->Hp->Prop:=fun i σ l=>∃y z,σ=[some (.ref x),y,z]/\ab O l
 refine bO (xs:=f.map V.str) D ⟨_,_,rfl,ab.refl _⟩ (fun i σ l _ G=>by obtain⟨_,_,_,S⟩:=G;exact au.of (S _ _ B)) ?_ ?_
 ·rintro i v σ m hi ⟨y,z,rfl,p⟩;obtain⟨r,T,rfl⟩:=aZ hi;have M2:=M.same (o.trans p);obtain⟨u,fs,A,a1,_⟩:=id M2.more;refine⟨_,rfl,x,u,fs,rfl,A,a1,x,e,s,f,t,rfl,M2,fun n h2=>?_⟩;have I:ab O (upd m n (.lst (e.map V.str))):=p.trans (ab.new h2);have J:upd m n (.lst (e.map V.str)) n=some (.lst (e.map V.str)):=aa;generalize upd m n (.lst (e.map V.str))=H3 at I J ⊢;refine⟨n,rfl,⟨_,au.of J⟩,?_⟩
  let L:Nat->L2.St->Hp->Prop:=fun j σ l=>∃z,σ=[some (.ref x),some (.str r),z]/\ab H3 l
  refine bO (xs:=e.map V.str) L ⟨_,rfl,ab.refl _⟩ (fun i σ l _ G=>by obtain⟨_,_,S⟩:=G;exact au.of (S _ _ J)) ?_ ?_
  ·rintro j v σ H4 hj ⟨z,rfl,q⟩;obtain⟨a,ha,rfl⟩:=aZ hj;refine⟨_,rfl,_,rfl,_,rfl,x,r,a,e,s,f,t,rfl,M.same ((o.trans I).trans q),bW T,fun H5 S5=>⟨_,rfl,?_⟩⟩;rw[lC.2 (tk r (bW T) a (bW ha))];exact bv ⟨_,rfl,q.trans S5⟩
  ·rintro σ H4 ⟨z,rfl,q⟩;exact⟨_,_,rfl,I.trans q⟩
 ·rintro σ m ⟨y,z,rfl,p⟩;exact k m (o.trans p)
abbrev FPr:=List Str×List Str
open Builtin.Int (intBits)
def qD(K:Za):TS :=
 aw (bf (eE Ce (aJ V0 (eE (fV K) (aB (tC (.str "abcdefghijklmnopqrstuvwxyz")))))) (i7 K 2 (bA U1 (bA U2 (ir)))))
 (bt (aK Fy (aK A7 (tC (.str "abcdefghijklmnopqrstuvwxyz")) V1) (aK A7 (tC (.str "abcdefghijklmnopqrstuvwxyz")) V2)))
def re:List Str:=["number","tens","ones"]
def EQ(K:Za):TS :=
 bt (cv 1 [1] (bG K V0) U0 (bj (aK (jB K false) V0 V1)) V0)
def Gz:List Str:=["words","others"]
def AD(K:Za)(sp_common:Sp)(C_Machine:Addr)(sp_Machine_asks:Sp)(sp_Machine_says:Sp):TS :=
 bt (aK mU (aN sp_common (aJ (bR C_Machine "says" sp_Machine_says [] E0 V0 aY) (bR C_Machine "asks" sp_Machine_asks [] E0 V1 aY))) (aN sp_common (aJ (bR C_Machine "says" sp_Machine_says [] E0 V1 aY) (bR C_Machine "asks" sp_Machine_asks [] E0 V0 aY))))
def Bz:List Str:=["M","N"]
def t5(K:Za)(C_Machine:Addr)(sp_Machine_asks:Sp)(sp_wires_of:Sp):TS :=
 aw (bf (aN sp_wires_of (aJ V0 V1)) U2)
 (bt (cv 1 [2] (bG K (aK mU (bR C_Machine "asks" sp_Machine_asks [] E0 V0 aY) (bR C_Machine "asks" sp_Machine_asks [] E0 V1 aY))) U0 (bj (aK (jB K true) V0 V1)) V0))
def uY:List Str:=["M","N","wires"]
def AK(K:Za)(C_Machine:Addr)(sp_Machine_doors:Sp)(sp_Machine_rooms:Sp):TS :=
 bt (o5 (aK ID (eE (fV K) (aB (bR C_Machine "rooms" sp_Machine_rooms [] E0 V0 aY))) (tC (.int 10))) (aK ID (eE (fV K) (aB (bR C_Machine "doors" sp_Machine_doors [] E0 V0 aY))) (tC (.int 40))))
def BG:List Str:=["M"]
def yW(K:Za)(C_Machine:Addr)(sp_Machine_says:Sp)(sp_asks_of_both:Sp)(sp_common:Sp)(sp_Machine_asks:Sp)(sp_is_small:Sp):TS :=
 aw (df (Dd (oQ (tB (aN sp_is_small (aB V0)))) (oQ (tB (aN sp_is_small (aB V1))))) (nU) (bQ))
 (aw (df (Dd (bj (aK A8 (eE (fV K) (aB (aN sp_common (aJ (bR C_Machine "asks" sp_Machine_asks [] E0 V0 aY) (bR C_Machine "asks" sp_Machine_asks [] E0 V1 aY))))) (tC (.int 0)))) (bj (aK A8 (eE (fV K) (aB (aN sp_common (aJ (bR C_Machine "says" sp_Machine_says [] E0 V0 aY) (bR C_Machine "says" sp_Machine_says [] E0 V1 aY))))) (tC (.int 0))))) (nU) (bQ))
 (aw (df (bj (aK Fv (eE (fV K) (aB (aN sp_asks_of_both (aJ V0 V1)))) (tC (.int 0)))) (nU) (bQ))
 (df (Dd (bj (aK A8 (eE (fV K) (aB (aN sp_asks_of_both (aJ V0 V1)))) (tC (.int 4)))) (bj (aK A8 (eE (fV K) (aB (aK mU (bR C_Machine "says" sp_Machine_says [] E0 V0 aY) (bR C_Machine "says" sp_Machine_says [] E0 V1 aY)))) (tC (.int 4))))) (nU) (bQ))))
def Ao:List Str:=["M","N"]
def xu(K:Za)(C_Machine:Addr)(sp_Machine_doors_from:Sp)(a_STILL:Addr):TS :=
 bt (cv 3 [2] (bG K (bR C_Machine "doors_from" sp_Machine_doors_from [] E0 V0 (aB V1))) (i7 K 3 (bA U0 (bA U1 (bA U2 (ir))))) (Dd (bj (aK (jQ K) V1 (tC (.ref a_STILL)))) (bj (aK (jB K true) (aK (ui K) V1 (tC (.int 1))) V3))) (bX (aJ V1 V2)))
def yG:List Str:=["M","room","wires"]
def vc(K:Za)(sp_alone_from:Sp):TS :=
 aw (bf V2 (i7 K 2 (bA U4 (bA U5 (ir)))))
 (aw (bf (cv 2 [2,5] (bG K (aN sp_alone_from (dQ V0 V4 V3))) (i7 K 2 (bA U0 (bA U1 (ir)))) (ip) (bX (dQ V2 V0 (bX (aJ V1 V3))))) U6)
 (bt (aK mU V6 (cv 2 [2,4] (bG K (aN sp_alone_from (dQ V1 V5 V3))) (i7 K 2 (bA U0 (bA U1 (ir)))) (ip) (bX (dQ V2 V0 (bX (aJ V3 V1))))))))
def vE:List Str:=["M","N","here","wires","one","other","doors"]
def xk(K:Za)(C_Machine:Addr)(sp_Machine_goals:Sp)(sp_Machine_says:Sp):TS :=
 bt (bR C_Machine "goals" sp_Machine_goals [] E0 V0 (ar V1 (ar (bX (aJ (tIf (bj (aK (jB K false) V2 (bR C_Machine "says" sp_Machine_says [] E0 V0 aY))) (tC (.str "say")) (tC (.str "ask"))) V2)) aY)))
def yz:List Str:=["M","room","word"]
def qI(K:Za)(sp_wire_goals:Sp):TS :=
 aw (bf (bF (aY)) U4)
 (aw (d6 (bG K V3) U5 (aw (bf (aN sp_wire_goals (dQ V1 (aK (ui K) V2 (tC (.int 1))) V5)) U6)
 (d6 (bG K (aN sp_wire_goals (dQ V0 (aK (ui K) V2 (tC (.int 0))) V5))) U7 (c_ (vm K "list" pC V4 (ar (cv 1 [2,5,7] (bG K V6) U0 (ip) (bX (dQ V1 (bX (aJ (tC (.str "say")) V2)) (bX (aJ V3 V0))))) aY))))))
 (bt V4))
def rk:List Str:=["M","N","here","wires","doors","word","others","goal"]
def qC(K:Za)(C_Machine:Addr)(sp_Machine_rooms:Sp):TS :=
 aw (bf (bF (aY)) U2)
 (aw (d6 (bG K (bR C_Machine "rooms" sp_Machine_rooms [] E0 V0 aY)) U3 (c_ (vm K "list" pC V2 (aB (cv 1 [3] (bG K (bR C_Machine "rooms" sp_Machine_rooms [] E0 V1 aY)) U0 (ip) (bX (aJ V1 V0)))))))
 (bt V2))
def rc:List Str:=["M","N","pairs","room"]
theorem aX.mth{C x:Addr}{H:Hp}{g i j:Zb}{k:List ak}(h:aX C H x g i j k):∃(e:Addr) (fs:List (Str×V)),H x=some (.ins C e fs)/\lk "asks" fs=none/\lk "says" fs=none/\lk "rooms" fs=none/\lk "doors" fs=none/\lk "doors_from" fs=none/\lk "goals" fs=none:=by
 obtain⟨e,fs,v,y,z,A,B,D,E,G,I,l,m,n,f,a1,a2,a3,o,_⟩:=h.at_;obtain⟨p,q,a,r,s,t,u⟩:=h.more;rw[f]at a;cases a;exact⟨e,fs,f,r,s,o,t,u,a2⟩
theorem gP:∀a:List Str,DT.depths (a.map cB)=0
 |[]=>rfl
 |w::a=>by show max 0 (DT.depths (a.map cB))=0;rw[gP a];rfl
theorem n_{K:Za}{σ:L2.St}{H:Hp}{n:List Nat}{a b l:Addr}{g os:Zb}{neg:Bool}{Q:Hp->Prop}(hσ:cH 1 n σ=[none,some (.ref b)])(s:H a=some (.lst (g.map V.str)))(t:H b=some (.lst (os.map V.str)))(p:H l=none)(E:g.length<=900)
  (k:∀f,ab H f->f l=some (.lst ((g.filter fun w=>if neg=true then !decide (w∈os)else decide (w∈os)).map V.str))->Q f) :
  cW 1 n σ (CQ K a) U0 (bj (aK (jB K neg) V0 V1)) V0 H l Q:=by
 let u:Nat->List V->Hp->Prop:=fun i j f=>j=((g.take i).filter fun w=>if neg=true then !decide (w∈os)else decide (w∈os)).map V.str/\ab H f/\f l=some (.lst j)
 refine bD (xs:=g.map V.str) u ⟨rfl,ab.new p,aa⟩ (fun i j f _ y=>by obtain⟨_,S,A⟩:=y;exact⟨A,au.of (S _ _ s)⟩) ?_ ?_
 ·rintro j q ⟨rfl,S,m⟩;rw[ag,bg]at m;exact k q S m
 ·rintro i j q x hx hi ⟨rfl,S,m⟩;obtain⟨w,r,rfl⟩:=aZ hx;rw[hσ];refine gN ⟨_,rfl,_,rfl,cB w,os.map cB,b,_,rfl,rfl,.inl (au.of (S _ _ t)),gk os,c7 _,by rw[gP];decide,_,rfl,?_⟩;have B:(cB w∈os.map cB)↔w∈os:=⟨fun z=>by obtain⟨v,C,e⟩:=aA.1 z;have e:DT.k (.inr v)=DT.k (.inr w):=e;injection e with e;injection e with e;rw[<-e];exact C,e_⟩;have D:(if neg=true then !decide (cB w∈os.map cB)else decide (cB w∈os.map cB))=(if neg=true then !decide (w∈os)else decide (w∈os)):=by rw[decide_eq_decide.2 B]
  rw[D];by_cases c:(if neg=true then !decide (w∈os)else decide (w∈os))=true
  ·rw[c];refine cr ⟨_,rfl,m,?_,jo hi ⟨?_,fun b o e=>?_,aa⟩⟩
   ·have:=bo (fun w=>if neg=true then !decide (w∈os)else decide (w∈os)) (g.take i)
    rw[aM]at this;rw[ag]at hi ⊢;exact ao (by omega)
   ·rw[take_snoc r,f6,av];have:[w].filter (fun w=>if neg=true then !decide (w∈os)else decide (w∈os))=[w]:=by rw[qa,if_pos c];rfl
    rw[this];rfl
   ·rw[am (ae e p)];exact S _ _ e
  ·rw[k_.2 c];refine bv (jo hi ⟨?_,S,m⟩);rw[take_snoc r,f6];have:[w].filter (fun w=>if neg=true then !decide (w∈os)else decide (w∈os))=[]:=by rw[qa,if_neg c];rfl
   rw[this,cM]
inductive sp_common(vs:List V)(H:Hp)(Q:VK)(E:XK):Prop
 |mk (a b:Addr) (ws os:Zb):(vs=[.ref a,.ref b])->(H a=some (.lst (ws.map V.str)))->(H b=some (.lst (os.map V.str)))->(ws.length<=900)->(∀(l:Addr) (H':Hp),H' l=some (.lst ((ws.filter fun w=>decide (w∈os)).map V.str))->H l=none->ab H H'->Q (.ref l) H')->sp_common vs H Q E
theorem Du{K:Za}{e:List V}{H:Hp}{Q:VK}{E:XK}(h:sp_common e H Q E):EQ K (bS Q) (start Gz e) H:=by
 obtain⟨a,b,o,os,rfl,f,i,j,k⟩:=h;refine⟨_,rfl,a,rfl,⟨_,au.of f⟩,fun l g=>?_⟩;exact n_ (neg:=false) rfl f i g j fun m S n=>k l m n g S
def aF(J0 J2 asks' says':Zb):List Str:=J2.filter (fun w=>decide (w∈asks'))++says'.filter fun w=>decide (w∈J0)
def cz(J0 J2 asks' says':Zb):List Str:=(J0++asks').filter fun w=>!decide (w∈aF J0 J2 asks' says')
inductive lE(C:Addr)(vs:List V)(H:Hp)(Q:VK)(E:XK):Prop
 |mk (M N:Addr) (J0 J2 J3 asks' says' rooms':Zb) (ds ds':List ak):(vs=[.ref M,.ref N])->(aX C H M J0 J2 J3 ds)->(aX C H N asks' says' rooms' ds')->(∀(l:Addr) (H':Hp),H' l=some (.lst ((aF J0 J2 asks' says').map V.str))->H l=none->ab H H'->Q (.ref l) H')->lE C vs H Q E
theorem Fb{K:Za}{C:Addr}{vs:List V}{H:Hp}{Q:VK}{E:XK}(h:lE C vs H Q E):AD K sp_common C (iD C) (iB C) (bS Q) (start Bz vs) H:=by
 obtain⟨M,N,g,i,J3,a,e,f,ds,t,rfl,L,U,k⟩:=h;have z1:=L.ok.says4;have z2:=U.ok.says4;obtain⟨Y,al,g1,b5,an,_⟩:=L.mth;refine⟨_,rfl,M,Y,al,rfl,g1,an,M,g,i,J3,ds,rfl,L,fun r ap=>?_⟩;have j:ab H (upd H r (.lst (i.map V.str))):=ab.new ap;have u:upd H r (.lst (i.map V.str)) r=some (.lst (i.map V.str)):=aa;generalize upd H r (.lst (i.map V.str))=v at j u ⊢;have x:=U.same j;obtain⟨as,aC,h1,a0,b6,_⟩:=x.mth;refine⟨_,rfl,N,as,aC,rfl,h1,a0,N,a,e,f,t,rfl,x,fun m a4=>?_⟩;have n:ab v (upd v m (.lst (a.map V.str))):=ab.new a4;have y:upd v m (.lst (a.map V.str)) m=some (.lst (a.map V.str)):=aa;have z:=n _ _ u;show sp_common [.ref r,.ref m] (upd v m (.lst (a.map V.str))) _ _;generalize upd v m (.lst (a.map V.str))=F1 at n y z ⊢;refine⟨r,m,i,a,rfl,z,y,by omega,fun la O a5 b3 a6=>?_⟩;have T:=(j.trans n).trans a6;have a7:=L.same T;have A:=U.same T;obtain⟨a8,a9,g2,b7,bb,_⟩:=A.mth;refine⟨_,rfl,N,a8,a9,rfl,g2,bb,N,a,e,f,t,rfl,A,fun s bi=>?_⟩;have o:ab O (upd O s (.lst (e.map V.str))):=ab.new bi;have B:upd O s (.lst (e.map V.str)) s=some (.lst (e.map V.str)):=aa;generalize upd O s (.lst (e.map V.str))=D at o B ⊢;have G:=a7.same o;obtain⟨bl,bn,h2,bp,b8,_⟩:=G.mth;refine⟨_,rfl,M,bl,bn,rfl,h2,bp,M,g,i,J3,ds,rfl,G,fun p b0=>?_⟩;have q:ab D (upd D p (.lst (g.map V.str))):=ab.new b0;have I:upd D p (.lst (g.map V.str)) p=some (.lst (g.map V.str)):=aa;have J:=q _ _ B;show sp_common [.ref s,.ref p] (upd D p (.lst (g.map V.str))) _ _;generalize upd D p (.lst (g.map V.str))=F2 at q I J ⊢;refine⟨s,p,e,g,rfl,J,I,by omega,fun lb H2 b1 b4 b2=>?_⟩;have S2:=(o.trans q).trans b2;refine⟨la,lb,_,_,rfl,rfl,S2 _ _ a5,b1,?_,fun l hl=>?_⟩
 ·rw[ag,ag];have h1:=bo (fun w=>decide (w∈a)) i;have h2:=bo (fun w=>decide (w∈g)) e;exact cV (ao (by omega))
 exact k l _ (by rw[aa,<-av];rfl) ((T.trans S2).free hl) ((T.trans S2).trans (ab.new hl))
inductive lH(C:Addr)(vs:List V)(H:Hp)(Q:VK)(E:XK):Prop
 |mk (M N:Addr) (J0 J2 J3 asks' says' rooms':Zb) (ds ds':List ak):(vs=[.ref M,.ref N])->(aX C H M J0 J2 J3 ds)->(aX C H N asks' says' rooms' ds')->(∀(l:Addr) (H':Hp),H' l=some (.lst ((cz J0 J2 asks' says').map V.str))->H l=none->ab H H'->Q (.ref l) H')->lH C vs H Q E
theorem Fo{K:Za}{C:Addr}{B:List V}{H:Hp}{Q:VK}{E:XK}(h:lH C B H Q E):t5 K C (iD C) (lE C) (bS Q) (start uY B) H:=by
 obtain⟨M,N,i,D,G,a,f,e,I,m,rfl,t,u,k⟩:=h;have z1:=t.ok.asks4;have z2:=u.ok.asks4;refine⟨_,rfl,_,rfl,M,N,i,D,G,a,f,e,I,m,rfl,t,u,fun wl q x _ r=>?_⟩;have n:=t.same r;obtain⟨U,fs,g,a1,_⟩:=n.mth;refine⟨_,rfl,M,U,fs,rfl,g,a1,M,i,D,G,I,rfl,n,fun w Y=>?_⟩;have y:ab q (upd q w (.lst (i.map V.str))):=ab.new Y;have J:upd q w (.lst (i.map V.str)) w=some (.lst (i.map V.str)):=aa;generalize upd q w (.lst (i.map V.str))=o at y J ⊢;have p:=u.same (r.trans y);obtain⟨dy,gs,g',b1,_⟩:=p.mth;refine⟨_,rfl,N,dy,gs,rfl,g',b1,N,a,f,e,m,rfl,p,fun v hv=>?_⟩;have z:ab o (upd o v (.lst (a.map V.str))):=ab.new hv;have L:upd o v (.lst (a.map V.str)) v=some (.lst (a.map V.str)):=aa;show mU (.ref w) (.ref v) (upd o v (.lst (a.map V.str))) _;generalize upd o v (.lst (a.map V.str))=s at z L ⊢;refine⟨w,v,_,_,rfl,rfl,z _ _ J,L,by rw[ag,ag];exact cV (ao (by omega)),fun c hc=>?_⟩;have O:ab s (upd s c (.lst (i.map V.str++a.map V.str))):=ab.new hc;have T:upd s c (.lst (i.map V.str++a.map V.str)) c=some (.lst ((i++a).map V.str)):=by rw[aa,av]
 refine⟨c,rfl,⟨_,au.of aa⟩,fun l A=>?_⟩;generalize upd s c (.lst (i.map V.str++a.map V.str))=H4 at O T A ⊢;have j:=y.trans (z.trans O);refine n_ (neg:=true) rfl T (j _ _ x) A (by rw[aS];omega) fun H' S h'=>k l H' h' ((r.trans j).free A) (r.trans (j.trans S))
theorem aX.own{C x:Addr}{H:Hp}{k l m:Zb}{i:List ak}(h:aX C H x k l m i):∃(g e:Addr) (fs:List (Str×V)) (f:Ze),H x=some (.ins C g fs)/\lk "rooms" fs=none/\lk "doors" fs=none/\lk "own_doors" fs=some (.ref e)/\H e=some (.lst (f.map V.ref))/\cA H f i:=by
 obtain⟨g,fs,v,y,z,e,A,B,D,E,f,n,o,p,j,a1,a2,a3,q,G,I,J,r,M,N,O,Q,L,_⟩:=h.at_;obtain⟨s,t,a,T,U,u,Y⟩:=h.more;rw[j]at a;cases a;exact⟨g,e,fs,f,j,q,u,r,L.a4,L.ds⟩
inductive o8(C:Addr)(vs:List V)(H:Hp)(Q:VK)(E:XK):Prop
 |mk (M:Addr) (J0 J2 J3:Zb) (ds:List ak):(vs=[.ref M])->(aX C H M J0 J2 J3 ds)->(J3.length<=10)->(ds.length<=40)->(∀H',ab H H'->Q (.bl true) H')->o8 C vs H Q E
theorem Ff{K:Za}{C:Addr}{t:List V}{H:Hp}{Q:VK}{E:XK}(h:o8 C t H Q E):AK K C (pf C) (f_ C) (bS Q) (start BG t) H:=by
 obtain⟨M,y,z,e,A,rfl,j,N,O,k⟩:=h;obtain⟨B,T,fs,U,g,a1,a2,_⟩:=j.own;refine⟨_,rfl,M,B,fs,rfl,g,a1,M,y,z,e,A,rfl,j,fun w D=>?_⟩;have l:ab H (upd H w (.lst (e.map V.str))):=ab.new D;have u:upd H w (.lst (e.map V.str)) w=some (.lst (e.map V.str)):=aa;generalize upd H w (.lst (e.map V.str))=m at l u ⊢;refine .inl ⟨w,_,rfl,.inl (au.of u),_,_,rfl,rfl,_,rfl,?_⟩;rw[ag,zzr1 (by omega)];refine cr ?_;have n:=j.same l;obtain⟨f,o,i,a,x,G,p,q,r,s⟩:=n.own;refine⟨_,rfl,M,f,i,rfl,x,p,M,f,o,i,a,rfl,x,q,r,fun v I=>?_⟩;have J:ab m (upd m v (.lst (a.map V.ref))):=ab.new I;have L:upd m v (.lst (a.map V.ref)) v=some (.lst (a.map V.ref)):=aa;refine .inl ⟨v,_,rfl,.inl (au.of L),_,_,rfl,rfl,?_⟩;have:=Paired.length s;rw[ag];show Q (.bl (decide ((a.length:Int)<=40))) _;rw[zzr1 (by omega)];exact k _ (l.trans J)
structure JoinOk(J0 J2 J3 asks' says' rooms':Zb)(ds ds':List ak):Prop where
 r1:J3.length<=10
 d1:ds.length<=40
 r2:rooms'.length<=10
 d2:ds'.length<=40
 apA:∀w∈J0,w∉asks'
 apS:∀w∈J2,w∉says'
 a0:cz J0 J2 asks' says'≠[]
 a4:(cz J0 J2 asks' says').length<=4
 s4:(J2++says').length<=4
inductive o9(C:Addr)(vs:List V)(H:Hp)(Q:VK)(E:XK):Prop
 |mk (M N:Addr) (J0 J2 J3 asks' says' rooms':Zb) (ds ds':List ak):(vs=[.ref M,.ref N])->(aX C H M J0 J2 J3 ds)->(aX C H N asks' says' rooms' ds')->(JoinOk J0 J2 J3 asks' says' rooms' ds ds')->(∀H',ab H H'->Q .non H')->o9 C vs H Q E
theorem rS{a os:Zb}(h:∀w∈a,w∉os):a.filter (fun w=>decide (w∈os))=[]:=List.filter_eq_nil_iff.2 fun w e z=>h w e (of_decide_eq_true z)
theorem Fi{K:Za}{C:Addr}{vs:List V}{H:Hp}{Q:VK}{E:XK}(h:o9 C vs H Q E):yW K C (iB C) (lH C) sp_common (iD C) (o8 C) (bS Q) (start Ao vs) H:=by
 obtain⟨M,N,n,i,L,e,a,f,O,l,rfl,o,p,J,k⟩:=h;have y1:=o.ok.asks4;have y2:=o.ok.says4;have y3:=p.ok.asks4;have y4:=p.ok.says4;refine⟨_,rfl,M,n,i,L,O,rfl,o,J.r1,J.d1,fun H1 S1=>⟨_,rfl,bv ?_⟩⟩;refine⟨_,rfl,N,e,a,f,l,rfl,p.same S1,J.r2,J.d2,fun H2 S2=>⟨_,rfl,bv ?_⟩⟩;have u:=S1.trans S2;obtain⟨dx,fs,g,a1,_⟩:=(o.same u).mth;refine⟨_,rfl,M,dx,fs,rfl,g,a1,M,n,i,L,O,rfl,o.same u,fun w hw=>?_⟩;have S3:ab H2 (upd H2 w (.lst (n.map V.str))):=ab.new hw;have w3:upd H2 w (.lst (n.map V.str)) w=some (.lst (n.map V.str)):=aa;generalize upd H2 w (.lst (n.map V.str))=U at S3 w3 ⊢;have x:=u.trans S3;obtain⟨a7,a8,g',b1,_⟩:=(p.same x).mth;refine⟨_,rfl,N,a7,a8,rfl,g',b1,N,e,a,f,l,rfl,p.same x,fun v hv=>?_⟩;have S4:ab U (upd U v (.lst (e.map V.str))):=ab.new hv;have v4:upd U v (.lst (e.map V.str)) v=some (.lst (e.map V.str)):=aa;show sp_common [.ref w,.ref v] (upd U v (.lst (e.map V.str))) _ _;generalize upd U v (.lst (e.map V.str))=H4 at S4 v4 ⊢;refine⟨w,v,n,e,rfl,S4 _ _ w3,v4,by omega,fun c H5 hc _ S5=>?_⟩;rw[rS J.apA]at hc;refine .inl ⟨c,_,rfl,.inl (au.of hc),_,_,rfl,rfl,_,rfl,?_⟩;rw[zzr0 (by decide)];refine bv ?_;have y:=x.trans (S4.trans S5);obtain⟨ex,es,e1,_,e2,_⟩:=(o.same y).mth;refine⟨_,rfl,M,ex,es,rfl,e1,e2,M,n,i,L,O,rfl,o.same y,fun T a9=>?_⟩;have S6:ab H5 (upd H5 T (.lst (i.map V.str))):=ab.new a9;have w6:upd H5 T (.lst (i.map V.str)) T=some (.lst (i.map V.str)):=aa;generalize upd H5 T (.lst (i.map V.str))=Y at S6 w6 ⊢;have A:=y.trans S6;obtain⟨bb,bi,bl,_,bn,_⟩:=(p.same A).mth;refine⟨_,rfl,N,bb,bi,rfl,bl,bn,N,e,a,f,l,rfl,p.same A,fun B bp=>?_⟩;have S7:ab Y (upd Y B (.lst (a.map V.str))):=ab.new bp;have v7:upd Y B (.lst (a.map V.str)) B=some (.lst (a.map V.str)):=aa;show sp_common [.ref T,.ref B] (upd Y B (.lst (a.map V.str))) _ _;generalize upd Y B (.lst (a.map V.str))=H7 at S7 v7 ⊢;refine⟨T,B,i,a,rfl,S7 _ _ w6,v7,by omega,fun c2 H8 an _ S8=>?_⟩;rw[rS J.apS]at an;refine .inl ⟨c2,_,rfl,.inl (au.of an),_,_,rfl,rfl,_,rfl,?_⟩;rw[zzr0 (by decide)];refine bv ?_;have D:=A.trans (S7.trans S8);refine⟨_,rfl,_,rfl,M,N,n,i,L,e,a,f,O,l,rfl,o.same D,p.same D,fun al H9 b0 _ S9=>?_⟩;refine .inl ⟨al,_,rfl,.inl (au.of b0),rfl,_,rfl,?_⟩;have ce:=wu.2 J.a0;rw[ag,zzr0 (by intro z;injection z with z;omega)];refine bv ?_;have G:=D.trans S9;refine⟨_,rfl,_,rfl,M,N,n,i,L,e,a,f,O,l,rfl,o.same G,p.same G,fun b2 t ap _ b3=>?_⟩;have a4:=J.a4;have s4:=J.s4;refine .inl ⟨b2,_,rfl,.inl (au.of ap),_,_,rfl,rfl,_,rfl,?_⟩;rw[ag,zzr0 (by omega)];refine bv ?_;have q:=G.trans b3;obtain⟨fx,fz,f1,_,f2,_⟩:=(o.same q).mth;refine⟨_,rfl,M,fx,fz,rfl,f1,f2,M,n,i,L,O,rfl,o.same q,fun m b4=>?_⟩;have as:ab t (upd t m (.lst (i.map V.str))):=ab.new b4;have aC:upd t m (.lst (i.map V.str)) m=some (.lst (i.map V.str)):=aa;generalize upd t m (.lst (i.map V.str))=r at as aC ⊢;have s:=q.trans as;obtain⟨b5,b6,b7,_,b8,_⟩:=(p.same s).mth;refine⟨_,rfl,N,b5,b6,rfl,b7,b8,N,e,a,f,l,rfl,p.same s,fun j ca=>?_⟩;have I:ab r (upd r j (.lst (a.map V.str))):=ab.new ca;have a5:upd r j (.lst (a.map V.str)) j=some (.lst (a.map V.str)):=aa;show mU (.ref m) (.ref j) (upd r j (.lst (a.map V.str))) _;generalize upd r j (.lst (a.map V.str))=a6 at I a5 ⊢;rw[aS]at s4;refine⟨m,j,_,_,rfl,rfl,I _ _ aC,a5,by rw[ag,ag];exact cV (ao (by omega)),fun c3 cc=>?_⟩;have cd:ab a6 (upd a6 c3 (.lst (i.map V.str++a.map V.str))):=ab.new cc;refine .inl ⟨c3,_,rfl,.inl (au.of aa),_,_,rfl,rfl,_,rfl,?_⟩;rw[aS,ag,ag,zzr0 (by omega)];exact bv (k _ (s.trans (I.trans cd)))
def aH(J3 rooms':Zb):List (Str×Str):=J3.flatMap fun r=>rooms'.map fun o=>(r,o)
def Kg(H:Hp)(u:Addr)(p:Str×Str):Prop:=H u=some (.tup [.str p.1,.str p.2])
theorem zN{e a:Zb}{i:Nat}{r:Str}(h:e[i]?=some r):aH (e.take (i+1)) a=aH (e.take i) a++a.map fun o=>(r,o):=by
 unfold aH;rw[take_snoc h,nA,wt]
theorem fG{e a:Zb}:(aH e a).length=e.length * a.length:=by
 unfold aH
 induction e with
 |nil=>simp
 |cons r g f=>rw[List.flatMap_cons,aS,f,ag,eO,ww,Nat.add_comm]
inductive mj(C:Addr)(vs:List V)(H:Hp)(Q:VK)(E:XK):Prop
 |mk (M N:Addr) (J0 J2 J3 asks' says' rooms':Zb) (ds ds':List ak):(vs=[.ref M,.ref N])->(aX C H M J0 J2 J3 ds)->(aX C H N asks' says' rooms' ds')->(J3.length<=10)->(rooms'.length<=10)->(∀(l:Addr) (us:Ze) (H':Hp),H' l=some (.lst (us.map V.ref))->Paired (Kg H') us (aH J3 rooms')->H l=none->ab H H'->Q (.ref l) H')->mj C vs H Q E
theorem Dm{K:Za}{C:Addr}{vs:List V}{H:Hp}{Q:VK}{E:XK}(h:mj C vs H Q E):qC K C (f_ C) (bS Q) (start rc vs) H:=by
 obtain⟨M,N,J0,J2,j,p,s,a,ds,al,rfl,MM,MN,z1,z2,k⟩:=h;refine⟨(by show 0<=aj;decide),fun e t=>?_⟩;have U:ab H (upd H e (.lst [])):=ab.new t;have p0:upd H e (.lst []) e=some (.lst (([]:Ze).map V.ref)):=aa;generalize upd H e (.lst [])=Y at U p0 ⊢;obtain⟨dx,fs,g,_,_,a1,_⟩:=(MM.same U).mth;refine⟨_,rfl,M,dx,fs,rfl,g,a1,M,J0,J2,j,ds,rfl,MM.same U,fun v G=>?_⟩;have S1:ab Y (upd Y v (.lst (j.map V.str))):=ab.new G;have r1:upd Y v (.lst (j.map V.str)) v=some (.lst (j.map V.str)):=aa;have an:v≠e:=(ae p0 G).symm;refine⟨v,rfl,⟨_,au.of aa⟩,?_⟩;generalize upd Y v (.lst (j.map V.str))=H1 at S1 r1 ⊢
 let zI:Nat->L2.St->Hp->Prop:=fun i σ f=>Ew fun(y:Ze) (x3:Option V)=>GA (σ=[some (.ref M),some (.ref N),some (.ref e),x3]) (f e=some (.lst (y.map V.ref))) (Paired (Kg f) y (aH (j.take i) a)) (ab H f) (f v=some (.lst (j.map V.str)))
 refine bO (xs:=j.map V.str) zI ⟨[],_,rfl,S1 _ _ p0,.nil,U.trans S1,r1⟩ (fun i σ f _ zq=>by obtain⟨_,_,_,_,_,_,h'⟩:=zq;exact au.of h') ?_ ?_;rotate_left
 ·rintro σ B ⟨y,x3,rfl,hp,I,J,_⟩;rw[ag,bg]at I;exact⟨_,rfl,k e y B hp I t J⟩
 rintro i x σ B hx ⟨y,x3,rfl,hp,I,J,ap⟩;obtain⟨r,hr,rfl⟩:=aZ hx;have il:=(bN.1 hr).1;obtain⟨dy,gs,g',_,_,b1,_⟩:=(MN.same J).mth;refine⟨_,rfl,.inl ⟨rfl,_,au.of hp⟩,_,rfl,N,dy,gs,rfl,g',b1,N,p,s,a,al,rfl,MN.same J,fun L as=>?_⟩;have S3:ab B (upd B L (.lst (a.map V.str))):=ab.new as;have o3:upd B L (.lst (a.map V.str)) L=some (.lst (a.map V.str)):=aa;refine⟨L,rfl,⟨_,au.of aa⟩,fun cl z=>?_⟩;generalize upd B L (.lst (a.map V.str))=H3 at S3 o3 z ⊢
 let zC:Nat->List V->Hp->Prop:=fun n vs f=>∃m:List Addr,Iy (vs=m.map V.ref) (ab H3 f) (f cl=some (.lst vs)) (Paired (Kg f) m ((a.take n).map fun o=>(r,o)))
 refine bD (xs:=a.map V.str) zC ⟨[],rfl,ab.new z,aa,.nil⟩ (fun i vs f _ zq=>by obtain⟨_,_,S,h',_⟩:=zq;exact⟨h',au.of (S _ _ o3)⟩) ?_ ?_
 ·rintro vs A ⟨m,rfl,S4,h4,D⟩;rw[ag,bg]at D;have l:=S3.trans S4;have O:=l _ _ hp;have lu:=Paired.length I;have lw:=Paired.length D;rw[fG,aM]at lu;rw[ag]at lw;have a0:min i j.length * a.length<=10 * 10:=nv (by omega) z2;have kt:j7 A (upd A e (.lst (y.map V.ref++m.map V.ref))):=cU O;refine⟨e,cl,_,_,rfl,rfl,O,h4,by rw[ag,ag];exact cV (ao (by omega)),y++m,_,rfl,by rw[aa,av],?_,fun b o q=>?_,?_⟩
  ·rw[zN hr];exact Paired.app (Paired.mapP I fun _ _ q=>kt _ _ (l _ _ q)) (Paired.mapP D fun _ _ q=>kt _ _ q)
  ·rw[am (ae q t)];exact l _ _ (J _ _ q)
  ·rw[am an];exact l _ _ ap
 ·rintro n vs A x hx hn ⟨m,rfl,S4,h4,D⟩;obtain⟨o,ho,rfl⟩:=aZ hx;have nl:=(bN.1 ho).1;refine gN (nM ⟨_,rfl,_,rfl,(by show 2<=aj;decide),fun u aC=>?_⟩);have T:ab A (upd A u (.tup [.str r,.str o])):=ab.new aC;have u5:upd A u (.tup [.str r,.str o]) u=some (.tup [.str r,.str o]):=aa;generalize upd A u (.tup [.str r,.str o])=H5 at T u5 ⊢;have kt:j7 H5 (upd H5 cl (.lst (m.map V.ref++[.ref u]))):=cU (T _ _ h4);refine⟨T _ _ h4,by rw[ag,Paired.length D,ag,aM];exact ao (by omega),jo hn ⟨m++[u],by rw[av];rfl,fun b o q=>?_,aa,?_⟩⟩
  ·rw[am (ae q z)];exact T _ _ (S4 _ _ q)
  ·rw[take_snoc ho,av];exact fF (Paired.mapP D fun _ _ q=>kt _ _ (T _ _ q)) (kt _ _ u5)
def cS(J2:Zb)(w:Str):List Str:=if w∈J2 then aV w else bm w
inductive o6(C:Addr)(vs:List V)(H:Hp)(Q:VK)(E:XK):Prop
 |mk (M:Addr) (r w:Str) (J0 J2 J3:Zb) (ds:List ak):(vs=[.ref M,.str r,.str w])->(aX C H M J0 J2 J3 ds)->(∀(l:Addr) (H':Hp),H' l=some (.lst ((a_ ds (r,cS J2 w)).map V.str))->H l=none->ab H H'->Q (.ref l) H')->o6 C vs H Q E
theorem Fc{K:Za}{C:Addr}{t:List V}{H:Hp}{Q:VK}{E:XK}(h:o6 C t H Q E):xk K C (fM C) (iB C) (bS Q) (start yz t) H:=by
 obtain⟨M,r,w,u,a,x,y,rfl,o,k⟩:=h;obtain⟨A,fs,g,a1,a2,a3,U,Y,D⟩:=o.mth;refine⟨_,rfl,M,A,fs,rfl,g,D,_,rfl,_,rfl,_,rfl,M,A,fs,rfl,g,a2,M,u,a,x,y,rfl,o,fun f p=>?_⟩;have m:ab H (upd H f (.lst (a.map V.str))):=ab.new p;have B:upd H f (.lst (a.map V.str)) f=some (.lst (a.map V.str)):=aa;generalize upd H f (.lst (a.map V.str))=n at m B ⊢;refine⟨cB w,a.map cB,f,_,rfl,rfl,.inl (au.of B),gk a,c7 _,by rw[gP];decide,_,rfl,?_⟩;have G:(cB w∈a.map cB)↔w∈a:=⟨fun z=>by obtain⟨v,I,e⟩:=aA.1 z;have e:DT.k (.inr v)=DT.k (.inr w):=e;injection e with e;injection e with e;rw[<-e];exact I,e_⟩;have J:(if false=true then !decide (cB w∈a.map cB)else decide (cB w∈a.map cB))=decide (w∈a):=decide_eq_decide.2 G
 rw[J];have i:∀(kd:Str),cS a w=[kd,w]->∀(q:Addr),n q=none->fM C [.ref M,.str r,.ref q] (upd n q (.tup [.str kd,.str w])) Q E0:=fun kd e q j=>by
  have s:ab n (upd n q (.tup [.str kd,.str w])):=ab.new j;refine⟨M,q,r,cS a w,u,a,x,y,rfl,o.same (m.trans s),by rw[e];exact aa,fun l L N O T=>k l L N ((m.trans s).free O) ((m.trans s).trans T)⟩
 by_cases c:w∈a
 ·rw[zzr1 c];refine cr ⟨_,rfl,(by show 2<=aj;decide),fun q j=>?_⟩;exact i "say" (if_pos c) q j
 ·rw[zzr0 c];refine bv ⟨_,rfl,(by show 2<=aj;decide),fun q j=>?_⟩;exact i "ask" (if_neg c) q j
def nN(sg:Zb):Str:=sg.getD 1 ""
def cI(wires:Zb)(d:ak):Bool:=decide (d.sg=ay) || !decide (nN d.sg∈wires)
def kD(ds:List ak)(r:Str)(wires:Zb):List ak:=(az ds r).filter (cI wires)
def BL(H:Hp)(u:Addr)(d:ak):Prop:=∃s,H u=some (.tup [.ref s,.str d.b])/\SignAt H s d.sg
theorem BL.kt{H H':Hp}{u:Addr}{d:ak}(k:j7 H H')(h:BL H u d):BL H' u d:=by
 obtain⟨s,a,e⟩:=h;exact⟨s,k _ _ a,k _ _ e⟩
theorem pQ{l:List ak}{p:ak->Bool}{i:Nat}{e:ak}(h:l[i]?=some e):(l.take (i+1)).filter p=(l.take i).filter p++(if p e=true then[e]else[]):=by
 rw[take_snoc h,f6];by_cases c:p e=true
 ·rw[if_pos c];simp[c]
 ·rw[if_neg c];simp[c]
theorem rM{ds:List ak}{r:Str}:(az ds r).length<=ds.length:=by
 unfold az
 first|exact bo _ _|(rw[ag];exact bo _ _)
inductive ph(C:Addr)(vs:List V)(H:Hp)(Q:VK)(E:XK):Prop
 |mk (M wl:Addr) (r:Str) (J0 J2 J3 wires:Zb) (ds:List ak):(vs=[.ref M,.str r,.ref wl])->(aX C H M J0 J2 J3 ds)->(r∈J3)->(H wl=some (.lst (wires.map V.str)))->(ds.length<=40)->(∀(l:Addr) (us:Ze) (H':Hp),H' l=some (.lst (us.map V.ref))->Paired (BL H') us (kD ds r wires)->H l=none->ab H H'->Q (.ref l) H')->ph C vs H Q E
theorem Fq{K:Za}{C st:Addr}(al:∀H,br K H st (ay.map V.str)){p:List V}{H:Hp}{Q:VK}{E:XK}(h:ph C p H Q E):xu K C (eG C) st (bS Q) (start yG p) H:=by
 obtain⟨M,wl,r,J0,J2,J3,f,ds,rfl,MA,hr,an,zd,k⟩:=h;obtain⟨dx,fs,g,_,_,_,_,a5,_⟩:=MA.mth;refine⟨_,rfl,M,dx,fs,rfl,g,a5,_,rfl,M,r,J0,J2,J3,ds,rfl,MA,hr,fun dl us H1 N y _ S1=>⟨dl,rfl,⟨_,au.of N⟩,fun O A=>?_⟩⟩;have t:∀d∈az ds r,rX J0 J2 J3 d:=fun d B=>MA.ok.good d (by unfold az at B;exact(bJ.1 B).1);have ll:=rM (ds:=ds) (r:=r);unfold kD at k;generalize az ds r=L at y t ll k
 let zC:Nat->List V->Hp->Prop:=fun n p Y=>∃l:List Addr,Iy (p=l.map V.ref) (ab H1 Y) (Y O=some (.lst p)) (Paired (BL Y) l ((L.take n).filter (cI f)))
 refine bD (xs:=us.map V.ref) zC ⟨[],rfl,ab.new A,aa,.nil⟩ (fun i p Y _ zq=>by obtain⟨_,_,S,h',_⟩:=zq;exact⟨h',au.of (S _ _ N)⟩) ?_ ?_
 ·rintro p m ⟨l,rfl,D,T,I⟩;rw[ag,Paired.length y,bg]at I;exact k O l m T I (S1.free A) (S1.trans D)
 ·rintro n p m x hx hn ⟨l,rfl,D,T,I⟩;obtain⟨u,hu,rfl⟩:=cD hx;obtain⟨d,B,s,g1,g2⟩:=Paired.getL y hu;have nl:=(bN.1 B).1;have ap:=D _ _ g1;have G:m s=some (.tup (d.sg.map V.str)):=D _ _ g2;refine⟨u,_,rfl,br.of ap,rfl,_,_,rfl,_,_,rfl,_,_,rfl,rfl,?_⟩;refine⟨_,rfl,jF d.sg,jF ay,bw (br.of G),bw (al m),by rw[bZ];decide,by rw[bZ];decide,_,rfl,?_⟩;rw[hE];have U:cI f d=true->(bX (aJ V1 V2)) [some (.str d.a),some (.ref s),some (.str d.b),some (.ref wl)] m fun v H6=>H6 O=some (.lst (l.map V.ref))/\(l.map V.ref).length<aj/\∃m',m'<(us.map V.ref).length-n/\Wc (us.map V.ref).length zC (n+1) m' (l.map V.ref++[v]) (upd H6 O (.lst (l.map V.ref++[v]))):=fun c=>by
   refine⟨_,rfl,_,rfl,(by show 2<=aj;decide),fun q hq=>?_⟩;have J:ab m (upd m q (.tup [.ref s,.str d.b])):=ab.new hq;have q3:upd m q (.tup [.ref s,.str d.b]) q=some (.tup [.ref s,.str d.b]):=aa;generalize upd m q (.tup [.ref s,.str d.b])=H3 at J q3 ⊢;have kt:j7 H3 (upd H3 O (.lst (l.map V.ref++[.ref q]))):=cU (J _ _ T);refine⟨J _ _ T,?_,jo hn ⟨l++[q],by rw[av];rfl,fun b o e=>?_,aa,?_⟩⟩
   ·have:=bo (cI f) (L.take n);rw[aM]at this;rw[ag,Paired.length I];exact ao (by omega)
   ·rw[am (ae e A)];exact J _ _ (D _ _ e)
   ·rw[pQ B,if_pos c];exact fF (Paired.mapP I fun _ _ x=>BL.kt (fun b xs e=>kt _ _ (J _ _ e)) x) ⟨s,kt _ _ q3,kt _ _ (J _ _ G)⟩
  by_cases c:d.sg=ay
  ·rw[zzr1 c];exact cr (cr (U (by unfold cI;rw[zzr1 c];rfl)))
  rw[zzr0 c];obtain⟨kd,w,ew⟩:∃kd w,d.sg=[kd,w]:=by
   rcases(t d (bW B)).sg with⟨w,_,e⟩|⟨w,_,e⟩|e
   ·exact⟨_,w,e⟩
   ·exact⟨_,w,e⟩
   ·exact absurd e c
  have ea:cI f d=!decide (w∈f):=by unfold cI nN;rw[zzr0 c,ew];rfl
  refine bv ⟨_,rfl,s,_,1,.str w,rfl,rfl,br.of G,by rw[ew];exact cp (j:=1) rfl,_,rfl,cB w,f.map cB,wl,_,rfl,rfl,.inl (au.of ((S1.trans D) _ _ an)),gk f,c7 _,by rw[gP];decide,_,rfl,?_⟩;have em:(cB w∈f.map cB)↔w∈f:=⟨fun z=>by obtain⟨v,hv,e⟩:=aA.1 z;have e:DT.k (.inr v)=DT.k (.inr w):=e;injection e with e;injection e with e;rw[<-e];exact hv,e_⟩;have ec:(if true=true then !decide (cB w∈f.map cB)else decide (cB w∈f.map cB))=cI f d:=by
   rw[ea];show(!decide (cB w∈f.map cB))=_;rw[decide_eq_decide.2 em]
  rw[ec];by_cases cc:cI f d=true
  ·rw[cc];exact cr (U cc)
  ·rw[k_.2 cc];refine bv (jo hn ⟨l,rfl,D,T,?_⟩);rw[pQ B,if_neg cc,cM];exact I
structure JD where
 a:Str×Str
 sg:List Str
 b:Str×Str
def FC(p:Str×Str):List V:=[.str p.1,.str p.2]
def gR(K:Za)(H:Hp)(u:Addr)(e:JD):Prop:=∃h s g:Addr,H u=some (.tup [.ref h,.ref s,.ref g])/\eC K H h (FC e.a)/\SignAt H s e.sg/\H g=some (.tup (FC e.b))
theorem gR.kt{K:Za}{H a:Hp}{u:Addr}{e:JD}(k:j7 H a)(h:gR K H u e):gR K a u e:=by
 obtain⟨x,s,g,f,i,j,l⟩:=h;exact⟨x,s,g,k _ _ f,eC.kt k i,k _ _ j,k _ _ l⟩
theorem uM{K:Za}{σ:L2.St}{H:Hp}{N l z:Addr}{O:List Nat}{C:Ze}{L:List ak}{p:Str×Str}{x:Str}{T:TE}{f:ak->JD}{Q:Hp->Prop}(hσ:cH 2 O σ=[none,none,some (.ref z),some (.str x)])(D:H N=some (.lst (C.map V.ref)))(U:Paired (BL H) C L)(hp:eC K H z (FC p))(m:H l=none)(hz:L.length<=900)
  (E:∀(d:ak) (s:Addr) (J:Hp) (R:VK),J s=some (.tup (d.sg.map V.str))->eC K J z (FC p)->(∀(q:Addr) (G:Hp),gR K G q (f d)->ab J G->R (.ref q) G)->T [some (.ref s),some (.str d.b),some (.ref z),some (.str x)] J R)
  (k:∀(a:Ze) (g:Hp),g l=some (.lst (a.map V.ref))->Paired (gR K g) a (L.map f)->ab H g->Q g) :
  cW 2 O σ (CQ K N) (i7 K 2 (bA U0 (bA U1 (ir)))) (ip) T H l Q:=by
 let zC:Nat->List V->Hp->Prop:=fun n t g=>∃a:List Addr,Iy (t=a.map V.ref) (ab H g) (g l=some (.lst t)) (Paired (gR K g) a ((L.take n).map f))
 refine bD (xs:=C.map V.ref) zC ⟨[],rfl,ab.new m,aa,.nil⟩ (fun i t g _ zq=>by obtain⟨_,_,S,h',_⟩:=zq;exact⟨h',au.of (S _ _ D)⟩) ?_ ?_
 ·rintro t I ⟨a,rfl,j,A,v⟩;rw[ag,Paired.length U,bg]at v;exact k a I A v j
 ·rintro n t I y hy hn ⟨a,rfl,j,A,v⟩;obtain⟨u,M,rfl⟩:=cD hy;obtain⟨d,Y,s,g1,g2⟩:=Paired.getL U M;have nl:=(bN.1 Y).1;rw[hσ];refine⟨u,_,rfl,br.of (j _ _ g1),rfl,_,_,rfl,_,_,rfl,rfl,nM ?_⟩;refine E d s I _ (j _ _ g2) (eC.kt (ab.kt j) hp) fun q H3 hq B=>?_;have kt:j7 H3 (upd H3 l (.lst (a.map V.ref++[.ref q]))):=cU (B _ _ A);refine⟨B _ _ A,by rw[ag,Paired.length v,ag,aM];exact ao (by omega),jo hn ⟨a++[q],by rw[av];rfl,fun b o e=>?_,aa,?_⟩⟩
  ·rw[am (ae e m)];exact B _ _ (j _ _ e)
  ·rw[take_snoc Y,av];exact fF (Paired.mapP v fun _ _ r=>gR.kt (fun b xs e=>kt _ _ (B _ _ e)) r) (hq.kt kt)
def oj(ds ds':List ak)(wires:Zb)(p:Str×Str):List JD:=(kD ds p.1 wires).map (fun d=>⟨p,d.sg,(d.b,p.2)⟩)++(kD ds' p.2 wires).map fun d=>⟨p,d.sg,(p.1,d.b)⟩
theorem uT{ds:List ak}{r:Str}{wires:Zb}:(kD ds r wires).length<=ds.length:=bz (bo _ _) rM
inductive mr(K:Za)(C:Addr)(vs:List V)(H:Hp)(Q:VK)(E:XK):Prop
 |mk (M N hr wl:Addr) (p:Str×Str) (J0 J2 J3 asks' says' rooms' wires:Zb) (ds ds':List ak):(vs=[.ref M,.ref N,.ref hr,.ref wl])->(aX C H M J0 J2 J3 ds)->(aX C H N asks' says' rooms' ds')->(eC K H hr (FC p))->(p.1∈J3)->(p.2∈rooms')->(H wl=some (.lst (wires.map V.str)))->(ds.length<=40)->(ds'.length<=40)->(∀(l:Addr) (us:Ze) (H':Hp),H' l=some (.lst (us.map V.ref))->Paired (gR K H') us (oj ds ds' wires p)->H l=none->ab H H'->Q (.ref l) H')->mr K C vs H Q E
theorem Dt{K:Za}{C:Addr}{vs:List V}{H:Hp}{Q:VK}{E:XK}(h:mr K C vs H Q E):vc K (ph C) (bS Q) (start vE vs) H:=by
 obtain⟨M,N,o,wl,p,J0,J2,J3,t,u,i,a,ds,y,rfl,MM,MN,T,p1,p2,z,z1,z2,k⟩:=h;refine⟨_,rfl,o,_,rfl,eC.sq T,rfl,_,_,rfl,_,_,rfl,rfl,?_⟩;refine⟨_,rfl,_,rfl,_,rfl,M,wl,p.1,J0,J2,J3,a,ds,rfl,MM,p1,z,z1,fun al us H1 A U _ S1=>⟨al,rfl,⟨_,au.of A⟩,fun cl Y=>?_⟩⟩;have l1:=uT (ds:=ds) (r:=p.1) (wires:=a);have l2:=uT (ds:=y) (r:=p.2) (wires:=a);refine uM (p:=p) (f:=fun d=>⟨p,d.sg,(d.b,p.2)⟩) rfl A U (eC.kt (ab.kt S1) T) Y (by omega) (fun d s J R hs v kk=>?_) fun ws H2 h2 hw S2=>?_
 ·refine⟨_,rfl,_,rfl,_,rfl,_,rfl,(by show 2<=aj;decide),fun g hg=>⟨(by show 3<=aj;decide),fun q x=>?_⟩⟩;have Sg:ab J (upd J g (.tup [.str d.b,.str p.2])):=ab.new hg;have B:upd J g (.tup [.str d.b,.str p.2]) g=some (.tup (FC (d.b,p.2))):=aa
  change upd J g (.tup [.str d.b,.str p.2]) q=none at x
  show R (.ref q) (upd (upd J g (.tup [.str d.b,.str p.2])) q (.tup [.ref o,.ref s,.ref g]));generalize upd J g (.tup [.str d.b,.str p.2])=D at Sg B x ⊢;have j:ab D (upd D q (.tup [.ref o,.ref s,.ref g])):=ab.new x;exact kk q _ ⟨o,s,g,aa,eC.kt (ab.kt (Sg.trans j)) v,(Sg.trans j) _ _ hs,j _ _ B⟩ (Sg.trans j)
 have e:=S1.trans S2;refine⟨_,rfl,_,rfl,_,rfl,_,rfl,N,wl,p.2,t,u,i,a,y,rfl,MN.same e,p2,e _ _ z,z2,fun an a0 H3 n G _ S3=>⟨an,rfl,⟨_,au.of n⟩,fun ap I=>?_⟩⟩;have as:=e.trans S3;refine uM (p:=p) (f:=fun d=>⟨p,d.sg,(p.1,d.b)⟩) rfl n G (eC.kt (ab.kt as) T) I (by omega) (fun d s J R hs v kk=>?_) fun L H4 h4 O S4=>?_
 ·refine⟨_,rfl,_,rfl,_,rfl,_,rfl,(by show 2<=aj;decide),fun g hg=>⟨(by show 3<=aj;decide),fun q x=>?_⟩⟩;have Sg:ab J (upd J g (.tup [.str p.1,.str d.b])):=ab.new hg;have B:upd J g (.tup [.str p.1,.str d.b]) g=some (.tup (FC (p.1,d.b))):=aa
  change upd J g (.tup [.str p.1,.str d.b]) q=none at x
  show R (.ref q) (upd (upd J g (.tup [.str p.1,.str d.b])) q (.tup [.ref o,.ref s,.ref g]));generalize upd J g (.tup [.str p.1,.str d.b])=D at Sg B x ⊢;have j:ab D (upd D q (.tup [.ref o,.ref s,.ref g])):=ab.new x;exact kk q _ ⟨o,s,g,aa,eC.kt (ab.kt (Sg.trans j)) v,(Sg.trans j) _ _ hs,j _ _ B⟩ (Sg.trans j)
 have m:=S3.trans S4;have lw:=Paired.length hw;have aC:=Paired.length O;rw[ag]at lw aC;refine⟨cl,ap,_,_,rfl,rfl,m _ _ h2,h4,by rw[ag,ag];exact cV (ao (by omega)),fun l hl=>?_⟩;have S5:ab H4 (upd H4 l (.lst (ws.map V.ref++L.map V.ref))):=ab.new hl;refine k l (ws++L) _ (by rw[aa,av]) ?_ ((e.trans m).free hl) (e.trans (m.trans S5));exact Paired.app (Paired.mapP hw fun _ _ r=>gR.kt (ab.kt (m.trans S5)) r) (Paired.mapP O fun _ _ r=>gR.kt (ab.kt S5) r)
def mN(p:Str×Str)(w:Str)(os:Zb)(g:Str):List JD:=os.map fun o=>⟨p,aV w,(g,o)⟩
def u8(ds ds':List ak)(J2 says':Zb)(p:Str×Str)(w:Str):List JD:=(a_ ds (p.1,cS J2 w)).flatMap (mN p w (a_ ds' (p.2,cS says' w)))
def qA(ds ds':List ak)(J2 says' wires:Zb)(p:Str×Str):List JD:=wires.flatMap (u8 ds ds' J2 says' p)
theorem mF{ds:List ak}{x:Str×List Str}:(a_ ds x).length<=ds.length:=by
 unfold a_;rw[ag];exact bo _ _
theorem mG{α β:Type}{f:α->List β}{n:Nat}(h:∀a,(f a).length<=n):∀l:List α,(l.flatMap f).length<=l.length * n
 |[]=>by simp
 |a::l=>by
  rw[List.flatMap_cons,aS,eO,ww];have:=h a;have:=mG h l;omega
theorem EJ{ds h:List ak}{i e:Zb}{p:Str×Str}{w:Str}(j:ds.length<=40)(k:h.length<=40):(u8 ds h i e p w).length<=1600:=by
 have a:=mF (ds:=ds) (x:=(p.1,cS i w));have b:=mF (ds:=h) (x:=(p.2,cS e w));have:=mG (f:=mN p w (a_ h (p.2,cS e w))) (n:=40) (fun g=>by unfold mN;rw[ag];omega) (a_ ds (p.1,cS i w));unfold u8;omega
theorem Gn{K:Za}{σ:L2.St}{H:Hp}{J t l:Addr}{L:List Nat}{os:Zb}{p:Str×Str}{w g:Str}{Q:Hp->Prop}(hσ:cH 1 L σ=[none,some (.ref l),some (.str w),some (.str g)])(E:H J=some (.lst (os.map V.str)))(hp:eC K H l (FC p))(u:H t=none)(hz:os.length<=900)
  (k:∀(f:Ze) (j:Hp),j t=some (.lst (f.map V.ref))->Paired (gR K j) f (mN p w os g)->ab H j->Q j) :
  cW 1 L σ (CQ K J) U0 (ip) (bX (dQ V1 (bX (aJ (tC (.str "say")) V2)) (bX (aJ V3 V0)))) H t Q:=by
 let zC:Nat->List V->Hp->Prop:=fun n v j=>∃f:List Addr,Iy (v=f.map V.ref) (ab H j) (j t=some (.lst v)) (Paired (gR K j) f (mN p w (os.take n) g))
 refine bD (xs:=os.map V.str) zC ⟨[],rfl,ab.new u,aa,.nil⟩ (fun i v j _ zq=>by obtain⟨_,_,S,h',_⟩:=zq;exact⟨h',au.of (S _ _ E)⟩) ?_ ?_
 ·rintro v m ⟨f,rfl,A,B,x⟩;rw[ag,bg]at x;exact k f m B x A
 ·rintro n v m y hy hn ⟨f,rfl,A,B,x⟩;obtain⟨o,M,rfl⟩:=aZ hy;have nl:=(bN.1 M).1;rw[hσ];refine gN (nM ⟨_,rfl,_,rfl,(by show 2<=aj;decide),fun s hs=>?_⟩);have N:ab m (upd m s (.tup [.str "say",.str w])):=ab.new hs;have O:upd m s (.tup [.str "say",.str w]) s=some (.tup ((aV w).map V.str)):=aa;generalize upd m s (.tup [.str "say",.str w])=z at N O ⊢;refine⟨_,rfl,_,rfl,(by show 2<=aj;decide),fun q hq=>⟨(by show 3<=aj;decide),fun d G=>?_⟩⟩;have I:ab z (upd z q (.tup [.str g,.str o])):=ab.new hq;have T:upd z q (.tup [.str g,.str o]) q=some (.tup (FC (g,o))):=aa
  change upd z q (.tup [.str g,.str o]) d=none at G
  generalize upd z q (.tup [.str g,.str o])=C at I T G ⊢;have D:ab C (upd C d (.tup [.ref l,.ref s,.ref q])):=ab.new G;have U:upd C d (.tup [.ref l,.ref s,.ref q]) d=some (.tup [.ref l,.ref s,.ref q]):=aa;generalize upd C d (.tup [.ref l,.ref s,.ref q])=Y at D U ⊢;have a:=N.trans (I.trans D);have kt:j7 Y (upd Y t (.lst (f.map V.ref++[.ref d]))):=cU (a _ _ B);refine⟨a _ _ B,by rw[ag,Paired.length x];unfold mN;rw[ag,aM];exact ao (by omega),jo hn ⟨f++[d],by rw[av];rfl,fun b o e=>?_,aa,?_⟩⟩
  ·rw[am (ae e u)];exact a _ _ (A _ _ e)
  ·unfold mN;rw[take_snoc M,av];refine fF (Paired.mapP x fun _ _ r=>gR.kt (fun b xs e=>kt _ _ (a _ _ e)) r) (gR.kt kt ⟨l,s,q,U,eC.kt (ab.kt ((A.trans a))) hp,(I.trans D) _ _ O,D _ _ T⟩)
inductive mq(K:Za)(C:Addr)(vs:List V)(H:Hp)(Q:VK)(E:XK):Prop
 |mk (M N hr wl:Addr) (p:Str×Str) (J0 J2 J3 asks' says' rooms' wires:Zb) (ds ds':List ak):(vs=[.ref M,.ref N,.ref hr,.ref wl])->(aX C H M J0 J2 J3 ds)->(aX C H N asks' says' rooms' ds')->(eC K H hr (FC p))->(H wl=some (.lst (wires.map V.str)))->(wires.length<=8)->(ds.length<=40)->(ds'.length<=40)->(∀(l:Addr) (us:Ze) (H':Hp),H' l=some (.lst (us.map V.ref))->Paired (gR K H') us (qA ds ds' J2 says' wires p)->H l=none->ab H H'->Q (.ref l) H')->mq K C vs H Q E
theorem Ds{K:Za}{C:Addr}{vs:List V}{H:Hp}{Q:VK}{E:XK}(h:mq K C vs H Q E):qI K (o6 C) (bS Q) (start rk vs) H:=by
 obtain⟨M,N,hr,wl,p,J0,u,J3,L,a,z,l,ds,m,rfl,MM,MN,hp,as,zw,z1,z2,k⟩:=h;refine⟨(by show 0<=aj;decide),fun dl U=>?_⟩;have S0:ab H (upd H dl (.lst [])):=ab.new U;have d0:upd H dl (.lst []) dl=some (.lst (([]:Ze).map V.ref)):=aa;generalize upd H dl (.lst [])=H0 at S0 d0 ⊢;refine⟨_,rfl,wl,rfl,⟨_,au.of (S0 _ _ as)⟩,?_⟩
 let zI:Nat->L2.St->Hp->Prop:=fun i σ s=>Jj fun(v:Ze) (x5 x6 Y:Option V)=>Iy (σ=[some (.ref M),some (.ref N),some (.ref hr),some (.ref wl),some (.ref dl),x5,x6,Y]) (s dl=some (.lst (v.map V.ref))) (Paired (gR K s) v (qA ds m u a (l.take i) p)) (ab H s)
 refine bO (xs:=l.map V.str) zI ⟨[],_,_,_,rfl,d0,.nil,S0⟩ (fun i σ s _ zq=>by obtain⟨_,_,_,_,_,_,_,S⟩:=zq;exact au.of (S _ _ as)) ?_ ?_;rotate_left
 ·rintro σ H1 ⟨v,x5,x6,Y,rfl,hd,hu,S1⟩;rw[ag,bg]at hu;exact⟨_,rfl,k dl v H1 hd hu U S1⟩
 rintro i x σ H1 hx ⟨v,x5,x6,Y,rfl,A,aC,S1⟩;obtain⟨w,hw,rfl⟩:=aZ hx;have il:=(bN.1 hw).1;refine⟨_,rfl,_,rfl,hr,_,1,.str p.2,rfl,rfl,eC.sq (eC.kt (ab.kt S1) hp),cp (j:=1) rfl,_,rfl,N,p.2,w,L,a,z,m,rfl,MN.same S1,fun ol H2 a0 a8 S2=>?_⟩;have al:=S1.trans S2;refine⟨_,rfl,_,rfl,hr,_,0,.str p.1,rfl,rfl,eC.sq (eC.kt (ab.kt al) hp),cp (j:=0) rfl,_,rfl,M,p.1,w,J0,u,J3,ds,rfl,MM.same al,fun gl H3 an a9 S3=>⟨gl,rfl,⟨_,au.of an⟩,?_⟩⟩;have ap:=S2.trans S3;have bb:=S1.trans ap;have bi:ol≠dl:=(ae A a8).symm;have bl:gl≠dl:=(ae (S2 _ _ A) a9).symm;have J:=S3 _ _ a0;have bn:=ap _ _ A;have lG:=mF (ds:=ds) (x:=(p.1,cS u w));have lO:=mF (ds:=m) (x:=(p.2,cS a w));have eW:qA ds m u a (l.take (i+1)) p=qA ds m u a (l.take i) p++u8 ds m u a p w:=by unfold qA;rw[take_snoc hw,nA,wt]
 have lT:(qA ds m u a (l.take i) p).length<=12800:=by
  have h1:=mG (f:=u8 ds m u a p) (n:=1600) (fun w=>EJ z1 z2) (l.take i);rw[aM]at h1;unfold qA;have:min i l.length * 1600<=8 * 1600:=Nat.mul_le_mul_right _ (by omega);omega
 have a4:=Paired.mapP aC fun _ _ r=>gR.kt (ab.kt ap) r;unfold u8 at eW;generalize a_ ds (p.1,cS u w)=G at an lG eW;generalize a_ m (p.2,cS a w)=O at J lO eW;generalize qA ds m u a (l.take i) p=T at a4 eW lT;clear a0 A aC S2 S3 al
 let zJ:Nat->L2.St->Hp->Prop:=fun j σ s=>Ew fun(v:Ze) (Y:Option V)=>JM (σ=[some (.ref M),some (.ref N),some (.ref hr),some (.ref wl),some (.ref dl),some (.str w),some (.ref ol),Y]) (s dl=some (.lst (v.map V.ref))) (Paired (gR K s) v (T++(G.take j).flatMap (mN p w O))) (ab H s) (s ol=some (.lst (O.map V.str))) (s gl=some (.lst (G.map V.str)))
 refine bO (xs:=G.map V.str) zJ ⟨v,_,rfl,bn,by show Paired _ v (T++[]);rw[cM];exact a4,bb,J,an⟩ (fun j σ s _ zq=>by obtain⟨_,_,_,_,_,_,_,h'⟩:=zq;exact au.of h') ?_ ?_
 ·rintro j y σ H4 hy ⟨B,Y,rfl,D,t,S4,I,a5⟩;obtain⟨g,hg,rfl⟩:=aZ hy;have jl:=(bN.1 hg).1;refine⟨_,rfl,.inl ⟨rfl,_,au.of D⟩,_,rfl,ol,rfl,⟨_,au.of I⟩,fun cl bp=>?_⟩;refine Gn (p:=p) (w:=w) (g:=g) rfl I (eC.kt (ab.kt S4) hp) bp (by omega) fun ws H5 h5 a6 S5=>?_;have a7:=S5 _ _ D;have kt:j7 H5 (upd H5 dl (.lst (B.map V.ref++ws.map V.ref))):=cU a7;have lu:=Paired.length t;have lw:=Paired.length a6;have lf:=mG (f:=mN p w O) (n:=40) (fun g=>by unfold mN;rw[ag];omega) (G.take j);rw[aM]at lf;have lm:min j G.length * 40<=40 * 40:=Nat.mul_le_mul_right _ (by omega);rw[aS]at lu;unfold mN at lw;rw[ag]at lw;refine⟨dl,cl,_,_,rfl,rfl,a7,h5,by rw[ag,ag];have:100000<=aj:=(by decide);omega,B++ws,_,rfl,by rw[aa,av],?_,fun b o q=>?_,by rw[am bi];exact S5 _ _ I,by rw[am bl];exact S5 _ _ a5⟩
  ·rw[take_snoc hg,nA,wt,<-dZ];exact Paired.app (Paired.mapP t fun _ _ r=>gR.kt (fun b xs e=>kt _ _ (S5 _ _ e)) r) (Paired.mapP a6 fun _ _ r=>r.kt kt)
  ·rw[am (ae q U)];exact S5 _ _ (S4 _ _ q)
 ·rintro σ H4 ⟨B,Y,rfl,D,t,S4,I,a5⟩;rw[ag,bg,<-eW]at t;exact⟨B,_,_,_,rfl,D,t,S4⟩
def Et(n:Nat):Str:=⟨#[97+n / 26,97+n % 26]⟩
theorem Hx{n m:Nat}(h:Et n=Et m):n=m:=by
 unfold Et at h;injection h with h;injection h with h;injection h with e a;injection a with a _;omega
theorem FN{n:Nat}(h:n<200):oC (Et n):=⟨by show 1<=2;decide,by show 2<=8;decide,fun c a=>by
 have a:c∈[97+n / 26,97+n % 26]:=a;simp only[c8,iR,or_false]at a;unfold uz;omega⟩
def jp(J3 rooms':Zb)(p:Str×Str):Str:=Et (List.idxOf p (aH J3 rooms'))
def i_(ds ds':List ak)(J2 says' wires:Zb)(p:Str×Str):List JD:=oj ds ds' wires p++qA ds ds' J2 says' wires p
def IM(J3 rooms':Zb)(e:JD):ak:=⟨jp J3 rooms' e.a,e.sg,jp J3 rooms' e.b⟩
def zY(ds ds':List ak)(J2 says' J3 rooms' wires:Zb):List JD:=(aH J3 rooms').flatMap (i_ ds ds' J2 says' wires)
def mV(ds ds':List ak)(J2 says' J3 rooms' wires:Zb):List ak:=(zY ds ds' J2 says' J3 rooms' wires).map (IM J3 rooms')
def b_(J3 rooms':Zb):List Str:=(aH J3 rooms').map (jp J3 rooms')
theorem bu{J3 a:Zb}{p:Str×Str}:p∈aH J3 a↔p.1∈J3/\p.2∈a:=by
 unfold aH;rw[fE];constructor
 ·rintro⟨r,e,h⟩;obtain⟨o,f,rfl⟩:=aA.1 h;exact⟨e,f⟩
 ·rintro⟨g,i⟩;exact⟨p.1,g,aA.2 ⟨p.2,i,rfl⟩⟩
theorem km{f e:Zb}(g:f.Nodup)(h:e.Nodup):(aH f e).Nodup:=by
 unfold aH p_;rw[wr];refine⟨fun a _=>?_,nu (fun{a b} n x hx y i=>?_) g⟩
 ·rw[iQ];exact nu (fun{a b} n z=>n (by injection z)) h
 ·obtain⟨_,_,rfl⟩:=aA.1 hx;obtain⟨_,_,rfl⟩:=aA.1 i;intro z;injection z with z;exact n z
theorem iG{J3 rooms':Zb}{p q:Str×Str}(a:p∈aH J3 rooms')(f:q∈aH J3 rooms')(h:jp J3 rooms' p=jp J3 rooms' q):p=q:=by
 have e:=Hx h;have g:=List.idxOf_lt_length_iff.2 a;have i:=List.idxOf_lt_length_iff.2 f;have j:=List.getElem_idxOf g;have k:=List.getElem_idxOf i;rw[<-j,<-k];congr 1
inductive GH(ds ds':List ak)(J2 says' wires:Zb)(p:Str×Str)(sg:Zb)(q:Str×Str):Prop
 |l (b:Str):⟨p.1,sg,b⟩∈ds->cI wires ⟨p.1,sg,b⟩=true->q=(b,p.2)->GH ds ds' J2 says' wires p sg q
 |r (b:Str):⟨p.2,sg,b⟩∈ds'->cI wires ⟨p.2,sg,b⟩=true->q=(p.1,b)->GH ds ds' J2 says' wires p sg q
 |t (w g o:Str):w∈wires->sg=aV w->⟨p.1,cS J2 w,g⟩∈ds->⟨p.2,cS says' w,o⟩∈ds'->q=(g,o)->GH ds ds' J2 says' wires p sg q
theorem cT{f:List ak}{r:Str}{e:Zb}{d:ak}:d∈kD f r e↔d∈f/\d.a=r/\cI e d=true:=by
 unfold kD az;rw[bJ,bJ,decide_eq_true_iff,and_assoc]
theorem fI{x ds':List ak}{y f i:Zb}{p:Str×Str}{e:JD}:e∈i_ x ds' y f i p↔e.a=p/\GH x ds' y f i p e.sg e.b:=by
 unfold i_ oj qA u8 mN;rw[bx,bx,aA,aA,fE];constructor
 ·rintro((⟨d,m,rfl⟩|⟨d,m,rfl⟩)|⟨w,n,h⟩)
  ·obtain⟨j,k,q⟩:=cT.1 m;obtain⟨a,s,b⟩:=d;cases k;exact⟨rfl,.l b j q rfl⟩
  ·obtain⟨j,k,q⟩:=cT.1 m;obtain⟨a,s,b⟩:=d;cases k;exact⟨rfl,.r b j q rfl⟩
  ·obtain⟨g,z,h⟩:=fE.1 h;obtain⟨o,A,rfl⟩:=aA.1 h;exact⟨rfl,.t w g o n rfl (cG.1 z) (cG.1 A) rfl⟩
 ·obtain⟨a,B,b⟩:=e;rintro⟨e,h⟩;have e:a=p:=e;subst e;rcases h with⟨u,j,k,e⟩|⟨u,j,k,e⟩|⟨w,g,o,n,v,j,k,e⟩
  ·have e:b=(u,a.2):=e;subst e;exact .inl (.inl ⟨_,cT.2 ⟨j,rfl,k⟩,rfl⟩)
  ·have e:b=(a.1,u):=e;subst e;exact .inl (.inr ⟨_,cT.2 ⟨j,rfl,k⟩,rfl⟩)
  ·have e:b=(g,o):=e;have v:B=aV w:=v;subst e;subst v;exact .inr ⟨w,n,fE.2 ⟨g,cG.2 j,aA.2 ⟨o,cG.2 k,rfl⟩⟩⟩
theorem GH.in_{s l J3 f e a i:Zb}{n j:List ak}(m:aq s l J3 n)(r:aq f e a j){p q:Str×Str}{t:Zb}(u:p∈aH J3 a)(h:GH n j l e i p t q):q∈aH J3 a:=by
 obtain⟨v,x⟩:=bu.1 u;rcases h with⟨b,k,_,rfl⟩|⟨b,k,_,rfl⟩|⟨w,g,o,_,_,k,y,rfl⟩
 ·exact bu.2 ⟨(m.good _ k).b,x⟩
 ·exact bu.2 ⟨v,(r.good _ k).b⟩
 ·exact bu.2 ⟨(m.good _ k).b,(r.good _ y).b⟩
theorem hC{t o l j g f i:Zb}{r k:List ak}(m:aq t o l r)(u:aq j g f k){d:ak}:d∈mV r k o g l f i↔∃p q,p∈aH l f/\q∈aH l f/\GH r k o g i p d.sg q/\d=⟨jp l f p,d.sg,jp l f q⟩:=by
 unfold mV zY;rw[aA];constructor
 ·rintro⟨e,s,rfl⟩;obtain⟨p,n,s⟩:=fE.1 s;obtain⟨rfl,h⟩:=fI.1 s;exact⟨e.a,e.b,n,h.in_ m u n,h,rfl⟩
 ·rintro⟨p,q,n,v,h,e⟩;exact⟨⟨p,d.sg,q⟩,fE.2 ⟨p,n,fI.2 ⟨rfl,h⟩⟩,e.symm⟩
theorem rP{f:List ak}(h:f.Nodup)(x:Str×List Str):(a_ f x).Nodup:=by
 unfold a_;have j:(f.filter fun d=>decide (d.a=x.1/\d.sg=x.2)).Nodup:=h.filter _;unfold p_;rw[iQ];refine p9 (fun{d e} k l n z=>n ?_) j;obtain⟨a1,a2⟩:=of_decide_eq_true (bJ.1 k).2;obtain⟨g,i⟩:=of_decide_eq_true (bJ.1 l).2;obtain⟨a,s,b⟩:=d;obtain⟨m,o,p⟩:=e;simp only at a1 a2 g i z;rw[a1,a2,g,i,z]
theorem eQ{e:Zb}{a b k w:Str}(h:cI e ⟨a,[k,w],b⟩=true):w∉e:=by
 unfold cI nN at h;rw[zzr0 (show ¬[k,w]=ay from fun z=>by cases z)]at h;intro z;have h:(!decide (w∈e))=true:=h;rw[zzr1 z]at h;cases h
theorem yT{i g f e:Zb}(j:g.Nodup)(k:e.Nodup)(l:∀w∈g,w∉e):(aF i g f e).Nodup:=by
 unfold aF;refine dq.2 ⟨j.filter _,k.filter _,fun a h b m z=>?_⟩;rw[z]at h;exact l b (bJ.1 h).1 (bJ.1 m).1
theorem cR{f g a e:Zb}{w:Str}:w∈aF f g a e↔(w∈g/\w∈a)∨(w∈e/\w∈f):=by
 unfold aF;rw[bx,bJ,bJ,decide_eq_true_iff,decide_eq_true_iff]
theorem gM{J0 f a e:Zb}{w:Str}:w∈cz J0 f a e↔(w∈J0∨w∈a)/\w∉aF J0 f a e:=by
 unfold cz;rw[bJ,bx,Bool.not_eq_true',decide_eq_false_iff_not]
section
variable{J0 J2 J3 asks' says' rooms':Zb}{ds ds':List ak}
theorem wb(m:aq J0 J2 J3 ds)(r:aq asks' says' rooms' ds')(J:JoinOk J0 J2 J3 asks' says' rooms' ds ds'):(mV ds ds' J2 says' J3 rooms' (aF J0 J2 asks' says')).Nodup:=by
 unfold mV zY p_;rw[iQ,wr];have inj:=fun{p q:Str×Str}=>iG (J3:=J3) (rooms':=rooms') (p:=p) (q:=q);refine⟨fun p v=>?_,p9 (fun{p q} v I n x hx y i z=>?_) (km m.okR.1 r.okR.1)⟩
 ·obtain⟨U,Y⟩:=bu.1 v;have same:∀{x y:JD},x∈i_ ds ds' J2 says' (aF J0 J2 asks' says') p->y∈i_ ds ds' J2 says' (aF J0 J2 asks' says') p->IM J3 rooms' x=IM J3 rooms' y->x.sg=y.sg/\x.b=y.b:=fun{x y} hx i z=>by
   unfold IM at z;injection z with _ h H;exact⟨h,inj ((fI.1 hx).2.in_ m r v) ((fI.1 i).2.in_ m r v) H⟩
  have big:(i_ ds ds' J2 says' (aF J0 J2 asks' says') p).Pairwise fun x y=>¬(x.sg=y.sg/\x.b=y.b):=by
   have L:∀{x:JD},x∈oj ds ds' (aF J0 J2 asks' says') p->∀{k w:Str},x.sg=[k,w]->w∉aF J0 J2 asks' says':=fun{x} hx {k w} e=>by
    unfold oj at hx;rcases bx.1 hx with hx|hx
    ·obtain⟨d,j,rfl⟩:=aA.1 hx;obtain⟨_,_,A⟩:=cT.1 j;obtain⟨a,s,b⟩:=d;have e:s=[k,w]:=e;rw[e]at A;exact eQ A
    ·obtain⟨d,j,rfl⟩:=aA.1 hx;obtain⟨_,_,A⟩:=cT.1 j;obtain⟨a,s,b⟩:=d;have e:s=[k,w]:=e;rw[e]at A;exact eQ A
   unfold i_;refine List.pairwise_append.2 ⟨?_,?_,fun x hx y i z=>?_⟩
   ·unfold oj;refine List.pairwise_append.2 ⟨?_,?_,fun x hx y i z=>?_⟩
    ·rw[iQ];have C:(kD ds p.1 (aF J0 J2 asks' says')).Nodup:=(m.nodup.filter _).filter _;refine p9 (fun{d e} j B n z=>n ?_) C;obtain⟨_,a1,_⟩:=cT.1 j;obtain⟨_,u,_⟩:=cT.1 B;obtain⟨a,s,b⟩:=d;obtain⟨M,N,O⟩:=e;obtain⟨f,h⟩:=z;simp only at a1 u f h;injection h with h;rw[a1,u,f,h]
    ·rw[iQ];have C:(kD ds' p.2 (aF J0 J2 asks' says')).Nodup:=(r.nodup.filter _).filter _;refine p9 (fun{d e} j B n z=>n ?_) C;obtain⟨_,a1,_⟩:=cT.1 j;obtain⟨_,u,_⟩:=cT.1 B;obtain⟨a,s,b⟩:=d;obtain⟨M,N,O⟩:=e;obtain⟨f,h⟩:=z;simp only at a1 u f h;injection h with _ h;rw[a1,u,f,h]
    ·obtain⟨d,j,rfl⟩:=aA.1 hx;obtain⟨e,B,rfl⟩:=aA.1 i;obtain⟨D,a1,_⟩:=cT.1 j;obtain⟨E,u,_⟩:=cT.1 B;obtain⟨f,h⟩:=z;have f:d.sg=e.sg:=f;have h:(d.b,p.2)=(p.1,e.b):=h;injection h with h H;rcases(m.good d D).sg with⟨w,l,q⟩|⟨w,l,q⟩|q<;>rcases(r.good e E).sg with⟨G,t,q'⟩|⟨G,t,q'⟩|q'<;>rw[q,q']at f
     ·injection f with _ f;injection f with f;rw[f]at l;exact J.apA _ l t
     ·injection f with f;exact absurd f (by decide)
     ·cases f
     ·injection f with f;exact absurd f (by decide)
     ·injection f with _ f;injection f with f;rw[f]at l;exact J.apS _ l t
     ·cases f
     ·cases f
     ·cases f
     ·refine m.noround p.1 (.one ?_);obtain⟨a,s,b⟩:=d;simp only at a1 q h;rw[<-q];rw[a1,h]at D;exact D
   ·unfold qA;rw[wr];refine⟨fun w l=>?_,nu (fun{w G} n x hx y i z=>n ?_) (yT m.okS.1 r.okS.1 J.apS)⟩
    ·unfold u8;rw[wr];refine⟨fun g hg=>?_,nu (fun{g g'} n x hx y i z=>n ?_) (rP m.nodup _)⟩
     ·unfold mN;rw[iQ];refine nu (fun{o Q} n z=>n ?_) (rP r.nodup _);have h:(g,o)=(g,Q):=z.2;injection h
     ·unfold mN at hx i;obtain⟨_,_,rfl⟩:=aA.1 hx;obtain⟨_,_,rfl⟩:=aA.1 i;have h:=z.2;simp only at h;injection h
    ·unfold u8 mN at hx i;obtain⟨_,_,hx⟩:=fE.1 hx;obtain⟨_,_,i⟩:=fE.1 i;obtain⟨_,_,rfl⟩:=aA.1 hx;obtain⟨_,_,rfl⟩:=aA.1 i;have f:aV w=aV G:=z.1;unfold aV at f;injection f with _ f;injection f
   ·unfold qA u8 mN at i;obtain⟨w,l,i⟩:=fE.1 i;obtain⟨_,_,i⟩:=fE.1 i;obtain⟨_,_,rfl⟩:=aA.1 i;exact L hx (show x.sg=[("say":Str),w]from z.1) l
  exact p9 (fun{x y} hx i n z=>n (same hx i z)) big
 ·have E:=(fI.1 hx).1;have T:=(fI.1 i).1;unfold IM at z;injection z with z;rw[E,T]at z;exact n (inj v I z)
def kZ(ds:List ak)(a b:Str):Prop:=b=a∨Reach ds a b
theorem kZ.trans{ds:List ak}{a b c:Str}(h1:kZ ds a b)(h2:kZ ds b c):kZ ds a c:=by
 rcases h1 with rfl|h1
 ·exact h2
 ·rcases h2 with rfl|h2
  ·exact .inr h1
  ·exact .inr (h1.trans h2)
theorem mh{p q:Str×Str}{f:Zb}:GH ds ds' J2 says' f p ay q↔(∃b,(⟨p.1,ay,b⟩:ak)∈ds/\q=(b,p.2))∨∃b,(⟨p.2,ay,b⟩:ak)∈ds'/\q=(p.1,b):=by
 constructor
 ·rintro(⟨b,h,_,rfl⟩|⟨b,h,_,rfl⟩|⟨w,g,o,j,e,_⟩)
  ·exact .inl ⟨b,h,rfl⟩
  ·exact .inr ⟨b,h,rfl⟩
  ·cases e
 ·have i:∀a b:Str,cI f ⟨a,ay,b⟩=true:=fun a b=>by unfold cI;rw[zzr1 rfl];rfl
  rintro(⟨b,h,rfl⟩|⟨b,h,rfl⟩)
  ·exact .l b h (i _ _) rfl
  ·exact .r b h (i _ _) rfl
theorem Fa(m:aq J0 J2 J3 ds)(n:aq asks' says' rooms' ds'){f:Zb}{x y:Str}(h:Reach (mV ds ds' J2 says' J3 rooms' f) x y):∃p q,p∈aH J3 rooms'/\q∈aH J3 rooms'/\x=jp J3 rooms' p/\y=jp J3 rooms' q/\kZ ds p.1 q.1/\kZ ds' p.2 q.2/\(Reach ds p.1 q.1∨Reach ds' p.2 q.2):=by
 induction h with
 |one h =>
  obtain⟨p,q,g,i,st,e⟩:=(hC m n).1 h;injection e with j _ k;refine⟨p,q,g,i,j,k,?_⟩;rcases mh.1 st with⟨b,a,rfl⟩|⟨b,a,rfl⟩
  ·exact⟨.inr (.one a),.inl rfl,.inl (.one a)⟩
  ·exact⟨.inl rfl,.inr (.one a),.inr (.one a)⟩
 |step r h o =>
  obtain⟨p,q,g,i,j,k,l1,l2,A⟩:=o;obtain⟨t,s,l,u,st,e⟩:=(hC m n).1 h;injection e with v _ z;obtain rfl:q=t:=iG i l (k.symm.trans v);refine⟨p,s,g,u,j,z,?_⟩;rcases mh.1 st with⟨b,a,rfl⟩|⟨b,a,rfl⟩
  ·exact⟨l1.trans (.inr (.one a)),l2,.inl (by rcases l1 with e|l1;rw[<-e];exact .one a;exact .step l1 a)⟩
  ·exact⟨l1,l2.trans (.inr (.one a)),.inr (by rcases l2 with e|l2;rw[<-e];exact .one a;exact .step l2 a)⟩
theorem IR(m:aq J0 J2 J3 ds)(j:aq asks' says' rooms' ds'){e:Zb}{a b o:Str}(g:a∈J3)(i:o∈rooms')(h:kZ ds a b):kZ (mV ds ds' J2 says' J3 rooms' e) (jp J3 rooms' (a,o)) (jp J3 rooms' (b,o)):=by
 rcases h with rfl|h
 ·exact .inl rfl
 ·have f:∀{a b:Str},a∈J3->(⟨a,ay,b⟩:ak)∈ds->(⟨jp J3 rooms' (a,o),ay,jp J3 rooms' (b,o)⟩:ak)∈mV ds ds' J2 says' J3 rooms' e:=fun{a b} g h=>(hC m j).2 ⟨(a,o),(b,o),bu.2 ⟨g,i⟩,bu.2 ⟨(m.good _ h).b,i⟩,mh.2 (.inl ⟨b,h,rfl⟩),rfl⟩;refine .inr ?_
  induction h with
  |one h=>exact .one (f g h)
  |step r h k=>exact .step k (f (m.good _ h).a h)
theorem IQ(m:aq J0 J2 J3 ds)(g:aq asks' says' rooms' ds'){e:Zb}{a b o:Str}(i:a∈rooms')(j:o∈J3)(h:kZ ds' a b):kZ (mV ds ds' J2 says' J3 rooms' e) (jp J3 rooms' (o,a)) (jp J3 rooms' (o,b)):=by
 rcases h with rfl|h
 ·exact .inl rfl
 ·have f:∀{a b:Str},a∈rooms'->(⟨a,ay,b⟩:ak)∈ds'->(⟨jp J3 rooms' (o,a),ay,jp J3 rooms' (o,b)⟩:ak)∈mV ds ds' J2 says' J3 rooms' e:=fun{a b} i h=>(hC m g).2 ⟨(o,a),(o,b),bu.2 ⟨j,i⟩,bu.2 ⟨j,(g.good _ h).b⟩,mh.2 (.inr ⟨b,h,rfl⟩),rfl⟩;refine .inr ?_
  induction h with
  |one h=>exact .one (f i h)
  |step r h k=>exact .step k (f (g.good _ h).a h)
theorem HA(m:aq J0 J2 J3 ds)(f:aq asks' says' rooms' ds'){a:Zb}{p q:Str×Str}(g:p∈aH J3 rooms')(i:q∈aH J3 rooms'):kZ (mV ds ds' J2 says' J3 rooms' a) (jp J3 rooms' p) (jp J3 rooms' q)↔kZ ds p.1 q.1/\kZ ds' p.2 q.2:=by
 constructor
 ·rintro(e|h)
  ·rw[iG i g e];exact⟨.inl rfl,.inl rfl⟩
  ·obtain⟨y,z,j,k,n,o,r,s,_⟩:=Fa m f h;rw[iG g j n,iG i k o];exact⟨r,s⟩
 ·rintro⟨t,u⟩;obtain⟨v,l⟩:=bu.1 g;obtain⟨x,A⟩:=bu.1 i;exact(IR m f v l t).trans (IQ m f l x u)
theorem FQ(m:aq J0 J2 J3 ds)(i:aq asks' says' rooms' ds')(J:JoinOk J0 J2 J3 asks' says' rooms' ds ds')(few:(mV ds ds' J2 says' J3 rooms' (aF J0 J2 asks' says')).length<=1000):
  aq (cz J0 J2 asks' says') (J2++says') (b_ J3 rooms') (mV ds ds' J2 says' J3 rooms' (aF J0 J2 asks' says')) where
 okA:=⟨by unfold cz;exact(dq.2 ⟨m.okA.1,i.okA.1,fun a ha b t z=>J.apA a ha (z▸t)⟩).filter _,fun w f=>(gM.1 f).1.elim (m.okA.2 w) (i.okA.2 w)⟩
 okS:=⟨dq.2 ⟨m.okS.1,i.okS.1,fun a ha b t z=>J.apS a ha (z▸t)⟩,fun w f=>(bx.1 f).elim (m.okS.2 w) (i.okS.2 w)⟩
 apart:=fun w f z=>by
  obtain⟨k,j⟩:=gM.1 z;rcases bx.1 f with hs|hs<;>rcases k with ha|ha
  ·exact m.apart w hs ha
  ·exact j (cR.2 (.inl ⟨hs,ha⟩))
  ·exact j (cR.2 (.inr ⟨hs,ha⟩))
  ·exact i.apart w hs ha
 okR:=by
  unfold b_;refine⟨?_,fun w f=>?_⟩
  ·unfold p_;rw[iQ];exact p9 (fun{p q} l s n z=>n (iG l s z)) (km m.okR.1 i.okR.1)
  ·obtain⟨p,l,rfl⟩:=aA.1 f;have:=List.idxOf_lt_length_iff.2 l;rw[fG]at this;have:J3.length * rooms'.length<=10 * 10:=nv J.r1 J.r2;exact FN (by omega)
 asks0:=J.a0
 says0:=fun z=>m.says0 (List.append_eq_nil_iff.1 z).1
 rooms0:=fun z=>by
  unfold b_ at z;have z:=congrArg List.length z;rw[ag,fG,nH]at z;have k:=wu.2 m.rooms0;have j:=wu.2 i.rooms0;have:=Nat.mul_pos k j;omega
 asks4:=J.a4
 says4:=J.s4
 rooms26:=by
  unfold b_;rw[ag,fG];have:J3.length * rooms'.length<=10 * 10:=nv J.r1 J.r2;omega
 nodup:=wb m i J
 good:=fun d v=>by
  obtain⟨p,q,l,s,st,e⟩:=(hC m i).1 v;refine⟨by rw[e];exact e_ l,by rw[e];exact e_ s,?_⟩;rcases st with⟨b,k,j,_⟩|⟨b,k,j,_⟩|⟨w,g,o,f,x,_⟩
  ·rcases(m.good _ k).sg with⟨w,f,e'⟩|⟨w,f,e'⟩|e'
   ·have e':d.sg=[("ask":Str),w]:=e';rw[e']at j;exact .inl ⟨w,gM.2 ⟨.inl f,eQ j⟩,e'⟩
   ·exact .inr (.inl ⟨w,bV _ f,e'⟩)
   ·exact .inr (.inr e')
  ·rcases(i.good _ k).sg with⟨w,f,e'⟩|⟨w,f,e'⟩|e'
   ·have e':d.sg=[("ask":Str),w]:=e';rw[e']at j;exact .inl ⟨w,gM.2 ⟨.inr f,eQ j⟩,e'⟩
   ·exact .inr (.inl ⟨w,cx _ f,e'⟩)
   ·exact .inr (.inr e')
  ·refine .inr (.inl ⟨w,?_,x⟩);rcases cR.1 f with h|h
   ·exact bV _ h.1
   ·exact cx _ h.1
 few:=few
 noround:=fun r h=>by
  obtain⟨p,q,l,s,y,A,_,_,u⟩:=Fa m i h;rw[iG l s (y.symm.trans A)]at u;exact u.elim (m.noround _) (i.noround _)
end
def fm(J3 rooms' f g:Zb):List Str:=((aH J3 rooms').filter fun p=>decide (p.1∈f) && decide (p.2∈g)).map (jp J3 rooms')
def gf(J0 J2 sg:Zb):Option (List Str):=if sg=ba then some sg else if nN sg∈J0 then some (bm (nN sg))else if nN sg∈J2 then some (aV (nN sg))else none
def besF(J0 J2 J3:Zb)(ds:List ak)(f sg:Zb):List Str:=((gf J0 J2 sg).map (behF J3 ds f)).getD f
theorem jU{J3 a f g:Zb}{x:Str}:x∈fm J3 a f g↔∃p,p∈aH J3 a/\p.1∈f/\p.2∈g/\x=jp J3 a p:=by
 unfold fm;rw[aA];constructor
 ·rintro⟨p,i,rfl⟩;obtain⟨h,e⟩:=bJ.1 i;rw[ka,decide_eq_true_iff,decide_eq_true_iff]at e;exact⟨p,h,e.1,e.2,rfl⟩
 ·rintro⟨p,h,e,j,rfl⟩;exact⟨p,bJ.2 ⟨h,by rw[ka,decide_eq_true_iff,decide_eq_true_iff];exact⟨e,j⟩⟩,rfl⟩
theorem lM{J3 e f g:Zb}(hf:∀r∈f,r∈J3)(m:∀r∈g,r∈e):fm J3 e f g≠[]↔f≠[]/\g≠[]:=by
 constructor
 ·intro h;obtain⟨x,hx⟩:=nr _ h;obtain⟨p,_,i,j,_⟩:=jU.1 hx;exact⟨np i,np j⟩
 ·rintro⟨i,j⟩;obtain⟨a,k⟩:=nr _ i;obtain⟨b,l⟩:=nr _ j;exact np (jU.2 ⟨(a,b),bu.2 ⟨hf a k,m b l⟩,k,l,rfl⟩)
theorem qS{J3 a f g:Zb}:∀r∈fm J3 a f g,r∈b_ J3 a:=fun r e=>by
 obtain⟨p,h,_,_,rfl⟩:=jU.1 e;exact e_ h
theorem DA{e a f g:Zb}:(fm e a f g).length<=e.length * a.length:=by
 unfold fm;rw[ag,<-fG];exact bo _ _
def GG(ds:List ak)(f sg:Zb)(r:Str):Prop:=∃a∈f,∃b,(⟨a,sg,b⟩:ak)∈ds/\kZ ds b r
theorem fq{k f e:Zb}{ds:List ak}{r:Str}(l:e≠ba)(m:r∈k):r∈behF k ds f e↔GG ds f e r:=by
 unfold behF;rw[if_neg l,jW];constructor
 ·rintro⟨_,g,n,h⟩;obtain⟨a,i,j⟩:=ee.1 n;exact⟨a,i,g,j,h⟩
 ·rintro⟨a,i,b,j,h⟩;exact⟨m,b,ee.2 ⟨a,i,j⟩,h⟩
theorem Al.led{g:List ak}{f:Zb}(h:Al g f){a b:Str}(i:a∈f)(r:kZ g a b):b∈f:=by
 rcases r with rfl|r
 ·exact i
 ·induction r with
  |one e=>exact h _ e rfl i
  |step _ e j=>exact h _ e rfl j
section
variable{J0 J2 J3 asks' says' rooms':Zb}{ds ds':List ak}
def XJ(ds ds':List ak)(J2 says' J3 rooms' wires f f' sg:Zb)(q:Str×Str):Prop:=∃p b,p∈aH J3 rooms'/\p.1∈f/\p.2∈f'/\GH ds ds' J2 says' wires p sg b/\kZ ds b.1 q.1/\kZ ds' b.2 q.2
theorem HD(m:aq J0 J2 J3 ds)(j:aq asks' says' rooms' ds'){a f u v:Zb}{q:Str×Str}(x:q∈aH J3 rooms'):gS (mV ds ds' J2 says' J3 rooms' a) (dg (mV ds ds' J2 says' J3 rooms' a) v (fm J3 rooms' f u)) (jp J3 rooms' q)↔XJ ds ds' J2 says' J3 rooms' a f u v q:=by
 constructor
 ·rintro⟨g,y,h⟩;obtain⟨r,z,A⟩:=ee.1 y;obtain⟨p,i,l,n,rfl⟩:=jU.1 z;obtain⟨D,b,o,k,st,e⟩:=(hC m j).1 A;injection e with B _ C;obtain rfl:=iG i o B;have h:kZ _ g _:=h;rw[C]at h;obtain⟨s,t⟩:=(HA m j k x).1 h;exact⟨p,b,i,l,n,st,s,t⟩
 ·rintro⟨p,b,i,l,n,st,s,t⟩;have k:=st.in_ m j i;exact⟨jp J3 rooms' b,ee.2 ⟨jp J3 rooms' p,jU.2 ⟨p,i,l,n,rfl⟩,(hC m j).2 ⟨p,b,i,k,st,rfl⟩⟩,(HA m j k x).2 ⟨s,t⟩⟩
theorem wd{a g e:Zb}{D:List ak}(h:∀q∈aH J3 rooms',gS D a (jp J3 rooms' q)↔q.1∈g/\q.2∈e):closF (b_ J3 rooms') D a=fm J3 rooms' g e:=by
 unfold closF fm b_;rw[List.filter_map];congr 1;refine le fun q f=>?_;rw[k7];simp only[Function.comp,decide_eq_true_iff,ka];exact h q f
theorem CJ{g f f' h:Zb}{q:Str×Str}(hf:∀r∈f,r∈J3)(j:∀r∈f',r∈rooms')(o:Al ds' f')(s:∀a b,(⟨a,h,b⟩:ak)∉ds')(t:∀a b,cI g ⟨a,h,b⟩=true)(u:∀w∈g,h≠aV w):
  XJ ds ds' J2 says' J3 rooms' g f f' h q↔GG ds f h q.1/\q.2∈f':=by
 constructor
 ·rintro⟨p,b,A,v,x,st,k,y⟩;rcases st with⟨c,i,_,rfl⟩|⟨c,i,_⟩|⟨w,_,_,z,e,_⟩
  ·exact⟨⟨p.1,v,c,i,k⟩,o.led x y⟩
  ·exact absurd i (s _ _)
  ·exact absurd e (u w z)
 ·rintro⟨⟨a,m,c,i,k⟩,n⟩;exact⟨(a,q.2),(c,q.2),bu.2 ⟨hf a m,j _ n⟩,m,n,.l c i (t _ _) rfl,k,.inl rfl⟩
theorem Ak{g f f' h:Zb}{q:Str×Str}(hf:∀r∈f,r∈J3)(j:∀r∈f',r∈rooms')(n:Al ds f)(o:∀a b,(⟨a,h,b⟩:ak)∉ds)(s:∀a b,cI g ⟨a,h,b⟩=true)(t:∀w∈g,h≠aV w):
  XJ ds ds' J2 says' J3 rooms' g f f' h q↔q.1∈f/\GG ds' f' h q.2:=by
 constructor
 ·rintro⟨p,b,z,u,v,st,k,x⟩;rcases st with⟨c,i,_⟩|⟨c,i,_,rfl⟩|⟨w,_,_,y,e,_⟩
  ·exact absurd i (o _ _)
  ·exact⟨n.led u k,⟨p.2,v,c,i,x⟩⟩
  ·exact absurd e (t w y)
 ·rintro⟨l,⟨a,m,c,i,k⟩⟩;exact⟨(q.1,a),(q.1,c),bu.2 ⟨hf _ l,j _ m⟩,l,m,.r c i (s _ _) rfl,.inl rfl,k⟩
theorem CK{h f l:Zb}{w:Str}{q:Str×Str}(hf:∀r∈f,r∈J3)(m:∀r∈l,r∈rooms')(n:w∈h):
  XJ ds ds' J2 says' J3 rooms' h f l (aV w) q↔GG ds f (cS J2 w) q.1/\GG ds' l (cS says' w) q.2:=by
 constructor
 ·rintro⟨p,b,E,z,A,st,s,B⟩;rcases st with⟨c,i,j,_⟩|⟨c,i,j,_⟩|⟨G,g,o,C,e,i,j,rfl⟩
  ·exact absurd n (eQ j)
  ·exact absurd n (eQ j)
  ·unfold aV at e;injection e with _ e;injection e with e;rw[<-e]at i j;exact⟨⟨p.1,z,g,i,s⟩,⟨p.2,A,o,j,B⟩⟩
 ·rintro⟨⟨a,x,c,i,s⟩,⟨D,k,y,u,v⟩⟩;exact⟨(a,D),(c,y),bu.2 ⟨hf _ x,m _ k⟩,x,k,.t w c y n rfl i u rfl,s,v⟩
theorem jV{r:Str}:r∈ef ds↔∃d∈ds,dP d=false/\d.a=r:=by
 unfold ef;rw[aA];constructor
 ·rintro⟨d,h,e⟩;obtain⟨f,g⟩:=bJ.1 h;exact⟨d,f,by simpa using g,e⟩
 ·rintro⟨d,f,g,e⟩;exact⟨d,bJ.2 ⟨f,by rw[g];rfl⟩,e⟩
theorem jX{a w b:Str}(h:(⟨a,aV w,b⟩:ak)∈ds):a∈ef ds:=jV.2 ⟨_,h,by show decide (("say":Str)="ask")=false;decide,rfl⟩
theorem i5{a b:Str}(h:(⟨a,ay,b⟩:ak)∈ds):a∈ef ds:=jV.2 ⟨_,h,by show decide (("still":Str)="ask")=false;decide,rfl⟩
theorem zV(m:aq J0 J2 J3 ds){r:Str}(h:r∈ef ds):∃b,(∃w∈J2,(⟨r,aV w,b⟩:ak)∈ds)∨(⟨r,ay,b⟩:ak)∈ds:=by
 obtain⟨d,f,g,rfl⟩:=jV.1 h;obtain⟨a,s,b⟩:=d;rcases(m.good _ f).sg with⟨w,i,e⟩|⟨w,i,e⟩|e
 ·have e:s=[("ask":Str),w]:=e;subst e;have g:decide (("ask":Str)="ask")=false:=g;exact absurd g (by decide)
 ·have e:s=[("say":Str),w]:=e;subst e;exact⟨b,.inl ⟨w,i,f⟩⟩
 ·have e:s=ay:=e;subst e;exact⟨b,.inr f⟩
theorem Jz(m:aq J0 J2 J3 ds)(u:aq asks' says' rooms' ds')(J:JoinOk J0 J2 J3 asks' says' rooms' ds ds')(tk:∀r∈J3,∀a∈J0,dY ds r a)(A:∀r∈rooms',∀a∈asks',dY ds' r a){p:Str×Str}(v:p∈aH J3 rooms'):
  jp J3 rooms' p∈ef (mV ds ds' J2 says' J3 rooms' (aF J0 J2 asks' says'))↔p.1∈ef ds∨p.2∈ef ds':=by
 obtain⟨L,M⟩:=bu.1 v;have f:∀{y q},GH ds ds' J2 says' (aF J0 J2 asks' says') p y q->(⟨jp J3 rooms' p,y,jp J3 rooms' q⟩:ak)∈mV ds ds' J2 says' J3 rooms' (aF J0 J2 asks' says'):=fun{y q} st=>(hC m u).2 ⟨p,q,v,st.in_ m u v,st,rfl⟩;constructor
 ·intro h;obtain⟨d,hd,G,e⟩:=jV.1 h;obtain⟨O,q,B,Q,st,N⟩:=(hC m u).1 hd;have H:=congrArg ak.a N;rw[e]at H;obtain rfl:=iG v B H;obtain⟨T,y,U⟩:=d;rcases st with⟨c,k,_⟩|⟨c,k,_⟩|⟨w,g,o,j,Y,k,C,_⟩
  ·exact .inl (jV.2 ⟨_,k,G,rfl⟩)
  ·exact .inr (jV.2 ⟨_,k,G,rfl⟩)
  ·rcases cR.1 j with⟨a,_⟩|⟨a,_⟩
   ·unfold cS at k;rw[if_pos a]at k;exact .inl (jX k)
   ·unfold cS at C;rw[if_pos a]at C;exact .inr (jX C)
 ·have i:∀(W:Zb) (a b:Str),cI W ⟨a,ay,b⟩=true:=fun W a b=>by unfold cI;rw[zzr1 rfl];rfl
  have s:∀{W:Zb}{w:Str}(a b:Str),w∉W->cI W ⟨a,aV w,b⟩=true:=fun{W w} a b h=>by
   unfold cI;rw[tN];refine .inr ?_;show(!decide (w∈W))=true;rw[zzr0 h];rfl
  rintro(h|h)
  ·obtain⟨b,⟨w,j,hd⟩|hd⟩:=zV m h
   ·by_cases c:w∈aF J0 J2 asks' says'
    ·have n:w∈asks':=by
      rcases cR.1 c with⟨_,a⟩|⟨a,_⟩
      ·exact a
      ·exact absurd a (J.apS w j)
     obtain⟨x,hx,o,D⟩:=A p.2 M w n;rcases hx with rfl|hx
     ·refine jX (w:=w) (f (.t w b o c rfl ?_ ?_ rfl))
      ·unfold cS;rw[if_pos j];exact hd
      ·unfold cS;rw[if_neg (J.apS w j)];exact D
     ·obtain⟨g,E,_⟩:=hx.front;exact i5 (f (.r g E (i _ _ _) rfl))
    ·exact jX (f (.l b hd (s _ _ c) rfl))
   ·exact i5 (f (.l b hd (i _ _ _) rfl))
  ·obtain⟨b,⟨w,j,hd⟩|hd⟩:=zV u h
   ·have I:w∉J2:=fun z=>J.apS w z j;by_cases c:w∈aF J0 J2 asks' says'
    ·have n:w∈J0:=by
      rcases cR.1 c with⟨a,_⟩|⟨_,a⟩
      ·exact absurd a I
      ·exact a
     obtain⟨x,hx,o,D⟩:=tk p.1 L w n;rcases hx with rfl|hx
     ·refine jX (w:=w) (f (.t w o b c rfl ?_ ?_ rfl))
      ·unfold cS;rw[if_neg I];exact D
      ·unfold cS;rw[if_pos j];exact hd
     ·obtain⟨g,E,_⟩:=hx.front;exact i5 (f (.l g E (i _ _ _) rfl))
    ·exact jX (f (.r b hd (s _ _ c) rfl))
   ·exact i5 (f (.r b hd (i _ _ _) rfl))
theorem kA{A S:Zb}:gf A S ba=some ba:=by unfold gf;rw[if_pos rfl]
theorem qX{A S:Zb}{w:Str}:gf A S (bm w)=if w∈A then some (bm w)else if w∈S then some (aV w)else none:=by unfold gf;rw[if_neg (fun z=>by cases z)];rfl
theorem mE{A S:Zb}{w:Str}:gf A S (aV w)=if w∈A then some (bm w)else if w∈S then some (aV w)else none:=by unfold gf;rw[if_neg (fun z=>by cases z)];rfl
def SgJ(J0 J2 asks' says' sg:Zb):Prop:=(∃w∈cz J0 J2 asks' says',sg=bm w)∨(∃w∈J2++says',sg=aV w)∨sg=ba
theorem uS(m:aq J0 J2 J3 ds)(u:aq asks' says' rooms' ds')(J:JoinOk J0 J2 J3 asks' says' rooms' ds ds')(tk:∀r∈J3,∀a∈J0,dY ds r a)(T:∀r∈rooms',∀a∈asks',dY ds' r a){f g sg:Zb}(hf:∀r∈f,r∈J3)(i:∀r∈g,r∈rooms')(sh:Al ds f)(v:Al ds' g)(hs:SgJ J0 J2 asks' says' sg):
  behF (b_ J3 rooms') (mV ds ds' J2 says' J3 rooms' (aF J0 J2 asks' says')) (fm J3 rooms' f g) sg=fm J3 rooms' (besF J0 J2 J3 ds f sg) (besF asks' says' rooms' ds' g sg):=by
 by_cases U:sg=ba
 ·subst U;unfold besF;rw[kA,kA];show behF _ _ _ ba=fm _ _ (behF J3 ds f ba) (behF rooms' ds' g ba);unfold behF;rw[if_pos rfl,if_pos rfl,if_pos rfl];unfold fm;rw[List.filter_map,List.filter_filter];congr 1;refine le fun p hp=>?_;have:=Jz m u J tk T hp;rw[k7];simp only[ka,decide_eq_true_iff,bJ,Function.comp];rw[this,not_or];constructor
  ·rintro⟨⟨a,b⟩,c,d⟩;exact⟨⟨c,a⟩,d,b⟩
  ·rintro⟨⟨c,a⟩,d,b⟩;exact⟨⟨a,b⟩,c,d⟩
 have x:∀q∈aH J3 rooms',XJ ds ds' J2 says' J3 rooms' (aF J0 J2 asks' says') f g sg q↔q.1∈besF J0 J2 J3 ds f sg/\q.2∈besF asks' says' rooms' ds' g sg:=by
  intro q H;obtain⟨I,L⟩:=bu.1 H;have N:∀{w:Str},bm w≠ba:=fun z=>by cases z
  have O:∀{w:Str},aV w≠ba:=fun z=>by cases z
  have y:∀{w:Str},w∉aF J0 J2 asks' says'->∀a b,cI (aF J0 J2 asks' says') ⟨a,bm w,b⟩=true:=fun{w} h a b=>by
   unfold cI;rw[tN];refine .inr ?_;show(!decide (w∈aF J0 J2 asks' says'))=true;rw[zzr0 h];rfl
  have B:∀{w:Str},w∉aF J0 J2 asks' says'->∀a b,cI (aF J0 J2 asks' says') ⟨a,aV w,b⟩=true:=fun{w} h a b=>by
   unfold cI;rw[tN];refine .inr ?_;show(!decide (w∈aF J0 J2 asks' says'))=true;rw[zzr0 h];rfl
  have C:∀{A S R:Zb}{D:List ak}{w:Str},aq A S R D->w∉A->∀a b,(⟨a,bm w,b⟩:ak)∉D:=fun{A S R D w} M h a b z=>by
   rcases(M.good _ z).sg with⟨j,s,e⟩|⟨j,_,e⟩|e
   ·have e:bm w=[("ask":Str),j]:=e;unfold bm at e;injection e with _ e;injection e with e;exact h (e▸s)
   ·have e:bm w=[("say":Str),j]:=e;unfold bm at e;injection e with e;exact absurd e (by decide)
   ·have e:bm w=ay:=e;cases e
  have E:∀{A S R:Zb}{D:List ak}{w:Str},aq A S R D->w∉S->∀a b,(⟨a,aV w,b⟩:ak)∉D:=fun{A S R D w} M h a b z=>by
   rcases(M.good _ z).sg with⟨j,_,e⟩|⟨j,s,e⟩|e
   ·have e:aV w=[("ask":Str),j]:=e;unfold aV at e;injection e with e;exact absurd e (by decide)
   ·have e:aV w=[("say":Str),j]:=e;unfold aV at e;injection e with _ e;injection e with e;exact h (e▸s)
   ·have e:aV w=ay:=e;cases e
  have n:∀{w:Str},∀j∈aF J0 J2 asks' says',bm w≠aV j:=fun{w} j _ e=>by
   unfold bm aV at e;injection e with e;exact absurd e (by decide)
  have o:∀{w:Str},w∉aF J0 J2 asks' says'->∀j∈aF J0 J2 asks' says',aV w≠aV j:=fun{w} h j Y e=>by
   unfold aV at e;injection e with _ e;injection e with e;exact h (e▸Y)
  unfold besF;rcases hs with⟨w,s,rfl⟩|⟨w,s,rfl⟩|e
  ·obtain⟨h1,Q⟩:=gM.1 s;rw[qX,qX];rcases h1 with ha|ha
   ·have k:=J.apA w ha;have t:w∉says':=fun z=>Q (cR.2 (.inr ⟨z,ha⟩));rw[if_pos ha,if_neg k,if_neg t];show _↔q.1∈behF J3 ds f (bm w)/\q.2∈g;rw[CJ hf i v (C u k) (y Q) n,fq N I]
   ·have k:w∉J0:=fun z=>J.apA w z ha;have t:w∉J2:=fun z=>Q (cR.2 (.inl ⟨z,ha⟩));rw[if_pos ha,if_neg k,if_neg t];show _↔q.1∈f/\q.2∈behF rooms' ds' g (bm w);rw[Ak hf i sh (C m k) (y Q) n,fq N L]
  ·rw[mE,mE];rcases bx.1 s with hs|hs
   ·have n1:=m.apart w hs;have l:=J.apS w hs;rw[if_neg n1,if_pos hs];by_cases c:w∈asks'
    ·rw[if_pos c];show _↔q.1∈behF J3 ds f (aV w)/\q.2∈behF rooms' ds' g (bm w);rw[CK hf i (cR.2 (.inl ⟨hs,c⟩)),fq O I,fq N L];unfold cS;rw[if_pos hs,if_neg l]
    ·rw[if_neg c,if_neg l];have G:w∉aF J0 J2 asks' says':=fun z=>by
      rcases cR.1 z with z|z
      ·exact c z.2
      ·exact l z.1
     show _↔q.1∈behF J3 ds f (aV w)/\q.2∈g;rw[CJ hf i v (E u l) (B G) (o G),fq O I]
   ·have n1:=u.apart w hs;have l:w∉J2:=fun z=>J.apS w z hs;rw[if_neg n1,if_pos hs];by_cases c:w∈J0
    ·rw[if_pos c];show _↔q.1∈behF J3 ds f (bm w)/\q.2∈behF rooms' ds' g (aV w);rw[CK hf i (cR.2 (.inr ⟨hs,c⟩)),fq N I,fq O L];unfold cS;rw[if_pos hs,if_neg l]
    ·rw[if_neg c,if_neg l];have G:w∉aF J0 J2 asks' says':=fun z=>by
      rcases cR.1 z with z|z
      ·exact l z.1
      ·exact c z.2
     show _↔q.1∈f/\q.2∈behF rooms' ds' g (aV w);rw[Ak hf i sh (E m l) (B G) (o G),fq O L]
  ·exact absurd e U
 have e0:∀(R:Zb) (D:List ak) (F:Zb),behF R D F sg=closF R D (dg D sg F):=fun R D F=>by unfold behF;rw[if_neg U]
 rw[e0];exact wd fun q H=>(HD m u H).trans (x q H)
end
structure ma(J3:Zb)(ds:List ak)(f:Zb):Prop where
 sub:∀r∈f,r∈J3
 ne:f≠[]
 shut:Al ds f
 len:f.length<=J3.length
theorem xG{o p J3 f i:Zb}{j:List ak}(m:aq o p J3 j)(n:i≠ba):EW j f i=true↔behF J3 j f i≠[]:=by
 rw[sU];constructor
 ·rintro⟨d,e,k,rfl⟩;exact np ((fq n (m.good d e).b).2 ⟨d.a,k,d.b,e,.inl rfl⟩)
 ·intro h;obtain⟨r,l⟩:=nr _ h;unfold behF at l;rw[if_neg n,jW]at l;obtain⟨_,g,q,_⟩:=l;obtain⟨a,k,e⟩:=ee.1 q;exact⟨_,e,k,rfl⟩
theorem EM{i l e f:Zb}{g:List ak}{w:Str}(m:aq i l e g)(tk:∀r∈e,∀a∈i,dY g r a)(F:ma e g f)(n:w∈i):behF e g f (bm w)≠[]:=by
 obtain⟨a,j⟩:=nr _ F.ne;obtain⟨h,o,b,k⟩:=tk a (F.sub a j) w n;exact np ((fq (fun z=>by cases z) (m.good _ k).b).2 ⟨h,F.shut.led j o,b,k,.inl rfl⟩)
theorem pW{o p e f i:Zb}{g:List ak}(m:aq o p e g)(F:ma e g f)(h:behF e g f i≠[]):ma e g (behF e g f i):=by
 refine⟨j3 F.sub,h,?_,?_⟩
 ·by_cases c:i=ba
  ·intro d j k l;unfold behF at l;rw[if_pos c]at l;obtain⟨_,n⟩:=bJ.1 l;have n:=of_decide_eq_true n;obtain⟨a,s,b⟩:=d;have k:s=ay:=k;subst k;exact absurd (i5 j) n
  ·unfold behF;rw[if_neg c];exact vS fun d j=>(m.good d j).b
 ·unfold behF;split
  ·exact bz (bo _ _) F.len
  ·exact mI
theorem wa{h i a:Zb}{f:List ak}(m:aq h i a f):ma a f (closF a f (a.take 1)):=by
 refine⟨qZ,?_,vS fun d j=>(m.good d j).b,mI⟩;obtain⟨r,g⟩:=nr _ m.rooms0;cases e:a with
 |nil=>rw[e]at g;cases g
 |cons x k=>exact np (jW.2 ⟨dS,x,dS,.inl rfl⟩)
section
variable{J0 J2 J3 asks' says' rooms':Zb}{ds ds':List ak}
theorem Bm(m:aq J0 J2 J3 ds)(l:aq asks' says' rooms' ds'){f:Zb}:closF (b_ J3 rooms') (mV ds ds' J2 says' J3 rooms' f) ((b_ J3 rooms').take 1)=fm J3 rooms' (closF J3 ds (J3.take 1)) (closF rooms' ds' (rooms'.take 1)):=by
 refine wd fun q n=>?_;obtain⟨s,t⟩:=bu.1 n;obtain⟨x,a,rfl⟩:∃x a,J3=x::a:=by
  cases e:J3 with
  |nil=>exact absurd e m.rooms0
  |cons x a=>exact⟨x,a,rfl⟩
 obtain⟨y,i,rfl⟩:∃y i,rooms'=y::i:=by
  cases e:rooms' with
  |nil=>exact absurd e l.rooms0
  |cons x a=>exact⟨x,a,rfl⟩
 have r:(x,y)∈aH (x::a) (y::i):=bu.2 ⟨dS,dS⟩;have e:(b_ (x::a) (y::i)).take 1=[jp (x::a) (y::i) (x,y)]:=rfl;rw[e,jW,jW];constructor
 ·rintro⟨g,o,h⟩;rw[cX.1 o]at h;obtain⟨j,k⟩:=(HA m l r n).1 h;exact⟨⟨s,x,dS,j⟩,t,y,dS,k⟩
 ·rintro⟨⟨_,g,o,j⟩,_,u,p,k⟩;rw[cX.1 o]at j;rw[cX.1 p]at k;exact⟨_,dS,(HA m l r n).2 ⟨j,k⟩⟩
theorem Ah{f a:Zb}(h:gf J0 J2 a=none):besF J0 J2 J3 ds f a=f:=by unfold besF;rw[h];rfl
theorem pU{f a g:Zb}(h:gf J0 J2 a=some g):besF J0 J2 J3 ds f a=behF J3 ds f g:=by unfold besF;rw[h];rfl
theorem fT(m:aq J0 J2 J3 ds)(tk:∀r∈J3,∀a∈J0,dY ds r a){f g:Zb}{w:Str}(F:ma J3 ds f)(h:g=bm w∨g=aV w)(i:w∉J2):ma J3 ds (besF J0 J2 J3 ds f g):=by
 have e:gf J0 J2 g=if w∈J0 then some (bm w)else if w∈J2 then some (aV w)else none:=by
  rcases h with rfl|rfl
  ·exact qX
  ·exact mE
 by_cases c:w∈J0
 ·rw[if_pos c]at e;rw[pU e];exact pW m F (EM m tk F c)
 ·rw[if_neg c,if_neg i]at e;rw[Ah e];exact F
theorem tm(m:aq J0 J2 J3 ds){f:Zb}{w:Str}(F:ma J3 ds f)(a:w∈J2):besF J0 J2 J3 ds f (aV w)=behF J3 ds f (aV w):=pU (by rw[mE,if_neg (m.apart w a),if_pos a])
theorem pV{f:Zb}:besF J0 J2 J3 ds f ba=behF J3 ds f ba:=pU kA
def sayN(J3:Zb)(ds:List ak)(f:Zb)(w:Str):Bool:=!decide (behF J3 ds f (aV w)=[])
def mayF(J2 J3 says' rooms':Zb)(ds ds':List ak)(f f':Zb):List (List Str):=(J2.filter (sayN J3 ds f)).map aV++(says'.filter (sayN rooms' ds' f')).map aV++(if(!decide (behF J3 ds f ba=[]))=true/\(!decide (behF rooms' ds' f' ba=[]))=true then[ba]else[])
theorem nn{l:Zb}:(!decide (l=[]))=true↔l≠[]:=by rw[Bool.not_eq_true',decide_eq_false_iff_not]
theorem Ec(m:aq J0 J2 J3 ds)(o:aq asks' says' rooms' ds')(J:JoinOk J0 J2 J3 asks' says' rooms' ds ds')(q:aq (cz J0 J2 asks' says') (J2++says') (b_ J3 rooms') (mV ds ds' J2 says' J3 rooms' (aF J0 J2 asks' says')))(tk:∀r∈J3,∀a∈J0,dY ds r a)(k:∀r∈rooms',∀a∈asks',dY ds' r a){f i:Zb}(F:ma J3 ds f)(j:ma rooms' ds' i):
  Ad (J2++says') (mV ds ds' J2 says' J3 rooms' (aF J0 J2 asks' says')) (fm J3 rooms' f i)=mayF J2 J3 says' rooms' ds ds' f i:=by
 have p:=fun{sg}=>uS m o J tk k (sg:=sg) F.sub j.sub F.shut j.shut;unfold Ad mayF;rw[f6,av];congr 1
 ·congr 1
  ·congr 1;refine le fun w g=>?_;rw[k7,xG q (fun z=>by cases z),p (.inr (.inl ⟨w,bV _ g,rfl⟩)),tm m F g];unfold sayN;rw[nn];have l:=fT o k j (.inr rfl:aV w=bm w∨_) (J.apS w g);rw[lM (j3 F.sub) l.sub];exact⟨fun z=>z.1,fun z=>⟨z,l.ne⟩⟩
  ·congr 1;refine le fun w g=>?_;rw[k7,xG q (fun z=>by cases z),p (.inr (.inl ⟨w,cx _ g,rfl⟩)),tm o j g];unfold sayN;rw[nn];have l:=fT m tk F (.inr rfl:aV w=bm w∨_) (fun z=>J.apS w z g);rw[lM l.sub (j3 j.sub)];exact⟨fun z=>z.2,fun z=>⟨l.ne,z⟩⟩
 ·have e:=p (sg:=ba) (.inr (.inr rfl));rw[pV,pV]at e;have s:v8 (mV ds ds' J2 says' J3 rooms' (aF J0 J2 asks' says')) (fm J3 rooms' f i)=true↔(!decide (behF J3 ds f ba=[]))=true/\(!decide (behF rooms' ds' i ba=[]))=true:=by
   rw[nn,nn,<-lM (j3 F.sub) (j3 j.sub),<-e];unfold v8 behF;rw[if_pos rfl,wv];constructor
   ·rintro⟨r,n,h⟩;exact np (bJ.2 ⟨n,h⟩)
   ·intro h;obtain⟨r,n⟩:=nr _ h;exact⟨r,(bJ.1 n).1,(bJ.1 n).2⟩
  by_cases c:v8 (mV ds ds' J2 says' J3 rooms' (aF J0 J2 asks' says')) (fm J3 rooms' f i)=true
  ·rw[if_pos c,if_pos (s.1 c)]
  ·rw[if_neg c,if_neg (fun z=>c (s.2 z))]
theorem Di(m:aq J0 J2 J3 ds)(j:aq asks' says' rooms' ds')(J:JoinOk J0 J2 J3 asks' says' rooms' ds ds')(g:aq (cz J0 J2 asks' says') (J2++says') (b_ J3 rooms') (mV ds ds' J2 says' J3 rooms' (aF J0 J2 asks' says')))(tk:∀r∈J3,∀a∈J0,dY ds r a)(e:∀r∈rooms',∀a∈asks',dY ds' r a){f k:Zb}(F:ma J3 ds f)(h:ma rooms' ds' k):
  EY (cz J0 J2 asks' says') (mV ds ds' J2 says' J3 rooms' (aF J0 J2 asks' says')) (fm J3 rooms' f k)=cz J0 J2 asks' says':=by
 unfold EY;refine List.filter_eq_self.2 fun w i=>?_;rw[xG g (fun z=>by cases z),uS m j J tk e F.sub h.sub F.shut h.shut (.inl ⟨w,i,rfl⟩)];have o:w∉J2:=fun z=>g.apart w (bV _ z) i;have p:w∉says':=fun z=>g.apart w (cx _ z) i;have l:=fT m tk F (.inl rfl:bm w=_∨_) o;have n:=fT j e h (.inl rfl:bm w=_∨_) p;exact(lM l.sub n.sub).2 ⟨l.ne,n.ne⟩
theorem HL(m:aq J0 J2 J3 ds)(g:aq asks' says' rooms' ds')(J:JoinOk J0 J2 J3 asks' says' rooms' ds ds')(n:aq (cz J0 J2 asks' says') (J2++says') (b_ J3 rooms') (mV ds ds' J2 says' J3 rooms' (aF J0 J2 asks' says')))(tk:∀r∈J3,∀a∈J0,dY ds r a)(h:∀r∈rooms',∀a∈asks',dY ds' r a){f k j:Zb}(F:ma J3 ds f)(i:ma rooms' ds' k)
  (hs:j∈(cz J0 J2 asks' says').map bm++mayF J2 J3 says' rooms' ds ds' f k):SgJ J0 J2 asks' says' j/\ma J3 ds (besF J0 J2 J3 ds f j)/\ma rooms' ds' (besF asks' says' rooms' ds' k j):=by
 unfold mayF at hs;rcases bx.1 hs with hs|hs
 ·obtain⟨w,e,rfl⟩:=aA.1 hs;have o:w∉J2:=fun z=>n.apart w (bV _ z) e;have p:w∉says':=fun z=>n.apart w (cx _ z) e;exact⟨.inl ⟨w,e,rfl⟩,fT m tk F (.inl rfl:bm w=_∨_) o,fT g h i (.inl rfl:bm w=_∨_) p⟩
 rcases bx.1 hs with hs|hs
 ·rcases bx.1 hs with hs|hs
  ·obtain⟨w,e,rfl⟩:=aA.1 hs;obtain⟨e,l⟩:=bJ.1 e;refine⟨.inr (.inl ⟨w,bV _ e,rfl⟩),?_,fT g h i (.inr rfl:aV w=bm w∨_) (J.apS w e)⟩;rw[tm m F e];exact pW m F (nn.1 l)
  ·obtain⟨w,e,rfl⟩:=aA.1 hs;obtain⟨e,l⟩:=bJ.1 e;refine⟨.inr (.inl ⟨w,cx _ e,rfl⟩),fT m tk F (.inr rfl:aV w=bm w∨_) (fun z=>J.apS w z e),?_⟩;rw[tm g i e];exact pW g i (nn.1 l)
 ·split at hs
  ·rename_i c;rw[cX.1 hs,pV,pV];exact⟨.inr (.inr rfl),pW m F (nn.1 c.1),pW g i (nn.1 c.2)⟩
  ·cases hs
theorem HE(m:aq J0 J2 J3 ds)(t:aq asks' says' rooms' ds')(J:JoinOk J0 J2 J3 asks' says' rooms' ds ds')(D:J3.length<=3)(u:rooms'.length<=3):(mV ds ds' J2 says' J3 rooms' (aF J0 J2 asks' says')).length<=1000:=by
 have E:=wb m t J
 let S:List (List Str):=fS (cz J0 J2 asks' says') (J2++says')
 let R:List (Str×List Str×Str):=(b_ J3 rooms').flatMap fun a=>S.flatMap fun s=>(b_ J3 rooms').map fun b=>(a,s,b)
 have G:(b_ J3 rooms').length<=9:=by
  unfold b_;rw[ag,fG];exact nv D u
 have N:S.length<=9:=by
  show(fS (cz J0 J2 asks' says') (J2++says')).length<=9;unfold fS;have:=J.a4;have:=J.s4;rw[aS,aS,ag,ag];show _+_+1<=9;omega
 have O:R.length<=1000:=by
  have j:∀a:Str,(S.flatMap fun s=>(b_ J3 rooms').map fun b=>(a,s,b)).length<=81:=fun a=>by
   have:=mG (f:=fun s=>(b_ J3 rooms').map fun b=>(a,s,b)) (n:=9) (fun s=>by rw[ag];exact G) S;omega
  have:=mG (f:=fun a=>S.flatMap fun s=>(b_ J3 rooms').map fun b=>(a,s,b)) (n:=81) j (b_ J3 rooms');show(List.flatMap _ _).length<=1000;omega
 have v:((mV ds ds' J2 says' J3 rooms' (aF J0 J2 asks' says')).map fun d=>(d.a,d.sg,d.b)).Nodup:=by
  unfold p_;rw[iQ];refine nu (fun{d e} n z=>n ?_) E;obtain⟨a,s,b⟩:=d;obtain⟨Q,T,U⟩:=e;injection z with y r;injection r with r A;simp only at y r A;rw[y,r,A]
 have:=vW v (R:=R) fun x hx=>by
  obtain⟨d,H,rfl⟩:=aA.1 hx;obtain⟨p,q,I,L,st,e⟩:=(hC m t).1 H;have k:d.sg∈S:=by
   show d.sg∈(cz J0 J2 asks' says').map bm++(J2++says').map aV++[ay];rcases st with⟨b,j,l,_⟩|⟨b,j,l,_⟩|⟨w,g,o,i,M,_⟩
   ·rcases(m.good _ j).sg with⟨w,i,e'⟩|⟨w,i,e'⟩|e'
    ·have e':d.sg=[("ask":Str),w]:=e';rw[e']at l;exact bV _ (bV _ (aA.2 ⟨w,gM.2 ⟨.inl i,eQ l⟩,e'.symm⟩))
    ·exact bV _ (cx _ (aA.2 ⟨w,bV _ i,e'.symm⟩))
    ·exact cx _ (cX.2 e')
   ·rcases(t.good _ j).sg with⟨w,i,e'⟩|⟨w,i,e'⟩|e'
    ·have e':d.sg=[("ask":Str),w]:=e';rw[e']at l;exact bV _ (bV _ (aA.2 ⟨w,gM.2 ⟨.inr i,eQ l⟩,e'.symm⟩))
    ·exact bV _ (cx _ (aA.2 ⟨w,cx _ i,e'.symm⟩))
    ·exact cx _ (cX.2 e')
   ·refine bV _ (cx _ (aA.2 ⟨w,?_,M.symm⟩));rcases cR.1 i with h|h
    ·exact bV _ h.1
    ·exact cx _ h.1
  have B:=congrArg ak.a e;have C:=congrArg ak.b e;simp only at B C;rw[B,C];exact fE.2 ⟨_,e_ I,fE.2 ⟨d.sg,k,aA.2 ⟨_,e_ L,rfl⟩⟩⟩
 rw[ag]at this;omega
end
def EO(K:Za)(C_Machine:Addr)(sp_Machine_init:Sp)(sp_Machine_says:Sp)(sp_asks_of_both:Sp)(sp_doors_alone:Sp)(sp_doors_together:Sp)(sp_pairs_of_rooms:Sp)(sp_name_of_number:Sp)(sp_wires_of:Sp)(sp_need_all_asks_taken:Sp)(sp_need_join:Sp):TS :=
 aw (c_ (aN sp_need_join (aJ V0 V1)))
 (aw (c_ (aN sp_need_all_asks_taken (aB V0)))
 (aw (c_ (aN sp_need_all_asks_taken (aB V1)))
 (aw (bf (aN sp_wires_of (aJ V0 V1)) U2)
 (aw (bf (eE (Fx K) (ar (cv 2 [] (uF K (aB (aN sp_pairs_of_rooms (aJ V0 V1)))) (i7 K 2 (bA U0 (bA U1 (ir)))) (ip) (bX (aJ V1 (aN sp_name_of_number (aB V0))))) aY)) U3)
 (aw (bf (bF (aY)) U4)
 (aw (d6 (FW K V3) U5 (c_ (vm K "list" pC V4 (aB (aK mU (aN sp_doors_alone (ar V0 (dQ V1 V5 V2))) (aN sp_doors_together (ar V0 (dQ V1 V5 V2))))))))
 (aw (bf (cv 3 [3] (bG K V4) (i7 K 3 (bA U0 (bA U1 (bA U2 (ir))))) (ip) (bX (dQ (vQ K V3 V0) V1 (vQ K V3 V2)))) U6)
 (bt (Cb C_Machine sp_Machine_init [] E0 (ar (aN sp_asks_of_both (aJ V0 V1)) (dQ (aK mU (bR C_Machine "says" sp_Machine_says [] E0 V0 aY) (bR C_Machine "says" sp_Machine_says [] E0 V1 aY)) (ES V3) V6)))))))))))
def Gy:List Str:=["M","N","wires","names","doors","here","named_doors"]
def rZ(K:Za)(sp_law_asks_left:Sp)(sp_law_take:Sp)(sp_law_names:Sp):TS :=
 aw (bf (aN sp_law_names (aJ V0 (tC (.int 13)))) U2)
 (aw (bf (bF (ar (bF (aY)) (dQ (bF (aY)) (bF (aY)) (bF (aY))))) U3)
 (aw (bf (bF (ar (bF (aB (tC (.int 0)))) (ar (bF (aB (tC (.int 0)))) (ar (bF (aB (tC (.int 1)))) (ar (bF (aB (tC (.int 1)))) (ar (bF (aB (tC (.int 2)))) (ar (bF (aB (tC (.int 2)))) (ar (bF (aB (tC (.int 3)))) (ar (bF (aB (tC (.int 3)))) (ar (bF (aJ (tC (.int 1)) (tC (.int 2)))) (ar (bF (aJ (tC (.int 1)) (tC (.int 2)))) (ar (bF (aJ (tC (.int 0)) (tC (.int 3)))) (ar (bF (aJ (tC (.int 0)) (tC (.int 3)))) (ar (bF (aY)) (ar (bF (aJ (tC (.int 0)) (tC (.int 2)))) (aB (bF (aJ (tC (.int 1)) (tC (.int 3)))))))))))))))))))) U4)
 (aw (d6 (bG K (ER (xL K) V2 (g_) (kS (tC (.int 8))))) U5 (d6 (bG K (aK (dH K) V4 (aN sp_law_take (aJ V0 (aK fk (tC (.int 13)) (aK jP (tC (.int 2)) V1)))))) U6 (df (bj (aK Hi (eE (fV K) (aB (aK (dH K) V3 V6))) (aK fk (tC (.int 2)) (aK jP (tC (.int 2)) V1)))) (c_ (vm K "list" d_ (aK (dH K) V3 V6) (aB V5))) (bQ))))
 (aw (d6 (uE (aB (tC (.int 4)))) U6 (df (bj (aK (jQ K) (aK (dH K) V3 V6) (bF (aY)))) (c_ (vm K "list" d_ (aK (dH K) V3 V6) (aB (aK (dH K) V2 (aK fk (tC (.int 8)) V6))))) (bQ)))
 (aw (df (su (bj (aK Fv V1 (tC (.int 0)))) (bj (aK (jQ K) (aN sp_law_asks_left (aB V3)) (bF (aY))))) (c_ (vm K "list" d_ (aK (dH K) V3 (tC (.int 0))) (aB (aK (dH K) V2 (tC (.int 12)))))) (bQ))
 (bt V3))))))
def sF:List Str:=["pen","loose","words","some","ways","word","at"]
def r6(K:Za):TS :=
 aw (bf (aK mU (cv 1 [0] (bG K (aK (dH K) V0 (tC (.int 1)))) U0 (bj (aK (jB K false) V0 (aK (dH K) V1 (tC (.int 2))))) V0) (cv 1 [0] (bG K (aK (dH K) V0 (tC (.int 3)))) U0 (bj (aK (jB K false) V0 (aK (dH K) V1 (tC (.int 0))))) V0)) U1)
 (bt (cv 1 [1] (bG K (aK mU (aK (dH K) V0 (tC (.int 0))) (aK (dH K) V0 (tC (.int 2))))) U0 (bj (aK (jB K true) V0 V1)) V0))
def sG:List Str:=["some","wired"]
def AH(K:Za)(sp_law_draw_doors:Sp)(sp_law_take:Sp)(sp_law_names:Sp):TS :=
 aw (bf (aN sp_law_names (aJ V0 (aK fk (tC (.int 1)) (aN sp_law_take (ar V0 (aB V3)))))) U4)
 (aw (bf (aN sp_law_draw_doors (ar V0 (ar V1 (ar V2 (ar V4 (aB (aN sp_law_take (aJ V0 (tC (.int 2)))))))))) U5)
 (bt (bX (ar V1 (dQ V2 V4 V5)))))
def BD:List Str:=["pen","asks","says","most","rooms","doors"]
def qE(K:Za)(sp_law_willing:Sp)(sp_law_part:Sp)(sp_law_two_words:Sp):TS :=
 aw (bf (aN sp_law_two_words (aJ V0 (tC (.int 0)))) U3)
 (aw (bf (aN sp_law_willing (ar V0 (ar (aN sp_law_part (ar V0 (dQ (aK (ij K) V3 (tC (.int 0))) (aK (ij K) V3 (tC (.int 1))) V1))) aY))) U4)
 (aw (bf (aN sp_law_willing (ar V0 (ar (aN sp_law_part (ar V0 (dQ (aK (ij K) V3 (tC (.int 2))) (aK (ij K) V3 (tC (.int 3))) V2))) aY))) U5)
 (bt (bF (aJ V4 V5)))))
def rf:List Str:=["pen","one","two","some","first","second"]
def y9(K:Za):TS :=
 aw (df (bj (aK (jQ K) V1 (bX (aB (tC (.str "hush")))))) (bt V1) (bQ))
 (aw (df (bj (aK (jB K false) (aK (ij K) V1 (tC (.int 1))) (aK (ij K) V0 (tC (.int 0))))) (bt (bX (aJ (tC (.str "ask")) (aK (ij K) V1 (tC (.int 1)))))) (bQ))
 (aw (df (bj (aK (jB K false) (aK (ij K) V1 (tC (.int 1))) (aK (ij K) V0 (tC (.int 1))))) (bt (bX (aJ (tC (.str "say")) (aK (ij K) V1 (tC (.int 1)))))) (bQ))
 (bt (tC .non))))
def At:List Str:=["told","sign"]
def xo(K:Za)(sp_law_face_on:Sp)(sp_law_heard:Sp):TS :=
 aw (bf (aN sp_law_heard (aJ V0 V2)) U3)
 (aw (df (tB (GU V3)) (bt V1) (bQ))
 (bt (aN sp_law_face_on (dQ V0 V1 V3))))
def yD:List Str:=["told","face","sign","heard"]
def qF(K:Za)(sp_law_face_on:Sp):TS :=
 aw (bf (bF (aY)) U3)
 (aw (d6 (Ik K (aJ (bF (ar V0 (aB V1))) V2)) (i7 K 2 (bA U4 (bA U5 (ir)))) (d6 (bG K (aK (ij K) V4 (tC (.int 1)))) U6 (df (bj (aK (zD K) (aN sp_law_face_on (dQ V4 V5 (bX (aJ (tC (.str "say")) V6)))) (bX (aY)))) (c_ (vm K "list" d_ V3 (aB (bX (aJ (tC (.str "say")) V6))))) (bQ))))
 (aw (df (su (bj (aK (zD K) (aN sp_law_face_on (dQ V0 (aK (ij K) V2 (tC (.int 0))) (bX (aB (tC (.str "hush")))))) (bX (aY)))) (bj (aK (zD K) (aN sp_law_face_on (dQ V1 (aK (ij K) V2 (tC (.int 1))) (bX (aB (tC (.str "hush")))))) (bX (aY))))) (c_ (vm K "list" d_ V3 (aB (bX (aB (tC (.str "hush"))))))) (bQ))
 (bt V3)))
def rg:List Str:=["first","second","faces","found","told","face","word"]
def yX(K:Za)(sp_law_same:Sp)(C_Machine:Addr)(sp_Machine_is_quiet:Sp)(sp_Machine_doors_from:Sp)(sp_Machine_doors:Sp)(sp_Machine_rooms:Sp)(sp_Machine_says:Sp)(sp_Machine_asks:Sp):TS :=
 aw (df (oQ (tB (aN sp_law_same (aJ (bF (ar (bR C_Machine "asks" sp_Machine_asks [] E0 V0 aY) (dQ (bR C_Machine "says" sp_Machine_says [] E0 V0 aY) (bR C_Machine "rooms" sp_Machine_rooms [] E0 V0 aY) (bR C_Machine "doors" sp_Machine_doors [] E0 V0 aY)))) (eE (dF K) (aB V1)))))) (bt (tC (.bl false))) (bQ))
 (aw (d6 (bG K (aK (ij K) V1 (tC (.int 2)))) U2 (aw (bf (cv 1 [2] (bG K (aK (ij K) V1 (tC (.int 3)))) U0 (bj (aK (jQ K) (aK (ij K) V0 (tC (.int 0))) V1)) V0) U3)
 (aw (bf (aK (jQ K) (cv 1 [] (bG K V3) U0 (bj (aK Ke (aK (ij K) (aK (ij K) V0 (tC (.int 1))) (tC (.int 0))) (tC (.str "ask")))) V0) (bF (aY))) U4)
 (df (Dd (oQ (tB (aN sp_law_same (aJ (bR C_Machine "doors_from" sp_Machine_doors_from [] E0 V0 (aB V2)) V3)))) (oQ (tB (aN sp_law_same (aJ (bR C_Machine "is_quiet" sp_Machine_is_quiet [] E0 V0 (aB V2)) V4))))) (bt (tC (.bl false))) (bQ)))))
 (bt (tC (.bl true))))
def Ap:List Str:=["machine","told","room","some","quiet"]
def GS(K:Za)(sp_law_tells:Sp)(sp_law_take:Sp)(sp_law_beside:Sp)(sp_face_behind:Sp)(sp_law_same:Sp)(fP:Sp)(fN:Sp)(sp_law_may_of_two:Sp)(sp_law_face_at:Sp)(eF:Sp)(sp_law_asks_left:Sp)(sp_joined:Sp)(sp_law_machine:Sp)(sp_law_two_takers:Sp)(sp_law_open:Sp):TS :=
 aw (bf (aN sp_law_open (aB V0)) U1)
 (aw (bf (aN sp_law_two_takers (dQ V1 (tC (.int 3)) (tC (.int 3)))) (JE K 2 (bA U2 (bA U3 (ir)))))
 (aw (bf (bF (aJ (aN sp_law_machine (aB V2)) (aN sp_law_machine (aB V3)))) U4)
 (aw (bf (aN sp_joined (aJ (aK (ij K) V4 (tC (.int 0))) (aK (ij K) V4 (tC (.int 1))))) U5)
 (aw (bf (aN sp_law_asks_left (ar (bF (ar (aK (ij K) V2 (tC (.int 0))) (dQ (aK (ij K) V2 (tC (.int 1))) (aK (ij K) V3 (tC (.int 0))) (aK (ij K) V3 (tC (.int 1)))))) aY)) U6)
 (aw (bf (aN eF (aB V5)) U7)
 (aw (bf (bX (ar (aN sp_law_face_at (aJ V2 (bF (aY)))) (aB (aN sp_law_face_at (aJ V3 (bF (aY))))))) U8)
 (aw (d6 (uE (ar (aK fk (tC (.int 1)) (aN sp_law_take (aJ V1 (tC (.int 20))))) aY)) U9 (aw (bf (aN sp_law_may_of_two (dQ V2 V3 V8)) U10)
 (aw (df (Dd (oQ (tB (aN sp_law_same (aJ (aN fN (ar V5 (aB V7))) IZ)))) (oQ (tB (aN sp_law_same (aJ (aN fP (ar V5 (aB V7))) V6))))) (bt (tC (.bl false))) (bQ))
 (aw (bf (aK mU (cv 1 [] (bG K V6) U0 (ip) (bX (aJ (tC (.str "ask")) V0))) IZ) U11)
 (aw (bf (aK (ij K) JJ (aN sp_law_take (aJ V1 (eE (fV K) (aB JJ))))) U12)
 (aw (bf (aN sp_face_behind (dQ V5 V7 Ji)) U7)
 (bf (bX (ar (aN sp_law_beside (dQ V2 (aK (ij K) V8 (tC (.int 0))) Ji)) (ar (aN sp_law_beside (dQ V3 (aK (ij K) V8 (tC (.int 1))) Ji)) aY))) U8)))))))
 (aw (df (Dd (oQ (tB (aN sp_law_tells (aJ (aK (ij K) V4 (tC (.int 0))) V2)))) (oQ (tB (aN sp_law_tells (aJ (aK (ij K) V4 (tC (.int 1))) V3))))) (bt (tC (.bl false))) (bQ))
 (bt (o5 (eE (sy K) (aJ V7 (tC (.ty "tuple")))) (aK (Ju K) V7 (bX (aY)))))))))))))
def CP:List Str:=["script","pen","first","second","machines","whole","asks","face","faces","turn","may","signs","sign"]
def FB:List Str:=["script"]

theorem Eb{K:Za}{k:Nat}{o:List Nat}{g:TG}{q:TT}{r:TE}{σ:L2.St}{s:Hp}{Q:Hp->Prop}{l a b:Addr}{xs ys:List V}(B:xs.length<=ys.length)(Pv:Nat->List V->Hp->Prop)(C:Pv 0 [] (upd s l (.lst [])))
  (m:∀i e H,i<=xs.length->Pv i e H->H l=some (.lst e)/\au K H a xs/\au K H b ys) (D:∀e H,Pv xs.length e H->Q H)
  (E:∀i e H x y p,xs[i]?=some x->ys[i]?=some y->i<xs.length->Pv i e H->H p=none->g (.ref p) (cH k o σ) (upd H p (.tup [x,y])) fun σ2 G=>q σ2 G fun b z =>
   if b=true then r σ2 z fun v A=>A l=some (.lst e)/\e.length<aj/\∃f,f<xs.length-i/\Wc xs.length Pv (i+1) f (e++[v]) (upd A l (.lst (e++[v])))else ∃f,f<xs.length-i/\Wc xs.length Pv (i+1) f e z) :
  cW k o σ (Kj K a b) g q r s l Q:=by
 refine jb xs.length Pv C (fun i e H hi p=>(m i e H hi p).1) (fun i e H hi p=>?_) (fun e H p=>?_) fun i e H x M hi p y=>?_
 ·obtain⟨_,h,j⟩:=m i e H (cV hi) p;have n:i<ys.length:=by omega
  exact⟨xs,ys,xs[i],ys[i],h,j,by simp[hi],by simp[n]⟩
 ·obtain⟨_,h,j⟩:=m _ e H (aP _) p;exact⟨⟨xs,ys,h,j,.inl (aP _)⟩,D e H p⟩
 ·obtain⟨_,h,j⟩:=m i e H (cV hi) p;obtain⟨t,u,v,rfl,I,J,L,rfl⟩:=y;exact E i e H u v t (J xs h) (L ys j) hi p I
open Builtin.Int (intBits)
open Builtin.Int (intBits)
open Builtin.Int (intBits)
open Builtin.Int (intBits)
def hB:Nat->Nat
 |0=>0
 |d+1=>12+25 * hB d
open Builtin.Int (intBits)
open Builtin.Int (intBits)

abbrev StrC(K:Za)(H:Hp)(gs:Ze)(s:List Sg):Prop:=Paired (fun g (sg:Sg)=>eC K H g (sg.map V.str)) gs s

def yZ(K:Za):TS :=
 aw (bf (cv 1 [1] (bG K (aK (ui K) V0 (tC (.int 3)))) U0 (bj (aK Fv (aK (ui K) V0 (tC (.int 0))) V1)) V0) U2)
 (bt (eE (Hk K) (ar (cv 1 [] (bG K V2) U0 (ip) (aK Fv (aK (ui K) (aK (ui K) V0 (tC (.int 1))) (tC (.int 0))) (tC (.str "ask")))) aY)))
def Ar:List Str:=["told","room","doors"]
def vb(K:Za)(sp_law_in_order:Sp)(sp_law_quiet:Sp):TS :=
 aw (df (bj (aK (jQ K) V2 (bX (aB (tC (.str "hush")))))) (bt (eE (Cc K) (aB (cv 1 [0] (DQ K V1) U0 (tB (aN sp_law_quiet (aJ V1 V0))) V0)))) (bQ))
 (aw (bf (bF (aY)) U3)
 (aw (d6 (bG K (aK (ui K) V0 (tC (.int 3)))) (i7 K 3 (bA U4 (bA U5 (bA U6 (ir))))) (df (su (bj (aK (jB K false) V4 V1)) (su (bj (aK (jQ K) V5 V2)) (bj (aK (jB K true) V6 V3)))) (c_ (vm K "list" d_ V3 (aB V6))) (bQ)))
 (bt (aN sp_law_in_order (aJ V0 V3)))))
def vD:List Str:=["told","face","sign","some","room","own","other"]
theorem Ek{f:List ak}{r:Str}:((f.filter fun d=>decide (d.a=r)).map dP).all id=decide (r∉ef f):=by
 by_cases c:r∈ef f
 ·rw[zzr0 (fun z=>z c),List.all_eq_false];unfold ef at c;obtain⟨d,g,i⟩:=aA.mp c;obtain⟨h,e⟩:=bJ.mp g;refine⟨dP d,e_ (bJ.mpr ⟨h,zzr1 i⟩),?_⟩;intro z;have z:dP d=true:=z;rw[z]at e;cases e
 ·rw[zzr1 c,qr];intro b j;obtain⟨d,g,rfl⟩:=aA.mp j;obtain⟨h,e⟩:=bJ.mp g;show dP d=true;cases q:dP d with
  |true=>rfl
  |false=>exact absurd (aA.mpr ⟨d,bJ.mpr ⟨h,by rw[q];rfl⟩,of_decide_eq_true e⟩) c
theorem Dl{K:Za}{e:List V}{H:Hp}{Q:VK}{E:XK}(h:mm e H Q E):yZ K (bS Q) (start Ar e) H:=by
 obtain⟨t,l1,l2,l3,l4,ts,J0,J2,J3,D,r,rfl,T,m,k⟩:=h;have z4:=m.few;refine⟨_,rfl,t,_,3,_,rfl,rfl,br.of T.t,rfl,l4,rfl,⟨_,au.of T.a4⟩,fun f hf=>?_⟩
 let I:Nat->List V->Hp->Prop:=fun i e n=>∃v:List Addr,e=v.map V.ref/\ab H n/\n f=some (.lst e)/\cA n v ((D.take i).filter fun d=>decide (d.a=r))
 refine bD (xs:=ts.map V.ref) I ⟨[],rfl,ab.new hf,aa,.nil⟩ (fun i e n _ J=>by obtain⟨_,_,S,L,_⟩:=J;exact⟨L,au.of (S _ _ T.a4)⟩) ?_ ?_;rotate_left
 ·rintro i e n x' y hi ⟨v,rfl,S,M,x⟩;obtain⟨u,N,rfl⟩:=cD y;obtain⟨B,p,l⟩:=Paired.getL T.ds N;have C:=l.kt (ab.kt S);obtain⟨sb,A,s⟩:=l.kt (ab.kt S);refine gN ?_;refine⟨_,rfl,u,_,0,_,rfl,rfl,br.of A,rfl,_,rfl,rfl,_,rfl,?_⟩;have e1:decide (V.str B.a=V.str r)=decide (B.a=r):=decide_eq_decide.2 ⟨fun z=>by injection z,fun z=>by rw[z]⟩;rw[e1];by_cases G:B.a=r
  ·rw[zzr1 G];refine cr ?_;refine⟨_,rfl,M,?_,jo hi ⟨v++[u],by rw[av];rfl,?_,aa,?_⟩⟩
   ·rw[ag,Paired.length x];refine ao (bz (bo _ _) ?_);rw[aM];omega
   ·intro b o q;rw[am (ae q hf)];exact S _ _ q
   ·rw[c6 p,if_pos (zzr1 G)];have hk:j7 n (upd n f (.lst (v.map V.ref++[.ref u]))):=cU M;exact fF (x.kt hk) (C.kt hk)
  ·rw[zzr0 G];refine bv (jo hi ⟨v,rfl,S,M,?_⟩);rw[c6 p,if_neg (by rw[zzr0 G];decide),cM];exact x
 rintro e H1 ⟨v,rfl,S1,f1,x⟩;rw[ag,Paired.length T.ds,bg]at x;refine⟨_,rfl,f,rfl,⟨_,au.of f1⟩,fun g hg=>?_⟩;have zf:(D.filter fun d=>decide (d.a=r)).length<=1000:=bz (bo _ _) z4;have gd:∀d∈D.filter fun d=>decide (d.a=r),rX J0 J2 J3 d:=fun d hd=>m.good d (bJ.1 hd).1;rw[<-Ek]at k;generalize(D.filter fun d=>decide (d.a=r))=F at x zf gd k
 let O:Nat->List V->Hp->Prop:=fun i e n=>e=((F.take i).map dP).map V.bl/\ab H1 n/\n g=some (.lst e)
 refine bD (xs:=v.map V.ref) O ⟨rfl,ab.new hg,aa⟩ (fun i e n _ J=>by obtain⟨_,S,L⟩:=J;exact⟨L,au.of (S _ _ f1)⟩) ?_ ?_
 ·rintro e H2 ⟨rfl,S2,g2⟩;rw[ag,Paired.length x,bg]at g2;exact⟨g,_,rfl,au.of g2,k H2 (S1.trans S2)⟩
 ·rintro i e n x' y hi ⟨rfl,S,g'⟩;obtain⟨u,N,rfl⟩:=cD y;obtain⟨B,p,l⟩:=Paired.getL x N;obtain⟨sb,A,s⟩:=l.kt (ab.kt S);obtain⟨s0,al,U,Y⟩:=Dh (gd B (bW p));unfold SignAt at s;rw[U]at s;refine gN (nM ?_);refine⟨_,rfl,u,_,1,_,rfl,rfl,br.of A,rfl,sb,_,0,.str s0,rfl,rfl,br.of s,cp (j:=0) rfl,rfl,g',?_,jo hi ⟨?_,?_,aa⟩⟩
  ·rw[ag,ag,aM];exact ao (by omega)
  ·have Y:decide (V.str s0=V.str ("ask":Str))=dP B:=by
    have:=congrArg (!·) Y;simpa using this
   rw[take_snoc p,av,av,Y];rfl
  ·intro b o q;rw[am (ae q hg)];exact S _ _ q
theorem Dr{K:Za}{A:List V}{H:Hp}{Q:VK}{E:XK}(h:ki K A H Q E):vb K zn mm (bS Q) (start vD A) H:=by
 obtain⟨t,ft,s,l1,l2,l3,N,ts,J0,J2,J3,n,y,p,rfl,T,m,ap,hs,hz,k⟩:=h;have z4:=m.few;refine⟨_,rfl,(by show 1<=aj;decide),fun hh O=>⟨jF y,jF ba,bw (br.same (ab.new O) hs),bw (br.of aa),by rw[bZ];decide,by rw[bZ];decide,_,rfl,?_⟩⟩;rw[hE];have J:ab H (upd H hh (.tup [.str "hush"])):=ab.new O;generalize upd H hh (.tup [.str "hush"])=B at J ⊢;have L:=T.same J;have D:=J _ _ ap;have as:=br.same J hs;by_cases c:y=ba
 ·rw[zzr1 c];refine cr ?_;refine⟨_,rfl,ft,rfl,⟨_,br.of D⟩,fun f hf=>?_⟩
  let aC:Nat->List V->Hp->Prop:=fun i A H'=>A=((n.take i).filter fun r=>decide (r∉ef p)).map V.str/\ab B H'/\H' f=some (.lst A)
  refine uK (xs:=n.map V.str) aC ⟨rfl,ab.new hf,aa⟩ (fun i A H' _ zq=>by obtain⟨_,S,h'⟩:=zq;exact⟨h',br.of (S _ _ D)⟩) ?_ ?_
  ·rintro A H' ⟨rfl,S,l⟩;rw[ag,bg]at l;refine⟨f,_,rfl,.inl ⟨au.of l,fun t' a0=>k t' _ ?_ ((J.trans S).trans (ab.new a0))⟩⟩;rw[aa];unfold behF;rw[if_pos c]
  ·rintro i A H' x' I hi ⟨rfl,S,l⟩;obtain⟨r,hr,rfl⟩:=aZ I;refine gN ?_;refine⟨_,rfl,_,rfl,t,l1,l2,l3,N,ts,J0,J2,J3,p,r,rfl,L.same S,m,fun H2 C=>⟨_,rfl,?_⟩⟩;have U:(((n.take i).filter fun r=>decide (r∉ef p)).map V.str).length<aj:=by
    rw[ag];refine ao (bz (bo _ _) ?_);rw[aM];omega
   refine kz (fun hq=>?_) (fun hq=>?_)
   ·refine⟨_,rfl,C _ _ l,U,jo hi ⟨?_,?_,aa⟩⟩
    ·rw[bU hr,if_pos hq,av];rfl
    ·intro b o q;rw[am (ae q hf)];exact C _ _ (S _ _ q)
   ·refine jo hi ⟨?_,S.trans C,C _ _ l⟩;rw[bU hr,if_neg hq,cM]
 rw[zzr0 c];refine bv ?_;refine⟨(by show 0<=aj;decide),fun f hf=>?_⟩;have C:ab B (upd B f (.lst [])):=ab.new hf;have f2:upd B f (.lst []) f=some (.lst []):=aa;generalize upd B f (.lst [])=H2 at C f2 ⊢;have T2:=L.same C;have n4:N≠f:=ae L.a4 hf;refine⟨_,rfl,t,_,3,.ref N,rfl,rfl,br.of T2.t,rfl,N,rfl,⟨_,au.of T2.a4⟩,?_⟩
 let Y:Nat->L2.St->Hp->Prop:=fun i σ H'=>Jj fun(G:Zb) (x4 x5 x6:Option V)=>GA (σ=[some (.ref t),some (.ref ft),some (.ref s),some (.ref f),x4,x5,x6]) (H' f=some (.lst (G.map V.str))) (∀b o,B b=some o->H' b=some o) (G.length<=i) (∀g,g∈G↔∃d∈p.take i,d.a∈n/\d.sg=y/\d.b=g)
 refine bO (xs:=ts.map V.ref) Y ⟨[],_,_,_,rfl,f2,fun b o e=>C _ _ e,aP _,fun g=>⟨fun h=>(by cases h),fun⟨_,h,_⟩=>(by simp at h)⟩⟩ (fun i σ H' _ zq=>by obtain⟨_,_,_,_,_,_,S,_,_⟩:=zq;exact au.of (S _ _ L.a4)) ?_ ?_
 ·rintro i x' σ H' I ⟨G,x4,x5,x6,rfl,l,S,hl,M⟩;have S:ab B H':=S;obtain⟨u,hu,rfl⟩:=cD I;obtain⟨j,al,an⟩:=Paired.getL L.ds hu;obtain⟨sb,a5,a6⟩:=an.kt (ab.kt S);have a7:i<p.length:=(bN.mp al).1;have v:∀g,(∃d∈p.take (i+1),d.a∈n/\d.sg=y/\d.b=g)↔((∃d∈p.take i,d.a∈n/\d.sg=y/\d.b=g)∨(j.a∈n/\j.sg=y/\j.b=g)):=by
   intro g;rw[take_snoc al];constructor
   ·rintro⟨d,hd,h⟩;rcases bx.mp hd with hd|hd
    ·exact .inl ⟨d,hd,h⟩
    ·have:d=j:=by simpa using hd
     subst this;exact .inr h
   ·rintro(⟨d,hd,h⟩|h)
    ·exact⟨d,bV _ hd,h⟩
    ·exact⟨j,cx _ (by simp),h⟩
  refine⟨u,_,rfl,br.of a5,rfl,_,_,rfl,_,_,rfl,_,_,rfl,rfl,?_⟩;have x:¬(j.a∈n/\j.sg=y/\j.b∉G)->Y (i+1) [some (.ref t),some (.ref ft),some (.ref s),some (.ref f),some (.str j.a),some (.ref sb),some (.str j.b)] H':=fun z=>by
   refine⟨G,_,_,_,rfl,l,S,by omega,fun g=>?_⟩;rw[v,M];refine⟨.inl,fun h=>h.elim id fun h=>?_⟩;rw[<-M];by_cases q:g∈G
   ·exact q
   ·exact absurd ⟨h.1,h.2.1,by rw[h.2.2];exact q⟩ z
  refine⟨_,rfl,_,rfl,cB j.a,n.map cB,ft,_,l6 _,rfl,.inr (br.of (S _ _ D)),gk _,(by show 0<=8;decide),by rw[dD];decide,_,rfl,?_⟩;rw[if_neg gw,s_];by_cases c1:j.a∈n;rotate_left
  ·rw[zzr0 c1];exact bv (bv (x fun z=>c1 z.1))
  rw[zzr1 c1];refine cr ?_;refine⟨_,rfl,_,rfl,jF j.sg,jF y,bw (br.of a6),bw (br.same S as),by rw[bZ];decide,by rw[bZ];decide,_,rfl,?_⟩;rw[hE];by_cases c2:j.sg=y;rotate_left
  ·rw[zzr0 c2];exact bv (bv (x fun z=>c2 z.2.1))
  rw[zzr1 c2];refine cr ?_;refine⟨_,rfl,_,rfl,cB j.b,G.map cB,f,_,l6 _,rfl,.inl (au.of l),gk _,(by show 0<=8;decide),by rw[dD];decide,_,rfl,?_⟩;rw[if_pos rfl,s_];by_cases c3:j.b∈G
  ·rw[zzr1 c3];exact bv (x fun z=>z.2.2 c3)
  rw[zzr0 c3];refine cr ?_;refine⟨_,rfl,.inl ⟨rfl,_,au.of l⟩,_,rfl,f,_,_,rfl,rfl,l,by rw[ag];exact ao (by omega),G++[j.b],_,_,_,rfl,by rw[aa,av];rfl,fun b o e=>?_,by rw[aS];show G.length+1<=i+1;omega,fun g=>?_⟩
  ·rw[am (ae e hf)];exact S _ _ e
  ·rw[v,<-M,bx];simp only[cX];exact⟨fun h=>h.imp id fun h=>⟨c1,c2,h.symm⟩,fun h=>h.imp id fun h=>h.2.2.symm⟩
 ·rintro σ H' ⟨G,x4,x5,x6,rfl,l,S,hl,M⟩;have S:ab B H':=S;rw[ag,Paired.length T.ds]at hl;rw[ag,Paired.length T.ds,bg]at M;refine⟨_,rfl,_,rfl,t,f,l1,l2,l3,N,ts,J0,J2,J3,G,p,rfl,L.same S,m,l,by omega,fun t' H' h1 S'=>k t' H' ?_ ((J.trans S).trans S')⟩;rw[h1];unfold behF;rw[if_neg c]
  suffices e0:closF J3 p G=closF J3 p (dg p y n) by rw[e0]
  refine Ae fun g=>?_;rw[M,ee];constructor
  ·rintro⟨⟨a,a8,b⟩,hd,h1,h2,h3⟩;simp only at h1 h2 h3;subst h2 h3;exact⟨a,h1,hd⟩
  ·rintro⟨r,hr,h⟩;exact⟨_,h,hr,rfl,rfl⟩
open Classical in
theorem Bt{K:Za}{k:Nat}{j:List Nat}{g:TG}{m:TT}{n:TE}{σ:L2.St}{o:Hp}{Q:Hp->Prop}{l a:Addr}{xs:List V}(Pv:Nat->List V->Hp->Prop)(s:Pv 0 [] (upd o l (.lst [])))
  (h:∀i e H,i<=xs.length->Pv i e H->H l=some (.lst e)/\au K H a xs) (z:∀e H,Pv xs.length e H->Q H)
  (A:∀i e H x p,xs[i]?=some x->i<xs.length->Pv i e H->H p=none->g (.ref p) (cH k j σ) (upd H p (.tup [.int i,x])) fun σ2 B=>m σ2 B fun b q =>
   if b=true then n σ2 q fun v r=>r l=some (.lst e)/\e.length<aj/\∃f,f<xs.length-i/\Wc xs.length Pv (i+1) f (e++[v]) (upd r l (.lst (e++[v])))else ∃f,f<xs.length-i/\Wc xs.length Pv (i+1) f e q) :
  cW k j σ (Jl K a) g m n o l Q:=by
 refine jb xs.length Pv s (fun i e H hi p=>(h i e H hi p).1) (fun i e H hi p=>?_) (fun e H p=>?_) fun i e H x E hi p y=>?_
 ·exact⟨xs,xs[i],(h i e H (cV hi) p).2,by simp[hi]⟩
 ·exact⟨⟨xs,(h _ e H (aP _) p).2,aP _⟩,z e H p⟩
 ·obtain⟨t,u,rfl,C,D,rfl⟩:=y;exact A i e H u t (D xs (h i e H (cV hi) p).2) hi p C
inductive o_(vs:List V)(H:Hp)(Q:VK)(E:XK):Prop
 |mk (n:Nat):(vs=[.int n])->(n<200)->(∀H',ab H H'->Q (.str (Et n)) H')->o_ vs H Q E
theorem JI{c:Nat}(h:c<26):yM (Str.cps "abcdefghijklmnopqrstuvwxyz").toList (c:Int)=some (97+c):=by
 refine cp ?_;have:∀c:_root_.Fin 26,(Str.cps "abcdefghijklmnopqrstuvwxyz").toList[c.1]?=some (97+c.1):=by decide
 exact this ⟨c,h⟩
theorem Fk{K:Za}{a:List V}{H:Hp}{Q:VK}{E:XK}(h:o_ a H Q E):qD K (bS Q) (start re a) H:=by
 obtain⟨n,rfl,i,k⟩:=h;refine⟨_,rfl,.inr ⟨_,rfl,(by show 26<=aj;decide),n,26,rfl,⟨by decide,by decide⟩,fun p e=>?_⟩⟩;have S:ab H (upd H p (.tup [.int ((n:Int) / 26),.int ((n:Int) % 26)])):=ab.new e;have f:(n:Int) / 26=((n / 26:Nat):Int):=by omega
 have g:(n:Int) % 26=((n % 26:Nat):Int):=by omega
 refine⟨p,_,rfl,br.of aa,rfl,_,_,rfl,_,_,rfl,rfl,?_⟩;refine⟨_,rfl,_,_,_,rfl,rfl,(by show 26<=aj;decide),by rw[f];exact JI (c:=n / 26) (by omega),_,rfl,_,_,_,rfl,rfl,(by show 26<=aj;decide),by rw[g];exact JI (c:=n % 26) (by omega),_,_,rfl,rfl,(by show 1+1<=aj;decide),k _ S⟩
theorem DV{d:Addr}{o:Obj}{u:HO}{n:Nat}{f:Nat->Hp->V->V->Prop}{g:TG}{k:TS}{D:oE}{σ:L2.St}{H:Hp}(Pv:Nat->L2.St->Hp->Prop)(r:Pv 0 σ H)(s:∀i σ H,i<=n->Pv i σ H->H d=some (.frz o u))
  (t:∀i σ H a b,i<n->Pv i σ H->f i H a b->g a σ H fun σ2 j=>k { D with nx:=Pv (i+1),ct:=Pv (i+1),bk:=D.nx } σ2 j) (v:∀σ H,Pv n σ H->D.nx σ H) :
  ∃W:Nat->Nat->L2.St->Hp->Prop,(∃m,W 0 m σ H)/\∀i m σ H,W i m σ H ->
   ((Je d o u n f).stop i H/\D.nx σ H)∨((Je d o u n f).go i H/\∃N:L2.St->Hp->Prop,(∀σ' h,N σ' h->∃l,l<m/\W (i+1) l σ' h)/\∀x h,(Je d o u n f).yld i H x h->g x σ h fun σ2 j=>k { D with nx:=N,ct:=N,bk:=D.nx } σ2 j):=by
 refine⟨fun i m σ H=>m=n-i/\i<=n/\Pv i σ H,⟨n,by simp,c7 _,r⟩,?_⟩;rintro i m σ H ⟨rfl,hi,p⟩;have q:=s i σ H hi p;by_cases lt:i<n
 ·refine .inr ⟨⟨q,lt⟩,Pv (i+1),fun σ' h z=>⟨n-(i+1),by omega,rfl,lt,z⟩,fun x h y=>?_⟩;obtain⟨rfl,b,A⟩:=y;exact t i σ _ x b lt p A
 ·have e:i=n:=by omega
  subst e;exact .inl ⟨⟨q,aP _⟩,v σ H p⟩
def DB(p:Str×Str):List Str:=[p.1,p.2]
theorem Cg{p q:Str×Str}(h:nc (DB p)=nc (DB q)):p=q:=by
 have h:=sZ h;unfold DB at h;injection h with e a;injection a with a;exact Prod.ext e a
def rN(J3 rooms':Zb)(L:List (Str×Str)):List (TK×V):=L.map fun p=>(nc (DB p),.str (jp J3 rooms' p))
theorem ul:∀(f a:List (TK×V)),((a++f).map Prod.fst).Nodup->putAll a f=a++f
 |[],a,_=>(cM _).symm
 |kv::f,a,h=>by
  show putAll (eT a kv.1 kv.2) f=_;have g:de a kv.1=none:=GO fun x hx z=>by
   rw[av,dq]at h;exact h.2.2 _ (e_ hx) kv.1 (dS) z
  rw[pE _ g];have e:a++[(kv.1,kv.2)]++f=a++kv::f:=by rw[dZ];rfl
  rw[ul f _ (by rw[e];exact h),e]
theorem DK{e a:Zb}{L:List (Str×Str)}(h:L.Nodup):((rN e a L).map Prod.fst).Nodup:=by
 unfold rN p_;rw[iQ,iQ];exact nu (fun{p q} n z=>n (Cg z)) h
theorem xU{e a:Zb}:∀{L:List (Str×Str)}{p:Str×Str},p∈L->de (rN e a L) (nc (DB p))=some (.str (jp e a p))
 |q::L,p,h=>by
  show de ((nc (DB q),V.str (jp e a q))::rN e a L) _=_;by_cases c:q=p
  ·rw[c,dU rfl]
  ·rw[dB (fun z=>c (Cg z))];exact xU ((c8.1 h).resolve_left (fun z=>c z.symm))
inductive sp_joined(C:Addr)(vs:List V)(H:Hp)(Q:VK)(E:XK):Prop
 |mk (M N:Addr) (J0 J2 J3 asks' says' rooms':Zb) (ds ds':List ak):(vs=[.ref M,.ref N])->(aX C H M J0 J2 J3 ds)->(aX C H N asks' says' rooms' ds')->(JoinOk J0 J2 J3 asks' says' rooms' ds ds')->(∀r∈J3,∀a∈J0,dY ds r a)->(∀r∈rooms',∀a∈asks',dY ds' r a)->((mV ds ds' J2 says' J3 rooms' (aF J0 J2 asks' says')).length<=1000) ->
  (∀(x:Addr) (H':Hp),aX C H' x (cz J0 J2 asks' says') (J2++says') (b_ J3 rooms') (mV ds ds' J2 says' J3 rooms' (aF J0 J2 asks' says'))->ab H H'->Q (.ref x) H')->sp_joined C vs H Q E
theorem Dp{K:Za}{C:Addr}{vs:List V}{H:Hp}{Q:VK}{E:XK}(h:sp_joined C vs H Q E):EO K C (pb C) (iB C) (lH C) (mr K C) (mq K C) (mj C) o_ (lE C) (iC C) (o9 C) (bS Q) (start Gy vs) H:=by
 obtain⟨M,N,D,A,J3,y,v,l,Y,B,rfl,MM,MN,J,tk,c5,few,k⟩:=h;have m:=MM.ok;have m':=MN.ok;have z1:=m.says4;have z2:=m'.says4;have MJ:=FQ m m' J few;have b6:=km m.okR.1 m'.okR.1;have lP:(aH J3 l).length<=100:=by rw[fG];exact nv J.r1 J.r2
 refine⟨_,rfl,_,rfl,M,N,D,A,J3,y,v,l,Y,B,rfl,MM,MN,J,fun H1 S1=>?_⟩;refine⟨_,rfl,M,D,A,J3,Y,rfl,MM.same S1,tk,fun H2 T=>?_⟩;have G:=S1.trans T;refine⟨_,rfl,N,y,v,l,B,rfl,MN.same G,c5,fun H3 S3=>?_⟩;have an:=G.trans S3;refine⟨_,rfl,_,rfl,M,N,D,A,J3,y,v,l,Y,B,rfl,MM.same an,MN.same an,fun wl H4 b7 _ S4=>?_⟩;have ap:=an.trans S4;have lW:(aF D A y v).length<=8:=by
  unfold aF;have h1:=bo (fun w=>decide (w∈y)) A;have h2:=bo (fun w=>decide (w∈D)) v;rw[aS];omega
 clear S1 T G S3 an S4;refine⟨_,rfl,_,rfl,M,N,D,A,J3,y,v,l,Y,B,rfl,MM.same ap,MN.same ap,J.r1,J.r2,fun pl us H5 bi bl _ S5=>⟨pl,rfl,⟨_,au.of bi⟩,fun cl bn=>?_⟩⟩;have b8:=ap.trans S5;have a8:=S5 _ _ b7;have ca:=Paired.length bl;clear ap S5 b7
 let zE:Nat->List V->Hp->Prop:=fun i vs U=>∃ts:List Addr,GA (vs=ts.map V.ref) (ab H5 U) (U cl=some (.lst vs)) (ts.length=i) (∀(j:Nat) (t u:Addr),ts[j]?=some t->us[j]?=some u->U t=some (.tup [.ref u,.str (Et j)]))
 refine Bt (xs:=us.map V.ref) zE ⟨[],rfl,ab.new bn,aa,rfl,fun j t u e=>by simp at e⟩ (fun i vs U _ zq=>by obtain⟨_,_,S,h',_⟩:=zq;exact⟨h',au.of (S _ _ bi)⟩) ?_ ?_;rotate_left
 ·rintro i vs H6 x p hx hi ⟨ts,rfl,S6,h6,lt,a6⟩ hp;obtain⟨u,hu,rfl⟩:=cD hx;rw[ag]at hi;have Sp:ab H6 (upd H6 p (.tup [.int i,.ref u])):=ab.new hp;have pp:upd H6 p (.tup [.int i,.ref u]) p=some (.tup [.int i,.ref u]):=aa;generalize upd H6 p (.tup [.int i,.ref u])=H7 at Sp pp ⊢;refine⟨p,_,rfl,br.of pp,rfl,_,_,rfl,_,_,rfl,rfl,nM ⟨_,rfl,_,rfl,i,rfl,by omega,fun H8 S8=>⟨(by show 2<=aj;decide),fun t ht=>?_⟩⟩⟩;have S9:ab H8 (upd H8 t (.tup [.ref u,.str (Et i)])):=ab.new ht;have t9:upd H8 t (.tup [.ref u,.str (Et i)]) t=some (.tup [.ref u,.str (Et i)]):=aa;show _/\_/\_;generalize upd H8 t (.tup [.ref u,.str (Et i)])=H9 at S9 t9 ⊢;have S69:=Sp.trans (S8.trans S9);have kt:j7 H9 (upd H9 cl (.lst (ts.map V.ref++[.ref t]))):=cU (S69 _ _ h6);refine⟨S69 _ _ h6,by rw[ag];exact ao (by omega),jo (by rw[ag];exact hi) ⟨ts++[t],by rw[av];rfl,fun b o e=>?_,aa,by rw[aS,lt];rfl,fun j t' u' h1 h2=>?_⟩⟩
  ·rw[am (ae e bn)];exact S69 _ _ (S6 _ _ e)
  ·by_cases c:j<ts.length
   ·rw[qw c]at h1;exact kt _ _ (S69 _ _ (a6 j t' u' h1 h2))
   ·have ej:j=ts.length:=by
     have:=(bN.1 h1).1;rw[aS]at this;have:j<ts.length+1:=this;omega
    rw[ej,xf (aP _),Nat.sub_self]at h1;have h1:some t=some t':=h1;cases h1;rw[ej,lt,hu]at h2;cases h2;rw[ej,lt];exact kt _ _ t9
 rintro vs H6 ⟨ts,rfl,S6,h6,lt,a6⟩;rw[ag]at lt;have a9:Paired (Kg H6) us (aH J3 l):=Paired.mapP bl fun _ _ r=>S6 _ _ r;have bp:=b8.trans S6;have bb:=S6 _ _ a8;refine⟨cl,ts,us,rN J3 l (aH J3 l),rfl,au.of h6,by rw[lt,ca];unfold rN;rw[ag],by rw[ca];unfold rN;rw[ag],fun j t b kv h1 h2 h3=>?_,fun I b0=>?_⟩
 ·unfold rN at h3;rw[du]at h3;obtain⟨p,hp,rfl⟩:=Option.map_eq_some_iff.1 h3;obtain⟨b',cc,pr⟩:=Paired.get a9 hp;rw[h2]at cc;cases cc;have en:jp J3 l p=Et j:=by
   obtain⟨hj,e⟩:=bN.1 hp;unfold jp;rw[<-e,b6.idxOf_getElem j hj]
  refine⟨by rw[a6 j t b h1 h2];show _=some (HO.tup [.ref b,.str (jp J3 l p)]);rw[en],EL (xs:=DB p) (.inl pr),qY _⟩
 rw[ul _ [] (by rw[List.nil_append];exact DK b6),List.nil_append];have Sn:ab H6 (upd H6 I (.dT (rN J3 l (aH J3 l)))):=ab.new b0;have n7:upd H6 I (.dT (rN J3 l (aH J3 l))) I=some (.dT (rN J3 l (aH J3 l))):=aa;generalize upd H6 I (.dT (rN J3 l (aH J3 l)))=H7 at Sn n7 ⊢;have n0:H I=none:=bp.free b0;have b1:=bp.trans Sn;have a0:=Sn _ _ bb;clear b8 S6 bp Sn a8 bb a6 lt h6 bl a9 bi bn b0;refine⟨(by show 0<=aj;decide),fun dl a4=>?_⟩;have Sd:ab H7 (upd H7 dl (.lst [])):=ab.new a4;have d8:upd H7 dl (.lst []) dl=some (.lst (([]:Ze).map V.ref)):=aa;generalize upd H7 dl (.lst [])=H8 at Sd d8 ⊢;have cd:H dl=none:=b1.free a4;have n8:=Sd _ _ n7;have b2:I≠dl:=ae n7 a4;have ce:wl≠dl:=ae a0 a4;have ch:=b1.trans Sd;have as:=Sd _ _ a0;clear b1 Sd a0 n7 a4;refine⟨_,rfl,I,_,rfl,.inl ⟨n8,fun ob=>?_⟩⟩;have ci:j7 H8 (upd H8 I (.frz ob (.dT (rN J3 l (aH J3 l))))):=fun b xs e=>by rw[am (fun z=>by rw[z,n8]at e;cases e)];exact e
 have b3:ab H (upd H8 I (.frz ob (.dT (rN J3 l (aH J3 l))))):=fun b o e=>by rw[am (ae e n0)];exact ch _ _ e
 have d9:upd H8 I (.frz ob (.dT (rN J3 l (aH J3 l)))) dl=some (.lst (([]:Ze).map V.ref)):=by rw[am b2.symm];exact d8
 have n9:upd H8 I (.frz ob (.dT (rN J3 l (aH J3 l)))) I=some (.frz ob (.dT (rN J3 l (aH J3 l)))):=aa;have w9:upd H8 I (.frz ob (.dT (rN J3 l (aH J3 l)))) wl=some (.lst ((aF D A y v).map V.str)):=by rw[am (fun z=>by rw[z,n8]at as;cases as)];exact as
 generalize upd H8 I (.frz ob (.dT (rN J3 l (aH J3 l))))=H9 at ci b3 d9 n9 w9 ⊢;have da:wl≠I:=fun z=>by rw[z,n9]at w9;cases w9
 clear n8 d8 as ch ci;have lJ:∀i,((aH J3 l).take i |>.flatMap (i_ Y B A v (aF D A y v))).length<=1000:=fun i=>by
  refine bz ?_ few;unfold mV zY;rw[ag]
  conv=>rhs;rw[<-List.take_append_drop i (aH J3 l),nA,aS]
  exact Nat.le_add_right _ _
 let zI:Nat->L2.St->Hp->Prop:=fun i σ U=>HR fun(us:Ze) (x5 x6:Option V)=>JM (σ=[some (.ref M),some (.ref N),some (.ref wl),some (.ref I),some (.ref dl),x5,x6]) (U dl=some (.lst (us.map V.ref))) (Paired (gR K U) us (((aH J3 l).take i).flatMap (i_ Y B A v (aF D A y v)))) (ab H U) (U I=some (.frz ob (.dT (rN J3 l (aH J3 l))))) (U wl=some (.lst ((aF D A y v).map V.str)))
 have cm:(rN J3 l (aH J3 l)).length=(aH J3 l).length:=by unfold rN;rw[ag]
 refine DV zI ⟨[],_,_,rfl,d9,.nil,b3,n9,w9⟩ (fun i σ U _ zq=>by obtain⟨_,_,_,_,_,_,_,h',_⟩:=zq;exact h') ?_ ?_
 ·rintro i σ H1 a b hi ⟨us,x5,x6,rfl,aC,O,S1,n1,w1⟩ ⟨ky,hk,co⟩;rw[cm]at hi;have hp:(aH J3 l)[i]?=some (aH J3 l)[i]:=ik hi;have ek:ky=nc (DB (aH J3 l)[i]):=by
   unfold rN at hk;rw[du,hp]at hk;have hk:some (nc (DB (aH J3 l)[i]),V.str (jp J3 l (aH J3 l)[i]))=some (ky,b):=hk;injection hk with hk;injection hk with hk _;exact hk.symm
  have cs:=bW hp;generalize(aH J3 l)[i]=p at hp ek cs;rw[ek]at co;obtain⟨hr,rfl,a7⟩:=EH co;have a7:eC K H1 hr (FC p):=a7;obtain⟨p1,p2⟩:=bu.1 cs;refine gN ⟨_,rfl,.inl ⟨rfl,_,au.of aC⟩,_,rfl,_,rfl,_,rfl,_,rfl,M,N,hr,wl,p,D,A,J3,y,v,l,aF D A y v,Y,B,rfl,MM.same S1,MN.same S1,a7,p1,p2,w1,J.d1,J.d2,fun la ua H2 db ct _ T=>?_⟩;have G:=S1.trans T;refine⟨_,rfl,_,rfl,_,rfl,_,rfl,M,N,hr,wl,p,D,A,J3,y,v,l,aF D A y v,Y,B,rfl,MM.same G,MN.same G,eC.kt (ab.kt T) a7,T _ _ w1,lW,J.d1,J.d2,fun lt ut H3 dc c0 _ S3=>?_⟩;have dd:=T.trans S3;have snoc:((aH J3 l).take (i+1)).flatMap (i_ Y B A v (aF D A y v))=((aH J3 l).take i).flatMap (i_ Y B A v (aF D A y v))++(oj Y B (aF D A y v) p++qA Y B A v (aF D A y v) p):=by
   rw[take_snoc hp,nA,wt];rfl
  have l0:=lJ (i+1);rw[snoc,aS,aS,<-Paired.length ct,<-Paired.length c0,<-Paired.length O]at l0;refine⟨la,lt,_,_,rfl,rfl,S3 _ _ db,dc,by rw[ag,ag];exact cV (ao (by omega)),fun lc di=>?_⟩;have S4:ab H3 (upd H3 lc (.lst (ua.map V.ref++ut.map V.ref))):=ab.new di;have c4:upd H3 lc (.lst (ua.map V.ref++ut.map V.ref)) lc=some (.lst ((ua++ut).map V.ref)):=by rw[aa,av]
  generalize upd H3 lc (.lst (ua.map V.ref++ut.map V.ref))=H4 at S4 c4 ⊢;have a5:=dd.trans S4;have c1:=a5 _ _ aC;have kt:j7 H4 (upd H4 dl (.lst (us.map V.ref++(ua++ut).map V.ref))):=cU c1;refine⟨dl,lc,_,_,rfl,rfl,c1,c4,by rw[ag,ag,aS];exact cV (ao (by omega)),us++(ua++ut),_,_,rfl,by rw[aa,<-av],?_,fun b o q=>?_,?_,?_⟩
  ·rw[snoc];exact Paired.app (Paired.mapP O fun _ _ r=>gR.kt kt (gR.kt (ab.kt a5) r)) (Paired.app (Paired.mapP ct fun _ _ r=>gR.kt kt (gR.kt (ab.kt (S3.trans S4)) r)) (Paired.mapP c0 fun _ _ r=>gR.kt kt (gR.kt (ab.kt S4) r)))
  ·rw[am (ae q cd)];exact a5 _ _ (S1 _ _ q)
  ·rw[am b2];exact a5 _ _ n1
  ·rw[am ce];exact a5 _ _ w1
 rintro σ H1 ⟨us,x5,x6,rfl,aC,O,S1,n1,w1⟩;rw[cm,bg]at O;have lj:=few;unfold mV at lj;rw[ag]at lj;have O:Paired (gR K H1) us (zY Y B A v J3 l (aF D A y v)):=O;have b4:∀e∈zY Y B A v J3 l (aF D A y v),e.a∈aH J3 l/\e.b∈aH J3 l:=fun e he=>by
  unfold zY at he;obtain⟨p,hp,he⟩:=fE.1 he;obtain⟨rfl,st⟩:=fI.1 he;exact⟨hp,st.in_ m m' hp⟩
 clear lJ n9 d9 w9 b3 ce da cd b2;refine⟨_,rfl,dl,rfl,⟨_,au.of aC⟩,fun fl c2=>?_⟩;unfold mV at MJ k;generalize zY Y B A v J3 l (aF D A y v)=L at O lj b4 MJ k
 let zC:Nat->List V->Hp->Prop:=fun n vs U=>∃ws:List Addr,Iy (vs=ws.map V.ref) (ab H1 U) (U fl=some (.lst vs)) (cA U ws ((L.take n).map (IM J3 l)))
 refine bD (xs:=us.map V.ref) zC ⟨[],rfl,ab.new c2,aa,.nil⟩ (fun i vs U _ zq=>by obtain⟨_,_,S,h',_⟩:=zq;exact⟨h',au.of (S _ _ aC)⟩) ?_ ?_;rotate_left
 ·rintro n vs H2 x hx hn ⟨ws,rfl,T,h2,hw⟩;obtain⟨u,hu,rfl⟩:=cD hx;obtain⟨e,he,hh,s,g,g1,g2,g3,g4⟩:=Paired.getL O hu;have nl:=(bN.1 he).1;obtain⟨ia,ib⟩:=b4 e (bW he);have rd:Rd H2 I (.dT (rN J3 l (aH J3 l))):=.inr ⟨ob,T _ _ n1⟩;refine⟨u,_,rfl,br.of (T _ _ g1),rfl,_,_,rfl,_,_,rfl,_,_,rfl,rfl,nM ?_⟩;refine⟨_,rfl,_,rfl,I,_,rfl,.inr ⟨_,nc (DB e.a),hh,rd,rfl,B_ (f:=DB e.a) (eC.kt (ab.kt T) g2),qY _,(xU ia).symm⟩,?_⟩;refine⟨_,rfl,_,rfl,_,rfl,I,_,rfl,.inr ⟨_,nc (DB e.b),g,rd,rfl,B_ (f:=DB e.b) (.inl (T _ _ g4)),qY _,(xU ib).symm⟩,(by show 3<=aj;decide),fun q hq=>?_⟩;have S3:ab H2 (upd H2 q (.tup [.str (jp J3 l e.a),.ref s,.str (jp J3 l e.b)])):=ab.new hq;have q3:upd H2 q (.tup [.str (jp J3 l e.a),.ref s,.str (jp J3 l e.b)]) q=some (.tup [.str (jp J3 l e.a),.ref s,.str (jp J3 l e.b)]):=aa;show _/\_/\_;generalize upd H2 q (.tup [.str (jp J3 l e.a),.ref s,.str (jp J3 l e.b)])=H3 at S3 q3 ⊢;have kt:j7 H3 (upd H3 fl (.lst (ws.map V.ref++[.ref q]))):=cU (S3 _ _ h2);refine⟨S3 _ _ h2,by rw[ag,Paired.length hw,ag,aM];exact ao (by omega),jo hn ⟨ws++[q],by rw[av];rfl,fun b o z=>?_,aa,?_⟩⟩
  ·rw[am (ae z c2)];exact S3 _ _ (T _ _ z)
  ·rw[take_snoc he,av];exact fF (Paired.mapP hw fun _ _ r=>gU.kt (fun b xs z=>kt _ _ (S3 _ _ z)) r) ⟨s,kt _ _ q3,kt _ _ (S3 _ _ (T _ _ g3))⟩
 rintro vs H2 ⟨ws,rfl,T,h2,hw⟩;rw[ag,Paired.length O,bg]at hw;have G:=S1.trans T;have n2:=T _ _ n1;clear O b4 lj aC n1 w1 S1 T;refine⟨_,rfl,_,rfl,M,N,D,A,J3,y,v,l,Y,B,rfl,MM.same G,MN.same G,fun al H3 dm _ S3=>?_⟩;have an:=G.trans S3;obtain⟨dx,fs,g1,_,g2,_⟩:=(MM.same an).mth;refine⟨_,rfl,M,dx,fs,rfl,g1,g2,M,D,A,J3,Y,rfl,MM.same an,fun s1 dn=>?_⟩;have S4:ab H3 (upd H3 s1 (.lst (A.map V.str))):=ab.new dn;have s4:upd H3 s1 (.lst (A.map V.str)) s1=some (.lst (A.map V.str)):=aa;generalize upd H3 s1 (.lst (A.map V.str))=H4 at S4 s4 ⊢;have ap:=an.trans S4;obtain⟨dp,dr,dt,_,dv,_⟩:=(MN.same ap).mth;refine⟨_,rfl,N,dp,dr,rfl,dt,dv,N,y,v,l,B,rfl,MN.same ap,fun s2 dy=>?_⟩;have S5:ab H4 (upd H4 s2 (.lst (v.map V.str))):=ab.new dy;have s5:upd H4 s2 (.lst (v.map V.str)) s2=some (.lst (v.map V.str)):=aa;show mU (.ref s1) (.ref s2) (upd H4 s2 (.lst (v.map V.str))) _;generalize upd H4 s2 (.lst (v.map V.str))=H5 at S5 s5 ⊢;refine⟨s1,s2,_,_,rfl,rfl,S5 _ _ s4,s5,by rw[ag,ag];exact cV (ao (by omega)),fun sl dI=>?_⟩;have S6:ab H5 (upd H5 sl (.lst (A.map V.str++v.map V.str))):=ab.new dI;have s6:upd H5 sl (.lst (A.map V.str++v.map V.str)) sl=some (.lst ((A++v).map V.str)):=by rw[aa,av]
 generalize upd H5 sl (.lst (A.map V.str++v.map V.str))=H6 at S6 s6 ⊢;have c3:=S3.trans (S4.trans (S5.trans S6));refine⟨_,rfl,I,_,rfl,.inr ⟨ob,c3 _ _ n2⟩,fun rl dK=>?_⟩;have e7:(rN J3 l (aH J3 l)).map wx=(b_ J3 l).map V.str:=by unfold rN b_;rw[qb,qb];rfl
 rw[e7];have S7:ab H6 (upd H6 rl (.lst ((b_ J3 l).map V.str))):=ab.new dK;have r7:upd H6 rl (.lst ((b_ J3 l).map V.str)) rl=some (.lst ((b_ J3 l).map V.str)):=aa;generalize upd H6 rl (.lst ((b_ J3 l).map V.str))=H7 at S7 r7 ⊢;have b5:=c3.trans S7;refine⟨_,rfl,fun x dx hx dV d0=>?_⟩;have S8:ab H7 (upd (upd H7 dx (.own x)) x (.ins C dx [])):=(ab.new dV).trans (ab.new (by rw[am d0.symm];exact hx));refine⟨x,dx,al,sl,rl,fl,ws,cz D A y v,A++v,b_ J3 l,L.map (IM J3 l),rfl,aa,⟨S8 _ _ ((S4.trans (S5.trans (S6.trans S7))) _ _ dm),S8 _ _ (S7 _ _ s6),S8 _ _ r7,(b5.trans S8) _ _ h2,hw.kt (ab.kt (b5.trans S8))⟩,MJ,fun U Mx ex=>⟨rfl,k x U Mx fun b o q=>?_⟩⟩;have hq:=(G.trans b5) _ _ q;exact ex _ _ (S8 _ _ hq) (ae hq hx)
inductive pe (vs:List V)(H:Hp)(Q:VK)(E:XK):Prop
 |mk (p c l1 l2 l3:Addr) (J0 J2 J3:Zb) (full:Int):(vs=[.ref p,.ref l1,.ref l2,.ref l3,.int full])->(ii H p c)->(H l1=some (.lst (J0.map V.str)))->(H l2=some (.lst (J2.map V.str)))->(H l3=some (.lst (J3.map V.str)))->(J0.length<=3)->(J2≠[])->(J2.length<=4)->(J3≠[])->(J3.length<=26)->(0<=full)->(full<=2)->(∀(l:Addr) (ts:Ze) (ds:List ak) (up:Bool) (H':Hp),H l=none->H' l=some (.lst (ts.map V.ref))->cA H' ts ds->ds.Nodup->(∀d∈ds,l9 J0 J2 J3 up d)->ds.length<=9 * J3.length->ii H' p c->eI p H H'->Q (.ref l) H')->pe  vs H Q E
inductive DdJ(G:ak->Prop)(H:Hp)(p c l l1 l2 l3:Addr)(full dn:Int)(i:Nat)(σ:L2.St)(H':Hp):Prop
 |mk (a7 a8 a9 a10 a11 a12:Option V):σ=[some (.ref p),some (.ref l1),some (.ref l2),some (.ref l3),some (.int full),some (.ref l),some (.int dn),a7,a8,a9,a10,a11,a12]->DI G H p c l (9 * i) H'->DdJ G H p c l l1 l2 l3 full dn i σ H'
theorem Fm{K:Za}{vs:List V}{H:Hp}{Q:VK}{E:XK}(h:pe vs H Q E):qG K f8 qQ (bS Q) (start rh vs) H:=by
 obtain⟨p,c,l1,l2,l3,J0,J2,J3,a,rfl,hp,h1,h2,h3,ha,b8,hs,a4,hr,f0,f2,k⟩:=h;have n1:=hp.ne_strs h1;have n2:=hp.ne_strs h2;have n3:=hp.ne_strs h3;refine⟨(by show 0<=aj;decide),fun l hl=>?_⟩;have a5:=hp.nep hl;have ca:=hp.nec hl;refine⟨_,rfl,ff (hp.ex (ab.new hl)) (by decide) (by decide) fun M H1 d0 d1 cc a6=>?_⟩;generalize hG:l9 J0 J2 J3 (decide (M=0))=G;have base:DI G H p c l 0 H1:=⟨cc,⟨[],[],a6 _ _ aa a5.symm,.nil,tP,by simp,c7 _⟩,(eI.new hl).trans a6,hl,a5,ca⟩;refine⟨_,rfl,l3,rfl,⟨_,au.of (base.ex _ _ h3 n3)⟩,?_⟩;refine l5 (xs:=J3.map V.str) (DdJ G H p c l l1 l2 l3 a M)
  ⟨_,_,_,_,_,_,rfl,base⟩ (fun i σ H' _ zq=>by obtain⟨_,_,_,_,_,_,_,D⟩:=zq;exact au.of (D.ex _ _ h3 n3)) ?_ ?_
 ·rintro i x σ H' t hi ⟨a7,a8,C,m,v,A,rfl,D⟩ ht;obtain⟨room,f,rfl⟩:∃room,J3[i]?=some room/\x=V.str room:=by
   rw[du]at hi;cases q:J3[i]? with
   |none=>rw[q]at hi;cases hi
   |some r=>rw[q]at hi;exact⟨r,rfl,(fj hi).symm⟩
  have dd:i<J3.length:=(bN.mp f).1;have N:room∈J3:=bW f;refine⟨t,_,rfl,br.of aa,rfl,_,_,rfl,_,_,rfl,rfl,?_⟩;have D1:=D.new ht (o:=.tup [.int i,.str room]);refine⟨(by show 4<=aj;decide),fun q hq=>⟨_,rfl,ff (D1.new hq).pen (by decide) (by decide) fun r H2 r0 r1 cd bb=>?_⟩⟩;obtain⟨j,hj,j0,j2⟩:=at4 (x:=0) (by decide) (by decide) r0 r1;have D2:=(D1.new hq).took cd bb;refine⟨q,_,_,_,rfl,rfl,au.of (bb q _ aa (D1.pen.nep hq).symm),hj,j,rfl,by omega,by omega,?_⟩
  let ce:Nat->L2.St->Hp->Prop:=fun i' σ O=>Ew fun(C m:Option V)=>σ=[some (.ref p),some (.ref l1),some (.ref l2),some (.ref l3),some (.int a),some (.ref l),some (.int M),some (.int i),some (.str room),C,m,v,A]/\DI G H p c l (9 * i+i') O
  refine jZ (lo:=0) (n:=j.toNat) ce
   ⟨_,_,rfl,D2⟩ ?_ ?_
  ·rintro i' σ H3 I ⟨C,m,rfl,D3⟩;refine sW (fun _ _ _ _ h=>h) rfl rfl D3.pen (D3.ex _ _ h2 n2) b8 (by omega) fun w hw H4 ch ci=>?_;have D4:=D3.took ch ci;refine⟨(by show 2<=aj;decide),fun L g=>?_⟩;have D5:=D4.new g (o:=.tup [.str "say",.str w]);refine⟨_,rfl,_,rfl,_,rfl,sW (fun _ _ _ _ h=>h) rfl rfl D5.pen (D5.ex _ _ h3 n3) a4 (by omega) fun U J H6 cl bi=>?_⟩;have D6:=D5.took cl bi;refine⟨(by show 3<=aj;decide),fun dr u=>?_⟩;have D7:=D6.new u (o:=.tup [.str room,.ref L,.str U]);have bl:H6 L=some (.tup [.str "say",.str w]):=bi _ _ aa (D4.pen.nep g).symm;refine D7.put (d:=⟨room,["say",w],U⟩) ⟨L,aa,kp bl u⟩ ?_ (by omega) fun H8 Y=>⟨_,_,rfl,Y⟩;rw[<-hG];exact⟨N,J,.inr (.inl ⟨w,hw,rfl⟩)⟩
  rintro σ H3 ⟨C,m,rfl,bn⟩;have D3:DI G H p c l (9 * i+2) H3:=bn.up (by omega);clear bn;refine⟨_,rfl,l1,rfl,⟨_,au.of (D3.ex _ _ h1 n1)⟩,?_⟩
  let cm:Nat->L2.St->Hp->Prop:=fun i' σ O=>Ew fun(C v:Option V)=>σ=[some (.ref p),some (.ref l1),some (.ref l2),some (.ref l3),some (.int a),some (.ref l),some (.int M),some (.int i),some (.str room),C,m,v,A]/\DI G H p c l (9 * i+2+2 * i') O
  refine bO (xs:=J0.map V.str) cm
   ⟨_,_,rfl,D3⟩ (fun i σ H' _ zq=>by obtain⟨_,_,_,D⟩:=zq;exact au.of (D.ex _ _ h1 n1)) ?_ ?_
  ·rintro i' x σ H4 I ⟨C,v,rfl,D4⟩;obtain⟨ask,an,rfl⟩:∃ask,J0[i']?=some ask/\x=V.str ask:=by
    rw[du]at I;cases q:J0[i']? with
    |none=>rw[q]at I;cases I
    |some r=>rw[q]at I;exact⟨r,rfl,(fj I).symm⟩
   have di:i'<J0.length:=(bN.mp an).1;have co:ask∈J0:=bW an;refine⟨_,rfl,(by show 4<=aj;decide),fun q hq=>⟨_,rfl,ff (D4.new hq).pen (by decide) (by decide) fun r H5 r0 r1 cs bp=>?_⟩⟩;obtain⟨j,hj,j0,j2⟩:=at4 f0 f2 r0 r1;have D5:=(D4.new hq).took cs bp;refine⟨q,_,_,_,rfl,rfl,au.of (bp q _ aa (D4.pen.nep hq).symm),hj,j,rfl,by omega,by omega,?_⟩
   let ct:Nat->L2.St->Hp->Prop:=fun b0 σ O=>∃C:Option V,σ=[some (.ref p),some (.ref l1),some (.ref l2),some (.ref l3),some (.int a),some (.ref l),some (.int M),some (.int i),some (.str room),C,m,some (.str ask),A]/\DI G H p c l (9 * i+2+2 * i'+b0) O
   refine jZ (lo:=0) (n:=j.toNat) ct
    ⟨_,rfl,D5⟩ ?_ ?_
   ·rintro b0 σ H6 dc ⟨C,rfl,D6⟩;refine⟨_,rfl,_,rfl,_,rfl,(by show 2<=aj;decide),fun L g=>?_⟩;have D7:=D6.new g (o:=.tup [.str "ask",.str ask]);refine sW (fun _ _ _ _ h=>h) rfl rfl D7.pen (D7.ex _ _ h3 n3) a4 (by omega) fun U J H8 c0 b1=>?_;have Y:=D7.took c0 b1;refine⟨(by show 3<=aj;decide),fun dr u=>?_⟩;have D9:=Y.new u (o:=.tup [.str room,.ref L,.str U]);have b2:H8 L=some (.tup [.str "ask",.str ask]):=b1 _ _ aa (D6.pen.nep g).symm;refine D9.put (d:=⟨room,["ask",ask],U⟩) ⟨L,aa,kp b2 u⟩ ?_ (by omega) fun H8 Y=>⟨_,rfl,Y⟩;rw[<-hG];exact⟨N,J,.inl ⟨ask,co,rfl⟩⟩
   ·rintro σ H6 ⟨C,rfl,D6⟩;exact⟨_,_,rfl,D6.up (by omega)⟩
  rintro σ H4 ⟨C,v,rfl,b3⟩;have D4:DI G H p c l (9 * i+8) H4:=b3.up (by rw[ag];omega);clear b3;have B:∀(H9:Hp) (A:Option V),DI G H p c l (9 * i+9) H9->DdJ G H p c l l1 l2 l3 a M (i+1) [some (.ref p),some (.ref l1),some (.ref l2),some (.ref l3),some (.int a),some (.ref l),some (.int M),some (.int i),some (.str room),C,m,v,A] H9:=fun H9 A D9=>⟨_,_,_,_,_,_,rfl,D9.up (by omega)⟩;refine⟨_,rfl,_,rfl,_,_,rfl,rfl,_,rfl,l3,_,rfl,au.of (D4.ex _ _ h3 n3),fun q1 c1=>?_⟩;have D5:=D4.new c1 (o:=.lst (j1 (J3.map V.str) (some ((i:Int)+1)) none));refine⟨_,rfl,_,rfl,_,rfl,l3,_,rfl,au.of (D5.ex _ _ h3 n3),fun q2 b4=>?_⟩;have e1:j1 (J3.map V.str) (some ((i:Int)+1)) none=(J3.drop (i+1)).map V.str:=D_ J3 (i+1);rw[tj];have D6:=D5.new b4 (o:=.lst ((J3.take i).map V.str));refine⟨(by show 2<=aj;decide),fun q3 as=>?_⟩;have D7:=D6.new as (o:=.lst [.ref q1,.ref q2]);obtain⟨lt,q,hq,al,T⟩:∃(lt:Zb) (q:Addr),yM [V.ref q1,.ref q2] M=some (.ref q) /\
    upd (upd (upd H4 q1 (.lst (j1 (J3.map V.str) (some ((i:Int)+1)) none))) q2 (.lst ((J3.take i).map V.str))) q3 (.lst [.ref q1,.ref q2]) q=some (.lst (lt.map V.str))/\lt.length<=26 /\
    ∀w∈lt,w∈J3/\Up (decide (M=0)) J3 room w:=by
   have:M=0∨M=1:=by omega
   rcases this with rfl|rfl
   ·refine⟨J3.drop (i+1),q1,rfl,?_,by rw[jz];omega,fun w hw=>⟨List.mem_of_mem_drop hw,?_⟩⟩
    ·refine(kp (kp aa b4) as).trans ?_;rw[e1]
    ·obtain⟨n,hn⟩:=nB hw;rw[List.getElem?_drop]at hn;exact⟨i,i+1+n,f,hn,by rw[if_pos (by decide)];omega⟩
   ·refine⟨J3.take i,q2,rfl,?_,by rw[aM];omega,fun w hw=>⟨j8 hw,?_⟩⟩
    ·exact kp aa as
    ·obtain⟨n,hn⟩:=nB hw;have c2:n<i:=by
      have:=(bN.mp hn).1;rw[aM]at this;omega
     rw[nL c2]at hn;exact⟨i,n,f,hn,by rw[if_neg (by decide)];omega⟩
  refine⟨_,rfl,q3,_,_,_,rfl,rfl,au.of aa,hq,?_⟩;generalize upd (upd (upd H4 q1 (.lst (j1 (J3.map V.str) (some ((i:Int)+1)) none))) q2 (.lst ((J3.take i).map V.str))) q3 (.lst [.ref q1,.ref q2])=H7 at D7 al ⊢;refine⟨_,rfl,(by show 0<=aj;decide),fun e he=>⟨.s (lt.map cB),.s [],ie (au.of (kp al he)),yh (au.of aa),?_,by decide,_,rfl,?_⟩⟩
  ·show DT.depths (lt.map cB)+1<=8;rw[dD];decide
  have Y:=D7.new he (o:=.lst []);by_cases hz:lt=[]
  ·have ez:(!decide (DT.s (lt.map cB)=DT.s []))=false:=by rw[hz,zzr1 (by rfl)];rfl
   rw[ez];exact bv (bv (B _ _ (Y.up (by omega))))
  ·have ez:(!decide (DT.s (lt.map cB)=DT.s []))=true:=by
    rw[zzr0 (fun z=>hz (fQ (y:=[]) (by injection z)))];rfl
   rw[ez];refine cr ?_;refine⟨_,rfl,ff Y.pen (by decide) (by decide) fun r H9 r0 r1 c3 b5=>⟨rfl,_,rfl,?_⟩⟩;have D9:=Y.took c3 b5;refine kz (fun _=>?_) (fun _=>B _ _ (D9.up (by omega)));refine⟨_,rfl,_,rfl,(by show 1<=aj;decide),fun L g=>?_⟩;have b6:=D9.new g (o:=.tup [.str "still"]);have aC:upd H9 L (.tup [.str "still"]) q=some (.lst (lt.map V.str)):=kp (b5 _ _ (kp al he) (Y.pen.ne_strs (kp al he))) g;refine sW (fun _ _ _ _ h=>.inl h) rfl rfl b6.pen aC hz (by omega) fun U J c4 b7 ap=>?_;have c5:=b6.took b7 ap;refine⟨(by show 3<=aj;decide),fun dr u=>?_⟩;have da:=c5.new u (o:=.tup [.str room,.ref L,.str U]);have a0:c4 L=some (.tup [.str "still"]):=ap _ _ aa (D9.pen.nep g).symm;refine da.put (d:=⟨room,[("still":Str)],U⟩) ⟨L,aa,kp a0 u⟩ ?_ (by omega) fun dm db=>B _ _ db;rw[<-hG];exact⟨N,(T.2 U J).1,.inr (.inr ⟨rfl,(T.2 U J).2⟩)⟩
 ·rintro σ H' ⟨a7,a8,C,m,v,A,rfl,D⟩;obtain⟨ts,ds,g1,g2,g3,g4,g5⟩:=D.ds;rw[ag]at g5;rw[<-hG]at g4;exact⟨_,rfl,k l ts ds _ H' hl g1 g2 g3 g4 (by omega) D.pen D.ex⟩
theorem rU{K:Za}{σ:L2.St}{H:Hp}{q:List Nat}{a b l sm:Addr}{p:List V}{j:Int}{g os:Zb}{Q:Hp->Prop}(hσ:cH 1 q σ=[none,some (.ref sm)])(u:H sm=some (.lst p))(y:yM p j=some (.ref b))(A:H a=some (.lst (g.map V.str)))(B:H b=some (.lst (os.map V.str)))(r:H l=none)(L:g.length<=900)
  (k:∀f,ab H f->f l=some (.lst ((g.filter fun w=>decide (w∈os)).map V.str))->Q f) :
  cW 1 q σ (CQ K a) U0 (bj (aK (jB K false) V0 (aK (dH K) V1 (tC (.int j))))) V0 H l Q:=by
 let C:Nat->List V->Hp->Prop:=fun i m f=>m=((g.take i).filter fun w=>decide (w∈os)).map V.str/\ab H f/\f l=some (.lst m)
 refine bD (xs:=g.map V.str) C ⟨rfl,ab.new r,aa⟩ (fun i m f _ D=>by obtain⟨_,S,E⟩:=D;exact⟨E,au.of (S _ _ A)⟩) ?_ ?_
 ·rintro m s ⟨rfl,S,n⟩;rw[ag,bg]at n;exact k s S n
 ·rintro i m s x hx hi ⟨rfl,S,n⟩;obtain⟨w,t,rfl⟩:=aZ hx;rw[hσ];refine gN ⟨_,rfl,_,rfl,sm,p,j,_,rfl,rfl,au.of (S _ _ u),y,cB w,os.map cB,b,_,rfl,rfl,.inl (au.of (S _ _ B)),gk os,c7 _,by rw[gP];decide,_,rfl,?_⟩;have G:(cB w∈os.map cB)↔w∈os:=⟨fun z=>by obtain⟨v,I,e⟩:=aA.1 z;have e:DT.k (.inr v)=DT.k (.inr w):=e;injection e with e;injection e with e;rw[<-e];exact I,e_⟩;have J:(if false=true then !decide (cB w∈os.map cB)else decide (cB w∈os.map cB))=decide (w∈os):=decide_eq_decide.2 G
  rw[J];by_cases c:w∈os
  ·rw[zzr1 c];refine cr ⟨_,rfl,n,?_,jo hi ⟨?_,fun b o e=>?_,aa⟩⟩
   ·rw[ag]at hi ⊢;exact ao (bz (bo _ _) (by rw[aM];omega))
   ·rw[take_snoc t,f6,av];have:[w].filter (fun w=>decide (w∈os))=[w]:=by rw[qa,if_pos (zzr1 c)];rfl
    rw[this];rfl
   ·rw[am (ae e r)];exact S _ _ e
  ·rw[zzr0 c];refine bv (jo hi ⟨?_,S,n⟩);rw[take_snoc t,f6];have:[w].filter (fun w=>decide (w∈os))=[]:=by rw[qa,if_neg (by rw[zzr0 c];decide)];rfl
   rw[this,cM]
structure F4(H:Hp)(sm:Addr)(A:Nat->Addr)(S:Nat->List Str):Prop where
 l:H sm=some (.lst [.ref (A 0),.ref (A 1),.ref (A 2),.ref (A 3)])
 s:∀k,k<4->H (A k)=some (.lst ((S k).map V.str))
theorem F4.same{H H':Hp}{a:Addr}{A:Nat->Addr}{S:Nat->List Str}(h:F4 H a A S)(e:ab H H'):F4 H' a A S:=⟨e _ _ h.l,fun k f=>e _ _ (h.s k f)⟩
theorem F4.ix{A:Nat->Addr}{k:Nat}(h:k<4):yM [V.ref (A 0),.ref (A 1),.ref (A 2),.ref (A 3)] (k:Int)=some (.ref (A k)):=by
 refine cp ?_;rcases k with _|_|_|_|k
 ·rfl
 ·rfl
 ·rfl
 ·rfl
 ·omega
inductive jO(vs:List V)(H:Hp)(Q:VK)(E:XK):Prop
 |mk (sm:Addr) (A:Nat->Addr) (S:Nat->List Str):(vs=[.ref sm])->(F4 H sm A S)->((∀k,k<4->(S k).length<=4))->(∀(l:Addr) (H':Hp),H' l=some (.lst ((cz (S 0) (S 1) (S 2) (S 3)).map V.str))->H l=none->ab H H'->Q (.ref l) H')->jO vs H Q E
theorem Fp{K:Za}{t:List V}{H:Hp}{Q:VK}{E:XK}(h:jO t H Q E):r6 K (bS Q) (start sG t) H:=by
 obtain⟨sm,A,S,rfl,F,z,k⟩:=h;have O:=z 0 (by decide);have T:=z 1 (by decide);have U:=z 2 (by decide);have Y:=z 3 (by decide);refine⟨_,rfl,sm,_,1,_,rfl,rfl,au.of F.l,F4.ix (k:=1) (by decide),A 1,rfl,⟨_,au.of (F.s 1 (by decide))⟩,fun C o=>?_⟩;refine rU (sm:=sm) (j:=((2:Nat):Int)) rfl F.l (F4.ix (k:=2) (by decide)) (F.s 1 (by decide)) (F.s 2 (by decide)) o (by omega) fun H1 u D=>?_;have e:=F.same u;refine⟨_,rfl,sm,_,3,_,rfl,rfl,au.of e.l,F4.ix (k:=3) (by decide),A 3,rfl,⟨_,au.of (e.s 3 (by decide))⟩,fun G p=>?_⟩;refine rU (sm:=sm) (j:=((0:Nat):Int)) rfl e.l (F4.ix (k:=0) (by decide)) (e.s 3 (by decide)) (e.s 0 (by decide)) p (by omega) fun f v I=>?_;have f1:=bo (fun w=>decide (w∈S 2)) (S 1);have f2:=bo (fun w=>decide (w∈S 0)) (S 3);refine⟨C,G,_,_,rfl,rfl,v _ _ D,I,by rw[ag,ag];exact cV (ao (by omega)),fun g q=>?_⟩;have x:ab f (upd f g (.lst (((S 1).filter fun w=>decide (w∈S 2)).map V.str++((S 3).filter fun w=>decide (w∈S 0)).map V.str))):=ab.new q;have y:upd f g (.lst (((S 1).filter fun w=>decide (w∈S 2)).map V.str++((S 3).filter fun w=>decide (w∈S 0)).map V.str)) g=some (.lst ((aF (S 0) (S 1) (S 2) (S 3)).map V.str)):=by rw[aa,<-av];rfl
 generalize upd f g (.lst (((S 1).filter fun w=>decide (w∈S 2)).map V.str++((S 3).filter fun w=>decide (w∈S 0)).map V.str))=i at x y ⊢;have a:=u.trans (v.trans x);have m:=F.same a;refine⟨_,rfl,sm,_,0,_,rfl,rfl,au.of m.l,F4.ix (k:=0) (by decide),_,rfl,sm,_,2,_,rfl,rfl,au.of m.l,F4.ix (k:=2) (by decide),A 0,A 2,_,_,rfl,rfl,m.s 0 (by decide),m.s 2 (by decide),by rw[ag,ag];exact cV (ao (by omega)),fun c J=>?_⟩;have n:ab i (upd i c (.lst ((S 0).map V.str++(S 2).map V.str))):=ab.new J;have B:upd i c (.lst ((S 0).map V.str++(S 2).map V.str)) c=some (.lst ((S 0++S 2).map V.str)):=by rw[aa,av]
 refine⟨c,rfl,⟨_,au.of aa⟩,fun l r=>?_⟩;generalize upd i c (.lst ((S 0).map V.str++(S 2).map V.str))=H4 at n B r ⊢;exact n_ (neg:=true) rfl B (n _ _ y) r (by rw[aS];omega) fun L M N=>k l L N ((a.trans n).free r) (a.trans (n.trans M))
def tIs(l:List Int):TA:=l.foldr (fun i t=>ar (tC (.int i)) t) aY
def Kc(L:List (List Int)):TA:=L.foldr (fun l t=>ar (bF (tIs l)) t) aY
theorem EU{σ:L2.St}:∀(l:List Int) {H:Hp}{Q:List V->Hp->Prop},Q (l.map V.int) H->tIs l σ H Q
 |[],_,_,h=>h
 |i::l,H,Q,h=>EU (σ:=σ) l (H:=H) (Q:=fun a e=>Q (.int i::a) e) h
theorem ET{σ:L2.St}:∀(L:List (List Int)) {H:Hp}{Q:List V->Hp->Prop},(∀l∈L,l.length<=1000) ->
  (∀(f:Ze) (g:Hp),ab H g->Paired (fun a (l:List Int)=>g a=some (.lst (l.map V.int))) f L->(∀a∈f,H a=none)->f.Nodup->Q (f.map V.ref) g)->Kc L σ H Q
 |[],H,Q,_,k=>k [] H (fun _ _ e=>e) .nil (fun a h=>by cases h) .nil
 |l::L,H,Q,j,k=>by
  show tIs l σ H fun i m=>i.length<=aj/\∀p,m p=none->Kc L σ (upd m p (.lst i)) fun i r=>Q (.ref p::i) r;refine EU l ⟨by rw[ag];exact cV (ao (j l dS)),fun p n=>?_⟩;have S:ab H (upd H p (.lst (l.map V.int))):=ab.new n;refine ET L (fun s h=>j s (fX _ h)) fun f g o t q u=>k (p::f) g (S.trans o) (.cons (o _ _ aa) t) (fun a ha=>?_) ?_
  ·rcases c8.1 ha with rfl|ha
   ·exact n
   ·exact S.free (q a ha)
  ·refine k5.2 ⟨fun z=>?_,u⟩;have:=q p z;rw[aa]at this;cases this
theorem EX{L:List (List Int)}{j:Nat}{rest:TS}{D:oE}{σ:L2.St}{H:Hp}(h:∀l∈L,l.length<=1000)(i:L.length<=1000)
  (k:∀(e:Ze) (f:Hp) (y:Addr),ab H f->Paired (fun a (l:List Int)=>f a=some (.lst (l.map V.int))) e L->(∀a∈e,H a=none)->e.Nodup->f y=none->rest D (σ.set j (some (.ref y))) (upd f y (.lst (e.map V.ref)))):aw (bf (bF (Kc L)) (dX j)) rest D σ H :=
 show Kc L σ H _ from ET L h fun e f S g m n=>⟨by rw[ag,Paired.length g];exact cV (ao i),fun y o=>k e f y S g m n o⟩
def cf(i j:Nat):Bool:=decide ((i,j)∈[(0,1),(0,2),(1,3),(2,3)])
structure WI(P:Zb)(S:Nat->List Str):Prop where
 nd:∀k,k<4->(S k).Nodup
 len:∀k,k<4->(S k).length<=2
 sub:∀k,k<4->∀w∈S k,w∈P
 ap:∀i j,cf i j=true->∀w∈S i,w∉S j
def zG(S:Nat->List Str)(k:Nat)(w:Str):Nat->List Str:=fun j=>if j=k then S k++[w]else S j
theorem jR{S:Nat->List Str}{k:Nat}{w:Str}:zG S k w k=S k++[w]:=if_pos rfl
theorem pG{S:Nat->List Str}{k j:Nat}{w:Str}(h:j≠k):zG S k w j=S j:=if_neg h
theorem Gq{i j:Nat}(h:cf i j=true):i<4/\j<4/\i≠j:=by
 have h:=of_decide_eq_true h;simp only[c8,iR,or_false,Prod.mk.injEq]at h;omega
structure Ki(S0:Nat->List Str)(w:Str)(l:List Nat)(S:Nat->List Str):Prop where
 at_:∀k,k<4->S k=S0 k∨(k∈l/\S k=S0 k++[w]/\(S0 k).length<2)
theorem Ki.wi{S0 S:Nat->List Str}{P:Zb}{w:Str}{l:List Nat}(h:Ki S0 w l S)(W:WI P S0)(m:w∉P)(o:∀i j,cf i j=true->¬(i∈l/\j∈l)):WI (P++[w]) S:=by
 have g:∀k,k<4->∀x∈S k,x∈S0 k∨(x=w/\k∈l):=fun k f x hx=>by
  rcases h.at_ k f with e|⟨p,q,_⟩
  ·rw[e]at hx;exact .inl hx
  ·rw[q]at hx;rcases bx.1 hx with z|z
   ·exact .inl z
   ·exact .inr ⟨cX.1 z,p⟩
 refine⟨fun k f=>?_,fun k f=>?_,fun k f x hx=>?_,fun i j c x hx r=>?_⟩
 ·rcases h.at_ k f with e|⟨_,e,_⟩
  ·rw[e];exact W.nd k f
  ·rw[e];refine dq.2 ⟨W.nd k f,k5.2 ⟨by simp,.nil⟩,fun a s b t z=>?_⟩;rw[cX.1 t]at z;exact m (z▸W.sub k f a s)
 ·rcases h.at_ k f with e|⟨_,e,z⟩
  ·rw[e];exact W.len k f
  ·rw[e,aS];show _+1<=2;omega
 ·rcases g k f x hx with z|z
  ·exact bV _ (W.sub k f x z)
  ·exact cx _ (cX.2 z.1)
 ·obtain⟨hi,n,ne⟩:=Gq c;rcases g i hi x hx with z|z<;>rcases g j n x r with y|y
  ·exact W.ap i j c x z y
  ·exact m (y.1▸W.sub i hi x z)
  ·exact m (z.1▸W.sub j n x y)
  ·exact o i j c ⟨z.2,y.2⟩
structure TW(H0:Hp)(p c:Addr)(A:Nat->Addr)(S:Nat->List Str)(H':Hp):Prop where
 pen:ii H' p c
 ex:∀b o,H0 b=some o->b≠p->(∀k,k<4->b≠A k)->H' b=some o
 s:∀k,k<4->H' (A k)=some (.lst ((S k).map V.str))
structure TA4(p c:Addr)(A:Nat->Addr):Prop where
 p:∀k,k<4->A k≠p
 c:∀k,k<4->A k≠c
 inj:∀i j,i<4->j<4->A i=A j->i=j
section
variable{H0 H' H'':Hp}{p c:Addr}{A:Nat->Addr}{S:Nat->List Str}
theorem TW.took(h:TW H0 p c A S H')(a:TA4 p c A)(f:ii H'' p c)(ex:eI p H' H''):TW H0 p c A S H'':=⟨f,fun b o q n m=>ex _ _ (h.ex b o q n m) n,fun k e=>ex _ _ (h.s k e) (a.p k e)⟩
theorem TW.same(h:TW H0 p c A S H')(e:ab H' H''):TW H0 p c A S H'':=⟨h.pen.ex e,fun b o q n m=>e _ _ (h.ex b o q n m),fun k a=>e _ _ (h.s k a)⟩
theorem TW.put(h:TW H0 p c A S H')(a:TA4 p c A){k:Nat}(f:k<4)(w:Str):TW H0 p c A (zG S k w) (upd H' (A k) (.lst ((S k).map V.str++[.str w]))):=by
 refine⟨h.pen.upd (a.p k f).symm (a.c k f).symm,fun b o q n m=>?_,fun j g=>?_⟩
 ·rw[am (m k f)];exact h.ex b o q n m
 ·by_cases e:j=k
  ·subst e;rw[aa,jR,av];rfl
  ·rw[am (fun z=>e (a.inj j k g f z)),pG e];exact h.s j g
end
structure CL(S:Nat->List Str):Prop where
 ok:∀k,k<4->eX (S k)
 ne:∀k,k<4->S k≠[]
 l0:(S 0).length<=3
 l1:(S 1).length<=2
 l2:(S 2).length<=2
 l3:(S 3).length<=2
 ap:∀i j,cf i j=true->∀w∈S i,w∉S j
 a0:cz (S 0) (S 1) (S 2) (S 3)≠[]
 a4:(cz (S 0) (S 1) (S 2) (S 3)).length<=4
inductive sN(vs:List V)(H:Hp)(Q:VK)(E:XK):Prop
 |mk (p c:Addr):(vs=[.ref p,.int 0])->(ii H p c)->(∀(sm:Addr) (A:Nat->Addr) (S:Nat->List Str) (H':Hp),F4 H' sm A S->CL S->ii H' p c->eI p H H'->Q (.ref sm) H')->sN vs H Q E
def vJ:List (List Int):=[[0],[0],[1],[1],[2],[2],[3],[3],[1,2],[1,2],[0,3],[0,3],[],[0,2],[1,3]]
def jj:List (List Nat):=[[0],[0],[1],[1],[2],[2],[3],[3],[1,2],[1,2],[0,3],[0,3],[]]
theorem GL{r:Nat}(h:r<13):∃l:List Nat,vJ[r]?=some (l.map wq)/\l.Nodup/\(∀k∈l,k<4)/\(∀i j,cf i j=true->¬(i∈l/\j∈l)):=by
 have a:∀r:_root_.Fin 13,∃l,jj[r.1]?=some l/\vJ[r.1]?=some (l.map wq)/\l.Nodup/\(∀k∈l,k<4)/\¬(0∈l/\1∈l)/\¬(0∈l/\2∈l)/\¬(1∈l/\3∈l)/\¬(2∈l/\3∈l):=by
  have:∀r:_root_.Fin 13,vJ[r.1]?=some ((jj.getD r.1 []).map wq)/\jj[r.1]?=some (jj.getD r.1 [])/\(jj.getD r.1 []).Nodup/\(∀k∈jj.getD r.1 [],k<4)/\¬(0∈jj.getD r.1 []/\1∈jj.getD r.1 [])/\¬(0∈jj.getD r.1 []/\2∈jj.getD r.1 [])/\¬(1∈jj.getD r.1 []/\3∈jj.getD r.1 [])/\¬(2∈jj.getD r.1 []/\3∈jj.getD r.1 []):=by decide
  intro r;obtain⟨e,f,g⟩:=this r;exact⟨_,f,e,g⟩
 obtain⟨l,_,e,f,g,m,n,o,p⟩:=a ⟨r,h⟩;refine⟨l,e,f,g,fun i j c=>?_⟩;have c:=of_decide_eq_true c;simp only[c8,iR,or_false,Prod.mk.injEq]at c;rcases c with⟨rfl,rfl⟩|⟨rfl,rfl⟩|⟨rfl,rfl⟩|⟨rfl,rfl⟩
 ·exact m
 ·exact n
 ·exact o
 ·exact p
theorem GZ{K:Za}{vs:List V}{H:Hp}{Q:VK}{E:XK}(h:sN vs H Q E):rZ K jO f8 lF (bS Q) (start sF vs) H:=by
 obtain⟨p,c,rfl,hp,k⟩:=h;refine⟨_,rfl,p,c,13,rfl,hp,by decide,fun wl t H1 ok len _ bl as c5=>?_⟩;show aw _ _ _ _ _;refine EX (L:=[[],[],[],[]]) (by decide) (by decide) fun U H2 v S2 pr fr nd aC=>?_;obtain⟨b0,b1,b2,b3,rfl⟩:∃b0 b1 b2 b3,U=[b0,b1,b2,b3]:=by
  have:=Paired.length pr;rcases U with _|⟨b0,_|⟨b1,_|⟨b2,_|⟨b3,_|⟨b4,U⟩⟩⟩⟩⟩
  ·cases this
  ·cases this
  ·cases this
  ·cases this
  ·exact⟨_,_,_,_,rfl⟩
  ·simp at this
 let A:Nat->Addr:=fun k=>[b0,b1,b2,b3].getD k 0
 have hA:∀k,k<4->H2 (A k)=some (.lst [])/\H1 (A k)=none:=fun k m=>by
  have g:[b0,b1,b2,b3][k]?=some (A k):=by
   rcases k with _|_|_|_|k
   ·rfl
   ·rfl
   ·rfl
   ·rfl
   ·omega
  obtain⟨l,hl,h⟩:=Paired.getL pr g;have:l=[]:=by
   have:=bW hl;simpa using this
  rw[this]at h;exact⟨h,fr _ (bW g)⟩
 have a9:∀i j,i<4->j<4->A i=A j->i=j:=fun i j hi G e=>by
  have l4:[b0,b1,b2,b3].length=4:=rfl;have g:∀k (h:k<4),A k=[b0,b1,b2,b3][k]:=fun k h=>by
   show[b0,b1,b2,b3].getD k 0=_;rw[List.getD_eq_getElem?_getD,ik (by omega)]
   rfl
  rw[g i hi,g j G]at e;have pw:=List.pairwise_iff_getElem.1 nd;rcases Nat.lt_trichotomy i j with h|h|h
  ·exact absurd e (pw i j (by omega) (by omega) h)
  ·exact h
  ·exact absurd e.symm (pw j i (by omega) (by omega) h)
 have S3:ab H2 (upd H2 v (.lst ([b0,b1,b2,b3].map V.ref))):=ab.new aC;have cd:upd H2 v (.lst ([b0,b1,b2,b3].map V.ref)) v=some (.lst [.ref (A 0),.ref (A 1),.ref (A 2),.ref (A 3)]):=aa;have bb:∀k,k<4->v≠A k:=fun k m=>(ae (hA k m).1 aC).symm;show aw _ _ _ _ _;refine EX (L:=vJ) (by decide) (by decide) fun U H4 yl S4 py fy _ a0=>?_;have S5:ab H4 (upd H4 yl (.lst (U.map V.ref))):=ab.new a0;have bn:upd H4 yl (.lst (U.map V.ref)) yl=some (.lst (U.map V.ref)):=aa;generalize upd H4 yl (.lst (U.map V.ref))=H5 at S5 bn ⊢;have bp:=as.ex S2;have a4:=bp.ex S3;have b5:=(a4.ex S4).ex S5;have w5:=S5 _ _ (S4 _ _ (S3 _ _ (S2 _ _ bl)));have ce:=S5 _ _ (S4 _ _ cd);have A5:∀k,k<4->H5 (A k)=some (.lst []):=fun k m=>S5 _ _ (S4 _ _ (S3 _ _ (hA k m).1));have ch:Paired (fun a (l:List Int)=>H5 a=some (.lst (l.map V.int))) U vJ:=Paired.mapP py fun _ _ r=>S5 _ _ r;have TA:TA4 p c A:=⟨fun k m=>(as.nep (hA k m).2).symm,fun k m=>(as.nec (hA k m).2).symm,a9⟩;have nw:wl≠p/\∀k,k<4->wl≠A k:=⟨as.ne_strs bl,fun k m=>ae bl (hA k m).2⟩;have N:v≠p/\∀k,k<4->v≠A k:=⟨(bp.nep aC).symm,bb⟩;have ci:yl≠p/\∀k,k<4->yl≠A k:=⟨((a4.ex S4).nep a0).symm,fun k m=>(ae (S4 _ _ (S3 _ _ (hA k m).1)) a0).symm⟩;have a5:∀a∈U,a≠p/\∀k,k<4->a≠A k:=fun a ha=>⟨(a4.nep (fy a ha)).symm,fun k m=>(ae (S3 _ _ (hA k m).1) (fy a ha)).symm⟩;have fA:∀k,k<4->H1 (A k)=none:=fun k m=>(hA k m).2;have cl:ab H1 H5:=S2.trans (S3.trans (S4.trans S5));clear hA nd fr pr a9 cd S2 S3 S4 S5 bp a4 py fy a0 aC bb
 clear_value A
 refine⟨_,rfl,_,rfl,wl,_,rfl,au.of w5,fun q hq=>?_⟩;have cm:j1 (t.map V.str) none (some (8:Int))=(t.take 8).map V.str:=tj t 8;rw[cm];have S6:ab H5 (upd H5 q (.lst ((t.take 8).map V.str))):=ab.new hq;have q6:upd H5 q (.lst ((t.take 8).map V.str)) q=some (.lst ((t.take 8).map V.str)):=aa;refine⟨q,rfl,⟨_,au.of aa⟩,?_⟩;generalize upd H5 q (.lst ((t.take 8).map V.str))=H6 at S6 q6 ⊢;have nq:q≠p/\∀k,k<4->q≠A k:=⟨(b5.nep hq).symm,fun k m=>(ae (A5 k m) hq).symm⟩;have T0:TW H6 p c A (fun _=>[]) H6:=⟨b5.ex S6,fun b o e _ _=>e,fun k m=>S6 _ _ (A5 k m)⟩;have w6:=S6 _ _ w5;have I:=S6 _ _ ce;have da:=S6 _ _ bn;have db:Paired (fun a (l:List Int)=>H6 a=some (.lst (l.map V.int))) U vJ:=Paired.mapP ch fun _ _ r=>S6 _ _ r;have dc:=cl.trans S6;clear cl S6 w5 ce bn ch hq b5 A5;have b6:=ok.1
 let zI:Nat->L2.St->Hp->Prop:=fun i σ H'=>HR fun(S:Nat->List Str) (x5 Y:Option V)=>Kh (σ=[some (.ref p),some (.int 0),some (.ref wl),some (.ref v),some (.ref yl),x5,Y]) (TW H6 p c A S H') (WI (t.take i) S)
 refine bO (xs:=(t.take 8).map V.str) zI ⟨_,_,_,rfl,T0,⟨fun _ _=>.nil,fun _ _=>c7 _,(fun _ _ w h=>by cases h),(fun _ _ _ w h=>by cases h)⟩⟩ (fun i σ H' _ zq=>by obtain⟨_,_,_,_,T,_⟩:=zq;exact au.of (T.ex _ _ q6 nq.1 nq.2)) ?_ ?_
 ·rintro i x σ H7 hx ⟨S,x5,Y,rfl,T7,W7⟩;obtain⟨w,hw,rfl⟩:=aZ hx;have i8:i<8:=by
   have:=(bN.1 hw).1;rw[aM]at this;omega
  have u:t[i]?=some w:=by rw[nL i8]at hw;exact hw
  have wn:w∉t.take i:=fun z=>by
   obtain⟨j,G⟩:=nB z;have jl:=(bN.1 G).1;rw[aM]at jl;rw[nL (by omega)]at G;have:=pO b6 G u;omega
  refine gN ⟨_,rfl,_,rfl,_,rfl,_,_,rfl,rfl,.inl ⟨by decide,by decide⟩,_,_,rfl,rfl,ff T7.pen (by decide) (by decide) fun r H8 r0 r1 dd di=>?_⟩;have T8:=T7.took TA dd di;obtain⟨n,rfl⟩:∃n:Nat,r=n:=⟨r.toNat,by omega⟩;have dm:n<13:=by
   have:(13:Int)+2 * 0=13:=by decide
   omega
  obtain⟨l,hl,dn,l4,lc⟩:=GL dm;obtain⟨yr,co,ya⟩:=Paired.get db hl;have a6:=bW co;refine⟨yl,_,n,_,rfl,rfl,au.of (T8.ex _ _ da ci.1 ci.2),cp (by rw[du,co];rfl),yr,rfl,⟨_,au.of (T8.ex _ _ ya (a5 yr a6).1 (a5 yr a6).2)⟩,?_⟩
  let zJ:Nat->L2.St->Hp->Prop:=fun j σ H'=>Ew fun(f:Nat->List Str) (Y:Option V)=>Kh (σ=[some (.ref p),some (.int 0),some (.ref wl),some (.ref v),some (.ref yl),some (.str w),Y]) (TW H6 p c A f H') (Ki S w (l.take j) f)
  refine bO (xs:=(l.map wq).map V.int) zJ ⟨S,_,rfl,T8,⟨fun k m=>.inl rfl⟩⟩ (fun i σ H' _ zq=>by obtain⟨_,_,_,T,_⟩:=zq;exact au.of (T.ex _ _ ya (a5 yr a6).1 (a5 yr a6).2)) ?_ ?_
  ·rintro j y σ O hy ⟨f,Y,rfl,J,M9⟩;rw[du,du]at hy;obtain⟨y',dp,rfl⟩:=Option.map_eq_some_iff.1 hy;obtain⟨B,a7,rfl⟩:=Option.map_eq_some_iff.1 dp;have k4:=l4 B (bW a7);have kn:B∉l.take j:=fun z=>by
    obtain⟨j',b7⟩:=nB z;have jl:=(bN.1 b7).1;rw[aM]at jl;rw[nL (by omega)]at b7;obtain⟨a1,e1⟩:=bN.1 b7;obtain⟨a2,e2⟩:=bN.1 a7;exact List.pairwise_iff_getElem.1 dn j' j a1 a2 (by omega) (e1.trans e2.symm)
   have eS:f B=S B:=(M9.at_ B k4).elim id fun z=>absurd z.1 kn;have C:=J.s B k4;have an:=J.ex _ _ I N.1 N.2;refine gN ⟨_,rfl,_,rfl,v,_,B,_,rfl,rfl,au.of an,F4.ix k4,.inl ⟨A B,_,rfl,.inl (au.of C),_,rfl,_,_,rfl,rfl,.inl ⟨by decide,by decide⟩,_,_,rfl,rfl,_,_,rfl,rfl,_,rfl,?_⟩⟩;have lS:=W7.len B k4;have ec:decide ((((f B).map V.str).length:Int)<2+2 * 0)=decide ((S B).length<2):=by rw[ag,eS];exact decide_eq_decide.2 (by omega)
   rw[ec];have b8:l.take (j+1)=l.take j++[B]:=by
    obtain⟨a1,e1⟩:=bN.1 a7;rw[List.take_succ,a7];rfl
   by_cases c2:(S B).length<2
   ·rw[zzr1 c2];refine cr ⟨_,rfl,_,rfl,v,_,B,_,rfl,rfl,au.of an,F4.ix k4,.inl ⟨rfl,_,au.of C⟩,_,rfl,A B,_,_,rfl,rfl,C,by rw[ag,eS];exact ao (by omega),zG f B w,_,rfl,J.put TA k4 w,⟨fun k m=>?_⟩⟩;by_cases e:k=B
    ·subst e;refine .inr ⟨by rw[b8];exact cx _ (cX.2 rfl),by rw[jR,eS],c2⟩
    ·rw[pG e,b8];exact(M9.at_ k m).imp id fun z=>⟨bV _ z.1,z.2⟩
   ·rw[zzr0 c2];refine bv ⟨f,_,rfl,J,⟨fun k m=>?_⟩⟩;rw[b8];exact(M9.at_ k m).imp id fun z=>⟨bV _ z.1,z.2⟩
  ·rintro σ O ⟨f,Y,rfl,J,M9⟩;rw[ag,ag,bg]at M9;refine⟨f,_,_,rfl,J,?_⟩;rw[take_snoc u];exact M9.wi W7 wn lc
 rintro σ H7 ⟨S,x5,Y,rfl,T7,W7⟩;have l8:((t.take 8).map V.str).length=8:=by rw[ag,aM,len];rfl
 rw[l8]at W7;refine⟨4,rfl,by decide,by decide,?_⟩
 let zR:Nat->L2.St->Hp->Prop:=fun i σ H'=>Ew fun(S:Nat->List Str) (Y:Option V)=>Iy (σ=[some (.ref p),some (.int 0),some (.ref wl),some (.ref v),some (.ref yl),x5,Y]) (TW H6 p c A S H') (WI (t.take (8+i)) S) (∀k,k<i->S k≠[])
 refine jZ (lo:=0) (n:=4) zR ⟨S,_,rfl,T7,W7,fun k m=>by omega⟩ ?_ ?_
 ·rintro i σ H8 i4 ⟨f,dy,rfl,T8,D,N8⟩;have e0:(0:Int)+(i:Int)=(i:Int):=Int.zero_add _;rw[e0];have ca:=T8.ex _ _ I N.1 N.2;have dI:=T8.s i i4;refine gN ⟨_,rfl,_,rfl,v,_,i,_,rfl,rfl,au.of ca,F4.ix i4,(by show 0<=aj;decide),fun e he=>?_⟩;have J:=T8.same (ab.new (o:=.lst []) he);have e9:upd H8 e (.lst []) e=some (.lst []):=aa;have C:upd H8 e (.lst []) (A i)=some (.lst ((f i).map V.str)):=J.s i i4;have an:upd H8 e (.lst []) v=_:=J.ex _ _ I N.1 N.2;have w9:upd H8 e (.lst []) wl=_:=J.ex _ _ w6 nw.1 nw.2;show jQ K (.ref (A i)) (.ref e) (upd H8 e (.lst [])) _;generalize upd H8 e (.lst [])=O at J e9 C an w9 ⊢;refine⟨.s ((f i).map cB),.s [],ie (au.of C),yh (au.of e9),by show DT.depths ((f i).map cB)+1<=8;rw[dD];decide,by decide,_,rfl,?_⟩;have ec:decide (DT.s ((f i).map cB)=DT.s [])=decide (f i=[]):=decide_eq_decide.2 ⟨fun z=>by injection z with z;exact fQ (y:=[]) z,fun z=>by rw[z];rfl⟩;rw[ec];have u:t[8+i]?=some t[8+i]:=ik (by omega);have wn:t[8+i]∉t.take (8+i):=fun z=>by
   obtain⟨j,G⟩:=nB z;have jl:=(bN.1 G).1;rw[aM]at jl;rw[nL (by omega)]at G;have:=pO b6 G u;omega
  have cs:t.take (8+(i+1))=t.take (8+i)++[t[8+i]]:=take_snoc u;by_cases c:f i=[]
  ·rw[zzr1 c];refine cr ⟨_,rfl,_,rfl,v,_,i,_,rfl,rfl,au.of an,F4.ix i4,.inl ⟨rfl,_,au.of C⟩,_,rfl,_,rfl,_,_,rfl,rfl,wl,_,((8+i:Nat):Int),_,rfl,by simp,au.of w9,cp (by rw[du,u];rfl),A i,_,_,rfl,rfl,C,by rw[c];decide,zG f i t[8+i],_,rfl,J.put TA i4 _,?_,fun k m=>?_⟩
   ·rw[cs];refine Ki.wi (S0:=f) (l:=[i]) ⟨fun k m=>?_⟩ D wn fun a b cc z=>?_
    ·by_cases e:k=i
     ·subst e;exact .inr ⟨cX.2 rfl,jR,by rw[c];decide⟩
     ·exact .inl (pG e)
    ·exact(Gq cc).2.2 ((cX.1 z.1).trans (cX.1 z.2).symm)
   ·by_cases e:k=i
    ·subst e;rw[jR];simp
    ·rw[pG e];exact N8 k (by omega)
  ·rw[zzr0 c];refine bv ⟨f,_,rfl,J,⟨D.nd,D.len,fun k m w hw=>?_,D.ap⟩,fun k m=>?_⟩
   ·rw[cs];exact bV _ (D.sub k m w hw)
   ·by_cases e:k=i
    ·subst e;exact c
    ·exact N8 k (by omega)
 clear W7 T7 Y;rintro σ H8 ⟨f,Y,rfl,T8,D,N8⟩;clear S;have ca:=T8.ex _ _ I N.1 N.2;have F8:F4 H8 v A f:=⟨ca,T8.s⟩;have ct:∀(a8:Nat->List Str) (O:Hp),TW H6 p c A a8 O->CL a8->Q (.ref v) O:=fun a8 O T W=>by
  refine k v A a8 O ⟨T.ex _ _ I N.1 N.2,T.s⟩ W T.pen fun b o e n=>?_;have e1:=c5 _ _ e n;exact T.ex _ _ (dc _ _ e1) n fun k m=>ae e1 (fA k m)
 have names:∀k,k<4->eX (f k):=fun k m=>⟨D.nd k m,fun w hw=>ok.2 w (j8 (D.sub k m w hw))⟩;have l0:=D.len 0 (by decide);have l1:=D.len 1 (by decide);have l2:=D.len 2 (by decide);have l3:=D.len 3 (by decide);refine⟨_,rfl,rfl,_,rfl,cr ?_⟩;refine⟨_,rfl,v,A,f,rfl,F8,fun k m=>bz (D.len k m) (by decide),fun al O dr _ S9=>⟨(by show 0<=aj;decide),fun e he=>?_⟩⟩;have M:=(T8.same S9).same (ab.new (o:=.lst []) he);have c0:upd O e (.lst []) e=some (.lst []):=aa;have bi:upd O e (.lst []) al=some (.lst ((cz (f 0) (f 1) (f 2) (f 3)).map V.str)):=ab.new he _ _ dr;show jQ K (.ref al) (.ref e) (upd O e (.lst [])) _;generalize upd O e (.lst [])=ds at M c0 bi ⊢;refine⟨.s ((cz (f 0) (f 1) (f 2) (f 3)).map cB),.s [],ie (au.of bi),yh (au.of c0),by show DT.depths (List.map cB _)+1<=8;rw[dD];decide,by decide,_,rfl,?_⟩;have ec:decide (DT.s ((cz (f 0) (f 1) (f 2) (f 3)).map cB)=DT.s [])=decide (cz (f 0) (f 1) (f 2) (f 3)=[]):=decide_eq_decide.2 ⟨fun z=>by injection z with z;exact fQ (y:=[]) z,fun z=>by rw[z];rfl⟩;rw[ec];by_cases c:cz (f 0) (f 1) (f 2) (f 3)=[]
 ·rw[zzr1 c];have c3:=M.ex _ _ I N.1 N.2;have dt:=M.ex _ _ w6 nw.1 nw.2;have h0:=M.s 0 (by decide);have u:t[12]?=some t[12]:=ik (by omega);have wn:∀k,k<4->t[12]∉f k:=fun k m z=>by
   obtain⟨j,G⟩:=nB (D.sub k m _ z);have jl:=(bN.1 G).1;rw[aM]at jl;rw[nL (by omega)]at G;have:=pO b6 G u;omega
  refine cr ⟨_,rfl,v,_,0,_,rfl,rfl,au.of c3,F4.ix (k:=0) (by decide),.inl ⟨rfl,_,au.of h0⟩,_,rfl,wl,_,((12:Nat):Int),_,rfl,rfl,au.of dt,cp (by rw[du,u];rfl),A 0,_,_,rfl,rfl,h0,by rw[ag];exact ao (by omega),_,rfl,ct (zG f 0 t[12]) _ (M.put TA (by decide) _) ?_⟩;generalize t[12]=w at wn u;have dv:=bW u;have p0:zG f 0 w 0=f 0++[w]:=jR;have pn:∀k,k≠0->zG f 0 w k=f k:=fun k m=>pG m;have p1:=pn 1 (by decide);have p2:=pn 2 (by decide);have p3:=pn 3 (by decide);have eW:aF (f 0++[w]) (f 1) (f 2) (f 3)=aF (f 0) (f 1) (f 2) (f 3):=by
   unfold aF;congr 1;refine le fun x hx=>decide_eq_decide.2 ⟨fun z=>?_,fun z=>bV _ z⟩;rcases bx.1 z with z|z
   ·exact z
   ·rw[cX.1 z]at hx;exact absurd hx (wn 3 (by decide))
  have dx:w∉aF (f 0) (f 1) (f 2) (f 3):=fun z=>by
   rcases cR.1 z with z|z
   ·exact wn 1 (by decide) z.1
   ·exact wn 3 (by decide) z.1
  have eJ:cz (f 0++[w]) (f 1) (f 2) (f 3)=[w]:=by
   unfold cz at c ⊢;rw[eW,dZ,f6,f6];rw[f6]at c;obtain⟨c1,c2⟩:=List.append_eq_nil_iff.1 c;rw[c1,c2];show[w].filter _++[]=[w];rw[cM,qa,if_pos (by rw[zzr0 dx];rfl)]
   rfl
  refine⟨fun k m=>?_,fun k m=>?_,?_,?_,?_,?_,fun i j cc x hx=>?_,?_,?_⟩
  ·by_cases e:k=0
   ·subst e;rw[p0];refine⟨dq.2 ⟨D.nd 0 m,k5.2 ⟨by simp,.nil⟩,fun a ha b hb z=>?_⟩,fun x hx=>?_⟩
    ·rw[cX.1 hb]at z;exact wn 0 m (z▸ha)
    ·rcases bx.1 hx with z|z
     ·exact(names 0 m).2 x z
     ·rw[cX.1 z];exact ok.2 w dv
   ·rw[pn k e];exact names k m
  ·by_cases e:k=0
   ·subst e;rw[p0];simp
   ·rw[pn k e];exact N8 k m
  ·rw[p0,aS];show _+1<=3;omega
  ·rw[p1];exact l1
  ·rw[p2];exact l2
  ·rw[p3];exact l3
  ·obtain⟨hi,G,ne⟩:=Gq cc;have c4:=D.ap i j cc;by_cases e:i=0
   ·subst e;rw[p0]at hx;rw[pn j (fun z=>ne z.symm)];rcases bx.1 hx with z|z
    ·exact c4 x z
    ·rw[cX.1 z];exact wn j G
   ·rw[pn i e]at hx;have:j≠0:=fun z=>by
     subst z;have:=of_decide_eq_true cc;simp at this
    rw[pn j this];exact c4 x hx
  ·rw[p0,p1,p2,p3,eJ];simp
  ·rw[p0,p1,p2,p3,eJ];show 1<=4;decide
 ·rw[zzr0 c];refine bv ⟨_,rfl,ct f ds M ⟨names,N8,by omega,l1,l2,l3,D.ap,c,?_⟩⟩;unfold cz;exact bz (bo _ _) (by rw[aS];omega)
inductive sP(vs:List V)(H:Hp)(Q:VK)(E:XK):Prop
 |mk (p c l1 l2:Addr) (J0 J2:Zb) (most:Int):(vs=[.ref p,.ref l1,.ref l2,.int most])->(ii H p c)->(H l1=some (.lst (J0.map V.str)))->(H l2=some (.lst (J2.map V.str)))->(eX J0)->(eX J2)->((∀w∈J2,w∉J0))->(J0≠[])->(J2≠[])->(J0.length<=3)->(J2.length<=4)->(0<most)->(most<=3) ->
  (∀(t l3 l4:Addr) (ts:Ze) (J3:Zb) (ds:List ak) (H':Hp),iw H' t l1 l2 l3 l4 ts J0 J2 J3 ds->aq J0 J2 J3 ds->J3.length<=3->ds.length<=9 * J3.length->ii H' p c->eI p H H'->Q (.ref t) H')->sP vs H Q E
theorem Hb{K:Za}{vs:List V}{H:Hp}{Q:VK}{E:XK}(h:sP vs H Q E):AH K pe f8 lF (bS Q) (start BD vs) H:=by
 obtain⟨p,c,l1,l2,J0,J2,an,rfl,A,h1,h2,B,C,apart,a0,s0,a3,s4,m0,m3,k⟩:=h;refine⟨_,rfl,_,rfl,_,rfl,ff A m0 (by omega) fun r H1 r0 r1 D G=>?_⟩;obtain⟨rn,rfl⟩:=j9 r0;refine⟨_,_,rfl,rfl,p,c,1+rn,rfl,D,by omega,fun I J H2 m j ap u a L=>?_⟩;have M:=G.trans L;have v:=M _ _ h1 (A.ne_strs h1);have x:=M _ _ h2 (A.ne_strs h2);have y:J≠[]:=fun z=>by rw[z]at j;rw[nH]at j;omega
 refine⟨_,rfl,_,rfl,_,rfl,_,rfl,_,rfl,ff a (by decide) (by decide) fun f H3 f0 f1 e g=>?_⟩;have e3:=M.trans g;have n:=g _ _ v (a.ne_strs v);have o:=g _ _ x (a.ne_strs x);have q:=g _ _ u (a.ne_strs u);refine⟨p,c,l1,l2,I,J0,J2,J,f,rfl,e,n,o,q,a3,s0,s4,y,by omega,f0,by omega,fun l4 ts ds up H4 _ N O nd l few T i=>?_⟩;have e4:=e3.trans i;have U:=i _ _ n (e.ne_strs n);have Y:=i _ _ o (e.ne_strs o);have al:=i _ _ q (e.ne_strs q);refine⟨_,rfl,_,rfl,_,rfl,_,rfl,(by show 4<=aj;decide),fun t ht=>?_⟩;have s:ab H4 (upd H4 t (.tup [.ref l1,.ref l2,.ref I,.ref l4])):=ab.new ht;refine k t I l4 ts J ds _ ⟨aa,s _ _ U,s _ _ Y,s _ _ al,s _ _ N,O.kt (ab.kt s)⟩ ⟨B,C,apart,m,a0,s0,y,by omega,s4,by omega,nd,fun d hd=>(l d hd).d,by omega,fun r h=>(EF m.1 l h).irr m.1⟩ (by omega) few (T.ex s) (e4.trans (eI.new ht))
inductive sO(vs:List V)(H:Hp)(Q:VK)(E:XK):Prop
 |mk (p c:Addr):(vs=[.ref p,.int 3,.int 3])->(ii H p c) ->
  (∀(l t l1 l2 l3 l4 t' l1' l2' l3' l4':Addr) (ts ts':Ze) (J0 J2 J3 asks' says' rooms':Zb) (ds ds':List ak) (H':Hp),H' l=some (.lst [.ref t,.ref t'])->iw H' t l1 l2 l3 l4 ts J0 J2 J3 ds->iw H' t' l1' l2' l3' l4' ts' asks' says' rooms' ds'->aq J0 J2 J3 ds->aq asks' says' rooms' ds'->(∀r∈J3,∀a∈J0,dY ds r a)->(∀r∈rooms',∀a∈asks',dY ds' r a)->JoinOk J0 J2 J3 asks' says' rooms' ds ds'->J3.length<=3->rooms'.length<=3->ii H' p c->eI p H H'->Q (.ref l) H')->sO vs H Q E
theorem G0{K:Za}{vs:List V}{H:Hp}{Q:VK}{E:XK}(h:sO vs H Q E):qE K kg sP sN (bS Q) (start rf vs) H:=by
 obtain⟨p,c,rfl,D,k⟩:=h;refine⟨_,rfl,p,c,rfl,D,fun m A S H1 F W e G=>?_⟩;have B:(0:Nat)<4:=by decide
 have C:(1:Nat)<4:=by decide
 have n:(2:Nat)<4:=by decide
 have o:(3:Nat)<4:=by decide
 have l0:=W.l0;have l1:=W.l1;have l2:=W.l2;have l3:=W.l3;have j:∀{H:Hp},ii H p c->H m=some (.lst [.ref (A 0),.ref (A 1),.ref (A 2),.ref (A 3)])->m≠p:=fun D h=>D.ne_refs (ts:=[A 0,A 1,A 2,A 3]) h;refine⟨_,rfl,_,rfl,_,rfl,.inl ⟨m,_,0,_,rfl,rfl,au.of F.l,F4.ix (k:=0) B,_,rfl,.inl ⟨m,_,1,_,rfl,rfl,au.of F.l,F4.ix (k:=1) C,_,rfl,?_⟩⟩⟩;refine⟨p,c,A 0,A 1,S 0,S 1,3,rfl,e,F.s 0 B,F.s 1 C,W.ok 0 B,W.ok 1 C,fun w I z=>W.ap 0 1 (by decide) w z I,W.ne 0 B,W.ne 1 C,l0,by omega,by decide,by decide,fun t a3 a4 ts J3 ds H2 T2 m2 r3 a6 g f=>?_⟩;refine⟨p,c,t,A 0,A 1,a3,a4,ts,S 0,S 1,J3,ds,rfl,g,T2,m2,by omega,by omega,fun t1 b4 us J H3 T3 m3 tk a7 q i=>?_⟩;have r:=i _ _ (f _ _ F.l (j e F.l)) (j g (f _ _ F.l (j e F.l)));have s2:=f _ _ (F.s 2 n) (e.ne_strs (F.s 2 n));have s3:=f _ _ (F.s 3 o) (e.ne_strs (F.s 3 o));have L:=i _ _ s2 (g.ne_strs s2);have M:=i _ _ s3 (g.ne_strs s3);refine⟨_,rfl,_,rfl,_,rfl,.inl ⟨m,_,2,_,rfl,rfl,au.of r,F4.ix (k:=2) n,_,rfl,.inl ⟨m,_,3,_,rfl,rfl,au.of r,F4.ix (k:=3) o,_,rfl,?_⟩⟩⟩;refine⟨p,c,A 2,A 3,S 2,S 3,3,rfl,q,L,M,W.ok 2 n,W.ok 3 o,fun w I z=>W.ap 2 3 (by decide) w z I,W.ne 2 n,W.ne 3 o,by omega,by omega,by decide,by decide,fun t' u N O a T H4 T4 m4 U a8 v x=>?_⟩;refine⟨p,c,t',A 2,A 3,u,N,O,S 2,S 3,a,T,rfl,v,T4,m4,by omega,by omega,fun t2 Y al an H5 T5 m5 as a9 aC y=>?_⟩;have a5:=(T3.ex q x).ex v y;refine⟨_,rfl,_,rfl,(by show 2<=aj;decide),fun l hl=>?_⟩;have S6:ab H5 (upd H5 l (.lst [.ref t1,.ref t2])):=ab.new hl;refine k l t1 (A 0) (A 1) a3 b4 t2 (A 2) (A 3) u Y us al (S 0) (S 1) J3 (S 2) (S 3) a J an _ aa (a5.same S6) (T5.same S6) m3 m5 tk as ⟨by omega,by omega,by omega,by omega,W.ap 0 2 (by decide),W.ap 1 3 (by decide),W.a0,W.a4,by rw[aS];omega⟩ r3 U (aC.ex S6) (((((G.trans f).trans i).trans x).trans y).trans (eI.new hl))
inductive mn(K:Za)(vs:List V)(H:Hp)(Q:VK)(E:XK):Prop
 |mk (t st l1 l2 l3 l4:Addr) (ts us:Ze) (story:List Sg) (J0 J2 J3:Zb) (ds:List ak):(vs=[.ref t,.ref st])->(iw H t l1 l2 l3 l4 ts J0 J2 J3 ds)->(aq J0 J2 J3 ds)->(H st=some (.lst (us.map V.ref)))->(StrC K H us story)->(∀(t':Addr) (H':Hp),H' t'=some (.tup ((faceOf J3 ds story).map V.str))->ab H H'->Q (.ref t') H')->mn K vs H Q E
theorem Do{K:Za}{z:List V}{H:Hp}{Q:VK}{E:XK}(h:mn K z H Q E):AJ K (ki K) zn (bS Q) (start BF z) H:=by
 obtain⟨t,st,A,B,l,C,D,U,a,G,I,e,ds,rfl,T,m,g,J,k⟩:=h;have z3:=m.rooms26;have Y:j1 (e.map V.str) none (some 1)=(e.take 1).map V.str:=tj e 1;refine⟨_,rfl,_,rfl,.inr (.inl ⟨t,_,2,_,rfl,rfl,br.of T.t,rfl,_,rfl,.inl ⟨l,_,rfl,au.of T.a3,fun L n=>?_⟩⟩)⟩;rw[Y];have M:ab H (upd H L (.lst ((e.take 1).map V.str))):=ab.new n;refine⟨t,L,A,B,l,C,D,G,I,e,e.take 1,ds,rfl,T.same M,m,aa,by rw[aM];omega,fun f0 H1 o p=>?_⟩;have N:=M.trans p;refine⟨_,rfl,st,rfl,⟨_,au.of (N _ _ g)⟩,?_⟩;refine bO (xs:=U.map V.ref) (fun i σ q=>Ew fun(f:Addr) (r:Option V)=>Kh (σ=[some (.ref t),some (.ref st),some (.ref f),r]) (q f=some (.tup ((faceOf e ds (a.take i)).map V.str))) (ab H q))
  ⟨f0,_,rfl,o,N⟩ (fun i σ q _ zq=>by obtain⟨_,_,_,_,S⟩:=zq;exact au.of (S _ _ g)) ?_ ?_
 ·rintro i y σ O hi ⟨f,r,rfl,hf,j⟩;obtain⟨u,hu,rfl⟩:=cD hi;obtain⟨sg,s,v⟩:=Paired.getL J hu;obtain⟨o1,o2⟩:=DW (ds:=ds) (show e.length<=1000 by omega) (a.take i);refine⟨_,rfl,_,rfl,_,rfl,t,f,u,A,B,l,C,D,G,I,e,_,sg,ds,rfl,T.same j,m,hf,eC.sq (eC.kt (ab.kt j) v),o2,fun f' H3 x S3=>⟨f',_,rfl,?_,j.trans S3⟩⟩;rw[take_snoc s,Aa];exact x
 ·rintro σ O ⟨f,r,rfl,hf,j⟩;rw[ag,Paired.length J,bg]at hf;exact⟨_,rfl,k f O hf j⟩
theorem Ea{K:Za}{k:Nat}{o:List Nat}{g:TG}{q:TT}{r:TE}{σ:L2.St}{s:Hp}{Q:Hp->Prop}{l a b:Addr}{xs ys:List V}(B:xs.length<=ys.length)(Pv:Nat->List V->Hp->Prop)(C:Pv 0 [] (upd s l (.lst [])))
  (m:∀i e H,i<=xs.length->Pv i e H->H l=some (.lst e)/\br K H a xs/\br K H b ys) (D:∀e H,Pv xs.length e H->Q H)
  (E:∀i e H x y p,xs[i]?=some x->ys[i]?=some y->i<xs.length->Pv i e H->H p=none->g (.ref p) (cH k o σ) (upd H p (.tup [x,y])) fun σ2 G=>q σ2 G fun b z =>
   if b=true then r σ2 z fun v A=>A l=some (.lst e)/\e.length<aj/\∃f,f<xs.length-i/\Wc xs.length Pv (i+1) f (e++[v]) (upd A l (.lst (e++[v])))else ∃f,f<xs.length-i/\Wc xs.length Pv (i+1) f e z) :
  cW k o σ (HV K a b) g q r s l Q:=by
 refine jb xs.length Pv C (fun i e H hi p=>(m i e H hi p).1) (fun i e H hi p=>?_) (fun e H p=>?_) fun i e H x M hi p y=>?_
 ·obtain⟨_,h,j⟩:=m i e H (cV hi) p;have n:i<ys.length:=by omega
  exact⟨xs,ys,xs[i],ys[i],h,j,by simp[hi],by simp[n]⟩
 ·obtain⟨_,h,j⟩:=m _ e H (aP _) p;exact⟨⟨xs,ys,h,j,.inl (aP _)⟩,D e H p⟩
 ·obtain⟨_,h,j⟩:=m i e H (cV hi) p;obtain⟨t,u,v,rfl,I,J,L,rfl⟩:=y;exact E i e H u v t (J xs h) (L ys j) hi p I
mutual
def DT.few:DT->Prop
 |.k _=>True
 |.t l=>l.length<=1000/\DT.fews l
 |.s l=>l.length<=1000/\DT.fews l
def DT.fews:List DT->Prop
 |[]=>True
 |a::r=>DT.few a/\DT.fews r
end
theorem z_:∀{l:List DT}{i:Nat}{d:DT},DT.fews l->l[i]?=some d->DT.few d
 |[],_,_,_,h=>by cases h
 |a::r,0,d,h,e=>by injection e with e;rw[<-e];exact h.1
 |a::r,i+1,d,h,e=>z_ h.2 (by rw[List.getElem?_cons_succ]at e;exact e)
theorem uU:∀n:Nat,(tq n true).all id=true
 |0=>rfl
 |n+1=>uU n
theorem E_{α:Type}(a:α)(n:Nat):tq n a++[a]=tq (n+1) a:=by
 rw[List.replicate_succ']
inductive dA(K:Za)(n:Nat)(vs:List V)(H:Hp)(Q:VK)(E:XK):Prop
 |mk (x y:V) (d:DT):(vs=[x,y])->(gV K H d x)->(gV K H d y)->(d.depth<=n)->(DT.few d)->(∀H',ab H H'->Q (.bl true) H')->dA K n vs H Q E
 |bb (b:Bool):(vs=[.bl b,.bl b])->(Q (.bl true) H)->dA K n vs H Q E
theorem rJ{K:Za}{n:Nat}{H:Hp}{f b l:Addr}{xs j:List V}{m:List DT}{σ:L2.St}{J:It}{Q:Hp->Prop}(Y:(J=Kj K f b/\au K H f xs/\au K H b j)∨(J=HV K f b/\br K H f xs/\br K H b j))(G:DIns K H m xs)(I:DIns K H m j)(hd:DT.depths m<=n)(hz:m.length<=1000)(hf:DT.fews m)(L:H l=none)
  (k:∀a,ab H a->a l=some (.lst ((tq m.length true).map V.bl))->Q a) :
  cW 2 [] σ J (i7 K 2 (bA U0 (bA U1 (ir)))) (ip) (aN (dA K n) (aJ V0 V1)) H l Q:=by
 have lx:=DIns.len G;have ly:=DIns.len I
 let g:Nat->List V->Hp->Prop:=fun i h a=>h=(tq i true).map V.bl/\ab H a/\a l=some (.lst h)
 have r:∀h a,g xs.length h a->Q a:=by
  rintro h a ⟨rfl,S,q⟩;rw[lx]at q;exact k a S q
 have step:∀i h a x y p,xs[i]?=some x->j[i]?=some y->i<xs.length->g i h a->a p=none->(i7 K 2 (bA U0 (bA U1 (ir)))) (.ref p) (cH 2 [] σ) (upd a p (.tup [x,y])) fun σ2 H4=>(ip) σ2 H4 fun b M =>
   if b=true then(aN (dA K n) (aJ V0 V1)) σ2 M fun v N=>N l=some (.lst h)/\h.length<aj/\∃s,s<xs.length-i/\Wc xs.length g (i+1) s (h++[v]) (upd N l (.lst (h++[v])))else ∃s,s<xs.length-i/\Wc xs.length g (i+1) s h M:=by
  rintro i h u x y p hx hy hi ⟨rfl,S,h1⟩ hp;have z:ab u (upd u p (.tup [x,y])):=ab.new hp;have O:upd u p (.tup [x,y]) p=some (.tup [x,y]):=aa;generalize upd u p (.tup [x,y])=H2 at z O ⊢;obtain⟨d,B,dx⟩:=DIns.get G hx;obtain⟨d',A,T⟩:=DIns.get I hy;rw[B]at A;injection A with A;rw[<-A]at T;refine⟨p,_,rfl,br.of O,rfl,_,_,rfl,_,_,rfl,rfl,nM ?_⟩;refine⟨_,rfl,_,rfl,.mk x y d rfl (gV.same (S.trans z) dx) (gV.same (S.trans z) T) (uI hd B) (z_ hf B) fun H3 S3=>?_⟩;have t:=z.trans S3;refine⟨t _ _ h1,by rw[ag,List.length_replicate];exact ao (by omega),jo hi ⟨by rw[<-E_,av];rfl,fun b o e=>?_,aa⟩⟩;rw[am (ae e L)];exact t _ _ (S _ _ e)
 have U:g 0 [] (upd H l (.lst [])):=⟨rfl,ab.new L,aa⟩;rcases Y with⟨rfl,C,D⟩|⟨rfl,C,D⟩
 ·exact Eb (xs:=xs) (ys:=j) (by omega) g U (fun i h a _ E=>by obtain⟨_,S,q⟩:=E;exact⟨q,au.same S C,au.same S D⟩) r step
 ·exact Ea (xs:=xs) (ys:=j) (by omega) g U (fun i h a _ E=>by obtain⟨_,S,q⟩:=E;exact⟨q,br.same S C,br.same S D⟩) r step
theorem Dk{K:Za}{n:Nat}(O:n<=8){J:Sp}(o:∀m,n=m+1->J=dA K m){L:List V}{H:Hp}{Q:VK}{E:XK}(h:dA K n L H Q E):yY K J (bS Q) (start Aq L) H:=by
 rcases h with⟨x,y,d,rfl,hx,A,u,v,k⟩|⟨b,rfl,k⟩;rotate_left
 ·refine⟨_,rfl,_,rfl,?_⟩;rw[zzr0 (show ¬V.bl b=V.non from fun z=>by cases z)];refine bv ⟨_,rfl,_,"bool",.type "bool",true,rfl,.inl (.bl b),rfl,_,rfl,cr ?_⟩;refine⟨_,rfl,_,"bool",.type "bool",true,rfl,.inl (.bl b),rfl,_,rfl,cr ⟨_,rfl,_,rfl,?_,?_⟩⟩
  ·cases b<;>rfl
  ·rw[zzr1 rfl];exact k
 have a:=gV.kd hx;have p:=gV.kd A;refine⟨_,rfl,_,rfl,?_⟩;have M:decide (y=V.non)=false:=by cases p<;>exact zzr0 nofun
 rw[M];refine bv ?_;cases p with
 |int i =>
  cases a;refine⟨_,rfl,.int i,"bool",_,false,rfl,.inl (jf.int i),rfl,_,rfl,bv ?_⟩;refine⟨_,rfl,.int i,"str",_,false,rfl,.inl (jf.int i),rfl,_,rfl,bv ?_⟩;refine⟨_,rfl,.int i,"int",_,true,rfl,.inl (jf.int i),rfl,_,rfl,cr ?_⟩;refine⟨_,rfl,.int i,"int",_,true,rfl,.inl (jf.int i),rfl,_,rfl,cr ?_⟩;refine⟨_,rfl,.int i,"bool",_,false,rfl,.inl (jf.int i),rfl,_,rfl,_,rfl,cr ?_⟩;refine⟨_,rfl,_,rfl,_,_,hx,A,by omega,by omega,?_⟩;rw[zzr1 rfl];exact k H (ab.refl _)
 |str i =>
  cases a;refine⟨_,rfl,.str i,"bool",_,false,rfl,.inl (jf.str i),rfl,_,rfl,bv ?_⟩;refine⟨_,rfl,.str i,"str",_,true,rfl,.inl (jf.str i),rfl,_,rfl,cr ?_⟩;refine⟨_,rfl,.str i,"str",_,true,rfl,.inl (jf.str i),rfl,_,rfl,cr ?_⟩;refine⟨_,rfl,_,rfl,_,_,hx,A,by omega,by omega,?_⟩;rw[zzr1 rfl];exact k H (ab.refl _)
 |@tup b q N e r =>
  cases a with
  |@tup f s _ g t =>
  have ty:I0 K H (.ref b) (.type "tuple"):=.inr (.inl ⟨_,_,rfl,rfl,e⟩);have B:I0 K H (.ref f) (.type "tuple"):=.inr (.inl ⟨_,_,rfl,rfl,g⟩);obtain⟨m,rfl⟩:∃m,n=m+1:=⟨n-1,by have:=Gg u;omega⟩;obtain rfl:=o m rfl;refine⟨_,rfl,.ref b,"bool",_,false,rfl,ty,rfl,_,rfl,bv ?_⟩;refine⟨_,rfl,.ref b,"str",_,false,rfl,ty,rfl,_,rfl,bv ?_⟩;refine⟨_,rfl,.ref b,"int",_,false,rfl,ty,rfl,_,rfl,bv ?_⟩;refine⟨_,rfl,.ref b,"tuple",_,true,rfl,ty,rfl,_,rfl,cr ⟨_,rfl,.ref f,"tuple",_,true,rfl,B,rfl,_,rfl,bv ?_⟩⟩;refine⟨_,rfl,.ref b,"list",_,false,rfl,ty,rfl,_,rfl,bv (bv ?_)⟩;refine⟨_,rfl,.inl ⟨f,_,rfl,.inr g,_,rfl,.inl ⟨b,_,rfl,.inr e,rfl,_,rfl,?_⟩⟩⟩;have C:s.length=q.length:=by rw[DIns.len t,DIns.len r]
  have D:(!decide (V.int (s.length:Nat)=V.int (q.length:Nat)))=false:=by rw[zzr1 (by rw[C])];rfl
  rw[D];refine bv ⟨_,rfl,_,rfl,f,b,rfl,.inr ⟨⟨_,g⟩,⟨_,e⟩,fun l j=>?_⟩⟩;exact rJ (.inr ⟨rfl,g,e⟩) t r (HF u) v.1 v.2 j fun G S I=>⟨l,_,rfl,au.of I,by rw[uU];exact k G S⟩
 |@lst b q N e r =>
  cases a with
  |@lst f s _ g t =>
  have ty:I0 K H (.ref b) (.type "list"):=.inr (.inr ⟨_,_,rfl,rfl,e⟩);have B:I0 K H (.ref f) (.type "list"):=.inr (.inr ⟨_,_,rfl,rfl,g⟩);obtain⟨m,rfl⟩:∃m,n=m+1:=⟨n-1,by have:=Gh u;omega⟩;obtain rfl:=o m rfl;refine⟨_,rfl,.ref b,"bool",_,false,rfl,ty,rfl,_,rfl,bv ?_⟩;refine⟨_,rfl,.ref b,"str",_,false,rfl,ty,rfl,_,rfl,bv ?_⟩;refine⟨_,rfl,.ref b,"int",_,false,rfl,ty,rfl,_,rfl,bv ?_⟩;refine⟨_,rfl,.ref b,"tuple",_,false,rfl,ty,rfl,_,rfl,bv (bv ?_)⟩;refine⟨_,rfl,.ref b,"list",_,true,rfl,ty,rfl,_,rfl,cr ⟨_,rfl,.ref f,"list",_,true,rfl,B,rfl,_,rfl,bv ?_⟩⟩;refine⟨_,rfl,.inl ⟨f,_,rfl,.inl g,_,rfl,.inl ⟨b,_,rfl,.inl e,rfl,_,rfl,?_⟩⟩⟩;have C:s.length=q.length:=by rw[DIns.len t,DIns.len r]
  have D:(!decide (V.int (s.length:Nat)=V.int (q.length:Nat)))=false:=by rw[zzr1 (by rw[C])];rfl
  rw[D];refine bv ⟨_,rfl,_,rfl,f,b,rfl,.inl ⟨⟨_,g⟩,⟨_,e⟩,fun l j=>?_⟩⟩;exact rJ (.inl ⟨rfl,g,e⟩) t r (HG u) v.1 v.2 j fun G S I=>⟨l,_,rfl,au.of I,by rw[uU];exact k G S⟩
inductive mo(K:Za)(vs:List V)(H:Hp)(Q:VK)(E:XK):Prop
 |mk (t s l1 l2 l3 l4:Addr) (ts:Ze) (J0 J2 J3 sg:Zb) (ds:List ak):(vs=[.ref t,.ref s])->(iw H t l1 l2 l3 l4 ts J0 J2 J3 ds)->(br K H s (sg.map V.str))->((sg=ba∨∃kd w,sg=[kd,w])) ->
  (∀(v:V) (H':Hp),(gf J0 J2 sg=none/\v=.non)∨(∃g b,gf J0 J2 sg=some g/\v=.ref b/\br K H' b (g.map V.str))->ab H H'->Q v H')->mo K vs H Q E
theorem Dq{K:Za}{x:List V}{H:Hp}{Q:VK}{E:XK}(h:mo K x H Q E):y9 K (bS Q) (start At x) H:=by
 obtain⟨t,s,D,G,M,N,O,i,l,U,y,Y,rfl,T,A,r,k⟩:=h;refine⟨_,rfl,(by show 1<=aj;decide),fun B m=>⟨jF y,jF ba,bw (br.same (ab.new m) A),bw (br.of aa),by rw[bZ];decide,by rw[bZ];decide,_,rfl,?_⟩⟩;rw[hE];have g:ab H (upd H B (.tup [.str "hush"])):=ab.new m;generalize upd H B (.tup [.str "hush"])=H1 at g ⊢;have n:=T.same g;have a:=br.same g A;by_cases c:y=ba
 ·rw[zzr1 c];subst c;exact cr ⟨_,rfl,k _ _ (.inr ⟨_,s,kA,rfl,a⟩) g⟩
 rw[zzr0 c];obtain⟨kd,w,rfl⟩:=r.resolve_left c;have I:gf i l [kd,w]=if w∈i then some (bm w)else if w∈l then some (aV w)else none:=by unfold gf;rw[if_neg c];rfl
 rw[I]at k;have J:∀os:List Str,(cB w∈os.map cB)↔w∈os:=fun os=>⟨fun z=>by obtain⟨v,L,e⟩:=aA.1 z;have e:DT.k (.inr v)=DT.k (.inr w):=e;injection e with e;injection e with e;rw[<-e];exact L,e_⟩;have C:∀os:List Str,(if false=true then !decide (cB w∈os.map cB)else decide (cB w∈os.map cB))=decide (w∈os):=fun os=>decide_eq_decide.2 (J os)
 have f:yM ([kd,w].map V.str) 1=some (.str w):=cp (j:=1) rfl;refine bv ⟨_,rfl,.inr (.inl ⟨s,_,1,.str w,rfl,rfl,a,f,_,rfl,.inr (.inl ⟨t,_,0,_,rfl,rfl,br.of n.t,rfl,cB w,i.map cB,D,_,rfl,rfl,.inl (au.of n.a1),gk i,c7 _,by rw[gP];decide,_,rfl,?_⟩)⟩)⟩;rw[C];by_cases o:w∈i
 ·rw[zzr1 o];rw[if_pos o]at k;exact cr ⟨_,rfl,.inr (.inl ⟨s,_,1,.str w,rfl,rfl,a,f,(by show 2<=aj;decide),fun q u=>k _ _ (.inr ⟨_,q,rfl,rfl,br.of aa⟩) (g.trans (ab.new u))⟩)⟩
 rw[zzr0 o];rw[if_neg o]at k;refine bv ⟨_,rfl,.inr (.inl ⟨s,_,1,.str w,rfl,rfl,a,f,_,rfl,.inr (.inl ⟨t,_,1,_,rfl,rfl,br.of n.t,rfl,cB w,l.map cB,G,_,rfl,rfl,.inl (au.of n.a2),gk l,c7 _,by rw[gP];decide,_,rfl,?_⟩)⟩)⟩;rw[C];by_cases p:w∈l
 ·rw[zzr1 p];rw[if_pos p]at k;exact cr ⟨_,rfl,.inr (.inl ⟨s,_,1,.str w,rfl,rfl,a,f,(by show 2<=aj;decide),fun q u=>k _ _ (.inr ⟨_,q,rfl,rfl,br.of aa⟩) (g.trans (ab.new u))⟩)⟩
 ·rw[zzr0 p];rw[if_neg p]at k;exact bv (k _ _ (.inl ⟨rfl,rfl⟩) g)
inductive sT(K:Za)(vs:List V)(H:Hp)(Q:VK)(E:XK):Prop
 |mk (t ft s l1 l2 l3 l4:Addr) (ts:Ze) (J0 J2 J3 J7 sg:Zb) (ds:List ak):(vs=[.ref t,.ref ft,.ref s])->(iw H t l1 l2 l3 l4 ts J0 J2 J3 ds)->(aq J0 J2 J3 ds)->(H ft=some (.tup (J7.map V.str)))->(br K H s (sg.map V.str))->((sg=ba∨∃kd w,sg=[kd,w]))->(J7.length<=1000)->(∀(t':Addr) (H':Hp),H' t'=some (.tup ((besF J0 J2 J3 ds J7 sg).map V.str))->ab H H'->Q (.ref t') H')->sT K vs H Q E
theorem Hg{K:Za}{j:List V}{H:Hp}{Q:VK}{E:XK}(h:sT K j H Q E):xo K (ki K) (mo K) (bS Q) (start yD j) H:=by
 obtain⟨t,l,s,n,o,p,q,r,u,x,y,B,C,A,rfl,T,m,a,D,i,G,k⟩:=h;refine⟨_,rfl,_,rfl,t,s,n,o,p,q,r,u,x,y,C,A,rfl,T,D,i,fun v I J f=>?_⟩;rcases J with⟨e,rfl⟩|⟨g,b,e,rfl,L⟩
 ·refine⟨_,rfl,_,rfl,?_⟩;rw[zzr1 rfl];refine cr ⟨_,rfl,k l I ?_ f⟩;rw[Ah e];exact f _ _ a
 ·refine⟨_,rfl,_,rfl,?_⟩;rw[zzr0 (fun z=>by cases z)];refine bv ⟨_,rfl,_,rfl,_,rfl,t,l,b,n,o,p,q,r,u,x,y,B,g,A,rfl,T.same f,m,f _ _ a,L,G,fun M N O U=>k M N ?_ (f.trans U)⟩;rw[pU e];exact O
def Jo(K:Za):TS:=d6 (bG K (aK (ij K) V4 (tC (.int 1)))) U6 (df (bj (aK (zD K) (aN (ki K) (dQ V4 V5 (bX (aJ (tC (.str "say")) V6)))) (bX (aY)))) (c_ (vm K "list" d_ V3 (aB (bX (aJ (tC (.str "say")) V6))))) (bQ))
theorem pP{l:Zb}{p:Str->Bool}{i:Nat}{e:Str}(h:l[i]?=some e):(l.take (i+1)).filter p=(l.take i).filter p++(if p e=true then[e]else[]):=by
 rw[take_snoc h,f6];by_cases c:p e=true
 ·rw[if_pos c];simp[c]
 ·rw[if_neg c];simp[c]
theorem vY{K:Za}{D:oE}{A H:Hp}{U Y y2 p:Option V}{t B f l1 l2 l3 l4:Addr}{ts N:Ze}{J0 s J3 j:Zb}{l:List ak}{L:List (List Str)}(T:iw A t l1 l2 l3 l4 ts J0 s J3 l)(m:aq J0 s J3 l)(al:A B=some (.tup (j.map V.str)))(hz:j.length<=1000)(an:H f=some (.lst (N.map V.ref)))(ap:Paired (SignAt H) N L)(lL:L.length<=100)(fr:A f=none)(S0:ab A H)
  (k:∀(g:Ze) (p:Option V) (h:Hp),h f=some (.lst (g.map V.ref))->Paired (SignAt h) g (L++(s.filter (sayN J3 l j)).map aV)->ab A h->(∀b o,H b=some o->b≠f->h b=some o)->D.nx [U,Y,y2,some (.ref f),some (.ref t),some (.ref B),p] h) :
  Jo K D [U,Y,y2,some (.ref f),some (.ref t),some (.ref B),p] H:=by
 have s4:=m.says4;refine⟨_,rfl,.inr (.inl ⟨t,_,1,_,rfl,rfl,br.of (S0 _ _ T.t),rfl,l2,rfl,⟨_,au.of (S0 _ _ T.a2)⟩,?_⟩)⟩
 let zI:Nat->L2.St->Hp->Prop:=fun i σ h=>Ew fun(g:Ze) (p:Option V)=>GA (σ=[U,Y,y2,some (.ref f),some (.ref t),some (.ref B),p]) (h f=some (.lst (g.map V.ref))) (Paired (SignAt h) g (L++((s.take i).filter (sayN J3 l j)).map aV)) (ab A h) (∀b o,H b=some o->b≠f->h b=some o)
 refine bO (xs:=s.map V.str) zI ⟨N,_,rfl,an,by show Paired _ N (L++[]);rw[cM];exact ap,S0,fun _ _ e _=>e⟩ (fun i σ h _ zq=>by obtain⟨_,_,_,_,_,S,_⟩:=zq;exact au.of (S _ _ T.a2)) ?_ ?_;rotate_left
 ·rintro σ v ⟨g,p,rfl,h1,C,E,O⟩;rw[ag,bg]at C;exact k g p v h1 C E O
 rintro i x σ v hx ⟨g,p,rfl,h1,C,E,O⟩;obtain⟨w,y,rfl⟩:=aZ hx;have il:=(bN.1 y).1;refine gN ⟨_,rfl,_,rfl,_,rfl,(by show 2<=aj;decide),fun q hq=>?_⟩;have S2:ab v (upd v q (.tup [.str "say",.str w])):=ab.new hq;have q2:upd v q (.tup [.str "say",.str w]) q=some (.tup ((aV w).map V.str)):=aa;show ki K [.ref t,.ref B,.ref q] (upd v q (.tup [.str "say",.str w])) _ _;generalize upd v q (.tup [.str "say",.str w])=H2 at S2 q2 ⊢;have G:=E.trans S2;refine⟨t,B,q,l1,l2,l3,l4,ts,J0,s,J3,j,aV w,l,rfl,T.same G,m,G _ _ al,br.of q2,hz,fun t' I h3 S3=>⟨(by show 0<=aj;decide),fun e he=>?_⟩⟩;have S4:ab I (upd I e (.tup [])):=ab.new he;have e4:upd I e (.tup []) e=some (.tup (([]:Zb).map V.str)):=aa;show zD K (.ref t') (.ref e) (upd I e (.tup [])) _;generalize upd I e (.tup [])=Q at S4 e4 ⊢;refine⟨jF (behF J3 l j (aV w)),jF [],bw (br.of (S4 _ _ h3)),bw (br.of e4),by rw[bZ];decide,by rw[bZ];decide,_,rfl,?_⟩;rw[hE];have ec:(!decide (behF J3 l j (aV w)=[]))=sayN J3 l j w:=rfl;rw[ec];have a:=S2.trans (S3.trans S4);have h4:=a _ _ h1;have lw:=Paired.length C;rw[aS,ag]at lw;have lf:((s.take i).filter (sayN J3 l j)).length<=4:=bz (bo _ _) (by rw[aM];omega);have J:=Paired.mapP C fun _ _ r=>a _ _ r;by_cases c:sayN J3 l j w=true
 ·rw[c];refine cr ⟨_,rfl,.inl ⟨rfl,_,au.of h4⟩,_,rfl,(by show 2<=aj;decide),fun u hu=>?_⟩;have M:ab Q (upd Q u (.tup [.str "say",.str w])):=ab.new hu;have u5:upd Q u (.tup [.str "say",.str w]) u=some (.tup ((aV w).map V.str)):=aa;generalize upd Q u (.tup [.str "say",.str w])=H5 at M u5 ⊢;have h5:=M _ _ h4;have kt:j7 H5 (upd H5 f (.lst (g.map V.ref++[.ref u]))):=cU h5;refine⟨f,_,_,rfl,rfl,h5,by rw[ag];exact ao (by omega),g++[u],_,rfl,by rw[aa,av];rfl,?_,fun b o z=>?_,fun b o z n=>?_⟩
  ·rw[pP y,if_pos c,av,<-dZ];exact fF (Paired.mapP J fun _ _ r=>kt _ _ (M _ _ r)) (kt _ _ u5)
  ·rw[am (ae z fr)];exact M _ _ (a _ _ (E _ _ z))
  ·rw[am n];exact M _ _ (a _ _ (O _ _ z n))
 ·rw[k_.2 c];refine bv ⟨g,_,rfl,h4,?_,E.trans a,fun b o z n=>a _ _ (O _ _ z n)⟩;rw[pP y,if_neg c,cM];exact J
inductive sR(K:Za)(vs:List V)(H:Hp)(Q:VK)(E:XK):Prop
 |mk (t l1 l2 l3 l4 t' l1' l2' l3' l4' fs fa fb:Addr) (ts ts':Ze) (J0 J2 J3 asks' says' rooms' f f':Zb) (ds ds':List ak):(vs=[.ref t,.ref t',.ref fs])->(iw H t l1 l2 l3 l4 ts J0 J2 J3 ds)->(iw H t' l1' l2' l3' l4' ts' asks' says' rooms' ds')->(aq J0 J2 J3 ds)->(aq asks' says' rooms' ds')->(H fs=some (.tup [.ref fa,.ref fb]))->(H fa=some (.tup (f.map V.str)))->(H fb=some (.tup (f'.map V.str)))->(f.length<=1000)->(f'.length<=1000) ->
  (∀(l:Addr) (us:Ze) (H':Hp),H' l=some (.lst (us.map V.ref))->Paired (SignAt H') us (mayF J2 J3 says' rooms' ds ds' f f')->H l=none->ab H H'->Q (.ref l) H')->sR K vs H Q E
theorem Hd{K:Za}{vs:List V}{H:Hp}{Q:VK}{E:XK}(h:sR K vs H Q E):qF K (ki K) (bS Q) (start rg vs) H:=by
 obtain⟨t,l1,l2,l3,l4,M,a9,bb,bi,bn,fs,fa,fb,ts,bp,J0,C,l,a7,g,a,f,f',n,B,rfl,T,T',m,m',N,O,as,z1,z2,k⟩:=h;have s4:=m.says4;have b0:=m'.says4;refine⟨(by show 0<=aj;decide),fun D G=>?_⟩;have S1:ab H (upd H D (.lst [])):=ab.new G;have f1:upd H D (.lst []) D=some (.lst (([]:Ze).map V.ref)):=aa;generalize upd H D (.lst [])=H1 at S1 f1 ⊢;refine⟨_,rfl,_,rfl,(by show 2<=aj;decide),fun lz aC=>⟨_,rfl,?_⟩⟩;have S2:ab H1 (upd H1 lz (.lst [.ref t,.ref M])):=ab.new aC;have al:upd H1 lz (.lst [.ref t,.ref M]) lz=some (.lst [.ref t,.ref M]):=aa;have nz:lz≠D:=(ae f1 aC).symm;generalize upd H1 lz (.lst [.ref t,.ref M])=H2 at S2 al ⊢;have a0:=S1.trans S2;have f2:=S2 _ _ f1;refine⟨lz,fs,rfl,⟨_,au.of al⟩,⟨_,br.of (a0 _ _ N)⟩,?_⟩
 let MI:Nat->List (List Str):=fun i=>if i=0 then[]else if i=1 then(C.filter (sayN l n f)).map aV else(C.filter (sayN l n f)).map aV++(g.filter (sayN a B f')).map aV
 let zI:Nat->L2.St->Hp->Prop:=fun i σ H'=>Jj fun(s:Ze) (x4 x5 x6:Option V)=>GA (σ=[some (.ref t),some (.ref M),some (.ref fs),some (.ref D),x4,x5,x6]) (H' D=some (.lst (s.map V.ref))) (Paired (SignAt H') s (MI i)) (ab H H') (H' lz=some (.lst [.ref t,.ref M]))
 refine F_ (xs:=[.ref t,.ref M]) (ys:=[.ref fa,.ref fb]) (aP _) zI ⟨[],_,_,_,rfl,f2,.nil,a0,al⟩ (fun i σ H' _ zq=>by obtain⟨_,_,_,_,_,_,_,S,h'⟩:=zq;exact⟨au.of h',br.of (S _ _ N)⟩) ?_ ?_
 ·rintro i x y σ A p hx hy ⟨s,x4,x5,x6,rfl,h3,hu,S3,an⟩ hp;have j:ab A (upd A p (.tup [x,y])):=ab.new hp;have p4:upd A p (.tup [x,y]) p=some (.tup [x,y]):=aa;generalize upd A p (.tup [x,y])=H4 at j p4 ⊢;have h4:=j _ _ h3;have a4:Paired (SignAt H4) s (MI i):=Paired.mapP hu fun _ _ r=>j _ _ r;refine⟨p,_,rfl,br.of p4,rfl,_,_,rfl,_,_,rfl,rfl,?_⟩;rcases i with _|_|i
  ·have hx:some (V.ref t)=some x:=hx;have hy:some (V.ref fa)=some y:=hy;cases hx;cases hy;refine vY (L:=[]) T m O z1 h4 a4 (by decide) G (S3.trans j) fun ws y6 U Y hw S5 kk=>⟨ws,_,_,_,rfl,Y,hw,S5,kk _ _ (j _ _ an) nz⟩
  ·have hx:some (V.ref M)=some x:=hx;have hy:some (V.ref fb)=some y:=hy;cases hx;cases hy;have lf:=bo (sayN l n f) C;refine vY (L:=(C.filter (sayN l n f)).map aV) T' m' as z2 h4 a4 (by rw[ag];omega) G (S3.trans j) fun ws y6 U Y hw S5 kk=>⟨ws,_,_,_,rfl,Y,hw,S5,kk _ _ (j _ _ an) nz⟩
  ·cases hx
 rintro σ A ⟨s,x4,x5,x6,rfl,h3,hu,S3,an⟩;have hu:Paired (SignAt A) s ((C.filter (sayN l n f)).map aV++(g.filter (sayN a B f')).map aV):=hu;have lu:=Paired.length hu;rw[aS,ag,ag]at lu;have b1:=bo (sayN l n f) C;have b2:=bo (sayN a B f') g;unfold mayF at k;generalize(C.filter (sayN l n f)).map aV++(g.filter (sayN a B f')).map aV=L at hu k;have I:∀{A:Hp}{t l1 l2 l3 l4 fa:Addr}{ts:Ze}{J0 C l f:Zb}{n:List ak}{R:VK},iw A t l1 l2 l3 l4 ts J0 C l n->aq J0 C l n->A fa=some (.tup (f.map V.str))->f.length<=1000->∀q,A q=none->(∀H',ab A H'->R (.bl (!decide (behF l n f ba=[]))) H')->ki K [.ref t,.ref fa,.ref q] (upd A q (.tup [.str "hush"])) (fun v H4=>0<=aj/\∀e,H4 e=none->zD K v (.ref e) (upd H4 e (.tup [])) R) E0:=by
  intro A t l1 l2 l3 l4 fa ts J0 C l f n R T m O z q hq kk;have j:ab A (upd A q (.tup [.str "hush"])):=ab.new hq;refine⟨t,fa,q,l1,l2,l3,l4,ts,J0,C,l,f,ba,n,rfl,T.same j,m,j _ _ O,br.of aa,z,fun M U Y S5=>⟨(by show 0<=aj;decide),fun e he=>?_⟩⟩;have S6:ab U (upd U e (.tup [])):=ab.new he;refine⟨jF (behF l n f ba),jF [],bw (br.of (S6 _ _ Y)),bw (br.of (xs:=([]:Zb).map V.str) aa),by rw[bZ];decide,by rw[bZ];decide,?_⟩;rw[hE];exact kk _ (j.trans (S5.trans S6))
 have ap:∀(s:Ze) (H':Hp) (b:Bool),H' D=some (.lst (s.map V.ref))->Paired (SignAt H') s (L++if((!decide (behF l n f ba=[]))=true/\(!decide (behF a B f' ba=[]))=true)then[ba]else[])->ab H H'->Q (.ref D) H':=fun s H' _ h1 h2 h3=>k D s H' h1 h2 G h3
 refine⟨_,rfl,_,rfl,.inr (.inl ⟨fs,_,0,_,rfl,rfl,br.of (S3 _ _ N),rfl,(by show 1<=aj;decide),fun q hq=>?_⟩)⟩;refine I (T.same S3) m (S3 _ _ O) z1 q hq fun H4 j=>⟨_,rfl,?_⟩;have J:=S3.trans j;by_cases c1:(!decide (behF l n f ba=[]))=true
 ·rw[c1];refine cr ⟨_,rfl,_,rfl,.inr (.inl ⟨fs,_,1,_,rfl,rfl,br.of (J _ _ N),rfl,(by show 1<=aj;decide),fun q hq=>?_⟩)⟩;refine I (T'.same J) m' (J _ _ as) z2 q hq fun U S5=>⟨_,rfl,?_⟩;have a5:=J.trans S5;have Y:=S5 _ _ (j _ _ h3);have a6:=Paired.mapP hu fun _ _ r=>S5 _ _ (j _ _ r);by_cases c2:(!decide (behF a B f' ba=[]))=true
  ·rw[c2];refine cr ⟨_,rfl,.inl ⟨rfl,_,au.of Y⟩,(by show 1<=aj;decide),fun u a8=>?_⟩;have S6:ab U (upd U u (.tup [.str "hush"])):=ab.new a8;have u6:upd U u (.tup [.str "hush"]) u=some (.tup (ba.map V.str)):=aa;generalize upd U u (.tup [.str "hush"])=H6 at S6 u6 ⊢;have h6:=S6 _ _ Y;have kt:j7 H6 (upd H6 D (.lst (s.map V.ref++[.ref u]))):=cU h6;refine⟨D,_,_,rfl,rfl,h6,by rw[ag];exact ao (by omega),_,rfl,ap (s++[u]) _ true (by rw[aa,av];rfl) ?_ fun b o z=>?_⟩
   ·rw[if_pos ⟨c1,c2⟩];exact fF (Paired.mapP a6 fun _ _ r=>kt _ _ (S6 _ _ r)) (kt _ _ u6)
   ·rw[am (ae z G)];exact S6 _ _ (a5 _ _ z)
  ·rw[k_.2 c2];refine bv ⟨_,rfl,ap s _ true Y ?_ a5⟩;rw[if_neg (fun z=>c2 z.2),cM];exact a6
 ·rw[k_.2 c1];refine bv (bv ⟨_,rfl,ap s _ true (j _ _ h3) ?_ J⟩);rw[if_neg (fun z=>c1 z.1),cM];exact Paired.mapP hu fun _ _ r=>j _ _ r
theorem i9:∀{a:Zb},DT.fews (a.map cB)
 |[]=>trivial
 |w::a=>⟨trivial,i9⟩
theorem Bn:∀{a:List ak},(∀d∈a,d.sg.length<=1000)->DT.fews (a.map sB)
 |[],_=>trivial
 |d::a,h=>⟨⟨by show 3<=1000;decide,trivial,⟨by show(d.sg.map cB).length<=1000;rw[ag];exact h d dS,i9⟩,trivial,trivial⟩,Bn fun e f=>h e (fX _ f)⟩
theorem z5{f g h:Zb}{a:List ak}(m:aq f g h a):∀d∈a,d.sg.length<=1000:=fun d i=>by
 rcases(m.good d i).sg with⟨w,_,e⟩|⟨w,_,e⟩|e<;>rw[e]
 ·show 2<=1000;decide
 ·show 2<=1000;decide
 ·show 1<=1000;decide
def uv(J0 J2 J3:Zb)(ds:List ak):DT:=.s [.s (J0.map cB),.s (J2.map cB),.s (J3.map cB),.s (ds.map sB)]
theorem xO{e f g:Zb}{a:List ak}:(uv e f g a).depth<=4:=by
 show max (DT.depths (e.map cB)+1) (max (DT.depths (f.map cB)+1) (max (DT.depths (g.map cB)+1) (max (DT.depths (a.map sB)+1) 0)))+1<=4;have:=kB a;rw[dD,dD,dD];omega
theorem Ba{a e f:Zb}{g:List ak}(m:aq a e f g):DT.few (uv a e f g):=by
 have:=m.asks4;have:=m.says4;have:=m.rooms26;have:=m.few;exact⟨by show 4<=1000;decide,⟨by rw[ag];omega,i9⟩,⟨by rw[ag];omega,i9⟩,⟨by rw[ag];omega,i9⟩,⟨by rw[ag];omega,Bn (z5 m)⟩,trivial⟩
inductive o7(C:Addr)(vs:List V)(H:Hp)(Q:VK)(E:XK):Prop
 |mk (x tt l1 l2 l3 l4:Addr) (ts:Ze) (J0 J2 J3:Zb) (ds:List ak):(vs=[.ref x,.ref tt])->(aX C H x J0 J2 J3 ds)->(iw H tt l1 l2 l3 l4 ts J0 J2 J3 ds)->(∀H',ab H H'->Q (.bl true) H')->o7 C vs H Q E
theorem Fd{K:Za}{C:Addr}{l:List V}{H:Hp}{Q:VK}{E:XK}(h:o7 C l H Q E):yX K (dA K 4) C (fO C) (eG C) (pf C) (f_ C) (iB C) (iD C) (bS Q) (start Ap l) H:=by
 obtain⟨x,tt,l1,l2,l3,l4,ts,v,y,n,ds,rfl,p,T0,k⟩:=h;have m:=p.ok;have z4:=m.few;obtain⟨dx,fs,g1,a1,a2,a3,a4,_⟩:=p.mth;refine⟨_,rfl,x,dx,fs,rfl,g1,a1,x,v,y,n,ds,rfl,p,fun O ci=>?_⟩;have S1:ab H (upd H O (.lst (v.map V.str))):=ab.new ci;have aC:upd H O (.lst (v.map V.str)) O=some (.lst (v.map V.str)):=aa;generalize upd H O (.lst (v.map V.str))=H1 at S1 aC ⊢;have M1:=p.same S1;refine⟨_,rfl,x,dx,fs,rfl,S1 _ _ g1,a2,x,v,y,n,ds,rfl,M1,fun U cl=>?_⟩;have S2:ab H1 (upd H1 U (.lst (y.map V.str))):=ab.new cl;have a0:upd H1 U (.lst (y.map V.str)) U=some (.lst (y.map V.str)):=aa;generalize upd H1 U (.lst (y.map V.str))=H2 at S2 a0 ⊢;have J:=S1.trans S2;refine⟨_,rfl,x,dx,fs,rfl,J _ _ g1,a3,x,v,y,n,ds,rfl,p.same J,fun Y cm=>?_⟩;have S3:ab H2 (upd H2 Y (.lst (n.map V.str))):=ab.new cm;have a5:upd H2 Y (.lst (n.map V.str)) Y=some (.lst (n.map V.str)):=aa;generalize upd H2 Y (.lst (n.map V.str))=H3 at S3 a5 ⊢;have a6:=J.trans S3;obtain⟨b7,o4,b8,e,a7,_,b2,b3,b4,b5⟩:=(p.same a6).own;refine⟨_,rfl,x,b7,b8,rfl,a7,b2,x,b7,o4,b8,e,rfl,a7,b3,b4,fun w4 co=>?_⟩;have S4:ab H3 (upd H3 w4 (.lst (e.map V.ref))):=ab.new co;have a8:upd H3 w4 (.lst (e.map V.ref)) w4=some (.lst (e.map V.ref)):=aa;show _/\_;generalize upd H3 w4 (.lst (e.map V.ref))=H4 at S4 a8 ⊢;refine⟨(by show 4<=aj;decide),fun pl cs=>?_⟩;have S5:ab H4 (upd H4 pl (.lst [.ref O,.ref U,.ref Y,.ref w4])):=ab.new cs;have p5:upd H4 pl (.lst [.ref O,.ref U,.ref Y,.ref w4]) pl=some (.lst [.ref O,.ref U,.ref Y,.ref w4]):=aa;generalize upd H4 pl (.lst [.ref O,.ref U,.ref Y,.ref w4])=H5 at S5 p5 ⊢;have a9:=a6.trans (S4.trans S5);have T5:=T0.same a9;refine⟨_,rfl,.inl ⟨tt,_,rfl,.inr (br.of T5.t),fun ql ct=>?_⟩⟩;have S6:ab H5 (upd H5 ql (.lst [.ref l1,.ref l2,.ref l3,.ref l4])):=ab.new ct;have q6:upd H5 ql (.lst [.ref l1,.ref l2,.ref l3,.ref l4]) ql=some (.lst [.ref l1,.ref l2,.ref l3,.ref l4]):=aa;show dA K 4 [.ref pl,.ref ql] (upd H5 ql (.lst [.ref l1,.ref l2,.ref l3,.ref l4])) _ _;generalize upd H5 ql (.lst [.ref l1,.ref l2,.ref l3,.ref l4])=H6 at S6 q6 ⊢;have T6:=T5.same S6;have parts:∀{a b1 b2 b3 b4:Addr}{e:Ze},H6 a=some (.lst [.ref b1,.ref b2,.ref b3,.ref b4])->H6 b1=some (.lst (v.map V.str))->H6 b2=some (.lst (y.map V.str))->H6 b3=some (.lst (n.map V.str))->H6 b4=some (.lst (e.map V.ref))->cA H6 e ds->gV K H6 (uv v y n ds) (.ref a):=by
  intro a b1 b2 b3 b4 e h0 h1 h2 h3 h4 h5;have d4:gV K H6 (.s (ds.map sB)) (.ref b4):=by unfold gV;exact⟨b4,_,rfl,au.of h4,h5.dIns⟩
  unfold uv gV;refine⟨a,_,rfl,au.of h0,?_⟩;unfold DIns;refine⟨_,_,rfl,ie (au.of h1),?_⟩;unfold DIns;refine⟨_,_,rfl,ie (au.of h2),?_⟩;unfold DIns;refine⟨_,_,rfl,ie (au.of h3),?_⟩;unfold DIns;refine⟨_,_,rfl,d4,?_⟩;unfold DIns
  rfl
 have bi:=S5.trans S6;have B:=S4.trans bi;refine .mk _ _ (uv v y n ds) rfl (parts (S6 _ _ p5) ((S2.trans (S3.trans B)) _ _ aC) ((S3.trans B) _ _ a0) (B _ _ a5) (bi _ _ a8) (b5.kt (ab.kt B))) (parts q6 T6.a1 T6.a2 T6.a3 T6.a4 T6.ds) xO (Ba m) fun H7 S7=>⟨_,rfl,bv ?_⟩;have bl:=a9.trans (S6.trans S7);clear parts bi B T6 T5 S6 q6 p5 S5 a8 a5 a0 aC S4 b5 b4 b3 b2 a7 S3 S2 J M1 S1 a6 a9 S7;have T7:=T0.same bl;refine⟨_,rfl,.inr (.inl ⟨tt,_,2,_,rfl,rfl,br.of T7.t,rfl,l3,rfl,⟨_,au.of T7.a3⟩,?_⟩)⟩
 let zR:Nat->L2.St->Hp->Prop:=fun i σ u=>HR fun(x2 x3 x4:Option V)=>σ=[some (.ref x),some (.ref tt),x2,x3,x4]/\ab H u
 refine bO (xs:=n.map V.str) zR ⟨_,_,_,rfl,bl⟩ (fun i σ u _ zq=>by obtain⟨_,_,_,_,S⟩:=zq;exact au.of (S _ _ T0.a3)) ?_ ?_;rotate_left
 ·rintro σ H8 ⟨x2,x3,x4,rfl,S8⟩;exact k H8 S8
 clear T7 bl;rintro i0 xv σ0 H8 c0 ⟨x2,x3,x4,rfl,bn⟩;obtain⟨r,c3,rfl⟩:=aZ c0;have ca:=bW c3;have MA:=p.same bn;have T:=T0.same bn;have L8:Lists H8 l1 l2 l3 l4 ts v y n ds:=⟨T.a1,T.a2,T.a3,T.a4,T.ds⟩;refine gN ⟨_,rfl,.inr (.inl ⟨tt,_,3,_,rfl,rfl,br.of T.t,rfl,l4,rfl,⟨_,au.of L8.a4⟩,fun f hf=>?_⟩)⟩;refine bD (xs:=ts.map V.ref) (fun i l u=>∃e:List Addr,l=e.map V.ref/\cA u e ((ds.take i).filter fun d=>decide (d.a=r))/\ab H8 u/\u f=some (.lst l)) ⟨[],rfl,.nil,ab.new hf,aa⟩ (fun i l u _ zq=>by obtain⟨_,_,_,S,h'⟩:=zq;exact⟨h',au.of (S _ _ L8.a4)⟩) ?_ ?_;rotate_left
 ·rintro i l u x hx hi ⟨e,rfl,D,S,f'⟩;obtain⟨t,ht,rfl⟩:=cD hx;obtain⟨dr,A,G⟩:=Paired.getL L8.ds ht;obtain⟨s,bp,L⟩:=G.kt (ab.kt S);refine gN ⟨_,rfl,.inr (.inl ⟨t,_,0,_,rfl,rfl,br.of bp,rfl,_,rfl,cB dr.a,cB r,l6 _,l6 _,c7 _,c7 _,_,rfl,?_⟩)⟩;rw[Cz];refine kz (fun c=>?_) (fun c=>?_)
  ·refine⟨_,rfl,f',?_,jo hi ⟨e++[t],by rw[av];rfl,?_,?_,aa⟩⟩
   ·rw[ag,Paired.length D];refine eR (bz (bo _ _) ?_);rw[aM];omega
   ·rw[c6 A,if_pos c];exact Paired.app (D.kt (cU f')) (.cons ((G.kt (ab.kt S)).kt (cU f')) .nil)
   ·intro b o q;rw[am (ae q hf)];exact S _ _ q
  ·refine jo hi ⟨e,rfl,?_,S,f'⟩;rw[c6 A,if_neg c,cM];exact D
 rintro l H9 ⟨e,rfl,D9,S9,f9⟩;rw[ag,Paired.length L8.ds,bg]at D9;have D9:cA H9 e (az ds r):=D9;have c4:e.length=(az ds r).length:=Paired.length D9;have dy:=uA ds r;refine⟨_,rfl,f,rfl,⟨_,au.of f9⟩,fun g hg=>?_⟩;refine bD (xs:=e.map V.ref) (fun i l u=>∃ws:List Addr,l=ws.map V.ref/\cA u ws (((az ds r).take i).filter fun d=>!dP d)/\ab H9 u/\u g=some (.lst l)) ⟨[],rfl,.nil,ab.new hg,aa⟩ (fun i l u _ zq=>by obtain⟨_,_,_,S,h'⟩:=zq;exact⟨h',au.of (S _ _ f9)⟩) ?_ ?_;rotate_left
 ·rintro i l u x hx hi ⟨ws,rfl,D,S,g'⟩;obtain⟨t,ht,rfl⟩:=cD hx;obtain⟨dr,A,G⟩:=Paired.getL D9 ht;obtain⟨s,bp,L⟩:=G.kt (ab.kt S);have sg0:=m.w.sg0 dr (bW A);obtain⟨s0,dv,cc⟩:∃a b,dr.sg=a::b:=by
   cases q:dr.sg with
   |nil=>exact absurd q sg0
   |cons a b=>exact⟨a,b,rfl⟩
  have L:u s=some (.tup ((dr.sg).map V.str)):=L;have ia:dP dr=decide (s0=("ask":Str)):=by unfold dP;rw[cc]
  refine gN ⟨_,rfl,.inr (.inl ⟨t,_,1,_,rfl,rfl,br.of bp,rfl,.inr (.inl ⟨s,_,0,.str s0,rfl,rfl,br.of L,by rw[cc];exact cp (j:=0) rfl,rfl,_,rfl,?_⟩)⟩)⟩;have eb:(!decide (V.str s0=V.str "ask"))=!dP dr:=by
   rw[ia];by_cases c:s0=("ask":Str)
   ·rw[zzr1 c,zzr1 (by rw[c])]
   ·rw[zzr0 c,zzr0 (fun z=>c (by injection z))]
  rw[eb];refine kz (fun c=>?_) (fun c=>?_)
  ·refine⟨_,rfl,g',?_,jo hi ⟨ws++[t],by rw[av];rfl,?_,?_,aa⟩⟩
   ·rw[ag,Paired.length D];refine eR (bz (bo _ _) ?_);rw[aM];omega
   ·rw[c6 A,if_pos c];exact Paired.app (D.kt (cU g')) (.cons ((G.kt (ab.kt S)).kt (cU g')) .nil)
   ·intro b o q;rw[am (ae q hg)];exact S _ _ q
  ·refine jo hi ⟨ws,rfl,?_,S,g'⟩;rw[c6 A,if_neg c,cM];exact D
 rintro l M ⟨ws,rfl,cd,c5,da⟩;rw[ag,c4,bg]at cd;refine⟨(by show 0<=aj;decide),fun q hq=>?_⟩;have N:ab M (upd M q (.lst [])):=ab.new hq;have ce:upd M q (.lst []) q=some (.lst []):=aa;generalize upd M q (.lst [])=db at N ce ⊢;have I:=c5.trans N;have dc:=cd.kt (ab.kt N);refine⟨.s (((az ds r).filter fun d=>!dP d).map sB),.s [],(by unfold gV;exact⟨g,_,rfl,au.of (N _ _ da),dc.dIns⟩),(by unfold gV;exact⟨q,_,rfl,au.of ce,by unfold DIns;rfl⟩),(by show DT.depths _+1<=8;have:=kB ((az ds r).filter fun d=>!dP d);omega),(by decide),?_⟩;have eq:decide (DT.s (((az ds r).filter fun d=>!dP d).map sB)=DT.s [])=cY ds r:=by
  rw[Dz];by_cases c:(az ds r).filter (fun d=>!dP d)=[]
  ·rw[zzr1 c,c];rfl
  ·rw[zzr0 c,zzr0 fun z=>c (by injection z with z;exact List.map_eq_nil_iff.mp z)]
 rw[eq];have al:ab H8 db:=S9.trans I;have dd:=I _ _ f9;have ch:=D9.kt (ab.kt I);have an:=MA.same al;obtain⟨ex,es,y1,_,_,_,_,y2,_⟩:=an.mth;refine⟨_,rfl,x,ex,es,rfl,y1,y2,_,rfl,x,r,v,y,n,ds,rfl,an,ca,fun dl dK b0 di dm _ b6=>?_⟩;have dI:∀{a:Addr}{l:Ze},b0 a=some (.lst (l.map V.ref))->cA b0 l (az ds r)->gV K b0 (.s ((az ds r).map sB)) (.ref a):=fun{a l} h1 h2=>by unfold gV;exact⟨a,_,rfl,au.of h1,h2.dIns⟩
 refine⟨_,rfl,.mk _ _ (.s ((az ds r).map sB)) rfl (dI di dm) (dI (b6 _ _ dd) (ch.kt (ab.kt b6))) (by show DT.depths _+1<=4;have:=kB (az ds r);omega) ⟨by rw[ag];omega,Bn fun d hd=>z5 m d (bJ.1 hd).1⟩ fun dT dn=>⟨_,rfl,bv ?_⟩⟩;have ap:=al.trans (b6.trans dn);have as:=MA.same ap;obtain⟨dp,dt,_,_,_,_,_,_,_,_,_,_,_,_,c1,c2,_⟩:=as.at_;refine⟨_,rfl,x,dp,dt,rfl,c1,c2,_,rfl,x,r,v,y,n,ds,rfl,as,?_⟩;have qv:decide (r∈n.filter (cY ds))=cY ds r:=by
  cases q:cY ds r with
  |true=>exact zzr1 (bJ.2 ⟨ca,q⟩)
  |false=>exact zzr0 fun z=>by rw[(bJ.1 z).2]at q;cases q
 rw[qv];exact⟨_,rfl,.bb _ rfl ⟨_,rfl,bv ⟨_,_,_,rfl,bn.trans ap⟩⟩⟩
def Ib{α:Type}(a b c d:α)(k:Nat):α:=[a,b,c].getD k d
theorem Cw:∀{L:List (List Str)},(∀sg∈L,sg.length<=1000)->DT.fews (L.map jF)
 |[],_=>trivial
 |sg::L,h=>⟨⟨by rw[ag];exact h sg dS,i9⟩,Cw fun e a=>h e (fX _ a)⟩
theorem Hz{h i a e:Zb}{j g:List ak}{f k:Zb}:(mayF h i a e j g f k).length<=h.length+a.length+1:=by
 unfold mayF;have l:=bo (sayN i j f) h;have m:=bo (sayN e g k) a;rw[aS,aS,ag,ag];split
 ·show _+1<=_;omega
 ·show _+0<=_;omega
theorem IP{j k e a:Zb}{l g:List ak}{f m i:Zb}(h:i∈mayF j k e a l g f m):i=ba∨∃w,i=aV w:=by
 unfold mayF at h;rcases bx.1 h with h|h
 ·rcases bx.1 h with h|h
  ·obtain⟨w,_,rfl⟩:=aA.1 h;exact .inr ⟨w,rfl⟩
  ·obtain⟨w,_,rfl⟩:=aA.1 h;exact .inr ⟨w,rfl⟩
 ·split at h
  ·exact .inl (cX.1 h)
  ·cases h
structure S69(C:Addr)(H:Hp)(p c t l1 l2 l3 l4 t' l1' l2' l3' l4' ml M N x al:Addr)(ts ts':Ze)(J0 J2 J3 asks' says' rooms':Zb)(ds ds':List ak):Prop where
 pen:ii H p c
 T:iw H t l1 l2 l3 l4 ts J0 J2 J3 ds
 T':iw H t' l1' l2' l3' l4' ts' asks' says' rooms' ds'
 MM:aX C H M J0 J2 J3 ds
 MN:aX C H N asks' says' rooms' ds'
 MX:aX C H x (cz J0 J2 asks' says') (J2++says') (b_ J3 rooms') (mV ds ds' J2 says' J3 rooms' (aF J0 J2 asks' says'))
 hml:H ml=some (.lst [.ref M,.ref N])
 hal:H al=some (.lst ((cz J0 J2 asks' says').map V.str))
structure JU(H:Hp)(ft fs fa fb:Addr)(J3 rooms' f f':Zb):Prop where
 hft:H ft=some (.tup ((fm J3 rooms' f f').map V.str))
 hfs:H fs=some (.tup [.ref fa,.ref fb])
 hfa:H fa=some (.tup (f.map V.str))
 hfb:H fb=some (.tup (f'.map V.str))
theorem JU.kt{H e:Hp}{g fs i j:Addr}{l a f m:Zb}(k:j7 H e)(h:JU H g fs i j l a f m):JU e g fs i j l a f m:=⟨k _ _ h.hft,k _ _ h.hfs,k _ _ h.hfa,k _ _ h.hfb⟩
section
variable{C p c t l1 l2 l3 l4 t' l1' l2' l3' l4' ml M N x al:Addr}{H H':Hp}{ts ts':Ze}{J0 J2 J3 asks' says' rooms':Zb}{ds ds':List ak}
theorem S69.same(S:ab H H')(h:S69 C H p c t l1 l2 l3 l4 t' l1' l2' l3' l4' ml M N x al ts ts' J0 J2 J3 asks' says' rooms' ds ds'):S69 C H' p c t l1 l2 l3 l4 t' l1' l2' l3' l4' ml M N x al ts ts' J0 J2 J3 asks' says' rooms' ds ds' :=
 ⟨h.pen.ex S,h.T.same S,h.T'.same S,h.MM.same S,h.MN.same S,h.MX.same S,S _ _ h.hml,S _ _ h.hal⟩
theorem S69.ex(a:ii H' p c)(ex:eI p H H')(h:S69 C H p c t l1 l2 l3 l4 t' l1' l2' l3' l4' ml M N x al ts ts' J0 J2 J3 asks' says' rooms' ds ds'):S69 C H' p c t l1 l2 l3 l4 t' l1' l2' l3' l4' ml M N x al ts ts' J0 J2 J3 asks' says' rooms' ds ds' :=
 ⟨a,h.T.ex h.pen ex,h.T'.ex h.pen ex,h.MM.ex h.pen ex,h.MN.ex h.pen ex,h.MX.ex h.pen ex,ex _ _ h.hml (h.pen.ne_refs (ts:=[M,N]) h.hml),ex _ _ h.hal (h.pen.ne_strs h.hal)⟩
end
inductive sp_law69(K:Za)(vs:List V)(H:Hp)(Q:VK)(E:XK):Prop
 |mk (a:Addr) (ns:List Int):(vs=[.ref a])->(au K H a (ns.map V.int))->(ns.length<=63)->(∀H',Q (.bl true) H')->sp_law69 K vs H Q E
theorem Fl{K:Za}{C:Addr}{vs:List V}{H:Hp}{Q:VK}{E:XK}(h:sp_law69 K vs H Q E):GS K (o7 C) f8 (sT K) (sS K C) (dA K 4) (fP C) (fN K C) (sR K) (mn K) (eF C) jO (sp_joined C) (kh C) sO (sQ K) (bS Q) (start CP vs) H:=by
 obtain⟨a,ns,rfl,hs,hn,k⟩:=h;refine⟨_,rfl,a,ns,rfl,hs,hn,fun p c H1 _ dp S1=>?_⟩;refine⟨_,rfl,p,c,rfl,dp,fun l t l1 l2 l3 l4 t' v y L O ts U Y J2 z o i g B q H2 eh T2 b1 m m' tk as J r3 dr dt _=>⟨l,_,rfl,au.of eh,rfl,_,_,rfl,_,_,rfl,rfl,?_⟩⟩;clear dp S1;have few:=HE m m' J r3 dr;have MJ:=FQ m m' J few;have z1:=m.says4;have z2:=m'.says4;have z3:=m.asks4;have z4:=m'.asks4;have a4:=J.a4;refine⟨_,rfl,t,l1,l2,l3,l4,ts,Y,J2,z,B,rfl,T2,m,fun M H3 M3 S3=>?_⟩;refine⟨_,rfl,t',v,y,L,O,U,o,i,g,q,rfl,b1.same S3,m',fun N H4 N4 S4=>⟨(by show 2<=aj;decide),fun ml ej=>?_⟩⟩;have S5:ab H4 (upd H4 ml (.lst [.ref M,.ref N])):=ab.new ej;have aC:upd H4 ml (.lst [.ref M,.ref N]) ml=some (.lst [.ref M,.ref N]):=aa;generalize upd H4 ml (.lst [.ref M,.ref N])=H5 at S5 aC ⊢;have cs:=S3.trans (S4.trans S5);refine⟨_,rfl,.inl ⟨ml,_,0,_,rfl,rfl,au.of aC,cp (j:=0) rfl,_,rfl,.inl ⟨ml,_,1,_,rfl,rfl,au.of aC,cp (j:=1) rfl,?_⟩⟩⟩;refine⟨M,N,Y,J2,z,o,i,g,B,q,rfl,M3.same (S4.trans S5),N4.same S5,J,tk,as,few,fun x H6 X6 S6=>?_⟩;have ct:=cs.trans S6;have T6:=T2.same ct;have b2:=b1.same ct;refine⟨_,rfl,.inr (.inl ⟨t,_,0,_,rfl,rfl,br.of T6.t,rfl,_,rfl,.inr (.inl ⟨t,_,1,_,rfl,rfl,br.of T6.t,rfl,_,rfl,.inr (.inl ⟨t',_,0,_,rfl,rfl,br.of b2.t,rfl,_,rfl,.inr (.inl ⟨t',_,1,_,rfl,rfl,br.of b2.t,rfl,(by show 4<=aj;decide),fun sm ek=>?_⟩)⟩)⟩)⟩)⟩;have S7:ab H6 (upd H6 sm (.lst [.ref l1,.ref l2,.ref v,.ref y])):=ab.new ek;have c0:upd H6 sm (.lst [.ref l1,.ref l2,.ref v,.ref y]) sm=some (.lst [.ref l1,.ref l2,.ref v,.ref y]):=aa;show jO [.ref sm] (upd H6 sm (.lst [.ref l1,.ref l2,.ref v,.ref y])) _ _;generalize upd H6 sm (.lst [.ref l1,.ref l2,.ref v,.ref y])=H7 at S7 c0 ⊢;have T7:=T6.same S7;have c1:=b2.same S7;have F:F4 H7 sm (Ib l1 l2 v y) (Ib Y J2 o i):=⟨c0,fun k hk=>by
  rcases k with _|_|_|_|k
  ·exact T7.a1
  ·exact T7.a2
  ·exact c1.a1
  ·exact c1.a2
  ·omega⟩
 refine⟨sm,_,_,rfl,F,fun k hk=>?_,fun al H8 b3 _ S8=>?_⟩
 ·rcases k with _|_|_|_|k
  ·exact z3
  ·exact z1
  ·exact z4
  ·exact z2
  ·omega
 have b3:H8 al=some (.lst ((cz Y J2 o i).map V.str)):=b3;have a5:=S6.trans (S7.trans S8);have b4:=cs.trans a5;have R8:S69 C H8 p c t l1 l2 l3 l4 t' v y L O ml M N x al ts U Y J2 z o i g B q:=⟨dt.ex b4,T2.same b4,b1.same b4,M3.same (S4.trans (S5.trans a5)),N4.same (S5.trans a5),X6.same (S7.trans S8),a5 _ _ aC,b3⟩;clear T2 b1 dt M3 N4 X6 aC S3 S4 S5 cs S6 ct T6 b2 S7 c0 T7 c1 F S8 a5 b4 b3;refine⟨_,rfl,x,_,_,_,_,rfl,R8.MX,fun ft F H9 an hF S9=>?_⟩;rw[uP hF,Bm m m']at an;have R9:=R8.same S9;refine⟨_,rfl,(by show 0<=aj;decide),fun e1 el=>?_⟩;have D:ab H9 (upd H9 e1 (.lst [])):=ab.new el;refine⟨t,e1,l1,l2,l3,l4,ts,[],[],Y,J2,z,B,rfl,R9.T.same D,m,aa,.nil,fun fa c2 b5 ap=>?_⟩;have b5:c2 fa=some (.tup ((closF z B (z.take 1)).map V.str)):=b5;refine⟨_,rfl,(by show 0<=aj;decide),fun e2 em=>?_⟩;have I:ab c2 (upd c2 e2 (.lst [])):=ab.new em;have a6:=D.trans (ap.trans I);refine⟨t',e2,v,y,L,O,U,[],[],o,i,g,q,rfl,R9.T'.same a6,m',aa,.nil,fun fb a7 b6 A=>⟨(by show 2<=aj;decide),fun fs en=>?_⟩⟩;have b6:a7 fb=some (.tup ((closF g q (g.take 1)).map V.str)):=b6;have a8:ab a7 (upd a7 fs (.tup [.ref fa,.ref fb])):=ab.new en;have a9:upd a7 fs (.tup [.ref fa,.ref fb]) fs=some (.tup [.ref fa,.ref fb]):=aa;generalize upd a7 fs (.tup [.ref fa,.ref fb])=dx at a8 a9 ⊢;have bb:=a6.trans (A.trans a8);have b7:=R9.same bb;have dy:JU dx ft fs fa fb z g (closF z B (z.take 1)) (closF g q (g.take 1)):=⟨bb _ _ an,a9,a8 _ _ (A _ _ (I _ _ b5)),a8 _ _ b6⟩;clear R8 R9 S9 D ap I a6 A a8 bb an b5 b6 a9;refine⟨_,rfl,ff b7.pen (by decide) (by decide) fun sn ep s0 s1 ca bi=>⟨_,_,rfl,rfl,_,rfl,by omega,by omega,?_⟩⟩
 let zI:Nat->L2.St->Hp->Prop:=fun j σ H'=>NE6 fun(ft fs fa fb:Addr) (f f':Zb)=>Jj fun(x9 c3 c4 c5:Option V)=>GA (σ=[some (.ref a),some (.ref p),some (.ref t),some (.ref t'),some (.ref ml),some (.ref x),some (.ref al),some (.ref ft),some (.ref fs),x9,c3,c4,c5]) (S69 C H' p c t l1 l2 l3 l4 t' v y L O ml M N x al ts U Y J2 z o i g B q) (JU H' ft fs fa fb z g f f') (ma z B f) (ma g q f')
 have cc:j7 dx ep:=by obtain⟨ys,hy⟩:=b7.pen.lst;exact bi.kt hy
 refine jZ zI ⟨ft,fs,fa,fb,_,_,_,_,_,_,rfl,b7.ex ca bi,dy.kt cc,wa m,wa m'⟩ ?_ ?_;rotate_left
 ·rintro σ G ⟨ft,fs,fa,fb,f,f',x9,c3,c4,c5,rfl,R,CC,F,F'⟩;refine⟨_,rfl,.inl ⟨ml,_,0,_,rfl,rfl,au.of R.hml,cp (j:=0) rfl,_,rfl,M,t,l1,l2,l3,l4,ts,Y,J2,z,B,rfl,R.MM,R.T,fun G2 S2=>⟨_,rfl,bv ?_⟩⟩⟩;have R2:=R.same S2;refine⟨_,rfl,.inl ⟨ml,_,1,_,rfl,rfl,au.of R2.hml,cp (j:=1) rfl,_,rfl,N,t',v,y,L,O,U,o,i,g,q,rfl,R2.MN,R2.T',fun G3 S3=>⟨_,rfl,bv ?_⟩⟩⟩;have an:=(CC.kt (ab.kt (S2.trans S3))).hft;refine⟨_,rfl,.ref ft,"tuple",_,true,rfl,.inl (jf.tup an),rfl,true,rfl,cr ⟨_,rfl,(by show 0<=aj;decide),fun e he=>?_⟩⟩;refine⟨jF (fm z g f f'),jF [],bw (br.of (ab.new he _ _ an)),bw (br.of (xs:=([]:Zb).map V.str) aa),by rw[bZ];decide,by rw[bZ];decide,?_⟩;rw[hE,zzr0 ((lM F.sub F'.sub).2 ⟨F.ne,F'.ne⟩)];exact k _
 clear b7 dy ca bi cc;rintro j σ G hj ⟨ft,fs,fa,fb,f,f',x9,c3,c4,c5,rfl,R,CC,F,F'⟩;have lf:=F.len;have ev:=F'.len;have da:(fm z g f f').length<=1000:=bz DA (bz (nv r3 dr) (by decide));have lm:(mayF J2 z i g B q f f').length<=9:=bz Hz (by omega);refine⟨_,rfl,_,rfl,_,rfl,t,l1,l2,l3,l4,t',v,y,L,O,fs,fa,fb,ts,U,Y,J2,z,o,i,g,f,f',B,q,rfl,R.T,R.T',m,m',CC.hfs,CC.hfa,CC.hfb,by omega,by omega,fun yl us G1 db dc _ S1=>?_⟩;have R1:=R.same S1;have C1:=CC.kt (ab.kt S1);refine⟨_,rfl,_,rfl,x,ft,_,_,_,_,_,rfl,R1.MX,C1.hft,qS,da,fun dl G2 bl _ S2=>?_⟩;rw[Ec m m' J MJ tk as F F']at bl;obtain⟨dv,bl,dI⟩:=bl;have d1:gV K G2 (.s ((mayF J2 z i g B q f f').map jF)) (.ref dl):=by unfold gV;exact⟨dl,_,rfl,au.of bl,dI⟩
 have d2:gV K G2 (.s ((mayF J2 z i g B q f f').map jF)) (.ref yl):=by unfold gV;exact⟨yl,_,rfl,au.of (S2 _ _ db),jc.dIns (jc.kt (ab.kt S2) dc)⟩
 refine⟨_,rfl,.mk _ _ _ rfl d1 d2 (by show DT.depths _+1<=4;have:=Bp (mayF J2 z i g B q f f');omega) ⟨by rw[ag];omega,Cw fun sg dd=>by
  rcases IP dd with rfl|⟨w,rfl⟩
  ·show 1<=1000;decide
  ·show 2<=1000;decide⟩ fun G3 S3=>⟨_,rfl,bv ?_⟩⟩
 have A:=S2.trans S3;have R3:=R1.same A;have C3:=C1.kt (ab.kt A);have cd:=A _ _ db;have ce:=jc.kt (ab.kt A) dc;clear R1 C1 S1 S2 S3 A d1 d2 bl dI db dc R CC;refine⟨_,rfl,_,rfl,x,ft,_,_,_,_,_,rfl,R3.MX,C3.hft,qS,da,fun sl G4 di _ S4=>?_⟩;rw[Di m m' J MJ tk as F F']at di;refine⟨_,rfl,.mk _ _ (.s ((cz Y J2 o i).map cB)) rfl (ie (au.of di)) (ie (au.of (S4 _ _ R3.hal))) (by show DT.depths _+1<=4;rw[dD];decide) ⟨by rw[ag];omega,i9⟩ fun G5 S5=>⟨_,rfl,bv ?_⟩⟩;have bn:=S4.trans S5;have R5:=R3.same bn;have C5:=C3.kt (ab.kt bn);have ch:=bn _ _ cd;have ci:=jc.kt (ab.kt bn) ce;clear R3 C3 S4 S5 bn di cd ce;refine⟨_,rfl,al,rfl,⟨_,au.of R5.hal⟩,fun la er=>?_⟩;refine Br (kd:="ask") R5.hal (by omega) er fun ua G6 h6 dm S6=>?_;have R6:=R5.same S6;have C6:=C5.kt (ab.kt S6);have cl:=S6 _ _ ch;have bp:=jc.kt (ab.kt S6) ci;have lu:=Paired.length bp;have dK:=Paired.length dm;rw[ag]at dK;refine⟨_,rfl,la,yl,_,_,rfl,rfl,h6,cl,by rw[ag,ag];exact cV (ao (by omega)),fun gl es=>?_⟩;have S7:ab G6 (upd G6 gl (.lst (ua.map V.ref++us.map V.ref))):=ab.new es;have g7:upd G6 gl (.lst (ua.map V.ref++us.map V.ref)) gl=some (.lst ((ua++us).map V.ref)):=by rw[aa,av]
 generalize upd G6 gl (.lst (ua.map V.ref++us.map V.ref))=G7 at S7 g7 ⊢;have dT:jc G7 (ua++us) ((cz Y J2 o i).map bm++mayF J2 z i g B q f f'):=jc.kt (ab.kt S7) (Paired.app dm bp);have R7:=R6.same S7;have C7:=C6.kt (ab.kt S7);have a0:=J.a0;have ls:(ua++us).length=(cz Y J2 o i).length+(mayF J2 z i g B q f f').length:=by rw[aS,lu,dK]
 have pa:0<(cz Y J2 o i).length:=wu.2 a0;clear R5 C5 R6 C6 S6 S7 ch cl ci bp h6 dm;refine⟨_,rfl,_,rfl,_,rfl,.inl ⟨gl,_,rfl,.inl (au.of g7),?_⟩⟩;rw[ag];refine ff R7.pen (by omega) (by omega) fun r G8 r0 r1 dV b8=>?_;obtain⟨n,rfl⟩:=j9 r0;have dn:j7 G7 G8:=by obtain⟨ys,hy⟩:=R7.pen.lst;exact b8.kt hy
 obtain⟨u,hu⟩:∃u,(ua++us)[n]?=some u:=⟨_,ik (by omega)⟩;obtain⟨sg,dd,d0⟩:=Paired.getL dT hu;have b0:G8 u=some (.tup (sg.map V.str)):=dn _ _ d0;refine .inl ⟨gl,_,_,.ref u,rfl,rfl,au.of (b8 _ _ g7 (R7.pen.ne_refs g7)),cp (j:=n) (by rw[du,hu];rfl),?_⟩;have R8:=R7.ex dV b8;have C8:=C7.kt dn;obtain⟨sJ,F1,et⟩:=HL m m' J MJ tk as F F' (bW dd);have d3:sg=ba∨∃kd w,sg=[kd,w]:=by
  rcases sJ with⟨w,_,e⟩|⟨w,_,e⟩|e
  ·exact .inr ⟨_,w,e⟩
  ·exact .inr ⟨_,w,e⟩
  ·exact .inl e
 clear R7 C7 dV b8 d0 dn dT g7;refine⟨_,rfl,_,rfl,_,rfl,x,ft,u,_,sg,_,_,_,_,rfl,R8.MX,C8.hft,br.of b0,.inr b0,qS,da,fun eu G9 cm S9=>?_⟩;rw[uS m m' J tk as F.sub F'.sub F.shut F'.shut sJ]at cm;have R9:=R8.same S9;have C9:=C8.kt (ab.kt S9);have co:=S9 _ _ b0;refine⟨_,rfl,_,rfl,.inr (.inl ⟨fs,_,0,_,rfl,rfl,br.of C9.hfs,rfl,_,rfl,t,fa,u,l1,l2,l3,l4,ts,Y,J2,z,f,sg,B,rfl,R9.T,m,C9.hfa,br.of co,d3,by omega,fun d4 ew d5 D=>?_⟩)⟩;have d7:=R9.same D;have d8:=C9.kt (ab.kt D);refine⟨_,rfl,_,rfl,.inr (.inl ⟨fs,_,1,_,rfl,rfl,br.of d8.hfs,rfl,_,rfl,t',fb,u,v,y,L,O,U,o,i,g,f',sg,q,rfl,d7.T',m',d8.hfb,br.of (D _ _ co),d3,by omega,fun d9 ea eb ap=>⟨(by show 2<=aj;decide),fun ec ed=>?_⟩⟩)⟩;have I:ab ea (upd ea ec (.tup [.ref d4,.ref d9])):=ab.new ed;exact⟨eu,ec,d4,d9,_,_,_,_,_,_,rfl,d7.same (ap.trans I),⟨I _ _ (ap _ _ (D _ _ cm)),aa,I _ _ (ap _ _ d5),I _ _ eb⟩,F1,et⟩
def fg(i:Nat):Stmt:=PySem.Challenge.pw_mumtrial_k69_joined_step_by_step.main.body.getD i (.Pass ⟨0,0,0,0⟩)
local macro_rules | `(tactic| walk_at "s")=>`(tactic| exact⟨rfl,rfl,rfl,by decide +kernel,rfl,by decide +kernel,by decide +kernel⟩)
local macro_rules | `(tactic| walk_at "l")=>`(tactic| (intro _ _ _ _ h;first|exact len_h h|exact len_g h|(cases h;subst_vars;rfl)|(obtain⟨_,_,h,_⟩:=h;subst h;rfl)|((repeat obtain⟨_,h⟩:=h);subst_vars;rfl)))
theorem zzlS{e:List Value}{n:Nat}(h:e.length=n+1):∃ a t,e=a::t∧t.length=n:=by
  cases e with
  |nil=>cases h
  |cons a t=>exact⟨a,t,rfl,Nat.succ.inj h⟩
local macro_rules | `(tactic| walk_at "b")=>`(tactic| (intro _ _ _ _ _ _ us hl;(repeat (have h:=zzlS hl;clear hl;obtain⟨_,_,e,hl⟩:=h;subst e));cases List.eq_nil_of_length_eq_zero hl;rfl))
def JP(K:Za)(x qual:Str)(st:Stmt)(f:Addr):Prop:=∃(oc:Value) (od an:Option Addr) (sl:Array (Option Value)) (kV dc pm cd ct:Value),
 K.lookup f=some ⟨oc,od,.func (iV x qual (iK st) (gj st) (cn st) .none kV dc pm an cd ct),sl⟩/\nK K cd qual=true/\jK K (.ref f)=true
theorem Ga{K:Za}{x a:Str}{st:Stmt}{f:Addr}{g:Value}{h i:Option Addr}{j:Array (Option Value)}{kV m n e o:Value}(l:K.lookup f=some ⟨g,h,.func (iV x a (iK st) (gj st) (cn st) .none kV m n i e o),j⟩)
  (c:nK K e a=true) (k:jK K (.ref f)=true):JP K x a st f:=⟨g,h,i,j,kV,m,n,e,o,l,c,k⟩
def gx(K:Za)(x:Str)(st:Stmt):Prop:=∃f,cC K cj x=some (some (.ref f))/\JP K x x st f
theorem fnG_mk{K:Za}{x:Str}{st:Stmt}{f:Addr}{g:Value}{h i:Option Addr}{j:Array (Option Value)}{kV m n e o:Value}(a:cC K cj x=some (some (.ref f)))(l:K.lookup f=some ⟨g,h,.func (iV x x (iK st) (gj st) (cn st) .none kV m n i e o),j⟩)
  (c:nK K e x=true) (k:jK K (.ref f)=true):gx K x st:=⟨f,a,Ga l c k⟩
def Ex(K:Za)(C:Addr)(m qual:Str)(st:Stmt):Prop:=∃f,fh K (.ref C) m=some (some (.ref f))/\yO K (.ref f)=true/\JP K m qual st f
theorem fnM_mk{K:Za}{C:Addr}{m e:Str}{st:Stmt}{f:Addr}{h:Value}{j n:Option Addr}{o:Array (Option Value)}{kV p q g r:Value}(a:fh K (.ref C) m=some (some (.ref f)))(i:yO K (.ref f)=true)
  (l:K.lookup f=some ⟨h,j,.func (iV m e (iK st) (gj st) (cn st) .none kV p q n g r),o⟩) (c:nK K g e=true) (k:jK K (.ref f)=true):Ex K C m e st:=⟨f,a,i,Ga l c k⟩
theorem JP.fun_{K:Za}{x a:Str}{st:Stmt}{f:Addr}(T:JP K x a st f):∃e,Jm K x a st f e:=by
 obtain⟨g,h,i,j,kV,m,n,o,p,l,c,k⟩:=T;exact⟨_,F0 (st:=st) l c k⟩
def Jq:Sp:=fun _ _ _ _=>False
theorem Jy{P:bP}{w:World}{K:Za}{a:Str->Option Value}{base:Heap}{k:Nat}{f:Addr}{e:kN}{g:Zb}:l_ P w K a base CX0 k f e g Jq:=⟨fun _ _ _ _ h=>h.elim,fun _ _ _ _ _ _ _ _ _ _ _ _ _ h=>h.elim⟩
def I_(K:Za)(a:Addr)(ws:Zb):Prop:=∀H,br K H a (ws.map V.str)
theorem B1{K:Za}{a:Addr}{f:Zb}{o:Obj}{e:Array Value}{n:Nat}(l:K.lookup a=some o)(c:o.cls=.type "tuple")(d:o.data=.seq e n)(z:e.size<=aj)(v:bC (f.map V.str) e.toList):I_ K a f :=
 fun _=>.inr ⟨o,e,n,l,c,d,z,v⟩
section
variable{P:bP}{w:World}{K:Za}{mg:Str->Option Value}{base h:Heap}{C:Addr}{x qual:Str}{st:Stmt}{N ps:Zb}{k:Nat}{sp:Sp}
abbrev GC(ps:Zb)(sp:Sp):Prop:=∀vs H Q E,sp vs H Q E->vs.length=ps.length
abbrev BodyOk(CX:Ey)(P:bP)(w:World)(K:Za)(mg:Str->Option Value)(base:Heap)(qual:Str)(st:Stmt)(N:Zb)(k:Nat)(sp:Sp)(nox:Cx->Cx):Prop:=N.Nodup->∀(f:Addr) (cdv:Value) (A:Around) (outer:List Env) (s:Shared) (H:Hp) (vs:List V) (Q:VK) (E:XK),eV k (A.deeper (envOfC qual (cn st) s.heap.objs.size f cdv))->(A.deeper (envOfC qual (cn st) s.heap.objs.size f cdv)).units+16<cLine->sp vs H Q E ->
 ∃t,Ax (nox (Bq CX P w K mg base N qual (cn st) f cdv A outer s H E)) (gj st) t/\t (bS Q) (start N vs) H
abbrev BK(x qual:Str)(st:Stmt)(ps:Zb):Prop:=∀(kV doc pm:Value) (an:Option Addr) (cdv ct:Value) (us:Zf),us.length=ps.length->bindArgs (iV x qual (iK st) (gj st) (cn st) .none kV doc pm an cdv ct) ⟨us,[]⟩=pure (ps.zip us)
theorem dG(X:K.In h)(G:h.Ns cj mg)(T:gx K x st)(b:BodyOk CX0 P w K mg base x st N k sp Cx.nox)(i:BK x x st ps)(S:kF N ps (cn st):=by walk_at "s")(l:GC ps sp:=by walk_at "l"):fW P w K mg base x ps (k+1) sp:=by
 obtain⟨f,a,t⟩:=T;obtain⟨j,F⟩:=t.fun_;exact⟨f,j,F.ok S l fun e A outer s H m Q E g h=>b S.nd f e A outer s H m Q E g (Cu g) h,gD X G a,F.kp,F.binds i⟩
theorem dM(j:Er K C)(T:Ex K C x qual st)(b:BodyOk CX0 P w K mg base qual st N k sp Cx.nox)(m:BK x qual st ps)(S:kF N ps (cn st):=by walk_at "s")(l:GC ps sp:=by walk_at "l"):Ep P w K mg base C x ps (k+1) sp:=by
 obtain⟨f,a,i,t⟩:=T;obtain⟨n,F⟩:=t.fun_;exact⟨f,n,F.ok S l fun e A outer s H o Q E g h=>b S.nd f e A outer s H o Q E g (Cu g) h,j,⟨a,i,F.kp⟩,F.binds m⟩
theorem dN{y:Str}(j:mg y=some (.ref C))(m:yN K C=true)(n:jK K (.ref C)=true)(T:Ex K C "__init__" qual st)(b:BodyOk CX0 P w K mg base qual st N k sp Cx.nox)(o:BK "__init__" qual st ps)(S:kF N ps (cn st):=by walk_at "s")(l:GC ps sp:=by walk_at "l"):New P w K mg base y C ps (k+1) sp:=by
 obtain⟨f,a,i,t⟩:=T;obtain⟨p,F⟩:=t.fun_;exact⟨f,p,F.ok S l fun e A outer s H q Q E g h=>b S.nd f e A outer s H q Q E g (Cu g) h,j,⟨m,a,i,n⟩,F.binds o⟩
end
structure Zs(mg:Str->Option Value):Prop where
 all:mg "all"=none
 any:mg "any"=none
 bool:mg "bool"=none
 dict:mg "dict"=none
 divmod:mg "divmod"=none
 enumerate:mg "enumerate"=none
 int:mg "int"=none
 isinstance:mg "isinstance"=none
 len:mg "len"=none
 list:mg "list"=none
 range:mg "range"=none
 str:mg "str"=none
 tuple:mg "tuple"=none
 zip:mg "zip"=none
structure Cs(K:Za)(mg:Str->Option Value)(C a_STILL a_HUSH:Addr):Prop where
 LETTERS:Gc mg "LETTERS" (.str "abcdefghijklmnopqrstuvwxyz")
 LONGEST_NAME:Gc mg "LONGEST_NAME" (.int 8)
 MOST_WORDS:Gc mg "MOST_WORDS" (.int 4)
 MOST_ROOMS:Gc mg "MOST_ROOMS" (.int 150)
 MOST_DOORS:Gc mg "MOST_DOORS" (.int 2000)
 MOST_JOINED_ROOMS:Gc mg "MOST_JOINED_ROOMS" (.int 10)
 MOST_JOINED_DOORS:Gc mg "MOST_JOINED_DOORS" (.int 40)
 STILL:Gc mg "STILL" (.ref a_STILL)
 HUSH:Gc mg "HUSH" (.ref a_HUSH)
 still:I_ K a_STILL ay
 hush:I_ K a_HUSH ba
 mc:MC K C
 cm:mg "Machine"=some (.ref C)
 makes:yN K C=true
 kc:jK K (.ref C)=true
structure Ts(K:Za)(C:Addr):Prop where
 f_law_spread:gx K "_law_spread" (fg 52)
 f_law_open:gx K "_law_open" (fg 53)
 f_law_take:gx K "_law_take" (fg 55)
 f_law_names:gx K "_law_names" (fg 56)
 f_law_put:gx K "_law_put" (fg 58)
 f_law_draw_doors:gx K "_law_draw_doors" (fg 59)
 f_is_name:gx K "is_name" (fg 20)
 f_as_keys:gx K "as_keys" (fg 22)
 f_first_wrong_name:gx K "first_wrong_name" (fg 23)
 f_door_signs:gx K "door_signs" (fg 24)
 f_first_wrong_door:gx K "first_wrong_door" (fg 25)
 f_goals_by_start_and_sign:gx K "goals_by_start_and_sign" (fg 26)
 f_led_by_still:gx K "led_by_still" (fg 27)
 f_first_led_round:gx K "first_led_round" (fg 28)
 f_need_none:gx K "need_none" (fg 29)
 f_need_parts:gx K "need_parts" (fg 30)
 f_doors_by_start:gx K "doors_by_start" (fg 31)
 f_has_asks_alone:gx K "has_asks_alone" (fg 32)
 f_Machine___init__:Ex K C "__init__" "Machine.__init__" (iJ (fg 33) 0)
 f_law_machine:gx K "_law_machine" (fg 73)
 f_Machine_rooms:Ex K C "rooms" "Machine.rooms" (iJ (fg 33) 3)
 f_Machine_led_from:Ex K C "led_from" "Machine.led_from" (iJ (fg 33) 8)
 f_with_still:gx K "with_still" (fg 7)
 f_Machine_goals:Ex K C "goals" "Machine.goals" (iJ (fg 33) 7)
 f_Machine_is_quiet:Ex K C "is_quiet" "Machine.is_quiet" (iJ (fg 33) 5)
 f_law_still_on:gx K "_law_still_on" (fg 57)
 f_Machine_asks:Ex K C "asks" "Machine.asks" (iJ (fg 33) 1)
 f_Machine_says:Ex K C "says" "Machine.says" (iJ (fg 33) 2)
 f_Machine_doors:Ex K C "doors" "Machine.doors" (iJ (fg 33) 4)
 f_Machine_doors_from:Ex K C "doors_from" "Machine.doors_from" (iJ (fg 33) 6)
 f_first_face:gx K "first_face" (fg 8)
 f_face_behind:gx K "face_behind" (fg 9)
 f_signs_at:gx K "signs_at" (fg 10)
 f_may_come:gx K "may_come" (fg 11)
 f_foreseen:gx K "foreseen" (fg 12)
 f_takes:gx K "takes" (fg 35)
 f_need_all_asks_taken:gx K "need_all_asks_taken" (fg 36)
 f_common:gx K "common" (fg 40)
 f_wires_of:gx K "wires_of" (fg 41)
 f_asks_of_both:gx K "asks_of_both" (fg 42)
 f_is_small:gx K "is_small" (fg 43)
 f_need_join:gx K "need_join" (fg 44)
 f_alone_from:gx K "alone_from" (fg 45)
 f_doors_alone:gx K "doors_alone" (fg 46)
 f_wire_goals:gx K "wire_goals" (fg 47)
 f_doors_together:gx K "doors_together" (fg 48)
 f_pairs_of_rooms:gx K "pairs_of_rooms" (fg 49)
 f_name_of_number:gx K "name_of_number" (fg 21)
 f_joined:gx K "joined" (fg 50)
 f_law_willing:gx K "_law_willing" (fg 60)
 f_law_asks_left:gx K "_law_asks_left" (fg 62)
 f_law_two_words:gx K "_law_two_words" (fg 61)
 f_law_part:gx K "_law_part" (fg 63)
 f_law_two_takers:gx K "_law_two_takers" (fg 64)
 f_law_quiet:gx K "_law_quiet" (fg 69)
 f_law_in_order:gx K "_law_in_order" (fg 70)
 f_law_face_on:gx K "_law_face_on" (fg 71)
 f_law_face_at:gx K "_law_face_at" (fg 72)
 f_law_heard:gx K "_law_heard" (fg 66)
 f_law_beside:gx K "_law_beside" (fg 67)
 f_law_same:gx K "_law_same" (fg 68)
 f_law_may_of_two:gx K "_law_may_of_two" (fg 74)
 f_law_tells:gx K "_law_tells" (fg 75)
 f_law69:gx K "law" (fg 76)
section
variable{P:bP}{w:World}{K:Za}{mg:Str->Option Value}{base h:Heap}{C a_STILL a_HUSH:Addr}
section
variable(P:bP)(w:World)(K:Za)(mg:Str->Option Value)(C a_STILL a_HUSH:Addr)
abbrev kK:Prop:=∀base,fW P w K mg base "_law_spread" ["cell","at"] 1 mi
abbrev u3:Prop:=∀base,fW P w K mg base "_law_open" ["script"] 1 (sQ K)
abbrev fJ:Prop:=∀base,fW P w K mg base "_law_take" ["pen","many"] 2 f8
abbrev jv:Prop:=∀base,fW P w K mg base "_law_names" ["pen","many"] 3 lF
abbrev mL:Prop:=∀base,fW P w K mg base "_law_put" ["doors","door"] 1 qQ
abbrev gZ:Prop:=∀base,fW P w K mg base "_law_draw_doors" ["pen","asks","says","rooms","full"] 3 pe
abbrev rp:Prop:=∀base,fW P w K mg base "is_name" ["text"] 1 sp_is_name
abbrev j6:Prop:=∀base,fW P w K mg base "as_keys" ["things"] 1 (sp_as_keys K)
abbrev fK:Prop:=∀base,fW P w K mg base "first_wrong_name" ["names","most","taken"] 2 (sp_first_wrong_name K)
abbrev kL:Prop:=∀base,fW P w K mg base "door_signs" ["asks","says"] 1 (sp_door_signs K)
abbrev fL:Prop:=∀base,fW P w K mg base "first_wrong_door" ["doors","rooms","signs"] 2 (sp_first_wrong_door K)
abbrev dz:Prop:=∀base,fW P w K mg base "goals_by_start_and_sign" ["doors"] 1 pc
abbrev jd:Prop:=∀base,fW P w K mg base "led_by_still" ["goals","room"] 1 xD
abbrev gu:Prop:=∀base,fW P w K mg base "first_led_round" ["rooms","led"] 1 sp_first_led_round
abbrev ju:Prop:=∀base,fW P w K mg base "need_none" ["part","number"] 1 sp_need_none
abbrev kJ:Prop:=∀base,fW P w K mg base "need_parts" ["asks","says","rooms","doors"] 3 sp_need_parts
abbrev g9:Prop:=∀base,fW P w K mg base "doors_by_start" ["rooms","doors"] 1 sp_doors_by_start
abbrev g6:Prop:=∀base,fW P w K mg base "has_asks_alone" ["doors"] 1 sp_has_asks_alone
abbrev mM:Prop:=∀base,New P w K mg base "Machine" C ["self","asks","says","rooms","doors"] 4 (pb C)
abbrev nh:Prop:=∀base,fW P w K mg base "_law_machine" ["told"] 6 (kh C)
abbrev cw:Prop:=∀base,Ep P w K mg base C "rooms" ["self"] 1 (f_ C)
abbrev ei:Prop:=∀base,Ep P w K mg base C "led_from" ["self","room"] 1 (h_ C)
abbrev iL:Prop:=∀base,fW P w K mg base "with_still" ["M","rooms"] 2 (sp_with_still C)
abbrev eD:Prop:=∀base,Ep P w K mg base C "goals" ["self","room","sign"] 1 (fM C)
abbrev dj:Prop:=∀base,Ep P w K mg base C "is_quiet" ["self","room"] 1 (fO C)
abbrev gq:Prop:=∀base,fW P w K mg base "_law_still_on" ["doors","rooms"] 1 (h9 K)
abbrev cL:Prop:=∀base,Ep P w K mg base C "asks" ["self"] 1 (iD C)
abbrev cJ:Prop:=∀base,Ep P w K mg base C "says" ["self"] 1 (iB C)
abbrev fD:Prop:=∀base,Ep P w K mg base C "doors" ["self"] 1 (pf C)
abbrev cK:Prop:=∀base,Ep P w K mg base C "doors_from" ["self","room"] 1 (eG C)
abbrev p7:Prop:=∀base,fW P w K mg base "first_face" ["M"] 3 (eF C)
abbrev nj:Prop:=∀base,fW P w K mg base "face_behind" ["M","face","sign"] 3 (sS K C)
abbrev kI:Prop:=∀base,fW P w K mg base "signs_at" ["M","face"] 2 (sp_signs_at C)
abbrev u2:Prop:=∀base,fW P w K mg base "may_come" ["M","face"] 3 (fN K C)
abbrev u4:Prop:=∀base,fW P w K mg base "foreseen" ["M","face"] 3 (fP C)
abbrev yL:Prop:=∀base,fW P w K mg base "takes" ["I","room","ask"] 2 (sp_takes C)
abbrev eM:Prop:=∀base,fW P w K mg base "need_all_asks_taken" ["I"] 4 (iC C)
abbrev p8:Prop:=∀base,fW P w K mg base "common" ["words","others"] 1 sp_common
abbrev kG:Prop:=∀base,fW P w K mg base "wires_of" ["M","N"] 2 (lE C)
abbrev gv:Prop:=∀base,fW P w K mg base "asks_of_both" ["M","N"] 3 (lH C)
abbrev oJ:Prop:=∀base,fW P w K mg base "is_small" ["M"] 2 (o8 C)
abbrev md:Prop:=∀base,fW P w K mg base "need_join" ["M","N"] 4 (o9 C)
abbrev kM:Prop:=∀base,fW P w K mg base "alone_from" ["M","room","wires"] 2 (ph C)
abbrev jH:Prop:=∀base,fW P w K mg base "doors_alone" ["M","N","here","wires"] 3 (mr K C)
abbrev kH:Prop:=∀base,fW P w K mg base "wire_goals" ["M","room","word"] 2 (o6 C)
abbrev g8:Prop:=∀base,fW P w K mg base "doors_together" ["M","N","here","wires"] 3 (mq K C)
abbrev gW:Prop:=∀base,fW P w K mg base "pairs_of_rooms" ["M","N"] 2 (mj C)
abbrev gX:Prop:=∀base,fW P w K mg base "name_of_number" ["number"] 1 o_
abbrev Au:Prop:=∀base,fW P w K mg base "joined" ["M","N"] 6 (sp_joined C)
abbrev jG:Prop:=∀base,fW P w K mg base "_law_willing" ["pen","told"] 3 kg
abbrev iz:Prop:=∀base,fW P w K mg base "_law_asks_left" ["some"] 1 jO
abbrev iy:Prop:=∀base,fW P w K mg base "_law_two_words" ["pen","loose"] 4 sN
abbrev oH:Prop:=∀base,fW P w K mg base "_law_part" ["pen","asks","says","most"] 4 sP
abbrev j4:Prop:=∀base,fW P w K mg base "_law_two_takers" ["pen","one","two"] 5 sO
abbrev me:Prop:=∀base,fW P w K mg base "_law_quiet" ["told","room"] 1 mm
abbrev gr:Prop:=∀base,fW P w K mg base "_law_in_order" ["told","some"] 2 zn
abbrev fB:Prop:=∀base,fW P w K mg base "_law_face_on" ["told","face","sign"] 3 (ki K)
abbrev ni:Prop:=∀base,fW P w K mg base "_law_face_at" ["told","story"] 4 (mn K)
abbrev mf:Prop:=∀base,fW P w K mg base "_law_heard" ["told","sign"] 1 (mo K)
abbrev pZ:Prop:=∀base,fW P w K mg base "_law_beside" ["told","face","sign"] 4 (sT K)
abbrev oG:Prop:=∀base,fW P w K mg base "_law_same" ["found","due"] 5 (dA K 4)
abbrev j5:Prop:=∀base,fW P w K mg base "_law_may_of_two" ["first","second","faces"] 4 (sR K)
abbrev rY:Prop:=∀base,fW P w K mg base "_law_tells" ["machine","told"] 6 (o7 C)
end
theorem DC{X:Cx}:PE X (.List [.List [.Constant (.int 0) 0 ⟨305,13,305,14⟩] ⟨305,12,305,15⟩,.List [.Constant (.int 0) 0 ⟨305,18,305,19⟩] ⟨305,17,305,20⟩,.List [.Constant (.int 1) 0 ⟨305,23,305,24⟩] ⟨305,22,305,25⟩,.List [.Constant (.int 1) 0 ⟨305,28,305,29⟩] ⟨305,27,305,30⟩,.List [.Constant (.int 2) 0 ⟨305,33,305,34⟩] ⟨305,32,305,35⟩,.List [.Constant (.int 2) 0 ⟨305,38,305,39⟩] ⟨305,37,305,40⟩,.List [.Constant (.int 3) 0 ⟨305,43,305,44⟩] ⟨305,42,305,45⟩,.List [.Constant (.int 3) 0 ⟨305,48,305,49⟩] ⟨305,47,305,50⟩,.List [.Constant (.int 1) 0 ⟨305,53,305,54⟩,.Constant (.int 2) 0 ⟨305,56,305,57⟩] ⟨305,52,305,58⟩,.List [.Constant (.int 1) 0 ⟨305,61,305,62⟩,.Constant (.int 2) 0 ⟨305,64,305,65⟩] ⟨305,60,305,66⟩,.List [.Constant (.int 0) 0 ⟨305,69,305,70⟩,.Constant (.int 3) 0 ⟨305,72,305,73⟩] ⟨305,68,305,74⟩,.List [.Constant (.int 0) 0 ⟨305,77,305,78⟩,.Constant (.int 3) 0 ⟨305,80,305,81⟩] ⟨305,76,305,82⟩,.List [] ⟨305,84,305,86⟩,.List [.Constant (.int 0) 0 ⟨305,89,305,90⟩,.Constant (.int 2) 0 ⟨305,92,305,93⟩] ⟨305,88,305,94⟩,.List [.Constant (.int 1) 0 ⟨305,97,305,98⟩,.Constant (.int 3) 0 ⟨305,100,305,101⟩] ⟨305,96,305,102⟩] ⟨305,11,305,103⟩) (bF (ar (bF (aB (tC (.int 0)))) (ar (bF (aB (tC (.int 0)))) (ar (bF (aB (tC (.int 1)))) (ar (bF (aB (tC (.int 1)))) (ar (bF (aB (tC (.int 2)))) (ar (bF (aB (tC (.int 2)))) (ar (bF (aB (tC (.int 3)))) (ar (bF (aB (tC (.int 3)))) (ar (bF (aJ (tC (.int 1)) (tC (.int 2)))) (ar (bF (aJ (tC (.int 1)) (tC (.int 2)))) (ar (bF (aJ (tC (.int 0)) (tC (.int 3)))) (ar (bF (aJ (tC (.int 0)) (tC (.int 3)))) (ar (bF aY) (ar (bF (aJ (tC (.int 0)) (tC (.int 2)))) (aB (bF (aJ (tC (.int 1)) (tC (.int 3)))))))))))))))))))):=by
 refine aT ?_;refine ck ?_ ?_
 ·refine aT ?_;refine bc ?_ ?_ ?_
  ·exact ah
  rotate_left
  ·rfl
  exact bd
 refine ck ?_ ?_
 ·refine aT ?_;refine bc ?_ ?_ ?_
  ·exact ah
  rotate_left
  ·rfl
  exact bd
 refine ck ?_ ?_
 ·refine aT ?_;refine bc ?_ ?_ ?_
  ·exact ah
  rotate_left
  ·rfl
  exact bd
 refine ck ?_ ?_
 ·refine aT ?_;refine bc ?_ ?_ ?_
  ·exact ah
  rotate_left
  ·rfl
  exact bd
 refine ck ?_ ?_
 ·refine aT ?_;refine bc ?_ ?_ ?_
  ·exact ah
  rotate_left
  ·rfl
  exact bd
 refine ck ?_ ?_
 ·refine aT ?_;refine bc ?_ ?_ ?_
  ·exact ah
  rotate_left
  ·rfl
  exact bd
 refine ck ?_ ?_
 ·refine aT ?_;refine bc ?_ ?_ ?_
  ·exact ah
  rotate_left
  ·rfl
  exact bd
 refine ck ?_ ?_
 ·refine aT ?_;refine bc ?_ ?_ ?_
  ·exact ah
  rotate_left
  ·rfl
  exact bd
 refine ck ?_ ?_
 ·refine aT ?_;refine bc ?_ ?_ ?_
  ·exact ah
  rotate_left
  ·rfl
  refine bc ?_ ?_ ?_
  ·exact ah
  rotate_left
  ·rfl
  exact bd
 refine ck ?_ ?_
 ·refine aT ?_;refine bc ?_ ?_ ?_
  ·exact ah
  rotate_left
  ·rfl
  refine bc ?_ ?_ ?_
  ·exact ah
  rotate_left
  ·rfl
  exact bd
 refine ck ?_ ?_
 ·refine aT ?_;refine bc ?_ ?_ ?_
  ·exact ah
  rotate_left
  ·rfl
  refine bc ?_ ?_ ?_
  ·exact ah
  rotate_left
  ·rfl
  exact bd
 refine ck ?_ ?_
 ·refine aT ?_;refine bc ?_ ?_ ?_
  ·exact ah
  rotate_left
  ·rfl
  refine bc ?_ ?_ ?_
  ·exact ah
  rotate_left
  ·rfl
  exact bd
 refine ck ?_ ?_
 ·refine aT ?_;exact bd
 refine ck ?_ ?_
 ·refine aT ?_;refine bc ?_ ?_ ?_
  ·exact ah
  rotate_left
  ·rfl
  refine bc ?_ ?_ ?_
  ·exact ah
  rotate_left
  ·rfl
  exact bd
 refine ck ?_ ?_
 ·refine aT ?_;refine bc ?_ ?_ ?_
  ·exact ah
  rotate_left
  ·rfl
  refine bc ?_ ?_ ?_
  ·exact ah
  rotate_left
  ·rfl
  exact bd
 exact bd
theorem DD{X:Cx}:PE X (.List [.List [] ⟨304,12,304,14⟩,.List [] ⟨304,16,304,18⟩,.List [] ⟨304,20,304,22⟩,.List [] ⟨304,24,304,26⟩] ⟨304,11,304,27⟩) (bF (ar (bF aY) (dQ (bF aY) (bF aY) (bF aY)))):=by
 refine aT ?_;refine ck ?_ ?_
 ·refine aT ?_;exact bd
 refine ck ?_ ?_
 ·refine aT ?_;exact bd
 refine ck ?_ ?_
 ·refine aT ?_;exact bd
 refine ck ?_ ?_
 ·refine aT ?_;exact bd
 exact bd
section
variable(X:K.In h)(G:h.Ns cj mg)(z:Zs mg)(c:Cs K mg C a_STILL a_HUSH)(T:Ts K C)
include X G z c T
theorem vg:kK P w K mg:=fun base=>dG X G T.f_law_spread (fun S _ _ _ _ _ _ _ _ _ a e h=>bK (Dj (K:=K) h) (ac (bT (k3 Jx (pv 0) (be FI ah ah)) (af (ax (pv 0))) aR) (ac (qs 2 S (be gL (be dJ (be dJ (be gK (be gL (pv 0) ah) ah) (be gK (pv 1) ah)) ah) ah)) (ac (qs 3 S (be gL (be dJ (be dJ (be gK (pv 2) (pv 2)) (be gK (pv 1) ah)) (be gL (pv 0) ah)) ah)) (ac (qs 4 S (be gL (be dJ (be dJ (be gK (pv 3) (pv 3)) (be gK (pv 2) ah)) ah) ah)) (af (ax (be dJ (be gK (be dJ (be gK (pv 2) ah) (pv 3)) ah) (pv 4))))))))) (by walk_at "b")
theorem zh:u3 P w K mg:=fun base=>dG X G T.f_law_open (fun S _ _ _ _ _ _ _ _ _ a e h=>bK (Hc h) (ac (qs 1 S (qL rfl z.list (a1 (fo kj (pv 0) iF (ga ah))))) (ac (bI bE rfl (mw rfl z.enumerate (a1 (fo kj (pv 0) (ga ah) (ga ah)))) (eL rfl (aE (gn 2 S) (aE (gn 3 S) cZ))) (af (lK (be dJ (xl (pv 1) (be gL (pv 2) ah)) (pv 3)) (xM (pv 1) (be gL (pv 2) ah) pj)))) (af (ax (aT (a3 (pv 1) ah ah))))))) (by walk_at "b")
theorem zc(a:kK P w K mg):fJ P w K mg:=fun base=>dG X G T.f_law_take (fun S _ _ _ _ _ _ _ _ _ e f h=>bK (G_ h) (ac (bT (k3 Cm (xl (pv 0) ah) (pv 1)) (ac (qs 2 S (xl (pv 0) ah)) (ac (qs 3 S ah) (ac (bT (k3 Cm (pv 2) (ql z.len (a1 (xl (pv 0) ah)))) (af (qs 3 S (xl (xl (pv 0) ah) (pv 2)))) (af (bT (k3 uw (ql z.len (a1 (xl (pv 0) ah))) ah) (af (qs 3 S (be gL (xl (xl (pv 0) ah) (be gL (be dJ (be gK (pv 2) ah) ah) (ql z.len (a1 (xl (pv 0) ah))))) (be dJ (be FI ah ah) (pv 2))))) aR))) (ac (lK (be dJ (pv 2) ah) (xM (pv 0) ah pj)) (af (lK (qf e (a base) (a2 (pv 3) (pv 2))) (xM (pv 0) ah pj))))))) aR) (ac (qs 4 S (be gL (xl (pv 0) ah) (pv 1))) (ac (lK (be Cn (xl (pv 0) ah) (pv 1)) (xM (pv 0) ah pj)) (af (ax (pv 4))))))) (by walk_at "b")
theorem xA(a:fJ P w K mg):jv P w K mg:=fun base=>dG X G T.f_law_names (fun S _ _ _ _ _ _ _ _ _ e f h=>bK (Fj h) (ac (qs 2 S bM) (ac (qs 3 S (gb PySem.F.plainAttrs_str PySem.F.slot_str_join PySem.F.type_str_join Hy bM (a1 (qc (iN rfl z.range (a1 ah)) (aI (by decide)) fun _ _ _ _ _ _=>⟨gc 0,cF,xs' (pv 1) (qf e (a base) (a2 (pv 2) ah))⟩)))) (ac (qs 4 S (qf e (a base) (a2 (pv 0) ah))) (ac (qs 5 S (qf e (a base) (a2 (pv 0) ah))) (ac (qs 6 S (qf e (a base) (a2 (pv 0) ah))) (ac (qs 7 S (aT bd)) (ac (bI bE rfl (iN rfl z.range (a1 (pv 1))) (gn 8 S) (ac (qs 9 S (xs' (pv 2) (be gL (be dJ (pv 5) (be gK ah (pv 8))) ah))) (ac (qs 10 S (fo xF (pv 3) iF (ga (be gL (be dJ (pv 6) (be gK (pv 8) (be gL (pv 4) ah))) ah)))) (ac (qs 11 S (xl (aT (a3 ah (ql z.len (a1 (pv 10))) (be Cn (ql z.len (a1 (pv 10))) ah))) (pv 4))) (af (bH (gb eK gC gB cO (pv 7) (a1 (be n5 (be n5 (fo xF (pv 10) iF (ga (pv 11))) (pv 9)) (fo xF (pv 10) (ga (pv 11)) iF)))))))))) (af (ax (pv 7))))))))))) (by walk_at "b")
theorem AN:mL P w K mg:=fun base=>dG X G T.f_law_put (fun S _ _ _ _ _ _ _ _ _ e a h=>bK (IC h) (af (bT (Aw (gJ a) (pv 1) (pv 0)) (af (bH (gb eK gC gB cO (pv 0) (a1 (pv 1))))) aR))) (by walk_at "b")
theorem oW(a:fJ P w K mg)(e:mL P w K mg):gZ P w K mg:=fun base=>dG X G T.f_law_draw_doors (fun S _ _ _ _ _ _ _ _ _ f g h=>bK (Fm h) (ac (qs 5 S (aT bd)) (ac (qs 6 S (qf f (a base) (a2 (pv 0) ah))) (ac (bI bE rfl (mw rfl z.enumerate (a1 (pv 3))) (eL rfl (aE (gn 7 S) (aE (gn 8 S) cZ))) (ac (bI bE rfl (iN rfl z.range (a1 (xl (aT (bc ah (a3 ah ah ah))) (qf f (a base) (a2 (pv 0) ah))))) (gn 9 S) (ac (qs 10 S (aW (a2 bM (xl (pv 2) (qf f (a base) (a2 (pv 0) (ql z.len (a1 (pv 2))))))))) (af (bH (qf f (e base) (a2 (pv 5) (aW (a3 (pv 8) (pv 10) (xl (pv 3) (qf f (a base) (a2 (pv 0) (ql z.len (a1 (pv 3)))))))))))))) (ac (bI bE rfl (aL (pv 1)) (gn 11 S) (af (bI bE rfl (iN rfl z.range (a1 (xl (aT (bc (pv 4) (a3 ah ah ah))) (qf f (a base) (a2 (pv 0) ah))))) (gn 9 S) (af (bH (qf f (e base) (a2 (pv 5) (aW (a3 (pv 8) (aW (a2 bM (pv 11))) (xl (pv 3) (qf f (a base) (a2 (pv 0) (ql z.len (a1 (pv 3))))))))))))))) (ac (qs 12 S (xl (aT (a2 (fo kj (pv 3) (ga (be dJ (pv 7) ah)) iF) (fo kj (pv 3) iF (ga (pv 7))))) (pv 6))) (af (bT (PW.pt (jD (k3 (xP g) (pv 12) (aT bd)) (jm (k3 m9 (qf f (a base) (a2 (pv 0) ah)) ah)))) (af (bH (qf f (e base) (a2 (pv 5) (aW (a3 (pv 8) (aW (a1 bM)) (xq (pv 12) (qf f (a base) (a2 (pv 0) (ql z.len (a1 (pv 12)))))))))))) aR)))))) (af (ax (pv 5))))))) (by walk_at "b")
theorem AO:rp P w K mg:=fun base=>dG X G T.f_is_name (fun S _ _ _ _ _ _ _ _ _ a e h=>bK (AX h) (af (ax (lU (Ev FJ (pv 0) bM) (lU (Ev FK (ql z.len (a1 (pv 0))) (gA rfl c.LONGEST_NAME)) (qT (qB (jr rfl) z.all wo (a1 (qc (IE (pv 0)) (aI (by decide)) fun _ _ _ _ _ _=>⟨gc 0,cF,eci Bb (pv 0) (gA rfl c.LETTERS)⟩))))))))) (by walk_at "b")
theorem AQ:j6 P w K mg:=fun base=>dG X G T.f_as_keys (fun S _ _ _ _ _ _ _ _ _ e a h=>bK (AY h) (ac (qs 1 S pH) (ac (bI bE rfl (aL (pv 0)) (gn 2 S) (af (jn a (pv 1) (pv 2) iZ rfl))) (af (ax (pv 1)))))) (by walk_at "b")
theorem mQ(a:rp P w K mg)(e:j6 P w K mg):fK P w K mg:=fun base=>dG X G T.f_first_wrong_name (fun S _ _ _ _ _ _ _ _ _ f g h=>bK (mS h) (ac (bT (k3 m9 (ql z.len (a1 (pv 0))) ah) (af (ax ah)) aR) (ac (qs 3 S (qf f (e base) (a1 (pv 2)))) (ac (bI bE rfl (mw rfl z.enumerate (a1 (pv 0))) (eL rfl (aE (gn 4 S) (aE (gn 5 S) cZ))) (ac (bT (PW.pt (kT (k3 m9 (pv 4) (pv 1)) (kT (gG (nZ g (pv 5) (pv 3))) (jC (gF (dw (qf f (a base) (a1 (pv 5))))))))) (af (ax (pv 4))) aR) (af (jn g (pv 3) (pv 5) iZ rfl)))) (af (ax xN)))))) (by walk_at "b")
theorem vj:kL P w K mg:=fun base=>dG X G T.f_door_signs (fun S _ _ _ _ _ _ _ _ _ a e h=>bK (vv c.still h) (af (ax (be iq (be iq (qc (aL (pv 0)) (aI (by decide)) fun _ _ _ _ _ _=>⟨gc 0,cF,aW (a2 bM (pv 0))⟩) (qc (aL (pv 1)) (aI (by decide)) fun _ _ _ _ _ _=>⟨gc 0,cF,aW (a2 bM (pv 0))⟩)) (aT (a1 (gA rfl c.STILL))))))) (by walk_at "b")
theorem mR(a:j6 P w K mg):fL P w K mg:=fun base=>dG X G T.f_first_wrong_door (fun S _ _ _ _ _ _ _ _ _ f e h=>bK (mT h) (ac (qs 3 S (qf f (a base) (a1 (pv 1)))) (ac (qs 4 S uu) (ac (bI bE rfl (mw rfl z.enumerate (a1 (pv 0))) (eL rfl (aE (gn 5 S) (aE (gn 6 S) cZ))) (ac (bT (PW.pt (kT (k3 m9 (pv 5) (gA rfl c.MOST_DOORS)) (jC (gG (nZ e (pv 6) (pv 4)))))) (af (ax (pv 5))) aR) (ac (bT (PW.pt (kT (gG (mx e (xq (pv 6) ah) (pv 3))) (kT (Aw (gJ e) (xq (pv 6) ah) (pv 2)) (jC (gG (mx e (xq (pv 6) ah) (pv 3))))))) (af (ax (pv 5))) aR) (af (jn e (pv 4) (pv 6) iZ rfl))))) (af (ax xN)))))) (by walk_at "b")
theorem iW:dz P w K mg:=fun base=>dG X G T.f_goals_by_start_and_sign (fun S _ _ _ _ _ _ _ _ _ e a h=>bK (iX h) (ac (qs 1 S uu) (ac (bI bE rfl (aL (pv 0)) (eL rfl (aE (gn 2 S) (aE (gn 3 S) (aE (gn 4 S) cZ)))) (af (bH (gb eK gC gB cO (gb PySem.F.plainAttrs_dict PySem.F.slot_dict_setdefault PySem.F.type_dict_setdefault (DH a) (pv 1) (a2 (aW (a2 (pv 2) (pv 3))) (aT bd))) (a1 (pv 4)))))) (af (ax (pv 1)))))) (by walk_at "b")
theorem sj:jd P w K mg:=fun base=>dG X G T.f_led_by_still (fun S _ _ _ _ _ _ _ _ _ e a h=>bK (sw c.still h) (ac (qs 2 S pH) (ac (qs 3 S (aT (a1 (pv 1)))) (ac (zH bE (k3 uw (ql z.len (a1 (pv 3))) ah) (ac (qs 4 S (IK eK PySem.F.slot_list_pop PySem.F.type_list_pop IN (pv 3))) (af (bI bE rfl (IF (pI a (pv 0) (aW (a2 (pv 4) (gA rfl c.STILL))) (aW bd) ⟨rfl,rfl,rfl,rfl⟩)) (gn 5 S) (af (bT (gG (mx a (pv 5) (pv 2))) (ac (jn a (pv 2) (pv 5) iZ rfl) (af (bH (gb eK gC gB cO (pv 3) (a1 (pv 5)))))) aR)))))) (af (ax (pv 2))))))) (by walk_at "b")
theorem nV:gu P w K mg:=fun base=>dG X G T.f_first_led_round (fun S _ _ _ _ _ _ _ _ _ e a h=>bK (nX h) (ac (bI bE rfl (mw rfl z.enumerate (a1 (pv 0))) (eL rfl (aE (gn 2 S) (aE (gn 3 S) cZ))) (af (bT (gG (nZ a (pv 3) (pJ a (pv 1) (pv 3) (fun _ _=>rfl)))) (af (ax (pv 2))) aR))) (af (ax xN)))) (by walk_at "b")
theorem xw:ju P w K mg:=fun base=>dG X G T.f_need_none (fun S _ _ _ _ _ _ _ _ _ a e h=>bK (xI (K:=K) h) (af (bT (gG (Hu (pv 1))) (af (jS)) aR))) (by walk_at "b")
theorem vf(a:fK P w K mg)(g:kL P w K mg)(f:fL P w K mg)(e:ju P w K mg):kJ P w K mg:=fun base=>dG X G T.f_need_parts (fun S _ _ _ _ _ _ _ _ _ i j h=>bK (vp (K:=K) h) (ac (bH (qf i (e base) (a2 bM (qf i (a base) (a3 (pv 0) (gA rfl c.MOST_WORDS) (aT bd)))))) (ac (bH (qf i (e base) (a2 bM (qf i (a base) (a3 (pv 1) (gA rfl c.MOST_WORDS) (pv 0)))))) (ac (bH (qf i (e base) (a2 bM (qf i (a base) (a3 (pv 2) (gA rfl c.MOST_ROOMS) (aT bd)))))) (af (bH (qf i (e base) (a2 bM (qf i (f base) (a3 (pv 3) (pv 2) (qf i (g base) (a2 (pv 0) (pv 1))))))))))))) (by walk_at "b")
theorem oZ:g9 P w K mg:=fun base=>dG X G T.f_doors_by_start (fun S _ _ _ _ _ _ _ _ _ e a h=>bK (pB h) (ac (qs 2 S pH) (ac (bI bE rfl (aL (pv 0)) (gn 3 S) (af (jn a (pv 2) (pv 3) (aT bd) rfl))) (ac (bI bE rfl (aL (pv 1)) (gn 4 S) (af (bH (gb eK gC gB cO (pJ a (pv 2) (xq (pv 4) ah) (fun _ _=>rfl)) (a1 (pv 4)))))) (af (ax (pv 2))))))) (by walk_at "b")
theorem oX:g6 P w K mg:=fun base=>dG X G T.f_has_asks_alone (fun S _ _ _ _ _ _ _ _ _ a e h=>bK (pA h) (af (ax (qB (jr rfl) z.all wo (a1 (qc (aL (pv 0)) (aI (by decide)) fun _ _ _ _ _ _=>⟨gc 0,cF,Ev m9 (xq (xq (pv 0) ah) ah) bM⟩)))))) (by walk_at "b")
theorem AR(l:j6 P w K mg)(a:dz P w K mg)(i:jd P w K mg)(e:gu P w K mg)(k:ju P w K mg)(j:kJ P w K mg)(f:g9 P w K mg)(g:g6 P w K mg):mM P w K mg C:=fun base=>dN c.cm c.makes c.kc T.f_Machine___init__ (fun S _ _ _ _ _ _ _ _ _ m n h=>bK (He c.mc h) (ac (bH (qf m (j base) (bc (pv 1) (a3 (pv 2) (pv 3) (pv 4))))) (ac (lI (pv 0) (qL rfl z.list (a1 (pv 1))) rfl) (ac (lI (pv 0) (qL rfl z.list (a1 (pv 2))) rfl) (ac (lI (pv 0) (qL rfl z.list (a1 (pv 3))) rfl) (ac (lI (pv 0) (qL rfl z.list (a1 (pv 4))) rfl) (ac (lI (pv 0) (qf m (f base) (a2 (pv 3) (pv 4))) rfl) (ac (lI (pv 0) (qf m (l base) (a1 (qc (aL (pv 3)) (aI (by decide)) fun _ _ _ _ _ _=>⟨gc 0,dC (dw (qf m (g base) (a1 (pJ n (iY (pv 1) rfl) (pv 0) (fun _ _=>rfl))))),pv 0⟩))) rfl) (ac (lI (pv 0) (qf m (a base) (a1 (pv 4))) rfl) (ac (lI (pv 0) (gH (yo rfl) rfl z.dict uR (a1 (qc (aL (pv 3)) (aI (by decide)) fun _ _ _ _ _ _=>⟨gc 0,cF,aW (a2 (pv 0) (qf m (i base) (a2 (iY (pv 1) rfl) (pv 0))))⟩))) rfl) (af (bH (qf m (k base) (a2 bM (qf m (e base) (a2 (pv 3) (iY (pv 0) rfl))))))))))))))))) (by walk_at "b")
theorem t_(a:mM P w K mg C):nh P w K mg C:=fun base=>dG X G T.f_law_machine (fun S _ _ _ _ _ _ _ _ _ e f h=>bK (AW h) (af (ax (FE (a base) (e.mono (by decide)) rfl (bc (qL rfl z.list (a1 (xq (pv 0) ah))) (a3 (qL rfl z.list (a1 (xq (pv 0) ah))) (qL rfl z.list (a1 (xq (pv 0) ah))) (qL rfl z.list (a1 (xq (pv 0) ah))))))))) (by walk_at "b")
theorem qK:cw P w K mg C:=fun base=>dM c.mc.cls T.f_Machine_rooms (fun S _ _ _ _ _ _ _ _ _ a e h=>bK (Fg c.mc h) (af (ax (qL rfl z.list (a1 (iY (pv 0) rfl)))))) (by walk_at "b")
theorem mO:ei P w K mg C:=fun base=>dM c.mc.cls T.f_Machine_led_from (fun S _ _ _ _ _ _ _ _ _ e a h=>bK (zv c.mc h) (af (ax (qL rfl z.list (a1 (pI a (iY (pv 0) rfl) (pv 1) (aW bd) ⟨rfl,rfl,rfl,rfl⟩)))))) (by walk_at "b")
theorem vd(e:cw P w K mg C)(a:ei P w K mg C):iL P w K mg C:=fun base=>dG X G T.f_with_still (fun S _ _ _ _ _ _ _ _ _ g f h=>bK (vo h) (ac (qs 2 S pH) (ac (bI bE rfl (aL (pv 1)) (gn 3 S) (af (bT (gG (mx f (pv 3) (pv 2))) (ac (jn f (pv 2) (pv 3) iZ rfl) (af (bI bE rfl (aL (qm g (a base) (pv 0) (a1 (pv 3)))) (gn 4 S) (af (jn f (pv 2) (pv 4) iZ rfl))))) aR))) (af (ax (gH hU rfl z.tuple ig (a1 (qc (aL (pD g (e base) (pv 0))) (aI (by decide)) fun _ _ _ _ _ _=>⟨gc 0,dC (gG (nZ f (pv 0) (pv 1))),pv 0⟩)))))))) (by walk_at "b")
theorem qM:eD P w K mg C:=fun base=>dM c.mc.cls T.f_Machine_goals (fun S _ _ _ _ _ _ _ _ _ e a h=>bK (Dn c.mc h) (af (ax (qL rfl z.list (a1 (pI a (iY (pv 0) rfl) (aW (a2 (pv 1) (pv 2))) (aW bd) ⟨rfl,rfl,rfl,rfl⟩)))))) (by walk_at "b")
theorem mP:dj P w K mg C:=fun base=>dM c.mc.cls T.f_Machine_is_quiet (fun S _ _ _ _ _ _ _ _ _ e a h=>bK (zA c.mc h) (af (ax (FH (nZ a (pv 1) (iY (pv 0) rfl)))))) (by walk_at "b")
theorem sk:gq P w K mg:=fun base=>dG X G T.f_law_still_on (fun S _ _ _ _ _ _ _ _ _ e a h=>bK (zo h) (ac (qs 2 S (qL rfl z.list (a1 (pv 1)))) (ac (qs 3 S ah) (ac (zH bE (k3 Cm (pv 3) (ql z.len (a1 (pv 2)))) (ac (bI bE rfl (aL (pv 0)) (eL rfl (aE (gn 4 S) (aE (gn 5 S) (aE (gn 6 S) cZ)))) (af (bT (PW.pt (jD (k3 (fH a) (pv 4) (xq (pv 2) (pv 3))) (jD (k3 (fH a) (pv 5) (aW (a1 bM))) (jm (Aw (gJ a) (pv 6) (pv 2)))))) (af (bH (gb eK gC gB cO (pv 2) (a1 (pv 6))))) aR))) (af (qs 3 S (be dJ (pv 3) ah))))) (af (ax (pv 2))))))) (by walk_at "b")
theorem sf:cL P w K mg C:=fun base=>dM c.mc.cls T.f_Machine_asks (fun S _ _ _ _ _ _ _ _ _ a e h=>bK (Hh c.mc h) (af (ax (qL rfl z.list (a1 (iY (pv 0) rfl)))))) (by walk_at "b")
theorem se:cJ P w K mg C:=fun base=>dM c.mc.cls T.f_Machine_says (fun S _ _ _ _ _ _ _ _ _ a e h=>bK (Ha c.mc h) (af (ax (qL rfl z.list (a1 (iY (pv 0) rfl)))))) (by walk_at "b")
theorem qN:fD P w K mg C:=fun base=>dM c.mc.cls T.f_Machine_doors (fun S _ _ _ _ _ _ _ _ _ a e h=>bK (Fn c.mc h) (af (ax (qL rfl z.list (a1 (iY (pv 0) rfl)))))) (by walk_at "b")
theorem kW:cK P w K mg C:=fun base=>dM c.mc.cls T.f_Machine_doors_from (fun S _ _ _ _ _ _ _ _ _ e a h=>bK (vt c.mc h) (af (ax (qL rfl z.list (a1 (pI a (iY (pv 0) rfl) (pv 1) (aW bd) ⟨rfl,rfl,rfl,rfl⟩)))))) (by walk_at "b")
theorem vi(a:cw P w K mg C)(e:iL P w K mg C):p7 P w K mg C:=fun base=>dG X G T.f_first_face (fun S _ _ _ _ _ _ _ _ _ f g h=>bK (vq h) (af (ax (qf f (e base) (a2 (pv 0) (fo kj (pD f (a base) (pv 0)) iF (ga ah))))))) (by walk_at "b")
theorem ud(f:iL P w K mg C)(e:eD P w K mg C)(a:dj P w K mg C):nj P w K mg C:=fun base=>dG X G T.f_face_behind (fun S _ _ _ _ _ _ _ _ _ g i h=>bK (Hf c.hush h) (ac (bT (k3 (fH i) (pv 2) (gA rfl c.HUSH)) (af (ax (gH hU rfl z.tuple ig (a1 (qc (uq (pv 1)) (aI (by decide)) fun _ _ _ _ _ _=>⟨gc 0,dC (dw (qm g (a base) (pv 1) (a1 (pv 0)))),pv 0⟩))))) aR) (ac (qs 3 S (aT bd)) (ac (bI bE rfl (uq (pv 1)) (gn 4 S) (af (bH (gb eK wm wk mz (pv 3) (a1 (qm g (e base) (pv 0) (a2 (pv 4) (pv 2)))))))) (af (ax (qf g (f base) (a2 (pv 0) (pv 3))))))))) (by walk_at "b")
theorem za(a:cK P w K mg C):kI P w K mg C:=fun base=>dG X G T.f_signs_at (fun S _ _ _ _ _ _ _ _ _ e f h=>bK (zp h) (ac (qs 2 S uu) (ac (bI bE rfl (uq (pv 1)) (gn 3 S) (af (bI bE rfl (aL (qm e (a base) (pv 0) (a1 (pv 3)))) (gn 4 S) (af (jn f (pv 2) (xq (pv 4) ah) iZ rfl))))) (af (ax (pv 2)))))) (by walk_at "b")
theorem zb(a:dj P w K mg C)(e:cJ P w K mg C)(f:kI P w K mg C):u2 P w K mg C:=fun base=>dG X G T.f_may_come (fun S _ _ _ _ _ _ _ _ _ g i h=>bK (zt c.hush h) (ac (qs 2 S (qf g (f base) (a2 (pv 0) (pv 1)))) (ac (Jw 3 S (aL (pD g (e base) (pv 0))) (aI (by decide)) fun _ _ _ _ _ _=>⟨gc 0,dC (gG (nZ i (aW (a2 bM (pv 0))) (pv 1))),aW (a2 bM (pv 0))⟩) (ac (bT (dw (qB (rV rfl) z.any boot_any (a1 (qc (uq (pv 1)) (aI (by decide)) fun _ _ _ _ _ _=>⟨gc 0,cF,qm g (a base) (pv 1) (a1 (pv 0))⟩)))) (af (bH (gb eK gC gB cO (pv 3) (a1 (gA rfl c.HUSH))))) aR) (af (ax (pv 3))))))) (by walk_at "b")
theorem zj(a:cL P w K mg C)(e:kI P w K mg C):u4 P w K mg C:=fun base=>dG X G T.f_foreseen (fun S _ _ _ _ _ _ _ _ _ f g h=>bK (zB h) (ac (qs 2 S (qf f (e base) (a2 (pv 0) (pv 1)))) (af (ax (qc (aL (pD f (a base) (pv 0))) (aI (by decide)) fun _ _ _ _ _ _=>⟨gc 0,dC (gG (nZ g (aW (a2 bM (pv 0))) (pv 1))),pv 0⟩))))) (by walk_at "b")
theorem EV(a:ei P w K mg C)(e:eD P w K mg C):yL P w K mg C:=fun base=>dG X G T.f_takes (fun S _ _ _ _ _ _ _ _ _ f g h=>bK (Fe h) (af (ax (qB (rV rfl) z.any boot_any (a1 (qc (aL (be iq (aT (a1 (pv 1))) (qm f (a base) (pv 0) (a1 (pv 1))))) (aI (by decide)) fun _ _ _ _ _ _=>⟨gc 0,cF,Ev uw (ql z.len (a1 (qm f (e base) (pv 1) (a2 (pv 0) (aW (a2 bM (pv 2))))))) ah⟩)))))) (by walk_at "b")
theorem kf(a:cw P w K mg C)(e:cL P w K mg C)(f:yL P w K mg C):eM P w K mg C:=fun base=>dG X G T.f_need_all_asks_taken (fun S _ _ _ _ _ _ _ _ _ g i h=>bK (xJ h) (af (bI bE rfl (aL (pD g (a base) (pv 0))) (gn 1 S) (af (bI bE rfl (aL (pD g (e base) (pv 0))) (gn 2 S) (af (bT (gF (dw (qf g (f base) (a3 (pv 0) (pv 1) (pv 2))))) (af (jS)) aR))))))) (by walk_at "b")
theorem Df:p8 P w K mg:=fun base=>dG X G T.f_common (fun S _ _ _ _ _ _ _ _ _ e a h=>bK (Du h) (af (ax (qc (aL (pv 0)) (aI (by decide)) fun _ _ _ _ _ _=>⟨gc 0,dC (Aw (ko a) (pv 0) (pv 1)),pv 0⟩)))) (by walk_at "b")
theorem y_(a:cL P w K mg C)(e:cJ P w K mg C)(f:p8 P w K mg):kG P w K mg C:=fun base=>dG X G T.f_wires_of (fun S _ _ _ _ _ _ _ _ _ g i h=>bK (Fb (K:=K) h) (af (ax (be iq (qf g (f base) (a2 (pD g (e base) (pv 0)) (pD g (a base) (pv 1)))) (qf g (f base) (a2 (pD g (e base) (pv 1)) (pD g (a base) (pv 0)))))))) (by walk_at "b")
theorem sr(a:cL P w K mg C)(e:kG P w K mg C):gv P w K mg C:=fun base=>dG X G T.f_asks_of_both (fun S _ _ _ _ _ _ _ _ _ f g h=>bK (Fo h) (ac (qs 2 S (qf f (e base) (a2 (pv 0) (pv 1)))) (af (ax (qc (aL (be iq (pD f (a base) (pv 0)) (pD f (a base) (pv 1)))) (aI (by decide)) fun _ _ _ _ _ _=>⟨gc 0,dC (Aw (gJ g) (pv 0) (pv 1)),pv 0⟩))))) (by walk_at "b")
theorem zi(a:cw P w K mg C)(e:fD P w K mg C):oJ P w K mg C:=fun base=>dG X G T.f_is_small (fun S _ _ _ _ _ _ _ _ _ f g h=>bK (Ff h) (af (ax (lU (Ev FK (ql z.len (a1 (pD f (a base) (pv 0)))) (gA rfl c.MOST_JOINED_ROOMS)) (qT (Ev FK (ql z.len (a1 (pD f (e base) (pv 0)))) (gA rfl c.MOST_JOINED_DOORS))))))) (by walk_at "b")
theorem xx(e:cL P w K mg C)(a:cJ P w K mg C)(i:p8 P w K mg)(f:gv P w K mg C)(g:oJ P w K mg C):md P w K mg C:=fun base=>dG X G T.f_need_join (fun S _ _ _ _ _ _ _ _ _ j k h=>bK (Fi h) (ac (bT (PW.pt (kT (gF (dw (qf j (g base) (a1 (pv 0))))) (jC (gF (dw (qf j (g base) (a1 (pv 1)))))))) (af (jS)) aR) (ac (bT (PW.pt (kT (k3 uw (ql z.len (a1 (qf j (i base) (a2 (pD j (e base) (pv 0)) (pD j (e base) (pv 1)))))) ah) (jC (k3 uw (ql z.len (a1 (qf j (i base) (a2 (pD j (a base) (pv 0)) (pD j (a base) (pv 1)))))) ah)))) (af (jS)) aR) (ac (bT (k3 m9 (ql z.len (a1 (qf j (f base) (a2 (pv 0) (pv 1))))) ah) (af (jS)) aR) (af (bT (PW.pt (kT (k3 uw (ql z.len (a1 (qf j (f base) (a2 (pv 0) (pv 1))))) (gA rfl c.MOST_WORDS)) (jC (k3 uw (ql z.len (a1 (be iq (pD j (a base) (pv 0)) (pD j (a base) (pv 1))))) (gA rfl c.MOST_WORDS))))) (af (jS)) aR)))))) (by walk_at "b")
theorem vk(a:cK P w K mg C):kM P w K mg C:=fun base=>dG X G T.f_alone_from (fun S _ _ _ _ _ _ _ _ _ f e h=>bK (Fq c.still h) (af (ax (qc (aL (qm f (a base) (pv 0) (a1 (pv 1)))) (my (cN (aI (by decide)) bq (cN (aI (by decide)) bq (cN (aI (by decide)) bq (jT) (cP)) (dL bq (cP))) (dL bq (dL bq (cP))))) fun _ _ _ _ _ _=>⟨eL rfl (aE (gc 0) (aE (gc 1) (aE (gc 2) cZ))),dC (PW.pt (kT (k3 (fH e) (pv 1) (gA rfl c.STILL)) (jC (Aw (gJ e) (xt (pv 1) ah) (pv 3))))),aW (a2 (pv 1) (pv 2))⟩)))) (by walk_at "b")
theorem ue(a:kM P w K mg C):jH P w K mg C:=fun base=>dG X G T.f_doors_alone (fun S _ _ _ _ _ _ _ _ _ e f h=>bK (Dt h) (ac (lK (pv 2) (eL rfl (aE (gn 4 S) (aE (gn 5 S) cZ)))) (ac (Jw 6 S (aL (qf e (a base) (a3 (pv 0) (pv 4) (pv 3)))) (my (cN (aI (by decide)) bq (cN (aI (by decide)) bq (jT) (cP)) (dL bq (cP)))) fun _ _ _ _ _ _=>⟨eL rfl (aE (gc 0) (aE (gc 1) cZ)),cF,aW (a3 (pv 2) (pv 0) (aW (a2 (pv 1) (pv 3))))⟩) (af (ax (be iq (pv 6) (qc (aL (qf e (a base) (a3 (pv 1) (pv 5) (pv 3)))) (my (cN (aI (by decide)) bq (cN (aI (by decide)) bq (jT) (cP)) (dL bq (cP)))) fun _ _ _ _ _ _=>⟨eL rfl (aE (gc 0) (aE (gc 1) cZ)),cF,aW (a3 (pv 2) (pv 0) (aW (a2 (pv 3) (pv 1))))⟩))))))) (by walk_at "b")
theorem ve(a:eD P w K mg C)(e:cJ P w K mg C):kH P w K mg C:=fun base=>dG X G T.f_wire_goals (fun S _ _ _ _ _ _ _ _ _ f g h=>bK (Fc h) (af (ax (qm f (a base) (pv 0) (a2 (pv 1) (aW (a2 (FG (Aw (ko g) (pv 2) (pD f (e base) (pv 0))) bM bM) (pv 2)))))))) (by walk_at "b")
theorem oY(a:kH P w K mg C):g8 P w K mg C:=fun base=>dG X G T.f_doors_together (fun S _ _ _ _ _ _ _ _ _ e f h=>bK (Ds h) (ac (qs 4 S (aT bd)) (ac (bI bE rfl (aL (pv 3)) (gn 5 S) (ac (qs 6 S (qf e (a base) (a3 (pv 1) (xt (pv 2) ah) (pv 5)))) (af (bI bE rfl (aL (qf e (a base) (a3 (pv 0) (xt (pv 2) ah) (pv 5)))) (gn 7 S) (af (bH (gb eK wm wk mz (pv 4) (a1 (qc (aL (pv 6)) (aI (by decide)) fun _ _ _ _ _ _=>⟨gc 0,cF,aW (a3 (pv 1) (aW (a2 bM (pv 2))) (aW (a2 (pv 3) (pv 0))))⟩))))))))) (af (ax (pv 4)))))) (by walk_at "b")
theorem oR(a:cw P w K mg C):gW P w K mg C:=fun base=>dG X G T.f_pairs_of_rooms (fun S _ _ _ _ _ _ _ _ _ e f h=>bK (Dm h) (ac (qs 2 S (aT bd)) (ac (bI bE rfl (aL (pD e (a base) (pv 0))) (gn 3 S) (af (bH (gb eK wm wk mz (pv 2) (a1 (qc (aL (pD e (a base) (pv 1))) (aI (by decide)) fun _ _ _ _ _ _=>⟨gc 0,cF,aW (a2 (pv 1) (pv 0))⟩)))))) (af (ax (pv 2)))))) (by walk_at "b")
theorem oS:gX P w K mg:=fun base=>dG X G T.f_name_of_number (fun S _ _ _ _ _ _ _ _ _ a e h=>bK (Fk h) (ac (lK (qB yn z.divmod boot_divmod (a2 (pv 0) (ql z.len (a1 (gA rfl c.LETTERS))))) (eL rfl (aE (gn 1 S) (aE (gn 2 S) cZ)))) (af (ax (be n5 (xs' (gA rfl c.LETTERS) (pv 1)) (xs' (gA rfl c.LETTERS) (pv 2))))))) (by walk_at "b")
theorem De(n:mM P w K mg C)(e:cJ P w K mg C)(a:eM P w K mg C)(m:kG P w K mg C)(j:gv P w K mg C)(l:md P w K mg C)(k:jH P w K mg C)(f:g8 P w K mg C)(g:gW P w K mg C)(i:gX P w K mg):Au P w K mg C:=fun base=>dG X G T.f_joined (fun S _ _ _ _ _ _ _ _ _ o p h=>bK (Dp h) (ac (bH (qf o (l base) (a2 (pv 0) (pv 1)))) (ac (bH (qf o (a base) (a1 (pv 0)))) (ac (bH (qf o (a base) (a1 (pv 1)))) (ac (qs 2 S (qf o (m base) (a2 (pv 0) (pv 1)))) (ac (qs 3 S (gH (vA rfl p) rfl z.dict uR (a1 (qc (mw rfl z.enumerate (a1 (qf o (g base) (a2 (pv 0) (pv 1))))) (my (cN (aI (by decide)) bq (cN (aI (by decide)) bq (jT) (cP)) (dL bq (cP)))) fun _ _ _ _ _ _=>⟨eL rfl (aE (gc 0) (aE (gc 1) cZ)),cF,aW (a2 (pv 1) (qf o (i base) (a1 (pv 0))))⟩)))) (ac (qs 4 S (aT bd)) (ac (bI bE rfl (FD (pv 3)) (gn 5 S) (af (bH (gb eK wm wk mz (pv 4) (a1 (be iq (qf o (k base) (bc (pv 0) (a3 (pv 1) (pv 5) (pv 2)))) (qf o (f base) (bc (pv 0) (a3 (pv 1) (pv 5) (pv 2)))))))))) (ac (Jw 6 S (aL (pv 4)) (my (cN (aI (by decide)) bq (cN (aI (by decide)) bq (cN (aI (by decide)) bq (jT) (cP)) (dL bq (cP))) (dL bq (dL bq (cP))))) fun _ _ _ _ _ _=>⟨eL rfl (aE (gc 0) (aE (gc 1) (aE (gc 2) cZ))),cF,aW (a3 (pJ p (pv 3) (pv 0) (fun _ _=>rfl)) (pv 1) (pJ p (pv 3) (pv 2) (fun _ _=>rfl)))⟩) (af (ax (FE (n base) (o.mono (by decide)) rfl (bc (qf o (j base) (a2 (pv 0) (pv 1))) (a3 (be iq (pD o (e base) (pv 0)) (pD o (e base) (pv 1))) (zK rfl rfl z.list (pv 3)) (pv 6))))))))))))))) (by walk_at "b")
theorem t8(a:fJ P w K mg)(f:mL P w K mg)(e:gq P w K mg):jG P w K mg:=fun base=>dG X G T.f_law_willing (fun S _ _ _ _ _ _ _ _ _ g i h=>bK (AV h) (ac (lK (pv 1) (eL rfl (aE (gn 2 S) (aE (gn 3 S) (aE (gn 4 S) (aE (gn 5 S) cZ)))))) (ac (qs 5 S (qL rfl z.list (a1 (pv 5)))) (ac (bI bE rfl (aL (pv 4)) (gn 6 S) (af (bI bE rfl (aL (pv 2)) (gn 7 S) (ac (qs 8 S (qf g (e base) (a2 (pv 5) (aT (a1 (pv 6)))))) (af (bT (k3 (fH i) (qc (aL (pv 5)) (aI (by decide)) fun _ _ _ _ _ _=>⟨gc 0,dC (PW.pt (jD (Aw (ko i) (xq (pv 0) ah) (pv 1)) (jm (k3 (fH i) (xq (pv 0) ah) (aW (a2 bM (pv 2))))))),pv 0⟩) (aT bd)) (ac (qs 9 S (xl (aT (a2 (pv 6) (xl (pv 4) (qf g (a base) (a2 (pv 0) (ql z.len (a1 (pv 4)))))))) (qf g (a base) (a2 (pv 0) ah)))) (af (bH (qf g (f base) (a2 (pv 5) (aW (a3 (pv 6) (aW (a2 bM (pv 7))) (pv 9)))))))) aR)))))) (af (ax (aW (bc (pv 2) (a3 (pv 3) (pv 4) (pv 5)))))))))) (by walk_at "b")
theorem qP:iz P w K mg:=fun base=>dG X G T.f_law_asks_left (fun S _ _ _ _ _ _ _ _ _ e a h=>bK (Fp h) (ac (qs 1 S (be iq (qc (aL (xl (pv 0) ah)) (aI (by decide)) fun _ _ _ _ _ _=>⟨gc 0,dC (Aw (ko a) (pv 0) (xl (pv 1) ah)),pv 0⟩) (qc (aL (xl (pv 0) ah)) (aI (by decide)) fun _ _ _ _ _ _=>⟨gc 0,dC (Aw (ko a) (pv 0) (xl (pv 1) ah)),pv 0⟩))) (af (ax (qc (aL (be iq (xl (pv 0) ah) (xl (pv 0) ah))) (aI (by decide)) fun _ _ _ _ _ _=>⟨gc 0,dC (Aw (gJ a) (pv 0) (pv 1)),pv 0⟩))))) (by walk_at "b")
theorem qO(f:fJ P w K mg)(e:jv P w K mg)(a:iz P w K mg):iy P w K mg:=fun base=>dG X G T.f_law_two_words (fun S _ _ _ _ _ _ _ _ _ g i h=>bK (GZ h) (by(refine ac (qs 2 S (qf g (e base) (a2 (pv 0) ah))) ?_);(with_reducible refine ac ?_ ?_);(with_reducible refine qsL 3 ?_ ?_ (hi:=?_) (hx:=?_) (hf:=?_));(exact S);(with_reducible exact DD);(rfl);(first|exact Or.inl rfl|exact Or.inr rfl);(first|exact .inl rfl|exact .inr rfl|assumption);(with_reducible refine ac ?_ ?_);(with_reducible refine qsL 4 ?_ ?_ (hi:=?_) (hx:=?_) (hf:=?_));(exact S);(with_reducible exact DC);(rfl);(first|exact Or.inl rfl|exact Or.inr rfl);(first|exact .inl rfl|exact .inr rfl|assumption);(refine ac (bI bE rfl (aL (fo kj (pv 2) iF (ga ah))) (gn 5 S) (af (bI bE rfl (aL (xl (pv 4) (qf g (f base) (a2 (pv 0) (be dJ ah (be gK ah (pv 1))))))) (gn 6 S) (af (bT (k3 Cm (ql z.len (a1 (xl (pv 3) (pv 6)))) (be dJ ah (be gK ah (pv 1)))) (af (bH (gb eK gC gB cO (xl (pv 3) (pv 6)) (a1 (pv 5))))) aR))))) ?_);(refine ac (bI bE rfl (iN rfl z.range (a1 ah)) (gn 6 S) (af (bT (k3 (fH i) (xl (pv 3) (pv 6)) (aT bd)) (af (bH (gb eK gC gB cO (xl (pv 3) (pv 6)) (a1 (xl (pv 2) (be dJ ah (pv 6))))))) aR))) ?_);(refine ac (bT (PW.pt (jD (k3 m9 (pv 1) ah) (jm (k3 (fH i) (qf g (a base) (a1 (pv 3))) (aT bd))))) (af (bH (gb eK gC gB cO (xl (pv 3) ah) (a1 (xl (pv 2) ah))))) aR) ?_);exact(af (ax (pv 3))))) (by walk_at "b")
theorem zg(e:fJ P w K mg)(f:jv P w K mg)(a:gZ P w K mg):oH P w K mg:=fun base=>dG X G T.f_law_part (fun S _ _ _ _ _ _ _ _ _ g i h=>bK (Hb (K:=K) h) (ac (qs 4 S (qf g (f base) (a2 (pv 0) (be dJ ah (qf g (e base) (a2 (pv 0) (pv 3))))))) (ac (qs 5 S (qf g (a base) (bc (pv 0) (bc (pv 1) (a3 (pv 2) (pv 4) (qf g (e base) (a2 (pv 0) ah))))))) (af (ax (aW (bc (pv 1) (a3 (pv 2) (pv 4) (pv 5))))))))) (by walk_at "b")
theorem oT(a:jG P w K mg)(e:iy P w K mg)(f:oH P w K mg):j4 P w K mg:=fun base=>dG X G T.f_law_two_takers (fun S _ _ _ _ _ _ _ _ _ g i h=>bK (G0 h) (ac (qs 3 S (qf g (e base) (a2 (pv 0) ah))) (ac (qs 4 S (qf g (a base) (a2 (pv 0) (qf g (f base) (bc (pv 0) (a3 (xq (pv 3) ah) (xq (pv 3) ah) (pv 1))))))) (ac (qs 5 S (qf g (a base) (a2 (pv 0) (qf g (f base) (bc (pv 0) (a3 (xq (pv 3) ah) (xq (pv 3) ah) (pv 2))))))) (af (ax (aT (a2 (pv 4) (pv 5))))))))) (by walk_at "b")
theorem xz:me P w K mg:=fun base=>dG X G T.f_law_quiet (fun S _ _ _ _ _ _ _ _ _ a e h=>bK (Dl h) (ac (Jw 2 S (aL (xt (pv 0) ah)) (aI (by decide)) fun _ _ _ _ _ _=>⟨gc 0,dC (k3 m9 (xt (pv 0) ah) (pv 1)),pv 0⟩) (af (ax (qB (jr rfl) z.all wo (a1 (qc (aL (pv 2)) (aI (by decide)) fun _ _ _ _ _ _=>⟨gc 0,cF,Ev m9 (xt (xt (pv 0) ah) ah) bM⟩))))))) (by walk_at "b")
theorem so(a:gq P w K mg):gr P w K mg:=fun base=>dG X G T.f_law_in_order (fun S _ _ _ _ _ _ _ _ _ e f h=>bK (Js h) (ac (qs 2 S (qf e (a base) (a2 (xq (pv 0) ah) (pv 1)))) (af (ax (gH hU rfl z.tuple ig (a1 (qc (aL (xq (pv 0) ah)) (aI (by decide)) fun _ _ _ _ _ _=>⟨gc 0,dC (Aw (ko f) (pv 0) (pv 1)),pv 0⟩))))))) (by walk_at "b")
theorem ub(e:me P w K mg)(a:gr P w K mg):fB P w K mg:=fun base=>dG X G T.f_law_face_on (fun S _ _ _ _ _ _ _ _ _ g f h=>bK (Dr h) (ac (bT (k3 (fH f) (pv 2) (aW (a1 bM))) (af (ax (gH hU rfl z.tuple ig (a1 (qc (uq (pv 1)) (aI (by decide)) fun _ _ _ _ _ _=>⟨gc 0,dC (dw (qf g (e base) (a2 (pv 1) (pv 0)))),pv 0⟩))))) aR) (ac (qs 3 S (aT bd)) (ac (bI bE rfl (aL (xt (pv 0) ah)) (eL rfl (aE (gn 4 S) (aE (gn 5 S) (aE (gn 6 S) cZ)))) (af (bT (PW.pt (jD (Aw (ko f) (pv 4) (pv 1)) (jD (k3 (fH f) (pv 5) (pv 2)) (jm (Aw (gJ f) (pv 6) (pv 3)))))) (af (bH (gb eK gC gB cO (pv 3) (a1 (pv 6))))) aR))) (af (ax (qf g (a base) (a2 (pv 0) (pv 3))))))))) (by walk_at "b")
theorem uc(a:gr P w K mg)(e:fB P w K mg):ni P w K mg:=fun base=>dG X G T.f_law_face_at (fun S _ _ _ _ _ _ _ _ _ f g h=>bK (Do h) (ac (qs 2 S (qf f (a base) (a2 (pv 0) (fo IB (xq (pv 0) ah) iF (ga ah))))) (ac (bI bE rfl (aL (pv 1)) (gn 3 S) (af (qs 2 S (qf f (e base) (a3 (pv 0) (pv 2) (pv 3)))))) (af (ax (pv 2)))))) (by walk_at "b")
theorem xB:mf P w K mg:=fun base=>dG X G T.f_law_heard (fun S _ _ _ _ _ _ _ _ _ e a h=>bK (Dq h) (ac (bT (k3 (fH a) (pv 1) (aW (a1 bM))) (af (ax (pv 1))) aR) (ac (bT (Aw (ko a) (xq (pv 1) ah) (xq (pv 0) ah)) (af (ax (aW (a2 bM (xq (pv 1) ah))))) aR) (ac (bT (Aw (ko a) (xq (pv 1) ah) (xq (pv 0) ah)) (af (ax (aW (a2 bM (xq (pv 1) ah))))) aR) (af (ax xN)))))) (by walk_at "b")
theorem vh(a:fB P w K mg)(e:mf P w K mg):pZ P w K mg:=fun base=>dG X G T.f_law_beside (fun S _ _ _ _ _ _ _ _ _ f g h=>bK (Hg (K:=K) h) (ac (qs 3 S (qf f (e base) (a2 (pv 0) (pv 2)))) (ac (bT (gG (A_ (pv 3))) (af (ax (pv 1))) aR) (af (ax (qf f (a base) (a3 (pv 0) (pv 1) (pv 3)))))))) (by walk_at "b")
theorem ze:oG P w K mg:=fun base=>by
  have E0:fW P w K mg base "_law_same" ["found","due"] 0 Jq:=by
   obtain⟨f,a,t⟩:=T.f_law_same;obtain⟨k,F⟩:=t.fun_;exact⟨f,k,Jy,gD X G a,F.kp,F.binds (ps:=["found","due"]) (by walk_at "b")⟩
  have g:∀(n D:Nat) (i:Sp),0<=n->D<=4->(∀m,D=m+1->i=(dA K m))->fW P w K mg base "_law_same" ["found","due"] n i->fW P w K mg base "_law_same" ["found","due"] (n+1) (dA K D):=fun n D i A o p q=>dG X G T.f_law_same (fun S _ _ _ _ _ _ _ _ _ r j h=>bK (Dk (bz o (by decide)) p h) (ac (bT (gG (A_ (pv 1))) (af (ax (FH (A_ (pv 0))))) aR) (ac (bT (dw (qB eA z.isinstance eB (a2 (pv 1) (nY rfl z.bool)))) (af (ax (lU (qB eA z.isinstance eB (a2 (pv 0) (nY rfl z.bool))) (qT (Ev m9 (pv 0) (pv 1)))))) aR) (ac (bT (dw (qB eA z.isinstance eB (a2 (pv 1) (vU rfl z.str)))) (af (ax (lU (qB eA z.isinstance eB (a2 (pv 0) (vU rfl z.str))) (qT (Ev (fH j) (pv 0) (pv 1)))))) aR) (ac (bT (dw (qB eA z.isinstance eB (a2 (pv 1) (vV rfl z.int)))) (af (ax (lU (qB eA z.isinstance eB (a2 (pv 0) (vV rfl z.int))) (lU (II (qB eA z.isinstance eB (a2 (pv 0) (nY rfl z.bool)))) (qT (Ev (fH j) (pv 0) (pv 1))))))) aR) (ac (bT (PW.pt (jD (dw (qB eA z.isinstance eB (a2 (pv 1) (lQ rfl z.tuple)))) (jm (gF (dw (qB eA z.isinstance eB (a2 (pv 0) (lQ rfl z.tuple)))))))) (af (ax iZ)) aR) (ac (bT (PW.pt (jD (dw (qB eA z.isinstance eB (a2 (pv 1) (ur rfl z.list)))) (jm (gF (dw (qB eA z.isinstance eB (a2 (pv 0) (ur rfl z.list)))))))) (af (ax iZ)) aR) (ac (bT (k3 FJ (ql z.len (a1 (pv 0))) (ql z.len (a1 (pv 1)))) (af (ax iZ)) aR) (af (ax (qB (jr rfl) z.all wo (a1 (qc (Hm rfl z.zip (a2 (pv 0) (pv 1))) (my (cN (aI (by decide)) bq (cN (aI (by decide)) bq (jT) (cP)) (dL bq (cP)))) fun _ _ _ _ _ _=>⟨eL rfl (aE (gc 0) (aE (gc 1) cZ)),cF,Ic q r rfl (a2 (pv 0) (pv 1))⟩))))))))))))) (by walk_at "b") (l:=fun B H Q E h=>by rcases h with⟨_,_,_,h,_⟩|⟨_,h,_⟩<;>(rw[h];rfl));have s:=g 0 0 _ (by decide) (by decide) (fun m e=>by cases e) E0;have u:=g 1 1 _ (by decide) (by decide) (fun m e=>by cases e;rfl) s;have v:=g 2 2 _ (by decide) (by decide) (fun m e=>by cases e;rfl) u;have x:=g 3 3 _ (by decide) (by decide) (fun m e=>by cases e;rfl) v;have y:=g 4 4 _ (by decide) (by decide) (fun m e=>by cases e;rfl) x;exact y
theorem oU(a:fB P w K mg):j5 P w K mg:=fun base=>dG X G T.f_law_may_of_two (fun S _ _ _ _ _ _ _ _ _ e f h=>bK (Hd h) (ac (qs 3 S (aT bd)) (ac (bI bE rfl (Hl rfl z.zip (a2 (aT (a2 (pv 0) (pv 1))) (pv 2))) (eL rfl (aE (gn 4 S) (aE (gn 5 S) cZ))) (af (bI bE rfl (aL (xq (pv 4) ah)) (gn 6 S) (af (bT (k3 (xP f) (qf e (a base) (a3 (pv 4) (pv 5) (aW (a2 bM (pv 6))))) (aW bd)) (af (bH (gb eK gC gB cO (pv 3) (a1 (aW (a2 bM (pv 6))))))) aR))))) (ac (bT (PW.pt (jD (k3 (xP f) (qf e (a base) (a3 (pv 0) (xq (pv 2) ah) (aW (a1 bM)))) (aW bd)) (jm (k3 (xP f) (qf e (a base) (a3 (pv 1) (xq (pv 2) ah) (aW (a1 bM)))) (aW bd))))) (af (bH (gb eK gC gB cO (pv 3) (a1 (aW (a1 bM)))))) aR) (af (ax (pv 3))))))) (by walk_at "b")
theorem xy(g:cw P w K mg C)(f:dj P w K mg C)(j:cL P w K mg C)(k:cJ P w K mg C)(i:fD P w K mg C)(a:cK P w K mg C)(e:oG P w K mg):rY P w K mg C:=fun base=>dG X G T.f_law_tells (fun S _ _ _ _ _ _ _ _ _ l m h=>bK (Fd h) (ac (bT (gF (dw (qf l (e base) (a2 (aT (bc (pD l (j base) (pv 0)) (a3 (pD l (k base) (pv 0)) (pD l (g base) (pv 0)) (pD l (i base) (pv 0))))) (qL rfl z.list (a1 (pv 1))))))) (af (ax iZ)) aR) (ac (bI bE rfl (aL (xq (pv 1) ah)) (gn 2 S) (ac (Jw 3 S (aL (xq (pv 1) ah)) (aI (by decide)) fun _ _ _ _ _ _=>⟨gc 0,dC (k3 (fH m) (xq (pv 0) ah) (pv 1)),pv 0⟩) (ac (qs 4 S (Ev (fH m) (qc (aL (pv 3)) (aI (by decide)) fun _ _ _ _ _ _=>⟨gc 0,dC (k3 FJ (xq (xq (pv 0) ah) ah) bM),pv 0⟩) (aT bd))) (af (bT (PW.pt (kT (gF (dw (qf l (e base) (a2 (qm l (a base) (pv 0) (a1 (pv 2))) (pv 3))))) (jC (gF (dw (qf l (e base) (a2 (qm l (f base) (pv 0) (a1 (pv 2))) (pv 4)))))))) (af (ax iZ)) aR))))) (af (ax iZ))))) (by walk_at "b")
end
theorem IS(X:K.In h)(G:h.Ns cj mg)(z:Zs mg)(c:Cs K mg C a_STILL a_HUSH)(T:Ts K C):∃f fd,mg "law"=some (.ref f)/\(∀(s:Shared) (v:Value),tu s fd ⟨[v],[]⟩ [("script",v)])/\∀base:Heap,l_ P w K mg base CX0 7 f fd ["script"] (sp_law69 K):=by
 have b2:kK P w K mg:=vg X G z c T;have ch:u3 P w K mg:=zh X G z c T;have m:fJ P w K mg:=zc X G z c T b2;have U:jv P w K mg:=xA X G z c T m;have bl:mL P w K mg:=AN X G z c T;have Y:gZ P w K mg:=oW X G z c T m bl;have cs:rp P w K mg:=AO X G z c T;have O:j6 P w K mg:=AQ X G z c T;have J:fK P w K mg:=mQ X G z c T cs O;have b3:kL P w K mg:=vj X G z c T;have L:fL P w K mg:=mR X G z c T O;have q:dz P w K mg:=iW X G z c T;have bi:jd P w K mg:=sj X G z c T;have Q:gu P w K mg:=nV X G z c T;have al:ju P w K mg:=xw X G z c T;have b4:kJ P w K mg:=vf X G z c T J b3 L al;have ap:g9 P w K mg:=oZ X G z c T;have as:g6 P w K mg:=oX X G z c T;have bn:mM P w K mg C:=AR X G z c T O q bi Q al b4 ap as;have E:nh P w K mg C:=t_ X G z c T bn;have e:cw P w K mg C:=qK X G z c T;have p:ei P w K mg C:=mO X G z c T;have M:iL P w K mg C:=vd X G z c T e p
 have o:eD P w K mg C:=qM X G z c T;have n:dj P w K mg C:=mP X G z c T;have A:gq P w K mg:=sk X G z c T;have g:cL P w K mg C:=sf X G z c T;have i:cJ P w K mg C:=se X G z c T;have u:fD P w K mg C:=qN X G z c T;have j:cK P w K mg C:=kW X G z c T;have b5:p7 P w K mg C:=vi X G z c T e M;have bp:nj P w K mg C:=ud X G z c T M o n;have a9:kI P w K mg C:=za X G z c T j
 have ci:u2 P w K mg C:=zb X G z c T n i a9;have cl:u4 P w K mg C:=zj X G z c T g a9;have c2:yL P w K mg C:=EV X G z c T p o;have y:eM P w K mg C:=kf X G z c T e g c2;have b8:p8 P w K mg:=Df X G z c T;have bb:kG P w K mg C:=y_ X G z c T g i b8;have B:gv P w K mg C:=sr X G z c T g bb;have cm:oJ P w K mg C:=zi X G z c T e u;have ca:md P w K mg C:=xx X G z c T g i b8 B cm;have b6:kM P w K mg C:=vk X G z c T j
 have b0:jH P w K mg C:=ue X G z c T b6
 have b7:kH P w K mg C:=ve X G z c T o i;have aC:g8 P w K mg C:=oY X G z c T b7;have a0:gW P w K mg C:=oR X G z c T e;have a4:gX P w K mg:=oS X G z c T;have c0:Au P w K mg C:=De X G z c T bn i y bb B ca b0 aC a0 a4;have b1:jG P w K mg:=t8 X G z c T m bl A;have x:iz P w K mg:=qP X G z c T;have a8:iy P w K mg:=qO X G z c T m U x;have co:oH P w K mg:=zg X G z c T m U Y;have a5:j4 P w K mg:=oT X G z c T b1 a8 co;have cc:me P w K mg:=xz X G z c T;have D:gr P w K mg:=so X G z c T A;have r:fB P w K mg:=ub X G z c T cc D;have H:ni P w K mg:=uc X G z c T D r;have ce:mf P w K mg:=xB X G z c T;have N:pZ P w K mg:=vh X G z c T r ce;have I:oG P w K mg:=ze X G z c T;have a6:j5 P w K mg:=oU X G z c T r;have a7:rY P w K mg C:=xy X G z c T e n g i u j I;obtain⟨f,a,t⟩:=T.f_law69;obtain⟨oc,od,an,sl,kV,dc,pm,cd,ct,l,c1,k1⟩:=t;have F:=F0 (st:=(fg 76)) l c1 k1;have sc:kF CP FB (cn (fg 76)):=by walk_at "s"
 have S:=sc.nd;exact⟨f,_,gD X G a,fun s v=>.of_eq rfl,fun base=>F.ok (k:=6) sc (by walk_at "l") (fun _ _ _ _ _ _ _ _ hr h=>by have hu:=Cu hr;exact bK (Fl (C:=C) h) (ac (qs 1 S (qf hr (ch base) (a1 (pv 0)))) (ac (lK (qf hr (a5 base) (a3 (pv 1) ah ah)) (IG rfl (aE (gn 2 S) (aE (gn 3 S) cZ)))) (ac (qs 4 S (aT (a2 (qf hr (E base) (a1 (pv 2))) (qf hr (E base) (a1 (pv 3)))))) (ac (qs 5 S (qf hr (c0 base) (a2 (xq (pv 4) ah) (xq (pv 4) ah)))) (ac (qs 6 S (qf hr (x base) (a1 (aT (bc (xq (pv 2) ah) (a3 (xq (pv 2) ah) (xq (pv 3) ah) (xq (pv 3) ah))))))) (ac (qs 7 S (qf hr (b5 base) (a1 (pv 5)))) (ac (qs 8 S (aW (a2 (qf hr (H base) (a2 (pv 2) (aT bd))) (qf hr (H base) (a2 (pv 3) (aT bd)))))) (ac (bI bE rfl (iN rfl z.range (a1 (be dJ ah (qf hr (m base) (a2 (pv 1) ah))))) (gn 9 S) (ac (qs 10 S (qf hr (a6 base) (a3 (pv 2) (pv 3) (pv 8)))) (ac (bT (PW.pt (kT (gF (dw (qf hr (I base) (a2 (qf hr (ci base) (a2 (pv 5) (pv 7))) (pv 10))))) (jC (gF (dw (qf hr (I base) (a2 (qf hr (cl base) (a2 (pv 5) (pv 7))) (pv 6)))))))) (af (ax iZ)) aR) (ac (qs 11 S (be iq (qc (aL (pv 6)) (aI (by decide)) fun _ _ _ _ _ _=>⟨gc 0,cF,aW (a2 bM (pv 0))⟩) (pv 10))) (ac (qs 12 S (xq (pv 11) (qf hr (m base) (a2 (pv 1) (ql z.len (a1 (pv 11))))))) (ac (qs 7 S (qf hr (bp base) (a3 (pv 5) (pv 7) (pv 12)))) (af (qs 8 S (aW (a2 (qf hr (N base) (a3 (pv 2) (xq (pv 8) ah) (pv 12))) (qf hr (N base) (a3 (pv 3) (xq (pv 8) ah) (pv 12))))))))))))) (ac (bT (PW.pt (kT (gF (dw (qf hr (a7 base) (a2 (xq (pv 4) ah) (pv 2))))) (jC (gF (dw (qf hr (a7 base) (a2 (xq (pv 4) ah) (pv 3)))))))) (af (ax iZ)) aR) (af (ax (lU (qB eA z.isinstance eB (a2 (pv 7) (lQ rfl z.tuple))) (qT (Ev (IL hu) (pv 7) (aW bd))))))))))))))))⟩
theorem all_mk{l:PySem.W.OpenLaw}{fa:Addr}{x:Value}{i:Value}{p:Value}{q:Value}{r:Value}{a:Value}{g:Value}{y:Obj}{A:Array Value}{al:Nat}{M:Obj}{N:Array Value}{a8:Nat}(X:K.In h)(G:h.Ns cj mg)(ca:mg "law"=some (.ref fa))
  (aC:cC K cj "Machine"=some (some (.ref C)))
  (pg:yP K C Str.empty=true)
  (hd:BR K C=true)
  (po:PySem.W.plainOver K C=true)
  (sa:fh K (.ref C) "__setattr__"=some (some (.builtin "object.__setattr__")))
  (mk:yN K C=true)
  (kc:jK K (.ref C)=true)
  (cc:fh K (.ref C) "own_asks"=some none)
  (cd:fh K (.ref C) "own_says"=some none)
  (ce:fh K (.ref C) "own_rooms"=some none)
  (ch:fh K (.ref C) "own_doors"=some none)
  (ci:fh K (.ref C) "leaving"=some none)
  (cl:fh K (.ref C) "quiet"=some none)
  (cm:fh K (.ref C) "sign_goals"=some none)
  (co:fh K (.ref C) "still_led"=some none)
  (b3:cC K cj "all"=some none)
  (b4:cC K cj "any"=some none)
  (a9:cC K cj "bool"=some none)
  (bb:cC K cj "dict"=some none)
  (Y:cC K cj "divmod"=some none)
  (O:cC K cj "enumerate"=some none)
  (b5:cC K cj "int"=some none)
  (B:cC K cj "isinstance"=some none)
  (b6:cC K cj "len"=some none)
  (bi:cC K cj "list"=some none)
  (an:cC K cj "range"=some none)
  (b7:cC K cj "str"=some none)
  (ap:cC K cj "tuple"=some none)
  (b8:cC K cj "zip"=some none)
  (Q:cC K cj "LETTERS"=some (some x))
  (U:RelV (.str "abcdefghijklmnopqrstuvwxyz") x)
  (t:cC K cj "LONGEST_NAME"=some (some i))
  (u:RelV (.int 8) i)
  (D:cC K cj "MOST_WORDS"=some (some p))
  (E:RelV (.int 4) p)
  (H:cC K cj "MOST_ROOMS"=some (some q))
  (I:RelV (.int 150) q)
  (J:cC K cj "MOST_DOORS"=some (some r))
  (L:RelV (.int 2000) r)
  (j:cC K cj "MOST_JOINED_ROOMS"=some (some a))
  (m:RelV (.int 10) a)
  (n:cC K cj "MOST_JOINED_DOORS"=some (some g))
  (o:RelV (.int 40) g)
  (as:cC K cj "STILL"=some (some (.ref a_STILL)))
  (a0:K.lookup a_STILL=some y)
  (a4:y.cls=.type "tuple")
  (a5:y.data=.seq A al)
  (a6:A.size<=aj)
  (a7:bC (ay.map V.str) A.toList)
  (bl:cC K cj "HUSH"=some (some (.ref a_HUSH)))
  (bn:K.lookup a_HUSH=some M)
  (bp:M.cls=.type "tuple")
  (b0:M.data=.seq N a8)
  (b1:N.size<=aj)
  (b2:bC (ba.map V.str) N.toList)
  (T:Ts K C)
 :∃fd:kN,(∀(s:Shared) (v:Value),tu s fd ⟨[v],[]⟩ [("script",v)])/\∀base:Heap,K.In base->base.Ns cj mg->l_ l.prog w K mg base CX0 7 fa fd ["script"] (sp_law69 K):=by
 have z:Zs mg:=⟨fZ X G b3,fZ X G b4,fZ X G a9,fZ X G bb,fZ X G Y,fZ X G O,fZ X G b5,fZ X G B,fZ X G b6,fZ X G bi,fZ X G an,fZ X G b7,fZ X G ap,fZ X G b8⟩;have c:Cs K mg C a_STILL a_HUSH:=⟨⟨_,gD X G Q,U⟩,⟨_,gD X G t,u⟩,⟨_,gD X G D,E⟩,⟨_,gD X G H,I⟩,⟨_,gD X G J,L⟩,⟨_,gD X G j,m⟩,⟨_,gD X G n,o⟩,⟨_,gD X G as,rfl⟩,⟨_,gD X G bl,rfl⟩,B1 a0 a4 a5 a6 a7,B1 bn bp b0 b1 b2,⟨⟨pg,hd,po,sa⟩,cc,cd,ce,ch,ci,cl,cm,co⟩,gD X G aC,mk,kc⟩;obtain⟨f,fd,e,b,k⟩:=IS (P:=l.prog) (w:=w) X G z c T;have e0:=ca.symm.trans e;cases e0;exact⟨fd,b,fun base _ _=>k base⟩
end
end Mum
namespace PySem.W.Fast
def tw18330580417848323398:=0
def tw10382345442042646742:=0
def tw6336514142646054073:=0
def tw9077705200994345851:=0
def tw8468144959787969880:=0
def tw3461652787619464008:=0
def tw4916048842495803858:=0
def tw3493700936036944247:=0
def tw11651551622305126369:=0
def tw12692984141205982606:=0
def tw7782294054723564136:=0
def tw5714414510659059801:=0
def tw7924829335974668098:=0
def tw7378204328605035100:=0
def tw4061875339324604196:=0
def tw1301782536556735972:=0
def tw16759184899195396880:=0
def tw15590293970108974881:=0
def tw5728333371171657522:=0
def tw11968975085079092021:=0
def tw624046147896759562:=0
def tw11172027831350174531:=0
def tw6632428197029966580:=0
def tw17165699597056699602:=0
def tw13008319185186566507:=0
def tw13948230968879994673:=0
def tw9507424401789831076:=0
def tw4282992355939026251:=0
def tw12016868321118603735:=0
def tw12418902515510949000:=0
def tw1229267419776654756:=0
def tw2910462412354577515:=0
def tw8498681708032885188:=0
def tw4406170976210737758:=0
def tw2927822499880843855:=0
def tw17499204055259094562:=0
def tw1728070395333492639:=0
def tw16352187825971822889:=0
def tw8770888680490829008:=0
def tw555502917558959072:=0
def tw2689564478057914131:=0
def tw2387592673181091846:=0
def tw3311020279207101792:=0
def tw17275776026783889243:=0
def tw218243084526064933:=0
def tw12510405350080340158:=0
def tw8833873939556203540:=0
def tw9348223144262974120:=0
def tw8828258024671847434:=0
def tw1779157023663100888:=0
def tw1263010769290249791:=0
def tw16842530075236770281:=0
def tw3354085926214789859:=0
def tw13851724153974050846:=0
def tw4690983696421603683:=0
def tw11572066426357013643:=0
def tw11869820093029675200:=0
def tw11833277575756362571:=0
def tw16874952843126790804:=0
def tw16055858136655776913:=0
def tw10311451709374467870:=0
def tw5965562229328471797:=0
def tw12646115737214194580:=0
def tw15487167755392851871:=0
def tw16649149586783929257:=0
def tw12926026795222112492:=0
def tw9809594166405145334:=0
def tw10837184779461244209:=0
def tw12459763924948037709:=0
def tw3247088365745738585:=0
def tw4303853895000029209:=0
def tw8435335540820801572:=0
def tw14260010889912622039:=0
def tw11436092145140593123:=0
def tw6747951816618967:=0
def tw8763937683556336642:=0
def tw8066851872360788517:=0
def tw4314457675783862167:=0
def tw14063696006844345949:=0
def tw2422623047820738250:=0
def tw1073541630619130336:=0
def tw1499087677309564010:=0
def tw8848596195473246245:=0
def tw2499810273945735388:=0
def tw14931586623427335566:=0
def tw9871906184153354216:=0
def tw14969097505814514325:=0
def tw15974665053588796348:=0
def tw8195575606108586107:=0
def tw1166071874920194243:=0
def tw3063957388748507170:=0
def tw13442866071089293546:=0
def tw15079834840961518191:=0
def tw4309163478116763191:=0
def tw8315328003534601523:=0
def tw373239041255549208:=0
def tw5707881384944984819:=0
def tw15128531481034176328:=0
def tw5011551815880565880:=0
def tw17892517168987198614:=0
def tw3902692717022303884:=0
def tw1354446996843211104:=0
def tw12899151384195438801:=0
def tw11183615534099659038:=0
def tw3453365372188639507:=0
def tw16219048547636432066:=0
def tw1902287867267852322:=0
def tw10928616581580730328:=0
def tw17865586786750045434:=0
def tw17388034791192960103:=0
def tw4871738004946720137:=0
def tw14379145051162873805:=0
def tw11481403556300842593:=0
def tw10413258235849226973:=0
def tw16504512739150205886:=0
def tw5612916709361053109:=0
def tw15384866132267894037:=0
def tw16603173264308225593:=0
def tw7406983778845355115:=0
def tw2837327791824409008:=0
def tw13909082229063975090:=0
def tw12817136941487404466:=0
def tw17887977396799795006:=0
def tw13717177583510965588:=0
def tw17825671016280162157:=0
def tw11947023515299634942:=0
def tw14532118852297418772:=0
def tw11475914864404885274:=0
def tw10514286356850891251:=0
def tw2574314740164034403:=0
def tw11289987844599308474:=0
def tw14189637657738960486:=0
def tw1582320546822870578:=0
def tw7258833093064475011:=0
def tw8111519134179919383:=0
def tw4145201052308234518:=0
def tw9330673113196367575:=0
def tw8036120219171619272:=0
def tw17972554146979190548:=0
def tw7071434899992836170:=0
def tw15033996573802306598:=0
def tw4412874970152080700:=0
def tw14122368697252100617:=0
def tw346744412435546693:=0
def tw17117865524630899798:=0
def tw14062206581628084690:=0
def tw13841273298114049719:=0
def tw15489216375105145375:=0
def tw13574463432699564561:=0
def tw11248207638040258282:=0
def tw8553825568454659031:=0
def tw18014958599243043419:=0
def tw8399835518960333421:=0
def tw558903972098775159:=0
def tw14945188786808684518:=0
def tw4761904692982229205:=0
def tw10695324240885036929:=0
def tw2326688953195616886:=0
def tw12559467301439713244:=0
def tw4515076991203917754:=0
def tw4412302053254078807:=0
def tw1204917147190516512:=0
def tw9133386274036771866:=0
def tw2924936323225810466:=0
def tw15956647753653843384:=0
def tw9179183543610528804:=0
def tw11793320393087579275:=0
def tw17221706143594117040:=0
def tw3387844990538381414:=0
def tw5038545745108425475:=0
def tw16621355329420555031:=0
def tw13748857319217719386:=0
def tw3923515634421102704:=0
def tw15560745059137231738:=0
def tw18384208237147745538:=0
def tw7816373722177829396:=0
def tw16285528524427347789:=0
def tw5285036731388935298:=0
def tw10872245453662770523:=0
def tw4081739634468013878:=0
def tw16088643967967057193:=0
def tw6557210277916672547:=0
def tw6531369755877402603:=0
def tw9339304341269452429:=0
def tw2027816239099331658:=0
def tw12301843785878719656:=0
def tw13360357079540844075:=0
def tw9843432363394502939:=0
def tw2333171189828962845:=0
def tw16719607230248136877:=0
def tw1020084009491718682:=0
def tw10465570274839876325:=0
def tw15967661258944175220:=0
def tw15350246521116306405:=0
def tw3786360042100668651:=0
def tw15598778376766637094:=0
def tw6173323487609332581:=0
def tw6931048361717465025:=0
def tw1740005285593971479:=0
def tw4250568718838541954:=0
def tw6335064252792875888:=0
def tw5921924535638704221:=0
def tw1344489407748251910:=0
def tw6747067719309229035:=0
def tw10049014986830055785:=0
def tw981853263744454507:=0
def tw15662579980754312841:=0
def tw292585371254715281:=0
def tw15463413160107476395:=0
def tw3427494418525313048:=0
def tw1744795107596079769:=0
def tw4088926880750059635:=0
def tw16563232885634490423:=0
def tw2616367339444360831:=0
def tw8305485255181343582:=0
def tw4121343314870513642:=0
def tw4979739009672983995:=0
def tw12841097126473134701:=0
def tw2038658645352709174:=0
def tw13720374978637464961:=0
def tw15607566765262917482:=0
def tw5400963447849851715:=0
def tw8498895163117386758:=0
def tw17932355404519828445:=0
def tw2785378629895889782:=0
def tw17683660282256857515:=0
def tw7450872215790178938:=0
def tw13482656175555498017:=0
def tw17426289533562296690:=0
def tw13276763568885027574:=0
def tw11083983687515284022:=0
def tw2474942603619657680:=0
def tw16913041983360526328:=0
def tw12454897619586644052:=0
def tw473807911115935867:=0
def tw15883089703718298009:=0
def tw13688926995339217406:=0
def tw8715372740613586499:=0
def tw11415883680467317143:=0
def tw4889741277401198930:=0
def tw17210761827749881763:=0
def tw1109211956128212395:=0
def tw471931572230147132:=0
def tw5563084663877024908:=0
def tw2877959467523908951:=0
def tw12972263394540560193:=0
def tw1180704869144209187:=0
def tw8513917656171239254:=0
def tw12561374276381333796:=0
def tw985139261861891599:=0
def tw9935618423285493134:=0
def tw13070698230826160085:=0
def tw32736225657231813:=0
def tw3288916322988940189:=0
def tw3442829418027910197:=0
def tw3975322889347328467:=0
def tw17264548874376543459:=0
def tw15446029148544236615:=0
def tw5871878483847446403:=0
def tw2978228283364487382:=0
def tw13901163227473949485:=0
def tw835326491674834483:=0
def tw6369027506135506518:=0
def tw16496708991743914611:=0
def tw16424528407475002173:=0
def tw2100887569001722262:=0
def tw10794643985201348475:=0
def tw8084241684815694255:=0
def tw11252483146198040443:=0
def tw12969209675592790585:=0
def tw15473297659406441961:=0
def tw1834536406753233475:=0
def tw13519387578681177652:=0
def tw6861865088967967785:=0
def tw18258188823878336553:=0
def tw11000940396227288390:=0
def tw15599166278033096139:=0
def tw2455309336005997319:=0
def tw4343888122693718820:=0
def tw11174066706576063465:=0
def tw3365452279823927928:=0
def tw11183522478070833762:=0
def tw14186823340399206343:=0
def tw18142965315173338685:=0
def tw2237288552733536350:=0
def tw7338737821044177439:=0
def tw15045435375572113314:=0
def tw1052409302844484440:=0
def tw11630332357984802718:=0
def tw2058543598248561077:=0
def tw5358942446844065794:=0
def tw17728535355812894525:=0
def tw14628875331796568543:=0
def tw8311791006800219235:=0
def tw1979245012583120580:=0
def tw9332729161335864499:=0
def tw1718962752864500560:=0
def tw4068013515633350557:=0
def tw12779670088955619092:=0
def tw4255065199000588310:=0
def tw4847212218690228317:=0
def tw12500204407667633781:=0
def tw7468321073808679029:=0
def tw15131291655833029138:=0
def tw4820683505514897653:=0
def tw51632431232804050:=0
def tw5417406526622826416:=0
def tw3518863135394259968:=0
def tw10468217748319881202:=0
def tw13371078514704843478:=0
def tw17668623091613646668:=0
def tw9505778709814173966:=0
def tw17901816584336345372:=0
def tw10889450963564141153:=0
def tw4204454180695856573:=0
def tw10851196387862535094:=0
def tw11223373526766957709:=0
def tw3203679345958639117:=0
def tw12217575541601782382:=0
def tw3980641806757690297:=0
def tw2594475115951062859:=0
def tw18413879383764351248:=0
def tw16668182146944273797:=0
def tw8955557855873381226:=0
def tw1306973752468778032:=0
def tw467497489477016922:=0
def tw1041480240491919003:=0
def tw8231551474119076115:=0
def tw17740188744850887453:=0
def tw10869137491904401052:=0
def tw406973031681969514:=0
def tw14460958013433547975:=0
def tw11595402995539777422:=0
def tw7779981817142732856:=0
def tw4442850346550468893:=0
def tw16385507483033895714:=0
def tw1477628459273063430:=0
def tw6651479654730663790:=0
def tw2408618211008813348:=0
def tw2992545162975894987:=0
def tw9756824190649361426:=0
def tw1533189251512150424:=0
def tw18202959535542358108:=0
def tw15033736247835179677:=0
def tw3362170246836945097:=0
def tw16371504055388629792:=0
def tw7588658085015187300:=0
def tw16499752992416718994:=0
def tw10211749938946863573:=0
def tw4772994817475123699:=0
def tw13210362956069018312:=0
def tw7221782381705378442:=0
def tw3758125096331216138:=0
def tw4793316552604823274:=0
def tw12164804765075873256:=0
def tw15385309289948419414:=0
def tw1497742664505796003:=0
def tw6690494763152727644:=0
def tw13544788472291486647:=0
def tw8805614650765634247:=0
def tw18402675905626958040:=0
def tw13831776123379973199:=0
def tw10144066185151897739:=0
def tw3630236723302292054:=0
def tw15808033822368934659:=0
def tw104756278875214051:=0
def tw6436394077165696711:=0
def tw945953421716259327:=0
def tw12493143336130938093:=0
def tw12588628230081996779:=0
def tw6955152523955913145:=0
def tw3001783564167093017:=0
def tw8422785203036410709:=0
def tw2301669869425697176:=0
def tw15870885332361134557:=0
def tw15132677160197571856:=0
def tw14628705358216688984:=0
def tw7743545028430445095:=0
def tw14873938024449249202:=0
def tw7310544821532484622:=0
def tw9330431904053194734:=0
def tw4566359015352710:=0
def tw567500539326772483:=0
def tw1227995637297759872:=0
def tw10976100881406066196:=0
def tw13659199982450188712:=0
def tw2886917349900115435:=0
def tw3480973488469489821:=0
def tw4652304594691136465:=0
def tw6082811592993669491:=0
def tw6452501557215558539:=0
def tw9306434394440094863:=0
def tw15069235514127320356:=0
def tw3067082180943334621:=0
def tw125089529614902652:=0
def tw695180904082943891:=0
def tw9650680887155524869:=0
def tw6496428017226350844:=0
def tw13289211032206037844:=0
def tw16774299609235215722:=0
end PySem.W.Fast
open PySem PySem.W PyProof.Rows
set_option maxRecDepth 100000 in
set_option maxHeartbeats 0 in
theorem PySem.Challenge.cw_mumtrial_k69_joined_step_by_step_holds : PySem.Challenge.rw_mumtrial_k69_joined_step_by_step.Holds := by
 w_on;o_law;k_head;(case hw=>w_witness2)
 k_fill
 refine L2.walk_ofK (l:=PySem.Challenge.rw_mumtrial_k69_joined_step_by_step) (n:=63) (k:=7) (x:="script") (CX:=L2.CX0) (sp:=Mum.sp_law69) rfl (by decide) rfl ⟨rfl,by decide,by decide⟩ (fun w h Y=>PySem.W.kIn_of Y) ?F (fun _ _ a ns hl _ hS=>⟨a,ns,rfl,hS,hl,fun _=>rfl⟩) (fun _ _ _ _ z=>z)
 case F =>
  intro w mg fa h KX G hmg;refine' Mum.all_mk KX G hmg ?aC ?pg ?hd ?po ?sa ?mk ?kc ?na1 ?na2 ?na3 ?na4 ?na5 ?na6 ?na7 ?na8 ?z_all ?z_any ?z_bool ?z_dict ?z_divmod ?z_enumerate ?z_int ?z_isinstance ?z_len ?z_list ?z_range ?z_str ?z_tuple ?z_zip ?g_LETTERS ?r_LETTERS ?g_LONGEST_NAME ?r_LONGEST_NAME ?g_MOST_WORDS ?r_MOST_WORDS ?g_MOST_ROOMS ?r_MOST_ROOMS ?g_MOST_DOORS ?r_MOST_DOORS ?g_MOST_JOINED_ROOMS ?r_MOST_JOINED_ROOMS ?g_MOST_JOINED_DOORS ?r_MOST_JOINED_DOORS ?g_STILL ?l_STILL ?c_STILL ?d_STILL ?s_STILL ?v_STILL ?g_HUSH ?l_HUSH ?c_HUSH ?d_HUSH ?s_HUSH ?v_HUSH ?T
  (case aC|pg|hd|po|sa|mk|kc|na1|na2|na3|na4|na5|na6|na7|na8|z_all|z_any|z_bool|z_dict|z_divmod|z_enumerate|z_int|z_isinstance|z_len|z_list|z_range|z_str|z_tuple|z_zip|g_LETTERS=>k_is)
  (case r_LETTERS=>exact⟨_,rfl⟩)
  (case g_LONGEST_NAME=>k_is)
  (case r_LONGEST_NAME=>exact⟨_,rfl⟩)
  (case g_MOST_WORDS=>k_is)
  (case r_MOST_WORDS=>exact⟨_,rfl⟩)
  (case g_MOST_ROOMS=>k_is)
  (case r_MOST_ROOMS=>exact⟨_,rfl⟩)
  (case g_MOST_DOORS=>k_is)
  (case r_MOST_DOORS=>exact⟨_,rfl⟩)
  (case g_MOST_JOINED_ROOMS=>k_is)
  (case r_MOST_JOINED_ROOMS=>exact⟨_,rfl⟩)
  (case g_MOST_JOINED_DOORS=>k_is)
  (case r_MOST_JOINED_DOORS=>exact⟨_,rfl⟩)
  (case g_STILL|l_STILL=>k_is)
  (case c_STILL|d_STILL=>rfl)
  (case s_STILL=>decide)
  (case v_STILL=>exact .cons ⟨_,rfl⟩ .nil)
  (case g_HUSH|l_HUSH=>k_is)
  (case c_HUSH|d_HUSH=>rfl)
  (case s_HUSH=>decide)
  (case v_HUSH=>exact .cons ⟨_,rfl⟩ .nil)
  (case T=>constructor<;>first|(refine' Mum.fnG_mk ?a ?l ?c ?k;(case a=>k_is);(case l=>k_is);(case c=>k_is);(case k=>k_is))|(refine' Mum.fnM_mk ?a ?i ?l ?c ?k;(case a=>k_is);(case i=>k_is);(case l=>k_is);(case c=>k_is);(case k=>k_is)))
