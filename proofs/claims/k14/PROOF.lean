
import PyProof.Rows.All
import Wide.All
import OpenK.AllK
import Wide.FinOn
import Lean
import PyProof.EqAt
import PyProof.EqKinds
import PyProof.TupleCall
import PyProof.NeKinds
import PyProof.RaisesMany
import PyProof.RulesAs
import PyProof.NsDelKeeps
import PyProof.InstStoreFacts
import PyProof.ExcClass3
import PyProof.ExcInit
import KE.KTryMore
import PyProof.AutoSeq1
import PyProof.WalkInts
import PyProof.DictIter
import PyProof.DictWalks
import PyProof.DictItems
import PyProof.DictItemsLoops
import KE.KPairComp
import PyProof.DictValues
import PyProof.SumAny
import PyProof.Rows.SumAny
import PyProof.Rows.RuleDivmod
import KE.KRevIter
import PyProof.TupleOfGen
import PySem.Challenge.RW_mumtrial_k14_whole_faces
noncomputable section
open PySem renaming Program->bx,reduceHash->A1,wpAny_mono->mG,wpAny_bind->ai,wpAny_specialOf->zV,wpAny_call_entry->pk,wpAny_pure->aA,wpAny_rule->mI,Builtin->aY,wpAny_isInstance->vG,wpAny_holding->iS,wpAny_truthy_bool->qw,wpAny_seqItems->iR,sizeLine->aj,sysModules->gk,mainGlobals->bL,bootBuiltins->ic,starEach->ay,compareOp->cJ,behindInMarks->jO,standAt->o0,holding->jX,wpAny_execs_nil->yN,swapsWith->oZ,assignEach->sQ,wpAny_passesOwn->qh,letOwnedTupleGo->yM,wpAny_pyIter_list->yL,wpAny_pyIter_tuple->yJ,foldedSetIterable->vF,binaryOp->mD,sizeLine_eq->vD,getMethod->oY,codeAny->zzl77,attributeBase->qa,FuncData->jM,BindsTo->p_,codeAny_mono->yF,wpAny_Call_Name_kw->yE,callWith->sN,backToKw->mz,keywordEach->my,NameKind->iM,mem_of_lookup->qN,typeLookup->qK,getItem->lG,subscripted->uk,sliceBounds->lE,Keyword->og,call_meets->qJ,valueAt->lD,callerA->j5,DictEntry->lC,wpAny_newObj_type->lA,ZipApart->fo,wpAny_pyIter_zip->qC,wpAny_callSpecial?_slot->j3,wpAny_field->cC,firstArgMember->uc,wpAny_setField_rec->fZ,wpAny_onRaise->t_,wpAny_letGo->qA,wpAny_attempt->n5,wpAny_dictEntries->t4,codeAny_builtin->jf,plainId_quiet->jd,IsItemIter->gS,wpAny_typeNameOfWhole_itemiter->tW,wpAny_typeNameOf_itemiter->tV,wpAny_loadPart'->cc,updateSeq->qv,wpAny_updateSeq->qt
open PySem.Builtin.Tuple renaming tupleHashOf->wS
open Bool renaming false_ne_true->fj,not_true->yO,false_eq_true->mH,eq_iff_iff->vE,and_eq_true->ue,true_and->qk
open Array renaming forIn_toList->Co,length_toList->jW,getElem?_eq_getElem->jc,getElem?_eq_none->qx
open Nat renaming add_assoc->yP,le_refl->aG,lt_of_lt_of_le->cS,lt_irrefl->iQ,ne_of_lt->b9,le_trans->bq,le_of_lt->dH,ne_of_gt->c7,zero_le->cQ,lt_succ_self->vA,le_succ->yD,lt_of_le_of_lt->qF,le_add_right->qE,sub_zero->tX,lt_or_ge->lu,eq_zero_or_pos->tU,mod_lt->qr,sub_self->nU,lt_trichotomy->qq,succ_le_succ->nR
open List renaming append_nil->d_,range->mF,mem_filter->d9,mem_cons_self->fg,mem_cons_of_mem->ff,mem_cons->cR,mem_append->bp,mem_append_left->dq,getElem?_eq_some_iff->bJ,mem_append_right->dF,length_cons->eG,lookup->jN,map_cons->bh,length_map->ak,nodup_cons->gM,length_take->aI,getElem?_append_right->iB,getElem?_append_left->gX,getElem?_map->bv,getElem?_take_of_lt->qM,mem_of_getElem?->a_,length_append->aE,map_nil->ul,length_drop->gV,size_toArray->bu,length_singleton->qI,find?_cons->n_,any_cons->ui,cons_append->qG,length_nil->uh,nodup_nil->n8,lookup_cons->gU,forIn_cons->lB,mem_map->aT,not_mem_nil->qD,forIn_nil->ub,getElem?_eq_none->iA,any_toArray->t6,drop_zero->nZ,take_length->bj,getElem?_eq_getElem->bR,mem_singleton->bM,map_append->ax,nodup_append->cB,drop_of_length_le->t3,drop_eq_getElem_cons->tZ,getElem?_cons_succ->nY,getElem?_of_mem->db,map_take->lq,mem_of_mem_take->eM,append_assoc->dY,nodup_iff_pairwise_ne->tT,map_map->iz,mem_map_of_mem->fm,getElem_mem->nT,take_zero->tS,length_filter_le->eL,filter_append->nS
open Option.some renaming inj->dI
open PySem.W renaming instObj->o5,lookIn->yI,plainGet->sP,hasDictIn->vC,findIn->cP,isFn->vB,plainOver->yH,makesIn->qb,emptyDict->mC,keepIn->gP,kitOne->mB,kia_one->iN,fnOf->gW,codeIn->lH,nsIn->cb,mg_of->fk,mg_none_of->fX
open PySem.Heap renaming lt_size->az,SameBut->d6,get?_push_of_some->aS,get?_push_size->cz,size_push->jV,get?_update_self->j6,get?_update_other->lF
open PyProof.Rows renaming AllBare->mE,callWith_type1->qg,IntsAre->cT
open Ne renaming symm->cA
open False renaming elim->iP
open True renaming intro->iO
open PySem.Calls renaming spliced_cons->yG,callWith_builtin->uj
open Option renaming isSome_iff_exists->um,map_some->qH,map_eq_some_iff->qj
open PySem.SeqAt renaming EqAt->aQ
open Int renaming toNat_natCast->jh,emod_nonneg->nW,emod_lt_of_pos->nV,eq_ofNat_of_zero_le->lr
open PySem.Obj renaming mapSeq->eN
open PySem.Paired renaming snoc->dC
open ForInStep renaming yield->ug
open PySem.NameKind renaming free->j4
open PySem.Builtin.SmallTypes renaming nextOf->f6,ownedTupleIsFree->jZ
open PySem.Str renaming ofString->jg
open PySem.F renaming slot_tuple_iterator_next->ud,slot_zip_next->jY,entry_zip_next->t9,args_zip_next_1->t8,slot_dict_itemiterator_next->qy,plain_extend_loop->nX,plainAttrs_list->eK,slot_list_append->gR,type_list_append->gQ
open PySem.Heap.SameBut renaming update->n6
open PySem.Shared renaming heap->t7
open PySem.Builtin.Str renaming strSliceIndices->qz
open PySem.Txt renaming join->t5
open PySem.Around renaming under_plainId->je
open PySem.PassesOwn renaming never->bD
theorem Q0:0<=PySem.sizeLine:=by decide
theorem Q1:1<=PySem.sizeLine:=by decide
theorem Q2:2<=PySem.sizeLine:=by decide
theorem Q3:3<=PySem.sizeLine:=by decide
theorem Q4:4<=PySem.sizeLine:=by decide
theorem Q6:6<=PySem.sizeLine:=by decide
theorem zzr0{p:Prop}[Decidable p](h:¬p):decide p=false:=decide_eq_false h
theorem zzr1{p:Prop}[Decidable p](h:p):decide p=true:=decide_eq_true h
abbrev Za:=PySem.W.Frag
abbrev Zb:=List PySem.Str
abbrev Zc:=PySem.Value->PySem.Shared->Prop
abbrev Zd:=List (PySem.Addr×PySem.Obj)
abbrev Ze:=List PySem.Addr
abbrev Zf:=List PySem.Value
section
set_option Elab.async false
set_option linter.all false
set_option maxRecDepth 100000
set_option maxHeartbeats 4000000
namespace L2
open PySem PySem.Spec PyProof.Rows
open Sem (wp)
abbrev ei:=Sum Int Str
def cM:ei->Value->Bool
 |.inl k,v=>Value.isInt k v
 |.inr x,v=>Value.isStrOf x v
def EZ(w:World):ei->Int
 |.inl k=>hashInt k
 |.inr x=>hashStr w x
theorem av:∀{k:ei}{v:Value},cM k v=true->(∃i t,k=Sum.inl i/\v=Value.int i t)∨(∃x t,k=Sum.inr x/\v=Value.str x t)
 |.inl i,v,h=>by
  obtain⟨t,e⟩:=Value.isInt_shape (k:=i) (v:=v) h;exact .inl ⟨i,t,rfl,e⟩
 |.inr x,v,h=>by
  obtain⟨t,e⟩:=Value.isStrOf_shape (x:=x) (v:=v) h;exact .inr ⟨x,t,rfl,e⟩
theorem kJ(i:Int)(t:Tok):cM (.inl i) (.int i t)=true:=by simp[cM,Value.isInt]
theorem kI(x:Str)(t:Tok):cM (.inr x) (.str x t)=true:=by simp[cM,Value.isStrOf]
theorem u3(a b:Int):decide ((Sum.inl a:ei)=Sum.inl b)=(a==b):=by
 by_cases e:a=b
 ·subst e;simp
 ·have h:¬(Sum.inl a:ei)=Sum.inl b:=fun q=>e (Sum.inl.inj q);rw[zzr0 h];exact(beq_eq_false_iff_ne.mpr e).symm
theorem uX(a b:Str):decide ((Sum.inr a:ei)=Sum.inr b)=decide (a=b):=by
 by_cases e:a=b
 ·subst e;simp
 ·have h:¬(Sum.inr a:ei)=Sum.inr b:=fun q=>e (Sum.inr.inj q);rw[zzr0 h,zzr0 e]
theorem u2(a:Int)(b:Str):decide ((Sum.inl a:ei)=Sum.inr b)=false:=zzr0 (fun q=>nomatch q)
theorem uY(a:Str)(b:Int):decide ((Sum.inr a:ei)=Sum.inl b)=false:=zzr0 (fun q=>nomatch q)
def bV(prog:bx)(w:World):PySem.KeyKind prog w ei where
 is:=cM
 hash:=EZ w
 inj:=fun v a b ha hb=>by
  rcases av ha with⟨i,t,rfl,rfl⟩|⟨x,t,rfl,rfl⟩
  ·rcases av hb with⟨j,u,rfl,e⟩|⟨y,u,rfl,e⟩
   ·injection e with e1 _;rw[e1]
   ·exact nomatch e
  ·rcases av hb with⟨j,u,rfl,e⟩|⟨y,u,rfl,e⟩
   ·exact nomatch e
   ·injection e with e1 _;rw[e1]
 byValue:=fun k v h=>by
  rcases av h with⟨i,t,rfl,rfl⟩|⟨x,t,rfl,rfl⟩<;>rfl
 pyHash:=fun hv h=>by
  rcases av hv with⟨i,t,rfl,rfl⟩|⟨x,t,rfl,rfl⟩
  ·exact wpAny_pyHash_int h
  ·exact wpAny_pyHash_str h
 eqBool:=fun hu hv h=>by
  rcases av hu with⟨i,t,rfl,rfl⟩|⟨x,t,rfl,rfl⟩
  ·rcases av hv with⟨j,u,rfl,rfl⟩|⟨y,u,rfl,rfl⟩
   ·rw[u3]at h;exact wpAny_eqBool_int h
   ·rw[u2]at h;exact aQ.int_str i t y u _ _ _ _ h
  ·rcases av hv with⟨j,u,rfl,rfl⟩|⟨y,u,rfl,rfl⟩
   ·rw[uY]at h;exact aQ.str_int x t j u _ _ _ _ h
   ·rw[uX]at h;exact wpAny_eqBool_str h
 «strs»:=fun k x t v h=>by
  rcases av h with⟨i,u,rfl,e⟩|⟨y,u,rfl,e⟩
  ·exact nomatch e
  ·injection e with e1 _;subst e1;cases v<;>rfl
theorem wg(prog:bx)(w:World)(i:Int)(t:Tok):(bV prog w).is (.inl i) (.int i t)=true:=kJ i t
theorem wf(prog:bx)(w:World)(x:Str)(t:Tok):(bV prog w).is (.inr x) (.str x t)=true:=kI x t
end L2
namespace L2
open PySem PySem.Spec PyProof.Rows
open Sem (wp)
abbrev mn:=Option ei
def g_:mn->Value->Bool
 |none,v=>match v with
  |.none=>true
  |_=>false
 |some k,v=>cM k v
def DC(w:World):mn->Int
 |none=>A1 4238894112
 |some k=>EZ w k
theorem bB:∀{k:mn}{v:Value},g_ k v=true->(∃i t,k=some (Sum.inl i)/\v=Value.int i t)∨(∃x t,k=some (Sum.inr x)/\v=Value.str x t)∨(k=none/\v=Value.none)
 |none,v,h=>by
  refine .inr (.inr ⟨rfl,?_⟩);cases v<;>first|rfl|cases h
 |some k,v,h=>by
  rcases av (show cM k v=true from h)with⟨i,t,rfl,rfl⟩|⟨i,t,rfl,rfl⟩
  ·exact .inl ⟨i,t,rfl,rfl⟩
  ·exact .inr (.inl ⟨i,t,rfl,rfl⟩)
theorem rG{a b:mn}{v:Value}(h1:g_ a v=true)(h2:g_ b v=true):a=b:=by
 rcases bB h1 with⟨i,t,rfl,rfl⟩|⟨i,t,rfl,rfl⟩|⟨rfl,rfl⟩<;>rcases bB h2 with⟨j,u,rfl,e⟩|⟨j,u,rfl,e⟩|⟨rfl,e⟩<;>first|rfl|(cases e;rfl)|cases e
def we(prog:bx)(w:World):PySem.KeyKind prog w mn where
 is:=g_
 hash:=DC w
 inj:=fun v a b ha hb=>rG ha hb
 byValue:=fun k v h=>by
  rcases bB h with⟨i,t,rfl,rfl⟩|⟨x,t,rfl,rfl⟩|⟨rfl,rfl⟩<;>rfl
 pyHash:=fun{A E s k v Q} hv h=>by
  rcases bB hv with⟨i,t,rfl,rfl⟩|⟨x,t,rfl,rfl⟩|⟨rfl,rfl⟩
  ·exact wpAny_pyHash_int h
  ·exact wpAny_pyHash_str h
  ·refine PySem.W.pyHash_slot (T:="NoneType") rfl F.slot_NoneType_hash F.entry_NoneType_hash (F.args_NoneType_hash_1 _) (by rw[beq_builtin_none]) (.inl rfl) ?_;show wpAny _ _ (retInt 4238894112) _ _ _;refine mG (wpAny_ret_mkInt (Q:=fun v s'=>∃n t,v=Value.int n t/\Q (A1 n) s') ⟨_,_,rfl,h⟩) (fun fin s' ⟨v,e,n,t,e2,q⟩=>⟨n,t,by rw[e,e2],q⟩) (fun _ _ z=>z)
 eqBool:=fun{A E s a b u v Q} hu hv h=>by
  rcases bB hu with⟨i,t,rfl,rfl⟩|⟨x,t,rfl,rfl⟩|⟨rfl,rfl⟩
  ·rcases bB hv with⟨j,u,rfl,rfl⟩|⟨y,u,rfl,rfl⟩|⟨rfl,rfl⟩
   ·exact(bV prog w).eqBool (a:=.inl i) (b:=.inl j) (kJ i t) (kJ j u) (by rw[show decide ((Sum.inl i:ei)=Sum.inl j)=decide ((some (Sum.inl i):mn)=some (Sum.inl j))from decide_eq_decide.mpr ⟨fun z=>by rw[z],fun z=>by injection z⟩];exact h)
   ·rw[zzr0 (by intro z;injection z with z;cases z)]at h;exact aQ.int_str i t y u _ _ _ _ h
   ·rw[zzr0 (by intro z;cases z)]at h;exact aQ.int_none i t _ _ _ _ h
  ·rcases bB hv with⟨j,u,rfl,rfl⟩|⟨y,u,rfl,rfl⟩|⟨rfl,rfl⟩
   ·rw[zzr0 (by intro z;injection z with z;cases z)]at h;exact aQ.str_int x t j u _ _ _ _ h
   ·exact(bV prog w).eqBool (a:=.inr x) (b:=.inr y) (kI x t) (kI y u) (by rw[show decide ((Sum.inr x:ei)=Sum.inr y)=decide ((some (Sum.inr x):mn)=some (Sum.inr y))from decide_eq_decide.mpr ⟨fun z=>by rw[z],fun z=>by injection z⟩];exact h)
   ·rw[zzr0 (by intro z;cases z)]at h;exact aQ.str_none x t _ _ _ _ h
  ·rcases bB hv with⟨j,u,rfl,rfl⟩|⟨y,u,rfl,rfl⟩|⟨rfl,rfl⟩
   ·rw[zzr0 (by intro z;cases z)]at h;exact aQ.none_int j u _ _ _ _ h
   ·rw[zzr0 (by intro z;cases z)]at h;exact aQ.none_str y u _ _ _ _ h
   ·rw[zzr1 rfl]at h;exact aQ.same _ _ _ _ _ h
 «strs»:=fun k x t v h=>by
  rcases bB h with⟨i,u,rfl,e⟩|⟨y,u,rfl,e⟩|⟨rfl,e⟩
  ·exact nomatch e
  ·injection e with e1 _;subst e1;cases v<;>rfl
  ·exact nomatch e
inductive TK where
 |k (a:mn)
 |t (l:List TK)
mutual
def DN:(x y:TK)->Decidable (x=y)
 |.k a,.k b=>if h:a=b then Decidable.isTrue (by rw[h])else Decidable.isFalse fun e=>h (by injection e)
 |.t l,.t m=>match decTKs l m with
  |Decidable.isTrue h=>Decidable.isTrue (by rw[h])
  |Decidable.isFalse h=>Decidable.isFalse fun e=>h (by injection e)
 |.k _,.t _=>Decidable.isFalse nofun
 |.t _,.k _=>Decidable.isFalse nofun
def decTKs:(x y:List TK)->Decidable (x=y)
 |[],[]=>Decidable.isTrue rfl
 |[],_::_=>Decidable.isFalse nofun
 |_::_,[]=>Decidable.isFalse nofun
 |a::l,b::m=>match DN a b with
  |Decidable.isTrue h=>match decTKs l m with
   |Decidable.isTrue h'=>Decidable.isTrue (by rw[h,h'])
   |Decidable.isFalse h'=>Decidable.isFalse fun e=>h' (by injection e)
  |Decidable.isFalse h=>Decidable.isFalse fun e=>h (by injection e)
end
instance:DecidableEq TK:=DN
mutual
def TK.depth:TK->Nat
 |.k _=>0
 |.t l=>TK.depths l+1
def TK.depths:List TK->Nat
 |[]=>0
 |a::r=>max (TK.depth a) (TK.depths r)
end
mutual
def TK.hash(w:World):TK->Int
 |.k a=>DC w a
 |.t l=>A1 (wS (TK.hashs w l))
def TK.hashs(w:World):List TK->List Int
 |[]=>[]
 |a::r=>TK.hash w a::TK.hashs w r
end
mutual
def TK.draws:TK->Nat
 |.k _=>1
 |.t l=>TK.drawss l+1
def TK.drawss:List TK->Nat
 |[]=>0
 |a::r=>TK.draws a+TK.drawss r
end
mutual
def k4(h:Heap):TK->Value->Prop
 |.k a,v=>g_ a v=true
 |.t l,v=>∃a o items n,v=.ref a/\h.get? a=some o/\o.cls=.type "tuple"/\o.data=.seq items n/\TAts h l items.toList
def TAts(h:Heap):List TK->List Value->Prop
 |[],vs=>vs=[]
 |k::r,vs=>∃v us,vs=v::us/\k4 h k v/\TAts h r us
end
theorem k4.inj{h:Heap}:∀(d:Nat) {x y:TK}{v:Value},x.depth<=d->k4 h x v->k4 h y v->x=y:=by
 have key:∀(d:Nat) (ih:∀{x y:TK}{v:Value},x.depth<=d->k4 h x v->k4 h y v->x=y) (xs ys:List TK) (vs:Zf),TK.depths xs<=d->TAts h xs vs->TAts h ys vs->xs=ys:=by
  intro d ih xs
  induction xs with
  |nil =>
   intro ys vs _ hx hy;have hx':vs=[]:=hx;subst hx';cases ys with
   |nil=>rfl
   |cons y ys=>obtain⟨_,_,e,_⟩:=hy;cases e
  |cons x xs ihl =>
   intro ys vs hd hx hy;obtain⟨v,us,rfl,hx1,hx2⟩:=hx;cases ys with
   |nil=>have hy':v::us=[]:=hy;cases hy'
   |cons y ys =>
    obtain⟨v',us',e,hy1,hy2⟩:=hy;cases e;have hd':max x.depth (TK.depths xs)<=d:=hd;rw[ih (by omega) hx1 hy1,ihl ys us (by omega) hx2 hy2]
 have leaf:∀(a:mn) (l:List TK) (v:Value),k4 h (.k a) v->k4 h (.t l) v->False:=by
  intro a l v h1 h2;obtain⟨b,o,items,n,rfl,_⟩:=h2;rcases bB (show g_ a (.ref b)=true from h1)with⟨_,_,_,e⟩|⟨_,_,_,e⟩|⟨_,e⟩<;>cases e
 have kk:∀(a b:mn) (v:Value),g_ a v=true->g_ b v=true->a=b:=fun a b v h1 h2=>rG h1 h2;intro d
 induction d with
 |zero =>
  intro x y v hd hx hy;cases x with
  |t l=>exact absurd hd (by show ¬(TK.depths l+1<=0);omega)
  |k a =>
   cases y with
   |k b=>rw[kk a b v hx hy]
   |t l=>exact(leaf a l v hx hy).elim
 |succ d ih =>
  intro x y v hd hx hy;cases x with
  |k a =>
   cases y with
   |k b=>rw[kk a b v hx hy]
   |t l=>exact(leaf a l v hx hy).elim
  |t l =>
   cases y with
   |k b=>exact(leaf b l v hy hx).elim
   |t l' =>
    obtain⟨a,o,items,n,rfl,ho,hc,hdt,hi⟩:=hx;obtain⟨a',o',items',n',e,ho',hc',hdt',hi'⟩:=hy;cases e;rw[ho]at ho';cases ho';rw[hdt]at hdt';injection hdt' with e1 _;subst e1;rw[key d (fun h1=>ih h1) l l' items.toList (by have:TK.depths l+1<=d+1:=hd;omega) hi hi']
theorem k4.mono{h h':Heap}(k:∀a o items n,h.get? a=some o->o.cls=.type "tuple"->o.data=.seq items n->h'.get? a=some o):∀(d:Nat) {x:TK}{v:Value},x.depth<=d->k4 h x v->k4 h' x v:=by
 have key:∀(d:Nat) (ih:∀{x:TK}{v:Value},x.depth<=d->k4 h x v->k4 h' x v) (xs:List TK) (vs:Zf),TK.depths xs<=d->TAts h xs vs->TAts h' xs vs:=by
  intro d ih xs
  induction xs with
  |nil=>intro vs _ hx;exact hx
  |cons x xs ihl =>
   intro vs hd hx;obtain⟨v,us,rfl,hx1,hx2⟩:=hx;have hd':max x.depth (TK.depths xs)<=d:=hd;exact⟨v,us,rfl,ih (by omega) hx1,ihl us (by omega) hx2⟩
 intro d
 induction d with
 |zero =>
  intro x v hd hx;cases x with
  |t l=>exact absurd hd (by show ¬(TK.depths l+1<=0);omega)
  |k a=>exact hx
 |succ d ih =>
  intro x v hd hx;cases x with
  |k a=>exact hx
  |t l =>
   obtain⟨a,o,items,n,rfl,ho,hc,hdt,hi⟩:=hx;exact⟨a,o,items,n,rfl,k a o items n ho hc hdt,hc,hdt,key d (fun h1=>ih h1) l _ (by have:TK.depths l+1<=d+1:=hd;omega) hi⟩
section
variable{prog:bx}{w:World}
theorem Cv:∀(d:Nat) {A:Around}{E:Zc}{s:Shared}{k:TK}{v:Value}{Q:Int->Shared->Prop},k.depth<=d->A.units+d<cLine->k4 s.heap k v->Q (k.hash w) { s with toks:=s.toks+k.draws } ->
  wpAny (model prog w) A (pyHash v) Q E s:=by
 intro d
 induction d with
 |zero =>
  intro A E s k v Q hd hu hk h;cases k with
  |t l=>exact absurd hd (by show ¬(TK.depths l+1<=0);omega)
  |k a=>exact(we prog w).pyHash (k:=a) hk h
 |succ d ih =>
  intro A E s k v Q hd hu hk h;cases k with
  |k a=>exact(we prog w).pyHash (k:=a) hk h
  |t l =>
   obtain⟨a,o,items,n,rfl,ho,hc,hdt,hi⟩:=hk;have hT:s.TypeIs (.ref a) "tuple":=⟨o,ho,hc⟩;have hdl:TK.depths l<=d:=by have:TK.depths l+1<=d+1:=hd;omega
   unfold pyHash
   first|unfold pyHashByItsType|skip
   first|refine ai (wpAny_cRoomFor_or (.inr (by omega)) ?_)|skip
   refine ai (zV hT F.slot_tuple_hash.lookup ?_);show wpAny _ _ (if(some (Value.builtin "tuple.__hash__")==some Value.none)=true then _ else _) Q E s
   rw[if_neg (by rw[beq_builtin_none];exact fj)];refine ai (zV hT F.slot_tuple_hash.lookup ?_);show wpAny _ _ (callSpecialIfBoundUnlessNone? (.ref a) "__hash__" _ >>= _) Q E s;refine ai (wpAny_callSpecialIfBoundUnlessNone?_slot hT F.slot_tuple_hash (pk F.slot_tuple_hash hT F.entry_tuple_hash ?_ (F.args_tuple_hash_1 _)));show wpAny _ _ (aY.Tuple.tupleItemsOf (.ref a) >>= _) _ _ s;refine ai (wpAny_tupleItemsOf ho hdt ?_);refine ai ?_;rw[<-Co];refine wpAny_forIn_list _
    (fun rest (b:Array Int) s'=>∃done left,l=done++left/\TAts s.heap left rest/\b.toList=TK.hashs w done/\s'={ s with toks:=s.toks+TK.drawss done })
    _ ?_ ?_ _ _ ⟨[],l,rfl,hi,rfl,rfl⟩
   ·rintro x rest b s' ⟨done,left,e,hl,hb,rfl⟩;cases left with
    |nil=>have hl':x::rest=[]:=hl;cases hl'
    |cons k' left =>
     obtain⟨x',rest',e',h1,h2⟩:=hl;cases e';have hdk:k'.depth<=d:=by
      have gen:∀(p:List TK),TK.depths (p++k'::left)<=d->k'.depth<=d:=by
       intro p
       induction p with
       |nil=>intro hp;have hp':max k'.depth (TK.depths left)<=d:=hp;omega
       |cons q p ihp=>intro hp;have hp':max q.depth (TK.depths (p++k'::left))<=d:=hp;exact ihp (by omega)
      exact gen done (by rw[<-e];exact hdl)
     have hs:TK.hashs w (done++[k'])=TK.hashs w done++[k'.hash w]:=by
      clear e hb
      induction done with
      |nil=>rfl
      |cons q p ihp=>show _::TK.hashs w (p++[k'])=_;rw[ihp];rfl
     have hdr:TK.drawss (done++[k'])=TK.drawss done+k'.draws:=by
      clear e hb hs
      induction done with
      |nil=>show k'.draws+0=0+k'.draws;omega
      |cons q p ihp=>show q.draws+TK.drawss (p++[k'])=q.draws+TK.drawss p+k'.draws;rw[ihp];omega
     refine ai (ih (k:=k') hdk (by show A.units+1+d<cLine;omega) h1 ?_)
     first
      |exact aA ⟨done++[k'],left,by rw[e];simp,h2,by rw[hs];simp[hb],by rw[hdr];simp[yP]⟩
      |exact ai (aA (aA ⟨done++[k'],left,by rw[e];simp,h2,by rw[hs];simp[hb],by rw[hdr];simp[yP]⟩))
   ·rintro b s' ⟨done,left,e,hl,hb,rfl⟩;cases left with
    |cons k' left=>obtain⟨_,_,e',_⟩:=hl;cases e'
    |nil =>
     rw[d_]at e;subst e;show wpAny _ _ (retInt (wS b.toList)) _ _ _;rw[hb];refine wpAny_ret_mkInt ?_;have h':Q (A1 (wS (TK.hashs w l))) { s with toks:=s.toks+(TK.drawss l+1) }:=h;show wpAny _ _ (if(decide (-(2:Int) ^ 63<=wS (TK.hashs w l)) && decide (wS (TK.hashs w l)<2 ^ 63))=true then _ else _) Q E _
     unfold A1 at h';by_cases hr:(decide (-(2:Int) ^ 63<=wS (TK.hashs w l)) && decide (wS (TK.hashs w l)<2 ^ 63))=true
     ·rw[if_pos hr];rw[if_pos hr]at h';exact aA (by simpa[yP]using h')
     ·rw[if_neg hr];rw[if_neg hr]at h';exact ai (mI (aA (by simpa[yP]using h')))
theorem z5(d:Nat)(ih:∀{A:Around}{E:Zc}{s:Shared}{x y:TK}{u v:Value}{Q:Bool->Shared->Prop},x.depth<=d->y.depth<=d->A.units+d<cLine->k4 s.heap x u->k4 s.heap y v->Q (decide (x=y)) s->wpAny (model prog w) A (eqBool u v) Q E s)
  {A:Around}{E:Zc}{s:Shared}{x y:List TK}{a b:Addr}{P:Fin->Shared->Prop}{oa ob:Obj}{xs ys:Array Value}{na nb:Nat}(hx:TK.depths x<=d) (hy:TK.depths y<=d) (hu:A.units+d<cLine)
  (hoa:s.heap.get? a=some oa) (hda:oa.data=.seq xs na) (hia:TAts s.heap x xs.toList) (hob:s.heap.get? b=some ob) (hcb:ob.cls=.type "tuple") (hdb:ob.data=.seq ys nb) (hib:TAts s.heap y ys.toList)
  (h:P (.done (.ret (.bool (decide (x=y))))) s):wpAny (model prog w) A (aY.«tuple.__eq__» ⟨[.ref a,.ref b],[]⟩) P E s:=by
 have hTb:s.TypeIs (.ref b) "tuple":=⟨ob,hob,hcb⟩;show wpAny _ _ (isInstance (.ref b) (.type "tuple") >>= _) _ _ s;refine ai (vG hTb isSubtype_tuple_tuple ?_);simp only[yO,mH,if_false];refine ai (wpAny_tupleItemsOf hoa hda ?_);refine ai (wpAny_tupleItemsOf hob hdb ?_);refine ai ?_;refine wpAny_forIn_list _
  (fun rest r s'=>r.1=none/\s'=s/\∃x' y' xs' ys',rest=List.zip xs' ys'/\TAts s.heap x' xs'/\TAts s.heap y' ys'/\TK.depths x'<=d/\TK.depths y'<=d/\decide (x'=y')=decide (x=y)/\(xs'.length==ys'.length)=(xs.size==ys.size))
  _ ?_ ?_ _ _ ⟨rfl,rfl,x,y,xs.toList,ys.toList,rfl,hia,hib,hx,hy,rfl,by simp⟩
 ·rintro⟨u,v⟩ rest r s' ⟨hr,rfl,x',y',xs',ys',hz,hx',hy',dx,dy,hdec,hlen⟩;cases x' with
  |nil =>
   have e:xs'=[]:=hx';subst e;simp at hz
  |cons k1 x'' =>
   obtain⟨u',xs'',rfl,h1,hx''⟩:=hx';cases y' with
   |nil =>
    have e:ys'=[]:=hy';subst e;simp at hz
   |cons k2 y'' =>
    obtain⟨v',ys'',rfl,h2,hy''⟩:=hy';simp only[List.zip_cons_cons,List.cons.injEq,Prod.mk.injEq]at hz;obtain⟨⟨rfl,rfl⟩,rfl⟩:=hz;have dx':max k1.depth (TK.depths x'')<=d:=dx;have dy':max k2.depth (TK.depths y'')<=d:=dy;refine ai (ih (x:=k1) (y:=k2) (by omega) (by omega) hu h1 h2 ?_);by_cases hk:k1=k2
    ·subst hk;rw[zzr1 rfl];simp only[yO,mH,if_false];refine aA ⟨rfl,rfl,x'',y'',xs'',ys'',rfl,hx'',hy'',by omega,by omega,?_,by simpa using hlen⟩;rw[<-hdec];by_cases hxy:x''=y''
     ·simp[hxy]
     ·simp[hxy]
    ·rw[zzr0 hk];simp only[Bool.not_false,if_true];have hf:decide (x=y)=false:=by rw[<-hdec];simp[hk]
     rw[hf]at h;exact ai (aA (aA (aA h)))
 ·rintro⟨r1,r2⟩ s' ⟨hr,rfl,x',y',xs',ys',hz,hx',hy',dx,dy,hdec,hlen⟩;simp only at hr;subst hr;refine aA ?_;have hfin:(xs.size==ys.size)=decide (x=y):=by
   rw[<-hdec,<-hlen];cases x' with
   |nil =>
    have e:xs'=[]:=hx';subst e;cases y' with
    |nil=>have e:ys'=[]:=hy';subst e;simp
    |cons _ _=>obtain⟨_,_,rfl,_⟩:=hy';simp
   |cons _ _ =>
    obtain⟨_,_,rfl,_⟩:=hx';cases y' with
    |nil=>have e:ys'=[]:=hy';subst e;simp
    |cons _ _=>obtain⟨_,_,rfl,_⟩:=hy';simp at hz
  show P (.done (.ret (.bool (xs.size==ys.size)))) s';rw[hfin];exact h
theorem EH:∀(d:Nat) {A:Around}{E:Zc}{s:Shared}{x y:TK}{u v:Value}{Q:Bool->Shared->Prop},x.depth<=d->y.depth<=d->A.units+d<cLine->k4 s.heap x u->k4 s.heap y v->Q (decide (x=y)) s ->
  wpAny (model prog w) A (eqBool u v) Q E s:=by
 have mixed1:∀{A:Around}{E:Zc}{s:Shared}{a:mn}{l:List TK}{u v:Value}{Q:Bool->Shared->Prop},A.units<cLine->k4 s.heap (.k a) u->k4 s.heap (.t l) v->Q false s->wpAny (model prog w) A (eqBool u v) Q E s:=by
  intro A E s a l u v Q hu hx hy h;obtain⟨b,o,items,n,rfl,ho,hc,hdt,hi⟩:=hy;have ht:s.heap.IsTuple b items:=⟨o,ho,hc,n,hdt⟩;rcases bB (show g_ a u=true from hx)with⟨i,t,rfl,rfl⟩|⟨i,t,rfl,rfl⟩|⟨rfl,rfl⟩
  ·exact aQ.int_tuple i t ht hu prog w E Q h
  ·exact aQ.str_tuple i t ht hu prog w E Q h
  ·exact aQ.none_tuple ht hu prog w E Q h
 have mixed2:∀{A:Around}{E:Zc}{s:Shared}{a:mn}{l:List TK}{u v:Value}{Q:Bool->Shared->Prop},A.units<cLine->k4 s.heap (.t l) u->k4 s.heap (.k a) v->Q false s->wpAny (model prog w) A (eqBool u v) Q E s:=by
  intro A E s a l u v Q hu hx hy h;obtain⟨b,o,items,n,rfl,ho,hc,hdt,hi⟩:=hx;have ht:s.heap.IsTuple b items:=⟨o,ho,hc,n,hdt⟩;rcases bB (show g_ a v=true from hy)with⟨i,t,rfl,rfl⟩|⟨i,t,rfl,rfl⟩|⟨rfl,rfl⟩
  ·exact aQ.tuple_int i t ht hu prog w E Q h
  ·exact aQ.tuple_str i t ht hu prog w E Q h
  ·exact aQ.tuple_none ht hu prog w E Q h
 have leaves:∀{A:Around}{E:Zc}{s:Shared}{a b:mn}{u v:Value}{Q:Bool->Shared->Prop},k4 s.heap (.k a) u->k4 s.heap (.k b) v->Q (decide (TK.k a=TK.k b)) s->wpAny (model prog w) A (eqBool u v) Q E s:=by
  intro A E s a b u v Q hx hy h;refine(we prog w).eqBool (a:=a) (b:=b) hx hy ?_;by_cases e:a=b
  ·subst e;simpa using h
  ·have:¬(TK.k a=TK.k b):=fun z=>e (by injection z);rw[zzr0 this]at h;rw[zzr0 e];exact h
 intro d
 induction d with
 |zero =>
  intro A E s x y u v Q hdx hdy hu hx hy h;cases x with
  |t l=>exact absurd hdx (by show ¬(TK.depths l+1<=0);omega)
  |k a =>
   cases y with
   |t l=>exact absurd hdy (by show ¬(TK.depths l+1<=0);omega)
   |k b=>exact leaves hx hy h
 |succ d ih =>
  intro A E s x y u v Q hdx hdy hu hx hy h;cases x with
  |k a =>
   cases y with
   |k b=>exact leaves hx hy h
   |t l =>
    rw[zzr0 (by intro z;cases z)]at h;exact mixed1 (by omega) hx hy h
  |t l =>
   cases y with
   |k b =>
    rw[zzr0 (by intro z;cases z)]at h;exact mixed2 (by omega) hx hy h
   |t m =>
    have hl:TK.depths l<=d:=by have:TK.depths l+1<=d+1:=hdx;omega
    have hm:TK.depths m<=d:=by have:TK.depths m+1<=d+1:=hdy;omega
    have hx0:=hx;have hy0:=hy;obtain⟨a,oa,xs,na,rfl,hoa,hca,hda,hia⟩:=hx;obtain⟨b,ob,ys,nb,rfl,hob,hcb,hdb,hib⟩:=hy;have hTa:s.TypeIs (.ref a) "tuple":=⟨oa,hoa,hca⟩;have hTb:s.TypeIs (.ref b) "tuple":=⟨ob,hob,hcb⟩;have hd':decide (TK.t l=TK.t m)=decide (l=m):=by
     by_cases e:l=m
     ·subst e;simp
     ·have:¬(TK.t l=TK.t m):=fun z=>e (by injection z);rw[zzr0 this,zzr0 e]
    unfold eqBool
    try with_reducible refine iS ?_
    show wpAny _ _ (if(Value.ref a==Value.ref b)=true then _ else _) Q E s
    by_cases hab:(Value.ref a==Value.ref b)=true
    ·rw[if_pos hab];have e:a=b:=by have:=eq_of_beq hab;injection this
     subst e;have e2:TK.t l=TK.t m:=k4.inj _ (aG _) hx0 hy0;rw[zzr1 e2]at h;exact ai (mI (aA h))
    ·rw[if_neg hab];rw[hd']at h;exact ai (wpAny_richCompare_same_room (op:=.Eq) hTa hTb F.slot_tuple_eq
      (pk F.slot_tuple_eq hTa F.entry_tuple_eq (z5 d (fun h1 h2 h3 h4 h5 h6=>ih h1 h2 h3 h4 h5 h6) hl hm (by show A.units+1+d<cLine;omega) hoa hda hia hob hcb hdb hib ⟨_,rfl,(fun e=>nomatch e),qw h⟩) (F.args_tuple_eq_2 _ _)) (by omega))
theorem A_:∀(d:Nat) {A:Around}{E:Zc}{s:Shared}{k:TK}{v:Value}{Q:Bool->Shared->Prop},k.depth<=d->k4 s.heap k v->Q true s->wpAny (model prog w) A (eqIsQuiet d v) Q E s:=by
 intro d
 induction d with
 |zero =>
  intro A E s k v Q hd hk h;cases k with
  |t l=>exact absurd hd (by show ¬(TK.depths l+1<=0);omega)
  |k a=>rw[eqIsQuiet_byValue _ ((we prog w).byValue a v hk)];exact aA h
 |succ d ih =>
  intro A E s k v Q hd hk h;cases k with
  |k a=>rw[eqIsQuiet_byValue _ ((we prog w).byValue a v hk)];exact aA h
  |t l =>
   have hl:TK.depths l<=d:=by have:TK.depths l+1<=d+1:=hd;omega
   obtain⟨a,o,items,n,rfl,ho,hc,hdt,hi⟩:=hk;have hT:s.TypeIs (.ref a) "tuple":=⟨o,ho,hc⟩;unfold eqIsQuiet;refine ai (zV hT F.slot_tuple_eq.lookup ?_);show wpAny _ _ (isInstance (.ref a) (.type "tuple") >>= _) _ _ s;refine ai (vG hT isSubtype_tuple_tuple ?_);simp only[yO,mH,if_false];refine ai (iR ho hdt ?_);refine ai ?_;show wpAny _ _ (forIn items _ _) _ _ s;rw[<-Co];refine wpAny_forIn_list _ (fun rest r s'=>r.1=none/\s'=s/\∃left,TAts s.heap left rest/\TK.depths left<=d) _ ?_ ?_ _ _ ⟨rfl,rfl,l,hi,hl⟩
   ·rintro v rest r s' ⟨hr,rfl,left,hall,hdl⟩;cases left with
    |nil=>have e:v::rest=[]:=hall;cases e
    |cons k' left =>
     obtain⟨v',rest',e,h1,h2⟩:=hall;cases e;have hdl':max k'.depth (TK.depths left)<=d:=hdl;refine ai (ih (k:=k') (by omega) h1 ?_);simp only[yO,mH,if_false];exact aA ⟨rfl,rfl,left,h2,by omega⟩
   ·rintro⟨r1,r2⟩ s' ⟨hr,rfl,_⟩;simp only at hr;subst hr;exact aA h
def ee(prog:bx)(w:World):HeapKind prog w TK where
 is:=fun h k a=>k4 h k (.ref a)/\k.depth<=8
 hash:=TK.hash w
 draws:=TK.draws
 room:=fun A=>A.units+8<cLine
 inj:=fun hx hy=>k4.inj 8 hx.2 hx.1 hy.1
 keeps:=fun{h h' k a d o es ep} x ho hd hs=>⟨k4.mono (fun b ob items n hb _ hdb=>(hs.2 b fun e=>by
  subst e;rw[ho]at hb;cases hb;rw[hd]at hdb;cases hdb).trans hb) 8 x.2 x.1,x.2⟩
 pyHash:=fun hu hk h=>Cv 8 hk.2 hu hk.1 h
 eqBool:=fun hu hx hy h=>EH 8 hx.2 hy.2 hu hx.1 hy.1 h
 quiet:=fun hk h=>A_ 8 hk.2 hk.1 h
end
end L2
namespace L2
open PySem PySem.Spec PyProof.Rows
inductive V where
 |non|bl (b:Bool)|int (i:Int)|str (x:Str)|byt (b:Array UInt8)|flt (b:UInt64)|ref (a:Addr)|ty (n:String)
 deriving DecidableEq
def RelV:V->Value->Prop
 |.non,u=>u=Value.none
 |.bl b,u=>u=Value.bool b
 |.int i,u=>∃t,u=Value.int i t
 |.str x,u=>∃t,u=Value.str x t
 |.byt b,u=>∃t,u=Value.bytes b t
 |.flt b,u=>∃t,u=Value.float b t
 |.ref a,u=>u=Value.ref a
 |.ty n,u=>u=Value.type n
abbrev aW:List V->List Value->Prop:=Paired RelV
theorem aW.length{xs:List V}{us:Zf}(r:aW xs us):xs.length=us.length:=Paired.length r
theorem aW.get:∀{xs:List V}{us:Zf}{i:Nat}{x:V},aW xs us->xs[i]?=some x->∃u,us[i]?=some u/\RelV x u
 |_,_,_,_,.nil,e=>by simp at e
 |_,_,0,_,.cons r _,e=>by simp at e;subst e;exact⟨_,rfl,r⟩
 |_,_,i+1,x,.cons _ t,e=>by
  obtain⟨u,h1,h2⟩:=aW.get (i:=i) (x:=x) t (by simpa using e);exact⟨u,by simpa using h1,h2⟩
theorem aW.set{x:V}{u:Value}(r:RelV x u):∀{xs:List V}{us:Zf}(i:Nat),aW xs us->aW (xs.set i x) (us.set i u)
 |_,_,_,.nil=>.nil
 |_,_,0,.cons _ t=>.cons r t
 |_,_,i+1,.cons q t=>.cons q (aW.set r i t)
theorem aW.append{xs ys:List V}{us ws:Zf}(h:aW xs us)(s:aW ys ws):aW (xs++ys) (us++ws):=by
 induction h with
 |nil=>exact s
 |cons r _ ih=>exact .cons r ih
theorem aW.take:∀{xs:List V}{us:Zf}(n:Nat),aW xs us->aW (xs.take n) (us.take n)
 |_,_,0,_=>.nil
 |_,_,_+1,.nil=>.nil
 |_,_,n+1,.cons r t=>.cons r (aW.take n t)
theorem aW.drop:∀{xs:List V}{us:Zf}(n:Nat),aW xs us->aW (xs.drop n) (us.drop n)
 |_,_,0,r=>r
 |_,_,_+1,.nil=>.nil
 |_,_,n+1,.cons _ t=>aW.drop n t
def jT:Option V->Option Value->Prop
 |some v,some u=>RelV v u
 |none,none=>True
 |_,_=>False
def KV{κ:Type}:List (κ×V)->List (κ×Value)->Prop:=Paired fun(p:κ×V) (q:κ×Value)=>p.1=q.1/\RelV p.2 q.2
def kV:ei->V
 |.inl i=>.int i
 |.inr x=>.str x
def DD:mn->V
 |none=>.non
 |some k=>kV k
inductive HO where
 |lst (xs:List V)
 |tup (xs:List V)
 |dK (kvs:List (ei×V))|dT (kvs:List (TK×V))
 |set (S:Int->Bool) (n:Nat)
 |ins (C dx:Addr) (fs:List (Str×V))
 |own (x:Addr)
 |xd (fs:List (Str×V))
 |met (f x:Addr)
 |rng (lo hi:Int)
 |frz (o:Obj) (u:HO)
 |tbl (ps:Array Value)
 |ext (φ:Heap->Prop)
abbrev Hp:=Addr->Option HO
mutual
def eJ(H:Hp):TK->V->Prop
 |.k a,v=>v=DD a
 |.t l,v=>∃b xs,v=.ref b/\H b=some (.tup xs)/\TKAts H l xs
def TKAts(H:Hp):List TK->List V->Prop
 |[],vs=>vs=[]
 |k::r,vs=>∃v us,vs=v::us/\eJ H k v/\TKAts H r us
end
def cN(K:Za)(H:Hp)(a:Addr)(xs:List V):Prop :=
 H a=some (.tup xs)∨∃(o:Obj) (its:Array Value) (n:Nat),K.lookup a=some o/\o.cls=.type "tuple"/\o.data=.seq its n/\its.size<=aj/\aW xs its.toList
theorem cN.keeps{K:Za}{H H':Hp}{a:Addr}{xs:List V}(h:cN K H a xs)(ht:∀b xs,H b=some (.tup xs)->H' b=some (.tup xs)):cN K H' a xs:=h.imp (ht a xs) id
mutual
def pi(K:Za)(H:Hp):TK->V->Prop
 |.k a,v=>v=DD a
 |.t l,v=>∃b xs,v=.ref b/\cN K H b xs/\TKCs K H l xs
def TKCs(K:Za)(H:Hp):List TK->List V->Prop
 |[],vs=>vs=[]
 |k::r,vs=>∃v us,vs=v::us/\pi K H k v/\TKCs K H r us
end
theorem pi.keeps{K:Za}{H H':Hp}(ht:∀b xs,H b=some (.tup xs)->H' b=some (.tup xs)):∀(d:Nat) {k:TK}{v:V},k.depth<=d->pi K H k v->pi K H' k v:=by
 have key:∀(d:Nat) (ih:∀{k:TK}{v:V},k.depth<=d->pi K H k v->pi K H' k v) (xs:List TK) (vs:List V),TK.depths xs<=d->TKCs K H xs vs->TKCs K H' xs vs:=by
  intro d ih xs
  induction xs with
  |nil=>intro vs _ hx;exact hx
  |cons x xs ihl =>
   intro vs hd hx;obtain⟨v,us,rfl,hx1,hx2⟩:=hx;have hd':max x.depth (TK.depths xs)<=d:=hd;exact⟨v,us,rfl,ih (by omega) hx1,ihl us (by omega) hx2⟩
 intro d
 induction d with
 |zero =>
  intro k v hd hx;cases k with
  |t l=>exact absurd hd (by show ¬(TK.depths l+1<=0);omega)
  |k a=>exact hx
 |succ d ih =>
  intro k v hd hx;cases k with
  |k a=>exact hx
  |t l =>
   obtain⟨b,xs,rfl,hb,hi⟩:=hx;exact⟨b,xs,rfl,hb.keeps ht,key d (fun h1=>ih h1) l xs (by have:TK.depths l+1<=d+1:=hd;omega) hi⟩
theorem eJ.c{K:Za}{H:Hp}:∀(d:Nat) {k:TK}{v:V},k.depth<=d->eJ H k v->pi K H k v:=by
 have key:∀(d:Nat) (ih:∀{k:TK}{v:V},k.depth<=d->eJ H k v->pi K H k v) (xs:List TK) (vs:List V),TK.depths xs<=d->TKAts H xs vs->TKCs K H xs vs:=by
  intro d ih xs
  induction xs with
  |nil=>intro vs _ hx;exact hx
  |cons x xs ihl =>
   intro vs hd hx;obtain⟨v,us,rfl,hx1,hx2⟩:=hx;have hd':max x.depth (TK.depths xs)<=d:=hd;exact⟨v,us,rfl,ih (by omega) hx1,ihl us (by omega) hx2⟩
 intro d
 induction d with
 |zero =>
  intro k v hd hx;cases k with
  |t l=>exact absurd hd (by show ¬(TK.depths l+1<=0);omega)
  |k a=>exact hx
 |succ d ih =>
  intro k v hd hx;cases k with
  |k a=>exact hx
  |t l =>
   obtain⟨b,xs,rfl,hb,hi⟩:=hx;exact⟨b,xs,rfl,.inl hb,key d (fun h1=>ih h1) l xs (by have:TK.depths l+1<=d+1:=hd;omega) hi⟩
def upd(H:Hp)(a:Addr)(o:HO):Hp:=fun b=>if b=a then some o else H b
theorem aa{H:Hp}{a:Addr}{o:HO}:upd H a o a=some o:=by unfold upd;rw[if_pos rfl]
theorem ag{H:Hp}{a b:Addr}{o:HO}(h:b≠a):upd H a o b=H b:=by unfold upd;rw[if_neg h]
theorem pQ{H:Hp}{a:Addr}{o u:HO}:upd (upd H a o) a u=upd H a u:=by
 funext b;unfold upd;split<;>rfl
theorem BB{H:Hp}{a b:Addr}{o u:HO}(h:H a=some o)(h':H b=some u)(d:o≠u):a≠b:=by
 intro e;subst e;rw[h]at h';exact d (dI h')
theorem ae{H:Hp}{a b:Addr}{o:HO}(h:H a=some o)(h':H b=none):a≠b:=by
 intro e;subst e;rw[h]at h';cases h'
section
variable(P:bx)(w:World)(K:Za)
def bP(H:Hp)(h:Heap)(a:Addr):HO->Prop
 |.lst xs=>xs.length<=aj/\∃(its:Zf) (n:Nat),aW xs its/\h.get? a=some { cls:=.type "list",data:=.seq its.toArray n }
 |.tup xs=>xs.length<=aj/\∃its:List Value,aW xs its/\IsTup h a its.toArray
 |.dK kvs=>kvs.length<=aj/\(a==gk)=false/\∃vs,KV kvs vs/\h.DictOf (bV P w) a vs
 |.dT kvs=>kvs.length<=aj/\(a==gk)=false/\∃xs:List (TK×Addr×Value),
   Paired (fun(p:TK×V) (q:TK×Addr×Value)=>p.1=q.1/\pi K H p.1 (.ref q.2.1)/\p.1.depth<=8/\RelV p.2 q.2.2) kvs xs /\
   ∃o es ep,h.get? a=some o/\o.ExactDict/\o.data=.dict es ep/\es.toList=xs.map (entryOfKey (ee P w))/\(xs.map (·.1)).Nodup
 |.set S n=>h.SetOf (intKind P w) a S n
 |.ins C dx fs=>H dx=some (.own a)/\fs.length<=1000/\dx≠a/\h.get? a=some (o5 C dx) /\
   ∃mA,h.Ns1 dx mA/\(∀f,jT (fs.lookup f) (mA f))/\PySem.Within mA (fs.map (·.1))
 |.own _=>∃o,h.get? a=some o
 |.xd fs=>∃mA,h.Ns1 a mA/\∀f,jT (fs.lookup f) (mA f)
 |.rng lo hi=>∃t u v,h.get? a=some { cls:=.type "range",data:=.fields #[.int lo t,.int hi u,.int 1 v] }
 |.frz o u=>h.get? a=some o/\bP H h a u
 |.tbl ps=>h.get? a=some { cls:=.none,data:=.fields ps }
 |.met f x=>h.get? a=some (PySem.W.methodObj (.ref f) (.ref x))
 |.ext φ=>φ h/\(∃o,h.get? a=some o)/\∀h1 h2:Heap,φ h1->(∀o,h1.get? a=some o->h2.get? a=some o)->φ h2
def kN(H:Hp)(h:Heap):Prop:=∀a o,H a=some o->bP P w K H h a o
end
section
variable{P:bx}{w:World}{K:Za}{H H':Hp}{h h':Heap}{a:Addr}{o:HO}
theorem bP.lt(x:bP P w K H h a o):a<h.objs.size:=by
 cases o with
 |lst xs=>obtain⟨_,_,_,_,e⟩:=x;exact az e
 |tup xs=>obtain⟨_,_,_,p⟩:=x;exact p.lt
 |dK kvs=>obtain⟨_,_,_,_,o,_,_,e,_⟩:=x;exact az e
 |dT kvs=>obtain⟨_,_,_,_,o,_,_,e,_⟩:=x;exact az e
 |set S n=>obtain⟨o,_,_,_,e,_⟩:=x;exact az e
 |ins C dx fs=>obtain⟨_,_,_,e,_⟩:=x;exact az e
 |own y=>obtain⟨_,e⟩:=x;exact az e
 |xd fs=>obtain⟨_,⟨_,_,_,e,_⟩,_⟩:=x;exact az e
 |rng lo hi=>obtain⟨_,_,_,e⟩:=x;exact az e
 |frz ob u=>obtain⟨e,_⟩:=x;exact az e
 |tbl ps=>exact az (show h.get? a=some _ from x)
 |met f y=>exact az (show h.get? a=some _ from x)
 |ext φ=>obtain⟨_,⟨_,e⟩,_⟩:=x;exact az e
theorem Paired.mapP{α β:Type}{F G:α->β->Prop}{l₁:List α}{l₂:List β}(h:Paired F l₁ l₂)(f:∀a b,F a b->G a b):Paired G l₁ l₂:=by
 induction h with
 |nil=>exact .nil
 |cons r _ ih=>exact .cons (f _ _ r) ih
theorem bP.stay(x:bP P w K H h a o)(k:∀b u,(b=a∨H b=some (.own a))->h.get? b=some u->h'.get? b=some u)
  (ho:∀b,H b=some (.own a)->H' b=some (.own a)) (ht:∀b xs,H b=some (.tup xs)->H' b=some (.tup xs)):bP P w K H' h' a o:=by
 induction o with
 |lst xs=>obtain⟨z,its,n,r,e⟩:=x;exact⟨z,its,n,r,k _ _ (.inl rfl) e⟩
 |tup xs=>obtain⟨z,its,r,ob,e,c⟩:=x;exact⟨z,its,r,ob,k _ _ (.inl rfl) e,c⟩
 |dK kvs=>obtain⟨z,y,vs,r,ob,es,ep,e,c⟩:=x;exact⟨z,y,vs,r,ob,es,ep,k _ _ (.inl rfl) e,c⟩
 |dT kvs =>
  obtain⟨z,y,xs,r,ob,es,ep,e,c⟩:=x;exact⟨z,y,xs,Paired.mapP r fun p q z=>⟨z.1,pi.keeps ht 8 z.2.2.1 z.2.1,z.2.2⟩,ob,es,ep,k _ _ (.inl rfl) e,c⟩
 |set S n=>obtain⟨ob,es,ep,t,e,c⟩:=x;exact⟨ob,es,ep,t,k _ _ (.inl rfl) e,c⟩
 |ins C dx fs =>
  obtain⟨d,z,ne,e,mA,⟨od,es,ep,e2,c⟩,r⟩:=x;exact⟨ho _ d,z,ne,k _ _ (.inl rfl) e,mA,⟨od,es,ep,k _ _ (.inr d) e2,c⟩,r⟩
 |own y=>obtain⟨ob,e⟩:=x;exact⟨ob,k _ _ (.inl rfl) e⟩
 |xd fs=>obtain⟨mA,⟨od,es,ep,e,c⟩,r⟩:=x;exact⟨mA,⟨od,es,ep,k _ _ (.inl rfl) e,c⟩,r⟩
 |rng lo hi=>obtain⟨t,u,v,e⟩:=x;exact⟨t,u,v,k _ _ (.inl rfl) e⟩
 |frz ob u ih=>obtain⟨e,q⟩:=x;exact⟨k _ _ (.inl rfl) e,ih q⟩
 |tbl ps =>
  have e:h.get? a=some { cls:=.none,data:=.fields ps }:=x;show h'.get? a=some { cls:=.none,data:=.fields ps };exact k a _ (.inl rfl) e
 |met f y =>
  have e:h.get? a=some (PySem.W.methodObj (.ref f) (.ref y)):=x;show h'.get? a=some (PySem.W.methodObj (.ref f) (.ref y));exact k a _ (.inl rfl) e
 |ext φ=>obtain⟨p,⟨o,e⟩,st⟩:=x;exact⟨st _ _ p fun o q=>k _ _ (.inl rfl) q,⟨o,k _ _ (.inl rfl) e⟩,st⟩
theorem kN.lt(x:kN P w K H h)(e:H a=some o):a<h.objs.size:=(x a o e).lt
theorem kN.fresh(x:kN P w K H h)(e:h.objs.size<=a):H a=none:=by
 cases q:H a with
 |none=>rfl
 |some u=>exact absurd (cS (x.lt q) e) (iQ _)
theorem kN.kept(x:kN P w K H h)(k:∀b u,h.get? b=some u->h'.get? b=some u):kN P w K H h':=fun a o e =>
 (x a o e).stay (fun b u _ q=>k b u q) (fun _ q=>q) fun _ _ q=>q
theorem kN.laid(x:kN P w K H h)(k:∀b u,h.get? b=some u->h'.get? b=some u)(hp:h.objs.size<=a)(new:bP P w K (upd H a o) h' a o):kN P w K (upd H a o) h':=fun b u e=>by
 have hn:=x.fresh hp;by_cases hb:b=a
 ·subst hb;rw[aa]at e;cases e;exact new
 ·rw[ag hb]at e;exact(x b u e).stay (fun c v _ q=>k c v q) (fun c q=>by rw[ag (ae q hn)];exact q) fun c xs q=>by rw[ag (ae q hn)];exact q
end
def Rd(H:Hp)(a:Addr)(u:HO):Prop:=H a=some u∨∃o,H a=some (.frz o u)
theorem Rd.ok{P:bx}{w:World}{K:Za}{H:Hp}{h:Heap}{a:Addr}{u:HO}(r:Rd H a u)(x:kN P w K H h):bP P w K H h a u:=by
 rcases r with r|⟨o,r⟩
 ·exact x a u r
 ·obtain⟨_,q⟩:=x a _ r;exact q
def Fg:Option HO->Prop
 |some (.lst _)=>True
 |some (.dK _)=>True
 |some (.dT _)=>True
 |some (.set _ _)=>True
 |some (.ins _ _ _)=>True
 |some (.ext _)=>True
 |_=>False
section
variable{P:bx}{w:World}{K:Za}{H:Hp}{h h':Heap}{x e:Addr}{o':HO}
theorem kN.write(ok:kN P w K H h)(mu:Fg (H x))(he:e=x∨H e=some (.own x))(k:∀b u,b≠e->h.get? b=some u->h'.get? b=some u)(heo:∃u,h'.get? e=some u)
  (new:bP P w K (upd H x o') h' x o'):kN P w K (upd H x o') h':=fun b u q=>by
 have nown:∀c y,H c=some (.own y)->c≠x:=fun c y r z=>by subst z;rw[r]at mu;exact mu
 have ntup:∀c xs,H c=some (.tup xs)->c≠x:=fun c xs r z=>by subst z;rw[r]at mu;exact mu
 by_cases hb:b=x
 ·subst hb;rw[aa]at q;cases q;exact new
 ·rw[ag hb]at q;by_cases hbe:b=e
  ·have q':H b=some (.own x):=by
    rcases he with z|z
    ·exact absurd (hbe.trans z) hb
    ·rw[hbe];exact z
   rw[q]at q';cases q';obtain⟨v,hv⟩:=heo;exact⟨v,by rw[hbe];exact hv⟩
  ·refine(ok b u q).stay (fun c v hc r=>k c v ?_ r) (fun c r=>by rw[ag (nown c b r)];exact r) fun c xs r=>by rw[ag (ntup c xs r)];exact r
   rcases hc with rfl|hc
   ·exact hbe
   ·rintro rfl;rcases he with z|z
    ·exact nown c b hc z
    ·rw[hc]at z;cases z;exact hb rfl
end
structure Un(fs ex:Ze)(H H':Hp)(h h':Heap):Prop where
 keep:∀b o,h.get? b=some o->H b=none->b∉fs->b∉ex->h'.get? b=some o
 slot:∀b o,h.get? b=some o->H b=none->b∈fs->b∉ex->∃sl,h'.get? b=some { o with slots:=sl }
 free:∀b o,h.get? b=some o->H b=none->b∉ex->H' b=none
 there:∀b o,h.get? b=some o->b∉ex->∃o',h'.get? b=some o'
 tups:∀b xs,H b=some (.tup xs)->H' b=some (.tup xs)
 frzs:∀b o u,H b=some (.frz o u)->H' b=some (.frz o u)
 tbls:∀b ps,H b=some (.tbl ps)->∃more,H' b=some (.tbl (ps++more))
section
variable{fs fs' ex ex':Ze}{H H1 H2:Hp}{h h1 h2 h':Heap}{a x e:Addr}{o:HO}
theorem Un.any(u:Un fs ex H H1 h h1){b:Addr}{ob:Obj}(q:h.get? b=some ob)(n:H b=none)(hx:b∉ex):∃sl,h1.get? b=some { ob with slots:=sl }:=by
 by_cases hb:b∈fs
 ·exact u.slot b ob q n hb hx
 ·exact⟨ob.slots,u.keep b ob q n hb hx⟩
theorem Un.kept(k:∀b u,h.get? b=some u->h'.get? b=some u):Un fs ex H H h h' :=
 ⟨fun b ob q _ _ _=>k b ob q,fun b ob q _ _ _=>⟨ob.slots,k b ob q⟩,fun _ _ _ n _=>n,fun b ob q _=>⟨ob,k b ob q⟩,fun _ _ q=>q,fun _ _ _ q=>q,fun _ ps q=>⟨#[],by rw[q];simp⟩⟩
theorem Un.refl:Un fs ex H H h h:=Un.kept fun _ _ q=>q
theorem Un.laid(k:∀b u,h.get? b=some u->h'.get? b=some u)(hp:h.objs.size<=a)(hn:H a=none):Un fs ex H (upd H a o) h h' where
 keep:=fun b u q _ _ _=>k b u q
 slot:=fun b u q _ _ _=>⟨u.slots,k b u q⟩
 free:=fun b u q n _=>by rw[ag (b9 (cS (az q) hp))];exact n
 there:=fun b u q _=>⟨u,k b u q⟩
 tups:=fun b xs q=>by rw[ag (ae q hn)];exact q
 frzs:=fun b u xs q=>by rw[ag (ae q hn)];exact q
 tbls:=fun b ps q=>⟨#[],by rw[ag (ae q hn),q];simp⟩
theorem Un.write(mu:Fg (H x))(he:e=x∨H e=some (.own x))(k:∀b u,b≠e->h.get? b=some u->h'.get? b=some u)(heo:∃u,h'.get? e=some u):Un fs ex H (upd H x o) h h':=by
 have hx:∀b,H b=none->b≠x:=fun b n z=>by subst z;rw[n]at mu;exact mu
 have hb:∀b,H b=none->b≠e:=fun b n z=>by
  subst z;rcases he with r|r
  ·exact hx b n r
  ·rw[n]at r;cases r
 have hm:∀b u,H b=some u->¬Fg (some u)->b≠x:=fun b u q nm z=>by subst z;rw[q]at mu;exact nm mu
 refine⟨fun b u q n _ _=>k b u (hb b n) q,fun b u q n _ _=>⟨u.slots,k b u (hb b n) q⟩,fun b u q n _=>by rw[ag (hx b n)];exact n,fun b u q _=>?_,
  fun b xs q=>by rw[ag (hm b _ q fun z=>z)];exact q,fun b u xs q=>by rw[ag (hm b _ q fun z=>z)];exact q,fun b ps q=>⟨#[],by rw[ag (hm b _ q fun z=>z),q];simp⟩⟩
 by_cases hbe:b=e
 ·subst hbe;exact heo
 ·exact⟨u,k b u hbe q⟩
end
def Ft(h:Heap)(H:Hp):List Addr:=(mF h.objs.size).filter fun a=>(H a).isSome
def u7(h:Heap)(H:Hp):Heap:=PySem.W.hideAll h (Ft h H)
theorem AB(h:Heap)(H:Hp):(u7 h H).objs.size=h.objs.size:=PySem.W.hideAll_size _ _
theorem BN{h:Heap}{H:Hp}{b:Addr}{o:Obj}(e:h.get? b=some o)(n:H b=none):(u7 h H).get? b=some o :=
 PySem.W.hideAll_get _ e fun hm=>by
  have q:(H b).isSome=true:=(d9.mp hm).2;rw[n]at q;simp at q
theorem C2{h:Heap}{H:Hp}{b:Addr}{o:Obj}(e:(u7 h H).get? b=some o):h.get? b=some o/\H b=none:=by
 have e':h.get? b=some o:=PySem.W.of_hideAll (Ft h H) e;refine⟨e',?_⟩;cases q:H b with
 |none=>rfl
 |some x =>
  have hm:b∈Ft h H:=d9.mpr ⟨List.mem_range.mpr (az e'),by simp[q]⟩;have z:(u7 h H).get? b=none:=PySem.W.hideAll_none (Ft h H) hm;rw[z]at e;cases e
end L2
namespace L2
open PySem PySem.Spec PyProof.Rows
structure Mod(K:Za)(mg:Str->Option Value)(base:Heap):Prop where
 kin:K.In base
 glob:base.Ns bL mg
 blt:∃mb,base.Ns builtinsNs mb/\∀x:Str,x≠"__name__"->mb x=ic x
 nolimit:base.NoLimit
structure Cx where
 prog:bx
 w:World
 K:Za
 mg:Str->Option Value
 base:Heap
 A:Around
 N:List Str
 s₀:Shared
 H₀:Hp
 env:Env
 outer:List Env
 stack:List Env
 ex:List Addr
 fn:Str->Bool
 calm:Bool
 pn:List (Addr×Obj)
 xe:Value->Shared->Prop
def AY(l:List Env):List Addr:=l.filterMap (·.frame)
abbrev Cx.fs(X:Cx):List Addr:=AY X.outer
def Vis(sc:Scope)(x:Str):Prop:=sc.names.lookup x=some .local∨sc.names.lookup x=some .cell∨sc.names.lookup x=some .free
def Loc(sc:Scope)(x:Str):Prop:=sc.names.lookup x=some .local∨sc.names.lookup x=some .cell
def Look(env:Env)(h:Heap)(m:Str->Option Value)(x:Str)(u:Value):Prop :=
 (env.kindOf x=some .local/\m x=some u)∨((env.kindOf x=some .cell∨env.kindOf x=some .free)/\∃c,env.cells.lookup x=some c/\h.IsCell c (some u))
structure Cx.Ok(X:Cx):Prop where
 mod:Mod X.K X.mg X.base
 kind:X.env.scope.kind=.function
 glob:X.env.globals=bL
 blt:X.env.builtins=builtinsNs
 above:X.s₀.heap.objs.size<=X.env.locals
 inj:∀x y c,X.env.cells.lookup x=some c->X.env.cells.lookup y=some c->x=y
 has:∀x,(X.env.kindOf x=some .cell∨X.env.kindOf x=some .free)->∃c,X.env.cells.lookup x=some c
 cab:∀x c,X.fn x=true->X.env.cells.lookup x=some c->X.s₀.heap.objs.size<=c
 hd:X.calm=true->X.A.handled=none
 frames:X.A.frames=some X.stack
 stk:X.stack=X.outer∨(X.stack=X.env::X.outer/\X.env.frame=some X.env.locals)
 exf:∀b∈X.ex,b≠X.env.locals/\∀x c,X.env.cells.lookup x=some c->c≠b
 bs:∀b o,X.base.get? b=some o->X.s₀.heap.get? b=some o/\X.H₀ b=none
 bsz:X.base.objs.size<=X.s₀.heap.objs.size
 noex:∀b o,X.base.get? b=some o->b∉X.ex
 exfs:∀b∈X.ex,b∉X.fs
 funs:X.s₀.heap.FunFrames X.base X.outer
 frf:∀b∈X.fs,X.H₀ b=none
structure Inv(X:Cx)(J6:Zd)(σ:List (Option V))(H:Hp)(s:Shared):Prop where
 ok:X.Ok
 os:s.os=X.s₀.os
 bare:mE s.gens
 base:Un X.fs X.ex X.H₀ H X.s₀.heap s.heap
 loc:∃m,s.heap.Ns X.env.locals m/\∀(i:Nat) (x:Str) (v:V),X.N[i]?=some x->σ[i]?=some (some v)->Vis X.env.scope x->∃u,RelV v u/\Look X.env s.heap m x u
 cell:∀x c,X.env.cells.lookup x=some c->∃v,s.heap.IsCell c v
 free:H X.env.locals=none
 freeC:∀x c,X.env.cells.lookup x=some c->H c=none
 pin:∀p∈X.pn++J6,s.heap.get? p.1=some p.2/\H p.1=none/\p.1≠X.env.locals/\p.1∉X.fs/\∀v,p.2.data≠.cell v
 hok:kN X.prog X.w X.K H s.heap
 len:σ.length=X.N.length
section
variable{X:Cx}{J6:Zd}{σ:List (Option V)}{H H':Hp}{s:Shared}{h':Heap}
theorem Cx.Ok.nofr(ok:X.Ok){b:Addr}{o:Obj}(e:X.base.get? b=some o):b∉X.fs:=fun hb=>by
 have:=(ok.funs.mem hb).1;rw[e]at this;cases this
theorem Inv.bs(I:Inv X J6 σ H s):∀b o,X.base.get? b=some o->s.heap.get? b=some o/\H b=none:=fun b o e =>
 ⟨I.base.keep b o (I.ok.bs b o e).1 (I.ok.bs b o e).2 (I.ok.nofr e) (I.ok.noex b o e),I.base.free b o (I.ok.bs b o e).1 (I.ok.bs b o e).2 (I.ok.noex b o e)⟩
theorem Inv.bk(I:Inv X J6 σ H s):∀b o,X.base.get? b=some o->s.heap.get? b=some o:=fun b o e=>(I.bs b o e).1
theorem Inv.mod(I:Inv X J6 σ H s):Mod X.K X.mg X.base:=I.ok.mod
theorem Inv.kIn(I:Inv X J6 σ H s):X.K.In s.heap:=I.ok.mod.kin.keeps I.bk
theorem Inv.fr(I:Inv X J6 σ H s):∃m,Fr X.base X.env.locals s.heap m :=
 let⟨m,hn,_⟩:=I.loc
 ⟨m,hn,I.bk,bq I.ok.bsz I.ok.above⟩
theorem Inv.lt(I:Inv X J6 σ H s):X.env.locals<s.heap.objs.size:=let⟨_,hn,_⟩:=I.loc;hn.lt
theorem Inv.sz(I:Inv X J6 σ H s):X.s₀.heap.objs.size<=s.heap.objs.size:=bq I.ok.above (dH I.lt)
theorem Inv.nofs(I:Inv X J6 σ H s){a:Addr}(h:s.heap.objs.size<=a):a∉X.fs:=fun hb=>by
 obtain⟨_,o,ho,_⟩:=I.ok.funs.mem hb;exact absurd (cS (az ho) (bq I.sz h)) (iQ _)
theorem Inv.cne(I:Inv X J6 σ H s):∀x c,X.env.cells.lookup x=some c->c≠X.env.locals:=fun x c e z=>by
 obtain⟨v,o,ho,hd⟩:=I.cell x c e;obtain⟨m,⟨o',es,ep,ho',hd',_⟩,_⟩:=I.loc;rw[z,ho']at ho;cases ho;rw[hd']at hd;cases hd
theorem Inv.funs(I:Inv X J6 σ H s):s.heap.FunFrames X.base X.outer:=by
 have all:∀(l:List Env),(∀b∈AY l,b∈X.fs)->X.s₀.heap.FunFrames X.base l->s.heap.FunFrames X.base l:=by
  intro l
  induction l with
  |nil=>intro _ _;trivial
  |cons env r ih =>
   intro hs hl;obtain⟨hk,⟨L,o,hf,hn,ho,hd⟩,hr⟩:=hl;have hL:L∈X.fs:=hs L (by unfold AY;rw[List.filterMap_cons,hf];exact fg);obtain⟨sl,e⟩:=I.base.slot L o ho (I.ok.frf L hL) hL fun z=>I.ok.exfs L z hL;exact⟨hk,⟨L,_,hf,hn,e,hd⟩,ih (fun b hb=>hs b (by unfold AY;rw[List.filterMap_cons,hf];exact ff _ hb)) hr⟩
 exact all X.outer (fun _ hb=>hb) I.ok.funs
theorem Inv.stack(I:Inv X J6 σ H s):s.heap.FunFrames X.base X.stack:=by
 rcases I.ok.stk with e|⟨e,hf⟩
 ·rw[e];exact I.funs
 ·rw[e];obtain⟨m,hn,_⟩:=I.loc;refine .cons (by rw[I.ok.kind];decide) hf hn ?_ I.funs;exact Heap.get?_none_of_le (bq I.ok.bsz I.ok.above)
theorem Inv.stkSub(I:Inv X J6 σ H s):∀b∈AY X.stack,b∈X.env.locals::X.fs:=fun b hb=>by
 rcases I.ok.stk with e|⟨e,hf⟩
 ·rw[e]at hb;exact ff _ hb
 ·rw[e]at hb;unfold AY at hb;rw[List.filterMap_cons,hf]at hb;exact hb
theorem Inv.stkFree(I:Inv X J6 σ H s):∀b∈AY X.stack,H b=none:=fun b hb=>by
 rcases cR.mp (I.stkSub b hb)with e|hb
 ·rw[e];exact I.free
 ·obtain⟨_,o,ho,_⟩:=I.ok.funs.mem hb;exact I.base.free b o ho (I.ok.frf b hb) fun z=>I.ok.exfs b z hb
theorem Inv.step{g':Array GenState}{t':Nat}{d':Drawn}{ch:Ze}(I:Inv X J6 σ H s)
  (hch:∀b∈ch,(b∈X.ex∨X.s₀.heap.objs.size<=b)/\b≠X.env.locals/\(∀x c,X.env.cells.lookup x=some c->c≠b)/\∀p∈X.pn++J6,p.1≠b)
  (keep:∀b o,b≠X.env.locals->b∉X.fs->b∉ch->s.heap.get? b=some o->H b=none->h'.get? b=some o)
  (slot:∀b o,b≠X.env.locals->b∈X.fs->b∉ch->s.heap.get? b=some o->H b=none->∃sl,h'.get? b=some { o with slots:=sl }) (free:∀b o,b∉ch->s.heap.get? b=some o->H b=none->H' b=none)
  (there:∀b o,b∉ch->s.heap.get? b=some o->∃o',h'.get? b=some o')
  (tups:∀b xs,H b=some (.tup xs)->H' b=some (.tup xs)) (frzs:∀b o u,H b=some (.frz o u)->H' b=some (.frz o u)) (tbls:∀b ps,H b=some (.tbl ps)->∃more,H' b=some (.tbl (ps++more)))
  (ns:∀m,s.heap.Ns X.env.locals m->h'.Ns X.env.locals m) (hok:kN X.prog X.w X.K H' h') (hg:mE g') :
  Inv X J6 σ H' { s with heap:=h',gens:=g',drawn:=d',toks:=t' }:=by
 have neL:∀b o,X.s₀.heap.get? b=some o->b≠X.env.locals:=fun b o e=>b9 (cS (az e) I.ok.above);have neC:∀b o,X.s₀.heap.get? b=some o->b∉X.ex->b∉ch:=fun b o e hx hb=>by
  rcases(hch b hb).1 with z|z
  ·exact hx z
  ·exact absurd (cS (az e) z) (iQ _)
 have cellK:∀x c,X.env.cells.lookup x=some c->∀v,s.heap.IsCell c v->h'.IsCell c v:=fun x c e v ⟨o,ho,hd⟩=>by
  have nch:c∉ch:=fun z=>(hch c z).2.2.1 x c e rfl;by_cases hc:c∈X.fs
  ·obtain⟨sl,q⟩:=slot c o (I.cne x c e) hc nch ho (I.freeC x c e);exact⟨_,q,hd⟩
  ·exact⟨o,keep c o (I.cne x c e) hc nch ho (I.freeC x c e),hd⟩
 refine⟨I.ok,I.os,hg,⟨fun b o e n hb hx=>?_,fun b o e n hb hx=>?_,fun b o e n hx=>?_,fun b o e hx=>?_,fun b xs e=>tups b xs (I.base.tups b xs e),fun b o xs e=>frzs b o xs (I.base.frzs b o xs e),fun b ps e=>?_⟩,?_,fun x c e=>?_,?_,fun x c e=>?_,fun p hp=>?_,hok,I.len⟩
 ·exact keep b o (neL b o e) hb (neC b o e hx) (I.base.keep b o e n hb hx) (I.base.free b o e n hx)
 ·obtain⟨sl,e1⟩:=I.base.slot b o e n hb hx;obtain⟨sl',e2⟩:=slot b _ (neL b o e) hb (neC b o e hx) e1 (I.base.free b o e n hx);exact⟨sl',e2⟩
 ·obtain⟨o',e1⟩:=I.base.there b o e hx;exact free b o' (neC b o e hx) e1 (I.base.free b o e n hx)
 ·obtain⟨o',e1⟩:=I.base.there b o e hx;exact there b o' (neC b o e hx) e1
 ·obtain⟨m1,e1⟩:=I.base.tbls b ps e;obtain⟨m2,e2⟩:=tbls b _ e1;exact⟨m1++m2,by rw[e2,Array.append_assoc]⟩
 ·obtain⟨m,hn,hl⟩:=I.loc;refine⟨m,ns m hn,fun i x v e1 e2 e3=>?_⟩;obtain⟨u,r,l⟩:=hl i x v e1 e2 e3;refine⟨u,r,?_⟩;rcases l with l|⟨k,c,e,z⟩
  ·exact .inl l
  ·exact .inr ⟨k,c,e,cellK x c e _ z⟩
 ·obtain⟨v,z⟩:=I.cell x c e;exact⟨v,cellK x c e v z⟩
 ·obtain⟨m,⟨o,_,_,ho,_⟩,_⟩:=I.loc;exact free _ o (fun z=>(hch _ z).2.1 rfl) ho I.free
 ·obtain⟨v,o,ho,hd⟩:=I.cell x c e;exact free c o (fun z=>(hch c z).2.2.1 x c e rfl) ho (I.freeC x c e)
 ·obtain⟨e,n,ne,nf,d⟩:=I.pin p hp;have nch:p.1∉ch:=fun z=>(hch p.1 z).2.2.2 p hp rfl;exact⟨keep p.1 p.2 ne nf nch e n,free p.1 p.2 nch e n,ne,nf,d⟩
theorem Inv.un{t':Nat}(I:Inv X J6 σ H s)(u:Un X.fs [] H H' s.heap h')(hok:kN X.prog X.w X.K H' h'):Inv X J6 σ H' { s with heap:=h',toks:=t' }:=by
 obtain⟨m,⟨o,es,ep,ho,r⟩,_⟩:=id I.loc;obtain⟨sl,hL⟩:=u.any ho I.free (by simp);exact I.step (g':=s.gens) (d':=s.drawn) (ch:=[]) (fun _ z=>nomatch z) (fun b o _ hb _ e n=>u.keep b o e n hb (by simp)) (fun b o _ hb _ e n=>u.slot b o e n hb (by simp)) (fun b o _ e n=>u.free b o e n (by simp)) (fun b o _ e=>u.there b o e (by simp)) u.tups u.frzs u.tbls (fun m' hm=>by
  obtain⟨o',es',ep',ho',r'⟩:=hm;rw[ho]at ho';cases ho';exact⟨_,es',ep',hL,r'⟩) hok I.bare
theorem Inv.call{g':Array GenState}{t':Nat}{d':Drawn}{ch:Ze}(I:Inv X J6 σ H s)(u:Un (AY X.stack) ch H H' s.heap h')(hok:kN X.prog X.w X.K H' h')(hg:mE g')
  (hch:∀b∈ch,(b∈X.ex∨X.s₀.heap.objs.size<=b)/\b≠X.env.locals/\(∀x c,X.env.cells.lookup x=some c->c≠b)/\∀p∈X.pn++J6,p.1≠b) :
  Inv X J6 σ H' { s with heap:=h',gens:=g',drawn:=d',toks:=t' }:=by
 obtain⟨m,⟨o,es,ep,ho,r⟩,_⟩:=id I.loc;obtain⟨sl,hL⟩:=u.any ho I.free fun z=>(hch _ z).2.1 rfl;exact I.step (ch:=ch) hch (fun b o hL hb hc e n=>u.keep b o e n (fun z=>(cR.mp (I.stkSub b z)).elim hL hb) hc) (fun b o _ _ hc e n=>u.any e n hc) (fun b o hc e n=>u.free b o e n hc) (fun b o hc e=>u.there b o e hc) u.tups u.frzs u.tbls (fun m' hm=>by
  obtain⟨o',es',ep',ho',r'⟩:=hm;rw[ho]at ho';cases ho';exact⟨_,es',ep',hL,r'⟩) hok hg
theorem Inv.turned{t':Nat}{it:Addr}(I:Inv X J6 σ H s)(k:∀b o,b≠it->s.heap.get? b=some o->h'.get? b=some o)(hn:H it=none)(hL:it≠X.env.locals)
  (h1:it∈X.ex∨X.s₀.heap.objs.size<=it) (h2:∀x c,X.env.cells.lookup x=some c->c≠it) (h3:∀p∈X.pn++J6,p.1≠it):Inv X J6 σ H { s with heap:=h',toks:=t' }:=by
 have nit:∀b u,H b=some u->b≠it:=fun b u e z=>by rw[z,hn]at e;cases e
 refine I.step (g':=s.gens) (d':=s.drawn) (ch:=[it]) (fun b hb=>?_) (fun b o _ _ hc e _=>k b o (fun z=>hc (by simp[z])) e) (fun b o _ _ hc e _=>⟨o.slots,k b o (fun z=>hc (by simp[z])) e⟩) (fun _ _ _ _ n=>n)
  (fun b o hc e=>⟨o,k b o (fun z=>hc (by simp[z])) e⟩) (fun _ _ e=>e) (fun _ _ _ e=>e) (fun b ps e=>⟨#[],by rw[e];simp⟩) (fun m hm=>?_) (fun b u e=>?_) I.bare
 ·have e:b=it:=by simpa using hb
  subst e;exact⟨h1,hL,h2,h3⟩
 ·obtain⟨o,es,ep,ho,r⟩:=hm;exact⟨o,es,ep,k _ o (cA hL) ho,r⟩
 ·refine(I.hok b u e).stay (fun c v hc q=>k c v ?_ q) (fun _ q=>q) fun _ _ q=>q;rcases hc with z|z
  ·rw[z];exact nit b u e
  ·exact nit c _ z
theorem Inv.tok(I:Inv X J6 σ H s)(t:Nat):Inv X J6 σ H { s with toks:=t }:=I.un (h':=s.heap) (t':=t) Un.refl I.hok
theorem Inv.kept{t':Nat}(I:Inv X J6 σ H s)(k:∀b u,s.heap.get? b=some u->h'.get? b=some u):Inv X J6 σ H { s with heap:=h',toks:=t' }:=I.un (Un.kept k) (I.hok.kept k)
theorem Inv.laid{a:Addr}{o:HO}{t':Nat}(I:Inv X J6 σ H s)(k:∀b u,s.heap.get? b=some u->h'.get? b=some u)(hp:s.heap.objs.size<=a)(new:bP X.prog X.w X.K (upd H a o) h' a o):
  Inv X J6 σ (upd H a o) { s with heap:=h',toks:=t' }:=I.un (Un.laid k hp (I.hok.fresh hp)) (I.hok.laid k hp new)
theorem Inv.write{x e:Addr}{o:HO}{t':Nat}(I:Inv X J6 σ H s)(mu:Fg (H x))(he:e=x∨H e=some (.own x))(k:∀b u,b≠e->s.heap.get? b=some u->h'.get? b=some u)(heo:∃u,h'.get? e=some u)
  (new:bP X.prog X.w X.K (upd H x o) h' x o):Inv X J6 σ (upd H x o) { s with heap:=h',toks:=t' }:=I.un (Un.write mu he k heo) (I.hok.write mu he k heo new)
theorem Inv.weak{σ':List (Option V)}(I:Inv X J6 σ H s)(hl:σ'.length=σ.length)(w:∀(i:Nat) v,σ'[i]?=some (some v)->σ[i]?=some (some v)):Inv X J6 σ' H s :=
 ⟨I.ok,I.os,I.bare,I.base,let⟨m,hn,hl'⟩:=I.loc;⟨m,hn,fun i x v e1 e2 e3=>hl' i x v e1 (w i v e2) e3⟩,I.cell,I.free,I.freeC,I.pin,I.hok,hl.trans I.len⟩
theorem Inv.pins_of{pins':Zd}(I:Inv X J6 σ H s)(h:∀p∈pins',s.heap.get? p.1=some p.2/\H p.1=none/\p.1≠X.env.locals/\p.1∉X.fs/\∀v,p.2.data≠.cell v):Inv X pins' σ H s :=
 ⟨I.ok,I.os,I.bare,I.base,I.loc,I.cell,I.free,I.freeC,fun p hp=>(bp.mp hp).elim (fun z=>I.pin p (dq _ z)) (h p),I.hok,I.len⟩
theorem wc{N:Zb}(hN:N.Nodup){i j:Nat}{x:Str}(a:N[i]?=some x)(b:N[j]?=some x):i=j:=by
 obtain⟨h1,e1⟩:=bJ.mp a;obtain⟨h2,e2⟩:=bJ.mp b;exact(List.getElem_inj hN).mp (e1.trans e2.symm)
theorem tf{M:Model}{A:Around}{E:Zc}{i:Nat}{x:Str}{v:V}{u:Value}{Q:Unit->Shared->Prop}(I:Inv X J6 σ H s)(hN:X.N.Nodup)(hi:X.N[i]?=some x)(hx:Loc X.env.scope x)(r:RelV v u)
  (h:∀s',Inv X J6 (σ.set i (some v)) H s'->(∃a,d6 a s.heap s'.heap/\(a=X.env.locals∨X.env.cells.lookup x=some a))->Q () s') (hf:X.fn x=true∨X.env.scope.names.lookup x=some .local:=by first|exact .inl rfl|exact .inr rfl|assumption):wpAny M A (storeName X.env x u) Q E s:=by
 obtain⟨m,hn,hl⟩:=id I.loc;have hcls:(X.env.scope.kind==.class || (X.env.scope.kind==.module && X.env.locals != X.env.globals))=false:=by rw[I.ok.kind];rfl
 have hiσ:i<σ.length:=by rw[I.len];exact(bJ.mp hi).1
 have cne:=I.cne;have tracked:∀{a:Addr}{h':Heap},(∃o,s.heap.get? a=some o/\H a=none)->d6 a s.heap h'->kN X.prog X.w X.K H h':=fun{a h'} ha hs b ob e=>by
  obtain⟨_,_,hfree⟩:=ha;refine(I.hok b ob e).stay (fun c w' hc q=>(hs.2 c ?_).trans q) (fun _ q=>q) fun _ _ q=>q;rintro rfl;rcases hc with rfl|hc
  ·rw[hfree]at e;cases e
  ·rw[hfree]at hc;cases hc
 rcases hx with hk|hk
 ·refine wpAny_storeName_local hk hn (fun h' hn' hs=>?_) hcls;obtain⟨oL,_,_,hoL,_⟩:=id hn;refine h _ ⟨I.ok,I.os,I.bare,⟨fun b o e n hb hx=>?_,fun b o e n hb hx=>?_,I.base.free,fun b o e hx=>?_,I.base.tups,I.base.frzs,I.base.tbls⟩,⟨_,hn',fun j y v' e1 e2 e3=>?_⟩,fun y c e=>?_,I.free,I.freeC,fun p hp=>?_,tracked ⟨oL,hoL,I.free⟩ hs,by simpa using I.len⟩ ⟨_,hs,.inl rfl⟩
  ·exact(hs.2 b (b9 (cS (az e) I.ok.above))).trans (I.base.keep b o e n hb hx)
  ·obtain⟨sl,e1⟩:=I.base.slot b o e n hb hx;exact⟨sl,(hs.2 b (b9 (cS (az e) I.ok.above))).trans e1⟩
  ·obtain⟨o',e1⟩:=I.base.there b o e hx;exact⟨o',(hs.2 b (b9 (cS (az e) I.ok.above))).trans e1⟩
  ·by_cases hj:j=i
   ·subst hj;rw[hi]at e1;cases e1;rw[List.getElem?_set_self hiσ]at e2;cases e2;exact⟨u,r,.inl ⟨hk,by simp⟩⟩
   ·rw[List.getElem?_set_ne (cA hj)]at e2;obtain⟨u',r',q⟩:=hl j y v' e1 e2 e3;refine⟨u',r',?_⟩;rcases q with⟨k,e⟩|⟨k,c,e,z⟩
    ·refine .inl ⟨k,?_⟩;have:y≠x:=fun e=>hj (wc hN e1 (e▸hi));simp[this,e]
    ·exact .inr ⟨k,c,e,z.sameBut hs (cne y c e)⟩
  ·obtain⟨w',z⟩:=I.cell y c e;exact⟨w',z.sameBut hs (cne y c e)⟩
  ·obtain⟨e,n,ne,nf,d⟩:=I.pin p hp;exact⟨(hs.2 p.1 ne).trans e,n,ne,nf,d⟩
 ·have hfn:X.fn x=true:=by
   rcases hf with z|z
   ·exact z
   ·rw[z]at hk;cases hk
  obtain⟨c,hc⟩:=I.ok.has x (.inl hk);obtain⟨w',z⟩:=I.cell x c hc;refine wpAny_storeName_cell I.ok.kind hk hc z (fun h' hc' hs=>?_);obtain⟨oc,hoc,hocd⟩:=id z;refine h { s with heap:=h' } ⟨I.ok,I.os,I.bare,⟨fun b o e n hb hx=>?_,fun b o e n hb hx=>?_,I.base.free,fun b o e hx=>?_,I.base.tups,I.base.frzs,I.base.tbls⟩,⟨m,hn.sameBut hs (cA (cne x c hc)),fun j y v' e1 e2 e3=>?_⟩,fun y c' e=>?_,I.free,I.freeC,fun p hp=>?_,tracked ⟨oc,hoc,I.freeC x c hc⟩ hs,by simpa using I.len⟩ ⟨c,hs,.inr hc⟩
  ·exact(hs.2 b (b9 (cS (az e) (I.ok.cab x c hfn hc)))).trans (I.base.keep b o e n hb hx)
  ·obtain⟨sl,e1⟩:=I.base.slot b o e n hb hx;exact⟨sl,(hs.2 b (b9 (cS (az e) (I.ok.cab x c hfn hc)))).trans e1⟩
  ·obtain⟨o',e1⟩:=I.base.there b o e hx;exact⟨o',(hs.2 b (b9 (cS (az e) (I.ok.cab x c hfn hc)))).trans e1⟩
  ·by_cases hj:j=i
   ·subst hj;rw[hi]at e1;cases e1;rw[List.getElem?_set_self hiσ]at e2;cases e2;exact⟨u,r,.inr ⟨.inl hk,c,hc,hc'⟩⟩
   ·rw[List.getElem?_set_ne (cA hj)]at e2;obtain⟨u',r',q⟩:=hl j y v' e1 e2 e3;refine⟨u',r',?_⟩;rcases q with q|⟨k,c',e,z'⟩
    ·exact .inl q
    ·refine .inr ⟨k,c',e,z'.sameBut hs ?_⟩;rintro rfl;exact hj (wc hN e1 (I.ok.inj _ _ _ e hc▸hi))
  ·by_cases hcc:c'=c
   ·subst hcc;exact⟨_,hc'⟩
   ·obtain⟨w2,z2⟩:=I.cell y c' e;exact⟨w2,z2.sameBut hs hcc⟩
  ·obtain⟨e,n,ne,nf,d⟩:=I.pin p hp;refine⟨(hs.2 p.1 ?_).trans e,n,ne,nf,d⟩;intro q;rw[q,hoc]at e;have q':oc=p.2:=dI e;exact d w' (by rw[<-q'];exact hocd)
theorem vX{M:Model}{A:Around}{E:Zc}{i:Nat}{x:Str}{v:V}{u:Value}{Q:Unit->Shared->Prop}(I:Inv X J6 σ H s)(hN:X.N.Nodup)(hi:X.N[i]?=some x)(hx:Loc X.env.scope x)(r:RelV v u)
  (h:∀s',Inv X J6 (σ.set i (some v)) H s'->Q () s') (hf:X.fn x=true∨X.env.scope.names.lookup x=some .local:=by first|exact .inl rfl|exact .inr rfl|assumption):wpAny M A (storeName X.env x u) Q E s :=
 tf I hN hi hx r (fun s' I' _=>h s' I') hf
theorem Inv.call'{s':Shared}{ch:Ze}(I:Inv X J6 σ H s)(ho:s'.os=s.os)(u:Un (AY X.stack) ch H H' s.heap s'.heap)(hok:kN X.prog X.w X.K H' s'.heap)(hg:mE s'.gens)
  (hch:∀b∈ch,(b∈X.ex∨X.s₀.heap.objs.size<=b)/\b≠X.env.locals/\(∀x c,X.env.cells.lookup x=some c->c≠b)/\∀p∈X.pn++J6,p.1≠b):Inv X J6 σ H' s':=by
 obtain⟨h',g',d',t',o'⟩:=s';have e:o'=s.os:=ho;subst e;exact I.call (g':=g') (t':=t') (d':=d') u hok hg hch
end
abbrev XK:=Value->Option Addr->Hp->Prop
abbrev St:=List (Option V)
abbrev VK:=V->Hp->Prop
abbrev TE:=St->Hp->VK->Prop
abbrev TT:=St->Hp->(Bool->Hp->Prop)->Prop
abbrev TA:=St->Hp->(List V->Hp->Prop)->Prop
structure nO where
 nx:St->Hp->Prop
 rt:VK
 bk:St->Hp->Prop:=fun _ _=>False
 ct:St->Hp->Prop:=fun _ _=>False
abbrev bN(Q:VK):nO:={ nx:=fun _ H=>Q .non H,rt:=Q }
abbrev TS:=nO->St->Hp->Prop
def EP(X:Cx)(J6:Zd)(σ:St)(Q:VK)(u:Value)(s':Shared):Prop:=∃v H',Inv X J6 σ H' s'/\RelV v u/\Q v H'
def TP(X:Cx)(J6:Zd)(σ:St)(Q:Bool->Hp->Prop)(b:Bool)(s':Shared):Prop:=∃H',Inv X J6 σ H' s'/\Q b H'
def AP(X:Cx)(J6:Zd)(σ:St)(Q:List V->Hp->Prop)(us:Zf)(s':Shared):Prop:=∃vs H',Inv X J6 σ H' s'/\aW vs us/\Q vs H'
def SP(X:Cx)(J6:Zd)(D:nO)(f:Flow)(s':Shared):Prop :=
 match f with
 |.next=>∃σ' H',Inv X J6 σ' H' s'/\D.nx σ' H'
 |.brk=>∃σ' H',Inv X J6 σ' H' s'/\D.bk σ' H'
 |.cont=>∃σ' H',Inv X J6 σ' H' s'/\D.ct σ' H'
 |.ret u=>∃v σ' H',Inv X J6 σ' H' s'/\RelV v u/\D.rt v H'
def PE(X:Cx)(e:Expr)(t:TE):Prop :=
 ∀(J6:Zd) (s:Shared) (σ:St) (H:Hp) (Q:VK),Inv X J6 σ H s->t σ H Q->wpAny (model X.prog X.w) X.A (eval e X.env) (EP X J6 σ Q) X.xe s
def PT(X:Cx)(e:Expr)(t:TT):Prop :=
 ∀(J6:Zd) (s:Shared) (σ:St) (H:Hp) (Q:Bool->Hp->Prop),Inv X J6 σ H s->t σ H Q->wpAny (model X.prog X.w) X.A (isTrue e X.env (eval e X.env)) (TP X J6 σ Q) X.xe s
def PW(X:Cx)(e:Expr)(t:TT):Prop :=
 ∀(whole:Sem Value) (J6:Zd) (s:Shared) (σ:St) (H:Hp) (Q:Bool->Hp->Prop),Inv X J6 σ H s->t σ H Q->wpAny (model X.prog X.w) X.A (isTrue e X.env whole) (TP X J6 σ Q) X.xe s
theorem PW.pt{X:Cx}{e:Expr}{t:TT}(h:PW X e t):PT X e t:=h _
def PA(X:Cx)(es:List Expr)(t:TA):Prop :=
 ∀(pos:Pos) (J6:Zd) (s:Shared) (σ:St) (H:Hp) (Q:List V->Hp->Prop),Inv X J6 σ H s->t σ H Q->wpAny (model X.prog X.w) X.A (spliced (backTo pos (ay es X.env))) (AP X J6 σ Q) X.xe s
def PS(X:Cx)(st:Stmt)(t:TS):Prop :=
 ∀(J6:Zd) (s:Shared) (σ:St) (H:Hp) (D:nO),Inv X J6 σ H s->t D σ H->wpAny (model X.prog X.w) X.A (exec st X.env) (SP X J6 D) X.xe s
def wR(X:Cx)(st:List Stmt)(t:TS):Prop :=
 ∀(J6:Zd) (s:Shared) (σ:St) (H:Hp) (D:nO),Inv X J6 σ H s->t D σ H->wpAny (model X.prog X.w) X.A (execs st X.env) (SP X J6 D) X.xe s
theorem cp{α:Type}{t:Sem α}{Q Q':α->Shared->Prop}{M:Model}{A:Around}{E:Zc}{s:Shared}(h:wpAny M A t Q E s)(hQ:∀a s,Q a s->Q' a s):wpAny M A t Q' E s:=mG h hQ fun _ _ x=>x
end L2
namespace L2
open PySem PySem.Spec PyProof.Rows
section
variable{X:Cx}
def lP(i:Nat):TE:=fun σ H Q=>∃v,σ[i]?=some (some v)/\Q v H
abbrev V0:TE:=lP 0
abbrev V1:TE:=lP 1
abbrev V2:TE:=lP 2
abbrev V3:TE:=lP 3
abbrev V4:TE:=lP 4
abbrev V5:TE:=lP 5
abbrev V6:TE:=lP 6
abbrev V7:TE:=lP 7
abbrev V8:TE:=lP 8
abbrev V9:TE:=lP 9
abbrev Fd:TE:=lP 10
abbrev V11:TE:=lP 11
abbrev V12:TE:=lP 12
def tC(v:V):TE:=fun _ H Q=>Q v H
theorem Ec{i:Nat}{x:Str}{pos:Pos}(hN:X.N[i]?=some x)(hv:Vis X.env.scope x)(hd:(x==("__debug__":Str))=false:=by decide)(hcd:(x==("__classdict__":Str))=false:=by decide):PE X (.Name x pos) (lP i):=by
 intro J6 s σ H Q I h;obtain⟨v,e,h⟩:=h;obtain⟨m,hn,hl⟩:=I.loc;obtain⟨u,r,l⟩:=hl i x v hN e hv;have fin:EP X J6 σ Q u s:=⟨v,H,I,r,h⟩;rcases l with⟨hk,hm⟩|⟨hk,c,hc,hcell⟩
 ·exact wpAny_Name (wpAny_loadName_local I.ok.kind hk hn hm fin) hd
 ·rcases hk with hk|hk
  ·exact wpAny_Name (wpAny_loadName_cell I.ok.kind hk hc hcell fin) hd
  ·exact wpAny_Name (wpAny_loadName_free I.ok.kind hk hc hcell fin hcd) hd
theorem ah{i j pos}:PE X (.Constant (.int i) j pos) (tC (.int i)):=fun _ _ _ H _ I h=>wpAny_Constant_int ⟨.int i,H,I.tok _,⟨_,rfl⟩,h⟩
theorem cL{b j pos}:PE X (.Constant (.bool b) j pos) (tC (.bl b)):=fun _ _ _ H _ I h=>Constant_bool ⟨.bl b,H,I,rfl,h⟩
theorem xK{j pos}:PE X (.Constant .none j pos) (tC .non):=fun _ _ _ H _ I h=>Constant_none ⟨.non,H,I,rfl,h⟩
theorem bY{x j pos}:PE X (.Constant (.str x) j pos) (tC (.str x)):=fun _ _ _ H _ I h=>Calls.Constant_str ⟨.str x,H,I.tok _,⟨_,rfl⟩,h⟩
def Gl(X:Cx)(x:Str):Prop:=X.env.kindOf x=some .globalImplicit
theorem uV{E:Zc}{J6:Zd}{s:Shared}{σ:St}{H:Hp}{x:Str}{u:Value}{pos:Pos}{Q:Zc}(I:Inv X J6 σ H s)(hg:Gl X x)(hm:X.mg x=some u)(h:Q u s)
  (hd:(x==("__debug__":Str))=false:=by decide):wpAny (model X.prog X.w) X.A (eval (.Name x pos) X.env) Q E s :=
 Calls.Name_function_global I.ok.kind hg (Calls.loadGlobal_global (by rw[I.ok.glob];exact I.mod.glob.keeps I.bk) hm h) hd
theorem jA{E:Zc}{J6:Zd}{s:Shared}{σ:St}{H:Hp}{x:Str}{u:Value}{pos:Pos}{Q:Zc}(I:Inv X J6 σ H s)(hg:Gl X x)(hm:X.mg x=none)(hv:ic x=some u)(h:Q u s)
  (hn:x≠"__name__":=by decide) (hd:(x==("__debug__":Str))=false:=by decide):wpAny (model X.prog X.w) X.A (eval (.Name x pos) X.env) Q E s:=by
 obtain⟨mb,h1,h2⟩:=I.mod.blt;exact Calls.Name_function_global I.ok.kind hg (Calls.loadGlobal_builtin (by rw[I.ok.glob];exact I.mod.glob.keeps I.bk) hm (by rw[I.ok.blt];exact h1.keeps I.bk) ((h2 x hn).trans hv) h) hd
theorem CW{x:Str}{v:V}{u:Value}{pos:Pos}(hg:Gl X x)(hm:X.mg x=some u)(r:RelV v u)(hd:(x==("__debug__":Str))=false:=by decide):PE X (.Name x pos) (tC v) :=
 fun _ _ _ H _ I h=>uV I hg hm ⟨v,H,I,r,h⟩ hd
theorem ng{x:Str}{v:V}{u:Value}{pos:Pos}(hg:Gl X x)(hm:X.mg x=none)(hv:ic x=some u)(r:RelV v u)(hn:x≠"__name__":=by decide)(hd:(x==("__debug__":Str))=false:=by decide):PE X (.Name x pos) (tC v) :=
 fun _ _ _ H _ I h=>jA I hg hm hv ⟨v,H,I,r,h⟩ hn hd
variable{a b:Expr}{ta tb:TE}{pos:Pos}
def PC(X:Cx)(op:CmpOp)(a b:Expr)(t:TE):Prop :=
 ∀(J6:Zd) (s:Shared) (σ:St) (H:Hp) (Q:VK),Inv X J6 σ H s->t σ H Q ->
  wpAny (model X.prog X.w) X.A (eval a X.env) (fun v s₁=>wpAny (model X.prog X.w) X.A (eval b X.env) (fun u s₂=>wpAny (model X.prog X.w) X.A (cJ op v u) (EP X J6 σ Q) X.xe s₂) X.xe s₁) X.xe s
theorem wd(b:Expr){op:CmpOp}(h:op≠.In)(h2:op≠.NotIn):jO op b=false:=by
 have e1:(op==CmpOp.In)=false:=by cases op<;>first|rfl|exact absurd rfl h
 have e2:(op==CmpOp.NotIn)=false:=by cases op<;>first|rfl|exact absurd rfl h2
 cases b<;>simp[jO,e1,e2]
def DV(ta:TE):TE:=fun σ H Q=>ta σ H fun x H1=>Q (.bl (decide (x=.non))) H1
def Dq(ta:TE):TE:=fun σ H Q=>ta σ H fun x H1=>Q (.bl (!decide (x=.non))) H1
theorem RelV.none_iff{x:V}{v:Value}(r:RelV x v):(v==Value.none)=decide (x=.non):=by
 cases x with
 |non=>cases r;rfl
 |bl _=>cases r;rfl
 |int _=>obtain⟨t,rfl⟩:=r;rfl
 |str _=>obtain⟨t,rfl⟩:=r;rfl
 |byt _=>obtain⟨t,rfl⟩:=r;rfl
 |flt _=>obtain⟨t,rfl⟩:=r;rfl
 |ref _=>cases r;rfl
 |ty _=>cases r;rfl
theorem Bv{j pos'}(ha:PE X a ta):PC X .Is a (.Constant .none j pos') (DV ta):=by
 intro J6 s σ H Q I h;refine cp (ha J6 s σ H _ I h) fun v s1 zq0=>?_;obtain⟨x,H1,I1,r1,q1⟩:=zq0;exact Constant_none (is_none_gen ⟨.bl _,H1,I1,by rw[r1.none_iff];rfl,q1⟩)
theorem C0{j pos'}(ha:PE X a ta):PC X .IsNot a (.Constant .none j pos') (Dq ta):=by
 intro J6 s σ H Q I h;refine cp (ha J6 s σ H _ I h) fun v s1 zq0=>?_;obtain⟨x,H1,I1,r1,q1⟩:=zq0;exact Constant_none (isnot_none_gen ⟨.bl _,H1,I1,by rw[r1.none_iff];rfl,q1⟩)
def tB(t:TE):TT:=fun σ H Q=>t σ H fun x H1=>∃c,x=.bl c/\Q c H1
theorem Bu{op:CmpOp}{t:TE}(h:PC X op a b t)(h1:jO op b=false:=by first|exact wd _ (by decide) (by decide)|rfl):PE X (.Compare a [op] [b] pos) t:=fun J6 s σ H Q I hw=>wpAny_Compare1 (h J6 s σ H Q I hw) h1
theorem fx{op:CmpOp}{t:TE}(h:PC X op a b t)(h1:jO op b=false:=by first|exact wd _ (by decide) (by decide)|rfl):PT X (.Compare a [op] [b] pos) (tB t):=by
 intro J6 s σ H Q I hw;refine wpAny_isTrue_Compare1 (cp (h J6 s σ H _ I hw) fun v s1 h1=>cp h1 fun u s2 h2=>cp h2 fun c s3 zq0=>?_) h1;obtain⟨x,H1,I1,r1,q1⟩:=zq0;obtain⟨d,rfl,q⟩:=q1;cases r1;exact qw ⟨H1,I1,q⟩
theorem eQ{e:Expr}{t:TE}(h:PE X e t)(he:∀whole,isTrue e X.env whole=(do let v <- whole;o0 e.pos;jX [v] (truthy v)):=by intro _;rfl):PT X e (tB t):=by
 intro J6 s σ H Q I hw;refine isTrue_plain (cp (h J6 s σ H _ I hw) fun v s1 zq0=>?_) (he _);obtain⟨x,H1,I1,r1,q1⟩:=zq0;obtain⟨d,rfl,q⟩:=q1;cases r1;exact qw ⟨H1,I1,q⟩
variable{tA tB':TT}{rest:List Expr}
def sv(t u:TT):TT:=fun σ H Q=>t σ H fun c H1=>if c=true then u σ H1 Q else Q false H1
def wO(t u:TT):TT:=fun σ H Q=>t σ H fun c H1=>if c=true then Q true H1 else u σ H1 Q
def mK(t:TT):TT:=fun σ H Q=>t σ H fun c H1=>Q (!c) H1
theorem jt(ha:PT X a tA):PW X (.BoolOp .And [a] pos) tA:=by
 intro wh J6 s σ H Q I h;refine isTrue_and (cp (ha J6 s σ H Q I h) fun c s1 e=>?_);cases c with
 |true=>exact isTrue_and_nil e
 |false=>exact e
theorem iD(ha:PT X a tA):PW X (.BoolOp .Or [a] pos) tA:=by
 intro wh J6 s σ H Q I h;refine isTrue_or (cp (ha J6 s σ H Q I h) fun c s1 e=>?_);cases c with
 |false=>exact isTrue_or_nil e
 |true=>exact e
theorem ka(ha:PT X a tA)(hb:PW X (.BoolOp .And (b::rest) pos) tB'):PW X (.BoolOp .And (a::b::rest) pos) (sv tA tB'):=by
 intro wh J6 s σ H Q I h;refine isTrue_and (cp (ha J6 s σ H _ I h) fun c s1 zq0=>?_);obtain⟨H1,I1,q1⟩:=zq0;cases c with
 |true=>exact hb wh J6 s1 σ H1 Q I1 q1
 |false=>exact⟨H1,I1,q1⟩
theorem jP(ha:PT X a tA)(hb:PW X (.BoolOp .Or (b::rest) pos) tB'):PW X (.BoolOp .Or (a::b::rest) pos) (wO tA tB'):=by
 intro wh J6 s σ H Q I h;refine isTrue_or (cp (ha J6 s σ H _ I h) fun c s1 zq0=>?_);obtain⟨H1,I1,q1⟩:=zq0;cases c with
 |true=>exact⟨H1,I1,q1⟩
 |false=>exact hb wh J6 s1 σ H1 Q I1 q1
theorem iE(ha:PT X a tA):PT X (.UnaryOp .Not a pos) (mK tA):=by
 intro J6 s σ H Q I h;exact isTrue_not (ha J6 s σ H (fun c H1=>Q (!c) H1) I h)
def sY(ta tb:TE):TE:=fun σ H Q=>ta σ H fun x H1=>∃c,x=.bl c/\if c=true then tb σ H1 Q else Q (.bl false) H1
def Dp(ta:TE):TE:=fun σ H Q=>ta σ H fun x H1=>∃c,x=.bl c/\Q (.bl (!c)) H1
theorem xJ{op}{t:TE}(h:PE X a t):PE X (.BoolOp op [a] pos) t:=fun J6 s σ H Q I hw=>BoolOp_one (h J6 s σ H Q I hw)
theorem rA(ha:PE X a ta)(hb:PE X (.BoolOp .And (b::rest) pos) tb):PE X (.BoolOp .And (a::b::rest) pos) (sY ta tb):=by
 intro J6 s σ H Q I h;refine BoolOp_and (cp (ha J6 s σ H _ I h) fun v s1 zq0=>?_);obtain⟨x,H1,I1,r1,q1⟩:=zq0;obtain⟨c,rfl,q1⟩:=q1;cases r1;refine qw ?_;cases c with
 |true=>exact hb J6 s1 σ H1 Q I1 q1
 |false=>exact⟨.bl false,H1,I1,rfl,q1⟩
theorem Ed(ha:PE X a ta):PE X (.UnaryOp .Not a pos) (Dp ta):=by
 intro J6 s σ H Q I h;refine UnaryOp_ (cp (ha J6 s σ H _ I h) fun v s1 zq0=>?_);obtain⟨x,H1,I1,r1,q1⟩:=zq0;obtain⟨c,rfl,q1⟩:=q1;cases r1;exact not_of (qw ⟨.bl (!c),H1,I1,rfl,q1⟩)
end
end L2
namespace L2
open PySem PySem.Spec PyProof.Rows
def aw(K:Za)(H:Hp)(a:Addr)(xs:List V):Prop :=
 Rd H a (.lst xs) ∨
  ∃(o:Obj) (its:Array Value) (n:Nat),K.lookup a=some o/\o.cls=.type "list"/\o.dict=none/\o.data=.seq its n/\its.size<=aj/\aW xs its.toList
def be(K:Za)(H:Hp)(a:Addr)(xs:List V):Prop :=
 Rd H a (.tup xs) ∨
  ∃(o:Obj) (its:Array Value) (n:Nat),K.lookup a=some o/\o.cls=.type "tuple"/\o.data=.seq its n/\its.size<=aj/\aW xs its.toList
def absV:Value->Option V
 |.none=>some .non
 |.bool b=>some (.bl b)
 |.int i _=>some (.int i)
 |.str x _=>some (.str x)
 |.bytes b _=>some (.byt b)
 |.float b _=>some (.flt b)
 |.ref a=>some (.ref a)
 |.type n=>some (.ty n)
 |_=>none
theorem RelV.abs{x:V}{u:Value}(r:RelV x u):absV u=some x:=by
 cases x with
 |non=>cases r;rfl
 |bl _=>cases r;rfl
 |int _=>obtain⟨t,rfl⟩:=r;rfl
 |str _=>obtain⟨t,rfl⟩:=r;rfl
 |byt _=>obtain⟨t,rfl⟩:=r;rfl
 |flt _=>obtain⟨t,rfl⟩:=r;rfl
 |ref _=>cases r;rfl
 |ty _=>cases r;rfl
theorem RelV.inj{x y:V}{u:Value}(r:RelV x u)(q:RelV y u):x=y:=dI (r.abs.symm.trans q.abs)
theorem aW.inj{xs ys:List V}{us:Zf}(h:aW xs us)(h':aW ys us):xs=ys:=by
 induction h generalizing ys with
 |nil=>cases h';rfl
 |cons r _ ih =>
  cases h' with
  |cons r' t'=>rw[r.inj r',ih t']
section
variable{X:Cx}{J6:Zd}{σ:St}{H:Hp}{s:Shared}{a:Addr}{xs ys:List V}
theorem aw.of{K:Za}(h:H a=some (.lst xs)):aw K H a xs:=.inl (.inl h)
theorem be.of{K:Za}(h:H a=some (.tup xs)):be K H a xs:=.inl (.inl h)
theorem Inv.list(I:Inv X J6 σ H s)(h:aw X.K H a xs):∃its:List Value,aW xs its/\PlainL s.heap a its.toArray/\xs.length<=aj:=by
 rcases h with h|⟨o,its,n,hk,hc,hd,hs,hz,r⟩
 ·obtain⟨z,its,n,r,e⟩:=h.ok I.hok;exact⟨its,r,⟨_,n,e,rfl,rfl,rfl⟩,z⟩
 ·refine⟨its.toList,r,⟨o,n,I.kIn a o hk,hc,hd,by simpa using hs⟩,?_⟩;have e:=r.length;simp only[jW]at e;omega
theorem Inv.tuple(I:Inv X J6 σ H s)(h:be X.K H a xs):∃its:List Value,aW xs its/\IsTup s.heap a its.toArray/\xs.length<=aj:=by
 rcases h with h|⟨o,its,n,hk,hc,hs,hz,r⟩
 ·obtain⟨z,its,r,p⟩:=h.ok I.hok;exact⟨its,r,p,z⟩
 ·refine⟨its.toList,r,⟨o,I.kIn a o hk,hc,n,by simpa using hs⟩,?_⟩;have e:=r.length;simp only[jW]at e;omega
theorem Inv.list_inj(I:Inv X J6 σ H s)(h:aw X.K H a xs)(h':aw X.K H a ys):xs=ys:=by
 obtain⟨its,r,⟨o,n,e,_,_,d⟩,_⟩:=I.list h;obtain⟨its',r',⟨o',n',e',_,_,d'⟩,_⟩:=I.list h';rw[e]at e';cases e';rw[d]at d';injection d' with d1 _;have:its=its':=by simpa using congrArg Array.toList d1
 subst this;exact r.inj r'
theorem Inv.tuple_inj(I:Inv X J6 σ H s)(h:be X.K H a xs)(h':be X.K H a ys):xs=ys:=by
 obtain⟨its,r,⟨o,e,_,n,d⟩,_⟩:=I.tuple h;obtain⟨its',r',⟨o',e',_,n',d'⟩,_⟩:=I.tuple h';rw[e]at e';cases e';rw[d]at d';injection d' with d1 _;have:its=its':=by simpa using congrArg Array.toList d1
 subst this;exact r.inj r'
end
abbrev Cx.wish(X:Cx)(E:Zc):Cx:={ X with xe:=E }
abbrev Cx.nox(X:Cx):Cx:=X.wish fun _ _=>False
theorem Cx.Ok.wish{X:Cx}(ok:X.Ok)(E:Zc):(X.wish E).Ok :=
 ⟨ok.mod,ok.kind,ok.glob,ok.blt,ok.above,ok.inj,ok.has,ok.cab,ok.hd,ok.frames,ok.stk,ok.exf,ok.bs,ok.bsz,ok.noex,ok.exfs,ok.funs,ok.frf⟩
theorem Cx.Ok.unwish{X:Cx}{E:Zc}(ok:(X.wish E).Ok):X.Ok :=
 ⟨ok.mod,ok.kind,ok.glob,ok.blt,ok.above,ok.inj,ok.has,ok.cab,ok.hd,ok.frames,ok.stk,ok.exf,ok.bs,ok.bsz,ok.noex,ok.exfs,ok.funs,ok.frf⟩
section
variable{X:Cx}{J6:Zd}{σ:St}{H:Hp}{s:Shared}{E:Zc}
theorem Inv.wish(I:Inv X J6 σ H s)(E:Zc):Inv (X.wish E) J6 σ H s:=⟨I.ok.wish E,I.os,I.bare,I.base,I.loc,I.cell,I.free,I.freeC,I.pin,I.hok,I.len⟩
theorem Inv.unwish(I:Inv (X.wish E) J6 σ H s):Inv X J6 σ H s:=⟨I.ok.unwish,I.os,I.bare,I.base,I.loc,I.cell,I.free,I.freeC,I.pin,I.hok,I.len⟩
theorem SP.unwish{D:nO}{f:Flow}{s':Shared}(h:SP (X.wish E) J6 D f s'):SP X J6 D f s':=by
 cases f with
 |next=>obtain⟨σ',H',I,q⟩:=h;exact⟨σ',H',I.unwish,q⟩
 |brk=>obtain⟨σ',H',I,q⟩:=h;exact⟨σ',H',I.unwish,q⟩
 |cont=>obtain⟨σ',H',I,q⟩:=h;exact⟨σ',H',I.unwish,q⟩
 |ret u=>obtain⟨v,σ',H',I,r,q⟩:=h;exact⟨v,σ',H',I.unwish,r,q⟩
theorem wR.nox{st:List Stmt}{t:TS}(h:wR X.nox st t):wR X st t:=fun J6 s σ H D I hw =>
 mG (h J6 s σ H D (I.wish _) hw) (fun _ _ q=>q.unwish) fun _ _ z=>iP z
end
section
variable{X:Cx}{st:Stmt}{rest:List Stmt}{t u:TS}{e:Expr}{te:TE}{pos:Pos}
def bc:TS:=fun D σ H=>D.nx σ H
def ar(t u:TS):TS:=fun D σ H=>t { D with nx:=u D } σ H
theorem aK:wR X [] bc:=fun _ _ σ H _ I h=>yN ⟨σ,H,I,h⟩
theorem ab(h1:PS X st t)(h2:wR X rest u):wR X (st::rest) (ar t u):=by
 intro J6 s σ H D I h;refine wpAny_execs_cons (cp (h1 J6 s σ H { D with nx:=u D } I h) fun f s1 q=>?_);cases f with
 |next =>
  obtain⟨σ',H',I',q⟩:=q;exact h2 J6 s1 σ' H' D I' q
 |ret v=>exact q
 |brk=>exact q
 |cont=>exact q
theorem af(h1:PS X st t):wR X [st] t:=by
 intro J6 s σ H D I h;refine wpAny_execs_cons (cp (h1 J6 s σ H D I h) fun f s1 q=>?_);cases f with
 |next=>exact yN q
 |ret v=>exact q
 |brk=>exact q
 |cont=>exact q
theorem Inv.quiet{J6:Zd}{σ:St}{H:Hp}{s:Shared}(I:Inv X J6 σ H s):interactive X.env=false:=by simp[interactive,I.ok.kind]
def c8(te:TE):TS:=fun D σ H=>te σ H fun _ H1=>D.nx σ H1
theorem bA(he:PE X e te)(hs:oZ e none pos.line X.env=pure false:=by rfl):PS X (.Expr e pos) (c8 te):=by
 intro J6 s σ H D I h;exact wpAny_Expr_any (cp (he J6 s σ H _ I h) fun v s1 ⟨x,H1,I1,r1,q1⟩=>⟨σ,H1,I1,q1⟩) I.quiet hs
def aR(te:TE):TS:=fun D σ H=>te σ H D.rt
theorem au(he:PE X e te):PS X (.Return (some e) pos) (aR te):=by
 intro J6 s σ H D I h;exact wpAny_Return_some (cp (he J6 s σ H _ I h) fun v s1 ⟨x,H1,I1,r1,q1⟩=>⟨x,σ,H1,I1,r1,q1⟩)
def bX(c:TT)(t u:TS):TS:=fun D σ H=>c σ H fun b H1=>if b=true then t D σ H1 else u D σ H1
theorem bF{c:Expr}{a b:List Stmt}{tc:TT}(hc:PT X c tc)(ha:wR X a t)(hb:wR X b u):PS X (.If c a b pos) (bX tc t u):=by
 intro J6 s σ H D I h;refine wpAny_If (cp (hc J6 s σ H _ I h) fun d s1 zq0=>?_);obtain⟨H1,I1,q1⟩:=zq0;cases d with
 |true=>exact ha J6 s1 σ H1 D I1 q1
 |false=>exact hb J6 s1 σ H1 D I1 q1
def xc:TS:=fun _ _ _=>False
theorem v9:PS X st xc:=fun _ _ _ _ _ _ h=>h.elim
end
abbrev TG:=V->St->Hp->(St->Hp->Prop)->Prop
abbrev AZ:=List V->St->Hp->(St->Hp->Prop)->Prop
def PG(X:Cx)(target:Expr)(t:TG):Prop :=
 ∀(J6:Zd) (s:Shared) (σ:St) (H:Hp) (v:V) (u:Value) (Q:St->Hp->Prop),Inv X J6 σ H s->RelV v u->t v σ H Q ->
  wpAny (model X.prog X.w) X.A (assign target X.env u) (fun _ s'=>∃σ' H',Inv X J6 σ' H' s'/\Q σ' H') X.xe s
def Fy(X:Cx)(ts:List Expr)(t:AZ):Prop :=
 ∀(J6:Zd) (s:Shared) (σ:St) (H:Hp) (vs:List V) (us:Zf) (Q:St->Hp->Prop),Inv X J6 σ H s->aW vs us->t vs σ H Q ->
  wpAny (model X.prog X.w) X.A (assignInOrder ((sQ ts X.env).map (·.2)) us) (fun _ s'=>∃σ' H',Inv X J6 σ' H' s'/\Q σ' H') X.xe s
abbrev Ev:=V->V->V->Hp->(Hp->Prop)->Prop
def Ff(X:Cx)(t:Ev):Prop :=
 ∀(J6:Zd) (s:Shared) (σ:St) (H:Hp) (o i v:V) (ov iv u:Value) (Q:Hp->Prop),Inv X J6 σ H s->RelV o ov->RelV i iv->RelV v u->t o i v H Q ->
  wpAny (model X.prog X.w) X.A (setItem ov iv u) (fun _ s'=>∃H',Inv X J6 σ H' s'/\Q H') X.xe s
section
variable{X:Cx}{pos:Pos}
def dD(i:Nat):TG:=fun v σ H Q=>Q (σ.set i (some v)) H
abbrev U0:TG:=dD 0
abbrev U1:TG:=dD 1
abbrev U2:TG:=dD 2
abbrev U3:TG:=dD 3
abbrev U4:TG:=dD 4
abbrev U5:TG:=dD 5
abbrev U6:TG:=dD 6
abbrev U7:TG:=dD 7
abbrev U8:TG:=dD 8
abbrev U9:TG:=dD 9
abbrev U10:TG:=dD 10
abbrev U11:TG:=dD 11
abbrev U12:TG:=dD 12
theorem y2{i:Nat}{x:Str}(hN:X.N.Nodup)(hi:X.N[i]?=some x)(hx:Loc X.env.scope x)(hf:X.fn x=true∨X.env.scope.names.lookup x=some .local:=by first|exact .inl rfl|exact .inr rfl|assumption):PG X (.Name x pos) (dD i):=by
 intro J6 s σ H v u Q I r h;exact wpAny_assign_Name (vX I hN hi hx r (fun s' I'=>⟨_,H,I',h⟩) hf)
def ga:AZ:=fun vs σ H Q=>vs=[]/\Q σ H
def bb(t:TG)(u:AZ):AZ:=fun vs σ H Q=>∃v r,vs=v::r/\t v σ H fun σ' H'=>u r σ' H' Q
theorem cG:Fy X [] ga:=by
 intro J6 s σ H vs us Q I r h;obtain⟨e,h⟩:=h;subst e;cases r;exact assignInOrder_nil ⟨σ,H,I,h⟩
theorem aB{e:Expr}{es:List Expr}{t:TG}{u:AZ}(h1:PG X e t)(h2:Fy X es u)
  (hs:(sQ (e::es) X.env).map (·.2)=assign e X.env::(sQ es X.env).map (·.2):=by rfl):Fy X (e::es) (bb t u):=by
 intro J6 s σ H vs us Q I r h;obtain⟨v,vr,e1,h⟩:=h;subst e1;cases r with
 |cons r rr =>
  rw[hs];refine assignInOrder_cons (cp (h1 J6 s σ H _ _ _ I r h) fun _ s1 zq0=>?_);obtain⟨σ1,H1,I1,q1⟩:=zq0;exact h2 J6 s1 σ1 H1 _ _ Q I1 rr q1
def gA(K:Za)(n:Nat)(t:AZ):TG:=fun v σ H Q=>∃a xs,v=.ref a/\be K H a xs/\xs.length=n/\t xs σ H Q
theorem dO{es:List Expr}{k:Nat}{t:AZ}{n:Nat}(hc:X.calm=true)(h:Fy X es t)
  (hn:(sQ es X.env).length=n:=by rfl) (hst:(sQ es X.env).findIdx? (·.1)=none:=by rfl):PG X (.Tuple es k pos) (gA X.K n t):=by
 intro J6 s σ H v u Q I r hw;obtain⟨a,xs,e1,hq,hl,hw⟩:=hw;subst e1;cases r;obtain⟨its,rv,ht,hz⟩:=I.tuple hq;refine assign_Tuple_tuple (I.ok.hd hc) ht (by simp[hn,<-hl,rv.length]) hst fun h' hx=>?_;have I1:Inv X J6 σ H { s with heap:=h' }:=I.kept (t':=s.toks) fun b o e=>hx b o (b9 (az e)) e;exact h J6 _ σ H xs _ Q I1 (by simpa using rv) hw
def xY(to ti:TE)(t:Ev):TG:=fun v σ H Q=>to σ H fun o H1=>ti σ H1 fun i H2=>t o i v H2 fun H3=>Q σ H3
theorem rm{o i:Expr}{to ti:TE}{t:Ev}(ho:PE X o to)(hi:PE X i ti)(hs:Ff X t)
  (ha:∀v,assign (.Subscript o i pos) X.env v=(do
   let ov <- jX [v] (eval o X.env)
   let iv <- jX [v,ov] (eval i X.env)
   o0 pos
   jX [v,ov,iv] (setItem ov iv v)
   release [v,ov,iv] []):=by intro _;rfl):PG X (.Subscript o i pos) (xY to ti t):=by
 intro J6 s σ H v u Q I r h;rw[ha];refine ai (iS (cp (ho J6 s σ H _ I h) fun ov s1 zq0=>?_));obtain⟨x,H1,I1,r1,q1⟩:=zq0;refine ai (iS (cp (hi J6 s1 σ H1 _ I1 q1) fun iv s2 zq0=>?_));obtain⟨y,H2,I2,r2,q2⟩:=zq0;refine ai (wpAny_standAt (ai (iS (cp (hs J6 s2 σ H2 x y v ov iv u _ I2 r1 r2 r q2) fun _ s3 zq0=>?_))));obtain⟨H3,I3,q3⟩:=zq0;exact wpAny_release ⟨σ,H3,I3,q3⟩
def bg(te:TE)(g:TG):TS:=fun D σ H=>te σ H fun x H1=>g x σ H1 D.nx
theorem lT{tg e:Expr}{te:TE}{g:TG}(he:PE X e te)(hg:PG X tg g)(hs:swapsWithSole [tg] e pos.line X.env=pure false:=by rfl)(hw:swappedStores [tg] e X.env=pure none:=by rfl)
  (h1:(sQ [tg] X.env).map (·.2)=[assign tg X.env]:=by rfl):PS X (.Assign [tg] e pos) (bg te g):=by
 intro J6 s σ H D I h;refine wpAny_Assign_stores (cp (he J6 s σ H _ I h) fun v s1 zq0=>?_) hs hw;obtain⟨x,H1,I1,r1,q1⟩:=zq0;rw[h1];exact cp (hg J6 s1 σ H1 x v _ I1 r1 q1) fun _ s2 q=>q
theorem D_{i:Nat}{x:Str}{e:Expr}{te:TE}{pos':Pos}(hN:X.N.Nodup)(hi:X.N[i]?=some x)(hx:Loc X.env.scope x)(he:PE X e te)(hs:oZ e (some (.Name x pos')) pos.line X.env=pure false:=by rfl)(hf:X.fn x=true∨X.env.scope.names.lookup x=some .local:=by first|exact .inl rfl|exact .inr rfl|assumption):
  PS X (.Assign [.Name x pos'] e pos) (bg te (dD i)):=by
 intro J6 s σ H D I h;refine wpAny_Assign_Name (cp (he J6 s σ H _ I h) fun v s1 zq0=>?_) hs;obtain⟨y,H1,I1,r1,q1⟩:=zq0;exact vX I1 hN hi hx r1 (fun s2 I2=>⟨_,H1,I2,q1⟩) hf
end
section
variable{X:Cx}{pos:Pos}
def uy(c:TT)(tb:TS):TS:=fun D σ H=>∃W:Nat->St->Hp->Prop,(∃m,W m σ H)/\∀m σ H,W m σ H ->
 c σ H fun b H1=>if b=true then ∃N:St->Hp->Prop,(∀σ' H',N σ' H'->∃m',m'<m/\W m' σ' H')/\tb { D with nx:=N,ct:=N,bk:=D.nx } σ H1 else D.nx σ H1
theorem rj{c:Expr}{body:List Stmt}{tc:TT}{tb:TS}(hp:PassesOwn (model X.prog X.w) X.A X.env X.xe)(hc:PT X c tc)(hb:wR X body tb):PS X (.While c body [] pos) (uy tc tb):=by
 intro J6 s σ H D I h;obtain⟨W,⟨m0,w0⟩,turn⟩:=h;refine wpAny_While (codeAny_whileLoop (fun n s'=>∃σ' H',Inv X J6 σ' H' s'/\W n σ' H') ?_ m0 ⟨σ,H,I,w0⟩);rintro n s1 ⟨σ1,H1,I1,w1⟩;refine qh hp (cp (hc J6 s1 σ1 H1 _ I1 (turn n σ1 H1 w1)) fun b s2 zq0=>?_);obtain⟨H2,I2,q2⟩:=zq0;cases b with
 |true =>
  obtain⟨N,hN,q2⟩:=q2;rw[if_pos rfl];refine qh hp (cp (hb J6 s2 σ1 H2 _ I2 q2) fun f s3 q3=>?_);cases f with
  |next =>
   obtain⟨σ3,H3,I3,n3⟩:=q3;obtain⟨m',hm,w3⟩:=hN σ3 H3 n3;exact⟨m',hm,σ3,H3,I3,w3⟩
  |cont =>
   obtain⟨σ3,H3,I3,n3⟩:=q3;obtain⟨m',hm,w3⟩:=hN σ3 H3 n3;exact⟨m',hm,σ3,H3,I3,w3⟩
  |brk=>exact q3
  |ret v=>exact q3
 |false =>
  rw[if_neg fj];exact yN ⟨σ1,H2,I2,q2⟩
end
structure It where
 go:Nat->Hp->Prop
 yld:Nat->Hp->V->Hp->Prop
 stop:Nat->Hp->Prop
def mq(X:Cx)(J6:Zd)(H:Hp)(b:Addr):Prop :=
 H b=none/\b≠X.env.locals/\b∉X.fs/\(b∈X.ex∨X.s₀.heap.objs.size<=b)/\(∀x c,X.env.cells.lookup x=some c->c≠b)/\∀p∈X.pn++J6,p.1≠b
theorem Inv.fpOk{X:Cx}{J6:Zd}{σ:St}{H H':Hp}{s:Shared}{b:Addr}(I:Inv X J6 σ H s)(hb:s.heap.objs.size<=b)(hn:H' b=none):mq X J6 H' b:=by
 refine⟨hn,c7 (cS I.lt hb),I.nofs hb,.inr (bq I.sz hb),fun x c e z=>?_,fun p hp z=>?_⟩
 ·obtain⟨v,q⟩:=I.cell x c e;exact absurd (cS q.lt (by rw[z];exact hb)) (iQ _)
 ·exact absurd (cS (az (I.pin p hp).1) (by rw[z];exact hb)) (iQ _)
structure rT(P:bx)(w:World)(K:Za)(tg:Expr)(J:It)(fp:Ze)(it:Addr)(tn:Nat->Heap->Prop):Prop where
 mem:it∈fp
 obj:∀i h,tn i h->∀b∈fp,∃o,h.get? b=some o/\∀v,o.data≠.cell v
 keep:∀i h h',tn i h->(∀b∈fp,∀o,h.get? b=some o->h'.get? b=some o)->tn i h'
 item:∀(X:Cx),X.prog=P->X.w=w->X.K=K->X.calm=true->∀(i:Nat) (J6:Zd) (s:Shared) (σ:St) (H:Hp) (E:Zc),Inv X J6 σ H s->(∀b∈fp,mq X J6 H b)->tn i s.heap->J.go i H ->
  wpAny (model P w) X.A (pyNext (.ref it)) (fun r s1=>∃u,r=some u /\
   wpAny (model P w) X.A (yM tg (.ref it) u) (fun _ s2=>∃x H',Inv X J6 σ H' s2/\RelV x u/\J.yld i H x H'/\tn (i+1) s2.heap/\∀b∈fp,H' b=none) E s1) E s
 done:∀(X:Cx),X.prog=P->X.w=w->X.K=K->X.calm=true->∀(i:Nat) (J6:Zd) (s:Shared) (σ:St) (H:Hp) (E:Zc),Inv X J6 σ H s->(∀b∈fp,mq X J6 H b)->tn i s.heap->J.stop i H ->
  wpAny (model P w) X.A (pyNext (.ref it)) (fun r s1=>r=none/\Inv X J6 σ H s1) E s
 self:∀(A:Around) (i:Nat) (s:Shared) (Q:Zc) (E:Zc),tn i s.heap->Q (.ref it) s->wpAny (model P w) A (pyIter (.ref it)) Q E s
abbrev TI:=St->Hp->(It->Hp->Prop)->Prop
def PIE(X:Cx)(J6:Zd)(σ:St)(tg:Expr)(R:It->Hp->Prop)(itv:Value)(s2:Shared):Prop :=
 ∃(it:Addr) (fp:Ze) (tn:Nat->Heap->Prop) (J:It) (H':Hp),itv=.ref it/\Inv X J6 σ H' s2/\rT X.prog X.w X.K tg J fp it tn/\tn 0 s2.heap/\(∀b∈fp,mq X J6 H' b)/\R J H'
def PI(X:Cx)(tg iter:Expr)(wi:TI):Prop :=
 ∀(J6:Zd) (s:Shared) (σ:St) (H:Hp) (R:It->Hp->Prop),Inv X J6 σ H s->wi σ H R ->
  wpAny (model X.prog X.w) X.A (eval iter X.env) (fun v s1=>wpAny (model X.prog X.w) X.A (pyIter v) (PIE X J6 σ tg R) X.xe s1) X.xe s
theorem wr{M:Model}{A:Around}{E:Zc}{s:Shared}{tg:Expr}{it:Addr}{u:Value}{o:Obj}{n:String}{vs:Array Value}{Q:Unit->Shared->Prop}(ho:s.heap.get? it=some o)(hc:o.cls=.type n)(hd:o.data=.fields vs)
    (hn:["enumerate","zip","dict_itemiterator","dict_reverseitemiterator","odict_iterator","itertools.zip_longest","itertools.pairwise"].contains n=false) (hQ:Q () s):wpAny M A (yM tg (.ref it) u) Q E s:=by
  unfold yM;cases tg<;>first
    |exact aA hQ
    | (cases u <;> first
        |exact aA hQ
        | (refine ai (wpAny_load ho ?_)
           rw[hc,hd];show wpAny M A (if(["enumerate","zip","dict_itemiterator","dict_reverseitemiterator","odict_iterator","itertools.zip_longest","itertools.pairwise"].contains n && vs[0]?==some (rawInt _))=true then _ else _) Q E s
           rw[if_neg (by intro h;rw[hn,Bool.false_and]at h;cases h)];exact aA hQ))
def Ci(K:Za)(a:Addr):It :=
 ⟨fun i H=>∃xs x,aw K H a xs/\xs[i]?=some x,fun i H x H'=>H'=H/\∀xs,aw K H a xs->xs[i]?=some x,fun i H=>∃xs,aw K H a xs/\xs.length<=i⟩
def Ey(K:Za)(a:Addr):It :=
 ⟨fun i H=>∃xs x,be K H a xs/\xs[i]?=some x,fun i H x H'=>H'=H/\∀xs,be K H a xs->xs[i]?=some x,fun i H=>∃xs,be K H a xs/\xs.length<=i⟩
def DQ(lo:Int)(n:Nat):It:=⟨fun i _=>i<n,fun i H x H'=>H'=H/\x=.int (lo+i),fun i _=>n<=i⟩
theorem sT{P:bx}{w:World}{K:Za}{tg:Expr}(a it:Addr):rT P w K tg (Ci K a) [it] it (fun i h=>h.IsListIter it a i) where
 mem:=by simp
 obj:=fun i h st b hb=>by
  have e:b=it:=by simpa using hb
  subst e;obtain⟨o,e,c,d⟩:=st;exact⟨o,e,fun v z=>by rw[d]at z;cases z⟩
 keep:=fun i h h' st k=>st.at fun o e=>k it (by simp) o e
 item:=by
  intro X hP hw hK hc i J6 s σ H E I hf st hg;subst hP hw hK;obtain⟨xs,x,hq,hx⟩:=hg;obtain⟨its,rv,p,hz⟩:=I.list hq;obtain⟨u,hu,ru⟩:=rv.get hx;obtain⟨f0,f1,f2,f3,f4,f5⟩:=hf it (by simp);refine wpAny_pyNext_list_item st p.isList (x:=u) (by simpa using hu) fun h' st' sb=>?_;have I1:Inv X J6 σ H { s with heap:=h' }:=I.turned (t':=s.toks) (fun b o hb e=>(sb.2 b hb).trans e) f0 f1 f3 f4 f5;obtain⟨o,e,c,d⟩:=id st';exact⟨u,rfl,wr (s:={ s with heap:=h' }) e c d (by decide) ⟨x,H,I1,ru,⟨rfl,fun ys hy=>by rw[I.list_inj hy hq];exact hx⟩,st',fun b hb=>(hf b hb).1⟩⟩
 done:=by
  intro X hP hw hK hc i J6 s σ H E I hf st hg;subst hP hw hK;obtain⟨xs,hq,hx⟩:=hg;obtain⟨its,rv,p,hz⟩:=I.list hq;obtain⟨f0,f1,f2,f3,f4,f5⟩:=hf it (by simp);have hl:=rv.length;exact wpAny_pyNext_list_end (I.ok.hd hc) st p.isList (by simp;omega) fun h' eb=>⟨rfl,I.turned (t':=s.toks) (fun b o hb e=>eb b o hb e) f0 f1 f3 f4 f5⟩
 self:=fun _ _ _ _ _ st h=>wpAny_pyIter_listiter st h
theorem qP{P:bx}{w:World}{K:Za}{tg:Expr}(a it:Addr):rT P w K tg (Ey K a) [it] it (fun i h=>h.IsTupleIter it a i) where
 mem:=by simp
 obj:=fun i h st b hb=>by
  have e:b=it:=by simpa using hb
  subst e;obtain⟨o,e,c,d⟩:=st;exact⟨o,e,fun v z=>by rw[d]at z;cases z⟩
 keep:=fun i h h' st k=>st.at fun o e=>k it (by simp) o e
 item:=by
  intro X hP hw hK hc i J6 s σ H E I hf st hg;subst hP hw hK;obtain⟨xs,x,hq,hx⟩:=hg;obtain⟨its,rv,p,hz⟩:=I.tuple hq;obtain⟨u,hu,ru⟩:=rv.get hx;obtain⟨f0,f1,f2,f3,f4,f5⟩:=hf it (by simp);refine wpAny_pyNext_tuple_item st (show s.heap.IsTuple a its.toArray from p) (x:=u) (by simpa using hu) fun h' st' sb=>?_;have I1:Inv X J6 σ H { s with heap:=h' }:=I.turned (t':=s.toks) (fun b o hb e=>(sb.2 b hb).trans e) f0 f1 f3 f4 f5;obtain⟨o,e,c,d⟩:=id st';exact⟨u,rfl,wr (s:={ s with heap:=h' }) e c d (by decide) ⟨x,H,I1,ru,⟨rfl,fun ys hy=>by rw[I.tuple_inj hy hq];exact hx⟩,st',fun b hb=>(hf b hb).1⟩⟩
 done:=by
  intro X hP hw hK hc i J6 s σ H E I hf st hg;subst hP hw hK;obtain⟨xs,hq,hx⟩:=hg;obtain⟨its,rv,p,hz⟩:=I.tuple hq;obtain⟨f0,f1,f2,f3,f4,f5⟩:=hf it (by simp);have hl:=rv.length;exact wpAny_pyNext_tuple_end (I.ok.hd hc) st (show s.heap.IsTuple a its.toArray from p) (by simp;omega) fun h' eb=>⟨rfl,I.turned (t':=s.toks) (fun b o hb e=>eb b o hb e) f0 f1 f3 f4 f5⟩
 self:=fun _ _ _ _ _ st h=>wpAny_pyIter_tupleiter st h
theorem wV{P:bx}{w:World}{K:Za}{tg:Expr}(it:Addr)(lo:Int)(n:Nat):rT P w K tg (DQ lo n) [it] it (fun i h=>IsRangeIter h it (lo+(i:Nat) * 1) ((n:Int)-(i:Nat)) 1) where
 mem:=by simp
 obj:=fun i h st b hb=>by
  have e:b=it:=by simpa using hb
  subst e;exact⟨_,st,fun v z=>by
   have z':Data.fields _=Data.cell v:=z;cases z'⟩
 keep:=fun i h h' st k=>k it (by simp) _ st
 item:=by
  intro X hP hw hK hc i J6 s σ H E I hf st hg;subst hP hw hK;obtain⟨f0,f1,f2,f3,f4,f5⟩:=hf it (by simp);have W:=Walks.range (prog:=X.prog) (w:=X.w) (I.ok.hd hc) it lo 1 n;refine W.item i s _ _ hg st fun v h' tk hv st' kk=>?_;obtain⟨t,rfl⟩:=hv;have I1:Inv X J6 σ H { s with heap:=h',toks:=tk }:=I.turned (fun b o hb e=>kk b o (by simpa using hb) e) f0 f1 f3 f4 f5;refine⟨_,rfl,wr (s:={ s with heap:=h',toks:=tk }) (n:="range_iterator") st' rfl rfl (by decide) ⟨.int (lo+i),H,I1,⟨t,?_⟩,⟨rfl,rfl⟩,st',fun b hb=>(hf b hb).1⟩⟩;rw[Int.mul_one]
 done:=by
  intro X hP hw hK hc i J6 s σ H E I hf st hg;subst hP hw hK;obtain⟨f0,f1,f2,f3,f4,f5⟩:=hf it (by simp);exact wpAny_pyNext_range_end (I.ok.hd hc) st (by have:n<=i:=hg;omega) fun h' eb=>⟨rfl,I.turned (t':=s.toks) (fun b o hb e=>eb b o hb e) f0 f1 f3 f4 f5⟩
 self:=fun _ _ _ _ _ st h=>wpAny_pyIter_rangeiter st h
end L2
namespace L2
open PySem PySem.Spec PyProof.Rows
section
variable{X:Cx}{tg:Expr}
def ca(K:Za)(tl:TE):TI:=fun σ H R=>tl σ H fun x H1=>∃a,x=.ref a/\(∃xs,aw K H1 a xs)/\R (Ci K a) H1
def C7(K:Za)(tl:TE):TI:=fun σ H R=>tl σ H fun x H1=>∃a,x=.ref a/\(∃xs,be K H1 a xs)/\R (Ey K a) H1
theorem aZ{l:Expr}{tl:TE}(hl:PE X l tl):PI X tg l (ca X.K tl):=by
 intro J6 s σ H R I h;refine cp (hl J6 s σ H _ I h) fun v s1 zq0=>?_;obtain⟨x,H1,I1,r1,q1⟩:=zq0;obtain⟨a,e,⟨xs,hq⟩,q⟩:=q1;subst e;cases r1;obtain⟨its,rv,p,hz⟩:=I1.list hq;refine yL p.isList ?_;refine⟨s1.heap.objs.size,[s1.heap.objs.size],_,_,H1,rfl,I1.kept (t':=s1.toks) fun b o e=>aS _ e,sT a _,⟨_,cz _ rfl,rfl,rfl⟩,fun b hb=>?_,q⟩;have e:b=s1.heap.objs.size:=by simpa using hb
 subst e;exact I1.fpOk (aG _) (I1.hok.fresh (aG _))
theorem xH{l:Expr}{tl:TE}(hl:PE X l tl):PI X tg l (C7 X.K tl):=by
 intro J6 s σ H R I h;refine cp (hl J6 s σ H _ I h) fun v s1 zq0=>?_;obtain⟨x,H1,I1,r1,q1⟩:=zq0;obtain⟨a,e,⟨xs,hq⟩,q⟩:=q1;subst e;cases r1;obtain⟨its,rv,p,hz⟩:=I1.tuple hq;refine yJ (show s1.heap.IsTuple a its.toArray from p) ?_;refine⟨s1.heap.objs.size,[s1.heap.objs.size],_,_,H1,rfl,I1.kept (t':=s1.toks) fun b o e=>aS _ e,qP a _,⟨_,cz _ rfl,rfl,rfl⟩,fun b hb=>?_,q⟩;have e:b=s1.heap.objs.size:=by simpa using hb
 subst e;exact I1.fpOk (aG _) (I1.hok.fresh (aG _))
theorem v7{J6:Zd}{σ:St}{H:Hp}{s:Shared}{R:It->Hp->Prop}{E:Zc}{lo hi:Int}{t u v:Tok}{tk:Nat}(I:Inv X J6 σ H s)(h1:-(2 ^ 62)<=lo)(h2:lo<2 ^ 62)(h3:-(2 ^ 62)<=hi)(h4:hi<2 ^ 62)
  (q:R (DQ lo (hi-lo).toNat) H):wpAny (model X.prog X.w) X.A (pyIter (.ref s.heap.objs.size)) (PIE X J6 σ tg R) E { s with heap:=s.heap.push { cls:=.type "range",data:=.fields #[.int lo t,.int hi u,.int 1 v] },toks:=tk }:=by
 refine wpAny_pyIter_range (IsRange.new ..) (small_one h1 h2 h3 h4) ?_;have I1:Inv X J6 σ H { s with heap:=s.heap.push { cls:=.type "range",data:=.fields #[.int lo t,.int hi u,.int 1 v] },toks:=tk }:=I.kept fun b o e=>aS _ e;refine⟨(s.heap.push { cls:=.type "range",data:=.fields #[.int lo t,.int hi u,.int 1 v] }).objs.size,[(s.heap.push { cls:=.type "range",data:=.fields #[.int lo t,.int hi u,.int 1 v] }).objs.size],_,_,H,rfl,
  I1.kept (t':=tk) fun b o e=>aS _ e,wV _ lo (hi-lo).toNat,?_,fun b hb=>?_,q⟩
 ·have e1:lo+((0:Nat):Int) * 1=lo:=by simp
  have e2:(((hi-lo).toNat:Nat):Int)-((0:Nat):Int)=aY.Range.rangeSize lo hi 1:=by rw[rangeSize_one];split<;>omega
  show IsRangeIter _ _ (lo+((0:Nat):Int) * 1) ((((hi-lo).toNat:Nat):Int)-((0:Nat):Int)) 1;rw[e1,e2];exact cz _ rfl
 ·have e:b=(s.heap.push { cls:=.type "range",data:=.fields #[.int lo t,.int hi u,.int 1 v] }).objs.size:=by simpa using hb
  subst e;exact I1.fpOk (aG _) (I1.hok.fresh (aG _))
def tI(ta:TA):TI:=fun σ H R=>ta σ H fun vs H1=>∃j:Int,vs=[.int j]/\-(2 ^ 62)<=j/\j<2 ^ 62/\R (DQ 0 j.toNat) H1
def DE(ta:TA):TI:=fun σ H R=>ta σ H fun vs H1=>∃i j:Int,vs=[.int i,.int j]/\(-(2 ^ 62)<=i/\i<2 ^ 62/\-(2 ^ 62)<=j/\j<2 ^ 62)/\R (DQ i (j-i).toNat) H1
theorem iY{a:Expr}{ta:TA}{p pos:Pos}(hg:Gl X "range")(hm:X.mg "range"=none)(ha:PA X [a] ta)(hs:ay [a] X.env=[(false,eval a X.env)]:=by rfl):PI X tg (.Call (.Name "range" p) [a] [] pos) (tI ta):=by
 intro J6 s σ H R I h;refine Call_ (jA I hg hm boot_range (qg (cp (ha pos J6 s σ H _ I h) fun us s1 zq0=>?_) hs rfl));obtain⟨vs,H1,I1,r1,q1⟩:=zq0;obtain⟨j,e,q1,q2,q⟩:=q1;subst e;cases r1 with
 |cons r rr =>
  cases rr;obtain⟨t,rfl⟩:=r;exact call_range_1 (v7 I1 (by omega) (by omega) q1 q2 (by simpa using q))
theorem Ai{a b:Expr}{ta:TA}{p pos:Pos}(hg:Gl X "range")(hm:X.mg "range"=none)(ha:PA X [a,b] ta)(hs:ay [a,b] X.env=[(false,eval a X.env),(false,eval b X.env)]:=by rfl)(hs2:ay [b] X.env=[(false,eval b X.env)]:=by rfl):
  PI X tg (.Call (.Name "range" p) [a,b] [] pos) (DE ta):=by
 intro J6 s σ H R I h;refine Call_ (jA I hg hm boot_range (qg (cp (ha pos J6 s σ H _ I h) fun us s1 zq0=>?_) (by rw[hs,hs2]) (by rw[hs2];rfl)));obtain⟨vs,H1,I1,r1,q1⟩:=zq0;obtain⟨i,j,e,⟨q1,q2,q3,q4⟩,q⟩:=q1;subst e;cases r1 with
 |cons r rr =>
  cases rr with
  |cons r' rr =>
   cases rr;obtain⟨t,rfl⟩:=r;obtain⟨t',rfl⟩:=r';exact call_range_2 (v7 I1 q1 q2 q3 q4 q)
def eg(wi:TI)(g:TG)(tb:TS):TS:=fun D σ H=>wi σ H fun J H1=>∃W:Nat->Nat->St->Hp->Prop,(∃m,W 0 m σ H1)/\∀i m σ H,W i m σ H ->
 (J.stop i H/\D.nx σ H)∨(J.go i H/\∃N:St->Hp->Prop,(∀σ' H',N σ' H'->∃m',m'<m/\W (i+1) m' σ' H')/\∀x H',J.yld i H x H'->g x σ H' fun σ2 H2=>tb { D with nx:=N,ct:=N,bk:=D.nx } σ2 H2)
def rk(fp:Ze)(h:Heap):List (Addr×Obj):=fp.filterMap fun b=>(h.get? b).map fun o=>(b,o)
theorem jz{fp:Ze}{h:Heap}{b:Addr}{o:Obj}(hb:b∈fp)(e:h.get? b=some o):(b,o)∈rk fp h:=List.mem_filterMap.mpr ⟨b,hb,by rw[e];rfl⟩
theorem Am{fp:Ze}{h:Heap}{p:Addr×Obj}(hp:p∈rk fp h):p.1∈fp/\h.get? p.1=some p.2:=by
 obtain⟨b,hb,e⟩:=List.mem_filterMap.mp hp;cases q:h.get? b with
 |none=>rw[q]at e;cases e
 |some o =>
  rw[q]at e;have e':(b,o)=p:=dI e;subst e';exact⟨hb,q⟩
theorem Inv.pinned{J6:Zd}{σ:St}{H:Hp}{s:Shared}{fp:Ze}(I:Inv X J6 σ H s)(hf:∀b∈fp,mq X J6 H b)(ho:∀b∈fp,∃o,s.heap.get? b=some o/\∀v,o.data≠.cell v):Inv X (J6++rk fp s.heap) σ H s :=
 I.pins_of fun p hp=>(bp.mp hp).elim (fun z=>I.pin p (dF _ z)) fun z=>by
  obtain⟨hb,e⟩:=Am z;obtain⟨f0,f1,f2,_⟩:=hf p.1 hb;obtain⟨o,e',d⟩:=ho p.1 hb;rw[e]at e';cases e';exact⟨e,f0,f1,f2,d⟩
theorem Inv.unpinned{J6 pl:Zd}{σ:St}{H:Hp}{s:Shared}(I:Inv X (J6++pl) σ H s):Inv X J6 σ H s:=I.pins_of fun p hp=>I.pin p (dF _ (dq _ hp))
theorem bO{iter:Expr}{body:List Stmt}{wi:TI}{g:TG}{tb:TS}{pos:Pos}(hp:PassesOwn (model X.prog X.w) X.A X.env X.xe)(hc:X.calm=true)(hi:PI X tg iter wi)(hg:PG X tg g)(hb:wR X body tb)
  (hs:∀x,vF iter X.env x=pure x:=by intro _;rfl):PS X (.For tg iter body [] pos) (eg wi g tb):=by
 intro J6 s σ H D I h;refine wpAny_For (cp (hi J6 s σ H _ I h) fun v s1 h1=>cp h1 fun itv s2 h2=>?_) hs;obtain⟨it,fp,tn,J,H2,e,I2,T,st2,f2,W,⟨m0,w0⟩,turn⟩:=h2;subst e;have stat:∀{H':Hp},(∀b∈fp,H' b=none)->∀b∈fp,mq X J6 H' b:=fun hn b hb=>⟨hn b hb,(f2 b hb).2⟩;refine codeAny_forLoop_any (fun n s'=>∃i σ' H',Inv X J6 σ' H' s'/\tn i s'.heap/\(∀b∈fp,H' b=none)/\W i n σ' H') ?_ m0 ⟨0,σ,H2,I2,st2,fun b hb=>(f2 b hb).1,w0⟩;rintro n s3 ⟨i,σ3,H3,I3,st3,fr3,w3⟩;rcases turn i n σ3 H3 w3 with⟨stop,qn⟩|⟨go,N,hN,step⟩
 ·refine qh hp (cp (T.done X rfl rfl rfl hc i J6 s3 σ3 H3 X.xe I3 (stat fr3) st3 stop) fun r s4 zq0=>?_);obtain⟨hr,I4⟩:=zq0;subst hr;exact yN ⟨σ3,H3,I4,qn⟩
 ·refine qh hp (cp (T.item X rfl rfl rfl hc i J6 s3 σ3 H3 X.xe I3 (stat fr3) st3 go) fun r s4 zq0=>?_);obtain⟨u,hr,h4⟩:=zq0;subst hr;refine qh hp (cp h4 fun _ s5 zq0=>?_);obtain⟨x,H5,I5,r5,y5,st5,fr5⟩:=zq0;have I5':=I5.pinned (stat fr5) (T.obj _ _ st5);refine qh hp (cp (hg _ s5 σ3 H5 x u _ I5' r5 (step x H5 y5)) fun _ s6 zq0=>?_);obtain⟨σ6,H6,I6,q6⟩:=zq0;refine qh hp (cp (hb _ s6 σ6 H6 _ I6 q6) fun f s7 q7=>?_);have again:∀{σ7:St}{H7:Hp},Inv X (J6++rk fp s5.heap) σ7 H7 s7->N σ7 H7->∃m,m<n/\∃i σ' H',Inv X J6 σ' H' s7/\tn i s7.heap/\(∀b∈fp,H' b=none)/\W i m σ' H':=fun{σ7 H7} I7 n7=>by
   obtain⟨m',hm,w7⟩:=hN σ7 H7 n7;refine⟨m',hm,i+1,σ7,H7,I7.unpinned,T.keep _ _ _ st5 fun b hb o e=>(I7.pin (b,o) (dF _ (dF _ (jz hb e)))).1,fun b hb=>?_,w7⟩;obtain⟨o,e,d⟩:=T.obj _ _ st5 b hb;exact(I7.pin (b,o) (dF _ (dF _ (jz hb e)))).2.1
  cases f with
  |next=>obtain⟨σ7,H7,I7,n7⟩:=q7;exact again I7 n7
  |cont=>obtain⟨σ7,H7,I7,n7⟩:=q7;exact again I7 n7
  |brk=>obtain⟨σ7,H7,I7,q7⟩:=q7;exact⟨σ7,H7,I7.unpinned,q7⟩
  |ret v=>obtain⟨x7,σ7,H7,I7,r7,q7⟩:=q7;exact⟨x7,σ7,H7,I7.unpinned,r7,q7⟩
end
theorem cw{K:Za}{a:Addr}{xs:List V}{g:TG}{tb:TS}{D:nO}{σ:St}{H:Hp}(Pv:Nat->St->Hp->Prop)(h0:Pv 0 σ H)(hl:∀i σ H,i<=xs.length->Pv i σ H->aw K H a xs)
  (hs:∀i x σ H,xs[i]?=some x->Pv i σ H->g x σ H fun σ2 H2=>tb { D with nx:=Pv (i+1),ct:=Pv (i+1),bk:=D.nx } σ2 H2) (hd:∀σ H,Pv xs.length σ H->D.nx σ H) :
  ∃W:Nat->Nat->St->Hp->Prop,(∃m,W 0 m σ H)/\∀i m σ H,W i m σ H ->
   ((Ci K a).stop i H/\D.nx σ H)∨((Ci K a).go i H/\∃N:St->Hp->Prop,(∀σ' H',N σ' H'->∃m',m'<m/\W (i+1) m' σ' H')/\∀x H',(Ci K a).yld i H x H'->g x σ H' fun σ2 H2=>tb { D with nx:=N,ct:=N,bk:=D.nx } σ2 H2):=by
 refine⟨fun i m σ H=>m=xs.length-i/\i<=xs.length/\Pv i σ H,⟨xs.length,by simp,cQ _,h0⟩,?_⟩;rintro i m σ H ⟨rfl,hi,p⟩;have q:=hl i σ H hi p;by_cases hlt:i<xs.length
 ·refine .inr ⟨⟨xs,xs[i],q,by simp[hlt]⟩,Pv (i+1),fun σ' H' p'=>⟨xs.length-(i+1),by omega,rfl,hlt,p'⟩,fun x H' y=>?_⟩;obtain⟨e,y⟩:=y;subst e;exact hs i x σ _ (y xs q) p
 ·have e:i=xs.length:=by omega
  subst e;exact .inl ⟨⟨xs,q,aG _⟩,hd σ H p⟩
theorem zA{K:Za}{a:Addr}{xs:List V}{g:TG}{tb:TS}{D:nO}{σ:St}{H:Hp}(Pv:Nat->St->Hp->Prop)(h0:Pv 0 σ H)(hl:∀i σ H,i<=xs.length->Pv i σ H->be K H a xs)
  (hs:∀i x σ H,xs[i]?=some x->Pv i σ H->g x σ H fun σ2 H2=>tb { D with nx:=Pv (i+1),ct:=Pv (i+1),bk:=D.nx } σ2 H2) (hd:∀σ H,Pv xs.length σ H->D.nx σ H) :
  ∃W:Nat->Nat->St->Hp->Prop,(∃m,W 0 m σ H)/\∀i m σ H,W i m σ H ->
   ((Ey K a).stop i H/\D.nx σ H)∨((Ey K a).go i H/\∃N:St->Hp->Prop,(∀σ' H',N σ' H'->∃m',m'<m/\W (i+1) m' σ' H')/\∀x H',(Ey K a).yld i H x H'->g x σ H' fun σ2 H2=>tb { D with nx:=N,ct:=N,bk:=D.nx } σ2 H2):=by
 refine⟨fun i m σ H=>m=xs.length-i/\i<=xs.length/\Pv i σ H,⟨xs.length,by simp,cQ _,h0⟩,?_⟩;rintro i m σ H ⟨rfl,hi,p⟩;have q:=hl i σ H hi p;by_cases hlt:i<xs.length
 ·refine .inr ⟨⟨xs,xs[i],q,by simp[hlt]⟩,Pv (i+1),fun σ' H' p'=>⟨xs.length-(i+1),by omega,rfl,hlt,p'⟩,fun x H' y=>?_⟩;obtain⟨e,y⟩:=y;subst e;exact hs i x σ _ (y xs q) p
 ·have e:i=xs.length:=by omega
  subst e;exact .inl ⟨⟨xs,q,aG _⟩,hd σ H p⟩
theorem i7{lo:Int}{n:Nat}{g:TG}{tb:TS}{D:nO}{σ:St}{H:Hp}(Pv:Nat->St->Hp->Prop)(h0:Pv 0 σ H)
  (hs:∀i σ H,i<n->Pv i σ H->g (.int (lo+i)) σ H fun σ2 H2=>tb { D with nx:=Pv (i+1),ct:=Pv (i+1),bk:=D.nx } σ2 H2) (hd:∀σ H,Pv n σ H->D.nx σ H) :
  ∃W:Nat->Nat->St->Hp->Prop,(∃m,W 0 m σ H)/\∀i m σ H,W i m σ H ->
   ((DQ lo n).stop i H/\D.nx σ H)∨((DQ lo n).go i H/\∃N:St->Hp->Prop,(∀σ' H',N σ' H'->∃m',m'<m/\W (i+1) m' σ' H')/\∀x H',(DQ lo n).yld i H x H'->g x σ H' fun σ2 H2=>tb { D with nx:=N,ct:=N,bk:=D.nx } σ2 H2):=by
 refine⟨fun i m σ H=>m=n-i/\i<=n/\Pv i σ H,⟨n,by simp,cQ _,h0⟩,?_⟩;rintro i m σ H ⟨rfl,hi,p⟩;by_cases hlt:i<n
 ·refine .inr ⟨hlt,Pv (i+1),fun σ' H' p'=>⟨n-(i+1),by omega,rfl,hlt,p'⟩,fun x H' y=>?_⟩;obtain⟨e,y⟩:=y;subst e y;exact hs i σ _ hlt p
 ·have e:i=n:=by omega
  subst e;exact .inl ⟨aG _,hd σ H p⟩
end L2
namespace L2
open PySem PySem.Spec PyProof.Rows
abbrev R2:=V->V->Hp->VK->Prop
def kn(X:Cx)(f:Value->Value->Sem Value)(r:R2):Prop :=
 ∀(J6:Zd) (s:Shared) (σ:St) (H:Hp) (x y:V) (v u:Value) (Q:VK),Inv X J6 σ H s->RelV x v->RelV y u->r x y H Q ->
  wpAny (model X.prog X.w) X.A (f v u) (EP X J6 σ Q) X.xe s
def UnR(X:Cx)(f:Value->Sem Value)(r:V->Hp->VK->Prop):Prop :=
 ∀(J6:Zd) (s:Shared) (σ:St) (H:Hp) (x:V) (v:Value) (Q:VK),Inv X J6 σ H s->RelV x v->r x H Q ->
  wpAny (model X.prog X.w) X.A (f v) (EP X J6 σ Q) X.xe s
def fU(X:Cx)(f:Value)(r:List V->Hp->VK->Prop):Prop :=
 ∀(J6:Zd) (s:Shared) (σ:St) (H:Hp) (xs:List V) (us:Zf) (Q:VK),Inv X J6 σ H s->aW xs us->r xs H Q ->
  wpAny (model X.prog X.w) X.A (call f us) (EP X J6 σ Q) X.xe s
def aJ(r:R2)(ta tb:TE):TE:=fun σ H Q=>ta σ H fun x H1=>tb σ H1 fun y H2=>r x y H2 Q
def Fu(r:V->Hp->VK->Prop)(ta:TE):TE:=fun σ H Q=>ta σ H fun x H1=>r x H1 Q
def rI(C:Int->Int->Prop)(g:Int->Int->V):R2:=fun x y H Q=>∃i j,x=.int i/\y=.int j/\C i j/\Q (g i j) H
def yZ(g:Int->Int->V):R2:=fun x y H Q=>∃i j,x=.int i/\y=.int j/\Q (g i j) H
def rU(g:Int->V):V->Hp->VK->Prop:=fun x H Q=>∃i,x=.int i/\Q (g i) H
section
variable{X:Cx}{a b c:Expr}{ta tb tc:TE}{pos:Pos}
theorem Et(ha:PE X a ta)(hb:PE X b tb){J6:Zd}{s:Shared}{σ:St}{H:Hp}{R:V->V->Hp->Prop}(I:Inv X J6 σ H s)
  (h:ta σ H fun x H1=>tb σ H1 fun y H2=>R x y H2) {Q:Zc}{f:Value->Value->Sem Value}
  (hf:∀v u s2 x y H2,Inv X J6 σ H2 s2->RelV x v->RelV y u->R x y H2->wpAny (model X.prog X.w) X.A (f v u) Q X.xe s2) :
  wpAny (model X.prog X.w) X.A (eval a X.env) (fun v s₁=>wpAny (model X.prog X.w) X.A (eval b X.env) (fun u s₂=>wpAny (model X.prog X.w) X.A (f v u) Q X.xe s₂) X.xe s₁) X.xe s:=by
 refine cp (ha J6 s σ H _ I h) fun v s1 zq0=>?_;obtain⟨x,H1,I1,r1,q1⟩:=zq0;refine cp (hb J6 s1 σ H1 _ I1 q1) fun u s2 zq0=>?_;obtain⟨y,H2,I2,r2,q2⟩:=zq0;exact hf v u s2 x y H2 I2 r1 r2 q2
theorem aO{op:Operator}{r:R2}(ho:kn X (mD op) r)(ha:PE X a ta)(hb:PE X b tb):PE X (.BinOp a op b pos) (aJ r ta tb):=by
 intro J6 s σ H Q I h;exact wpAny_BinOp (Et ha hb I h fun v u s2 x y H2 I2 rx ry q=>ho J6 s2 σ H2 x y v u Q I2 rx ry q)
theorem Dx{op:UnaryOp}{r:V->Hp->VK->Prop}(ho:UnR X (unaryOp op) r)(ha:PE X a ta):PE X (.UnaryOp op a pos) (Fu r ta):=by
 intro J6 s σ H Q I h;exact UnaryOp_ (cp (ha J6 s σ H _ I h) fun v s1 ⟨x,H1,I1,r1,q1⟩=>ho J6 s1 σ H1 x v Q I1 r1 q1)
theorem Fw{f:Value->Value->Sem Value}{C:Int->Int->Prop}{g:Int->Int->Int}
  (rule:∀(i j:Int) (t u:Tok) (s:Shared) (Q:Zc) (E:Zc),C i j->Q (.int (g i j) s.toks) { s with toks:=s.toks+1 }->wpAny (model X.prog X.w) X.A (f (.int i t) (.int j u)) Q E s) :
  kn X f (rI C fun i j=>.int (g i j)):=by
 intro J6 s σ H x y v u Q I rx ry h;obtain⟨i,j,rfl,rfl,hc,q⟩:=h;obtain⟨t,rfl⟩:=rx;obtain⟨t',rfl⟩:=ry;exact rule i j t t' s _ _ hc ⟨.int (g i j),H,I.tok _,⟨_,rfl⟩,q⟩
theorem EV{f:Value->Value->Sem Value}{g:Int->Int->Int}
  (rule:∀(i j:Int) (t u:Tok) (s:Shared) (Q:Zc) (E:Zc),Q (.int (g i j) s.toks) { s with toks:=s.toks+1 }->wpAny (model X.prog X.w) X.A (f (.int i t) (.int j u)) Q E s) :
  kn X f (yZ fun i j=>.int (g i j)):=by
 intro J6 s σ H x y v u Q I rx ry h;obtain⟨i,j,rfl,rfl,q⟩:=h;obtain⟨t,rfl⟩:=rx;obtain⟨t',rfl⟩:=ry;exact rule i j t t' s _ _ ⟨.int (g i j),H,I.tok _,⟨_,rfl⟩,q⟩
theorem C1{f:Value->Value->Sem Value}{g:Int->Int->Bool}
  (rule:∀(i j:Int) (t u:Tok) (s:Shared) (Q:Zc) (E:Zc),Q (.bool (g i j)) s->wpAny (model X.prog X.w) X.A (f (.int i t) (.int j u)) Q E s) :
  kn X f (yZ fun i j=>.bl (g i j)):=by
 intro J6 s σ H x y v u Q I rx ry h;obtain⟨i,j,rfl,rfl,q⟩:=h;obtain⟨t,rfl⟩:=rx;obtain⟨t',rfl⟩:=ry;exact rule i j t t' s _ _ ⟨.bl (g i j),H,I,rfl,q⟩
def Fn(i j:Int):Prop:=0<j/\j<1073741824
def Fm(i j:Int):Prop:=0<=j/\j<=1000000/\i.natAbs<2 ^ 64
def Ck(i j:Int):Prop:=(-(2 ^ 64)<i/\i<2 ^ 64)∨(-(2 ^ 64)<j/\j<2 ^ 64)
theorem Ck.ok{i j:Int}(h:Ck i j):IntMulOk i j:=by
 rcases h with⟨h1,h2⟩|⟨h1,h2⟩
 ·exact .of_left (intBits_le_64 h1 h2)
 ·exact .of_right (intBits_le_64 h1 h2)
theorem dh:kn X (mD .Add) (yZ fun i j=>.int (i+j)):=EV fun _ _ _ _ _ _ _ q=>add_int q
theorem Eg:kn X (mD .Sub) (yZ fun i j=>.int (i-j)):=EV fun _ _ _ _ _ _ _ q=>sub_int q
theorem g8:kn X (mD .Mult) (rI Ck fun i j=>.int (i * j)):=Fw fun _ _ _ _ _ _ _ hc q=>mul_int q hc.ok
theorem zc:kn X (mD .FloorDiv) (rI Fn fun i j=>.int (i / j)):=Fw fun i j _ _ _ _ _ hc q=>by
 have h1:(0:Int)<j:=hc.1;have h2:j<1073741824:=hc.2;exact floordiv_int (by omega) (by rw[Int.fdiv_eq_ediv_of_nonneg i (by omega)];exact q) (.inl (PyProof.noPylong_small (by omega)))
theorem fz:kn X (mD .Mod) (rI (fun _ j=>0<j) fun i j=>.int (i % j)):=Fw fun i j _ _ _ _ _ hc q=>by
 have h1:(0:Int)<j:=hc;exact mod_int' (by omega) (by rw[Int.fmod_eq_emod_of_nonneg i (by omega)];exact q)
theorem Bw:kn X (mD .Pow) (rI Fm fun i j=>.int (i ^ j.toNat)):=Fw fun _ _ _ _ _ _ _ hc q=>pow_int_small hc.1 hc.2.1 hc.2.2 q
theorem unI{f:Value->Sem Value}{g:Int->Int}
  (rule:∀(i:Int) (t:Tok) (s:Shared) (Q:Zc) (E:Zc),Q (.int (g i) s.toks) { s with toks:=s.toks+1 }->wpAny (model X.prog X.w) X.A (f (.int i t)) Q E s) :
  UnR X f (rU fun i=>.int (g i)):=by
 intro J6 s σ H x v Q I rx h;obtain⟨i,rfl,q⟩:=h;obtain⟨t,rfl⟩:=rx;exact rule i t s _ _ ⟨.int (g i),H,I.tok _,⟨_,rfl⟩,q⟩
theorem A6:UnR X (unaryOp .USub) (rU fun i=>.int (-i)):=unI fun _ _ _ _ _ q=>neg_int q
end
def EK:V->V->Bool
 |.non,.non=>true | .non,.int _=>true | .int _,.non=>true | .non,.bl _=>true | .bl _,.non=>true | .non,.str _=>true | .str _,.non=>true
 |.int _,.int _=>true | .bl _,.bl _=>true | .str _,.str _=>true | .byt _,.byt _=>true
 |.int _,.str _=>true | .str _,.int _=>true | .bl _,.str _=>true | .str _,.bl _=>true
 |_,_=>false
def D0:R2:=fun x y H Q=>EK x y=true/\Q (.bl (decide (x=y))) H
def wQ:R2:=fun x y H Q=>EK x y=true/\Q (.bl (!decide (x=y))) H
theorem zJ{i j:Int}:decide (V.int i=V.int j)=(i==j):=by
 rw[vE];simp
theorem B2{i j:Bool}:decide (V.bl i=V.bl j)=(i==j):=by
 rw[vE];simp
theorem zF{i j:Str}:decide (V.str i=V.str j)=(i==j):=by
 rw[vE];simp
theorem zK{i j:Array UInt8}:decide (V.byt i=V.byt j)=(i.toList==j.toList):=by
 rw[vE];cases i;cases j;simp
section
variable{X:Cx}{a b c:Expr}{ta tb tc:TE}{pos:Pos}
theorem bE{J6:Zd}{σ:St}{H:Hp}{s:Shared}{Q:VK}{k k':Bool}(I:Inv X J6 σ H s)(q:Q (.bl k) H)(e:k=k'):EP X J6 σ Q (.bool k') s:=by
 subst e;exact⟨.bl k,H,I,rfl,q⟩
theorem tq:kn X (cJ .Eq) D0:=by
 intro J6 s σ H x y v u Q I rx ry h;obtain⟨hs,q⟩:=h;cases x with
 |non =>
  cases rx;cases y with
  |non=>cases ry;exact PySem.EqNone.eq_none_none (bE I q (by simp))
  |bl j=>cases ry;exact PySem.EqNone.eq_none_bool (bE I q (by simp))
  |int j=>obtain⟨t',rfl⟩:=ry;exact PySem.EqNone.eq_none_int (bE I q (by simp))
  |str j=>obtain⟨t',rfl⟩:=ry;exact PySem.EqNone.eq_none_str (bE I q (by simp))
  |_=>exact absurd (show false=true from hs) fj
 |bl i =>
  cases rx;cases y with
  |non=>cases ry;exact PySem.EqNone.eq_bool_none (bE I q (by simp))
  |bl j=>cases ry;exact eq_bool (bE I q B2)
  |str j=>obtain⟨t',rfl⟩:=ry;exact PySem.EqMixed.eq_bool_str (bE I q (by simp))
  |_=>exact absurd (show false=true from hs) fj
 |int i =>
  obtain⟨t,rfl⟩:=rx;cases y with
  |non=>cases ry;exact PySem.EqNone.eq_int_none (bE I q (by simp))
  |int j=>obtain⟨t',rfl⟩:=ry;exact eq_int (bE I q zJ)
  |str j=>obtain⟨t',rfl⟩:=ry;exact PySem.EqMixed.eq_int_str (bE I q (by simp))
  |_=>exact absurd (show false=true from hs) fj
 |str i =>
  obtain⟨t,rfl⟩:=rx;cases y with
  |non=>cases ry;exact PySem.EqNone.eq_str_none (bE I q (by simp))
  |bl j=>cases ry;exact PySem.EqMixed.eq_str_bool (bE I q (by simp))
  |int j=>obtain⟨t',rfl⟩:=ry;exact PySem.EqMixed.eq_str_int (bE I q (by simp))
  |str j=>obtain⟨t',rfl⟩:=ry;exact eq_str (bE I q zF)
  |_=>exact absurd (show false=true from hs) fj
 |byt i =>
  obtain⟨t,rfl⟩:=rx;cases y with
  |byt j=>obtain⟨t',rfl⟩:=ry;exact PySem.W.eq_bytes (bE I q zK)
  |_=>exact absurd (show false=true from hs) fj
 |_=>cases y<;>exact absurd (show false=true from hs) fj
theorem tp:kn X (cJ .NotEq) wQ:=by
 intro J6 s σ H x y v u Q I rx ry h;obtain⟨hs,q⟩:=h;cases x with
 |non =>
  cases rx;cases y with
  |non=>cases ry;exact PySem.EqNone.ne_none_none (bE I q (by simp))
  |bl j=>cases ry;exact PySem.EqNone.ne_none_bool (bE I q (by simp))
  |int j=>obtain⟨t',rfl⟩:=ry;exact PySem.EqNone.ne_none_int (bE I q (by simp))
  |str j=>obtain⟨t',rfl⟩:=ry;exact PySem.EqNone.ne_none_str (bE I q (by simp))
  |_=>exact absurd (show false=true from hs) fj
 |bl i =>
  cases rx;cases y with
  |non=>cases ry;exact PySem.EqNone.ne_bool_none (bE I q (by simp))
  |bl j=>cases ry;exact ne_bool (bE I q (congrArg not B2))
  |str j=>obtain⟨t',rfl⟩:=ry;exact PySem.EqMixed.ne_bool_str (bE I q (by simp))
  |_=>exact absurd (show false=true from hs) fj
 |int i =>
  obtain⟨t,rfl⟩:=rx;cases y with
  |non=>cases ry;exact PySem.EqNone.ne_int_none (bE I q (by simp))
  |int j=>obtain⟨t',rfl⟩:=ry;exact ne_int (bE I q (congrArg not zJ))
  |str j=>obtain⟨t',rfl⟩:=ry;exact PySem.EqMixed.ne_int_str (bE I q (by simp))
  |_=>exact absurd (show false=true from hs) fj
 |str i =>
  obtain⟨t,rfl⟩:=rx;cases y with
  |non=>cases ry;exact PySem.EqNone.ne_str_none (bE I q (by simp))
  |bl j=>cases ry;exact PySem.EqMixed.ne_str_bool (bE I q (by simp))
  |int j=>obtain⟨t',rfl⟩:=ry;exact PySem.EqMixed.ne_str_int (bE I q (by simp))
  |str j=>obtain⟨t',rfl⟩:=ry;exact ne_str (bE I q (congrArg not zF))
  |_=>exact absurd (show false=true from hs) fj
 |byt i =>
  obtain⟨t,rfl⟩:=rx;cases y with
  |byt j=>obtain⟨t',rfl⟩:=ry;exact PySem.W.ne_bytes (bE I q (congrArg not zK))
  |_=>exact absurd (show false=true from hs) fj
 |_=>cases y<;>exact absurd (show false=true from hs) fj
theorem zb:kn X (cJ .Lt) (yZ fun i j=>.bl (decide (i<j))):=C1 fun _ _ _ _ _ _ _ q=>lt_int q
theorem ET:kn X (cJ .LtE) (yZ fun i j=>.bl (decide (i<=j))):=C1 fun _ _ _ _ _ _ _ q=>le_int q
theorem By:kn X (cJ .Gt) (yZ fun i j=>.bl (decide (j<i))):=C1 fun _ _ _ _ _ _ _ q=>gt_int q
theorem EU:kn X (cJ .GtE) (yZ fun i j=>.bl (decide (j<=i))):=C1 fun _ _ _ _ _ _ _ q=>ge_int q
theorem Al:kn X (cJ .In) (fun x y H Q=>∃i j,x=.str i/\y=.str j/\Q (.bl (!(aY.Str.occurrences j i 0 j.length 1).isEmpty)) H):=by
 intro J6 s σ H x y v u Q I rx ry h;obtain⟨i,j,rfl,rfl,q⟩:=h;obtain⟨t,rfl⟩:=rx;obtain⟨t',rfl⟩:=ry;exact in_str (bE I q rfl)
theorem BA(b:Expr){op:CmpOp}(h:op≠.In:=by decide)(h2:op≠.NotIn:=by decide):jO op b=false:=by
 have e1:(op==CmpOp.In)=false:=by cases op<;>first|rfl|exact absurd rfl h
 have e2:(op==CmpOp.NotIn)=false:=by cases op<;>first|rfl|exact absurd rfl h2
 cases b<;>simp[jO,e1,e2]
theorem y_{op:CmpOp}{r:R2}(ho:kn X (cJ op) r)(ha:PE X a ta)(hb:PE X b tb)(hm:jO op b=false):PE X (.Compare a [op] [b] pos) (aJ r ta tb):=by
 intro J6 s σ H Q I h;exact wpAny_Compare1 (Et ha hb I h fun v u s2 x y H2 I2 rx ry q=>ho J6 s2 σ H2 x y v u Q I2 rx ry q) hm
def aN(t:TE):TT:=fun σ H Q=>t σ H fun x H'=>∃k,x=.bl k/\Q k H'
theorem y1{op:CmpOp}{r:R2}(ho:kn X (cJ op) r)(ha:PE X a ta)(hb:PE X b tb)(hm:jO op b=false):PT X (.Compare a [op] [b] pos) (aN (aJ r ta tb)):=by
 intro J6 s σ H Q I h;refine wpAny_isTrue_Compare1 (cp (ha J6 s σ H _ I h) fun v s1 ⟨x,H1,I1,r1,q1⟩=>cp (hb J6 s1 σ H1 _ I1 q1) fun u s2 ⟨y,H2,I2,r2,q2⟩ =>
  cp (ho J6 s2 σ H2 x y v u _ I2 r1 r2 q2) fun c s3 ⟨z,H3,I3,r3,k,e,q3⟩=>?_) hm
 subst e;cases r3;exact qw ⟨H3,I3,q3⟩
theorem oF:(aj:Nat)<2 ^ 63:=by rw[vD];decide
theorem rC:kn X (mD .Add) (fun x y H Q=>∃i j,x=.str i/\y=.str j/\i.length+j.length<=aj/\Q (.str (i++j)) H):=by
 intro J6 s σ H x y v u Q I rx ry h;obtain⟨i,j,rfl,rfl,hz,q⟩:=h;obtain⟨t,rfl⟩:=rx;obtain⟨t',rfl⟩:=ry;exact add_str (fun t' tk=>⟨.str (i++j),H,I.tok _,⟨_,rfl⟩,q⟩) hz
theorem vals1{x:V}{us:Zf}(r:aW [x] us):∃u,us=[u]/\RelV x u:=by
 cases r with
 |cons r1 r2=>cases r2;exact⟨_,rfl,r1⟩
theorem vals2{x y:V}{us:Zf}(r:aW [x,y] us):∃u w',us=[u,w']/\RelV x u/\RelV y w':=by
 cases r with
 |cons r1 r2 =>
  cases r2 with
  |cons r3 r4=>cases r4;exact⟨_,_,rfl,r1,r3⟩
end
end L2
namespace L2
open PySem PySem.Spec PyProof.Rows
structure yo(h:Heap)(x dx C:Addr)(mA:Str->Option Value):Prop where
 obj:h.get? x=some (o5 C dx)
 ns:h.Ns1 dx mA
 ne:dx≠x
theorem Ar{h:Heap}{dx:Addr}{mA:Str->Option Value}(n:h.Ns1 dx mA):∃od,h.get? dx=some od/\∀name,yI name od=some (mA name):=by
 obtain⟨o,es,ep,ho,hd,hk,_,hm⟩:=n;refine⟨o,ho,fun name=>?_⟩;have e:=hm name;unfold nsFind findBy at e;rw[<-Array.find?_toList]at e;unfold yI;rw[hd];dsimp only;split
 ·rename_i y q;rw[q]at e;exact congrArg some e
 ·rename_i q;rw[q]at e;have a:es.toList.any (·.refKey)=false:=by
   rw[List.any_eq_false];intro y hy;obtain⟨z,t,hkey⟩:=hk y (Array.mem_toList_iff.mp hy);simp[lC.refKey,hkey]
  have a':¬es.toList.any (·.refKey)=true:=by rw[a];exact fj
  rw[if_neg a'];exact congrArg some e
theorem yo.look{h:Heap}{x dx C:Addr}{mA:Str->Option Value}(I:yo h x dx C mA):∃od,PySem.W.InstAt h x (o5 C dx) C (some od)/\∀name,yI name od=some (mA name) :=
 let⟨od,ho,hl⟩:=Ar I.ns
 ⟨od,⟨I.obj,rfl,rfl,ho⟩,hl⟩
section
variable{prog:bx}{w:World}{A:Around}{E:Zc}{s:Shared}{K:Za}{x dx C f:Addr}{mA:Str->Option Value}{name:Str}{v:Value}
theorem C8{expr:Bool}{Q:Zc}(X:K.In s.heap)(I:yo s.heap x dx C mA)(hg:sP K C name=true)(hh:vC K C=true)
  (ha:cP K (.ref C) name=some none) (hv:mA name=some v) (hv':PySem.W.handedIn v=true) (h:Q v { s with toks:=s.toks+1 }) :
  wpAny (model prog w) A (getAttr (.ref x) name expr) Q E s:=by
 obtain⟨od,J,hl⟩:=I.look;exact PySem.W.get_value X J (PySem.W.plainGet_of hg).1 (PySem.W.findObj_own hh ha rfl (by rw[hl,hv])) hv' h
theorem BO{pl:Sem Bool}{Q:Value×List Value->Shared->Prop}(X:K.In s.heap)(I:yo s.heap x dx C mA)(hg:sP K C name=true)
  (hf:cP K (.ref C) name=some (some (.ref f))) (ht:vB K (.ref f)=true) (hv:mA name=none) (h:Q (.ref f,[.ref x]) s) :
  wpAny (model prog w) A (oY (.ref x) name pl) Q E s:=by
 obtain⟨od,J,hl⟩:=I.look;exact PySem.W.method_fn X J (PySem.W.plainGet_of hg).1 (PySem.W.plainGet_of hg).2 hf (beq_iff_eq.mp ht) (by show(yI name od).map (·.isSome)=some false;rw[hl,hv];rfl) h
theorem CD{ns:Zb}{Q:Unit->Shared->Prop}(X:K.In s.heap)(I:yo s.heap x dx C mA)
  (hs:cP K (.ref C) "__setattr__"=some (some (.builtin "object.__setattr__"))) (hp:yH K C=true) (ht:PySem.W.takerIn K C name=some none) (hh:vC K C=true)
  (hw:PySem.Within mA ns) (hsz:ns.length<=aj)
  (h:∀h',yo h' x dx C (fun y=>if y=name then some v else mA y)->d6 dx s.heap h'->Q () { s with heap:=h',toks:=s.toks+2 }) :
  wpAny (model prog w) A (setAttr (.ref x) name v) Q E s:=by
 obtain⟨od,J,hl⟩:=I.look;refine PySem.W.set_plain X J hs (PySem.W.osa_open (s:={ s with toks:=s.toks+1 }) (r:=none) X J hp ht fun b=>?_);obtain⟨cd,hc,hd'⟩:=PySem.W.any_some hh;have hx:s.heap.get? x=some ⟨.ref C,some dx,.plain,#[]⟩:=I.obj;refine ai (aA (ai (ai (wpAny_loadPart hx (ai (PySem.W.Looks.here (s:={ s with toks:=s.toks+1 }) (PySem.W.looks_clsIn X hc) ?_))))));rw[hd'];refine aA (a:=some dx) (ai (aA (ai ?_)));refine wpAny_nsSet1 (s:={ s with toks:=s.toks+1 }) I.ns fun h' hn2 hs2=>?_;obtain⟨oD,esD,epD,hoD,hdD,hcD⟩:=hn2.count (PySem.Within.cons name v hw);refine ai (wpAny_lookBehind hoD (by rw[hdD];exact pastItsLine_dict (bq hcD (by rw[eG];omega))) ?_);exact aA (h _ ⟨(hs2.2 _ (cA I.ne)).trans I.obj,hn2,I.ne⟩ hs2)
theorem BE{R:Result->Shared->Prop}{vs:Zf}{kw:List (Str×Value)}(X:K.In s.heap)(hm:qb K C=true)
  (hi:cP K (.ref C) "__init__"=some (some (.ref f))) (hf:PySem.W.typeIn K (.ref f)=some (.type "function"))
  (h:zzl77 (model prog w) (A.under (.builtin "type.__call__" ⟨.ref C::vs,kw⟩)) (.call (.ref f) ⟨.ref (s.heap.objs.size+1)::vs,kw⟩) (PySem.W.InitBack (s.heap.objs.size+1) R)
   { s with heap:=(s.heap.push mC).push (o5 C s.heap.objs.size) }) :
  zzl77 (model prog w) A (.call (.ref C) ⟨vs,kw⟩) R s:=by
 obtain⟨hh,g,d,t,os⟩:=s;exact PySem.W.make_core (PySem.W.makes_of X hm) (PySem.W.looks_findIn X hi) (fun self=>PySem.W.bind_fn X self hf) (.inl rfl) h
end
def cf(f:Str)(v:V):List (Str×V)->List (Str×V)
 |[]=>[(f,v)]
 | (g,x)::r=>if g=f then(g,v)::r else(g,x)::cf f v r
theorem dP(f g:Str)(v:V):∀fs:List (Str×V),(cf f v fs).lookup g=if g=f then some v else fs.lookup g
 |[]=>by
  show jN g [(f,v)]=_;by_cases h:g=f
  ·have hb:(g==f)=true:=beq_iff_eq.mpr h;simp only[jN,hb,if_pos h]
  ·have hb:(g==f)=false:=beq_eq_false_iff_ne.mpr h;simp only[jN,hb,if_neg h]
 | (k,x)::r=>by
  have ih:=dP f g v r;rw[show cf f v ((k,x)::r)=(if k=f then(k,v)::r else(k,x)::cf f v r)from rfl]
  by_cases hk:k=f
  ·rw[if_pos hk];by_cases h:g=k
   ·have hb:(g==k)=true:=beq_iff_eq.mpr h;simp only[jN,hb,if_pos (h.trans hk)]
   ·have hb:(g==k)=false:=beq_eq_false_iff_ne.mpr h;simp only[jN,hb,if_neg (fun e:g=f=>h (e.trans hk.symm))]
  ·rw[if_neg hk];by_cases h:g=k
   ·have hb:(g==k)=true:=beq_iff_eq.mpr h;simp only[jN,hb,if_neg (fun e:g=f=>hk (h.symm.trans e))]
   ·have hb:(g==k)=false:=beq_eq_false_iff_ne.mpr h;simp only[jN,hb];exact ih
theorem oG(f:Str)(v:V):∀fs:List (Str×V),f∈(cf f v fs).map (·.1)/\∀g,g∈fs.map (·.1)->g∈(cf f v fs).map (·.1)
 |[]=>⟨by simp[cf],fun g h=>by simp at h⟩
 | (k,x)::r=>by
  obtain⟨i1,i2⟩:=oG f v r;rw[show cf f v ((k,x)::r)=(if k=f then(k,v)::r else(k,x)::cf f v r)from rfl]
  by_cases hk:k=f
  ·rw[if_pos hk];subst hk;exact⟨by simp,fun g h=>by simpa using h⟩
  ·rw[if_neg hk];refine⟨?_,fun g h=>?_⟩
   ·rw[bh];exact ff _ i1
   ·rw[bh]at h ⊢;rcases cR.mp h with e|e
    ·exact cR.mpr (.inl e)
    ·exact ff _ (i2 g e)
theorem pc(f:Str)(v:V):∀fs:List (Str×V),(cf f v fs).length<=fs.length+1
 |[]=>by simp[cf]
 | (k,x)::r=>by
  have ih:=pc f v r;rw[show cf f v ((k,x)::r)=(if k=f then(k,v)::r else(k,x)::cf f v r)from rfl]
  by_cases hk:k=f
  ·rw[if_pos hk,eG,eG];omega
  ·rw[if_neg hk,eG,eG];omega
theorem jT.some_of{v:V}{o:Option Value}(r:jT (some v) o):∃u,o=some u/\RelV v u:=by
 cases o with
 |none=>exact(show False from r).elim
 |some u=>exact⟨u,rfl,r⟩
theorem jT.none_of{o:Option Value}(r:jT none o):o=none:=by
 cases o with
 |none=>rfl
 |some u=>exact(show False from r).elim
theorem AC{v:V}{u:Value}(r:RelV v u):PySem.W.handedIn u=true:=by
 cases v with
 |non=>cases(show u=Value.none from r);rfl
 |bl b=>cases(show u=Value.bool b from r);rfl
 |int i=>obtain⟨t,e⟩:=(show ∃t,u=Value.int i t from r);cases e;rfl
 |str x=>obtain⟨t,e⟩:=(show ∃t,u=Value.str x t from r);cases e;rfl
 |byt b=>obtain⟨t,e⟩:=(show ∃t,u=Value.bytes b t from r);cases e;rfl
 |flt b=>obtain⟨t,e⟩:=(show ∃t,u=Value.float b t from r);cases e;rfl
 |ref a=>cases(show u=Value.ref a from r);rfl
 |ty n=>cases(show u=Value.type n from r);rfl
section
variable{P:bx}{w:World}{H H':Hp}{h h':Heap}{a C dx:Addr}{fs fs':List (Str×V)}
theorem pZ{K:Za}(hok:kN P w K H h)(e:H a=some (.ins C dx fs)):∃mA,yo h a dx C mA/\(∀f,jT (fs.lookup f) (mA f))/\PySem.Within mA (fs.map (·.1))/\fs.length<=1000/\H dx=some (.own a):=by
 obtain⟨d,z,ne,ob,mA,n,r,q⟩:=(show bP P w K H h a (.ins C dx fs)from hok a _ e);exact⟨mA,⟨ob,n,ne⟩,r,q,z,d⟩
end
structure zU(K:Za)(C:Addr):Prop where
 pg:sP K C Str.empty=true
 hd:vC K C=true
 po:yH K C=true
 sa:cP K (.ref C) "__setattr__"=some (some (.builtin "object.__setattr__"))
theorem zU.get{K:Za}{C:Addr}(c:zU K C)(f:Str):sP K C f=true:=c.pg
def dk(K:Za)(C:Addr)(f:Str):Prop:=cP K (.ref C) f=some none
theorem dk.taker{K:Za}{C:Addr}{f:Str}(n:dk K C f):PySem.W.takerIn K C f=some none:=by
 unfold PySem.W.takerIn;rw[show cP K (.ref C) f=some none from n]
 rfl
structure Dl(K:Za)(C:Addr)(m:Str)(f:Addr):Prop where
 at_:cP K (.ref C) m=some (some (.ref f))
 fn:vB K (.ref f)=true
 kp:gP K (.ref f)=true
section
variable{X:Cx}{J6:Zd}{σ:St}{H:Hp}{s:Shared}{a C dx:Addr}{fs:List (Str×V)}{f:Str}{v:V}{A:Around}{E:Zc}
theorem xX{b:Bool}{Q:Zc}(I:Inv X J6 σ H s)(e:H a=some (.ins C dx fs))(c:zU X.K C)(n:dk X.K C f)(l:fs.lookup f=some v)
  (h:∀u s',Inv X J6 σ H s'->RelV v u->Q u s'):wpAny (model X.prog X.w) A (getAttr (.ref a) f b) Q E s:=by
 obtain⟨mA,O,r,_,_,_⟩:=pZ I.hok e;obtain⟨u,hu,ru⟩:=jT.some_of (v:=v) (o:=mA f) (by rw[<-l];exact r f);exact C8 I.kIn O (c.get f) c.hd n hu (AC ru) (h u _ (I.tok _) ru)
theorem rJ{m:Str}{g:Addr}{pl:Sem Bool}{Q:Value×List Value->Shared->Prop}(I:Inv X J6 σ H s)(e:H a=some (.ins C dx fs))(c:zU X.K C)(k:Dl X.K C m g)(l:fs.lookup m=none)
  (h:Q (.ref g,[.ref a]) s):wpAny (model X.prog X.w) A (oY (.ref a) m pl) Q E s:=by
 obtain⟨mA,O,r,_,_,_⟩:=pZ I.hok e;have hn:mA m=none:=jT.none_of (by rw[<-l];exact r m);exact BO I.kIn O (c.get m) k.at_ k.fn hn h
theorem xp{y:V}{u:Value}{Q:Unit->Shared->Prop}(I:Inv X J6 σ H s)(e:H a=some (.ins C dx fs))(c:zU X.K C)(n:dk X.K C f)(hl:fs.length<1000)(ry:RelV y u)
  (h:∀s',Inv X J6 σ (upd H a (.ins C dx (cf f y fs))) s'->Q () s'):wpAny (model X.prog X.w) A (setAttr (.ref a) f u) Q E s:=by
 obtain⟨mA,O,r,wi,_,ho⟩:=pZ I.hok e;have hz:(fs.map (·.1)).length<=aj:=by rw[ak,vD];omega
 refine CD I.kIn O c.sa c.po n.taker c.hd wi hz fun h' O' sb=>h _ ?_;have hd:∃o,h'.get? dx=some o:=let⟨o,_,_,e',_⟩:=O'.ns;⟨o,e'⟩;refine I.write (x:=a) (e:=dx) (by rw[e];exact iO) (.inr ho) (fun b q hb z=>(sb.2 b hb).trans z) hd ?_;refine⟨by rw[ag O.ne];exact ho,?_,O.ne,O'.obj,_,O'.ns,fun g=>?_,fun g hg=>?_⟩
 ·have:=pc f y fs;omega
 ·show jT ((cf f y fs).lookup g) (if g=f then some u else mA g)
  rw[dP];by_cases q:g=f
  ·rw[if_pos q,if_pos q];exact ry
  ·rw[if_neg q,if_neg q];exact r g
 ·by_cases q:g=f
  ·rw[q];exact(oG f y fs).1
  ·refine(oG f y fs).2 g (wi g fun z=>hg ?_);show(if g=f then some u else mA g)=none
   rw[if_neg q];exact z
theorem Inv.made(I:Inv X J6 σ H s):Inv X J6 σ (upd (upd H s.heap.objs.size (.own (s.heap.objs.size+1))) (s.heap.objs.size+1) (.ins C s.heap.objs.size []))
  { s with heap:=(s.heap.push mC).push (o5 C s.heap.objs.size) }:=by
 have e1:(s.heap.push mC).get? s.heap.objs.size=some mC:=cz s.heap rfl;have e2:((s.heap.push mC).push (o5 C s.heap.objs.size)).get? (s.heap.objs.size+1)=some (o5 C s.heap.objs.size):=by
  have:=cz (s.heap.push mC) (o:=o5 C s.heap.objs.size) rfl;rwa[jV]at this
 have e3:(s.heap.push mC).Ns s.heap.objs.size (fun _=>none):=⟨mC,#[],_,e1,rfl,(fun e he=>absurd he (by simp)),fun _=>rfl⟩;have I1:=I.laid (a:=s.heap.objs.size) (o:=.own (s.heap.objs.size+1)) (h':=s.heap.push mC) (t':=s.toks) (fun b u q=>aS _ q) (aG _) ⟨_,e1⟩;refine I1.laid (a:=s.heap.objs.size+1) (o:=.ins C s.heap.objs.size []) (t':=s.toks) (fun b u q=>aS _ q) (Nat.le_of_eq (jV _ _)) ?_;have ne:s.heap.objs.size≠s.heap.objs.size+1:=b9 (vA _);refine⟨by rw[ag ne,aa],cQ _,ne,e2,fun _=>none,(Heap.Ns1.of_empty e3).at fun o q=>aS _ q,fun _=>iO,fun y hy=>absurd rfl hy⟩
theorem Dg{prog:bx}{w:World}{env:Env}{e:Expr}{f:Str}{pos:Pos}{s:Shared}{Q:Zc}(hb:qa e f env (eval e env)=eval e env)
  (h:wpAny (model prog w) A (eval e env) (fun o s₁=>wpAny (model prog w) A (getAttr o f true) Q E s₁) E s):wpAny (model prog w) A (eval (.Attribute e f pos) env) Q E s :=
 Attribute_any_ h (by rw[arm_eval_Attribute,hb])
end
def fO(K:Za)(ta:TE)(f:Str):TE:=fun σ H Q=>ta σ H fun x H1=>∃a C dx fs v,x=.ref a/\H1 a=some (.ins C dx fs)/\zU K C/\dk K C f/\fs.lookup f=some v/\Q v H1
def mW(K:Za)(ta tv:TE)(f:Str):TS:=fun D σ H=>tv σ H fun y H1=>ta σ H1 fun x H2=>∃a C dx fs,x=.ref a/\H2 a=some (.ins C dx fs)/\zU K C/\dk K C f/\fs.length<1000 /\
 D.nx σ (upd H2 a (.ins C dx (cf f y fs)))
section
variable{X:Cx}{o e value:Expr}{f:Str}{pos pos' U0:Pos}{ta tv:TE}
theorem bZ(he:PE X e ta)(hb:qa e f X.env (eval e X.env)=eval e X.env):PE X (.Attribute e f pos) (fO X.K ta f):=by
 intro J6 s σ H Q I h;refine Dg hb (cp (he J6 s σ H _ I h) fun u s1 zq0=>?_);obtain⟨x,H1,I1,rx,a,C,dx,fs,v,ex,ea,c,n,l,q⟩:=zq0;subst ex;obtain rfl:u=Value.ref a:=rx;exact xX I1 ea c n l fun u' s2 I2 ru=>⟨v,H1,I2,ru,q⟩
theorem fy(ha:PE X o ta)(hv:PE X value tv)(hs:oZ value (some (.Attribute o f pos')) pos.line X.env=pure false):PS X (.Assign [.Attribute o f pos'] value pos) (mW X.K ta tv f):=by
 intro J6 s σ H D I h;refine plainObj_wpAny_Assign_Attribute (cp (hv J6 s σ H _ I h) fun u s1 ⟨y,H1,I1,ry,q⟩=>cp (ha J6 s1 σ H1 _ I1 q) fun ov s2 zq0=>?_) hs;obtain⟨x,H2,I2,rx,a,C,dx,fs,ex,ea,c,n,l,q2⟩:=zq0;subst ex;obtain rfl:ov=Value.ref a:=rx;exact xp I2 ea c n l ry fun s3 I3=>⟨σ,_,I3,q2⟩
end
section
variable{X:Cx}{J6:Zd}{σ:St}{H:Hp}{s:Shared}{A:Around}{E:Zc}{Q:Zc}{c:Value}{b:Bool}
inductive gg(K:Za)(H:Hp):V->Value->Prop where
 |non:gg K H .non (.type "NoneType")
 |bl (x:Bool):gg K H (.bl x) (.type "bool")
 |int (i:Int):gg K H (.int i) (.type "int")
 |str (x:Str):gg K H (.str x) (.type "str")
 |flt (x:UInt64):gg K H (.flt x) (.type "float")
 |lst {a:Addr}{xs:List V}(e:H a=some (.lst xs)):gg K H (.ref a) (.type "list")
 |frz {a:Addr}{o:Obj}{xs:List V}(e:H a=some (.frz o (.lst xs))):gg K H (.ref a) (.type "list")
 |tup {a:Addr}{xs:List V}(e:H a=some (.tup xs)):gg K H (.ref a) (.type "tuple")
 |dK {a:Addr}{kvs:List (ei×V)}(e:H a=some (.dK kvs)):gg K H (.ref a) (.type "dict")
 |dT {a:Addr}{kvs:List (TK×V)}(e:H a=some (.dT kvs)):gg K H (.ref a) (.type "dict")
 |ins {a C dx:Addr}{fs:List (Str×V)}(e:H a=some (.ins C dx fs)) (cl:zU K C) (ha:cP K (.ref C) "__class__"=some (some (.builtin "object.__class__")))
   (hn:PySem.W.specialIn K (.builtin "object.__class__") "__get__"=some (some (.builtin "getset_descriptor.__get__"))) (htk:PySem.W.takesIn K (.builtin "object.__class__")=some true)
   (hm:PySem.W.mroIn K C (.type "object")=some true):gg K H (.ref a) (.ref C)
theorem Ax{x:V}{u t:Value}(I:Inv X J6 σ H s)(rx:RelV x u)(ty:gg X.K H x t)(e:mB X.K t c=some b)(h:∀tk,Q (.bool b) { s with toks:=tk }):
  wpAny (model X.prog X.w) A (call (.builtin "isinstance") [u,c]) Q E s:=by
 cases ty with
 |non=>cases(show u=Value.none from rx);exact iN PySem.W.kitx_none I.kIn iO e (fun z=>nomatch z) h
 |bl y=>cases(show u=Value.bool y from rx);exact iN PySem.W.kitx_bool I.kIn iO e (fun z=>nomatch z) h
 |int i=>obtain⟨t,q⟩:=(show ∃t,u=Value.int i t from rx);cases q;exact iN PySem.W.kitx_int I.kIn iO e (fun z=>nomatch z) h
 |str y=>obtain⟨t,q⟩:=(show ∃t,u=Value.str y t from rx);cases q;exact iN PySem.W.kitx_str I.kIn iO e (fun z=>nomatch z) h
 |flt y=>obtain⟨t,q⟩:=(show ∃t,u=Value.float y t from rx);cases q;exact iN PySem.W.kitx_float I.kIn iO e (fun z=>nomatch z) h
 |@lst a xs ea =>
  cases(show u=Value.ref a from rx);obtain⟨_,_,n,_,h1⟩:=(show bP X.prog X.w X.K H s.heap a (.lst xs)from I.hok a _ ea);exact iN PySem.W.kitx_list I.kIn ⟨_,h1,rfl⟩ e (fun z=>nomatch z) h
 |@frz a ob xs ea =>
  cases(show u=Value.ref a from rx);obtain⟨_,_,_,n,_,h1⟩:=(show bP X.prog X.w X.K H s.heap a (.frz ob (.lst xs))from I.hok a _ ea);exact iN PySem.W.kitx_list I.kIn ⟨_,h1,rfl⟩ e (fun z=>nomatch z) h
 |@tup a xs ea =>
  cases(show u=Value.ref a from rx);obtain⟨_,_,_,p⟩:=(show bP X.prog X.w X.K H s.heap a (.tup xs)from I.hok a _ ea);obtain⟨o,h1,h2,_⟩:=p;exact iN PySem.W.kitx_tuple I.kIn ⟨o,h1,h2⟩ e (fun z=>nomatch z) h
 |@dK a kvs ea =>
  cases(show u=Value.ref a from rx);obtain⟨_,_,vs,_,p⟩:=(show bP X.prog X.w X.K H s.heap a (.dK kvs)from I.hok a _ ea);obtain⟨o,es,ep,h1,h2,_⟩:=p;exact iN PySem.W.kitx_dict I.kIn ⟨o,h1,h2.1⟩ e (fun z=>nomatch z) h
 |@dT a kvs ea =>
  cases(show u=Value.ref a from rx);obtain⟨_,_,xs,_,o,es,ep,h1,h2,_⟩:=(show bP X.prog X.w X.K H s.heap a (.dT kvs)from I.hok a _ ea);exact iN PySem.W.kitx_dict I.kIn ⟨o,h1,h2.1⟩ e (fun z=>nomatch z) h
 |@ins a C dx fs ea cl ha hn htk hm =>
  cases(show u=Value.ref a from rx);obtain⟨mA,O,_⟩:=pZ I.hok ea;obtain⟨od,J,_⟩:=O.look;exact iN (PySem.W.kitx_own (cl.get _) cl.hd ha hn htk hm) I.kIn J e (fun z=>nomatch z) h
end
end L2
namespace L2
open PySem PySem.Spec PyProof.Rows
structure dX(k:Nat)(A:Around):Prop where
 hd:A.handled=none
 dp:A.depth+3 * k+5<recursionLimit
 un:A.units+16 * k+200<cLine
theorem dX.mono{j k:Nat}{A:Around}(r:dX k A)(h:j<=k):dX j A:=⟨r.hd,by have:=r.dp;omega,by have:=r.un;omega⟩
theorem dX.deeper{k:Nat}{A:Around}(r:dX (k+1) A)(env:Env):dX k (A.deeper env) :=
 ⟨r.hd,by have:=r.dp;show A.depth+1+3 * k+5<_;omega,by have:=r.un;show A.units+3+16 * k+200<_;omega⟩
theorem xR{A:Around}{C:Addr}{us:Zf}{kw:List (Str×Value)}:(A.under (.builtin "type.__call__" ⟨.ref C::us,kw⟩)).depth=A.depth+1:=by
 first|rfl|simp[Around.under,Code.weight,Code.isCreation,Code.isGuard,Code.isCaller,Code.frames,Code.isFrame,guardIds]
theorem xQ{A:Around}{C:Addr}{us:Zf}{kw:List (Str×Value)}:(A.under (.builtin "type.__call__" ⟨.ref C::us,kw⟩)).units=A.units+1:=by
 first|rfl|simp[Around.under,Code.cUnits,Code.frames,Code.isFrame]
theorem dX.make{k:Nat}{A:Around}(r:dX (k+1) A)(C:Addr)(us:Zf)(kw:List (Str×Value)):dX k (A.under (.builtin "type.__call__" ⟨.ref C::us,kw⟩)) :=
 ⟨r.hd,by have:=r.dp;rw[xR];omega,by have:=r.un;rw[xQ];omega⟩
theorem dX.depth{k:Nat}{A:Around}(r:dX k A):A.depth<recursionLimit:=by have:=r.dp;omega
theorem dX.units{k:Nat}{A:Around}(r:dX k A):A.units+64<cLine:=by have:=r.un;omega
def bH:TA:=fun _ H Q=>Q [] H
def aH(ta:TE)(tr:TA):TA:=fun σ H Q=>ta σ H fun x H1=>tr σ H1 fun xs H2=>Q (x::xs) H2
abbrev aD(a:TE):TA:=aH a bH
abbrev aM(a b:TE):TA:=aH a (aH b bH)
abbrev ji(a b c:TE):TA:=aH a (aH b (aH c bH))
section
variable{X:Cx}{e:Expr}{es:List Expr}{te:TE}{t:TA}{pos:Pos}
theorem b0:PA X [] bH:=fun _ _ _ _ H Q I h=>Calls.spliced_nil ⟨[],H,I,.nil,h⟩
theorem cy(ha:PE X e te)(hr:PA X es t)(hs:ay (e::es) X.env=(false,eval e X.env)::ay es X.env:=by rfl):PA X (e::es) (aH te t):=by
 intro pos J6 s σ H Q I h;rw[hs];show wpAny _ _ (spliced ((false,eval e X.env)::backTo pos (ay es X.env))) _ _ s;refine yG (cp (ha J6 s σ H _ I h) fun u s1 zq0=>?_);obtain⟨x,H1,I1,r1,q1⟩:=zq0;exact cp (hr pos J6 s1 σ H1 _ I1 q1) fun us s2 ⟨xs,H2,I2,r2,q2⟩=>⟨x::xs,H2,I2,.cons r1 r2,q2⟩
def dJ(t:TA):TE:=fun σ H Q=>t σ H fun xs H1=>xs.length<=aj/\∀p,H1 p=none->Q (.ref p) (upd H1 p (.tup xs))
def dE(t:TA):TE:=fun σ H Q=>t σ H fun xs H1=>xs.length<=aj/\∀p,H1 p=none->Q (.ref p) (upd H1 p (.lst xs))
theorem bw{x1}(h:PA X es t):PE X (.Tuple es x1 pos) (dJ t):=by
 intro J6 s σ H Q I hq;refine wpAny_Tuple_spliced (cp (h pos J6 s σ H _ I hq) fun us s1 ⟨xs,H1,I1,r,z,q⟩=>⟨by rw[<-r.length];exact z,?_⟩);have hf:H1 s1.heap.objs.size=none:=I1.hok.fresh (aG _);refine⟨.ref s1.heap.objs.size,upd H1 s1.heap.objs.size (.tup xs),I1.laid (t':=s1.toks) (fun b u e=>aS _ e) (aG _) ?_,rfl,q _ hf⟩;exact⟨z,us,r,⟨_,cz _ rfl,rfl,_,rfl⟩⟩
theorem bm(h:PA X es t):PE X (.List es pos) (dE t):=by
 intro J6 s σ H Q I hq;refine wpAny_List_spliced (cp (h pos J6 s σ H _ I hq) fun us s1 ⟨xs,H1,I1,r,z,q⟩=>⟨by rw[<-r.length];exact z,?_⟩);have hf:H1 s1.heap.objs.size=none:=I1.hok.fresh (aG _);refine⟨.ref s1.heap.objs.size,upd H1 s1.heap.objs.size (.lst xs),I1.laid (t':=s1.toks) (fun b u e=>aS _ e) (aG _) ?_,rfl,q _ hf⟩;exact⟨z,us,0,r,cz _ rfl⟩
end
abbrev Sp:=List V->Hp->VK->XK->Prop
abbrev A0:=List Env->Hp->Shared->XK->Value->Shared->Prop
structure yB(P:bx)(w:World)(K:Za)(mg:Str->Option Value)(base:Heap)(A:Around)(outer:List Env)(s:Shared)(H:Hp):Prop where
 frames:A.frames=some outer
 mod:Mod K mg base
 bs:∀b o,base.get? b=some o->s.heap.get? b=some o/\H b=none
 bsz:base.objs.size<=s.heap.objs.size
 funs:s.heap.FunFrames base outer
 frf:∀b∈AY outer,H b=none
 hok:kN P w K H s.heap
 bare:mE s.gens
def CE(outer:List Env)(P:bx)(w:World)(K:Za)(H:Hp)(s:Shared)(Q:VK)(u:Value)(s':Shared):Prop :=
 ∃v H',s'.os=s.os/\mE s'.gens/\Un (AY outer) [] H H' s.heap s'.heap/\kN P w K H' s'.heap/\RelV v u/\Q v H'
def CR(CX:A0)(outer:List Env)(P:bx)(w:World)(K:Za)(H:Hp)(s:Shared)(Q:VK)(E:XK)(r:Result)(s':Shared):Prop :=
 match r with
 |.ok (.ret u)=>CE outer P w K H s Q u s'
 |.ok _=>False
 |.error e=>CX outer H s E e s'
structure ky(P:bx)(w:World)(K:Za)(mg:Str->Option Value)(base:Heap)(CX:A0)(k:Nat)(f:Addr)(fd:jM)(ps:Zb)(sp:Sp):Prop where
 len:∀vs H Q E,sp vs H Q E->vs.length=ps.length
 run:∀(A:Around) (outer:List Env) (s:Shared) (H:Hp) (args:Args) (us:Zf) (vs:List V) (Q:VK) (E:XK),dX k A->yB P w K mg base A outer s H->p_ s fd args (ps.zip us)->aW vs us->sp vs H Q E ->
  zzl77 (model P w) A (.call (.ref f) args) (CR CX outer P w K H s Q E) s
theorem yB.make{P:bx}{w:World}{K:Za}{mg:Str->Option Value}{base:Heap}{A:Around}{outer:List Env}{s:Shared}{H:Hp}(e:yB P w K mg base A outer s H)(C:Addr)(us:Zf)(kw:List (Str×Value)):
  yB P w K mg base (A.under (.builtin "type.__call__" ⟨.ref C::us,kw⟩)) outer s H:=⟨by first|exact e.frames|(simpa[Around.under,Code.envs,Code.isFrame,pushEnvs]using e.frames),e.mod,e.bs,e.bsz,e.funs,e.frf,e.hok,e.bare⟩
section
variable{X:Cx}{J6:Zd}{σ:St}{H:Hp}{s s':Shared}
theorem Inv.env0(I:Inv X J6 σ H s):yB X.prog X.w X.K X.mg X.base X.A X.stack s H :=
 ⟨I.ok.frames,I.ok.mod,I.bs,bq I.ok.bsz I.sz,I.stack,I.stkFree,I.hok,I.bare⟩
theorem Inv.after{Q:VK}{u:Value}(I:Inv X J6 σ H s)(h:CE X.stack X.prog X.w X.K H s Q u s'):EP X J6 σ Q u s':=by
 obtain⟨v,H',os,bare,un,hok,r,q⟩:=h;obtain⟨hh,g,d,t,os'⟩:=s';obtain rfl:os'=s.os:=os;exact⟨v,H',I.call (h':=hh) (g':=g) (d':=d) (t':=t) (ch:=[]) un hok bare (fun b z=>absurd z (by simp)),r,q⟩
end
def Dr(sp:Sp)(dvs:List V)(E:XK)(t:TA):TE:=fun σ H Q=>t σ H fun vs H1=>sp (vs++dvs) H1 Q E
def gl(C:Addr)(m:Str)(sp:Sp)(dvs:List V)(E:XK)(ta:TE)(t:TA):TE:=fun σ H Q=>ta σ H fun x H1=>∃a dx fs,x=.ref a/\H1 a=some (.ins C dx fs)/\fs.lookup m=none /\
 t σ H1 fun vs H2=>sp (x::(vs++dvs)) H2 Q E
def yU(C:Addr)(sp:Sp)(dvs:List V)(E:XK)(t:TA):TE:=fun σ H Q=>t σ H fun vs H1=>∀x dx,H1 x=none->H1 dx=none->dx≠x ->
 sp (.ref x::(vs++dvs)) (upd (upd H1 dx (.own x)) x (.ins C dx [])) (fun v H2=>v=.non/\Q (.ref x) H2) E
def Binds(K:Za)(fd:jM)(ps:Zb)(ds:Zf):Prop :=
 ∀(s:Shared) (us:Zf),K.In s.heap->(us++ds).length=ps.length->p_ s fd ⟨us,[]⟩ (ps.zip (us++ds))
theorem Binds.all{K:Za}{fd:jM}{ps:Zb}(h:∀us:List Value,us.length=ps.length->bindArgs fd ⟨us,[]⟩=pure (ps.zip us)):Binds K fd ps []:=fun s us _ hl=>by
 rw[d_]at hl ⊢;exact .of_eq (h us hl)
def me(CX:A0)(X:Cx)(E:XK):Prop:=∀(J6:Zd) (σ:St) (H:Hp) (s:Shared) (e:Value) (s':Shared),Inv X J6 σ H s->CX X.stack H s E e s'->X.xe e s'
section
variable{X:Cx}{CX:A0}{k:Nat}{f C:Addr}{fd:jM}{ps:Zb}{sp:Sp}{dvs:List V}{ds:Zf}{E:XK}{x m:Str}{p pos J8:Pos}{e o:Expr}{es:List Expr}{ta:TE}{t:TA}
theorem xu{J6:Zd}{σ:St}{H:Hp}{s:Shared}{Q:VK}{us:Zf}{vs:List V}(F:ky X.prog X.w X.K X.mg X.base CX k f fd ps sp)(hr:dX k X.A)(hb:Binds X.K fd ps ds)(hd:aW dvs ds)(hx:me CX X E)
  (I:Inv X J6 σ H s) (r:aW vs us) (h:sp (vs++dvs) H Q E):wpAny (model X.prog X.w) X.A (call (.ref f) us) (EP X J6 σ Q) X.xe s:=by
 have r2:aW (vs++dvs) (us++ds):=r.append hd;have hl:(us++ds).length=ps.length:=by rw[<-r2.length];exact F.len _ _ _ _ h
 refine wpAny_call (yF (F.run X.A X.stack s H ⟨us,[]⟩ (us++ds) (vs++dvs) Q E hr I.env0 (hb s us I.kIn hl) r2 h) fun r s' hq=>?_);cases r with
 |error e=>exact hx J6 σ H s e s' I hq
 |ok fl =>
  cases fl with
  |ret u=>exact I.after hq
  |next=>exact iP hq
  |brk=>exact iP hq
  |cont=>exact iP hq
theorem CZ(F:ky X.prog X.w X.K X.mg X.base CX k f fd ps sp)(hr:dX k X.A)(hg:Gl X x)(hm:X.mg x=some (.ref f))(hk:gP X.K (.ref f)=true)(hb:Binds X.K fd ps ds)(hd:aW dvs ds)(hx:me CX X E)
  (ha:PA X (e::es) t) (hdb:(x==("__debug__":Str))=false:=by decide) (he:ay (e::es) X.env=(false,eval e X.env)::ay es X.env:=by rfl) (hpl:(backTo pos (ay es X.env)).any (·.1)=false:=by rfl) :
  PE X (.Call (.Name x p) (e::es) [] pos) (Dr sp dvs E t):=by
 intro J6 s σ H Q I h;refine yE (uV I hg hm ?_ hdb);refine PySem.W.callWith_K (h₀:=X.base) I.ok.mod.kin hk (cp (ha pos J6 s σ H _ I h) fun us s1 ⟨vs,H1,I1,r,q⟩=>⟨I1.kIn,?_⟩) he hpl;exact xu F hr hb hd hx I1 r q
theorem CU{pl:Sem Bool}(he:PE X o ta)(c:zU X.K C)(hm:Dl X.K C m f)(F:ky X.prog X.w X.K X.mg X.base CX k f fd ps sp)(hr:dX k X.A)(hb:Binds X.K fd ps ds)(hd:aW dvs ds)(hx:me CX X E)(ha:PA X (e::es) t)
  (hst:ay (e::es) X.env=(false,eval e X.env)::ay es X.env:=by rfl) (hpl:(backTo pos (ay es X.env)).any (·.1)=false:=by rfl)
  (ht:eval (.Call (.Attribute o m J8) (e::es) [] pos) X.env=(do
   let ov <- eval o X.env
   o0 J8.atName
   let(f,first) <- jX [ov] (oY ov m pl)
   sN pos f first (backTo pos (ay (e::es) X.env)) (mz pos (my [] X.env))):=by rfl) :
  PE X (.Call (.Attribute o m J8) (e::es) [] pos) (gl C m sp dvs E ta t):=by
 intro J6 s σ H Q I h;refine PySem.W.methodCall_KW (pl:=pl) (cp (he J6 s σ H _ I h) fun u s1 zq0=>?_) ht;obtain⟨x,H1,I1,rx,a,dx,fs,ex,ea,l,q⟩:=zq0;subst ex;obtain rfl:u=Value.ref a:=rx;refine rJ I1 ea c hm l ?_;refine PySem.W.callWith_K (first:=[.ref a]) (h₀:=X.base) I.ok.mod.kin hm.kp (cp (ha pos J6 s1 σ H1 _ I1 q) fun us s2 ⟨vs,H2,I2,r,q2⟩=>⟨I2.kIn,?_⟩) hst hpl
 exact xu (us:=.ref a::us) (vs:=.ref a::vs) F hr hb hd hx I2 (.cons rfl r) q2
theorem Bt{pl:Sem Bool}(he:PE X o ta)(c:zU X.K C)(hm:Dl X.K C m f)(F:ky X.prog X.w X.K X.mg X.base CX k f fd ps sp)(hr:dX k X.A)(hb:Binds X.K fd ps ds)(hd:aW dvs ds)(hx:me CX X E)
  (ht:eval (.Call (.Attribute o m J8) [] [] pos) X.env=(do
   let ov <- eval o X.env
   o0 J8.atName
   let(f,first) <- jX [ov] (oY ov m pl)
   sN pos f first (backTo pos (ay [] X.env)) (mz pos (my [] X.env))):=by rfl) :
  PE X (.Call (.Attribute o m J8) [] [] pos) (gl C m sp dvs E ta bH):=by
 intro J6 s σ H Q I h;refine PySem.W.methodCall_KW (pl:=pl) (cp (he J6 s σ H _ I h) fun u s1 zq0=>?_) ht;obtain⟨x,H1,I1,rx,a,dx,fs,ex,ea,l,q⟩:=zq0;subst ex;obtain rfl:u=Value.ref a:=rx;refine rJ I1 ea c hm l ?_;exact PySem.W.callWith_K0 (first:=[.ref a]) I1.kIn hm.kp (xu (us:=[.ref a]) (vs:=[.ref a]) F hr hb hd hx I1 (.cons rfl .nil) q)
structure Mk(K:Za)(C f:Addr):Prop where
 makes:qb K C=true
 init:cP K (.ref C) "__init__"=some (some (.ref f))
 fn:vB K (.ref f)=true
 kp:gP K (.ref C)=true
theorem Bc{J6:Zd}{σ:St}{H:Hp}{s:Shared}{Q:VK}{us:Zf}{vs:List V}(M:Mk X.K C f)(F:ky X.prog X.w X.K X.mg X.base CX k f fd ps sp)(hr:dX (k+1) X.A)(hb:Binds X.K fd ps ds)(hd:aW dvs ds)
  (hx:me CX X E) (I:Inv X J6 σ H s) (r:aW vs us)
  (h:∀x dx,H x=none->H dx=none->dx≠x->sp (.ref x::(vs++dvs)) (upd (upd H dx (.own x)) x (.ins C dx [])) (fun v H2=>v=.non/\Q (.ref x) H2) E) :
  wpAny (model X.prog X.w) X.A (call (.ref C) us) (EP X J6 σ Q) X.xe s:=by
 have hq:=h (s.heap.objs.size+1) s.heap.objs.size (I.hok.fresh (yD _)) (I.hok.fresh (aG _)) (b9 (vA _));have I2:=Inv.made (C:=C) I;have r2:aW (V.ref (s.heap.objs.size+1)::(vs++dvs)) (Value.ref (s.heap.objs.size+1)::(us++ds)):=.cons rfl (r.append hd);have hl:(Value.ref (s.heap.objs.size+1)::us++ds).length=ps.length:=by
  have e:=r2.length;rw[F.len _ _ _ _ hq]at e;exact e.symm
 refine wpAny_call (BE (f:=f) I.kIn M.makes M.init (beq_iff_eq.mp M.fn) (yF (F.run _ X.stack _ _ ⟨Value.ref (s.heap.objs.size+1)::us,[]⟩ (Value.ref (s.heap.objs.size+1)::(us++ds)) _ _ E (hr.make C us [])
  (I2.env0.make C us []) (hb _ (Value.ref (s.heap.objs.size+1)::us) I2.kIn hl) r2 hq) fun r s' hq'=>?_))
 cases r with
 |error e=>exact hx J6 σ _ _ e s' I2 hq'
 |ok fl =>
  cases fl with
  |ret u =>
   obtain⟨v,H',I3,rv,ev,q3⟩:=I2.after hq';subst ev;exact⟨rv,⟨V.ref (s.heap.objs.size+1),H',I3,rfl,q3⟩⟩
  |next=>exact iP hq'
  |brk=>exact iP hq'
  |cont=>exact iP hq'
theorem CV(M:Mk X.K C f)(F:ky X.prog X.w X.K X.mg X.base CX k f fd ps sp)(hr:dX (k+1) X.A)(hg:Gl X x)(hm:X.mg x=some (.ref C))(hb:Binds X.K fd ps ds)(hd:aW dvs ds)(hx:me CX X E)
  (ha:PA X (e::es) t) (hdb:(x==("__debug__":Str))=false:=by decide) (he:ay (e::es) X.env=(false,eval e X.env)::ay es X.env:=by rfl) (hpl:(backTo pos (ay es X.env)).any (·.1)=false:=by rfl) :
  PE X (.Call (.Name x p) (e::es) [] pos) (yU C sp dvs E t):=by
 intro J6 s σ H Q I h;refine yE (uV I hg hm ?_ hdb);refine PySem.W.callWith_K (h₀:=X.base) I.ok.mod.kin M.kp (cp (ha pos J6 s σ H _ I h) fun us s1 ⟨vs,H1,I1,r,q⟩=>⟨I1.kIn,?_⟩) he hpl;exact Bc M F hr hb hd hx I1 r q
end
structure jF(N P:Zb)(sc:Scope):Prop where
 kind:sc.kind=.function
 co:sc.isCoroutine=false
 gen:sc.isGenerator=false
 nd:N.Nodup
 pre:N.take P.length=P
 par:∀x∈P,sc.names.lookup x=some .local∨sc.names.lookup x=some .cell
 nofree:∀y∈sc.names,y.2≠.free
theorem tO{kindOf:Str->Option iM}{x:Str}:∀{binds:List (Str×Value)}{m:Str->Option Value},(∀v,(x,v)∉binds)->bindL kindOf binds m x=m x
 |[],_,_=>rfl
 | (n,v)::r,m,h=>by
  unfold bindL;rw[tO fun w hw=>h w (ff _ hw)];split
  ·have:x≠n:=by rintro rfl;exact h v fg
   simp[this]
  ·rfl
theorem tQ{kindOf:Str->Option iM}{x:Str}:∀{binds:List (Str×Value)}{m:Str->Option Value},(∀v,(x,v)∉binds)->bindC kindOf binds m x=m x
 |[],_,_=>rfl
 | (n,v)::r,m,h=>by
  unfold bindC;rw[tQ fun w hw=>h w (ff _ hw)];split
  ·rfl
  ·have:x≠n:=by rintro rfl;exact h v fg
   simp[this]
theorem tP{kindOf:Str->Option iM}{x:Str}{v:Value}:∀{P:Zb}{vs:Zf}{i:Nat}{m:Str->Option Value},P.Nodup->P[i]?=some x->vs[i]?=some v->kindOf x=some .local ->
  bindL kindOf (P.zip vs) m x=some v
 |[],_,_,_,_,h,_,_=>by simp at h
 |_::_,[],_,_,_,_,h,_=>by simp at h
 |p::P,w::vs,0,m,nd,h1,h2,hk=>by
  simp at h1 h2;subst h1;subst h2;show bindL kindOf ((p,w)::P.zip vs) m p=_;unfold bindL;rw[tO fun v hv=>(gM.mp nd).1 (List.of_mem_zip hv).1,if_pos hk];simp
 |p::P,w::vs,i+1,m,nd,h1,h2,hk=>by
  show bindL kindOf ((p,w)::P.zip vs) m x=_;unfold bindL;exact tP (i:=i) (gM.mp nd).2 (by simpa using h1) (by simpa using h2) hk
theorem tR{kindOf:Str->Option iM}{x:Str}{v:Value}:∀{P:Zb}{vs:Zf}{i:Nat}{m:Str->Option Value},P.Nodup->P[i]?=some x->vs[i]?=some v->kindOf x≠some .local ->
  bindC kindOf (P.zip vs) m x=some v
 |[],_,_,_,_,h,_,_=>by simp at h
 |_::_,[],_,_,_,_,h,_=>by simp at h
 |p::P,w::vs,0,m,nd,h1,h2,hk=>by
  simp at h1 h2;subst h1;subst h2;show bindC kindOf ((p,w)::P.zip vs) m p=_;unfold bindC;rw[tQ fun v hv=>(gM.mp nd).1 (List.of_mem_zip hv).1,if_neg hk];simp
 |p::P,w::vs,i+1,m,nd,h1,h2,hk=>by
  show bindC kindOf ((p,w)::P.zip vs) m x=_;unfold bindC;exact tR (i:=i) (gM.mp nd).2 (by simpa using h1) (by simpa using h2) hk
def start(N:Zb)(vs:List V):St:=vs.map some++List.replicate (N.length-vs.length) none
def ya(CX:A0)(P:bx)(w:World)(K:Za)(mg:Str->Option Value)(base:Heap)(N:Zb)(qual:Str)(scope:Scope)(f:Addr)(cd:Value)(A:Around)(outer:List Env)(s:Shared)(H:Hp)(E:XK):Cx where
 prog:=P
 w:=w
 K:=K
 mg:=mg
 base:=base
 A:=A.deeper (envOfC qual scope s.heap.objs.size f cd)
 N:=N
 s₀:=s
 H₀:=H
 env:=envOfC qual scope s.heap.objs.size f cd
 outer:=outer
 stack:=envOfC qual scope s.heap.objs.size f cd::outer
 ex:=[]
 calm:=true
 fn:=fun _=>true
 pn:=[]
 xe:=fun e s'=>wpAny (model P w) (A.deeper (envOfC qual scope s.heap.objs.size f cd)) (leaving (envOfC qual scope s.heap.objs.size f cd) e) (fun _ s''=>CX outer H s E e s'') (fun e' s''=>CX outer H s E e' s'') s'
theorem wE{sc:Scope}{n:Nat}{x:Str}(h:sc.names.lookup x=some .cell):∃c,(cellsFrom n sc.names []).lookup x=some c:=by
 have q:=PySem.W.cellsFrom_some sc.names n [] (.inl h);exact um.mp q
theorem AA{CX:A0}{P:bx}{w:World}{K:Za}{mg:Str->Option Value}{base:Heap}{N ps:Zb}{qual:Str}{scope:Scope}{f:Addr}{cd:Value}{A:Around}{outer:List Env}{s s1:Shared}{H:Hp}{E:XK}{us:Zf}{vs:List V}
  (S:jF N ps scope) (hd:A.handled=none) (e0:yB P w K mg base A outer s H) (hl:vs.length=ps.length) (r:aW vs us)
  (x:InCallC s s.heap.objs.size (bindL (envOfC qual scope s.heap.objs.size f cd).kindOf (ps.zip us) fun _=>none) (cellsFrom (s.heap.objs.size+1) scope.names []) (bindC (envOfC qual scope s.heap.objs.size f cd).kindOf (ps.zip us) fun _=>none) s1) :
  Inv (ya CX P w K mg base N qual scope f cd A outer s H E) [] (start N vs) H s1:=by
 have hpl:ps.length<=N.length:=by have:=congrArg List.length S.pre;rw[aI]at this;omega
 obtain⟨h1,tk,rfl,hk⟩:=x.done;have noA:∀b:Addr,b∉(ya CX P w K mg base N qual scope f cd A outer s H E).ex:=fun b z=>absurd (show b∈([]:Ze)from z) (by simp);refine⟨⟨e0.mod,S.kind,rfl,rfl,aG _,fun y z c h1 h2=>?_,fun y hy=>?_,fun y c _ h=>?_,fun _=>hd,Around.frames_deeper e0.frames,.inr ⟨rfl,rfl⟩,fun b z=>absurd z (noA b),e0.bs,e0.bsz,fun b _ _=>noA b,fun b z=>absurd z (noA b),e0.funs,e0.frf⟩,
  rfl,e0.bare,Un.kept hk,⟨_,x.toInCall.ns,fun i y v h1 h2 h3=>?_⟩,fun y c h=>⟨_,x.cell y c h⟩,e0.hok.fresh (aG _),fun y c h=>?_,fun p hp=>absurd (show p∈([]:Zd)from hp) (by simp),e0.hok.kept hk,?_⟩
 ·exact name_of_addr x.apart (qN h1) (qN h2)
 ·have hy:scope.names.lookup y=some .cell∨scope.names.lookup y=some .free:=hy;rcases hy with hy|hy
  ·exact wE hy
  ·exact absurd rfl (S.nofree _ (qN hy))
 ·exact dH (x.above y c (qN h))
 ·have hi:i<vs.length:=by
   unfold start at h2;by_cases hi:i<vs.length
   ·exact hi
   ·rw[iB (by simpa using hi)]at h2;rw[List.getElem?_replicate]at h2;split at h2<;>cases h2
  have ha:vs[i]?=some v:=by
   unfold start at h2;rw[gX (by simpa using hi),bv]at h2;cases e:vs[i]? with
   |none=>rw[e]at h2;cases h2
   |some a=>rw[e]at h2;cases h2;rfl
  obtain⟨u,hu,rv⟩:=r.get ha;have hp:ps[i]?=some y:=by
   rw[<-S.pre,qM (by omega)];exact h1
  have ndP:ps.Nodup:=by rw[<-S.pre];exact S.nd.sublist (List.take_sublist _ _)
  refine⟨u,rv,?_⟩;rcases S.par y (a_ hp)with k|k
  ·exact .inl ⟨k,tP ndP hp hu k⟩
  ·obtain⟨c,e⟩:=wE (n:=s.heap.objs.size+1) k;refine .inr ⟨.inl k,c,e,?_⟩;have q:=x.cell y c e;rw[tR ndP hp hu (by show scope.names.lookup y≠_;rw[k];decide)]at q;exact q
 ·exact e0.hok.fresh (dH (x.above y c (qN h)))
 ·unfold start;show _=N.length;rw[aE,ak,List.length_replicate];omega
theorem Fb{CX:A0}{P:bx}{w:World}{K:Za}{mg:Str->Option Value}{base:Heap}{k:Nat}{f:Addr}{name qual:Str}{params:Arguments}{body:List Stmt}{scope:Scope}{dV kV doc pm cdv ct oc:Value}{an od:Option Addr}
  {osl:Array (Option Value)}{N ps:Zb}{sp:Sp}(lk:K.lookup f=some ⟨oc,od,.func (gW name qual params body scope dV kV doc pm an cdv ct),osl⟩) (hcd:lH K cdv qual=true) (S:jF N ps scope)
  (len:∀vs H Q E,sp vs H Q E->vs.length=ps.length)
  (hbody:∀(A:Around) (outer:List Env) (s:Shared) (H:Hp) (vs:List V) (Q:VK) (E:XK),dX k (A.deeper (envOfC qual scope s.heap.objs.size f cdv))->sp vs H Q E ->
   ∃t,wR (ya CX P w K mg base N qual scope f cdv A outer s H E) body t/\t (bN Q) (start N vs) H) :
  ky P w K mg base CX (k+1) f (gW name qual params body scope dV kV doc pm an cdv ct) ps sp:=by
 refine⟨len,fun A outer s H args us vs Q E hr e0 hb r hsp=>?_⟩;have hl:=len _ _ _ _ hsp;have KX:K.In s.heap:=e0.mod.kin.keeps fun b o e=>(e0.bs b o e).1;have lim:s.heap.NoLimit:=e0.mod.nolimit.keeps fun b o e=>(e0.bs b o e).1;have hkind:∀y∈ps.zip us,scope.names.lookup y.1=some .local∨(scope.names.lookup y.1=some .cell/\((cellsFrom (s.heap.objs.size+1) scope.names []).lookup y.1).isSome=true):=fun⟨n,v⟩ hy=>by
  rcases S.par n (List.of_mem_zip hy).1 with q|q
  ·exact .inl q
  ·exact .inr ⟨q,PySem.W.cellsFrom_some _ _ _ (.inl q)⟩
 refine codeAny_call_function hr.depth (KX _ _ lk) rfl S.co S.gen rfl (PySem.W.codeRec_of KX hcd) (hb _ _ _ _ ?_);refine wpAny_newFunctionEnv_cells S.kind hkind fun env he s1 x=>?_;subst he;refine⟨lim.keeps x.toInCall.keep,codeAny_func ?_⟩;obtain⟨t,ht,hq⟩:=hbody A outer s H vs Q E (hr.deeper _) hsp;have I:Inv (ya CX P w K mg base N qual scope f cdv A outer s H E) [] (start N vs) H s1:=AA S hr.hd e0 hl r x;refine mG (ht [] s1 (start N vs) H _ I hq) (fun fl s' hs=>?_) fun e s' hs=>hs;have fin:∀{σ':St}{H':Hp}{v:V}{u:Value},Inv (ya CX P w K mg base N qual scope f cdv A outer s H E) [] σ' H' s'->RelV v u->Q v H'->CE outer P w K H s Q u s' :=
  fun{σ' H' v u} J rv q=>⟨v,H',J.os,J.bare,J.base,J.hok,rv,q⟩
 cases fl with
 |ret u =>
  obtain⟨v,σ',H',J,rv,q⟩:=hs;exact fin J rv q
 |next =>
  obtain⟨σ',H',J,q⟩:=hs;exact fin (v:=V.non) (u:=Value.none) J rfl q
 |brk =>
  obtain⟨_,_,_,q⟩:=hs;exact iP q
 |cont =>
  obtain⟨_,_,_,q⟩:=hs;exact iP q
end L2
namespace L2
open PySem PySem.Spec PyProof.Rows
section
variable{X:Cx}{x:Str}{p pos:Pos}{e:Expr}{es:List Expr}{t:TA}{id T:String}{r:List V->Hp->VK->Prop}
def cK(r:List V->Hp->VK->Prop)(t:TA):TE:=fun σ H Q=>t σ H fun vs H1=>r vs H1 Q
theorem wa(hc:fU X (.builtin id) r)(hg:Gl X x)(hm:X.mg x=none)(hv:ic x=some (.builtin id))(ha:PA X (e::es) t)(hn:x≠"__name__":=by decide)(hdb:(x==("__debug__":Str))=false:=by decide)
  (he:ay (e::es) X.env=(false,eval e X.env)::ay es X.env:=by rfl) (hpl:(backTo pos (ay es X.env)).any (·.1)=false:=by rfl):PE X (.Call (.Name x p) (e::es) [] pos) (cK r t):=by
 intro J6 s σ H Q I h;refine yE (jA I hg hm hv ?_ hn hdb);exact PyProof.Rows.callWith_builtin1 (cp (ha pos J6 s σ H _ I h) fun us s1 ⟨vs,H1,I1,r1,q1⟩=>hc J6 s1 σ H1 vs us Q I1 r1 q1) he hpl
theorem gE(hc:fU X (.type T) r)(hg:Gl X x)(hm:X.mg x=none)(hv:ic x=some (.type T))(ha:PA X (e::es) t)(hn:x≠"__name__":=by decide)(hdb:(x==("__debug__":Str))=false:=by decide)
  (he:ay (e::es) X.env=(false,eval e X.env)::ay es X.env:=by rfl) (hpl:(backTo pos (ay es X.env)).any (·.1)=false:=by rfl):PE X (.Call (.Name x p) (e::es) [] pos) (cK r t):=by
 intro J6 s σ H Q I h;refine yE (jA I hg hm hv ?_ hn hdb);exact qg (cp (ha pos J6 s σ H _ I h) fun us s1 ⟨vs,H1,I1,r1,q1⟩=>hc J6 s1 σ H1 vs us Q I1 r1 q1) he hpl
end
end L2
namespace HT
open PySem PyProof.Rows
def lexLt:List Int->List Int->Bool
 |[],[]=>false
 |[],_::_=>true
 |_::_,[]=>false
 |x::xs,y::ys=>if x=y then lexLt xs ys else decide (x<y)
theorem lexLt_cons(x y:Int)(xs ys:List Int):lexLt (x::xs) (y::ys)=if x=y then lexLt xs ys else decide (x<y):=rfl
theorem eqAt_int(A:Around)(s:Shared)(a:Int)(t:Tok)(c:Int)(u:Tok):∃e,aQ A s (.int a t) (.int c u) e/\(e=true↔a=c) :=
 ⟨(a==c),aQ.int_int a t c u,by simp⟩
theorem rcLt_int(A:Around)(s:Shared)(a:Int)(t:Tok)(c:Int)(u:Tok)(prog:bx)(w:World)(E:Zc)(Q:Zc)(h:Q (.bool (decide (a<c))) s):
  wpAny (model prog w) A (richCompare .Lt (.int a t) (.int c u)) Q E s :=
 (PyProof.Rows.lt_int h:wpAny (model prog w) A (cJ .Lt (.int a t) (.int c u)) Q E s)
section
variable{prog:bx}{w:World}{A:Around}{E:Zc}{s:Shared}
def sIx(n d:Nat):Option Int->Nat
 |none=>d
 |some v=>if v<0 then(v+(n:Int)).toNat else min v.toNat n
theorem sIx_none(n d:Nat):sIx n d none=d:=rfl
theorem sIx_nat(n d k:Nat):sIx n d (some (k:Int))=min k n:=by
 show(if(k:Int)<0 then((k:Int)+(n:Int)).toNat else min (k:Int).toNat n)=min k n
 rw[if_neg (by omega),jh]
theorem sIx_le(n d:Nat)(hd:d<=n)(o:Option Int):sIx n d o<=n:=by
 cases o with
 |none=>exact hd
 |some v =>
  show(if v<0 then(v+(n:Int)).toNat else min v.toNat n)<=n
  by_cases hv:v<0
  ·rw[if_pos hv];omega
  ·rw[if_neg hv];exact Nat.min_le_right _ _
theorem clip_eq(v:Int)(n d:Nat):(if v<0 then max (v+(n:Int)) 0 else min v (n:Int))=((sIx n d (some v):Nat):Int):=by
 show(if v<0 then max (v+(n:Int)) 0 else min v (n:Int))=(((if v<0 then(v+(n:Int)).toNat else min v.toNat n):Nat):Int)
 by_cases hv:v<0
 ·simp only[if_pos hv];omega
 ·simp only[if_neg hv];omega
end
end HT
namespace L2
open PySem PySem.Spec PyProof.Rows
abbrev TO:=St->Hp->(Option Int->Hp->Prop)->Prop
def PO(X:Cx)(e:Option Expr)(t:TO):Prop :=
 ∀(J6:Zd) (s:Shared) (σ:St) (H:Hp) (Q:Option Int->Hp->Prop),Inv X J6 σ H s->t σ H Q ->
  wpAny (model X.prog X.w) X.A (evalPart e X.env) (fun u s'=>∃o H',Inv X J6 σ H' s'/\IsPart u o/\Q o H') X.xe s
def dR:TO:=fun _ H Q=>Q none H
def fN(t:TE):TO:=fun σ H Q=>t σ H fun x H1=>∃i,x=.int i/\Q (some i) H1
theorem intsAre_of{ns:List Int}:∀{us:Zf},aW (ns.map V.int) us->cT us ns:=by
 induction ns with
 |nil=>intro us r;rw[ul]at r;cases r;exact .nil
 |cons n ns ih =>
  intro us r;rw[bh]at r;cases r with
  |cons r1 r2 =>
   obtain⟨t,e⟩:=r1;subst e;exact .cons n t (ih r2)
section
variable{X:Cx}{e:Expr}{te:TE}{lo hi:Option Expr}{tl th:TO}{pos p2:Pos}
theorem eR:PO X none dR:=by
 intro J6 s σ H Q I h;rw[evalPart_none];exact aA ⟨none,H,I,.none,h⟩
theorem dg(h:PE X e te):PO X (some e) (fN te):=by
 intro J6 s σ H Q I hw;rw[evalPart_some];refine cp (h J6 s σ H _ I hw) fun u s1 zq0=>?_;obtain⟨x,H1,I1,r1,q1⟩:=zq0;obtain⟨i,rfl,q⟩:=q1;obtain⟨t,rfl⟩:=r1;exact⟨some i,H1,I1,.int i t,q⟩
def SlR(X:Cx)(r:V->Option Int->Option Int->Hp->VK->Prop):Prop :=
 ∀(J6:Zd) (s:Shared) (σ:St) (H:Hp) (x:V) (v vl vu:Value) (lo hi:Option Int) (sl:Addr) (Q:VK),Inv X J6 σ H s->RelV x v->s.heap.IsSliceOf sl vl vu .none->IsPart vl lo->IsPart vu hi->r x lo hi H Q ->
  ∃T id,qK (.type T) "__getitem__"=pure (some (.builtin id))/\s.TypeIs v T/\wpAny (model X.prog X.w) X.A (lG v (.ref sl)) (EP X J6 σ Q) X.xe s
def xb(r:V->Option Int->Option Int->Hp->VK->Prop)(te:TE)(tl th:TO):TE:=fun σ H Q=>te σ H fun x H1=>tl σ H1 fun l H2=>th σ H2 fun u H3=>r x l u H3 Q
theorem cV{r:V->Option Int->Option Int->Hp->VK->Prop}(hr:SlR X r)(he:PE X e te)(hl:PO X lo tl)(hu:PO X hi th):PE X (.Subscript e (.Slice lo hi none p2) pos) (xb r te tl th):=by
 intro J6 s σ H Q I h;refine Subscript_ (cp (he J6 s σ H _ I h) fun v s1 zq0=>?_);obtain⟨x,H1,I1,r1,q1⟩:=zq0;refine wpAny_Slice (cp (hl J6 s1 σ H1 _ I1 q1) fun vl s2 ⟨l,H2,I2,pl,q2⟩=>cp (hu J6 s2 σ H2 _ I2 q2) fun vu s3 zq0=>?_);obtain⟨u,H3,I3,pu,q3⟩:=zq0;rw[evalPart_none];refine aA ?_;have I4:Inv X J6 σ H3 { s3 with heap:=s3.heap.push { cls:=.type "slice",data:=.fields #[vl,vu,.none] } }:=I3.kept (t':=s3.toks) fun b ob q=>aS _ q;obtain⟨T,id,hT,ht,hg⟩:=hr J6 { s3 with heap:=s3.heap.push { cls:=.type "slice",data:=.fields #[vl,vu,.none] } } σ H3 x v vl vu l u s3.heap.objs.size Q I4 r1 (Heap.IsSliceOf.new ..) pl pu q3;show wpAny (model X.prog X.w) X.A (subscriptTail e (.Slice lo hi none p2) v (.ref s3.heap.objs.size)) (EP X J6 σ Q) X.xe { s3 with heap:=s3.heap.push { cls:=.type "slice",data:=.fields #[vl,vu,.none] } };exact tail_any (ops:=[.ref s3.heap.objs.size,v]) ht hT hg (by with_unfolding_all rfl)
def fe(xs:List V)(lo hi:Option Int):List V:=(xs.drop (HT.sIx xs.length 0 lo)).take (HT.sIx xs.length xs.length hi-HT.sIx xs.length 0 lo)
theorem wA(xs:List V)(lo hi:Option Int):(fe xs lo hi).length<=xs.length:=by
 unfold fe;rw[aI,gV];omega
end
end L2
namespace L2
open PySem PySem.Spec PyProof.Rows
def Cn(n:Nat)(i:Int):Option Nat:=if 0<=i then(if i<n then some i.toNat else none)else if -(n:Int)<=i then some (i+n).toNat else none
def sK{α:Type}(xs:List α)(i:Int):Option α:=(Cn xs.length i).bind fun j=>xs[j]?
theorem zo{n:Nat}{i:Int}{j:Nat}(h:Cn n i=some j):seqIndex? i n=some j/\j<n/\-(n:Int)<=i/\i<n:=by
 unfold Cn at h;by_cases h0:0<=i
 ·rw[if_pos h0]at h;by_cases h1:i<n
  ·rw[if_pos h1]at h;have e:i.toNat=j:=dI h;exact⟨by rw[seqIndex_of h0 h1,e],by omega,by omega,h1⟩
  ·rw[if_neg h1]at h;cases h
 ·rw[if_neg h0]at h;by_cases h1:-(n:Int)<=i
  ·rw[if_pos h1]at h;have e:(i+n).toNat=j:=dI h;exact⟨by rw[seqIndex_neg (by omega) h1,e],by omega,h1,by omega⟩
  ·rw[if_neg h1]at h;cases h
theorem vf{α:Type}{xs:List α}{i:Int}{v:α}(h:sK xs i=some v):∃j,seqIndex? i xs.length=some j/\xs[j]?=some v/\j<xs.length/\-(xs.length:Int)<=i/\i<xs.length:=by
 unfold sK at h;cases e:Cn xs.length i with
 |none=>rw[e]at h;cases h
 |some j =>
  rw[e]at h;obtain⟨h1,h2,h3,h4⟩:=zo e;exact⟨j,h1,h,h2,h3,h4⟩
theorem bQ{α:Type}{xs:List α}{j:Nat}{v:α}(h:xs[j]?=some v):sK xs (j:Int)=some v:=by
 have hj:j<xs.length:=(bJ.mp h).1;have e:Cn xs.length (j:Int)=some j:=by
  unfold Cn;rw[if_pos (by omega),if_pos (by omega)];simp
 unfold sK;rw[e];exact h
theorem Ca{α:Type}(xs:List α)(v:α):sK (xs++[v]) (-1)=some v:=by
 have hl:(xs++[v]).length=xs.length+1:=by simp
 have e:Cn (xs++[v]).length (-1)=some xs.length:=by
  unfold Cn;rw[hl,if_neg (by decide),if_pos (by omega)];congr 1;omega
 unfold sK;rw[e];show(xs++[v])[xs.length]?=some v;simp
def Dj(b:Expr):Prop:=∀o i,uk b false o i=operate [o,i] (lG o i)
def Dm(X:Cx)(r:R2):Prop :=
 ∀(value slice:Expr) (J6:Zd) (s:Shared) (σ:St) (H:Hp) (x y:V) (v u:Value) (Q:VK),Inv X J6 σ H s->RelV x v->RelV y u->r x y H Q ->
  uk slice false v u=operate [v,u] (lG v u)->wpAny (model X.prog X.w) X.A (subscriptTail value slice v u) (EP X J6 σ Q) X.xe s
def MtR(X:Cx)(id:String)(r:V->List V->Hp->VK->Prop):Prop :=
 ∀(J6:Zd) (s:Shared) (σ:St) (H:Hp) (x:V) (xs:List V) (v:Value) (us:Zf) (Q:VK),Inv X J6 σ H s->RelV x v->aW xs us->r x xs H Q ->
  wpAny (model X.prog X.w) X.A (call (.builtin id) (v::us)) (EP X J6 σ Q) X.xe s
section
variable{X:Cx}{a b:Expr}{ta tb:TE}{pos:Pos}
theorem Dm.or{r r':R2}(h:Dm X r)(h':Dm X r'):Dm X (fun x y H Q=>r x y H Q∨r' x y H Q):=by
 intro value slice J6 s σ H x y v u Q I rx ry q hs;rcases q with q|q
 ·exact h value slice J6 s σ H x y v u Q I rx ry q hs
 ·exact h' value slice J6 s σ H x y v u Q I rx ry q hs
theorem y9{r:R2}(hr:Dm X r)(ha:PE X a ta)(hb:PE X b tb)(hs:Dj b):PE X (.Subscript a b pos) (aJ r ta tb):=by
 intro J6 s σ H Q I h;exact Subscript_ (Et ha hb I h fun v u s2 x y H2 I2 rx ry q=>hr a b J6 s2 σ H2 x y v u Q I2 rx ry q (hs _ _))
def df(K:Za):R2:=fun x y H Q=>∃p xs i v,x=.ref p/\y=.int i/\aw K H p xs/\sK xs i=some v/\Q v H
def sE(K:Za):R2:=fun x y H Q=>∃p xs i v,x=.ref p/\y=.int i/\be K H p xs/\sK xs i=some v/\Q v H
def Bm:R2:=fun x y H Q=>∃z i c,x=.str z/\y=.int i/\z.length<=aj/\sK z.cps.toList i=some c/\Q (.str ⟨#[c]⟩) H
theorem zn:Dm X (df X.K):=by
 intro value slice J6 s σ H x y v u Q I rx ry h hs;obtain⟨p,xs,i,z,rfl,rfl,hq,he,q⟩:=h;cases rx;obtain⟨t,rfl⟩:=ry;obtain⟨its,r,pl,hz⟩:=I.list hq;obtain⟨j,h1,h2,h3,h4,h5⟩:=vf he;obtain⟨w,ew,rw'⟩:=r.get h2;have hl:=r.length;have hn:=oF;have fin:EP X J6 σ Q w s:=⟨z,H,I,rw',q⟩;by_cases h0:0<=i
 ·have hj:i.toNat=j:=by
   rw[seqIndex_of h0 h5]at h1;exact dI h1
  exact item_listR pl.isList h0 (by omega) (by rw[hj];simpa using ew) fin hs
 ·have hj:(i+(its.toArray.size:Int)).toNat=j:=by
   rw[seqIndex_neg (by omega) h4]at h1;rw[bu,<-hl];exact dI h1
  exact subscriptTail_builtinR (x:=w) pl.isList.typeIs slot_list_getitem.lookup
   (wpAny_getItem_list_neg (Q:=fun r s'=>r=w/\EP X J6 σ Q r s') pl.isList (by omega) (by rw[bu]<;>omega) (by omega) (by rw[hj];simpa using ew) ⟨rfl,fin⟩) hs
theorem BL:Dm X (sE X.K):=by
 intro value slice J6 s σ H x y v u Q I rx ry h hs;obtain⟨p,xs,i,z,rfl,rfl,hq,he,q⟩:=h;cases rx;obtain⟨t,rfl⟩:=ry;obtain⟨its,r,pl,hz⟩:=I.tuple hq;obtain⟨j,h1,h2,h3,h4,h5⟩:=vf he;obtain⟨w,ew,rw'⟩:=r.get h2;have hl:=r.length;have hn:=oF;have fin:EP X J6 σ Q w s:=⟨z,H,I,rw',q⟩;exact subscriptTail_builtinR (x:=w) pl.typeIs slot_tuple_getitem.lookup
  (getItem_tuple (j:=j) (Q:=fun r s'=>r=w/\EP X J6 σ Q r s') pl (by omega) (by omega) (by rw[bu,<-hl];exact h1) (by simpa using ew) ⟨rfl,fin⟩) hs
theorem BM:Dm X Bm:=by
 intro value slice J6 s σ H x y v u Q I rx ry h hs;obtain⟨z,i,c,rfl,rfl,hz,he,q⟩:=h;obtain⟨t,rfl⟩:=rx;obtain⟨t',rfl⟩:=ry;obtain⟨j,h1,h2,h3,h4,h5⟩:=vf he;have hl:z.cps.toList.length=z.length:=by simp[Str.length]
 rw[hl]at h1 h4 h5;have hn:=oF;exact tail_any (typeIs_str s z t) slot_str_getitem.lookup (getItem_str (c:=c) (by
  have e1:decide (i < -(2 ^ 63:Int))=false:=zzr0 (by omega);have e2:decide (i ≥ 2 ^ 63)=false:=zzr0 (by omega);rw[e1,e2,Bool.or_false]) (by rw[h1];simpa using h2) ⟨.str ⟨#[c]⟩,H,I.tok _,⟨_,rfl⟩,q⟩) hs
def o8(K:Za):R2:=fun x y H Q=>df K x y H Q∨sE K x y H Q∨Bm x y H Q
theorem Em:Dm X (o8 X.K):=zn.or (BL.or BM)
theorem xP(its:Zf)(n j:Nat)(u:Value):eN (·.setIfInBounds j u) { cls:=.type "list",data:=.seq its.toArray n }={ cls:=.type "list",data:=.seq (its.set j u).toArray n }:=by
 simp[eN]
theorem Inv.lst{J6:Zd}{σ:St}{H:Hp}{s:Shared}{p:Addr}{xs:List V}(I:Inv X J6 σ H s)(h:H p=some (.lst xs)):
  ∃(its:Zf) (n:Nat),aW xs its/\s.heap.get? p=some { cls:=.type "list",data:=.seq its.toArray n }/\xs.length<=aj:=by
 obtain⟨z,its,n,r,e⟩:=I.hok p _ h;exact⟨its,n,r,e,z⟩
theorem Inv.lstUpd{J6:Zd}{σ:St}{H:Hp}{s:Shared}{p:Addr}{xs ys:List V}{its its':Zf}{n n':Nat}{f:Obj->Obj}(I:Inv X J6 σ H s)(h:H p=some (.lst xs))
  (ho:s.heap.get? p=some { cls:=.type "list",data:=.seq its.toArray n }) (hf:f { cls:=.type "list",data:=.seq its.toArray n }={ cls:=.type "list",data:=.seq its'.toArray n' }) (r:aW ys its') (hz:ys.length<=aj) (t:Nat) :
  Inv X J6 σ (upd H p (.lst ys)) { s with heap:=s.heap.update p f,toks:=t }:=by
 have e:(s.heap.update p f).get? p=some { cls:=.type "list",data:=.seq its'.toArray n' }:=by
  rw[j6 f ho (by rw[hf]<;>rfl),hf]
 refine I.write (x:=p) (e:=p) (by rw[h];trivial) (.inl rfl) (fun b u hb q=>(lF _ _ (cA hb)).trans q) ⟨_,e⟩ ?_;exact⟨hz,its',n',r,e⟩
def rh:V->V->V->Hp->(Hp->Prop)->Prop:=fun o i v H Q=>∃p xs k j,o=.ref p/\i=.int k/\H p=some (.lst xs)/\Cn xs.length k=some j/\Q (upd H p (.lst (xs.set j v)))
theorem j9:Ff X rh:=by
 intro J6 s σ H o i v ov iv u Q I ro ri rv h;obtain⟨p,xs,k,j,rfl,rfl,hp,hj,q⟩:=h;cases ro;obtain⟨t,rfl⟩:=ri;obtain⟨its,n,r,ho,hz⟩:=I.lst hp;obtain⟨h1,h2,h3,h4⟩:=zo hj;have hl:=r.length;have hn:=oF;have I':Inv X J6 σ (upd H p (.lst (xs.set j v))) { s with heap:=s.heap.update p (eN (·.setIfInBounds j u)) } :=
  I.lstUpd hp ho (xP its n j u) (r.set rv j) (by rw[List.length_set];exact hz) s.toks
 by_cases h0:0<=k
 ·have hk:k.toNat=j:=by
   rw[seqIndex_of h0 h4]at h1;exact dI h1
  exact PySem.W.ki_setAt ho h0 (by omega) (by rw[bu,<-hl];exact h4) (by rw[hk];exact⟨_,I',q⟩)
 ·have hk:(k+(its.toArray.size:Int)).toNat=j:=by
   rw[seqIndex_neg (by omega) h3]at h1;rw[bu,<-hl];exact dI h1
  exact PySem.W.ki_setBack ho (by omega) (by rw[bu,<-hl];exact h3) (by omega) (by rw[hk];exact⟨_,I',q⟩)
theorem uJ(lo hi:Option Int)(n:Nat):(lE lo hi none n).1=((HT.sIx n 0 lo:Nat):Int)/\(lE lo hi none n).2.1=((HT.sIx n n hi:Nat):Int)/\(lE lo hi none n).2.2=1:=by
 refine⟨?_,?_,rfl⟩
 ·cases lo with
  |none=>simp[lE,HT.sIx]
  |some i =>
   simp only[lE,HT.sIx,Option.getD_none,show(1:Int) > 0 by decide,if_true];by_cases h:i<0
   ·simp only[h,if_true]<;>omega
   ·simp only[h,if_false]<;>omega
 ·cases hi with
  |none=>simp[lE,HT.sIx]
  |some i =>
   simp only[lE,HT.sIx,Option.getD_none,show(1:Int) > 0 by decide,if_true];by_cases h:i<0
   ·simp only[h,if_true]<;>omega
   ·simp only[h,if_false]<;>omega
theorem sw(its:Zf)(lo hi:Option Int):slicePick its.toArray lo hi none=((its.drop (HT.sIx its.length 0 lo)).take (HT.sIx its.length its.length hi-HT.sIx its.length 0 lo)).toArray:=by
 obtain⟨h1,h2,h3⟩:=uJ lo hi its.toArray.size;unfold slicePick;rw[h1,h2,h3];simp only[sliceRange_one,pick_run,bu]<;>rfl
def pH(K:Za):V->Option Int->Option Int->Hp->VK->Prop:=fun x lo hi H Q=>∃a xs,x=.ref a/\aw K H a xs/\∀p,H p=none->Q (.ref p) (upd H p (.lst (fe xs lo hi)))
theorem fJ:SlR X (pH X.K):=by
 intro J6 s σ H x v vl vu lo hi sl Q I rx hs pl pu h;obtain⟨a,xs,rfl,hx,q⟩:=h;cases rx;obtain⟨its,r,ht,hz⟩:=I.list hx;have hlen:=r.length;refine⟨"list",_,slot_list_getitem.lookup,ht.isList.typeIs,?_⟩;refine wpAny_getItem_list_slice ht.isList hs pl pu .none (by simp) ?_ (by rw[bu]<;>omega);rw[sw,<-hlen];refine⟨.ref s.heap.objs.size,_,I.laid (t':=s.toks) (o:=.lst (fe xs lo hi)) (fun b ob q=>aS _ q) (aG _) ?_,rfl,q _ (I.hok.fresh (aG _))⟩;exact⟨bq (wA xs lo hi) hz,_,0,(r.drop (HT.sIx xs.length 0 lo)).take (HT.sIx xs.length xs.length hi-HT.sIx xs.length 0 lo),cz _ rfl⟩
theorem vd:fU X (.builtin "len") (fun xs H Q=>∃p ys,xs=[.ref p]/\(aw X.K H p ys∨be X.K H p ys)/\Q (.int ys.length) H):=by
 intro J6 s σ H xs us Q I r h;obtain⟨p,ys,rfl,hq,q⟩:=h;obtain⟨u,rfl,rx⟩:=vals1 r;cases rx;have hn:=oF;rcases hq with hq|hq
 ·obtain⟨its,r',pl,hz⟩:=I.list hq;have hlen:=r'.length;exact Calls.call_len_list pl.isList (by simp only[bu]<;>omega) ⟨.int ys.length,H,I.tok _,⟨s.toks+1,by rw[bu,hlen]⟩,q⟩
 ·obtain⟨its,r',pl,hz⟩:=I.tuple hq;have hlen:=r'.length;exact len_tuple pl (by simp only[bu]<;>omega) ⟨.int ys.length,H,I.tok _,⟨s.toks+1,by rw[bu,hlen]⟩,q⟩
theorem vc:fU X (.builtin "len") (fun xs H Q=>∃z,xs=[.str z]/\z.length<=aj/\Q (.int z.length) H):=by
 intro J6 s σ H xs us Q I r h;obtain⟨z,rfl,hz,q⟩:=h;obtain⟨u,rfl,t,rfl⟩:=vals1 r;have hn:=oF;exact len_str (by omega) ⟨.int z.length,H,I.tok _,⟨_,rfl⟩,q⟩
theorem fU.or{f:Value}{r r':List V->Hp->VK->Prop}(h:fU X f r)(h':fU X f r'):fU X f (fun xs H Q=>r xs H Q∨r' xs H Q):=by
 intro J6 s σ H xs us Q I rs q;rcases q with q|q
 ·exact h J6 s σ H xs us Q I rs q
 ·exact h' J6 s σ H xs us Q I rs q
theorem vb:fU X (.type "list") (fun xs H Q=>∃p ys,xs=[.ref p]/\(aw X.K H p ys∨be X.K H p ys)/\∀l,H l=none->Q (.ref l) (upd H l (.lst ys))):=by
 intro J6 s σ H xs us Q I r h;obtain⟨p,ys,rfl,hq,q⟩:=h;obtain⟨u,rfl,rx⟩:=vals1 r;cases rx;have fin:∀(its:Zf),aW ys its->ys.length<=aj->∀(h':Heap) (c':Nat),(∀b o',s.heap.get? b=some o'->h'.get? b=some o') ->
   h'.get? s.heap.objs.size=some { cls:=.type "list",dict:=none,data:=.seq its.toArray c',slots:=#[] }->EP X J6 σ Q (.ref s.heap.objs.size) { s with heap:=h' }:=fun its r' hz h' c' kp e =>
  ⟨.ref s.heap.objs.size,_,I.laid (t':=s.toks) kp (aG _) (show bP X.prog X.w X.K _ h' _ (.lst ys)from⟨hz,its,c',r',e⟩),rfl,q _ (I.hok.fresh (aG _))⟩
 rcases hq with hq|hq
 ·obtain⟨its,r',pl,hz⟩:=I.list hq;have hlen:=r'.length;obtain⟨o,ho,hc,n,hd⟩:=pl.isList;exact call_list_seq p (.inl rfl) ho hc hd (fun h' c' kp e=>fin its r' hz h' c' kp e) (by simp only[bu]<;>omega)
 ·obtain⟨its,r',pl,hz⟩:=I.tuple hq;have hlen:=r'.length;obtain⟨o,ho,hc,n,hd⟩:=pl;exact call_list_seq p (.inr rfl) ho hc hd (fun h' c' kp e=>fin its r' hz h' c' kp e) (by simp only[bu]<;>omega)
theorem fL:fU X (.type "tuple") (fun xs H Q=>∃p ys,xs=[.ref p]/\((aw X.K H p ys/\∀l,H l=none->Q (.ref l) (upd H l (.tup ys)))∨(be X.K H p ys/\Q (.ref p) H))):=by
 intro J6 s σ H xs us Q I r h;obtain⟨p,ys,rfl,h⟩:=h;obtain⟨u,rfl,rx⟩:=vals1 r;cases rx;rcases h with⟨hq,q⟩|⟨hq,q⟩
 ·obtain⟨its,r',pl,hz⟩:=I.list hq;have hlen:=r'.length;refine call_tuple_list pl.isList (fun h' kp=>?_) (by simp only[bu]<;>omega);have I1:Inv X J6 σ H { s with heap:=h' }:=I.kept (t':=s.toks) kp;have I2:Inv X J6 σ (upd H h'.objs.size (.tup ys)) { s with heap:=h'.push { cls:=.type "tuple",data:=.seq its.toArray } } :=
   I1.laid (t':=s.toks) (fun b o e=>aS _ e) (aG _) (show bP X.prog X.w X.K _ _ _ (.tup ys)from⟨hz,its,r',IsTup.new _ _⟩)
  exact⟨.ref h'.objs.size,_,I2,rfl,q _ (I1.hok.fresh (aG _))⟩
 ·obtain⟨its,r',pl,hz⟩:=I.tuple hq;exact call_tuple_same pl ⟨.ref p,H,I,rfl,q⟩
def tyV(K:Za)(T:String)(x:V)(H:Hp):Prop:=match x with
 |.str _=>T="str"
 |.int _=>T="int"
 |.ref p=>(T="list"/\∃xs,aw K H p xs)∨(T="tuple"/\∃o,K.lookup p=some o/\o.cls=.type "tuple"/\o.dict=none) ∨
   (T="dict"/\((∃kvs,H p=some (.dK kvs))∨∃kvs,H p=some (.dT kvs)))∨(T="set"/\∃S n,H p=some (.set S n))
 |_=>False
theorem A7{J6:Zd}{σ:St}{H:Hp}{s:Shared}{T:String}{x:V}{v:Value}(I:Inv X J6 σ H s)(r:RelV x v)(ty:tyV X.K T x H):
  s.TypeIs v T/\∀a,v=.ref a->∃ob,s.heap.get? a=some ob/\ob.dict=none:=by
 cases x with
 |str z =>
  obtain⟨t,rfl⟩:=r;cases(show T="str" from ty);exact⟨typeIs_str s z t,fun _ e=>nomatch e⟩
 |int i =>
  obtain⟨t,rfl⟩:=r;cases(show T="int" from ty);exact⟨typeIs_int s i t,fun _ e=>nomatch e⟩
 |ref p =>
  cases r;rcases ty with⟨rfl,xs,hq⟩|⟨rfl,o,hk,hc,hd⟩|⟨rfl,hk⟩|⟨rfl,S,n,hk⟩
  ·obtain⟨its,_,pl,_⟩:=I.list hq;refine⟨pl.isList.typeIs,fun a e=>?_⟩;cases e;obtain⟨o,n,e,c,hd,_⟩:=pl;exact⟨o,e,hd⟩
  ·refine⟨⟨o,I.kIn p o hk,hc⟩,fun a e=>?_⟩;cases e;exact⟨o,I.kIn _ o hk,hd⟩
  ·have z:∃o,s.heap.get? p=some o/\o.ExactDict:=by
    rcases hk with⟨kvs,hk⟩|⟨kvs,hk⟩
    ·obtain⟨_,_,_,_,o,_,_,e,ex,_⟩:=I.hok p _ hk;exact⟨o,e,ex⟩
    ·obtain⟨_,_,_,_,o,_,_,e,ex,_⟩:=I.hok p _ hk;exact⟨o,e,ex⟩
   obtain⟨o,e,ex⟩:=z;refine⟨⟨o,e,ex.1⟩,fun a e2=>?_⟩;cases e2;exact⟨o,e,ex.2.1⟩
  ·obtain⟨o,_,_,_,e,ex,_⟩:=I.hok p _ hk;refine⟨⟨o,e,ex.1⟩,fun a e2=>?_⟩;cases e2;exact⟨o,e,ex.2.1⟩
 |_=>exact iP ty
def EI(K:Za)(T:String)(r:V->List V->Hp->VK->Prop)(to:TE):TE:=fun σ H Q=>to σ H fun x H1=>tyV K T x H1/\r x [] H1 Q
def wP(K:Za)(T:String)(r:V->List V->Hp->VK->Prop)(to:TE)(t:TA):TE:=fun σ H Q=>to σ H fun x H1=>tyV K T x H1/\t σ H1 fun xs H2=>r x xs H2 Q
variable{o e:Expr}{es:List Expr}{to:TE}{t:TA}{name:Str}{J8 J7:Pos}{T id:String}{r:V->List V->Hp->VK->Prop}
theorem Ef(pa:PlainAttrs T)(slot:Slot T name id)(hty:typeOf (.builtin id)=pure (.type "method_descriptor"))(hm:MtR X id r)(ho:PE X o to)
  (hbase:qa o name X.env (eval o X.env)=eval o X.env:=by rfl) (hline:(J8.endLine==J7.line)=true:=by rfl):PE X (.Call (.Attribute o name J8) [] [] J7) (EI X.K T r to):=by
 intro J6 s σ H Q I h;refine wpAny_Call_method0_late hbase hline (cp (ho J6 s σ H _ I h) fun v s1 zq0=>?_);obtain⟨x,H1,I1,r1,ty,q1⟩:=zq0;obtain⟨h1,h2⟩:=A7 I1 r1 ty;exact⟨T,id,pa,slot,hty,h1,h2,uj rfl (PySem.evalArgs_none (hm J6 s1 σ H1 x [] v [] Q I1 r1 .nil q1))⟩
theorem g7(pa:PlainAttrs T)(slot:Slot T name id)(hty:typeOf (.builtin id)=pure (.type "method_descriptor"))(hm:MtR X id r)(ho:PE X o to)(ha:PA X (e::es) t)
  (hbase:qa o name X.env (eval o X.env)=eval o X.env:=by rfl)
  (hfew:((backTo J7 (ay (e::es) X.env)).all (fun x=>!x.1) && (mz J7 (my [] X.env)).all (fun x=>x.1.isSome)
   && decide ((e::es).length+([]:List og).length+(if([]:List og).isEmpty then 0 else 1)<30))=true:=by rfl)
  (hline:(J8.endLine==J7.line)=true:=by rfl) (hs:ay (e::es) X.env=(false,eval e X.env)::ay es X.env:=by rfl) (hplain:(backTo J7 (ay es X.env)).any (·.1)=false:=by rfl) :
  PE X (.Call (.Attribute o name J8) (e::es) [] J7) (wP X.K T r to t):=by
 intro J6 s σ H Q I h;refine wpAny_Call_method_late hbase hfew hline rfl (cp (ho J6 s σ H _ I h) fun v s1 zq0=>?_);obtain⟨x,H1,I1,r1,ty,q1⟩:=zq0;obtain⟨h1,h2⟩:=A7 I1 r1 ty;refine⟨T,id,pa,slot,hty,h1,h2,?_⟩;have hA:=ha J7 J6 s1 σ H1 _ I1 q1;rw[hs]at hA ⊢;refine uj (by show(false || (backTo J7 (ay es X.env)).any (·.1))=false;rw[hplain]<;>rfl) (Calls.evalArgs_plain ?_);exact cp hA fun us s2 ⟨vs,H2,I2,r2,q2⟩=>hm J6 s2 σ H2 x vs v us Q I2 r1 r2 q2
end
end L2
namespace L2
open PySem PySem.Spec PyProof.Rows
def EE(X:Cx)(id:String)(r:V->List V->Hp->VK->Prop):Prop :=
 ∀(J6:Zd) (s:Shared) (σ:St) (H:Hp) (x:V) (xs:List V) (v:Value) (us:Zf) (Q:VK),Inv X J6 σ H s->RelV x v->aW xs us->r x xs H Q ->
  wpAny (model X.prog X.w) X.A (call (.builtin id) (v::us)) (EP X J6 σ Q) X.xe s
theorem aW.one{x:V}{us:Zf}(h:aW [x] us):∃u,us=[u]/\RelV x u:=by
 cases h with
 |cons r t=>cases t;exact⟨_,rfl,r⟩
theorem aW.two{x y:V}{us:Zf}(h:aW [x,y] us):∃u v,us=[u,v]/\RelV x u/\RelV y v:=by
 cases h with
 |cons r t =>
  obtain⟨v,e,q⟩:=aW.one t;exact⟨_,v,by rw[e],r,q⟩
theorem aW.zero:∀{us:Zf},aW [] us->us=[]
 |_,.nil=>rfl
theorem aW.dropLast{xs:List V}{us:Zf}(h:aW xs us):aW xs.dropLast us.dropLast:=by
 induction h with
 |nil=>exact .nil
 |cons r t ih =>
  cases t with
  |nil=>exact .nil
  |cons q t'=>exact .cons r ih
theorem xZ{α:Type}(l:List α):l.eraseIdx (l.length-1)=l.dropLast:=by
 induction l with
 |nil=>rfl
 |cons a r ih =>
  cases r with
  |nil=>rfl
  |cons b r =>
   have e:(a::b::r).length-1=((b::r).length-1)+1:=by
    have h1:(a::b::r).length=r.length+2:=rfl;have h2:(b::r).length=r.length+1:=rfl;omega
   rw[e,List.eraseIdx_cons_succ,ih]
   all_goals rfl
section
variable{X:Cx}{J6:Zd}{σ:St}{H:Hp}{s:Shared}{l b:Addr}{xs ys zs:List V}
theorem Inv.lset{its its':Zf}{n:Nat}{f:Array Value->Array Value}{t':Nat}(I:Inv X J6 σ H s)(hH:H l=some (.lst xs))
  (e:s.heap.get? l=some { cls:=.type "list",data:=.seq its.toArray n }) (hf:f its.toArray=its'.toArray) (hv:aW ys its') (hz:ys.length<=aj) :
  Inv X J6 σ (upd H l (.lst ys)) { s with heap:=s.heap.update l (eN f),toks:=t' }:=by
 have q:=PySem.IsL.update e f;rw[hf]at q;refine I.write (x:=l) (e:=l) (by rw[hH];exact trivial) (.inl rfl) (fun b' u hb hu=>(lF s.heap (eN f) (cA hb)).trans hu) ⟨_,q⟩ ?_;exact⟨hz,its',_,hv,q⟩
theorem Inv.lnew{its:Zf}{t':Nat}(I:Inv X J6 σ H s)(hv:aW ys its)(hz:ys.length<=aj):
  Inv X J6 σ (upd H s.heap.objs.size (.lst ys)) { s with heap:=s.heap.push { cls:=.type "list",data:=.seq its.toArray },toks:=t' } :=
 I.laid (fun _ _ q=>aS _ q) (aG _) ⟨hz,its,0,hv,cz _ rfl⟩
theorem Inv.fresh(I:Inv X J6 σ H s):H s.heap.objs.size=none:=I.hok.fresh (aG _)
theorem Inv.lstM(I:Inv X J6 σ H s)(hH:H l=some (.lst xs)):xs.length<=aj/\∃(its:Zf) (n:Nat),aW xs its/\xs.length=its.length/\s.heap.get? l=some { cls:=.type "list",data:=.seq its.toArray n }:=by
 obtain⟨z,its,n,r,e⟩:=I.hok l _ hH;exact⟨z,its,n,r,r.length,e⟩
theorem Bz{n:Nat}(h:n<=aj):aY.List.listTooLong n=false:=by
 unfold aY.List.listTooLong;exact zzr0 (by omega)
end
section
variable{X:Cx}
def eo:V->List V->Hp->VK->Prop:=fun x vs H Q=>∃l xs y,x=.ref l/\vs=[y]/\H l=some (.lst xs)/\xs.length<aj/\Q .non (upd H l (.lst (xs++[y])))
theorem cE:EE X "list.append" eo:=by
 intro J6 s σ H x vs v us Q I rx rv h;obtain⟨l,xs,y,rfl,rfl,hH,hz,q⟩:=h;cases rx;obtain⟨u,rfl,ru⟩:=rv.one;obtain⟨z,its,n,r,hl,e⟩:=I.lstM hH;refine qJ F.slot_list_append ⟨_,e,rfl⟩ F.entry_list_append (F.args_list_append_2 _ _) (PySem.list_append l its.toArray n u (by rw[bu];omega)) ⟨e,?_⟩;refine⟨.non,_,I.lset (its':=its++[u]) hH e (by simp) (r.append (.cons ru .nil)) ?_,rfl,q⟩;rw[aE,qI];omega
def y0:V->List V->Hp->VK->Prop:=fun x vs H Q=>∃l b xs zs,x=.ref l/\vs=[.ref b]/\H l=some (.lst xs)/\H b=some (.lst zs)/\xs.length+zs.length<=aj/\Q .non (upd H l (.lst (xs++zs)))
theorem Ap:EE X "list.extend" y0:=by
 intro J6 s σ H x vs v us Q I rx rv h;obtain⟨l,b,xs,zs,rfl,rfl,hH,hB,hz,q⟩:=h;cases rx;obtain⟨u,rfl,ru⟩:=rv.one;cases ru;obtain⟨z,its,n,r,hl,e⟩:=I.lstM hH;obtain⟨z2,its2,n2,r2,hl2,e2⟩:=I.lstM hB;have hsz:its.toArray.size+its2.toArray.size<=aj:=by rw[bu,bu];omega
 have hlong:¬(!its.toArray.isEmpty && aY.List.listTooLong (its.toArray.size+its2.toArray.size))=true:=by
  rw[Bz hsz,Bool.and_false];exact fj
 refine qJ F.slot_list_extend ⟨_,e,rfl⟩ F.entry_list_extend (F.args_list_extend_2 _ _)
  (AutoSeq1.list_extend_list_list_0 l its.toArray n b its2.toArray n2 hlong (by rw[bu];omega) (by omega)) ⟨e,e2,?_⟩
 refine⟨.non,_,I.lset (its':=its++its2) hH e (by simp) (r.append r2) ?_,rfl,q⟩;rw[aE];omega
def EN:V->List V->Hp->VK->Prop:=fun x vs H Q=>∃l xs y,x=.ref l/\vs=[]/\H l=some (.lst xs)/\xs[xs.length-1]?=some y/\Q y (upd H l (.lst xs.dropLast))
theorem Ek:EE X "list.pop" EN:=by
 intro J6 s σ H x vs v us Q I rx rv h;obtain⟨l,xs,y,rfl,rfl,hH,hy,q⟩:=h;cases rx;have hus:=rv.zero;subst hus;obtain⟨z,its,n,r,hl,e⟩:=I.lstM hH;obtain⟨u,hu,ru⟩:=r.get hy;have hy':its.toArray[its.toArray.size-1]?=some u:=by
  show its.toArray[its.length-1]?=some u;rw[<-Array.getElem?_toList,<-hl];exact hu
 refine qJ F.slot_list_pop ⟨_,e,rfl⟩ F.entry_list_pop (F.args_list_pop_1 _) (MeetsSeq.list_pop_last l its.toArray n u hy' (by rw[bu];omega)) ⟨e,?_⟩;refine⟨y,_,I.lset (its':=its.dropLast) hH e ?_ r.dropLast ?_,ru,q⟩
 ·show its.toArray.eraseIdxIfInBounds (its.toArray.size-1)=its.dropLast.toArray;rw[bu,List.eraseIdxIfInBounds_toArray,xZ]
 ·rw[List.length_dropLast];omega
def oA:R2:=fun x y H Q=>∃l b xs zs,x=.ref l/\y=.ref b/\H l=some (.lst xs)/\H b=some (.lst zs)/\xs.length+zs.length<=aj/\∀p,H p=none->Q (.ref p) (upd H p (.lst (xs++zs)))
theorem iF:kn X (mD .Add) oA:=by
 intro J6 s σ H x y v u Q I rx ry h;obtain⟨l,b,xs,zs,rfl,rfl,hH,hB,hz,q⟩:=h;cases rx;cases ry;obtain⟨z,its,n,r,hl,e⟩:=I.lstM hH;obtain⟨z2,its2,n2,r2,hl2,e2⟩:=I.lstM hB;refine PySem.P.add_list e e2 ?_ (by rw[bu,bu];omega);have ea:its.toArray++its2.toArray=(its++its2).toArray:=by simp
 rw[ea];exact⟨.ref _,_,I.lnew (t':=s.toks) (r.append r2) (by rw[aE];omega),rfl,q _ I.fresh⟩
end
end L2
namespace L2
open PySem PySem.Spec PyProof.Rows
section
variable{κ:Type}[DecidableEq κ]
def bU(kvs:List (κ×V))(k:κ):Option V:=(kvs.find? fun kv=>decide (kv.1=k)).map (·.2)
def eh(kvs:List (κ×V))(k:κ)(v:V):List (κ×V) :=
 if(kvs.any fun kv=>decide (kv.1=k))=true then kvs.map (fun kv=>if kv.1=k then(kv.1,v)else kv)else kvs++[(k,v)]
theorem cF{p:κ×V}{r:List (κ×V)}{k:κ}(e:p.1=k):bU (p::r) k=some p.2:=by simp[bU,n_,e]
theorem cv{p:κ×V}{r:List (κ×V)}{k:κ}(e:¬p.1=k):bU (p::r) k=bU r k:=by simp[bU,n_,e]
theorem iT(k:κ):∀kvs:List (κ×V),(kvs.any fun kv=>decide (kv.1=k))=(bU kvs k).isSome
 |[]=>rfl
 |p::r=>by
  rw[ui];by_cases e:p.1=k
  ·simp only[cF e,zzr1 e,Bool.true_or,Option.isSome_some]
  ·rw[cv e,zzr0 e,Bool.false_or];exact iT k r
theorem vL(k j:κ)(y:V):∀kvs:List (κ×V),bU (kvs.map fun kv=>if kv.1=k then(kv.1,y)else kv) j=(bU kvs j).map fun x=>if j=k then y else x
 |[]=>rfl
 |p::r=>by
  have ih:=vL k j y r;rw[bh];by_cases h:p.1=k
  ·rw[if_pos h];by_cases e:p.1=j
   ·rw[cF (p:=(p.1,y)) e,cF e,qH,if_pos (e.symm.trans h)]
   ·rw[cv (p:=(p.1,y)) e,cv e,ih]
  ·rw[if_neg h];by_cases e:p.1=j
   ·rw[cF (p:=p) e,cF e,qH,if_neg (fun z=>h (e.trans z))]
   ·rw[cv (p:=p) e,cv e,ih]
theorem sS(k j:κ)(y:V):∀kvs:List (κ×V),bU kvs k=none->bU (kvs++[(k,y)]) j=if j=k then some y else bU kvs j
 |[],_=>by
  by_cases e:k=j
  ·rw[if_pos e.symm];exact cF (p:=(k,y)) e
  ·rw[if_neg (fun z=>e z.symm)];exact cv (p:=(k,y)) e
 |p::r,hn=>by
  rw[qG];have hk:¬p.1=k:=fun z=>by rw[cF z]at hn;cases hn
  rw[cv hk]at hn;have ih:=sS k j y r hn;by_cases e:p.1=j
  ·rw[cF e,cF e,if_neg (fun z=>hk (e.trans z))]
  ·rw[cv e,cv e,ih]
theorem vK(kvs:List (κ×V))(k j:κ)(y:V):bU (eh kvs k y) j=if j=k then some y else bU kvs j:=by
 unfold eh;by_cases a:(kvs.any fun kv=>decide (kv.1=k))=true
 ·rw[if_pos a,vL];rw[iT]at a;by_cases e:j=k
  ·obtain⟨x,hx⟩:=um.mp a;rw[if_pos e,e,hx,qH,if_pos rfl]
  ·rw[if_neg e];cases bU kvs j with
   |none=>rfl
   |some x=>rw[qH,if_neg e]
 ·rw[if_neg a];refine sS k j y kvs ?_;rw[iT]at a;cases q:bU kvs k with
  |none=>rfl
  |some x=>rw[q]at a;exact(a rfl).elim
theorem iq(kvs:List (κ×V))(k:κ)(v:V):(eh kvs k v).length<=kvs.length+1:=by
 unfold eh;split
 ·rw[ak];omega
 ·rw[aE,eG,uh];omega
theorem g6{kvs:List (κ×V)}{k:κ}(v:V)(h:bU kvs k=none):eh kvs k v=kvs++[(k,v)]:=by
 unfold eh;rw[iT,h];exact if_neg (by decide)
theorem jT.isSome_eq{o:Option V}{u:Option Value}(r:jT o u):o.isSome=u.isSome:=by
 cases o with
 |none=>cases u with
  |none=>rfl
  |some _=>exact(show False from r).elim
 |some _=>cases u with
  |none=>exact(show False from r).elim
  |some _=>rfl
theorem jT.getD{o:Option V}{u:Option Value}{d:V}{d':Value}(r:jT o u)(rd:RelV d d'):RelV (o.getD d) (u.getD d'):=by
 cases o with
 |none=>cases u with
  |none=>exact rd
  |some _=>exact(show False from r).elim
 |some _=>cases u with
  |none=>exact(show False from r).elim
  |some _=>exact r
theorem KV.val{kvs:List (κ×V)}{vs:List (κ×Value)}(r:KV kvs vs)(k:κ):jT (bU kvs k) (lD vs k):=by
 unfold KV at r
 induction r with
 |nil=>exact iO
 |@cons p q ps qs h t ih =>
  obtain⟨h1,h2⟩:=h;by_cases e:p.1=k
  ·have e':q.1=k:=h1.symm.trans e;have b:lD (q::qs) k=some q.2:=by simp[lD,n_,e']
   rw[cF e,b];exact h2
  ·have e':¬q.1=k:=fun z=>e (h1.trans z);have b:lD (q::qs) k=lD qs k:=by simp[lD,n_,e']
   rw[cv e,b];exact ih
theorem KV.any{kvs:List (κ×V)}{vs:List (κ×Value)}(r:KV kvs vs)(k:κ):(kvs.any fun kv=>decide (kv.1=k))=vs.any fun kv=>decide (kv.1=k):=by
 unfold KV at r
 induction r with
 |nil=>rfl
 |cons h t ih=>rw[ui,ui,ih,h.1]
theorem KV.repl{kvs:List (κ×V)}{vs:List (κ×Value)}(r:KV kvs vs)(k:κ){y:V}{u:Value}(ry:RelV y u):
  KV (kvs.map fun kv=>if kv.1=k then(kv.1,y)else kv) (vs.map fun kv=>if kv.1=k then(kv.1,u)else kv):=by
 unfold KV at r ⊢
 induction r with
 |nil=>exact .nil
 |@cons p q ps qs h t ih =>
  rw[bh,bh];refine .cons ?_ ih;obtain⟨h1,h2⟩:=h;by_cases e:p.1=k
  ·rw[if_pos e,if_pos (h1.symm.trans e)];exact⟨h1,ry⟩
  ·rw[if_neg e,if_neg (fun z=>e (h1.trans z))];exact⟨h1,h2⟩
theorem KV.put{kvs:List (κ×V)}{vs:List (κ×Value)}(r:KV kvs vs)(k:κ){y:V}{u:Value}(ry:RelV y u):KV (eh kvs k y) (stored vs k u):=by
 unfold eh stored;rw[r.any k];by_cases e:(vs.any fun kv=>decide (kv.1=k))=true
 ·rw[if_pos e,if_pos e];exact r.repl k ry
 ·rw[if_neg e,if_neg e];exact dC r ⟨rfl,ry⟩
theorem KV.length{kvs:List (κ×V)}{vs:List (κ×Value)}(r:KV kvs vs):kvs.length=vs.length:=Paired.length r
end
theorem pd{P:bx}{w:World}{k:ei}{u:Value}(r:RelV (kV k) u):(bV P w).is k u=true:=by
 cases k with
 |inl i=>obtain⟨t,e⟩:=(show ∃t,u=Value.int i t from r);subst e;exact wg P w i t
 |inr x=>obtain⟨t,e⟩:=(show ∃t,u=Value.str x t from r);subst e;exact wf P w x t
theorem u5:∀{k:mn}{u:Value},RelV (DD k) u->g_ k u=true
 |none,u,r=>by cases(show u=Value.none from r);rfl
 |some (.inl i),u,r=>by obtain⟨t,rfl⟩:=r;exact kJ i t
 |some (.inr x),u,r=>by obtain⟨t,rfl⟩:=r;exact kI x t
abbrev KT(K:Za)(H:Hp):List (TK×V)->List (TK×Addr×Value)->Prop:=Paired fun p q=>p.1=q.1/\pi K H p.1 (.ref q.2.1)/\p.1.depth<=8/\RelV p.2 q.2.2
theorem KT.val{K:Za}{H:Hp}{kvs:List (TK×V)}{xs:List (TK×Addr×Value)}(r:KT K H kvs xs)(k:TK):jT (bU kvs k) ((atKey xs k).map (·.2)):=by
 induction r with
 |nil=>exact iO
 |@cons p q ps qs h t ih =>
  obtain⟨h1,_,_,h2⟩:=h;by_cases e:p.1=k
  ·have e':q.1=k:=h1.symm.trans e;have b:atKey (q::qs) k=some q.2:=by simp[atKey,n_,e']
   rw[cF e,b];exact h2
  ·have e':¬q.1=k:=fun z=>e (h1.trans z);have b:atKey (q::qs) k=atKey qs k:=by simp[atKey,n_,e']
   rw[cv e,b];exact ih
theorem KT.repl{K:Za}{H:Hp}{kvs:List (TK×V)}{xs:List (TK×Addr×Value)}(r:KT K H kvs xs)(k:TK){y:V}{u:Value}(ry:RelV y u):
  KT K H (kvs.map fun kv=>if kv.1=k then(kv.1,y)else kv) (xs.map (putAt k u)):=by
 induction r with
 |nil=>exact .nil
 |@cons p q ps qs h t ih =>
  rw[bh,bh];refine .cons ?_ ih;obtain⟨h1,h2,h3⟩:=h;unfold putAt;by_cases e:p.1=k
  ·rw[if_pos e,if_pos (h1.symm.trans e)];exact⟨h1,h2,h3.1,ry⟩
  ·rw[if_neg e,if_neg (fun z=>e (h1.trans z))];exact⟨h1,h2,h3⟩
theorem KT.put{K:Za}{H:Hp}{kvs:List (TK×V)}{xs:List (TK×Addr×Value)}(r:KT K H kvs xs)(k:TK){b:Addr}{y:V}{u:Value}(hb:pi K H k (.ref b))(h8:k.depth<=8)(ry:RelV y u):
  KT K H (eh kvs k y) (storedH xs k b u):=by
 have e:(kvs.any fun kv=>decide (kv.1=k))=(atKey xs k).isSome:=by
  rw[iT,(r.val k).isSome_eq,Option.isSome_map]
 unfold eh storedH;rw[e];by_cases q:(atKey xs k).isSome=true
 ·rw[if_pos q,if_pos q];exact r.repl k ry
 ·rw[if_neg q,if_neg q];exact dC r ⟨rfl,hb,h8,ry⟩
theorem KT.keeps{K:Za}{H H':Hp}{kvs:List (TK×V)}{xs:List (TK×Addr×Value)}(r:KT K H kvs xs)(ht:∀b ys,H b=some (.tup ys)->H' b=some (.tup ys)):KT K H' kvs xs :=
 Paired.mapP r fun _ _ z=>⟨z.1,pi.keeps ht 8 z.2.2.1 z.2.1,z.2.2⟩
section
variable{P:bx}{w:World}{K:Za}{H:Hp}{h:Heap}{a:Addr}
theorem Dt{u:HO}(ok:kN P w K H h)(e:Rd H a u):bP P w K H h a u:=e.ok ok
theorem pf{kvs:List (ei×V)}(ok:kN P w K H h)(e:Rd H a (.dK kvs)):kvs.length<=aj/\(a==gk)=false/\∃vs,KV kvs vs/\h.DictOf (bV P w) a vs :=
 show bP P w K H h a (.dK kvs)from Dt ok e
theorem Fc{kvs:List (ei×V)}(ok:kN P w K H h)(e:H a=some (.dK kvs)):kvs.length<=aj/\(a==gk)=false/\∃vs,KV kvs vs/\h.DictOf (bV P w) a vs:=pf ok (.inl e)
theorem DS(ok:kN P w K H h)(kin:K.In h):∀(d:Nat) {k:TK}{v:V}{u:Value},k.depth<=d->pi K H k v->RelV v u->k4 h k u:=by
 have key:∀(d:Nat) (ih:∀{k:TK}{v:V}{u:Value},k.depth<=d->pi K H k v->RelV v u->k4 h k u) (ks:List TK) (vs:List V) (us:Zf),TK.depths ks<=d->TKCs K H ks vs->aW vs us->TAts h ks us:=by
  intro d ih ks
  induction ks with
  |nil =>
   intro vs us _ hx r;have e:vs=[]:=hx;subst e;cases r
   rfl
  |cons k ks ihl =>
   intro vs us hd hx r;obtain⟨v,vs',rfl,h1,h2⟩:=hx;cases r with
   |@cons _ u _ us' r1 r2 =>
    have hd':max k.depth (TK.depths ks)<=d:=hd;exact⟨u,us',rfl,ih (by omega) h1 r1,ihl vs' us' (by omega) h2 r2⟩
 intro d
 induction d with
 |zero =>
  intro k v u hd hx r;cases k with
  |t l=>exact absurd hd (by show ¬(TK.depths l+1<=0);omega)
  |k b =>
   have e:v=DD b:=hx;subst e;exact u5 r
 |succ d ih =>
  intro k v u hd hx r;cases k with
  |k b =>
   have e:v=DD b:=hx;subst e;exact u5 r
  |t l =>
   obtain⟨b,xs,rfl,hb,hi⟩:=hx;cases(show u=Value.ref b from r);obtain⟨its,rv,ob,h1,h2,n,h3⟩:∃its:List Value,aW xs its/\IsTup h b its.toArray:=by
    rcases hb with hb|⟨o,its,n,hk,hc,hs,hz,r⟩
    ·obtain⟨_,its,rv,p⟩:=(show bP P w K H h b (.tup xs)from ok b _ hb);exact⟨its,rv,p⟩
    ·exact⟨its.toList,r,o,kin b o hk,hc,n,by simpa using hs⟩
   exact⟨b,ob,its.toArray,n,rfl,h1,h2,h3,by simpa using key d (fun h1=>ih h1) l xs its (by have:TK.depths l+1<=d+1:=hd;omega) hi rv⟩
theorem uZ{k:TK}(ok:kN P w K H h)(kin:K.In h)(e:pi K H k (.ref a))(h8:k.depth<=8):(ee P w).is h k a:=⟨DS ok kin 8 h8 e rfl,h8⟩
theorem rK{kvs:List (TK×V)}(ok:kN P w K H h)(kin:K.In h)(e:Rd H a (.dT kvs)):kvs.length<=aj/\(a==gk)=false /\
  ∃xs,KT K H kvs xs/\h.DictOfH (ee P w) a xs:=by
 obtain⟨z,y,xs,r,o,es,ep,h1,h2,h3,h4,h5⟩:=(show bP P w K H h a (.dT kvs)from Dt ok e);refine⟨z,y,xs,r,o,es,ep,h1,h2,h3,h4,fun x hx=>?_,h5⟩;have all:∀{l:List (TK×V)}{m:List (TK×Addr×Value)},KT K H l m->∀x∈m,(ee P w).is h x.1 x.2.1:=by
  intro l m q
  induction q with
  |nil=>intro x hx;exact nomatch hx
  |@cons p q ps qs hq t ih =>
   intro x hx;rcases cR.mp hx with e|hx
   ·subst e;exact uZ ok kin (by rw[<-hq.1];exact hq.2.1) (by rw[<-hq.1];exact hq.2.2.1)
   ·exact ih x hx
 exact all r x hx
theorem BV{kvs:List (TK×V)}(ok:kN P w K H h)(kin:K.In h)(e:H a=some (.dT kvs)):kvs.length<=aj/\(a==gk)=false /\
  ∃xs,KT K H kvs xs/\h.DictOfH (ee P w) a xs:=rK ok kin (.inl e)
end
mutual
def nL(K:Za)(H:Hp):TK->V->Prop
 |.k a,v=>v=DD a
 |.t l,v=>∃b xs,v=.ref b/\be K H b xs/\TKIns K H l xs
def TKIns(K:Za)(H:Hp):List TK->List V->Prop
 |[],vs=>vs=[]
 |k::r,vs=>∃v us,vs=v::us/\nL K H k v/\TKIns K H r us
end
theorem eJ.isIn{K:Za}{H:Hp}:∀(d:Nat) {k:TK}{v:V},k.depth<=d->eJ H k v->nL K H k v:=by
 have key:∀(d:Nat) (ih:∀{k:TK}{v:V},k.depth<=d->eJ H k v->nL K H k v) (xs:List TK) (vs:List V),TK.depths xs<=d->TKAts H xs vs->TKIns K H xs vs:=by
  intro d ih xs
  induction xs with
  |nil=>intro vs _ hx;exact hx
  |cons x xs ihl =>
   intro vs hd hx;obtain⟨v,us,rfl,hx1,hx2⟩:=hx;have hd':max x.depth (TK.depths xs)<=d:=hd;exact⟨v,us,rfl,ih (by omega) hx1,ihl us (by omega) hx2⟩
 intro d
 induction d with
 |zero =>
  intro k v hd hx;cases k with
  |t l=>exact absurd hd (by show ¬(TK.depths l+1<=0);omega)
  |k a=>exact hx
 |succ d ih =>
  intro k v hd hx;cases k with
  |k a=>exact hx
  |t l =>
   obtain⟨b,xs,rfl,hb,hi⟩:=hx;exact⟨b,xs,rfl,be.of hb,key d (fun h1=>ih h1) l xs (by have:TK.depths l+1<=d+1:=hd;omega) hi⟩
theorem Cw{X:Cx}{J6:Zd}{σ:St}{H:Hp}{s:Shared}(I:Inv X J6 σ H s):∀(d:Nat) {k:TK}{v:V}{u:Value},k.depth<=d->nL X.K H k v->RelV v u->k4 s.heap k u:=by
 have key:∀(d:Nat) (ih:∀{k:TK}{v:V}{u:Value},k.depth<=d->nL X.K H k v->RelV v u->k4 s.heap k u) (ks:List TK) (vs:List V) (us:Zf),TK.depths ks<=d->TKIns X.K H ks vs->aW vs us->TAts s.heap ks us:=by
  intro d ih ks
  induction ks with
  |nil =>
   intro vs us _ hx r;have e:vs=[]:=hx;subst e;cases r
   rfl
  |cons k ks ihl =>
   intro vs us hd hx r;obtain⟨v,vs',rfl,h1,h2⟩:=hx;cases r with
   |@cons _ u _ us' r1 r2 =>
    have hd':max k.depth (TK.depths ks)<=d:=hd;exact⟨u,us',rfl,ih (by omega) h1 r1,ihl vs' us' (by omega) h2 r2⟩
 intro d
 induction d with
 |zero =>
  intro k v u hd hx r;cases k with
  |t l=>exact absurd hd (by show ¬(TK.depths l+1<=0);omega)
  |k b =>
   have e:v=DD b:=hx;subst e;exact u5 r
 |succ d ih =>
  intro k v u hd hx r;cases k with
  |k b =>
   have e:v=DD b:=hx;subst e;exact u5 r
  |t l =>
   obtain⟨b,xs,rfl,hb,hi⟩:=hx;cases(show u=Value.ref b from r);obtain⟨its,rv,⟨ob,h1,h2,n,h3⟩,_⟩:=I.tuple hb;exact⟨b,ob,its.toArray,n,rfl,h1,h2,h3,by simpa using key d (fun h1=>ih h1) l xs its (by have:TK.depths l+1<=d+1:=hd;omega) hi rv⟩
theorem u4{X:Cx}{J6:Zd}{σ:St}{H:Hp}{s:Shared}{k:TK}{b:Addr}(I:Inv X J6 σ H s)(e:nL X.K H k (.ref b))(h8:k.depth<=8):(ee X.prog X.w).is s.heap k b:=⟨Cw I 8 h8 e rfl,h8⟩
theorem fq{P:bx}{w:World}{A:Around}(hu:A.units+16<cLine):(ee P w).room A.in1:=by
 show A.units+1+8<cLine;omega
def oS(K:Za)(H:Hp)(a:Addr)(y:V)(r:Option V):Prop :=
 (∃kvs k,Rd H a (.dK kvs)/\y=kV k/\r=bU kvs k)∨∃kvs k b,Rd H a (.dT kvs)/\y=.ref b/\nL K H k (.ref b)/\k.depth<=8/\r=bU kvs k
def Fl(H:Hp)(a:Addr)(y v:V)(H':Hp):Prop :=
 (∃kvs k,H a=some (.dK kvs)/\y=kV k/\kvs.length<aj/\H'=upd H a (.dK (eh kvs k v))) ∨
 ∃kvs k b,H a=some (.dT kvs)/\y=.ref b/\eJ H k (.ref b)/\k.depth<=8/\kvs.length<aj/\H'=upd H a (.dT (eh kvs k v))
section
variable{X:Cx}{J6:Zd}{σ:St}{H:Hp}{s:Shared}{a:Addr}{y v:V}{u r:Value}{o:Option V}{A:Around}{E:Zc}
theorem Inv.big(I:Inv X J6 σ H s):gk<s.heap.objs.size:=by
 have h:bL<s.heap.objs.size:=(I.mod.glob.keeps I.bk).lt;exact Nat.lt_trans (by decide) h
theorem AJ{Q:Zc}(hu:A.units+16<cLine)(I:Inv X J6 σ H s)(g:oS X.K H a y (some v))(ry:RelV y u)(h:∀w' s',Inv X J6 σ H s'->RelV v w'->Q w' s'):
  wpAny (model X.prog X.w) A (lG (.ref a) u) Q E s:=by
 rcases g with⟨kvs,k,e,ey,l⟩|⟨kvs,k,b,e,ey,eb,e8,l⟩
 ·subst ey;obtain⟨z,hd,vs,rel,dd⟩:=pf I.hok e;obtain⟨w',hw,rw'⟩:=jT.some_of (v:=v) (o:=lD vs k) (by rw[l];exact rel.val k);exact wpAny_getItem_of (pd ry) dd.mapOf hw (h w' _ (I.tok _) rw')
 ·subst ey;cases(show u=Value.ref b from ry);obtain⟨z,hd,xs,rel,dd⟩:=rK I.hok I.kIn e;obtain⟨w',hw,rw'⟩:=jT.some_of (v:=v) (o:=(atKey xs k).map (·.2)) (by rw[l];exact rel.val k);obtain⟨p,hp,hp2⟩:=qj.mp hw;refine wpAny_getItem_heap (fq hu) (u4 I eb e8) dd hp ?_;rw[hp2];exact h w' _ (I.tok _) rw'
theorem d_in{Q:Zc}(hu:A.units+16<cLine)(I:Inv X J6 σ H s)(g:oS X.K H a y o)(ry:RelV y u)(h:∀s',Inv X J6 σ H s'->Q (.bool o.isSome) s'):
  wpAny (model X.prog X.w) A (cJ .In u (.ref a)) Q E s:=by
 rcases g with⟨kvs,k,e,ey,l⟩|⟨kvs,k,b,e,ey,eb,e8,l⟩
 ·subst ey;obtain⟨z,hd,vs,rel,dd⟩:=pf I.hok e;refine wpAny_in_of (pd ry) hd dd.mapOf ?_;rw[<-(rel.val k).isSome_eq,<-l];exact h _ (I.tok _)
 ·subst ey;cases(show u=Value.ref b from ry);obtain⟨z,hd,xs,rel,dd⟩:=rK I.hok I.kIn e;refine wpAny_in_heap (fq hu) (u4 I eb e8) hd dd ?_;have q:=(rel.val k).isSome_eq;rw[Option.isSome_map]at q;rw[<-q,<-l];exact h _ (I.tok _)
theorem C_{Q:Zc}(hu:A.units+16<cLine)(I:Inv X J6 σ H s)(g:oS X.K H a y o)(ry:RelV y u)(h:∀s',Inv X J6 σ H s'->Q (.bool (!o.isSome)) s'):
  wpAny (model X.prog X.w) A (cJ .NotIn u (.ref a)) Q E s:=by
 rcases g with⟨kvs,k,e,ey,l⟩|⟨kvs,k,b,e,ey,eb,e8,l⟩
 ·subst ey;obtain⟨z,hd,vs,rel,dd⟩:=pf I.hok e;refine wpAny_notIn_of (pd ry) hd dd.mapOf ?_;rw[<-(rel.val k).isSome_eq,<-l];exact h _ (I.tok _)
 ·subst ey;cases(show u=Value.ref b from ry);obtain⟨z,hd,xs,rel,dd⟩:=rK I.hok I.kIn e;refine wpAny_notIn_heap (fq hu) (u4 I eb e8) hd dd ?_;have q:=(rel.val k).isSome_eq;rw[Option.isSome_map]at q;rw[<-q,<-l];exact h _ (I.tok _)
theorem p7{h':Heap}{t':Nat}{ob:HO}(I:Inv X J6 σ H s)(mu:Fg (H a))(hs:d6 a s.heap h')(he:∃q,h'.get? a=some q)(new:bP X.prog X.w X.K (upd H a ob) h' a ob):
  Inv X J6 σ (upd H a ob) { s with heap:=h',toks:=t' } :=
 I.write (x:=a) (e:=a) mu (.inl rfl) (fun b q hb z=>(hs.2 b hb).trans z) he new
theorem BX{P:bx}{w:World}{K:Za}{H':Hp}{h':Heap}{kvs:List (ei×V)}{vs:List (ei×Value)}(z:kvs.length<=aj)(hd:(a==gk)=false)(rel:KV kvs vs)(dd:h'.DictOf (bV P w) a vs):
  bP P w K H' h' a (.dK kvs):=⟨z,hd,vs,rel,dd⟩
theorem AI{H':Hp}{Q:Unit->Shared->Prop}(hu:A.units+16<cLine)(I:Inv X J6 σ H s)(g:Fl H a y v H')(ry:RelV y u)(rv:RelV v r)(h:∀s',Inv X J6 σ H' s'->Q () s'):
  wpAny (model X.prog X.w) A (setItem (.ref a) u r) Q E s:=by
 rcases g with⟨kvs,k,e,ey,l,eH⟩|⟨kvs,k,b,e,ey,eb,e8,l,eH⟩
 ·subst ey eH;obtain⟨z,hd,vs,rel,dd⟩:=Fc I.hok e;have hz:vs.length<=aj:=by rw[<-rel.length];exact z
  have hl:(eh kvs k v).length<=aj:=by have:=iq kvs k v;omega
  refine wpAny_setItem_pairs (hsz:=hz) (pd ry) dd fun h' dd' hs=>h _ ?_;have he:∃q,h'.get? a=some q:=let⟨q,_,_,hq,_⟩:=dd';⟨q,hq⟩;exact p7 I (by rw[e];exact iO) hs he (BX hl hd (rel.put k rv) dd')
 ·subst ey eH;cases(show u=Value.ref b from ry);obtain⟨z,hd,xs,rel,dd⟩:=BV I.hok I.kIn e;have hz:xs.length<=aj:=by rw[<-Paired.length rel];exact z
  have hl:(eh kvs k v).length<=aj:=by have:=iq kvs k v;omega
  refine wpAny_setItem_heap (hsz:=hz) (fq hu) (uZ I.hok I.kIn (eJ.c 8 e8 eb) e8) dd fun h' dd' hs=>h _ ?_;obtain⟨q,es,ep,hq,h2,h3,h4,_,h5⟩:=dd';refine p7 I (by rw[e];exact iO) hs ⟨q,hq⟩ ⟨hl,hd,_,(rel.put k (eJ.c 8 e8 eb) e8 rv).keeps fun c ys ec=>?_,q,es,ep,hq,h2,h3,h4,h5⟩;rw[ag (BB ec e (fun z=>nomatch z))];exact ec
theorem x_{b:Addr}{kvs:List (TK×V)}{k:TK}{Q:Unit->Shared->Prop}(hu:A.units+16<cLine)(I:Inv X J6 σ H s)(e:H a=some (.dT kvs))(eb:pi X.K H k (.ref b))(e8:k.depth<=8)(l:kvs.length<aj)(ry:RelV (.ref b) u)(rv:RelV v r)(h:∀s',Inv X J6 σ (upd H a (.dT (eh kvs k v))) s'->Q () s'):
  wpAny (model X.prog X.w) A (setItem (.ref a) u r) Q E s:=by
 cases(show u=Value.ref b from ry);obtain⟨z,hd,xs,rel,dd⟩:=BV I.hok I.kIn e;have hz:xs.length<=aj:=by rw[<-Paired.length rel];exact z
 have hl:(eh kvs k v).length<=aj:=by have:=iq kvs k v;omega
 refine wpAny_setItem_heap (hsz:=hz) (fq hu) (uZ I.hok I.kIn (eb) e8) dd fun h' dd' hs=>h _ ?_;obtain⟨q,es,ep,hq,h2,h3,h4,_,h5⟩:=dd';refine p7 I (by rw[e];exact iO) hs ⟨q,hq⟩ ⟨hl,hd,_,(rel.put k (eb) e8 rv).keeps fun c ys ec=>?_,q,es,ep,hq,h2,h3,h4,h5⟩;rw[ag (BB ec e (fun z=>nomatch z))];exact ec
end
def AQ(i:Expr):Prop:=∀ov iv,uk i false ov iv=operate [ov,iv] (lG ov iv)
theorem Cz{prog:bx}{w:World}{A:Around}{E:Zc}{s:Shared}{env:Env}{value slice:Expr}{pos:Pos}{T id:String}{Q:Zc}
  (hl:qK (.type T) "__getitem__"=pure (some (.builtin id))) (hs:AQ slice)
  (h:wpAny (model prog w) A (eval value env) (fun o s₁=>wpAny (model prog w) A (eval slice env) (fun i s₂=>s₂.TypeIs o T/\wpAny (model prog w) A (lG o i) Q E s₂) E s₁) E s) :
  wpAny (model prog w) A (eval (.Subscript value slice pos) env) Q E s:=by
 refine Subscript_ (mG h (fun o s₁ h₁=>mG h₁ (fun i s₂ h₂=>?_) fun _ _ x=>x) fun _ _ x=>x);obtain⟨hT,h₂⟩:=h₂;unfold subscriptTail;refine ai ?_;rw[getitemInPython_of_ne hT.not_modules];refine ai (zV hT hl ?_);have fin:wpAny (model prog w) A (uk slice false o i) (fun r s₃=>wpAny (model prog w) A (letTemporaryGo value o r >>= fun _=>pure r) Q E s₃) E s₂:=by
  rw[hs o i];exact wpAny_operating (mG h₂ (fun r s₃ h₃=>ai (wpAny_letTemporaryGo (aA h₃))) fun _ _ x=>x)
 first
  |exact aA (ai fin)
  |exact ai (aA (ai fin))
  |exact ai fin
theorem wx{X:Cx}{J6:Zd}{σ:St}{H:Hp}{s:Shared}{a:Addr}{y:V}{o:Option V}(I:Inv X J6 σ H s)(g:oS X.K H a y o):s.TypeIs (.ref a) "dict":=by
 rcases g with⟨kvs,k,e,_,_⟩|⟨kvs,k,b,e,_,_,_⟩
 ·obtain⟨_,_,vs,_,dd⟩:=pf I.hok e;exact dd.typeIs
 ·obtain⟨_,_,xs,_,dd⟩:=rK I.hok I.kIn e;exact dd.typeIs
def o6(K:Za)(td ty:TE):TE:=fun σ H Q=>td σ H fun x H1=>ty σ H1 fun y H2=>∃a v,x=.ref a/\oS K H2 a y (some v)/\Q v H2
def xm(K:Za)(ty td:TE):TE:=fun σ H Q=>ty σ H fun y H1=>td σ H1 fun x H2=>∃a o,x=.ref a/\oS K H2 a y o/\Q (.bl o.isSome) H2
def jm(K:Za)(ty td:TE):TE:=fun σ H Q=>ty σ H fun y H1=>td σ H1 fun x H2=>∃a o,x=.ref a/\oS K H2 a y o/\Q (.bl (!o.isSome)) H2
def k_(td ty tv:TE):TS:=fun D σ H=>tv σ H fun v H1=>td σ H1 fun x H2=>ty σ H2 fun y H3=>∃a H4,x=.ref a/\Fl H3 a y v H4/\D.nx σ H4
section
variable{X:Cx}{o i e value:Expr}{pos pos' U0:Pos}{td ty tv:TE}
theorem jv(hu:X.A.units+16<cLine)(ho:PE X o td)(hi:PE X i ty)(hs:AQ i):PE X (.Subscript o i pos) (o6 X.K td ty):=by
 intro J6 s σ H Q I h;refine Cz PySem.F.slot_dict_getitem.lookup hs (cp (ho J6 s σ H _ I h) fun u s1 ⟨x,H1,I1,rx,q1⟩=>cp (hi J6 s1 σ H1 _ I1 q1) fun iv s2 zq0=>?_);obtain⟨y,H2,I2,ry,a,v,ex,g,q2⟩:=zq0;subst ex;obtain rfl:u=Value.ref a:=rx;exact⟨wx I2 g,AJ hu I2 g ry fun w' s3 I3 rw'=>⟨v,H2,I3,rw',q2⟩⟩
theorem oB(hu:X.A.units+16<cLine)(hi:PE X i ty)(ho:PE X o td):PC X .In i o (xm X.K ty td):=by
 intro J6 s σ H Q I h;refine cp (hi J6 s σ H _ I h) fun iv s1 ⟨y,H1,I1,ry,q1⟩=>cp (ho J6 s1 σ H1 _ I1 q1) fun u s2 zq0=>?_;obtain⟨x,H2,I2,rx,a,ov,ex,g,q2⟩:=zq0;subst ex;obtain rfl:u=Value.ref a:=rx;exact d_in hu I2 g ry fun s3 I3=>⟨.bl ov.isSome,H2,I3,rfl,q2⟩
theorem gF(hu:X.A.units+16<cLine)(hi:PE X i ty)(ho:PE X o td):PC X .NotIn i o (jm X.K ty td):=by
 intro J6 s σ H Q I h;refine cp (hi J6 s σ H _ I h) fun iv s1 ⟨y,H1,I1,ry,q1⟩=>cp (ho J6 s1 σ H1 _ I1 q1) fun u s2 zq0=>?_;obtain⟨x,H2,I2,rx,a,ov,ex,g,q2⟩:=zq0;subst ex;obtain rfl:u=Value.ref a:=rx;exact C_ hu I2 g ry fun s3 I3=>⟨.bl (!ov.isSome),H2,I3,rfl,q2⟩
theorem gw(hu:X.A.units+16<cLine)(ho:PE X o td)(hi:PE X i ty)(hv:PE X value tv)(hs:oZ value (some (.Subscript o i pos')) pos.line X.env=pure false):
  PS X (.Assign [.Subscript o i pos'] value pos) (k_ td ty tv):=by
 intro J6 s σ H D I h;refine wpAny_Assign_Subscript (cp (hv J6 s σ H _ I h) fun r s1 ⟨v,H1,I1,rv,q1⟩=>cp (ho J6 s1 σ H1 _ I1 q1) fun u s2 ⟨x,H2,I2,rx,q2⟩=>cp (hi J6 s2 σ H2 _ I2 q2) fun iv s3 zq0=>?_) hs;obtain⟨y,H3,I3,ry,a,H4,ex,g,q3⟩:=zq0;subst ex;obtain rfl:u=Value.ref a:=rx;exact AI hu I3 g ry rv fun s4 I4=>⟨σ,H4,I4,q3⟩
end
theorem BY{P:bx}{w:World}{K:Za}{H:Hp}(h:Heap)(hb:gk<h.objs.size):bP P w K H (h.push { cls:=.type "dict",data:=.dict #[] }) h.objs.size (.dK []) :=
 ⟨cQ _,beq_eq_false_iff_ne.mpr (cA (b9 hb)),[],.nil,Heap.DictOf.new h⟩
theorem BW{P:bx}{w:World}{K:Za}{H:Hp}(h:Heap)(hb:gk<h.objs.size):bP P w K H (h.push { cls:=.type "dict",data:=.dict #[] }) h.objs.size (.dT []) :=
 ⟨cQ _,beq_eq_false_iff_ne.mpr (cA (b9 hb)),[],.nil,_,#[],0,cz _ rfl,⟨rfl,rfl,rfl⟩,rfl,rfl,n8⟩
def q_:TE:=fun _ H Q=>∀p,H p=none->Q (.ref p) (upd H p (.dK []))
def lR:TE:=fun _ H Q=>∀p,H p=none->Q (.ref p) (upd H p (.dT []))
section
variable{X:Cx}{pos:Pos}
theorem nc:PE X (.Dict [] [] pos) q_:=fun J6 s σ H Q I h =>
 wpAny_Dict_empty ⟨.ref s.heap.objs.size,_,I.laid (a:=s.heap.objs.size) (o:=.dK []) (t':=s.toks) (fun _ _ q=>aS _ q) (aG _) (BY s.heap I.big),rfl,h _ (I.hok.fresh (aG _))⟩
theorem iZ:PE X (.Dict [] [] pos) lR:=fun J6 s σ H Q I h =>
 wpAny_Dict_empty ⟨.ref s.heap.objs.size,_,I.laid (a:=s.heap.objs.size) (o:=.dT []) (t':=s.toks) (fun _ _ q=>aS _ q) (aG _) (BW s.heap I.big),rfl,h _ (I.hok.fresh (aG _))⟩
end
def iG(kvs more:List (ei×V)):List (ei×V):=more.foldl (fun acc kv=>eh acc kv.1 kv.2) kvs
theorem KV.merge:∀{more:List (ei×V)}{rs:List (ei×Value)}{kvs:List (ei×V)}{vs:List (ei×Value)},KV more rs->KV kvs vs->KV (iG kvs more) (merged vs rs):=by
 intro more rs kvs vs r;unfold KV at r
 induction r generalizing kvs vs with
 |nil=>intro q;exact q
 |@cons p q ps qs h t ih =>
  intro r0;have e:KV (eh kvs p.1 p.2) (stored vs q.1 q.2):=by
   have:=r0.put p.1 h.2;rw[<-h.1];exact this
  exact ih e
theorem lb:∀(more kvs:List (ei×V)),(iG kvs more).length<=kvs.length+more.length
 |[],kvs=>by show kvs.length<=kvs.length+0;omega
 |p::r,kvs=>by
  have h1:=lb r (eh kvs p.1 p.2);have h2:=iq kvs p.1 p.2;show(iG (eh kvs p.1 p.2) r).length<=_;rw[eG];omega
structure M1(X:Cx)(o:Expr)(m:Str)(J8:Pos)(e:Expr)(J7:Pos):Prop where
 base:qa o m X.env (eval o X.env)=eval o X.env
 few:((backTo J7 (ay [e] X.env)).all (fun x=>!x.1) && (mz J7 (my [] X.env)).all (fun x=>x.1.isSome)
  && decide (([e]:List Expr).length+([]:List og).length+(if([]:List og).isEmpty then 0 else 1)<30))=true
 line:(J8.endLine==J7.line)=true
 trees:backTo J7 (ay [e] X.env)=[(false,eval e X.env)]
structure M2(X:Cx)(o:Expr)(m:Str)(J8:Pos)(e f:Expr)(J7:Pos):Prop where
 base:qa o m X.env (eval o X.env)=eval o X.env
 few:((backTo J7 (ay [e,f] X.env)).all (fun x=>!x.1) && (mz J7 (my [] X.env)).all (fun x=>x.1.isSome)
  && decide (([e,f]:List Expr).length+([]:List og).length+(if([]:List og).isEmpty then 0 else 1)<30))=true
 line:(J8.endLine==J7.line)=true
 trees:backTo J7 (ay [e,f] X.env)=[(false,eval e X.env),(false,eval f X.env)]
def IsD(H:Hp)(a:Addr):Prop:=(∃kvs,Rd H a (.dK kvs))∨∃kvs,Rd H a (.dT kvs)
theorem En{X:Cx}{J6:Zd}{σ:St}{H:Hp}{s:Shared}{a:Addr}(I:Inv X J6 σ H s)(d:IsD H a):
  s.TypeIs (.ref a) "dict"/\(∀b,Value.ref a=.ref b->∃ob,s.heap.get? b=some ob/\ob.dict=none)/\(a==gk)=false:=by
 rcases d with⟨kvs,e⟩|⟨kvs,e⟩
 ·obtain⟨_,hd,vs,_,dd⟩:=pf I.hok e;refine⟨dd.typeIs,fun b q=>?_,hd⟩;cases q;obtain⟨ob,_,_,h1,h2,_⟩:=dd;exact⟨ob,h1,h2.2.1⟩
 ·obtain⟨_,hd,xs,_,dd⟩:=rK I.hok I.kIn e;refine⟨dd.typeIs,fun b q=>?_,hd⟩;cases q;obtain⟨ob,_,_,h1,h2,_⟩:=dd;exact⟨ob,h1,h2.2.1⟩
section
variable{X:Cx}{J6:Zd}{σ:St}{H:Hp}{s:Shared}{a:Addr}{y d:V}{u r:Value}{o:Option V}{A:Around}{E:Zc}
theorem Er{Q:Zc}(hu:A.units+16<cLine)(I:Inv X J6 σ H s)(g:oS X.K H a y o)(ry:RelV y u)(rd:RelV d r)(h:∀w' s',Inv X J6 σ H s'->RelV (o.getD d) w'->Q w' s'):
  wpAny (model X.prog X.w) A (call (.builtin "dict.get") [.ref a,u,r]) Q E s:=by
 rcases g with⟨kvs,k,e,ey,l⟩|⟨kvs,k,b,e,ey,eb,e8,l⟩
 ·subst ey;obtain⟨z,hd,vs,rel,dd⟩:=pf I.hok e;refine call_meetsIn PySem.F.slot_dict_get dd.typeIs PySem.F.entry_dict_get (PySem.F.args_dict_get_3 _ _ _) (meets_dict_get_default (bV X.prog X.w) a (pd ry) hd r) ⟨_,dd.mapOf,h _ _ (I.tok _) ?_⟩;rw[l];exact(rel.val k).getD rd
 ·subst ey;cases(show u=Value.ref b from ry);obtain⟨z,hd,xs,rel,dd⟩:=rK I.hok I.kIn e;refine call_meetsIn PySem.F.slot_dict_get dd.typeIs PySem.F.entry_dict_get (PySem.F.args_dict_get_3 _ _ _) (meetsH_dict_get_default (ee X.prog X.w) a b hd r) ⟨fq hu,k,xs,u4 I eb e8,dd,h _ _ (I.tok _) ?_⟩;rw[l];exact(rel.val k).getD rd
end
def uD(K:Za)(td ty tx:TE):TE:=fun σ H Q=>td σ H fun x H1=>∃a,x=.ref a/\IsD H1 a/\ty σ H1 fun y H2=>tx σ H2 fun z H3=>∃o,oS K H3 a y o/\Q (o.getD z) H3
section
variable{X:Cx}{o e f:Expr}{J8 J7:Pos}{td ty tx:TE}
theorem rq(hu:X.A.units+16<cLine)(ho:PE X o td)(he:PE X e ty)(hf:PE X f tx)(m:M2 X o "get" J8 e f J7):PE X (.Call (.Attribute o "get" J8) [e,f] [] J7) (uD X.K td ty tx):=by
 intro J6 s σ H Q I h;refine wpAny_Call_method m.base m.few m.line PySem.F.plainAttrs_dict PySem.F.slot_dict_get PySem.F.type_dict_get (cp (ho J6 s σ H _ I h) fun u s1 zq0=>?_);obtain⟨x,H1,I1,rx,a,ex,d,q1⟩:=zq0;subst ex;obtain rfl:u=Value.ref a:=rx;obtain⟨t1,t2,_⟩:=En I1 d;refine⟨t1,t2,?_⟩;rw[m.trees];refine uj rfl (Calls.evalArgs_plain (yG (cp (he J6 s1 σ H1 _ I1 q1) fun iv s2 ⟨y,H2,I2,ry,q2⟩ =>
  yG (cp (hf J6 s2 σ H2 _ I2 q2) fun fv s3 ⟨z,H3,I3,rz,ov,g,q3⟩=>Calls.spliced_nil ?_))))
 exact Er hu I3 g ry rz fun w' s4 I4 rw'=>⟨_,H3,I4,rw',q3⟩
end
end L2
namespace Att
open PySem PySem.W PySem.Calls PyProof.Rows
theorem ints_of_wellAll{P:Params}{h:Heap}:∀(ns:List Int) (vs:Zf),WellAll P h vs (ns.map WData.int)->cT vs ns:=by
 intro ns
 induction ns with
 |nil =>
  intro vs w;rw[ul]at w;cases w;exact .nil
 |cons n ns ih =>
  intro vs w;rw[bh]at w;cases w with
  |cons a b =>
   cases a;exact .cons _ _ (ih _ b)
theorem script_of{l:OpenLaw}{n:Nat}(hn:l.most=some n){P:Params}{h:Heap}{args:List WData}{vals:Zf}
  (hpre:l.row.toRowW.claim.pre args=true) (hwl:WellAll P h vals args) :
  ∃a vs ns,vals=[Value.ref a]/\args=[WData.list (ns.map WData.int)]/\h.get? a=some { cls:=.type "list",data:=.seq vs.toArray }/\cT vs ns/\ns.length<=n:=by
 have hsh:WShape.hasAll [] args [.list .int]=true:=(pre_splitW hpre).1;have hc:l.pre.holds [] { args:=args }=true:=(pre_splitW hpre).2;obtain⟨d,r,rfl,h1,h2⟩:=hasAllW_cons hsh;obtain rfl:=hasAllW_nil h2;obtain⟨xs,rfl,h3⟩:=hasW_list h1;obtain⟨ns,rfl⟩:=items_int h3;have hlen:ns.length<=n:=by
  unfold OpenLaw.pre at hc;have h4:(WTm.not (.lt (.lit (.int (n:Int))) (.len (.arg 0)))).holds [] { args:=[.list (ns.map .int)] }=true:=by
   have h4:=(holds_andW hc).1;rw[hn]at h4;exact h4
  have h5:=condW_of h4 (w_not (w_lt w_lit (w_len_list (w_arg rfl))));rw[ak]at h5;refine Nat.le_of_not_lt fun q=>?_;have q':(n:Int)<((ns.length:Nat):Int):=by omega
  first
   | (rw[zzr1 q']at h5;exact absurd h5 (by decide))
   | (simp at h5;omega)
 cases hwl with
 |cons w1 w2 =>
  cases w2;cases w1 with
  |list ho hall=>exact⟨_,_,ns,rfl,rfl,ho,ints_of_wellAll ns _ hall,hlen⟩
theorem post_true(l:OpenLaw)(args:List WData):l.row.toRowW.claim.post args (.bool true) args=true :=
 postW_of (r:=l.row.toRowW) (X:=(true==true))
  (show WShape.has [] (.bool true) .bool=true by first|rfl|decide|simp[WShape.has,WShape.arms,WShape.armsAll])
  (show(WTm.eq .res (.lit (.bool true))).value [] { args:=args,res:=some (.bool true),after:=args }=some (.bool (true==true))from w_eq_bool (w_res rfl) w_lit) rfl
theorem attach_call{l:OpenLaw}{n:Nat}{q:bx}{loose:Zb}{XP:(Str->Option Value)->Heap->Prop}{YP:World->Heap->Prop}{d:DefRec}
  (hn:l.most=some n) (hdf:d.params.defaults=[])
  (call:∀(w:World) (s₀ s₁:Shared) (mg mb:Str->Option Value) (fa:Addr) (o:Obj) (pm cd doc:Value) (a:Addr) (vs:Zf) (ns:List Int),
   Ground q loose [] XP w s₀ mg mb s₁.heap->YP w s₁.heap ->
   s₁.heap.get? fa=some o->o.data=.func (docDef d.name d.params d.body d.scope pm cd doc)->s₁.heap.CodeRec cd d.name->mg d.name=some (.ref fa) ->
   s₁.heap.get? a=some { cls:=.type "list",data:=.seq vs.toArray }->cT vs ns->ns.length<=n->s₁.gens=#[] ->
   zzl77 (model l.prog w) j5 (.call (.ref fa) ⟨[.ref a],[]⟩) (fun r s'=>r=.ok (.ret (.bool true))/\OldK s₁.heap s'.heap/\s'.os=s₁.os/\mE s'.gens) s₁) :
  WalkO q loose XP YP l.row.toRowW d [] (fun f vs=>PySem.call f vs):=by
 intro w s₀ s₁ mg mb G Y fa o pm cd doc dV kV ho hd hcd hD hmg hg args vals as hpre hlay hrd hwl hlo;obtain rfl:dV=.none:=Dflts.none hD hdf;obtain rfl:kV=.none:=Dflts.noKw hD;obtain⟨a,vs,ns,rfl,rfl,hobj,hints,hlen⟩:=script_of hn hpre hwl;refine enter_call (yF (call w s₀ s₁ mg mb fa o pm cd doc a vs ns G Y ho (fd_plain hd) hcd hmg hobj hints hlen hg) fun r s' hq=>?_);obtain⟨rfl,h2,h3,h4⟩:=hq;exact⟨.inl ⟨.bool true,.bool true,[],rfl,fun _=>rfl,.bool true,post_true l _,fun _=>⟨List.Pairwise.nil,fun _ hm=>(nomatch hm)⟩⟩,h2,h3,h4⟩
end Att
namespace L2
open PySem PySem.Spec PyProof.Rows
theorem sR:∀{vs:Zf}{ns:List Int},cT vs ns->aW (ns.map V.int) vs
 |_,_,.nil=>.nil
 |_,_,.cons n t h=>.cons ⟨t,rfl⟩ (sR h)
def Dk(H:Hp):Prop:=∀b,H b=none∨∃o xs,H b=some (.frz o (.lst xs))
theorem BI{P:bx}{w:World}{K:Za}{mg mb:Str->Option Value}{CX:A0}{k:Nat}{fa a:Addr}{fd:jM}{x:Str}{sp:Sp}{s₁:Shared}{vs:Zf}{ns:List Int}
  (KX:K.In s₁.heap) (hns:s₁.heap.Ns bL mg) (hb:s₁.heap.Ns builtinsNs mb) (hbb:∀x:Str,x≠"__name__"->mb x=ic x) (hlim:s₁.heap.NoLimit) (hg:s₁.gens=#[])
  (ha:s₁.heap.get? a=some { cls:=.type "list",data:=.seq vs.toArray }) (hi:cT vs ns) (hl:ns.length<=aj) (hr:dX k j5)
  (F:∀base:Heap,K.In base->base.Ns bL mg->ky P w K mg base CX k fa fd [x] sp) (hbind:∀(s:Shared) (u:Value),p_ s fd ⟨[u],[]⟩ [(x,u)])
  (hsp:∀H:Hp,Dk H->aw K H a (ns.map V.int)->sp [.ref a] H (fun v _=>v=.bl true) fun _ _ _=>False)
  (hCX:∀H e s',CX [] H s₁ (fun _ _ _=>False) e s'->False) :
  zzl77 (model P w) j5 (.call (.ref fa) ⟨[.ref a],[]⟩) (fun r s'=>r=.ok (.ret (.bool true))/\OldK s₁.heap s'.heap/\s'.os=s₁.os/\mE s'.gens) s₁:=by
 have rv:=sR hi;have lenV:=hi.length;have core:∀H:Hp,Dk H->aw K H a (ns.map V.int)->kN P w K H s₁.heap->(∀b,H b≠none->b=a)->(H a≠none->K.lookup a=none) ->
   zzl77 (model P w) j5 (.call (.ref fa) ⟨[.ref a],[]⟩) (fun r s'=>r=.ok (.ret (.bool true))/\OldK s₁.heap s'.heap/\s'.os=s₁.os/\mE s'.gens) s₁:=by
  intro H hO hS hok hA hK;have base_of:∀{b:Addr}{o:Obj},s₁.heap.get? b=some o->H b=none->(u7 s₁.heap H).get? b=some o:=fun e n=>BN e n;have noA:∀{b:Addr}{o:Obj}{es:Array lC}{ep:Nat},s₁.heap.get? b=some o->o.data=.dict es ep->H b=none:=fun{b o es ep} e d=>by
   cases q:H b with
   |none=>rfl
   |some u =>
    have e':b=a:=hA b (by rw[q];simp);subst e';rw[ha]at e;cases e;have d':Data.seq vs.toArray _=Data.dict es ep:=d;cases d'
  have nsK:∀{b:Addr}{m:Str->Option Value},s₁.heap.Ns b m->(u7 s₁.heap H).Ns b m:=fun{b m} ⟨o,es,ep,e,d,r⟩=>⟨o,es,ep,base_of e (noA e d),d,r⟩;have hKb:K.In (u7 s₁.heap H):=fun b o e=>base_of (KX b o e) (by
   cases q:H b with
   |none=>rfl
   |some u =>
    have e':b=a:=hA b (by rw[q];simp);subst e';rw[hK (by rw[q];simp)]at e;cases e)
  have hM:Mod K mg (u7 s₁.heap H):=⟨hKb,nsK hns,⟨mb,nsK hb,hbb⟩,let⟨mc,h1,h2⟩:=hlim;⟨mc,nsK h1,h2⟩⟩;have e0:yB P w K mg (u7 s₁.heap H) j5 [] s₁ H:=⟨rfl,hM,fun b o e=>C2 e,Nat.le_of_eq (AB _ _),trivial,fun b hb=>absurd (show b∈([]:Ze)from hb) (by simp),hok,.of_eq hg⟩;refine yF ((F _ hKb (nsK hns)).run j5 [] s₁ H ⟨[.ref a],[]⟩ [.ref a] [.ref a] _ _ hr e0 (hbind s₁ (.ref a)) (.cons rfl .nil) (hsp H hO hS)) fun r s' h=>?_;cases r with
  |error e=>exact(hCX H e s' h).elim
  |ok fl =>
   cases fl with
   |next=>exact iP h
   |brk=>exact iP h
   |cont=>exact iP h
   |ret u =>
    obtain⟨v,H',os,bare,un,hok',r',q⟩:=h;have q':v=.bl true:=q;subst q';obtain rfl:u=Value.bool true:=r';refine⟨rfl,OldK.of_keep fun b o e=>?_,os,bare⟩;cases q:H b with
    |none=>exact un.keep b o e q (by intro z;exact absurd (show b∈([]:Ze)from z) (by simp)) (by simp)
    |some u =>
     rcases hO b with z|⟨ob,xs,z⟩
     ·rw[q]at z;cases z
     ·have z2:=un.frzs b ob _ z;obtain⟨e1,_⟩:=hok b _ z;obtain⟨e2,_⟩:=hok' b _ z2;rw[e]at e1;cases e1;exact e2
 cases hk:K.lookup a with
 |some o =>
  have e:=KX a o hk;rw[ha]at e;cases e;refine core (fun _=>none) (fun _=>.inl rfl) (.inr ⟨_,vs.toArray,_,hk,rfl,rfl,rfl,by rw[bu,lenV];exact hl,by simpa using rv⟩) (fun b u z=>by have z':(none:Option HO)=some u:=z;cases z') (fun b z=>absurd rfl z) fun z=>absurd rfl z
 |none =>
  refine core (fun b=>if b=a then some (.frz { cls:=.type "list",data:=.seq vs.toArray } (.lst (ns.map V.int)))else none) (fun b=>?_) (.inl (.inr ⟨{ cls:=.type "list",data:=.seq vs.toArray },if_pos rfl⟩)) (fun b u z=>?_) (fun b z=>?_) fun _=>hk
  ·by_cases hb:b=a
   ·exact .inr ⟨_,_,if_pos hb⟩
   ·exact .inl (if_neg hb)
  ·by_cases hb:b=a
   ·have z':=(if_pos hb).symm.trans z;cases z';subst hb;exact⟨ha,by rw[ak];exact hl,vs,_,rv,ha⟩
   ·have z':=(if_neg hb).symm.trans z;cases z'
  ·by_cases hb:b=a
   ·exact hb
   ·exact absurd (if_neg hb) z
end L2
namespace L2
open PySem PySem.Spec PyProof.Rows
theorem Ct{l:PySem.W.OpenLaw}{n k:Nat}{q:bx}{loose:Zb}{XP:(Str->Option Value)->Heap->Prop}{YP:World->Heap->Prop}{d:DefRec}{K:Params->Za}{CX:World->A0}{sp:World->Sp}{x:Str}
  (hn:l.most=some n) (hn2:n<=aj) (hdf:d.params.defaults=[]) (hr:dX k j5)
  (hY:∀(w:World) (h:Heap),YP w h->(K w.params).In h)
  (F:∀(w:World) (mg:Str->Option Value) (fa:Addr) (h:Heap),(K w.params).In h->h.Ns bL mg->mg d.name=some (.ref fa) ->
   ∃fd:jM,(∀(s:Shared) (u:Value),p_ s fd ⟨[u],[]⟩ [(x,u)]) /\
    ∀base:Heap,(K w.params).In base->base.Ns bL mg->ky l.prog w (K w.params) mg base (CX w) k fa fd [x] (sp w))
  (hsp:∀(w:World) (H:Hp) (a:Addr) (ns:List Int),ns.length<=n->Dk H->aw (K w.params) H a (ns.map V.int)->sp w [.ref a] H (fun v _=>v=.bl true) fun _ _ _=>False)
  (hCX:∀(w:World) (H:Hp) (s:Shared) (e:Value) (s':Shared),CX w [] H s (fun _ _ _=>False) e s'->False) :
  PySem.W.WalkO q loose XP YP l.row.toRowW d [] (fun f vs=>PySem.call f vs):=by
 refine Att.attach_call hn hdf fun w s₀ s₁ mg mb fa o pm cd doc a vs ns G Y ho hd hcd hmg hobj hints hlen hg=>?_;have KX:=hY w _ Y;obtain⟨fd,hb,hF⟩:=F w mg fa _ KX G.T.g hmg;exact BI KX G.T.g G.T.b G.T.builtins G.T.nolimit hg hobj hints (bq hlen hn2) hr hF hb (fun H hO hS=>hsp w H a ns hlen hO hS) fun H e s'=>hCX w H s₁ e s'
theorem walk_ofK{l:PySem.W.OpenLaw}{n k:Nat}{q:bx}{loose:Zb}{XP:(Str->Option Value)->Heap->Prop}{YP:World->Heap->Prop}{d:DefRec}{K:Params->Za}{CX:A0}{sp:Za->Sp}{x:Str}
  (hn:l.most=some n) (hn2:n<=aj) (hdf:d.params.defaults=[]) (hr:dX k j5)
  (hY:∀(w:World) (h:Heap),YP w h->(K w.params).In h)
  (F:∀(w:World) (mg:Str->Option Value) (fa:Addr) (h:Heap),(K w.params).In h->h.Ns bL mg->mg d.name=some (.ref fa) ->
   ∃fd:jM,(∀(s:Shared) (u:Value),p_ s fd ⟨[u],[]⟩ [(x,u)]) /\
    ∀base:Heap,(K w.params).In base->base.Ns bL mg->ky l.prog w (K w.params) mg base CX k fa fd [x] (sp (K w.params)))
  (hsp:∀(K:Za) (H:Hp) (a:Addr) (ns:List Int),ns.length<=n->Dk H->aw K H a (ns.map V.int)->sp K [.ref a] H (fun v _=>v=.bl true) fun _ _ _=>False)
  (hCX:∀(H:Hp) (s:Shared) (e:Value) (s':Shared),CX [] H s (fun _ _ _=>False) e s'->False) :
  PySem.W.WalkO q loose XP YP l.row.toRowW d [] (fun f vs=>PySem.call f vs) :=
 Ct (K:=K) (CX:=fun _=>CX) (sp:=fun w=>sp (K w.params)) hn hn2 hdf hr hY F (fun w H a ns h1 h2 h3=>hsp (K w.params) H a ns h1 h2 h3) fun _ H s e s'=>hCX H s e s'
end L2
namespace L2
open PySem PySem.Spec PyProof.Rows
def fK(s:Stmt)(j:Nat):Stmt:=match s with
 |.ClassDef _ _ _ body _ _ _ _ _ _ _=>body.getD j (.Pass ⟨0,0,0,0⟩)
 |_=>.Pass ⟨0,0,0,0⟩
def gB(s:Stmt):Arguments:=match s with
 |.FunctionDef _ a _ _ _ _ _ _ _ _=>a
 |_=>{ posonlyargs:=[],args:=[],vararg:=none,kwonlyargs:=[],kw_defaults:=[],kwarg:=none,defaults:=[] }
def eV(s:Stmt):List Stmt:=match s with
 |.FunctionDef _ _ b _ _ _ _ _ _ _=>b
 |_=>[]
def bG(s:Stmt):Scope:=match s with
 |.FunctionDef _ _ _ _ _ _ sc _ _ _=>sc
 |_=>{ kind:=.function,names:=[],isGenerator:=false,isCoroutine:=false }
abbrev CX0:A0:=fun _ _ _ _ _ _=>False
abbrev E0:XK:=fun _ _ _=>False
abbrev aV(sp:Sp)(a:TA):TE:=Dr sp [] E0 a
theorem za{X:Cx}:me CX0 X E0:=fun _ _ _ _ _ _ _ h=>h.elim
structure EG(K:Za)(x qual:Str)(st:Stmt)(f:Addr)(fd:jM):Prop where
 ex:∃(oc:Value) (od:Option Addr) (kV doc pm:Value) (an:Option Addr) (cdv ct:Value) (osl:Array (Option Value)),
  fd=gW x qual (gB st) (eV st) (bG st) .none kV doc pm an cdv ct/\K.lookup f=some ⟨oc,od,.func fd,osl⟩/\lH K cdv qual=true
 kp:gP K (.ref f)=true
section
variable{P:bx}{w:World}{K:Za}{mg:Str->Option Value}{base:Heap}
theorem EG.ok{x qual:Str}{st:Stmt}{f:Addr}{fd:jM}{N ps:Zb}{k:Nat}{sp:Sp}(F:EG K x qual st f fd)(S:jF N ps (bG st))(len:∀vs H Q E,sp vs H Q E->vs.length=ps.length)
  (hbody:∀(cdv:Value) (A:Around) (outer:List Env) (s:Shared) (H:Hp) (vs:List V) (Q:VK) (E:XK),dX k (A.deeper (envOfC qual (bG st) s.heap.objs.size f cdv))->sp vs H Q E ->
   ∃t,wR (ya CX0 P w K mg base N qual (bG st) f cdv A outer s H E).nox (eV st) t/\t (bN Q) (start N vs) H):ky P w K mg base CX0 (k+1) f fd ps sp:=by
 obtain⟨oc,od,kV,doc,pm,an,cdv,ct,osl,rfl,lk,hcd⟩:=F.ex;refine Fb lk hcd S len fun A outer s H vs Q E hr hsp=>?_;obtain⟨t,h,q⟩:=hbody cdv A outer s H vs Q E hr hsp;exact⟨t,h.nox,q⟩
theorem EG.binds{x qual:Str}{st:Stmt}{f:Addr}{fd:jM}{ps:Zb}(F:EG K x qual st f fd)
  (h:∀(kV doc pm:Value) (an:Option Addr) (cdv ct:Value) (us:Zf),us.length=ps.length->bindArgs (gW x qual (gB st) (eV st) (bG st) .none kV doc pm an cdv ct) ⟨us,[]⟩=pure (ps.zip us)):Binds K fd ps []:=by
 obtain⟨oc,od,kV,doc,pm,an,cdv,ct,osl,rfl,lk,hcd⟩:=F.ex;exact .all (h kV doc pm an cdv ct)
theorem BQ{x qual:Str}{st:Stmt}{f:Addr}{oc:Value}{od an:Option Addr}{osl:Array (Option Value)}{kV doc pm cdv ct:Value}(l:K.lookup f=some ⟨oc,od,.func (gW x qual (gB st) (eV st) (bG st) .none kV doc pm an cdv ct),osl⟩)
  (c:lH K cdv qual=true) (k:gP K (.ref f)=true):EG K x qual st f (gW x qual (gB st) (eV st) (bG st) .none kV doc pm an cdv ct):=⟨⟨oc,od,kV,doc,pm,an,cdv,ct,osl,rfl,l,c⟩,k⟩
end
theorem zv{A:Around}{k:Nat}(hr:dX k A):A.units+16<cLine:=qF (Nat.add_le_add_left (by decide:16<=64) _) hr.units
theorem ao{n:Nat}(h:n<=1000):n<aj:=qF h (by decide)
section
variable{X:Cx}
theorem pv(i:Nat){x:Str}{pos:Pos}(hN:X.N[i]?=some x:=by rfl)(hv:Vis X.env.scope x:=by first|exact Or.inl rfl|exact Or.inr (Or.inl rfl)|exact Or.inr (Or.inr rfl))(hd:(x==("__debug__":Str))=false:=by decide)
  (hcd:(x==("__classdict__":Str))=false:=by decide):PE X (.Name x pos) (lP i):=Ec hN hv hd hcd
end
theorem aU{A B:Prop}(h:B):if false=true then A else B:=by
 rw[if_neg fj];exact h
theorem cr{A B:Prop}(h:A):if true=true then A else B:=by
 rw[if_pos rfl];exact h
theorem nB{c A B:Prop}[Decidable c](h1:c->A)(h2:¬c->B):if c then A else B:=by
 by_cases h:c
 ·rw[if_pos h];exact h1 h
 ·rw[if_neg h];exact h2 h
def ac(H H':Hp):Prop:=∀b o,H b=some o->H' b=some o
theorem ac.refl(H:Hp):ac H H:=fun _ _ h=>h
theorem ac.trans{H H1 H2:Hp}(a:ac H H1)(b:ac H1 H2):ac H H2:=fun c o h=>b c o (a c o h)
theorem ac.free{H H':Hp}(e:ac H H'){l:Addr}(h:H' l=Option.none):H l=Option.none:=by
 cases q:H l with
 |none=>rfl
 |some o =>
  rw[e l o q]at h;cases h
theorem ac.seq{K:Za}{H H':Hp}{a:Addr}{xs:List V}(e:ac H H')(h:aw K H a xs):aw K H' a xs:=by
 rcases h with(h|⟨o,h⟩)|h
 ·exact .inl (.inl (e _ _ h))
 ·exact .inl (.inr ⟨o,e _ _ h⟩)
 ·exact .inr h
section
variable{prog:bx}{w:World}{A:Around}{R:Result->Shared->Prop}{s:Shared}
abbrev XF:Value->Shared->Prop:=fun _ _=>False
abbrev xW(ifs:List Expr)(env:Env):Sem Bool:=forIn ifs true fun c r=>if r=true then do let ok <- isTrue c env (eval c env);pure (ug ok)else pure (ug r)
theorem va{elt target iter:Expr}{ifs:List Expr}{scope:Scope}{pos:Pos}{it acc:Value}{env:Env}(I:Nat->Shared->Prop)
  (turn:∀n s,I n s->wpAny (model prog w) A (pyNext it) (fun r s₁=>match r with
   |none=>R (.ok .next) s₁
   |some v=>wpAny (model prog w) A (yM target it v) (fun _ s₁'=>wpAny (model prog w) A (assign target env v) (fun _ s₂ =>
     wpAny (model prog w) A (xW ifs env) (fun ok s₃ =>
      if ok=true then wpAny (model prog w) A (eval elt env) (fun x s₄ =>
       wpAny (model prog w) A (call (.builtin "list.append") [acc,x]) (fun _ s₅=>∃m,m<n/\I m s₅) XF s₄) XF s₃
      else ∃m,m<n/\I m s₃) XF s₂) XF s₁') XF s₁) XF s)
  (n:Nat) (h:I n s):zzl77 (model prog w) A (.compLoop (.ListComp elt [⟨target,iter,ifs,0⟩] scope pos) 0 it acc env) R s:=by
 refine codeAny_loop rfl I (fun n s hI=>?_) n h;show wpAny _ A ((compTurn (.ListComp elt [⟨target,iter,ifs,0⟩] scope pos) 0 it acc env).onRaise (fun x=>do noteFrame x env;theTreesLotGoes x)) _ _ s
 refine wpAny_noted ?_;rw[compTurn_list];refine ai (wpAny_standAt (ai (mG (turn n s hI) (fun r s₁ h₁=>?_) fun _ _ h'=>h'.elim)));cases r with
 |none=>exact aA h₁
 |some v =>
  refine ai (mG h₁ (fun _ s₁' h₁'=>?_) fun _ _ h'=>h'.elim);refine ai (mG h₁' (fun _ s₂ h₂=>ai (mG h₂ (fun ok s₃ h₃=>?_) fun _ _ h'=>h'.elim)) fun _ _ h'=>h'.elim);cases ok with
  |false=>exact aA ⟨rfl,h₃⟩
  |true =>
   exact ai (ai (mG h₃ (fun x s₄ h₄=>ai (mG h₄ (fun _ s₅ h₅=>aA (aA ⟨rfl,h₅⟩)) fun _ _ h'=>h'.elim)) fun _ _ h'=>h'.elim))
end
theorem l9{env:Env}:∀(names:List (Str×iM)) (cs0:List (Str×Addr)),(∀y∈names,y.2=.free->∃c,env.cells.lookup y.1=some c)->(∀x c,cs0.lookup x=some c->env.cells.lookup x=some c) ->
  ∃cs:List (Str×Addr),(forIn names cs0 fun(x:Str×iM) (r:List (Str×Addr))=>if(x.2==j4)=true then(cellOf env x.1 >>= fun c=>(pure (ug ((x.1,c)::r)):Sem (ForInStep (List (Str×Addr)))))else pure (ug r))=pure cs /\
   (∀x c,cs.lookup x=some c->env.cells.lookup x=some c)/\(∀x,(cs0.lookup x).isSome=true->(cs.lookup x).isSome=true)/\∀y∈names,y.2=.free->(cs.lookup y.1).isSome=true
 |[],cs0,_,h0=>⟨cs0,rfl,h0,fun _ h=>h,fun _ h=>nomatch h⟩
 | (n,k)::r,cs0,has,h0=>by
  have hr:∀y∈r,y.2=.free->∃c,env.cells.lookup y.1=some c:=fun y hy=>has y (ff _ hy);by_cases hk:k=.free
  ·subst hk;obtain⟨c,hc⟩:=has (n,.free) fg rfl;obtain⟨cs,e,p1,p2,p3⟩:=l9 r ((n,c)::cs0) hr (fun x d hd=>by
    rw[gU]at hd;cases hx:x==n with
    |true =>
     rw[hx]at hd;have:x=n:=by simpa using hx
     subst this;cases hd;exact hc
    |false=>rw[hx]at hd;exact h0 x d hd)
   have hself:(((n,c)::cs0).lookup n).isSome=true:=by rw[gU,beq_self_eq_true];rfl
   have hmono:∀x,(cs0.lookup x).isSome=true->(((n,c)::cs0).lookup x).isSome=true:=fun x hx=>by
    rw[gU];cases x==n with
    |true=>rfl
    |false=>exact hx
   refine⟨cs,?_,p1,fun x hx=>p2 x (hmono x hx),fun y hy hf=>?_⟩
   ·rw[lB];have hcell:cellOf env n=pure c:=by unfold cellOf;rw[hc]
    simp only[beq_self_eq_true,if_true,hcell];exact e
   ·rcases cR.mp hy with rfl|hy
    ·exact p2 _ hself
    ·exact p3 y hy hf
  ·obtain⟨cs,e,p1,p2,p3⟩:=l9 r cs0 hr h0;refine⟨cs,?_,p1,p2,fun y hy hf=>?_⟩
   ·rw[lB];have hb:(k==j4)=false:=by simpa using hk
    simp only[hb,mH,if_false];exact e
   ·rcases cR.mp hy with rfl|hy
    ·exact absurd hf hk
    ·exact p3 y hy hf
theorem rO{env:Env}{scope:Scope}(has:∀y∈scope.names,y.2=.free->∃c,env.cells.lookup y.1=some c):
  ∃cs:List (Str×Addr),closureFor scope env=pure cs/\(∀x c,cs.lookup x=some c->env.cells.lookup x=some c)/\∀y∈scope.names,y.2=.free->(cs.lookup y.1).isSome=true:=by
 obtain⟨cs,e,p1,_,p3⟩:=l9 (env:=env) scope.names [] has (fun _ _ h=>nomatch h);refine⟨cs,?_,p1,p3⟩;unfold closureFor
 first
  |exact e
  | (simp only[bind_pure];exact e)
  | (rw[show(forIn scope.names [] _:Sem (List (Str×Addr)))=pure cs from e];rfl)
def dj(X:Cx)(N:Zb)(scope:Scope)(C:Addr)(cl:List (Str×Addr))(s₀:Shared)(H₀:Hp)(ex:Ze)(pn:Zd):Cx where
 prog:=X.prog
 w:=X.w
 K:=X.K
 mg:=X.mg
 base:=X.base
 A:=X.A
 N:=N
 s₀:=s₀
 H₀:=H₀
 env:=compEnvC scope cl C X.env
 outer:=X.stack
 stack:=X.stack
 ex:=ex
 fn:=fun _=>false
 calm:=X.calm
 pn:=pn
 xe:=XF
def kL(sc scope:Scope)(k:Nat)(N XN:Zb)(fi:List Nat):Bool :=
 decide (scope.kind=.function) &&
 (scope.names.all fun y=>decide (y.2≠.cell) && (decide (y.2≠.local) || decide (scope.names.lookup y.1=some .local)) && (decide (y.2≠.free) || decide (sc.names.lookup y.1=some .cell) || decide (sc.names.lookup y.1=some .free))) &&
 decide (N.length=k+fi.length) &&
 ((mF fi.length).all fun j=>match fi[j]? with
  |some i=>match N[k+j]?,XN[i]? with
   |some x,some y=>decide (x=y) && decide (scope.names.lookup x=some .free)
   |_,_=>false
  |none=>false)
structure mv(sc scope:Scope)(k:Nat)(N XN:Zb)(fi:List Nat):Prop where
 kind:scope.kind=.function
 cell:∀y∈scope.names,y.2≠.cell
 nm:∀y∈scope.names,y.2=.local->scope.names.lookup y.1=some .local
 fr:∀y∈scope.names,y.2=.free->sc.names.lookup y.1=some .cell∨sc.names.lookup y.1=some .free
 len:N.length=k+fi.length
 sl:∀j i,fi[j]?=some i->∃x,N[k+j]?=some x/\XN[i]?=some x/\scope.names.lookup x=some .free
theorem mv.of{sc scope:Scope}{k:Nat}{N XN:Zb}{fi:List Nat}(h:kL sc scope k N XN fi=true):mv sc scope k N XN fi:=by
 unfold kL at h;simp only[ue,List.all_eq_true,Bool.or_eq_true,decide_eq_true_eq]at h;obtain⟨⟨⟨h1,h2⟩,h3⟩,h4⟩:=h;refine⟨h1,fun y hy=>(h2 y hy).1.1,fun y hy e=>((h2 y hy).1.2).resolve_left fun z=>z e,fun y hy e=>?_,h3,fun j i e=>?_⟩
 ·rcases(h2 y hy).2 with(z|z)|z
  ·exact absurd e z
  ·exact .inl z
  ·exact .inr z
 ·have hj:j<fi.length:=(bJ.mp e).1;have q:=h4 j (List.mem_range.mpr hj);rw[e]at q;dsimp only at q;cases a:N[k+j]? with
  |none=>rw[a]at q;cases q
  |some x =>
   cases b:XN[i]? with
   |none=>rw[a,b]at q;cases q
   |some y =>
    rw[a,b]at q;simp only[ue,decide_eq_true_eq]at q;exact⟨x,rfl,by rw[q.1],q.2⟩
theorem gm{env:Env}:∀{names:List (Str×iM)}{x:Str},names.lookup x=some .free ->
  (names.map fun(n,k)=>if(k==j4 && env.scope.kind==.function && env.kindOf n==some .cell)then(n,iM.cell)else(n,k)).lookup x=some .cell ∨
  (names.map fun(n,k)=>if(k==j4 && env.scope.kind==.function && env.kindOf n==some .cell)then(n,iM.cell)else(n,k)).lookup x=some .free
 |[],_,h=>by simp at h
 | (n,k)::r,x,h=>by
  have ih:=@gm env r x;simp only[bh];cases hx:x==n with
  |true =>
   simp only[gU,hx]at h;cases h;by_cases hc:(j4==j4 && env.scope.kind==.function && env.kindOf n==some .cell)=true
   ·left;rw[if_pos hc];simp[gU,hx]
   ·right;rw[if_neg hc];simp[gU,hx]
  |false =>
   simp only[gU,hx]at h;by_cases hc:(k==j4 && env.scope.kind==.function && env.kindOf n==some .cell)=true
   ·rw[if_pos hc];simp only[gU,hx];exact ih h
   ·rw[if_neg hc];simp only[gU,hx];exact ih h
def dQ(k:Nat)(fi:List Nat)(σ:St):St:=List.replicate k none++fi.map fun i=>(σ[i]?).join
theorem yf(k:Nat)(fi:List Nat)(σ:St):(dQ k fi σ).length=k+fi.length:=by simp[dQ]
theorem rN{k:Nat}{fi:List Nat}{σ:St}{i:Nat}{v:V}(h:(dQ k fi σ)[i]?=some (some v)):∃j t,i=k+j/\fi[j]?=some t/\σ[t]?=some (some v):=by
 unfold dQ at h;by_cases hi:i<k
 ·rw[gX (by simpa using hi),List.getElem?_replicate_of_lt hi]at h;cases h
 ·rw[iB (by simp;omega),List.length_replicate,bv]at h;refine⟨i-k,?_⟩;cases e:fi[i-k]? with
  |none=>rw[e]at h;cases h
  |some t =>
   rw[e]at h;simp only[qH]at h;refine⟨t,by omega,rfl,?_⟩;have h':=dI h;cases e2:σ[t]? with
   |none=>rw[e2]at h';cases h'
   |some o=>rw[e2]at h';simp only[Option.join]at h';first|(rw[h'])|(subst h';rfl)|(simpa using h')
def wF(k:Nat)(g:TG):Prop:=∀x σ H Q,g x σ H Q->g x σ H fun σ2 H2=>Q σ2 H2/\σ2.length=σ.length/\∀i,k<=i->σ2[i]?=σ[i]?
def zS(k:Nat)(g:AZ):Prop:=∀x σ H Q,g x σ H Q->g x σ H fun σ2 H2=>Q σ2 H2/\σ2.length=σ.length/\∀i,k<=i->σ2[i]?=σ[i]?
theorem ba{k i:Nat}(h:i<k):wF k (dD i):=fun x σ H Q q=>⟨q,by simp,fun j hj=>by rw[List.getElem?_set_ne (by omega)]⟩
theorem rB{k:Nat}:zS k ga:=fun x σ H Q ⟨e,q⟩=>⟨e,q,rfl,fun _ _=>rfl⟩
def Cd(g:TG):Prop:=∀x σ H Q Q',(∀σ2 H2,Q σ2 H2->Q' σ2 H2)->g x σ H Q->g x σ H Q'
def vt(g:AZ):Prop:=∀x σ H Q Q',(∀σ2 H2,Q σ2 H2->Q' σ2 H2)->g x σ H Q->g x σ H Q'
theorem dS{i:Nat}:Cd (dD i):=fun _ _ _ _ _ f q=>f _ _ q
theorem gH:vt ga:=fun _ _ _ _ _ f ⟨e,q⟩=>⟨e,f _ _ q⟩
theorem lV{g:TG}{u:AZ}(h1:Cd g)(h2:vt u):vt (bb g u):=fun _ _ _ _ _ f ⟨v,r,e,q⟩=>⟨v,r,e,h1 _ _ _ _ _ (fun _ _ q=>h2 _ _ _ _ _ f q) q⟩
theorem gG{k:Nat}{g:TG}{u:AZ}(h1:wF k g)(m1:Cd g)(h2:zS k u)(m2:vt u):zS k (bb g u):=fun x σ H Q ⟨v,r,e,q⟩ =>
 ⟨v,r,e,m1 _ _ _ _ _ (fun σ2 H2 ⟨q,l,s⟩=>m2 _ _ _ _ _ (fun σ3 H3 ⟨q',l',s'⟩=>⟨q',l'.trans l,fun i hi=>(s' i hi).trans (s i hi)⟩) (h2 _ _ _ _ q)) (h1 _ _ _ _ q)⟩
theorem uO{K:Za}{k n:Nat}{t:AZ}(h:zS k t):wF k (gA K n t):=fun x σ H Q ⟨a,xs,e,hs,hl,q⟩=>⟨a,xs,e,hs,hl,h _ _ _ _ q⟩
def DP(X:Cx)(ifs:List Expr)(t:TT):Prop :=
 ∀(J6:Zd) (s:Shared) (σ:St) (H:Hp) (Q:Bool->Hp->Prop),Inv X J6 σ H s->t σ H Q->wpAny (model X.prog X.w) X.A (xW ifs X.env) (TP X J6 σ Q) X.xe s
def jS:TT:=fun _ H Q=>Q true H
theorem cU{X:Cx}:DP X [] jS:=fun J6 s σ H Q I h=>aA ⟨H,I,h⟩
theorem gy{X:Cx}{c:Expr}{t:TT}(h:PT X c t):DP X [c] t:=by
 intro J6 s σ H Q I hw;unfold xW;rw[lB];simp only[if_true];refine ai (ai (cp (h J6 s σ H Q I hw) fun b s1 q=>aA ?_));exact aA q
def c9(k:Nat)(fi:List Nat)(wi:TI)(g:TG)(tc:TT)(te:TE):TE:=fun σ H Q=>wi σ H fun J H1=>∀l,H1 l=none->∃W:Nat->Nat->List V->Hp->Prop,(∃m,W 0 m [] (upd H1 l (.lst [])))/\∀i m vs H2,W i m vs H2->H2 l=some (.lst vs) /\
 ((J.stop i H2/\Q (.ref l) H2)∨(J.go i H2/\∀x H3,J.yld i H2 x H3->g x (dQ k fi σ) H3 fun σ2 H4=>tc σ2 H4 fun b H5 =>
  if b=true then te σ2 H5 fun v H6=>H6 l=some (.lst vs)/\vs.length<aj/\∃m',m'<m/\W (i+1) m' (vs++[v]) (upd H6 l (.lst (vs++[v])))else ∃m',m'<m/\W (i+1) m' vs H5))
section
variable{X:Cx}{J6:Zd}{σ:St}
theorem Dd{k:Nat}{N:Zb}{scope:Scope}{fi:List Nat}{H:Hp}{s:Shared}{cl:List (Str×Addr)}{fp:Ze}(S:mv X.env.scope scope k N X.N fi)(I:Inv X J6 σ H s)
  (hcl:∀x c,cl.lookup x=some c->X.env.cells.lookup x=some c) (hcf:∀y∈scope.names,y.2=.free->(cl.lookup y.1).isSome=true) (hf:∀b∈fp,mq X J6 H b) (hlt:∀b∈fp,b<s.heap.objs.size) :
  (dj X N scope s.heap.objs.size cl s H fp (X.pn++J6)).Ok where
 mod:=I.ok.mod
 kind:=S.kind
 glob:=I.ok.glob
 blt:=I.ok.blt
 above:=aG _
 inj:=fun x y c e1 e2=>I.ok.inj x y c (hcl x c e1) (hcl y c e2)
 has:=fun x h=>by
  have key:∃y∈scope.names,y.1=x/\y.2=.free:=by
   have h':(relabel scope X.env).names.lookup x=some .cell∨(relabel scope X.env).names.lookup x=some .free:=h;have mem:∀(l:List (Str×iM)) (kd:iM),l.lookup x=some kd->(x,kd)∈l:=by
    intro l
    induction l with
    |nil=>intro kd e;cases e
    |cons a r ih =>
     intro kd e;obtain⟨n,k'⟩:=a;rw[gU]at e;cases hx:x==n with
     |true =>
      rw[hx]at e;have:x=n:=by simpa using hx
      subst this;cases e;exact fg
     |false=>rw[hx]at e;exact ff _ (ih kd e)
   have back:∀kd,(x,kd)∈(relabel scope X.env).names->kd=.cell∨kd=.free->∃y∈scope.names,y.1=x/\y.2=.free:=by
    intro kd hm hk;obtain⟨⟨n,k'⟩,hy,e⟩:=aT.mp hm;dsimp only at e;by_cases hc:(k'==j4 && X.env.scope.kind==.function && X.env.kindOf n==some .cell)=true
    ·have hk':k'=.free:=by
      simp only[ue]at hc;simpa using hc.1.1
     rw[if_pos hc]at e;cases e;exact⟨_,hy,rfl,hk'⟩
    ·rw[if_neg hc]at e;cases e;rcases hk with rfl|rfl
     ·exact absurd rfl (S.cell _ hy)
     ·exact⟨_,hy,rfl,rfl⟩
   rcases h' with h'|h'
   ·exact back _ (mem _ _ h') (.inl rfl)
   ·exact back _ (mem _ _ h') (.inr rfl)
  obtain⟨y,hy,rfl,hk⟩:=key;exact um.mp (hcf y hy hk)
 cab:=fun x c h=>by cases h
 hd:=I.ok.hd
 frames:=I.ok.frames
 stk:=.inl rfl
 exf:=fun b hb=>⟨b9 (hlt b hb),fun x c e=>(hf b hb).2.2.2.2.1 x c (hcl x c e)⟩
 bs:=I.bs
 bsz:=bq I.ok.bsz I.sz
 noex:=fun b o e hb=>by
  rcases(hf b hb).2.2.2.1 with z|z
  ·exact I.ok.noex b o e z
  ·exact absurd (cS (az (I.ok.bs b o e).1) z) (iQ _)
 exfs:=fun b hb z=>by
  obtain⟨_,f1,f2,_⟩:=hf b hb;rcases cR.mp (I.stkSub b z)with q|q
  ·exact f1 q
  ·exact f2 q
 funs:=I.stack
 frf:=I.stkFree
theorem B9{k:Nat}{N:Zb}{scope:Scope}{fi:List Nat}{H:Hp}{s:Shared}{cl:List (Str×Addr)}{fp:Ze}{h₁:Heap}{t':Nat}{m:Str->Option Value}(S:mv X.env.scope scope k N X.N fi)(I:Inv X J6 σ H s)
  (hcl:∀x c,cl.lookup x=some c->X.env.cells.lookup x=some c) (hcf:∀y∈scope.names,y.2=.free->(cl.lookup y.1).isSome=true) (hf:∀b∈fp,mq X J6 H b) (hlt:∀b∈fp,b<s.heap.objs.size)
  (hn:h₁.Ns s.heap.objs.size m) (old:∀b o,s.heap.get? b=some o->h₁.get? b=some o) :
  Inv (dj X N scope s.heap.objs.size cl s H fp (X.pn++J6)) [] (dQ k fi σ) H { s with heap:=h₁,toks:=t' }:=by
 have memOf:∀(l:List (Str×iM)) (x:Str) (kd:iM),l.lookup x=some kd->(x,kd)∈l:=by
  intro l
  induction l with
  |nil=>intro x kd e;cases e
  |cons a r ih =>
   intro x kd e;obtain⟨n,k'⟩:=a;rw[gU]at e;cases hx:x==n with
   |true =>
    rw[hx]at e;have:x=n:=by simpa using hx
    subst this;cases e;exact fg
   |false=>rw[hx]at e;exact ff _ (ih x kd e)
 refine⟨Dd S I hcl hcf hf hlt,rfl,I.bare,Un.kept old,⟨m,hn,fun i x v e1 e2 e3=>?_⟩,fun x c e=>?_,I.hok.fresh (aG _),fun x c e=>I.freeC x c (hcl x c e),fun p hp=>?_,I.hok.kept old,?_⟩
 ·obtain⟨j,t,rfl,ht,hv⟩:=rN e2;obtain⟨y,hy,hXN,hfr⟩:=S.sl j t ht;have e1':N[k+j]?=some x:=e1;rw[hy]at e1';cases e1';have hmem:=memOf _ _ _ hfr;obtain⟨c,hc⟩:=um.mp (hcf _ hmem rfl);have hX:=hcl _ _ hc;obtain⟨mX,hnX,hlX⟩:=I.loc;have kX:=S.fr _ hmem rfl;obtain⟨u,ru,lk⟩:=hlX t x v hXN hv (by rcases kX with z|z;exact .inr (.inl z);exact .inr (.inr z));refine⟨u,ru,.inr ⟨?_,c,hc,?_⟩⟩
  ·exact gm hfr
  ·rcases lk with⟨z,_⟩|⟨_,c',e',q⟩
   ·have z':X.env.scope.names.lookup x=some .local:=z;rcases kX with kX|kX<;>rw[z']at kX<;>cases kX
   ·rw[hX]at e';cases e';obtain⟨o,ho,hd⟩:=q;exact⟨o,old _ o ho,hd⟩
 ·obtain⟨v,o,ho,hd⟩:=I.cell x c (hcl x c e);exact⟨v,o,old _ o ho,hd⟩
 ·rw[d_]at hp;obtain⟨e,n,ne,nf,d⟩:=I.pin p hp;refine⟨old _ _ e,n,b9 (az e),fun z=>?_,d⟩;rcases cR.mp (I.stkSub _ z)with q|q
  ·exact ne q
  ·exact nf q
 ·rw[yf];exact S.len.symm
structure vw(X:Cx)(J6:Zd)(H:Hp)(C:Addr):Prop where
 free:H C=none
 loc:C≠X.env.locals
 young:X.s₀.heap.objs.size<=C
 cells:∀x c,X.env.cells.lookup x=some c->c≠C
 pin:∀p∈X.pn++J6,p.1≠C
theorem rM{elt iter tg:Expr}{ifs:List Expr}{scope:Scope}{pos:Pos}{k:Nat}{N:Zb}{fi:List Nat}{cl:List (Str×Addr)}{g:TG}{tc:TT}{te:TE}{it:Addr}{fp:Ze}{tn:Nat->Heap->Prop}{J:It}{H2:Hp}{s2:Shared}{Q:VK}
  {E:Zc}{RR:Value->Addr->Result->Shared->Prop}
  (S:mv X.env.scope scope k N X.N fi) (hc:X.calm=true) (hcl:∀x c,cl.lookup x=some c->X.env.cells.lookup x=some c) (hcf:∀y∈scope.names,y.2=.free->(cl.lookup y.1).isSome=true)
  (hg:∀C cl s₀ H₀ ex pn,PG (dj X N scope C cl s₀ H₀ ex pn) tg g) (ho:wF k g) (ht:∀C cl s₀ H₀ ex pn,DP (dj X N scope C cl s₀ H₀ ex pn) ifs tc) (he:∀C cl s₀ H₀ ex pn,PE (dj X N scope C cl s₀ H₀ ex pn) elt te)
  (I2:Inv X J6 σ H2 s2) (T:rT X.prog X.w X.K tg J fp it tn) (st2:tn 0 s2.heap) (f2:∀b∈fp,mq X J6 H2 b)
  (hw:∀l,H2 l=none->∃W:Nat->Nat->List V->Hp->Prop,(∃m,W 0 m [] (upd H2 l (.lst [])))/\∀i m vs H2,W i m vs H2->H2 l=some (.lst vs) /\
   ((J.stop i H2/\Q (.ref l) H2)∨(J.go i H2/\∀x H3,J.yld i H2 x H3->g x (dQ k fi σ) H3 fun σ2 H4=>tc σ2 H4 fun b H5 =>
    if b=true then te σ2 H5 fun v H6=>H6 l=some (.lst vs)/\vs.length<aj/\∃m',m'<m/\W (i+1) m' (vs++[v]) (upd H6 l (.lst (vs++[v])))else ∃m',m'<m/\W (i+1) m' vs H5)))
  (hR:∀D C H' s' m',Inv X J6 σ H' s'->s'.heap.Ns C m'->vw X J6 H' C->Q (.ref D) H'->RR (.ref D) C (.ok .next) s') :
  wpAny (model X.prog X.w) X.A (newList []) (fun acc s₃=>wpAny (model X.prog X.w) X.A (newFunctionEnv scope X.env.globals cl [] X.env.qual none .none (some X.env)) (fun cenv s₄ =>
   zzl77 (model X.prog X.w) X.A (.compStart (.ListComp elt [⟨tg,iter,ifs,0⟩] scope pos) 0 (.ref it) acc { cenv with scope:=relabel scope X.env }) (RR acc cenv.locals) s₄) E s₃) E s2:=by
 have hfresh:H2 s2.heap.objs.size=none:=I2.fresh;obtain⟨W,⟨m0,w0⟩,turn⟩:=hw _ hfresh;refine lA (wpAny_newFunctionEnv S.cell (by intro y hy;simp at hy) (fun h₁ hns₁ hsb₁=>?_) S.kind);dsimp only at hns₁ hsb₁ ⊢;have I3:Inv X J6 σ (upd H2 s2.heap.objs.size (.lst [])) { s2 with heap:=s2.heap.push { cls:=.type "list",data:=.seq ([]:Zf).toArray },toks:=s2.toks }:=I2.lnew (ys:=[]) .nil (cQ _);generalize hs3:({ s2 with heap:=s2.heap.push { cls:=.type "list",data:=.seq ([]:Zf).toArray },toks:=s2.toks }:Shared)=s3 at I3;have hh3:s3.heap=s2.heap.push { cls:=.type "list",data:=.seq ([]:Zf).toArray }:=by rw[<-hs3]
 have hsz:s3.heap.objs.size=s2.heap.objs.size+1:=by rw[hh3,jV]
 have hlt:∀b∈fp,b<s2.heap.objs.size:=fun b hb=>by
  obtain⟨o,e,_⟩:=T.obj 0 _ st2 b hb;exact az e
 have f3:∀b∈fp,mq X J6 (upd H2 s2.heap.objs.size (.lst [])) b:=fun b hb=>⟨by rw[ag (b9 (hlt b hb))];exact(f2 b hb).1,(f2 b hb).2⟩;have hlt3:∀b∈fp,b<s3.heap.objs.size:=fun b hb=>by rw[hsz];exact Nat.lt_succ_of_lt (hlt b hb)
 have old:∀b o,s3.heap.get? b=some o->h₁.get? b=some o:=fun b o e=>by
  have hb:b≠s3.heap.objs.size:=b9 (az e);rw[hh3]at e hb;exact hsb₁.extBut b o hb (aS _ e)
 have hns:h₁.Ns s3.heap.objs.size (fun x=>([]:List (Str×Value)).reverse.lookup x):=by rw[hh3];exact hns₁
 have I4:Inv (dj X N scope s3.heap.objs.size cl s3 (upd H2 s2.heap.objs.size (.lst [])) fp (X.pn++J6)) [] (dQ k fi σ) (upd H2 s2.heap.objs.size (.lst [])) { s3 with heap:=h₁,toks:=s2.toks+([]:List (Str×Value)).length } :=
  B9 S I3 hcl hcf f3 hlt3 hns old
 have st4:tn 0 h₁:=T.keep _ _ _ st2 fun b hb o e=>old b o (by rw[hh3];exact aS _ e);generalize hY:dj X N scope s3.heap.objs.size cl s3 (upd H2 s2.heap.objs.size (.lst [])) fp (X.pn++J6)=Y at I4;have yp:Y.prog=X.prog:=by rw[<-hY];rfl
 have yw:Y.w=X.w:=by rw[<-hY];rfl
 have yK:Y.K=X.K:=by rw[<-hY];rfl
 have yA:Y.A=X.A:=by rw[<-hY];rfl
 have yx:Y.xe=XF:=by rw[<-hY];rfl
 have yc:Y.calm=true:=by rw[<-hY];exact hc
 have gY:PG Y tg g:=by rw[<-hY];exact hg _ _ _ _ _ _
 have tY:DP Y ifs tc:=by rw[<-hY];exact ht _ _ _ _ _ _
 have eY:PE Y elt te:=by rw[<-hY];exact he _ _ _ _ _ _
 have yenv:Y.env=compEnvC scope cl s3.heap.objs.size X.env:=by rw[<-hY];rfl
 have fY:∀{H':Hp},(∀b∈fp,H' b=none)->∀b∈fp,mq Y [] H' b:=fun hn b hb=>by
  obtain⟨f0,f1,f2',f3',f4,f5⟩:=f3 b hb;rw[<-hY];refine⟨hn b hb,b9 (hlt3 b hb),fun z=>?_,.inl hb,fun x c e=>f4 x c (hcl x c e),fun p hp=>?_⟩
  ·rcases cR.mp (I3.stkSub _ z)with q|q
   ·exact f1 q
   ·exact f2' q
  ·rw[d_]at hp;exact f5 p hp
 have loop:∀s4:Shared,s4={ s3 with heap:=h₁,toks:=s2.toks+([]:List (Str×Value)).length } ->
   zzl77 (model X.prog X.w) X.A (.compLoop (.ListComp elt [⟨tg,iter,ifs,0⟩] scope pos) 0 (.ref it) (.ref s2.heap.objs.size) Y.env) (RR (.ref s2.heap.objs.size) s3.heap.objs.size) s4:=by
  rintro s4 rfl;refine va (fun n s'=>∃i vs H',Inv Y [] (dQ k fi σ) H' s'/\tn i s'.heap/\(∀b∈fp,H' b=none)/\W i n vs H') ?_ m0 ⟨0,[],_,I4,st4,fun b hb=>(f3 b hb).1,w0⟩;rintro n s5 ⟨i,vs,H5,I5,st5,fr5,w5⟩;obtain⟨hl5,hcase⟩:=turn i n vs H5 w5;rcases hcase with⟨stop,q⟩|⟨go,step⟩
  ·have d:=T.done Y yp yw yK yc i [] s5 _ H5 XF I5 (fY fr5) st5 stop;rw[yA]at d;refine cp d fun r s6 zq0=>?_;obtain⟨hr,I6⟩:=zq0;subst hr;have hu:Un (AY X.stack) fp (upd H2 s2.heap.objs.size (.lst [])) H5 s3.heap s6.heap:=by have:=I6.base;rw[<-hY]at this;exact this
   have ho6:s6.os=s3.os:=by have:=I6.os;rw[<-hY]at this;exact this
   have hok6:kN X.prog X.w X.K H5 s6.heap:=by have:=I6.hok;rw[<-hY]at this;exact this
   have hC6:H5 s3.heap.objs.size=none:=by have:=I6.free;rw[<-hY]at this;exact this
   obtain⟨m6,hn6,_⟩:=I6.loc;have hn6':s6.heap.Ns s3.heap.objs.size m6:=by rw[<-hY]at hn6;exact hn6
   have IX:Inv X J6 σ H5 s6:=I3.call' ho6 hu hok6 I6.bare fun b hb=>by
    obtain⟨f0,f1,f2',f3',f4,f5⟩:=f3 b hb;exact⟨f3',f1,f4,f5⟩
   refine hR _ _ H5 s6 m6 IX hn6' ⟨hC6,c7 I3.lt,I3.sz,fun x c e z=>?_,fun p hp z=>?_⟩ q
   ·obtain⟨v,o,ho,_⟩:=I3.cell x c e;exact absurd (az ho) (by rw[z];exact iQ _)
   ·exact absurd (az (I3.pin p hp).1) (by rw[z];exact iQ _)
  ·have d:=T.item Y yp yw yK yc i [] s5 _ H5 XF I5 (fY fr5) st5 go;rw[yA]at d;refine cp d fun r s6 zq0=>?_;obtain⟨u,hr,h6⟩:=zq0;subst hr;refine cp h6 fun _ s7 zq0=>?_;obtain⟨x,H7,I7,r7,y7,st7,fr7⟩:=zq0;have I7':=I7.pinned (fY fr7) (T.obj _ _ st7);have a7:=gY _ s7 _ H7 x u _ I7' r7 (ho _ _ _ _ (step x H7 y7));rw[yp,yw,yA,yx]at a7;refine cp a7 fun _ s8 zq0=>?_;obtain⟨σ8,H8,I8,q8,l8,k8⟩:=zq0;have a8:=tY _ s8 σ8 H8 _ I8 q8;rw[yp,yw,yA,yx]at a8;have again:∀{H9:Hp}{s9:Shared}{vs':List V}{m':Nat},Inv Y ([]++rk fp s7.heap) σ8 H9 s9->m'<n->W (i+1) m' vs' H9->∃m,m<n/\∃i vs H',Inv Y [] (dQ k fi σ) H' s9/\tn i s9.heap/\(∀b∈fp,H' b=none)/\W i m vs H':=fun{H9 s9 vs' m'} I9 hm w9=>by
    refine⟨m',hm,i+1,vs',H9,(I9.unpinned).weak l8.symm (fun j v e=>?_),T.keep _ _ _ st7 fun b hb o e=>(I9.pin (b,o) (dF _ (dF _ (jz hb e)))).1,fun b hb=>?_,w9⟩
    ·obtain⟨j',t,rfl,_,_⟩:=rN e;rw[k8 _ (qE _ _)];exact e
    ·obtain⟨o,e,_⟩:=T.obj _ _ st7 b hb;exact(I9.pin (b,o) (dF _ (dF _ (jz hb e)))).2.1
   refine cp a8 fun b s9 zq0=>?_;obtain⟨H9,I9,q9⟩:=zq0;cases b with
   |false =>
    rw[if_neg fj]at q9 ⊢;obtain⟨m',hm,w9⟩:=q9;exact again I9 hm w9
   |true =>
    rw[if_pos rfl]at q9 ⊢;have a9:=eY _ s9 σ8 H9 _ I9 q9;rw[yp,yw,yA,yx]at a9;refine cp a9 fun y s10 zq0=>?_;obtain⟨v,H10,I10,r10,hl10,hsz10,m',hm,w10⟩:=zq0;have a10:=cE (X:=Y) _ s10 σ8 H10 (.ref s2.heap.objs.size) [v] (.ref s2.heap.objs.size) [y] (fun z H'=>z=.non/\H'=upd H10 s2.heap.objs.size (.lst (vs++[v]))) I10 rfl (.cons r10 .nil) ⟨_,vs,v,rfl,rfl,hl10,hsz10,rfl,rfl⟩;rw[yp,yw,yA,yx]at a10;refine cp a10 fun _ s11 zq0=>?_;obtain⟨_,H11,I11,_,_,e11⟩:=zq0;subst e11;exact again I11 hm w10
 have hstart:=codeAny_compStart_list (prog:=X.prog) (w:=X.w) (A:=X.A) (elt:=elt) (target:=tg) (iter:=iter) (ifs:=ifs) (rest:=[]) (scope:=scope) (pos:=pos) (it:=.ref it) (acc:=.ref s2.heap.objs.size) (env:=Y.env) (loop _ rfl) (T.self _ 0 _ _ _ st4 (loop _ rfl));rw[yenv]at hstart;rw[<-hs3]at hstart;exact hstart
end
section
variable{X:Cx}
theorem vw.turned{J6:Zd}{σ:St}{H:Hp}{s:Shared}{C:Addr}{h':Heap}(c:vw X J6 H C)(I:Inv X J6 σ H s)(hs:d6 C s.heap h'):Inv X J6 σ H { s with heap:=h' } :=
 I.turned (t':=s.toks) (fun b o hb e=>hs.extBut b o hb e) c.free c.loc (.inr c.young) c.cells c.pin
theorem CY{elt iter tg:Expr}{ifs:List Expr}{scope:Scope}{pos:Pos}{k:Nat}{N:Zb}{fi:List Nat}{wi:TI}{g:TG}{tc:TT}{te:TE}(hS:kL X.env.scope scope k N X.N fi=true)(hc:X.calm=true)(hi:PI X tg iter wi)
  (hg:∀C cl s₀ H₀ ex pn,PG (dj X N scope C cl s₀ H₀ ex pn) tg g) (ho:wF k g) (ht:∀C cl s₀ H₀ ex pn,DP (dj X N scope C cl s₀ H₀ ex pn) ifs tc) (he:∀C cl s₀ H₀ ex pn,PE (dj X N scope C cl s₀ H₀ ex pn) elt te)
  (hs:∀x,vF iter X.env x=pure x:=by intro _;rfl):PE X (.ListComp elt [⟨tg,iter,ifs,0⟩] scope pos) (c9 k fi wi g tc te):=by
 intro J6 s σ H Q I h;have S:=mv.of hS;obtain⟨cl,hclos,hcl,hcf⟩:=rO (env:=X.env) (scope:=scope) fun y hy e=>I.ok.has y.1 (S.fr y hy e);rw[eval_ListComp];refine wpAny_comprehension_free (use:=none) rfl hs hclos S.kind S.nm (cp (hi J6 s σ H _ I h) fun v s1 h1=>cp h1 fun itv s2 h2=>?_);obtain⟨it,fp,tn,J,H2,e,I2,T,st2,f2,hw⟩:=h2;subst e;refine rM (RR:=fun acc C=>compPost (model X.prog X.w) X.A X.xe none (EP X J6 σ Q) acc C) S hc hcl hcf hg ho ht he I2 T st2 f2 hw ?_;intro D C H' s' m' I' hn ce q;exact⟨m',hn,fun h' hs'=>⟨.ref D,H',ce.turned I' hs',rfl,q⟩⟩
theorem xG{elt iter tg:Expr}{ifs:List Expr}{scope:Scope}{pos spos py:Pos}{k:Nat}{N:Zb}{fi:List Nat}{wi:TI}{g:TG}{tc:TT}{te:TE}{j:Nat}{y:Str}(hN:X.N.Nodup)(hj:X.N[j]?=some y)(hy:Loc X.env.scope y)(hS:kL X.env.scope scope k N X.N fi=true)(hc:X.calm=true)(hi:PI X tg iter wi)
  (hg:∀C cl s₀ H₀ ex pn,PG (dj X N scope C cl s₀ H₀ ex pn) tg g) (ho:wF k g) (ht:∀C cl s₀ H₀ ex pn,DP (dj X N scope C cl s₀ H₀ ex pn) ifs tc) (he:∀C cl s₀ H₀ ex pn,PE (dj X N scope C cl s₀ H₀ ex pn) elt te)
  (hsw:oZ (.ListComp elt [⟨tg,iter,ifs,0⟩] scope pos) (some (.Name y py)) spos.line X.env=pure true:=by rfl)
  (hs:∀x,vF iter X.env x=pure x:=by intro _;rfl) (hf:X.fn y=true∨X.env.scope.names.lookup y=some .local:=by first|exact .inl rfl|exact .inr rfl|assumption) :
  PS X (.Assign [.Name y py] (.ListComp elt [⟨tg,iter,ifs,0⟩] scope pos) spos) (bg (c9 k fi wi g tc te) (dD j)):=by
 intro J6 s σ H D I h;have S:=mv.of hS;obtain⟨cl,hclos,hcl,hcf⟩:=rO (env:=X.env) (scope:=scope) fun y hy e=>I.ok.has y.1 (S.fr y hy e);rw[exec_Assign_Name_used _ _ _ _ hsw];refine ai (wpAny_standAt (ai ?_));show wpAny _ X.A (do let _ <- comprehension (.ListComp elt [⟨tg,iter,ifs,0⟩] scope pos) scope X.env _ (newList []) false (eval iter X.env) (some (assign (.Name y py) X.env))) _ _ s
 refine ai (mG (wpAny_comprehension_free (use:=some (assign (.Name y py) X.env)) (Q:=fun _ s'=>SP X J6 D .next s') rfl hs hclos S.kind S.nm
  (cp (hi J6 s σ H _ I h) fun v s1 h1=>cp h1 fun itv s2 h2=>?_)) (fun _ s' hq=>aA (aA hq)) fun _ _ e=>e)
 obtain⟨it,fp,tn,J,H2,e,I2,T,st2,f2,hw⟩:=h2;subst e;refine rM (RR:=fun acc C=>compPost (model X.prog X.w) X.A X.xe (some (assign (.Name y py) X.env)) (fun _ s'=>SP X J6 D .next s') acc C) (Q:=fun x H1=>dD j x σ H1 D.nx) S hc hcl hcf hg ho ht he I2 T st2 f2 hw ?_;intro A C H' s' m' I' hn ce q;show wpAny _ X.A (assign (.Name y py) X.env (.ref A)) _ _ _;refine wpAny_assign_Name (tf I' hN hj hy (v:=.ref A) rfl (fun s'' I'' hsb=>?_) hf);obtain⟨a,hsa,ha⟩:=hsb;have hCa:C≠a:=by
  rcases ha with z|z
  ·rw[z];exact ce.loc
  ·exact cA (ce.cells y a z)
 refine⟨m',hn.sameBut hsa hCa,fun h' hs'=>?_⟩;exact⟨_,H',ce.turned I'' hs',q⟩
end
theorem Inv.turnedNew{X:Cx}{J6:Zd}{σ:St}{H:Hp}{s:Shared}{h2:Heap}{t':Nat}{ch:Ze}{o:HO}(I:Inv X J6 σ H s)(hf:∀b∈ch,mq X J6 H b)
  (k:∀b q,b∉ch->s.heap.get? b=some q->h2.get? b=some q) (hq:∃q,h2.get? s.heap.objs.size=some q) (hno:∀y,o≠.own y) (new:bP X.prog X.w X.K (upd H s.heap.objs.size o) h2 s.heap.objs.size o) :
  Inv X J6 σ (upd H s.heap.objs.size o) { s with heap:=h2,toks:=t' }:=by
 have hn0:H s.heap.objs.size=none:=I.fresh;have nsz:∀b q,s.heap.get? b=some q->b≠s.heap.objs.size:=fun b q e=>b9 (az e);have tr:∀b u,H b=some u->b∉ch:=fun b u e z=>by rw[(hf b z).1]at e;cases e
 refine I.step (g':=s.gens) (d':=s.drawn) (ch:=ch) (fun b hb=>?_) (fun b q _ _ hc e _=>k b q hc e) (fun b q _ _ hc e _=>⟨q.slots,k b q hc e⟩) (fun b q _ e n=>by rw[ag (nsz b q e)];exact n) (fun b q hc e=>⟨q,k b q hc e⟩)
  (fun b xs e=>by rw[ag (ae e hn0)];exact e) (fun b q u e=>by rw[ag (ae e hn0)];exact e) (fun b ps e=>⟨#[],by rw[ag (ae e hn0),e];simp⟩) (fun m hm=>?_) (fun b u e=>?_) I.bare
 ·obtain⟨f0,f1,f2,f3,f4,f5⟩:=hf b hb;exact⟨f3,f1,f4,f5⟩
 ·obtain⟨q,es,ep,ho,r⟩:=hm;exact⟨q,es,ep,k _ q (fun z=>(hf _ z).2.1 rfl) ho,r⟩
 ·by_cases hb:b=s.heap.objs.size
  ·subst hb;rw[aa]at e;cases e;exact new
  ·rw[ag hb]at e;refine(I.hok b u e).stay (fun c v hc q=>k c v ?_ q) (fun c q=>by rw[ag (ae q hn0)];exact q) fun c xs q=>by rw[ag (ae q hn0)];exact q
   rcases hc with z|z
   ·subst z;exact tr _ _ e
   ·exact tr _ _ z
def Fi(K:Za)(a:Addr):It :=
 ⟨fun i H=>∃xs x,aw K H a xs/\xs[i]?=some x,fun i H x H'=>∃p v,x=.ref p/\H p=none/\(∀xs,aw K H a xs->xs[i]?=some v)/\H'=upd H p (.tup [.int i,v]),fun i H=>∃xs,aw K H a xs/\xs.length<=i⟩
theorem z0{P:bx}{w:World}{K:Za}{es:List Expr}{kx:Nat}{U0:Pos}(a e it:Addr)(hne:e≠it):
  rT P w K (.Tuple es kx U0) (Fi K a) [e,it] e (fun i h=>(∃old,IsEnum h e it i old)/\h.IsListIter it a i) where
 mem:=by simp
 obj:=fun i h st b hb=>by
  obtain⟨⟨old,he⟩,o,ho,hc,hd⟩:=st;rcases cR.mp hb with z|z
  ·subst z;exact⟨_,he,fun v z=>by cases z⟩
  ·have z':b=it:=by simpa using z
   subst z';exact⟨o,ho,fun v z=>by rw[hd]at z;cases z⟩
 keep:=fun i h h' st k=>⟨let⟨old,he⟩:=st.1;⟨old,k e (by simp) _ he⟩,st.2.at fun o e=>k it (by simp) o e⟩
 item:=by
  intro X hP hw hK hc i J6 s σ H E I hf st hg;subst hP hw hK;obtain⟨⟨old,he⟩,hit⟩:=st;obtain⟨xs,x,hq,hx⟩:=hg;obtain⟨its,rv,p,hz⟩:=I.list hq;obtain⟨u,hu,ru⟩:=rv.get hx;obtain⟨e0,e1,e2,e3,e4,e5⟩:=hf e (by simp);obtain⟨f0,f1,f2,f3,f4,f5⟩:=hf it (by simp);refine wpAny_pyNext_enum_item he hit p.isList (x:=u) (by simpa using hu) hne fun h' ho' hit' ht' hsz' hk'=>?_;refine⟨_,rfl,wpAny_letOwnedTupleGo_enum (s:={ s with heap:=h',toks:=s.toks+1 }) ho' fun h2 he2 hs2=>?_⟩;have hs2':d6 e h' h2:=hs2;have hpe:s.heap.objs.size≠e:=c7 (az he);have ht2:h2.get? s.heap.objs.size=some { cls:=.type "tuple",data:=.seq #[.int i s.toks,u] }:=hs2'.extBut _ _ hpe ht';have hn0:H s.heap.objs.size=none:=I.fresh;have hue:upd H s.heap.objs.size (.tup [.int i,x]) e=none:=by rw[ag (cA hpe)];exact e0
  have hpi:s.heap.objs.size≠it:=by
   obtain⟨o,ho,_⟩:=hit;exact c7 (az ho)
  have hui:upd H s.heap.objs.size (.tup [.int i,x]) it=none:=by rw[ag (cA hpi)];exact f0
  have I2:Inv X J6 σ (upd H s.heap.objs.size (.tup [.int i,x])) { s with heap:=h2,toks:=s.toks+1 }:=by
   refine I.turnedNew (ch:=[e,it]) hf (fun b o hb q=>?_) ⟨_,ht2⟩ (fun _ z=>nomatch z) ⟨by show 2<=aj;decide,[.int i s.toks,u],.cons ⟨_,rfl⟩ (.cons ru .nil),⟨_,ht2,rfl,_,rfl⟩⟩;have nb1:b≠e:=fun z=>hb (by simp[z]);have nb2:b≠it:=fun z=>hb (by simp[z]);exact hs2'.extBut _ _ nb1 (hk' b o nb1 nb2 q)
  refine⟨.ref s.heap.objs.size,_,I2,rfl,⟨_,x,rfl,hn0,fun ys hy=>by rw[I.list_inj hy hq];exact hx,rfl⟩,⟨⟨u,by simpa using he2⟩,hit'.at fun o y=>(hs2'.2 it (cA hne)).trans y⟩,fun b hb=>?_⟩;rcases cR.mp hb with z|z
  ·subst z;exact hue
  ·have z':b=it:=by simpa using z
   subst z';exact hui
 done:=by
  intro X hP hw hK hc i J6 s σ H E I hf st hg;subst hP hw hK;obtain⟨⟨old,he⟩,hit⟩:=st;obtain⟨xs,hq,hx⟩:=hg;obtain⟨its,rv,p,hz⟩:=I.list hq;obtain⟨f0,f1,f2,f3,f4,f5⟩:=hf it (by simp);have hl:=rv.length;exact wpAny_pyNext_enum_end (I.ok.hd hc) he hit p.isList (by simp;omega) fun h' eb=>⟨rfl,I.turned (t':=s.toks) (fun b o hb e=>eb b o hb e) f0 f1 f3 f4 f5⟩
 self:=fun _ _ _ _ _ st h=>let⟨_,he⟩:=st.1;wpAny_pyIter_enum he h
section
variable{X:Cx}{p pos:Pos}{es:List Expr}{kx:Nat}{U0:Pos}
def tJ(K:Za)(ta:TA):TI:=fun σ H R=>ta σ H fun vs H1=>∃a,vs=[.ref a]/\(∃xs,aw K H1 a xs)/\R (Fi K a) H1
theorem m_{a:Expr}{ta:TA}(hg:Gl X "enumerate")(hm:X.mg "enumerate"=none)(ha:PA X [a] ta)(hs:ay [a] X.env=[(false,eval a X.env)]:=by rfl):PI X (.Tuple es kx U0) (.Call (.Name "enumerate" p) [a] [] pos) (tJ X.K ta):=by
 intro J6 s σ H R I h;refine Call_ (jA I hg hm boot_enumerate (qg (cp (ha pos J6 s σ H _ I h) fun us s1 zq0=>?_) hs rfl));obtain⟨vs,H1,I1,r1,q1⟩:=zq0;obtain⟨l,e,⟨xs,hq⟩,q⟩:=q1;subst e;obtain⟨u,rfl,ru⟩:=vals1 r1;cases ru;obtain⟨its,rv,pl,hz⟩:=I1.list hq;refine call_enumerate_list pl.isList fun h' he hit hsz hk=>?_;refine wpAny_pyIter_enum (s:={ s1 with heap:=h' }) he ?_;have hk':∀b o,s1.heap.get? b=some o->h'.get? b=some o:=hk;have I2:Inv X J6 σ H1 { s1 with heap:=h' }:=I1.kept (t':=s1.toks) hk';refine⟨_,[s1.heap.objs.size+1,s1.heap.objs.size],_,_,H1,rfl,I2,z0 l _ _ (Nat.succ_ne_self _),⟨⟨_,he⟩,hit⟩,fun b hb=>?_,q⟩;have hb':s1.heap.objs.size<=b:=by
  rcases cR.mp hb with z|z
  ·rw[z];exact yD _
  ·have z':b=s1.heap.objs.size:=by simpa using z
   rw[z'];exact aG _
 exact I1.fpOk hb' (I1.hok.fresh hb')
end
def FD(x:Str):It:=⟨fun i _=>i<x.cps.size,fun i H y H'=>H'=H/\∃c,x.cps[i]?=some c/\y=.str ⟨#[c]⟩,fun i _=>x.cps.size<=i⟩
theorem wX{P:bx}{w:World}{K:Za}{tg:Expr}(x:Str)(t:Tok)(it:Addr):rT P w K tg (FD x) [it] it (fun i h=>h.IsStrIter it "str_ascii_iterator" x t i) where
 mem:=by simp
 obj:=fun i h st b hb=>by
  have e:b=it:=by simpa using hb
  subst e;obtain⟨o,e,c,d⟩:=st;exact⟨o,e,fun v z=>by rw[d]at z;cases z⟩
 keep:=fun i h h' st k=>by
  obtain⟨o,e,c,d⟩:=st;exact⟨o,k it (by simp) o e,c,d⟩
 item:=by
  intro X hP hw hK hc i J6 s σ H E I hf st hg;subst hP hw hK;have hlt:i<x.cps.size:=hg;obtain⟨f0,f1,f2,f3,f4,f5⟩:=hf it (by simp);have hx:x.cps[i]?=some x.cps[i]:=by simp[hlt]
  refine wpAny_pyNext_ascii_item st hx fun h' st' sb=>?_;have I1:Inv X J6 σ H { s with heap:=h',toks:=s.toks+1 }:=I.turned (t':=s.toks+1) (fun b o hb e=>(sb.2 b hb).trans e) f0 f1 f3 f4 f5;obtain⟨o,e,c,d⟩:=id st';exact⟨_,rfl,wr (s:={ s with heap:=h',toks:=s.toks+1 }) e c d (by decide) ⟨.str ⟨#[x.cps[i]]⟩,H,I1,⟨_,rfl⟩,⟨rfl,_,hx,rfl⟩,st',fun b hb=>(hf b hb).1⟩⟩
 done:=by
  intro X hP hw hK hc i J6 s σ H E I hf st hg;subst hP hw hK;have hge:x.cps.size<=i:=hg;obtain⟨f0,f1,f2,f3,f4,f5⟩:=hf it (by simp);exact wpAny_pyNext_ascii_end (I.ok.hd hc) st (by simp;omega) fun h' eb=>⟨rfl,I.turned (t':=s.toks) (fun b o hb e=>eb b o hb e) f0 f1 f3 f4 f5⟩
 self:=fun _ _ _ _ _ st h=>wpAny_pyIter_striter_ascii st h
theorem zZ{P:bx}{w:World}{K:Za}{tg:Expr}(x:Str)(t:Tok)(it:Addr):rT P w K tg (FD x) [it] it (fun i h=>h.IsStrIter it "str_iterator" x t i) where
 mem:=by simp
 obj:=fun i h st b hb=>by
  have e:b=it:=by simpa using hb
  subst e;obtain⟨o,e,c,d⟩:=st;exact⟨o,e,fun v z=>by rw[d]at z;cases z⟩
 keep:=fun i h h' st k=>by
  obtain⟨o,e,c,d⟩:=st;exact⟨o,k it (by simp) o e,c,d⟩
 item:=by
  intro X hP hw hK hc i J6 s σ H E I hf st hg;subst hP hw hK;have hlt:i<x.cps.size:=hg;obtain⟨f0,f1,f2,f3,f4,f5⟩:=hf it (by simp);have hx:x.cps[i]?=some x.cps[i]:=by simp[hlt]
  refine wpAny_pyNext_wide_item st hx fun h' st' sb=>?_;have I1:Inv X J6 σ H { s with heap:=h',toks:=s.toks+1 }:=I.turned (t':=s.toks+1) (fun b o hb e=>(sb.2 b hb).trans e) f0 f1 f3 f4 f5;obtain⟨o,e,c,d⟩:=id st';exact⟨_,rfl,wr (s:={ s with heap:=h',toks:=s.toks+1 }) e c d (by decide) ⟨.str ⟨#[x.cps[i]]⟩,H,I1,⟨_,rfl⟩,⟨rfl,_,hx,rfl⟩,st',fun b hb=>(hf b hb).1⟩⟩
 done:=by
  intro X hP hw hK hc i J6 s σ H E I hf st hg;subst hP hw hK;have hge:x.cps.size<=i:=hg;obtain⟨f0,f1,f2,f3,f4,f5⟩:=hf it (by simp);exact wpAny_pyNext_wide_end (I.ok.hd hc) st (by simp;omega) fun h' eb=>⟨rfl,I.turned (t':=s.toks) (fun b o hb e=>eb b o hb e) f0 f1 f3 f4 f5⟩
 self:=fun _ _ _ _ _ st h=>wpAny_pyIter_striter_wide st h
section
variable{X:Cx}{p pos:Pos}{tg:Expr}
def E_(tl:TE):TI:=fun σ H R=>tl σ H fun v H1=>∃x,v=.str x/\R (FD x) H1
theorem Ea{l:Expr}{tl:TE}(hl:PE X l tl):PI X tg l (E_ tl):=by
 intro J6 s σ H R I h;refine cp (hl J6 s σ H _ I h) fun v s1 zq0=>?_;obtain⟨y,H1,I1,r1,q1⟩:=zq0;obtain⟨x,e,q⟩:=q1;subst e;obtain⟨t,rfl⟩:=r1;have fin:∀b∈[s1.heap.objs.size],mq X J6 H1 b:=fun b hb=>by
  have e:b=s1.heap.objs.size:=by simpa using hb
  subst e;exact I1.fpOk (aG _) (I1.hok.fresh (aG _))
 cases ha:x.cps.all (·<128)
 ·refine wpAny_pyIter_wide ha ?_;exact⟨s1.heap.objs.size,[s1.heap.objs.size],_,_,H1,rfl,I1.kept (t':=s1.toks) fun b o e=>aS _ e,zZ x t _,⟨_,cz _ rfl,rfl,rfl⟩,fin,q⟩
 ·refine wpAny_pyIter_ascii ha ?_;exact⟨s1.heap.objs.size,[s1.heap.objs.size],_,_,H1,rfl,I1.kept (t':=s1.toks) fun b o e=>aS _ e,wX x t _,⟨_,cz _ rfl,rfl,rfl⟩,fin,q⟩
end
def Fh(K:Za)(a b:Addr):It :=
  ⟨fun i H=>∃xs ys x y,aw K H a xs/\aw K H b ys/\xs[i]?=some x/\ys[i]?=some y,
   fun i H x H'=>∃p u v,x=.ref p/\H p=none/\(∀xs,aw K H a xs->xs[i]?=some u)/\(∀ys,aw K H b ys->ys[i]?=some v)/\H'=upd H p (.tup [u,v]),
   fun i H=>∃xs ys,aw K H a xs/\aw K H b ys/\(xs.length<=i∨ys.length<=i)⟩
theorem A8{P:bx}{w:World}{K:Za}{es:List Expr}{kx:Nat}{U0:Pos}(a b z TI TO i1 i2:Addr)(D:fo z TI TO i1 i2 a b):
  rT P w K (.Tuple es kx U0) (Fh K a b) [z,TI,TO,i1,i2] z (fun i h=>IsZip h z TI TO .none/\IsPair h TI (.ref i1) (.ref i2)/\(∃a b,IsPair h TO a b)/\h.IsListIter i1 a i/\h.IsListIter i2 b i) where
 mem:=by simp
 obj:=fun i h st c hc=>by
  obtain⟨hz,hTI,⟨u,v,hTO⟩,h1,h2⟩:=st;simp only[cR,qD,or_false]at hc;rcases hc with rfl|rfl|rfl|rfl|rfl
  ·exact⟨_,hz,fun v z=>by cases z⟩
  ·exact⟨_,hTI,fun v z=>by cases z⟩
  ·exact⟨_,hTO,fun v z=>by cases z⟩
  ·obtain⟨o,e,c,d⟩:=h1;exact⟨o,e,fun v z=>by rw[d]at z;cases z⟩
  ·obtain⟨o,e,c,d⟩:=h2;exact⟨o,e,fun v z=>by rw[d]at z;cases z⟩
 keep:=fun i h h' st k=>by
  obtain⟨hz,hTI,⟨u,v,hTO⟩,h1,h2⟩:=st;exact⟨k z (by simp) _ hz,k TI (by simp) _ hTI,⟨u,v,k TO (by simp) _ hTO⟩,h1.at fun o e=>k i1 (by simp) o e,h2.at fun o e=>k i2 (by simp) o e⟩
 item:=by
  intro X hP hw hK hc i J6 s σ H E I hf st hg;subst hP hw hK;obtain⟨hz,hTI,⟨u0,v0,hTO⟩,h1,h2⟩:=st;obtain⟨xs,ys,x,y,hqx,hqy,hx,hy⟩:=hg;obtain⟨its,rx,px,zx⟩:=I.list hqx;obtain⟨jts,ry,py,zy⟩:=I.list hqy;obtain⟨u,hu,ru⟩:=rx.get hx;obtain⟨v,hv,rv⟩:=ry.get hy;refine wpAny_pyNext_zip_item D hz hTI hTO h1 h2 px.isList py.isList (x:=u) (y:=v) (by simpa using hu) (by simpa using hv) fun h' a1 a2 a3 a4 a5 a6 hk=>?_;refine⟨_,rfl,wpAny_letOwnedTupleGo_zip (s:={ s with heap:=h' }) a1 fun h2' hz2 hs2=>?_⟩;have hs2':d6 z h' h2':=hs2;have nsz:s.heap.objs.size≠z:=c7 (az hz);have nsTO:s.heap.objs.size≠TO:=c7 (az hTO);have nsTI:s.heap.objs.size≠TI:=c7 (az hTI);have nsi1:s.heap.objs.size≠i1:=by obtain⟨o,ho,_⟩:=h1;exact c7 (az ho)
  have nsi2:s.heap.objs.size≠i2:=by obtain⟨o,ho,_⟩:=h2;exact c7 (az ho)
  have ht2:IsPair h2' s.heap.objs.size u v:=hs2'.extBut _ _ nsz a5;have I2:Inv X J6 σ (upd H s.heap.objs.size (.tup [x,y])) { s with heap:=h2',toks:=s.toks }:=by
   refine I.turnedNew (ch:=[z,TI,TO,i1,i2]) hf (fun c o hc q=>?_) ⟨_,ht2⟩ (fun _ z=>nomatch z) ⟨by show 2<=aj;decide,[u,v],.cons ru (.cons rv .nil),⟨_,ht2,rfl,_,rfl⟩⟩;have n1:c≠z:=fun q=>hc (by simp[q]);exact hs2'.extBut _ _ n1 (hk c o n1 (fun q=>hc (by simp[q])) (fun q=>hc (by simp[q])) (fun q=>hc (by simp[q])) q)
  refine⟨.ref s.heap.objs.size,_,I2,rfl,⟨_,x,y,rfl,I.fresh,fun zs hz=>by rw[I.list_inj hz hqx];exact hx,fun zs hz=>by rw[I.list_inj hz hqy];exact hy,rfl⟩,⟨hz2,hs2'.extBut _ _ D.TIz (hk _ _ D.TIz D.TITO D.TIi1 D.TIi2 hTI),⟨_,_,hs2'.extBut _ _ D.TOz a2⟩,a3.at fun o e=>hs2'.extBut _ _ D.i1z e,a4.at fun o e=>hs2'.extBut _ _ D.i2z e⟩,fun c hc=>?_⟩;have hcn:=(hf c hc).1;simp only[cR,qD,or_false]at hc;have ne:c≠s.heap.objs.size:=by
   rcases hc with rfl|rfl|rfl|rfl|rfl
   ·exact nsz.symm
   ·exact nsTI.symm
   ·exact nsTO.symm
   ·exact nsi1.symm
   ·exact nsi2.symm
  rw[ag ne];exact hcn
 done:=by
  intro X hP hw hK hc i J6 s σ H E I hf st hg;subst hP hw hK;obtain⟨hz,hTI,⟨u0,v0,hTO⟩,h1,h2⟩:=st;obtain⟨xs,ys,hqx,hqy,hend⟩:=hg;obtain⟨its,rx,px,zx⟩:=I.list hqx;obtain⟨jts,ry,py,zy⟩:=I.list hqy;have lx:=rx.length;have ly:=ry.length;refine wpAny_pyNext_zip_end (I.ok.hd hc) D hz hTI hTO h1 h2 px.isList py.isList (by rcases hend with q|q;exact .inl (by simp;omega);exact .inr (by simp;omega)) fun h' hk=>⟨rfl,?_⟩;have tr:∀c q,H c=some q->c∉[z,TI,TO,i1,i2]:=fun c q e m=>by rw[(hf c m).1]at e;cases e
  have kk:∀c o,c∉[z,TI,TO,i1,i2]->s.heap.get? c=some o->h'.get? c=some o:=fun c o hc q=>hk c o (fun q=>hc (by simp[q])) (fun q=>hc (by simp[q])) (fun q=>hc (by simp[q])) (fun q=>hc (by simp[q])) q;refine I.step (g':=s.gens) (d':=s.drawn) (t':=s.toks) (ch:=[z,TI,TO,i1,i2]) (fun c hc=>?_) (fun c o _ _ hc e _=>kk c o hc e) (fun c o _ _ hc e _=>⟨o.slots,kk c o hc e⟩) (fun _ _ _ _ n=>n) (fun c o hc e=>⟨o,kk c o hc e⟩) (fun _ _ e=>e) (fun _ _ _ e=>e) (fun c ps e=>⟨#[],by rw[e];simp⟩) (fun m hm=>?_) (fun c q e=>?_) I.bare
  ·obtain⟨f0,f1,f2,f3,f4,f5⟩:=hf c hc;exact⟨f3,f1,f4,f5⟩
  ·obtain⟨q,es',ep,ho,r⟩:=hm;exact⟨q,es',ep,kk _ q (fun z=>(hf _ z).2.1 rfl) ho,r⟩
  ·refine(I.hok c q e).stay (fun d v hd q'=>kk d v ?_ q') (fun _ q=>q) fun _ _ q=>q;rcases hd with z|z
   ·subst z;exact tr _ _ e
   ·exact tr _ _ z
 self:=fun _ _ _ _ _ st h=>qC st.1 h
section
variable{prog:bx}{w:World}{A:Around}{E:Zc}{s:Shared}
theorem jx{it t:Addr}{i:Nat}{items:Array Value}{x:Value}{Q:Zc}(st:s.heap.IsTupleIter it t i)(tt:s.heap.IsTuple t items)(hx:items[i]?=some x)
  (k:∀h',h'.IsTupleIter it t (i+1)->d6 it s.heap h'->Q x { s with heap:=h' }):wpAny (model prog w) A (f6 (.ref it)) Q E s:=by
 obtain⟨oi,gi,ci,di⟩:=id st;obtain⟨ot,gt,_,nt,dt⟩:=tt;unfold f6;refine ai (j3 (name:=jg "__next__") st.typeIs ud
  (pk ud st.typeIs F.entry_tuple_iterator_next ?_ (F.args_tuple_iterator_next_1 _)))
 show wpAny _ _ (field (.ref it) 0 >>= _) _ _ s;refine ai (cC gi di (x:=.ref t) rfl ?_);show wpAny _ _ (if(Value.ref t==Value.none)=true then _ else _) _ _ s
 rw[if_neg (show ¬((Value.ref t==Value.none)=true)from fj)];show wpAny _ _ (field (.ref it) 1 >>= _) _ _ s;refine ai (cC gi di (x:=.int i 0) rfl ?_);show wpAny _ _ (seqItems? (.ref t) >>= _) _ _ s;refine ai (iR gt dt ?_);simp only[jh,hx];refine ai (wpAny_setField gi di (by simp) (aA ⟨x,rfl,aA (k _ ?_ (n6 ..))⟩));exact⟨_,j6 _ gi (Obj.isFreed_of_fields (Obj.data_mapFields di _)),(Obj.cls_mapFields ..).trans ci,by
  rw[Obj.data_mapFields di];simp[rawInt]⟩
theorem o_{it t:Addr}{i:Nat}{items:Array Value}{Q:Zc}(hh:A.handled=none)(st:s.heap.IsTupleIter it t i)(tt:s.heap.IsTuple t items)(hx:items[i]?=none)
  (k:∀h' e,Heap.ExtBut it s.heap h'->(∃o,h'.get? e=some o/\o.cls=.type "StopIteration")->E (.ref e) { s with heap:=h' }):wpAny (model prog w) A (f6 (.ref it)) Q E s:=by
 obtain⟨oi,gi,ci,di⟩:=id st;obtain⟨ot,gt,_,nt,dt⟩:=tt;unfold f6;refine ai (j3 (name:=jg "__next__") st.typeIs ud
  (pk ud st.typeIs F.entry_tuple_iterator_next ?_ (F.args_tuple_iterator_next_1 _)))
 show wpAny _ _ (field (.ref it) 0 >>= _) _ _ s;refine ai (cC gi di (x:=.ref t) rfl ?_);show wpAny _ _ (if(Value.ref t==Value.none)=true then _ else _) _ _ s
 rw[if_neg (show ¬((Value.ref t==Value.none)=true)from fj)];show wpAny _ _ (field (.ref it) 1 >>= _) _ _ s;refine ai (cC gi di (x:=.int i 0) rfl ?_);show wpAny _ _ (seqItems? (.ref t) >>= _) _ _ s;refine ai (iR gt dt ?_);simp only[jh,hx];refine ai (mI (ai (wpAny_setField gi di (by simp) ?_)));show wpAny _ _ (newExc (.type "StopIteration") [] >>= _) _ _ _;refine ai ?_;simp only[newExc,newTuple];refine ai (lA ?_ (by size_fits));refine ai (m:=uc _ _) (wpAny_of_eq (a:=Value.none) (by first|rfl|(simp only[uc];rfl)) ?_)
 refine lA ?_ (by size_fits);simp only[raiseNew];refine ai (wpAny_handled ?_)
 first|rw[show A.in1.handled=none from hh] | rw[hh]
 refine ai (aA (wpAny_throw ?_));exact k _ _ (((n6 ..).extBut.push _).push _) ⟨_,cz _ rfl,rfl⟩
theorem zX{z TI TO i1 i2 l1 l2:Addr}{k1 k2:Nat}{xs ys:Array Value}{x y a b:Value}{Q:Zc}(D:fo z TI TO i1 i2 l1 l2)
  (gz:IsZip s.heap z TI TO .none) (gI:IsPair s.heap TI (.ref i1) (.ref i2)) (gO:IsPair s.heap TO a b)
  (g1:s.heap.IsTupleIter i1 l1 k1) (g2:s.heap.IsTupleIter i2 l2 k2) (t1:s.heap.IsTuple l1 xs) (t2:s.heap.IsTuple l2 ys) (hx:xs[k1]?=some x) (hy:ys[k2]?=some y)
  (k:∀h',IsZip h' z TI TO (rawInt s.heap.objs.size)->IsPair h' TO x y->h'.IsTupleIter i1 l1 (k1+1)->h'.IsTupleIter i2 l2 (k2+1)->IsPair h' s.heap.objs.size x y->h'.objs.size=s.heap.objs.size+1 ->
   (∀c o,c≠z->c≠TO->c≠i1->c≠i2->s.heap.get? c=some o->h'.get? c=some o)->Q (.ref s.heap.objs.size) { s with heap:=h' }) :
  wpAny (model prog w) A (aY.«zip.__next__» ⟨[.ref z],[]⟩) (fun fin s'=>∃v,fin=.done (.ret v)/\Q v s') E s:=by
 show wpAny _ _ (field (.ref z) 2 >>= _) _ _ _;refine ai (cC gz rfl (x:=.bool false) rfl ?_);show wpAny _ _ (field (.ref z) 3 >>= _) _ _ _;refine ai (cC gz rfl (x:=.ref TI) rfl ?_);refine ai (iR gI rfl ?_);show wpAny _ _ (jZ (.ref z) >>= _) _ _ _;refine ai ?_;unfold jZ;refine ai (cC gz rfl (x:=.none) rfl (aA ?_));simp only[if_true];refine ai (mI ?_);refine ai (cC gz rfl (x:=.ref TO) rfl ?_);refine ai (fZ gz (by simp) fun m₁ gz₁ u₁=>?_)
 replace gz₁:IsZip m₁ z TI TO .ellipsis:=gz₁
 refine ai ?_;simp only[List.zipIdx_cons,List.zipIdx_nil,lB,ub];refine ai (ai (t_ ?_));show wpAny _ _ (f6 (.ref i1) >>= _) _ _ _;refine ai (jx (g1.extBut u₁.extBut D.i1z) (t1.extBut u₁.extBut D.l1z) hx fun m₂ g1₂ u₂=>aA ?_);have gO₂:IsPair m₂ TO a b:=u₂.extBut _ _ D.TOi1 (u₁.extBut _ _ D.TOz gO);refine ai (iR gO₂ rfl ?_);refine ai (wpAny_updateSeq_pair gO₂ fun m₃ gO₃ u₃=>?_)
 replace gO₃:IsPair m₃ TO x b:=gO₃
 refine ai (qA (aA ?_));refine ai (ai (t_ ?_));show wpAny _ _ (f6 (.ref i2) >>= _) _ _ _;refine ai (jx (((g2.extBut u₁.extBut D.i2z).extBut u₂.extBut D.i12.symm).extBut u₃.extBut D.TOi2.symm)
  (((t2.extBut u₁.extBut D.l2z).extBut u₂.extBut D.l2i1).extBut u₃.extBut D.l2TO) hy fun m₄ g2₄ u₄=>aA ?_)
 have gO₄:IsPair m₄ TO x b:=u₄.extBut _ _ D.TOi2 gO₃;refine ai (iR gO₄ rfl ?_);refine ai (wpAny_updateSeq_pair gO₄ fun m₅ gO₅ u₅=>?_)
 replace gO₅:IsPair m₅ TO x y:=gO₅
 refine ai (qA (aA (aA ?_)));refine ai (iR gO₅ rfl ?_);refine ai (wpAny_newTuple ?_);have esz:m₅.objs.size=s.heap.objs.size:=by rw[u₅.1,u₄.1,u₃.1,u₂.1,u₁.1]
 have gz₅:IsZip m₅ z TI TO .ellipsis:=u₅.extBut _ _ D.TOz.symm (u₄.extBut _ _ D.i2z.symm (u₃.extBut _ _ D.TOz.symm (u₂.extBut _ _ D.i1z.symm gz₁)));have kp₅:∀c o,c≠z->c≠TO->c≠i1->c≠i2->s.heap.get? c=some o->m₅.get? c=some o:=fun c o c1 c2 c3 c4 e =>
  u₅.extBut _ _ c2 (u₄.extBut _ _ c4 (u₃.extBut _ _ c2 (u₂.extBut _ _ c3 (u₁.extBut _ _ c1 e))))
 have g1₅:m₅.IsTupleIter i1 l1 (k1+1):=((g1₂.extBut u₃.extBut D.TOi1.symm).extBut u₄.extBut D.i12).extBut u₅.extBut D.TOi1.symm;have g2₅:m₅.IsTupleIter i2 l2 (k2+1):=g2₄.extBut u₅.extBut D.TOi2.symm;have zlt:z<m₅.objs.size:=az gz₅;show wpAny _ _ (aY.SmallTypes.ownedTupleHandOut (.ref z) (.ref m₅.objs.size) >>= _) _ _ _;refine ai ?_;unfold aY.SmallTypes.ownedTupleHandOut;have gz₆:IsZip (m₅.push { cls:=.type "tuple",data:=.seq #[x,y] }) z TI TO .ellipsis:=aS _ gz₅;refine ai (fZ gz₆ (by simp) fun m₇ gz₇ u₇=>?_)
 replace gz₇:IsZip m₇ z TI TO (rawInt m₅.objs.size):=gz₇
 refine fZ gz₇ (by simp) fun m₈ gz₈ u₈=>?_
 replace gz₈:IsZip m₈ z TI TO (rawInt m₅.objs.size):=gz₈
 have up:∀c o,c≠z->m₅.get? c=some o->m₈.get? c=some o:=fun c o c1 e=>u₈.extBut _ _ c1 (u₇.extBut _ _ c1 (aS _ e));have gT₈:IsPair m₈ m₅.objs.size x y:=u₈.extBut _ _ (c7 zlt) (u₇.extBut _ _ (c7 zlt) (cz _ rfl));have ez8:m₈.objs.size=m₅.objs.size+1:=by rw[u₈.1,u₇.1,jV]
 rw[esz]at gz₈ gT₈ ez8;refine aA ⟨_,rfl,?_⟩;show Q (.ref m₅.objs.size) _;rw[esz];refine k m₈ gz₈ (up _ _ D.TOz gO₅) ?_ ?_ gT₈ ez8 fun c o c1 c2 c3 c4 e=>up c o c1 (kp₅ c o c1 c2 c3 c4 e)
 ·obtain⟨o,e,r⟩:=g1₅;exact⟨o,up _ o D.i1z e,r⟩
 ·obtain⟨o,e,r⟩:=g2₅;exact⟨o,up _ o D.i2z e,r⟩
theorem A2{z TI TO i1 i2 l1 l2:Addr}{k1 k2:Nat}{xs ys:Array Value}{a b:Value}{Q:Fin->Shared->Prop}(hh:A.handled=none)(D:fo z TI TO i1 i2 l1 l2)
  (gz:IsZip s.heap z TI TO .none) (gI:IsPair s.heap TI (.ref i1) (.ref i2)) (gO:IsPair s.heap TO a b)
  (g1:s.heap.IsTupleIter i1 l1 k1) (g2:s.heap.IsTupleIter i2 l2 k2) (t1:s.heap.IsTuple l1 xs) (t2:s.heap.IsTuple l2 ys) (fin:xs[k1]?=none∨ys[k2]?=none)
  (k:∀h' e,(∀c o,c≠z->c≠TO->c≠i1->c≠i2->s.heap.get? c=some o->h'.get? c=some o)->(∃o,h'.get? e=some o/\o.cls=.type "StopIteration")->E (.ref e) { s with heap:=h' }) :
  wpAny (model prog w) A (aY.«zip.__next__» ⟨[.ref z],[]⟩) Q E s:=by
 show wpAny _ _ (field (.ref z) 2 >>= _) _ _ _;refine ai (cC gz rfl (x:=.bool false) rfl ?_);show wpAny _ _ (field (.ref z) 3 >>= _) _ _ _;refine ai (cC gz rfl (x:=.ref TI) rfl ?_);refine ai (iR gI rfl ?_);show wpAny _ _ (jZ (.ref z) >>= _) _ _ _;refine ai ?_;unfold jZ;refine ai (cC gz rfl (x:=.none) rfl (aA ?_));simp only[if_true];refine ai (mI ?_);refine ai (cC gz rfl (x:=.ref TO) rfl ?_);refine ai (fZ gz (by simp) fun m₁ gz₁ u₁=>?_)
 replace gz₁:IsZip m₁ z TI TO .ellipsis:=gz₁
 refine ai ?_;simp only[List.zipIdx_cons,List.zipIdx_nil,lB,ub];refine ai (ai (t_ ?_));show wpAny _ _ (f6 (.ref i1) >>= _) _ _ _;cases hx:xs[k1]? with
 |none =>
  refine ai (o_ hh (g1.extBut u₁.extBut D.i1z) (t1.extBut u₁.extBut D.l1z) hx fun m₂ e u₂ he=>?_);obtain⟨oe,ge,ce⟩:=he;have gz₂:IsZip m₂ z TI TO .ellipsis:=u₂ _ _ D.i1z.symm gz₁;have nez:e≠z:=fun q=>by subst q;rw[gz₂]at ge;cases ge;simp at ce
  refine fZ gz₂ (by simp) fun m₃ _ u₃=>k m₃ e (fun c o c1 _ c3 _ q=>u₃.extBut _ _ c1 (u₂ _ _ c3 (u₁.extBut _ _ c1 q))) ⟨oe,u₃.extBut _ _ nez ge,ce⟩
 |some x =>
  have hy:ys[k2]?=none:=by rcases fin with q|q;rw[hx]at q;cases q;exact q
  refine ai (jx (g1.extBut u₁.extBut D.i1z) (t1.extBut u₁.extBut D.l1z) hx fun m₂ g1₂ u₂=>aA ?_);have gO₂:IsPair m₂ TO a b:=u₂.extBut _ _ D.TOi1 (u₁.extBut _ _ D.TOz gO);refine ai (iR gO₂ rfl ?_);refine ai (wpAny_updateSeq_pair gO₂ fun m₃ gO₃ u₃=>?_);refine ai (qA (aA ?_));refine ai (ai (t_ ?_));show wpAny _ _ (f6 (.ref i2) >>= _) _ _ _;refine ai (o_ hh (((g2.extBut u₁.extBut D.i2z).extBut u₂.extBut D.i12.symm).extBut u₃.extBut D.TOi2.symm)
   (((t2.extBut u₁.extBut D.l2z).extBut u₂.extBut D.l2i1).extBut u₃.extBut D.l2TO) hy fun m₄ e u₄ he=>?_)
  obtain⟨oe,ge,ce⟩:=he;have gz₄:IsZip m₄ z TI TO .ellipsis:=u₄ _ _ D.i2z.symm (u₃.extBut _ _ D.TOz.symm (u₂.extBut _ _ D.i1z.symm gz₁));have nez:e≠z:=fun q=>by subst q;rw[gz₄]at ge;cases ge;simp at ce
  refine fZ gz₄ (by simp) fun m₅ _ u₅=>k m₅ e (fun c o c1 c2 c3 c4 q=>u₅.extBut _ _ c1 (u₄ _ _ c4 (u₃.extBut _ _ c2 (u₂.extBut _ _ c3 (u₁.extBut _ _ c1 q))))) ⟨oe,u₅.extBut _ _ nez ge,ce⟩
theorem sG{z TI TO i1 i2 l1 l2:Addr}{k1 k2:Nat}{xs ys:Array Value}{x y a b:Value}{Q:Option Value->Shared->Prop}(D:fo z TI TO i1 i2 l1 l2)
  (gz:IsZip s.heap z TI TO .none) (gI:IsPair s.heap TI (.ref i1) (.ref i2)) (gO:IsPair s.heap TO a b)
  (g1:s.heap.IsTupleIter i1 l1 k1) (g2:s.heap.IsTupleIter i2 l2 k2) (t1:s.heap.IsTuple l1 xs) (t2:s.heap.IsTuple l2 ys) (hx:xs[k1]?=some x) (hy:ys[k2]?=some y)
  (k:∀h',IsZip h' z TI TO (rawInt s.heap.objs.size)->IsPair h' TO x y->h'.IsTupleIter i1 l1 (k1+1)->h'.IsTupleIter i2 l2 (k2+1)->IsPair h' s.heap.objs.size x y->h'.objs.size=s.heap.objs.size+1 ->
   (∀c o,c≠z->c≠TO->c≠i1->c≠i2->s.heap.get? c=some o->h'.get? c=some o)->Q (some (.ref s.heap.objs.size)) { s with heap:=h' }) :
  wpAny (model prog w) A (pyNext (.ref z)) Q E s:=by
 have hT:s.TypeIs (.ref z) "zip":=⟨_,gz,rfl⟩;unfold pyNext;exact ai (n5 (j3 (name:=jg "__next__") hT jY
  (pk jY hT t9
   (zX D gz gI gO g1 g2 t1 t2 hx hy fun h' a1 a2 a3 a4 a5 a6 a7=>aA (k h' a1 a2 a3 a4 a5 a6 a7)) (t8 _))))
theorem uS{z TI TO i1 i2 l1 l2:Addr}{k1 k2:Nat}{xs ys:Array Value}{a b:Value}{Q:Option Value->Shared->Prop}(hh:A.handled=none)(D:fo z TI TO i1 i2 l1 l2)
  (gz:IsZip s.heap z TI TO .none) (gI:IsPair s.heap TI (.ref i1) (.ref i2)) (gO:IsPair s.heap TO a b)
  (g1:s.heap.IsTupleIter i1 l1 k1) (g2:s.heap.IsTupleIter i2 l2 k2) (t1:s.heap.IsTuple l1 xs) (t2:s.heap.IsTuple l2 ys) (fin:xs[k1]?=none∨ys[k2]?=none)
  (k:∀h',(∀c o,c≠z->c≠TO->c≠i1->c≠i2->s.heap.get? c=some o->h'.get? c=some o)->Q none { s with heap:=h' }):wpAny (model prog w) A (pyNext (.ref z)) Q E s:=by
 have hT:s.TypeIs (.ref z) "zip":=⟨_,gz,rfl⟩;unfold pyNext;refine ai (n5 (j3 (name:=jg "__next__") hT jY
  (pk jY hT t9 (A2 hh D gz gI gO g1 g2 t1 t2 fin fun h' e kp he=>?_) (t8 _))))
 obtain⟨o,ho,hc⟩:=he;refine ai (vG (T:="StopIteration") (b:=true) ⟨o,ho,hc⟩ isSubtype_stop ?_);exact aA (k _ kp)
end
abbrev Fs(h:Heap)(l1:Addr):Heap:=h.push { cls:=.type "tuple_iterator",data:=.fields #[.ref l1,.int 0 0] }
abbrev Fq(h:Heap)(l1 l2:Addr):Heap:=(Fs h l1).push { cls:=.type "tuple_iterator",data:=.fields #[.ref l2,.int 0 0] }
abbrev Fp(h:Heap)(l1 l2:Addr):Heap:=(Fq h l1 l2).push { cls:=.type "tuple",data:=.seq #[.ref h.objs.size,.ref (Fs h l1).objs.size] }
abbrev Fo(h:Heap)(l1 l2:Addr):Heap:=(Fp h l1 l2).push { cls:=.type "tuple",data:=.seq #[.none,.none] }
abbrev EC(h:Heap)(l1 l2:Addr):Heap:=(Fo h l1 l2).push { cls:=.type "zip",data:=.fields #[.none,.bool false,.bool false,.ref (Fq h l1 l2).objs.size,.ref (Fp h l1 l2).objs.size] }
theorem xO(l1 l2:Addr)(xs ys:Array Value):
  Meets (aY.«zip.__new__» ⟨[.type "zip",.ref l1,.ref l2],[]⟩) (fun _ R s=>s.heap.IsTuple l1 xs/\s.heap.IsTuple l2 ys /\
   R (.ok (.ret (.ref (Fo s.heap l1 l2).objs.size))) { s with heap:=EC s.heap l1 l2 }) :=
 .of_wp fun prog w A R s h=>by
  obtain⟨hp,g,d,tk,os⟩:=s;obtain⟨q1,q2,h⟩:=h;have hsub:=sub_zip;have T1:Heap.IsTuple (t7 ⟨hp,g,d,tk,os⟩) l1 xs:=q1;have T2:Heap.IsTuple (t7 ⟨hp.push { cls:=.type "tuple_iterator",data:=.fields #[.ref l1,.int 0 0] },g,d,tk,os⟩) l2 ys:=Heap.IsTuple.push q2 _
  wp_walk using yJ T1,yJ T2
  exact⟨_,rfl,h⟩
section
variable{prog:bx}{w:World}{A:Around}{E:Zc}{s:Shared}
theorem AL{l1 l2:Addr}{xs ys:Array Value}{Q:Zc}(t1:s.heap.IsTuple l1 xs)(t2:s.heap.IsTuple l2 ys)
  (k:∀h',IsZip h' (s.heap.objs.size+4) (s.heap.objs.size+2) (s.heap.objs.size+3) .none->IsPair h' (s.heap.objs.size+2) (.ref s.heap.objs.size) (.ref (s.heap.objs.size+1)) ->
   IsPair h' (s.heap.objs.size+3) .none .none->h'.IsTupleIter s.heap.objs.size l1 0->h'.IsTupleIter (s.heap.objs.size+1) l2 0->(∀c o,s.heap.get? c=some o->h'.get? c=some o)->Q (.ref (s.heap.objs.size+4)) { s with heap:=h' }) :
  wpAny (model prog w) A (call (.type "zip") [.ref l1,.ref l2]) Q E s:=by
 refine callType_new F.called_zip (by decide) (F.typeCall_zip_2 _ _) (F.newCall_zip_2 _ _) (fun obj=>F.args_object_init_3 obj _ _) F.entry_zip_new
  (xO l1 l2 xs ys) ⟨t1,t2,?_⟩
 have z1:(Fs s.heap l1).objs.size=s.heap.objs.size+1:=jV ..;have z2:(Fq s.heap l1 l2).objs.size=s.heap.objs.size+2:=by rw[jV,z1]
 have z3:(Fp s.heap l1 l2).objs.size=s.heap.objs.size+3:=by rw[jV,z2]
 have z4:(Fo s.heap l1 l2).objs.size=s.heap.objs.size+4:=by rw[jV,z3]
 have g5:(EC s.heap l1 l2).get? (Fo s.heap l1 l2).objs.size=some _:=cz _ rfl;have g4:(EC s.heap l1 l2).get? (Fp s.heap l1 l2).objs.size=some _:=aS _ (cz _ rfl);have g3:(EC s.heap l1 l2).get? (Fq s.heap l1 l2).objs.size=some _:=aS _ (aS _ (cz _ rfl));have g2:(EC s.heap l1 l2).get? (Fs s.heap l1).objs.size=some _:=aS _ (aS _ (aS _ (cz _ rfl)));have g1:(EC s.heap l1 l2).get? s.heap.objs.size=some _:=aS _ (aS _ (aS _ (aS _ (cz _ rfl))));show _/\_;rw[z2,z3,z4]at g5;rw[z1,z2]at g3;rw[z3]at g4;rw[z1]at g2;rw[z4];exact⟨⟨_,g5,rfl⟩,k _ g5 g3 g4 ⟨_,g1,rfl,rfl⟩ ⟨_,g2,rfl,rfl⟩ fun c o x =>
  aS _ (aS _ (aS _ (aS _ (aS _ x))))⟩
end
def Ch(K:Za)(a b:Addr):It :=
  ⟨fun i H=>∃xs ys x y,be K H a xs/\be K H b ys/\xs[i]?=some x/\ys[i]?=some y,
   fun i H x H'=>∃p u v,x=.ref p/\H p=none/\(∀xs,be K H a xs->xs[i]?=some u)/\(∀ys,be K H b ys->ys[i]?=some v)/\H'=upd H p (.tup [u,v]),
   fun i H=>∃xs ys,be K H a xs/\be K H b ys/\(xs.length<=i∨ys.length<=i)⟩
theorem zY{P:bx}{w:World}{K:Za}{es:List Expr}{kx:Nat}{U0:Pos}(a b z TI TO i1 i2:Addr)(D:fo z TI TO i1 i2 a b):
  rT P w K (.Tuple es kx U0) (Ch K a b) [z,TI,TO,i1,i2] z (fun i h=>IsZip h z TI TO .none/\IsPair h TI (.ref i1) (.ref i2)/\(∃a b,IsPair h TO a b)/\h.IsTupleIter i1 a i/\h.IsTupleIter i2 b i) where
 mem:=by simp
 obj:=fun i h st c hc=>by
  obtain⟨hz,hTI,⟨u,v,hTO⟩,h1,h2⟩:=st;simp only[cR,qD,or_false]at hc;rcases hc with rfl|rfl|rfl|rfl|rfl
  ·exact⟨_,hz,fun v z=>by cases z⟩
  ·exact⟨_,hTI,fun v z=>by cases z⟩
  ·exact⟨_,hTO,fun v z=>by cases z⟩
  ·obtain⟨o,e,c,d⟩:=h1;exact⟨o,e,fun v z=>by rw[d]at z;cases z⟩
  ·obtain⟨o,e,c,d⟩:=h2;exact⟨o,e,fun v z=>by rw[d]at z;cases z⟩
 keep:=fun i h h' st k=>by
  obtain⟨hz,hTI,⟨u,v,hTO⟩,⟨o1,e1,r1⟩,⟨o2,e2,r2⟩⟩:=st;exact⟨k z (by simp) _ hz,k TI (by simp) _ hTI,⟨u,v,k TO (by simp) _ hTO⟩,⟨o1,k i1 (by simp) o1 e1,r1⟩,⟨o2,k i2 (by simp) o2 e2,r2⟩⟩
 item:=by
  intro X hP hw hK hc i J6 s σ H E I hf st hg;subst hP hw hK;obtain⟨hz,hTI,⟨u0,v0,hTO⟩,h1,h2⟩:=st;obtain⟨xs,ys,x,y,hqx,hqy,hx,hy⟩:=hg;obtain⟨its,rx,px,zx⟩:=I.tuple hqx;obtain⟨jts,ry,py,zy⟩:=I.tuple hqy;obtain⟨u,hu,ru⟩:=rx.get hx;obtain⟨v,hv,rv⟩:=ry.get hy;refine sG D hz hTI hTO h1 h2 (xs:=its.toArray) (ys:=jts.toArray) px py (x:=u) (y:=v) (by simpa using hu) (by simpa using hv) fun h' a1 a2 a3 a4 a5 a6 hk=>?_;refine⟨_,rfl,wpAny_letOwnedTupleGo_zip (s:={ s with heap:=h' }) a1 fun h2' hz2 hs2=>?_⟩;have hs2':d6 z h' h2':=hs2;have nsz:s.heap.objs.size≠z:=c7 (az hz);have nsTO:s.heap.objs.size≠TO:=c7 (az hTO);have nsTI:s.heap.objs.size≠TI:=c7 (az hTI);have nsi1:s.heap.objs.size≠i1:=by obtain⟨o,ho,_⟩:=h1;exact c7 (az ho)
  have nsi2:s.heap.objs.size≠i2:=by obtain⟨o,ho,_⟩:=h2;exact c7 (az ho)
  have ht2:IsPair h2' s.heap.objs.size u v:=hs2'.extBut _ _ nsz a5;have I2:Inv X J6 σ (upd H s.heap.objs.size (.tup [x,y])) { s with heap:=h2',toks:=s.toks }:=by
   refine I.turnedNew (ch:=[z,TI,TO,i1,i2]) hf (fun c o hc q=>?_) ⟨_,ht2⟩ (fun _ z=>nomatch z) ⟨by show 2<=aj;decide,[u,v],.cons ru (.cons rv .nil),⟨_,ht2,rfl,_,rfl⟩⟩;have n1:c≠z:=fun q=>hc (by simp[q]);exact hs2'.extBut _ _ n1 (hk c o n1 (fun q=>hc (by simp[q])) (fun q=>hc (by simp[q])) (fun q=>hc (by simp[q])) q)
  have a3':h2'.IsTupleIter i1 a (i+1):=by obtain⟨o,e,r⟩:=a3;exact⟨o,hs2'.extBut _ _ D.i1z e,r⟩
  have a4':h2'.IsTupleIter i2 b (i+1):=by obtain⟨o,e,r⟩:=a4;exact⟨o,hs2'.extBut _ _ D.i2z e,r⟩
  refine⟨.ref s.heap.objs.size,_,I2,rfl,⟨_,x,y,rfl,I.fresh,fun zs hz=>by rw[I.tuple_inj hz hqx];exact hx,fun zs hz=>by rw[I.tuple_inj hz hqy];exact hy,rfl⟩,⟨hz2,hs2'.extBut _ _ D.TIz (hk _ _ D.TIz D.TITO D.TIi1 D.TIi2 hTI),⟨_,_,hs2'.extBut _ _ D.TOz a2⟩,a3',a4'⟩,fun c hc=>?_⟩;have hcn:=(hf c hc).1;simp only[cR,qD,or_false]at hc;have ne:c≠s.heap.objs.size:=by
   rcases hc with rfl|rfl|rfl|rfl|rfl
   ·exact nsz.symm
   ·exact nsTI.symm
   ·exact nsTO.symm
   ·exact nsi1.symm
   ·exact nsi2.symm
  rw[ag ne];exact hcn
 done:=by
  intro X hP hw hK hc i J6 s σ H E I hf st hg;subst hP hw hK;obtain⟨hz,hTI,⟨u0,v0,hTO⟩,h1,h2⟩:=st;obtain⟨xs,ys,hqx,hqy,hend⟩:=hg;obtain⟨its,rx,px,zx⟩:=I.tuple hqx;obtain⟨jts,ry,py,zy⟩:=I.tuple hqy;have lx:=rx.length;have ly:=ry.length;refine uS (I.ok.hd hc) D hz hTI hTO h1 h2 (xs:=its.toArray) (ys:=jts.toArray) px py (by rcases hend with q|q;exact .inl (by simp;omega);exact .inr (by simp;omega)) fun h' hk=>⟨rfl,?_⟩;have tr:∀c q,H c=some q->c∉[z,TI,TO,i1,i2]:=fun c q e m=>by rw[(hf c m).1]at e;cases e
  have kk:∀c o,c∉[z,TI,TO,i1,i2]->s.heap.get? c=some o->h'.get? c=some o:=fun c o hc q=>hk c o (fun q=>hc (by simp[q])) (fun q=>hc (by simp[q])) (fun q=>hc (by simp[q])) (fun q=>hc (by simp[q])) q;refine I.step (g':=s.gens) (d':=s.drawn) (t':=s.toks) (ch:=[z,TI,TO,i1,i2]) (fun c hc=>?_) (fun c o _ _ hc e _=>kk c o hc e) (fun c o _ _ hc e _=>⟨o.slots,kk c o hc e⟩) (fun _ _ _ _ n=>n) (fun c o hc e=>⟨o,kk c o hc e⟩) (fun _ _ e=>e) (fun _ _ _ e=>e) (fun c ps e=>⟨#[],by rw[e];simp⟩) (fun m hm=>?_) (fun c q e=>?_) I.bare
  ·obtain⟨f0,f1,f2,f3,f4,f5⟩:=hf c hc;exact⟨f3,f1,f4,f5⟩
  ·obtain⟨q,es',ep,ho,r⟩:=hm;exact⟨q,es',ep,kk _ q (fun z=>(hf _ z).2.1 rfl) ho,r⟩
  ·refine(I.hok c q e).stay (fun d v hd q'=>kk d v ?_ q') (fun _ q=>q) fun _ _ q=>q;rcases hd with z|z
   ·subst z;exact tr _ _ e
   ·exact tr _ _ z
 self:=fun _ _ _ _ _ st h=>qC st.1 h
section
variable{X:Cx}{p pos:Pos}{es:List Expr}{kx:Nat}{U0:Pos}
def wo(K:Za)(ta:TA):TI:=fun σ H R=>ta σ H fun vs H1=>∃a b,vs=[.ref a,.ref b]/\(((∃xs,aw K H1 a xs)/\(∃ys,aw K H1 b ys)/\R (Fh K a b) H1)∨((∃xs,be K H1 a xs)/\(∃ys,be K H1 b ys)/\R (Ch K a b) H1))
theorem CS{a b:Expr}{ta:TA}(hg:Gl X "zip")(hm:X.mg "zip"=none)(ha:PA X [a,b] ta)(hs:ay [a,b] X.env=[(false,eval a X.env),(false,eval b X.env)]:=by rfl)(hs2:ay [b] X.env=[(false,eval b X.env)]:=by rfl):
  PI X (.Tuple es kx U0) (.Call (.Name "zip" p) [a,b] [] pos) (wo X.K ta):=by
 intro J6 s σ H R I h;refine Call_ (jA I hg hm boot_zip (qg (cp (ha pos J6 s σ H _ I h) fun us s1 zq0=>?_) (by rw[hs,hs2]) (by rw[hs2];rfl)));obtain⟨vs,H1,I1,r1,q1⟩:=zq0;obtain⟨l1,l2,e,q⟩:=q1;subst e;obtain⟨u,v,rfl,ru,rv⟩:=vals2 r1;cases ru;cases rv;have fin:∀b∈[s1.heap.objs.size+4,s1.heap.objs.size+2,s1.heap.objs.size+3,s1.heap.objs.size,s1.heap.objs.size+1],mq X J6 H1 b:=fun b hb=>by
  have hb':s1.heap.objs.size<=b:=by
   simp only[cR,qD,or_false]at hb;rcases hb with rfl|rfl|rfl|rfl|rfl<;>omega
  exact I1.fpOk hb' (I1.hok.fresh hb')
 rcases q with⟨⟨xs,hx⟩,⟨ys,hy⟩,q⟩|⟨⟨xs,hx⟩,⟨ys,hy⟩,q⟩
 ·obtain⟨its,rx,px,zx⟩:=I1.list hx;obtain⟨jts,ry,py,zy⟩:=I1.list hy;obtain⟨o1,n1,e1,_⟩:=id px;obtain⟨o2,n2,e2,_⟩:=id py;refine call_zip_2 px.isList py.isList fun h' a1 a2 a3 a4 a5 a6 hk=>?_;refine qC (s:={ s1 with heap:=h' }) a1 ?_;have hk':∀b o,s1.heap.get? b=some o->h'.get? b=some o:=hk;have I2:Inv X J6 σ H1 { s1 with heap:=h' }:=I1.kept (t':=s1.toks) hk';exact⟨_,_,_,_,H1,rfl,I2,A8 l1 l2 _ _ _ _ _ (zipApart_new (az e1) (az e2)),⟨a1,a2,⟨_,_,a3⟩,a4,a5⟩,fin,q⟩
 ·obtain⟨its,rx,px,zx⟩:=I1.tuple hx;obtain⟨jts,ry,py,zy⟩:=I1.tuple hy;obtain⟨o1,e1,_⟩:=id px;obtain⟨o2,e2,_⟩:=id py;refine AL (xs:=its.toArray) (ys:=jts.toArray) px py fun h' a1 a2 a3 a4 a5 hk=>?_;refine qC (s:={ s1 with heap:=h' }) a1 ?_;have hk':∀b o,s1.heap.get? b=some o->h'.get? b=some o:=hk;have I2:Inv X J6 σ H1 { s1 with heap:=h' }:=I1.kept (t':=s1.toks) hk';exact⟨_,_,_,_,H1,rfl,I2,zY l1 l2 _ _ _ _ _ (zipApart_new (az e1) (az e2)),⟨a1,a2,⟨_,_,a3⟩,a4,a5⟩,fin,q⟩
end
inductive DT where
 |k (a:ei)
 |t (l:List DT)
 |s (l:List DT)
mutual
def DO:(x y:DT)->Decidable (x=y)
 |.k a,.k b=>if h:a=b then Decidable.isTrue (by rw[h])else Decidable.isFalse fun e=>h (by injection e)
 |.t l,.t m=>match decDTs l m with
  |Decidable.isTrue h=>Decidable.isTrue (by rw[h])
  |Decidable.isFalse h=>Decidable.isFalse fun e=>h (by injection e)
 |.s l,.s m=>match decDTs l m with
  |Decidable.isTrue h=>Decidable.isTrue (by rw[h])
  |Decidable.isFalse h=>Decidable.isFalse fun e=>h (by injection e)
 |.k _,.t _=>Decidable.isFalse nofun
 |.k _,.s _=>Decidable.isFalse nofun
 |.t _,.k _=>Decidable.isFalse nofun
 |.t _,.s _=>Decidable.isFalse nofun
 |.s _,.k _=>Decidable.isFalse nofun
 |.s _,.t _=>Decidable.isFalse nofun
def decDTs:(x y:List DT)->Decidable (x=y)
 |[],[]=>Decidable.isTrue rfl
 |[],_::_=>Decidable.isFalse nofun
 |_::_,[]=>Decidable.isFalse nofun
 |a::l,b::m=>match DO a b with
  |Decidable.isTrue h=>match decDTs l m with
   |Decidable.isTrue h'=>Decidable.isTrue (by rw[h,h'])
   |Decidable.isFalse h'=>Decidable.isFalse fun e=>h' (by injection e)
  |Decidable.isFalse h=>Decidable.isFalse fun e=>h (by injection e)
end
instance:DecidableEq DT:=DO
mutual
def DT.depth:DT->Nat
 |.k _=>0
 |.t l=>DT.depths l+1
 |.s l=>DT.depths l+1
def DT.depths:List DT->Nat
 |[]=>0
 |a::r=>max (DT.depth a) (DT.depths r)
end
mutual
def nQ(h:Heap):DT->Value->Prop
 |.k a,v=>cM a v=true
 |.t l,v=>∃a items,v=.ref a/\h.IsTuple a items/\DAts h l items.toList
 |.s l,v=>∃a items,v=.ref a/\h.IsList a items/\DAts h l items.toList
def DAts(h:Heap):List DT->List Value->Prop
 |[],vs=>vs=[]
 |k::r,vs=>∃v us,vs=v::us/\nQ h k v/\DAts h r us
end
theorem DAts.length{h:Heap}:∀{xs:List DT}{vs:Zf},DAts h xs vs->xs.length=vs.length
 |[],vs,e=>by have e':vs=[]:=e;rw[e'];rfl
 |x::xs,vs,e=>by
  obtain⟨v,us,rfl,_,h2⟩:=e;simp[DAts.length h2]
theorem DAts.get{h:Heap}:∀{xs:List DT}{vs:Zf}{i:Nat}{v:Value},DAts h xs vs->vs[i]?=some v->∃x,xs[i]?=some x/\nQ h x v
 |[],vs,i,v,e,q=>by have e':vs=[]:=e;subst e';simp at q
 |x::xs,vs,i,v,e,q=>by
  obtain⟨u,us,rfl,h1,h2⟩:=e;cases i with
  |zero =>
   simp at q;subst q;exact⟨x,rfl,h1⟩
  |succ i =>
   obtain⟨y,e1,e2⟩:=DAts.get h2 (i:=i) (v:=v) (by simpa using q);exact⟨y,by simpa using e1,e2⟩
theorem DT.depths_get{l:List DT}{x:DT}{i d:Nat}(h:DT.depths l<=d)(e:l[i]?=some x):x.depth<=d:=by
 induction l generalizing i with
 |nil=>simp at e
 |cons a r ih =>
  have h':max a.depth (DT.depths r)<=d:=h;cases i with
  |zero=>simp at e;subst e;omega
  |succ i=>exact ih (by omega) (by simpa using e)
theorem xV{h:Heap}{a:Addr}{i j:Array Value}(x:h.IsList a i)(y:h.IsList a j):i=j:=by
 obtain⟨o,ho,_,n,hd⟩:=x;obtain⟨o',ho',_,n',hd'⟩:=y;rw[ho]at ho';cases ho';rw[hd]at hd';injection hd'
theorem wn{h:Heap}{a:Addr}{i j:Array Value}(x:h.IsTuple a i)(y:h.IsTuple a j):i=j:=by
 obtain⟨o,ho,_,n,hd⟩:=x;obtain⟨o',ho',_,n',hd'⟩:=y;rw[ho]at ho';cases ho';rw[hd]at hd';injection hd'
theorem i5{h:Heap}{a:Addr}{i j:Array Value}(x:h.IsList a i)(y:h.IsTuple a j):False:=by
 obtain⟨o,ho,hc,_⟩:=x;obtain⟨o',ho',hc',_⟩:=y;rw[ho]at ho';cases ho';rw[hc]at hc';simp at hc'
theorem tH{a b:ei}{v:Value}(h1:cM a v=true)(h2:cM b v=true):a=b:=by
 rcases av h1 with⟨i,t,rfl,rfl⟩|⟨i,t,rfl,rfl⟩
 ·rcases av h2 with⟨j,u,rfl,e⟩|⟨j,u,rfl,e⟩
  ·cases e;rfl
  ·cases e
 ·rcases av h2 with⟨j,u,rfl,e⟩|⟨j,u,rfl,e⟩
  ·cases e
  ·cases e;rfl
theorem gJ{a:ei}{b:Addr}(h:cM a (.ref b)=true):False:=by
 rcases av h with⟨_,_,_,e⟩|⟨_,_,_,e⟩<;>cases e
theorem nQ.inj{h:Heap}:∀(d:Nat) {x y:DT}{v:Value},x.depth<=d->nQ h x v->nQ h y v->x=y:=by
 have key:∀(d:Nat) (ih:∀{x y:DT}{v:Value},x.depth<=d->nQ h x v->nQ h y v->x=y) (xs ys:List DT) (vs:Zf),DT.depths xs<=d->DAts h xs vs->DAts h ys vs->xs=ys:=by
  intro d ih xs
  induction xs with
  |nil =>
   intro ys vs _ hx hy;have hx':vs=[]:=hx;subst hx';cases ys with
   |nil=>rfl
   |cons y ys=>obtain⟨_,_,e,_⟩:=hy;cases e
  |cons x xs ihl =>
   intro ys vs hd hx hy;obtain⟨v,us,rfl,hx1,hx2⟩:=hx;cases ys with
   |nil=>have hy':v::us=[]:=hy;cases hy'
   |cons y ys =>
    obtain⟨v',us',e,hy1,hy2⟩:=hy;cases e;have hd':max x.depth (DT.depths xs)<=d:=hd;rw[ih (by omega) hx1 hy1,ihl ys us (by omega) hx2 hy2]
 intro d
 induction d with
 |zero =>
  intro x y v hd hx hy;cases x with
  |t l=>exact absurd hd (by show ¬(DT.depths l+1<=0);omega)
  |s l=>exact absurd hd (by show ¬(DT.depths l+1<=0);omega)
  |k a =>
   cases y with
   |k b=>rw[tH hx hy]
   |t l=>obtain⟨b,_,rfl,_⟩:=hy;exact(gJ hx).elim
   |s l=>obtain⟨b,_,rfl,_⟩:=hy;exact(gJ hx).elim
 |succ d ih =>
  intro x y v hd hx hy;cases x with
  |k a =>
   cases y with
   |k b=>rw[tH hx hy]
   |t l=>obtain⟨b,_,rfl,_⟩:=hy;exact(gJ hx).elim
   |s l=>obtain⟨b,_,rfl,_⟩:=hy;exact(gJ hx).elim
  |t l =>
   obtain⟨a,i,rfl,hi,hx⟩:=hx;cases y with
   |k b=>exact(gJ hy).elim
   |t m =>
    obtain⟨a',j,e,hj,hy⟩:=hy;cases e;rw[wn hj hi]at hy;rw[key d (fun h1=>ih h1) l m i.toList (by have:DT.depths l+1<=d+1:=hd;omega) hx hy]
   |s m =>
    obtain⟨a',j,e,hj,hy⟩:=hy;cases e;exact(i5 hj hi).elim
  |s l =>
   obtain⟨a,i,rfl,hi,hx⟩:=hx;cases y with
   |k b=>exact(gJ hy).elim
   |s m =>
    obtain⟨a',j,e,hj,hy⟩:=hy;cases e;rw[xV hj hi]at hy;rw[key d (fun h1=>ih h1) l m i.toList (by have:DT.depths l+1<=d+1:=hd;omega) hx hy]
   |t m =>
    obtain⟨a',j,e,hj,hy⟩:=hy;cases e;exact(i5 hi hj).elim
theorem eW{l m:List DT}(hl:l.length=m.length):((mF l.length).all fun j=>decide (l[j]?=m[j]?))=decide (l=m):=by
 by_cases e:l=m
 ·subst e;simp
 ·rw[zzr0 e];rw[List.all_eq_false];apply Classical.byContradiction;intro h;apply e;apply List.ext_getElem?;intro i;by_cases hi:i<l.length
  ·apply Classical.byContradiction;intro hne;exact h ⟨i,List.mem_range.mpr hi,by simpa using hne⟩
  ·rw[iA (by omega),iA (by omega)]
section
variable{s:Shared}
theorem DJ:∀(d:Nat) {A:Around}{x y:DT}{u v:Value},y.depth<=d->A.units+d<cLine->nQ s.heap x u->nQ s.heap y v->aQ A s u v (decide (x=y)):=by
 have leaves:∀{A:Around}{a b:ei}{u v:Value},cM a u=true->cM b v=true->aQ A s u v (decide (DT.k a=DT.k b)):=by
  intro A a b u v h1 h2;have hd:decide (DT.k a=DT.k b)=decide (a=b):=by
   by_cases e:a=b
   ·subst e;simp
   ·have:¬(DT.k a=DT.k b):=fun z=>e (by injection z);rw[zzr0 this,zzr0 e]
  rw[hd];rcases av h1 with⟨i,t,rfl,rfl⟩|⟨i,t,rfl,rfl⟩
  ·rcases av h2 with⟨j,u,rfl,rfl⟩|⟨j,u,rfl,rfl⟩
   ·rw[u3];exact aQ.int_int i t j u
   ·rw[u2];exact aQ.int_str i t j u
  ·rcases av h2 with⟨j,u,rfl,rfl⟩|⟨j,u,rfl,rfl⟩
   ·rw[uY];exact aQ.str_int i t j u
   ·rw[uX];have:=aQ.str_str (A:=A) (s:=s) i t j u;rwa[show(i==j)=decide (i=j)from by by_cases e:i=j<;>simp[e]]at this
 have kt:∀{A:Around}{a:ei}{u:Value}{b:Addr}{items:Array Value},A.units<cLine->cM a u=true->s.heap.IsTuple b items->aQ A s u (.ref b) false/\aQ A s (.ref b) u false:=by
  intro A a u b items hu h1 ht;rcases av h1 with⟨i,t,rfl,rfl⟩|⟨i,t,rfl,rfl⟩
  ·exact⟨aQ.int_tuple i t ht hu,aQ.tuple_int i t ht hu⟩
  ·exact⟨aQ.str_tuple i t ht hu,aQ.tuple_str i t ht hu⟩
 have kl:∀{A:Around}{a:ei}{u:Value}{b:Addr}{items:Array Value},A.units<cLine->cM a u=true->s.heap.IsList b items->aQ A s u (.ref b) false/\aQ A s (.ref b) u false:=by
  intro A a u b items hu h1 ht;rcases av h1 with⟨i,t,rfl,rfl⟩|⟨i,t,rfl,rfl⟩
  ·exact⟨aQ.int_list i t ht hu,aQ.list_int i t ht hu⟩
  ·exact⟨aQ.str_list i t ht hu,aQ.list_str i t ht hu⟩
 intro d
 induction d with
 |zero =>
  intro A x y u v hdy hu hx hy;cases y with
  |t l=>exact absurd hdy (by show ¬(DT.depths l+1<=0);omega)
  |s l=>exact absurd hdy (by show ¬(DT.depths l+1<=0);omega)
  |k b =>
   cases x with
   |t l =>
    obtain⟨a,i,rfl,hi,_⟩:=hx;rw[zzr0 (by intro z;cases z)];exact(kt (by omega) hy hi).2
   |s l =>
    obtain⟨a,i,rfl,hi,_⟩:=hx;rw[zzr0 (by intro z;cases z)];exact(kl (by omega) hy hi).2
   |k a=>exact leaves hx hy
 |succ d ih =>
  intro A x y u v hdy hu hx hy;have items:∀{l m:List DT}{i j:Array Value},DT.depths m<=d->DAts s.heap l i.toList->DAts s.heap m j.toList->∀n (h1:n<i.size) (h2:n<j.size),aQ A.in1 s i[n] j[n] (decide (l[n]?=m[n]?)):=by
   intro l m i j hm hi hj n h1 h2;obtain⟨x,ex,hx⟩:=hi.get (i:=n) (v:=i[n]) (by simp[h1]);obtain⟨y,ey,hy⟩:=hj.get (i:=n) (v:=j[n]) (by simp[h2]);rw[ex,ey];have hd:decide ((some x:Option DT)=some y)=decide (x=y):=by
    by_cases e:x=y
    ·subst e;simp
    ·rw[zzr0 e,zzr0 fun z=>e (dI z)]
   rw[hd];exact ih (DT.depths_get hm ey) (by show A.units+1+d<cLine;omega) hx hy
  cases x with
  |k a =>
   cases y with
   |k b=>exact leaves hx hy
   |t l =>
    obtain⟨b,i,rfl,hi,_⟩:=hy;rw[zzr0 (by intro z;cases z)];exact(kt (by omega) hx hi).1
   |s l =>
    obtain⟨b,i,rfl,hi,_⟩:=hy;rw[zzr0 (by intro z;cases z)];exact(kl (by omega) hx hi).1
  |t l =>
   have hx0:=hx;obtain⟨a,i,rfl,hi,hx⟩:=hx;cases y with
   |k b =>
    rw[zzr0 (by intro z;cases z)];exact(kt (by omega) hy hi).2
   |s m =>
    obtain⟨b,j,rfl,hj,_⟩:=hy;rw[zzr0 (by intro z;cases z)];exact aQ.tuple_list hi hj (by omega)
   |t m =>
    have hm:DT.depths m<=d:=by have:DT.depths m+1<=d+1:=hdy;omega
    have hy0:=hy;obtain⟨b,j,rfl,hj,hy⟩:=hy;by_cases hab:a=b
    ·subst hab;have e:DT.t l=DT.t m:=nQ.inj _ (aG _) hx0 hy0;rw[zzr1 e];exact aQ.same _
    ·have r:=SeqAt.RcAt.tuples (A:=A) hi hj (by omega) (items hm hx hy);have li:=hx.length;have lj:=hy.length;simp only[jW]at li lj;have q:((mF (min i.size j.size)).all (fun n=>decide (l[n]?=m[n]?)) && i.size==j.size)=decide (DT.t l=DT.t m):=by
      by_cases e:l.length=m.length
      ·have e1:i.size=j.size:=by omega
       rw[<-e1,Nat.min_self,<-li,eW e];by_cases e2:l=m
       ·subst e2;simp
       ·have:¬(DT.t l=DT.t m):=fun z=>e2 (by injection z);rw[zzr0 this,zzr0 e2];rfl
      ·have e1:(i.size==j.size)=false:=by simp;omega
       have:¬(DT.t l=DT.t m):=fun z=>e (by injection z with z;rw[z]);rw[e1,zzr0 this,Bool.and_false]
     rw[q]at r;exact .of_refs hab r
  |s l =>
   have hx0:=hx;obtain⟨a,i,rfl,hi,hx⟩:=hx;cases y with
   |k b =>
    rw[zzr0 (by intro z;cases z)];exact(kl (by omega) hy hi).2
   |t m =>
    obtain⟨b,j,rfl,hj,_⟩:=hy;rw[zzr0 (by intro z;cases z)];exact aQ.list_tuple hi hj (by omega)
   |s m =>
    have hm:DT.depths m<=d:=by have:DT.depths m+1<=d+1:=hdy;omega
    have hy0:=hy;obtain⟨b,j,rfl,hj,hy⟩:=hy;by_cases hab:a=b
    ·subst hab;have e:DT.s l=DT.s m:=nQ.inj _ (aG _) hx0 hy0;rw[zzr1 e];exact aQ.same _
    ·have li:=hx.length;have lj:=hy.length;simp only[jW]at li lj;by_cases e:l.length=m.length
     ·have r:=SeqAt.RcAt.lists (A:=A) hi hj (by omega) (by omega) (items hm hx hy);rw[<-li,eW e]at r;have q:decide (l=m)=decide (DT.s l=DT.s m):=by
       by_cases e2:l=m
       ·subst e2;simp
       ·have:¬(DT.s l=DT.s m):=fun z=>e2 (by injection z);rw[zzr0 this,zzr0 e2]
      rw[q]at r;exact .of_refs hab r
     ·have:¬(DT.s l=DT.s m):=fun z=>e (by injection z with z;rw[z]);rw[zzr0 this];exact .of_refs hab (SeqAt.RcAt.lists_lengths hi hj (by simp;omega) (by omega))
end
theorem zI(a b:ei):decide (DT.k a=DT.k b)=decide (a=b):=by
 by_cases e:a=b
 ·subst e;simp
 ·rw[zzr0 e,zzr0 fun z=>e (by injection z)]
theorem DK(l m:List DT):decide (DT.t l=DT.t m)=decide (l=m):=by
 by_cases e:l=m
 ·subst e;simp
 ·rw[zzr0 e,zzr0 fun z=>e (by injection z)]
theorem DM(l m:List DT):decide (DT.s l=DT.s m)=decide (l=m):=by
 by_cases e:l=m
 ·subst e;simp
 ·rw[zzr0 e,zzr0 fun z=>e (by injection z)]
theorem B1(x y:DT):decide ((some x:Option DT)=some y)=decide (x=y):=by
 by_cases e:x=y
 ·subst e;simp
 ·rw[zzr0 e,zzr0 fun z=>e (dI z)]
section
variable{A:Around}{s:Shared}
theorem nG{d:Nat}(hu:A.units+1+d<cLine){l m:List DT}{i j:Array Value}(hm:DT.depths m<=d)(hi:DAts s.heap l i.toList)(hj:DAts s.heap m j.toList):
  ∀n (h1:n<i.size) (h2:n<j.size),aQ A.in1 s i[n] j[n] (decide (l[n]?=m[n]?)):=by
 intro n h1 h2;obtain⟨x,ex,hx⟩:=hi.get (i:=n) (v:=i[n]) (by simp[h1]);obtain⟨y,ey,hy⟩:=hj.get (i:=n) (v:=j[n]) (by simp[h2]);rw[ex,ey,B1];exact DJ d (DT.depths_get hm ey) hu hx hy
theorem yR{l m:List DT}{i j:Array Value}(hi:DAts s.heap l i.toList)(hj:DAts s.heap m j.toList):((mF (min i.size j.size)).all (fun n=>decide (l[n]?=m[n]?)) && i.size==j.size)=decide (l=m):=by
 have li:=hi.length;have lj:=hj.length;simp only[jW]at li lj;by_cases e:l.length=m.length
 ·have e1:i.size=j.size:=by omega
  rw[<-e1,Nat.min_self,<-li,eW e];simp
 ·have e1:(i.size==j.size)=false:=by simp;omega
  rw[e1,zzr0 fun z=>e (by rw[z]),Bool.and_false]
theorem DG{x y:DT}{u v:Value}(dy:y.depth<=14)(hu:A.units+16<cLine)(hx:nQ s.heap x u)(hy:nQ s.heap y v):SeqAt.RcAt A s u v (decide (x=y)):=by
 cases x with
 |k a =>
  rcases av (show cM a u=true from hx)with⟨i,t,rfl,rfl⟩|⟨i,t,rfl,rfl⟩
  ·cases y with
   |k b =>
    rw[zI];rcases av (show cM b v=true from hy)with⟨j,t',rfl,rfl⟩|⟨j,t',rfl,rfl⟩
    ·rw[u3];exact SeqAt.RcAt.int_int i t j t'
    ·rw[u2];exact SeqAt.RcAt.int_str i t j t'
   |t m=>obtain⟨b,j,rfl,hj,_⟩:=hy;rw[zzr0 (by intro z;cases z)];exact SeqAt.RcAt.int_tuple i t hj (by omega)
   |s m=>obtain⟨b,j,rfl,hj,_⟩:=hy;rw[zzr0 (by intro z;cases z)];exact SeqAt.RcAt.int_list i t hj (by omega)
  ·cases y with
   |k b =>
    rw[zI];rcases av (show cM b v=true from hy)with⟨j,t',rfl,rfl⟩|⟨j,t',rfl,rfl⟩
    ·rw[uY];exact SeqAt.RcAt.str_int i t j t'
    ·rw[uX];have:=SeqAt.RcAt.str_str (A:=A) (s:=s) i t j t';rwa[show(i==j)=decide (i=j)from by by_cases e:i=j<;>simp[e]]at this
   |t m=>obtain⟨b,j,rfl,hj,_⟩:=hy;rw[zzr0 (by intro z;cases z)];exact SeqAt.RcAt.str_tuple i t hj (by omega)
   |s m=>obtain⟨b,j,rfl,hj,_⟩:=hy;rw[zzr0 (by intro z;cases z)];exact SeqAt.RcAt.str_list i t hj (by omega)
 |t l =>
  obtain⟨a,i,rfl,hi,hx⟩:=hx;cases y with
  |k b =>
   rw[zzr0 (by intro z;cases z)];rcases av (show cM b v=true from hy)with⟨j,t',rfl,rfl⟩|⟨j,t',rfl,rfl⟩
   ·exact SeqAt.RcAt.tuple_int j t' hi (by omega)
   ·exact SeqAt.RcAt.tuple_str j t' hi (by omega)
  |t m =>
   obtain⟨b,j,rfl,hj,hy⟩:=hy;have dm:DT.depths m<=13:=by have:DT.depths m+1<=14:=dy;omega
   have r:=SeqAt.RcAt.tuples (A:=A) hi hj (by omega) (nG (by omega) dm hx hy);rw[yR hx hy]at r;rw[DK];exact r
  |s m=>obtain⟨b,j,rfl,hj,_⟩:=hy;rw[zzr0 (by intro z;cases z)];exact SeqAt.RcAt.tuple_list hi hj (by omega)
 |s l =>
  obtain⟨a,i,rfl,hi,hx⟩:=hx;cases y with
  |k b =>
   rw[zzr0 (by intro z;cases z)];rcases av (show cM b v=true from hy)with⟨j,t',rfl,rfl⟩|⟨j,t',rfl,rfl⟩
   ·exact SeqAt.RcAt.list_int j t' hi (by omega)
   ·exact SeqAt.RcAt.list_str j t' hi (by omega)
  |t m=>obtain⟨b,j,rfl,hj,_⟩:=hy;rw[zzr0 (by intro z;cases z)];exact SeqAt.RcAt.list_tuple hi hj (by omega)
  |s m =>
   obtain⟨b,j,rfl,hj,hy⟩:=hy;have dm:DT.depths m<=13:=by have:DT.depths m+1<=14:=dy;omega
   have li:=hx.length;have lj:=hy.length;simp only[jW]at li lj;rw[DM];by_cases e:l.length=m.length
   ·have r:=SeqAt.RcAt.lists (A:=A) hi hj (by omega) (by omega) (nG (by omega) dm hx hy);rw[<-li,eW e]at r;exact r
   ·rw[zzr0 fun z=>e (by rw[z])];exact SeqAt.RcAt.lists_lengths hi hj (by simp;omega) (by omega)
theorem DH{x y:DT}{u v:Value}(dy:y.depth<=14)(hu:A.units+16<cLine)(hx:nQ s.heap x u)(hy:nQ s.heap y v):SeqAt.RcNeAt A s u v (!decide (x=y)):=by
 cases x with
 |k a =>
  rcases av (show cM a u=true from hx)with⟨i,t,rfl,rfl⟩|⟨i,t,rfl,rfl⟩
  ·cases y with
   |k b =>
    rw[zI];rcases av (show cM b v=true from hy)with⟨j,t',rfl,rfl⟩|⟨j,t',rfl,rfl⟩
    ·rw[u3];exact SeqAt.RcNeAt.int_int i t j t'
    ·rw[u2];exact SeqAt.RcNeAt.int_str i t j t'
   |t m=>obtain⟨b,j,rfl,hj,_⟩:=hy;rw[zzr0 (by intro z;cases z)];exact SeqAt.RcNeAt.int_tuple i t hj (by omega)
   |s m=>obtain⟨b,j,rfl,hj,_⟩:=hy;rw[zzr0 (by intro z;cases z)];exact SeqAt.RcNeAt.int_list i t hj (by omega)
  ·cases y with
   |k b =>
    rw[zI];rcases av (show cM b v=true from hy)with⟨j,t',rfl,rfl⟩|⟨j,t',rfl,rfl⟩
    ·rw[uY];exact SeqAt.RcNeAt.str_int i t j t'
    ·rw[uX];have:=SeqAt.RcNeAt.str_str (A:=A) (s:=s) i t j t';rwa[show(i==j)=decide (i=j)from by by_cases e:i=j<;>simp[e]]at this
   |t m=>obtain⟨b,j,rfl,hj,_⟩:=hy;rw[zzr0 (by intro z;cases z)];exact SeqAt.RcNeAt.str_tuple i t hj (by omega)
   |s m=>obtain⟨b,j,rfl,hj,_⟩:=hy;rw[zzr0 (by intro z;cases z)];exact SeqAt.RcNeAt.str_list i t hj (by omega)
 |t l =>
  obtain⟨a,i,rfl,hi,hx⟩:=hx;cases y with
  |k b =>
   rw[zzr0 (by intro z;cases z)];rcases av (show cM b v=true from hy)with⟨j,t',rfl,rfl⟩|⟨j,t',rfl,rfl⟩
   ·exact SeqAt.RcNeAt.tuple_int j t' hi (by omega)
   ·exact SeqAt.RcNeAt.tuple_str j t' hi (by omega)
  |t m =>
   obtain⟨b,j,rfl,hj,hy⟩:=hy;have dm:DT.depths m<=13:=by have:DT.depths m+1<=14:=dy;omega
   have r:=SeqAt.RcNeAt.tuples (A:=A) hi hj (by omega) (nG (by omega) dm hx hy);rw[yR hx hy]at r;rw[DK];exact r
  |s m=>obtain⟨b,j,rfl,hj,_⟩:=hy;rw[zzr0 (by intro z;cases z)];exact SeqAt.RcNeAt.tuple_list hi hj (by omega)
 |s l =>
  obtain⟨a,i,rfl,hi,hx⟩:=hx;cases y with
  |k b =>
   rw[zzr0 (by intro z;cases z)];rcases av (show cM b v=true from hy)with⟨j,t',rfl,rfl⟩|⟨j,t',rfl,rfl⟩
   ·exact SeqAt.RcNeAt.list_int j t' hi (by omega)
   ·exact SeqAt.RcNeAt.list_str j t' hi (by omega)
  |t m=>obtain⟨b,j,rfl,hj,_⟩:=hy;rw[zzr0 (by intro z;cases z)];exact SeqAt.RcNeAt.list_tuple hi hj (by omega)
  |s m =>
   obtain⟨b,j,rfl,hj,hy⟩:=hy;have dm:DT.depths m<=13:=by have:DT.depths m+1<=14:=dy;omega
   have li:=hx.length;have lj:=hy.length;simp only[jW]at li lj;rw[DM];by_cases e:l.length=m.length
   ·have r:=SeqAt.RcNeAt.lists (A:=A) hi hj (by omega) (by omega) (nG (by omega) dm hx hy);rw[<-li,eW e]at r;exact r
   ·rw[zzr0 fun z=>e (by rw[z])];exact SeqAt.RcNeAt.lists_lengths hi hj (by simp;omega) (by omega)
end
mutual
def gL(K:Za)(H:Hp):DT->V->Prop
 |.k a,v=>v=kV a
 |.t l,v=>∃b xs,v=.ref b/\be K H b xs/\DIns K H l xs
 |.s l,v=>∃b xs,v=.ref b/\aw K H b xs/\DIns K H l xs
def DIns(K:Za)(H:Hp):List DT->List V->Prop
 |[],vs=>vs=[]
 |k::r,vs=>∃v us,vs=v::us/\gL K H k v/\DIns K H r us
end
section
variable{X:Cx}{J6:Zd}{σ:St}{H:Hp}{s:Shared}
theorem gf(I:Inv X J6 σ H s):∀(d:Nat) {k:DT}{v:V}{u:Value},k.depth<=d->gL X.K H k v->RelV v u->nQ s.heap k u:=by
 have key:∀(d:Nat) (ih:∀{k:DT}{v:V}{u:Value},k.depth<=d->gL X.K H k v->RelV v u->nQ s.heap k u) (ks:List DT) (vs:List V) (us:Zf),DT.depths ks<=d->DIns X.K H ks vs->aW vs us->DAts s.heap ks us:=by
  intro d ih ks
  induction ks with
  |nil =>
   intro vs us _ hx r;have e:vs=[]:=hx;subst e;cases r
   rfl
  |cons k ks ihl =>
   intro vs us hd hx r;obtain⟨v,vs',rfl,h1,h2⟩:=hx;cases r with
   |@cons _ u _ us' r1 r2 =>
    have hd':max k.depth (DT.depths ks)<=d:=hd;exact⟨u,us',rfl,ih (by omega) h1 r1,ihl vs' us' (by omega) h2 r2⟩
 intro d
 induction d with
 |zero =>
  intro k v u hd hx r;cases k with
  |t l=>exact absurd hd (by show ¬(DT.depths l+1<=0);omega)
  |s l=>exact absurd hd (by show ¬(DT.depths l+1<=0);omega)
  |k b =>
   have e:v=kV b:=hx;subst e;exact pd (P:=X.prog) (w:=X.w) r
 |succ d ih =>
  intro k v u hd hx r;cases k with
  |k b =>
   have e:v=kV b:=hx;subst e;exact pd (P:=X.prog) (w:=X.w) r
  |t l =>
   obtain⟨b,xs,rfl,hb,hi⟩:=hx;cases(show u=Value.ref b from r);obtain⟨its,rv,ht,_⟩:=I.tuple hb;exact⟨b,its.toArray,rfl,ht,by simpa using key d (fun h1=>ih h1) l xs its (by have:DT.depths l+1<=d+1:=hd;omega) hi rv⟩
  |s l =>
   obtain⟨b,xs,rfl,hb,hi⟩:=hx;cases(show u=Value.ref b from r);obtain⟨its,rv,ht,_⟩:=I.list hb;exact⟨b,its.toArray,rfl,ht.isList,by simpa using key d (fun h1=>ih h1) l xs its (by have:DT.depths l+1<=d+1:=hd;omega) hi rv⟩
theorem kK(I:Inv X J6 σ H s):∀{ks:List DT}{vs:List V}{us:Zf},DT.depths ks<=8->DIns X.K H ks vs->aW vs us->DAts s.heap ks us
 |[],vs,us,_,hx,r=>by
  have e:vs=[]:=hx;subst e;cases r
  rfl
 |k::ks,vs,us,hd,hx,r=>by
  obtain⟨v,vs',rfl,h1,h2⟩:=hx;cases r with
  |@cons _ u _ us' r1 r2 =>
   have hd':max k.depth (DT.depths ks)<=8:=hd;exact⟨u,us',rfl,gf I 8 (by omega) h1 r1,kK I (by omega) h2 r2⟩
end
def sF(K:Za):R2:=fun x y H Q=>∃d e:DT,gL K H d x/\gL K H e y/\d.depth<=8/\e.depth<=8/\Q (.bl (decide (d=e))) H
def EO(K:Za):R2:=fun x y H Q=>∃d e:DT,gL K H d x/\gL K H e y/\d.depth<=8/\e.depth<=8/\Q (.bl (!decide (d=e))) H
section
variable{X:Cx}
theorem jw(hu:X.A.units+16<cLine):kn X (cJ .Eq) (sF X.K):=by
 intro J6 s σ H x y v u Q I rx ry h;obtain⟨d,e,hx,hy,dx,dy,q⟩:=h;exact DG (bq dy (by decide)) hu (gf I 8 dx hx rx) (gf I 8 dy hy ry) X.prog X.w X.xe _ ⟨.bl _,H,I,rfl,q⟩
theorem Eh(hu:X.A.units+16<cLine):kn X (cJ .NotEq) (EO X.K):=by
 intro J6 s σ H x y v u Q I rx ry h;obtain⟨d,e,hx,hy,dx,dy,q⟩:=h;exact DH (bq dy (by decide)) hu (gf I 8 dx hx rx) (gf I 8 dy hy ry) X.prog X.w X.xe _ ⟨.bl _,H,I,rfl,q⟩
def xE(K:Za):R2:=fun x y H Q=>∃d e:DT,gL K H d x/\gL K H e y/\d.depth<=40/\e.depth<=14/\Q (.bl (decide (d=e))) H
def m9(K:Za):R2:=fun x y H Q=>∃d e:DT,gL K H d x/\gL K H e y/\d.depth<=40/\e.depth<=14/\Q (.bl (!decide (d=e))) H
theorem xN(hu:X.A.units+16<cLine):kn X (cJ .Eq) (xE X.K):=by
 intro J6 s σ H x y v u Q I rx ry h;obtain⟨d,e,hx,hy,dx,dy,q⟩:=h;exact DG dy hu (gf I 40 dx hx rx) (gf I 14 dy hy ry) X.prog X.w X.xe _ ⟨.bl _,H,I,rfl,q⟩
theorem lU(hu:X.A.units+16<cLine):kn X (cJ .NotEq) (m9 X.K):=by
 intro J6 s σ H x y v u Q I rx ry h;obtain⟨d,e,hx,hy,dx,dy,q⟩:=h;exact DH dy hu (gf I 40 dx hx rx) (gf I 14 dy hy ry) X.prog X.w X.xe _ ⟨.bl _,H,I,rfl,q⟩
def uN(K:Za)(neg:Bool):R2:=fun x y H Q=>∃(d:DT) (ds:List DT) (p:Addr) (xs:List V),gL K H d x/\y=.ref p/\(aw K H p xs∨be K H p xs)/\DIns K H ds xs/\d.depth<=8/\DT.depths ds<=8/\Q (.bl (if neg then !decide (d∈ds)else decide (d∈ds))) H
open Classical in
theorem nK{h:Heap}{d:DT}(d8:d.depth<=8):∀{ds:List DT}{us:Zf},DAts h ds us->DT.depths ds<=8->us.any (fun u=>@decide (nQ h d u) (propDecidable _))=decide (d∈ds)
 |[],us,e,_=>by
  have e':us=[]:=e;subst e'
  rfl
 |x::ds,us,e,hd=>by
  obtain⟨u,us',rfl,h1,h2⟩:=e;have hd':max x.depth (DT.depths ds)<=8:=hd;rw[ui,nK d8 h2 (by omega)];by_cases q:d=x
  ·subst q;simp[h1]
  ·have n:¬nQ h d u:=fun z=>q (nQ.inj 8 d8 z h1);simp[n,q]
open Classical in
theorem oE{A:Around}{s:Shared}{d:DT}{v:Value}(d8:d.depth<=8)(hu:A.units+8<cLine)(hd:nQ s.heap d v):∀{ds:List DT}{us:Zf},DAts s.heap ds us->DT.depths ds<=8->∀u∈us,aQ A s u v (@decide (nQ s.heap d u) (propDecidable _))
 |[],us,e,_,u,hm=>by
  have e':us=[]:=e;subst e';cases hm
 |x::ds,us,e,h8,u,hm=>by
  obtain⟨u',us',rfl,h1,h2⟩:=e;have h8':max x.depth (DT.depths ds)<=8:=h8;rcases cR.mp hm with rfl|hm
  ·have q:=DJ 8 (A:=A) d8 hu h1 hd;by_cases z:x=d
   ·subst z;rw[zzr1 h1];rwa[zzr1 rfl]at q
   ·have n:¬nQ s.heap d u:=fun w=>z (nQ.inj 8 d8 w h1).symm;rw[zzr0 n];rwa[zzr0 z]at q
  ·exact oE d8 hu hd h2 (by omega) u hm
theorem Bx(hu:X.A.units+16<cLine):kn X (cJ .In) (uN X.K false):=by
 intro J6 s σ H x y v u Q I rx ry h;obtain⟨d,ds,p,xs,hx,rfl,hq,hds,d8,ds8,q⟩:=h;cases ry;have hd:=gf I 8 d8 hx rx;have hu':X.A.in1.units+8<cLine:=by show X.A.units+1+8<cLine;omega
 rcases hq with hq|hq
 ·obtain⟨its,r,pl,hz⟩:=I.list hq;have hi:=kK I ds8 hds r;refine SeqAt.in_listAt _ pl.isList (fun w hw=>oE d8 hu' hd hi ds8 w (by simpa using hw)) ⟨.bl _,H,I,rfl,?_⟩;rw[t6,nK d8 hi ds8];exact q
 ·obtain⟨its,r,pl,hz⟩:=I.tuple hq;have hi:=kK I ds8 hds r;refine SeqAt.in_tupleAt _ pl (fun w hw=>oE d8 hu' hd hi ds8 w (by simpa using hw)) ⟨.bl _,H,I,rfl,?_⟩;rw[t6,nK d8 hi ds8];exact q
theorem i3(hu:X.A.units+16<cLine):kn X (cJ .NotIn) (uN X.K true):=by
 intro J6 s σ H x y v u Q I rx ry h;obtain⟨d,ds,p,xs,hx,rfl,hq,hds,d8,ds8,q⟩:=h;cases ry;have hd:=gf I 8 d8 hx rx;have hu':X.A.in1.units+8<cLine:=by show X.A.units+1+8<cLine;omega
 rcases hq with hq|hq
 ·obtain⟨its,r,pl,hz⟩:=I.list hq;have hi:=kK I ds8 hds r;refine SeqAt.notIn_listAt _ pl.isList (fun w hw=>oE d8 hu' hd hi ds8 w (by simpa using hw)) ⟨.bl _,H,I,rfl,?_⟩;rw[t6,nK d8 hi ds8];exact q
 ·obtain⟨its,r,pl,hz⟩:=I.tuple hq;have hi:=kK I ds8 hds r;refine SeqAt.notIn_tupleAt _ pl (fun w hw=>oE d8 hu' hd hi ds8 w (by simpa using hw)) ⟨.bl _,H,I,rfl,?_⟩;rw[t6,nK d8 hi ds8];exact q
end
def rL(z:Str)(lo hi:Option Int):Str:=⟨((z.cps.toList.drop (HT.sIx z.length 0 lo)).take (HT.sIx z.length z.length hi-HT.sIx z.length 0 lo)).toArray⟩
theorem sliceRange_one(a b:Nat):sliceRange (a:Int) (b:Int) 1=(mF (b-a)).map (fun k=>a+k):=by
 unfold sliceRange;simp only[show(1:Int) > 0 from by decide,if_true];by_cases h:(a:Int)<(b:Int)
 ·have e:(if(a:Int)<(b:Int)then((b:Int)-a+1-1) / 1 else 0).toNat=b-a:=by rw[if_pos h];omega
  rw[e];exact List.map_congr_left fun k _=>by omega
 ·have e:(if(a:Int)<(b:Int)then((b:Int)-a+1-1) / 1 else 0).toNat=b-a:=by rw[if_neg h];omega
  rw[e];exact List.map_congr_left fun k _=>by omega
theorem wD(v:Option Int)(n d:Nat):(match v with|none=>(d:Int)|some i=>max 0 (min (if i<0 then i+(n:Int)else i) (n:Int)))=((HT.sIx n d v:Nat):Int):=by
 cases v with
 |none=>rfl
 |some i =>
  rw[<-HT.clip_eq i n d];dsimp only;by_cases h:i<0
  ·rw[if_pos h,if_pos h];omega
  ·rw[if_neg h,if_neg h];omega
theorem mV(lo hi:Option Int)(n:Nat):qz lo hi 1 n=(mF (HT.sIx n n hi-HT.sIx n 0 lo)).map (fun k=>HT.sIx n 0 lo+k):=by
 have e1:=wD lo n 0;have e2:=wD hi n n;rw[<-sliceRange_one,<-e1,<-e2];unfold qz;simp only[show(1:Int) > 0 from by decide,if_true];cases lo<;>cases hi<;>rfl
theorem Aa(z:Str)(lo hi:Option Int):Txt.slice z lo hi=rL z lo hi:=by
 have ha:HT.sIx z.length 0 lo<=z.length:=HT.sIx_le _ _ (cQ _) _;have hb:HT.sIx z.length z.length hi<=z.length:=HT.sIx_le _ _ (aG _) _;have hlen:z.cps.toList.length=z.length:=by simp[Str.length]
 have pick:(qz lo hi 1 z.length).filterMap (z.cps[·]?)=(z.cps.toList.drop (HT.sIx z.length 0 lo)).take (HT.sIx z.length z.length hi-HT.sIx z.length 0 lo):=by
  rw[mV];generalize HT.sIx z.length 0 lo=a at *;generalize HT.sIx z.length z.length hi=b at *;have h:=StrLaws.picks z.cps.toList (b-a) a (by omega);simpa using h
 unfold Txt.slice;by_cases h:((1:Int)==1 && (qz lo hi 1 z.length).length==z.length)=true
 ·rw[if_pos h];have hl:(qz lo hi 1 z.length).length=z.length:=by simpa using h
  rw[mV,ak,List.length_range]at hl;unfold rL;have a0:HT.sIx z.length 0 lo=0:=by omega
  have bn:HT.sIx z.length z.length hi-HT.sIx z.length 0 lo=z.cps.toList.length:=by omega
  rw[bn,a0,nZ,bj]
 ·rw[if_neg h];unfold rL;rw[pick]
section
variable{X:Cx}
def CO:V->Option Int->Option Int->Hp->VK->Prop:=fun x lo hi H Q=>∃z,x=.str z/\z.length<=aj/\Q (.str (rL z lo hi)) H
theorem xo:SlR X CO:=by
 intro J6 s σ H x v vl vu lo hi sl Q I rx hs pl pu h;obtain⟨z,rfl,hz,q⟩:=h;obtain⟨t,rfl⟩:=rx;rw[<-Aa]at q;refine⟨"str",_,F.slot_str_getitem.lookup,typeIs_str _ _ _,?_⟩;obtain⟨o,ho,hc,hd⟩:=hs;have fin:∀(l u:Option (Int×Tok)),vl=partValue l->vu=partValue u->lo=l.map (·.1)->hi=u.map (·.1)->wpAny (model X.prog X.w) X.A (lG (.str z t) (.ref sl)) (EP X J6 σ Q) X.xe s:=by
  rintro l u rfl rfl rfl rfl;refine wpAny_getItem_str_slice (l:=l) (u:=u) (st:=none) ⟨o,ho,hc,hd⟩ rfl (post_val_or_str ⟨bq (Txt.slice_le z _ _) hz,fun t' k=>⟨.str _,H,I.tok _,⟨_,rfl⟩,q⟩⟩)
 cases pl with
 |none =>
  cases pu with
  |none=>exact fin none none rfl rfl rfl rfl
  |int j u=>exact fin none (some (j,u)) rfl rfl rfl rfl
 |int i t' =>
  cases pu with
  |none=>exact fin (some (i,t')) none rfl rfl rfl rfl
  |int j u=>exact fin (some (i,t')) (some (j,u)) rfl rfl rfl rfl
def Dv(K:Za):V->List V->Hp->VK->Prop:=fun x vs H Q=>∃z p ys,x=.str z/\vs=[.ref p]/\aw K H p (ys.map V.str)/\(ys.map (·.length)).sum+ys.length * z.length<=16777216/\Q (.str (t5 z ys)) H
theorem CA{ys:Zb}:∀{us:Zf},aW (ys.map V.str) us->StrsAre us ys:=by
 induction ys with
 |nil=>intro us r;cases r;exact .nil
 |cons y ys ih =>
  intro us r;cases r with
  |cons r1 r2 =>
   obtain⟨t,rfl⟩:=r1;exact .cons _ _ (ih r2)
theorem C3:EE X "str.join" (Dv X.K):=by
 intro J6 s σ H x vs v us Q I rx rv h;obtain⟨z,p,ys,rfl,rfl,hq,hz,q⟩:=h;obtain⟨t,rfl⟩:=rx;obtain⟨u,rfl,ru⟩:=rv.one;cases ru;obtain⟨its,r,pl,_⟩:=I.list hq;exact join_list pl.isList (by simpa using CA r) hz fun t' k=>⟨.str _,H,I.tok _,⟨_,rfl⟩,q⟩
end
section
variable{X:Cx}
def zQ(K:Za)(H:Hp)(x:V)(t:Value):Prop:=gg K H x t∨(∃a xs,x=.ref a/\t=.type "tuple"/\be K H a xs)∨(∃a xs,x=.ref a/\t=.type "list"/\aw K H a xs)
theorem xU{J6:Zd}{σ:St}{H:Hp}{s:Shared}{A:Around}{E:Zc}{Q:Zc}{c:Value}{b:Bool}{x:V}{u t:Value}(I:Inv X J6 σ H s)(rx:RelV x u)(ty:zQ X.K H x t)(e:mB X.K t c=some b)(h:∀tk,Q (.bool b) { s with toks:=tk }):
  wpAny (model X.prog X.w) A (call (.builtin "isinstance") [u,c]) Q E s:=by
 rcases ty with ty|⟨a,xs,rfl,rfl,q⟩|⟨a,xs,rfl,rfl,q⟩
 ·exact Ax I rx ty e h
 ·cases(show u=Value.ref a from rx);obtain⟨its,rv,p,hz⟩:=I.tuple q;obtain⟨o,h1,h2,_⟩:=p;exact iN PySem.W.kitx_tuple I.kIn ⟨o,h1,h2⟩ e (fun z=>nomatch z) h
 ·cases(show u=Value.ref a from rx);obtain⟨its,rv,p,hz⟩:=I.list q;obtain⟨o,n,h1,h2,_⟩:=p;exact iN PySem.W.kitx_list I.kIn ⟨o,h1,h2⟩ e (fun z=>nomatch z) h
theorem cY:fU X (.builtin "isinstance") (fun xs H Q=>∃x c t b,xs=[x,.ty c]/\zQ X.K H x t/\mB X.K t (.type c)=some b/\Q (.bl b) H):=by
 intro J6 s σ H xs us Q I r h;obtain⟨x,c,t,b,rfl,ty,hk,q⟩:=h;obtain⟨u,v,rfl,ru,rv⟩:=vals2 r;cases(show v=Value.type c from rv);exact xU I ru ty hk fun tk=>⟨.bl b,H,I.tok _,rfl,q⟩
theorem Es{bs:List Bool}{us:Zf}(r:aW (bs.map V.bl) us){i:Nat}{v:Value}(h:us[i]?=some v):v=.bool ((bs[i]?).getD false)/\i<bs.length:=by
 have hi:i<us.length:=(bJ.mp h).1;have hl:=r.length;rw[ak]at hl;have hb:i<bs.length:=by omega
 obtain⟨u,hu,ru⟩:=r.get (i:=i) (x:=V.bl bs[i]) (by simp[hb]);rw[h]at hu;cases hu;refine⟨?_,hb⟩;rw[bR hb];exact ru
theorem vh(bs:List Bool):((mF bs.length).all fun i=>(bs[i]?).getD false)=bs.all id:=by
 induction bs with
 |nil=>rfl
 |cons b bs ih =>
  rw[eG,List.range_succ_eq_map,List.all_cons,List.all_map,List.all_cons,<-ih]
  rfl
theorem ph(hc:X.calm=true):fU X (.builtin "all") (fun xs H Q=>∃(p:Addr) (bs:List Bool),xs=[.ref p]/\aw X.K H p (bs.map V.bl)/\Q (.bl (bs.all id)) H):=by
 intro J6 s σ H xs us Q I r h;obtain⟨p,bs,rfl,hq,q⟩:=h;obtain⟨u,rfl,ru⟩:=vals1 r;cases ru;obtain⟨its,rv,pl,hz⟩:=I.list hq;obtain⟨o,n,ho,_⟩:=id pl;have hl:=rv.length;rw[ak]at hl;refine call_all_walk (yL pl.isList ?_);refine⟨s.heap.objs.size,_,_,_,_,_,fun i=>(bs[i]?).getD false,rfl,Walks.list (prog:=X.prog) (w:=X.w) (A:=X.A.in1) (I.ok.hd hc) s.heap.objs.size p (b9 (az ho)) its.toArray,⟨⟨_,cz _ rfl,rfl,rfl⟩,pl.isList.push _⟩,?_,?_⟩
 ·intro i v s' Q' E' hv hq';obtain⟨e,_⟩:=Es rv (i:=i) (v:=v) (by simpa using hv);rw[e];exact qw hq'
 ·intro h' tk hk;have I':Inv X J6 σ H { s with heap:=h',toks:=tk }:=I.kept fun b o e=>hk b o (by simp;exact b9 (az e)) (aS _ e);rw[bu,<-hl,vh];exact⟨.bl _,H,I',rfl,q⟩
theorem xM:kn X (cJ .In) (fun x y H Q=>∃c j,x=.str ⟨#[c]⟩/\y=.str j/\Q (.bl (decide (c∈j.cps.toList))) H):=by
 intro J6 s σ H x y v u Q I rx ry h;obtain⟨c,j,rfl,rfl,q⟩:=h;rw[<-StrLaws.found_one]at q;exact Al J6 s σ H _ _ v u Q I rx ry ⟨_,_,rfl,rfl,q⟩
theorem rQ(hc:X.calm=true):fU X (.type "list") (fun xs H Q=>∃(d:Addr) (kvs:List (ei×V)),xs=[.ref d]/\Rd H d (.dK kvs)/\∀l,H l=none->Q (.ref l) (upd H l (.lst (kvs.map fun kv=>kV kv.1)))):=by
 intro J6 s σ H xs us Q I r h;obtain⟨d,kvs,rfl,hd,q⟩:=h;obtain⟨u,rfl,ru⟩:=vals1 r;cases ru;obtain⟨z,hsys,vs,rel,dd⟩:=pf I.hok hd;obtain⟨ep,hat⟩:=dd.dictAt;have hl:=rel.length;refine PySem.W.kdl_call (PySem.W.kdl_dict (knd:=bV X.prog X.w) (kvs:=vs) (ep:=ep) hsys) (I.ok.hd hc) hat (by rw[<-hl];exact z) fun h' tk acc c hk hD hacc=>?_;have hv:aW (kvs.map fun kv=>kV kv.1) acc.toList:=by
  obtain⟨hn,hP⟩:=hacc;have key:∀(a:Zf) (ks:List (ei×V)) (ws:List (ei×Value)),KV ks ws->a.length=ws.length->(∀(j:Nat) (v:Value),a[j]?=some v->∃k x,ws[j]?=some (k,x)/\(bV X.prog X.w).is k v=true)->aW (ks.map fun kv=>kV kv.1) a:=by
   intro a ks ws rl
   induction rl generalizing a with
   |nil=>intro ha _;cases a with
    |nil=>exact .nil
    |cons _ _=>cases ha
   |@cons p w' ps ws' hp _ ih =>
    intro ha hj;cases a with
    |nil=>cases ha
    |cons v a =>
     obtain⟨k,x,e,hk⟩:=hj 0 v rfl;have e':w'=(k,x):=by simpa using e
     refine .cons ?_ (ih a (by simpa using ha) fun j v hv=>by simpa using hj (j+1) v (by simpa using hv));have ek:p.1=k:=by rw[hp.1,e']
     show RelV (kV p.1) v;rw[ek];rcases av (show cM k v=true from hk)with⟨i,t,rfl,rfl⟩|⟨i,t,rfl,rfl⟩
     ·exact⟨t,rfl⟩
     ·exact⟨t,rfl⟩
  exact key acc.toList kvs vs rel (by rw[jW];exact hn) fun j v hv=>hP j v (by rw[<-Array.getElem?_toList];exact hv)
 refine⟨.ref s.heap.objs.size,_,I.laid (o:=.lst (kvs.map fun kv=>kV kv.1)) hk (aG _) ⟨by rw[ak];exact z,acc.toList,c,hv,by rw[Array.toArray_toList];exact hD⟩,rfl,q _ I.fresh⟩
end
section
variable{prog:bx}{w:World}{K:Type}[DecidableEq K]{knd:HeapKind prog w K}{A:Around}{E:Zc}{s:Shared}
theorem qO{d a:Addr}{xs:List (K×Addr×Value)}{k:K}{v:Value}{Q:Zc}(hu:knd.room A)(hkey:knd.is s.heap k a)(hm:s.heap.DictOfH knd d xs)
  (there:∀p,atKey xs k=some p->Q p.2 { s with toks:=s.toks+knd.draws k })
  (new:atKey xs k=none->∀h',h'.DictOfH knd d (xs++[(k,a,v)])->d6 d s.heap h'->Q v { s with heap:=h',toks:=s.toks+knd.draws k })
  (hsz:xs.length<=aj):wpAny (model prog w) A (dictSetDefault d (.ref a) v) Q E s:=by
 obtain⟨o,es,ep,ho,hc,hd,he,his,hn⟩:=hm;unfold dictSetDefault
 try with_reducible refine iS ?_
 refine ai (knd.pyHash hu hkey ?_);refine ai (wpAny_dictFind_heap (s:={ s with toks:=s.toks+knd.draws k }) hu hkey ho hd he his hn ?_ ?_)
 ·intro hno;have hnot:k∉xs.map (·.1):=not_mem_keys_of_get hno;refine ai (mI (ai (wpAny_updateDictKeys (hz:=by have e:=size_of_entries he;omega) (s:={ s with toks:=s.toks+knd.draws k }) ho hd (aA (new (atKey_none_of_get hno) _ ⟨_,_,ep+1,j6 _ ho (Obj.isFreed_of_dict (Obj.data_mapDictKeys hd _)),
   hc.mapDictKeys _,Obj.data_mapDictKeys hd _,?_,?_,?_⟩ (n6 ..))))))
  ·simp[he,entryOfKey]
  ·intro x hx;rcases bp.mp hx with hx|hx
   ·exact knd.keeps (his x hx) ho hd (n6 ..)
   ·simp only[bM]at hx;subst hx;exact knd.keeps hkey ho hd (n6 ..)
  ·rw[ax,cB];refine⟨hn,by simp,?_⟩;intro x hx y hy;simp only[bh,ul,bM]at hy;subst hy;exact fun e=>hnot (e▸hx)
 ·intro j p hj;refine ai (t4 (s:={ s with toks:=s.toks+knd.draws k }) ho hd ?_);rw[entry_at he j,hj];exact ai (mI (aA (there p (atKey_of_get hn hj))))
theorem nv(knd:HeapKind prog w K)(d a:Addr)(hd:(d==gk)=false)(dflt:Value):
  MeetsIn prog w (aY.«dict.setdefault» ⟨[.ref d,.ref a,dflt],[]⟩) (fun A R s=>knd.room A.in1/\∃k xs,knd.is s.heap k a/\s.heap.DictOfH knd d xs/\xs.length<=aj /\
   (∀p,atKey xs k=some p->R (.ok (.ret p.2)) { s with toks:=s.toks+knd.draws k }) /\
   (atKey xs k=none->∀h',h'.DictOfH knd d (xs++[(k,a,dflt)])->d6 d s.heap h'->R (.ok (.ret dflt)) { s with heap:=h',toks:=s.toks+knd.draws k })) :=
 .of_wp fun A R s ⟨hu,k,xs,hkey,hm,hz,h1,h2⟩=>by
  unfold aY.«dict.setdefault»;refine ai ?_;unfold aY.Dict.keyAndDefault;refine ai (wpAny_notOrdered_dict hm.typeIs ?_);show wpAny _ _ (pure (d,Value.ref a,some dflt)) _ _ s;refine aA ?_;show wpAny _ _ (if(d==gk)=true then _ else(dictSetDefault d (.ref a) dflt >>= _)) _ _ s
  rw[if_neg (by rw[hd];exact fj)];exact ai (qO hu hkey hm (fun p hp=>aA ⟨p.2,rfl,h1 p hp⟩) (fun hn h' hm' hs'=>aA ⟨dflt,rfl,h2 hn h' hm' hs'⟩) hz)
end
section
variable{X:Cx}
def yX:V->List V->Hp->VK->Prop:=fun x vs H Q=>∃(d b:Addr) (kvs:List (TK×V)) (k:TK) (z:V),x=.ref d/\vs=[.ref b,z]/\H d=some (.dT kvs)/\eJ H k (.ref b)/\k.depth<=8/\kvs.length<aj /\
 (∀v,bU kvs k=some v->Q v H)/\(bU kvs k=none->Q z (upd H d (.dT (kvs++[(k,z)]))))
theorem An(hu:X.A.units+16<cLine):EE X "dict.setdefault" yX:=by
 intro J6 s σ H x vs v us Q I rx rv h;obtain⟨d,b,kvs,k,z,rfl,rfl,hd,hb,h8,hz,q1,q2⟩:=h;cases rx;obtain⟨u,v,rfl,ru,rz⟩:=rv.two;cases ru;obtain⟨_,hsys,xs,rel,dd⟩:=BV I.hok I.kIn hd;have hl:kvs.length=xs.length:=Paired.length rel;refine call_meetsIn PySem.F.slot_dict_setdefault dd.typeIs PySem.F.entry_dict_setdefault (PySem.F.args_dict_setdefault_3 _ _ _) (nv (ee X.prog X.w) d b hsys v)
  ⟨fq hu,k,xs,uZ I.hok I.kIn (eJ.c 8 h8 hb) h8,dd,by omega,fun p hp=>?_,fun hn h' dd' hs=>?_⟩
 ·have e:=rel.val k;rw[hp]at e;cases e2:bU kvs k with
  |none=>rw[e2]at e;exact e.elim
  |some y =>
   rw[e2]at e;exact⟨y,H,I.tok _,e,q1 y e2⟩
 ·have e:=rel.val k;rw[hn]at e;have e2:bU kvs k=none:=by
   cases e2:bU kvs k with
   |none=>rfl
   |some y=>rw[e2]at e;exact e.elim
  obtain⟨o,es,ep,hq,h2,h3,h4,_,h5⟩:=dd';refine⟨z,_,p7 (ob:=.dT (kvs++[(k,z)])) I (by rw[hd];exact iO) hs ⟨o,hq⟩ ⟨by rw[aE,qI];omega,hsys,_,KT.keeps (kvs:=kvs++[(k,z)]) (xs:=xs++[(k,b,v)]) (dC rel ⟨rfl,eJ.c 8 h8 hb,h8,rz⟩) fun c ys ec=>?_,o,es,ep,hq,h2,h3,h4,h5⟩,rz,q2 e2⟩;rw[ag (BB ec hd (fun z=>nomatch z))];exact ec
end
theorem ki:entryFor table "dict.update.loop"=some aY.«dict.update.loop»:=entryFor_of_fast (by kernel_rfl)
theorem eT:plainId "dict.update.loop"=true:=by decide +kernel
theorem uR:qK (.type "list") "keys"=pure none:=am_miss_of_fast (by decide +kernel)
section
variable{prog:bx}{w:World}{A:Around}{E:Zc}{s:Shared}
theorem Aq{a:Addr}{o:Obj}{xs:Array Value}{k:Nat}{Q:Option Value->Shared->Prop}(hx:s.heap.get? a=some o)(hc:o.cls=.type "list")(hdat:o.data=.seq xs k)(hd:o.dict=none)(hA:A.handled=none)
  (h:∀h' tk,(∀b ob,s.heap.get? b=some ob->h'.get? b=some ob)->Q none { s with heap:=h',toks:=tk }):wpAny (model prog w) A (getAttr? (.ref a) "keys") Q E s:=by
 obtain⟨c,dct,dat,sl⟩:=o;simp only at hc hdat hd;subst hc hdat hd;obtain⟨hp,g,d,tk,os⟩:=s;have hT:∀tk',(⟨hp,g,d,tk',os⟩:Shared).TypeIs (.ref a) "list":=fun _=>⟨_,hx,rfl⟩;have f1:=sub_AttributeError;have f3:=F.slot_list_getattribute.lookup;have f4:=F.slot_list_getattribute.bind (.ref a);have f5:=am_list_getattr_none;unfold getAttr? getAttrBy? getAttrBy
 repeat (any_goals (first|assumption|exact hT _|((with_reducible show wpAny _ _ (call (Value.builtin "list.__getattribute__") _ _) _ _ _);refine qJ F.slot_list_getattribute (hT _) am_entry_list_getattribute (F.args_list_getattribute_2 _ _) (meets_getattribute_miss_list a xs k sl "keys" _ uR (by decide +kernel) (by decide +kernel)) ⟨hx,hA,fun h' tk' e hx'=>?_⟩)|wp_step))
 obtain⟨t',u',he⟩:=hx'.there;show wpAny _ _ (getattributeRaised _ _ _ _ _ _ _) _ _ _;unfold getattributeRaised hookOrError attributeErrorLeaves
 repeat (any_goals (first|assumption|wp_step))
 all_goals first|exact h _ _ hx'.keeps|trace_state
def yn(h:Heap)(u:Value)(kv:ei×Value):Prop:=∃t ku,u=.ref t/\h.IsTuple t #[ku,kv.2]/\cM kv.1 ku=true
theorem xn{κ:Type}[DecidableEq κ](kvs:List (κ×Value))(k:κ)(v:Value):(stored kvs k v).length<=kvs.length+1:=by
 unfold stored;split
 ·rw[ak];omega
 ·rw[aE,qI];exact aG _
theorem A4{R:Result->Shared->Prop}(hh:A.handled=none){D it l:Addr}{items:Array Value}{ps:List (ei×Value)}(hDi:D≠it)(hli:l≠it)(hlD:l≠D)(hps:ps.length=items.size):
  ∀(n i:Nat) (s:Shared) (acc:List (ei×Value)),items.size-i=n->i<=items.size->acc.length+(items.size-i)<=aj->s.heap.IsListIter it l i->s.heap.IsList l items->s.heap.DictOf (bV prog w) D acc ->
   (∀(j:Nat) (u:Value) (kv:ei×Value),items[j]?=some u->ps[j]?=some kv->yn s.heap u kv) ->
   (∀h' tk,h'.DictOf (bV prog w) D (merged acc (ps.drop i))->(∀b o,b≠D->b≠it->s.heap.get? b=some o->h'.get? b=some o)->R (.ok (.ret .none)) { s with heap:=h',toks:=tk }) ->
   zzl77 (model prog w) A (.builtin "dict.update.loop" ⟨[.ref D,.ref it,rawInt i,.none],[]⟩) R s:=by
 intro n
 induction n with
 |zero =>
  intro i s acc hn hi hz hit hl hD hp hR;have e:i=items.size:=by omega
  subst e;refine jf ki ?_;rw[je eT _];show wpAny _ A.in1 (pyNext (.ref it) >>= _) _ _ s;refine ai (wpAny_pyNext_list_end hh hit hl (by simp) fun h' eb=>?_);show wpAny _ _ (aY.Dict.addKeywords D [] >>= _) _ _ _;refine ai (aA (aA ?_));have hD':h'.DictOf (bV prog w) D acc:=hD.extBut eb hDi;have q:=hR h' s.toks (by rw[t3 (by omega)];exact hD') fun b o _ hb e=>eb b o hb e;exact q
 |succ n ih =>
  intro i s acc hn hi hz hit hl hD hp hR;have hlt:i<items.size:=by omega
  refine jf ki ?_;rw[je eT _];show wpAny _ A.in1 (pyNext (.ref it) >>= _) _ _ s;have hu:items[i]?=some items[i]:=by simp[hlt]
  have hk:ps[i]?=some ps[i]:=bR (by omega);obtain⟨t,ku,eu,ht,hku⟩:=hp i _ _ hu hk;refine ai (wpAny_pyNext_list_item hit hl (x:=items[i]) hu fun h1 hit1 hs1=>?_);rw[eu];have hs1':d6 it s.heap h1:=hs1;have nt:t≠it:=by
   rintro rfl;obtain⟨o,ho,hc,_⟩:=ht;obtain⟨o',ho',hc',_⟩:=hit;rw[ho]at ho';cases ho';rw[hc]at hc';simp at hc'
  have ht1:h1.IsTuple t #[ku,ps[i].2]:=ht.extBut hs1'.extBut nt;have hT1:Shared.TypeIs { s with heap:=h1 } (.ref t) "tuple":=ht1.typeIs (s:={ s with heap:=h1 });obtain⟨ot,got,hct,nt',hdt⟩:=id ht1;refine ai (iS ?_);refine ai (wpAny_tryCatch ?_);unfold aY.Dict.pairItems;refine ai (wpAny_typeOf hT1 ?_);rw[if_pos (by decide)];refine ai (iR got hdt (aA ?_));show wpAny _ _ (jX [ku,ps[i].2] (dictSet D ku ps[i].2)) _ _ _;have hD1:h1.DictOf (bV prog w) D acc:=hD.extBut hs1'.extBut hDi;refine iS (wpAny_dictSet_pairs (knd:=bV prog w) (k:=ps[i].1) hku hD1 (fun h2 hD2 hs2=>?_) (by omega));have hs2':d6 D h1 h2:=hs2;show wpAny _ _ (again _) _ _ _;refine aA ⟨jd eT _,?_⟩;have hl1:h1.IsList l items:=hl.extBut hs1'.extBut hli;have kp:∀b o,b≠D->b≠it->s.heap.get? b=some o->h2.get? b=some o:=fun b o h1 h2 e=>hs2'.extBut b o h1 (hs1'.extBut b o h2 e);refine ih (i+1) _ (stored acc ps[i].1 ps[i].2) (by omega) hlt (by have:=xn acc ps[i].1 ps[i].2;omega) (hit1.extBut hs2'.extBut (cA hDi)) (hl1.extBut hs2'.extBut hlD) hD2 (fun j u kv h1 h2=>?_) fun h' tk hD' kp'=>?_
  ·obtain⟨t2,ku2,e2,ht2,hk2⟩:=hp j u kv h1 h2;have n1:t2≠it:=by
    rintro rfl;obtain⟨o,ho,hc,_⟩:=ht2;obtain⟨o',ho',hc',_⟩:=hit;rw[ho]at ho';cases ho';rw[hc]at hc';simp at hc'
   have n2:t2≠D:=by
    rintro rfl;obtain⟨o,ho,hc,_⟩:=ht2;obtain⟨o',_,_,ho',hc',_⟩:=hD;rw[ho]at ho';cases ho';have:=hc'.1;rw[hc]at this;simp at this
   obtain⟨o,ho,r⟩:=ht2;exact⟨t2,ku2,e2,⟨o,kp _ o n2 n1 ho,r⟩,hk2⟩
  ·refine hR h' tk ?_ fun b o h1 h2 e=>kp' b o h1 h2 (kp b o h1 h2 e);have ed:ps.drop i=ps[i]::ps.drop (i+1):=tZ (by omega);rw[ed];exact hD'
theorem pK{l:Addr}{o:Obj}{items:Array Value}{n:Nat}{ps:List (ei×Value)}{Q:Zc}(hh:A.handled=none)(ho:s.heap.get? l=some o)(hc:o.cls=.type "list")(hdt:o.data=.seq items n)(hod:o.dict=none)
  (hps:ps.length=items.size) (hp:∀(j:Nat) (u:Value) (kv:ei×Value),items[j]?=some u->ps[j]?=some kv->yn s.heap u kv) (hz:items.size<=aj)
  (h:∀h' tk,h'.DictOf (bV prog w) s.heap.objs.size (merged [] ps)->(∀b o,s.heap.get? b=some o->h'.get? b=some o)->Q (.ref s.heap.objs.size) { s with heap:=h',toks:=tk }) :
  wpAny (model prog w) A (call (.type "dict") [.ref l]) Q E s:=by
 refine callType_codes (Q₁:=fun obj s₁=>obj=.ref s.heap.objs.size/\s₁={ s with heap:=s.heap.push { cls:=.type "dict",data:=.dict #[] } }) F.kt_called_dict (F.kt_typeCall_dict_1 _) F.entry_dict_init (kt_code_dict_new _ ⟨rfl,rfl⟩) ?_;rintro obj s₁ ⟨rfl,rfl⟩;have hnew:(s.heap.push { cls:=.type "dict",data:=.dict #[] }).DictOf (bV prog w) s.heap.objs.size []:=Heap.DictOf.new s.heap;have ho1:(s.heap.push { cls:=.type "dict",data:=.dict #[] }).get? l=some o:=aS _ ho;have hlt:l<s.heap.objs.size:=az ho;refine⟨hnew.typeIs,F.args_dict_init_2 _ _,?_⟩;unfold aY.«dict.__init__»;refine ai ?_;unfold aY.Dict.selfAndRest;refine ai (wpAny_notOrdered_dict hnew.typeIs ?_);show wpAny _ _ (pure (s.heap.objs.size,[Value.ref l])) _ _ _;refine aA ?_;show wpAny _ _ (aY.Dict.updateFrom "dict.__init__" s.heap.objs.size (.ref l) [] .none) _ _ _;unfold aY.Dict.updateFrom;have hTl:Shared.TypeIs { s with heap:=s.heap.push { cls:=.type "dict",data:=.dict #[] } } (.ref l) "list":=⟨o,ho1,hc⟩;refine ai (wpAny_typeOf hTl ?_);rw[if_pos (by decide)];refine ai (Aq ho1 hc hdt hod hh fun h1 tk1 k1=>?_);have k1':∀b ob,(s.heap.push { cls:=.type "dict",data:=.dict #[] }).get? b=some ob->h1.get? b=some ob:=k1;rw[if_pos (by rfl:(none:Option Value).isNone=true)];refine ai (mI ?_);have hl1:h1.IsList l items:=⟨o,k1' _ _ ho1,hc,n,hdt⟩;refine ai (yL (s:={ s with heap:=h1,toks:=tk1 }) hl1 ?_);have hD1:h1.DictOf (bV prog w) s.heap.objs.size []:=by
  obtain⟨od,es,ep,g,r⟩:=hnew;exact⟨od,es,ep,k1' _ _ g,r⟩
 have hDlt:s.heap.objs.size<h1.objs.size:=by
  obtain⟨od,es,ep,g,r⟩:=hD1;exact az g
 refine aA ⟨jd eT _,?_⟩;refine A4 (A:=A.in1) (prog:=prog) (w:=w) hh (D:=s.heap.objs.size) (it:=h1.objs.size) (l:=l) (items:=items) (ps:=ps) (b9 hDlt) (b9 (Nat.lt_trans hlt hDlt)) (b9 hlt) hps items.size 0 _ [] (tX _) (cQ _) (by rw[uh];omega)
  ⟨_,cz _ rfl,rfl,rfl⟩ (hl1.push _) (hD1.push _) (fun j u kv a b=>?_) fun h' tk hD' kp=>?_
 ·obtain⟨t,ku,e,ht,hk⟩:=hp j u kv a b;obtain⟨ot,g,r⟩:=ht;exact⟨t,ku,e,⟨ot,aS _ (k1' _ _ (aS _ g)),r⟩,hk⟩
 ·rw[nZ]at hD';refine⟨rfl,h h' tk hD' fun b ob e=>kp b ob (b9 (az e)) (b9 (Nat.lt_trans (az e) hDlt)) (aS _ (k1' _ _ (aS _ e)))⟩
end
section
variable{X:Cx}
theorem ve(hc:X.calm=true):fU X (.type "dict") (fun xs H Q=>∃(l:Addr) (ts:Ze) (kvs:List (ei×V)),xs=[.ref l]/\aw X.K H l (ts.map V.ref)/\ts.length=kvs.length /\
  (∀(j:Nat) (t:Addr) (kv:ei×V),ts[j]?=some t->kvs[j]?=some kv->H t=some (.tup [kV kv.1,kv.2]))/\∀p,H p=none->Q (.ref p) (upd H p (.dK (iG [] kvs)))):=by
 intro J6 s σ H xs us Q I r h;obtain⟨l,ts,kvs,rfl,hl,hlen,ht,q⟩:=h;obtain⟨u,rfl,ru⟩:=vals1 r;cases ru;obtain⟨its,rv,⟨o,n,ho,hcl,hod,hdt⟩,hz⟩:=I.list hl;have key:∀(ts:Ze) (kvs:List (ei×V)),ts.length=kvs.length->(∀(j:Nat) (t:Addr) (kv:ei×V),ts[j]?=some t->kvs[j]?=some kv->H t=some (.tup [kV kv.1,kv.2]))->∃ps:List (ei×Value),KV kvs ps/\∀(j:Nat) (t:Addr) (kv:ei×Value),ts[j]?=some t->ps[j]?=some kv->yn s.heap (.ref t) kv:=by
  intro ts
  induction ts with
  |nil =>
   intro kvs hl _;cases kvs with
   |nil=>exact⟨[],.nil,fun j t kv e=>by simp at e⟩
   |cons _ _=>cases hl
  |cons t ts ih =>
   intro kvs hl ht;cases kvs with
   |nil=>cases hl
   |cons kv kvs =>
    obtain⟨ps,r1,r2⟩:=ih kvs (by simpa using hl) fun j t' kv' a b=>ht (j+1) t' kv' (by simpa using a) (by simpa using b);obtain⟨_,itt,rt,p⟩:=(show bP X.prog X.w X.K H s.heap t (.tup [kV kv.1,kv.2])from I.hok t _ (ht 0 t kv rfl rfl));obtain⟨a,b,e,ra,rb⟩:=rt.two;subst e;refine⟨(kv.1,b)::ps,.cons ⟨rfl,rb⟩ r1,fun j t' kv' h1 h2=>?_⟩;cases j with
    |zero =>
     simp at h1 h2;subst h1 h2;exact⟨t,a,rfl,p,pd (P:=X.prog) (w:=X.w) ra⟩
    |succ j=>exact r2 j t' kv' (by simpa using h1) (by simpa using h2)
 obtain⟨ps,rel,pa⟩:=key ts kvs hlen ht;have hl1:=rv.length;rw[ak]at hl1;have hl2:=rel.length;refine pK (prog:=X.prog) (w:=X.w) (ps:=ps) (I.ok.hd hc) ho hcl hdt hod (by rw[bu];omega) (fun j u kv a b=>?_) (by rw[bu,<-hl1];rw[ak]at hz;exact hz) fun h' tk hD kp=>?_
 ·have a':its[j]?=some u:=by simpa using a
  have hj:j<ts.length:=by
   have:=(bJ.mp a').1;omega
  obtain⟨u',e1,r1⟩:=rv.get (i:=j) (x:=V.ref ts[j]) (by simp[hj]);rw[a']at e1;cases e1;cases(show u=Value.ref ts[j]from r1);exact pa j ts[j] kv (by simp[hj]) b
 ·have hm:(iG [] kvs).length<=aj:=by
   have h1:=lb kvs [];rw[uh]at h1;rw[ak]at hz;omega
  exact⟨.ref s.heap.objs.size,_,I.laid (o:=.dK (iG [] kvs)) kp (aG _) (BX hm (beq_eq_false_iff_ne.mpr (cA (b9 I.big))) (rel.merge .nil) hD),rfl,q _ I.fresh⟩
end
abbrev eO:R2:=yZ fun i j=>.int (i+j)
abbrev EM:R2:=yZ fun i j=>.int (i-j)
abbrev j_:R2:=rI Ck fun i j=>.int (i * j)
abbrev ii:R2:=rI (fun _ j=>0<j) fun i j=>.int (i % j)
abbrev Bo:R2:=rI Fn fun i j=>.int (i / j)
abbrev Du:R2:=rI Fm fun i j=>.int (i ^ j.toNat)
abbrev CP:R2:=yZ fun i j=>.bl (decide (i<j))
abbrev rLeI:R2:=yZ fun i j=>.bl (decide (i<=j))
abbrev DZ:R2:=yZ fun i j=>.bl (decide (j<i))
abbrev rGeI:R2:=yZ fun i j=>.bl (decide (j<=i))
abbrev Dw:R2:=fun x y H Q=>∃i j,x=.str i/\y=.str j/\i.length+j.length<=aj/\Q (.str (i++j)) H
abbrev rInS:R2:=fun x y H Q=>∃c j,x=.str ⟨#[c]⟩/\y=.str j/\Q (.bl (decide (c∈j.cps.toList))) H
abbrev Bn:R2:=fun x y H Q=>∃b,y=.bl b/\Q (.bl (decide (x=.bl b))) H
abbrev f8(K:Za):List V->Hp->VK->Prop:=fun xs H Q=>∃x c t b,xs=[x,.ty c]/\zQ K H x t/\mB K t (.type c)=some b/\Q (.bl b) H
abbrev ES(K:Za):List V->Hp->VK->Prop:=fun xs H Q=>∃(p:Addr) (bs:List Bool),xs=[.ref p]/\aw K H p (bs.map V.bl)/\Q (.bl (bs.all id)) H
abbrev yW(K:Za):List V->Hp->VK->Prop:=fun xs H Q=>∃p ys,xs=[.ref p]/\((aw K H p ys/\∀l,H l=none->Q (.ref l) (upd H l (.tup ys)))∨(be K H p ys/\Q (.ref p) H))
abbrev CQ(K:Za):List V->Hp->VK->Prop:=fun xs H Q=>∃(l:Addr) (ts:Ze) (kvs:List (ei×V)),xs=[.ref l]/\aw K H l (ts.map V.ref)/\ts.length=kvs.length /\
  (∀(j:Nat) (t:Addr) (kv:ei×V),ts[j]?=some t->kvs[j]?=some kv->H t=some (.tup [kV kv.1,kv.2]))/\∀p,H p=none->Q (.ref p) (upd H p (.dK (iG [] kvs)))
abbrev de(K:Za):List V->Hp->VK->Prop:=fun xs H Q =>
 (∃p ys,xs=[.ref p]/\(aw K H p ys∨be K H p ys)/\∀l,H l=none->Q (.ref l) (upd H l (.lst ys))) ∨
 (∃(d:Addr) (kvs:List (ei×V)),xs=[.ref d]/\Rd H d (.dK kvs)/\∀l,H l=none->Q (.ref l) (upd H l (.lst (kvs.map fun kv=>kV kv.1))))
abbrev dL(K:Za):List V->Hp->VK->Prop:=fun xs H Q =>
 (∃p ys,xs=[.ref p]/\(aw K H p ys∨be K H p ys)/\Q (.int ys.length) H)∨(∃z,xs=[.str z]/\z.length<=aj/\Q (.int z.length) H)
theorem cZ:ic "isinstance"=some (.builtin "isinstance"):=by decide +kernel
theorem l_:ic "list"=some (.type "list"):=by decide +kernel
theorem fR:ic "tuple"=some (.type "tuple"):=by decide +kernel
theorem yi:ic "dict"=some (.type "dict"):=by decide +kernel
theorem yj:ic "bool"=some (.type "bool"):=by decide +kernel
theorem AO:ic "int"=some (.type "int"):=by decide +kernel
theorem AN:ic "str"=some (.type "str"):=by decide +kernel
section
variable{X:Cx}{p pos:Pos}
theorem AM:fU X (.builtin "len") (dL X.K):=vd.or vc
theorem yh(hc:X.calm=true):fU X (.type "list") (de X.K):=vb.or (rQ hc)
theorem uP:kn X (cJ .Is) Bn:=by
 intro J6 s σ H x y v u Q I rx ry h;obtain⟨b,rfl,q⟩:=h;cases(show u=Value.bool b from ry);have key:∀k:Bool,k=decide (x=.bl b)->EP X J6 σ Q (.bool k) s:=fun k e=>⟨.bl k,H,I,rfl,by rw[e];exact q⟩;cases x with
 |non=>cases(show v=Value.none from rx);exact aA (key _ rfl)
 |bl a =>
  cases(show v=Value.bool a from rx);refine aA (key _ ?_);cases a<;>cases b<;>rfl
 |int i=>obtain⟨t,rfl⟩:=rx;exact aA (key _ rfl)
 |str i=>obtain⟨t,rfl⟩:=rx;exact aA (key _ rfl)
 |byt i=>obtain⟨t,rfl⟩:=rx;exact aA (key _ rfl)
 |flt i=>obtain⟨t,rfl⟩:=rx;exact aA (key _ rfl)
 |ref a=>cases(show v=Value.ref a from rx);exact aA (key _ rfl)
 |ty n=>cases(show v=Value.type n from rx);exact aA (key _ rfl)
theorem xI(hg:Gl X "bool")(hm:X.mg "bool"=none):PE X (.Name "bool" pos) (tC (.ty "bool")):=ng hg hm yj rfl
theorem tm(hg:Gl X "int")(hm:X.mg "int"=none):PE X (.Name "int" pos) (tC (.ty "int")):=ng hg hm AO rfl
theorem tj(hg:Gl X "str")(hm:X.mg "str"=none):PE X (.Name "str" pos) (tC (.ty "str")):=ng hg hm AN rfl
theorem ju(hg:Gl X "list")(hm:X.mg "list"=none):PE X (.Name "list" pos) (tC (.ty "list")):=ng hg hm l_ rfl
theorem im(hg:Gl X "tuple")(hm:X.mg "tuple"=none):PE X (.Name "tuple" pos) (tC (.ty "tuple")):=ng hg hm fR rfl
end
def Gc(mg:Str->Option Value)(x:Str)(v:V):Prop:=∃u,mg x=some u/\RelV v u
theorem ke{X:Cx}{x:Str}{v:V}{pos:Pos}(hg:Gl X x)(h:Gc X.mg x v)(hd:(x==("__debug__":Str))=false:=by decide):PE X (.Name x pos) (tC v):=by
 obtain⟨u,hm,r⟩:=h;exact CW hg hm r hd
structure iJ(P:bx)(w:World)(K:Za)(mg:Str->Option Value)(base:Heap)(x:Str)(ps:Zb)(k:Nat)(sp:Sp):Prop where
 ex:∃f fd,ky P w K mg base CX0 k f fd ps sp/\mg x=some (.ref f)/\gP K (.ref f)=true/\Binds K fd ps []
structure Fz(P:bx)(w:World)(K:Za)(mg:Str->Option Value)(base:Heap)(x:Str)(C:Addr)(ps:Zb)(k:Nat)(sp:Sp):Prop where
 ex:∃f fd,ky P w K mg base CX0 k f fd ps sp/\mg x=some (.ref C)/\Mk K C f/\Binds K fd ps []
structure AV(P:bx)(w:World)(K:Za)(mg:Str->Option Value)(base:Heap)(C:Addr)(m:Str)(ps:Zb)(k:Nat)(sp:Sp):Prop where
 ex:∃f fd,ky P w K mg base CX0 k f fd ps sp/\zU K C/\Dl K C m f/\Binds K fd ps []
section
variable{X:Cx}{k:Nat}{ps:Zb}{sp:Sp}{x m:Str}{C:Addr}{p pos J8:Pos}{o e:Expr}{es:List Expr}{t:TA}{ta:TE}
theorem Dy(D:iJ X.prog X.w X.K X.mg X.base x ps k sp)(hr:dX k X.A)(hg:Gl X x)(ha:PA X (e::es) t)(hdb:(x==("__debug__":Str))=false:=by decide)
  (he:ay (e::es) X.env=(false,eval e X.env)::ay es X.env:=by rfl) (hpl:(backTo pos (ay es X.env)).any (·.1)=false:=by rfl) :
  PE X (.Call (.Name x p) (e::es) [] pos) (aV sp t):=by
 obtain⟨f,fd,F,hm,hk,hb⟩:=D.ex;exact CZ F hr hg hm hk hb .nil za ha hdb he hpl
theorem Bs(D:Fz X.prog X.w X.K X.mg X.base x C ps k sp)(hr:dX (k+1) X.A)(hg:Gl X x)(ha:PA X (e::es) t)(hdb:(x==("__debug__":Str))=false:=by decide)
  (he:ay (e::es) X.env=(false,eval e X.env)::ay es X.env:=by rfl) (hpl:(backTo pos (ay es X.env)).any (·.1)=false:=by rfl) :
  PE X (.Call (.Name x p) (e::es) [] pos) (yU C sp [] E0 t):=by
 obtain⟨f,fd,F,hm,M,hb⟩:=D.ex;exact CV M F hr hg hm hb .nil za ha hdb he hpl
theorem Ee{pl:Sem Bool}(M:AV X.prog X.w X.K X.mg X.base C m ps k sp)(hr:dX k X.A)(he:PE X o ta)(ha:PA X (e::es) t)
  (hst:ay (e::es) X.env=(false,eval e X.env)::ay es X.env:=by rfl) (hpl:(backTo pos (ay es X.env)).any (·.1)=false:=by rfl)
  (ht:eval (.Call (.Attribute o m J8) (e::es) [] pos) X.env=(do
   let ov <- eval o X.env
   o0 J8.atName
   let(f,first) <- jX [ov] (oY ov m pl)
   sN pos f first (backTo pos (ay (e::es) X.env)) (mz pos (my [] X.env))):=by rfl) :
  PE X (.Call (.Attribute o m J8) (e::es) [] pos) (gl C m sp [] E0 ta t):=by
 obtain⟨f,fd,F,c,hm,hb⟩:=M.ex;exact CU he c hm F hr hb .nil za ha hst hpl ht
theorem CT{pl:Sem Bool}(M:AV X.prog X.w X.K X.mg X.base C m ps k sp)(hr:dX k X.A)(he:PE X o ta)
  (ht:eval (.Call (.Attribute o m J8) [] [] pos) X.env=(do
   let ov <- eval o X.env
   o0 J8.atName
   let(f,first) <- jX [ov] (oY ov m pl)
   sN pos f first (backTo pos (ay [] X.env)) (mz pos (my [] X.env))):=by rfl) :
  PE X (.Call (.Attribute o m J8) [] [] pos) (gl C m sp [] E0 ta bH):=by
 obtain⟨f,fd,F,c,hm,hb⟩:=M.ex;exact Bt he c hm F hr hb .nil za ht
end
def Fa(K:Za)(tl:TE):TI:=fun σ H R=>tl σ H fun x H1=>∃a,x=.ref a/\(((∃xs,aw K H1 a xs)/\R (Ci K a) H1)∨((∃xs,be K H1 a xs)/\R (Ey K a) H1))
theorem Eb{X:Cx}{tg l:Expr}{tl:TE}(hl:PE X l tl):PI X tg l (Fa X.K tl):=by
 intro J6 s σ H R I h;refine cp (hl J6 s σ H _ I h) fun v s1 zq0=>?_;obtain⟨x,H1,I1,r1,q1⟩:=zq0;obtain⟨a,e,q⟩:=q1;subst e;cases r1;have fin:∀b∈[s1.heap.objs.size],mq X J6 H1 b:=fun b hb=>by
  have e:b=s1.heap.objs.size:=by simpa using hb
  subst e;exact I1.fpOk (aG _) (I1.hok.fresh (aG _))
 rcases q with⟨⟨xs,hq⟩,q⟩|⟨⟨xs,hq⟩,q⟩
 ·obtain⟨its,rv,p,hz⟩:=I1.list hq;refine yL p.isList ?_;exact⟨s1.heap.objs.size,[s1.heap.objs.size],_,_,H1,rfl,I1.kept (t':=s1.toks) fun b o e=>aS _ e,sT a _,⟨_,cz _ rfl,rfl,rfl⟩,fin,q⟩
 ·obtain⟨its,rv,p,hz⟩:=I1.tuple hq;refine yJ p ?_;exact⟨s1.heap.objs.size,[s1.heap.objs.size],_,_,H1,rfl,I1.kept (t':=s1.toks) fun b o e=>aS _ e,qP a _,⟨_,cz _ rfl,rfl,rfl⟩,fin,q⟩
theorem kh{K:Za}{a:Addr}{xs:List V}{g:TG}{tb:TS}{D:nO}{σ:St}{H:Hp}(Pv:Nat->St->Hp->Prop)(h0:Pv 0 σ H)(hl:∀i σ H,i<=xs.length->Pv i σ H->aw K H a xs)
  (hs:∀i x σ H p,xs[i]?=some x->Pv i σ H->H p=none->g (.ref p) σ (upd H p (.tup [.int i,x])) fun σ2 H2=>tb { D with nx:=Pv (i+1),ct:=Pv (i+1),bk:=D.nx } σ2 H2) (hd:∀σ H,Pv xs.length σ H->D.nx σ H) :
  ∃W:Nat->Nat->St->Hp->Prop,(∃m,W 0 m σ H)/\∀i m σ H,W i m σ H ->
   ((Fi K a).stop i H/\D.nx σ H)∨((Fi K a).go i H/\∃N:St->Hp->Prop,(∀σ' H',N σ' H'->∃m',m'<m/\W (i+1) m' σ' H')/\∀x H',(Fi K a).yld i H x H'->g x σ H' fun σ2 H2=>tb { D with nx:=N,ct:=N,bk:=D.nx } σ2 H2):=by
 refine⟨fun i m σ H=>m=xs.length-i/\i<=xs.length/\Pv i σ H,⟨xs.length,by simp,cQ _,h0⟩,?_⟩;rintro i m σ H ⟨rfl,hi,p⟩;have q:=hl i σ H hi p;by_cases hlt:i<xs.length
 ·refine .inr ⟨⟨xs,xs[i],q,by simp[hlt]⟩,Pv (i+1),fun σ' H' p'=>⟨xs.length-(i+1),by omega,rfl,hlt,p'⟩,fun x H' y=>?_⟩;obtain⟨t,v,rfl,hn,hv,rfl⟩:=y;exact hs i v σ H t (hv xs q) p hn
 ·have e:i=xs.length:=by omega
  subst e;exact .inl ⟨⟨xs,q,aG _⟩,hd σ H p⟩
def Wc(n:Nat)(Pv:Nat->List V->Hp->Prop):Nat->Nat->List V->Hp->Prop:=fun i m vs H=>m=n-i/\i<=n/\Pv i vs H
theorem o9{n i:Nat}{Pv:Nat->List V->Hp->Prop}{vs:List V}{H:Hp}(hi:i<n)(p:Pv (i+1) vs H):∃m',m'<n-i/\Wc n Pv (i+1) m' vs H:=⟨n-(i+1),by omega,rfl,hi,p⟩
abbrev eX(k:Nat)(fi:List Nat)(σ:St)(J:It)(g:TG)(tc:TT)(te:TE)(H1:Hp)(l:Addr)(Q:Hp->Prop):Prop :=
 ∃W:Nat->Nat->List V->Hp->Prop,(∃m,W 0 m [] (upd H1 l (.lst [])))/\∀i m vs H2,W i m vs H2->H2 l=some (.lst vs) /\
  ((J.stop i H2/\Q H2)∨(J.go i H2/\∀x H3,J.yld i H2 x H3->g x (dQ k fi σ) H3 fun σ2 H4=>tc σ2 H4 fun b H5 =>
   if b=true then te σ2 H5 fun v H6=>H6 l=some (.lst vs)/\vs.length<aj/\∃m',m'<m/\W (i+1) m' (vs++[v]) (upd H6 l (.lst (vs++[v])))else ∃m',m'<m/\W (i+1) m' vs H5))
theorem nI{k:Nat}{fi:List Nat}{J:It}{g:TG}{tc:TT}{te:TE}{σ:St}{H1:Hp}{Q:Hp->Prop}{l:Addr}(n:Nat)(Pv:Nat->List V->Hp->Prop)(h0:Pv 0 [] (upd H1 l (.lst [])))
  (hl:∀i vs H,i<=n->Pv i vs H->H l=some (.lst vs)) (hgo:∀i vs H,i<n->Pv i vs H->J.go i H) (hst:∀vs H,Pv n vs H->J.stop n H/\Q H)
  (hs:∀i vs H x H3,i<n->Pv i vs H->J.yld i H x H3->g x (dQ k fi σ) H3 fun σ2 H4=>tc σ2 H4 fun b H5 =>
   if b=true then te σ2 H5 fun v H6=>H6 l=some (.lst vs)/\vs.length<aj/\∃m',m'<n-i/\Wc n Pv (i+1) m' (vs++[v]) (upd H6 l (.lst (vs++[v])))else ∃m',m'<n-i/\Wc n Pv (i+1) m' vs H5) :
  eX k fi σ J g tc te H1 l Q:=by
 refine⟨Wc n Pv,⟨n,by simp[Wc],cQ _,h0⟩,?_⟩;rintro i m vs H ⟨rfl,hi,p⟩;refine⟨hl i vs H hi p,?_⟩;by_cases hlt:i<n
 ·exact .inr ⟨hgo i vs H hlt p,fun x H3 y=>hs i vs H x H3 hlt p y⟩
 ·have e:i=n:=by omega
  subst e;exact .inl (hst vs H p)
section
variable{K:Za}{k:Nat}{fi:List Nat}{g:TG}{tc:TT}{te:TE}{σ:St}{H1:Hp}{Q:Hp->Prop}{l:Addr}
theorem cu{a:Addr}{xs:List V}(Pv:Nat->List V->Hp->Prop)(h0:Pv 0 [] (upd H1 l (.lst [])))
  (hl:∀i vs H,i<=xs.length->Pv i vs H->H l=some (.lst vs)/\aw K H a xs) (hd:∀vs H,Pv xs.length vs H->Q H)
  (hs:∀i vs H x,xs[i]?=some x->i<xs.length->Pv i vs H->g x (dQ k fi σ) H fun σ2 H4=>tc σ2 H4 fun b H5 =>
   if b=true then te σ2 H5 fun v H6=>H6 l=some (.lst vs)/\vs.length<aj/\∃m',m'<xs.length-i/\Wc xs.length Pv (i+1) m' (vs++[v]) (upd H6 l (.lst (vs++[v])))else ∃m',m'<xs.length-i/\Wc xs.length Pv (i+1) m' vs H5) :
  eX k fi σ (Ci K a) g tc te H1 l Q:=by
 refine nI xs.length Pv h0 (fun i vs H hi p=>(hl i vs H hi p).1) (fun i vs H hi p=>⟨xs,xs[i],(hl i vs H (dH hi) p).2,by simp[hi]⟩) (fun vs H p=>⟨⟨xs,(hl _ vs H (aG _) p).2,aG _⟩,hd vs H p⟩) fun i vs H x H3 hi p y=>?_;obtain⟨rfl,y⟩:=y;exact hs i vs _ x (y xs (hl i vs _ (dH hi) p).2) hi p
theorem wB{a:Addr}{xs:List V}(Pv:Nat->List V->Hp->Prop)(h0:Pv 0 [] (upd H1 l (.lst [])))
  (hl:∀i vs H,i<=xs.length->Pv i vs H->H l=some (.lst vs)/\be K H a xs) (hd:∀vs H,Pv xs.length vs H->Q H)
  (hs:∀i vs H x,xs[i]?=some x->i<xs.length->Pv i vs H->g x (dQ k fi σ) H fun σ2 H4=>tc σ2 H4 fun b H5 =>
   if b=true then te σ2 H5 fun v H6=>H6 l=some (.lst vs)/\vs.length<aj/\∃m',m'<xs.length-i/\Wc xs.length Pv (i+1) m' (vs++[v]) (upd H6 l (.lst (vs++[v])))else ∃m',m'<xs.length-i/\Wc xs.length Pv (i+1) m' vs H5) :
  eX k fi σ (Ey K a) g tc te H1 l Q:=by
 refine nI xs.length Pv h0 (fun i vs H hi p=>(hl i vs H hi p).1) (fun i vs H hi p=>⟨xs,xs[i],(hl i vs H (dH hi) p).2,by simp[hi]⟩) (fun vs H p=>⟨⟨xs,(hl _ vs H (aG _) p).2,aG _⟩,hd vs H p⟩) fun i vs H x H3 hi p y=>?_;obtain⟨rfl,y⟩:=y;exact hs i vs _ x (y xs (hl i vs _ (dH hi) p).2) hi p
theorem yd{lo:Int}{n:Nat}(Pv:Nat->List V->Hp->Prop)(h0:Pv 0 [] (upd H1 l (.lst [])))
  (hl:∀i vs H,i<=n->Pv i vs H->H l=some (.lst vs)) (hd:∀vs H,Pv n vs H->Q H)
  (hs:∀i vs H,i<n->Pv i vs H->g (.int (lo+i)) (dQ k fi σ) H fun σ2 H4=>tc σ2 H4 fun b H5 =>
   if b=true then te σ2 H5 fun v H6=>H6 l=some (.lst vs)/\vs.length<aj/\∃m',m'<n-i/\Wc n Pv (i+1) m' (vs++[v]) (upd H6 l (.lst (vs++[v])))else ∃m',m'<n-i/\Wc n Pv (i+1) m' vs H5) :
  eX k fi σ (DQ lo n) g tc te H1 l Q:=by
 refine nI n Pv h0 hl (fun i vs H hi p=>hi) (fun vs H p=>⟨aG _,hd vs H p⟩) fun i vs H x H3 hi p y=>?_;obtain⟨rfl,rfl⟩:=y;exact hs i vs _ hi p
theorem B8{x:Str}(Pv:Nat->List V->Hp->Prop)(h0:Pv 0 [] (upd H1 l (.lst [])))
  (hl:∀i vs H,i<=x.cps.size->Pv i vs H->H l=some (.lst vs)) (hd:∀vs H,Pv x.cps.size vs H->Q H)
  (hs:∀i vs H c,x.cps[i]?=some c->i<x.cps.size->Pv i vs H->g (.str ⟨#[c]⟩) (dQ k fi σ) H fun σ2 H4=>tc σ2 H4 fun b H5 =>
   if b=true then te σ2 H5 fun v H6=>H6 l=some (.lst vs)/\vs.length<aj/\∃m',m'<x.cps.size-i/\Wc x.cps.size Pv (i+1) m' (vs++[v]) (upd H6 l (.lst (vs++[v])))else ∃m',m'<x.cps.size-i/\Wc x.cps.size Pv (i+1) m' vs H5) :
  eX k fi σ (FD x) g tc te H1 l Q:=by
 refine nI x.cps.size Pv h0 hl (fun i vs H hi p=>hi) (fun vs H p=>⟨aG _,hd vs H p⟩) fun i vs H y H3 hi p yl=>?_;obtain⟨rfl,c,hc,rfl⟩:=yl;exact hs i vs _ c hc hi p
end
theorem gN{j:Nat}{x:V}{σ:St}{H:Hp}{Q:St->Hp->Prop}(h:Q (σ.set j (some x)) H):dD j x σ H Q:=h
theorem vI{σ:St}{H:Hp}{A B:Hp->Prop}(h:A H):jS σ H (fun b H5=>if b=true then A H5 else B H5):=by
 show(if(true:Bool)=true then A H else B H)
 exact h
inductive Ex{T0 T1:Type}(P:T0->T1->Prop):Prop
 |mk (x0:T0) (x1:T1):P x0 x1->Ex P
inductive Ew{T0 T1 T2:Type}(P:T0->T1->T2->Prop):Prop
 |mk (x0:T0) (x1:T1) (x2:T2):P x0 x1 x2->Ew P
inductive FA{T0 T1 T2 T3:Type}(P:T0->T1->T2->T3->Prop):Prop
 |mk (x0:T0) (x1:T1) (x2:T2) (x3:T3):P x0 x1 x2 x3->FA P
inductive NE6{T0 T1 T2 T3 T4 T5:Type}(P:T0->T1->T2->T3->T4->T5->Prop):Prop
 |mk (x0:T0) (x1:T1) (x2:T2) (x3:T3) (x4:T4) (x5:T5):P x0 x1 x2 x3 x4 x5->NE6 P
inductive NA3(p0 p1 p2:Prop):Prop
 |mk:p0->p1->p2->NA3 p0 p1 p2
inductive NA4(p0 p1 p2 p3:Prop):Prop
 |mk:p0->p1->p2->p3->NA4 p0 p1 p2 p3
inductive ED(p0 p1 p2 p3 p4:Prop):Prop
 |mk:p0->p1->p2->p3->p4->ED p0 p1 p2 p3 p4
inductive FB(p0 p1 p2 p3 p4 p5:Prop):Prop
 |mk:p0->p1->p2->p3->p4->p5->FB p0 p1 p2 p3 p4 p5
end L2
namespace L2
open PySem PySem.W
def xr(K:Za)(td ty tv:TE):TS:=fun D σ H=>tv σ H fun v H1=>td σ H1 fun x H2=>ty σ H2 fun y H3 =>
 ∃(a b:Addr) (kvs:List (TK×V)) (k:TK),x=.ref a/\y=.ref b/\H3 a=some (.dT kvs)/\pi K H3 k (.ref b)/\k.depth<=8/\kvs.length<aj/\D.nx σ (upd H3 a (.dT (eh kvs k v)))
section
variable{X:Cx}{o i value:Expr}{pos pos':Pos}{td ty tv:TE}
theorem v_(hu:X.A.units+16<cLine)(ho:PE X o td)(hi:PE X i ty)(hv:PE X value tv)(hs:oZ value (some (.Subscript o i pos')) pos.line X.env=pure false):
  PS X (.Assign [.Subscript o i pos'] value pos) (xr X.K td ty tv):=by
 intro J6 s σ H D I h;refine wpAny_Assign_Subscript (cp (hv J6 s σ H _ I h) fun r s1 ⟨v,H1,I1,rv,q1⟩=>cp (ho J6 s1 σ H1 _ I1 q1) fun u s2 ⟨x,H2,I2,rx,q2⟩=>cp (hi J6 s2 σ H2 _ I2 q2) fun iv s3 zq0=>?_) hs;obtain⟨y,H3,I3,ry,a,b,kvs,k,ex,ey,e,eb,e8,l,q3⟩:=zq0;subst ex;subst ey;obtain rfl:u=Value.ref a:=rx;exact x_ hu I3 e eb e8 l ry rv fun s4 I4=>⟨σ,_,I4,q3⟩
end
theorem sX{K:Za}{H:Hp}:∀xs:List Str,TKCs K H (xs.map fun x=>TK.k (some (.inr x))) (xs.map V.str)
 |[]=>by show TKCs K H [] [];unfold TKCs;rfl
 |x::xs=>by
  rw[bh,bh];unfold TKCs;refine⟨_,_,rfl,?_,sX xs⟩;unfold pi
  rfl
theorem vM{K:Za}{H:Hp}{a:Addr}{xs:Zb}(h:cN K H a (xs.map V.str)):pi K H (.t (xs.map fun x=>TK.k (some (.inr x)))) (.ref a):=by
 unfold pi;exact⟨a,_,rfl,h,sX xs⟩
end L2
end

section
set_option Elab.async false
set_option linter.all false
set_option maxRecDepth 100000
namespace L2
open PySem PySem.Spec PyProof.Rows PySem.W
def Do:Expr->List Str
 |.Name x _=>[x]
 |.Tuple es _ _=>es.filterMap fun e=>match e with | .Name x _=>some x|_=>none
 |_=>[]
theorem bK{X:Cx}{b:List Stmt}{t:TS}{D:nO}{σ:St}{H:Hp}(r:t D σ H)(p:wR X b t):∃t,wR X b t/\t D σ H:=⟨t,p,r⟩
section
variable{X:Cx}{k k0:Nat}{ps:Zb}{sp:Sp}{x m:Str}{C:Addr}{p pos J8:Pos}{o e a b:Expr}{es:List Expr}{t:TA}{ta tb te:TE}
theorem qf(hr:dX k0 X.A)(D:iJ X.prog X.w X.K X.mg X.base x ps k sp)(ha:PA X (e::es) t)(hk:k<=k0:=by decide)(hg:Gl X x:=by rfl)(hdb:(x==("__debug__":Str))=false:=by decide)
  (he:ay (e::es) X.env=(false,eval e X.env)::ay es X.env:=by rfl) (hpl:(backTo pos (ay es X.env)).any (·.1)=false:=by rfl) :
  PE X (.Call (.Name x p) (e::es) [] pos) (aV sp t):=Dy D (hr.mono hk) hg ha hdb he hpl
theorem qm{pl:Sem Bool}(hr:dX k0 X.A)(M:AV X.prog X.w X.K X.mg X.base C m ps k sp)(he:PE X o ta)(ha:PA X (e::es) t)(hk:k<=k0:=by decide)
  (hst:ay (e::es) X.env=(false,eval e X.env)::ay es X.env:=by rfl) (hpl:(backTo pos (ay es X.env)).any (·.1)=false:=by rfl)
  (ht:eval (.Call (.Attribute o m J8) (e::es) [] pos) X.env=(do
   let ov <- eval o X.env
   o0 J8.atName
   let(f,first) <- jX [ov] (oY ov m pl)
   sN pos f first (backTo pos (ay (e::es) X.env)) (mz pos (my [] X.env))):=by rfl) :
  PE X (.Call (.Attribute o m J8) (e::es) [] pos) (gl C m sp [] E0 ta t):=Ee (pl:=pl) M (hr.mono hk) he ha hst hpl ht
theorem Fv{pl:Sem Bool}(hr:dX k0 X.A)(M:AV X.prog X.w X.K X.mg X.base C m ps k sp)(he:PE X o ta)(hk:k<=k0:=by decide)
  (ht:eval (.Call (.Attribute o m J8) [] [] pos) X.env=(do
   let ov <- eval o X.env
   o0 J8.atName
   let(f,first) <- jX [ov] (oY ov m pl)
   sN pos f first (backTo pos (ay [] X.env)) (mz pos (my [] X.env))):=by rfl) :
  PE X (.Call (.Attribute o m J8) [] [] pos) (gl C m sp [] E0 ta bH):=CT (pl:=pl) M (hr.mono hk) he ht
theorem xl(ha:PE X a ta)(hb:PE X b tb)(hs:AQ b:=by exact fun _ _=>rfl):PE X (.Subscript a b pos) (aJ (df X.K) ta tb):=y9 zn ha hb hs
theorem xt(ha:PE X a ta)(hb:PE X b tb)(hs:AQ b:=by exact fun _ _=>rfl):PE X (.Subscript a b pos) (aJ (sE X.K) ta tb):=y9 BL ha hb hs
theorem xq(ha:PE X a ta)(hb:PE X b tb)(hs:AQ b:=by exact fun _ _=>rfl):PE X (.Subscript a b pos) (aJ (o8 X.K) ta tb):=y9 Em ha hb hs
theorem xs'(ha:PE X a ta)(hb:PE X b tb)(hs:AQ b:=by exact fun _ _=>rfl):PE X (.Subscript a b pos) (aJ Bm ta tb):=y9 BM ha hb hs
theorem jk{op:CmpOp}{r:R2}(ho:kn X (cJ op) r)(ha:PE X a ta)(hb:PE X b tb)(hm:jO op b=false:=by exact BA _):PT X (.Compare a [op] [b] pos) (aN (aJ r ta tb)):=y1 ho ha hb hm
theorem DF{op:CmpOp}{r:R2}(ho:kn X (cJ op) r)(ha:PE X a ta)(hb:PE X b tb)(hm:jO op b=false:=by exact BA _):PE X (.Compare a [op] [b] pos) (aJ r ta tb):=y_ ho ha hb hm
theorem DU{op:CmpOp}{r:R2}(ho:kn X (cJ op) r)(ha:PE X a ta)(hb:PE X b tb)(hm:jO op b=false:=by with_unfolding_all rfl):PT X (.Compare a [op] [b] pos) (aN (aJ r ta tb)):=y1 ho ha hb hm
theorem eci{op:CmpOp}{r:R2}(ho:kn X (cJ op) r)(ha:PE X a ta)(hb:PE X b tb)(hm:jO op b=false:=by with_unfolding_all rfl):PE X (.Compare a [op] [b] pos) (aJ r ta tb):=y_ ho ha hb hm
theorem qB{id:String}{r:List V->Hp->VK->Prop}(hc:fU X (.builtin id) r)(hm:X.mg x=none)(hv:ic x=some (.builtin id))(ha:PA X (e::es) t)(hg:Gl X x:=by rfl)(hn:x≠"__name__":=by decide)(hdb:(x==("__debug__":Str))=false:=by decide)
  (he:ay (e::es) X.env=(false,eval e X.env)::ay es X.env:=by rfl) (hpl:(backTo pos (ay es X.env)).any (·.1)=false:=by rfl):PE X (.Call (.Name x p) (e::es) [] pos) (cK r t):=wa hc hg hm hv ha hn hdb he hpl
theorem qL(hc:X.calm=true)(hm:X.mg "list"=none)(ha:PA X (e::es) t)(hg:Gl X "list":=by rfl)
  (he:ay (e::es) X.env=(false,eval e X.env)::ay es X.env:=by rfl) (hpl:(backTo pos (ay es X.env)).any (·.1)=false:=by rfl):PE X (.Call (.Name "list" p) (e::es) [] pos) (cK (de X.K) t):=gE (yh hc) hg hm l_ ha (by decide) (by decide) he hpl
theorem ql(hm:X.mg "len"=none)(ha:PA X (e::es) t)(hg:Gl X "len":=by rfl)
  (he:ay (e::es) X.env=(false,eval e X.env)::ay es X.env:=by rfl) (hpl:(backTo pos (ay es X.env)).any (·.1)=false:=by rfl):PE X (.Call (.Name "len" p) (e::es) [] pos) (cK (dL X.K) t):=wa AM hg hm PySem.boot_len ha (by decide) (by decide) he hpl
theorem qs(i:Nat){pos':Pos}(hN:X.N.Nodup)(he:PE X e te)(hi:X.N[i]?=some x:=by rfl)(hx:Loc X.env.scope x:=by first|exact Or.inl rfl|exact Or.inr rfl)(hs:oZ e (some (.Name x pos')) pos.line X.env=pure false:=by rfl)(hf:X.fn x=true∨X.env.scope.names.lookup x=some .local:=by first|exact .inl rfl|exact .inr rfl|assumption):
  PS X (.Assign [.Name x pos'] e pos) (bg te (dD i)):=D_ hN hi hx he hs hf
theorem gn(i:Nat)(hN:X.N.Nodup)(hi:X.N[i]?=some x:=by rfl)(hx:Loc X.env.scope x:=by first|exact Or.inl rfl|exact Or.inr rfl)(hf:X.fn x=true∨X.env.scope.names.lookup x=some .local:=by first|exact .inl rfl|exact .inr rfl|assumption):PG X (.Name x pos) (dD i):=y2 hN hi hx hf
theorem gc(i:Nat)(hN:X.N.Nodup:=by exact of_decide_eq_true (by with_unfolding_all rfl))(hi:X.N[i]?=some x:=by rfl)(hx:Loc X.env.scope x:=by exact Or.inl rfl)(hf:X.fn x=true∨X.env.scope.names.lookup x=some .local:=by first|exact .inl rfl|exact .inr rfl|assumption):PG X (.Name x pos) (dD i):=y2 hN hi hx hf
theorem a1(ha:PE X a ta)(hs:ay [a] X.env=(false,eval a X.env)::ay [] X.env:=by rfl):PA X [a] (aH ta bH):=cy ha b0 hs
theorem a2(ha:PE X a ta)(hb:PE X b tb)(hs:ay [a,b] X.env=(false,eval a X.env)::ay [b] X.env:=by rfl)(hs2:ay [b] X.env=(false,eval b X.env)::ay [] X.env:=by rfl):PA X [a,b] (aH ta (aH tb bH)):=cy ha (cy hb b0 hs2) hs
theorem a3{c:Expr}{tc:TE}(ha:PE X a ta)(hb:PE X b tb)(hc:PE X c tc)(hs:ay [a,b,c] X.env=(false,eval a X.env)::ay [b,c] X.env:=by rfl)(hs1:ay [b,c] X.env=(false,eval b X.env)::ay [c] X.env:=by rfl)(hs2:ay [c] X.env=(false,eval c X.env)::ay [] X.env:=by rfl):PA X [a,b,c] (aH ta (aH tb (aH tc bH))):=cy ha (a2 hb hc hs1 hs2) hs
variable{elt iter tg:Expr}{ifs:List Expr}{scope:Scope}{fi:List Nat}{wi:TI}{g:TG}{tc:TT}
theorem qc(hi:PI X tg iter wi)(ho:wF k g)
  (h:∀C cl s₀ H₀ ex pn,PG (dj X (Do tg++fi.map fun i=>X.N.getD i "") scope C cl s₀ H₀ ex pn) tg g/\DP (dj X (Do tg++fi.map fun i=>X.N.getD i "") scope C cl s₀ H₀ ex pn) ifs tc/\PE (dj X (Do tg++fi.map fun i=>X.N.getD i "") scope C cl s₀ H₀ ex pn) elt te)
  (hS:kL X.env.scope scope k (Do tg++fi.map fun i=>X.N.getD i "") X.N fi=true:=by with_unfolding_all rfl) (hc:X.calm=true:=by rfl)
  (hs:∀x,vF iter X.env x=pure x:=by intro _;rfl):PE X (.ListComp elt [⟨tg,iter,ifs,0⟩] scope pos) (c9 k fi wi g tc te) :=
 CY hS hc hi (fun _ _ _ _ _ _=>(h _ _ _ _ _ _).1) ho (fun _ _ _ _ _ _=>(h _ _ _ _ _ _).2.1) (fun _ _ _ _ _ _=>(h _ _ _ _ _ _).2.2) hs
theorem qsc(j:Nat){y:Str}{spos py:Pos}(hN:X.N.Nodup)(hi:PI X tg iter wi)(ho:wF k g)
  (h:∀C cl s₀ H₀ ex pn,PG (dj X (Do tg++fi.map fun i=>X.N.getD i "") scope C cl s₀ H₀ ex pn) tg g/\DP (dj X (Do tg++fi.map fun i=>X.N.getD i "") scope C cl s₀ H₀ ex pn) ifs tc/\PE (dj X (Do tg++fi.map fun i=>X.N.getD i "") scope C cl s₀ H₀ ex pn) elt te)
  (hj:X.N[j]?=some y:=by rfl) (hy:Loc X.env.scope y:=by first|exact Or.inl rfl|exact Or.inr rfl)
  (hS:kL X.env.scope scope k (Do tg++fi.map fun i=>X.N.getD i "") X.N fi=true:=by with_unfolding_all rfl) (hc:X.calm=true:=by rfl)
  (hsw:oZ (.ListComp elt [⟨tg,iter,ifs,0⟩] scope pos) (some (.Name y py)) spos.line X.env=pure true:=by rfl)
  (hs:∀x,vF iter X.env x=pure x:=by intro _;rfl) (hf:X.fn y=true∨X.env.scope.names.lookup y=some .local:=by first|exact .inl rfl|exact .inr rfl|assumption) :
  PS X (.Assign [.Name y py] (.ListComp elt [⟨tg,iter,ifs,0⟩] scope pos) spos) (bg (c9 k fi wi g tc te) (dD j)) :=
 xG hN hj hy hS hc hi (fun _ _ _ _ _ _=>(h _ _ _ _ _ _).1) ho (fun _ _ _ _ _ _=>(h _ _ _ _ _ _).2.1) (fun _ _ _ _ _ _=>(h _ _ _ _ _ _).2.2) hsw hs hf
end
end L2
end

section
set_option Elab.async false
set_option linter.all false
set_option maxRecDepth 100000
namespace L2
open PySem PySem.Spec PyProof.Rows
theorem Ak{α β:Type}{F:α->β->Prop}{l₁:List α}{l₂:List β}(g:Paired F l₁ l₂){i:Nat}{a:α}{b:β}(h:l₁[i]?=some a)(h':l₂[i]?=some b):F a b:=by
 induction g generalizing i with
 |nil=>cases h
 |cons r _ ih =>
  cases i with
  |zero=>injection h with h;injection h' with h';subst h h';exact r
  |succ i=>exact ih h h'
structure ym(h:Heap)(d:Addr)(es:Array lC)(ep:Nat):Prop where
 ex:∃o,h.get? d=some o/\o.ExactDict/\o.data=.dict es ep
section
variable{prog:bx}{w:World}{A:Around}{E:Zc}{s:Shared}{d v it:Addr}{es:Array lC}{ep i:Nat}
theorem ym.ty(h:ym s.heap d es ep):s.TypeIs (.ref d) "dict":=let⟨o,ho,e,_⟩:=h.ex;⟨o,ho,e.1⟩
theorem Ah{Q:Zc}(h:ym s.heap d es ep)(hd:(d==gk)=false)(q:Q (.ref s.heap.objs.size) { s with heap:=s.heap.push { cls:=.type "dict_items",data:=.fields #[.ref d] } }):
  wpAny (model prog w) A (call (.builtin "dict.items") [.ref d]) Q E s:=by
 refine pk F.slot_dict_items h.ty F.entry_dict_items ?_ (F.args_dict_items_1 _);unfold aY.«dict.items» aY.Dict.noArgs;refine ai <| ai <| wpAny_notOrdered_dict h.ty <| ?_;refine aA (show wpAny _ _ (aY.Dict.showsAll d >>= _) _ _ s from ?_);unfold aY.Dict.showsAll;rw[if_neg (fun z=>by rw[hd]at z;cases z)];exact ai <| aA <| ai <| lA <| aA ⟨_,rfl,q⟩
theorem Bl{Q:Zc}(hv:s.heap.IsItemsView v d)(h:ym s.heap d es ep)
  (q:∀h',gS h' s.heap.objs.size d 0 es.size ep .none .none->(∀b o,s.heap.get? b=some o->h'.get? b=some o)->Q (.ref s.heap.objs.size) { s with heap:=h' }):wpAny (model prog w) A (pyIter (.ref v)) Q E s:=by
 obtain⟨ov,hov,hcv,hdv⟩:=id hv;obtain⟨o,ho,hx,hdat⟩:=h.ex;refine wpAny_pyIter_slot hv.typeIs F.slot_dict_items_iter <| pk F.slot_dict_items_iter hv.typeIs F.entry_dict_items_iter ?_ (F.args_dict_items_iter_1 _);unfold aY.«dict_items.__iter__» aY.Dict_items.dictOf aY.Dict_items.newIterator;refine ai <| aA <| ai <| ai <| cC hov hdv (x:=.ref d) rfl <| aA <| ai <| ai <| t4 ho hdat <| ai <| wpAny_dictEpoch ho hdat ?_;simp only[show aY.Dict_items.ownsTuple "dict_itemiterator"=true by decide,if_true];refine lA (aA ⟨_,rfl,"dict_itemiterator",_,⟨_,cz _ rfl,rfl⟩,qy.lookup,?_⟩) ?_
 ·refine q _ ?_ fun b o e=>aS _ e;simpa[rawInt,gS,aY.Dict_items.ownedTupleFields]using cz s.heap (o:={ cls:=.type "dict_itemiterator",data:=.fields #[.none,.bool false,.ref d,.int 0 0,.int es.size 0,.int ep 0,.none,.none] }) rfl
 ·simp only[sizeOk,aY.Dict_items.ownedTupleFields,bu,aE,eG,uh,vD];omega
theorem Bk{ok ov:Value}{Q:Option Value->Shared->Prop}(hit:gS s.heap it d i es.size ep ok ov)(h:ym s.heap d es ep)(hi:i<es.size)
  (q:∀h',IsItemIterOut h' it d (i+1) es.size ep es[i].key es[i].val s.heap.objs.size->h'.get? s.heap.objs.size=some { cls:=.type "tuple",data:=.seq #[es[i].key,es[i].val] } ->
   (∀b o,b≠it->s.heap.get? b=some o->h'.get? b=some o)->Q (some (.ref s.heap.objs.size)) { s with heap:=h' }):wpAny (model prog w) A (pyNext (.ref it)) Q E s:=by
 obtain⟨o,ho,hx,hdat⟩:=h.ex;obtain⟨hp,g,dr,tk,os⟩:=s;have ty:∀{h':Heap}{ok ov:Value}{j:Nat},gS h' it d j es.size ep ok ov->Shared.TypeIs ⟨h',g,dr,tk,os⟩ (.ref it) "dict_itemiterator":=fun x=>⟨_,x,rfl⟩;have hT:=ty hit;have own:aY.Dict_items.ownsTuple "dict_itemiterator"=true:=by decide
 unfold pyNext;refine ai <| n5 <| j3 (name:=jg "__next__") hT qy <| pk qy hT F.entry_dict_itemiterator_next ?_ (F.args_dict_itemiterator_next_1 _);refine ai <| aA <| ai <| ai ?_
 first|refine ai <| tW hT <| aA ?_|refine ai <| tV hT <| aA ?_
 refine ai <| wpAny_fieldsOf hit rfl ?_;simp only[own,if_true];show wpAny _ _ (if(Value.ref d==Value.none)=true then _ else _) _ _ _
 rw[if_neg (show ¬((Value.ref d==Value.none)=true)from fj)];refine ai <| aA <| ai <| t4 ho hdat ?_;rw[if_neg (by simp)];refine ai <| aA <| ai <| wpAny_dictEpoch ho hdat ?_;rw[if_neg (by simp)];refine aA ?_;simp only[show ¬((i:Int)<0)from by omega,if_false,jh,jc hi];refine ai ?_
 first|refine ai <| tW hT <| aA ?_|refine ai <| tV hT <| aA ?_
 refine ai <| wpAny_isOneOf_itemiter hT ?_;show wpAny _ _ (setField (.ref it) 3 (rawInt ((i:Int)+1)) >>= _) _ _ ⟨hp,g,dr,tk,os⟩;refine ai <| fZ hit (by simp) fun h1 e1 s1=>?_;have s1:d6 it hp h1:=s1;have e1:gS h1 it d (i+1) es.size ep ok ov:=by
  have z:((i+1:Nat):Int)=(i:Int)+1:=by omega
  unfold gS;rw[z];simpa[rawInt]using e1
 have T1:=ty e1;refine ai <| iS <| ai <| wpAny_isOneOf_itemiter T1 <| ai <| wpAny_isOneOf_itemiter T1 ?_;show wpAny _ _ (aY.Dict_items.pairFromOwner (.ref it) 6 es[i].key es[i].val) _ _ ⟨h1,g,dr,tk,os⟩;unfold aY.Dict_items.pairFromOwner;refine ai <| wpAny_newTuple ?_;have e2:gS (h1.push { cls:=.type "tuple",data:=.seq #[es[i].key,es[i].val] }) it d (i+1) es.size ep ok ov:=aS _ e1;have z1:h1.objs.size=hp.objs.size:=s1.1;have t2:(h1.push { cls:=.type "tuple",data:=.seq #[es[i].key,es[i].val] }).get? hp.objs.size=some { cls:=.type "tuple",data:=.seq #[es[i].key,es[i].val] }:=by rw[<-z1];exact cz _ rfl
 have k2:∀b o,b≠it->hp.get? b=some o->(h1.push { cls:=.type "tuple",data:=.seq #[es[i].key,es[i].val] }).get? b=some o:=fun b o hb e=>aS _ (s1.extBut b o hb e);rw[z1];generalize h1.push { cls:=.type "tuple",data:=.seq #[es[i].key,es[i].val] }=h2 at e2 t2 k2;show wpAny _ _ (aY.Dict_items.ownedTupleIsFree (.ref it) >>= _) _ _ ⟨h2,g,dr,tk,os⟩;have lt:it<hp.objs.size:=az hit;have ne:hp.objs.size≠it:=c7 lt;refine ai ?_;unfold aY.Dict_items.ownedTupleIsFree;refine ai <| cC e2 rfl (x:=.none) rfl <| aA ?_;simp only[if_true];refine ai <| cC e2 rfl (x:=ok) rfl <| ai <| cC e2 rfl (x:=ov) rfl <| ai <| fZ e2 (by simp) fun h3 e3 s3=>?_;have s3:d6 it h2 h3:=s3;have e3:gS h3 it d (i+1) es.size ep es[i].key ov:=e3;refine ai <| fZ e3 (by simp) fun h4 e4 s4=>?_;have s4:d6 it h3 h4:=s4;have e4:gS h4 it d (i+1) es.size ep es[i].key es[i].val:=e4;refine ai <| fZ e4 (by simp) fun h5 e5 s5=>?_;have s5:d6 it h4 h5:=s5;have e5:IsItemIterOut h5 it d (i+1) es.size ep es[i].key es[i].val hp.objs.size:=e5;refine ai <| fZ e5 (by simp) fun h6 e6 s6=>?_;have s6:d6 it h5 h6:=s6;have e6:IsItemIterOut h6 it d (i+1) es.size ep es[i].key es[i].val hp.objs.size:=e6;have up:∀b o,b≠it->h2.get? b=some o->h6.get? b=some o:=fun b o hb e=>s6.extBut b o hb <| s5.extBut b o hb <| s4.extBut b o hb <| s3.extBut b o hb e;exact ai <| qA <| aA <| aA ⟨_,rfl,aA <| q h6 e6 (up _ _ ne t2) fun b o hb e=>up b o hb (k2 b o hb e)⟩
theorem CN{ok ov:Value}{Q:Option Value->Shared->Prop}(hh:A.handled=none)(hit:gS s.heap it d i es.size ep ok ov)(h:ym s.heap d es ep)(hi:es.size<=i)
  (q:∀h',Heap.ExtBut it s.heap h'->Q none { s with heap:=h' }):wpAny (model prog w) A (pyNext (.ref it)) Q E s:=by
 obtain⟨o,ho,hx,hdat⟩:=h.ex;have hT:s.TypeIs (.ref it) "dict_itemiterator":=⟨_,hit,rfl⟩;have own:aY.Dict_items.ownsTuple "dict_itemiterator"=true:=by decide
 unfold pyNext;refine ai <| n5 <| j3 (name:=jg "__next__") hT qy <| pk qy hT F.entry_dict_itemiterator_next ?_ (F.args_dict_itemiterator_next_1 _);refine ai <| aA <| ai <| ai ?_
 first|refine ai <| tW hT <| aA ?_|refine ai <| tV hT <| aA ?_
 refine ai <| wpAny_fieldsOf hit rfl ?_;simp only[own,if_true];show wpAny _ _ (if(Value.ref d==Value.none)=true then _ else _) _ _ _
 rw[if_neg (show ¬((Value.ref d==Value.none)=true)from fj)];refine ai <| aA <| ai <| t4 ho hdat ?_;rw[if_neg (by simp)];refine ai <| aA <| ai <| wpAny_dictEpoch ho hdat ?_;rw[if_neg (by simp)];refine aA ?_;simp only[show ¬((i:Int)<0)from by omega,if_false,jh,qx hi];refine ai ?_
 first|refine ai <| tW hT <| aA ?_|refine ai <| tV hT <| aA ?_
 show wpAny _ _ (setField (.ref it) 2 .none >>= _) _ _ s;refine ai <| wpAny_setField hit rfl (by simp) ?_;show wpAny _ _ (newExc (.type "StopIteration") [] >>= _) _ _ _;refine ai ?_;simp only[newExc,newTuple];refine ai <| lA ?_ (by size_fits);refine ai (m:=uc _ _) <| wpAny_of_eq (a:=Value.none) (by first|rfl|(simp only[uc];rfl)) <| lA ?_ (by size_fits)
 simp only[raiseNew];refine ai <| wpAny_handled ?_;rw[show A.in1.handled=none from hh];refine ai <| aA <| wpAny_throw ?_;refine ai (vG (b:=true) (T:="StopIteration") ⟨_,cz _ rfl,rfl⟩ isSubtype_stop (aA (q _ (((n6 ..).extBut.push _).push _))))
end
def Ez(d:Addr)(o:Obj)(u:HO)(n:Nat)(ent:Nat->Hp->V->V->Prop):It :=
 ⟨fun i H=>H d=some (.frz o u)/\i<n,fun i H x H'=>∃p a b,H p=none/\x=.ref p/\ent i H a b/\H'=upd H p (.tup [a,b]),fun i H=>H d=some (.frz o u)/\n<=i⟩
structure EB(P:bx)(w:World)(K:Za)(d:Addr)(o:Obj)(u:HO)(n:Nat)(ent:Nat->Hp->V->V->Prop)(es:Array lC)(ep:Nat):Prop where
 ex:o.ExactDict
 dat:o.data=.dict es ep
 sz:es.size=n
 get:∀{H:Hp}{h:Heap}{i:Nat}(hi:i<es.size),kN P w K H h->H d=some (.frz o u)->∃a b,ent i H a b/\RelV a es[i].key/\RelV b es[i].val
theorem wW{P:bx}{w:World}{K:Za}{xs:List Expr}{kx:Nat}{U0:Pos}{d it:Addr}{o:Obj}{u:HO}{n:Nat}{ent:Nat->Hp->V->V->Prop}{es:Array lC}{ep:Nat}(X0:EB P w K d o u n ent es ep):
  rT P w K (.Tuple xs kx U0) (Ez d o u n ent) [it] it (fun i h=>∃ok ov,gS h it d i n ep ok ov) where
 mem:=by simp
 obj:=fun i h ⟨ok,ov,st⟩ b hb=>by
  have e:b=it:=by simpa using hb
  subst e;exact⟨_,st,fun v z=>by cases z⟩
 keep:=fun i h h' ⟨ok,ov,st⟩ k=>⟨ok,ov,k it (by simp) _ st⟩
 item:=by
  intro X hP hw hK hc i J6 s σ H E I hf ⟨ok,ov,st⟩ hg;subst hP hw hK;obtain⟨hd,hi⟩:=hg;have hi':i<es.size:=by rw[X0.sz];exact hi
  obtain⟨g,ou⟩:=(show bP X.prog X.w X.K H s.heap d (.frz o u)from I.hok d _ hd);obtain⟨a,b,en,ra,rb⟩:=X0.get hi' I.hok hd;obtain⟨f0,f1,f2,f3,f4,f5⟩:=hf it (by simp);rw[<-X0.sz]at st;refine Bk st ⟨o,g,X0.ex,X0.dat⟩ hi' fun h' ho' ht' hk'=>?_;refine⟨_,rfl,wpAny_letOwnedTupleGo_items (s:={ s with heap:=h' }) ho' fun h2 he2 hs2=>?_⟩;have hs2':d6 it h' h2:=hs2;have hpe:s.heap.objs.size≠it:=c7 (az st);have ht2:h2.get? s.heap.objs.size=some { cls:=.type "tuple",data:=.seq #[es[i].key,es[i].val] }:=hs2'.extBut _ _ hpe ht';have hn0:H s.heap.objs.size=none:=I.fresh;have I2:Inv X J6 σ (upd H s.heap.objs.size (.tup [a,b])) { s with heap:=h2,toks:=s.toks }:=by
   refine I.turnedNew (ch:=[it]) hf (fun c o hb q=>?_) ⟨_,ht2⟩ (fun _ z=>nomatch z) ⟨by show 2<=aj;decide,[es[i].key,es[i].val],.cons ra (.cons rb .nil),⟨_,ht2,rfl,_,rfl⟩⟩;have nb1:c≠it:=fun z=>hb (by simp[z]);exact hs2'.extBut _ _ nb1 (hk' c o nb1 q)
  refine⟨.ref s.heap.objs.size,_,I2,rfl,⟨_,a,b,hn0,rfl,en,rfl⟩,⟨_,_,by rw[<-X0.sz];exact he2⟩,fun c hb=>?_⟩;have e:c=it:=by simpa using hb
  subst e;rw[ag (cA hpe)];exact f0
 done:=by
  intro X hP hw hK hc i J6 s σ H E I hf ⟨ok,ov,st⟩ hg;subst hP hw hK;obtain⟨hd,hi⟩:=hg;obtain⟨g,ou⟩:=(show bP X.prog X.w X.K H s.heap d (.frz o u)from I.hok d _ hd);obtain⟨f0,f1,f2,f3,f4,f5⟩:=hf it (by simp);rw[<-X0.sz]at st;exact CN (I.ok.hd hc) st ⟨o,g,X0.ex,X0.dat⟩ (by rw[X0.sz];exact hi) fun h' eb=>⟨rfl,I.turned (t':=s.toks) (fun b o hb e=>eb b o hb e) f0 f1 f3 f4 f5⟩
 self:=fun _ _ _ _ _ ⟨_,_,st⟩ h=>PySem.W.kcp_self st h
def Ep(K:Za)(kvs:List (TK×V)):Nat->Hp->V->V->Prop:=fun i H a b=>∃k,kvs[i]?=some (k,b)/\pi K H k a
theorem tK{P:bx}{w:World}{K:Za}{H:Hp}{h:Heap}{d:Addr}{o:Obj}{kvs:List (TK×V)}(hok:kN P w K H h)(e:H d=some (.frz o (.dT kvs))):
  (d==gk)=false/\∃es ep,EB P w K d o (.dT kvs) kvs.length (Ep K kvs) es ep:=by
 obtain⟨g,z,hsys,xs,rel,o',es,ep,ho',ex,hd,hes,nd⟩:=(show bP P w K H h d (.frz o (.dT kvs))from hok d _ e);rw[g]at ho';cases ho';have hl:es.size=xs.length:=by rw[<-jW,hes,ak]
 refine⟨hsys,es,ep,ex,hd,by rw[hl,Paired.length rel],fun{H' h' i} hi hok' e'=>?_⟩;obtain⟨g',z',hsys',xs',rel',o'',es',ep',ho'',ex',hd',hes',nd'⟩:=(show bP P w K H' h' d (.frz o (.dT kvs))from hok' d _ e');rw[g']at ho'';cases ho'';rw[hd]at hd';cases hd';have hl':es.size=xs'.length:=by rw[<-jW,hes',ak]
 have hi':i<xs'.length:=by omega
 have hk:i<kvs.length:=by rw[Paired.length rel'];exact hi'
 have hp:=Ak rel' (i:=i) (a:=kvs[i]) (b:=xs'[i]) (by simp[hk]) (by simp[hi']);have he:es[i]=entryOfKey (ee P w) xs'[i]:=by
  have:es.toList[i]?=some es[i]:=by simp[hi]
  rw[hes',bv,bR hi']at this;injection this with this;exact this.symm
 refine⟨.ref xs'[i].2.1,kvs[i].2,⟨kvs[i].1,by simp[hk],hp.2.1⟩,?_,?_⟩
 ·rw[he];exact rfl
 ·rw[he];exact hp.2.2.2
def zt(K:Za)(tl:TE):TI:=fun σ H R=>tl σ H fun x H1=>∃d kvs,x=.ref d /\
 ((H1 d=some (.dT kvs)/\∀o,R (Ez d o (.dT kvs) kvs.length (Ep K kvs)) (upd H1 d (.frz o (.dT kvs))))∨∃o,H1 d=some (.frz o (.dT kvs))/\R (Ez d o (.dT kvs) kvs.length (Ep K kvs)) H1)
section
variable{X:Cx}{J6:Zd}{σ:St}{l:Expr}{tl:TE}{J8 J7 U0:Pos}{xs:List Expr}{kx:Nat}
theorem rH{R:It->Hp->Prop}{H2:Hp}{s1:Shared}{d:Addr}{o:Obj}{u:HO}{n:Nat}{ent:Nat->Hp->V->V->Prop}{es:Array lC}{ep:Nat}(X0:EB X.prog X.w X.K d o u n ent es ep)(hsys:(d==gk)=false)(I2:Inv X J6 σ H2 s1)(e:H2 d=some (.frz o u))(q:R (Ez d o u n ent) H2):
  MethodOn X.prog X.w X.A "items" J7 (.ref d) [] (fun v s2=>wpAny (model X.prog X.w) X.A (pyIter v) (PIE X J6 σ (.Tuple xs kx U0) R) X.xe s2) X.xe s1:=by
 obtain⟨g,_⟩:=(show bP X.prog X.w X.K H2 s1.heap d (.frz o u)from I2.hok d _ e);have raw:ym s1.heap d es ep:=⟨o,g,X0.ex,X0.dat⟩;refine⟨"dict","dict.items",F.plainAttrs_dict,F.slot_dict_items,F.type_dict_items,raw.ty,fun a z=>?_,uj rfl (PySem.evalArgs_none (Ah raw hsys ?_))⟩
 ·cases z;exact⟨o,g,X0.ex.2.1⟩
 refine Bl (s:={ s1 with heap:=s1.heap.push { cls:=.type "dict_items",data:=.fields #[.ref d] } }) ⟨_,cz _ rfl,rfl,rfl⟩ ⟨o,aS _ g,X0.ex,X0.dat⟩ fun h' hit hk=>?_;have I3:Inv X J6 σ H2 { s1 with heap:=h',toks:=s1.toks }:=I2.kept (t':=s1.toks) fun b o e=>hk b o (aS _ e);refine⟨_,[_],_,_,H2,rfl,I3,wW X0,⟨_,_,by rw[<-X0.sz];exact hit⟩,fun b hb=>?_,q⟩;have e:b=(s1.heap.push { cls:=.type "dict_items",data:=.fields #[.ref d] }).objs.size:=by simpa using hb
 subst e;have z:s1.heap.objs.size<=(s1.heap.push { cls:=.type "dict_items",data:=.fields #[.ref d] }).objs.size:=by rw[jV];exact yD _
 exact I2.fpOk z (I2.hok.fresh z)
theorem Aj(hl:PE X l tl)(hbase:qa l "items" X.env (eval l X.env)=eval l X.env:=by rfl)(hline:(J8.endLine==J7.line)=true:=by rfl):PI X (.Tuple xs kx U0) (.Call (.Attribute l "items" J8) [] [] J7) (zt X.K tl):=by
 intro J6 s σ H R I h;refine wpAny_Call_method0_late hbase hline (cp (hl J6 s σ H _ I h) fun v s1 zq0=>?_);obtain⟨x,H1,I1,r1,d,kvs,ex,q⟩:=zq0;subst ex;cases r1;rcases q with⟨e,q⟩|⟨o,e,q⟩
 ·obtain⟨z,hsys,xs',rel,o,es,ep,ho,r⟩:=id (show bP X.prog X.w X.K H1 s1.heap d (.dT kvs)from I1.hok d _ e);have I2:Inv X J6 σ (upd H1 d (.frz o (.dT kvs))) { s1 with heap:=s1.heap,toks:=s1.toks } :=
   I1.write (x:=d) (e:=d) (t':=s1.toks) (by rw[e];trivial) (.inl rfl) (fun _ _ _ q=>q) ⟨o,ho⟩ ⟨ho,z,hsys,xs',Paired.mapP rel (fun p q r=>⟨r.1,pi.keeps (fun b ys eb=>by rw[ag (fun z=>by rw[z,e]at eb;cases eb)];exact eb) 8 r.2.2.1 r.2.1,r.2.2⟩),o,es,ep,ho,r⟩
  obtain⟨hsys',es',ep',X0⟩:=tK I2.hok (aa (H:=H1) (a:=d));exact rH X0 hsys' I2 aa (q o)
 ·obtain⟨hsys',es',ep',X0⟩:=tK I1.hok e;exact rH X0 hsys' I1 e q
end
end L2
end

section
set_option Elab.async false
set_option linter.all false
namespace L2
open PySem PySem.Spec PyProof.Rows
end L2
end

section
set_option Elab.async false
set_option linter.all false
set_option maxRecDepth 100000
namespace HT
open PySem PySem.Spec PyProof.Rows
end HT
namespace L2
open PySem PySem.Spec PyProof.Rows
end L2
namespace HT
open PySem PySem.Spec PyProof.Rows
end HT
namespace L2
open PySem PySem.Spec PyProof.Rows
end L2
end

section
set_option Elab.async false
set_option linter.all false
set_option maxRecDepth 100000
namespace HT
open PySem PyProof.Rows
section
open PySem.SeqAt
open PySem.AutoSeq1 (wpAny_loadPart')
open PySem.MeetsSeq PySem.MeetsSeq2 PySem.MeetsSeq3
theorem ints_drop{its:Zf}{i:Nat}{ns:List Int}(h:cT (its.drop i) ns):(ns=[]/\its.length<=i)∨∃a t r,its[i]?=some (.int a t)/\ns=a::r/\cT (its.drop (i+1)) r:=by
 rcases lu i its.length with z|z
 ·rw[tZ z]at h;generalize e:its[i]=v at h;cases h with
  |cons a t h'=>exact .inr ⟨a,t,_,by rw[bR z,e],rfl,h'⟩
 ·rw[List.drop_eq_nil_of_le z]at h;cases h;exact .inl ⟨rfl,z⟩
theorem lt_loop(l b:Addr)(its its2:Zf)(n n2:Nat)(dd dd2:Option Addr)(sl sl2:Array (Option Value)):∀(ns ms:List Int) (i:Nat),cT (its.drop i) ns->cT (its2.drop i) ms->its.length+ms.length=its2.length+ns.length ->
  Meets (aY.«list.__eq__.loop» ⟨[.ref l,.ref b,rawInt i,rawInt 0],[]⟩)
   (fun _ R s=>s.heap.get? l=some { cls:=.type "list",dict:=dd,data:=.seq its.toArray n,slots:=sl }/\s.heap.get? b=some { cls:=.type "list",dict:=dd2,data:=.seq its2.toArray n2,slots:=sl2 }/\R (.ok (.ret (.bool (lexLt ns ms)))) s):=by
 intro ns
 induction ns with
 |nil =>
  intro ms i h1 h2 hz prog w A R s h;obtain⟨hp,g,d,tk,os⟩:=s;obtain⟨hl,hb,h⟩:=h
  wp_walk using cc hl,cc hb
  rcases ints_drop h1 with⟨_,z⟩|⟨_,_,_,_,e,_⟩
  ·have e1:its.toArray[((i:Nat):Int).toNat]?=none:=by simp;omega
   rw[e1]
   wp_walk using cc hl,cc hb
   show R (.ok (.ret (.bool (decide (its.toArray.size<its2.toArray.size))))) _;have e2:decide (its.toArray.size<its2.toArray.size)=lexLt [] ms:=by
    simp only[bu];cases ms with
    |nil=>exact zzr0 (by simp at hz;omega)
    |cons m ms=>exact zzr1 (by simp at hz;omega)
   rw[e2];exact h
  ·cases e
 |cons a ns ih =>
  intro ms i h1 h2 hz prog w A R s h;obtain⟨hp,g,d,tk,os⟩:=s;obtain⟨hl,hb,h⟩:=h
  wp_walk using cc hl,cc hb
  rcases ints_drop h1 with⟨e,_⟩|⟨a',t,r,g1,e,h1'⟩
  ·cases e
  cases e;have e1:its.toArray[((i:Nat):Int).toNat]?=some (.int a t):=by simpa using g1
  rw[e1];rcases ints_drop h2 with⟨e,z⟩|⟨c,u,r2,g2,e,h2'⟩
  ·subst e;have e2:its2.toArray[((i:Nat):Int).toNat]?=none:=by simp;omega
   rw[e2]
   wp_walk using cc hl,cc hb
   show R (.ok (.ret (.bool (decide (its.toArray.size<its2.toArray.size))))) _;rw[zzr0 (by simp only[bu];simp at hz;omega)];exact h
  subst e;have e2:its2.toArray[((i:Nat):Int).toNat]?=some (.int c u):=by simpa using g2
  rw[e2];rw[lexLt_cons]at h;obtain⟨e,he,hiff⟩:=eqAt_int A.in1 ⟨hp,g,d,tk,os⟩ a t c u;refine ai (he prog w _ _ ?_);have hc:((i:Int)+1)=((i+1:Nat):Int):=by push_cast;rfl
  cases e with
  |true =>
   rw[if_pos (hiff.mp rfl)]at h
   wp_walk
   rw[hc];exact⟨jd plain_eq_loop _,jf entry_eq_loop (by
    rw[je plain_eq_loop _];exact ih r2 (i+1) h1' h2' (by simp at hz;omega) prog w A R _ ⟨hl,hb,h⟩)⟩
  |false =>
   rw[if_neg (fun q=>absurd (hiff.mpr q) fj)]at h
   wp_walk using cc hl,cc hb
   rw[e1,e2];have hri:=rcLt_int A.in1 ⟨hp,g,d,tk,os⟩ a t c u prog w
   wp_walk using hri
   exact h
theorem list_lt_ints(l b:Addr)(its its2:Zf)(n n2:Nat)(dd dd2:Option Addr)(sl sl2:Array (Option Value))(ns ms:List Int)(h1:cT its ns)(h2:cT its2 ms):
  Meets (aY.«list.__lt__» ⟨[.ref l,.ref b],[]⟩)
   (fun _ R s=>s.heap.get? l=some { cls:=.type "list",dict:=dd,data:=.seq its.toArray n,slots:=sl }/\s.heap.get? b=some { cls:=.type "list",dict:=dd2,data:=.seq its2.toArray n2,slots:=sl2 }/\R (.ok (.ret (.bool (lexLt ns ms)))) s):=by
 intro prog w A R s h;obtain⟨hp,g,d,tk,os⟩:=s;obtain⟨hl,hb,h⟩:=h;have f2:=AutoSeq1.sub_list_list
 wp_walk using cc hl,cc hb
 exact⟨jd plain_eq_loop _,jf entry_eq_loop (by
  rw[je plain_eq_loop _];exact lt_loop l b its its2 n n2 dd dd2 sl sl2 ns ms 0 h1 h2 (by rw[<-h1.length,<-h2.length];omega) prog w A R _ ⟨hl,hb,h⟩)⟩
end
end HT
namespace L2
open PySem PySem.Spec PyProof.Rows
section
variable{X:Cx}
def EQ(K:Za):R2:=fun x y H Q=>∃a b ns ms,x=.ref a/\y=.ref b/\aw K H a (ns.map V.int)/\aw K H b (ms.map V.int)/\Q (.bl (HT.lexLt ns ms)) H
theorem Ei(hu:X.A.units+16<cLine):kn X (cJ .Lt) (EQ X.K):=by
 intro J6 s σ H x y v u Q I rx ry h;obtain⟨a,b,ns,ms,rfl,rfl,ha,hb,q⟩:=h;cases rx;cases ry;obtain⟨its,r1,p1,_⟩:=I.list ha;obtain⟨its2,r2,p2,_⟩:=I.list hb;have i1:cT its ns:=intsAre_of r1;have i2:cT its2 ms:=intsAre_of r2;obtain⟨⟨cls,dd,data,sl⟩,n,ho,hc,hd,he⟩:=id p1;obtain⟨⟨cls2,dd2,data2,sl2⟩,n2,ho2,hc2,hd2,he2⟩:=id p2;simp only at hc hd hc2 hd2 he he2;subst hc hd hc2 hd2 he he2;exact richCompare_meets_room (op:=.Lt) ⟨_,ho,rfl⟩ ⟨_,ho2,rfl⟩ PySem.F.slot_list_lt PySem.F.entry_list_lt (PySem.F.args_list_lt_2 _ _) (HT.list_lt_ints a b its its2 n n2 none none sl sl2 ns ms i1 i2)
  ⟨ho,ho2,show Value.bool (HT.lexLt ns ms)≠Value.notImplemented/\_ from⟨(fun x=>nomatch x),.bl _,H,I,rfl,q⟩⟩ (by omega)
def yY(K:Za):V->List V->Hp->VK->Prop:=fun x vs H Q=>∃l y xs d ds j,x=.ref l/\vs=[y]/\H l=some (.lst xs)/\DIns K H ds xs/\gL K H d y/\d.depth<=8/\DT.depths ds<=8/\xs.length<=1000/\ds[j]?=some d/\(∀m,m<j->ds[m]?≠some d)/\Q (.int (j:Nat)) H
theorem wz{h:Heap}:∀{ks:List DT}{us:Zf}{i:Nat}{k:DT},DAts h ks us->ks[i]?=some k->∃u,us[i]?=some u/\nQ h k u
 |[],_,_,_,_,e=>by cases e
 |k::ks,us,0,_,q,e=>by
  obtain⟨v,us',rfl,h1,_⟩:=q;cases e;exact⟨v,rfl,h1⟩
 |k::ks,us,i+1,_,q,e=>by
  obtain⟨v,us',rfl,_,h2⟩:=q;rw[nY]at e;obtain⟨u,h3,h4⟩:=wz h2 e;exact⟨u,by rw[nY];exact h3,h4⟩
open Classical in
theorem Ao(hu:X.A.units+16<cLine):EE X "list.index" (yY X.K):=by
 intro J6 s σ H x vs v us Q I rx rv h;obtain⟨l,y,xs,d,ds,j,rfl,rfl,hH,hds,hd,d8,ds8,hz,hj,hno,q⟩:=h;cases rx;obtain⟨u,rfl,ru⟩:=rv.one;obtain⟨z,its,n,r,hl,e⟩:=I.lstM hH;have hu':X.A.in1.units+8<cLine:=by show X.A.units+1+8<cLine;omega
 have dv:=gf I 8 d8 hd ru;have hi:=kK I ds8 hds r;have lz:ds.length=its.length:=DAts.length hi;have jl:j<its.length:=by rw[<-lz];exact(bJ.1 hj).1
 have at_:∀m (hm:m<its.length),nQ s.heap (ds[m]'(by omega)) its[m]:=fun m hm=>by
  obtain⟨w,hw,q⟩:=wz hi (i:=m) (bR (by omega));rw[bR hm]at hw;injection hw with hw;rw[hw];exact q
 refine qJ F.slot_list_index ⟨_,e,rfl⟩ F.entry_list_index (F.args_list_index_2 _ _)
  (SeqAt.list_indexAt l its.toArray n none #[] u (fun w=>@decide (nQ s.heap d w) (propDecidable _)) j (by simpa using jl) (by omega) ?_ ?_) ⟨e,fun w hw=>oE d8 hu' dv hi ds8 w (by simpa using hw),?_⟩
 ·refine zzr1 ?_;have:=at_ j jl;rw[(bJ.1 hj).2]at this;simpa using this
 ·intro m hm lt;have hm':m<its.length:=by simpa using hm
  refine zzr0 fun q=>hno m lt ?_;have e1:=nQ.inj 8 d8 (by simpa using q) (at_ m hm');rw[bR (by omega),<-e1]
 ·exact⟨.int (j:Nat),H,I.tok _,⟨_,rfl⟩,q⟩
end
def vv(h:Heap)(z TI TO T:Addr):Prop:=∃b:Bool,h.get? z=some { cls:=.type "zip",dict:=none,data:=.fields #[rawInt T,.bool b,.bool false,.ref TI,.ref TO],slots:=#[] }
section
variable{prog:bx}{w:World}{A:Around}{E:Zc}{s:Shared}
theorem sf{a:Addr}{Q:Option Obj->Shared->Prop}(h:Q (s.heap.get? a) s):wpAny (model prog w) A (loadIfAlive a) Q E s:=fun Γ p _=>by
 unfold loadIfAlive;rw[Sem.wp_loadIfAlive];exact h
theorem tF{z TI TO T:Addr}{o:Obj}{Q:Bool->Shared->Prop}(hz:vv s.heap z TI TO T)(hT:s.heap.get? T=some o)
  (hQ:∀h',vv h' z TI TO T->d6 z s.heap h'->Q false { s with heap:=h' }):wpAny (model prog w) A (jZ (.ref z)) Q E s:=by
 obtain⟨b,hz⟩:=hz;unfold jZ;refine ai (cC hz rfl (x:=rawInt T) rfl ?_);show wpAny _ _ (loadIfAlive ((T:Int).toNat) >>= _) _ _ _;refine ai (sf ?_);rw[jh,hT];simp only[Option.isNone_some,mH,if_false];refine ai (cC hz rfl (x:=.bool b) rfl ?_);cases b with
 |true=>exact aA (hQ _ ⟨true,hz⟩ (d6.refl ..))
 |false=>exact ai (fZ hz (by simp) fun h' hz' hs'=>aA (hQ h' ⟨true,hz'⟩ hs'))
theorem Av{z TI TO T i1 i2 l1 l2:Addr}{k1 k2:Nat}{xs ys:Array Value}{x y:Value}{o:Obj}{Q:Zc}(D:fo z TI TO i1 i2 l1 l2)
  (hz:vv s.heap z TI TO T) (hT:s.heap.get? T=some o) (hTI:IsPair s.heap TI (.ref i1) (.ref i2))
  (h1:s.heap.IsListIter i1 l1 k1) (h2:s.heap.IsListIter i2 l2 k2) (hl1:s.heap.IsList l1 xs) (hl2:s.heap.IsList l2 ys) (hx:xs[k1]?=some x) (hy:ys[k2]?=some y)
  (hQ:∀h',vv h' z TI TO T->h'.IsListIter i1 l1 (k1+1)->h'.IsListIter i2 l2 (k2+1)->IsPair h' s.heap.objs.size x y->h'.objs.size=s.heap.objs.size+1 ->
   (∀c o,c≠z->c≠i1->c≠i2->s.heap.get? c=some o->h'.get? c=some o)->Q (.ref s.heap.objs.size) { s with heap:=h' }) :
  wpAny (model prog w) A (aY.«zip.__next__» ⟨[.ref z],[]⟩) (fun fin s'=>∃v,fin=.done (.ret v)/\Q v s') E s:=by
 obtain⟨b,gz⟩:=id hz;show wpAny _ _ (field (.ref z) 2 >>= _) _ _ _;refine ai (cC gz rfl (x:=.bool false) rfl ?_);show wpAny _ _ (field (.ref z) 3 >>= _) _ _ _;refine ai (cC gz rfl (x:=.ref TI) rfl (ai (iR hTI rfl ?_)));show wpAny _ _ (jZ (.ref z) >>= _) _ _ _;refine ai (tF hz hT fun h₁ hz₁ hs₁=>?_);simp only[mH,if_false];refine ai ?_;simp only[<-Co,lB,ub];refine ai (ai (iS ?_));show wpAny _ _ (f6 (.ref i1) >>= _) _ _ _;refine ai (wpAny_nextOf_list_item (h1.extBut hs₁.extBut D.i1z) (hl1.extBut hs₁.extBut D.l1z) hx fun h₂ h1₂ hs₂=>aA ?_);refine aA (ai (ai (iS ?_)));show wpAny _ _ (f6 (.ref i2) >>= _) _ _ _;refine ai (wpAny_nextOf_list_item ((h2.extBut hs₁.extBut D.i2z).extBut hs₂.extBut D.i12.symm) ((hl2.extBut hs₁.extBut D.l2z).extBut hs₂.extBut D.l2i1) hy fun h₃ h2₃ hs₃=>aA ?_);refine aA (aA ?_);have sz:h₃.objs.size=s.heap.objs.size:=by rw[hs₃.1,hs₂.1,hs₁.1]
 refine ai (wpAny_newTuple (hsz:=by show 2<=aj;decide) ?_);obtain⟨b₁,gz₁⟩:=hz₁;have gz₃:=hs₃.extBut _ _ D.i2z.symm (hs₂.extBut _ _ D.i1z.symm gz₁);refine aA ⟨_,rfl,?_⟩;rw[sz];refine hQ _ ⟨b₁,aS _ gz₃⟩ ((h1₂.extBut hs₃.extBut D.i12).at fun o e=>aS _ e) (h2₃.at fun o e=>aS _ e) ?_ (by rw[jV,sz]) fun c o c1 c2 c3 e=>aS _ (hs₃.extBut _ _ c3 (hs₂.extBut _ _ c2 (hs₁.extBut _ _ c1 e)));rw[<-sz];exact cz _ rfl
theorem BH{z TI TO T i1 i2 l1 l2:Addr}{k1 k2:Nat}{xs ys:Array Value}{o:Obj}{Q:Fin->Shared->Prop}(hh:A.handled=none)(D:fo z TI TO i1 i2 l1 l2)
  (hz:vv s.heap z TI TO T) (hT:s.heap.get? T=some o) (hTI:IsPair s.heap TI (.ref i1) (.ref i2))
  (h1:s.heap.IsListIter i1 l1 k1) (h2:s.heap.IsListIter i2 l2 k2) (hl1:s.heap.IsList l1 xs) (hl2:s.heap.IsList l2 ys) (hend:xs[k1]?=none∨ys[k2]?=none)
  (hE:∀h' e,(∀c o,c≠z->c≠i1->c≠i2->s.heap.get? c=some o->h'.get? c=some o)->(∃o,h'.get? e=some o/\o.cls=.type "StopIteration")->E (.ref e) { s with heap:=h' }) :
  wpAny (model prog w) A (aY.«zip.__next__» ⟨[.ref z],[]⟩) Q E s:=by
 obtain⟨b,gz⟩:=id hz;show wpAny _ _ (field (.ref z) 2 >>= _) _ _ _;refine ai (cC gz rfl (x:=.bool false) rfl ?_);show wpAny _ _ (field (.ref z) 3 >>= _) _ _ _;refine ai (cC gz rfl (x:=.ref TI) rfl (ai (iR hTI rfl ?_)));show wpAny _ _ (jZ (.ref z) >>= _) _ _ _;refine ai (tF hz hT fun h₁ hz₁ hs₁=>?_);simp only[mH,if_false];refine ai ?_;simp only[<-Co,lB,ub];refine ai (ai (iS ?_));show wpAny _ _ (f6 (.ref i1) >>= _) _ _ _;cases hx:xs[k1]? with
 |none=>exact ai (wpAny_nextOf_list_end hh (h1.extBut hs₁.extBut D.i1z) (hl1.extBut hs₁.extBut D.l1z) hx fun h₂ e hs₂ he=>hE h₂ e (fun c o c1 c2 _ x=>hs₂ _ _ c2 (hs₁.extBut _ _ c1 x)) he)
 |some x =>
  have hy:ys[k2]?=none:=by rcases hend with h|h;rw[hx]at h;cases h;exact h
  refine ai (wpAny_nextOf_list_item (h1.extBut hs₁.extBut D.i1z) (hl1.extBut hs₁.extBut D.l1z) hx fun h₂ h1₂ hs₂=>aA ?_);refine aA (ai (ai (iS ?_)));show wpAny _ _ (f6 (.ref i2) >>= _) _ _ _;exact ai (wpAny_nextOf_list_end hh ((h2.extBut hs₁.extBut D.i2z).extBut hs₂.extBut D.i12.symm) ((hl2.extBut hs₁.extBut D.l2z).extBut hs₂.extBut D.l2i1) hy fun h₃ e hs₃ he=>hE h₃ e (fun c o c1 c2 c3 x=>hs₃ _ _ c3 (hs₂.extBut _ _ c2 (hs₁.extBut _ _ c1 x))) he)
theorem At{z TI TO T i1 i2 l1 l2:Addr}{k1 k2:Nat}{xs ys:Array Value}{x y:Value}{o:Obj}{Q:Option Value->Shared->Prop}(D:fo z TI TO i1 i2 l1 l2)
  (hz:vv s.heap z TI TO T) (hT:s.heap.get? T=some o) (hTI:IsPair s.heap TI (.ref i1) (.ref i2))
  (h1:s.heap.IsListIter i1 l1 k1) (h2:s.heap.IsListIter i2 l2 k2) (hl1:s.heap.IsList l1 xs) (hl2:s.heap.IsList l2 ys) (hx:xs[k1]?=some x) (hy:ys[k2]?=some y)
  (hQ:∀h',vv h' z TI TO T->h'.IsListIter i1 l1 (k1+1)->h'.IsListIter i2 l2 (k2+1)->IsPair h' s.heap.objs.size x y->h'.objs.size=s.heap.objs.size+1 ->
   (∀c o,c≠z->c≠i1->c≠i2->s.heap.get? c=some o->h'.get? c=some o)->Q (some (.ref s.heap.objs.size)) { s with heap:=h' }):wpAny (model prog w) A (pyNext (.ref z)) Q E s:=by
 have tz:s.TypeIs (.ref z) "zip":=let⟨_,e⟩:=hz;⟨_,e,rfl⟩;unfold pyNext;exact ai (n5 (j3 (name:=jg "__next__") tz jY
  (pk jY tz t9 (Av D hz hT hTI h1 h2 hl1 hl2 hx hy fun h' a1 a2 a3 a4 a5 a6=>aA (hQ h' a1 a2 a3 a4 a5 a6)) (t8 _))))
theorem As{z TI TO T i1 i2 l1 l2:Addr}{k1 k2:Nat}{xs ys:Array Value}{o:Obj}{Q:Option Value->Shared->Prop}(hh:A.handled=none)(D:fo z TI TO i1 i2 l1 l2)
  (hz:vv s.heap z TI TO T) (hT:s.heap.get? T=some o) (hTI:IsPair s.heap TI (.ref i1) (.ref i2))
  (h1:s.heap.IsListIter i1 l1 k1) (h2:s.heap.IsListIter i2 l2 k2) (hl1:s.heap.IsList l1 xs) (hl2:s.heap.IsList l2 ys) (hend:xs[k1]?=none∨ys[k2]?=none)
  (hQ:∀h',(∀c o,c≠z->c≠i1->c≠i2->s.heap.get? c=some o->h'.get? c=some o)->Q none { s with heap:=h' }):wpAny (model prog w) A (pyNext (.ref z)) Q E s:=by
 have tz:s.TypeIs (.ref z) "zip":=let⟨_,e⟩:=hz;⟨_,e,rfl⟩;unfold pyNext;refine ai (n5 (j3 (name:=jg "__next__") tz jY
  (pk jY tz t9 (BH hh D hz hT hTI h1 h2 hl1 hl2 hend fun h' e hk he=>?_) (t8 _))))
 obtain⟨o,ho,hc⟩:=he;exact ai (vG (T:="StopIteration") (b:=true) ⟨o,ho,hc⟩ isSubtype_stop (aA (hQ _ hk)))
end
structure fC(B:Nat)(S:Addr)(xs ys:Array Value)(h:Heap)(acc:Array Value)(ts:Ze)(i:Nat):Prop where
 is:acc.toList=ts.map .ref
 len:ts.length=i
 at':∀(j:Nat) t,ts[j]?=some t->B<=t/\∃x y,xs[j]?=some x/\ys[j]?=some y/\IsPair h t x y
 uni:ts.Nodup
theorem fC.keep{B:Nat}{S:Addr}{xs ys:Array Value}{h h':Heap}{acc:Array Value}{ts:Ze}{i:Nat}(d:fC B S xs ys h acc ts i)(k:∀c o,B<=c->h.get? c=some o->h'.get? c=some o):fC B S xs ys h' acc ts i :=
 ⟨d.is,d.len,fun j t e=>let⟨a,x,y,b,c,q⟩:=d.at' j t e;⟨a,x,y,b,c,k _ _ a q⟩,d.uni⟩
theorem fC.push{B:Nat}{S:Addr}{xs ys:Array Value}{h:Heap}{acc:Array Value}{ts:Ze}{i:Nat}{T:Addr}{x y:Value}(d:fC B S xs ys h acc ts i)(hB:B<=T)(hn:T∉ts)(hx:xs[i]?=some x)(hy:ys[i]?=some y)(hT:IsPair h T x y):
  fC B S xs ys h (acc.push (.ref T)) (ts++[T]) (i+1):=by
 refine⟨by simp[d.is],by simp[d.len],fun j t e=>?_,?_⟩
 ·rw[List.getElem?_append]at e;split at e
  ·exact d.at' j t e
  ·rename_i g;rw[d.len]at g e;have e2:j-i=0:=by
    rcases tU (j-i)with q|q
    ·exact q
    ·rw[iA (by simp;omega)]at e;cases e
   rw[e2]at e;have e3:j=i:=by omega
   subst e3;simp at e;subst e;exact⟨hB,x,y,hx,hy,hT⟩
 ·rw[cB];refine⟨d.uni,by simp,fun a ha b hb=>?_⟩;simp at hb;subst hb;exact fun q=>hn (q▸ha)
section
variable{prog:bx}{w:World}{A:Around}{R:Result->Shared->Prop}
theorem Au{z TI TO T₁ i1 i2 l1 l2 S:Addr}{B:Nat}{xs ys:Array Value}(hh:A.handled=none)(D:fo z TI TO i1 i2 l1 l2)(bz:z<B)(bI:TI<B)(b1:i1<B)(b2:i2<B)(c1:l1<B)(c2:l2<B)(bS:S<B)
  (sz:S≠z) (sI:S≠TI) (s1:S≠i1) (s2:S≠i2) (sl1:S≠l1) (sl2:S≠l2) (hn:xs.size<=aj) (res:Value) :
  ∀(k i:Nat) (s:Shared) (acc:Array Value) (c:Nat) (ts:Ze),min xs.size ys.size-i=k->i<=min xs.size ys.size->vv s.heap z TI TO T₁->T₁∈ts->IsPair s.heap TI (.ref i1) (.ref i2) ->
  s.heap.IsListIter i1 l1 i->s.heap.IsListIter i2 l2 i->s.heap.IsList l1 xs->s.heap.IsList l2 ys->s.heap.get? S=some { cls:=.type "list",dict:=none,data:=.seq acc c,slots:=#[] }->fC B S xs ys s.heap acc ts i ->
  (∀h' acc' c' ts',(∀b o,b≠S->b≠z->b≠i1->b≠i2->s.heap.get? b=some o->h'.get? b=some o)->h'.get? S=some { cls:=.type "list",dict:=none,data:=.seq acc' c',slots:=#[] }->fC B S xs ys h' acc' ts' (min xs.size ys.size)->R (.ok (.ret res)) { s with heap:=h' }) ->
  zzl77 (model prog w) A (.builtin "list.extend.loop" ⟨[.ref S,.ref z,res],[]⟩) R s:=by
 intro k
 induction k with
 |zero =>
  intro i s acc c ts hk hi hz hT hTI h1 h2 hl1 hl2 hS d hR;have e:i=min xs.size ys.size:=by omega
  obtain⟨j,hj⟩:=db hT;obtain⟨gT,x,y,_,_,qT⟩:=d.at' j _ hj;refine jf F.entry_extend_loop ?_;rw[je nX _];show wpAny _ A.in1 (pyNext (.ref z) >>= _) _ _ s;refine ai (As hh D hz qT hTI h1 h2 hl1 hl2 ?_ fun h' hk=>?_)
  ·rcases Nat.le_total xs.size ys.size with q|q
   ·exact .inl (qx (by omega))
   ·exact .inr (qx (by omega))
  ·exact aA (hR h' acc c ts (fun b o _ b2 b3 b4 q=>hk b o b2 b3 b4 q) (hk S _ sz s1 s2 hS) (e▸d.keep fun c o g q=>hk c o (c7 (cS bz g)) (c7 (cS b1 g)) (c7 (cS b2 g)) q))
 |succ k ih =>
  intro i s acc c ts hk hi hz hT hTI h1 h2 hl1 hl2 hS d hR;obtain⟨j,hj⟩:=db hT;obtain⟨gT,x,y,_,_,qT⟩:=d.at' j _ hj;have ix:i<xs.size:=by omega
  have iy:i<ys.size:=by omega
  refine jf F.entry_extend_loop ?_;rw[je nX _];show wpAny _ A.in1 (pyNext (.ref z) >>= _) _ _ s;refine ai (At D hz qT hTI h1 h2 hl1 hl2 (jc ix) (jc iy) fun h' a1 a2 a3 a4 a5 hk'=>?_);have hS':=hk' S _ sz s1 s2 hS;have hacc:acc.size=i:=by rw[<-jW,d.is,ak,d.len]
  have up:∀f:Obj->Obj,∀b o,b≠S->h'.get? b=some o->(h'.update S f).get? b=some o:=fun f b o hb q=>(lF _ _ (cA hb)).trans q;have lt:T₁<s.heap.objs.size:=az qT;have dn:fC B S xs ys h' acc ts i:=d.keep fun c o g q=>hk' c o (c7 (cS bz g)) (c7 (cS b1 g)) (c7 (cS b2 g)) q;have hnew:s.heap.objs.size∉ts:=fun q=>by
   obtain⟨j',hj'⟩:=db q;obtain⟨_,_,_,_,_,q'⟩:=d.at' j' _ hj';exact iQ _ (az q')
  have dn2:=dn.push (T:=s.heap.objs.size) (dH (qF gT lt)) hnew (jc ix) (jc iy) a4;show wpAny _ A.in1 (qv S (·.push (.ref s.heap.objs.size)) >>= _) _ _ _;refine ai (qt hS' rfl (aA ⟨jd nX _,ih (i+1) _ (acc.push (.ref s.heap.objs.size)) _ (ts++[s.heap.objs.size]) (by omega) (by omega) ?_ (by simp[hT]) (up _ _ _ sI.symm (hk' _ _ D.TIz D.TIi1 D.TIi2 hTI)) (a2.at fun o q=>up _ _ o s1.symm q) (a3.at fun o q=>up _ _ o s2.symm q)
   (hl1.at fun o q=>up _ _ o sl1.symm (hk' _ o D.l1z D.l1i1 D.l1i2 q)) (hl2.at fun o q=>up _ _ o sl2.symm (hk' _ o D.l2z D.l2i1 D.l2i2 q)) (j6 _ hS' rfl) (dn2.keep fun c o g q=>up _ c o (c7 (cS bS g)) q) fun h'' acc' c' ts' hk'' hS'' hd=>?_⟩) (by rw[hacc];omega) (by show(acc.push _).size<=aj+1;rw[Array.size_push,hacc];omega))
  ·obtain⟨b,q⟩:=a1;exact⟨b,up _ _ _ sz.symm q⟩
  ·exact hR h'' acc' c' ts' (fun b o e1 e2 e3 e4 q=>hk'' b o e1 e2 e3 e4 (up _ b o e1 (hk' b o e2 e3 e4 q))) hS'' hd
theorem Cp{z TI TO i1 i2 l1 l2 S:Addr}{a b:Value}{xs ys:Array Value}{s:Shared}{c:Nat}(hh:A.handled=none)(D:fo z TI TO i1 i2 l1 l2)
  (sz:S≠z) (sI:S≠TI) (sO:S≠TO) (s1:S≠i1) (s2:S≠i2) (sl1:S≠l1) (sl2:S≠l2) (hn:xs.size<=aj) (res:Value)
  (hz:IsZip s.heap z TI TO .none) (hTI:IsPair s.heap TI (.ref i1) (.ref i2)) (hTO:IsPair s.heap TO a b)
  (h1:s.heap.IsListIter i1 l1 0) (h2:s.heap.IsListIter i2 l2 0) (hl1:s.heap.IsList l1 xs) (hl2:s.heap.IsList l2 ys) (hS:s.heap.get? S=some { cls:=.type "list",dict:=none,data:=.seq #[] c,slots:=#[] })
  (hR:∀h' acc' c' ts',(∀b o,b≠S->b≠z->b≠TO->b≠i1->b≠i2->s.heap.get? b=some o->h'.get? b=some o)->h'.get? S=some { cls:=.type "list",dict:=none,data:=.seq acc' c',slots:=#[] }->fC s.heap.objs.size S xs ys h' acc' ts' (min xs.size ys.size)->R (.ok (.ret res)) { s with heap:=h' }) :
  zzl77 (model prog w) A (.builtin "list.extend.loop" ⟨[.ref S,.ref z,res],[]⟩) R s:=by
 refine jf F.entry_extend_loop ?_;rw[je nX _];show wpAny _ A.in1 (pyNext (.ref z) >>= _) _ _ s;rcases tU (min xs.size ys.size)with e|e
 ·refine ai (wpAny_pyNext_zip_end hh D hz hTI hTO h1 h2 hl1 hl2 ?_ fun h' hk=>?_)
  ·rcases Nat.le_total xs.size ys.size with q|q
   ·exact .inl (qx (by omega))
   ·exact .inr (qx (by omega))
  ·exact aA (hR h' #[] c [] (fun b o _ b2 b3 b4 b5 q=>hk b o b2 b3 b4 b5 q) (hk S _ sz sO s1 s2 hS) (e▸⟨rfl,rfl,fun j t q=>by simp at q,.nil⟩))
 ·have ix:0<xs.size:=by omega
  have iy:0<ys.size:=by omega
  refine ai (wpAny_pyNext_zip_item D hz hTI hTO h1 h2 hl1 hl2 (jc ix) (jc iy) fun h' a1 a2 a3 a4 a5 a6 hk=>?_);have hS':=hk S _ sz sO s1 s2 hS;have up:∀f:Obj->Obj,∀b o,b≠S->h'.get? b=some o->(h'.update S f).get? b=some o:=fun f b o hb q=>(lF _ _ (cA hb)).trans q;have tn:s.heap.objs.size≠S:=c7 (az hS);have lz:z<s.heap.objs.size:=az hz;have lI:TI<s.heap.objs.size:=az hTI;have li1:i1<s.heap.objs.size:=let⟨_,e,_⟩:=h1;az e;have li2:i2<s.heap.objs.size:=let⟨_,e,_⟩:=h2;az e;have ll1:l1<s.heap.objs.size:=let⟨_,e,_⟩:=hl1;az e;have ll2:l2<s.heap.objs.size:=let⟨_,e,_⟩:=hl2;az e;show wpAny _ A.in1 (qv S (·.push (.ref s.heap.objs.size)) >>= _) _ _ _;refine ai (qt hS' rfl (aA ⟨jd nX _,Au (T₁:=s.heap.objs.size) (B:=s.heap.objs.size) hh D lz lI li1 li2 ll1 ll2 (az hS) sz sI s1 s2 sl1 sl2 hn res _ 1 _ (#[].push (.ref s.heap.objs.size)) _ [s.heap.objs.size] rfl (by omega) ⟨false,up _ _ _ sz.symm a1⟩ (by simp)
   (up _ _ _ sI.symm (hk _ _ D.TIz D.TITO D.TIi1 D.TIi2 hTI)) (a3.at fun o q=>up _ _ o s1.symm q) (a4.at fun o q=>up _ _ o s2.symm q) (hl1.at fun o q=>up _ _ o sl1.symm (hk _ o D.l1z D.l1TO D.l1i1 D.l1i2 q)) (hl2.at fun o q=>up _ _ o sl2.symm (hk _ o D.l2z D.l2TO D.l2i1 D.l2i2 q))
   (j6 _ hS' rfl) ⟨rfl,rfl,fun j t q=>?_,by simp⟩ fun h'' acc' c' ts' hk'' hS'' hd=>?_⟩) (by show(#[]:Array Value).size<=_;simp) (by show(#[Value.ref s.heap.objs.size]:Array Value).size<=aj+1;simp))
  ·cases j with
   |zero =>
    simp at q;subst q;exact⟨aG _,_,_,jc ix,jc iy,up _ _ _ tn a5⟩
   |succ j=>simp at q
  ·exact hR h'' acc' c' ts' (fun b o e1 e2 e3 e4 e5 q=>hk'' b o e1 e2 e4 e5 (up _ b o e1 (hk b o e2 e3 e4 e5 q))) hS'' hd
theorem wT:qK (.type "zip") "__len__"=pure none:=by rw[typeLookup_type,builtinLookup_eq_fast];kernel_rfl
theorem vH:qK (.type "zip") "__length_hint__"=pure none:=by rw[typeLookup_type,builtinLookup_eq_fast];kernel_rfl
structure vj(h:Heap)(z TI TO i1 i2 l1 l2:Addr)(xs ys:Array Value):Prop where
 ap:fo z TI TO i1 i2 l1 l2
 zp:IsZip h z TI TO .none
 ti:IsPair h TI (.ref i1) (.ref i2)
 to:∃a b,IsPair h TO a b
 j1:h.IsListIter i1 l1 0
 j2:h.IsListIter i2 l2 0
 k1:h.IsList l1 xs
 k2:h.IsList l2 ys
theorem vj.keep{h h':Heap}{z TI TO i1 i2 l1 l2:Addr}{xs ys:Array Value}(Z:vj h z TI TO i1 i2 l1 l2 xs ys){S:Addr}(hS:∀b,b=z∨b=TI∨b=TO∨b=i1∨b=i2∨b=l1∨b=l2->b≠S)(k:∀b o,b≠S->h.get? b=some o->h'.get? b=some o):vj h' z TI TO i1 i2 l1 l2 xs ys :=
 ⟨Z.ap,k _ _ (hS _ (by simp)) Z.zp,k _ _ (hS _ (by simp)) Z.ti,let⟨a,b,q⟩:=Z.to;⟨a,b,k _ _ (hS _ (by simp)) q⟩,Z.j1.at fun o q=>k _ o (hS _ (by simp)) q,Z.j2.at fun o q=>k _ o (hS _ (by simp)) q,Z.k1.at fun o q=>k _ o (hS _ (by simp)) q,Z.k2.at fun o q=>k _ o (hS _ (by simp)) q⟩
theorem vj.old{h:Heap}{z TI TO i1 i2 l1 l2:Addr}{xs ys:Array Value}(Z:vj h z TI TO i1 i2 l1 l2 xs ys):∀b,b=z∨b=TI∨b=TO∨b=i1∨b=i2∨b=l1∨b=l2->b<h.objs.size:=by
 intro b hb;rcases hb with rfl|rfl|rfl|rfl|rfl|rfl|rfl
 ·exact az Z.zp
 ·exact az Z.ti
 ·obtain⟨_,_,q⟩:=Z.to;exact az q
 ·obtain⟨_,q,_⟩:=Z.j1;exact az q
 ·obtain⟨_,q,_⟩:=Z.j2;exact az q
 ·obtain⟨_,q,_⟩:=Z.k1;exact az q
 ·obtain⟨_,q,_⟩:=Z.k2;exact az q
theorem zW{z TI TO i1 i2 l1 l2 S:Addr}{xs ys:Array Value}{s:Shared}{c:Nat}(hh:A.handled=none)(Z:vj s.heap z TI TO i1 i2 l1 l2 xs ys)(hS':∀b,b=z∨b=TI∨b=TO∨b=i1∨b=i2∨b=l1∨b=l2->b≠S)(hn:xs.size<=aj)(res:Value)
  (hS:s.heap.get? S=some { cls:=.type "list",data:=.seq #[] c })
  (hR:∀h' acc' c' ts',(∀b o,b≠S->b≠z->b≠TO->b≠i1->b≠i2->s.heap.get? b=some o->h'.get? b=some o)->h'.get? S=some { cls:=.type "list",dict:=none,data:=.seq acc' c',slots:=#[] }->fC s.heap.objs.size S xs ys h' acc' ts' (min xs.size ys.size)->R (.ok (.ret res)) { s with heap:=h' }) :
  wpAny (model prog w) A.in1 (aY.List.listExtendWith (.ref S) (.ref z) res)
   (fun fin s'=>match fin with | .done f=>R (.ok f) s' | .again c'=>c'.quiet=true/\zzl77 (model prog w) A c' R s') (fun e s'=>R (.error e) s') s:=by
 have tz:s.TypeIs (.ref z) "zip":=⟨_,Z.zp,rfl⟩;unfold aY.List.listExtendWith;refine ai (wpAny_typeOf tz ?_);have e1:aY.List.listSameRef (.ref S) (.ref z)=false:=by simp[aY.List.listSameRef,(hS' z (by simp)).symm]
 have e2:(Value.type "zip"==Value.type "list")=false:=by decide
 have e3:(Value.type "zip"==Value.type "tuple")=false:=by decide
 simp only[e1,e2,e3,Bool.or_false,mH,if_false];refine ai (qC Z.zp (ai (iS ?_)));unfold aY.List.listLengthHint;refine ai (zV tz wT ?_);show wpAny _ A.in1 (specialOf (Value.ref z) (jg "__length_hint__") >>= _) _ _ _;refine ai (zV tz vH (aA ?_));show wpAny _ A.in1 (rule "list.extend.makes-room" >>= fun _=>aY.List.listTouch (.ref S) >>= fun _=>again (.builtin "list.extend.loop" ⟨[.ref S,.ref z,res],[]⟩)) _ _ _;refine ai (mI (ai ?_));show wpAny _ A.in1 (qv S (·.push .none) >>= fun _=>qv S (·.pop)) _ _ _;refine ai (qt hS rfl ?_);have q2:=j6 (eN (·.push Value.none)) hS rfl;refine qt (hz:=by seq_fits) q2 rfl ?_;have q3:=j6 (eN (·.pop)) q2 rfl;have oth:∀b o,b≠S->s.heap.get? b=some o->((s.heap.update S (eN (·.push Value.none))).update S (eN (·.pop))).get? b=some o :=
  fun b o hb e=>(lF _ _ (cA hb)).trans ((lF _ _ (cA hb)).trans e)
 have Z2:=Z.keep hS' oth;obtain⟨a,b,qo⟩:=Z2.to;have n:=fun b hb=>(hS' b hb).symm;refine aA ⟨jd nX _,Cp hh Z.ap (n _ (by simp)) (n _ (by simp)) (n _ (by simp)) (n _ (by simp)) (n _ (by simp)) (n _ (by simp)) (n _ (by simp)) hn res Z2.zp Z2.ti qo Z2.j1 Z2.j2 Z2.k1 Z2.k2 q3 fun h' acc' c' ts' hk hS2 hd=>?_⟩;refine hR h' acc' c' ts' (fun b o f1 f2 f3 f4 f5 q=>hk b o f1 f2 f3 f4 f5 (oth b o f1 q)) hS2 ?_;have es:(((s.heap.update S (eN (·.push Value.none))).update S (eN (·.pop))).objs.size)=s.heap.objs.size:=by simp[Heap.update]
 exact es▸hd
theorem Cq{z TI TO i1 i2 l1 l2 S:Addr}{xs ys:Array Value}{s:Shared}(hh:A.handled=none)(Z:vj s.heap z TI TO i1 i2 l1 l2 xs ys)(hS':∀b,b=z∨b=TI∨b=TO∨b=i1∨b=i2∨b=l1∨b=l2->b≠S)(hn:xs.size<=aj)
  (hS:s.heap.get? S=some { cls:=.type "list",data:=.seq #[] })
  (hR:∀h' acc' c' ts',(∀b o,b≠S->b≠z->b≠TO->b≠i1->b≠i2->s.heap.get? b=some o->h'.get? b=some o)->h'.get? S=some { cls:=.type "list",dict:=none,data:=.seq acc' c',slots:=#[] }->fC s.heap.objs.size S xs ys h' acc' ts' (min xs.size ys.size)->R (.ok (.ret .none)) { s with heap:=h' }) :
  wpAny (model prog w) A.in1 (aY.«list.__init__» ⟨[.ref S,.ref z],[]⟩)
   (fun fin s'=>match fin with | .done f=>R (.ok f) s' | .again c'=>c'.quiet=true/\zzl77 (model prog w) A c' R s') (fun e s'=>R (.error e) s') s:=by
 show wpAny _ _ (aY.List.listItems (.ref S) >>= _) _ _ s;refine ai ?_;unfold aY.List.listItems;refine ai (iR hS rfl (aA ?_));show wpAny _ _ (qv S (fun _=>#[]) >>= _) _ _ s;refine ai (qt hS rfl ?_);have q2:=j6 (eN (fun _=>(#[]:Array Value))) hS rfl;have oth:∀b o,b≠S->s.heap.get? b=some o->(s.heap.update S (eN (fun _=>(#[]:Array Value)))).get? b=some o:=fun b o hb e=>(lF _ _ (cA hb)).trans e;refine ai (qA (zW hh (Z.keep hS' oth) hS' hn .none q2 fun h' acc' c' ts' hk g d=>?_));have es:((s.heap.update S (eN (fun _=>(#[]:Array Value)))).objs.size)=s.heap.objs.size:=by simp[Heap.update]
 exact hR h' acc' c' ts' (fun b o f1 f2 f3 f4 f5 q=>hk b o f1 f2 f3 f4 f5 (oth b o f1 q)) g (es▸d)
theorem yg{E:Zc}{Q:Zc}{z TI TO i1 i2 l1 l2:Addr}{xs ys:Array Value}{s:Shared}(hh:A.handled=none)(Z:vj s.heap z TI TO i1 i2 l1 l2 xs ys)(hn:xs.size<=aj)
  (hQ:∀h' acc' c' ts',(∀b o,b≠z->b≠TO->b≠i1->b≠i2->s.heap.get? b=some o->h'.get? b=some o)->h'.get? s.heap.objs.size=some { cls:=.type "list",dict:=none,data:=.seq acc' c',slots:=#[] }->fC (s.heap.objs.size+1) s.heap.objs.size xs ys h' acc' ts' (min xs.size ys.size)->Q (.ref s.heap.objs.size) { s with heap:=h' }) :
  wpAny (model prog w) A (call (.type "list") [.ref z]) Q E s:=by
 refine callType_codes (Q₁:=fun obj s₁=>obj=.ref s.heap.objs.size/\s₁={ s with heap:=s.heap.push { cls:=.type "list",data:=.seq #[] } }) F.called_list (F.typeCall_list_1 _) F.entry_list_init (code_list_new _ ⟨rfl,rfl⟩) fun obj s₁ h₁=>?_;obtain⟨rfl,rfl⟩:=h₁;have hS:(s.heap.push { cls:=.type "list",data:=.seq #[] }).get? s.heap.objs.size=some { cls:=.type "list",data:=.seq #[] }:=cz _ rfl;have ne:∀b,b=z∨b=TI∨b=TO∨b=i1∨b=i2∨b=l1∨b=l2->b≠s.heap.objs.size:=fun b hb=>b9 (Z.old b hb);refine⟨⟨_,hS,rfl⟩,F.args_list_init_2 _ _,Cq (A:=A.in1) hh (Z.keep ne fun b o _ q=>aS _ q) ne hn hS fun h' acc' c' ts' hk g d=>?_⟩;exact⟨rfl,hQ h' acc' c' ts' (fun b o f2 f3 f4 f5 q=>hk b o (b9 (az q)) f2 f3 f4 f5 (aS _ q)) g (by rw[<-jV s.heap { cls:=.type "list",data:=.seq #[] }];exact d)⟩
end
def lX(H:Hp):List Addr->List V->List V->Hp
 |t::ts,x::xs,y::ys=>lX (upd H t (.tup [x,y])) ts xs ys
 |_,_,_=>H
theorem nz:∀{ts:Ze}{xs ys:List V}{H:Hp}{b:Addr},b∉ts->lX H ts xs ys b=H b
 |[],_,_,_,_,_=>by simp[lX]
 |_::_,[],_,_,_,_=>by simp[lX]
 |_::_,_::_,[],_,_,_=>by simp[lX]
 |t::ts,x::xs,y::ys,H,b,h=>by
  rw[lX,nz (fun q=>h (ff _ q))];exact ag (fun q:b=t=>h (by rw[q];exact fg))
theorem uW:∀{ts:Ze}{xs ys:List V}{H:Hp}{j:Nat}{t:Addr}{x y:V},ts.Nodup->ts[j]?=some t->xs[j]?=some x->ys[j]?=some y->lX H ts xs ys t=some (.tup [x,y])
 |[],_,_,_,j,_,_,_,_,e,_,_=>by simp at e
 |_::_,[],_,_,j,_,_,_,_,_,e,_=>by simp at e
 |_::_,_::_,[],_,j,_,_,_,_,_,_,e=>by simp at e
 |t::ts,x::xs,y::ys,H,0,t',x',y',n,e1,e2,e3=>by
  simp at e1 e2 e3;subst e1 e2 e3;rw[lX,nz (gM.mp n).1,aa]
 |t::ts,x::xs,y::ys,H,j+1,t',x',y',n,e1,e2,e3=>by
  rw[lX];exact uW (gM.mp n).2 (by simpa using e1) (by simpa using e2) (by simpa using e3)
section
variable{X:Cx}{J6:Zd}{σ:St}{H:Hp}{s:Shared}{h':Heap}
theorem Inv.many{H':Hp}{N:Ze}{t':Nat}(I:Inv X J6 σ H s)(k:∀b u,s.heap.get? b=some u->h'.get? b=some u)(hN:∀a∈N,s.heap.objs.size<=a)(out:∀b,b∉N->H' b=H b)(new:∀a∈N,∀o,H' a=some o->bP X.prog X.w X.K H' h' a o):
  Inv X J6 σ H' { s with heap:=h',toks:=t' }:=by
 have old:∀b o,H b=some o->b∉N:=fun b o e q=>iQ _ (cS (I.hok.lt e) (hN b q));have same:∀b o,H b=some o->H' b=some o:=fun b o e=>by rw[out b (old b o e)];exact e
 refine I.un ⟨fun b u q _ _ _=>k b u q,fun b u q _ _ _=>⟨u.slots,k b u q⟩,fun b u q n _=>?_,fun b u q _=>⟨u,k b u q⟩,fun b xs q=>same b _ q,fun b o u q=>same b _ q,fun b ps q=>⟨#[],by rw[same b _ q];simp⟩⟩ fun b o e=>?_
 ·rw[out b fun z=>iQ _ (cS (az q) (hN b z))];exact n
 ·by_cases hb:b∈N
  ·exact new b hb o e
  ·rw[out b hb]at e;exact(I.hok b o e).stay (fun c v _ q=>k c v q) (fun c q=>same c _ q) fun c xs q=>same c _ q
theorem Dn{vs:List V}{us:Zf}(r:aW vs us):∀{j:Nat}{u:Value},us[j]?=some u->∃v,vs[j]?=some v/\RelV v u:=by
 induction r with
 |nil=>intro j u e;simp at e
 |cons a _ ih =>
  intro j u e;cases j with
  |zero=>simp at e;subst e;exact⟨_,rfl,a⟩
  |succ j=>exact ih (by simpa using e)
theorem yQ:∀ts:List Addr,aW (ts.map V.ref) (ts.map Value.ref)
 |[]=>.nil
 |t::ts=>.cons rfl (yQ ts)
variable{p p2 pos pos2:Pos}
def Bb(K:Za)(ta:TA):TE:=fun σ H Q=>ta σ H fun vs H1=>∃a b xs ys,vs=[.ref a,.ref b]/\aw K H1 a xs/\aw K H1 b ys /\
 ∀(D:Addr) (ts:Ze),H1 D=none->(∀t∈ts,H1 t=none)->(D::ts).Nodup->ts.length=min xs.length ys.length->Q (.ref D) (upd (lX H1 ts xs ys) D (.lst (ts.map .ref)))
theorem xL{a b:Expr}{ta:TA}(hc:X.calm=true)(hl:Gl X "list")(hlm:X.mg "list"=none)(hg:Gl X "zip")(hm:X.mg "zip"=none)(ha:PA X [a,b] ta)(hs:ay [a,b] X.env=[(false,eval a X.env),(false,eval b X.env)]:=by rfl)(hs2:ay [b] X.env=[(false,eval b X.env)]:=by rfl)
  (hs3:ay [.Call (.Name "zip" p) [a,b] [] pos] X.env=[(false,eval (.Call (.Name "zip" p) [a,b] [] pos) X.env)]:=by rfl) :
  PE X (.Call (.Name "list" p2) [.Call (.Name "zip" p) [a,b] [] pos] [] pos2) (Bb X.K ta):=by
 intro J6 s σ H Q I h;refine Call_ (jA I hl hlm l_ (qg ?_ (by rw[hs3];rfl) (by rfl)));rw[hs3];show wpAny _ _ (spliced ((false,eval (.Call (.Name "zip" p) [a,b] [] pos) X.env)::[])) _ _ s;refine yG ?_;refine Call_ (jA I hg hm boot_zip (qg (cp (ha pos J6 s σ H _ I h) fun us s1 zq0=>?_) (by rw[hs,hs2]) (by rw[hs2];rfl)));obtain⟨vs,H1,I1,r1,q1⟩:=zq0;obtain⟨l1,l2,xs,ys,e,hx,hy,q⟩:=q1;subst e;obtain⟨u,v,rfl,ru,rv⟩:=vals2 r1;cases ru;cases rv;obtain⟨its,rx,px,zx⟩:=I1.list hx;obtain⟨jts,ry,py,zy⟩:=I1.list hy;obtain⟨o1,n1,e1,_⟩:=id px;obtain⟨o2,n2,e2,_⟩:=id py;refine call_zip_2 px.isList py.isList fun h' a1 a2 a3 a4 a5 a6 hk=>?_;refine Calls.spliced_nil ?_;have Z:vj h' (s1.heap.objs.size+4) (s1.heap.objs.size+2) (s1.heap.objs.size+3) s1.heap.objs.size (s1.heap.objs.size+1) l1 l2 its.toArray jts.toArray :=
  ⟨zipApart_new (az e1) (az e2),a1,a2,⟨_,_,a3⟩,a4,a5,px.isList.at fun o q=>hk _ o q,py.isList.at fun o q=>hk _ o q⟩
 have lx:=rx.length;have ly:=ry.length;refine yg (s:={ s1 with heap:=h' }) (I.ok.hd hc) Z (by simp;omega) fun h2 acc c ts hk2 g d=>?_;have out:∀b o,s1.heap.get? b=some o->h2.get? b=some o:=fun b o q=>by
  have lt:=az q;exact hk2 b o (b9 (cS lt (qE _ 4))) (b9 (cS lt (qE _ 3))) (b9 lt) (b9 (cS lt (qE _ 1))) (hk b o q)
 have bd:∀t∈ts,s1.heap.objs.size+5<t:=fun t ht=>by
  obtain⟨j,hj⟩:=db ht;have:=(d.at' j t hj).1;have e:(t7 { s1 with heap:=h' }).objs.size=s1.heap.objs.size+5:=a6;rw[e]at this;omega
 have a6':(t7 { s1 with heap:=h' }).objs.size=s1.heap.objs.size+5:=a6;rw[a6']at g ⊢;have nD:s1.heap.objs.size+5∉ts:=fun q=>iQ _ (bd _ q);have hD:s1.heap.objs.size<=s1.heap.objs.size+5:=qE _ _;have ht:∀t∈ts,s1.heap.objs.size<=t:=fun t q=>dH (qF hD (bd t q));refine⟨.ref (s1.heap.objs.size+5),upd (lX H1 ts xs ys) (s1.heap.objs.size+5) (.lst (ts.map .ref)),I1.many (N:=(s1.heap.objs.size+5)::ts) (t':=s1.toks) out (fun a ha=>?_) (fun b hb=>?_) fun a ha o e=>?_,rfl,q _ ts (I1.hok.fresh hD) (fun t z=>I1.hok.fresh (ht t z)) (gM.mpr ⟨nD,d.uni⟩) (by rw[d.len];simp[lx,ly])⟩
 ·rcases cR.mp ha with z|z
  ·rw[z];exact hD
  ·exact ht a z
 ·rw[ag fun z=>hb (by rw[z];exact fg)];exact nz fun z=>hb (ff _ z)
 ·rcases cR.mp ha with z|z
  ·subst z;rw[aa]at e;cases e;refine⟨by rw[ak,d.len];simp;omega,ts.map .ref,c,yQ ts,?_⟩;rw[<-d.is];simpa using g
  ·have ne:a≠s1.heap.objs.size+5:=fun w=>nD (w▸z);rw[ag ne]at e;obtain⟨j,hj⟩:=db z;obtain⟨_,x,y,hx',hy',qT⟩:=d.at' j a hj;obtain⟨vx,ex,rx'⟩:=Dn rx (j:=j) (u:=x) (by simpa using hx');obtain⟨vy,ey,ry'⟩:=Dn ry (j:=j) (u:=y) (by simpa using hy');rw[uW d.uni hj ex ey]at e;cases e;exact⟨by show 2<=aj;decide,[x,y],.cons rx' (.cons ry' .nil),⟨_,qT,rfl,_,rfl⟩⟩
end
end L2
namespace L2
open PySem PySem.Spec PyProof.Rows
end L2
end

section
set_option Elab.async false
set_option linter.all false
set_option maxRecDepth 100000
namespace HT
open PySem PyProof.Rows
section
open PySem.SeqAt
open PySem.AutoSeq1 (wpAny_loadPart')
open PySem.MeetsSeq PySem.MeetsSeq2 PySem.MeetsSeq3
theorem gt_loop(l b:Addr)(its its2:Zf)(n n2:Nat)(dd dd2:Option Addr)(sl sl2:Array (Option Value)):∀(ns ms:List Int) (i:Nat),cT (its.drop i) ns->cT (its2.drop i) ms->its.length+ms.length=its2.length+ns.length ->
  Meets (aY.«list.__eq__.loop» ⟨[.ref l,.ref b,rawInt i,rawInt 4],[]⟩)
   (fun _ R s=>s.heap.get? l=some { cls:=.type "list",dict:=dd,data:=.seq its.toArray n,slots:=sl }/\s.heap.get? b=some { cls:=.type "list",dict:=dd2,data:=.seq its2.toArray n2,slots:=sl2 }/\R (.ok (.ret (.bool (lexLt ms ns)))) s):=by
 intro ns
 induction ns with
 |nil =>
  intro ms i h1 h2 hz prog w A R s h;obtain⟨hp,g,d,tk,os⟩:=s;obtain⟨hl,hb,h⟩:=h
  wp_walk using cc hl,cc hb
  rcases ints_drop h1 with⟨_,z⟩|⟨_,_,_,_,e,_⟩
  ·have e1:its.toArray[((i:Nat):Int).toNat]?=none:=by simp;omega
   rw[e1]
   wp_walk using cc hl,cc hb
   show R (.ok (.ret (.bool (decide (its2.toArray.size<its.toArray.size))))) _;have e2:decide (its2.toArray.size<its.toArray.size)=lexLt ms []:=by
    simp only[bu];cases ms with
    |nil=>exact zzr0 (by simp at hz;omega)
    |cons m ms=>exact zzr0 (by simp at hz;omega)
   rw[e2];exact h
  ·cases e
 |cons a ns ih =>
  intro ms i h1 h2 hz prog w A R s h;obtain⟨hp,g,d,tk,os⟩:=s;obtain⟨hl,hb,h⟩:=h
  wp_walk using cc hl,cc hb
  rcases ints_drop h1 with⟨e,_⟩|⟨a',t,r,g1,e,h1'⟩
  ·cases e
  cases e;have e1:its.toArray[((i:Nat):Int).toNat]?=some (.int a t):=by simpa using g1
  rw[e1];rcases ints_drop h2 with⟨e,z⟩|⟨c,u,r2,g2,e,h2'⟩
  ·subst e;have e2:its2.toArray[((i:Nat):Int).toNat]?=none:=by simp;omega
   rw[e2]
   wp_walk using cc hl,cc hb
   show R (.ok (.ret (.bool (decide (its2.toArray.size<its.toArray.size))))) _;rw[zzr1 (by simp only[bu];simp at hz;omega)];exact h
  subst e;have e2:its2.toArray[((i:Nat):Int).toNat]?=some (.int c u):=by simpa using g2
  rw[e2];rw[lexLt_cons]at h;obtain⟨e,he,hiff⟩:=eqAt_int A.in1 ⟨hp,g,d,tk,os⟩ a t c u;refine ai (he prog w _ _ ?_);have hc:((i:Int)+1)=((i+1:Nat):Int):=by push_cast;rfl
  cases e with
  |true =>
   rw[if_pos (hiff.mp rfl).symm]at h
   wp_walk
   rw[hc];exact⟨jd plain_eq_loop _,jf entry_eq_loop (by
    rw[je plain_eq_loop _];exact ih r2 (i+1) h1' h2' (by simp at hz;omega) prog w A R _ ⟨hl,hb,h⟩)⟩
  |false =>
   rw[if_neg (fun q=>absurd (hiff.mpr q.symm) fj)]at h
   wp_walk using cc hl,cc hb
   rw[e1,e2];have hri:∀(E:Zc) (Q:Zc),Q (.bool (decide (c<a))) ⟨hp,g,d,tk,os⟩->wpAny (model prog w) A.in1 (richCompare .Gt (.int a t) (.int c u)) Q E ⟨hp,g,d,tk,os⟩:=fun E Q h=>(PyProof.Rows.gt_int h:wpAny (model prog w) A.in1 (cJ .Gt (.int a t) (.int c u)) Q E _)
   wp_walk using hri
   exact h
theorem list_gt_ints(l b:Addr)(its its2:Zf)(n n2:Nat)(dd dd2:Option Addr)(sl sl2:Array (Option Value))(ns ms:List Int)(h1:cT its ns)(h2:cT its2 ms):
  Meets (aY.«list.__gt__» ⟨[.ref l,.ref b],[]⟩)
   (fun _ R s=>s.heap.get? l=some { cls:=.type "list",dict:=dd,data:=.seq its.toArray n,slots:=sl }/\s.heap.get? b=some { cls:=.type "list",dict:=dd2,data:=.seq its2.toArray n2,slots:=sl2 }/\R (.ok (.ret (.bool (lexLt ms ns)))) s):=by
 intro prog w A R s h;obtain⟨hp,g,d,tk,os⟩:=s;obtain⟨hl,hb,h⟩:=h;have f2:=AutoSeq1.sub_list_list
 wp_walk using cc hl,cc hb
 exact⟨jd plain_eq_loop _,jf entry_eq_loop (by
  rw[je plain_eq_loop _];exact gt_loop l b its its2 n n2 dd dd2 sl sl2 ns ms 0 h1 h2 (by rw[<-h1.length,<-h2.length];omega) prog w A R _ ⟨hl,hb,h⟩)⟩
end
end HT
namespace L2
open PySem PySem.Spec PyProof.Rows
section
variable{X:Cx}
def ER(K:Za):R2:=fun x y H Q=>∃a b ns ms,x=.ref a/\y=.ref b/\aw K H a (ns.map V.int)/\aw K H b (ms.map V.int)/\Q (.bl (HT.lexLt ms ns)) H
theorem Ej(hu:X.A.units+16<cLine):kn X (cJ .Gt) (ER X.K):=by
 intro J6 s σ H x y v u Q I rx ry h;obtain⟨a,b,ns,ms,rfl,rfl,ha,hb,q⟩:=h;cases rx;cases ry;obtain⟨its,r1,p1,_⟩:=I.list ha;obtain⟨its2,r2,p2,_⟩:=I.list hb;have i1:cT its ns:=intsAre_of r1;have i2:cT its2 ms:=intsAre_of r2;obtain⟨⟨cls,dd,data,sl⟩,n,ho,hc,hd,he⟩:=id p1;obtain⟨⟨cls2,dd2,data2,sl2⟩,n2,ho2,hc2,hd2,he2⟩:=id p2;simp only at hc hd hc2 hd2 he he2;subst hc hd hc2 hd2 he he2;exact richCompare_meets_room (op:=.Gt) ⟨_,ho,rfl⟩ ⟨_,ho2,rfl⟩ PySem.F.slot_list_gt PySem.F.entry_list_gt (PySem.F.args_list_gt_2 _ _) (HT.list_gt_ints a b its its2 n n2 none none sl sl2 ns ms i1 i2)
  ⟨ho,ho2,show Value.bool (HT.lexLt ms ns)≠Value.notImplemented/\_ from⟨(fun x=>nomatch x),.bl _,H,I,rfl,q⟩⟩ (by omega)
end
end L2
end
set_option Elab.async false
set_option linter.all false
set_option maxRecDepth 100000
set_option maxHeartbeats 4000000
namespace Mum
open PySem PySem.Spec PyProof.Rows L2
def uu(K:Za):TS :=
 ar (bX (aN (aJ rGeI V0 (aJ Du (tC (.int 10)) (tC (.int 18))))) (aR V0) (bc))
 (ar (bg (aJ ii (aJ eO (aJ eO (aJ j_ (aJ ii V0 (tC (.int 1000000007))) (tC (.int 69069))) (aJ j_ V1 (tC (.int 40503)))) (tC (.int 977))) (tC (.int 2147483629))) U2)
 (ar (bg (aJ ii (aJ eO (aJ eO (aJ j_ V2 V2) (aJ j_ V1 (tC (.int 7919)))) (aJ ii V0 (tC (.int 65537)))) (tC (.int 2147483587))) U3)
 (ar (bg (aJ ii (aJ eO (aJ eO (aJ j_ V3 V3) (aJ j_ V2 (tC (.int 31)))) (tC (.int 5))) (tC (.int 2147483563))) U4)
 (aR (aJ eO (aJ j_ (aJ eO (aJ j_ V2 (tC (.int 2147483659))) V3) (tC (.int 2147483693))) V4)))))
def vn:List Str:=["cell","at","one","two","three"]
def w8(K:Za):TS :=
 ar (bg (cK (de K) (aD (xb (pH K) V0 (dR) (fN (tC (.int 12)))))) U1)
 (ar (eg (tJ K (aD (xb (pH K) V0 (fN (tC (.int 12))) (fN (tC (.int 63)))))) (gA K 2 (bb U2 (bb U3 (ga)))) (bg (aJ eO (aJ (df K) V1 (aJ ii V2 (tC (.int 12)))) V3) (xY V1 (aJ ii V2 (tC (.int 12))) rh)))
 (aR (dE (ji V1 (tC (.int 0)) (tC (.int 0))))))
def yu:List Str:=["script","cells","k","cell"]
def w_(K:Za):TS :=
 ar (bg (tC (.int 0)) (xY V0 (tC (.int 2)) rh))
 (aR V0)
def yv:List Str:=["pen"]
def w6(K:Za)(sp_law_spread:Sp):TS :=
 ar (bX (aN (aJ CP (aJ (df K) V0 (tC (.int 2))) V1)) (ar (bg (aJ (df K) V0 (tC (.int 1))) U2)
 (ar (bg (tC (.int 0)) U3)
 (ar (bX (aN (aJ CP V2 (cK (dL K) (aD (aJ (df K) V0 (tC (.int 0))))))) (bg (aJ (df K) (aJ (df K) V0 (tC (.int 0))) V2) U3) (bX (aN (aJ DZ (cK (dL K) (aD (aJ (df K) V0 (tC (.int 0))))) (tC (.int 0)))) (bg (aJ ii (aJ (df K) (aJ (df K) V0 (tC (.int 0))) (aJ ii (aJ eO (aJ j_ V2 (tC (.int 5))) (tC (.int 3))) (cK (dL K) (aD (aJ (df K) V0 (tC (.int 0))))))) (aJ eO (aJ Du (tC (.int 10)) (tC (.int 17))) V2)) U3) (bc)))
 (ar (bg (aJ eO V2 (tC (.int 1))) (xY V0 (tC (.int 1)) rh))
 (bg (aV sp_law_spread (aM V3 V2)) (xY V0 (tC (.int 2)) rh)))))) (bc))
 (ar (bg (aJ ii (aJ (df K) V0 (tC (.int 2))) V1) U4)
 (ar (bg (aJ Bo (aJ (df K) V0 (tC (.int 2))) V1) (xY V0 (tC (.int 2)) rh))
 (aR V4)))
def yr:List Str:=["pen","many","at","cell","found"]
def vP(K:Za)(sp_law_take:Sp):TS :=
 ar (bg (tC (.str "abcdefghijklmnopqrstuvwxyz")) U2)
 (ar (bg (wP K "str" (Dv K) (tC (.str "")) (aH (c9 1 [2,0] (tI (aD (tC (.int 7)))) U0 (jS) (aJ Bm V1 (aV sp_law_take (aM V2 (tC (.int 26)))))) bH)) U3)
 (ar (bg (aV sp_law_take (aM V0 (tC (.int 3)))) U4)
 (ar (bg (aV sp_law_take (aM V0 (tC (.int 26)))) U5)
 (ar (bg (aV sp_law_take (aM V0 (tC (.int 8)))) U6)
 (ar (bg (dE (bH)) U7)
 (ar (eg (tI (aD V1)) U8 (ar (bg (aJ Bm V2 (aJ ii (aJ eO V5 (aJ j_ (tC (.int 3)) V8)) (tC (.int 26)))) U9)
 (ar (bg (xb CO V3 (dR) (fN (aJ ii (aJ eO V6 (aJ j_ V8 (aJ ii V4 (tC (.int 2))))) (tC (.int 8))))) U10)
 (ar (bg (aJ (df K) (dE (ji (tC (.int 0)) (cK (dL K) (aD Fd)) (aJ Bo (cK (dL K) (aD Fd)) (tC (.int 2))))) V4) U11)
 (c8 (wP K "list" eo V7 (aD (aJ Dw (aJ Dw (xb CO Fd (dR) (fN V11)) V9) (xb CO Fd (fN V11) (dR))))))))))
 (aR V7)))))))
def wI:List Str:=["pen","many","letters","base","way","turn","size","found","k","sign","part","at"]
def z6(K:Za):TS :=
 bX (aN (aJ (uN K true) V1 V0)) (c8 (wP K "list" eo V0 (aD V1))) (bc)
def AR:List Str:=["doors","door"]
def om(K:Za)(sp_law_take:Sp)(sp_law_put:Sp):TS :=
 ar (bg (dE (bH)) U5)
 (ar (bg (aV sp_law_take (aM V0 (tC (.int 2)))) U6)
 (ar (eg (tJ K (aD V3)) (gA K 2 (bb U7 (bb U8 (ga)))) (ar (eg (tI (aH (aJ (df K) (dE (aH (tC (.int 0)) (ji (tC (.int 1)) (tC (.int 1)) (tC (.int 2))))) (aV sp_law_take (aM V0 (tC (.int 4))))) bH)) U9 (ar (bg (dJ (aH (tC (.str "say")) (aH (aJ (df K) V2 (aV sp_law_take (aM V0 (cK (dL K) (aD V2))))) bH))) U10)
 (c8 (aV sp_law_put (aH V5 (aH (dJ (aH V8 (aH Fd (aH (aJ (df K) V3 (aV sp_law_take (aM V0 (cK (dL K) (aD V3))))) bH)))) bH))))))
 (ar (eg (ca K V1) U11 (eg (tI (aH (aJ (df K) (dE (aH V4 (ji (tC (.int 1)) (tC (.int 1)) (tC (.int 2))))) (aV sp_law_take (aM V0 (tC (.int 4))))) bH)) U9 (c8 (aV sp_law_put (aH V5 (aH (dJ (aH V8 (aH (dJ (aM (tC (.str "ask")) V11)) (aH (aJ (df K) V3 (aV sp_law_take (aM V0 (cK (dL K) (aD V3))))) bH)))) bH))))))
 (ar (bg (aJ (df K) (dE (aH (xb (pH K) V3 (fN (aJ eO V7 (tC (.int 1)))) (dR)) (aD (xb (pH K) V3 (dR) (fN V7))))) V6) U12)
 (bX (sv (aN (aJ (EO K) V12 (dE (bH)))) (aN (aJ D0 (aV sp_law_take (aM V0 (tC (.int 3)))) (tC (.int 0))))) (c8 (aV sp_law_put (aH V5 (aH (dJ (aH V8 (aH (dJ (aD (tC (.str "still")))) (aH (aJ (o8 K) V12 (aV sp_law_take (aM V0 (cK (dL K) (aD V12))))) bH)))) bH)))) (bc))))))
 (aR V5)))
def oN:List Str:=["pen","asks","says","rooms","full","doors","down","k","room","turn","sign","ask","later"]
def vQ(K:Za)(sp_law_draw_doors:Sp)(sp_law_names:Sp)(sp_law_take:Sp)(sp_law_anew:Sp):TS :=
 ar (c8 (aV sp_law_anew (aD V0)))
 (ar (bg (aV sp_law_names (aM V0 (tC (.int 8)))) U3)
 (ar (bg (xb (pH K) V3 (dR) (fN (aJ eO (tC (.int 1)) (aJ (df K) (dE (aH (tC (.int 0)) (aH (tC (.int 1)) (aH (tC (.int 1)) (ji (tC (.int 2)) (tC (.int 2)) (tC (.int 3))))))) (aV sp_law_take (aM V0 (tC (.int 6)))))))) U4)
 (ar (bg (xb (pH K) V3 (fN (tC (.int 4))) (fN (aJ eO (tC (.int 5)) (aJ (df K) (dE (aH (tC (.int 0)) (aH (tC (.int 1)) (aH (tC (.int 1)) (ji (tC (.int 2)) (tC (.int 2)) (tC (.int 3))))))) (aV sp_law_take (aM V0 (tC (.int 6)))))))) U5)
 (ar (bg (aV sp_law_names (aM V0 (aJ eO (tC (.int 1)) (aV sp_law_take (aH V0 (aD V1)))))) U6)
 (ar (bg (aV sp_law_draw_doors (aH V0 (aH V4 (ji V5 V6 V2)))) U7)
 (aR (dJ (aH V4 (ji V5 V6 V7)))))))))
def wJ:List Str:=["pen","most","full","words","asks","says","rooms","doors"]
def si(K:Za)(C_Machine:Addr)(sp_Machine_init:Sp):TS :=
 aR (yU C_Machine sp_Machine_init [] E0 (aH (cK (de K) (aD (aJ (o8 K) V0 (tC (.int 0))))) (aH (cK (de K) (aD (aJ (o8 K) V0 (tC (.int 1))))) (aH (cK (de K) (aD (aJ (o8 K) V0 (tC (.int 2))))) (aH (cK (de K) (aD (aJ (o8 K) V0 (tC (.int 3))))) bH)))))
def sM:List Str:=["told"]
def qS(K:Za)(sp_law_same:Sp):TS :=
 ar (bX (tB (DV V1)) (aR (DV V0)) (bc))
 (ar (bX (aN (aJ Bn V1 (tC (.bl true)))) (aR (aJ Bn V0 (tC (.bl true)))) (bc))
 (ar (bX (aN (aJ Bn V1 (tC (.bl false)))) (aR (aJ Bn V0 (tC (.bl false)))) (bc))
 (ar (bX (tB (cK (f8 K) (aM V1 (tC (.ty "int"))))) (aR (sY (cK (f8 K) (aM V0 (tC (.ty "int")))) (sY (Dp (cK (f8 K) (aM V0 (tC (.ty "bool"))))) (aJ (sF K) V0 V1)))) (bc))
 (ar (bX (tB (cK (f8 K) (aM V1 (tC (.ty "str"))))) (aR (sY (cK (f8 K) (aM V0 (tC (.ty "str")))) (aJ (sF K) V0 V1))) (bc))
 (ar (bX (wO (aN (aJ wQ (cK (f8 K) (aM V1 (tC (.ty "tuple")))) (cK (f8 K) (aM V0 (tC (.ty "tuple")))))) (aN (aJ wQ (cK (f8 K) (aM V1 (tC (.ty "list")))) (cK (f8 K) (aM V0 (tC (.ty "list"))))))) (aR (tC (.bl false))) (bc))
 (ar (bX (aN (aJ wQ (cK (dL K) (aD V0)) (cK (dL K) (aD V1)))) (aR (tC (.bl false))) (bc))
 (ar (eg (wo K (aM V0 V1)) (gA K 2 (bb U2 (bb U3 (ga)))) (bX (mK (tB (aV sp_law_same (aM V2 V3)))) (aR (tC (.bl false))) (bc)))
 (aR (tC (.bl true))))))))))
def yt:List Str:=["found","due","one","other"]
def z8(K:Za):TS :=
 aR (sY (aJ wQ V0 (tC (.str ""))) (sY (aJ rLeI (cK (dL K) (aD V0)) (tC (.int 8))) (cK (ES K) (aD (c9 1 [] (E_ V0) U0 (jS) (aJ rInS V0 (tC (.str "abcdefghijklmnopqrstuvwxyz"))))))))
def AT:List Str:=["text"]
def z9(K:Za):TS :=
 ar (bg (q_) U1)
 (ar (eg (ca K V0) U2 (k_ V1 V2 (tC (.bl true))))
 (aR V1))
def AU:List Str:=["things","keys","thing"]
def lJ(K:Za)(sp_is_name:Sp)(sp_as_keys:Sp):TS :=
 ar (bX (aN (aJ D0 (cK (dL K) (aD V0)) (tC (.int 0)))) (aR (tC (.int 0))) (bc))
 (ar (bg (aV sp_as_keys (aD V2)) U3)
 (ar (eg (tJ K (aD V0)) (gA K 2 (bb U4 (bb U5 (ga)))) (ar (bX (wO (aN (aJ D0 V4 V1)) (wO (tB (xm K V5 V3)) (mK (tB (aV sp_is_name (aD V5)))))) (aR V4) (bc))
 (k_ V3 V5 (tC (.bl true)))))
 (aR (tC .non))))
def mf:List Str:=["names","most","taken","ahead","number","name"]
def ux(K:Za)(a_STILL:Addr):TS :=
 aR (aJ oA (aJ oA (c9 1 [] (ca K V0) U0 (jS) (dJ (aM (tC (.str "ask")) V0))) (c9 1 [] (ca K V1) U0 (jS) (dJ (aM (tC (.str "say")) V0)))) (dE (aD (tC (.ref a_STILL)))))
def vq:List Str:=["asks","says"]
def lK(K:Za)(sp_as_keys:Sp):TS :=
 ar (bg (aV sp_as_keys (aD V1)) U3)
 (ar (bg (lR) U4)
 (ar (eg (tJ K (aD V0)) (gA K 2 (bb U5 (bb U6 (ga)))) (ar (bX (wO (aN (aJ D0 V5 (tC (.int 2000)))) (tB (xm K V6 V4))) (aR V5) (bc))
 (ar (bX (wO (tB (jm K (aJ (o8 K) V6 (tC (.int 0))) V3)) (wO (aN (aJ (uN K true) (aJ (o8 K) V6 (tC (.int 1))) V2)) (tB (jm K (aJ (o8 K) V6 (tC (.int 2))) V3)))) (aR V5) (bc))
 (k_ V4 V6 (tC (.bl true))))))
 (aR (tC .non))))
def mh:List Str:=["doors","rooms","signs","own_rooms","ahead","number","door"]
def h_(K:Za):TS :=
 ar (bg (lR) U1)
 (ar (eg (ca K V0) (gA K 3 (bb U2 (bb U3 (bb U4 (ga))))) (c8 (wP K "list" eo (wP K "dict" yX V1 (aM (dJ (aH V2 (aD V3))) (dE (bH)))) (aD V4))))
 (aR V1))
def ib:List Str:=["doors","goals","start","sign","goal"]
def qQ(K:Za)(a_STILL:Addr):TS :=
 ar (bg (q_) U2)
 (ar (bg (dE (aD V1)) U3)
 (ar (uy (aN (aJ DZ (cK (dL K) (aD V3)) (tC (.int 0)))) (ar (bg (EI K "list" EN V3) U4)
 (eg (Fa K (uD K V0 (dJ (aM V4 (tC (.ref a_STILL)))) (dJ (bH)))) U5 (bX (tB (jm K V5 V2)) (ar (k_ V2 V5 (tC (.bl true)))
 (c8 (wP K "list" eo V3 (aD V5)))) (bc)))))
 (aR V2)))
def rV:List Str:=["goals","room","led","waiting","here","goal"]
def mJ(K:Za):TS :=
 ar (eg (tJ K (aD V0)) (gA K 2 (bb U2 (bb U3 (ga)))) (bX (tB (xm K V3 (o6 K V1 V3))) (aR V2) (bc)))
 (aR (tC .non))
def nM:List Str:=["rooms","led","number","room"]
def vN(K:Za):TS :=
 bX (tB (Dq V1)) (xc) (bc)
def wG:List Str:=["part","number"]
def ut(K:Za)(sp_need_none:Sp)(sp_first_wrong_door:Sp)(sp_door_signs:Sp)(sp_first_wrong_name:Sp):TS :=
 ar (c8 (aV sp_need_none (aM (tC (.str "asks")) (aV sp_first_wrong_name (ji V0 (tC (.int 4)) (dE (bH)))))))
 (ar (c8 (aV sp_need_none (aM (tC (.str "says")) (aV sp_first_wrong_name (ji V1 (tC (.int 4)) V0)))))
 (ar (c8 (aV sp_need_none (aM (tC (.str "rooms")) (aV sp_first_wrong_name (ji V2 (tC (.int 150)) (dE (bH)))))))
 (c8 (aV sp_need_none (aH (tC (.str "doors")) (aD (aV sp_first_wrong_door (ji V3 V2 (aV sp_door_signs (aM V0 V1))))))))))
def vm:List Str:=["asks","says","rooms","doors"]
def oo(K:Za):TS :=
 ar (bg (q_) U2)
 (ar (eg (ca K V0) U3 (k_ V2 V3 (dE (bH))))
 (ar (eg (ca K V1) U4 (c8 (wP K "list" eo (o6 K V2 (aJ (o8 K) V4 (tC (.int 0)))) (aD V4))))
 (aR V2)))
def oP:List Str:=["rooms","doors","leaving","room","door"]
def on(K:Za):TS :=
 aR (cK (ES K) (aH (c9 1 [] (ca K V0) U0 (jS) (aJ D0 (aJ (o8 K) (aJ (o8 K) V0 (tC (.int 1))) (tC (.int 0))) (tC (.str "ask")))) bH))
def oO:List Str:=["doors"]
def lN(K:Za)(sp_need_none:Sp)(sp_first_led_round:Sp)(sp_led_by_still:Sp)(sp_goals_by_start_and_sign:Sp)(sp_as_keys:Sp)(sp_has_asks_alone:Sp)(sp_doors_by_start:Sp)(sp_need_parts:Sp):TS :=
 ar (c8 (aV sp_need_parts (aH V1 (ji V2 V3 V4))))
 (ar (mW K V0 (cK (de K) (aD V1)) "own_asks")
 (ar (mW K V0 (cK (de K) (aD V2)) "own_says")
 (ar (mW K V0 (cK (de K) (aD V3)) "own_rooms")
 (ar (mW K V0 (cK (de K) (aD V4)) "own_doors")
 (ar (mW K V0 (aV sp_doors_by_start (aM V3 V4)) "leaving")
 (ar (mW K V0 (aV sp_as_keys (aH (c9 1 [0] (ca K V3) U0 (tB (aV sp_has_asks_alone (aD (o6 K (fO K V1 "leaving") V0)))) V0) bH)) "quiet")
 (ar (mW K V0 (aV sp_goals_by_start_and_sign (aD V4)) "sign_goals")
 (ar (mW K V0 (cK (CQ K) (aH (c9 1 [0] (ca K V3) U0 (jS) (dJ (aM V0 (aV sp_led_by_still (aH (fO K V1 "sign_goals") (aD V0)))))) bH)) "still_led")
 (c8 (aV sp_need_none (aM (tC (.str "still")) (aV sp_first_led_round (aH V3 (aD (fO K V0 "still_led")))))))))))))))
def ml:List Str:=["self","asks","says","rooms","doors"]
def lM(K:Za):TS :=
 aR (xm K V1 (fO K V0 "quiet"))
def mj:List Str:=["self","room"]
def k9(K:Za)(sp_with_still:Sp)(C_Machine:Addr)(sp_Machine_goals:Sp)(a_HUSH:Addr)(sp_Machine_is_quiet:Sp):TS :=
 ar (bX (aN (aJ (sF K) V2 (tC (.ref a_HUSH)))) (aR (cK (yW K) (aD (c9 1 [0] (C7 K V1) U0 (tB (gl C_Machine "is_quiet" sp_Machine_is_quiet [] E0 V1 (aD V0))) V0)))) (bc))
 (ar (bg (dE (bH)) U3)
 (ar (eg (C7 K V1) U4 (c8 (wP K "list" y0 V3 (aD (gl C_Machine "goals" sp_Machine_goals [] E0 V0 (aM V4 V2))))))
 (aR (aV sp_with_still (aM V0 V3)))))
def lg:List Str:=["M","face","sign","goals","room"]
def c6(p:Addr)(H H':Hp):Prop:=∀b o,H b=some o->b≠p->H' b=some o
theorem c6.refl(p:Addr)(H:Hp):c6 p H H:=fun _ _ h _=>h
theorem c6.trans{p:Addr}{H H1 H2:Hp}(a:c6 p H H1)(b:c6 p H1 H2):c6 p H H2:=fun c o h n=>b c o (a c o h n) n
theorem ac.exB{p:Addr}{H H':Hp}(a:ac H H'):c6 p H H':=fun b o h _=>a b o h
theorem c6.upd(p:Addr)(H:Hp)(o:HO):c6 p H (upd H p o):=fun b u h n=>by rw[ag n];exact h
theorem ac.new{H:Hp}{a:Addr}{o:HO}(h:H a=none):ac H (upd H a o):=fun b u e=>by rw[ag (ae e h)];exact e
theorem c6.free{p:Addr}{H H':Hp}(e:c6 p H H'){u:HO}(hp:H' p=some u){l:Addr}(h:H' l=none):H l=none:=by
 cases q:H l with
 |none=>rfl
 |some o =>
  by_cases z:l=p
  ·subst z;rw[hp]at h;cases h
  ·rw[e l o q z]at h;cases h
theorem kp{H:Hp}{a b:Addr}{o x:HO}(h:H b=some o)(n:H a=none):upd H a x b=some o:=by rw[ag (ae h n)];exact h
structure zR(H:Hp)(p c:Addr)(at_ rest:Int)(ns:List Int):Prop where
 pen:H p=some (.lst [.ref c,.int at_,.int rest])
 cells:H c=some (.lst (ns.map V.int))
 at0:0<=at_
 rest0:0<=rest
theorem zR.ne{H:Hp}{p c:Addr}{a r:Int}{ns:List Int}(h:zR H p c a r ns):c≠p:=by
 intro e;have h1:=h.pen;have h2:=h.cells;rw[e,h1]at h2;injection h2 with h2;injection h2 with h2;cases ns with
 |nil=>cases h2
 |cons n ns=>injection h2 with h2;cases h2
def hU(H:Hp)(p c:Addr):Prop:=∃a r ns,zR H p c a r ns
theorem hU.ex{H H':Hp}{p c:Addr}(h:hU H p c)(e:ac H H'):hU H' p c:=by
 obtain⟨a,r,ns,h1,h2,h3,h4⟩:=h;exact⟨a,r,ns,e _ _ h1,e _ _ h2,h3,h4⟩
theorem hU.pen{H:Hp}{p c:Addr}(h:hU H p c):∃o,H p=some o:=by
 obtain⟨a,r,ns,h1,_⟩:=h;exact⟨_,h1⟩
theorem hU.cell{H:Hp}{p c:Addr}(h:hU H p c):∃o,H c=some o:=by
 obtain⟨a,r,ns,_,h1,_⟩:=h;exact⟨_,h1⟩
theorem hU.upd{H:Hp}{p c l:Addr}{o:HO}(h:hU H p c)(h1:p≠l)(h2:c≠l):hU (upd H l o) p c:=by
 obtain⟨a,r,ns,g1,g2,g3,g4⟩:=h;exact⟨a,r,ns,by rw[ag h1];exact g1,by rw[ag h2];exact g2,g3,g4⟩
theorem hU.nep{H:Hp}{p c l:Addr}(h:hU H p c)(hl:H l=none):p≠l:=let⟨_,e⟩:=h.pen;ae e hl
theorem hU.nec{H:Hp}{p c l:Addr}(h:hU H p c)(hl:H l=none):c≠l:=let⟨_,e⟩:=h.cell;ae e hl
theorem c6.new{p:Addr}{H:Hp}{a:Addr}{o:HO}(h:H a=none):c6 p H (L2.upd H a o):=fun b u e _=>by rw[ag (ae e h)];exact e
inductive kA (vs:List V)(H:Hp)(Q:VK)(E:XK):Prop
 |mk (c a:Int):(vs=[.int c,.int a])->(0<=a)->(∀r:Int,0<=r->Q (.int r) H)->kA  vs H Q E
theorem nJ{i j:Int}(h1:-(2 ^ 64)<j)(h2:j<2 ^ 64):Ck i j:=.inr ⟨h1,h2⟩
theorem Ac{K:Za}{vs:List V}{H:Hp}{Q:VK}{E:XK}(h:kA vs H Q E):uu K (bN Q) (start vn vs) H:=by
 obtain⟨c,a,rfl,ha,k⟩:=h;refine⟨_,rfl,_,_,rfl,rfl,⟨by decide,by decide,by decide⟩,_,_,rfl,rfl,_,rfl,?_⟩;refine nB (fun h=>?_) (fun _=>?_)
 ·refine⟨_,rfl,k _ ?_⟩;have:=of_decide_eq_true h;have e:((10:Int) ^ (18:Int).toNat)=1000000000000000000:=by decide
  omega
 ·have one:∀z:Int,0<=z % 2147483629/\z % 2147483629<2147483629:=fun z=>⟨nW _ (by decide),nV _ (by decide)⟩;have two:∀z:Int,0<=z % 2147483587/\z % 2147483587<2147483587:=fun z=>⟨nW _ (by decide),nV _ (by decide)⟩;have three:∀z:Int,0<=z % 2147483563/\z % 2147483563<2147483563:=fun z=>⟨nW _ (by decide),nV _ (by decide)⟩;refine⟨_,rfl,_,_,rfl,rfl,(by show(0:Int)<1000000007;decide),_,_,rfl,rfl,nJ (by decide) (by decide),_,rfl,_,_,rfl,rfl,nJ (by decide) (by decide),_,_,rfl,rfl,_,_,rfl,rfl,_,_,rfl,rfl,(by show(0:Int)<2147483629;decide),?_⟩;generalize hz1:(c % 1000000007 * 69069+a * 40503+977)=z1;obtain⟨o1,o2⟩:=one z1;generalize z1 % 2147483629=o at o1 o2 ⊢;refine⟨_,rfl,_,rfl,_,_,rfl,rfl,nJ (by omega) (by omega),_,rfl,_,_,rfl,rfl,nJ (by decide) (by decide),_,_,rfl,rfl,_,rfl,_,_,rfl,rfl,(by show(0:Int)<65537;decide),_,_,rfl,rfl,_,_,rfl,rfl,(by show(0:Int)<2147483587;decide),?_⟩;generalize hz2:(o * o+a * 7919+c % 65537)=z2;obtain⟨p1,p2⟩:=two z2;generalize z2 % 2147483587=q at p1 p2 ⊢;refine⟨_,rfl,_,rfl,_,_,rfl,rfl,nJ (by omega) (by omega),_,rfl,_,_,rfl,rfl,nJ (by decide) (by decide),_,_,rfl,rfl,_,_,rfl,rfl,_,_,rfl,rfl,(by show(0:Int)<2147483563;decide),?_⟩;generalize hz3:(q * q+o * 31+5)=z3;obtain⟨r1,r2⟩:=three z3;generalize z3 % 2147483563=r at r1 r2 ⊢;refine⟨_,rfl,_,_,rfl,rfl,nJ (by decide) (by decide),_,rfl,_,_,rfl,rfl,_,_,rfl,rfl,nJ (by decide) (by decide),_,rfl,_,_,rfl,rfl,k _ ?_⟩;omega
def pX:Sp:=fun vs H Q _=>∃p c,vs=[.ref p]/\hU H p c/\∀H',hU H' p c->c6 p H H'->Q (.ref p) H'
theorem CM{K:Za}{vs:List V}{H:Hp}{Q:VK}{E:XK}(h:pX vs H Q E):w_ K (bN Q) (start yv vs) H:=by
 obtain⟨p,c,rfl,⟨a,r,ns,h⟩,k⟩:=h;refine⟨_,rfl,p,_,_,_,rfl,rfl,h.pen,rfl,_,rfl,k _ ⟨a,0,ns,aa,?_,h.at0,Int.le_refl 0⟩ (c6.upd _ _ _)⟩;rw[ag h.ne];exact h.cells
theorem zN{ns:List Int}{a:Int}(h0:0<=a)(h1:a<ns.length):∃z,sK (ns.map V.int) a=some (.int z):=by
 obtain⟨n,rfl⟩:=lr h0;have hn:n<ns.length:=by omega
 exact⟨ns[n],bQ (by simp[hn])⟩
inductive gp (vs:List V)(H:Hp)(Q:VK)(E:XK):Prop
 |mk (p c:Addr) (m:Int):(vs=[.ref p,.int m])->(hU H p c)->(0<m)->(m<1073741824)->(∀(r:Int) (H':Hp),0<=r->r<m->hU H' p c->c6 p H H'->Q (.int r) H')->gp  vs H Q E
theorem fu{H:Hp}{Q:VK}{E:XK}{p c:Addr}{m:Int}(hp:hU H p c)(m0:0<m)(m1:m<1073741824)(k:∀(r:Int) (H':Hp),0<=r->r<m->hU H' p c->c6 p H H'->Q (.int r) H'):gp [.ref p,.int m] H Q E:=by
 exact⟨p,c,m,rfl,hp,m0,m1,k⟩
theorem CF{K:Za}{vs:List V}{H:Hp}{Q:VK}{E:XK}(h:gp vs H Q E):w6 K kA (bN Q) (start yr vs) H:=by
 obtain⟨p,c,m,rfl,⟨a,r,ns,h⟩,hm,hm2,k⟩:=h;have fin:∀(H':Hp) (a' r':Int) (x y:Option V),zR H' p c a' r' ns->c6 p H H' ->
   (ar (bg (aJ ii (aJ (df K) V0 (tC (.int 2))) V1) U4) (ar (bg (aJ Bo (aJ (df K) V0 (tC (.int 2))) V1) (xY V0 (tC (.int 2)) rh)) (aR V4)))
    (bN Q) [some (.ref p),some (.int m),x,y,none] H':=by
  intro H' a' r' x y h' ex;refine⟨_,rfl,p,_,2,_,rfl,rfl,aw.of h'.pen,rfl,_,rfl,_,_,rfl,rfl,hm,?_⟩;refine⟨_,rfl,p,_,2,_,rfl,rfl,aw.of h'.pen,rfl,_,rfl,_,_,rfl,rfl,⟨hm,hm2⟩,_,rfl,p,_,_,_,rfl,rfl,h'.pen,rfl,?_⟩;refine⟨_,rfl,k _ _ (nW _ (by omega)) (nV _ hm) ⟨a',_,ns,aa,?_,h'.at0,Int.ediv_nonneg h'.rest0 (by omega)⟩ (ex.trans (c6.upd _ _ _))⟩;rw[ag h'.ne];exact h'.cells
 refine⟨_,rfl,p,_,2,_,rfl,rfl,aw.of h.pen,rfl,_,rfl,_,_,rfl,rfl,_,rfl,?_⟩;refine nB (fun h1=>?_) (fun h1=>?_)
 ·-- at=pen[1];cell=0;if at<len(pen[0])
  refine⟨_,rfl,p,_,1,_,rfl,rfl,aw.of h.pen,rfl,?_⟩;have la:(V.int ((ns.map V.int).length:Nat))=V.int (ns.length:Nat):=by rw[ak]
  refine⟨_,rfl,_,rfl,p,_,0,_,rfl,rfl,aw.of h.pen,rfl,.inl ⟨c,_,rfl,.inl (aw.of h.cells),_,_,rfl,la,_,rfl,?_⟩⟩;refine nB (fun h2=>?_) (fun h2=>?_)
  ·obtain⟨z,hz⟩:=zN (ns:=ns) h.at0 (of_decide_eq_true h2);refine⟨_,rfl,p,_,0,_,rfl,rfl,aw.of h.pen,rfl,_,rfl,c,_,_,_,rfl,rfl,aw.of h.cells,hz,?_⟩;refine⟨_,rfl,_,_,rfl,rfl,_,rfl,p,_,_,_,rfl,rfl,h.pen,rfl,?_⟩;refine⟨_,rfl,_,rfl,_,_,rfl,h.at0,fun q hq=>⟨_,rfl,p,_,_,_,rfl,rfl,aa,rfl,?_⟩⟩;rw[pQ];refine fin _ (a+1) q _ _ ⟨aa,by rw[ag h.ne];exact h.cells,by have:=h.at0;omega,hq⟩ (c6.upd _ _ _)
  ·refine⟨_,rfl,p,_,0,_,rfl,rfl,aw.of h.pen,rfl,.inl ⟨c,_,rfl,.inl (aw.of h.cells),_,_,la,rfl,_,rfl,?_⟩⟩;refine nB (fun h3=>?_) (fun h3=>?_)
   ·have hl:(0:Int)<ns.length:=of_decide_eq_true h3;obtain⟨z,hz⟩:=zN (ns:=ns) (a:=(a * 5+3) % (ns.length:Int)) (nW _ (by omega)) (nV _ hl);refine⟨_,rfl,p,_,0,_,rfl,rfl,aw.of h.pen,rfl,_,rfl,_,_,rfl,rfl,nJ (by decide) (by decide),_,_,rfl,rfl,_,rfl,p,_,0,_,rfl,rfl,aw.of h.pen,rfl,.inl ⟨c,_,rfl,.inl (aw.of h.cells),_,_,rfl,la,hl,c,_,_,_,rfl,rfl,aw.of h.cells,hz,?_⟩⟩;refine⟨_,_,rfl,rfl,⟨by decide,by decide,by decide⟩,_,rfl,_,_,rfl,rfl,_,_,rfl,rfl,?_,?_⟩
    ·have e:((10:Int) ^ (17:Int).toNat)=100000000000000000:=by decide
     have:=h.at0;show(0:Int)<10 ^ (17:Int).toNat+a;omega
    refine⟨_,rfl,_,_,rfl,rfl,_,rfl,p,_,_,_,rfl,rfl,h.pen,rfl,?_⟩;refine⟨_,rfl,_,rfl,_,_,rfl,h.at0,fun q hq=>⟨_,rfl,p,_,_,_,rfl,rfl,aa,rfl,?_⟩⟩;rw[pQ];refine fin _ (a+1) q _ _ ⟨aa,by rw[ag h.ne];exact h.cells,by have:=h.at0;omega,hq⟩ (c6.upd _ _ _)
   ·refine⟨_,rfl,_,_,rfl,rfl,_,rfl,p,_,_,_,rfl,rfl,h.pen,rfl,?_⟩;refine⟨_,rfl,_,rfl,_,_,rfl,h.at0,fun q hq=>⟨_,rfl,p,_,_,_,rfl,rfl,aa,rfl,?_⟩⟩;rw[pQ];refine fin _ (a+1) q _ _ ⟨aa,by rw[ag h.ne];exact h.cells,by have:=h.at0;omega,hq⟩ (c6.upd _ _ _)
 ·exact fin H a r _ _ h (c6.refl _ _)
inductive pS(K:Za)(vs:List V)(H:Hp)(Q:VK)(E:XK):Prop
 |mk (a:Addr) (ns:List Int):(vs=[.ref a])->(aw K H a (ns.map V.int))->(ns.length<=63)->(∀(p c:Addr) (H':Hp),H p=none->hU H' p c->ac H H'->Q (.ref p) H')->pS K vs H Q E
theorem tN(ns:List Int)(lo hi:Option Int):∃ms:List Int,fe (ns.map V.int) lo hi=ms.map V.int/\ms.length=(fe (ns.map V.int) lo hi).length:=by
 refine⟨(ns.drop (HT.sIx (ns.map V.int).length 0 lo)).take (HT.sIx (ns.map V.int).length (ns.map V.int).length hi-HT.sIx (ns.map V.int).length 0 lo),?_,?_⟩
 ·unfold fe;rw[lq,List.map_drop]
 ·unfold fe;rw[aI,aI,gV,gV,ak]
theorem CH{K:Za}{vs:List V}{H:Hp}{Q:VK}{E:XK}(h:pS K vs H Q E):w8 K (bN Q) (start yu vs) H:=by
 obtain⟨a,ns,rfl,hs,hn,k⟩:=h;obtain⟨c0,e0,l0⟩:=tN ns none (some 12);obtain⟨c1,e1,l1⟩:=tN ns (some 12) (some 63);have hlen:c1≠[]->c0.length=12:=by
  intro hne;have hc1:0<c1.length:=by cases c1 with|nil=>exact absurd rfl hne|cons _ _=>simp
  rw[l1]at hc1;rw[l0];unfold fe at hc1 ⊢;rw[aI,gV,ak]at hc1;rw[aI,gV,ak];have s1:HT.sIx ns.length 0 (some 12)=min 12 ns.length:=HT.sIx_nat _ _ 12;have s2:HT.sIx ns.length ns.length (some 12)=min 12 ns.length:=HT.sIx_nat _ _ 12;rw[HT.sIx_none,s2];rw[s1]at hc1;omega
 refine⟨_,rfl,_,rfl,a,_,rfl,hs,fun q hq=>.inl ⟨q,_,rfl,.inl (aw.of aa),fun c hc=>?_⟩⟩;rw[e0]at hc ⊢;have hcH:H c=none:=by
  have:c≠q:=fun z=>by subst z;rw[aa]at hc;cases hc
  rw[ag this]at hc;exact hc
 have hS:ac H (upd (upd H q (.lst (c0.map V.int))) c (.lst (c0.map V.int))):=(ac.new hq).trans (ac.new hc);refine⟨_,rfl,_,rfl,_,rfl,a,_,rfl,hS.seq hs,fun r hr=>⟨r,rfl,⟨_,aw.of aa⟩,?_⟩⟩;rw[e1];have hcr:c≠r:=ae aa hr
 let zI0:Nat->L2.St->Hp->Prop:=fun i σ H'=>Ew fun(ms:List Int) (x y:Option V)=>ED (σ=[some (.ref a),some (.ref c),x,y]) (H' c=some (.lst (ms.map V.int))) (ms.length=c0.length) (H' r=some (.lst (c1.map V.int))) (ac H H')
 refine kh (xs:=c1.map V.int) zI0
  ⟨c0,none,none,rfl,kp aa hr,rfl,aa,hS.trans (ac.new hr)⟩ (fun i σ H' _ zq=>by obtain⟨ms,x,y,_,_,_,h,_⟩:=zq;exact aw.of h) ?_ ?_
 ·rintro i x σ H' t hi ⟨ms,u,v,rfl,hcell,hml,hr',hS'⟩ ht;have hi':i<c1.length:=by
   have:=(bJ.mp hi).1;rwa[ak]at this
  have h12:=hlen (fun z=>by rw[z]at hi';simp at hi');obtain⟨z,rfl⟩:∃z,x=V.int z:=by
   rw[bv,bR hi']at hi;exact⟨_,(dI hi).symm⟩
  have hcell1:upd H' t (.tup [.int i,.int z]) c=some (.lst (ms.map V.int)):=kp hcell ht;have hidx:(i:Int) % 12=((i % 12:Nat):Int):=by omega
  have hlt:i % 12<ms.length:=by omega
  refine⟨t,_,rfl,be.of aa,rfl,_,_,rfl,_,_,rfl,rfl,?_⟩;have hat:sK (ms.map V.int) ((i:Int) % 12)=some (.int ms[i % 12]):=by rw[hidx];exact bQ (by simp[hlt])
  refine⟨_,rfl,_,rfl,_,_,rfl,rfl,(by show(0:Int)<12;decide),c,_,_,_,rfl,rfl,aw.of hcell1,hat,_,rfl,_,_,rfl,rfl,_,rfl,_,rfl,_,_,rfl,rfl,(by show(0:Int)<12;decide),c,_,_,i % 12,rfl,rfl,hcell1,?_,?_⟩
  ·rw[hidx];unfold Cn;rw[if_pos (by omega),if_pos (by rw[ak];omega)];rw[jh]
  ·refine⟨ms.set (i % 12) (ms[i % 12]+z),_,_,rfl,?_,by rw[List.length_set];exact hml,?_,?_⟩
   ·rw[aa,List.map_set]
   ·rw[ag hcr.symm];exact kp hr' ht
   ·intro b o e;rw[ag (ae e hcH)];exact kp (hS' b o e) ht
 ·rintro σ H' ⟨ms,x,y,rfl,hcell,hml,hr',hS'⟩;refine⟨_,rfl,(by show 3<=aj;decide),fun p hp=>k p c _ (hS'.free hp) ⟨0,0,ms,aa,kp hcell hp,Int.le_refl _,Int.le_refl _⟩ (hS'.trans (ac.new hp))⟩
def uU(c:Nat):Prop:=97<=c/\c<=122
structure oQ(w:Str):Prop where
 lo:1<=w.length
 hi:w.length<=8
 al:∀c∈w.cps.toList,uU c
theorem zP:∀n:Nat,n<26->(("abcdefghijklmnopqrstuvwxyz":Str).cps.toList)[n]?=some (97+n):=by decide +kernel
theorem zO:("abcdefghijklmnopqrstuvwxyz":Str).length<=aj:=by decide +kernel
theorem Cb{r:Int}(h0:0<=r)(h1:r<26):sK (("abcdefghijklmnopqrstuvwxyz":Str).cps.toList) r=some (97+r.toNat):=by
 obtain⟨n,rfl⟩:=lr h0;rw[jh];exact bQ (zP n (by omega))
theorem sH(cs:List Nat):∀acc:Array Nat,((cs.map fun c=>(⟨#[c]⟩:Str)).foldl (fun acc p=>acc++("":Str).cps++p.cps) acc).toList=acc.toList++cs:=by
 have e:("":Str).cps=#[]:=by decide +kernel
 induction cs with
 |nil=>intro acc;simp
 |cons c cs ih =>
  intro acc;rw[bh,List.foldl_cons,ih,e];simp
theorem xT(cs:List Nat):(t5 "" (cs.map fun c=>(⟨#[c]⟩:Str))).cps.toList=cs:=by
 unfold t5 aY.Str.glued;cases cs with
 |nil=>rfl
 |cons c cs =>
  rw[bh];show((cs.map fun c=>(⟨#[c]⟩:Str)).foldl (fun acc p=>acc++("":Str).cps++p.cps) #[c]).toList=_;rw[sH]
  rfl
theorem CB{a b:Str}(h:a.cps.toList=b.cps.toList):a=b:=by
 cases a with|mk x=>cases b with|mk y=>exact congrArg Str.mk (Array.toList_inj.mp h)
theorem em(a:Str):a.length=a.cps.toList.length:=by simp[Str.length]
theorem vg(a b:Str):(a++b).cps.toList=a.cps.toList++b.cps.toList:=by
 show(a.cps++b.cps).toList=_;simp
theorem B4(z:Str)(m:Nat):(rL z none (some (m:Int))).cps.toList=z.cps.toList.take m:=by
 unfold rL;rw[HT.sIx_none,HT.sIx_nat,nZ,tX,em];show List.take _ _=_;rw[List.take_eq_take_iff];omega
theorem B5(z:Str)(m:Nat):(rL z (some (m:Int)) none).cps.toList=z.cps.toList.drop m:=by
 unfold rL;rw[HT.sIx_none,HT.sIx_nat,em];show List.take _ _=_;rw[List.take_of_length_le (by rw[gV];omega)];by_cases h:m<=z.cps.toList.length
 ·rw[Nat.min_eq_left h]
 ·rw[Nat.min_eq_right (by omega),List.drop_length,t3 (by omega)]
def dZ(way size k:Nat):Nat:=(size+k * (way % 2)) % 8
def wN(way m:Nat):Nat:=if way=0 then 0 else if way=1 then m else m / 2
def k7(b:List Nat)(way turn size k:Nat):List Nat :=
 (b.take (dZ way size k)).take (wN way (dZ way size k))++[97+(turn+3 * k) % 26]++(b.take (dZ way size k)).drop (wN way (dZ way size k))
def vJ(b:List Nat)(way turn size k:Nat):Str:=⟨(k7 b way turn size k).toArray⟩
theorem oh{b:List Nat}(hb:b.length=7)(way turn size k:Nat):(k7 b way turn size k).length=dZ way size k+1:=by
 have h8:dZ way size k<8:=qr _ (by decide);unfold k7;rw[aE,aE,aI,gV,aI,hb];have:wN way (dZ way size k)<=dZ way size k:=by unfold wN;split;omega;split;omega;omega
 simp;omega
theorem Cr{b:List Nat}(hb:b.length=7)(hl:∀c∈b,uU c)(way turn size k:Nat):oQ (vJ b way turn size k):=by
 have h8:dZ way size k<8:=qr _ (by decide);have hlen:=oh hb way turn size k;have e:(vJ b way turn size k).cps.toList=k7 b way turn size k:=by simp[vJ]
 refine⟨?_,?_,?_⟩
 ·rw[em,e];omega
 ·rw[em,e];omega
 ·rw[e];intro c hc;unfold k7 at hc;rcases bp.mp hc with hc|hc
  ·rcases bp.mp hc with hc|hc
   ·exact hl c (eM (eM hc))
   ·have:c=97+(turn+3 * k) % 26:=by simpa using hc
    subst this;have:(turn+3 * k) % 26<26:=qr _ (by decide);exact⟨by omega,by omega⟩
  ·exact hl c (eM (List.mem_of_mem_drop hc))
theorem A3{b:List Nat}(hb:b.length=7){way turn size:Nat}(hw:way<3){j k:Nat}(hj:j<26)(hk:k<26)(h:vJ b way turn size j=vJ b way turn size k):j=k:=by
 have h8:∀i,dZ way size i<8:=fun i=>qr _ (by decide);have e:k7 b way turn size j=k7 b way turn size k:=by
  have:=congrArg (fun s=>Str.cps s |>.toList) h;simpa[vJ]using this
 have el:dZ way size j=dZ way size k:=by
  have:=congrArg List.length e;rw[oh hb,oh hb]at this;omega
 have key:97+(turn+3 * j) % 26=97+(turn+3 * k) % 26:=by
  have hat:∀i,wN way (dZ way size i)<=dZ way size i:=fun i=>by unfold wN;split;omega;split;omega;omega
  have get:∀i,(k7 b way turn size i)[wN way (dZ way size i)]?=some (97+(turn+3 * i) % 26):=by
   intro i;unfold k7;have hl:((b.take (dZ way size i)).take (wN way (dZ way size i))).length=wN way (dZ way size i):=by
    rw[aI,aI,hb];have:=h8 i;have:=hat i;omega
   rw[dY,iB (by omega),hl,nU]
   rfl
  have g1:=get j;have g2:=get k;rw[e,el]at g1;rw[g1]at g2;exact dI g2
 omega
def kM(ws:Zb):Prop:=ws.Nodup/\∀w∈ws,oQ w
def jj(b:List Nat)(way turn size n:Nat):List Str:=(mF n).map (vJ b way turn size)
theorem wU{b:List Nat}(hb:b.length=7)(hl:∀c∈b,uU c){way turn size n:Nat}(hw:way<3)(hn:n<=26):kM (jj b way turn size n):=by
 refine⟨?_,fun w hm=>?_⟩
 ·unfold jj;rw[tT,List.pairwise_map];refine(List.nodup_range (n:=n)).imp_of_mem ?_;intro j k hj hk hne h;exact hne (A3 hb hw (by have:=List.mem_range.mp hj;omega) (by have:=List.mem_range.mp hk;omega) h)
 ·obtain⟨k,_,rfl⟩:=aT.mp hm;exact Cr hb hl _ _ _ _
inductive mR (vs:List V)(H:Hp)(Q:VK)(E:XK):Prop
 |mk (p c:Addr) (n:Nat):(vs=[.ref p,.int n])->(hU H p c)->(n<=26)->(∀(l:Addr) (ws:Zb) (H':Hp),kM ws->ws.length=n->H l=none->H' l=some (.lst (ws.map V.str))->hU H' p c->c6 p H H'->Q (.ref l) H')->mR  vs H Q E
theorem Bh{K:Za}{vs:List V}{H:Hp}{Q:VK}{E:XK}(h:mR vs H Q E):vP K gp (bN Q) (start wI vs) H:=by
 obtain⟨p,c,n,rfl,hp,hn,k⟩:=h;refine⟨rfl,7,rfl,by decide,by decide,fun l hl=>?_⟩
 let zI0:Nat->List V->Hp->Prop:=fun i vs H'=>∃cs:List Nat,vs=cs.map (fun c=>V.str ⟨#[c]⟩)/\cs.length=i/\(∀c∈cs,uU c)/\hU H' p c/\c6 p H H'/\H' l=some (.lst vs)
 refine yd (lo:=0) (n:=Int.toNat 7) zI0
  ⟨[],rfl,rfl,(fun _ h=>nomatch h),hp.ex (ac.new hl),c6.new hl,aa⟩ (fun i vs H' _ zq=>by obtain⟨_,_,_,_,_,_,h⟩:=zq;exact h) ?_ ?_
 rotate_left
 ·rintro i vs H' hi ⟨cs,rfl,hlen,hlet,hp',hex,hl'⟩;have hlp:=hp.nep hl;have hlc:=hp.nec hl;refine gN (vI ?_);refine⟨_,rfl,_,rfl,fu hp' (by decide) (by decide) fun r H2 h0 h1 hp2 hex2=>⟨_,r,_,rfl,rfl,zO,Cb h0 h1,?_⟩⟩;have hl2:=hex2 l _ hl' hlp.symm;refine⟨hl2,by rw[ak,hlen];exact ao (by omega),o9 hi ⟨cs++[97+r.toNat],by rw[ax];rfl,by rw[aE,hlen];rfl,?_,hp2.upd hlp hlc,?_,aa⟩⟩
  ·intro x hc;rcases bp.mp hc with hc|hc
   ·exact hlet x hc
   ·have:x=97+r.toNat:=by simpa using hc
    subst this;exact⟨by omega,by omega⟩
  ·intro b o' e nb;rw[ag (ae e hl)];exact hex2 b o' (hex b o' e nb) nb
 ·rintro vs H1 ⟨cs,rfl,hlen,hlet,hp1,hex1,hl1⟩;refine⟨"",l,cs.map fun c=>(⟨#[c]⟩:Str),rfl,rfl,aw.of (by rw[hl1,iz];rfl),?_,?_⟩
  ·have e0:("":Str).length=0:=by decide +kernel
   rw[e0,Nat.mul_zero,iz];have:∀cs:List Nat,(cs.map ((fun x=>Str.length x) ∘ fun c=>(⟨#[c]⟩:Str))).sum=cs.length:=by
    intro cs
    induction cs with
    |nil=>rfl
    |cons c cs ih=>rw[bh,List.sum_cons,ih,eG];show 1+_=_;omega
   rw[this,hlen];decide
  refine⟨_,rfl,fu hp1 (by decide) (by decide) fun way H2 w0 w1 hp2 hex2=>?_⟩;refine⟨_,rfl,fu hp2 (by decide) (by decide) fun turn H3 t0 t1 hp3 hex3=>?_⟩;refine⟨_,rfl,fu hp3 (by decide) (by decide) fun size H4 s0 s1 hp4 hex4=>?_⟩;have ex4:c6 p H H4:=((hex1.trans hex2).trans hex3).trans hex4;obtain⟨wy,rfl⟩:=lr w0;obtain⟨tn,rfl⟩:=lr t0;obtain⟨sz,rfl⟩:=lr s0;have hb:=xT cs;generalize t5 "" (cs.map fun c=>(⟨#[c]⟩:Str))=base at hb ⊢;refine⟨(by show 0<=aj;decide),fun f hf=>?_⟩;obtain⟨op,hop⟩:=hp4.pen;have hfH:H f=none:=ex4.free hop hf;have hfp:=hp.nep hfH;have hfc:=hp.nec hfH;refine⟨_,rfl,n,rfl,by omega,by omega,i7 (lo:=0) (n:=((n:Int)).toNat) (fun i σ H'=>∃(a b c' d:Option V),σ=[some (.ref p),some (.int n),some (.str "abcdefghijklmnopqrstuvwxyz"),some (.str base),some (.int wy),some (.int tn),some (.int sz),some (.ref f),a,b,c',d] /\
   hU H' p c/\c6 p H H'/\H' f=some (.lst ((jj cs wy tn sz i).map V.str)))
   ⟨_,_,_,_,rfl,hp4.upd hfp hfc,ex4.trans (c6.new hf),aa⟩ ?_ ?_⟩
  ·rintro i σ H' hi ⟨a,b,c',d,rfl,hp',hex',hf'⟩;have hi':i<n:=by omega
   have hwy:wy<3:=by omega
   have e26:((tn:Int)+3 * (0+(i:Int))) % 26=(((tn+3 * i) % 26:Nat):Int):=by omega
   refine⟨_,rfl,_,rfl,_,rfl,_,_,rfl,rfl,.inl ⟨by decide,by decide⟩,_,_,rfl,rfl,_,_,rfl,rfl,(by show(0:Int)<26;decide),_,_,_,rfl,rfl,zO,Cb (nW _ (by decide)) (nV _ (by decide)),?_⟩;have blen:base.length<=aj:=by rw[em,hb,hlen];decide
   have e8:((sz:Int)+(0+(i:Int)) * ((wy:Int) % 2)) % 8=((dZ wy sz i:Nat):Int):=by
    unfold dZ;have:wy=0∨wy=1∨wy=2:=by omega
    rcases this with rfl|rfl|rfl<;>simp<;>omega
   refine⟨_,rfl,_,rfl,_,rfl,_,rfl,_,_,rfl,rfl,(by show(0:Int)<2;decide),_,_,rfl,rfl,.inr ⟨by omega,by omega⟩,_,_,rfl,rfl,_,_,rfl,rfl,(by show(0:Int)<8;decide),_,rfl,base,rfl,blen,?_⟩;rw[e8];have hpart:=B4 base (dZ wy sz i);rw[hb]at hpart;generalize rL base none (some ((dZ wy sz i:Nat):Int))=part at hpart ⊢;have h8:dZ wy sz i<8:=qr _ (by decide);have plen:part.length=dZ wy sz i:=by rw[em,hpart,aI,hlen];omega
   have pz:part.length<=aj:=by rw[plen];exact dH (ao (by omega))
   refine⟨_,rfl,.inr ⟨part,rfl,pz,_,rfl,.inr ⟨part,rfl,pz,_,_,rfl,rfl,⟨by decide,by decide⟩,(by show 3<=aj;decide),fun q hq=>?_⟩⟩⟩;have hqH:H q=none:=by
    obtain⟨op',hop'⟩:=hp'.pen;exact hex'.free hop' hq
   have hat:sK [V.int 0,V.int (part.length:Nat),V.int ((part.length:Int) / 2)] (wy:Int)=some (.int (wN wy (dZ wy sz i):Nat)):=by
    rw[plen];have:wy=0∨wy=1∨wy=2:=by omega
    rcases this with rfl|rfl|rfl
    ·rfl
    ·rfl
    ·show some (V.int (((dZ 2 sz i:Nat):Int) / 2))=some (V.int ((wN 2 (dZ 2 sz i):Nat):Int));have:wN 2 (dZ 2 sz i)=dZ 2 sz i / 2:=rfl;rw[this];congr 2
   refine⟨_,rfl,q,_,_,_,rfl,rfl,aw.of aa,hat,?_⟩;have hf2:upd H' q (.lst [V.int 0,V.int (part.length:Nat),V.int ((part.length:Int) / 2)]) f=some (.lst ((jj cs wy tn sz i).map V.str)):=kp hf' hq;have c1:=B4 part (wN wy (dZ wy sz i));have c2:=B5 part (wN wy (dZ wy sz i));have l1:(rL part none (some ((wN wy (dZ wy sz i):Nat):Int))).length<=8:=by rw[em,c1,aI,hpart,aI,hlen];omega
   have l2:(rL part (some ((wN wy (dZ wy sz i):Nat):Int)) none).length<=8:=by rw[em,c2,gV,hpart,aI,hlen];omega
   refine⟨_,rfl,.inl ⟨rfl,_,aw.of hf2⟩,_,rfl,_,rfl,_,rfl,part,rfl,pz,_,rfl,_,_,rfl,rfl,?_,_,rfl,_,rfl,_,rfl,part,rfl,pz,_,_,rfl,rfl,?_,f,_,_,rfl,rfl,hf2,?_,?_⟩
   ·have:Str.length ⟨#[97+(((tn:Int)+3 * (0+(i:Int))) % 26).toNat]⟩=1:=rfl;rw[this];exact dH (ao (by omega))
   ·rw[em,vg,aE,<-em,<-em];have:Str.length ⟨#[97+(((tn:Int)+3 * (0+(i:Int))) % 26).toNat]⟩=1:=rfl;rw[this];exact dH (ao (by omega))
   ·rw[ak];unfold jj;rw[ak,List.length_range];exact ao (by omega)
   ·refine⟨_,_,_,_,rfl,(hp'.upd (hp.nep hqH) (hp.nec hqH)).upd hfp hfc,?_,?_⟩
    ·intro b' o' e nb;rw[ag (ae e hfH)];exact kp (hex' b' o' e nb) hq
    ·rw[aa];unfold jj;rw[List.range_succ,ax,ax];congr 3;show[V.str _]=[V.str _];congr 2;refine CB ?_;rw[vg,vg,c1,c2,hpart,e26,jh];simp[vJ,k7]
  ·rintro σ H' ⟨a,b,c',d,rfl,hp',hex',hf'⟩;have en:((n:Int)).toNat=n:=by omega
   rw[en]at hf';exact⟨_,rfl,k f _ H' (wU hlen hlet (by omega) hn) (by unfold jj;rw[ak,List.length_range]) hfH hf' hp' hex'⟩
structure am where
 a:Str
 sg:List Str
 b:Str
deriving DecidableEq
def SignAt(H:Hp)(s:Addr)(sg:Zb):Prop:=H s=some (.tup (sg.map V.str))
def gh(H:Hp)(t:Addr)(d:am):Prop:=∃s,H t=some (.tup [.str d.a,.ref s,.str d.b])/\SignAt H s d.sg
def jU(H H':Hp):Prop:=∀b xs,H b=some (.tup xs)->H' b=some (.tup xs)
theorem gh.kt{H H':Hp}{t:Addr}{d:am}(k:jU H H')(h:gh H t d):gh H' t d:=by
 obtain⟨s,h1,h2⟩:=h;exact⟨s,k _ _ h1,k _ _ h2⟩
theorem c6.kt{p:Addr}{H H':Hp}{xs:List V}(e:c6 p H H')(hp:H p=some (.lst xs)):jU H H':=fun b ys h=>e b _ h (fun z=>by rw[z,hp]at h;cases h)
theorem ac.kt{H H':Hp}(e:ac H H'):jU H H':=fun b ys h=>e b _ h
theorem jU.trans{H H1 H2:Hp}(a:jU H H1)(b:jU H1 H2):jU H H2:=fun x xs h=>b x xs (a x xs h)
theorem fA{H:Hp}{l:Addr}{xs:List V}{o:HO}(h:H l=some (.lst xs)):jU H (upd H l o):=fun b ys e=>by
 rw[ag (fun z=>by rw[z,h]at e;cases e)];exact e
abbrev da(H:Hp)(ts:Ze)(ds:List am):Prop:=Paired (gh H) ts ds
theorem Paired.get{α β:Type}{R:α->β->Prop}{xs:List α}{ys:List β}{i:Nat}{y:β}(g:Paired R xs ys)(h:ys[i]?=some y):∃x,xs[i]?=some x/\R x y:=by
 induction g generalizing i with
 |nil=>cases h
 |cons r _ ih =>
  cases i with
  |zero=>injection h with h;subst h;exact⟨_,rfl,r⟩
  |succ i=>exact ih h
theorem Paired.getL{α β:Type}{R:α->β->Prop}{xs:List α}{ys:List β}{i:Nat}{x:α}(g:Paired R xs ys)(h:xs[i]?=some x):∃y,ys[i]?=some y/\R x y:=by
 induction g generalizing i with
 |nil=>cases h
 |cons r _ ih =>
  cases i with
  |zero=>injection h with h;subst h;exact⟨_,rfl,r⟩
  |succ i=>exact ih h
theorem da.kt{H H':Hp}{ts:Ze}{ds:List am}(k:jU H H')(h:da H ts ds):da H' ts ds:=Paired.mapP h fun _ _ r=>r.kt k
theorem DR{H:Hp}{a:Addr}{o:HO}(h:H a=some o):upd H a o=H:=by
 funext b;by_cases e:b=a
 ·subst e;rw[aa,h]
 ·rw[ag e]
def fW(x:Str):DT:=.k (.inr x)
def u_(d:am):DT:=.t [fW d.a,.t (d.sg.map fW),fW d.b]
theorem mY{x y:Str}(h:fW x=fW y):x=y:=by
 unfold fW at h;injection h with h;injection h
theorem io:∀{x y:Zb},x.map fW=y.map fW->x=y
 |[],[],_=>rfl
 |[],_::_,h=>by cases h
 |_::_,[],h=>by cases h
 |a::x,b::y,h=>by
  rw[bh,bh]at h;injection h with h1 h2;rw[mY h1,io h2]
theorem Dc{x y:am}(h:u_ x=u_ y):x=y:=by
 unfold u_ at h;injection h with h;injection h with h1 h;injection h with h2 h;injection h with h3 h;injection h2 with h2;cases x;cases y;simp only at *;rw[mY h1,io h2,mY h3]
theorem hC(xs:Zb):DT.depths (xs.map fW)=0:=by
 induction xs with
 |nil=>rfl
 |cons x xs ih=>rw[bh];show max (DT.depth (fW x)) (DT.depths _)=0;rw[ih];rfl
theorem u9(d:am):(u_ d).depth=2:=by
 show DT.depths [fW d.a,.t (d.sg.map fW),fW d.b]+1=2;show max (DT.depth (fW d.a)) (max (DT.depths (d.sg.map fW)+1) (max (DT.depth (fW d.b)) 0))+1=2;rw[hC]
 rfl
theorem AH(ds:List am):DT.depths (ds.map u_)<=8:=by
 induction ds with
 |nil=>exact cQ _
 |cons x xs ih=>rw[bh];show max (DT.depth (u_ x)) (DT.depths _)<=8;rw[u9];omega
theorem lZ{K:Za}{H:Hp}:∀xs:List Str,DIns K H (xs.map fW) (xs.map V.str)
 |[]=>by show DIns K H [] [];unfold DIns;rfl
 |x::xs=>by
  rw[bh,bh];unfold DIns;refine⟨_,_,rfl,?_,lZ xs⟩;unfold fW gL
  rfl
theorem lf{K:Za}{H:Hp}(x:Str):gL K H (fW x) (.str x):=by unfold fW gL;rfl
theorem aP{K:Za}{H:Hp}{s:Addr}{sg:Zb}(h:be K H s (sg.map V.str)):gL K H (.t (sg.map fW)) (.ref s):=by
 unfold gL;exact⟨s,_,rfl,h,lZ _⟩
theorem gh.dIn{K:Za}{H:Hp}{t:Addr}{d:am}(h:gh H t d):gL K H (u_ d) (.ref t):=by
 obtain⟨s,h1,h2⟩:=h;unfold u_;unfold gL;refine⟨t,_,rfl,be.of h1,?_⟩;unfold DIns;refine⟨_,_,rfl,lf _,?_⟩;unfold DIns;refine⟨_,_,rfl,aP (be.of h2),?_⟩;unfold DIns;refine⟨_,_,rfl,lf _,?_⟩;unfold DIns
 rfl
theorem da.dIns{K:Za}{H:Hp}{ts:Ze}{ds:List am}(h:da H ts ds):DIns K H (ds.map u_) (ts.map V.ref):=by
 induction h with
 |nil=>show DIns K H [] [];unfold DIns;rfl
 |cons r _ ih =>
  rw[bh,bh];unfold DIns;exact⟨_,_,rfl,r.dIn,ih⟩
theorem zj{d:am}{ds:List am}:u_ d∈ds.map u_↔d∈ds:=by
 constructor
 ·intro h;obtain⟨x,hx,e⟩:=aT.mp h;rw[<-Dc e];exact hx
 ·exact fm
def pI(ds:List am)(d:am):List am:=if d∈ds then ds else ds++[d]
inductive oy (vs:List V)(H:Hp)(Q:VK)(E:XK):Prop
 |mk (l t:Addr) (ts:Ze) (ds:List am) (d:am):(vs=[.ref l,.ref t])->(H l=some (.lst (ts.map V.ref)))->(da H ts ds)->(gh H t d)->(ds.length<=1000)->(∀ts':List Addr,da H ts' (pI ds d)->Q .non (upd H l (.lst (ts'.map V.ref))))->oy  vs H Q E
theorem DX{K:Za}{vs:List V}{H:Hp}{Q:VK}{E:XK}(h:oy vs H Q E):z6 K (bN Q) (start AR vs) H:=by
 obtain⟨l,t,ts,ds,d,rfl,hl,hd,ht,hz,k⟩:=h;refine⟨_,rfl,_,rfl,u_ d,ds.map u_,l,_,ht.dIn,rfl,.inl (aw.of hl),hd.dIns,by rw[u9];decide,AH ds,_,rfl,?_⟩;by_cases hm:d∈ds
 ·rw[if_pos rfl,zzr1 (zj.mpr hm)];refine aU ?_;have:=k ts (by unfold pI;rw[if_pos hm];exact hd);rw[DR hl]at this;exact this
 ·rw[if_pos rfl,zzr0 (fun z=>hm (zj.mp z))];refine cr ?_;refine⟨_,rfl,.inl ⟨rfl,_,aw.of hl⟩,_,rfl,l,_,_,rfl,rfl,hl,?_,?_⟩
  ·rw[ak,Paired.length hd];exact ao hz
  ·have:=k (ts++[t]) (by unfold pI;rw[if_neg hm];exact dC hd ht);rw[ax]at this;exact this
structure DI(R:am->Prop)(H0:Hp)(p c l:Addr)(m:Nat)(H:Hp):Prop where
 pen:hU H p c
 ds:∃ts ds,H l=some (.lst (ts.map V.ref))/\da H ts ds/\ds.Nodup/\(∀d∈ds,R d)/\ds.length<=m
 ex:c6 p H0 H
 fr:H0 l=none
 pl:p≠l
 cl:c≠l
section
variable{R:am->Prop}{H0 H H':Hp}{p c l:Addr}{m:Nat}
theorem hU.lst{H:Hp}{p c:Addr}(h:hU H p c):∃xs,H p=some (.lst xs):=by
 obtain⟨a,r,ns,h1,_⟩:=h;exact⟨_,h1⟩
theorem DI.took(h:DI R H0 p c l m H)(hp:hU H' p c)(e:c6 p H H'):DI R H0 p c l m H':=by
 obtain⟨ts,ds,h1,h2,h3⟩:=h.ds;obtain⟨xs,hx⟩:=h.pen.lst;exact⟨hp,⟨ts,ds,e _ _ h1 h.pl.symm,h2.kt (e.kt hx),h3⟩,h.ex.trans e,h.fr,h.pl,h.cl⟩
theorem DI.new(h:DI R H0 p c l m H){q:Addr}{o:HO}(hq:H q=none):DI R H0 p c l m (upd H q o) :=
 h.took (h.pen.ex (ac.new hq)) (c6.new hq)
theorem DI.up(h:DI R H0 p c l m H){n:Nat}(hn:m<=n):DI R H0 p c l n H:=by
 obtain⟨ts,ds,h1,h2,h3,h4,h5⟩:=h.ds;exact⟨h.pen,⟨ts,ds,h1,h2,h3,h4,bq h5 hn⟩,h.ex,h.fr,h.pl,h.cl⟩
theorem DI.put(h:DI R H0 p c l m H){t:Addr}{d:am}{Q:VK}{E:XK}(ht:gh H t d)(hR:R d)(hm:m<=1000)(k:∀H',DI R H0 p c l (m+1) H'->Q .non H'):oy [.ref l,.ref t] H Q E:=by
 obtain⟨ts,ds,h1,h2,h3,h4,h5⟩:=h.ds;refine⟨l,t,ts,ds,d,rfl,h1,h2,ht,bq h5 hm,fun ts' h'=>k _ ⟨h.pen.upd h.pl h.cl,⟨ts',pI ds d,aa,h'.kt (fA h1),?_,?_,?_⟩,?_,h.fr,h.pl,h.cl⟩⟩
 ·unfold pI;split
  ·exact h3
  ·next hn =>
   rw[cB];refine⟨h3,by simp,?_⟩;intro a ha b hb e;have:b=d:=by simpa using hb
   subst this;exact hn (e▸ha)
 ·intro x hx;unfold pI at hx;split at hx
  ·exact h4 x hx
  ·rcases bp.mp hx with hx|hx
   ·exact h4 x hx
   ·have:x=d:=by simpa using hx
    rw[this];exact hR
 ·unfold pI;split
  ·omega
  ·rw[aE];show ds.length+1<=m+1;omega
 ·intro b o e n;rw[ag (ae e h.fr)];exact h.ex b o e n
end
theorem hU.ne_strs{H:Hp}{p c a:Addr}{ws:Zb}(hp:hU H p c)(ha:H a=some (.lst (ws.map V.str))):a≠p:=by
 intro e;obtain⟨x,y,ns,h1,_⟩:=hp;rw[e,h1]at ha;injection ha with ha;injection ha with ha;cases ws with
 |nil=>cases ha
 |cons w ws=>injection ha with ha;cases ha
theorem kF{K:Za}{r:R2}(hr:∀x y H Q,df K x y H Q->r x y H Q){σ:L2.St}{H:Hp}{Q:VK}{p c a:Addr}{j:Nat}{ws:Zb}(h0:σ[0]?=some (some (.ref p)))(hj:σ[j]?=some (some (.ref a)))(hp:hU H p c)
  (ha:H a=some (.lst (ws.map V.str))) (hne:ws≠[]) (hlen:ws.length<=1000) (k:∀w∈ws,∀H',hU H' p c->c6 p H H'->Q (.str w) H') :
  ∃v,σ[j]?=some (some v)/\∃v0,σ[0]?=some (some v0)/\∃v1,σ[j]?=some (some v1)/\dL K [v1] H fun y H1=>gp [v0,y] H1 (fun y H2=>r v y H2 Q) E0:=by
 have hl:0<ws.length:=by cases ws with|nil=>exact absurd rfl hne|cons _ _=>simp
 have la:(V.int ((ws.map V.str).length:Nat))=V.int (ws.length:Nat):=by rw[ak]
 have hpa:=hp.ne_strs ha;have fin:∀(x:Int) (H':Hp),0<=x->x<(ws.length:Int)->hU H' p c->c6 p H H'->df K (.ref a) (.int x) H' Q:=by
  intro x H' x0 x1 hp' ex;obtain⟨n,rfl⟩:=lr x0;have hn:n<ws.length:=by omega
  exact⟨a,_,(n:Int),.str ws[n],rfl,rfl,aw.of (ex _ _ ha hpa),bQ (by simp[hn]),k _ (nT hn) H' hp' ex⟩
 exact⟨_,hj,_,h0,_,hj,.inl ⟨a,_,rfl,.inl (aw.of ha),by rw[la];exact fu hp (by omega) (by omega) fun x H' x0 x1 hp' ex=>hr _ _ _ _ (fin x H' x0 x1 hp' ex)⟩⟩
def Up(up:Bool)(J5:Zb)(a b:Str):Prop:=∃i j:Nat,J5[i]?=some a/\J5[j]?=some b/\(if up=true then i<j else j<i)
structure ko(J0 J4 J5:Zb)(up:Bool)(d:am):Prop where
 a:d.a∈J5
 b:d.b∈J5
 sg:(∃w∈J0,d.sg=[("ask":Str),w])∨(∃w∈J4,d.sg=[("say":Str),w])∨(d.sg=[("still":Str)]/\Up up J5 d.a d.b)
def aF:List Str:=[("still":Str)]
structure Cj(J0 J4 J5:Zb)(d:am):Prop where
 a:d.a∈J5
 b:d.b∈J5
 sg:(∃w∈J0,d.sg=[("ask":Str),w])∨(∃w∈J4,d.sg=[("say":Str),w])∨d.sg=aF
theorem ko.d{J0 J4 J5:Zb}{up:Bool}{d:am}(h:ko J0 J4 J5 up d):Cj J0 J4 J5 d:=⟨h.a,h.b,h.sg.imp id (Or.imp id And.left)⟩
inductive Reach(ds:List am)(a:Str):Str->Prop
 |one {b:Str}(h:(⟨a,aF,b⟩:am)∈ds):Reach ds a b
 |step {b c:Str}(r:Reach ds a b) (h:(⟨b,aF,c⟩:am)∈ds):Reach ds a c
theorem zz{J5:Zb}(nd:J5.Nodup){i j:Nat}{a:Str}(hi:J5[i]?=some a)(hj:J5[j]?=some a):i=j:=by
 obtain⟨h1,e1⟩:=bJ.mp hi;obtain⟨h2,e2⟩:=bJ.mp hj;have pw:=List.pairwise_iff_getElem.mp nd;rcases qq i j with h|h|h
 ·exact absurd (e1.trans e2.symm) (pw i j h1 h2 h)
 ·exact h
 ·exact absurd (e2.trans e1.symm) (pw j i h2 h1 h)
theorem Up.trans{up:Bool}{J5:Zb}(nd:J5.Nodup){a b c:Str}(h1:Up up J5 a b)(h2:Up up J5 b c):Up up J5 a c:=by
 obtain⟨i,j,e1,e2,h⟩:=h1;obtain⟨j',k,e3,e4,h'⟩:=h2;have:=zz nd e2 e3;subst this;refine⟨i,k,e1,e4,?_⟩;cases up
 ·simp at h h' ⊢;omega
 ·simp at h h' ⊢;omega
theorem Up.irr{up:Bool}{J5:Zb}(nd:J5.Nodup){a:Str}(h:Up up J5 a a):False:=by
 obtain⟨i,j,e1,e2,h⟩:=h;have:=zz nd e1 e2;subst this;cases up
 ·simp at h
 ·simp at h
theorem A5{J0 J4 J5:Zb}{ds:List am}{up:Bool}(nd:J5.Nodup)(m:∀d∈ds,ko J0 J4 J5 up d){a b:Str}(h:Reach ds a b):Up up J5 a b:=by
 have edge:∀{a b:Str},(⟨a,aF,b⟩:am)∈ds->Up up J5 a b:=by
  intro a b h;rcases(m _ h).sg with⟨w,_,e⟩|⟨w,_,e⟩|⟨_,e⟩
  ·cases e
  ·cases e
  ·exact e
 induction h with
 |one h=>exact edge h
 |step r h ih=>exact ih.trans nd (edge h)
inductive fI (vs:List V)(H:Hp)(Q:VK)(E:XK):Prop
 |mk (p c l1 l2 l3:Addr) (J0 J4 J5:Zb) (full:Int):(vs=[.ref p,.ref l1,.ref l2,.ref l3,.int full])->(hU H p c)->(H l1=some (.lst (J0.map V.str)))->(H l2=some (.lst (J4.map V.str)))->(H l3=some (.lst (J5.map V.str)))->(J0.length<=4)->(J4≠[])->(J4.length<=4)->(J5≠[])->(J5.length<=26)->(0<=full)->(full<=2)->(∀(l:Addr) (ts:Ze) (ds:List am) (up:Bool) (H':Hp),H l=none->H' l=some (.lst (ts.map V.ref))->da H' ts ds->ds.Nodup->(∀d∈ds,ko J0 J4 J5 up d)->ds.length<=600->hU H' p c->c6 p H H'->Q (.ref l) H')->fI  vs H Q E
theorem at4{x r:Int}(x0:0<=x)(x2:x<=2)(r0:0<=r)(r4:r<4):∃j:Int,sK [V.int x,.int 1,.int 1,.int 2] r=some (.int j)/\0<=j/\j<=2:=by
 have:r=0∨r=1∨r=2∨r=3:=by omega
 rcases this with rfl|rfl|rfl|rfl
 ·exact⟨x,rfl,x0,x2⟩
 ·exact⟨1,rfl,by decide,by decide⟩
 ·exact⟨1,rfl,by decide,by decide⟩
 ·exact⟨2,rfl,by decide,by decide⟩
theorem AK(ws:Zb)(k:Nat):fe (ws.map V.str) (some (k:Int)) none=(ws.drop k).map V.str:=by
 unfold fe;rw[HT.sIx_none,HT.sIx_nat,ak,List.take_of_length_le (by rw[gV,ak];omega),List.map_drop];by_cases h:k<=ws.length
 ·rw[Nat.min_eq_left h]
 ·rw[Nat.min_eq_right (by omega),t3 (by simp),t3 (by rw[ak];omega)]
theorem p8(ws:Zb)(k:Nat):fe (ws.map V.str) none (some (k:Int))=(ws.take k).map V.str:=by
 unfold fe;rw[HT.sIx_none,HT.sIx_nat,ak,nZ,tX,lq,List.take_eq_take_iff,ak];omega
theorem B3{K:Za}{H:Hp}{a:Addr}{ws:Zb}(h:aw K H a (ws.map V.str)):gL K H (.s (ws.map fW)) (.ref a):=by
 unfold gL;exact⟨a,_,rfl,h,lZ _⟩
theorem gC{K:Za}{H:Hp}{a:Addr}(h:aw K H a []):gL K H (.s []) (.ref a):=by
 unfold gL;refine⟨a,_,rfl,h,?_⟩;unfold DIns
 rfl
inductive DdI(G:am->Prop)(H:Hp)(p c l l1 l2 l3:Addr)(full dn:Int)(i:Nat)(σ:L2.St)(H':Hp):Prop
 |mk (a7 a8 a9 a10 a11 a12:Option V):σ=[some (.ref p),some (.ref l1),some (.ref l2),some (.ref l3),some (.int full),some (.ref l),some (.int dn),a7,a8,a9,a10,a11,a12]->DI G H p c l (11 * i) H'->DdI G H p c l l1 l2 l3 full dn i σ H'
theorem sC{K:Za}{vs:List V}{H:Hp}{Q:VK}{E:XK}(h:fI vs H Q E):om K gp oy (bN Q) (start oN vs) H:=by
 obtain⟨p,c,l1,l2,l3,J0,J4,J5,full,rfl,hp,h1,h2,h3,ha,hs0,hs,hr0,hr,f0,f2,k⟩:=h;have n1:=hp.ne_strs h1;have n2:=hp.ne_strs h2;have n3:=hp.ne_strs h3;refine⟨(by show 0<=aj;decide),fun l hl=>?_⟩;have hpl:=hp.nep hl;have hcl:=hp.nec hl;refine⟨_,rfl,fu (hp.ex (ac.new hl)) (by decide) (by decide) fun dn H1 d0 d1 hp1 ex1=>?_⟩;generalize hG:ko J0 J4 J5 (decide (dn=0))=G;have base:DI G H p c l 0 H1:=⟨hp1,⟨[],[],ex1 _ _ aa hpl.symm,.nil,n8,by simp,cQ _⟩,(c6.new hl).trans ex1,hl,hpl,hcl⟩;refine⟨_,rfl,l3,rfl,⟨_,aw.of (base.ex _ _ h3 n3)⟩,?_⟩;refine kh (xs:=J5.map V.str) (DdI G H p c l l1 l2 l3 full dn)
  ⟨_,_,_,_,_,_,rfl,base⟩ (fun i σ H' _ zq=>by obtain⟨_,_,_,_,_,_,_,D⟩:=zq;exact aw.of (D.ex _ _ h3 n3)) ?_ ?_
 ·rintro i x σ H' t hi ⟨a7,a8,a9,a10,a11,a12,rfl,D⟩ ht;obtain⟨room,hroom,rfl⟩:∃room,J5[i]?=some room/\x=V.str room:=by
   rw[bv]at hi;cases q:J5[i]? with
   |none=>rw[q]at hi;cases hi
   |some r=>rw[q]at hi;exact⟨r,rfl,(dI hi).symm⟩
  have hiL:i<J5.length:=(bJ.mp hroom).1;have hmem:room∈J5:=a_ hroom;refine⟨t,_,rfl,be.of aa,rfl,_,_,rfl,_,_,rfl,rfl,?_⟩;have D1:=D.new ht (o:=.tup [.int i,.str room]);refine⟨(by show 4<=aj;decide),fun q hq=>⟨_,rfl,fu (D1.new hq).pen (by decide) (by decide) fun r H2 r0 r1 hp2 ex2=>?_⟩⟩;obtain⟨j,hj,j0,j2⟩:=at4 (x:=0) (by decide) (by decide) r0 r1;have D2:=(D1.new hq).took hp2 ex2;refine⟨q,_,_,_,rfl,rfl,aw.of (ex2 q _ aa (D1.pen.nep hq).symm),hj,j,rfl,by omega,by omega,?_⟩
  let zI0:Nat->L2.St->Hp->Prop:=fun i' σ H''=>Ex fun(a9 a10:Option V)=>σ=[some (.ref p),some (.ref l1),some (.ref l2),some (.ref l3),some (.int full),some (.ref l),some (.int dn),some (.int i),some (.str room),a9,a10,a11,a12]/\DI G H p c l (11 * i+i') H''
  refine i7 (lo:=0) (n:=j.toNat) zI0
   ⟨_,_,rfl,D2⟩ ?_ ?_
  ·rintro i' σ H3 hi' ⟨a9,a10,rfl,D3⟩;refine kF (fun _ _ _ _ h=>h) rfl rfl D3.pen (D3.ex _ _ h2 n2) hs0 (by omega) fun w hw H4 hp4 ex4=>?_;have D4:=D3.took hp4 ex4;refine⟨(by show 2<=aj;decide),fun sg hsg=>?_⟩;have D5:=D4.new hsg (o:=.tup [.str "say",.str w]);refine⟨_,rfl,_,rfl,_,rfl,kF (fun _ _ _ _ h=>h) rfl rfl D5.pen (D5.ex _ _ h3 n3) hr0 (by omega) fun w2 hw2 H6 hp6 ex6=>?_⟩;have D6:=D5.took hp6 ex6;refine⟨(by show 3<=aj;decide),fun dr hdr=>?_⟩;have D7:=D6.new hdr (o:=.tup [.str room,.ref sg,.str w2]);have hsg6:H6 sg=some (.tup [.str "say",.str w]):=ex6 _ _ aa (D4.pen.nep hsg).symm;refine D7.put (d:=⟨room,["say",w],w2⟩) ⟨sg,aa,kp hsg6 hdr⟩ ?_ (by omega) fun H8 D8=>⟨_,_,rfl,D8⟩;rw[<-hG];exact⟨hmem,hw2,.inr (.inl ⟨w,hw,rfl⟩)⟩
  rintro σ H3 ⟨a9,a10,rfl,D3'⟩;have D3:DI G H p c l (11 * i+2) H3:=D3'.up (by omega);clear D3';refine⟨_,rfl,l1,rfl,⟨_,aw.of (D3.ex _ _ h1 n1)⟩,?_⟩
  let zI1:Nat->L2.St->Hp->Prop:=fun i' σ H''=>Ex fun(a9 a11:Option V)=>σ=[some (.ref p),some (.ref l1),some (.ref l2),some (.ref l3),some (.int full),some (.ref l),some (.int dn),some (.int i),some (.str room),a9,a10,a11,a12]/\DI G H p c l (11 * i+2+2 * i') H''
  refine cw (xs:=J0.map V.str) zI1
   ⟨_,_,rfl,D3⟩ (fun i σ H' _ zq=>by obtain⟨_,_,_,D⟩:=zq;exact aw.of (D.ex _ _ h1 n1)) ?_ ?_
  ·rintro i' x σ H4 hi' ⟨a9,a11,rfl,D4⟩;obtain⟨ask,hask,rfl⟩:∃ask,J0[i']?=some ask/\x=V.str ask:=by
    rw[bv]at hi';cases q:J0[i']? with
    |none=>rw[q]at hi';cases hi'
    |some r=>rw[q]at hi';exact⟨r,rfl,(dI hi').symm⟩
   have hi2:i'<J0.length:=(bJ.mp hask).1;have hm2:ask∈J0:=a_ hask;refine⟨_,rfl,(by show 4<=aj;decide),fun q hq=>⟨_,rfl,fu (D4.new hq).pen (by decide) (by decide) fun r H5 r0 r1 hp5 ex5=>?_⟩⟩;obtain⟨j,hj,j0,j2⟩:=at4 f0 f2 r0 r1;have D5:=(D4.new hq).took hp5 ex5;refine⟨q,_,_,_,rfl,rfl,aw.of (ex5 q _ aa (D4.pen.nep hq).symm),hj,j,rfl,by omega,by omega,?_⟩
   let zI2:Nat->L2.St->Hp->Prop:=fun i'' σ H''=>∃a9:Option V,σ=[some (.ref p),some (.ref l1),some (.ref l2),some (.ref l3),some (.int full),some (.ref l),some (.int dn),some (.int i),some (.str room),a9,a10,some (.str ask),a12]/\DI G H p c l (11 * i+2+2 * i'+i'') H''
   refine i7 (lo:=0) (n:=j.toNat) zI2
    ⟨_,rfl,D5⟩ ?_ ?_
   ·rintro i'' σ H6 hi'' ⟨a9,rfl,D6⟩;refine⟨_,rfl,_,rfl,_,rfl,(by show 2<=aj;decide),fun sg hsg=>?_⟩;have D7:=D6.new hsg (o:=.tup [.str "ask",.str ask]);refine kF (fun _ _ _ _ h=>h) rfl rfl D7.pen (D7.ex _ _ h3 n3) hr0 (by omega) fun w2 hw2 H8 hp8 ex8=>?_;have D8:=D7.took hp8 ex8;refine⟨(by show 3<=aj;decide),fun dr hdr=>?_⟩;have D9:=D8.new hdr (o:=.tup [.str room,.ref sg,.str w2]);have hsg8:H8 sg=some (.tup [.str "ask",.str ask]):=ex8 _ _ aa (D6.pen.nep hsg).symm;refine D9.put (d:=⟨room,["ask",ask],w2⟩) ⟨sg,aa,kp hsg8 hdr⟩ ?_ (by omega) fun H8 D8=>⟨_,rfl,D8⟩;rw[<-hG];exact⟨hmem,hw2,.inl ⟨ask,hm2,rfl⟩⟩
   ·rintro σ H6 ⟨a9,rfl,D6⟩;exact⟨_,_,rfl,D6.up (by omega)⟩
  rintro σ H4 ⟨a9,a11,rfl,D4'⟩;have D4:DI G H p c l (11 * i+10) H4:=D4'.up (by rw[ak];omega);clear D4';have hnext:∀(H9:Hp) (a12:Option V),DI G H p c l (11 * i+11) H9->DdI G H p c l l1 l2 l3 full dn (i+1) [some (.ref p),some (.ref l1),some (.ref l2),some (.ref l3),some (.int full),some (.ref l),some (.int dn),some (.int i),some (.str room),a9,a10,a11,a12] H9:=fun H9 a12 D9=>⟨_,_,_,_,_,_,rfl,D9.up (by omega)⟩;refine⟨_,rfl,_,rfl,_,_,rfl,rfl,_,rfl,l3,_,rfl,aw.of (D4.ex _ _ h3 n3),fun q1 hq1=>?_⟩;have D5:=D4.new hq1 (o:=.lst (fe (J5.map V.str) (some ((i:Int)+1)) none));refine⟨_,rfl,_,rfl,_,rfl,l3,_,rfl,aw.of (D5.ex _ _ h3 n3),fun q2 hq2=>?_⟩;have e1:fe (J5.map V.str) (some ((i:Int)+1)) none=(J5.drop (i+1)).map V.str:=AK J5 (i+1);rw[p8];have D6:=D5.new hq2 (o:=.lst ((J5.take i).map V.str));refine⟨(by show 2<=aj;decide),fun q3 hq3=>?_⟩;have D7:=D6.new hq3 (o:=.lst [.ref q1,.ref q2]);obtain⟨lt,q,hq,hlt,hgood⟩:∃(lt:Zb) (q:Addr),sK [V.ref q1,.ref q2] dn=some (.ref q) /\
    upd (upd (upd H4 q1 (.lst (fe (J5.map V.str) (some ((i:Int)+1)) none))) q2 (.lst ((J5.take i).map V.str))) q3 (.lst [.ref q1,.ref q2]) q=some (.lst (lt.map V.str))/\lt.length<=26 /\
    ∀w∈lt,w∈J5/\Up (decide (dn=0)) J5 room w:=by
   have:dn=0∨dn=1:=by omega
   rcases this with rfl|rfl
   ·refine⟨J5.drop (i+1),q1,rfl,?_,by rw[gV];omega,fun w hw=>⟨List.mem_of_mem_drop hw,?_⟩⟩
    ·refine(kp (kp aa hq2) hq3).trans ?_;rw[e1]
    ·obtain⟨n,hn⟩:=db hw;rw[List.getElem?_drop]at hn;exact⟨i,i+1+n,hroom,hn,by rw[if_pos (by decide)];omega⟩
   ·refine⟨J5.take i,q2,rfl,?_,by rw[aI];omega,fun w hw=>⟨eM hw,?_⟩⟩
    ·exact kp aa hq3
    ·obtain⟨n,hn⟩:=db hw;have hnl:n<i:=by
      have:=(bJ.mp hn).1;rw[aI]at this;omega
     rw[qM hnl]at hn;exact⟨i,n,hroom,hn,by rw[if_neg (by decide)];omega⟩
  refine⟨_,rfl,q3,_,_,_,rfl,rfl,aw.of aa,hq,?_⟩;generalize upd (upd (upd H4 q1 (.lst (fe (J5.map V.str) (some ((i:Int)+1)) none))) q2 (.lst ((J5.take i).map V.str))) q3 (.lst [.ref q1,.ref q2])=H7 at D7 hlt ⊢;refine⟨_,rfl,(by show 0<=aj;decide),fun e he=>⟨.s (lt.map fW),.s [],B3 (aw.of (kp hlt he)),gC (aw.of aa),?_,by decide,_,rfl,?_⟩⟩
  ·show DT.depths (lt.map fW)+1<=8;rw[hC];decide
  have D8:=D7.new he (o:=.lst []);by_cases hz:lt=[]
  ·have ez:(!decide (DT.s (lt.map fW)=DT.s []))=false:=by rw[hz,zzr1 (by rfl)];rfl
   rw[ez];exact aU (aU (hnext _ _ (D8.up (by omega))))
  ·have ez:(!decide (DT.s (lt.map fW)=DT.s []))=true:=by
    rw[zzr0 (fun z=>hz (io (y:=[]) (by injection z)))];rfl
   rw[ez];refine cr ?_;refine⟨_,rfl,fu D8.pen (by decide) (by decide) fun r H9 r0 r1 hp9 ex9=>⟨rfl,_,rfl,?_⟩⟩;have D9:=D8.took hp9 ex9;refine nB (fun _=>?_) (fun _=>hnext _ _ (D9.up (by omega)));refine⟨_,rfl,_,rfl,(by show 1<=aj;decide),fun sg hsg=>?_⟩;have D10:=D9.new hsg (o:=.tup [.str "still"]);have hlt10:upd H9 sg (.tup [.str "still"]) q=some (.lst (lt.map V.str)):=kp (ex9 _ _ (kp hlt he) (D8.pen.ne_strs (kp hlt he))) hsg;refine kF (fun _ _ _ _ h=>.inl h) rfl rfl D10.pen hlt10 hz (by omega) fun w2 hw2 H11 hp11 ex11=>?_;have D11:=D10.took hp11 ex11;refine⟨(by show 3<=aj;decide),fun dr hdr=>?_⟩;have D12:=D11.new hdr (o:=.tup [.str room,.ref sg,.str w2]);have hsg11:H11 sg=some (.tup [.str "still"]):=ex11 _ _ aa (D9.pen.nep hsg).symm;refine D12.put (d:=⟨room,[("still":Str)],w2⟩) ⟨sg,aa,kp hsg11 hdr⟩ ?_ (by omega) fun H13 D13=>hnext _ _ D13;rw[<-hG];exact⟨hmem,(hgood.2 w2 hw2).1,.inr (.inr ⟨rfl,(hgood.2 w2 hw2).2⟩)⟩
 ·rintro σ H' ⟨a7,a8,a9,a10,a11,a12,rfl,D⟩;obtain⟨ts,ds,g1,g2,g3,g4,g5⟩:=D.ds;rw[ak]at g5;rw[<-hG]at g4;exact⟨_,rfl,k l ts ds _ H' hl g1 g2 g3 g4 (by omega) D.pen D.ex⟩
structure bC(J0 J4 J5:Zb)(ds:List am):Prop where
 okA:kM J0
 okS:kM J4
 apart:∀w∈J4,w∉J0
 okR:kM J5
 asks0:J0≠[]
 says0:J4≠[]
 rooms0:J5≠[]
 asks4:J0.length<=4
 says4:J4.length<=4
 rooms26:J5.length<=150
 nodup:ds.Nodup
 good:∀d∈ds,Cj J0 J4 J5 d
 few:ds.length<=1000
 noround:∀r,¬Reach ds r r
structure kj(H:Hp)(t l1 l2 l3 l4:Addr)(ts:Ze)(J0 J4 J5:Zb)(ds:List am):Prop where
 t:H t=some (.tup [.ref l1,.ref l2,.ref l3,.ref l4])
 a1:H l1=some (.lst (J0.map V.str))
 a2:H l2=some (.lst (J4.map V.str))
 a3:H l3=some (.lst (J5.map V.str))
 a4:H l4=some (.lst (ts.map V.ref))
 ds:da H ts ds
theorem hU.ne_refs{H:Hp}{p c a:Addr}{ts:Ze}(hp:hU H p c)(ha:H a=some (.lst (ts.map V.ref))):a≠p:=by
 intro e;obtain⟨x,y,ns,h1,_⟩:=hp;rw[e,h1]at ha;injection ha with ha;injection ha with ha;cases ts with
 |nil=>cases ha
 |cons w ws =>
  injection ha with _ ha;cases ws with
  |nil=>cases ha
  |cons w ws=>injection ha with ha;cases ha
theorem kj.ex{H H':Hp}{p c t l1 l2 l3 l4:Addr}{ts:Ze}{J0 J4 J5:Zb}{ds:List am}(h:kj H t l1 l2 l3 l4 ts J0 J4 J5 ds)(hp:hU H p c)(e:c6 p H H'):kj H' t l1 l2 l3 l4 ts J0 J4 J5 ds:=by
 obtain⟨xs,hx⟩:=hp.lst;exact⟨e.kt hx _ _ h.t,e _ _ h.a1 (hp.ne_strs h.a1),e _ _ h.a2 (hp.ne_strs h.a2),e _ _ h.a3 (hp.ne_strs h.a3),e _ _ h.a4 (hp.ne_refs h.a4),h.ds.kt (e.kt hx)⟩
theorem kj.same{H H':Hp}{t l1 l2 l3 l4:Addr}{ts:Ze}{J0 J4 J5:Zb}{ds:List am}(h:kj H t l1 l2 l3 l4 ts J0 J4 J5 ds)(e:ac H H'):kj H' t l1 l2 l3 l4 ts J0 J4 J5 ds :=
 ⟨e _ _ h.t,e _ _ h.a1,e _ _ h.a2,e _ _ h.a3,e _ _ h.a4,h.ds.kt (ac.kt e)⟩
inductive mS (vs:List V)(H:Hp)(Q:VK)(E:XK):Prop
 |mk (p c:Addr) (most full:Int):(vs=[.ref p,.int most,.int full])->(hU H p c)->(0<most)->(most<=25)->(0<=full)->(full<=2)->(∀(t l1 l2 l3 l4:Addr) (ts:Ze) (J0 J4 J5:Zb) (ds:List am) (H':Hp),kj H' t l1 l2 l3 l4 ts J0 J4 J5 ds->bC J0 J4 J5 ds->J5.length<=most.toNat->ds.length<=600->hU H' p c->c6 p H H'->Q (.ref t) H')->mS  vs H Q E
theorem at6{r:Int}(r0:0<=r)(r6:r<6):∃n:Nat,sK [V.int 0,.int 1,.int 1,.int 2,.int 2,.int 3] r=some (.int n)/\n<=3:=by
 have:r=0∨r=1∨r=2∨r=3∨r=4∨r=5:=by omega
 rcases this with rfl|rfl|rfl|rfl|rfl|rfl
 ·exact⟨0,rfl,by decide⟩
 ·exact⟨1,rfl,by decide⟩
 ·exact⟨1,rfl,by decide⟩
 ·exact⟨2,rfl,by decide⟩
 ·exact⟨2,rfl,by decide⟩
 ·exact⟨3,rfl,by decide⟩
theorem B7{ws:Zb}(hw:ws.length=8){n:Nat}(hn:n<=3):fe (ws.map V.str) (some 4) (some (5+(n:Int)))=((ws.drop 4).take (1+n)).map V.str:=by
 unfold fe;have s1:HT.sIx (ws.map V.str).length 0 (some 4)=min 4 (ws.map V.str).length:=HT.sIx_nat _ _ 4;have s2:HT.sIx (ws.map V.str).length (ws.map V.str).length (some (5+(n:Int)))=min (5+n) (ws.map V.str).length:=HT.sIx_nat _ _ (5+n);rw[s1,s2,ak,hw,lq,List.map_drop];have e1:min 4 8=4:=by decide
 have e2:min (5+n) 8-4=1+n:=by omega
 rw[e1,e2]
theorem Bi{K:Za}{vs:List V}{H:Hp}{Q:VK}{E:XK}(h:mS vs H Q E):vQ K fI mR gp pX (bN Q) (start wJ vs) H:=by
 obtain⟨p,c,most,full,rfl,hp,m0,m1,f0,f2,k⟩:=h;refine⟨_,rfl,p,c,rfl,hp,fun H1 hp1 ex1=>?_⟩;refine⟨_,rfl,p,c,8,rfl,hp1,by decide,fun lw ws H2 ok len fr hl hp2 ex2=>?_⟩;have e2:=ex1.trans ex2;have nw:=hp2.ne_strs hl;refine⟨_,rfl,(by show 6<=aj;decide),fun q hq=>⟨_,rfl,fu (hp2.ex (ac.new hq)) (by decide) (by decide) fun r H3 r0 r1 hp3 ex3=>?_⟩⟩;obtain⟨n,hn,n3⟩:=at6 r0 r1;have hl3:H3 lw=some (.lst (ws.map V.str)):=ex3 _ _ (kp hl hq) nw;refine⟨q,_,_,_,rfl,rfl,aw.of (ex3 _ _ aa (hp2.nep hq).symm),hn,_,_,rfl,rfl,_,rfl,lw,_,rfl,aw.of hl3,fun l1 hl1=>?_⟩;have ea:fe (ws.map V.str) none (some (1+(n:Int)))=(ws.take (1+n)).map V.str:=p8 ws (1+n);rw[ea];have e3:c6 p H H3:=e2.trans ((c6.new hq).trans ex3);have hp4:hU (upd H3 l1 (.lst ((ws.take (1+n)).map V.str))) p c:=hp3.ex (ac.new hl1);have e4:c6 p H (upd H3 l1 (.lst ((ws.take (1+n)).map V.str))):=e3.trans (c6.new hl1);have hl4:upd H3 l1 (.lst ((ws.take (1+n)).map V.str)) lw=some (.lst (ws.map V.str)):=kp hl3 hl1;have ha4:upd H3 l1 (.lst ((ws.take (1+n)).map V.str)) l1=some (.lst ((ws.take (1+n)).map V.str)):=aa;generalize upd H3 l1 (.lst ((ws.take (1+n)).map V.str))=H4 at hp4 e4 hl4 ha4 ⊢;refine⟨_,rfl,_,rfl,(by show 6<=aj;decide),fun q hq=>⟨_,rfl,fu (hp4.ex (ac.new hq)) (by decide) (by decide) fun r H5 r0 r1 hp5 ex5=>?_⟩⟩;obtain⟨m,hm,m3⟩:=at6 r0 r1;have hl5:H5 lw=some (.lst (ws.map V.str)):=ex5 _ _ (kp hl4 hq) nw;have ha5:H5 l1=some (.lst ((ws.take (1+n)).map V.str)):=ex5 _ _ (kp ha4 hq) (hp4.ne_strs ha4);refine⟨q,_,_,_,rfl,rfl,aw.of (ex5 _ _ aa (hp4.nep hq).symm),hm,_,_,rfl,rfl,_,rfl,lw,_,rfl,aw.of hl5,fun l2 hl2=>?_⟩;rw[B7 len m3];have e5:c6 p H H5:=e4.trans ((c6.new hq).trans ex5);have hp6:hU (upd H5 l2 (.lst (((ws.drop 4).take (1+m)).map V.str))) p c:=hp5.ex (ac.new hl2);have e6:c6 p H (upd H5 l2 (.lst (((ws.drop 4).take (1+m)).map V.str))):=e5.trans (c6.new hl2);have ha6:upd H5 l2 (.lst (((ws.drop 4).take (1+m)).map V.str)) l1=some (.lst ((ws.take (1+n)).map V.str)):=kp ha5 hl2;have hb6:upd H5 l2 (.lst (((ws.drop 4).take (1+m)).map V.str)) l2=some (.lst (((ws.drop 4).take (1+m)).map V.str)):=aa;generalize upd H5 l2 (.lst (((ws.drop 4).take (1+m)).map V.str))=H6 at hp6 e6 ha6 hb6 ⊢;refine⟨_,rfl,_,rfl,_,rfl,fu hp6 m0 (by omega) fun r H7 r0 r1 hp7 ex7=>?_⟩;obtain⟨rn,rfl⟩:=lr r0;have ha7:=ex7 _ _ ha6 (hp6.ne_strs ha6);have hb7:=ex7 _ _ hb6 (hp6.ne_strs hb6);refine⟨_,_,rfl,rfl,p,c,1+rn,rfl,hp7,by omega,fun l3 J5 H8 okr lenr fr3 hl3' hp8 ex8=>?_⟩;have ha8:=ex8 _ _ ha7 (hp7.ne_strs ha7);have hb8:=ex8 _ _ hb7 (hp7.ne_strs hb7);have hs0:(ws.drop 4).take (1+m)≠[]:=by
  intro z;have:=congrArg List.length z;rw[aI,gV,len]at this;simp at this
 have ha0:ws.take (1+n)≠[]:=by
  intro z;have:=congrArg List.length z;rw[aI,len]at this;simp at this
 have hr0:J5≠[]:=by
  intro z;rw[z]at lenr;simp at lenr;omega
 refine⟨_,rfl,_,rfl,_,rfl,_,rfl,_,rfl,p,c,l1,l2,l3,_,_,J5,full,rfl,hp8,ha8,hb8,hl3',by rw[aI];omega,hs0,by rw[aI];omega,hr0,by omega,f0,f2,fun l4 ts ds up H9 fr4 hl4' hds nod good few hp9 ex9=>?_⟩;have ha9:=ex9 _ _ ha8 (hp8.ne_strs ha8);have hb9:=ex9 _ _ hb8 (hp8.ne_strs hb8);have hc9:=ex9 _ _ hl3' (hp8.ne_strs hl3');refine⟨_,rfl,_,rfl,_,rfl,_,rfl,(by show 4<=aj;decide),fun t ht=>k t l1 l2 l3 l4 ts _ _ J5 ds _ ⟨aa,kp ha9 ht,kp hb9 ht,kp hc9 ht,kp hl4' ht,hds.kt (ac.kt (ac.new ht))⟩ ?_ ?_ few (hp9.ex (ac.new ht)) ?_⟩
 ·refine⟨⟨?_,fun w h=>ok.2 w (eM h)⟩,⟨?_,fun w h=>ok.2 w (List.mem_of_mem_drop (eM h))⟩,?_,okr,ha0,hs0,hr0,by rw[aI];omega,by rw[aI];omega,by omega,nod,fun d hd=>(good d hd).d,by omega,fun r z=>(A5 okr.1 good z).irr okr.1⟩
  ·exact ok.1.sublist (List.take_sublist _ _)
  ·exact ok.1.sublist ((List.take_sublist _ _).trans (List.drop_sublist _ _))
  ·intro w h1 h2;have h3:w∈ws.drop 4:=eM h1;have h4:w∈ws.take 4:=by
    have:ws.take (1+n)=(ws.take 4).take (1+n):=by rw[List.take_take];congr 1;omega
    rw[this]at h2;exact eM h2
   have:=ok.1;rw[<-List.take_append_drop 4 ws,cB]at this;exact this.2.2 w h4 w h3 rfl
 ·omega
 ·exact(((e6.trans ex7).trans ex8).trans ex9).trans (c6.new ht)
theorem b_{ws:Zb}{i:Nat}{x:V}(h:(ws.map V.str)[i]?=some x):∃w,ws[i]?=some w/\x=.str w:=by
 rw[bv]at h;cases q:ws[i]? with
 |none=>rw[q]at h;cases h
 |some r=>rw[q]at h;exact⟨r,rfl,(dI h).symm⟩
theorem take_snoc{α:Type}{ws:List α}{i:Nat}{w:α}(h:ws[i]?=some w):ws.take (i+1)=ws.take i++[w]:=by
 obtain⟨hi,rfl⟩:=bJ.mp h;rw[List.take_succ_eq_append_getElem hi]
def nr(w:Str):Bool:=!decide (w=("":Str)) && (decide (w.length<=8) && w.cps.toList.all fun c=>decide (c∈("abcdefghijklmnopqrstuvwxyz":Str).cps.toList))
theorem oQ.b{w:Str}(h:oQ w):nr w=true:=by
 unfold nr;have h1:¬(w=("":Str)):=fun e=>by
  have:=h.lo;rw[e]at this;exact absurd this (by decide +kernel)
 rw[zzr0 h1,zzr1 h.hi,Bool.not_false,qk,qk,List.all_eq_true];intro c hc;obtain⟨c1,c2⟩:=h.al c hc;refine zzr1 ?_;have:=zP (c-97) (by omega);have e:97+(c-97)=c:=by omega
 rw[e]at this;exact a_ this
inductive sp_is_name (vs:List V)(H:Hp)(Q:VK)(E:XK):Prop
 |mk (w:Str):(vs=[.str w])->(w.length<=1000)->(∀H',ac H H'->Q (.bl (nr w)) H')->sp_is_name  vs H Q E
theorem xA{K:Za}{vs:List V}{H:Hp}{Q:VK}{E:XK}(h:sp_is_name vs H Q E):z8 K (bN Q) (start AT vs) H:=by
 obtain⟨w,rfl,hz,k⟩:=h;refine⟨_,rfl,rfl,_,rfl,?_⟩;have ed:(!decide (V.str w=V.str ("":Str)))=!decide (w=("":Str)):=by
  congr 1;by_cases e:w=("":Str)
  ·rw[zzr1 e,zzr1 (by rw[e])]
  ·rw[zzr0 e,zzr0 (fun z=>e (by injection z))]
 rw[ed];refine nB (fun h1=>?_) (fun h1=>?_)
 ·refine⟨_,rfl,.inr ⟨w,rfl,dH (ao hz),_,_,rfl,rfl,_,rfl,?_⟩⟩;refine nB (fun h2=>?_) (fun h2=>?_)
  ·refine⟨_,rfl,w,rfl,fun l hl=>?_⟩
   let zI0:Nat->List V->Hp->Prop:=fun i vs H'=>vs=((w.cps.toList.take i).map fun c=>V.bl (decide (c∈("abcdefghijklmnopqrstuvwxyz":Str).cps.toList)))/\ac H H'/\H' l=some (.lst vs)
   refine B8 zI0
    ⟨rfl,ac.new hl,aa⟩ (fun i vs H' _ h=>h.2.2) ?_ ?_
   ·rintro vs H' ⟨rfl,hS,hl'⟩;refine⟨l,w.cps.toList.map fun c=>decide (c∈("abcdefghijklmnopqrstuvwxyz":Str).cps.toList),rfl,aw.of ?_,?_⟩
    ·rw[hl',iz];have:w.cps.toList.take w.cps.size=w.cps.toList:=by
      rw[List.take_of_length_le];simp
     rw[this]
     rfl
    ·have:=k H' hS;have h2':decide (w.length<=8)=true:=zzr1 (by have:=of_decide_eq_true h2;omega);unfold nr at this;rw[h1,h2',qk,qk]at this;rw[List.all_map];exact this
   ·rintro i vs H' c hc hi ⟨rfl,hS,hl'⟩;refine gN (vI ?_);refine⟨_,rfl,c,_,rfl,rfl,hl',?_,o9 hi ⟨?_,?_,aa⟩⟩
    ·rw[ak,aI];have:w.length=w.cps.toList.length:=em w;exact ao (by omega)
    ·rw[take_snoc (by rw[<-hc];simp),ax]
     rfl
    ·intro b o e;rw[ag (ae e hl)];exact hS b o e
  ·have:=k H (ac.refl H);have h2':decide (w.length<=8)=false:=zzr0 (fun z=>h2 (zzr1 (by omega)));unfold nr at this;rw[h1,h2',qk,Bool.false_and]at this;exact this
 ·have:=k H (ac.refl H);unfold nr at this;rw[Bool.eq_false_iff.mpr h1,Bool.false_and]at this;exact this
def aL(ws:Zb):List (ei×V):=ws.foldl (fun acc w=>eh acc (.inr w) (.bl true)) []
theorem c_(ws:Zb)(w:Str):aL (ws++[w])=eh (aL ws) (.inr w) (.bl true):=by
 unfold aL;rw[List.foldl_append]
 rfl
theorem v8{κ:Type}[DecidableEq κ](kvs:List (κ×V))(k:κ)(v:V):(eh kvs k v).length<=kvs.length+1:=by
 unfold eh;split
 ·rw[ak];omega
 ·rw[aE];exact aG _
theorem iU{α:Type}(P:List α->Prop)(h0:P [])(hs:∀ws w,P ws->P (ws++[w]))(ws:List α):P ws:=by
 have:∀n (ws:List α),ws.length=n->P ws:=by
  intro n
  induction n with
  |zero=>intro ws h;rw[List.length_eq_zero_iff.mp h];exact h0
  |succ n ih =>
   intro ws h;have hne:ws≠[]:=fun z=>by rw[z]at h;cases h
   rw[<-List.dropLast_concat_getLast hne];exact hs _ _ (ih _ (by rw[List.length_dropLast,h];rfl))
 exact this _ ws rfl
theorem jB(ws:Zb):(aL ws).length<=ws.length:=by
 refine iU (fun ws=>(aL ws).length<=ws.length) (aG _) (fun ws w h=>?_) ws;show(aL (ws++[w])).length<=(ws++[w]).length;rw[c_,aE];have:=v8 (aL ws) (.inr w) (.bl true);show _<=ws.length+1;omega
theorem rE(ws:Zb)(x:Str):bU (aL ws) (.inr x)=if x∈ws then some (.bl true)else none:=by
 refine iU (fun ws=>bU (aL ws) (.inr x)=if x∈ws then some (.bl true)else none) rfl (fun ws w h=>?_) ws
 show bU (aL (ws++[w])) (.inr x)=_;rw[c_,vK,h];by_cases e:x=w
 ·subst e;rw[if_pos rfl,if_pos (by simp)]
 ·have e1:¬((Sum.inr x:ei)=.inr w):=fun z=>e (by injection z);rw[if_neg e1];by_cases m:x∈ws
  ·rw[if_pos m,if_pos (dq _ m)]
  ·rw[if_neg m,if_neg (fun z=>by rcases bp.mp z with z|z;exact m z;exact e (by simpa using z))]
theorem dW(ws:Zb)(x:Str):(bU (aL ws) (.inr x)).isSome=decide (x∈ws):=by
 rw[rE];by_cases m:x∈ws
 ·rw[if_pos m,zzr1 m];rfl
 ·rw[if_neg m,zzr0 m];rfl
inductive sp_as_keys(K:Za)(vs:List V)(H:Hp)(Q:VK)(E:XK):Prop
 |mk (l:Addr) (ws:Zb):(vs=[.ref l])->(aw K H l (ws.map V.str))->(ws.length<=1000)->(∀d,H d=none->Q (.ref d) (upd H d (.dK (aL ws))))->sp_as_keys K vs H Q E
theorem xD{K:Za}{vs:List V}{H:Hp}{Q:VK}{E:XK}(h:sp_as_keys K vs H Q E):z9 K (bN Q) (start AU vs) H:=by
 obtain⟨l,ws,rfl,hl,hz,k⟩:=h;refine fun d hd=>?_;have key:∀kvs,aw K (upd H d (.dK kvs)) l (ws.map V.str):=fun kvs=>(ac.new hd).seq hl;refine⟨_,rfl,l,rfl,⟨_,key _⟩,?_⟩
 let zI1:Nat->L2.St->Hp->Prop:=fun i σ H'=>∃x,σ=[some (.ref l),some (.ref d),x]/\H'=upd H d (.dK (aL (ws.take i)))
 refine cw (xs:=ws.map V.str) zI1 ⟨_,rfl,rfl⟩ (fun i σ H' _ zq=>by obtain⟨_,_,e⟩:=zq;exact by rw[e];exact key _) ?_ ?_
 ·rintro i x σ H' hi ⟨y,rfl,rfl⟩;obtain⟨w,hw,rfl⟩:=b_ hi;have hlen:(aL (ws.take i)).length<aj:=ao (bq (jB _) (by rw[aI];omega));refine⟨_,rfl,_,rfl,d,_,rfl,.inl ⟨_,.inr w,aa,rfl,hlen,rfl⟩,_,rfl,?_⟩;rw[pQ,take_snoc hw,c_]
 ·rintro σ H' ⟨x,rfl,rfl⟩;rw[ak,bj];exact⟨_,rfl,k d hd⟩
def BP(most:Nat):Nat->List Str->List Str->Option Nat
 |_,_,[]=>none
 |i,ahead,n::ns=>if i=most∨n∈ahead∨nr n=false then some i else BP most (i+1) (ahead++[n]) ns
def cx(names:Zb)(most:Nat)(taken:Zb):Option Nat:=if names=[]then some 0 else BP most 0 taken names
def oV:Option Nat->V
 |none=>.non
 |some i=>.int i
inductive sp_first_wrong_name(K:Za)(vs:List V)(H:Hp)(Q:VK)(E:XK):Prop
 |mk (l t:Addr) (names taken:Zb) (most:Nat):(vs=[.ref l,.int most,.ref t])->(aw K H l (names.map V.str))->(aw K H t (taken.map V.str))->(names.length+taken.length<=1000)->((∀w∈names,w.length<=1000))->(∀H',ac H H'->Q (oV (cx names most taken)) H')->sp_first_wrong_name K vs H Q E
theorem oJ{K:Za}{H:Hp}{Q:VK}{E:XK}{l:Addr}{ws:Zb}(hl:aw K H l (ws.map V.str))(hz:ws.length<=1000)(k:∀d,H d=none->Q (.ref d) (upd H d (.dK (aL ws)))):sp_as_keys K [.ref l] H Q E:=by
 exact⟨l,ws,rfl,hl,hz,k⟩
theorem Ay{H:Hp}{Q:VK}{E:XK}{w:Str}(hz:w.length<=1000)(k:∀H',ac H H'->Q (.bl (nr w)) H'):sp_is_name [.str w] H Q E:=by
 exact⟨w,rfl,hz,k⟩
theorem kU{K:Za}{vs:List V}{H:Hp}{Q:VK}{E:XK}(h:sp_first_wrong_name K vs H Q E):lJ K sp_is_name (sp_as_keys K) (bN Q) (start mf vs) H:=by
 obtain⟨l,t,names,taken,most,rfl,hl,ht,hz,hw,k⟩:=h;refine⟨_,rfl,.inl ⟨l,_,rfl,.inl hl,rfl,_,rfl,?_⟩⟩;by_cases h0:names=[]
 ·subst h0;refine cr ?_;have:=k H (ac.refl H);exact this
 have e0:decide (V.int ((names.map V.str).length:Nat)=V.int 0)=false:=zzr0 (fun z=>h0 (by
  injection z with z;rw[ak]at z;exact List.length_eq_zero_iff.mp (by omega)))
 rw[e0];refine aU ?_;have hk:∀H',ac H H'->Q (oV (BP most 0 taken names)) H':=by
  unfold cx at k;rw[if_neg h0]at k;exact k
 refine⟨_,rfl,oJ ht (by omega) fun d hd=>?_⟩;refine⟨_,rfl,l,rfl,⟨_,(ac.new hd).seq hl⟩,?_⟩
 let zI2:Nat->L2.St->Hp->Prop:=fun i σ H'=>∃x y,σ=[some (.ref l),some (.int most),some (.ref t),some (.ref d),x,y]/\ac H H'/\H' d=some (.dK (aL (taken++names.take i)))/\BP most i (taken++names.take i) (names.drop i)=BP most 0 taken names
 refine kh (xs:=names.map V.str) zI2
  ⟨_,_,rfl,ac.new hd,by rw[tS,d_];exact aa,by rw[tS,d_,nZ]⟩ (fun i σ H' _ zq=>by obtain⟨_,_,_,hS,_⟩:=zq;exact hS.seq hl) ?_ ?_
 ·rintro i x σ H' q hi ⟨x4,x5,rfl,hS,hd',hf⟩ hq;obtain⟨w,hw',rfl⟩:=b_ hi;have hil:i<names.length:=(bJ.mp hw').1;have ed:names.drop i=w::names.drop (i+1):=by
   rw[tZ hil];congr 1;exact(bJ.mp hw').2
  rw[ed]at hf;have hd2:upd H' q (.tup [.int i,.str w]) d=some (.dK (aL (taken++names.take i))):=kp hd' hq;have hS2:ac H (upd H' q (.tup [.int i,.str w])):=hS.trans (ac.new hq);have hww:w.length<=1000:=hw w (a_ hw');refine⟨q,_,rfl,be.of aa,rfl,_,_,rfl,_,_,rfl,rfl,?_⟩;generalize upd H' q (.tup [.int i,.str w])=H2 at hd2 hS2 ⊢;refine⟨_,rfl,_,rfl,rfl,_,rfl,?_⟩;by_cases c1:i=most
  ·have e1:decide (V.int (i:Nat)=V.int (most:Nat))=true:=zzr1 (by rw[c1]);rw[e1];refine cr (cr ?_);refine⟨_,rfl,?_⟩;have:=hk H2 hS2;rw[<-hf]at this;unfold BP at this;rw[if_pos (.inl c1)]at this;exact this
  have e1:decide (V.int (i:Nat)=V.int (most:Nat))=false:=zzr0 (fun z=>c1 (by injection z with z;omega));rw[e1];refine aU ?_;refine⟨_,rfl,_,rfl,d,_,rfl,.inl ⟨_,.inr w,.inl hd2,rfl,rfl⟩,_,rfl,?_⟩;rw[dW];by_cases c2:w∈taken++names.take i
  ·rw[zzr1 c2];refine cr (cr ?_);refine⟨_,rfl,?_⟩;have:=hk H2 hS2;rw[<-hf]at this;unfold BP at this;rw[if_pos (.inr (.inl c2))]at this;exact this
  rw[zzr0 c2];refine aU ?_;refine⟨_,rfl,Ay hww fun H3 hS3=>⟨_,rfl,?_⟩⟩;have hd3:=hS3 _ _ hd2;cases c3:nr w with
  |false =>
   refine cr ?_;refine⟨_,rfl,?_⟩;have:=hk H3 (hS2.trans hS3);rw[<-hf]at this;unfold BP at this;rw[if_pos (.inr (.inr c3))]at this;exact this
  |true =>
   refine aU ?_;have hlen:(aL (taken++names.take i)).length<aj:=ao (bq (jB _) (by rw[aE,aI];omega));refine⟨_,rfl,_,rfl,d,_,rfl,.inl ⟨_,.inr w,hd3,rfl,hlen,rfl⟩,_,_,rfl,?_,?_,?_⟩
   ·intro b o e;rw[ag (ae e hd)];exact hS3 _ _ (hS2 _ _ e)
   ·rw[aa,take_snoc hw',<-dY,c_]
   ·rw[<-hf,take_snoc hw',<-dY]
    conv=>rhs;unfold BP
    rw[if_neg];rintro(z|z|z)
    ·exact c1 z
    ·exact c2 z
    ·rw[c3]at z;cases z
 ·rintro σ H' ⟨x,y,rfl,hS,_,hf⟩;rw[ak,List.drop_length]at hf;have:=hk H' hS;rw[<-hf]at this;exact this
theorem wu{most:Nat}:∀(ns ahead:Zb) (i:Nat),i+ns.length<=most->(ahead++ns).Nodup->(∀w∈ns,oQ w)->BP most i ahead ns=none
 |[],_,_,_,_,_=>rfl
 |n::ns,ahead,i,h1,h2,h3=>by
  rw[eG]at h1;unfold BP;rw[if_neg]
  ·refine wu ns (ahead++[n]) (i+1) (by omega) (by rw[dY];exact h2) fun w hw=>h3 w (ff _ hw)
  ·rintro(z|z|z)
   ·omega
   ·rw[cB]at h2;exact h2.2.2 n z n (fg) rfl
   ·rw[(h3 n fg).b]at z;cases z
theorem gb{most:Nat}{ns taken:Zb}(h0:ns≠[])(h1:ns.length<=most)(h2:(taken++ns).Nodup)(h3:∀w∈ns,oQ w):cx ns most taken=none:=by
 unfold cx;rw[if_neg h0];exact wu ns taken 0 (by omega) h2 h3
theorem fw{n:Nat}(h:n<=9000):n<aj:=qF h (by decide)
def oz(x:Str):TK:=.k (some (.inr x))
def iL(sg:Zb):TK:=.t (sg.map oz)
def zM(d:am):TK:=.t [oz d.a,iL d.sg,oz d.b]
theorem pY{x y:Str}(h:oz x=oz y):x=y:=by
 unfold oz at h;injection h with h;injection h with h;injection h
theorem pb:∀{x y:Zb},x.map oz=y.map oz->x=y
 |[],[],_=>rfl
 |[],_::_,h=>by cases h
 |_::_,[],h=>by cases h
 |a::x,b::y,h=>by
  rw[bh,bh]at h;injection h with h1 h2;rw[pY h1,pb h2]
theorem jC{x y:Zb}(h:iL x=iL y):x=y:=by
 unfold iL at h;injection h with h;exact pb h
theorem Db{x y:am}(h:zM x=zM y):x=y:=by
 unfold zM at h;injection h with h;injection h with h1 h;injection h with h2 h;injection h with h3 h;cases x;cases y;simp only at *;rw[pY h1,jC h2,pY h3]
theorem wY(xs:Zb):TK.depths (xs.map oz)=0:=by
 induction xs with
 |nil=>rfl
 |cons x xs ih=>rw[bh];show max (TK.depth (oz x)) (TK.depths _)=0;rw[ih];rfl
theorem sU(sg:Zb):(iL sg).depth=1:=by
 show TK.depths (sg.map oz)+1=1;rw[wY]
theorem sV(d:am):(zM d).depth=2:=by
 show max (TK.depth (oz d.a)) (max (TK.depth (iL d.sg)) (max (TK.depth (oz d.b)) 0))+1=2;rw[sU]
 rfl
theorem yT{H:Hp}:∀xs:List Str,TKAts H (xs.map oz) (xs.map V.str)
 |[]=>by show TKAts H [] [];unfold TKAts;rfl
 |x::xs=>by
  rw[bh,bh];unfold TKAts;refine⟨_,_,rfl,?_,yT xs⟩;unfold oz eJ
  rfl
theorem uq{H:Hp}(x:Str):eJ H (oz x) (.str x):=by unfold oz eJ;rfl
theorem SignAt.tk{H:Hp}{s:Addr}{sg:Zb}(h:SignAt H s sg):eJ H (iL sg) (.ref s):=by
 unfold iL eJ;exact⟨s,_,rfl,h,yT _⟩
theorem gh.tk{H:Hp}{t:Addr}{d:am}(h:gh H t d):eJ H (zM d) (.ref t):=by
 obtain⟨s,h1,h2⟩:=h;unfold zM eJ;refine⟨t,_,rfl,h1,?_⟩;unfold TKAts;refine⟨_,_,rfl,uq _,?_⟩;unfold TKAts;refine⟨_,_,rfl,SignAt.tk h2,?_⟩;unfold TKAts;refine⟨_,_,rfl,uq _,?_⟩;unfold TKAts
 rfl
section
variable{κ:Type}[DecidableEq κ]
def jQ(ks:List κ):List (κ×V):=ks.foldl (fun acc k=>eh acc k (.bl true)) []
theorem lY(ws:List κ)(w:κ):jQ (ws++[w])=eh (jQ ws) w (.bl true):=by
 unfold jQ;rw[List.foldl_append]
 rfl
theorem Aw(ws:List κ):(jQ ws).length<=ws.length:=by
 refine iU (fun ws=>(jQ ws).length<=ws.length) (aG _) (fun ws w h=>?_) ws;show(jQ (ws++[w])).length<=(ws++[w]).length;rw[lY,aE];have:=v8 (jQ ws) w (.bl true);show _<=ws.length+1;omega
theorem BK(ws:List κ)(x:κ):(bU (jQ ws) x).isSome=decide (x∈ws):=by
 refine iU (fun ws=>(bU (jQ ws) x).isSome=decide (x∈ws)) rfl (fun ws w h=>?_) ws;show(bU (jQ (ws++[w])) x).isSome=_;rw[lY,vK];by_cases e:x=w
 ·subst e;rw[if_pos rfl,zzr1 (by simp)]
  rfl
 ·rw[if_neg e,h];by_cases m:x∈ws
  ·rw[zzr1 m,zzr1 (dq _ m)]
  ·rw[zzr0 m,zzr0 (fun z=>by rcases bp.mp z with z|z;exact m z;exact e (by simpa using z))]
end
theorem zi{d:am}{ds:List am}:zM d∈ds.map zM↔d∈ds:=by
 constructor
 ·intro h;obtain⟨x,hx,e⟩:=aT.mp h;rw[<-Db e];exact hx
 ·exact fm
def md(K:Za)(H:Hp)(v:V)(sg:Zb):Prop:=∃s,v=.ref s/\be K H s (sg.map V.str)
theorem ac.sqT{K:Za}{H H':Hp}{a:Addr}{xs:List V}(e:ac H H')(h:be K H a xs):be K H' a xs:=by
 rcases h with(h|⟨o,h⟩)|h
 ·exact .inl (.inl (e _ _ h))
 ·exact .inl (.inr ⟨o,e _ _ h⟩)
 ·exact .inr h
theorem Signs.same{K:Za}{H H':Hp}(e:ac H H'){xs:List V}{sgs:List (List Str)}(h:Paired (md K H) xs sgs):Paired (md K H') xs sgs :=
 Paired.mapP h fun _ _ ⟨s,h1,h2⟩=>⟨s,h1,ac.sqT e h2⟩
def eI(sg:Zb):DT:=.t (sg.map fW)
theorem p6{x y:Zb}(h:eI x=eI y):x=y:=by
 unfold eI at h;injection h with h;exact io h
theorem br(sg:Zb):(eI sg).depth=1:=by
 show DT.depths (sg.map fW)+1=1;rw[hC]
theorem AG(sgs:List (List Str)):DT.depths (sgs.map eI)<=8:=by
 induction sgs with
 |nil=>exact cQ _
 |cons x xs ih=>rw[bh];show max (DT.depth (eI x)) (DT.depths _)<=8;rw[br];omega
theorem Signs.dIns{K:Za}{H:Hp}{xs:List V}{sgs:List (List Str)}(h:Paired (md K H) xs sgs):DIns K H (sgs.map eI) xs:=by
 induction h with
 |nil=>show DIns K H [] [];unfold DIns;rfl
 |cons q _ ih =>
  obtain⟨s,e,r⟩:=q;rw[bh];unfold DIns;refine⟨_,_,rfl,?_,ih⟩;rw[e];exact aP r
theorem zh{d:Zb}{ds:List (List Str)}:eI d∈ds.map eI↔d∈ds:=by
 constructor
 ·intro h;obtain⟨x,hx,e⟩:=aT.mp h;rw[<-p6 e];exact hx
 ·exact fm
theorem Paired.app{α β:Type}{R:α->β->Prop}{a:List α}{b:List β}{c:List α}{d:List β}(g:Paired R a b)(h:Paired R c d):Paired R (a++c) (b++d):=by
 induction g with
 |nil=>exact h
 |cons r _ ih=>exact .cons r ih
def rR(w:Str):List Str:=[("ask":Str),w]
def rg(w:Str):List Str:=[("say":Str),w]
def i8(J0 J4:Zb):List (List Str):=J0.map rR++J4.map rg++[aF]
theorem rf{K:Za}{kw:Str}{σ:L2.St}{H:Hp}{a l:Addr}{ws:Zb}{Q:Hp->Prop}(ha:H a=some (.lst (ws.map V.str)))(hl:H l=none)(hz:ws.length<=1000)
  (k:∀(xs:List V) (H':Hp),Paired (md K H') xs (ws.map fun w=>[kw,w])->ac H H'->H' l=some (.lst xs)->Q H') :
  eX 1 [] σ (Ci K a) U0 jS (dJ (aM (tC (.str kw)) V0)) H l Q:=by
 let zI0:Nat->List V->Hp->Prop:=fun i vs H'=>Paired (md K H') vs ((ws.take i).map fun w=>[kw,w])/\ac H H'/\H' l=some (.lst vs)
 refine cu (xs:=ws.map V.str) zI0
  ⟨.nil,ac.new hl,aa⟩ (fun i vs H' _ zq=>by obtain⟨_,hS,h'⟩:=zq;exact⟨h',aw.of (hS _ _ ha)⟩) ?_ ?_
 ·rintro vs H' ⟨h1,h2,h3⟩;rw[ak,bj]at h1;exact k vs H' h1 h2 h3
 ·rintro i vs H' x hx hi ⟨h1,h2,h3⟩;obtain⟨w,hw,rfl⟩:=b_ hx;refine gN (vI ?_);refine⟨_,rfl,(by show 2<=aj;decide),fun t ht=>⟨kp h3 ht,?_,o9 hi ⟨?_,?_,aa⟩⟩⟩
  ·rw[Paired.length h1,ak,aI];exact ao (by omega)
  ·rw[take_snoc hw,ax];have hS2:jU (upd H' t (.tup [.str kw,.str w])) (upd (upd H' t (.tup [.str kw,.str w])) l (.lst (vs++[.ref t]))):=fA (kp h3 ht);have hS3:jU H' (upd (upd H' t (.tup [.str kw,.str w])) l (.lst (vs++[.ref t]))):=(ac.kt (ac.new ht)).trans hS2;refine Paired.app (Paired.mapP h1 fun v sg ⟨s,e1,e2⟩=>⟨s,e1,?_⟩) (.cons ⟨t,rfl,be.of (hS2 _ _ aa)⟩ .nil);rcases e2 with(e2|⟨o,e2⟩)|e2
   ·exact .inl (.inl (hS3 _ _ e2))
   ·refine .inl (.inr ⟨o,?_⟩);rw[ag (fun z=>by rw[z,h3]at e2;cases e2)];exact kp e2 ht
   ·exact .inr e2
  ·intro b o e;rw[ag (ae e hl)];exact kp (h2 _ _ e) ht
inductive sp_door_signs(K:Za)(vs:List V)(H:Hp)(Q:VK)(E:XK):Prop
 |mk (l1 l2:Addr) (J0 J4:Zb):(vs=[.ref l1,.ref l2])->(H l1=some (.lst (J0.map V.str)))->(H l2=some (.lst (J4.map V.str)))->(J0.length<=100)->(J4.length<=100)->(∀(l:Addr) (xs:List V) (H':Hp),Paired (md K H') xs (i8 J0 J4)->ac H H'->H' l=some (.lst xs)->Q (.ref l) H')->sp_door_signs K vs H Q E
theorem sD{K:Za}{st:Addr}(hst:∀H,be K H st (aF.map V.str)){vs:List V}{H:Hp}{Q:VK}{E:XK}(h:sp_door_signs K vs H Q E):ux K st (bN Q) (start vq vs) H:=by
 obtain⟨l1,l2,J0,J4,rfl,h1,h2,z1,z2,k⟩:=h;refine⟨_,rfl,l1,rfl,⟨_,aw.of h1⟩,fun a ha=>?_⟩;refine rf h1 ha (by omega) fun xs1 H1 p1 s1 g1=>?_;refine⟨_,rfl,l2,rfl,⟨_,aw.of (s1 _ _ h2)⟩,fun b hb=>?_⟩;refine rf (s1 _ _ h2) hb (by omega) fun xs2 H2 p2 s2 g2=>?_;have len1:xs1.length<=100:=by rw[Paired.length p1,ak];exact z1
 have len2:xs2.length<=100:=by rw[Paired.length p2,ak];exact z2
 refine⟨a,b,xs1,xs2,rfl,rfl,s2 _ _ g1,g2,dH (ao (by omega)),fun c hc=>?_⟩;refine⟨(by show 1<=aj;decide),fun d hd=>?_⟩;refine⟨c,d,_,_,rfl,rfl,kp aa hd,aa,?_,fun e he=>k e _ _ ?_ ?_ aa⟩
 ·rw[aE];show _+1<=aj;exact dH (ao (by omega))
 ·have sx:ac H2 (upd (upd (upd H2 c (.lst (xs1++xs2))) d (.lst [.ref st])) e (.lst (xs1++xs2++[.ref st]))):=((ac.new hc).trans (ac.new hd)).trans (ac.new he);exact Paired.app (Paired.app (Signs.same (s2.trans sx) p1) (Signs.same sx p2)) (.cons ⟨st,rfl,hst _⟩ .nil)
 ·exact(((s1.trans s2).trans (ac.new hc)).trans (ac.new hd)).trans (ac.new he)
def C9(J5:Zb)(sgs:List (List Str)):Nat->List am->List am->Option Nat
 |_,_,[]=>none
 |i,ahead,d::ds=>if i=2000∨d∈ahead∨d.a∉J5∨d.sg∉sgs∨d.b∉J5 then some i else C9 J5 sgs (i+1) (ahead++[d]) ds
inductive sp_first_wrong_door(K:Za)(vs:List V)(H:Hp)(Q:VK)(E:XK):Prop
 |mk (l l3 sl:Addr) (ts:Ze) (ds:List am) (J5:Zb) (xs:List V) (sgs:List (List Str)):(vs=[.ref l,.ref l3,.ref sl])->(H l=some (.lst (ts.map V.ref)))->(da H ts ds)->(H l3=some (.lst (J5.map V.str)))->(J5.length<=1000)->(H sl=some (.lst xs))->(Paired (md K H) xs sgs)->(ds.length<=9000)->(∀H',ac H H'->Q (oV (C9 J5 sgs 0 [] ds)) H')->sp_first_wrong_door K vs H Q E
theorem bT{ws:Ze}{i:Nat}{x:V}(h:(ws.map V.ref)[i]?=some x):∃w,ws[i]?=some w/\x=.ref w:=by
 rw[bv]at h;cases q:ws[i]? with
 |none=>rw[q]at h;cases h
 |some r=>rw[q]at h;exact⟨r,rfl,(dI h).symm⟩
theorem kY{K:Za}{vs:List V}{H:Hp}{Q:VK}{E:XK}(h:sp_first_wrong_door K vs H Q E):lK K (sp_as_keys K) (bN Q) (start mh vs) H:=by
 obtain⟨l,l3,sl,ts,ds,J5,xs,sgs,rfl,hl,hds,h3,hr,hsl,hsg,hz,k⟩:=h;refine⟨_,rfl,oJ (aw.of h3) hr fun d hd=>?_⟩;refine fun e he=>?_;have hS0:ac H (upd (upd H d (.dK (aL J5))) e (.dT [])):=(ac.new hd).trans (ac.new he);have heH:H e=none:=(ac.new hd).free he;refine⟨_,rfl,l,rfl,⟨_,aw.of (hS0 _ _ hl)⟩,?_⟩
 let zI1:Nat->L2.St->Hp->Prop:=fun i σ H'=>∃x y,σ=[some (.ref l),some (.ref l3),some (.ref sl),some (.ref d),some (.ref e),x,y]/\ac H H'/\H' d=some (.dK (aL J5))/\H' e=some (.dT (jQ ((ds.take i).map zM)))/\C9 J5 sgs i (ds.take i) (ds.drop i)=C9 J5 sgs 0 [] ds
 refine kh (xs:=ts.map V.ref) zI1
  ⟨_,_,rfl,hS0,kp aa he,aa,rfl⟩ (fun i σ H' _ zq=>by obtain⟨_,_,_,hS,_⟩:=zq;exact aw.of (hS _ _ hl)) ?_ ?_
 ·rintro i x σ H' q hi ⟨x5,x6,rfl,hS,hd',he',hf⟩ hq;obtain⟨t,ht,rfl⟩:=bT hi;obtain⟨dr,hdr,hat⟩:=Paired.getL hds ht;have hil:i<ds.length:=(bJ.mp hdr).1;have ed:ds.drop i=dr::ds.drop (i+1):=by
   rw[tZ hil];congr 1;exact(bJ.mp hdr).2
  rw[ed]at hf;have hS2:ac H (upd H' q (.tup [.int i,.ref t])):=hS.trans (ac.new hq);have hd2:upd H' q (.tup [.int i,.ref t]) d=_:=kp hd' hq;have he2:upd H' q (.tup [.int i,.ref t]) e=_:=kp he' hq;refine⟨q,_,rfl,be.of aa,rfl,_,_,rfl,_,_,rfl,rfl,?_⟩;generalize upd H' q (.tup [.int i,.ref t])=H2 at hd2 he2 hS2 ⊢;have hat2:=hat.kt (ac.kt hS2);have hin:nL K H2 (zM dr) (.ref t):=eJ.isIn 8 (by rw[sV];decide) hat2.tk;have hd8:(zM dr).depth<=8:=by rw[sV];decide
  obtain⟨s,ht2,hs2⟩:=hat2;have bad:(i=2000∨dr∈ds.take i∨dr.a∉J5∨dr.sg∉sgs∨dr.b∉J5)->Q (.int i) H2:=by
   intro c;have:=k H2 hS2;rw[<-hf]at this;unfold C9 at this;rw[if_pos c]at this;exact this
  refine⟨_,rfl,rfl,_,rfl,?_⟩;by_cases c1:i=2000
  ·have e1:decide (V.int (i:Nat)=V.int 2000)=true:=zzr1 (by rw[c1];rfl);rw[e1];exact cr (cr ⟨_,rfl,bad (.inl c1)⟩)
  have e1:decide (V.int (i:Nat)=V.int 2000)=false:=zzr0 (fun z=>c1 (by injection z with z;omega));rw[e1];refine aU ?_;refine⟨_,rfl,_,rfl,e,_,rfl,.inr ⟨_,zM dr,t,.inl he2,rfl,hin,hd8,rfl⟩,_,rfl,?_⟩;rw[BK];by_cases c2:dr∈ds.take i
  ·rw[zzr1 (zi.mpr c2)];exact cr ⟨_,rfl,bad (.inr (.inl c2))⟩
  rw[zzr0 (fun z=>c2 (zi.mp z))];refine aU ?_;refine⟨_,rfl,.inr (.inl ⟨t,_,0,_,rfl,rfl,be.of ht2,rfl,_,rfl,d,_,rfl,.inl ⟨_,.inr dr.a,.inl hd2,rfl,rfl⟩,_,rfl,?_⟩)⟩;rw[dW];by_cases c3:dr.a∈J5;rotate_left
  ·rw[zzr0 c3];exact cr (cr ⟨_,rfl,bad (.inr (.inr (.inl c3)))⟩)
  rw[zzr1 c3];refine aU ?_;refine⟨_,rfl,.inr (.inl ⟨t,_,1,_,rfl,rfl,be.of ht2,rfl,_,rfl,eI dr.sg,sgs.map eI,sl,xs,aP (be.of hs2),rfl,.inl (aw.of (hS2 _ _ hsl)),Signs.dIns (Signs.same hS2 hsg),by rw[br];decide,AG _,_,rfl,?_⟩)⟩;rw[if_pos rfl];by_cases c4:dr.sg∈sgs;rotate_left
  ·rw[zzr0 (fun z=>c4 (zh.mp z))];exact cr (cr ⟨_,rfl,bad (.inr (.inr (.inr (.inl c4))))⟩)
  rw[zzr1 (zh.mpr c4)];refine aU ?_;refine⟨_,rfl,.inr (.inl ⟨t,_,2,_,rfl,rfl,be.of ht2,rfl,_,rfl,d,_,rfl,.inl ⟨_,.inr dr.b,.inl hd2,rfl,rfl⟩,_,rfl,?_⟩)⟩;rw[dW];by_cases c5:dr.b∈J5;rotate_left
  ·rw[zzr0 c5];exact cr ⟨_,rfl,bad (.inr (.inr (.inr (.inr c5))))⟩
  rw[zzr1 c5];refine aU ?_;have hlen:(jQ ((ds.take i).map zM)).length<aj:=fw (bq (Aw _) (by rw[ak,aI];omega));refine⟨_,rfl,_,rfl,e,_,rfl,.inr ⟨_,zM dr,t,he2,rfl,gh.tk ⟨s,ht2,hs2⟩,hd8,hlen,rfl⟩,_,_,rfl,?_,?_,?_,?_⟩
  ·intro b o q;rw[ag (ae q heH)];exact hS2 _ _ q
  ·rw[ag (fun z=>by rw[z,he2]at hd2;cases hd2)];exact hd2
  ·rw[aa,take_snoc hdr,ax];exact congrArg (fun z=>some (HO.dT z)) (lY _ _).symm
  ·rw[<-hf,take_snoc hdr]
   conv=>rhs;unfold C9
   rw[if_neg];rintro(z|z|z|z|z)
   ·exact c1 z
   ·exact c2 z
   ·exact z c3
   ·exact z c4
   ·exact z c5
 ·rintro σ H' ⟨x,y,rfl,hS,_,_,hf⟩;have:=k H' hS;rw[<-hf,ak,Paired.length hds,List.drop_length]at this;exact this
theorem wv{J5:Zb}{sgs:List (List Str)}:∀(ds ahead:List am) (i:Nat),i+ds.length<=2000->(ahead++ds).Nodup->(∀d∈ds,d.a∈J5/\d.sg∈sgs/\d.b∈J5)->C9 J5 sgs i ahead ds=none
 |[],_,_,_,_,_=>rfl
 |n::ns,ahead,i,h1,h2,h3=>by
  rw[eG]at h1;unfold C9;rw[if_neg]
  ·refine wv ns (ahead++[n]) (i+1) (by omega) (by rw[dY];exact h2) fun w hw=>h3 w (ff _ hw)
  ·have:=h3 n fg;rintro(z|z|z|z|z)
   ·omega
   ·rw[cB]at h2;exact h2.2.2 n z n (fg) rfl
   ·exact z this.1
   ·exact z this.2.1
   ·exact z this.2.2
inductive sp_need_none (vs:List V)(H:Hp)(Q:VK)(E:XK):Prop
 |mk (x:V):(vs=[x,.non])->(Q .non H)->sp_need_none  vs H Q E
theorem uL{K:Za}{vs:List V}{H:Hp}{Q:VK}{E:XK}(h:sp_need_none vs H Q E):vN K (bN Q) (start wG vs) H:=by
 obtain⟨x,rfl,k⟩:=h;refine⟨_,rfl,_,rfl,?_⟩;have e:(!decide (V.non=V.non))=false:=by rw[zzr1 rfl];rfl
 rw[e];exact aU k
structure Lists(H:Hp)(l1 l2 l3 l4:Addr)(ts:Ze)(J0 J4 J5:Zb)(ds:List am):Prop where
 a1:H l1=some (.lst (J0.map V.str))
 a2:H l2=some (.lst (J4.map V.str))
 a3:H l3=some (.lst (J5.map V.str))
 a4:H l4=some (.lst (ts.map V.ref))
 ds:da H ts ds
theorem Lists.same{H H':Hp}{l1 l2 l3 l4:Addr}{ts:Ze}{J0 J4 J5:Zb}{ds:List am}(h:Lists H l1 l2 l3 l4 ts J0 J4 J5 ds)(e:ac H H'):Lists H' l1 l2 l3 l4 ts J0 J4 J5 ds :=
 ⟨e _ _ h.a1,e _ _ h.a2,e _ _ h.a3,e _ _ h.a4,h.ds.kt (ac.kt e)⟩
inductive sp_need_parts (vs:List V)(H:Hp)(Q:VK)(E:XK):Prop
 |mk (l1 l2 l3 l4:Addr) (ts:Ze) (J0 J4 J5:Zb) (ds:List am):(vs=[.ref l1,.ref l2,.ref l3,.ref l4])->(Lists H l1 l2 l3 l4 ts J0 J4 J5 ds)->(bC J0 J4 J5 ds)->(∀H',ac H H'->Q .non H')->sp_need_parts  vs H Q E
theorem bC.signs{J0 J4 J5:Zb}{ds:List am}(m:bC J0 J4 J5 ds):∀d∈ds,d.a∈J5/\d.sg∈i8 J0 J4/\d.b∈J5:=by
 intro d hd;have g:=m.good d hd;refine⟨g.a,?_,g.b⟩;unfold i8;rcases g.sg with⟨w,hw,e⟩|⟨w,hw,e⟩|e
 ·rw[e];exact dq _ (dq _ (aT.mpr ⟨w,hw,rfl⟩))
 ·rw[e];exact dq _ (dF _ (aT.mpr ⟨w,hw,rfl⟩))
 ·rw[e];exact dF _ (by simp[aF])
theorem oC{ws:Zb}(h:kM ws):∀w∈ws,w.length<=1000:=fun w hw=>bq (h.2 w hw).hi (by decide)
theorem sA{K:Za}{vs:List V}{H:Hp}{Q:VK}{E:XK}(h:sp_need_parts vs H Q E):ut K sp_need_none (sp_first_wrong_door K) (sp_door_signs K) (sp_first_wrong_name K) (bN Q) (start vm vs) H:=by
 obtain⟨l1,l2,l3,l4,ts,J0,J4,J5,ds,rfl,L,m,k⟩:=h;have w1:cx J0 4 []=none:=gb m.asks0 m.asks4 m.okA.1 m.okA.2;have w2:cx J4 4 J0=none:=gb m.says0 m.says4 (by
  rw[cB];exact⟨m.okA.1,m.okS.1,fun a ha b hb e=>m.apart b hb (e▸ha)⟩) m.okS.2
 have w3:cx J5 150 []=none:=gb m.rooms0 (by have:=m.rooms26;omega) m.okR.1 m.okR.2;have w4:C9 J5 (i8 J0 J4) 0 [] ds=none:=wv ds [] 0 (by have:=m.few;omega) m.nodup m.signs;have z1:=m.asks4;have z2:=m.says4;have z3:=m.rooms26;have z4:=m.few;refine⟨_,rfl,(by show 0<=aj;decide),fun e he=>⟨l1,e,J0,[],4,rfl,aw.of (kp L.a1 he),aw.of aa,by simp;omega,oC m.okA,fun H1 s1=>?_⟩⟩;rw[w1];refine⟨_,rfl,?_⟩;have S1:=(ac.new he).trans s1;refine⟨_,rfl,_,rfl,l2,l1,J4,J0,4,rfl,aw.of (S1 _ _ L.a2),aw.of (S1 _ _ L.a1),by omega,oC m.okS,fun H2 s2=>?_⟩;rw[w2];refine⟨_,rfl,?_⟩;have S2:=S1.trans s2;refine⟨_,rfl,(by show 0<=aj;decide),fun e he=>⟨l3,e,J5,[],150,rfl,aw.of (kp (S2 _ _ L.a3) he),aw.of aa,by simp;omega,oC m.okR,fun H3 s3=>?_⟩⟩;rw[w3];refine⟨_,rfl,?_⟩;have S3:=(S2.trans (ac.new he)).trans s3;refine⟨_,rfl,_,rfl,_,rfl,_,rfl,l1,l2,J0,J4,rfl,S3 _ _ L.a1,S3 _ _ L.a2,by omega,by omega,fun sl xs H4 hx s4 hsl=>?_⟩;have S4:=S3.trans s4;have L4:=L.same S4;refine⟨l4,l3,sl,ts,ds,J5,xs,i8 J0 J4,rfl,L4.a4,L4.ds,L4.a3,by omega,hsl,hx,by omega,fun H5 s5=>?_⟩;rw[w4];exact⟨_,rfl,k H5 (S4.trans s5)⟩
section
variable{κ ι:Type}[DecidableEq κ]{e:ι->κ}
def dz(e:ι->κ)(ps:List (ι×Addr)):List (κ×V):=ps.map fun x=>(e x.1,V.ref x.2)
theorem kH(inj:∀x y,e x=e y->x=y){i:ι}:∀{ps:List (ι×Addr)},i∉ps.map (·.1)->bU (dz e ps) (e i)=none
 |[],_=>rfl
 |x::ps,h=>by
  rw[bh,cR]at h;show bU ((e x.1,V.ref x.2)::dz e ps) (e i)=none;rw[cv (fun z=>h (.inl (inj _ _ z).symm))];exact kH inj (fun z=>h (.inr z))
theorem dU(inj:∀x y,e x=e y->x=y){i:ι}{a:Addr}:∀{ps:List (ι×Addr)},(ps.map (·.1)).Nodup->(i,a)∈ps->bU (dz e ps) (e i)=some (.ref a)
 |[],_,h=>by cases h
 |x::ps,nd,h=>by
  rw[bh,gM]at nd;show bU ((e x.1,V.ref x.2)::dz e ps) (e i)=_;rcases cR.mp h with h|h
  ·rw[<-h];exact cF rfl
  ·rw[cv (fun z=>nd.1 (by rw[inj _ _ z];exact aT.mpr ⟨_,h,rfl⟩))];exact dU inj nd.2 h
theorem tG(ps:List (ι×Addr))(i:ι)(a:Addr):dz e (ps++[(i,a)])=dz e ps++[(e i,.ref a)]:=by
 unfold dz;rw[ax]
 rfl
end
structure DL{ι:Type}(H0 H:Hp)(d:Addr)(ps:List (ι×Addr)):Prop where
 nd:(ps.map (·.1)).Nodup
 na:(ps.map (·.2)).Nodup
 fr:∀x∈ps,H0 x.2=none
 frd:H0 d=none
 ned:∀x∈ps,x.2≠d
 same:ac H0 H
theorem DL.snoc{ι:Type}{H0 H H':Hp}{d:Addr}{ps:List (ι×Addr)}{i:ι}{a:Addr}(h:DL H0 H d ps)(hi:i∉ps.map (·.1))(ha:∀x∈ps,x.2≠a)(fr:H0 a=none)(nd:a≠d)(s:ac H0 H'):DL H0 H' d (ps++[(i,a)]):=by
 refine⟨?_,?_,?_,h.frd,?_,s⟩
 ·rw[ax,cB];refine⟨h.nd,by simp,fun x hx y hy e=>?_⟩;have:y=i:=by simpa using hy
  exact hi (by rw[<-this,<-e];exact hx)
 ·rw[ax,cB];refine⟨h.na,by simp,fun x hx y hy e=>?_⟩;have:y=a:=by simpa using hy
  obtain⟨z,hz,rfl⟩:=aT.mp hx;exact ha z hz (e.trans this)
 ·intro x hx;rcases bp.mp hx with hx|hx
  ·exact h.fr x hx
  ·have:x=(i,a):=by simpa using hx
   rw[this];exact fr
 ·intro x hx;rcases bp.mp hx with hx|hx
  ·exact h.ned x hx
  ·have:x=(i,a):=by simpa using hx
   rw[this];exact nd
theorem BD{ι:Type}:∀{ps:List (ι×Addr)},(ps.map (·.2)).Nodup->∀{x y:ι×Addr},x∈ps->y∈ps->x.2=y.2->x=y
 |[],_,x,_,h,_,_=>by cases h
 |p::ps,nd,x,y,hx,hy,e=>by
  rw[bh,gM]at nd;rcases cR.mp hx with hx'|hx'<;>rcases cR.mp hy with hy'|hy'
  ·rw[hx',hy']
  ·exact absurd (aT.mpr ⟨y,hy',by rw[<-e,hx']⟩) nd.1
  ·exact absurd (aT.mpr ⟨x,hx',by rw[e,hy']⟩) nd.1
  ·exact BD nd.2 hx' hy' e
theorem ir:∀x y:Str,(Sum.inr x:ei)=Sum.inr y->x=y:=fun x y h=>by injection h
def bW(ds:List am)(r:Str):List am:=ds.filter fun d=>decide (d.a=r)
inductive sp_doors_by_start (vs:List V)(H:Hp)(Q:VK)(E:XK):Prop
 |mk (l3 l4:Addr) (ts:Ze) (J5:Zb) (ds:List am):(vs=[.ref l3,.ref l4])->(H l3=some (.lst (J5.map V.str)))->(H l4=some (.lst (ts.map V.ref)))->(da H ts ds)->(J5.Nodup)->(J5.length<=1000)->(ds.length<=9000)->((∀d∈ds,d.a∈J5))->(∀(d:Addr) (ps:List (Str×Addr)) (H':Hp),ps.map (·.1)=J5->H' d=some (.dK (dz Sum.inr ps))->(∀x∈ps,∃us,H' x.2=some (.lst (us.map V.ref))/\da H' us (bW ds x.1))->ac H H'->Q (.ref d) H')->sp_doors_by_start  vs H Q E
theorem m8{K:Za}{vs:List V}{H:Hp}{Q:VK}{E:XK}(h:sp_doors_by_start vs H Q E):oo K (bN Q) (start oP vs) H:=by
 obtain⟨l3,l4,ts,J5,ds,rfl,h3,h4,hds,nod,hz,hz2,hin,k⟩:=h;refine fun d hd=>?_;refine⟨_,rfl,l3,rfl,⟨_,aw.of (kp h3 hd)⟩,?_⟩
 let zI0:Nat->L2.St->Hp->Prop:=fun i σ H'=>∃x y,σ=[some (.ref l3),some (.ref l4),some (.ref d),x,y]/\∃ps:List (Str×Addr),ps.map (·.1)=J5.take i/\H' d=some (.dK (dz Sum.inr ps))/\DL H H' d ps/\∀x∈ps,H' x.2=some (.lst [])
 refine cw (xs:=J5.map V.str) zI0
  ⟨_,_,rfl,[],rfl,aa,⟨by simp,by simp,by simp,hd,by simp,ac.new hd⟩,by simp⟩ (fun i σ H' _ zq=>by obtain⟨_,_,_,_,_,_,D,_⟩:=zq;exact aw.of (D.same _ _ h3)) ?_ ?_
 ·rintro i x σ H' hi ⟨x3,x4,rfl,ps,hps,hd',D,hls⟩;obtain⟨w,hw,rfl⟩:=b_ hi;have hnew:w∉ps.map (·.1):=by
   rw[hps];intro z;have:=nod;rw[<-List.take_append_drop (i+1) J5,take_snoc hw,cB]at this;have:=this.1;rw[cB]at this;exact this.2.2 w z w (by simp) rfl
  refine⟨(by show 0<=aj;decide),fun a ha=>?_⟩;have hlen:(dz (Sum.inr:Str->ei) ps).length<aj:=ao (by
   unfold dz;rw[ak,<-ak (f:=(·.1)) (as:=ps),hps,aI];omega)
  have haH:H a=none:=D.same.free ha;have nda:a≠d:=(ae hd' ha).symm;have hneA:∀x∈ps,x.2≠a:=fun x hx=>ae (hls x hx) ha;refine⟨_,rfl,_,rfl,d,_,rfl,.inl ⟨_,.inr w,kp hd' ha,rfl,hlen,rfl⟩,_,_,rfl,ps++[(w,a)],?_,?_,?_,?_⟩
  ·rw[ax,hps,take_snoc hw];rfl
  ·rw[aa,g6 _ (kH ir hnew),tG]
  ·refine D.snoc hnew hneA haH nda ?_;intro b o q;rw[ag (ae q hd)];exact kp (D.same _ _ q) ha
  ·intro x hx;rcases bp.mp hx with hx|hx
   ·rw[ag (D.ned x hx)];exact kp (hls x hx) ha
   ·have:x=(w,a):=by simpa using hx
    rw[this,ag nda];exact aa
 ·rintro σ H1 ⟨x3,x4,rfl,ps,hps,hd1,D1,hls⟩;rw[ak,bj]at hps;refine⟨_,rfl,l4,rfl,⟨_,aw.of (D1.same _ _ h4)⟩,?_⟩
  let zI1:Nat->L2.St->Hp->Prop:=fun i σ H'=>∃x4,σ=[some (.ref l3),some (.ref l4),some (.ref d),x3,x4]/\H' d=some (.dK (dz Sum.inr ps))/\DL H H' d ps/\∀x∈ps,∃us,H' x.2=some (.lst (us.map V.ref))/\da H' us (bW (ds.take i) x.1)
  refine cw (xs:=ts.map V.ref) zI1
   ⟨_,rfl,hd1,D1,fun x hx=>⟨[],hls x hx,.nil⟩⟩ (fun i σ H' _ zq=>by obtain⟨_,_,_,D,_⟩:=zq;exact aw.of (D.same _ _ h4)) ?_ ?_
  ·rintro i x σ H' hi ⟨x4,rfl,hd',D,hls⟩;obtain⟨t,ht,rfl⟩:=bT hi;obtain⟨dr,hdr,hat⟩:=Paired.getL hds ht;have hat':=hat.kt (ac.kt D.same);have hat2:=hat';obtain⟨s,ht2,hs2⟩:=hat';have hmem:dr.a∈ps.map (·.1):=by rw[hps];exact hin dr (a_ hdr)
   obtain⟨⟨r,a⟩,hra,er⟩:=aT.mp hmem;obtain rfl:r=dr.a:=er;obtain⟨us,hus,hdo⟩:=hls _ hra;have hil:i<ds.length:=(bJ.mp hdr).1;have hlu:us.length<=9000:=by
    rw[Paired.length hdo];refine bq (eL _ _) ?_;rw[aI];omega
   have KT:jU H' (upd H' a (.lst (us.map V.ref++[.ref t]))):=fA hus;refine⟨_,rfl,_,rfl,.inr (.inl ⟨t,_,0,_,rfl,rfl,be.of ht2,rfl,d,.ref a,rfl,.inl ⟨_,.inr dr.a,.inl hd',rfl,(dU ir D.nd hra).symm⟩,.inl ⟨rfl,_,aw.of hus⟩,_,rfl,a,_,_,rfl,rfl,hus,?_,_,rfl,?_,?_,?_⟩)⟩
   ·rw[ak];exact fw hlu
   ·rw[ag (D.ned _ hra).symm];exact hd'
   ·refine⟨D.nd,D.na,D.fr,D.frd,D.ned,fun b o q=>?_⟩;rw[ag (ae q (D.fr _ hra))];exact D.same _ _ q
   ·intro x hx;have hfl:∀r',bW (ds.take (i+1)) r'=bW (ds.take i) r'++(if dr.a=r' then[dr]else[]):=by
     intro r';unfold bW;rw[take_snoc hdr,nS];congr 1;by_cases c:dr.a=r'
     ·rw[if_pos c];simp[c]
     ·rw[if_neg c];simp[c]
    by_cases c:x.2=a
    ·have ex:=BD D.na hx hra c;subst ex;refine⟨us++[t],?_,?_⟩
     ·show upd H' a _ a=_;rw[aa,ax];rfl
     ·rw[hfl];show da _ _ (bW (ds.take i) dr.a++(if dr.a=dr.a then[dr]else[]))
      rw[if_pos rfl];exact Paired.app (hdo.kt KT) (.cons (hat2.kt KT) .nil)
    ·obtain⟨us',h1,h2⟩:=hls x hx;have hne:¬(dr.a=x.1):=fun z=>by
      have e1:=dU (e:=(Sum.inr:Str->ei)) ir D.nd hra;have e2:=dU (e:=(Sum.inr:Str->ei)) (i:=x.1) (a:=x.2) ir D.nd hx;rw[<-z,e1]at e2;injection e2 with e2;injection e2 with e2;exact c e2.symm
     refine⟨us',by rw[ag c];exact h1,?_⟩;rw[hfl,if_neg hne,d_];exact h2.kt KT
  ·rintro σ H' ⟨x4,rfl,hd',D,hls⟩;rw[ak,Paired.length hds,bj]at hls;exact⟨_,rfl,k d ps H' hps hd' hls D.same⟩
def fh(d:am):Bool:=match d.sg with
 |s::_=>decide (s=("ask":Str))
 |[]=>false
inductive sp_has_asks_alone (vs:List V)(H:Hp)(Q:VK)(E:XK):Prop
 |mk (a:Addr) (us:Ze) (ds:List am):(vs=[.ref a])->(H a=some (.lst (us.map V.ref)))->(da H us ds)->(ds.length<=9000)->((∀d∈ds,d.sg≠[]))->(∀H',ac H H'->Q (.bl (ds.all fh)) H')->sp_has_asks_alone  vs H Q E
theorem mZ{K:Za}{vs:List V}{H:Hp}{Q:VK}{E:XK}(h:sp_has_asks_alone vs H Q E):on K (bN Q) (start oO vs) H:=by
 obtain⟨a,us,ds,rfl,ha,hds,hz,hne,k⟩:=h;refine⟨_,rfl,a,rfl,⟨_,aw.of ha⟩,fun l hl=>?_⟩
 let zI2:Nat->List V->Hp->Prop:=fun i vs H'=>vs=(ds.take i).map (fun d=>V.bl (fh d))/\ac H H'/\H' l=some (.lst vs)
 refine cu (xs:=us.map V.ref) zI2
  ⟨rfl,ac.new hl,aa⟩ (fun i vs H' _ zq=>by obtain⟨_,hS,h'⟩:=zq;exact⟨h',aw.of (hS _ _ ha)⟩) ?_ ?_
 ·rintro vs H' ⟨rfl,hS,h'⟩;rw[ak,Paired.length hds,bj]at h';refine⟨l,ds.map fh,rfl,aw.of (by rw[h',iz];rfl),?_⟩;rw[List.all_map];exact k H' hS
 ·rintro i vs H' x hx hi ⟨rfl,hS,h'⟩;obtain⟨t,ht,rfl⟩:=bT hx;obtain⟨dr,hdr,hat⟩:=Paired.getL hds ht;obtain⟨s,ht2,hs2⟩:=hat.kt (ac.kt hS);have hmem:=a_ hdr;obtain⟨s0,rest,hsg⟩:∃s0 rest,dr.sg=s0::rest:=by
   cases q:dr.sg with
   |nil=>exact absurd q (hne dr hmem)
   |cons x y=>exact⟨x,y,rfl⟩
  unfold SignAt at hs2;rw[hsg]at hs2;refine gN (vI ?_);refine⟨_,rfl,.inr (.inl ⟨t,_,1,_,rfl,rfl,be.of ht2,rfl,.inr (.inl ⟨s,_,0,.str s0,rfl,rfl,be.of hs2,bQ (j:=0) rfl,rfl,h',?_,o9 hi ⟨?_,?_,aa⟩⟩)⟩)⟩
  ·rw[ak,aI];exact fw (by omega)
  ·rw[take_snoc hdr,ax];congr 1;show[V.bl _]=[V.bl _];congr 2;unfold fh;rw[hsg];show decide (V.str s0=V.str _)=decide (s0=_);by_cases c:s0=("ask":Str)
   ·rw[zzr1 c,zzr1 (by rw[c])]
   ·rw[zzr0 c,zzr0 (fun z=>c (by injection z))]
  ·intro b o e;rw[ag (ae e hl)];exact hS _ _ e
def se(x:Str×List Str):TK:=.t [oz x.1,iL x.2]
theorem gv:∀x y:Str×List Str,se x=se y->x=y:=by
 intro x y h;unfold se at h;injection h with h;injection h with h1 h;injection h with h2 h;cases x;cases y;simp only at *;rw[pY h1,jC h2]
theorem kE(x:Str×List Str):(se x).depth<=8:=by
 show max (TK.depth (oz x.1)) (max (TK.depth (iL x.2)) 0)+1<=8;rw[sU];show max 0 (max 1 0)+1<=8
 decide
def bo(ds:List am)(x:Str×List Str):List Str:=(ds.filter fun d=>decide (d.a=x.1/\d.sg=x.2)).map (·.b)
theorem u8(ds:List am)(d:am)(x:Str×List Str):bo (ds++[d]) x=bo ds x++(if(d.a,d.sg)=x then[d.b]else[]):=by
 unfold bo;rw[nS,ax];congr 1;by_cases c:(d.a,d.sg)=x
 ·subst c;simp
 ·rw[if_neg c];have:¬(d.a=x.1/\d.sg=x.2):=fun z=>c (by cases x;simp only at z;rw[z.1,z.2]);simp[List.filter_cons];intro h1 h2;exact this ⟨h1,h2⟩
theorem kg{ds:List am}{x:Str×List Str}(h:∀d∈ds,(d.a,d.sg)≠x):bo ds x=[]:=by
 unfold bo;rw[List.map_eq_nil_iff,List.filter_eq_nil_iff];intro d hd;have:¬(d.a=x.1/\d.sg=x.2):=fun z=>h d hd (by cases x;simp only at z;rw[z.1,z.2]);simp;intro h1 h2;exact this ⟨h1,h2⟩
theorem fQ{ds:List am}{x:Str×List Str}{b:Str}:b∈bo ds x↔(⟨x.1,x.2,b⟩:am)∈ds:=by
 unfold bo;rw[aT];constructor
 ·rintro⟨d,hd,rfl⟩;rw[d9]at hd;obtain⟨h1,h2⟩:=hd;obtain⟨h3,h4⟩:=of_decide_eq_true h2;cases d;simp only at h3 h4;rw[<-h3,<-h4];exact h1
 ·intro h;exact⟨_,d9.mpr ⟨h,zzr1 ⟨rfl,rfl⟩⟩,rfl⟩
structure iu(H:Hp)(g:Addr)(ps:List ((Str×List Str)×Addr))(ds:List am):Prop where
 nd:(ps.map (·.1)).Nodup
 g:H g=some (.dT (dz se ps))
 ls:∀x∈ps,H x.2=some (.lst ((bo ds x.1).map V.str))
 all:∀d∈ds,(d.a,d.sg)∈ps.map (·.1)
theorem iu.same{H H':Hp}{g:Addr}{ps:List ((Str×List Str)×Addr)}{ds:List am}(h:iu H g ps ds)(s:ac H H'):iu H' g ps ds:=⟨h.nd,s _ _ h.g,fun x hx=>s _ _ (h.ls x hx),h.all⟩
inductive mT (vs:List V)(H:Hp)(Q:VK)(E:XK):Prop
 |mk (l4:Addr) (ts:Ze) (ds:List am):(vs=[.ref l4])->(H l4=some (.lst (ts.map V.ref)))->(da H ts ds)->(ds.length<=9000)->(∀(g:Addr) (ps:List ((Str×List Str)×Addr)) (H':Hp),iu H' g ps ds->ac H H'->Q (.ref g) H')->mT  vs H Q E
theorem g0{K:Za}{vs:List V}{H:Hp}{Q:VK}{E:XK}(h:mT vs H Q E):h_ K (bN Q) (start ib vs) H:=by
 obtain⟨l4,ts,ds,rfl,h4,hds,hz,k⟩:=h;refine fun g hg=>?_;refine⟨_,rfl,l4,rfl,⟨_,aw.of (kp h4 hg)⟩,?_⟩
 let zI0:Nat->L2.St->Hp->Prop:=fun i σ H'=>∃x y z,σ=[some (.ref l4),some (.ref g),x,y,z]/\∃ps:List ((Str×List Str)×Addr),DL H H' g ps/\H' g=some (.dT (dz se ps))/\ps.length<=i/\(∀x∈ps,H' x.2=some (.lst ((bo (ds.take i) x.1).map V.str)))/\∀d∈ds.take i,(d.a,d.sg)∈ps.map (·.1)
 refine cw (xs:=ts.map V.ref) zI0
  ⟨_,_,_,rfl,[],⟨by simp,by simp,by simp,hg,by simp,ac.new hg⟩,aa,by simp,by simp,by simp⟩ (fun i σ H' _ zq=>by obtain⟨_,_,_,_,_,D,_⟩:=zq;exact aw.of (D.same _ _ h4)) ?_ ?_
 ·rintro i x σ H' hi ⟨x2,x3,x4,rfl,ps,D,hg',hlen,hls,hall⟩;obtain⟨t,ht,rfl⟩:=bT hi;obtain⟨dr,hdr,hat⟩:=Paired.getL hds ht;have hil:i<ds.length:=(bJ.mp hdr).1;obtain⟨s,ht2,hs2⟩:=hat.kt (ac.kt D.same);refine⟨t,_,rfl,be.of ht2,rfl,_,_,rfl,_,_,rfl,_,_,rfl,rfl,?_⟩;refine⟨_,rfl,.inr (.inr (.inl ⟨rfl,.inr ⟨_,hg'⟩⟩)),_,rfl,_,rfl,(by show 2<=aj;decide),fun kt hkt=>⟨(by show 0<=aj;decide),fun nl hnl=>?_⟩⟩;have S2:ac H' (upd (upd H' kt (.tup [.str dr.a,.ref s])) nl (.lst [])):=(ac.new hkt).trans (ac.new hnl);have hkt2:upd (upd H' kt (.tup [.str dr.a,.ref s])) nl (.lst []) kt=some (.tup [.str dr.a,.ref s]):=kp aa hnl;have hnl2:upd (upd H' kt (.tup [.str dr.a,.ref s])) nl (.lst []) nl=some (.lst []):=aa;have hnlH':H' nl=none:=(ac.new hkt).free hnl;generalize upd (upd H' kt (.tup [.str dr.a,.ref s])) nl (.lst [])=H2 at S2 hkt2 hnl2 ⊢;have htk:eJ H2 (se (dr.a,dr.sg)) (.ref kt):=by
   unfold se eJ;refine⟨kt,_,rfl,hkt2,?_⟩;unfold TKAts;refine⟨_,_,rfl,uq _,?_⟩;unfold TKAts;refine⟨_,_,rfl,SignAt.tk (S2 _ _ hs2),?_⟩;unfold TKAts
   rfl
  have hlk:(dz se ps).length<aj:=fw (by unfold dz;rw[ak];omega);have hgo:∀x,bo (ds.take (i+1)) x=bo (ds.take i) x++(if(dr.a,dr.sg)=x then[dr.b]else[]):=fun x=>by rw[take_snoc hdr,u8]
  have hgl:∀x,(bo (ds.take i) x).length<=9000:=fun x=>by
   unfold bo;rw[ak];refine bq (eL _ _) ?_;rw[aI];omega
  refine⟨g,kt,_,se (dr.a,dr.sg),.ref nl,rfl,rfl,S2 _ _ hg',htk,kE _,hlk,fun v hv=>?_,fun hv=>?_⟩
  ·-- there already
   have hmem:(dr.a,dr.sg)∈ps.map (·.1):=by
    refine Classical.byContradiction fun z=>?_;rw[kH gv z]at hv;cases hv
   obtain⟨⟨r,a⟩,hra,er⟩:=aT.mp hmem;obtain rfl:r=(dr.a,dr.sg):=er;rw[dU gv D.nd hra]at hv;injection hv with hv;subst hv;have hla:=S2 _ _ (hls _ hra);refine⟨.inl ⟨rfl,_,aw.of hla⟩,_,rfl,a,_,_,rfl,rfl,hla,by rw[ak];exact fw (hgl _),_,_,_,rfl,ps,⟨D.nd,D.na,D.fr,D.frd,D.ned,fun b o q=>?_⟩,?_,by omega,?_,?_⟩
   ·rw[ag (ae q (D.fr _ hra))];exact S2 _ _ (D.same _ _ q)
   ·rw[ag (D.ned _ hra).symm];exact S2 _ _ hg'
   ·intro x hx;by_cases c:x.2=a
    ·have ex:=BD D.na hx hra c;subst ex;show upd H2 a _ a=_;rw[aa,hgo,if_pos rfl,ax];rfl
    ·have hne:¬((dr.a,dr.sg)=x.1):=fun z=>by
      have e1:=dU (e:=se) gv D.nd hra;have e2:=dU (e:=se) (i:=x.1) (a:=x.2) gv D.nd hx;rw[<-z,e1]at e2;injection e2 with e2;injection e2 with e2;exact c e2.symm
     rw[ag c,hgo,if_neg hne,d_];exact S2 _ _ (hls x hx)
   ·intro d hd;rw[take_snoc hdr]at hd;rcases bp.mp hd with hd|hd
    ·exact hall d hd
    ·have:d=dr:=by simpa using hd
     rw[this];exact hmem
  ·-- a new list
   have hnew:(dr.a,dr.sg)∉ps.map (·.1):=by
    intro z;obtain⟨⟨r,a⟩,hra,er⟩:=aT.mp z;obtain rfl:r=(dr.a,dr.sg):=er;rw[dU gv D.nd hra]at hv;cases hv
   have hgne:nl≠g:=(ae hg' hnlH').symm;have hnl3:upd H2 g (.dT (dz se ps++[(se (dr.a,dr.sg),.ref nl)])) nl=some (.lst []):=by rw[ag hgne];exact hnl2
   refine⟨.inl ⟨rfl,_,aw.of hnl3⟩,_,rfl,nl,_,_,rfl,rfl,hnl3,(by show 0<aj;decide),_,_,_,rfl,ps++[((dr.a,dr.sg),nl)],?_,?_,?_,?_,?_⟩
   ·refine D.snoc hnew (fun x hx=>ae (hls x hx) hnlH') (D.same.free hnlH') hgne ?_;intro b o q;rw[ag (ae q (D.same.free hnlH')),ag (ae q hg)];exact S2 _ _ (D.same _ _ q)
   ·rw[ag hgne.symm,aa,tG]
   ·rw[aE];show _+1<=_;omega
   ·intro x hx;rcases bp.mp hx with hx|hx
    ·have hne:¬((dr.a,dr.sg)=x.1):=fun z=>hnew (by rw[z];exact aT.mpr ⟨x,hx,rfl⟩);rw[ag (ae (hls x hx) hnlH'),ag (D.ned x hx),hgo,if_neg hne,d_];exact S2 _ _ (hls x hx)
    ·have:x=((dr.a,dr.sg),nl):=by simpa using hx
     subst this;have hnil:bo (ds.take i) (dr.a,dr.sg)=[]:=kg fun d hd z=>hnew (by rw[<-z];exact hall d hd);show upd _ nl _ nl=_;rw[aa,hgo,if_pos rfl,hnil]
     rfl
   ·intro d hd;rw[ax];rw[take_snoc hdr]at hd;rcases bp.mp hd with hd|hd
    ·exact dq _ (hall d hd)
    ·have:d=dr:=by simpa using hd
     rw[this];exact dF _ (by simp)
 ·rintro σ H' ⟨x2,x3,x4,rfl,ps,D,hg',hlen,hls,hall⟩;rw[ak,Paired.length hds,bj]at hls hall;exact⟨_,rfl,k g ps H' ⟨D.nd,hg',hls,hall⟩ D.same⟩
theorem nj:∀{L R:Zb},L.Nodup->(∀y∈L,y∈R)->L.length<=R.length
 |[],_,_,_=>cQ _
 |x::L,R,nd,h=>by
  rw[gM]at nd;have hx:=h x fg;have:=nj (L:=L) (R:=R.erase x) nd.2 fun y hy=>(List.mem_erase_of_ne (fun e:y=x=>nd.1 (by rw[<-e];exact hy))).mpr (h y (ff _ hy));rw[List.length_erase_of_mem hx]at this;have:0<R.length:=List.length_pos_of_mem hx;rw[eG];omega
theorem Reach.in_{ds:List am}{a b:Str}{J5:Zb}(hr:∀d∈ds,d.b∈J5)(h:Reach ds a b):b∈J5:=by
 cases h with
 |one h=>exact hr _ h
 |step r h=>exact hr _ h
inductive uG (vs:List V)(H:Hp)(Q:VK)(E:XK):Prop
 |mk (g:Addr) (room:Str) (ps:List ((Str×List Str)×Addr)) (ds:List am) (J5:Zb):(vs=[.ref g,.str room])->(iu H g ps ds)->((∀d∈ds,d.b∈J5))->(J5.length<=1000)->(∀(d:Addr) (L:Zb) (H':Hp),H' d=some (.dK (aL L))->L.Nodup->(∀w,w∈L↔Reach ds room w)->H d=none->ac H H'->Q (.ref d) H')->uG  vs H Q E
structure EF(H0 H:Hp)(ds:List am)(room:Str)(d w:Addr)(L W:Zb)(open_:Str->Prop):Prop where
 d:H d=some (.dK (aL L))
 w:H w=some (.lst (W.map V.str))
 same:ac H0 H
 nd:L.Nodup
 sound:∀y∈L,Reach ds room y
 wait:∀y∈W,y=room∨y∈L
 closed:∀y,(y=room∨y∈L)->y∉W->¬open_ y->∀c∈bo ds (y,aF),c∈L
theorem pG{K:Za}{st:Addr}(hst:∀H,be K H st (aF.map V.str)){vs:List V}{H:Hp}{Q:VK}{E:XK}(h:uG vs H Q E):qQ K st (bN Q) (start rV vs) H:=by
 obtain⟨g,room,ps,ds,J5,rfl,G,hin,hz,k⟩:=h;refine fun d hd=>?_;refine⟨_,rfl,(by show 1<=aj;decide),fun w hw=>?_⟩;have hwH:H w=none:=(ac.new hd).free hw;have hdw:d≠w:=ae aa hw;refine⟨fun m σ H'=>∃(L W:Zb) (x y:Option V),σ=[some (.ref g),some (.str room),some (.ref d),some (.ref w),x,y]/\EF H H' ds room d w L W (fun _=>False)/\m=2 * (J5.length-L.length)+W.length/\m<=2 * J5.length+1,
  ⟨_,[],[room],_,_,rfl,⟨kp aa hw,aa,(ac.new hd).trans (ac.new hw),n8,by simp,by simp,?_⟩,rfl,aG _⟩,?_⟩
 ·intro y hy hn;rcases hy with rfl|hy
  ·simp at hn
  ·cases hy
 rintro m σ H1 ⟨L,W,x4,x5,rfl,D,rfl,hbound⟩;have lenL:∀{L':Zb},L'.Nodup->(∀y∈L',Reach ds room y)->L'.length<=J5.length:=fun nd sd=>nj nd fun y hy=>(sd y hy).in_ hin;refine⟨_,rfl,.inl ⟨w,_,rfl,.inl (aw.of D.w),_,_,rfl,rfl,_,rfl,?_⟩⟩;refine nB (fun hpos=>?_) (fun hpos=>?_)
 ·have hne:W≠[]:=by
   intro z;rw[z]at hpos;exact absurd (of_decide_eq_true hpos) (by decide)
  obtain⟨W',here,rfl⟩:∃W' here,W=W'++[here]:=⟨W.dropLast,W.getLast hne,(List.dropLast_concat_getLast hne).symm⟩;have hhere:here=room∨here∈L:=D.wait here (by simp);refine⟨fun σ' H'=>∃(L' W2:Zb) (x y:Option V),σ'=[some (.ref g),some (.str room),some (.ref d),some (.ref w),x,y]/\EF H H' ds room d w L' W2 (fun _=>False)/\2 * (J5.length-L'.length)+W2.length<2 * (J5.length-L.length)+(W'++[here]).length,
   fun σ' H' ⟨L',W2,x,y,e,D',hm⟩=>⟨_,hm,L',W2,x,y,e,D',rfl,by omega⟩,?_⟩
  have hlast:((W'++[here]).map V.str)[((W'++[here]).map V.str).length-1]?=some (.str here):=by simp
  have hdrop:((W'++[here]).map V.str).dropLast=W'.map V.str:=by rw[ax];simp
  refine⟨_,rfl,.inl ⟨rfl,_,aw.of D.w⟩,w,_,_,rfl,rfl,D.w,hlast,?_⟩;rw[hdrop];have hd1:upd H1 w (.lst (W'.map V.str)) d=some (.dK (aL L)):=by rw[ag hdw];exact D.d
  have hw1:upd H1 w (.lst (W'.map V.str)) w=some (.lst (W'.map V.str)):=aa;have S1:ac H (upd H1 w (.lst (W'.map V.str))):=fun b o q=>by rw[ag (ae q hwH)];exact D.same _ _ q
  generalize upd H1 w (.lst (W'.map V.str))=H2 at hd1 hw1 S1 ⊢;have G2:=G.same S1;refine⟨_,rfl,g,rfl,.inr ⟨_,.inl G2.g⟩,_,rfl,(by show 2<=aj;decide),fun kt hkt=>⟨(by show 0<=aj;decide),fun et het=>⟨bU (dz se ps) (se (here,aF)),.inr ⟨_,se (here,aF),kt,.inl ?_,rfl,?_,kE _,rfl⟩,?_⟩⟩⟩
  ·exact kp (kp G2.g hkt) het
  ·unfold se nL;refine⟨kt,_,rfl,be.of (kp aa het),?_⟩;unfold TKIns;refine⟨_,_,rfl,?_,?_⟩
   ·unfold oz nL;rfl
   unfold TKIns;refine⟨_,_,rfl,?_,?_⟩
   ·unfold iL nL;refine⟨st,_,rfl,hst _,?_⟩;unfold aF;show TKIns K _ [oz _] [V.str _];unfold TKIns;refine⟨_,_,rfl,?_,?_⟩
    ·unfold oz nL;rfl
    unfold TKIns;rfl
   unfold TKIns;rfl
  have S3:ac H2 (upd (upd H2 kt (.tup [.str here,.ref st])) et (.tup [])):=(ac.new hkt).trans (ac.new het);have het3:upd (upd H2 kt (.tup [.str here,.ref st])) et (.tup []) et=some (.tup []):=aa;generalize upd (upd H2 kt (.tup [.str here,.ref st])) et (.tup [])=H3 at S3 het3 ⊢;have D3:EF H H3 ds room d w L W' (fun y=>y=here):=⟨S3 _ _ hd1,S3 _ _ hw1,S1.trans S3,D.nd,D.sound,fun y hy=>D.wait y (dq _ hy),fun y hy hn ho=>D.closed y hy (fun z=>by rcases bp.mp z with z|z;exact hn z;exact ho (by simpa using z)) (fun z=>z)⟩;have hm3:2 * (J5.length-L.length)+W'.length<2 * (J5.length-L.length)+(W'++[here]).length:=by rw[aE];show _<_+(_+1);omega
  have fin:∀(H4:Hp) (L' W2:Zb) (x y:Option V),EF H H4 ds room d w L' W2 (fun y=>y=here)->(∀c∈bo ds (here,aF),c∈L')->2 * (J5.length-L'.length)+W2.length<2 * (J5.length-L.length)+(W'++[here]).length ->
    ∃(L' W2:Zb) (x' y':Option V),[some (V.ref g),some (.str room),some (.ref d),some (.ref w),x,y]=[some (.ref g),some (.str room),some (.ref d),some (.ref w),x',y']/\EF H H4 ds room d w L' W2 (fun _=>False)/\2 * (J5.length-L'.length)+W2.length<2 * (J5.length-L.length)+(W'++[here]).length:=by
   intro H4 L' W2 x y D4 hc hm;refine⟨L',W2,x,y,rfl,⟨D4.d,D4.w,D4.same,D4.nd,D4.sound,D4.wait,fun y hy hn _=>?_⟩,hm⟩;by_cases e:y=here
   ·rw[e];exact hc
   ·exact D4.closed y hy hn e
  by_cases hmem:(here,aF)∈ps.map (·.1)
  ·obtain⟨⟨r,a⟩,hra,er⟩:=aT.mp hmem;obtain rfl:r=(here,aF):=er;rw[dU gv G.nd hra];have hla:=G.ls _ hra;refine⟨a,rfl,.inl ⟨⟨_,aw.of ((S1.trans S3) _ _ hla)⟩,?_⟩⟩
   let zI0:Nat->L2.St->Hp->Prop:=fun j σ H'=>Ew fun(L' W2:Zb) (y:Option V)=>ED (σ=[some (.ref g),some (.str room),some (.ref d),some (.ref w),some (.str here),y]) (EF H H' ds room d w L' W2 (fun y=>y=here)) ((here=room∨here∈L')) ((∀c∈(bo ds (here,aF)).take j,c∈L')) (2 * (J5.length-L'.length)+W2.length<2 * (J5.length-L.length)+(W'++[here]).length)
   refine cw (xs:=(bo ds (here,aF)).map V.str) zI0
    ⟨L,W',_,rfl,D3,hhere,by simp,hm3⟩ (fun j σ H' _ zq=>by obtain⟨_,_,_,_,D',_,_,_⟩:=zq;exact aw.of (D'.same _ _ hla)) ?_ ?_
   ·rintro j x σ H4 hj ⟨L',W2,y,rfl,D4,hh,hc,hm⟩;obtain⟨goal,hgoal,rfl⟩:=b_ hj;have hedge:(⟨here,aF,goal⟩:am)∈ds:=fQ.mp (a_ hgoal);have hreach:Reach ds room goal:=by
     rcases hh with hh|hh
     ·rw[hh]at hedge;exact .one hedge
     ·exact .step (D4.sound _ hh) hedge
    have hlen':=lenL D4.nd D4.sound;refine⟨_,rfl,_,rfl,d,_,rfl,.inl ⟨_,.inr goal,.inl D4.d,rfl,rfl⟩,_,rfl,?_⟩;rw[dW];by_cases c:goal∈L'
    ·rw[zzr1 c];refine aU ⟨L',W2,_,rfl,D4,hh,?_,hm⟩;intro c' hc';rw[take_snoc hgoal]at hc';rcases bp.mp hc' with h|h
     ·exact hc c' h
     ·have:c'=goal:=by simpa using h
      rw[this];exact c
    ·rw[zzr0 c];refine cr ?_;have nd':(L'++[goal]).Nodup:=by
      rw[cB];refine⟨D4.nd,by simp,fun a ha b hb e=>?_⟩;have:b=goal:=by simpa using hb
      exact c (by rw[<-this,<-e];exact ha)
     have sd':∀y∈L'++[goal],Reach ds room y:=by
      intro y hy;rcases bp.mp hy with hy|hy
      ·exact D4.sound y hy
      ·have:y=goal:=by simpa using hy
       rw[this];exact hreach
     have hlen2:=lenL nd' sd';rw[aE]at hlen2;have hlen3:L'.length+1<=J5.length:=hlen2;have hWl:W2.length<=9000:=by omega
     refine⟨_,rfl,_,rfl,d,_,rfl,.inl ⟨_,.inr goal,D4.d,rfl,ao (bq (jB _) (by omega)),rfl⟩,?_⟩;have hw5:upd H4 d (.dK (eh (aL L') (.inr goal) (.bl true))) w=some (.lst (W2.map V.str)):=by rw[ag hdw.symm];exact D4.w
     refine⟨_,rfl,.inl ⟨rfl,_,aw.of hw5⟩,_,rfl,w,_,_,rfl,rfl,hw5,by rw[ak];exact fw hWl,L'++[goal],W2++[goal],_,rfl,⟨?_,?_,?_,nd',sd',?_,?_⟩,?_,?_,?_⟩
     ·rw[ag hdw,aa,c_]
     ·rw[aa,ax];rfl
     ·intro b o q;rw[ag (ae q hwH),ag (ae q hd)];exact D4.same _ _ q
     ·intro y hy;rcases bp.mp hy with hy|hy
      ·rcases D4.wait y hy with h|h
       ·exact .inl h
       ·exact .inr (dq _ h)
      ·exact .inr (dF _ hy)
     ·intro y hy hn ho c' hc';have hn1:y∉W2:=fun z=>hn (dq _ z);have hyg:y≠goal:=fun z=>hn (dF _ (by simp[z]));refine dq _ (D4.closed y ?_ hn1 ho c' hc');rcases hy with hy|hy
      ·exact .inl hy
      ·rcases bp.mp hy with hy|hy
       ·exact .inr hy
       ·exact absurd (by simpa using hy) hyg
     ·rcases hh with h|h
      ·exact .inl h
      ·exact .inr (dq _ h)
     ·intro c' hc';rw[take_snoc hgoal]at hc';rcases bp.mp hc' with h|h
      ·exact dq _ (hc c' h)
      ·exact dF _ h
     ·rw[aE,aE];show 2 * (J5.length-(L'.length+1))+(W2.length+1)<_;omega
   ·rintro σ H4 ⟨L',W2,y,rfl,D4,hh,hc,hm⟩;rw[ak,bj]at hc;exact fin H4 L' W2 _ _ D4 hc hm
  ·rw[kH gv hmem];refine⟨et,rfl,.inr ⟨⟨_,be.of het3⟩,?_⟩⟩;have hnil:bo ds (here,aF)=[]:=kg fun x hx z=>hmem (by rw[<-z];exact G.all x hx)
   let zI0:Nat->L2.St->Hp->Prop:=fun j σ H'=>σ=[some (.ref g),some (.str room),some (.ref d),some (.ref w),some (.str here),x5]/\H'=H3
   refine zA (xs:=[]) zI0 ⟨rfl,rfl⟩ (fun j σ H' _ zq=>by obtain⟨_,e⟩:=zq;exact by rw[e];exact be.of het3) (fun j x σ H' hj=>by cases hj) ?_;rintro σ H' ⟨rfl,rfl⟩;exact fin _ L W' _ _ D3 (by rw[hnil];simp) hm3
 ·have hnil:W=[]:=by
   cases W with
   |nil=>rfl
   |cons a W=>exact absurd (zzr1 (by rw[ak,eG];omega)) hpos
  subst hnil;refine⟨_,rfl,k d L H1 D.d D.nd (fun w=>⟨D.sound w,fun hr=>?_⟩) hd D.same⟩
  induction hr with
  |one h=>exact D.closed room (.inl rfl) (by simp) (fun z=>z) _ (fQ.mpr h)
  |step r h ih=>exact D.closed _ (.inr ih) (by simp) (fun z=>z) _ (fQ.mpr h)
inductive sp_first_led_round (vs:List V)(H:Hp)(Q:VK)(E:XK):Prop
 |mk (l3 d:Addr) (J5:Zb) (ps:List (Str×Addr)):(vs=[.ref l3,.ref d])->(H l3=some (.lst (J5.map V.str)))->(H d=some (.dK (dz Sum.inr ps)))->(ps.map (·.1)=J5)->(J5.Nodup)->((∀x∈ps,∃L,H x.2=some (.dK (aL L))/\x.1∉L))->(∀H',ac H H'->Q .non H')->sp_first_led_round  vs H Q E
theorem lS{K:Za}{vs:List V}{H:Hp}{Q:VK}{E:XK}(h:sp_first_led_round vs H Q E):mJ K (bN Q) (start nM vs) H:=by
 obtain⟨l3,d,J5,ps,rfl,h3,hd,hps,nod,hL,k⟩:=h;refine⟨_,rfl,l3,rfl,⟨_,aw.of h3⟩,?_⟩
 let zI0:Nat->L2.St->Hp->Prop:=fun i σ H'=>∃x y,σ=[some (.ref l3),some (.ref d),x,y]/\ac H H'
 refine kh (xs:=J5.map V.str) zI0 ⟨_,_,rfl,ac.refl H⟩ (fun i σ H' _ zq=>by obtain⟨_,_,_,S⟩:=zq;exact aw.of (S _ _ h3)) ?_ ?_
 ·rintro i x σ H' t hi ⟨x2,x3,rfl,S⟩ ht;obtain⟨w,hw,rfl⟩:=b_ hi;refine⟨t,_,rfl,be.of aa,rfl,_,_,rfl,_,_,rfl,rfl,?_⟩;have S2:ac H (upd H' t (.tup [.int i,.str w])):=S.trans (ac.new ht);generalize upd H' t (.tup [.int i,.str w])=H2 at S2 ⊢;have hmem:w∈ps.map (·.1):=by rw[hps];exact a_ hw
  obtain⟨⟨r,a⟩,hra,er⟩:=aT.mp hmem;obtain rfl:r=w:=er;obtain⟨L,hLa,hn⟩:=hL _ hra;refine⟨_,rfl,_,rfl,_,rfl,d,.ref a,rfl,.inl ⟨_,.inr r,.inl (S2 _ _ hd),rfl,(dU ir (by rw[hps];exact nod) hra).symm⟩,a,_,rfl,.inl ⟨_,.inr r,.inl (S2 _ _ hLa),rfl,rfl⟩,_,rfl,?_⟩;rw[dW,zzr0 hn];exact aU ⟨_,_,rfl,S2⟩
 ·rintro σ H' ⟨x,y,rfl,S⟩;exact k H' S
abbrev lk(f:Str)(fs:List (Str×V)):Option V:=fs.lookup f
def eP(ds:List am)(r:Str):Bool:=(bW ds r).all fh
structure cj(C:Addr)(H:Hp)(x:Addr)(J0 J4 J5:Zb)(ds:List am):Prop where
 at_:∃(dx:Addr) (fs:List (Str×V)) (o1 o2 o3 o4 lv qu sg sl:Addr) (ts:Ze) (lps:List (Str×Addr)) (gps:List ((Str×List Str)×Addr)) (sps:List (Str×Addr)),
  H x=some (.ins C dx fs)/\lk "is_quiet" fs=none/\lk "goals" fs=none/\lk "led_from" fs=none/\lk "rooms" fs=none /\
  lk "own_asks" fs=some (.ref o1)/\lk "own_says" fs=some (.ref o2)/\lk "own_rooms" fs=some (.ref o3)/\lk "own_doors" fs=some (.ref o4) /\
  lk "leaving" fs=some (.ref lv)/\lk "quiet" fs=some (.ref qu)/\lk "sign_goals" fs=some (.ref sg)/\lk "still_led" fs=some (.ref sl) /\
  Lists H o1 o2 o3 o4 ts J0 J4 J5 ds /\
  lps.map (·.1)=J5/\H lv=some (.dK (dz Sum.inr lps))/\(∀x∈lps,∃us,H x.2=some (.lst (us.map V.ref))/\da H us (bW ds x.1)) /\
  H qu=some (.dK (aL (J5.filter (eP ds))))/\iu H sg gps ds /\
  sps.map (·.1)=J5/\H sl=some (.dK (dz Sum.inr sps))/\(∀x∈sps,∃L,H x.2=some (.dK (aL L))/\L.Nodup/\∀w,w∈L↔Reach ds x.1 w)
 ok:bC J0 J4 J5 ds
 more:∃(dx:Addr) (fs:List (Str×V)),H x=some (.ins C dx fs)/\lk "asks" fs=none/\lk "says" fs=none/\lk "doors" fs=none/\lk "doors_from" fs=none
theorem dw(f:Str)(v:V):∀fs:List (Str×V),(cf f v fs).length<=fs.length+1
 |[]=>aG _
 | (g,x)::r=>by
  unfold cf;split
  ·exact yD _
  ·rw[eG,eG];have:=dw f v r;omega
theorem rD:∀(ps qs:List (Str×Addr)),((qs++ps).map (·.1)).Nodup->iG (dz Sum.inr qs) (dz Sum.inr ps)=dz Sum.inr (qs++ps)
 |[],qs,_=>by rw[d_];rfl
 |p::ps,qs,nd=>by
  show iG (eh (dz Sum.inr qs) (Sum.inr p.1) (.ref p.2)) (dz Sum.inr ps)=_;have e:qs++p::ps=(qs++[p])++ps:=by simp
  rw[e]at nd ⊢;have hnew:p.1∉qs.map (·.1):=by
   rw[ax,ax,cB]at nd;have:=nd.1;rw[cB]at this;intro z;exact this.2.2 _ z _ (by simp) rfl
  rw[g6 _ (kH ir hnew)];have:=rD ps (qs++[p]) nd;rw[<-this];have e2:dz (Sum.inr:Str->ei) (qs++[p])=dz Sum.inr qs++[(Sum.inr p.1,V.ref p.2)]:=by
   unfold dz;rw[ax];rfl
  rw[e2]
inductive pT(C:Addr)(vs:List V)(H:Hp)(Q:VK)(E:XK):Prop
 |mk (x dx l1 l2 l3 l4:Addr) (ts:Ze) (J0 J4 J5:Zb) (ds:List am):(vs=[.ref x,.ref l1,.ref l2,.ref l3,.ref l4])->(H x=some (.ins C dx []))->(Lists H l1 l2 l3 l4 ts J0 J4 J5 ds)->(bC J0 J4 J5 ds)->(∀H',cj C H' x J0 J4 J5 ds->c6 x H H'->Q .non H')->pT C vs H Q E
theorem Lists.exI{H H':Hp}{x C dx:Addr}{fs:List (Str×V)}{l1 l2 l3 l4:Addr}{ts:Ze}{J0 J4 J5:Zb}{ds:List am}(h:Lists H l1 l2 l3 l4 ts J0 J4 J5 ds)(hx:H x=some (.ins C dx fs))(e:c6 x H H'):Lists H' l1 l2 l3 l4 ts J0 J4 J5 ds:=by
 have ne:∀{b:Addr}{xs:List V},H b=some (.lst xs)->b≠x:=fun hb z=>by rw[z,hx]at hb;cases hb
 exact⟨e _ _ h.a1 (ne h.a1),e _ _ h.a2 (ne h.a2),e _ _ h.a3 (ne h.a3),e _ _ h.a4 (ne h.a4),h.ds.kt fun b xs hb=>e _ _ hb fun z=>by rw[z,hx]at hb;cases hb⟩
theorem c6.ktI{H H':Hp}{x C dx:Addr}{fs:List (Str×V)}(e:c6 x H H')(hx:H x=some (.ins C dx fs)):jU H H':=fun b xs hb=>e _ _ hb fun z=>by rw[z,hx]at hb;cases hb
theorem c6.neI{H:Hp}{x C dx:Addr}{fs:List (Str×V)}(hx:H x=some (.ins C dx fs)){b:Addr}{xs:List V}(hb:H b=some (.lst xs)):b≠x:=fun z=>by rw[z,hx]at hb;cases hb
theorem BC{H:Hp}{x C dx:Addr}{fs:List (Str×V)}(hx:H x=some (.ins C dx fs)){b:Addr}{kvs:List (ei×V)}(hb:H b=some (.dK kvs)):b≠x:=fun z=>by rw[z,hx]at hb;cases hb
theorem Dz{H:Hp}{x C dx:Addr}{fs:List (Str×V)}(hx:H x=some (.ins C dx fs)){b:Addr}{kvs:List (TK×V)}(hb:H b=some (.dT kvs)):b≠x:=fun z=>by rw[z,hx]at hb;cases hb
structure MC(K:Za)(C:Addr):Prop where
 cls:zU K C
 a1:dk K C "own_asks"
 a2:dk K C "own_says"
 a3:dk K C "own_rooms"
 a4:dk K C "own_doors"
 a5:dk K C "leaving"
 a6:dk K C "quiet"
 a7:dk K C "sign_goals"
 a8:dk K C "still_led"
theorem oI{H:Hp}{x C dx:Addr}{fs:List (Str×V)}(f:Str)(y:V)(hx:H x=some (.ins C dx fs)):∃H',H'=upd H x (.ins C dx (cf f y fs))/\H' x=some (.ins C dx (cf f y fs))/\c6 x H H' :=
 ⟨_,rfl,aa,c6.upd _ _ _⟩
theorem ck{p:Str->Bool}{ws:Zb}{i:Nat}{w:Str}(h:ws[i]?=some w):(ws.take (i+1)).filter p=(ws.take i).filter p++(if p w=true then[w]else[]):=by
 rw[take_snoc h,nS];congr 1;by_cases c:p w=true
 ·rw[if_pos c];simp[c]
 ·rw[if_neg c];simp[c]
theorem xS(ds:List am)(r:Str):(bW ds r).length<=ds.length:=eL _ _
theorem bC.sg0{J0 J4 J5:Zb}{ds:List am}(m:bC J0 J4 J5 ds){r:Str}:∀d∈bW ds r,d.sg≠[]:=by
 intro d hd;have:=m.good d (d9.mp hd).1;rcases this.sg with⟨w,_,e⟩|⟨w,_,e⟩|e<;>rw[e]<;>exact List.cons_ne_nil _ _
theorem CI{K:Za}{C:Addr}(M:MC K C){vs:List V}{H:Hp}{Q:VK}{E:XK}(h:pT C vs H Q E):
  lN K sp_need_none sp_first_led_round uG mT (sp_as_keys K) sp_has_asks_alone sp_doors_by_start sp_need_parts (bN Q) (start ml vs) H:=by
 obtain⟨x,dx,l1,l2,l3,l4,ts,J0,J4,J5,ds,rfl,hx,L,m,k⟩:=h;have z3:=m.rooms26;have z4:=m.few;refine⟨_,rfl,_,rfl,_,rfl,_,rfl,l1,l2,l3,l4,ts,J0,J4,J5,ds,rfl,L,m,fun H1 S1=>?_⟩;have hx1:=S1 _ _ hx;have L1:=L.same S1;have E1:c6 x H H1:=ac.exB S1;refine⟨_,rfl,.inl ⟨l1,_,rfl,.inl (aw.of L1.a1),fun o1 ho1=>⟨_,rfl,x,C,dx,_,rfl,kp hx1 ho1,M.cls,M.a1,(by show 0<1000;decide),?_⟩⟩⟩;obtain⟨H2,e2,hx2,F2⟩:=oI "own_asks" (.ref o1) (kp (x:=.lst (J0.map V.str)) hx1 ho1);rw[<-e2];have n1:o1≠x:=(ae hx1 ho1).symm;have f1:=F2 _ _ aa n1;have E2:c6 x H1 H2:=(c6.new ho1).trans F2;have L2':=L1.exI hx1 E2;have len2:(cf ("own_asks":Str) (.ref o1) []).length<=1:=dw _ _ _;clear e2 F2;refine⟨_,rfl,.inl ⟨l2,_,rfl,.inl (aw.of L2'.a2),fun o2 ho2=>⟨_,rfl,x,C,dx,_,rfl,kp hx2 ho2,M.cls,M.a2,by omega,?_⟩⟩⟩;obtain⟨H3,e3,hx3,F3⟩:=oI "own_says" (.ref o2) (kp (x:=.lst (J4.map V.str)) hx2 ho2);rw[<-e3];have n2:o2≠x:=(ae hx2 ho2).symm;have f2:=F3 _ _ aa n2;have E3:c6 x H2 H3:=(c6.new ho2).trans F3;have L3:=L2'.exI hx2 E3;have len3:=dw ("own_says":Str) (.ref o2) (cf ("own_asks":Str) (.ref o1) []);clear e3 F3;refine⟨_,rfl,.inl ⟨l3,_,rfl,.inl (aw.of L3.a3),fun o3 ho3=>⟨_,rfl,x,C,dx,_,rfl,kp hx3 ho3,M.cls,M.a3,by omega,?_⟩⟩⟩;obtain⟨H4,e4,hx4,F4⟩:=oI "own_rooms" (.ref o3) (kp (x:=.lst (J5.map V.str)) hx3 ho3);rw[<-e4];have n3:o3≠x:=(ae hx3 ho3).symm;have f3:=F4 _ _ aa n3;have E4:c6 x H3 H4:=(c6.new ho3).trans F4;have L4:=L3.exI hx3 E4;have len4:=dw ("own_rooms":Str) (.ref o3) (cf ("own_says":Str) (.ref o2) (cf ("own_asks":Str) (.ref o1) []));clear e4 F4;refine⟨_,rfl,.inl ⟨l4,_,rfl,.inl (aw.of L4.a4),fun o4 ho4=>⟨_,rfl,x,C,dx,_,rfl,kp hx4 ho4,M.cls,M.a4,by omega,?_⟩⟩⟩;obtain⟨H5,e5,hx5,F5⟩:=oI "own_doors" (.ref o4) (kp (x:=.lst (ts.map V.ref)) hx4 ho4);rw[<-e5];have n4:o4≠x:=(ae hx4 ho4).symm;have f4:=F5 _ _ aa n4;have E5:c6 x H4 H5:=(c6.new ho4).trans F5;have L5:=L4.exI hx4 E5;generalize hfs4:cf ("own_doors":Str) (.ref o4) (cf ("own_rooms":Str) (.ref o3) (cf ("own_says":Str) (.ref o2) (cf ("own_asks":Str) (.ref o1) [])))=fs4 at hx5;have len5:fs4.length<=4:=by
  rw[<-hfs4];have:=dw ("own_doors":Str) (.ref o4) (cf ("own_rooms":Str) (.ref o3) (cf ("own_says":Str) (.ref o2) (cf ("own_asks":Str) (.ref o1) [])));omega
 clear e5 F5;refine⟨_,rfl,_,rfl,l3,l4,ts,J5,ds,rfl,L5.a3,L5.a4,L5.ds,m.okR.1,by omega,by omega,fun d hd=>(m.good d hd).a,fun lv lps H6' hlps flv' hlv' S6=>⟨_,rfl,x,C,dx,fs4,rfl,S6 _ _ hx5,M.cls,M.a5,by omega,?_⟩⟩;obtain⟨H6,e6,hx6,F6⟩:=oI "leaving" (.ref lv) (S6 _ _ hx5);rw[<-e6];have E6:c6 x H5 H6:=(ac.exB S6).trans F6;have L6:=L5.exI hx5 E6;have flv:=F6 _ _ flv' (BC (S6 _ _ hx5) flv');have hlv:∀y∈lps,∃us,H6 y.2=some (.lst (us.map V.ref))/\da H6 us (bW ds y.1):=fun y hy=>by
  obtain⟨us,g1,g2⟩:=hlv' y hy;exact⟨us,F6 _ _ g1 (c6.neI (S6 _ _ hx5) g1),g2.kt (F6.ktI (S6 _ _ hx5))⟩
 have ndl:(lps.map (·.1)).Nodup:=by rw[hlps];exact m.okR.1
 have len6:=dw ("leaving":Str) (.ref lv) fs4;have lk5:lk "leaving" (cf ("leaving":Str) (.ref lv) fs4)=some (.ref lv):=by
  show jN _ _=_;rw[dP,if_pos rfl]
 clear e6 F6 flv' hlv';refine⟨_,rfl,l3,rfl,⟨_,aw.of L6.a3⟩,fun f hf=>?_⟩
 let zI0:Nat->List V->Hp->Prop:=fun i vs H'=>vs=((J5.take i).filter (eP ds)).map V.str/\ac H6 H'/\H' f=some (.lst vs)
 refine cu (xs:=J5.map V.str) zI0 ⟨rfl,ac.new hf,aa⟩ (fun i vs H' _ zq=>by obtain⟨_,S,h'⟩:=zq;exact⟨h',aw.of (S _ _ L6.a3)⟩) ?_ ?_;rotate_left
 ·rintro i vs H' x' hx' hi ⟨rfl,S,f'⟩;obtain⟨r,hr,rfl⟩:=b_ hx';obtain⟨⟨r',a⟩,hra,er⟩:=aT.mp (show r∈lps.map (·.1) by rw[hlps];exact a_ hr);obtain rfl:r'=r:=er;obtain⟨us,hus,hdo⟩:=hlv _ hra;refine gN ?_;refine⟨_,rfl,x,C,dx,_,.ref lv,rfl,S _ _ hx6,M.cls,M.a5,lk5,_,rfl,lv,.ref a,rfl,.inl ⟨_,.inr r',.inl (S _ _ flv),rfl,(dU ir ndl hra).symm⟩,a,us,bW ds r',rfl,S _ _ hus,hdo.kt (ac.kt S),bq (xS _ _) (by omega),m.sg0,fun H'' S''=>⟨_,rfl,?_⟩⟩;have hlen:(((J5.take i).filter (eP ds)).map V.str).length<aj:=by
   rw[ak];refine ao (bq (eL _ _) ?_);rw[aI];omega
  refine nB (fun hq=>?_) (fun hq=>?_)
  ·refine⟨_,rfl,S'' _ _ f',hlen,o9 hi ⟨?_,?_,aa⟩⟩
   ·rw[ck hr,if_pos (show eP ds r'=true from hq),ax];rfl
   ·intro b o q;rw[ag (ae q hf)];exact S'' _ _ (S _ _ q)
  ·refine o9 hi ⟨?_,S.trans S'',?_⟩
   ·rw[ck hr,if_neg (show ¬eP ds r'=true from hq),d_]
   ·exact S'' _ _ f'
 rintro vs H7' ⟨rfl,S7,f7⟩;rw[ak,bj]at f7;refine oJ (ws:=J5.filter (eP ds)) (aw.of f7) (bq (eL _ _) (by omega)) fun qu hqu=>⟨_,rfl,x,C,dx,_,rfl,kp (S7 _ _ hx6) hqu,M.cls,M.a6,by omega,?_⟩;obtain⟨H7,e7,hx7,F7⟩:=oI "quiet" (.ref qu) (kp (x:=.dK (aL (J5.filter (eP ds)))) (S7 _ _ hx6) hqu);rw[<-e7];have n7:qu≠x:=(ae (S7 _ _ hx6) hqu).symm;have fqu:=F7 _ _ aa n7;have E7:c6 x H6 H7:=((ac.exB S7).trans (c6.new hqu)).trans F7;have L7:=L6.exI hx6 E7;have len7:=dw ("quiet":Str) (.ref qu) (cf ("leaving":Str) (.ref lv) fs4);clear e7 F7;refine⟨_,rfl,l4,ts,ds,rfl,L7.a4,L7.ds,by omega,fun sg gps H8' G' S8=>⟨_,rfl,x,C,dx,_,rfl,S8 _ _ hx7,M.cls,M.a7,by omega,?_⟩⟩;obtain⟨H8,e8,hx8,F8⟩:=oI "sign_goals" (.ref sg) (S8 _ _ hx7);rw[<-e8];have E8:c6 x H7 H8:=(ac.exB S8).trans F8;have L8:=L7.exI hx7 E8;have G8:iu H8 sg gps ds:=⟨G'.nd,F8 _ _ G'.g (Dz (S8 _ _ hx7) G'.g),fun y hy=>F8 _ _ (G'.ls y hy) (c6.neI (S8 _ _ hx7) (G'.ls y hy)),G'.all⟩;have len8:=dw ("sign_goals":Str) (.ref sg) (cf ("quiet":Str) (.ref qu) (cf ("leaving":Str) (.ref lv) fs4));have lk7:lk "sign_goals" (cf ("sign_goals":Str) (.ref sg) (cf ("quiet":Str) (.ref qu) (cf ("leaving":Str) (.ref lv) fs4)))=some (.ref sg):=by
  show jN _ _=_;rw[dP,if_pos rfl]
 clear e8 F8 G';refine⟨_,rfl,l3,rfl,⟨_,aw.of L8.a3⟩,fun f2' hf2=>?_⟩
 let zI1:Nat->List V->Hp->Prop:=fun i vs H'=>Ex fun(us:Ze) (pl:List (Str×Addr))=>FB (vs=us.map V.ref) (Paired (fun t (p:Str×Addr)=>H' t=some (.tup [.str p.1,.ref p.2])) us pl) (pl.map (·.1)=J5.take i) ((∀p∈pl,∃L,H' p.2=some (.dK (aL L))/\L.Nodup/\∀w,w∈L↔Reach ds p.1 w)) (ac H8 H') (H' f2'=some (.lst vs))
 refine cu (xs:=J5.map V.str) zI1
  ⟨[],[],rfl,.nil,rfl,by simp,ac.new hf2,aa⟩ (fun i vs H' _ zq=>by obtain⟨_,_,_,_,_,_,S,h'⟩:=zq;exact⟨h',aw.of (S _ _ L8.a3)⟩) ?_ ?_
 rotate_left
 ·rintro i vs H' x' hx' hi ⟨us,pl,rfl,hpa,hpl,hle,S,f'⟩;obtain⟨r,hr,rfl⟩:=b_ hx';have hilen:us.length<=150:=by
   rw[Paired.length hpa,<-ak (f:=(·.1)) (as:=pl),hpl,aI];omega
  refine gN (vI ?_);refine⟨_,rfl,_,rfl,x,C,dx,_,.ref sg,rfl,S _ _ hx8,M.cls,M.a7,lk7,_,rfl,sg,r,gps,ds,J5,rfl,G8.same S,fun d hd=>(m.good d hd).b,by omega,fun ld Lr H'' hld nd hLr hfr S''=>⟨(by show 2<=aj;decide),fun t ht=>⟨?_,?_,o9 hi ⟨us++[t],pl++[(r,ld)],?_,?_,?_,?_,?_,aa⟩⟩⟩⟩
  ·exact kp (S'' _ _ f') ht
  ·rw[ak];exact ao (by omega)
  ·rw[ax];rfl
  ·have KT:jU (upd H'' t (.tup [.str r,.ref ld])) (upd (upd H'' t (.tup [.str r,.ref ld])) f2' (.lst (us.map V.ref++[.ref t]))):=fA (kp (S'' _ _ f') ht);exact Paired.app (Paired.mapP hpa fun t' p' e=>KT _ _ (kp (S'' _ _ e) ht)) (.cons (KT _ _ aa) .nil)
  ·rw[ax,hpl,take_snoc hr];rfl
  ·have ned:∀{b:Addr}{kvs:List (ei×V)},upd H'' t (.tup [.str r,.ref ld]) b=some (.dK kvs)->b≠f2':=fun hb z=>by rw[z,kp (S'' _ _ f') ht]at hb;cases hb
   intro p hp;rcases bp.mp hp with hp|hp
   ·obtain⟨L0,g1,g2⟩:=hle p hp;refine⟨L0,?_,g2⟩;have:=kp (x:=.tup [.str r,.ref ld]) (S'' _ _ g1) ht;rw[ag (ned this)];exact this
   ·have:p=(r,ld):=by simpa using hp
    subst this;refine⟨Lr,?_,nd,hLr⟩;have:=kp (x:=.tup [.str r,.ref ld]) hld ht;rw[ag (ned this)];exact this
  ·intro b o q;rw[ag (ae q hf2)];exact kp (S'' _ _ (S _ _ q)) ht
 rintro vs H9' ⟨us,sps,rfl,hpa,hsps,hled,S9,f9⟩;rw[ak,bj]at hsps;have nds:(sps.map (·.1)).Nodup:=by rw[hsps];exact m.okR.1
 refine⟨f2',us,dz Sum.inr sps,rfl,aw.of f9,?_,?_,fun sl hsl=>⟨_,rfl,x,C,dx,_,rfl,kp (S9 _ _ hx8) hsl,M.cls,M.a8,by omega,?_⟩⟩
 ·rw[Paired.length hpa];unfold dz;rw[ak]
 ·intro j t kv hj hkv;obtain⟨p,hp,e⟩:=Paired.getL hpa hj;unfold dz at hkv;rw[bv,hp]at hkv;have:=dI hkv;rw[<-this];exact e
 have emerge:iG [] (dz Sum.inr sps)=dz Sum.inr sps:=rD sps [] nds;rw[emerge];obtain⟨H9,e9,hx9,F9⟩:=oI "still_led" (.ref sl) (kp (x:=.dK (dz Sum.inr sps)) (S9 _ _ hx8) hsl);rw[<-e9];have n9:sl≠x:=(ae (S9 _ _ hx8) hsl).symm;have fsl:=F9 _ _ aa n9;have E9:c6 x H8 H9:=((ac.exB S9).trans (c6.new hsl)).trans F9;have L9:=L8.exI hx8 E9;have hled9:∀p∈sps,∃L,H9 p.2=some (.dK (aL L))/\L.Nodup/\∀w,w∈L↔Reach ds p.1 w:=fun p hp=>by
  obtain⟨L0,g1,g2⟩:=hled p hp;have g3:=kp (x:=.dK (dz Sum.inr sps)) g1 hsl;exact⟨L0,F9 _ _ g3 (BC (kp (S9 _ _ hx8) hsl) g3),g2⟩
 clear e9 F9;have lk8:lk "still_led" (cf ("still_led":Str) (.ref sl) (cf ("sign_goals":Str) (.ref sg) (cf ("quiet":Str) (.ref qu) (cf ("leaving":Str) (.ref lv) fs4))))=some (.ref sl):=by
  show jN _ _=_;rw[dP,if_pos rfl]
 refine⟨_,rfl,_,rfl,x,C,dx,_,.ref sl,rfl,hx9,M.cls,M.a8,lk8,l3,sl,J5,sps,rfl,L9.a3,fsl,hsps,m.okR.1,fun p hp=>?_,fun H10 S10=>⟨_,rfl,k H10 ?_ ?_⟩⟩
 ·obtain⟨L0,g1,g2,g3⟩:=hled9 p hp;exact⟨L0,g1,fun z=>m.noround _ ((g3 _).mp z)⟩
 ·have X69:c6 x H6 H9:=(E7.trans E8).trans E9;have X59:=((E6.trans E7).trans E8).trans E9;have Y:∀{b:Addr}{o:HO},H9 b=some o->H10 b=some o:=fun h=>S10 _ _ h;have LL:Lists H5 o1 o2 o3 o4 ts J0 J4 J5 ds:=⟨(E3.trans (E4.trans E5)) _ _ f1 n1,(E4.trans E5) _ _ f2 n2,E5 _ _ f3 n3,f4,L5.ds⟩;refine⟨⟨dx,_,o1,o2,o3,o4,lv,qu,sg,sl,ts,lps,gps,sps,Y hx9,?_,?_,?_,?_,?_,?_,?_,?_,?_,?_,?_,lk8,(LL.exI hx5 X59).same S10,hlps,?_,?_,?_,?_,hsps,Y fsl,fun p hp=>?_⟩,m,⟨dx,_,Y hx9,?_,?_,?_,?_⟩⟩
  rotate_right 9
  ·exact Y (X69 _ _ flv (BC hx6 flv))
  ·intro y hy;obtain⟨us',g1,g2⟩:=hlv y hy;exact⟨us',Y (X69 _ _ g1 (c6.neI hx6 g1)),(g2.kt (X69.ktI hx6)).kt (ac.kt S10)⟩
  ·exact Y ((E8.trans E9) _ _ fqu n7)
  ·exact iu.same ⟨G8.nd,E9 _ _ G8.g (Dz hx8 G8.g),fun y hy=>E9 _ _ (G8.ls y hy) (c6.neI hx8 (G8.ls y hy)),G8.all⟩ S10
  ·obtain⟨L0,g1,g2⟩:=hled9 p hp;exact⟨L0,Y g1,g2⟩
  all_goals(show jN _ _=_;subst hfs4;repeat (rw[dP];first|rw[if_pos rfl] | rw[if_neg (by decide +kernel)]))
  all_goals rfl
 ·exact((((((((E1.trans E2).trans E3).trans E4).trans E5).trans E6).trans E7).trans E8).trans E9).trans (ac.exB S10)
theorem BS{K:Za}{a b:Addr}{xs ys:List V}{g:TG}{tb:TS}{D:nO}{σ:L2.St}{H:Hp}(hxy:xs.length=ys.length)(Pv:Nat->L2.St->Hp->Prop)(h0:Pv 0 σ H)(hl:∀i σ H,i<=xs.length->Pv i σ H->be K H a xs/\be K H b ys)
  (hs:∀i x y σ H p,xs[i]?=some x->ys[i]?=some y->Pv i σ H->H p=none->g (.ref p) σ (upd H p (.tup [x,y])) fun σ2 H2=>tb { D with nx:=Pv (i+1),ct:=Pv (i+1),bk:=D.nx } σ2 H2) (hd:∀σ H,Pv xs.length σ H->D.nx σ H) :
  ∃W:Nat->Nat->L2.St->Hp->Prop,(∃m,W 0 m σ H)/\∀i m σ H,W i m σ H ->
   ((Ch K a b).stop i H/\D.nx σ H)∨((Ch K a b).go i H/\∃N:L2.St->Hp->Prop,(∀σ' H',N σ' H'->∃m',m'<m/\W (i+1) m' σ' H')/\∀x H',(Ch K a b).yld i H x H'->g x σ H' fun σ2 H2=>tb { D with nx:=N,ct:=N,bk:=D.nx } σ2 H2):=by
 refine⟨fun i m σ H=>m=xs.length-i/\i<=xs.length/\Pv i σ H,⟨xs.length,by simp,cQ _,h0⟩,?_⟩;rintro i m σ H ⟨rfl,hi,p⟩;obtain⟨q1,q2⟩:=hl i σ H hi p;by_cases hlt:i<xs.length
 ·have hlt2:i<ys.length:=by omega
  refine .inr ⟨⟨xs,ys,xs[i],ys[i],q1,q2,by simp[hlt],by simp[hlt2]⟩,Pv (i+1),fun σ' H' p'=>⟨xs.length-(i+1),by omega,rfl,hlt,p'⟩,fun x H' y=>?_⟩;obtain⟨t,u,v,rfl,hn,hu,hv,rfl⟩:=y;exact hs i u v σ H t (hu xs q1) (hv ys q2) p hn
 ·have e:i=xs.length:=by omega
  subst e;exact .inl ⟨⟨xs,ys,q1,q2,.inl (aG _)⟩,hd σ H p⟩
theorem zG(a b:Str):decide (fW a=fW b)=decide (a=b):=by
 by_cases e:a=b
 ·rw[zzr1 e,zzr1 (by rw[e])]
 ·rw[zzr0 e,zzr0 (fun z=>e (mY z))]
theorem cj.by{C:Addr}{H H':Hp}{x:Addr}{J0 J4 J5:Zb}{ds:List am}(h:cj C H x J0 J4 J5 ds)
  (hs:∀b ws,H b=some (.lst (List.map V.str ws))->H' b=some (.lst (List.map V.str ws))) (hr:∀b ts,H b=some (.lst (List.map V.ref ts))->H' b=some (.lst (List.map V.ref ts))) (ht:jU H H')
  (hd:∀b kvs,H b=some (.dK kvs)->H' b=some (.dK kvs)) (hT:∀b kvs,H b=some (.dT kvs)->H' b=some (.dT kvs)) (hi:∀b C dx fs,H b=some (.ins C dx fs)->H' b=some (.ins C dx fs)):cj C H' x J0 J4 J5 ds:=by
 obtain⟨dx,fs,o1,o2,o3,o4,lv,qu,sg,sl,ts,lps,gps,sps,g1,a1,a2,a3,a4,b1,b2,b3,b4,b5,b6,b7,b8,L,c1,c2,c3,c4,G,d1,d2,d3⟩:=h.at_;refine⟨⟨dx,fs,o1,o2,o3,o4,lv,qu,sg,sl,ts,lps,gps,sps,hi _ _ _ _ g1,a1,a2,a3,a4,b1,b2,b3,b4,b5,b6,b7,b8,⟨hs _ _ L.a1,hs _ _ L.a2,hs _ _ L.a3,hr _ _ L.a4,L.ds.kt ht⟩,c1,hd _ _ c2,fun y hy=>?_,hd _ _ c4,⟨G.nd,hT _ _ G.g,fun y hy=>hs _ _ (G.ls y hy),G.all⟩,d1,hd _ _ d2,fun y hy=>?_⟩,h.ok,by obtain⟨dx,fs,g,r⟩:=h.more;exact⟨dx,fs,hi _ _ _ _ g,r⟩⟩
 ·obtain⟨us,e1,e2⟩:=c3 y hy;exact⟨us,hr _ _ e1,e2.kt ht⟩
 ·obtain⟨L0,e1,e2⟩:=d3 y hy;exact⟨L0,hd _ _ e1,e2⟩
theorem cj.same{C:Addr}{H H':Hp}{x:Addr}{J0 J4 J5:Zb}{ds:List am}(h:cj C H x J0 J4 J5 ds)(S:ac H H'):cj C H' x J0 J4 J5 ds :=
 h.by (fun _ _ e=>S _ _ e) (fun _ _ e=>S _ _ e) (ac.kt S) (fun _ _ e=>S _ _ e) (fun _ _ e=>S _ _ e) (fun _ _ _ _ e=>S _ _ e)
inductive ig(C:Addr)(vs:List V)(H:Hp)(Q:VK)(E:XK):Prop
 |mk (x:Addr) (w:Str) (J0 J4 J5:Zb) (ds:List am):(vs=[.ref x,.str w])->(cj C H x J0 J4 J5 ds)->(Q (.bl (decide (w∈J5.filter (eP ds)))) H)->ig C vs H Q E
theorem v6{K:Za}{C:Addr}(M:MC K C){vs:List V}{H:Hp}{Q:VK}{E:XK}(h:ig C vs H Q E):lM K (bN Q) (start mj vs) H:=by
 obtain⟨x,w,J0,J4,J5,ds,rfl,h,k⟩:=h;obtain⟨dx,fs,o1,o2,o3,o4,lv,qu,sg,sl,ts,lps,gps,sps,g1,a1,a2,a3,a4,b1,b2,b3,b4,b5,b6,b7,b8,L,c1,c2,c3,c4,_⟩:=h.at_;refine⟨_,rfl,_,rfl,x,C,dx,fs,.ref qu,rfl,g1,M.cls,M.a6,b6,qu,_,rfl,.inl ⟨_,.inr w,.inl c4,rfl,rfl⟩,?_⟩;rw[dW];exact k
def cg:List Str:=[("hush":Str)]
inductive jq(C:Addr)(vs:List V)(H:Hp)(Q:VK)(E:XK):Prop
 |mk (t l1 l2 l3 l4:Addr) (ts:Ze) (J0 J4 J5:Zb) (ds:List am):(vs=[.ref t])->(kj H t l1 l2 l3 l4 ts J0 J4 J5 ds)->(bC J0 J4 J5 ds)->(∀(x:Addr) (H':Hp),cj C H' x J0 J4 J5 ds->ac H H'->Q (.ref x) H')->jq C vs H Q E
theorem xz{K:Za}{C:Addr}{vs:List V}{H:Hp}{Q:VK}{E:XK}(h:jq C vs H Q E):si K C (pT C) (bN Q) (start sM vs) H:=by
 obtain⟨t,l1,l2,l3,l4,ts,J0,J4,J5,ds,rfl,T,m,k⟩:=h;refine⟨_,rfl,.inr (.inl ⟨t,_,0,_,rfl,rfl,be.of T.t,rfl,.inl ⟨l1,_,rfl,.inl (aw.of T.a1),fun m1 h1=>?_⟩⟩)⟩;have T1:=T.same (ac.new (o:=.lst (J0.map V.str)) h1);refine⟨_,rfl,.inr (.inl ⟨t,_,1,_,rfl,rfl,be.of T1.t,rfl,.inl ⟨l2,_,rfl,.inl (aw.of T1.a2),fun m2 h2=>?_⟩⟩)⟩;have T2:=T1.same (ac.new (o:=.lst (J4.map V.str)) h2);refine⟨_,rfl,.inr (.inl ⟨t,_,2,_,rfl,rfl,be.of T2.t,rfl,.inl ⟨l3,_,rfl,.inl (aw.of T2.a3),fun m3 h3=>?_⟩⟩)⟩;have T3:=T2.same (ac.new (o:=.lst (J5.map V.str)) h3);refine⟨_,rfl,.inr (.inl ⟨t,_,3,_,rfl,rfl,be.of T3.t,rfl,.inl ⟨l4,_,rfl,.inl (aw.of T3.a4),fun m4 h4=>?_⟩⟩)⟩;have T4:=T3.same (ac.new (o:=.lst (ts.map V.ref)) h4);have S4:=(((ac.new (o:=.lst (J0.map V.str)) h1).trans (ac.new (o:=.lst (J4.map V.str)) h2)).trans (ac.new (o:=.lst (J5.map V.str)) h3)).trans (ac.new (o:=.lst (ts.map V.ref)) h4);refine fun x dx hx hdx hne=>?_;have S5:ac H (upd (upd (upd (upd (upd (upd H m1 (.lst (J0.map V.str))) m2 (.lst (J4.map V.str))) m3 (.lst (J5.map V.str))) m4 (.lst (ts.map V.ref))) dx (.own x)) x (.ins C dx [])) :=
  (S4.trans (ac.new hdx)).trans (ac.new (by rw[ag hne.symm];exact hx))
 have hxx:upd (upd (upd (upd (upd H m1 (.lst (J0.map V.str))) m2 (.lst (J4.map V.str))) m3 (.lst (J5.map V.str))) m4 (.lst (ts.map V.ref))) dx (.own x) x=none:=by rw[ag hne.symm];exact hx
 refine⟨x,dx,m1,m2,m3,m4,ts,J0,J4,J5,ds,rfl,aa,⟨?_,?_,?_,?_,T.ds.kt (ac.kt S5)⟩,m,fun H' M ex=>⟨rfl,k x H' M fun b o q=>?_⟩⟩
 ·exact kp (kp (kp (kp (kp aa h2) h3) h4) hdx) hxx
 ·exact kp (kp (kp (kp aa h3) h4) hdx) hxx
 ·exact kp (kp (kp aa h4) hdx) hxx
 ·exact kp (kp aa hdx) hxx
 ·have hq:=S5 _ _ q;exact ex _ _ hq (ae (S4.trans (ac.new hdx) _ _ q) hxx)
def f_(ds:List am):List Str:=(ds.filter fun d=>!fh d).map (·.a)
theorem xF(ds:List am)(r:Str):eP ds r=decide (r∉f_ ds):=by
 unfold eP f_ bW;rw[vE,List.all_eq_true,decide_eq_true_iff];constructor
 ·intro h z;obtain⟨d,hd,rfl⟩:=aT.mp z;rw[d9]at hd;have:=h d (d9.mpr ⟨hd.1,zzr1 rfl⟩);rw[this]at hd;exact absurd hd.2 (by decide)
 ·intro h d hd;rw[d9]at hd;cases q:fh d with
  |true=>rfl
  |false =>
   refine absurd (aT.mpr ⟨d,d9.mpr ⟨hd.1,by rw[q];rfl⟩,?_⟩) h;exact of_decide_eq_true hd.2
theorem kG{w:Str}{ws:Zb}:fW w∈ws.map fW↔w∈ws:=by
 constructor
 ·intro h;obtain⟨x,hx,e⟩:=aT.mp h;rw[<-mY e];exact hx
 ·exact fm
def ur(K:Za)(C_Machine:Addr)(sp_Machine_rooms:Sp)(sp_Machine_led_from:Sp):TS :=
 ar (bg (q_) U2)
 (ar (eg (ca K V1) U3 (bX (tB (jm K V3 V2)) (ar (k_ V2 V3 (tC (.bl true)))
 (eg (ca K (gl C_Machine "led_from" sp_Machine_led_from [] E0 V0 (aD V3))) U4 (k_ V2 V4 (tC (.bl true))))) (bc)))
 (aR (cK (yW K) (aD (c9 1 [2] (ca K (gl C_Machine "rooms" sp_Machine_rooms [] E0 V0 bH)) U0 (tB (xm K V0 V1)) V0)))))
def vk:List Str:=["M","rooms","found","room","led"]
def pq(K:Za):TS :=
 aR (cK (de K) (aD (fO K V0 "own_rooms")))
def pN:List Str:=["self"]
def lL(K:Za):TS :=
 aR (cK (de K) (aD (uD K (fO K V0 "still_led") V1 (dJ (bH)))))
def mi:List Str:=["self","room"]
def pA(K:Za):TS :=
 aR (cK (de K) (aD (uD K (fO K V0 "sign_goals") (dJ (aM V1 V2)) (dJ (bH)))))
def pO:List Str:=["self","room","sign"]
def qR(K:Za):TS :=
 ar (bg (cK (de K) (aD V1)) U2)
 (ar (bg (tC (.int 0)) U3)
 (ar (uy (aN (aJ CP V3 (cK (dL K) (aD V2)))) (ar (eg (ca K V0) (gA K 3 (bb U4 (bb U5 (bb U6 (ga))))) (bX (sv (aN (aJ (sF K) V4 (aJ (o8 K) V2 V3))) (sv (aN (aJ (sF K) V5 (dJ (aD (tC (.str "still")))))) (aN (aJ (uN K true) V6 V2)))) (c8 (wP K "list" eo V2 (aD V6))) (bc)))
 (bg (aJ eO V3 (tC (.int 1))) U3)))
 (aR V2)))
def rW:List Str:=["doors","rooms","found","at","room","sign","other"]
def sh(K:Za)(sp_law_take:Sp)(sp_law_still_on:Sp)(sp_law_put:Sp)(sp_law_anew:Sp):TS :=
 ar (c8 (aV sp_law_anew (aD V0)))
 (ar (bg V1 (gA K 4 (bb U2 (bb U3 (bb U4 (bb U5 (ga)))))))
 (ar (bg (cK (de K) (aD V5)) U5)
 (ar (eg (tI (aD (aV sp_law_take (aM V0 (tC (.int 4)))))) U6 (ar (bg (aJ (df K) V4 (aV sp_law_take (aM V0 (cK (dL K) (aD V4))))) U7)
 (ar (bg (aJ (df K) V4 (aV sp_law_take (aM V0 (cK (dL K) (aD V4))))) U8)
 (bX (aN (aJ (uN K true) V7 (aV sp_law_still_on (aM V5 (dE (aD V8)))))) (c8 (aV sp_law_put (aH V5 (aH (dJ (ji V7 (dJ (aD (tC (.str "still")))) V8)) bH)))) (bc)))))
 (aR (dJ (aH V2 (ji V3 V4 V5)))))))
def sL:List Str:=["pen","told","asks","says","rooms","doors","turn","room","other"]
inductive j8(C:Addr)(vs:List V)(H:Hp)(Q:VK)(E:XK):Prop
 |mk (x:Addr) (J0 J4 J5:Zb) (ds:List am):(vs=[.ref x])->(cj C H x J0 J4 J5 ds)->(∀l,H l=none->Q (.ref l) (upd H l (.lst (J5.map V.str))))->j8 C vs H Q E
theorem Bg{K:Za}{C:Addr}(M:MC K C){vs:List V}{H:Hp}{Q:VK}{E:XK}(h:j8 C vs H Q E):pq K (bN Q) (start pN vs) H:=by
 obtain⟨x,J0,J4,J5,ds,rfl,h,k⟩:=h;obtain⟨dx,fs,o1,o2,o3,o4,lv,qu,sg,sl,ts,lps,gps,sps,g1,a1,a2,a3,a4,b1,b2,b3,b4,b5,b6,b7,b8,L,_⟩:=h.at_;exact⟨_,rfl,x,C,dx,fs,.ref o3,rfl,g1,M.cls,M.a3,b3,.inl ⟨o3,_,rfl,.inl (aw.of L.a3),k⟩⟩
theorem wm:∀{L:Zb},L.Nodup->(aL L).map (fun kv=>kV kv.1)=L.map V.str:=by
 intro L;refine iU (fun L=>L.Nodup->(aL L).map (fun kv=>kV kv.1)=L.map V.str) (fun _=>rfl) (fun ws w ih nd=>?_) L;rw[cB]at nd;have hn:bU (aL ws) (.inr w)=none:=by
  rw[rE,if_neg (fun z=>nd.2.2 w z w (by simp) rfl)]
 show(aL (ws++[w])).map _=_;rw[c_,g6 _ hn,ax,ih nd.1,ax]
 rfl
inductive ie(C:Addr)(vs:List V)(H:Hp)(Q:VK)(E:XK):Prop
 |mk (x:Addr) (r:Str) (J0 J4 J5:Zb) (ds:List am):(vs=[.ref x,.str r])->(cj C H x J0 J4 J5 ds)->(r∈J5)->(∀(l:Addr) (L:Zb) (H':Hp),H' l=some (.lst (L.map V.str))->L.Nodup->(∀w,w∈L↔Reach ds r w)->H l=none->ac H H'->Q (.ref l) H')->ie C vs H Q E
theorem v5{K:Za}{C:Addr}(M:MC K C){vs:List V}{H:Hp}{Q:VK}{E:XK}(h:ie C vs H Q E):lL K (bN Q) (start mi vs) H:=by
 obtain⟨x,r,J0,J4,J5,ds,rfl,h,hr,k⟩:=h;obtain⟨dx,fs,o1,o2,o3,o4,lv,qu,sg,sl,ts,lps,gps,sps,g1,a1,a2,a3,a4,b1,b2,b3,b4,b5,b6,b7,b8,L,c1,c2,c3,c4,G,d1,d2,d3⟩:=h.at_;have nod:=h.ok.okR.1;obtain⟨⟨r',a⟩,hra,er⟩:=aT.mp (show r∈sps.map (·.1) by rw[d1];exact hr);obtain rfl:r'=r:=er;obtain⟨L0,e1,e2,e3⟩:=d3 _ hra;refine⟨_,rfl,x,C,dx,fs,.ref sl,rfl,g1,M.cls,M.a8,b8,sl,rfl,.inl ⟨_,.inl d2⟩,_,rfl,(by show 0<=aj;decide),fun et het=>⟨_,.inl ⟨_,.inr r',.inl (kp d2 het),rfl,rfl⟩,?_⟩⟩;rw[dU ir (by rw[d1];exact nod) hra];refine .inr ⟨a,_,rfl,.inl (kp e1 het),fun l hl=>k l L0 _ ?_ e2 e3 ((ac.new het).free hl) ((ac.new het).trans (ac.new hl))⟩;rw[aa,wm e2]
inductive iX(C:Addr)(vs:List V)(H:Hp)(Q:VK)(E:XK):Prop
 |mk (x s:Addr) (r:Str) (sg J0 J4 J5:Zb) (ds:List am):(vs=[.ref x,.str r,.ref s])->(cj C H x J0 J4 J5 ds)->(H s=some (.tup (sg.map V.str)))->(∀(l:Addr) (H':Hp),H' l=some (.lst ((bo ds (r,sg)).map V.str))->H l=none->ac H H'->Q (.ref l) H')->iX C vs H Q E
theorem Ae{K:Za}{C:Addr}(M:MC K C){vs:List V}{H:Hp}{Q:VK}{E:XK}(h:iX C vs H Q E):pA K (bN Q) (start pO vs) H:=by
 obtain⟨x,s,r,sgn,J0,J4,J5,ds,rfl,h,hs,k⟩:=h;obtain⟨dx,fs,o1,o2,o3,o4,lv,qu,sg,sl,ts,lps,gps,sps,g1,a1,a2,a3,a4,b1,b2,b3,b4,b5,b6,b7,b8,L,c1,c2,c3,c4,G,d1,d2,d3⟩:=h.at_;have nod:=h.ok.okR.1;refine⟨_,rfl,x,C,dx,fs,.ref sg,rfl,g1,M.cls,M.a7,b7,sg,rfl,.inr ⟨_,.inl G.g⟩,_,rfl,_,rfl,(by show 2<=aj;decide),fun kt hkt=>⟨(by show 0<=aj;decide),fun et het=>⟨bU (dz se gps) (se (r,sgn)),.inr ⟨_,se (r,sgn),kt,.inl (kp (kp G.g hkt) het),rfl,?_,kE _,rfl⟩,?_⟩⟩⟩
 ·refine eJ.isIn 8 (kE _) ?_;unfold se eJ;refine⟨kt,_,rfl,kp aa het,?_⟩;unfold TKAts;refine⟨_,_,rfl,uq _,?_⟩;unfold TKAts;refine⟨_,_,rfl,SignAt.tk (kp (kp hs hkt) het),?_⟩;unfold TKAts
  rfl
 have S2:ac H (upd (upd H kt (.tup [.str r,.ref s])) et (.tup [])):=(ac.new hkt).trans (ac.new het);by_cases hmem:(r,sgn)∈gps.map (·.1)
 ·obtain⟨⟨y,a⟩,hra,er⟩:=aT.mp hmem;obtain rfl:y=(r,sgn):=er;rw[dU gv G.nd hra];exact .inl ⟨a,_,rfl,.inl (aw.of (S2 _ _ (G.ls _ hra))),fun l hl=>k l _ aa (S2.free hl) (S2.trans (ac.new hl))⟩
 ·rw[kH gv hmem];have hnil:bo ds (r,sgn)=[]:=kg fun y hy z=>hmem (by rw[<-z];exact G.all y hy);refine .inl ⟨et,[],rfl,.inr (be.of aa),fun l hl=>k l _ ?_ (S2.free hl) (S2.trans (ac.new hl))⟩;rw[hnil];exact aa
theorem Reach.trans{ds:List am}{a b c:Str}(h1:Reach ds a b)(h2:Reach ds b c):Reach ds a c:=by
 induction h2 with
 |one h=>exact .step h1 h
 |step r h ih=>exact .step ih h
def fS(ds:List am)(gs:Zb)(w:Str):Prop:=∃g∈gs,w=g∨Reach ds g w
theorem fS.in_{ds:List am}{gs J5:Zb}{w:Str}(hg:∀g∈gs,g∈J5)(hd:∀d∈ds,d.b∈J5)(h:fS ds gs w):w∈J5:=by
 obtain⟨g,h1,rfl|h2⟩:=h
 ·exact hg _ h1
 ·exact h2.in_ hd
def pL(F:Zb)(w:Str):List Str:=if w∈F then F else F++[w]
theorem wl(F:Zb):∀kv∈aL F,kv.2=.bl true:=by
 refine iU (fun F=>∀kv∈aL F,kv.2=.bl true) (by intro kv h;cases h) (fun ws w ih=>?_) F;intro kv hkv;rw[c_]at hkv;unfold eh at hkv;split at hkv
 ·obtain⟨x,hx,rfl⟩:=aT.mp hkv;split
  ·rfl
  ·exact ih x hx
 ·rcases bp.mp hkv with h|h
  ·exact ih kv h
  ·have:kv=(.inr w,.bl true):=by simpa using h
   rw[this]
theorem rF(F:Zb)(w:Str):eh (aL F) (.inr w) (.bl true)=aL (pL F w):=by
 unfold pL;by_cases c:w∈F
 ·rw[if_pos c];have h1:((aL F).any fun kv=>decide (kv.1=(.inr w:ei)))=true:=by
   rw[iT,dW,zzr1 c]
  unfold eh;rw[if_pos h1];have:∀l:List (ei×V),(∀kv∈l,kv.2=.bl true)->l.map (fun kv=>if kv.1=(.inr w:ei)then(kv.1,V.bl true)else kv)=l:=by
   intro l
   induction l with
   |nil=>intro _;rfl
   |cons x l ih =>
    intro h;rw[bh,ih fun kv hkv=>h kv (ff _ hkv)];congr 1;split
    ·rw[<-h x fg]
    ·rfl
  exact this _ (wl F)
 ·rw[if_neg c,c_]
theorem rS{F:Zb}(h:F.Nodup)(w:Str):(pL F w).Nodup:=by
 unfold pL;split
 ·exact h
 ·next c =>
  rw[cB];refine⟨h,by simp,fun a ha b hb e=>?_⟩;have:b=w:=by simpa using hb
  exact c (by rw[<-this,<-e];exact ha)
theorem wj{F:Zb}{w y:Str}:y∈pL F w↔y∈F∨y=w:=by
 unfold pL;split
 ·next c=>exact⟨.inl,fun h=>h.elim id fun e=>by rw[e];exact c⟩
 ·rw[bp];simp
inductive sp_with_still(C:Addr)(vs:List V)(H:Hp)(Q:VK)(E:XK):Prop
 |mk (x l:Addr) (gs J0 J4 J5:Zb) (ds:List am):(vs=[.ref x,.ref l])->(cj C H x J0 J4 J5 ds)->(H l=some (.lst (gs.map V.str)))->((∀g∈gs,g∈J5))->(∀(t:Addr) (F:Zb) (H':Hp),H' t=some (.tup ((J5.filter fun r=>decide (r∈F)).map V.str))->(∀w,w∈F↔fS ds gs w)->ac H H'->Q (.ref t) H')->sp_with_still C vs H Q E
theorem sy{K:Za}{C:Addr}{vs:List V}{H:Hp}{Q:VK}{E:XK}(h:sp_with_still C vs H Q E):ur K C (j8 C) (ie C) (bN Q) (start vk vs) H:=by
 obtain⟨x,l,gs,J0,J4,J5,ds,rfl,M,hl,hg,k⟩:=h;have hdb:∀d∈ds,d.b∈J5:=fun d hd=>(M.ok.good d hd).b;have z3:=M.ok.rooms26;refine fun d hd=>?_;refine⟨_,rfl,l,rfl,⟨_,aw.of (kp hl hd)⟩,?_⟩
 let zI0:Nat->L2.St->Hp->Prop:=fun i σ H'=>Ew fun(F:Zb) (x3 x4:Option V)=>ED (σ=[some (.ref x),some (.ref l),some (.ref d),x3,x4]) (H' d=some (.dK (aL F))) (ac H H') (F.Nodup) (∀w,w∈F↔fS ds (gs.take i) w)
 refine cw (xs:=gs.map V.str) zI0
  ⟨[],_,_,rfl,aa,ac.new hd,n8,fun w=>⟨fun h=>(by cases h),fun⟨g,h,_⟩=>(by cases h)⟩⟩ (fun i σ H' _ zq=>by obtain⟨_,_,_,_,_,S,_,_⟩:=zq;exact aw.of (S _ _ hl)) ?_ ?_
 ·rintro i y σ H1 hi ⟨F,x3,x4,rfl,hd1,S1,nd,hF⟩;obtain⟨r,hr,rfl⟩:=b_ hi;have hrm:r∈J5:=hg r (a_ hr);have hsub:∀w∈F,w∈J5:=fun w hw=>((hF w).mp hw).in_ (fun g hg'=>hg g (eM hg')) hdb;refine⟨_,rfl,_,rfl,d,_,rfl,.inl ⟨_,.inr r,.inl hd1,rfl,rfl⟩,_,rfl,?_⟩;rw[dW];have hstep:∀w,fS ds (gs.take (i+1)) w↔(fS ds (gs.take i) w∨w=r∨Reach ds r w):=by
   intro w;rw[take_snoc hr];constructor
   ·rintro⟨g,hg',h⟩;rcases bp.mp hg' with hg'|hg'
    ·exact .inl ⟨g,hg',h⟩
    ·have:g=r:=by simpa using hg'
     subst this;exact .inr h
   ·rintro(⟨g,hg',h⟩|h)
    ·exact⟨g,dq _ hg',h⟩
    ·exact⟨r,dF _ (by simp),h⟩
  by_cases c:r∈F
  ·rw[zzr1 c];refine aU ⟨F,_,_,rfl,hd1,S1,nd,fun w=>?_⟩;rw[hstep,hF];refine⟨.inl,fun h=>h.elim id fun h=>?_⟩;obtain⟨g,hg',hgr⟩:=(hF r).mp c;rcases h with h|h
   ·rw[h];exact⟨g,hg',hgr⟩
   ·refine⟨g,hg',.inr ?_⟩;rcases hgr with e|hgr
    ·rw[<-e];exact h
    ·exact hgr.trans h
  ·rw[zzr0 c];refine cr ?_;have hlen:∀{F:Zb},F.Nodup->(∀w∈F,w∈J5)->(aL F).length<aj:=fun nd hs=>ao (bq (jB _) (bq (nj nd hs) (by omega)));refine⟨_,rfl,_,rfl,d,_,rfl,.inl ⟨_,.inr r,hd1,rfl,hlen nd hsub,rfl⟩,?_⟩;rw[rF];have S2:ac H (upd H1 d (.dK (aL (pL F r)))):=fun b o q=>by rw[ag (ae q hd)];exact S1 _ _ q
   have hd2:upd H1 d (.dK (aL (pL F r))) d=some (.dK (aL (pL F r))):=aa;generalize upd H1 d (.dK (aL (pL F r)))=H2 at S2 hd2 ⊢;have M2:=M.same S2;obtain⟨dx,fs,o1,o2,o3,o4,lv,qu,sg,sl,ts,lps,gps,sps,g1,a1,a2,a3,a4,_⟩:=M2.at_;refine⟨_,rfl,x,dx,fs,rfl,g1,a3,_,rfl,x,r,J0,J4,J5,ds,rfl,M2,hrm,fun ll L H3 hll ndL hL frl S3=>⟨ll,rfl,⟨_,aw.of hll⟩,?_⟩⟩;have hd3:=S3 _ _ hd2;have llH:H ll=none:=S2.free frl;have lld:ll≠d:=fun z=>by rw[z,hd2]at frl;cases frl
   let zI1:Nat->L2.St->Hp->Prop:=fun j σ H'=>Ex fun(F':Zb) (x4:Option V)=>FB (σ=[some (.ref x),some (.ref l),some (.ref d),some (.str r),x4]) (H' d=some (.dK (aL F'))) (H' ll=some (.lst (L.map V.str))) (ac H H') (F'.Nodup) (∀w,w∈F'↔(fS ds (gs.take i) w∨w=r∨w∈L.take j))
   refine cw (xs:=L.map V.str) zI1
    ⟨pL F r,_,rfl,hd3,hll,S2.trans S3,rS nd r,fun w=>?_⟩ (fun j σ H' _ zq=>by obtain⟨_,_,_,_,h,_,_,_⟩:=zq;exact aw.of h) ?_ ?_
   ·rw[wj,hF];simp
   ·rintro j y σ H4 hj ⟨F',x4',rfl,hd4,hll4,S4,nd4,hF4⟩;obtain⟨v,hv,rfl⟩:=b_ hj;have hsub4:∀w∈F',w∈J5:=by
     intro w hw;rcases(hF4 w).mp hw with h|h|h
     ·exact h.in_ (fun g hg'=>hg g (eM hg')) hdb
     ·rw[h];exact hrm
     ·exact((hL w).mp (eM h)).in_ hdb
    refine⟨_,rfl,_,rfl,d,_,rfl,.inl ⟨_,.inr v,hd4,rfl,hlen nd4 hsub4,rfl⟩,pL F' v,_,rfl,?_,?_,?_,rS nd4 v,fun w=>?_⟩
    ·rw[aa,rF]
    ·rw[ag lld];exact hll4
    ·intro b o q;rw[ag (ae q hd)];exact S4 _ _ q
    ·rw[wj,hF4,take_snoc hv,bp];simp only[bM];constructor
     ·rintro((h|h|h)|h)
      ·exact .inl h
      ·exact .inr (.inl h)
      ·exact .inr (.inr (.inl h))
      ·exact .inr (.inr (.inr h))
     ·rintro(h|h|h|h)
      ·exact .inl (.inl h)
      ·exact .inl (.inr (.inl h))
      ·exact .inl (.inr (.inr h))
      ·exact .inr h
   ·rintro σ H4 ⟨F',x4',rfl,hd4,hll4,S4,nd4,hF4⟩;rw[ak,bj]at hF4;refine⟨F',_,_,rfl,hd4,S4,nd4,fun w=>?_⟩;rw[hstep,hF4,hL]
 ·rintro σ H1 ⟨F,x3,x4,rfl,hd1,S1,nd,hF⟩;rw[ak,bj]at hF;have M1:=M.same S1;obtain⟨dx,fs,o1,o2,o3,o4,lv,qu,sg,sl,ts,lps,gps,sps,g1,a1,a2,a3,a4,_⟩:=M1.at_;refine⟨_,rfl,x,dx,fs,rfl,g1,a4,x,J0,J4,J5,ds,rfl,M1,fun rl hrl=>⟨rl,rfl,⟨_,aw.of aa⟩,fun f hf=>?_⟩⟩;have S2:ac H (upd H1 rl (.lst (J5.map V.str))):=S1.trans (ac.new hrl);have hd2:upd H1 rl (.lst (J5.map V.str)) d=some (.dK (aL F)):=kp hd1 hrl;have hrl2:upd H1 rl (.lst (J5.map V.str)) rl=some (.lst (J5.map V.str)):=aa;generalize upd H1 rl (.lst (J5.map V.str))=H2 at S2 hd2 hrl2 hf ⊢
  let zI2:Nat->List V->Hp->Prop:=fun i vs H'=>vs=((J5.take i).filter fun r=>decide (r∈F)).map V.str/\ac H2 H'/\H' f=some (.lst vs)
  refine cu (xs:=J5.map V.str) zI2 ⟨rfl,ac.new hf,aa⟩ (fun i vs H' _ zq=>by obtain⟨_,S,h'⟩:=zq;exact⟨h',aw.of (S _ _ hrl2)⟩) ?_ ?_
  ·rintro vs H' ⟨rfl,S,f'⟩;rw[ak,bj]at f';exact⟨f,_,rfl,.inl ⟨aw.of f',fun t ht=>k t F _ aa hF (S2.trans (S.trans (ac.new ht)))⟩⟩
  ·rintro i vs H' x' hx' hi ⟨rfl,S,f'⟩;obtain⟨r,hr,rfl⟩:=b_ hx';refine gN ?_;refine⟨_,rfl,_,rfl,d,_,rfl,.inl ⟨_,.inr r,.inl (S _ _ hd2),rfl,rfl⟩,_,rfl,?_⟩;rw[dW];have hlen:(((J5.take i).filter fun r=>decide (r∈F)).map V.str).length<aj:=by
    rw[ak];refine ao (bq (eL _ _) ?_);rw[aI];omega
   refine nB (fun hq=>?_) (fun hq=>?_)
   ·refine⟨_,rfl,f',hlen,o9 hi ⟨?_,?_,aa⟩⟩
    ·rw[ck hr,if_pos hq,ax];rfl
    ·intro b o q;rw[ag (ae q hf)];exact S _ _ q
   ·refine o9 hi ⟨?_,S,f'⟩;rw[ck hr,if_neg hq,d_]
inductive fP(K:Za)(vs:List V)(H:Hp)(Q:VK)(E:XK):Prop
 |mk (l4 l:Addr) (ts:Ze) (ds:List am) (gs J5:Zb):(vs=[.ref l4,.ref l])->(H l4=some (.lst (ts.map V.ref)))->(da H ts ds)->(H l=some (.lst (gs.map V.str)))->((∀d∈ds,d.b∈J5))->(J5.length<=1000)->(gs.length<=1000)->(∀(f:Addr) (F:Zb) (H':Hp),H' f=some (.lst (F.map V.str))->(∀w,w∈F↔fS ds gs w)->F.length<=2000->H f=none->ac H H'->Q (.ref f) H')->fP K vs H Q E
structure SO(H0 H:Hp)(ds:List am)(gs:Zb)(f:Addr)(X:Zb):Prop where
 f:H f=some (.lst ((gs++X).map V.str))
 same:ac H0 H
 nd:X.Nodup
 new:∀y∈X,y∉gs
 sound:∀y∈X,fS ds gs y
theorem fS.step{ds:List am}{gs:Zb}{a b:Str}(h:fS ds gs a)(e:(⟨a,aF,b⟩:am)∈ds):fS ds gs b:=by
 obtain⟨g,hg,rfl|h⟩:=h
 ·exact⟨_,hg,.inr (.one e)⟩
 ·exact⟨g,hg,.inr (.step h e)⟩
theorem jD(a b:Zb):decide (eI a=eI b)=decide (a=b):=by
 by_cases e:a=b
 ·rw[zzr1 e,zzr1 (by rw[e])]
 ·rw[zzr0 e,zzr0 (fun z=>e (p6 z))]
inductive SoI(l4 l f:Addr)(at_:Int)(H:Hp)(ds:List am)(gs X:Zb)(here:Str)(j:Nat)(σ:L2.St)(H':Hp):Prop
 |mk (X' Y:Zb) (x y z:Option V):σ=[some (.ref l4),some (.ref l),some (.ref f),some (.int at_),x,y,z]->X'=X++Y->SO H H' ds gs f X'->(∀d∈ds.take j,d.a=here->d.sg=aF->d.b∈gs++X')->SoI l4 l f at_ H ds gs X here j σ H'
theorem v4{K:Za}{vs:List V}{H:Hp}{Q:VK}{E:XK}(h:fP K vs H Q E):qR K (bN Q) (start rW vs) H:=by
 obtain⟨l4,l,ts,ds,gs,J5,rfl,h4,hds,hl,hin,hz,hz2,k⟩:=h;refine⟨_,rfl,.inl ⟨l,_,rfl,.inl (aw.of hl),fun f hf=>?_⟩⟩;have lenX:∀{X:Zb},X.Nodup->(∀y∈X,y∉gs)->(∀y∈X,fS ds gs y)->X.length<=J5.length:=fun nd nw sd=>nj nd fun y hy=>by
  obtain⟨g,hg,e|h⟩:=sd y hy
  ·exact absurd (by rw[e];exact hg) (nw y hy)
  ·exact h.in_ hin
 refine⟨fun m σ H'=>∃(X:Zb) (at_:Nat) (x y z:Option V),σ=[some (.ref l4),some (.ref l),some (.ref f),some (.int at_),x,y,z]/\SO H H' ds gs f X/\at_<=(gs++X).length/\(∀i y,i<at_->(gs++X)[i]?=some y->∀c,(⟨y,aF,c⟩:am)∈ds->c∈gs++X)/\m=gs.length+J5.length-at_,
  ⟨_,[],0,_,_,_,rfl,⟨by rw[d_];exact aa,ac.new hf,n8,by simp,by simp⟩,cQ _,fun i y h=>by omega,rfl⟩,?_⟩
 rintro m σ H1 ⟨X,at_,x4,x5,x6,rfl,D,hat,hcl,rfl⟩;have hXl:=lenX D.nd D.new D.sound;refine⟨_,rfl,_,rfl,.inl ⟨f,_,rfl,.inl (aw.of D.f),_,_,rfl,rfl,_,rfl,?_⟩⟩;refine nB (fun hlt=>?_) (fun hlt=>?_)
 ·have hlt':at_<(gs++X).length:=by
   have:=of_decide_eq_true hlt;rw[ak]at this;omega
  have hat0:at_<gs.length+J5.length:=by rw[aE]at hlt';omega
  generalize hhere:(gs++X)[at_]=here;have hget:(gs++X)[at_]?=some here:=by rw[<-hhere];exact bR hlt'
  have hfrom:∀{Y:Zb}{y:Str},(∀y∈Y,fS ds gs y)->y∈gs++Y->fS ds gs y:=fun sd hy=>by
   rcases bp.mp hy with hy|hy
   ·exact⟨_,hy,.inl rfl⟩
   ·exact sd _ hy
  refine⟨fun σ' H'=>∃(X':Zb) (x y z:Option V),σ'=[some (.ref l4),some (.ref l),some (.ref f),some (.int ((at_+1:Nat):Int)),x,y,z]/\SO H H' ds gs f X'/\at_+1<=(gs++X').length/\(∀i y,i<at_+1->(gs++X')[i]?=some y->∀c,(⟨y,aF,c⟩:am)∈ds->c∈gs++X'),
   fun σ' H' ⟨X',x,y,z,e,D',h1,h2⟩=>⟨_,(by omega:gs.length+J5.length-(at_+1)<gs.length+J5.length-at_),X',at_+1,x,y,z,e,D',h1,h2,rfl⟩,?_⟩
  refine⟨_,rfl,l4,rfl,⟨_,aw.of (D.same _ _ h4)⟩,?_⟩;refine cw (xs:=ts.map V.ref) (SoI l4 l f at_ H ds gs X here)
   ⟨X,[],_,_,_,rfl,by simp,D,by simp⟩ (fun j σ H' _ zq=>by obtain⟨_,_,_,_,_,_,_,D',_⟩:=zq;exact aw.of (D'.same _ _ h4)) ?_ ?_
  ·rintro j y σ H2 hj ⟨X',Y,x4',x5',x6',rfl,rfl,D2,hdone⟩;obtain⟨t,ht,rfl⟩:=bT hj;obtain⟨dr,hdr,hatd⟩:=Paired.getL hds ht;obtain⟨s,ht2,hs2⟩:=hatd.kt (ac.kt D2.same);have hmem:=a_ hdr;have hXl2:=lenX D2.nd D2.new D2.sound;have hget2:(gs++(X++Y))[at_]?=some here:=by
    rw[<-dY,gX hlt'];exact hget
   refine⟨t,_,rfl,be.of ht2,rfl,_,_,rfl,_,_,rfl,_,_,rfl,rfl,?_⟩;have nextI:∀(H3:Hp) (X3 Y3:Zb) (q4 q5 q6:Option V),X3=X++Y3->SO H H3 ds gs f X3->(∀y∈X++Y,y∈X3)->(dr.a=here->dr.sg=aF->dr.b∈gs++X3) ->
     SoI l4 l f at_ H ds gs X here (j+1) [some (.ref l4),some (.ref l),some (.ref f),some (.int at_),q4,q5,q6] H3:=by
    intro H3 X3 Y3 q4 q5 q6 e D3 hsub hnew;refine⟨X3,Y3,q4,q5,q6,rfl,e,D3,fun d hd e1 e2=>?_⟩;rw[take_snoc hdr]at hd;rcases bp.mp hd with hd|hd
    ·rcases bp.mp (hdone d hd e1 e2)with h|h
     ·exact dq _ h
     ·exact dF _ (hsub _ h)
    ·have:d=dr:=by simpa using hd
     subst this;exact hnew e1 e2
   refine⟨_,rfl,_,rfl,_,rfl,.inl ⟨f,_,_,_,rfl,rfl,aw.of D2.f,bQ (j:=at_) (by rw[bv,hget2];rfl),fW dr.a,fW here,lf _,lf _,(by show 0<=8;decide),(by show 0<=8;decide),_,rfl,?_⟩⟩;rw[zG];by_cases c1:dr.a=here;rotate_left
   ·rw[zzr0 c1];exact aU (aU (nextI H2 _ _ _ _ _ rfl D2 (fun _ h=>h) fun e=>absurd e c1))
   rw[zzr1 c1];refine cr ?_;refine⟨_,rfl,(by show 1<=aj;decide),fun st hst=>⟨eI dr.sg,eI aF,aP (be.of (kp hs2 hst)),aP (be.of aa),by rw[br];decide,by rw[br];decide,_,rfl,?_⟩⟩;rw[jD];have D3:SO H (upd H2 st (.tup [.str "still"])) ds gs f (X++Y):=⟨kp D2.f hst,D2.same.trans (ac.new hst),D2.nd,D2.new,D2.sound⟩;have hstS:H st=none:=D2.same.free hst;generalize upd H2 st (.tup [.str "still"])=H3 at D3 ⊢;by_cases c2:dr.sg=aF;rotate_left
   ·rw[zzr0 c2];exact aU (aU (nextI H3 _ _ _ _ _ rfl D3 (fun _ h=>h) fun _ e=>absurd e c2))
   rw[zzr1 c2];refine cr ?_;refine⟨_,rfl,_,rfl,fW dr.b,(gs++(X++Y)).map fW,f,_,lf _,rfl,.inl (aw.of D3.f),lZ _,(by show 0<=8;decide),by rw[hC];decide,_,rfl,?_⟩;rw[if_pos rfl];by_cases c3:dr.b∈gs++(X++Y)
   ·rw[zzr1 (kG.mpr c3)];exact aU (nextI H3 _ _ _ _ _ rfl D3 (fun _ h=>h) fun _ _=>c3)
   rw[zzr0 (fun z=>c3 (kG.mp z))];refine cr ?_;refine⟨_,rfl,.inl ⟨rfl,_,aw.of D3.f⟩,_,rfl,f,_,_,rfl,rfl,D3.f,by rw[ak,aE];exact fw (by omega),?_⟩;have hedge:(⟨here,aF,dr.b⟩:am)∈ds:=by
    have:dr=⟨here,aF,dr.b⟩:=by cases dr;simp only at c1 c2;rw[c1,c2]
    rw[<-this];exact hmem
   refine nextI _ (X++(Y++[dr.b])) _ _ _ _ rfl ⟨?_,?_,?_,?_,?_⟩ ?_ ?_
   ·rw[aa];have:gs++(X++(Y++[dr.b]))=gs++(X++Y)++[dr.b]:=by simp
    rw[this,ax (l₂:=[dr.b])]
    rfl
   ·intro b o q;rw[ag (ae q hf)];exact D3.same _ _ q
   ·rw[<-dY,cB];refine⟨D3.nd,by simp,fun a ha b hb e=>?_⟩;have:b=dr.b:=by simpa using hb
    exact c3 (dF _ (by rw[<-this,<-e];exact ha))
   ·intro y hy;rw[<-dY]at hy;rcases bp.mp hy with hy|hy
    ·exact D3.new y hy
    ·have:y=dr.b:=by simpa using hy
     rw[this];exact fun z=>c3 (dq _ z)
   ·intro y hy;rw[<-dY]at hy;rcases bp.mp hy with hy|hy
    ·exact D3.sound y hy
    ·have:y=dr.b:=by simpa using hy
     rw[this];exact(hfrom D.sound (a_ hget)).step hedge
   ·intro y hy;rw[<-dY];exact dq _ hy
   ·intro _ _;exact dF _ (by simp)
  ·rintro σ H2 ⟨X',Y,x4',x5',x6',rfl,rfl,D2,hdone⟩;rw[ak,Paired.length hds,bj]at hdone;refine⟨_,rfl,_,_,rfl,rfl,X++Y,_,_,_,rfl,D2,?_,fun i y hi hy c hc=>?_⟩
   ·rw[<-dY,aE];omega
   ·by_cases e:i=at_
    ·subst e;rw[<-dY,gX hlt',hget]at hy;have:=dI hy;subst this;exact hdone _ hc rfl rfl
    ·have hi':i<at_:=by omega
     rw[<-dY,gX (by omega)]at hy;have:=hcl i y hi' hy c hc;rw[<-dY];exact dq _ this
 ·have hend:at_=(gs++X).length:=by
   have:¬(at_<(gs++X).length):=fun z=>hlt (zzr1 (by rw[ak];omega));omega
  refine⟨_,rfl,k f (gs++X) H1 D.f (fun w=>⟨fun hw=>?_,fun hw=>?_⟩) (by rw[aE];omega) hf D.same⟩
  ·rcases bp.mp hw with hw|hw
   ·exact⟨_,hw,.inl rfl⟩
   ·exact D.sound _ hw
  ·have closed:∀y∈gs++X,∀c,(⟨y,aF,c⟩:am)∈ds->c∈gs++X:=fun y hy c hc=>by
    obtain⟨n,hn⟩:=db hy;exact hcl n y (by rw[hend];exact(bJ.mp hn).1) hn c hc
   obtain⟨g,hg,rfl|h⟩:=hw
   ·exact dq _ hg
   ·induction h with
    |one e=>exact closed _ (dq _ hg) _ e
    |step r e ih=>exact closed _ ih _ e

theorem xv{ds:List am}{a b:Str}(h:¬fS ds [b] a){x y:Str}(r:Reach (ds++[⟨a,aF,b⟩]) x y):Reach ds x y∨((x=a∨Reach ds x a)/\(y=b∨Reach ds b y)):=by
 have edge:∀{u v:Str},(⟨u,aF,v⟩:am)∈ds++[⟨a,aF,b⟩]->(⟨u,aF,v⟩:am)∈ds∨(u=a/\v=b):=by
  intro u v e;rcases bp.mp e with e|e
  ·exact .inl e
  ·have:(⟨u,aF,v⟩:am)=⟨a,aF,b⟩:=by simpa using e
   injection this with h1 h2 h3;exact .inr ⟨h1,h3⟩
 induction r with
 |one e =>
  rcases edge e with e|⟨rfl,rfl⟩
  ·exact .inl (.one e)
  ·exact .inr ⟨.inl rfl,.inl rfl⟩
 |step r e0 ih =>
  rcases edge e0 with e|⟨rfl,rfl⟩
  ·rcases ih with ih|⟨h1,h2⟩
   ·exact .inl (.step ih e)
   ·refine .inr ⟨h1,.inr ?_⟩;rcases h2 with h2|h2
    ·exact .one (by rw[<-h2];exact e)
    ·exact .step h2 e
  ·rcases ih with ih|⟨h1,h2⟩
   ·exact .inr ⟨.inr ih,.inl rfl⟩
   ·exact absurd ⟨_,by simp,h2⟩ h
theorem uQ{ds:List am}{a b:Str}(hn:∀r,¬Reach ds r r)(h:¬fS ds [b] a):∀r,¬Reach (ds++[⟨a,aF,b⟩]) r r:=by
 intro r z;have no:¬(a=b∨Reach ds b a):=fun z=>h ⟨b,by simp,z⟩;rcases xv h z with z|⟨h1,h2⟩
 ·exact hn r z
 ·rcases h1 with rfl|h1
  ·exact no h2
  ·rcases h2 with rfl|h2
   ·exact no (.inr h1)
   ·exact no (.inr (h2.trans h1))
theorem bC.putStill{J0 J4 J5:Zb}{ds:List am}{a b:Str}(m:bC J0 J4 J5 ds)(ha:a∈J5)(hb:b∈J5)(h:¬fS ds [b] a)(hf:ds.length<=699):bC J0 J4 J5 (pI ds ⟨a,aF,b⟩):=by
 unfold pI;split
 ·exact m
 ·next hn =>
  refine{ m with nodup:=?_,good:=?_,few:=?_,noround:=uQ m.noround h }
  ·rw[cB];refine⟨m.nodup,by simp,fun x hx y hy e=>?_⟩;have:y=⟨a,aF,b⟩:=by simpa using hy
   subst this;exact hn (e▸hx)
  ·intro d hd;rcases bp.mp hd with hd|hd
   ·exact m.good d hd
   ·have:d=⟨a,aF,b⟩:=by simpa using hd
    subst this;exact⟨ha,hb,.inr (.inr rfl)⟩
  ·rw[aE];show ds.length+1<=1000;omega
theorem Bq(ds:List am)(d:am):(pI ds d).length<=ds.length+1:=by
 unfold pI;split
 ·omega
 ·rw[aE];exact aG _
inductive jn (vs:List V)(H:Hp)(Q:VK)(E:XK):Prop
 |mk (p c t l1 l2 l3 l4:Addr) (ts:Ze) (J0 J4 J5:Zb) (ds:List am):(vs=[.ref p,.ref t])->(hU H p c)->(kj H t l1 l2 l3 l4 ts J0 J4 J5 ds)->(bC J0 J4 J5 ds)->(ds.length<=600)->(∀(t' l4':Addr) (ts':Ze) (ds':List am) (H':Hp),kj H' t' l1 l2 l3 l4' ts' J0 J4 J5 ds'->bC J0 J4 J5 ds'->hU H' p c->c6 p H H'->Q (.ref t') H')->jn  vs H Q E
structure TI(H0:Hp)(p c l:Addr)(J0 J4 J5:Zb)(m:Nat)(H:Hp):Prop where
 pen:hU H p c
 ds:∃ts ds,H l=some (.lst (ts.map V.ref))/\da H ts ds/\bC J0 J4 J5 ds/\ds.length<=m
 ex:c6 p H0 H
 fr:H0 l=none
 pl:p≠l
 cl:c≠l
section
variable{H0 H H':Hp}{p c l:Addr}{J0 J4 J5:Zb}{m:Nat}
theorem TI.took(h:TI H0 p c l J0 J4 J5 m H)(hp:hU H' p c)(e:c6 p H H'):TI H0 p c l J0 J4 J5 m H':=by
 obtain⟨ts,ds,h1,h2,h3⟩:=h.ds;obtain⟨xs,hx⟩:=h.pen.lst;exact⟨hp,⟨ts,ds,e _ _ h1 h.pl.symm,h2.kt (e.kt hx),h3⟩,h.ex.trans e,h.fr,h.pl,h.cl⟩
theorem TI.new(h:TI H0 p c l J0 J4 J5 m H){q:Addr}{o:HO}(hq:H q=none):TI H0 p c l J0 J4 J5 m (upd H q o) :=
 h.took (h.pen.ex (ac.new hq)) (c6.new hq)
theorem TI.same(h:TI H0 p c l J0 J4 J5 m H)(S:ac H H'):TI H0 p c l J0 J4 J5 m H' :=
 h.took (h.pen.ex S) (ac.exB S)
theorem TI.up(h:TI H0 p c l J0 J4 J5 m H){n:Nat}(hn:m<=n):TI H0 p c l J0 J4 J5 n H:=by
 obtain⟨ts,ds,h1,h2,h3,h4⟩:=h.ds;exact⟨h.pen,⟨ts,ds,h1,h2,h3,bq h4 hn⟩,h.ex,h.fr,h.pl,h.cl⟩
end
theorem xw{K:Za}{vs:List V}{H:Hp}{Q:VK}{E:XK}(h:jn vs H Q E):sh K gp (fP K) oy pX (bN Q) (start sL vs) H:=by
 obtain⟨p,c,t,l1,l2,l3,l4,ts,J0,J4,J5,ds,rfl,hp,T,m,few,k⟩:=h;have hr0:=m.rooms0;have hr26:=m.rooms26;refine⟨_,rfl,p,c,rfl,hp,fun H1 hp1 ex1=>?_⟩;have T1:=T.ex hp ex1;refine⟨_,rfl,t,_,rfl,be.of T1.t,rfl,_,_,rfl,_,_,rfl,_,_,rfl,_,_,rfl,rfl,?_⟩;refine⟨_,rfl,.inl ⟨l4,_,rfl,.inl (aw.of T1.a4),fun l hl=>?_⟩⟩;have hpl:=hp1.nep hl;have hcl:=hp1.nec hl;have base:TI H1 p c l J0 J4 J5 600 (upd H1 l (.lst (ts.map V.ref))):=⟨hp1.ex (ac.new hl),⟨ts,ds,aa,T1.ds.kt (ac.kt (ac.new hl)),m,few⟩,c6.new hl,hl,hpl,hcl⟩;refine⟨_,rfl,fu base.pen (by decide) (by decide) fun n H2 n0 n4 hp2 ex2=>?_⟩;have D2:=base.took hp2 ex2;refine⟨n,rfl,by omega,by omega,?_⟩
 let zI0:Nat->L2.St->Hp->Prop:=fun i σ H'=>Ew fun(a6 a7 a8:Option V)=>σ=[some (.ref p),some (.ref t),some (.ref l1),some (.ref l2),some (.ref l3),some (.ref l),a6,a7,a8]/\TI H1 p c l J0 J4 J5 (600+i) H'
 refine i7 (lo:=0) (n:=n.toNat) zI0
  ⟨_,_,_,rfl,D2⟩ ?_ ?_
 ·rintro i σ H3 hi ⟨a6,a7,a8,rfl,D3⟩;have e3:H3 l3=some (.lst (J5.map V.str)):=D3.ex _ _ T1.a3 (hp1.ne_strs T1.a3);refine kF (fun _ _ _ _ h=>h) rfl rfl D3.pen e3 hr0 (by omega) fun a ha H4 hp4 ex4=>?_;have D4:=D3.took hp4 ex4;have e4:H4 l3=some (.lst (J5.map V.str)):=D4.ex _ _ T1.a3 (hp1.ne_strs T1.a3);refine kF (fun _ _ _ _ h=>h) rfl rfl D4.pen e4 hr0 (by omega) fun b hb H5 hp5 ex5=>?_;have D5:=D4.took hp5 ex5;refine⟨_,rfl,_,rfl,_,rfl,(by show 1<=aj;decide),fun bl hbl=>?_⟩;have D6:=D5.new hbl (o:=.lst [.str b]);have hb6:upd H5 bl (.lst [.str b]) bl=some (.lst [.str b]):=aa;generalize upd H5 bl (.lst [.str b])=H6 at D6 hb6 ⊢;obtain⟨ts6,ds6,g1,g2,g3,g4⟩:=D6.ds;refine⟨l,bl,ts6,ds6,[b],J5,rfl,g1,g2,hb6,fun d hd=>(g3.good d hd).b,by omega,(by show 1<=1000;decide),fun f F H7 hf hF hFl ffr S7=>?_⟩;have D7:=D6.same S7;refine⟨fW a,F.map fW,f,_,lf a,rfl,.inl (aw.of hf),lZ _,(by show 0<=8;decide),by rw[hC];decide,_,rfl,?_⟩;rw[if_pos rfl];by_cases c1:a∈F
  ·rw[zzr1 (kG.mpr c1)];exact aU ⟨_,_,_,rfl,D7.up (by omega)⟩
  rw[zzr0 (fun z=>c1 (kG.mp z))];refine cr ?_;have hno:¬fS ds6 [b] a:=fun z=>c1 ((hF a).mpr z);refine⟨_,rfl,_,rfl,(by show 1<=aj;decide),fun st hst=>⟨_,rfl,(by show 3<=aj;decide),fun dr hdr=>?_⟩⟩;have S8:ac H7 (upd (upd H7 st (.tup [.str "still"])) dr (.tup [.str a,.ref st,.str b])):=(ac.new hst).trans (ac.new hdr);have hat:gh (upd (upd H7 st (.tup [.str "still"])) dr (.tup [.str a,.ref st,.str b])) dr ⟨a,aF,b⟩:=⟨st,aa,kp aa hdr⟩;have D8:=D7.same S8;have S68:=S7.trans S8;generalize upd (upd H7 st (.tup [.str "still"])) dr (.tup [.str a,.ref st,.str b])=H8 at hat D8 S68 ⊢;refine⟨l,dr,ts6,ds6,⟨a,aF,b⟩,rfl,S68 _ _ g1,g2.kt (ac.kt S68),hat,by omega,fun ts' h'=>⟨_,_,_,rfl,D8.pen.upd hpl hcl,⟨ts',pI ds6 ⟨a,aF,b⟩,aa,h'.kt (fA (S68 _ _ g1)),g3.putStill ha hb hno (by omega),?_⟩,?_,hl,hpl,hcl⟩⟩
  ·exact bq (Bq _ _) (by omega)
  ·intro y o e ny;rw[ag (ae e hl)];exact D8.ex _ _ e ny
 ·rintro σ H3 ⟨a6,a7,a8,rfl,D3⟩;obtain⟨ts3,ds3,g1,g2,g3,g4⟩:=D3.ds;have e1:=D3.ex _ _ T1.a1 (hp1.ne_strs T1.a1);have e2:=D3.ex _ _ T1.a2 (hp1.ne_strs T1.a2);have e3:=D3.ex _ _ T1.a3 (hp1.ne_strs T1.a3);refine⟨_,rfl,_,rfl,_,rfl,_,rfl,(by show 4<=aj;decide),fun t' ht'=>k t' l ts3 ds3 _ ⟨aa,kp e1 ht',kp e2 ht',kp e3 ht',kp g1 ht',g2.kt (ac.kt (ac.new ht'))⟩ g3 (D3.pen.ex (ac.new ht')) ((ex1.trans D3.ex).trans (c6.new ht'))⟩
def cW(ds:List am)(sg:Zb)(J9:Zb):List Str:=J9.flatMap fun r=>bo ds (r,sg)
theorem sJ{ds:List am}{sg J9:Zb}{i:Nat}{r:Str}(h:J9[i]?=some r):cW ds sg (J9.take (i+1))=cW ds sg (J9.take i)++bo ds (r,sg):=by
 unfold cW;rw[take_snoc h,List.flatMap_append];simp
theorem pe(ds:List am)(x:Str×List Str):(bo ds x).length<=ds.length:=by
 unfold bo;rw[ak];exact eL _ _
theorem nC(ds:List am)(sg:Zb):∀J9:List Str,(cW ds sg J9).length<=J9.length * ds.length
 |[]=>cQ _
 |r::J9=>by
  show((bo ds (r,sg))++cW ds sg J9).length<=(J9.length+1) * ds.length;rw[aE,Nat.succ_mul];have h1:=pe ds (r,sg);have h2:=nC ds sg J9;omega
theorem nu{ds:List am}{sg J9:Zb}{b:Str}:b∈cW ds sg J9↔∃r∈J9,(⟨r,sg,b⟩:am)∈ds:=by
 unfold cW;rw[List.mem_flatMap];constructor
 ·rintro⟨r,hr,h⟩;exact⟨r,hr,fQ.mp h⟩
 ·rintro⟨r,hr,h⟩;exact⟨r,hr,fQ.mpr h⟩
inductive mU(C:Addr)(vs:List V)(H:Hp)(Q:VK)(E:XK):Prop
 |mk (x t s:Addr) (J9 sg J0 J4 J5:Zb) (ds:List am):(vs=[.ref x,.ref t,.ref s])->(cj C H x J0 J4 J5 ds)->(H t=some (.tup (J9.map V.str)))->(H s=some (.tup (sg.map V.str)))->(sg≠cg)->(J9.length<=1000)->(∀(t':Addr) (F:Zb) (H':Hp),H' t'=some (.tup ((J5.filter fun r=>decide (r∈F)).map V.str))->(∀w,w∈F↔fS ds (cW ds sg J9) w)->ac H H'->Q (.ref t') H')->mU C vs H Q E
theorem uM{K:Za}{C hu:Addr}(hhu:∀H,be K H hu (cg.map V.str)){sp2:Sp}{vs:List V}{H:Hp}{Q:VK}{E:XK}(h:mU C vs H Q E):
  k9 K (sp_with_still C) C (iX C) hu sp2 (bN Q) (start lg vs) H:=by
 obtain⟨x,t,s,J9,sg,J0,J4,J5,ds,rfl,M,ht,hs,hne,hz,k⟩:=h;have hdb:∀d∈ds,d.b∈J5:=fun d hd=>(M.ok.good d hd).b;have z4:=M.ok.few;refine⟨_,rfl,eI sg,eI cg,aP (be.of hs),aP (hhu _),by rw[br];decide,by rw[br];decide,_,rfl,?_⟩;rw[jD,zzr0 hne];refine aU ?_;refine⟨(by show 0<=aj;decide),fun g hg=>?_⟩;refine⟨_,rfl,t,rfl,⟨_,be.of (kp ht hg)⟩,?_⟩
 let zI0:Nat->L2.St->Hp->Prop:=fun i σ H'=>∃x4:Option V,σ=[some (.ref x),some (.ref t),some (.ref s),some (.ref g),x4]/\H' g=some (.lst ((cW ds sg (J9.take i)).map V.str))/\ac H H'
 refine zA (xs:=J9.map V.str) zI0
  ⟨_,rfl,aa,ac.new hg⟩ (fun i σ H' _ zq=>by obtain⟨_,_,_,S⟩:=zq;exact be.of (S _ _ ht)) ?_ ?_
 ·rintro i y σ H1 hi ⟨x4,rfl,hg1,S1⟩;obtain⟨r,hr,rfl⟩:=b_ hi;have M1:=M.same S1;obtain⟨dx,fs,o1,o2,o3,o4,lv,qu,sgA,sl,ts,lps,gps,sps,g1,a1,a2,a3,a4,_⟩:=M1.at_;refine⟨_,rfl,.inl ⟨rfl,_,aw.of hg1⟩,_,rfl,x,dx,fs,rfl,g1,a2,_,rfl,_,rfl,x,s,r,sg,J0,J4,J5,ds,rfl,M1,S1 _ _ hs,fun l H2 hl fr S2=>?_⟩;have hg2:=S2 _ _ hg1;have hlen:((cW ds sg (J9.take i)).map V.str).length+((bo ds (r,sg)).map V.str).length<=aj:=by
   rw[ak,ak];have h1:=nC ds sg (J9.take i);have h2:=pe ds (r,sg);have h3:(J9.take i).length * ds.length<=1000 * 1000:=Nat.mul_le_mul (by rw[aI];omega) z4;have:(1001000:Nat)<=aj:=by decide
   omega
  refine⟨g,l,_,_,rfl,rfl,hg2,hl,hlen,_,rfl,?_,?_⟩
  ·rw[aa,sJ hr,ax]
  ·intro b o q;rw[ag (ae q hg)];exact S2 _ _ (S1 _ _ q)
 ·rintro σ H1 ⟨x4,rfl,hg1,S1⟩;rw[ak,bj]at hg1;refine⟨_,rfl,_,rfl,x,g,cW ds sg J9,J0,J4,J5,ds,rfl,M.same S1,hg1,fun w hw=>?_,fun t' F H' h1 h2 S2=>k t' F H' h1 h2 (S1.trans S2)⟩;obtain⟨r,_,h⟩:=nu.mp hw;exact hdb _ h
theorem nF{ds:List am}{i:Nat}{d:am}{p:am->Bool}(h:ds[i]?=some d):(ds.take (i+1)).filter p=(ds.take i).filter p++(if p d=true then[d]else[]):=by
 rw[take_snoc h,nS];congr 1;by_cases c:p d=true
 ·rw[if_pos c];simp[c]
 ·rw[if_neg c];simp[c]
def uw(K:Za)(sp_with_still:Sp)(C_Machine:Addr)(sp_Machine_rooms:Sp):TS :=
 aR (aV sp_with_still (aM V0 (xb (pH K) (gl C_Machine "rooms" sp_Machine_rooms [] E0 V0 bH) (dR) (fN (tC (.int 1))))))
def vp:List Str:=["M"]
inductive dA(C:Addr)(vs:List V)(H:Hp)(Q:VK)(E:XK):Prop
 |mk (x:Addr) (J0 J4 J5:Zb) (ds:List am):(vs=[.ref x])->(cj C H x J0 J4 J5 ds)->(∀(t':Addr) (F:Zb) (H':Hp),H' t'=some (.tup ((J5.filter fun r=>decide (r∈F)).map V.str))->(∀w,w∈F↔fS ds (J5.take 1) w)->ac H H'->Q (.ref t') H')->dA C vs H Q E
theorem sB{K:Za}{C:Addr}{vs:List V}{H:Hp}{Q:VK}{E:XK}(h:dA C vs H Q E):uw K (sp_with_still C) C (j8 C) (bN Q) (start vp vs) H:=by
 obtain⟨x,J0,J4,J5,ds,rfl,M,k⟩:=h;obtain⟨dx,fs,o1,o2,o3,o4,lv,qu,sgA,sl,ts,lps,gps,sps,g1,a1,a2,a3,a4,_⟩:=M.at_;have c1:fe (J5.map V.str) none (some 1)=(J5.take 1).map V.str:=p8 J5 1;refine⟨_,rfl,_,rfl,x,dx,fs,rfl,g1,a4,x,J0,J4,J5,ds,rfl,M,fun rl hrl=>⟨_,rfl,rl,_,rfl,aw.of aa,fun l hl=>?_⟩⟩;rw[c1];have S:ac H (upd (upd H rl (.lst (J5.map V.str))) l (.lst ((J5.take 1).map V.str))):=(ac.new hrl).trans (ac.new hl);exact⟨x,l,J5.take 1,J0,J4,J5,ds,rfl,M.same S,aa,fun g hg=>eM hg,fun t' F H' h1 h2 S2=>k t' F H' h1 h2 (S.trans S2)⟩
theorem BT{K:Za}{a b:Addr}{xs ys:List V}{g:TG}{tb:TS}{D:nO}{σ:L2.St}{H:Hp}(hxy:xs.length=ys.length)(Pv:Nat->L2.St->Hp->Prop)(h0:Pv 0 σ H)(hl:∀i σ H,i<=xs.length->Pv i σ H->aw K H a xs/\aw K H b ys)
  (hs:∀i x y σ H p,xs[i]?=some x->ys[i]?=some y->Pv i σ H->H p=none->g (.ref p) σ (upd H p (.tup [x,y])) fun σ2 H2=>tb { D with nx:=Pv (i+1),ct:=Pv (i+1),bk:=D.nx } σ2 H2) (hd:∀σ H,Pv xs.length σ H->D.nx σ H) :
  ∃W:Nat->Nat->L2.St->Hp->Prop,(∃m,W 0 m σ H)/\∀i m σ H,W i m σ H ->
   ((Fh K a b).stop i H/\D.nx σ H)∨((Fh K a b).go i H/\∃N:L2.St->Hp->Prop,(∀σ' H',N σ' H'->∃m',m'<m/\W (i+1) m' σ' H')/\∀x H',(Fh K a b).yld i H x H'->g x σ H' fun σ2 H2=>tb { D with nx:=N,ct:=N,bk:=D.nx } σ2 H2):=by
 refine⟨fun i m σ H=>m=xs.length-i/\i<=xs.length/\Pv i σ H,⟨xs.length,by simp,cQ _,h0⟩,?_⟩;rintro i m σ H ⟨rfl,hi,p⟩;obtain⟨q1,q2⟩:=hl i σ H hi p;by_cases hlt:i<xs.length
 ·have hlt2:i<ys.length:=by omega
  refine .inr ⟨⟨xs,ys,xs[i],ys[i],q1,q2,by simp[hlt],by simp[hlt2]⟩,Pv (i+1),fun σ' H' p'=>⟨xs.length-(i+1),by omega,rfl,hlt,p'⟩,fun x H' y=>?_⟩;obtain⟨t,u,v,rfl,hn,hu,hv,rfl⟩:=y;exact hs i u v σ H t (hu xs q1) (hv ys q2) p hn
 ·have e:i=xs.length:=by omega
  subst e;exact .inl ⟨⟨xs,ys,q1,q2,.inl (aG _)⟩,hd σ H p⟩
theorem zH(o:Str)(L:Zb):decide (fW o∈L.map fW)=decide (o∈L):=by
 by_cases c:o∈L
 ·rw[zzr1 (kG.mpr c),zzr1 c]
 ·rw[zzr0 (fun z=>c (kG.mp z)),zzr0 c]
theorem be.same{K:Za}{H H':Hp}{a:Addr}{xs:List V}(S:ac H H')(h:be K H a xs):be K H' a xs:=by
 rcases h with(h|⟨o,h⟩)|h
 ·exact .inl (.inl (S _ _ h))
 ·exact .inl (.inr ⟨o,S _ _ h⟩)
 ·exact .inr h
theorem aw.same{K:Za}{H H':Hp}{a:Addr}{xs:List V}(S:ac H H')(h:aw K H a xs):aw K H' a xs:=by
 rcases h with(h|⟨o,h⟩)|h
 ·exact .inl (.inl (S _ _ h))
 ·exact .inl (.inr ⟨o,S _ _ h⟩)
 ·exact .inr h
mutual
theorem gL.same{K:Za}{H H':Hp}(S:ac H H'):∀{d:DT}{v:V},gL K H d v->gL K H' d v
 |.k a,v,h=>by unfold gL at h ⊢;exact h
 |.t l,v,h=>by
  unfold gL at h ⊢;obtain⟨b,xs,e,q,r⟩:=h;exact⟨b,xs,e,be.same S q,DIns.same S r⟩
 |.s l,v,h=>by
  unfold gL at h ⊢;obtain⟨b,xs,e,q,r⟩:=h;exact⟨b,xs,e,aw.same S q,DIns.same S r⟩
theorem DIns.same{K:Za}{H H':Hp}(S:ac H H'):∀{ds:List DT}{vs:List V},DIns K H ds vs->DIns K H' ds vs
 |[],vs,h=>by unfold DIns at h ⊢;exact h
 |d::ds,vs,h=>by
  unfold DIns at h ⊢;obtain⟨v,us,e,q,r⟩:=h;exact⟨v,us,e,gL.same S q,DIns.same S r⟩
end
theorem DIns.get{K:Za}{H:Hp}:∀{ds:List DT}{vs:List V}{i:Nat}{v:V},DIns K H ds vs->vs[i]?=some v->∃d,ds[i]?=some d/\gL K H d v
 |[],vs,i,v,h,e=>by unfold DIns at h;subst h;simp at e
 |d::ds,vs,i,v,h,e=>by
  unfold DIns at h;obtain⟨v',us,rfl,q,r⟩:=h;cases i with
  |zero=>simp at e;subst e;exact⟨d,rfl,q⟩
  |succ i =>
   simp at e;obtain⟨d',h1,h2⟩:=DIns.get r e;exact⟨d',by simpa using h1,h2⟩
theorem DIns.len{K:Za}{H:Hp}:∀{ds:List DT}{vs:List V},DIns K H ds vs->vs.length=ds.length
 |[],vs,h=>by unfold DIns at h;subst h;rfl
 |d::ds,vs,h=>by
  unfold DIns at h;obtain⟨v',us,rfl,q,r⟩:=h;rw[eG,eG,DIns.len r]
theorem hJ{n:Nat}:∀{ds:List DT}{i:Nat}{d:DT},DT.depths ds<=n->ds[i]?=some d->d.depth<=n
 |[],i,d,_,e=>by simp at e
 |x::ds,i,d,h,e=>by
  have h':max (DT.depth x) (DT.depths ds)<=n:=h;cases i with
  |zero=>simp at e;subst e;omega
  |succ i=>simp at e;exact hJ (by omega) e
theorem zD{l:List DT}{n:Nat}(h:(DT.t l).depth<=n+1):DT.depths l<=n:=by
 have:DT.depths l+1<=n+1:=h;omega
theorem zE{l:List DT}{n:Nat}(h:(DT.s l).depth<=n+1):DT.depths l<=n:=by
 have:DT.depths l+1<=n+1:=h;omega
theorem BZ{l:List DT}{n:Nat}(h:(DT.t l).depth<=n):1<=n:=by
 have:DT.depths l+1<=n:=h;omega
theorem B0{l:List DT}{n:Nat}(h:(DT.s l).depth<=n):1<=n:=by
 have:DT.depths l+1<=n:=h;omega
inductive vZ(K:Za)(n:Nat)(vs:List V)(H:Hp)(Q:VK)(E:XK):Prop
 |mk (x y:V) (d e:DT):(vs=[x,y])->(gL K H d x)->(gL K H e y)->(d.depth<=n)->(e.depth<=n)->(∀H',ac H H'->Q (.bl (decide (d=e))) H')->vZ K n vs H Q E
inductive v2 (vs:List V)(H:Hp)(Q:VK)(E:XK):Prop
 |mk (a b:Bool):(vs=[.bl a,.bl b])->(Q (.bl (decide (a=b))) H)->v2  vs H Q E
def kB(K:Za)(n:Nat):Sp:=fun vs H Q E=>vZ K n vs H Q E∨v2 vs H Q E
inductive Kd(K:Za)(H:Hp):DT->V->Prop
 |int (i:Int):Kd K H (.k (.inl i)) (.int i)
 |str (x:Str):Kd K H (.k (.inr x)) (.str x)
 |tup {a:Addr}{xs:List V}{l:List DT}(q:be K H a xs) (r:DIns K H l xs):Kd K H (.t l) (.ref a)
 |lst {a:Addr}{xs:List V}{l:List DT}(q:aw K H a xs) (r:DIns K H l xs):Kd K H (.s l) (.ref a)
theorem gL.kd{K:Za}{H:Hp}:∀{d:DT}{v:V},gL K H d v->Kd K H d v
 |.k (.inl i),v,h=>by unfold gL at h;subst h;exact .int i
 |.k (.inr x),v,h=>by unfold gL at h;subst h;exact .str x
 |.t l,v,h=>by
  unfold gL at h;obtain⟨b,xs,rfl,q,r⟩:=h;exact .tup q r
 |.s l,v,h=>by
  unfold gL at h;obtain⟨b,xs,rfl,q,r⟩:=h;exact .lst q r
theorem i9(c:Bool):(!decide (V.bl c=V.bl c))=false:=by rw[zzr1 rfl];rfl
theorem o7{K:Za}{sp:Sp}{H:Hp}{Q:VK}{x:V}{b:Addr}{t:Value}(ty:zQ K H (.ref b) t)(hi:mB K t (.type "int")=some false)(hs:mB K t (.type "str")=some false)
  (k:(ar (bX (wO (aN (aJ wQ (cK (f8 K) (aM V1 (tC (.ty "tuple")))) (cK (f8 K) (aM V0 (tC (.ty "tuple")))))) (aN (aJ wQ (cK (f8 K) (aM V1 (tC (.ty "list")))) (cK (f8 K) (aM V0 (tC (.ty "list"))))))) (aR (tC (.bl false))) (bc))
 (ar (bX (aN (aJ wQ (cK (dL K) (aD V0)) (cK (dL K) (aD V1)))) (aR (tC (.bl false))) (bc))
 (ar (eg (wo K (aM V0 V1)) (gA K 2 (bb U2 (bb U3 (ga)))) (bX (mK (tB (aV sp (aM V2 V3)))) (aR (tC (.bl false))) (bc)))
 (aR (tC (.bl true)))))) (bN Q) [some x,some (.ref b),none,none] H) :
  qS K sp (bN Q) [some x,some (.ref b),none,none] H:=by
 have e1:decide (V.ref b=V.non)=false:=zzr0 nofun;have e2:∀c,decide (V.ref b=V.bl c)=false:=fun c=>zzr0 nofun;refine⟨_,rfl,_,rfl,?_⟩;rw[e1];refine aU ?_;refine⟨_,rfl,_,rfl,_,rfl,?_⟩;rw[e2];refine aU ?_;refine⟨_,rfl,_,rfl,_,rfl,?_⟩;rw[e2];refine aU ?_;refine⟨_,rfl,.ref b,"int",t,false,rfl,ty,hi,_,rfl,aU ?_⟩;refine⟨_,rfl,.ref b,"str",t,false,rfl,ty,hs,_,rfl,aU ?_⟩;exact k
theorem Be{K:Za}{n:Nat}(hn:n<=8){sp:Sp}(hsp:∀m,n=m+1->sp=kB K m){vs:List V}{H:Hp}{Q:VK}{E:XK}(h:kB K n vs H Q E):qS K sp (bN Q) (start yt vs) H:=by
 rcases h with h|h;rotate_left
 ·obtain⟨a,b,rfl,k⟩:=h;have e1:decide (V.bl b=V.non)=false:=zzr0 nofun;have e2:∀c,decide (V.bl b=V.bl c)=decide (b=c):=fun c=>by cases b<;>cases c<;>rfl
  have e3:∀c,decide (V.bl a=V.bl c)=decide (a=c):=fun c=>by cases a<;>cases c<;>rfl
  refine⟨_,rfl,_,rfl,?_⟩;rw[e1];refine aU ?_;refine⟨_,rfl,_,rfl,_,rfl,?_⟩;rw[e2];cases b with
  |true =>
   refine cr ?_;refine⟨_,rfl,_,rfl,?_⟩;rw[e3];exact k
  |false =>
   refine aU ?_;refine⟨_,rfl,_,rfl,_,rfl,?_⟩;rw[e2];refine cr ?_;refine⟨_,rfl,_,rfl,?_⟩;rw[e3];exact k
 obtain⟨x,y,d,e,rfl,hd,he,zd,ze,k⟩:=h;have k0:=k H (ac.refl H);have he':=gL.kd he;have hd':=gL.kd hd;cases he' with
 |int i =>
  have e1:decide (V.int i=V.non)=false:=zzr0 nofun;have e2:∀c,decide (V.int i=V.bl c)=false:=fun c=>zzr0 nofun;refine⟨_,rfl,_,rfl,?_⟩;rw[e1];refine aU ?_;refine⟨_,rfl,_,rfl,_,rfl,?_⟩;rw[e2];refine aU ?_;refine⟨_,rfl,_,rfl,_,rfl,?_⟩;rw[e2];refine aU ?_;refine⟨_,rfl,.int i,"int",_,true,rfl,.inl (gg.int i),rfl,_,rfl,cr ?_⟩;cases hd' with
  |int j =>
   refine⟨_,rfl,.int j,"int",_,true,rfl,.inl (gg.int j),rfl,_,rfl,cr ?_⟩;refine⟨_,rfl,.int j,"bool",_,false,rfl,.inl (gg.int j),rfl,_,rfl,_,rfl,cr ?_⟩;exact⟨_,rfl,_,rfl,_,_,hd,he,by omega,by omega,k0⟩
  |str z =>
   refine⟨_,rfl,.str z,"int",_,false,rfl,.inl (gg.str z),rfl,_,rfl,aU ?_⟩;rw[zzr0 nofun]at k0;exact k0
  |tup q r =>
   refine⟨_,rfl,.ref _,"int",_,false,rfl,.inr (.inl ⟨_,_,rfl,rfl,q⟩),rfl,_,rfl,aU ?_⟩;rw[zzr0 nofun]at k0;exact k0
  |lst q r =>
   refine⟨_,rfl,.ref _,"int",_,false,rfl,.inr (.inr ⟨_,_,rfl,rfl,q⟩),rfl,_,rfl,aU ?_⟩;rw[zzr0 nofun]at k0;exact k0
 |str b =>
  have e1:decide (V.str b=V.non)=false:=zzr0 nofun;have e2:∀c,decide (V.str b=V.bl c)=false:=fun c=>zzr0 nofun;refine⟨_,rfl,_,rfl,?_⟩;rw[e1];refine aU ?_;refine⟨_,rfl,_,rfl,_,rfl,?_⟩;rw[e2];refine aU ?_;refine⟨_,rfl,_,rfl,_,rfl,?_⟩;rw[e2];refine aU ?_;refine⟨_,rfl,.str b,"int",_,false,rfl,.inl (gg.str b),rfl,_,rfl,aU ?_⟩;refine⟨_,rfl,.str b,"str",_,true,rfl,.inl (gg.str b),rfl,_,rfl,cr ?_⟩;cases hd' with
  |int j =>
   refine⟨_,rfl,.int j,"str",_,false,rfl,.inl (gg.int j),rfl,_,rfl,aU ?_⟩;rw[zzr0 nofun]at k0;exact k0
  |str z =>
   refine⟨_,rfl,.str z,"str",_,true,rfl,.inl (gg.str z),rfl,_,rfl,cr ?_⟩;exact⟨_,rfl,_,rfl,_,_,hd,he,by omega,by omega,k0⟩
  |tup q r =>
   refine⟨_,rfl,.ref _,"str",_,false,rfl,.inr (.inl ⟨_,_,rfl,rfl,q⟩),rfl,_,rfl,aU ?_⟩;rw[zzr0 nofun]at k0;exact k0
  |lst q r =>
   refine⟨_,rfl,.ref _,"str",_,false,rfl,.inr (.inr ⟨_,_,rfl,rfl,q⟩),rfl,_,rfl,aU ?_⟩;rw[zzr0 nofun]at k0;exact k0
 |@tup b ys le qe re =>
  have ty:zQ K H (.ref b) (.type "tuple"):=.inr (.inl ⟨_,_,rfl,rfl,qe⟩);refine o7 ty rfl rfl ?_;have no:∀(t:Value),zQ K H x t->mB K t (.type "tuple")=some false->¬d=.t le->(ar (bX (wO (aN (aJ wQ (cK (f8 K) (aM V1 (tC (.ty "tuple")))) (cK (f8 K) (aM V0 (tC (.ty "tuple")))))) (aN (aJ wQ (cK (f8 K) (aM V1 (tC (.ty "list")))) (cK (f8 K) (aM V0 (tC (.ty "list"))))))) (aR (tC (.bl false))) (bc))
 (ar (bX (aN (aJ wQ (cK (dL K) (aD V0)) (cK (dL K) (aD V1)))) (aR (tC (.bl false))) (bc))
 (ar (eg (wo K (aM V0 V1)) (gA K 2 (bb U2 (bb U3 (ga)))) (bX (mK (tB (aV sp (aM V2 V3)))) (aR (tC (.bl false))) (bc)))
 (aR (tC (.bl true)))))) (bN Q) [some x,some (.ref b),none,none] H:=by
   intro t tx kt ne;refine⟨_,rfl,.ref b,"tuple",_,true,rfl,ty,rfl,_,rfl,x,"tuple",t,false,rfl,tx,kt,rfl,_,rfl,?_⟩;have:(!decide (V.bl true=V.bl false))=true:=rfl;rw[this];refine cr (cr ?_);rw[zzr0 ne]at k0;exact k0
  cases hd' with
  |int j=>exact no _ (.inl (gg.int j)) rfl nofun
  |str z=>exact no _ (.inl (gg.str z)) rfl nofun
  |lst q r=>exact no _ (.inr (.inr ⟨_,_,rfl,rfl,q⟩)) rfl nofun
  |@tup f xs ld qd rd =>
   clear no;have tyd:zQ K H (.ref f) (.type "tuple"):=.inr (.inl ⟨_,_,rfl,rfl,qd⟩);refine⟨_,rfl,.ref b,"tuple",_,true,rfl,ty,rfl,_,rfl,.ref f,"tuple",_,true,rfl,tyd,rfl,rfl,_,rfl,?_⟩;rw[i9];refine aU ?_;refine⟨_,rfl,.ref b,"list",_,false,rfl,ty,rfl,_,rfl,.ref f,"list",_,false,rfl,tyd,rfl,rfl,_,rfl,?_⟩;rw[i9];refine aU ?_;refine⟨_,rfl,.inl ⟨f,_,rfl,.inr qd,_,rfl,.inl ⟨b,_,rfl,.inr qe,rfl,_,rfl,?_⟩⟩⟩;by_cases hl:xs.length=ys.length;rotate_left
   ·have en:(!decide (V.int (xs.length:Nat)=V.int (ys.length:Nat)))=true:=by
     rw[zzr0 (fun z=>hl (by injection z with z;omega))];rfl
    rw[en];refine cr ?_;rw[zzr0 (fun z=>hl (by rw[DIns.len rd,DIns.len re];injection z with z;rw[z]))]at k0;exact k0
   have en:(!decide (V.int (xs.length:Nat)=V.int (ys.length:Nat)))=false:=by
    rw[zzr1 (by rw[hl])];rfl
   rw[en];refine aU ?_;obtain⟨m,rfl⟩:∃m,n=m+1:=⟨n-1,by have:=BZ zd;omega⟩;obtain rfl:=hsp m rfl;refine⟨_,rfl,_,rfl,f,b,rfl,.inr ⟨⟨_,qd⟩,⟨_,qe⟩,?_⟩⟩;refine BS (xs:=xs) (ys:=ys) hl (fun i σ H'=>∃x y,σ=[some (.ref f),some (.ref b),x,y]/\ac H H'/\ld.take i=le.take i)
    ⟨_,_,rfl,ac.refl H,rfl⟩ (fun i σ H' _ zq=>by obtain⟨_,_,_,S,_⟩:=zq;exact⟨be.same S qd,be.same S qe⟩) ?_ ?_
   ·rintro i x y σ H' p hx hy ⟨x2,x3,rfl,S,ht⟩ hp;obtain⟨du,hdu,du'⟩:=DIns.get rd hx;obtain⟨eu,heu,eu'⟩:=DIns.get re hy;have S':=S.trans (ac.new (o:=.tup [x,y]) hp);refine⟨p,_,rfl,be.of aa,rfl,_,_,rfl,_,_,rfl,rfl,?_⟩;refine⟨_,rfl,_,rfl,.inl ⟨x,y,du,eu,rfl,gL.same S' du',gL.same S' eu',hJ (zD zd) hdu,hJ (zD ze) heu,fun H'' S''=>⟨_,rfl,?_⟩⟩⟩;by_cases c:du=eu
    ·rw[zzr1 c];refine aU ⟨_,_,rfl,S'.trans S'',?_⟩;rw[take_snoc hdu,take_snoc heu,ht,c]
    ·rw[zzr0 c];refine cr ?_;have:=k _ (S'.trans S'');rw[zzr0 (fun z=>c (by injection z with z;rw[z,heu]at hdu;exact(dI hdu).symm))]at this;exact this
   ·rintro σ H' ⟨x,y,rfl,S,ht⟩;have:=k _ S;rw[zzr1 (by rw[DIns.len rd,bj,<-DIns.len rd,hl,DIns.len re,bj]at ht;rw[ht])]at this;exact this
 |@lst b ys le qe re =>
  have ty:zQ K H (.ref b) (.type "list"):=.inr (.inr ⟨_,_,rfl,rfl,qe⟩);refine o7 ty rfl rfl ?_;have no:∀(t:Value),zQ K H x t->mB K t (.type "tuple")=some false->mB K t (.type "list")=some false->¬d=.s le->(ar (bX (wO (aN (aJ wQ (cK (f8 K) (aM V1 (tC (.ty "tuple")))) (cK (f8 K) (aM V0 (tC (.ty "tuple")))))) (aN (aJ wQ (cK (f8 K) (aM V1 (tC (.ty "list")))) (cK (f8 K) (aM V0 (tC (.ty "list"))))))) (aR (tC (.bl false))) (bc))
 (ar (bX (aN (aJ wQ (cK (dL K) (aD V0)) (cK (dL K) (aD V1)))) (aR (tC (.bl false))) (bc))
 (ar (eg (wo K (aM V0 V1)) (gA K 2 (bb U2 (bb U3 (ga)))) (bX (mK (tB (aV sp (aM V2 V3)))) (aR (tC (.bl false))) (bc)))
 (aR (tC (.bl true)))))) (bN Q) [some x,some (.ref b),none,none] H:=by
   intro t tx kt kl ne;refine⟨_,rfl,.ref b,"tuple",_,false,rfl,ty,rfl,_,rfl,x,"tuple",t,false,rfl,tx,kt,rfl,_,rfl,?_⟩;rw[i9];refine aU ?_;refine⟨_,rfl,.ref b,"list",_,true,rfl,ty,rfl,_,rfl,x,"list",t,false,rfl,tx,kl,rfl,_,rfl,?_⟩;have:(!decide (V.bl true=V.bl false))=true:=rfl;rw[this];refine cr ?_;rw[zzr0 ne]at k0;exact k0
  cases hd' with
  |int j=>exact no _ (.inl (gg.int j)) rfl rfl nofun
  |str z=>exact no _ (.inl (gg.str z)) rfl rfl nofun
  |tup q r =>
   refine⟨_,rfl,.ref b,"tuple",_,false,rfl,ty,rfl,_,rfl,.ref _,"tuple",_,true,rfl,.inr (.inl ⟨_,_,rfl,rfl,q⟩),rfl,rfl,_,rfl,?_⟩;have:(!decide (V.bl false=V.bl true))=true:=rfl;rw[this];refine cr (cr ?_);rw[zzr0 nofun]at k0;exact k0
  |@lst f xs ld qd rd =>
   clear no;have tyd:zQ K H (.ref f) (.type "list"):=.inr (.inr ⟨_,_,rfl,rfl,qd⟩);refine⟨_,rfl,.ref b,"tuple",_,false,rfl,ty,rfl,_,rfl,.ref f,"tuple",_,false,rfl,tyd,rfl,rfl,_,rfl,?_⟩;rw[i9];refine aU ?_;refine⟨_,rfl,.ref b,"list",_,true,rfl,ty,rfl,_,rfl,.ref f,"list",_,true,rfl,tyd,rfl,rfl,_,rfl,?_⟩;rw[i9];refine aU ?_;refine⟨_,rfl,.inl ⟨f,_,rfl,.inl qd,_,rfl,.inl ⟨b,_,rfl,.inl qe,rfl,_,rfl,?_⟩⟩⟩;by_cases hl:xs.length=ys.length;rotate_left
   ·have en:(!decide (V.int (xs.length:Nat)=V.int (ys.length:Nat)))=true:=by
     rw[zzr0 (fun z=>hl (by injection z with z;omega))];rfl
    rw[en];refine cr ?_;rw[zzr0 (fun z=>hl (by rw[DIns.len rd,DIns.len re];injection z with z;rw[z]))]at k0;exact k0
   have en:(!decide (V.int (xs.length:Nat)=V.int (ys.length:Nat)))=false:=by
    rw[zzr1 (by rw[hl])];rfl
   rw[en];refine aU ?_;obtain⟨m,rfl⟩:∃m,n=m+1:=⟨n-1,by have:=B0 zd;omega⟩;obtain rfl:=hsp m rfl;refine⟨_,rfl,_,rfl,f,b,rfl,.inl ⟨⟨_,qd⟩,⟨_,qe⟩,?_⟩⟩;refine BT (xs:=xs) (ys:=ys) hl (fun i σ H'=>∃x y,σ=[some (.ref f),some (.ref b),x,y]/\ac H H'/\ld.take i=le.take i)
    ⟨_,_,rfl,ac.refl H,rfl⟩ (fun i σ H' _ zq=>by obtain⟨_,_,_,S,_⟩:=zq;exact⟨aw.same S qd,aw.same S qe⟩) ?_ ?_
   ·rintro i x y σ H' p hx hy ⟨x2,x3,rfl,S,ht⟩ hp;obtain⟨du,hdu,du'⟩:=DIns.get rd hx;obtain⟨eu,heu,eu'⟩:=DIns.get re hy;have S':=S.trans (ac.new (o:=.tup [x,y]) hp);refine⟨p,_,rfl,be.of aa,rfl,_,_,rfl,_,_,rfl,rfl,?_⟩;refine⟨_,rfl,_,rfl,.inl ⟨x,y,du,eu,rfl,gL.same S' du',gL.same S' eu',hJ (zE zd) hdu,hJ (zE ze) heu,fun H'' S''=>⟨_,rfl,?_⟩⟩⟩;by_cases c:du=eu
    ·rw[zzr1 c];refine aU ⟨_,_,rfl,S'.trans S'',?_⟩;rw[take_snoc hdu,take_snoc heu,ht,c]
    ·rw[zzr0 c];refine cr ?_;have:=k _ (S'.trans S'');rw[zzr0 (fun z=>c (by injection z with z;rw[z,heu]at hdu;exact(dI hdu).symm))]at this;exact this
   ·rintro σ H' ⟨x,y,rfl,S,ht⟩;have:=k _ S;rw[zzr1 (by rw[DIns.len rd,bj,<-DIns.len rd,hl,DIns.len re,bj]at ht;rw[ht])]at this;exact this
def Ba(K:Za)(sp_law_still_on:Sp):TS :=
 ar (bg (aV sp_law_still_on (aM (aJ (o8 K) V0 (tC (.int 3))) V1)) U2)
 (aR (cK (yW K) (aH (c9 1 [2] (ca K (aJ (o8 K) V0 (tC (.int 2)))) U0 (aN (aJ (uN K false) V0 V1)) V0) bH)))
def Cc:List Str:=["told","some","there"]
def qU(K:Za):TS :=
 aR (aJ (sF K) (c9 1 [1] (ca K (aJ (o8 K) V0 (tC (.int 3)))) U0 (sv (aN (aJ (sF K) (aJ (o8 K) V0 (tC (.int 0))) V1)) (aN (aJ wQ (aJ (o8 K) (aJ (o8 K) V0 (tC (.int 1))) (tC (.int 0))) (tC (.str "ask"))))) V0) (dE (bH)))
def rX:List Str:=["told","room"]
def uv(K:Za)(sp_law_on:Sp)(sp_law_is_quiet:Sp):TS :=
 ar (bX (aN (aJ (sF K) V2 (dJ (aD (tC (.str "hush")))))) (aR (cK (yW K) (aD (c9 1 [0] (C7 K V1) U0 (tB (aV sp_law_is_quiet (aM V1 V0))) V0)))) (bc))
 (aR (aV sp_law_on (aH V0 (aH (c9 1 [1,2] (ca K (aJ (o8 K) V0 (tC (.int 3)))) U0 (sv (aN (aJ (uN K false) (aJ (o8 K) V0 (tC (.int 0))) V1)) (aN (aJ (sF K) (aJ (o8 K) V0 (tC (.int 1))) V2))) (aJ (o8 K) V0 (tC (.int 2)))) bH))))
def vo:List Str:=["told","face","sign"]
def vO(K:Za):TS :=
 aR (aJ oA (aJ oA (c9 1 [] (ca K (aJ (o8 K) V0 (tC (.int 0)))) U0 (jS) (dJ (aM (tC (.str "ask")) V0))) (c9 1 [] (ca K (aJ (o8 K) V0 (tC (.int 1)))) U0 (jS) (dJ (aM (tC (.str "say")) V0)))) (dE (aD (dJ (aD (tC (.str "hush")))))))
def wH:List Str:=["told"]
open Classical in
def closF(J5:Zb)(ds:List am)(gs:Zb):List Str:=J5.filter fun r=>decide (fS ds gs r)
open Classical in
theorem rP{J5 F gs:Zb}{ds:List am}(hF:∀w,w∈F↔fS ds gs w):J5.filter (fun r=>decide (r∈F))=closF J5 ds gs:=by
 unfold closF;refine List.filter_congr fun r _=>?_;by_cases c:r∈F
 ·rw[zzr1 c,zzr1 ((hF r).mp c)]
 ·rw[zzr0 c,zzr0 fun z=>c ((hF r).mpr z)]
open Classical in
theorem wC{J5 gs gs':Zb}{ds:List am}(h:∀g,g∈gs↔g∈gs'):closF J5 ds gs=closF J5 ds gs':=by
 have:∀r,fS ds gs r↔fS ds gs' r:=fun r=>⟨fun⟨g,hg,e⟩=>⟨g,(h g).mp hg,e⟩,fun⟨g,hg,e⟩=>⟨g,(h g).mpr hg,e⟩⟩;unfold closF;refine List.filter_congr fun r _=>?_;by_cases c:fS ds gs r
 ·rw[zzr1 c,zzr1 ((this r).mp c)]
 ·rw[zzr0 c,zzr0 fun z=>c ((this r).mpr z)]
def behF(J5:Zb)(ds:List am)(J9 sg:Zb):List Str:=if sg=cg then J9.filter (fun r=>decide (r∉f_ ds))else closF J5 ds (cW ds sg J9)
theorem Bp{J5:Zb}{ds:List am}{fc:Zb}(hfc:∀r∈fc,r∈J5):(fc.filter fun r=>decide (r∈J5.filter (eP ds)))=fc.filter fun r=>decide (r∉f_ ds):=by
 refine List.filter_congr fun r hr=>?_;rw[<-xF];cases q:eP ds r with
 |true=>exact zzr1 (d9.mpr ⟨hfc r hr,q⟩)
 |false=>exact zzr0 (fun z=>by rw[(d9.mp z).2]at q;cases q)
inductive pU(K:Za)(C:Addr)(vs:List V)(H:Hp)(Q:VK)(E:XK):Prop
 |mk (x t s:Addr) (J9 sg J0 J4 J5:Zb) (ds:List am):(vs=[.ref x,.ref t,.ref s])->(cj C H x J0 J4 J5 ds)->(H t=some (.tup (J9.map V.str)))->(be K H s (sg.map V.str))->((sg=cg∨H s=some (.tup (sg.map V.str))))->((∀r∈J9,r∈J5))->(J9.length<=1000)->(∀(t':Addr) (H':Hp),H' t'=some (.tup ((behF J5 ds J9 sg).map V.str))->ac H H'->Q (.ref t') H')->pU K C vs H Q E
theorem CJ{K:Za}{C hu:Addr}(hhu:∀H,be K H hu (cg.map V.str)){vs:List V}{H:Hp}{Q:VK}{E:XK}(h:pU K C vs H Q E):
  k9 K (sp_with_still C) C (iX C) hu (ig C) (bN Q) (start lg vs) H:=by
 obtain⟨x,t,s,J9,sg,J0,J4,J5,ds,rfl,M,ht,hs,hor,hsub,hz,k⟩:=h;by_cases hh:sg=cg;rotate_left
 ·refine uM (E:=E) hhu ⟨x,t,s,J9,sg,J0,J4,J5,ds,rfl,M,ht,hor.resolve_left hh,hh,hz,fun t' F H' h1 hF S=>k t' H' ?_ S⟩;rw[h1,rP hF];unfold behF;rw[if_neg hh]
 subst hh;refine⟨_,rfl,eI cg,eI cg,aP hs,aP (hhu _),by rw[br];decide,by rw[br];decide,_,rfl,?_⟩;rw[zzr1 rfl];refine cr ?_;refine⟨_,rfl,t,rfl,⟨_,be.of ht⟩,fun f hf=>?_⟩
 let zI0:Nat->List V->Hp->Prop:=fun i vs H'=>vs=((J9.take i).filter fun r=>decide (r∈J5.filter (eP ds))).map V.str/\ac H H'/\H' f=some (.lst vs)
 refine wB (xs:=J9.map V.str) zI0 ⟨rfl,ac.new hf,aa⟩ (fun i vs H' _ zq=>by obtain⟨_,S,h'⟩:=zq;exact⟨h',be.of (S _ _ ht)⟩) ?_ ?_
 ·rintro vs H' ⟨rfl,S,f'⟩;rw[ak,bj]at f';refine⟨f,_,rfl,.inl ⟨aw.of f',fun t' ht'=>k t' _ ?_ (S.trans (ac.new ht'))⟩⟩;rw[aa,Bp hsub];unfold behF;rw[if_pos rfl]
 ·rintro i vs H' x' hx' hi ⟨rfl,S,f'⟩;obtain⟨r,hr,rfl⟩:=b_ hx';have M':=M.same S;obtain⟨dx,fs,o1,o2,o3,o4,lv,qu,sgA,sl,ts,lps,gps,sps,g1,a1,_⟩:=M'.at_;refine gN ?_;refine⟨_,rfl,x,dx,fs,rfl,g1,a1,_,rfl,x,r,J0,J4,J5,ds,rfl,M',_,rfl,?_⟩;have hlen:(((J9.take i).filter fun r=>decide (r∈J5.filter (eP ds))).map V.str).length<aj:=by
   rw[ak];refine ao (bq (eL _ _) ?_);rw[aI];omega
  refine nB (fun hq=>?_) (fun hq=>?_)
  ·refine⟨_,rfl,f',hlen,o9 hi ⟨?_,?_,aa⟩⟩
   ·rw[ck hr,if_pos hq,ax];rfl
   ·intro b o q;rw[ag (ae q hf)];exact S _ _ q
  ·refine o9 hi ⟨?_,S,f'⟩;rw[ck hr,if_neg hq,d_]
inductive v3 (vs:List V)(H:Hp)(Q:VK)(E:XK):Prop
 |mk (t l l1 l2 l3 l4:Addr) (ts:Ze) (J0 J4 J5 gs:Zb) (ds:List am):(vs=[.ref t,.ref l])->(kj H t l1 l2 l3 l4 ts J0 J4 J5 ds)->(bC J0 J4 J5 ds)->(H l=some (.lst (gs.map V.str)))->(gs.length<=1000)->(∀(t':Addr) (H':Hp),H' t'=some (.tup ((closF J5 ds gs).map V.str))->ac H H'->Q (.ref t') H')->v3  vs H Q E
theorem EL{K:Za}{vs:List V}{H:Hp}{Q:VK}{E:XK}(h:v3 vs H Q E):Ba K (fP K) (bN Q) (start Cc vs) H:=by
 obtain⟨t,l,l1,l2,l3,l4,ts,J0,J4,J5,gs,ds,rfl,T,m,hl,hz,k⟩:=h;have z3:=m.rooms26;refine⟨_,rfl,.inr (.inl ⟨t,_,3,_,rfl,rfl,be.of T.t,rfl,_,rfl,l4,l,ts,ds,gs,J5,rfl,T.a4,T.ds,hl,fun d hd=>(m.good d hd).b,by omega,hz,fun th F H1 hth hF hFl fr S1=>?_⟩)⟩;have T1:=T.same S1;refine⟨_,rfl,.inr (.inl ⟨t,_,2,_,rfl,rfl,be.of T1.t,rfl,l3,rfl,⟨_,aw.of T1.a3⟩,fun f hf=>?_⟩)⟩
 let zI1:Nat->List V->Hp->Prop:=fun i vs H'=>vs=((J5.take i).filter fun r=>decide (r∈F)).map V.str/\ac H1 H'/\H' f=some (.lst vs)
 refine cu (xs:=J5.map V.str) zI1 ⟨rfl,ac.new hf,aa⟩ (fun i vs H' _ zq=>by obtain⟨_,S,h'⟩:=zq;exact⟨h',aw.of (S _ _ T1.a3)⟩) ?_ ?_
 ·rintro vs H' ⟨rfl,S,f'⟩;rw[ak,bj,rP hF]at f';exact⟨f,_,rfl,.inl ⟨aw.of f',fun t' ht'=>k t' _ aa ((S1.trans S).trans (ac.new ht'))⟩⟩
 ·rintro i vs H' x' hx' hi ⟨rfl,S,f'⟩;obtain⟨r,hr,rfl⟩:=b_ hx';refine gN ?_;refine⟨_,rfl,_,rfl,fW r,F.map fW,th,_,lf r,rfl,.inl (aw.of (S _ _ hth)),lZ _,(by show 0<=8;decide),by rw[hC];decide,_,rfl,?_⟩;rw[if_neg fj,zH];have hlen:(((J5.take i).filter fun r=>decide (r∈F)).map V.str).length<aj:=by
   rw[ak];refine ao (bq (eL _ _) ?_);rw[aI];omega
  refine nB (fun hq=>?_) (fun hq=>?_)
  ·refine⟨_,rfl,f',hlen,o9 hi ⟨?_,?_,aa⟩⟩
   ·rw[ck hr,if_pos hq,ax];rfl
   ·intro b o q;rw[ag (ae q hf)];exact S _ _ q
  ·refine o9 hi ⟨?_,S,f'⟩;rw[ck hr,if_neg hq,d_]
theorem x9(ds:List am):DT.depths (ds.map u_)<=2:=by
 induction ds with
 |nil=>exact cQ _
 |cons x xs ih=>rw[bh];show max (DT.depth (u_ x)) (DT.depths _)<=2;rw[u9];omega
theorem Ab{J0 J4 J5:Zb}{dr:am}(g:Cj J0 J4 J5 dr):∃s0 rest,dr.sg=s0::rest/\(!decide (V.str s0=V.str ("ask":Str)))=!fh dr:=by
 obtain⟨s0,rest,hsg⟩:∃s0 rest,dr.sg=s0::rest:=by
  rcases g.sg with⟨w,_,e⟩|⟨w,_,e⟩|e<;>exact⟨_,_,e⟩
 refine⟨s0,rest,hsg,?_⟩;unfold fh;rw[hsg];congr 1;show _=decide (s0=("ask":Str));by_cases c:s0=("ask":Str)
 ·rw[zzr1 c,zzr1 (by rw[c])]
 ·rw[zzr0 c,zzr0 (fun z=>c (by injection z))]
inductive kC (vs:List V)(H:Hp)(Q:VK)(E:XK):Prop
 |mk (t l1 l2 l3 l4:Addr) (ts:Ze) (J0 J4 J5:Zb) (ds:List am) (r:Str):(vs=[.ref t,.str r])->(kj H t l1 l2 l3 l4 ts J0 J4 J5 ds)->(bC J0 J4 J5 ds)->(∀H',ac H H'->Q (.bl (decide (r∉f_ ds))) H')->kC  vs H Q E
theorem Af{K:Za}{vs:List V}{H:Hp}{Q:VK}{E:XK}(h:kC vs H Q E):qU K (bN Q) (start rX vs) H:=by
 obtain⟨t,l1,l2,l3,l4,ts,J0,J4,J5,ds,r,rfl,T,m,k⟩:=h;have z4:=m.few;refine⟨_,rfl,.inr (.inl ⟨t,_,3,_,rfl,rfl,be.of T.t,rfl,l4,rfl,⟨_,aw.of T.a4⟩,fun f hf=>?_⟩)⟩
 let zI2:Nat->List V->Hp->Prop:=fun i vs H'=>∃us:List Addr,vs=us.map V.ref/\ac H H'/\H' f=some (.lst vs)/\da H' us ((ds.take i).filter fun d=>decide (d.a=r) && !fh d)
 refine cu (xs:=ts.map V.ref) zI2 ⟨[],rfl,ac.new hf,aa,.nil⟩ (fun i vs H' _ zq=>by obtain⟨_,_,S,h',_⟩:=zq;exact⟨h',aw.of (S _ _ T.a4)⟩) ?_ ?_;rotate_left
 ·rintro i vs H' x' hx' hi ⟨us,rfl,S,f',hP⟩;obtain⟨u,hu,rfl⟩:=bT hx';obtain⟨dr,hdr,hatd⟩:=Paired.getL T.ds hu;have hat':=hatd.kt (ac.kt S);obtain⟨sb,ht2,hs2⟩:=hatd.kt (ac.kt S);obtain⟨s0,rest,hsg,ea⟩:=Ab (m.good dr (a_ hdr));unfold SignAt at hs2;rw[hsg]at hs2;have keep:(decide (dr.a=r) && !fh dr)=false->∃m',m'<(ts.map V.ref).length-i/\Wc (ts.map V.ref).length (fun i vs H'=>∃us:List Addr,vs=us.map V.ref/\ac H H'/\H' f=some (.lst vs)/\da H' us ((ds.take i).filter fun d=>decide (d.a=r) && !fh d)) (i+1) m' (us.map V.ref) H':=by
   intro z;refine o9 hi ⟨us,rfl,S,f',?_⟩;rw[nF hdr,if_neg (by rw[z];decide),d_];exact hP
  refine gN ?_;refine⟨_,rfl,.inr (.inl ⟨u,_,0,_,rfl,rfl,be.of ht2,rfl,_,rfl,fW dr.a,fW r,lf _,lf _,(by show 0<=8;decide),(by show 0<=8;decide),_,rfl,?_⟩)⟩;rw[zG];by_cases c1:dr.a=r;rotate_left
  ·rw[zzr0 c1];exact aU (aU (keep (by rw[zzr0 c1];rfl)))
  rw[zzr1 c1];refine cr ?_;refine⟨_,rfl,.inr (.inl ⟨u,_,1,_,rfl,rfl,be.of ht2,rfl,.inr (.inl ⟨sb,_,0,.str s0,rfl,rfl,be.of hs2,bQ (j:=0) rfl,rfl,_,rfl,?_⟩)⟩)⟩;rw[ea];cases q:fh dr with
  |true=>exact aU (keep (by rw[q,zzr1 c1];rfl))
  |false =>
   refine cr ?_;refine⟨_,rfl,f',?_,o9 hi ⟨us++[u],by rw[ax];rfl,?_,aa,?_⟩⟩
   ·rw[ak,Paired.length hP];refine ao (bq (eL _ _) ?_);rw[aI];omega
   ·intro b o q;rw[ag (ae q hf)];exact S _ _ q
   ·rw[nF hdr,if_pos (by rw[q,zzr1 c1];rfl)];have hk:jU H' (upd H' f (.lst (us.map V.ref++[.ref u]))):=fA f';exact dC (hP.kt hk) (hat'.kt hk)
 rintro vs H1 ⟨us,rfl,S1,f1,hP⟩;rw[ak,Paired.length T.ds,bj]at hP;refine⟨(by show 0<=aj;decide),fun e he=>⟨.s ((ds.filter fun d=>decide (d.a=r) && !fh d).map u_),.s [],?_,gC (aw.of aa),?_,by decide,?_⟩⟩
 ·unfold gL;exact⟨f,_,rfl,aw.of (kp f1 he),da.dIns (hP.kt (ac.kt (ac.new he)))⟩
 ·show DT.depths _+1<=8;have:=x9 (ds.filter fun d=>decide (d.a=r) && !fh d);omega
 have ed:decide (DT.s ((ds.filter fun d=>decide (d.a=r) && !fh d).map u_)=DT.s [])=decide (r∉f_ ds):=by
  by_cases c:r∈f_ ds
  ·have e0:decide (r∉f_ ds)=false:=zzr0 (fun z=>z c);rw[e0];refine zzr0 fun z=>?_;injection z with z;unfold f_ at c;obtain⟨d,hd,e1⟩:=aT.mp c;obtain⟨h1,h2⟩:=d9.mp hd;have:u_ d∈(ds.filter fun d=>decide (d.a=r) && !fh d).map u_:=fm (d9.mpr ⟨h1,by rw[zzr1 e1,h2];rfl⟩);rw[z]at this;cases this
  ·have e0:decide (r∉f_ ds)=true:=zzr1 c;rw[e0];refine zzr1 ?_;have:(ds.filter fun d=>decide (d.a=r) && !fh d)=[]:=by
    rw[List.filter_eq_nil_iff];intro d hd z;rw[ue]at z;exact c (aT.mpr ⟨d,d9.mpr ⟨hd,z.2⟩,of_decide_eq_true z.1⟩)
   rw[this]
   rfl
 rw[ed];exact k _ (S1.trans (ac.new he))
abbrev km(H:Hp)(us:Ze)(L:List (List Str)):Prop:=Paired (SignAt H) us L
theorem km.kt{H H':Hp}{us:Ze}{L:List (List Str)}(k:jU H H')(h:km H us L):km H' us L:=Paired.mapP h fun _ _ r=>k _ _ r
theorem km.dIns{K:Za}{H:Hp}:∀{us:Ze}{L:List (List Str)},km H us L->DIns K H (L.map eI) (us.map V.ref)
 |_,_,.nil=>by show DIns K H [] [];unfold DIns;rfl
 |_,_,.cons r t=>by
  rw[bh,bh];unfold DIns;exact⟨_,_,rfl,aP (be.of r),km.dIns t⟩
theorem fB(L:List (List Str)):DT.depths (L.map eI)<=1:=by
 induction L with
 |nil=>exact cQ _
 |cons x xs ih=>rw[bh];show max (DT.depth (eI x)) (DT.depths _)<=1;rw[br];omega
def aq(J0 J4:Zb):List (List Str):=J0.map rR++J4.map rg++[cg]
inductive iV (vs:List V)(H:Hp)(Q:VK)(E:XK):Prop
 |mk (t l1 l2 l3 l4:Addr) (ts:Ze) (J0 J4 J5:Zb) (ds:List am):(vs=[.ref t])->(kj H t l1 l2 l3 l4 ts J0 J4 J5 ds)->(bC J0 J4 J5 ds)->(∀(l:Addr) (us:Ze) (H':Hp),H' l=some (.lst (us.map V.ref))->km H' us (aq J0 J4)->H l=none->ac H H'->Q (.ref l) H')->iV  vs H Q E
theorem jE{K:Za}{σ:L2.St}{H:Hp}{a l:Addr}{ws:Zb}{kd:Str}{Q:Hp->Prop}(ha:H a=some (.lst (ws.map V.str)))(hz:ws.length<=1000)(hl:H l=none)
  (k:∀(us:Ze) (H':Hp),H' l=some (.lst (us.map V.ref))->km H' us (ws.map fun w=>[kd,w])->ac H H'->Q H') :
  eX 1 [] σ (Ci K a) U0 jS (dJ (aM (tC (.str kd)) V0)) H l Q:=by
 let zI0:Nat->List V->Hp->Prop:=fun i vs H'=>∃us:List Addr,vs=us.map V.ref/\ac H H'/\H' l=some (.lst vs)/\km H' us ((ws.take i).map fun w=>[kd,w])
 refine cu (xs:=ws.map V.str) zI0 ⟨[],rfl,ac.new hl,aa,.nil⟩ (fun i vs H' _ zq=>by obtain⟨_,_,S,h',_⟩:=zq;exact⟨h',aw.of (S _ _ ha)⟩) ?_ ?_
 ·rintro vs H' ⟨us,rfl,S,h',hP⟩;rw[ak,bj]at hP;exact k us H' h' hP S
 ·rintro i vs H' x' hx' hi ⟨us,rfl,S,f',hP⟩;obtain⟨w,hw,rfl⟩:=b_ hx';refine gN (vI ?_);refine⟨_,rfl,(by show 2<=aj;decide),fun u hu=>⟨kp f' hu,?_,o9 hi ⟨us++[u],by rw[ax];rfl,?_,aa,?_⟩⟩⟩
  ·rw[ak,Paired.length hP,ak,aI];exact ao (by omega)
  ·intro b o q;rw[ag (ae q hl)];exact kp (S _ _ q) hu
  ·rw[take_snoc hw,ax];have hk:jU H' (upd (upd H' u (.tup [.str kd,.str w])) l (.lst (us.map V.ref++[.ref u]))):=(ac.kt (ac.new hu)).trans (fA (kp f' hu));exact dC (km.kt hk hP) ((fA (kp f' hu)) _ _ aa)
theorem Bd{K:Za}{vs:List V}{H:Hp}{Q:VK}{E:XK}(h:iV vs H Q E):vO K (bN Q) (start wH vs) H:=by
 obtain⟨t,l1,l2,l3,l4,ts,J0,J4,J5,ds,rfl,T,m,k⟩:=h;have z1:=m.asks4;have z2:=m.says4;refine⟨_,rfl,.inr (.inl ⟨t,_,0,_,rfl,rfl,be.of T.t,rfl,l1,rfl,⟨_,aw.of T.a1⟩,fun la hla=>?_⟩)⟩;refine jE (kd:="ask") T.a1 (by omega) hla fun ua H1 h1 hP1 S1=>?_;have T1:=T.same S1;refine⟨_,rfl,.inr (.inl ⟨t,_,1,_,rfl,rfl,be.of T1.t,rfl,l2,rfl,⟨_,aw.of T1.a2⟩,fun ls hls=>?_⟩)⟩;refine jE (kd:="say") T1.a2 (by omega) hls fun us H2 h2 hP2 S2=>?_;have h12:=S2 _ _ h1;have hP12:=km.kt (ac.kt S2) hP1;refine⟨la,ls,_,_,rfl,rfl,h12,h2,?_,fun c1 hc1=>?_⟩
 ·rw[ak,ak,Paired.length hP1,Paired.length hP2,ak,ak];exact dH (ao (by omega))
 refine⟨(by show 1<=aj;decide),fun hh hhh=>⟨(by show 1<=aj;decide),fun hl hhl=>?_⟩⟩;refine⟨c1,hl,_,_,rfl,rfl,kp (kp aa hhh) hhl,aa,?_,fun r hr=>?_⟩
 ·rw[aE,ak,ak,Paired.length hP1,Paired.length hP2,ak,ak];exact dH (ao (by show _+1<=1000;omega))
 have S3:=(((ac.new (o:=.lst (ua.map V.ref++us.map V.ref)) hc1).trans (ac.new (o:=.tup [.str "hush"]) hhh)).trans (ac.new (o:=.lst [.ref hh]) hhl)).trans (ac.new (o:=.lst (ua.map V.ref++us.map V.ref++[.ref hh])) hr);refine k r (ua++us++[hh]) _ ?_ ?_ ?_ ((S1.trans S2).trans S3)
 ·rw[aa,ax,ax];rfl
 ·refine Paired.app (Paired.app (km.kt (ac.kt S3) hP12) (km.kt (ac.kt S3) hP2)) (.cons ?_ .nil);exact kp (kp aa hhl) hr
 ·exact(((S1.trans S2).trans ((ac.new hc1).trans (ac.new hhh))).trans (ac.new hhl)).free hr
theorem B6(xs:List V)(k:Nat):fe xs none (some (k:Int))=xs.take k:=by
 unfold fe;rw[HT.sIx_none,HT.sIx_nat,nZ,tX,List.take_eq_take_iff];omega
theorem Paired.takeP{α β:Type}{R:α->β->Prop}:∀(n:Nat) {xs:List α}{ys:List β},Paired R xs ys->Paired R (xs.take n) (ys.take n)
 |0,_,_,_=>by rw[tS,tS];exact .nil
 |_+1,_,_,.nil=>.nil
 |n+1,_,_,.cons r t=>.cons r (Paired.takeP n t)
def qW(K:Za):TS :=
 aR (cK (de K) (aD (fO K V0 "own_asks")))
def rZ:List Str:=["self"]
def qV(K:Za):TS :=
 aR (cK (de K) (aD (fO K V0 "own_says")))
def rY:List Str:=["self"]
theorem uI{C x:Addr}{H:Hp}{J0 J4 J5:Zb}{ds:List am}(h:cj C H x J0 J4 J5 ds):∃(dx:Addr) (fs:List (Str×V)) (o1 o2 lv:Addr) (lps:List (Str×Addr)),H x=some (.ins C dx fs)/\lk "asks" fs=none/\lk "says" fs=none/\lk "doors_from" fs=none/\lk "is_quiet" fs=none/\lk "own_asks" fs=some (.ref o1)/\lk "own_says" fs=some (.ref o2)/\lk "leaving" fs=some (.ref lv) /\
  H o1=some (.lst (J0.map V.str))/\H o2=some (.lst (J4.map V.str))/\lps.map (·.1)=J5/\H lv=some (.dK (dz Sum.inr lps))/\(∀x∈lps,∃us,H x.2=some (.lst (us.map V.ref))/\da H us (bW ds x.1)):=by
 obtain⟨dx,fs,o1,o2,o3,o4,lv,qu,sg,sl,ts,lps,gps,sps,g1,a1,a2,a3,a4,b1,b2,b3,b4,b5,b6,b7,b8,L,c1,c2,c3,c4,G,d1,d2,d3⟩:=h.at_;obtain⟨dx',fs',g1',e1,e2,e3,e4⟩:=h.more;rw[g1]at g1';cases g1';exact⟨dx,fs,o1,o2,lv,lps,g1,e1,e2,e4,a1,b1,b2,b5,L.a1,L.a2,c1,c2,c3⟩
inductive pW(C:Addr)(vs:List V)(H:Hp)(Q:VK)(E:XK):Prop
 |mk (x:Addr) (J0 J4 J5:Zb) (ds:List am):(vs=[.ref x])->(cj C H x J0 J4 J5 ds)->(∀l,H l=none->Q (.ref l) (upd H l (.lst (J0.map V.str))))->pW C vs H Q E
theorem CL{K:Za}{C:Addr}(M:MC K C){vs:List V}{H:Hp}{Q:VK}{E:XK}(h:pW C vs H Q E):qW K (bN Q) (start rZ vs) H:=by
 obtain⟨x,J0,J4,J5,ds,rfl,h,k⟩:=h;obtain⟨dx,fs,o1,o2,lv,lps,g1,a1,a2,a3,a4,b1,b2,b3,c1,c2,_⟩:=uI h;exact⟨_,rfl,x,C,dx,fs,.ref o1,rfl,g1,M.cls,M.a1,b1,.inl ⟨o1,_,rfl,.inl (aw.of c1),k⟩⟩
inductive pR(C:Addr)(vs:List V)(H:Hp)(Q:VK)(E:XK):Prop
 |mk (x:Addr) (J0 J4 J5:Zb) (ds:List am):(vs=[.ref x])->(cj C H x J0 J4 J5 ds)->(∀l,H l=none->Q (.ref l) (upd H l (.lst (J4.map V.str))))->pR C vs H Q E
theorem CG{K:Za}{C:Addr}(M:MC K C){vs:List V}{H:Hp}{Q:VK}{E:XK}(h:pR C vs H Q E):qV K (bN Q) (start rY vs) H:=by
 obtain⟨x,J0,J4,J5,ds,rfl,h,k⟩:=h;obtain⟨dx,fs,o1,o2,lv,lps,g1,a1,a2,a3,a4,b1,b2,b3,c1,c2,_⟩:=uI h;exact⟨_,rfl,x,C,dx,fs,.ref o2,rfl,g1,M.cls,M.a2,b2,.inl ⟨o2,_,rfl,.inl (aw.of c2),k⟩⟩
abbrev Sg:=List Str
def stepsF(J0 J4 J5:Zb)(ds:List am)(J9:Zb):List (Sg×List Str):=((aq J0 J4).map fun sg=>(sg,behF J5 ds J9 sg)).filter fun p=>decide (p.2≠[])
structure fT where
 fs:List (List Str)
 ss:List (List Sg)
def fT.add(m:fT)(f:Zb)(s:List Sg):fT:=if f∈m.fs then m else⟨m.fs++[f],m.ss++[s]⟩
def zf(s:List Sg)(q:fT×List (Sg×Nat))(p:Sg×List Str):fT×List (Sg×Nat):=(q.1.add p.2 (s++[p.1]),q.2++[(p.1,(q.1.add p.2 (s++[p.1])).fs.idxOf p.2)])
def d5(s:List Sg)(m:fT)(L:List (Sg×List Str)):fT×List (Sg×Nat):=L.foldl (zf s) (m,[])
abbrev wM:=fT×List (List (Sg×Nat))
def initF(J5:Zb)(ds:List am):wM:=((⟨[],[]⟩:fT).add (closF J5 ds (J5.take 1)) [],[])
def nextF(J0 J4 J5:Zb)(ds:List am)(S:wM):wM :=
 ((d5 (S.1.ss.getD S.2.length []) S.1 (stepsF J0 J4 J5 ds (S.1.fs.getD S.2.length []))).1,S.2++[(d5 (S.1.ss.getD S.2.length []) S.1 (stepsF J0 J4 J5 ds (S.1.fs.getD S.2.length []))).2])
def itF(J0 J4 J5:Zb)(ds:List am):Nat->wM
 |0=>initF J5 ds
 |k+1=>nextF J0 J4 J5 ds (itF J0 J4 J5 ds k)
def mQ:List Str->List (List Str)
 |[]=>[[]]
 |r::rs=>(mQ rs).map (r::·)++mQ rs
theorem s_:∀rs:List Str,(mQ rs).length=2 ^ rs.length
 |[]=>rfl
 |r::rs=>by
  show((mQ rs).map (r::·)++mQ rs).length=2 ^ (rs.length+1);rw[aE,ak,s_ rs,Nat.pow_succ];omega
theorem sZ(p:Str->Bool):∀rs:List Str,rs.filter p∈mQ rs
 |[]=>by show[]∈[[]];simp
 |r::rs=>by
  show(r::rs).filter p∈(mQ rs).map (r::·)++mQ rs;have ih:=sZ p rs;rw[List.filter_cons];split
  ·exact dq _ (fm ih)
  ·exact dF _ ih
theorem tE{α:Type}[DecidableEq α]:∀{L R:List α},L.Nodup->(∀y∈L,y∈R)->L.length<=R.length
 |[],_,_,_=>cQ _
 |x::L,R,h,hs=>by
  rw[gM]at h;have hx:x∈R:=hs x fg;have h1:∀y∈L,y∈R.erase x:=fun y hy=>(List.mem_erase_of_ne (fun e=>h.1 (by rw[<-e];exact hy))).2 (hs y (ff _ hy));have h2:=tE h.2 h1;rw[List.length_erase_of_mem hx]at h2;have h3:0<R.length:=List.length_pos_of_mem hx;rw[eG];omega
def oR(J5 f:Zb):Prop:=∃p:Str->Bool,f=J5.filter p
theorem C5{J5 f sg:Zb}{ds:List am}(h:oR J5 f):oR J5 (behF J5 ds f sg):=by
 classical
 unfold behF;split
 ·obtain⟨p,rfl⟩:=h;rw[List.filter_filter];exact⟨_,rfl⟩
 ·unfold closF;exact⟨_,rfl⟩
theorem Az{J5:Zb}{ds:List am}{gs:Zb}:oR J5 (closF J5 ds gs):=by
 classical
 unfold closF;exact⟨_,rfl⟩
theorem oR.sub{J5 f:Zb}(h:oR J5 f):∀r∈f,r∈J5:=by
 obtain⟨p,rfl⟩:=h;exact fun r hr=>(d9.1 hr).1
theorem oR.len{J5 f:Zb}(h:oR J5 f):f.length<=J5.length:=by
 obtain⟨p,rfl⟩:=h;exact eL _ _
structure Good(J5:Zb)(m:fT):Prop where
 nd:m.fs.Nodup
 len:m.ss.length=m.fs.length
 isF:∀f∈m.fs,oR J5 f
 sl:∀(i:Nat) (s:List Sg),m.ss[i]?=some s->s.length<=i
theorem Good.few{J5:Zb}{m:fT}(g:Good J5 m)(hr:J5.length<=8):m.fs.length<=256:=by
 have h:=tE g.nd (R:=mQ J5) (fun f hf=>by obtain⟨p,rfl⟩:=g.isF f hf;exact sZ p J5);rw[s_]at h;have:2 ^ J5.length<=2 ^ 8:=Nat.pow_le_pow_right (by decide) hr;omega
theorem fT.add_in{m:fT}{f:Zb}{s:List Sg}(h:f∈m.fs):m.add f s=m:=if_pos h
theorem fT.add_new{m:fT}{f:Zb}{s:List Sg}(h:¬f∈m.fs):m.add f s=⟨m.fs++[f],m.ss++[s]⟩:=if_neg h
theorem Good.add{J5 f:Zb}{m:fT}{s:List Sg}(g:Good J5 m)(h:oR J5 f)(hs:s.length<=m.fs.length):Good J5 (m.add f s):=by
 by_cases c:f∈m.fs
 ·rw[fT.add_in c];exact g
 ·rw[fT.add_new c];refine⟨?_,?_,?_,?_⟩;rotate_left 3
  ·intro i s' e
   change (m.ss++[s])[i]?=some s' at e
   rcases lu i m.ss.length with z|z
   ·rw[gX z]at e;exact g.sl i s' e
   ·rw[iB z]at e;have h0:i-m.ss.length=0:=by
     rcases tU (i-m.ss.length)with q|q
     ·exact q
     ·rw[iA (by show 1<=_;omega)]at e;cases e
    rw[h0]at e;injection e with e;rw[<-e];have:=g.len;omega
  ·rw[cB];exact⟨g.nd,by simp,fun x hx y hy e=>c (by rw[bM.1 hy]at e;rw[<-e];exact hx)⟩
  ·show(m.ss++[s]).length=(m.fs++[f]).length;rw[aE,aE,g.len];rfl
  ·intro x hx;rcases bp.1 hx with hx|hx
   ·exact g.isF x hx
   ·rw[bM.1 hx];exact h
theorem Dh{m:fT}{f:Zb}{s:List Sg}:f∈(m.add f s).fs:=by
 by_cases c:f∈m.fs
 ·rw[fT.add_in c];exact c
 ·rw[fT.add_new c];simp
def nN(m m':fT):Prop:=(∃r,m'.fs=m.fs++r)/\∃r,m'.ss=m.ss++r
theorem nN.refl(m:fT):nN m m:=⟨⟨[],(d_ _).symm⟩,⟨[],(d_ _).symm⟩⟩
theorem nN.trans{a b c:fT}(h:nN a b)(k:nN b c):nN a c:=by
 obtain⟨⟨r,e⟩,⟨s,f⟩⟩:=h;obtain⟨⟨r',e'⟩,⟨s',f'⟩⟩:=k;exact⟨⟨r++r',by rw[e',e,dY]⟩,⟨s++s',by rw[f',f,dY]⟩⟩
theorem wq{m:fT}{f:Zb}{s:List Sg}:nN m (m.add f s):=by
 by_cases c:f∈m.fs
 ·rw[fT.add_in c];exact .refl _
 ·rw[fT.add_new c];exact⟨⟨[f],rfl⟩,⟨[s],rfl⟩⟩
theorem i4(s:List Sg)(m:fT)(L:List (Sg×List Str))(p:Sg×List Str):d5 s m (L++[p])=zf s (d5 s m L) p:=by
 unfold d5;rw[List.foldl_append];rfl
theorem nN.at{m m':fT}(h:nN m m'){i:Nat}{f:Zb}(e:m.fs[i]?=some f):m'.fs[i]?=some f:=by
 obtain⟨⟨r,q⟩,_⟩:=h;rw[q,gX (by rcases lu i m.fs.length with z|z;exact z;rw[iA z]at e;cases e),e]
theorem tw{J5:Zb}{s:List Sg}{m:fT}(g:Good J5 m)(hs:s.length<m.fs.length)(L:List (Sg×List Str))(hL:∀p∈L,oR J5 p.2):
  Good J5 (d5 s m L).1/\nN m (d5 s m L).1/\Paired (fun(a:Sg×Nat) (p:Sg×List Str)=>a.1=p.1/\(d5 s m L).1.fs[a.2]?=some p.2) (d5 s m L).2 L:=by
 have key:∀n,n<=L.length->Good J5 (d5 s m (L.take n)).1/\nN m (d5 s m (L.take n)).1/\Paired (fun(a:Sg×Nat) (p:Sg×List Str)=>a.1=p.1/\(d5 s m (L.take n)).1.fs[a.2]?=some p.2) (d5 s m (L.take n)).2 (L.take n):=by
  intro n
  induction n with
  |zero=>intro _;exact⟨g,.refl _,.nil⟩
  |succ n ih =>
   intro hn;obtain⟨h1,h2,h3⟩:=ih (by omega);have hp:L[n]?=some L[n]:=bR (by omega);rw[take_snoc hp,i4];have hf:=hL L[n] (nT _);have hl:m.fs.length<=(d5 s m (L.take n)).1.fs.length:=by
    obtain⟨⟨r,q⟩,_⟩:=h2;rw[q,aE];omega
   refine⟨h1.add hf (by rw[aE];show _+1<=_;omega),h2.trans wq,?_⟩;refine dC (Paired.mapP h3 fun a p r=>⟨r.1,wq.at r.2⟩) ⟨rfl,?_⟩;show(fT.add _ _ _).fs[(fT.add _ _ _).fs.idxOf L[n].2]?=some L[n].2;have hm:=Dh (m:=(d5 s m (L.take n)).1) (f:=L[n].2) (s:=s++[L[n].1]);have hi:=List.idxOf_lt_length_of_mem hm;rw[bR hi,List.getElem_idxOf]
 have:=key L.length (aG _);rw[bj]at this;exact this
structure wK(J0 J4 J5:Zb)(ds:List am)(S:wM):Prop where
 good:Good J5 S.1
 le:S.2.length<=S.1.fs.length
 zero:S.1.fs[0]?=some (closF J5 ds (J5.take 1))
 st:∀(i:Nat) (l:List (Sg×Nat)),S.2[i]?=some l->∃f,S.1.fs[i]?=some f/\Paired (fun(a:Sg×Nat) (p:Sg×List Str)=>a.1=p.1/\S.1.fs[a.2]?=some p.2) l (stepsF J0 J4 J5 ds f)
theorem rc{J0 J4 J5 f:Zb}{ds:List am}(h:oR J5 f):∀p∈stepsF J0 J4 J5 ds f,oR J5 p.2:=by
 intro p hp;obtain⟨sg,_,rfl⟩:=aT.1 (d9.1 hp).1;exact C5 h
theorem AF{J0 J4 J5:Zb}{ds:List am}:wK J0 J4 J5 ds (initF J5 ds):=by
 have e:(⟨[],[]⟩:fT).add (closF J5 ds (J5.take 1)) []=⟨[closF J5 ds (J5.take 1)],[[]]⟩:=fT.add_new (by simp);refine⟨?_,cQ _,?_,fun i l h=>?_⟩
 ·exact Good.add (m:=⟨[],[]⟩) ⟨n8,rfl,(fun f hf=>nomatch hf),(fun i s (e:([]:List (List Sg))[i]?=some s)=>by rw[List.getElem?_nil]at e;cases e)⟩ Az (cQ _)
 ·show((⟨[],[]⟩:fT).add _ _).fs[0]?=_;rw[e];rfl
 ·simp[initF]at h
theorem AE{J0 J4 J5:Zb}{ds:List am}{S:wM}(h:wK J0 J4 J5 ds S)(lt:S.2.length<S.1.fs.length):wK J0 J4 J5 ds (nextF J0 J4 J5 ds S):=by
 have e0:S.1.fs[S.2.length]?=some S.1.fs[S.2.length]:=by simp[lt]
 have hd:S.1.fs.getD S.2.length []=S.1.fs[S.2.length]:=by simp[lt]
 have hF:=h.good.isF S.1.fs[S.2.length] (nT _);obtain⟨g,gr,pr⟩:=tw (s:=S.1.ss.getD S.2.length []) h.good (by
  have l2:S.2.length<S.1.ss.length:=by rw[h.good.len];exact lt
  have e:S.1.ss[S.2.length]?=some (S.1.ss[S.2.length]'l2):=bR l2;have:=h.good.sl _ _ e;rw[List.getD_eq_getElem?_getD,e];show(S.1.ss[S.2.length]'l2).length<_;omega) (stepsF J0 J4 J5 ds S.1.fs[S.2.length]) (rc hF)
 unfold nextF;rw[hd];generalize d5 (S.1.ss.getD S.2.length []) S.1 (stepsF J0 J4 J5 ds S.1.fs[S.2.length])=q at g gr pr;refine⟨g,?_,gr.at h.zero,fun i l hl=>?_⟩
 ·obtain⟨⟨r,e⟩,_⟩:=gr;show(S.2++[q.2]).length<=q.1.fs.length;rw[e,aE,aE];show S.2.length+1<=_;omega
 ·change (S.2++[q.2])[i]?=some l at hl
  rcases qq i S.2.length with c|c|c
  ·rw[gX c]at hl;obtain⟨f,e,p⟩:=h.st i l hl;exact⟨f,gr.at e,Paired.mapP p fun a p r=>⟨r.1,gr.at r.2⟩⟩
  ·subst c;rw[iB (aG _),nU]at hl;injection hl with hl;subst hl;exact⟨S.1.fs[S.2.length],gr.at e0,pr⟩
  ·rw[iB (dH c)]at hl;obtain⟨k,hk⟩:=Nat.exists_eq_succ_of_ne_zero (show i-S.2.length≠0 by omega);rw[hk]at hl;cases hl
def oj(K:Za)(C_Machine:Addr)(sp_Machine_asks:Sp)(sp_Machine_says:Sp)(a_HUSH:Addr):TS :=
 aR (aJ oA (aJ oA (c9 1 [] (ca K (gl C_Machine "asks" sp_Machine_asks [] E0 V0 bH)) U0 (jS) (dJ (aM (tC (.str "ask")) V0))) (c9 1 [] (ca K (gl C_Machine "says" sp_Machine_says [] E0 V0 bH)) U0 (jS) (dJ (aM (tC (.str "say")) V0)))) (dE (aD (tC (.ref a_HUSH)))))
def oK:List Str:=["M"]
def wZ(K:Za)(sp_signs_in_order:Sp)(sp_face_behind:Sp):TS :=
 ar (bg (lR) U2)
 (ar (eg (ca K (aV sp_signs_in_order (aD V0))) U3 (ar (bg (aV sp_face_behind (ji V0 V1 V3)) U4)
 (bX (aN (aJ DZ (cK (dL K) (aD V4)) (tC (.int 0)))) (xr K V2 V3 V4) (bc))))
 (aR V2))
def yq:List Str:=["M","face","steps","sign","behind"]
def kP(K:Za):TS :=
 ar (bX (tB (jm K V1 (fO K V0 "numbers"))) (ar (bX (aN (aJ D0 (cK (dL K) (aD (fO K V0 "faces"))) (tC (.int 400)))) (xc) (bc))
 (ar (k_ (fO K V0 "numbers") V1 (cK (dL K) (aD (fO K V0 "faces"))))
 (ar (c8 (wP K "list" eo (fO K V0 "faces") (aD V1)))
 (c8 (wP K "list" eo (fO K V0 "first_stories") (aD V2)))))) (bc))
 (aR (o6 K (fO K V0 "numbers") V1))
def k5:List Str:=["self","face","story"]
def iC(K:Za)(sp_steps_at:Sp)(C_FaceMap:Addr)(sp_FaceMap_number_at:Sp):TS :=
 ar (bg (lR) U2)
 (ar (eg (zt K (aV sp_steps_at (aM (fO K V0 "machine") (aJ (df K) (fO K V0 "faces") V1)))) (gA K 2 (bb U3 (bb U4 (ga)))) (xr K V2 V3 (gl C_FaceMap "number_at" sp_FaceMap_number_at [] E0 V0 (aM V4 (aJ oA (aJ (df K) (fO K V0 "first_stories") V1) (dE (aD V3)))))))
 (aR V2))
def iH:List Str:=["self","number","steps","sign","face"]
def lO(K:Za)(C_FaceMap:Addr)(sp_FaceMap_numbered_steps:Sp)(sp_FaceMap_number_at:Sp)(dA:Sp):TS :=
 ar (mW K V0 V1 "machine")
 (ar (mW K V0 (dE (bH)) "faces")
 (ar (mW K V0 (dE (bH)) "first_stories")
 (ar (mW K V0 (lR) "numbers")
 (ar (mW K V0 (dE (bH)) "steps")
 (ar (c8 (gl C_FaceMap "number_at" sp_FaceMap_number_at [] E0 V0 (aM (aV dA (aD V1)) (dE (bH)))))
 (uy (aN (aJ CP (cK (dL K) (aD (fO K V0 "steps"))) (cK (dL K) (aD (fO K V0 "faces"))))) (c8 (wP K "list" eo (fO K V0 "steps") (aH (gl C_FaceMap "numbered_steps" sp_FaceMap_numbered_steps [] E0 V0 (aD (cK (dL K) (aD (fO K V0 "steps"))))) bH)))))))))
def mm:List Str:=["self","M"]
def Di(hu:Addr)(H:Hp)(u:Addr)(sg:Zb):Prop:=H u=some (.tup (sg.map V.str))∨(u=hu/\sg=cg)
theorem Di.same{hu:Addr}{H H':Hp}{u:Addr}{sg:Zb}(h:Di hu H u sg)(S:ac H H'):Di hu H' u sg:=h.imp (S _ _) id
theorem Cu{K:Za}{a:Addr}{xs:List V}(h:∀H,be K H a xs)(H:Hp):cN K H a xs:=by
 rcases h (fun _=>none)with(h|⟨o,h⟩)|h
 ·cases h
 ·cases h
 ·exact .inr h
section
variable{K:Za}{hu:Addr}(hh:∀H,be K H hu (cg.map V.str))
include hh
theorem Di.tup{H:Hp}{u:Addr}{sg:Zb}(h:Di hu H u sg):cN K H u (sg.map V.str):=by
 rcases h with h|⟨rfl,rfl⟩
 ·exact .inl h
 ·exact Cu hh H
theorem Di.sq{H:Hp}{u:Addr}{sg:Zb}(h:Di hu H u sg):be K H u (sg.map V.str):=by
 rcases h with h|⟨rfl,rfl⟩
 ·exact be.of h
 ·exact hh H
end
inductive uF(C hu:Addr)(vs:List V)(H:Hp)(Q:VK)(E:XK):Prop
 |mk (x:Addr) (J0 J4 J5:Zb) (ds:List am):(vs=[.ref x])->(cj C H x J0 J4 J5 ds)->(∀(l:Addr) (us:Ze) (H':Hp),H' l=some (.lst (us.map V.ref))->Paired (Di hu H') us (aq J0 J4)->ac H H'->Q (.ref l) H')->uF C hu vs H Q E
theorem DW{K:Za}{C hu:Addr}{vs:List V}{H:Hp}{Q:VK}{E:XK}(h:uF C hu vs H Q E):oj K C (pW C) (pR C) hu (bN Q) (start oK vs) H:=by
 obtain⟨x,J0,J4,J5,ds,rfl,M,k⟩:=h;have z1:=M.ok.asks4;have z2:=M.ok.says4;obtain⟨dx,fs,o1,o2,lv,lps,g1,a1,a2,_⟩:=uI M;refine⟨_,rfl,x,dx,fs,rfl,g1,a1,x,J0,J4,J5,ds,rfl,M,fun w1 hw1=>⟨w1,rfl,⟨_,aw.of aa⟩,fun la hla=>?_⟩⟩;have S0:ac H (upd H w1 (.lst (J0.map V.str))):=ac.new hw1;refine jE (kd:="ask") (ws:=J0) aa (by omega) hla fun ua H1 h1 hP1 S1=>?_;have M1:=M.same (S0.trans S1);obtain⟨dx,fs,o1,o2,lv,lps,g1,a1,a2,_⟩:=uI M1;refine⟨_,rfl,x,dx,fs,rfl,g1,a2,x,J0,J4,J5,ds,rfl,M1,fun w2 hw2=>⟨w2,rfl,⟨_,aw.of aa⟩,fun ls hls=>?_⟩⟩;have S2:ac H1 (upd H1 w2 (.lst (J4.map V.str))):=ac.new hw2;refine jE (kd:="say") (ws:=J4) aa (by omega) hls fun us H2 h2 hP2 S3=>?_;have S23:=S2.trans S3;have h12:=S23 _ _ h1;have hP12:=km.kt (ac.kt S23) hP1;refine⟨la,ls,_,_,rfl,rfl,h12,h2,?_,fun c1 hc1=>?_⟩
 ·rw[ak,ak,Paired.length hP1,Paired.length hP2,ak,ak];exact dH (ao (by omega))
 refine⟨(by show 1<=aj;decide),fun hl hhl=>?_⟩;refine⟨c1,hl,_,_,rfl,rfl,kp aa hhl,aa,?_,fun r hr=>?_⟩
 ·rw[aE,ak,ak,Paired.length hP1,Paired.length hP2,ak,ak];exact dH (ao (by show _+1<=1000;omega))
 have S4:=((ac.new (o:=.lst (ua.map V.ref++us.map V.ref)) hc1).trans (ac.new (o:=.lst [.ref hu]) hhl)).trans (ac.new (o:=.lst (ua.map V.ref++us.map V.ref++[.ref hu])) hr);refine k r (ua++us++[hu]) _ ?_ ?_ (((S0.trans S1).trans S23).trans S4)
 ·rw[aa,ax,ax];rfl
 ·exact Paired.app (Paired.app (Paired.mapP (km.kt (ac.kt S4) hP12) fun _ _ r=>.inl r) (Paired.mapP (km.kt (ac.kt S4) hP2) fun _ _ r=>.inl r)) (.cons (.inr ⟨rfl,rfl⟩) .nil)
theorem eU{J0 J4 J5:Zb}{ds:List am}(m:bC J0 J4 J5 ds):(aq J0 J4).Nodup:=by
 unfold aq;have i1:∀a b:Str,rR a=rR b->a=b:=fun a b h=>by unfold rR at h;injection h with _ h;injection h
 have i2:∀a b:Str,rg a=rg b->a=b:=fun a b h=>by unfold rg at h;injection h with _ h;injection h
 have nd:∀{f:Str->List Str}{l:Zb},(∀a b,f a=f b->a=b)->l.Nodup->(l.map f).Nodup:=by
  intro f l hf hl;rw[tT,List.pairwise_map];exact(tT.1 hl).imp fun h e=>h (hf _ _ e)
 rw[cB,cB];refine⟨⟨nd i1 m.okA.1,nd i2 m.okS.1,?_⟩,by simp,?_⟩
 ·intro x hx y hy e;obtain⟨a,_,rfl⟩:=aT.1 hx;obtain⟨b,_,rfl⟩:=aT.1 hy;unfold rR rg at e;injection e with e _;exact absurd e (by decide)
 ·intro x hx y hy e;rw[bM.1 hy]at e;rcases bp.1 hx with hx|hx
  ·obtain⟨a,_,rfl⟩:=aT.1 hx;unfold rR cg at e;injection e with _ e;cases e
  ·obtain⟨a,_,rfl⟩:=aT.1 hx;unfold rg cg at e;injection e with _ e;cases e
abbrev yk(H:Hp)(kvs:List (TK×V))(L:List (Sg×List Str)):Prop:=Paired (fun(kv:TK×V) (p:Sg×List Str)=>kv.1=iL p.1/\∃u,kv.2=.ref u/\H u=some (.tup (p.2.map V.str))) kvs L
theorem uo{κ:Type}[DecidableEq κ]{kvs:List (κ×V)}{k:κ}(h:∀kv∈kvs,kv.1≠k):bU kvs k=none:=by
 unfold bU;rw[List.find?_eq_none.2 fun kv hkv=>by simpa using h kv hkv]
 rfl
theorem dB(sg:Zb):(iL sg).depth<=8:=by
 have:∀l:List Str,TK.depths (l.map oz)=0:=by
  intro l
  induction l with
  |nil=>rfl
  |cons a l ih=>show max (TK.depth (oz a)) (TK.depths _)=0;rw[ih];rfl
 show TK.depths (sg.map oz)+1<=8;rw[this];decide
def stG(J5:Zb)(ds:List am)(J9:Zb)(L:List (List Str)):List (Sg×List Str):=(L.map fun sg=>(sg,behF J5 ds J9 sg)).filter fun p=>decide (p.2≠[])
theorem vY(J5:Zb)(ds:List am)(J9:Zb)(L:List (List Str))(sg:Zb):stG J5 ds J9 (L++[sg])=stG J5 ds J9 L++if behF J5 ds J9 sg=[]then[]else[(sg,behF J5 ds J9 sg)]:=by
 unfold stG;rw[ax,nS];congr 1;by_cases c:behF J5 ds J9 sg=[]
 ·rw[if_pos c];simp[c]
 ·rw[if_neg c];simp[c]
theorem CC{J5:Zb}{ds:List am}{J9:Zb}{L:List (List Str)}{p:Sg×List Str}(h:p∈stG J5 ds J9 L):p.1∈L:=by
 obtain⟨sg,hs,rfl⟩:=aT.1 (d9.1 h).1;exact hs
theorem yV{J5:Zb}{ds:List am}{J9:Zb}{L:List (List Str)}:(stG J5 ds J9 L).length<=L.length:=by
 unfold stG;exact bq (eL _ _) (by rw[ak];exact aG _)
theorem yk.kt{H H':Hp}{kvs:List (TK×V)}{L:List (Sg×List Str)}(k:jU H H')(h:yk H kvs L):yk H' kvs L:=Paired.mapP h fun _ _ ⟨e,u,e2,r⟩=>⟨e,u,e2,k _ _ r⟩
theorem yk.no{H:Hp}{kvs:List (TK×V)}{L:List (Sg×List Str)}(h:yk H kvs L){sg:Sg}(n:∀p∈L,p.1≠sg):bU kvs (iL sg)=none:=by
 refine uo ?_
 induction h with
 |nil=>intro kv hk;exact nomatch hk
 |@cons a b as bs r t ih =>
  intro kv hk;rcases cR.1 hk with rfl|hk
  ·rw[r.1];exact fun e=>n b fg (jC e)
  ·exact ih (fun p hp=>n p (ff _ hp)) kv hk
theorem jy{α:Type}{L:List α}(nd:L.Nodup){i:Nat}{x:α}(e:L[i]?=some x):¬x∈L.take i:=by
 intro h;obtain⟨j,hj,ej⟩:=List.getElem_of_mem h;rw[aI]at hj;have hi:i<L.length:=by rcases lu i L.length with z|z;exact z;rw[iA z]at e;cases e
 rw[List.getElem_take]at ej;rw[bR hi]at e;injection e with e;exact List.pairwise_iff_getElem.1 (tT.1 nd) j i (by omega) hi (by omega) (ej.trans e.symm)
theorem EY{H:Hp}{d:Addr}{kvs:List (TK×V)}{o:HO}(h:H d=some (.dT kvs)):jU H (upd H d o):=fun b xs e=>by rw[ag (fun z=>by rw[z,h]at e;cases e)];exact e
theorem Fx{b:Bool}{P X Y:Prop}(h:b=true↔P)(h1:P->X)(h2:¬P->Y):if b=true then X else Y:=by
 cases b with
 |true=>exact h1 (h.1 rfl)
 |false=>exact h2 fun z=>by cases h.2 z
inductive jo(C:Addr)(vs:List V)(H:Hp)(Q:VK)(E:XK):Prop
 |mk (x t:Addr) (J9 J0 J4 J5:Zb) (ds:List am):(vs=[.ref x,.ref t])->(cj C H x J0 J4 J5 ds)->(H t=some (.tup (J9.map V.str)))->((∀r∈J9,r∈J5))->(J9.length<=1000)->(∀(d:Addr) (kvs:List (TK×V)) (H':Hp),H' d=some (.dT kvs)->yk H' kvs (stepsF J0 J4 J5 ds J9)->H d=none->ac H H'->Q (.ref d) H')->jo C vs H Q E
theorem xx{K:Za}{C hu:Addr}(hh:∀H,be K H hu (cg.map V.str)){vs:List V}{H:Hp}{Q:VK}{E:XK}(h:jo C vs H Q E):wZ K (uF C hu) (pU K C) (bN Q) (start yq vs) H:=by
 obtain⟨x,t,J9,J0,J4,J5,ds,rfl,M,ht,hsub,hz,k⟩:=h;have z1:=M.ok.asks4;have z2:=M.ok.says4;have zl:(aq J0 J4).length<=9:=by unfold aq;rw[aE,aE,ak,ak];show _+1<=9;omega
 have nd:=eU M.ok;refine fun d hd=>?_;have S0:ac H (upd H d (.dT [])):=ac.new hd;refine⟨_,rfl,x,J0,J4,J5,ds,rfl,M.same S0,fun l us H1 hl hP S1=>⟨l,rfl,⟨_,aw.of hl⟩,?_⟩⟩
 let zI0:Nat->L2.St->Hp->Prop:=fun i σ H'=>Ew fun(kvs:List (TK×V)) (x3 x4:Option V)=>ED (σ=[some (.ref x),some (.ref t),some (.ref d),x3,x4]) (H' d=some (.dT kvs)) (ac H H') ((∀b o,H1 b=some o->b≠d->H' b=some o)) (yk H' kvs (stG J5 ds J9 ((aq J0 J4).take i)))
 refine cw (xs:=us.map V.ref) zI0
  ⟨[],_,_,rfl,S1 _ _ aa,S0.trans S1,fun _ _ e _=>e,.nil⟩ (fun i σ H' _ ⟨_,_,_,_,_,_,S,_⟩=>aw.of (S _ _ hl fun e=>by subst e;have:=S1 _ _ (aa (H:=H) (a:=l) (o:=.dT []));rw[hl]at this;cases this)) ?_ ?_
 ·rintro i y σ H2 hi ⟨kvs,x3,x4,rfl,h2,S2,S12,st⟩;obtain⟨u,hu',rfl⟩:=bT hi;obtain⟨sg,hsg,hat⟩:=Paired.getL hP hu';have hat2:Di hu H2 u sg:=hat.imp (fun e=>S12 _ _ e fun z=>by subst z;have:=S1 _ _ (aa (H:=H) (a:=u) (o:=.dT []));rw[e]at this;cases this) id;refine⟨_,rfl,_,rfl,_,rfl,x,t,u,J9,sg,J0,J4,J5,ds,rfl,M.same S2,S2 _ _ ht,hat2.sq hh,hat2.symm.imp (fun e=>e.2) id,hsub,hz,fun f H3 hf S3=>?_⟩;have h3:=S3 _ _ h2;refine⟨_,rfl,.inl ⟨f,_,rfl,.inr (be.of hf),_,_,rfl,rfl,?_⟩⟩;refine⟨_,rfl,?_⟩;have hat3:=hat2.same S3;have S13:∀b o,H1 b=some o->b≠d->H3 b=some o:=fun b o e n=>S3 _ _ (S12 b o e n);have st3:=st.kt (ac.kt S3);refine Fx (P:=behF J5 ds J9 sg≠[]) ?_ (fun c=>?_) (fun c=>?_)
  ·rw[ak];constructor
   ·intro h z;rw[z]at h;exact absurd h (by decide)
   ·intro h;exact zzr1 (by have:=List.length_pos_iff.mpr h;omega)
  rotate_left
  ·have c:=Classical.not_not.1 c;refine⟨kvs,_,_,rfl,h3,S2.trans S3,S13,?_⟩;rw[take_snoc hsg,vY,if_pos c,d_];exact st3
  ·have no:bU kvs (iL sg)=none:=st3.no fun p hp e=>by
    have h1:=CC hp;rw[e]at h1;exact jy nd hsg h1
   have ll:kvs.length<aj:=by
    rw[Paired.length st];refine ao ?_;have h1:=yV (J5:=J5) (ds:=ds) (J9:=J9) (L:=(aq J0 J4).take i);rw[aI]at h1;omega
   refine⟨_,rfl,_,rfl,_,rfl,d,u,kvs,iL sg,rfl,rfl,h3,vM (hat3.tup hh),dB sg,ll,_,_,_,rfl,aa,?_,?_,?_⟩
   ·intro b o e;rw[ag (ae e hd)];exact S3 _ _ (S2 _ _ e)
   ·intro b o e n;rw[ag n];exact S13 b o e n
   ·rw[g6 _ no,take_snoc hsg,vY,if_neg c];have kt:jU H3 (upd H3 d (.dT (kvs++[(iL sg,.ref f)]))):=EY h3;exact dC (st3.kt kt) ⟨rfl,f,rfl,kt _ _ hf⟩
 ·rintro σ H2 ⟨kvs,x3,x4,rfl,h2,S2,_,st⟩;rw[ak,Paired.length hP,bj]at st;exact⟨_,rfl,k d kvs H2 h2 st hd S2⟩
def ni:Nat->List (List Str)->List (TK×V)
 |_,[]=>[]
 |n,f::r=>(iL f,.int (n:Nat))::ni (n+1) r
theorem tD(f:Zb):∀(fs:List (List Str)) (n:Nat),ni n (fs++[f])=ni n fs++[(iL f,.int ((n+fs.length:Nat)))]
 |[],n=>rfl
 |x::r,n=>by
  show _::ni (n+1) (r++[f])=_::(ni (n+1) r++_);rw[tD f r (n+1),eG,show n+1+r.length=n+(r.length+1) by omega]
theorem wb:∀(fs:List (List Str)) (n:Nat),(ni n fs).length=fs.length
 |[],n=>rfl
 |x::r,n=>by show _+1=_+1;rw[wb r (n+1)]
theorem kf(f:Zb):∀(fs:List (List Str)) (n:Nat),bU (ni n fs) (iL f)=if f∈fs then some (.int ((n+fs.idxOf f:Nat)))else none
 |[],n=>rfl
 |x::r,n=>by
  by_cases c:x=f
  ·subst c;rw[if_pos fg];show bU ((iL x,_)::_) _=_;rw[cF rfl];rw[List.idxOf_cons_self];rfl
  ·show bU ((iL x,_)::_) _=_;rw[cv (fun e=>c (jC e)),kf f r (n+1)];by_cases d:f∈r
   ·rw[if_pos d,if_pos (ff _ d)];have e:(x::r).idxOf f=r.idxOf f+1:=by rw[List.idxOf_cons,show(x==f)=false from beq_false_of_ne c];rfl
    rw[e,show n+1+r.idxOf f=n+(r.idxOf f+1) by omega]
   ·rw[if_neg d,if_neg (by simp[cA c,d])]
abbrev fM(K:Za)(H:Hp)(w:Addr)(s:List Sg):Prop:=∃gs:List Addr,H w=some (.lst (gs.map V.ref))/\Paired (fun g (sg:Sg)=>cN K H g (sg.map V.str)) gs s
structure FC(K:Za)(C:Addr):Prop where
 cls:zU K C
 a1:dk K C "machine"
 a2:dk K C "faces"
 a3:dk K C "first_stories"
 a4:dk K C "numbers"
 a5:dk K C "steps"
def Fk(C:Addr)(H:Hp)(x M fa sa na ta:Addr):Prop:=∃(dx:Addr) (fs:List (Str×V)),H x=some (.ins C dx fs)/\lk "machine" fs=some (.ref M)/\lk "faces" fs=some (.ref fa)/\lk "first_stories" fs=some (.ref sa)/\lk "numbers" fs=some (.ref na)/\lk "steps" fs=some (.ref ta)/\lk "number_at" fs=none/\lk "numbered_steps" fs=none
structure iI(K:Za)(C:Addr)(H:Hp)(x M fa sa na ta:Addr)(us ws:Ze)(m:fT):Prop where
 ob:Fk C H x M fa sa na ta
 hfa:H fa=some (.lst (us.map V.ref))
 faces:Paired (fun u (f:Zb)=>H u=some (.tup (f.map V.str))) us m.fs
 hsa:H sa=some (.lst (ws.map V.ref))
 stories:Paired (fun w s=>(w≠fa/\w≠sa/\w≠ta)/\fM K H w s) ws m.ss
 hna:H na=some (.dT (ni 0 m.fs))
 ne:fa≠sa/\fa≠ta/\sa≠ta
theorem cN.kt{K:Za}{H H':Hp}{a:Addr}{xs:List V}(k:jU H H')(h:cN K H a xs):cN K H' a xs:=h.keeps k
theorem fM.kt{K:Za}{H H':Hp}{w:Addr}{s:List Sg}(k:jU H H')(e:∀o,H w=some o->H' w=some o)(h:fM K H w s):fM K H' w s:=by
 obtain⟨gs,h1,h2⟩:=h;exact⟨gs,e _ h1,Paired.mapP h2 fun _ _ r=>cN.kt k r⟩
def EA(fa sa na:Addr)(H H':Hp):Prop:=∀b o,H b=some o->b≠fa->b≠sa->b≠na->H' b=some o
theorem EA.refl(fa sa na:Addr)(H:Hp):EA fa sa na H H:=fun _ _ e _ _ _=>e
theorem iI.same{K:Za}{C x M fa sa na ta:Addr}{us ws:Ze}{m:fT}{H H':Hp}(h:iI K C H x M fa sa na ta us ws m)(S:ac H H'):iI K C H' x M fa sa na ta us ws m:=by
 obtain⟨⟨dx,fs,g,r⟩,h1,h2,h3,h4,h5,h6⟩:=h;exact⟨⟨dx,fs,S _ _ g,r⟩,S _ _ h1,Paired.mapP h2 fun _ _ r=>S _ _ r,S _ _ h3,Paired.mapP h4 fun _ _ r=>⟨r.1,r.2.kt (ac.kt S) fun o e=>S _ _ e⟩,S _ _ h5,h6⟩
theorem iI.move{K:Za}{C x M fa sa na ta:Addr}{us ws:Ze}{m:fT}{H:Hp}{d:Addr}{o:HO}{kvs:List (TK×V)}(h:iI K C H x M fa sa na ta us ws m)(hd:H d=some (.dT kvs))(n:d≠na):iI K C (upd H d o) x M fa sa na ta us ws m:=by
 have k:jU H (upd H d o):=EY hd;obtain⟨⟨dx,fs,g,r⟩,h1,h2,h3,h4,h5,h6⟩:=h;refine⟨⟨dx,fs,by rw[ag (fun z=>by rw[z,hd]at g;cases g)];exact g,r⟩,by rw[ag (fun z=>by rw[z,hd]at h1;cases h1)];exact h1,Paired.mapP h2 fun _ _ r=>k _ _ r,by rw[ag (fun z=>by rw[z,hd]at h3;cases h3)];exact h3,Paired.mapP h4 fun w s r=>⟨r.1,?_⟩,by rw[ag n.symm];exact h5,h6⟩;obtain⟨gs,g1,g2⟩:=r.2;exact⟨gs,by rw[ag (fun z=>by rw[z,hd]at g1;cases g1)];exact g1,Paired.mapP g2 fun _ _ r=>cN.kt k r⟩
theorem AD{d:Addr}{o:Obj}{u:HO}{n:Nat}{ent:Nat->Hp->V->V->Prop}{g:TG}{tb:TS}{D:nO}{σ:L2.St}{H:Hp}(Pv:Nat->L2.St->Hp->Prop)(h0:Pv 0 σ H)(hl:∀i σ H,i<=n->Pv i σ H->H d=some (.frz o u))
  (hs:∀i σ H p a b,i<n->Pv i σ H->H p=none->ent i H a b->g (.ref p) σ (upd H p (.tup [a,b])) fun σ2 H2=>tb { D with nx:=Pv (i+1),ct:=Pv (i+1),bk:=D.nx } σ2 H2) (hd:∀σ H,Pv n σ H->D.nx σ H) :
  ∃W:Nat->Nat->L2.St->Hp->Prop,(∃m,W 0 m σ H)/\∀i m σ H,W i m σ H ->
   ((Ez d o u n ent).stop i H/\D.nx σ H)∨((Ez d o u n ent).go i H/\∃N:L2.St->Hp->Prop,(∀σ' H',N σ' H'->∃m',m'<m/\W (i+1) m' σ' H')/\∀x H',(Ez d o u n ent).yld i H x H'->g x σ H' fun σ2 H2=>tb { D with nx:=N,ct:=N,bk:=D.nx } σ2 H2):=by
 refine⟨fun i m σ H=>m=n-i/\i<=n/\Pv i σ H,⟨n,by simp,cQ _,h0⟩,?_⟩;rintro i m σ H ⟨rfl,hi,p⟩;have q:=hl i σ H hi p;by_cases lt:i<n
 ·refine .inr ⟨⟨q,lt⟩,Pv (i+1),fun σ' H' p'=>⟨n-(i+1),by omega,rfl,lt,p'⟩,fun x H' y=>?_⟩;obtain⟨t,a,b,hn,rfl,en,rfl⟩:=y;exact hs i σ H t a b lt p hn en
 ·have e:i=n:=by omega
  subst e;exact .inl ⟨⟨q,aG _⟩,hd σ H p⟩
def stK(l:List (Sg×Nat)):List (TK×V):=l.map fun a=>(iL a.1,.int (a.2:Nat))
def AX(L:Ze)(H H':Hp):Prop:=∀b o,H b=some o->b∉L->H' b=some o
theorem AX.refl(L:Ze)(H:Hp):AX L H H:=fun _ _ e _=>e
theorem AX.trans{L:Ze}{H H1 H2:Hp}(a:AX L H H1)(b:AX L H1 H2):AX L H H2:=fun c o e n=>b c o (a c o e n) n
theorem ac.exL{L:Ze}{H H':Hp}(S:ac H H'):AX L H H':=fun b o e _=>S b o e
theorem EA.exL{fa sa na:Addr}{L:Ze}{H H':Hp}(a:EA fa sa na H H')(s:fa∈L/\sa∈L/\na∈L):AX L H H':=fun b o e n=>a b o e (fun z=>n (z▸s.1)) (fun z=>n (z▸s.2.1)) (fun z=>n (z▸s.2.2))
theorem AX.upd{L:Ze}{H:Hp}{d:Addr}{o:HO}(h:d∈L):AX L H (upd H d o):=fun b u e n=>by rw[ag (fun z:b=d=>n (by rw[z];exact h))];exact e
theorem Good.grow_len{J5:Zb}{m:fT}(g:Good J5 m)(hr:J5.length<=8):m.fs.length<400/\m.ss.length<400:=by
 have h1:=g.few hr;have h2:=g.len;omega
theorem sW{K:Za}{H:Hp}:∀{sg:Zb}{xs:List V},TKCs K H (sg.map oz) xs->xs=sg.map V.str
 |[],xs,h=>by rw[ul]at h;unfold TKCs at h;exact h
 |s::sg,xs,h=>by
  rw[bh]at h;unfold TKCs at h;obtain⟨v,us,rfl,h1,h2⟩:=h;unfold oz pi at h1;rw[h1,sW h2]
  rfl
theorem A9{K:Za}{H:Hp}{sg:Zb}{a:V}(h:pi K H (iL sg) a):∃b,a=.ref b/\cN K H b (sg.map V.str):=by
 unfold iL pi at h;obtain⟨b,xs,rfl,h1,h2⟩:=h;rw[sW h2]at h1;exact⟨b,rfl,h1⟩
theorem uE{J0 J4 J5 J9:Zb}{ds:List am}(m:bC J0 J4 J5 ds):((stepsF J0 J4 J5 ds J9).map (·.1)).Nodup:=by
 have nd:=eU m;unfold stepsF;refine List.Nodup.sublist (List.Sublist.map _ List.filter_sublist) ?_;rw[iz];have e:((fun p:Sg×List Str=>p.1) ∘ fun sg=>(sg,behF J5 ds J9 sg))=id:=rfl;rw[e,List.map_id];exact nd
theorem tu(s:List Sg)(m:fT)(L:List (Sg×List Str)):(d5 s m L).2.map (·.1)=L.map (·.1):=by
 have key:∀n,n<=L.length->(d5 s m (L.take n)).2.map (·.1)=(L.take n).map (·.1):=by
  intro n
  induction n with
  |zero=>intro _;rfl
  |succ n ih =>
   intro hn;have hp:L[n]?=some L[n]:=bR (by omega);rw[take_snoc hp,i4];show((d5 s m (L.take n)).2++[(L[n].1,_)]).map (fun a:Sg×Nat=>a.1)=_;rw[ax,ax,ih (by omega)]
   rfl
 have:=key L.length (aG _);rw[bj]at this;exact this
theorem nN.atS{m m':fT}(h:nN m m'){i:Nat}{f:List Sg}(e:m.ss[i]?=some f):m'.ss[i]?=some f:=by
 obtain⟨_,⟨r,q⟩⟩:=h;rw[q,gX (by rcases lu i m.ss.length with z|z;exact z;rw[iA z]at e;cases e),e]
theorem iI.ex3{K:Za}{C x M fa sa na ta:Addr}{us ws:Ze}{m:fT}{H H':Hp}(h:iI K C H x M fa sa na ta us ws m)(e:EA fa sa na H H'):jU H H':=fun b xs q =>
 e b _ q (fun z=>by rw[z,h.hfa]at q;cases q) (fun z=>by rw[z,h.hsa]at q;cases q) (fun z=>by rw[z,h.hna]at q;cases q)
abbrev p9(H0:Hp)(na:Addr)(H:Hp)(ts:Ze)(st:List (List (Sg×Nat))):Prop:=Paired (fun d l=>H0 d=none/\d≠na/\H d=some (.dT (stK l))) ts st
theorem iI.moveT{K:Za}{C x M fa sa na ta:Addr}{us ws:Ze}{m:fT}{H:Hp}{xs ys:List V}(h:iI K C H x M fa sa na ta us ws m)(ht:H ta=some (.lst xs)):iI K C (upd H ta (.lst ys)) x M fa sa na ta us ws m:=by
 have k:jU H (upd H ta (.lst ys)):=fA ht;obtain⟨⟨dx,fs,g,r⟩,h1,h2,h3,h4,h5,h6⟩:=h;refine⟨⟨dx,fs,by rw[ag (fun z=>by rw[z,ht]at g;cases g)];exact g,r⟩,by rw[ag h6.2.1];exact h1,Paired.mapP h2 fun _ _ r=>k _ _ r,by rw[ag h6.2.2];exact h3,Paired.mapP h4 fun w s r=>⟨r.1,?_⟩,by rw[ag (fun z=>by rw[z,ht]at h5;cases h5)];exact h5,h6⟩;obtain⟨gs,g1,g2⟩:=r.2;exact⟨gs,by rw[ag r.1.2.2];exact g1,Paired.mapP g2 fun _ _ r=>cN.kt k r⟩
inductive pV(K:Za)(vs:List V)(H:Hp)(Q:VK)(E:XK):Prop
 |mk (t ft s l1 l2 l3 l4:Addr) (ts:Ze) (J0 J4 J5 J9 sg:Zb) (ds:List am):(vs=[.ref t,.ref ft,.ref s])->(kj H t l1 l2 l3 l4 ts J0 J4 J5 ds)->(bC J0 J4 J5 ds)->(be K H ft (J9.map V.str))->(be K H s (sg.map V.str))->(J9.length<=1000)->(∀(t':Addr) (H':Hp),H' t'=some (.tup ((behF J5 ds J9 sg).map V.str))->ac H H'->Q (.ref t') H')->pV K vs H Q E
theorem CK{K:Za}{vs:List V}{H:Hp}{Q:VK}{E:XK}(h:pV K vs H Q E):uv K v3 kC (bN Q) (start vo vs) H:=by
 obtain⟨t,ft,s,l1,l2,l3,l4,ts,J0,J4,J5,J9,sg,ds,rfl,T,m,hft,hs,hz,k⟩:=h;have z4:=m.few;refine⟨_,rfl,(by show 1<=aj;decide),fun hh hhh=>⟨eI sg,eI cg,aP (be.same (ac.new hhh) hs),aP (be.of aa),by rw[br];decide,by rw[br];decide,_,rfl,?_⟩⟩;rw[jD];have Sn:ac H (upd H hh (.tup [.str "hush"])):=ac.new hhh;generalize upd H hh (.tup [.str "hush"])=H1 at Sn ⊢;have T1:=T.same Sn;have ft1:=be.same Sn hft;have hs1:=be.same Sn hs;by_cases c:sg=cg
 ·rw[zzr1 c];refine cr ?_;refine⟨_,rfl,ft,rfl,⟨_,ft1⟩,fun f hf=>?_⟩;refine wB (xs:=J9.map V.str) (fun i vs H'=>vs=((J9.take i).filter fun r=>decide (r∉f_ ds)).map V.str/\ac H1 H'/\H' f=some (.lst vs)) ⟨rfl,ac.new hf,aa⟩ (fun i vs H' _ zq=>by obtain⟨_,S,h'⟩:=zq;exact⟨h',be.same S ft1⟩) ?_ ?_
  ·rintro vs H' ⟨rfl,S,f'⟩;rw[ak,bj]at f';refine⟨f,_,rfl,.inl ⟨aw.of f',fun t' ht'=>k t' _ ?_ ((Sn.trans S).trans (ac.new ht'))⟩⟩;rw[aa];unfold behF;rw[if_pos c]
  ·rintro i vs H' x' hx' hi ⟨rfl,S,f'⟩;obtain⟨r,hr,rfl⟩:=b_ hx';refine gN ?_;refine⟨_,rfl,_,rfl,t,l1,l2,l3,l4,ts,J0,J4,J5,ds,r,rfl,T1.same S,m,fun H2 S2=>⟨_,rfl,?_⟩⟩;have hlen:(((J9.take i).filter fun r=>decide (r∉f_ ds)).map V.str).length<aj:=by
    rw[ak];refine ao (bq (eL _ _) ?_);rw[aI];omega
   refine nB (fun hq=>?_) (fun hq=>?_)
   ·refine⟨_,rfl,S2 _ _ f',hlen,o9 hi ⟨?_,?_,aa⟩⟩
    ·rw[ck hr,if_pos hq,ax];rfl
    ·intro b o q;rw[ag (ae q hf)];exact S2 _ _ (S _ _ q)
   ·refine o9 hi ⟨?_,S.trans S2,S2 _ _ f'⟩;rw[ck hr,if_neg hq,d_]
 ·rw[zzr0 c];refine aU ?_;refine⟨_,rfl,_,rfl,.inr (.inl ⟨t,_,3,_,rfl,rfl,be.of T1.t,rfl,l4,rfl,⟨_,aw.of T1.a4⟩,fun f hf=>?_⟩)⟩;refine cu (xs:=ts.map V.ref) (fun i vs H'=>∃G:List Str,vs=G.map V.str/\ac H1 H'/\H' f=some (.lst vs)/\G.length<=i/\∀g,g∈G↔∃d∈ds.take i,d.a∈J9/\d.sg=sg/\d.b=g)
   ⟨[],rfl,ac.new hf,aa,aG _,fun g=>⟨fun h=>(by cases h),fun⟨_,h,_⟩=>by simp at h⟩⟩ (fun i vs H' _ zq=>by obtain⟨_,_,S,h',_⟩:=zq;exact⟨h',aw.of (S _ _ T1.a4)⟩) ?_ ?_
  rotate_left
  ·rintro i vs H' x' hx' hi ⟨G,rfl,S,f',hl,hG⟩;obtain⟨u,hu,rfl⟩:=bT hx';obtain⟨dr,hdr,hatd⟩:=Paired.getL T1.ds hu;obtain⟨sb,ht2,hs2⟩:=hatd.kt (ac.kt S);have hi':i<ds.length:=(bJ.mp hdr).1;have hstep:∀g,(∃d∈ds.take (i+1),d.a∈J9/\d.sg=sg/\d.b=g)↔((∃d∈ds.take i,d.a∈J9/\d.sg=sg/\d.b=g)∨(dr.a∈J9/\dr.sg=sg/\dr.b=g)):=by
    intro g;rw[take_snoc hdr];constructor
    ·rintro⟨d,hd,h⟩;rcases bp.mp hd with hd|hd
     ·exact .inl ⟨d,hd,h⟩
     ·have:d=dr:=by simpa using hd
      subst this;exact .inr h
    ·rintro(⟨d,hd,h⟩|h)
     ·exact⟨d,dq _ hd,h⟩
     ·exact⟨dr,dF _ (by simp),h⟩
   have keep:¬(dr.a∈J9/\dr.sg=sg)->∃m',m'<(ts.map V.ref).length-i/\Wc (ts.map V.ref).length (fun i vs H'=>∃G:List Str,vs=G.map V.str/\ac H1 H'/\H' f=some (.lst vs)/\G.length<=i/\∀g,g∈G↔∃d∈ds.take i,d.a∈J9/\d.sg=sg/\d.b=g) (i+1) m' (G.map V.str) H':=by
    intro z;refine o9 hi ⟨G,rfl,S,f',by omega,fun g=>?_⟩;rw[hstep,hG];exact⟨.inl,fun h=>h.elim id fun h=>absurd ⟨h.1,h.2.1⟩ z⟩
   refine gN ?_;refine⟨_,rfl,.inr (.inl ⟨u,_,0,_,rfl,rfl,be.of ht2,rfl,_,rfl,fW dr.a,J9.map fW,ft,_,lf _,rfl,.inr (be.same S ft1),lZ _,(by show 0<=8;decide),by rw[hC];decide,_,rfl,?_⟩)⟩;rw[if_neg fj,zH];by_cases c1:dr.a∈J9;rotate_left
   ·rw[zzr0 c1];exact aU (aU (keep fun z=>c1 z.1))
   rw[zzr1 c1];refine cr ?_;refine⟨_,rfl,.inr (.inl ⟨u,_,1,_,rfl,rfl,be.of ht2,rfl,_,rfl,eI dr.sg,eI sg,aP (be.of hs2),aP (be.same S hs1),by rw[br];decide,by rw[br];decide,_,rfl,?_⟩)⟩;rw[jD];by_cases c2:dr.sg=sg;rotate_left
   ·rw[zzr0 c2];exact aU (keep fun z=>c2 z.2)
   rw[zzr1 c2];refine cr ?_;refine⟨_,rfl,.inr (.inl ⟨u,_,2,_,rfl,rfl,be.of ht2,rfl,f',by rw[ak];exact ao (by omega),o9 hi ⟨G++[dr.b],by rw[ax];rfl,?_,aa,by rw[aE];show G.length+1<=i+1;omega,fun g=>?_⟩⟩)⟩
   ·intro b o q;rw[ag (ae q hf)];exact S _ _ q
   ·rw[hstep,<-hG,bp];simp only[bM];exact⟨fun h=>h.imp id fun h=>⟨c1,c2,h.symm⟩,fun h=>h.imp id fun h=>h.2.2.symm⟩
  rintro vs H2 ⟨G,rfl,S2,f2,hl,hG⟩;rw[ak,Paired.length T.ds]at hl;rw[ak,Paired.length T.ds,bj]at hG;refine⟨t,f,l1,l2,l3,l4,ts,J0,J4,J5,G,ds,rfl,T1.same S2,m,f2,by omega,fun t' H' h1 S'=>k t' H' ?_ ((Sn.trans S2).trans S')⟩;rw[h1];unfold behF;rw[if_neg c]
  suffices e0:closF J5 ds G=closF J5 ds (cW ds sg J9) by rw[e0]
  refine wC fun g=>?_;rw[hG,nu];constructor
  ·rintro⟨⟨a,sgd,b⟩,hd,h1,h2,h3⟩;simp only at h1 h2 h3;subst h2 h3;exact⟨a,h1,hd⟩
  ·rintro⟨r,hr,h⟩;exact⟨_,h,hr,rfl,rfl⟩
theorem cN.sq{K:Za}{H:Hp}{a:Addr}{xs:List V}(h:cN K H a xs):be K H a xs:=h.imp .inl id



open Classical in
abbrev FPr:=List Str×List Str
theorem BF:∀xs:List Int,HT.lexLt xs xs=false
 |[]=>rfl
 |x::xs=>by rw[HT.lexLt_cons,if_pos rfl];exact BF xs
theorem wk:∀{xs ys zs:List Int},HT.lexLt xs ys=true->HT.lexLt ys zs=true->HT.lexLt xs zs=true
 |[],[],_,h,_=>by cases h
 |_::_,[],_,h,_=>by cases h
 |_,_::_,[],_,h=>by cases h
 |[],_::_,_::_,_,_=>rfl
 |x::xs,y::ys,z::zs,h,k=>by
  rw[HT.lexLt_cons]at h k ⊢;by_cases e1:x=y
  ·rw[if_pos e1]at h;by_cases e2:y=z
   ·rw[if_pos e2]at k;rw[if_pos (e1.trans e2)];exact wk h k
   ·rw[if_neg e2]at k;rw[if_neg (fun q=>e2 (e1.symm.trans q)),e1];exact k
  ·rw[if_neg e1]at h;have h':=of_decide_eq_true h;by_cases e2:y=z
   ·rw[if_neg (fun q=>e1 (q.trans e2.symm)),<-e2];exact h
   ·rw[if_neg e2]at k;have k':=of_decide_eq_true k;rw[if_neg (by omega)];exact zzr1 (by omega)
theorem BG:∀{xs ys:List Int}{a b:Int},xs.length=ys.length->HT.lexLt xs ys=true->HT.lexLt (xs++[a]) (ys++[b])=true
 |[],[],_,_,_,h=>by cases h
 |[],_::_,_,_,e,_=>by cases e
 |_::_,[],_,_,e,_=>by cases e
 |x::xs,y::ys,a,b,e,h=>by
  rw[qG,qG];rw[HT.lexLt_cons]at h ⊢;by_cases q:x=y
  ·rw[if_pos q]at h ⊢;exact BG (by simpa using e) h
  ·rw[if_neg q]at h ⊢;exact h
theorem zm{a b:Int}:∀xs:List Int,HT.lexLt (xs++[a]) (xs++[b])=decide (a<b)
 |[]=>by
  show HT.lexLt [a] [b]=_;rw[HT.lexLt_cons];by_cases e:a=b
  ·rw[if_pos e,zzr0 (by omega)];rfl
  ·rw[if_neg e]
 |x::xs=>by rw[qG,qG,HT.lexLt_cons,if_pos rfl];exact zm xs
def C4(ss:List Sg)(s:List Sg):List Int:=s.map fun x=>((ss.idxOf x:Nat):Int)
def nA(ss:List Sg)(s:List Sg):List Int:=(s.length:Int)::C4 ss s
def kZ(ss:List Sg)(s t:List Sg):Prop:=HT.lexLt (nA ss s) (nA ss t)=true
section
variable{ss:List Sg}{s t u:List Sg}{a b:Sg}
theorem uT:kZ ss s t↔s.length<t.length∨(s.length=t.length/\HT.lexLt (C4 ss s) (C4 ss t)=true):=by
 unfold kZ nA;rw[HT.lexLt_cons];by_cases e:s.length=t.length
 ·rw[if_pos (by omega)];exact⟨fun h=>.inr ⟨e,h⟩,fun h=>h.elim (fun z=>by omega) fun z=>z.2⟩
 ·rw[if_neg (by omega),decide_eq_true_eq];exact⟨fun h=>.inl (by omega),fun h=>h.elim (fun z=>by omega) fun z=>absurd z.1 e⟩
theorem kZ.irr:¬kZ ss s s:=fun h=>by unfold kZ at h;rw[BF]at h;cases h
theorem kZ.trans(h:kZ ss s t)(k:kZ ss t u):kZ ss s u:=wk h k
theorem kZ.asym(h:kZ ss s t):¬kZ ss t s:=fun k=>kZ.irr (h.trans k)
theorem kZ.app(h:kZ ss s t):kZ ss (s++[a]) (t++[b]):=by
 rw[uT]at h ⊢;rw[aE,aE];rcases h with h|⟨h1,h2⟩
 ·exact .inl (Nat.add_lt_add_right h _)
 ·refine .inr ⟨by rw[h1];rfl,?_⟩;unfold C4 at h2 ⊢;rw[ax,ax];exact BG (by rw[ak,ak];exact h1) h2
theorem kZ.last:kZ ss (s++[a]) (s++[b])↔ss.idxOf a<ss.idxOf b:=by
 rw[uT,aE,aE];unfold C4;rw[ax,ax];show _∨(_/\HT.lexLt (_++[((ss.idxOf a:Nat):Int)]) (_++[((ss.idxOf b:Nat):Int)])=true)↔_;rw[zm,decide_eq_true_eq];exact⟨fun h=>h.elim (fun z=>by simp at z) fun z=>by omega,fun h=>.inr ⟨rfl,by omega⟩⟩
theorem kZ.short(h:s.length<t.length):kZ ss s t:=uT.2 (.inl h)
end
theorem gK{α:Type}{l:List α}{a x:α}{i:Nat}(h:(l++[a])[i]?=some x):l[i]?=some x∨(i=l.length/\x=a):=by
 rcases lu i l.length with z|z
 ·rw[gX z]at h;exact .inl h
 ·rw[iB z]at h;by_cases c:i=l.length
  ·rw[c,nU]at h;injection h with h;exact .inr ⟨c,h.symm⟩
  ·rw[iA (by show 1<=_;omega)]at h;cases h
theorem cX{α:Type}{l r:List α}{x:α}{i:Nat}(h:l[i]?=some x):(l++r)[i]?=some x:=by
 rw[gX (bJ.1 h).1];exact h
structure FE(ss:List Sg)(beh:List Str->Sg->List Str)(m:fT)(p:Nat)(s0:List Sg)(f0:Zb)(L0:List (Sg×List Str)):Prop where
 len:m.ss.length=m.fs.length
 ats:m.ss[p]?=some s0
 atf:m.fs[p]?=some f0
 z:m.ss[0]?=some []
 par:∀(i:Nat) (s:List Sg),0<i->m.ss[i]?=some s->∃(q:Nat) (sg:Sg) (s1:List Sg) (f1:Zb),q<i/\m.ss[q]?=some s1/\m.fs[q]?=some f1/\s=s1++[sg]/\sg∈ss/\m.fs[i]?=some (beh f1 sg)
 kin:∀t∈m.ss,t=[]∨(∃(q:Nat) (s1:List Sg) (sg:Sg),q<p/\m.ss[q]?=some s1/\t=s1++[sg])∨∃x∈L0,t=s0++[x.1]
 ord:∀(i j:Nat) (s t:List Sg),i<j->m.ss[i]?=some s->m.ss[j]?=some t->kZ ss s t
 lo:∀(i:Nat) (f:Zb) (s:List Sg),i<p->m.fs[i]?=some f->m.ss[i]?=some s->∀sg∈ss,beh f sg≠[]->∃(n:Nat) (t:List Sg),m.fs[n]?=some (beh f sg)/\m.ss[n]?=some t/\¬kZ ss (s++[sg]) t
 lop:∀x∈L0,∃(n:Nat) (t:List Sg),m.fs[n]?=some x.2/\m.ss[n]?=some t/\¬kZ ss (s0++[x.1]) t
theorem FE.step{ss:List Sg}{beh:List Str->Sg->List Str}{m:fT}{p:Nat}{s0:List Sg}{f0:Zb}{L0:List (Sg×List Str)}{x:Sg×List Str}(h:FE ss beh m p s0 f0 L0)(hx:x.2=beh f0 x.1)(hs:x.1∈ss)(hl:∀y∈L0,ss.idxOf y.1<ss.idxOf x.1):FE ss beh (m.add x.2 (s0++[x.1])) p s0 f0 (L0++[x]):=by
 have top:∀t∈m.ss,kZ ss t (s0++[x.1]):=fun t ht=>by
  rcases h.kin t ht with rfl|⟨q,s1,sg,q1,q2,rfl⟩|⟨y,hy,rfl⟩
  ·exact kZ.short (by rw[aE];exact Nat.succ_pos _)
  ·exact(h.ord q p s1 s0 q1 q2 h.ats).app
  ·exact kZ.last.2 (hl y hy)
 by_cases c:x.2∈m.fs
 ·rw[fT.add_in c];refine⟨h.len,h.ats,h.atf,h.z,h.par,fun t ht=>?_,h.ord,h.lo,fun y hy=>?_⟩
  ·rcases h.kin t ht with e|e|⟨y,hy,e⟩
   ·exact .inl e
   ·exact .inr (.inl e)
   ·exact .inr (.inr ⟨y,dq _ hy,e⟩)
  ·rcases bp.1 hy with hy|hy
   ·exact h.lop y hy
   ·rw[bM.1 hy];obtain⟨n,hn⟩:=db c;have ln:n<m.ss.length:=by rw[h.len];exact(bJ.1 hn).1
    have ht:m.ss[n]?=some m.ss[n]:=bR ln;exact⟨n,_,hn,ht,(top _ (nT _)).asym⟩
 ·rw[fT.add_new c];have new:(m.fs++[x.2])[m.fs.length]?=some x.2:=by rw[iB (aG _),nU];rfl
  have new':(m.ss++[s0++[x.1]])[m.fs.length]?=some (s0++[x.1]):=by rw[<-h.len,iB (aG _),nU];rfl
  have pl:p<m.fs.length:=(bJ.1 h.atf).1;refine⟨?_,cX h.ats,cX h.atf,cX h.z,fun i s i0 hi=>?_,fun t ht=>?_,fun i j s t ij hi hj=>?_,fun i f s ip hf hs' sg hsg ne=>?_,fun y hy=>?_⟩
  ·show(m.ss++[_]).length=(m.fs++[_]).length;rw[aE,aE,h.len];rfl
  ·rcases gK hi with hi|⟨e,rfl⟩
   ·obtain⟨q,sg,s1,f1,a1,a2,a3,a4,a5,a6⟩:=h.par i s i0 hi;exact⟨q,sg,s1,f1,a1,cX a2,cX a3,a4,a5,cX a6⟩
   ·rw[h.len]at e;exact⟨p,x.1,s0,f0,by rw[e];exact pl,cX h.ats,cX h.atf,rfl,hs,by rw[e,<-hx];exact new⟩
  ·rcases bp.1 ht with ht|ht
   ·rcases h.kin t ht with e|⟨q,s1,sg,q1,q2,q3⟩|⟨y,hy,e⟩
    ·exact .inl e
    ·exact .inr (.inl ⟨q,s1,sg,q1,cX q2,q3⟩)
    ·exact .inr (.inr ⟨y,dq _ hy,e⟩)
   ·exact .inr (.inr ⟨x,dF _ (bM.2 rfl),bM.1 ht⟩)
  ·rcases gK hj with hj|⟨e,rfl⟩
   ·have jl:=(bJ.1 hj).1;rcases gK hi with hi|⟨e',_⟩
    ·exact h.ord i j s t ij hi hj
    ·omega
   ·rcases gK hi with hi|⟨e',_⟩
    ·exact top s (a_ hi)
    ·omega
  ·have il:i<m.fs.length:=by omega
   rcases gK hf with hf|⟨e,_⟩
   ·rcases gK hs' with hs'|⟨e,_⟩
    ·obtain⟨n,t,a1,a2,a3⟩:=h.lo i f s ip hf hs' sg hsg ne;exact⟨n,t,cX a1,cX a2,a3⟩
    ·rw[h.len]at e;omega
   ·omega
  ·rcases bp.1 hy with hy|hy
   ·obtain⟨n,t,a1,a2,a3⟩:=h.lop y hy;exact⟨n,t,cX a1,cX a2,a3⟩
   ·rw[bM.1 hy];exact⟨_,_,new,new',kZ.irr⟩
structure Bf(ss:List Sg)(beh:List Str->Sg->List Str)(m:fT)(p:Nat):Prop where
 z:m.ss[0]?=some []
 par:∀(i:Nat) (s:List Sg),0<i->m.ss[i]?=some s->∃(q:Nat) (sg:Sg) (s1:List Sg) (f1:Zb),q<i/\m.ss[q]?=some s1/\m.fs[q]?=some f1/\s=s1++[sg]/\sg∈ss/\m.fs[i]?=some (beh f1 sg)
 kin:∀t∈m.ss,t=[]∨∃(q:Nat) (s1:List Sg) (sg:Sg),q<p/\m.ss[q]?=some s1/\t=s1++[sg]
 ord:∀(i j:Nat) (s t:List Sg),i<j->m.ss[i]?=some s->m.ss[j]?=some t->kZ ss s t
 lo:∀(i:Nat) (f:Zb) (s:List Sg),i<p->m.fs[i]?=some f->m.ss[i]?=some s->∀sg∈ss,beh f sg≠[]->∃(n:Nat) (t:List Sg),m.fs[n]?=some (beh f sg)/\m.ss[n]?=some t/\¬kZ ss (s++[sg]) t
theorem Df{ss:List Sg}{beh:List Str->Sg->List Str}{J5:Zb}{ds:List am}:Bf ss beh (initF J5 ds).1 0:=by
 have e:(initF J5 ds).1=⟨[closF J5 ds (J5.take 1)],[[]]⟩:=fT.add_new (m:=⟨[],[]⟩) (by simp);rw[e];refine⟨rfl,fun i s i0 hi=>?_,fun t ht=>.inl (bM.1 ht),fun i j s t ij hi hj=>?_,fun i _ _ z=>absurd z (Nat.not_lt_zero _)⟩
 ·have hi:([[]]:List (List Sg))[i]?=some s:=hi;rw[iA (by show 1<=i;omega)]at hi;cases hi
 ·have hj:([[]]:List (List Sg))[j]?=some t:=hj;rw[iA (by show 1<=j;omega)]at hj;cases hj
theorem u6{ss:List Sg}{x a:Sg}(h:x≠a):(x::ss).idxOf a=ss.idxOf a+1:=by rw[List.idxOf_cons,show(x==a)=false from beq_false_of_ne h];rfl
theorem C6{ss:List Sg}(nd:ss.Nodup){L:List Sg}(sub:L.Sublist ss){i j:Nat}{a b:Sg}(ij:i<j)(hi:L[i]?=some a)(hj:L[j]?=some b):ss.idxOf a<ss.idxOf b:=by
 induction sub generalizing i j with
 |slnil=>cases hi
 |cons x s ih =>
  rw[gM]at nd;have na:x≠a:=fun e=>nd.1 (by rw[e];exact s.subset (a_ hi));have nb:x≠b:=fun e=>nd.1 (by rw[e];exact s.subset (a_ hj));rw[u6 na,u6 nb];exact Nat.succ_lt_succ (ih nd.2 ij hi hj)
 |cons_cons x s ih =>
  rw[gM]at nd;obtain⟨k,rfl⟩:∃k,j=k+1:=⟨j-1,by omega⟩;rw[nY]at hj;have nb:x≠b:=fun e=>nd.1 (by rw[e];exact s.subset (a_ hj));rw[u6 nb];cases i with
  |zero=>cases hi;rw[List.idxOf_cons_self];exact Nat.succ_pos _
  |succ i =>
   rw[nY]at hi;have na:x≠a:=fun e=>nd.1 (by rw[e];exact s.subset (a_ hi));rw[u6 na];exact Nat.succ_lt_succ (ih nd.2 (by omega) hi hj)
theorem De{J0 J4 J5:Zb}{ds:List am}{S:wM}(mo:bC J0 J4 J5 ds)(ok:wK J0 J4 J5 ds S)(lt:S.2.length<S.1.fs.length)(h:Bf (aq J0 J4) (behF J5 ds) S.1 S.2.length):Bf (aq J0 J4) (behF J5 ds) (nextF J0 J4 J5 ds S).1 (S.2.length+1):=by
 have ef:S.1.fs[S.2.length]?=some S.1.fs[S.2.length]:=bR lt;have l2:S.2.length<S.1.ss.length:=by rw[ok.good.len];exact lt
 have es:S.1.ss[S.2.length]?=some S.1.ss[S.2.length]:=bR l2;have hf:S.1.fs.getD S.2.length []=S.1.fs[S.2.length]:=by simp[lt]
 have hs:S.1.ss.getD S.2.length []=S.1.ss[S.2.length]:=by simp[l2]
 show Bf _ _ (d5 (S.1.ss.getD S.2.length []) S.1 (stepsF J0 J4 J5 ds (S.1.fs.getD S.2.length []))).1 _;rw[hf,hs];have nd:=eU mo;have sub:((stepsF J0 J4 J5 ds S.1.fs[S.2.length]).map (·.1)).Sublist (aq J0 J4):=by
  unfold stepsF;have h1:=List.Sublist.map (fun p:Sg×List Str=>p.1) (List.filter_sublist (p:=fun p:Sg×List Str=>decide (p.2≠[])) (l:=(aq J0 J4).map fun sg=>(sg,behF J5 ds S.1.fs[S.2.length] sg)));rw[iz,show((fun p:Sg×List Str=>p.1) ∘ fun sg=>(sg,behF J5 ds S.1.fs[S.2.length] sg))=id from rfl,List.map_id]at h1;exact h1
 have inL:∀x∈stepsF J0 J4 J5 ds S.1.fs[S.2.length],x.1∈aq J0 J4/\x.2=behF J5 ds S.1.fs[S.2.length] x.1:=fun x hx=>by
  obtain⟨sg,q,rfl⟩:=aT.1 (d9.1 hx).1;exact⟨q,rfl⟩
 have all:∀sg∈aq J0 J4,behF J5 ds S.1.fs[S.2.length] sg≠[]->(sg,behF J5 ds S.1.fs[S.2.length] sg)∈stepsF J0 J4 J5 ds S.1.fs[S.2.length]:=fun sg h1 h2=>d9.2 ⟨aT.2 ⟨sg,h1,rfl⟩,zzr1 h2⟩;generalize stepsF J0 J4 J5 ds S.1.fs[S.2.length]=L at sub inL all;have key:∀n,n<=L.length->FE (aq J0 J4) (behF J5 ds) (d5 S.1.ss[S.2.length] S.1 (L.take n)).1 S.2.length S.1.ss[S.2.length] S.1.fs[S.2.length] (L.take n):=by
  intro n
  induction n with
  |zero=>intro _;exact⟨ok.good.len,es,ef,h.z,h.par,fun t ht=>(h.kin t ht).imp id .inl,h.ord,h.lo,fun x hx=>by cases hx⟩
  |succ n ih =>
   intro hn;have hp:L[n]?=some L[n]:=bR (by omega);rw[take_snoc hp,i4];obtain⟨x1,x2⟩:=inL L[n] (nT _);refine(ih (by omega)).step x2 x1 fun y hy=>?_;obtain⟨i,hi⟩:=db hy;have il:i<n:=by have:=(bJ.1 hi).1;rw[aI]at this;omega
   rw[qM il]at hi;exact C6 nd sub il (by rw[bv,hi];rfl) (by rw[bv,hp];rfl)
 have fin:=key L.length (aG _);rw[bj]at fin;refine⟨fin.z,fin.par,fun t ht=>?_,fin.ord,fun i f s hi a1 a2 sg hsg ne=>?_⟩
 ·rcases fin.kin t ht with e|⟨q,s1,sg,q1,q2,q3⟩|⟨x,hx,e⟩
  ·exact .inl e
  ·exact .inr ⟨q,s1,sg,Nat.lt_succ_of_lt q1,q2,q3⟩
  ·exact .inr ⟨S.2.length,_,x.1,vA _,fin.ats,e⟩
 ·rcases lu i S.2.length with z|z
  ·exact fin.lo i f s z a1 a2 sg hsg ne
  ·have e:i=S.2.length:=by omega
   subst e;rw[fin.atf]at a1;rw[fin.ats]at a2;injection a1 with a1;injection a2 with a2;subst a1 a2;exact fin.lop _ (all sg hsg ne)
inductive iW(K:Za)(C:Addr)(vs:List V)(H:Hp)(Q:VK)(E:XK):Prop
 |mk (x M fa sa na ta u st:Addr) (us ws:Ze) (m:fT) (J9:Zb) (story:List Sg):(vs=[.ref x,.ref u,.ref st])->(iI K C H x M fa sa na ta us ws m)->(H u=some (.tup (J9.map V.str)))->(fM K H st story)->((st≠fa/\st≠sa/\st≠ta))->(m.fs.length<400)->(m.ss.length<400)->(∀(us' ws':Ze) (H':Hp),iI K C H' x M fa sa na ta us' ws' (m.add J9 story)->EA fa sa na H H'->(ws'=ws∨ws'=ws++[st])->Q (.int (((m.add J9 story).fs.idxOf J9:Nat))) H')->iW K C vs H Q E
theorem Ad{K:Za}{C:Addr}(c:FC K C){vs:List V}{H:Hp}{Q:VK}{E:XK}(h:iW K C vs H Q E):kP K (bN Q) (start k5 vs) H:=by
 obtain⟨x,M,fa,sa,na,ta,u,st,us,ws,m,J9,story,rfl,F,hu,hst,ns,z1,z2,k⟩:=h;obtain⟨dx,fs,g,l1,l2,l3,l4,l5,l6,l7⟩:=F.ob;have tk:nL K H (iL J9) (.ref u):=eJ.isIn 8 (dB J9) (SignAt.tk hu);have g1:oS K H na (.ref u) (bU (ni 0 m.fs) (iL J9)):=.inr ⟨_,_,_,.inl F.hna,rfl,tk,dB J9,rfl⟩;refine⟨_,rfl,_,rfl,x,C,dx,fs,.ref na,rfl,g,c.cls,c.a4,l4,na,_,rfl,g1,_,rfl,?_⟩;rw[kf];refine Fx (P:=¬J9∈m.fs) (by by_cases c:J9∈m.fs<;>simp[c]) (fun nin=>?_) (fun nin=>?_);rotate_left
 ·have hin:=Classical.not_not.1 nin;have e:=fT.add_in (s:=story) hin;refine⟨_,rfl,x,C,dx,fs,.ref na,rfl,g,c.cls,c.a4,l4,_,rfl,na,.int ((m.fs.idxOf J9:Nat)),rfl,?_,?_⟩
  ·rw[kf,if_pos hin,Nat.zero_add]at g1;exact g1
  ·have:=k us ws H (by rw[e];exact F) (.refl _ _ _ _) (.inl rfl);rw[e]at this;exact this
 have e:=fT.add_new (s:=story) nin;have zl:(us.map V.ref).length=m.fs.length:=by rw[ak,Paired.length F.faces]
 have zs:(ws.map V.ref).length=m.ss.length:=by rw[ak,Paired.length F.stories]
 refine⟨_,rfl,x,C,dx,fs,.ref fa,rfl,g,c.cls,c.a2,l2,.inl ⟨fa,_,rfl,.inl (aw.of F.hfa),rfl,_,rfl,?_⟩⟩;refine Fx (P:=False) (by rw[zl];simp;omega) (fun z=>z.elim) fun _=>?_;have tka:eJ H (iL J9) (.ref u):=SignAt.tk hu;refine⟨_,rfl,x,C,dx,fs,.ref fa,rfl,g,c.cls,c.a2,l2,.inl ⟨fa,_,rfl,.inl (aw.of F.hfa),_,rfl,x,C,dx,fs,.ref na,rfl,g,c.cls,c.a4,l4,_,rfl,na,_,rfl,.inr ⟨_,_,u,F.hna,rfl,tka,dB J9,?_,rfl⟩,?_⟩⟩
 ·rw[wb];exact ao (by omega)
 rw[g6 _ (by rw[kf,if_neg nin]),zl];have e1:ni 0 m.fs++[(iL J9,V.int (m.fs.length:Nat))]=ni 0 (m.fs++[J9]):=by rw[tD,Nat.zero_add]
 rw[e1];have kna:jU H (upd H na (.dT (ni 0 (m.fs++[J9])))):=EY F.hna;generalize hH1:upd H na (.dT (ni 0 (m.fs++[J9])))=H1 at kna ⊢;have nx:x≠na:=fun z=>by rw[z,F.hna]at g;cases g
 have nxf:x≠fa:=fun z=>by rw[z,F.hfa]at g;cases g
 have nxs:x≠sa:=fun z=>by rw[z,F.hsa]at g;cases g
 have nfa:fa≠na:=fun z=>by have:=F.hfa;rw[z,F.hna]at this;cases this
 have nsa:sa≠na:=fun z=>by have:=F.hsa;rw[z,F.hna]at this;cases this
 have fa1:H1 fa=some (.lst (us.map V.ref)):=by rw[<-hH1,ag nfa];exact F.hfa
 have sa1:H1 sa=some (.lst (ws.map V.ref)):=by rw[<-hH1,ag nsa];exact F.hsa
 have g1':H1 x=some (.ins C dx fs):=by rw[<-hH1,ag nx];exact g
 refine⟨_,rfl,x,C,dx,fs,.ref fa,rfl,g1',c.cls,c.a2,l2,.inl ⟨rfl,_,aw.of fa1⟩,_,rfl,fa,_,.ref u,rfl,rfl,fa1,?_,?_⟩
 ·rw[zl];exact ao (by omega)
 generalize hH2:upd H1 fa (.lst (us.map V.ref++[.ref u]))=H2;have k2:jU H1 H2:=by rw[<-hH2];exact fA fa1
 have sa2:H2 sa=some (.lst (ws.map V.ref)):=by rw[<-hH2,ag F.ne.1.symm];exact sa1
 have g2:H2 x=some (.ins C dx fs):=by rw[<-hH2,ag nxf];exact g1'
 refine⟨_,rfl,x,C,dx,fs,.ref sa,rfl,g2,c.cls,c.a3,l3,.inl ⟨rfl,_,aw.of sa2⟩,_,rfl,sa,_,.ref st,rfl,rfl,sa2,?_,?_⟩
 ·rw[zs];exact ao (by omega)
 generalize hH3:upd H2 sa (.lst (ws.map V.ref++[.ref st]))=H3;have k3:jU H2 H3:=by rw[<-hH3];exact fA sa2
 have kt:jU H H3:=(kna.trans k2).trans k3;have ex:EA fa sa na H H3:=fun b o e n1 n2 n3=>by rw[<-hH3,ag n2,<-hH2,ag n1,<-hH1,ag n3];exact e
 have g3:H3 x=some (.ins C dx fs):=ex _ _ g nxf nxs nx;have na3:H3 na=some (.dT (ni 0 (m.fs++[J9]))):=by rw[<-hH3,ag nsa.symm,<-hH2,ag nfa.symm,<-hH1,aa]
 have fa3:H3 fa=some (.lst ((us++[u]).map V.ref)):=by rw[<-hH3,ag F.ne.1,<-hH2,aa,ax];rfl
 have sa3:H3 sa=some (.lst ((ws++[st]).map V.ref)):=by rw[<-hH3,aa,ax];rfl
 have sto:∀{w:Addr}{s:List Sg},(w≠fa/\w≠sa/\w≠ta)->fM K H w s->fM K H3 w s:=fun n r=>by
  obtain⟨gs,q1,q2⟩:=r;exact⟨gs,ex _ _ q1 n.1 n.2.1 (fun z=>by rw[z,F.hna]at q1;cases q1),Paired.mapP q2 fun _ _ r=>cN.kt kt r⟩
 have F3:iI K C H3 x M fa sa na ta (us++[u]) (ws++[st]) (m.add J9 story):=by
  rw[e];exact⟨⟨dx,fs,g3,l1,l2,l3,l4,l5,l6,l7⟩,fa3,dC (Paired.mapP F.faces fun _ _ r=>kt _ _ r) (kt _ _ hu),sa3,dC (Paired.mapP F.stories fun _ _ r=>⟨r.1,sto r.1 r.2⟩) ⟨ns,sto ns hst⟩,na3,F.ne⟩
 have tk3:nL K H3 (iL J9) (.ref u):=eJ.isIn 8 (dB J9) (SignAt.tk (kt _ _ hu));have hin:J9∈m.fs++[J9]:=by simp
 have g5:oS K H3 na (.ref u) (some (.int ((m.add J9 story).fs.idxOf J9:Nat))):=by
  refine .inr ⟨_,iL J9,u,.inl na3,rfl,tk3,dB J9,?_⟩;rw[kf,if_pos hin,Nat.zero_add,e]
 exact⟨_,rfl,x,C,dx,fs,.ref na,rfl,g3,c.cls,c.a4,l4,_,rfl,na,_,rfl,g5,k _ _ H3 F3 ex (.inr rfl)⟩
inductive gu(K:Za)(C Cm:Addr)(vs:List V)(H:Hp)(Q:VK)(E:XK):Prop
 |mk (x M fa sa na ta:Addr) (us ws:Ze) (m:fT) (n:Nat) (J0 J4 J5:Zb) (ds:List am):(vs=[.ref x,.int (n:Nat)])->(iI K C H x M fa sa na ta us ws m)->(cj Cm H M J0 J4 J5 ds)->(Good J5 m)->(J5.length<=8)->(n<m.fs.length)->((∃vs,H ta=some (.lst vs)))->(∀(d:Addr) (us' ws':Ze) (H':Hp),iI K C H' x M fa sa na ta us' ws' (d5 (m.ss.getD n []) m (stepsF J0 J4 J5 ds (m.fs.getD n []))).1->H' d=some (.dT (stK (d5 (m.ss.getD n []) m (stepsF J0 J4 J5 ds (m.fs.getD n []))).2))->H d=none->AX [fa,sa,na] H H'->(ws.Nodup->ws'.Nodup)->(∀w∈ws',w∈ws∨H w=none)->Q (.ref d) H')->gu K C Cm vs H Q E
theorem uK{K:Za}{C Cm:Addr}(c:FC K C){vs:List V}{H:Hp}{Q:VK}{E:XK}(h:gu K C Cm vs H Q E):iC K (jo Cm) C (iW K C) (bN Q) (start iH vs) H:=by
 obtain⟨x,M,fa,sa,na,ta,us,ws,m,n,J0,J4,J5,ds,rfl,F,MA,gd,hr,hn,⟨tvs,hta⟩,k⟩:=h;have hfn:m.fs[n]?=some m.fs[n]:=bR hn;have hsn:n<m.ss.length:=by rw[gd.len];exact hn
 have hss:m.ss[n]?=some m.ss[n]:=bR hsn;have ef:m.fs.getD n []=m.fs[n]:=by simp[hn]
 have es:m.ss.getD n []=m.ss[n]:=by simp[hsn]
 rw[ef,es]at k;have hF:=gd.isF m.fs[n] (nT _);have hFl:=hF.len;obtain⟨u,hu,hut⟩:=Paired.get F.faces hfn;obtain⟨w,hw,hwn,hwt⟩:=Paired.get F.stories hss;have atw:sK (ws.map V.ref) n=some (.ref w):=bQ (by rw[bv,hw];rfl);have atu:sK (us.map V.ref) n=some (.ref u):=bQ (by rw[bv,hu];rfl);refine fun d hd=>?_;have S0:ac H (upd H d (.dT [])):=ac.new hd;have F0:=F.same S0;obtain⟨dx,fs,g,l1,l2,l3,l4,l5,l6,l7⟩:=F0.ob;refine⟨_,rfl,x,C,dx,fs,.ref M,rfl,g,c.cls,c.a1,l1,_,rfl,x,C,dx,fs,.ref fa,rfl,g,c.cls,c.a2,l2,_,rfl,fa,_,_,_,rfl,rfl,aw.of F0.hfa,atu,M,u,m.fs[n],J0,J4,J5,ds,rfl,MA.same S0,S0 _ _ hut,hF.sub,by omega,fun d0 kvs H1 hd0 st hd0' S1=>?_⟩;have F1:=F0.same S1;have nd0:d0≠d:=fun z=>by rw[z,aa]at hd0';cases hd0'
 have fr:∀{b:Addr}{o:HO},H b=some o->b≠d0:=fun e=>ae (S0 _ _ e) hd0';have frd:∀{b:Addr}{o:HO},H b=some o->b≠d:=fun e=>ae e hd;obtain⟨dx',fs',gx,_⟩:=F.ob;refine⟨d0,kvs,rfl,.inl ⟨hd0,fun o=>?_⟩⟩;have F2:=F1.move (o:=.frz o (.dT kvs)) hd0 (cA (fr F.hna));have kt12:jU H1 (upd H1 d0 (.frz o (.dT kvs))):=EY hd0;have d2:upd H1 d0 (.frz o (.dT kvs)) d=some (.dT []):=by rw[ag nd0.symm];exact S1 _ _ aa
 have ta2:upd H1 d0 (.frz o (.dT kvs)) ta=some (.lst tvs):=by rw[ag (fr hta)];exact S1 _ _ (S0 _ _ hta)
 have f2:upd H1 d0 (.frz o (.dT kvs)) d0=some (.frz o (.dT kvs)):=aa;have e02:∀b o',H b=some o'->upd H1 d0 (.frz o (.dT kvs)) b=some o':=fun b o' e=>by rw[ag (fr e)];exact S1 _ _ (S0 _ _ e)
 have st2:=st.kt kt12;generalize upd H1 d0 (.frz o (.dT kvs))=H2 at F2 kt12 d2 ta2 f2 st2 e02 ⊢;have hLF:∀p∈stepsF J0 J4 J5 ds m.fs[n],oR J5 p.2:=rc hF;have zL:(stepsF J0 J4 J5 ds m.fs[n]).length<=9:=by
  have z1:=MA.ok.asks4;have z2:=MA.ok.says4;refine bq (yV (L:=aq J0 J4)) ?_;unfold aq;rw[aE,aE,ak,ak];show _+1<=9;omega
 have ndL:=uE (J9:=m.fs[n]) MA.ok;generalize stepsF J0 J4 J5 ds m.fs[n]=L at st st2 hLF ndL zL k ⊢;have gq:∀i,Good J5 (d5 m.ss[n] m (L.take i)).1/\nN m (d5 m.ss[n] m (L.take i)).1:=fun i=>by
  obtain⟨h1,h2,_⟩:=tw (s:=m.ss[n]) gd (by have:=gd.sl _ _ hss;omega) (L.take i) fun p hp=>hLF p (eM hp);exact⟨h1,h2⟩
 have nfd:fa≠d:=frd F.hfa;have nsd:sa≠d:=frd F.hsa;have nnd:na≠d:=frd F.hna;refine AD (fun i σ H'=>FA fun(us' ws':Ze) (x3 x4:Option V)=>ED (σ=[some (.ref x),some (.int (n:Nat)),some (.ref d),x3,x4]) (iI K C H' x M fa sa na ta us' ws' (d5 m.ss[n] m (L.take i)).1) (H' d=some (.dT (stK (d5 m.ss[n] m (L.take i)).2))) (AX [fa,sa,na,d] H2 H') (jU H2 H'/\(ws.Nodup->ws'.Nodup)/\(∀w∈ws',w∈ws∨H w=none)))
  ⟨us,ws,_,_,rfl,F2,d2,.refl _ _,fun _ _ e=>e,id,fun w hw=>.inl hw⟩ ?_ ?_ ?_
 ·rintro i σ H' _ ⟨_,_,_,_,_,_,_,ex,_⟩;exact ex _ _ f2 (by simp[cA (fr F.hfa),cA (fr F.hsa),cA (fr F.hna),nd0])
 ·rintro i σ H3 p a b hi ⟨us',ws',x3,x4,rfl,F3,d3,ex3,kt3,nd3,fr3⟩ hp ⟨key,ek,tkc⟩;obtain⟨pr,hpr,rfl,uf,rfl,huf⟩:=Paired.getL st2 ek;obtain⟨sga,rfl,hsga⟩:=A9 tkc;obtain⟨gd3,gr3⟩:=gq i;obtain⟨z1,z2⟩:=gd3.grow_len hr;obtain⟨w',hw',hwn',gs,hg1,hg2⟩:=Paired.get F3.stories (gr3.atS hss);have atw':sK (ws'.map V.ref) n=some (.ref w'):=bQ (by rw[bv,hw'];rfl);have Sp:ac H3 (upd H3 p (.tup [.ref sga,.ref uf])):=ac.new hp;have hp4:upd H3 p (.tup [.ref sga,.ref uf]) p=some (.tup [.ref sga,.ref uf]):=aa;generalize upd H3 p (.tup [.ref sga,.ref uf])=H4 at Sp hp4 ⊢;refine⟨p,_,rfl,be.of hp4,rfl,_,_,rfl,_,_,rfl,rfl,?_⟩;have F4:=F3.same Sp;obtain⟨dx4,fs4,g4,m1,m2,m3,m4,m5,m6,m7⟩:=F4.ob;have hw4:=Sp _ _ hg1;refine⟨_,rfl,x,dx4,fs4,rfl,g4,m6,_,rfl,_,rfl,x,C,dx4,fs4,.ref sa,rfl,g4,c.cls,c.a3,m3,_,rfl,sa,_,_,_,rfl,rfl,aw.of F4.hsa,atw',_,rfl,(by show 1<=aj;decide),fun ll hll=>?_⟩;have Sl:ac H4 (upd H4 ll (.lst [.ref sga])):=ac.new hll;have hl5:upd H4 ll (.lst [.ref sga]) ll=some (.lst [.ref sga]):=aa;generalize upd H4 ll (.lst [.ref sga])=H5 at Sl hl5 ⊢;have zw:gs.length<=400:=by rw[Paired.length hg2];have:=gd.sl _ _ hss;have:=gd.few hr;omega
  refine⟨w',ll,_,_,rfl,rfl,Sl _ _ hw4,hl5,(by rw[ak];exact dH (ao (by show _+1<=1000;omega))),fun p2 hp2=>?_⟩;have S2:ac H5 (upd H5 p2 (.lst (gs.map V.ref++[.ref sga]))):=ac.new hp2;have hp6:upd H5 p2 (.lst (gs.map V.ref++[.ref sga])) p2=some (.lst ((gs++[sga]).map V.ref)):=by rw[aa,ax];rfl
  generalize upd H5 p2 (.lst (gs.map V.ref++[.ref sga]))=H6 at S2 hp6 ⊢;have S36:ac H3 H6:=(Sp.trans Sl).trans S2;have F6:=F3.same S36;have ta3:H3 ta=some (.lst tvs):=ex3 _ _ ta2 (by simp[F.ne.2.1.symm,F.ne.2.2.symm,frd hta];exact fun z=>by rw[z,F.hna]at hta;cases hta);have np:∀{b:Addr}{o:HO},H3 b=some o->p2≠b:=fun e=>cA (ae (Sl _ _ (Sp _ _ e)) hp2);have sto:fM K H6 p2 (m.ss[n]++[pr.1]):=⟨gs++[sga],hp6,dC (Paired.mapP hg2 fun _ _ r=>cN.kt (ac.kt S36) r) (cN.kt (ac.kt S36) hsga)⟩;refine⟨x,M,fa,sa,na,ta,uf,p2,us',ws',_,pr.2,m.ss[n]++[pr.1],rfl,F6,S36 _ _ (kt3 _ _ huf),sto,⟨np F3.hfa,np F3.hsa,np ta3⟩,z1,z2,fun us'' ws'' H7 F7 e7 ew=>?_⟩;have pn:p2∉ws':=fun z=>by
   obtain⟨i,hi⟩:=db z;obtain⟨s,_,_,gs',q1,_⟩:=Paired.getL F3.stories hi;exact np q1 rfl
  have p0:H p2=none:=by
   cases hc:H p2 with
   |none=>rfl
   |some o' =>
    have:=ex3 _ _ (e02 _ _ hc) (by simp[np F3.hfa,np F3.hsa,np F3.hna,np d3]);exact absurd rfl (np this)
  have k67:=F6.ex3 e7;have k37:jU H3 H7:=(ac.kt S36).trans k67;have d7:H7 d=some (.dT (stK (d5 m.ss[n] m (L.take i)).2)):=e7 _ _ (S36 _ _ d3) nfd.symm nsd.symm nnd.symm;have ek7:bU (stK (d5 m.ss[n] m (L.take i)).2) (iL pr.1)=none:=by
   refine uo fun kv hkv e=>?_;obtain⟨q,hq,rfl⟩:=aT.1 hkv;have h1:q.1∈(L.take i).map (·.1):=by rw[<-tu m.ss[n] m];exact fm hq
   rw[jC e,lq]at h1;exact jy ndL (by rw[bv,hpr];rfl) h1
  have l7:(stK (d5 m.ss[n] m (L.take i)).2).length<aj:=by
   have h1:=congrArg List.length (tu m.ss[n] m (L.take i));rw[ak,ak,aI]at h1;unfold stK;rw[ak,h1];exact ao (by omega)
  refine⟨_,rfl,_,rfl,d,sga,_,iL pr.1,rfl,rfl,d7,vM (cN.kt k37 hsga),dB _,l7,us'',ws'',_,_,rfl,?_,?_,?_,?_⟩
  ·rw[take_snoc hpr,i4];exact F7.move d7 (cA nnd)
  ·rw[aa,g6 _ ek7,take_snoc hpr,i4];show _=some (HO.dT (stK ((d5 m.ss[n] m (L.take i)).2++[_])));unfold stK;rw[ax]
   rfl
  ·exact(ex3.trans (ac.exL S36)).trans ((e7.exL ⟨by simp,by simp,by simp⟩).trans (AX.upd (by simp)))
  ·refine⟨(kt3.trans k37).trans (EY d7),fun nd=>?_,fun w hw=>?_⟩
   ·rcases ew with rfl|rfl
    ·exact nd3 nd
    ·exact cB.2 ⟨nd3 nd,by simp,fun x hx y hy e=>pn (by rw[bM.1 hy]at e;rw[<-e];exact hx)⟩
   ·rcases ew with rfl|rfl
    ·exact fr3 w hw
    ·rcases bp.1 hw with hw|hw
     ·exact fr3 w hw
     ·rw[bM.1 hw];exact .inr p0
 ·rintro σ H3 ⟨us',ws',x3,x4,rfl,F3,d3,ex3,kt3,nd3,fr3⟩;rw[Paired.length st,bj]at F3 d3;refine⟨_,rfl,k d us' ws' H3 F3 d3 hd (fun b o' e nb=>ex3 _ _ (e02 _ _ e) ?_) nd3 fr3⟩;simp at nb ⊢;exact⟨nb.1,nb.2.1,nb.2.2,frd e⟩
inductive jr(K:Za)(C Cm:Addr)(vs:List V)(H:Hp)(Q:VK)(E:XK):Prop
 |mk (H0:Hp) (x dx M:Addr) (J0 J4 J5:Zb) (ds:List am):(vs=[.ref x,.ref M])->(H x=some (.ins C dx []))->(cj Cm H0 M J0 J4 J5 ds)->(H0 x=none)->(ac H0 H)->(J5.length<=8)->(∀(fa sa na ta:Addr) (us ws ts:Ze) (S:wM) (j:Nat) (H':Hp),iI K C H' x M fa sa na ta us ws S.1->H' ta=some (.lst (ts.map V.ref))->p9 H0 na H' ts S.2->wK J0 J4 J5 ds S->S.2.length=S.1.fs.length->S=itF J0 J4 J5 ds j->ac H0 H'->ws.Nodup->(∀w∈ws,H0 w=none)->Bf (aq J0 J4) (behF J5 ds) S.1 S.2.length->(S.2.length=j/\∀i<j,i<(itF J0 J4 J5 ds i).1.fs.length)->Q .non H')->jr K C Cm vs H Q E
theorem xB{K:Za}{C Cm:Addr}(c:FC K C){vs:List V}{H:Hp}{Q:VK}{E:XK}(h:jr K C Cm vs H Q E):lO K C (gu K C Cm) (iW K C) (dA Cm) (bN Q) (start mm vs) H:=by
 obtain⟨H0,x,dx,M,J0,J4,J5,ds,rfl,hx,MA,hx0,S0,hr,k⟩:=h;have up:∀{H1 H2:Hp}{o:HO},ac H0 H1->H2=upd H1 x o->ac H0 H2:=fun S e b o q=>by rw[e,ag (ae q hx0)];exact S _ _ q
 refine⟨_,rfl,_,rfl,x,C,dx,[],rfl,hx,c.cls,c.a1,(by decide),?_⟩;obtain⟨H1,e1,hx1,X1⟩:=oI "machine" (.ref M) hx;rw[<-e1];have S1:=up S0 e1;have len1:(cf ("machine":Str) (.ref M) []).length<=1:=dw _ _ _;refine⟨(by show 0<=aj;decide),fun fa hfa=>⟨_,rfl,x,C,dx,_,rfl,kp hx1 hfa,c.cls,c.a2,by omega,?_⟩⟩;obtain⟨H2,e2,hx2,X2⟩:=oI "faces" (.ref fa) (kp (x:=.lst []) hx1 hfa);rw[<-e2];have S2:=up (S1.trans (ac.new hfa)) e2;have nf:fa≠x:=(ae hx1 hfa).symm;have fa2:=X2 _ _ aa nf;have len2:=dw ("faces":Str) (.ref fa) (cf ("machine":Str) (.ref M) []);refine⟨(by show 0<=aj;decide),fun sa hsa=>⟨_,rfl,x,C,dx,_,rfl,kp hx2 hsa,c.cls,c.a3,by omega,?_⟩⟩;obtain⟨H3,e3,hx3,X3⟩:=oI "first_stories" (.ref sa) (kp (x:=.lst []) hx2 hsa);rw[<-e3];have S3:=up (S2.trans (ac.new hsa)) e3;have ns:sa≠x:=(ae hx2 hsa).symm;have sa3:=X3 _ _ aa ns;have fa3:=X3 _ _ (kp (x:=.lst []) fa2 hsa) nf;have nfs:fa≠sa:=ae fa2 hsa;have len3:=dw ("first_stories":Str) (.ref sa) (cf ("faces":Str) (.ref fa) (cf ("machine":Str) (.ref M) []));refine fun na hna=>⟨_,rfl,x,C,dx,_,rfl,kp hx3 hna,c.cls,c.a4,by omega,?_⟩;obtain⟨H4,e4,hx4,X4⟩:=oI "numbers" (.ref na) (kp (x:=.dT []) hx3 hna);rw[<-e4];have S4:=up (S3.trans (ac.new hna)) e4;have nn:na≠x:=(ae hx3 hna).symm;have na4:=X4 _ _ aa nn;have fa4:=X4 _ _ (kp (x:=.dT []) fa3 hna) nf;have sa4:=X4 _ _ (kp (x:=.dT []) sa3 hna) ns;have len4:=dw ("numbers":Str) (.ref na) (cf ("first_stories":Str) (.ref sa) (cf ("faces":Str) (.ref fa) (cf ("machine":Str) (.ref M) [])));refine⟨(by show 0<=aj;decide),fun ta hta=>⟨_,rfl,x,C,dx,_,rfl,kp hx4 hta,c.cls,c.a5,by omega,?_⟩⟩;obtain⟨H5,e5,hx5,X5⟩:=oI "steps" (.ref ta) (kp (x:=.lst []) hx4 hta);rw[<-e5];have S5:=up (S4.trans (ac.new hta)) e5;have nt:ta≠x:=(ae hx4 hta).symm;have ta5:=X5 _ _ aa nt;have fa5:=X5 _ _ (kp (x:=.lst []) fa4 hta) nf;have sa5:=X5 _ _ (kp (x:=.lst []) sa4 hta) ns;have na5:=X5 _ _ (kp (x:=.lst []) na4 hta) nn;have F5:iI K C H5 x M fa sa na ta [] [] ⟨[],[]⟩:=by
  refine⟨⟨dx,_,hx5,?_,?_,?_,?_,?_,?_,?_⟩,fa5,.nil,sa5,.nil,na5,nfs,ae fa4 hta,ae sa4 hta⟩
  all_goals(show jN _ _=_;repeat (rw[dP];first|rw[if_pos rfl] | rw[if_neg (by decide +kernel)]))
  all_goals rfl
 clear e1 hx1 X1 len1 e2 hx2 X2 fa2 len2 e3 hx3 X3 sa3 fa3 len3 e4 hx4 X4 na4 fa4 sa4 len4 e5 hx5 X5 up;obtain⟨dx5,fs5,g5,l1,l2,l3,l4,l5,l6,l7⟩:=id F5.ob;have M5:=MA.same S5;refine⟨_,rfl,x,dx5,fs5,rfl,g5,l6,_,rfl,M,J0,J4,J5,ds,rfl,M5,fun f0 FF H6 hf0 hF S6=>⟨(by show 0<=aj;decide),fun st hst=>?_⟩⟩;rw[rP hF]at hf0;have S7:ac H6 (upd H6 st (.lst [])):=ac.new hst;have st7:upd H6 st (.lst []) st=some (.lst []):=aa;generalize upd H6 st (.lst [])=H7 at S7 st7 ⊢;have S57:ac H5 H7:=ac.trans S6 S7;have F7:=F5.same S57;have np:∀{b:Addr}{o:HO},H5 b=some o->st≠b:=fun e=>cA (ae (S6 _ _ e) hst);refine⟨x,M,fa,sa,na,ta,f0,st,[],[],⟨[],[]⟩,_,[],rfl,F7,S7 _ _ hf0,⟨[],st7,.nil⟩,⟨np fa5,np sa5,np ta5⟩,(by show 0<400;decide),(by show 0<400;decide),fun us ws H8 F8 e8 ew8=>?_⟩;have st0:H0 st=none:=(S5.trans S6).free hst;have nd8:ws.Nodup:=by rcases ew8 with e|e<;>(rw[e];simp)
 have fr8:∀w∈ws,H0 w=none:=fun w hw=>by
  rcases ew8 with e|e
  ·rw[e]at hw;cases hw
  ·rw[e]at hw;rw[bM.1 hw];exact st0
 have nta:ta≠na:=fun z=>by rw[z,na5]at ta5;cases ta5
 have ta8:H8 ta=some (.lst (([]:Ze).map V.ref)):=e8 _ _ (S57 _ _ ta5) F5.ne.2.1.symm F5.ne.2.2.symm nta;have in0:∀{b:Addr}{o:HO},H0 b=some o->b≠fa/\b≠sa/\b≠na:=fun e=>⟨ae (S1 _ _ e) hfa,ae (S2 _ _ e) hsa,ae (S3 _ _ e) hna⟩;have S08:ac H0 H8:=fun b o e=>by
  obtain⟨n1,n2,n3⟩:=in0 e;exact e8 _ _ (S57 _ _ (S5 _ _ e)) n1 n2 n3
 refine⟨fun m σ H'=>σ=[some (.ref x),some (.ref M)]/\∃(us ws ts:Ze) (j:Nat),m=300-j/\iI K C H' x M fa sa na ta us ws (itF J0 J4 J5 ds j).1/\H' ta=some (.lst (ts.map V.ref))/\p9 H0 na H' ts (itF J0 J4 J5 ds j).2/\wK J0 J4 J5 ds (itF J0 J4 J5 ds j)/\(itF J0 J4 J5 ds j).2.length=j/\ac H0 H'/\ws.Nodup/\(∀w∈ws,H0 w=none)/\Bf (aq J0 J4) (behF J5 ds) (itF J0 J4 J5 ds j).1 j/\(∀i<j,i<(itF J0 J4 J5 ds i).1.fs.length),⟨300,rfl,us,ws,[],0,rfl,F8,ta8,.nil,AF,rfl,S08,nd8,fr8,Df,fun i hi=>absurd hi (Nat.not_lt_zero _)⟩,?_⟩;rintro m σ H9 ⟨rfl,us9,ws9,ts,j,rfl,F9,ta9,st9,ok9,lj,S09,nd9,fr9',bf9,nf9⟩;obtain⟨dx9,fs9,g9,m1,m2,m3,m4,m5,m6,m7⟩:=id F9.ob;refine⟨_,rfl,x,C,dx9,fs9,.ref ta,rfl,g9,c.cls,c.a5,m5,.inl ⟨ta,_,rfl,.inl (aw.of ta9),_,rfl,x,C,dx9,fs9,.ref fa,rfl,g9,c.cls,c.a2,m2,.inl ⟨fa,_,rfl,.inl (aw.of F9.hfa),_,_,rfl,rfl,_,rfl,?_⟩⟩⟩;have z1:(ts.map V.ref).length=j:=by rw[ak,Paired.length st9,lj]
 have z2:(us9.map V.ref).length=(itF J0 J4 J5 ds j).1.fs.length:=by rw[ak,Paired.length F9.faces]
 have z3:=ok9.good.few hr;refine Fx (P:=j<(itF J0 J4 J5 ds j).1.fs.length) (by rw[z1,z2];simp) (fun lt=>?_) (fun ge=>?_)
 ·have o9:nextF J0 J4 J5 ds (itF J0 J4 J5 ds j)=itF J0 J4 J5 ds (j+1):=rfl;have ok10:wK J0 J4 J5 ds (itF J0 J4 J5 ds (j+1)):=AE ok9 (by rw[lj];exact lt);have bf10:Bf (aq J0 J4) (behF J5 ds) (itF J0 J4 J5 ds (j+1)).1 (j+1):=by
   have:=De MA.ok ok9 (by rw[lj];exact lt) (by rw[lj];exact bf9);rw[lj]at this;exact this
  have fr9:∀{b:Addr}{o:HO},H9 b=some o->∀{d:Addr},H9 d=none->d≠b:=fun e d h=>cA (ae e h);refine⟨fun σ' H'=>σ'=[some (.ref x),some (.ref M)]/\∃(us ws ts:Ze),iI K C H' x M fa sa na ta us ws (itF J0 J4 J5 ds (j+1)).1/\H' ta=some (.lst (ts.map V.ref))/\p9 H0 na H' ts (itF J0 J4 J5 ds (j+1)).2/\ac H0 H'/\ws.Nodup/\(∀w∈ws,H0 w=none),fun σ' H' zq=>?_,?_⟩
  ·obtain⟨e,us,ws,ts,q1,q2,q3,q4⟩:=zq;refine⟨300-(j+1),by omega,e,us,ws,ts,j+1,rfl,q1,q2,q3,ok10,?_,q4.1,q4.2.1,q4.2.2,bf10,fun i hi=>(Nat.lt_succ_iff_lt_or_eq.1 hi).elim (nf9 i) fun z=>by rw[z];exact lt⟩;show(_++[_]).length=j+1;rw[aE,lj];rfl
  refine⟨_,rfl,x,C,dx9,fs9,.ref ta,rfl,g9,c.cls,c.a5,m5,.inl ⟨rfl,_,aw.of ta9⟩,_,rfl,x,dx9,fs9,rfl,g9,m7,_,rfl,x,C,dx9,fs9,.ref ta,rfl,g9,c.cls,c.a5,m5,.inl ⟨ta,_,rfl,.inl (aw.of ta9),?_⟩⟩;refine⟨x,M,fa,sa,na,ta,us9,ws9,_,j,J0,J4,J5,ds,by rw[z1];rfl,F9,MA.same S09,ok9.good,hr,lt,⟨_,ta9⟩,fun d us' ws' H10 F10 hd hdn ex nd10 fr10=>?_⟩;have nta9:ta∉[fa,sa,na]:=by simp[F9.ne.2.1.symm,F9.ne.2.2.symm,nta]
  have ta10:=ex _ _ ta9 nta9;have S010:ac H0 H10:=fun b o e=>by
   obtain⟨n1,n2,n3⟩:=in0 e;exact ex _ _ (S09 _ _ e) (by simp[n1,n2,n3])
  have st10:p9 H0 na H10 ts (itF J0 J4 J5 ds j).2:=Paired.mapP st9 fun d l ⟨q1,q2,q3⟩=>⟨q1,q2,ex _ _ q3 (by
   simp[q2];exact⟨(fun z=>by rw[z,F9.hfa]at q3;cases q3),(fun z=>by rw[z,F9.hsa]at q3;cases q3)⟩)⟩
  have d0:H0 d=none:=S09.free hdn;have ndt:d≠ta:=fr9 ta9 hdn;refine⟨ta,_,.ref d,rfl,rfl,ta10,?_,rfl,us',ws',ts++[d],?_,?_,?_,?_,nd10 nd9,fun w hw=>(fr10 w hw).elim (fr9' w) fun z=>S09.free z⟩
  ·rw[z1];exact ao (by omega)
  ·have e:(itF J0 J4 J5 ds (j+1)).1=(d5 ((itF J0 J4 J5 ds j).1.ss.getD j []) (itF J0 J4 J5 ds j).1 (stepsF J0 J4 J5 ds ((itF J0 J4 J5 ds j).1.fs.getD j []))).1:=by
    show(nextF J0 J4 J5 ds (itF J0 J4 J5 ds j)).1=_;unfold nextF;rw[lj]
   rw[e];exact F10.moveT ta10
  ·rw[aa,ax];rfl
  ·have e:(itF J0 J4 J5 ds (j+1)).2=(itF J0 J4 J5 ds j).2++[(d5 ((itF J0 J4 J5 ds j).1.ss.getD j []) (itF J0 J4 J5 ds j).1 (stepsF J0 J4 J5 ds ((itF J0 J4 J5 ds j).1.fs.getD j []))).2]:=by
    show(nextF J0 J4 J5 ds (itF J0 J4 J5 ds j)).2=_;unfold nextF;rw[lj]
   rw[e];exact dC (Paired.mapP st10 fun d l ⟨q1,q2,q3⟩=>⟨q1,q2,by rw[ag (fun z=>by rw[z,ta10]at q3;cases q3)];exact q3⟩) ⟨d0,fr9 F9.hna hdn,by rw[ag ndt];exact hd⟩
  ·intro b o e;have h1:=S010 _ _ e;rw[ag (fun z=>?_)]
   ·exact h1
   ·have h4:=S4 _ _ e;rw[z,hta]at h4;cases h4
 ·have e:=ok9.le;exact k fa sa na ta us9 ws9 ts _ j H9 F9 ta9 st9 ok9 (by omega) rfl S09 nd9 fr9' (by rw[lj];exact bf9) ⟨lj,nf9⟩
section
variable{A B:List Str->Sg->List Str}{ss:List Sg}{k:FPr}
theorem Eo(nd:ss.Nodup){j:Nat}{sg:Sg}(hj:ss[j]?=some sg):ss.idxOf sg=j:=by
 obtain⟨hl,e⟩:=bJ.1 hj;rw[<-e];exact nd.idxOf_getElem _ hl
end
def z7(K:Za)(sp_law_signs:Sp):TS :=
 ar (bg (aV sp_law_signs (aD V0)) U2)
 (aR (aJ oA (dE (aD (cK (dL K) (aD V1)))) (c9 1 [2] (ca K V1) U0 (jS) (wP K "list" (yY K) V1 (aD V0)))))
def AS:List Str:=["told","story","signs"]
abbrev Fe(K:Za)(H:Hp)(gs:Ze)(s:List Sg):Prop:=Paired (fun g (sg:Sg)=>cN K H g (sg.map V.str)) gs s
inductive uH(K:Za)(vs:List V)(H:Hp)(Q:VK)(E:XK):Prop
 |mk (t st l1 l2 l3 l4:Addr) (ts gs:Ze) (J0 J4 J5:Zb) (ds:List am) (s:List Sg):(vs=[.ref t,.ref st])->(kj H t l1 l2 l3 l4 ts J0 J4 J5 ds)->(bC J0 J4 J5 ds)->(H st=some (.lst (gs.map V.ref)))->(Fe K H gs s)->((∀x∈s,x∈aq J0 J4))->(s.length<=2000)->(∀(l:Addr) (H':Hp),H' l=some (.lst ((nA (aq J0 J4) s).map V.int))->ac H H'->Q (.ref l) H')->uH K vs H Q E
theorem DY{K:Za}{vs:List V}{H:Hp}{Q:VK}{E:XK}(h:uH K vs H Q E):z7 K iV (bN Q) (start AS vs) H:=by
 obtain⟨t,st,l1,l2,l3,l4,ts,gs,J0,J4,J5,ds,s,rfl,T,m,hst,hg,hs,zl,k⟩:=h;have zs:(aq J0 J4).length<=9:=by
  unfold aq;have:=m.asks4;have:=m.says4;simp only[aE,ak,qI];omega
 refine⟨_,rfl,t,l1,l2,l3,l4,ts,J0,J4,J5,ds,rfl,T,m,fun sl us H1 hsl hus _ S1=>?_⟩;have st1:=S1 _ _ hst;refine⟨_,rfl,.inl ⟨st,_,rfl,.inl (aw.of st1),(by show 1<=aj;decide),fun p hp=>?_⟩⟩;have S2:ac H1 (upd H1 p (.lst [.int ((gs.map V.ref).length:Nat)])):=ac.new hp;have p2:upd H1 p (.lst [.int ((gs.map V.ref).length:Nat)]) p=some (.lst [.int ((gs.map V.ref).length:Nat)]):=aa;generalize upd H1 p (.lst [.int ((gs.map V.ref).length:Nat)])=H2 at S2 p2 ⊢;have S12:=S1.trans S2;refine⟨_,rfl,st,rfl,⟨_,aw.of (S12 _ _ hst)⟩,fun l hl=>?_⟩;refine cu (xs:=gs.map V.ref) (fun i vs H'=>vs=(C4 (aq J0 J4) (s.take i)).map V.int/\ac H2 H'/\H' l=some (.lst vs)) ⟨rfl,ac.new hl,aa⟩ (fun i vs H' _ zq=>by obtain⟨_,S,h'⟩:=zq;exact⟨h',aw.of (S _ _ (S12 _ _ hst))⟩) ?_ ?_
 ·rintro vs H' ⟨rfl,S,h'⟩;rw[ak,Paired.length hg,bj]at h';refine⟨p,l,_,_,rfl,rfl,S _ _ p2,h',?_,fun q hq=>k q _ ?_ ((S12.trans S).trans (ac.new hq))⟩
  ·simp only[C4,ak,qI];rw[vD];omega
  ·rw[aa];unfold nA;rw[ak,Paired.length hg];rfl
 ·rintro i vs H' y hy hi ⟨rfl,S,h'⟩;obtain⟨g,hg',rfl⟩:=bT hy;obtain⟨sg,hsg,hat⟩:=Paired.getL hg hg';refine gN (vI ?_);have hm:=hs sg (a_ hsg);have hx:=List.idxOf_lt_length_iff.2 hm;have sl':=S _ _ (S2 _ _ hsl);have nod:=eU m;refine⟨_,rfl,.inl ⟨rfl,_,aw.of sl'⟩,_,rfl,sl,_,_,eI sg,(aq J0 J4).map eI,(aq J0 J4).idxOf sg,rfl,rfl,sl',(hus.kt (ac.kt (S2.trans S))).dIns,aP (cN.sq (cN.kt (ac.kt (S12.trans S)) hat)),by rw[br];decide,bq (fB _) (by decide),by rw[ak,Paired.length hus];omega,?_,fun m' lt z=>?_,h',?_,o9 hi ⟨?_,fun b o e=>by rw[ag (ae e hl)];exact S _ _ e,aa⟩⟩
  ·rw[bv,bR hx,List.getElem_idxOf hx];rfl
  ·rw[bv]at z;obtain⟨w,hw,e⟩:=qj.1 z;have e:w=sg:=p6 e;subst e;have:=Eo nod hw;omega
  ·unfold C4;rw[ak,ak,aI,vD];omega
  ·unfold C4;rw[take_snoc hsg,ax,ax];rfl
def xa(K:Za)(C_FaceMap:Addr)(sp_FaceMap_init:Sp):TS :=
 ar (bg (yU C_FaceMap sp_FaceMap_init [] E0 (aD V0)) U1)
 (aR (Bb K (aM (fO K V1 "faces") (fO K V1 "first_stories"))))
def yy:List Str:=["M","found"]
def pp(K:Za)(sp_law_signs:Sp):TS :=
 ar (bX (wO (mK (tB (cK (f8 K) (aM V1 (tC (.ty "list")))))) (aN (aJ (xE K) V1 (dE (bH))))) (aR (tC (.bl false))) (bc))
 (ar (eg (ca K V1) U2 (ar (bX (wO (mK (tB (cK (f8 K) (aM V2 (tC (.ty "tuple")))))) (aN (aJ wQ (cK (dL K) (aD V2)) (tC (.int 2))))) (aR (tC (.bl false))) (bc))
 (ar (bX (wO (mK (tB (cK (f8 K) (aM (aJ (sE K) V2 (tC (.int 0))) (tC (.ty "tuple")))))) (mK (tB (cK (f8 K) (aM (aJ (sE K) V2 (tC (.int 1))) (tC (.ty "list"))))))) (aR (tC (.bl false))) (bc))
 (bX (aN (aJ (m9 K) (c9 1 [0] (ca K (aJ (sE K) V2 (tC (.int 1)))) U0 (aN (aJ (uN K true) V0 (aV sp_law_signs (aD V1)))) V0) (dE (bH)))) (aR (tC (.bl false))) (bc)))))
 (aR (tC (.bl true))))
def pM:List Str:=["told","found","row"]
def ol(K:Za)(sp_law_signs:Sp)(sp_law_key:Sp)(sp_law_behind:Sp)(sp_law_on:Sp):TS :=
 ar (bg (lR) U2)
 (ar (eg (ca K V1) (gA K 2 (bb U3 (bb U4 (ga)))) (ar (bX (tB (xm K V3 V2)) (aR (tC (.bl false))) (bc))
 (k_ V2 V3 (aV sp_law_key (aM V0 V4)))))
 (ar (bX (wO (aN (aJ (m9 K) (aJ (sE K) (aJ (df K) V1 (tC (.int 0))) (tC (.int 0))) (aV sp_law_on (aM V0 (xb (pH K) (aJ (sE K) V0 (tC (.int 2))) (dR) (fN (tC (.int 1)))))))) (aN (aJ (m9 K) (aJ (sE K) (aJ (df K) V1 (tC (.int 0))) (tC (.int 1))) (dE (bH))))) (aR (tC (.bl false))) (bc))
 (ar (eg (DE (aM (tC (.int 1)) (cK (dL K) (aD V1)))) U5 (ar (bg (aJ (df K) V1 V5) (gA K 2 (bb U3 (bb U4 (ga)))))
 (ar (bg (c9 2 [4] (ca K (xb (pH K) V1 (dR) (fN V5))) (gA K 2 (bb U0 (bb U1 (ga)))) (sv (aN (aJ (m9 K) V2 (dE (bH)))) (aN (aJ (xE K) V1 (xb (pH K) V2 (dR) (fN (Fu (rU fun i=>.int (-i)) (tC (.int 1)))))))) V0) U6)
 (ar (bX (wO (aN (aJ (xE K) V6 (dE (bH)))) (aN (aJ (m9 K) (aV sp_law_behind (ji V0 (aJ (df K) V6 (tC (.int 0))) (aJ (df K) V4 (Fu (rU fun i=>.int (-i)) (tC (.int 1)))))) V3))) (aR (tC (.bl false))) (bc))
 (bX (mK (aN (aJ (EQ K) (o6 K V2 (aJ (sE K) (aJ (df K) V1 (aJ EM V5 (tC (.int 1)))) (tC (.int 0)))) (o6 K V2 V3)))) (aR (tC (.bl false))) (bc))))))
 (ar (eg (ca K V1) (gA K 2 (bb U3 (bb U4 (ga)))) (eg (ca K (aV sp_law_signs (aD V0))) U7 (ar (bg (aV sp_law_behind (ji V0 V3 V7)) U8)
 (ar (bX (sv (aN (aJ (m9 K) V8 (dJ (bH)))) (tB (jm K V8 V2))) (aR (tC (.bl false))) (bc))
 (bX (sv (aN (aJ (m9 K) V8 (dJ (bH)))) (aN (aJ (ER K) (o6 K V2 V8) (aV sp_law_key (aM V0 (aJ oA V4 (dE (aD V7)))))))) (aR (tC (.bl false))) (bc))))))
 (aR (tC (.bl true)))))))
def oM:List Str:=["told","found","number","face","story","at","ahead","sign","behind"]
def Cy(K:Za)(sp_law_same:Sp)(sp_faces_of:Sp)(sp_law_is_reached:Sp)(sp_law_is_listed:Sp)(sp_law_machine:Sp)(sp_law_stiller:Sp)(sp_law_model:Sp)(sp_law_open:Sp):TS :=
 ar (bg (aV sp_law_open (aD V0)) U1)
 (ar (bg (aV sp_law_stiller (aM V1 (aV sp_law_model (ji V1 (tC (.int 5)) (tC (.int 0)))))) U2)
 (ar (bg (aV sp_law_machine (aD V2)) U3)
 (ar (bg (aV sp_faces_of (aD V3)) U4)
 (ar (bX (wO (mK (tB (aV sp_law_is_listed (aM V2 V4)))) (mK (tB (aV sp_law_is_reached (aM V2 V4))))) (aR (tC (.bl false))) (bc))
 (ar (bg (c9 2 [] (ca K V4) (gA K 2 (bb U0 (bb U1 (ga)))) (jS) (dJ (aM V0 (cK (de K) (aD V1))))) U5)
 (ar (eg (ca K V4) (gA K 2 (bb U6 (bb U7 (ga)))) (c8 (wP K "list" eo V7 (aD (dJ (aD (tC (.str "hush"))))))))
 (ar (bX (mK (tB (aV sp_law_same (aH V4 (aH (c9 2 [] (ca K V5) (gA K 2 (bb U0 (bb U1 (ga)))) (jS) (dJ (aH V0 (aH (aJ oA V1 (dE (aD (dJ (aD (tC (.str "hush"))))))) bH)))) bH))))) (aR (tC (.bl false))) (bc))
 (ar (c8 (wP K "list" eo V4 (aD (aJ (df K) V5 (tC (.int 0))))))
 (aR (aV sp_law_same (aM (aV sp_faces_of (aD V3)) V5)))))))))))
def zT:List Str:=["script","pen","told","made","found","kept","face","story"]
def Br:List Str:=["script"]
structure aX where
 w:Addr
 f:List Str
 s:List Sg
def cH(K:Za)(J:Hp)(q:Addr)(r:aX):Prop:=∃u:Addr,J q=some (.tup [.ref u,.ref r.w])/\J u=some (.tup (r.f.map V.str))/\fM K J r.w r.s
def vz(ws:Ze)(H H':Hp):Prop:=(∀b o,H b=some o->b∉ws->H' b=some o)/\jU H H'
theorem vz.refl(ws:Ze)(H:Hp):vz ws H H:=⟨fun _ _ e _=>e,fun _ _ e=>e⟩
theorem vz.trans{ws:Ze}{H H1 H2:Hp}(a:vz ws H H1)(b:vz ws H1 H2):vz ws H H2:=⟨fun c o e n=>b.1 c o (a.1 c o e n) n,fun c xs e=>b.2 c xs (a.2 c xs e)⟩
theorem ac.exW{ws:Ze}{H H':Hp}(S:ac H H'):vz ws H H':=⟨fun b o e _=>S b o e,ac.kt S⟩
theorem vz.upd{ws:Ze}{H:Hp}{w:Addr}{xs ys:List V}(h:H w=some (.lst xs))(m:w∈ws):vz ws H (upd H w (.lst ys)):=⟨fun b o e n=>by rw[ag (fun z=>n (by rw[z];exact m))];exact e,fA h⟩
theorem cH.ex{K:Za}{ws:Ze}{J J':Hp}{q:Addr}{r:aX}(h:cH K J q r)(e:vz ws J J')(n:r.w∉ws):cH K J' q r:=by
 obtain⟨u,h1,h2,gs,h3,h4⟩:=h;exact⟨u,e.2 _ _ h1,e.2 _ _ h2,gs,e.1 _ _ h3 n,Paired.mapP h4 fun _ _ r=>cN.kt e.2 r⟩
theorem cH.same{K:Za}{J J':Hp}{q:Addr}{r:aX}(S:ac J J')(h:cH K J q r):cH K J' q r:=h.ex (ws:=[]) (ac.exW S) (fun z=>by cases z)
structure k6(J0 J4 J5:Zb)(ds:List am)(j:Nat)(rs:List aX):Prop where
 fs:rs.map aX.f=(itF J0 J4 J5 ds j).1.fs
 ss:rs.map aX.s=(itF J0 J4 J5 ds j).1.ss
 fin:j=(itF J0 J4 J5 ds j).1.fs.length
 nf:∀i<j,i<(itF J0 J4 J5 ds i).1.fs.length
 ok:wK J0 J4 J5 ds (itF J0 J4 J5 ds j)
 bf:Bf (aq J0 J4) (behF J5 ds) (itF J0 J4 J5 ds j).1 j
 nd:(rs.map aX.w).Nodup
theorem k6.uniq{J0 J4 J5:Zb}{ds:List am}{j j':Nat}{rs rs':List aX}(h:k6 J0 J4 J5 ds j rs)(h':k6 J0 J4 J5 ds j' rs'):j=j':=by
 rcases qq j j' with z|z|z
 ·have:=h'.nf j z;have:=h.fin;omega
 ·exact z
 ·have:=h.nf j' z;have:=h'.fin;omega
inductive js(K:Za)(Cm:Addr)(vs:List V)(H:Hp)(Q:VK)(E:XK):Prop
 |mk (M:Addr) (J0 J4 J5:Zb) (ds:List am):(vs=[.ref M])->(cj Cm H M J0 J4 J5 ds)->(J5.length<=8)->(∀(l:Addr) (qs:Ze) (rs:List aX) (j:Nat) (H':Hp),H' l=some (.lst (qs.map V.ref))->H l=none->Paired (cH K H') qs rs->k6 J0 J4 J5 ds j rs->(∀r∈rs,H r.w=none/\r.w≠l)->ac H H'->Q (.ref l) H')->js K Cm vs H Q E
def DB:List Addr->List (List Str)->List (List Sg)->List aX
 |w::ws,f::fs,s::ss=>⟨w,f,s⟩::DB ws fs ss
 |_,_,_=>[]
theorem DA:∀{ws:Ze}{fs:List (List Str)}{ss:List (List Sg)},ws.length=fs.length->ss.length=fs.length->(DB ws fs ss).map aX.w=ws/\(DB ws fs ss).map aX.f=fs/\(DB ws fs ss).map aX.s=ss
 |[],[],[],_,_=>⟨rfl,rfl,rfl⟩
 |w::ws,f::fs,s::ss,h1,h2=>by
  obtain⟨a,b,c⟩:=DA (ws:=ws) (fs:=fs) (ss:=ss) (by simpa using h1) (by simpa using h2);refine⟨?_,?_,?_⟩
  ·show w::(DB ws fs ss).map aX.w=_;rw[a]
  ·show f::(DB ws fs ss).map aX.f=_;rw[b]
  ·show s::(DB ws fs ss).map aX.s=_;rw[c]
 |[],_::_,_,h,_=>by cases h
 |_::_,[],_,h,_=>by cases h
 |_,[],_::_,_,h=>by cases h
 |_,_::_,[],_,h=>by cases h
theorem xC{K:Za}{C Cm:Addr}(c:FC K C){vs:List V}{H:Hp}{Q:VK}{E:XK}(h:js K Cm vs H Q E):xa K C (jr K C Cm) (bN Q) (start yy vs) H:=by
 obtain⟨M,J0,J4,J5,ds,rfl,MA,hr,k⟩:=h;refine⟨_,rfl,fun x dx hx hdx ne=>?_⟩;have S0:ac H (upd (upd H dx (.own x)) x (.ins C dx [])):=fun b o e=>by rw[ag (ae e hx)];exact kp e hdx
 refine⟨H,x,dx,M,J0,J4,J5,ds,rfl,aa,MA,hx,S0,hr,fun fa sa na ta us ws ts S j H1 F1 ta1 st1 ok1 len1 eS S1 nd fr bf nf=>⟨rfl,?_⟩⟩;subst eS;obtain⟨lj,nf⟩:=nf;rw[lj]at len1 bf;obtain⟨dx1,fs1,g1,l1,l2,l3,l4,l5,l6,l7⟩:=F1.ob;refine⟨_,rfl,x,C,dx1,fs1,.ref fa,rfl,g1,c.cls,c.a2,l2,_,rfl,x,C,dx1,fs1,.ref sa,rfl,g1,c.cls,c.a3,l3,fa,sa,_,_,rfl,aw.of F1.hfa,aw.of F1.hsa,fun D qs hD hq nq zq=>?_⟩;have zu:=Paired.length F1.faces;have zw:=Paired.length F1.stories;have zg:=ok1.good.len;rw[ak,ak,zu,zw,zg,Nat.min_self]at zq;obtain⟨ndq,nd'⟩:=gM.1 nq;obtain⟨e1,e2,e3⟩:=DA (ws:=ws) (fs:=(itF J0 J4 J5 ds j).1.fs) (ss:=(itF J0 J4 J5 ds j).1.ss) (by omega) (by omega);have S2:ac H1 (upd (lX H1 qs (us.map V.ref) (ws.map V.ref)) D (.lst (qs.map .ref))):=fun b o e=>by
  rw[ag (ae e hD),nz fun z=>by rw[hq b z]at e;cases e];exact e
 have D2:upd (lX H1 qs (us.map V.ref) (ws.map V.ref)) D (.lst (qs.map .ref)) D=some (.lst (qs.map V.ref)):=aa;have q2:∀(i:Nat) (q u w:Addr),qs[i]?=some q->us[i]?=some u->ws[i]?=some w->upd (lX H1 qs (us.map V.ref) (ws.map V.ref)) D (.lst (qs.map .ref)) q=some (.tup [.ref u,.ref w]):=fun i q u w a1 a2 a3=>by
  rw[ag (fun z=>ndq (by rw[<-z];exact a_ a1))];exact uW nd' a1 (by rw[bv,a2];rfl) (by rw[bv,a3];rfl)
 generalize upd (lX H1 qs (us.map V.ref) (ws.map V.ref)) D (.lst (qs.map .ref))=H2 at S2 D2 q2 ⊢;refine k D qs (DB ws (itF J0 J4 J5 ds j).1.fs (itF J0 J4 J5 ds j).1.ss) j H2 D2 (S1.free hD) ?_ ⟨e2,e3,by omega,nf,ok1,bf,by rw[e1];exact nd⟩ (fun r hr=>?_) (S1.trans S2)
 ·have hF:=F1.faces;have hS:=F1.stories;generalize(itF J0 J4 J5 ds j).1.fs=fs at hF zq zu zg;generalize(itF J0 J4 J5 ds j).1.ss=ss at hS zw zg;clear e1 e2 e3 nq nd' ndq nd bf ok1 D2 k hq fr F1
  induction hF generalizing qs ws ss with
  |nil =>
   cases qs with
   |cons a r=>cases zq
   |nil =>
    cases hS with
    |nil=>exact .nil
    |cons h r=>cases zg
  |cons h r ih =>
   cases qs with
   |nil=>cases zq
   |cons q qs =>
    cases hS with
    |nil=>cases zg
    |cons h' r' =>
     refine .cons ⟨_,q2 0 _ _ _ rfl rfl rfl,S2 _ _ h,?_⟩ (by refine ih _ qs (fun i q u w a1 a2 a3=>q2 (i+1) q u w a1 a2 a3) ?_ ?_ _ ?_ ?_ ?_<;>first|exact r'|simpa using zq|simpa using zu|simpa using zw|simpa using zg)
     obtain⟨_,gs,h3,h4⟩:=h';exact⟨gs,S2 _ _ h3,Paired.mapP h4 fun _ _ r=>cN.kt (ac.kt S2) r⟩
 ·have hm:r.w∈ws:=by rw[<-e1];exact fm hr
  refine⟨fr _ hm,fun z=>?_⟩;obtain⟨i,hi⟩:=db hm;obtain⟨s,_,_,gs,q1,_⟩:=Paired.getL F1.stories hi;rw[z,hD]at q1;cases q1
def pJ(r:aX):DT:=.t [.t (r.f.map fW),.s (r.s.map eI)]
theorem nH{K:Za}{H:Hp}:∀{gs:Ze}{s:List Sg},Paired (fun g (sg:Sg)=>cN K H g (sg.map V.str)) gs s->DIns K H (s.map eI) (gs.map V.ref)
 |_,_,.nil=>rfl
 |_,_,.cons h r=>⟨_,_,rfl,aP (cN.sq h),nH r⟩
theorem cH.dIn{K:Za}{H:Hp}{q:Addr}{r:aX}(h:cH K H q r):gL K H (pJ r) (.ref q):=by
 obtain⟨u,h1,h2,gs,h3,h4⟩:=h;exact⟨q,_,rfl,be.of h1,_,_,rfl,aP (be.of h2),_,_,rfl,⟨r.w,_,rfl,aw.of h3,nH h4⟩,rfl⟩
theorem i6{K:Za}{H:Hp}:∀{qs:Ze}{rs:List aX},Paired (cH K H) qs rs->DIns K H (rs.map pJ) (qs.map V.ref)
 |_,_,.nil=>rfl
 |_,_,.cons h r=>⟨_,_,rfl,cH.dIn h,i6 r⟩
theorem tL:∀f:List Str,DT.depths (f.map fW)=0
 |[]=>rfl
 |s::f=>by show max 0 (DT.depths (f.map fW))=0;rw[tL f];rfl
theorem BR(r:aX):(pJ r).depth<=3:=by
 show max (DT.depths (r.f.map fW)+1) (max (DT.depths (r.s.map eI)+1) 0)+1<=3;have:=fB r.s;rw[tL];omega
theorem oH:∀rs:List aX,DT.depths (rs.map pJ)<=3
 |[]=>cQ _
 |r::rs=>Nat.max_le.2 ⟨BR r,oH rs⟩
inductive kD(K:Za)(vs:List V)(H:Hp)(Q:VK)(E:XK):Prop
 |mk (t l l1 l2 l3 l4:Addr) (ts qs:Ze) (rs:List aX) (J0 J4 J5:Zb) (ds:List am):(vs=[.ref t,.ref l])->(kj H t l1 l2 l3 l4 ts J0 J4 J5 ds)->(bC J0 J4 J5 ds)->(H l=some (.lst (qs.map V.ref)))->(Paired (cH K H) qs rs)->(rs≠[])->(∀r∈rs,∀sg∈r.s,sg∈aq J0 J4)->(∀H',ac H H'->Q (.bl true) H')->kD K vs H Q E
theorem Ag{K:Za}{vs:List V}{H:Hp}{Q:VK}{E:XK}(h:kD K vs H Q E):pp K iV (bN Q) (start pM vs) H:=by
 obtain⟨t,l,l1,l2,l3,l4,ts,qs,rs,J0,J4,J5,ds,rfl,T,m,hl,hP,ne,hs,k⟩:=h;have tyl:zQ K H (.ref l) (.type "list"):=.inr (.inr ⟨_,_,rfl,rfl,aw.of hl⟩);refine⟨_,rfl,.ref l,"list",_,true,rfl,tyl,rfl,_,rfl,aU ?_⟩;refine⟨_,rfl,(by show 0<=aj;decide),fun e he=>?_⟩;have S1:ac H (upd H e (.lst [])):=ac.new he;have e1:upd H e (.lst []) e=some (.lst []):=aa;generalize upd H e (.lst [])=H1 at S1 e1 ⊢;refine⟨.s (rs.map pJ),.s [],⟨l,_,rfl,aw.of (S1 _ _ hl),i6 (Paired.mapP hP fun _ _ r=>cH.same S1 r)⟩,gC (aw.of e1),bq (nR (oH rs)) (by decide),by decide,_,rfl,?_⟩;rw[zzr0 (fun z=>ne (by injection z with z;exact List.map_eq_nil_iff.1 z))];refine aU ⟨_,rfl,l,rfl,⟨_,aw.of (S1 _ _ hl)⟩,?_⟩
 let zI1:Nat->L2.St->Hp->Prop:=fun i σ H'=>∃x2:Option V,σ=[some (.ref t),some (.ref l),x2]/\ac H H'
 refine cw (xs:=qs.map V.ref) zI1 ⟨_,rfl,S1⟩ (fun i σ H' _ zq=>by obtain⟨_,_,S⟩:=zq;exact aw.of (S _ _ hl)) ?_ ?_
 ·rintro i x σ H2 hx ⟨x2,rfl,S2⟩;obtain⟨q,hq,rfl⟩:=bT hx;obtain⟨r,hr,hat⟩:=Paired.getL hP hq;obtain⟨u,g1,g2,gs,g3,g4⟩:=cH.same S2 hat;have tyq:zQ K H2 (.ref q) (.type "tuple"):=.inr (.inl ⟨_,_,rfl,rfl,be.of g1⟩);have tyu:zQ K H2 (.ref u) (.type "tuple"):=.inr (.inl ⟨_,_,rfl,rfl,be.of g2⟩);have tyw:zQ K H2 (.ref r.w) (.type "list"):=.inr (.inr ⟨_,_,rfl,rfl,aw.of g3⟩);refine⟨_,rfl,.ref q,"tuple",_,true,rfl,tyq,rfl,_,rfl,aU ?_⟩;refine⟨_,rfl,.inl ⟨q,_,rfl,.inr (be.of g1),rfl,_,rfl,aU ?_⟩⟩;refine⟨_,rfl,q,_,0,_,rfl,rfl,be.of g1,bQ (j:=0) rfl,.ref u,"tuple",_,true,rfl,tyu,rfl,_,rfl,aU ?_⟩;refine⟨_,rfl,q,_,1,_,rfl,rfl,be.of g1,bQ (j:=1) rfl,.ref r.w,"list",_,true,rfl,tyw,rfl,_,rfl,aU ?_⟩;refine⟨_,rfl,q,_,1,_,rfl,rfl,be.of g1,bQ (j:=1) rfl,r.w,rfl,⟨_,aw.of g3⟩,fun cl hcl=>?_⟩
  let zI2:Nat->List V->Hp->Prop:=fun i us H'=>us=[]/\ac H2 H'/\H' cl=some (.lst us)
  refine cu (xs:=gs.map V.ref) zI2 ⟨rfl,ac.new hcl,aa⟩ (fun i us H' _ zq=>by obtain⟨_,S,h'⟩:=zq;exact⟨h',aw.of (S _ _ g3)⟩) ?_ ?_
  ·rintro us H3 ⟨rfl,S3,h3⟩;refine⟨(by show 0<=aj;decide),fun e' he'=>?_⟩;have S4:ac H3 (upd H3 e' (.lst [])):=ac.new he';have e4:upd H3 e' (.lst []) e'=some (.lst []):=aa;generalize upd H3 e' (.lst [])=H4 at S4 e4 ⊢;refine⟨.s [],.s [],gC (aw.of (S4 _ _ h3)),gC (aw.of e4),by decide,by decide,_,rfl,?_⟩;rw[zzr1 rfl];exact aU ⟨_,rfl,S2.trans (S3.trans S4)⟩
  ·rintro i' us H3 y hy hi' ⟨rfl,S3,h3⟩;obtain⟨g,hg',rfl⟩:=bT hy;obtain⟨sg,hsg,hat'⟩:=Paired.getL g4 hg';have S03:=S2.trans S3;refine gN ⟨_,rfl,_,rfl,t,l1,l2,l3,l4,ts,J0,J4,J5,ds,rfl,T.same S03,m,fun sl us H4 hsl hus _ S4=>?_⟩;refine⟨eI sg,(aq J0 J4).map eI,sl,_,aP (cN.sq (cN.kt (ac.kt (S3.trans S4)) hat')),rfl,.inl (aw.of hsl),km.dIns hus,by rw[br];decide,bq (fB _) (by decide),_,rfl,?_⟩;have hm:eI sg∈(aq J0 J4).map eI:=fm (hs r (a_ hr) sg (a_ hsg));have hc:(if true=true then !decide (eI sg∈(aq J0 J4).map eI)else decide (eI sg∈(aq J0 J4).map eI))=false:=by
    show(!decide (eI sg∈(aq J0 J4).map eI))=false;rw[zzr1 hm];rfl
   rw[hc];exact aU (o9 hi' ⟨rfl,S3.trans S4,S4 _ _ h3⟩)
 ·rintro σ H2 ⟨x2,rfl,S2⟩;exact k H2 S2
section
variable{J0 J4 J5:Zb}{ds:List am}{j:Nat}{rs:List aX}
theorem k6.at(h:k6 J0 J4 J5 ds j rs){i:Nat}{r:aX}(e:rs[i]?=some r):(itF J0 J4 J5 ds j).1.fs[i]?=some r.f/\(itF J0 J4 J5 ds j).1.ss[i]?=some r.s:=by
 rw[<-h.fs,<-h.ss,bv,bv,e];exact⟨rfl,rfl⟩
theorem k6.ofF(h:k6 J0 J4 J5 ds j rs){i:Nat}{f:Zb}(e:(itF J0 J4 J5 ds j).1.fs[i]?=some f):∃r,rs[i]?=some r/\r.f=f:=by
 rw[<-h.fs,bv]at e;exact qj.1 e
theorem k6.ofS(h:k6 J0 J4 J5 ds j rs){i:Nat}{s:List Sg}(e:(itF J0 J4 J5 ds j).1.ss[i]?=some s):∃r,rs[i]?=some r/\r.s=s:=by
 rw[<-h.ss,bv]at e;exact qj.1 e
theorem k6.len(h:k6 J0 J4 J5 ds j rs):rs.length=j:=by rw[h.fin,<-h.fs,ak]
theorem k6.few(h:k6 J0 J4 J5 ds j rs)(hr:J5.length<=8):rs.length<=256:=by
 have:=h.ok.good.few hr;rw[<-h.fs,ak]at this;exact this
theorem k6.slen(h:k6 J0 J4 J5 ds j rs)(hr:J5.length<=8){r:aX}(m:r∈rs):r.s.length<=256:=by
 obtain⟨i,hi⟩:=db m;have h1:=h.ok.good.sl i _ (h.at hi).2;have h2:=(bJ.1 hi).1;have:=h.few hr;omega
theorem k6.flen(h:k6 J0 J4 J5 ds j rs)(hr:J5.length<=8){r:aX}(m:r∈rs):r.f.length<=8:=by
 obtain⟨i,hi⟩:=db m;have:=(h.ok.good.isF _ (a_ (h.at hi).1)).len;omega
theorem k6.ndF(h:k6 J0 J4 J5 ds j rs):(rs.map aX.f).Nodup:=by rw[h.fs];exact h.ok.good.nd
theorem k6.ord(h:k6 J0 J4 J5 ds j rs){i k:Nat}{r r':aX}(ik:i<k)(e:rs[i]?=some r)(e':rs[k]?=some r'):kZ (aq J0 J4) r.s r'.s:=h.bf.ord i k _ _ ik (h.at e).2 (h.at e').2
theorem k6.inj(h:k6 J0 J4 J5 ds j rs){i k:Nat}{r r':aX}(e:rs[i]?=some r)(e':rs[k]?=some r')(s:r.s=r'.s):i=k:=by
 rcases qq i k with z|z|z
 ·have:=h.ord z e e';rw[s]at this;exact absurd this kZ.irr
 ·exact z
 ·have:=h.ord z e' e;rw[s]at this;exact absurd this kZ.irr
theorem k6.par(h:k6 J0 J4 J5 ds j rs){i:Nat}{r:aX}(i0:0<i)(e:rs[i]?=some r):∃(q:Nat) (r1:aX) (sg:Sg),q<i/\rs[q]?=some r1/\r.s=r1.s++[sg]/\sg∈aq J0 J4/\r.f=behF J5 ds r1.f sg:=by
 obtain⟨q,sg,s1,f1,a1,a2,a3,a4,a5,a6⟩:=h.bf.par i r.s i0 (h.at e).2;obtain⟨r1,b1,b2⟩:=h.ofF a3;have b3:=(h.at b1).2;rw[a2]at b3;injection b3 with b3;refine⟨q,r1,sg,a1,b1,by rw[<-b3];exact a4,a5,?_⟩;have:=(h.at e).1;rw[a6]at this;injection this with this;rw[b2];exact this.symm
theorem k6.zero(h:k6 J0 J4 J5 ds j rs):∃r,rs[0]?=some r/\r.s=[]/\r.f=closF J5 ds (J5.take 1):=by
 obtain⟨r,h1,h2⟩:=h.ofS h.bf.z;refine⟨r,h1,h2,?_⟩;have:=(h.at h1).1;rw[h.ok.zero]at this;injection this with this;exact this.symm
theorem k6.signs(h:k6 J0 J4 J5 ds j rs):∀(i:Nat) (r:aX),rs[i]?=some r->∀sg∈r.s,sg∈aq J0 J4:=by
 intro i
 induction i using Nat.strongRecOn with
 |ind i ih =>
  intro r e sg hs;rcases tU i with z|z
  ·subst z;obtain⟨r0,h1,h2,_⟩:=h.zero;rw[e]at h1;injection h1 with h1;rw[h1,h2]at hs;cases hs
  ·obtain⟨q,r1,sg1,a1,a2,a3,a4,_⟩:=h.par z e;rw[a3]at hs;rcases bp.1 hs with hs|hs
   ·exact ih q a1 r1 a2 sg hs
   ·rw[bM.1 hs];exact a4
theorem k6.lo(h:k6 J0 J4 J5 ds j rs){r:aX}(m:r∈rs){sg:Sg}(hs:sg∈aq J0 J4)(ne:behF J5 ds r.f sg≠[]):∃r1∈rs,r1.f=behF J5 ds r.f sg/\¬kZ (aq J0 J4) (r.s++[sg]) r1.s:=by
 obtain⟨i,hi⟩:=db m;have il:i<j:=by rw[<-h.len];exact(bJ.1 hi).1
 obtain⟨n,t,a1,a2,a3⟩:=h.bf.lo i r.f r.s il (h.at hi).1 (h.at hi).2 sg hs ne;obtain⟨r1,b1,b2⟩:=h.ofF a1;have b3:=(h.at b1).2;rw[a2]at b3;injection b3 with b3;exact⟨r1,a_ b1,b2,by rw[<-b3];exact a3⟩
end
def yz(ss:List Sg)(J:Hp)(kv:TK×V)(r:aX):Prop:=kv.1=iL r.f/\∃kl:Addr,kv.2=.ref kl/\J kl=some (.lst ((nA ss r.s).map V.int))
theorem yz.same{ss:List Sg}{J J':Hp}{kv:TK×V}{r:aX}(S:ac J J')(h:yz ss J kv r):yz ss J' kv r:=by
 obtain⟨h1,kl,h2,h3⟩:=h;exact⟨h1,kl,h2,S _ _ h3⟩
theorem BJ{ss:List Sg}{J:Hp}:∀{kvs:List (TK×V)}{rs:List aX}{r:aX},Paired (yz ss J) kvs rs->(rs.map aX.f).Nodup->r∈rs->∃kl:Addr,bU kvs (iL r.f)=some (.ref kl)/\J kl=some (.lst ((nA ss r.s).map V.int))
 |_,_,_,.nil,_,h=>by cases h
 | (k,v)::kvs,r0::rs,r,.cons h t,nd,hm=>by
  obtain⟨h1,kl,h2,h3⟩:=h;rw[bh,gM]at nd;rcases cR.1 hm with rfl|hm
  ·refine⟨kl,?_,h3⟩;have h1:k=iL r.f:=h1;have h2:v=.ref kl:=h2;rw[h1,cF rfl,h2]
  ·have h1:k=iL r0.f:=h1;rw[h1,cv (fun e=>nd.1 (by rw[jC e];exact fm hm))];exact BJ t nd.2 hm
theorem EX{ss:List Sg}{J:Hp}{kvs:List (TK×V)}{rs:List aX}{f:Zb}(h:Paired (yz ss J) kvs rs)(n:f∉rs.map aX.f):bU kvs (iL f)=none:=by
 refine uo fun kv hkv e=>?_;obtain⟨i,hi⟩:=db hkv;obtain⟨r,hr,h1,_⟩:=Paired.getL h hi;exact n (by rw[<-jC (h1.symm.trans e)];exact fm (a_ hr))
theorem zB{K:Za}{H:Hp}{d u:Addr}{kvs:List (TK×V)}{f:Zb}(hd:H d=some (.dT kvs))(hu:H u=some (.tup (f.map V.str))):oS K H d (.ref u) (bU kvs (iL f)) :=
 .inr ⟨_,_,_,.inl hd,rfl,eJ.isIn 8 (dB f) (SignAt.tk hu),dB f,rfl⟩
theorem yb(xs:List V):fe xs none (some (-1))=xs.take (xs.length-1):=by
 unfold fe;have h1:HT.sIx xs.length 0 none=0:=rfl;have h2:HT.sIx xs.length xs.length (some (-1))=xs.length-1:=by unfold HT.sIx;simp;omega
 rw[h1,h2];rfl
def wL(J:Hp)(v:V)(r:aX):Prop:=∃u:Addr,v=.ref u/\J u=some (.tup (r.f.map V.str))
theorem wL.kt{J J':Hp}{v:V}{r:aX}(S:jU J J')(h:wL J v r):wL J' v r:=by
 obtain⟨u,e,h1⟩:=h;exact⟨u,e,S _ _ h1⟩
theorem ww{K:Za}{H:Hp}:∀{vs:List V}{rs:List aX},Paired (wL H) vs rs->DIns K H (rs.map fun r=>eI r.f) vs
 |_,_,.nil=>rfl
 |_,_,.cons h r=>by
  obtain⟨u,rfl,h1⟩:=h;exact⟨_,_,rfl,aP (be.of h1),ww r⟩
theorem tM:∀rs:List aX,DT.depths (rs.map fun r=>eI r.f)<=1
 |[]=>cQ _
 |r::rs=>by show max (eI r.f).depth (DT.depths _)<=1;rw[br];exact Nat.max_le.2 ⟨aG _,tM rs⟩
theorem nE{l:List aX}{p:aX->Bool}{i:Nat}{e:aX}(h:l[i]?=some e):(l.take (i+1)).filter p=(l.take i).filter p++(if p e=true then[e]else[]):=by
 rw[take_snoc h,nS];by_cases c:p e=true
 ·rw[if_pos c];simp[c]
 ·rw[if_neg c];simp[c]
theorem wt:∀{s t:List Sg},s.map eI=t.map eI->s=t
 |[],[],_=>rfl
 |[],_::_,h=>by cases h
 |_::_,[],h=>by cases h
 |a::s,b::t,h=>by
  rw[bh,bh]at h;injection h with h1 h2;rw[p6 h1,wt h2]
theorem ye{K:Za}{H:Hp}{sl cl w:Addr}{qs gs:Ze}{rs:List aX}{r:aX}{s1:List Sg}{sg:Sg}{σ:L2.St}{n:Nat}{Q:Hp->Prop}(hσ:dQ 2 [4] σ=[none,none,some (.ref w)])(hsl:H sl=some (.lst ((qs.take n).map V.ref)))(hP:Paired (cH K H) qs rs)(hw:H w=some (.lst (gs.map V.ref)))(hg:Paired (fun g (x:Sg)=>cN K H g (x.map V.str)) gs (s1++[sg]))(hcl:H cl=none)(hn:n<=qs.length)(hz:qs.length<=900)
  (k:∀us H',ac H H'->H' cl=some (.lst us)->Paired (wL H') us ((rs.take n).filter fun x=>decide (x.s=s1))->Q H') :
  eX 2 [4] σ (Ci K sl) (gA K 2 (bb U0 (bb U1 (ga)))) (sv (aN (aJ (m9 K) V2 (dE (bH)))) (aN (aJ (xE K) V1 (xb (pH K) V2 (dR) (fN (Fu (rU fun i=>.int (-i)) (tC (.int 1)))))))) V0 H cl Q:=by
 have zq:=Paired.length hP;have zg:=Paired.length hg;rw[aE]at zg;have zg:gs.length=s1.length+1:=zg;have hg1:Paired (fun g (x:Sg)=>cN K H g (x.map V.str)) (gs.take s1.length) s1:=by
  have:=Paired.takeP s1.length hg;rw[List.take_left' rfl]at this;exact this
 let zC:Nat->List V->Hp->Prop:=fun i us H'=>ac H H'/\H' cl=some (.lst us)/\Paired (wL H') us ((rs.take i).filter fun x=>decide (x.s=s1))
 refine cu (xs:=(qs.take n).map V.ref) zC ⟨ac.new hcl,aa,.nil⟩ (fun i us H' _ zq=>by obtain⟨S,h',_⟩:=zq;exact⟨h',aw.of (S _ _ hsl)⟩) ?_ ?_
 ·rintro us H' ⟨S,h',hp⟩;rw[ak,aI,Nat.min_eq_left hn]at hp;exact k us H' S h' hp
 ·rintro i us H1 x hx hi ⟨S,h1,hp⟩;obtain⟨q,hq,rfl⟩:=bT hx;have hi':i<n:=by rw[ak,aI]at hi;omega
  have hq':qs[i]?=some q:=by rw[qM hi']at hq;exact hq
  obtain⟨r,hr,hat⟩:=Paired.getL hP hq';obtain⟨u,g1,g2,gs',g3,g4⟩:=cH.same S hat;rw[hσ];refine⟨q,_,rfl,be.of g1,rfl,_,_,rfl,_,_,rfl,rfl,?_⟩;refine⟨_,rfl,(by show 0<=aj;decide),fun e he=>?_⟩;have S2:ac H1 (upd H1 e (.lst [])):=ac.new he;have e2:upd H1 e (.lst []) e=some (.lst []):=aa;show m9 K (.ref w) (.ref e) (upd H1 e (.lst [])) _;generalize upd H1 e (.lst [])=H2 at S2 e2 ⊢;have S02:=S.trans S2;have hw2:=S02 _ _ hw;refine⟨.s ((s1++[sg]).map eI),.s [],⟨w,_,rfl,aw.of hw2,nH (Paired.mapP hg fun _ _ r=>cN.kt (ac.kt S02) r)⟩,gC (aw.of e2),bq (nR (fB _)) (by decide),by decide,_,rfl,?_⟩;rw[zzr0 (fun z=>by injection z with z;rw[ax]at z;exact absurd (List.append_eq_nil_iff.1 z).2 (List.cons_ne_nil _ _))];refine cr ?_;refine⟨_,rfl,_,rfl,_,rfl,_,rfl,w,_,rfl,aw.of hw2,fun p hp'=>?_⟩;have ec:fe (gs.map V.ref) none (some (-1))=(gs.take s1.length).map V.ref:=by
   rw[yb,ak,zg,Nat.add_sub_cancel,lq]
  show xE K (.ref r.w) (.ref p) (upd H2 p (.lst (fe (gs.map V.ref) none (some (-1))))) _;rw[ec];have S3:ac H2 (upd H2 p (.lst ((gs.take s1.length).map V.ref))):=ac.new hp';have p3:upd H2 p (.lst ((gs.take s1.length).map V.ref)) p=some (.lst ((gs.take s1.length).map V.ref)):=aa;generalize upd H2 p (.lst ((gs.take s1.length).map V.ref))=H3 at S3 p3 ⊢;have S13:=S2.trans S3;have S03:=S.trans S13;refine⟨.s (r.s.map eI),.s (s1.map eI),⟨r.w,_,rfl,aw.of (S13 _ _ g3),nH (Paired.mapP g4 fun _ _ r=>cN.kt (ac.kt S13) r)⟩,⟨p,_,rfl,aw.of p3,nH (Paired.mapP hg1 fun _ _ r=>cN.kt (ac.kt S03) r)⟩,bq (nR (fB _)) (by decide),bq (nR (fB _)) (by decide),_,rfl,?_⟩;have zu:us.length<=i:=by rw[Paired.length hp];exact bq (eL _ _) (by rw[aI];omega)
  by_cases c:r.s=s1
  ·rw[zzr1 (by rw[c])];refine cr ⟨_,rfl,S13 _ _ h1,ao (by omega),o9 hi ⟨fun b o e=>?_,aa,?_⟩⟩
   ·rw[ag (ae e hcl)];exact S03 _ _ e
   ·rw[nE hr,if_pos (zzr1 c)];have kt:jU H1 (upd H3 cl (.lst (us++[.ref u]))):=fun b xs e=>(fA (S13 _ _ h1)) _ _ (S13 _ _ e);exact dC (Paired.mapP hp fun _ _ r=>r.kt kt) ⟨u,rfl,kt _ _ g2⟩
  ·rw[zzr0 (fun z=>c (by injection z with z;exact wt z))];refine aU (o9 hi ⟨S03,S13 _ _ h1,?_⟩);rw[nE hr,if_neg (by rw[zzr0 c];decide),d_];exact Paired.mapP hp fun _ _ r=>r.kt (ac.kt S13)
inductive jp(K:Za)(vs:List V)(H:Hp)(Q:VK)(E:XK):Prop
 |mk (t l l1 l2 l3 l4:Addr) (ts qs:Ze) (rs:List aX) (j:Nat) (J0 J4 J5:Zb) (ds:List am):(vs=[.ref t,.ref l])->(kj H t l1 l2 l3 l4 ts J0 J4 J5 ds)->(bC J0 J4 J5 ds)->(H l=some (.lst (qs.map V.ref)))->(Paired (cH K H) qs rs)->(k6 J0 J4 J5 ds j rs)->(J5.length<=8)->(∀H',ac H H'->Q (.bl true) H')->jp K vs H Q E
theorem xy{K:Za}{vs:List V}{H:Hp}{Q:VK}{E:XK}(h:jp K vs H Q E):ol K iV (uH K) (pV K) v3 (bN Q) (start oM vs) H:=by
 obtain⟨t,l,l1,l2,l3,l4,ts,qs,rs,j,J0,J4,J5,ds,rfl,T,m,hl,hP,fa,hr,k⟩:=h;have zr:=fa.few hr;have zq:=Paired.length hP;have ndF:=fa.ndF;refine fun d hd=>?_;have S0:ac H (upd H d (.dT [])):=ac.new hd;have d0:upd H d (.dT []) d=some (.dT []):=aa;generalize upd H d (.dT [])=H0 at S0 d0 ⊢;refine⟨_,rfl,l,rfl,⟨_,aw.of (S0 _ _ hl)⟩,?_⟩
 let zI1:Nat->L2.St->Hp->Prop:=fun i σ H'=>Ew fun(kvs:List (TK×V)) (x3 x4:Option V)=>NA4 (σ=[some (.ref t),some (.ref l),some (.ref d),x3,x4,none,none,none,none]) (H' d=some (.dT kvs)) (Paired (yz (aq J0 J4) H') kvs (rs.take i)) (ac H H')
 refine cw (xs:=qs.map V.ref) zI1 ⟨[],_,_,rfl,d0,.nil,S0⟩ (fun i σ H' _ zq=>by obtain⟨_,_,_,_,_,_,S⟩:=zq;exact aw.of (S _ _ hl)) ?_ ?_
 ·rintro i x σ H1 hx ⟨kvs,x3,x4,rfl,d1,hkv,S1⟩;obtain⟨q,hq,rfl⟩:=bT hx;obtain⟨r,hr',hat⟩:=Paired.getL hP hq;obtain⟨u,g1,g2,gs,g3,g4⟩:=cH.same S1 hat;have mr:r∈rs:=a_ hr';have il:=(bJ.1 hr').1;refine⟨q,_,rfl,be.of g1,rfl,_,_,rfl,_,_,rfl,rfl,?_⟩;have no:bU kvs (iL r.f)=none:=EX hkv fun z=>by
   rw[lq]at z;exact jy ndF (by rw[bv,hr'];rfl) z
  refine⟨_,rfl,_,rfl,d,_,rfl,zB d1 g2,_,rfl,?_⟩;rw[no];refine aU ?_;refine⟨_,rfl,_,rfl,t,r.w,l1,l2,l3,l4,ts,gs,J0,J4,J5,ds,r.s,rfl,T.same S1,m,g3,g4,fa.signs i r hr',by have:=fa.slen hr mr;omega,fun kl H2 hkl S2=>?_⟩;have d2:=S2 _ _ d1;have tka:eJ H2 (iL r.f) (.ref u):=SignAt.tk (S2 _ _ g2);have zk:kvs.length=i:=by rw[Paired.length hkv,aI];omega
  refine⟨_,rfl,_,rfl,d,_,rfl,.inr ⟨_,_,u,d2,rfl,tka,dB r.f,by rw[zk];exact ao (by omega),rfl⟩,?_⟩;rw[g6 _ no];have nk:∀{b:Addr}{xs:List V},H2 b=some (.lst xs)->b≠d:=fun e z=>by rw[z,d2]at e;cases e
  refine⟨kvs++[(iL r.f,.ref kl)],_,_,rfl,aa,?_,fun b o e=>?_⟩
  ·rw[take_snoc hr'];refine dC (Paired.mapP hkv fun kv r' h=>?_) ⟨rfl,kl,rfl,by rw[ag (nk hkl)];exact hkl⟩;obtain⟨a1,kl',a2,a3⟩:=h.same S2;exact⟨a1,kl',a2,by rw[ag (nk a3)];exact a3⟩
  ·rw[ag (ae e hd)];exact(S1.trans S2) _ _ e
 rintro σ H1 ⟨kvs,x3,x4,rfl,d1,hkv,S1⟩;rw[ak,zq,bj]at hkv;clear S0 d0;obtain⟨r0,hr0,s0,f0⟩:=fa.zero;obtain⟨q0,hq0,hat0⟩:=Paired.get hP hr0;obtain⟨u0,g1,g2,gs0,g3,g4⟩:=cH.same S1 hat0;have at0:sK (qs.map V.ref) 0=some (.ref q0):=bQ (j:=0) (by rw[bv,hq0];rfl);have z3:=m.rooms26;have c1:fe (J5.map V.str) none (some 1)=(J5.take 1).map V.str:=p8 J5 1;have T1:=T.same S1;refine⟨_,rfl,l,_,0,_,rfl,rfl,aw.of (S1 _ _ hl),at0,q0,_,0,_,rfl,rfl,be.of g1,bQ (j:=0) rfl,?_⟩;refine⟨_,rfl,_,rfl,t,_,2,_,rfl,rfl,be.of T1.t,rfl,_,rfl,l3,_,rfl,aw.of T1.a3,fun fl hfl=>?_⟩;rw[c1];have S2:ac H1 (upd H1 fl (.lst ((J5.take 1).map V.str))):=ac.new hfl;refine⟨t,fl,l1,l2,l3,l4,ts,J0,J4,J5,J5.take 1,ds,rfl,T1.same S2,m,aa,by rw[aI];omega,fun f1 H3 hf1 S3=>?_⟩;have S13:=S2.trans S3;generalize upd H1 fl (.lst ((J5.take 1).map V.str))=H2 at S2 S3;refine⟨eI r0.f,eI r0.f,aP (be.of (S13 _ _ g2)),aP (be.of (by rw[f0];exact hf1)),by rw[br];decide,by rw[br];decide,_,rfl,?_⟩;rw[zzr1 rfl];refine aU ?_;have SH3:=S1.trans S13;refine⟨_,rfl,l,_,0,_,rfl,rfl,aw.of (SH3 _ _ hl),at0,q0,_,1,_,rfl,rfl,be.of (S13 _ _ g1),bQ (j:=1) rfl,(by show 0<=aj;decide),fun e he=>?_⟩;have S4:ac H3 (upd H3 e (.lst [])):=ac.new he;have e4:upd H3 e (.lst []) e=some (.lst []):=aa;show m9 K (.ref r0.w) (.ref e) (upd H3 e (.lst [])) _;generalize upd H3 e (.lst [])=H4 at S4 e4 ⊢;have S14:=S13.trans S4;have gs00:gs0=[]:=by
  have:=Paired.length g4;rw[s0]at this;exact List.length_eq_zero_iff.1 this
 refine⟨.s [],.s [],gC (aw.of (by have:=S14 _ _ g3;rw[gs00]at this;exact this)),gC (aw.of e4),by decide,by decide,_,rfl,?_⟩;rw[zzr1 rfl];refine aU ?_;have d4:=S14 _ _ d1;have hkv4:Paired (yz (aq J0 J4) H4) kvs rs:=Paired.mapP hkv fun _ _ r=>r.same S14;have SH4:=S1.trans S14;clear hkv d1 g1 g2 g3 g4 S13 S14 SH3 S2 S3 S4 hf1 T1 S1 at0;have num:∀{H':Hp}{u:Addr}{r:aX},ac H4 H'->r∈rs->H' u=some (.tup (r.f.map V.str))->∃kl:Addr,oS K H' d (.ref u) (some (.ref kl))/\H' kl=some (.lst ((nA (aq J0 J4) r.s).map V.int)):=fun S mr hu=>by
  obtain⟨kl,a1,a2⟩:=BJ hkv4 ndF mr;have:=zB (K:=K) (S _ _ d4) hu;rw[a1]at this;exact⟨kl,this,S _ _ a2⟩
 refine⟨_,rfl,.inl ⟨l,_,rfl,.inl (aw.of (SH4 _ _ hl)),1,_,rfl,⟨by decide,by decide,by omega,by rw[ak,zq];omega⟩,?_⟩⟩
 let zI2:Nat->L2.St->Hp->Prop:=fun i σ H'=>FA fun(x3 x4 x5 x6:Option V)=>σ=[some (.ref t),some (.ref l),some (.ref d),x3,x4,x5,x6,none,none]/\ac H4 H'
 refine i7 zI2 ⟨_,_,_,_,rfl,ac.refl _⟩ ?_ ?_
 ·rintro i σ H5 hi ⟨x3,x4,x5,x6,rfl,S5⟩;have hi:i+1<rs.length:=by rw[ak,zq]at hi;omega
  have ea:(1:Int)+(i:Nat)=((i+1:Nat):Int):=by omega
  rw[ea];have SH5:=SH4.trans S5;obtain⟨r,hr'⟩:∃r,rs[i+1]?=some r:=⟨_,bR hi⟩;have mr:=a_ hr';obtain⟨q,hq,hat⟩:=Paired.get hP hr';obtain⟨u,g1,g2,gs,g3,g4⟩:=cH.same SH5 hat;obtain⟨qi,r1,sg,ql,hr1,es,hsg,ef⟩:=fa.par (Nat.succ_pos i) hr';refine⟨_,rfl,_,rfl,l,_,_,.ref q,rfl,rfl,aw.of (SH5 _ _ hl),bQ (j:=i+1) (by rw[bv,hq];rfl),q,_,rfl,be.of g1,rfl,_,_,rfl,_,_,rfl,rfl,?_⟩;refine⟨_,rfl,_,rfl,_,rfl,l,_,rfl,aw.of (SH5 _ _ hl),fun sl hsl=>⟨sl,rfl,⟨_,aw.of aa⟩,fun cl hcl=>?_⟩⟩;rw[B6,<-lq]at *;have S6:ac H5 (upd H5 sl (.lst ((qs.take (i+1)).map V.ref))):=ac.new hsl;have sl6:upd H5 sl (.lst ((qs.take (i+1)).map V.ref)) sl=some (.lst ((qs.take (i+1)).map V.ref)):=aa;generalize upd H5 sl (.lst ((qs.take (i+1)).map V.ref))=H6 at S6 sl6 hcl ⊢;have S06:=SH5.trans S6;rw[es]at g4;refine ye (r:=r) (s1:=r1.s) (sg:=sg) (gs:=gs) (n:=i+1) rfl sl6 (Paired.mapP hP fun _ _ x=>cH.same S06 x) (S6 _ _ g3) (Paired.mapP g4 fun _ _ x=>cN.kt (ac.kt S6) x) hcl (by omega) (by omega) fun us H7 S7 h7 hF=>?_;obtain⟨F',eF⟩:∃F',((rs.take (i+1)).filter fun x=>decide (x.s=r1.s))=r1::F':=by
   have m1:r1∈(rs.take (i+1)).filter fun x=>decide (x.s=r1.s):=d9.2 ⟨a_ (i:=qi) (by rw[qM ql];exact hr1),zzr1 rfl⟩;cases c:(rs.take (i+1)).filter fun x=>decide (x.s=r1.s)with
   |nil=>rw[c]at m1;cases m1
   |cons a F' =>
    have ma:a∈(rs.take (i+1)).filter fun x=>decide (x.s=r1.s):=by rw[c];exact fg
    obtain⟨m2,m3⟩:=d9.1 ma;obtain⟨k',hk'⟩:=db (eM m2);have:=fa.inj hk' hr1 (of_decide_eq_true m3);rw[this,hr1]at hk';injection hk' with hk';exact⟨F',by rw[hk']⟩
  rw[eF]at hF;obtain⟨v1,us',eu,h1',hF'⟩:∃v1 us',us=v1::us'/\wL H7 v1 r1/\Paired (wL H7) us' F':=by
   cases hF with
   |cons a b=>exact⟨_,_,rfl,a,b⟩
  obtain⟨u1,rfl,gu1⟩:=h1';subst eu;have S57:=S6.trans S7;have S07:=SH5.trans S57;refine⟨_,rfl,(by show 0<=aj;decide),fun e he=>?_⟩;have S8:ac H7 (upd H7 e (.lst [])):=ac.new he;have e8:upd H7 e (.lst []) e=some (.lst []):=aa;show xE K (.ref cl) (.ref e) (upd H7 e (.lst [])) _;generalize upd H7 e (.lst [])=H8 at S8 e8 ⊢;have S58:=S57.trans S8;refine⟨.s ((r1::F').map fun r=>eI r.f),.s [],⟨cl,_,rfl,aw.of (S8 _ _ h7),ww (Paired.mapP hF fun _ _ x=>x.kt (ac.kt S8))⟩,gC (aw.of e8),bq (nR (tM _)) (by decide),by decide,_,rfl,?_⟩;rw[zzr0 (fun z=>by injection z with z;cases z)];refine aU ?_;have zg:gs.length=r1.s.length+1:=by rw[Paired.length g4,aE];rfl
  obtain⟨g,hg⟩:∃g,gs[r1.s.length]?=some g:=⟨_,bR (by omega)⟩;obtain⟨x,hx,hgx⟩:=Paired.getL g4 hg;rw[iB (aG _),nU]at hx;have hx:sg=x:=by injection hx
  subst hx;have atl:sK (gs.map V.ref) (-1)=some (.ref g):=by
   have:gs=gs.take r1.s.length++[g]:=by rw[<-take_snoc hg,<-zg,bj]
   rw[this,ax];exact Ca _ _
  have m1:r1∈rs:=a_ hr1;refine⟨_,rfl,_,rfl,cl,_,0,_,rfl,rfl,aw.of (S8 _ _ h7),bQ (j:=0) rfl,_,rfl,_,rfl,r.w,_,-1,.ref g,rfl,rfl,aw.of (S58 _ _ g3),atl,?_⟩;refine⟨t,u1,g,l1,l2,l3,l4,ts,J0,J4,J5,r1.f,sg,ds,rfl,T.same (SH5.trans S58),m,be.of (S8 _ _ gu1),cN.sq (cN.kt (ac.kt S58) hgx),by have:=fa.flen hr m1;omega,fun t' H9 ht' S9=>?_⟩;have S59:=S58.trans S9;refine⟨_,rfl,eI r.f,eI r.f,aP (be.of (by rw[ef];exact ht')),aP (be.of (S59 _ _ g2)),by rw[br];decide,by rw[br];decide,_,rfl,?_⟩;rw[zzr1 rfl];refine aU ?_;obtain⟨rp,hrp⟩:∃r,rs[i]?=some r:=⟨_,bR (by omega)⟩;have mp:=a_ hrp;obtain⟨qp,hqp,hatp⟩:=Paired.get hP hrp;obtain⟨up,k1,k2,_⟩:=cH.same (SH5.trans S59) hatp;have S49:=S5.trans S59;obtain⟨kl,b1,b2⟩:=num S49 mp k2;obtain⟨kr,b3,b4⟩:=num S49 mr (S59 _ _ g2);refine⟨_,rfl,_,rfl,_,rfl,_,_,rfl,rfl,l,_,_,.ref qp,rfl,rfl,aw.of ((SH5.trans S59) _ _ hl),?_,qp,_,0,_,rfl,rfl,be.of k1,bQ (j:=0) rfl,d,_,rfl,b1,_,rfl,_,rfl,d,_,rfl,b3,kl,kr,_,_,rfl,rfl,aw.of b2,aw.of b4,_,rfl,?_⟩
  ·rw[show((i+1:Nat):Int)-1=(i:Nat) by omega];exact bQ (by rw[bv,hqp];rfl)
  have lt:HT.lexLt (nA (aq J0 J4) rp.s) (nA (aq J0 J4) r.s)=true:=fa.ord (vA i) hrp hr';rw[lt];exact aU ⟨_,_,_,_,rfl,S49⟩
 rintro σ H5 ⟨x3,x4,x5,x6,rfl,S5⟩;have SH5:=SH4.trans S5;refine⟨_,rfl,l,rfl,⟨_,aw.of (SH5 _ _ hl)⟩,?_⟩
 let zI3:Nat->L2.St->Hp->Prop:=fun i σ H'=>NE6 fun(x3 x4 x5 x6 x7 x8:Option V)=>σ=[some (.ref t),some (.ref l),some (.ref d),x3,x4,x5,x6,x7,x8]/\ac H5 H'
 refine cw (xs:=qs.map V.ref) zI3 ⟨_,_,_,_,_,_,rfl,ac.refl _⟩ (fun i σ H' _ zq=>by obtain⟨_,_,_,_,_,_,_,S⟩:=zq;exact aw.of ((SH5.trans S) _ _ hl)) ?_ ?_;rotate_left
 ·rintro σ H6 ⟨x3,x4,x5,x6,x7,x8,rfl,S6⟩;exact k H6 (SH5.trans S6)
 rintro i x σ H6 hx ⟨y3,y4,y5,y6,y7,y8,rfl,S6⟩;obtain⟨q,hq,rfl⟩:=bT hx;obtain⟨r,hr',hat⟩:=Paired.getL hP hq;have SH6:=SH5.trans S6;obtain⟨u,g1,g2,gs,g3,g4⟩:=cH.same SH6 hat;have mr:=a_ hr';refine⟨q,_,rfl,be.of g1,rfl,_,_,rfl,_,_,rfl,rfl,?_⟩;refine⟨_,rfl,t,l1,l2,l3,l4,ts,J0,J4,J5,ds,rfl,T.same SH6,m,fun sl su H7 hsl hsu _ S7=>⟨sl,rfl,⟨_,aw.of hsl⟩,?_⟩⟩
 let zI4:Nat->L2.St->Hp->Prop:=fun i σ H'=>FA fun(x5 x6 x7 x8:Option V)=>σ=[some (.ref t),some (.ref l),some (.ref d),some (.ref u),some (.ref r.w),x5,x6,x7,x8]/\ac H7 H'
 refine cw (xs:=su.map V.ref) zI4 ⟨_,_,_,_,rfl,ac.refl _⟩ (fun i σ H' _ zq=>by obtain⟨_,_,_,_,_,S⟩:=zq;exact aw.of (S _ _ hsl)) ?_ ?_;rotate_left
 ·rintro σ H8 ⟨x5,x6,x7,x8,rfl,S8⟩;exact⟨_,_,_,_,_,_,rfl,S6.trans (S7.trans S8)⟩
 rintro i' x σ H8 hx ⟨x5,x6,x7,x8,rfl,S8⟩;obtain⟨sa,hsa,rfl⟩:=bT hx;obtain⟨sg,hsg,hga⟩:=Paired.getL hsu hsa;have msg:sg∈aq J0 J4:=a_ hsg;have S68:=S7.trans S8;have SH8:=SH6.trans S68;have hga8:H8 sa=some (.tup (sg.map V.str)):=S8 _ _ hga;refine⟨_,rfl,_,rfl,_,rfl,t,u,sa,l1,l2,l3,l4,ts,J0,J4,J5,r.f,sg,ds,rfl,T.same SH8,m,be.of (S68 _ _ g2),be.of hga8,by have:=fa.flen hr mr;omega,fun bt H9 hbt S9=>?_⟩;have S89:=S9;have SH9:=SH8.trans S9;have S49:ac H4 H9:=(S5.trans S6).trans (S68.trans S9);refine⟨_,rfl,(by show 0<=aj;decide),fun e he=>?_⟩;have S10:ac H9 (upd H9 e (.tup [])):=ac.new he;have e10:upd H9 e (.tup []) e=some (.tup (([]:Zb).map V.str)):=aa;show m9 K (.ref bt) (.ref e) (upd H9 e (.tup [])) _;generalize upd H9 e (.tup [])=H10 at S10 e10 ⊢;have bt10:=S10 _ _ hbt;refine⟨eI (behF J5 ds r.f sg),eI [],aP (be.of bt10),aP (sg:=[]) (be.of e10),by rw[br];decide,by rw[br];decide,_,rfl,?_⟩;rw[jD];by_cases ce:behF J5 ds r.f sg=[]
 ·rw[zzr1 ce];refine aU (aU ?_);refine⟨_,rfl,(by show 0<=aj;decide),fun e' he'=>?_⟩;have S11:ac H10 (upd H10 e' (.tup [])):=ac.new he';have e11:upd H10 e' (.tup []) e'=some (.tup (([]:Zb).map V.str)):=aa;show m9 K (.ref bt) (.ref e') (upd H10 e' (.tup [])) _;generalize upd H10 e' (.tup [])=H11 at S11 e11 ⊢;refine⟨eI (behF J5 ds r.f sg),eI [],aP (be.of (S11 _ _ bt10)),aP (sg:=[]) (be.of e11),by rw[br];decide,by rw[br];decide,_,rfl,?_⟩;rw[jD,zzr1 ce];exact aU (aU ⟨_,_,_,_,rfl,S8.trans (S9.trans (S10.trans S11))⟩)
 obtain⟨rb,mb,fb,nlt⟩:=fa.lo mr msg ce;have S410:=S49.trans S10;have btb:H10 bt=some (.tup (rb.f.map V.str)):=by rw[fb];exact bt10
 obtain⟨kb,b1,b2⟩:=num S410 mb btb;rw[zzr0 ce];refine cr ⟨_,rfl,_,rfl,d,_,rfl,b1,_,rfl,aU ?_⟩;refine⟨_,rfl,(by show 0<=aj;decide),fun e' he'=>?_⟩;have S11:ac H10 (upd H10 e' (.tup [])):=ac.new he';have e11:upd H10 e' (.tup []) e'=some (.tup (([]:Zb).map V.str)):=aa;show m9 K (.ref bt) (.ref e') (upd H10 e' (.tup [])) _;generalize upd H10 e' (.tup [])=H11 at S11 e11 ⊢;refine⟨eI (behF J5 ds r.f sg),eI [],aP (be.of (S11 _ _ bt10)),aP (sg:=[]) (be.of e11),by rw[br];decide,by rw[br];decide,_,rfl,?_⟩;rw[jD,zzr0 ce];have S411:=S410.trans S11;obtain⟨kc,c1',c2'⟩:=num S411 mb (S11 _ _ btb);refine cr ⟨_,rfl,_,rfl,d,_,rfl,c1',_,rfl,_,rfl,_,rfl,(by show 1<=aj;decide),fun ll hll=>?_⟩;have S12:ac H11 (upd H11 ll (.lst [.ref sa])):=ac.new hll;have l12:upd H11 ll (.lst [.ref sa]) ll=some (.lst [.ref sa]):=aa;show oA (.ref r.w) (.ref ll) (upd H11 ll (.lst [.ref sa])) _;generalize upd H11 ll (.lst [.ref sa])=H12 at S12 l12 ⊢;have S812:=S9.trans (S10.trans (S11.trans S12));have S612:=S68.trans S812;have zs:=fa.slen hr mr;refine⟨r.w,ll,_,_,rfl,rfl,S612 _ _ g3,l12,by rw[ak,Paired.length g4];exact dH (ao (by show _+1<=1000;omega)),fun cs hcs=>?_⟩;have S13:ac H12 (upd H12 cs (.lst (gs.map V.ref++[.ref sa]))):=ac.new hcs;have cs13:upd H12 cs (.lst (gs.map V.ref++[.ref sa])) cs=some (.lst ((gs++[sa]).map V.ref)):=by rw[aa,ax];rfl
 generalize upd H12 cs (.lst (gs.map V.ref++[.ref sa]))=H13 at S13 cs13 ⊢;have S613:=S612.trans S13;have S813:=S812.trans S13;have str:Fe K H13 (gs++[sa]) (r.s++[sg]):=dC (Paired.mapP g4 fun _ _ x=>cN.kt (ac.kt S613) x) (.inl (S813 _ _ hga8));refine⟨t,cs,l1,l2,l3,l4,ts,gs++[sa],J0,J4,J5,ds,r.s++[sg],rfl,T.same (SH6.trans S613),m,cs13,str,fun x hx=>?_,by rw[aE];show _+1<=2000;omega,fun kq H14 hkq S14=>?_⟩
 ·rcases bp.1 hx with hx|hx
  ·exact fa.signs i r hr' x hx
  ·rw[bM.1 hx];exact msg
 refine⟨kc,kq,_,_,rfl,rfl,aw.of (S14 _ _ (S13 _ _ (S12 _ _ c2'))),aw.of hkq,_,rfl,?_⟩;have gt:HT.lexLt (nA (aq J0 J4) (r.s++[sg])) (nA (aq J0 J4) rb.s)=false:=by
  cases c:HT.lexLt (nA (aq J0 J4) (r.s++[sg])) (nA (aq J0 J4) rb.s)with
  |false=>rfl
  |true=>exact absurd c nlt
 rw[gt];exact aU ⟨_,_,_,_,rfl,S8.trans (S813.trans S14)⟩
theorem nh{α β:Type}{R:α->β->Prop}:∀{xs:List α}{ys:List β},xs.length=ys.length->(∀(i:Nat) x y,xs[i]?=some x->ys[i]?=some y->R x y)->Paired R xs ys
 |[],[],_,_=>.nil
 |[],_::_,h,_=>by cases h
 |_::_,[],h,_=>by cases h
 |x::xs,y::ys,h,k=>.cons (k 0 x y rfl rfl) (nh (by simpa using h) fun i a b h1 h2=>k (i+1) a b (by rw[nY];exact h1) (by rw[nY];exact h2))
def pP(rs ks:List aX):Prop:=ks.map aX.f=rs.map aX.f/\ks.map aX.s=rs.map aX.s
theorem pP.dt:∀{rs ks:List aX},pP rs ks->ks.map pJ=rs.map pJ
 |[],[],_=>rfl
 |[],_::_,h=>by cases h.1
 |_::_,[],h=>by cases h.1
 |r::rs,k::ks,h=>by
  obtain⟨h1,h2⟩:=h;rw[bh,bh]at h1 h2;injection h1 with a1 a2;injection h2 with b1 b2;rw[bh,bh,pP.dt ⟨a2,b2⟩];show DT.t [.t (k.f.map fW),.s (k.s.map eI)]::_=DT.t [.t (r.f.map fW),.s (r.s.map eI)]::_;rw[a1,b1]
theorem pP.snoc{rs ks:List aX}{r k:aX}(h:pP rs ks)(hf:k.f=r.f)(hs:k.s=r.s):pP (rs++[r]) (ks++[k]):=by
 obtain⟨h1,h2⟩:=h;constructor
 ·rw[ax,ax,h1];show _++[k.f]=_++[r.f];rw[hf]
 ·rw[ax,ax,h2];show _++[k.s]=_++[r.s];rw[hs]
theorem pP.len{rs ks:List aX}(h:pP rs ks):ks.length=rs.length:=by
 have:=congrArg List.length h.1;rw[ak,ak]at this;exact this
def vi(r:aX):aX:=⟨r.w,r.f,r.s++[cg]⟩
inductive Ce(K:Za)(H:Hp)(rs:List aX)(H':Hp)(l:Addr):Prop
 |mk (qs:Ze) (ks:List aX):(H' l=some (.lst (qs.map V.ref)))->(H l=none)->(Paired (cH K H') qs ks)->(pP rs ks)->(∀k∈ks,H k.w=none/\k.w≠l)->(ac H H')->Ce K H rs H' l
theorem B_{K:Za}{te:TE}{σ:L2.St}{H:Hp}{a l:Addr}{qs:Ze}{rs:List aX}{g:aX->aX}{Q:Hp->Prop}(ha:H a=some (.lst (qs.map V.ref)))(hP:Paired (cH K H) qs rs)(hl:H l=none)(hz:rs.length<=900)
  (hte:∀(i:Nat) (r:aX) (u:Addr) (H1:Hp) (R:VK),rs[i]?=some r->ac H H1->H1 u=some (.tup (r.f.map V.str))->fM K H1 r.w r.s->(∀(q:Addr) (k:aX) (H2:Hp),cH K H2 q k->H1 k.w=none->k.f=(g r).f->k.s=(g r).s->ac H1 H2->R (.ref q) H2)->te [some (.ref u),some (.ref r.w)] H1 R)
  (k:∀H',Ce K H (rs.map g) H' l->Q H') :
  eX 2 [] σ (Ci K a) (gA K 2 (bb U0 (bb U1 (ga)))) (jS) te H l Q:=by
 have zq:=Paired.length hP
 let zC:Nat->List V->Hp->Prop:=fun i us H'=>Ex fun(kq:Ze) (ks:List aX)=>FB (us=kq.map V.ref) (ac H H') (H' l=some (.lst us)) (Paired (cH K H') kq ks) (pP ((rs.take i).map g) ks) (∀k∈ks,H k.w=none/\k.w≠l)
 refine cu (xs:=qs.map V.ref) zC ⟨[],[],rfl,ac.new hl,aa,.nil,⟨rfl,rfl⟩,fun k h=>by cases h⟩ (fun i us H' _ zq=>by obtain⟨_,_,_,S,h',_⟩:=zq;exact⟨h',aw.of (S _ _ ha)⟩) ?_ ?_
 ·rintro us H' ⟨kq,ks,rfl,S,h',hp,lk,nw⟩;rw[ak,zq,bj]at lk;exact k H' ⟨kq,ks,h',hl,hp,lk,nw,S⟩
 ·rintro i us H1 x hx hi ⟨kq,ks,rfl,S,h1,hp,lk,nw⟩;obtain⟨q,hq,rfl⟩:=bT hx;obtain⟨r,hr,hat⟩:=Paired.getL hP hq;obtain⟨u,g1,g2,g3⟩:=cH.same S hat;have il:=(bJ.1 hr).1;refine⟨q,_,rfl,be.of g1,rfl,_,_,rfl,_,_,rfl,rfl,vI ?_⟩;refine hte i r u H1 _ hr S g2 g3 fun q' k' H2 fr new ef es S2=>⟨S2 _ _ h1,?_,o9 hi ⟨kq++[q'],ks++[k'],by rw[ax];rfl,fun b o e=>?_,aa,?_,?_,?_⟩⟩
  ·have:=lk.len;rw[ak,aI]at this;rw[ak,Paired.length hp];exact ao (by omega)
  ·rw[ag (ae e hl)];exact S2 _ _ (S _ _ e)
  ·have ex:vz [l] H2 (upd H2 l (.lst (kq.map V.ref++[.ref q']))):=vz.upd (S2 _ _ h1) (bM.2 rfl);have nk:k'.w≠l:=(ae h1 new).symm;refine dC (nh (Paired.length hp) fun n a b e1 e2=>?_) (fr.ex ex fun z=>nk (bM.1 z));obtain⟨b',e3,e4⟩:=Paired.getL hp e1;rw[e2]at e3;injection e3 with e3;rw[<-e3]at e4;exact(cH.same S2 e4).ex ex fun z=>(nw b (a_ e2)).2 (bM.1 z)
  ·rw[take_snoc hr,ax];exact lk.snoc ef es
  ·intro k'' hk;rcases bp.1 hk with hk|hk
   ·exact nw k'' hk
   ·rw[bM.1 hk];exact⟨S.free new,(ae h1 new).symm⟩
inductive sp_law14(K:Za)(vs:List V)(H:Hp)(Q:VK)(E:XK):Prop
 |mk (a:Addr) (ns:List Int):(vs=[.ref a])->(aw K H a (ns.map V.int))->(ns.length<=63)->(∀H',Q (.bl true) H')->sp_law14 K vs H Q E
theorem Bj{K:Za}{C:Addr}{vs:List V}{H:Hp}{Q:VK}{E:XK}(h:sp_law14 K vs H Q E):Cy K (kB K 4) (js K C) (jp K) (kD K) (jq C) jn mS (pS K) (bN Q) (start zT vs) H:=by
 obtain⟨a,ns,rfl,hs,hn,k⟩:=h;refine⟨_,rfl,a,ns,rfl,hs,hn,fun p c H1 _ hp1 S1=>?_⟩;refine⟨_,rfl,_,rfl,p,c,5,0,rfl,hp1,by decide,by decide,by decide,by decide,fun t0 l1 l2 l3 l40 ts0 J0 J4 J5 ds0 H2 T2 m0 hrl few hp2 ex2=>?_⟩;refine⟨p,c,t0,l1,l2,l3,l40,ts0,J0,J4,J5,ds0,rfl,hp2,T2,m0,few,fun t l4 ts ds H3 T3 m hp3 ex3=>?_⟩;have zr:J5.length<=5:=hrl;have hr8:J5.length<=8:=by omega
 refine⟨_,rfl,t,l1,l2,l3,l4,ts,J0,J4,J5,ds,rfl,T3,m,fun M H4 M4 S4=>?_⟩;refine⟨_,rfl,M,J0,J4,J5,ds,rfl,M4,hr8,fun l qs rs j H5 hl hln hP fa nw S5=>?_⟩;have T5:=(T3.same S4).same S5;have zrs:=fa.few hr8;obtain⟨r0,hr0,_,_⟩:=fa.zero;have ne:rs≠[]:=fun z=>by rw[z]at hr0;cases hr0
 refine⟨_,rfl,_,rfl,t,l,l1,l2,l3,l4,ts,qs,rs,J0,J4,J5,ds,rfl,T5,m,hl,hP,ne,fun r mr sg hsg=>?_,fun H6 S6=>⟨_,rfl,aU ?_⟩⟩
 ·obtain⟨i,hi⟩:=db mr;exact fa.signs i r hi sg hsg
 refine⟨_,rfl,_,rfl,t,l,l1,l2,l3,l4,ts,qs,rs,j,J0,J4,J5,ds,rfl,T5.same S6,m,S6 _ _ hl,Paired.mapP hP fun _ _ x=>cH.same S6 x,fa,hr8,fun H7 S7=>⟨_,rfl,aU ?_⟩⟩;have S57:=S6.trans S7;have hl7:=S57 _ _ hl;have hP7:Paired (cH K H7) qs rs:=Paired.mapP hP fun _ _ x=>cH.same S57 x;have S47:=S5.trans S57;clear S6 S7 hP hl T5 S5 S57;refine⟨_,rfl,l,rfl,⟨_,aw.of hl7⟩,fun kl hkl=>B_ (g:=id) hl7 hP7 hkl (by omega) (fun i r u J R hr SJ hu hw kk=>?_) fun H8 mk8=>?_⟩
 ·obtain⟨gs,h3,h4⟩:=hw;refine⟨_,rfl,_,rfl,.inl ⟨r.w,_,rfl,.inl (aw.of h3),fun f hf=>⟨(by show 2<=aj;decide),fun q hq=>?_⟩⟩⟩;have Sf:ac J (upd J f (.lst (gs.map V.ref))):=ac.new hf;have f1:upd J f (.lst (gs.map V.ref)) f=some (.lst (gs.map V.ref)):=aa
  change upd J f (.lst (gs.map V.ref)) q=none at hq
  show R (.ref q) (upd (upd J f (.lst (gs.map V.ref))) q (.tup [.ref u,.ref f]));generalize upd J f (.lst (gs.map V.ref))=J1 at Sf f1 hq ⊢;have Sq:ac J1 (upd J1 q (.tup [.ref u,.ref f])):=ac.new hq;exact kk q ⟨f,r.f,r.s⟩ _ ⟨u,aa,Sq _ _ (Sf _ _ hu),gs,Sq _ _ f1,Paired.mapP h4 fun _ _ x=>cN.kt (ac.kt (Sf.trans Sq)) x⟩ hf rfl rfl (Sf.trans Sq)
 obtain⟨kq,ks,hkl8,_,hK8,lk,nwk,S8⟩:=mk8;rw[List.map_id]at lk;have hl8:=S8 _ _ hl7;have hP8:Paired (cH K H8) qs rs:=Paired.mapP hP7 fun _ _ x=>cH.same S8 x;have S48:=S47.trans S8;have wIn:∀r∈rs,∃xs,H7 r.w=some (.lst xs):=fun r mr=>by
  obtain⟨i,hi⟩:=db mr;obtain⟨q,_,u,_,_,gs,h3,_⟩:=Paired.get hP7 hi;exact⟨_,h3⟩
 have lW:l∉rs.map aX.w:=fun z=>by
  obtain⟨r,mr,e⟩:=aT.1 z;exact(nw r mr).2 e
 have klW:kl∉rs.map aX.w:=fun z=>by
  obtain⟨r,mr,e⟩:=aT.1 z;obtain⟨xs,hx⟩:=wIn r mr;rw[e,hkl]at hx;cases hx
 have kW:∀x∈ks,x.w∉rs.map aX.w:=fun x mx z=>by
  obtain⟨r,mr,e⟩:=aT.1 z;obtain⟨xs,hx⟩:=wIn r mr;rw[e,(nwk x mx).1]at hx;cases hx
 refine⟨_,rfl,l,rfl,⟨_,aw.of hl8⟩,?_⟩;have zq:=Paired.length hP8
 let zI1:Nat->L2.St->Hp->Prop:=fun i σ H'=>Ex fun(x6 x7:Option V)=>NA3 (σ=[some (.ref a),some (.ref p),some (.ref t),some (.ref M),some (.ref l),some (.ref kl),x6,x7]) (vz (rs.map aX.w) H8 H') (∀(n:Nat) (q:Addr) (r:aX),qs[n]?=some q->rs[n]?=some r->cH K H' q (if n<i then vi r else r))
 refine cw (xs:=qs.map V.ref) zI1 ⟨_,_,rfl,vz.refl _ _,fun n q r e1 e2=>?_⟩ (fun i σ H' _ zq=>by obtain⟨_,_,_,ex,_⟩:=zq;exact aw.of (ex.1 _ _ hl8 lW)) ?_ ?_
 ·rw[if_neg (Nat.not_lt_zero _)];obtain⟨r',e3,e4⟩:=Paired.getL hP8 e1;rw[e2]at e3;injection e3 with e3;rw[e3];exact e4
 ·rintro i x σ H9 hx ⟨x6,x7,rfl,ex9,all9⟩;obtain⟨q,hq,rfl⟩:=bT hx;have il:i<rs.length:=by rw[<-zq];exact(bJ.1 hq).1
  obtain⟨r,hr⟩:∃r,rs[i]?=some r:=⟨_,bR il⟩;have mr:=a_ hr;have hat:=all9 i q r hq hr;rw[if_neg (iQ _)]at hat;obtain⟨u,g1,g2,gs,g3,g4⟩:=id hat;refine⟨q,_,rfl,be.of g1,rfl,_,_,rfl,_,_,rfl,rfl,?_⟩;refine⟨_,rfl,.inl ⟨rfl,_,aw.of g3⟩,(by show 1<=aj;decide),fun hp hhp=>?_⟩;have S10:ac H9 (upd H9 hp (.tup [.str "hush"])):=ac.new hhp;have h10:upd H9 hp (.tup [.str "hush"]) hp=some (.tup (cg.map V.str)):=aa;generalize upd H9 hp (.tup [.str "hush"])=H10 at S10 h10 ⊢;have g3':=S10 _ _ g3;refine⟨r.w,_,_,rfl,rfl,g3',by rw[ak,Paired.length g4];have:=fa.slen hr8 mr;exact ao (by omega),?_⟩;have ex11:vz [r.w] H10 (upd H10 r.w (.lst (gs.map V.ref++[.ref hp]))):=vz.upd g3' (bM.2 rfl);have w11:upd H10 r.w (.lst (gs.map V.ref++[.ref hp])) r.w=some (.lst ((gs++[hp]).map V.ref)):=by rw[aa,ax];rfl
  generalize upd H10 r.w (.lst (gs.map V.ref++[.ref hp]))=H11 at ex11 w11 ⊢;have kt:jU H9 H11:=fun b xs e=>ex11.2 _ _ (S10 _ _ e);refine⟨_,_,rfl,ex9.trans ((ac.exW S10).trans ⟨fun b o e n=>ex11.1 b o e fun z=>n ?_,ex11.2⟩),fun n q' r' e1 e2=>?_⟩
  ·rw[bM.1 z];exact fm mr
  by_cases cn:n=i
  ·subst cn;rw[hq]at e1;rw[hr]at e2;injection e1 with e1;injection e2 with e2;subst e1 e2;rw[if_pos (vA _)];exact⟨u,kt _ _ g1,kt _ _ g2,gs++[hp],w11,dC (Paired.mapP g4 fun _ _ x=>cN.kt kt x) (.inl (ex11.2 _ _ h10))⟩
  ·have nw':r'.w≠r.w:=fun z=>cn (by
    have h1:(rs.map aX.w)[n]?=some r'.w:=by rw[bv,e2];rfl
    have h2:(rs.map aX.w)[i]?=some r'.w:=by rw[bv,hr,z];rfl
    obtain⟨a1,a2⟩:=bJ.1 h1;obtain⟨b1,b2⟩:=bJ.1 h2;rcases qq n i with y|y|y
    ·exact absurd (a2.trans b2.symm) (List.pairwise_iff_getElem.1 fa.nd n i a1 b1 y)
    ·exact y
    ·exact absurd (b2.trans a2.symm) (List.pairwise_iff_getElem.1 fa.nd i n b1 a1 y))
   have old:=all9 n q' r' e1 e2;have:(if n<i+1 then vi r' else r')=(if n<i then vi r' else r'):=by
    by_cases c':n<i
    ·rw[if_pos c',if_pos (by omega)]
    ·rw[if_neg c',if_neg (by omega)]
   rw[this];refine(cH.same S10 old).ex ex11 fun z=>nw' ?_;have:=bM.1 z;by_cases c':n<i
   ·rw[if_pos c']at this;exact this
   ·rw[if_neg c']at this;exact this
 rintro σ H9 ⟨x6,x7,rfl,ex9,all9⟩;rw[ak,zq]at all9;have hP9:Paired (cH K H9) qs (rs.map vi):=nh (by rw[ak];exact zq) fun n q r e1 e2=>by
  rw[bv]at e2;obtain⟨r',e3,rfl⟩:=qj.1 e2;have:=all9 n q r' e1 e3;rw[if_pos (bJ.1 e3).1]at this;exact this
 have hl9:=ex9.1 _ _ hl8 lW;have kl9:=ex9.1 _ _ hkl8 klW;have hK9:Paired (cH K H9) kq ks:=nh (Paired.length hK8) fun n q r e1 e2=>by
  obtain⟨r',e3,e4⟩:=Paired.getL hK8 e1;rw[e2]at e3;injection e3 with e3;rw[<-e3]at e4;exact e4.ex ex9 (kW r (a_ e2))
 have S49:ac H4 H9:=fun b o e=>ex9.1 _ _ (S48 _ _ e) fun z=>by
  obtain⟨r,mr,e'⟩:=aT.1 z;rw[<-e',(nw r mr).1]at e;cases e
 have zk:ks.length=rs.length:=lk.len;have zkq:=Paired.length hK9;refine⟨_,rfl,_,rfl,kl,rfl,⟨_,aw.of kl9⟩,fun cl hcl=>B_ (g:=vi) kl9 hK9 hcl (by omega) (fun i r u J R hr SJ hu hw kk=>?_) fun H10 mk10=>?_⟩
 ·obtain⟨gs,h3,h4⟩:=hw;have mk:=a_ hr;have zs:gs.length<=256:=by
   rw[Paired.length h4];have hs:r.s∈rs.map aX.s:=by rw[<-lk.2];exact fm mk
   obtain⟨r',mr',e⟩:=aT.1 hs;rw[<-e];exact fa.slen hr8 mr'
  refine⟨_,rfl,_,rfl,(by show 1<=aj;decide),fun hp hhp=>⟨(by show 1<=aj;decide),fun ll hll=>?_⟩⟩;have Sh:ac J (upd J hp (.tup [.str "hush"])):=ac.new hhp;have h1:upd J hp (.tup [.str "hush"]) hp=some (.tup (cg.map V.str)):=aa
  change upd J hp (.tup [.str "hush"]) ll=none at hll
  show oA (.ref r.w) (.ref ll) (upd (upd J hp (.tup [.str "hush"])) ll (.lst [.ref hp])) _;generalize upd J hp (.tup [.str "hush"])=J1 at Sh h1 hll ⊢;have Sl:ac J1 (upd J1 ll (.lst [.ref hp])):=ac.new hll;have l2':upd J1 ll (.lst [.ref hp]) ll=some (.lst [.ref hp]):=aa;generalize upd J1 ll (.lst [.ref hp])=J2 at Sl l2' ⊢;have S2:=Sh.trans Sl;refine⟨r.w,ll,_,_,rfl,rfl,S2 _ _ h3,l2',by rw[ak];exact dH (ao (by show _+1<=1000;omega)),fun f hf=>⟨(by show 2<=aj;decide),fun q hq=>?_⟩⟩;have Sf:ac J2 (upd J2 f (.lst (gs.map V.ref++[.ref hp]))):=ac.new hf;have f3:upd J2 f (.lst (gs.map V.ref++[.ref hp])) f=some (.lst ((gs++[hp]).map V.ref)):=by rw[aa,ax];rfl
  change upd J2 f (.lst (gs.map V.ref++[.ref hp])) q=none at hq
  show R (.ref q) (upd (upd J2 f (.lst (gs.map V.ref++[.ref hp]))) q (.tup [.ref u,.ref f]));generalize upd J2 f (.lst (gs.map V.ref++[.ref hp]))=J3 at Sf f3 hq ⊢;have Sq:ac J3 (upd J3 q (.tup [.ref u,.ref f])):=ac.new hq;have S3:=S2.trans (Sf.trans Sq);exact kk q ⟨f,r.f,r.s++[cg]⟩ _ ⟨u,aa,S3 _ _ hu,gs++[hp],Sq _ _ f3,dC (Paired.mapP h4 fun _ _ x=>cN.kt (ac.kt S3) x) (.inl ((Sl.trans (Sf.trans Sq)) _ _ h1))⟩ (S2.free hf) rfl rfl S3
 obtain⟨cq,cs,hcl10,_,hC10,lc,_,S10⟩:=mk10;have lh:pP (rs.map vi) cs:=by
  refine⟨lc.1.trans ?_,lc.2.trans ?_⟩
  ·rw[iz,iz];exact lk.1
  ·have e:∀L:List aX,(L.map vi).map aX.s=(L.map aX.s).map fun s=>s++[cg]:=fun L=>by rw[iz,iz];rfl
   rw[e,e,lk.2]
 have hP10:Paired (cH K H10) qs (rs.map vi):=Paired.mapP hP9 fun _ _ x=>cH.same S10 x;have dd:∀L:List aX,(DT.s (L.map pJ)).depth<=4:=fun L=>nR (oH L);refine .inl ⟨.ref l,.ref cl,.s ((rs.map vi).map pJ),.s (cs.map pJ),rfl,⟨l,_,rfl,aw.of (S10 _ _ hl9),i6 hP10⟩,⟨cl,_,rfl,aw.of hcl10,i6 hC10⟩,dd _,dd _,fun H11 S11=>⟨_,rfl,?_⟩⟩;rw[zzr1 (by rw[lh.dt])];refine aU ?_;have S911:=S10.trans S11;have hl11:=S911 _ _ hl9;have kl11:=S911 _ _ kl9;obtain⟨q0,hq0⟩:∃q,kq[0]?=some q:=⟨_,bR (by rw[zkq,zk];exact List.length_pos_iff.2 ne)⟩;refine⟨_,rfl,.inl ⟨rfl,_,aw.of hl11⟩,_,rfl,kl,_,0,_,rfl,rfl,aw.of kl11,bQ (j:=0) (by rw[bv,hq0];rfl),l,_,_,rfl,rfl,hl11,by rw[ak,zq];exact ao (by omega),?_⟩;have ex12:vz [l] H11 (upd H11 l (.lst (qs.map V.ref++[.ref q0]))):=vz.upd hl11 (bM.2 rfl);generalize upd H11 l (.lst (qs.map V.ref++[.ref q0]))=H12 at ex12 ⊢;have nkl:kl≠l:=(ae hl7 hkl).symm;have kl12:=ex12.1 _ _ kl11 fun z=>nkl (bM.1 z);have hK12:Paired (cH K H12) kq ks:=nh zkq fun n q r e1 e2=>by
  obtain⟨r',e3,e4⟩:=Paired.getL hK9 e1;rw[e2]at e3;injection e3 with e3;rw[<-e3]at e4;refine(cH.same S911 e4).ex ex12 fun z=>?_;have:=(nwk r (a_ e2)).1;rw[bM.1 z,hl7]at this;cases this
 have S412:ac H4 H12:=fun b o e=>ex12.1 _ _ (S911 _ _ (S49 _ _ e)) fun z=>by
  rw[bM.1 z,hln]at e;cases e
 refine⟨_,rfl,M,J0,J4,J5,ds,rfl,M4.same S412,hr8,fun l' qs' rs' j' H13 hl13 _ hP13 fa' _ S13=>?_⟩;have ej:=fa.uniq fa';have lk':pP rs' ks:=⟨lk.1.trans (by rw[fa.fs,fa'.fs,ej]),lk.2.trans (by rw[fa.ss,fa'.ss,ej])⟩;refine⟨_,rfl,.inl ⟨.ref l',.ref kl,.s (rs'.map pJ),.s (ks.map pJ),rfl,⟨l',_,rfl,aw.of hl13,i6 hP13⟩,⟨kl,_,rfl,aw.of (S13 _ _ kl12),i6 (Paired.mapP hK12 fun _ _ x=>cH.same S13 x)⟩,dd _,dd _,fun H14 S14=>?_⟩⟩;rw[zzr1 (by rw[lk'.dt])];exact k H14
def top(i:Nat):Stmt:=PySem.Challenge.pw_mumtrial_k14_whole_faces.main.body.getD i (.Pass ⟨0,0,0,0⟩)
local macro_rules | `(tactic| walk_at "s")=>`(tactic| exact⟨rfl,rfl,rfl,by decide +kernel,rfl,by decide +kernel,by decide +kernel⟩)
local macro_rules | `(tactic| walk_at "l")=>`(tactic| (intro _ _ _ _ h;first|exact len_h h|exact len_g h|(cases h;subst_vars;rfl)|(obtain⟨_,_,h,_⟩:=h;subst h;rfl)|((repeat obtain⟨_,h⟩:=h);subst_vars;rfl)))
theorem zzlS{us:List Value}{n:Nat}(h:us.length=n+1):∃ a t,us=a::t∧t.length=n:=by
  cases us with
  |nil=>cases h
  |cons a t=>exact⟨a,t,rfl,Nat.succ.inj h⟩
local macro_rules | `(tactic| walk_at "b")=>`(tactic| (intro _ _ _ _ _ _ us hl;(repeat (have h:=zzlS hl;clear hl;obtain⟨_,_,e,hl⟩:=h;subst e));cases List.eq_nil_of_length_eq_zero hl;rfl))
def Fj(K:Za)(x qual:Str)(st:Stmt)(f:Addr):Prop:=∃(oc:Value) (od an:Option Addr) (sl:Array (Option Value)) (kV dc pm cd ct:Value),
 K.lookup f=some ⟨oc,od,.func (gW x qual (gB st) (eV st) (bG st) .none kV dc pm an cd ct),sl⟩/\lH K cd qual=true/\gP K (.ref f)=true
theorem BU{K:Za}{x qual:Str}{st:Stmt}{f:Addr}{oc:Value}{od an:Option Addr}{sl:Array (Option Value)}{kV dc pm cd ct:Value}(l:K.lookup f=some ⟨oc,od,.func (gW x qual (gB st) (eV st) (bG st) .none kV dc pm an cd ct),sl⟩)
  (c:lH K cd qual=true) (k:gP K (.ref f)=true):Fj K x qual st f:=⟨oc,od,an,sl,kV,dc,pm,cd,ct,l,c,k⟩
def jb(K:Za)(x:Str)(st:Stmt):Prop:=∃f,cb K bL x=some (some (.ref f))/\Fj K x x st f
theorem fnG_mk{K:Za}{x:Str}{st:Stmt}{f:Addr}{oc:Value}{od an:Option Addr}{sl:Array (Option Value)}{kV dc pm cd ct:Value}(a:cb K bL x=some (some (.ref f)))(l:K.lookup f=some ⟨oc,od,.func (gW x x (gB st) (eV st) (bG st) .none kV dc pm an cd ct),sl⟩)
  (c:lH K cd x=true) (k:gP K (.ref f)=true):jb K x st:=⟨f,a,BU l c k⟩
def AW(K:Za)(C:Addr)(m qual:Str)(st:Stmt):Prop:=∃f,cP K (.ref C) m=some (some (.ref f))/\vB K (.ref f)=true/\Fj K m qual st f
theorem fnM_mk{K:Za}{C:Addr}{m qual:Str}{st:Stmt}{f:Addr}{oc:Value}{od an:Option Addr}{sl:Array (Option Value)}{kV dc pm cd ct:Value}(a:cP K (.ref C) m=some (some (.ref f)))(i:vB K (.ref f)=true)
  (l:K.lookup f=some ⟨oc,od,.func (gW m qual (gB st) (eV st) (bG st) .none kV dc pm an cd ct),sl⟩) (c:lH K cd qual=true) (k:gP K (.ref f)=true):AW K C m qual st:=⟨f,a,i,BU l c k⟩
theorem Fj.fun_{K:Za}{x qual:Str}{st:Stmt}{f:Addr}(T:Fj K x qual st f):∃fd,EG K x qual st f fd:=by
 obtain⟨oc,od,an,sl,kV,dc,pm,cd,ct,l,c,k⟩:=T;exact⟨_,BQ (st:=st) l c k⟩
def EJ:Sp:=fun _ _ _ _=>False
theorem EW{P:bx}{w:World}{K:Za}{mg:Str->Option Value}{base:Heap}{k:Nat}{f:Addr}{fd:jM}{ps:Zb}:ky P w K mg base CX0 k f fd ps EJ:=⟨fun _ _ _ _ h=>h.elim,fun _ _ _ _ _ _ _ _ _ _ _ _ _ h=>h.elim⟩
def Eu(K:Za)(a:Addr)(ws:Zb):Prop:=∀H,be K H a (ws.map V.str)
theorem yS{K:Za}{a:Addr}{ws:Zb}{o:Obj}{its:Array Value}{n:Nat}(l:K.lookup a=some o)(c:o.cls=.type "tuple")(d:o.data=.seq its n)(z:its.size<=aj)(v:aW (ws.map V.str) its.toList):Eu K a ws :=
 fun _=>.inr ⟨o,its,n,l,c,d,z,v⟩
section
variable{P:bx}{w:World}{K:Za}{mg:Str->Option Value}{base h:Heap}{C:Addr}{x qual:Str}{st:Stmt}{N ps:Zb}{k:Nat}{sp:Sp}
abbrev Cg(ps:Zb)(sp:Sp):Prop:=∀vs H Q E,sp vs H Q E->vs.length=ps.length
abbrev BodyOk(CX:A0)(P:bx)(w:World)(K:Za)(mg:Str->Option Value)(base:Heap)(qual:Str)(st:Stmt)(N:Zb)(k:Nat)(sp:Sp)(nox:Cx->Cx):Prop:=N.Nodup->∀(f:Addr) (cdv:Value) (A:Around) (outer:List Env) (s:Shared) (H:Hp) (vs:List V) (Q:VK) (E:XK),dX k (A.deeper (envOfC qual (bG st) s.heap.objs.size f cdv))->(A.deeper (envOfC qual (bG st) s.heap.objs.size f cdv)).units+16<cLine->sp vs H Q E ->
 ∃t,wR (nox (ya CX P w K mg base N qual (bG st) f cdv A outer s H E)) (eV st) t/\t (bN Q) (start N vs) H
abbrev yC(x qual:Str)(st:Stmt)(ps:Zb):Prop:=∀(kV doc pm:Value) (an:Option Addr) (cdv ct:Value) (us:Zf),us.length=ps.length->bindArgs (gW x qual (gB st) (eV st) (bG st) .none kV doc pm an cdv ct) ⟨us,[]⟩=pure (ps.zip us)
theorem dG(X:K.In h)(G:h.Ns bL mg)(T:jb K x st)(b:BodyOk CX0 P w K mg base x st N k sp Cx.nox)(bi:yC x x st ps)(S:jF N ps (bG st):=by walk_at "s")(l:Cg ps sp:=by walk_at "l"):iJ P w K mg base x ps (k+1) sp:=by
 obtain⟨f,a,t⟩:=T;obtain⟨fd,F⟩:=t.fun_;exact⟨f,fd,F.ok S l fun cdv A outer s H vs Q E hr h=>b S.nd f cdv A outer s H vs Q E hr (zv hr) h,fk X G a,F.kp,F.binds bi⟩
theorem dM(cl:zU K C)(T:AW K C x qual st)(b:BodyOk CX0 P w K mg base qual st N k sp Cx.nox)(bi:yC x qual st ps)(S:jF N ps (bG st):=by walk_at "s")(l:Cg ps sp:=by walk_at "l"):AV P w K mg base C x ps (k+1) sp:=by
 obtain⟨f,a,i,t⟩:=T;obtain⟨fd,F⟩:=t.fun_;exact⟨f,fd,F.ok S l fun cdv A outer s H vs Q E hr h=>b S.nd f cdv A outer s H vs Q E hr (zv hr) h,cl,⟨a,i,F.kp⟩,F.binds bi⟩
theorem dN{y:Str}(cm:mg y=some (.ref C))(mk:qb K C=true)(kc:gP K (.ref C)=true)(T:AW K C "__init__" qual st)(b:BodyOk CX0 P w K mg base qual st N k sp Cx.nox)(bi:yC "__init__" qual st ps)(S:jF N ps (bG st):=by walk_at "s")(l:Cg ps sp:=by walk_at "l"):Fz P w K mg base y C ps (k+1) sp:=by
 obtain⟨f,a,i,t⟩:=T;obtain⟨fd,F⟩:=t.fun_;exact⟨f,fd,F.ok S l fun cdv A outer s H vs Q E hr h=>b S.nd f cdv A outer s H vs Q E hr (zv hr) h,cm,⟨mk,a,i,kc⟩,F.binds bi⟩
end
structure Zs(mg:Str->Option Value):Prop where
 all:mg "all"=none
 bool:mg "bool"=none
 dict:mg "dict"=none
 enumerate:mg "enumerate"=none
 int:mg "int"=none
 isinstance:mg "isinstance"=none
 len:mg "len"=none
 list:mg "list"=none
 range:mg "range"=none
 str:mg "str"=none
 tuple:mg "tuple"=none
 zip:mg "zip"=none
structure Cs(K:Za)(mg:Str->Option Value)(C Cf a_STILL a_HUSH:Addr):Prop where
 LETTERS:Gc mg "LETTERS" (.str "abcdefghijklmnopqrstuvwxyz")
 LONGEST_NAME:Gc mg "LONGEST_NAME" (.int 8)
 MOST_WORDS:Gc mg "MOST_WORDS" (.int 4)
 MOST_ROOMS:Gc mg "MOST_ROOMS" (.int 150)
 MOST_DOORS:Gc mg "MOST_DOORS" (.int 2000)
 MOST_FACES:Gc mg "MOST_FACES" (.int 400)
 STILL:Gc mg "STILL" (.ref a_STILL)
 HUSH:Gc mg "HUSH" (.ref a_HUSH)
 still:Eu K a_STILL aF
 hush:Eu K a_HUSH cg
 mc:MC K C
 cm:mg "Machine"=some (.ref C)
 makes:qb K C=true
 kc:gP K (.ref C)=true
 fc:FC K Cf
 cmfc:mg "FaceMap"=some (.ref Cf)
 makesfc:qb K Cf=true
 kcfc:gP K (.ref Cf)=true
structure Ts(K:Za)(C Cf:Addr):Prop where
 f_law_spread:jb K "_law_spread" (top 37)
 f_law_open:jb K "_law_open" (top 38)
 f_law_anew:jb K "_law_anew" (top 39)
 f_law_take:jb K "_law_take" (top 40)
 f_law_names:jb K "_law_names" (top 41)
 f_law_put:jb K "_law_put" (top 42)
 f_law_draw_doors:jb K "_law_draw_doors" (top 43)
 f_law_model:jb K "_law_model" (top 44)
 f_is_name:jb K "is_name" (top 23)
 f_as_keys:jb K "as_keys" (top 24)
 f_first_wrong_name:jb K "first_wrong_name" (top 25)
 f_door_signs:jb K "door_signs" (top 26)
 f_first_wrong_door:jb K "first_wrong_door" (top 27)
 f_goals_by_start_and_sign:jb K "goals_by_start_and_sign" (top 28)
 f_led_by_still:jb K "led_by_still" (top 29)
 f_first_led_round:jb K "first_led_round" (top 30)
 f_need_none:jb K "need_none" (top 31)
 f_need_parts:jb K "need_parts" (top 32)
 f_doors_by_start:jb K "doors_by_start" (top 33)
 f_has_asks_alone:jb K "has_asks_alone" (top 34)
 f_Machine___init__:AW K C "__init__" "Machine.__init__" (fK (top 35) 0)
 f_law_machine:jb K "_law_machine" (top 47)
 f_Machine_rooms:AW K C "rooms" "Machine.rooms" (fK (top 35) 3)
 f_Machine_led_from:AW K C "led_from" "Machine.led_from" (fK (top 35) 8)
 f_with_still:jb K "with_still" (top 8)
 f_Machine_goals:AW K C "goals" "Machine.goals" (fK (top 35) 7)
 f_Machine_is_quiet:AW K C "is_quiet" "Machine.is_quiet" (fK (top 35) 5)
 f_law_still_on:jb K "_law_still_on" (top 45)
 f_law_stiller:jb K "_law_stiller" (top 46)
 f_law_on:jb K "_law_on" (top 49)
 f_law_is_quiet:jb K "_law_is_quiet" (top 50)
 f_law_behind:jb K "_law_behind" (top 51)
 f_law_signs:jb K "_law_signs" (top 52)
 f_law_same:jb K "_law_same" (top 48)
 f_law_key:jb K "_law_key" (top 53)
 f_Machine_asks:AW K C "asks" "Machine.asks" (fK (top 35) 1)
 f_Machine_says:AW K C "says" "Machine.says" (fK (top 35) 2)
 f_first_face:jb K "first_face" (top 9)
 f_face_behind:jb K "face_behind" (top 10)
 f_signs_in_order:jb K "signs_in_order" (top 7)
 f_steps_at:jb K "steps_at" (top 11)
 f_FaceMap_number_at:AW K Cf "number_at" "FaceMap.number_at" (fK (top 14) 1)
 f_FaceMap_numbered_steps:AW K Cf "numbered_steps" "FaceMap.numbered_steps" (fK (top 14) 2)
 f_FaceMap___init__:AW K Cf "__init__" "FaceMap.__init__" (fK (top 14) 0)
 f_faces_of:jb K "faces_of" (top 15)
 f_law_is_listed:jb K "_law_is_listed" (top 54)
 f_law_is_reached:jb K "_law_is_reached" (top 55)
 f_law14:jb K "law" (top 56)
section
variable{P:bx}{w:World}{K:Za}{mg:Str->Option Value}{base h:Heap}{C Cf a_STILL a_HUSH:Addr}
section
variable(P:bx)(w:World)(K:Za)(mg:Str->Option Value)(C Cf a_STILL a_HUSH:Addr)
abbrev jH:Prop:=∀base,iJ P w K mg base "_law_spread" ["cell","at"] 1 kA
abbrev r9:Prop:=∀base,iJ P w K mg base "_law_open" ["script"] 1 (pS K)
abbrev jJ:Prop:=∀base,iJ P w K mg base "_law_anew" ["pen"] 1 pX
abbrev fE:Prop:=∀base,iJ P w K mg base "_law_take" ["pen","many"] 2 gp
abbrev kz:Prop:=∀base,iJ P w K mg base "_law_names" ["pen","many"] 3 mR
abbrev kO:Prop:=∀base,iJ P w K mg base "_law_put" ["doors","door"] 1 oy
abbrev fF:Prop:=∀base,iJ P w K mg base "_law_draw_doors" ["pen","asks","says","rooms","full"] 3 fI
abbrev pj:Prop:=∀base,iJ P w K mg base "_law_model" ["pen","most","full"] 4 mS
abbrev oU:Prop:=∀base,iJ P w K mg base "is_name" ["text"] 1 sp_is_name
abbrev ja:Prop:=∀base,iJ P w K mg base "as_keys" ["things"] 1 (sp_as_keys K)
abbrev eB:Prop:=∀base,iJ P w K mg base "first_wrong_name" ["names","most","taken"] 2 (sp_first_wrong_name K)
abbrev jL:Prop:=∀base,iJ P w K mg base "door_signs" ["asks","says"] 1 (sp_door_signs K)
abbrev eC:Prop:=∀base,iJ P w K mg base "first_wrong_door" ["doors","rooms","signs"] 2 (sp_first_wrong_door K)
abbrev cD:Prop:=∀base,iJ P w K mg base "goals_by_start_and_sign" ["doors"] 1 mT
abbrev hV:Prop:=∀base,iJ P w K mg base "led_by_still" ["goals","room"] 1 uG
abbrev e_:Prop:=∀base,iJ P w K mg base "first_led_round" ["rooms","led"] 1 sp_first_led_round
abbrev iw:Prop:=∀base,iJ P w K mg base "need_none" ["part","number"] 1 sp_need_none
abbrev jG:Prop:=∀base,iJ P w K mg base "need_parts" ["asks","says","rooms","doors"] 3 sp_need_parts
abbrev fH:Prop:=∀base,iJ P w K mg base "doors_by_start" ["rooms","doors"] 1 sp_doors_by_start
abbrev fG:Prop:=∀base,iJ P w K mg base "has_asks_alone" ["doors"] 1 sp_has_asks_alone
abbrev oW:Prop:=∀base,Fz P w K mg base "Machine" C ["self","asks","says","rooms","doors"] 4 (pT C)
abbrev lp:Prop:=∀base,iJ P w K mg base "_law_machine" ["told"] 6 (jq C)
abbrev eA:Prop:=∀base,AV P w K mg base C "rooms" ["self"] 1 (j8 C)
abbrev eD:Prop:=∀base,AV P w K mg base C "led_from" ["self","room"] 1 (ie C)
abbrev gD:Prop:=∀base,iJ P w K mg base "with_still" ["M","rooms"] 2 (sp_with_still C)
abbrev gj:Prop:=∀base,AV P w K mg base C "goals" ["self","room","sign"] 1 (iX C)
abbrev eE:Prop:=∀base,AV P w K mg base C "is_quiet" ["self","room"] 1 (ig C)
abbrev eZ:Prop:=∀base,iJ P w K mg base "_law_still_on" ["doors","rooms"] 1 (fP K)
abbrev lm:Prop:=∀base,iJ P w K mg base "_law_stiller" ["pen","told"] 3 jn
abbrev nP:Prop:=∀base,iJ P w K mg base "_law_on" ["told","some"] 2 v3
abbrev hW:Prop:=∀base,iJ P w K mg base "_law_is_quiet" ["told","room"] 1 kC
abbrev jI:Prop:=∀base,iJ P w K mg base "_law_behind" ["told","face","sign"] 3 (pV K)
abbrev fV:Prop:=∀base,iJ P w K mg base "_law_signs" ["told"] 1 iV
abbrev r8:Prop:=∀base,iJ P w K mg base "_law_same" ["found","due"] 5 (kB K 4)
abbrev oT:Prop:=∀base,iJ P w K mg base "_law_key" ["told","story"] 2 (uH K)
abbrev h9:Prop:=∀base,AV P w K mg base C "asks" ["self"] 1 (pW C)
abbrev hZ:Prop:=∀base,AV P w K mg base C "says" ["self"] 1 (pR C)
abbrev jK:Prop:=∀base,iJ P w K mg base "first_face" ["M"] 3 (dA C)
abbrev iK:Prop:=∀base,iJ P w K mg base "face_behind" ["M","face","sign"] 3 (pU K C)
abbrev fD:Prop:=∀base,iJ P w K mg base "signs_in_order" ["M"] 2 (uF C a_HUSH)
abbrev mw:Prop:=∀base,iJ P w K mg base "steps_at" ["M","face"] 4 (jo C)
abbrev cO:Prop:=∀base,AV P w K mg base Cf "number_at" ["self","face","story"] 1 (iW K Cf)
abbrev cI:Prop:=∀base,AV P w K mg base Cf "numbered_steps" ["self","number"] 5 (gu K Cf C)
abbrev oX:Prop:=∀base,Fz P w K mg base "FaceMap" Cf ["self","M"] 6 (jr K Cf C)
abbrev r_:Prop:=∀base,iJ P w K mg base "faces_of" ["M"] 8 (js K C)
abbrev jR:Prop:=∀base,iJ P w K mg base "_law_is_listed" ["told","found"] 2 (kD K)
abbrev i_:Prop:=∀base,iJ P w K mg base "_law_is_reached" ["told","found"] 4 (jp K)
end
section
variable(X:K.In h)(G:h.Ns bL mg)(z:Zs mg)(c:Cs K mg C Cf a_STILL a_HUSH)(T:Ts K C Cf)
include X G z c T
theorem sm:jH P w K mg:=fun base=>dG X G T.f_law_spread (fun S _ _ _ _ _ _ _ _ _ hr hu h=>bK (Ac (K:=K) h) (ab (bF (jk EU (pv 0) (aO Bw ah ah)) (af (au (pv 0))) aK) (ab (qs 2 S (aO fz (aO dh (aO dh (aO g8 (aO fz (pv 0) ah) ah) (aO g8 (pv 1) ah)) ah) ah)) (ab (qs 3 S (aO fz (aO dh (aO dh (aO g8 (pv 2) (pv 2)) (aO g8 (pv 1) ah)) (aO fz (pv 0) ah)) ah)) (ab (qs 4 S (aO fz (aO dh (aO dh (aO g8 (pv 3) (pv 3)) (aO g8 (pv 2) ah)) ah) ah)) (af (au (aO dh (aO g8 (aO dh (aO g8 (pv 2) ah) (pv 3)) ah) (pv 4))))))))) (by walk_at "b")
theorem vU:r9 P w K mg:=fun base=>dG X G T.f_law_open (fun S _ _ _ _ _ _ _ _ _ hr hu h=>bK (CH h) (ab (qs 1 S (qL rfl z.list (a1 (cV fJ (pv 0) eR (dg ah))))) (ab (bO bD rfl (m_ rfl z.enumerate (a1 (cV fJ (pv 0) (dg ah) (dg ah)))) (dO rfl (aB (gn 2 S) (aB (gn 3 S) cG))) (af (lT (aO dh (xl (pv 1) (aO fz (pv 2) ah)) (pv 3)) (rm (pv 1) (aO fz (pv 2) ah) j9)))) (af (au (bm (a3 (pv 1) ah ah))))))) (by walk_at "b")
theorem vV:jJ P w K mg:=fun base=>dG X G T.f_law_anew (fun S _ _ _ _ _ _ _ _ _ hr hu h=>bK (CM (K:=K) h) (ab (lT ah (rm (pv 0) ah j9)) (af (au (pv 0))))) (by walk_at "b")
theorem vS(D_law_spread:jH P w K mg):fE P w K mg:=fun base=>dG X G T.f_law_take (fun S _ _ _ _ _ _ _ _ _ hr hu h=>bK (CF h) (ab (bF (jk zb (xl (pv 0) ah) (pv 1)) (ab (qs 2 S (xl (pv 0) ah)) (ab (qs 3 S ah) (ab (bF (jk zb (pv 2) (ql z.len (a1 (xl (pv 0) ah)))) (af (qs 3 S (xl (xl (pv 0) ah) (pv 2)))) (af (bF (jk By (ql z.len (a1 (xl (pv 0) ah))) ah) (af (qs 3 S (aO fz (xl (xl (pv 0) ah) (aO fz (aO dh (aO g8 (pv 2) ah) ah) (ql z.len (a1 (xl (pv 0) ah))))) (aO dh (aO Bw ah ah) (pv 2))))) aK))) (ab (lT (aO dh (pv 2) ah) (rm (pv 0) ah j9)) (af (lT (qf hr (D_law_spread base) (a2 (pv 3) (pv 2))) (rm (pv 0) ah j9))))))) aK) (ab (qs 4 S (aO fz (xl (pv 0) ah) (pv 1))) (ab (lT (aO zc (xl (pv 0) ah) (pv 1)) (rm (pv 0) ah j9)) (af (au (pv 4))))))) (by walk_at "b")
theorem uB(D_law_take:fE P w K mg):kz P w K mg:=fun base=>dG X G T.f_law_names (fun S _ _ _ _ _ _ _ _ _ hr hu h=>bK (Bh h) (ab (qs 2 S bY) (ab (qs 3 S (g7 PySem.F.plainAttrs_str PySem.F.slot_str_join PySem.F.type_str_join C3 bY (a1 (qc (iY rfl z.range (a1 ah)) (ba (by decide)) fun _ _ _ _ _ _=>⟨gc 0,cU,xs' (pv 1) (qf hr (D_law_take base) (a2 (pv 2) ah))⟩)))) (ab (qs 4 S (qf hr (D_law_take base) (a2 (pv 0) ah))) (ab (qs 5 S (qf hr (D_law_take base) (a2 (pv 0) ah))) (ab (qs 6 S (qf hr (D_law_take base) (a2 (pv 0) ah))) (ab (qs 7 S (bm b0)) (ab (bO bD rfl (iY rfl z.range (a1 (pv 1))) (gn 8 S) (ab (qs 9 S (xs' (pv 2) (aO fz (aO dh (pv 5) (aO g8 ah (pv 8))) ah))) (ab (qs 10 S (cV xo (pv 3) eR (dg (aO fz (aO dh (pv 6) (aO g8 (pv 8) (aO fz (pv 4) ah))) ah)))) (ab (qs 11 S (xl (bm (a3 ah (ql z.len (a1 (pv 10))) (aO zc (ql z.len (a1 (pv 10))) ah))) (pv 4))) (af (bA (g7 eK gR gQ cE (pv 7) (a1 (aO rC (aO rC (cV xo (pv 10) eR (dg (pv 11))) (pv 9)) (cV xo (pv 10) (dg (pv 11)) eR)))))))))) (af (au (pv 7))))))))))) (by walk_at "b")
theorem xf:kO P w K mg:=fun base=>dG X G T.f_law_put (fun S _ _ _ _ _ _ _ _ _ hr hu h=>bK (DX h) (af (bF (DU (i3 hu) (pv 1) (pv 0)) (af (bA (g7 eK gR gQ cE (pv 0) (a1 (pv 1))))) aK))) (by walk_at "b")
theorem mN(D_law_take:fE P w K mg)(D_law_put:kO P w K mg):fF P w K mg:=fun base=>dG X G T.f_law_draw_doors (fun S _ _ _ _ _ _ _ _ _ hr hu h=>bK (sC h) (ab (qs 5 S (bm b0)) (ab (qs 6 S (qf hr (D_law_take base) (a2 (pv 0) ah))) (ab (bO bD rfl (m_ rfl z.enumerate (a1 (pv 3))) (dO rfl (aB (gn 7 S) (aB (gn 8 S) cG))) (ab (bO bD rfl (iY rfl z.range (a1 (xl (bm (cy ah (a3 ah ah ah))) (qf hr (D_law_take base) (a2 (pv 0) ah))))) (gn 9 S) (ab (qs 10 S (bw (a2 bY (xl (pv 2) (qf hr (D_law_take base) (a2 (pv 0) (ql z.len (a1 (pv 2))))))))) (af (bA (qf hr (D_law_put base) (a2 (pv 5) (bw (a3 (pv 8) (pv 10) (xl (pv 3) (qf hr (D_law_take base) (a2 (pv 0) (ql z.len (a1 (pv 3)))))))))))))) (ab (bO bD rfl (aZ (pv 1)) (gn 11 S) (af (bO bD rfl (iY rfl z.range (a1 (xl (bm (cy (pv 4) (a3 ah ah ah))) (qf hr (D_law_take base) (a2 (pv 0) ah))))) (gn 9 S) (af (bA (qf hr (D_law_put base) (a2 (pv 5) (bw (a3 (pv 8) (bw (a2 bY (pv 11))) (xl (pv 3) (qf hr (D_law_take base) (a2 (pv 0) (ql z.len (a1 (pv 3))))))))))))))) (ab (qs 12 S (xl (bm (a2 (cV fJ (pv 3) (dg (aO dh (pv 7) ah)) eR) (cV fJ (pv 3) eR (dg (pv 7))))) (pv 6))) (af (bF (PW.pt (ka (jk (Eh hu) (pv 12) (bm b0)) (jt (jk tq (qf hr (D_law_take base) (a2 (pv 0) ah)) ah)))) (af (bA (qf hr (D_law_put base) (a2 (pv 5) (bw (a3 (pv 8) (bw (a1 bY)) (xq (pv 12) (qf hr (D_law_take base) (a2 (pv 0) (ql z.len (a1 (pv 12)))))))))))) aK)))))) (af (au (pv 5))))))) (by walk_at "b")
theorem uC(D_law_anew:jJ P w K mg)(D_law_take:fE P w K mg)(D_law_names:kz P w K mg)(D_law_draw_doors:fF P w K mg):pj P w K mg:=fun base=>dG X G T.f_law_model (fun S _ _ _ _ _ _ _ _ _ hr hu h=>bK (Bi h) (ab (bA (qf hr (D_law_anew base) (a1 (pv 0)))) (ab (qs 3 S (qf hr (D_law_names base) (a2 (pv 0) ah))) (ab (qs 4 S (cV fJ (pv 3) eR (dg (aO dh ah (xl (bm (cy ah (cy ah (cy ah (a3 ah ah ah))))) (qf hr (D_law_take base) (a2 (pv 0) ah))))))) (ab (qs 5 S (cV fJ (pv 3) (dg ah) (dg (aO dh ah (xl (bm (cy ah (cy ah (cy ah (a3 ah ah ah))))) (qf hr (D_law_take base) (a2 (pv 0) ah))))))) (ab (qs 6 S (qf hr (D_law_names base) (a2 (pv 0) (aO dh ah (qf hr (D_law_take base) (a2 (pv 0) (pv 1))))))) (ab (qs 7 S (qf hr (D_law_draw_doors base) (cy (pv 0) (cy (pv 4) (a3 (pv 5) (pv 6) (pv 2)))))) (af (au (bw (cy (pv 4) (a3 (pv 5) (pv 6) (pv 7))))))))))))) (by walk_at "b")
theorem xh:oU P w K mg:=fun base=>dG X G T.f_is_name (fun S _ _ _ _ _ _ _ _ _ hr hu h=>bK (xA h) (af (au (rA (DF tp (pv 0) bY) (rA (DF ET (ql z.len (a1 (pv 0))) (ke rfl c.LONGEST_NAME)) (xJ (qB (ph rfl) z.all boot_all (a1 (qc (Ea (pv 0)) (ba (by decide)) fun _ _ _ _ _ _=>⟨gc 0,cU,eci xM (pv 0) (ke rfl c.LETTERS)⟩))))))))) (by walk_at "b")
theorem xi:ja P w K mg:=fun base=>dG X G T.f_as_keys (fun S _ _ _ _ _ _ _ _ _ hr hu h=>bK (xD h) (ab (qs 1 S nc) (ab (bO bD rfl (aZ (pv 0)) (gn 2 S) (af (gw hu (pv 1) (pv 2) cL rfl))) (af (au (pv 1)))))) (by walk_at "b")
theorem kS(D_is_name:oU P w K mg)(D_as_keys:ja P w K mg):eB P w K mg:=fun base=>dG X G T.f_first_wrong_name (fun S _ _ _ _ _ _ _ _ _ hr hu h=>bK (kU h) (ab (bF (jk tq (ql z.len (a1 (pv 0))) ah) (af (au ah)) aK) (ab (qs 3 S (qf hr (D_as_keys base) (a1 (pv 2)))) (ab (bO bD rfl (m_ rfl z.enumerate (a1 (pv 0))) (dO rfl (aB (gn 4 S) (aB (gn 5 S) cG))) (ab (bF (PW.pt (jP (jk tq (pv 4) (pv 1)) (jP (fx (oB hu (pv 5) (pv 3))) (iD (iE (eQ (qf hr (D_is_name base) (a1 (pv 5))))))))) (af (au (pv 4))) aK) (af (gw hu (pv 3) (pv 5) cL rfl)))) (af (au xK)))))) (by walk_at "b")
theorem sr:jL P w K mg:=fun base=>dG X G T.f_door_signs (fun S _ _ _ _ _ _ _ _ _ hr hu h=>bK (sD c.still h) (af (au (aO iF (aO iF (qc (aZ (pv 0)) (ba (by decide)) fun _ _ _ _ _ _=>⟨gc 0,cU,bw (a2 bY (pv 0))⟩) (qc (aZ (pv 1)) (ba (by decide)) fun _ _ _ _ _ _=>⟨gc 0,cU,bw (a2 bY (pv 0))⟩)) (bm (a1 (ke rfl c.STILL))))))) (by walk_at "b")
theorem kT(D_as_keys:ja P w K mg):eC P w K mg:=fun base=>dG X G T.f_first_wrong_door (fun S _ _ _ _ _ _ _ _ _ hr hu h=>bK (kY h) (ab (qs 3 S (qf hr (D_as_keys base) (a1 (pv 1)))) (ab (qs 4 S iZ) (ab (bO bD rfl (m_ rfl z.enumerate (a1 (pv 0))) (dO rfl (aB (gn 5 S) (aB (gn 6 S) cG))) (ab (bF (PW.pt (jP (jk tq (pv 5) (ke rfl c.MOST_DOORS)) (iD (fx (oB hu (pv 6) (pv 4)))))) (af (au (pv 5))) aK) (ab (bF (PW.pt (jP (fx (gF hu (xq (pv 6) ah) (pv 3))) (jP (DU (i3 hu) (xq (pv 6) ah) (pv 2)) (iD (fx (gF hu (xq (pv 6) ah) (pv 3))))))) (af (au (pv 5))) aK) (af (gw hu (pv 4) (pv 6) cL rfl))))) (af (au xK)))))) (by walk_at "b")
theorem gZ:cD P w K mg:=fun base=>dG X G T.f_goals_by_start_and_sign (fun S _ _ _ _ _ _ _ _ _ hr hu h=>bK (g0 h) (ab (qs 1 S iZ) (ab (bO bD rfl (aZ (pv 0)) (dO rfl (aB (gn 2 S) (aB (gn 3 S) (aB (gn 4 S) cG)))) (af (bA (g7 eK gR gQ cE (g7 PySem.F.plainAttrs_dict PySem.F.slot_dict_setdefault PySem.F.type_dict_setdefault (An hu) (pv 1) (a2 (bw (a2 (pv 2) (pv 3))) (bm b0))) (a1 (pv 4)))))) (af (au (pv 1)))))) (by walk_at "b")
theorem pD:hV P w K mg:=fun base=>dG X G T.f_led_by_still (fun S _ _ _ _ _ _ _ _ _ hr hu h=>bK (pG c.still h) (ab (qs 2 S nc) (ab (qs 3 S (bm (a1 (pv 1)))) (ab (rj bD (jk By (ql z.len (a1 (pv 3))) ah) (ab (qs 4 S (Ef eK PySem.F.slot_list_pop PySem.F.type_list_pop Ek (pv 3))) (af (bO bD rfl (Eb (rq hu (pv 0) (bw (a2 (pv 4) (ke rfl c.STILL))) (bw b0) ⟨rfl,rfl,rfl,rfl⟩)) (gn 5 S) (af (bF (fx (gF hu (pv 5) (pv 2))) (ab (gw hu (pv 2) (pv 5) cL rfl) (af (bA (g7 eK gR gQ cE (pv 3) (a1 (pv 5)))))) aK)))))) (af (au (pv 2))))))) (by walk_at "b")
theorem lQ:e_ P w K mg:=fun base=>dG X G T.f_first_led_round (fun S _ _ _ _ _ _ _ _ _ hr hu h=>bK (lS h) (ab (bO bD rfl (m_ rfl z.enumerate (a1 (pv 0))) (dO rfl (aB (gn 2 S) (aB (gn 3 S) cG))) (af (bF (fx (oB hu (pv 3) (jv hu (pv 1) (pv 3) (fun _ _=>rfl)))) (af (au (pv 2))) aK))) (af (au xK)))) (by walk_at "b")
theorem uz:iw P w K mg:=fun base=>dG X G T.f_need_none (fun S _ _ _ _ _ _ _ _ _ hr hu h=>bK (uL (K:=K) h) (af (bF (fx (C0 (pv 1))) (af (v9)) aK))) (by walk_at "b")
theorem sk(D_first_wrong_name:eB P w K mg)(D_door_signs:jL P w K mg)(D_first_wrong_door:eC P w K mg)(D_need_none:iw P w K mg):jG P w K mg:=fun base=>dG X G T.f_need_parts (fun S _ _ _ _ _ _ _ _ _ hr hu h=>bK (sA (K:=K) h) (ab (bA (qf hr (D_need_none base) (a2 bY (qf hr (D_first_wrong_name base) (a3 (pv 0) (ke rfl c.MOST_WORDS) (bm b0)))))) (ab (bA (qf hr (D_need_none base) (a2 bY (qf hr (D_first_wrong_name base) (a3 (pv 1) (ke rfl c.MOST_WORDS) (pv 0)))))) (ab (bA (qf hr (D_need_none base) (a2 bY (qf hr (D_first_wrong_name base) (a3 (pv 2) (ke rfl c.MOST_ROOMS) (bm b0)))))) (af (bA (qf hr (D_need_none base) (a2 bY (qf hr (D_first_wrong_door base) (a3 (pv 3) (pv 2) (qf hr (D_door_signs base) (a2 (pv 0) (pv 1))))))))))))) (by walk_at "b")
theorem mP:fH P w K mg:=fun base=>dG X G T.f_doors_by_start (fun S _ _ _ _ _ _ _ _ _ hr hu h=>bK (m8 h) (ab (qs 2 S nc) (ab (bO bD rfl (aZ (pv 0)) (gn 3 S) (af (gw hu (pv 2) (pv 3) (bm b0) rfl))) (ab (bO bD rfl (aZ (pv 1)) (gn 4 S) (af (bA (g7 eK gR gQ cE (jv hu (pv 2) (xq (pv 4) ah) (fun _ _=>rfl)) (a1 (pv 4)))))) (af (au (pv 2))))))) (by walk_at "b")
theorem mO:fG P w K mg:=fun base=>dG X G T.f_has_asks_alone (fun S _ _ _ _ _ _ _ _ _ hr hu h=>bK (mZ h) (af (au (qB (ph rfl) z.all boot_all (a1 (qc (aZ (pv 0)) (ba (by decide)) fun _ _ _ _ _ _=>⟨gc 0,cU,DF tq (xq (xq (pv 0) ah) ah) bY⟩)))))) (by walk_at "b")
theorem xj(D_as_keys:ja P w K mg)(D_goals_by_start_and_sign:cD P w K mg)(D_led_by_still:hV P w K mg)(D_first_led_round:e_ P w K mg)(D_need_none:iw P w K mg)(D_need_parts:jG P w K mg)(D_doors_by_start:fH P w K mg)(D_has_asks_alone:fG P w K mg):oW P w K mg C:=fun base=>dN c.cm c.makes c.kc T.f_Machine___init__ (fun S _ _ _ _ _ _ _ _ _ hr hu h=>bK (CI c.mc h) (ab (bA (qf hr (D_need_parts base) (cy (pv 1) (a3 (pv 2) (pv 3) (pv 4))))) (ab (fy (pv 0) (qL rfl z.list (a1 (pv 1))) rfl) (ab (fy (pv 0) (qL rfl z.list (a1 (pv 2))) rfl) (ab (fy (pv 0) (qL rfl z.list (a1 (pv 3))) rfl) (ab (fy (pv 0) (qL rfl z.list (a1 (pv 4))) rfl) (ab (fy (pv 0) (qf hr (D_doors_by_start base) (a2 (pv 3) (pv 4))) rfl) (ab (fy (pv 0) (qf hr (D_as_keys base) (a1 (qc (aZ (pv 3)) (ba (by decide)) fun _ _ _ _ _ _=>⟨gc 0,gy (eQ (qf hr (D_has_asks_alone base) (a1 (jv hu (bZ (pv 1) rfl) (pv 0) (fun _ _=>rfl))))),pv 0⟩))) rfl) (ab (fy (pv 0) (qf hr (D_goals_by_start_and_sign base) (a1 (pv 4))) rfl) (ab (fy (pv 0) (gE (ve rfl) rfl z.dict yi (a1 (qc (aZ (pv 3)) (ba (by decide)) fun _ _ _ _ _ _=>⟨gc 0,cU,bw (a2 (pv 0) (qf hr (D_led_by_still base) (a2 (bZ (pv 1) rfl) (pv 0))))⟩))) rfl) (af (bA (qf hr (D_need_none base) (a2 bY (qf hr (D_first_led_round base) (a2 (pv 3) (bZ (pv 0) rfl))))))))))))))))) (by walk_at "b")
theorem qY(D_Machine:oW P w K mg C):lp P w K mg C:=fun base=>dG X G T.f_law_machine (fun S _ _ _ _ _ _ _ _ _ hr hu h=>bK (xz h) (af (au (Bs (D_Machine base) (hr.mono (by decide)) rfl (cy (qL rfl z.list (a1 (xq (pv 0) ah))) (a3 (qL rfl z.list (a1 (xq (pv 0) ah))) (qL rfl z.list (a1 (xq (pv 0) ah))) (qL rfl z.list (a1 (xq (pv 0) ah))))))))) (by walk_at "b")
theorem oq:eA P w K mg C:=fun base=>dM c.mc.cls T.f_Machine_rooms (fun S _ _ _ _ _ _ _ _ _ hr hu h=>bK (Bg c.mc h) (af (au (qL rfl z.list (a1 (bZ (pv 0) rfl)))))) (by walk_at "b")
theorem kQ:eD P w K mg C:=fun base=>dM c.mc.cls T.f_Machine_led_from (fun S _ _ _ _ _ _ _ _ _ hr hu h=>bK (v5 c.mc h) (af (au (qL rfl z.list (a1 (rq hu (bZ (pv 0) rfl) (pv 1) (bw b0) ⟨rfl,rfl,rfl,rfl⟩)))))) (by walk_at "b")
theorem sj(M_Machine_rooms:eA P w K mg C)(M_Machine_led_from:eD P w K mg C):gD P w K mg C:=fun base=>dG X G T.f_with_still (fun S _ _ _ _ _ _ _ _ _ hr hu h=>bK (sy h) (ab (qs 2 S nc) (ab (bO bD rfl (aZ (pv 1)) (gn 3 S) (af (bF (fx (gF hu (pv 3) (pv 2))) (ab (gw hu (pv 2) (pv 3) cL rfl) (af (bO bD rfl (aZ (qm hr (M_Machine_led_from base) (pv 0) (a1 (pv 3)))) (gn 4 S) (af (gw hu (pv 2) (pv 4) cL rfl))))) aK))) (af (au (gE fL rfl z.tuple fR (a1 (qc (aZ (Fv hr (M_Machine_rooms base) (pv 0))) (ba (by decide)) fun _ _ _ _ _ _=>⟨gc 0,gy (fx (oB hu (pv 0) (pv 1))),pv 0⟩)))))))) (by walk_at "b")
theorem ow:gj P w K mg C:=fun base=>dM c.mc.cls T.f_Machine_goals (fun S _ _ _ _ _ _ _ _ _ hr hu h=>bK (Ae c.mc h) (af (au (qL rfl z.list (a1 (rq hu (bZ (pv 0) rfl) (bw (a2 (pv 1) (pv 2))) (bw b0) ⟨rfl,rfl,rfl,rfl⟩)))))) (by walk_at "b")
theorem kR:eE P w K mg C:=fun base=>dM c.mc.cls T.f_Machine_is_quiet (fun S _ _ _ _ _ _ _ _ _ hr hu h=>bK (v6 c.mc h) (af (au (Bu (oB hu (pv 1) (bZ (pv 0) rfl)))))) (by walk_at "b")
theorem pE:eZ P w K mg:=fun base=>dG X G T.f_law_still_on (fun S _ _ _ _ _ _ _ _ _ hr hu h=>bK (v4 h) (ab (qs 2 S (qL rfl z.list (a1 (pv 1)))) (ab (qs 3 S ah) (ab (rj bD (jk zb (pv 3) (ql z.len (a1 (pv 2)))) (ab (bO bD rfl (aZ (pv 0)) (dO rfl (aB (gn 4 S) (aB (gn 5 S) (aB (gn 6 S) cG)))) (af (bF (PW.pt (ka (jk (jw hu) (pv 4) (xq (pv 2) (pv 3))) (ka (jk (jw hu) (pv 5) (bw (a1 bY))) (jt (DU (i3 hu) (pv 6) (pv 2)))))) (af (bA (g7 eK gR gQ cE (pv 2) (a1 (pv 6))))) aK))) (af (qs 3 S (aO dh (pv 3) ah))))) (af (au (pv 2))))))) (by walk_at "b")
theorem qX(D_law_anew:jJ P w K mg)(D_law_take:fE P w K mg)(D_law_put:kO P w K mg)(D_law_still_on:eZ P w K mg):lm P w K mg:=fun base=>dG X G T.f_law_stiller (fun S _ _ _ _ _ _ _ _ _ hr hu h=>bK (xw h) (ab (bA (qf hr (D_law_anew base) (a1 (pv 0)))) (ab (lT (pv 1) (dO rfl (aB (gn 2 S) (aB (gn 3 S) (aB (gn 4 S) (aB (gn 5 S) cG)))))) (ab (qs 5 S (qL rfl z.list (a1 (pv 5)))) (ab (bO bD rfl (iY rfl z.range (a1 (qf hr (D_law_take base) (a2 (pv 0) ah)))) (gn 6 S) (ab (qs 7 S (xl (pv 4) (qf hr (D_law_take base) (a2 (pv 0) (ql z.len (a1 (pv 4))))))) (ab (qs 8 S (xl (pv 4) (qf hr (D_law_take base) (a2 (pv 0) (ql z.len (a1 (pv 4))))))) (af (bF (DU (i3 hu) (pv 7) (qf hr (D_law_still_on base) (a2 (pv 5) (bm (a1 (pv 8)))))) (af (bA (qf hr (D_law_put base) (a2 (pv 5) (bw (a3 (pv 7) (bw (a1 bY)) (pv 8))))))) aK))))) (af (au (bw (cy (pv 2) (a3 (pv 3) (pv 4) (pv 5))))))))))) (by walk_at "b")
theorem z_(D_law_still_on:eZ P w K mg):nP P w K mg:=fun base=>dG X G T.f_law_on (fun S _ _ _ _ _ _ _ _ _ hr hu h=>bK (EL h) (ab (qs 2 S (qf hr (D_law_still_on base) (a2 (xq (pv 0) ah) (pv 1)))) (af (au (gE fL rfl z.tuple fR (a1 (qc (aZ (xq (pv 0) ah)) (ba (by decide)) fun _ _ _ _ _ _=>⟨gc 0,gy (DU (Bx hu) (pv 0) (pv 1)),pv 0⟩))))))) (by walk_at "b")
theorem pF:hW P w K mg:=fun base=>dG X G T.f_law_is_quiet (fun S _ _ _ _ _ _ _ _ _ hr hu h=>bK (Af h) (af (au (DF (jw hu) (qc (aZ (xq (pv 0) ah)) (ba (by decide)) fun _ _ _ _ _ _=>⟨gc 0,gy (PW.pt (ka (jk (jw hu) (xq (pv 0) ah) (pv 1)) (jt (jk tp (xq (xq (pv 0) ah) ah) bY)))),pv 0⟩) (bm b0))))) (by walk_at "b")
theorem sn(D_law_on:nP P w K mg)(D_law_is_quiet:hW P w K mg):jI P w K mg:=fun base=>dG X G T.f_law_behind (fun S _ _ _ _ _ _ _ _ _ hr hu h=>bK (CK h) (ab (bF (jk (jw hu) (pv 2) (bw (a1 bY))) (af (au (gE fL rfl z.tuple fR (a1 (qc (xH (pv 1)) (ba (by decide)) fun _ _ _ _ _ _=>⟨gc 0,gy (eQ (qf hr (D_law_is_quiet base) (a2 (pv 1) (pv 0)))),pv 0⟩))))) aK) (af (au (qf hr (D_law_on base) (a2 (pv 0) (qc (aZ (xq (pv 0) ah)) (ba (by decide)) fun _ _ _ _ _ _=>⟨gc 0,gy (PW.pt (ka (DU (Bx hu) (xq (pv 0) ah) (pv 1)) (jt (jk (jw hu) (xq (pv 0) ah) (pv 2))))),xq (pv 0) ah⟩))))))) (by walk_at "b")
theorem uA:fV P w K mg:=fun base=>dG X G T.f_law_signs (fun S _ _ _ _ _ _ _ _ _ hr hu h=>bK (Bd h) (af (au (aO iF (aO iF (qc (aZ (xq (pv 0) ah)) (ba (by decide)) fun _ _ _ _ _ _=>⟨gc 0,cU,bw (a2 bY (pv 0))⟩) (qc (aZ (xq (pv 0) ah)) (ba (by decide)) fun _ _ _ _ _ _=>⟨gc 0,cU,bw (a2 bY (pv 0))⟩)) (bm (a1 (bw (a1 bY)))))))) (by walk_at "b")
theorem vT:r8 P w K mg:=fun base=>by
  have E0:iJ P w K mg base "_law_same" ["found","due"] 0 EJ:=by
   obtain⟨f,a,t⟩:=T.f_law_same;obtain⟨fd,F⟩:=t.fun_;exact⟨f,fd,EW,fk X G a,F.kp,F.binds (ps:=["found","due"]) (by walk_at "b")⟩
  have st:∀(j:Nat) (sp:Sp),j<=8->(∀m,j=m+1->sp=(kB K m))->iJ P w K mg base "_law_same" ["found","due"] j sp->iJ P w K mg base "_law_same" ["found","due"] (j+1) (kB K j):=fun j sp hj hsp Ds=>dG X G T.f_law_same (fun S _ _ _ _ _ _ _ _ _ hr hu h=>bK (Be hj hsp h) (ab (bF (fx (Bv (pv 1))) (af (au (Bu (Bv (pv 0))))) aK) (ab (bF (jk uP (pv 1) cL) (af (au (DF uP (pv 0) cL))) aK) (ab (bF (jk uP (pv 1) cL) (af (au (DF uP (pv 0) cL))) aK) (ab (bF (eQ (qB cY z.isinstance cZ (a2 (pv 1) (tm rfl z.int)))) (af (au (rA (qB cY z.isinstance cZ (a2 (pv 0) (tm rfl z.int))) (rA (Ed (qB cY z.isinstance cZ (a2 (pv 0) (xI rfl z.bool)))) (xJ (DF (jw hu) (pv 0) (pv 1))))))) aK) (ab (bF (eQ (qB cY z.isinstance cZ (a2 (pv 1) (tj rfl z.str)))) (af (au (rA (qB cY z.isinstance cZ (a2 (pv 0) (tj rfl z.str))) (xJ (DF (jw hu) (pv 0) (pv 1)))))) aK) (ab (bF (PW.pt (jP (jk tp (qB cY z.isinstance cZ (a2 (pv 1) (im rfl z.tuple))) (qB cY z.isinstance cZ (a2 (pv 0) (im rfl z.tuple)))) (iD (jk tp (qB cY z.isinstance cZ (a2 (pv 1) (ju rfl z.list))) (qB cY z.isinstance cZ (a2 (pv 0) (ju rfl z.list))))))) (af (au cL)) aK) (ab (bF (jk tp (ql z.len (a1 (pv 0))) (ql z.len (a1 (pv 1)))) (af (au cL)) aK) (ab (bO bD rfl (CS rfl z.zip (a2 (pv 0) (pv 1))) (dO rfl (aB (gn 2 S) (aB (gn 3 S) cG))) (af (bF (iE (eQ (Dy Ds hr rfl (a2 (pv 2) (pv 3))))) (af (au cL)) aK))) (af (au cL))))))))))) (by walk_at "b") (l:=fun vs H Q E h=>by rcases h with h|h;(obtain⟨_,_,_,_,rfl,_⟩:=h;rfl);(obtain⟨_,_,h,_⟩:=h;subst h;rfl));have E1:=st 0 _ (by decide) (fun m e=>by cases e) E0;have E2:=st 1 _ (by decide) (fun m e=>by cases e;rfl) E1;have E3:=st 2 _ (by decide) (fun m e=>by cases e;rfl) E2;have E4:=st 3 _ (by decide) (fun m e=>by cases e;rfl) E3;have E5:=st 4 _ (by decide) (fun m e=>by cases e;rfl) E4;exact E5
theorem xg(D_law_signs:fV P w K mg):oT P w K mg:=fun base=>dG X G T.f_law_key (fun S _ _ _ _ _ _ _ _ _ hr hu h=>bK (DY h) (ab (qs 2 S (qf hr (D_law_signs base) (a1 (pv 0)))) (af (au (aO iF (bm (a1 (ql z.len (a1 (pv 1))))) (qc (aZ (pv 1)) (ba (by decide)) fun _ _ _ _ _ _=>⟨gc 0,cU,g7 eK PySem.F.slot_list_index PySem.F.type_list_index (Ao hu) (pv 1) (a1 (pv 0))⟩)))))) (by walk_at "b")
theorem pC:h9 P w K mg C:=fun base=>dM c.mc.cls T.f_Machine_asks (fun S _ _ _ _ _ _ _ _ _ hr hu h=>bK (CL c.mc h) (af (au (qL rfl z.list (a1 (bZ (pv 0) rfl)))))) (by walk_at "b")
theorem pB:hZ P w K mg C:=fun base=>dM c.mc.cls T.f_Machine_says (fun S _ _ _ _ _ _ _ _ _ hr hu h=>bK (CG c.mc h) (af (au (qL rfl z.list (a1 (bZ (pv 0) rfl)))))) (by walk_at "b")
theorem so(M_Machine_rooms:eA P w K mg C)(D_with_still:gD P w K mg C):jK P w K mg C:=fun base=>dG X G T.f_first_face (fun S _ _ _ _ _ _ _ _ _ hr hu h=>bK (sB h) (af (au (qf hr (D_with_still base) (a2 (pv 0) (cV fJ (Fv hr (M_Machine_rooms base) (pv 0)) eR (dg ah))))))) (by walk_at "b")
theorem qZ(D_with_still:gD P w K mg C)(M_Machine_goals:gj P w K mg C)(M_Machine_is_quiet:eE P w K mg C):iK P w K mg C:=fun base=>dG X G T.f_face_behind (fun S _ _ _ _ _ _ _ _ _ hr hu h=>bK (CJ c.hush h) (ab (bF (jk (jw hu) (pv 2) (ke rfl c.HUSH)) (af (au (gE fL rfl z.tuple fR (a1 (qc (xH (pv 1)) (ba (by decide)) fun _ _ _ _ _ _=>⟨gc 0,gy (eQ (qm hr (M_Machine_is_quiet base) (pv 1) (a1 (pv 0)))),pv 0⟩))))) aK) (ab (qs 3 S (bm b0)) (ab (bO bD rfl (xH (pv 1)) (gn 4 S) (af (bA (g7 eK PySem.F.slot_list_extend PySem.F.type_list_extend Ap (pv 3) (a1 (qm hr (M_Machine_goals base) (pv 0) (a2 (pv 4) (pv 2)))))))) (af (au (qf hr (D_with_still base) (a2 (pv 0) (pv 3))))))))) (by walk_at "b")
theorem mL(M_Machine_asks:h9 P w K mg C)(M_Machine_says:hZ P w K mg C):fD P w K mg C a_HUSH:=fun base=>dG X G T.f_signs_in_order (fun S _ _ _ _ _ _ _ _ _ hr hu h=>bK (DW h) (af (au (aO iF (aO iF (qc (aZ (Fv hr (M_Machine_asks base) (pv 0))) (ba (by decide)) fun _ _ _ _ _ _=>⟨gc 0,cU,bw (a2 bY (pv 0))⟩) (qc (aZ (Fv hr (M_Machine_says base) (pv 0))) (ba (by decide)) fun _ _ _ _ _ _=>⟨gc 0,cU,bw (a2 bY (pv 0))⟩)) (bm (a1 (ke rfl c.HUSH))))))) (by walk_at "b")
theorem vR(D_face_behind:iK P w K mg C)(D_signs_in_order:fD P w K mg C a_HUSH):mw P w K mg C:=fun base=>dG X G T.f_steps_at (fun S _ _ _ _ _ _ _ _ _ hr hu h=>bK (xx c.hush h) (ab (qs 2 S iZ) (ab (bO bD rfl (aZ (qf hr (D_signs_in_order base) (a1 (pv 0)))) (gn 3 S) (ab (qs 4 S (qf hr (D_face_behind base) (a3 (pv 0) (pv 1) (pv 3)))) (af (bF (jk By (ql z.len (a1 (pv 4))) ah) (af (v_ hu (pv 2) (pv 3) (pv 4) rfl)) aK)))) (af (au (pv 2)))))) (by walk_at "b")
theorem j7:cO P w K mg Cf:=fun base=>dM c.fc.cls T.f_FaceMap_number_at (fun S _ _ _ _ _ _ _ _ _ hr hu h=>bK (Ad c.fc h) (ab (bF (fx (gF hu (pv 1) (bZ (pv 0) rfl))) (ab (bF (jk tq (ql z.len (a1 (bZ (pv 0) rfl))) (ke rfl c.MOST_FACES)) (af (v9)) aK) (ab (gw hu (bZ (pv 0) rfl) (pv 1) (ql z.len (a1 (bZ (pv 0) rfl))) rfl) (ab (bA (g7 eK gR gQ cE (bZ (pv 0) rfl) (a1 (pv 1)))) (af (bA (g7 eK gR gQ cE (bZ (pv 0) rfl) (a1 (pv 2)))))))) aK) (af (au (jv hu (bZ (pv 0) rfl) (pv 1) (fun _ _=>rfl)))))) (by walk_at "b")
theorem ia(D_steps_at:mw P w K mg C)(M_FaceMap_number_at:cO P w K mg Cf):cI P w K mg C Cf:=fun base=>dM c.fc.cls T.f_FaceMap_numbered_steps (fun S _ _ _ _ _ _ _ _ _ hr hu h=>bK (uK c.fc h) (ab (qs 2 S iZ) (ab (bO bD rfl (Aj (qf hr (D_steps_at base) (a2 (bZ (pv 0) rfl) (xl (bZ (pv 0) rfl) (pv 1))))) (dO rfl (aB (gn 3 S) (aB (gn 4 S) cG))) (af (v_ hu (pv 2) (pv 3) (qm hr (M_FaceMap_number_at base) (pv 0) (a2 (pv 4) (aO iF (xl (bZ (pv 0) rfl) (pv 1)) (bm (a1 (pv 3)))))) rfl))) (af (au (pv 2)))))) (by walk_at "b")
theorem xk(D_first_face:jK P w K mg C)(M_FaceMap_number_at:cO P w K mg Cf)(M_FaceMap_numbered_steps:cI P w K mg C Cf):oX P w K mg C Cf:=fun base=>dN c.cmfc c.makesfc c.kcfc T.f_FaceMap___init__ (fun S _ _ _ _ _ _ _ _ _ hr hu h=>bK (xB c.fc h) (ab (fy (pv 0) (pv 1) rfl) (ab (fy (pv 0) (bm b0) rfl) (ab (fy (pv 0) (bm b0) rfl) (ab (fy (pv 0) iZ rfl) (ab (fy (pv 0) (bm b0) rfl) (ab (bA (qm hr (M_FaceMap_number_at base) (pv 0) (a2 (qf hr (D_first_face base) (a1 (pv 1))) (bm b0)))) (af (rj bD (jk zb (ql z.len (a1 (bZ (pv 0) rfl))) (ql z.len (a1 (bZ (pv 0) rfl)))) (af (bA (g7 eK gR gQ cE (bZ (pv 0) rfl) (a1 (qm hr (M_FaceMap_numbered_steps base) (pv 0) (a1 (ql z.len (a1 (bZ (pv 0) rfl)))))))))))))))))) (by walk_at "b")
theorem vW(D_FaceMap:oX P w K mg C Cf):r_ P w K mg C:=fun base=>dG X G T.f_faces_of (fun S _ _ _ _ _ _ _ _ _ hr hu h=>bK (xC c.fc h) (ab (qs 1 S (Bs (D_FaceMap base) (hr.mono (by decide)) rfl (a1 (pv 0)))) (af (au (xL rfl rfl z.list rfl z.zip (a2 (bZ (pv 1) rfl) (bZ (pv 1) rfl))))))) (by walk_at "b")
theorem ox(D_law_signs:fV P w K mg):jR P w K mg:=fun base=>dG X G T.f_law_is_listed (fun S _ _ _ _ _ _ _ _ _ hr hu h=>bK (Ag h) (ab (bF (PW.pt (jP (iE (eQ (qB cY z.isinstance cZ (a2 (pv 1) (ju rfl z.list))))) (iD (jk (xN hu) (pv 1) (bm b0))))) (af (au cL)) aK) (ab (bO bD rfl (aZ (pv 1)) (gn 2 S) (ab (bF (PW.pt (jP (iE (eQ (qB cY z.isinstance cZ (a2 (pv 2) (im rfl z.tuple))))) (iD (jk tp (ql z.len (a1 (pv 2))) ah)))) (af (au cL)) aK) (ab (bF (PW.pt (jP (iE (eQ (qB cY z.isinstance cZ (a2 (xt (pv 2) ah) (im rfl z.tuple))))) (iD (iE (eQ (qB cY z.isinstance cZ (a2 (xt (pv 2) ah) (ju rfl z.list)))))))) (af (au cL)) aK) (af (bF (jk (lU hu) (qc (aZ (xt (pv 2) ah)) (ba (by decide)) fun _ _ _ _ _ _=>⟨gc 0,gy (DU (i3 hu) (pv 0) (qf hr (D_law_signs base) (a1 (pv 1)))),pv 0⟩) (bm b0)) (af (au cL)) aK))))) (af (au cL))))) (by walk_at "b")
theorem mM(D_law_on:nP P w K mg)(D_law_behind:jI P w K mg)(D_law_signs:fV P w K mg)(D_law_key:oT P w K mg):i_ P w K mg:=fun base=>dG X G T.f_law_is_reached (fun S _ _ _ _ _ _ _ _ _ hr hu h=>bK (xy h) (ab (qs 2 S iZ) (ab (bO bD rfl (aZ (pv 1)) (dO rfl (aB (gn 3 S) (aB (gn 4 S) cG))) (ab (bF (fx (oB hu (pv 3) (pv 2))) (af (au cL)) aK) (af (gw hu (pv 2) (pv 3) (qf hr (D_law_key base) (a2 (pv 0) (pv 4))) rfl)))) (ab (bF (PW.pt (jP (jk (lU hu) (xt (xl (pv 1) ah) ah) (qf hr (D_law_on base) (a2 (pv 0) (cV fJ (xt (pv 0) ah) eR (dg ah))))) (iD (jk (lU hu) (xt (xl (pv 1) ah) ah) (bm b0))))) (af (au cL)) aK) (ab (bO bD rfl (Ai rfl z.range (a2 ah (ql z.len (a1 (pv 1))))) (gn 5 S) (ab (lT (xl (pv 1) (pv 5)) (dO rfl (aB (gn 3 S) (aB (gn 4 S) cG)))) (ab (qsc 6 S (aZ (cV fJ (pv 1) eR (dg (pv 5)))) (uO (gG (ba (by decide)) dS (gG (ba (by decide)) dS (rB) (gH)) (lV dS (gH)))) fun _ _ _ _ _ _=>⟨dO rfl (aB (gc 0) (aB (gc 1) cG)),gy (PW.pt (ka (jk (lU hu) (pv 2) (bm b0)) (jt (jk (xN hu) (pv 1) (cV fJ (pv 2) eR (dg (Dx A6 ah))))))),pv 0⟩) (ab (bF (PW.pt (jP (jk (xN hu) (pv 6) (bm b0)) (iD (jk (lU hu) (qf hr (D_law_behind base) (a3 (pv 0) (xl (pv 6) ah) (xl (pv 4) (Dx A6 ah)))) (pv 3))))) (af (au cL)) aK) (af (bF (iE (jk (Ei hu) (jv hu (pv 2) (xt (xl (pv 1) (aO Eg (pv 5) ah)) ah) (fun _ _=>rfl)) (jv hu (pv 2) (pv 3) (fun _ _=>rfl)))) (af (au cL)) aK)))))) (ab (bO bD rfl (aZ (pv 1)) (dO rfl (aB (gn 3 S) (aB (gn 4 S) cG))) (af (bO bD rfl (aZ (qf hr (D_law_signs base) (a1 (pv 0)))) (gn 7 S) (ab (qs 8 S (qf hr (D_law_behind base) (a3 (pv 0) (pv 3) (pv 7)))) (ab (bF (PW.pt (ka (jk (lU hu) (pv 8) (bw b0)) (jt (fx (gF hu (pv 8) (pv 2)))))) (af (au cL)) aK) (af (bF (PW.pt (ka (jk (lU hu) (pv 8) (bw b0)) (jt (jk (Ej hu) (jv hu (pv 2) (pv 8) (fun _ _=>rfl)) (qf hr (D_law_key base) (a2 (pv 0) (aO iF (pv 4) (bm (a1 (pv 7)))))))))) (af (au cL)) aK))))))) (af (au cL)))))))) (by walk_at "b")
end
theorem El(X:K.In h)(G:h.Ns bL mg)(z:Zs mg)(c:Cs K mg C Cf a_STILL a_HUSH)(T:Ts K C Cf):∃f fd,mg "law"=some (.ref f)/\(∀(s:Shared) (v:Value),p_ s fd ⟨[v],[]⟩ [("script",v)])/\∀base:Heap,ky P w K mg base CX0 9 f fd ["script"] (sp_law14 K):=by
 have D_law_spread:jH P w K mg:=sm X G z c T;have D_law_open:r9 P w K mg:=vU X G z c T;have D_law_anew:jJ P w K mg:=vV X G z c T;have D_law_take:fE P w K mg:=vS X G z c T D_law_spread;have D_law_names:kz P w K mg:=uB X G z c T D_law_take;have D_law_put:kO P w K mg:=xf X G z c T;have D_law_draw_doors:fF P w K mg:=mN X G z c T D_law_take D_law_put;have D_law_model:pj P w K mg:=uC X G z c T D_law_anew D_law_take D_law_names D_law_draw_doors;have D_is_name:oU P w K mg:=xh X G z c T;have D_as_keys:ja P w K mg:=xi X G z c T;have D_first_wrong_name:eB P w K mg:=kS X G z c T D_is_name D_as_keys;have D_door_signs:jL P w K mg:=sr X G z c T;have D_first_wrong_door:eC P w K mg:=kT X G z c T D_as_keys;have D_goals_by_start_and_sign:cD P w K mg:=gZ X G z c T;have D_led_by_still:hV P w K mg:=pD X G z c T;have D_first_led_round:e_ P w K mg:=lQ X G z c T;have D_need_none:iw P w K mg:=uz X G z c T;have D_need_parts:jG P w K mg:=sk X G z c T D_first_wrong_name D_door_signs D_first_wrong_door D_need_none;have D_doors_by_start:fH P w K mg:=mP X G z c T;have D_has_asks_alone:fG P w K mg:=mO X G z c T;have D_Machine:oW P w K mg C:=xj X G z c T D_as_keys D_goals_by_start_and_sign D_led_by_still D_first_led_round D_need_none D_need_parts D_doors_by_start D_has_asks_alone;have D_law_machine:lp P w K mg C:=qY X G z c T D_Machine;have M_Machine_rooms:eA P w K mg C:=oq X G z c T;have M_Machine_led_from:eD P w K mg C:=kQ X G z c T;have D_with_still:gD P w K mg C:=sj X G z c T M_Machine_rooms M_Machine_led_from
 have M_Machine_goals:gj P w K mg C:=ow X G z c T;have M_Machine_is_quiet:eE P w K mg C:=kR X G z c T;have D_law_still_on:eZ P w K mg:=pE X G z c T;have D_law_stiller:lm P w K mg:=qX X G z c T D_law_anew D_law_take D_law_put D_law_still_on;have D_law_on:nP P w K mg:=z_ X G z c T D_law_still_on;have D_law_is_quiet:hW P w K mg:=pF X G z c T;have D_law_behind:jI P w K mg:=sn X G z c T D_law_on D_law_is_quiet;have D_law_signs:fV P w K mg:=uA X G z c T;have D_law_same:r8 P w K mg:=vT X G z c T;have D_law_key:oT P w K mg:=xg X G z c T D_law_signs;have M_Machine_asks:h9 P w K mg C:=pC X G z c T;have M_Machine_says:hZ P w K mg C:=pB X G z c T;have D_first_face:jK P w K mg C:=so X G z c T M_Machine_rooms D_with_still;have D_face_behind:iK P w K mg C:=qZ X G z c T D_with_still M_Machine_goals M_Machine_is_quiet;have D_signs_in_order:fD P w K mg C a_HUSH:=mL X G z c T M_Machine_asks M_Machine_says;have D_steps_at:mw P w K mg C:=vR X G z c T D_face_behind D_signs_in_order;have M_FaceMap_number_at:cO P w K mg Cf:=j7 X G z c T;have M_FaceMap_numbered_steps:cI P w K mg C Cf:=ia X G z c T D_steps_at M_FaceMap_number_at;have D_FaceMap:oX P w K mg C Cf:=xk X G z c T D_first_face M_FaceMap_number_at M_FaceMap_numbered_steps;have D_faces_of:r_ P w K mg C:=vW X G z c T D_FaceMap;have D_law_is_listed:jR P w K mg:=ox X G z c T D_law_signs;have D_law_is_reached:i_ P w K mg:=mM X G z c T D_law_on D_law_behind D_law_signs D_law_key;obtain⟨f,a,t⟩:=T.f_law14;obtain⟨oc,od,an,sl,kV,dc,pm,cd,ct,l,c1,k1⟩:=t;have F:=BQ (st:=(top 56)) l c1 k1;have sc:jF zT Br (bG (top 56)):=by walk_at "s"
 have S:=sc.nd;exact⟨f,_,fk X G a,fun s v=>.of_eq rfl,fun base=>F.ok (k:=8) sc (by walk_at "l") (fun _ _ _ _ _ _ _ _ hr h=>by have hu:=zv hr;exact bK (Bj (C:=C) h) (ab (qs 1 S (qf hr (D_law_open base) (a1 (pv 0)))) (ab (qs 2 S (qf hr (D_law_stiller base) (a2 (pv 1) (qf hr (D_law_model base) (a3 (pv 1) ah ah))))) (ab (qs 3 S (qf hr (D_law_machine base) (a1 (pv 2)))) (ab (qs 4 S (qf hr (D_faces_of base) (a1 (pv 3)))) (ab (bF (PW.pt (jP (iE (eQ (qf hr (D_law_is_listed base) (a2 (pv 2) (pv 4))))) (iD (iE (eQ (qf hr (D_law_is_reached base) (a2 (pv 2) (pv 4)))))))) (af (au cL)) aK) (ab (qsc 5 S (aZ (pv 4)) (uO (gG (ba (by decide)) dS (gG (ba (by decide)) dS (rB) (gH)) (lV dS (gH)))) fun _ _ _ _ _ _=>⟨dO rfl (aB (gc 0) (aB (gc 1) cG)),cU,bw (a2 (pv 0) (qL rfl z.list (a1 (pv 1))))⟩) (ab (bO bD rfl (aZ (pv 4)) (dO rfl (aB (gn 6 S) (aB (gn 7 S) cG))) (af (bA (g7 eK gR gQ cE (pv 7) (a1 (bw (a1 bY))))))) (ab (bF (iE (eQ (qf hr (D_law_same base) (a2 (pv 4) (qc (aZ (pv 5)) (uO (gG (ba (by decide)) dS (gG (ba (by decide)) dS (rB) (gH)) (lV dS (gH)))) fun _ _ _ _ _ _=>⟨dO rfl (aB (gc 0) (aB (gc 1) cG)),cU,bw (a2 (pv 0) (aO iF (pv 1) (bm (a1 (bw (a1 bY))))))⟩))))) (af (au cL)) aK) (ab (bA (g7 eK gR gQ cE (pv 4) (a1 (xl (pv 5) ah)))) (af (au (qf hr (D_law_same base) (a2 (qf hr (D_faces_of base) (a1 (pv 3))) (pv 5)))))))))))))))⟩
theorem all_mk{l:PySem.W.OpenLaw}{fa:Addr}{u_LETTERS:Value}{u_LONGEST_NAME:Value}{u_MOST_WORDS:Value}{u_MOST_ROOMS:Value}{u_MOST_DOORS:Value}{u_MOST_FACES:Value}{o_STILL:Obj}{i_STILL:Array Value}{n_STILL:Nat}{o_HUSH:Obj}{i_HUSH:Array Value}{n_HUSH:Nat}(X:K.In h)(G:h.Ns bL mg)(hfa:mg "law"=some (.ref fa))
  (aC:cb K bL "Machine"=some (some (.ref C)))
  (pg:sP K C Str.empty=true)
  (hd:vC K C=true)
  (po:yH K C=true)
  (sa:cP K (.ref C) "__setattr__"=some (some (.builtin "object.__setattr__")))
  (mk:qb K C=true)
  (kc:gP K (.ref C)=true)
  (na1:cP K (.ref C) "own_asks"=some none)
  (na2:cP K (.ref C) "own_says"=some none)
  (na3:cP K (.ref C) "own_rooms"=some none)
  (na4:cP K (.ref C) "own_doors"=some none)
  (na5:cP K (.ref C) "leaving"=some none)
  (na6:cP K (.ref C) "quiet"=some none)
  (na7:cP K (.ref C) "sign_goals"=some none)
  (na8:cP K (.ref C) "still_led"=some none)
  (afc:cb K bL "FaceMap"=some (some (.ref Cf)))
  (pgfc:sP K Cf Str.empty=true)
  (hdfc:vC K Cf=true)
  (pofc:yH K Cf=true)
  (safc:cP K (.ref Cf) "__setattr__"=some (some (.builtin "object.__setattr__")))
  (mkfc:qb K Cf=true)
  (kcfc:gP K (.ref Cf)=true)
  (nfc1:cP K (.ref Cf) "machine"=some none)
  (nfc2:cP K (.ref Cf) "faces"=some none)
  (nfc3:cP K (.ref Cf) "first_stories"=some none)
  (nfc4:cP K (.ref Cf) "numbers"=some none)
  (nfc5:cP K (.ref Cf) "steps"=some none)
  (z_all:cb K bL "all"=some none)
  (z_bool:cb K bL "bool"=some none)
  (z_dict:cb K bL "dict"=some none)
  (z_enumerate:cb K bL "enumerate"=some none)
  (z_int:cb K bL "int"=some none)
  (z_isinstance:cb K bL "isinstance"=some none)
  (z_len:cb K bL "len"=some none)
  (z_list:cb K bL "list"=some none)
  (z_range:cb K bL "range"=some none)
  (z_str:cb K bL "str"=some none)
  (z_tuple:cb K bL "tuple"=some none)
  (z_zip:cb K bL "zip"=some none)
  (g_LETTERS:cb K bL "LETTERS"=some (some u_LETTERS))
  (r_LETTERS:RelV (.str "abcdefghijklmnopqrstuvwxyz") u_LETTERS)
  (g_LONGEST_NAME:cb K bL "LONGEST_NAME"=some (some u_LONGEST_NAME))
  (r_LONGEST_NAME:RelV (.int 8) u_LONGEST_NAME)
  (g_MOST_WORDS:cb K bL "MOST_WORDS"=some (some u_MOST_WORDS))
  (r_MOST_WORDS:RelV (.int 4) u_MOST_WORDS)
  (g_MOST_ROOMS:cb K bL "MOST_ROOMS"=some (some u_MOST_ROOMS))
  (r_MOST_ROOMS:RelV (.int 150) u_MOST_ROOMS)
  (g_MOST_DOORS:cb K bL "MOST_DOORS"=some (some u_MOST_DOORS))
  (r_MOST_DOORS:RelV (.int 2000) u_MOST_DOORS)
  (g_MOST_FACES:cb K bL "MOST_FACES"=some (some u_MOST_FACES))
  (r_MOST_FACES:RelV (.int 400) u_MOST_FACES)
  (g_STILL:cb K bL "STILL"=some (some (.ref a_STILL)))
  (l_STILL:K.lookup a_STILL=some o_STILL)
  (c_STILL:o_STILL.cls=.type "tuple")
  (d_STILL:o_STILL.data=.seq i_STILL n_STILL)
  (s_STILL:i_STILL.size<=aj)
  (v_STILL:aW (aF.map V.str) i_STILL.toList)
  (g_HUSH:cb K bL "HUSH"=some (some (.ref a_HUSH)))
  (l_HUSH:K.lookup a_HUSH=some o_HUSH)
  (c_HUSH:o_HUSH.cls=.type "tuple")
  (d_HUSH:o_HUSH.data=.seq i_HUSH n_HUSH)
  (s_HUSH:i_HUSH.size<=aj)
  (v_HUSH:aW (cg.map V.str) i_HUSH.toList)
  (T:Ts K C Cf)
 :∃fd:jM,(∀(s:Shared) (v:Value),p_ s fd ⟨[v],[]⟩ [("script",v)])/\∀base:Heap,K.In base->base.Ns bL mg->ky l.prog w K mg base CX0 9 fa fd ["script"] (sp_law14 K):=by
 have z:Zs mg:=⟨fX X G z_all,fX X G z_bool,fX X G z_dict,fX X G z_enumerate,fX X G z_int,fX X G z_isinstance,fX X G z_len,fX X G z_list,fX X G z_range,fX X G z_str,fX X G z_tuple,fX X G z_zip⟩;have c:Cs K mg C Cf a_STILL a_HUSH:=⟨⟨_,fk X G g_LETTERS,r_LETTERS⟩,⟨_,fk X G g_LONGEST_NAME,r_LONGEST_NAME⟩,⟨_,fk X G g_MOST_WORDS,r_MOST_WORDS⟩,⟨_,fk X G g_MOST_ROOMS,r_MOST_ROOMS⟩,⟨_,fk X G g_MOST_DOORS,r_MOST_DOORS⟩,⟨_,fk X G g_MOST_FACES,r_MOST_FACES⟩,⟨_,fk X G g_STILL,rfl⟩,⟨_,fk X G g_HUSH,rfl⟩,yS l_STILL c_STILL d_STILL s_STILL v_STILL,yS l_HUSH c_HUSH d_HUSH s_HUSH v_HUSH,⟨⟨pg,hd,po,sa⟩,na1,na2,na3,na4,na5,na6,na7,na8⟩,fk X G aC,mk,kc,⟨⟨pgfc,hdfc,pofc,safc⟩,nfc1,nfc2,nfc3,nfc4,nfc5⟩,fk X G afc,mkfc,kcfc⟩;obtain⟨f,fd,e,b,k⟩:=El (P:=l.prog) (w:=w) X G z c T;have e0:=hfa.symm.trans e;cases e0;exact⟨fd,b,fun base _ _=>k base⟩
end
end Mum
namespace PySem.W.Fast
def tw16706420442216181490:=0
def tw16480067164713426791:=0
def tw11447567617830484451:=0
def tw16167631560811313346:=0
def tw13152987783717232351:=0
def tw9383065475130435313:=0
def tw2734944534403608284:=0
def tw10316607522743344304:=0
def tw10181204171786212803:=0
def tw14720394333341528027:=0
def tw17324325457973285104:=0
def tw5008556612531375058:=0
def tw17886975357656121338:=0
def tw2315327227943573026:=0
def tw8717338404544190709:=0
def tw4495391045434373892:=0
def tw4460879351346706311:=0
def tw7708781383574562437:=0
def tw17102114101315548765:=0
def tw13476029876426416662:=0
def tw7153049721874261500:=0
def tw6409935497832905886:=0
def tw9236395144658005728:=0
def tw12396100544258405334:=0
def tw10553586204448484322:=0
def tw16205215211003256336:=0
def tw182488024993518428:=0
def tw17978914637230640187:=0
def tw15759084903483140834:=0
def tw13824551751119826563:=0
def tw3607302962918680837:=0
def tw15537198802031244946:=0
def tw5011989165195390725:=0
def tw13815515485405238087:=0
def tw2785968941786484682:=0
def tw9323003758904162022:=0
def tw107971934117807718:=0
def tw2845421481402333813:=0
def tw4951453490523607021:=0
def tw18163923810768289965:=0
def tw7229048337761029726:=0
def tw17157575474989317170:=0
def tw10742917980560935835:=0
def tw5881002032861214698:=0
def tw14434000993503350453:=0
def tw9846724753678025183:=0
def tw968553478405635801:=0
def tw917345367764131774:=0
def tw2759037276913952357:=0
def tw1525562643909018586:=0
def tw11252469024483670133:=0
def tw13881305488447674359:=0
def tw6002838424484216002:=0
def tw14427598427841986913:=0
def tw12777276976435104423:=0
def tw11112004876434768776:=0
def tw12235734959715896468:=0
def tw16244065507501104850:=0
def tw15031319294078740384:=0
def tw12258329041104864482:=0
def tw15623528403509195519:=0
def tw10140318942144315064:=0
def tw7288155121233257005:=0
def tw13430001196386956922:=0
def tw2436121338496344240:=0
def tw2738066073144287888:=0
def tw13993194275376311249:=0
def tw13719488102034393570:=0
def tw6555711588585986588:=0
def tw9973052919949255911:=0
def tw10580014171548884923:=0
def tw5337226145548689041:=0
def tw2553768804277807179:=0
def tw15826404983364602292:=0
def tw18219283022070039654:=0
def tw592552603642433623:=0
def tw9287077955891002485:=0
def tw15493478276393186085:=0
def tw7200350513316607626:=0
def tw17250276510298535466:=0
def tw3358636443960633136:=0
def tw2584078321598901681:=0
def tw6605428728735915743:=0
def tw3116924155818585676:=0
def tw5790413558616045266:=0
def tw6673100617775090118:=0
def tw5808786804860046505:=0
def tw12013643252937731033:=0
def tw14337071417276978576:=0
def tw3314433794415024779:=0
def tw12940398794125799704:=0
def tw9370143462328839880:=0
def tw4576794485529974229:=0
def tw12135325373513836585:=0
def tw1959081242413908315:=0
def tw2728647511467079193:=0
def tw3057681826011267217:=0
def tw13738480582865395314:=0
def tw10630278649428632218:=0
def tw3095355735617645611:=0
def tw1525002747641362374:=0
def tw14770444199921861376:=0
def tw935944893628787346:=0
def tw7676910429972020689:=0
def tw15783560637296240846:=0
def tw1288314948118779887:=0
def tw13537549369751123145:=0
def tw1271897955770421110:=0
def tw819152152559131600:=0
def tw3732406308473426679:=0
def tw9922860839768538559:=0
def tw3446935990292993408:=0
def tw7640589965015747560:=0
def tw9984560443456530810:=0
def tw14483526514350351772:=0
def tw17216116445455973935:=0
def tw11723648371366232120:=0
def tw13643799968068968497:=0
def tw12197948817737959177:=0
def tw12699067737419570508:=0
def tw12546736942483380225:=0
def tw10143804110198753605:=0
def tw10078741203804462198:=0
def tw3844783452156905347:=0
def tw6597195395911112508:=0
def tw12482721070915239707:=0
def tw16384791476034084579:=0
def tw178103117512805586:=0
def tw4586484730312015836:=0
def tw11616993227350881574:=0
def tw18326657263915242759:=0
def tw10871070426797342498:=0
def tw15630802970251651624:=0
def tw1001852138058468375:=0
def tw5691192611640151863:=0
def tw6712137740247818683:=0
def tw12738297668334224700:=0
def tw4502830828183735604:=0
def tw18382499337601311899:=0
def tw1834411875590523084:=0
def tw7702169558930535983:=0
def tw4733064579814580964:=0
def tw5470132232271851015:=0
def tw13832896985632498302:=0
def tw13608114464476078725:=0
def tw9973830991602558355:=0
def tw10538709722552668748:=0
def tw6341972718725788117:=0
def tw6513248574637919180:=0
def tw17497721392384150811:=0
def tw2913430200386047325:=0
def tw3370337822783732127:=0
def tw6696054430770395706:=0
def tw9508310959220489422:=0
def tw1921255827663690114:=0
def tw15644614274188529447:=0
def tw14164002742349662310:=0
def tw14339249026432561106:=0
def tw17229957103994699425:=0
def tw12639947684259570022:=0
def tw17188310316111761275:=0
def tw9419134225020143556:=0
def tw4267814272530238938:=0
def tw10392037462155752143:=0
def tw12261976624838505553:=0
def tw6118149773423117545:=0
def tw11366489960184396518:=0
def tw10173274205748552396:=0
def tw6244278082578691527:=0
def tw9638656464455907481:=0
def tw5444268069663889203:=0
def tw9374447877791381933:=0
def tw2026700139841870466:=0
def tw3430888345871503180:=0
def tw444452822601361752:=0
def tw2236314624425808006:=0
def tw6207038461685715676:=0
def tw4696882767444418798:=0
def tw3089273012955078316:=0
def tw16656899503691927316:=0
def tw15458706211000024485:=0
def tw11723401550562966195:=0
def tw12460598381594887910:=0
def tw245297634009819890:=0
def tw10802669752132986298:=0
def tw5373294587784837101:=0
def tw18119388400508761988:=0
def tw12612172285770655120:=0
def tw15799644578510020986:=0
def tw15005951684956278528:=0
def tw2556873890297297680:=0
def tw16683211756045418737:=0
def tw13597105167902131525:=0
def tw5830142231848535217:=0
def tw10223665635055506422:=0
def tw17156717212404228593:=0
def tw2023441046478396117:=0
def tw8677309247002524386:=0
def tw12354763404764112923:=0
def tw16415490800719997010:=0
def tw11562257895023766097:=0
def tw15182396268595408408:=0
def tw12633836742393839794:=0
def tw2522875149622417930:=0
def tw3597612172489117017:=0
def tw10855143447857968457:=0
def tw3793244584930343662:=0
def tw3679504231462921739:=0
def tw358386485390238396:=0
def tw4983596254980744627:=0
def tw15832247721370782016:=0
def tw6702178386324647024:=0
def tw7381770237547607436:=0
def tw15546992736277122187:=0
def tw12170905839028334704:=0
def tw15889986788171941709:=0
def tw8902756426019098921:=0
def tw15035335217821628657:=0
def tw9402279937033499660:=0
def tw13118026275362033883:=0
def tw18249482203261132370:=0
def tw15956713293807071703:=0
def tw3091993775172101235:=0
def tw1265736746617349734:=0
def tw9070074308473390469:=0
def tw16919224789049148671:=0
def tw6116579515153336641:=0
def tw18064584605900877082:=0
def tw2331053893973563451:=0
def tw8848698144566471761:=0
def tw16641740195469749071:=0
def tw3234530893030078048:=0
def tw3402387896658532220:=0
def tw11892818055574803591:=0
def tw10360115763345618354:=0
def tw5849800400311318034:=0
def tw4836235215557552479:=0
def tw9669451455869695539:=0
def tw7769922470501494540:=0
def tw10555322627902165971:=0
def tw4882062295023068265:=0
def tw15771031827413114990:=0
def tw10720342361626369769:=0
def tw6417599137557237123:=0
def tw488869181668140826:=0
def tw11876833789458086834:=0
def tw1737954143745926103:=0
def tw6838935815703277232:=0
def tw15944738526612406307:=0
def tw3829326788457013455:=0
def tw17581114718206974311:=0
def tw18418151487559445149:=0
def tw2124797081300025381:=0
def tw765164809485691180:=0
def tw5292371715139569901:=0
def tw5598428844620559123:=0
def tw8790328265799646976:=0
def tw17494224935337651352:=0
def tw15188209543201401074:=0
def tw15162456303281650930:=0
def tw561896545409453883:=0
def tw15112866921132555890:=0
def tw17141825345266475913:=0
def tw9716497571507927081:=0
def tw8198181461909272716:=0
def tw2038126143582267370:=0
def tw13484139807380210424:=0
def tw1062020696371465658:=0
def tw11784617920548361703:=0
def tw9146576870406804867:=0
def tw15229613306140811249:=0
def tw14919861349644354744:=0
def tw5166368138513846755:=0
def tw9822098617762347751:=0
def tw14071440002877324798:=0
def tw1560000322252924762:=0
def tw16322471905852643748:=0
def tw14508030155752306041:=0
def tw6417106526358656723:=0
def tw164985472860948391:=0
def tw3865656350100235319:=0
def tw2441560189182490894:=0
def tw10784093082036426219:=0
def tw7268349856783068098:=0
def tw16727410788245437324:=0
def tw4672606939358681981:=0
def tw2735419382059604365:=0
def tw128593751567105732:=0
def tw1452205378531595466:=0
def tw6316402731659005823:=0
def tw5879639406643393652:=0
def tw6446663851609738197:=0
def tw1212771267191134867:=0
def tw2241501625200076516:=0
def tw124172029859141117:=0
def tw9256802413340588763:=0
def tw17280922960920194685:=0
def tw5761987115973814354:=0
def tw8006051484868798625:=0
def tw15633252136189162992:=0
def tw3540347260615188842:=0
def tw652333403132947582:=0
def tw11525295996826422111:=0
def tw16165850726711689440:=0
def tw1190608145260777574:=0
def tw7279168386662060809:=0
def tw1391493950250153938:=0
def tw13982365848727598222:=0
def tw2477650925255002818:=0
def tw13116608961042959691:=0
def tw6464033179699694788:=0
def tw16508130679534907243:=0
def tw17419981171369527725:=0
def tw13807960579513513835:=0
def tw7478381740181656240:=0
def tw13234587447159856452:=0
def tw6287998929474454547:=0
def tw2352898560468901810:=0
def tw10349463272796532742:=0
def tw7862477010381994302:=0
def tw11133180782827461547:=0
def tw7444190546701711182:=0
def tw3649636461320323971:=0
def tw4373745170638490280:=0
def tw6519501399268567903:=0
def tw4174968354488789874:=0
def tw692504674540404006:=0
def tw5451735527411879727:=0
def tw6930007341296936882:=0
def tw13977679910443581479:=0
def tw11450231328135855387:=0
def tw2295130685135902393:=0
def tw15153569404748054016:=0
def tw12741252157401102027:=0
def tw2831565239507806341:=0
def tw5327387540101986698:=0
def tw1995983833824741022:=0
def tw5301570074809591724:=0
def tw12640408578854326169:=0
def tw14324699082342339331:=0
def tw7328590937030025223:=0
def tw5797884988809517988:=0
def tw2887340768180430076:=0
def tw14979730249930311631:=0
def tw2825055324882390531:=0
def tw14558079172052183308:=0
def tw5530604099150276915:=0
def tw9585362603694313594:=0
def tw13727810302253739915:=0
def tw13863753401737275765:=0
def tw1580293834005824908:=0
def tw8765031248050430930:=0
def tw104580785759959000:=0
def tw10683968788064810620:=0
def tw8672265770111333441:=0
def tw14568644399070305687:=0
def tw14613034567113315928:=0
def tw7464416770522594182:=0
def tw1925407765570958520:=0
def tw1671220145530358645:=0
def tw16877714325569310170:=0
def tw11079627099424450128:=0
def tw4079823069492418800:=0
def tw16149172744475607877:=0
def tw12741596038267074660:=0
def tw8528606257056384886:=0
def tw1566251223465328505:=0
def tw512477699943423447:=0
def tw11471337181346128339:=0
def tw3869494903483364881:=0
def tw15478659815859206029:=0
def tw7426266002390325517:=0
def tw6387219145371946126:=0
def tw5570515116013732068:=0
def tw4362500667657946004:=0
def tw15026126565044585997:=0
def tw5674120854945216682:=0
def tw228612088675326863:=0
def tw13821246644061129934:=0
end PySem.W.Fast
open PySem PySem.W PyProof.Rows
set_option maxRecDepth 100000 in
set_option maxHeartbeats 0 in
theorem PySem.Challenge.cw_mumtrial_k14_whole_faces_holds : PySem.Challenge.rw_mumtrial_k14_whole_faces.Holds := by
 w_on;o_law;k_head;(case hw=>w_witness2)
 k_fill
 refine L2.walk_ofK (l:=PySem.Challenge.rw_mumtrial_k14_whole_faces) (n:=63) (k:=9) (x:="script") (CX:=L2.CX0) (sp:=Mum.sp_law14) rfl (by decide) rfl ⟨rfl,by decide,by decide⟩ (fun w h Y=>PySem.W.kIn_of Y) ?F (fun _ _ a ns hl _ hS=>⟨a,ns,rfl,hS,hl,fun _=>rfl⟩) (fun _ _ _ _ z=>z)
 case F =>
  intro w mg fa h KX G hmg;refine' Mum.all_mk KX G hmg ?aC ?pg ?hd ?po ?sa ?mk ?kc ?na1 ?na2 ?na3 ?na4 ?na5 ?na6 ?na7 ?na8 ?afc ?pgfc ?hdfc ?pofc ?safc ?mkfc ?kcfc ?nfc1 ?nfc2 ?nfc3 ?nfc4 ?nfc5 ?z_all ?z_bool ?z_dict ?z_enumerate ?z_int ?z_isinstance ?z_len ?z_list ?z_range ?z_str ?z_tuple ?z_zip ?g_LETTERS ?r_LETTERS ?g_LONGEST_NAME ?r_LONGEST_NAME ?g_MOST_WORDS ?r_MOST_WORDS ?g_MOST_ROOMS ?r_MOST_ROOMS ?g_MOST_DOORS ?r_MOST_DOORS ?g_MOST_FACES ?r_MOST_FACES ?g_STILL ?l_STILL ?c_STILL ?d_STILL ?s_STILL ?v_STILL ?g_HUSH ?l_HUSH ?c_HUSH ?d_HUSH ?s_HUSH ?v_HUSH ?T
  (case aC|pg|hd|po|sa|mk|kc|na1|na2|na3|na4|na5|na6|na7|na8|afc|pgfc|hdfc|pofc|safc|mkfc|kcfc|nfc1|nfc2|nfc3|nfc4|nfc5|z_all|z_bool|z_dict|z_enumerate|z_int|z_isinstance|z_len|z_list|z_range|z_str|z_tuple|z_zip|g_LETTERS=>k_is)
  (case r_LETTERS=>exact⟨_,rfl⟩)
  (case g_LONGEST_NAME=>k_is)
  (case r_LONGEST_NAME=>exact⟨_,rfl⟩)
  (case g_MOST_WORDS=>k_is)
  (case r_MOST_WORDS=>exact⟨_,rfl⟩)
  (case g_MOST_ROOMS=>k_is)
  (case r_MOST_ROOMS=>exact⟨_,rfl⟩)
  (case g_MOST_DOORS=>k_is)
  (case r_MOST_DOORS=>exact⟨_,rfl⟩)
  (case g_MOST_FACES=>k_is)
  (case r_MOST_FACES=>exact⟨_,rfl⟩)
  (case g_STILL|l_STILL=>k_is)
  (case c_STILL|d_STILL=>rfl)
  (case s_STILL=>decide)
  (case v_STILL=>exact .cons ⟨_,rfl⟩ .nil)
  (case g_HUSH|l_HUSH=>k_is)
  (case c_HUSH|d_HUSH=>rfl)
  (case s_HUSH=>decide)
  (case v_HUSH=>exact .cons ⟨_,rfl⟩ .nil)
  (case T=>constructor<;>first|(refine' Mum.fnG_mk ?a ?l ?c ?k;(case a=>k_is);(case l=>k_is);(case c=>k_is);(case k=>k_is))|(refine' Mum.fnM_mk ?a ?i ?l ?c ?k;(case a=>k_is);(case i=>k_is);(case l=>k_is);(case c=>k_is);(case k=>k_is)))
