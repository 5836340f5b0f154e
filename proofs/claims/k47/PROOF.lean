
import PyProof.Rows.All
import Wide.All
import OpenK.AllK
import Wide.FinOn
import Lean
import PyProof.EqAt
import PyProof.EqKinds
import PyProof.TupleCall
import PyProof.NeKinds
import PyProof.RaisesMany
import PyProof.RulesAs
import PyProof.NsDelKeeps
import PyProof.InstStoreFacts
import PyProof.ExcClass3
import PyProof.ExcInit
import KE.KTryMore
import PyProof.AutoSeq1
import PyProof.WalkInts
import PyProof.DictIter
import PyProof.DictWalks
import PyProof.DictItems
import PyProof.DictItemsLoops
import KE.KPairComp
import PyProof.DictValues
import PyProof.SumAny
import PyProof.Rows.SumAny
import PyProof.Rows.RuleDivmod
import KE.KRevIter
import PyProof.TupleOfGen
import KE.KMinKey
import PyProof.Rows.CallKwBuiltin
import KE.IntBitsLaws
import PySem.Challenge.RW_mumtrial_k47_the_first_blamer
noncomputable section
open PySem renaming Program->b9,reduceHash->Gn,wpAny_mono->pb,wpAny_bind->ar,wpAny_specialOf->EL,wpAny_call_entry->BO,wpAny_pure->aT,wpAny_rule->uf,Builtin->cb,wpAny_isInstance->DM,wpAny_holding->i8,wpAny_truthy_bool->rX,wpAny_seqItems->rW,sizeLine->aj,sysModules->iL,mainGlobals->bV,bootBuiltins->i0,starEach->aL,compareOp->fP,behindInMarks->lT,standAt->rT,holding->lS,wpAny_execs_nil->DJ,swapsWith->rS,assignEach->wE,wpAny_passesOwn->tO,letOwnedTupleGo->DH,wpAny_pyIter_list->Aj,foldedSetIterable->Ai,binaryOp->l_,sizeLine_eq->rR,getMethod->rP,codeAny->zzl79,attributeBase->wB,FuncData->lR,BindsTo->tL,codeAny_mono->DB,wpAny_Call_Name_kw->Ae,callWith->wz,backToKw->o7,keywordEach->o6,NameKind->gX,mem_of_lookup->ui,typeLookup->ug,getItem->og,seqIndex?->yj,subscripted->yi,sliceBounds->oe,slicePick->yh,Keyword->qI,call_meets->qH,valueAt->n_,call_meetsIn->t_,callerA->mm,DictEntry->ml,wpAny_newObj_type->n6,ZipApart->mi,sliceRange->t5,wpAny_dictEntries->xV,codeAny_builtin->i7,wpAny_tryCatch->qC,wpAny_typeOf->xU,plainId_quiet->i5,wpAny_attempt->xT,wpAny_callSpecial?_slot->xS,wpAny_typeNameOfWhole_keyiter->xR,wpAny_typeNameOf_keyiter->xQ,intItems->dz,wpAny_field->qA,updateSeq->n5,wpAny_updateSeq->mh,wpAny_letGo->tT,argBest->i4
open PySem.Builtin.Tuple renaming tupleHashOf->BP
open Bool renaming false_ne_true->iP,not_true->DK,false_eq_true->kh,false_and->DG,eq_iff_iff->wD,and_false->ye,and_eq_true->x_,true_and->qr
open Array renaming forIn_toList->Iu,length_toList->ma,getElem?_eq_getElem->kS,getElem?_eq_none->tV
open Nat renaming add_assoc->DN,le_refl->aB,lt_of_lt_of_le->c9,lt_irrefl->kg,ne_of_lt->bW,le_trans->aE,le_of_lt->cT,ne_of_gt->ij,zero_le->dI,le_succ->qJ,succ_le_succ->ue,lt_of_le_of_lt->qE,le_add_right->jW,min_eq_left->qv,mod_lt->tR,succ_mul->gA,mul_le_mul_right->c_
open List renaming append_nil->dJ,range->lU,mem_filter->fQ,filterMap_cons->wF,mem_cons_self->cU,mem_cons_of_mem->c7,mem_cons->cC,mem_append->bL,mem_append_left->eg,getElem?_eq_some_iff->bM,mem_append_right->eP,length_cons->fO,lookup->fI,map_cons->bF,length_map->ah,nodup_cons->gf,length_take->aI,getElem?_append_left->uh,getElem?_map->cF,mem_of_getElem?->bT,length_append->a_,length_drop->dQ,size_toArray->bG,reverse_cons->yf,length_reverse->eG,find?_cons->mn,any_cons->qG,nodup_nil->ub,map_nil->yb,lookup_cons->i9,forIn_cons->t6,mem_map->aQ,getElem?_eq_none->xZ,any_toArray->xY,drop_zero->tZ,take_length->be,getElem?_eq_getElem->da,mem_singleton->dP,map_append->av,nodup_append->dk,drop_of_length_le->qD,drop_eq_getElem_cons->jV,take_of_length_le->tU,getElem?_of_mem->gB,getElem?_reverse->qy,map_eq_nil_iff->qx,map_take->tS,map_drop->xL,foldl_cons->qw,drop_length->mf,mem_of_mem_take->gW,append_assoc->eQ,nodup_iff_pairwise_ne->xK,map_map->i3,sum_cons->qt,mem_map_of_mem->nW,take_append_drop->xJ,foldl_append->xI,take_zero->xH,length_filter_le->cO,filter_append->iF,filter_cons_of_neg->xG,filter_cons_of_pos->xF,zipWith->me
open Option.some renaming inj->fJ
open PySem.W renaming instObj->rV,lookIn->DE,plainGet->rQ,hasDictIn->tN,findIn->cM,isFn->Ah,plainOver->wC,makesIn->l9,emptyDict->o8,keepIn->gw,kitOne->DD,kia_one->kb,fnOf->i_,codeIn->oj,nsIn->ck,mg_of->eF,mg_none_of->fK
open PySem.Heap renaming lt_size->aO,SameBut->jy,get?_push_of_some->bR,get?_push_size->du,size_push->tM,get?_update_self->jX,get?_update_other->iG
open PyProof.Rows renaming AllBare->o_,callWith_type1->o9,Subscript_->ym,subscriptTail->yk,IntsAre->t9
open Ne renaming symm->gk
open False renaming elim->kf
open Int renaming mul_one->DF,toNat_natCast->oh,emod_nonneg->nY,emod_lt_of_pos->nX,le_refl->xM,eq_ofNat_of_zero_le->jT,mul_pos->xE,le_of_lt->qq,mul_assoc->tQ,mul_comm->tP,one_mul->xD
open PySem.Str renaming empty->Ag,ofString->jU
open True renaming intro->ke
open PySem.Calls renaming spliced_nil->Af,spliced_cons->wA,callWith_builtin->yg
open Option renaming isSome_iff_exists->yn,map_some->uc,map_eq_some_iff->kR
open PySem.Obj renaming mapSeq->fL
open PySem.Paired renaming snoc->ge
open PySem.F renaming slot_dict_get->qF,entry_dict_get->yd,slot_dict_keyiterator_next->tW,slot_zip_next->xN,plain_extend_loop->qz,plain_min_loop->nZ,plainAttrs_list->gx,slot_list_append->jS,type_list_append->jR
open ForInStep renaming yield->ya
open PySem.NameKind renaming free->mj
open PySem.SeqAt renaming EqAt->bv
open PySem.Builtin.Str renaming strSliceIndices->t4
open PySem.Txt renaming join->xX
open PySem.Walks renaming list->xW
open PySem.Heap.SameBut renaming update->tX
open PySem.Around renaming under_plainId->i6
open PySem.Builtin.SmallTypes renaming ownedTupleIsFree->xP,nextOf->xO
open PySem.IntMulOk renaming of_le->nV
open PySem.PassesOwn renaming never->bo
theorem Q0:0<=PySem.sizeLine:=by decide
theorem Q1:1<=PySem.sizeLine:=by decide
theorem Q2:2<=PySem.sizeLine:=by decide
theorem Q3:3<=PySem.sizeLine:=by decide
theorem Q4:4<=PySem.sizeLine:=by decide
theorem Q6:6<=PySem.sizeLine:=by decide
theorem zzr0{p:Prop}[Decidable p](h:¬p):decide p=false:=decide_eq_false h
theorem zzr1{p:Prop}[Decidable p](h:p):decide p=true:=decide_eq_true h
abbrev Za:=PySem.W.Frag
abbrev Zb:=List PySem.Str
abbrev Zc:=PySem.Value->PySem.Shared->Prop
abbrev Zd:=List (PySem.Addr×PySem.Obj)
abbrev Ze:=List PySem.Addr
abbrev Zf:=List PySem.Value
section
set_option Elab.async false
set_option linter.all false
set_option maxRecDepth 100000
set_option maxHeartbeats 4000000
namespace L2
open PySem PySem.Spec PyProof.Rows
open Sem (wp)
abbrev fG:=Sum Int Str
def dw:fG->Value->Bool
 |.inl k,v=>Value.isInt k v
 |.inr x,v=>Value.isStrOf x v
def Lh(w:World):fG->Int
 |.inl k=>hashInt k
 |.inr x=>hashStr w x
theorem aD:∀{k:fG}{v:Value},dw k v=true->(∃i t,k=Sum.inl i/\v=Value.int i t)∨(∃x t,k=Sum.inr x/\v=Value.str x t)
 |.inl i,v,h=>by
  obtain⟨t,e⟩:=Value.isInt_shape (k:=i) (v:=v) h;exact .inl ⟨i,t,rfl,e⟩
 |.inr x,v,h=>by
  obtain⟨t,e⟩:=Value.isStrOf_shape (x:=x) (v:=v) h;exact .inr ⟨x,t,rfl,e⟩
theorem np(i:Int)(t:Tok):dw (.inl i) (.int i t)=true:=by simp[dw,Value.isInt]
theorem nj(x:Str)(t:Tok):dw (.inr x) (.str x t)=true:=by simp[dw,Value.isStrOf]
theorem zE(a b:Int):decide ((Sum.inl a:fG)=Sum.inl b)=(a==b):=by
 by_cases e:a=b
 ·subst e;simp
 ·have h:¬(Sum.inl a:fG)=Sum.inl b:=fun q=>e (Sum.inl.inj q);rw[zzr0 h];exact(beq_eq_false_iff_ne.mpr e).symm
theorem zt(a b:Str):decide ((Sum.inr a:fG)=Sum.inr b)=decide (a=b):=by
 by_cases e:a=b
 ·subst e;simp
 ·have h:¬(Sum.inr a:fG)=Sum.inr b:=fun q=>e (Sum.inr.inj q);rw[zzr0 h,zzr0 e]
theorem zD(a:Int)(b:Str):decide ((Sum.inl a:fG)=Sum.inr b)=false:=zzr0 (fun q=>nomatch q)
theorem zB(a:Str)(b:Int):decide ((Sum.inr a:fG)=Sum.inl b)=false:=zzr0 (fun q=>nomatch q)
def cD(prog:b9)(w:World):PySem.KeyKind prog w fG where
 is:=dw
 hash:=Lh w
 inj:=fun v a b ha hb=>by
  rcases aD ha with⟨i,t,rfl,rfl⟩|⟨x,t,rfl,rfl⟩
  ·rcases aD hb with⟨j,u,rfl,e⟩|⟨y,u,rfl,e⟩
   ·injection e with e1 _;rw[e1]
   ·exact nomatch e
  ·rcases aD hb with⟨j,u,rfl,e⟩|⟨y,u,rfl,e⟩
   ·exact nomatch e
   ·injection e with e1 _;rw[e1]
 byValue:=fun k v h=>by
  rcases aD h with⟨i,t,rfl,rfl⟩|⟨x,t,rfl,rfl⟩<;>rfl
 pyHash:=fun hv h=>by
  rcases aD hv with⟨i,t,rfl,rfl⟩|⟨x,t,rfl,rfl⟩
  ·exact wpAny_pyHash_int h
  ·exact wpAny_pyHash_str h
 eqBool:=fun hu hv h=>by
  rcases aD hu with⟨i,t,rfl,rfl⟩|⟨x,t,rfl,rfl⟩
  ·rcases aD hv with⟨j,u,rfl,rfl⟩|⟨y,u,rfl,rfl⟩
   ·rw[zE]at h;exact wpAny_eqBool_int h
   ·rw[zD]at h;exact bv.int_str i t y u _ _ _ _ h
  ·rcases aD hv with⟨j,u,rfl,rfl⟩|⟨y,u,rfl,rfl⟩
   ·rw[zB]at h;exact bv.str_int x t j u _ _ _ _ h
   ·rw[zt]at h;exact wpAny_eqBool_str h
 «strs»:=fun k x t v h=>by
  rcases aD h with⟨i,u,rfl,e⟩|⟨y,u,rfl,e⟩
  ·exact nomatch e
  ·injection e with e1 _;subst e1;cases v<;>rfl
theorem A8(a:b9)(w:World)(i:Int)(t:Tok):(cD a w).is (.inl i) (.int i t)=true:=np i t
theorem A7(a:b9)(w:World)(x:Str)(t:Tok):(cD a w).is (.inr x) (.str x t)=true:=nj x t
end L2
namespace L2
open PySem PySem.Spec PyProof.Rows
open Sem (wp)
abbrev oY:=Option fG
def jp:oY->Value->Bool
 |none,v=>match v with
  |.none=>true
  |_=>false
 |some k,v=>dw k v
def JZ(w:World):oY->Int
 |none=>Gn 4238894112
 |some k=>Lh w k
theorem b_:∀{k:oY}{v:Value},jp k v=true->(∃i t,k=some (Sum.inl i)/\v=Value.int i t)∨(∃x t,k=some (Sum.inr x)/\v=Value.str x t)∨(k=none/\v=Value.none)
 |none,v,h=>by
  refine .inr (.inr ⟨rfl,?_⟩);cases v<;>first|rfl|cases h
 |some k,v,h=>by
  rcases aD (show dw k v=true from h)with⟨i,t,rfl,rfl⟩|⟨i,t,rfl,rfl⟩
  ·exact .inl ⟨i,t,rfl,rfl⟩
  ·exact .inr (.inl ⟨i,t,rfl,rfl⟩)
theorem u6{a b:oY}{v:Value}(f:jp a v=true)(g:jp b v=true):a=b:=by
 rcases b_ f with⟨i,t,rfl,rfl⟩|⟨i,t,rfl,rfl⟩|⟨rfl,rfl⟩<;>rcases b_ g with⟨j,u,rfl,e⟩|⟨j,u,rfl,e⟩|⟨rfl,e⟩<;>first|rfl|(cases e;rfl)|cases e
def A6(prog:b9)(w:World):PySem.KeyKind prog w oY where
 is:=jp
 hash:=JZ w
 inj:=fun v a b ha hb=>u6 ha hb
 byValue:=fun k v h=>by
  rcases b_ h with⟨i,t,rfl,rfl⟩|⟨x,t,rfl,rfl⟩|⟨rfl,rfl⟩<;>rfl
 pyHash:=fun{A E s k v Q} hv h=>by
  rcases b_ hv with⟨i,t,rfl,rfl⟩|⟨x,t,rfl,rfl⟩|⟨rfl,rfl⟩
  ·exact wpAny_pyHash_int h
  ·exact wpAny_pyHash_str h
  ·refine PySem.W.pyHash_slot (T:="NoneType") rfl F.slot_NoneType_hash F.entry_NoneType_hash (F.args_NoneType_hash_1 _) (by rw[beq_builtin_none]) (.inl rfl) ?_;show wpAny _ _ (retInt 4238894112) _ _ _;refine pb (wpAny_ret_mkInt (Q:=fun v s'=>∃n t,v=Value.int n t/\Q (Gn n) s') ⟨_,_,rfl,h⟩) (fun fin s' ⟨v,e,n,t,e2,q⟩=>⟨n,t,by rw[e,e2],q⟩) (fun _ _ z=>z)
 eqBool:=fun{A E s a b u v Q} hu hv h=>by
  rcases b_ hu with⟨i,t,rfl,rfl⟩|⟨x,t,rfl,rfl⟩|⟨rfl,rfl⟩
  ·rcases b_ hv with⟨j,u,rfl,rfl⟩|⟨y,u,rfl,rfl⟩|⟨rfl,rfl⟩
   ·exact(cD prog w).eqBool (a:=.inl i) (b:=.inl j) (np i t) (np j u) (by rw[show decide ((Sum.inl i:fG)=Sum.inl j)=decide ((some (Sum.inl i):oY)=some (Sum.inl j))from decide_eq_decide.mpr ⟨fun z=>by rw[z],fun z=>by injection z⟩];exact h)
   ·rw[zzr0 (by intro z;injection z with z;cases z)]at h;exact bv.int_str i t y u _ _ _ _ h
   ·rw[zzr0 (by intro z;cases z)]at h;exact bv.int_none i t _ _ _ _ h
  ·rcases b_ hv with⟨j,u,rfl,rfl⟩|⟨y,u,rfl,rfl⟩|⟨rfl,rfl⟩
   ·rw[zzr0 (by intro z;injection z with z;cases z)]at h;exact bv.str_int x t j u _ _ _ _ h
   ·exact(cD prog w).eqBool (a:=.inr x) (b:=.inr y) (nj x t) (nj y u) (by rw[show decide ((Sum.inr x:fG)=Sum.inr y)=decide ((some (Sum.inr x):oY)=some (Sum.inr y))from decide_eq_decide.mpr ⟨fun z=>by rw[z],fun z=>by injection z⟩];exact h)
   ·rw[zzr0 (by intro z;cases z)]at h;exact bv.str_none x t _ _ _ _ h
  ·rcases b_ hv with⟨j,u,rfl,rfl⟩|⟨y,u,rfl,rfl⟩|⟨rfl,rfl⟩
   ·rw[zzr0 (by intro z;cases z)]at h;exact bv.none_int j u _ _ _ _ h
   ·rw[zzr0 (by intro z;cases z)]at h;exact bv.none_str y u _ _ _ _ h
   ·rw[zzr1 rfl]at h;exact bv.same _ _ _ _ _ h
 «strs»:=fun k x t v h=>by
  rcases b_ h with⟨i,u,rfl,e⟩|⟨y,u,rfl,e⟩|⟨rfl,e⟩
  ·exact nomatch e
  ·injection e with e1 _;subst e1;cases v<;>rfl
  ·exact nomatch e
inductive TK where
 |k (a:oY)
 |t (l:List TK)
mutual
def Kb:(x y:TK)->Decidable (x=y)
 |.k a,.k b=>if h:a=b then Decidable.isTrue (by rw[h])else Decidable.isFalse fun e=>h (by injection e)
 |.t l,.t m=>match decTKs l m with
  |Decidable.isTrue h=>Decidable.isTrue (by rw[h])
  |Decidable.isFalse h=>Decidable.isFalse fun e=>h (by injection e)
 |.k _,.t _=>Decidable.isFalse nofun
 |.t _,.k _=>Decidable.isFalse nofun
def decTKs:(x y:List TK)->Decidable (x=y)
 |[],[]=>Decidable.isTrue rfl
 |[],_::_=>Decidable.isFalse nofun
 |_::_,[]=>Decidable.isFalse nofun
 |a::l,b::m=>match Kb a b with
  |Decidable.isTrue h=>match decTKs l m with
   |Decidable.isTrue h'=>Decidable.isTrue (by rw[h,h'])
   |Decidable.isFalse h'=>Decidable.isFalse fun e=>h' (by injection e)
  |Decidable.isFalse h=>Decidable.isFalse fun e=>h (by injection e)
end
instance:DecidableEq TK:=Kb
mutual
def TK.depth:TK->Nat
 |.k _=>0
 |.t l=>TK.depths l+1
def TK.depths:List TK->Nat
 |[]=>0
 |a::r=>max (TK.depth a) (TK.depths r)
end
mutual
def TK.hash(w:World):TK->Int
 |.k a=>JZ w a
 |.t l=>Gn (BP (TK.hashs w l))
def TK.hashs(w:World):List TK->List Int
 |[]=>[]
 |a::r=>TK.hash w a::TK.hashs w r
end
mutual
def TK.draws:TK->Nat
 |.k _=>1
 |.t l=>TK.drawss l+1
def TK.drawss:List TK->Nat
 |[]=>0
 |a::r=>TK.draws a+TK.drawss r
end
mutual
def nK(h:Heap):TK->Value->Prop
 |.k a,v=>jp a v=true
 |.t l,v=>∃a o items n,v=.ref a/\h.get? a=some o/\o.cls=.type "tuple"/\o.data=.seq items n/\TAts h l items.toList
def TAts(h:Heap):List TK->List Value->Prop
 |[],vs=>vs=[]
 |k::r,vs=>∃v us,vs=v::us/\nK h k v/\TAts h r us
end
theorem nK.inj{h:Heap}:∀(d:Nat) {x y:TK}{v:Value},x.depth<=d->nK h x v->nK h y v->x=y:=by
 have A:∀(d:Nat) (w:∀{x y:TK}{v:Value},x.depth<=d->nK h x v->nK h y v->x=y) (p j:List TK) (q:Zf),TK.depths p<=d->TAts h p q->TAts h j q->p=j:=by
  intro d w p
  induction p with
  |nil =>
   intro j q _ g f;have B:q=[]:=g;subst B;cases j with
   |nil=>rfl
   |cons y j=>obtain⟨_,_,e,_⟩:=f;cases e
  |cons x p C =>
   intro j q r g f;obtain⟨v,N,rfl,D,E⟩:=g;cases j with
   |nil=>have G:v::N=[]:=f;cases G
   |cons y j =>
    obtain⟨v',Q,e,H,I⟩:=f;cases e;have T:max x.depth (TK.depths p)<=d:=r;rw[w (by omega) D H,C j N (by omega) E I]
 have i:∀(a:oY) (l:List TK) (v:Value),nK h (.k a) v->nK h (.t l) v->False:=by
  intro a l v s J;obtain⟨b,o,items,n,rfl,_⟩:=J;rcases b_ (show jp a (.ref b)=true from s)with⟨_,_,_,e⟩|⟨_,_,_,e⟩|⟨_,e⟩<;>cases e
 have O:∀(a b:oY) (v:Value),jp a v=true->jp b v=true->a=b:=fun a b v s J=>u6 s J;intro d
 induction d with
 |zero =>
  intro x y v r g f;cases x with
  |t l=>exact absurd r (by show ¬(TK.depths l+1<=0);omega)
  |k a =>
   cases y with
   |k b=>rw[O a b v g f]
   |t l=>exact(i a l v g f).elim
 |succ d w =>
  intro x y v r g f;cases x with
  |k a =>
   cases y with
   |k b=>rw[O a b v g f]
   |t l=>exact(i a l v g f).elim
  |t l =>
   cases y with
   |k b=>exact(i b l v f g).elim
   |t U =>
    obtain⟨a,o,items,n,rfl,Y,hc,L,hi⟩:=g;obtain⟨a',o',z,n',e,u,al,m,M⟩:=f;cases e;rw[Y]at u;cases u;rw[L]at m;injection m with e1 _;subst e1;rw[A d (fun s=>w s) l U items.toList (by have:TK.depths l+1<=d+1:=r;omega) hi M]
theorem nK.mono{h j:Heap}(k:∀a o items n,h.get? a=some o->o.cls=.type "tuple"->o.data=.seq items n->j.get? a=some o):∀(d:Nat) {x:TK}{v:Value},x.depth<=d->nK h x v->nK j x v:=by
 have q:∀(d:Nat) (m:∀{x:TK}{v:Value},x.depth<=d->nK h x v->nK j x v) (f:List TK) (p:Zf),TK.depths f<=d->TAts h f p->TAts j f p:=by
  intro d m f
  induction f with
  |nil=>intro p _ e;exact e
  |cons x f r =>
   intro p g e;obtain⟨v,w,rfl,s,u⟩:=e;have z:max x.depth (TK.depths f)<=d:=g;exact⟨v,w,rfl,m (by omega) s,r w (by omega) u⟩
 intro d
 induction d with
 |zero =>
  intro x v g e;cases x with
  |t l=>exact absurd g (by show ¬(TK.depths l+1<=0);omega)
  |k a=>exact e
 |succ d m =>
  intro x v g e;cases x with
  |k a=>exact e
  |t l =>
   obtain⟨a,o,items,n,rfl,A,y,i,B⟩:=e;exact⟨a,o,items,n,rfl,k a o items n A y i,y,i,q d (fun C=>m C) l _ (by have:TK.depths l+1<=d+1:=g;omega) B⟩
section
variable{prog:b9}{w:World}
theorem IB:∀(d:Nat) {A:Around}{E:Zc}{s:Shared}{k:TK}{v:Value}{Q:Int->Shared->Prop},k.depth<=d->A.units+d<cLine->nK s.heap k v->Q (k.hash w) { s with toks:=s.toks+k.draws } ->
  wpAny (model prog w) A (pyHash v) Q E s:=by
 intro d
 induction d with
 |zero =>
  intro A E s k v Q C hu u h;cases k with
  |t l=>exact absurd C (by show ¬(TK.depths l+1<=0);omega)
  |k a=>exact(A6 prog w).pyHash (k:=a) u h
 |succ d ih =>
  intro A E s k v Q C hu u h;cases k with
  |k a=>exact(A6 prog w).pyHash (k:=a) u h
  |t l =>
   obtain⟨a,o,items,n,rfl,U,hc,D,hi⟩:=u;have y:s.TypeIs (.ref a) "tuple":=⟨o,U,hc⟩;have G:TK.depths l<=d:=by have:TK.depths l+1<=d+1:=C;omega
   unfold pyHash
   first|unfold pyHashByItsType|skip
   first|refine ar (wpAny_cRoomFor_or (.inr (by omega)) ?_)|skip
   refine ar (EL y F.slot_tuple_hash.lookup ?_);show wpAny _ _ (if(some (Value.builtin "tuple.__hash__")==some Value.none)=true then _ else _) Q E s
   rw[if_neg (by rw[beq_builtin_none];exact iP)];refine ar (EL y F.slot_tuple_hash.lookup ?_);show wpAny _ _ (callSpecialIfBoundUnlessNone? (.ref a) "__hash__" _ >>= _) Q E s;refine ar (wpAny_callSpecialIfBoundUnlessNone?_slot y F.slot_tuple_hash (BO F.slot_tuple_hash y F.entry_tuple_hash ?_ (F.args_tuple_hash_1 _)));show wpAny _ _ (cb.Tuple.tupleItemsOf (.ref a) >>= _) _ _ s;refine ar (wpAny_tupleItemsOf U D ?_);refine ar ?_;rw[<-Iu];refine wpAny_forIn_list _
    (fun g (b:Array Int) H=>∃done left,l=done++left/\TAts s.heap left g/\b.toList=TK.hashs w done/\H={ s with toks:=s.toks+TK.drawss done })
    _ ?_ ?_ _ _ ⟨[],l,rfl,hi,rfl,rfl⟩
   ·rintro x g b H ⟨done,left,e,z,j,rfl⟩;cases left with
    |nil=>have I:x::g=[]:=z;cases I
    |cons f left =>
     obtain⟨x',J,L,h1,Y⟩:=z;cases L;have M:f.depth<=d:=by
      have gen:∀(p:List TK),TK.depths (p++f::left)<=d->f.depth<=d:=by
       intro p
       induction p with
       |nil=>intro N;have O:max f.depth (TK.depths left)<=d:=N;omega
       |cons q p i=>intro N;have O:max q.depth (TK.depths (p++f::left))<=d:=N;exact i (by omega)
      exact gen done (by rw[<-e];exact G)
     have T:TK.hashs w (done++[f])=TK.hashs w done++[f.hash w]:=by
      clear e j
      induction done with
      |nil=>rfl
      |cons q p i=>show _::TK.hashs w (p++[f])=_;rw[i];rfl
     have m:TK.drawss (done++[f])=TK.drawss done+f.draws:=by
      clear e j T
      induction done with
      |nil=>show f.draws+0=0+f.draws;omega
      |cons q p i=>show q.draws+TK.drawss (p++[f])=q.draws+TK.drawss p+f.draws;rw[i];omega
     refine ar (ih (k:=f) M (by show A.units+1+d<cLine;omega) h1 ?_)
     first
      |exact aT ⟨done++[f],left,by rw[e];simp,Y,by rw[T];simp[j],by rw[m];simp[DN]⟩
      |exact ar (aT (aT ⟨done++[f],left,by rw[e];simp,Y,by rw[T];simp[j],by rw[m];simp[DN]⟩))
   ·rintro b H ⟨done,left,e,z,j,rfl⟩;cases left with
    |cons f left=>obtain⟨_,_,L,_⟩:=z;cases L
    |nil =>
     rw[dJ]at e;subst e;show wpAny _ _ (retInt (BP b.toList)) _ _ _;rw[j];refine wpAny_ret_mkInt ?_;have r:Q (Gn (BP (TK.hashs w l))) { s with toks:=s.toks+(TK.drawss l+1) }:=h;show wpAny _ _ (if(decide (-(2:Int) ^ 63<=BP (TK.hashs w l)) && decide (BP (TK.hashs w l)<2 ^ 63))=true then _ else _) Q E _
     unfold Gn at r;by_cases B:(decide (-(2:Int) ^ 63<=BP (TK.hashs w l)) && decide (BP (TK.hashs w l)<2 ^ 63))=true
     ·rw[if_pos B];rw[if_pos B]at r;exact aT (by simpa[DN]using r)
     ·rw[if_neg B];rw[if_neg B]at r;exact ar (uf (aT (by simpa[DN]using r)))
theorem EQ(d:Nat)(ih:∀{A:Around}{E:Zc}{s:Shared}{x y:TK}{u v:Value}{Q:Bool->Shared->Prop},x.depth<=d->y.depth<=d->A.units+d<cLine->nK s.heap x u->nK s.heap y v->Q (decide (x=y)) s->wpAny (model prog w) A (eqBool u v) Q E s)
  {A:Around}{E:Zc}{s:Shared}{x y:List TK}{a b:Addr}{P:Fin->Shared->Prop}{oa L:Obj}{q t:Array Value}{na nb:Nat}(hx:TK.depths x<=d) (hy:TK.depths y<=d) (hu:A.units+d<cLine)
  (N:s.heap.get? a=some oa) (O:oa.data=.seq q na) (T:TAts s.heap x q.toList) (B:s.heap.get? b=some L) (U:L.cls=.type "tuple") (Y:L.data=.seq t nb) (al:TAts s.heap y t.toList)
  (h:P (.done (.ret (.bool (decide (x=y))))) s):wpAny (model prog w) A (cb.«tuple.__eq__» ⟨[.ref a,.ref b],[]⟩) P E s:=by
 have an:s.TypeIs (.ref b) "tuple":=⟨L,B,U⟩;show wpAny _ _ (isInstance (.ref b) (.type "tuple") >>= _) _ _ s;refine ar (DM an isSubtype_tuple_tuple ?_);simp only[DK,kh,if_false];refine ar (wpAny_tupleItemsOf N O ?_);refine ar (wpAny_tupleItemsOf B Y ?_);refine ar ?_;refine wpAny_forIn_list _
  (fun l r M=>r.1=none/\M=s/\∃n m xs' f,l=List.zip xs' f/\TAts s.heap n xs'/\TAts s.heap m f/\TK.depths n<=d/\TK.depths m<=d/\decide (n=m)=decide (x=y)/\(xs'.length==f.length)=(q.size==t.size))
  _ ?_ ?_ _ _ ⟨rfl,rfl,x,y,q.toList,t.toList,rfl,T,al,hx,hy,rfl,by simp⟩
 ·rintro⟨u,v⟩ l r M ⟨hr,rfl,n,m,xs',f,z,j,g,dx,dy,i,k⟩;cases n with
  |nil =>
   have e:xs'=[]:=j;subst e;simp at z
  |cons k1 o =>
   obtain⟨u',C,rfl,h1,D⟩:=j;cases m with
   |nil =>
    have e:f=[]:=g;subst e;simp at z
   |cons k2 p =>
    obtain⟨v',G,rfl,h2,H⟩:=g;simp only[List.zip_cons_cons,List.cons.injEq,Prod.mk.injEq]at z;obtain⟨⟨rfl,rfl⟩,rfl⟩:=z;have ap:max k1.depth (TK.depths o)<=d:=dx;have as:max k2.depth (TK.depths p)<=d:=dy;refine ar (ih (x:=k1) (y:=k2) (by omega) (by omega) hu h1 h2 ?_);by_cases hk:k1=k2
    ·subst hk;rw[zzr1 rfl];simp only[DK,kh,if_false];refine aT ⟨rfl,rfl,o,p,C,G,rfl,D,H,by omega,by omega,?_,by simpa using k⟩;rw[<-i];by_cases I:o=p
     ·simp[I]
     ·simp[I]
    ·rw[zzr0 hk];simp only[Bool.not_false,if_true];have hf:decide (x=y)=false:=by rw[<-i];simp[hk]
     rw[hf]at h;exact ar (aT (aT (aT h)))
 ·rintro⟨r1,r2⟩ M ⟨hr,rfl,n,m,xs',f,z,j,g,dx,dy,i,k⟩;simp only at hr;subst hr;refine aT ?_;have J:(q.size==t.size)=decide (x=y):=by
   rw[<-i,<-k];cases n with
   |nil =>
    have e:xs'=[]:=j;subst e;cases m with
    |nil=>have e:f=[]:=g;subst e;simp
    |cons _ _=>obtain⟨_,_,rfl,_⟩:=g;simp
   |cons _ _ =>
    obtain⟨_,_,rfl,_⟩:=j;cases m with
    |nil=>have e:f=[]:=g;subst e;simp
    |cons _ _=>obtain⟨_,_,rfl,_⟩:=g;simp at z
  show P (.done (.ret (.bool (q.size==t.size)))) M;rw[J];exact h
theorem K5:∀(d:Nat) {A:Around}{E:Zc}{s:Shared}{x y:TK}{u v:Value}{Q:Bool->Shared->Prop},x.depth<=d->y.depth<=d->A.units+d<cLine->nK s.heap x u->nK s.heap y v->Q (decide (x=y)) s ->
  wpAny (model prog w) A (eqBool u v) Q E s:=by
 have j:∀{A:Around}{E:Zc}{s:Shared}{a:oY}{l:List TK}{u v:Value}{Q:Bool->Shared->Prop},A.units<cLine->nK s.heap (.k a) u->nK s.heap (.t l) v->Q false s->wpAny (model prog w) A (eqBool u v) Q E s:=by
  intro A E s a l u v Q p f g h;obtain⟨b,o,items,n,rfl,M,N,r,hi⟩:=g;have B:s.heap.IsTuple b items:=⟨o,M,N,n,r⟩;rcases b_ (show jp a u=true from f)with⟨i,t,rfl,rfl⟩|⟨i,t,rfl,rfl⟩|⟨rfl,rfl⟩
  ·exact bv.int_tuple i t B p prog w E Q h
  ·exact bv.str_tuple i t B p prog w E Q h
  ·exact bv.none_tuple B p prog w E Q h
 have q:∀{A:Around}{E:Zc}{s:Shared}{a:oY}{l:List TK}{u v:Value}{Q:Bool->Shared->Prop},A.units<cLine->nK s.heap (.t l) u->nK s.heap (.k a) v->Q false s->wpAny (model prog w) A (eqBool u v) Q E s:=by
  intro A E s a l u v Q p f g h;obtain⟨b,o,items,n,rfl,M,N,r,hi⟩:=f;have B:s.heap.IsTuple b items:=⟨o,M,N,n,r⟩;rcases b_ (show jp a v=true from g)with⟨i,t,rfl,rfl⟩|⟨i,t,rfl,rfl⟩|⟨rfl,rfl⟩
  ·exact bv.tuple_int i t B p prog w E Q h
  ·exact bv.tuple_str i t B p prog w E Q h
  ·exact bv.tuple_none B p prog w E Q h
 have leaves:∀{A:Around}{E:Zc}{s:Shared}{a b:oY}{u v:Value}{Q:Bool->Shared->Prop},nK s.heap (.k a) u->nK s.heap (.k b) v->Q (decide (TK.k a=TK.k b)) s->wpAny (model prog w) A (eqBool u v) Q E s:=by
  intro A E s a b u v Q f g h;refine(A6 prog w).eqBool (a:=a) (b:=b) f g ?_;by_cases e:a=b
  ·subst e;simpa using h
  ·have:¬(TK.k a=TK.k b):=fun z=>e (by injection z);rw[zzr0 this]at h;rw[zzr0 e];exact h
 intro d
 induction d with
 |zero =>
  intro A E s x y u v Q C D p f g h;cases x with
  |t l=>exact absurd C (by show ¬(TK.depths l+1<=0);omega)
  |k a =>
   cases y with
   |t l=>exact absurd D (by show ¬(TK.depths l+1<=0);omega)
   |k b=>exact leaves f g h
 |succ d ih =>
  intro A E s x y u v Q C D p f g h;cases x with
  |k a =>
   cases y with
   |k b=>exact leaves f g h
   |t l =>
    rw[zzr0 (by intro z;cases z)]at h;exact j (by omega) f g h
  |t l =>
   cases y with
   |k b =>
    rw[zzr0 (by intro z;cases z)]at h;exact q (by omega) f g h
   |t m =>
    have hl:TK.depths l<=d:=by have:TK.depths l+1<=d+1:=C;omega
    have hm:TK.depths m<=d:=by have:TK.depths m+1<=d+1:=D;omega
    have O:=f;have T:=g;obtain⟨a,oa,xs,na,rfl,H,U,Y,al⟩:=f;obtain⟨b,ob,ys,nb,rfl,I,J,an,ap⟩:=g;have L:s.TypeIs (.ref a) "tuple":=⟨oa,H,U⟩;have as:s.TypeIs (.ref b) "tuple":=⟨ob,I,J⟩;have aC:decide (TK.t l=TK.t m)=decide (l=m):=by
     by_cases e:l=m
     ·subst e;simp
     ·have:¬(TK.t l=TK.t m):=fun z=>e (by injection z);rw[zzr0 this,zzr0 e]
    unfold eqBool
    try with_reducible refine i8 ?_
    show wpAny _ _ (if(Value.ref a==Value.ref b)=true then _ else _) Q E s
    by_cases G:(Value.ref a==Value.ref b)=true
    ·rw[if_pos G];have e:a=b:=by have:=eq_of_beq G;injection this
     subst e;have e2:TK.t l=TK.t m:=nK.inj _ (aB _) O T;rw[zzr1 e2]at h;exact ar (uf (aT h))
    ·rw[if_neg G];rw[aC]at h;exact ar (wpAny_richCompare_same_room (op:=.Eq) L as F.slot_tuple_eq
      (BO F.slot_tuple_eq L F.entry_tuple_eq (EQ d (fun h1 h2 h3 h4 h5 h6=>ih h1 h2 h3 h4 h5 h6) hl hm (by show A.units+1+d<cLine;omega) H Y al I J an ap ⟨_,rfl,(fun e=>nomatch e),rX h⟩) (F.args_tuple_eq_2 _ _)) (by omega))
theorem Gy:∀(d:Nat) {A:Around}{E:Zc}{s:Shared}{k:TK}{v:Value}{Q:Bool->Shared->Prop},k.depth<=d->nK s.heap k v->Q true s->wpAny (model prog w) A (eqIsQuiet d v) Q E s:=by
 intro d
 induction d with
 |zero =>
  intro A E s k v Q j i h;cases k with
  |t l=>exact absurd j (by show ¬(TK.depths l+1<=0);omega)
  |k a=>rw[eqIsQuiet_byValue _ ((A6 prog w).byValue a v i)];exact aT h
 |succ d D =>
  intro A E s k v Q j i h;cases k with
  |k a=>rw[eqIsQuiet_byValue _ ((A6 prog w).byValue a v i)];exact aT h
  |t l =>
   have G:TK.depths l<=d:=by have:TK.depths l+1<=d+1:=j;omega
   obtain⟨a,o,items,n,rfl,y,H,m,I⟩:=i;have z:s.TypeIs (.ref a) "tuple":=⟨o,y,H⟩;unfold eqIsQuiet;refine ar (EL z F.slot_tuple_eq.lookup ?_);show wpAny _ _ (isInstance (.ref a) (.type "tuple") >>= _) _ _ s;refine ar (DM z isSubtype_tuple_tuple ?_);simp only[DK,kh,if_false];refine ar (rW y m ?_);refine ar ?_;show wpAny _ _ (forIn items _ _) _ _ s;rw[<-Iu];refine wpAny_forIn_list _ (fun f r p=>r.1=none/\p=s/\∃left,TAts s.heap left f/\TK.depths left<=d) _ ?_ ?_ _ _ ⟨rfl,rfl,l,I,G⟩
   ·rintro v f r p ⟨q,rfl,left,g,u⟩;cases left with
    |nil=>have e:v::f=[]:=g;cases e
    |cons B left =>
     obtain⟨M,x,e,J,L⟩:=g;cases e;have C:max B.depth (TK.depths left)<=d:=u;refine ar (D (k:=B) (by omega) J ?_);simp only[DK,kh,if_false];exact aT ⟨rfl,rfl,left,L,by omega⟩
   ·rintro⟨N,O⟩ p ⟨q,rfl,_⟩;simp only at q;subst q;exact aT h
def eR(prog:b9)(w:World):HeapKind prog w TK where
 is:=fun h k a=>nK h k (.ref a)/\k.depth<=8
 hash:=TK.hash w
 draws:=TK.draws
 room:=fun A=>A.units+8<cLine
 inj:=fun hx hy=>nK.inj 8 hx.2 hx.1 hy.1
 keeps:=fun{h h' k a d o es ep} x ho hd hs=>⟨nK.mono (fun b ob items n hb _ hdb=>(hs.2 b fun e=>by
  subst e;rw[ho]at hb;cases hb;rw[hd]at hdb;cases hdb).trans hb) 8 x.2 x.1,x.2⟩
 pyHash:=fun hu hk h=>IB 8 hk.2 hu hk.1 h
 eqBool:=fun hu hx hy h=>K5 8 hx.2 hy.2 hu hx.1 hy.1 h
 quiet:=fun hk h=>Gy 8 hk.2 hk.1 h
end
end L2
namespace L2
open PySem PySem.Spec PyProof.Rows
inductive V where
 |non|bl (b:Bool)|int (i:Int)|str (x:Str)|byt (b:Array UInt8)|flt (b:UInt64)|ref (a:Addr)|ty (n:String)
 deriving DecidableEq
def RelV:V->Value->Prop
 |.non,u=>u=Value.none
 |.bl b,u=>u=Value.bool b
 |.int i,u=>∃t,u=Value.int i t
 |.str x,u=>∃t,u=Value.str x t
 |.byt b,u=>∃t,u=Value.bytes b t
 |.flt b,u=>∃t,u=Value.float b t
 |.ref a,u=>u=Value.ref a
 |.ty n,u=>u=Value.type n
abbrev ba:List V->List Value->Prop:=Paired RelV
theorem ba.length{a:List V}{e:Zf}(r:ba a e):a.length=e.length:=Paired.length r
theorem ba.get:∀{a:List V}{f:Zf}{i:Nat}{x:V},ba a f->a[i]?=some x->∃u,f[i]?=some u/\RelV x u
 |_,_,_,_,.nil,e=>by simp at e
 |_,_,0,_,.cons r _,e=>by simp at e;subst e;exact⟨_,rfl,r⟩
 |_,_,i+1,x,.cons _ t,e=>by
  obtain⟨u,g,h⟩:=ba.get (i:=i) (x:=x) t (by simpa using e);exact⟨u,by simpa using g,h⟩
theorem ba.set{x:V}{u:Value}(r:RelV x u):∀{a:List V}{e:Zf}(i:Nat),ba a e->ba (a.set i x) (e.set i u)
 |_,_,_,.nil=>.nil
 |_,_,0,.cons _ t=>.cons r t
 |_,_,i+1,.cons q t=>.cons q (ba.set r i t)
theorem ba.append:∀{a e:List V}{f g:Zf},ba a f->ba e g->ba (a++e) (f++g)
 |_,_,_,_,.nil,s=>s
 |_,_,_,_,.cons r t,s=>.cons r (ba.append t s)
theorem ba.take:∀{a:List V}{e:Zf}(n:Nat),ba a e->ba (a.take n) (e.take n)
 |_,_,0,_=>.nil
 |_,_,_+1,.nil=>.nil
 |_,_,n+1,.cons r t=>.cons r (ba.take n t)
theorem ba.drop:∀{a:List V}{e:Zf}(n:Nat),ba a e->ba (a.drop n) (e.drop n)
 |_,_,0,r=>r
 |_,_,_+1,.nil=>.nil
 |_,_,n+1,.cons _ t=>ba.drop n t
def lZ:Option V->Option Value->Prop
 |some v,some u=>RelV v u
 |none,none=>True
 |_,_=>False
def KV{κ:Type}:List (κ×V)->List (κ×Value)->Prop:=Paired fun(p:κ×V) (q:κ×Value)=>p.1=q.1/\RelV p.2 q.2
def kV:fG->V
 |.inl i=>.int i
 |.inr x=>.str x
def J8:oY->V
 |none=>.non
 |some k=>kV k
inductive HO where
 |lst (xs:List V)
 |tup (xs:List V)
 |dK (kvs:List (fG×V))|dT (kvs:List (TK×V))
 |set (S:Int->Bool) (n:Nat)
 |ins (C dx:Addr) (fs:List (Str×V))
 |own (x:Addr)
 |xd (fs:List (Str×V))
 |met (f x:Addr)
 |rng (lo hi:Int)
 |frz (o:Obj) (u:HO)
 |tbl (ps:Array Value)
 |ext (φ:Heap->Prop)
abbrev Hp:=Addr->Option HO
mutual
def cS(H:Hp):TK->V->Prop
 |.k a,v=>v=J8 a
 |.t l,v=>∃b xs,v=.ref b/\H b=some (.tup xs)/\TKAts H l xs
def TKAts(H:Hp):List TK->List V->Prop
 |[],vs=>vs=[]
 |k::r,vs=>∃v us,vs=v::us/\cS H k v/\TKAts H r us
end
def cE(K:Za)(H:Hp)(a:Addr)(xs:List V):Prop :=
 H a=some (.tup xs)∨∃(o:Obj) (its:Array Value) (n:Nat),K.lookup a=some o/\o.cls=.type "tuple"/\o.data=.seq its n/\its.size<=aj/\ba xs its.toList
theorem cE.keeps{K:Za}{H e:Hp}{a:Addr}{xs:List V}(h:cE K H a xs)(f:∀b xs,H b=some (.tup xs)->e b=some (.tup xs)):cE K e a xs:=h.imp (f a xs) id
mutual
def so(K:Za)(H:Hp):TK->V->Prop
 |.k a,v=>v=J8 a
 |.t l,v=>∃b xs,v=.ref b/\cE K H b xs/\TKCs K H l xs
def TKCs(K:Za)(H:Hp):List TK->List V->Prop
 |[],vs=>vs=[]
 |k::r,vs=>∃v us,vs=v::us/\so K H k v/\TKCs K H r us
end
theorem so.keeps{K:Za}{H g:Hp}(q:∀b xs,H b=some (.tup xs)->g b=some (.tup xs)):∀(d:Nat) {k:TK}{v:V},k.depth<=d->so K H k v->so K g k v:=by
 have j:∀(d:Nat) (h:∀{k:TK}{v:V},k.depth<=d->so K H k v->so K g k v) (xs:List TK) (i:List V),TK.depths xs<=d->TKCs K H xs i->TKCs K g xs i:=by
  intro d h xs
  induction xs with
  |nil=>intro i _ e;exact e
  |cons x xs m =>
   intro i f e;obtain⟨v,p,rfl,n,o⟩:=e;have r:max x.depth (TK.depths xs)<=d:=f;exact⟨v,p,rfl,h (by omega) n,m p (by omega) o⟩
 intro d
 induction d with
 |zero =>
  intro k v f e;cases k with
  |t l=>exact absurd f (by show ¬(TK.depths l+1<=0);omega)
  |k a=>exact e
 |succ d h =>
  intro k v f e;cases k with
  |k a=>exact e
  |t l =>
   obtain⟨b,xs,rfl,s,u⟩:=e;exact⟨b,xs,rfl,s.keeps q,j d (fun w=>h w) l xs (by have:TK.depths l+1<=d+1:=f;omega) u⟩
theorem cS.c{K:Za}{H:Hp}:∀(d:Nat) {k:TK}{v:V},k.depth<=d->cS H k v->so K H k v:=by
 have j:∀(d:Nat) (h:∀{k:TK}{v:V},k.depth<=d->cS H k v->so K H k v) (e:List TK) (i:List V),TK.depths e<=d->TKAts H e i->TKCs K H e i:=by
  intro d h e
  induction e with
  |nil=>intro i _ f;exact f
  |cons x e m =>
   intro i g f;obtain⟨v,p,rfl,n,o⟩:=f;have q:max x.depth (TK.depths e)<=d:=g;exact⟨v,p,rfl,h (by omega) n,m p (by omega) o⟩
 intro d
 induction d with
 |zero =>
  intro k v g f;cases k with
  |t l=>exact absurd g (by show ¬(TK.depths l+1<=0);omega)
  |k a=>exact f
 |succ d h =>
  intro k v g f;cases k with
  |k a=>exact f
  |t l =>
   obtain⟨b,e,rfl,r,s⟩:=f;exact⟨b,e,rfl,.inl r,j d (fun u=>h u) l e (by have:TK.depths l+1<=d+1:=g;omega) s⟩
def upd(H:Hp)(a:Addr)(o:HO):Hp:=fun b=>if b=a then some o else H b
theorem aa{H:Hp}{a:Addr}{o:HO}:upd H a o a=some o:=by unfold upd;rw[if_pos rfl]
theorem ai{H:Hp}{a b:Addr}{o:HO}(h:b≠a):upd H a o b=H b:=by unfold upd;rw[if_neg h]
theorem tj{H:Hp}{a:Addr}{o u:HO}:upd (upd H a o) a u=upd H a u:=by
 funext b;unfold upd;split<;>rfl
theorem Ho{H:Hp}{a b:Addr}{o u:HO}(h:H a=some o)(f:H b=some u)(d:o≠u):a≠b:=by
 intro e;subst e;rw[h]at f;exact d (fJ f)
theorem ae{H:Hp}{a b:Addr}{o:HO}(h:H a=some o)(f:H b=none):a≠b:=by
 intro e;subst e;rw[h]at f;cases f
section
variable(P:b9)(w:World)(K:Za)
def cw(H:Hp)(h:Heap)(a:Addr):HO->Prop
 |.lst xs=>xs.length<=aj/\∃(its:Zf) (n:Nat),ba xs its/\h.get? a=some { cls:=.type "list",data:=.seq its.toArray n }
 |.tup xs=>xs.length<=aj/\∃its:List Value,ba xs its/\IsTup h a its.toArray
 |.dK kvs=>kvs.length<=aj/\(a==iL)=false/\∃vs,KV kvs vs/\h.DictOf (cD P w) a vs
 |.dT kvs=>kvs.length<=aj/\(a==iL)=false/\∃xs:List (TK×Addr×Value),
   Paired (fun(p:TK×V) (q:TK×Addr×Value)=>p.1=q.1/\so K H p.1 (.ref q.2.1)/\p.1.depth<=8/\RelV p.2 q.2.2) kvs xs /\
   ∃o es ep,h.get? a=some o/\o.ExactDict/\o.data=.dict es ep/\es.toList=xs.map (entryOfKey (eR P w))/\(xs.map (·.1)).Nodup
 |.set S n=>h.SetOf (intKind P w) a S n
 |.ins C dx fs=>H dx=some (.own a)/\fs.length<=1000/\dx≠a/\h.get? a=some (rV C dx) /\
   ∃mA,h.Ns1 dx mA/\(∀f,lZ (fs.lookup f) (mA f))/\PySem.Within mA (fs.map (·.1))
 |.own _=>∃o,h.get? a=some o
 |.xd fs=>∃mA,h.Ns1 a mA/\∀f,lZ (fs.lookup f) (mA f)
 |.rng lo hi=>∃t u v,h.get? a=some { cls:=.type "range",data:=.fields #[.int lo t,.int hi u,.int 1 v] }
 |.frz o u=>h.get? a=some o/\cw H h a u
 |.tbl ps=>h.get? a=some { cls:=.none,data:=.fields ps }
 |.met f x=>h.get? a=some (PySem.W.methodObj (.ref f) (.ref x))
 |.ext φ=>φ h/\(∃o,h.get? a=some o)/\∀h1 h2:Heap,φ h1->(∀o,h1.get? a=some o->h2.get? a=some o)->φ h2
def nu(H:Hp)(h:Heap):Prop:=∀a o,H a=some o->cw P w K H h a o
end
section
variable{P:b9}{w:World}{K:Za}{H H':Hp}{h h':Heap}{a:Addr}{o:HO}
theorem cw.lt(x:cw P w K H h a o):a<h.objs.size:=by
 cases o with
 |lst i=>obtain⟨_,_,_,_,e⟩:=x;exact aO e
 |tup i=>obtain⟨_,_,_,p⟩:=x;exact p.lt
 |dK g=>obtain⟨_,_,_,_,o,_,_,e,_⟩:=x;exact aO e
 |dT g=>obtain⟨_,_,_,_,o,_,_,e,_⟩:=x;exact aO e
 |set S n=>obtain⟨o,_,_,_,e,_⟩:=x;exact aO e
 |ins C j fs=>obtain⟨_,_,_,e,_⟩:=x;exact aO e
 |own y=>obtain⟨_,e⟩:=x;exact aO e
 |xd fs=>obtain⟨_,⟨_,_,_,e,_⟩,_⟩:=x;exact aO e
 |rng lo k=>obtain⟨_,_,_,e⟩:=x;exact aO e
 |frz l u=>obtain⟨e,_⟩:=x;exact aO e
 |tbl m=>exact aO (show h.get? a=some _ from x)
 |met f y=>exact aO (show h.get? a=some _ from x)
 |ext φ=>obtain⟨_,⟨_,e⟩,_⟩:=x;exact aO e
theorem Paired.mapP{α β:Type}{F G:α->β->Prop}:∀{e:List α}{g:List β},Paired F e g->(∀a b,F a b->G a b)->Paired G e g
 |_,_,.nil,_=>.nil
 |_,_,.cons r t,f=>.cons (f _ _ r) (Paired.mapP t f)
theorem cw.stay(x:cw P w K H h a o)(k:∀b u,(b=a∨H b=some (.own a))->h.get? b=some u->h'.get? b=some u)
  (E:∀b,H b=some (.own a)->H' b=some (.own a)) (G:∀b m,H b=some (.tup m)->H' b=some (.tup m)):cw P w K H' h' a o:=by
 induction o with
 |lst m=>obtain⟨z,l,n,r,e⟩:=x;exact⟨z,l,n,r,k _ _ (.inl rfl) e⟩
 |tup m=>obtain⟨z,l,r,g,e,c⟩:=x;exact⟨z,l,r,g,k _ _ (.inl rfl) e,c⟩
 |dK s=>obtain⟨z,y,I,r,g,i,j,e,c⟩:=x;exact⟨z,y,I,r,g,i,j,k _ _ (.inl rfl) e,c⟩
 |dT s =>
  obtain⟨z,y,m,r,g,i,j,e,c⟩:=x;exact⟨z,y,m,Paired.mapP r fun p q z=>⟨z.1,so.keeps G 8 z.2.2.1 z.2.1,z.2.2⟩,g,i,j,k _ _ (.inl rfl) e,c⟩
 |set S n=>obtain⟨g,i,j,t,e,c⟩:=x;exact⟨g,i,j,t,k _ _ (.inl rfl) e,c⟩
 |ins C M fs =>
  obtain⟨d,z,ne,e,A,⟨B,i,j,J,c⟩,r⟩:=x;exact⟨E _ d,z,ne,k _ _ (.inl rfl) e,A,⟨B,i,j,k _ _ (.inr d) J,c⟩,r⟩
 |own y=>obtain⟨g,e⟩:=x;exact⟨g,k _ _ (.inl rfl) e⟩
 |xd fs=>obtain⟨A,⟨B,i,j,e,c⟩,r⟩:=x;exact⟨A,⟨B,i,j,k _ _ (.inl rfl) e,c⟩,r⟩
 |rng lo N=>obtain⟨t,u,v,e⟩:=x;exact⟨t,u,v,k _ _ (.inl rfl) e⟩
 |frz g u L=>obtain⟨e,q⟩:=x;exact⟨k _ _ (.inl rfl) e,L q⟩
 |tbl D =>
  have e:h.get? a=some { cls:=.none,data:=.fields D }:=x;show h'.get? a=some { cls:=.none,data:=.fields D };exact k a _ (.inl rfl) e
 |met f y =>
  have e:h.get? a=some (PySem.W.methodObj (.ref f) (.ref y)):=x;show h'.get? a=some (PySem.W.methodObj (.ref f) (.ref y));exact k a _ (.inl rfl) e
 |ext φ=>obtain⟨p,⟨o,e⟩,st⟩:=x;exact⟨st _ _ p fun o q=>k _ _ (.inl rfl) q,⟨o,k _ _ (.inl rfl) e⟩,st⟩
theorem nu.lt(x:nu P w K H h)(e:H a=some o):a<h.objs.size:=(x a o e).lt
theorem nu.fresh(x:nu P w K H h)(e:h.objs.size<=a):H a=none:=by
 cases q:H a with
 |none=>rfl
 |some u=>exact absurd (c9 (x.lt q) e) (kg _)
theorem nu.kept(x:nu P w K H h)(k:∀b u,h.get? b=some u->h'.get? b=some u):nu P w K H h':=fun a o e =>
 (x a o e).stay (fun b u _ q=>k b u q) (fun _ q=>q) fun _ _ q=>q
theorem nu.laid(x:nu P w K H h)(k:∀b u,h.get? b=some u->h'.get? b=some u)(i:h.objs.size<=a)(new:cw P w K (upd H a o) h' a o):nu P w K (upd H a o) h':=fun b u e=>by
 have f:=x.fresh i;by_cases g:b=a
 ·subst g;rw[aa]at e;cases e;exact new
 ·rw[ai g]at e;exact(x b u e).stay (fun c v _ q=>k c v q) (fun c q=>by rw[ai (ae q f)];exact q) fun c j q=>by rw[ai (ae q f)];exact q
end
def Rd(H:Hp)(a:Addr)(u:HO):Prop:=H a=some u∨∃o,H a=some (.frz o u)
theorem Rd.ok{P:b9}{w:World}{K:Za}{H:Hp}{h:Heap}{a:Addr}{u:HO}(r:Rd H a u)(x:nu P w K H h):cw P w K H h a u:=by
 rcases r with r|⟨o,r⟩
 ·exact x a u r
 ·obtain⟨_,q⟩:=x a _ r;exact q
def Ly:Option HO->Prop
 |some (.lst _)=>True
 |some (.dK _)=>True
 |some (.dT _)=>True
 |some (.set _ _)=>True
 |some (.ins _ _ _)=>True
 |some (.ext _)=>True
 |_=>False
section
variable{P:b9}{w:World}{K:Za}{H:Hp}{h h':Heap}{x e:Addr}{o':HO}
theorem nu.write(ok:nu P w K H h)(i:Ly (H x))(n:e=x∨H e=some (.own x))(k:∀b u,b≠e->h.get? b=some u->h'.get? b=some u)(m:∃u,h'.get? e=some u)
  (new:cw P w K (upd H x o') h' x o'):nu P w K (upd H x o') h':=fun b u q=>by
 have f:∀c y,H c=some (.own y)->c≠x:=fun c y r z=>by subst z;rw[r]at i;exact i
 have g:∀c j,H c=some (.tup j)->c≠x:=fun c j r z=>by subst z;rw[r]at i;exact i
 by_cases l:b=x
 ·subst l;rw[aa]at q;cases q;exact new
 ·rw[ai l]at q;by_cases a:b=e
  ·have o:H b=some (.own x):=by
    rcases n with z|z
    ·exact absurd (a.trans z) l
    ·rw[a];exact z
   rw[q]at o;cases o;obtain⟨v,p⟩:=m;exact⟨v,by rw[a];exact p⟩
  ·refine(ok b u q).stay (fun c v hc r=>k c v ?_ r) (fun c r=>by rw[ai (f c b r)];exact r) fun c j r=>by rw[ai (g c j r)];exact r
   rcases hc with rfl|hc
   ·exact a
   ·rintro rfl;rcases n with z|z
    ·exact f c b hc z
    ·rw[hc]at z;cases z;exact l rfl
end
structure Un(fs ex:Ze)(H H':Hp)(h h':Heap):Prop where
 keep:∀b o,h.get? b=some o->H b=none->b∉fs->b∉ex->h'.get? b=some o
 slot:∀b o,h.get? b=some o->H b=none->b∈fs->b∉ex->∃sl,h'.get? b=some { o with slots:=sl }
 free:∀b o,h.get? b=some o->H b=none->b∉ex->H' b=none
 there:∀b o,h.get? b=some o->b∉ex->∃o',h'.get? b=some o'
 tups:∀b xs,H b=some (.tup xs)->H' b=some (.tup xs)
 frzs:∀b o u,H b=some (.frz o u)->H' b=some (.frz o u)
 tbls:∀b ps,H b=some (.tbl ps)->∃more,H' b=some (.tbl (ps++more))
section
variable{fs fs' ex ex':Ze}{H H1 H2:Hp}{h h1 h2 h':Heap}{a x e:Addr}{o:HO}
theorem Un.any(u:Un fs ex H H1 h h1){b:Addr}{ob:Obj}(q:h.get? b=some ob)(n:H b=none)(f:b∉ex):∃i,h1.get? b=some { ob with slots:=i }:=by
 by_cases g:b∈fs
 ·exact u.slot b ob q n g f
 ·exact⟨ob.slots,u.keep b ob q n g f⟩
theorem Un.kept(k:∀b u,h.get? b=some u->h'.get? b=some u):Un fs ex H H h h' :=
 ⟨fun b f q _ _ _=>k b f q,fun b f q _ _ _=>⟨f.slots,k b f q⟩,fun _ _ _ n _=>n,fun b f q _=>⟨f,k b f q⟩,fun _ _ q=>q,fun _ _ _ q=>q,fun _ g q=>⟨#[],by rw[q];simp⟩⟩
theorem Un.refl:Un fs ex H H h h:=Un.kept fun _ _ q=>q
theorem Un.laid(k:∀b u,h.get? b=some u->h'.get? b=some u)(g:h.objs.size<=a)(f:H a=none):Un fs ex H (upd H a o) h h' where
 keep:=fun b u q _ _ _=>k b u q
 slot:=fun b u q _ _ _=>⟨u.slots,k b u q⟩
 free:=fun b u q n _=>by rw[ai (bW (c9 (aO q) g))];exact n
 there:=fun b u q _=>⟨u,k b u q⟩
 tups:=fun b i q=>by rw[ai (ae q f)];exact q
 frzs:=fun b u i q=>by rw[ai (ae q f)];exact q
 tbls:=fun b j q=>⟨#[],by rw[ai (ae q f),q];simp⟩
theorem Un.write(g:Ly (H x))(p:e=x∨H e=some (.own x))(k:∀b u,b≠e->h.get? b=some u->h'.get? b=some u)(i:∃u,h'.get? e=some u):Un fs ex H (upd H x o) h h':=by
 have l:∀b,H b=none->b≠x:=fun b n z=>by subst z;rw[n]at g;exact g
 have m:∀b,H b=none->b≠e:=fun b n z=>by
  subst z;rcases p with r|r
  ·exact l b n r
  ·rw[n]at r;cases r
 have j:∀b u,H b=some u->¬Ly (some u)->b≠x:=fun b u q s z=>by subst z;rw[q]at g;exact s g
 refine⟨fun b u q n _ _=>k b u (m b n) q,fun b u q n _ _=>⟨u.slots,k b u (m b n) q⟩,fun b u q n _=>by rw[ai (l b n)];exact n,fun b u q _=>?_,
  fun b t q=>by rw[ai (j b _ q fun z=>z)];exact q,fun b u t q=>by rw[ai (j b _ q fun z=>z)];exact q,fun b v q=>⟨#[],by rw[ai (j b _ q fun z=>z),q];simp⟩⟩
 by_cases f:b=e
 ·subst f;exact i
 ·exact⟨u,k b u f q⟩
end
def LH(h:Heap)(H:Hp):List Addr:=(lU h.objs.size).filter fun a=>(H a).isSome
def zH(h:Heap)(H:Hp):Heap:=PySem.W.hideAll h (LH h H)
theorem FH(h:Heap)(H:Hp):(zH h H).objs.size=h.objs.size:=PySem.W.hideAll_size _ _
theorem HH{h:Heap}{H:Hp}{b:Addr}{o:Obj}(e:h.get? b=some o)(n:H b=none):(zH h H).get? b=some o :=
 PySem.W.hideAll_get _ e fun a=>by
  have q:(H b).isSome=true:=(fQ.mp a).2;rw[n]at q;simp at q
theorem Jl{h:Heap}{H:Hp}{b:Addr}{o:Obj}(e:(zH h H).get? b=some o):h.get? b=some o/\H b=none:=by
 have a:h.get? b=some o:=PySem.W.of_hideAll (LH h H) e;refine⟨a,?_⟩;cases q:H b with
 |none=>rfl
 |some x =>
  have f:b∈LH h H:=fQ.mpr ⟨List.mem_range.mpr (aO a),by simp[q]⟩;have z:(zH h H).get? b=none:=PySem.W.hideAll_none (LH h H) f;rw[z]at e;cases e
end L2
namespace L2
open PySem PySem.Spec PyProof.Rows
structure Mod(K:Za)(mg:Str->Option Value)(base:Heap):Prop where
 kin:K.In base
 glob:base.Ns bV mg
 blt:∃mb,base.Ns builtinsNs mb/\∀x:Str,x≠"__name__"->mb x=i0 x
 nolimit:base.NoLimit
structure Cx where
 prog:b9
 w:World
 K:Za
 mg:Str->Option Value
 base:Heap
 A:Around
 N:List Str
 s₀:Shared
 H₀:Hp
 env:Env
 outer:List Env
 stack:List Env
 ex:List Addr
 fn:Str->Bool
 calm:Bool
 pn:List (Addr×Obj)
 xe:Value->Shared->Prop
def Gj(l:List Env):List Addr:=l.filterMap (·.frame)
abbrev Cx.fs(X:Cx):List Addr:=Gj X.outer
def LK(sc:Scope)(x:Str):Prop:=sc.names.lookup x=some .local∨sc.names.lookup x=some .cell∨sc.names.lookup x=some .free
def Loc(sc:Scope)(x:Str):Prop:=sc.names.lookup x=some .local∨sc.names.lookup x=some .cell
def Look(env:Env)(h:Heap)(m:Str->Option Value)(x:Str)(u:Value):Prop :=
 (env.kindOf x=some .local/\m x=some u)∨((env.kindOf x=some .cell∨env.kindOf x=some .free)/\∃c,env.cells.lookup x=some c/\h.IsCell c (some u))
structure Cx.Ok(X:Cx):Prop where
 mod:Mod X.K X.mg X.base
 kind:X.env.scope.kind=.function
 glob:X.env.globals=bV
 blt:X.env.builtins=builtinsNs
 above:X.s₀.heap.objs.size<=X.env.locals
 inj:∀x y c,X.env.cells.lookup x=some c->X.env.cells.lookup y=some c->x=y
 has:∀x,(X.env.kindOf x=some .cell∨X.env.kindOf x=some .free)->∃c,X.env.cells.lookup x=some c
 cab:∀x c,X.fn x=true->X.env.cells.lookup x=some c->X.s₀.heap.objs.size<=c
 hd:X.calm=true->X.A.handled=none
 frames:X.A.frames=some X.stack
 stk:X.stack=X.outer∨(X.stack=X.env::X.outer/\X.env.frame=some X.env.locals)
 exf:∀b∈X.ex,b≠X.env.locals/\∀x c,X.env.cells.lookup x=some c->c≠b
 bs:∀b o,X.base.get? b=some o->X.s₀.heap.get? b=some o/\X.H₀ b=none
 bsz:X.base.objs.size<=X.s₀.heap.objs.size
 noex:∀b o,X.base.get? b=some o->b∉X.ex
 exfs:∀b∈X.ex,b∉X.fs
 funs:X.s₀.heap.FunFrames X.base X.outer
 frf:∀b∈X.fs,X.H₀ b=none
structure Inv(X:Cx)(J3:Zd)(σ:List (Option V))(H:Hp)(s:Shared):Prop where
 ok:X.Ok
 os:s.os=X.s₀.os
 bare:o_ s.gens
 base:Un X.fs X.ex X.H₀ H X.s₀.heap s.heap
 loc:∃m,s.heap.Ns X.env.locals m/\∀(i:Nat) (x:Str) (v:V),X.N[i]?=some x->σ[i]?=some (some v)->LK X.env.scope x->∃u,RelV v u/\Look X.env s.heap m x u
 cell:∀x c,X.env.cells.lookup x=some c->∃v,s.heap.IsCell c v
 free:H X.env.locals=none
 freeC:∀x c,X.env.cells.lookup x=some c->H c=none
 pin:∀p∈X.pn++J3,s.heap.get? p.1=some p.2/\H p.1=none/\p.1≠X.env.locals/\p.1∉X.fs/\∀v,p.2.data≠.cell v
 hok:nu X.prog X.w X.K H s.heap
 len:σ.length=X.N.length
section
variable{X:Cx}{J3:Zd}{σ:List (Option V)}{H H':Hp}{s:Shared}{h':Heap}
theorem Cx.Ok.nofr(ok:X.Ok){b:Addr}{o:Obj}(e:X.base.get? b=some o):b∉X.fs:=fun a=>by
 have:=(ok.funs.mem a).1;rw[e]at this;cases this
theorem Inv.bs(I:Inv X J3 σ H s):∀b o,X.base.get? b=some o->s.heap.get? b=some o/\H b=none:=fun b o e =>
 ⟨I.base.keep b o (I.ok.bs b o e).1 (I.ok.bs b o e).2 (I.ok.nofr e) (I.ok.noex b o e),I.base.free b o (I.ok.bs b o e).1 (I.ok.bs b o e).2 (I.ok.noex b o e)⟩
theorem Inv.bk(I:Inv X J3 σ H s):∀b o,X.base.get? b=some o->s.heap.get? b=some o:=fun b o e=>(I.bs b o e).1
theorem Inv.mod(I:Inv X J3 σ H s):Mod X.K X.mg X.base:=I.ok.mod
theorem Inv.kIn(I:Inv X J3 σ H s):X.K.In s.heap:=I.ok.mod.kin.keeps I.bk
theorem Inv.lt(I:Inv X J3 σ H s):X.env.locals<s.heap.objs.size:=let⟨_,a,_⟩:=I.loc;a.lt
theorem Inv.sz(I:Inv X J3 σ H s):X.s₀.heap.objs.size<=s.heap.objs.size:=aE I.ok.above (cT I.lt)
theorem Inv.nofs(I:Inv X J3 σ H s){a:Addr}(h:s.heap.objs.size<=a):a∉X.fs:=fun e=>by
 obtain⟨_,o,f,_⟩:=I.ok.funs.mem e;exact absurd (c9 (aO f) (aE I.sz h)) (kg _)
theorem Inv.cne(I:Inv X J3 σ H s):∀x c,X.env.cells.lookup x=some c->c≠X.env.locals:=fun x c e z=>by
 obtain⟨v,o,g,h⟩:=I.cell x c e;obtain⟨m,⟨i,j,k,a,f,_⟩,_⟩:=I.loc;rw[z,a]at g;cases g;rw[f]at h;cases h
theorem Inv.funs(I:Inv X J3 σ H s):s.heap.FunFrames X.base X.outer:=by
 have all:∀(l:List Env),(∀b∈Gj l,b∈X.fs)->X.s₀.heap.FunFrames X.base l->s.heap.FunFrames X.base l:=by
  intro l
  induction l with
  |nil=>intro _ _;trivial
  |cons i r j =>
   intro h k;obtain⟨m,⟨L,o,a,n,p,q⟩,t⟩:=k;have f:L∈X.fs:=h L (by unfold Gj;rw[wF,a];exact cU);obtain⟨u,e⟩:=I.base.slot L o p (I.ok.frf L f) f fun z=>I.ok.exfs L z f;exact⟨m,⟨L,_,a,n,e,q⟩,j (fun b g=>h b (by unfold Gj;rw[wF,a];exact c7 _ g)) t⟩
 exact all X.outer (fun _ g=>g) I.ok.funs
theorem Inv.stack(I:Inv X J3 σ H s):s.heap.FunFrames X.base X.stack:=by
 rcases I.ok.stk with e|⟨e,a⟩
 ·rw[e];exact I.funs
 ·rw[e];obtain⟨m,f,_⟩:=I.loc;refine .cons (by rw[I.ok.kind];decide) a f ?_ I.funs;exact Heap.get?_none_of_le (aE I.ok.bsz I.ok.above)
theorem Inv.stkSub(I:Inv X J3 σ H s):∀b∈Gj X.stack,b∈X.env.locals::X.fs:=fun b a=>by
 rcases I.ok.stk with e|⟨e,f⟩
 ·rw[e]at a;exact c7 _ a
 ·rw[e]at a;unfold Gj at a;rw[wF,f]at a;exact a
theorem Inv.stkFree(I:Inv X J3 σ H s):∀b∈Gj X.stack,H b=none:=fun b hb=>by
 rcases cC.mp (I.stkSub b hb)with e|hb
 ·rw[e];exact I.free
 ·obtain⟨_,o,a,_⟩:=I.ok.funs.mem hb;exact I.base.free b o a (I.ok.frf b hb) fun z=>I.ok.exfs b z hb
theorem Inv.step{g':Array GenState}{t':Nat}{d':Drawn}{ch:Ze}(I:Inv X J3 σ H s)
  (f:∀b∈ch,(b∈X.ex∨X.s₀.heap.objs.size<=b)/\b≠X.env.locals/\(∀x c,X.env.cells.lookup x=some c->c≠b)/\∀p∈X.pn++J3,p.1≠b)
  (keep:∀b o,b≠X.env.locals->b∉X.fs->b∉ch->s.heap.get? b=some o->H b=none->h'.get? b=some o)
  (t:∀b o,b≠X.env.locals->b∈X.fs->b∉ch->s.heap.get? b=some o->H b=none->∃N,h'.get? b=some { o with slots:=N }) (free:∀b o,b∉ch->s.heap.get? b=some o->H b=none->H' b=none)
  (there:∀b o,b∉ch->s.heap.get? b=some o->∃C,h'.get? b=some C)
  (D:∀b y,H b=some (.tup y)->H' b=some (.tup y)) (E:∀b o u,H b=some (.frz o u)->H' b=some (.frz o u)) (G:∀b M,H b=some (.tbl M)->∃more,H' b=some (.tbl (M++more)))
  (ns:∀m,s.heap.Ns X.env.locals m->h'.Ns X.env.locals m) (O:nu X.prog X.w X.K H' h') (hg:o_ g') :
  Inv X J3 σ H' { s with heap:=h',gens:=g',drawn:=d',toks:=t' }:=by
 have J:∀b o,X.s₀.heap.get? b=some o->b≠X.env.locals:=fun b o e=>bW (c9 (aO e) I.ok.above);have h:∀b o,X.s₀.heap.get? b=some o->b∉X.ex->b∉ch:=fun b o e a A=>by
  rcases(f b A).1 with z|z
  ·exact a z
  ·exact absurd (c9 (aO e) z) (kg _)
 have cellK:∀x c,X.env.cells.lookup x=some c->∀v,s.heap.IsCell c v->h'.IsCell c v:=fun x c e v ⟨o,B,Q⟩=>by
  have g:c∉ch:=fun z=>(f c z).2.2.1 x c e rfl;by_cases U:c∈X.fs
  ·obtain⟨N,q⟩:=t c o (I.cne x c e) U g B (I.freeC x c e);exact⟨_,q,Q⟩
  ·exact⟨o,keep c o (I.cne x c e) U g B (I.freeC x c e),Q⟩
 refine⟨I.ok,I.os,hg,⟨fun b o e n A a=>?_,fun b o e n A a=>?_,fun b o e n a=>?_,fun b o e a=>?_,fun b y e=>D b y (I.base.tups b y e),fun b o y e=>E b o y (I.base.frzs b o y e),fun b M e=>?_⟩,?_,fun x c e=>?_,?_,fun x c e=>?_,fun p Y=>?_,O,I.len⟩
 ·exact keep b o (J b o e) A (h b o e a) (I.base.keep b o e n A a) (I.base.free b o e n a)
 ·obtain⟨N,j⟩:=I.base.slot b o e n A a;obtain⟨T,L⟩:=t b _ (J b o e) A (h b o e a) j (I.base.free b o e n a);exact⟨T,L⟩
 ·obtain⟨C,j⟩:=I.base.there b o e a;exact free b C (h b o e a) j (I.base.free b o e n a)
 ·obtain⟨C,j⟩:=I.base.there b o e a;exact there b C (h b o e a) j
 ·obtain⟨m1,j⟩:=I.base.tbls b M e;obtain⟨m2,L⟩:=G b _ j;exact⟨m1++m2,by rw[L,Array.append_assoc]⟩
 ·obtain⟨m,hn,hl⟩:=I.loc;refine⟨m,ns m hn,fun i x v j L e3=>?_⟩;obtain⟨u,r,l⟩:=hl i x v j L e3;refine⟨u,r,?_⟩;rcases l with l|⟨k,c,e,z⟩
  ·exact .inl l
  ·exact .inr ⟨k,c,e,cellK x c e _ z⟩
 ·obtain⟨v,z⟩:=I.cell x c e;exact⟨v,cellK x c e v z⟩
 ·obtain⟨m,⟨o,_,_,B,_⟩,_⟩:=I.loc;exact free _ o (fun z=>(f _ z).2.1 rfl) B I.free
 ·obtain⟨v,o,B,Q⟩:=I.cell x c e;exact free c o (fun z=>(f c z).2.2.1 x c e rfl) B (I.freeC x c e)
 ·obtain⟨e,n,ne,nf,d⟩:=I.pin p Y;have g:p.1∉ch:=fun z=>(f p.1 z).2.2.2 p Y rfl;exact⟨keep p.1 p.2 ne nf g e n,free p.1 p.2 g e n,ne,nf,d⟩
theorem Inv.un{t':Nat}(I:Inv X J3 σ H s)(u:Un X.fs [] H H' s.heap h')(f:nu X.prog X.w X.K H' h'):Inv X J3 σ H' { s with heap:=h',toks:=t' }:=by
 obtain⟨m,⟨o,q,t,j,r⟩,_⟩:=id I.loc;obtain⟨v,k⟩:=u.any j I.free (by simp);exact I.step (g':=s.gens) (d':=s.drawn) (ch:=[]) (fun _ z=>nomatch z) (fun b o _ g _ e n=>u.keep b o e n g (by simp)) (fun b o _ g _ e n=>u.slot b o e n g (by simp)) (fun b o _ e n=>u.free b o e n (by simp)) (fun b o _ e=>u.there b o e (by simp)) u.tups u.frzs u.tbls (fun x l=>by
  obtain⟨y,h,i,a,p⟩:=l;rw[j]at a;cases a;exact⟨_,h,i,k,p⟩) f I.bare
theorem Inv.call{g':Array GenState}{t':Nat}{d':Drawn}{ch:Ze}(I:Inv X J3 σ H s)(u:Un (Gj X.stack) ch H H' s.heap h')(h:nu X.prog X.w X.K H' h')(q:o_ g')
  (f:∀b∈ch,(b∈X.ex∨X.s₀.heap.objs.size<=b)/\b≠X.env.locals/\(∀x c,X.env.cells.lookup x=some c->c≠b)/\∀p∈X.pn++J3,p.1≠b) :
  Inv X J3 σ H' { s with heap:=h',gens:=g',drawn:=d',toks:=t' }:=by
 obtain⟨m,⟨o,A,B,l,r⟩,_⟩:=id I.loc;obtain⟨C,i⟩:=u.any l I.free fun z=>(f _ z).2.1 rfl;exact I.step (ch:=ch) f (fun b o i t a e n=>u.keep b o e n (fun z=>(cC.mp (I.stkSub b z)).elim i t) a) (fun b o _ _ a e n=>u.any e n a) (fun b o a e n=>u.free b o e n a) (fun b o a e=>u.there b o e a) u.tups u.frzs u.tbls (fun D v=>by
  obtain⟨E,j,k,g,y⟩:=v;rw[l]at g;cases g;exact⟨_,j,k,i,y⟩) h q
theorem Inv.turned{t':Nat}{it:Addr}(I:Inv X J3 σ H s)(k:∀b o,b≠it->s.heap.get? b=some o->h'.get? b=some o)(h:H it=none)(g:it≠X.env.locals)
  (i:it∈X.ex∨X.s₀.heap.objs.size<=it) (j:∀x c,X.env.cells.lookup x=some c->c≠it) (l:∀p∈X.pn++J3,p.1≠it):Inv X J3 σ H { s with heap:=h',toks:=t' }:=by
 have f:∀b u,H b=some u->b≠it:=fun b u e z=>by rw[z,h]at e;cases e
 refine I.step (g':=s.gens) (d':=s.drawn) (ch:=[it]) (fun b t=>?_) (fun b o _ _ a e _=>k b o (fun z=>a (by simp[z])) e) (fun b o _ _ a e _=>⟨o.slots,k b o (fun z=>a (by simp[z])) e⟩) (fun _ _ _ _ n=>n)
  (fun b o a e=>⟨o,k b o (fun z=>a (by simp[z])) e⟩) (fun _ _ e=>e) (fun _ _ _ e=>e) (fun b C e=>⟨#[],by rw[e];simp⟩) (fun m w=>?_) (fun b u e=>?_) I.bare
 ·have e:b=it:=by simpa using t
  subst e;exact⟨i,g,j,l⟩
 ·obtain⟨o,y,A,B,r⟩:=w;exact⟨o,y,A,k _ o (gk g) B,r⟩
 ·refine(I.hok b u e).stay (fun c v a q=>k c v ?_ q) (fun _ q=>q) fun _ _ q=>q;rcases a with z|z
  ·rw[z];exact f b u e
  ·exact f c _ z
theorem Inv.tok(I:Inv X J3 σ H s)(t:Nat):Inv X J3 σ H { s with toks:=t }:=I.un (h':=s.heap) (t':=t) Un.refl I.hok
theorem Inv.kept{t':Nat}(I:Inv X J3 σ H s)(k:∀b u,s.heap.get? b=some u->h'.get? b=some u):Inv X J3 σ H { s with heap:=h',toks:=t' }:=I.un (Un.kept k) (I.hok.kept k)
theorem Inv.laid{a:Addr}{o:HO}{t':Nat}(I:Inv X J3 σ H s)(k:∀b u,s.heap.get? b=some u->h'.get? b=some u)(e:s.heap.objs.size<=a)(new:cw X.prog X.w X.K (upd H a o) h' a o):
  Inv X J3 σ (upd H a o) { s with heap:=h',toks:=t' }:=I.un (Un.laid k e (I.hok.fresh e)) (I.hok.laid k e new)
theorem Inv.write{x e:Addr}{o:HO}{t':Nat}(I:Inv X J3 σ H s)(f:Ly (H x))(g:e=x∨H e=some (.own x))(k:∀b u,b≠e->s.heap.get? b=some u->h'.get? b=some u)(a:∃u,h'.get? e=some u)
  (new:cw X.prog X.w X.K (upd H x o) h' x o):Inv X J3 σ (upd H x o) { s with heap:=h',toks:=t' }:=I.un (Un.write f g k a) (I.hok.write f g k a new)
theorem Inv.weak{σ':List (Option V)}(I:Inv X J3 σ H s)(e:σ'.length=σ.length)(w:∀(i:Nat) v,σ'[i]?=some (some v)->σ[i]?=some (some v)):Inv X J3 σ' H s :=
 ⟨I.ok,I.os,I.bare,I.base,let⟨m,f,a⟩:=I.loc;⟨m,f,fun i x v g h j=>a i x v g (w i v h) j⟩,I.cell,I.free,I.freeC,I.pin,I.hok,e.trans I.len⟩
theorem Inv.pins_of{a:Zd}(I:Inv X J3 σ H s)(h:∀p∈a,s.heap.get? p.1=some p.2/\H p.1=none/\p.1≠X.env.locals/\p.1∉X.fs/\∀v,p.2.data≠.cell v):Inv X a σ H s :=
 ⟨I.ok,I.os,I.bare,I.base,I.loc,I.cell,I.free,I.freeC,fun p e=>(bL.mp e).elim (fun z=>I.pin p (eg _ z)) (h p),I.hok,I.len⟩
theorem AY{N:Zb}(e:N.Nodup){i j:Nat}{x:Str}(a:N[i]?=some x)(b:N[j]?=some x):i=j:=by
 obtain⟨h,f⟩:=bM.mp a;obtain⟨k,g⟩:=bM.mp b;exact(List.getElem_inj e).mp (f.trans g.symm)
theorem wO{M:Model}{A:Around}{E:Zc}{i:Nat}{x:Str}{v:V}{u:Value}{Q:Unit->Shared->Prop}(I:Inv X J3 σ H s)(hN:X.N.Nodup)(C:X.N[i]?=some x)(l:Loc X.env.scope x)(r:RelV v u)
  (h:∀s',Inv X J3 (σ.set i (some v)) H s'->(∃a,jy a s.heap s'.heap/\(a=X.env.locals∨X.env.cells.lookup x=some a))->Q () s') (hf:X.fn x=true∨X.env.scope.names.lookup x=some .local:=by first|exact .inl rfl|exact .inr rfl|assumption):wpAny M A (storeName X.env x u) Q E s:=by
 obtain⟨m,hn,hl⟩:=id I.loc;have L:(X.env.scope.kind==.class || (X.env.scope.kind==.module && X.env.locals != X.env.globals))=false:=by rw[I.ok.kind];rfl
 have Cσ:i<σ.length:=by rw[I.len];exact(bM.mp C).1
 have cne:=I.cne;have tracked:∀{a:Addr}{h':Heap},(∃o,s.heap.get? a=some o/\H a=none)->jy a s.heap h'->nu X.prog X.w X.K H h':=fun{a h'} ha f b ob e=>by
  obtain⟨_,_,t⟩:=ha;refine(I.hok b ob e).stay (fun c w' hc q=>(f.2 c ?_).trans q) (fun _ q=>q) fun _ _ q=>q;rintro rfl;rcases hc with rfl|hc
  ·rw[t]at e;cases e
  ·rw[t]at hc;cases hc
 rcases l with hk|hk
 ·refine wpAny_storeName_local hk hn (fun h' al f=>?_) L;obtain⟨oL,_,_,an,_⟩:=id hn;refine h _ ⟨I.ok,I.os,I.bare,⟨fun b o e n D l=>?_,fun b o e n D l=>?_,I.base.free,fun b o e l=>?_,I.base.tups,I.base.frzs,I.base.tbls⟩,⟨_,al,fun j y v' g B e3=>?_⟩,fun y c e=>?_,I.free,I.freeC,fun p hp=>?_,tracked ⟨oL,an,I.free⟩ f,by simpa using I.len⟩ ⟨_,f,.inl rfl⟩
  ·exact(f.2 b (bW (c9 (aO e) I.ok.above))).trans (I.base.keep b o e n D l)
  ·obtain⟨sl,g⟩:=I.base.slot b o e n D l;exact⟨sl,(f.2 b (bW (c9 (aO e) I.ok.above))).trans g⟩
  ·obtain⟨o',g⟩:=I.base.there b o e l;exact⟨o',(f.2 b (bW (c9 (aO e) I.ok.above))).trans g⟩
  ·by_cases G:j=i
   ·subst G;rw[C]at g;cases g;rw[List.getElem?_set_self Cσ]at B;cases B;exact⟨u,r,.inl ⟨hk,by simp⟩⟩
   ·rw[List.getElem?_set_ne (gk G)]at B;obtain⟨u',r',q⟩:=hl j y v' g B e3;refine⟨u',r',?_⟩;rcases q with⟨k,e⟩|⟨k,c,e,z⟩
    ·refine .inl ⟨k,?_⟩;have:y≠x:=fun e=>G (AY hN g (e▸C));simp[this,e]
    ·exact .inr ⟨k,c,e,z.sameBut f (cne y c e)⟩
  ·obtain⟨w',z⟩:=I.cell y c e;exact⟨w',z.sameBut f (cne y c e)⟩
  ·obtain⟨e,n,ne,nf,d⟩:=I.pin p hp;exact⟨(f.2 p.1 ne).trans e,n,ne,nf,d⟩
 ·have J:X.fn x=true:=by
   rcases hf with z|z
   ·exact z
   ·rw[z]at hk;cases hk
  obtain⟨c,hc⟩:=I.ok.has x (.inl hk);obtain⟨w',z⟩:=I.cell x c hc;refine wpAny_storeName_cell I.ok.kind hk hc z (fun h' O f=>?_);obtain⟨oc,T,U⟩:=id z;refine h { s with heap:=h' } ⟨I.ok,I.os,I.bare,⟨fun b o e n D l=>?_,fun b o e n D l=>?_,I.base.free,fun b o e l=>?_,I.base.tups,I.base.frzs,I.base.tbls⟩,⟨m,hn.sameBut f (gk (cne x c hc)),fun j y v' g B e3=>?_⟩,fun y c' e=>?_,I.free,I.freeC,fun p hp=>?_,tracked ⟨oc,T,I.freeC x c hc⟩ f,by simpa using I.len⟩ ⟨c,f,.inr hc⟩
  ·exact(f.2 b (bW (c9 (aO e) (I.ok.cab x c J hc)))).trans (I.base.keep b o e n D l)
  ·obtain⟨sl,g⟩:=I.base.slot b o e n D l;exact⟨sl,(f.2 b (bW (c9 (aO e) (I.ok.cab x c J hc)))).trans g⟩
  ·obtain⟨o',g⟩:=I.base.there b o e l;exact⟨o',(f.2 b (bW (c9 (aO e) (I.ok.cab x c J hc)))).trans g⟩
  ·by_cases G:j=i
   ·subst G;rw[C]at g;cases g;rw[List.getElem?_set_self Cσ]at B;cases B;exact⟨u,r,.inr ⟨.inl hk,c,hc,O⟩⟩
   ·rw[List.getElem?_set_ne (gk G)]at B;obtain⟨u',r',q⟩:=hl j y v' g B e3;refine⟨u',r',?_⟩;rcases q with q|⟨k,c',e,z'⟩
    ·exact .inl q
    ·refine .inr ⟨k,c',e,z'.sameBut f ?_⟩;rintro rfl;exact G (AY hN g (I.ok.inj _ _ _ e hc▸C))
  ·by_cases Y:c'=c
   ·subst Y;exact⟨_,O⟩
   ·obtain⟨w2,z2⟩:=I.cell y c' e;exact⟨w2,z2.sameBut f Y⟩
  ·obtain⟨e,n,ne,nf,d⟩:=I.pin p hp;refine⟨(f.2 p.1 ?_).trans e,n,ne,nf,d⟩;intro q;rw[q,T]at e;have q':oc=p.2:=fJ e;exact d w' (by rw[<-q'];exact U)
theorem uz{M:Model}{A:Around}{E:Zc}{i:Nat}{x:Str}{v:V}{u:Value}{Q:Unit->Shared->Prop}(I:Inv X J3 σ H s)(e:X.N.Nodup)(f:X.N[i]?=some x)(g:Loc X.env.scope x)(r:RelV v u)
  (h:∀a,Inv X J3 (σ.set i (some v)) H a->Q () a) (j:X.fn x=true∨X.env.scope.names.lookup x=some .local:=by first|exact .inl rfl|exact .inr rfl|assumption):wpAny M A (storeName X.env x u) Q E s :=
 wO I e f g r (fun a k _=>h a k) j
theorem Inv.call'{a:Shared}{h:Ze}(I:Inv X J3 σ H s)(i:a.os=s.os)(u:Un (Gj X.stack) h H H' s.heap a.heap)(f:nu X.prog X.w X.K H' a.heap)(j:o_ a.gens)
  (g:∀b∈h,(b∈X.ex∨X.s₀.heap.objs.size<=b)/\b≠X.env.locals/\(∀x c,X.env.cells.lookup x=some c->c≠b)/\∀p∈X.pn++J3,p.1≠b):Inv X J3 σ H' a:=by
 obtain⟨h',k,l,m,n⟩:=a;have e:n=s.os:=i;subst e;exact I.call (g':=k) (t':=m) (d':=l) u f j g
end
abbrev XK:=Value->Option Addr->Hp->Prop
abbrev St:=List (Option V)
abbrev VK:=V->Hp->Prop
abbrev TE:=St->Hp->VK->Prop
abbrev TT:=St->Hp->(Bool->Hp->Prop)->Prop
abbrev TA:=St->Hp->(List V->Hp->Prop)->Prop
structure rL where
 nx:St->Hp->Prop
 rt:VK
 bk:St->Hp->Prop:=fun _ _=>False
 ct:St->Hp->Prop:=fun _ _=>False
abbrev bj(Q:VK):rL:={ nx:=fun _ H=>Q .non H,rt:=Q }
abbrev TS:=rL->St->Hp->Prop
def EP(X:Cx)(J3:Zd)(σ:St)(Q:VK)(u:Value)(s':Shared):Prop:=∃v H',Inv X J3 σ H' s'/\RelV v u/\Q v H'
def TP(X:Cx)(J3:Zd)(σ:St)(Q:Bool->Hp->Prop)(b:Bool)(s':Shared):Prop:=∃H',Inv X J3 σ H' s'/\Q b H'
def AP(X:Cx)(J3:Zd)(σ:St)(Q:List V->Hp->Prop)(us:Zf)(s':Shared):Prop:=∃vs H',Inv X J3 σ H' s'/\ba vs us/\Q vs H'
def SP(X:Cx)(J3:Zd)(D:rL)(f:Flow)(s':Shared):Prop :=
 match f with
 |.next=>∃σ' H',Inv X J3 σ' H' s'/\D.nx σ' H'
 |.brk=>∃σ' H',Inv X J3 σ' H' s'/\D.bk σ' H'
 |.cont=>∃σ' H',Inv X J3 σ' H' s'/\D.ct σ' H'
 |.ret u=>∃v σ' H',Inv X J3 σ' H' s'/\RelV v u/\D.rt v H'
def PE(X:Cx)(e:Expr)(t:TE):Prop :=
 ∀(J3:Zd) (s:Shared) (σ:St) (H:Hp) (Q:VK),Inv X J3 σ H s->t σ H Q->wpAny (model X.prog X.w) X.A (eval e X.env) (EP X J3 σ Q) X.xe s
def PT(X:Cx)(e:Expr)(t:TT):Prop :=
 ∀(J3:Zd) (s:Shared) (σ:St) (H:Hp) (Q:Bool->Hp->Prop),Inv X J3 σ H s->t σ H Q->wpAny (model X.prog X.w) X.A (isTrue e X.env (eval e X.env)) (TP X J3 σ Q) X.xe s
def PW(X:Cx)(e:Expr)(t:TT):Prop :=
 ∀(whole:Sem Value) (J3:Zd) (s:Shared) (σ:St) (H:Hp) (Q:Bool->Hp->Prop),Inv X J3 σ H s->t σ H Q->wpAny (model X.prog X.w) X.A (isTrue e X.env whole) (TP X J3 σ Q) X.xe s
theorem PW.pt{X:Cx}{e:Expr}{t:TT}(h:PW X e t):PT X e t:=h _
def PA(X:Cx)(es:List Expr)(t:TA):Prop :=
 ∀(pos:Pos) (J3:Zd) (s:Shared) (σ:St) (H:Hp) (Q:List V->Hp->Prop),Inv X J3 σ H s->t σ H Q->wpAny (model X.prog X.w) X.A (spliced (backTo pos (aL es X.env))) (AP X J3 σ Q) X.xe s
def PS(X:Cx)(st:Stmt)(t:TS):Prop :=
 ∀(J3:Zd) (s:Shared) (σ:St) (H:Hp) (D:rL),Inv X J3 σ H s->t D σ H->wpAny (model X.prog X.w) X.A (exec st X.env) (SP X J3 D) X.xe s
def BM(X:Cx)(st:List Stmt)(t:TS):Prop :=
 ∀(J3:Zd) (s:Shared) (σ:St) (H:Hp) (D:rL),Inv X J3 σ H s->t D σ H->wpAny (model X.prog X.w) X.A (execs st X.env) (SP X J3 D) X.xe s
theorem cH{α:Type}{t:Sem α}{Q e:α->Shared->Prop}{M:Model}{A:Around}{E:Zc}{s:Shared}(h:wpAny M A t Q E s)(f:∀a s,Q a s->e a s):wpAny M A t e E s:=pb h f fun _ _ x=>x
end L2
namespace L2
open PySem PySem.Spec PyProof.Rows
section
variable{X:Cx}
def oA(i:Nat):TE:=fun σ H Q=>∃v,σ[i]?=some (some v)/\Q v H
abbrev V0:TE:=oA 0
abbrev V1:TE:=oA 1
abbrev V2:TE:=oA 2
abbrev V3:TE:=oA 3
abbrev V4:TE:=oA 4
abbrev V5:TE:=oA 5
abbrev V6:TE:=oA 6
abbrev V7:TE:=oA 7
abbrev V8:TE:=oA 8
abbrev V9:TE:=oA 9
abbrev F0:TE:=oA 10
abbrev KL:TE:=oA 11
abbrev KY:TE:=oA 12
def tC(v:V):TE:=fun _ H Q=>Q v H
theorem Kx{i:Nat}{x:Str}{g:Pos}(o:X.N[i]?=some x)(p:LK X.env.scope x)(j:(x==("__debug__":Str))=false:=by decide)(k:(x==("__classdict__":Str))=false:=by decide):PE X (.Name x g) (oA i):=by
 intro J3 s σ H Q I h;obtain⟨v,e,h⟩:=h;obtain⟨m,q,t⟩:=I.loc;obtain⟨u,r,l⟩:=t i x v o e p;have f:EP X J3 σ Q u s:=⟨v,H,I,r,h⟩;rcases l with⟨hk,w⟩|⟨hk,c,n,a⟩
 ·exact wpAny_Name (wpAny_loadName_local I.ok.kind hk q w f) j
 ·rcases hk with hk|hk
  ·exact wpAny_Name (wpAny_loadName_cell I.ok.kind hk n a f) j
  ·exact wpAny_Name (wpAny_loadName_free I.ok.kind hk n a f k) j
theorem ag{i j a}:PE X (.Constant (.int i) j a) (tC (.int i)):=fun _ _ _ H _ I h=>wpAny_Constant_int ⟨.int i,H,I.tok _,⟨_,rfl⟩,h⟩
theorem kB{b j a}:PE X (.Constant (.bool b) j a) (tC (.bl b)):=fun _ _ _ H _ I h=>Constant_bool ⟨.bl b,H,I,rfl,h⟩
theorem gK{j a}:PE X (.Constant .none j a) (tC .non):=fun _ _ _ H _ I h=>Constant_none ⟨.non,H,I,rfl,h⟩
theorem bh{x j a}:PE X (.Constant (.str x) j a) (tC (.str x)):=fun _ _ _ H _ I h=>Calls.Constant_str ⟨.str x,H,I.tok _,⟨_,rfl⟩,h⟩
def Gl(X:Cx)(x:Str):Prop:=X.env.kindOf x=some .globalImplicit
theorem zq{E:Zc}{e:Zd}{s:Shared}{σ:St}{H:Hp}{x:Str}{u:Value}{a:Pos}{Q:Zc}(I:Inv X e σ H s)(f:Gl X x)(g:X.mg x=some u)(h:Q u s)
  (i:(x==("__debug__":Str))=false:=by decide):wpAny (model X.prog X.w) X.A (eval (.Name x a) X.env) Q E s :=
 Calls.Name_function_global I.ok.kind f (Calls.loadGlobal_global (by rw[I.ok.glob];exact I.mod.glob.keeps I.bk) g h) i
theorem iI{E:Zc}{e:Zd}{s:Shared}{σ:St}{H:Hp}{x:Str}{u:Value}{a:Pos}{Q:Zc}(I:Inv X e σ H s)(f:Gl X x)(g:X.mg x=none)(i:i0 x=some u)(h:Q u s)
  (j:x≠"__name__":=by decide) (k:(x==("__debug__":Str))=false:=by decide):wpAny (model X.prog X.w) X.A (eval (.Name x a) X.env) Q E s:=by
 obtain⟨n,l,m⟩:=I.mod.blt;exact Calls.Name_function_global I.ok.kind f (Calls.loadGlobal_builtin (by rw[I.ok.glob];exact I.mod.glob.keeps I.bk) g (by rw[I.ok.blt];exact l.keeps I.bk) ((m x j).trans i) h) k
theorem Jg{x:Str}{v:V}{u:Value}{a:Pos}(e:Gl X x)(f:X.mg x=some u)(r:RelV v u)(g:(x==("__debug__":Str))=false:=by decide):PE X (.Name x a) (tC v) :=
 fun _ _ _ H _ I h=>zq I e f ⟨v,H,I,r,h⟩ g
theorem Jj{x:Str}{v:V}{u:Value}{a:Pos}(e:Gl X x)(f:X.mg x=none)(g:i0 x=some u)(r:RelV v u)(i:x≠"__name__":=by decide)(j:(x==("__debug__":Str))=false:=by decide):PE X (.Name x a) (tC v) :=
 fun _ _ _ H _ I h=>iI I e f g ⟨v,H,I,r,h⟩ i j
variable{a b:Expr}{ta tb:TE}{pos:Pos}
def PC(X:Cx)(op:CmpOp)(a b:Expr)(t:TE):Prop :=
 ∀(J3:Zd) (s:Shared) (σ:St) (H:Hp) (Q:VK),Inv X J3 σ H s->t σ H Q ->
  wpAny (model X.prog X.w) X.A (eval a X.env) (fun v s₁=>wpAny (model X.prog X.w) X.A (eval b X.env) (fun u s₂=>wpAny (model X.prog X.w) X.A (fP op v u) (EP X J3 σ Q) X.xe s₂) X.xe s₁) X.xe s
theorem AZ(b:Expr){e:CmpOp}(h:e≠.In)(f:e≠.NotIn):lT e b=false:=by
 have g:(e==CmpOp.In)=false:=by cases e<;>first|rfl|exact absurd rfl h
 have i:(e==CmpOp.NotIn)=false:=by cases e<;>first|rfl|exact absurd rfl f
 cases b<;>simp[lT,g,i]
def Ce(ta:TE):TE:=fun σ H Q=>ta σ H fun x H1=>Q (.bl (decide (x=.non))) H1
def wN(ta:TE):TE:=fun σ H Q=>ta σ H fun x H1=>Q (.bl (!decide (x=.non))) H1
theorem RelV.none_iff{x:V}{v:Value}(r:RelV x v):(v==Value.none)=decide (x=.non):=by
 cases x with
 |non=>cases r;rfl
 |bl _=>cases r;rfl
 |int _=>obtain⟨t,rfl⟩:=r;rfl
 |str _=>obtain⟨t,rfl⟩:=r;rfl
 |byt _=>obtain⟨t,rfl⟩:=r;rfl
 |flt _=>obtain⟨t,rfl⟩:=r;rfl
 |ref _=>cases r;rfl
 |ty _=>cases r;rfl
theorem rc{j e}(g:PE X a ta):PC X .Is a (.Constant .none j e) (Ce ta):=by
 intro i s σ H Q I h;refine cH (g i s σ H _ I h) fun v o f=>?_;obtain⟨x,k,l,m,n⟩:=f;exact Constant_none (is_none_gen ⟨.bl _,k,l,by rw[m.none_iff];rfl,n⟩)
theorem pQ{j e}(g:PE X a ta):PC X .IsNot a (.Constant .none j e) (wN ta):=by
 intro i s σ H Q I h;refine cH (g i s σ H _ I h) fun v o f=>?_;obtain⟨x,k,l,m,n⟩:=f;exact Constant_none (isnot_none_gen ⟨.bl _,k,l,by rw[m.none_iff];rfl,n⟩)
def tB(t:TE):TT:=fun σ H Q=>t σ H fun x H1=>∃c,x=.bl c/\Q c H1
theorem Kz{e:CmpOp}{t:TE}(h:PC X e a b t)(f:lT e b=false:=by first|exact AZ _ (by decide) (by decide)|rfl):PE X (.Compare a [e] [b] pos) t:=fun g s σ H Q I i=>wpAny_Compare1 (h g s σ H Q I i) f
theorem cL{e:CmpOp}{t:TE}(h:PC X e a b t)(f:lT e b=false:=by first|exact AZ _ (by decide) (by decide)|rfl):PT X (.Compare a [e] [b] pos) (tB t):=by
 intro i s σ H Q I j;refine wpAny_isTrue_Compare1 (cH (h i s σ H _ I j) fun v p f=>cH f fun u r k=>cH k fun c w g=>?_) f;obtain⟨x,l,m,n,o⟩:=g;obtain⟨d,rfl,q⟩:=o;cases n;exact rX ⟨l,m,q⟩
theorem oI{e:Expr}{t:TE}(h:PE X e t)(g:∀whole,isTrue e X.env whole=(do let v <- whole;rT e.pos;lS [v] (truthy v)):=by intro _;rfl):PT X e (tB t):=by
 intro i s σ H Q I j;refine isTrue_plain (cH (h i s σ H _ I j) fun v o f=>?_) (g _);obtain⟨x,k,l,m,n⟩:=f;obtain⟨d,rfl,q⟩:=n;cases m;exact rX ⟨k,l,q⟩
variable{tA tB':TT}{rest:List Expr}
def sQ(t u:TT):TT:=fun σ H Q=>t σ H fun c H1=>if c=true then u σ H1 Q else Q false H1
def Cc(t u:TT):TT:=fun σ H Q=>t σ H fun c H1=>if c=true then Q true H1 else u σ H1 Q
def IG(t:TT):TT:=fun σ H Q=>t σ H fun c H1=>Q (!c) H1
theorem lb(f:PT X a tA):PW X (.BoolOp .And [a] pos) tA:=by
 intro i g s σ H Q I h;refine isTrue_and (cH (f g s σ H Q I h) fun c j e=>?_);cases c with
 |true=>exact isTrue_and_nil e
 |false=>exact e
theorem jj(f:PT X a tA):PW X (.BoolOp .Or [a] pos) tA:=by
 intro i g s σ H Q I h;refine isTrue_or (cH (f g s σ H Q I h) fun c j e=>?_);cases c with
 |false=>exact isTrue_or_nil e
 |true=>exact e
theorem lc(k:PT X a tA)(l:PW X (.BoolOp .And (b::rest) pos) tB'):PW X (.BoolOp .And (a::b::rest) pos) (sQ tA tB'):=by
 intro m f s σ H Q I h;refine isTrue_and (cH (k f s σ H _ I h) fun c n e=>?_);obtain⟨g,i,j⟩:=e;cases c with
 |true=>exact l m f n σ g Q i j
 |false=>exact⟨g,i,j⟩
theorem jF(k:PT X a tA)(l:PW X (.BoolOp .Or (b::rest) pos) tB'):PW X (.BoolOp .Or (a::b::rest) pos) (Cc tA tB'):=by
 intro m f s σ H Q I h;refine isTrue_or (cH (k f s σ H _ I h) fun c n e=>?_);obtain⟨g,i,j⟩:=e;cases c with
 |true=>exact⟨g,i,j⟩
 |false=>exact l m f n σ g Q i j
theorem CI(e:PT X a tA):PT X (.UnaryOp .Not a pos) (IG tA):=by
 intro f s σ H Q I h;exact isTrue_not (e f s σ H (fun c g=>Q (!c) g) I h)
def AC(ta tb:TE):TE:=fun σ H Q=>ta σ H fun x H1=>∃c,x=.bl c/\if c=true then tb σ H1 Q else Q (.bl false) H1
theorem G9{e}{t:TE}(h:PE X a t):PE X (.BoolOp e [a] pos) t:=fun f s σ H Q I g=>BoolOp_one (h f s σ H Q I g)
theorem CN(k:PE X a ta)(l:PE X (.BoolOp .And (b::rest) pos) tb):PE X (.BoolOp .And (a::b::rest) pos) (AC ta tb):=by
 intro g s σ H Q I h;refine BoolOp_and (cH (k g s σ H _ I h) fun v m f=>?_);obtain⟨x,i,j,n,e⟩:=f;obtain⟨c,rfl,e⟩:=e;cases n;refine rX ?_;cases c with
 |true=>exact l g m σ i Q j e
 |false=>exact⟨.bl false,i,j,rfl,e⟩
end
end L2
namespace L2
open PySem PySem.Spec PyProof.Rows
def aw(K:Za)(H:Hp)(a:Addr)(xs:List V):Prop :=
 Rd H a (.lst xs) ∨
  ∃(o:Obj) (its:Array Value) (n:Nat),K.lookup a=some o/\o.cls=.type "list"/\o.dict=none/\o.data=.seq its n/\its.size<=aj/\ba xs its.toList
def bQ(K:Za)(H:Hp)(a:Addr)(xs:List V):Prop :=
 Rd H a (.tup xs) ∨
  ∃(o:Obj) (its:Array Value) (n:Nat),K.lookup a=some o/\o.cls=.type "tuple"/\o.data=.seq its n/\its.size<=aj/\ba xs its.toList
def absV:Value->Option V
 |.none=>some .non
 |.bool b=>some (.bl b)
 |.int i _=>some (.int i)
 |.str x _=>some (.str x)
 |.bytes b _=>some (.byt b)
 |.float b _=>some (.flt b)
 |.ref a=>some (.ref a)
 |.type n=>some (.ty n)
 |_=>none
theorem RelV.abs{x:V}{u:Value}(r:RelV x u):absV u=some x:=by
 cases x with
 |non=>cases r;rfl
 |bl _=>cases r;rfl
 |int _=>obtain⟨t,rfl⟩:=r;rfl
 |str _=>obtain⟨t,rfl⟩:=r;rfl
 |byt _=>obtain⟨t,rfl⟩:=r;rfl
 |flt _=>obtain⟨t,rfl⟩:=r;rfl
 |ref _=>cases r;rfl
 |ty _=>cases r;rfl
theorem RelV.inj{x y:V}{u:Value}(r:RelV x u)(q:RelV y u):x=y:=fJ (r.abs.symm.trans q.abs)
theorem ba.inj:∀{a e:List V}{f:Zf},ba a f->ba e f->a=e
 |_,_,_,.nil,.nil=>rfl
 |_,_,_,.cons r t,.cons g h=>by rw[r.inj g,ba.inj t h]
section
variable{X:Cx}{J3:Zd}{σ:St}{H:Hp}{s:Shared}{a:Addr}{xs ys:List V}
theorem aw.of{K:Za}(h:H a=some (.lst xs)):aw K H a xs:=.inl (.inl h)
theorem bQ.of{K:Za}(h:H a=some (.tup xs)):bQ K H a xs:=.inl (.inl h)
theorem Inv.list(I:Inv X J3 σ H s)(h:aw X.K H a xs):∃f:List Value,ba xs f/\PlainL s.heap a f.toArray/\xs.length<=aj:=by
 rcases h with h|⟨o,f,n,g,i,j,k,l,r⟩
 ·obtain⟨z,f,n,r,e⟩:=h.ok I.hok;exact⟨f,r,⟨_,n,e,rfl,rfl,rfl⟩,z⟩
 ·refine⟨f.toList,r,⟨o,n,I.kIn a o g,i,j,by simpa using k⟩,?_⟩;have e:=r.length;simp only[ma]at e;omega
theorem Inv.tuple(I:Inv X J3 σ H s)(h:bQ X.K H a xs):∃f:List Value,ba xs f/\IsTup s.heap a f.toArray/\xs.length<=aj:=by
 rcases h with h|⟨o,f,n,g,i,j,k,r⟩
 ·obtain⟨z,f,r,p⟩:=h.ok I.hok;exact⟨f,r,p,z⟩
 ·refine⟨f.toList,r,⟨o,I.kIn a o g,i,n,by simpa using j⟩,?_⟩;have e:=r.length;simp only[ma]at e;omega
theorem Inv.list_inj(I:Inv X J3 σ H s)(h:aw X.K H a xs)(k:aw X.K H a ys):xs=ys:=by
 obtain⟨g,r,⟨o,n,e,_,_,d⟩,_⟩:=I.list h;obtain⟨f,l,⟨p,q,i,_,_,j⟩,_⟩:=I.list k;rw[e]at i;cases i;rw[d]at j;injection j with m _;have:g=f:=by simpa using congrArg Array.toList m
 subst this;exact r.inj l
theorem Inv.tuple_inj(I:Inv X J3 σ H s)(h:bQ X.K H a xs)(k:bQ X.K H a ys):xs=ys:=by
 obtain⟨g,r,⟨o,e,_,n,d⟩,_⟩:=I.tuple h;obtain⟨f,l,⟨p,i,_,q,j⟩,_⟩:=I.tuple k;rw[e]at i;cases i;rw[d]at j;injection j with m _;have:g=f:=by simpa using congrArg Array.toList m
 subst this;exact r.inj l
end
abbrev Cx.wish(X:Cx)(E:Zc):Cx:={ X with xe:=E }
abbrev Cx.nox(X:Cx):Cx:=X.wish fun _ _=>False
theorem Cx.Ok.wish{X:Cx}(ok:X.Ok)(E:Zc):(X.wish E).Ok :=
 ⟨ok.mod,ok.kind,ok.glob,ok.blt,ok.above,ok.inj,ok.has,ok.cab,ok.hd,ok.frames,ok.stk,ok.exf,ok.bs,ok.bsz,ok.noex,ok.exfs,ok.funs,ok.frf⟩
theorem Cx.Ok.unwish{X:Cx}{E:Zc}(ok:(X.wish E).Ok):X.Ok :=
 ⟨ok.mod,ok.kind,ok.glob,ok.blt,ok.above,ok.inj,ok.has,ok.cab,ok.hd,ok.frames,ok.stk,ok.exf,ok.bs,ok.bsz,ok.noex,ok.exfs,ok.funs,ok.frf⟩
section
variable{X:Cx}{J3:Zd}{σ:St}{H:Hp}{s:Shared}{E:Zc}
theorem Inv.wish(I:Inv X J3 σ H s)(E:Zc):Inv (X.wish E) J3 σ H s:=⟨I.ok.wish E,I.os,I.bare,I.base,I.loc,I.cell,I.free,I.freeC,I.pin,I.hok,I.len⟩
theorem Inv.unwish(I:Inv (X.wish E) J3 σ H s):Inv X J3 σ H s:=⟨I.ok.unwish,I.os,I.bare,I.base,I.loc,I.cell,I.free,I.freeC,I.pin,I.hok,I.len⟩
theorem SP.unwish{D:rL}{f:Flow}{e:Shared}(h:SP (X.wish E) J3 D f e):SP X J3 D f e:=by
 cases f with
 |next=>obtain⟨σ',a,I,q⟩:=h;exact⟨σ',a,I.unwish,q⟩
 |brk=>obtain⟨σ',a,I,q⟩:=h;exact⟨σ',a,I.unwish,q⟩
 |cont=>obtain⟨σ',a,I,q⟩:=h;exact⟨σ',a,I.unwish,q⟩
 |ret u=>obtain⟨v,σ',a,I,r,q⟩:=h;exact⟨v,σ',a,I.unwish,r,q⟩
theorem BM.nox{st:List Stmt}{t:TS}(h:BM X.nox st t):BM X st t:=fun J3 s σ H D I a =>
 pb (h J3 s σ H D (I.wish _) a) (fun _ _ q=>q.unwish) fun _ _ z=>kf z
end
section
variable{X:Cx}{st:Stmt}{rest:List Stmt}{t u:TS}{e:Expr}{te:TE}{pos:Pos}
def bx:TS:=fun D σ H=>D.nx σ H
def aq(t u:TS):TS:=fun D σ H=>t { D with nx:=u D } σ H
theorem aJ:BM X [] bx:=fun _ _ σ H _ I h=>DJ ⟨σ,H,I,h⟩
theorem ac(g:PS X st t)(i:BM X rest u):BM X (st::rest) (aq t u):=by
 intro a s σ H D I h;refine wpAny_execs_cons (cH (g a s σ H { D with nx:=u D } I h) fun f j q=>?_);cases f with
 |next =>
  obtain⟨σ',k,l,q⟩:=q;exact i a j σ' k D l q
 |ret v=>exact q
 |brk=>exact q
 |cont=>exact q
theorem af(a:PS X st t):BM X [st] t:=by
 intro g s σ H D I h;refine wpAny_execs_cons (cH (a g s σ H D I h) fun f i q=>?_);cases f with
 |next=>exact DJ q
 |ret v=>exact q
 |brk=>exact q
 |cont=>exact q
theorem Inv.quiet{a:Zd}{σ:St}{H:Hp}{s:Shared}(I:Inv X a σ H s):interactive X.env=false:=by simp[interactive,I.ok.kind]
def cN(te:TE):TS:=fun D σ H=>te σ H fun _ H1=>D.nx σ H1
theorem br(a:PE X e te)(f:rS e none pos.line X.env=pure false:=by rfl):PS X (.Expr e pos) (cN te):=by
 intro g s σ H D I h;exact wpAny_Expr_any (cH (a g s σ H _ I h) fun v l ⟨x,i,j,m,k⟩=>⟨σ,i,j,k⟩) I.quiet f
def aW(te:TE):TS:=fun D σ H=>te σ H D.rt
theorem au(a:PE X e te):PS X (.Return (some e) pos) (aW te):=by
 intro f s σ H D I h;exact wpAny_Return_some (cH (a f s σ H _ I h) fun v l ⟨x,g,i,j,k⟩=>⟨x,σ,g,i,j,k⟩)
def cu(c:TT)(t u:TS):TS:=fun D σ H=>c σ H fun b H1=>if b=true then t D σ H1 else u D σ H1
theorem bp{c:Expr}{a b:List Stmt}{i:TT}(n:PT X c i)(o:BM X a t)(p:BM X b u):PS X (.If c a b pos) (cu i t u):=by
 intro f s σ H D I h;refine wpAny_If (cH (n f s σ H _ I h) fun d j g=>?_);obtain⟨k,l,m⟩:=g;cases d with
 |true=>exact o f j σ k D l m
 |false=>exact p f j σ k D l m
def ut:TS:=fun _ _ _=>False
theorem pM:PS X st ut:=fun _ _ _ _ _ _ h=>h.elim
end
abbrev TG:=V->St->Hp->(St->Hp->Prop)->Prop
abbrev Gk:=List V->St->Hp->(St->Hp->Prop)->Prop
def PG(X:Cx)(target:Expr)(t:TG):Prop :=
 ∀(J3:Zd) (s:Shared) (σ:St) (H:Hp) (v:V) (u:Value) (Q:St->Hp->Prop),Inv X J3 σ H s->RelV v u->t v σ H Q ->
  wpAny (model X.prog X.w) X.A (assign target X.env u) (fun _ s'=>∃σ' H',Inv X J3 σ' H' s'/\Q σ' H') X.xe s
def LO(X:Cx)(ts:List Expr)(t:Gk):Prop :=
 ∀(J3:Zd) (s:Shared) (σ:St) (H:Hp) (vs:List V) (us:Zf) (Q:St->Hp->Prop),Inv X J3 σ H s->ba vs us->t vs σ H Q ->
  wpAny (model X.prog X.w) X.A (assignInOrder ((wE ts X.env).map (·.2)) us) (fun _ s'=>∃σ' H',Inv X J3 σ' H' s'/\Q σ' H') X.xe s
abbrev KN:=V->V->V->Hp->(Hp->Prop)->Prop
def Lu(X:Cx)(t:KN):Prop :=
 ∀(J3:Zd) (s:Shared) (σ:St) (H:Hp) (o i v:V) (ov iv u:Value) (Q:Hp->Prop),Inv X J3 σ H s->RelV o ov->RelV i iv->RelV v u->t o i v H Q ->
  wpAny (model X.prog X.w) X.A (setItem ov iv u) (fun _ s'=>∃H',Inv X J3 σ H' s'/\Q H') X.xe s
abbrev LN:=V->V->Hp->VK->Prop
def PIp(X:Cx)(op:Operator)(t:LN):Prop :=
 ∀(J3:Zd) (s:Shared) (σ:St) (H:Hp) (x y:V) (v u:Value) (Q:VK),Inv X J3 σ H s->RelV x v->RelV y u->t x y H Q ->
  wpAny (model X.prog X.w) X.A (inplaceOp op v u) (EP X J3 σ Q) X.xe s
section
variable{X:Cx}{pos:Pos}
def eL(i:Nat):TG:=fun v σ H Q=>Q (σ.set i (some v)) H
abbrev U0:TG:=eL 0
abbrev U1:TG:=eL 1
abbrev U2:TG:=eL 2
abbrev U3:TG:=eL 3
abbrev U4:TG:=eL 4
abbrev U5:TG:=eL 5
abbrev U6:TG:=eL 6
abbrev U7:TG:=eL 7
abbrev U8:TG:=eL 8
abbrev U9:TG:=eL 9
abbrev KZ:TG:=eL 10
abbrev LM:TG:=eL 11
abbrev U12:TG:=eL 12
theorem Ec{i:Nat}{x:Str}(a:X.N.Nodup)(e:X.N[i]?=some x)(f:Loc X.env.scope x)(g:X.fn x=true∨X.env.scope.names.lookup x=some .local:=by first|exact .inl rfl|exact .inr rfl|assumption):PG X (.Name x pos) (eL i):=by
 intro k s σ H v u Q I r h;exact wpAny_assign_Name (uz I a e f r (fun l j=>⟨_,H,j,h⟩) g)
def jr:Gk:=fun vs σ H Q=>vs=[]/\Q σ H
def bt(t:TG)(u:Gk):Gk:=fun vs σ H Q=>∃v r,vs=v::r/\t v σ H fun σ' H'=>u r σ' H' Q
theorem cQ:LO X [] jr:=by
 intro a s σ H f g Q I r h;obtain⟨e,h⟩:=h;subst e;cases r;exact assignInOrder_nil ⟨σ,H,I,h⟩
theorem ax{e:Expr}{a:List Expr}{t:TG}{u:Gk}(i:PG X e t)(j:LO X a u)
  (k:(wE (e::a) X.env).map (·.2)=assign e X.env::(wE a X.env).map (·.2):=by rfl):LO X (e::a) (bt t u):=by
 intro g s σ H w x Q I r h;obtain⟨v,y,l,h⟩:=h;subst l;cases r with
 |cons r m =>
  rw[k];refine assignInOrder_cons (cH (i g s σ H _ _ _ I r h) fun _ n f=>?_);obtain⟨σ1,o,p,q⟩:=f;exact j g n σ1 o _ _ Q p m q
def jw(K:Za)(n:Nat)(t:Gk):TG:=fun v σ H Q=>∃a xs,v=.ref a/\bQ K H a xs/\xs.length=n/\t xs σ H Q
theorem dX{f:List Expr}{k:Nat}{t:Gk}{n:Nat}(m:X.calm=true)(h:LO X f t)
  (p:(wE f X.env).length=n:=by rfl) (g:(wE f X.env).findIdx? (·.1)=none:=by rfl):PG X (.Tuple f k pos) (jw X.K n t):=by
 intro j s σ H v u Q I r i;obtain⟨a,q,w,x,y,i⟩:=i;subst w;cases r;obtain⟨z,l,A,E⟩:=I.tuple x;refine assign_Tuple_tuple (I.ok.hd m) A (by simp[p,<-y,l.length]) g fun B C=>?_;have D:Inv X j σ H { s with heap:=B }:=I.kept (t':=s.toks) fun b o e=>C b o (bW (aO e)) e;exact h j _ σ H q _ Q D (by simpa using l) i
def C7(to ti:TE)(t:KN):TG:=fun v σ H Q=>to σ H fun o H1=>ti σ H1 fun i H2=>t o i v H2 fun H3=>Q σ H3
theorem uN{o i:Expr}{to j:TE}{t:KN}(k:PE X o to)(l:PE X i j)(m:Lu X t)
  (n:∀v,assign (.Subscript o i pos) X.env v=(do
   let e <- lS [v] (eval o X.env)
   let f <- lS [v,e] (eval i X.env)
   rT pos
   lS [v,e,f] (setItem e f v)
   release [v,e,f] []):=by intro _;rfl):PG X (.Subscript o i pos) (C7 to j t):=by
 intro g s σ H v u Q I r h;rw[n];refine ar (i8 (cH (k g s σ H _ I h) fun e p a=>?_));obtain⟨x,q,w,z,A⟩:=a;refine ar (i8 (cH (l g p σ q _ w A) fun f B a=>?_));obtain⟨y,C,D,E,G⟩:=a;refine ar (wpAny_standAt (ar (i8 (cH (m g B σ C x y v e f u _ D z E r G) fun _ N a=>?_))));obtain⟨J,L,M⟩:=a;exact wpAny_release ⟨σ,J,L,M⟩
def aM(te:TE)(g:TG):TS:=fun D σ H=>te σ H fun x H1=>g x σ H1 D.nx
theorem j4{tg e:Expr}{f:TE}{g:TG}(j:PE X e f)(k:PG X tg g)(l:swapsWithSole [tg] e pos.line X.env=pure false:=by rfl)(m:swappedStores [tg] e X.env=pure none:=by rfl)
  (n:(wE [tg] X.env).map (·.2)=[assign tg X.env]:=by rfl):PS X (.Assign [tg] e pos) (aM f g):=by
 intro i s σ H D I h;refine wpAny_Assign_stores (cH (j i s σ H _ I h) fun v o a=>?_) l m;obtain⟨x,p,r,t,u⟩:=a;rw[n];exact cH (k i o σ p x v _ r t u) fun _ w q=>q
theorem Ks{i:Nat}{x:Str}{e:Expr}{g:TE}{a:Pos}(j:X.N.Nodup)(k:X.N[i]?=some x)(l:Loc X.env.scope x)(m:PE X e g)(n:rS e (some (.Name x a)) pos.line X.env=pure false:=by rfl)(o:X.fn x=true∨X.env.scope.names.lookup x=some .local:=by first|exact .inl rfl|exact .inr rfl|assumption):
  PS X (.Assign [.Name x a] e pos) (aM g (eL i)):=by
 intro p s σ H D I h;refine wpAny_Assign_Name (cH (m p s σ H _ I h) fun v z f=>?_) n;obtain⟨y,q,r,t,u⟩:=f;exact uz r j k l t (fun A w=>⟨_,q,w,u⟩) o
def K6(i:Nat)(te:TE)(ti:LN):TS:=fun D σ H=>∃x,σ[i]?=some (some x)/\te σ H fun y H1=>ti x y H1 fun z H2=>D.nx (σ.set i (some z)) H2
theorem Kt{i:Nat}{x:Str}{e:Expr}{t:TE}{o:Operator}{B:LN}{g:Pos}(G:X.N.Nodup)(C:X.N[i]?=some x)(p:Loc X.env.scope x)(J:PE X e t)(L:PIp X o B)(M:X.fn x=true∨X.env.scope.names.lookup x=some .local:=by first|exact .inl rfl|exact .inr rfl|assumption):
  PS X (.AugAssign (.Name x g) o e pos) (K6 i t B):=by
 intro J3 s σ H D I h;obtain⟨v,O,h⟩:=h;obtain⟨m,Q,T⟩:=I.loc;have q:LK X.env.scope x:=by rcases p with k|k;exact .inl k;exact .inr (.inl k)
 obtain⟨u,r,l⟩:=T i x v C O q;refine wpAny_AugAssign_Name ?_;have E:wpAny (model X.prog X.w) X.A (eval e X.env) (fun w j=>wpAny (model X.prog X.w) X.A (inplaceOp o u w) (fun r n=>wpAny (model X.prog X.w) X.A (storeName X.env x r) (fun _=>SP X J3 D .next) X.xe n) X.xe j) X.xe s:=by
  refine cH (J J3 s σ H _ I h) fun w U a=>?_;obtain⟨y,Y,I1,r1,q1⟩:=a;refine cH (L J3 U σ Y v y u w _ I1 r r1 q1) fun z s2 a=>?_;obtain⟨zv,H2,I2,r2,q2⟩:=a;exact uz I2 G C p r2 (fun s3 I3=>⟨_,H2,I3,q2⟩) M
 rcases l with⟨hk,hm⟩|⟨hk,c,hc,f⟩
 ·exact wpAny_loadName_local I.ok.kind hk Q hm E
 ·rcases hk with hk|hk
  ·exact wpAny_loadName_cell I.ok.kind hk hc f E
  ·rcases p with k|k
   ·have:X.env.scope.names.lookup x=some .free:=hk;rw[k]at this;cases this
   ·have:X.env.scope.names.lookup x=some .free:=hk;rw[k]at this;cases this
def ipI(f:Int->Int->Int):LN:=fun x y H Q=>∃i j,x=.int i/\y=.int j/\Q (.int (f i j)) H
theorem KF:PIp X .Add (ipI fun i j=>i+j):=by
 intro k s σ H x y v u Q I a e h;obtain⟨i,j,f,g,q⟩:=h;subst f;subst g;obtain⟨t,rfl⟩:=a;obtain⟨l,rfl⟩:=e;exact iadd_int ⟨.int _,H,I.tok _,⟨_,rfl⟩,q⟩
end
section
variable{X:Cx}{pos:Pos}
def Ca(c:TT)(tb:TS):TS:=fun D σ H=>∃W:Nat->St->Hp->Prop,(∃m,W m σ H)/\∀m σ H,W m σ H ->
 c σ H fun b H1=>if b=true then ∃N:St->Hp->Prop,(∀σ' H',N σ' H'->∃m',m'<m/\W m' σ' H')/\tb { D with nx:=N,ct:=N,bk:=D.nx } σ H1 else D.nx σ H1
theorem AS{c:Expr}{a:List Stmt}{q:TT}{r:TS}(t:PassesOwn (model X.prog X.w) X.A X.env X.xe)(C:PT X c q)(E:BM X a r):PS X (.While c a [] pos) (Ca q r):=by
 intro J3 s σ H D I h;obtain⟨W,⟨G,J⟩,turn⟩:=h;refine wpAny_While (codeAny_whileLoop (fun n L=>∃σ' u,Inv X J3 σ' u L/\W n σ' u) ?_ G ⟨σ,H,I,J⟩);rintro n M ⟨σ1,x,O,Q⟩;refine tO t (cH (C J3 M σ1 x _ O (turn n σ1 x Q)) fun b T j=>?_);obtain⟨y,z,g⟩:=j;cases b with
 |true =>
  obtain⟨N,B,g⟩:=g;rw[if_pos rfl];refine tO t (cH (E J3 T σ1 y _ z g) fun f U i=>?_);cases f with
  |next =>
   obtain⟨σ3,e,k,l⟩:=i;obtain⟨m,o,p⟩:=B σ3 e l;exact⟨m,o,σ3,e,k,p⟩
  |cont =>
   obtain⟨σ3,e,k,l⟩:=i;obtain⟨m,o,p⟩:=B σ3 e l;exact⟨m,o,σ3,e,k,p⟩
  |brk=>exact i
  |ret v=>exact i
 |false =>
  rw[if_neg iP];exact DJ ⟨σ1,y,z,g⟩
end
structure It where
 go:Nat->Hp->Prop
 yld:Nat->Hp->V->Hp->Prop
 stop:Nat->Hp->Prop
def nL(X:Cx)(J3:Zd)(H:Hp)(b:Addr):Prop :=
 H b=none/\b≠X.env.locals/\b∉X.fs/\(b∈X.ex∨X.s₀.heap.objs.size<=b)/\(∀x c,X.env.cells.lookup x=some c->c≠b)/\∀p∈X.pn++J3,p.1≠b
theorem Inv.fpOk{X:Cx}{f:Zd}{σ:St}{H g:Hp}{s:Shared}{b:Addr}(I:Inv X f σ H s)(a:s.heap.objs.size<=b)(h:g b=none):nL X f g b:=by
 refine⟨h,ij (c9 I.lt a),I.nofs a,.inr (aE I.sz a),fun x c e z=>?_,fun p i z=>?_⟩
 ·obtain⟨v,q⟩:=I.cell x c e;exact absurd (c9 q.lt (by rw[z];exact a)) (kg _)
 ·exact absurd (c9 (aO (I.pin p i).1) (by rw[z];exact a)) (kg _)
structure vv(P:b9)(w:World)(K:Za)(tg:Expr)(J:It)(fp:Ze)(it:Addr)(tn:Nat->Heap->Prop):Prop where
 mem:it∈fp
 obj:∀i h,tn i h->∀b∈fp,∃o,h.get? b=some o/\∀v,o.data≠.cell v
 keep:∀i h h',tn i h->(∀b∈fp,∀o,h.get? b=some o->h'.get? b=some o)->tn i h'
 item:∀(X:Cx),X.prog=P->X.w=w->X.K=K->X.calm=true->∀(i:Nat) (J3:Zd) (s:Shared) (σ:St) (H:Hp) (E:Zc),Inv X J3 σ H s->(∀b∈fp,nL X J3 H b)->tn i s.heap->J.go i H ->
  wpAny (model P w) X.A (pyNext (.ref it)) (fun r s1=>∃u,r=some u /\
   wpAny (model P w) X.A (DH tg (.ref it) u) (fun _ s2=>∃x H',Inv X J3 σ H' s2/\RelV x u/\J.yld i H x H'/\tn (i+1) s2.heap/\∀b∈fp,H' b=none) E s1) E s
 done:∀(X:Cx),X.prog=P->X.w=w->X.K=K->X.calm=true->∀(i:Nat) (J3:Zd) (s:Shared) (σ:St) (H:Hp) (E:Zc),Inv X J3 σ H s->(∀b∈fp,nL X J3 H b)->tn i s.heap->J.stop i H ->
  wpAny (model P w) X.A (pyNext (.ref it)) (fun r s1=>r=none/\Inv X J3 σ H s1) E s
 self:∀(A:Around) (i:Nat) (s:Shared) (Q:Zc) (E:Zc),tn i s.heap->Q (.ref it) s->wpAny (model P w) A (pyIter (.ref it)) Q E s
abbrev TI:=St->Hp->(It->Hp->Prop)->Prop
def PIE(X:Cx)(J3:Zd)(σ:St)(tg:Expr)(R:It->Hp->Prop)(itv:Value)(s2:Shared):Prop :=
 ∃(it:Addr) (fp:Ze) (tn:Nat->Heap->Prop) (J:It) (H':Hp),itv=.ref it/\Inv X J3 σ H' s2/\vv X.prog X.w X.K tg J fp it tn/\tn 0 s2.heap/\(∀b∈fp,nL X J3 H' b)/\R J H'
def PI(X:Cx)(tg iter:Expr)(wi:TI):Prop :=
 ∀(J3:Zd) (s:Shared) (σ:St) (H:Hp) (R:It->Hp->Prop),Inv X J3 σ H s->wi σ H R ->
  wpAny (model X.prog X.w) X.A (eval iter X.env) (fun v s1=>wpAny (model X.prog X.w) X.A (pyIter v) (PIE X J3 σ tg R) X.xe s1) X.xe s
theorem u8{M:Model}{A:Around}{E:Zc}{s:Shared}{e:Expr}{it:Addr}{u:Value}{o:Obj}{n:String}{f:Array Value}{Q:Unit->Shared->Prop}(g:s.heap.get? it=some o)(i:o.cls=.type n)(j:o.data=.fields f)
    (k:["enumerate","zip","dict_itemiterator","dict_reverseitemiterator","odict_iterator","itertools.zip_longest","itertools.pairwise"].contains n=false) (a:Q () s):wpAny M A (DH e (.ref it) u) Q E s:=by
  unfold DH;cases e<;>first
    |exact aT a
    | (cases u <;> first
        |exact aT a
        | (refine ar (wpAny_load g ?_)
           rw[i,j];show wpAny M A (if(["enumerate","zip","dict_itemiterator","dict_reverseitemiterator","odict_iterator","itertools.zip_longest","itertools.pairwise"].contains n && f[0]?==some (rawInt _))=true then _ else _) Q E s
           rw[if_neg (by intro h;rw[k,DG]at h;cases h)];exact aT a))
def Io(K:Za)(a:Addr):It :=
 ⟨fun i H=>∃xs x,aw K H a xs/\xs[i]?=some x,fun i H x H'=>H'=H/\∀xs,aw K H a xs->xs[i]?=some x,fun i H=>∃xs,aw K H a xs/\xs.length<=i⟩
def Kg(K:Za)(a:Addr):It :=
 ⟨fun i H=>∃xs x,bQ K H a xs/\xs[i]?=some x,fun i H x H'=>H'=H/\∀xs,bQ K H a xs->xs[i]?=some x,fun i H=>∃xs,bQ K H a xs/\xs.length<=i⟩
def KP(lo:Int)(n:Nat):It:=⟨fun i _=>i<n,fun i H x H'=>H'=H/\x=.int (lo+i),fun i _=>n<=i⟩
theorem wJ{P:b9}{w:World}{K:Za}{O:Expr}(a it:Addr):vv P w K O (Io K a) [it] it (fun i h=>h.IsListIter it a i) where
 mem:=by simp
 obj:=fun i h st b f=>by
  have e:b=it:=by simpa using f
  subst e;obtain⟨o,e,c,d⟩:=st;exact⟨o,e,fun v z=>by rw[d]at z;cases z⟩
 keep:=fun i h j st k=>st.at fun o e=>k it (by simp) o e
 item:=by
  intro X n q r M i N s σ H E I l st t;subst n q r;obtain⟨Q,x,m,y⟩:=t;obtain⟨A,B,p,T⟩:=I.list m;obtain⟨u,U,Y⟩:=B.get y;obtain⟨C,D,f2,G,J,L⟩:=l it (by simp);refine wpAny_pyNext_list_item st p.isList (x:=u) (by simpa using U) fun j g sb=>?_;have I1:Inv X N σ H { s with heap:=j }:=I.turned (t':=s.toks) (fun b o f e=>(sb.2 b f).trans e) C D G J L;obtain⟨o,e,c,d⟩:=id g;exact⟨u,rfl,u8 (s:={ s with heap:=j }) e c d (by decide) ⟨x,H,I1,Y,⟨rfl,fun ys hy=>by rw[I.list_inj hy m];exact y⟩,g,fun b f=>(l b f).1⟩⟩
 done:=by
  intro X n q r M i N s σ H E I l st t;subst n q r;obtain⟨Q,m,y⟩:=t;obtain⟨A,B,p,T⟩:=I.list m;obtain⟨C,D,f2,G,J,L⟩:=l it (by simp);have hl:=B.length;exact wpAny_pyNext_list_end (I.ok.hd M) st p.isList (by simp;omega) fun j eb=>⟨rfl,I.turned (t':=s.toks) (fun b o f e=>eb b o f e) C D G J L⟩
 self:=fun _ _ _ _ _ st h=>wpAny_pyIter_listiter st h
theorem uk{P:b9}{w:World}{K:Za}{O:Expr}(a it:Addr):vv P w K O (Kg K a) [it] it (fun i h=>h.IsTupleIter it a i) where
 mem:=by simp
 obj:=fun i h st b f=>by
  have e:b=it:=by simpa using f
  subst e;obtain⟨o,e,c,d⟩:=st;exact⟨o,e,fun v z=>by rw[d]at z;cases z⟩
 keep:=fun i h l st k=>st.at fun o e=>k it (by simp) o e
 item:=by
  intro X q r t M i N s σ H E I m st y;subst q r t;obtain⟨Q,x,n,A⟩:=y;obtain⟨g,B,p,T⟩:=I.tuple n;obtain⟨u,U,Y⟩:=B.get A;obtain⟨C,D,f2,G,J,L⟩:=m it (by simp);refine wpAny_pyNext_tuple_item st (show s.heap.IsTuple a g.toArray from p) (x:=u) (by simpa using U) fun l j sb=>?_;have I1:Inv X N σ H { s with heap:=l }:=I.turned (t':=s.toks) (fun b o f e=>(sb.2 b f).trans e) C D G J L;obtain⟨o,e,c,d⟩:=id j;exact⟨u,rfl,u8 (s:={ s with heap:=l }) e c d (by decide) ⟨x,H,I1,Y,⟨rfl,fun ys hy=>by rw[I.tuple_inj hy n];exact A⟩,j,fun b f=>(m b f).1⟩⟩
 done:=by
  intro X q r t M i N s σ H E I m st y;subst q r t;obtain⟨Q,n,A⟩:=y;obtain⟨g,B,p,T⟩:=I.tuple n;obtain⟨C,D,f2,G,J,L⟩:=m it (by simp);have hl:=B.length;exact wpAny_pyNext_tuple_end (I.ok.hd M) st (show s.heap.IsTuple a g.toArray from p) (by simp;omega) fun l eb=>⟨rfl,I.turned (t':=s.toks) (fun b o f e=>eb b o f e) C D G J L⟩
 self:=fun _ _ _ _ _ st h=>wpAny_pyIter_tupleiter st h
theorem BS{P:b9}{w:World}{K:Za}{D:Expr}(it:Addr)(lo:Int)(n:Nat):vv P w K D (KP lo n) [it] it (fun i h=>IsRangeIter h it (lo+(i:Nat) * 1) ((n:Int)-(i:Nat)) 1) where
 mem:=by simp
 obj:=fun i h st b a=>by
  have e:b=it:=by simpa using a
  subst e;exact⟨_,st,fun v z=>by
   have G:Data.fields _=Data.cell v:=z;cases G⟩
 keep:=fun i h g st k=>k it (by simp) _ st
 item:=by
  intro X l m p q i C s σ H E I j st r;subst l m p;obtain⟨u,x,J,y,A,B⟩:=j it (by simp);have W:=Walks.range (prog:=X.prog) (w:=X.w) (I.ok.hd q) it lo 1 n;refine W.item i s _ _ r st fun v g tk L f M=>?_;obtain⟨t,rfl⟩:=L;have N:Inv X C σ H { s with heap:=g,toks:=tk }:=I.turned (fun b o a e=>M b o (by simpa using a) e) u x y A B;refine⟨_,rfl,u8 (s:={ s with heap:=g,toks:=tk }) (n:="range_iterator") f rfl rfl (by decide) ⟨.int (lo+i),H,N,⟨t,?_⟩,⟨rfl,rfl⟩,f,fun b a=>(j b a).1⟩⟩;rw[DF]
 done:=by
  intro X l m p q i C s σ H E I j st r;subst l m p;obtain⟨u,x,J,y,A,B⟩:=j it (by simp);exact wpAny_pyNext_range_end (I.ok.hd q) st (by have:n<=i:=r;omega) fun g O=>⟨rfl,I.turned (t':=s.toks) (fun b o a e=>O b o a e) u x y A B⟩
 self:=fun _ _ _ _ _ st h=>wpAny_pyIter_rangeiter st h
end L2
namespace L2
open PySem PySem.Spec PyProof.Rows
section
variable{X:Cx}{tg:Expr}
def bN(K:Za)(tl:TE):TI:=fun σ H R=>tl σ H fun x H1=>∃a,x=.ref a/\(∃xs,aw K H1 a xs)/\R (Io K a) H1
def FG(K:Za)(tl:TE):TI:=fun σ H R=>tl σ H fun x H1=>∃a,x=.ref a/\(∃xs,bQ K H1 a xs)/\R (Kg K a) H1
theorem aN{l:Expr}{j:TE}(k:PE X l j):PI X tg l (bN X.K j):=by
 intro m s σ H R I h;refine cH (k m s σ H _ I h) fun v f i=>?_;obtain⟨x,n,g,r,t⟩:=i;obtain⟨a,e,⟨z,u⟩,q⟩:=t;subst e;cases r;obtain⟨w,A,p,B⟩:=g.list u;refine Aj p.isList ?_;refine⟨f.heap.objs.size,[f.heap.objs.size],_,_,n,rfl,g.kept (t':=f.toks) fun b o e=>bR _ e,wJ a _,⟨_,du _ rfl,rfl,rfl⟩,fun b y=>?_,q⟩;have e:b=f.heap.objs.size:=by simpa using y
 subst e;exact g.fpOk (aB _) (g.hok.fresh (aB _))
theorem uM{l:Expr}{k:TE}(m:PE X l k):PI X tg l (FG X.K k):=by
 intro n s σ H R I h;refine cH (m n s σ H _ I h) fun v f i=>?_;obtain⟨x,r,g,t,u⟩:=i;obtain⟨a,e,⟨z,w⟩,q⟩:=u;subst e;cases t;obtain⟨j,A,p,B⟩:=g.tuple w;refine wpAny_pyIter_tuple (show f.heap.IsTuple a j.toArray from p) ?_;refine⟨f.heap.objs.size,[f.heap.objs.size],_,_,r,rfl,g.kept (t':=f.toks) fun b o e=>bR _ e,uk a _,⟨_,du _ rfl,rfl,rfl⟩,fun b y=>?_,q⟩;have e:b=f.heap.objs.size:=by simpa using y
 subst e;exact g.fpOk (aB _) (g.hok.fresh (aB _))
theorem GX{f:Zd}{σ:St}{H:Hp}{s:Shared}{R:It->Hp->Prop}{E:Zc}{lo a:Int}{t u v:Tok}{tk:Nat}(I:Inv X f σ H s)(h:-(2 ^ 62)<=lo)(i:lo<2 ^ 62)(j:-(2 ^ 62)<=a)(k:a<2 ^ 62)
  (q:R (KP lo (a-lo).toNat) H):wpAny (model X.prog X.w) X.A (pyIter (.ref s.heap.objs.size)) (PIE X f σ tg R) E { s with heap:=s.heap.push { cls:=.type "range",data:=.fields #[.int lo t,.int a u,.int 1 v] },toks:=tk }:=by
 refine wpAny_pyIter_range (IsRange.new ..) (small_one h i j k) ?_;have g:Inv X f σ H { s with heap:=s.heap.push { cls:=.type "range",data:=.fields #[.int lo t,.int a u,.int 1 v] },toks:=tk }:=I.kept fun b o e=>bR _ e;refine⟨(s.heap.push { cls:=.type "range",data:=.fields #[.int lo t,.int a u,.int 1 v] }).objs.size,[(s.heap.push { cls:=.type "range",data:=.fields #[.int lo t,.int a u,.int 1 v] }).objs.size],_,_,H,rfl,
  g.kept (t':=tk) fun b o e=>bR _ e,BS _ lo (a-lo).toNat,?_,fun b l=>?_,q⟩
 ·have m:lo+((0:Nat):Int) * 1=lo:=by simp
  have n:(((a-lo).toNat:Nat):Int)-((0:Nat):Int)=cb.Range.rangeSize lo a 1:=by rw[rangeSize_one];split<;>omega
  show IsRangeIter _ _ (lo+((0:Nat):Int) * 1) ((((a-lo).toNat:Nat):Int)-((0:Nat):Int)) 1;rw[m,n];exact du _ rfl
 ·have e:b=(s.heap.push { cls:=.type "range",data:=.fields #[.int lo t,.int a u,.int 1 v] }).objs.size:=by simpa using l
  subst e;exact g.fpOk (aB _) (g.hok.fresh (aB _))
def u7(ta:TA):TI:=fun σ H R=>ta σ H fun vs H1=>∃j:Int,vs=[.int j]/\-(2 ^ 62)<=j/\j<2 ^ 62/\R (KP 0 j.toNat) H1
theorem iY{a:Expr}{k:TA}{p f:Pos}(l:Gl X "range")(m:X.mg "range"=none)(n:PA X [a] k)(o:aL [a] X.env=[(false,eval a X.env)]:=by rfl):PI X tg (.Call (.Name "range" p) [a] [] f) (u7 k):=by
 intro u s σ H R I h;refine Call_ (iI I l m boot_range (o9 (cH (n f u s σ H _ I h) fun z A g=>?_) o rfl));obtain⟨B,C,v,w,i⟩:=g;obtain⟨j,e,i,x,q⟩:=i;subst e;cases w with
 |cons r y =>
  cases y;obtain⟨t,rfl⟩:=r;exact call_range_1 (GX v (by omega) (by omega) i x (by simpa using q))
def dS(wi:TI)(g:TG)(tb:TS):TS:=fun D σ H=>wi σ H fun J H1=>∃W:Nat->Nat->St->Hp->Prop,(∃m,W 0 m σ H1)/\∀i m σ H,W i m σ H ->
 (J.stop i H/\D.nx σ H)∨(J.go i H/\∃N:St->Hp->Prop,(∀σ' H',N σ' H'->∃m',m'<m/\W (i+1) m' σ' H')/\∀x H',J.yld i H x H'->g x σ H' fun σ2 H2=>tb { D with nx:=N,ct:=N,bk:=D.nx } σ2 H2)
def uL(fp:Ze)(h:Heap):List (Addr×Obj):=fp.filterMap fun b=>(h.get? b).map fun o=>(b,o)
theorem lh{fp:Ze}{h:Heap}{b:Addr}{o:Obj}(a:b∈fp)(e:h.get? b=some o):(b,o)∈uL fp h:=List.mem_filterMap.mpr ⟨b,a,by rw[e];rfl⟩
theorem Fp{a:Ze}{h:Heap}{p:Addr×Obj}(f:p∈uL a h):p.1∈a/\h.get? p.1=some p.2:=by
 obtain⟨b,g,e⟩:=List.mem_filterMap.mp f;cases q:h.get? b with
 |none=>rw[q]at e;cases e
 |some o =>
  rw[q]at e;have i:(b,o)=p:=fJ e;subst i;exact⟨g,q⟩
theorem Inv.pinned{a:Zd}{σ:St}{H:Hp}{s:Shared}{f:Ze}(I:Inv X a σ H s)(i:∀b∈f,nL X a H b)(j:∀b∈f,∃o,s.heap.get? b=some o/\∀v,o.data≠.cell v):Inv X (a++uL f s.heap) σ H s :=
 I.pins_of fun p k=>(bL.mp k).elim (fun z=>I.pin p (eP _ z)) fun z=>by
  obtain⟨g,e⟩:=Fp z;obtain⟨l,m,n,_⟩:=i p.1 g;obtain⟨o,h,d⟩:=j p.1 g;rw[e]at h;cases h;exact⟨e,l,m,n,d⟩
theorem Inv.unpinned{a e:Zd}{σ:St}{H:Hp}{s:Shared}(I:Inv X (a++e) σ H s):Inv X a σ H s:=I.pins_of fun p f=>I.pin p (eP _ (eg _ f))
theorem bD{j:Expr}{y:List Stmt}{wi:TI}{g:TG}{tb:TS}{U:Pos}(E:PassesOwn (model X.prog X.w) X.A X.env X.xe)(hc:X.calm=true)(hi:PI X tg j wi)(hg:PG X tg g)(k:BM X y tb)
  (hs:∀x,Ai j X.env x=pure x:=by intro _;rfl):PS X (.For tg j y [] U) (dS wi g tb):=by
 intro B s σ H D I h;refine wpAny_For (cH (hi B s σ H _ I h) fun v s1 h1=>cH h1 fun ap s2 h2=>?_) hs;obtain⟨it,G,tn,J,H2,e,I2,T,Y,f2,W,⟨m0,w0⟩,turn⟩:=h2;subst e;have l:∀{t:Hp},(∀b∈G,t b=none)->∀b∈G,nL X B t b:=fun hn b k=>⟨hn b k,(f2 b k).2⟩;refine codeAny_forLoop_any (fun n s'=>∃i σ' t,Inv X B σ' t s'/\tn i s'.heap/\(∀b∈G,t b=none)/\W i n σ' t) ?_ m0 ⟨0,σ,H2,I2,Y,fun b k=>(f2 b k).1,w0⟩;rintro n s3 ⟨i,σ3,Q,I3,L,M,w3⟩;rcases turn i n σ3 Q w3 with⟨stop,qn⟩|⟨go,N,hN,step⟩
 ·refine tO E (cH (T.done X rfl rfl rfl hc i B s3 σ3 Q X.xe I3 (l M) L stop) fun r s4 a=>?_);obtain⟨hr,I4⟩:=a;subst hr;exact DJ ⟨σ3,Q,I4,qn⟩
 ·refine tO E (cH (T.item X rfl rfl rfl hc i B s3 σ3 Q X.xe I3 (l M) L go) fun r s4 a=>?_);obtain⟨u,hr,h4⟩:=a;subst hr;refine tO E (cH h4 fun _ s5 a=>?_);obtain⟨x,H5,I5,r5,y5,C,al⟩:=a;have an:=I5.pinned (l al) (T.obj _ _ C);refine tO E (cH (hg _ s5 σ3 H5 x u _ an r5 (step x H5 y5)) fun _ s6 a=>?_);obtain⟨σ6,H6,I6,q6⟩:=a;refine tO E (cH (k _ s6 σ6 H6 _ I6 q6) fun f s7 z=>?_);have again:∀{σ7:St}{p:Hp},Inv X (B++uL G s5.heap) σ7 p s7->N σ7 p->∃m,m<n/\∃i σ' t,Inv X B σ' t s7/\tn i s7.heap/\(∀b∈G,t b=none)/\W i m σ' t:=fun{σ7 p} q O=>by
   obtain⟨m',hm,w7⟩:=hN σ7 p O;refine⟨m',hm,i+1,σ7,p,q.unpinned,T.keep _ _ _ C fun b k o e=>(q.pin (b,o) (eP _ (eP _ (lh k e)))).1,fun b k=>?_,w7⟩;obtain⟨o,e,d⟩:=T.obj _ _ C b k;exact(q.pin (b,o) (eP _ (eP _ (lh k e)))).2.1
  cases f with
  |next=>obtain⟨σ7,p,q,O⟩:=z;exact again q O
  |cont=>obtain⟨σ7,p,q,O⟩:=z;exact again q O
  |brk=>obtain⟨σ7,p,q,z⟩:=z;exact⟨σ7,p,q.unpinned,z⟩
  |ret v=>obtain⟨x7,σ7,p,q,r7,z⟩:=z;exact⟨x7,σ7,p,q.unpinned,r7,z⟩
end
theorem bO{K:Za}{a:Addr}{xs:List V}{g:TG}{k:TS}{D:rL}{σ:St}{H:Hp}(Pv:Nat->St->Hp->Prop)(n:Pv 0 σ H)(o:∀i σ H,i<=xs.length->Pv i σ H->aw K H a xs)
  (r:∀i x σ H,xs[i]?=some x->Pv i σ H->g x σ H fun σ2 j=>k { D with nx:=Pv (i+1),ct:=Pv (i+1),bk:=D.nx } σ2 j) (s:∀σ H,Pv xs.length σ H->D.nx σ H) :
  ∃W:Nat->Nat->St->Hp->Prop,(∃m,W 0 m σ H)/\∀i m σ H,W i m σ H ->
   ((Io K a).stop i H/\D.nx σ H)∨((Io K a).go i H/\∃N:St->Hp->Prop,(∀σ' f,N σ' f->∃l,l<m/\W (i+1) l σ' f)/\∀x f,(Io K a).yld i H x f->g x σ f fun σ2 j=>k { D with nx:=N,ct:=N,bk:=D.nx } σ2 j):=by
 refine⟨fun i m σ H=>m=xs.length-i/\i<=xs.length/\Pv i σ H,⟨xs.length,by simp,dI _,n⟩,?_⟩;rintro i m σ H ⟨rfl,t,p⟩;have q:=o i σ H t p;by_cases h:i<xs.length
 ·refine .inr ⟨⟨xs,xs[i],q,by simp[h]⟩,Pv (i+1),fun σ' f u=>⟨xs.length-(i+1),by omega,rfl,h,u⟩,fun x f y=>?_⟩;obtain⟨e,y⟩:=y;subst e;exact r i x σ _ (y xs q) p
 ·have e:i=xs.length:=by omega
  subst e;exact .inl ⟨⟨xs,q,aB _⟩,s σ H p⟩
theorem Ew{K:Za}{a:Addr}{xs:List V}{g:TG}{k:TS}{D:rL}{σ:St}{H:Hp}(Pv:Nat->St->Hp->Prop)(n:Pv 0 σ H)(o:∀i σ H,i<=xs.length->Pv i σ H->bQ K H a xs)
  (r:∀i x σ H,xs[i]?=some x->Pv i σ H->g x σ H fun σ2 j=>k { D with nx:=Pv (i+1),ct:=Pv (i+1),bk:=D.nx } σ2 j) (s:∀σ H,Pv xs.length σ H->D.nx σ H) :
  ∃W:Nat->Nat->St->Hp->Prop,(∃m,W 0 m σ H)/\∀i m σ H,W i m σ H ->
   ((Kg K a).stop i H/\D.nx σ H)∨((Kg K a).go i H/\∃N:St->Hp->Prop,(∀σ' f,N σ' f->∃l,l<m/\W (i+1) l σ' f)/\∀x f,(Kg K a).yld i H x f->g x σ f fun σ2 j=>k { D with nx:=N,ct:=N,bk:=D.nx } σ2 j):=by
 refine⟨fun i m σ H=>m=xs.length-i/\i<=xs.length/\Pv i σ H,⟨xs.length,by simp,dI _,n⟩,?_⟩;rintro i m σ H ⟨rfl,t,p⟩;have q:=o i σ H t p;by_cases h:i<xs.length
 ·refine .inr ⟨⟨xs,xs[i],q,by simp[h]⟩,Pv (i+1),fun σ' f u=>⟨xs.length-(i+1),by omega,rfl,h,u⟩,fun x f y=>?_⟩;obtain⟨e,y⟩:=y;subst e;exact r i x σ _ (y xs q) p
 ·have e:i=xs.length:=by omega
  subst e;exact .inl ⟨⟨xs,q,aB _⟩,s σ H p⟩
theorem kF{lo:Int}{n:Nat}{g:TG}{j:TS}{D:rL}{σ:St}{H:Hp}(Pv:Nat->St->Hp->Prop)(l:Pv 0 σ H)
  (o:∀i σ H,i<n->Pv i σ H->g (.int (lo+i)) σ H fun σ2 h=>j { D with nx:=Pv (i+1),ct:=Pv (i+1),bk:=D.nx } σ2 h) (q:∀σ H,Pv n σ H->D.nx σ H) :
  ∃W:Nat->Nat->St->Hp->Prop,(∃m,W 0 m σ H)/\∀i m σ H,W i m σ H ->
   ((KP lo n).stop i H/\D.nx σ H)∨((KP lo n).go i H/\∃N:St->Hp->Prop,(∀σ' a,N σ' a->∃k,k<m/\W (i+1) k σ' a)/\∀x a,(KP lo n).yld i H x a->g x σ a fun σ2 h=>j { D with nx:=N,ct:=N,bk:=D.nx } σ2 h):=by
 refine⟨fun i m σ H=>m=n-i/\i<=n/\Pv i σ H,⟨n,by simp,dI _,l⟩,?_⟩;rintro i m σ H ⟨rfl,s,p⟩;by_cases f:i<n
 ·refine .inr ⟨f,Pv (i+1),fun σ' a r=>⟨n-(i+1),by omega,rfl,f,r⟩,fun x a y=>?_⟩;obtain⟨e,y⟩:=y;subst e y;exact o i σ _ f p
 ·have e:i=n:=by omega
  subst e;exact .inl ⟨aB _,q σ H p⟩
end L2
namespace L2
open PySem PySem.Spec PyProof.Rows
abbrev R2:=V->V->Hp->VK->Prop
def nS(X:Cx)(f:Value->Value->Sem Value)(r:R2):Prop :=
 ∀(J3:Zd) (s:Shared) (σ:St) (H:Hp) (x y:V) (v u:Value) (Q:VK),Inv X J3 σ H s->RelV x v->RelV y u->r x y H Q ->
  wpAny (model X.prog X.w) X.A (f v u) (EP X J3 σ Q) X.xe s
def UnR(X:Cx)(f:Value->Sem Value)(r:V->Hp->VK->Prop):Prop :=
 ∀(J3:Zd) (s:Shared) (σ:St) (H:Hp) (x:V) (v:Value) (Q:VK),Inv X J3 σ H s->RelV x v->r x H Q ->
  wpAny (model X.prog X.w) X.A (f v) (EP X J3 σ Q) X.xe s
def fV(X:Cx)(f:Value)(r:List V->Hp->VK->Prop):Prop :=
 ∀(J3:Zd) (s:Shared) (σ:St) (H:Hp) (xs:List V) (us:Zf) (Q:VK),Inv X J3 σ H s->ba xs us->r xs H Q ->
  wpAny (model X.prog X.w) X.A (call f us) (EP X J3 σ Q) X.xe s
def aH(r:R2)(ta tb:TE):TE:=fun σ H Q=>ta σ H fun x H1=>tb σ H1 fun y H2=>r x y H2 Q
def LI(r:V->Hp->VK->Prop)(ta:TE):TE:=fun σ H Q=>ta σ H fun x H1=>r x H1 Q
def rI(C:Int->Int->Prop)(g:Int->Int->V):R2:=fun x y H Q=>∃i j,x=.int i/\y=.int j/\C i j/\Q (g i j) H
def DY(g:Int->Int->V):R2:=fun x y H Q=>∃i j,x=.int i/\y=.int j/\Q (g i j) H
def rU(g:Int->V):V->Hp->VK->Prop:=fun x H Q=>∃i,x=.int i/\Q (g i) H
section
variable{X:Cx}{a b c:Expr}{ta tb tc:TE}{pos:Pos}
theorem KJ(n:PE X a ta)(o:PE X b tb){k:Zd}{s:Shared}{σ:St}{H:Hp}{R:V->V->Hp->Prop}(I:Inv X k σ H s)
  (h:ta σ H fun x m=>tb σ m fun y g=>R x y g) {Q:Zc}{f:Value->Value->Sem Value}
  (p:∀v u l x y g,Inv X k σ g l->RelV x v->RelV y u->R x y g->wpAny (model X.prog X.w) X.A (f v u) Q X.xe l) :
  wpAny (model X.prog X.w) X.A (eval a X.env) (fun v i=>wpAny (model X.prog X.w) X.A (eval b X.env) (fun u j=>wpAny (model X.prog X.w) X.A (f v u) Q X.xe j) X.xe i) X.xe s:=by
 refine cH (n k s σ H _ I h) fun v q e=>?_;obtain⟨x,m,r,t,z⟩:=e;refine cH (o k q σ m _ r z) fun u l e=>?_;obtain⟨y,g,B,C,D⟩:=e;exact p v u l x y g B t C D
theorem az{e:Operator}{r:R2}(f:nS X (l_ e) r)(g:PE X a ta)(i:PE X b tb):PE X (.BinOp a e b pos) (aH r ta tb):=by
 intro j s σ H Q I h;exact wpAny_BinOp (KJ g i I h fun v u k x y l m n o q=>f j k σ l x y v u Q m n o q)
theorem Ed{e:UnaryOp}{r:V->Hp->VK->Prop}(g:UnR X (unaryOp e) r)(i:PE X a ta):PE X (.UnaryOp e a pos) (LI r ta):=by
 intro f s σ H Q I h;exact UnaryOp_ (cH (i f s σ H _ I h) fun v j ⟨x,k,l,m,n⟩=>g f j σ k x v Q l m n)
theorem KR{f:Value->Value->Sem Value}{C:Int->Int->Prop}{g:Int->Int->Int}
  (rule:∀(i j:Int) (t u:Tok) (s:Shared) (Q:Zc) (E:Zc),C i j->Q (.int (g i j) s.toks) { s with toks:=s.toks+1 }->wpAny (model X.prog X.w) X.A (f (.int i t) (.int j u)) Q E s) :
  nS X f (rI C fun i j=>.int (g i j)):=by
 intro n s σ H x y v u Q I e k h;obtain⟨i,j,rfl,rfl,l,q⟩:=h;obtain⟨t,rfl⟩:=e;obtain⟨m,rfl⟩:=k;exact rule i j t m s _ _ l ⟨.int (g i j),H,I.tok _,⟨_,rfl⟩,q⟩
theorem Lf{f:Value->Value->Sem Value}{g:Int->Int->Int}
  (rule:∀(i j:Int) (t u:Tok) (s:Shared) (Q:Zc) (E:Zc),Q (.int (g i j) s.toks) { s with toks:=s.toks+1 }->wpAny (model X.prog X.w) X.A (f (.int i t) (.int j u)) Q E s) :
  nS X f (DY fun i j=>.int (g i j)):=by
 intro m s σ H x y v u Q I e k h;obtain⟨i,j,rfl,rfl,q⟩:=h;obtain⟨t,rfl⟩:=e;obtain⟨l,rfl⟩:=k;exact rule i j t l s _ _ ⟨.int (g i j),H,I.tok _,⟨_,rfl⟩,q⟩
theorem Jk{f:Value->Value->Sem Value}{g:Int->Int->Bool}
  (rule:∀(i j:Int) (t u:Tok) (s:Shared) (Q:Zc) (E:Zc),Q (.bool (g i j)) s->wpAny (model X.prog X.w) X.A (f (.int i t) (.int j u)) Q E s) :
  nS X f (DY fun i j=>.bl (g i j)):=by
 intro m s σ H x y v u Q I e k h;obtain⟨i,j,rfl,rfl,q⟩:=h;obtain⟨t,rfl⟩:=e;obtain⟨l,rfl⟩:=k;exact rule i j t l s _ _ ⟨.bl (g i j),H,I,rfl,q⟩
def LG(i j:Int):Prop:=0<j/\j<1073741824
def LF(i j:Int):Prop:=0<=j/\j<=1000000/\i.natAbs<2 ^ 64
def Ip(i j:Int):Prop:=(-(2 ^ 64)<i/\i<2 ^ 64)∨(-(2 ^ 64)<j/\j<2 ^ 64)
theorem Ip.ok{i j:Int}(h:Ip i j):IntMulOk i j:=by
 rcases h with⟨e,f⟩|⟨e,f⟩
 ·exact .of_left (intBits_le_64 e f)
 ·exact .of_right (intBits_le_64 e f)
theorem cz:nS X (l_ .Add) (DY fun i j=>.int (i+j)):=Lf fun _ _ _ _ _ _ _ q=>add_int q
theorem jk:nS X (l_ .Sub) (DY fun i j=>.int (i-j)):=Lf fun _ _ _ _ _ _ _ q=>sub_int q
theorem jm:nS X (l_ .Mult) (rI Ip fun i j=>.int (i * j)):=KR fun _ _ _ _ _ _ _ e q=>mul_int q e.ok
theorem Ej:nS X (l_ .FloorDiv) (rI LG fun i j=>.int (i / j)):=KR fun i j _ _ _ _ _ e q=>by
 have f:(0:Int)<j:=e.1;have g:j<1073741824:=e.2;exact floordiv_int (by omega) (by rw[Int.fdiv_eq_ediv_of_nonneg i (by omega)];exact q) (.inl (PyProof.noPylong_small (by omega)))
theorem gL:nS X (l_ .Mod) (rI (fun _ j=>0<j) fun i j=>.int (i % j)):=KR fun i j _ _ _ _ _ e q=>by
 have f:(0:Int)<j:=e;exact mod_int' (by omega) (by rw[Int.fmod_eq_emod_of_nonneg i (by omega)];exact q)
theorem Hg:nS X (l_ .Pow) (rI LF fun i j=>.int (i ^ j.toNat)):=KR fun _ _ _ _ _ _ _ e q=>pow_int_small e.1 e.2.1 e.2.2 q
theorem unI{f:Value->Sem Value}{g:Int->Int}
  (rule:∀(i:Int) (t:Tok) (s:Shared) (Q:Zc) (E:Zc),Q (.int (g i) s.toks) { s with toks:=s.toks+1 }->wpAny (model X.prog X.w) X.A (f (.int i t)) Q E s) :
  UnR X f (rU fun i=>.int (g i)):=by
 intro j s σ H x v Q I e h;obtain⟨i,rfl,q⟩:=h;obtain⟨t,rfl⟩:=e;exact rule i t s _ _ ⟨.int (g i),H,I.tok _,⟨_,rfl⟩,q⟩
theorem yr:UnR X (unaryOp .USub) (rU fun i=>.int (-i)):=unI fun _ _ _ _ _ q=>neg_int q
end
def K7:V->V->Bool
 |.non,.non=>true | .non,.int _=>true | .int _,.non=>true | .non,.bl _=>true | .bl _,.non=>true | .non,.str _=>true | .str _,.non=>true
 |.int _,.int _=>true | .bl _,.bl _=>true | .str _,.str _=>true | .byt _,.byt _=>true
 |.int _,.str _=>true | .str _,.int _=>true | .bl _,.str _=>true | .str _,.bl _=>true
 |_,_=>false
def vI:R2:=fun x y H Q=>K7 x y=true/\Q (.bl (decide (x=y))) H
def K_:R2:=fun x y H Q=>K7 x y=true/\Q (.bl (!decide (x=y))) H
theorem Ez{i j:Int}:decide (V.int i=V.int j)=(i==j):=by
 rw[wD];simp
theorem HU{i j:Bool}:decide (V.bl i=V.bl j)=(i==j):=by
 rw[wD];simp
theorem Ex{i j:Str}:decide (V.str i=V.str j)=(i==j):=by
 rw[wD];simp
theorem EA{i j:Array UInt8}:decide (V.byt i=V.byt j)=(i.toList==j.toList):=by
 rw[wD];cases i;cases j;simp
section
variable{X:Cx}{a b c:Expr}{ta tb tc:TE}{pos:Pos}
theorem cg{f:Zd}{σ:St}{H:Hp}{s:Shared}{Q:VK}{k g:Bool}(I:Inv X f σ H s)(q:Q (.bl k) H)(e:k=g):EP X f σ Q (.bool g) s:=by
 subst e;exact⟨.bl k,H,I,rfl,q⟩
theorem gM:nS X (fP .Eq) vI:=by
 intro l s σ H x y v u Q I k e h;obtain⟨g,q⟩:=h;cases x with
 |non =>
  cases k;cases y with
  |non=>cases e;exact PySem.EqNone.eq_none_none (cg I q (by simp))
  |bl j=>cases e;exact PySem.EqNone.eq_none_bool (cg I q (by simp))
  |int j=>obtain⟨f,rfl⟩:=e;exact PySem.EqNone.eq_none_int (cg I q (by simp))
  |str j=>obtain⟨f,rfl⟩:=e;exact PySem.EqNone.eq_none_str (cg I q (by simp))
  |_=>exact absurd (show false=true from g) iP
 |bl i =>
  cases k;cases y with
  |non=>cases e;exact PySem.EqNone.eq_bool_none (cg I q (by simp))
  |bl j=>cases e;exact eq_bool (cg I q HU)
  |str j=>obtain⟨f,rfl⟩:=e;exact PySem.EqMixed.eq_bool_str (cg I q (by simp))
  |_=>exact absurd (show false=true from g) iP
 |int i =>
  obtain⟨t,rfl⟩:=k;cases y with
  |non=>cases e;exact PySem.EqNone.eq_int_none (cg I q (by simp))
  |int j=>obtain⟨f,rfl⟩:=e;exact eq_int (cg I q Ez)
  |str j=>obtain⟨f,rfl⟩:=e;exact PySem.EqMixed.eq_int_str (cg I q (by simp))
  |_=>exact absurd (show false=true from g) iP
 |str i =>
  obtain⟨t,rfl⟩:=k;cases y with
  |non=>cases e;exact PySem.EqNone.eq_str_none (cg I q (by simp))
  |bl j=>cases e;exact PySem.EqMixed.eq_str_bool (cg I q (by simp))
  |int j=>obtain⟨f,rfl⟩:=e;exact PySem.EqMixed.eq_str_int (cg I q (by simp))
  |str j=>obtain⟨f,rfl⟩:=e;exact eq_str (cg I q Ex)
  |_=>exact absurd (show false=true from g) iP
 |byt i =>
  obtain⟨t,rfl⟩:=k;cases y with
  |byt j=>obtain⟨f,rfl⟩:=e;exact PySem.W.eq_bytes (cg I q EA)
  |_=>exact absurd (show false=true from g) iP
 |_=>cases y<;>exact absurd (show false=true from g) iP
theorem Ei:nS X (fP .NotEq) K_:=by
 intro l s σ H x y v u Q I k e h;obtain⟨g,q⟩:=h;cases x with
 |non =>
  cases k;cases y with
  |non=>cases e;exact PySem.EqNone.ne_none_none (cg I q (by simp))
  |bl j=>cases e;exact PySem.EqNone.ne_none_bool (cg I q (by simp))
  |int j=>obtain⟨f,rfl⟩:=e;exact PySem.EqNone.ne_none_int (cg I q (by simp))
  |str j=>obtain⟨f,rfl⟩:=e;exact PySem.EqNone.ne_none_str (cg I q (by simp))
  |_=>exact absurd (show false=true from g) iP
 |bl i =>
  cases k;cases y with
  |non=>cases e;exact PySem.EqNone.ne_bool_none (cg I q (by simp))
  |bl j=>cases e;exact ne_bool (cg I q (congrArg not HU))
  |str j=>obtain⟨f,rfl⟩:=e;exact PySem.EqMixed.ne_bool_str (cg I q (by simp))
  |_=>exact absurd (show false=true from g) iP
 |int i =>
  obtain⟨t,rfl⟩:=k;cases y with
  |non=>cases e;exact PySem.EqNone.ne_int_none (cg I q (by simp))
  |int j=>obtain⟨f,rfl⟩:=e;exact ne_int (cg I q (congrArg not Ez))
  |str j=>obtain⟨f,rfl⟩:=e;exact PySem.EqMixed.ne_int_str (cg I q (by simp))
  |_=>exact absurd (show false=true from g) iP
 |str i =>
  obtain⟨t,rfl⟩:=k;cases y with
  |non=>cases e;exact PySem.EqNone.ne_str_none (cg I q (by simp))
  |bl j=>cases e;exact PySem.EqMixed.ne_str_bool (cg I q (by simp))
  |int j=>obtain⟨f,rfl⟩:=e;exact PySem.EqMixed.ne_str_int (cg I q (by simp))
  |str j=>obtain⟨f,rfl⟩:=e;exact ne_str (cg I q (congrArg not Ex))
  |_=>exact absurd (show false=true from g) iP
 |byt i =>
  obtain⟨t,rfl⟩:=k;cases y with
  |byt j=>obtain⟨f,rfl⟩:=e;exact PySem.W.ne_bytes (cg I q (congrArg not EA))
  |_=>exact absurd (show false=true from g) iP
 |_=>cases y<;>exact absurd (show false=true from g) iP
theorem uR:nS X (fP .Lt) (DY fun i j=>.bl (decide (i<j))):=Jk fun _ _ _ _ _ _ _ q=>lt_int q
theorem Ld:nS X (fP .LtE) (DY fun i j=>.bl (decide (i<=j))):=Jk fun _ _ _ _ _ _ _ q=>le_int q
theorem AV:nS X (fP .Gt) (DY fun i j=>.bl (decide (j<i))):=Jk fun _ _ _ _ _ _ _ q=>gt_int q
theorem Le:nS X (fP .GtE) (DY fun i j=>.bl (decide (j<=i))):=Jk fun _ _ _ _ _ _ _ q=>ge_int q
theorem Fo:nS X (fP .In) (fun x y H Q=>∃i j,x=.str i/\y=.str j/\Q (.bl (!(cb.Str.occurrences j i 0 j.length 1).isEmpty)) H):=by
 intro g s σ H x y v u Q I e f h;obtain⟨i,j,rfl,rfl,q⟩:=h;obtain⟨t,rfl⟩:=e;obtain⟨k,rfl⟩:=f;exact in_str (cg I q rfl)
theorem Hl(b:Expr){e:CmpOp}(h:e≠.In:=by decide)(f:e≠.NotIn:=by decide):lT e b=false:=by
 have g:(e==CmpOp.In)=false:=by cases e<;>first|rfl|exact absurd rfl h
 have i:(e==CmpOp.NotIn)=false:=by cases e<;>first|rfl|exact absurd rfl f
 cases b<;>simp[lT,g,i]
theorem Eg{e:CmpOp}{r:R2}(f:nS X (fP e) r)(g:PE X a ta)(i:PE X b tb)(j:lT e b=false):PE X (.Compare a [e] [b] pos) (aH r ta tb):=by
 intro k s σ H Q I h;exact wpAny_Compare1 (KJ g i I h fun v u l x y m n o p q=>f k l σ m x y v u Q n o p q) j
def aU(t:TE):TT:=fun σ H Q=>t σ H fun x H'=>∃k,x=.bl k/\Q k H'
theorem D0{f:CmpOp}{r:R2}(i:nS X (fP f) r)(j:PE X a ta)(l:PE X b tb)(m:lT f b=false):PT X (.Compare a [f] [b] pos) (aU (aH r ta tb)):=by
 intro g s σ H Q I h;refine wpAny_isTrue_Compare1 (cH (j g s σ H _ I h) fun v n ⟨x,o,p,q,t⟩=>cH (l g n σ o _ p t) fun u w ⟨y,A,B,C,D⟩ =>
  cH (i g w σ A x y v u _ B q C D) fun c M ⟨z,E,G,J,k,e,L⟩=>?_) m
 subst e;cases J;exact rX ⟨E,G,L⟩
theorem rh:(aj:Nat)<2 ^ 63:=by rw[rR];decide
theorem uS:nS X (l_ .Add) (fun x y H Q=>∃i j,x=.str i/\y=.str j/\i.length+j.length<=aj/\Q (.str (i++j)) H):=by
 intro l s σ H x y v u Q I e f h;obtain⟨i,j,rfl,rfl,g,q⟩:=h;obtain⟨t,rfl⟩:=e;obtain⟨k,rfl⟩:=f;exact add_str (fun k tk=>⟨.str (i++j),H,I.tok _,⟨_,rfl⟩,q⟩) g
theorem vals1{x:V}{e:Zf}(r:ba [x] e):∃u,e=[u]/\RelV x u:=by
 cases r with
 |cons f g=>cases g;exact⟨_,rfl,f⟩
theorem vals2{x y:V}{e:Zf}(r:ba [x,y] e):∃u f,e=[u,f]/\RelV x u/\RelV y f:=by
 cases r with
 |cons g h =>
  cases h with
  |cons i j=>cases j;exact⟨_,_,rfl,g,i⟩
theorem FT(g:X.calm=true):fV X (.builtin "max") (fun f H Q=>∃i j,f=[.int i,.int j]/\Q (.int (if j > i then j else i)) H):=by
 intro l s σ H f m Q I r h;obtain⟨i,j,rfl,q⟩:=h;obtain⟨u,n,rfl,⟨t,rfl⟩,⟨o,rfl⟩⟩:=vals2 r;refine max_two_ints (I.ok.hd g) fun p tk k=>⟨_,H,I.kept k,?_,q⟩;by_cases e:j > i
 ·rw[if_pos e,if_pos e];exact⟨_,rfl⟩
 ·rw[if_neg e,if_neg e];exact⟨_,rfl⟩
theorem FV:fV X (.type "int") (fun e H Q=>(∃i,e=[.int i]/\Q (.int i) H)∨∃k,e=[.bl k]/\Q (.int (if k then 1 else 0)) H):=by
 intro g s σ H e j Q I r h;rcases h with⟨i,rfl,q⟩|⟨k,rfl,q⟩
 ·obtain⟨u,rfl,t,rfl⟩:=vals1 r;exact call_int_int ⟨.int i,H,I,⟨_,rfl⟩,q⟩
 ·obtain⟨u,rfl,f⟩:=vals1 r;cases f;exact call_int_bool ⟨.int (if k then 1 else 0),H,I.tok _,⟨_,rfl⟩,q⟩
end
end L2
namespace L2
open PySem PySem.Spec PyProof.Rows
structure Dp(h:Heap)(x dx C:Addr)(mA:Str->Option Value):Prop where
 obj:h.get? x=some (rV C dx)
 ns:h.Ns1 dx mA
 ne:dx≠x
theorem Fx{h:Heap}{g:Addr}{i:Str->Option Value}(n:h.Ns1 g i):∃j,h.get? g=some j/\∀name,DE name j=some (i name):=by
 obtain⟨o,k,v,l,m,p,_,r⟩:=n;refine⟨o,l,fun name=>?_⟩;have e:=r name;unfold nsFind findBy at e;rw[<-Array.find?_toList]at e;unfold DE;rw[m];dsimp only;split
 ·rename_i y q;rw[q]at e;exact congrArg some e
 ·rename_i q;rw[q]at e;have a:k.toList.any (·.refKey)=false:=by
   rw[List.any_eq_false];intro y s;obtain⟨z,t,f⟩:=p y (Array.mem_toList_iff.mp s);simp[ml.refKey,f]
  have u:¬k.toList.any (·.refKey)=true:=by rw[a];exact iP
  rw[if_neg u];exact congrArg some e
theorem Dp.look{h:Heap}{x e C:Addr}{f:Str->Option Value}(I:Dp h x e C f):∃a,PySem.W.InstAt h x (rV C e) C (some a)/\∀name,DE name a=some (f name) :=
 let⟨a,g,i⟩:=Fx I.ns
 ⟨a,⟨I.obj,rfl,rfl,g⟩,i⟩
section
variable{prog:b9}{w:World}{A:Around}{E:Zc}{s:Shared}{K:Za}{x dx C f:Addr}{mA:Str->Option Value}{name:Str}{v:Value}
theorem Js{a:Bool}{Q:Zc}(X:K.In s.heap)(I:Dp s.heap x dx C mA)(g:rQ K C name=true)(i:tN K C=true)
  (j:cM K (.ref C) name=some none) (k:mA name=some v) (e:PySem.W.handedIn v=true) (h:Q v { s with toks:=s.toks+1 }) :
  wpAny (model prog w) A (getAttr (.ref x) name a) Q E s:=by
 obtain⟨m,J,l⟩:=I.look;exact PySem.W.get_value X J (PySem.W.plainGet_of g).1 (PySem.W.findObj_own i j rfl (by rw[l,k])) e h
theorem HI{e:Sem Bool}{Q:Value×List Value->Shared->Prop}(X:K.In s.heap)(I:Dp s.heap x dx C mA)(a:rQ K C name=true)
  (g:cM K (.ref C) name=some (some (.ref f))) (i:Ah K (.ref f)=true) (j:mA name=none) (h:Q (.ref f,[.ref x]) s) :
  wpAny (model prog w) A (rP (.ref x) name e) Q E s:=by
 obtain⟨k,J,l⟩:=I.look;exact PySem.W.method_fn X J (PySem.W.plainGet_of a).1 (PySem.W.plainGet_of a).2 g (beq_iff_eq.mp i) (by show(DE name k).map (·.isSome)=some false;rw[l,j];rfl) h
theorem IP{n:Zb}{Q:Unit->Shared->Prop}(X:K.In s.heap)(I:Dp s.heap x dx C mA)
  (o:cM K (.ref C) "__setattr__"=some (some (.builtin "object.__setattr__"))) (p:wC K C=true) (q:PySem.W.takerIn K C name=some none) (t:tN K C=true)
  (u:PySem.Within mA n) (z:n.length<=aj)
  (h:∀i,Dp i x dx C (fun y=>if y=name then some v else mA y)->jy dx s.heap i->Q () { s with heap:=i,toks:=s.toks+2 }) :
  wpAny (model prog w) A (setAttr (.ref x) name v) Q E s:=by
 obtain⟨L,J,M⟩:=I.look;refine PySem.W.set_plain X J o (PySem.W.osa_open (s:={ s with toks:=s.toks+1 }) (r:=none) X J p q fun b=>?_);obtain⟨N,B,j⟩:=PySem.W.any_some t;have D:s.heap.get? x=some ⟨.ref C,some dx,.plain,#[]⟩:=I.obj;refine ar (aT (ar (ar (wpAny_loadPart D (ar (PySem.W.Looks.here (s:={ s with toks:=s.toks+1 }) (PySem.W.looks_clsIn X B) ?_))))));rw[j];refine aT (a:=some dx) (ar (aT (ar ?_)));refine wpAny_nsSet1 (s:={ s with toks:=s.toks+1 }) I.ns fun i e g=>?_;obtain⟨O,G,H,k,l,m⟩:=e.count (PySem.Within.cons name v u);refine ar (wpAny_lookBehind k (by rw[l];exact pastItsLine_dict (aE m (by rw[fO];omega))) ?_);exact aT (h _ ⟨(g.2 _ (gk I.ne)).trans I.obj,e,I.ne⟩ g)
theorem Hy{R:Result->Shared->Prop}{a:Zf}{e:List (Str×Value)}(X:K.In s.heap)(i:l9 K C=true)
  (j:cM K (.ref C) "__init__"=some (some (.ref f))) (k:PySem.W.typeIn K (.ref f)=some (.type "function"))
  (h:zzl79 (model prog w) (A.under (.builtin "type.__call__" ⟨.ref C::a,e⟩)) (.call (.ref f) ⟨.ref (s.heap.objs.size+1)::a,e⟩) (PySem.W.InitBack (s.heap.objs.size+1) R)
   { s with heap:=(s.heap.push o8).push (rV C s.heap.objs.size) }) :
  zzl79 (model prog w) A (.call (.ref C) ⟨a,e⟩) R s:=by
 obtain⟨l,g,d,t,os⟩:=s;exact PySem.W.make_core (PySem.W.makes_of X i) (PySem.W.looks_findIn X j) (fun self=>PySem.W.bind_fn X self k) (.inl rfl) h
end
def cP(f:Str)(v:V):List (Str×V)->List (Str×V)
 |[]=>[(f,v)]
 | (g,x)::r=>if g=f then(g,v)::r else(g,x)::cP f v r
theorem aV(f g:Str)(v:V):∀fs:List (Str×V),(cP f v fs).lookup g=if g=f then some v else fs.lookup g
 |[]=>by
  show fI g [(f,v)]=_;by_cases h:g=f
  ·have a:(g==f)=true:=beq_iff_eq.mpr h;simp only[fI,a,if_pos h]
  ·have a:(g==f)=false:=beq_eq_false_iff_ne.mpr h;simp only[fI,a,if_neg h]
 | (k,x)::r=>by
  have j:=aV f g v r;rw[show cP f v ((k,x)::r)=(if k=f then(k,v)::r else(k,x)::cP f v r)from rfl]
  by_cases i:k=f
  ·rw[if_pos i];by_cases h:g=k
   ·have a:(g==k)=true:=beq_iff_eq.mpr h;simp only[fI,a,if_pos (h.trans i)]
   ·have a:(g==k)=false:=beq_eq_false_iff_ne.mpr h;simp only[fI,a,if_neg (fun e:g=f=>h (e.trans i.symm))]
  ·rw[if_neg i];by_cases h:g=k
   ·have a:(g==k)=true:=beq_iff_eq.mpr h;simp only[fI,a,if_neg (fun e:g=f=>i (h.symm.trans e))]
   ·have a:(g==k)=false:=beq_eq_false_iff_ne.mpr h;simp only[fI,a];exact j
theorem rk(f:Str)(v:V):∀fs:List (Str×V),f∈(cP f v fs).map (·.1)/\∀g,g∈fs.map (·.1)->g∈(cP f v fs).map (·.1)
 |[]=>⟨by simp[cP],fun g h=>by simp at h⟩
 | (k,x)::r=>by
  obtain⟨i,j⟩:=rk f v r;rw[show cP f v ((k,x)::r)=(if k=f then(k,v)::r else(k,x)::cP f v r)from rfl]
  by_cases a:k=f
  ·rw[if_pos a];subst a;exact⟨by simp,fun g h=>by simpa using h⟩
  ·rw[if_neg a];refine⟨?_,fun g h=>?_⟩
   ·rw[bF];exact c7 _ i
   ·rw[bF]at h ⊢;rcases cC.mp h with e|e
    ·exact cC.mpr (.inl e)
    ·exact c7 _ (j g e)
theorem sf(f:Str)(v:V):∀fs:List (Str×V),(cP f v fs).length<=fs.length+1
 |[]=>by simp[cP]
 | (k,x)::r=>by
  have e:=sf f v r;rw[show cP f v ((k,x)::r)=(if k=f then(k,v)::r else(k,x)::cP f v r)from rfl]
  by_cases a:k=f
  ·rw[if_pos a,fO,fO];omega
  ·rw[if_neg a,fO,fO];omega
theorem lZ.some_of{v:V}{o:Option Value}(r:lZ (some v) o):∃u,o=some u/\RelV v u:=by
 cases o with
 |none=>exact(show False from r).elim
 |some u=>exact⟨u,rfl,r⟩
theorem lZ.none_of{o:Option Value}(r:lZ none o):o=none:=by
 cases o with
 |none=>rfl
 |some u=>exact(show False from r).elim
theorem FI{v:V}{u:Value}(r:RelV v u):PySem.W.handedIn u=true:=by
 cases v with
 |non=>cases(show u=Value.none from r);rfl
 |bl b=>cases(show u=Value.bool b from r);rfl
 |int i=>obtain⟨t,e⟩:=(show ∃t,u=Value.int i t from r);cases e;rfl
 |str x=>obtain⟨t,e⟩:=(show ∃t,u=Value.str x t from r);cases e;rfl
 |byt b=>obtain⟨t,e⟩:=(show ∃t,u=Value.bytes b t from r);cases e;rfl
 |flt b=>obtain⟨t,e⟩:=(show ∃t,u=Value.float b t from r);cases e;rfl
 |ref a=>cases(show u=Value.ref a from r);rfl
 |ty n=>cases(show u=Value.type n from r);rfl
section
variable{P:b9}{w:World}{H H':Hp}{h h':Heap}{a C dx:Addr}{fs fs':List (Str×V)}
theorem tE{K:Za}(i:nu P w K H h)(e:H a=some (.ins C dx fs)):∃g,Dp h a dx C g/\(∀f,lZ (fs.lookup f) (g f))/\PySem.Within g (fs.map (·.1))/\fs.length<=1000/\H dx=some (.own a):=by
 obtain⟨d,z,ne,j,g,n,r,q⟩:=(show cw P w K H h a (.ins C dx fs)from i a _ e);exact⟨g,⟨j,n,ne⟩,r,q,z,d⟩
end
structure BN(K:Za)(C:Addr):Prop where
 pg:rQ K C Ag=true
 hd:tN K C=true
 po:wC K C=true
 sa:cM K (.ref C) "__setattr__"=some (some (.builtin "object.__setattr__"))
theorem BN.get{K:Za}{C:Addr}(c:BN K C)(f:Str):rQ K C f=true:=c.pg
def cX(K:Za)(C:Addr)(f:Str):Prop:=cM K (.ref C) f=some none
theorem cX.taker{K:Za}{C:Addr}{f:Str}(n:cX K C f):PySem.W.takerIn K C f=some none:=by
 unfold PySem.W.takerIn;rw[show cM K (.ref C) f=some none from n]
 rfl
structure JL(K:Za)(C:Addr)(m:Str)(f:Addr):Prop where
 at_:cM K (.ref C) m=some (some (.ref f))
 fn:Ah K (.ref f)=true
 kp:gw K (.ref f)=true
section
variable{X:Cx}{J3:Zd}{σ:St}{H:Hp}{s:Shared}{a C dx:Addr}{fs:List (Str×V)}{f:Str}{v:V}{A:Around}{E:Zc}
theorem C6{b:Bool}{Q:Zc}(I:Inv X J3 σ H s)(e:H a=some (.ins C dx fs))(c:BN X.K C)(n:cX X.K C f)(l:fs.lookup f=some v)
  (h:∀u g,Inv X J3 σ H g->RelV v u->Q u g):wpAny (model X.prog X.w) A (getAttr (.ref a) f b) Q E s:=by
 obtain⟨j,O,r,_,_,_⟩:=tE I.hok e;obtain⟨u,k,i⟩:=lZ.some_of (v:=v) (o:=j f) (by rw[<-l];exact r f);exact Js I.kIn O (c.get f) c.hd n k (FI i) (h u _ (I.tok _) i)
theorem u_{m:Str}{g:Addr}{i:Sem Bool}{Q:Value×List Value->Shared->Prop}(I:Inv X J3 σ H s)(e:H a=some (.ins C dx fs))(c:BN X.K C)(k:JL X.K C m g)(l:fs.lookup m=none)
  (h:Q (.ref g,[.ref a]) s):wpAny (model X.prog X.w) A (rP (.ref a) m i) Q E s:=by
 obtain⟨j,O,r,_,_,_⟩:=tE I.hok e;have n:j m=none:=lZ.none_of (by rw[<-l];exact r m);exact HI I.kIn O (c.get m) k.at_ k.fn n h
theorem Cu{y:V}{u:Value}{Q:Unit->Shared->Prop}(I:Inv X J3 σ H s)(e:H a=some (.ins C dx fs))(c:BN X.K C)(n:cX X.K C f)(N:fs.length<1000)(p:RelV y u)
  (h:∀j,Inv X J3 σ (upd H a (.ins C dx (cP f y fs))) j->Q () j):wpAny (model X.prog X.w) A (setAttr (.ref a) f u) Q E s:=by
 obtain⟨k,O,r,l,_,m⟩:=tE I.hok e;have t:(fs.map (·.1)).length<=aj:=by rw[ah,rR];omega
 refine IP I.kIn O c.sa c.po n.taker c.hd l t fun B i D=>h _ ?_;have G:∃o,B.get? dx=some o:=let⟨o,_,_,J,_⟩:=i.ns;⟨o,J⟩;refine I.write (x:=a) (e:=dx) (by rw[e];exact ke) (.inr m) (fun b q L z=>(D.2 b L).trans z) G ?_;refine⟨by rw[ai O.ne];exact m,?_,O.ne,i.obj,_,i.ns,fun g=>?_,fun g M=>?_⟩
 ·have:=sf f y fs;omega
 ·show lZ ((cP f y fs).lookup g) (if g=f then some u else k g)
  rw[aV];by_cases q:g=f
  ·rw[if_pos q,if_pos q];exact p
  ·rw[if_neg q,if_neg q];exact r g
 ·by_cases q:g=f
  ·rw[q];exact(rk f y fs).1
  ·refine(rk f y fs).2 g (l g fun z=>M ?_);show(if g=f then some u else k g)=none
   rw[if_neg q];exact z
theorem Inv.made(I:Inv X J3 σ H s):Inv X J3 σ (upd (upd H s.heap.objs.size (.own (s.heap.objs.size+1))) (s.heap.objs.size+1) (.ins C s.heap.objs.size []))
  { s with heap:=(s.heap.push o8).push (rV C s.heap.objs.size) }:=by
 have g:(s.heap.push o8).get? s.heap.objs.size=some o8:=du s.heap rfl;have h:((s.heap.push o8).push (rV C s.heap.objs.size)).get? (s.heap.objs.size+1)=some (rV C s.heap.objs.size):=by
  have:=du (s.heap.push o8) (o:=rV C s.heap.objs.size) rfl;rwa[tM]at this
 have i:(s.heap.push o8).Ns s.heap.objs.size (fun _=>none):=⟨o8,#[],_,g,rfl,(fun e j=>absurd j (by simp)),fun _=>rfl⟩;have k:=I.laid (a:=s.heap.objs.size) (o:=.own (s.heap.objs.size+1)) (h':=s.heap.push o8) (t':=s.toks) (fun b u q=>bR _ q) (aB _) ⟨_,g⟩;refine k.laid (a:=s.heap.objs.size+1) (o:=.ins C s.heap.objs.size []) (t':=s.toks) (fun b u q=>bR _ q) (Nat.le_of_eq (tM _ _)) ?_;have ne:s.heap.objs.size≠s.heap.objs.size+1:=bW (Nat.lt_succ_self _);refine⟨by rw[ai ne,aa],dI _,ne,h,fun _=>none,(Heap.Ns1.of_empty i).at fun o q=>bR _ q,fun _=>ke,fun y l=>absurd rfl l⟩
theorem JC{g:b9}{w:World}{i:Env}{e:Expr}{f:Str}{k:Pos}{s:Shared}{Q:Zc}(l:wB e f i (eval e i)=eval e i)
  (h:wpAny (model g w) A (eval e i) (fun o j=>wpAny (model g w) A (getAttr o f true) Q E j) E s):wpAny (model g w) A (eval (.Attribute e f k) i) Q E s :=
 Attribute_any_ h (by rw[arm_eval_Attribute,l])
end
def fN(K:Za)(ta:TE)(f:Str):TE:=fun σ H Q=>ta σ H fun x H1=>∃a C dx fs v,x=.ref a/\H1 a=some (.ins C dx fs)/\BN K C/\cX K C f/\fs.lookup f=some v/\Q v H1
def lY(K:Za)(ta tv:TE)(f:Str):TS:=fun D σ H=>tv σ H fun y H1=>ta σ H1 fun x H2=>∃a C dx fs,x=.ref a/\H2 a=some (.ins C dx fs)/\BN K C/\cX K C f/\fs.length<1000 /\
 D.nx σ (upd H2 a (.ins C dx (cP f y fs)))
section
variable{X:Cx}{o e value:Expr}{f:Str}{pos pos' J7:Pos}{ta tv:TE}
theorem cx(i:PE X e ta)(j:wB e f X.env (eval e X.env)=eval e X.env):PE X (.Attribute e f pos) (fN X.K ta f):=by
 intro k s σ H Q I h;refine JC j (cH (i k s σ H _ I h) fun u z g=>?_);obtain⟨x,m,p,r,a,C,A,fs,v,ex,t,c,n,l,q⟩:=g;subst ex;obtain rfl:u=Value.ref a:=r;exact C6 p t c n l fun B D w y=>⟨v,m,w,y,q⟩
theorem eS(j:PE X o ta)(k:PE X value tv)(m:rS value (some (.Attribute o f pos')) pos.line X.env=pure false):PS X (.Assign [.Attribute o f pos'] value pos) (lY X.K ta tv f):=by
 intro i s σ H D I h;refine plainObj_wpAny_Assign_Attribute (cH (k i s σ H _ I h) fun u p ⟨y,r,t,v,q⟩=>cH (j i p σ r _ t q) fun w J g=>?_) m;obtain⟨x,L,z,A,a,C,M,fs,ex,B,c,n,l,E⟩:=g;subst ex;obtain rfl:w=Value.ref a:=A;exact Cu z B c n l v fun N G=>⟨σ,_,G,E⟩
end
section
variable{X:Cx}{J3:Zd}{σ:St}{H:Hp}{s:Shared}{A:Around}{E:Zc}{Q:Zc}{c:Value}{b:Bool}
inductive oN(K:Za)(H:Hp):V->Value->Prop where
 |non:oN K H .non (.type "NoneType")
 |bl (x:Bool):oN K H (.bl x) (.type "bool")
 |int (i:Int):oN K H (.int i) (.type "int")
 |str (x:Str):oN K H (.str x) (.type "str")
 |flt (x:UInt64):oN K H (.flt x) (.type "float")
 |lst {a:Addr}{xs:List V}(e:H a=some (.lst xs)):oN K H (.ref a) (.type "list")
 |frz {a:Addr}{o:Obj}{xs:List V}(e:H a=some (.frz o (.lst xs))):oN K H (.ref a) (.type "list")
 |tup {a:Addr}{xs:List V}(e:H a=some (.tup xs)):oN K H (.ref a) (.type "tuple")
 |dK {a:Addr}{kvs:List (fG×V)}(e:H a=some (.dK kvs)):oN K H (.ref a) (.type "dict")
 |dT {a:Addr}{kvs:List (TK×V)}(e:H a=some (.dT kvs)):oN K H (.ref a) (.type "dict")
 |ins {a C dx:Addr}{fs:List (Str×V)}(e:H a=some (.ins C dx fs)) (cl:BN K C) (ha:cM K (.ref C) "__class__"=some (some (.builtin "object.__class__")))
   (hn:PySem.W.specialIn K (.builtin "object.__class__") "__get__"=some (some (.builtin "getset_descriptor.__get__"))) (htk:PySem.W.takesIn K (.builtin "object.__class__")=some true)
   (hm:PySem.W.mroIn K C (.type "object")=some true):oN K H (.ref a) (.ref C)
theorem FD{x:V}{u t:Value}(I:Inv X J3 σ H s)(f:RelV x u)(ty:oN X.K H x t)(e:DD X.K t c=some b)(h:∀tk,Q (.bool b) { s with toks:=tk }):
  wpAny (model X.prog X.w) A (call (.builtin "isinstance") [u,c]) Q E s:=by
 cases ty with
 |non=>cases(show u=Value.none from f);exact kb PySem.W.kitx_none I.kIn ke e (fun z=>nomatch z) h
 |bl y=>cases(show u=Value.bool y from f);exact kb PySem.W.kitx_bool I.kIn ke e (fun z=>nomatch z) h
 |int i=>obtain⟨t,q⟩:=(show ∃t,u=Value.int i t from f);cases q;exact kb PySem.W.kitx_int I.kIn ke e (fun z=>nomatch z) h
 |str y=>obtain⟨t,q⟩:=(show ∃t,u=Value.str y t from f);cases q;exact kb PySem.W.kitx_str I.kIn ke e (fun z=>nomatch z) h
 |flt y=>obtain⟨t,q⟩:=(show ∃t,u=Value.float y t from f);cases q;exact kb PySem.W.kitx_float I.kIn ke e (fun z=>nomatch z) h
 |@lst a l g =>
  cases(show u=Value.ref a from f);obtain⟨_,_,n,_,j⟩:=(show cw X.prog X.w X.K H s.heap a (.lst l)from I.hok a _ g);exact kb PySem.W.kitx_list I.kIn ⟨_,j,rfl⟩ e (fun z=>nomatch z) h
 |@frz a B l g =>
  cases(show u=Value.ref a from f);obtain⟨_,_,_,n,_,j⟩:=(show cw X.prog X.w X.K H s.heap a (.frz B (.lst l))from I.hok a _ g);exact kb PySem.W.kitx_list I.kIn ⟨_,j,rfl⟩ e (fun z=>nomatch z) h
 |@tup a l g =>
  cases(show u=Value.ref a from f);obtain⟨_,_,_,p⟩:=(show cw X.prog X.w X.K H s.heap a (.tup l)from I.hok a _ g);obtain⟨o,j,m,_⟩:=p;exact kb PySem.W.kitx_tuple I.kIn ⟨o,j,m⟩ e (fun z=>nomatch z) h
 |@dK a k g =>
  cases(show u=Value.ref a from f);obtain⟨_,_,T,_,p⟩:=(show cw X.prog X.w X.K H s.heap a (.dK k)from I.hok a _ g);obtain⟨o,D,G,j,m,_⟩:=p;exact kb PySem.W.kitx_dict I.kIn ⟨o,j,m.1⟩ e (fun z=>nomatch z) h
 |@dT a k g =>
  cases(show u=Value.ref a from f);obtain⟨_,_,l,_,o,D,G,j,m,_⟩:=(show cw X.prog X.w X.K H s.heap a (.dT k)from I.hok a _ g);exact kb PySem.W.kitx_dict I.kIn ⟨o,j,m.1⟩ e (fun z=>nomatch z) h
 |@ins a C U fs g v L M r N =>
  cases(show u=Value.ref a from f);obtain⟨Y,O,_⟩:=tE I.hok g;obtain⟨od,J,_⟩:=O.look;exact kb (PySem.W.kitx_own (v.get _) v.hd L M r N) I.kIn J e (fun z=>nomatch z) h
end
end L2
namespace L2
open PySem PySem.Spec PyProof.Rows
structure fF(k:Nat)(A:Around):Prop where
 hd:A.handled=none
 dp:A.depth+3 * k+5<recursionLimit
 un:A.units+16 * k+200<cLine
theorem fF.mono{j k:Nat}{A:Around}(r:fF k A)(h:j<=k):fF j A:=⟨r.hd,by have:=r.dp;omega,by have:=r.un;omega⟩
theorem fF.deeper{k:Nat}{A:Around}(r:fF (k+1) A)(a:Env):fF k (A.deeper a) :=
 ⟨r.hd,by have:=r.dp;show A.depth+1+3 * k+5<_;omega,by have:=r.un;show A.units+3+16 * k+200<_;omega⟩
theorem CT{A:Around}{C:Addr}{a:Zf}{e:List (Str×Value)}:(A.under (.builtin "type.__call__" ⟨.ref C::a,e⟩)).depth=A.depth+1:=by
 first|rfl|simp[Around.under,Code.weight,Code.isCreation,Code.isGuard,Code.isCaller,Code.frames,Code.isFrame,guardIds]
theorem CS{A:Around}{C:Addr}{a:Zf}{e:List (Str×Value)}:(A.under (.builtin "type.__call__" ⟨.ref C::a,e⟩)).units=A.units+1:=by
 first|rfl|simp[Around.under,Code.cUnits,Code.frames,Code.isFrame]
theorem fF.make{k:Nat}{A:Around}(r:fF (k+1) A)(C:Addr)(a:Zf)(e:List (Str×Value)):fF k (A.under (.builtin "type.__call__" ⟨.ref C::a,e⟩)) :=
 ⟨r.hd,by have:=r.dp;rw[CT];omega,by have:=r.un;rw[CS];omega⟩
theorem fF.depth{k:Nat}{A:Around}(r:fF k A):A.depth<recursionLimit:=by have:=r.dp;omega
theorem fF.units{k:Nat}{A:Around}(r:fF k A):A.units+64<cLine:=by have:=r.un;omega
def bg:TA:=fun _ H Q=>Q [] H
def am(ta:TE)(tr:TA):TA:=fun σ H Q=>ta σ H fun x H1=>tr σ H1 fun xs H2=>Q (x::xs) H2
abbrev ay(a:TE):TA:=am a bg
abbrev aX(a b:TE):TA:=am a (am b bg)
abbrev ci(a b c:TE):TA:=am a (am b (am c bg))
section
variable{X:Cx}{e:Expr}{es:List Expr}{te:TE}{t:TA}{pos:Pos}
theorem cy:PA X [] bg:=fun _ _ _ _ H Q I h=>Af ⟨[],H,I,.nil,h⟩
theorem aG(g:PE X e te)(i:PA X es t)(j:aL (e::es) X.env=(false,eval e X.env)::aL es X.env:=by rfl):PA X (e::es) (am te t):=by
 intro pos f s σ H Q I h;rw[j];show wpAny _ _ (spliced ((false,eval e X.env)::backTo pos (aL es X.env))) _ _ s;refine wA (cH (g f s σ H _ I h) fun u k a=>?_);obtain⟨x,l,m,n,o⟩:=a;exact cH (i pos f k σ l _ m o) fun y z ⟨p,q,r,v,w⟩=>⟨x::p,q,r,.cons n v,w⟩
def bf(t:TA):TE:=fun σ H Q=>t σ H fun xs H1=>xs.length<=aj/\∀p,H1 p=none->Q (.ref p) (upd H1 p (.tup xs))
def c6(t:TA):TE:=fun σ H Q=>t σ H fun xs H1=>xs.length<=aj/\∀p,H1 p=none->Q (.ref p) (upd H1 p (.lst xs))
theorem aA{i}(h:PA X es t):PE X (.Tuple es i pos) (bf t):=by
 intro j s σ H Q I k;refine wpAny_Tuple_spliced (cH (h pos j s σ H _ I k) fun l a ⟨m,f,g,r,z,q⟩=>⟨by rw[<-r.length];exact z,?_⟩);have n:f a.heap.objs.size=none:=g.hok.fresh (aB _);refine⟨.ref a.heap.objs.size,upd f a.heap.objs.size (.tup m),g.laid (t':=a.toks) (fun b u e=>bR _ e) (aB _) ?_,rfl,q _ n⟩;exact⟨z,l,r,⟨_,du _ rfl,rfl,_,rfl⟩⟩
theorem bq(h:PA X es t):PE X (.List es pos) (c6 t):=by
 intro i s σ H Q I j;refine wpAny_List_spliced (cH (h pos i s σ H _ I j) fun k a ⟨l,f,g,r,z,q⟩=>⟨by rw[<-r.length];exact z,?_⟩);have m:f a.heap.objs.size=none:=g.hok.fresh (aB _);refine⟨.ref a.heap.objs.size,upd f a.heap.objs.size (.lst l),g.laid (t':=a.toks) (fun b u e=>bR _ e) (aB _) ?_,rfl,q _ m⟩;exact⟨z,k,0,r,du _ rfl⟩
end
abbrev Sp:=List V->Hp->VK->XK->Prop
abbrev Gm:=List Env->Hp->Shared->XK->Value->Shared->Prop
structure Dx(P:b9)(w:World)(K:Za)(mg:Str->Option Value)(base:Heap)(A:Around)(outer:List Env)(s:Shared)(H:Hp):Prop where
 frames:A.frames=some outer
 mod:Mod K mg base
 bs:∀b o,base.get? b=some o->s.heap.get? b=some o/\H b=none
 bsz:base.objs.size<=s.heap.objs.size
 funs:s.heap.FunFrames base outer
 frf:∀b∈Gj outer,H b=none
 hok:nu P w K H s.heap
 bare:o_ s.gens
def CE(outer:List Env)(P:b9)(w:World)(K:Za)(H:Hp)(s:Shared)(Q:VK)(u:Value)(s':Shared):Prop :=
 ∃v H',s'.os=s.os/\o_ s'.gens/\Un (Gj outer) [] H H' s.heap s'.heap/\nu P w K H' s'.heap/\RelV v u/\Q v H'
def CR(CX:Gm)(outer:List Env)(P:b9)(w:World)(K:Za)(H:Hp)(s:Shared)(Q:VK)(E:XK)(r:Result)(s':Shared):Prop :=
 match r with
 |.ok (.ret u)=>CE outer P w K H s Q u s'
 |.ok _=>False
 |.error e=>CX outer H s E e s'
structure mQ(P:b9)(w:World)(K:Za)(mg:Str->Option Value)(base:Heap)(CX:Gm)(k:Nat)(f:Addr)(fd:lR)(ps:Zb)(sp:Sp):Prop where
 len:∀vs H Q E,sp vs H Q E->vs.length=ps.length
 run:∀(A:Around) (outer:List Env) (s:Shared) (H:Hp) (args:Args) (us:Zf) (vs:List V) (Q:VK) (E:XK),fF k A->Dx P w K mg base A outer s H->tL s fd args (ps.zip us)->ba vs us->sp vs H Q E ->
  zzl79 (model P w) A (.call (.ref f) args) (CR CX outer P w K H s Q E) s
theorem Dx.make{P:b9}{w:World}{K:Za}{a:Str->Option Value}{base:Heap}{A:Around}{outer:List Env}{s:Shared}{H:Hp}(e:Dx P w K a base A outer s H)(C:Addr)(f:Zf)(g:List (Str×Value)):
  Dx P w K a base (A.under (.builtin "type.__call__" ⟨.ref C::f,g⟩)) outer s H:=⟨by first|exact e.frames|(simpa[Around.under,Code.envs,Code.isFrame,pushEnvs]using e.frames),e.mod,e.bs,e.bsz,e.funs,e.frf,e.hok,e.bare⟩
section
variable{X:Cx}{J3:Zd}{σ:St}{H:Hp}{s s':Shared}
theorem Inv.env0(I:Inv X J3 σ H s):Dx X.prog X.w X.K X.mg X.base X.A X.stack s H :=
 ⟨I.ok.frames,I.ok.mod,I.bs,aE I.ok.bsz I.sz,I.stack,I.stkFree,I.hok,I.bare⟩
theorem Inv.after{Q:VK}{u:Value}(I:Inv X J3 σ H s)(h:CE X.stack X.prog X.w X.K H s Q u s'):EP X J3 σ Q u s':=by
 obtain⟨v,i,os,a,un,e,r,q⟩:=h;obtain⟨j,g,d,t,f⟩:=s';obtain rfl:f=s.os:=os;exact⟨v,i,I.call (h':=j) (g':=g) (d':=d) (t':=t) (ch:=[]) un e a (fun b z=>absurd z (by simp)),r,q⟩
end
def JP(sp:Sp)(dvs:List V)(E:XK)(t:TA):TE:=fun σ H Q=>t σ H fun vs H1=>sp (vs++dvs) H1 Q E
def cn(C:Addr)(m:Str)(sp:Sp)(dvs:List V)(E:XK)(ta:TE)(t:TA):TE:=fun σ H Q=>ta σ H fun x H1=>∃a dx fs,x=.ref a/\H1 a=some (.ins C dx fs)/\fs.lookup m=none /\
 t σ H1 fun vs H2=>sp (x::(vs++dvs)) H2 Q E
def uu(C:Addr)(sp:Sp)(dvs:List V)(E:XK)(t:TA):TE:=fun σ H Q=>t σ H fun vs H1=>∀x dx,H1 x=none->H1 dx=none->dx≠x ->
 sp (.ref x::(vs++dvs)) (upd (upd H1 dx (.own x)) x (.ins C dx [])) (fun v H2=>v=.non/\Q (.ref x) H2) E
def Binds(K:Za)(fd:lR)(ps:Zb)(ds:Zf):Prop :=
 ∀(s:Shared) (us:Zf),K.In s.heap->(us++ds).length=ps.length->tL s fd ⟨us,[]⟩ (ps.zip (us++ds))
theorem Binds.all{K:Za}{f:lR}{e:Zb}(h:∀a:List Value,a.length=e.length->bindArgs f ⟨a,[]⟩=pure (e.zip a)):Binds K f e []:=fun s a _ g=>by
 rw[dJ]at g ⊢;exact .of_eq (h a g)
def oP(CX:Gm)(X:Cx)(E:XK):Prop:=∀(J3:Zd) (σ:St) (H:Hp) (s:Shared) (e:Value) (s':Shared),Inv X J3 σ H s->CX X.stack H s E e s'->X.xe e s'
section
variable{X:Cx}{CX:Gm}{k:Nat}{f C:Addr}{fd:lR}{ps:Zb}{sp:Sp}{dvs:List V}{ds:Zf}{E:XK}{x m:Str}{p pos J5:Pos}{e o:Expr}{es:List Expr}{ta:TE}{t:TA}
theorem Cv{g:Zd}{σ:St}{H:Hp}{s:Shared}{Q:VK}{us:Zf}{vs:List V}(F:mQ X.prog X.w X.K X.mg X.base CX k f fd ps sp)(j:fF k X.A)(l:Binds X.K fd ps ds)(n:ba dvs ds)(q:oP CX X E)
  (I:Inv X g σ H s) (r:ba vs us) (h:sp (vs++dvs) H Q E):wpAny (model X.prog X.w) X.A (call (.ref f) us) (EP X g σ Q) X.xe s:=by
 have i:ba (vs++dvs) (us++ds):=r.append n;have v:(us++ds).length=ps.length:=by rw[<-i.length];exact F.len _ _ _ _ h
 refine wpAny_call (DB (F.run X.A X.stack s H ⟨us,[]⟩ (us++ds) (vs++dvs) Q E j I.env0 (l s us I.kIn v) i h) fun r y a=>?_);cases r with
 |error e=>exact q g σ H s e y I a
 |ok z =>
  cases z with
  |ret u=>exact I.after a
  |next=>exact kf a
  |brk=>exact kf a
  |cont=>exact kf a
theorem Ji(F:mQ X.prog X.w X.K X.mg X.base CX k f fd ps sp)(j:fF k X.A)(l:Gl X x)(n:X.mg x=some (.ref f))(u:gw X.K (.ref f)=true)(v:Binds X.K fd ps ds)(y:ba dvs ds)(z:oP CX X E)
  (B:PA X (e::es) t) (a:(x==("__debug__":Str))=false:=by decide) (D:aL (e::es) X.env=(false,eval e X.env)::aL es X.env:=by rfl) (g:(backTo pos (aL es X.env)).any (·.1)=false:=by rfl) :
  PE X (.Call (.Name x p) (e::es) [] pos) (JP sp dvs E t):=by
 intro G s σ H Q I h;refine Ae (zq I l n ?_ a);refine PySem.W.callWith_K (h₀:=X.base) I.ok.mod.kin u (cH (B pos G s σ H _ I h) fun J L ⟨M,N,i,r,q⟩=>⟨i.kIn,?_⟩) D g;exact Cv F j v y z i r q
theorem Je{pl:Sem Bool}(D:PE X o ta)(c:BN X.K C)(n:JL X.K C m f)(F:mQ X.prog X.w X.K X.mg X.base CX k f fd ps sp)(G:fF k X.A)(J:Binds X.K fd ps ds)(L:ba dvs ds)(M:oP CX X E)(N:PA X (e::es) t)
  (g:aL (e::es) X.env=(false,eval e X.env)::aL es X.env:=by rfl) (i:(backTo pos (aL es X.env)).any (·.1)=false:=by rfl)
  (O:eval (.Call (.Attribute o m J5) (e::es) [] pos) X.env=(do
   let v <- eval o X.env
   rT J5.atName
   let(f,first) <- lS [v] (rP v m pl)
   wz pos f first (backTo pos (aL (e::es) X.env)) (o7 pos (o6 [] X.env))):=by rfl) :
  PE X (.Call (.Attribute o m J5) (e::es) [] pos) (cn C m sp dvs E ta t):=by
 intro y s σ H Q I h;refine PySem.W.methodCall_KW (pl:=pl) (cH (D y s σ H _ I h) fun u T j=>?_) O;obtain⟨x,U,z,Y,a,dx,fs,ex,ea,l,q⟩:=j;subst ex;obtain rfl:u=Value.ref a:=Y;refine u_ z ea c n l ?_;refine PySem.W.callWith_K (first:=[.ref a]) (h₀:=X.base) I.ok.mod.kin n.kp (cH (N pos y T σ U _ z q) fun us s2 ⟨vs,H2,B,r,q2⟩=>⟨B.kIn,?_⟩) g i
 exact Cv (us:=.ref a::us) (vs:=.ref a::vs) F G J L M B (.cons rfl r) q2
theorem G_{pl:Sem Bool}(r:PE X o ta)(c:BN X.K C)(j:JL X.K C m f)(F:mQ X.prog X.w X.K X.mg X.base CX k f fd ps sp)(v:fF k X.A)(y:Binds X.K fd ps ds)(z:ba dvs ds)(B:oP CX X E)
  (D:eval (.Call (.Attribute o m J5) [] [] pos) X.env=(do
   let n <- eval o X.env
   rT J5.atName
   let(f,first) <- lS [n] (rP n m pl)
   wz pos f first (backTo pos (aL [] X.env)) (o7 pos (o6 [] X.env))):=by rfl) :
  PE X (.Call (.Attribute o m J5) [] [] pos) (cn C m sp dvs E ta bg):=by
 intro G s σ H Q I h;refine PySem.W.methodCall_KW (pl:=pl) (cH (r G s σ H _ I h) fun u M g=>?_) D;obtain⟨x,N,i,J,a,O,fs,ex,L,l,q⟩:=g;subst ex;obtain rfl:u=Value.ref a:=J;refine u_ i L c j l ?_;exact PySem.W.callWith_K0 (first:=[.ref a]) i.kIn j.kp (Cv (us:=[.ref a]) (vs:=[.ref a]) F v y z B i (.cons rfl .nil) q)
structure Mk(K:Za)(C f:Addr):Prop where
 makes:l9 K C=true
 init:cM K (.ref C) "__init__"=some (some (.ref f))
 fn:Ah K (.ref f)=true
 kp:gw K (.ref C)=true
theorem GG{l:Zd}{σ:St}{H:Hp}{s:Shared}{Q:VK}{g:Zf}{n:List V}(M:Mk X.K C f)(F:mQ X.prog X.w X.K X.mg X.base CX k f fd ps sp)(z:fF (k+1) X.A)(B:Binds X.K fd ps ds)(D:ba dvs ds)
  (G:oP CX X E) (I:Inv X l σ H s) (r:ba n g)
  (h:∀x i,H x=none->H i=none->i≠x->sp (.ref x::(n++dvs)) (upd (upd H i (.own x)) x (.ins C i [])) (fun v J=>v=.non/\Q (.ref x) J) E) :
  wpAny (model X.prog X.w) X.A (call (.ref C) g) (EP X l σ Q) X.xe s:=by
 have q:=h (s.heap.objs.size+1) s.heap.objs.size (I.hok.fresh (qJ _)) (I.hok.fresh (aB _)) (bW (Nat.lt_succ_self _));have j:=Inv.made (C:=C) I;have y:ba (V.ref (s.heap.objs.size+1)::(n++dvs)) (Value.ref (s.heap.objs.size+1)::(g++ds)):=.cons rfl (r.append D);have L:(Value.ref (s.heap.objs.size+1)::g++ds).length=ps.length:=by
  have e:=y.length;rw[F.len _ _ _ _ q]at e;exact e.symm
 refine wpAny_call (Hy (f:=f) I.kIn M.makes M.init (beq_iff_eq.mp M.fn) (DB (F.run _ X.stack _ _ ⟨Value.ref (s.heap.objs.size+1)::g,[]⟩ (Value.ref (s.heap.objs.size+1)::(g++ds)) _ _ E (z.make C g [])
  (j.env0.make C g []) (B _ (Value.ref (s.heap.objs.size+1)::g) j.kIn L) y q) fun r N a=>?_))
 cases r with
 |error e=>exact G l σ _ _ e N j a
 |ok O =>
  cases O with
  |ret u =>
   obtain⟨v,T,U,Y,ev,q3⟩:=j.after a;subst ev;exact⟨Y,⟨V.ref (s.heap.objs.size+1),T,U,rfl,q3⟩⟩
  |next=>exact kf a
  |brk=>exact kf a
  |cont=>exact kf a
theorem Jf(M:Mk X.K C f)(F:mQ X.prog X.w X.K X.mg X.base CX k f fd ps sp)(j:fF (k+1) X.A)(l:Gl X x)(n:X.mg x=some (.ref C))(u:Binds X.K fd ps ds)(v:ba dvs ds)(y:oP CX X E)
  (z:PA X (e::es) t) (a:(x==("__debug__":Str))=false:=by decide) (B:aL (e::es) X.env=(false,eval e X.env)::aL es X.env:=by rfl) (g:(backTo pos (aL es X.env)).any (·.1)=false:=by rfl) :
  PE X (.Call (.Name x p) (e::es) [] pos) (uu C sp dvs E t):=by
 intro D s σ H Q I h;refine Ae (zq I l n ?_ a);refine PySem.W.callWith_K (h₀:=X.base) I.ok.mod.kin M.kp (cH (z pos D s σ H _ I h) fun G J ⟨L,N,i,r,q⟩=>⟨i.kIn,?_⟩) B g;exact GG M F j u v y i r q
end
structure lF(N P:Zb)(sc:Scope):Prop where
 kind:sc.kind=.function
 co:sc.isCoroutine=false
 gen:sc.isGenerator=false
 nd:N.Nodup
 pre:N.take P.length=P
 par:∀x∈P,sc.names.lookup x=some .local∨sc.names.lookup x=some .cell
 nofree:∀y∈sc.names,y.2≠.free
theorem xu{kindOf:Str->Option gX}{x:Str}:∀{binds:List (Str×Value)}{m:Str->Option Value},(∀v,(x,v)∉binds)->bindL kindOf binds m x=m x
 |[],_,_=>rfl
 | (n,v)::r,m,h=>by
  unfold bindL;rw[xu fun w a=>h w (c7 _ a)];split
  ·have:x≠n:=by rintro rfl;exact h v cU
   simp[this]
  ·rfl
theorem xw{kindOf:Str->Option gX}{x:Str}:∀{binds:List (Str×Value)}{m:Str->Option Value},(∀v,(x,v)∉binds)->bindC kindOf binds m x=m x
 |[],_,_=>rfl
 | (n,v)::r,m,h=>by
  unfold bindC;rw[xw fun w a=>h w (c7 _ a)];split
  ·rfl
  ·have:x≠n:=by rintro rfl;exact h v cU
   simp[this]
theorem xv{kindOf:Str->Option gX}{x:Str}{v:Value}:∀{P:Zb}{a:Zf}{i:Nat}{m:Str->Option Value},P.Nodup->P[i]?=some x->a[i]?=some v->kindOf x=some .local ->
  bindL kindOf (P.zip a) m x=some v
 |[],_,_,_,_,h,_,_=>by simp at h
 |_::_,[],_,_,_,_,h,_=>by simp at h
 |p::P,w::a,0,m,g,e,f,j=>by
  simp at e f;subst e;subst f;show bindL kindOf ((p,w)::P.zip a) m p=_;unfold bindL;rw[xu fun v k=>(gf.mp g).1 (List.of_mem_zip k).1,if_pos j];simp
 |p::P,w::a,i+1,m,g,e,f,j=>by
  show bindL kindOf ((p,w)::P.zip a) m x=_;unfold bindL;exact xv (i:=i) (gf.mp g).2 (by simpa using e) (by simpa using f) j
theorem xx{kindOf:Str->Option gX}{x:Str}{v:Value}:∀{P:Zb}{a:Zf}{i:Nat}{m:Str->Option Value},P.Nodup->P[i]?=some x->a[i]?=some v->kindOf x≠some .local ->
  bindC kindOf (P.zip a) m x=some v
 |[],_,_,_,_,h,_,_=>by simp at h
 |_::_,[],_,_,_,_,h,_=>by simp at h
 |p::P,w::a,0,m,g,e,f,j=>by
  simp at e f;subst e;subst f;show bindC kindOf ((p,w)::P.zip a) m p=_;unfold bindC;rw[xw fun v k=>(gf.mp g).1 (List.of_mem_zip k).1,if_neg j];simp
 |p::P,w::a,i+1,m,g,e,f,j=>by
  show bindC kindOf ((p,w)::P.zip a) m x=_;unfold bindC;exact xx (i:=i) (gf.mp g).2 (by simpa using e) (by simpa using f) j
def start(N:Zb)(vs:List V):St:=vs.map some++List.replicate (N.length-vs.length) none
def Dd(CX:Gm)(P:b9)(w:World)(K:Za)(mg:Str->Option Value)(base:Heap)(N:Zb)(qual:Str)(scope:Scope)(f:Addr)(cd:Value)(A:Around)(outer:List Env)(s:Shared)(H:Hp)(E:XK):Cx where
 prog:=P
 w:=w
 K:=K
 mg:=mg
 base:=base
 A:=A.deeper (envOfC qual scope s.heap.objs.size f cd)
 N:=N
 s₀:=s
 H₀:=H
 env:=envOfC qual scope s.heap.objs.size f cd
 outer:=outer
 stack:=envOfC qual scope s.heap.objs.size f cd::outer
 ex:=[]
 calm:=true
 fn:=fun _=>true
 pn:=[]
 xe:=fun e s'=>wpAny (model P w) (A.deeper (envOfC qual scope s.heap.objs.size f cd)) (leaving (envOfC qual scope s.heap.objs.size f cd) e) (fun _ s''=>CX outer H s E e s'') (fun e' s''=>CX outer H s E e' s'') s'
theorem Bs{a:Scope}{n:Nat}{x:Str}(h:a.names.lookup x=some .cell):∃c,(cellsFrom n a.names []).lookup x=some c:=by
 have q:=PySem.W.cellsFrom_some a.names n [] (.inl h);exact yn.mp q
theorem FF{M:Gm}{P:b9}{w:World}{K:Za}{J:Str->Option Value}{base:Heap}{N m:Zb}{g:Str}{scope:Scope}{f:Addr}{D:Value}{A:Around}{outer:List Env}{s O:Shared}{H:Hp}{E:XK}{L:Zf}{o:List V}
  (S:lF N m scope) (U:A.handled=none) (l:Dx P w K J base A outer s H) (hl:o.length=m.length) (r:ba o L)
  (x:InCallC s s.heap.objs.size (bindL (envOfC g scope s.heap.objs.size f D).kindOf (m.zip L) fun _=>none) (cellsFrom (s.heap.objs.size+1) scope.names []) (bindC (envOfC g scope s.heap.objs.size f D).kindOf (m.zip L) fun _=>none) O) :
  Inv (Dd M P w K J base N g scope f D A outer s H E) [] (start N o) H O:=by
 have Y:m.length<=N.length:=by have:=congrArg List.length S.pre;rw[aI]at this;omega
 obtain⟨G,tk,rfl,Q⟩:=x.done;have t:∀b:Addr,b∉(Dd M P w K J base N g scope f D A outer s H E).ex:=fun b z=>absurd (show b∈([]:Ze)from z) (by simp);refine⟨⟨l.mod,S.kind,rfl,rfl,aB _,fun y z c G j=>?_,fun y hy=>?_,fun y c _ h=>?_,fun _=>U,Around.frames_deeper l.frames,.inr ⟨rfl,rfl⟩,fun b z=>absurd z (t b),l.bs,l.bsz,fun b _ _=>t b,fun b z=>absurd z (t b),l.funs,l.frf⟩,
  rfl,l.bare,Un.kept Q,⟨_,x.toInCall.ns,fun i y v G j h3=>?_⟩,fun y c h=>⟨_,x.cell y c h⟩,l.hok.fresh (aB _),fun y c h=>?_,fun p B=>absurd (show p∈([]:Zd)from B) (by simp),l.hok.kept Q,?_⟩
 ·exact name_of_addr x.apart (ui G) (ui j)
 ·have hy:scope.names.lookup y=some .cell∨scope.names.lookup y=some .free:=hy;rcases hy with hy|hy
  ·exact Bs hy
  ·exact absurd rfl (S.nofree _ (ui hy))
 ·exact cT (x.above y c (ui h))
 ·have I:i<o.length:=by
   unfold start at j;by_cases I:i<o.length
   ·exact I
   ·rw[List.getElem?_append_right (by simpa using I)]at j;rw[List.getElem?_replicate]at j;split at j<;>cases j
  have ha:o[i]?=some v:=by
   unfold start at j;rw[uh (by simpa using I),cF]at j;cases e:o[i]? with
   |none=>rw[e]at j;cases j
   |some a=>rw[e]at j;cases j;rfl
  obtain⟨u,T,rv⟩:=r.get ha;have B:m[i]?=some y:=by
   rw[<-S.pre,List.getElem?_take_of_lt (by omega)];exact G
  have C:m.Nodup:=by rw[<-S.pre];exact S.nd.sublist (List.take_sublist _ _)
  refine⟨u,rv,?_⟩;rcases S.par y (bT B)with k|k
  ·exact .inl ⟨k,xv C B T k⟩
  ·obtain⟨c,e⟩:=Bs (n:=s.heap.objs.size+1) k;refine .inr ⟨.inl k,c,e,?_⟩;have q:=x.cell y c e;rw[xx C B T (by show scope.names.lookup y≠_;rw[k];decide)]at q;exact q
 ·exact l.hok.fresh (cT (x.above y c (ui h)))
 ·unfold start;show _=N.length;rw[a_,ah,List.length_replicate];omega
theorem Lm{G:Gm}{P:b9}{w:World}{K:Za}{L:Str->Option Value}{base:Heap}{k:Nat}{f:Addr}{name a:Str}{params:Arguments}{h:List Stmt}{scope:Scope}{dV kV doc pm g ct oc:Value}{an od:Option Addr}
  {M:Array (Option Value)}{N ps:Zb}{O:Sp}(lk:K.lookup f=some ⟨oc,od,.func (i_ name a params h scope dV kV doc pm an g ct),M⟩) (T:oj K g a=true) (S:lF N ps scope)
  (z:∀i H Q E,O i H Q E->i.length=ps.length)
  (j:∀(A:Around) (outer:List Env) (s:Shared) (H:Hp) (i:List V) (Q:VK) (E:XK),fF k (A.deeper (envOfC a scope s.heap.objs.size f g))->O i H Q E ->
   ∃t,BM (Dd G P w K L base N a scope f g A outer s H E) h t/\t (bj Q) (start N i) H) :
  mQ P w K L base G (k+1) f (i_ name a params h scope dV kV doc pm an g ct) ps O:=by
 refine⟨z,fun A outer s H args us i Q E U B hb r C=>?_⟩;have hl:=z _ _ _ _ C;have KX:K.In s.heap:=B.mod.kin.keeps fun b o e=>(B.bs b o e).1;have Y:s.heap.NoLimit:=B.mod.nolimit.keeps fun b o e=>(B.bs b o e).1;have l:∀y∈ps.zip us,scope.names.lookup y.1=some .local∨(scope.names.lookup y.1=some .cell/\((cellsFrom (s.heap.objs.size+1) scope.names []).lookup y.1).isSome=true):=fun⟨n,v⟩ hy=>by
  rcases S.par n (List.of_mem_zip hy).1 with q|q
  ·exact .inl q
  ·exact .inr ⟨q,PySem.W.cellsFrom_some _ _ _ (.inl q)⟩
 refine codeAny_call_function U.depth (KX _ _ lk) rfl S.co S.gen rfl (PySem.W.codeRec_of KX T) (hb _ _ _ _ ?_);refine wpAny_newFunctionEnv_cells S.kind l fun al he s1 x=>?_;subst he;refine⟨Y.keeps x.toInCall.keep,codeAny_func ?_⟩;obtain⟨t,ht,hq⟩:=j A outer s H i Q E (U.deeper _) C;have I:Inv (Dd G P w K L base N a scope f g A outer s H E) [] (start N i) H s1:=FF S U.hd B hl r x;refine pb (ht [] s1 (start N i) H _ I hq) (fun fl s' m=>?_) fun e s' m=>m;have D:∀{σ':St}{p:Hp}{v:V}{u:Value},Inv (Dd G P w K L base N a scope f g A outer s H E) [] σ' p s'->RelV v u->Q v p->CE outer P w K H s Q u s' :=
  fun{σ' p v u} J rv q=>⟨v,p,J.os,J.bare,J.base,J.hok,rv,q⟩
 cases fl with
 |ret u =>
  obtain⟨v,σ',p,J,rv,q⟩:=m;exact D J rv q
 |next =>
  obtain⟨σ',p,J,q⟩:=m;exact D (v:=V.non) (u:=Value.none) J rfl q
 |brk =>
  obtain⟨_,_,_,q⟩:=m;exact kf q
 |cont =>
  obtain⟨_,_,_,q⟩:=m;exact kf q
end L2
namespace L2
open PySem PySem.Spec PyProof.Rows
section
variable{X:Cx}{x:Str}{p pos:Pos}{e:Expr}{es:List Expr}{t:TA}{id T:String}{r:List V->Hp->VK->Prop}
def gD(r:List V->Hp->VK->Prop)(t:TA):TE:=fun σ H Q=>t σ H fun vs H1=>r vs H1 Q
theorem AU(i:fV X (.builtin id) r)(j:Gl X x)(k:X.mg x=none)(l:i0 x=some (.builtin id))(m:PA X (e::es) t)(n:x≠"__name__":=by decide)(a:(x==("__debug__":Str))=false:=by decide)
  (o:aL (e::es) X.env=(false,eval e X.env)::aL es X.env:=by rfl) (f:(backTo pos (aL es X.env)).any (·.1)=false:=by rfl):PE X (.Call (.Name x p) (e::es) [] pos) (gD r t):=by
 intro g s σ H Q I h;refine Ae (iI I j k l ?_ n a);exact PyProof.Rows.callWith_builtin1 (cH (m pos g s σ H _ I h) fun q u ⟨v,w,y,z,A⟩=>i g u σ w v q Q y z A) o f
theorem gq(i:fV X (.type T) r)(j:Gl X x)(k:X.mg x=none)(l:i0 x=some (.type T))(m:PA X (e::es) t)(n:x≠"__name__":=by decide)(a:(x==("__debug__":Str))=false:=by decide)
  (o:aL (e::es) X.env=(false,eval e X.env)::aL es X.env:=by rfl) (f:(backTo pos (aL es X.env)).any (·.1)=false:=by rfl):PE X (.Call (.Name x p) (e::es) [] pos) (gD r t):=by
 intro g s σ H Q I h;refine Ae (iI I j k l ?_ n a);exact o9 (cH (m pos g s σ H _ I h) fun q u ⟨v,w,y,z,A⟩=>i g u σ w v q Q y z A) o f
end
end L2
namespace HT
open PySem PyProof.Rows
section
variable{prog:b9}{w:World}{A:Around}{E:Zc}{s:Shared}
def sIx(n d:Nat):Option Int->Nat
 |none=>d
 |some v=>if v<0 then(v+(n:Int)).toNat else min v.toNat n
theorem sIx_none(n d:Nat):sIx n d none=d:=rfl
theorem sIx_nat(n d k:Nat):sIx n d (some (k:Int))=min k n:=by
 show(if(k:Int)<0 then((k:Int)+(n:Int)).toNat else min (k:Int).toNat n)=min k n
 rw[if_neg (by omega),oh]
theorem sIx_le(n d:Nat)(e:d<=n)(o:Option Int):sIx n d o<=n:=by
 cases o with
 |none=>exact e
 |some v =>
  show(if v<0 then(v+(n:Int)).toNat else min v.toNat n)<=n
  by_cases a:v<0
  ·rw[if_pos a];omega
  ·rw[if_neg a];exact Nat.min_le_right _ _
theorem clip_eq(v:Int)(n d:Nat):(if v<0 then max (v+(n:Int)) 0 else min v (n:Int))=((sIx n d (some v):Nat):Int):=by
 show(if v<0 then max (v+(n:Int)) 0 else min v (n:Int))=(((if v<0 then(v+(n:Int)).toNat else min v.toNat n):Nat):Int)
 by_cases a:v<0
 ·simp only[if_pos a];omega
 ·simp only[if_neg a];omega
end
end HT
namespace L2
open PySem PySem.Spec PyProof.Rows
abbrev TO:=St->Hp->(Option Int->Hp->Prop)->Prop
def PO(X:Cx)(e:Option Expr)(t:TO):Prop :=
 ∀(J3:Zd) (s:Shared) (σ:St) (H:Hp) (Q:Option Int->Hp->Prop),Inv X J3 σ H s->t σ H Q ->
  wpAny (model X.prog X.w) X.A (evalPart e X.env) (fun u s'=>∃o H',Inv X J3 σ H' s'/\IsPart u o/\Q o H') X.xe s
def fq:TO:=fun _ H Q=>Q none H
def gC(t:TE):TO:=fun σ H Q=>t σ H fun x H1=>∃i,x=.int i/\Q (some i) H1
section
variable{X:Cx}{e:Expr}{te:TE}{lo hi:Option Expr}{tl th:TO}{pos p2:Pos}
theorem fZ:PO X none fq:=by
 intro a s σ H Q I h;rw[evalPart_none];exact aT ⟨none,H,I,.none,h⟩
theorem cZ(h:PE X e te):PO X (some e) (gC te):=by
 intro f s σ H Q I g;rw[evalPart_some];refine cH (h f s σ H _ I g) fun u n a=>?_;obtain⟨x,j,k,l,m⟩:=a;obtain⟨i,rfl,q⟩:=m;obtain⟨t,rfl⟩:=l;exact⟨some i,j,k,.int i t,q⟩
def SlR(X:Cx)(r:V->Option Int->Option Int->Hp->VK->Prop):Prop :=
 ∀(J3:Zd) (s:Shared) (σ:St) (H:Hp) (x:V) (v vl vu:Value) (lo hi:Option Int) (sl:Addr) (Q:VK),Inv X J3 σ H s->RelV x v->s.heap.IsSliceOf sl vl vu .none->IsPart vl lo->IsPart vu hi->r x lo hi H Q ->
  ∃T id,ug (.type T) "__getitem__"=pure (some (.builtin id))/\s.TypeIs v T/\wpAny (model X.prog X.w) X.A (og v (.ref sl)) (EP X J3 σ Q) X.xe s
def BL(r:V->Option Int->Option Int->Hp->VK->Prop)(te:TE)(tl th:TO):TE:=fun σ H Q=>te σ H fun x H1=>tl σ H1 fun l H2=>th σ H2 fun u H3=>r x l u H3 Q
theorem cV{r:V->Option Int->Option Int->Hp->VK->Prop}(m:SlR X r)(n:PE X e te)(o:PO X lo tl)(p:PO X hi th):PE X (.Subscript e (.Slice lo hi none p2) pos) (BL r te tl th):=by
 intro g s σ H Q I h;refine ym (cH (n g s σ H _ I h) fun v t f=>?_);obtain⟨x,y,z,B,C⟩:=f;refine wpAny_Slice (cH (o g t σ y _ z C) fun i D ⟨l,E,G,J,L⟩=>cH (p g D σ E _ G L) fun j a f=>?_);obtain⟨u,k,M,N,O⟩:=f;rw[evalPart_none];refine aT ?_;have U:Inv X g σ k { a with heap:=a.heap.push { cls:=.type "slice",data:=.fields #[i,j,.none] } }:=M.kept (t':=a.toks) fun b ob q=>bR _ q;obtain⟨T,id,Y,ht,hg⟩:=m g { a with heap:=a.heap.push { cls:=.type "slice",data:=.fields #[i,j,.none] } } σ k x v i j l u a.heap.objs.size Q U B (Heap.IsSliceOf.new ..) J N O;show wpAny (model X.prog X.w) X.A (yk e (.Slice lo hi none p2) v (.ref a.heap.objs.size)) (EP X g σ Q) X.xe { a with heap:=a.heap.push { cls:=.type "slice",data:=.fields #[i,j,.none] } };exact tail_any (ops:=[.ref a.heap.objs.size,v]) ht Y hg (by with_unfolding_all rfl)
def fS(xs:List V)(lo hi:Option Int):List V:=(xs.drop (HT.sIx xs.length 0 lo)).take (HT.sIx xs.length xs.length hi-HT.sIx xs.length 0 lo)
theorem Bl(a:List V)(lo hi:Option Int):(fS a lo hi).length<=a.length:=by
 unfold fS;rw[aI,dQ];omega
end
end L2
namespace L2
open PySem PySem.Spec PyProof.Rows
def Gi(n:Nat)(i:Int):Option Nat:=if 0<=i then(if i<n then some i.toNat else none)else if -(n:Int)<=i then some (i+n).toNat else none
def xz{α:Type}(xs:List α)(i:Int):Option α:=(Gi xs.length i).bind fun j=>xs[j]?
theorem zG{n:Nat}{i:Int}{j:Nat}(h:Gi n i=some j):yj i n=some j/\j<n/\-(n:Int)<=i/\i<n:=by
 unfold Gi at h;by_cases f:0<=i
 ·rw[if_pos f]at h;by_cases a:i<n
  ·rw[if_pos a]at h;have e:i.toNat=j:=fJ h;exact⟨by rw[seqIndex_of f a,e],by omega,by omega,a⟩
  ·rw[if_neg a]at h;cases h
 ·rw[if_neg f]at h;by_cases a:-(n:Int)<=i
  ·rw[if_pos a]at h;have e:(i+n).toNat=j:=fJ h;exact⟨by rw[seqIndex_neg (by omega) a,e],by omega,a,by omega⟩
  ·rw[if_neg a]at h;cases h
theorem zS{α:Type}{a:List α}{i:Int}{v:α}(h:xz a i=some v):∃j,yj i a.length=some j/\a[j]?=some v/\j<a.length/\-(a.length:Int)<=i/\i<a.length:=by
 unfold xz at h;cases e:Gi a.length i with
 |none=>rw[e]at h;cases h
 |some j =>
  rw[e]at h;obtain⟨f,g,k,l⟩:=zG e;exact⟨j,f,h,g,k,l⟩
theorem ca{α:Type}{a:List α}{j:Nat}{v:α}(h:a[j]?=some v):xz a (j:Int)=some v:=by
 have f:j<a.length:=(bM.mp h).1;have e:Gi a.length (j:Int)=some j:=by
  unfold Gi;rw[if_pos (by omega),if_pos (by omega)];simp
 unfold xz;rw[e];exact h
theorem Ic{α:Type}(a:List α)(v:α):xz (a++[v]) (-1)=some v:=by
 have f:(a++[v]).length=a.length+1:=by simp
 have e:Gi (a++[v]).length (-1)=some a.length:=by
  unfold Gi;rw[f,if_neg (by decide),if_pos (by omega)];congr 1;omega
 unfold xz;rw[e];show(a++[v])[a.length]?=some v;simp
def JH(b:Expr):Prop:=∀o i,yi b false o i=operate [o,i] (og o i)
def JM(X:Cx)(r:R2):Prop :=
 ∀(value slice:Expr) (J3:Zd) (s:Shared) (σ:St) (H:Hp) (x y:V) (v u:Value) (Q:VK),Inv X J3 σ H s->RelV x v->RelV y u->r x y H Q ->
  yi slice false v u=operate [v,u] (og v u)->wpAny (model X.prog X.w) X.A (yk value slice v u) (EP X J3 σ Q) X.xe s
def MtR(X:Cx)(id:String)(r:V->List V->Hp->VK->Prop):Prop :=
 ∀(J3:Zd) (s:Shared) (σ:St) (H:Hp) (x:V) (xs:List V) (v:Value) (us:Zf) (Q:VK),Inv X J3 σ H s->RelV x v->ba xs us->r x xs H Q ->
  wpAny (model X.prog X.w) X.A (call (.builtin id) (v::us)) (EP X J3 σ Q) X.xe s
section
variable{X:Cx}{a b:Expr}{ta tb:TE}{pos:Pos}
theorem JM.or{r e:R2}(h:JM X r)(k:JM X e):JM X (fun x y H Q=>r x y H Q∨e x y H Q):=by
 intro value slice f s σ H x y v u Q I g i q j;rcases q with q|q
 ·exact h value slice f s σ H x y v u Q I g i q j
 ·exact k value slice f s σ H x y v u Q I g i q j
theorem Ef{r:R2}(e:JM X r)(f:PE X a ta)(g:PE X b tb)(i:JH b):PE X (.Subscript a b pos) (aH r ta tb):=by
 intro j s σ H Q I h;exact ym (KJ f g I h fun v u k x y l m n o q=>e a b j k σ l x y v u Q m n o q (i _ _))
def dW(K:Za):R2:=fun x y H Q=>∃p xs i v,x=.ref p/\y=.int i/\aw K H p xs/\xz xs i=some v/\Q v H
def ji(K:Za):R2:=fun x y H Q=>∃p xs i v,x=.ref p/\y=.int i/\bQ K H p xs/\xz xs i=some v/\Q v H
def GZ:R2:=fun x y H Q=>∃z i c,x=.str z/\y=.int i/\z.length<=aj/\xz z.cps.toList i=some c/\Q (.str ⟨#[c]⟩) H
theorem Es:JM X (dW X.K):=by
 intro value slice n s σ H x y v u Q I C D h o;obtain⟨p,T,i,z,rfl,rfl,E,G,q⟩:=h;cases C;obtain⟨t,rfl⟩:=D;obtain⟨g,r,k,U⟩:=I.list E;obtain⟨j,f,J,Y,L,M⟩:=zS G;obtain⟨w,A,l⟩:=r.get J;have N:=r.length;have hn:=rh;have e:EP X n σ Q w s:=⟨z,H,I,l,q⟩;by_cases B:0<=i
 ·have m:i.toNat=j:=by
   rw[seqIndex_of B M]at f;exact fJ f
  exact item_listR k.isList B (by omega) (by rw[m];simpa using A) e o
 ·have m:(i+(g.toArray.size:Int)).toNat=j:=by
   rw[seqIndex_neg (by omega) L]at f;rw[bG,<-N];exact fJ f
  exact subscriptTail_builtinR (x:=w) k.isList.typeIs slot_list_getitem.lookup
   (wpAny_getItem_list_neg (Q:=fun r O=>r=w/\EP X n σ Q r O) k.isList (by omega) (by rw[bG]<;>omega) (by omega) (by rw[m];simpa using A) ⟨rfl,e⟩) o
theorem HC:JM X (ji X.K):=by
 intro value slice g s σ H x y v u Q I l m h n;obtain⟨p,L,i,z,rfl,rfl,o,A,q⟩:=h;cases l;obtain⟨t,rfl⟩:=m;obtain⟨B,r,k,M⟩:=I.tuple o;obtain⟨j,C,D,N,O,T⟩:=zS A;obtain⟨w,E,e⟩:=r.get D;have G:=r.length;have U:=rh;have f:EP X g σ Q w s:=⟨z,H,I,e,q⟩;exact subscriptTail_builtinR (x:=w) k.typeIs slot_tuple_getitem.lookup
  (getItem_tuple (j:=j) (Q:=fun r J=>r=w/\EP X g σ Q r J) k (by omega) (by omega) (by rw[bG,<-G];exact C) (by simpa using E) ⟨rfl,f⟩) n
theorem HD:JM X GZ:=by
 intro value slice A s σ H x y v u Q I f g h k;obtain⟨z,i,c,rfl,rfl,B,l,q⟩:=h;obtain⟨t,rfl⟩:=f;obtain⟨C,rfl⟩:=g;obtain⟨j,e,m,D,n,o⟩:=zS l;have p:z.cps.toList.length=z.length:=by simp[Str.length]
 rw[p]at e n o;have E:=rh;exact tail_any (typeIs_str s z t) slot_str_getitem.lookup (getItem_str (c:=c) (by
  have r:decide (i < -(2 ^ 63:Int))=false:=zzr0 (by omega);have w:decide (i ≥ 2 ^ 63)=false:=zzr0 (by omega);rw[r,w,Bool.or_false]) (by rw[e];simpa using m) ⟨.str ⟨#[c]⟩,H,I.tok _,⟨_,rfl⟩,q⟩) k
def r8(K:Za):R2:=fun x y H Q=>dW K x y H Q∨ji K x y H Q∨GZ x y H Q
theorem KD:JM X (r8 X.K):=Es.or (HC.or HD)
theorem CQ(e:Zf)(n j:Nat)(u:Value):fL (·.setIfInBounds j u) { cls:=.type "list",data:=.seq e.toArray n }={ cls:=.type "list",data:=.seq (e.set j u).toArray n }:=by
 simp[fL]
theorem Inv.lst{i:Zd}{σ:St}{H:Hp}{s:Shared}{p:Addr}{g:List V}(I:Inv X i σ H s)(h:H p=some (.lst g)):
  ∃(f:Zf) (n:Nat),ba g f/\s.heap.get? p=some { cls:=.type "list",data:=.seq f.toArray n }/\g.length<=aj:=by
 obtain⟨z,f,n,r,e⟩:=I.hok p _ h;exact⟨f,n,r,e,z⟩
theorem Inv.lstUpd{l:Zd}{σ:St}{H:Hp}{s:Shared}{p:Addr}{o j:List V}{i g:Zf}{n k:Nat}{f:Obj->Obj}(I:Inv X l σ H s)(h:H p=some (.lst o))
  (v:s.heap.get? p=some { cls:=.type "list",data:=.seq i.toArray n }) (m:f { cls:=.type "list",data:=.seq i.toArray n }={ cls:=.type "list",data:=.seq g.toArray k }) (r:ba j g) (w:j.length<=aj) (t:Nat) :
  Inv X l σ (upd H p (.lst j)) { s with heap:=s.heap.update p f,toks:=t }:=by
 have e:(s.heap.update p f).get? p=some { cls:=.type "list",data:=.seq g.toArray k }:=by
  rw[jX f v (by rw[m]<;>rfl),m]
 refine I.write (x:=p) (e:=p) (by rw[h];trivial) (.inl rfl) (fun b u y q=>(iG _ _ (gk y)).trans q) ⟨_,e⟩ ?_;exact⟨w,g,k,r,e⟩
def uI:V->V->V->Hp->(Hp->Prop)->Prop:=fun o i v H Q=>∃p xs k j,o=.ref p/\i=.int k/\H p=some (.lst xs)/\Gi xs.length k=some j/\Q (upd H p (.lst (xs.set j v)))
theorem my:Lu X uI:=by
 intro B s σ H o i v M N u Q I C D E h;obtain⟨p,G,k,j,rfl,rfl,w,J,q⟩:=h;cases C;obtain⟨t,rfl⟩:=D;obtain⟨e,n,r,g,L⟩:=I.lst w;obtain⟨f,O,x,y⟩:=zG J;have l:=r.length;have T:=rh;have z:Inv X B σ (upd H p (.lst (G.set j v))) { s with heap:=s.heap.update p (fL (·.setIfInBounds j u)) } :=
  I.lstUpd w g (CQ e n j u) (r.set E j) (by rw[List.length_set];exact L) s.toks
 by_cases A:0<=k
 ·have m:k.toNat=j:=by
   rw[seqIndex_of A y]at f;exact fJ f
  exact PySem.W.ki_setAt g A (by omega) (by rw[bG,<-l];exact y) (by rw[m];exact⟨_,z,q⟩)
 ·have m:(k+(e.toArray.size:Int)).toNat=j:=by
   rw[seqIndex_neg (by omega) x]at f;rw[bG,<-l];exact fJ f
  exact PySem.W.ki_setBack g (by omega) (by rw[bG,<-l];exact x) (by omega) (by rw[m];exact⟨_,z,q⟩)
theorem yZ(lo e:Option Int)(n:Nat):(oe lo e none n).1=((HT.sIx n 0 lo:Nat):Int)/\(oe lo e none n).2.1=((HT.sIx n n e:Nat):Int)/\(oe lo e none n).2.2=1:=by
 refine⟨?_,?_,rfl⟩
 ·cases lo with
  |none=>simp[oe,HT.sIx]
  |some i =>
   simp only[oe,HT.sIx,Option.getD_none,show(1:Int) > 0 by decide,if_true];by_cases h:i<0
   ·simp only[h,if_true]<;>omega
   ·simp only[h,if_false]<;>omega
 ·cases e with
  |none=>simp[oe,HT.sIx]
  |some i =>
   simp only[oe,HT.sIx,Option.getD_none,show(1:Int) > 0 by decide,if_true];by_cases h:i<0
   ·simp only[h,if_true]<;>omega
   ·simp only[h,if_false]<;>omega
theorem wb(e:Zf)(lo f:Option Int):yh e.toArray lo f none=((e.drop (HT.sIx e.length 0 lo)).take (HT.sIx e.length e.length f-HT.sIx e.length 0 lo)).toArray:=by
 obtain⟨g,h,i⟩:=yZ lo f e.toArray.size;unfold yh;rw[g,h,i];simp only[sliceRange_one,pick_run,bG]<;>rfl
def q_(K:Za):V->Option Int->Option Int->Hp->VK->Prop:=fun x lo hi H Q=>∃a xs,x=.ref a/\aw K H a xs/\∀p,H p=none->Q (.ref p) (upd H p (.lst (fS xs lo hi)))
theorem fX:SlR X (q_ X.K):=by
 intro u s σ H x v w y lo g z Q I j k l m h;obtain⟨a,e,rfl,n,q⟩:=h;cases j;obtain⟨p,r,i,t⟩:=I.list n;have f:=r.length;refine⟨"list",_,slot_list_getitem.lookup,i.isList.typeIs,?_⟩;refine wpAny_getItem_list_slice i.isList k l m .none (by simp) ?_ (by rw[bG]<;>omega);rw[wb,<-f];refine⟨.ref s.heap.objs.size,_,I.laid (t':=s.toks) (o:=.lst (fS e lo g)) (fun b A q=>bR _ q) (aB _) ?_,rfl,q _ (I.hok.fresh (aB _))⟩;exact⟨aE (Bl e lo g) t,_,0,(r.drop (HT.sIx e.length 0 lo)).take (HT.sIx e.length e.length g-HT.sIx e.length 0 lo),du _ rfl⟩
theorem zQ:fV X (.builtin "len") (fun k H Q=>∃p f,k=[.ref p]/\(aw X.K H p f∨bQ X.K H p f)/\Q (.int f.length) H):=by
 intro n s σ H k o Q I r h;obtain⟨p,f,rfl,hq,q⟩:=h;obtain⟨u,rfl,l⟩:=vals1 r;cases l;have t:=rh;rcases hq with hq|hq
 ·obtain⟨g,i,j,m⟩:=I.list hq;have e:=i.length;exact Calls.call_len_list j.isList (by simp only[bG]<;>omega) ⟨.int f.length,H,I.tok _,⟨s.toks+1,by rw[bG,e]⟩,q⟩
 ·obtain⟨g,i,j,m⟩:=I.tuple hq;have e:=i.length;exact len_tuple j (by simp only[bG]<;>omega) ⟨.int f.length,H,I.tok _,⟨s.toks+1,by rw[bG,e]⟩,q⟩
theorem zP:fV X (.builtin "len") (fun e H Q=>∃z,e=[.str z]/\z.length<=aj/\Q (.int z.length) H):=by
 intro f s σ H e g Q I r h;obtain⟨z,rfl,i,q⟩:=h;obtain⟨u,rfl,t,rfl⟩:=vals1 r;have j:=rh;exact len_str (by omega) ⟨.int z.length,H,I.tok _,⟨_,rfl⟩,q⟩
theorem fV.or{f:Value}{r g:List V->Hp->VK->Prop}(h:fV X f r)(l:fV X f g):fV X f (fun e H Q=>r e H Q∨g e H Q):=by
 intro i s σ H e j Q I k q;rcases q with q|q
 ·exact h i s σ H e j Q I k q
 ·exact l i s σ H e j Q I k q
theorem zO:fV X (.type "list") (fun B H Q=>∃p i,B=[.ref p]/\(aw X.K H p i∨bQ X.K H p i)/\∀l,H l=none->Q (.ref l) (upd H l (.lst i))):=by
 intro D s σ H B G Q I r h;obtain⟨p,i,rfl,hq,q⟩:=h;obtain⟨u,rfl,E⟩:=vals1 r;cases E;have m:∀(f:Zf),ba i f->i.length<=aj->∀(g:Heap) (j:Nat),(∀b C,s.heap.get? b=some C->g.get? b=some C) ->
   g.get? s.heap.objs.size=some { cls:=.type "list",dict:=none,data:=.seq f.toArray j,slots:=#[] }->EP X D σ Q (.ref s.heap.objs.size) { s with heap:=g }:=fun f k t g j kp e =>
  ⟨.ref s.heap.objs.size,_,I.laid (t':=s.toks) kp (aB _) (show cw X.prog X.w X.K _ g _ (.lst i)from⟨t,f,j,k,e⟩),rfl,q _ (I.hok.fresh (aB _))⟩
 rcases hq with hq|hq
 ·obtain⟨f,k,x,t⟩:=I.list hq;have v:=k.length;obtain⟨o,y,z,n,A⟩:=x.isList;exact call_list_seq p (.inl rfl) y z A (fun g j kp e=>m f k t g j kp e) (by simp only[bG]<;>omega)
 ·obtain⟨f,k,x,t⟩:=I.tuple hq;have v:=k.length;obtain⟨o,y,z,n,A⟩:=x;exact call_list_seq p (.inr rfl) y z A (fun g j kp e=>m f k t g j kp e) (by simp only[bG]<;>omega)
theorem fT:fV X (.type "tuple") (fun n H Q=>∃p g,n=[.ref p]/\((aw X.K H p g/\∀l,H l=none->Q (.ref l) (upd H l (.tup g)))∨(bQ X.K H p g/\Q (.ref p) H))):=by
 intro t s σ H n B Q I r h;obtain⟨p,g,rfl,h⟩:=h;obtain⟨u,rfl,z⟩:=vals1 r;cases z;rcases h with⟨j,q⟩|⟨j,q⟩
 ·obtain⟨f,k,m,v⟩:=I.list j;have x:=k.length;refine call_tuple_list m.isList (fun i kp=>?_) (by simp only[bG]<;>omega);have y:Inv X t σ H { s with heap:=i }:=I.kept (t':=s.toks) kp;have A:Inv X t σ (upd H i.objs.size (.tup g)) { s with heap:=i.push { cls:=.type "tuple",data:=.seq f.toArray } } :=
   y.laid (t':=s.toks) (fun b o e=>bR _ e) (aB _) (show cw X.prog X.w X.K _ _ _ (.tup g)from⟨v,f,k,IsTup.new _ _⟩)
  exact⟨.ref i.objs.size,_,A,rfl,q _ (y.hok.fresh (aB _))⟩
 ·obtain⟨f,k,m,v⟩:=I.tuple j;exact call_tuple_same m ⟨.ref p,H,I,rfl,q⟩
def tyV(K:Za)(T:String)(x:V)(H:Hp):Prop:=match x with
 |.str _=>T="str"
 |.int _=>T="int"
 |.ref p=>(T="list"/\∃xs,aw K H p xs)∨(T="tuple"/\∃o,K.lookup p=some o/\o.cls=.type "tuple"/\o.dict=none) ∨
   (T="dict"/\((∃kvs,H p=some (.dK kvs))∨∃kvs,H p=some (.dT kvs)))∨(T="set"/\∃S n,H p=some (.set S n))
 |_=>False
theorem Gs{m:Zd}{σ:St}{H:Hp}{s:Shared}{T:String}{x:V}{v:Value}(I:Inv X m σ H s)(r:RelV x v)(ty:tyV X.K T x H):
  s.TypeIs v T/\∀a,v=.ref a->∃k,s.heap.get? a=some k/\k.dict=none:=by
 cases x with
 |str z =>
  obtain⟨t,rfl⟩:=r;cases(show T="str" from ty);exact⟨typeIs_str s z t,fun _ e=>nomatch e⟩
 |int i =>
  obtain⟨t,rfl⟩:=r;cases(show T="int" from ty);exact⟨typeIs_int s i t,fun _ e=>nomatch e⟩
 |ref p =>
  cases r;rcases ty with⟨rfl,y,q⟩|⟨rfl,o,f,u,g⟩|⟨rfl,f⟩|⟨rfl,S,n,f⟩
  ·obtain⟨w,_,l,_⟩:=I.list q;refine⟨l.isList.typeIs,fun a e=>?_⟩;cases e;obtain⟨o,n,e,c,g,_⟩:=l;exact⟨o,e,g⟩
  ·refine⟨⟨o,I.kIn p o f,u⟩,fun a e=>?_⟩;cases e;exact⟨o,I.kIn _ o f,g⟩
  ·have z:∃o,s.heap.get? p=some o/\o.ExactDict:=by
    rcases f with⟨h,f⟩|⟨h,f⟩
    ·obtain⟨_,_,_,_,o,_,_,e,ex,_⟩:=I.hok p _ f;exact⟨o,e,ex⟩
    ·obtain⟨_,_,_,_,o,_,_,e,ex,_⟩:=I.hok p _ f;exact⟨o,e,ex⟩
   obtain⟨o,e,ex⟩:=z;refine⟨⟨o,e,ex.1⟩,fun a j=>?_⟩;cases j;exact⟨o,e,ex.2.1⟩
  ·obtain⟨o,_,_,_,e,ex,_⟩:=I.hok p _ f;refine⟨⟨o,e,ex.1⟩,fun a j=>?_⟩;cases j;exact⟨o,e,ex.2.1⟩
 |_=>exact kf ty
def Kl(K:Za)(T:String)(r:V->List V->Hp->VK->Prop)(to:TE):TE:=fun σ H Q=>to σ H fun x H1=>tyV K T x H1/\r x [] H1 Q
def DV(K:Za)(T:String)(r:V->List V->Hp->VK->Prop)(to:TE)(t:TA):TE:=fun σ H Q=>to σ H fun x H1=>tyV K T x H1/\t σ H1 fun xs H2=>r x xs H2 Q
variable{o e:Expr}{es:List Expr}{to:TE}{t:TA}{name:Str}{J5 J4:Pos}{T id:String}{r:V->List V->Hp->VK->Prop}
theorem Hf(p:PlainAttrs T)(i:Slot T name id)(j:typeOf (.builtin id)=pure (.type "method_descriptor"))(q:MtR X id r)(u:PE X o to)
  (f:wB o name X.env (eval o X.env)=eval o X.env:=by rfl) (g:(J5.endLine==J4.line)=true:=by rfl):PE X (.Call (.Attribute o name J5) [] [] J4) (Kl X.K T r to):=by
 intro l s σ H Q I h;refine wpAny_Call_method0_late f g (cH (u l s σ H _ I h) fun v w k=>?_);obtain⟨x,y,m,n,ty,z⟩:=k;obtain⟨A,B⟩:=Gs m n ty;exact⟨T,id,p,i,j,A,B,yg rfl (PySem.evalArgs_none (q l w σ y x [] v [] Q m n .nil z))⟩
theorem jH(w:PlainAttrs T)(j:Slot T name id)(l:typeOf (.builtin id)=pure (.type "method_descriptor"))(y:MtR X id r)(z:PE X o to)(A:PA X (e::es) t)
  (g:wB o name X.env (eval o X.env)=eval o X.env:=by rfl)
  (k:((backTo J4 (aL (e::es) X.env)).all (fun x=>!x.1) && (o7 J4 (o6 [] X.env)).all (fun x=>x.1.isSome)
   && decide ((e::es).length+([]:List qI).length+(if([]:List qI).isEmpty then 0 else 1)<30))=true:=by rfl)
  (i:(J5.endLine==J4.line)=true:=by rfl) (B:aL (e::es) X.env=(false,eval e X.env)::aL es X.env:=by rfl) (f:(backTo J4 (aL es X.env)).any (·.1)=false:=by rfl) :
  PE X (.Call (.Attribute o name J5) (e::es) [] J4) (DV X.K T r to t):=by
 intro m s σ H Q I h;refine wpAny_Call_method_late g k i rfl (cH (z m s σ H _ I h) fun v C n=>?_);obtain⟨x,D,p,q,ty,E⟩:=n;obtain⟨G,J⟩:=Gs p q ty;refine⟨T,id,w,j,l,G,J,?_⟩;have u:=A J4 m C σ D _ p E;rw[B]at u ⊢;refine yg (by show(false || (backTo J4 (aL es X.env)).any (·.1))=false;rw[f]<;>rfl) (Calls.evalArgs_plain ?_);exact cH u fun L M ⟨N,O,U,Y,q2⟩=>y m M σ O x N v L Q U q Y q2
end
end L2
namespace L2
open PySem PySem.Spec PyProof.Rows
def KO(X:Cx)(id:String)(r:V->List V->Hp->VK->Prop):Prop :=
 ∀(J3:Zd) (s:Shared) (σ:St) (H:Hp) (x:V) (xs:List V) (v:Value) (us:Zf) (Q:VK),Inv X J3 σ H s->RelV x v->ba xs us->r x xs H Q ->
  wpAny (model X.prog X.w) X.A (call (.builtin id) (v::us)) (EP X J3 σ Q) X.xe s
theorem ba.one:∀{x:V}{a:Zf},ba [x] a->∃u,a=[u]/\RelV x u
 |_,_,.cons r .nil=>⟨_,rfl,r⟩
theorem ba.two:∀{x y:V}{a:Zf},ba [x,y] a->∃u v,a=[u,v]/\RelV x u/\RelV y v
 |_,_,_,.cons r (.cons q .nil)=>⟨_,_,rfl,r,q⟩
theorem ba.zero:∀{a:Zf},ba [] a->a=[]
 |_,.nil=>rfl
theorem ba.dropLast{a:List V}{e:Zf}(h:ba a e):ba a.dropLast e.dropLast:=by
 induction h with
 |nil=>exact .nil
 |cons r t f =>
  cases t with
  |nil=>exact .nil
  |cons q g=>exact .cons r f
theorem ba.eraseIdx:∀{a:List V}{e:Zf}(i:Nat),ba a e->ba (a.eraseIdx i) (e.eraseIdx i)
 |_,_,_,.nil=>.nil
 |_,_,0,.cons _ t=>t
 |_,_,i+1,.cons r t=>.cons r (ba.eraseIdx i t)
theorem ba.reverse{a:List V}{e:Zf}(h:ba a e):ba a.reverse e.reverse:=by
 induction h with
 |nil=>exact .nil
 |cons r t f=>rw[yf,yf];exact ba.append f (.cons r .nil)
theorem C9{α:Type}(l:List α):l.eraseIdx (l.length-1)=l.dropLast:=by
 induction l with
 |nil=>rfl
 |cons a r f =>
  cases r with
  |nil=>rfl
  |cons b r =>
   have e:(a::b::r).length-1=((b::r).length-1)+1:=by
    have g:(a::b::r).length=r.length+2:=rfl;have h:(b::r).length=r.length+1:=rfl;omega
   rw[e,List.eraseIdx_cons_succ,f]
   all_goals rfl
theorem wX{α:Type}:∀(l:List α) (i:Nat),(l.eraseIdx i).length<=l.length
 |[],_=>aB _
 |_::_,0=>qJ _
 |_::r,i+1=>ue (wX r i)
section
variable{X:Cx}{J3:Zd}{σ:St}{H:Hp}{s:Shared}{l b:Addr}{xs ys zs:List V}
theorem Inv.lset{a its':Zf}{n:Nat}{f:Array Value->Array Value}{g:Nat}(I:Inv X J3 σ H s)(h:H l=some (.lst xs))
  (e:s.heap.get? l=some { cls:=.type "list",data:=.seq a.toArray n }) (i:f a.toArray=its'.toArray) (j:ba ys its') (k:ys.length<=aj) :
  Inv X J3 σ (upd H l (.lst ys)) { s with heap:=s.heap.update l (fL f),toks:=g }:=by
 have q:=PySem.IsL.update e f;rw[i]at q;refine I.write (x:=l) (e:=l) (by rw[h];exact trivial) (.inl rfl) (fun p u m o=>(iG s.heap (fL f) (gk m)).trans o) ⟨_,q⟩ ?_;exact⟨k,its',_,j,q⟩
theorem Inv.lnew{a:Zf}{t':Nat}(I:Inv X J3 σ H s)(e:ba ys a)(f:ys.length<=aj):
  Inv X J3 σ (upd H s.heap.objs.size (.lst ys)) { s with heap:=s.heap.push { cls:=.type "list",data:=.seq a.toArray },toks:=t' } :=
 I.laid (fun _ _ q=>bR _ q) (aB _) ⟨f,a,0,e,du _ rfl⟩
theorem Inv.fresh(I:Inv X J3 σ H s):H s.heap.objs.size=none:=I.hok.fresh (aB _)
theorem Inv.lstM(I:Inv X J3 σ H s)(f:H l=some (.lst xs)):xs.length<=aj/\∃(a:Zf) (n:Nat),ba xs a/\xs.length=a.length/\s.heap.get? l=some { cls:=.type "list",data:=.seq a.toArray n }:=by
 obtain⟨z,a,n,r,e⟩:=I.hok l _ f;exact⟨z,a,n,r,r.length,e⟩
theorem Hk{n:Nat}(h:n<=aj):cb.List.listTooLong n=false:=by
 unfold cb.List.listTooLong;exact zzr0 (by omega)
end
section
variable{X:Cx}
def ig:V->List V->Hp->VK->Prop:=fun x vs H Q=>∃l xs y,x=.ref l/\vs=[y]/\H l=some (.lst xs)/\xs.length<aj/\Q .non (upd H l (.lst (xs++[y])))
theorem dC:KO X "list.append" ig:=by
 intro k s σ H x m v o Q I g i h;obtain⟨l,p,y,rfl,rfl,f,t,q⟩:=h;cases g;obtain⟨u,rfl,j⟩:=i.one;obtain⟨z,a,n,r,w,e⟩:=I.lstM f;refine qH F.slot_list_append ⟨_,e,rfl⟩ F.entry_list_append (F.args_list_append_2 _ _) (PySem.list_append l a.toArray n u (by rw[bG];omega)) ⟨e,?_⟩;refine⟨.non,_,I.lset (its':=a++[u]) f e (by simp) (r.append (.cons j .nil)) ?_,rfl,q⟩;rw[a_,List.length_singleton];omega
def DZ:V->List V->Hp->VK->Prop:=fun x vs H Q=>∃l b xs zs,x=.ref l/\vs=[.ref b]/\H l=some (.lst xs)/\H b=some (.lst zs)/\xs.length+zs.length<=aj/\Q .non (upd H l (.lst (xs++zs)))
theorem Fu:KO X "list.extend" DZ:=by
 intro A s σ H x B v C Q I k m h;obtain⟨l,b,D,E,rfl,rfl,j,hB,G,q⟩:=h;cases k;obtain⟨u,rfl,o⟩:=m.one;cases o;obtain⟨z,f,n,r,J,e⟩:=I.lstM j;obtain⟨L,a,p,t,w,y⟩:=I.lstM hB;have i:f.toArray.size+a.toArray.size<=aj:=by rw[bG,bG];omega
 have g:¬(!f.toArray.isEmpty && cb.List.listTooLong (f.toArray.size+a.toArray.size))=true:=by
  rw[Hk i,ye];exact iP
 refine qH F.slot_list_extend ⟨_,e,rfl⟩ F.entry_list_extend (F.args_list_extend_2 _ _)
  (AutoSeq1.list_extend_list_list_0 l f.toArray n b a.toArray p g (by rw[bG];omega) (by omega)) ⟨e,y,?_⟩
 refine⟨.non,_,I.lset (its':=f++a) j e (by simp) (r.append t) ?_,rfl,q⟩;rw[a_];omega
def K9:V->List V->Hp->VK->Prop:=fun x vs H Q=>∃l xs y,x=.ref l/\vs=[]/\H l=some (.lst xs)/\xs[xs.length-1]?=some y/\Q y (upd H l (.lst xs.dropLast))
theorem KA:KO X "list.pop" K9:=by
 intro w s σ H x A v B Q I j k h;obtain⟨l,C,y,rfl,rfl,i,m,q⟩:=h;cases j;have f:=k.zero;subst f;obtain⟨z,a,n,r,o,e⟩:=I.lstM i;obtain⟨u,p,t⟩:=r.get m;have g:a.toArray[a.toArray.size-1]?=some u:=by
  show a.toArray[a.length-1]?=some u;rw[<-Array.getElem?_toList,<-o];exact p
 refine qH F.slot_list_pop ⟨_,e,rfl⟩ F.entry_list_pop (F.args_list_pop_1 _) (MeetsSeq.list_pop_last l a.toArray n u g (by rw[bG];omega)) ⟨e,?_⟩;refine⟨y,_,I.lset (its':=a.dropLast) i e ?_ r.dropLast ?_,t,q⟩
 ·show a.toArray.eraseIdxIfInBounds (a.toArray.size-1)=a.dropLast.toArray;rw[bG,List.eraseIdxIfInBounds_toArray,C9]
 ·rw[List.length_dropLast];omega
def GY:V->List V->Hp->VK->Prop:=fun x vs H Q=>∃l xs i k y,x=.ref l/\vs=[.int i]/\H l=some (.lst xs)/\-(2 ^ 63)<=i/\i<2 ^ 63/\yj i xs.length=some k/\xs[k]?=some y/\Q y (upd H l (.lst (xs.eraseIdx k)))
theorem Hu:KO X "list.pop" GY:=by
 intro J s σ H x L v M Q I j m h;obtain⟨l,o,i,k,y,rfl,rfl,g,p,A,B,C,q⟩:=h;cases j;obtain⟨u,rfl,D⟩:=m.one;obtain⟨t,rfl⟩:=D;obtain⟨z,a,n,r,E,e⟩:=I.lstM g;obtain⟨w,G,f⟩:=r.get C;refine qH F.slot_list_pop ⟨_,e,rfl⟩ F.entry_list_pop (F.args_list_pop_2 _ _)
  (MeetsSeq.list_pop_at l a.toArray n i t k w (fitsIndex_both p A) (by rw[bG,<-E];exact B) (by rw[<-Array.getElem?_toList];exact G) (by rw[bG];omega)) ⟨e,?_⟩
 refine⟨y,_,I.lset (its':=a.eraseIdx k) g e ?_ (r.eraseIdx k) ?_,f,q⟩
 ·show a.toArray.eraseIdxIfInBounds k=(a.eraseIdx k).toArray;rw[List.eraseIdxIfInBounds_toArray]
 ·have:=wX o k;omega
def AQ:V->List V->Hp->VK->Prop:=fun x vs H Q=>∃l xs,x=.ref l/\vs=[]/\H l=some (.lst xs)/\Q .non (upd H l (.lst xs.reverse))
theorem CP:KO X "list.reverse" AQ:=by
 intro k s σ H x m v o Q I i j h;obtain⟨l,p,rfl,rfl,g,q⟩:=h;cases i;have f:=j.zero;subst f;obtain⟨z,a,n,r,t,e⟩:=I.lstM g;refine qH F.slot_list_reverse ⟨_,e,rfl⟩ F.entry_list_reverse (F.args_list_reverse_1 _) (AutoSeq1.list_reverse_list_0 l a.toArray n (by rw[bG];omega)) ⟨e,?_⟩;refine⟨.non,_,I.lset (its':=a.reverse) g e (by simp) r.reverse ?_,rfl,q⟩;rw[eG];omega
def j3:R2:=fun x y H Q=>∃l b xs zs,x=.ref l/\y=.ref b/\H l=some (.lst xs)/\H b=some (.lst zs)/\xs.length+zs.length<=aj/\∀p,H p=none->Q (.ref p) (upd H p (.lst (xs++zs)))
theorem eT:nS X (l_ .Add) j3:=by
 intro t s σ H x y v u Q I g i h;obtain⟨l,b,w,A,rfl,rfl,j,hB,B,q⟩:=h;cases g;cases i;obtain⟨z,f,n,r,C,e⟩:=I.lstM j;obtain⟨D,a,E,k,m,o⟩:=I.lstM hB;refine PySem.P.add_list e o ?_ (by rw[bG,bG];omega);have p:f.toArray++a.toArray=(f++a).toArray:=by simp
 rw[p];exact⟨.ref _,_,I.lnew (t':=s.toks) (r.append k) (by rw[a_];omega),rfl,q _ I.fresh⟩
end
end L2
namespace L2
open PySem PySem.Spec PyProof.Rows
section
variable{κ:Type}[DecidableEq κ]
def bb(kvs:List (κ×V))(k:κ):Option V:=(kvs.find? fun kv=>decide (kv.1=k)).map (·.2)
def dh(kvs:List (κ×V))(k:κ)(v:V):List (κ×V) :=
 if(kvs.any fun kv=>decide (kv.1=k))=true then kvs.map (fun kv=>if kv.1=k then(kv.1,v)else kv)else kvs++[(k,v)]
theorem dA{p:κ×V}{r:List (κ×V)}{k:κ}(e:p.1=k):bb (p::r) k=some p.2:=by simp[bb,mn,e]
theorem df{p:κ×V}{r:List (κ×V)}{k:κ}(e:¬p.1=k):bb (p::r) k=bb r k:=by simp[bb,mn,e]
theorem ki(k:κ):∀a:List (κ×V),(a.any fun f=>decide (f.1=k))=(bb a k).isSome
 |[]=>rfl
 |p::r=>by
  rw[qG];by_cases e:p.1=k
  ·simp only[dA e,zzr1 e,Bool.true_or,Option.isSome_some]
  ·rw[df e,zzr0 e,Bool.false_or];exact ki k r
theorem Am(k j:κ)(y:V):∀a:List (κ×V),bb (a.map fun f=>if f.1=k then(f.1,y)else f) j=(bb a j).map fun x=>if j=k then y else x
 |[]=>rfl
 |p::r=>by
  have g:=Am k j y r;rw[bF];by_cases h:p.1=k
  ·rw[if_pos h];by_cases e:p.1=j
   ·rw[dA (p:=(p.1,y)) e,dA e,uc,if_pos (e.symm.trans h)]
   ·rw[df (p:=(p.1,y)) e,df e,g]
  ·rw[if_neg h];by_cases e:p.1=j
   ·rw[dA (p:=p) e,dA e,uc,if_neg (fun z=>h (e.trans z))]
   ·rw[df (p:=p) e,df e,g]
theorem wI(k j:κ)(y:V):∀a:List (κ×V),bb a k=none->bb (a++[(k,y)]) j=if j=k then some y else bb a j
 |[],_=>by
  by_cases e:k=j
  ·rw[if_pos e.symm];exact dA (p:=(k,y)) e
  ·rw[if_neg (fun z=>e z.symm)];exact df (p:=(k,y)) e
 |p::r,f=>by
  rw[List.cons_append];have g:¬p.1=k:=fun z=>by rw[dA z]at f;cases f
  rw[df g]at f;have h:=wI k j y r f;by_cases e:p.1=j
  ·rw[dA e,dA e,if_neg (fun z=>g (e.trans z))]
  ·rw[df e,df e,h]
theorem ik(f:List (κ×V))(k j:κ)(y:V):bb (dh f k y) j=if j=k then some y else bb f j:=by
 unfold dh;by_cases a:(f.any fun g=>decide (g.1=k))=true
 ·rw[if_pos a,Am];rw[ki]at a;by_cases e:j=k
  ·obtain⟨x,h⟩:=yn.mp a;rw[if_pos e,e,h,uc,if_pos rfl]
  ·rw[if_neg e];cases bb f j with
   |none=>rfl
   |some x=>rw[uc,if_neg e]
 ·rw[if_neg a];refine wI k j y f ?_;rw[ki]at a;cases q:bb f k with
  |none=>rfl
  |some x=>rw[q]at a;exact(a rfl).elim
theorem eV(a:List (κ×V))(k:κ)(v:V):(dh a k v).length<=a.length+1:=by
 unfold dh;split
 ·rw[ah];omega
 ·rw[a_,fO,List.length_nil];omega
theorem iu{a:List (κ×V)}{k:κ}(v:V)(h:bb a k=none):dh a k v=a++[(k,v)]:=by
 unfold dh;rw[ki,h];exact if_neg (by decide)
theorem lZ.isSome_eq{o:Option V}{u:Option Value}(r:lZ o u):o.isSome=u.isSome:=by
 cases o with
 |none=>cases u with
  |none=>rfl
  |some _=>exact(show False from r).elim
 |some _=>cases u with
  |none=>exact(show False from r).elim
  |some _=>rfl
theorem lZ.getD{o:Option V}{u:Option Value}{d:V}{a:Value}(r:lZ o u)(e:RelV d a):RelV (o.getD d) (u.getD a):=by
 cases o with
 |none=>cases u with
  |none=>exact e
  |some _=>exact(show False from r).elim
 |some _=>cases u with
  |none=>exact(show False from r).elim
  |some _=>exact r
theorem KV.val{a:List (κ×V)}{g:List (κ×Value)}(r:KV a g)(k:κ):lZ (bb a k) (n_ g k):=by
 unfold KV at r
 induction r with
 |nil=>exact ke
 |@cons p q m qs h t j =>
  obtain⟨i,l⟩:=h;by_cases e:p.1=k
  ·have f:q.1=k:=i.symm.trans e;have b:n_ (q::qs) k=some q.2:=by simp[n_,mn,f]
   rw[dA e,b];exact l
  ·have f:¬q.1=k:=fun z=>e (i.trans z);have b:n_ (q::qs) k=n_ qs k:=by simp[n_,mn,f]
   rw[df e,b];exact j
theorem KV.any{a:List (κ×V)}{f:List (κ×Value)}(r:KV a f)(k:κ):(a.any fun e=>decide (e.1=k))=f.any fun e=>decide (e.1=k):=by
 unfold KV at r
 induction r with
 |nil=>rfl
 |cons h t g=>rw[qG,qG,g,h.1]
theorem KV.repl{f:List (κ×V)}{i:List (κ×Value)}(r:KV f i)(k:κ){y:V}{u:Value}(j:RelV y u):
  KV (f.map fun a=>if a.1=k then(a.1,y)else a) (i.map fun a=>if a.1=k then(a.1,u)else a):=by
 unfold KV at r ⊢
 induction r with
 |nil=>exact .nil
 |@cons p q n qs h t l =>
  rw[bF,bF];refine .cons ?_ l;obtain⟨g,m⟩:=h;by_cases e:p.1=k
  ·rw[if_pos e,if_pos (g.symm.trans e)];exact⟨g,j⟩
  ·rw[if_neg e,if_neg (fun z=>e (g.trans z))];exact⟨g,m⟩
theorem KV.put{a:List (κ×V)}{f:List (κ×Value)}(r:KV a f)(k:κ){y:V}{u:Value}(g:RelV y u):KV (dh a k y) (stored f k u):=by
 unfold dh stored;rw[r.any k];by_cases e:(f.any fun h=>decide (h.1=k))=true
 ·rw[if_pos e,if_pos e];exact r.repl k g
 ·rw[if_neg e,if_neg e];exact ge r ⟨rfl,g⟩
theorem KV.length{a:List (κ×V)}{e:List (κ×Value)}(r:KV a e):a.length=e.length:=Paired.length r
end
theorem pW{P:b9}{w:World}{k:fG}{u:Value}(r:RelV (kV k) u):(cD P w).is k u=true:=by
 cases k with
 |inl i=>obtain⟨t,e⟩:=(show ∃t,u=Value.int i t from r);subst e;exact A8 P w i t
 |inr x=>obtain⟨t,e⟩:=(show ∃t,u=Value.str x t from r);subst e;exact A7 P w x t
theorem zF:∀{k:oY}{u:Value},RelV (J8 k) u->jp k u=true
 |none,u,r=>by cases(show u=Value.none from r);rfl
 |some (.inl i),u,r=>by obtain⟨t,rfl⟩:=r;exact np i t
 |some (.inr x),u,r=>by obtain⟨t,rfl⟩:=r;exact nj x t
abbrev KT(K:Za)(H:Hp):List (TK×V)->List (TK×Addr×Value)->Prop:=Paired fun p q=>p.1=q.1/\so K H p.1 (.ref q.2.1)/\p.1.depth<=8/\RelV p.2 q.2.2
theorem KT.val{K:Za}{H:Hp}{a:List (TK×V)}{g:List (TK×Addr×Value)}(r:KT K H a g)(k:TK):lZ (bb a k) ((atKey g k).map (·.2)):=by
 induction r with
 |nil=>exact ke
 |@cons p q m qs h t j =>
  obtain⟨i,_,_,l⟩:=h;by_cases e:p.1=k
  ·have f:q.1=k:=i.symm.trans e;have b:atKey (q::qs) k=some q.2:=by simp[atKey,mn,f]
   rw[dA e,b];exact l
  ·have f:¬q.1=k:=fun z=>e (i.trans z);have b:atKey (q::qs) k=atKey qs k:=by simp[atKey,mn,f]
   rw[df e,b];exact j
theorem KT.repl{K:Za}{H:Hp}{a:List (TK×V)}{i:List (TK×Addr×Value)}(r:KT K H a i)(k:TK){y:V}{u:Value}(m:RelV y u):
  KT K H (a.map fun g=>if g.1=k then(g.1,y)else g) (i.map (putAt k u)):=by
 induction r with
 |nil=>exact .nil
 |@cons p q o qs h t n =>
  rw[bF,bF];refine .cons ?_ n;obtain⟨f,j,l⟩:=h;unfold putAt;by_cases e:p.1=k
  ·rw[if_pos e,if_pos (f.symm.trans e)];exact⟨f,j,l.1,m⟩
  ·rw[if_neg e,if_neg (fun z=>e (f.trans z))];exact⟨f,j,l⟩
theorem KT.put{K:Za}{H:Hp}{a:List (TK×V)}{f:List (TK×Addr×Value)}(r:KT K H a f)(k:TK){b:Addr}{y:V}{u:Value}(h:so K H k (.ref b))(i:k.depth<=8)(g:RelV y u):
  KT K H (dh a k y) (storedH f k b u):=by
 have e:(a.any fun j=>decide (j.1=k))=(atKey f k).isSome:=by
  rw[ki,(r.val k).isSome_eq,Option.isSome_map]
 unfold dh storedH;rw[e];by_cases q:(atKey f k).isSome=true
 ·rw[if_pos q,if_pos q];exact r.repl k g
 ·rw[if_neg q,if_neg q];exact ge r ⟨rfl,h,i,g⟩
theorem KT.keeps{K:Za}{H a:Hp}{kvs:List (TK×V)}{xs:List (TK×Addr×Value)}(r:KT K H kvs xs)(f:∀b e,H b=some (.tup e)->a b=some (.tup e)):KT K a kvs xs :=
 Paired.mapP r fun _ _ z=>⟨z.1,so.keeps f 8 z.2.2.1 z.2.1,z.2.2⟩
section
variable{P:b9}{w:World}{K:Za}{H:Hp}{h:Heap}{a:Addr}
theorem JQ{u:HO}(ok:nu P w K H h)(e:Rd H a u):cw P w K H h a u:=e.ok ok
theorem qa{f:List (fG×V)}(ok:nu P w K H h)(e:Rd H a (.dK f)):f.length<=aj/\(a==iL)=false/\∃g,KV f g/\h.DictOf (cD P w) a g :=
 show cw P w K H h a (.dK f)from JQ ok e
theorem Lq{f:List (fG×V)}(ok:nu P w K H h)(e:H a=some (.dK f)):f.length<=aj/\(a==iL)=false/\∃g,KV f g/\h.DictOf (cD P w) a g:=qa ok (.inl e)
theorem Kk(ok:nu P w K H h)(y:K.In h):∀(d:Nat) {k:TK}{v:V}{u:Value},k.depth<=d->so K H k v->RelV v u->nK h k u:=by
 have z:∀(d:Nat) (s:∀{k:TK}{v:V}{u:Value},k.depth<=d->so K H k v->RelV v u->nK h k u) (ks:List TK) (i:List V) (x:Zf),TK.depths ks<=d->TKCs K H ks i->ba i x->TAts h ks x:=by
  intro d s ks
  induction ks with
  |nil =>
   intro i x _ g r;have e:i=[]:=g;subst e;cases r
   rfl
  |cons k ks A =>
   intro i x j g r;obtain⟨v,B,rfl,m,C⟩:=g;cases r with
   |@cons _ u _ q I J =>
    have L:max k.depth (TK.depths ks)<=d:=j;exact⟨u,q,rfl,s (by omega) m I,A B q (by omega) C J⟩
 intro d
 induction d with
 |zero =>
  intro k v u j g r;cases k with
  |t l=>exact absurd j (by show ¬(TK.depths l+1<=0);omega)
  |k b =>
   have e:v=J8 b:=g;subst e;exact zF r
 |succ d s =>
  intro k v u j g r;cases k with
  |k b =>
   have e:v=J8 b:=g;subst e;exact zF r
  |t l =>
   obtain⟨b,D,rfl,E,M⟩:=g;cases(show u=Value.ref b from r);obtain⟨f,G,N,m,C,n,O⟩:∃f:List Value,ba D f/\IsTup h b f.toArray:=by
    rcases E with E|⟨o,f,n,Q,T,U,Y,r⟩
    ·obtain⟨_,f,G,p⟩:=(show cw P w K H h b (.tup D)from ok b _ E);exact⟨f,G,p⟩
    ·exact⟨f.toList,r,o,y b o Q,T,n,by simpa using U⟩
   exact⟨b,N,f.toArray,n,rfl,m,C,O,by simpa using z d (fun m=>s m) l D f (by have:TK.depths l+1<=d+1:=j;omega) M G⟩
theorem zC{k:TK}(ok:nu P w K H h)(f:K.In h)(e:so K H k (.ref a))(g:k.depth<=8):(eR P w).is h k a:=⟨Kk ok f 8 g e rfl,g⟩
theorem sk{f:List (TK×V)}(ok:nu P w K H h)(j:K.In h)(e:Rd H a (.dT f)):f.length<=aj/\(a==iL)=false /\
  ∃g,KT K H f g/\h.DictOfH (eR P w) a g:=by
 obtain⟨z,y,g,r,o,k,n,s,u,v,A,B⟩:=(show cw P w K H h a (.dT f)from JQ ok e);refine⟨z,y,g,r,o,k,n,s,u,v,A,fun x hx=>?_,B⟩;have all:∀{l:List (TK×V)}{m:List (TK×Addr×Value)},KT K H l m->∀x∈m,(eR P w).is h x.1 x.2.1:=by
  intro l m q
  induction q with
  |nil=>intro x hx;exact nomatch hx
  |@cons p q D qs i t C =>
   intro x hx;rcases cC.mp hx with e|hx
   ·subst e;exact zC ok j (by rw[<-i.1];exact i.2.1) (by rw[<-i.1];exact i.2.2.1)
   ·exact C x hx
 exact all r x hx
theorem HN{f:List (TK×V)}(ok:nu P w K H h)(g:K.In h)(e:H a=some (.dT f)):f.length<=aj/\(a==iL)=false /\
  ∃i,KT K H f i/\h.DictOfH (eR P w) a i:=sk ok g (.inl e)
end
mutual
def nJ(K:Za)(H:Hp):TK->V->Prop
 |.k a,v=>v=J8 a
 |.t l,v=>∃b xs,v=.ref b/\bQ K H b xs/\TKIns K H l xs
def TKIns(K:Za)(H:Hp):List TK->List V->Prop
 |[],vs=>vs=[]
 |k::r,vs=>∃v us,vs=v::us/\nJ K H k v/\TKIns K H r us
end
theorem cS.isIn{K:Za}{H:Hp}:∀(d:Nat) {k:TK}{v:V},k.depth<=d->cS H k v->nJ K H k v:=by
 have j:∀(d:Nat) (h:∀{k:TK}{v:V},k.depth<=d->cS H k v->nJ K H k v) (e:List TK) (i:List V),TK.depths e<=d->TKAts H e i->TKIns K H e i:=by
  intro d h e
  induction e with
  |nil=>intro i _ f;exact f
  |cons x e m =>
   intro i g f;obtain⟨v,p,rfl,n,o⟩:=f;have q:max x.depth (TK.depths e)<=d:=g;exact⟨v,p,rfl,h (by omega) n,m p (by omega) o⟩
 intro d
 induction d with
 |zero =>
  intro k v g f;cases k with
  |t l=>exact absurd g (by show ¬(TK.depths l+1<=0);omega)
  |k a=>exact f
 |succ d h =>
  intro k v g f;cases k with
  |k a=>exact f
  |t l =>
   obtain⟨b,e,rfl,r,s⟩:=f;exact⟨b,e,rfl,bQ.of r,j d (fun u=>h u) l e (by have:TK.depths l+1<=d+1:=g;omega) s⟩
theorem IC{X:Cx}{y:Zd}{σ:St}{H:Hp}{s:Shared}(I:Inv X y σ H s):∀(d:Nat) {k:TK}{v:V}{u:Value},k.depth<=d->nJ X.K H k v->RelV v u->nK s.heap k u:=by
 have p:∀(d:Nat) (m:∀{k:TK}{v:V}{u:Value},k.depth<=d->nJ X.K H k v->RelV v u->nK s.heap k u) (ks:List TK) (f:List V) (o:Zf),TK.depths ks<=d->TKIns X.K H ks f->ba f o->TAts s.heap ks o:=by
  intro d m ks
  induction ks with
  |nil =>
   intro f o _ a r;have e:f=[]:=a;subst e;cases r
   rfl
  |cons k ks q =>
   intro f o g a r;obtain⟨v,w,rfl,h,x⟩:=a;cases r with
   |@cons _ u _ i z A =>
    have B:max k.depth (TK.depths ks)<=d:=g;exact⟨u,i,rfl,m (by omega) h z,q w i (by omega) x A⟩
 intro d
 induction d with
 |zero =>
  intro k v u g a r;cases k with
  |t l=>exact absurd g (by show ¬(TK.depths l+1<=0);omega)
  |k b =>
   have e:v=J8 b:=a;subst e;exact zF r
 |succ d m =>
  intro k v u g a r;cases k with
  |k b =>
   have e:v=J8 b:=a;subst e;exact zF r
  |t l =>
   obtain⟨b,C,rfl,D,E⟩:=a;cases(show u=Value.ref b from r);obtain⟨j,G,⟨J,h,x,n,L⟩,_⟩:=I.tuple D;exact⟨b,J,j.toArray,n,rfl,h,x,L,by simpa using p d (fun h=>m h) l C j (by have:TK.depths l+1<=d+1:=g;omega) E G⟩
theorem u5{X:Cx}{f:Zd}{σ:St}{H:Hp}{s:Shared}{k:TK}{b:Addr}(I:Inv X f σ H s)(e:nJ X.K H k (.ref b))(a:k.depth<=8):(eR X.prog X.w).is s.heap k b:=⟨IC I 8 a e rfl,a⟩
theorem gl{P:b9}{w:World}{A:Around}(a:A.units+16<cLine):(eR P w).room A.in1:=by
 show A.units+1+8<cLine;omega
def nM(K:Za)(H:Hp)(a:Addr)(y:V)(r:Option V):Prop :=
 (∃kvs k,Rd H a (.dK kvs)/\y=kV k/\r=bb kvs k)∨∃kvs k b,Rd H a (.dT kvs)/\y=.ref b/\nJ K H k (.ref b)/\k.depth<=8/\r=bb kvs k
def LD(H:Hp)(a:Addr)(y v:V)(H':Hp):Prop :=
 (∃kvs k,H a=some (.dK kvs)/\y=kV k/\kvs.length<aj/\H'=upd H a (.dK (dh kvs k v))) ∨
 ∃kvs k b,H a=some (.dT kvs)/\y=.ref b/\cS H k (.ref b)/\k.depth<=8/\kvs.length<aj/\H'=upd H a (.dT (dh kvs k v))
section
variable{X:Cx}{J3:Zd}{σ:St}{H:Hp}{s:Shared}{a:Addr}{y v:V}{u r:Value}{o:Option V}{A:Around}{E:Zc}
theorem Inv.big(I:Inv X J3 σ H s):iL<s.heap.objs.size:=by
 have h:bV<s.heap.objs.size:=(I.mod.glob.keeps I.bk).lt;exact Nat.lt_trans (by decide) h
theorem FN{Q:Zc}(D:A.units+16<cLine)(I:Inv X J3 σ H s)(g:nM X.K H a y (some v))(B:RelV y u)(h:∀j C,Inv X J3 σ H C->RelV v j->Q j C):
  wpAny (model X.prog X.w) A (og (.ref a) u) Q E s:=by
 rcases g with⟨m,k,e,n,l⟩|⟨m,k,b,e,n,G,J,l⟩
 ·subst n;obtain⟨z,L,M,f,q⟩:=qa I.hok e;obtain⟨j,t,i⟩:=lZ.some_of (v:=v) (o:=n_ M k) (by rw[l];exact f.val k);exact wpAny_getItem_of (pW B) q.mapOf t (h j _ (I.tok _) i)
 ·subst n;cases(show u=Value.ref b from B);obtain⟨z,L,N,f,q⟩:=sk I.hok I.kIn e;obtain⟨j,t,i⟩:=lZ.some_of (v:=v) (o:=(atKey N k).map (·.2)) (by rw[l];exact f.val k);obtain⟨p,O,x⟩:=kR.mp t;refine wpAny_getItem_heap (gl D) (u5 I G J) q O ?_;rw[x];exact h j _ (I.tok _) i
theorem d_in{Q:Zc}(t:A.units+16<cLine)(I:Inv X J3 σ H s)(g:nM X.K H a y o)(n:RelV y u)(h:∀p,Inv X J3 σ H p->Q (.bool o.isSome) p):
  wpAny (model X.prog X.w) A (fP .In u (.ref a)) Q E s:=by
 rcases g with⟨i,k,e,j,l⟩|⟨i,k,b,e,j,x,B,l⟩
 ·subst j;obtain⟨z,hd,C,f,m⟩:=qa I.hok e;refine wpAny_in_of (pW n) hd m.mapOf ?_;rw[<-(f.val k).isSome_eq,<-l];exact h _ (I.tok _)
 ·subst j;cases(show u=Value.ref b from n);obtain⟨z,hd,D,f,m⟩:=sk I.hok I.kIn e;refine wpAny_in_heap (gl t) (u5 I x B) hd m ?_;have q:=(f.val k).isSome_eq;rw[Option.isSome_map]at q;rw[<-q,<-l];exact h _ (I.tok _)
theorem Jx{Q:Zc}(t:A.units+16<cLine)(I:Inv X J3 σ H s)(g:nM X.K H a y o)(n:RelV y u)(h:∀p,Inv X J3 σ H p->Q (.bool (!o.isSome)) p):
  wpAny (model X.prog X.w) A (fP .NotIn u (.ref a)) Q E s:=by
 rcases g with⟨i,k,e,j,l⟩|⟨i,k,b,e,j,x,B,l⟩
 ·subst j;obtain⟨z,hd,C,f,m⟩:=qa I.hok e;refine wpAny_notIn_of (pW n) hd m.mapOf ?_;rw[<-(f.val k).isSome_eq,<-l];exact h _ (I.tok _)
 ·subst j;cases(show u=Value.ref b from n);obtain⟨z,hd,D,f,m⟩:=sk I.hok I.kIn e;refine wpAny_notIn_heap (gl t) (u5 I x B) hd m ?_;have q:=(f.val k).isSome_eq;rw[Option.isSome_map]at q;rw[<-q,<-l];exact h _ (I.tok _)
theorem tH{f:Heap}{g:Nat}{ob:HO}(I:Inv X J3 σ H s)(h:Ly (H a))(i:jy a s.heap f)(j:∃q,f.get? a=some q)(new:cw X.prog X.w X.K (upd H a ob) f a ob):
  Inv X J3 σ (upd H a ob) { s with heap:=f,toks:=g } :=
 I.write (x:=a) (e:=a) h (.inl rfl) (fun b q k z=>(i.2 b k).trans z) j new
theorem HQ{P:b9}{w:World}{K:Za}{i:Hp}{h:Heap}{e:List (fG×V)}{f:List (fG×Value)}(z:e.length<=aj)(j:(a==iL)=false)(g:KV e f)(k:h.DictOf (cD P w) a f):
  cw P w K i h a (.dK e):=⟨z,j,f,g,k⟩
theorem FM{J:Hp}{Q:Unit->Shared->Prop}(Y:A.units+16<cLine)(I:Inv X J3 σ H s)(g:LD H a y v J)(L:RelV y u)(M:RelV v r)(h:∀N,Inv X J3 σ J N->Q () N):
  wpAny (model X.prog X.w) A (setItem (.ref a) u r) Q E s:=by
 rcases g with⟨f,k,e,p,l,t⟩|⟨f,k,b,e,p,O,m,l,t⟩
 ·subst p t;obtain⟨z,x,vs,i,B⟩:=Lq I.hok e;have C:vs.length<=aj:=by rw[<-i.length];exact z
  have D:(dh f k v).length<=aj:=by have:=eV f k v;omega
  refine wpAny_setItem_pairs (hsz:=C) (pW L) B fun T j G=>h _ ?_;have he:∃q,T.get? a=some q:=let⟨q,_,_,n,_⟩:=j;⟨q,n⟩;exact tH I (by rw[e];exact ke) G he (HQ D x (i.put k M) j)
 ·subst p t;cases(show u=Value.ref b from L);obtain⟨z,x,xs,i,B⟩:=HN I.hok I.kIn e;have C:xs.length<=aj:=by rw[<-Paired.length i];exact z
  have D:(dh f k v).length<=aj:=by have:=eV f k v;omega
  refine wpAny_setItem_heap (hsz:=C) (gl Y) (zC I.hok I.kIn (cS.c 8 m O) m) B fun T j G=>h _ ?_;obtain⟨q,es,ep,n,h2,h3,h4,_,h5⟩:=j;refine tH I (by rw[e];exact ke) G ⟨q,n⟩ ⟨D,x,_,(i.put k (cS.c 8 m O) m M).keeps fun c ys U=>?_,q,es,ep,n,h2,h3,h4,h5⟩;rw[ai (Ho U e (fun z=>nomatch z))];exact U
theorem Dc{b:Addr}{f:List (TK×V)}{k:TK}{Q:Unit->Shared->Prop}(x:A.units+16<cLine)(I:Inv X J3 σ H s)(e:H a=some (.dT f))(j:so X.K H k (.ref b))(m:k.depth<=8)(l:f.length<aj)(B:RelV (.ref b) u)(C:RelV v r)(h:∀n,Inv X J3 σ (upd H a (.dT (dh f k v))) n->Q () n):
  wpAny (model X.prog X.w) A (setItem (.ref a) u r) Q E s:=by
 cases(show u=Value.ref b from B);obtain⟨z,D,G,g,J⟩:=HN I.hok I.kIn e;have L:G.length<=aj:=by rw[<-Paired.length g];exact z
 have M:(dh f k v).length<=aj:=by have:=eV f k v;omega
 refine wpAny_setItem_heap (hsz:=L) (gl x) (zC I.hok I.kIn (j) m) J fun h' i N=>h _ ?_;obtain⟨q,O,T,p,U,Y,h4,_,h5⟩:=i;refine tH I (by rw[e];exact ke) N ⟨q,p⟩ ⟨M,D,_,(g.put k (j) m C).keeps fun c ys t=>?_,q,O,T,p,U,Y,h4,h5⟩;rw[ai (Ho t e (fun z=>nomatch z))];exact t
end
def F_(i:Expr):Prop:=∀ov iv,yi i false ov iv=operate [ov,iv] (og ov iv)
theorem II{a:b9}{w:World}{A:Around}{E:Zc}{s:Shared}{k:Env}{value slice:Expr}{p:Pos}{T id:String}{Q:Zc}
  (t:ug (.type T) "__getitem__"=pure (some (.builtin id))) (u:F_ slice)
  (h:wpAny (model a w) A (eval value k) (fun o g=>wpAny (model a w) A (eval slice k) (fun i e=>e.TypeIs o T/\wpAny (model a w) A (og o i) Q E e) E g) E s) :
  wpAny (model a w) A (eval (.Subscript value slice p) k) Q E s:=by
 refine ym (pb h (fun o g m=>pb m (fun i e f=>?_) fun _ _ x=>x) fun _ _ x=>x);obtain⟨q,f⟩:=f;unfold yk;refine ar ?_;rw[getitemInPython_of_ne q.not_modules];refine ar (EL q t ?_);have l:wpAny (model a w) A (yi slice false o i) (fun r j=>wpAny (model a w) A (letTemporaryGo value o r >>= fun _=>pure r) Q E j) E e:=by
  rw[u o i];exact wpAny_operating (pb f (fun r j n=>ar (wpAny_letTemporaryGo (aT n))) fun _ _ x=>x)
 first
  |exact aT (ar l)
  |exact ar (aT (ar l))
  |exact ar l
theorem Bk{X:Cx}{i:Zd}{σ:St}{H:Hp}{s:Shared}{a:Addr}{y:V}{o:Option V}(I:Inv X i σ H s)(g:nM X.K H a y o):s.TypeIs (.ref a) "dict":=by
 rcases g with⟨f,k,e,_,_⟩|⟨f,k,b,e,_,_,_⟩
 ·obtain⟨_,_,j,_,h⟩:=qa I.hok e;exact h.typeIs
 ·obtain⟨_,_,l,_,h⟩:=sk I.hok I.kIn e;exact h.typeIs
def im(K:Za)(td ty:TE):TE:=fun σ H Q=>td σ H fun x H1=>ty σ H1 fun y H2=>∃a v,x=.ref a/\nM K H2 a y (some v)/\Q v H2
def Cp(K:Za)(ty td:TE):TE:=fun σ H Q=>ty σ H fun y H1=>td σ H1 fun x H2=>∃a o,x=.ref a/\nM K H2 a y o/\Q (.bl o.isSome) H2
def ib(K:Za)(ty td:TE):TE:=fun σ H Q=>ty σ H fun y H1=>td σ H1 fun x H2=>∃a o,x=.ref a/\nM K H2 a y o/\Q (.bl (!o.isSome)) H2
def jf(td ty tv:TE):TS:=fun D σ H=>tv σ H fun v H1=>td σ H1 fun x H2=>ty σ H2 fun y H3=>∃a H4,x=.ref a/\LD H3 a y v H4/\D.nx σ H4
section
variable{X:Cx}{o i e value:Expr}{pos pos' J7:Pos}{td ty tv:TE}
theorem f8(m:X.A.units+16<cLine)(n:PE X o td)(p:PE X i ty)(q:F_ i):PE X (.Subscript o i pos) (im X.K td ty):=by
 intro k s σ H Q I h;refine II PySem.F.slot_dict_getitem.lookup q (cH (n k s σ H _ I h) fun u r ⟨x,t,w,z,B⟩=>cH (p k r σ t _ w B) fun J L f=>?_);obtain⟨y,C,l,D,a,v,ex,g,E⟩:=f;subst ex;obtain rfl:u=Value.ref a:=z;exact⟨Bk l g,FN m l g D fun M N G j=>⟨v,C,G,j,E⟩⟩
theorem re(k:X.A.units+16<cLine)(l:PE X i ty)(m:PE X o td):PC X .In i o (Cp X.K ty td):=by
 intro j s σ H Q I h;refine cH (l j s σ H _ I h) fun E n ⟨y,p,q,r,t⟩=>cH (m j n σ p _ q t) fun u G f=>?_;obtain⟨x,v,w,z,a,B,ex,g,C⟩:=f;subst ex;obtain rfl:u=Value.ref a:=z;exact d_in k w g r fun J D=>⟨.bl B.isSome,v,D,rfl,C⟩
theorem fz(k:X.A.units+16<cLine)(l:PE X i ty)(m:PE X o td):PC X .NotIn i o (ib X.K ty td):=by
 intro j s σ H Q I h;refine cH (l j s σ H _ I h) fun E n ⟨y,p,q,r,t⟩=>cH (m j n σ p _ q t) fun u G f=>?_;obtain⟨x,v,w,z,a,B,ex,g,C⟩:=f;subst ex;obtain rfl:u=Value.ref a:=z;exact Jx k w g r fun J D=>⟨.bl (!B.isSome),v,D,rfl,C⟩
theorem eJ(k:X.A.units+16<cLine)(l:PE X o td)(m:PE X i ty)(n:PE X value tv)(p:rS value (some (.Subscript o i pos')) pos.line X.env=pure false):
  PS X (.Assign [.Subscript o i pos'] value pos) (jf td ty tv):=by
 intro f s σ H D I h;refine wpAny_Assign_Subscript (cH (n f s σ H _ I h) fun r q ⟨v,t,w,z,B⟩=>cH (l f q σ t _ w B) fun u C ⟨x,E,G,J,L⟩=>cH (m f C σ E _ G L) fun U Y j=>?_) p;obtain⟨y,H3,M,N,a,O,ex,g,Q⟩:=j;subst ex;obtain rfl:u=Value.ref a:=J;exact FM k M g N z fun s4 T=>⟨σ,O,T,Q⟩
end
theorem HR{P:b9}{w:World}{K:Za}{H:Hp}(h:Heap)(a:iL<h.objs.size):cw P w K H (h.push { cls:=.type "dict",data:=.dict #[] }) h.objs.size (.dK []) :=
 ⟨dI _,beq_eq_false_iff_ne.mpr (gk (bW a)),[],.nil,Heap.DictOf.new h⟩
theorem HP{P:b9}{w:World}{K:Za}{H:Hp}(h:Heap)(a:iL<h.objs.size):cw P w K H (h.push { cls:=.type "dict",data:=.dict #[] }) h.objs.size (.dT []) :=
 ⟨dI _,beq_eq_false_iff_ne.mpr (gk (bW a)),[],.nil,_,#[],0,du _ rfl,⟨rfl,rfl,rfl⟩,rfl,rfl,ub⟩
def qY:TE:=fun _ H Q=>∀p,H p=none->Q (.ref p) (upd H p (.dK []))
def kY:TE:=fun _ H Q=>∀p,H p=none->Q (.ref p) (upd H p (.dT []))
section
variable{X:Cx}{pos:Pos}
theorem mE:PE X (.Dict [] [] pos) qY:=fun e s σ H Q I h =>
 wpAny_Dict_empty ⟨.ref s.heap.objs.size,_,I.laid (a:=s.heap.objs.size) (o:=.dK []) (t':=s.toks) (fun _ _ q=>bR _ q) (aB _) (HR s.heap I.big),rfl,h _ (I.hok.fresh (aB _))⟩
theorem iw:PE X (.Dict [] [] pos) kY:=fun e s σ H Q I h =>
 wpAny_Dict_empty ⟨.ref s.heap.objs.size,_,I.laid (a:=s.heap.objs.size) (o:=.dT []) (t':=s.toks) (fun _ _ q=>bR _ q) (aB _) (HP s.heap I.big),rfl,h _ (I.hok.fresh (aB _))⟩
end
def j6(kvs more:List (fG×V)):List (fG×V):=more.foldl (fun acc kv=>dh acc kv.1 kv.2) kvs
theorem KV.merge:∀{more:List (fG×V)}{g:List (fG×Value)}{a:List (fG×V)}{f:List (fG×Value)},KV more g->KV a f->KV (j6 a more) (merged f g):=by
 intro more g a f r;unfold KV at r
 induction r generalizing a f with
 |nil=>intro q;exact q
 |@cons p q k qs h t i =>
  intro j;have e:KV (dh a p.1 p.2) (stored f q.1 q.2):=by
   have:=j.put p.1 h.2;rw[<-h.1];exact this
  exact i e
theorem nQ:∀(more a:List (fG×V)),(j6 a more).length<=a.length+more.length
 |[],a=>by show a.length<=a.length+0;omega
 |p::r,a=>by
  have e:=nQ r (dh a p.1 p.2);have f:=eV a p.1 p.2;show(j6 (dh a p.1 p.2) r).length<=_;rw[fO];omega
structure M1(X:Cx)(o:Expr)(m:Str)(J5:Pos)(e:Expr)(J4:Pos):Prop where
 base:wB o m X.env (eval o X.env)=eval o X.env
 few:((backTo J4 (aL [e] X.env)).all (fun x=>!x.1) && (o7 J4 (o6 [] X.env)).all (fun x=>x.1.isSome)
  && decide (([e]:List Expr).length+([]:List qI).length+(if([]:List qI).isEmpty then 0 else 1)<30))=true
 line:(J5.endLine==J4.line)=true
 trees:backTo J4 (aL [e] X.env)=[(false,eval e X.env)]
structure M2(X:Cx)(o:Expr)(m:Str)(J5:Pos)(e f:Expr)(J4:Pos):Prop where
 base:wB o m X.env (eval o X.env)=eval o X.env
 few:((backTo J4 (aL [e,f] X.env)).all (fun x=>!x.1) && (o7 J4 (o6 [] X.env)).all (fun x=>x.1.isSome)
  && decide (([e,f]:List Expr).length+([]:List qI).length+(if([]:List qI).isEmpty then 0 else 1)<30))=true
 line:(J5.endLine==J4.line)=true
 trees:backTo J4 (aL [e,f] X.env)=[(false,eval e X.env),(false,eval f X.env)]
def IsD(H:Hp)(a:Addr):Prop:=(∃kvs,Rd H a (.dK kvs))∨∃kvs,Rd H a (.dT kvs)
theorem HE{X:Cx}{l:Zd}{σ:St}{H:Hp}{s:Shared}{a:Addr}(I:Inv X l σ H s)(d:IsD H a):
  s.TypeIs (.ref a) "dict"/\(∀b,Value.ref a=.ref b->∃f,s.heap.get? b=some f/\f.dict=none)/\(a==iL)=false:=by
 rcases d with⟨h,e⟩|⟨h,e⟩
 ·obtain⟨_,i,m,_,g⟩:=qa I.hok e;refine⟨g.typeIs,fun b q=>?_,i⟩;cases q;obtain⟨f,_,_,j,k,_⟩:=g;exact⟨f,j,k.2.1⟩
 ·obtain⟨_,i,n,_,g⟩:=sk I.hok I.kIn e;refine⟨g.typeIs,fun b q=>?_,i⟩;cases q;obtain⟨f,_,_,j,k,_⟩:=g;exact⟨f,j,k.2.1⟩
section
variable{X:Cx}{J3:Zd}{σ:St}{H:Hp}{s:Shared}{a:Addr}{y d:V}{u r:Value}{o:Option V}{A:Around}{E:Zc}
theorem KI{Q:Zc}(v:A.units+16<cLine)(I:Inv X J3 σ H s)(g:nM X.K H a y o)(p:RelV y u)(h:∀q t,Inv X J3 σ H t->RelV (o.getD .non) q->Q q t):
  wpAny (model X.prog X.w) A (call (.builtin "dict.get") [.ref a,u]) Q E s:=by
 rcases g with⟨j,k,e,m,l⟩|⟨j,k,b,e,m,x,B,l⟩
 ·subst m;obtain⟨z,n,D,f,i⟩:=qa I.hok e;refine t_ qF i.typeIs yd (PySem.F.args_dict_get_2 _ _) (meets_dict_get (cD X.prog X.w) a (pW p) n) ⟨_,i.mapOf,h _ _ (I.tok _) ?_⟩;rw[l];exact(f.val k).getD rfl
 ·subst m;cases(show u=Value.ref b from p);obtain⟨z,n,C,f,i⟩:=sk I.hok I.kIn e;refine t_ qF i.typeIs yd (PySem.F.args_dict_get_2 _ _) (meetsH_dict_get (eR X.prog X.w) a b n) ⟨gl v,k,C,u5 I x B,i,h _ _ (I.tok _) ?_⟩;rw[l];exact(f.val k).getD rfl
theorem KH{Q:Zc}(x:A.units+16<cLine)(I:Inv X J3 σ H s)(g:nM X.K H a y o)(p:RelV y u)(q:RelV d r)(h:∀t v,Inv X J3 σ H v->RelV (o.getD d) t->Q t v):
  wpAny (model X.prog X.w) A (call (.builtin "dict.get") [.ref a,u,r]) Q E s:=by
 rcases g with⟨j,k,e,m,l⟩|⟨j,k,b,e,m,B,C,l⟩
 ·subst m;obtain⟨z,n,G,f,i⟩:=qa I.hok e;refine t_ qF i.typeIs yd (PySem.F.args_dict_get_3 _ _ _) (meets_dict_get_default (cD X.prog X.w) a (pW p) n r) ⟨_,i.mapOf,h _ _ (I.tok _) ?_⟩;rw[l];exact(f.val k).getD q
 ·subst m;cases(show u=Value.ref b from p);obtain⟨z,n,D,f,i⟩:=sk I.hok I.kIn e;refine t_ qF i.typeIs yd (PySem.F.args_dict_get_3 _ _ _) (meetsH_dict_get_default (eR X.prog X.w) a b n r) ⟨gl x,k,D,u5 I B C,i,h _ _ (I.tok _) ?_⟩;rw[l];exact(f.val k).getD q
end
def yW(K:Za)(td ty:TE):TE:=fun σ H Q=>td σ H fun x H1=>∃a,x=.ref a/\IsD H1 a/\ty σ H1 fun y H2=>∃o,nM K H2 a y o/\Q (o.getD .non) H2
def yV(K:Za)(td ty tx:TE):TE:=fun σ H Q=>td σ H fun x H1=>∃a,x=.ref a/\IsD H1 a/\ty σ H1 fun y H2=>tx σ H2 fun z H3=>∃o,nM K H3 a y o/\Q (o.getD z) H3
section
variable{X:Cx}{o e f:Expr}{J5 J4:Pos}{td ty tx:TE}
theorem pP(n:X.A.units+16<cLine)(p:PE X o td)(q:PE X e ty)(m:M1 X o "get" J5 e J4):PE X (.Call (.Attribute o "get" J5) [e] [] J4) (yW X.K td ty):=by
 intro k s σ H Q I h;refine wpAny_Call_method m.base m.few m.line PySem.F.plainAttrs_dict qF PySem.F.type_dict_get (cH (p k s σ H _ I h) fun u r i=>?_);obtain⟨x,t,l,v,a,ex,d,w⟩:=i;subst ex;obtain rfl:u=Value.ref a:=v;obtain⟨z,B,_⟩:=HE l d;refine⟨z,B,?_⟩;rw[m.trees];refine yg rfl (Calls.evalArgs_plain (wA (cH (q k r σ t _ l w) fun L M ⟨y,C,D,E,N,g,G⟩=>Af ?_)));exact KI n D g E fun O T J j=>⟨_,C,J,j,G⟩
theorem uP(n:X.A.units+16<cLine)(p:PE X o td)(q:PE X e ty)(r:PE X f tx)(m:M2 X o "get" J5 e f J4):PE X (.Call (.Attribute o "get" J5) [e,f] [] J4) (yV X.K td ty tx):=by
 intro i s σ H Q I h;refine wpAny_Call_method m.base m.few m.line PySem.F.plainAttrs_dict qF PySem.F.type_dict_get (cH (p i s σ H _ I h) fun u t j=>?_);obtain⟨x,v,l,w,a,ex,d,B⟩:=j;subst ex;obtain rfl:u=Value.ref a:=w;obtain⟨C,D,_⟩:=HE l d;refine⟨C,D,?_⟩;rw[m.trees];refine yg rfl (Calls.evalArgs_plain (wA (cH (q i t σ v _ l B) fun iv E ⟨y,G,J,L,M⟩ =>
  wA (cH (r i E σ G _ J M) fun fv s3 ⟨z,N,O,T,ov,g,U⟩=>Af ?_))))
 exact KH n O g L T fun w' s4 Y k=>⟨_,N,Y,k,U⟩
end
end L2
namespace Att
open PySem PySem.W PySem.Calls PyProof.Rows
theorem ints_of_wellAll{P:Params}{h:Heap}:∀(e:List Int) (vs:Zf),WellAll P h vs (e.map WData.int)->t9 vs e:=by
 intro e
 induction e with
 |nil =>
  intro vs w;rw[yb]at w;cases w;exact .nil
 |cons n e f =>
  intro vs w;rw[bF]at w;cases w with
  |cons a b =>
   cases a;exact .cons _ _ (f _ b)
theorem script_of{l:OpenLaw}{n:Nat}(u:l.most=some n){P:Params}{h:Heap}{args:List WData}{f:Zf}
  (g:l.row.toRowW.claim.pre args=true) (o:WellAll P h f args) :
  ∃a s e,f=[Value.ref a]/\args=[WData.list (e.map WData.int)]/\h.get? a=some { cls:=.type "list",data:=.seq s.toArray }/\t9 s e/\e.length<=n:=by
 have p:WShape.hasAll [] args [.list .int]=true:=(pre_splitW g).1;have t:l.pre.holds [] { args:=args }=true:=(pre_splitW g).2;obtain⟨d,r,rfl,v,w⟩:=hasAllW_cons p;obtain rfl:=hasAllW_nil w;obtain⟨C,rfl,x⟩:=hasW_list v;obtain⟨e,rfl⟩:=items_int x;have i:e.length<=n:=by
  unfold OpenLaw.pre at t;have k:(WTm.not (.lt (.lit (.int (n:Int))) (.len (.arg 0)))).holds [] { args:=[.list (e.map .int)] }=true:=by
   have k:=(holds_andW t).1;rw[u]at k;exact k
  have m:=condW_of k (w_not (w_lt w_lit (w_len_list (w_arg rfl))));rw[ah]at m;refine Nat.le_of_not_lt fun q=>?_;have y:(n:Int)<((e.length:Nat):Int):=by omega
  first
   | (rw[zzr1 y]at m;exact absurd m (by decide))
   | (simp at m;omega)
 cases o with
 |cons z A =>
  cases A;cases z with
  |list B j=>exact⟨_,_,e,rfl,rfl,B,ints_of_wellAll e _ j,i⟩
theorem post_true(l:OpenLaw)(args:List WData):l.row.toRowW.claim.post args (.bool true) args=true :=
 postW_of (r:=l.row.toRowW) (X:=(true==true))
  (show WShape.has [] (.bool true) .bool=true by first|rfl|decide|simp[WShape.has,WShape.arms,WShape.armsAll])
  (show(WTm.eq .res (.lit (.bool true))).value [] { args:=args,res:=some (.bool true),after:=args }=some (.bool (true==true))from w_eq_bool (w_res rfl) w_lit) rfl
theorem attach_call{l:OpenLaw}{n:Nat}{q:b9}{loose:Zb}{C:(Str->Option Value)->Heap->Prop}{D:World->Heap->Prop}{d:DefRec}
  (J:l.most=some n) (v:d.params.defaults=[])
  (call:∀(w:World) (g e:Shared) (p x:Str->Option Value) (i:Addr) (o:Obj) (y s doc:Value) (a:Addr) (h:Zf) (t:List Int),
   Ground q loose [] C w g p x e.heap->D w e.heap ->
   e.heap.get? i=some o->o.data=.func (docDef d.name d.params d.body d.scope y s doc)->e.heap.CodeRec s d.name->p d.name=some (.ref i) ->
   e.heap.get? a=some { cls:=.type "list",data:=.seq h.toArray }->t9 h t->t.length<=n->e.gens=#[] ->
   zzl79 (model l.prog w) mm (.call (.ref i) ⟨[.ref a],[]⟩) (fun r u=>r=.ok (.ret (.bool true))/\OldK e.heap u.heap/\u.os=e.os/\o_ u.gens) e) :
  WalkO q loose C D l.row.toRowW d [] (fun f h=>PySem.call f h):=by
 intro w g e p x G Y i o y s doc L kV M N z E A O args H as j I Q B T;obtain rfl:L=.none:=Dflts.none E v;obtain rfl:kV=.none:=Dflts.noKw E;obtain⟨a,h,t,rfl,rfl,k,hints,m⟩:=script_of J j B;refine enter_call (DB (call w g e p x i o y s doc a h t G Y M (fd_plain N) z A k hints m O) fun r u U=>?_);obtain⟨rfl,h2,h3,h4⟩:=U;exact⟨.inl ⟨.bool true,.bool true,[],rfl,fun _=>rfl,.bool true,post_true l _,fun _=>⟨List.Pairwise.nil,fun _ hm=>(nomatch hm)⟩⟩,h2,h3,h4⟩
end Att
namespace L2
open PySem PySem.Spec PyProof.Rows
theorem wH:∀{a:Zf}{e:List Int},t9 a e->ba (e.map V.int) a
 |_,_,.nil=>.nil
 |_,_,.cons n t h=>.cons ⟨t,rfl⟩ (wH h)
def JI(H:Hp):Prop:=∀b,H b=none∨∃o xs,H b=some (.frz o (.lst xs))
theorem HA{P:b9}{w:World}{K:Za}{A Q:Str->Option Value}{CX:Gm}{k:Nat}{T a:Addr}{fd:lR}{x:Str}{sp:Sp}{f:Shared}{t:Zf}{B:List Int}
  (KX:K.In f.heap) (C:f.heap.Ns bV A) (i:f.heap.Ns builtinsNs Q) (U:∀x:Str,x≠"__name__"->Q x=i0 x) (D:f.heap.NoLimit) (hg:f.gens=#[])
  (O:f.heap.get? a=some { cls:=.type "list",data:=.seq t.toArray }) (hi:t9 t B) (hl:B.length<=aj) (hr:fF k mm)
  (F:∀base:Heap,K.In base->base.Ns bV A->mQ P w K A base CX k T fd [x] sp) (y:∀(s:Shared) (u:Value),tL s fd ⟨[u],[]⟩ [(x,u)])
  (Y:∀H:Hp,JI H->aw K H a (B.map V.int)->sp [.ref a] H (fun v _=>v=.bl true) fun _ _ _=>False)
  (al:∀H e j,CX [] H f (fun _ _ _=>False) e j->False) :
  zzl79 (model P w) mm (.call (.ref T) ⟨[.ref a],[]⟩) (fun r j=>r=.ok (.ret (.bool true))/\OldK f.heap j.heap/\j.os=f.os/\o_ j.gens) f:=by
 have rv:=wH hi;have E:=hi.length;have p:∀H:Hp,JI H->aw K H a (B.map V.int)->nu P w K H f.heap->(∀b,H b≠none->b=a)->(H a≠none->K.lookup a=none) ->
   zzl79 (model P w) mm (.call (.ref T) ⟨[.ref a],[]⟩) (fun r j=>r=.ok (.ret (.bool true))/\OldK f.heap j.heap/\j.os=f.os/\o_ j.gens) f:=by
  intro H hO hS G hA hK;have g:∀{b:Addr}{o:Obj},f.heap.get? b=some o->H b=none->(zH f.heap H).get? b=some o:=fun e n=>HH e n;have an:∀{b:Addr}{o:Obj}{es:Array ml}{I:Nat},f.heap.get? b=some o->o.data=.dict es I->H b=none:=fun{b o es I} e d=>by
   cases q:H b with
   |none=>rfl
   |some u =>
    have e':b=a:=hA b (by rw[q];simp);subst e';rw[O]at e;cases e;have d':Data.seq t.toArray _=Data.dict es I:=d;cases d'
  have l:∀{b:Addr}{m:Str->Option Value},f.heap.Ns b m->(zH f.heap H).Ns b m:=fun{b m} ⟨o,es,I,e,d,r⟩=>⟨o,es,I,g e (an e d),d,r⟩;have J:K.In (zH f.heap H):=fun b o e=>g (KX b o e) (by
   cases q:H b with
   |none=>rfl
   |some u =>
    have e':b=a:=hA b (by rw[q];simp);subst e';rw[hK (by rw[q];simp)]at e;cases e)
  have hM:Mod K A (zH f.heap H):=⟨J,l C,⟨Q,l i,U⟩,let⟨mc,h1,h2⟩:=D;⟨mc,l h1,h2⟩⟩;have e0:Dx P w K A (zH f.heap H) mm [] f H:=⟨rfl,hM,fun b o e=>Jl e,Nat.le_of_eq (FH _ _),trivial,fun b i=>absurd (show b∈([]:Ze)from i) (by simp),G,.of_eq hg⟩;refine DB ((F _ J (l C)).run mm [] f H ⟨[.ref a],[]⟩ [.ref a] [.ref a] _ _ hr e0 (y f (.ref a)) (.cons rfl .nil) (Y H hO hS)) fun r j h=>?_;cases r with
  |error e=>exact(al H e j h).elim
  |ok fl =>
   cases fl with
   |next=>exact kf h
   |brk=>exact kf h
   |cont=>exact kf h
   |ret u =>
    obtain⟨v,H',os,L,un,M,r',q⟩:=h;have q':v=.bl true:=q;subst q';obtain rfl:u=Value.bool true:=r';refine⟨rfl,OldK.of_keep fun b o e=>?_,os,L⟩;cases q:H b with
    |none=>exact un.keep b o e q (by intro z;exact absurd (show b∈([]:Ze)from z) (by simp)) (by simp)
    |some u =>
     rcases hO b with z|⟨ob,xs,z⟩
     ·rw[q]at z;cases z
     ·have z2:=un.frzs b ob _ z;obtain⟨e1,_⟩:=G b _ z;obtain⟨e2,_⟩:=M b _ z2;rw[e]at e1;cases e1;exact e2
 cases hk:K.lookup a with
 |some o =>
  have e:=KX a o hk;rw[O]at e;cases e;refine p (fun _=>none) (fun _=>.inl rfl) (.inr ⟨_,t.toArray,_,hk,rfl,rfl,rfl,by rw[bG,E];exact hl,by simpa using rv⟩) (fun b u z=>by have N:(none:Option HO)=some u:=z;cases N) (fun b z=>absurd rfl z) fun z=>absurd rfl z
 |none =>
  refine p (fun b=>if b=a then some (.frz { cls:=.type "list",data:=.seq t.toArray } (.lst (B.map V.int)))else none) (fun b=>?_) (.inl (.inr ⟨{ cls:=.type "list",data:=.seq t.toArray },if_pos rfl⟩)) (fun b u z=>?_) (fun b z=>?_) fun _=>hk
  ·by_cases i:b=a
   ·exact .inr ⟨_,_,if_pos i⟩
   ·exact .inl (if_neg i)
  ·by_cases i:b=a
   ·have N:=(if_pos i).symm.trans z;cases N;subst i;exact⟨O,by rw[ah];exact hl,t,_,rv,O⟩
   ·have N:=(if_neg i).symm.trans z;cases N
  ·by_cases i:b=a
   ·exact i
   ·exact absurd (if_neg i) z
end L2
namespace L2
open PySem PySem.Spec PyProof.Rows
theorem Iy{l:PySem.W.OpenLaw}{n k:Nat}{q:b9}{loose:Zb}{N:(Str->Option Value)->Heap->Prop}{I:World->Heap->Prop}{d:DefRec}{K:Params->Za}{CX:World->Gm}{sp:World->Sp}{x:Str}
  (O:l.most=some n) (y:n<=aj) (z:d.params.defaults=[]) (Q:fF k mm)
  (U:∀(w:World) (h:Heap),I w h->(K w.params).In h)
  (F:∀(w:World) (j:Str->Option Value) (r:Addr) (h:Heap),(K w.params).In h->h.Ns bV j->j d.name=some (.ref r) ->
   ∃A:lR,(∀(s:Shared) (u:Value),tL s A ⟨[u],[]⟩ [(x,u)]) /\
    ∀base:Heap,(K w.params).In base->base.Ns bV j->mQ l.prog w (K w.params) j base (CX w) k r A [x] (sp w))
  (B:∀(w:World) (H:Hp) (a:Addr) (t:List Int),t.length<=n->JI H->aw (K w.params) H a (t.map V.int)->sp w [.ref a] H (fun v _=>v=.bl true) fun _ _ _=>False)
  (C:∀(w:World) (H:Hp) (s:Shared) (e:Value) (D:Shared),CX w [] H s (fun _ _ _=>False) e D->False) :
  PySem.W.WalkO q loose N I l.row.toRowW d [] (fun f J=>PySem.call f J):=by
 refine Att.attach_call O z fun w L m j mb r o pm cd doc a J t G Y ho hd al E p hints i hg=>?_;have M:=U w _ Y;obtain⟨A,hb,hF⟩:=F w j r _ M G.T.g E;exact HA M G.T.g G.T.b G.T.builtins G.T.nolimit hg p hints (aE i y) Q hF hb (fun H hO hS=>B w H a t i hO hS) fun H e D=>C w H m e D
theorem walk_ofK{l:PySem.W.OpenLaw}{n k:Nat}{q:b9}{loose:Zb}{A:(Str->Option Value)->Heap->Prop}{t:World->Heap->Prop}{d:DefRec}{K:Params->Za}{CX:Gm}{sp:Za->Sp}{x:Str}
  (B:l.most=some n) (j:n<=aj) (m:d.params.defaults=[]) (C:fF k mm)
  (D:∀(w:World) (h:Heap),t w h->(K w.params).In h)
  (F:∀(w:World) (g:Str->Option Value) (y:Addr) (h:Heap),(K w.params).In h->h.Ns bV g->g d.name=some (.ref y) ->
   ∃z:lR,(∀(s:Shared) (u:Value),tL s z ⟨[u],[]⟩ [(x,u)]) /\
    ∀base:Heap,(K w.params).In base->base.Ns bV g->mQ l.prog w (K w.params) g base CX k y z [x] (sp (K w.params)))
  (o:∀(K:Za) (H:Hp) (a:Addr) (i:List Int),i.length<=n->JI H->aw K H a (i.map V.int)->sp K [.ref a] H (fun v _=>v=.bl true) fun _ _ _=>False)
  (p:∀(H:Hp) (s:Shared) (e:Value) (r:Shared),CX [] H s (fun _ _ _=>False) e r->False) :
  PySem.W.WalkO q loose A t l.row.toRowW d [] (fun f E=>PySem.call f E) :=
 Iy (K:=K) (CX:=fun _=>CX) (sp:=fun w=>sp (K w.params)) B j m C D F (fun w H a i G I J=>o (K w.params) H a i G I J) fun _ H s e r=>p H s e r
end L2
namespace L2
open PySem PySem.Spec PyProof.Rows
def cR(s:Stmt)(j:Nat):Stmt:=match s with
 |.ClassDef _ _ _ body _ _ _ _ _ _ _=>body.getD j (.Pass ⟨0,0,0,0⟩)
 |_=>.Pass ⟨0,0,0,0⟩
def iT(s:Stmt):Arguments:=match s with
 |.FunctionDef _ a _ _ _ _ _ _ _ _=>a
 |_=>{ posonlyargs:=[],args:=[],vararg:=none,kwonlyargs:=[],kw_defaults:=[],kwarg:=none,defaults:=[] }
def gP(s:Stmt):List Stmt:=match s with
 |.FunctionDef _ _ b _ _ _ _ _ _ _=>b
 |_=>[]
def cq(s:Stmt):Scope:=match s with
 |.FunctionDef _ _ _ _ _ _ sc _ _ _=>sc
 |_=>{ kind:=.function,names:=[],isGenerator:=false,isCoroutine:=false }
abbrev CX0:Gm:=fun _ _ _ _ _ _=>False
abbrev E0:XK:=fun _ _ _=>False
abbrev aK(sp:Sp)(a:TA):TE:=JP sp [] E0 a
theorem Eh{X:Cx}:oP CX0 X E0:=fun _ _ _ _ _ _ _ h=>h.elim
structure K4(K:Za)(x qual:Str)(st:Stmt)(f:Addr)(fd:lR):Prop where
 ex:∃(oc:Value) (od:Option Addr) (kV doc pm:Value) (an:Option Addr) (cdv ct:Value) (osl:Array (Option Value)),
  fd=i_ x qual (iT st) (gP st) (cq st) .none kV doc pm an cdv ct/\K.lookup f=some ⟨oc,od,.func fd,osl⟩/\oj K cdv qual=true
 kp:gw K (.ref f)=true
section
variable{P:b9}{w:World}{K:Za}{mg:Str->Option Value}{base:Heap}
theorem K4.ok{x a:Str}{st:Stmt}{f:Addr}{p:lR}{N j:Zb}{k:Nat}{l:Sp}(F:K4 K x a st f p)(S:lF N j (cq st))(m:∀g H Q E,l g H Q E->g.length=j.length)
  (i:∀(e:Value) (A:Around) (outer:List Env) (s:Shared) (H:Hp) (g:List V) (Q:VK) (E:XK),fF k (A.deeper (envOfC a (cq st) s.heap.objs.size f e))->l g H Q E ->
   ∃t,BM (Dd CX0 P w K mg base N a (cq st) f e A outer s H E).nox (gP st) t/\t (bj Q) (start N g) H):mQ P w K mg base CX0 (k+1) f p j l:=by
 obtain⟨v,y,kV,doc,z,B,e,C,r,rfl,lk,n⟩:=F.ex;refine Lm lk n S m fun A outer s H g Q E u o=>?_;obtain⟨t,h,q⟩:=i e A outer s H g Q E u o;exact⟨t,h.nox,q⟩
theorem K4.binds{x a:Str}{st:Stmt}{f:Addr}{l:lR}{ps:Zb}(F:K4 K x a st f l)
  (h:∀(kV doc g:Value) (i:Option Addr) (e j:Value) (k:Zf),k.length=ps.length->bindArgs (i_ x a (iT st) (gP st) (cq st) .none kV doc g i e j) ⟨k,[]⟩=pure (ps.zip k)):Binds K l ps []:=by
 obtain⟨o,p,kV,doc,g,i,e,j,m,rfl,lk,n⟩:=F.ex;exact .all (h kV doc g i e j)
theorem HK{x a:Str}{st:Stmt}{f:Addr}{m:Value}{n h:Option Addr}{g:Array (Option Value)}{kV doc i e j:Value}(l:K.lookup f=some ⟨m,n,.func (i_ x a (iT st) (gP st) (cq st) .none kV doc i h e j),g⟩)
  (c:oj K e a=true) (k:gw K (.ref f)=true):K4 K x a st f (i_ x a (iT st) (gP st) (cq st) .none kV doc i h e j):=⟨⟨m,n,kV,doc,i,h,e,j,g,rfl,l,c⟩,k⟩
end
theorem Et{A:Around}{k:Nat}(a:fF k A):A.units+16<cLine:=qE (Nat.add_le_add_left (by decide:16<=64) _) a.units
theorem ao{n:Nat}(h:n<=1000):n<aj:=qE h (by decide)
section
variable{X:Cx}
theorem pv(i:Nat){x:Str}{a:Pos}(f:X.N[i]?=some x:=by rfl)(g:LK X.env.scope x:=by first|exact Or.inl rfl|exact Or.inr (Or.inl rfl)|exact Or.inr (Or.inr rfl))(h:(x==("__debug__":Str))=false:=by decide)
  (e:(x==("__classdict__":Str))=false:=by decide):PE X (.Name x a) (oA i):=Kx f g h e
end
theorem bA{A B:Prop}(h:B):if false=true then A else B:=by
 rw[if_neg iP];exact h
theorem bP{A B:Prop}(h:A):if true=true then A else B:=by
 rw[if_pos rfl];exact h
theorem iS{c A B:Prop}[Decidable c](a:c->A)(e:¬c->B):if c then A else B:=by
 by_cases h:c
 ·rw[if_pos h];exact a h
 ·rw[if_neg h];exact e h
def ab(H H':Hp):Prop:=∀b o,H b=some o->H' b=some o
theorem ab.refl(H:Hp):ab H H:=fun _ _ h=>h
theorem ab.trans{H e f:Hp}(a:ab H e)(b:ab e f):ab H f:=fun c o h=>b c o (a c o h)
theorem ab.free{H a:Hp}(e:ab H a){l:Addr}(h:a l=Option.none):H l=Option.none:=by
 cases q:H l with
 |none=>rfl
 |some o =>
  rw[e l o q]at h;cases h
theorem ab.seq{K:Za}{H f:Hp}{a:Addr}{g:List V}(e:ab H f)(h:aw K H a g):aw K f a g:=by
 rcases h with(h|⟨o,h⟩)|h
 ·exact .inl (.inl (e _ _ h))
 ·exact .inl (.inr ⟨o,e _ _ h⟩)
 ·exact .inr h
section
variable{prog:b9}{w:World}{A:Around}{R:Result->Shared->Prop}{s:Shared}
abbrev XF:Value->Shared->Prop:=fun _ _=>False
abbrev C4(ifs:List Expr)(env:Env):Sem Bool:=forIn ifs true fun c r=>if r=true then do let ok <- isTrue c env (eval c env);pure (ya ok)else pure (ya r)
theorem zM{t target j:Expr}{u:List Expr}{scope:Scope}{B:Pos}{it y:Value}{a:Env}(I:Nat->Shared->Prop)
  (turn:∀n s,I n s->wpAny (model prog w) A (pyNext it) (fun r e=>match r with
   |none=>R (.ok .next) e
   |some v=>wpAny (model prog w) A (DH target it v) (fun _ f=>wpAny (model prog w) A (assign target a v) (fun _ k =>
     wpAny (model prog w) A (C4 u a) (fun ok g =>
      if ok=true then wpAny (model prog w) A (eval t a) (fun x l =>
       wpAny (model prog w) A (call (.builtin "list.append") [y,x]) (fun _ o=>∃m,m<n/\I m o) XF l) XF g
      else ∃m,m<n/\I m g) XF k) XF f) XF e) XF s)
  (n:Nat) (h:I n s):zzl79 (model prog w) A (.compLoop (.ListComp t [⟨target,j,u,0⟩] scope B) 0 it y a) R s:=by
 refine codeAny_loop rfl I (fun n s G=>?_) n h;show wpAny _ A ((compTurn (.ListComp t [⟨target,j,u,0⟩] scope B) 0 it y a).onRaise (fun x=>do noteFrame x a;theTreesLotGoes x)) _ _ s
 refine wpAny_noted ?_;rw[compTurn_list];refine ar (wpAny_standAt (ar (pb (turn n s G) (fun r e p=>?_) fun _ _ i=>i.elim)));cases r with
 |none=>exact aT p
 |some v =>
  refine ar (pb p (fun _ f z=>?_) fun _ _ i=>i.elim);refine ar (pb z (fun _ k C=>ar (pb C (fun ok g q=>?_) fun _ _ i=>i.elim)) fun _ _ i=>i.elim);cases ok with
  |false=>exact aT ⟨rfl,q⟩
  |true =>
   exact ar (ar (pb q (fun x l D=>ar (pb D (fun _ o E=>aT (aT ⟨rfl,E⟩)) fun _ _ i=>i.elim)) fun _ _ i=>i.elim))
end
theorem oM{env:Env}:∀(names:List (Str×gX)) (a:List (Str×Addr)),(∀y∈names,y.2=.free->∃c,env.cells.lookup y.1=some c)->(∀x c,a.lookup x=some c->env.cells.lookup x=some c) ->
  ∃f:List (Str×Addr),(forIn names a fun(x:Str×gX) (r:List (Str×Addr))=>if(x.2==mj)=true then(cellOf env x.1 >>= fun c=>(pure (ya ((x.1,c)::r)):Sem (ForInStep (List (Str×Addr)))))else pure (ya r))=pure f /\
   (∀x c,f.lookup x=some c->env.cells.lookup x=some c)/\(∀x,(a.lookup x).isSome=true->(f.lookup x).isSome=true)/\∀y∈names,y.2=.free->(f.lookup y.1).isSome=true
 |[],a,_,p=>⟨a,rfl,p,fun _ h=>h,fun _ h=>nomatch h⟩
 | (n,k)::r,a,m,p=>by
  have w:∀y∈r,y.2=.free->∃c,env.cells.lookup y.1=some c:=fun y hy=>m y (c7 _ hy);by_cases t:k=.free
  ·subst t;obtain⟨c,z⟩:=m (n,.free) cU rfl;obtain⟨f,e,u,q,v⟩:=oM r ((n,c)::a) w (fun x d o=>by
    rw[i9]at o;cases g:x==n with
    |true =>
     rw[g]at o;have:x=n:=by simpa using g
     subst this;cases o;exact z
    |false=>rw[g]at o;exact p x d o)
   have i:(((n,c)::a).lookup n).isSome=true:=by rw[i9,beq_self_eq_true];rfl
   have j:∀x,(a.lookup x).isSome=true->(((n,c)::a).lookup x).isSome=true:=fun x g=>by
    rw[i9];cases x==n with
    |true=>rfl
    |false=>exact g
   refine⟨f,?_,u,fun x g=>q x (j x g),fun y hy s=>?_⟩
   ·rw[t6];have l:cellOf env n=pure c:=by unfold cellOf;rw[z]
    simp only[beq_self_eq_true,if_true,l];exact e
   ·rcases cC.mp hy with rfl|hy
    ·exact q _ i
    ·exact v y hy s
  ·obtain⟨f,e,u,q,v⟩:=oM r a w p;refine⟨f,?_,u,q,fun y hy s=>?_⟩
   ·rw[t6];have A:(k==mj)=false:=by simpa using t
    simp only[A,kh,if_false];exact e
   ·rcases cC.mp hy with rfl|hy
    ·exact absurd s t
    ·exact v y hy s
theorem vn{env:Env}{scope:Scope}(f:∀y∈scope.names,y.2=.free->∃c,env.cells.lookup y.1=some c):
  ∃a:List (Str×Addr),closureFor scope env=pure a/\(∀x c,a.lookup x=some c->env.cells.lookup x=some c)/\∀y∈scope.names,y.2=.free->(a.lookup y.1).isSome=true:=by
 obtain⟨a,e,g,_,i⟩:=oM (env:=env) scope.names [] f (fun _ _ h=>nomatch h);refine⟨a,?_,g,i⟩;unfold closureFor
 first
  |exact e
  | (simp only[bind_pure];exact e)
  | (rw[show(forIn scope.names [] _:Sem (List (Str×Addr)))=pure a from e];rfl)
def dY(X:Cx)(N:Zb)(scope:Scope)(C:Addr)(cl:List (Str×Addr))(s₀:Shared)(H₀:Hp)(ex:Ze)(pn:Zd):Cx where
 prog:=X.prog
 w:=X.w
 K:=X.K
 mg:=X.mg
 base:=X.base
 A:=X.A
 N:=N
 s₀:=s₀
 H₀:=H₀
 env:=compEnvC scope cl C X.env
 outer:=X.stack
 stack:=X.stack
 ex:=ex
 fn:=fun _=>false
 calm:=X.calm
 pn:=pn
 xe:=XF
def nr(sc scope:Scope)(k:Nat)(N XN:Zb)(fi:List Nat):Bool :=
 decide (scope.kind=.function) &&
 (scope.names.all fun y=>decide (y.2≠.cell) && (decide (y.2≠.local) || decide (scope.names.lookup y.1=some .local)) && (decide (y.2≠.free) || decide (sc.names.lookup y.1=some .cell) || decide (sc.names.lookup y.1=some .free))) &&
 decide (N.length=k+fi.length) &&
 ((lU fi.length).all fun j=>match fi[j]? with
  |some i=>match N[k+j]?,XN[i]? with
   |some x,some y=>decide (x=y) && decide (scope.names.lookup x=some .free)
   |_,_=>false
  |none=>false)
structure oZ(sc scope:Scope)(k:Nat)(N XN:Zb)(fi:List Nat):Prop where
 kind:scope.kind=.function
 cell:∀y∈scope.names,y.2≠.cell
 nm:∀y∈scope.names,y.2=.local->scope.names.lookup y.1=some .local
 fr:∀y∈scope.names,y.2=.free->sc.names.lookup y.1=some .cell∨sc.names.lookup y.1=some .free
 len:N.length=k+fi.length
 sl:∀j i,fi[j]?=some i->∃x,N[k+j]?=some x/\XN[i]?=some x/\scope.names.lookup x=some .free
theorem oZ.of{sc scope:Scope}{k:Nat}{N g:Zb}{l:List Nat}(h:nr sc scope k N g l=true):oZ sc scope k N g l:=by
 unfold nr at h;simp only[x_,List.all_eq_true,Bool.or_eq_true,decide_eq_true_eq]at h;obtain⟨⟨⟨n,m⟩,o⟩,p⟩:=h;refine⟨n,fun y f=>(m y f).1.1,fun y f e=>((m y f).1.2).resolve_left fun z=>z e,fun y f e=>?_,o,fun j i e=>?_⟩
 ·rcases(m y f).2 with(z|z)|z
  ·exact absurd e z
  ·exact .inl z
  ·exact .inr z
 ·have r:j<l.length:=(bM.mp e).1;have q:=p j (List.mem_range.mpr r);rw[e]at q;dsimp only at q;cases a:N[k+j]? with
  |none=>rw[a]at q;cases q
  |some x =>
   cases b:g[i]? with
   |none=>rw[a,b]at q;cases q
   |some y =>
    rw[a,b]at q;simp only[x_,decide_eq_true_eq]at q;exact⟨x,rfl,by rw[q.1],q.2⟩
theorem iN{a:Env}:∀{names:List (Str×gX)}{x:Str},names.lookup x=some .free ->
  (names.map fun(n,k)=>if(k==mj && a.scope.kind==.function && a.kindOf n==some .cell)then(n,gX.cell)else(n,k)).lookup x=some .cell ∨
  (names.map fun(n,k)=>if(k==mj && a.scope.kind==.function && a.kindOf n==some .cell)then(n,gX.cell)else(n,k)).lookup x=some .free
 |[],_,h=>by simp at h
 | (n,k)::r,x,h=>by
  have g:=@iN a r x;simp only[bF];cases e:x==n with
  |true =>
   simp only[i9,e]at h;cases h;by_cases f:(mj==mj && a.scope.kind==.function && a.kindOf n==some .cell)=true
   ·left;rw[if_pos f];simp[i9,e]
   ·right;rw[if_neg f];simp[i9,e]
  |false =>
   simp only[i9,e]at h;by_cases f:(k==mj && a.scope.kind==.function && a.kindOf n==some .cell)=true
   ·rw[if_pos f];simp only[i9,e];exact g h
   ·rw[if_neg f];simp only[i9,e];exact g h
def dE(k:Nat)(fi:List Nat)(σ:St):St:=List.replicate k none++fi.map fun i=>(σ[i]?).join
theorem Dh(k:Nat)(a:List Nat)(σ:St):(dE k a σ).length=k+a.length:=by simp[dE]
theorem vm{k:Nat}{f:List Nat}{σ:St}{i:Nat}{v:V}(h:(dE k f σ)[i]?=some (some v)):∃j t,i=k+j/\f[j]?=some t/\σ[t]?=some (some v):=by
 unfold dE at h;by_cases g:i<k
 ·rw[uh (by simpa using g),List.getElem?_replicate_of_lt g]at h;cases h
 ·rw[List.getElem?_append_right (by simp;omega),List.length_replicate,cF]at h;refine⟨i-k,?_⟩;cases e:f[i-k]? with
  |none=>rw[e]at h;cases h
  |some t =>
   rw[e]at h;simp only[uc]at h;refine⟨t,by omega,rfl,?_⟩;have a:=fJ h;cases l:σ[t]? with
   |none=>rw[l]at a;cases a
   |some o=>rw[l]at a;simp only[Option.join]at a;first|(rw[a])|(subst a;rfl)|(simpa using a)
def By(k:Nat)(g:TG):Prop:=∀x σ H Q,g x σ H Q->g x σ H fun σ2 H2=>Q σ2 H2/\σ2.length=σ.length/\∀i,k<=i->σ2[i]?=σ[i]?
def EJ(k:Nat)(g:Gk):Prop:=∀x σ H Q,g x σ H Q->g x σ H fun σ2 H2=>Q σ2 H2/\σ2.length=σ.length/\∀i,k<=i->σ2[i]?=σ[i]?
theorem aS{k i:Nat}(h:i<k):By k (eL i):=fun x σ H Q q=>⟨q,by simp,fun j a=>by rw[List.getElem?_set_ne (by omega)]⟩
theorem uQ{k:Nat}:EJ k jr:=fun x σ H Q ⟨e,q⟩=>⟨e,q,rfl,fun _ _=>rfl⟩
def Ik(g:TG):Prop:=∀x σ H Q Q',(∀σ2 H2,Q σ2 H2->Q' σ2 H2)->g x σ H Q->g x σ H Q'
def Aa(g:Gk):Prop:=∀x σ H Q Q',(∀σ2 H2,Q σ2 H2->Q' σ2 H2)->g x σ H Q->g x σ H Q'
theorem de{i:Nat}:Ik (eL i):=fun _ _ _ _ _ f q=>f _ _ q
theorem hC:Aa jr:=fun _ _ _ _ _ f ⟨e,q⟩=>⟨e,f _ _ q⟩
theorem jn{g:TG}{u:Gk}(a:Ik g)(h:Aa u):Aa (bt g u):=fun _ _ _ _ _ f ⟨v,r,e,q⟩=>⟨v,r,e,a _ _ _ _ _ (fun _ _ q=>h _ _ _ _ _ f q) q⟩
theorem g9{k:Nat}{g:TG}{u:Gk}(f:By k g)(h:Ik g)(j:EJ k u)(m:Aa u):EJ k (bt g u):=fun x σ H Q ⟨v,r,e,q⟩ =>
 ⟨v,r,e,h _ _ _ _ _ (fun σ2 t ⟨q,l,s⟩=>m _ _ _ _ _ (fun σ3 w ⟨n,o,p⟩=>⟨n,o.trans l,fun i a=>(p i a).trans (s i a)⟩) (j _ _ _ _ q)) (f _ _ _ _ q)⟩
theorem ze{K:Za}{k n:Nat}{t:Gk}(h:EJ k t):By k (jw K n t):=fun x σ H Q ⟨a,f,e,g,i,q⟩=>⟨a,f,e,g,i,h _ _ _ _ q⟩
def Kf(X:Cx)(ifs:List Expr)(t:TT):Prop :=
 ∀(J3:Zd) (s:Shared) (σ:St) (H:Hp) (Q:Bool->Hp->Prop),Inv X J3 σ H s->t σ H Q->wpAny (model X.prog X.w) X.A (C4 ifs X.env) (TP X J3 σ Q) X.xe s
def iH:TT:=fun _ H Q=>Q true H
theorem cj{X:Cx}:Kf X [] iH:=fun a s σ H Q I h=>aT ⟨H,I,h⟩
theorem gJ{X:Cx}{c:Expr}{t:TT}(h:PT X c t):Kf X [c] t:=by
 intro a s σ H Q I e;unfold C4;rw[t6];simp only[if_true];refine ar (ar (cH (h a s σ H Q I e) fun b f q=>aT ?_));exact aT q
def cG(k:Nat)(fi:List Nat)(wi:TI)(g:TG)(tc:TT)(te:TE):TE:=fun σ H Q=>wi σ H fun J H1=>∀l,H1 l=none->∃W:Nat->Nat->List V->Hp->Prop,(∃m,W 0 m [] (upd H1 l (.lst [])))/\∀i m vs H2,W i m vs H2->H2 l=some (.lst vs) /\
 ((J.stop i H2/\Q (.ref l) H2)∨(J.go i H2/\∀x H3,J.yld i H2 x H3->g x (dE k fi σ) H3 fun σ2 H4=>tc σ2 H4 fun b H5 =>
  if b=true then te σ2 H5 fun v H6=>H6 l=some (.lst vs)/\vs.length<aj/\∃m',m'<m/\W (i+1) m' (vs++[v]) (upd H6 l (.lst (vs++[v])))else ∃m',m'<m/\W (i+1) m' vs H5))
section
variable{X:Cx}{J3:Zd}{σ:St}
theorem JB{k:Nat}{N:Zb}{scope:Scope}{L:List Nat}{H:Hp}{s:Shared}{u:List (Str×Addr)}{v:Ze}(S:oZ X.env.scope scope k N X.N L)(I:Inv X J3 σ H s)
  (i:∀x c,u.lookup x=some c->X.env.cells.lookup x=some c) (w:∀y∈scope.names,y.2=.free->(u.lookup y.1).isSome=true) (A:∀b∈v,nL X J3 H b) (B:∀b∈v,b<s.heap.objs.size) :
  (dY X N scope s.heap.objs.size u s H v (X.pn++J3)).Ok where
 mod:=I.ok.mod
 kind:=S.kind
 glob:=I.ok.glob
 blt:=I.ok.blt
 above:=aB _
 inj:=fun x y c M O=>I.ok.inj x y c (i x c M) (i y c O)
 has:=fun x h=>by
  have C:∃y∈scope.names,y.1=x/\y.2=.free:=by
   have h':(relabel scope X.env).names.lookup x=some .cell∨(relabel scope X.env).names.lookup x=some .free:=h;have m:∀(l:List (Str×gX)) (f:gX),l.lookup x=some f->(x,f)∈l:=by
    intro l
    induction l with
    |nil=>intro f e;cases e
    |cons a r Q =>
     intro f e;obtain⟨n,D⟩:=a;rw[i9]at e;cases E:x==n with
     |true =>
      rw[E]at e;have:x=n:=by simpa using E
      subst this;cases e;exact cU
     |false=>rw[E]at e;exact c7 _ (Q f e)
   have g:∀f,(x,f)∈(relabel scope X.env).names->f=.cell∨f=.free->∃y∈scope.names,y.1=x/\y.2=.free:=by
    intro f T G;obtain⟨⟨n,D⟩,p,e⟩:=aQ.mp T;dsimp only at e;by_cases t:(D==mj && X.env.scope.kind==.function && X.env.kindOf n==some .cell)=true
    ·have J:D=.free:=by
      simp only[x_]at t;simpa using t.1.1
     rw[if_pos t]at e;cases e;exact⟨_,p,rfl,J⟩
    ·rw[if_neg t]at e;cases e;rcases G with rfl|rfl
     ·exact absurd rfl (S.cell _ p)
     ·exact⟨_,p,rfl,rfl⟩
   rcases h' with h'|h'
   ·exact g _ (m _ _ h') (.inl rfl)
   ·exact g _ (m _ _ h') (.inr rfl)
  obtain⟨y,p,rfl,G⟩:=C;exact yn.mp (w y p G)
 cab:=fun x c h=>by cases h
 hd:=I.ok.hd
 frames:=I.ok.frames
 stk:=.inl rfl
 exf:=fun b j=>⟨bW (B b j),fun x c e=>(A b j).2.2.2.2.1 x c (i x c e)⟩
 bs:=I.bs
 bsz:=aE I.ok.bsz I.sz
 noex:=fun b o e j=>by
  rcases(A b j).2.2.2.1 with z|z
  ·exact I.ok.noex b o e z
  ·exact absurd (c9 (aO (I.ok.bs b o e).1) z) (kg _)
 exfs:=fun b j z=>by
  obtain⟨_,U,Y,_⟩:=A b j;rcases cC.mp (I.stkSub b z)with q|q
  ·exact U q
  ·exact Y q
 funs:=I.stack
 frf:=I.stkFree
theorem HZ{k:Nat}{N:Zb}{scope:Scope}{U:List Nat}{H:Hp}{s:Shared}{E:List (Str×Addr)}{G:Ze}{f:Heap}{t':Nat}{m:Str->Option Value}(S:oZ X.env.scope scope k N X.N U)(I:Inv X J3 σ H s)
  (g:∀x c,E.lookup x=some c->X.env.cells.lookup x=some c) (A:∀y∈scope.names,y.2=.free->(E.lookup y.1).isSome=true) (hf:∀b∈G,nL X J3 H b) (J:∀b∈G,b<s.heap.objs.size)
  (hn:f.Ns s.heap.objs.size m) (old:∀b o,s.heap.get? b=some o->f.get? b=some o) :
  Inv (dY X N scope s.heap.objs.size E s H G (X.pn++J3)) [] (dE k U σ) H { s with heap:=f,toks:=t' }:=by
 have w:∀(l:List (Str×gX)) (x:Str) (B:gX),l.lookup x=some B->(x,B)∈l:=by
  intro l
  induction l with
  |nil=>intro x B e;cases e
  |cons a r ih =>
   intro x B e;obtain⟨n,k'⟩:=a;rw[i9]at e;cases L:x==n with
   |true =>
    rw[L]at e;have:x=n:=by simpa using L
    subst this;cases e;exact cU
   |false=>rw[L]at e;exact c7 _ (ih x B e)
 refine⟨JB S I g A hf J,rfl,I.bare,Un.kept old,⟨m,hn,fun i x v e1 e2 e3=>?_⟩,fun x c e=>?_,I.hok.fresh (aB _),fun x c e=>I.freeC x c (g x c e),fun p Y=>?_,I.hok.kept old,?_⟩
 ·obtain⟨j,t,rfl,ht,hv⟩:=vm e2;obtain⟨y,hy,M,C⟩:=S.sl j t ht;have D:N[k+j]?=some x:=e1;rw[hy]at D;cases D;have h:=w _ _ _ C;obtain⟨c,hc⟩:=yn.mp (A _ h rfl);have hX:=g _ _ hc;obtain⟨mX,al,O⟩:=I.loc;have kX:=S.fr _ h rfl;obtain⟨u,ru,lk⟩:=O t x v M hv (by rcases kX with z|z;exact .inr (.inl z);exact .inr (.inr z));refine⟨u,ru,.inr ⟨?_,c,hc,?_⟩⟩
  ·exact iN C
  ·rcases lk with⟨z,_⟩|⟨_,c',e',q⟩
   ·have z':X.env.scope.names.lookup x=some .local:=z;rcases kX with kX|kX<;>rw[z']at kX<;>cases kX
   ·rw[hX]at e';cases e';obtain⟨o,Q,T⟩:=q;exact⟨o,old _ o Q,T⟩
 ·obtain⟨v,o,Q,T⟩:=I.cell x c (g x c e);exact⟨v,o,old _ o Q,T⟩
 ·rw[dJ]at Y;obtain⟨e,n,ne,nf,d⟩:=I.pin p Y;refine⟨old _ _ e,n,bW (aO e),fun z=>?_,d⟩;rcases cC.mp (I.stkSub _ z)with q|q
  ·exact ne q
  ·exact nf q
 ·rw[Dh];exact S.len.symm
structure Ac(X:Cx)(J3:Zd)(H:Hp)(C:Addr):Prop where
 free:H C=none
 loc:C≠X.env.locals
 young:X.s₀.heap.objs.size<=C
 cells:∀x c,X.env.cells.lookup x=some c->c≠C
 pin:∀p∈X.pn++J3,p.1≠C
theorem vk{elt iter tg:Expr}{ifs:List Expr}{scope:Scope}{pos:Pos}{k:Nat}{N:Zb}{fi:List Nat}{cl:List (Str×Addr)}{g:TG}{tc:TT}{te:TE}{it:Addr}{fp:Ze}{tn:Nat->Heap->Prop}{J:It}{s:Hp}{s2:Shared}{Q:VK}
  {E:Zc}{RR:Value->Addr->Result->Shared->Prop}
  (S:oZ X.env.scope scope k N X.N fi) (hc:X.calm=true) (bi:∀x c,cl.lookup x=some c->X.env.cells.lookup x=some c) (b8:∀y∈scope.names,y.2=.free->(cl.lookup y.1).isSome=true)
  (hg:∀C cl G H ex pn,PG (dY X N scope C cl G H ex pn) tg g) (ho:By k g) (ht:∀C cl G H ex pn,Kf (dY X N scope C cl G H ex pn) ifs tc) (he:∀C cl G H ex pn,PE (dY X N scope C cl G H ex pn) elt te)
  (I2:Inv X J3 σ s s2) (T:vv X.prog X.w X.K tg J fp it tn) (bl:tn 0 s2.heap) (f2:∀b∈fp,nL X J3 s b)
  (hw:∀l,s l=none->∃W:Nat->Nat->List V->Hp->Prop,(∃m,W 0 m [] (upd s l (.lst [])))/\∀i m O s,W i m O s->s l=some (.lst O) /\
   ((J.stop i s/\Q (.ref l) s)∨(J.go i s/\∀x H3,J.yld i s x H3->g x (dE k fi σ) H3 fun σ2 H4=>tc σ2 H4 fun b H5 =>
    if b=true then te σ2 H5 fun v H6=>H6 l=some (.lst O)/\O.length<aj/\∃U,U<m/\W (i+1) U (O++[v]) (upd H6 l (.lst (O++[v])))else ∃U,U<m/\W (i+1) U O H5)))
  (hR:∀D C L s' U,Inv X J3 σ L s'->s'.heap.Ns C U->Ac X J3 L C->Q (.ref D) L->RR (.ref D) C (.ok .next) s') :
  wpAny (model X.prog X.w) X.A (newList []) (fun acc s₃=>wpAny (model X.prog X.w) X.A (newFunctionEnv scope X.env.globals cl [] X.env.qual none .none (some X.env)) (fun aC s₄ =>
   zzl79 (model X.prog X.w) X.A (.compStart (.ListComp elt [⟨tg,iter,ifs,0⟩] scope pos) 0 (.ref it) acc { aC with scope:=relabel scope X.env }) (RR acc aC.locals) s₄) E s₃) E s2:=by
 have ap:s s2.heap.objs.size=none:=I2.fresh;obtain⟨W,⟨m0,w0⟩,turn⟩:=hw _ ap;refine n6 (wpAny_newFunctionEnv S.cell (by intro y hy;simp at hy) (fun I al an=>?_) S.kind);dsimp only at al an ⊢;have I3:Inv X J3 σ (upd s s2.heap.objs.size (.lst [])) { s2 with heap:=s2.heap.push { cls:=.type "list",data:=.seq ([]:Zf).toArray },toks:=s2.toks }:=I2.lnew (ys:=[]) .nil (dI _);generalize bm:({ s2 with heap:=s2.heap.push { cls:=.type "list",data:=.seq ([]:Zf).toArray },toks:=s2.toks }:Shared)=B at I3;have as:B.heap=s2.heap.push { cls:=.type "list",data:=.seq ([]:Zf).toArray }:=by rw[<-bm]
 have cc:B.heap.objs.size=s2.heap.objs.size+1:=by rw[as,tM]
 have bn:∀b∈fp,b<s2.heap.objs.size:=fun b f=>by
  obtain⟨o,e,_⟩:=T.obj 0 _ bl b f;exact aO e
 have f3:∀b∈fp,nL X J3 (upd s s2.heap.objs.size (.lst [])) b:=fun b f=>⟨by rw[ai (bW (bn b f))];exact(f2 b f).1,(f2 b f).2⟩;have a0:∀b∈fp,b<B.heap.objs.size:=fun b f=>by rw[cc];exact Nat.lt_succ_of_lt (bn b f)
 have old:∀b o,B.heap.get? b=some o->I.get? b=some o:=fun b o e=>by
  have f:b≠B.heap.objs.size:=bW (aO e);rw[as]at e f;exact an.extBut b o f (bR _ e)
 have cd:I.Ns B.heap.objs.size (fun x=>([]:List (Str×Value)).reverse.lookup x):=by rw[as];exact al
 have I4:Inv (dY X N scope B.heap.objs.size cl B (upd s s2.heap.objs.size (.lst [])) fp (X.pn++J3)) [] (dE k fi σ) (upd s s2.heap.objs.size (.lst [])) { B with heap:=I,toks:=s2.toks+([]:List (Str×Value)).length } :=
  HZ S I3 bi b8 f3 a0 cd old
 have bu:tn 0 I:=T.keep _ _ _ bl fun b f o e=>old b o (by rw[as];exact bR _ e);generalize M:dY X N scope B.heap.objs.size cl B (upd s s2.heap.objs.size (.lst [])) fp (X.pn++J3)=Y at I4;have yp:Y.prog=X.prog:=by rw[<-M];rfl
 have yw:Y.w=X.w:=by rw[<-M];rfl
 have yK:Y.K=X.K:=by rw[<-M];rfl
 have yA:Y.A=X.A:=by rw[<-M];rfl
 have yx:Y.xe=XF:=by rw[<-M];rfl
 have yc:Y.calm=true:=by rw[<-M];exact hc
 have gY:PG Y tg g:=by rw[<-M];exact hg _ _ _ _ _ _
 have tY:Kf Y ifs tc:=by rw[<-M];exact ht _ _ _ _ _ _
 have eY:PE Y elt te:=by rw[<-M];exact he _ _ _ _ _ _
 have bw:Y.env=compEnvC scope cl B.heap.objs.size X.env:=by rw[<-M];rfl
 have fY:∀{L:Hp},(∀b∈fp,L b=none)->∀b∈fp,nL Y [] L b:=fun hn b f=>by
  obtain⟨f0,f1,bz,bI,f4,f5⟩:=f3 b f;rw[<-M];refine⟨hn b f,bW (a0 b f),fun z=>?_,.inl f,fun x c e=>f4 x c (bi x c e),fun p hp=>?_⟩
  ·rcases cC.mp (I3.stkSub _ z)with q|q
   ·exact f1 q
   ·exact bz q
  ·rw[dJ]at hp;exact f5 p hp
 have a4:∀s4:Shared,s4={ B with heap:=I,toks:=s2.toks+([]:List (Str×Value)).length } ->
   zzl79 (model X.prog X.w) X.A (.compLoop (.ListComp elt [⟨tg,iter,ifs,0⟩] scope pos) 0 (.ref it) (.ref s2.heap.objs.size) Y.env) (RR (.ref s2.heap.objs.size) B.heap.objs.size) s4:=by
  rintro s4 rfl;refine zM (fun n s'=>∃i O L,Inv Y [] (dE k fi σ) L s'/\tn i s'.heap/\(∀b∈fp,L b=none)/\W i n O L) ?_ m0 ⟨0,[],_,I4,bu,fun b f=>(f3 b f).1,w0⟩;rintro n s5 ⟨i,O,H5,I5,bS,b1,w5⟩;obtain⟨c1,a5⟩:=turn i n O H5 w5;rcases a5 with⟨stop,q⟩|⟨go,step⟩
  ·have d:=T.done Y yp yw yK yc i [] s5 _ H5 XF I5 (fY b1) bS stop;rw[yA]at d;refine cH d fun r s6 a=>?_;obtain⟨hr,I6⟩:=a;subst hr;have hu:Un (Gj X.stack) fp (upd s s2.heap.objs.size (.lst [])) H5 B.heap s6.heap:=by have:=I6.base;rw[<-M]at this;exact this
   have ce:s6.os=B.os:=by have:=I6.os;rw[<-M]at this;exact this
   have b2:nu X.prog X.w X.K H5 s6.heap:=by have:=I6.hok;rw[<-M]at this;exact this
   have cf:H5 B.heap.objs.size=none:=by have:=I6.free;rw[<-M]at this;exact this
   obtain⟨m6,b3,_⟩:=I6.loc;have b4:s6.heap.Ns B.heap.objs.size m6:=by rw[<-M]at b3;exact b3
   have IX:Inv X J3 σ H5 s6:=I3.call' ce hu b2 I6.bare fun b f=>by
    obtain⟨f0,f1,bz,bI,f4,f5⟩:=f3 b f;exact⟨bI,f1,f4,f5⟩
   refine hR _ _ H5 s6 m6 IX b4 ⟨cf,ij I3.lt,I3.sz,fun x c e z=>?_,fun p hp z=>?_⟩ q
   ·obtain⟨v,o,ho,_⟩:=I3.cell x c e;exact absurd (aO ho) (by rw[z];exact kg _)
   ·exact absurd (aO (I3.pin p hp).1) (by rw[z];exact kg _)
  ·have d:=T.item Y yp yw yK yc i [] s5 _ H5 XF I5 (fY b1) bS go;rw[yA]at d;refine cH d fun r s6 a=>?_;obtain⟨u,hr,h6⟩:=a;subst hr;refine cH h6 fun _ s7 a=>?_;obtain⟨x,H7,I7,r7,y7,a6,ch⟩:=a;have cm:=I7.pinned (fY ch) (T.obj _ _ a6);have a7:=gY _ s7 _ H7 x u _ cm r7 (ho _ _ _ _ (step x H7 y7));rw[yp,yw,yA,yx]at a7;refine cH a7 fun _ s8 a=>?_;obtain⟨σ8,H8,I8,q8,l8,k8⟩:=a;have a8:=tY _ s8 σ8 H8 _ I8 q8;rw[yp,yw,yA,yx]at a8;have again:∀{H9:Hp}{s9:Shared}{bc:List V}{U:Nat},Inv Y ([]++uL fp s7.heap) σ8 H9 s9->U<n->W (i+1) U bc H9->∃m,m<n/\∃i O L,Inv Y [] (dE k fi σ) L s9/\tn i s9.heap/\(∀b∈fp,L b=none)/\W i m O L:=fun{H9 s9 bc U} I9 hm w9=>by
    refine⟨U,hm,i+1,bc,H9,(I9.unpinned).weak l8.symm (fun j v e=>?_),T.keep _ _ _ a6 fun b f o e=>(I9.pin (b,o) (eP _ (eP _ (lh f e)))).1,fun b f=>?_,w9⟩
    ·obtain⟨j',t,rfl,_,_⟩:=vm e;rw[k8 _ (jW _ _)];exact e
    ·obtain⟨o,e,_⟩:=T.obj _ _ a6 b f;exact(I9.pin (b,o) (eP _ (eP _ (lh f e)))).2.1
   refine cH a8 fun b s9 a=>?_;obtain⟨H9,I9,q9⟩:=a;cases b with
   |false =>
    rw[if_neg iP]at q9 ⊢;obtain⟨U,hm,w9⟩:=q9;exact again I9 hm w9
   |true =>
    rw[if_pos rfl]at q9 ⊢;have a9:=eY _ s9 σ8 H9 _ I9 q9;rw[yp,yw,yA,yx]at a9;refine cH a9 fun y co a=>?_;obtain⟨v,b5,cp,cs,b6,bd,U,hm,ct⟩:=a;have b7:=dC (X:=Y) _ co σ8 b5 (.ref s2.heap.objs.size) [v] (.ref s2.heap.objs.size) [y] (fun z L=>z=.non/\L=upd b5 s2.heap.objs.size (.lst (O++[v]))) cp rfl (.cons cs .nil) ⟨_,O,v,rfl,rfl,b6,bd,rfl,rfl⟩;rw[yp,yw,yA,yx]at b7;refine cH b7 fun _ c2 a=>?_;obtain⟨_,c3,cv,_,_,c0⟩:=a;subst c0;exact again cv hm ct
 have h:=codeAny_compStart_list (prog:=X.prog) (w:=X.w) (A:=X.A) (elt:=elt) (target:=tg) (iter:=iter) (ifs:=ifs) (rest:=[]) (scope:=scope) (pos:=pos) (it:=.ref it) (acc:=.ref s2.heap.objs.size) (env:=Y.env) (a4 _ rfl) (T.self _ 0 _ _ _ bu (a4 _ rfl));rw[bw]at h;rw[<-bm]at h;exact h
end
section
variable{X:Cx}
theorem Ac.turned{a:Zd}{σ:St}{H:Hp}{s:Shared}{C:Addr}{f:Heap}(c:Ac X a H C)(I:Inv X a σ H s)(g:jy C s.heap f):Inv X a σ H { s with heap:=f } :=
 I.turned (t':=s.toks) (fun b o h e=>g.extBut b o h e) c.free c.loc (.inr c.young) c.cells c.pin
theorem Jh{m i p:Expr}{n:List Expr}{scope:Scope}{r:Pos}{k:Nat}{N:Zb}{G:List Nat}{L:TI}{g:TG}{M:TT}{O:TE}(Y:nr X.env.scope scope k N X.N G=true)(hc:X.calm=true)(hi:PI X p i L)
  (hg:∀C l a f ex o,PG (dY X N scope C l a f ex o) p g) (ho:By k g) (ht:∀C l a f ex o,Kf (dY X N scope C l a f ex o) n M) (he:∀C l a f ex o,PE (dY X N scope C l a f ex o) m O)
  (hs:∀x,Ai i X.env x=pure x:=by intro _;rfl):PE X (.ListComp m [⟨p,i,n,0⟩] scope r) (cG k G L g M O):=by
 intro U s σ H Q I h;have S:=oZ.of Y;obtain⟨l,j,t,u⟩:=vn (env:=X.env) (scope:=scope) fun y hy e=>I.ok.has y.1 (S.fr y hy e);rw[eval_ListComp];refine wpAny_comprehension_free (use:=none) rfl hs j S.kind S.nm (cH (hi U s σ H _ I h) fun v s1 h1=>cH h1 fun al s2 h2=>?_);obtain⟨it,fp,tn,J,H2,e,I2,T,z,f2,hw⟩:=h2;subst e;refine vk (RR:=fun B C=>compPost (model X.prog X.w) X.A X.xe none (EP X U σ Q) B C) S hc t u hg ho ht he I2 T z f2 hw ?_;intro D C H' s' m' I' hn ce q;exact⟨m',hn,fun h' E=>⟨.ref D,H',ce.turned I' E,rfl,q⟩⟩
theorem CJ{m f B:Expr}{n:List Expr}{scope:Scope}{p o t:Pos}{k:Nat}{N:Zb}{fi:List Nat}{wi:TI}{g:TG}{tc:TT}{te:TE}{j:Nat}{y:Str}(hN:X.N.Nodup)(hj:X.N[j]?=some y)(L:Loc X.env.scope y)(hS:nr X.env.scope scope k N X.N fi=true)(hc:X.calm=true)(hi:PI X B f wi)
  (hg:∀C u i l ex E,PG (dY X N scope C u i l ex E) B g) (ho:By k g) (ht:∀C u i l ex E,Kf (dY X N scope C u i l ex E) n tc) (he:∀C u i l ex E,PE (dY X N scope C u i l ex E) m te)
  (M:rS (.ListComp m [⟨B,f,n,0⟩] scope p) (some (.Name y t)) o.line X.env=pure true:=by rfl)
  (hs:∀x,Ai f X.env x=pure x:=by intro _;rfl) (hf:X.fn y=true∨X.env.scope.names.lookup y=some .local:=by first|exact .inl rfl|exact .inr rfl|assumption) :
  PS X (.Assign [.Name y t] (.ListComp m [⟨B,f,n,0⟩] scope p) o) (aM (cG k fi wi g tc te) (eL j)):=by
 intro O s σ H D I h;have S:=oZ.of hS;obtain⟨u,r,U,Y⟩:=vn (env:=X.env) (scope:=scope) fun y L e=>I.ok.has y.1 (S.fr y L e);rw[exec_Assign_Name_used _ _ _ _ M];refine ar (wpAny_standAt (ar ?_));show wpAny _ X.A (do let _ <- comprehension (.ListComp m [⟨B,f,n,0⟩] scope p) scope X.env _ (newList []) false (eval f X.env) (some (assign (.Name y t) X.env))) _ _ s
 refine ar (pb (wpAny_comprehension_free (use:=some (assign (.Name y t) X.env)) (Q:=fun _ G=>SP X O D .next G) rfl hs r S.kind S.nm
  (cH (hi O s σ H _ I h) fun v s1 h1=>cH h1 fun a5 s2 h2=>?_)) (fun _ G hq=>aT (aT hq)) fun _ _ e=>e)
 obtain⟨it,fp,tn,J,H2,e,I2,T,al,f2,hw⟩:=h2;subst e;refine vk (RR:=fun an C=>compPost (model X.prog X.w) X.A X.xe (some (assign (.Name y t) X.env)) (fun _ G=>SP X O D .next G) an C) (Q:=fun x H1=>eL j x σ H1 D.nx) S hc U Y hg ho ht he I2 T al f2 hw ?_;intro A C H' G m' I' hn ce q;show wpAny _ X.A (assign (.Name y t) X.env (.ref A)) _ _ _;refine wpAny_assign_Name (wO I' hN hj L (v:=.ref A) rfl (fun a6 ap as=>?_) hf);obtain⟨a,aC,ha⟩:=as;have a0:C≠a:=by
  rcases ha with z|z
  ·rw[z];exact ce.loc
  ·exact gk (ce.cells y a z)
 refine⟨m',hn.sameBut aC a0,fun h' a4=>?_⟩;exact⟨_,H',ce.turned ap a4,q⟩
end
theorem Inv.turnedNew{X:Cx}{i:Zd}{σ:St}{H:Hp}{s:Shared}{g:Heap}{t:Nat}{ch:Ze}{o:HO}(I:Inv X i σ H s)(j:∀b∈ch,nL X i H b)
  (k:∀b q,b∉ch->s.heap.get? b=some q->g.get? b=some q) (N:∃q,g.get? s.heap.objs.size=some q) (x:∀y,o≠.own y) (new:cw X.prog X.w X.K (upd H s.heap.objs.size o) g s.heap.objs.size o) :
  Inv X i σ (upd H s.heap.objs.size o) { s with heap:=g,toks:=t }:=by
 have a:H s.heap.objs.size=none:=I.fresh;have l:∀b q,s.heap.get? b=some q->b≠s.heap.objs.size:=fun b q e=>bW (aO e);have p:∀b u,H b=some u->b∉ch:=fun b u e z=>by rw[(j b z).1]at e;cases e
 refine I.step (g':=s.gens) (d':=s.drawn) (ch:=ch) (fun b h=>?_) (fun b q _ _ f e _=>k b q f e) (fun b q _ _ f e _=>⟨q.slots,k b q f e⟩) (fun b q _ e n=>by rw[ai (l b q e)];exact n) (fun b q f e=>⟨q,k b q f e⟩)
  (fun b A e=>by rw[ai (ae e a)];exact e) (fun b q u e=>by rw[ai (ae e a)];exact e) (fun b O e=>⟨#[],by rw[ai (ae e a),e];simp⟩) (fun m B=>?_) (fun b u e=>?_) I.bare
 ·obtain⟨Q,C,T,D,E,G⟩:=j b h;exact⟨D,C,E,G⟩
 ·obtain⟨q,J,L,M,r⟩:=B;exact⟨q,J,L,k _ q (fun z=>(j _ z).2.1 rfl) M,r⟩
 ·by_cases h:b=s.heap.objs.size
  ·subst h;rw[aa]at e;cases e;exact new
  ·rw[ai h]at e;refine(I.hok b u e).stay (fun c v f q=>k c v ?_ q) (fun c q=>by rw[ai (ae q a)];exact q) fun c A q=>by rw[ai (ae q a)];exact q
   rcases f with z|z
   ·subst z;exact p _ _ e
   ·exact p _ _ z
def LA(K:Za)(a:Addr):It :=
 ⟨fun i H=>∃xs x,aw K H a xs/\xs[i]?=some x,fun i H x H'=>∃p v,x=.ref p/\H p=none/\(∀xs,aw K H a xs->xs[i]?=some v)/\H'=upd H p (.tup [.int i,v]),fun i H=>∃xs,aw K H a xs/\xs.length<=i⟩
theorem EO{P:b9}{w:World}{K:Za}{es:List Expr}{kx:Nat}{J7:Pos}(a e it:Addr)(m:e≠it):
  vv P w K (.Tuple es kx J7) (LA K a) [e,it] e (fun i h=>(∃old,IsEnum h e it i old)/\h.IsListIter it a i) where
 mem:=by simp
 obj:=fun i h st b l=>by
  obtain⟨⟨old,g⟩,o,G,J,hd⟩:=st;rcases cC.mp l with z|z
  ·subst z;exact⟨_,g,fun v z=>by cases z⟩
  ·have L:b=it:=by simpa using z
   subst L;exact⟨o,G,fun v z=>by rw[hd]at z;cases z⟩
 keep:=fun i h C st k=>⟨let⟨old,g⟩:=st.1;⟨old,k e (by simp) _ g⟩,st.2.at fun o e=>k it (by simp) o e⟩
 item:=by
  intro X M N O J i J3 s σ H E I n st Q;subst M N O;obtain⟨⟨old,g⟩,j⟩:=st;obtain⟨xs,x,D,T⟩:=Q;obtain⟨U,Y,p,hz⟩:=I.list D;obtain⟨u,hu,ru⟩:=Y.get T;obtain⟨e0,e1,e2,e3,e4,e5⟩:=n e (by simp);obtain⟨f0,f1,f2,f3,f4,f5⟩:=n it (by simp);refine wpAny_pyNext_enum_item g j p.isList (x:=u) (by simpa using hu) m fun C al r an a8 ap=>?_;refine⟨_,rfl,wpAny_letOwnedTupleGo_enum (s:={ s with heap:=C,toks:=s.toks+1 }) al fun h2 as aC=>?_⟩;have f:jy e C h2:=aC;have t:s.heap.objs.size≠e:=ij (aO g);have A:h2.get? s.heap.objs.size=some { cls:=.type "tuple",data:=.seq #[.int i s.toks,u] }:=f.extBut _ _ t an;have a0:H s.heap.objs.size=none:=I.fresh;have a4:upd H s.heap.objs.size (.tup [.int i,x]) e=none:=by rw[ai (gk t)];exact e0
  have a5:s.heap.objs.size≠it:=by
   obtain⟨o,G,_⟩:=j;exact ij (aO G)
  have a6:upd H s.heap.objs.size (.tup [.int i,x]) it=none:=by rw[ai (gk a5)];exact f0
  have I2:Inv X J3 σ (upd H s.heap.objs.size (.tup [.int i,x])) { s with heap:=h2,toks:=s.toks+1 }:=by
   refine I.turnedNew (ch:=[e,it]) n (fun b o l q=>?_) ⟨_,A⟩ (fun _ z=>nomatch z) ⟨by show 2<=aj;decide,[.int i s.toks,u],.cons ⟨_,rfl⟩ (.cons ru .nil),⟨_,A,rfl,_,rfl⟩⟩;have B:b≠e:=fun z=>l (by simp[z]);have a7:b≠it:=fun z=>l (by simp[z]);exact f.extBut _ _ B (ap b o B a7 q)
  refine⟨.ref s.heap.objs.size,_,I2,rfl,⟨_,x,rfl,a0,fun ys hy=>by rw[I.list_inj hy D];exact T,rfl⟩,⟨⟨u,by simpa using as⟩,r.at fun o y=>(f.2 it (gk m)).trans y⟩,fun b l=>?_⟩;rcases cC.mp l with z|z
  ·subst z;exact a4
  ·have L:b=it:=by simpa using z
   subst L;exact a6
 done:=by
  intro X M N O J i J3 s σ H E I n st Q;subst M N O;obtain⟨⟨old,g⟩,j⟩:=st;obtain⟨xs,D,T⟩:=Q;obtain⟨U,Y,p,hz⟩:=I.list D;obtain⟨f0,f1,f2,f3,f4,f5⟩:=n it (by simp);have hl:=Y.length;exact wpAny_pyNext_enum_end (I.ok.hd J) g j p.isList (by simp;omega) fun C eb=>⟨rfl,I.turned (t':=s.toks) (fun b o l e=>eb b o l e) f0 f1 f3 f4 f5⟩
 self:=fun _ _ _ _ _ st h=>let⟨_,g⟩:=st.1;wpAny_pyIter_enum g h
section
variable{X:Cx}{p pos:Pos}{es:List Expr}{kx:Nat}{J7:Pos}
def xa(K:Za)(ta:TA):TI:=fun σ H R=>ta σ H fun vs H1=>∃a,vs=[.ref a]/\(∃xs,aw K H1 a xs)/\R (LA K a) H1
theorem pO{a:Expr}{n:TA}(w:Gl X "enumerate")(x:X.mg "enumerate"=none)(y:PA X [a] n)(A:aL [a] X.env=[(false,eval a X.env)]:=by rfl):PI X (.Tuple es kx J7) (.Call (.Name "enumerate" p) [a] [] pos) (xa X.K n):=by
 intro r s σ H R I h;refine Call_ (iI I w x boot_enumerate (o9 (cH (y pos r s σ H _ I h) fun T s1 i=>?_) A rfl));obtain⟨U,t,g,B,C⟩:=i;obtain⟨l,e,⟨Y,D⟩,q⟩:=C;subst e;obtain⟨u,rfl,E⟩:=vals1 B;cases E;obtain⟨G,rv,J,hz⟩:=g.list D;refine call_enumerate_list J.isList fun j v k L M=>?_;refine wpAny_pyIter_enum (s:={ s1 with heap:=j }) v ?_;have m:∀b o,s1.heap.get? b=some o->j.get? b=some o:=M;have N:Inv X r σ t { s1 with heap:=j }:=g.kept (t':=s1.toks) m;refine⟨_,[s1.heap.objs.size+1,s1.heap.objs.size],_,_,t,rfl,N,EO l _ _ (Nat.succ_ne_self _),⟨⟨_,v⟩,k⟩,fun b O=>?_,q⟩;have f:s1.heap.objs.size<=b:=by
  rcases cC.mp O with z|z
  ·rw[z];exact qJ _
  ·have Q:b=s1.heap.objs.size:=by simpa using z
   rw[Q];exact aB _
 exact g.fpOk f (g.hok.fresh f)
end
def LQ(x:Str):It:=⟨fun i _=>i<x.cps.size,fun i H y H'=>H'=H/\∃c,x.cps[i]?=some c/\y=.str ⟨#[c]⟩,fun i _=>x.cps.size<=i⟩
theorem BT{P:b9}{w:World}{K:Za}{J:Expr}(x:Str)(t:Tok)(it:Addr):vv P w K J (LQ x) [it] it (fun i h=>h.IsStrIter it "str_ascii_iterator" x t i) where
 mem:=by simp
 obj:=fun i h st b a=>by
  have e:b=it:=by simpa using a
  subst e;obtain⟨o,e,c,d⟩:=st;exact⟨o,e,fun v z=>by rw[d]at z;cases z⟩
 keep:=fun i h g st k=>by
  obtain⟨o,e,c,d⟩:=st;exact⟨o,k it (by simp) o e,c,d⟩
 item:=by
  intro X l m n C i D s σ H E I j st p;subst l m n;have q:i<x.cps.size:=p;obtain⟨r,u,L,y,A,B⟩:=j it (by simp);have G:x.cps[i]?=some x.cps[i]:=by simp[q]
  refine wpAny_pyNext_ascii_item st G fun g f M=>?_;have N:Inv X D σ H { s with heap:=g,toks:=s.toks+1 }:=I.turned (t':=s.toks+1) (fun b o a e=>(M.2 b a).trans e) r u y A B;obtain⟨o,e,c,d⟩:=id f;exact⟨_,rfl,u8 (s:={ s with heap:=g,toks:=s.toks+1 }) e c d (by decide) ⟨.str ⟨#[x.cps[i]]⟩,H,N,⟨_,rfl⟩,⟨rfl,_,G,rfl⟩,f,fun b a=>(j b a).1⟩⟩
 done:=by
  intro X l m n C i D s σ H E I j st p;subst l m n;have O:x.cps.size<=i:=p;obtain⟨r,u,L,y,A,B⟩:=j it (by simp);exact wpAny_pyNext_ascii_end (I.ok.hd C) st (by simp;omega) fun g Q=>⟨rfl,I.turned (t':=s.toks) (fun b o a e=>Q b o a e) r u y A B⟩
 self:=fun _ _ _ _ _ st h=>wpAny_pyIter_striter_ascii st h
theorem EM{P:b9}{w:World}{K:Za}{J:Expr}(x:Str)(t:Tok)(it:Addr):vv P w K J (LQ x) [it] it (fun i h=>h.IsStrIter it "str_iterator" x t i) where
 mem:=by simp
 obj:=fun i h st b a=>by
  have e:b=it:=by simpa using a
  subst e;obtain⟨o,e,c,d⟩:=st;exact⟨o,e,fun v z=>by rw[d]at z;cases z⟩
 keep:=fun i h g st k=>by
  obtain⟨o,e,c,d⟩:=st;exact⟨o,k it (by simp) o e,c,d⟩
 item:=by
  intro X l m n C i D s σ H E I j st p;subst l m n;have q:i<x.cps.size:=p;obtain⟨r,u,L,y,A,B⟩:=j it (by simp);have G:x.cps[i]?=some x.cps[i]:=by simp[q]
  refine wpAny_pyNext_wide_item st G fun g f M=>?_;have N:Inv X D σ H { s with heap:=g,toks:=s.toks+1 }:=I.turned (t':=s.toks+1) (fun b o a e=>(M.2 b a).trans e) r u y A B;obtain⟨o,e,c,d⟩:=id f;exact⟨_,rfl,u8 (s:={ s with heap:=g,toks:=s.toks+1 }) e c d (by decide) ⟨.str ⟨#[x.cps[i]]⟩,H,N,⟨_,rfl⟩,⟨rfl,_,G,rfl⟩,f,fun b a=>(j b a).1⟩⟩
 done:=by
  intro X l m n C i D s σ H E I j st p;subst l m n;have O:x.cps.size<=i:=p;obtain⟨r,u,L,y,A,B⟩:=j it (by simp);exact wpAny_pyNext_wide_end (I.ok.hd C) st (by simp;omega) fun g Q=>⟨rfl,I.turned (t':=s.toks) (fun b o a e=>Q b o a e) r u y A B⟩
 self:=fun _ _ _ _ _ st h=>wpAny_pyIter_striter_wide st h
section
variable{X:Cx}{p pos:Pos}{tg:Expr}
def Lj(tl:TE):TI:=fun σ H R=>tl σ H fun v H1=>∃x,v=.str x/\R (LQ x) H1
theorem Ku{l:Expr}{k:TE}(r:PE X l k):PI X tg l (Lj k):=by
 intro m s σ H R I h;refine cH (r m s σ H _ I h) fun v a i=>?_;obtain⟨y,j,g,u,w⟩:=i;obtain⟨x,e,q⟩:=w;subst e;obtain⟨t,rfl⟩:=u;have f:∀b∈[a.heap.objs.size],nL X m j b:=fun b z=>by
  have e:b=a.heap.objs.size:=by simpa using z
  subst e;exact g.fpOk (aB _) (g.hok.fresh (aB _))
 cases n:x.cps.all (·<128)
 ·refine wpAny_pyIter_wide n ?_;exact⟨a.heap.objs.size,[a.heap.objs.size],_,_,j,rfl,g.kept (t':=a.toks) fun b o e=>bR _ e,EM x t _,⟨_,du _ rfl,rfl,rfl⟩,f,q⟩
 ·refine wpAny_pyIter_ascii n ?_;exact⟨a.heap.objs.size,[a.heap.objs.size],_,_,j,rfl,g.kept (t':=a.toks) fun b o e=>bR _ e,BT x t _,⟨_,du _ rfl,rfl,rfl⟩,f,q⟩
end
def Lz(K:Za)(a b:Addr):It :=
  ⟨fun i H=>∃xs ys x y,aw K H a xs/\aw K H b ys/\xs[i]?=some x/\ys[i]?=some y,
   fun i H x H'=>∃p u v,x=.ref p/\H p=none/\(∀xs,aw K H a xs->xs[i]?=some u)/\(∀ys,aw K H b ys->ys[i]?=some v)/\H'=upd H p (.tup [u,v]),
   fun i H=>∃xs ys,aw K H a xs/\aw K H b ys/\(xs.length<=i∨ys.length<=i)⟩
theorem Gu{P:b9}{w:World}{K:Za}{es:List Expr}{kx:Nat}{J7:Pos}(a b z TI TO t A:Addr)(D:mi z TI TO t A a b):
  vv P w K (.Tuple es kx J7) (Lz K a b) [z,TI,TO,t,A] z (fun i h=>IsZip h z TI TO .none/\IsPair h TI (.ref t) (.ref A)/\(∃a b,IsPair h TO a b)/\h.IsListIter t a i/\h.IsListIter A b i) where
 mem:=by simp
 obj:=fun i h st c f=>by
  obtain⟨p,j,⟨u,v,l⟩,G,J⟩:=st;simp only[cC,List.not_mem_nil,or_false]at f;rcases f with rfl|rfl|rfl|rfl|rfl
  ·exact⟨_,p,fun v z=>by cases z⟩
  ·exact⟨_,j,fun v z=>by cases z⟩
  ·exact⟨_,l,fun v z=>by cases z⟩
  ·obtain⟨o,e,c,d⟩:=G;exact⟨o,e,fun v z=>by rw[d]at z;cases z⟩
  ·obtain⟨o,e,c,d⟩:=J;exact⟨o,e,fun v z=>by rw[d]at z;cases z⟩
 keep:=fun i h N st k=>by
  obtain⟨p,j,⟨u,v,l⟩,G,J⟩:=st;exact⟨k z (by simp) _ p,k TI (by simp) _ j,⟨u,v,k TO (by simp) _ l⟩,G.at fun o e=>k t (by simp) o e,J.at fun o e=>k A (by simp) o e⟩
 item:=by
  intro X hP hw hK f i J3 s σ H E I M st hg;subst hP hw hK;obtain⟨p,j,⟨u0,v0,l⟩,G,J⟩:=st;obtain⟨xs,ys,x,y,B,C,hx,hy⟩:=hg;obtain⟨as,rx,px,zx⟩:=I.list B;obtain⟨aC,ry,py,zy⟩:=I.list C;obtain⟨u,hu,ru⟩:=rx.get hx;obtain⟨v,hv,rv⟩:=ry.get hy;refine wpAny_pyNext_zip_item D p j l G J px.isList py.isList (x:=u) (y:=v) (by simpa using hu) (by simpa using hv) fun N a1 a2 a3 a4 a5 a6 hk=>?_;refine⟨_,rfl,wpAny_letOwnedTupleGo_zip (s:={ s with heap:=N }) a1 fun L a0 a7=>?_⟩;have g:jy z N L:=a7;have O:s.heap.objs.size≠z:=ij (aO p);have Q:s.heap.objs.size≠TO:=ij (aO l);have T:s.heap.objs.size≠TI:=ij (aO j);have U:s.heap.objs.size≠t:=by obtain⟨o,Y,_⟩:=G;exact ij (aO Y)
  have al:s.heap.objs.size≠A:=by obtain⟨o,Y,_⟩:=J;exact ij (aO Y)
  have an:IsPair L s.heap.objs.size u v:=g.extBut _ _ O a5;have I2:Inv X J3 σ (upd H s.heap.objs.size (.tup [x,y])) { s with heap:=L,toks:=s.toks }:=by
   refine I.turnedNew (ch:=[z,TI,TO,t,A]) M (fun c o f q=>?_) ⟨_,an⟩ (fun _ z=>nomatch z) ⟨by show 2<=aj;decide,[u,v],.cons ru (.cons rv .nil),⟨_,an,rfl,_,rfl⟩⟩;have n1:c≠z:=fun q=>f (by simp[q]);exact g.extBut _ _ n1 (hk c o n1 (fun q=>f (by simp[q])) (fun q=>f (by simp[q])) (fun q=>f (by simp[q])) q)
  refine⟨.ref s.heap.objs.size,_,I2,rfl,⟨_,x,y,rfl,I.fresh,fun zs p=>by rw[I.list_inj p B];exact hx,fun zs p=>by rw[I.list_inj p C];exact hy,rfl⟩,⟨a0,g.extBut _ _ D.TIz (hk _ _ D.TIz D.TITO D.TIi1 D.TIi2 j),⟨_,_,g.extBut _ _ D.TOz a2⟩,a3.at fun o e=>g.extBut _ _ D.i1z e,a4.at fun o e=>g.extBut _ _ D.i2z e⟩,fun c f=>?_⟩;have a8:=(M c f).1;simp only[cC,List.not_mem_nil,or_false]at f;have ne:c≠s.heap.objs.size:=by
   rcases f with rfl|rfl|rfl|rfl|rfl
   ·exact O.symm
   ·exact T.symm
   ·exact Q.symm
   ·exact U.symm
   ·exact al.symm
  rw[ai ne];exact a8
 done:=by
  intro X hP hw hK f i J3 s σ H E I M st hg;subst hP hw hK;obtain⟨p,j,⟨u0,v0,l⟩,G,J⟩:=st;obtain⟨xs,ys,B,C,ap⟩:=hg;obtain⟨as,rx,px,zx⟩:=I.list B;obtain⟨aC,ry,py,zy⟩:=I.list C;have lx:=rx.length;have ly:=ry.length;refine wpAny_pyNext_zip_end (I.ok.hd f) D p j l G J px.isList py.isList (by rcases ap with q|q;exact .inl (by simp;omega);exact .inr (by simp;omega)) fun N hk=>⟨rfl,?_⟩;have tr:∀c q,H c=some q->c∉[z,TI,TO,t,A]:=fun c q e m=>by rw[(M c m).1]at e;cases e
  have kk:∀c o,c∉[z,TI,TO,t,A]->s.heap.get? c=some o->N.get? c=some o:=fun c o f q=>hk c o (fun q=>f (by simp[q])) (fun q=>f (by simp[q])) (fun q=>f (by simp[q])) (fun q=>f (by simp[q])) q;refine I.step (g':=s.gens) (d':=s.drawn) (t':=s.toks) (ch:=[z,TI,TO,t,A]) (fun c f=>?_) (fun c o _ _ f e _=>kk c o f e) (fun c o _ _ f e _=>⟨o.slots,kk c o f e⟩) (fun _ _ _ _ n=>n) (fun c o f e=>⟨o,kk c o f e⟩) (fun _ _ e=>e) (fun _ _ _ e=>e) (fun c ps e=>⟨#[],by rw[e];simp⟩) (fun m hm=>?_) (fun c q e=>?_) I.bare
  ·obtain⟨f0,f1,f2,f3,f4,f5⟩:=M c f;exact⟨f3,f1,f4,f5⟩
  ·obtain⟨q,a9,ep,Y,r⟩:=hm;exact⟨q,a9,ep,kk _ q (fun z=>(M _ z).2.1 rfl) Y,r⟩
  ·refine(I.hok c q e).stay (fun d v hd q'=>kk d v ?_ q') (fun _ q=>q) fun _ _ q=>q;rcases hd with z|z
   ·subst z;exact tr _ _ e
   ·exact tr _ _ z
 self:=fun _ _ _ _ _ st h=>wpAny_pyIter_zip st.1 h
section
variable{X:Cx}{p pos:Pos}{es:List Expr}{kx:Nat}{J7:Pos}
def HF(K:Za)(ta:TA):TI:=fun σ H R=>ta σ H fun vs H1=>∃a b,vs=[.ref a,.ref b]/\(((∃xs,aw K H1 a xs)/\(∃ys,aw K H1 b ys)/\R (Lz K a b) H1)∨False)
theorem Eb{a b:Expr}{t:TA}(z:Gl X "zip")(A:X.mg "zip"=none)(B:PA X [a,b] t)(C:aL [a,b] X.env=[(false,eval a X.env),(false,eval b X.env)]:=by rfl)(f:aL [b] X.env=[(false,eval b X.env)]:=by rfl):
  PI X (.Tuple es kx J7) (.Call (.Name "zip" p) [a,b] [] pos) (HF X.K t):=by
 intro j s σ H R I h;refine Call_ (iI I z A boot_zip (o9 (cH (B pos j s σ H _ I h) fun us s1 k=>?_) (by rw[C,f]) (by rw[f];rfl)));obtain⟨vs,l,g,D,E⟩:=k;obtain⟨G,J,e,q⟩:=E;subst e;obtain⟨u,v,rfl,L,M⟩:=vals2 D;cases L;cases M;have m:∀b∈[s1.heap.objs.size+4,s1.heap.objs.size+2,s1.heap.objs.size+3,s1.heap.objs.size,s1.heap.objs.size+1],nL X j l b:=fun b w=>by
  have i:s1.heap.objs.size<=b:=by
   simp only[cC,List.not_mem_nil,or_false]at w;rcases w with rfl|rfl|rfl|rfl|rfl<;>omega
  exact g.fpOk i (g.hok.fresh i)
 rcases q with⟨⟨xs,N⟩,⟨ys,O⟩,q⟩|q
 ·obtain⟨Q,rx,x,zx⟩:=g.list N;obtain⟨T,ry,y,zy⟩:=g.list O;obtain⟨o1,n1,U,_⟩:=id x;obtain⟨o2,n2,Y,_⟩:=id y;refine call_zip_2 x.isList y.isList fun n a1 a2 a3 a4 a5 a6 hk=>?_;refine wpAny_pyIter_zip (s:={ s1 with heap:=n }) a1 ?_;have r:∀b o,s1.heap.get? b=some o->n.get? b=some o:=hk;have I2:Inv X j σ l { s1 with heap:=n }:=g.kept (t':=s1.toks) r;exact⟨_,_,_,_,l,rfl,I2,Gu G J _ _ _ _ _ (zipApart_new (aO U) (aO Y)),⟨a1,a2,⟨_,_,a3⟩,a4,a5⟩,m,q⟩
 ·exact q.elim
end
inductive DT where
 |k (a:fG)
 |t (l:List DT)
 |s (l:List DT)
mutual
def Kc:(x y:DT)->Decidable (x=y)
 |.k a,.k b=>if h:a=b then Decidable.isTrue (by rw[h])else Decidable.isFalse fun e=>h (by injection e)
 |.t l,.t m=>match decDTs l m with
  |Decidable.isTrue h=>Decidable.isTrue (by rw[h])
  |Decidable.isFalse h=>Decidable.isFalse fun e=>h (by injection e)
 |.s l,.s m=>match decDTs l m with
  |Decidable.isTrue h=>Decidable.isTrue (by rw[h])
  |Decidable.isFalse h=>Decidable.isFalse fun e=>h (by injection e)
 |.k _,.t _=>Decidable.isFalse nofun
 |.k _,.s _=>Decidable.isFalse nofun
 |.t _,.k _=>Decidable.isFalse nofun
 |.t _,.s _=>Decidable.isFalse nofun
 |.s _,.k _=>Decidable.isFalse nofun
 |.s _,.t _=>Decidable.isFalse nofun
def decDTs:(x y:List DT)->Decidable (x=y)
 |[],[]=>Decidable.isTrue rfl
 |[],_::_=>Decidable.isFalse nofun
 |_::_,[]=>Decidable.isFalse nofun
 |a::l,b::m=>match Kc a b with
  |Decidable.isTrue h=>match decDTs l m with
   |Decidable.isTrue h'=>Decidable.isTrue (by rw[h,h'])
   |Decidable.isFalse h'=>Decidable.isFalse fun e=>h' (by injection e)
  |Decidable.isFalse h=>Decidable.isFalse fun e=>h (by injection e)
end
instance:DecidableEq DT:=Kc
mutual
def DT.depth:DT->Nat
 |.k _=>0
 |.t l=>DT.depths l+1
 |.s l=>DT.depths l+1
def DT.depths:List DT->Nat
 |[]=>0
 |a::r=>max (DT.depth a) (DT.depths r)
end
mutual
def tK(h:Heap):DT->Value->Prop
 |.k a,v=>dw a v=true
 |.t l,v=>∃a items,v=.ref a/\h.IsTuple a items/\DAts h l items.toList
 |.s l,v=>∃a items,v=.ref a/\h.IsList a items/\DAts h l items.toList
def DAts(h:Heap):List DT->List Value->Prop
 |[],vs=>vs=[]
 |k::r,vs=>∃v us,vs=v::us/\tK h k v/\DAts h r us
end
theorem DAts.length{h:Heap}:∀{f:List DT}{a:Zf},DAts h f a->f.length=a.length
 |[],a,e=>by have g:a=[]:=e;rw[g];rfl
 |x::f,a,e=>by
  obtain⟨v,j,rfl,_,i⟩:=e;simp[DAts.length i]
theorem DAts.get{h:Heap}:∀{f:List DT}{a:Zf}{i:Nat}{v:Value},DAts h f a->a[i]?=some v->∃x,f[i]?=some x/\tK h x v
 |[],a,i,v,e,q=>by have g:a=[]:=e;subst g;simp at q
 |x::f,a,i,v,e,q=>by
  obtain⟨u,n,rfl,j,k⟩:=e;cases i with
  |zero =>
   simp at q;subst q;exact⟨x,rfl,j⟩
  |succ i =>
   obtain⟨y,l,m⟩:=DAts.get k (i:=i) (v:=v) (by simpa using q);exact⟨y,by simpa using l,m⟩
theorem DT.depths_get{l:List DT}{x:DT}{i d:Nat}(h:DT.depths l<=d)(e:l[i]?=some x):x.depth<=d:=by
 induction l generalizing i with
 |nil=>simp at e
 |cons a r f =>
  have g:max a.depth (DT.depths r)<=d:=h;cases i with
  |zero=>simp at e;subst e;omega
  |succ i=>exact f (by omega) (by simpa using e)
theorem CZ{h:Heap}{a:Addr}{i j:Array Value}(x:h.IsList a i)(y:h.IsList a j):i=j:=by
 obtain⟨o,g,_,n,k⟩:=x;obtain⟨l,e,_,m,f⟩:=y;rw[g]at e;cases e;rw[k]at f;injection f
theorem Bb{h:Heap}{a:Addr}{i j:Array Value}(x:h.IsTuple a i)(y:h.IsTuple a j):i=j:=by
 obtain⟨o,g,_,n,k⟩:=x;obtain⟨l,e,_,m,f⟩:=y;rw[g]at e;cases e;rw[k]at f;injection f
theorem kD{h:Heap}{a:Addr}{i j:Array Value}(x:h.IsList a i)(y:h.IsTuple a j):False:=by
 obtain⟨o,g,k,_⟩:=x;obtain⟨l,e,f,_⟩:=y;rw[g]at e;cases e;rw[k]at f;simp at f
theorem w_{a b:fG}{v:Value}(g:dw a v=true)(f:dw b v=true):a=b:=by
 rcases aD g with⟨i,t,rfl,rfl⟩|⟨i,t,rfl,rfl⟩
 ·rcases aD f with⟨j,u,rfl,e⟩|⟨j,u,rfl,e⟩
  ·cases e;rfl
  ·cases e
 ·rcases aD f with⟨j,u,rfl,e⟩|⟨j,u,rfl,e⟩
  ·cases e
  ·cases e;rfl
theorem iZ{a:fG}{b:Addr}(h:dw a (.ref b)=true):False:=by
 rcases aD h with⟨_,_,_,e⟩|⟨_,_,_,e⟩<;>cases e
theorem tK.inj{h:Heap}:∀(d:Nat) {x y:DT}{v:Value},x.depth<=d->tK h x v->tK h y v->x=y:=by
 have r:∀(d:Nat) (u:∀{x y:DT}{v:Value},x.depth<=d->tK h x v->tK h y v->x=y) (o n:List DT) (w:Zf),DT.depths o<=d->DAts h o w->DAts h n w->o=n:=by
  intro d u o
  induction o with
  |nil =>
   intro n w _ g f;have A:w=[]:=g;subst A;cases n with
   |nil=>rfl
   |cons y n=>obtain⟨_,_,e,_⟩:=f;cases e
  |cons x o B =>
   intro n w p g f;obtain⟨v,L,rfl,C,D⟩:=g;cases n with
   |nil=>have E:v::L=[]:=f;cases E
   |cons y n =>
    obtain⟨O,M,e,G,H⟩:=f;cases e;have N:max x.depth (DT.depths o)<=d:=p;rw[u (by omega) C G,B n L (by omega) D H]
 intro d
 induction d with
 |zero =>
  intro x y v p g f;cases x with
  |t l=>exact absurd p (by show ¬(DT.depths l+1<=0);omega)
  |s l=>exact absurd p (by show ¬(DT.depths l+1<=0);omega)
  |k a =>
   cases y with
   |k b=>rw[w_ g f]
   |t l=>obtain⟨b,_,rfl,_⟩:=f;exact(iZ g).elim
   |s l=>obtain⟨b,_,rfl,_⟩:=f;exact(iZ g).elim
 |succ d u =>
  intro x y v p g f;cases x with
  |k a =>
   cases y with
   |k b=>rw[w_ g f]
   |t l=>obtain⟨b,_,rfl,_⟩:=f;exact(iZ g).elim
   |s l=>obtain⟨b,_,rfl,_⟩:=f;exact(iZ g).elim
  |t l =>
   obtain⟨a,i,rfl,z,g⟩:=g;cases y with
   |k b=>exact(iZ f).elim
   |t m =>
    obtain⟨I,j,e,q,f⟩:=f;cases e;rw[Bb q z]at f;rw[r d (fun J=>u J) l m i.toList (by have:DT.depths l+1<=d+1:=p;omega) g f]
   |s m =>
    obtain⟨I,j,e,q,f⟩:=f;cases e;exact(kD q z).elim
  |s l =>
   obtain⟨a,i,rfl,z,g⟩:=g;cases y with
   |k b=>exact(iZ f).elim
   |s m =>
    obtain⟨I,j,e,q,f⟩:=f;cases e;rw[CZ q z]at f;rw[r d (fun J=>u J) l m i.toList (by have:DT.depths l+1<=d+1:=p;omega) g f]
   |t m =>
    obtain⟨I,j,e,q,f⟩:=f;cases e;exact(kD z q).elim
theorem gQ{l m:List DT}(g:l.length=m.length):((lU l.length).all fun j=>decide (l[j]?=m[j]?))=decide (l=m):=by
 by_cases e:l=m
 ·subst e;simp
 ·rw[zzr0 e];rw[List.all_eq_false];apply Classical.byContradiction;intro h;apply e;apply List.ext_getElem?;intro i;by_cases f:i<l.length
  ·apply Classical.byContradiction;intro a;exact h ⟨i,List.mem_range.mpr f,by simpa using a⟩
  ·rw[xZ (by omega),xZ (by omega)]
section
variable{s:Shared}
theorem J9:∀(d:Nat) {A:Around}{x y:DT}{u v:Value},y.depth<=d->A.units+d<cLine->tK s.heap x u->tK s.heap y v->bv A s u v (decide (x=y)):=by
 have leaves:∀{A:Around}{a b:fG}{u v:Value},dw a u=true->dw b v=true->bv A s u v (decide (DT.k a=DT.k b)):=by
  intro A a b u v D I;have M:decide (DT.k a=DT.k b)=decide (a=b):=by
   by_cases e:a=b
   ·subst e;simp
   ·have:¬(DT.k a=DT.k b):=fun z=>e (by injection z);rw[zzr0 this,zzr0 e]
  rw[M];rcases aD D with⟨i,t,rfl,rfl⟩|⟨i,t,rfl,rfl⟩
  ·rcases aD I with⟨j,u,rfl,rfl⟩|⟨j,u,rfl,rfl⟩
   ·rw[zE];exact bv.int_int i t j u
   ·rw[zD];exact bv.int_str i t j u
  ·rcases aD I with⟨j,u,rfl,rfl⟩|⟨j,u,rfl,rfl⟩
   ·rw[zB];exact bv.str_int i t j u
   ·rw[zt];have:=bv.str_str (A:=A) (s:=s) i t j u;rwa[show(i==j)=decide (i=j)from by by_cases e:i=j<;>simp[e]]at this
 have kt:∀{A:Around}{a:fG}{u:Value}{b:Addr}{items:Array Value},A.units<cLine->dw a u=true->s.heap.IsTuple b items->bv A s u (.ref b) false/\bv A s (.ref b) u false:=by
  intro A a u b items p D C;rcases aD D with⟨i,t,rfl,rfl⟩|⟨i,t,rfl,rfl⟩
  ·exact⟨bv.int_tuple i t C p,bv.tuple_int i t C p⟩
  ·exact⟨bv.str_tuple i t C p,bv.tuple_str i t C p⟩
 have N:∀{A:Around}{a:fG}{u:Value}{b:Addr}{items:Array Value},A.units<cLine->dw a u=true->s.heap.IsList b items->bv A s u (.ref b) false/\bv A s (.ref b) u false:=by
  intro A a u b items p D C;rcases aD D with⟨i,t,rfl,rfl⟩|⟨i,t,rfl,rfl⟩
  ·exact⟨bv.int_list i t C p,bv.list_int i t C p⟩
  ·exact⟨bv.str_list i t C p,bv.list_str i t C p⟩
 intro d
 induction d with
 |zero =>
  intro A x y u v w p g f;cases y with
  |t l=>exact absurd w (by show ¬(DT.depths l+1<=0);omega)
  |s l=>exact absurd w (by show ¬(DT.depths l+1<=0);omega)
  |k b =>
   cases x with
   |t l =>
    obtain⟨a,i,rfl,h,_⟩:=g;rw[zzr0 (by intro z;cases z)];exact(kt (by omega) f h).2
   |s l =>
    obtain⟨a,i,rfl,h,_⟩:=g;rw[zzr0 (by intro z;cases z)];exact(N (by omega) f h).2
   |k a=>exact leaves g f
 |succ d U =>
  intro A x y u v w p g f;have items:∀{l m:List DT}{i j:Array Value},DT.depths m<=d->DAts s.heap l i.toList->DAts s.heap m j.toList->∀n (D:n<i.size) (I:n<j.size),bv A.in1 s i[n] j[n] (decide (l[n]?=m[n]?)):=by
   intro l m i j J h B n D I;obtain⟨x,ex,g⟩:=h.get (i:=n) (v:=i[n]) (by simp[D]);obtain⟨y,T,f⟩:=B.get (i:=n) (v:=j[n]) (by simp[I]);rw[ex,T];have M:decide ((some x:Option DT)=some y)=decide (x=y):=by
    by_cases e:x=y
    ·subst e;simp
    ·rw[zzr0 e,zzr0 fun z=>e (fJ z)]
   rw[M];exact U (DT.depths_get J T) (by show A.units+1+d<cLine;omega) g f
  cases x with
  |k a =>
   cases y with
   |k b=>exact leaves g f
   |t l =>
    obtain⟨b,i,rfl,h,_⟩:=f;rw[zzr0 (by intro z;cases z)];exact(kt (by omega) g h).1
   |s l =>
    obtain⟨b,i,rfl,h,_⟩:=f;rw[zzr0 (by intro z;cases z)];exact(N (by omega) g h).1
  |t l =>
   have E:=g;obtain⟨a,i,rfl,h,g⟩:=g;cases y with
   |k b =>
    rw[zzr0 (by intro z;cases z)];exact(kt (by omega) f h).2
   |s m =>
    obtain⟨b,j,rfl,B,_⟩:=f;rw[zzr0 (by intro z;cases z)];exact bv.tuple_list h B (by omega)
   |t m =>
    have J:DT.depths m<=d:=by have:DT.depths m+1<=d+1:=w;omega
    have G:=f;obtain⟨b,j,rfl,B,f⟩:=f;by_cases o:a=b
    ·subst o;have e:DT.t l=DT.t m:=tK.inj _ (aB _) E G;rw[zzr1 e];exact bv.same _
    ·have r:=SeqAt.RcAt.tuples (A:=A) h B (by omega) (items J g f);have L:=g.length;have O:=f.length;simp only[ma]at L O;have q:((lU (min i.size j.size)).all (fun n=>decide (l[n]?=m[n]?)) && i.size==j.size)=decide (DT.t l=DT.t m):=by
      by_cases e:l.length=m.length
      ·have Q:i.size=j.size:=by omega
       rw[<-Q,Nat.min_self,<-L,gQ e];by_cases H:l=m
       ·subst H;simp
       ·have:¬(DT.t l=DT.t m):=fun z=>H (by injection z);rw[zzr0 this,zzr0 H];rfl
      ·have Q:(i.size==j.size)=false:=by simp;omega
       have:¬(DT.t l=DT.t m):=fun z=>e (by injection z with z;rw[z]);rw[Q,zzr0 this,ye]
     rw[q]at r;exact .of_refs o r
  |s l =>
   have E:=g;obtain⟨a,i,rfl,h,g⟩:=g;cases y with
   |k b =>
    rw[zzr0 (by intro z;cases z)];exact(N (by omega) f h).2
   |t m =>
    obtain⟨b,j,rfl,B,_⟩:=f;rw[zzr0 (by intro z;cases z)];exact bv.list_tuple h B (by omega)
   |s m =>
    have J:DT.depths m<=d:=by have:DT.depths m+1<=d+1:=w;omega
    have G:=f;obtain⟨b,j,rfl,B,f⟩:=f;by_cases o:a=b
    ·subst o;have e:DT.s l=DT.s m:=tK.inj _ (aB _) E G;rw[zzr1 e];exact bv.same _
    ·have L:=g.length;have O:=f.length;simp only[ma]at L O;by_cases e:l.length=m.length
     ·have r:=SeqAt.RcAt.lists (A:=A) h B (by omega) (by omega) (items J g f);rw[<-L,gQ e]at r;have q:decide (l=m)=decide (DT.s l=DT.s m):=by
       by_cases H:l=m
       ·subst H;simp
       ·have:¬(DT.s l=DT.s m):=fun z=>H (by injection z);rw[zzr0 this,zzr0 H]
      rw[q]at r;exact .of_refs o r
     ·have:¬(DT.s l=DT.s m):=fun z=>e (by injection z with z;rw[z]);rw[zzr0 this];exact .of_refs o (SeqAt.RcAt.lists_lengths h B (by simp;omega) (by omega))
end
theorem Ey(a b:fG):decide (DT.k a=DT.k b)=decide (a=b):=by
 by_cases e:a=b
 ·subst e;simp
 ·rw[zzr0 e,zzr0 fun z=>e (by injection z)]
theorem J_(l m:List DT):decide (DT.t l=DT.t m)=decide (l=m):=by
 by_cases e:l=m
 ·subst e;simp
 ·rw[zzr0 e,zzr0 fun z=>e (by injection z)]
theorem Ka(l m:List DT):decide (DT.s l=DT.s m)=decide (l=m):=by
 by_cases e:l=m
 ·subst e;simp
 ·rw[zzr0 e,zzr0 fun z=>e (by injection z)]
theorem HS(x y:DT):decide ((some x:Option DT)=some y)=decide (x=y):=by
 by_cases e:x=y
 ·subst e;simp
 ·rw[zzr0 e,zzr0 fun z=>e (fJ z)]
section
variable{A:Around}{s:Shared}
theorem p_{d:Nat}(g:A.units+1+d<cLine){l m:List DT}{i j:Array Value}(h:DT.depths m<=d)(k:DAts s.heap l i.toList)(o:DAts s.heap m j.toList):
  ∀n (a:n<i.size) (e:n<j.size),bv A.in1 s i[n] j[n] (decide (l[n]?=m[n]?)):=by
 intro n a e;obtain⟨x,ex,p⟩:=k.get (i:=n) (v:=i[n]) (by simp[a]);obtain⟨y,f,q⟩:=o.get (i:=n) (v:=j[n]) (by simp[e]);rw[ex,f,HS];exact J9 d (DT.depths_get h f) g p q
theorem DP{l m:List DT}{i j:Array Value}(g:DAts s.heap l i.toList)(h:DAts s.heap m j.toList):((lU (min i.size j.size)).all (fun n=>decide (l[n]?=m[n]?)) && i.size==j.size)=decide (l=m):=by
 have f:=g.length;have k:=h.length;simp only[ma]at f k;by_cases e:l.length=m.length
 ·have a:i.size=j.size:=by omega
  rw[<-a,Nat.min_self,<-f,gQ e];simp
 ·have a:(i.size==j.size)=false:=by simp;omega
  rw[a,zzr0 fun z=>e (by rw[z]),ye]
theorem Lo{x y:DT}{u v:Value}(q:y.depth<=14)(C:A.units+16<cLine)(o:tK s.heap x u)(f:tK s.heap y v):SeqAt.RcAt A s u v (decide (x=y)):=by
 cases x with
 |k a =>
  rcases aD (show dw a u=true from o)with⟨i,t,rfl,rfl⟩|⟨i,t,rfl,rfl⟩
  ·cases y with
   |k b =>
    rw[Ey];rcases aD (show dw b v=true from f)with⟨j,h,rfl,rfl⟩|⟨j,h,rfl,rfl⟩
    ·rw[zE];exact SeqAt.RcAt.int_int i t j h
    ·rw[zD];exact SeqAt.RcAt.int_str i t j h
   |t m=>obtain⟨b,j,rfl,g,_⟩:=f;rw[zzr0 (by intro z;cases z)];exact SeqAt.RcAt.int_tuple i t g (by omega)
   |s m=>obtain⟨b,j,rfl,g,_⟩:=f;rw[zzr0 (by intro z;cases z)];exact SeqAt.RcAt.int_list i t g (by omega)
  ·cases y with
   |k b =>
    rw[Ey];rcases aD (show dw b v=true from f)with⟨j,h,rfl,rfl⟩|⟨j,h,rfl,rfl⟩
    ·rw[zB];exact SeqAt.RcAt.str_int i t j h
    ·rw[zt];have:=SeqAt.RcAt.str_str (A:=A) (s:=s) i t j h;rwa[show(i==j)=decide (i=j)from by by_cases e:i=j<;>simp[e]]at this
   |t m=>obtain⟨b,j,rfl,g,_⟩:=f;rw[zzr0 (by intro z;cases z)];exact SeqAt.RcAt.str_tuple i t g (by omega)
   |s m=>obtain⟨b,j,rfl,g,_⟩:=f;rw[zzr0 (by intro z;cases z)];exact SeqAt.RcAt.str_list i t g (by omega)
 |t l =>
  obtain⟨a,i,rfl,n,o⟩:=o;cases y with
  |k b =>
   rw[zzr0 (by intro z;cases z)];rcases aD (show dw b v=true from f)with⟨j,h,rfl,rfl⟩|⟨j,h,rfl,rfl⟩
   ·exact SeqAt.RcAt.tuple_int j h n (by omega)
   ·exact SeqAt.RcAt.tuple_str j h n (by omega)
  |t m =>
   obtain⟨b,j,rfl,g,f⟩:=f;have p:DT.depths m<=13:=by have:DT.depths m+1<=14:=q;omega
   have r:=SeqAt.RcAt.tuples (A:=A) n g (by omega) (p_ (by omega) p o f);rw[DP o f]at r;rw[J_];exact r
  |s m=>obtain⟨b,j,rfl,g,_⟩:=f;rw[zzr0 (by intro z;cases z)];exact SeqAt.RcAt.tuple_list n g (by omega)
 |s l =>
  obtain⟨a,i,rfl,n,o⟩:=o;cases y with
  |k b =>
   rw[zzr0 (by intro z;cases z)];rcases aD (show dw b v=true from f)with⟨j,h,rfl,rfl⟩|⟨j,h,rfl,rfl⟩
   ·exact SeqAt.RcAt.list_int j h n (by omega)
   ·exact SeqAt.RcAt.list_str j h n (by omega)
  |t m=>obtain⟨b,j,rfl,g,_⟩:=f;rw[zzr0 (by intro z;cases z)];exact SeqAt.RcAt.list_tuple n g (by omega)
  |s m =>
   obtain⟨b,j,rfl,g,f⟩:=f;have p:DT.depths m<=13:=by have:DT.depths m+1<=14:=q;omega
   have w:=o.length;have B:=f.length;simp only[ma]at w B;rw[Ka];by_cases e:l.length=m.length
   ·have r:=SeqAt.RcAt.lists (A:=A) n g (by omega) (by omega) (p_ (by omega) p o f);rw[<-w,gQ e]at r;exact r
   ·rw[zzr0 fun z=>e (by rw[z])];exact SeqAt.RcAt.lists_lengths n g (by simp;omega) (by omega)
theorem Lp{x y:DT}{u v:Value}(q:y.depth<=14)(C:A.units+16<cLine)(o:tK s.heap x u)(f:tK s.heap y v):SeqAt.RcNeAt A s u v (!decide (x=y)):=by
 cases x with
 |k a =>
  rcases aD (show dw a u=true from o)with⟨i,t,rfl,rfl⟩|⟨i,t,rfl,rfl⟩
  ·cases y with
   |k b =>
    rw[Ey];rcases aD (show dw b v=true from f)with⟨j,h,rfl,rfl⟩|⟨j,h,rfl,rfl⟩
    ·rw[zE];exact SeqAt.RcNeAt.int_int i t j h
    ·rw[zD];exact SeqAt.RcNeAt.int_str i t j h
   |t m=>obtain⟨b,j,rfl,g,_⟩:=f;rw[zzr0 (by intro z;cases z)];exact SeqAt.RcNeAt.int_tuple i t g (by omega)
   |s m=>obtain⟨b,j,rfl,g,_⟩:=f;rw[zzr0 (by intro z;cases z)];exact SeqAt.RcNeAt.int_list i t g (by omega)
  ·cases y with
   |k b =>
    rw[Ey];rcases aD (show dw b v=true from f)with⟨j,h,rfl,rfl⟩|⟨j,h,rfl,rfl⟩
    ·rw[zB];exact SeqAt.RcNeAt.str_int i t j h
    ·rw[zt];have:=SeqAt.RcNeAt.str_str (A:=A) (s:=s) i t j h;rwa[show(i==j)=decide (i=j)from by by_cases e:i=j<;>simp[e]]at this
   |t m=>obtain⟨b,j,rfl,g,_⟩:=f;rw[zzr0 (by intro z;cases z)];exact SeqAt.RcNeAt.str_tuple i t g (by omega)
   |s m=>obtain⟨b,j,rfl,g,_⟩:=f;rw[zzr0 (by intro z;cases z)];exact SeqAt.RcNeAt.str_list i t g (by omega)
 |t l =>
  obtain⟨a,i,rfl,n,o⟩:=o;cases y with
  |k b =>
   rw[zzr0 (by intro z;cases z)];rcases aD (show dw b v=true from f)with⟨j,h,rfl,rfl⟩|⟨j,h,rfl,rfl⟩
   ·exact SeqAt.RcNeAt.tuple_int j h n (by omega)
   ·exact SeqAt.RcNeAt.tuple_str j h n (by omega)
  |t m =>
   obtain⟨b,j,rfl,g,f⟩:=f;have p:DT.depths m<=13:=by have:DT.depths m+1<=14:=q;omega
   have r:=SeqAt.RcNeAt.tuples (A:=A) n g (by omega) (p_ (by omega) p o f);rw[DP o f]at r;rw[J_];exact r
  |s m=>obtain⟨b,j,rfl,g,_⟩:=f;rw[zzr0 (by intro z;cases z)];exact SeqAt.RcNeAt.tuple_list n g (by omega)
 |s l =>
  obtain⟨a,i,rfl,n,o⟩:=o;cases y with
  |k b =>
   rw[zzr0 (by intro z;cases z)];rcases aD (show dw b v=true from f)with⟨j,h,rfl,rfl⟩|⟨j,h,rfl,rfl⟩
   ·exact SeqAt.RcNeAt.list_int j h n (by omega)
   ·exact SeqAt.RcNeAt.list_str j h n (by omega)
  |t m=>obtain⟨b,j,rfl,g,_⟩:=f;rw[zzr0 (by intro z;cases z)];exact SeqAt.RcNeAt.list_tuple n g (by omega)
  |s m =>
   obtain⟨b,j,rfl,g,f⟩:=f;have p:DT.depths m<=13:=by have:DT.depths m+1<=14:=q;omega
   have w:=o.length;have B:=f.length;simp only[ma]at w B;rw[Ka];by_cases e:l.length=m.length
   ·have r:=SeqAt.RcNeAt.lists (A:=A) n g (by omega) (by omega) (p_ (by omega) p o f);rw[<-w,gQ e]at r;exact r
   ·rw[zzr0 fun z=>e (by rw[z])];exact SeqAt.RcNeAt.lists_lengths n g (by simp;omega) (by omega)
end
mutual
def vE(K:Za)(H:Hp):DT->V->Prop
 |.k a,v=>v=kV a
 |.t l,v=>∃b xs,v=.ref b/\bQ K H b xs/\DIns K H l xs
 |.s l,v=>∃b xs,v=.ref b/\aw K H b xs/\DIns K H l xs
def DIns(K:Za)(H:Hp):List DT->List V->Prop
 |[],vs=>vs=[]
 |k::r,vs=>∃v us,vs=v::us/\vE K H k v/\DIns K H r us
end
section
variable{X:Cx}{J3:Zd}{σ:St}{H:Hp}{s:Shared}
theorem oK(I:Inv X J3 σ H s):∀(d:Nat) {k:DT}{v:V}{u:Value},k.depth<=d->vE X.K H k v->RelV v u->tK s.heap k u:=by
 have h:∀(d:Nat) (i:∀{k:DT}{v:V}{u:Value},k.depth<=d->vE X.K H k v->RelV v u->tK s.heap k u) (ks:List DT) (j:List V) (o:Zf),DT.depths ks<=d->DIns X.K H ks j->ba j o->DAts s.heap ks o:=by
  intro d i ks
  induction ks with
  |nil =>
   intro j o _ f r;have e:j=[]:=f;subst e;cases r
   rfl
  |cons k ks p =>
   intro j o g f r;obtain⟨v,q,rfl,m,C⟩:=f;cases r with
   |@cons _ u _ n D E =>
    have G:max k.depth (DT.depths ks)<=d:=g;exact⟨u,n,rfl,i (by omega) m D,p q n (by omega) C E⟩
 intro d
 induction d with
 |zero =>
  intro k v u g f r;cases k with
  |t l=>exact absurd g (by show ¬(DT.depths l+1<=0);omega)
  |s l=>exact absurd g (by show ¬(DT.depths l+1<=0);omega)
  |k b =>
   have e:v=kV b:=f;subst e;exact pW (P:=X.prog) (w:=X.w) r
 |succ d i =>
  intro k v u g f r;cases k with
  |k b =>
   have e:v=kV b:=f;subst e;exact pW (P:=X.prog) (w:=X.w) r
  |t l =>
   obtain⟨b,x,rfl,y,z⟩:=f;cases(show u=Value.ref b from r);obtain⟨a,A,B,_⟩:=I.tuple y;exact⟨b,a.toArray,rfl,B,by simpa using h d (fun m=>i m) l x a (by have:DT.depths l+1<=d+1:=g;omega) z A⟩
  |s l =>
   obtain⟨b,x,rfl,y,z⟩:=f;cases(show u=Value.ref b from r);obtain⟨a,A,B,_⟩:=I.list y;exact⟨b,a.toArray,rfl,B.isList,by simpa using h d (fun m=>i m) l x a (by have:DT.depths l+1<=d+1:=g;omega) z A⟩
theorem qb(I:Inv X J3 σ H s):∀{a:List DT}{f:List V}{g:Zf},DT.depths a<=8->DIns X.K H a f->ba f g->DAts s.heap a g
 |[],f,g,_,h,r=>by
  have e:f=[]:=h;subst e;cases r
  rfl
 |k::a,f,g,j,h,r=>by
  obtain⟨v,l,rfl,m,n⟩:=h;cases r with
  |@cons _ u _ i o p =>
   have q:max k.depth (DT.depths a)<=8:=j;exact⟨u,i,rfl,oK I 8 (by omega) m o,qb I (by omega) n p⟩
end
def mC(K:Za):R2:=fun x y H Q=>∃d e:DT,vE K H d x/\vE K H e y/\d.depth<=8/\e.depth<=8/\Q (.bl (decide (d=e))) H
def wm(K:Za):R2:=fun x y H Q=>∃d e:DT,vE K H d x/\vE K H e y/\d.depth<=8/\e.depth<=8/\Q (.bl (!decide (d=e))) H
section
variable{X:Cx}
theorem g_(f:X.A.units+16<cLine):nS X (fP .Eq) (mC X.K):=by
 intro m s σ H x y v u Q I g i h;obtain⟨d,e,j,k,l,a,q⟩:=h;exact Lo (aE a (by decide)) f (oK I 8 l j g) (oK I 8 a k i) X.prog X.w X.xe _ ⟨.bl _,H,I,rfl,q⟩
theorem rf(f:X.A.units+16<cLine):nS X (fP .NotEq) (wm X.K):=by
 intro m s σ H x y v u Q I g i h;obtain⟨d,e,j,k,l,a,q⟩:=h;exact Lp (aE a (by decide)) f (oK I 8 l j g) (oK I 8 a k i) X.prog X.w X.xe _ ⟨.bl _,H,I,rfl,q⟩
def pL(K:Za)(neg:Bool):R2:=fun x y H Q=>∃(d:DT) (ds:List DT) (p:Addr) (xs:List V),vE K H d x/\y=.ref p/\(aw K H p xs∨bQ K H p xs)/\DIns K H ds xs/\d.depth<=8/\DT.depths ds<=8/\Q (.bl (if neg then !decide (d∈ds)else decide (d∈ds))) H
open Classical in
theorem qh{h:Heap}{d:DT}(g:d.depth<=8):∀{a:List DT}{f:Zf},DAts h a f->DT.depths a<=8->f.any (fun u=>@decide (tK h d u) (propDecidable _))=decide (d∈a)
 |[],f,e,_=>by
  have j:f=[]:=e;subst j
  rfl
 |x::a,f,e,k=>by
  obtain⟨u,l,rfl,i,m⟩:=e;have o:max x.depth (DT.depths a)<=8:=k;rw[qG,qh g m (by omega)];by_cases q:d=x
  ·subst q;simp[i]
  ·have n:¬tK h d u:=fun z=>q (tK.inj 8 g z i);simp[n,q]
open Classical in
theorem uW{A:Around}{s:Shared}{d:DT}{v:Value}(g:d.depth<=8)(i:A.units+8<cLine)(j:tK s.heap d v):∀{f:List DT}{a:Zf},DAts s.heap f a->DT.depths f<=8->∀u∈a,bv A s u v (@decide (tK s.heap d u) (propDecidable _))
 |[],a,e,_,u,hm=>by
  have k:a=[]:=e;subst k;cases hm
 |x::f,a,e,l,u,hm=>by
  obtain⟨r,m,rfl,h,o⟩:=e;have p:max x.depth (DT.depths f)<=8:=l;rcases cC.mp hm with rfl|hm
  ·have q:=J9 8 (A:=A) g i h j;by_cases z:x=d
   ·subst z;rw[zzr1 h];rwa[zzr1 rfl]at q
   ·have n:¬tK s.heap d u:=fun w=>z (tK.inj 8 g w h).symm;rw[zzr0 n];rwa[zzr0 z]at q
  ·exact uW g i j o (by omega) u hm
theorem zf(B:X.A.units+16<cLine):nS X (fP .In) (pL X.K false):=by
 intro C s σ H x y v u Q I n o h;obtain⟨d,D,p,E,t,rfl,hq,e,f,a,q⟩:=h;cases o;have m:=oK I 8 f t n;have g:X.A.in1.units+8<cLine:=by show X.A.units+1+8<cLine;omega
 rcases hq with hq|hq
 ·obtain⟨j,r,k,z⟩:=I.list hq;have i:=qb I a e r;refine SeqAt.in_listAt _ k.isList (fun w l=>uW f g m i a w (by simpa using l)) ⟨.bl _,H,I,rfl,?_⟩;rw[xY,qh f i a];exact q
 ·obtain⟨j,r,k,z⟩:=I.tuple hq;have i:=qb I a e r;refine SeqAt.in_tupleAt _ k (fun w l=>uW f g m i a w (by simpa using l)) ⟨.bl _,H,I,rfl,?_⟩;rw[xY,qh f i a];exact q
theorem kC(B:X.A.units+16<cLine):nS X (fP .NotIn) (pL X.K true):=by
 intro C s σ H x y v u Q I n o h;obtain⟨d,D,p,E,t,rfl,hq,e,f,a,q⟩:=h;cases o;have m:=oK I 8 f t n;have g:X.A.in1.units+8<cLine:=by show X.A.units+1+8<cLine;omega
 rcases hq with hq|hq
 ·obtain⟨j,r,k,z⟩:=I.list hq;have i:=qb I a e r;refine SeqAt.notIn_listAt _ k.isList (fun w l=>uW f g m i a w (by simpa using l)) ⟨.bl _,H,I,rfl,?_⟩;rw[xY,qh f i a];exact q
 ·obtain⟨j,r,k,z⟩:=I.tuple hq;have i:=qb I a e r;refine SeqAt.notIn_tupleAt _ k (fun w l=>uW f g m i a w (by simpa using l)) ⟨.bl _,H,I,rfl,?_⟩;rw[xY,qh f i a];exact q
end
def vh(z:Str)(lo hi:Option Int):Str:=⟨((z.cps.toList.drop (HT.sIx z.length 0 lo)).take (HT.sIx z.length z.length hi-HT.sIx z.length 0 lo)).toArray⟩
theorem sliceRange_one(a b:Nat):t5 (a:Int) (b:Int) 1=(lU (b-a)).map (fun k=>a+k):=by
 unfold t5;simp only[show(1:Int) > 0 from by decide,if_true];by_cases h:(a:Int)<(b:Int)
 ·have e:(if(a:Int)<(b:Int)then((b:Int)-a+1-1) / 1 else 0).toNat=b-a:=by rw[if_pos h];omega
  rw[e];exact List.map_congr_left fun k _=>by omega
 ·have e:(if(a:Int)<(b:Int)then((b:Int)-a+1-1) / 1 else 0).toNat=b-a:=by rw[if_neg h];omega
  rw[e];exact List.map_congr_left fun k _=>by omega
theorem Br(v:Option Int)(n d:Nat):(match v with|none=>(d:Int)|some i=>max 0 (min (if i<0 then i+(n:Int)else i) (n:Int)))=((HT.sIx n d v:Nat):Int):=by
 cases v with
 |none=>rfl
 |some i =>
  rw[<-HT.clip_eq i n d];dsimp only;by_cases h:i<0
  ·rw[if_pos h,if_pos h];omega
  ·rw[if_neg h,if_neg h];omega
theorem pG(lo a:Option Int)(n:Nat):t4 lo a 1 n=(lU (HT.sIx n n a-HT.sIx n 0 lo)).map (fun k=>HT.sIx n 0 lo+k):=by
 have e:=Br lo n 0;have f:=Br a n n;rw[<-sliceRange_one,<-e,<-f];unfold t4;simp only[show(1:Int) > 0 from by decide,if_true];cases lo<;>cases a<;>rfl
theorem EY(z:Str)(lo e:Option Int):Txt.slice z lo e=vh z lo e:=by
 have l:HT.sIx z.length 0 lo<=z.length:=HT.sIx_le _ _ (dI _) _;have m:HT.sIx z.length z.length e<=z.length:=HT.sIx_le _ _ (aB _) _;have g:z.cps.toList.length=z.length:=by simp[Str.length]
 have f:(t4 lo e 1 z.length).filterMap (z.cps[·]?)=(z.cps.toList.drop (HT.sIx z.length 0 lo)).take (HT.sIx z.length z.length e-HT.sIx z.length 0 lo):=by
  rw[pG];generalize HT.sIx z.length 0 lo=a at *;generalize HT.sIx z.length z.length e=b at *;have h:=StrLaws.picks z.cps.toList (b-a) a (by omega);simpa using h
 unfold Txt.slice;by_cases h:((1:Int)==1 && (t4 lo e 1 z.length).length==z.length)=true
 ·rw[if_pos h];have i:(t4 lo e 1 z.length).length=z.length:=by simpa using h
  rw[pG,ah,List.length_range]at i;unfold vh;have j:HT.sIx z.length 0 lo=0:=by omega
  have k:HT.sIx z.length z.length e-HT.sIx z.length 0 lo=z.cps.toList.length:=by omega
  rw[k,j,tZ,be]
 ·rw[if_neg h];unfold vh;rw[f]
section
variable{X:Cx}
def Ja:V->Option Int->Option Int->Hp->VK->Prop:=fun x lo hi H Q=>∃z,x=.str z/\z.length<=aj/\Q (.str (vh z lo hi)) H
theorem Ct:SlR X Ja:=by
 intro g s σ H x v m n lo p r Q I y B C f h;obtain⟨z,rfl,D,q⟩:=h;obtain⟨t,rfl⟩:=y;rw[<-EY]at q;refine⟨"str",_,F.slot_str_getitem.lookup,typeIs_str _ _ _,?_⟩;obtain⟨o,E,G,J⟩:=B;have a:∀(l u:Option (Int×Tok)),m=partValue l->n=partValue u->lo=l.map (·.1)->p=u.map (·.1)->wpAny (model X.prog X.w) X.A (og (.str z t) (.ref r)) (EP X g σ Q) X.xe s:=by
  rintro l u rfl rfl rfl rfl;refine wpAny_getItem_str_slice (l:=l) (u:=u) (st:=none) ⟨o,E,G,J⟩ rfl (post_val_or_str ⟨aE (Txt.slice_le z _ _) D,fun e k=>⟨.str _,H,I.tok _,⟨_,rfl⟩,q⟩⟩)
 cases C with
 |none =>
  cases f with
  |none=>exact a none none rfl rfl rfl rfl
  |int j u=>exact a none (some (j,u)) rfl rfl rfl rfl
 |int i e =>
  cases f with
  |none=>exact a (some (i,e)) none rfl rfl rfl rfl
  |int j u=>exact a (some (i,e)) (some (j,u)) rfl rfl rfl rfl
def JT(K:Za):V->List V->Hp->VK->Prop:=fun x vs H Q=>∃z p ys,x=.str z/\vs=[.ref p]/\aw K H p (ys.map V.str)/\(ys.map (·.length)).sum+ys.length * z.length<=16777216/\Q (.str (xX z ys)) H
theorem IJ{a:Zb}:∀{us:Zf},ba (a.map V.str) us->StrsAre us a:=by
 induction a with
 |nil=>intro us r;cases r;exact .nil
 |cons y a e =>
  intro us r;cases r with
  |cons f g =>
   obtain⟨t,rfl⟩:=f;exact .cons _ _ (e g)
theorem Jm:KO X "str.join" (JT X.K):=by
 intro m s σ H x n v o Q I a e h;obtain⟨z,p,w,rfl,rfl,f,g,q⟩:=h;obtain⟨t,rfl⟩:=a;obtain⟨u,rfl,i⟩:=e.one;cases i;obtain⟨j,r,l,_⟩:=I.list f;exact join_list l.isList (by simpa using IJ r) g fun y k=>⟨.str _,H,I.tok _,⟨_,rfl⟩,q⟩
end
section
variable{X:Cx}
def TyX(K:Za)(H:Hp)(x:V)(t:Value):Prop:=oN K H x t∨(∃a xs,x=.ref a/\t=.type "tuple"/\bQ K H a xs)∨(∃a xs,x=.ref a/\t=.type "list"/\aw K H a xs)
theorem CY{k:Zd}{σ:St}{H:Hp}{s:Shared}{A:Around}{E:Zc}{Q:Zc}{c:Value}{b:Bool}{x:V}{u t:Value}(I:Inv X k σ H s)(f:RelV x u)(ty:TyX X.K H x t)(e:DD X.K t c=some b)(h:∀tk,Q (.bool b) { s with toks:=tk }):
  wpAny (model X.prog X.w) A (call (.builtin "isinstance") [u,c]) Q E s:=by
 rcases ty with ty|⟨a,l,rfl,rfl,q⟩|⟨a,l,rfl,rfl,q⟩
 ·exact FD I f ty e h
 ·cases(show u=Value.ref a from f);obtain⟨g,m,p,r⟩:=I.tuple q;obtain⟨o,i,j,_⟩:=p;exact kb PySem.W.kitx_tuple I.kIn ⟨o,i,j⟩ e (fun z=>nomatch z) h
 ·cases(show u=Value.ref a from f);obtain⟨g,m,p,r⟩:=I.list q;obtain⟨o,n,i,j,_⟩:=p;exact kb PySem.W.kitx_list I.kIn ⟨o,i,j⟩ e (fun z=>nomatch z) h
theorem H_:fV X (.builtin "isinstance") (fun a H Q=>∃x c t b,a=[x,.ty c]/\TyX X.K H x t/\DD X.K t (.type c)=some b/\Q (.bl b) H):=by
 intro i s σ H a j Q I r h;obtain⟨x,c,t,b,rfl,ty,e,q⟩:=h;obtain⟨u,v,rfl,f,g⟩:=vals2 r;cases(show v=Value.type c from g);exact CY I f ty e fun tk=>⟨.bl b,H,I.tok _,rfl,q⟩
theorem Ib{bs:List Bool}{a:Zf}(r:ba (bs.map V.bl) a){i:Nat}{v:Value}(h:a[i]?=some v):v=.bool ((bs[i]?).getD false)/\i<bs.length:=by
 have k:i<a.length:=(bM.mp h).1;have g:=r.length;rw[ah]at g;have e:i<bs.length:=by omega
 obtain⟨u,f,j⟩:=r.get (i:=i) (x:=V.bl bs[i]) (by simp[e]);rw[h]at f;cases f;refine⟨?_,e⟩;rw[da e];exact j
theorem zV(bs:List Bool):((lU bs.length).all fun i=>(bs[i]?).getD false)=bs.all id:=by
 induction bs with
 |nil=>rfl
 |cons b bs a =>
  rw[fO,List.range_succ_eq_map,List.all_cons,List.all_map,List.all_cons,<-a]
  rfl
theorem zU(bs:List Bool):((lU bs.length).any fun i=>(bs[i]?).getD false)=bs.any id:=by
 induction bs with
 |nil=>rfl
 |cons b bs a =>
  rw[fO,List.range_succ_eq_map,qG,List.any_map,qG,<-a]
  rfl
theorem sn(m:X.calm=true):fV X (.builtin "all") (fun j H Q=>∃(p:Addr) (bs:List Bool),j=[.ref p]/\aw X.K H p (bs.map V.bl)/\Q (.bl (bs.all id)) H):=by
 intro t s σ H j G Q I r h;obtain⟨p,bs,rfl,x,q⟩:=h;obtain⟨u,rfl,y⟩:=vals1 r;cases y;obtain⟨a,k,f,J⟩:=I.list x;obtain⟨o,n,z,_⟩:=id f;have l:=k.length;rw[ah]at l;refine call_all_walk (Aj f.isList ?_);refine⟨s.heap.objs.size,_,_,_,_,_,fun i=>(bs[i]?).getD false,rfl,xW (prog:=X.prog) (w:=X.w) (A:=X.A.in1) (I.ok.hd m) s.heap.objs.size p (bW (aO z)) a.toArray,⟨⟨_,du _ rfl,rfl,rfl⟩,f.isList.push _⟩,?_,?_⟩
 ·intro i v L M N B g;obtain⟨e,_⟩:=Ib k (i:=i) (v:=v) (by simpa using B);rw[e];exact rX g
 ·intro C tk D;have E:Inv X t σ H { s with heap:=C,toks:=tk }:=I.kept fun b o e=>D b o (by simp;exact bW (aO e)) (bR _ e);rw[bG,<-l,zV];exact⟨.bl _,H,E,rfl,q⟩
theorem Bu(m:X.calm=true):fV X (.builtin "any") (fun j H Q=>∃(p:Addr) (bs:List Bool),j=[.ref p]/\aw X.K H p (bs.map V.bl)/\Q (.bl (bs.any id)) H):=by
 intro t s σ H j G Q I r h;obtain⟨p,bs,rfl,x,q⟩:=h;obtain⟨u,rfl,y⟩:=vals1 r;cases y;obtain⟨a,k,f,J⟩:=I.list x;obtain⟨o,n,z,_⟩:=id f;have l:=k.length;rw[ah]at l;refine call_any_walk (Aj f.isList ?_);refine⟨s.heap.objs.size,_,_,_,_,_,fun i=>(bs[i]?).getD false,rfl,xW (prog:=X.prog) (w:=X.w) (A:=X.A.in1) (I.ok.hd m) s.heap.objs.size p (bW (aO z)) a.toArray,⟨⟨_,du _ rfl,rfl,rfl⟩,f.isList.push _⟩,?_,?_⟩
 ·intro i v L M N B g;obtain⟨e,_⟩:=Ib k (i:=i) (v:=v) (by simpa using B);rw[e];exact rX g
 ·intro C tk D;have E:Inv X t σ H { s with heap:=C,toks:=tk }:=I.kept fun b o e=>D b o (by simp;exact bW (aO e)) (bR _ e);rw[bG,<-l,zU];exact⟨.bl _,H,E,rfl,q⟩
theorem CO:nS X (fP .In) (fun x y H Q=>∃c j,x=.str ⟨#[c]⟩/\y=.str j/\Q (.bl (decide (c∈j.cps.toList))) H):=by
 intro a s σ H x y v u Q I e f h;obtain⟨c,j,rfl,rfl,q⟩:=h;rw[<-StrLaws.found_one]at q;exact Fo a s σ H _ _ v u Q I e f ⟨_,_,rfl,rfl,q⟩
theorem vo(T:X.calm=true):fV X (.type "list") (fun M H Q=>∃(d:Addr) (f:List (fG×V)),M=[.ref d]/\Rd H d (.dK f)/\∀l,H l=none->Q (.ref l) (upd H l (.lst (f.map fun g=>kV g.1)))):=by
 intro J3 s σ H M us Q I r h;obtain⟨d,f,rfl,U,q⟩:=h;obtain⟨u,rfl,Y⟩:=vals1 r;cases Y;obtain⟨z,n,N,y,dd⟩:=qa I.hok U;obtain⟨ep,E⟩:=dd.dictAt;have hl:=y.length;refine PySem.W.kdl_call (PySem.W.kdl_dict (knd:=cD X.prog X.w) (kvs:=N) (ep:=ep) n) (I.ok.hd T) E (by rw[<-hl];exact z) fun h' tk m c G hD A=>?_;have B:ba (f.map fun g=>kV g.1) m.toList:=by
  obtain⟨hn,hP⟩:=A;have J:∀(a:Zf) (L:List (fG×V)) (C:List (fG×Value)),KV L C->a.length=C.length->(∀(j:Nat) (v:Value),a[j]?=some v->∃k x,C[j]?=some (k,x)/\(cD X.prog X.w).is k v=true)->ba (L.map fun g=>kV g.1) a:=by
   intro a L C rl
   induction rl generalizing a with
   |nil=>intro D _;cases a with
    |nil=>exact .nil
    |cons _ _=>cases D
   |@cons p w' ps al hp _ ih =>
    intro D O;cases a with
    |nil=>cases D
    |cons v a =>
     obtain⟨k,x,e,G⟩:=O 0 v rfl;have e':w'=(k,x):=by simpa using e
     refine .cons ?_ (ih a (by simpa using D) fun j v B=>by simpa using O (j+1) v (by simpa using B));have ek:p.1=k:=by rw[hp.1,e']
     show RelV (kV p.1) v;rw[ek];rcases aD (show dw k v=true from G)with⟨i,t,rfl,rfl⟩|⟨i,t,rfl,rfl⟩
     ·exact⟨t,rfl⟩
     ·exact⟨t,rfl⟩
  exact J m.toList f N y (by rw[ma];exact hn) fun j v B=>hP j v (by rw[<-Array.getElem?_toList];exact B)
 refine⟨.ref s.heap.objs.size,_,I.laid (o:=.lst (f.map fun g=>kV g.1)) G (aB _) ⟨by rw[ah];exact z,m.toList,c,B,by rw[Array.toArray_toList];exact hD⟩,rfl,q _ I.fresh⟩
end
section
variable{prog:b9}{w:World}{K:Type}[DecidableEq K]{knd:HeapKind prog w K}{A:Around}{E:Zc}{s:Shared}
theorem uj{d a:Addr}{h:List (K×Addr×Value)}{k:K}{v:Value}{Q:Zc}(u:knd.room A)(f:knd.is s.heap k a)(C:s.heap.DictOfH knd d h)
  (there:∀p,atKey h k=some p->Q p.2 { s with toks:=s.toks+knd.draws k })
  (new:atKey h k=none->∀r,r.DictOfH knd d (h++[(k,a,v)])->jy d s.heap r->Q v { s with heap:=r,toks:=s.toks+knd.draws k })
  (D:h.length<=aj):wpAny (model prog w) A (dictSetDefault d (.ref a) v) Q E s:=by
 obtain⟨o,I,G,i,H,g,q,l,t⟩:=C;unfold dictSetDefault
 try with_reducible refine i8 ?_
 refine ar (knd.pyHash u f ?_);refine ar (wpAny_dictFind_heap (s:={ s with toks:=s.toks+knd.draws k }) u f i g q l t ?_ ?_)
 ·intro m;have n:k∉h.map (·.1):=not_mem_keys_of_get m;refine ar (uf (ar (wpAny_updateDictKeys (hz:=by have e:=size_of_entries q;omega) (s:={ s with toks:=s.toks+knd.draws k }) i g (aT (new (atKey_none_of_get m) _ ⟨_,_,G+1,jX _ i (Obj.isFreed_of_dict (Obj.data_mapDictKeys g _)),
   H.mapDictKeys _,Obj.data_mapDictKeys g _,?_,?_,?_⟩ (tX ..))))))
  ·simp[q,entryOfKey]
  ·intro x hx;rcases bL.mp hx with hx|hx
   ·exact knd.keeps (l x hx) i g (tX ..)
   ·simp only[dP]at hx;subst hx;exact knd.keeps f i g (tX ..)
  ·rw[av,dk];refine⟨t,by simp,?_⟩;intro x hx y z;simp only[bF,yb,dP]at z;subst z;exact fun e=>n (e▸hx)
 ·intro j p B;refine ar (xV (s:={ s with toks:=s.toks+knd.draws k }) i g ?_);rw[entry_at q j,B];exact ar (uf (aT (there p (atKey_of_get t B))))
theorem pU(knd:HeapKind prog w K)(d a:Addr)(l:(d==iL)=false)(dflt:Value):
  MeetsIn prog w (cb.«dict.setdefault» ⟨[.ref d,.ref a,dflt],[]⟩) (fun A R s=>knd.room A.in1/\∃k e,knd.is s.heap k a/\s.heap.DictOfH knd d e/\e.length<=aj /\
   (∀p,atKey e k=some p->R (.ok (.ret p.2)) { s with toks:=s.toks+knd.draws k }) /\
   (atKey e k=none->∀f,f.DictOfH knd d (e++[(k,a,dflt)])->jy d s.heap f->R (.ok (.ret dflt)) { s with heap:=f,toks:=s.toks+knd.draws k })) :=
 .of_wp fun A R s ⟨m,k,e,g,j,n,o,q⟩=>by
  unfold cb.«dict.setdefault»;refine ar ?_;unfold cb.Dict.keyAndDefault;refine ar (wpAny_notOrdered_dict j.typeIs ?_);show wpAny _ _ (pure (d,Value.ref a,some dflt)) _ _ s;refine aT ?_;show wpAny _ _ (if(d==iL)=true then _ else(dictSetDefault d (.ref a) dflt >>= _)) _ _ s
  rw[if_neg (by rw[l];exact iP)];exact ar (uj m g j (fun p r=>aT ⟨p.2,rfl,o p r⟩) (fun t f h i=>aT ⟨dflt,rfl,q t f h i⟩) n)
end
section
variable{X:Cx}
def DX:V->List V->Hp->VK->Prop:=fun x vs H Q=>∃(d b:Addr) (kvs:List (TK×V)) (k:TK) (z:V),x=.ref d/\vs=[.ref b,z]/\H d=some (.dT kvs)/\cS H k (.ref b)/\k.depth<=8/\kvs.length<aj /\
 (∀v,bb kvs k=some v->Q v H)/\(bb kvs k=none->Q z (upd H d (.dT (kvs++[(k,z)]))))
theorem Ft(D:X.A.units+16<cLine):KO X "dict.setdefault" DX:=by
 intro J3 s σ H x vs v us Q I E G h;obtain⟨d,b,a,k,z,rfl,rfl,l,q,j,hz,J,L⟩:=h;cases E;obtain⟨u,v,rfl,M,r⟩:=G.two;cases M;obtain⟨_,g,m,f,t⟩:=HN I.hok I.kIn l;have hl:a.length=m.length:=Paired.length f;refine t_ PySem.F.slot_dict_setdefault t.typeIs PySem.F.entry_dict_setdefault (PySem.F.args_dict_setdefault_3 _ _ _) (pU (eR X.prog X.w) d b g v)
  ⟨gl D,k,m,zC I.hok I.kIn (cS.c 8 j q) j,t,by omega,fun p N=>?_,fun O h' n T=>?_⟩
 ·have e:=f.val k;rw[N]at e;cases i:bb a k with
  |none=>rw[i]at e;exact e.elim
  |some y =>
   rw[i]at e;exact⟨y,H,I.tok _,e,J y i⟩
 ·have e:=f.val k;rw[O]at e;have i:bb a k=none:=by
   cases i:bb a k with
   |none=>rfl
   |some y=>rw[i]at e;exact e.elim
  obtain⟨o,U,Y,B,h2,h3,h4,_,h5⟩:=n;refine⟨z,_,tH (ob:=.dT (a++[(k,z)])) I (by rw[l];exact ke) T ⟨o,B⟩ ⟨by rw[a_,List.length_singleton];omega,g,_,KT.keeps (kvs:=a++[(k,z)]) (xs:=m++[(k,b,v)]) (ge f ⟨rfl,cS.c 8 j q,j,r⟩) fun c ys C=>?_,o,U,Y,B,h2,h3,h4,h5⟩,r,L i⟩;rw[ai (Ho C l (fun z=>nomatch z))];exact C
end
theorem mL:entryFor table "dict.update.loop"=some cb.«dict.update.loop»:=entryFor_of_fast (by kernel_rfl)
theorem gI:plainId "dict.update.loop"=true:=by decide +kernel
theorem zh:ug (.type "list") "keys"=pure none:=am_miss_of_fast (by decide +kernel)
section
variable{prog:b9}{w:World}{A:Around}{E:Zc}{s:Shared}
theorem Fv{a:Addr}{o:Obj}{m:Array Value}{k:Nat}{Q:Option Value->Shared->Prop}(n:s.heap.get? a=some o)(p:o.cls=.type "list")(f:o.data=.seq m k)(q:o.dict=none)(u:A.handled=none)
  (h:∀l tk,(∀b r,s.heap.get? b=some r->l.get? b=some r)->Q none { s with heap:=l,toks:=tk }):wpAny (model prog w) A (getAttr? (.ref a) "keys") Q E s:=by
 obtain⟨c,v,x,y⟩:=o;simp only at p f q;subst p f q;obtain⟨z,g,d,tk,os⟩:=s;have t:∀i,(⟨z,g,d,i,os⟩:Shared).TypeIs (.ref a) "list":=fun _=>⟨_,n,rfl⟩;have B:=sub_AttributeError;have C:=F.slot_list_getattribute.lookup;have D:=F.slot_list_getattribute.bind (.ref a);have G:=am_list_getattr_none;unfold getAttr? getAttrBy? getAttrBy
 repeat (any_goals (first|assumption|exact t _|((with_reducible show wpAny _ _ (call (Value.builtin "list.__getattribute__") _ _) _ _ _);refine qH F.slot_list_getattribute (t _) am_entry_list_getattribute (F.args_list_getattribute_2 _ _) (meets_getattribute_miss_list a m k y "keys" _ zh (by decide +kernel) (by decide +kernel)) ⟨n,u,fun l i e j=>?_⟩)|wp_step))
 obtain⟨H,I,J⟩:=j.there;show wpAny _ _ (getattributeRaised _ _ _ _ _ _ _) _ _ _;unfold getattributeRaised hookOrError attributeErrorLeaves
 repeat (any_goals (first|assumption|wp_step))
 all_goals first|exact h _ _ j.keeps|trace_state
def Do(h:Heap)(u:Value)(kv:fG×Value):Prop:=∃t ku,u=.ref t/\h.IsTuple t #[ku,kv.2]/\dw kv.1 ku=true
theorem Cq{κ:Type}[DecidableEq κ](a:List (κ×Value))(k:κ)(v:Value):(stored a k v).length<=a.length+1:=by
 unfold stored;split
 ·rw[ah];omega
 ·rw[a_,List.length_singleton];exact aB _
theorem Gp{R:Result->Shared->Prop}(hh:A.handled=none){D it l:Addr}{items:Array Value}{ps:List (fG×Value)}(B:D≠it)(T:l≠it)(U:l≠D)(bc:ps.length=items.size):
  ∀(n i:Nat) (s:Shared) (a:List (fG×Value)),items.size-i=n->i<=items.size->a.length+(items.size-i)<=aj->s.heap.IsListIter it l i->s.heap.IsList l items->s.heap.DictOf (cD prog w) D a ->
   (∀(j:Nat) (u:Value) (N:fG×Value),items[j]?=some u->ps[j]?=some N->Do s.heap u N) ->
   (∀z tk,z.DictOf (cD prog w) D (merged a (ps.drop i))->(∀b o,b≠D->b≠it->s.heap.get? b=some o->z.get? b=some o)->R (.ok (.ret .none)) { s with heap:=z,toks:=tk }) ->
   zzl79 (model prog w) A (.builtin "dict.update.loop" ⟨[.ref D,.ref it,rawInt i,.none],[]⟩) R s:=by
 intro n
 induction n with
 |zero =>
  intro i s a hn hi hz p O Q Y hR;have e:i=items.size:=by omega
  subst e;refine i7 mL ?_;rw[i6 gI _];show wpAny _ A.in1 (pyNext (.ref it) >>= _) _ _ s;refine ar (wpAny_pyNext_list_end hh p O (by simp) fun z eb=>?_);show wpAny _ _ (cb.Dict.addKeywords D [] >>= _) _ _ _;refine ar (aT (aT ?_));have C:z.DictOf (cD prog w) D a:=Q.extBut eb B;have q:=hR z s.toks (by rw[qD (by omega)];exact C) fun b o _ hb e=>eb b o hb e;exact q
 |succ n ih =>
  intro i s a hn hi hz p O Q Y hR;have I:i<items.size:=by omega
  refine i7 mL ?_;rw[i6 gI _];show wpAny _ A.in1 (pyNext (.ref it) >>= _) _ _ s;have hu:items[i]?=some items[i]:=by simp[I]
  have hk:ps[i]?=some ps[i]:=da (by omega);obtain⟨t,ku,eu,ht,al⟩:=Y i _ _ hu hk;refine ar (wpAny_pyNext_list_item p O (x:=items[i]) hu fun h J an=>?_);rw[eu];have m:jy it s.heap h:=an;have nt:t≠it:=by
   rintro rfl;obtain⟨o,G,L,_⟩:=ht;obtain⟨o',f,g,_⟩:=p;rw[G]at f;cases f;rw[L]at g;simp at g
  have M:h.IsTuple t #[ku,ps[i].2]:=ht.extBut m.extBut nt;have ap:Shared.TypeIs { s with heap:=h } (.ref t) "tuple":=M.typeIs (s:={ s with heap:=h });obtain⟨ot,as,bd,bi,aC⟩:=id M;refine ar (i8 ?_);refine ar (qC ?_);unfold cb.Dict.pairItems;refine ar (xU ap ?_);rw[if_pos (by decide)];refine ar (rW as aC (aT ?_));show wpAny _ _ (lS [ku,ps[i].2] (dictSet D ku ps[i].2)) _ _ _;have a0:h.DictOf (cD prog w) D a:=Q.extBut m.extBut B;refine i8 (wpAny_dictSet_pairs (knd:=cD prog w) (k:=ps[i].1) al a0 (fun y a4 a5=>?_) (by omega));have v:jy D h y:=a5;show wpAny _ _ (again _) _ _ _;refine aT ⟨i5 gI _,?_⟩;have a6:h.IsList l items:=O.extBut m.extBut T;have kp:∀b o,b≠D->b≠it->s.heap.get? b=some o->y.get? b=some o:=fun b o h y e=>v.extBut b o h (m.extBut b o y e);refine ih (i+1) _ (stored a ps[i].1 ps[i].2) (by omega) I (by have:=Cq a ps[i].1 ps[i].2;omega) (J.extBut v.extBut (gk B)) (a6.extBut v.extBut U) a4 (fun j u N h y=>?_) fun z tk C a7=>?_
  ·obtain⟨t2,a8,e2,H,a9⟩:=Y j u N h y;have n1:t2≠it:=by
    rintro rfl;obtain⟨o,G,L,_⟩:=H;obtain⟨o',f,g,_⟩:=p;rw[G]at f;cases f;rw[L]at g;simp at g
   have n2:t2≠D:=by
    rintro rfl;obtain⟨o,G,L,_⟩:=H;obtain⟨o',_,_,f,g,_⟩:=Q;rw[G]at f;cases f;have:=g.1;rw[L]at this;simp at this
   obtain⟨o,G,r⟩:=H;exact⟨t2,a8,e2,⟨o,kp _ o n2 n1 G,r⟩,a9⟩
  ·refine hR z tk ?_ fun b o h y e=>a7 b o h y (kp b o h y e);have ed:ps.drop i=ps[i]::ps.drop (i+1):=jV (by omega);rw[ed];exact C
theorem sS{l:Addr}{o:Obj}{items:Array Value}{n:Nat}{ps:List (fG×Value)}{Q:Zc}(O:A.handled=none)(T:s.heap.get? l=some o)(I:o.cls=.type "list")(v:o.data=.seq items n)(J:o.dict=none)
  (L:ps.length=items.size) (hp:∀(j:Nat) (u:Value) (H:fG×Value),items[j]?=some u->ps[j]?=some H->Do s.heap u H) (hz:items.size<=aj)
  (h:∀x tk,x.DictOf (cD prog w) s.heap.objs.size (merged [] ps)->(∀b o,s.heap.get? b=some o->x.get? b=some o)->Q (.ref s.heap.objs.size) { s with heap:=x,toks:=tk }) :
  wpAny (model prog w) A (call (.type "dict") [.ref l]) Q E s:=by
 refine callType_codes (Q₁:=fun y m=>y=.ref s.heap.objs.size/\m={ s with heap:=s.heap.push { cls:=.type "dict",data:=.dict #[] } }) F.kt_called_dict (F.kt_typeCall_dict_1 _) F.entry_dict_init (kt_code_dict_new _ ⟨rfl,rfl⟩) ?_;rintro y m ⟨rfl,rfl⟩;have f:(s.heap.push { cls:=.type "dict",data:=.dict #[] }).DictOf (cD prog w) s.heap.objs.size []:=Heap.DictOf.new s.heap;have p:(s.heap.push { cls:=.type "dict",data:=.dict #[] }).get? l=some o:=bR _ T;have z:l<s.heap.objs.size:=aO T;refine⟨f.typeIs,F.args_dict_init_2 _ _,?_⟩;unfold cb.«dict.__init__»;refine ar ?_;unfold cb.Dict.selfAndRest;refine ar (wpAny_notOrdered_dict f.typeIs ?_);show wpAny _ _ (pure (s.heap.objs.size,[Value.ref l])) _ _ _;refine aT ?_;show wpAny _ _ (cb.Dict.updateFrom "dict.__init__" s.heap.objs.size (.ref l) [] .none) _ _ _;unfold cb.Dict.updateFrom;have M:Shared.TypeIs { s with heap:=s.heap.push { cls:=.type "dict",data:=.dict #[] } } (.ref l) "list":=⟨o,p,I⟩;refine ar (xU M ?_);rw[if_pos (by decide)];refine ar (Fv p I v J O fun q N k1=>?_);have k:∀b ob,(s.heap.push { cls:=.type "dict",data:=.dict #[] }).get? b=some ob->q.get? b=some ob:=k1;rw[if_pos (by rfl:(none:Option Value).isNone=true)];refine ar (uf ?_);have B:q.IsList l items:=⟨o,k _ _ p,I,n,v⟩;refine ar (Aj (s:={ s with heap:=q,toks:=N }) B ?_);have C:q.DictOf (cD prog w) s.heap.objs.size []:=by
  obtain⟨U,Y,ep,g,r⟩:=f;exact⟨U,Y,ep,k _ _ g,r⟩
 have i:s.heap.objs.size<q.objs.size:=by
  obtain⟨U,Y,ep,g,r⟩:=C;exact aO g
 refine aT ⟨i5 gI _,?_⟩;refine Gp (A:=A.in1) (prog:=prog) (w:=w) O (D:=s.heap.objs.size) (it:=q.objs.size) (l:=l) (items:=items) (ps:=ps) (bW i) (bW (Nat.lt_trans z i)) (bW z) L items.size 0 _ [] (Nat.sub_zero _) (dI _) (by rw[List.length_nil];omega)
  ⟨_,du _ rfl,rfl,rfl⟩ (B.push _) (C.push _) (fun j u H a b=>?_) fun x tk G kp=>?_
 ·obtain⟨t,ku,e,ht,hk⟩:=hp j u H a b;obtain⟨ot,g,r⟩:=ht;exact⟨t,ku,e,⟨ot,bR _ (k _ _ (bR _ g)),r⟩,hk⟩
 ·rw[tZ]at G;refine⟨rfl,h x tk G fun b ob e=>kp b ob (bW (aO e)) (bW (Nat.lt_trans (aO e) i)) (bR _ (k _ _ (bR _ e)))⟩
end
section
variable{X:Cx}
theorem zR(hc:X.calm=true):fV X (.type "dict") (fun Y H Q=>∃(l:Addr) (k:Ze) (f:List (fG×V)),Y=[.ref l]/\aw X.K H l (k.map V.ref)/\k.length=f.length /\
  (∀(j:Nat) (t:Addr) (g:fG×V),k[j]?=some t->f[j]?=some g->H t=some (.tup [kV g.1,g.2]))/\∀p,H p=none->Q (.ref p) (upd H p (.dK (j6 [] f)))):=by
 intro J3 s σ H Y us Q I r h;obtain⟨l,k,f,rfl,v,z,D,q⟩:=h;obtain⟨u,rfl,ru⟩:=vals1 r;cases ru;obtain⟨E,rv,⟨o,n,ho,G,J,L⟩,M⟩:=I.list v;have N:∀(k:Ze) (f:List (fG×V)),k.length=f.length->(∀(j:Nat) (t:Addr) (g:fG×V),k[j]?=some t->f[j]?=some g->H t=some (.tup [kV g.1,g.2]))->∃y:List (fG×Value),KV f y/\∀(j:Nat) (t:Addr) (g:fG×Value),k[j]?=some t->y[j]?=some g->Do s.heap (.ref t) g:=by
  intro k
  induction k with
  |nil =>
   intro f v _;cases f with
   |nil=>exact⟨[],.nil,fun j t g e=>by simp at e⟩
   |cons _ _=>cases v
  |cons t k ih =>
   intro f v D;cases f with
   |nil=>cases v
   |cons g f =>
    obtain⟨y,O,r2⟩:=ih f (by simpa using v) fun j T m a b=>D (j+1) T m (by simpa using a) (by simpa using b);obtain⟨_,al,rt,p⟩:=(show cw X.prog X.w X.K H s.heap t (.tup [kV g.1,g.2])from I.hok t _ (D 0 t g rfl rfl));obtain⟨a,b,e,ra,rb⟩:=rt.two;subst e;refine⟨(g.1,b)::y,.cons ⟨rfl,rb⟩ O,fun j T m A U=>?_⟩;cases j with
    |zero =>
     simp at A U;subst A U;exact⟨t,a,rfl,p,pW (P:=X.prog) (w:=X.w) ra⟩
    |succ j=>exact r2 j T m (by simpa using A) (by simpa using U)
 obtain⟨y,B,pa⟩:=N k f z D;have C:=rv.length;rw[ah]at C;have an:=B.length;refine sS (prog:=X.prog) (w:=X.w) (ps:=y) (I.ok.hd hc) ho G L J (by rw[bG];omega) (fun j u g a b=>?_) (by rw[bG,<-C];rw[ah]at M;exact M) fun h' tk hD kp=>?_
 ·have a':E[j]?=some u:=by simpa using a
  have hj:j<k.length:=by
   have:=(bM.mp a').1;omega
  obtain⟨u',e1,O⟩:=rv.get (i:=j) (x:=V.ref k[j]) (by simp[hj]);rw[a']at e1;cases e1;cases(show u=Value.ref k[j]from O);exact pa j k[j] g (by simp[hj]) b
 ·have hm:(j6 [] f).length<=aj:=by
   have A:=nQ f [];rw[List.length_nil]at A;rw[ah]at M;omega
  exact⟨.ref s.heap.objs.size,_,I.laid (o:=.dK (j6 [] f)) kp (aB _) (HQ hm (beq_eq_false_iff_ne.mpr (gk (bW I.big))) (B.merge .nil) hD),rfl,q _ I.fresh⟩
end
abbrev dB:R2:=DY fun i j=>.int (i+j)
abbrev mz:R2:=DY fun i j=>.int (i-j)
abbrev mB:R2:=rI Ip fun i j=>.int (i * j)
abbrev jh:R2:=rI (fun _ j=>0<j) fun i j=>.int (i % j)
abbrev G1:R2:=rI LG fun i j=>.int (i / j)
abbrev JS:R2:=rI LF fun i j=>.int (i ^ j.toNat)
abbrev CG:R2:=DY fun i j=>.bl (decide (i<j))
abbrev rLeI:R2:=DY fun i j=>.bl (decide (i<=j))
abbrev G0:R2:=DY fun i j=>.bl (decide (j<i))
abbrev rGeI:R2:=DY fun i j=>.bl (decide (j<=i))
abbrev JW:R2:=fun x y H Q=>∃i j,x=.str i/\y=.str j/\i.length+j.length<=aj/\Q (.str (i++j)) H
abbrev rInS:R2:=fun x y H Q=>∃c j,x=.str ⟨#[c]⟩/\y=.str j/\Q (.bl (decide (c∈j.cps.toList))) H
abbrev rIsi(K:Za):List V->Hp->VK->Prop:=fun xs H Q=>∃x c t b,xs=[x,.ty c]/\TyX K H x t/\DD K t (.type c)=some b/\Q (.bl b) H
abbrev Lb(K:Za):List V->Hp->VK->Prop:=fun xs H Q=>∃(p:Addr) (bs:List Bool),xs=[.ref p]/\aw K H p (bs.map V.bl)/\Q (.bl (bs.all id)) H
abbrev rAny(K:Za):List V->Hp->VK->Prop:=fun xs H Q=>∃(p:Addr) (bs:List Bool),xs=[.ref p]/\aw K H p (bs.map V.bl)/\Q (.bl (bs.any id)) H
abbrev AO(K:Za):List V->Hp->VK->Prop:=fun xs H Q=>∃p ys,xs=[.ref p]/\((aw K H p ys/\∀l,H l=none->Q (.ref l) (upd H l (.tup ys)))∨(bQ K H p ys/\Q (.ref p) H))
abbrev Jb(K:Za):List V->Hp->VK->Prop:=fun xs H Q=>∃(l:Addr) (ts:Ze) (kvs:List (fG×V)),xs=[.ref l]/\aw K H l (ts.map V.ref)/\ts.length=kvs.length /\
  (∀(j:Nat) (t:Addr) (kv:fG×V),ts[j]?=some t->kvs[j]?=some kv->H t=some (.tup [kV kv.1,kv.2]))/\∀p,H p=none->Q (.ref p) (upd H p (.dK (j6 [] kvs)))
abbrev dU(K:Za):List V->Hp->VK->Prop:=fun xs H Q =>
 (∃p ys,xs=[.ref p]/\(aw K H p ys∨bQ K H p ys)/\∀l,H l=none->Q (.ref l) (upd H l (.lst ys))) ∨
 (∃(d:Addr) (kvs:List (fG×V)),xs=[.ref d]/\Rd H d (.dK kvs)/\∀l,H l=none->Q (.ref l) (upd H l (.lst (kvs.map fun kv=>kV kv.1))))
abbrev ir(K:Za):List V->Hp->VK->Prop:=fun xs H Q =>
 (∃p ys,xs=[.ref p]/\(aw K H p ys∨bQ K H p ys)/\Q (.int ys.length) H)∨(∃z,xs=[.str z]/\z.length<=aj/\Q (.int z.length) H)
theorem Ia:i0 "isinstance"=some (.builtin "isinstance"):=by decide +kernel
theorem vq:i0 "list"=some (.type "list"):=by decide +kernel
theorem gt:i0 "tuple"=some (.type "tuple"):=by decide +kernel
theorem Dk:i0 "dict"=some (.type "dict"):=by decide +kernel
theorem Dm:i0 "bool"=some (.type "bool"):=by decide +kernel
theorem FW:i0 "int"=some (.type "int"):=by decide +kernel
section
variable{X:Cx}{p pos:Pos}
theorem FU:fV X (.builtin "len") (ir X.K):=zQ.or zP
theorem Dj(a:X.calm=true):fV X (.type "list") (dU X.K):=zO.or (vo a)
theorem CK(a:Gl X "bool")(e:X.mg "bool"=none):PE X (.Name "bool" pos) (tC (.ty "bool")):=Jj a e Dm rfl
end
def Gc(mg:Str->Option Value)(x:Str)(v:V):Prop:=∃u,mg x=some u/\RelV v u
theorem lV{X:Cx}{x:Str}{v:V}{a:Pos}(e:Gl X x)(h:Gc X.mg x v)(f:(x==("__debug__":Str))=false:=by decide):PE X (.Name x a) (tC v):=by
 obtain⟨u,g,r⟩:=h;exact Jg e g r f
structure fH(P:b9)(w:World)(K:Za)(mg:Str->Option Value)(base:Heap)(x:Str)(ps:Zb)(k:Nat)(sp:Sp):Prop where
 ex:∃f fd,mQ P w K mg base CX0 k f fd ps sp/\mg x=some (.ref f)/\gw K (.ref f)=true/\Binds K fd ps []
structure K0(P:b9)(w:World)(K:Za)(mg:Str->Option Value)(base:Heap)(x:Str)(C:Addr)(ps:Zb)(k:Nat)(sp:Sp):Prop where
 ex:∃f fd,mQ P w K mg base CX0 k f fd ps sp/\mg x=some (.ref C)/\Mk K C f/\Binds K fd ps []
structure o5(P:b9)(w:World)(K:Za)(mg:Str->Option Value)(base:Heap)(C:Addr)(m:Str)(ps:Zb)(k:Nat)(sp:Sp):Prop where
 ex:∃f fd,mQ P w K mg base CX0 k f fd ps sp/\BN K C/\JL K C m f/\Binds K fd ps []
section
variable{X:Cx}{k:Nat}{ps:Zb}{sp:Sp}{x m:Str}{C:Addr}{p pos J5:Pos}{o e:Expr}{es:List Expr}{t:TA}{ta:TE}
theorem Hd(D:fH X.prog X.w X.K X.mg X.base x ps k sp)(h:fF k X.A)(i:Gl X x)(j:PA X (e::es) t)(a:(x==("__debug__":Str))=false:=by decide)
  (l:aL (e::es) X.env=(false,eval e X.env)::aL es X.env:=by rfl) (g:(backTo pos (aL es X.env)).any (·.1)=false:=by rfl) :
  PE X (.Call (.Name x p) (e::es) [] pos) (aK sp t):=by
 obtain⟨f,s,F,n,q,r⟩:=D.ex;exact Ji F h i n q r .nil Eh j a l g
theorem uO(D:K0 X.prog X.w X.K X.mg X.base x C ps k sp)(h:fF (k+1) X.A)(i:Gl X x)(j:PA X (e::es) t)(a:(x==("__debug__":Str))=false:=by decide)
  (l:aL (e::es) X.env=(false,eval e X.env)::aL es X.env:=by rfl) (g:(backTo pos (aL es X.env)).any (·.1)=false:=by rfl) :
  PE X (.Call (.Name x p) (e::es) [] pos) (uu C sp [] E0 t):=by
 obtain⟨f,r,F,n,M,q⟩:=D.ex;exact Jf M F h i n q .nil Eh j a l g
theorem Ky{pl:Sem Bool}(M:o5 X.prog X.w X.K X.mg X.base C m ps k sp)(i:fF k X.A)(j:PE X o ta)(l:PA X (e::es) t)
  (a:aL (e::es) X.env=(false,eval e X.env)::aL es X.env:=by rfl) (g:(backTo pos (aL es X.env)).any (·.1)=false:=by rfl)
  (n:eval (.Call (.Attribute o m J5) (e::es) [] pos) X.env=(do
   let h <- eval o X.env
   rT J5.atName
   let(f,first) <- lS [h] (rP h m pl)
   wz pos f first (backTo pos (aL (e::es) X.env)) (o7 pos (o6 [] X.env))):=by rfl) :
  PE X (.Call (.Attribute o m J5) (e::es) [] pos) (cn C m sp [] E0 ta t):=by
 obtain⟨f,s,F,c,q,r⟩:=M.ex;exact Je j c q F i r .nil Eh l a g n
theorem Jc{pl:Sem Bool}(M:o5 X.prog X.w X.K X.mg X.base C m ps k sp)(g:fF k X.A)(h:PE X o ta)
  (i:eval (.Call (.Attribute o m J5) [] [] pos) X.env=(do
   let a <- eval o X.env
   rT J5.atName
   let(f,first) <- lS [a] (rP a m pl)
   wz pos f first (backTo pos (aL [] X.env)) (o7 pos (o6 [] X.env))):=by rfl) :
  PE X (.Call (.Attribute o m J5) [] [] pos) (cn C m sp [] E0 ta bg):=by
 obtain⟨f,n,F,c,j,l⟩:=M.ex;exact G_ h c j F g l .nil Eh i
end
def Lk(K:Za)(tl:TE):TI:=fun σ H R=>tl σ H fun x H1=>∃a,x=.ref a/\(((∃xs,aw K H1 a xs)/\R (Io K a) H1)∨((∃xs,bQ K H1 a xs)/\R (Kg K a) H1))
theorem Kv{X:Cx}{u l:Expr}{r:TE}(w:PE X l r):PI X u l (Lk X.K r):=by
 intro t s σ H R I h;refine cH (w t s σ H _ I h) fun v f j=>?_;obtain⟨x,k,g,y,z⟩:=j;obtain⟨a,e,q⟩:=z;subst e;cases y;have i:∀b∈[f.heap.objs.size],nL X t k b:=fun b A=>by
  have e:b=f.heap.objs.size:=by simpa using A
  subst e;exact g.fpOk (aB _) (g.hok.fresh (aB _))
 rcases q with⟨⟨B,m⟩,q⟩|⟨⟨B,m⟩,q⟩
 ·obtain⟨n,C,p,D⟩:=g.list m;refine Aj p.isList ?_;exact⟨f.heap.objs.size,[f.heap.objs.size],_,_,k,rfl,g.kept (t':=f.toks) fun b o e=>bR _ e,wJ a _,⟨_,du _ rfl,rfl,rfl⟩,i,q⟩
 ·obtain⟨n,C,p,D⟩:=g.tuple m;refine wpAny_pyIter_tuple p ?_;exact⟨f.heap.objs.size,[f.heap.objs.size],_,_,k,rfl,g.kept (t':=f.toks) fun b o e=>bR _ e,uk a _,⟨_,du _ rfl,rfl,rfl⟩,i,q⟩
theorem mJ{K:Za}{a:Addr}{xs:List V}{g:TG}{k:TS}{D:rL}{σ:St}{H:Hp}(Pv:Nat->St->Hp->Prop)(n:Pv 0 σ H)(o:∀i σ H,i<=xs.length->Pv i σ H->aw K H a xs)
  (r:∀i x σ H p,xs[i]?=some x->Pv i σ H->H p=none->g (.ref p) σ (upd H p (.tup [.int i,x])) fun σ2 j=>k { D with nx:=Pv (i+1),ct:=Pv (i+1),bk:=D.nx } σ2 j) (s:∀σ H,Pv xs.length σ H->D.nx σ H) :
  ∃W:Nat->Nat->St->Hp->Prop,(∃m,W 0 m σ H)/\∀i m σ H,W i m σ H ->
   ((LA K a).stop i H/\D.nx σ H)∨((LA K a).go i H/\∃N:St->Hp->Prop,(∀σ' f,N σ' f->∃l,l<m/\W (i+1) l σ' f)/\∀x f,(LA K a).yld i H x f->g x σ f fun σ2 j=>k { D with nx:=N,ct:=N,bk:=D.nx } σ2 j):=by
 refine⟨fun i m σ H=>m=xs.length-i/\i<=xs.length/\Pv i σ H,⟨xs.length,by simp,dI _,n⟩,?_⟩;rintro i m σ H ⟨rfl,u,p⟩;have q:=o i σ H u p;by_cases h:i<xs.length
 ·refine .inr ⟨⟨xs,xs[i],q,by simp[h]⟩,Pv (i+1),fun σ' f w=>⟨xs.length-(i+1),by omega,rfl,h,w⟩,fun x f y=>?_⟩;obtain⟨t,v,rfl,z,A,rfl⟩:=y;exact r i v σ H t (A xs q) p z
 ·have e:i=xs.length:=by omega
  subst e;exact .inl ⟨⟨xs,q,aB _⟩,s σ H p⟩
def Wc(n:Nat)(Pv:Nat->List V->Hp->Prop):Nat->Nat->List V->Hp->Prop:=fun i m vs H=>m=n-i/\i<=n/\Pv i vs H
theorem mF{n i:Nat}{Pv:Nat->List V->Hp->Prop}{a:List V}{H:Hp}(f:i<n)(p:Pv (i+1) a H):∃e,e<n-i/\Wc n Pv (i+1) e a H:=⟨n-(i+1),by omega,rfl,f,p⟩
abbrev em(k:Nat)(fi:List Nat)(σ:St)(J:It)(g:TG)(tc:TT)(te:TE)(H1:Hp)(l:Addr)(Q:Hp->Prop):Prop :=
 ∃W:Nat->Nat->List V->Hp->Prop,(∃m,W 0 m [] (upd H1 l (.lst [])))/\∀i m vs H2,W i m vs H2->H2 l=some (.lst vs) /\
  ((J.stop i H2/\Q H2)∨(J.go i H2/\∀x H3,J.yld i H2 x H3->g x (dE k fi σ) H3 fun σ2 H4=>tc σ2 H4 fun b H5 =>
   if b=true then te σ2 H5 fun v H6=>H6 l=some (.lst vs)/\vs.length<aj/\∃m',m'<m/\W (i+1) m' (vs++[v]) (upd H6 l (.lst (vs++[v])))else ∃m',m'<m/\W (i+1) m' vs H5))
theorem mM{k:Nat}{r:List Nat}{J:It}{g:TG}{s:TT}{t:TE}{σ:St}{u:Hp}{Q:Hp->Prop}{l:Addr}(n:Nat)(Pv:Nat->List V->Hp->Prop)(A:Pv 0 [] (upd u l (.lst [])))
  (B:∀i a H,i<=n->Pv i a H->H l=some (.lst a)) (o:∀i a H,i<n->Pv i a H->J.go i H) (q:∀a H,Pv n a H->J.stop n H/\Q H)
  (C:∀i a H x j,i<n->Pv i a H->J.yld i H x j->g x (dE k r σ) j fun σ2 D=>s σ2 D fun b w =>
   if b=true then t σ2 w fun v z=>z l=some (.lst a)/\a.length<aj/\∃f,f<n-i/\Wc n Pv (i+1) f (a++[v]) (upd z l (.lst (a++[v])))else ∃f,f<n-i/\Wc n Pv (i+1) f a w) :
  em k r σ J g s t u l Q:=by
 refine⟨Wc n Pv,⟨n,by simp[Wc],dI _,A⟩,?_⟩;rintro i m a H ⟨rfl,E,p⟩;refine⟨B i a H E p,?_⟩;by_cases h:i<n
 ·exact .inr ⟨o i a H h p,fun x j y=>C i a H x j h p y⟩
 ·have e:i=n:=by omega
  subst e;exact .inl (q a H p)
section
variable{K:Za}{k:Nat}{fi:List Nat}{g:TG}{tc:TT}{te:TE}{σ:St}{H1:Hp}{Q:Hp->Prop}{l:Addr}
theorem bX{a:Addr}{xs:List V}(Pv:Nat->List V->Hp->Prop)(o:Pv 0 [] (upd H1 l (.lst [])))
  (j:∀i e H,i<=xs.length->Pv i e H->H l=some (.lst e)/\aw K H a xs) (q:∀e H,Pv xs.length e H->Q H)
  (r:∀i e H x,xs[i]?=some x->i<xs.length->Pv i e H->g x (dE k fi σ) H fun σ2 s=>tc σ2 s fun b m =>
   if b=true then te σ2 m fun v n=>n l=some (.lst e)/\e.length<aj/\∃h,h<xs.length-i/\Wc xs.length Pv (i+1) h (e++[v]) (upd n l (.lst (e++[v])))else ∃h,h<xs.length-i/\Wc xs.length Pv (i+1) h e m) :
  em k fi σ (Io K a) g tc te H1 l Q:=by
 refine mM xs.length Pv o (fun i e H f p=>(j i e H f p).1) (fun i e H f p=>⟨xs,xs[i],(j i e H (cT f) p).2,by simp[f]⟩) (fun e H p=>⟨⟨xs,(j _ e H (aB _) p).2,aB _⟩,q e H p⟩) fun i e H x t f p y=>?_;obtain⟨rfl,y⟩:=y;exact r i e _ x (y xs (j i e _ (cT f) p).2) f p
theorem vi{a:Addr}{xs:List V}(Pv:Nat->List V->Hp->Prop)(o:Pv 0 [] (upd H1 l (.lst [])))
  (j:∀i e H,i<=xs.length->Pv i e H->H l=some (.lst e)/\bQ K H a xs) (q:∀e H,Pv xs.length e H->Q H)
  (r:∀i e H x,xs[i]?=some x->i<xs.length->Pv i e H->g x (dE k fi σ) H fun σ2 s=>tc σ2 s fun b m =>
   if b=true then te σ2 m fun v n=>n l=some (.lst e)/\e.length<aj/\∃h,h<xs.length-i/\Wc xs.length Pv (i+1) h (e++[v]) (upd n l (.lst (e++[v])))else ∃h,h<xs.length-i/\Wc xs.length Pv (i+1) h e m) :
  em k fi σ (Kg K a) g tc te H1 l Q:=by
 refine mM xs.length Pv o (fun i e H f p=>(j i e H f p).1) (fun i e H f p=>⟨xs,xs[i],(j i e H (cT f) p).2,by simp[f]⟩) (fun e H p=>⟨⟨xs,(j _ e H (aB _) p).2,aB _⟩,q e H p⟩) fun i e H x t f p y=>?_;obtain⟨rfl,y⟩:=y;exact r i e _ x (y xs (j i e _ (cT f) p).2) f p
theorem Dg{lo:Int}{n:Nat}(Pv:Nat->List V->Hp->Prop)(m:Pv 0 [] (upd H1 l (.lst [])))
  (o:∀i a H,i<=n->Pv i a H->H l=some (.lst a)) (q:∀a H,Pv n a H->Q H)
  (r:∀i a H,i<n->Pv i a H->g (.int (lo+i)) (dE k fi σ) H fun σ2 s=>tc σ2 s fun b h =>
   if b=true then te σ2 h fun v j=>j l=some (.lst a)/\a.length<aj/\∃e,e<n-i/\Wc n Pv (i+1) e (a++[v]) (upd j l (.lst (a++[v])))else ∃e,e<n-i/\Wc n Pv (i+1) e a h) :
  em k fi σ (KP lo n) g tc te H1 l Q:=by
 refine mM n Pv m o (fun i a H f p=>f) (fun a H p=>⟨aB _,q a H p⟩) fun i a H x t f p y=>?_;obtain⟨rfl,rfl⟩:=y;exact r i a _ f p
theorem HY{x:Str}(Pv:Nat->List V->Hp->Prop)(m:Pv 0 [] (upd H1 l (.lst [])))
  (n:∀i a H,i<=x.cps.size->Pv i a H->H l=some (.lst a)) (o:∀a H,Pv x.cps.size a H->Q H)
  (q:∀i a H c,x.cps[i]?=some c->i<x.cps.size->Pv i a H->g (.str ⟨#[c]⟩) (dE k fi σ) H fun σ2 r=>tc σ2 r fun b h =>
   if b=true then te σ2 h fun v j=>j l=some (.lst a)/\a.length<aj/\∃e,e<x.cps.size-i/\Wc x.cps.size Pv (i+1) e (a++[v]) (upd j l (.lst (a++[v])))else ∃e,e<x.cps.size-i/\Wc x.cps.size Pv (i+1) e a h) :
  em k fi σ (LQ x) g tc te H1 l Q:=by
 refine mM x.cps.size Pv m n (fun i a H f p=>f) (fun a H p=>⟨aB _,o a H p⟩) fun i a H y u f p s=>?_;obtain⟨rfl,c,t,rfl⟩:=s;exact q i a _ c t f p
end
theorem gN{j:Nat}{x:V}{σ:St}{H:Hp}{Q:St->Hp->Prop}(h:Q (σ.set j (some x)) H):eL j x σ H Q:=h
theorem pc{σ:St}{H:Hp}{A B:Hp->Prop}(h:A H):iH σ H (fun b a=>if b=true then A a else B a):=by
 show(if(true:Bool)=true then A H else B H)
 exact h
inductive Ij{T0 T1:Type}(P:T0->T1->Prop):Prop
 |mk (x0:T0) (x1:T1):P x0 x1->Ij P
inductive K1{T0 T1 T2:Type}(P:T0->T1->T2->Prop):Prop
 |mk (x0:T0) (x1:T1) (x2:T2):P x0 x1 x2->K1 P
inductive LP{T0 T1 T2 T3:Type}(P:T0->T1->T2->T3->Prop):Prop
 |mk (x0:T0) (x1:T1) (x2:T2) (x3:T3):P x0 x1 x2 x3->LP P
inductive NE5{T0 T1 T2 T3 T4:Type}(P:T0->T1->T2->T3->T4->Prop):Prop
 |mk (x0:T0) (x1:T1) (x2:T2) (x3:T3) (x4:T4):P x0 x1 x2 x3 x4->NE5 P
inductive NE6{T0 T1 T2 T3 T4 T5:Type}(P:T0->T1->T2->T3->T4->T5->Prop):Prop
 |mk (x0:T0) (x1:T1) (x2:T2) (x3:T3) (x4:T4) (x5:T5):P x0 x1 x2 x3 x4 x5->NE6 P
inductive NE7{T0 T1 T2 T3 T4 T5 T6:Type}(P:T0->T1->T2->T3->T4->T5->T6->Prop):Prop
 |mk (x0:T0) (x1:T1) (x2:T2) (x3:T3) (x4:T4) (x5:T5) (x6:T6):P x0 x1 x2 x3 x4 x5 x6->NE7 P
inductive NE8{T0 T1 T2 T3 T4 T5 T6 T7:Type}(P:T0->T1->T2->T3->T4->T5->T6->T7->Prop):Prop
 |mk (x0:T0) (x1:T1) (x2:T2) (x3:T3) (x4:T4) (x5:T5) (x6:T6) (x7:T7):P x0 x1 x2 x3 x4 x5 x6 x7->NE8 P
inductive NE9{T0 T1 T2 T3 T4 T5 T6 T7 T8:Type}(P:T0->T1->T2->T3->T4->T5->T6->T7->T8->Prop):Prop
 |mk (x0:T0) (x1:T1) (x2:T2) (x3:T3) (x4:T4) (x5:T5) (x6:T6) (x7:T7) (x8:T8):P x0 x1 x2 x3 x4 x5 x6 x7 x8->NE9 P
inductive Lv{T0 T1 T2 T3 T4 T5 T6 T7 T8 T9:Type}(P:T0->T1->T2->T3->T4->T5->T6->T7->T8->T9->Prop):Prop
 |mk (x0:T0) (x1:T1) (x2:T2) (x3:T3) (x4:T4) (x5:T5) (x6:T6) (x7:T7) (x8:T8) (x9:T9):P x0 x1 x2 x3 x4 x5 x6 x7 x8 x9->Lv P
inductive NA3(p0 p1 p2:Prop):Prop
 |mk:p0->p1->p2->NA3 p0 p1 p2
inductive Lx(p0 p1 p2 p3:Prop):Prop
 |mk:p0->p1->p2->p3->Lx p0 p1 p2 p3
inductive JK(p0 p1 p2 p3 p4:Prop):Prop
 |mk:p0->p1->p2->p3->p4->JK p0 p1 p2 p3 p4
inductive Lw(p0 p1 p2 p3 p4 p5:Prop):Prop
 |mk:p0->p1->p2->p3->p4->p5->Lw p0 p1 p2 p3 p4 p5
inductive NA7(p0 p1 p2 p3 p4 p5 p6:Prop):Prop
 |mk:p0->p1->p2->p3->p4->p5->p6->NA7 p0 p1 p2 p3 p4 p5 p6
end L2
namespace L2
open PySem PySem.W
section
variable{X:Cx}
theorem yt:∀{f:List Int}{a:Zf},ba (f.map V.int) a->∃e:List (Int×Tok),a=e.map (fun p=>Value.int p.1 p.2)/\e.map (·.1)=f
 |[],_,r=>by cases r;exact⟨[],rfl,rfl⟩
 |n::f,_,r=>by
  cases r with
  |cons g h =>
   obtain⟨t,rfl⟩:=g;obtain⟨e,i,j⟩:=yt h;exact⟨(n,t)::e,by rw[i];rfl,by rw[bF,j]⟩
end
def GF(K:Za)(td ty tv:TE):TS:=fun D σ H=>tv σ H fun v H1=>td σ H1 fun x H2=>ty σ H2 fun y H3 =>
 ∃(a b:Addr) (kvs:List (TK×V)) (k:TK),x=.ref a/\y=.ref b/\H3 a=some (.dT kvs)/\so K H3 k (.ref b)/\k.depth<=8/\kvs.length<aj/\D.nx σ (upd H3 a (.dT (dh kvs k v)))
section
variable{X:Cx}{o i value:Expr}{pos pos':Pos}{td ty tv:TE}
theorem G6(j:X.A.units+16<cLine)(m:PE X o td)(n:PE X i ty)(p:PE X value tv)(q:rS value (some (.Subscript o i pos')) pos.line X.env=pure false):
  PS X (.Assign [.Subscript o i pos'] value pos) (GF X.K td ty tv):=by
 intro f s σ H D I h;refine wpAny_Assign_Subscript (cH (p f s σ H _ I h) fun r t ⟨v,w,z,B,C⟩=>cH (m f t σ w _ z C) fun u E ⟨x,G,J,L,M⟩=>cH (n f E σ G _ J M) fun iv s3 g=>?_) q;obtain⟨y,H3,N,O,a,b,Q,k,ex,T,e,U,Y,l,q3⟩:=g;subst ex;subst T;obtain rfl:u=Value.ref a:=L;exact Dc j N e U Y l O B fun s4 I4=>⟨σ,_,I4,q3⟩
end
theorem wM{K:Za}{H:Hp}:∀a:List Str,TKCs K H (a.map fun x=>TK.k (some (.inr x))) (a.map V.str)
 |[]=>by show TKCs K H [] [];unfold TKCs;rfl
 |x::a=>by
  rw[bF,bF];unfold TKCs;refine⟨_,_,rfl,?_,wM a⟩;unfold so
  rfl
theorem Gz{K:Za}{H:Hp}{a:Addr}{e:Zb}(h:cE K H a (e.map V.str)):so K H (.t (e.map fun x=>TK.k (some (.inr x)))) (.ref a):=by
 unfold so;exact⟨a,_,rfl,h,wM e⟩
end L2
end

section
set_option Elab.async false
set_option linter.all false
set_option maxRecDepth 100000
namespace L2
open PySem PySem.Spec PyProof.Rows PySem.W
def JN:Expr->List Str
 |.Name x _=>[x]
 |.Tuple es _ _=>es.filterMap fun e=>match e with | .Name x _=>some x|_=>none
 |_=>[]
theorem bK{X:Cx}{b:List Stmt}{t:TS}{D:rL}{σ:St}{H:Hp}(r:t D σ H)(p:BM X b t):∃t,BM X b t/\t D σ H:=⟨t,p,r⟩
section
variable{X:Cx}{k k0:Nat}{ps:Zb}{sp:Sp}{x m:Str}{C:Addr}{p pos J5:Pos}{o e a b:Expr}{es:List Expr}{t:TA}{ta tb te:TE}
theorem qf(h:fF k0 X.A)(D:fH X.prog X.w X.K X.mg X.base x ps k sp)(i:PA X (e::es) t)(hk:k<=k0:=by decide)(j:Gl X x:=by rfl)(f:(x==("__debug__":Str))=false:=by decide)
  (l:aL (e::es) X.env=(false,eval e X.env)::aL es X.env:=by rfl) (g:(backTo pos (aL es X.env)).any (·.1)=false:=by rfl) :
  PE X (.Call (.Name x p) (e::es) [] pos) (aK sp t):=Hd D (h.mono hk) j i f l g
theorem qm{pl:Sem Bool}(j:fF k0 X.A)(M:o5 X.prog X.w X.K X.mg X.base C m ps k sp)(l:PE X o ta)(n:PA X (e::es) t)(hk:k<=k0:=by decide)
  (g:aL (e::es) X.env=(false,eval e X.env)::aL es X.env:=by rfl) (h:(backTo pos (aL es X.env)).any (·.1)=false:=by rfl)
  (q:eval (.Call (.Attribute o m J5) (e::es) [] pos) X.env=(do
   let i <- eval o X.env
   rT J5.atName
   let(f,first) <- lS [i] (rP i m pl)
   wz pos f first (backTo pos (aL (e::es) X.env)) (o7 pos (o6 [] X.env))):=by rfl) :
  PE X (.Call (.Attribute o m J5) (e::es) [] pos) (cn C m sp [] E0 ta t):=Ky (pl:=pl) M (j.mono hk) l n g h q
theorem G4{pl:Sem Bool}(h:fF k0 X.A)(M:o5 X.prog X.w X.K X.mg X.base C m ps k sp)(i:PE X o ta)(j:k<=k0:=by decide)
  (l:eval (.Call (.Attribute o m J5) [] [] pos) X.env=(do
   let g <- eval o X.env
   rT J5.atName
   let(f,first) <- lS [g] (rP g m pl)
   wz pos f first (backTo pos (aL [] X.env)) (o7 pos (o6 [] X.env))):=by rfl) :
  PE X (.Call (.Attribute o m J5) [] [] pos) (cn C m sp [] E0 ta bg):=Jc (pl:=pl) M (h.mono j) i l
theorem xl(f:PE X a ta)(g:PE X b tb)(h:F_ b:=by exact fun _ _=>rfl):PE X (.Subscript a b pos) (aH (dW X.K) ta tb):=Ef Es f g h
theorem xt(f:PE X a ta)(g:PE X b tb)(h:F_ b:=by exact fun _ _=>rfl):PE X (.Subscript a b pos) (aH (ji X.K) ta tb):=Ef HC f g h
theorem xq(f:PE X a ta)(g:PE X b tb)(h:F_ b:=by exact fun _ _=>rfl):PE X (.Subscript a b pos) (aH (r8 X.K) ta tb):=Ef KD f g h
theorem xs'(f:PE X a ta)(g:PE X b tb)(h:F_ b:=by exact fun _ _=>rfl):PE X (.Subscript a b pos) (aH GZ ta tb):=Ef HD f g h
theorem iM{f:CmpOp}{r:R2}(g:nS X (fP f) r)(h:PE X a ta)(i:PE X b tb)(j:lT f b=false:=by exact Hl _):PT X (.Compare a [f] [b] pos) (aU (aH r ta tb)):=D0 g h i j
theorem KW{f:CmpOp}{r:R2}(g:nS X (fP f) r)(h:PE X a ta)(i:PE X b tb)(j:lT f b=false:=by exact Hl _):PE X (.Compare a [f] [b] pos) (aH r ta tb):=Eg g h i j
theorem ID{f:CmpOp}{r:R2}(g:nS X (fP f) r)(h:PE X a ta)(i:PE X b tb)(j:lT f b=false:=by with_unfolding_all rfl):PT X (.Compare a [f] [b] pos) (aU (aH r ta tb)):=D0 g h i j
theorem eci{f:CmpOp}{r:R2}(g:nS X (fP f) r)(h:PE X a ta)(i:PE X b tb)(j:lT f b=false:=by with_unfolding_all rfl):PE X (.Compare a [f] [b] pos) (aH r ta tb):=Eg g h i j
theorem qB{id:String}{r:List V->Hp->VK->Prop}(h:fV X (.builtin id) r)(i:X.mg x=none)(j:i0 x=some (.builtin id))(l:PA X (e::es) t)(n:Gl X x:=by rfl)(q:x≠"__name__":=by decide)(f:(x==("__debug__":Str))=false:=by decide)
  (s:aL (e::es) X.env=(false,eval e X.env)::aL es X.env:=by rfl) (g:(backTo pos (aL es X.env)).any (·.1)=false:=by rfl):PE X (.Call (.Name x p) (e::es) [] pos) (gD r t):=AU h n i j l q f s g
theorem qL(g:X.calm=true)(h:X.mg "list"=none)(i:PA X (e::es) t)(j:Gl X "list":=by rfl)
  (l:aL (e::es) X.env=(false,eval e X.env)::aL es X.env:=by rfl) (f:(backTo pos (aL es X.env)).any (·.1)=false:=by rfl):PE X (.Call (.Name "list" p) (e::es) [] pos) (gD (dU X.K) t):=gq (Dj g) j h vq i (by decide) (by decide) l f
theorem ql(g:X.mg "len"=none)(h:PA X (e::es) t)(i:Gl X "len":=by rfl)
  (j:aL (e::es) X.env=(false,eval e X.env)::aL es X.env:=by rfl) (f:(backTo pos (aL es X.env)).any (·.1)=false:=by rfl):PE X (.Call (.Name "len" p) (e::es) [] pos) (gD (ir X.K) t):=AU FU i g PySem.boot_len h (by decide) (by decide) j f
theorem qs(i:Nat){f:Pos}(g:X.N.Nodup)(h:PE X e te)(j:X.N[i]?=some x:=by rfl)(l:Loc X.env.scope x:=by first|exact Or.inl rfl|exact Or.inr rfl)(n:rS e (some (.Name x f)) pos.line X.env=pure false:=by rfl)(q:X.fn x=true∨X.env.scope.names.lookup x=some .local:=by first|exact .inl rfl|exact .inr rfl|assumption):
  PS X (.Assign [.Name x f] e pos) (aM te (eL i)):=Ks g j l h n q
theorem gn(i:Nat)(f:X.N.Nodup)(g:X.N[i]?=some x:=by rfl)(h:Loc X.env.scope x:=by first|exact Or.inl rfl|exact Or.inr rfl)(j:X.fn x=true∨X.env.scope.names.lookup x=some .local:=by first|exact .inl rfl|exact .inr rfl|assumption):PG X (.Name x pos) (eL i):=Ec f g h j
theorem gc(i:Nat)(f:X.N.Nodup:=by exact of_decide_eq_true (by with_unfolding_all rfl))(g:X.N[i]?=some x:=by rfl)(h:Loc X.env.scope x:=by exact Or.inl rfl)(j:X.fn x=true∨X.env.scope.names.lookup x=some .local:=by first|exact .inl rfl|exact .inr rfl|assumption):PG X (.Name x pos) (eL i):=Ec f g h j
theorem a1(f:PE X a ta)(g:aL [a] X.env=(false,eval a X.env)::aL [] X.env:=by rfl):PA X [a] (am ta bg):=aG f cy g
theorem a2(g:PE X a ta)(h:PE X b tb)(i:aL [a,b] X.env=(false,eval a X.env)::aL [b] X.env:=by rfl)(f:aL [b] X.env=(false,eval b X.env)::aL [] X.env:=by rfl):PA X [a,b] (am ta (am tb bg)):=aG g (aG h cy f) i
theorem a3{c:Expr}{h:TE}(i:PE X a ta)(j:PE X b tb)(l:PE X c h)(n:aL [a,b,c] X.env=(false,eval a X.env)::aL [b,c] X.env:=by rfl)(f:aL [b,c] X.env=(false,eval b X.env)::aL [c] X.env:=by rfl)(g:aL [c] X.env=(false,eval c X.env)::aL [] X.env:=by rfl):PA X [a,b,c] (am ta (am tb (am h bg))):=aG i (a2 j l f g) n
variable{elt iter tg:Expr}{ifs:List Expr}{scope:Scope}{fi:List Nat}{wi:TI}{g:TG}{tc:TT}
theorem qc(q:PI X tg iter wi)(r:By k g)
  (h:∀C l f j ex n,PG (dY X (JN tg++fi.map fun i=>X.N.getD i "") scope C l f j ex n) tg g/\Kf (dY X (JN tg++fi.map fun i=>X.N.getD i "") scope C l f j ex n) ifs tc/\PE (dY X (JN tg++fi.map fun i=>X.N.getD i "") scope C l f j ex n) elt te)
  (s:nr X.env.scope scope k (JN tg++fi.map fun i=>X.N.getD i "") X.N fi=true:=by with_unfolding_all rfl) (u:X.calm=true:=by rfl)
  (v:∀x,Ai iter X.env x=pure x:=by intro _;rfl):PE X (.ListComp elt [⟨tg,iter,ifs,0⟩] scope pos) (cG k fi wi g tc te) :=
 Jh s u q (fun _ _ _ _ _ _=>(h _ _ _ _ _ _).1) r (fun _ _ _ _ _ _=>(h _ _ _ _ _ _).2.1) (fun _ _ _ _ _ _=>(h _ _ _ _ _ _).2.2) v
theorem Lc(j:Nat){y:Str}{n u:Pos}(v:X.N.Nodup)(w:PI X tg iter wi)(z:By k g)
  (h:∀C q f l ex r,PG (dY X (JN tg++fi.map fun i=>X.N.getD i "") scope C q f l ex r) tg g/\Kf (dY X (JN tg++fi.map fun i=>X.N.getD i "") scope C q f l ex r) ifs tc/\PE (dY X (JN tg++fi.map fun i=>X.N.getD i "") scope C q f l ex r) elt te)
  (A:X.N[j]?=some y:=by rfl) (B:Loc X.env.scope y:=by first|exact Or.inl rfl|exact Or.inr rfl)
  (D:nr X.env.scope scope k (JN tg++fi.map fun i=>X.N.getD i "") X.N fi=true:=by with_unfolding_all rfl) (E:X.calm=true:=by rfl)
  (s:rS (.ListComp elt [⟨tg,iter,ifs,0⟩] scope pos) (some (.Name y u)) n.line X.env=pure true:=by rfl)
  (G:∀x,Ai iter X.env x=pure x:=by intro _;rfl) (H:X.fn y=true∨X.env.scope.names.lookup y=some .local:=by first|exact .inl rfl|exact .inr rfl|assumption) :
  PS X (.Assign [.Name y u] (.ListComp elt [⟨tg,iter,ifs,0⟩] scope pos) n) (aM (cG k fi wi g tc te) (eL j)) :=
 CJ v A B D E w (fun _ _ _ _ _ _=>(h _ _ _ _ _ _).1) z (fun _ _ _ _ _ _=>(h _ _ _ _ _ _).2.1) (fun _ _ _ _ _ _=>(h _ _ _ _ _ _).2.2) s G H
end
end L2
end

section
set_option Elab.async false
set_option linter.all false
set_option maxRecDepth 100000
namespace L2
open PySem PySem.Spec PyProof.Rows
theorem wT{α β:Type}{F:α->β->Prop}:∀{e:List α}{f:List β},Paired F e f->∀{i:Nat}{a:α}{b:β},e[i]?=some a->f[i]?=some b->F a b
 |_,_,.nil,_,_,_,h,_=>by simp at h
 |_,_,.cons r t,0,_,_,h,g=>by simp at h g;subst h g;exact r
 |_,_,.cons r t,i+1,_,_,h,g=>by simp at h g;exact wT t h g
structure Ih(h:Heap)(d:Addr)(es:Array ml)(ep:Nat):Prop where
 ex:∃o,h.get? d=some o/\o.ExactDict/\o.data=.dict es ep
section
variable{prog:b9}{w:World}{A:Around}{E:Zc}{s:Shared}{d v it:Addr}{es:Array ml}{ep i:Nat}
theorem Ih.ty(h:Ih s.heap d es ep):s.TypeIs (.ref d) "dict":=let⟨o,a,e,_⟩:=h.ex;⟨o,a,e.1⟩
end
structure KQ(P:b9)(w:World)(K:Za)(d:Addr)(o:Obj)(u:HO)(n:Nat)(ent:Nat->Hp->V->V->Prop)(es:Array ml)(ep:Nat):Prop where
 ex:o.ExactDict
 dat:o.data=.dict es ep
 sz:es.size=n
 get:∀{H:Hp}{h:Heap}{i:Nat}(hi:i<es.size),nu P w K H h->H d=some (.frz o u)->∃a b,ent i H a b/\RelV a es[i].key/\RelV b es[i].val
def Jv(K:Za)(kvs:List (TK×V)):Nat->Hp->V->V->Prop:=fun i H a b=>∃k,kvs[i]?=some (k,b)/\so K H k a
theorem xc{P:b9}{w:World}{K:Za}{H:Hp}{h:Heap}{d:Addr}{o:Obj}{f:List (TK×V)}(s:nu P w K H h)(e:H d=some (.frz o (.dT f))):
  (d==iL)=false/\∃es t,KQ P w K d o (.dT f) f.length (Jv K f) es t:=by
 obtain⟨g,z,n,D,u,o',es,t,p,ex,y,v,nd⟩:=(show cw P w K H h d (.frz o (.dT f))from s d _ e);rw[g]at p;cases p;have E:es.size=D.length:=by rw[<-ma,v,ah]
 refine⟨n,es,t,ex,y,by rw[E,Paired.length u],fun{G I i} J q L=>?_⟩;obtain⟨M,z',x,xs',j,N,O,Q,k,T,r,l,U⟩:=(show cw P w K G I d (.frz o (.dT f))from q d _ L);rw[M]at k;cases k;rw[y]at r;cases r;have Y:es.size=xs'.length:=by rw[<-ma,l,ah]
 have m:i<xs'.length:=by omega
 have A:i<f.length:=by rw[Paired.length j];exact m
 have B:=wT j (i:=i) (a:=f[i]) (b:=xs'[i]) (by simp[A]) (by simp[m]);have C:es[i]=entryOfKey (eR P w) xs'[i]:=by
  have:es.toList[i]?=some es[i]:=by simp[J]
  rw[l,cF,da m]at this;injection this with this;exact this.symm
 refine⟨.ref xs'[i].2.1,f[i].2,⟨f[i].1,by simp[A],B.2.1⟩,?_,?_⟩
 ·rw[C];exact rfl
 ·rw[C];exact B.2.2.2
end L2
end

section
set_option Elab.async false
set_option linter.all false
set_option maxRecDepth 100000
namespace L2
open PySem PySem.Spec PyProof.Rows
section
variable{prog:b9}{w:World}{A:Around}{E:Zc}{s:Shared}{d v it:Addr}{es:Array ml}{ep i:Nat}
theorem Fm{Q:Zc}(j:(d==iL)=false)(h:Ih s.heap d es ep)
  (q:∀f,f.IsKeyIter s.heap.objs.size d 0 es.size ep->(∀b o,s.heap.get? b=some o->f.get? b=some o)->Q (.ref s.heap.objs.size) { s with heap:=f }):wpAny (model prog w) A (pyIter (.ref d)) Q E s:=by
 obtain⟨o,g,k,a⟩:=h.ex;refine wpAny_pyIter_slot h.ty F.slot_dict_iter <| BO F.slot_dict_iter h.ty F.entry_dict_iter ?_ (F.args_dict_iter_1 _);unfold cb.«dict.__iter__»;refine ar ?_;unfold cb.Dict.dictSlotNone;refine ar <| wpAny_notOrdered_dict h.ty <| ?_;refine aT (show wpAny _ _ (cb.Dict.showsAll d >>= _) _ _ s from ?_);unfold cb.Dict.showsAll;rw[if_neg (fun z=>by rw[j]at z;cases z)];refine ar <| aT <| ar <| xV g a <| ar <| wpAny_dictEpoch g a ?_;refine ar (n6 (aT ⟨_,rfl,"dict_keyiterator",_,⟨_,du _ rfl,rfl⟩,tW.lookup,?_⟩));exact q _ ⟨_,du _ rfl,rfl,by simp[rawInt]⟩ fun b o e=>bR _ e
theorem Fl{Q:Option Value->Shared->Prop}(j:s.heap.IsKeyIter it d i es.size ep)(h:Ih s.heap d es ep)(p:i<es.size)
  (q:∀k,k.IsKeyIter it d (i+1) es.size ep->jy it s.heap k->Q (some es[i].key) { s with heap:=k }):wpAny (model prog w) A (pyNext (.ref it)) Q E s:=by
 obtain⟨t,f,l,a⟩:=id j;obtain⟨o,m,u,e⟩:=h.ex;have g:=j.typeIs;unfold pyNext;refine ar <| xT <| xS (name:=jU "__next__") g tW <| BO tW g F.entry_dict_keyiterator_next ?_ (F.args_dict_keyiterator_next_1 _);refine ar <| aT <| ar <| ar ?_
 first|refine ar <| xR g <| aT ?_|refine ar <| xQ g <| aT ?_
 refine ar <| wpAny_fieldsOf f a ?_;simp only[show cb.Dict_items.ownsTuple "dict_keyiterator"=false by decide,kh,if_false];show wpAny _ _ (if(Value.ref d==Value.none)=true then _ else _) _ _ _
 rw[if_neg (show ¬((Value.ref d==Value.none)=true)from iP)];refine ar <| aT <| ar <| xV m e ?_;rw[if_neg (by simp)];refine ar <| aT <| ar <| wpAny_dictEpoch m e ?_;rw[if_neg (by simp)];refine aT ?_;simp only[show ¬((i:Int)<0)from by omega,if_false,oh,kS p];refine ar ?_
 first|refine ar <| xR g <| aT ?_|refine ar <| xQ g <| aT ?_
 refine ar <| wpAny_isOneOf_keyiter g ?_;show wpAny _ _ (setField (.ref it) 1 (rawInt ((i:Int)+1)) >>= _) _ _ s;refine ar <| wpAny_setField f a (by simp) ?_;have n:(s.heap.update it (Obj.mapFields (·.setIfInBounds 1 (rawInt ((i:Int)+1))))).IsKeyIter it d (i+1) es.size ep:=⟨_,jX _ f (Obj.isFreed_of_fields (Obj.data_mapFields a _)),(Obj.cls_mapFields ..).trans l,by rw[Obj.data_mapFields a];simp[rawInt]⟩;have r:=Heap.IsKeyIter.typeIs (s:={ s with heap:=s.heap.update it (Obj.mapFields (·.setIfInBounds 1 (rawInt ((i:Int)+1)))) }) n;refine ar <| i8 <| ar <| wpAny_isOneOf_keyiter r ?_;show wpAny _ _ (pure es[i].key) _ _ _;exact aT <| aT ⟨_,rfl,aT <| q _ n (tX ..)⟩
theorem GW{Q:Option Value->Shared->Prop}(p:A.handled=none)(g:s.heap.IsKeyIter it d i es.size ep)(h:Ih s.heap d es ep)(r:es.size<=i)
  (q:∀l,Heap.ExtBut it s.heap l->Q none { s with heap:=l }):wpAny (model prog w) A (pyNext (.ref it)) Q E s:=by
 obtain⟨u,j,t,k⟩:=id g;obtain⟨o,n,x,e⟩:=h.ex;have f:=g.typeIs;unfold pyNext;refine ar <| xT <| xS (name:=jU "__next__") f tW <| BO tW f F.entry_dict_keyiterator_next ?_ (F.args_dict_keyiterator_next_1 _);refine ar <| aT <| ar <| ar ?_
 first|refine ar <| xR f <| aT ?_|refine ar <| xQ f <| aT ?_
 refine ar <| wpAny_fieldsOf j k ?_;simp only[show cb.Dict_items.ownsTuple "dict_keyiterator"=false by decide,kh,if_false];show wpAny _ _ (if(Value.ref d==Value.none)=true then _ else _) _ _ _
 rw[if_neg (show ¬((Value.ref d==Value.none)=true)from iP)];refine ar <| aT <| ar <| xV n e ?_;rw[if_neg (by simp)];refine ar <| aT <| ar <| wpAny_dictEpoch n e ?_;rw[if_neg (by simp)];refine aT ?_;simp only[show ¬((i:Int)<0)from by omega,if_false,oh,tV r];refine ar ?_
 first|refine ar <| xR f <| aT ?_|refine ar <| xQ f <| aT ?_
 show wpAny _ _ (setField (.ref it) 0 .none >>= _) _ _ s;refine ar <| wpAny_setField j k (by simp) ?_;show wpAny _ _ (newExc (.type "StopIteration") [] >>= _) _ _ _;refine ar ?_;simp only[newExc,newTuple];refine ar <| n6 ?_ (by size_fits);refine ar (m:=firstArgMember _ _) <| wpAny_of_eq (a:=Value.none) (by first|rfl|(simp only[firstArgMember];rfl)) <| n6 ?_ (by size_fits)
 simp only[raiseNew];refine ar <| wpAny_handled ?_;rw[show A.in1.handled=none from p];refine ar <| aT <| wpAny_throw ?_;refine ar (DM (b:=true) (T:="StopIteration") ⟨_,du _ rfl,rfl⟩ isSubtype_stop (aT (q _ (((tX ..).extBut.push _).push _))))
end
def K3(d:Addr)(o:Obj)(u:HO)(n:Nat)(ent:Nat->Hp->V->V->Prop):It :=
 ⟨fun i H=>H d=some (.frz o u)/\i<n,fun i H x H'=>H'=H/\∃b,ent i H x b,fun i H=>H d=some (.frz o u)/\n<=i⟩
theorem EN{P:b9}{w:World}{K:Za}{U:Expr}{d it:Addr}{o:Obj}{u:HO}{n:Nat}{l:Nat->Hp->V->V->Prop}{N:Array ml}{O:Nat}(f:KQ P w K d o u n l N O):
  vv P w K U (K3 d o u n l) [it] it (fun i h=>h.IsKeyIter it d i n O) where
 mem:=by simp
 obj:=fun i h st b j=>by
  have e:b=it:=by simpa using j
  subst e;obtain⟨o,e,c,d⟩:=st;exact⟨o,e,fun v z=>by rw[d]at z;cases z⟩
 keep:=fun i h q st k=>st.at fun o e=>k it (by simp) o e
 item:=by
  intro X x y A Q i T s σ H E I r st B;subst x y A;obtain⟨t,C⟩:=B;have m:i<N.size:=by rw[f.sz];exact C
  obtain⟨g,Y⟩:=(show cw X.prog X.w X.K H s.heap d (.frz o u)from I.hok d _ t);obtain⟨a,b,en,ra,rb⟩:=f.get m I.hok t;obtain⟨D,G,f2,J,L,M⟩:=r it (by simp);rw[<-f.sz]at st;refine Fl st ⟨o,g,f.ex,f.dat⟩ m fun q p sb=>?_;have I1:Inv X T σ H { s with heap:=q }:=I.turned (t':=s.toks) (fun b o j e=>(sb.2 b j).trans e) D G J L M;obtain⟨oi,e,c,dd⟩:=id p;exact⟨_,rfl,u8 (s:={ s with heap:=q }) e c dd (by decide) ⟨a,H,I1,ra,⟨rfl,b,en⟩,by rw[<-f.sz];exact p,fun b j=>(r b j).1⟩⟩
 done:=by
  intro X x y A Q i T s σ H E I r st B;subst x y A;obtain⟨t,C⟩:=B;obtain⟨g,Y⟩:=(show cw X.prog X.w X.K H s.heap d (.frz o u)from I.hok d _ t);obtain⟨D,G,f2,J,L,M⟩:=r it (by simp);rw[<-f.sz]at st;exact GW (I.ok.hd Q) st ⟨o,g,f.ex,f.dat⟩ (by rw[f.sz];exact C) fun q eb=>⟨rfl,I.turned (t':=s.toks) (fun b o j e=>eb b o j e) D G J L M⟩
 self:=fun _ _ _ _ _ st h=>wpAny_pyIter_keyiter st h
def HG(K:Za)(tl:TE):TI:=fun σ H R=>tl σ H fun x H1=>∃d kvs,x=.ref d /\
 ((H1 d=some (.dT kvs)/\∀o,R (K3 d o (.dT kvs) kvs.length (Jv K kvs)) (upd H1 d (.frz o (.dT kvs))))∨∃o,H1 d=some (.frz o (.dT kvs))/\R (K3 d o (.dT kvs) kvs.length (Jv K kvs)) H1)
section
variable{X:Cx}{J3:Zd}{σ:St}{l tg:Expr}{tl:TE}
theorem w8{R:It->Hp->Prop}{a:Hp}{s1:Shared}{d:Addr}{o:Obj}{u:HO}{n:Nat}{f:Nat->Hp->V->V->Prop}{m:Array ml}{p:Nat}(i:KQ X.prog X.w X.K d o u n f m p)(h:(d==iL)=false)(j:Inv X J3 σ a s1)(e:a d=some (.frz o u))(q:R (K3 d o u n f) a):
  wpAny (model X.prog X.w) X.A (pyIter (.ref d)) (PIE X J3 σ tg R) X.xe s1:=by
 obtain⟨g,_⟩:=(show cw X.prog X.w X.K a s1.heap d (.frz o u)from j.hok d _ e);refine Fm h ⟨o,g,i.ex,i.dat⟩ fun r k s=>?_;have t:Inv X J3 σ a { s1 with heap:=r,toks:=s1.toks }:=j.kept (t':=s1.toks) s;refine⟨_,[_],_,_,a,rfl,t,EN i,by rw[<-i.sz];exact k,fun b v=>?_,q⟩;have e:b=s1.heap.objs.size:=by simpa using v
 subst e;exact j.fpOk (aB _) (j.hok.fresh (aB _))
theorem G7(D:PE X l tl):PI X tg l (HG X.K tl):=by
 intro J3 s σ H R I h;refine cH (D J3 s σ H _ I h) fun v s1 k=>?_;obtain⟨x,m,j,E,d,g,ex,q⟩:=k;subst ex;cases E;rcases q with⟨e,q⟩|⟨o,e,q⟩
 ·obtain⟨z,i,xs',n,o,G,J,t,r⟩:=id (show cw X.prog X.w X.K m s1.heap d (.dT g)from j.hok d _ e);have C:Inv X J3 σ (upd m d (.frz o (.dT g))) { s1 with heap:=s1.heap,toks:=s1.toks } :=
   j.write (x:=d) (e:=d) (t':=s1.toks) (by rw[e];trivial) (.inl rfl) (fun _ _ _ q=>q) ⟨o,t⟩ ⟨t,z,i,xs',Paired.mapP n (fun p q r=>⟨r.1,so.keeps (fun b L u=>by rw[ai (fun z=>by rw[z,e]at u;cases u)];exact u) 8 r.2.2.1 r.2.1,r.2.2⟩),o,G,J,t,r⟩
  obtain⟨f,y,A,B⟩:=xc C.hok (aa (H:=m) (a:=d));exact w8 B f C aa (q o)
 ·obtain⟨f,y,A,B⟩:=xc j.hok e;exact w8 B f j e q
end
abbrev La:List V->Hp->VK->Prop:=fun xs H Q=>∃i j,xs=[.int i,.int j]/\Q (.int (if j > i then j else i)) H
end L2
end

section
set_option Elab.async false
set_option linter.all false
set_option maxRecDepth 100000
namespace HT
open PySem PySem.Spec PyProof.Rows
end HT
namespace L2
open PySem PySem.Spec PyProof.Rows
end L2
namespace HT
open PySem PySem.Spec PyProof.Rows
end HT
namespace L2
open PySem PySem.Spec PyProof.Rows
end L2
end

section
set_option Elab.async false
set_option linter.all false
set_option maxRecDepth 100000
namespace L2
open PySem PySem.Spec PyProof.Rows
abbrev JR(K:Za):List V->Hp->VK->Prop:=fun xs H Q=>∃(p:Addr) (ns:List Int),xs=[.ref p]/\aw K H p (ns.map V.int)/\Q (.int ns.sum) H
abbrev nP:R2:=rI IntMulOk fun i j=>.int (i * j)
section
variable{X:Cx}
theorem FR(i:X.calm=true):fV X (.builtin "sum") (JR X.K):=by
 intro w s σ H x y Q I r h;obtain⟨p,j,rfl,k,q⟩:=h;obtain⟨u,rfl,l⟩:=vals1 r;cases l;obtain⟨m,n,o,z⟩:=I.list k;obtain⟨a,rfl,f⟩:=yt n;have g:s.heap.IsList p (dz a.toArray):=by
  have:=o.isList;have e:dz a.toArray=(a.map fun p=>Value.int p.1 p.2).toArray:=by simp[dz]
  rw[e];exact this
 refine sum_intListG (I.ok.hd i) g fun A tk t v=>?_;rw[preSum_eq,tU (by simp)];exact⟨.int j.sum,H,I.kept v,⟨t,by rw[<-f]⟩,q⟩
theorem lf:nS X (l_ .Mult) nP:=KR fun _ _ _ _ _ _ _ a q=>mul_int q a
end
def Ki(_ j:Int):Prop:=0<j/\j.natAbs.log2<9000
abbrev JV:R2:=rI Ki fun i j=>.int (i / j)
def Im(K:Za)(a:Addr)(n:Nat):It :=
 ⟨fun i H=>i<n/\∃xs,aw K H a xs/\xs.length=n,fun i H x H'=>H'=H/\∀xs,aw K H a xs->xs[n-1-i]?=some x,fun i _=>n<=i⟩
def Ll(K:Za)(ta:TA):TI:=fun σ H R=>ta σ H fun vs H1=>∃a xs,vs=[.ref a]/\aw K H1 a xs/\R (Im K a xs.length) H1
theorem Ju{K:Za}{a:Addr}{xs:List V}{g:TG}{j:TS}{D:rL}{σ:St}{H:Hp}(Pv:Nat->St->Hp->Prop)(l:Pv 0 σ H)(n:∀i σ H,i<=xs.length->Pv i σ H->aw K H a xs)
  (o:∀i x σ H,xs[xs.length-1-i]?=some x->i<xs.length->Pv i σ H->g x σ H fun σ2 h=>j { D with nx:=Pv (i+1),ct:=Pv (i+1),bk:=D.nx } σ2 h) (r:∀σ H,Pv xs.length σ H->D.nx σ H) :
  ∃W:Nat->Nat->St->Hp->Prop,(∃m,W 0 m σ H)/\∀i m σ H,W i m σ H ->
   ((Im K a xs.length).stop i H/\D.nx σ H)∨((Im K a xs.length).go i H/\∃N:St->Hp->Prop,(∀σ' f,N σ' f->∃k,k<m/\W (i+1) k σ' f)/\∀x f,(Im K a xs.length).yld i H x f->g x σ f fun σ2 h=>j { D with nx:=N,ct:=N,bk:=D.nx } σ2 h):=by
 refine⟨fun i m σ H=>m=xs.length-i/\i<=xs.length/\Pv i σ H,⟨xs.length,by simp,dI _,l⟩,?_⟩;rintro i m σ H ⟨rfl,s,p⟩;have q:=n i σ H s p;by_cases lt:i<xs.length
 ·refine .inr ⟨⟨lt,xs,q,rfl⟩,Pv (i+1),fun σ' f t=>⟨xs.length-(i+1),by omega,rfl,lt,t⟩,fun x f y=>?_⟩;obtain⟨rfl,y⟩:=y;exact o i x σ _ (y xs q) lt p
 ·have e:i=xs.length:=by omega
  subst e;exact .inl ⟨aB _,r σ H p⟩
theorem vp:i0 "reversed"=some (.type "reversed"):=by decide +kernel
section
variable{X:Cx}
theorem Hh:nS X (l_ .FloorDiv) JV:=KR fun i j _ _ _ _ _ a q=>by
 have e:(0:Int)<j:=a.1;exact floordiv_int (by omega) (by rw[Int.fdiv_eq_ediv_of_nonneg i (by omega)];exact q) (.inl (PyProof.noPylong_of_log2 a.2))
theorem Gv{P:b9}{w:World}{K:Za}{Q:Expr}(a it:Addr)(n:Nat):vv P w K Q (Im K a n) [it] it (fun i h=>i<=n/\h.IsRevIter it a ((n:Int)-1-(i:Int))) where
 mem:=by simp
 obj:=fun i h st b g=>by
  have e:b=it:=by simpa using g
  subst e;obtain⟨_,o,e,c,d⟩:=st;exact⟨o,e,fun v z=>by rw[d]at z;cases z⟩
 keep:=fun i h l st k=>⟨st.1,st.2.at fun o e=>k it (by simp) o e⟩
 item:=by
  intro X r t y L i M s σ H E I m st q;subst r t y;obtain⟨T,U,N,hx⟩:=q;obtain⟨Y,O,p,hz⟩:=I.list N;have hl:=O.length;obtain⟨x,ex⟩:∃x,U[n-1-i]?=some x:=⟨_,da (by omega)⟩;obtain⟨u,hu,ru⟩:=O.get ex;obtain⟨A,B,f2,C,D,G⟩:=m it (by simp);have J:(n:Int)-1-(i:Int)=((n-1-i:Nat):Int):=by omega
  have f:=st.2;rw[J]at f;refine wpAny_pyNext_rev_item f p.isList (x:=u) (by simpa using hu) fun l j sb=>?_;have I1:Inv X M σ H { s with heap:=l }:=I.turned (t':=s.toks) (fun b o g e=>(sb.2 b g).trans e) A B C D G;have e2:((n-1-i:Nat):Int)-1=(n:Int)-1-((i+1:Nat):Int):=by omega
  rw[e2]at j;obtain⟨o,e,c,d⟩:=id j;exact⟨u,rfl,u8 (s:={ s with heap:=l }) e c d (by decide) ⟨x,H,I1,ru,⟨rfl,fun ys hy=>by rw[I.list_inj hy N];exact ex⟩,⟨T,j⟩,fun b g=>(m b g).1⟩⟩
 done:=by
  intro X r t y L i M s σ H E I m st q;subst r t y;obtain⟨A,B,f2,C,D,G⟩:=m it (by simp);have q:n<=i:=q;have J:(n:Int)-1-(i:Int)=-1:=by have:=st.1;omega
  have f:=st.2;rw[J]at f;exact wpAny_pyNext_rev_end (I.ok.hd L) f fun l eb=>⟨rfl,I.turned (t':=s.toks) (fun b o g e=>eb b o g e) A B C D G⟩
 self:=fun _ _ _ _ _ st h=>wpAny_pyIter_revIter st.2 h
variable{tg l:Expr}{ta:TA}{p pos:Pos}
theorem Kw(t:Gl X "reversed")(v:X.mg "reversed"=none)(w:PA X [l] ta)(x:aL [l] X.env=[(false,eval l X.env)]:=by rfl):PI X tg (.Call (.Name "reversed" p) [l] [] pos) (Ll X.K ta):=by
 intro n s σ H R I h;refine Call_ (iI I t v vp (o9 (cH (w pos n s σ H _ I h) fun J s1 j=>?_) (by rw[x];rfl) (by rfl)));obtain⟨L,r,g,y,z⟩:=j;obtain⟨a,i,e,A,q⟩:=z;subst e;obtain⟨u,rfl,B⟩:=vals1 y;cases B;obtain⟨k,C,D,M⟩:=g.list A;have E:=C.length;refine call_reversed_list D.isList ?_;have e:((k.toArray.size:Nat):Int)-1=(i.length:Int)-1-((0:Nat):Int):=by rw[bG,E];omega
 rw[e];have f:(s1.heap.push (revObj a ((i.length:Int)-1-((0:Nat):Int)))).IsRevIter s1.heap.objs.size a ((i.length:Int)-1-((0:Nat):Int)):=⟨_,du _ rfl,rfl,rfl⟩;refine wpAny_pyIter_revIter (s:={ s1 with heap:=s1.heap.push (revObj a ((i.length:Int)-1-((0:Nat):Int))) }) f ?_;have m:∀b∈[s1.heap.objs.size],nL X n r b:=fun b G=>by
  have e:b=s1.heap.objs.size:=by simpa using G
  subst e;exact g.fpOk (aB _) (g.hok.fresh (aB _))
 exact⟨s1.heap.objs.size,[s1.heap.objs.size],_,_,r,rfl,g.kept (t':=s1.toks) fun b o e=>bR _ e,Gv a _ _,⟨dI _,f⟩,m,q⟩
end
def Ab(h:Heap)(z TI TO T:Addr):Prop:=∃b:Bool,h.get? z=some { cls:=.type "zip",dict:=none,data:=.fields #[rawInt T,.bool b,.bool false,.ref TI,.ref TO],slots:=#[] }
section
variable{prog:b9}{w:World}{A:Around}{E:Zc}{s:Shared}
theorem vK{a:Addr}{Q:Option Obj->Shared->Prop}(h:Q (s.heap.get? a) s):wpAny (model prog w) A (loadIfAlive a) Q E s:=fun Γ p _=>by
 unfold loadIfAlive;rw[Sem.wp_loadIfAlive];exact h
theorem wW{z TI TO T:Addr}{o:Obj}{Q:Bool->Shared->Prop}(a:Ab s.heap z TI TO T)(i:s.heap.get? T=some o)
  (h:∀e,Ab e z TI TO T->jy z s.heap e->Q false { s with heap:=e }):wpAny (model prog w) A (xP (.ref z)) Q E s:=by
 obtain⟨b,a⟩:=a;unfold xP;refine ar (qA a rfl (x:=rawInt T) rfl ?_);show wpAny _ _ (loadIfAlive ((T:Int).toNat) >>= _) _ _ _;refine ar (vK ?_);rw[oh,i];simp only[Option.isNone_some,kh,if_false];refine ar (qA a rfl (x:=.bool b) rfl ?_);cases b with
 |true=>exact aT (h _ ⟨true,a⟩ (jy.refl ..))
 |false=>exact ar (wpAny_setField_rec a (by simp) fun e f g=>aT (h e ⟨true,f⟩ g))
theorem FB{z TI TO T n p t u:Addr}{B C:Nat}{L M:Array Value}{x y:Value}{o:Obj}{Q:Zc}(D:mi z TI TO n p t u)
  (N:Ab s.heap z TI TO T) (hT:s.heap.get? T=some o) (G:IsPair s.heap TI (.ref n) (.ref p))
  (h1:s.heap.IsListIter n t B) (h2:s.heap.IsListIter p u C) (H:s.heap.IsList t L) (I:s.heap.IsList u M) (hx:L[B]?=some x) (hy:M[C]?=some y)
  (hQ:∀h,Ab h z TI TO T->h.IsListIter n t (B+1)->h.IsListIter p u (C+1)->IsPair h s.heap.objs.size x y->h.objs.size=s.heap.objs.size+1 ->
   (∀c o,c≠z->c≠n->c≠p->s.heap.get? c=some o->h.get? c=some o)->Q (.ref s.heap.objs.size) { s with heap:=h }) :
  wpAny (model prog w) A (cb.«zip.__next__» ⟨[.ref z],[]⟩) (fun J s'=>∃v,J=.done (.ret v)/\Q v s') E s:=by
 obtain⟨b,O⟩:=id N;show wpAny _ _ (field (.ref z) 2 >>= _) _ _ _;refine ar (qA O rfl (x:=.bool false) rfl ?_);show wpAny _ _ (field (.ref z) 3 >>= _) _ _ _;refine ar (qA O rfl (x:=.ref TI) rfl (ar (rW G rfl ?_)));show wpAny _ _ (xP (.ref z) >>= _) _ _ _;refine ar (wW N hT fun U i a=>?_);simp only[kh,if_false];refine ar ?_;simp only[<-Iu,t6,List.forIn_nil];refine ar (ar (i8 ?_));show wpAny _ _ (xO (.ref n) >>= _) _ _ _;refine ar (wpAny_nextOf_list_item (h1.extBut a.extBut D.i1z) (H.extBut a.extBut D.l1z) hx fun Y j f=>aT ?_);refine aT (ar (ar (i8 ?_)));show wpAny _ _ (xO (.ref p) >>= _) _ _ _;refine ar (wpAny_nextOf_list_item ((h2.extBut a.extBut D.i2z).extBut f.extBut D.i12.symm) ((I.extBut a.extBut D.l2z).extBut f.extBut D.l2i1) hy fun q k g=>aT ?_);refine aT (aT ?_);have sz:q.objs.size=s.heap.objs.size:=by rw[g.1,f.1,a.1]
 refine ar (wpAny_newTuple (hsz:=by show 2<=aj;decide) ?_);obtain⟨r,l⟩:=i;have m:=g.extBut _ _ D.i2z.symm (f.extBut _ _ D.i1z.symm l);refine aT ⟨_,rfl,?_⟩;rw[sz];refine hQ _ ⟨r,bR _ m⟩ ((j.extBut g.extBut D.i12).at fun o e=>bR _ e) (k.at fun o e=>bR _ e) ?_ (by rw[tM,sz]) fun c o c1 c2 c3 e=>bR _ (g.extBut _ _ c3 (f.extBut _ _ c2 (a.extBut _ _ c1 e)));rw[<-sz];exact du _ rfl
theorem Hz{z TI TO T j k p q:Addr}{r t:Nat}{u v:Array Value}{o:Obj}{Q:Fin->Shared->Prop}(N:A.handled=none)(D:mi z TI TO j k p q)
  (O:Ab s.heap z TI TO T) (hT:s.heap.get? T=some o) (y:IsPair s.heap TI (.ref j) (.ref k))
  (U:s.heap.IsListIter j p r) (h2:s.heap.IsListIter k q t) (l:s.heap.IsList p u) (B:s.heap.IsList q v) (m:u[r]?=none∨v[t]?=none)
  (Y:∀C e,(∀c o,c≠z->c≠j->c≠k->s.heap.get? c=some o->C.get? c=some o)->(∃o,C.get? e=some o/\o.cls=.type "StopIteration")->E (.ref e) { s with heap:=C }) :
  wpAny (model prog w) A (cb.«zip.__next__» ⟨[.ref z],[]⟩) Q E s:=by
 obtain⟨b,gz⟩:=id O;show wpAny _ _ (field (.ref z) 2 >>= _) _ _ _;refine ar (qA gz rfl (x:=.bool false) rfl ?_);show wpAny _ _ (field (.ref z) 3 >>= _) _ _ _;refine ar (qA gz rfl (x:=.ref TI) rfl (ar (rW y rfl ?_)));show wpAny _ _ (xP (.ref z) >>= _) _ _ _;refine ar (wW O hT fun h₁ G a=>?_);simp only[kh,if_false];refine ar ?_;simp only[<-Iu,t6,List.forIn_nil];refine ar (ar (i8 ?_));show wpAny _ _ (xO (.ref j) >>= _) _ _ _;cases H:u[r]? with
 |none=>exact ar (wpAny_nextOf_list_end N (U.extBut a.extBut D.i1z) (l.extBut a.extBut D.l1z) H fun g e f I=>Y g e (fun c o J L _ x=>f _ _ L (a.extBut _ _ J x)) I)
 |some x =>
  have hy:v[t]?=none:=by rcases m with h|h;rw[H]at h;cases h;exact h
  refine ar (wpAny_nextOf_list_item (U.extBut a.extBut D.i1z) (l.extBut a.extBut D.l1z) H fun g M f=>aT ?_);refine aT (ar (ar (i8 ?_)));show wpAny _ _ (xO (.ref k) >>= _) _ _ _;exact ar (wpAny_nextOf_list_end N ((h2.extBut a.extBut D.i2z).extBut f.extBut D.i12.symm) ((B.extBut a.extBut D.l2z).extBut f.extBut D.l2i1) hy fun n e i I=>Y n e (fun c o J L c3 x=>i _ _ c3 (f.extBut _ _ L (a.extBut _ _ J x))) I)
theorem Fz{z TI TO T f g h i:Addr}{j k:Nat}{p q:Array Value}{x y:Value}{o:Obj}{Q:Option Value->Shared->Prop}(D:mi z TI TO f g h i)
  (r:Ab s.heap z TI TO T) (u:s.heap.get? T=some o) (l:IsPair s.heap TI (.ref f) (.ref g))
  (v:s.heap.IsListIter f h j) (B:s.heap.IsListIter g i k) (m:s.heap.IsList h p) (n:s.heap.IsList i q) (C:p[j]?=some x) (G:q[k]?=some y)
  (H:∀a,Ab a z TI TO T->a.IsListIter f h (j+1)->a.IsListIter g i (k+1)->IsPair a s.heap.objs.size x y->a.objs.size=s.heap.objs.size+1 ->
   (∀c o,c≠z->c≠f->c≠g->s.heap.get? c=some o->a.get? c=some o)->Q (some (.ref s.heap.objs.size)) { s with heap:=a }):wpAny (model prog w) A (pyNext (.ref z)) Q E s:=by
 have t:s.TypeIs (.ref z) "zip":=let⟨_,e⟩:=r;⟨_,e,rfl⟩;unfold pyNext;exact ar (xT (xS (name:=jU "__next__") t xN
  (BO xN t F.entry_zip_next (FB D r u l v B m n C G fun a a1 a2 a3 I J L=>aT (H a a1 a2 a3 I J L)) (F.args_zip_next_1 _))))
theorem Fy{z TI TO T f g h i:Addr}{n p:Nat}{q r:Array Value}{o:Obj}{Q:Option Value->Shared->Prop}(v:A.handled=none)(D:mi z TI TO f g h i)
  (t:Ab s.heap z TI TO T) (x:s.heap.get? T=some o) (j:IsPair s.heap TI (.ref f) (.ref g))
  (y:s.heap.IsListIter f h n) (B:s.heap.IsListIter g i p) (k:s.heap.IsList h q) (l:s.heap.IsList i r) (a:q[n]?=none∨r[p]?=none)
  (C:∀m,(∀c o,c≠z->c≠f->c≠g->s.heap.get? c=some o->m.get? c=some o)->Q none { s with heap:=m }):wpAny (model prog w) A (pyNext (.ref z)) Q E s:=by
 have u:s.TypeIs (.ref z) "zip":=let⟨_,e⟩:=t;⟨_,e,rfl⟩;unfold pyNext;refine ar (xT (xS (name:=jU "__next__") u xN
  (BO xN u F.entry_zip_next (Hz v D t x j y B k l a fun m e G H=>?_) (F.args_zip_next_1 _))))
 obtain⟨o,I,J⟩:=H;exact ar (DM (T:="StopIteration") (b:=true) ⟨o,I,J⟩ isSubtype_stop (aT (C _ G)))
end
structure e_(B:Nat)(S:Addr)(xs ys:Array Value)(h:Heap)(acc:Array Value)(ts:Ze)(i:Nat):Prop where
 is:acc.toList=ts.map .ref
 len:ts.length=i
 at':∀(j:Nat) t,ts[j]?=some t->B<=t/\∃x y,xs[j]?=some x/\ys[j]?=some y/\IsPair h t x y
 uni:ts.Nodup
theorem e_.keep{B:Nat}{S:Addr}{g l:Array Value}{h m:Heap}{f:Array Value}{n:Ze}{i:Nat}(d:e_ B S g l h f n i)(k:∀c o,B<=c->h.get? c=some o->m.get? c=some o):e_ B S g l m f n i :=
 ⟨d.is,d.len,fun j t e=>let⟨a,x,y,b,c,q⟩:=d.at' j t e;⟨a,x,y,b,c,k _ _ a q⟩,d.uni⟩
theorem e_.push{B:Nat}{S:Addr}{k l:Array Value}{h:Heap}{f:Array Value}{m:Ze}{i:Nat}{T:Addr}{x y:Value}(d:e_ B S k l h f m i)(hB:B<=T)(o:T∉m)(p:k[i]?=some x)(r:l[i]?=some y)(s:IsPair h T x y):
  e_ B S k l h (f.push (.ref T)) (m++[T]) (i+1):=by
 refine⟨by simp[d.is],by simp[d.len],fun j t e=>?_,?_⟩
 ·rw[List.getElem?_append]at e;split at e
  ·exact d.at' j t e
  ·rename_i g;rw[d.len]at g e;have u:j-i=0:=by
    rcases Nat.eq_zero_or_pos (j-i)with q|q
    ·exact q
    ·rw[xZ (by simp;omega)]at e;cases e
   rw[u]at e;have v:j=i:=by omega
   subst v;simp at e;subst e;exact⟨hB,x,y,p,r,s⟩
 ·rw[dk];refine⟨d.uni,by simp,fun a w b n=>?_⟩;simp at n;subst n;exact fun q=>o (q▸w)
section
variable{prog:b9}{w:World}{A:Around}{R:Result->Shared->Prop}
theorem FA{z TI TO T₁ E G H I S:Addr}{B:Nat}{l m:Array Value}(hh:A.handled=none)(D:mi z TI TO E G H I)(bz:z<B)(bI:TI<B)(b1:E<B)(U:G<B)(c1:H<B)(c2:I<B)(bS:S<B)
  (sz:S≠z) (sI:S≠TI) (s1:S≠E) (s2:S≠G) (al:S≠H) (an:S≠I) (hn:l.size<=aj) (J:Value) :
  ∀(k i:Nat) (s:Shared) (acc:Array Value) (c:Nat) (u:Ze),min l.size m.size-i=k->i<=min l.size m.size->Ab s.heap z TI TO T₁->T₁∈u->IsPair s.heap TI (.ref E) (.ref G) ->
  s.heap.IsListIter E H i->s.heap.IsListIter G I i->s.heap.IsList H l->s.heap.IsList I m->s.heap.get? S=some { cls:=.type "list",dict:=none,data:=.seq acc c,slots:=#[] }->e_ B S l m s.heap acc u i ->
  (∀n a c' C,(∀b o,b≠S->b≠z->b≠E->b≠G->s.heap.get? b=some o->n.get? b=some o)->n.get? S=some { cls:=.type "list",dict:=none,data:=.seq a c',slots:=#[] }->e_ B S l m n a C (min l.size m.size)->R (.ok (.ret J)) { s with heap:=n }) ->
  zzl79 (model prog w) A (.builtin "list.extend.loop" ⟨[.ref S,.ref z,J],[]⟩) R s:=by
 intro k
 induction k with
 |zero =>
  intro i s acc c u L hi hz Y p h1 h2 r t hS d hR;have e:i=min l.size m.size:=by omega
  obtain⟨j,hj⟩:=gB Y;obtain⟨gT,x,y,_,_,qT⟩:=d.at' j _ hj;refine i7 F.entry_extend_loop ?_;rw[i6 qz _];show wpAny _ A.in1 (pyNext (.ref z) >>= _) _ _ s;refine ar (Fy hh D hz qT p h1 h2 r t ?_ fun n L=>?_)
  ·rcases Nat.le_total l.size m.size with q|q
   ·exact .inl (tV (by omega))
   ·exact .inr (tV (by omega))
  ·exact aT (hR n acc c u (fun b o _ U b3 b4 q=>L b o U b3 b4 q) (L S _ sz s1 s2 hS) (e▸d.keep fun c o g q=>L c o (ij (c9 bz g)) (ij (c9 b1 g)) (ij (c9 U g)) q))
 |succ k ih =>
  intro i s acc c u L hi hz Y p h1 h2 r t hS d hR;obtain⟨j,hj⟩:=gB Y;obtain⟨gT,x,y,_,_,qT⟩:=d.at' j _ hj;have ix:i<l.size:=by omega
  have iy:i<m.size:=by omega
  refine i7 F.entry_extend_loop ?_;rw[i6 qz _];show wpAny _ A.in1 (pyNext (.ref z) >>= _) _ _ s;refine ar (Fz D hz qT p h1 h2 r t (kS ix) (kS iy) fun n a1 a2 a3 a4 a5 h=>?_);have M:=h S _ sz s1 s2 hS;have v:acc.size=i:=by rw[<-ma,d.is,ah,d.len]
  have up:∀f:Obj->Obj,∀b o,b≠S->n.get? b=some o->(n.update S f).get? b=some o:=fun f b o hb q=>(iG _ _ (gk hb)).trans q;have lt:T₁<s.heap.objs.size:=aO qT;have dn:e_ B S l m n acc u i:=d.keep fun c o g q=>h c o (ij (c9 bz g)) (ij (c9 b1 g)) (ij (c9 U g)) q;have N:s.heap.objs.size∉u:=fun q=>by
   obtain⟨j',ap⟩:=gB q;obtain⟨_,_,_,_,_,q'⟩:=d.at' j' _ ap;exact kg _ (aO q')
  have as:=dn.push (T:=s.heap.objs.size) (cT (qE gT lt)) N (kS ix) (kS iy) a4;show wpAny _ A.in1 (n5 S (·.push (.ref s.heap.objs.size)) >>= _) _ _ _;refine ar (mh M rfl (aT ⟨i5 qz _,ih (i+1) _ (acc.push (.ref s.heap.objs.size)) _ (u++[s.heap.objs.size]) (by omega) (by omega) ?_ (by simp[Y]) (up _ _ _ sI.symm (h _ _ D.TIz D.TIi1 D.TIi2 p)) (a2.at fun o q=>up _ _ o s1.symm q) (a3.at fun o q=>up _ _ o s2.symm q)
   (r.at fun o q=>up _ _ o al.symm (h _ o D.l1z D.l1i1 D.l1i2 q)) (t.at fun o q=>up _ _ o an.symm (h _ o D.l2z D.l2i1 D.l2i2 q)) (jX _ M rfl) (as.keep fun c o g q=>up _ c o (ij (c9 bS g)) q) fun aC a c' C O Q hd=>?_⟩) (by rw[v];omega) (by show(acc.push _).size<=aj+1;rw[Array.size_push,v];omega))
  ·obtain⟨b,q⟩:=a1;exact⟨b,up _ _ _ sz.symm q⟩
  ·exact hR aC a c' C (fun b o e1 e2 e3 e4 q=>O b o e1 e2 e3 e4 (up _ b o e1 (h b o e2 e3 e4 q))) Q hd
theorem Iv{z TI TO u v y C S:Addr}{a b:Value}{n x:Array Value}{s:Shared}{c:Nat}(hh:A.handled=none)(D:mi z TI TO u v y C)
  (sz:S≠z) (sI:S≠TI) (sO:S≠TO) (M:S≠u) (N:S≠v) (E:S≠y) (G:S≠C) (hn:n.size<=aj) (p:Value)
  (Q:IsZip s.heap z TI TO .none) (h:IsPair s.heap TI (.ref u) (.ref v)) (H:IsPair s.heap TO a b)
  (T:s.heap.IsListIter u y 0) (U:s.heap.IsListIter v C 0) (i:s.heap.IsList y n) (k:s.heap.IsList C x) (O:s.heap.get? S=some { cls:=.type "list",dict:=none,data:=.seq #[] c,slots:=#[] })
  (hR:∀l g Y r,(∀b o,b≠S->b≠z->b≠TO->b≠u->b≠v->s.heap.get? b=some o->l.get? b=some o)->l.get? S=some { cls:=.type "list",dict:=none,data:=.seq g Y,slots:=#[] }->e_ s.heap.objs.size S n x l g r (min n.size x.size)->R (.ok (.ret p)) { s with heap:=l }) :
  zzl79 (model prog w) A (.builtin "list.extend.loop" ⟨[.ref S,.ref z,p],[]⟩) R s:=by
 refine i7 F.entry_extend_loop ?_;rw[i6 qz _];show wpAny _ A.in1 (pyNext (.ref z) >>= _) _ _ s;rcases Nat.eq_zero_or_pos (min n.size x.size)with e|e
 ·refine ar (wpAny_pyNext_zip_end hh D Q h H T U i k ?_ fun l m=>?_)
  ·rcases Nat.le_total n.size x.size with q|q
   ·exact .inl (tV (by omega))
   ·exact .inr (tV (by omega))
  ·exact aT (hR l #[] c [] (fun b o _ b2 b3 b4 b5 q=>m b o b2 b3 b4 b5 q) (m S _ sz sO M N O) (e▸⟨rfl,rfl,fun j t q=>by simp at q,.nil⟩))
 ·have ix:0<n.size:=by omega
  have iy:0<x.size:=by omega
  refine ar (wpAny_pyNext_zip_item D Q h H T U i k (kS ix) (kS iy) fun l a1 a2 a3 a4 a5 a6 m=>?_);have I:=m S _ sz sO M N O;have up:∀f:Obj->Obj,∀b o,b≠S->l.get? b=some o->(l.update S f).get? b=some o:=fun f b o hb q=>(iG _ _ (gk hb)).trans q;have tn:s.heap.objs.size≠S:=ij (aO O);have lz:z<s.heap.objs.size:=aO Q;have lI:TI<s.heap.objs.size:=aO h;have al:u<s.heap.objs.size:=let⟨_,e,_⟩:=T;aO e;have an:v<s.heap.objs.size:=let⟨_,e,_⟩:=U;aO e;have ap:y<s.heap.objs.size:=let⟨_,e,_⟩:=i;aO e;have as:C<s.heap.objs.size:=let⟨_,e,_⟩:=k;aO e;show wpAny _ A.in1 (n5 S (·.push (.ref s.heap.objs.size)) >>= _) _ _ _;refine ar (mh I rfl (aT ⟨i5 qz _,FA (T₁:=s.heap.objs.size) (B:=s.heap.objs.size) hh D lz lI al an ap as (aO O) sz sI M N E G hn p _ 1 _ (#[].push (.ref s.heap.objs.size)) _ [s.heap.objs.size] rfl (by omega) ⟨false,up _ _ _ sz.symm a1⟩ (by simp)
   (up _ _ _ sI.symm (m _ _ D.TIz D.TITO D.TIi1 D.TIi2 h)) (a3.at fun o q=>up _ _ o M.symm q) (a4.at fun o q=>up _ _ o N.symm q) (i.at fun o q=>up _ _ o E.symm (m _ o D.l1z D.l1TO D.l1i1 D.l1i2 q)) (k.at fun o q=>up _ _ o G.symm (m _ o D.l2z D.l2TO D.l2i1 D.l2i2 q))
   (jX _ I rfl) ⟨rfl,rfl,fun j t q=>?_,by simp⟩ fun aC g Y r J L hd=>?_⟩) (by show(#[]:Array Value).size<=_;simp) (by show(#[Value.ref s.heap.objs.size]:Array Value).size<=aj+1;simp))
  ·cases j with
   |zero =>
    simp at q;subst q;exact⟨aB _,_,_,kS ix,kS iy,up _ _ _ tn a5⟩
   |succ j=>simp at q
  ·exact hR aC g Y r (fun b o e1 e2 e3 e4 e5 q=>J b o e1 e2 e4 e5 (up _ b o e1 (m b o e2 e3 e4 e5 q))) L hd
theorem BQ:ug (.type "zip") "__len__"=pure none:=by rw[typeLookup_type,builtinLookup_eq_fast];kernel_rfl
theorem Ak:ug (.type "zip") "__length_hint__"=pure none:=by rw[typeLookup_type,builtinLookup_eq_fast];kernel_rfl
structure qi(h:Heap)(z TI TO i1 i2 l1 l2:Addr)(xs ys:Array Value):Prop where
 ap:mi z TI TO i1 i2 l1 l2
 zp:IsZip h z TI TO .none
 ti:IsPair h TI (.ref i1) (.ref i2)
 to:∃a b,IsPair h TO a b
 j1:h.IsListIter i1 l1 0
 j2:h.IsListIter i2 l2 0
 k1:h.IsList l1 xs
 k2:h.IsList l2 ys
theorem qi.keep{h l:Heap}{z TI TO f g i j:Addr}{m n:Array Value}(Z:qi h z TI TO f g i j m n){S:Addr}(e:∀b,b=z∨b=TI∨b=TO∨b=f∨b=g∨b=i∨b=j->b≠S)(k:∀b o,b≠S->h.get? b=some o->l.get? b=some o):qi l z TI TO f g i j m n :=
 ⟨Z.ap,k _ _ (e _ (by simp)) Z.zp,k _ _ (e _ (by simp)) Z.ti,let⟨a,b,q⟩:=Z.to;⟨a,b,k _ _ (e _ (by simp)) q⟩,Z.j1.at fun o q=>k _ o (e _ (by simp)) q,Z.j2.at fun o q=>k _ o (e _ (by simp)) q,Z.k1.at fun o q=>k _ o (e _ (by simp)) q,Z.k2.at fun o q=>k _ o (e _ (by simp)) q⟩
theorem qi.old{h:Heap}{z TI TO a e f g:Addr}{i j:Array Value}(Z:qi h z TI TO a e f g i j):∀b,b=z∨b=TI∨b=TO∨b=a∨b=e∨b=f∨b=g->b<h.objs.size:=by
 intro b k;rcases k with rfl|rfl|rfl|rfl|rfl|rfl|rfl
 ·exact aO Z.zp
 ·exact aO Z.ti
 ·obtain⟨_,_,q⟩:=Z.to;exact aO q
 ·obtain⟨_,q,_⟩:=Z.j1;exact aO q
 ·obtain⟨_,q,_⟩:=Z.j2;exact aO q
 ·obtain⟨_,q,_⟩:=Z.k1;exact aO q
 ·obtain⟨_,q,_⟩:=Z.k2;exact aO q
theorem wG{z TI TO v x E G S:Addr}{r y:Array Value}{s:Shared}{c:Nat}(L:A.handled=none)(Z:qi s.heap z TI TO v x E G r y)(i:∀b,b=z∨b=TI∨b=TO∨b=v∨b=x∨b=E∨b=G->b≠S)(M:r.size<=aj)(h:Value)
  (H:s.heap.get? S=some { cls:=.type "list",data:=.seq #[] c })
  (N:∀l g m j,(∀b o,b≠S->b≠z->b≠TO->b≠v->b≠x->s.heap.get? b=some o->l.get? b=some o)->l.get? S=some { cls:=.type "list",dict:=none,data:=.seq g m,slots:=#[] }->e_ s.heap.objs.size S r y l g j (min r.size y.size)->R (.ok (.ret h)) { s with heap:=l }) :
  wpAny (model prog w) A.in1 (cb.List.listExtendWith (.ref S) (.ref z) h)
   (fun B t=>match B with | .done f=>R (.ok f) t | .again m=>m.quiet=true/\zzl79 (model prog w) A m R t) (fun e t=>R (.error e) t) s:=by
 have C:s.TypeIs (.ref z) "zip":=⟨_,Z.zp,rfl⟩;unfold cb.List.listExtendWith;refine ar (xU C ?_);have O:cb.List.listSameRef (.ref S) (.ref z)=false:=by simp[cb.List.listSameRef,(i z (by simp)).symm]
 have Q:(Value.type "zip"==Value.type "list")=false:=by decide
 have T:(Value.type "zip"==Value.type "tuple")=false:=by decide
 simp only[O,Q,T,Bool.or_false,kh,if_false];refine ar (wpAny_pyIter_zip Z.zp (ar (i8 ?_)));unfold cb.List.listLengthHint;refine ar (EL C BQ ?_);show wpAny _ A.in1 (specialOf (Value.ref z) (jU "__length_hint__") >>= _) _ _ _;refine ar (EL C Ak (aT ?_));show wpAny _ A.in1 (rule "list.extend.makes-room" >>= fun _=>cb.List.listTouch (.ref S) >>= fun _=>again (.builtin "list.extend.loop" ⟨[.ref S,.ref z,h],[]⟩)) _ _ _;refine ar (uf (ar ?_));show wpAny _ A.in1 (n5 S (·.push .none) >>= fun _=>n5 S (·.pop)) _ _ _;refine ar (mh H rfl ?_);have I:=jX (fL (·.push Value.none)) H rfl;refine mh (hz:=by seq_fits) I rfl ?_;have U:=jX (fL (·.pop)) I rfl;have p:∀b o,b≠S->s.heap.get? b=some o->((s.heap.update S (fL (·.push Value.none))).update S (fL (·.pop))).get? b=some o :=
  fun b o u e=>(iG _ _ (gk u)).trans ((iG _ _ (gk u)).trans e)
 have k:=Z.keep i p;obtain⟨a,b,Y⟩:=k.to;have n:=fun b u=>(i b u).symm;refine aT ⟨i5 qz _,Iv L Z.ap (n _ (by simp)) (n _ (by simp)) (n _ (by simp)) (n _ (by simp)) (n _ (by simp)) (n _ (by simp)) (n _ (by simp)) M h k.zp k.ti Y k.j1 k.j2 k.k1 k.k2 U fun l g m j hk D hd=>?_⟩;refine N l g m j (fun b o J f2 f3 f4 f5 q=>hk b o J f2 f3 f4 f5 (p b o J q)) D ?_;have es:(((s.heap.update S (fL (·.push Value.none))).update S (fL (·.pop))).objs.size)=s.heap.objs.size:=by simp[Heap.update]
 exact es▸hd
theorem Iw{z TI TO p r x y S:Addr}{m t:Array Value}{s:Shared}(C:A.handled=none)(Z:qi s.heap z TI TO p r x y m t)(k:∀b,b=z∨b=TI∨b=TO∨b=p∨b=r∨b=x∨b=y->b≠S)(D:m.size<=aj)
  (u:s.heap.get? S=some { cls:=.type "list",data:=.seq #[] })
  (E:∀i a j h,(∀b o,b≠S->b≠z->b≠TO->b≠p->b≠r->s.heap.get? b=some o->i.get? b=some o)->i.get? S=some { cls:=.type "list",dict:=none,data:=.seq a j,slots:=#[] }->e_ s.heap.objs.size S m t i a h (min m.size t.size)->R (.ok (.ret .none)) { s with heap:=i }) :
  wpAny (model prog w) A.in1 (cb.«list.__init__» ⟨[.ref S,.ref z],[]⟩)
   (fun v n=>match v with | .done f=>R (.ok f) n | .again j=>j.quiet=true/\zzl79 (model prog w) A j R n) (fun e n=>R (.error e) n) s:=by
 show wpAny _ _ (cb.List.listItems (.ref S) >>= _) _ _ s;refine ar ?_;unfold cb.List.listItems;refine ar (rW u rfl (aT ?_));show wpAny _ _ (n5 S (fun _=>#[]) >>= _) _ _ s;refine ar (mh u rfl ?_);have G:=jX (fL (fun _=>(#[]:Array Value))) u rfl;have l:∀b o,b≠S->s.heap.get? b=some o->(s.heap.update S (fL (fun _=>(#[]:Array Value)))).get? b=some o:=fun b o H e=>(iG _ _ (gk H)).trans e;refine ar (tT (wG C (Z.keep k l) k D .none G fun i a j h I g d=>?_));have J:((s.heap.update S (fL (fun _=>(#[]:Array Value)))).objs.size)=s.heap.objs.size:=by simp[Heap.update]
 exact E i a j h (fun b o B L M N O q=>I b o B L M N O (l b o B q)) g (J▸d)
theorem Di{E:Zc}{Q:Zc}{z TI TO l m r t:Addr}{k n:Array Value}{s:Shared}(v:A.handled=none)(Z:qi s.heap z TI TO l m r t k n)(x:k.size<=aj)
  (y:∀h a p f,(∀b o,b≠z->b≠TO->b≠l->b≠m->s.heap.get? b=some o->h.get? b=some o)->h.get? s.heap.objs.size=some { cls:=.type "list",dict:=none,data:=.seq a p,slots:=#[] }->e_ (s.heap.objs.size+1) s.heap.objs.size k n h a f (min k.size n.size)->Q (.ref s.heap.objs.size) { s with heap:=h }) :
  wpAny (model prog w) A (call (.type "list") [.ref z]) Q E s:=by
 refine callType_codes (Q₁:=fun i e=>i=.ref s.heap.objs.size/\e={ s with heap:=s.heap.push { cls:=.type "list",data:=.seq #[] } }) F.called_list (F.typeCall_list_1 _) F.entry_list_init (code_list_new _ ⟨rfl,rfl⟩) fun i e j=>?_;obtain⟨rfl,rfl⟩:=j;have u:(s.heap.push { cls:=.type "list",data:=.seq #[] }).get? s.heap.objs.size=some { cls:=.type "list",data:=.seq #[] }:=du _ rfl;have ne:∀b,b=z∨b=TI∨b=TO∨b=l∨b=m∨b=r∨b=t->b≠s.heap.objs.size:=fun b B=>bW (Z.old b B);refine⟨⟨_,u,rfl⟩,F.args_list_init_2 _ _,Iw (A:=A.in1) v (Z.keep ne fun b o _ q=>bR _ q) ne x u fun h a p f C g d=>?_⟩;exact⟨rfl,y h a p f (fun b o D G H I q=>C b o (bW (aO q)) D G H I (bR _ q)) g (by rw[<-tM s.heap { cls:=.type "list",data:=.seq #[] }];exact d)⟩
end
def hV(H:Hp):List Addr->List V->List V->Hp
 |t::ts,x::xs,y::ys=>hV (upd H t (.tup [x,y])) ts xs ys
 |_,_,_=>H
theorem jo:∀{a:Ze}{e f:List V}{H:Hp}{b:Addr},b∉a->hV H a e f b=H b
 |[],_,_,_,_,_=>by simp[hV]
 |_::_,[],_,_,_,_=>by simp[hV]
 |_::_,_::_,[],_,_,_=>by simp[hV]
 |t::a,x::e,y::f,H,b,h=>by
  rw[hV,jo (fun q=>h (c7 _ q))];exact ai (fun q:b=t=>h (by rw[q];exact cU))
theorem pV:∀{a:Ze}{f g:List V}{H:Hp}{j:Nat}{t:Addr}{x y:V},a.Nodup->a[j]?=some t->f[j]?=some x->g[j]?=some y->hV H a f g t=some (.tup [x,y])
 |[],_,_,_,j,_,_,_,_,e,_,_=>by simp at e
 |_::_,[],_,_,j,_,_,_,_,_,e,_=>by simp at e
 |_::_,_::_,[],_,j,_,_,_,_,_,_,e=>by simp at e
 |t::a,x::f,y::g,H,0,l,m,o,n,h,i,k=>by
  simp at h i k;subst h i k;rw[hV,jo (gf.mp n).1,aa]
 |t::a,x::f,y::g,H,j+1,l,m,o,n,h,i,k=>by
  rw[hV];exact pV (gf.mp n).2 (by simpa using h) (by simpa using i) (by simpa using k)
section
variable{X:Cx}{J3:Zd}{σ:St}{H:Hp}{s:Shared}{h':Heap}
theorem Inv.many{f:Hp}{N:Ze}{t':Nat}(I:Inv X J3 σ H s)(k:∀b u,s.heap.get? b=some u->h'.get? b=some u)(g:∀a∈N,s.heap.objs.size<=a)(out:∀b,b∉N->f b=H b)(new:∀a∈N,∀o,f a=some o->cw X.prog X.w X.K f h' a o):
  Inv X J3 σ f { s with heap:=h',toks:=t' }:=by
 have old:∀b o,H b=some o->b∉N:=fun b o e q=>kg _ (c9 (I.hok.lt e) (g b q));have same:∀b o,H b=some o->f b=some o:=fun b o e=>by rw[out b (old b o e)];exact e
 refine I.un ⟨fun b u q _ _ _=>k b u q,fun b u q _ _ _=>⟨u.slots,k b u q⟩,fun b u q n _=>?_,fun b u q _=>⟨u,k b u q⟩,fun b i q=>same b _ q,fun b o u q=>same b _ q,fun b j q=>⟨#[],by rw[same b _ q];simp⟩⟩ fun b o e=>?_
 ·rw[out b fun z=>kg _ (c9 (aO q) (g b z))];exact n
 ·by_cases h:b∈N
  ·exact new b h o e
  ·rw[out b h]at e;exact(I.hok b o e).stay (fun c v _ q=>k c v q) (fun c q=>same c _ q) fun c i q=>same c _ q
theorem DO{f:List V}{g:Zf}(r:ba f g):∀{j:Nat}{u:Value},g[j]?=some u->∃v,f[j]?=some v/\RelV v u:=by
 induction r with
 |nil=>intro j u e;simp at e
 |cons a _ h =>
  intro j u e;cases j with
  |zero=>simp at e;subst e;exact⟨_,rfl,a⟩
  |succ j=>exact h (by simpa using e)
theorem yo:∀a:List Addr,ba (a.map V.ref) (a.map Value.ref)
 |[]=>.nil
 |t::a=>.cons rfl (yo a)
variable{p p2 pos pos2:Pos}
def GC(K:Za)(ta:TA):TE:=fun σ H Q=>ta σ H fun vs H1=>∃a b xs ys,vs=[.ref a,.ref b]/\aw K H1 a xs/\aw K H1 b ys /\
 ∀(D:Addr) (ts:Ze),H1 D=none->(∀t∈ts,H1 t=none)->(D::ts).Nodup->ts.length=min xs.length ys.length->Q (.ref D) (upd (hV H1 ts xs ys) D (.lst (ts.map .ref)))
theorem CL{a b:Expr}{ta:TA}(hc:X.calm=true)(hl:Gl X "list")(A:X.mg "list"=none)(hg:Gl X "zip")(hm:X.mg "zip"=none)(i:PA X [a,b] ta)(hs:aL [a,b] X.env=[(false,eval a X.env),(false,eval b X.env)]:=by rfl)(k:aL [b] X.env=[(false,eval b X.env)]:=by rfl)
  (l:aL [.Call (.Name "zip" p) [a,b] [] pos] X.env=[(false,eval (.Call (.Name "zip" p) [a,b] [] pos) X.env)]:=by rfl) :
  PE X (.Call (.Name "list" p2) [.Call (.Name "zip" p) [a,b] [] pos] [] pos2) (GC X.K ta):=by
 intro J3 s σ H Q I h;refine Call_ (iI I hl A vq (o9 ?_ (by rw[l];rfl) (by rfl)));rw[l];show wpAny _ _ (spliced ((false,eval (.Call (.Name "zip" p) [a,b] [] pos) X.env)::[])) _ _ s;refine wA ?_;refine Call_ (iI I hg hm boot_zip (o9 (cH (i pos J3 s σ H _ I h) fun us s1 B=>?_) (by rw[hs,k]) (by rw[k];rfl)));obtain⟨vs,H1,m,r1,q1⟩:=B;obtain⟨l1,l2,xs,ys,e,hx,hy,q⟩:=q1;subst e;obtain⟨u,v,rfl,ru,rv⟩:=vals2 r1;cases ru;cases rv;obtain⟨C,rx,D,zx⟩:=m.list hx;obtain⟨E,ry,G,zy⟩:=m.list hy;obtain⟨o1,n1,e1,_⟩:=id D;obtain⟨o2,n2,e2,_⟩:=id G;refine call_zip_2 D.isList G.isList fun h' a1 a2 a3 a4 a5 a6 J=>?_;refine Af ?_;have Z:qi h' (s1.heap.objs.size+4) (s1.heap.objs.size+2) (s1.heap.objs.size+3) s1.heap.objs.size (s1.heap.objs.size+1) l1 l2 C.toArray E.toArray :=
  ⟨zipApart_new (aO e1) (aO e2),a1,a2,⟨_,_,a3⟩,a4,a5,D.isList.at fun o q=>J _ o q,G.isList.at fun o q=>J _ o q⟩
 have lx:=rx.length;have ly:=ry.length;refine Di (s:={ s1 with heap:=h' }) (I.ok.hd hc) Z (by simp;omega) fun h2 an c f L g d=>?_;have out:∀b o,s1.heap.get? b=some o->h2.get? b=some o:=fun b o q=>by
  have lt:=aO q;exact L b o (bW (c9 lt (jW _ 4))) (bW (c9 lt (jW _ 3))) (bW lt) (bW (c9 lt (jW _ 1))) (J b o q)
 have bd:∀t∈f,s1.heap.objs.size+5<t:=fun t n=>by
  obtain⟨j,r⟩:=gB n;have:=(d.at' j t r).1;have e:(Shared.heap { s1 with heap:=h' }).objs.size=s1.heap.objs.size+5:=a6;rw[e]at this;omega
 have M:(Shared.heap { s1 with heap:=h' }).objs.size=s1.heap.objs.size+5:=a6;rw[M]at g ⊢;have nD:s1.heap.objs.size+5∉f:=fun q=>kg _ (bd _ q);have O:s1.heap.objs.size<=s1.heap.objs.size+5:=jW _ _;have n:∀t∈f,s1.heap.objs.size<=t:=fun t q=>cT (qE O (bd t q));refine⟨.ref (s1.heap.objs.size+5),upd (hV H1 f xs ys) (s1.heap.objs.size+5) (.lst (f.map .ref)),m.many (N:=(s1.heap.objs.size+5)::f) (t':=s1.toks) out (fun a i=>?_) (fun b hb=>?_) fun a i o e=>?_,rfl,q _ f (m.hok.fresh O) (fun t z=>m.hok.fresh (n t z)) (gf.mpr ⟨nD,d.uni⟩) (by rw[d.len];simp[lx,ly])⟩
 ·rcases cC.mp i with z|z
  ·rw[z];exact O
  ·exact n a z
 ·rw[ai fun z=>hb (by rw[z];exact cU)];exact jo fun z=>hb (c7 _ z)
 ·rcases cC.mp i with z|z
  ·subst z;rw[aa]at e;cases e;refine⟨by rw[ah,d.len];simp;omega,f.map .ref,c,yo f,?_⟩;rw[<-d.is];simpa using g
  ·have ne:a≠s1.heap.objs.size+5:=fun w=>nD (w▸z);rw[ai ne]at e;obtain⟨j,r⟩:=gB z;obtain⟨_,x,y,T,U,qT⟩:=d.at' j a r;obtain⟨vx,ex,Y⟩:=DO rx (j:=j) (u:=x) (by simpa using T);obtain⟨vy,ey,al⟩:=DO ry (j:=j) (u:=y) (by simpa using U);rw[pV d.uni r ex ey]at e;cases e;exact⟨by show 2<=aj;decide,[x,y],.cons Y (.cons al .nil),⟨_,qT,rfl,_,rfl⟩⟩
end
end L2
namespace L2
open PySem PySem.Spec PyProof.Rows
section
variable{prog:b9}{w:World}{A:Around}{E:Zc}{s:Shared}{z TI TO i1 i2 l1 l2:Addr}{xs ys:Array Value}
theorem zN{R:Result->Shared->Prop}(i:A.handled=none)(Z:qi s.heap z TI TO i1 i2 l1 l2 xs ys)(j:xs.size<=aj)
  (k:∀f a h e,(∀b o,b≠z->b≠TO->b≠i1->b≠i2->s.heap.get? b=some o->f.get? b=some o)->f.get? s.heap.objs.size=some { cls:=.type "list",dict:=none,data:=.seq a h,slots:=#[] }->e_ (s.heap.objs.size+1) s.heap.objs.size xs ys f a e (min xs.size ys.size)->R (.ok (.ret (.ref s.heap.objs.size))) { s with heap:=f }) :
  zzl79 (model prog w) A (.builtin "proto.collect" ⟨[.ref z],[]⟩) R s:=by
 refine i7 F.entry_proto_collect ?_;rw[i6 F.plain_proto_collect _];show wpAny _ A.in1 (newList [] >>= fun l=>again (.builtin "list.__iadd__" ⟨[l,.ref z],[]⟩)) _ _ s;refine ar (n6 ?_);refine aT ⟨i5 F.plain_list_iadd _,i7 F.entry_list_iadd ?_⟩;rw[i6 F.plain_list_iadd _];show wpAny _ A.in1 (cb.List.listExtendWith (.ref s.heap.objs.size) (.ref z) (.ref s.heap.objs.size)) _ _ _;have m:(s.heap.push { cls:=.type "list",data:=.seq ([]:Zf).toArray }).get? s.heap.objs.size=some { cls:=.type "list",data:=.seq ([]:Zf).toArray }:=du _ rfl;have ne:∀b,b=z∨b=TI∨b=TO∨b=i1∨b=i2∨b=l1∨b=l2->b≠s.heap.objs.size:=fun b n=>bW (Z.old b n);refine wG (R:=R) (s:={ s with heap:=s.heap.push { cls:=.type "list",data:=.seq ([]:Zf).toArray } }) i (Z.keep ne fun b o _ q=>bR _ q) ne j _ m fun f a h e p g d=>?_;refine k f a h e (fun b o r t u v q=>p b o (bW (aO q)) r t u v (bR _ q)) g ?_;rw[<-tM s.heap { cls:=.type "list",data:=.seq ([]:Zf).toArray }];exact d
theorem Bn{Q:List Value->Shared->Prop}(i:A.handled=none)(Z:qi s.heap z TI TO i1 i2 l1 l2 xs ys)(j:xs.size<=aj)
  (k:∀f h,(∀b o,b≠z->b≠TO->b≠i1->b≠i2->s.heap.get? b=some o->f.get? b=some o)->e_ (s.heap.objs.size+1) s.heap.objs.size xs ys f (h.map Value.ref).toArray h (min xs.size ys.size)->Q (h.map .ref) { s with heap:=f }) :
  wpAny (model prog w) A (collect (.ref z)) Q E s:=by
 unfold collect;refine ar (wpAny_runValue (zN i Z j fun f a p e l g d=>?_));show wpAny _ A (load s.heap.objs.size >>= _) _ _ _;refine ar (wpAny_load g (aT ?_));have m:a=(e.map Value.ref).toArray:=by rw[<-d.is]
 have n:a.toList=e.map Value.ref:=d.is;rw[n];exact k f e l (m▸d)
theorem vL{a:Zc}(l:A.handled=none)(Z:qi s.heap z TI TO i1 i2 l1 l2 xs ys)(m:xs.size<=aj)
  (h:∀f e,(∀b o,b≠z->b≠TO->b≠i1->b≠i2->s.heap.get? b=some o->f.get? b=some o)->e_ (s.heap.objs.size+1) s.heap.objs.size xs ys f (e.map Value.ref).toArray e (min xs.size ys.size)->a (.ref f.objs.size) { s with heap:=f.push { cls:=.type "tuple",data:=.seq (e.map Value.ref).toArray } }) :
  zzl79 (model prog w) A (.call (.builtin "tuple.__new__") ⟨[.type "tuple",.ref z],[]⟩) (wants a E) s:=by
 refine codeAny_of_tree ?_;show wpAny _ A.in1 (do checkBuiltinCall "tuple.__new__" ⟨[.type "tuple",.ref z],[]⟩;again (.builtin "tuple.__new__" ⟨[.type "tuple",.ref z],[]⟩)) _ _ s
 refine ar (wpAny_of_eq (F.newCall_tuple_1 _) (aT ⟨i5 F.plain_tuple_new _,i7 F.entry_tuple_new ?_⟩));rw[i6 F.plain_tuple_new _];have k:=sub_tuple_self;have g:=init_tuple_lookup;have n:=madeHere_tuple;have i:s.TypeIs (.ref z) "zip":=⟨_,Z.zp,rfl⟩;have j:A.in1.handled=none:=l
 wp_walk using xU i,Bn j Z m
 intro f e p d;show wpAny _ _ (cb.Tuple.tupleExact (e.map Value.ref).toArray >>= fun v=>ret v) _ _ _;unfold cb.Tuple.tupleExact;refine ar (n6 ?_ (by show(e.map Value.ref).toArray.size<=aj;simp only[bG,ah];rw[d.len];omega));exact aT (h f e p d)
theorem Bt{Q:Zc}(i:A.handled=none)(Z:qi s.heap z TI TO i1 i2 l1 l2 xs ys)(j:xs.size<=aj)
  (k:∀g h,(∀b o,b≠z->b≠TO->b≠i1->b≠i2->s.heap.get? b=some o->g.get? b=some o)->e_ (s.heap.objs.size+1) s.heap.objs.size xs ys g (h.map Value.ref).toArray h (min xs.size ys.size)->Q (.ref g.objs.size) { s with heap:=g.push { cls:=.type "tuple",data:=.seq (h.map Value.ref).toArray } }) :
  wpAny (model prog w) A (call (.type "tuple") [.ref z]) Q E s:=by
 refine callType_codes (Q₁:=fun f a=>a.TypeIs f "tuple"/\Q f a) F.called_tuple (F.typeCall_tuple_1 _) F.entry_object_init
  (vL (A:=A.in1) i Z j fun g h l d=>⟨⟨_,du _ rfl,rfl⟩,k g h l d⟩) fun f a e=>?_
 exact⟨e.1,F.args_object_init_2 f _,object_init_meets F.called_tuple.init.lookup F.called_tuple.made (by decide) prog w A.in1 _ a ⟨e.1,rfl,e.2⟩⟩
end
section
variable{X:Cx}{p p2 pos pos2:Pos}
def GA(K:Za)(ta:TA):TE:=fun σ H Q=>ta σ H fun vs H1=>∃a b xs ys,vs=[.ref a,.ref b]/\aw K H1 a xs/\aw K H1 b ys /\
 ∀(D:Addr) (ts:Ze),H1 D=none->(∀t∈ts,H1 t=none)->(D::ts).Nodup->ts.length=min xs.length ys.length->Q (.ref D) (upd (hV H1 ts xs ys) D (.tup (ts.map .ref)))
theorem r9{a b:Expr}{ta:TA}(hc:X.calm=true)(hl:Gl X "tuple")(C:X.mg "tuple"=none)(hg:Gl X "zip")(hm:X.mg "zip"=none)(k:PA X [a,b] ta)(hs:aL [a,b] X.env=[(false,eval a X.env),(false,eval b X.env)]:=by rfl)(l:aL [b] X.env=[(false,eval b X.env)]:=by rfl)
  (m:aL [.Call (.Name "zip" p) [a,b] [] pos] X.env=[(false,eval (.Call (.Name "zip" p) [a,b] [] pos) X.env)]:=by rfl) :
  PE X (.Call (.Name "tuple" p2) [.Call (.Name "zip" p) [a,b] [] pos] [] pos2) (GA X.K ta):=by
 intro J3 s σ H Q I h;refine Call_ (iI I hl C gt (o9 ?_ (by rw[m];rfl) (by rfl)));rw[m];show wpAny _ _ (spliced ((false,eval (.Call (.Name "zip" p) [a,b] [] pos) X.env)::[])) _ _ s;refine wA ?_;refine Call_ (iI I hg hm boot_zip (o9 (cH (k pos J3 s σ H _ I h) fun us s1 D=>?_) (by rw[hs,l]) (by rw[l];rfl)));obtain⟨vs,H1,n,r1,q1⟩:=D;obtain⟨l1,l2,xs,ys,e,hx,hy,q⟩:=q1;subst e;obtain⟨u,v,rfl,ru,rv⟩:=vals2 r1;cases ru;cases rv;obtain⟨E,rx,G,zx⟩:=n.list hx;obtain⟨J,ry,L,zy⟩:=n.list hy;obtain⟨o1,n1,e1,_⟩:=id G;obtain⟨o2,n2,e2,_⟩:=id L;refine call_zip_2 G.isList L.isList fun M a1 a2 a3 a4 a5 a6 O=>?_;refine Af ?_;have Z:qi M (s1.heap.objs.size+4) (s1.heap.objs.size+2) (s1.heap.objs.size+3) s1.heap.objs.size (s1.heap.objs.size+1) l1 l2 E.toArray J.toArray :=
  ⟨zipApart_new (aO e1) (aO e2),a1,a2,⟨_,_,a3⟩,a4,a5,G.isList.at fun o q=>O _ o q,L.isList.at fun o q=>O _ o q⟩
 have lx:=rx.length;have ly:=ry.length;refine Bt (s:={ s1 with heap:=M }) (I.ok.hd hc) Z (by simp;omega) fun g f r d=>?_;have A:∀b o,s1.heap.get? b=some o->g.get? b=some o:=fun b o q=>by
  have lt:=aO q;exact r b o (bW (c9 lt (jW _ 4))) (bW (c9 lt (jW _ 3))) (bW lt) (bW (c9 lt (jW _ 1))) (O b o q)
 have out:∀b o,s1.heap.get? b=some o->(g.push { cls:=.type "tuple",data:=.seq (f.map Value.ref).toArray }).get? b=some o:=fun b o q=>bR _ (A b o q);have T:(Shared.heap { s1 with heap:=M }).objs.size=s1.heap.objs.size+5:=a6;have B:∀(j:Nat) t,f[j]?=some t->s1.heap.objs.size<=t/\t<g.objs.size:=fun j t i=>by
  obtain⟨g1,x,y,_,_,g2⟩:=d.at' j t i;rw[T]at g1;exact⟨aE (jW _ 6) g1,aO g2⟩
 have nD:g.objs.size∉f:=fun q=>by
  obtain⟨j,i⟩:=gB q;exact kg _ (B j _ i).2
 have hD:s1.heap.objs.size<=g.objs.size:=cT (qE (jW _ 2) (aO (r _ _ Z.ap.TIz Z.ap.TITO Z.ap.TIi1 Z.ap.TIi2 a2)));have ht:∀t∈f,s1.heap.objs.size<=t:=fun t q=>by
  obtain⟨j,i⟩:=gB q;exact(B j t i).1
 refine⟨.ref g.objs.size,upd (hV H1 f xs ys) g.objs.size (.tup (f.map .ref)),n.many (N:=g.objs.size::f) (t':=s1.toks) out (fun a k=>?_) (fun b hb=>?_) fun a k o e=>?_,rfl,q _ f (n.hok.fresh hD) (fun t z=>n.hok.fresh (ht t z)) (gf.mpr ⟨nD,d.uni⟩) (by rw[d.len];simp[lx,ly])⟩
 ·rcases cC.mp k with z|z
  ·rw[z];exact hD
  ·exact ht a z
 ·rw[ai fun z=>hb (by rw[z];exact cU)];exact jo fun z=>hb (c7 _ z)
 ·rcases cC.mp k with z|z
  ·subst z;rw[aa]at e;cases e;exact⟨by rw[ah,d.len];simp;omega,f.map .ref,yo f,⟨_,du _ rfl,rfl,_,rfl⟩⟩
  ·have ne:a≠g.objs.size:=fun w=>nD (w▸z);rw[ai ne]at e;obtain⟨j,i⟩:=gB z;obtain⟨_,x,y,U,Y,qT⟩:=d.at' j a i;obtain⟨vx,ex,al⟩:=DO rx (j:=j) (u:=x) (by simpa using U);obtain⟨vy,ey,an⟩:=DO ry (j:=j) (u:=y) (by simpa using Y);rw[pV d.uni i ex ey]at e;cases e;exact⟨by show 2<=aj;decide,[x,y],.cons al (.cons an .nil),⟨_,bR _ qT,rfl,_,rfl⟩⟩
end
theorem xh{f g:Nat->Option Value}:∀{l:List Nat},(∀m∈l,f m=g m)->l.filterMap f=l.filterMap g
 |[],_=>rfl
 |a::l,h=>by rw[wF,wF,h a cU,xh fun m e=>h m (c7 _ e)]
theorem uH:∀a:List Value,(lU a.length).filterMap (fun m=>a[m]?)=a
 |[]=>rfl
 |y::a=>by
  rw[fO,List.range_succ_eq_map,wF,List.filterMap_map];simp only[List.getElem?_cons_zero];congr 1;exact uH a
theorem CF(n:Nat):t5 ((n:Int)-1) (-1) (-1)=(lU n).map fun(k:Nat)=>((n:Int)-1+(-1) * (k:Int)).toNat:=by
 unfold t5;have e:(if(-1:Int) > 0 then if(n:Int)-1 < -1 then(-1-((n:Int)-1)+-1-1) / -1 else 0 else if(n:Int)-1 > -1 then((n:Int)-1 - -1 - -1-1) / - -1 else 0).toNat=n:=by
  rw[if_neg (by decide)];by_cases h:(n:Int)-1 > -1
  ·rw[if_pos h,show((n:Int)-1 - -1 - -1-1)=n by omega,show(- -1:Int)=1 by decide,Int.ediv_one];omega
  ·rw[if_neg h];omega
 simp only[e]
theorem v_(a:Zf):yh a.toArray none none (some (-1))=a.reverse.toArray:=by
 have e:yh a.toArray none none (some (-1))=((t5 ((a.toArray.size:Int)-1) (-1) (-1)).filterMap fun m=>a.toArray[m]?).toArray:=rfl;rw[e,bG,CF,List.filterMap_map];congr 1;have h:=uH a.reverse;rw[eG]at h;refine Eq.trans (xh fun m f=>?_) h;have lt:=List.mem_range.1 f;have g:((a.length:Int)-1+(-1) * (m:Int)).toNat=a.length-1-m:=by omega
 show a.toArray[((a.length:Int)-1+(-1) * (m:Int)).toNat]?=_;rw[g,qy lt,List.getElem?_toArray]
def GB(K:Za)(te:TE):TE:=fun σ H Q=>te σ H fun x H1=>∃a xs,x=.ref a/\aw K H1 a xs/\∀p,H1 p=none->Q (.ref p) (upd H1 p (.lst xs.reverse))
theorem Ee{X:Cx}{e st:Expr}{n:TE}{p k:Pos}(C:PE X e n)(l:PE X st (LI (rU fun i=>.int (-i)) (tC (.int 1)))):PE X (.Subscript e (.Slice none none (some st) p) k) (GB X.K n):=by
 intro j s σ H Q I h;refine ym (cH (C j s σ H _ I h) fun v D g=>?_);obtain⟨x,t,E,G,a,J,L,M,q⟩:=g;subst L;cases G;refine wpAny_Slice ?_;rw[evalPart_none];refine aT ?_;refine aT ?_;rw[evalPart_some];refine cH (l j D σ t (fun x N=>x=.int (-1)/\N=t) E ⟨_,rfl,rfl,rfl⟩) fun vu f g=>?_;obtain⟨y,O,T,U,Y,e4⟩:=g;subst Y e4;obtain⟨u,rfl⟩:=U;have m:Inv X j σ O { f with heap:=f.heap.push { cls:=.type "slice",data:=.fields #[.none,.none,.int (-1) u] } }:=T.kept (t':=f.toks) fun b ob q=>bR _ q;obtain⟨al,r,z,hz⟩:=m.list M;show wpAny (model X.prog X.w) X.A (yk e (.Slice none none (some st) p) (.ref a) (.ref f.heap.objs.size)) (EP X j σ Q) X.xe { f with heap:=f.heap.push { cls:=.type "slice",data:=.fields #[.none,.none,.int (-1) u] } };have B:=r.length;refine tail_any (ops:=[.ref a,.ref f.heap.objs.size]) z.isList.typeIs slot_list_getitem.lookup (wpAny_getItem_list_slice z.isList (Heap.IsSliceOf.new ..) .none .none (.int (-1) u) (by simp) ?_ (by rw[bG]<;>omega)) (by with_unfolding_all rfl);rw[v_];refine⟨.ref _,_,m.laid (t':=f.toks) (o:=.lst J.reverse) (fun b ob q=>bR _ q) (aB _) ?_,rfl,q _ (m.hok.fresh (aB _))⟩;exact⟨by rw[eG];exact hz,_,0,r.reverse,du _ rfl⟩
theorem FZ(x d:Value):argsOk "min" ⟨[x],[(jU "default",d)]⟩:=by
 unfold argsOk
 kernel_rfl
section
variable{prog:b9}{w:World}{A:Around}{it l B:Addr}{zs:Array (Int×Tok)}{R:Result->Shared->Prop}{kw:List (Str×Value)}
abbrev Ir(zs:Array (Int×Tok))(i j:Nat):Bool:=decide (numAt zs i<numAt zs j)
theorem zm:(toString "min"++toString ".loop":String)="min.loop":=by decide
theorem Lg(T:A.handled=none)(ne:l≠it)(y:B≠it)(U:B≠l):∀(k j:Nat) (s:Shared) (v:Value) (c:Nat),zs.size-(j+1)=k->j+1<=zs.size->s.heap.IsListIter it l (j+1)->s.heap.IsList l (dz zs)->(dz zs)[i4 (Ir zs) j]?=some v ->
  s.heap.get? B=some { cls:=.type "list",dict:=none,data:=.seq #[v,v] c,slots:=#[] } ->
  (∀u I Y,(dz zs)[i4 (Ir zs) (zs.size-1)]?=some u->(∀b o,b≠it->b≠B->s.heap.get? b=some o->I.get? b=some o)->R (.ok (.ret u)) { s with heap:=I,toks:=Y }) ->
  zzl79 (model prog w) A (.builtin "min.loop" ⟨[.ref it,.none,.ref B],kw⟩) R s:=by
 have W:=xW (prog:=prog) (w:=w) (A:=A.in1) T it l ne (dz zs);have J:(dz zs).size=zs.size:=by simp[dz]
 have CM:=CmpOf.ints_lt (prog:=prog) (w:=w) (A:=A.in1) (numAt zs) (P:=fun i u=>(dz zs)[i]?=some u) (fun _ _=>intItems_at);intro k
 induction k with
 |zero =>
  intro j s v c hk hj st C r hB t;have f:j+1=zs.size:=by omega
  refine i7 F.entry_min_loop ?_;rw[i6 nZ _];show wpAny _ A.in1 (seqItems? (.ref B) >>= _) _ _ s;refine ar (rW hB rfl ?_);show wpAny _ A.in1 (tryCatch (pyNext (.ref it)) _ >>= _) _ _ s;refine ar (qC (W.done s _ _ (by rw[J,<-f];exact⟨st,C⟩) fun L M n=>?_));have a:=n B _ (by simpa using y) hB;show wpAny _ A.in1 (n5 B (fun _=>#[]) >>= _) _ _ _;refine ar (mh a rfl (ar (tT (aT ?_))));exact t v _ M (by rw[<-f];exact r) fun b o g p e=>(iG _ _ p.symm).trans (n b o (by simpa using g) e)
 |succ k N =>
  intro j s v c hk hj st C r hB t;have more:j+1<zs.size:=by omega
  refine i7 F.entry_min_loop ?_;rw[i6 nZ _];show wpAny _ A.in1 (seqItems? (.ref B) >>= _) _ _ s;refine ar (rW hB rfl ?_);show wpAny _ A.in1 (tryCatch (pyNext (.ref it)) _ >>= _) _ _ s;refine ar (qC (W.item (j+1) s _ _ (by rw[J];exact more) ⟨st,C⟩ fun u L M O h n=>?_));have a:=n B _ (by simpa using y) hB;show wpAny _ A.in1 (tryCatch (lS [u,u] (richCompare .Lt u v >>= _)) _ >>= _) _ _ _;refine ar (qC (i8 (ar (CM (j+1) (i4 (Ir zs) j) u v _ _ _ O r ?_))));refine ar (i8 (rX ?_));refine ar (tT (aT ?_))
  change wpAny _ _ (if Ir zs (j+1) (i4 (Ir zs) j)=true then _ else _) _ _ _
  cases x:Ir zs (j+1) (i4 (Ir zs) j)with
  |true =>
   simp only[if_true];refine ar (mh a rfl (ar (tT ?_)));rw[zm];have Q:=W.frame _ _ (L.update B (fL fun _=>#[u,u])) h fun b x o e=>(iG _ _ (fun z:B=b=>by rcases cC.mp x with q|q;exact y (z.trans q);rw[dP.mp q]at z;exact U z)).trans e;refine aT ⟨i5 nZ _,N (j+1) _ u _ (by omega) more Q.1 Q.2 (by simp only[i4,x,if_true];exact O) (jX _ a rfl) fun D E G m H=>?_⟩;exact t D E G m fun b o g p e=>H b o g p ((iG _ _ p.symm).trans (n b o (by simpa using g) e))
  |false =>
   simp only[kh,if_false];refine ar (tT ?_);rw[zm];refine aT ⟨i5 nZ _,N (j+1) _ v c (by omega) more h.1 h.2 (by simp only[i4,x,kh,if_false];exact r) a fun D E G m H=>?_⟩;exact t D E G m fun b o g p e=>H b o g p (n b o (by simpa using g) e)
theorem Hv{d:Value}{x:Str}{s:Shared}{c:Nat}(r:A.handled=none)(ne:l≠it)(i:B≠it)(t:B≠l)(st:s.heap.IsListIter it l 0)(v:s.heap.IsList l (dz zs))(hB:s.heap.get? B=some { cls:=.type "list",dict:=none,data:=.seq #[] c,slots:=#[] })
  (E:zs.size=0->∀a j,(∀b o,b≠it->b≠B->s.heap.get? b=some o->a.get? b=some o)->R (.ok (.ret d)) { s with heap:=a,toks:=j })
  (G:0<zs.size->∀u a j,(dz zs)[i4 (Ir zs) (zs.size-1)]?=some u->(∀b o,b≠it->b≠B->s.heap.get? b=some o->a.get? b=some o)->R (.ok (.ret u)) { s with heap:=a,toks:=j }) :
  zzl79 (model prog w) A (.builtin "min.loop" ⟨[.ref it,.none,.ref B],[(x,d)]⟩) R s:=by
 have W:=xW (prog:=prog) (w:=w) (A:=A.in1) r it l ne (dz zs);have y:(dz zs).size=zs.size:=by simp[dz]
 refine i7 F.entry_min_loop ?_;rw[i6 nZ _];show wpAny _ A.in1 (seqItems? (.ref B) >>= _) _ _ s;refine ar (rW hB rfl ?_);show wpAny _ A.in1 (tryCatch (pyNext (.ref it)) _ >>= _) _ _ s;rcases Nat.eq_zero_or_pos zs.size with z|z
 ·refine ar (qC (W.done s _ _ (by rw[y,z];exact⟨st,v⟩) fun k C g=>?_));refine ar (uf (aT ?_));exact E z k C fun b o h m e=>g b o (by simpa using h) e
 ·refine ar (qC (W.item 0 s _ _ (by rw[y];exact z) ⟨st,v⟩ fun u k C H n g=>?_));have f:=g B _ (by simpa using i) hB;show wpAny _ A.in1 (n5 B (fun _=>#[u,u]) >>= _) _ _ _;refine ar (mh f rfl ?_);rw[zm];have D:=W.frame _ _ (k.update B (fL fun _=>#[u,u])) n fun b I o e=>(iG _ _ (fun z:B=b=>by rcases cC.mp I with q|q;exact i (z.trans q);rw[dP.mp q]at z;exact t z)).trans e;refine aT ⟨i5 nZ _,Lg r ne i t _ 0 _ u _ rfl z D.1 D.2 H (jX _ f rfl) fun J L M p N=>?_⟩;exact G z J L M p fun b o h m e=>N b o h m ((iG _ _ m.symm).trans (g b o (by simpa using h) e))
theorem FS{E:Zc}{Q:Zc}{d:Value}{s:Shared}(h:A.handled=none)(g:s.heap.IsList l (dz zs))
  (i:zs.size=0->∀a f,(∀b o,s.heap.get? b=some o->a.get? b=some o)->Q d { s with heap:=a,toks:=f })
  (j:0<zs.size->∀u a f,(dz zs)[i4 (Ir zs) (zs.size-1)]?=some u->(∀b o,s.heap.get? b=some o->a.get? b=some o)->Q u { s with heap:=a,toks:=f }) :
  wpAny (model prog w) A (call (.builtin "min") [.ref l] [(jU "default",d)]) Q E s:=by
 refine kmk_tree F.kind_min F.plain_min F.entry_min (FZ _ _) ?_;show wpAny _ A.in1 (cb.Builtins.bindParams "min" ["key","default"] 0 ⟨[],[(jU "default",d)]⟩ >>= _) _ _ s;refine ar (wpAny_of_eq (show cb.Builtins.bindParams "min" ["key","default"] 0 ⟨[],[(jU "default",d)]⟩=pure [none,some d]from rfl) ?_);refine ar (aT ?_);refine ar (iter_intList g fun p e st lt ne=>?_);subst e;refine ar (n6 ?_);rw[zm];have sz:(s.heap.push { cls:=.type "list_iterator",data:=.fields #[.ref l,.int 0 0] }).objs.size=s.heap.objs.size+1:=tM ..;have m:l<s.heap.objs.size:=by obtain⟨_,e,_⟩:=g;exact aO e
 have old:∀{a:Heap},(∀b o,b≠s.heap.objs.size->b≠(s.heap.push { cls:=.type "list_iterator",data:=.fields #[.ref l,.int 0 0] }).objs.size->((s.heap.push { cls:=.type "list_iterator",data:=.fields #[.ref l,.int 0 0] }).push { cls:=.type "list",data:=.seq #[] }).get? b=some o->a.get? b=some o)->∀b o,s.heap.get? b=some o->a.get? b=some o:=fun{a} k b o e =>
  k b o (bW (aO e)) (by rw[sz];exact bW (Nat.lt_succ_of_lt (aO e))) (bR _ (bR _ e))
 refine aT ⟨i5 nZ _,Hv (zs:=zs) h ne (by rw[sz];exact Nat.succ_ne_self _) (by rw[sz];exact(bW (Nat.lt_succ_of_lt m)).symm) (st.1.at fun o e=>bR _ e) (st.2.push _) (du _ rfl) (fun z a f k=>i z a f (old k)) fun z u a f n k=>j z u a f n (old k)⟩
end
section
variable{X:Cx}{p pos kp:Pos}{e dv:Expr}{t:TA}
def JO(K:Za)(t:TA):TE:=fun σ H Q=>t σ H fun xs H1=>∃(a:Addr) (ns:List Int),xs=[.ref a]/\aw K H1 a (ns.map V.int)/\(ns=[]->Q .non H1)/\∀m,m∈ns->(∀b∈ns,m<=b)->Q (.int m) H1
theorem Jd(L:X.calm=true)(M:Gl X "min")(N:X.mg "min"=none)(O:PA X [e] t)(T:PE X dv (tC .non))(n:i0 "min"=some (.builtin "min"):=by decide +kernel)
  (U:backTo pos (aL [e] X.env)=(false,eval e X.env)::backTo pos (aL [] X.env):=by rfl) (q:(backTo pos (aL [e] X.env)).any (·.1)=false:=by rfl):PE X (.Call (.Name "min" p) [e] [⟨some "default",dv,kp⟩] pos) (JO X.K t):=by
 intro B s σ H Q I h;refine Ae (iI I M N n ?_);refine callWith_kw (cH (O pos B s σ H _ I h) fun us Y g=>?_) U q;obtain⟨vs,C,I1,r1,q1⟩:=g;obtain⟨a,ns,rfl,hq,q0,qm⟩:=q1;obtain⟨u,rfl,ru⟩:=vals1 r1;cases ru;refine kws_cons (cH (T B Y σ C (fun x D=>x=.non/\D=C) I1 ⟨rfl,rfl⟩) fun ud E g=>?_);obtain⟨x,D,o,r2,r,w⟩:=g;subst r w;cases r2;refine kws_nil ?_;show wpAny _ _ (call (.builtin "min") [.ref a] [(jU "default",.none)]) _ _ E;obtain⟨al,rv,pl,hz⟩:=o.list hq;obtain⟨f,rfl,k⟩:=yt rv;have y:E.heap.IsList a (dz f.toArray):=by
  have:=pl.isList;have e:dz f.toArray=(f.map fun p=>Value.int p.1 p.2).toArray:=by simp[dz]
  rw[e];exact this
 have m:∀j,j<f.length->numAt f.toArray j=(f.map (·.1)).getD j 0/\(f.map (·.1)).getD j 0∈f.map (·.1):=fun j l=>by
  refine⟨?_,?_⟩
  ·unfold numAt;simp[List.getD_eq_getElem?_getD,l]
  ·rw[List.getD_eq_getElem?_getD,da (by rw[ah];exact l)];exact List.getElem_mem _
 refine FS (o.ok.hd L) y (fun z h' tk A=>⟨.non,_,o.kept A,rfl,q0 ?_⟩) fun pos v h' tk hv A=>?_
 ·rw[<-k,qx];exact List.eq_nil_of_length_eq_zero (by rw[bG]at z;exact z)
 obtain⟨t,rfl⟩:=intItems_at hv;obtain⟨h1,G⟩:=argBest_lt (numAt f.toArray) (f.toArray.size-1);rw[bG]at h1 G pos;have J:(f.toArray.size-1)=f.length-1:=by rw[bG]
 refine⟨.int (numAt f.toArray (i4 (Ir f.toArray) (f.toArray.size-1))),_,o.kept A,⟨t,rfl⟩,qm _ ?_ fun b n=>?_⟩
 ·obtain⟨r,w⟩:=m (i4 (fun i j=>decide (numAt f.toArray i<numAt f.toArray j)) (f.length-1)) (by omega);rw[<-k,J];exact r▸w
 ·rw[<-k]at n;obtain⟨j,l,rfl⟩:=List.mem_iff_getElem.mp n;rw[ah]at l;have:=G j (by omega);have e:(f.map (·.1))[j]=numAt f.toArray j:=by
   rw[(m j l).1,List.getD_eq_getElem?_getD,da (by rw[ah];exact l)];rfl
  rw[e,J];exact this
end
end L2
end
set_option Elab.async false
set_option linter.all false
set_option maxRecDepth 100000
set_option maxHeartbeats 4000000
namespace Mum
open PySem PySem.Spec PyProof.Rows L2
def yE(K:Za):TS :=
 aq (cu (aU (aH rGeI V0 (aH JS (tC (.int 10)) (tC (.int 18))))) (aW V0) (bx))
 (aq (aM (aH jh (aH dB (aH dB (aH mB (aH jh V0 (tC (.int 1000000007))) (tC (.int 69069))) (aH mB V1 (tC (.int 40503)))) (tC (.int 977))) (tC (.int 2147483629))) U2)
 (aq (aM (aH jh (aH dB (aH dB (aH mB V2 V2) (aH mB V1 (tC (.int 7919)))) (aH jh V0 (tC (.int 65537)))) (tC (.int 2147483587))) U3)
 (aq (aM (aH jh (aH dB (aH dB (aH mB V3 V3) (aH mB V2 (tC (.int 31)))) (tC (.int 5))) (tC (.int 2147483563))) U4)
 (aW (aH dB (aH mB (aH dB (aH mB V2 (tC (.int 2147483659))) V3) (tC (.int 2147483693))) V4)))))
def z0:List Str:=["cell","at","one","two","three"]
def BX(K:Za):TS :=
 aq (aM (gD (dU K) (ay (BL (q_ K) V0 (fq) (gC (tC (.int 12)))))) U1)
 (aq (dS (xa K (ay (BL (q_ K) V0 (gC (tC (.int 12))) (gC (tC (.int 63)))))) (jw K 2 (bt U2 (bt U3 (jr)))) (aM (aH dB (aH (dW K) V1 (aH jh V2 (tC (.int 12)))) V3) (C7 V1 (aH jh V2 (tC (.int 12))) uI)))
 (aW (c6 (ci V1 (tC (.int 0)) (tC (.int 0))))))
def Ds:List Str:=["script","cells","k","cell"]
def B_(K:Za):TS :=
 aq (aM (tC (.int 0)) (C7 V0 (tC (.int 2)) uI))
 (aW V0)
def Dw:List Str:=["pen"]
def BW(K:Za)(sp_law_spread:Sp):TS :=
 aq (cu (aU (aH CG (aH (dW K) V0 (tC (.int 2))) V1)) (aq (aM (aH (dW K) V0 (tC (.int 1))) U2)
 (aq (aM (tC (.int 0)) U3)
 (aq (cu (aU (aH CG V2 (gD (ir K) (ay (aH (dW K) V0 (tC (.int 0))))))) (aM (aH (dW K) (aH (dW K) V0 (tC (.int 0))) V2) U3) (cu (aU (aH G0 (gD (ir K) (ay (aH (dW K) V0 (tC (.int 0))))) (tC (.int 0)))) (aM (aH jh (aH (dW K) (aH (dW K) V0 (tC (.int 0))) (aH jh (aH dB (aH mB V2 (tC (.int 5))) (tC (.int 3))) (gD (ir K) (ay (aH (dW K) V0 (tC (.int 0))))))) (aH dB (aH JS (tC (.int 10)) (tC (.int 17))) V2)) U3) (bx)))
 (aq (aM (aH dB V2 (tC (.int 1))) (C7 V0 (tC (.int 1)) uI))
 (aM (aK sp_law_spread (aX V3 V2)) (C7 V0 (tC (.int 2)) uI)))))) (bx))
 (aq (aM (aH jh (aH (dW K) V0 (tC (.int 2))) V1) U4)
 (aq (aM (aH G1 (aH (dW K) V0 (tC (.int 2))) V1) (C7 V0 (tC (.int 2)) uI))
 (aW V4)))
def Dr:List Str:=["pen","many","at","cell","found"]
def Ar(K:Za)(sp_law_take:Sp):TS :=
 aq (aM (tC (.str "abcdefghijklmnopqrstuvwxyz")) U2)
 (aq (aM (DV K "str" (JT K) (tC (.str "")) (am (cG 1 [2,0] (u7 (ay (tC (.int 7)))) U0 (iH) (aH GZ V1 (aK sp_law_take (aX V2 (tC (.int 26)))))) bg)) U3)
 (aq (aM (aK sp_law_take (aX V0 (tC (.int 3)))) U4)
 (aq (aM (aK sp_law_take (aX V0 (tC (.int 26)))) U5)
 (aq (aM (aK sp_law_take (aX V0 (tC (.int 8)))) U6)
 (aq (aM (c6 (bg)) U7)
 (aq (dS (u7 (ay V1)) U8 (aq (aM (aH GZ V2 (aH jh (aH dB V5 (aH mB (tC (.int 3)) V8)) (tC (.int 26)))) U9)
 (aq (aM (BL Ja V3 (fq) (gC (aH jh (aH dB V6 (aH mB V8 (aH jh V4 (tC (.int 2))))) (tC (.int 8))))) KZ)
 (aq (aM (aH (dW K) (c6 (ci (tC (.int 0)) (gD (ir K) (ay F0)) (aH G1 (gD (ir K) (ay F0)) (tC (.int 2))))) V4) LM)
 (cN (DV K "list" ig V7 (ay (aH JW (aH JW (BL Ja F0 (fq) (gC KL)) V9) (BL Ja F0 (gC KL) (fq))))))))))
 (aW V7)))))))
def BD:List Str:=["pen","many","letters","base","way","turn","size","found","k","sign","part","at"]
def ET(K:Za):TS :=
 cu (aU (aH (pL K true) V1 V0)) (cN (DV K "list" ig V0 (ay V1))) (bx)
def Gb:List Str:=["doors","door"]
def qO(K:Za)(sp_law_take:Sp)(sp_law_put:Sp):TS :=
 aq (aM (c6 (bg)) U5)
 (aq (aM (aK sp_law_take (aX V0 (tC (.int 2)))) U6)
 (aq (dS (xa K (ay V3)) (jw K 2 (bt U7 (bt U8 (jr)))) (aq (dS (u7 (am (aH (dW K) (c6 (am (tC (.int 0)) (ci (tC (.int 1)) (tC (.int 1)) (tC (.int 2))))) (aK sp_law_take (aX V0 (tC (.int 4))))) bg)) U9 (aq (aM (bf (am (tC (.str "say")) (am (aH (dW K) V2 (aK sp_law_take (aX V0 (gD (ir K) (ay V2))))) bg))) KZ)
 (cN (aK sp_law_put (am V5 (am (bf (am V8 (am F0 (am (aH (dW K) V3 (aK sp_law_take (aX V0 (gD (ir K) (ay V3))))) bg)))) bg))))))
 (aq (dS (bN K V1) LM (dS (u7 (am (aH (dW K) (c6 (am V4 (ci (tC (.int 1)) (tC (.int 1)) (tC (.int 2))))) (aK sp_law_take (aX V0 (tC (.int 4))))) bg)) U9 (cN (aK sp_law_put (am V5 (am (bf (am V8 (am (bf (aX (tC (.str "ask")) KL)) (am (aH (dW K) V3 (aK sp_law_take (aX V0 (gD (ir K) (ay V3))))) bg)))) bg))))))
 (aq (aM (aH (dW K) (c6 (am (BL (q_ K) V3 (gC (aH dB V7 (tC (.int 1)))) (fq)) (ay (BL (q_ K) V3 (fq) (gC V7))))) V6) U12)
 (cu (sQ (aU (aH (wm K) KY (c6 (bg)))) (aU (aH vI (aK sp_law_take (aX V0 (tC (.int 3)))) (tC (.int 0))))) (cN (aK sp_law_put (am V5 (am (bf (am V8 (am (bf (ay (tC (.str "still")))) (am (aH (r8 K) KY (aK sp_law_take (aX V0 (gD (ir K) (ay KY))))) bg)))) bg)))) (bx))))))
 (aW V5)))
def rF:List Str:=["pen","asks","says","rooms","full","doors","down","k","room","turn","sign","ask","later"]
def As(K:Za)(sp_law_draw_doors:Sp)(sp_law_names:Sp)(sp_law_take:Sp)(sp_law_anew:Sp):TS :=
 aq (cN (aK sp_law_anew (ay V0)))
 (aq (aM (aK sp_law_names (aX V0 (tC (.int 8)))) U3)
 (aq (aM (BL (q_ K) V3 (fq) (gC (aH dB (tC (.int 1)) (aH (dW K) (c6 (am (tC (.int 0)) (am (tC (.int 1)) (am (tC (.int 1)) (ci (tC (.int 2)) (tC (.int 2)) (tC (.int 3))))))) (aK sp_law_take (aX V0 (tC (.int 6)))))))) U4)
 (aq (aM (BL (q_ K) V3 (gC (tC (.int 4))) (gC (aH dB (tC (.int 5)) (aH (dW K) (c6 (am (tC (.int 0)) (am (tC (.int 1)) (am (tC (.int 1)) (ci (tC (.int 2)) (tC (.int 2)) (tC (.int 3))))))) (aK sp_law_take (aX V0 (tC (.int 6)))))))) U5)
 (aq (aM (aK sp_law_names (aX V0 (aH dB (tC (.int 1)) (aK sp_law_take (am V0 (ay V1)))))) U6)
 (aq (aM (aK sp_law_draw_doors (am V0 (am V4 (ci V5 V6 V2)))) U7)
 (aW (bf (am V4 (ci V5 V6 V7)))))))))
def BE:List Str:=["pen","most","full","words","asks","says","rooms","doors"]
def vQ(K:Za)(C_Machine:Addr)(sp_Machine_init:Sp):TS :=
 aW (uu C_Machine sp_Machine_init [] E0 (am (gD (dU K) (ay (aH (r8 K) V0 (tC (.int 0))))) (am (gD (dU K) (ay (aH (r8 K) V0 (tC (.int 1))))) (am (gD (dU K) (ay (aH (r8 K) V0 (tC (.int 2))))) (am (gD (dU K) (ay (aH (r8 K) V0 (tC (.int 3))))) bg)))))
def ww:List Str:=["told"]
def EV(K:Za):TS :=
 aW (AC (aH K_ V0 (tC (.str ""))) (AC (aH rLeI (gD (ir K) (ay V0)) (tC (.int 8))) (gD (Lb K) (ay (cG 1 [] (Lj V0) U0 (iH) (aH rInS V0 (tC (.str "abcdefghijklmnopqrstuvwxyz"))))))))
def Ge:List Str:=["text"]
def EW(K:Za):TS :=
 aq (aM (qY) U1)
 (aq (dS (bN K V0) U2 (jf V1 V2 (tC (.bl true))))
 (aW V1))
def Gf:List Str:=["things","keys","thing"]
def om(K:Za)(sp_is_name:Sp)(sp_as_keys:Sp):TS :=
 aq (cu (aU (aH vI (gD (ir K) (ay V0)) (tC (.int 0)))) (aW (tC (.int 0))) (bx))
 (aq (aM (aK sp_as_keys (ay V2)) U3)
 (aq (dS (xa K (ay V0)) (jw K 2 (bt U4 (bt U5 (jr)))) (aq (cu (Cc (aU (aH vI V4 V1)) (Cc (tB (Cp K V5 V3)) (IG (tB (aK sp_is_name (ay V5)))))) (aW V4) (bx))
 (jf V3 V5 (tC (.bl true)))))
 (aW (tC .non))))
def oQ:List Str:=["names","most","taken","ahead","number","name"]
def yJ(K:Za)(a_STILL:Addr):TS :=
 aW (aH j3 (aH j3 (cG 1 [] (bN K V0) U0 (iH) (bf (aX (tC (.str "ask")) V0))) (cG 1 [] (bN K V1) U0 (iH) (bf (aX (tC (.str "say")) V0)))) (c6 (ay (tC (.ref a_STILL)))))
def z_:List Str:=["asks","says"]
def on(K:Za)(sp_as_keys:Sp):TS :=
 aq (aM (aK sp_as_keys (ay V1)) U3)
 (aq (aM (kY) U4)
 (aq (dS (xa K (ay V0)) (jw K 2 (bt U5 (bt U6 (jr)))) (aq (cu (Cc (aU (aH vI V5 (tC (.int 2000)))) (tB (Cp K V6 V4))) (aW V5) (bx))
 (aq (cu (Cc (tB (ib K (aH (r8 K) V6 (tC (.int 0))) V3)) (Cc (aU (aH (pL K true) (aH (r8 K) V6 (tC (.int 1))) V2)) (tB (ib K (aH (r8 K) V6 (tC (.int 2))) V3)))) (aW V5) (bx))
 (jf V4 V6 (tC (.bl true))))))
 (aW (tC .non))))
def oR:List Str:=["doors","rooms","signs","own_rooms","ahead","number","door"]
def jv(K:Za):TS :=
 aq (aM (kY) U1)
 (aq (dS (bN K V0) (jw K 3 (bt U2 (bt U3 (bt U4 (jr))))) (cN (DV K "list" ig (DV K "dict" DX V1 (aX (bf (am V2 (ay V3))) (c6 (bg)))) (ay V4))))
 (aW V1))
def jx:List Str:=["doors","goals","start","sign","goal"]
def ul(K:Za)(a_STILL:Addr):TS :=
 aq (aM (qY) U2)
 (aq (aM (c6 (ay V1)) U3)
 (aq (Ca (aU (aH G0 (gD (ir K) (ay V3)) (tC (.int 0)))) (aq (aM (Kl K "list" K9 V3) U4)
 (dS (Lk K (yV K V0 (bf (aX V4 (tC (.ref a_STILL)))) (bf (bg)))) U5 (cu (tB (ib K V5 V2)) (aq (jf V2 V5 (tC (.bl true)))
 (cN (DV K "list" ig V3 (ay V5)))) (bx)))))
 (aW V2)))
def vw:List Str:=["goals","room","led","waiting","here","goal"]
def pe(K:Za):TS :=
 aq (dS (xa K (ay V0)) (jw K 2 (bt U2 (bt U3 (jr)))) (cu (tB (Cp K V3 (im K V1 V3))) (aW V2) (bx)))
 (aW (tC .non))
def qj:List Str:=["rooms","led","number","room"]
def Ao(K:Za):TS :=
 cu (tB (wN V1)) (ut) (bx)
def Bz:List Str:=["part","number"]
def yB(K:Za)(sp_need_none:Sp)(sp_first_wrong_door:Sp)(sp_door_signs:Sp)(sp_first_wrong_name:Sp):TS :=
 aq (cN (aK sp_need_none (aX (tC (.str "asks")) (aK sp_first_wrong_name (ci V0 (tC (.int 4)) (c6 (bg)))))))
 (aq (cN (aK sp_need_none (aX (tC (.str "says")) (aK sp_first_wrong_name (ci V1 (tC (.int 4)) V0)))))
 (aq (cN (aK sp_need_none (aX (tC (.str "rooms")) (aK sp_first_wrong_name (ci V2 (tC (.int 150)) (c6 (bg)))))))
 (cN (aK sp_need_none (am (tC (.str "doors")) (ay (aK sp_first_wrong_door (ci V3 V2 (aK sp_door_signs (aX V0 V1))))))))))
def zX:List Str:=["asks","says","rooms","doors"]
def qQ(K:Za):TS :=
 aq (aM (qY) U2)
 (aq (dS (bN K V0) U3 (jf V2 V3 (c6 (bg))))
 (aq (dS (bN K V1) U4 (cN (DV K "list" ig (im K V2 (aH (r8 K) V4 (tC (.int 0)))) (ay V4))))
 (aW V2)))
def rH:List Str:=["rooms","doors","leaving","room","door"]
def qP(K:Za):TS :=
 aW (gD (Lb K) (am (cG 1 [] (bN K V0) U0 (iH) (aH vI (aH (r8 K) (aH (r8 K) V0 (tC (.int 1))) (tC (.int 0))) (tC (.str "ask")))) bg))
def rG:List Str:=["doors"]
def ox(K:Za)(sp_need_none:Sp)(sp_first_led_round:Sp)(sp_led_by_still:Sp)(sp_goals_by_start_and_sign:Sp)(sp_as_keys:Sp)(sp_has_asks_alone:Sp)(sp_doors_by_start:Sp)(sp_need_parts:Sp):TS :=
 aq (cN (aK sp_need_parts (am V1 (ci V2 V3 V4))))
 (aq (lY K V0 (gD (dU K) (ay V1)) "own_asks")
 (aq (lY K V0 (gD (dU K) (ay V2)) "own_says")
 (aq (lY K V0 (gD (dU K) (ay V3)) "own_rooms")
 (aq (lY K V0 (gD (dU K) (ay V4)) "own_doors")
 (aq (lY K V0 (aK sp_doors_by_start (aX V3 V4)) "leaving")
 (aq (lY K V0 (aK sp_as_keys (am (cG 1 [0] (bN K V3) U0 (tB (aK sp_has_asks_alone (ay (im K (fN K V1 "leaving") V0)))) V0) bg)) "quiet")
 (aq (lY K V0 (aK sp_goals_by_start_and_sign (ay V4)) "sign_goals")
 (aq (lY K V0 (gD (Jb K) (am (cG 1 [0] (bN K V3) U0 (iH) (bf (aX V0 (aK sp_led_by_still (am (fN K V1 "sign_goals") (ay V0)))))) bg)) "still_led")
 (cN (aK sp_need_none (aX (tC (.str "still")) (aK sp_first_led_round (am V3 (ay (fN K V0 "still_led")))))))))))))))
def oU:List Str:=["self","asks","says","rooms","doors"]
def oq(K:Za):TS :=
 aW (Cp K V1 (fN K V0 "quiet"))
def oT:List Str:=["self","room"]
def nO(K:Za)(sp_with_still:Sp)(C_Machine:Addr)(sp_Machine_goals:Sp)(a_HUSH:Addr)(sp_Machine_is_quiet:Sp):TS :=
 aq (cu (aU (aH (mC K) V2 (tC (.ref a_HUSH)))) (aW (gD (AO K) (ay (cG 1 [0] (FG K V1) U0 (tB (cn C_Machine "is_quiet" sp_Machine_is_quiet [] E0 V1 (ay V0))) V0)))) (bx))
 (aq (aM (c6 (bg)) U3)
 (aq (dS (FG K V1) U4 (cN (DV K "list" DZ V3 (ay (cn C_Machine "goals" sp_Machine_goals [] E0 V0 (aX V4 V2))))))
 (aW (aK sp_with_still (aX V0 V3)))))
def nT:List Str:=["M","face","sign","goals","room"]
def bC(p:Addr)(H H':Hp):Prop:=∀b o,H b=some o->b≠p->H' b=some o
theorem bC.refl(p:Addr)(H:Hp):bC p H H:=fun _ _ h _=>h
theorem bC.trans{p:Addr}{H e f:Hp}(a:bC p H e)(b:bC p e f):bC p H f:=fun c o h n=>b c o (a c o h n) n
theorem ab.exB{p:Addr}{H e:Hp}(a:ab H e):bC p H e:=fun b o h _=>a b o h
theorem bC.upd(p:Addr)(H:Hp)(o:HO):bC p H (upd H p o):=fun b u h n=>by rw[ai n];exact h
theorem ab.new{H:Hp}{a:Addr}{o:HO}(h:H a=none):ab H (upd H a o):=fun b u e=>by rw[ai (ae e h)];exact e
theorem bC.free{p:Addr}{H a:Hp}(e:bC p H a){u:HO}(f:a p=some u){l:Addr}(h:a l=none):H l=none:=by
 cases q:H l with
 |none=>rfl
 |some o =>
  by_cases z:l=p
  ·subst z;rw[f]at h;cases h
  ·rw[e l o q z]at h;cases h
theorem kp{H:Hp}{a b:Addr}{o x:HO}(h:H b=some o)(n:H a=none):upd H a x b=some o:=by rw[ai (ae h n)];exact h
structure EI(H:Hp)(p c:Addr)(at_ rest:Int)(ns:List Int):Prop where
 pen:H p=some (.lst [.ref c,.int at_,.int rest])
 cells:H c=some (.lst (ns.map V.int))
 at0:0<=at_
 rest0:0<=rest
theorem EI.ne{H:Hp}{p c:Addr}{a r:Int}{g:List Int}(h:EI H p c a r g):c≠p:=by
 intro e;have i:=h.pen;have f:=h.cells;rw[e,i]at f;injection f with f;injection f with f;cases g with
 |nil=>cases f
 |cons n g=>injection f with f;cases f
def gV(H:Hp)(p c:Addr):Prop:=∃a r ns,EI H p c a r ns
theorem gV.ex{H H':Hp}{p c:Addr}(h:gV H p c)(e:ab H H'):gV H' p c:=by
 obtain⟨a,r,f,g,i,j,k⟩:=h;exact⟨a,r,f,e _ _ g,e _ _ i,j,k⟩
theorem gV.pen{H:Hp}{p c:Addr}(h:gV H p c):∃o,H p=some o:=by
 obtain⟨a,r,f,e,_⟩:=h;exact⟨_,e⟩
theorem gV.cell{H:Hp}{p c:Addr}(h:gV H p c):∃o,H c=some o:=by
 obtain⟨a,r,f,_,e,_⟩:=h;exact⟨_,e⟩
theorem gV.upd{H:Hp}{p c l:Addr}{o:HO}(h:gV H p c)(e:p≠l)(f:c≠l):gV (upd H l o) p c:=by
 obtain⟨a,r,g,i,j,k,m⟩:=h;exact⟨a,r,g,by rw[ai e];exact i,by rw[ai f];exact j,k,m⟩
theorem gV.nep{H:Hp}{p c l:Addr}(h:gV H p c)(a:H l=none):p≠l:=let⟨_,e⟩:=h.pen;ae e a
theorem gV.nec{H:Hp}{p c l:Addr}(h:gV H p c)(a:H l=none):c≠l:=let⟨_,e⟩:=h.cell;ae e a
theorem bC.new{p:Addr}{H:Hp}{a:Addr}{o:HO}(h:H a=none):bC p H (L2.upd H a o):=fun b u e _=>by rw[ai (ae e h)];exact e
inductive mU (vs:List V)(H:Hp)(Q:VK)(E:XK):Prop
 |mk (c a:Int):(vs=[.int c,.int a])->(0<=a)->(∀r:Int,0<=r->Q (.int r) H)->mU  vs H Q E
theorem qd{i j:Int}(a:-(2 ^ 64)<j)(e:j<2 ^ 64):Ip i j:=.inr ⟨a,e⟩
theorem Fa{K:Za}{f:List V}{H:Hp}{Q:VK}{E:XK}(h:mU f H Q E):yE K (bj Q) (start z0 f) H:=by
 obtain⟨c,a,rfl,x,k⟩:=h;refine⟨_,rfl,_,_,rfl,rfl,⟨by decide,by decide,by decide⟩,_,_,rfl,rfl,_,rfl,?_⟩;refine iS (fun h=>?_) (fun _=>?_)
 ·refine⟨_,rfl,k _ ?_⟩;have:=of_decide_eq_true h;have e:((10:Int) ^ (18:Int).toNat)=1000000000000000000:=by decide
  omega
 ·have one:∀z:Int,0<=z % 2147483629/\z % 2147483629<2147483629:=fun z=>⟨nY _ (by decide),nX _ (by decide)⟩;have two:∀z:Int,0<=z % 2147483587/\z % 2147483587<2147483587:=fun z=>⟨nY _ (by decide),nX _ (by decide)⟩;have three:∀z:Int,0<=z % 2147483563/\z % 2147483563<2147483563:=fun z=>⟨nY _ (by decide),nX _ (by decide)⟩;refine⟨_,rfl,_,_,rfl,rfl,(by show(0:Int)<1000000007;decide),_,_,rfl,rfl,qd (by decide) (by decide),_,rfl,_,_,rfl,rfl,qd (by decide) (by decide),_,_,rfl,rfl,_,_,rfl,rfl,_,_,rfl,rfl,(by show(0:Int)<2147483629;decide),?_⟩;generalize l:(c % 1000000007 * 69069+a * 40503+977)=g;obtain⟨m,n⟩:=one g;generalize g % 2147483629=o at m n ⊢;refine⟨_,rfl,_,rfl,_,_,rfl,rfl,qd (by omega) (by omega),_,rfl,_,_,rfl,rfl,qd (by decide) (by decide),_,_,rfl,rfl,_,rfl,_,_,rfl,rfl,(by show(0:Int)<65537;decide),_,_,rfl,rfl,_,_,rfl,rfl,(by show(0:Int)<2147483587;decide),?_⟩;generalize p:(o * o+a * 7919+c % 65537)=i;obtain⟨s,t⟩:=two i;generalize i % 2147483587=q at s t ⊢;refine⟨_,rfl,_,rfl,_,_,rfl,rfl,qd (by omega) (by omega),_,rfl,_,_,rfl,rfl,qd (by decide) (by decide),_,_,rfl,rfl,_,_,rfl,rfl,_,_,rfl,rfl,(by show(0:Int)<2147483563;decide),?_⟩;generalize u:(q * q+o * 31+5)=j;obtain⟨v,w⟩:=three j;generalize j % 2147483563=r at v w ⊢;refine⟨_,rfl,_,_,rfl,rfl,qd (by decide) (by decide),_,rfl,_,_,rfl,rfl,_,_,rfl,rfl,qd (by decide) (by decide),_,rfl,_,_,rfl,rfl,k _ ?_⟩;omega
def tw:Sp:=fun vs H Q _=>∃p c,vs=[.ref p]/\gV H p c/\∀H',gV H' p c->bC p H H'->Q (.ref p) H'
theorem I_{K:Za}{e:List V}{H:Hp}{Q:VK}{E:XK}(h:tw e H Q E):B_ K (bj Q) (start Dw e) H:=by
 obtain⟨p,c,rfl,⟨a,r,f,h⟩,k⟩:=h;refine⟨_,rfl,p,_,_,_,rfl,rfl,h.pen,rfl,_,rfl,k _ ⟨a,0,f,aa,?_,h.at0,xM 0⟩ (bC.upd _ _ _)⟩;rw[ai h.ne];exact h.cells
theorem EE{ns:List Int}{a:Int}(e:0<=a)(g:a<ns.length):∃z,xz (ns.map V.int) a=some (.int z):=by
 obtain⟨n,rfl⟩:=jT e;have f:n<ns.length:=by omega
 exact⟨ns[n],ca (by simp[f])⟩
inductive fx (vs:List V)(H:Hp)(Q:VK)(E:XK):Prop
 |mk (p c:Addr) (m:Int):(vs=[.ref p,.int m])->(gV H p c)->(0<m)->(m<1073741824)->(∀(r:Int) (H':Hp),0<=r->r<m->gV H' p c->bC p H H'->Q (.int r) H')->fx  vs H Q E
theorem dR{H:Hp}{Q:VK}{E:XK}{p c:Addr}{m:Int}(e:gV H p c)(f:0<m)(g:m<1073741824)(k:∀(r:Int) (a:Hp),0<=r->r<m->gV a p c->bC p H a->Q (.int r) a):fx [.ref p,.int m] H Q E:=by
 exact⟨p,c,m,rfl,e,f,g,k⟩
theorem IQ{K:Za}{t:List V}{H:Hp}{Q:VK}{E:XK}(h:fx t H Q E):BW K mU (bj Q) (start Dr t) H:=by
 obtain⟨p,c,m,rfl,⟨a,r,ns,h⟩,j,l,k⟩:=h;have f:∀(H':Hp) (n u:Int) (x y:Option V),EI H' p c n u ns->bC p H H' ->
   (aq (aM (aH jh (aH (dW K) V0 (tC (.int 2))) V1) U4) (aq (aM (aH G1 (aH (dW K) V0 (tC (.int 2))) V1) (C7 V0 (tC (.int 2)) uI)) (aW V4)))
    (bj Q) [some (.ref p),some (.int m),x,y,none] H':=by
  intro H' n u x y g ex;refine⟨_,rfl,p,_,2,_,rfl,rfl,aw.of g.pen,rfl,_,rfl,_,_,rfl,rfl,j,?_⟩;refine⟨_,rfl,p,_,2,_,rfl,rfl,aw.of g.pen,rfl,_,rfl,_,_,rfl,rfl,⟨j,l⟩,_,rfl,p,_,_,_,rfl,rfl,g.pen,rfl,?_⟩;refine⟨_,rfl,k _ _ (nY _ (by omega)) (nX _ j) ⟨n,_,ns,aa,?_,g.at0,Int.ediv_nonneg g.rest0 (by omega)⟩ (ex.trans (bC.upd _ _ _))⟩;rw[ai g.ne];exact g.cells
 refine⟨_,rfl,p,_,2,_,rfl,rfl,aw.of h.pen,rfl,_,rfl,_,_,rfl,rfl,_,rfl,?_⟩;refine iS (fun B=>?_) (fun B=>?_)
 ·-- at=pen[1];cell=0;if at<C(pen[0])
  refine⟨_,rfl,p,_,1,_,rfl,rfl,aw.of h.pen,rfl,?_⟩;have o:(V.int ((ns.map V.int).length:Nat))=V.int (ns.length:Nat):=by rw[ah]
  refine⟨_,rfl,_,rfl,p,_,0,_,rfl,rfl,aw.of h.pen,rfl,.inl ⟨c,_,rfl,.inl (aw.of h.cells),_,_,rfl,o,_,rfl,?_⟩⟩;refine iS (fun v=>?_) (fun v=>?_)
  ·obtain⟨z,s⟩:=EE (ns:=ns) h.at0 (of_decide_eq_true v);refine⟨_,rfl,p,_,0,_,rfl,rfl,aw.of h.pen,rfl,_,rfl,c,_,_,_,rfl,rfl,aw.of h.cells,s,?_⟩;refine⟨_,rfl,_,_,rfl,rfl,_,rfl,p,_,_,_,rfl,rfl,h.pen,rfl,?_⟩;refine⟨_,rfl,_,rfl,_,_,rfl,h.at0,fun q i=>⟨_,rfl,p,_,_,_,rfl,rfl,aa,rfl,?_⟩⟩;rw[tj];refine f _ (a+1) q _ _ ⟨aa,by rw[ai h.ne];exact h.cells,by have:=h.at0;omega,i⟩ (bC.upd _ _ _)
  ·refine⟨_,rfl,p,_,0,_,rfl,rfl,aw.of h.pen,rfl,.inl ⟨c,_,rfl,.inl (aw.of h.cells),_,_,o,rfl,_,rfl,?_⟩⟩;refine iS (fun w=>?_) (fun w=>?_)
   ·have A:(0:Int)<ns.length:=of_decide_eq_true w;obtain⟨z,s⟩:=EE (ns:=ns) (a:=(a * 5+3) % (ns.length:Int)) (nY _ (by omega)) (nX _ A);refine⟨_,rfl,p,_,0,_,rfl,rfl,aw.of h.pen,rfl,_,rfl,_,_,rfl,rfl,qd (by decide) (by decide),_,_,rfl,rfl,_,rfl,p,_,0,_,rfl,rfl,aw.of h.pen,rfl,.inl ⟨c,_,rfl,.inl (aw.of h.cells),_,_,rfl,o,A,c,_,_,_,rfl,rfl,aw.of h.cells,s,?_⟩⟩;refine⟨_,_,rfl,rfl,⟨by decide,by decide,by decide⟩,_,rfl,_,_,rfl,rfl,_,_,rfl,rfl,?_,?_⟩
    ·have e:((10:Int) ^ (17:Int).toNat)=100000000000000000:=by decide
     have:=h.at0;show(0:Int)<10 ^ (17:Int).toNat+a;omega
    refine⟨_,rfl,_,_,rfl,rfl,_,rfl,p,_,_,_,rfl,rfl,h.pen,rfl,?_⟩;refine⟨_,rfl,_,rfl,_,_,rfl,h.at0,fun q i=>⟨_,rfl,p,_,_,_,rfl,rfl,aa,rfl,?_⟩⟩;rw[tj];refine f _ (a+1) q _ _ ⟨aa,by rw[ai h.ne];exact h.cells,by have:=h.at0;omega,i⟩ (bC.upd _ _ _)
   ·refine⟨_,rfl,_,_,rfl,rfl,_,rfl,p,_,_,_,rfl,rfl,h.pen,rfl,?_⟩;refine⟨_,rfl,_,rfl,_,_,rfl,h.at0,fun q i=>⟨_,rfl,p,_,_,_,rfl,rfl,aa,rfl,?_⟩⟩;rw[tj];refine f _ (a+1) q _ _ ⟨aa,by rw[ai h.ne];exact h.cells,by have:=h.at0;omega,i⟩ (bC.upd _ _ _)
 ·exact f H a r _ _ h (bC.refl _ _)
inductive tm(K:Za)(vs:List V)(H:Hp)(Q:VK)(E:XK):Prop
 |mk (a:Addr) (ns:List Int):(vs=[.ref a])->(aw K H a (ns.map V.int))->(ns.length<=63)->(∀(p c:Addr) (H':Hp),H p=none->gV H' p c->ab H H'->Q (.ref p) H')->tm K vs H Q E
theorem xn(a:List Int)(lo e:Option Int):∃f:List Int,fS (a.map V.int) lo e=f.map V.int/\f.length=(fS (a.map V.int) lo e).length:=by
 refine⟨(a.drop (HT.sIx (a.map V.int).length 0 lo)).take (HT.sIx (a.map V.int).length (a.map V.int).length e-HT.sIx (a.map V.int).length 0 lo),?_,?_⟩
 ·unfold fS;rw[tS,xL]
 ·unfold fS;rw[aI,aI,dQ,dQ,ah]
theorem IS{K:Za}{vs:List V}{H:Hp}{Q:VK}{E:XK}(h:tm K vs H Q E):BX K (bj Q) (start Ds vs) H:=by
 obtain⟨a,s,rfl,hs,hn,k⟩:=h;obtain⟨D,e0,l0⟩:=xn s none (some 12);obtain⟨B,e1,l1⟩:=xn s (some 12) (some 63);have G:B≠[]->D.length=12:=by
  intro L;have l:0<B.length:=by cases B with|nil=>exact absurd rfl L|cons _ _=>simp
  rw[l1]at l;rw[l0];unfold fS at l ⊢;rw[aI,dQ,ah]at l;rw[aI,dQ,ah];have s1:HT.sIx s.length 0 (some 12)=min 12 s.length:=HT.sIx_nat _ _ 12;have s2:HT.sIx s.length s.length (some 12)=min 12 s.length:=HT.sIx_nat _ _ 12;rw[HT.sIx_none,s2];rw[s1]at l;omega
 refine⟨_,rfl,_,rfl,a,_,rfl,hs,fun q hq=>.inl ⟨q,_,rfl,.inl (aw.of aa),fun c C=>?_⟩⟩;rw[e0]at C ⊢;have M:H c=none:=by
  have:c≠q:=fun z=>by subst z;rw[aa]at C;cases C
  rw[ai this]at C;exact C
 have hS:ab H (upd (upd H q (.lst (D.map V.int))) c (.lst (D.map V.int))):=(ab.new hq).trans (ab.new C);refine⟨_,rfl,_,rfl,_,rfl,a,_,rfl,hS.seq hs,fun r N=>⟨r,rfl,⟨_,aw.of aa⟩,?_⟩⟩;rw[e1];have O:c≠r:=ae aa N
 let T:Nat->L2.St->Hp->Prop:=fun i σ w=>K1 fun(j:List Int) (x y:Option V)=>JK (σ=[some (.ref a),some (.ref c),x,y]) (w c=some (.lst (j.map V.int))) (j.length=D.length) (w r=some (.lst (B.map V.int))) (ab H w)
 refine mJ (xs:=B.map V.int) T
  ⟨D,none,none,rfl,kp aa N,rfl,aa,hS.trans (ab.new N)⟩ (fun i σ w _ ⟨j,x,y,_,_,_,h,_⟩=>aw.of h) ?_ ?_
 ·rintro i x σ w t U ⟨j,u,v,rfl,f,I,J,m⟩ Y;have A:i<B.length:=by
   have:=(bM.mp U).1;rwa[ah]at this
  have ap:=G (fun z=>by rw[z]at A;simp at A);obtain⟨z,rfl⟩:∃z,x=V.int z:=by
   rw[cF,da A]at U;exact⟨_,(fJ U).symm⟩
  have g:upd w t (.tup [.int i,.int z]) c=some (.lst (j.map V.int)):=kp f Y;have n:(i:Int) % 12=((i % 12:Nat):Int):=by omega
  have al:i % 12<j.length:=by omega
  refine⟨t,_,rfl,bQ.of aa,rfl,_,_,rfl,_,_,rfl,rfl,?_⟩;have an:xz (j.map V.int) ((i:Int) % 12)=some (.int j[i % 12]):=by rw[n];exact ca (by simp[al])
  refine⟨_,rfl,_,rfl,_,_,rfl,rfl,(by show(0:Int)<12;decide),c,_,_,_,rfl,rfl,aw.of g,an,_,rfl,_,_,rfl,rfl,_,rfl,_,rfl,_,_,rfl,rfl,(by show(0:Int)<12;decide),c,_,_,i % 12,rfl,rfl,g,?_,?_⟩
  ·rw[n];unfold Gi;rw[if_pos (by omega),if_pos (by rw[ah];omega)];rw[oh]
  ·refine⟨j.set (i % 12) (j[i % 12]+z),_,_,rfl,?_,by rw[List.length_set];exact I,?_,?_⟩
   ·rw[aa,List.map_set]
   ·rw[ai O.symm];exact kp J Y
   ·intro b o e;rw[ai (ae e M)];exact kp (m b o e) Y
 ·rintro σ w ⟨j,x,y,rfl,f,I,J,m⟩;refine⟨_,rfl,(by show 3<=aj;decide),fun p hp=>k p c _ (m.free hp) ⟨0,0,j,aa,kp f hp,xM _,xM _⟩ (m.trans (ab.new hp))⟩
def zo(c:Nat):Prop:=97<=c/\c<=122
structure rK(w:Str):Prop where
 lo:1<=w.length
 hi:w.length<=8
 al:∀c∈w.cps.toList,zo c
theorem EG:∀n:Nat,n<26->(("abcdefghijklmnopqrstuvwxyz":Str).cps.toList)[n]?=some (97+n):=by decide +kernel
theorem EF:("abcdefghijklmnopqrstuvwxyz":Str).length<=aj:=by decide +kernel
theorem Ig{r:Int}(a:0<=r)(e:r<26):xz (("abcdefghijklmnopqrstuvwxyz":Str).cps.toList) r=some (97+r.toNat):=by
 obtain⟨n,rfl⟩:=jT a;rw[oh];exact ca (EG n (by omega))
theorem wn(f:List Nat):∀a:Array Nat,((f.map fun c=>(⟨#[c]⟩:Str)).foldl (fun a p=>a++("":Str).cps++p.cps) a).toList=a.toList++f:=by
 have e:("":Str).cps=#[]:=by decide +kernel
 induction f with
 |nil=>intro a;simp
 |cons c f g =>
  intro a;rw[bF,qw,g,e];simp
theorem CV(a:List Nat):(xX "" (a.map fun c=>(⟨#[c]⟩:Str))).cps.toList=a:=by
 unfold xX cb.Str.glued;cases a with
 |nil=>rfl
 |cons c a =>
  rw[bF];show((a.map fun c=>(⟨#[c]⟩:Str)).foldl (fun e p=>e++("":Str).cps++p.cps) #[c]).toList=_;rw[wn]
  rfl
theorem IK{a b:Str}(h:a.cps.toList=b.cps.toList):a=b:=by
 cases a with|mk x=>cases b with|mk y=>exact congrArg Str.mk (Array.toList_inj.mp h)
theorem fW(a:Str):a.length=a.cps.toList.length:=by simp[Str.length]
theorem zT(a b:Str):(a++b).cps.toList=a.cps.toList++b.cps.toList:=by
 show(a.cps++b.cps).toList=_;simp
theorem HV(z:Str)(m:Nat):(vh z none (some (m:Int))).cps.toList=z.cps.toList.take m:=by
 unfold vh;rw[HT.sIx_none,HT.sIx_nat,tZ,Nat.sub_zero,fW];show List.take _ _=_;rw[List.take_eq_take_iff];omega
theorem HW(z:Str)(m:Nat):(vh z (some (m:Int)) none).cps.toList=z.cps.toList.drop m:=by
 unfold vh;rw[HT.sIx_none,HT.sIx_nat,fW];show List.take _ _=_;rw[tU (by rw[dQ];omega)];by_cases h:m<=z.cps.toList.length
 ·rw[qv h]
 ·rw[Nat.min_eq_right (by omega),mf,qD (by omega)]
def fM(way size k:Nat):Nat:=(size+k * (way % 2)) % 8
def BK(way m:Nat):Nat:=if way=0 then 0 else if way=1 then m else m / 2
def nN(b:List Nat)(way turn size k:Nat):List Nat :=
 (b.take (fM way size k)).take (BK way (fM way size k))++[97+(turn+3 * k) % 26]++(b.take (fM way size k)).drop (BK way (fM way size k))
def Al(b:List Nat)(way turn size k:Nat):Str:=⟨(nN b way turn size k).toArray⟩
theorem qK{b:List Nat}(f:b.length=7)(e turn a k:Nat):(nN b e turn a k).length=fM e a k+1:=by
 have g:fM e a k<8:=tR _ (by decide);unfold nN;rw[a_,a_,aI,dQ,aI,f];have:BK e (fM e a k)<=fM e a k:=by unfold BK;split;omega;split;omega;omega
 simp;omega
theorem Ix{b:List Nat}(i:b.length=7)(g:∀c∈b,zo c)(f turn a k:Nat):rK (Al b f turn a k):=by
 have j:fM f a k<8:=tR _ (by decide);have h:=qK i f turn a k;have e:(Al b f turn a k).cps.toList=nN b f turn a k:=by simp[Al]
 refine⟨?_,?_,?_⟩
 ·rw[fW,e];omega
 ·rw[fW,e];omega
 ·rw[e];intro c hc;unfold nN at hc;rcases bL.mp hc with hc|hc
  ·rcases bL.mp hc with hc|hc
   ·exact g c (gW (gW hc))
   ·have:c=97+(turn+3 * k) % 26:=by simpa using hc
    subst this;have:(turn+3 * k) % 26<26:=tR _ (by decide);exact⟨by omega,by omega⟩
  ·exact g c (gW (List.mem_of_mem_drop hc))
theorem Go{b:List Nat}(g:b.length=7){f turn a:Nat}(t:f<3){j k:Nat}(u:j<26)(v:k<26)(h:Al b f turn a j=Al b f turn a k):j=k:=by
 have o:∀i,fM f a i<8:=fun i=>tR _ (by decide);have e:nN b f turn a j=nN b f turn a k:=by
  have:=congrArg (fun s=>Str.cps s |>.toList) h;simpa[Al]using this
 have p:fM f a j=fM f a k:=by
  have:=congrArg List.length e;rw[qK g,qK g]at this;omega
 have q:97+(turn+3 * j) % 26=97+(turn+3 * k) % 26:=by
  have l:∀i,BK f (fM f a i)<=fM f a i:=fun i=>by unfold BK;split;omega;split;omega;omega
  have get:∀i,(nN b f turn a i)[BK f (fM f a i)]?=some (97+(turn+3 * i) % 26):=by
   intro i;unfold nN;have r:((b.take (fM f a i)).take (BK f (fM f a i))).length=BK f (fM f a i):=by
    rw[aI,aI,g];have:=o i;have:=l i;omega
   rw[eQ,List.getElem?_append_right (by omega),r,Nat.sub_self]
   rfl
  have m:=get j;have n:=get k;rw[e,p]at m;rw[m]at n;exact fJ n
 omega
def lD(ws:Zb):Prop:=ws.Nodup/\∀w∈ws,rK w
def kT(b:List Nat)(way turn size n:Nat):List Str:=(lU n).map (Al b way turn size)
theorem BR{b:List Nat}(g:b.length=7)(i:∀c∈b,zo c){a turn e n:Nat}(l:a<3)(q:n<=26):lD (kT b a turn e n):=by
 refine⟨?_,fun w m=>?_⟩
 ·unfold kT;rw[xK,List.pairwise_map];refine(List.nodup_range (n:=n)).imp_of_mem ?_;intro j k o p f h;exact f (Go g l (by have:=List.mem_range.mp o;omega) (by have:=List.mem_range.mp p;omega) h)
 ·obtain⟨k,_,rfl⟩:=aQ.mp m;exact Ix g i _ _ _ _
inductive mv (vs:List V)(H:Hp)(Q:VK)(E:XK):Prop
 |mk (p c:Addr) (n:Nat):(vs=[.ref p,.int n])->(gV H p c)->(n<=26)->(∀(l:Addr) (ws:Zb) (H':Hp),lD ws->ws.length=n->H l=none->H' l=some (.lst (ws.map V.str))->gV H' p c->bC p H H'->Q (.ref l) H')->mv  vs H Q E
theorem GL{K:Za}{A:List V}{H:Hp}{Q:VK}{E:XK}(h:mv A H Q E):Ar K fx (bj Q) (start BD A) H:=by
 obtain⟨p,c,n,rfl,C,hn,k⟩:=h;refine⟨rfl,7,rfl,by decide,by decide,fun l I=>?_⟩
 let aC:Nat->List V->Hp->Prop:=fun i A u=>∃o:List Nat,A=o.map (fun c=>V.str ⟨#[c]⟩)/\o.length=i/\(∀c∈o,zo c)/\gV u p c/\bC p H u/\u l=some (.lst A)
 refine Dg (lo:=0) (n:=Int.toNat 7) aC
  ⟨[],rfl,rfl,(fun _ h=>nomatch h),C.ex (ab.new I),bC.new I,aa⟩ (fun i A u _ ⟨_,_,_,_,_,_,h⟩=>h) ?_ ?_
 rotate_left
 ·rintro i A u hi ⟨o,rfl,g,w,v,a0,a4⟩;have J:=C.nep I;have a5:=C.nec I;refine gN (pc ?_);refine⟨_,rfl,_,rfl,dR v (by decide) (by decide) fun r H2 h0 h1 D s=>⟨_,r,_,rfl,rfl,EF,Ig h0 h1,?_⟩⟩;have a6:=s l _ a4 J.symm;refine⟨a6,by rw[ah,g];exact ao (by omega),mF hi ⟨o++[97+r.toNat],by rw[av];rfl,by rw[a_,g];rfl,?_,D.upd J a5,?_,aa⟩⟩
  ·intro x hc;rcases bL.mp hc with hc|hc
   ·exact w x hc
   ·have:x=97+r.toNat:=by simpa using hc
    subst this;exact⟨by omega,by omega⟩
  ·intro b o' e nb;rw[ai (ae e I)];exact s b o' (a0 b o' e nb) nb
 ·rintro A H1 ⟨o,rfl,g,w,a7,L,a8⟩;refine⟨"",l,o.map fun c=>(⟨#[c]⟩:Str),rfl,rfl,aw.of (by rw[a8,i3];rfl),?_,?_⟩
  ·have e0:("":Str).length=0:=by decide +kernel
   rw[e0,Nat.mul_zero,i3];have:∀o:List Nat,(o.map ((fun x=>Str.length x) ∘ fun c=>(⟨#[c]⟩:Str))).sum=o.length:=by
    intro o
    induction o with
    |nil=>rfl
    |cons c o ih=>rw[bF,qt,ih,fO];show 1+_=_;omega
   rw[this,g];decide
  refine⟨_,rfl,dR a7 (by decide) (by decide) fun bm H2 w0 w1 D s=>?_⟩;refine⟨_,rfl,dR D (by decide) (by decide) fun turn H3 t0 t1 a9 M=>?_⟩;refine⟨_,rfl,dR a9 (by decide) (by decide) fun bl H4 s0 s1 N O=>?_⟩;have T:bC p H H4:=((L.trans s).trans M).trans O;obtain⟨j,rfl⟩:=jT w0;obtain⟨G,rfl⟩:=jT t0;obtain⟨sz,rfl⟩:=jT s0;have hb:=CV o;generalize xX "" (o.map fun c=>(⟨#[c]⟩:Str))=base at hb ⊢;refine⟨(by show 0<=aj;decide),fun f hf=>?_⟩;obtain⟨op,bc⟩:=N.pen;have y:H f=none:=T.free bc hf;have U:=C.nep y;have Y:=C.nec y;refine⟨_,rfl,n,rfl,by omega,by omega,kF (lo:=0) (n:=((n:Int)).toNat) (fun i σ u=>∃(a b c' d:Option V),σ=[some (.ref p),some (.int n),some (.str "abcdefghijklmnopqrstuvwxyz"),some (.str base),some (.int j),some (.int G),some (.int sz),some (.ref f),a,b,c',d] /\
   gV u p c/\bC p H u/\u f=some (.lst ((kT o j G sz i).map V.str)))
   ⟨_,_,_,_,rfl,N.upd U Y,T.trans (bC.new hf),aa⟩ ?_ ?_⟩
  ·rintro i σ u hi ⟨a,b,c',d,rfl,v,t,z⟩;have bn:i<n:=by omega
   have bu:j<3:=by omega
   have bd:((G:Int)+3 * (0+(i:Int))) % 26=(((G+3 * i) % 26:Nat):Int):=by omega
   refine⟨_,rfl,_,rfl,_,rfl,_,_,rfl,rfl,.inl ⟨by decide,by decide⟩,_,_,rfl,rfl,_,_,rfl,rfl,(by show(0:Int)<26;decide),_,_,_,rfl,rfl,EF,Ig (nY _ (by decide)) (nX _ (by decide)),?_⟩;have al:base.length<=aj:=by rw[fW,hb,g];decide
   have e8:((sz:Int)+(0+(i:Int)) * ((j:Int) % 2)) % 8=((fM j sz i:Nat):Int):=by
    unfold fM;have:j=0∨j=1∨j=2:=by omega
    rcases this with rfl|rfl|rfl<;>simp<;>omega
   refine⟨_,rfl,_,rfl,_,rfl,_,rfl,_,_,rfl,rfl,(by show(0:Int)<2;decide),_,_,rfl,rfl,.inr ⟨by omega,by omega⟩,_,_,rfl,rfl,_,_,rfl,rfl,(by show(0:Int)<8;decide),_,rfl,base,rfl,al,?_⟩;rw[e8];have m:=HV base (fM j sz i);rw[hb]at m;generalize vh base none (some ((fM j sz i:Nat):Int))=part at m ⊢;have h8:fM j sz i<8:=tR _ (by decide);have B:part.length=fM j sz i:=by rw[fW,m,aI,g];omega
   have pz:part.length<=aj:=by rw[B];exact cT (ao (by omega))
   refine⟨_,rfl,.inr ⟨part,rfl,pz,_,rfl,.inr ⟨part,rfl,pz,_,_,rfl,rfl,⟨by decide,by decide⟩,(by show 3<=aj;decide),fun q hq=>?_⟩⟩⟩;have an:H q=none:=by
    obtain⟨bw,ap⟩:=v.pen;exact t.free ap hq
   have bi:xz [V.int 0,V.int (part.length:Nat),V.int ((part.length:Int) / 2)] (j:Int)=some (.int (BK j (fM j sz i):Nat)):=by
    rw[B];have:j=0∨j=1∨j=2:=by omega
    rcases this with rfl|rfl|rfl
    ·rfl
    ·rfl
    ·show some (V.int (((fM 2 sz i:Nat):Int) / 2))=some (V.int ((BK 2 (fM 2 sz i):Nat):Int));have:BK 2 (fM 2 sz i)=fM 2 sz i / 2:=rfl;rw[this];congr 2
   refine⟨_,rfl,q,_,_,_,rfl,rfl,aw.of aa,bi,?_⟩;have as:upd u q (.lst [V.int 0,V.int (part.length:Nat),V.int ((part.length:Int) / 2)]) f=some (.lst ((kT o j G sz i).map V.str)):=kp z hq;have c1:=HV part (BK j (fM j sz i));have c2:=HW part (BK j (fM j sz i));have l1:(vh part none (some ((BK j (fM j sz i):Nat):Int))).length<=8:=by rw[fW,c1,aI,m,aI,g];omega
   have l2:(vh part (some ((BK j (fM j sz i):Nat):Int)) none).length<=8:=by rw[fW,c2,dQ,m,aI,g];omega
   refine⟨_,rfl,.inl ⟨rfl,_,aw.of as⟩,_,rfl,_,rfl,_,rfl,part,rfl,pz,_,rfl,_,_,rfl,rfl,?_,_,rfl,_,rfl,_,rfl,part,rfl,pz,_,_,rfl,rfl,?_,f,_,_,rfl,rfl,as,?_,?_⟩
   ·have:Str.length ⟨#[97+(((G:Int)+3 * (0+(i:Int))) % 26).toNat]⟩=1:=rfl;rw[this];exact cT (ao (by omega))
   ·rw[fW,zT,a_,<-fW,<-fW];have:Str.length ⟨#[97+(((G:Int)+3 * (0+(i:Int))) % 26).toNat]⟩=1:=rfl;rw[this];exact cT (ao (by omega))
   ·rw[ah];unfold kT;rw[ah,List.length_range];exact ao (by omega)
   ·refine⟨_,_,_,_,rfl,(v.upd (C.nep an) (C.nec an)).upd U Y,?_,?_⟩
    ·intro b' o' e nb;rw[ai (ae e y)];exact kp (t b' o' e nb) hq
    ·rw[aa];unfold kT;rw[List.range_succ,av,av];congr 3;show[V.str _]=[V.str _];congr 2;refine IK ?_;rw[zT,zT,c1,c2,m,bd,oh];simp[Al,nN]
  ·rintro σ u ⟨a,b,c',d,rfl,v,t,z⟩;have en:((n:Int)).toNat=n:=by omega
   rw[en]at z;exact⟨_,rfl,k f _ u (BR g w (by omega) hn) (by unfold kT;rw[ah,List.length_range]) y z v t⟩
structure ak where
 a:Str
 sg:List Str
 b:Str
deriving DecidableEq
def SignAt(H:Hp)(s:Addr)(sg:Zb):Prop:=H s=some (.tup (sg.map V.str))
def hW(H:Hp)(t:Addr)(d:ak):Prop:=∃s,H t=some (.tup [.str d.a,.ref s,.str d.b])/\SignAt H s d.sg
def gv(H H':Hp):Prop:=∀b xs,H b=some (.tup xs)->H' b=some (.tup xs)
theorem hW.kt{H H':Hp}{t:Addr}{d:ak}(k:gv H H')(h:hW H t d):hW H' t d:=by
 obtain⟨s,a,e⟩:=h;exact⟨s,k _ _ a,k _ _ e⟩
theorem bC.kt{p:Addr}{H a:Hp}{f:List V}(e:bC p H a)(g:H p=some (.lst f)):gv H a:=fun b i h=>e b _ h (fun z=>by rw[z,g]at h;cases h)
theorem ab.kt{H a:Hp}(e:ab H a):gv H a:=fun b f h=>e b _ h
theorem gv.trans{H e f:Hp}(a:gv H e)(b:gv e f):gv H f:=fun x g h=>b x g (a x g h)
theorem eW{H:Hp}{l:Addr}{a:List V}{o:HO}(h:H l=some (.lst a)):gv H (upd H l o):=fun b f e=>by
 rw[ai (fun z=>by rw[z,h]at e;cases e)];exact e
abbrev cY(H:Hp)(ts:Ze)(ds:List ak):Prop:=Paired (hW H) ts ds
theorem Paired.get{α β:Type}{R:α->β->Prop}:∀{a:List α}{e:List β}{i:Nat}{y:β},Paired R a e->e[i]?=some y->∃x,a[i]?=some x/\R x y
 |_,_,i,y,.nil,h=>by simp at h
 |_,_,0,y,.cons r t,h=>by simp at h;subst h;exact⟨_,rfl,r⟩
 |_,_,i+1,y,.cons r t,h=>by
  simp at h;obtain⟨x,f,g⟩:=Paired.get t h;exact⟨x,by simpa using f,g⟩
theorem Paired.getL{α β:Type}{R:α->β->Prop}:∀{a:List α}{e:List β}{i:Nat}{x:α},Paired R a e->a[i]?=some x->∃y,e[i]?=some y/\R x y
 |_,_,i,y,.nil,h=>by simp at h
 |_,_,0,y,.cons r t,h=>by simp at h;subst h;exact⟨_,rfl,r⟩
 |_,_,i+1,y,.cons r t,h=>by
  simp at h;obtain⟨x,f,g⟩:=Paired.getL t h;exact⟨x,by simpa using f,g⟩
theorem cY.kt{H H':Hp}{a:Ze}{e:List ak}(k:gv H H')(h:cY H a e):cY H' a e:=Paired.mapP h fun _ _ r=>r.kt k
theorem Kj{H:Hp}{a:Addr}{o:HO}(h:H a=some o):upd H a o=H:=by
 funext b;by_cases e:b=a
 ·subst e;rw[aa,h]
 ·rw[ai e]
def gu(x:Str):DT:=.k (.inr x)
def zK(d:ak):DT:=.t [gu d.a,.t (d.sg.map gu),gu d.b]
theorem pI{x y:Str}(h:gu x=gu y):x=y:=by
 unfold gu at h;injection h with h;injection h
theorem iA:∀{x y:Zb},x.map gu=y.map gu->x=y
 |[],[],_=>rfl
 |[],_::_,h=>by cases h
 |_::_,[],h=>by cases h
 |a::x,b::y,h=>by
  rw[bF,bF]at h;injection h with e f;rw[pI e,iA f]
theorem JA{x y:ak}(h:zK x=zK y):x=y:=by
 unfold zK at h;injection h with h;injection h with e h;injection h with a h;injection h with f h;injection a with a;cases x;cases y;simp only at *;rw[pI e,iA a,pI f]
theorem eX(a:Zb):DT.depths (a.map gu)=0:=by
 induction a with
 |nil=>rfl
 |cons x a e=>rw[bF];show max (DT.depth (gu x)) (DT.depths _)=0;rw[e];rfl
theorem zJ(d:ak):(zK d).depth=2:=by
 show DT.depths [gu d.a,.t (d.sg.map gu),gu d.b]+1=2;show max (DT.depth (gu d.a)) (max (DT.depths (d.sg.map gu)+1) (max (DT.depth (gu d.b)) 0))+1=2;rw[eX]
 rfl
theorem FL(a:List ak):DT.depths (a.map zK)<=8:=by
 induction a with
 |nil=>exact dI _
 |cons x e f=>rw[bF];show max (DT.depth (zK x)) (DT.depths _)<=8;rw[zJ];omega
theorem lA{K:Za}{H:Hp}:∀a:List Str,DIns K H (a.map gu) (a.map V.str)
 |[]=>by show DIns K H [] [];unfold DIns;rfl
 |x::a=>by
  rw[bF,bF];unfold DIns;refine⟨_,_,rfl,?_,lA a⟩;unfold gu vE
  rfl
theorem nR{K:Za}{H:Hp}(x:Str):vE K H (gu x) (.str x):=by unfold gu vE;rfl
theorem aZ{K:Za}{H:Hp}{s:Addr}{a:Zb}(h:bQ K H s (a.map V.str)):vE K H (.t (a.map gu)) (.ref s):=by
 unfold vE;exact⟨s,_,rfl,h,lA _⟩
theorem hW.dIn{K:Za}{H:Hp}{t:Addr}{d:ak}(h:hW H t d):vE K H (zK d) (.ref t):=by
 obtain⟨s,a,e⟩:=h;unfold zK;unfold vE;refine⟨t,_,rfl,bQ.of a,?_⟩;unfold DIns;refine⟨_,_,rfl,nR _,?_⟩;unfold DIns;refine⟨_,_,rfl,aZ (bQ.of e),?_⟩;unfold DIns;refine⟨_,_,rfl,nR _,?_⟩;unfold DIns
 rfl
theorem cY.dIns{K:Za}{H:Hp}:∀{a:Ze}{e:List ak},cY H a e->DIns K H (e.map zK) (a.map V.ref)
 |_,_,.nil=>by show DIns K H [] [];unfold DIns;rfl
 |_,_,.cons r t=>by
  rw[bF,bF];unfold DIns;exact⟨_,_,rfl,r.dIn,cY.dIns t⟩
theorem Er{d:ak}{a:List ak}:zK d∈a.map zK↔d∈a:=by
 constructor
 ·intro h;obtain⟨x,f,e⟩:=aQ.mp h;rw[<-JA e];exact f
 ·exact nW
def mD(ds:List ak)(d:ak):List ak:=if d∈ds then ds else ds++[d]
inductive k5 (vs:List V)(H:Hp)(Q:VK)(E:XK):Prop
 |mk (l t:Addr) (ts:Ze) (ds:List ak) (d:ak):(vs=[.ref l,.ref t])->(H l=some (.lst (ts.map V.ref)))->(cY H ts ds)->(hW H t d)->(ds.length<=1000)->(∀ts':List Addr,cY H ts' (mD ds d)->Q .non (upd H l (.lst (ts'.map V.ref))))->k5  vs H Q E
theorem Ko{K:Za}{i:List V}{H:Hp}{Q:VK}{E:XK}(h:k5 i H Q E):ET K (bj Q) (start Gb i) H:=by
 obtain⟨l,t,j,g,d,rfl,a,e,m,n,k⟩:=h;refine⟨_,rfl,_,rfl,zK d,g.map zK,l,_,m.dIn,rfl,.inl (aw.of a),e.dIns,by rw[zJ];decide,FL g,_,rfl,?_⟩;by_cases f:d∈g
 ·rw[if_pos rfl,zzr1 (Er.mpr f)];refine bA ?_;have:=k j (by unfold mD;rw[if_pos f];exact e);rw[Kj a]at this;exact this
 ·rw[if_pos rfl,zzr0 (fun z=>f (Er.mp z))];refine bP ?_;refine⟨_,rfl,.inl ⟨rfl,_,aw.of a⟩,_,rfl,l,_,_,rfl,rfl,a,?_,?_⟩
  ·rw[ah,Paired.length e];exact ao n
  ·have:=k (j++[t]) (by unfold mD;rw[if_neg f];exact ge e m);rw[av]at this;exact this
structure DI(R:ak->Prop)(H0:Hp)(p c l:Addr)(m:Nat)(H:Hp):Prop where
 pen:gV H p c
 ds:∃ts ds,H l=some (.lst (ts.map V.ref))/\cY H ts ds/\ds.Nodup/\(∀d∈ds,R d)/\ds.length<=m
 ex:bC p H0 H
 fr:H0 l=none
 pl:p≠l
 cl:c≠l
section
variable{R:ak->Prop}{H0 H H':Hp}{p c l:Addr}{m:Nat}
theorem gV.lst{H:Hp}{p c:Addr}(h:gV H p c):∃e,H p=some (.lst e):=by
 obtain⟨a,r,g,f,_⟩:=h;exact⟨_,f⟩
theorem DI.took(h:DI R H0 p c l m H)(a:gV H' p c)(e:bC p H H'):DI R H0 p c l m H':=by
 obtain⟨f,g,i,j,k⟩:=h.ds;obtain⟨o,n⟩:=h.pen.lst;exact⟨a,⟨f,g,e _ _ i h.pl.symm,j.kt (e.kt n),k⟩,h.ex.trans e,h.fr,h.pl,h.cl⟩
theorem DI.new(h:DI R H0 p c l m H){q:Addr}{o:HO}(a:H q=none):DI R H0 p c l m (upd H q o) :=
 h.took (h.pen.ex (ab.new a)) (bC.new a)
theorem DI.up(h:DI R H0 p c l m H){n:Nat}(a:m<=n):DI R H0 p c l n H:=by
 obtain⟨e,f,g,i,j,k,o⟩:=h.ds;exact⟨h.pen,⟨e,f,g,i,j,k,aE o a⟩,h.ex,h.fr,h.pl,h.cl⟩
theorem DI.put(h:DI R H0 p c l m H){t:Addr}{d:ak}{Q:VK}{E:XK}(r:hW H t d)(s:R d)(u:m<=1000)(k:∀H',DI R H0 p c l (m+1) H'->Q .non H'):k5 [.ref l,.ref t] H Q E:=by
 obtain⟨v,f,i,w,j,q,y⟩:=h.ds;refine⟨l,t,v,f,d,rfl,i,w,r,aE y u,fun g z=>k _ ⟨h.pen.upd h.pl h.cl,⟨g,mD f d,aa,z.kt (eW i),?_,?_,?_⟩,?_,h.fr,h.pl,h.cl⟩⟩
 ·unfold mD;split
  ·exact j
  ·next A =>
   rw[dk];refine⟨j,by simp,?_⟩;intro a B b C e;have:b=d:=by simpa using C
   subst this;exact A (e▸B)
 ·intro x hx;unfold mD at hx;split at hx
  ·exact q x hx
  ·rcases bL.mp hx with hx|hx
   ·exact q x hx
   ·have:x=d:=by simpa using hx
    rw[this];exact s
 ·unfold mD;split
  ·omega
  ·rw[a_];show f.length+1<=m+1;omega
 ·intro b o e n;rw[ai (ae e h.fr)];exact h.ex b o e n
end
theorem gV.ne_strs{H:Hp}{p c a:Addr}{g:Zb}(h:gV H p c)(f:H a=some (.lst (g.map V.str))):a≠p:=by
 intro e;obtain⟨x,y,j,i,_⟩:=h;rw[e,i]at f;injection f with f;injection f with f;cases g with
 |nil=>cases f
 |cons w g=>injection f with f;cases f
theorem jE{K:Za}{r:R2}(B:∀x y H Q,dW K x y H Q->r x y H Q){σ:L2.St}{H:Hp}{Q:VK}{p c a:Addr}{j:Nat}{e:Zb}(C:σ[0]?=some (some (.ref p)))(o:σ[j]?=some (some (.ref a)))(q:gV H p c)
  (g:H a=some (.lst (e.map V.str))) (h:e≠[]) (s:e.length<=1000) (k:∀w∈e,∀H',gV H' p c->bC p H H'->Q (.str w) H') :
  ∃v,σ[j]?=some (some v)/\∃t,σ[0]?=some (some t)/\∃u,σ[j]?=some (some u)/\ir K [u] H fun y D=>fx [t,y] D (fun y E=>r v y E Q) E0:=by
 have I:0<e.length:=by cases e with|nil=>exact absurd rfl h|cons _ _=>simp
 have G:(V.int ((e.map V.str).length:Nat))=V.int (e.length:Nat):=by rw[ah]
 have i:=q.ne_strs g;have l:∀(x:Int) (H':Hp),0<=x->x<(e.length:Int)->gV H' p c->bC p H H'->dW K (.ref a) (.int x) H' Q:=by
  intro x H' m z f ex;obtain⟨n,rfl⟩:=jT m;have A:n<e.length:=by omega
  exact⟨a,_,(n:Int),.str e[n],rfl,rfl,aw.of (ex _ _ g i),ca (by simp[A]),k _ (List.getElem_mem A) H' f ex⟩
 exact⟨_,o,_,C,_,o,.inl ⟨a,_,rfl,.inl (aw.of g),by rw[G];exact dR q (by omega) (by omega) fun x H' m z f ex=>B _ _ _ _ (l x H' m z f ex)⟩⟩
def Up(up:Bool)(J2:Zb)(a b:Str):Prop:=∃i j:Nat,J2[i]?=some a/\J2[j]?=some b/\(if up=true then i<j else j<i)
structure mP(J0 J1 J2:Zb)(up:Bool)(d:ak):Prop where
 a:d.a∈J2
 b:d.b∈J2
 sg:(∃w∈J0,d.sg=[("ask":Str),w])∨(∃w∈J1,d.sg=[("say":Str),w])∨(d.sg=[("still":Str)]/\Up up J2 d.a d.b)
def aF:List Str:=[("still":Str)]
structure BJ(J0 J1 J2:Zb)(d:ak):Prop where
 a:d.a∈J2
 b:d.b∈J2
 sg:(∃w∈J0,d.sg=[("ask":Str),w])∨(∃w∈J1,d.sg=[("say":Str),w])∨d.sg=aF
theorem mP.d{J0 e f:Zb}{up:Bool}{d:ak}(h:mP J0 e f up d):BJ J0 e f d:=⟨h.a,h.b,h.sg.imp id (Or.imp id And.left)⟩
inductive Reach(ds:List ak)(a:Str):Str->Prop
 |one {b:Str}(h:(⟨a,aF,b⟩:ak)∈ds):Reach ds a b
 |step {b c:Str}(r:Reach ds a b) (h:(⟨b,aF,c⟩:ak)∈ds):Reach ds a c
theorem tF{e:Zb}(n:e.Nodup){i j:Nat}{a:Str}(o:e[i]?=some a)(p:e[j]?=some a):i=j:=by
 obtain⟨f,g⟩:=bM.mp o;obtain⟨k,l⟩:=bM.mp p;have m:=List.pairwise_iff_getElem.mp n;rcases Nat.lt_trichotomy i j with h|h|h
 ·exact absurd (g.trans l.symm) (m i j f k h)
 ·exact h
 ·exact absurd (l.trans g.symm) (m j i k f h)
theorem Up.trans{up:Bool}{e:Zb}(g:e.Nodup){a b c:Str}(l:Up up e a b)(m:Up up e b c):Up up e a c:=by
 obtain⟨i,j,n,o,h⟩:=l;obtain⟨r,k,p,q,f⟩:=m;have:=tF g o p;subst this;refine⟨i,k,n,q,?_⟩;cases up
 ·simp at h f ⊢;omega
 ·simp at h f ⊢;omega
theorem Up.irr{up:Bool}{e:Zb}(f:e.Nodup){a:Str}(h:Up up e a a):False:=by
 obtain⟨i,j,g,k,h⟩:=h;have:=tF f g k;subst this;cases up
 ·simp at h
 ·simp at h
theorem Gq{j k g:Zb}{i:List ak}{up:Bool}(l:g.Nodup)(m:∀d∈i,mP j k g up d){a b:Str}(h:Reach i a b):Up up g a b:=by
 have f:∀{a b:Str},(⟨a,aF,b⟩:ak)∈i->Up up g a b:=by
  intro a b h;rcases(m _ h).sg with⟨w,_,e⟩|⟨w,_,e⟩|⟨_,e⟩
  ·cases e
  ·cases e
  ·exact e
 induction h with
 |one h=>exact f h
 |step r h n=>exact n.trans l (f h)
inductive ic (vs:List V)(H:Hp)(Q:VK)(E:XK):Prop
 |mk (p c l1 l2 l3:Addr) (J0 J1 J2:Zb) (full:Int):(vs=[.ref p,.ref l1,.ref l2,.ref l3,.int full])->(gV H p c)->(H l1=some (.lst (J0.map V.str)))->(H l2=some (.lst (J1.map V.str)))->(H l3=some (.lst (J2.map V.str)))->(J0.length<=4)->(J1≠[])->(J1.length<=4)->(J2≠[])->(J2.length<=26)->(0<=full)->(full<=2)->(∀(l:Addr) (ts:Ze) (ds:List ak) (up:Bool) (H':Hp),H l=none->H' l=some (.lst (ts.map V.ref))->cY H' ts ds->ds.Nodup->(∀d∈ds,mP J0 J1 J2 up d)->ds.length<=600->gV H' p c->bC p H H'->Q (.ref l) H')->ic  vs H Q E
theorem at4{x r:Int}(a:0<=x)(e:x<=2)(f:0<=r)(g:r<4):∃j:Int,xz [V.int x,.int 1,.int 1,.int 2] r=some (.int j)/\0<=j/\j<=2:=by
 have:r=0∨r=1∨r=2∨r=3:=by omega
 rcases this with rfl|rfl|rfl|rfl
 ·exact⟨x,rfl,a,e⟩
 ·exact⟨1,rfl,by decide,by decide⟩
 ·exact⟨1,rfl,by decide,by decide⟩
 ·exact⟨2,rfl,by decide,by decide⟩
theorem xo(a:Zb)(k:Nat):fS (a.map V.str) (some (k:Int)) none=(a.drop k).map V.str:=by
 unfold fS;rw[HT.sIx_none,HT.sIx_nat,ah,tU (by rw[dQ,ah];omega),xL];by_cases h:k<=a.length
 ·rw[qv h]
 ·rw[Nat.min_eq_right (by omega),qD (by simp),qD (by rw[ah];omega)]
theorem tI(a:Zb)(k:Nat):fS (a.map V.str) none (some (k:Int))=(a.take k).map V.str:=by
 unfold fS;rw[HT.sIx_none,HT.sIx_nat,ah,tZ,Nat.sub_zero,tS,List.take_eq_take_iff,ah];omega
theorem vg{K:Za}{H:Hp}{a:Addr}{e:Zb}(h:aw K H a (e.map V.str)):vE K H (.s (e.map gu)) (.ref a):=by
 unfold vE;exact⟨a,_,rfl,h,lA _⟩
theorem Jz{K:Za}{H:Hp}{a:Addr}(h:aw K H a []):vE K H (.s []) (.ref a):=by
 unfold vE;refine⟨a,_,rfl,h,?_⟩;unfold DIns
 rfl
inductive DdI(G:ak->Prop)(H:Hp)(p c l l1 l2 l3:Addr)(full dn:Int)(i:Nat)(σ:L2.St)(H':Hp):Prop
 |mk (a7 a8 a9 a10 a11 a12:Option V):σ=[some (.ref p),some (.ref l1),some (.ref l2),some (.ref l3),some (.int full),some (.ref l),some (.int dn),a7,a8,a9,a10,a11,a12]->DI G H p c l (11 * i) H'->DdI G H p c l l1 l2 l3 full dn i σ H'
theorem wk{K:Za}{vs:List V}{H:Hp}{Q:VK}{E:XK}(h:ic vs H Q E):qO K fx k5 (bj Q) (start rF vs) H:=by
 obtain⟨p,c,l1,l2,l3,J0,J1,J2,a,rfl,hp,h1,h2,h3,ha,b3,hs,a4,hr,f0,f2,k⟩:=h;have n1:=hp.ne_strs h1;have n2:=hp.ne_strs h2;have n3:=hp.ne_strs h3;refine⟨(by show 0<=aj;decide),fun l hl=>?_⟩;have a5:=hp.nep hl;have b4:=hp.nec hl;refine⟨_,rfl,dR (hp.ex (ab.new hl)) (by decide) (by decide) fun M H1 d0 d1 b5 a6=>?_⟩;generalize hG:mP J0 J1 J2 (decide (M=0))=G;have base:DI G H p c l 0 H1:=⟨b5,⟨[],[],a6 _ _ aa a5.symm,.nil,ub,by simp,dI _⟩,(bC.new hl).trans a6,hl,a5,b4⟩;refine⟨_,rfl,l3,rfl,⟨_,aw.of (base.ex _ _ h3 n3)⟩,?_⟩;refine mJ (xs:=J2.map V.str) (DdI G H p c l l1 l2 l3 a M)
  ⟨_,_,_,_,_,_,rfl,base⟩ (fun i σ H' _ ⟨_,_,_,_,_,_,_,D⟩=>aw.of (D.ex _ _ h3 n3)) ?_ ?_
 ·rintro i x σ H' t hi ⟨a7,a8,C,m,v,A,rfl,D⟩ ht;obtain⟨room,f,rfl⟩:∃room,J2[i]?=some room/\x=V.str room:=by
   rw[cF]at hi;cases q:J2[i]? with
   |none=>rw[q]at hi;cases hi
   |some r=>rw[q]at hi;exact⟨r,rfl,(fJ hi).symm⟩
  have c3:i<J2.length:=(bM.mp f).1;have N:room∈J2:=bT f;refine⟨t,_,rfl,bQ.of aa,rfl,_,_,rfl,_,_,rfl,rfl,?_⟩;have D1:=D.new ht (o:=.tup [.int i,.str room]);refine⟨(by show 4<=aj;decide),fun q hq=>⟨_,rfl,dR (D1.new hq).pen (by decide) (by decide) fun r H2 r0 r1 b6 bc=>?_⟩⟩;obtain⟨j,hj,j0,j2⟩:=at4 (x:=0) (by decide) (by decide) r0 r1;have D2:=(D1.new hq).took b6 bc;refine⟨q,_,_,_,rfl,rfl,aw.of (bc q _ aa (D1.pen.nep hq).symm),hj,j,rfl,by omega,by omega,?_⟩
  let b7:Nat->L2.St->Hp->Prop:=fun i' σ O=>Ij fun(C m:Option V)=>σ=[some (.ref p),some (.ref l1),some (.ref l2),some (.ref l3),some (.int a),some (.ref l),some (.int M),some (.int i),some (.str room),C,m,v,A]/\DI G H p c l (11 * i+i') O
  refine kF (lo:=0) (n:=j.toNat) b7
   ⟨_,_,rfl,D2⟩ ?_ ?_
  ·rintro i' σ H3 I ⟨C,m,rfl,D3⟩;refine jE (fun _ _ _ _ h=>h) rfl rfl D3.pen (D3.ex _ _ h2 n2) b3 (by omega) fun w hw H4 b8 cc=>?_;have D4:=D3.took b8 cc;refine⟨(by show 2<=aj;decide),fun L g=>?_⟩;have D5:=D4.new g (o:=.tup [.str "say",.str w]);refine⟨_,rfl,_,rfl,_,rfl,jE (fun _ _ _ _ h=>h) rfl rfl D5.pen (D5.ex _ _ h3 n3) a4 (by omega) fun U J H6 cd bd=>?_⟩;have D6:=D5.took cd bd;refine⟨(by show 3<=aj;decide),fun dr u=>?_⟩;have D7:=D6.new u (o:=.tup [.str room,.ref L,.str U]);have bi:H6 L=some (.tup [.str "say",.str w]):=bd _ _ aa (D4.pen.nep g).symm;refine D7.put (d:=⟨room,["say",w],U⟩) ⟨L,aa,kp bi u⟩ ?_ (by omega) fun H8 Y=>⟨_,_,rfl,Y⟩;rw[<-hG];exact⟨N,J,.inr (.inl ⟨w,hw,rfl⟩)⟩
  rintro σ H3 ⟨C,m,rfl,bl⟩;have D3:DI G H p c l (11 * i+2) H3:=bl.up (by omega);clear bl;refine⟨_,rfl,l1,rfl,⟨_,aw.of (D3.ex _ _ h1 n1)⟩,?_⟩
  let ce:Nat->L2.St->Hp->Prop:=fun i' σ O=>Ij fun(C v:Option V)=>σ=[some (.ref p),some (.ref l1),some (.ref l2),some (.ref l3),some (.int a),some (.ref l),some (.int M),some (.int i),some (.str room),C,m,v,A]/\DI G H p c l (11 * i+2+2 * i') O
  refine bO (xs:=J0.map V.str) ce
   ⟨_,_,rfl,D3⟩ (fun i σ H' _ ⟨_,_,_,D⟩=>aw.of (D.ex _ _ h1 n1)) ?_ ?_
  ·rintro i' x σ H4 I ⟨C,v,rfl,D4⟩;obtain⟨ask,an,rfl⟩:∃ask,J0[i']?=some ask/\x=V.str ask:=by
    rw[cF]at I;cases q:J0[i']? with
    |none=>rw[q]at I;cases I
    |some r=>rw[q]at I;exact⟨r,rfl,(fJ I).symm⟩
   have c4:i'<J0.length:=(bM.mp an).1;have cf:ask∈J0:=bT an;refine⟨_,rfl,(by show 4<=aj;decide),fun q hq=>⟨_,rfl,dR (D4.new hq).pen (by decide) (by decide) fun r H5 r0 r1 ch bm=>?_⟩⟩;obtain⟨j,hj,j0,j2⟩:=at4 f0 f2 r0 r1;have D5:=(D4.new hq).took ch bm;refine⟨q,_,_,_,rfl,rfl,aw.of (bm q _ aa (D4.pen.nep hq).symm),hj,j,rfl,by omega,by omega,?_⟩
   let cl:Nat->L2.St->Hp->Prop:=fun bn σ O=>∃C:Option V,σ=[some (.ref p),some (.ref l1),some (.ref l2),some (.ref l3),some (.int a),some (.ref l),some (.int M),some (.int i),some (.str room),C,m,some (.str ask),A]/\DI G H p c l (11 * i+2+2 * i'+bn) O
   refine kF (lo:=0) (n:=j.toNat) cl
    ⟨_,rfl,D5⟩ ?_ ?_
   ·rintro bn σ H6 c2 ⟨C,rfl,D6⟩;refine⟨_,rfl,_,rfl,_,rfl,(by show 2<=aj;decide),fun L g=>?_⟩;have D7:=D6.new g (o:=.tup [.str "ask",.str ask]);refine jE (fun _ _ _ _ h=>h) rfl rfl D7.pen (D7.ex _ _ h3 n3) a4 (by omega) fun U J H8 cm bu=>?_;have Y:=D7.took cm bu;refine⟨(by show 3<=aj;decide),fun dr u=>?_⟩;have D9:=Y.new u (o:=.tup [.str room,.ref L,.str U]);have bw:H8 L=some (.tup [.str "ask",.str ask]):=bu _ _ aa (D6.pen.nep g).symm;refine D9.put (d:=⟨room,["ask",ask],U⟩) ⟨L,aa,kp bw u⟩ ?_ (by omega) fun H8 Y=>⟨_,rfl,Y⟩;rw[<-hG];exact⟨N,J,.inl ⟨ask,cf,rfl⟩⟩
   ·rintro σ H6 ⟨C,rfl,D6⟩;exact⟨_,_,rfl,D6.up (by omega)⟩
  rintro σ H4 ⟨C,v,rfl,bz⟩;have D4:DI G H p c l (11 * i+10) H4:=bz.up (by rw[ah];omega);clear bz;have B:∀(H9:Hp) (A:Option V),DI G H p c l (11 * i+11) H9->DdI G H p c l l1 l2 l3 a M (i+1) [some (.ref p),some (.ref l1),some (.ref l2),some (.ref l3),some (.int a),some (.ref l),some (.int M),some (.int i),some (.str room),C,m,v,A] H9:=fun H9 A D9=>⟨_,_,_,_,_,_,rfl,D9.up (by omega)⟩;refine⟨_,rfl,_,rfl,_,_,rfl,rfl,_,rfl,l3,_,rfl,aw.of (D4.ex _ _ h3 n3),fun q1 co=>?_⟩;have D5:=D4.new co (o:=.lst (fS (J2.map V.str) (some ((i:Int)+1)) none));refine⟨_,rfl,_,rfl,_,rfl,l3,_,rfl,aw.of (D5.ex _ _ h3 n3),fun q2 bI=>?_⟩;have e1:fS (J2.map V.str) (some ((i:Int)+1)) none=(J2.drop (i+1)).map V.str:=xo J2 (i+1);rw[tI];have D6:=D5.new bI (o:=.lst ((J2.take i).map V.str));refine⟨(by show 2<=aj;decide),fun q3 as=>?_⟩;have D7:=D6.new as (o:=.lst [.ref q1,.ref q2]);obtain⟨lt,q,hq,al,T⟩:∃(lt:Zb) (q:Addr),xz [V.ref q1,.ref q2] M=some (.ref q) /\
    upd (upd (upd H4 q1 (.lst (fS (J2.map V.str) (some ((i:Int)+1)) none))) q2 (.lst ((J2.take i).map V.str))) q3 (.lst [.ref q1,.ref q2]) q=some (.lst (lt.map V.str))/\lt.length<=26 /\
    ∀w∈lt,w∈J2/\Up (decide (M=0)) J2 room w:=by
   have:M=0∨M=1:=by omega
   rcases this with rfl|rfl
   ·refine⟨J2.drop (i+1),q1,rfl,?_,by rw[dQ];omega,fun w hw=>⟨List.mem_of_mem_drop hw,?_⟩⟩
    ·refine(kp (kp aa bI) as).trans ?_;rw[e1]
    ·obtain⟨n,hn⟩:=gB hw;rw[List.getElem?_drop]at hn;exact⟨i,i+1+n,f,hn,by rw[if_pos (by decide)];omega⟩
   ·refine⟨J2.take i,q2,rfl,?_,by rw[aI];omega,fun w hw=>⟨gW hw,?_⟩⟩
    ·exact kp aa as
    ·obtain⟨n,hn⟩:=gB hw;have cp:n<i:=by
      have:=(bM.mp hn).1;rw[aI]at this;omega
     rw[List.getElem?_take_of_lt cp]at hn;exact⟨i,n,f,hn,by rw[if_neg (by decide)];omega⟩
  refine⟨_,rfl,q3,_,_,_,rfl,rfl,aw.of aa,hq,?_⟩;generalize upd (upd (upd H4 q1 (.lst (fS (J2.map V.str) (some ((i:Int)+1)) none))) q2 (.lst ((J2.take i).map V.str))) q3 (.lst [.ref q1,.ref q2])=H7 at D7 al ⊢;refine⟨_,rfl,(by show 0<=aj;decide),fun e he=>⟨.s (lt.map gu),.s [],vg (aw.of (kp al he)),Jz (aw.of aa),?_,by decide,_,rfl,?_⟩⟩
  ·show DT.depths (lt.map gu)+1<=8;rw[eX];decide
  have Y:=D7.new he (o:=.lst []);by_cases hz:lt=[]
  ·have ez:(!decide (DT.s (lt.map gu)=DT.s []))=false:=by rw[hz,zzr1 (by rfl)];rfl
   rw[ez];exact bA (bA (B _ _ (Y.up (by omega))))
  ·have ez:(!decide (DT.s (lt.map gu)=DT.s []))=true:=by
    rw[zzr0 (fun z=>hz (iA (y:=[]) (by injection z)))];rfl
   rw[ez];refine bP ?_;refine⟨_,rfl,dR Y.pen (by decide) (by decide) fun r H9 r0 r1 cs bS=>⟨rfl,_,rfl,?_⟩⟩;have D9:=Y.took cs bS;refine iS (fun _=>?_) (fun _=>B _ _ (D9.up (by omega)));refine⟨_,rfl,_,rfl,(by show 1<=aj;decide),fun L g=>?_⟩;have b1:=D9.new g (o:=.tup [.str "still"]);have aC:upd H9 L (.tup [.str "still"]) q=some (.lst (lt.map V.str)):=kp (bS _ _ (kp al he) (Y.pen.ne_strs (kp al he))) g;refine jE (fun _ _ _ _ h=>.inl h) rfl rfl b1.pen aC hz (by omega) fun U J ct b2 ap=>?_;have cv:=b1.took b2 ap;refine⟨(by show 3<=aj;decide),fun dr u=>?_⟩;have c0:=cv.new u (o:=.tup [.str room,.ref L,.str U]);have a0:ct L=some (.tup [.str "still"]):=ap _ _ aa (D9.pen.nep g).symm;refine c0.put (d:=⟨room,[("still":Str)],U⟩) ⟨L,aa,kp a0 u⟩ ?_ (by omega) fun c5 c1=>B _ _ c1;rw[<-hG];exact⟨N,(T.2 U J).1,.inr (.inr ⟨rfl,(T.2 U J).2⟩)⟩
 ·rintro σ H' ⟨a7,a8,C,m,v,A,rfl,D⟩;obtain⟨ts,ds,g1,g2,g3,g4,g5⟩:=D.ds;rw[ah]at g5;rw[<-hG]at g4;exact⟨_,rfl,k l ts ds _ H' hl g1 g2 g3 g4 (by omega) D.pen D.ex⟩
structure aP(J0 J1 J2:Zb)(ds:List ak):Prop where
 okA:lD J0
 okS:lD J1
 apart:∀w∈J1,w∉J0
 okR:lD J2
 asks0:J0≠[]
 says0:J1≠[]
 rooms0:J2≠[]
 asks4:J0.length<=4
 says4:J1.length<=4
 rooms26:J2.length<=150
 nodup:ds.Nodup
 good:∀d∈ds,BJ J0 J1 J2 d
 few:ds.length<=1000
 noround:∀r,¬Reach ds r r
structure gR(H:Hp)(t l1 l2 l3 l4:Addr)(ts:Ze)(J0 J1 J2:Zb)(ds:List ak):Prop where
 t:H t=some (.tup [.ref l1,.ref l2,.ref l3,.ref l4])
 a1:H l1=some (.lst (J0.map V.str))
 a2:H l2=some (.lst (J1.map V.str))
 a3:H l3=some (.lst (J2.map V.str))
 a4:H l4=some (.lst (ts.map V.ref))
 ds:cY H ts ds
theorem gV.ne_refs{H:Hp}{p c a:Addr}{g:Ze}(i:gV H p c)(f:H a=some (.lst (g.map V.ref))):a≠p:=by
 intro e;obtain⟨x,y,k,j,_⟩:=i;rw[e,j]at f;injection f with f;injection f with f;cases g with
 |nil=>cases f
 |cons w h =>
  injection f with _ f;cases h with
  |nil=>cases f
  |cons w h=>injection f with f;cases f
theorem gR.ex{H f:Hp}{p c t g i l3 j:Addr}{k:Ze}{l m n:Zb}{o:List ak}(h:gR H t g i l3 j k l m n o)(a:gV H p c)(e:bC p H f):gR f t g i l3 j k l m n o:=by
 obtain⟨r,q⟩:=a.lst;exact⟨e.kt q _ _ h.t,e _ _ h.a1 (a.ne_strs h.a1),e _ _ h.a2 (a.ne_strs h.a2),e _ _ h.a3 (a.ne_strs h.a3),e _ _ h.a4 (a.ne_refs h.a4),h.ds.kt (e.kt q)⟩
theorem gR.same{H a:Hp}{t f g l3 i:Addr}{j:Ze}{k l m:Zb}{n:List ak}(h:gR H t f g l3 i j k l m n)(e:ab H a):gR a t f g l3 i j k l m n :=
 ⟨e _ _ h.t,e _ _ h.a1,e _ _ h.a2,e _ _ h.a3,e _ _ h.a4,h.ds.kt (ab.kt e)⟩
inductive pB (vs:List V)(H:Hp)(Q:VK)(E:XK):Prop
 |mk (p c:Addr) (most full:Int):(vs=[.ref p,.int most,.int full])->(gV H p c)->(0<most)->(most<=25)->(0<=full)->(full<=2)->(∀(t l1 l2 l3 l4:Addr) (ts:Ze) (J0 J1 J2:Zb) (ds:List ak) (H':Hp),gR H' t l1 l2 l3 l4 ts J0 J1 J2 ds->aP J0 J1 J2 ds->J2.length<=most.toNat->ds.length<=600->gV H' p c->bC p H H'->Q (.ref t) H')->pB  vs H Q E
theorem at6{r:Int}(a:0<=r)(e:r<6):∃n:Nat,xz [V.int 0,.int 1,.int 1,.int 2,.int 2,.int 3] r=some (.int n)/\n<=3:=by
 have:r=0∨r=1∨r=2∨r=3∨r=4∨r=5:=by omega
 rcases this with rfl|rfl|rfl|rfl|rfl|rfl
 ·exact⟨0,rfl,by decide⟩
 ·exact⟨1,rfl,by decide⟩
 ·exact⟨1,rfl,by decide⟩
 ·exact⟨2,rfl,by decide⟩
 ·exact⟨2,rfl,by decide⟩
 ·exact⟨3,rfl,by decide⟩
theorem HX{a:Zb}(e:a.length=8){n:Nat}(j:n<=3):fS (a.map V.str) (some 4) (some (5+(n:Int)))=((a.drop 4).take (1+n)).map V.str:=by
 unfold fS;have f:HT.sIx (a.map V.str).length 0 (some 4)=min 4 (a.map V.str).length:=HT.sIx_nat _ _ 4;have g:HT.sIx (a.map V.str).length (a.map V.str).length (some (5+(n:Int)))=min (5+n) (a.map V.str).length:=HT.sIx_nat _ _ (5+n);rw[f,g,ah,e,tS,xL];have h:min 4 8=4:=by decide
 have i:min (5+n) 8-4=1+n:=by omega
 rw[h,i]
theorem GN{K:Za}{vs:List V}{H:Hp}{Q:VK}{E:XK}(h:pB vs H Q E):As K ic mv fx tw (bj Q) (start BE vs) H:=by
 obtain⟨p,c,b2,an,rfl,hp,m0,m1,f0,f2,k⟩:=h;refine⟨_,rfl,p,c,rfl,hp,fun H1 a7 a8=>?_⟩;refine⟨_,rfl,p,c,8,rfl,a7,by decide,fun lw a H2 ok A fr hl B a9=>?_⟩;have e2:=a8.trans a9;have nw:=B.ne_strs hl;refine⟨_,rfl,(by show 6<=aj;decide),fun q f=>⟨_,rfl,dR (B.ex (ab.new f)) (by decide) (by decide) fun r C r0 r1 bc D=>?_⟩⟩;obtain⟨n,hn,n3⟩:=at6 r0 r1;have ap:C lw=some (.lst (a.map V.str)):=D _ _ (kp hl f) nw;refine⟨q,_,_,_,rfl,rfl,aw.of (D _ _ aa (B.nep f).symm),hn,_,_,rfl,rfl,_,rfl,lw,_,rfl,aw.of ap,fun g G=>?_⟩;have ea:fS (a.map V.str) none (some (1+(n:Int)))=(a.take (1+n)).map V.str:=tI a (1+n);rw[ea];have e3:bC p H C:=e2.trans ((bC.new f).trans D);have i:gV (upd C g (.lst ((a.take (1+n)).map V.str))) p c:=bc.ex (ab.new G);have e4:bC p H (upd C g (.lst ((a.take (1+n)).map V.str))):=e3.trans (bC.new G);have as:upd C g (.lst ((a.take (1+n)).map V.str)) lw=some (.lst (a.map V.str)):=kp ap G;have I:upd C g (.lst ((a.take (1+n)).map V.str)) g=some (.lst ((a.take (1+n)).map V.str)):=aa;generalize upd C g (.lst ((a.take (1+n)).map V.str))=H4 at i e4 as I ⊢;refine⟨_,rfl,_,rfl,(by show 6<=aj;decide),fun q f=>⟨_,rfl,dR (i.ex (ab.new f)) (by decide) (by decide) fun r u r0 r1 bd j=>?_⟩⟩;obtain⟨m,hm,m3⟩:=at6 r0 r1;have bi:u lw=some (.lst (a.map V.str)):=j _ _ (kp as f) nw;have bl:u g=some (.lst ((a.take (1+n)).map V.str)):=j _ _ (kp I f) (i.ne_strs I);refine⟨q,_,_,_,rfl,rfl,aw.of (j _ _ aa (i.nep f).symm),hm,_,_,rfl,rfl,_,rfl,lw,_,rfl,aw.of bi,fun v J=>?_⟩;rw[HX A m3];have e5:bC p H u:=e4.trans ((bC.new f).trans j);have l:gV (upd u v (.lst (((a.drop 4).take (1+m)).map V.str))) p c:=bd.ex (ab.new J);have e6:bC p H (upd u v (.lst (((a.drop 4).take (1+m)).map V.str))):=e5.trans (bC.new J);have L:upd u v (.lst (((a.drop 4).take (1+m)).map V.str)) g=some (.lst ((a.take (1+n)).map V.str)):=kp bl J;have M:upd u v (.lst (((a.drop 4).take (1+m)).map V.str)) v=some (.lst (((a.drop 4).take (1+m)).map V.str)):=aa;generalize upd u v (.lst (((a.drop 4).take (1+m)).map V.str))=H6 at l e6 L M ⊢;refine⟨_,rfl,_,rfl,_,rfl,dR l m0 (by omega) fun r H7 r0 r1 N O=>?_⟩;obtain⟨rn,rfl⟩:=jT r0;have aC:=O _ _ L (l.ne_strs L);have a0:=O _ _ M (l.ne_strs M);refine⟨_,_,rfl,rfl,p,c,1+rn,rfl,N,by omega,fun l3 J2 H8 T x b3 e o U=>?_⟩;have Y:=U _ _ aC (N.ne_strs aC);have al:=U _ _ a0 (N.ne_strs a0);have a4:(a.drop 4).take (1+m)≠[]:=by
  intro z;have:=congrArg List.length z;rw[aI,dQ,A]at this;simp at this
 have bm:a.take (1+n)≠[]:=by
  intro z;have:=congrArg List.length z;rw[aI,A]at this;simp at this
 have a5:J2≠[]:=by
  intro z;rw[z]at x;simp at x;omega
 refine⟨_,rfl,_,rfl,_,rfl,_,rfl,_,rfl,p,c,g,v,l3,_,_,J2,an,rfl,o,Y,al,e,by rw[aI];omega,a4,by rw[aI];omega,a5,by omega,f0,f2,fun l4 ts ds up H9 b4 a6 bn bu y bw bz s=>?_⟩;have bI:=s _ _ Y (o.ne_strs Y);have bS:=s _ _ al (o.ne_strs al);have b1:=s _ _ e (o.ne_strs e);refine⟨_,rfl,_,rfl,_,rfl,_,rfl,(by show 4<=aj;decide),fun t ht=>k t g v l3 l4 ts _ _ J2 ds _ ⟨aa,kp bI ht,kp bS ht,kp b1 ht,kp a6 ht,bn.kt (ab.kt (ab.new ht))⟩ ?_ ?_ bw (bz.ex (ab.new ht)) ?_⟩
 ·refine⟨⟨?_,fun w h=>ok.2 w (gW h)⟩,⟨?_,fun w h=>ok.2 w (List.mem_of_mem_drop (gW h))⟩,?_,T,bm,a4,a5,by rw[aI];omega,by rw[aI];omega,by omega,bu,fun d hd=>(y d hd).d,by omega,fun r z=>(Gq T.1 y z).irr T.1⟩
  ·exact ok.1.sublist (List.take_sublist _ _)
  ·exact ok.1.sublist ((List.take_sublist _ _).trans (List.drop_sublist _ _))
  ·intro w h1 h2;have h3:w∈a.drop 4:=gW h1;have h4:w∈a.take 4:=by
    have:a.take (1+n)=(a.take 4).take (1+n):=by rw[List.take_take];congr 1;omega
    rw[this]at h2;exact gW h2
   have:=ok.1;rw[<-xJ 4 a,dk]at this;exact this.2.2 w h4 w h3 rfl
 ·omega
 ·exact(((e6.trans O).trans U).trans s).trans (bC.new ht)
theorem bH{a:Zb}{i:Nat}{x:V}(h:(a.map V.str)[i]?=some x):∃w,a[i]?=some w/\x=.str w:=by
 rw[cF]at h;cases q:a[i]? with
 |none=>rw[q]at h;cases h
 |some r=>rw[q]at h;exact⟨r,rfl,(fJ h).symm⟩
theorem take_snoc{α:Type}{a:List α}{i:Nat}{w:α}(h:a[i]?=some w):a.take (i+1)=a.take i++[w]:=by
 obtain⟨e,rfl⟩:=bM.mp h;rw[List.take_succ_eq_append_getElem e]
def pR(w:Str):Bool:=!decide (w=("":Str)) && (decide (w.length<=8) && w.cps.toList.all fun c=>decide (c∈("abcdefghijklmnopqrstuvwxyz":Str).cps.toList))
theorem rK.b{w:Str}(h:rK w):pR w=true:=by
 unfold pR;have a:¬(w=("":Str)):=fun e=>by
  have:=h.lo;rw[e]at this;exact absurd this (by decide +kernel)
 rw[zzr0 a,zzr1 h.hi,Bool.not_false,qr,qr,List.all_eq_true];intro c f;obtain⟨g,i⟩:=h.al c f;refine zzr1 ?_;have:=EG (c-97) (by omega);have e:97+(c-97)=c:=by omega
 rw[e]at this;exact bT this
inductive sp_is_name (vs:List V)(H:Hp)(Q:VK)(E:XK):Prop
 |mk (w:Str):(vs=[.str w])->(w.length<=1000)->(∀H',ab H H'->Q (.bl (pR w)) H')->sp_is_name  vs H Q E
theorem CC{K:Za}{a:List V}{H:Hp}{Q:VK}{E:XK}(h:sp_is_name a H Q E):EV K (bj Q) (start Ge a) H:=by
 obtain⟨w,rfl,s,k⟩:=h;refine⟨_,rfl,rfl,_,rfl,?_⟩;have t:(!decide (V.str w=V.str ("":Str)))=!decide (w=("":Str)):=by
  congr 1;by_cases e:w=("":Str)
  ·rw[zzr1 e,zzr1 (by rw[e])]
  ·rw[zzr0 e,zzr0 (fun z=>e (by injection z))]
 rw[t];refine iS (fun m=>?_) (fun m=>?_)
 ·refine⟨_,rfl,.inr ⟨w,rfl,cT (ao s),_,_,rfl,rfl,_,rfl,?_⟩⟩;refine iS (fun n=>?_) (fun n=>?_)
  ·refine⟨_,rfl,w,rfl,fun l r=>?_⟩
   let p:Nat->List V->Hp->Prop:=fun i a j=>a=((w.cps.toList.take i).map fun c=>V.bl (decide (c∈("abcdefghijklmnopqrstuvwxyz":Str).cps.toList)))/\ab H j/\j l=some (.lst a)
   refine HY p
    ⟨rfl,ab.new r,aa⟩ (fun i a j _ h=>h.2.2) ?_ ?_
   ·rintro a j ⟨rfl,q,f⟩;refine⟨l,w.cps.toList.map fun c=>decide (c∈("abcdefghijklmnopqrstuvwxyz":Str).cps.toList),rfl,aw.of ?_,?_⟩
    ·rw[f,i3];have:w.cps.toList.take w.cps.size=w.cps.toList:=by
      rw[tU];simp
     rw[this]
     rfl
    ·have:=k j q;have g:decide (w.length<=8)=true:=zzr1 (by have:=of_decide_eq_true n;omega);unfold pR at this;rw[m,g,qr,qr]at this;rw[List.all_map];exact this
   ·rintro i a j c u v ⟨rfl,q,f⟩;refine gN (pc ?_);refine⟨_,rfl,c,_,rfl,rfl,f,?_,mF v ⟨?_,?_,aa⟩⟩
    ·rw[ah,aI];have:w.length=w.cps.toList.length:=fW w;exact ao (by omega)
    ·rw[take_snoc (by rw[<-u];simp),av]
     rfl
    ·intro b o e;rw[ai (ae e r)];exact q b o e
  ·have:=k H (ab.refl H);have g:decide (w.length<=8)=false:=zzr0 (fun z=>n (zzr1 (by omega)));unfold pR at this;rw[m,g,qr,DG]at this;exact this
 ·have:=k H (ab.refl H);unfold pR at this;rw[Bool.eq_false_iff.mpr m,DG]at this;exact this
def aY(ws:Zb):List (fG×V):=ws.foldl (fun acc w=>dh acc (.inr w) (.bl true)) []
theorem dO(a:Zb)(w:Str):aY (a++[w])=dh (aY a) (.inr w) (.bl true):=by
 unfold aY;rw[xI]
 rfl
theorem AR{κ:Type}[DecidableEq κ](a:List (κ×V))(k:κ)(v:V):(dh a k v).length<=a.length+1:=by
 unfold dh;split
 ·rw[ah];omega
 ·rw[a_];exact aB _
theorem kj{α:Type}(P:List α->Prop)(f:P [])(g:∀a w,P a->P (a++[w]))(a:List α):P a:=by
 have:∀n (a:List α),a.length=n->P a:=by
  intro n
  induction n with
  |zero=>intro a h;rw[List.length_eq_zero_iff.mp h];exact f
  |succ n i =>
   intro a h;have e:a≠[]:=fun z=>by rw[z]at h;cases h
   rw[<-List.dropLast_concat_getLast e];exact g _ _ (i _ (by rw[List.length_dropLast,h];rfl))
 exact this _ a rfl
theorem ln(a:Zb):(aY a).length<=a.length:=by
 refine kj (fun a=>(aY a).length<=a.length) (aB _) (fun a w h=>?_) a;show(aY (a++[w])).length<=(a++[w]).length;rw[dO,a_];have:=AR (aY a) (.inr w) (.bl true);show _<=a.length+1;omega
theorem u3(a:Zb)(x:Str):bb (aY a) (.inr x)=if x∈a then some (.bl true)else none:=by
 refine kj (fun a=>bb (aY a) (.inr x)=if x∈a then some (.bl true)else none) rfl (fun a w h=>?_) a
 show bb (aY (a++[w])) (.inr x)=_;rw[dO,ik,h];by_cases e:x=w
 ·subst e;rw[if_pos rfl,if_pos (by simp)]
 ·have f:¬((Sum.inr x:fG)=.inr w):=fun z=>e (by injection z);rw[if_neg f];by_cases m:x∈a
  ·rw[if_pos m,if_pos (eg _ m)]
  ·rw[if_neg m,if_neg (fun z=>by rcases bL.mp z with z|z;exact m z;exact e (by simpa using z))]
theorem fC(a:Zb)(x:Str):(bb (aY a) (.inr x)).isSome=decide (x∈a):=by
 rw[u3];by_cases m:x∈a
 ·rw[if_pos m,zzr1 m];rfl
 ·rw[if_neg m,zzr0 m];rfl
inductive sp_as_keys(K:Za)(vs:List V)(H:Hp)(Q:VK)(E:XK):Prop
 |mk (l:Addr) (ws:Zb):(vs=[.ref l])->(aw K H l (ws.map V.str))->(ws.length<=1000)->(∀d,H d=none->Q (.ref d) (upd H d (.dK (aY ws))))->sp_as_keys K vs H Q E
theorem CD{K:Za}{o:List V}{H:Hp}{Q:VK}{E:XK}(h:sp_as_keys K o H Q E):EW K (bj Q) (start Gf o) H:=by
 obtain⟨l,j,rfl,q,t,k⟩:=h;refine fun d p=>?_;have a:∀f,aw K (upd H d (.dK f)) l (j.map V.str):=fun f=>(ab.new p).seq q;refine⟨_,rfl,l,rfl,⟨_,a _⟩,?_⟩
 let n:Nat->L2.St->Hp->Prop:=fun i σ m=>∃x,σ=[some (.ref l),some (.ref d),x]/\m=upd H d (.dK (aY (j.take i)))
 refine bO (xs:=j.map V.str) n ⟨_,rfl,rfl⟩ (fun i σ m _ ⟨_,_,e⟩=>by rw[e];exact a _) ?_ ?_
 ·rintro i x σ m r ⟨y,rfl,rfl⟩;obtain⟨w,s,rfl⟩:=bH r;have g:(aY (j.take i)).length<aj:=ao (aE (ln _) (by rw[aI];omega));refine⟨_,rfl,_,rfl,d,_,rfl,.inl ⟨_,.inr w,aa,rfl,g,rfl⟩,_,rfl,?_⟩;rw[tj,take_snoc s,dO]
 ·rintro σ m ⟨x,rfl,rfl⟩;rw[ah,be];exact⟨_,rfl,k d p⟩
def HJ(most:Nat):Nat->List Str->List Str->Option Nat
 |_,_,[]=>none
 |i,ahead,n::ns=>if i=most∨n∈ahead∨pR n=false then some i else HJ most (i+1) (ahead++[n]) ns
def cW(names:Zb)(most:Nat)(taken:Zb):Option Nat:=if names=[]then some 0 else HJ most 0 taken names
def oV:Option Nat->V
 |none=>.non
 |some i=>.int i
inductive sp_first_wrong_name(K:Za)(vs:List V)(H:Hp)(Q:VK)(E:XK):Prop
 |mk (l t:Addr) (names taken:Zb) (most:Nat):(vs=[.ref l,.int most,.ref t])->(aw K H l (names.map V.str))->(aw K H t (taken.map V.str))->(names.length+taken.length<=1000)->((∀w∈names,w.length<=1000))->(∀H',ab H H'->Q (oV (cW names most taken)) H')->sp_first_wrong_name K vs H Q E
theorem rC{K:Za}{H:Hp}{Q:VK}{E:XK}{l:Addr}{ws:Zb}(a:aw K H l (ws.map V.str))(e:ws.length<=1000)(k:∀d,H d=none->Q (.ref d) (upd H d (.dK (aY ws)))):sp_as_keys K [.ref l] H Q E:=by
 exact⟨l,ws,rfl,a,e,k⟩
theorem FE{H:Hp}{Q:VK}{E:XK}{w:Str}(e:w.length<=1000)(k:∀a,ab H a->Q (.bl (pR w)) a):sp_is_name [.str w] H Q E:=by
 exact⟨w,rfl,e,k⟩
theorem nG{K:Za}{N:List V}{H:Hp}{Q:VK}{E:XK}(h:sp_first_wrong_name K N H Q E):om K sp_is_name (sp_as_keys K) (bj Q) (start oQ N) H:=by
 obtain⟨l,t,names,taken,a,rfl,A,Y,hz,hw,k⟩:=h;refine⟨_,rfl,.inl ⟨l,_,rfl,.inl A,rfl,_,rfl,?_⟩⟩;by_cases B:names=[]
 ·subst B;refine bP ?_;have:=k H (ab.refl H);exact this
 have e0:decide (V.int ((names.map V.str).length:Nat)=V.int 0)=false:=zzr0 (fun z=>B (by
  injection z with z;rw[ah]at z;exact List.length_eq_zero_iff.mp (by omega)))
 rw[e0];refine bA ?_;have s:∀H',ab H H'->Q (oV (HJ a 0 taken names)) H':=by
  unfold cW at k;rw[if_neg B]at k;exact k
 refine⟨_,rfl,rC Y (by omega) fun d C=>?_⟩;refine⟨_,rfl,l,rfl,⟨_,(ab.new C).seq A⟩,?_⟩
 let D:Nat->L2.St->Hp->Prop:=fun i σ H'=>∃x y,σ=[some (.ref l),some (.int a),some (.ref t),some (.ref d),x,y]/\ab H H'/\H' d=some (.dK (aY (taken++names.take i)))/\HJ a i (taken++names.take i) (names.drop i)=HJ a 0 taken names
 refine mJ (xs:=names.map V.str) D
  ⟨_,_,rfl,ab.new C,by rw[xH,dJ];exact aa,by rw[xH,dJ,tZ]⟩ (fun i σ H' _ ⟨_,_,_,p,_⟩=>p.seq A) ?_ ?_
 ·rintro i x σ H' q hi ⟨x4,x5,rfl,p,G,j⟩ O;obtain⟨w,f,rfl⟩:=bH hi;have I:i<names.length:=(bM.mp f).1;have ed:names.drop i=w::names.drop (i+1):=by
   rw[jV I];congr 1;exact(bM.mp f).2
  rw[ed]at j;have m:upd H' q (.tup [.int i,.str w]) d=some (.dK (aY (taken++names.take i))):=kp G O;have g:ab H (upd H' q (.tup [.int i,.str w])):=p.trans (ab.new O);have J:w.length<=1000:=hw w (bT f);refine⟨q,_,rfl,bQ.of aa,rfl,_,_,rfl,_,_,rfl,rfl,?_⟩;generalize upd H' q (.tup [.int i,.str w])=T at m g ⊢;refine⟨_,rfl,_,rfl,rfl,_,rfl,?_⟩;by_cases u:i=a
  ·have L:decide (V.int (i:Nat)=V.int (a:Nat))=true:=zzr1 (by rw[u]);rw[L];refine bP (bP ?_);refine⟨_,rfl,?_⟩;have:=s T g;rw[<-j]at this;unfold HJ at this;rw[if_pos (.inl u)]at this;exact this
  have L:decide (V.int (i:Nat)=V.int (a:Nat))=false:=zzr0 (fun z=>u (by injection z with z;omega));rw[L];refine bA ?_;refine⟨_,rfl,_,rfl,d,_,rfl,.inl ⟨_,.inr w,.inl m,rfl,rfl⟩,_,rfl,?_⟩;rw[fC];by_cases v:w∈taken++names.take i
  ·rw[zzr1 v];refine bP (bP ?_);refine⟨_,rfl,?_⟩;have:=s T g;rw[<-j]at this;unfold HJ at this;rw[if_pos (.inr (.inl v))]at this;exact this
  rw[zzr0 v];refine bA ?_;refine⟨_,rfl,FE J fun H3 n=>⟨_,rfl,?_⟩⟩;have M:=n _ _ m;cases U:pR w with
  |false =>
   refine bP ?_;refine⟨_,rfl,?_⟩;have:=s H3 (g.trans n);rw[<-j]at this;unfold HJ at this;rw[if_pos (.inr (.inr U))]at this;exact this
  |true =>
   refine bA ?_;have r:(aY (taken++names.take i)).length<aj:=ao (aE (ln _) (by rw[a_,aI];omega));refine⟨_,rfl,_,rfl,d,_,rfl,.inl ⟨_,.inr w,M,rfl,r,rfl⟩,_,_,rfl,?_,?_,?_⟩
   ·intro b o e;rw[ai (ae e C)];exact n _ _ (g _ _ e)
   ·rw[aa,take_snoc f,<-eQ,dO]
   ·rw[<-j,take_snoc f,<-eQ]
    conv=>rhs;unfold HJ
    rw[if_neg];rintro(z|z|z)
    ·exact u z
    ·exact v z
    ·rw[U]at z;cases z
 ·rintro σ H' ⟨x,y,rfl,p,_,j⟩;rw[ah,mf]at j;have:=s H' p;rw[<-j]at this;exact this
theorem Bf{a:Nat}:∀(e ahead:Zb) (i:Nat),i+e.length<=a->(ahead++e).Nodup->(∀w∈e,rK w)->HJ a i ahead e=none
 |[],_,_,_,_,_=>rfl
 |n::e,ahead,i,h,f,g=>by
  rw[fO]at h;unfold HJ;rw[if_neg]
  ·refine Bf e (ahead++[n]) (i+1) (by omega) (by rw[eQ];exact f) fun w j=>g w (c7 _ j)
  ·rintro(z|z|z)
   ·omega
   ·rw[dk]at f;exact f.2.2 n z n (cU) rfl
   ·rw[(g n cU).b]at z;cases z
theorem iJ{a:Nat}{e taken:Zb}(f:e≠[])(i:e.length<=a)(g:(taken++e).Nodup)(h:∀w∈e,rK w):cW e a taken=none:=by
 unfold cW;rw[if_neg f];exact Bf e taken 0 (by omega) g h
theorem g8{n:Nat}(h:n<=9000):n<aj:=qE h (by decide)
def pH(x:Str):TK:=.k (some (.inr x))
def eO(sg:Zb):TK:=.t (sg.map pH)
def EB(d:ak):TK:=.t [pH d.a,eO d.sg,pH d.b]
theorem tD{x y:Str}(h:pH x=pH y):x=y:=by
 unfold pH at h;injection h with h;injection h with h;injection h
theorem se:∀{x y:Zb},x.map pH=y.map pH->x=y
 |[],[],_=>rfl
 |[],_::_,h=>by cases h
 |_::_,[],h=>by cases h
 |a::x,b::y,h=>by
  rw[bF,bF]at h;injection h with e f;rw[tD e,se f]
theorem eK{x y:Zb}(h:eO x=eO y):x=y:=by
 unfold eO at h;injection h with h;exact se h
theorem Jy{x y:ak}(h:EB x=EB y):x=y:=by
 unfold EB at h;injection h with h;injection h with a h;injection h with e h;injection h with f h;cases x;cases y;simp only at *;rw[tD a,eK e,tD f]
theorem BU(a:Zb):TK.depths (a.map pH)=0:=by
 induction a with
 |nil=>rfl
 |cons x a e=>rw[bF];show max (TK.depth (pH x)) (TK.depths _)=0;rw[e];rfl
theorem fk(a:Zb):(eO a).depth=1:=by
 show TK.depths (a.map pH)+1=1;rw[BU]
theorem wK(d:ak):(EB d).depth=2:=by
 show max (TK.depth (pH d.a)) (max (TK.depth (eO d.sg)) (max (TK.depth (pH d.b)) 0))+1=2;rw[fk]
 rfl
theorem DU{H:Hp}:∀a:List Str,TKAts H (a.map pH) (a.map V.str)
 |[]=>by show TKAts H [] [];unfold TKAts;rfl
 |x::a=>by
  rw[bF,bF];unfold TKAts;refine⟨_,_,rfl,?_,DU a⟩;unfold pH cS
  rfl
theorem yv{H:Hp}(x:Str):cS H (pH x) (.str x):=by unfold pH cS;rfl
theorem SignAt.tk{H:Hp}{s:Addr}{a:Zb}(h:SignAt H s a):cS H (eO a) (.ref s):=by
 unfold eO cS;exact⟨s,_,rfl,h,DU _⟩
theorem hW.tk{H:Hp}{t:Addr}{d:ak}(h:hW H t d):cS H (EB d) (.ref t):=by
 obtain⟨s,a,e⟩:=h;unfold EB cS;refine⟨t,_,rfl,a,?_⟩;unfold TKAts;refine⟨_,_,rfl,yv _,?_⟩;unfold TKAts;refine⟨_,_,rfl,SignAt.tk e,?_⟩;unfold TKAts;refine⟨_,_,rfl,yv _,?_⟩;unfold TKAts
 rfl
section
variable{κ:Type}[DecidableEq κ]
def lW(ks:List κ):List (κ×V):=ks.foldl (fun acc k=>dh acc k (.bl true)) []
theorem oJ(a:List κ)(w:κ):lW (a++[w])=dh (lW a) w (.bl true):=by
 unfold lW;rw[xI]
 rfl
theorem FC(a:List κ):(lW a).length<=a.length:=by
 refine kj (fun a=>(lW a).length<=a.length) (aB _) (fun a w h=>?_) a;show(lW (a++[w])).length<=(a++[w]).length;rw[oJ,a_];have:=AR (lW a) w (.bl true);show _<=a.length+1;omega
theorem HB(a:List κ)(x:κ):(bb (lW a) x).isSome=decide (x∈a):=by
 refine kj (fun a=>(bb (lW a) x).isSome=decide (x∈a)) rfl (fun a w h=>?_) a;show(bb (lW (a++[w])) x).isSome=_;rw[oJ,ik];by_cases e:x=w
 ·subst e;rw[if_pos rfl,zzr1 (by simp)]
  rfl
 ·rw[if_neg e,h];by_cases m:x∈a
  ·rw[zzr1 m,zzr1 (eg _ m)]
  ·rw[zzr0 m,zzr0 (fun z=>by rcases bL.mp z with z|z;exact m z;exact e (by simpa using z))]
end
theorem Ep{d:ak}{a:List ak}:EB d∈a.map EB↔d∈a:=by
 constructor
 ·intro h;obtain⟨x,f,e⟩:=aQ.mp h;rw[<-Jy e];exact f
 ·exact nW
def oO(K:Za)(H:Hp)(v:V)(sg:Zb):Prop:=∃s,v=.ref s/\bQ K H s (sg.map V.str)
theorem ab.sqT{K:Za}{H f:Hp}{a:Addr}{g:List V}(e:ab H f)(h:bQ K H a g):bQ K f a g:=by
 rcases h with(h|⟨o,h⟩)|h
 ·exact .inl (.inl (e _ _ h))
 ·exact .inl (.inr ⟨o,e _ _ h⟩)
 ·exact .inr h
theorem Signs.same{K:Za}{H f:Hp}(e:ab H f){xs:List V}{a:List (List Str)}(h:Paired (oO K H) xs a):Paired (oO K f) xs a :=
 Paired.mapP h fun _ _ ⟨s,g,i⟩=>⟨s,g,ab.sqT e i⟩
def iB(sg:Zb):DT:=.t (sg.map gu)
theorem Ev{x y:Zb}(h:iB x=iB y):x=y:=by
 unfold iB at h;injection h with h;exact iA h
theorem bJ(a:Zb):(iB a).depth=1:=by
 show DT.depths (a.map gu)+1=1;rw[eX]
theorem FK(a:List (List Str)):DT.depths (a.map iB)<=8:=by
 induction a with
 |nil=>exact dI _
 |cons x e f=>rw[bF];show max (DT.depth (iB x)) (DT.depths _)<=8;rw[bJ];omega
theorem Signs.dIns{K:Za}{H:Hp}:∀{f:List V}{a:List (List Str)},Paired (oO K H) f a->DIns K H (a.map iB) f
 |_,_,.nil=>by show DIns K H [] [];unfold DIns;rfl
 |_,_,.cons ⟨s,e,r⟩ t=>by
  rw[bF];unfold DIns;refine⟨_,_,rfl,?_,Signs.dIns t⟩;rw[e];exact aZ r
theorem Eo{d:Zb}{a:List (List Str)}:iB d∈a.map iB↔d∈a:=by
 constructor
 ·intro h;obtain⟨x,f,e⟩:=aQ.mp h;rw[<-Ev e];exact f
 ·exact nW
theorem Paired.app{α β:Type}{R:α->β->Prop}:∀{a:List α}{b:List β}{c:List α}{d:List β},Paired R a b->Paired R c d->Paired R (a++c) (b++d)
 |_,_,_,_,.nil,h=>h
 |_,_,_,_,.cons r t,h=>.cons r (Paired.app t h)
def b0(w:Str):List Str:=[("ask":Str),w]
def gG(w:Str):List Str:=[("say":Str),w]
def kG(J0 J1:Zb):List (List Str):=J0.map b0++J1.map gG++[aF]
theorem uD{K:Za}{h:Str}{σ:L2.St}{H:Hp}{a l:Addr}{j:Zb}{Q:Hp->Prop}(B:H a=some (.lst (j.map V.str)))(A:H l=none)(L:j.length<=1000)
  (k:∀(xs:List V) (f:Hp),Paired (oO K f) xs (j.map fun w=>[h,w])->ab H f->f l=some (.lst xs)->Q f) :
  em 1 [] σ (Io K a) U0 iH (bf (aX (tC (.str h)) V0)) H l Q:=by
 let r:Nat->List V->Hp->Prop:=fun i g f=>Paired (oO K f) g ((j.take i).map fun w=>[h,w])/\ab H f/\f l=some (.lst g)
 refine bX (xs:=j.map V.str) r
  ⟨.nil,ab.new A,aa⟩ (fun i g f _ ⟨_,C,D⟩=>⟨D,aw.of (C _ _ B)⟩) ?_ ?_
 ·rintro g f ⟨m,u,n⟩;rw[ah,be]at m;exact k g f m u n
 ·rintro i g f x E G ⟨m,u,n⟩;obtain⟨w,I,rfl⟩:=bH E;refine gN (pc ?_);refine⟨_,rfl,(by show 2<=aj;decide),fun t p=>⟨kp n p,?_,mF G ⟨?_,?_,aa⟩⟩⟩
  ·rw[Paired.length m,ah,aI];exact ao (by omega)
  ·rw[take_snoc I,av];have q:gv (upd f t (.tup [.str h,.str w])) (upd (upd f t (.tup [.str h,.str w])) l (.lst (g++[.ref t]))):=eW (kp n p);have y:gv f (upd (upd f t (.tup [.str h,.str w])) l (.lst (g++[.ref t]))):=(ab.kt (ab.new p)).trans q;refine Paired.app (Paired.mapP m fun v M ⟨s,J,e2⟩=>⟨s,J,?_⟩) (.cons ⟨t,rfl,bQ.of (q _ _ aa)⟩ .nil);rcases e2 with(e2|⟨o,e2⟩)|e2
   ·exact .inl (.inl (y _ _ e2))
   ·refine .inl (.inr ⟨o,?_⟩);rw[ai (fun z=>by rw[z,n]at e2;cases e2)];exact kp e2 p
   ·exact .inr e2
  ·intro b o e;rw[ai (ae e A)];exact kp (u _ _ e) p
inductive sp_door_signs(K:Za)(vs:List V)(H:Hp)(Q:VK)(E:XK):Prop
 |mk (l1 l2:Addr) (J0 J1:Zb):(vs=[.ref l1,.ref l2])->(H l1=some (.lst (J0.map V.str)))->(H l2=some (.lst (J1.map V.str)))->(J0.length<=100)->(J1.length<=100)->(∀(l:Addr) (xs:List V) (H':Hp),Paired (oO K H') xs (kG J0 J1)->ab H H'->H' l=some (.lst xs)->Q (.ref l) H')->sp_door_signs K vs H Q E
theorem wl{K:Za}{st:Addr}(i:∀H,bQ K H st (aF.map V.str)){n:List V}{H:Hp}{Q:VK}{E:XK}(h:sp_door_signs K n H Q E):yJ K st (bj Q) (start z_ n) H:=by
 obtain⟨y,z,J,L,rfl,o,p,A,B,k⟩:=h;refine⟨_,rfl,y,rfl,⟨_,aw.of o⟩,fun a C=>?_⟩;refine uD o C (by omega) fun f M q j D=>?_;refine⟨_,rfl,z,rfl,⟨_,aw.of (j _ _ p)⟩,fun b G=>?_⟩;refine uD (j _ _ p) G (by omega) fun g r s l I=>?_;have t:f.length<=100:=by rw[Paired.length q,ah];exact A
 have u:g.length<=100:=by rw[Paired.length s,ah];exact B
 refine⟨a,b,f,g,rfl,rfl,l _ _ D,I,cT (ao (by omega)),fun c v=>?_⟩;refine⟨(by show 1<=aj;decide),fun d m=>?_⟩;refine⟨c,d,_,_,rfl,rfl,kp aa m,aa,?_,fun e w=>k e _ _ ?_ ?_ aa⟩
 ·rw[a_];show _+1<=aj;exact cT (ao (by omega))
 ·have x:ab r (upd (upd (upd r c (.lst (f++g))) d (.lst [.ref st])) e (.lst (f++g++[.ref st]))):=((ab.new v).trans (ab.new m)).trans (ab.new w);exact Paired.app (Paired.app (Signs.same (l.trans x) q) (Signs.same x s)) (.cons ⟨st,rfl,i _⟩ .nil)
 ·exact(((j.trans l).trans (ab.new v)).trans (ab.new m)).trans (ab.new w)
def Jt(J2:Zb)(sgs:List (List Str)):Nat->List ak->List ak->Option Nat
 |_,_,[]=>none
 |i,ahead,d::ds=>if i=2000∨d∈ahead∨d.a∉J2∨d.sg∉sgs∨d.b∉J2 then some i else Jt J2 sgs (i+1) (ahead++[d]) ds
inductive sp_first_wrong_door(K:Za)(vs:List V)(H:Hp)(Q:VK)(E:XK):Prop
 |mk (l l3 sl:Addr) (ts:Ze) (ds:List ak) (J2:Zb) (xs:List V) (sgs:List (List Str)):(vs=[.ref l,.ref l3,.ref sl])->(H l=some (.lst (ts.map V.ref)))->(cY H ts ds)->(H l3=some (.lst (J2.map V.str)))->(J2.length<=1000)->(H sl=some (.lst xs))->(Paired (oO K H) xs sgs)->(ds.length<=9000)->(∀H',ab H H'->Q (oV (Jt J2 sgs 0 [] ds)) H')->sp_first_wrong_door K vs H Q E
theorem bY{a:Ze}{i:Nat}{x:V}(h:(a.map V.ref)[i]?=some x):∃w,a[i]?=some w/\x=.ref w:=by
 rw[cF]at h;cases q:a[i]? with
 |none=>rw[q]at h;cases h
 |some r=>rw[q]at h;exact⟨r,rfl,(fJ h).symm⟩
theorem nH{K:Za}{vs:List V}{H:Hp}{Q:VK}{E:XK}(h:sp_first_wrong_door K vs H Q E):on K (sp_as_keys K) (bj Q) (start oR vs) H:=by
 obtain⟨l,l3,sl,ts,p,w,xs,m,rfl,hl,B,h3,hr,Y,al,hz,k⟩:=h;refine⟨_,rfl,rC (aw.of h3) hr fun d hd=>?_⟩;refine fun e he=>?_;have C:ab H (upd (upd H d (.dK (aY w))) e (.dT [])):=(ab.new hd).trans (ab.new he);have an:H e=none:=(ab.new hd).free he;refine⟨_,rfl,l,rfl,⟨_,aw.of (C _ _ hl)⟩,?_⟩
 let ap:Nat->L2.St->Hp->Prop:=fun i σ H'=>∃x y,σ=[some (.ref l),some (.ref l3),some (.ref sl),some (.ref d),some (.ref e),x,y]/\ab H H'/\H' d=some (.dK (aY w))/\H' e=some (.dT (lW ((p.take i).map EB)))/\Jt w m i (p.take i) (p.drop i)=Jt w m 0 [] p
 refine mJ (xs:=ts.map V.ref) ap
  ⟨_,_,rfl,C,kp aa he,aa,rfl⟩ (fun i σ H' _ ⟨_,_,_,D,_⟩=>aw.of (D _ _ hl)) ?_ ?_
 ·rintro i x σ H' q hi ⟨x5,x6,rfl,D,as,aC,G⟩ hq;obtain⟨t,ht,rfl⟩:=bY hi;obtain⟨f,r,a0⟩:=Paired.getL B ht;have a4:i<p.length:=(bM.mp r).1;have ed:p.drop i=f::p.drop (i+1):=by
   rw[jV a4];congr 1;exact(bM.mp r).2
  rw[ed]at G;have g:ab H (upd H' q (.tup [.int i,.ref t])):=D.trans (ab.new hq);have j:upd H' q (.tup [.int i,.ref t]) d=_:=kp as hq;have u:upd H' q (.tup [.int i,.ref t]) e=_:=kp aC hq;refine⟨q,_,rfl,bQ.of aa,rfl,_,_,rfl,_,_,rfl,rfl,?_⟩;generalize upd H' q (.tup [.int i,.ref t])=H2 at j u g ⊢;have A:=a0.kt (ab.kt g);have a5:nJ K H2 (EB f) (.ref t):=cS.isIn 8 (by rw[wK];decide) A.tk;have I:(EB f).depth<=8:=by rw[wK];decide
  obtain⟨s,v,J⟩:=A;have n:(i=2000∨f∈p.take i∨f.a∉w∨f.sg∉m∨f.b∉w)->Q (.int i) H2:=by
   intro c;have:=k H2 g;rw[<-G]at this;unfold Jt at this;rw[if_pos c]at this;exact this
  refine⟨_,rfl,rfl,_,rfl,?_⟩;by_cases M:i=2000
  ·have e1:decide (V.int (i:Nat)=V.int 2000)=true:=zzr1 (by rw[M];rfl);rw[e1];exact bP (bP ⟨_,rfl,n (.inl M)⟩)
  have e1:decide (V.int (i:Nat)=V.int 2000)=false:=zzr0 (fun z=>M (by injection z with z;omega));rw[e1];refine bA ?_;refine⟨_,rfl,_,rfl,e,_,rfl,.inr ⟨_,EB f,t,.inl u,rfl,a5,I,rfl⟩,_,rfl,?_⟩;rw[HB];by_cases N:f∈p.take i
  ·rw[zzr1 (Ep.mpr N)];exact bP ⟨_,rfl,n (.inr (.inl N))⟩
  rw[zzr0 (fun z=>N (Ep.mp z))];refine bA ?_;refine⟨_,rfl,.inr (.inl ⟨t,_,0,_,rfl,rfl,bQ.of v,rfl,_,rfl,d,_,rfl,.inl ⟨_,.inr f.a,.inl j,rfl,rfl⟩,_,rfl,?_⟩)⟩;rw[fC];by_cases O:f.a∈w;rotate_left
  ·rw[zzr0 O];exact bP (bP ⟨_,rfl,n (.inr (.inr (.inl O)))⟩)
  rw[zzr1 O];refine bA ?_;refine⟨_,rfl,.inr (.inl ⟨t,_,1,_,rfl,rfl,bQ.of v,rfl,_,rfl,iB f.sg,m.map iB,sl,xs,aZ (bQ.of J),rfl,.inl (aw.of (g _ _ Y)),Signs.dIns (Signs.same g al),by rw[bJ];decide,FK _,_,rfl,?_⟩)⟩;rw[if_pos rfl];by_cases T:f.sg∈m;rotate_left
  ·rw[zzr0 (fun z=>T (Eo.mp z))];exact bP (bP ⟨_,rfl,n (.inr (.inr (.inr (.inl T))))⟩)
  rw[zzr1 (Eo.mpr T)];refine bA ?_;refine⟨_,rfl,.inr (.inl ⟨t,_,2,_,rfl,rfl,bQ.of v,rfl,_,rfl,d,_,rfl,.inl ⟨_,.inr f.b,.inl j,rfl,rfl⟩,_,rfl,?_⟩)⟩;rw[fC];by_cases U:f.b∈w;rotate_left
  ·rw[zzr0 U];exact bP ⟨_,rfl,n (.inr (.inr (.inr (.inr U))))⟩
  rw[zzr1 U];refine bA ?_;have L:(lW ((p.take i).map EB)).length<aj:=g8 (aE (FC _) (by rw[ah,aI];omega));refine⟨_,rfl,_,rfl,e,_,rfl,.inr ⟨_,EB f,t,u,rfl,hW.tk ⟨s,v,J⟩,I,L,rfl⟩,_,_,rfl,?_,?_,?_,?_⟩
  ·intro b o q;rw[ai (ae q an)];exact g _ _ q
  ·rw[ai (fun z=>by rw[z,u]at j;cases j)];exact j
  ·rw[aa,take_snoc r,av];exact congrArg (fun z=>some (HO.dT z)) (oJ _ _).symm
  ·rw[<-G,take_snoc r]
   conv=>rhs;unfold Jt
   rw[if_neg];rintro(z|z|z|z|z)
   ·exact M z
   ·exact N z
   ·exact z O
   ·exact z T
   ·exact z U
 ·rintro σ H' ⟨x,y,rfl,D,_,_,G⟩;have:=k H' D;rw[<-G,ah,Paired.length B,mf]at this;exact this
theorem Bg{g:Zb}{e:List (List Str)}:∀(f ahead:List ak) (i:Nat),i+f.length<=2000->(ahead++f).Nodup->(∀d∈f,d.a∈g/\d.sg∈e/\d.b∈g)->Jt g e i ahead f=none
 |[],_,_,_,_,_=>rfl
 |n::k,ahead,i,l,h,j=>by
  rw[fO]at l;unfold Jt;rw[if_neg]
  ·refine Bg k (ahead++[n]) (i+1) (by omega) (by rw[eQ];exact h) fun w m=>j w (c7 _ m)
  ·have:=j n cU;rintro(z|z|z|z|z)
   ·omega
   ·rw[dk]at h;exact h.2.2 n z n (cU) rfl
   ·exact z this.1
   ·exact z this.2.1
   ·exact z this.2.2
inductive sp_need_none (vs:List V)(H:Hp)(Q:VK)(E:XK):Prop
 |mk (x:V):(vs=[x,.non])->(Q .non H)->sp_need_none  vs H Q E
theorem y_{K:Za}{a:List V}{H:Hp}{Q:VK}{E:XK}(h:sp_need_none a H Q E):Ao K (bj Q) (start Bz a) H:=by
 obtain⟨x,rfl,k⟩:=h;refine⟨_,rfl,_,rfl,?_⟩;have e:(!decide (V.non=V.non))=false:=by rw[zzr1 rfl];rfl
 rw[e];exact bA k
structure Lists(H:Hp)(l1 l2 l3 l4:Addr)(ts:Ze)(J0 J1 J2:Zb)(ds:List ak):Prop where
 a1:H l1=some (.lst (J0.map V.str))
 a2:H l2=some (.lst (J1.map V.str))
 a3:H l3=some (.lst (J2.map V.str))
 a4:H l4=some (.lst (ts.map V.ref))
 ds:cY H ts ds
theorem Lists.same{H a:Hp}{f g l3 i:Addr}{j:Ze}{k l m:Zb}{n:List ak}(h:Lists H f g l3 i j k l m n)(e:ab H a):Lists a f g l3 i j k l m n :=
 ⟨e _ _ h.a1,e _ _ h.a2,e _ _ h.a3,e _ _ h.a4,h.ds.kt (ab.kt e)⟩
inductive sp_need_parts (vs:List V)(H:Hp)(Q:VK)(E:XK):Prop
 |mk (l1 l2 l3 l4:Addr) (ts:Ze) (J0 J1 J2:Zb) (ds:List ak):(vs=[.ref l1,.ref l2,.ref l3,.ref l4])->(Lists H l1 l2 l3 l4 ts J0 J1 J2 ds)->(aP J0 J1 J2 ds)->(∀H',ab H H'->Q .non H')->sp_need_parts  vs H Q E
theorem aP.signs{J0 i f:Zb}{j:List ak}(m:aP J0 i f j):∀d∈j,d.a∈f/\d.sg∈kG J0 i/\d.b∈f:=by
 intro d k;have g:=m.good d k;refine⟨g.a,?_,g.b⟩;unfold kG;rcases g.sg with⟨w,h,e⟩|⟨w,h,e⟩|e
 ·rw[e];exact eg _ (eg _ (aQ.mpr ⟨w,h,rfl⟩))
 ·rw[e];exact eg _ (eP _ (aQ.mpr ⟨w,h,rfl⟩))
 ·rw[e];exact eP _ (by simp[aF])
theorem rg{a:Zb}(h:lD a):∀w∈a,w.length<=1000:=fun w e=>aE (h.2 w e).hi (by decide)
theorem we{K:Za}{s:List V}{H:Hp}{Q:VK}{E:XK}(h:sp_need_parts s H Q E):yB K sp_need_none (sp_first_wrong_door K) (sp_door_signs K) (sp_first_wrong_name K) (bj Q) (start zX s) H:=by
 obtain⟨l,t,u,x,y,f,g,j,n,rfl,L,m,k⟩:=h;have z:cW f 4 []=none:=iJ m.asks0 m.asks4 m.okA.1 m.okA.2;have A:cW g 4 f=none:=iJ m.says0 m.says4 (by
  rw[dk];exact⟨m.okA.1,m.okS.1,fun a B b C e=>m.apart b C (e▸B)⟩) m.okS.2
 have D:cW j 150 []=none:=iJ m.rooms0 (by have:=m.rooms26;omega) m.okR.1 m.okR.2;have G:Jt j (kG f g) 0 [] n=none:=Bg n [] 0 (by have:=m.few;omega) m.nodup m.signs;have z1:=m.asks4;have z2:=m.says4;have z3:=m.rooms26;have z4:=m.few;refine⟨_,rfl,(by show 0<=aj;decide),fun e i=>⟨l,e,f,[],4,rfl,aw.of (kp L.a1 i),aw.of aa,by simp;omega,rg m.okA,fun H1 I=>?_⟩⟩;rw[z];refine⟨_,rfl,?_⟩;have o:=(ab.new i).trans I;refine⟨_,rfl,_,rfl,t,l,g,f,4,rfl,aw.of (o _ _ L.a2),aw.of (o _ _ L.a1),by omega,rg m.okS,fun H2 J=>?_⟩;rw[A];refine⟨_,rfl,?_⟩;have v:=o.trans J;refine⟨_,rfl,(by show 0<=aj;decide),fun e i=>⟨u,e,j,[],150,rfl,aw.of (kp (v _ _ L.a3) i),aw.of aa,by simp;omega,rg m.okR,fun H3 M=>?_⟩⟩;rw[D];refine⟨_,rfl,?_⟩;have p:=(v.trans (ab.new i)).trans M;refine⟨_,rfl,_,rfl,_,rfl,_,rfl,l,t,f,g,rfl,p _ _ L.a1,p _ _ L.a2,by omega,by omega,fun N O H4 T U q=>?_⟩;have w:=p.trans U;have r:=L.same w;refine⟨x,u,N,y,n,j,O,kG f g,rfl,r.a4,r.ds,r.a3,by omega,q,T,by omega,fun Y s5=>?_⟩;rw[G];exact⟨_,rfl,k Y (w.trans s5)⟩
section
variable{κ ι:Type}[DecidableEq κ]{e:ι->κ}
def eh(e:ι->κ)(ps:List (ι×Addr)):List (κ×V):=ps.map fun x=>(e x.1,V.ref x.2)
theorem ni(inj:∀x y,e x=e y->x=y){i:ι}:∀{a:List (ι×Addr)},i∉a.map (·.1)->bb (eh e a) (e i)=none
 |[],_=>rfl
 |x::a,h=>by
  rw[bF,cC]at h;show bb ((e x.1,V.ref x.2)::eh e a) (e i)=none;rw[df (fun z=>h (.inl (inj _ _ z).symm))];exact ni inj (fun z=>h (.inr z))
theorem fA(inj:∀x y,e x=e y->x=y){i:ι}{a:Addr}:∀{f:List (ι×Addr)},(f.map (·.1)).Nodup->(i,a)∈f->bb (eh e f) (e i)=some (.ref a)
 |[],_,h=>by cases h
 |x::f,g,h=>by
  rw[bF,gf]at g;show bb ((e x.1,V.ref x.2)::eh e f) (e i)=_;rcases cC.mp h with h|h
  ·rw[<-h];exact dA rfl
  ·rw[df (fun z=>g.1 (by rw[inj _ _ z];exact aQ.mpr ⟨_,h,rfl⟩))];exact fA inj g.2 h
theorem wZ(f:List (ι×Addr))(i:ι)(a:Addr):eh e (f++[(i,a)])=eh e f++[(e i,.ref a)]:=by
 unfold eh;rw[av]
 rfl
end
structure DL{ι:Type}(H0 H:Hp)(d:Addr)(ps:List (ι×Addr)):Prop where
 nd:(ps.map (·.1)).Nodup
 na:(ps.map (·.2)).Nodup
 fr:∀x∈ps,H0 x.2=none
 frd:H0 d=none
 ned:∀x∈ps,x.2≠d
 same:ab H0 H
theorem DL.snoc{ι:Type}{f H k:Hp}{d:Addr}{g:List (ι×Addr)}{i:ι}{a:Addr}(h:DL f H d g)(l:i∉g.map (·.1))(m:∀x∈g,x.2≠a)(n:f a=none)(o:a≠d)(s:ab f k):DL f k d (g++[(i,a)]):=by
 refine⟨?_,?_,?_,h.frd,?_,s⟩
 ·rw[av,dk];refine⟨h.nd,by simp,fun x hx y j e=>?_⟩;have:y=i:=by simpa using j
  exact l (by rw[<-this,<-e];exact hx)
 ·rw[av,dk];refine⟨h.na,by simp,fun x hx y j e=>?_⟩;have:y=a:=by simpa using j
  obtain⟨z,p,rfl⟩:=aQ.mp hx;exact m z p (e.trans this)
 ·intro x hx;rcases bL.mp hx with hx|hx
  ·exact h.fr x hx
  ·have:x=(i,a):=by simpa using hx
   rw[this];exact n
 ·intro x hx;rcases bL.mp hx with hx|hx
  ·exact h.ned x hx
  ·have:x=(i,a):=by simpa using hx
   rw[this];exact o
theorem Ht{ι:Type}:∀{a:List (ι×Addr)},(a.map (·.2)).Nodup->∀{x y:ι×Addr},x∈a->y∈a->x.2=y.2->x=y
 |[],_,x,_,h,_,_=>by cases h
 |p::a,f,x,y,g,i,e=>by
  rw[bF,gf]at f;rcases cC.mp g with hx'|hx'<;>rcases cC.mp i with hy'|hy'
  ·rw[hx',hy']
  ·exact absurd (aQ.mpr ⟨y,hy',by rw[<-e,hx']⟩) f.1
  ·exact absurd (aQ.mpr ⟨x,hx',by rw[e,hy']⟩) f.1
  ·exact Ht f.2 hx' hy' e
theorem jJ:∀x y:Str,(Sum.inr x:fG)=Sum.inr y->x=y:=fun x y h=>by injection h
def cI(ds:List ak)(r:Str):List ak:=ds.filter fun d=>decide (d.a=r)
inductive sp_doors_by_start (vs:List V)(H:Hp)(Q:VK)(E:XK):Prop
 |mk (l3 l4:Addr) (ts:Ze) (J2:Zb) (ds:List ak):(vs=[.ref l3,.ref l4])->(H l3=some (.lst (J2.map V.str)))->(H l4=some (.lst (ts.map V.ref)))->(cY H ts ds)->(J2.Nodup)->(J2.length<=1000)->(ds.length<=9000)->((∀d∈ds,d.a∈J2))->(∀(d:Addr) (ps:List (Str×Addr)) (H':Hp),ps.map (·.1)=J2->H' d=some (.dK (eh Sum.inr ps))->(∀x∈ps,∃us,H' x.2=some (.lst (us.map V.ref))/\cY H' us (cI ds x.1))->ab H H'->Q (.ref d) H')->sp_doors_by_start  vs H Q E
theorem pK{K:Za}{vs:List V}{H:Hp}{Q:VK}{E:XK}(h:sp_doors_by_start vs H Q E):qQ K (bj Q) (start rH vs) H:=by
 obtain⟨l3,l4,ts,J2,L,rfl,h3,h4,M,aC,hz,bl,a0,k⟩:=h;refine fun d hd=>?_;refine⟨_,rfl,l3,rfl,⟨_,aw.of (kp h3 hd)⟩,?_⟩
 let a4:Nat->L2.St->Hp->Prop:=fun i σ j=>∃x y,σ=[some (.ref l3),some (.ref l4),some (.ref d),x,y]/\∃l:List (Str×Addr),l.map (·.1)=J2.take i/\j d=some (.dK (eh Sum.inr l))/\DL H j d l/\∀x∈l,j x.2=some (.lst [])
 refine bO (xs:=J2.map V.str) a4
  ⟨_,_,rfl,[],rfl,aa,⟨by simp,by simp,by simp,hd,by simp,ab.new hd⟩,by simp⟩ (fun i σ j _ ⟨_,_,_,_,_,_,D,_⟩=>aw.of (D.same _ _ h3)) ?_ ?_
 ·rintro i x σ j hi ⟨x3,N,rfl,l,m,n,D,g⟩;obtain⟨w,hw,rfl⟩:=bH hi;have v:w∉l.map (·.1):=by
   rw[m];intro z;have:=aC;rw[<-xJ (i+1) J2,take_snoc hw,dk]at this;have:=this.1;rw[dk]at this;exact this.2.2 w z w (by simp) rfl
  refine⟨(by show 0<=aj;decide),fun a G=>?_⟩;have O:(eh (Sum.inr:Str->fG) l).length<aj:=ao (by
   unfold eh;rw[ah,<-ah (f:=(·.1)) (as:=l),m,aI];omega)
  have a5:H a=none:=D.same.free G;have T:a≠d:=(ae n G).symm;have U:∀x∈l,x.2≠a:=fun x hx=>ae (g x hx) G;refine⟨_,rfl,_,rfl,d,_,rfl,.inl ⟨_,.inr w,kp n G,rfl,O,rfl⟩,_,_,rfl,l++[(w,a)],?_,?_,?_,?_⟩
  ·rw[av,m,take_snoc hw];rfl
  ·rw[aa,iu _ (ni jJ v),wZ]
  ·refine D.snoc v U a5 T ?_;intro b o q;rw[ai (ae q hd)];exact kp (D.same _ _ q) G
  ·intro x hx;rcases bL.mp hx with hx|hx
   ·rw[ai (D.ned x hx)];exact kp (g x hx) G
   ·have:x=(w,a):=by simpa using hx
    rw[this,ai T];exact aa
 ·rintro σ H1 ⟨x3,N,rfl,l,m,a6,D1,g⟩;rw[ah,be]at m;refine⟨_,rfl,l4,rfl,⟨_,aw.of (D1.same _ _ h4)⟩,?_⟩
  let a7:Nat->L2.St->Hp->Prop:=fun i σ j=>∃N,σ=[some (.ref l3),some (.ref l4),some (.ref d),x3,N]/\j d=some (.dK (eh Sum.inr l))/\DL H j d l/\∀x∈l,∃I,j x.2=some (.lst (I.map V.ref))/\cY j I (cI (L.take i) x.1)
  refine bO (xs:=ts.map V.ref) a7
   ⟨_,rfl,a6,D1,fun x hx=>⟨[],g x hx,.nil⟩⟩ (fun i σ j _ ⟨_,_,_,D,_⟩=>aw.of (D.same _ _ h4)) ?_ ?_
  ·rintro i x σ j hi ⟨N,rfl,n,D,g⟩;obtain⟨t,ht,rfl⟩:=bY hi;obtain⟨u,B,a8⟩:=Paired.getL M ht;have A:=a8.kt (ab.kt D.same);have Y:=A;obtain⟨s,a9,bm⟩:=A;have al:u.a∈l.map (·.1):=by rw[m];exact a0 u (bT B)
   obtain⟨⟨r,a⟩,p,er⟩:=aQ.mp al;obtain rfl:r=u.a:=er;obtain⟨I,C,an⟩:=g _ p;have bn:i<L.length:=(bM.mp B).1;have bc:I.length<=9000:=by
    rw[Paired.length an];refine aE (cO _ _) ?_;rw[aI];omega
   have KT:gv j (upd j a (.lst (I.map V.ref++[.ref t]))):=eW C;refine⟨_,rfl,_,rfl,.inr (.inl ⟨t,_,0,_,rfl,rfl,bQ.of a9,rfl,d,.ref a,rfl,.inl ⟨_,.inr u.a,.inl n,rfl,(fA jJ D.nd p).symm⟩,.inl ⟨rfl,_,aw.of C⟩,_,rfl,a,_,_,rfl,rfl,C,?_,_,rfl,?_,?_,?_⟩)⟩
   ·rw[ah];exact g8 bc
   ·rw[ai (D.ned _ p).symm];exact n
   ·refine⟨D.nd,D.na,D.fr,D.frd,D.ned,fun b o q=>?_⟩;rw[ai (ae q (D.fr _ p))];exact D.same _ _ q
   ·intro x hx;have ap:∀r',cI (L.take (i+1)) r'=cI (L.take i) r'++(if u.a=r' then[u]else[]):=by
     intro r';unfold cI;rw[take_snoc B,iF];congr 1;by_cases c:u.a=r'
     ·rw[if_pos c];simp[c]
     ·rw[if_neg c];simp[c]
    by_cases c:x.2=a
    ·have ex:=Ht D.na hx p c;subst ex;refine⟨I++[t],?_,?_⟩
     ·show upd j a _ a=_;rw[aa,av];rfl
     ·rw[ap];show cY _ _ (cI (L.take i) u.a++(if u.a=u.a then[u]else[]))
      rw[if_pos rfl];exact Paired.app (an.kt KT) (.cons (Y.kt KT) .nil)
    ·obtain⟨bd,h1,h2⟩:=g x hx;have bi:¬(u.a=x.1):=fun z=>by
      have e1:=fA (e:=(Sum.inr:Str->fG)) jJ D.nd p;have J:=fA (e:=(Sum.inr:Str->fG)) (i:=x.1) (a:=x.2) jJ D.nd hx;rw[<-z,e1]at J;injection J with J;injection J with J;exact c J.symm
     refine⟨bd,by rw[ai c];exact h1,?_⟩;rw[ap,if_neg bi,dJ];exact h2.kt KT
  ·rintro σ j ⟨N,rfl,n,D,g⟩;rw[ah,Paired.length M,be]at g;exact⟨_,rfl,k d l j m n g D.same⟩
def mH(d:ak):Bool:=match d.sg with
 |s::_=>decide (s=("ask":Str))
 |[]=>false
inductive sp_has_asks_alone (vs:List V)(H:Hp)(Q:VK)(E:XK):Prop
 |mk (a:Addr) (us:Ze) (ds:List ak):(vs=[.ref a])->(H a=some (.lst (us.map V.ref)))->(cY H us ds)->(ds.length<=9000)->((∀d∈ds,d.sg≠[]))->(∀H',ab H H'->Q (.bl (ds.all mH)) H')->sp_has_asks_alone  vs H Q E
theorem pJ{K:Za}{f:List V}{H:Hp}{Q:VK}{E:XK}(h:sp_has_asks_alone f H Q E):qP K (bj Q) (start rG f) H:=by
 obtain⟨a,O,L,rfl,M,v,hz,C,k⟩:=h;refine⟨_,rfl,a,rfl,⟨_,aw.of M⟩,fun l N=>?_⟩
 let D:Nat->List V->Hp->Prop:=fun i f n=>f=(L.take i).map (fun d=>V.bl (mH d))/\ab H n/\n l=some (.lst f)
 refine bX (xs:=O.map V.ref) D
  ⟨rfl,ab.new N,aa⟩ (fun i f n _ ⟨_,p,r⟩=>⟨r,aw.of (p _ _ M)⟩) ?_ ?_
 ·rintro f n ⟨rfl,p,r⟩;rw[ah,Paired.length v,be]at r;refine⟨l,L.map mH,rfl,aw.of (by rw[r,i3];rfl),?_⟩;rw[List.all_map];exact k n p
 ·rintro i f n x T U ⟨rfl,p,r⟩;obtain⟨t,Y,rfl⟩:=bY T;obtain⟨G,w,I⟩:=Paired.getL v Y;obtain⟨s,J,m⟩:=I.kt (ab.kt p);have A:=bT w;obtain⟨u,g,B⟩:∃u g,G.sg=u::g:=by
   cases q:G.sg with
   |nil=>exact absurd q (C G A)
   |cons x y=>exact⟨x,y,rfl⟩
  unfold SignAt at m;rw[B]at m;refine gN (pc ?_);refine⟨_,rfl,.inr (.inl ⟨t,_,1,_,rfl,rfl,bQ.of J,rfl,.inr (.inl ⟨s,_,0,.str u,rfl,rfl,bQ.of m,ca (j:=0) rfl,rfl,r,?_,mF U ⟨?_,?_,aa⟩⟩)⟩)⟩
  ·rw[ah,aI];exact g8 (by omega)
  ·rw[take_snoc w,av];congr 1;show[V.bl _]=[V.bl _];congr 2;unfold mH;rw[B];show decide (V.str u=V.str _)=decide (u=_);by_cases c:u=("ask":Str)
   ·rw[zzr1 c,zzr1 (by rw[c])]
   ·rw[zzr0 c,zzr0 (fun z=>c (by injection z))]
  ·intro b o e;rw[ai (ae e N)];exact p _ _ e
def vH(x:Str×List Str):TK:=.t [pH x.1,eO x.2]
theorem iR:∀x y:Str×List Str,vH x=vH y->x=y:=by
 intro x y h;unfold vH at h;injection h with h;injection h with a h;injection h with e h;cases x;cases y;simp only at *;rw[tD a,eK e]
theorem m9(x:Str×List Str):(vH x).depth<=8:=by
 show max (TK.depth (pH x.1)) (max (TK.depth (eO x.2)) 0)+1<=8;rw[fk];show max 0 (max 1 0)+1<=8
 decide
def bE(ds:List ak)(x:Str×List Str):List Str:=(ds.filter fun d=>decide (d.a=x.1/\d.sg=x.2)).map (·.b)
theorem zI(e:List ak)(d:ak)(x:Str×List Str):bE (e++[d]) x=bE e x++(if(d.a,d.sg)=x then[d.b]else[]):=by
 unfold bE;rw[iF,av];congr 1;by_cases c:(d.a,d.sg)=x
 ·subst c;simp
 ·rw[if_neg c];have:¬(d.a=x.1/\d.sg=x.2):=fun z=>c (by cases x;simp only at z;rw[z.1,z.2]);simp[List.filter_cons];intro f g;exact this ⟨f,g⟩
theorem mI{e:List ak}{x:Str×List Str}(h:∀d∈e,(d.a,d.sg)≠x):bE e x=[]:=by
 unfold bE;rw[qx,List.filter_eq_nil_iff];intro d f;have:¬(d.a=x.1/\d.sg=x.2):=fun z=>h d f (by cases x;simp only at z;rw[z.1,z.2]);simp;intro g i;exact this ⟨g,i⟩
theorem eU{a:List ak}{x:Str×List Str}{b:Str}:b∈bE a x↔(⟨x.1,x.2,b⟩:ak)∈a:=by
 unfold bE;rw[aQ];constructor
 ·rintro⟨d,e,rfl⟩;rw[fQ]at e;obtain⟨i,j⟩:=e;obtain⟨f,g⟩:=of_decide_eq_true j;cases d;simp only at f g;rw[<-f,<-g];exact i
 ·intro h;exact⟨_,fQ.mpr ⟨h,zzr1 ⟨rfl,rfl⟩⟩,rfl⟩
structure jM(H:Hp)(g:Addr)(ps:List ((Str×List Str)×Addr))(ds:List ak):Prop where
 nd:(ps.map (·.1)).Nodup
 g:H g=some (.dT (eh vH ps))
 ls:∀x∈ps,H x.2=some (.lst ((bE ds x.1).map V.str))
 all:∀d∈ds,(d.a,d.sg)∈ps.map (·.1)
theorem jM.same{H H':Hp}{g:Addr}{a:List ((Str×List Str)×Addr)}{e:List ak}(h:jM H g a e)(s:ab H H'):jM H' g a e:=⟨h.nd,s _ _ h.g,fun x f=>s _ _ (h.ls x f),h.all⟩
inductive pC (vs:List V)(H:Hp)(Q:VK)(E:XK):Prop
 |mk (l4:Addr) (ts:Ze) (ds:List ak):(vs=[.ref l4])->(H l4=some (.lst (ts.map V.ref)))->(cY H ts ds)->(ds.length<=9000)->(∀(g:Addr) (ps:List ((Str×List Str)×Addr)) (H':Hp),jM H' g ps ds->ab H H'->Q (.ref g) H')->pC  vs H Q E
theorem jg{K:Za}{vs:List V}{H:Hp}{Q:VK}{E:XK}(h:pC vs H Q E):jv K (bj Q) (start jx vs) H:=by
 obtain⟨l4,ts,T,rfl,h4,al,hz,k⟩:=h;refine fun g hg=>?_;refine⟨_,rfl,l4,rfl,⟨_,aw.of (kp h4 hg)⟩,?_⟩
 let a4:Nat->L2.St->Hp->Prop:=fun i σ u=>∃x y z,σ=[some (.ref l4),some (.ref g),x,y,z]/\∃p:List ((Str×List Str)×Addr),DL H u g p/\u g=some (.dT (eh vH p))/\p.length<=i/\(∀x∈p,u x.2=some (.lst ((bE (T.take i) x.1).map V.str)))/\∀d∈T.take i,(d.a,d.sg)∈p.map (·.1)
 refine bO (xs:=ts.map V.ref) a4
  ⟨_,_,_,rfl,[],⟨by simp,by simp,by simp,hg,by simp,ab.new hg⟩,aa,by simp,by simp,by simp⟩ (fun i σ u _ ⟨_,_,_,_,_,D,_⟩=>aw.of (D.same _ _ h4)) ?_ ?_
 ·rintro i x σ u hi ⟨x2,x3,x4,rfl,p,D,w,an,m,l⟩;obtain⟨t,ht,rfl⟩:=bY hi;obtain⟨f,C,a5⟩:=Paired.getL al ht;have bd:i<T.length:=(bM.mp C).1;obtain⟨s,a6,a7⟩:=a5.kt (ab.kt D.same);refine⟨t,_,rfl,bQ.of a6,rfl,_,_,rfl,_,_,rfl,_,_,rfl,rfl,?_⟩;refine⟨_,rfl,.inr (.inr (.inl ⟨rfl,.inr ⟨_,w⟩⟩)),_,rfl,_,rfl,(by show 2<=aj;decide),fun kt ap=>⟨(by show 0<=aj;decide),fun nl U=>?_⟩⟩;have G:ab u (upd (upd u kt (.tup [.str f.a,.ref s])) nl (.lst [])):=(ab.new ap).trans (ab.new U);have L:upd (upd u kt (.tup [.str f.a,.ref s])) nl (.lst []) kt=some (.tup [.str f.a,.ref s]):=kp aa U;have M:upd (upd u kt (.tup [.str f.a,.ref s])) nl (.lst []) nl=some (.lst []):=aa;have j:u nl=none:=(ab.new ap).free U;generalize upd (upd u kt (.tup [.str f.a,.ref s])) nl (.lst [])=H2 at G L M ⊢;have a8:cS H2 (vH (f.a,f.sg)) (.ref kt):=by
   unfold vH cS;refine⟨kt,_,rfl,L,?_⟩;unfold TKAts;refine⟨_,_,rfl,yv _,?_⟩;unfold TKAts;refine⟨_,_,rfl,SignAt.tk (G _ _ a7),?_⟩;unfold TKAts
   rfl
  have a9:(eh vH p).length<aj:=g8 (by unfold eh;rw[ah];omega);have I:∀x,bE (T.take (i+1)) x=bE (T.take i) x++(if(f.a,f.sg)=x then[f.b]else[]):=fun x=>by rw[take_snoc C,zI]
  have bc:∀x,(bE (T.take i) x).length<=9000:=fun x=>by
   unfold bE;rw[ah];refine aE (cO _ _) ?_;rw[aI];omega
  refine⟨g,kt,_,vH (f.a,f.sg),.ref nl,rfl,rfl,G _ _ w,a8,m9 _,a9,fun v J=>?_,fun J=>?_⟩
  ·-- there as
   have N:(f.a,f.sg)∈p.map (·.1):=by
    refine Classical.byContradiction fun z=>?_;rw[ni iR z]at J;cases J
   obtain⟨⟨r,a⟩,n,er⟩:=aQ.mp N;obtain rfl:r=(f.a,f.sg):=er;rw[fA iR D.nd n]at J;injection J with J;subst J;have aC:=G _ _ (m _ n);refine⟨.inl ⟨rfl,_,aw.of aC⟩,_,rfl,a,_,_,rfl,rfl,aC,by rw[ah];exact g8 (bc _),_,_,_,rfl,p,⟨D.nd,D.na,D.fr,D.frd,D.ned,fun b o q=>?_⟩,?_,by omega,?_,?_⟩
   ·rw[ai (ae q (D.fr _ n))];exact G _ _ (D.same _ _ q)
   ·rw[ai (D.ned _ n).symm];exact G _ _ w
   ·intro x hx;by_cases c:x.2=a
    ·have ex:=Ht D.na hx n c;subst ex;show upd H2 a _ a=_;rw[aa,I,if_pos rfl,av];rfl
    ·have Y:¬((f.a,f.sg)=x.1):=fun z=>by
      have e1:=fA (e:=vH) iR D.nd n;have e2:=fA (e:=vH) (i:=x.1) (a:=x.2) iR D.nd hx;rw[<-z,e1]at e2;injection e2 with e2;injection e2 with e2;exact c e2.symm
     rw[ai c,I,if_neg Y,dJ];exact G _ _ (m x hx)
   ·intro d hd;rw[take_snoc C]at hd;rcases bL.mp hd with hd|hd
    ·exact l d hd
    ·have:d=f:=by simpa using hd
     rw[this];exact N
  ·-- a new list
   have A:(f.a,f.sg)∉p.map (·.1):=by
    intro z;obtain⟨⟨r,a⟩,n,er⟩:=aQ.mp z;obtain rfl:r=(f.a,f.sg):=er;rw[fA iR D.nd n]at J;cases J
   have B:nl≠g:=(ae w j).symm;have O:upd H2 g (.dT (eh vH p++[(vH (f.a,f.sg),.ref nl)])) nl=some (.lst []):=by rw[ai B];exact M
   refine⟨.inl ⟨rfl,_,aw.of O⟩,_,rfl,nl,_,_,rfl,rfl,O,(by show 0<aj;decide),_,_,_,rfl,p++[((f.a,f.sg),nl)],?_,?_,?_,?_,?_⟩
   ·refine D.snoc A (fun x hx=>ae (m x hx) j) (D.same.free j) B ?_;intro b o q;rw[ai (ae q (D.same.free j)),ai (ae q hg)];exact G _ _ (D.same _ _ q)
   ·rw[ai B.symm,aa,wZ]
   ·rw[a_];show _+1<=_;omega
   ·intro x hx;rcases bL.mp hx with hx|hx
    ·have Y:¬((f.a,f.sg)=x.1):=fun z=>A (by rw[z];exact aQ.mpr ⟨x,hx,rfl⟩);rw[ai (ae (m x hx) j),ai (D.ned x hx),I,if_neg Y,dJ];exact G _ _ (m x hx)
    ·have:x=((f.a,f.sg),nl):=by simpa using hx
     subst this;have a0:bE (T.take i) (f.a,f.sg)=[]:=mI fun d hd z=>A (by rw[<-z];exact l d hd);show upd _ nl _ nl=_;rw[aa,I,if_pos rfl,a0]
     rfl
   ·intro d hd;rw[av];rw[take_snoc C]at hd;rcases bL.mp hd with hd|hd
    ·exact eg _ (l d hd)
    ·have:d=f:=by simpa using hd
     rw[this];exact eP _ (by simp)
 ·rintro σ u ⟨x2,x3,x4,rfl,p,D,w,an,m,l⟩;rw[ah,Paired.length al,be]at m l;exact⟨_,rfl,k g p u ⟨D.nd,w,m,l⟩ D.same⟩
theorem mG:∀{L R:Zb},L.Nodup->(∀y∈L,y∈R)->L.length<=R.length
 |[],_,_,_=>dI _
 |x::L,R,a,h=>by
  rw[gf]at a;have f:=h x cU;have:=mG (L:=L) (R:=R.erase x) a.2 fun y g=>(List.mem_erase_of_ne (fun e:y=x=>a.1 (by rw[<-e];exact g))).mpr (h y (c7 _ g));rw[List.length_erase_of_mem f]at this;have:0<R.length:=List.length_pos_of_mem f;rw[fO];omega
theorem Reach.in_{e:List ak}{a b:Str}{f:Zb}(g:∀d∈e,d.b∈f)(h:Reach e a b):b∈f:=by
 cases h with
 |one h=>exact g _ h
 |step r h=>exact g _ h
inductive yY (vs:List V)(H:Hp)(Q:VK)(E:XK):Prop
 |mk (g:Addr) (room:Str) (ps:List ((Str×List Str)×Addr)) (ds:List ak) (J2:Zb):(vs=[.ref g,.str room])->(jM H g ps ds)->((∀d∈ds,d.b∈J2))->(J2.length<=1000)->(∀(d:Addr) (L:Zb) (H':Hp),H' d=some (.dK (aY L))->L.Nodup->(∀w,w∈L↔Reach ds room w)->H d=none->ab H H'->Q (.ref d) H')->yY  vs H Q E
structure K2(H0 H:Hp)(ds:List ak)(room:Str)(d w:Addr)(L W:Zb)(open_:Str->Prop):Prop where
 d:H d=some (.dK (aY L))
 w:H w=some (.lst (W.map V.str))
 same:ab H0 H
 nd:L.Nodup
 sound:∀y∈L,Reach ds room y
 wait:∀y∈W,y=room∨y∈L
 closed:∀y,(y=room∨y∈L)->y∉W->¬open_ y->∀c∈bE ds (y,aF),c∈L
theorem sR{K:Za}{st:Addr}(bu:∀H,bQ K H st (aF.map V.str)){vs:List V}{H:Hp}{Q:VK}{E:XK}(h:yY vs H Q E):ul K st (bj Q) (start vw vs) H:=by
 obtain⟨g,room,ps,ds,t,rfl,G,bw,hz,k⟩:=h;refine fun d hd=>?_;refine⟨_,rfl,(by show 1<=aj;decide),fun w hw=>?_⟩;have a0:H w=none:=(ab.new hd).free hw;have Y:d≠w:=ae aa hw;refine⟨fun m σ C=>∃(L W:Zb) (x y:Option V),σ=[some (.ref g),some (.str room),some (.ref d),some (.ref w),x,y]/\K2 H C ds room d w L W (fun _=>False)/\m=2 * (t.length-L.length)+W.length/\m<=2 * t.length+1,
  ⟨_,[],[room],_,_,rfl,⟨kp aa hw,aa,(ab.new hd).trans (ab.new hw),ub,by simp,by simp,?_⟩,rfl,aB _⟩,?_⟩
 ·intro y hy T;rcases hy with rfl|hy
  ·simp at T
  ·cases hy
 rintro m σ H1 ⟨L,W,x4,x5,rfl,D,rfl,hbound⟩;have U:∀{l:Zb},l.Nodup->(∀y∈l,Reach ds room y)->l.length<=t.length:=fun nd sd=>mG nd fun y hy=>(sd y hy).in_ bw;refine⟨_,rfl,.inl ⟨w,_,rfl,.inl (aw.of D.w),_,_,rfl,rfl,_,rfl,?_⟩⟩;refine iS (fun B=>?_) (fun B=>?_)
 ·have a4:W≠[]:=by
   intro z;rw[z]at B;exact absurd (of_decide_eq_true B) (by decide)
  obtain⟨s,f,rfl⟩:∃s f,W=s++[f]:=⟨W.dropLast,W.getLast a4,(List.dropLast_concat_getLast a4).symm⟩;have al:f=room∨f∈L:=D.wait f (by simp);refine⟨fun σ' C=>∃(l n:Zb) (x y:Option V),σ'=[some (.ref g),some (.str room),some (.ref d),some (.ref w),x,y]/\K2 H C ds room d w l n (fun _=>False)/\2 * (t.length-l.length)+n.length<2 * (t.length-L.length)+(s++[f]).length,
   fun σ' C ⟨l,n,x,y,e,D',hm⟩=>⟨_,hm,l,n,x,y,e,D',rfl,by omega⟩,?_⟩
  have an:((s++[f]).map V.str)[((s++[f]).map V.str).length-1]?=some (.str f):=by simp
  have ap:((s++[f]).map V.str).dropLast=s.map V.str:=by rw[av];simp
  refine⟨_,rfl,.inl ⟨rfl,_,aw.of D.w⟩,w,_,_,rfl,rfl,D.w,an,?_⟩;rw[ap];have a5:upd H1 w (.lst (s.map V.str)) d=some (.dK (aY L)):=by rw[ai Y];exact D.d
  have a6:upd H1 w (.lst (s.map V.str)) w=some (.lst (s.map V.str)):=aa;have S1:ab H (upd H1 w (.lst (s.map V.str))):=fun b o q=>by rw[ai (ae q a0)];exact D.same _ _ q
  generalize upd H1 w (.lst (s.map V.str))=H2 at a5 a6 S1 ⊢;have G2:=G.same S1;refine⟨_,rfl,g,rfl,.inr ⟨_,.inl G2.g⟩,_,rfl,(by show 2<=aj;decide),fun kt a7=>⟨(by show 0<=aj;decide),fun et as=>⟨bb (eh vH ps) (vH (f,aF)),.inr ⟨_,vH (f,aF),kt,.inl ?_,rfl,?_,m9 _,rfl⟩,?_⟩⟩⟩
  ·exact kp (kp G2.g a7) as
  ·unfold vH nJ;refine⟨kt,_,rfl,bQ.of (kp aa as),?_⟩;unfold TKIns;refine⟨_,_,rfl,?_,?_⟩
   ·unfold pH nJ;rfl
   unfold TKIns;refine⟨_,_,rfl,?_,?_⟩
   ·unfold eO nJ;refine⟨st,_,rfl,bu _,?_⟩;unfold aF;show TKIns K _ [pH _] [V.str _];unfold TKIns;refine⟨_,_,rfl,?_,?_⟩
    ·unfold pH nJ;rfl
    unfold TKIns;rfl
   unfold TKIns;rfl
  have S3:ab H2 (upd (upd H2 kt (.tup [.str f,.ref st])) et (.tup [])):=(ab.new a7).trans (ab.new as);have I:upd (upd H2 kt (.tup [.str f,.ref st])) et (.tup []) et=some (.tup []):=aa;generalize upd (upd H2 kt (.tup [.str f,.ref st])) et (.tup [])=H3 at S3 I ⊢;have D3:K2 H H3 ds room d w L s (fun y=>y=f):=⟨S3 _ _ a5,S3 _ _ a6,S1.trans S3,D.nd,D.sound,fun y hy=>D.wait y (eg _ hy),fun y hy T ho=>D.closed y hy (fun z=>by rcases bL.mp z with z|z;exact T z;exact ho (by simpa using z)) (fun z=>z)⟩;have a8:2 * (t.length-L.length)+s.length<2 * (t.length-L.length)+(s++[f]).length:=by rw[a_];show _<_+(_+1);omega
  have a9:∀(H4:Hp) (l n:Zb) (x y:Option V),K2 H H4 ds room d w l n (fun y=>y=f)->(∀c∈bE ds (f,aF),c∈l)->2 * (t.length-l.length)+n.length<2 * (t.length-L.length)+(s++[f]).length ->
    ∃(l n:Zb) (x' y':Option V),[some (V.ref g),some (.str room),some (.ref d),some (.ref w),x,y]=[some (.ref g),some (.str room),some (.ref d),some (.ref w),x',y']/\K2 H H4 ds room d w l n (fun _=>False)/\2 * (t.length-l.length)+n.length<2 * (t.length-L.length)+(s++[f]).length:=by
   intro H4 l n x y p hc hm;refine⟨l,n,x,y,rfl,⟨p.d,p.w,p.same,p.nd,p.sound,p.wait,fun y hy T _=>?_⟩,hm⟩;by_cases e:y=f
   ·rw[e];exact hc
   ·exact p.closed y hy T e
  by_cases J:(f,aF)∈ps.map (·.1)
  ·obtain⟨⟨r,a⟩,bc,er⟩:=aQ.mp J;obtain rfl:r=(f,aF):=er;rw[fA iR G.nd bc];have bd:=G.ls _ bc;refine⟨a,rfl,.inl ⟨⟨_,aw.of ((S1.trans S3) _ _ bd)⟩,?_⟩⟩
   let aC:Nat->L2.St->Hp->Prop:=fun j σ C=>K1 fun(l n:Zb) (y:Option V)=>JK (σ=[some (.ref g),some (.str room),some (.ref d),some (.ref w),some (.str f),y]) (K2 H C ds room d w l n (fun y=>y=f)) ((f=room∨f∈l)) ((∀c∈(bE ds (f,aF)).take j,c∈l)) (2 * (t.length-l.length)+n.length<2 * (t.length-L.length)+(s++[f]).length)
   refine bO (xs:=(bE ds (f,aF)).map V.str) aC
    ⟨L,s,_,rfl,D3,al,by simp,a8⟩ (fun j σ C _ ⟨_,_,_,_,D',_,_,_⟩=>aw.of (D'.same _ _ bd)) ?_ ?_
   ·rintro j x σ H4 hj ⟨l,n,y,rfl,p,hh,hc,hm⟩;obtain⟨i,u,rfl⟩:=bH hj;have v:(⟨f,aF,i⟩:ak)∈ds:=eU.mp (bT u);have O:Reach ds room i:=by
     rcases hh with hh|hh
     ·rw[hh]at v;exact .one v
     ·exact .step (p.sound _ hh) v
    have bz:=U p.nd p.sound;refine⟨_,rfl,_,rfl,d,_,rfl,.inl ⟨_,.inr i,.inl p.d,rfl,rfl⟩,_,rfl,?_⟩;rw[fC];by_cases c:i∈l
    ·rw[zzr1 c];refine bA ⟨l,n,_,rfl,p,hh,?_,hm⟩;intro c' A;rw[take_snoc u]at A;rcases bL.mp A with h|h
     ·exact hc c' h
     ·have:c'=i:=by simpa using h
      rw[this];exact c
    ·rw[zzr0 c];refine bP ?_;have bi:(l++[i]).Nodup:=by
      rw[dk];refine⟨p.nd,by simp,fun a ha b hb e=>?_⟩;have:b=i:=by simpa using hb
      exact c (by rw[<-this,<-e];exact ha)
     have bm:∀y∈l++[i],Reach ds room y:=by
      intro y hy;rcases bL.mp hy with hy|hy
      ·exact p.sound y hy
      ·have:y=i:=by simpa using hy
       rw[this];exact O
     have M:=U bi bm;rw[a_]at M;have bI:l.length+1<=t.length:=M;have bS:n.length<=9000:=by omega
     refine⟨_,rfl,_,rfl,d,_,rfl,.inl ⟨_,.inr i,p.d,rfl,ao (aE (ln _) (by omega)),rfl⟩,?_⟩;have bn:upd H4 d (.dK (dh (aY l) (.inr i) (.bl true))) w=some (.lst (n.map V.str)):=by rw[ai Y.symm];exact p.w
     refine⟨_,rfl,.inl ⟨rfl,_,aw.of bn⟩,_,rfl,w,_,_,rfl,rfl,bn,by rw[ah];exact g8 bS,l++[i],n++[i],_,rfl,⟨?_,?_,?_,bi,bm,?_,?_⟩,?_,?_,?_⟩
     ·rw[ai Y,aa,dO]
     ·rw[aa,av];rfl
     ·intro b o q;rw[ai (ae q a0),ai (ae q hd)];exact p.same _ _ q
     ·intro y hy;rcases bL.mp hy with hy|hy
      ·rcases p.wait y hy with h|h
       ·exact .inl h
       ·exact .inr (eg _ h)
      ·exact .inr (eP _ hy)
     ·intro y hy T ho c' A;have b1:y∉n:=fun z=>T (eg _ z);have b2:y≠i:=fun z=>T (eP _ (by simp[z]));refine eg _ (p.closed y ?_ b1 ho c' A);rcases hy with hy|hy
      ·exact .inl hy
      ·rcases bL.mp hy with hy|hy
       ·exact .inr hy
       ·exact absurd (by simpa using hy) b2
     ·rcases hh with h|h
      ·exact .inl h
      ·exact .inr (eg _ h)
     ·intro c' A;rw[take_snoc u]at A;rcases bL.mp A with h|h
      ·exact eg _ (hc c' h)
      ·exact eP _ h
     ·rw[a_,a_];show 2 * (t.length-(l.length+1))+(n.length+1)<_;omega
   ·rintro σ H4 ⟨l,n,y,rfl,p,hh,hc,hm⟩;rw[ah,be]at hc;exact a9 H4 l n _ _ p hc hm
  ·rw[ni iR J];refine⟨et,rfl,.inr ⟨⟨_,bQ.of I⟩,?_⟩⟩;have N:bE ds (f,aF)=[]:=mI fun x hx z=>J (by rw[<-z];exact G.all x hx)
   let aC:Nat->L2.St->Hp->Prop:=fun j σ C=>σ=[some (.ref g),some (.str room),some (.ref d),some (.ref w),some (.str f),x5]/\C=H3
   refine Ew (xs:=[]) aC ⟨rfl,rfl⟩ (fun j σ C _ ⟨_,e⟩=>by rw[e];exact bQ.of I) (fun j x σ C hj=>by cases hj) ?_;rintro σ C ⟨rfl,rfl⟩;exact a9 _ L s _ _ D3 (by rw[N];simp) a8
 ·have N:W=[]:=by
   cases W with
   |nil=>rfl
   |cons a W=>exact absurd (zzr1 (by rw[ah,fO];omega)) B
  subst N;refine⟨_,rfl,k d L H1 D.d D.nd (fun w=>⟨D.sound w,fun hr=>?_⟩) hd D.same⟩
  induction hr with
  |one h=>exact D.closed room (.inl rfl) (by simp) (fun z=>z) _ (eU.mpr h)
  |step r h ih=>exact D.closed _ (.inr ih) (by simp) (fun z=>z) _ (eU.mpr h)
inductive sp_first_led_round (vs:List V)(H:Hp)(Q:VK)(E:XK):Prop
 |mk (l3 d:Addr) (J2:Zb) (ps:List (Str×Addr)):(vs=[.ref l3,.ref d])->(H l3=some (.lst (J2.map V.str)))->(H d=some (.dK (eh Sum.inr ps)))->(ps.map (·.1)=J2)->(J2.Nodup)->((∀x∈ps,∃L,H x.2=some (.dK (aY L))/\x.1∉L))->(∀H',ab H H'->Q .non H')->sp_first_led_round  vs H Q E
theorem oH{K:Za}{p:List V}{H:Hp}{Q:VK}{E:XK}(h:sp_first_led_round p H Q E):pe K (bj Q) (start qj p) H:=by
 obtain⟨q,d,u,v,rfl,s,z,f,m,A,k⟩:=h;refine⟨_,rfl,q,rfl,⟨_,aw.of s⟩,?_⟩
 let n:Nat->L2.St->Hp->Prop:=fun i σ e=>∃x y,σ=[some (.ref q),some (.ref d),x,y]/\ab H e
 refine mJ (xs:=u.map V.str) n ⟨_,_,rfl,ab.refl H⟩ (fun i σ e _ ⟨_,_,_,S⟩=>aw.of (S _ _ s)) ?_ ?_
 ·rintro i x σ e t B ⟨J,M,rfl,S⟩ C;obtain⟨w,D,rfl⟩:=bH B;refine⟨t,_,rfl,bQ.of aa,rfl,_,_,rfl,_,_,rfl,rfl,?_⟩;have l:ab H (upd e t (.tup [.int i,.str w])):=S.trans (ab.new C);generalize upd e t (.tup [.int i,.str w])=N at l ⊢;have g:w∈v.map (·.1):=by rw[f];exact bT D
  obtain⟨⟨r,a⟩,j,G⟩:=aQ.mp g;obtain rfl:r=w:=G;obtain⟨L,o,I⟩:=A _ j;refine⟨_,rfl,_,rfl,_,rfl,d,.ref a,rfl,.inl ⟨_,.inr r,.inl (l _ _ z),rfl,(fA jJ (by rw[f];exact m) j).symm⟩,a,_,rfl,.inl ⟨_,.inr r,.inl (l _ _ o),rfl,rfl⟩,_,rfl,?_⟩;rw[fC,zzr0 I];exact bA ⟨_,_,rfl,l⟩
 ·rintro σ e ⟨x,y,rfl,S⟩;exact k e S
abbrev lk(f:Str)(fs:List (Str×V)):Option V:=fs.lookup f
def gH(ds:List ak)(r:Str):Bool:=(cI ds r).all mH
structure bU(C:Addr)(H:Hp)(x:Addr)(J0 J1 J2:Zb)(ds:List ak):Prop where
 at_:∃(dx:Addr) (fs:List (Str×V)) (o1 o2 o3 o4 lv qu sg sl:Addr) (ts:Ze) (lps:List (Str×Addr)) (gps:List ((Str×List Str)×Addr)) (sps:List (Str×Addr)),
  H x=some (.ins C dx fs)/\lk "is_quiet" fs=none/\lk "goals" fs=none/\lk "led_from" fs=none/\lk "rooms" fs=none /\
  lk "own_asks" fs=some (.ref o1)/\lk "own_says" fs=some (.ref o2)/\lk "own_rooms" fs=some (.ref o3)/\lk "own_doors" fs=some (.ref o4) /\
  lk "leaving" fs=some (.ref lv)/\lk "quiet" fs=some (.ref qu)/\lk "sign_goals" fs=some (.ref sg)/\lk "still_led" fs=some (.ref sl) /\
  Lists H o1 o2 o3 o4 ts J0 J1 J2 ds /\
  lps.map (·.1)=J2/\H lv=some (.dK (eh Sum.inr lps))/\(∀x∈lps,∃us,H x.2=some (.lst (us.map V.ref))/\cY H us (cI ds x.1)) /\
  H qu=some (.dK (aY (J2.filter (gH ds))))/\jM H sg gps ds /\
  sps.map (·.1)=J2/\H sl=some (.dK (eh Sum.inr sps))/\(∀x∈sps,∃L,H x.2=some (.dK (aY L))/\L.Nodup/\∀w,w∈L↔Reach ds x.1 w)
 ok:aP J0 J1 J2 ds
 more:∃(dx:Addr) (fs:List (Str×V)),H x=some (.ins C dx fs)/\lk "asks" fs=none/\lk "says" fs=none/\lk "doors" fs=none/\lk "doors_from" fs=none
theorem di(f:Str)(v:V):∀fs:List (Str×V),(cP f v fs).length<=fs.length+1
 |[]=>aB _
 | (g,x)::r=>by
  unfold cP;split
  ·exact qJ _
  ·rw[fO,fO];have:=di f v r;omega
theorem uU:∀(a qs:List (Str×Addr)),((qs++a).map (·.1)).Nodup->j6 (eh Sum.inr qs) (eh Sum.inr a)=eh Sum.inr (qs++a)
 |[],qs,_=>by rw[dJ];rfl
 |p::a,qs,g=>by
  show j6 (dh (eh Sum.inr qs) (Sum.inr p.1) (.ref p.2)) (eh Sum.inr a)=_;have e:qs++p::a=(qs++[p])++a:=by simp
  rw[e]at g ⊢;have f:p.1∉qs.map (·.1):=by
   rw[av,av,dk]at g;have:=g.1;rw[dk]at this;intro z;exact this.2.2 _ z _ (by simp) rfl
  rw[iu _ (ni jJ f)];have:=uU a (qs++[p]) g;rw[<-this];have h:eh (Sum.inr:Str->fG) (qs++[p])=eh Sum.inr qs++[(Sum.inr p.1,V.ref p.2)]:=by
   unfold eh;rw[av];rfl
  rw[h]
inductive tq(C:Addr)(vs:List V)(H:Hp)(Q:VK)(E:XK):Prop
 |mk (x dx l1 l2 l3 l4:Addr) (ts:Ze) (J0 J1 J2:Zb) (ds:List ak):(vs=[.ref x,.ref l1,.ref l2,.ref l3,.ref l4])->(H x=some (.ins C dx []))->(Lists H l1 l2 l3 l4 ts J0 J1 J2 ds)->(aP J0 J1 J2 ds)->(∀H',bU C H' x J0 J1 J2 ds->bC x H H'->Q .non H')->tq C vs H Q E
theorem Lists.exI{H f:Hp}{x C r:Addr}{fs:List (Str×V)}{g i l3 j:Addr}{k:Ze}{l m n:Zb}{o:List ak}(h:Lists H g i l3 j k l m n o)(p:H x=some (.ins C r fs))(e:bC x H f):Lists f g i l3 j k l m n o:=by
 have ne:∀{b:Addr}{q:List V},H b=some (.lst q)->b≠x:=fun a z=>by rw[z,p]at a;cases a
 exact⟨e _ _ h.a1 (ne h.a1),e _ _ h.a2 (ne h.a2),e _ _ h.a3 (ne h.a3),e _ _ h.a4 (ne h.a4),h.ds.kt fun b q a=>e _ _ a fun z=>by rw[z,p]at a;cases a⟩
theorem bC.ktI{H f:Hp}{x C g:Addr}{fs:List (Str×V)}(e:bC x H f)(h:H x=some (.ins C g fs)):gv H f:=fun b i a=>e _ _ a fun z=>by rw[z,h]at a;cases a
theorem bC.neI{H:Hp}{x C e:Addr}{fs:List (Str×V)}(f:H x=some (.ins C e fs)){b:Addr}{g:List V}(a:H b=some (.lst g)):b≠x:=fun z=>by rw[z,f]at a;cases a
theorem Hr{H:Hp}{x C f:Addr}{fs:List (Str×V)}(g:H x=some (.ins C f fs)){b:Addr}{a:List (fG×V)}(e:H b=some (.dK a)):b≠x:=fun z=>by rw[z,g]at e;cases e
theorem JX{H:Hp}{x C f:Addr}{fs:List (Str×V)}(g:H x=some (.ins C f fs)){b:Addr}{a:List (TK×V)}(e:H b=some (.dT a)):b≠x:=fun z=>by rw[z,g]at e;cases e
structure MC(K:Za)(C:Addr):Prop where
 cls:BN K C
 a1:cX K C "own_asks"
 a2:cX K C "own_says"
 a3:cX K C "own_rooms"
 a4:cX K C "own_doors"
 a5:cX K C "leaving"
 a6:cX K C "quiet"
 a7:cX K C "sign_goals"
 a8:cX K C "still_led"
theorem mK{H:Hp}{x C a:Addr}{fs:List (Str×V)}(f:Str)(y:V)(g:H x=some (.ins C a fs)):∃e,e=upd H x (.ins C a (cP f y fs))/\e x=some (.ins C a (cP f y fs))/\bC x H e :=
 ⟨_,rfl,aa,bC.upd _ _ _⟩
theorem cr{p:Str->Bool}{a:Zb}{i:Nat}{w:Str}(h:a[i]?=some w):(a.take (i+1)).filter p=(a.take i).filter p++(if p w=true then[w]else[]):=by
 rw[take_snoc h,iF];congr 1;by_cases c:p w=true
 ·rw[if_pos c];simp[c]
 ·rw[if_neg c];simp[c]
theorem CU(a:List ak)(r:Str):(cI a r).length<=a.length:=cO _ _
theorem aP.sg0{a f g:Zb}{ds:List ak}(m:aP a f g ds){r:Str}:∀d∈cI ds r,d.sg≠[]:=by
 intro d h;have:=m.good d (fQ.mp h).1;rcases this.sg with⟨w,_,e⟩|⟨w,_,e⟩|e<;>rw[e]<;>exact List.cons_ne_nil _ _
theorem IW{K:Za}{C:Addr}(M:MC K C){B:List V}{H:Hp}{Q:VK}{E:XK}(h:tq C B H Q E):
  ox K sp_need_none sp_first_led_round yY pC (sp_as_keys K) sp_has_asks_alone sp_doors_by_start sp_need_parts (bj Q) (start oU B) H:=by
 obtain⟨x,G,l1,l2,l3,l4,ts,J0,J1,I,ds,rfl,hx,L,m,k⟩:=h;have z3:=m.rooms26;have z4:=m.few;refine⟨_,rfl,_,rfl,_,rfl,_,rfl,l1,l2,l3,l4,ts,J0,J1,I,ds,rfl,L,m,fun H1 S1=>?_⟩;have a0:=S1 _ _ hx;have L1:=L.same S1;have E1:bC x H H1:=ab.exB S1;refine⟨_,rfl,.inl ⟨l1,_,rfl,.inl (aw.of L1.a1),fun o1 a9=>⟨_,rfl,x,C,G,_,rfl,kp a0 a9,M.cls,M.a1,(by show 0<1000;decide),?_⟩⟩⟩;obtain⟨H2,e2,bc,F2⟩:=mK "own_asks" (.ref o1) (kp (x:=.lst (J0.map V.str)) a0 a9);rw[<-e2];have n1:o1≠x:=(ae a0 a9).symm;have f1:=F2 _ _ aa n1;have E2:bC x H1 H2:=(bC.new a9).trans F2;have cc:=L1.exI a0 E2;have dy:(cP ("own_asks":Str) (.ref o1) []).length<=1:=di _ _ _;clear e2 F2;refine⟨_,rfl,.inl ⟨l2,_,rfl,.inl (aw.of cc.a2),fun o2 bd=>⟨_,rfl,x,C,G,_,rfl,kp bc bd,M.cls,M.a2,by omega,?_⟩⟩⟩;obtain⟨H3,e3,bi,F3⟩:=mK "own_says" (.ref o2) (kp (x:=.lst (J1.map V.str)) bc bd);rw[<-e3];have n2:o2≠x:=(ae bc bd).symm;have f2:=F3 _ _ aa n2;have E3:bC x H2 H3:=(bC.new bd).trans F3;have L3:=cc.exI bc E3;have dT:=di ("own_says":Str) (.ref o2) (cP ("own_asks":Str) (.ref o1) []);clear e3 F3;refine⟨_,rfl,.inl ⟨l3,_,rfl,.inl (aw.of L3.a3),fun o3 bl=>⟨_,rfl,x,C,G,_,rfl,kp bi bl,M.cls,M.a3,by omega,?_⟩⟩⟩;obtain⟨H4,e4,bm,F4⟩:=mK "own_rooms" (.ref o3) (kp (x:=.lst (I.map V.str)) bi bl);rw[<-e4];have n3:o3≠x:=(ae bi bl).symm;have f3:=F4 _ _ aa n3;have E4:bC x H3 H4:=(bC.new bl).trans F4;have L4:=L3.exI bi E4;have dV:=di ("own_rooms":Str) (.ref o3) (cP ("own_says":Str) (.ref o2) (cP ("own_asks":Str) (.ref o1) []));clear e4 F4;refine⟨_,rfl,.inl ⟨l4,_,rfl,.inl (aw.of L4.a4),fun o4 bn=>⟨_,rfl,x,C,G,_,rfl,kp bm bn,M.cls,M.a4,by omega,?_⟩⟩⟩;obtain⟨H5,e5,n,F5⟩:=mK "own_doors" (.ref o4) (kp (x:=.lst (ts.map V.ref)) bm bn);rw[<-e5];have n4:o4≠x:=(ae bm bn).symm;have f4:=F5 _ _ aa n4;have E5:bC x H4 H5:=(bC.new bn).trans F5;have L5:=L4.exI bm E5;generalize b1:cP ("own_doors":Str) (.ref o4) (cP ("own_rooms":Str) (.ref o3) (cP ("own_says":Str) (.ref o2) (cP ("own_asks":Str) (.ref o1) [])))=s at n;have d0:s.length<=4:=by
  rw[<-b1];have:=di ("own_doors":Str) (.ref o4) (cP ("own_rooms":Str) (.ref o3) (cP ("own_says":Str) (.ref o2) (cP ("own_asks":Str) (.ref o1) [])));omega
 clear e5 F5;refine⟨_,rfl,_,rfl,l3,l4,ts,I,ds,rfl,L5.a3,L5.a4,L5.ds,m.okR.1,by omega,by omega,fun d hd=>(m.good d hd).a,fun O bu d4 T U b2 S6=>⟨_,rfl,x,C,G,s,rfl,S6 _ _ n,M.cls,M.a5,by omega,?_⟩⟩;obtain⟨H6,e6,u,F6⟩:=mK "leaving" (.ref O) (S6 _ _ n);rw[<-e6];have E6:bC x H5 H6:=(ab.exB S6).trans F6;have L6:=L5.exI n E6;have b3:=F6 _ _ U (Hr (S6 _ _ n) U);have cd:∀y∈bu,∃A,H6 y.2=some (.lst (A.map V.ref))/\cY H6 A (cI ds y.1):=fun y hy=>by
  obtain⟨A,J,g2⟩:=b2 y hy;exact⟨A,F6 _ _ J (bC.neI (S6 _ _ n) J),g2.kt (F6.ktI (S6 _ _ n))⟩
 have cv:(bu.map (·.1)).Nodup:=by rw[T];exact m.okR.1
 have d1:=di ("leaving":Str) (.ref O) s;have c0:lk "leaving" (cP ("leaving":Str) (.ref O) s)=some (.ref O):=by
  show fI _ _=_;rw[aV,if_pos rfl]
 clear e6 F6 U b2;refine⟨_,rfl,l3,rfl,⟨_,aw.of L6.a3⟩,fun f hf=>?_⟩
 let c1:Nat->List V->Hp->Prop:=fun i B H'=>B=((I.take i).filter (gH ds)).map V.str/\ab H6 H'/\H' f=some (.lst B)
 refine bX (xs:=I.map V.str) c1 ⟨rfl,ab.new hf,aa⟩ (fun i B H' _ ⟨_,S,h'⟩=>⟨h',aw.of (S _ _ L6.a3)⟩) ?_ ?_;rotate_left
 ·rintro i B H' x' b4 hi ⟨rfl,S,f'⟩;obtain⟨r,hr,rfl⟩:=bH b4;obtain⟨⟨r',a⟩,ce,er⟩:=aQ.mp (show r∈bu.map (·.1) by rw[T];exact bT hr);obtain rfl:r'=r:=er;obtain⟨A,c2,c3⟩:=cd _ ce;refine gN ?_;refine⟨_,rfl,x,C,G,_,.ref O,rfl,S _ _ u,M.cls,M.a5,c0,_,rfl,O,.ref a,rfl,.inl ⟨_,.inr r',.inl (S _ _ b3),rfl,(fA jJ cv ce).symm⟩,a,A,cI ds r',rfl,S _ _ c2,c3.kt (ab.kt S),aE (CU _ _) (by omega),m.sg0,fun bw l=>⟨_,rfl,?_⟩⟩;have cf:(((I.take i).filter (gH ds)).map V.str).length<aj:=by
   rw[ah];refine ao (aE (cO _ _) ?_);rw[aI];omega
  refine iS (fun hq=>?_) (fun hq=>?_)
  ·refine⟨_,rfl,l _ _ f',cf,mF hi ⟨?_,?_,aa⟩⟩
   ·rw[cr hr,if_pos (show gH ds r'=true from hq),av];rfl
   ·intro b o q;rw[ai (ae q hf)];exact l _ _ (S _ _ q)
  ·refine mF hi ⟨?_,S.trans l,?_⟩
   ·rw[cr hr,if_neg (show ¬gH ds r'=true from hq),dJ]
   ·exact l _ _ f'
 rintro B d5 ⟨rfl,S7,f7⟩;rw[ah,be]at f7;refine rC (ws:=I.filter (gH ds)) (aw.of f7) (aE (cO _ _) (by omega)) fun qu bz=>⟨_,rfl,x,C,G,_,rfl,kp (S7 _ _ u) bz,M.cls,M.a6,by omega,?_⟩;obtain⟨H7,e7,al,F7⟩:=mK "quiet" (.ref qu) (kp (x:=.dK (aY (I.filter (gH ds)))) (S7 _ _ u) bz);rw[<-e7];have n7:qu≠x:=(ae (S7 _ _ u) bz).symm;have c4:=F7 _ _ aa n7;have E7:bC x H6 H7:=((ab.exB S7).trans (bC.new bz)).trans F7;have L7:=L6.exI u E7;have d2:=di ("quiet":Str) (.ref qu) (cP ("leaving":Str) (.ref O) s);clear e7 F7;refine⟨_,rfl,l4,ts,ds,rfl,L7.a4,L7.ds,by omega,fun sg b5 d7 G' S8=>⟨_,rfl,x,C,G,_,rfl,S8 _ _ al,M.cls,M.a7,by omega,?_⟩⟩;obtain⟨H8,e8,v,F8⟩:=mK "sign_goals" (.ref sg) (S8 _ _ al);rw[<-e8];have E8:bC x H7 H8:=(ab.exB S8).trans F8;have L8:=L7.exI al E8;have G8:jM H8 sg b5 ds:=⟨G'.nd,F8 _ _ G'.g (JX (S8 _ _ al) G'.g),fun y hy=>F8 _ _ (G'.ls y hy) (bC.neI (S8 _ _ al) (G'.ls y hy)),G'.all⟩;have d3:=di ("sign_goals":Str) (.ref sg) (cP ("quiet":Str) (.ref qu) (cP ("leaving":Str) (.ref O) s));have c5:lk "sign_goals" (cP ("sign_goals":Str) (.ref sg) (cP ("quiet":Str) (.ref qu) (cP ("leaving":Str) (.ref O) s)))=some (.ref sg):=by
  show fI _ _=_;rw[aV,if_pos rfl]
 clear e8 F8 G';refine⟨_,rfl,l3,rfl,⟨_,aw.of L8.a3⟩,fun bI ch=>?_⟩
 let c8:Nat->List V->Hp->Prop:=fun i B H'=>Ij fun(A:Ze) (pl:List (Str×Addr))=>Lw (B=A.map V.ref) (Paired (fun t (p:Str×Addr)=>H' t=some (.tup [.str p.1,.ref p.2])) A pl) (pl.map (·.1)=I.take i) ((∀p∈pl,∃L,H' p.2=some (.dK (aY L))/\L.Nodup/\∀w,w∈L↔Reach ds p.1 w)) (ab H8 H') (H' bI=some (.lst B))
 refine bX (xs:=I.map V.str) c8
  ⟨[],[],rfl,.nil,rfl,by simp,ab.new ch,aa⟩ (fun i B H' _ ⟨_,_,_,_,_,_,S,h'⟩=>⟨h',aw.of (S _ _ L8.a3)⟩) ?_ ?_
 rotate_left
 ·rintro i B H' x' b4 hi ⟨A,pl,rfl,an,cl,dc,S,f'⟩;obtain⟨r,hr,rfl⟩:=bH b4;have dd:A.length<=150:=by
   rw[Paired.length an,<-ah (f:=(·.1)) (as:=pl),cl,aI];omega
  refine gN (pc ?_);refine⟨_,rfl,_,rfl,x,C,G,_,.ref sg,rfl,S _ _ v,M.cls,M.a7,c5,_,rfl,sg,r,b5,ds,I,rfl,G8.same S,fun d hd=>(m.good d hd).b,by omega,fun ld Lr bw dg nd dm d8 l=>⟨(by show 2<=aj;decide),fun t ht=>⟨?_,?_,mF hi ⟨A++[t],pl++[(r,ld)],?_,?_,?_,?_,?_,aa⟩⟩⟩⟩
  ·exact kp (l _ _ f') ht
  ·rw[ah];exact ao (by omega)
  ·rw[av];rfl
  ·have KT:gv (upd bw t (.tup [.str r,.ref ld])) (upd (upd bw t (.tup [.str r,.ref ld])) bI (.lst (A.map V.ref++[.ref t]))):=eW (kp (l _ _ f') ht);exact Paired.app (Paired.mapP an fun t' p' e=>KT _ _ (kp (l _ _ e) ht)) (.cons (KT _ _ aa) .nil)
  ·rw[av,cl,take_snoc hr];rfl
  ·have cm:∀{b:Addr}{dn:List (fG×V)},upd bw t (.tup [.str r,.ref ld]) b=some (.dK dn)->b≠bI:=fun hb z=>by rw[z,kp (l _ _ f') ht]at hb;cases hb
   intro p hp;rcases bL.mp hp with hp|hp
   ·obtain⟨L0,J,g2⟩:=dc p hp;refine⟨L0,?_,g2⟩;have:=kp (x:=.tup [.str r,.ref ld]) (l _ _ J) ht;rw[ai (cm this)];exact this
   ·have:p=(r,ld):=by simpa using hp
    subst this;refine⟨Lr,?_,nd,dm⟩;have:=kp (x:=.tup [.str r,.ref ld]) dg ht;rw[ai (cm this)];exact this
  ·intro b o q;rw[ai (ae q ch)];exact kp (l _ _ (S _ _ q)) ht
 rintro B d9 ⟨A,sps,rfl,an,D,co,S9,f9⟩;rw[ah,be]at D;have dp:(sps.map (·.1)).Nodup:=by rw[D];exact m.okR.1
 refine⟨bI,A,eh Sum.inr sps,rfl,aw.of f9,?_,?_,fun sl N=>⟨_,rfl,x,C,G,_,rfl,kp (S9 _ _ v) N,M.cls,M.a8,by omega,?_⟩⟩
 ·rw[Paired.length an];unfold eh;rw[ah]
 ·intro j t kv hj b6;obtain⟨p,hp,e⟩:=Paired.getL an hj;unfold eh at b6;rw[cF,hp]at b6;have:=fJ b6;rw[<-this];exact e
 have bS:j6 [] (eh Sum.inr sps)=eh Sum.inr sps:=uU sps [] dp;rw[bS];obtain⟨H9,e9,b7,F9⟩:=mK "still_led" (.ref sl) (kp (x:=.dK (eh Sum.inr sps)) (S9 _ _ v) N);rw[<-e9];have n9:sl≠x:=(ae (S9 _ _ v) N).symm;have cp:=F9 _ _ aa n9;have E9:bC x H8 H9:=((ab.exB S9).trans (bC.new N)).trans F9;have L9:=L8.exI v E9;have ap:∀p∈sps,∃L,H9 p.2=some (.dK (aY L))/\L.Nodup/\∀w,w∈L↔Reach ds p.1 w:=fun p hp=>by
  obtain⟨L0,J,g2⟩:=co p hp;have g3:=kp (x:=.dK (eh Sum.inr sps)) J N;exact⟨L0,F9 _ _ g3 (Hr (kp (S9 _ _ v) N) g3),g2⟩
 clear e9 F9;have cs:lk "still_led" (cP ("still_led":Str) (.ref sl) (cP ("sign_goals":Str) (.ref sg) (cP ("quiet":Str) (.ref qu) (cP ("leaving":Str) (.ref O) s))))=some (.ref sl):=by
  show fI _ _=_;rw[aV,if_pos rfl]
 refine⟨_,rfl,_,rfl,x,C,G,_,.ref sl,rfl,b7,M.cls,M.a8,cs,l3,sl,I,sps,rfl,L9.a3,cp,D,m.okR.1,fun p hp=>?_,fun ct aC=>⟨_,rfl,k ct ?_ ?_⟩⟩
 ·obtain⟨L0,J,g2,g3⟩:=ap p hp;exact⟨L0,J,fun z=>m.noround _ ((g3 _).mp z)⟩
 ·have b8:bC x H6 H9:=(E7.trans E8).trans E9;have dr:=((E6.trans E7).trans E8).trans E9;have Y:∀{b:Addr}{o:HO},H9 b=some o->ct b=some o:=fun h=>aC _ _ h;have LL:Lists H5 o1 o2 o3 o4 ts J0 J1 I ds:=⟨(E3.trans (E4.trans E5)) _ _ f1 n1,(E4.trans E5) _ _ f2 n2,E5 _ _ f3 n3,f4,L5.ds⟩;refine⟨⟨G,_,o1,o2,o3,o4,O,qu,sg,sl,ts,bu,b5,sps,Y b7,?_,?_,?_,?_,?_,?_,?_,?_,?_,?_,?_,cs,(LL.exI n dr).same aC,T,?_,?_,?_,?_,D,Y cp,fun p hp=>?_⟩,m,⟨G,_,Y b7,?_,?_,?_,?_⟩⟩
  rotate_right 9
  ·exact Y (b8 _ _ b3 (Hr u b3))
  ·intro y hy;obtain⟨dv,J,g2⟩:=cd y hy;exact⟨dv,Y (b8 _ _ J (bC.neI u J)),(g2.kt (b8.ktI u)).kt (ab.kt aC)⟩
  ·exact Y ((E8.trans E9) _ _ c4 n7)
  ·exact jM.same ⟨G8.nd,E9 _ _ G8.g (JX v G8.g),fun y hy=>E9 _ _ (G8.ls y hy) (bC.neI v (G8.ls y hy)),G8.all⟩ aC
  ·obtain⟨L0,J,g2⟩:=ap p hp;exact⟨L0,Y J,g2⟩
  all_goals(show fI _ _=_;subst b1;repeat (rw[aV];first|rw[if_pos rfl] | rw[if_neg (by decide +kernel)]))
  all_goals rfl
 ·exact((((((((E1.trans E2).trans E3).trans E4).trans E5).trans E6).trans E7).trans E8).trans E9).trans (ab.exB aC)
theorem Jw(a b:Str):decide (gu a=gu b)=decide (a=b):=by
 by_cases e:a=b
 ·rw[zzr1 e,zzr1 (by rw[e])]
 ·rw[zzr0 e,zzr0 (fun z=>e (pI z))]
theorem bU.by{C:Addr}{H e:Hp}{x:Addr}{s t u:Zb}{v:List ak}(h:bU C H x s t u v)
  (j:∀b w,H b=some (.lst (List.map V.str w))->e b=some (.lst (List.map V.str w))) (z:∀b k,H b=some (.lst (List.map V.ref k))->e b=some (.lst (List.map V.ref k))) (A:gv H e)
  (l:∀b a,H b=some (.dK a)->e b=some (.dK a)) (D:∀b a,H b=some (.dT a)->e b=some (.dT a)) (B:∀b C f fs,H b=some (.ins C f fs)->e b=some (.ins C f fs)):bU C e x s t u v:=by
 obtain⟨f,fs,E,I,J,M,N,O,Q,T,k,m,n,o,U,a1,a2,a3,Y,b1,b2,b3,b4,b5,b6,b7,b8,L,c1,c2,c3,c4,G,d1,d2,d3⟩:=h.at_;refine⟨⟨f,fs,E,I,J,M,N,O,Q,T,k,m,n,o,B _ _ _ _ U,a1,a2,a3,Y,b1,b2,b3,b4,b5,b6,b7,b8,⟨j _ _ L.a1,j _ _ L.a2,j _ _ L.a3,z _ _ L.a4,L.ds.kt A⟩,c1,l _ _ c2,fun y i=>?_,l _ _ c4,⟨G.nd,D _ _ G.g,fun y i=>j _ _ (G.ls y i),G.all⟩,d1,l _ _ d2,fun y i=>?_⟩,h.ok,by obtain⟨f,fs,g,r⟩:=h.more;exact⟨f,fs,B _ _ _ _ g,r⟩⟩
 ·obtain⟨us,p,q⟩:=c3 y i;exact⟨us,z _ _ p,q.kt A⟩
 ·obtain⟨L0,p,q⟩:=d3 y i;exact⟨L0,l _ _ p,q⟩
theorem bU.same{C:Addr}{H a:Hp}{x:Addr}{f g i:Zb}{j:List ak}(h:bU C H x f g i j)(S:ab H a):bU C a x f g i j :=
 h.by (fun _ _ e=>S _ _ e) (fun _ _ e=>S _ _ e) (ab.kt S) (fun _ _ e=>S _ _ e) (fun _ _ e=>S _ _ e) (fun _ _ _ _ e=>S _ _ e)
inductive jD(C:Addr)(vs:List V)(H:Hp)(Q:VK)(E:XK):Prop
 |mk (x:Addr) (w:Str) (J0 J1 J2:Zb) (ds:List ak):(vs=[.ref x,.str w])->(bU C H x J0 J1 J2 ds)->(Q (.bl (decide (w∈J2.filter (gH ds)))) H)->jD C vs H Q E
theorem AM{K:Za}{C:Addr}(M:MC K C){a:List V}{H:Hp}{Q:VK}{E:XK}(h:jD C a H Q E):oq K (bj Q) (start oT a) H:=by
 obtain⟨x,w,o,p,q,r,rfl,h,k⟩:=h;obtain⟨f,fs,s,t,u,v,y,e,z,A,B,g,i,j,l,a1,a2,a3,D,G,I,J,N,O,m,T,U,L,Y,c2,c3,n,_⟩:=h.at_;refine⟨_,rfl,_,rfl,x,C,f,fs,.ref e,rfl,l,M.cls,M.a6,m,e,_,rfl,.inl ⟨_,.inr w,.inl n,rfl,rfl⟩,?_⟩;rw[fC];exact k
def cA:List Str:=[("hush":Str)]
inductive k9(C:Addr)(vs:List V)(H:Hp)(Q:VK)(E:XK):Prop
 |mk (t l1 l2 l3 l4:Addr) (ts:Ze) (J0 J1 J2:Zb) (ds:List ak):(vs=[.ref t])->(gR H t l1 l2 l3 l4 ts J0 J1 J2 ds)->(aP J0 J1 J2 ds)->(∀(x:Addr) (H':Hp),bU C H' x J0 J1 J2 ds->ab H H'->Q (.ref x) H')->k9 C vs H Q E
theorem CB{K:Za}{C:Addr}{D:List V}{H:Hp}{Q:VK}{E:XK}(h:k9 C D H Q E):vQ K C (tq C) (bj Q) (start ww D) H:=by
 obtain⟨t,N,O,U,Y,f,g,i,j,ds,rfl,T,m,k⟩:=h;refine⟨_,rfl,.inr (.inl ⟨t,_,0,_,rfl,rfl,bQ.of T.t,rfl,.inl ⟨N,_,rfl,.inl (aw.of T.a1),fun s G=>?_⟩⟩)⟩;have u:=T.same (ab.new (o:=.lst (g.map V.str)) G);refine⟨_,rfl,.inr (.inl ⟨t,_,1,_,rfl,rfl,bQ.of u.t,rfl,.inl ⟨O,_,rfl,.inl (aw.of u.a2),fun v w=>?_⟩⟩)⟩;have y:=u.same (ab.new (o:=.lst (i.map V.str)) w);refine⟨_,rfl,.inr (.inl ⟨t,_,2,_,rfl,rfl,bQ.of y.t,rfl,.inl ⟨U,_,rfl,.inl (aw.of y.a3),fun z p=>?_⟩⟩)⟩;have A:=y.same (ab.new (o:=.lst (j.map V.str)) p);refine⟨_,rfl,.inr (.inl ⟨t,_,3,_,rfl,rfl,bQ.of A.t,rfl,.inl ⟨Y,_,rfl,.inl (aw.of A.a4),fun B l=>?_⟩⟩)⟩;have T4:=A.same (ab.new (o:=.lst (f.map V.ref)) l);have I:=(((ab.new (o:=.lst (g.map V.str)) G).trans (ab.new (o:=.lst (i.map V.str)) w)).trans (ab.new (o:=.lst (j.map V.str)) p)).trans (ab.new (o:=.lst (f.map V.ref)) l);refine fun x r J a n=>?_;have L:ab H (upd (upd (upd (upd (upd (upd H s (.lst (g.map V.str))) v (.lst (i.map V.str))) z (.lst (j.map V.str))) B (.lst (f.map V.ref))) r (.own x)) x (.ins C r [])) :=
  (I.trans (ab.new a)).trans (ab.new (by rw[ai n.symm];exact J))
 have e:upd (upd (upd (upd (upd H s (.lst (g.map V.str))) v (.lst (i.map V.str))) z (.lst (j.map V.str))) B (.lst (f.map V.ref))) r (.own x) x=none:=by rw[ai n.symm];exact J
 refine⟨x,r,s,v,z,B,f,g,i,j,ds,rfl,aa,⟨?_,?_,?_,?_,T.ds.kt (ab.kt L)⟩,m,fun H' M ex=>⟨rfl,k x H' M fun b o q=>?_⟩⟩
 ·exact kp (kp (kp (kp (kp aa w) p) l) a) e
 ·exact kp (kp (kp (kp aa p) l) a) e
 ·exact kp (kp (kp aa l) a) e
 ·exact kp (kp aa a) e
 ·have hq:=L _ _ q;exact ex _ _ hq (ae (I.trans (ab.new a) _ _ q) e)
def gO(ds:List ak):List Str:=(ds.filter fun d=>!mH d).map (·.a)
theorem CH(e:List ak)(r:Str):gH e r=decide (r∉gO e):=by
 unfold gH gO cI;rw[wD,List.all_eq_true,decide_eq_true_iff];constructor
 ·intro h z;obtain⟨d,a,rfl⟩:=aQ.mp z;rw[fQ]at a;have:=h d (fQ.mpr ⟨a.1,zzr1 rfl⟩);rw[this]at a;exact absurd a.2 (by decide)
 ·intro h d a;rw[fQ]at a;cases q:mH d with
  |true=>rfl
  |false =>
   refine absurd (aQ.mpr ⟨d,fQ.mpr ⟨a.1,by rw[q];rfl⟩,?_⟩) h;exact of_decide_eq_true a.2
theorem ng{w:Str}{a:Zb}:gu w∈a.map gu↔w∈a:=by
 constructor
 ·intro h;obtain⟨x,f,e⟩:=aQ.mp h;rw[<-pI e];exact f
 ·exact nW
theorem wV{e:List ak}{i:Nat}{d:ak}(h:e[i]?=some d):gO (e.take (i+1))=gO (e.take i)++(if(!mH d)=true then[d.a]else[]):=by
 unfold gO;rw[take_snoc h,iF,av];congr 1;by_cases c:(!mH d)=true
 ·rw[if_pos c];simp[List.filter_cons,c]
 ·rw[if_neg c];simp[List.filter_cons,c]
def yz(K:Za)(C_Machine:Addr)(sp_Machine_rooms:Sp)(sp_Machine_led_from:Sp):TS :=
 aq (aM (qY) U2)
 (aq (dS (bN K V1) U3 (cu (tB (ib K V3 V2)) (aq (jf V2 V3 (tC (.bl true)))
 (dS (bN K (cn C_Machine "led_from" sp_Machine_led_from [] E0 V0 (ay V3))) U4 (jf V2 V4 (tC (.bl true))))) (bx)))
 (aW (gD (AO K) (ay (cG 1 [2] (bN K (cn C_Machine "rooms" sp_Machine_rooms [] E0 V0 bg)) U0 (tB (Cp K V0 V1)) V0)))))
def zW:List Str:=["M","rooms","found","room","led"]
def sH(K:Za):TS :=
 aW (gD (dU K) (ay (fN K V0 "own_rooms")))
def sZ:List Str:=["self"]
def oo(K:Za):TS :=
 aW (gD (dU K) (ay (yV K (fN K V0 "still_led") V1 (bf (bg)))))
def oS:List Str:=["self","room"]
def sJ(K:Za):TS :=
 aW (gD (dU K) (ay (yV K (fN K V0 "sign_goals") (bf (aX V1 V2)) (bf (bg)))))
def s_:List Str:=["self","room","sign"]
def um(K:Za):TS :=
 aq (aM (gD (dU K) (ay V1)) U2)
 (aq (aM (tC (.int 0)) U3)
 (aq (Ca (aU (aH CG V3 (gD (ir K) (ay V2)))) (aq (dS (bN K V0) (jw K 3 (bt U4 (bt U5 (bt U6 (jr))))) (cu (sQ (aU (aH (mC K) V4 (aH (r8 K) V2 V3))) (sQ (aU (aH (mC K) V5 (bf (ay (tC (.str "still")))))) (aU (aH (pL K true) V6 V2)))) (cN (DV K "list" ig V2 (ay V6))) (bx)))
 (aM (aH dB V3 (tC (.int 1))) U3)))
 (aW V2)))
def vz:List Str:=["doors","rooms","found","at","room","sign","other"]
inductive ko(C:Addr)(vs:List V)(H:Hp)(Q:VK)(E:XK):Prop
 |mk (x:Addr) (J0 J1 J2:Zb) (ds:List ak):(vs=[.ref x])->(bU C H x J0 J1 J2 ds)->(∀l,H l=none->Q (.ref l) (upd H l (.lst (J2.map V.str))))->ko C vs H Q E
theorem GJ{K:Za}{C:Addr}(M:MC K C){a:List V}{H:Hp}{Q:VK}{E:XK}(h:ko C a H Q E):sH K (bj Q) (start sZ a) H:=by
 obtain⟨x,n,o,p,q,rfl,h,k⟩:=h;obtain⟨f,fs,r,s,e,t,u,v,w,y,z,g,i,j,l,a1,a2,a3,A,B,D,m,G,I,J,N,O,L,_⟩:=h.at_;exact⟨_,rfl,x,C,f,fs,.ref e,rfl,l,M.cls,M.a3,m,.inl ⟨e,_,rfl,.inl (aw.of L.a3),k⟩⟩
theorem Ba:∀{L:Zb},L.Nodup->(aY L).map (fun a=>kV a.1)=L.map V.str:=by
 intro L;refine kj (fun L=>L.Nodup->(aY L).map (fun a=>kV a.1)=L.map V.str) (fun _=>rfl) (fun f w g e=>?_) L;rw[dk]at e;have h:bb (aY f) (.inr w)=none:=by
  rw[u3,if_neg (fun z=>e.2.2 w z w (by simp) rfl)]
 show(aY (f++[w])).map _=_;rw[dO,iu _ h,av,g e.1,av]
 rfl
inductive ip(C:Addr)(vs:List V)(H:Hp)(Q:VK)(E:XK):Prop
 |mk (x:Addr) (r:Str) (J0 J1 J2:Zb) (ds:List ak):(vs=[.ref x,.str r])->(bU C H x J0 J1 J2 ds)->(r∈J2)->(∀(l:Addr) (L:Zb) (H':Hp),H' l=some (.lst (L.map V.str))->L.Nodup->(∀w,w∈L↔Reach ds r w)->H l=none->ab H H'->Q (.ref l) H')->ip C vs H Q E
theorem AL{K:Za}{C:Addr}(M:MC K C){j:List V}{H:Hp}{Q:VK}{E:XK}(h:ip C j H Q E):oo K (bj Q) (start oS j) H:=by
 obtain⟨x,r,N,O,T,U,rfl,h,t,k⟩:=h;obtain⟨u,fs,Y,o2,o3,o4,lv,qu,sg,m,ts,v,w,g,y,a1,a2,a3,a4,b1,b2,b3,b4,b5,b6,b7,z,L,c1,c2,c3,c4,G,n,o,A⟩:=h.at_;have i:=h.ok.okR.1;obtain⟨⟨p,a⟩,f,B⟩:=aQ.mp (show r∈g.map (·.1) by rw[n];exact t);obtain rfl:p=r:=B;obtain⟨D,I,q,J⟩:=A _ f;refine⟨_,rfl,x,C,u,fs,.ref m,rfl,y,M.cls,M.a8,z,m,rfl,.inl ⟨_,.inl o⟩,_,rfl,(by show 0<=aj;decide),fun et e=>⟨_,.inl ⟨_,.inr p,.inl (kp o e),rfl,rfl⟩,?_⟩⟩;rw[fA jJ (by rw[n];exact i) f];refine .inr ⟨a,_,rfl,.inl (kp I e),fun l s=>k l D _ ?_ q J ((ab.new e).free s) ((ab.new e).trans (ab.new s))⟩;rw[aa,Ba q]
inductive iW(C:Addr)(vs:List V)(H:Hp)(Q:VK)(E:XK):Prop
 |mk (x s:Addr) (r:Str) (sg J0 J1 J2:Zb) (ds:List ak):(vs=[.ref x,.str r,.ref s])->(bU C H x J0 J1 J2 ds)->(H s=some (.tup (sg.map V.str)))->(∀(l:Addr) (H':Hp),H' l=some (.lst ((bE ds (r,sg)).map V.str))->H l=none->ab H H'->Q (.ref l) H')->iW C vs H Q E
theorem Fd{K:Za}{C:Addr}(M:MC K C){t:List V}{H:Hp}{Q:VK}{E:XK}(h:iW C t H Q E):sJ K (bj Q) (start s_ t) H:=by
 obtain⟨x,s,r,e,Y,J1,J2,w,rfl,h,A,k⟩:=h;obtain⟨B,fs,o1,o2,o3,o4,lv,qu,u,sl,ts,D,m,I,J,a1,a2,a3,a4,b1,b2,b3,b4,b5,b6,N,b8,L,c1,c2,c3,c4,G,d1,d2,d3⟩:=h.at_;have O:=h.ok.okR.1;refine⟨_,rfl,x,C,B,fs,.ref u,rfl,J,M.cls,M.a7,N,u,rfl,.inr ⟨_,.inl G.g⟩,_,rfl,_,rfl,(by show 2<=aj;decide),fun kt j=>⟨(by show 0<=aj;decide),fun v i=>⟨bb (eh vH m) (vH (r,e)),.inr ⟨_,vH (r,e),kt,.inl (kp (kp G.g j) i),rfl,?_,m9 _,rfl⟩,?_⟩⟩⟩
 ·refine cS.isIn 8 (m9 _) ?_;unfold vH cS;refine⟨kt,_,rfl,kp aa i,?_⟩;unfold TKAts;refine⟨_,_,rfl,yv _,?_⟩;unfold TKAts;refine⟨_,_,rfl,SignAt.tk (kp (kp A j) i),?_⟩;unfold TKAts
  rfl
 have n:ab H (upd (upd H kt (.tup [.str r,.ref s])) v (.tup [])):=(ab.new j).trans (ab.new i);by_cases f:(r,e)∈m.map (·.1)
 ·obtain⟨⟨y,a⟩,o,T⟩:=aQ.mp f;obtain rfl:y=(r,e):=T;rw[fA iR G.nd o];exact .inl ⟨a,_,rfl,.inl (aw.of (n _ _ (G.ls _ o))),fun l p=>k l _ aa (n.free p) (n.trans (ab.new p))⟩
 ·rw[ni iR f];have q:bE w (r,e)=[]:=mI fun y U z=>f (by rw[<-z];exact G.all y U);refine .inl ⟨v,[],rfl,.inr (bQ.of aa),fun l p=>k l _ ?_ (n.free p) (n.trans (ab.new p))⟩;rw[q];exact aa
theorem Reach.trans{ds:List ak}{a b c:Str}(e:Reach ds a b)(f:Reach ds b c):Reach ds a c:=by
 induction f with
 |one h=>exact .step e h
 |step r h g=>exact .step g h
def iD(ds:List ak)(gs:Zb)(w:Str):Prop:=∃g∈gs,w=g∨Reach ds g w
theorem iD.in_{e:List ak}{f a:Zb}{w:Str}(i:∀g∈f,g∈a)(j:∀d∈e,d.b∈a)(h:iD e f w):w∈a:=by
 obtain⟨g,k,rfl|h2⟩:=h
 ·exact i _ k
 ·exact h2.in_ j
def sT(F:Zb)(w:Str):List Str:=if w∈F then F else F++[w]
theorem A_(F:Zb):∀e∈aY F,e.2=.bl true:=by
 refine kj (fun F=>∀e∈aY F,e.2=.bl true) (by intro e h;cases h) (fun i w f=>?_) F;intro e a;rw[dO]at a;unfold dh at a;split at a
 ·obtain⟨x,g,rfl⟩:=aQ.mp a;split
  ·rfl
  ·exact f x g
 ·rcases bL.mp a with h|h
  ·exact f e h
  ·have:e=(.inr w,.bl true):=by simpa using h
   rw[this]
theorem u4(F:Zb)(w:Str):dh (aY F) (.inr w) (.bl true)=aY (sT F w):=by
 unfold sT;by_cases c:w∈F
 ·rw[if_pos c];have f:((aY F).any fun a=>decide (a.1=(.inr w:fG)))=true:=by
   rw[ki,fC,zzr1 c]
  unfold dh;rw[if_pos f];have:∀l:List (fG×V),(∀a∈l,a.2=.bl true)->l.map (fun a=>if a.1=(.inr w:fG)then(a.1,V.bl true)else a)=l:=by
   intro l
   induction l with
   |nil=>intro _;rfl
   |cons x l g =>
    intro h;rw[bF,g fun a e=>h a (c7 _ e)];congr 1;split
    ·rw[<-h x cU]
    ·rfl
  exact this _ (A_ F)
 ·rw[if_neg c,dO]
theorem vt{F:Zb}(h:F.Nodup)(w:Str):(sT F w).Nodup:=by
 unfold sT;split
 ·exact h
 ·next c =>
  rw[dk];refine⟨h,by simp,fun a f b g e=>?_⟩;have:b=w:=by simpa using g
  exact c (by rw[<-this,<-e];exact f)
theorem A9{F:Zb}{w y:Str}:y∈sT F w↔y∈F∨y=w:=by
 unfold sT;split
 ·next c=>exact⟨.inl,fun h=>h.elim id fun e=>by rw[e];exact c⟩
 ·rw[bL];simp
inductive sp_with_still(C:Addr)(vs:List V)(H:Hp)(Q:VK)(E:XK):Prop
 |mk (x l:Addr) (gs J0 J1 J2:Zb) (ds:List ak):(vs=[.ref x,.ref l])->(bU C H x J0 J1 J2 ds)->(H l=some (.lst (gs.map V.str)))->((∀g∈gs,g∈J2))->(∀(t:Addr) (F:Zb) (H':Hp),H' t=some (.tup ((J2.filter fun r=>decide (r∈F)).map V.str))->(∀w,w∈F↔iD ds gs w)->ab H H'->Q (.ref t) H')->sp_with_still C vs H Q E
theorem wd{K:Za}{C:Addr}{D:List V}{H:Hp}{Q:VK}{E:XK}(h:sp_with_still C D H Q E):yz K C (ko C) (ip C) (bj Q) (start zW D) H:=by
 obtain⟨x,l,gs,J0,J1,a,G,rfl,M,hl,hg,k⟩:=h;have T:∀d∈G,d.b∈a:=fun d hd=>(M.ok.good d hd).b;have z3:=M.ok.rooms26;refine fun d hd=>?_;refine⟨_,rfl,l,rfl,⟨_,aw.of (kp hl hd)⟩,?_⟩
 let a6:Nat->L2.St->Hp->Prop:=fun i σ m=>K1 fun(F:Zb) (x3 x4:Option V)=>JK (σ=[some (.ref x),some (.ref l),some (.ref d),x3,x4]) (m d=some (.dK (aY F))) (ab H m) (F.Nodup) (∀w,w∈F↔iD G (gs.take i) w)
 refine bO (xs:=gs.map V.str) a6
  ⟨[],_,_,rfl,aa,ab.new hd,ub,fun w=>⟨fun h=>(by cases h),fun⟨g,h,_⟩=>(by cases h)⟩⟩ (fun i σ m _ ⟨_,_,_,_,_,S,_,_⟩=>aw.of (S _ _ hl)) ?_ ?_
 ·rintro i y σ I hi ⟨F,x3,x4,rfl,s,S1,nd,U⟩;obtain⟨r,hr,rfl⟩:=bH hi;have as:r∈a:=hg r (bT hr);have aC:∀w∈F,w∈a:=fun w hw=>((U w).mp hw).in_ (fun g hg'=>hg g (gW hg')) T;refine⟨_,rfl,_,rfl,d,_,rfl,.inl ⟨_,.inr r,.inl s,rfl,rfl⟩,_,rfl,?_⟩;rw[fC];have u:∀w,iD G (gs.take (i+1)) w↔(iD G (gs.take i) w∨w=r∨Reach G r w):=by
   intro w;rw[take_snoc hr];constructor
   ·rintro⟨g,hg',h⟩;rcases bL.mp hg' with hg'|hg'
    ·exact .inl ⟨g,hg',h⟩
    ·have:g=r:=by simpa using hg'
     subst this;exact .inr h
   ·rintro(⟨g,hg',h⟩|h)
    ·exact⟨g,eg _ hg',h⟩
    ·exact⟨r,eP _ (by simp),h⟩
  by_cases c:r∈F
  ·rw[zzr1 c];refine bA ⟨F,_,_,rfl,s,S1,nd,fun w=>?_⟩;rw[u,U];refine⟨.inl,fun h=>h.elim id fun h=>?_⟩;obtain⟨g,hg',hgr⟩:=(U r).mp c;rcases h with h|h
   ·rw[h];exact⟨g,hg',hgr⟩
   ·refine⟨g,hg',.inr ?_⟩;rcases hgr with e|hgr
    ·rw[<-e];exact h
    ·exact hgr.trans h
  ·rw[zzr0 c];refine bP ?_;have n:∀{F:Zb},F.Nodup->(∀w∈F,w∈a)->(aY F).length<aj:=fun nd hs=>ao (aE (ln _) (aE (mG nd hs) (by omega)));refine⟨_,rfl,_,rfl,d,_,rfl,.inl ⟨_,.inr r,s,rfl,n nd aC,rfl⟩,?_⟩;rw[u4];have Y:ab H (upd I d (.dK (aY (sT F r)))):=fun b o q=>by rw[ai (ae q hd)];exact S1 _ _ q
   have p:upd I d (.dK (aY (sT F r))) d=some (.dK (aY (sT F r))):=aa;generalize upd I d (.dK (aY (sT F r)))=H2 at Y p ⊢;have M2:=M.same Y;obtain⟨dx,fs,o1,o2,o3,o4,lv,qu,sg,sl,ts,a7,a8,a9,g1,a1,a2,a3,a4,_⟩:=M2.at_;refine⟨_,rfl,x,dx,fs,rfl,g1,a3,_,rfl,x,r,J0,J1,a,G,rfl,M2,as,fun ll L H3 a0 bu hL al S3=>⟨ll,rfl,⟨_,aw.of a0⟩,?_⟩⟩;have bc:=S3 _ _ p;have bw:H ll=none:=Y.free al;have bd:ll≠d:=fun z=>by rw[z,p]at al;cases al
   let bi:Nat->L2.St->Hp->Prop:=fun j σ m=>Ij fun(J:Zb) (x4:Option V)=>Lw (σ=[some (.ref x),some (.ref l),some (.ref d),some (.str r),x4]) (m d=some (.dK (aY J))) (m ll=some (.lst (L.map V.str))) (ab H m) (J.Nodup) (∀w,w∈J↔(iD G (gs.take i) w∨w=r∨w∈L.take j))
   refine bO (xs:=L.map V.str) bi
    ⟨sT F r,_,rfl,bc,a0,Y.trans S3,vt nd r,fun w=>?_⟩ (fun j σ m _ ⟨_,_,_,_,h,_,_,_⟩=>aw.of h) ?_ ?_
   ·rw[A9,U];simp
   ·rintro j y σ H4 hj ⟨J,bl,rfl,an,N,S4,B,A⟩;obtain⟨v,hv,rfl⟩:=bH hj;have ap:∀w∈J,w∈a:=by
     intro w hw;rcases(A w).mp hw with h|h|h
     ·exact h.in_ (fun g hg'=>hg g (gW hg')) T
     ·rw[h];exact as
     ·exact((hL w).mp (gW h)).in_ T
    refine⟨_,rfl,_,rfl,d,_,rfl,.inl ⟨_,.inr v,an,rfl,n B ap,rfl⟩,sT J v,_,rfl,?_,?_,?_,vt B v,fun w=>?_⟩
    ·rw[aa,u4]
    ·rw[ai bd];exact N
    ·intro b o q;rw[ai (ae q hd)];exact S4 _ _ q
    ·rw[A9,A,take_snoc hv,bL];simp only[dP];constructor
     ·rintro((h|h|h)|h)
      ·exact .inl h
      ·exact .inr (.inl h)
      ·exact .inr (.inr (.inl h))
      ·exact .inr (.inr (.inr h))
     ·rintro(h|h|h|h)
      ·exact .inl (.inl h)
      ·exact .inl (.inr (.inl h))
      ·exact .inl (.inr (.inr h))
      ·exact .inr h
   ·rintro σ H4 ⟨J,bl,rfl,an,N,S4,B,A⟩;rw[ah,be]at A;refine⟨J,_,_,rfl,an,S4,B,fun w=>?_⟩;rw[u,A,hL]
 ·rintro σ I ⟨F,x3,x4,rfl,s,S1,nd,U⟩;rw[ah,be]at U;have M1:=M.same S1;obtain⟨dx,fs,o1,o2,o3,o4,lv,qu,sg,sl,ts,a7,a8,a9,g1,a1,a2,a3,a4,_⟩:=M1.at_;refine⟨_,rfl,x,dx,fs,rfl,g1,a4,x,J0,J1,a,G,rfl,M1,fun rl a5=>⟨rl,rfl,⟨_,aw.of aa⟩,fun f hf=>?_⟩⟩;have Y:ab H (upd I rl (.lst (a.map V.str))):=S1.trans (ab.new a5);have p:upd I rl (.lst (a.map V.str)) d=some (.dK (aY F)):=kp s a5;have O:upd I rl (.lst (a.map V.str)) rl=some (.lst (a.map V.str)):=aa;generalize upd I rl (.lst (a.map V.str))=H2 at Y p O hf ⊢
  let bm:Nat->List V->Hp->Prop:=fun i D m=>D=((a.take i).filter fun r=>decide (r∈F)).map V.str/\ab H2 m/\m f=some (.lst D)
  refine bX (xs:=a.map V.str) bm ⟨rfl,ab.new hf,aa⟩ (fun i D m _ ⟨_,S,h'⟩=>⟨h',aw.of (S _ _ O)⟩) ?_ ?_
  ·rintro D m ⟨rfl,S,f'⟩;rw[ah,be]at f';exact⟨f,_,rfl,.inl ⟨aw.of f',fun t ht=>k t F _ aa U (Y.trans (S.trans (ab.new ht)))⟩⟩
  ·rintro i D m x' bn hi ⟨rfl,S,f'⟩;obtain⟨r,hr,rfl⟩:=bH bn;refine gN ?_;refine⟨_,rfl,_,rfl,d,_,rfl,.inl ⟨_,.inr r,.inl (S _ _ p),rfl,rfl⟩,_,rfl,?_⟩;rw[fC];have n:(((a.take i).filter fun r=>decide (r∈F)).map V.str).length<aj:=by
    rw[ah];refine ao (aE (cO _ _) ?_);rw[aI];omega
   refine iS (fun hq=>?_) (fun hq=>?_)
   ·refine⟨_,rfl,f',n,mF hi ⟨?_,?_,aa⟩⟩
    ·rw[cr hr,if_pos hq,av];rfl
    ·intro b o q;rw[ai (ae q hf)];exact S _ _ q
   ·refine mF hi ⟨?_,S,f'⟩;rw[cr hr,if_neg hq,dJ]
inductive dL(K:Za)(vs:List V)(H:Hp)(Q:VK)(E:XK):Prop
 |mk (l4 l:Addr) (ts:Ze) (ds:List ak) (gs J2:Zb):(vs=[.ref l4,.ref l])->(H l4=some (.lst (ts.map V.ref)))->(cY H ts ds)->(H l=some (.lst (gs.map V.str)))->((∀d∈ds,d.b∈J2))->(J2.length<=1000)->(gs.length<=1000)->(∀(f:Addr) (F:Zb) (H':Hp),H' f=some (.lst (F.map V.str))->(∀w,w∈F↔iD ds gs w)->F.length<=2000->H f=none->ab H H'->Q (.ref f) H')->dL K vs H Q E
structure SO(H0 H:Hp)(ds:List ak)(gs:Zb)(f:Addr)(X:Zb):Prop where
 f:H f=some (.lst ((gs++X).map V.str))
 same:ab H0 H
 nd:X.Nodup
 new:∀y∈X,y∉gs
 sound:∀y∈X,iD ds gs y
theorem iD.step{ds:List ak}{f:Zb}{a b:Str}(h:iD ds f a)(e:(⟨a,aF,b⟩:ak)∈ds):iD ds f b:=by
 obtain⟨g,i,rfl|h⟩:=h
 ·exact⟨_,i,.inr (.one e)⟩
 ·exact⟨g,i,.inr (.step h e)⟩
theorem fE(a b:Zb):decide (iB a=iB b)=decide (a=b):=by
 by_cases e:a=b
 ·rw[zzr1 e,zzr1 (by rw[e])]
 ·rw[zzr0 e,zzr0 (fun z=>e (Ev z))]
inductive SoI(l4 l f:Addr)(at_:Int)(H:Hp)(ds:List ak)(gs X:Zb)(here:Str)(j:Nat)(σ:L2.St)(H':Hp):Prop
 |mk (X' Y:Zb) (x y z:Option V):σ=[some (.ref l4),some (.ref l),some (.ref f),some (.int at_),x,y,z]->X'=X++Y->SO H H' ds gs f X'->(∀d∈ds.take j,d.a=here->d.sg=aF->d.b∈gs++X')->SoI l4 l f at_ H ds gs X here j σ H'
theorem AI{K:Za}{vs:List V}{H:Hp}{Q:VK}{E:XK}(h:dL K vs H Q E):um K (bj Q) (start vz vs) H:=by
 obtain⟨l4,l,ts,ds,u,J2,rfl,h4,ap,hl,a8,hz,bz,k⟩:=h;refine⟨_,rfl,.inl ⟨l,_,rfl,.inl (aw.of hl),fun f hf=>?_⟩⟩;have M:∀{X:Zb},X.Nodup->(∀y∈X,y∉u)->(∀y∈X,iD ds u y)->X.length<=J2.length:=fun nd nw sd=>mG nd fun y hy=>by
  obtain⟨g,hg,e|h⟩:=sd y hy
  ·exact absurd (by rw[e];exact hg) (nw y hy)
  ·exact h.in_ a8
 refine⟨fun m σ H'=>∃(X:Zb) (p:Nat) (x y z:Option V),σ=[some (.ref l4),some (.ref l),some (.ref f),some (.int p),x,y,z]/\SO H H' ds u f X/\p<=(u++X).length/\(∀i y,i<p->(u++X)[i]?=some y->∀c,(⟨y,aF,c⟩:ak)∈ds->c∈u++X)/\m=u.length+J2.length-p,
  ⟨_,[],0,_,_,_,rfl,⟨by rw[dJ];exact aa,ab.new hf,ub,by simp,by simp⟩,dI _,fun i y h=>by omega,rfl⟩,?_⟩
 rintro m σ H1 ⟨X,p,x4,x5,x6,rfl,D,bI,as,rfl⟩;have bS:=M D.nd D.new D.sound;refine⟨_,rfl,_,rfl,.inl ⟨f,_,rfl,.inl (aw.of D.f),_,_,rfl,rfl,_,rfl,?_⟩⟩;refine iS (fun O=>?_) (fun O=>?_)
 ·have C:p<(u++X).length:=by
   have:=of_decide_eq_true O;rw[ah]at this;omega
  have bn:p<u.length+J2.length:=by rw[a_]at C;omega
  generalize T:(u++X)[p]=here;have J:(u++X)[p]?=some here:=by rw[<-T];exact da C
  have U:∀{Y:Zb}{y:Str},(∀y∈Y,iD ds u y)->y∈u++Y->iD ds u y:=fun sd hy=>by
   rcases bL.mp hy with hy|hy
   ·exact⟨_,hy,.inl rfl⟩
   ·exact sd _ hy
  refine⟨fun σ' H'=>∃(N:Zb) (x y z:Option V),σ'=[some (.ref l4),some (.ref l),some (.ref f),some (.int ((p+1:Nat):Int)),x,y,z]/\SO H H' ds u f N/\p+1<=(u++N).length/\(∀i y,i<p+1->(u++N)[i]?=some y->∀c,(⟨y,aF,c⟩:ak)∈ds->c∈u++N),
   fun σ' H' ⟨N,x,y,z,e,D',h1,h2⟩=>⟨_,(by omega:u.length+J2.length-(p+1)<u.length+J2.length-p),N,p+1,x,y,z,e,D',h1,h2,rfl⟩,?_⟩
  refine⟨_,rfl,l4,rfl,⟨_,aw.of (D.same _ _ h4)⟩,?_⟩;refine bO (xs:=ts.map V.ref) (SoI l4 l f p H ds u X here)
   ⟨X,[],_,_,_,rfl,by simp,D,by simp⟩ (fun j σ H' _ ⟨_,_,_,_,_,_,_,D',_⟩=>aw.of (D'.same _ _ h4)) ?_ ?_
  ·rintro j y σ H2 hj ⟨N,Y,a9,bc,bd,rfl,rfl,G,A⟩;obtain⟨t,ht,rfl⟩:=bY hj;obtain⟨v,aC,a0⟩:=Paired.getL ap ht;obtain⟨s,bi,bl⟩:=a0.kt (ab.kt G.same);have a4:=bT aC;have bu:=M G.nd G.new G.sound;have al:(u++(X++Y))[p]?=some here:=by
    rw[<-eQ,uh C];exact J
   refine⟨t,_,rfl,bQ.of bi,rfl,_,_,rfl,_,_,rfl,_,_,rfl,rfl,?_⟩;have B:∀(H3:Hp) (X3 Y3:Zb) (q4 q5 q6:Option V),X3=X++Y3->SO H H3 ds u f X3->(∀y∈X++Y,y∈X3)->(v.a=here->v.sg=aF->v.b∈u++X3) ->
     SoI l4 l f p H ds u X here (j+1) [some (.ref l4),some (.ref l),some (.ref f),some (.int p),q4,q5,q6] H3:=by
    intro H3 X3 Y3 q4 q5 q6 e I a5 a6;refine⟨X3,Y3,q4,q5,q6,rfl,e,I,fun d hd e1 e2=>?_⟩;rw[take_snoc aC]at hd;rcases bL.mp hd with hd|hd
    ·rcases bL.mp (A d hd e1 e2)with h|h
     ·exact eg _ h
     ·exact eP _ (a5 _ h)
    ·have:d=v:=by simpa using hd
     subst this;exact a6 e1 e2
   refine⟨_,rfl,_,rfl,_,rfl,.inl ⟨f,_,_,_,rfl,rfl,aw.of G.f,ca (j:=p) (by rw[cF,al];rfl),gu v.a,gu here,nR _,nR _,(by show 0<=8;decide),(by show 0<=8;decide),_,rfl,?_⟩⟩;rw[Jw];by_cases c1:v.a=here;rotate_left
   ·rw[zzr0 c1];exact bA (bA (B H2 _ _ _ _ _ rfl G (fun _ h=>h) fun e=>absurd e c1))
   rw[zzr1 c1];refine bP ?_;refine⟨_,rfl,(by show 1<=aj;decide),fun st L=>⟨iB v.sg,iB aF,aZ (bQ.of (kp bl L)),aZ (bQ.of aa),by rw[bJ];decide,by rw[bJ];decide,_,rfl,?_⟩⟩;rw[fE];have I:SO H (upd H2 st (.tup [.str "still"])) ds u f (X++Y):=⟨kp G.f L,G.same.trans (ab.new L),G.nd,G.new,G.sound⟩;have bw:H st=none:=G.same.free L;generalize upd H2 st (.tup [.str "still"])=H3 at I ⊢;by_cases c2:v.sg=aF;rotate_left
   ·rw[zzr0 c2];exact bA (bA (B H3 _ _ _ _ _ rfl I (fun _ h=>h) fun _ e=>absurd e c2))
   rw[zzr1 c2];refine bP ?_;refine⟨_,rfl,_,rfl,gu v.b,(u++(X++Y)).map gu,f,_,nR _,rfl,.inl (aw.of I.f),lA _,(by show 0<=8;decide),by rw[eX];decide,_,rfl,?_⟩;rw[if_pos rfl];by_cases c3:v.b∈u++(X++Y)
   ·rw[zzr1 (ng.mpr c3)];exact bA (B H3 _ _ _ _ _ rfl I (fun _ h=>h) fun _ _=>c3)
   rw[zzr0 (fun z=>c3 (ng.mp z))];refine bP ?_;refine⟨_,rfl,.inl ⟨rfl,_,aw.of I.f⟩,_,rfl,f,_,_,rfl,rfl,I.f,by rw[ah,a_];exact g8 (by omega),?_⟩;have an:(⟨here,aF,v.b⟩:ak)∈ds:=by
    have:v=⟨here,aF,v.b⟩:=by cases v;simp only at c1 c2;rw[c1,c2]
    rw[<-this];exact a4
   refine B _ (X++(Y++[v.b])) _ _ _ _ rfl ⟨?_,?_,?_,?_,?_⟩ ?_ ?_
   ·rw[aa];have:u++(X++(Y++[v.b]))=u++(X++Y)++[v.b]:=by simp
    rw[this,av (l₂:=[v.b])]
    rfl
   ·intro b o q;rw[ai (ae q hf)];exact I.same _ _ q
   ·rw[<-eQ,dk];refine⟨I.nd,by simp,fun a ha b hb e=>?_⟩;have:b=v.b:=by simpa using hb
    exact c3 (eP _ (by rw[<-this,<-e];exact ha))
   ·intro y hy;rw[<-eQ]at hy;rcases bL.mp hy with hy|hy
    ·exact I.new y hy
    ·have:y=v.b:=by simpa using hy
     rw[this];exact fun z=>c3 (eg _ z)
   ·intro y hy;rw[<-eQ]at hy;rcases bL.mp hy with hy|hy
    ·exact I.sound y hy
    ·have:y=v.b:=by simpa using hy
     rw[this];exact(U D.sound (bT J)).step an
   ·intro y hy;rw[<-eQ];exact eg _ hy
   ·intro _ _;exact eP _ (by simp)
  ·rintro σ H2 ⟨N,Y,a9,bc,bd,rfl,rfl,G,A⟩;rw[ah,Paired.length ap,be]at A;refine⟨_,rfl,_,_,rfl,rfl,X++Y,_,_,_,rfl,G,?_,fun i y hi hy c hc=>?_⟩
   ·rw[<-eQ,a_];omega
   ·by_cases e:i=p
    ·subst e;rw[<-eQ,uh C,J]at hy;have:=fJ hy;subst this;exact A _ hc rfl rfl
    ·have bm:i<p:=by omega
     rw[<-eQ,uh (by omega)]at hy;have:=as i y bm hy c hc;rw[<-eQ];exact eg _ this
 ·have a7:p=(u++X).length:=by
   have:¬(p<(u++X).length):=fun z=>O (zzr1 (by rw[ah];omega));omega
  refine⟨_,rfl,k f (u++X) H1 D.f (fun w=>⟨fun hw=>?_,fun hw=>?_⟩) (by rw[a_];omega) hf D.same⟩
  ·rcases bL.mp hw with hw|hw
   ·exact⟨_,hw,.inl rfl⟩
   ·exact D.sound _ hw
  ·have closed:∀y∈u++X,∀c,(⟨y,aF,c⟩:ak)∈ds->c∈u++X:=fun y hy c hc=>by
    obtain⟨n,hn⟩:=gB hy;exact as n y (by rw[a7];exact(bM.mp hn).1) hn c hc
   obtain⟨g,hg,rfl|h⟩:=hw
   ·exact eg _ hg
   ·induction h with
    |one e=>exact closed _ (eg _ hg) _ e
    |step r e ih=>exact closed _ ih _ e

theorem Cw{g:List ak}{a b:Str}(h:¬iD g [b] a){x y:Str}(r:Reach (g++[⟨a,aF,b⟩]) x y):Reach g x y∨((x=a∨Reach g x a)/\(y=b∨Reach g b y)):=by
 have f:∀{u v:Str},(⟨u,aF,v⟩:ak)∈g++[⟨a,aF,b⟩]->(⟨u,aF,v⟩:ak)∈g∨(u=a/\v=b):=by
  intro u v e;rcases bL.mp e with e|e
  ·exact .inl e
  ·have:(⟨u,aF,v⟩:ak)=⟨a,aF,b⟩:=by simpa using e
   injection this with j h2 k;exact .inr ⟨j,k⟩
 induction r with
 |one e =>
  rcases f e with e|⟨rfl,rfl⟩
  ·exact .inl (.one e)
  ·exact .inr ⟨.inl rfl,.inl rfl⟩
 |step r l i =>
  rcases f l with e|⟨rfl,rfl⟩
  ·rcases i with i|⟨j,h2⟩
   ·exact .inl (.step i e)
   ·refine .inr ⟨j,.inr ?_⟩;rcases h2 with h2|h2
    ·exact .one (by rw[<-h2];exact e)
    ·exact .step h2 e
  ·rcases i with i|⟨j,h2⟩
   ·exact .inr ⟨.inr i,.inl rfl⟩
   ·exact absurd ⟨_,by simp,h2⟩ h
theorem zg{e:List ak}{a b:Str}(f:∀r,¬Reach e r r)(h:¬iD e [b] a):∀r,¬Reach (e++[⟨a,aF,b⟩]) r r:=by
 intro r z;have no:¬(a=b∨Reach e b a):=fun z=>h ⟨b,by simp,z⟩;rcases Cw h z with z|⟨h1,h2⟩
 ·exact f r z
 ·rcases h1 with rfl|h1
  ·exact no h2
  ·rcases h2 with rfl|h2
   ·exact no (.inr h1)
   ·exact no (.inr (h2.trans h1))
theorem aP.putStill{i j g:Zb}{f:List ak}{a b:Str}(m:aP i j g f)(k:a∈g)(l:b∈g)(h:¬iD f [b] a)(q:f.length<=699):aP i j g (mD f ⟨a,aF,b⟩):=by
 unfold mD;split
 ·exact m
 ·next n =>
  refine{ m with nodup:=?_,good:=?_,few:=?_,noround:=zg m.noround h }
  ·rw[dk];refine⟨m.nodup,by simp,fun x o y p e=>?_⟩;have:y=⟨a,aF,b⟩:=by simpa using p
   subst this;exact n (e▸o)
  ·intro d hd;rcases bL.mp hd with hd|hd
   ·exact m.good d hd
   ·have:d=⟨a,aF,b⟩:=by simpa using hd
    subst this;exact⟨k,l,.inr (.inr rfl)⟩
  ·rw[a_];show f.length+1<=1000;omega
theorem uJ(a:List ak)(d:ak):(mD a d).length<=a.length+1:=by
 unfold mD;split
 ·omega
 ·rw[a_];exact aB _
def dD(ds:List ak)(sg:Zb)(J6:Zb):List Str:=J6.flatMap fun r=>bE ds (r,sg)
theorem wo{a:List ak}{e f:Zb}{i:Nat}{r:Str}(h:f[i]?=some r):dD a e (f.take (i+1))=dD a e (f.take i)++bE a (r,e):=by
 unfold dD;rw[take_snoc h,List.flatMap_append];simp
theorem sj(a:List ak)(x:Str×List Str):(bE a x).length<=a.length:=by
 unfold bE;rw[ah];exact cO _ _
theorem pY(a:List ak)(f:Zb):∀e:List Str,(dD a f e).length<=e.length * a.length
 |[]=>dI _
 |r::e=>by
  show((bE a (r,f))++dD a f e).length<=(e.length+1) * a.length;rw[a_,gA];have g:=sj a (r,f);have h:=pY a f e;omega
theorem pT{e:List ak}{f g:Zb}{b:Str}:b∈dD e f g↔∃r∈g,(⟨r,f,b⟩:ak)∈e:=by
 unfold dD;rw[List.mem_flatMap];constructor
 ·rintro⟨r,a,h⟩;exact⟨r,a,eU.mp h⟩
 ·rintro⟨r,a,h⟩;exact⟨r,a,eU.mpr h⟩
inductive pE(C:Addr)(vs:List V)(H:Hp)(Q:VK)(E:XK):Prop
 |mk (x t s:Addr) (J6 sg J0 J1 J2:Zb) (ds:List ak):(vs=[.ref x,.ref t,.ref s])->(bU C H x J0 J1 J2 ds)->(H t=some (.tup (J6.map V.str)))->(H s=some (.tup (sg.map V.str)))->(sg≠cA)->(J6.length<=1000)->(∀(t':Addr) (F:Zb) (H':Hp),H' t'=some (.tup ((J2.filter fun r=>decide (r∈F)).map V.str))->(∀w,w∈F↔iD ds (dD ds sg J6) w)->ab H H'->Q (.ref t') H')->pE C vs H Q E
theorem zc{K:Za}{C N:Addr}(v:∀H,bQ K H N (cA.map V.str)){z:Sp}{O:List V}{H:Hp}{Q:VK}{E:XK}(h:pE C O H Q E):
  nO K (sp_with_still C) C (iW C) N z (bj Q) (start nT O) H:=by
 obtain⟨x,t,s,j,f,T,U,A,e,rfl,M,Y,hs,B,hz,k⟩:=h;have D:∀d∈e,d.b∈A:=fun d hd=>(M.ok.good d hd).b;have z4:=M.ok.few;refine⟨_,rfl,iB f,iB cA,aZ (bQ.of hs),aZ (v _),by rw[bJ];decide,by rw[bJ];decide,_,rfl,?_⟩;rw[fE,zzr0 B];refine bA ?_;refine⟨(by show 0<=aj;decide),fun g G=>?_⟩;refine⟨_,rfl,t,rfl,⟨_,bQ.of (kp Y G)⟩,?_⟩
 let I:Nat->L2.St->Hp->Prop:=fun i σ n=>∃J:Option V,σ=[some (.ref x),some (.ref t),some (.ref s),some (.ref g),J]/\n g=some (.lst ((dD e f (j.take i)).map V.str))/\ab H n
 refine Ew (xs:=j.map V.str) I
  ⟨_,rfl,aa,ab.new G⟩ (fun i σ n _ ⟨_,_,_,S⟩=>bQ.of (S _ _ Y)) ?_ ?_
 ·rintro i y σ H1 hi ⟨J,rfl,a,m⟩;obtain⟨r,hr,rfl⟩:=bH hi;have M1:=M.same m;obtain⟨dx,fs,o1,o2,o3,o4,lv,qu,al,sl,ts,an,ap,as,g1,a1,a2,a3,a4,_⟩:=M1.at_;refine⟨_,rfl,.inl ⟨rfl,_,aw.of a⟩,_,rfl,x,dx,fs,rfl,g1,a2,_,rfl,_,rfl,x,s,r,f,T,U,A,e,rfl,M1,m _ _ hs,fun l H2 hl fr u=>?_⟩;have L:=u _ _ a;have p:((dD e f (j.take i)).map V.str).length+((bE e (r,f)).map V.str).length<=aj:=by
   rw[ah,ah];have h1:=pY e f (j.take i);have h2:=sj e (r,f);have h3:(j.take i).length * e.length<=1000 * 1000:=Nat.mul_le_mul (by rw[aI];omega) z4;have:(1001000:Nat)<=aj:=by decide
   omega
  refine⟨g,l,_,_,rfl,rfl,L,hl,p,_,rfl,?_,?_⟩
  ·rw[aa,wo hr,av]
  ·intro b o q;rw[ai (ae q G)];exact u _ _ (m _ _ q)
 ·rintro σ H1 ⟨J,rfl,a,m⟩;rw[ah,be]at a;refine⟨_,rfl,_,rfl,x,g,dD e f j,T,U,A,e,rfl,M.same m,a,fun w hw=>?_,fun t' F n h1 h2 u=>k t' F n h1 h2 (m.trans u)⟩;obtain⟨r,_,h⟩:=pT.mp hw;exact D _ h
theorem lr{a:List ak}{i:Nat}{d:ak}{p:ak->Bool}(h:a[i]?=some d):(a.take (i+1)).filter p=(a.take i).filter p++(if p d=true then[d]else[]):=by
 rw[take_snoc h,iF];congr 1;by_cases c:p d=true
 ·rw[if_pos c];simp[c]
 ·rw[if_neg c];simp[c]
def yI(K:Za)(sp_with_still:Sp)(C_Machine:Addr)(sp_Machine_rooms:Sp):TS :=
 aW (aK sp_with_still (aX V0 (BL (q_ K) (cn C_Machine "rooms" sp_Machine_rooms [] E0 V0 bg) (fq) (gC (tC (.int 1))))))
def z9:List Str:=["M"]
def vP(K:Za)(sp_law_take:Sp)(sp_law_names:Sp):TS :=
 aq (aM V1 (jw K 4 (bt U2 (bt U3 (bt U4 (bt U5 (jr)))))))
 (aq (aM (qY) U6)
 (aq (dS (HF K (am V4 (ay (aK sp_law_names (aX V0 (gD (ir K) (ay V4))))))) (jw K 2 (bt U7 (bt U8 (jr)))) (jf V6 V7 V8))
 (aq (aM (cG 1 [6] (bN K V4) U0 (iH) (im K V1 V0)) U9)
 (aq (aM (aH dB (tC (.int 1)) (aK sp_law_take (aX V0 (gD (ir K) (ay V4))))) KZ)
 (aq (aM (aH j3 (aH j3 (BL (q_ K) V9 (fq) (gC (tC (.int 1)))) (BL (q_ K) V9 (gC F0) (fq))) (BL (q_ K) V9 (gC (tC (.int 1))) (gC F0))) U9)
 (aq (aM (cG 3 [6] (bN K V5) (jw K 3 (bt U0 (bt U1 (bt U2 (jr))))) (iH) (bf (ci (im K V3 V0) V1 (im K V3 V2)))) U5)
 (aW (bf (am V2 (ci V3 V9 V5))))))))))
def wv:List Str:=["pen","told","asks","says","rooms","doors","names","room","name","some","at"]
inductive dq(C:Addr)(vs:List V)(H:Hp)(Q:VK)(E:XK):Prop
 |mk (x:Addr) (J0 J1 J2:Zb) (ds:List ak):(vs=[.ref x])->(bU C H x J0 J1 J2 ds)->(∀(t':Addr) (F:Zb) (H':Hp),H' t'=some (.tup ((J2.filter fun r=>decide (r∈F)).map V.str))->(∀w,w∈F↔iD ds (J2.take 1) w)->ab H H'->Q (.ref t') H')->dq C vs H Q E
theorem wj{K:Za}{C:Addr}{f:List V}{H:Hp}{Q:VK}{E:XK}(h:dq C f H Q E):yI K (sp_with_still C) C (ko C) (bj Q) (start z9 f) H:=by
 obtain⟨x,i,j,a,m,rfl,M,k⟩:=h;obtain⟨o,fs,I,J,L,N,O,T,p,U,Y,q,r,s,t,a1,a2,a3,u,_⟩:=M.at_;have v:fS (a.map V.str) none (some 1)=(a.take 1).map V.str:=tI a 1;refine⟨_,rfl,_,rfl,x,o,fs,rfl,t,u,x,i,j,a,m,rfl,M,fun n e=>⟨_,rfl,n,_,rfl,aw.of aa,fun l w=>?_⟩⟩;rw[v];have S:ab H (upd (upd H n (.lst (a.map V.str))) l (.lst ((a.take 1).map V.str))):=(ab.new e).trans (ab.new w);exact⟨x,l,a.take 1,i,j,a,m,rfl,M.same S,aa,fun g y=>gW y,fun z F A B D G=>k z F A B D (S.trans G)⟩
theorem Bh{K:Za}{a b:Addr}{xs ys:List V}{g:TG}{o:TS}{D:rL}{σ:L2.St}{H:Hp}(r:xs.length=ys.length)(Pv:Nat->L2.St->Hp->Prop)(s:Pv 0 σ H)(w:∀i σ H,i<=xs.length->Pv i σ H->aw K H a xs/\aw K H b ys)
  (z:∀i x y σ H p,xs[i]?=some x->ys[i]?=some y->Pv i σ H->H p=none->g (.ref p) σ (upd H p (.tup [x,y])) fun σ2 k=>o { D with nx:=Pv (i+1),ct:=Pv (i+1),bk:=D.nx } σ2 k) (A:∀σ H,Pv xs.length σ H->D.nx σ H) :
  ∃W:Nat->Nat->L2.St->Hp->Prop,(∃m,W 0 m σ H)/\∀i m σ H,W i m σ H ->
   ((Lz K a b).stop i H/\D.nx σ H)∨((Lz K a b).go i H/\∃N:L2.St->Hp->Prop,(∀σ' f,N σ' f->∃q,q<m/\W (i+1) q σ' f)/\∀x f,(Lz K a b).yld i H x f->g x σ f fun σ2 k=>o { D with nx:=N,ct:=N,bk:=D.nx } σ2 k):=by
 refine⟨fun i m σ H=>m=xs.length-i/\i<=xs.length/\Pv i σ H,⟨xs.length,by simp,dI _,s⟩,?_⟩;rintro i m σ H ⟨rfl,B,p⟩;obtain⟨l,n⟩:=w i σ H B p;by_cases h:i<xs.length
 ·have j:i<ys.length:=by omega
  refine .inr ⟨⟨xs,ys,xs[i],ys[i],l,n,by simp[h],by simp[j]⟩,Pv (i+1),fun σ' f C=>⟨xs.length-(i+1),by omega,rfl,h,C⟩,fun x f y=>?_⟩;obtain⟨t,u,v,rfl,E,G,I,rfl⟩:=y;exact z i u v σ H t (G xs l) (I ys n) p E
 ·have e:i=xs.length:=by omega
  subst e;exact .inl ⟨⟨xs,ys,l,n,.inl (aB _)⟩,A σ H p⟩
def Gh(ps:List (Str×Str)):List (fG×V):=ps.map fun x=>(.inr x.1,.str x.2)
def Iq:List (Str×Str)->Str->Str
 |[],r=>r
 | (a,b)::ps,r=>if a=r then b else Iq ps r
theorem Em{r:Str}:∀{e:List (Str×Str)},r∈e.map (·.1)->bb (Gh e) (.inr r:fG)=some (.str (Iq e r))
 |[],h=>by cases h
 | (a,b)::e,h=>by
  unfold Gh bb Iq;rw[bF,mn];by_cases c:a=r
  ·rw[if_pos c,zzr1 (by rw[c])]
   rfl
  ·rw[if_neg c,zzr0 (fun z=>c (by injection z))];have:r∈e.map (·.1):=by
    rcases cC.mp h with z|z
    ·exact absurd z.symm c
    ·exact z
   exact Em this
theorem A5{r:Str}:∀{e:List (Str×Str)},r∉e.map (·.1)->bb (Gh e) (.inr r:fG)=none
 |[],_=>rfl
 | (a,b)::e,h=>by
  unfold Gh bb;rw[bF,mn,zzr0 (fun z=>h (by injection z with z;rw[bF];exact cC.mpr (.inl z.symm)))];exact A5 fun z=>h (by rw[bF];exact c7 _ z)
theorem Hm{a:List (Str×Str)}{r w:Str}(h:r∉a.map (·.1)):dh (Gh a) (.inr r) (.str w)=Gh (a++[(r,w)]):=by
 rw[iu _ (A5 h)];unfold Gh;rw[av]
 rfl
theorem yq:∀{a e:Zb},e.length=a.length->(a.zip e).map (·.1)=a
 |[],_,_=>by simp
 |_::_,[],h=>by cases h
 |r::a,w::e,h=>by
  rw[List.zip_cons_cons,bF,yq (by simpa using h)]
theorem DW:∀{a e:Zb},a.Nodup->e.length=a.length->a.map (Iq (a.zip e))=e
 |[],[],_,_=>rfl
 |[],_::_,_,h=>by cases h
 |_::_,[],_,h=>by cases h
 |r::a,w::e,g,h=>by
  rw[List.zip_cons_cons,bF];have f:=gf.mp g;have i:Iq ((r,w)::a.zip e) r=w:=by unfold Iq;rw[if_pos rfl]
  have j:a.map (Iq ((r,w)::a.zip e))=a.map (Iq (a.zip e)):=by
   refine List.map_congr_left fun x k=>?_;show(if r=x then w else Iq (a.zip e) x)=_
   rw[if_neg (fun z=>f.1 (by rw[z];exact k))]
  rw[i,j,DW f.2 (by simpa using h)]
def wc(f:Str->Str)(d:ak):ak:=⟨f d.a,d.sg,f d.b⟩
theorem KG{h g:Zb}{f:Str->Str}(l:h.map f=g)(n:g.Nodup){a b:Str}(o:a∈h)(p:b∈h)(e:f a=f b):a=b:=by
 obtain⟨i,m⟩:=gB o;obtain⟨j,k⟩:=gB p;have q:g[i]?=some (f a):=by rw[<-l,cF,m];rfl
 have r:g[j]?=some (f a):=by rw[<-l,cF,k,e];rfl
 have:=tF n q r;subst this;rw[m]at k;exact fJ k
theorem EZ{k:Zb}{f:Str->Str}{ds:List ak}(inj:∀a∈k,∀b∈k,f a=f b->a=b)(g:∀d∈ds,d.a∈k/\d.b∈k){x y:Str}(h:Reach (ds.map (wc f)) x y):
  ∃a∈k,∃b∈k,x=f a/\y=f b/\Reach ds a b:=by
 have j:∀{u v:Str},(⟨u,aF,v⟩:ak)∈ds.map (wc f)->∃a b,(⟨a,aF,b⟩:ak)∈ds/\u=f a/\v=f b:=by
  intro u v e;obtain⟨⟨a,s,b⟩,i,e⟩:=aQ.mp e;unfold wc at e;injection e with m l n;simp only at l;subst l;exact⟨a,b,i,m.symm,n.symm⟩
 induction h with
 |one e =>
  obtain⟨a,b,i,rfl,rfl⟩:=j e;exact⟨a,(g _ i).1,b,(g _ i).2,rfl,rfl,.one i⟩
 |step r e p =>
  obtain⟨a,q,b,t,m,l,w⟩:=p;obtain⟨o,z,i,n,rfl⟩:=j e;have:b=o:=inj b t o (g _ i).1 (l.symm.trans n);subst this;exact⟨a,q,z,(g _ i).2,m,rfl,.step w i⟩
theorem aP.renamed{C D j v g:Zb}{x:List ak}{f:Str->Str}(m:aP C D j x)(l:lD v)(y:j.map f=v)(p:g.Perm v):aP C D g (x.map (wc f)):=by
 have i:g.length=j.length:=by rw[p.length_eq,<-y,ah]
 have inj:∀a∈j,∀b∈j,f a=f b->a=b:=fun a o b A e=>KG y l.1 o A e;have h:∀d∈x,d.a∈j/\d.b∈j:=fun d q=>⟨(m.good d q).a,(m.good d q).b⟩;have k:∀a∈j,f a∈g:=fun a o=>p.mem_iff.mpr (by rw[<-y];exact nW o);refine{ m with okR:=⟨p.nodup_iff.mpr l.1,fun w I=>l.2 w (p.mem_iff.mp I)⟩,rooms0:=?_,rooms26:=by rw[i];exact m.rooms26,nodup:=?_,good:=?_,few:=by rw[ah];exact m.few,noround:=?_ }
 ·intro z;rw[z]at i;exact m.rooms0 (List.eq_nil_of_length_eq_zero i.symm)
 ·refine List.Pairwise.map _ ?_ (List.Pairwise.and_mem.mp m.nodup);rintro⟨a,s,b⟩ ⟨J,O,L⟩ ⟨E,G,B⟩ e;unfold wc at e;injection e with t u H;simp only at t u H;refine B ?_;rw[inj a (h _ E).1 J (h _ G).1 t,u,inj b (h _ E).2 L (h _ G).2 H]
 ·intro d q;obtain⟨M,n,rfl⟩:=aQ.mp q;exact⟨k _ (h _ n).1,k _ (h _ n).2,(m.good M n).sg⟩
 ·intro r z;obtain⟨a,o,b,A,t,u,N⟩:=EZ inj h z;have:=inj a o b A (t.symm.trans u);subst this;exact m.noround a N
theorem FO(a:Zb){j k:Nat}(f:j<=k)(e:k<=a.length):fS (a.map V.str) (some (j:Int)) (some (k:Int))=((a.drop j).take (k-j)).map V.str:=by
 unfold fS;rw[HT.sIx_nat,HT.sIx_nat,ah,qv e,qv (aE f e),tS,xL]
theorem An(a:Zb)(n:Nat):(a.take 1++a.drop (1+n)++(a.drop 1).take (1+n-1)).Perm a:=by
 have e:a.drop (1+n)=(a.drop 1).drop n:=by rw[List.drop_drop]
 have f:1+n-1=n:=by omega
 rw[e,f,eQ];have h:a=a.take 1++((a.drop 1).take n++(a.drop 1).drop n):=by rw[xJ,xJ]
 exact(List.Perm.append_left _ List.perm_append_comm).trans (by rw[<-h])
theorem tG(o:Str)(L:Zb):decide (gu o∈L.map gu)=decide (o∈L):=by
 by_cases c:o∈L
 ·rw[zzr1 (ng.mpr c),zzr1 c]
 ·rw[zzr0 (fun z=>c (ng.mp z)),zzr0 c]
theorem bQ.same{K:Za}{H e:Hp}{a:Addr}{f:List V}(S:ab H e)(h:bQ K H a f):bQ K e a f:=by
 rcases h with(h|⟨o,h⟩)|h
 ·exact .inl (.inl (S _ _ h))
 ·exact .inl (.inr ⟨o,S _ _ h⟩)
 ·exact .inr h
open Classical in
def closF(J2:Zb)(ds:List ak)(gs:Zb):List Str:=J2.filter fun r=>decide (iD ds gs r)
open Classical in
theorem mN{J2 F a:Zb}{e:List ak}(f:∀w,w∈F↔iD e a w):J2.filter (fun r=>decide (r∈F))=closF J2 e a:=by
 unfold closF;refine List.filter_congr fun r _=>?_;by_cases c:r∈F
 ·rw[zzr1 c,zzr1 ((f r).mp c)]
 ·rw[zzr0 c,zzr0 fun z=>c ((f r).mpr z)]
open Classical in
theorem Bp{J2 i a:Zb}{f:List ak}(h:∀g,g∈i↔g∈a):closF J2 f i=closF J2 f a:=by
 have:∀r,iD f i r↔iD f a r:=fun r=>⟨fun⟨g,j,e⟩=>⟨g,(h g).mp j,e⟩,fun⟨g,j,e⟩=>⟨g,(h g).mpr j,e⟩⟩;unfold closF;refine List.filter_congr fun r _=>?_;by_cases c:iD f i r
 ·rw[zzr1 c,zzr1 ((this r).mp c)]
 ·rw[zzr0 c,zzr0 fun z=>c ((this r).mpr z)]
theorem rB{J2 a:Zb}{e:List ak}:∀r∈closF J2 e a,r∈J2:=fun r h=>(fQ.mp h).1
theorem kL{a e:Zb}{f:List ak}:(closF a f e).length<=a.length:=cO _ _
def behF(J2:Zb)(ds:List ak)(J6 sg:Zb):List Str:=if sg=cA then J6.filter (fun r=>decide (r∉gO ds))else closF J2 ds (dD ds sg J6)
theorem qg{J2 a e:Zb}{f:List ak}(g:∀r∈a,r∈J2):∀r∈behF J2 f a e,r∈J2:=by
 intro r h;unfold behF at h;split at h
 ·exact g r (fQ.mp h).1
 ·exact rB r h
theorem fU{a e f:Zb}{g:List ak}(h:a.length<=1000)(i:e.length<=1000):(behF a g e f).length<=1000:=by
 unfold behF;split
 ·exact aE (cO _ _) i
 ·exact aE kL h
theorem G3{g:Zb}{a:List ak}{e:Zb}(f:∀r∈e,r∈g):(e.filter fun r=>decide (r∈g.filter (gH a)))=e.filter fun r=>decide (r∉gO a):=by
 refine List.filter_congr fun r h=>?_;rw[<-CH];cases q:gH a r with
 |true=>exact zzr1 (fQ.mpr ⟨f r h,q⟩)
 |false=>exact zzr0 (fun z=>by rw[(fQ.mp z).2]at q;cases q)
inductive tu(K:Za)(C:Addr)(vs:List V)(H:Hp)(Q:VK)(E:XK):Prop
 |mk (x t s:Addr) (J6 sg J0 J1 J2:Zb) (ds:List ak):(vs=[.ref x,.ref t,.ref s])->(bU C H x J0 J1 J2 ds)->(H t=some (.tup (J6.map V.str)))->(bQ K H s (sg.map V.str))->((sg=cA∨H s=some (.tup (sg.map V.str))))->((∀r∈J6,r∈J2))->(J6.length<=1000)->(∀(t':Addr) (H':Hp),H' t'=some (.tup ((behF J2 ds J6 sg).map V.str))->ab H H'->Q (.ref t') H')->tu K C vs H Q E
theorem IY{K:Za}{C I:Addr}(g:∀H,bQ K H I (cA.map V.str)){a:List V}{H:Hp}{Q:VK}{E:XK}(h:tu K C a H Q E):
  nO K (sp_with_still C) C (iW C) I (jD C) (bj Q) (start nT a) H:=by
 obtain⟨x,t,s,n,J,L,N,p,u,rfl,M,w,hs,y,j,hz,k⟩:=h;by_cases v:J=cA;rotate_left
 ·refine zc (E:=E) g ⟨x,t,s,n,J,L,N,p,u,rfl,M,w,y.resolve_left v,v,hz,fun z F e h1 hF S=>k z e ?_ S⟩;rw[h1,mN hF];unfold behF;rw[if_neg v]
 subst v;refine⟨_,rfl,iB cA,iB cA,aZ hs,aZ (g _),by rw[bJ];decide,by rw[bJ];decide,_,rfl,?_⟩;rw[zzr1 rfl];refine bP ?_;refine⟨_,rfl,t,rfl,⟨_,bQ.of w⟩,fun f O=>?_⟩
 let A:Nat->List V->Hp->Prop:=fun i a e=>a=((n.take i).filter fun r=>decide (r∈p.filter (gH u))).map V.str/\ab H e/\e f=some (.lst a)
 refine vi (xs:=n.map V.str) A ⟨rfl,ab.new O,aa⟩ (fun i a e _ ⟨_,S,h'⟩=>⟨h',bQ.of (S _ _ w)⟩) ?_ ?_
 ·rintro a e ⟨rfl,S,l⟩;rw[ah,be]at l;refine⟨f,_,rfl,.inl ⟨aw.of l,fun z B=>k z _ ?_ (S.trans (ab.new B))⟩⟩;rw[aa,G3 j];unfold behF;rw[if_pos rfl]
 ·rintro i a e x' D T ⟨rfl,S,l⟩;obtain⟨r,U,rfl⟩:=bH D;have Y:=M.same S;obtain⟨dx,fs,o1,o2,o3,o4,lv,qu,al,sl,ts,an,ap,as,g1,a1,_⟩:=Y.at_;refine gN ?_;refine⟨_,rfl,x,dx,fs,rfl,g1,a1,_,rfl,x,r,L,N,p,u,rfl,Y,_,rfl,?_⟩;have m:(((n.take i).filter fun r=>decide (r∈p.filter (gH u))).map V.str).length<aj:=by
   rw[ah];refine ao (aE (cO _ _) ?_);rw[aI];omega
  refine iS (fun G=>?_) (fun G=>?_)
  ·refine⟨_,rfl,l,m,mF T ⟨?_,?_,aa⟩⟩
   ·rw[cr U,if_pos G,av];rfl
   ·intro b o q;rw[ai (ae q O)];exact S _ _ q
  ·refine mF T ⟨?_,S,l⟩;rw[cr U,if_neg G,dJ]
theorem vf(a:List ak):DT.depths (a.map zK)<=2:=by
 induction a with
 |nil=>exact dI _
 |cons x e f=>rw[bF];show max (DT.depth (zK x)) (DT.depths _)<=2;rw[zJ];omega
theorem wP{j k l:Zb}{i:ak}(g:BJ j k l i):∃f a,i.sg=f::a/\(!decide (V.str f=V.str ("ask":Str)))=!mH i:=by
 obtain⟨f,a,h⟩:∃f a,i.sg=f::a:=by
  rcases g.sg with⟨w,_,e⟩|⟨w,_,e⟩|e<;>exact⟨_,_,e⟩
 refine⟨f,a,h,?_⟩;unfold mH;rw[h];congr 1;show _=decide (f=("ask":Str));by_cases c:f=("ask":Str)
 ·rw[zzr1 c,zzr1 (by rw[c])]
 ·rw[zzr0 c,zzr0 (fun z=>c (by injection z))]
inductive qZ(K:Za)(vs:List V)(H:Hp)(Q:VK)(E:XK):Prop
 |mk (t ft s l1 l2 l3 l4:Addr) (ts:Ze) (J0 J1 J2 J6 sg:Zb) (ds:List ak):(vs=[.ref t,.ref ft,.ref s])->(gR H t l1 l2 l3 l4 ts J0 J1 J2 ds)->(aP J0 J1 J2 ds)->(H ft=some (.tup (J6.map V.str)))->(bQ K H s (sg.map V.str))->(J6.length<=1000)->(∀(t':Addr) (H':Hp),H' t'=some (.tup ((behF J2 ds J6 sg).map V.str))->ab H H'->Q (.ref t') H')->qZ K vs H Q E
abbrev j7(H:Hp)(us:Ze)(L:List (List Str)):Prop:=Paired (SignAt H) us L
theorem j7.kt{H H':Hp}{a:Ze}{L:List (List Str)}(k:gv H H')(h:j7 H a L):j7 H' a L:=Paired.mapP h fun _ _ r=>k _ _ r
def bZ(J0 J1:Zb):List (List Str):=J0.map b0++J1.map gG++[cA]
theorem lC{K:Za}{σ:L2.St}{H:Hp}{a l:Addr}{ws:Zb}{kd:Str}{Q:Hp->Prop}(t:H a=some (.lst (ws.map V.str)))(z:ws.length<=1000)(s:H l=none)
  (k:∀(f:Ze) (e:Hp),e l=some (.lst (f.map V.ref))->j7 e f (ws.map fun w=>[kd,w])->ab H e->Q e) :
  em 1 [] σ (Io K a) U0 iH (bf (aX (tC (.str kd)) V0)) H l Q:=by
 let m:Nat->List V->Hp->Prop:=fun i g e=>∃f:List Addr,g=f.map V.ref/\ab H e/\e l=some (.lst g)/\j7 e f ((ws.take i).map fun w=>[kd,w])
 refine bX (xs:=ws.map V.str) m ⟨[],rfl,ab.new s,aa,.nil⟩ (fun i g e _ ⟨_,_,S,n,_⟩=>⟨n,aw.of (S _ _ t)⟩) ?_ ?_
 ·rintro g e ⟨f,rfl,S,n,h⟩;rw[ah,be]at h;exact k f e n h S
 ·rintro i g e A p v ⟨f,rfl,S,r,h⟩;obtain⟨w,x,rfl⟩:=bH p;refine gN (pc ?_);refine⟨_,rfl,(by show 2<=aj;decide),fun u j=>⟨kp r j,?_,mF v ⟨f++[u],by rw[av];rfl,?_,aa,?_⟩⟩⟩
  ·rw[ah,Paired.length h,ah,aI];exact ao (by omega)
  ·intro b o q;rw[ai (ae q s)];exact kp (S _ _ q) j
  ·rw[take_snoc x,av];have y:gv e (upd (upd e u (.tup [.str kd,.str w])) l (.lst (f.map V.ref++[.ref u]))):=(ab.kt (ab.new j)).trans (eW (kp r j));exact ge (j7.kt y h) ((eW (kp r j)) _ _ aa)
theorem Df(a:List V)(k:Nat):fS a (some (k:Int)) none=a.drop k:=by
 unfold fS;rw[HT.sIx_none,HT.sIx_nat,tU (by rw[dQ];omega)];by_cases h:k<=a.length
 ·rw[qv h]
 ·rw[Nat.min_eq_right (by omega),qD (by simp),qD (by omega)]
theorem Paired.takeP{α β:Type}{R:α->β->Prop}:∀(n:Nat) {a:List α}{e:List β},Paired R a e->Paired R (a.take n) (e.take n)
 |0,_,_,_=>by rw[xH,xH];exact .nil
 |_+1,_,_,.nil=>.nil
 |n+1,_,_,.cons r t=>.cons r (Paired.takeP n t)
theorem Paired.dropP{α β:Type}{R:α->β->Prop}:∀(n:Nat) {a:List α}{e:List β},Paired R a e->Paired R (a.drop n) (e.drop n)
 |0,_,_,h=>h
 |_+1,_,_,.nil=>.nil
 |n+1,_,_,.cons r t=>Paired.dropP n t
def ur(K:Za):TS :=
 aW (gD (dU K) (ay (fN K V0 "own_asks")))
def vC:List Str:=["self"]
def uq(K:Za):TS :=
 aW (gD (dU K) (ay (fN K V0 "own_says")))
def vB:List Str:=["self"]
def qM(K:Za)(C_Machine:Addr)(sp_Machine_asks:Sp)(sp_Machine_says:Sp)(a_HUSH:Addr):TS :=
 aW (aH j3 (aH j3 (cG 1 [] (bN K (cn C_Machine "asks" sp_Machine_asks [] E0 V0 bg)) U0 (iH) (bf (aX (tC (.str "ask")) V0))) (cG 1 [] (bN K (cn C_Machine "says" sp_Machine_says [] E0 V0 bg)) U0 (iH) (bf (aX (tC (.str "say")) V0)))) (c6 (ay (tC (.ref a_HUSH)))))
def rD:List Str:=["M"]
def BV(K:Za)(sp_signs_in_order:Sp)(sp_face_behind:Sp):TS :=
 aq (aM (kY) U2)
 (aq (dS (bN K (aK sp_signs_in_order (ay V0))) U3 (aq (aM (aK sp_face_behind (ci V0 V1 V3)) U4)
 (cu (aU (aH G0 (gD (ir K) (ay V4)) (tC (.int 0)))) (GF K V2 V3 V4) (bx))))
 (aW V2))
def Dq:List Str:=["M","face","steps","sign","behind"]

theorem uA{C x:Addr}{H:Hp}{k l m:Zb}{n:List ak}(h:bU C H x k l m n):∃(j:Addr) (fs:List (Str×V)) (f g i:Addr) (a:List (Str×Addr)),H x=some (.ins C j fs)/\lk "asks" fs=none/\lk "says" fs=none/\lk "doors_from" fs=none/\lk "is_quiet" fs=none/\lk "own_asks" fs=some (.ref f)/\lk "own_says" fs=some (.ref g)/\lk "leaving" fs=some (.ref i) /\
  H f=some (.lst (k.map V.str))/\H g=some (.lst (l.map V.str))/\a.map (·.1)=m/\H i=some (.dK (eh Sum.inr a))/\(∀x∈a,∃o,H x.2=some (.lst (o.map V.ref))/\cY H o (cI n x.1)):=by
 obtain⟨j,fs,f,g,I,J,i,M,N,O,Q,a,q,r,p,a1,a2,a3,T,s,t,U,Y,u,b6,b7,b8,L,v,w,y,c4,G,d1,d2,d3⟩:=h.at_;obtain⟨z,A,e,B,D,e3,E⟩:=h.more;rw[p]at e;cases e;exact⟨j,fs,f,g,i,a,p,B,D,E,a1,s,t,u,L.a1,L.a2,v,w,y⟩
inductive m8(C:Addr)(vs:List V)(H:Hp)(Q:VK)(E:XK):Prop
 |mk (x:Addr) (J0 J1 J2:Zb) (ds:List ak):(vs=[.ref x])->(bU C H x J0 J1 J2 ds)->(∀l,H l=none->Q (.ref l) (upd H l (.lst (J0.map V.str))))->m8 C vs H Q E
theorem I0{K:Za}{C:Addr}(M:MC K C){a:List V}{H:Hp}{Q:VK}{E:XK}(h:m8 C a H Q E):ur K (bj Q) (start vC a) H:=by
 obtain⟨x,m,n,o,p,rfl,h,k⟩:=h;obtain⟨f,fs,e,q,r,g,i,a1,a2,a3,s,j,t,u,l,v,_⟩:=uA h;exact⟨_,rfl,x,C,f,fs,.ref e,rfl,i,M.cls,M.a1,j,.inl ⟨e,_,rfl,.inl (aw.of l),k⟩⟩
inductive mV(C:Addr)(vs:List V)(H:Hp)(Q:VK)(E:XK):Prop
 |mk (x:Addr) (J0 J1 J2:Zb) (ds:List ak):(vs=[.ref x])->(bU C H x J0 J1 J2 ds)->(∀l,H l=none->Q (.ref l) (upd H l (.lst (J1.map V.str))))->mV C vs H Q E
theorem IR{K:Za}{C:Addr}(M:MC K C){a:List V}{H:Hp}{Q:VK}{E:XK}(h:mV C a H Q E):uq K (bj Q) (start vB a) H:=by
 obtain⟨x,m,n,o,p,rfl,h,k⟩:=h;obtain⟨f,fs,q,e,r,g,i,a1,a2,a3,s,t,j,u,v,l,_⟩:=uA h;exact⟨_,rfl,x,C,f,fs,.ref e,rfl,i,M.cls,M.a2,j,.inl ⟨e,_,rfl,.inl (aw.of l),k⟩⟩







abbrev JU:List V->Hp->VK->Prop:=fun xs H Q=>(∃i,xs=[.int i]/\Q (.int i) H)∨∃k,xs=[.bl k]/\Q (.int (if k then 1 else 0)) H

def IE(K:Za)(C_Machine:Addr)(sp_Machine_led_from:Sp)(sp_Machine_goals:Sp):TS :=
 aW (gD (rAny K) (am (cG 1 [0,2] (bN K (aH j3 (c6 (ay V1)) (cn C_Machine "led_from" sp_Machine_led_from [] E0 V0 (ay V1)))) U0 (iH) (aH G0 (gD (ir K) (am (cn C_Machine "goals" sp_Machine_goals [] E0 V1 (aX V0 (bf (am (tC (.str "ask")) (ay V2))))) bg)) (tC (.int 0)))) bg))
def JJ:List Str:=["I","room","ask"]
def vO(K:Za)(sp_law_put:Sp)(sp_law_take:Sp)(sp_law_still_on:Sp):TS :=
 aq (aM V1 (jw K 4 (bt U2 (bt U3 (bt U4 (bt U5 (jr)))))))
 (aq (aM (gD (dU K) (ay V5)) U5)
 (aq (dS (bN K V4) U6 (dS (bN K V2) U7 (aq (aM (aK sp_law_still_on (aX V5 (c6 (ay V6)))) U8)
 (cu (aU (aH (mC K) (cG 1 [8,7] (bN K V5) U0 (sQ (aU (aH (pL K false) (aH (r8 K) V0 (tC (.int 0))) V1)) (aU (aH (mC K) (aH (r8 K) V0 (tC (.int 1))) (bf (aX (tC (.str "ask")) V2))))) V0) (c6 (bg)))) (aq (aM (aH (dW K) (c6 (am V6 (am (aH (dW K) V4 (aK sp_law_take (aX V0 (gD (ir K) (ay V4))))) bg))) (aK sp_law_take (aX V0 (tC (.int 2))))) U9)
 (cN (aK sp_law_put (am V5 (am (bf (ci V6 (bf (aX (tC (.str "ask")) V7)) V9)) bg))))) (bx)))))
 (aW (bf (am V2 (ci V3 V4 V5))))))
def wu:List Str:=["pen","told","asks","says","rooms","doors","room","ask","there","other"]
def vN(K:Za)(C_Machine:Addr)(sp_Machine_says:Sp)(sp_Machine_asks:Sp):TS :=
 cu (Cc (aU (aH (wm K) (cn C_Machine "asks" sp_Machine_asks [] E0 V0 bg) (cn C_Machine "asks" sp_Machine_asks [] E0 V1 bg))) (aU (aH (wm K) (cn C_Machine "says" sp_Machine_says [] E0 V0 bg) (cn C_Machine "says" sp_Machine_says [] E0 V1 bg)))) (ut) (bx)
def wr:List Str:=["M","I"]
def kU(K:Za)(C_Machine:Addr)(sp_Machine_rooms:Sp)(sp_Machine_asks:Sp)(sp_takes:Sp):TS :=
 dS (bN K (cn C_Machine "rooms" sp_Machine_rooms [] E0 V0 bg)) U1 (dS (bN K (cn C_Machine "asks" sp_Machine_asks [] E0 V0 bg)) U2 (cu (IG (tB (aK sp_takes (ci V0 V1 V2)))) (ut) (bx)))
def lE:List Str:=["I","room","ask"]
def vM(K:Za)(sp_need_all_asks_taken:Sp)(sp_need_match:Sp):TS :=
 aq (cN (aK sp_need_match (aX V0 V1)))
 (cN (aK sp_need_all_asks_taken (ay V1)))
def wq:List Str:=["M","I"]
def yD(K:Za)(sp_law_put:Sp)(sp_law_take:Sp)(sp_law_still_on:Sp):TS :=
 aq (aM V1 (jw K 4 (bt U2 (bt U3 (bt U4 (bt U5 (jr)))))))
 (aq (aM (gD (dU K) (ay V5)) U5)
 (aq (aM (aK sp_law_take (aX V0 (tC (.int 6)))) U6)
 (aq (aM (aK sp_law_take (am V0 (ay (gD La (aX (tC (.int 1)) (gD (ir K) (ay V5))))))) U7)
 (aq (aM (aH (dW K) V4 (aK sp_law_take (aX V0 (gD (ir K) (ay V4))))) U8)
 (aq (aM (aH (dW K) V4 (aK sp_law_take (aX V0 (gD (ir K) (ay V4))))) U9)
 (aq (cu (aU (aH vI V6 (tC (.int 0)))) (cN (aK sp_law_put (am V5 (am (bf (am V8 (am (bf (am (tC (.str "say")) (am (aH (dW K) V3 (aK sp_law_take (aX V0 (gD (ir K) (ay V3))))) bg))) (ay V9)))) bg)))) (cu (aU (aH vI V6 (tC (.int 1)))) (cN (aK sp_law_put (am V5 (am (bf (am V8 (am (bf (am (tC (.str "ask")) (am (aH (dW K) V2 (aK sp_law_take (aX V0 (gD (ir K) (ay V2))))) bg))) (ay V9)))) bg)))) (cu (sQ (aU (aH CG V6 (tC (.int 4)))) (sQ (aU (aH (wm K) V5 (c6 (bg)))) (aU (aH K_ (aH (ji K) (aH (ji K) (aH (dW K) V5 V7) (tC (.int 1))) (tC (.int 0))) (tC (.str "still")))))) (aq (aM (DV K "list" GY V5 (ay V7)) KZ)
 (cu (aU (aH vI V6 (tC (.int 3)))) (cN (aK sp_law_put (am V5 (am (bf (ci (aH (ji K) F0 (tC (.int 0))) (aH (ji K) F0 (tC (.int 1))) V9)) bg)))) (bx))) (cu (sQ (aU (aH vI V6 (tC (.int 4)))) (aU (aH (pL K true) V8 (aK sp_law_still_on (aX V5 (c6 (ay V9))))))) (cN (aK sp_law_put (am V5 (am (bf (ci V8 (bf (ay (tC (.str "still")))) V9)) bg)))) (bx)))))
 (aW (bf (am V2 (ci V3 V4 V5))))))))))
def zZ:List Str:=["pen","told","asks","says","rooms","doors","way","at","room","other","door"]
def BY(K:Za)(sp_law_take:Sp)(sp_law_renamed:Sp)(sp_law_willing:Sp)(sp_law_turned:Sp)(sp_law_anew:Sp):TS :=
 aq (cN (aK sp_law_anew (ay V0)))
 (aq (dS (u7 (am (aK sp_law_take (aX V0 (aH dB V2 (tC (.int 1))))) bg)) U3 (aM (aK sp_law_turned (aX V0 V1)) U1))
 (aq (aM (aK sp_law_willing (aX V0 V1)) U1)
 (aq (cu (aU (aH vI (aK sp_law_take (aX V0 (tC (.int 2)))) (tC (.int 0)))) (aM (aK sp_law_renamed (aX V0 V1)) U1) (bx))
 (aW V1))))
def Du:List Str:=["pen","told","most","turn"]

def lX(K:Za):TS :=
 aq (lY K V0 V1 "machine")
 (lY K V0 (kY) "known")
def l6:List Str:=["self","M"]
def km(K:Za)(sp_steps_at:Sp):TS :=
 aq (cu (tB (ib K V1 (fN K V0 "known"))) (jf (fN K V0 "known") V1 (aK sp_steps_at (aX (fN K V0 "machine") V1))) (bx))
 (aW (im K (fN K V0 "known") V1))
def kN:List Str:=["self","face"]
def yC(K:Za):TS :=
 cu (Cc (aU (aH CG V0 (tC (.int 0)))) (aU (aH G0 V0 (tC (.int 4))))) (ut) (bx)
def zY:List Str:=["d"]
def ES(K:Za):TS :=
 aq (aM (tC (.int 1)) U1)
 (aq (dS (bN K V0) U2 (aM (aH nP V1 V2) U1))
 (aW V1))
def Ga:List Str:=["numbers","whole","number"]
def sG(K:Za)(C_KnownSteps:Addr)(sp_KnownSteps_init:Sp)(C_Machine:Addr)(sp_Machine_says:Sp):TS :=
 aq (lY K V0 (cG 1 [] (bN K (cn C_Machine "says" sp_Machine_says [] E0 V1 bg)) U0 (iH) (bf (aX (tC (.str "say")) V0))) "says_signs")
 (aq (lY K V0 (uu C_KnownSteps sp_KnownSteps_init [] E0 (ay V1)) "known_steps")
 (lY K V0 (kY) "known_counts"))
def sY:List Str:=["self","M"]
def pf(K:Za)(C_KnownSteps:Addr)(sp_KnownSteps_steps_from:Sp):TS :=
 aW (cn C_KnownSteps "steps_from" sp_KnownSteps_steps_from [] E0 (fN K V0 "known_steps") (ay V1))
def qk:List Str:=["self","face"]
def sD(K:Za)(a_HUSH:Addr)(C_Made:Addr)(sp_Made_steps_from:Sp):TS :=
 aq (aM (cG 1 [] (HG K (cn C_Made "steps_from" sp_Made_steps_from [] E0 V0 (ay V1))) U0 (aU (aH vI (aH (r8 K) V0 (tC (.int 0))) (tC (.str "ask")))) V0) U2)
 (aW (aH j3 (cG 1 [0] (bN K V2) U0 (iH) (aH j3 (c6 (ay V0)) (fN K V1 "says_signs"))) (c6 (am (aH j3 (fN K V0 "says_signs") (c6 (ay (tC (.ref a_HUSH))))) bg))))
def sV:List Str:=["self","face","asks"]
def sE(K:Za)(sp_product:Sp)(C_Made:Addr)(sp_Made_count_at:Sp)(sp_Made_steps_from:Sp):TS :=
 aq (aM (cn C_Made "steps_from" sp_Made_steps_from [] E0 V0 (ay V1)) U4)
 (aW (aK sp_product (am (cG 1 [0,2,4] (bN K V3) U0 (iH) (cn C_Made "count_at" sp_Made_count_at [] E0 V1 (aX (yW K V3 V0) (aH mz V2 (tC (.int 1)))))) bg)))
def sW:List Str:=["self","face","d","signs","steps"]
def sF(K:Za)(C_Made:Addr)(sp_Made_kinds_at:Sp)(sp_Made_count_of:Sp):TS :=
 aq (cu (Cc (tB (Ce V1)) (aU (aH vI V2 (tC (.int 0))))) (aW (tC (.int 1))) (bx))
 (aq (cu (tB (ib K (bf (aX V1 V2)) (fN K V0 "known_counts"))) (aq (aM (cG 1 [1,2,0] (bN K (cn C_Made "kinds_at" sp_Made_kinds_at [] E0 V0 (ay V1))) U0 (iH) (cn C_Made "count_of" sp_Made_count_of [] E0 V3 (ci V1 V2 V0))) U3)
 (jf (fN K V0 "known_counts") (bf (aX V1 V2)) (aH dB (tC (.int 1)) (gD (JR K) (ay V3))))) (bx))
 (aW (im K (fN K V0 "known_counts") (bf (aX V1 V2)))))
def sX:List Str:=["self","face","d","counts"]
def vR(K:Za)(sp_law_still_on:Sp):TS :=
 aq (aM V0 (jw K 4 (bt U3 (bt U4 (bt U5 (bt U6 (jr)))))))
 (aq (cu (aU (aH (mC K) V2 (bf (ay (tC (.str "hush")))))) (aq (aM (cG 1 [] (bN K V6) U0 (aU (aH K_ (aH (ji K) (aH (ji K) V0 (tC (.int 1))) (tC (.int 0))) (tC (.str "ask")))) (aH (ji K) V0 (tC (.int 0)))) U7)
 (aW (gD (AO K) (ay (cG 1 [7] (FG K V1) U0 (aU (aH (pL K true) V0 V1)) V0))))) (bx))
 (aq (aM (aK sp_law_still_on (am V6 (am (cG 1 [1,2] (bN K V6) U0 (sQ (aU (aH (pL K false) (aH (ji K) V0 (tC (.int 0))) V1)) (aU (aH (mC K) (aH (ji K) V0 (tC (.int 1))) V2))) (aH (ji K) V0 (tC (.int 2)))) bg))) U8)
 (aW (gD (AO K) (ay (cG 1 [8] (bN K V5) U0 (aU (aH (pL K false) V0 V1)) V0))))))
def wx:List Str:=["told","face","sign","asks","says","rooms","doors","loud","there"]
def Au(K:Za)(sp_law_still_on:Sp):TS :=
 aq (aM (aK sp_law_still_on (am (aH (r8 K) V0 (tC (.int 3))) (am (c6 (ay (aH (r8 K) (aH (r8 K) V0 (tC (.int 2))) (tC (.int 0))))) bg))) U1)
 (aW (gD (AO K) (am (cG 1 [1] (bN K (aH (r8 K) V0 (tC (.int 2)))) U0 (aU (aH (pL K false) V0 V1)) V0) bg)))
def BF:List Str:=["told","there"]
def qN(K:Za):TS :=
 aq (aM (cG 1 [] (bN K (aH (r8 K) V0 (tC (.int 1)))) U0 (iH) (bf (aX (tC (.str "say")) V0))) U2)
 (aq (cu (tB (Ce V1)) (aW (aH j3 V2 (c6 (ay (bf (ay (tC (.str "hush")))))))) (bx))
 (aW (aH j3 (c6 (ay (bf (aX (tC (.str "ask")) V1)))) V2)))
def rE:List Str:=["told","ask","says"]
def Aw(K:Za)(sp_law_behind:Sp):TS :=
 aq (cu (tB (ib K (bf (aX V2 V3)) V1)) (jf V1 (bf (aX V2 V3)) (aK sp_law_behind (ci V0 V2 V3))) (bx))
 (aW (im K V1 (bf (aX V2 V3))))
def BH:List Str:=["told","known","face","sign"]
def Av(K:Za)(sp_law_after:Sp):TS :=
 aW (cG 1 [0,1,2] (bN K (aH (r8 K) V0 (tC (.int 0)))) U0 (aU (aH (wm K) (aK sp_law_after (am V1 (ci V2 V3 (bf (aX (tC (.str "ask")) V0))))) (bf (bg)))) V0)
def BG:List Str:=["told","known","face"]
def Aq(K:Za)(sp_law_part_signs:Sp)(sp_law_count:Sp)(sp_law_after:Sp):TS :=
 aq (aM (c6 (bg)) U5)
 (aq (dS (bN K (aK sp_law_part_signs (aX V0 V3))) U6 (cN (DV K "list" ig V5 (am (aK sp_law_count (am V0 (am V1 (aX (aK sp_law_after (am V0 (ci V1 V2 V6))) (aH mz V4 (tC (.int 1))))))) bg))))
 (aW V5))
def BB:List Str:=["told","known","face","ask","deep","found","sign"]
def Ap(K:Za):TS :=
 aq (aM (tC (.int 1)) U1)
 (aq (dS (bN K V0) U2 (aM (aH nP V1 V2) U1))
 (aW V1))
def BA:List Str:=["numbers","found","number"]
def yG(K:Za)(sp_law_asked:Sp)(sp_law_times:Sp)(sp_law_sizes:Sp):TS :=
 aq (cu (Cc (aU (aH (mC K) V2 (bf (bg)))) (aU (aH vI V3 (tC (.int 0))))) (aW (tC (.int 1))) (bx))
 (aq (cu (tB (ib K (bf (aX V2 V3)) V1)) (aq (aM (tC (.int 1)) U4)
 (aq (dS (bN K (aH j3 (aK sp_law_asked (ci V0 V1 V2)) (c6 (ay (tC .non))))) U5 (aM (aH dB V4 (aK sp_law_times (ay (aK sp_law_sizes (am V0 (am V1 (ci V2 V5 V3))))))) U4))
 (jf V1 (bf (aX V2 V3)) V4))) (bx))
 (aW (im K V1 (bf (aX V2 V3)))))
def z6:List Str:=["told","known","face","deep","many","ask"]
mutual
def DT.sm:DT->Bool
 |.k _=>true
 |.t l=>decide (l.length<=1000000) && DT.sms l
 |.s l=>decide (l.length<=1000000) && DT.sms l
def DT.sms:List DT->Bool
 |[]=>true
 |a::r=>DT.sm a && DT.sms r
end
theorem KU:("\n":Str).length=1:=by decide +kernel
abbrev LJ:Str:="abcdefghijklmnopqrstuvwxyz"
theorem Jp{n j:Nat}(h:j<n):Gi n (j:Int)=some j:=by
 unfold Gi;rw[if_pos (Int.natCast_nonneg j),if_pos (by omega)]
 rfl
theorem Reach.mono{f ds':List ak}(h:∀a b,(⟨a,aF,b⟩:ak)∈f->(⟨a,aF,b⟩:ak)∈ds'){a b:Str}(r:Reach f a b):Reach ds' a b:=by
 induction r with
 |one e=>exact .one (h _ _ e)
 |step _ e g=>exact .step g (h _ _ e)
theorem Hq{K:Za}{H:Hp}{l q:Addr}{e:Ze}{a:List ak}{Q:VK}(f:H l=some (.lst (e.map V.ref)))(g:cY H e a)(h:H q=some (.lst []))(i:a≠[]->Q (.bl true) H)(j:a=[]->Q (.bl false) H):wm K (.ref l) (.ref q) H Q:=by
 refine⟨.s (a.map zK),.s [],(by unfold vE;exact⟨l,_,rfl,aw.of f,g.dIns⟩),(by unfold vE;exact⟨q,_,rfl,aw.of h,by unfold DIns;rfl⟩),?_,(by decide),?_⟩
 ·show DT.depths _+1<=8;have:=vf a;omega
 ·by_cases c:a=[]
  ·subst c;rw[zzr1 (show DT.s (([]:List ak).map zK)=DT.s []from rfl)];exact j rfl
  ·rw[zzr0 (fun z=>c (by injection z with z;exact qx.mp z))];exact i c
def iO(ds:List ak)(r a:Str):Prop:=∃h,(h=r∨Reach ds r h)/\∃b,(⟨h,b0 a,b⟩:ak)∈ds
open Classical in
def takesB(ds:List ak)(r a:Str):Bool:=decide (iO ds r a)
theorem mr{ds:List ak}{r a:Str}:takesB ds r a=true↔iO ds r a:=by unfold takesB;exact @decide_eq_true_iff _ (Classical.propDecidable _)
theorem yy{ds:List ak}{r a:Str}:takesB ds r a=false↔¬iO ds r a:=by unfold takesB;exact @decide_eq_false_iff_not _ (Classical.propDecidable _)
theorem si{e:List ak}{h:Str}{f:Zb}:0<(bE e (h,f)).length↔∃b,(⟨h,f,b⟩:ak)∈e:=by
 rw[List.length_pos_iff_exists_mem];constructor
 ·rintro⟨b,a⟩;exact⟨b,eU.mp a⟩
 ·rintro⟨b,a⟩;exact⟨b,eU.mpr a⟩
theorem ER{ds:List ak}{r a:Str}{L:Zb}(i:∀w,w∈L↔Reach ds r w):((r::L).map fun h=>decide ((0:Int)<(bE ds (h,b0 a)).length)).any id=takesB ds r a:=by
 rw[wD,mr,List.any_eq_true];constructor
 ·rintro⟨b,f,e⟩;obtain⟨h,g,rfl⟩:=aQ.mp f;have:=of_decide_eq_true e;refine⟨h,?_,si.mp (by omega)⟩;rcases cC.mp g with e|e
  ·exact .inl e
  ·exact .inr ((i h).mp e)
 ·rintro⟨h,g,f⟩;refine⟨true,aQ.mpr ⟨h,?_,zzr1 (by have:=si.mpr f;omega)⟩,rfl⟩;rcases g with e|e
  ·rw[e];exact cU
  ·exact c7 _ ((i h).mpr e)
inductive sp_takes(C:Addr)(vs:List V)(H:Hp)(Q:VK)(E:XK):Prop
 |mk (x:Addr) (r a:Str) (J0 J1 J2:Zb) (ds:List ak):(vs=[.ref x,.str r,.str a])->(bU C H x J0 J1 J2 ds)->(r∈J2)->(∀H',ab H H'->Q (.bl (takesB ds r a)) H')->sp_takes C vs H Q E
theorem GI{K:Za}{C:Addr}{f:List V}{H:Hp}{Q:VK}{E:XK}(h:sp_takes C f H Q E):IE K C (ip C) (iW C) (bj Q) (start JJ f) H:=by
 obtain⟨x,r,a,J0,J1,t,p,rfl,M,hr,k⟩:=h;refine⟨_,rfl,(by show 1<=aj;decide),fun l u=>?_⟩;have v:ab H (upd H l (.lst [.str r])):=ab.new u;have e1:upd H l (.lst [.str r]) l=some (.lst [.str r]):=aa;generalize upd H l (.lst [.str r])=H1 at v e1 ⊢;have M1:=M.same v;obtain⟨z,fs,o1,o2,o3,o4,lv,qu,A,sl,ts,B,D,G,I,a1,a2,a3,a4,_⟩:=id M1.at_;refine⟨_,rfl,x,z,fs,rfl,I,a3,_,rfl,x,r,J0,J1,t,p,rfl,M1,hr,fun l2 L J e2 nd hL _ S2=>?_⟩;have N:∀w∈L,w∈t:=fun w O=>((hL w).mp O).in_ fun d hd=>(M.ok.good d hd).b;have zL:=mG nd N;have z3:=M.ok.rooms26;refine⟨l,l2,_,_,rfl,rfl,S2 _ _ e1,e2,by rw[ah];show 1+L.length<=aj;exact cT (ao (by omega)),fun m T=>?_⟩;have eq:([.str r]++L.map V.str:List V)=(r::L).map V.str:=rfl;rw[eq];have U:ab H (upd J m (.lst ((r::L).map V.str))):=(v.trans S2).trans (ab.new T);have Y:upd J m (.lst ((r::L).map V.str)) m=some (.lst ((r::L).map V.str)):=aa;generalize upd J m (.lst ((r::L).map V.str))=H3 at U Y ⊢;refine⟨m,rfl,⟨_,aw.of Y⟩,fun q hq=>?_⟩
 let al:Nat->List V->Hp->Prop:=fun i f j=>f=(((r::L).take i).map fun h=>decide ((0:Int)<(bE p (h,b0 a)).length)).map V.bl/\ab H3 j/\j q=some (.lst f)
 refine bX (xs:=(r::L).map V.str) al ⟨rfl,ab.new hq,aa⟩ (fun i f j _ ⟨_,S,h⟩=>⟨h,aw.of (S _ _ Y)⟩) ?_ ?_
 ·rintro f j ⟨rfl,S,h⟩;rw[ah,be]at h;refine⟨q,_,rfl,aw.of h,?_⟩;rw[ER hL];exact k j (U.trans S)
 ·rintro i f j y hy hi ⟨rfl,S,h⟩;obtain⟨w,O,rfl⟩:=bH hy;refine gN (pc ?_);have M':=M.same (U.trans S);obtain⟨z,fs,o1,o2,o3,o4,lv,qu,A,sl,ts,B,D,G,I,a1,a2,a3,a4,_⟩:=id M'.at_;refine⟨_,rfl,x,z,fs,rfl,I,a2,_,rfl,_,rfl,(by show 2<=aj;decide),fun s hs=>?_⟩;have S4:ab j (upd j s (.tup ((b0 a).map V.str))):=ab.new hs;refine⟨x,s,w,b0 a,J0,J1,t,p,rfl,M'.same S4,aa,fun g H5 hg _ S5=>?_⟩;have n:=S4.trans S5;refine .inl ⟨g,_,rfl,.inl (aw.of hg),_,_,rfl,rfl,n _ _ h,?_,?_⟩
  ·rw[ah,ah,aI];exact ao (by rw[fO];omega)
  refine mF hi ⟨?_,fun b o e=>?_,aa⟩
  ·rw[take_snoc O,av,av];show _++[V.bl (decide ((0:Int)<(((bE p (w,b0 a)).map V.str).length:Nat)))]=_;rw[ah];rfl
  ·rw[ai (ae e hq)];exact n _ _ (S _ _ e)
theorem En{K:Za}{H:Hp}{l m:Addr}{a b:Zb}{Q:VK}(e:H l=some (.lst (a.map V.str)))(f:H m=some (.lst (b.map V.str)))(k:Q (.bl (!decide (a=b))) H):wm K (.ref l) (.ref m) H Q:=by
 refine⟨.s (a.map gu),.s (b.map gu),vg (aw.of e),vg (aw.of f),?_,?_,?_⟩
 ·show DT.depths _+1<=8;rw[eX];decide
 ·show DT.depths _+1<=8;rw[eX];decide
 ·rw[decide_eq_decide.mpr (show DT.s (a.map gu)=DT.s (b.map gu)↔a=b from⟨fun h=>iA (by injection h),fun h=>by rw[h]⟩)];exact k
def Bx(F:Zb)(a:Str)(d:ak):Bool:=decide (d.a∈F) && decide (d.sg=b0 a)
theorem Bw{f:List ak}{F:Zb}{r a:Str}(i:∀w,w∈F↔iD f [r] w):f.filter (Bx F a)=[]↔takesB f r a=false:=by
 rw[yy,List.filter_eq_nil_iff];constructor
 ·rintro h ⟨w,j,b,k⟩;refine h _ k ?_;unfold Bx;rw[zzr1,zzr1]
  ·rfl
  ·rfl
  ·exact(i w).mpr ⟨r,cU,j⟩
 ·intro n d hd q;unfold Bx at q;rw[x_]at q;have l:=of_decide_eq_true q.1;have m:=of_decide_eq_true q.2;obtain⟨g,o,e⟩:=(i _).mp l;have:g=r:=by simpa using o
  subst this;obtain⟨x,p,b⟩:=d;exact n ⟨x,e,b,by rw[<-m];exact hd⟩
theorem Ie{K:Za}{σ:L2.St}{jt ja:Nat}{J f l:Addr}{B:Ze}{r:List ak}{F:Zb}{a:Str}{m:Hp}{Q:Hp->Prop}(st:σ[jt]?=some (some (.ref f)))(O:σ[ja]?=some (some (.str a)))
  (T:m J=some (.lst (B.map V.ref))) (hd:cY m B r) (U:m f=some (.lst (F.map V.str))) (z:r.length<=1000) (L:m l=none)
  (k:∀(g:Ze) (e:Hp),e l=some (.lst (g.map V.ref))->cY e g (r.filter (Bx F a))->ab m e->Q e) :
  em 1 [jt,ja] σ (Io K J) U0 (sQ (aU (aH (pL K false) (aH (r8 K) V0 (tC (.int 0))) V1)) (aU (aH (mC K) (aH (r8 K) V0 (tC (.int 1))) (bf (aX (tC (.str "ask")) V2))))) V0 m l Q:=by
 have Y:dE 1 [jt,ja] σ=[none,some (.ref f),some (.str a)]:=by simp[dE,st,O]
 let C:Nat->List V->Hp->Prop:=fun i t e=>∃g:List Addr,t=g.map V.ref/\cY e g ((r.take i).filter (Bx F a))/\ab m e/\e l=some (.lst t)
 refine bX (xs:=B.map V.ref) C
  ⟨[],rfl,.nil,ab.new L,aa⟩ (fun i t e _ ⟨_,_,_,S,n⟩=>⟨n,aw.of (S _ _ T)⟩) ?_ ?_
 ·rintro t e ⟨g,rfl,D,S,n⟩;rw[ah,Paired.length hd,be]at D;exact k g e n D S
 ·rintro i t e y hy E ⟨g,rfl,D,S,n⟩;obtain⟨u,hu,rfl⟩:=bY hy;obtain⟨w,j,G⟩:=Paired.getL hd hu;obtain⟨sb,p,v⟩:=G.kt (ab.kt S);have al:i<r.length:=(bM.mp j).1;have zu:g.length<=i:=by
   have:=Paired.length D;rw[this];refine aE (cO _ _) ?_;rw[aI];omega
  rw[Y];refine gN ?_;refine⟨_,rfl,.inr (.inl ⟨u,_,0,_,rfl,rfl,bQ.of p,rfl,_,rfl,gu w.a,F.map gu,f,_,nR _,rfl,.inl (aw.of (S _ _ U)),lA _,(by show 0<=8;decide),by rw[eX];decide,_,rfl,?_⟩)⟩;rw[if_neg iP,tG];by_cases x:w.a∈F;rotate_left
  ·rw[zzr0 x];refine bA (bA (mF E ⟨g,rfl,?_,S,n⟩));rw[lr j,if_neg (by unfold Bx;rw[zzr0 x,DG];decide),dJ];exact D
  rw[zzr1 x];refine bP ?_;refine⟨_,rfl,.inr (.inl ⟨u,_,1,_,rfl,rfl,bQ.of p,rfl,_,rfl,(by show 2<=aj;decide),fun s hs=>?_⟩)⟩;have h:ab e (upd e s (.tup ((b0 a).map V.str))):=ab.new hs;have M:upd e s (.tup ((b0 a).map V.str)) s=some (.tup ((b0 a).map V.str)):=aa;have H:(.tup [.str "ask",.str a]:HO)=.tup ((b0 a).map V.str):=rfl;rw[H];generalize upd e s (.tup ((b0 a).map V.str))=I at h M ⊢;have N:=D.kt (ab.kt h);refine⟨iB w.sg,iB (b0 a),aZ (bQ.of (h _ _ v)),aZ (bQ.of M),by rw[bJ];decide,by rw[bJ];decide,_,rfl,?_⟩;rw[fE];by_cases A:w.sg=b0 a;rotate_left
  ·rw[zzr0 A];refine bA (mF E ⟨g,rfl,?_,S.trans h,h _ _ n⟩);rw[lr j,if_neg (by unfold Bx;rw[zzr0 A,ye];decide),dJ];exact N
  rw[zzr1 A];refine bP ?_;have S3:ab m (upd I l (.lst (g.map V.ref++[.ref u]))):=fun b o q=>by
   rw[ai (ae q L)];exact h _ _ (S _ _ q)
  have kt:gv I (upd I l (.lst (g.map V.ref++[.ref u]))):=fun b xs q=>by
   rw[ai (fun z=>by rw[z,h _ _ n]at q;cases q)];exact q
  refine⟨_,rfl,h _ _ n,by rw[ah];exact ao (by omega),mF E ⟨g++[u],by rw[av];rfl,?_,S3,aa⟩⟩;rw[lr j,if_pos (by unfold Bx;rw[zzr1 x,zzr1 A];rfl)];exact ge (N.kt kt) ⟨sb,kt _ _ (h _ _ p),kt _ _ (h _ _ v)⟩
theorem HM{K:Za}{H:Hp}{l q:Addr}{e:Ze}{a:List ak}{Q:VK}(f:H l=some (.lst (e.map V.ref)))(g:cY H e a)(i:H q=some (.lst []))(h:Q (.bl (decide (a=[]))) H):mC K (.ref l) (.ref q) H Q:=by
 refine⟨.s (a.map zK),.s [],(by unfold vE;exact⟨l,_,rfl,aw.of f,g.dIns⟩),(by unfold vE;exact⟨q,_,rfl,aw.of i,by unfold DIns;rfl⟩),?_,(by decide),?_⟩
 ·show DT.depths _+1<=8;have:=vf a;omega
 ·rw[decide_eq_decide.mpr (show DT.s (a.map zK)=DT.s []↔a=[]from⟨fun z=>qx.mp (by injection z),fun z=>by rw[z];rfl⟩)];exact h
theorem Reach.unask{ds:List ak}{d:ak}(n:d.sg≠aF){a b:Str}(r:Reach (ds++[d]) a b):Reach ds a b:=by
 have f:∀{x y:Str},(⟨x,aF,y⟩:ak)∈ds++[d]->(⟨x,aF,y⟩:ak)∈ds:=fun q=>by
  rcases bL.mp q with q|q
  ·exact q
  ·have e:=dP.mp q;exact absurd (by rw[<-e]) n
 induction r with
 |one q=>exact .one (f q)
 |step _ q g=>exact .step g (f q)
theorem iO.mono{ds e:List ak}(h:∀d∈ds,d∈e){r a:Str}:iO ds r a->iO e r a:=fun⟨w,f,b,g⟩=>⟨w,f.imp id (Reach.mono fun x y=>h _),b,h _ g⟩
theorem mem_putD{a:List ak}{d x:ak}:x∈mD a d↔x∈a∨x=d:=by
 unfold mD;split
 ·rename_i h;exact⟨.inl,fun z=>z.elim id fun e=>by rw[e];exact h⟩
 ·simp
theorem aP.putOne{i j k:Zb}{f:List ak}{d:ak}(m:aP i j k f)(g:BJ i j k d)(n:d.sg≠aF)(z:f.length+1<=1000):aP i j k (mD f d):=by
 refine⟨m.okA,m.okS,m.apart,m.okR,m.asks0,m.says0,m.rooms0,m.asks4,m.says4,m.rooms26,?_,fun x l=>?_,?_,fun r q=>?_⟩
 ·unfold mD;split
  ·exact m.nodup
  ·rename_i h;rw[dk];exact⟨m.nodup,by simp,fun a o b p e=>h (by rw[<-dP.1 p,<-e];exact o)⟩
 ·rcases mem_putD.mp l with h|h
  ·exact m.good x h
  ·rw[h];exact g
 ·have:=uJ f d;omega
 ·refine m.noround r ?_;unfold mD at q;split at q
  ·exact q
  ·exact q.unask n
theorem xA(a:Str):b0 a≠aF:=by unfold b0 aF;intro h;injection h with _ h;cases h
structure TX(H0:Hp)(p c l:Addr)(R:List ak->Prop)(H:Hp):Prop where
 pen:gV H p c
 ds:∃ts ds,H l=some (.lst (ts.map V.ref))/\cY H ts ds/\R ds
 ex:bC p H0 H
 fr:H0 l=none
 pl:p≠l
 cl:c≠l
section
variable{H0 H H':Hp}{p c l:Addr}{R R':List ak->Prop}
theorem TX.took(h:TX H0 p c l R H)(a:gV H' p c)(e:bC p H H'):TX H0 p c l R H':=by
 obtain⟨f,g,i,j,k⟩:=h.ds;obtain⟨n,m⟩:=h.pen.lst;exact⟨a,⟨f,g,e _ _ i h.pl.symm,j.kt (e.kt m),k⟩,h.ex.trans e,h.fr,h.pl,h.cl⟩
theorem TX.same(h:TX H0 p c l R H)(S:ab H H'):TX H0 p c l R H':=h.took (h.pen.ex S) (ab.exB S)
theorem TX.imp(h:TX H0 p c l R H)(q:∀a,R a->R' a):TX H0 p c l R' H:=by
 obtain⟨e,a,f,g,i⟩:=h.ds;exact⟨h.pen,⟨e,a,f,g,q _ i⟩,h.ex,h.fr,h.pl,h.cl⟩
theorem TX.put{a:Ze}{e:List ak}(h:TX H0 p c l R H)(g:∃f,H l=some (.lst f))(i:cY H a e)(r:R' e):TX H0 p c l R' (upd H l (.lst (a.map V.ref))):=by
 obtain⟨f,j⟩:=g;refine⟨h.pen.upd h.pl h.cl,⟨a,e,aa,i.kt fun b k q=>?_,r⟩,fun b o q n=>?_,h.fr,h.pl,h.cl⟩
 ·rw[ai (fun z=>by rw[z,j]at q;cases q)];exact q
 ·rw[ai (ae q h.fr)];exact h.ex _ _ q n
end
def WR(J0 J1 J2:Zb)(D:List (Str×Str))(n:Nat)(ds:List ak):Prop:=aP J0 J1 J2 ds/\ds.length<=n/\∀x∈D,iO ds x.1 x.2
theorem WR.up{J0 a e:Zb}{D:List (Str×Str)}{n f:Nat}{g:List ak}(h:WR J0 a e D n g)(z:n<=f):WR J0 a e D f g:=⟨h.1,aE h.2.1 z,h.2.2⟩
inductive kZ (vs:List V)(H:Hp)(Q:VK)(E:XK):Prop
 |mk (p c t l1 l2 l3 l4:Addr) (ts:Ze) (J0 J1 J2:Zb) (ds:List ak):(vs=[.ref p,.ref t])->(gV H p c)->(gR H t l1 l2 l3 l4 ts J0 J1 J2 ds)->(aP J0 J1 J2 ds)->(J2.length<=26)->(ds.length<=800)->(∀(t' l4':Addr) (ts':Ze) (ds':List ak) (H':Hp),gR H' t' l1 l2 l3 l4' ts' J0 J1 J2 ds'->aP J0 J1 J2 ds'->(∀r∈J2,∀a∈J0,iO ds' r a)->ds'.length<=ds.length+4 * J2.length->gV H' p c->bC p H H'->Q (.ref t') H')->kZ  vs H Q E
theorem Cy{K:Za}{vs:List V}{H:Hp}{Q:VK}{E:XK}(h:kZ vs H Q E):vO K k5 fx (dL K) (bj Q) (start wu vs) H:=by
 obtain⟨p,c,t,l1,l2,N,l4,ts,J0,O,A,ds,rfl,hp,T,m,b2,z8,k⟩:=h;have a4:=m.asks4;refine⟨_,rfl,t,_,rfl,bQ.of T.t,rfl,_,_,rfl,_,_,rfl,_,_,rfl,_,_,rfl,rfl,?_⟩;refine⟨_,rfl,.inl ⟨l4,_,rfl,.inl (aw.of T.a4),fun f hf=>?_⟩⟩;have B0:TX H p c f (WR J0 O A [] ds.length) (upd H f (.lst (ts.map V.ref))):=⟨hp.ex (ab.new hf),⟨ts,ds,aa,T.ds.kt (ab.kt (ab.new hf)),m,aB _,by simp⟩,bC.new hf,hf,hp.nep hf,hp.nec hf⟩;generalize upd H f (.lst (ts.map V.ref))=H1 at B0 ⊢;have keep:∀{G:Hp}{R:List ak->Prop},TX H p c f R G->G l1=some (.lst (J0.map V.str))/\G l2=some (.lst (O.map V.str))/\G N=some (.lst (A.map V.str)):=fun B =>
  ⟨B.ex _ _ T.a1 (hp.ne_strs T.a1),B.ex _ _ T.a2 (hp.ne_strs T.a2),B.ex _ _ T.a3 (hp.ne_strs T.a3)⟩
 refine⟨_,rfl,N,rfl,⟨_,aw.of (keep B0).2.2⟩,?_⟩
 let bc:Nat->L2.St->Hp->Prop:=fun i σ G=>LP fun(a6 U Y a9:Option V)=>σ=[some (.ref p),some (.ref t),some (.ref l1),some (.ref l2),some (.ref N),some (.ref f),a6,U,Y,a9]/\TX H p c f (WR J0 O A ((A.take i).flatMap fun r=>J0.map fun a=>(r,a)) (ds.length+4 * i)) G
 refine bO (xs:=A.map V.str) bc
  ⟨_,_,_,_,rfl,B0⟩ (fun i σ G _ ⟨_,_,_,_,_,B⟩=>aw.of (keep B).2.2) ?_ ?_
 ·rintro i v σ H2 hi ⟨a6,U,Y,a9,rfl,J⟩;obtain⟨r,hr,rfl⟩:=bH hi;have b3:i<A.length:=(bM.mp hr).1;have al:=bT hr;refine⟨_,rfl,l1,rfl,⟨_,aw.of (keep J).1⟩,?_⟩
  let bd:Nat->L2.St->Hp->Prop:=fun j σ G=>K1 fun(U Y a9:Option V)=>σ=[some (.ref p),some (.ref t),some (.ref l1),some (.ref l2),some (.ref N),some (.ref f),some (.str r),U,Y,a9]/\TX H p c f (WR J0 O A ((A.take i).flatMap (fun r=>J0.map fun a=>(r,a))++(J0.take j).map fun a=>(r,a)) (ds.length+4 * i+j)) G
  refine bO (xs:=J0.map V.str) bd
   ⟨_,_,_,rfl,J.imp fun ds h=>by simpa using h⟩ (fun i σ G _ ⟨_,_,_,_,B⟩=>aw.of (keep B).1) ?_ ?_
  ·rintro j v σ H3 hj ⟨U,Y,a9,rfl,B3⟩;obtain⟨a,ha,rfl⟩:=bH hj;have b4:j<J0.length:=(bM.mp ha).1;have bi:=bT ha;have an:∀C n,WR J0 O A ((A.take i).flatMap (fun r=>J0.map fun a=>(r,a))++(J0.take j).map fun a=>(r,a)) n C->iO C r a->WR J0 O A ((A.take i).flatMap (fun r=>J0.map fun a=>(r,a))++(J0.take (j+1)).map fun a=>(r,a)) n C:=fun C n w tk=>by
    refine⟨w.1,w.2.1,fun x hx=>?_⟩;rw[take_snoc ha,av,<-eQ]at hx;rcases bL.mp hx with h|h
    ·exact w.2.2 x h
    ·have:x=(r,a):=by simpa using h
     rw[this];exact tk
   refine⟨_,rfl,_,rfl,(by show 1<=aj;decide),fun q hq=>?_⟩;have B4:=B3.same (ab.new (o:=.lst [.str r]) hq);have q4:upd H3 q (.lst [.str r]) q=some (.lst [.str r]):=aa;generalize upd H3 q (.lst [.str r])=H4 at B4 q4 ⊢;obtain⟨us,C,g1,g2,D⟩:=B4.ds;refine⟨f,q,us,C,[r],A,rfl,g1,g2,q4,fun d hd=>(D.1.good d hd).b,by omega,(by show 1<=1000;decide),fun th F H5 bl hF _ _ S5=>?_⟩;have B5:=B4.same S5;have f5:=S5 _ _ g1;have d5:=g2.kt (ab.kt S5);refine⟨_,rfl,f,rfl,⟨_,aw.of f5⟩,fun l hl=>?_⟩;refine Ie (K:=K) (jt:=8) (ja:=7) rfl rfl f5 d5 bl D.1.few hl fun vs H6 h6 D6 S6=>⟨(by show 0<=aj;decide),fun e he=>?_⟩;refine HM (kp h6 he) (D6.kt (ab.kt (ab.new he))) aa ⟨_,rfl,?_⟩;have S7:ab H5 (upd H6 e (.lst [])):=S6.trans (ab.new he);generalize upd H6 e (.lst [])=H7 at S7 ⊢;have f7:=S7 _ _ f5;have d7:=d5.kt (ab.kt S7);have B7:TX H p c f (fun ap=>ap=C) H7:=by
    have B:=B5.same S7;exact⟨B.pen,⟨us,C,f7,d7,rfl⟩,B.ex,B.fr,B.pl,B.cl⟩
   cases q:takesB C r a with
   |true =>
    rw[zzr0 (fun z=>by rw[Bw hF,q]at z;cases z)];exact bA ⟨_,_,_,rfl,B7.imp fun ap e=>by rw[e];exact an _ _ (D.up (by omega)) (mr.mp q)⟩
   |false =>
    rw[zzr1 ((Bw hF).mpr q)];refine bP ?_;have bm:=(keep B7).2.2;refine⟨_,rfl,_,rfl,_,rfl,_,rfl,.inl ⟨N,_,rfl,.inl (aw.of bm),?_⟩⟩;rw[ah];refine dR B7.pen (by omega) (by omega) fun x H8 x0 x1 bn bu=>?_;obtain⟨n,rfl⟩:=jT x0;have B8:=B7.took bn bu;obtain⟨w,hw⟩:∃w,A[n]?=some w:=⟨_,da (by omega)⟩;refine⟨N,_,(n:Int),.str w,rfl,rfl,aw.of (keep B8).2.2,ca (j:=n) (by rw[cF,hw];rfl),(by show 2<=aj;decide),fun u hu=>?_⟩;have B9:=B8.same (ab.new (o:=.lst [.str r,.str w]) hu);have u9:upd H8 u (.lst [.str r,.str w]) u=some (.lst ([r,w].map V.str)):=aa;generalize upd H8 u (.lst [.str r,.str w])=H9 at B9 u9 ⊢;refine⟨_,rfl,dR B9.pen (by decide) (by decide) fun y I y0 y1 as L=>?_⟩;have bw:=B9.took as L;obtain⟨g,hg,bz⟩:∃g,xz ([r,w].map V.str) y=some (.str g)/\g∈A:=by
     have:y=0∨y=1:=by omega
     rcases this with rfl|rfl
     ·exact⟨r,rfl,al⟩
     ·exact⟨w,rfl,bT hw⟩
    refine⟨u,_,y,.str g,rfl,rfl,aw.of (L _ _ u9 (B9.pen.ne_strs u9)),hg,?_⟩;refine⟨_,rfl,_,rfl,_,rfl,(by show 2<=aj;decide),fun s hs=>⟨_,rfl,(by show 3<=aj;decide),fun d hd=>?_⟩⟩;have aC:ab I (upd (upd I s (.tup [.str "ask",.str a])) d (.tup [.str r,.ref s,.str g])):=(ab.new hs).trans (ab.new hd);have M:hW (upd (upd I s (.tup [.str "ask",.str a])) d (.tup [.str r,.ref s,.str g])) d ⟨r,b0 a,g⟩:=⟨s,aa,kp aa hd⟩;generalize upd (upd I s (.tup [.str "ask",.str a])) d (.tup [.str r,.ref s,.str g])=b5 at aC M ⊢;have a0:=bw.same aC;obtain⟨bI,bS,k1,k2,rfl⟩:=id a0.ds;have zz:=D.2.1;have a5:BJ J0 O A ⟨r,b0 a,g⟩:=⟨al,bz,.inl ⟨a,bi,rfl⟩⟩;refine⟨f,d,bI,_,⟨r,b0 a,g⟩,rfl,k1,k2,M,D.1.few,fun b6 D2=>?_⟩;refine⟨_,_,_,rfl,a0.put ⟨_,k1⟩ D2 (an _ _ ⟨D.1.putOne a5 (xA a) (by omega),?_,fun x hx=>(D.2.2 x hx).mono fun y hy=>mem_putD.mpr (.inl hy)⟩ ⟨r,.inl rfl,g,mem_putD.mpr (.inr rfl)⟩)⟩;have:=uJ bS ⟨r,b0 a,g⟩;omega
  ·rintro σ H3 ⟨U,Y,a9,rfl,B3⟩;refine⟨_,_,_,_,rfl,B3.imp fun C h=>?_⟩;rw[ah]at h;refine⟨h.1,by have:=h.2.1;omega,fun x hx=>h.2.2 x ?_⟩;rw[take_snoc hr,List.flatMap_append]at hx;rw[be];simpa using hx
 ·rintro σ H2 ⟨a6,U,Y,a9,rfl,J⟩;rw[ah,be]at J;obtain⟨us,C,g1,g2,D⟩:=J.ds;obtain⟨q1,q2,q3⟩:=keep J;refine⟨_,rfl,_,rfl,_,rfl,_,rfl,(by show 4<=aj;decide),fun t' b1=>?_⟩;have S3:=ab.new (o:=.tup [.ref l1,.ref l2,.ref N,.ref f]) b1;exact k t' f us C _ ⟨aa,S3 _ _ q1,S3 _ _ q2,S3 _ _ q3,S3 _ _ g1,g2.kt (ab.kt S3)⟩ D.1 (fun r hr a ha=>D.2.2 (r,a) (List.mem_flatMap.mpr ⟨r,hr,aQ.mpr ⟨a,ha,rfl⟩⟩)) D.2.1 (J.pen.ex S3) (J.ex.trans (ab.exB S3))
abbrev Sg:=List Str
def stepsF(J0 J1 J2:Zb)(ds:List ak)(J6:Zb):List (Sg×List Str):=((bZ J0 J1).map fun sg=>(sg,behF J2 ds J6 sg)).filter fun p=>decide (p.2≠[])
structure FMs where
 fs:List (List Str)
 ss:List (List Sg)
abbrev FMst:=FMs×List (List (Sg×Nat))
def JG(hu:Addr)(H:Hp)(u:Addr)(sg:Zb):Prop:=H u=some (.tup (sg.map V.str))∨(u=hu/\sg=cA)
theorem JG.same{a:Addr}{H e:Hp}{u:Addr}{f:Zb}(h:JG a H u f)(S:ab H e):JG a e u f:=h.imp (S _ _) id
theorem DR{K:Za}{a:Addr}{e:List V}(h:∀H,bQ K H a e)(H:Hp):cE K H a e:=by
 rcases h (fun _=>none)with(h|⟨o,h⟩)|h
 ·cases h
 ·cases h
 ·exact .inr h
section
variable{K:Za}{hu:Addr}(hh:∀H,bQ K H hu (cA.map V.str))
include hh
theorem JG.tup{H:Hp}{u:Addr}{a:Zb}(h:JG hu H u a):cE K H u (a.map V.str):=by
 rcases h with h|⟨rfl,rfl⟩
 ·exact .inl h
 ·exact DR hh H
theorem JG.sq{H:Hp}{u:Addr}{a:Zb}(h:JG hu H u a):bQ K H u (a.map V.str):=by
 rcases h with h|⟨rfl,rfl⟩
 ·exact bQ.of h
 ·exact hh H
end
inductive yX(C hu:Addr)(vs:List V)(H:Hp)(Q:VK)(E:XK):Prop
 |mk (x:Addr) (J0 J1 J2:Zb) (ds:List ak):(vs=[.ref x])->(bU C H x J0 J1 J2 ds)->(∀(l:Addr) (us:Ze) (H':Hp),H' l=some (.lst (us.map V.ref))->Paired (JG hu H') us (bZ J0 J1)->ab H H'->Q (.ref l) H')->yX C hu vs H Q E
theorem Kn{K:Za}{C g:Addr}{D:List V}{H:Hp}{Q:VK}{E:XK}(h:yX C g D H Q E):qM K C (m8 C) (mV C) g (bj Q) (start rD D) H:=by
 obtain⟨x,l,m,G,I,rfl,M,k⟩:=h;have z1:=M.ok.asks4;have z2:=M.ok.says4;obtain⟨n,fs,U,Y,lv,p,q,a1,a2,_⟩:=uA M;refine⟨_,rfl,x,n,fs,rfl,q,a1,x,l,m,G,I,rfl,M,fun J s=>⟨J,rfl,⟨_,aw.of aa⟩,fun la t=>?_⟩⟩;have L:ab H (upd H J (.lst (l.map V.str))):=ab.new s;refine lC (kd:="ask") (ws:=l) aa (by omega) t fun u N h1 a O=>?_;have M1:=M.same (L.trans O);obtain⟨n,fs,U,Y,lv,p,q,a1,a2,_⟩:=uA M1;refine⟨_,rfl,x,n,fs,rfl,q,a2,x,l,m,G,I,rfl,M1,fun T v=>⟨T,rfl,⟨_,aw.of aa⟩,fun ls w=>?_⟩⟩;have S2:ab N (upd N T (.lst (m.map V.str))):=ab.new v;refine lC (kd:="say") (ws:=m) aa (by omega) w fun y H2 h2 e S3=>?_;have f:=S2.trans S3;have z:=f _ _ h1;have i:=j7.kt (ab.kt f) a;refine⟨la,ls,_,_,rfl,rfl,z,h2,?_,fun c1 A=>?_⟩
 ·rw[ah,ah,Paired.length a,Paired.length e,ah,ah];exact cT (ao (by omega))
 refine⟨(by show 1<=aj;decide),fun hl j=>?_⟩;refine⟨c1,hl,_,_,rfl,rfl,kp aa j,aa,?_,fun r hr=>?_⟩
 ·rw[a_,ah,ah,Paired.length a,Paired.length e,ah,ah];exact cT (ao (by show _+1<=1000;omega))
 have B:=((ab.new (o:=.lst (u.map V.ref++y.map V.ref)) A).trans (ab.new (o:=.lst [.ref g]) j)).trans (ab.new (o:=.lst (u.map V.ref++y.map V.ref++[.ref g])) hr);refine k r (u++y++[g]) _ ?_ ?_ (((L.trans O).trans f).trans B)
 ·rw[aa,av,av];rfl
 ·exact Paired.app (Paired.app (Paired.mapP (j7.kt (ab.kt B) i) fun _ _ r=>.inl r) (Paired.mapP (j7.kt (ab.kt B) e) fun _ _ r=>.inl r)) (.cons (.inr ⟨rfl,rfl⟩) .nil)
theorem uY{i j n:Zb}{o:List ak}(m:aP i j n o):(bZ i j).Nodup:=by
 unfold bZ;have p:∀a b:Str,b0 a=b0 b->a=b:=fun a b h=>by unfold b0 at h;injection h with _ h;injection h
 have q:∀a b:Str,gG a=gG b->a=b:=fun a b h=>by unfold gG at h;injection h with _ h;injection h
 have k:∀{f:Str->List Str}{l:Zb},(∀a b,f a=f b->a=b)->l.Nodup->(l.map f).Nodup:=by
  intro f l r s;rw[xK,List.pairwise_map];exact(xK.1 s).imp fun h e=>h (r _ _ e)
 rw[dk,dk];refine⟨⟨k p m.okA.1,k q m.okS.1,?_⟩,by simp,?_⟩
 ·intro x hx y g e;obtain⟨a,_,rfl⟩:=aQ.1 hx;obtain⟨b,_,rfl⟩:=aQ.1 g;unfold b0 gG at e;injection e with e _;exact absurd e (by decide)
 ·intro x hx y g e;rw[dP.1 g]at e;rcases bL.1 hx with hx|hx
  ·obtain⟨a,_,rfl⟩:=aQ.1 hx;unfold b0 cA at e;injection e with _ e;cases e
  ·obtain⟨a,_,rfl⟩:=aQ.1 hx;unfold gG cA at e;injection e with _ e;cases e
abbrev kM(H:Hp)(kvs:List (TK×V))(L:List (Sg×List Str)):Prop:=Paired (fun(kv:TK×V) (p:Sg×List Str)=>kv.1=eO p.1/\∃u,kv.2=.ref u/\H u=some (.tup (p.2.map V.str))) kvs L
theorem Iz{κ:Type}[DecidableEq κ]{a:List (κ×V)}{k:κ}(h:∀e∈a,e.1≠k):bb a k=none:=by
 unfold bb;rw[List.find?_eq_none.2 fun e f=>by simpa using h e f]
 rfl
theorem fD(e:Zb):(eO e).depth<=8:=by
 have:∀l:List Str,TK.depths (l.map pH)=0:=by
  intro l
  induction l with
  |nil=>rfl
  |cons a l f=>show max (TK.depth (pH a)) (TK.depths _)=0;rw[f];rfl
 show TK.depths (e.map pH)+1<=8;rw[this];decide
def stG(J2:Zb)(ds:List ak)(J6:Zb)(L:List (List Str)):List (Sg×List Str):=(L.map fun sg=>(sg,behF J2 ds J6 sg)).filter fun p=>decide (p.2≠[])
theorem AF(a:Zb)(e:List ak)(f:Zb)(L:List (List Str))(g:Zb):stG a e f (L++[g])=stG a e f L++if behF a e f g=[]then[]else[(g,behF a e f g)]:=by
 unfold stG;rw[av,iF];congr 1;by_cases c:behF a e f g=[]
 ·rw[if_pos c];simp[c]
 ·rw[if_neg c];simp[c]
theorem IL{a:Zb}{e:List ak}{f:Zb}{L:List (List Str)}{p:Sg×List Str}(h:p∈stG a e f L):p.1∈L:=by
 obtain⟨i,g,rfl⟩:=aQ.1 (fQ.1 h).1;exact g
theorem IM{J2:Zb}{ds:List ak}{J6:Zb}{L:List (List Str)}:(stG J2 ds J6 L).length<=L.length:=by
 unfold stG;exact aE (cO _ _) (by rw[ah];exact aB _)
theorem kM.kt{H H':Hp}{a:List (TK×V)}{L:List (Sg×List Str)}(k:gv H H')(h:kM H a L):kM H' a L:=Paired.mapP h fun _ _ ⟨e,u,f,r⟩=>⟨e,u,f,k _ _ r⟩
theorem kM.no{H:Hp}{f:List (TK×V)}{L:List (Sg×List Str)}(h:kM H f L){g:Sg}(n:∀p∈L,p.1≠g):bb f (eO g)=none:=by
 refine Iz ?_
 induction h with
 |nil=>intro i hk;exact nomatch hk
 |@cons a b l bs r t j =>
  intro i hk;rcases cC.1 hk with rfl|hk
  ·rw[r.1];exact fun e=>n b cU (eK e)
  ·exact j (fun p k=>n p (c7 _ k)) i hk
theorem zj{α:Type}{L:List α}(g:L.Nodup){i:Nat}{x:α}(e:L[i]?=some x):¬x∈L.take i:=by
 intro h;obtain⟨j,k,a⟩:=List.getElem_of_mem h;rw[aI]at k;have f:i<L.length:=by rcases Nat.lt_or_ge i L.length with z|z;exact z;rw[xZ z]at e;cases e
 rw[List.getElem_take]at a;rw[da f]at e;injection e with e;exact List.pairwise_iff_getElem.1 (xK.1 g) j i (by omega) f (by omega) (a.trans e.symm)
theorem JY{H:Hp}{d:Addr}{a:List (TK×V)}{o:HO}(h:H d=some (.dT a)):gv H (upd H d o):=fun b f e=>by rw[ai (fun z=>by rw[z,h]at e;cases e)];exact e
theorem ifQ{b:Bool}{P X Y:Prop}(h:b=true↔P)(a:P->X)(e:¬P->Y):if b=true then X else Y:=by
 cases b with
 |true=>exact a (h.1 rfl)
 |false=>exact e fun z=>by cases h.2 z
inductive k4(C:Addr)(vs:List V)(H:Hp)(Q:VK)(E:XK):Prop
 |mk (x t:Addr) (J6 J0 J1 J2:Zb) (ds:List ak):(vs=[.ref x,.ref t])->(bU C H x J0 J1 J2 ds)->(H t=some (.tup (J6.map V.str)))->((∀r∈J6,r∈J2))->(J6.length<=1000)->(∀(d:Addr) (kvs:List (TK×V)) (H':Hp),H' d=some (.dT kvs)->kM H' kvs (stepsF J0 J1 J2 ds J6)->H d=none->ab H H'->Q (.ref d) H')->k4 C vs H Q E
theorem Cz{K:Za}{C T:Addr}(hh:∀H,bQ K H T (cA.map V.str)){vs:List V}{H:Hp}{Q:VK}{E:XK}(h:k4 C vs H Q E):BV K (yX C T) (tu K C) (bj Q) (start Dq vs) H:=by
 obtain⟨x,t,J6,w,A,J2,ds,rfl,M,ht,B,hz,k⟩:=h;have z1:=M.ok.asks4;have z2:=M.ok.says4;have zl:(bZ w A).length<=9:=by unfold bZ;rw[a_,a_,ah,ah];show _+1<=9;omega
 have nd:=uY M.ok;refine fun d U=>?_;have S0:ab H (upd H d (.dT [])):=ab.new U;refine⟨_,rfl,x,w,A,J2,ds,rfl,M.same S0,fun l us H1 Y hP N=>⟨l,rfl,⟨_,aw.of Y⟩,?_⟩⟩
 let al:Nat->L2.St->Hp->Prop:=fun i σ D=>K1 fun(g:List (TK×V)) (x3 x4:Option V)=>JK (σ=[some (.ref x),some (.ref t),some (.ref d),x3,x4]) (D d=some (.dT g)) (ab H D) ((∀b o,H1 b=some o->b≠d->D b=some o)) (kM D g (stG J2 ds J6 ((bZ w A).take i)))
 refine bO (xs:=us.map V.ref) al
  ⟨[],_,_,rfl,N _ _ aa,S0.trans N,fun _ _ e _=>e,.nil⟩ (fun i σ D _ ⟨_,_,_,_,_,_,S,_⟩=>aw.of (S _ _ Y fun e=>by subst e;have:=N _ _ (aa (H:=H) (a:=l) (o:=.dT []));rw[Y]at this;cases this)) ?_ ?_
 ·rintro i y σ H2 hi ⟨g,x3,x4,rfl,h2,s,G,st⟩;obtain⟨u,an,rfl⟩:=bY hi;obtain⟨m,q,ap⟩:=Paired.getL hP an;have j:JG T H2 u m:=ap.imp (fun e=>G _ _ e fun z=>by subst z;have:=N _ _ (aa (H:=H) (a:=u) (o:=.dT []));rw[e]at this;cases this) id;refine⟨_,rfl,_,rfl,_,rfl,x,t,u,J6,m,w,A,J2,ds,rfl,M.same s,s _ _ ht,j.sq hh,j.symm.imp (fun e=>e.2) id,B,hz,fun f H3 hf v=>?_⟩;have h3:=v _ _ h2;refine⟨_,rfl,.inl ⟨f,_,rfl,.inr (bQ.of hf),_,_,rfl,rfl,?_⟩⟩;refine⟨_,rfl,?_⟩;have I:=j.same v;have J:∀b o,H1 b=some o->b≠d->H3 b=some o:=fun b o e n=>v _ _ (G b o e n);have r:=st.kt (ab.kt v);refine ifQ (P:=behF J2 ds J6 m≠[]) ?_ (fun c=>?_) (fun c=>?_)
  ·rw[ah];constructor
   ·intro h z;rw[z]at h;exact absurd h (by decide)
   ·intro h;exact zzr1 (by have:=List.length_pos_iff.mpr h;omega)
  rotate_left
  ·have c:=Classical.not_not.1 c;refine⟨g,_,_,rfl,h3,s.trans v,J,?_⟩;rw[take_snoc q,AF,if_pos c,dJ];exact r
  ·have no:bb g (eO m)=none:=r.no fun p hp e=>by
    have O:=IL hp;rw[e]at O;exact zj nd q O
   have ll:g.length<aj:=by
    rw[Paired.length st];refine ao ?_;have O:=IM (J2:=J2) (ds:=ds) (J6:=J6) (L:=(bZ w A).take i);rw[aI]at O;omega
   refine⟨_,rfl,_,rfl,_,rfl,d,u,g,eO m,rfl,rfl,h3,Gz (I.tup hh),fD m,ll,_,_,_,rfl,aa,?_,?_,?_⟩
   ·intro b o e;rw[ai (ae e U)];exact v _ _ (s _ _ e)
   ·intro b o e n;rw[ai n];exact J b o e n
   ·rw[iu _ no,take_snoc q,AF,if_neg c];have kt:gv H3 (upd H3 d (.dT (g++[(eO m,.ref f)]))):=JY h3;exact ge (r.kt kt) ⟨rfl,f,rfl,kt _ _ hf⟩
 ·rintro σ H2 ⟨g,x3,x4,rfl,h2,s,_,st⟩;rw[ah,Paired.length hP,be]at st;exact⟨_,rfl,k d g H2 h2 st U s⟩
abbrev dZ(K:Za)(H:Hp)(w:Addr)(s:List Sg):Prop:=∃gs:List Addr,H w=some (.lst (gs.map V.ref))/\Paired (fun g (sg:Sg)=>cE K H g (sg.map V.str)) gs s
theorem cE.kt{K:Za}{H e:Hp}{a:Addr}{f:List V}(k:gv H e)(h:cE K H a f):cE K e a f:=h.keeps k
theorem dZ.kt{K:Za}{H a:Hp}{w:Addr}{s:List Sg}(k:gv H a)(e:∀o,H w=some o->a w=some o)(h:dZ K H w s):dZ K a w s:=by
 obtain⟨f,g,i⟩:=h;exact⟨f,e _ g,Paired.mapP i fun _ _ r=>cE.kt k r⟩
theorem wL{K:Za}{H:Hp}:∀{e:Zb}{a:List V},TKCs K H (e.map pH) a->a=e.map V.str
 |[],a,h=>by rw[yb]at h;unfold TKCs at h;exact h
 |s::e,a,h=>by
  rw[bF]at h;unfold TKCs at h;obtain⟨v,i,rfl,f,g⟩:=h;unfold pH so at f;rw[f,wL g]
  rfl
theorem Gx{K:Za}{H:Hp}{e:Zb}{a:V}(h:so K H (eO e) a):∃b,a=.ref b/\cE K H b (e.map V.str):=by
 unfold eO so at h;obtain⟨b,i,rfl,f,g⟩:=h;rw[wL g]at f;exact⟨b,rfl,f⟩
theorem DS{K:Za}{H:Hp}:∀a:List Str,TKIns K H (a.map pH) (a.map V.str)
 |[]=>by show TKIns K H [] [];unfold TKIns;rfl
 |x::a=>by
  rw[bF,bF];unfold TKIns;refine⟨_,_,rfl,?_,DS a⟩;unfold pH nJ
  rfl
theorem cE.sq{K:Za}{H:Hp}{a:Addr}{e:List V}(h:cE K H a e):bQ K H a e:=h.imp .inl id
theorem yu{K:Za}{H:Hp}{a:Addr}{f:Zb}(h:cE K H a (f.map V.str)):nJ K H (eO f) (.ref a):=by
 unfold eO nJ;exact⟨a,_,rfl,cE.sq h,DS f⟩
theorem Paired.rev{α β:Type}{R:α->β->Prop}:∀{a:List α}{b:List β},Paired R a b->Paired R a.reverse b.reverse
 |_,_,.nil=>.nil
 |_,_,.cons r t=>by
  rw[yf,yf];exact Paired.app (Paired.rev t) (.cons r .nil)
theorem FQ{k:Nat}{q:List Nat}{d l:Addr}{o:Obj}{u:HO}{n:Nat}{h:Nat->Hp->V->V->Prop}{g:TG}{r:TT}{s:TE}{σ:L2.St}{t:Hp}{Q:Hp->Prop}(Pv:Nat->List V->Hp->Prop)(A:Pv 0 [] (upd t l (.lst [])))
  (m:∀i e H,i<=n->Pv i e H->H l=some (.lst e)/\H d=some (.frz o u)) (B:∀e H,Pv n e H->Q H)
  (C:∀i e H a b,i<n->Pv i e H->h i H a b->g a (dE k q σ) H fun σ2 D=>r σ2 D fun b w =>
   if b=true then s σ2 w fun v z=>z l=some (.lst e)/\e.length<aj/\∃j,j<n-i/\Wc n Pv (i+1) j (e++[v]) (upd z l (.lst (e++[v])))else ∃j,j<n-i/\Wc n Pv (i+1) j e w) :
  em k q σ (K3 d o u n h) g r s t l Q:=by
 refine mM n Pv A (fun i e H f p=>(m i e H f p).1) (fun i e H f p=>⟨(m i e H (cT f) p).2,f⟩) (fun e H p=>⟨⟨(m n e H (aB _) p).2,aB _⟩,B e H p⟩) fun i e H x G f p y=>?_;obtain⟨rfl,b,E⟩:=y;exact C i e _ x b f p E
inductive gF(C:Addr)(vs:List V)(H:Hp)(Q:VK)(E:XK):Prop
 |mk (x y:Addr) (J0 J1 J2 rooms':Zb) (ds ds':List ak):(vs=[.ref x,.ref y])->(bU C H x J0 J1 J2 ds)->(bU C H y J0 J1 rooms' ds')->(∀H',ab H H'->Q .non H')->gF C vs H Q E
theorem uG{K:Za}{C:Addr}{p:List V}{H:Hp}{Q:VK}{E:XK}(h:gF C p H Q E):vN K C (mV C) (m8 C) (bj Q) (start wr p) H:=by
 obtain⟨x,y,e,f,q,a,r,g,rfl,M,N,k⟩:=h;obtain⟨s,fs,t,a1,a2,_⟩:=id M.more;obtain⟨u,v,w,J,L,_⟩:=id N.more;refine⟨_,rfl,x,s,fs,rfl,t,a1,x,e,f,q,r,rfl,M,fun i O=>?_⟩;have j:ab H (upd H i (.lst (e.map V.str))):=ab.new O;have z:upd H i (.lst (e.map V.str)) i=some (.lst (e.map V.str)):=aa;generalize upd H i (.lst (e.map V.str))=A at j z ⊢;refine⟨_,rfl,y,u,v,rfl,j _ _ w,J,y,e,f,a,g,rfl,N.same j,fun B D=>?_⟩;have l:ab H (upd A B (.lst (e.map V.str))):=j.trans (ab.new D);refine En (kp z D) aa ⟨_,rfl,?_⟩;generalize upd A B (.lst (e.map V.str))=o at l ⊢;rw[zzr1 rfl];refine bA ?_;refine⟨_,rfl,x,s,fs,rfl,l _ _ t,a2,x,e,f,q,r,rfl,M.same l,fun m T=>?_⟩;have n:ab H (upd o m (.lst (f.map V.str))):=l.trans (ab.new T);have G:upd o m (.lst (f.map V.str)) m=some (.lst (f.map V.str)):=aa;generalize upd o m (.lst (f.map V.str))=U at n G ⊢;refine⟨_,rfl,y,u,v,rfl,n _ _ w,L,y,e,f,a,g,rfl,N.same n,fun Y I=>?_⟩;have S4:ab H (upd U Y (.lst (f.map V.str))):=n.trans (ab.new I);refine En (kp G I) aa ⟨_,rfl,?_⟩;rw[zzr1 rfl];exact bA (k _ S4)
inductive iQ(C:Addr)(vs:List V)(H:Hp)(Q:VK)(E:XK):Prop
 |mk (x:Addr) (J0 J1 J2:Zb) (ds:List ak):(vs=[.ref x])->(bU C H x J0 J1 J2 ds)->((∀r∈J2,∀a∈J0,iO ds r a))->(∀H',ab H H'->Q .non H')->iQ C vs H Q E
theorem zb{K:Za}{C:Addr}{J:List V}{H:Hp}{Q:VK}{E:XK}(h:iQ C J H Q E):kU K C (ko C) (m8 C) (sp_takes C) (bj Q) (start lE J) H:=by
 obtain⟨x,e,s,f,t,rfl,M,tk,k⟩:=h;obtain⟨u,fs,o1,o2,o3,o4,lv,qu,O,sl,ts,T,U,Y,w,a1,a2,a3,a4,_⟩:=id M.at_;refine⟨_,rfl,x,u,fs,rfl,w,a4,x,e,s,f,t,rfl,M,fun g h1=>?_⟩;have o:ab H (upd H g (.lst (f.map V.str))):=ab.new h1;have A:upd H g (.lst (f.map V.str)) g=some (.lst (f.map V.str)):=aa;generalize upd H g (.lst (f.map V.str))=L at o A ⊢;refine⟨g,rfl,⟨_,aw.of A⟩,?_⟩
 let B:Nat->L2.St->Hp->Prop:=fun i σ l=>∃y z,σ=[some (.ref x),y,z]/\ab L l
 refine bO (xs:=f.map V.str) B ⟨_,_,rfl,ab.refl _⟩ (fun i σ l _ ⟨_,_,_,S⟩=>aw.of (S _ _ A)) ?_ ?_
 ·rintro i v σ m hi ⟨y,z,rfl,p⟩;obtain⟨r,N,rfl⟩:=bH hi;have M2:=M.same (o.trans p);obtain⟨u,fs,w,a1,_⟩:=id M2.more;refine⟨_,rfl,x,u,fs,rfl,w,a1,x,e,s,f,t,rfl,M2,fun n h2=>?_⟩;have D:ab L (upd m n (.lst (e.map V.str))):=p.trans (ab.new h2);have G:upd m n (.lst (e.map V.str)) n=some (.lst (e.map V.str)):=aa;generalize upd m n (.lst (e.map V.str))=H3 at D G ⊢;refine⟨n,rfl,⟨_,aw.of G⟩,?_⟩
  let I:Nat->L2.St->Hp->Prop:=fun j σ l=>∃z,σ=[some (.ref x),some (.str r),z]/\ab H3 l
  refine bO (xs:=e.map V.str) I ⟨_,rfl,ab.refl _⟩ (fun i σ l _ ⟨_,_,S⟩=>aw.of (S _ _ G)) ?_ ?_
  ·rintro j v σ H4 hj ⟨z,rfl,q⟩;obtain⟨a,ha,rfl⟩:=bH hj;refine⟨_,rfl,_,rfl,_,rfl,x,r,a,e,s,f,t,rfl,M.same ((o.trans D).trans q),bT N,fun H5 S5=>⟨_,rfl,?_⟩⟩;rw[mr.2 (tk r (bT N) a (bT ha))];exact bA ⟨_,rfl,q.trans S5⟩
  ·rintro σ H4 ⟨z,rfl,q⟩;exact⟨_,_,rfl,D.trans q⟩
 ·rintro σ m ⟨y,z,rfl,p⟩;exact k m (o.trans p)
inductive gE(C:Addr)(vs:List V)(H:Hp)(Q:VK)(E:XK):Prop
 |mk (x y:Addr) (J0 J1 J2 rooms':Zb) (ds ds':List ak):(vs=[.ref x,.ref y])->(bU C H x J0 J1 J2 ds)->(bU C H y J0 J1 rooms' ds')->((∀r∈rooms',∀a∈J0,iO ds' r a))->(∀H',ab H H'->Q .non H')->gE C vs H Q E
theorem uF{K:Za}{C:Addr}{f:List V}{H:Hp}{Q:VK}{E:XK}(h:gE C f H Q E):vM K (iQ C) (gF C) (bj Q) (start wq f) H:=by
 obtain⟨x,y,g,i,l,a,m,e,rfl,M,N,tk,k⟩:=h;exact⟨_,rfl,_,rfl,x,y,g,i,l,a,m,e,rfl,M,N,fun p j=>⟨_,rfl,y,g,i,a,e,rfl,N.same j,tk,fun n o=>k n (j.trans o)⟩⟩
theorem aP.out{a e f:Zb}{ds:List ak}(m:aP a e f ds)(k:Nat):aP a e f (ds.eraseIdx k):=by
 have sub:(ds.eraseIdx k).Sublist ds:=List.eraseIdx_sublist ds k;exact{ m with nodup:=m.nodup.sublist sub,good:=fun d g=>m.good d (sub.mem g),few:=aE sub.length_le m.few,noround:=fun r z=>m.noround r (z.mono fun x y h=>sub.mem h) }
theorem Paired.out{α β:Type}{R:α->β->Prop}:∀{a:List α}{bs:List β}(k:Nat),Paired R a bs->Paired R (a.eraseIdx k) (bs.eraseIdx k)
 |_,_,_,.nil=>.nil
 |_,_,0,.cons _ t=>t
 |_,_,k+1,.cons r t=>.cons r (Paired.out k t)
theorem xi{α β:Type}(f:α->β):∀(l:List α) (n:Nat),(l.map f).eraseIdx n=(l.eraseIdx n).map f
 |[],_=>rfl
 |_::_,0=>rfl
 |a::l,n+1=>by show f a::_=f a::_;rw[xi f l n]
def TR(J0 J1 J2:Zb)(n:Nat)(ds:List ak):Prop:=aP J0 J1 J2 ds/\ds.length<=n
inductive mT (vs:List V)(H:Hp)(Q:VK)(E:XK):Prop
 |mk (p c t l1 l2 l3 l4:Addr) (ts:Ze) (J0 J1 J2:Zb) (ds:List ak):(vs=[.ref p,.ref t])->(gV H p c)->(gR H t l1 l2 l3 l4 ts J0 J1 J2 ds)->(aP J0 J1 J2 ds)->(ds.length<=690)->(∀(t' l4':Addr) (ts':Ze) (ds':List ak) (H':Hp),gR H' t' l1 l2 l3 l4' ts' J0 J1 J2 ds'->aP J0 J1 J2 ds'->ds'.length<=ds.length+1->gV H' p c->bC p H H'->Q (.ref t') H')->mT  vs H Q E
theorem E_{K:Za}{vs:List V}{H:Hp}{Q:VK}{E:XK}(h:mT vs H Q E):yD K k5 fx (dL K) (bj Q) (start zZ vs) H:=by
 obtain⟨p,c,t,l1,l2,l3,l4,ts,J0,J1,J2,ds,rfl,hp,T,m,z8,k⟩:=h;have a4:=m.asks4;have s4:=m.says4;have r4:=m.rooms26;refine⟨_,rfl,t,_,rfl,bQ.of T.t,rfl,_,_,rfl,_,_,rfl,_,_,rfl,_,_,rfl,rfl,?_⟩;refine⟨_,rfl,.inl ⟨l4,_,rfl,.inl (aw.of T.a4),fun f hf=>?_⟩⟩;have B0:TX H p c f (fun x=>x=ds) (upd H f (.lst (ts.map V.ref))):=⟨hp.ex (ab.new hf),⟨ts,ds,aa,T.ds.kt (ab.kt (ab.new hf)),rfl⟩,bC.new hf,hf,hp.nep hf,hp.nec hf⟩;generalize upd H f (.lst (ts.map V.ref))=H1 at B0 ⊢;have keep:∀{H':Hp}{R:List ak->Prop},TX H p c f R H'->H' l1=some (.lst (J0.map V.str))/\H' l2=some (.lst (J1.map V.str))/\H' l3=some (.lst (J2.map V.str)):=fun B =>
  ⟨B.ex _ _ T.a1 (hp.ne_strs T.a1),B.ex _ _ T.a2 (hp.ne_strs T.a2),B.ex _ _ T.a3 (hp.ne_strs T.a3)⟩
 refine⟨_,rfl,dR B0.pen (by decide) (by decide) fun Y H2 w0 w1 as aC=>?_⟩;have B2:=B0.took as aC;obtain⟨A,es,C,I,rfl⟩:=id B2.ds;refine⟨_,rfl,_,rfl,.inl ⟨f,_,rfl,.inl (aw.of C),_,_,rfl,?_⟩⟩;have lu:A.length=es.length:=Paired.length I;refine dR B2.pen (by split<;>omega) (by rw[ah,lu];split<;>omega) fun J H3 n0 n1 a0 a5=>?_;have B3:=B2.took a0 a5;rw[ah,lu]at n1;refine jE (fun _ _ _ _ h=>h) rfl rfl B3.pen (keep B3).2.2 m.rooms0 (by omega) fun room r H4 a6 a7=>?_;have B4:=B3.took a6 a7;refine jE (fun _ _ _ _ h=>h) rfl rfl B4.pen (keep B4).2.2 m.rooms0 (by omega) fun other i H5 a8 a9=>?_;have O:=B4.took a8 a9;clear B0 B2 B3 B4 as a0 a6 a8 aC a5 a7 a9 C I;have L:∀{l:Hp}(D:Option V),TX H p c f (TR J0 J1 J2 (es.length+1)) l->(aW (bf (am V2 (ci V3 V4 V5)))) (bj Q) [some (.ref p),some (.ref t),some (.ref l1),some (.ref l2),some (.ref l3),some (.ref f),some (.int Y),some (.int J),some (.str room),some (.str other),D] l:=fun D B=>by
  obtain⟨A,fs,C,I,g3⟩:=B.ds;obtain⟨q1,q2,q3⟩:=keep B;refine⟨_,rfl,_,rfl,_,rfl,_,rfl,(by show 4<=aj;decide),fun t' bu=>?_⟩;have S3:=ab.new (o:=.tup [.ref l1,.ref l2,.ref l3,.ref f]) bu;exact k t' f A fs _ ⟨aa,S3 _ _ q1,S3 _ _ q2,S3 _ _ q3,S3 _ _ C,I.kt (ab.kt S3)⟩ g3.1 g3.2 (B.pen.ex S3) (B.ex.trans (ab.exB S3))
 have put:∀{l:Hp}{fs:List ak}{d:Addr}{x:ak}(D:Option V),TX H p c f (fun y=>y=fs) l->fs.length<=es.length->hW l d x->aP J0 J1 J2 (mD fs x)->k5 [.ref f,.ref d] l (fun _ H'=>(aW (bf (am V2 (ci V3 V4 V5)))) (bj Q) [some (.ref p),some (.ref t),some (.ref l1),some (.ref l2),some (.ref l3),some (.ref f),some (.int Y),some (.int J),some (.str room),some (.str other),D] H') E0:=fun D B le M ok=>by
  obtain⟨bw,b2,k1,k2,rfl⟩:=id B.ds;refine⟨f,_,bw,_,_,rfl,k1,k2,M,by omega,fun b3 D2=>L D (B.put ⟨_,k1⟩ D2 ⟨ok,?_⟩)⟩;exact aE (uJ _ _) (by omega)
 refine⟨_,rfl,rfl,_,rfl,?_⟩;refine iS (fun _=>?_) (fun _=>?_)
 ·refine⟨_,rfl,_,rfl,jE (fun _ _ _ _ h=>h) rfl rfl O.pen (keep O).2.1 m.says0 (by omega) fun w hw l al an=>⟨(by show 2<=aj;decide),fun s hs=>⟨_,rfl,(by show 3<=aj;decide),fun d G=>?_⟩⟩⟩;have N:=O.took al an;have S:ab l (upd (upd l s (.tup [.str "say",.str w])) d (.tup [.str room,.ref s,.str other])):=(ab.new hs).trans (ab.new G);exact put (x:=⟨room,gG w,other⟩) _ (N.same S) (aB _) ⟨s,aa,kp aa G⟩ (m.putOne ⟨r,i,.inr (.inl ⟨w,hw,rfl⟩)⟩ (by unfold gG aF;intro h;injection h with _ h;cases h) (by omega))
 refine⟨_,rfl,rfl,_,rfl,?_⟩;refine iS (fun _=>?_) (fun _=>?_)
 ·refine⟨_,rfl,_,rfl,jE (fun _ _ _ _ h=>h) rfl rfl O.pen (keep O).1 m.asks0 (by omega) fun w hw l al an=>⟨(by show 2<=aj;decide),fun s hs=>⟨_,rfl,(by show 3<=aj;decide),fun d G=>?_⟩⟩⟩;have N:=O.took al an;have S:ab l (upd (upd l s (.tup [.str "ask",.str w])) d (.tup [.str room,.ref s,.str other])):=(ab.new hs).trans (ab.new G);exact put (x:=⟨room,b0 w,other⟩) _ (N.same S) (aB _) ⟨s,aa,kp aa G⟩ (m.putOne ⟨r,i,.inl ⟨w,hw,rfl⟩⟩ (xA w) (by omega))
 have v:∀{l:Hp},TX H p c f (fun y=>y=es) l->(cu (sQ (aU (aH vI V6 (tC (.int 4)))) (aU (aH (pL K true) V8 (aK (dL K) (aX V5 (c6 (ay V9))))))) (cN (aK k5 (am V5 (am (bf (ci V8 (bf (ay (tC (.str "still")))) V9)) bg)))) (bx)) { nx:=(aW (bf (am V2 (ci V3 V4 V5)))) (bj Q),rt:=Q } [some (.ref p),some (.ref t),some (.ref l1),some (.ref l2),some (.ref l3),some (.ref f),some (.int Y),some (.int J),some (.str room),some (.str other),none] l:=fun{l} B=>by
  have bc:TX H p c f (TR J0 J1 J2 (es.length+1)) l:=B.imp fun y e=>by rw[e];exact⟨m,qJ _⟩
  refine⟨_,rfl,rfl,_,rfl,?_⟩;refine iS (fun _=>?_) (fun _=>bA (L _ bc));refine⟨_,rfl,_,rfl,_,rfl,(by show 1<=aj;decide),fun bl bz=>?_⟩;have B7:=B.same (ab.new (o:=.lst [.str other]) bz);have e7:upd l bl (.lst [.str other]) bl=some (.lst [.str other]):=aa;generalize upd l bl (.lst [.str other])=H7 at B7 e7 ⊢;obtain⟨A,fs,C,I,rfl⟩:=id B7.ds;refine⟨f,bl,A,fs,[other],J2,rfl,C,I,e7,fun d G=>(m.good d G).b,by omega,(by show 1<=1000;decide),fun g F H8 hg hF _ _ S8=>?_⟩;have B8:=B7.same S8;refine⟨gu room,F.map gu,g,_,nR room,rfl,.inl (aw.of hg),lA _,(by show 0<=8;decide),by rw[eX];decide,_,rfl,?_⟩;rw[if_pos rfl];by_cases c1:room∈F
  ·rw[zzr1 (ng.mpr c1)];exact bA (L _ (B8.imp fun y e=>by rw[e];exact⟨m,qJ _⟩))
  rw[zzr0 (fun z=>c1 (ng.mp z))];refine bP ?_;refine⟨_,rfl,_,rfl,(by show 1<=aj;decide),fun s hs=>⟨_,rfl,(by show 3<=aj;decide),fun d G=>?_⟩⟩;have S:ab H8 (upd (upd H8 s (.tup [.str "still"])) d (.tup [.str room,.ref s,.str other])):=(ab.new hs).trans (ab.new G);exact put (x:=⟨room,aF,other⟩) _ (B8.same S) (aB _) ⟨s,aa,kp aa G⟩ (m.putStill r i (fun z=>c1 ((hF room).mpr z)) (by omega))
 refine⟨_,rfl,_,_,rfl,rfl,_,rfl,?_⟩;refine iS (fun _=>?_) (fun _=>bA (v O));refine⟨_,rfl,(by show 0<=aj;decide),fun q hq=>?_⟩;have N:=O.same (ab.new (o:=.lst []) hq);have e6:upd H5 q (.lst []) q=some (.lst []):=aa;generalize upd H5 q (.lst [])=l at N e6 ⊢;obtain⟨A,fs,C,I,rfl⟩:=id N.ds;refine Hq C I e6 (fun c1=>⟨_,rfl,bP ?_⟩) (fun _=>⟨_,rfl,bA (bA (v N))⟩);have fl:0<fs.length:=List.length_pos_iff.2 c1;have n2:J<fs.length:=by split at n1<;>omega
 obtain⟨n,rfl⟩:=jT n0;have n3:n<fs.length:=by omega
 have ap:fs[n]?=some fs[n]:=da n3;obtain⟨u,hu,M⟩:=Paired.get I ap;generalize fs[n]=U at ap M;have hm:=bT ap;obtain⟨sb,bd,bi⟩:=M;obtain⟨s0,b1,bm,_⟩:=wP (m.good U hm);have bI:xz (U.sg.map V.str) 0=some (.str s0):=by rw[bm];exact ca (j:=0) rfl
 have bn:(A.map V.ref)[n]?=some (.ref u):=by rw[cF,hu];rfl
 refine⟨_,rfl,_,rfl,f,_,_,_,rfl,rfl,aw.of C,ca bn,u,_,1,_,rfl,rfl,bQ.of bd,rfl,sb,_,0,_,rfl,rfl,bQ.of bi,bI,rfl,_,rfl,?_⟩;refine iS (fun c2=>?_) (fun _=>v N);have ns:U.sg≠aF:=fun z=>by
  rw[bm]at z;injection z with z;rw[z]at c2;simp at c2
 have bS:yj (n:Int) (A.map V.ref).length=some n:=(zG (Jp (by rw[ah,Paired.length I];exact n3))).1;refine⟨_,rfl,.inl ⟨rfl,_,aw.of C⟩,_,rfl,f,_,_,n,.ref u,rfl,rfl,C,by omega,by omega,bS,bn,?_⟩;have ee:(A.map V.ref).eraseIdx n=(A.eraseIdx n).map V.ref:=xi _ A n;rw[ee];have k6:gv l (upd l f (.lst ((A.eraseIdx n).map V.ref))):=eW C;have B7:TX H p c f (fun y=>y=fs.eraseIdx n) (upd l f (.lst ((A.eraseIdx n).map V.ref))):=N.put ⟨_,C⟩ (Paired.out n I) rfl;have t7:=k6 _ _ bd;have s7:=k6 _ _ bi;generalize upd l f (.lst ((A.eraseIdx n).map V.ref))=H7 at B7 t7 s7 ⊢;have m7:=m.out n;have l7:(fs.eraseIdx n).length<=fs.length:=(List.eraseIdx_sublist fs n).length_le;refine⟨_,rfl,rfl,_,rfl,?_⟩;refine iS (fun _=>?_) (fun _=>L _ (B7.imp fun y e=>by rw[e];exact⟨m7,by omega⟩));refine⟨_,rfl,_,rfl,u,_,0,_,rfl,rfl,bQ.of t7,rfl,_,rfl,u,_,1,_,rfl,rfl,bQ.of t7,rfl,_,rfl,(by show 3<=aj;decide),fun d G=>?_⟩;have S:ab H7 (upd H7 d (.tup [.str U.a,.ref sb,.str other])):=ab.new G;exact put (x:=⟨U.a,U.sg,other⟩) _ (B7.same S) l7 ⟨sb,aa,S _ _ s7⟩ (m7.putOne ⟨(m.good U hm).a,i,(m.good U hm).sg⟩ ns (by omega))
theorem Reach.ren{a:List ak}{f:Str->Str}{x y:Str}(h:Reach a x y):Reach (a.map (wc f)) (f x) (f y):=by
 induction h with
 |one e=>exact .one (aQ.2 ⟨_,e,rfl⟩)
 |step _ e g=>exact .step g (aQ.2 ⟨_,e,rfl⟩)
theorem iO.ren{g:List ak}{f:Str->Str}{r a:Str}:iO g r a->iO (g.map (wc f)) (f r) a:=fun⟨w,h,b,i⟩ =>
 ⟨f w,h.imp (fun e=>by rw[e]) Reach.ren,f b,aQ.2 ⟨_,i,rfl⟩⟩
inductive jA (vs:List V)(H:Hp)(Q:VK)(E:XK):Prop
 |mk (p c t l1 l2 l3 l4:Addr) (ts:Ze) (J0 J1 J2:Zb) (ds:List ak):(vs=[.ref p,.ref t])->(gV H p c)->(gR H t l1 l2 l3 l4 ts J0 J1 J2 ds)->(aP J0 J1 J2 ds)->(J2.length<=26)->(∀(t' l3' l4':Addr) (ts':Ze) (rooms':Zb) (f:Str->Str) (H':Hp),gR H' t' l1 l2 l3' l4' ts' J0 J1 rooms' (ds.map (wc f))->aP J0 J1 rooms' (ds.map (wc f))->rooms'.Perm (J2.map f)->gV H' p c->bC p H H'->Q (.ref t') H')->jA  vs H Q E
theorem AK{K:Za}{G:List V}{H:Hp}{Q:VK}{E:XK}(h:jA G H Q E):vP K fx mv (bj Q) (start wv G) H:=by
 obtain⟨p,c,t,l1,l2,l3,l4,ts,J0,J1,A,ds,rfl,hp,T,m,z3,k⟩:=h;have z4:=m.few;have co:0<A.length:=by
  cases hq:A with
  |nil=>exact absurd hq m.rooms0
  |cons _ _=>simp
 refine⟨_,rfl,t,_,rfl,bQ.of T.t,rfl,_,_,rfl,_,_,rfl,_,_,rfl,_,_,rfl,rfl,?_⟩;refine fun d hd=>?_;have dp:=hp.nep hd;have dc:=hp.nec hd;have T1:=T.same (ab.new (o:=.dK []) hd);have an:=hp.ex (ab.new (o:=.dK []) hd);have ap:upd H d (.dK []) d=some (.dK (Gh [])):=aa;have a9:bC p H (upd H d (.dK [])):=bC.new hd;generalize upd H d (.dK [])=H1 at T1 an ap a9 ⊢;refine⟨_,rfl,_,rfl,_,rfl,.inl ⟨l3,_,rfl,.inl (aw.of T1.a3),p,c,(A.map V.str).length,rfl,an,by rw[ah];exact z3,fun lw l H2 bS v bc as bd aC=>?_⟩⟩;rw[ah]at v;have T2:=T1.ex an aC;have b1:=aC _ _ ap dp.symm;have b2:lw≠d:=fun z=>by rw[z,ap]at bc;cases bc
 have cp:=bd.ne_strs as;refine⟨l3,lw,rfl,.inl ⟨⟨_,aw.of T2.a3⟩,⟨_,aw.of as⟩,?_⟩⟩;have ez:(A.zip l).length=A.length:=by rw[List.length_zip,v,Nat.min_self]
 let b3:Nat->L2.St->Hp->Prop:=fun i σ B=>Ij fun(x7 x8:Option V)=>JK (σ=[some (.ref p),some (.ref t),some (.ref l1),some (.ref l2),some (.ref l3),some (.ref l4),some (.ref d),x7,x8,none,none]) (B d=some (.dK (Gh ((A.zip l).take i)))) (B lw=some (.lst (l.map V.str))) (gV B p c) (bC p H B)
 refine Bh (xs:=A.map V.str) (ys:=l.map V.str) (by rw[ah,ah,v]) b3
  ⟨_,_,rfl,b1,as,bd,a9.trans aC⟩ (fun i σ B _ ⟨_,_,_,_,h1,_,ex⟩=>⟨aw.of (ex _ _ T.a3 (hp.ne_strs T.a3)),aw.of h1⟩) ?_ ?_
 ·rintro i x y σ H3 q hx hy ⟨x7,x8,rfl,I,Y,a0,N⟩ hq;obtain⟨r,hr,rfl⟩:=bH hx;obtain⟨w,hw,rfl⟩:=bH hy;have hi:i<A.length:=(bM.mp hr).1;refine⟨q,_,rfl,bQ.of aa,rfl,_,_,rfl,_,_,rfl,rfl,?_⟩;have bi:(Gh ((A.zip l).take i)).length<aj:=by
   unfold Gh;rw[ah,aI];exact ao (by omega)
  refine⟨_,rfl,_,rfl,_,rfl,d,_,rfl,.inl ⟨_,.inr r,kp I hq,rfl,bi,rfl⟩,_,_,rfl,?_,?_,?_,?_⟩
  ·have hz:(A.zip l)[i]?=some (r,w):=by
    rw[List.getElem?_zip_eq_some];exact⟨hr,hw⟩
   have hn:r∉((A.zip l).take i).map (·.1):=by
    rw[tS,yq v];intro z;obtain⟨j,hj⟩:=gB z;have b4:j<i:=by
     have:=(bM.mp hj).1;rw[aI]at this;omega
    rw[List.getElem?_take_of_lt b4]at hj;have:=tF m.okR.1 hj hr;omega
   rw[aa,Hm hn,take_snoc hz]
  ·rw[ai b2];exact kp Y hq
  ·exact(a0.ex (ab.new hq)).upd dp dc
  ·intro b o e n;rw[ai (ae e hd)];exact kp (N _ _ e n) hq
 rintro σ H3 ⟨x7,x8,rfl,I,Y,a0,N⟩;rw[ah,<-ez,be]at I;have T3:=T.ex hp N;generalize hρ:Iq (A.zip l)=ρ;have J:A.map ρ=l:=by rw[<-hρ];exact DW m.okR.1 v
 have L:∀r∈A,bb (Gh (A.zip l)) (.inr r:fG)=some (.str (ρ r)):=fun r hr=>by
  rw[<-hρ];exact Em (by rw[yq v];exact hr)
 refine⟨_,rfl,l3,rfl,⟨_,aw.of T3.a3⟩,fun f hf=>?_⟩
 let b5:Nat->List V->Hp->Prop:=fun i G B=>G=((A.take i).map ρ).map V.str/\ab H3 B/\B f=some (.lst G)
 refine bX (xs:=A.map V.str) b5 ⟨rfl,ab.new hf,aa⟩ (fun i G B _ ⟨_,S,h'⟩=>⟨h',aw.of (S _ _ T3.a3)⟩) ?_ ?_;rotate_left
 ·rintro i G B x' a5 hi ⟨rfl,S,f'⟩;obtain⟨r,hr,rfl⟩:=bH a5;refine gN (pc ?_);refine⟨_,rfl,_,rfl,d,.str (ρ r),rfl,.inl ⟨_,.inr r,.inl (S _ _ I),rfl,(L r (bT hr)).symm⟩,f',?_,mF hi ⟨?_,?_,aa⟩⟩
  ·rw[ah,ah,aI];exact ao (by omega)
  ·rw[take_snoc hr,av,av];rfl
  ·intro b o q;rw[ai (ae q hf)];exact S _ _ q
 rintro G H4 ⟨rfl,S4,f4⟩;rw[ah,be,J]at f4;have T4:=T3.same S4;have a6:=a0.ex S4;have b6:=S4 _ _ I;refine⟨_,rfl,_,rfl,.inl ⟨l3,_,rfl,.inl (aw.of T4.a3),dR (m:=((A.map V.str).length:Nat)) a6 (by rw[ah];omega) (by rw[ah];omega) fun r H5 r0 r1 b7 O=>⟨_,_,rfl,rfl,?_⟩⟩⟩;rw[ah]at r1;obtain⟨n,rfl⟩:=jT r0;have T5:=T4.ex a6 O;have f5:=O _ _ f4 (a6.ne_strs f4);have b8:=O _ _ b6 dp.symm;have bl:bC p H H5:=(N.trans (ab.exB S4)).trans O;have c1:fS (l.map V.str) none (some 1)=(l.take 1).map V.str:=tI l 1;have c2:fS (l.map V.str) (some (1+(n:Int))) none=(l.drop (1+n)).map V.str:=xo l (1+n);have c3:fS (l.map V.str) (some 1) (some (1+(n:Int)))=((l.drop 1).take (1+n-1)).map V.str:=FO l (j:=1) (k:=1+n) (by omega) (by omega);refine⟨_,rfl,_,rfl,f,_,rfl,aw.of f5,fun q1 a7=>⟨_,rfl,_,rfl,_,rfl,f,_,rfl,aw.of (kp f5 a7),fun q2 a8=>⟨q1,q2,_,_,rfl,rfl,kp aa a8,aa,?_,fun q3 bm=>⟨_,rfl,_,rfl,_,rfl,_,rfl,f,_,rfl,aw.of (kp (kp (kp f5 a7) a8) bm),fun q4 bn=>⟨q3,q4,_,_,rfl,rfl,kp aa bn,aa,?_,fun q5 U=>?_⟩⟩⟩⟩⟩
 ·rw[c1,c2,ah,ah,aI,dQ];exact cT (ao (by omega))
 ·rw[c1,c2,c3,a_,ah,ah,ah,aI,dQ,aI,dQ];exact cT (ao (by omega))
 rw[c1,c2,c3]at U ⊢;have m1:(l.take 1).map V.str++(l.drop (1+n)).map V.str=(l.take 1++l.drop (1+n)).map V.str:=av.symm;have m2:(l.take 1++l.drop (1+n)).map V.str++((l.drop 1).take (1+n-1)).map V.str=(l.take 1++l.drop (1+n)++(l.drop 1).take (1+n-1)).map V.str:=av.symm;rw[m1]at U ⊢;rw[m2];have S6:=((((ab.new (o:=.lst ((l.take 1).map V.str)) a7).trans (ab.new (o:=.lst ((l.drop (1+n)).map V.str)) (by rw[<-c1];exact a8))).trans (ab.new (o:=.lst ((l.take 1++l.drop (1+n)).map V.str)) (by rw[<-c1,<-c2];exact bm))).trans (ab.new (o:=.lst (((l.drop 1).take (1+n-1)).map V.str)) (by rw[av,<-c1,<-c2];exact bn))).trans (ab.new (o:=.lst ((l.take 1++l.drop (1+n)++(l.drop 1).take (1+n-1)).map V.str)) U);have C:=An l n;generalize l.take 1++l.drop (1+n)++(l.drop 1).take (1+n-1)=s at S6 C U ⊢;have bu:(upd (upd (upd (upd (upd H5 q1 (.lst ((l.take 1).map V.str))) q2 (.lst ((l.drop (1+n)).map V.str))) q3 (.lst ((l.take 1++l.drop (1+n)).map V.str))) q4 (.lst (((l.drop 1).take (1+n-1)).map V.str))) q5 (.lst (s.map V.str))) q5=some (.lst (s.map V.str)):=aa;generalize(upd (upd (upd (upd (upd H5 q1 (.lst ((l.take 1).map V.str))) q2 (.lst ((l.drop (1+n)).map V.str))) q3 (.lst ((l.take 1++l.drop (1+n)).map V.str))) q4 (.lst (((l.drop 1).take (1+n-1)).map V.str))) q5 (.lst (s.map V.str)))=H6 at S6 bu ⊢;have T6:=T5.same S6;have bw:=S6 _ _ b8;refine⟨_,rfl,l4,rfl,⟨_,aw.of T6.a4⟩,fun g hg=>?_⟩
 let cc:Nat->List V->Hp->Prop:=fun i G B=>∃us:List Addr,G=us.map V.ref/\ab H6 B/\B g=some (.lst G)/\cY B us ((ds.take i).map (wc ρ))
 refine bX (xs:=ts.map V.ref) cc ⟨[],rfl,ab.new hg,aa,.nil⟩ (fun i G B _ ⟨_,_,S,h',_⟩=>⟨h',aw.of (S _ _ T6.a4)⟩) ?_ ?_;rotate_left
 ·rintro i G B x' a5 hi ⟨us,rfl,S,g',hP⟩;obtain⟨u,hu,rfl⟩:=bY a5;obtain⟨M,bz,bI⟩:=Paired.getL T6.ds hu;obtain⟨sb,cd,ce⟩:=bI.kt (ab.kt S);have al:=bT bz;have cf:=L M.a (m.good M al).a;have ch:=L M.b (m.good M al).b;refine⟨u,_,rfl,bQ.of cd,rfl,_,_,rfl,_,_,rfl,_,_,rfl,rfl,?_⟩;refine pc ?_;refine⟨_,rfl,_,rfl,d,.str (ρ M.a),rfl,.inl ⟨_,.inr M.a,.inl (S _ _ bw),rfl,cf.symm⟩,_,rfl,_,rfl,_,rfl,d,.str (ρ M.b),rfl,.inl ⟨_,.inr M.b,.inl (S _ _ bw),rfl,ch.symm⟩,(by show 3<=aj;decide),fun w hw=>⟨kp g' hw,?_,mF hi ⟨us++[w],by rw[av];rfl,?_,aa,?_⟩⟩⟩
  ·rw[ah,Paired.length hP,ah,aI];exact ao (by omega)
  ·intro b o q;rw[ai (ae q hg)];exact kp (S _ _ q) hw
  ·rw[take_snoc bz,av];have hk:gv B (upd (upd B w (.tup [.str (ρ M.a),.ref sb,.str (ρ M.b)])) g (.lst (us.map V.ref++[.ref w]))):=(ab.kt (ab.new hw)).trans (eW (kp g' hw));refine ge (hP.kt hk) ⟨sb,?_,hk _ _ ce⟩;exact(eW (kp g' hw)) _ _ aa
 rintro G H7 ⟨us,rfl,S7,g7,hP⟩;rw[ah,Paired.length T.ds,be]at hP;have T7:=T6.same S7;have cl:=(b7.ex S6).ex S7;have cm:bC p H H7:=bl.trans (ab.exB (S6.trans S7));refine⟨_,rfl,_,rfl,_,rfl,_,rfl,(by show 4<=aj;decide),fun t' D=>k t' q5 g us s ρ _ ⟨aa,kp T7.a1 D,kp T7.a2 D,kp (S7 _ _ bu) D,kp g7 D,hP.kt (ab.kt (ab.new D))⟩ (m.renamed bS J C) (by rw[J];exact C) (cl.ex (ab.new D)) (cm.trans (bC.new D))⟩
inductive tp (vs:List V)(H:Hp)(Q:VK)(E:XK):Prop
 |mk (p c t l1 l2 l3 l4:Addr) (ts:Ze) (J0 J1 J2:Zb) (ds:List ak) (n:Nat):(vs=[.ref p,.ref t,.int (n:Nat)])->(gV H p c)->(gR H t l1 l2 l3 l4 ts J0 J1 J2 ds)->(aP J0 J1 J2 ds)->(J2.length<=26)->(ds.length<=650)->(n<=8)->(∀(t' l3' l4':Addr) (ts':Ze) (rooms':Zb) (ds':List ak) (H':Hp),gR H' t' l1 l2 l3' l4' ts' J0 J1 rooms' ds'->aP J0 J1 rooms' ds'->(∀r∈rooms',∀a∈J0,iO ds' r a)->rooms'.length=J2.length->ds'.length<=ds.length+n+4 * J2.length->gV H' p c->bC p H H'->Q (.ref t') H')->tp  vs H Q E
theorem IT{K:Za}{vs:List V}{H:Hp}{Q:VK}{E:XK}(h:tp vs H Q E):BY K fx jA kZ mT tw (bj Q) (start Du vs) H:=by
 obtain⟨p,c,t,Y,l2,G,l4,ts,I,J,C,ds,n,rfl,hp,T,m,z3,z4,zn,k⟩:=h;refine⟨_,rfl,p,c,rfl,hp,fun H1 L M=>?_⟩;have T1:=T.ex hp M;refine⟨_,rfl,_,rfl,_,_,rfl,rfl,dR L (by omega) (by omega) fun x H2 x0 x1 al N=>?_⟩;have T2:=T1.ex L N;refine⟨x,rfl,by omega,by omega,?_⟩
 let an:Nat->L2.St->Hp->Prop:=fun i σ H'=>NE5 fun(D g:Addr) (j:Ze) (e:List ak) (x3:Option V)=>Lw (σ=[some (.ref p),some (.ref D),some (.int (n:Nat)),x3]) (gR H' D Y l2 G g j I J C e) (aP I J C e) (e.length<=ds.length+i) (gV H' p c) (bC p H H')
 refine kF (lo:=0) (n:=x.toNat) an
  ⟨t,l4,ts,ds,_,rfl,T2,m,aB _,al,M.trans N⟩ ?_ ?_
 ·rintro i σ H3 hi ⟨D,g,j,e,x3,rfl,T3,m3,z,A,l⟩;refine⟨_,rfl,_,rfl,p,c,D,Y,l2,G,g,j,I,J,C,e,rfl,A,T3,m3,by omega,fun t2 o q s H4 T4 m4 z4 u v=>?_⟩;exact⟨t2,o,q,s,_,rfl,T4,m4,by omega,u,l.trans v⟩
 ·rintro σ H3 ⟨D,g,j,e,x3,rfl,T3,m3,z,A,l⟩;refine⟨_,rfl,_,rfl,p,c,D,Y,l2,G,g,j,I,J,C,e,rfl,A,T3,m3,z3,by omega,fun t2 o q s H4 T4 m4 O zw u v=>?_⟩;refine⟨_,rfl,dR u (by decide) (by decide) fun w H5 w0 w1 U B=>⟨rfl,_,rfl,?_⟩⟩;have T5:=T4.ex u B;refine iS (fun _=>?_) (fun _=>?_)
  ·refine⟨_,rfl,_,rfl,p,c,t2,Y,l2,G,o,q,I,J,C,s,rfl,U,T5,m4,z3,fun t3 ap as aC y f H6 T6 m6 pr a0 a4=>⟨_,rfl,?_⟩⟩;refine k t3 ap as aC y _ H6 T6 m6 (fun r hr a ha=>?_) (by rw[pr.length_eq,ah]) (by rw[ah];omega) a0 (((l.trans v).trans B).trans a4);obtain⟨r0,a5,rfl⟩:=aQ.1 (pr.mem_iff.1 hr);exact(O r0 a5 a ha).ren
  ·exact⟨_,rfl,k t2 G o q C s H5 T5 m4 O rfl (by omega) U ((l.trans v).trans B)⟩
theorem Paired.mapM{α β:Type}{F G:α->β->Prop}:∀{e:List α}{bs:List β},Paired F e bs->(∀a b,a∈e->F a b->G a b)->Paired G e bs
 |_,_,.nil,_=>.nil
 |_,_,.cons r t,h=>.cons (h _ _ cU r) (Mum.Paired.mapM t fun a b f=>h a b (c7 _ f))
theorem kM.find{H:Hp}{sg:Sg}:∀{a:List (TK×V)}{L:List (Sg×List Str)},kM H a L->((∀p∈L,p.1≠sg)/\bb a (eO sg)=none)∨∃p∈L,p.1=sg/\∃u,bb a (eO sg)=some (.ref u)/\H u=some (.tup (p.2.map V.str))
 |_,_,.nil=>.inl ⟨fun _ h=>(nomatch h),rfl⟩
 |kv::_,p::_,.cons ⟨e,u,f,g⟩ t=>by
  by_cases c:p.1=sg
  ·refine .inr ⟨p,cU,c,u,?_,g⟩;rw[dA (by rw[e,c]),f]
  ·rw[df (fun z=>c (eK (by rw[<-e,z])))];rcases kM.find t with⟨i,j⟩|⟨q,k,h⟩
   ·exact .inl ⟨fun x l=>(cC.1 l).elim (fun z=>by rw[z];exact c) (i x),j⟩
   ·exact .inr ⟨q,c7 _ k,h⟩
theorem kM.look{H:Hp}{a:List (TK×V)}{l m g f:Zb}{i:List ak}(h:kM H a (stepsF l m g i f)){sg:Sg}(n:sg∈bZ l m):
  (behF g i f sg=[]/\bb a (eO sg)=none)∨(behF g i f sg≠[]/\∃u,bb a (eO sg)=some (.ref u)/\H u=some (.tup ((behF g i f sg).map V.str))):=by
 rcases kM.find (sg:=sg) h with⟨j,k⟩|⟨p,o,e,u,j,k⟩
 ·refine .inl ⟨?_,k⟩;refine Classical.not_not.1 fun z=>j (sg,behF g i f sg) ?_ rfl;exact fQ.2 ⟨aQ.2 ⟨sg,n,rfl⟩,zzr1 z⟩
 ·obtain⟨q,r⟩:=fQ.1 o;obtain⟨s,_,rfl⟩:=aQ.1 q;cases e;exact .inr ⟨of_decide_eq_true r,u,j,k⟩
open Builtin.Int (intBits)
def kindsF(J0 J1 J2:Zb)(ds:List ak)(J6:Zb):List (List Sg) :=
 ((J0.filter fun a=>decide (behF J2 ds J6 (b0 a)≠[])).map fun a=>b0 a::J1.map gG)++[J1.map gG++[cA]]
def gp(l:List Int):Int:=l.foldl (· * ·) 1
def cntM(J0 J1 J2:Zb)(ds:List ak):Nat->List Str->Int
 |0,_=>1
 |d+1,J6=>if J6=[]then 1 else 1+((kindsF J0 J1 J2 ds J6).map fun k=>gp (k.map fun sg=>cntM J0 J1 J2 ds d (behF J2 ds J6 sg))).sum
theorem Bo(a e f:Zb)(g:List ak):∀d,cntM a e f g d []=1
 |0=>by unfold cntM;rfl
 |d+1=>by unfold cntM;rw[if_pos rfl]
theorem uK(l:List Int)(x:Int):gp (l++[x])=gp l * x:=by unfold gp;rw[xI];rfl
def bB:Nat->Nat
 |0=>1
 |d+1=>5 * bB d+7
theorem wQ{b:Nat}(l:List Int)(h:∀x∈l,intBits x<=b):intBits (gp l)<=1+l.length * b:=by
 have a:∀n,n<=l.length->intBits (gp (l.take n))<=1+n * b:=by
  intro n
  induction n with
  |zero=>intro _;show intBits 1<=1+0 * b;have:intBits 1<=1:=(by decide);omega
  |succ n f =>
   intro g;have e:l[n]?=some l[n]:=da g;rw[take_snoc e,uK];have i:=intBits_mul_le (f (by omega)) (h l[n] (List.getElem_mem _));rw[gA];omega
 have:=a l.length (aB _);rw[be]at this;exact this
theorem AD{b:Nat}:∀(l:List Int),(∀x∈l,intBits x<=b)->intBits l.sum<=b+l.length
 |[],_=>by show intBits 0<=_;have:intBits 0<=0:=(by decide);omega
 |x::l,h=>by
  rw[qt,fO];have e:=intBits_add_le (h x cU) (AD l fun y a=>h y (c7 _ a));omega
theorem w6{e J1 J2 J6:Zb}{ds:List ak}(f:e.length<=4):(kindsF e J1 J2 ds J6).length<=5:=by
 unfold kindsF;rw[a_,ah];have:=cO (fun a=>decide (behF J2 ds J6 (b0 a)≠[])) e;show _+1<=5;omega
theorem rj{J0 e g i:Zb}{j:List ak}{k:List Sg}(h:k∈kindsF J0 e g j i):k.length=e.length+1/\∀f∈k,f∈bZ J0 e:=by
 unfold kindsF at h;unfold bZ;rcases bL.1 h with h|h
 ·obtain⟨a,l,rfl⟩:=aQ.1 h;refine⟨by rw[fO,ah],fun f hs=>?_⟩;rcases cC.1 hs with rfl|hs
  ·exact eg _ (eg _ (nW (fQ.1 l).1))
  ·exact eg _ (eP _ hs)
 ·rw[dP.1 h];refine⟨by rw[a_,ah];rfl,fun f hs=>?_⟩;rcases bL.1 hs with hs|hs
  ·exact eg _ (eP _ hs)
  ·exact eP _ hs
theorem js{J0 J1 J2:Zb}{ds:List ak}(f:J0.length<=4)(g:J1.length<=4):∀(d:Nat) (J6:Zb),intBits (cntM J0 J1 J2 ds d J6)<=bB d
 |0,_=>by unfold cntM bB;decide
 |d+1,J6=>by
  unfold cntM bB;split
  ·have:intBits 1<=1:=by decide
   omega
  ·have h:∀x∈(kindsF J0 J1 J2 ds J6).map (fun k=>gp (k.map fun a=>cntM J0 J1 J2 ds d (behF J2 ds J6 a))),intBits x<=1+5 * bB d:=by
    intro x i;obtain⟨k,j,rfl⟩:=aQ.1 i;have:=wQ (b:=bB d) (k.map fun a=>cntM J0 J1 J2 ds d (behF J2 ds J6 a)) fun y l=>by
     obtain⟨a,_,rfl⟩:=aQ.1 l;exact js f g d _
    rw[ah,(rj j).1]at this;have e:(J1.length+1) * bB d<=5 * bB d:=c_ _ (by omega);omega
   have e:=AD _ h;rw[ah]at e;have m:=w6 (J1:=J1) (J2:=J2) (ds:=ds) (J6:=J6) f;have n:=intBits_add_le (show intBits (1:Int)<=1 by decide) e;omega
theorem xy:∀d,d<=4->bB d<=2000:=by
 intro d a
 match d,a with
 |0,_=>decide
 |1,_=>decide
 |2,_=>decide
 |3,_=>decide
 |4,_=>decide
inductive sp_product(vs:List V)(H:Hp)(Q:VK)(E:XK):Prop
 |mk (l:Addr) (ns:List Int) (b:Nat):(vs=[.ref l])->(H l=some (.lst (ns.map V.int)))->(∀x∈ns,intBits x<=b)->(b<=10000)->(ns.length<=1000)->(Q (.int (gp ns)) H)->sp_product vs H Q E
theorem ints_get{a:List Int}{i:Nat}{x:V}(h:(a.map V.int)[i]?=some x):∃n,a[i]?=some n/\x=.int n:=by
 rw[cF]at h;obtain⟨n,e,rfl⟩:=kR.1 h;exact⟨n,e,rfl⟩
theorem uE{K:Za}{m:List V}{H:Hp}{Q:VK}{E:XK}(h:sp_product m H Q E):ES K (bj Q) (start Ga m) H:=by
 obtain⟨l,a,b,rfl,o,q,r,z,k⟩:=h;refine⟨_,rfl,l,rfl,⟨_,aw.of o⟩,?_⟩;refine bO (xs:=a.map V.int) (fun i σ f=>∃g,σ=[some (.ref l),some (.int (gp (a.take i))),g]/\f=H) ⟨_,rfl,rfl⟩ (fun i σ f _ ⟨_,_,e⟩=>by rw[e];exact aw.of o) ?_ ?_
 ·rintro i y σ f s ⟨g,rfl,rfl⟩;obtain⟨n,j,rfl⟩:=ints_get s;have t:i<a.length:=(bM.1 j).1;have p:=wQ (b:=b) (a.take i) fun x u=>q x (gW u);rw[aI,qv (by omega)]at p;refine⟨_,rfl,_,rfl,_,_,rfl,rfl,nV p (q n (bT j)) ?_,?_⟩
  ·have:i * b<=1000 * 10000:=Nat.mul_le_mul (by omega) r;omega
  ·exact⟨_,by rw[take_snoc j,uK];rfl,rfl⟩
 ·rintro σ f ⟨g,rfl,rfl⟩;rw[ah,be];exact⟨_,rfl,k⟩
theorem GH{K:Za}{a:List V}{H:Hp}{Q:VK}{E:XK}(h:sp_product a H Q E):Ap K (bj Q) (start BA a) H:=uE h
inductive eC(vs:List V)(H:Hp)(Q:VK)(E:XK):Prop
 |mk (d:Nat):(vs=[.int (d:Nat)])->(d<=4)->(Q .non H)->eC vs H Q E
theorem wg{K:Za}{a:List V}{H:Hp}{Q:VK}{E:XK}(h:eC a H Q E):yC K (bj Q) (start zY a) H:=by
 obtain⟨d,rfl,e,k⟩:=h;refine⟨_,rfl,_,_,rfl,rfl,_,rfl,?_⟩;rw[zzr0 (by omega)];refine bA ⟨_,rfl,_,_,rfl,rfl,_,rfl,?_⟩;rw[zzr0 (by omega)];exact bA k
def KS:HO->Bool
 |.dT _=>false
 |.frz _ _=>false
 |_=>true
def Kp(H H':Hp):Prop:=∀b o,H b=some o->KS o=true->H' b=some o
theorem Kp.trans{H f g:Hp}(a:Kp H f)(b:Kp f g):Kp H g:=fun c o e n=>b c o (a c o e n) n
theorem Kp.kt{H a:Hp}(k:Kp H a):gv H a:=fun b f e=>k b _ e rfl
theorem ab.kp{H a:Hp}(S:ab H a):Kp H a:=fun b o e _=>S b o e
theorem Kp.upd{H:Hp}{d:Addr}{o x:HO}(h:H d=some x)(n:KS x=false):Kp H (upd H d o):=fun b u e z=>by
 rw[ai (fun q:b=d=>by rw[q,h]at e;cases e;rw[n]at z;cases z)];exact e
theorem Kp.exB{H a:Hp}{d:Addr}{x:HO}(h:H d=some x)(n:KS x=false)(e:bC d H a):Kp H a:=fun b u q z=>e b u q fun w=>by
 rw[w,h]at q;cases q;rw[n]at z;cases z
theorem ie{H H':Hp}{d:Addr}{x:HO}(k:∀o,H d=some o->H' d=some o)(h:Rd H d x):Rd H' d x:=h.imp (k _) fun⟨o,e⟩=>⟨o,k _ e⟩
theorem fR{a:List (TK×V)}{k:TK}{v:V}(h:bb a k=some v):(k,v)∈a:=by
 unfold bb at h;obtain⟨p,e,rfl⟩:=kR.1 h;have f:=List.mem_of_find?_eq_some e;have g:decide (p.1=k)=true:=by have:=List.find?_some e;exact this
 rw[<-of_decide_eq_true g];exact f
def Gr(kv kv':List (TK×V)):Prop:=∀k v,bb kv k=some v->bb kv' k=some v
theorem Gr.refl(a:List (TK×V)):Gr a a:=fun _ _ h=>h
theorem Gr.trans{a b c:List (TK×V)}(h:Gr a b)(k:Gr b c):Gr a c:=fun x v e=>k x v (h x v e)
theorem Gr.snoc{a:List (TK×V)}{k:TK}{v:V}(h:bb a k=none):Gr a (a++[(k,v)]):=fun x w e=>by
 rw[<-iu v h,ik,if_neg (fun z=>by rw[z,h]at e;cases e)];exact e
structure KC(K:Za)(C:Addr):Prop where
 cls:BN K C
 a1:cX K C "machine"
 a2:cX K C "known"
structure BI(Cm Ck:Addr)(H0:Hp)(y M kd:Addr)(J0 J1 J2:Zb)(ds:List ak):Prop where
 mach:bU Cm H0 M J0 J1 J2 ds
 ob:∃(dy:Addr) (fs:List (Str×V)),H0 y=some (.ins Ck dy fs)/\lk "machine" fs=some (.ref M)/\lk "known" fs=some (.ref kd)/\lk "steps_from" fs=none
 kdn:H0 kd=none
structure eZ(H0 H:Hp)(kd:Addr)(kv:List (TK×V))(J0 J1 J2:Zb)(ds:List ak)(n:Nat):Prop where
 same:ab H0 H
 hkd:H kd=some (.dT kv)
 kok:∀p∈kv,∃(J6:Zb) (d:Addr) (kvs:List (TK×V)),p=(eO J6,.ref d)/\d≠kd/\H0 d=none/\Rd H d (.dT kvs)/\kM H kvs (stepsF J0 J1 J2 ds J6)
 len:kv.length<=n
theorem eZ.up{g H i:Hp}{kd:Addr}{j:List (TK×V)}{k l m:Zb}{o:List ak}{n:Nat}(h:eZ g H kd j k l m o n)(S:ab H i):eZ g i kd j k l m o n :=
 ⟨h.same.trans S,S _ _ h.hkd,fun p q=>by obtain⟨f,d,a,e,s,t,r,st⟩:=h.kok p q;exact⟨f,d,a,e,s,t,ie (S d) r,st.kt (ab.kt S)⟩,h.len⟩
theorem eZ.more{a H:Hp}{kd:Addr}{e:List (TK×V)}{f g i:Zb}{j:List ak}{n m:Nat}(h:eZ a H kd e f g i j n)(l:n<=m):eZ a H kd e f g i j m:=⟨h.same,h.hkd,h.kok,aE h.len l⟩
theorem eZ.frz{m H:Hp}{kd d:Addr}{o:Obj}{i a:List (TK×V)}{k:TK}{q s t:Zb}{w:List ak}{n:Nat}(h:eZ m H kd i q s t w n)(v:bb i k=some (.ref d))(j:H d=some (.dT a)):
  eZ m (upd H d (.frz o (.dT a))) kd i q s t w n:=by
 obtain⟨_,D,_,g,y,z,_,_⟩:=h.kok _ (fR v);injection g with _ g;injection g with g;subst g;refine⟨fun b u e=>?_,by rw[ai y.symm];exact h.hkd,fun p A=>?_,h.len⟩
 ·rw[ai (ae e z)];exact h.same _ _ e
 ·obtain⟨f,x,l,e,B,C,r,st⟩:=h.kok p A;refine⟨f,x,l,e,B,C,?_,st.kt (JY j)⟩;by_cases c:x=d
  ·subst c;rcases r with r|⟨E,r⟩
   ·rw[j]at r;cases r;exact .inr ⟨o,aa⟩
   ·rw[j]at r;cases r
  ·exact ie (fun u e=>by rw[ai c];exact e) r
theorem eZ.keep{j H:Hp}{kd a:Addr}{o:HO}{g:List (TK×V)}{l m q:Zb}{s:List ak}{n:Nat}(h:eZ j H kd g l m q s n)(v:H a=some o)(B:a≠kd)(w:∀k,(k,V.ref a)∉g):eZ (upd j a o) H kd g l m q s n:=by
 refine⟨fun b u e=>?_,h.hkd,fun p t=>?_,h.len⟩
 ·by_cases c:b=a
  ·subst c;rw[aa]at e;cases e;exact v
  ·rw[ai c]at e;exact h.same _ _ e
 ·obtain⟨f,x,i,e,y,A,r⟩:=h.kok p t;refine⟨f,x,i,e,y,?_,r⟩;rw[ai (fun z=>w (eO f) (by rw[<-z,<-e];exact t))];exact A
inductive kz(Cm Ck:Addr)(vs:List V)(H:Hp)(Q:VK)(E:XK):Prop
 |mk (H0:Hp) (y M kd u:Addr) (kv:List (TK×V)) (n:Nat) (J6 J0 J1 J2:Zb) (ds:List ak):(vs=[.ref y,.ref u])->(BI Cm Ck H0 y M kd J0 J1 J2 ds)->(eZ H0 H kd kv J0 J1 J2 ds n)->(H u=some (.tup (J6.map V.str)))->(∀r∈J6,r∈J2)->(J6.length<=1000)->(n<=1000000) ->
  (∀(d:Addr) (kv' kvs:List (TK×V)) (H':Hp),eZ H0 H' kd kv' J0 J1 J2 ds (n+1)->bb kv' (eO J6)=some (.ref d)->Rd H' d (.dT kvs)->kM H' kvs (stepsF J0 J1 J2 ds J6)->bC kd H H'->Gr kv kv'->Q (.ref d) H')->kz Cm Ck vs H Q E
theorem Fi{K:Za}{L q:Addr}(c:KC K q){N:List V}{H:Hp}{Q:VK}{E:XK}(h:kz L q N H Q E):km K (k4 L) (bj Q) (start kN N) H:=by
 obtain⟨H0,y,M,i,u,m,n,a,O,T,U,Y,rfl,St,j,z,s,hz,hn,k⟩:=h;obtain⟨t,fs,g0,l1,A,l3⟩:=St.ob;have g:=j.same _ _ g0;have tk:nJ K H (eO a) (.ref u):=cS.isIn 8 (fD a) (SignAt.tk z);have D:nM K H i (.ref u) (bb m (eO a)):=.inr ⟨_,_,_,.inl j.hkd,rfl,tk,fD a,rfl⟩;refine⟨_,rfl,_,rfl,y,q,t,fs,.ref i,rfl,g,c.cls,c.a2,A,i,_,rfl,D,_,rfl,?_⟩;cases v:bb m (eO a)with
 |some w =>
  obtain⟨f,d,l,e,n1,n2,r,st⟩:=j.kok _ (fR v);injection e with e1 e2;cases eK e1;subst e2;refine bA ?_;rw[v]at D;exact⟨_,rfl,y,q,t,fs,.ref i,rfl,g,c.cls,c.a2,A,_,rfl,i,_,rfl,D,k d m l H (j.more (by omega)) v r st (bC.refl _ _) (.refl _)⟩
 |none =>
  refine bP ?_;refine⟨_,rfl,y,q,t,fs,.ref M,rfl,g,c.cls,c.a1,l1,_,rfl,M,u,a,O,T,U,Y,rfl,St.mach.same j.same,z,s,hz,fun d l B hd st dn x=>?_⟩;have C:=j.up x;have G:d≠i:=(ae j.hkd dn).symm;refine⟨_,rfl,y,q,t,fs,.ref i,rfl,x _ _ g,c.cls,c.a2,A,_,rfl,i,_,rfl,.inr ⟨_,eO a,u,C.hkd,rfl,SignAt.tk (x _ _ z),fD a,?_,rfl⟩,?_⟩
  ·have:=j.len;rw[rR];omega
  rw[iu _ v];have kt:gv B (upd B i (.dT (m++[(eO a,.ref d)]))):=JY C.hkd;have v2:bb (m++[(eO a,V.ref d)]) (eO a)=some (.ref d):=by rw[<-iu (.ref d) v,ik,if_pos rfl]
  have D2:eZ H0 (upd B i (.dT (m++[(eO a,.ref d)]))) i (m++[(eO a,.ref d)]) O T U Y (n+1):=by
   refine⟨fun b o e=>?_,aa,fun p hp=>?_,?_⟩
   ·rw[ai (ae e St.kdn)];exact C.same _ _ e
   ·rcases bL.1 hp with hp|hp
    ·obtain⟨f,d2,I,e,q1,q2,r,J⟩:=C.kok p hp;exact⟨f,d2,I,e,q1,q2,ie (fun o e=>by rw[ai q1];exact e) r,J.kt kt⟩
    ·rw[dP.1 hp];exact⟨a,d,l,rfl,G,j.same.free dn,.inl (by rw[ai G];exact hd),st.kt kt⟩
   ·rw[a_];show _+1<=_;have:=j.len;omega
  have g5:nM K (upd B i (.dT (m++[(eO a,.ref d)]))) i (.ref u) (some (.ref d)):=.inr ⟨_,eO a,u,.inl aa,rfl,cS.isIn 8 (fD a) (SignAt.tk (kt _ _ (x _ _ z))),fD a,v2.symm⟩;exact⟨_,rfl,y,q,t,fs,.ref i,rfl,D2.same _ _ g0,c.cls,c.a2,A,_,rfl,i,_,rfl,g5,k d _ l _ D2 v2 (.inl (by rw[ai G];exact hd)) (st.kt kt) (fun b o e nb=>by rw[ai nb];exact x _ _ e) (.snoc v)⟩
inductive ky(Ck:Addr)(vs:List V)(H:Hp)(Q:VK)(E:XK):Prop
 |mk (x dx M:Addr):(vs=[.ref x,.ref M])->(H x=some (.ins Ck dx []))->(∀(kd:Addr) (fs:List (Str×V)) (H':Hp),H' x=some (.ins Ck dx fs)->lk "machine" fs=some (.ref M)->lk "known" fs=some (.ref kd)->lk "steps_from" fs=none->H' kd=some (.dT [])->H kd=none->bC x H H'->Q .non H')->ky Ck vs H Q E
theorem Fh{K:Za}{g:Addr}(c:KC K g){l:List V}{H:Hp}{Q:VK}{E:XK}(h:ky g l H Q E):lX K (bj Q) (start l6 l) H:=by
 obtain⟨x,m,M,rfl,p,k⟩:=h;refine⟨_,rfl,_,rfl,x,g,m,[],rfl,p,c.cls,c.a1,(by decide),?_⟩;obtain⟨y,u,f,q⟩:=mK "machine" (.ref M) p;rw[<-u];have r:(cP ("machine":Str) (.ref M) []).length<=1:=di _ _ _;refine fun i a=>⟨_,rfl,x,g,m,_,rfl,kp f a,c.cls,c.a2,by omega,?_⟩;obtain⟨v,w,j,s⟩:=mK "known" (.ref i) (kp (x:=.dT []) f a);rw[<-w];have t:i≠x:=(ae f a).symm;refine k i _ v j ?_ ?_ ?_ (s _ _ aa t) ?_ fun b o e n=>s _ _ (kp (q _ _ e n) a) n
 ·show fI _ _=_;repeat (rw[aV];first|rw[if_pos rfl] | rw[if_neg (by decide +kernel)])
 ·show fI _ _=_;repeat (rw[aV];first|rw[if_pos rfl] | rw[if_neg (by decide +kernel)])
 ·show fI _ _=_;repeat (rw[aV];first|rw[if_pos rfl] | rw[if_neg (by decide +kernel)])
  rfl
 ·cases e:H i with
  |none=>rfl
  |some o=>have:=q _ _ e t;rw[a]at this;cases this
def qe(J6:Zb)(d:Nat):TK:=.t [eO J6,.k (some (.inl (d:Int)))]
theorem ED{f g:Zb}{d e:Nat}(h:qe f d=qe g e):f=g/\d=e:=by
 unfold qe at h;injection h with h;injection h with i a;injection a with a _;injection a with a;injection a with a;injection a with a;exact⟨eK i,by omega⟩
theorem eE(f:Zb)(d:Nat):(qe f d).depth<=8:=by
 show max (eO f).depth (max 0 0)+1<=8;rw[fk];decide
structure DC(K:Za)(C:Addr):Prop where
 cls:BN K C
 a1:cX K C "says_signs"
 a2:cX K C "known_steps"
 a3:cX K C "known_counts"
structure vD(Cm Ck Cd:Addr)(H0:Hp)(x sl y M kd cd:Addr)(us:Ze)(J0 J1 J2:Zb)(ds:List ak):Prop where
 ks:BI Cm Ck H0 y M kd J0 J1 J2 ds
 ob:∃(dx:Addr) (fs:List (Str×V)),H0 x=some (.ins Cd dx fs)/\lk "says_signs" fs=some (.ref sl)/\lk "known_steps" fs=some (.ref y)/\lk "known_counts" fs=some (.ref cd)/\∀f:Str,f≠"says_signs"->f≠"known_steps"->f≠"known_counts"->lk f fs=none
 hsl:H0 sl=some (.lst (us.map V.ref))
 sg:j7 H0 us (J1.map gG)
 cdn:H0 cd=none
 ne:kd≠cd
structure dH(H0 H:Hp)(kd cd:Addr)(kv cv:List (TK×V))(J0 J1 J2:Zb)(ds:List ak)(n:Nat):Prop where
 ks:eZ H0 H kd kv J0 J1 J2 ds n
 ncd:∀k,(k,V.ref cd)∉kv
 hcd:H cd=some (.dT cv)
 cok:∀p∈cv,∃(J6:Zb) (d:Nat),p=(qe J6 d,.int (cntM J0 J1 J2 ds d J6))
 clen:cv.length<=n
section
variable{H0 H H1 H':Hp}{kd cd d:Addr}{o:Obj}{kv cv kvs:List (TK×V)}{k:TK}{J0 J1 J2:Zb}{ds:List ak}{n m:Nat}
theorem eZ.weak(S:ab H0 H1)(h:eZ H1 H kd kv J0 J1 J2 ds n):eZ H0 H kd kv J0 J1 J2 ds n :=
 ⟨S.trans h.same,h.hkd,fun p a=>by obtain⟨f,d,kvs,e,g,i,r⟩:=h.kok p a;exact⟨f,d,kvs,e,g,S.free i,r⟩,h.len⟩
theorem dH.up(h:dH H0 H kd cd kv cv J0 J1 J2 ds n)(S:ab H H'):dH H0 H' kd cd kv cv J0 J1 J2 ds n:=⟨h.ks.up S,h.ncd,S _ _ h.hcd,h.cok,h.clen⟩
theorem eZ.cell{f:Addr}{i ys:List V}(h:eZ H0 H kd kv J0 J1 J2 ds n)(j:H0 f=none)(a:H f=some (.lst i)):eZ H0 (L2.upd H f (.lst ys)) kd kv J0 J1 J2 ds n :=
 ⟨fun b o e=>by rw[ai (ae e j)];exact h.same _ _ e,by rw[ai (fun z=>by have:=h.hkd;rw[z,a]at this;cases this)];exact h.hkd,fun p l=>by
  obtain⟨g,d,kvs,e,q,s,r,st⟩:=h.kok p l;refine⟨g,d,kvs,e,q,s,ie (fun o e=>?_) r,st.kt (eW a)⟩;rw[ai (fun z=>by rw[z]at r;rcases r with r|⟨_,r⟩<;>(rw[a]at r;cases r))];exact e,h.len⟩
theorem dH.cell{f:Addr}{e ys:List V}(h:dH H0 H kd cd kv cv J0 J1 J2 ds n)(g:H0 f=none)(a:H f=some (.lst e)):dH H0 (L2.upd H f (.lst ys)) kd cd kv cv J0 J1 J2 ds n :=
 ⟨h.ks.cell g a,h.ncd,by rw[ai (fun z=>by have:=h.hcd;rw[z,a]at this;cases this)];exact h.hcd,h.cok,h.clen⟩
theorem dH.more(h:dH H0 H kd cd kv cv J0 J1 J2 ds n)(l:n<=m):dH H0 H kd cd kv cv J0 J1 J2 ds m:=⟨h.ks.more l,h.ncd,h.hcd,h.cok,aE h.clen l⟩
theorem dH.frz(h:dH H0 H kd cd kv cv J0 J1 J2 ds n)(v:bb kv k=some (.ref d))(a:H d=some (.dT kvs)):dH H0 (upd H d (.frz o (.dT kvs))) kd cd kv cv J0 J1 J2 ds n :=
 ⟨h.ks.frz v a,h.ncd,by rw[ai (fun z=>h.ncd k (by rw[z];exact fR v))];exact h.hcd,h.cok,h.clen⟩
end
theorem dZ.kp{K:Za}{H a:Hp}{w:Addr}{s:List Sg}(k:Kp H a)(h:dZ K H w s):dZ K a w s:=by
 obtain⟨e,f,g⟩:=h;exact⟨e,k _ _ f rfl,Paired.mapP g fun _ _ r=>cE.kt k.kt r⟩
inductive iX(Cm Ck Cd:Addr)(vs:List V)(H:Hp)(Q:VK)(E:XK):Prop
 |mk (H0:Hp) (x sl y M kd cd u:Addr) (us:Ze) (kv cv:List (TK×V)) (n:Nat) (J6 J0 J1 J2:Zb) (ds:List ak):(vs=[.ref x,.ref u])->(vD Cm Ck Cd H0 x sl y M kd cd us J0 J1 J2 ds)->(dH H0 H kd cd kv cv J0 J1 J2 ds n)->(H u=some (.tup (J6.map V.str)))->(∀r∈J6,r∈J2)->(J6.length<=1000)->(n<=1000000) ->
  (∀(d:Addr) (kv' kvs:List (TK×V)) (H':Hp),dH H0 H' kd cd kv' cv J0 J1 J2 ds (n+1)->bb kv' (eO J6)=some (.ref d)->Rd H' d (.dT kvs)->kM H' kvs (stepsF J0 J1 J2 ds J6)->bC kd H H'->Gr kv kv'->Q (.ref d) H')->iX Cm Ck Cd vs H Q E
theorem Ff{K:Za}{j g l:Addr}(c:DC K l){B:List V}{H:Hp}{Q:VK}{E:XK}(h:iX j g l B H Q E):pf K g (kz j g) (bj Q) (start qk B) H:=by
 obtain⟨i,x,sl,y,M,C,m,u,us,U,o,n,Y,D,G,I,J,rfl,St,a,hu,f,hz,hn,k⟩:=h;obtain⟨dx,fs,g0,l1,l2,l3,l4⟩:=St.ob;obtain⟨L,N,O,m1,m2,T⟩:=id St.ks.ob;have p:ab i (upd i m (.dT o)):=ab.new St.cdn;have s:BI j g (upd i m (.dT o)) y M C D G I J:=⟨St.ks.mach.same p,⟨L,N,p _ _ O,m1,m2,T⟩,by rw[ai St.ne];exact St.ks.kdn⟩;refine⟨_,rfl,x,l,dx,fs,.ref y,rfl,a.ks.same _ _ g0,c.cls,c.a2,l2,y,L,N,rfl,a.ks.same _ _ O,T,_,rfl,upd i m (.dT o),y,M,C,u,U,n,Y,D,G,I,J,rfl,s,a.ks.keep a.hcd St.ne.symm a.ncd,hu,f,hz,hn,fun d t w H' A v r st ex gr=>?_⟩;refine k d t w H' ⟨A.weak p,fun q hq=>?_,A.same _ _ aa,a.cok,by have:=a.clen;omega⟩ v r st ex gr;obtain⟨_,_,_,e,_,z,_⟩:=A.kok _ hq;injection e with _ e;injection e with e;rw[<-e,aa]at z;cases z
def jq(sg:Sg):Bool:=decide (sg.head?=some ("ask":Str))
theorem oF{J2 J6:Zb}{ds:List ak}{g:Str->Sg}{b:Bool}(e:∀a,jq (g a)=b):∀A:List Str,((((A.map g).map fun h=>(h,behF J2 ds J6 h)).filter fun p=>decide (p.2≠[])).filter fun p=>jq p.1).map (·.1)=if b=true then(A.filter fun a=>decide (behF J2 ds J6 (g a)≠[])).map g else[]
 |[]=>by cases b<;>rfl
 |a::A=>by
  have f:=oF (J2:=J2) (J6:=J6) (ds:=ds) e A;rw[bF,bF];by_cases c:behF J2 ds J6 (g a)=[]
  ·rw[xG (by simp[c]),f,xG (by simp[c])]
  ·rw[xF (by simp[c]),xF (p:=fun a=>decide (behF J2 ds J6 (g a)≠[])) (by simp[c])];cases b with
   |true=>rw[xF (by exact e a),bF,f];rfl
   |false=>rw[xG (by show ¬jq (g a)=true;rw[e a];decide),f];rfl
def askS(J0 J2:Zb)(ds:List ak)(J6:Zb):List Sg:=(J0.filter fun a=>decide (behF J2 ds J6 (b0 a)≠[])).map b0
theorem AE(i j e:Zb)(f:List ak)(g:Zb):((stepsF i j e f g).filter fun p=>jq p.1).map (·.1)=askS i e f g:=by
 unfold stepsF bZ;rw[av,av,iF,iF,iF,iF,av,av,oF (b:=true) (fun a=>by unfold jq b0;rfl),oF (b:=false) (fun a=>by unfold jq gG;rfl)];rw[if_pos rfl,if_neg (by decide)];have:((([cA].map fun h=>(h,behF e f g h)).filter fun p=>decide (p.2≠[])).filter fun p=>jq p.1)=[]:=by
  rw[List.filter_eq_nil_iff];intro p k;obtain⟨h,l,rfl⟩:=aQ.1 (fQ.1 k).1;rw[dP.1 l];show ¬jq cA=true
  decide
 rw[this,dJ];show _++[]=_;rw[dJ];rfl
theorem IN{g i:Zb}{f:Sg}(h:f∈bZ g i):∃j e,f=j::e:=by
 unfold bZ at h;rcases bL.1 h with h|h
 ·rcases bL.1 h with h|h
  ·obtain⟨a,_,rfl⟩:=aQ.1 h;exact⟨_,_,rfl⟩
  ·obtain⟨a,_,rfl⟩:=aQ.1 h;exact⟨_,_,rfl⟩
 ·rw[dP.1 h];exact⟨_,_,rfl⟩
theorem EX{a e f J6:Zb}{g:List ak}(m:aP a e f g):(stepsF a e f g J6).length<=9:=by
 have h:=m.asks4;have i:=m.says4;unfold stepsF;refine aE (cO _ _) ?_;unfold bZ;rw[ah,a_,a_,ah,ah];show _+1<=9;omega
abbrev Kd(K:Za)(H:Hp)(us:Ze)(L:List Sg):Prop:=Paired (fun s (sg:Sg)=>cE K H s (sg.map V.str)) us L
theorem Kd.kt{K:Za}{H a:Hp}{e:Ze}{L:List Sg}(k:gv H a)(h:Kd K H e L):Kd K a e L:=Paired.mapP h fun _ _ r=>cE.kt k r
theorem xp{K:Za}{σ:L2.St}{H:Hp}{d l:Addr}{o:Obj}{h:List (TK×V)}{v y w J6:Zb}{x:List ak}{Q:Hp->Prop}(m:aP v y w x)(Y:H d=some (.frz o (.dT h)))(st:kM H h (stepsF v y w x J6))(J:H l=none)
  (k:∀(g:Ze) (f:Hp),f l=some (.lst (g.map V.ref))->Kd K f g (askS v w x J6)->ab H f->Q f) :
  em 1 [] σ (K3 d o (.dT h) h.length (Jv K h)) U0 (aU (aH vI (aH (r8 K) V0 (tC (.int 0))) (tC (.str "ask")))) V0 H l Q:=by
 have zs:=EX (J6:=J6) m
 let A:Nat->List V->Hp->Prop:=fun i vs f=>∃g:List Addr,vs=g.map V.ref/\ab H f/\f l=some (.lst vs)/\Kd K f g ((((stepsF v y w x J6).take i).filter fun p=>jq p.1).map (·.1))
 refine FQ A ⟨[],rfl,ab.new J,aa,.nil⟩ (fun i vs f _ ⟨_,_,S,n,_⟩=>⟨n,S _ _ Y⟩) ?_ ?_
 ·rintro vs f ⟨g,rfl,S,n,r⟩;rw[Paired.length st,be,AE]at r;exact k g f n r S
 ·rintro i vs f a b L ⟨g,rfl,S,n,r⟩ ⟨B,ek,t⟩;obtain⟨p,C,e,_⟩:=Paired.getL st ek;have e:B=eO p.1:=e;rw[e]at t;obtain⟨s,rfl,M⟩:=Gx t;obtain⟨sg,D,ep⟩:=aQ.1 (fQ.1 (bT C)).1;have N:p.1=sg:=by rw[<-ep]
  obtain⟨E,O,T⟩:=IN D;have u:=M;rw[N,T]at u;have G:(decide (V.str E=V.str ("ask":Str)))=jq p.1:=by
   unfold jq;rw[N,T];by_cases c:E=("ask":Str)
   ·rw[c];simp
   ·rw[zzr0 (fun z=>c (by injection z)),zzr0 (fun z=>c (by simpa using z))]
  refine gN ?_;refine⟨_,rfl,.inr (.inl ⟨s,_,0,.str E,rfl,rfl,cE.sq u,ca (j:=0) rfl,rfl,_,rfl,?_⟩)⟩;rw[G];refine iS (fun I=>?_) (fun I=>?_)
  ·refine⟨_,rfl,n,?_,mF L ⟨g++[s],by rw[av];rfl,?_,aa,?_⟩⟩
   ·rw[ah,Paired.length r,ah];refine ao (aE (cO _ _) ?_);rw[aI];omega
   ·intro b o q;rw[ai (ae q J)];exact S _ _ q
   ·rw[take_snoc C,iF,av,xF (by exact I)];have U:gv f (upd f l (.lst (g.map V.ref++[.ref s]))):=eW n;exact ge (r.kt U) (cE.kt U M)
  ·refine mF L ⟨g,rfl,S,n,?_⟩;rw[take_snoc C,iF,av,xG (by exact I)];show Kd K f g (_++[]);rw[dJ];exact r
theorem uZ{K:Za}{Cm Ck Cd m:Addr}(c:DC K Cd)(hh:∀H,bQ K H m (cA.map V.str)){H0 H:Hp}{x sl y M kd cd u al:Addr}{a as:Ze}{D E G Y:Zb}{I:List ak}{Q:VK}{nx:L2.St->Hp->Prop}
  (St:vD Cm Ck Cd H0 x sl y M kd cd a D E G I) (S:ab H0 H) (an:H al=some (.lst (as.map V.ref))) (hA:Kd K H as (askS D G I Y))
  (k:∀(l:Addr) (f:Ze) (j:Hp),j l=some (.lst (f.map V.ref))->Paired (dZ K j) f (kindsF D E G I Y)->ab H j->Q (.ref l) j) :
  (aW (aH j3 (cG 1 [0] (bN K V2) U0 (iH) (aH j3 (c6 (ay V0)) (fN K V1 "says_signs"))) (c6 (am (aH j3 (fN K V0 "says_signs") (c6 (ay (tC (.ref m))))) bg)))) { nx:=nx,rt:=Q } [some (.ref x),some (.ref u),some (.ref al)] H:=by
 obtain⟨dx,fs,g0,l1,l2,l3,l4⟩:=St.ob;have mo:=St.ks.mach.ok;have z1:=mo.asks4;have z2:=mo.says4;have zu:a.length<=4:=by rw[Paired.length St.sg,ah];exact z2
 have za:(askS D G I Y).length<=4:=by unfold askS;rw[ah];exact aE (cO _ _) z1
 have ap:∀{j:Hp},ab H0 j->Kd K j a (E.map gG):=fun S'=>Paired.mapP (j7.kt (ab.kt S') St.sg) fun _ _ r=>.inl r;refine⟨_,rfl,al,rfl,⟨_,aw.of an⟩,fun J aC=>?_⟩
 let a8:Nat->List V->Hp->Prop:=fun i vs j=>∃f:List Addr,vs=f.map V.ref/\ab H j/\j J=some (.lst vs)/\Paired (dZ K j) f (((askS D G I Y).take i).map fun sg=>sg::E.map gG)/\∀q∈f,q≠J
 refine bX (xs:=as.map V.ref) a8 ⟨[],rfl,ab.new aC,aa,.nil,fun _ h=>by cases h⟩ (fun i vs j _ ⟨_,_,S',h',_⟩=>⟨h',aw.of (S' _ _ an)⟩) ?_ ?_;rotate_left
 ·rintro i vs t v hv hi ⟨f,rfl,N,h1,hK,nk⟩;obtain⟨s,hs,rfl⟩:=bY hv;obtain⟨sg,a9,bc⟩:=Paired.getL hA hs;refine gN (pc ?_);refine⟨_,rfl,(by show 1<=aj;decide),fun ll bd=>?_⟩;have B:ab t (upd t ll (.lst [.ref s])):=ab.new bd;have a0:upd t ll (.lst [.ref s]) ll=some (.lst [.ref s]):=aa;generalize upd t ll (.lst [.ref s])=w at B a0 ⊢;have z:=(S.trans N).trans B;refine⟨_,rfl,x,Cd,dx,fs,.ref sl,rfl,z _ _ g0,c.cls,c.a1,l1,ll,sl,_,_,rfl,rfl,a0,z _ _ St.hsl,?_,fun C a4=>?_⟩
  ·rw[ah];exact cT (ao (by show 1+_<=1000;omega))
  have S3:ab w (upd w C (.lst ([V.ref s]++a.map V.ref))):=ab.new a4;have c3:upd w C (.lst ([V.ref s]++a.map V.ref)) C=some (.lst ((s::a).map V.ref)):=aa;have nc:C≠J:=(ae (B _ _ h1) a4).symm;generalize upd w C (.lst ([V.ref s]++a.map V.ref))=A at S3 c3 ⊢;have g:=B.trans S3;have bi:=(S.trans N).trans g;have a5:=g _ _ h1;have hk:gv A (upd A J (.lst (f.map V.ref++[.ref C]))):=eW a5;refine⟨a5,?_,mF hi ⟨f++[C],by rw[av];rfl,?_,aa,?_,fun q hq=>?_⟩⟩
  ·rw[ah,Paired.length hK,ah,aI];exact ao (by omega)
  ·intro b o q;rw[ai (ae q aC)];exact g _ _ (N _ _ q)
  ·rw[take_snoc a9,av];have cell:∀{q:Addr}{L:List Sg},q≠J->dZ K A q L->dZ K (upd A J (.lst (f.map V.ref++[.ref C]))) q L:=fun n h=>h.kt hk fun o e=>by rw[ai n];exact e
   refine ge ?_ (cell nc ⟨s::a,c3,.cons (cE.kt (ab.kt (N.trans g)) bc) (ap bi)⟩);refine Paired.mapM hK fun q L hq r=>cell (nk q hq) (r.kt (ab.kt g) fun o e=>g _ _ e)
  ·rcases bL.1 hq with hq|hq
   ·exact nk q hq
   ·rw[dP.1 hq];exact nc
 ·rintro vs t ⟨f,rfl,N,h1,hK,_⟩;rw[ah,Paired.length hA,be]at hK;have O:=S.trans N;refine⟨_,rfl,x,Cd,dx,fs,.ref sl,rfl,O _ _ g0,c.cls,c.a1,l1,(by show 1<=aj;decide),fun hl bl=>?_⟩;have B:ab t (upd t hl (.lst [.ref m])):=ab.new bl;have a6:upd t hl (.lst [.ref m]) hl=some (.lst [.ref m]):=aa;generalize upd t hl (.lst [.ref m])=w at B a6 ⊢;have z:=O.trans B;refine⟨sl,hl,_,_,rfl,rfl,z _ _ St.hsl,a6,?_,fun p bm=>?_⟩
  ·rw[ah];exact cT (ao (by show _+1<=1000;omega))
  have S3:ab w (upd w p (.lst (a.map V.ref++[.ref m]))):=ab.new bm;have c3:upd w p (.lst (a.map V.ref++[.ref m])) p=some (.lst ((a++[m]).map V.ref)):=by rw[aa,av];rfl
  generalize upd w p (.lst (a.map V.ref++[.ref m]))=A at S3 c3 ⊢;refine⟨(by show 1<=aj;decide),fun ol bn=>?_⟩;have S4:ab A (upd A ol (.lst [.ref p])):=ab.new bn;have a7:upd A ol (.lst [.ref p]) ol=some (.lst [.ref p]):=aa;generalize upd A ol (.lst [.ref p])=H4 at S4 a7 ⊢;have T:=(B.trans S3).trans S4;refine⟨J,ol,_,_,rfl,rfl,T _ _ h1,a7,?_,fun r hr=>?_⟩
  ·rw[ah,Paired.length hK,ah];exact cT (ao (by show _+1<=1000;omega))
  have S5:ab H4 (upd H4 r (.lst (f.map V.ref++[.ref p]))):=ab.new hr;refine k r (f++[p]) _ (by rw[aa,av];rfl) ?_ ((N.trans T).trans S5);have U:=T.trans S5;have e:kindsF D E G I Y=((askS D G I Y).map fun sg=>sg::E.map gG)++[E.map gG++[cA]]:=by
   unfold kindsF askS;rw[i3];rfl
  rw[e];refine ge (Paired.mapP hK fun _ _ h=>h.kt (ab.kt U) fun o e=>U _ _ e) ⟨a++[m],S5 _ _ (S4 _ _ c3),?_⟩;exact Paired.app (ap (O.trans U)) (.cons (DR hh _) .nil)
inductive kq(K:Za)(Cm Ck Cd:Addr)(vs:List V)(H:Hp)(Q:VK)(E:XK):Prop
 |mk (H0:Hp) (x sl y M kd cd u:Addr) (us:Ze) (kv cv:List (TK×V)) (n:Nat) (J6 J0 J1 J2:Zb) (ds:List ak):(vs=[.ref x,.ref u])->(vD Cm Ck Cd H0 x sl y M kd cd us J0 J1 J2 ds)->(dH H0 H kd cd kv cv J0 J1 J2 ds n)->(H u=some (.tup (J6.map V.str)))->(∀r∈J6,r∈J2)->(J6.length<=1000)->(n<=1000000) ->
  (∀(l:Addr) (ks:Ze) (kv':List (TK×V)) (H':Hp),H' l=some (.lst (ks.map V.ref))->Paired (dZ K H') ks (kindsF J0 J1 J2 ds J6)->dH H0 H' kd cd kv' cv J0 J1 J2 ds (n+1)->Kp H H'->Gr kv kv'->Q (.ref l) H')->kq K Cm Ck Cd vs H Q E
theorem Fc{K:Za}{N O q T:Addr}(c:DC K q)(U:∀H,bQ K H T (cA.map V.str)){Y:List V}{H:Hp}{Q:VK}{E:XK}(h:kq K N O q Y H Q E):sD K T q (iX N O q) (bj Q) (start sV Y) H:=by
 obtain⟨H0,x,sl,y,M,kd,cd,u,us,kv,cv,n,J6,J0,J1,J2,ds,rfl,St,s,t,f,hz,hn,k⟩:=h;obtain⟨dx,fs,g0,l1,l2,l3,l4⟩:=St.ob;have mo:=St.ks.mach.ok;refine⟨_,rfl,x,dx,fs,rfl,s.ks.same _ _ g0,l4 "steps_from" (by decide +kernel) (by decide +kernel) (by decide +kernel),_,rfl,H0,x,sl,y,M,kd,cd,u,us,kv,cv,n,J6,J0,J1,J2,ds,rfl,St,s,t,f,hz,hn,fun d g i v w v1 a j z gr=>⟨d,i,rfl,?_⟩⟩;have m:Kp H v:=Kp.exB s.ks.hkd rfl z;rcases a with a|⟨o,a⟩
 ·refine .inl ⟨a,fun o l A=>?_⟩;have D2:=w.frz (o:=o) v1 a;have B:Kp v (upd v d (.frz o (.dT i))):=Kp.upd a rfl;refine xp mo aa (j.kt (JY a)) A fun as H2 C D e=>?_;exact uZ c U St (D2.ks.same.trans e) C D fun r G I J L p=>k r G g I J L ((D2.up e).up p) ((m.trans B).trans (ab.kp (e.trans p))) gr
 ·refine .inr ⟨o,a,fun l A=>?_⟩;refine xp mo a j A fun as H2 C D e=>?_;exact uZ c U St (w.ks.same.trans e) C D fun r G I J L p=>k r G g I J L ((w.up e).up p) (m.trans (ab.kp (e.trans p))) gr
def nB:Nat->Nat
 |0=>0
 |d+1=>7+25 * nB d
def LC(H:Hp)(v:V)(J6:Zb):Prop:=(v=.non/\J6=[])∨∃u,v=.ref u/\H u=some (.tup (J6.map V.str))
inductive iq(Cm Ck Cd:Addr)(D:Nat)(vs:List V)(H:Hp)(Q:VK)(E:XK):Prop
 |mk (H0:Hp) (x sl y M kd cd:Addr) (us:Ze) (v:V) (kv cv:List (TK×V)) (n d:Nat) (J6 J0 J1 J2:Zb) (ds:List ak):(vs=[.ref x,v,.int (d:Nat)])->(d<=D)->(vD Cm Ck Cd H0 x sl y M kd cd us J0 J1 J2 ds)->(dH H0 H kd cd kv cv J0 J1 J2 ds n)->(LC H v J6)->(v≠.non->J6≠[])->(∀r∈J6,r∈J2)->(J6.length<=1000)->(n+nB d<=1000000) ->
  (∀(kv' cv':List (TK×V)) (H':Hp),dH H0 H' kd cd kv' cv' J0 J1 J2 ds (n+nB d)->Kp H H'->Gr kv kv'->Q (.int (cntM J0 J1 J2 ds d J6)) H')->iq Cm Ck Cd D vs H Q E
inductive jd(K:Za)(Cm Ck Cd:Addr)(D:Nat)(vs:List V)(H:Hp)(Q:VK)(E:XK):Prop
 |mk (H0:Hp) (x sl y M kd cd u kl:Addr) (us:Ze) (kv cv:List (TK×V)) (n d:Nat) (kind:List Sg) (J6 J0 J1 J2:Zb) (ds:List ak):(vs=[.ref x,.ref u,.int ((d+1:Nat)),.ref kl])->(d<=D)->(d<=4)->(vD Cm Ck Cd H0 x sl y M kd cd us J0 J1 J2 ds)->(dH H0 H kd cd kv cv J0 J1 J2 ds n)->(H u=some (.tup (J6.map V.str)))->(∀r∈J6,r∈J2)->(J6.length<=1000)->(dZ K H kl kind)->(∀sg∈kind,sg∈bZ J0 J1)->(kind.length<=5)->(n+1+5 * nB d<=1000000) ->
  (∀(kv' cv':List (TK×V)) (H':Hp),dH H0 H' kd cd kv' cv' J0 J1 J2 ds (n+1+5 * nB d)->Kp H H'->Gr kv kv'->Q (.int (gp (kind.map fun sg=>cntM J0 J1 J2 ds d (behF J2 ds J6 sg)))) H')->jd K Cm Ck Cd D vs H Q E
theorem AN{K:Za}{Cm Ck Cd:Addr}{D:Nat}{p:List V}{H:Hp}{Q:VK}{E:XK}(h:jd K Cm Ck Cd D p H Q E):sE K sp_product Cd (iq Cm Ck Cd D) (iX Cm Ck Cd) (bj Q) (start sW p) H:=by
 obtain⟨H0,x,sl,y,M,kd,cd,u,kl,us,kv,cv,n,d,a,J6,J0,J1,J,L,rfl,hD,d4,St,Dy,hu,q,hz,hk,as,zk,hn,k⟩:=h;obtain⟨dx,fs,g0,l1,l2,l3,l4⟩:=St.ob;have mo:=St.ks.mach.ok;have z1:=mo.asks4;have z2:=mo.says4;have z3:=mo.rooms26;refine⟨_,rfl,x,dx,fs,rfl,Dy.ks.same _ _ g0,l4 "steps_from" (by decide +kernel) (by decide +kernel) (by decide +kernel),_,rfl,H0,x,sl,y,M,kd,cd,u,us,kv,cv,n,J6,J0,J1,J,L,rfl,St,Dy,hu,q,hz,by omega,fun sd O bm H1 D1 v1 _ _ aC a0=>?_⟩;have v:Kp H H1:=Kp.exB Dy.ks.hkd rfl aC;obtain⟨ss,a4,A⟩:=hk;have T:=v _ _ a4 rfl;refine⟨_,rfl,kl,rfl,⟨_,aw.of T⟩,fun f hf=>?_⟩
 let a5:Nat->List V->Hp->Prop:=fun i p H'=>Ij fun(U a6:List (TK×V))=>JK (p=((a.take i).map fun g=>cntM J0 J1 J L d (behF J L J6 g)).map V.int) (H' f=some (.lst p)) (Kp H1 H') (dH H0 H' kd cd U a6 J0 J1 J L (n+1+i * nB d)) (Gr O U)
 refine bX (xs:=ss.map V.ref) a5
  ⟨O,cv,rfl,aa,ab.kp (ab.new hf),(D1.up (ab.new hf)).more (by omega),.refl _⟩ (fun i p H' _ ⟨_,_,_,h',a7,_,_⟩=>⟨h',aw.of (a7 _ _ T rfl)⟩) ?_ ?_
 rotate_left
 ·rintro i p H2 w hw hi ⟨B,C,rfl,f2,j,N,l⟩;obtain⟨s,hs,rfl⟩:=bY hw;obtain⟨g,G,a8⟩:=Paired.getL A hs;have il:i<a.length:=(bM.1 G).1;have Y:=as g (bT G);have al:cE K H2 s (g.map V.str):=cE.kt (v.trans j).kt a8;obtain⟨f',bn,r,e',_,_,r2,an⟩:=N.ks.kok _ (fR (l _ _ v1));injection e' with I t;cases eK I;cases t;have gd:nM K H2 sd (.ref s) (bb r (eO g)):=.inr ⟨_,eO g,s,r2,rfl,yu al,fD _,rfl⟩;have bu:(i+1) * nB d=i * nB d+nB d:=gA _ _;have bl:(i+1) * nB d<=5 * nB d:=c_ _ (by omega);refine gN (pc ?_);refine⟨_,rfl,x,dx,fs,rfl,N.ks.same _ _ g0,l4 "count_at" (by decide +kernel) (by decide +kernel) (by decide +kernel),_,rfl,sd,rfl,.inr ⟨_,r2⟩,_,rfl,_,gd,_,rfl,_,_,rfl,rfl,H0,x,sl,y,M,kd,cd,us,(bb r (eO g)).getD .non,B,C,_,d,behF J L J6 g,J0,J1,J,L,?_,hD,St,N,?_,?_,qg q,fU (by omega) hz,by omega,fun a9 bc H3 D3 ap bd=>?_⟩
  ·show[V.ref x,_,V.int (((d+1:Nat):Int)-1)]=_;rw[show(((d+1:Nat):Int)-1)=(d:Nat) by omega]
  ·rcases an.look Y with⟨I,t⟩|⟨I,u2,t,e3⟩
   ·rw[I,t];exact .inl ⟨rfl,rfl⟩
   ·rw[t];exact .inr ⟨u2,rfl,e3⟩
  ·rcases an.look Y with⟨I,t⟩|⟨I,u2,t,e3⟩
   ·rw[t];exact fun z=>absurd rfl z
   ·exact fun _=>I
  have f3:=ap _ _ f2 rfl;refine⟨f3,?_,mF hi ⟨a9,bc,?_,aa,?_,?_,l.trans bd⟩⟩
  ·rw[ah,ah,aI];exact ao (by omega)
  ·rw[take_snoc G,av,av];rfl
  ·exact fun b o e no=>by rw[ai (ae e hf)];exact ap _ _ (j _ _ e no) no
  ·exact(D3.more (m:=n+1+(i+1) * nB d) (by omega)).cell (D1.ks.same.free hf) f3
 ·rintro p H2 ⟨B,C,rfl,f2,j,N,l⟩;rw[ah,Paired.length A,be]at f2;rw[ah,Paired.length A]at N;have m5:a.length * nB d<=5 * nB d:=c_ _ zk;refine⟨f,_,bB d,rfl,f2,fun z bi=>?_,by have:=xy d d4;omega,by rw[ah];omega,k B C H2 (N.more (by omega)) (v.trans j) (a0.trans l)⟩;obtain⟨g,_,rfl⟩:=aQ.1 bi;exact js z1 z2 d _
theorem uV{a:List (TK×V)}{k:TK}{v:V}{p:TK×V}(h:p∈dh a k v):p∈a∨p=(k,v):=by
 unfold dh at h;split at h
 ·obtain⟨q,f,rfl⟩:=aQ.1 h;split
  ·next e=>exact .inr (by rw[e])
  ·exact .inl f
 ·rcases bL.1 h with h|h
  ·exact .inl h
  ·exact .inr (dP.1 h)
theorem rA{H:Hp}{p u:Addr}{a:Zb}{d:Nat}(e:H p=some (.tup [.ref u,.int (d:Nat)]))(f:H u=some (.tup (a.map V.str))):cS H (qe a d) (.ref p):=by
 unfold qe cS;refine⟨p,_,rfl,e,?_⟩;unfold TKAts;refine⟨_,_,rfl,SignAt.tk f,?_⟩;unfold TKAts;refine⟨_,_,rfl,by unfold cS;rfl,by unfold TKAts;rfl⟩
section
variable{H0 H:Hp}{kd cd:Addr}{kv cv:List (TK×V)}{J0 J1 J2 J6:Zb}{ds:List ak}{n d:Nat}{w:V}
theorem dH.val(h:dH H0 H kd cd kv cv J0 J1 J2 ds n)(v:bb cv (qe J6 d)=some w):w=.int (cntM J0 J1 J2 ds d J6):=by
 obtain⟨f,e,q⟩:=h.cok _ (fR v);injection q with a g;obtain⟨rfl,rfl⟩:=ED a;exact g
theorem dH.put(h:dH H0 H kd cd kv cv J0 J1 J2 ds n)(i:H0 cd=none)(ne:kd≠cd):dH H0 (upd H cd (.dT (dh cv (qe J6 d) (.int (cntM J0 J1 J2 ds d J6))))) kd cd kv (dh cv (qe J6 d) (.int (cntM J0 J1 J2 ds d J6))) J0 J1 J2 ds (n+1):=by
 refine⟨⟨fun b o e=>by rw[ai (ae e i)];exact h.ks.same _ _ e,by rw[ai ne];exact h.ks.hkd,fun p a=>?_,Nat.le_succ_of_le h.ks.len⟩,h.ncd,aa,fun p a=>?_,aE (eV _ _ _) (ue h.clen)⟩
 ·obtain⟨g,d,f,e,j,k,r,st⟩:=h.ks.kok p a;exact⟨g,d,f,e,j,k,ie (fun o q=>by rw[ai (fun z=>h.ncd (eO g) (by rw[<-z,<-e];exact a))];exact q) r,st.kt (JY h.hcd)⟩
 ·rcases uV a with a|rfl
  ·exact h.cok p a
  ·exact⟨_,_,rfl⟩
end
theorem GR{K:Za}{Cm Ck B:Addr}(c:DC K B){D:Nat}{al:Sp}(d5:D<=4)(hO:∀m,D=m+1->al=jd K Cm Ck B m){C:List V}{H:Hp}{Q:VK}{E:XK}(h:iq Cm Ck B D C H Q E):sF K B (kq K Cm Ck B) al (bj Q) (start sX C) H:=by
 obtain⟨H0,x,sl,y,M,kd,s,us,v,kv,cv,n,d,J6,j,J1,J2,ds,rfl,hD,St,Dy,hv,L,G,hz,hn,k⟩:=h;obtain⟨dx,fs,g0,l1,l2,l3,l4⟩:=St.ob;have mo:=St.ks.mach.ok;have z1:=mo.asks4;have z2:=mo.says4;have one:cntM j J1 J2 ds d J6=1->Q (.int 1) H:=fun e=>by
  have:=k kv cv H (Dy.more (by omega)) (fun _ _ e _=>e) (.refl _);rw[e]at this;exact this
 refine⟨_,rfl,_,rfl,?_⟩;rcases hv with⟨rfl,rfl⟩|⟨u,rfl,hu⟩
 ·refine bP ?_;refine bP ?_;exact one (Bo _ _ _ _ _)
 have L:=L (by intro z;cases z);refine bA ?_;refine⟨_,rfl,rfl,_,rfl,?_⟩
 match d,hD,hn,k,one with
 |0,_,_,_,one =>
  refine bP ?_;exact one (by unfold cntM;rfl)
 |d+1,hD,hn,k,one =>
 rw[zzr0 (by intro z;injection z with z;omega)];refine bA ?_;obtain⟨m,rfl⟩:∃m,D=m+1:=⟨D-1,by omega⟩;cases hO m rfl;have eq:cntM j J1 J2 ds (d+1) J6=1+((kindsF j J1 J2 ds J6).map fun k=>gp (k.map fun sg=>cntM j J1 J2 ds d (behF J2 ds J6 sg))).sum:=by
  conv=>lhs;unfold cntM
  rw[if_neg L]
 have nb:nB (d+1)=7+25 * nB d:=rfl;have an:∀{g r:List (TK×V)}{H':Hp}{σ3:Option V},dH H0 H' kd s g r j J1 J2 ds (n+nB (d+1))->Kp H H'->Gr kv g->bb r (qe J6 (d+1))=some (.int (cntM j J1 J2 ds (d+1) J6))->(aW (im K (fN K V0 "known_counts") (bf (aX V1 V2)))) (bj Q) [some (.ref x),some (.ref u),some (.int ((d+1:Nat))),σ3] H':=by
  intro g r H' σ3 D' A a5 v';refine⟨_,rfl,x,B,dx,fs,.ref s,rfl,D'.ks.same _ _ g0,c.cls,c.a3,l3,_,rfl,_,rfl,(by show 2<=aj;decide),fun p hp=>?_⟩;have S:ab H' (upd H' p (.tup [.ref u,.int ((d+1:Nat))])):=ab.new hp;have tk:=rA (d:=d+1) (aa (H:=H') (a:=p)) (S _ _ (A _ _ hu rfl));refine⟨s,_,rfl,.inr ⟨_,qe J6 (d+1),p,.inl (S _ _ D'.hcd),rfl,cS.isIn 8 (eE _ _) tk,eE _ _,v'.symm⟩,k g r _ (D'.up S) (A.trans (ab.kp S)) a5⟩
 refine⟨_,rfl,_,rfl,(by show 2<=aj;decide),fun p hp=>?_⟩;have S:ab H (upd H p (.tup [.ref u,.int ((d+1:Nat))])):=ab.new hp;have tk:=rA (d:=d+1) (aa (H:=H) (a:=p)) (S _ _ hu);generalize upd H p (.tup [.ref u,.int ((d+1:Nat))])=H1 at S tk ⊢;have D1:=Dy.up S;refine⟨_,rfl,x,B,dx,fs,.ref s,rfl,D1.ks.same _ _ g0,c.cls,c.a3,l3,s,_,rfl,.inr ⟨_,qe J6 (d+1),p,.inl D1.hcd,rfl,cS.isIn 8 (eE _ _) tk,eE _ _,rfl⟩,_,rfl,?_⟩;cases I:bb cv (qe J6 (d+1))with
 |some w =>
  refine bA ?_;exact an (D1.more (by omega)) (ab.kp S) (.refl _) (by rw[I,Dy.val I])
 |none =>
  refine bP ?_;refine⟨_,rfl,x,dx,fs,rfl,D1.ks.same _ _ g0,l4 "kinds_at" (by decide +kernel) (by decide +kernel) (by decide +kernel),_,rfl,H0,x,sl,y,M,kd,s,u,us,kv,cv,n,J6,j,J1,J2,ds,rfl,St,D1,S _ _ hu,G,hz,by omega,fun l ks ap H2 hl hK D2 as a6=>⟨l,rfl,⟨_,aw.of hl⟩,fun f hf=>?_⟩⟩;have u2:=as _ _ (S _ _ hu) rfl;have kl:=w6 (J1:=J1) (J2:=J2) (ds:=ds) (J6:=J6) z1
  let a7:Nat->List V->Hp->Prop:=fun i C H'=>Ij fun(g r:List (TK×V))=>JK (C=(((kindsF j J1 J2 ds J6).take i).map fun k=>gp (k.map fun sg=>cntM j J1 J2 ds d (behF J2 ds J6 sg))).map V.int) (H' f=some (.lst C)) (Kp H2 H') (dH H0 H' kd s g r j J1 J2 ds (n+1+i * (1+5 * nB d))) (Gr ap g)
  refine bX (xs:=ks.map V.ref) a7
   ⟨ap,cv,rfl,aa,ab.kp (ab.new hf),(D2.up (ab.new hf)).more (by omega),.refl _⟩ (fun i C H' _ ⟨_,_,_,h',A,_,_⟩=>⟨h',aw.of (A _ _ hl rfl)⟩) ?_ ?_
  rotate_left
  ·rintro i C N w hw hi ⟨O,T,rfl,f3,t,D3,U⟩;obtain⟨q,hq,rfl⟩:=bY hw;obtain⟨aC,Y,a8⟩:=Paired.getL hK hq;have il:i<(kindsF j J1 J2 ds J6).length:=(bM.1 Y).1;obtain⟨e1,e2⟩:=rj (bT Y);have bn:(i+1) * (1+5 * nB d)=i * (1+5 * nB d)+(1+5 * nB d):=gA _ _;have bm:(i+1) * (1+5 * nB d)<=5 * (1+5 * nB d):=c_ _ (by omega);refine gN (pc ?_);refine⟨_,rfl,x,dx,fs,rfl,D3.ks.same _ _ g0,l4 "count_of" (by decide +kernel) (by decide +kernel) (by decide +kernel),_,rfl,_,rfl,_,rfl,H0,x,sl,y,M,kd,s,u,q,us,O,T,_,d,aC,J6,j,J1,J2,ds,rfl,by omega,by omega,St,D3,t _ _ u2 rfl,G,hz,a8.kp t,e2,by omega,by omega,fun a9 bc H4 D4 a0 bd=>?_⟩;have f4:=a0 _ _ f3 rfl;refine⟨f4,?_,mF hi ⟨a9,bc,?_,aa,?_,?_,U.trans bd⟩⟩
   ·rw[ah,ah,aI];exact ao (by omega)
   ·rw[take_snoc Y,av,av];rfl
   ·exact fun b o e no=>by rw[ai (ae e hf)];exact a0 _ _ (t _ _ e no) no
   ·exact(D4.more (m:=n+1+(i+1) * (1+5 * nB d)) (by omega)).cell (D2.ks.same.free hf) f4
  ·rintro C N ⟨O,T,rfl,f3,t,D3,U⟩;rw[ah,Paired.length hK,be]at f3;rw[ah,Paired.length hK]at D3;have m5:(kindsF j J1 J2 ds J6).length * (1+5 * nB d)<=5 * (1+5 * nB d):=c_ _ kl;have bi:dH H0 N kd s O T j J1 J2 ds (n+6+25 * nB d):=D3.more (by omega);have J:Kp H N:=(ab.kp S).trans (as.trans t);refine⟨_,rfl,f,_,rfl,aw.of f3,_,_,rfl,rfl,_,rfl,x,B,dx,fs,.ref s,rfl,D3.ks.same _ _ g0,c.cls,c.a3,l3,_,rfl,_,rfl,(by show 2<=aj;decide),fun p2 bl=>?_⟩;have S4:ab N (upd N p2 (.tup [.ref u,.int ((d+1:Nat))])):=ab.new bl;have a4:=rA (d:=d+1) (aa (H:=N) (a:=p2)) (S4 _ _ (J _ _ hu rfl));generalize upd N p2 (.tup [.ref u,.int ((d+1:Nat))])=H4 at S4 a4 ⊢;have D4:=bi.up S4;have cl:=D4.clen;refine⟨s,_,rfl,.inr ⟨_,qe J6 (d+1),p2,D4.hcd,rfl,a4,eE _ _,by rw[rR];omega,rfl⟩,?_⟩;dsimp only;rw[<-eq];have D5:=D4.put (J6:=J6) (d:=d+1) St.cdn St.ne;refine an (D5.more (by omega)) ((J.trans (ab.kp S4)).trans (Kp.upd D4.hcd rfl)) (a6.trans U) ?_;rw[ik,if_pos rfl]
def pX(H:Hp)(a:Addr):Hp:=fun b=>if b=a then none else H b
theorem rm(H:Hp)(a:Addr):pX H a a=none:=if_pos rfl
theorem lq{H:Hp}{a b:Addr}(h:b≠a):pX H a b=H b:=if_neg h
theorem xb{H:Hp}{a:Addr}:ab (pX H a) H:=fun b o e=>by
 by_cases c:b=a
 ·rw[c,rm]at e;cases e
 ·rw[lq c]at e;exact e
theorem Eu{f H:Hp}{a:Addr}(S:ab f H)(h:f a=none):ab f (pX H a):=fun b o e=>by rw[lq (ae e h)];exact S _ _ e
inductive mY(Cm Ck Cd:Addr)(vs:List V)(H:Hp)(Q:VK)(E:XK):Prop
 |mk (H0:Hp) (x dx M:Addr) (J0 J1 J2:Zb) (ds:List ak):(vs=[.ref x,.ref M])->(H x=some (.ins Cd dx []))->(bU Cm H0 M J0 J1 J2 ds)->(H0 x=none)->(ab H0 H) ->
  (∀(Hs:Hp) (sl y kd cd:Addr) (us:Ze) (H':Hp),vD Cm Ck Cd Hs x sl y M kd cd us J0 J1 J2 ds->dH Hs H' kd cd [] [] J0 J1 J2 ds 0->ab H0 Hs->Q .non H')->mY Cm Ck Cd vs H Q E
theorem Fe{K:Za}{Cm t v:Addr}(c:DC K v){vs:List V}{H:Hp}{Q:VK}{E:XK}(h:mY Cm t v vs H Q E):sG K t (ky t) Cm (mV Cm) (bj Q) (start sY vs) H:=by
 obtain⟨H0,x,Y,M,J0,J1,J2,ds,rfl,hx,MA,al,S0,k⟩:=h;have up:∀{H1 H2:Hp}{o:HO},ab H0 H1->H2=upd H1 x o->ab H0 H2:=fun S e b o q=>by rw[e,ai (ae q al)];exact S _ _ q
 have z2:=MA.ok.says4;have M0:=MA.same S0;obtain⟨dm,fm,o1,o2,lv,bw,g1,a1,a2,_⟩:=uA M0;refine⟨_,rfl,M,dm,fm,rfl,g1,a2,M,J0,J1,J2,ds,rfl,M0,fun w hw=>⟨w,rfl,⟨_,aw.of aa⟩,fun A an=>?_⟩⟩;have Sw:ab H (upd H w (.lst (J1.map V.str))):=ab.new hw;refine lC (kd:="say") (ws:=J1) aa (by omega) an fun us H2 h2 ap S2=>?_;have B:=Sw.trans S2;refine⟨_,rfl,x,v,Y,[],rfl,B _ _ hx,c.cls,c.a1,(by decide),?_⟩;obtain⟨u,e3,j,X3⟩:=mK "says_signs" (.ref A) (B _ _ hx);rw[<-e3];have S3:=up (S0.trans B) e3;have bn:(cP ("says_signs":Str) (.ref A) []).length<=1:=di _ _ _;have p:A≠x:=fun z=>by rw[z]at h2;rw[B _ _ hx]at h2;cases h2
 have as:=X3 _ _ h2 p;have aC:gv H2 u:=fun b xs e=>X3 _ _ e fun z=>by rw[z,B _ _ hx]at e;cases e
 have a0:=j7.kt aC ap;refine⟨_,rfl,fun y r hy a4 bz=>?_⟩;have S4:ab u (upd (upd u r (.own y)) y (.ins t r [])):=fun b o e=>by rw[ai (ae e hy)];exact kp e a4
 generalize a5:upd (upd u r (.own y)) y (.ins t r [])=H4 at S4 ⊢;have y4:H4 y=some (.ins t r []):=by rw[<-a5];exact aa
 refine⟨y,r,M,rfl,y4,fun kd fy H5 y5 m1 m2 m3 a6 C a7=>⟨rfl,?_⟩⟩;have n3:∀{b:Addr}{o:HO},u b=some o->H5 b=some o:=fun e=>a7 _ _ (S4 _ _ e) (ae e hy);have D:=n3 j;refine⟨_,rfl,x,v,Y,_,rfl,D,c.cls,c.a2,by omega,?_⟩;obtain⟨G,e6,l,X6⟩:=mK "known_steps" (.ref y) D;rw[<-e6];have S6:ab H0 G:=up (fun b o e=>n3 (S3 _ _ e)) e6;have bu:=di ("known_steps":Str) (.ref y) (cP ("says_signs":Str) (.ref A) []);have I:y≠x:=(ae j hy).symm;have s:kd≠x:=(ae (S4 _ _ j) C).symm;have y6:=X6 _ _ y5 I;have m:=X6 _ _ a6 s;have J:=X6 _ _ (n3 as) p;have a8:gv u G:=fun b xs e=>X6 _ _ (n3 e) fun z=>by rw[z,j]at e;cases e
 have a9:=j7.kt a8 a0;have bc:H0 kd=none:=(S3.trans S4).free C;refine fun g a=>⟨_,rfl,x,v,Y,_,rfl,kp l a,c.cls,c.a3,by omega,?_⟩;obtain⟨i,e8,bd,X8⟩:=mK "known_counts" (.ref g) (kp (x:=.dT []) l a);rw[<-e8];have S8:ab H0 i:=up (S6.trans (ab.new a)) e8;have L:g≠x:=(ae l a).symm;have bi:=X8 _ _ aa L;have n8:∀{b:Addr}{o:HO},G b=some o->b≠x->i b=some o:=fun e n=>X8 _ _ (kp e a) n;have bl:H0 g=none:=S6.free a;have N:kd≠g:=ae m a;have bm:gv G (pX (pX i kd) g):=fun b xs e=>by
  rw[lq (ae e a),lq (fun z=>by rw[z,m]at e;cases e)];exact n8 e fun z=>by rw[z,l]at e;cases e
 have nd:∀{b:Addr}{o:HO},i b=some o->b≠kd->b≠g->pX (pX i kd) g b=some o:=fun e n1 n2=>by rw[lq n2,lq n1];exact e
 have O:∀{b:Addr}{o:HO},G b=some o->KS o=true->b≠kd/\b≠g:=fun e n=>⟨fun z=>(by rw[z,m]at e;cases e;cases n),ae e a⟩;have SH:ab H0 (pX (pX i kd) g):=Eu (Eu S8 bc) bl;have SS:ab (pX (pX i kd) g) i:=xb.trans xb;refine k (pX (pX i kd) g) A y kd g us i ⟨⟨MA.same SH,⟨r,fy,?_,m1,m2,m3⟩,?_⟩,⟨Y,_,nd bd s.symm L.symm,?_,?_,?_,?_⟩,?_,j7.kt bm a9,rm _ _,N⟩ ⟨⟨SS,n8 m s,fun _ h=>(by cases h),aB _⟩,fun _ h=>(by cases h),bi,fun _ h=>(by cases h),aB _⟩ SH
 ·obtain⟨T,U⟩:=O y6 rfl;exact nd (n8 y6 I) T U
 ·rw[lq N];exact rm _ _
 ·show fI _ _=_;repeat (rw[aV];first|rw[if_pos rfl] | rw[if_neg (by decide +kernel)])
 ·show fI _ _=_;repeat (rw[aV];first|rw[if_pos rfl] | rw[if_neg (by decide +kernel)])
 ·show fI _ _=_;repeat (rw[aV];first|rw[if_pos rfl] | rw[if_neg (by decide +kernel)])
 ·intro f T U q3;show fI _ _=_;rw[aV,if_neg q3,aV,if_neg U,aV,if_neg T];rfl
 ·obtain⟨T,U⟩:=O J rfl;exact nd (n8 J p) T U
open Classical in
theorem Bq{a:Zb}{ds:List ak}(h:a≠[]):closF a ds (a.take 1)≠[]:=by
 cases a with
 |nil=>exact absurd rfl h
 |cons r e =>
  intro z;have:r∈closF (r::e) ds ((r::e).take 1):=fQ.2 ⟨cU,zzr1 ⟨r,by simp,.inl rfl⟩⟩;rw[z]at this;cases this
theorem Bm{K:Za}{v:List Nat}{σ:L2.St}{H:Hp}{a n l:Addr}{g F:Zb}{Q:Hp->Prop}(e:dE 1 v σ=[none,some (.ref n)])(z:H a=some (.lst (g.map V.str)))(p:H n=some (.lst (F.map V.str)))(B:g.length<=1000)(w:H l=none)
  (k:∀f,f l=some (.lst ((g.filter fun r=>decide (r∈F)).map V.str))->ab H f->Q f) :
  em 1 v σ (Io K a) U0 (aU (aH (pL K false) V0 V1)) V0 H l Q:=by
 let s:Nat->List V->Hp->Prop:=fun i h f=>h=((g.take i).filter fun r=>decide (r∈F)).map V.str/\ab H f/\f l=some (.lst h)
 refine bX (xs:=g.map V.str) s ⟨rfl,ab.new w,aa⟩ (fun i h f _ ⟨_,S,A⟩=>⟨A,aw.of (S _ _ z)⟩) ?_ ?_
 ·rintro h f ⟨rfl,S,j⟩;rw[ah,be]at j;exact k f j S
 ·rintro i h f C t x ⟨rfl,S,j⟩;obtain⟨r,y,rfl⟩:=bH t;rw[e];refine gN ?_;refine⟨_,rfl,_,rfl,gu r,F.map gu,n,_,nR r,rfl,.inl (aw.of (S _ _ p)),lA _,(by show 0<=8;decide),by rw[eX];decide,_,rfl,?_⟩;rw[if_neg iP,tG];have m:(((g.take i).filter fun r=>decide (r∈F)).map V.str).length<aj:=by
   rw[ah];refine ao (aE (cO _ _) ?_);rw[aI];omega
  refine iS (fun u=>?_) (fun u=>?_)
  ·refine⟨_,rfl,j,m,mF x ⟨?_,?_,aa⟩⟩
   ·rw[cr y,if_pos u,av];rfl
   ·intro b o q;rw[ai (ae q w)];exact S _ _ q
  ·refine mF x ⟨?_,S,j⟩;rw[cr y,if_neg u,dJ]
theorem IZ{K:Za}{e:List V}{H:Hp}{Q:VK}{E:XK}(h:qZ K e H Q E):vR K (dL K) (bj Q) (start wx e) H:=by
 obtain⟨t,ft,s,l1,l2,l3,l4,O,J0,J1,J2,v,x,l,rfl,T,m,as,hs,hz,k⟩:=h;have z3:=m.rooms26;have z4:=m.few;refine⟨_,rfl,t,_,rfl,bQ.of T.t,rfl,_,_,rfl,_,_,rfl,_,_,rfl,_,_,rfl,rfl,?_⟩;refine⟨_,rfl,(by show 1<=aj;decide),fun hh U=>⟨iB x,iB cA,aZ (bQ.same (ab.new U) hs),aZ (bQ.of aa),by rw[bJ];decide,by rw[bJ];decide,_,rfl,?_⟩⟩;rw[fE];have M:ab H (upd H hh (.tup [.str "hush"])):=ab.new U;generalize upd H hh (.tup [.str "hush"])=H1 at M ⊢;have I:=T.same M;have Y:=M _ _ as;have aC:=bQ.same M hs;by_cases c:x=cA
 ·rw[zzr1 c];refine bP ?_;refine⟨_,rfl,l4,rfl,⟨_,aw.of I.a4⟩,fun f hf=>?_⟩
  let a0:Nat->List V->Hp->Prop:=fun i e H'=>e=(gO (l.take i)).map V.str/\ab H1 H'/\H' f=some (.lst e)
  refine bX (xs:=O.map V.ref) a0 ⟨rfl,ab.new hf,aa⟩ (fun i e H' _ ⟨_,S,h'⟩=>⟨h',aw.of (S _ _ I.a4)⟩) ?_ ?_;rotate_left
  ·rintro i e H' x' y J ⟨rfl,S,A⟩;obtain⟨N,B,rfl⟩:=bY y;obtain⟨w,n,a5⟩:=Paired.getL I.ds B;obtain⟨s',p,C⟩:=a5.kt (ab.kt S);obtain⟨s0,bc,a6,ea⟩:=wP (m.good w (bT n));unfold SignAt at C;rw[a6]at C;refine gN ?_;refine⟨_,rfl,N,_,1,_,rfl,rfl,bQ.of p,rfl,s',_,0,.str s0,rfl,rfl,bQ.of C,ca (j:=0) rfl,rfl,_,rfl,?_⟩;rw[ea];refine iS (fun L=>?_) (fun L=>?_)
   ·refine⟨_,rfl,N,_,0,_,rfl,rfl,bQ.of p,rfl,A,?_,mF J ⟨?_,?_,aa⟩⟩
    ·rw[ah];unfold gO;rw[ah];refine ao (aE (cO _ _) ?_);rw[aI];omega
    ·rw[wV n,if_pos L,av];rfl
    ·intro b o q;rw[ai (ae q hf)];exact S _ _ q
   ·refine mF J ⟨?_,S,A⟩;rw[wV n,if_neg L,dJ]
  rintro e H2 ⟨rfl,S2,f2⟩;rw[ah,Paired.length I.ds,be]at f2;have al:=S2 _ _ Y;refine⟨_,rfl,ft,rfl,⟨_,bQ.of al⟩,fun g hg=>?_⟩
  let a7:Nat->List V->Hp->Prop:=fun i e H'=>e=((v.take i).filter fun r=>decide (r∉gO l)).map V.str/\ab H2 H'/\H' g=some (.lst e)
  refine vi (xs:=v.map V.str) a7 ⟨rfl,ab.new hg,aa⟩ (fun i e H' _ ⟨_,S,h'⟩=>⟨h',bQ.of (S _ _ al)⟩) ?_ ?_
  ·rintro e H' ⟨rfl,S,A⟩;rw[ah,be]at A;refine⟨g,_,rfl,.inl ⟨aw.of A,fun N B=>k N _ ?_ (((M.trans S2).trans S).trans (ab.new B))⟩⟩;rw[aa];unfold behF;rw[if_pos c]
  ·rintro i e H' x' y J ⟨rfl,S,A⟩;obtain⟨r,hr,rfl⟩:=bH y;refine gN ?_;refine⟨_,rfl,_,rfl,gu r,(gO l).map gu,f,_,nR r,rfl,.inl (aw.of (S _ _ f2)),lA _,(by show 0<=8;decide),by rw[eX];decide,_,rfl,?_⟩;rw[if_pos rfl,tG];have ed:(!decide (r∈gO l))=decide (r∉gO l):=by simp
   rw[ed];have an:(((v.take i).filter fun r=>decide (r∉gO l)).map V.str).length<aj:=by
    rw[ah];refine ao (aE (cO _ _) ?_);rw[aI];omega
   refine iS (fun L=>?_) (fun L=>?_)
   ·refine⟨_,rfl,A,an,mF J ⟨?_,?_,aa⟩⟩
    ·rw[cr hr,if_pos L,av];rfl
    ·intro b o q;rw[ai (ae q hg)];exact S _ _ q
   ·refine mF J ⟨?_,S,A⟩;rw[cr hr,if_neg L,dJ]
 ·rw[zzr0 c];refine bA ?_;refine⟨_,rfl,_,rfl,l4,rfl,⟨_,aw.of I.a4⟩,fun f hf=>?_⟩
  let a8:Nat->List V->Hp->Prop:=fun i e H'=>∃G:List Str,e=G.map V.str/\ab H1 H'/\H' f=some (.lst e)/\G.length<=i/\∀g,g∈G↔∃d∈l.take i,d.a∈v/\d.sg=x/\d.b=g
  refine bX (xs:=O.map V.ref) a8
   ⟨[],rfl,ab.new hf,aa,aB _,fun g=>⟨fun h=>(by cases h),fun⟨_,h,_⟩=>by simp at h⟩⟩ (fun i e H' _ ⟨_,_,S,h',_⟩=>⟨h',aw.of (S _ _ I.a4)⟩) ?_ ?_
  rotate_left
  ·rintro i e H' x' y J ⟨G,rfl,S,A,hl,hG⟩;obtain⟨u,hu,rfl⟩:=bY y;obtain⟨w,n,ap⟩:=Paired.getL I.ds hu;obtain⟨sb,p,C⟩:=ap.kt (ab.kt S);have bd:i<l.length:=(bM.mp n).1;have D:∀g,(∃d∈l.take (i+1),d.a∈v/\d.sg=x/\d.b=g)↔((∃d∈l.take i,d.a∈v/\d.sg=x/\d.b=g)∨(w.a∈v/\w.sg=x/\w.b=g)):=by
    intro g;rw[take_snoc n];simp only[bL,dP,or_and_right,exists_or,exists_eq_left]
   have keep:¬(w.a∈v/\w.sg=x)->∃m',m'<(O.map V.ref).length-i/\Wc (O.map V.ref).length (fun i e H'=>∃G:List Str,e=G.map V.str/\ab H1 H'/\H' f=some (.lst e)/\G.length<=i/\∀g,g∈G↔∃d∈l.take i,d.a∈v/\d.sg=x/\d.b=g) (i+1) m' (G.map V.str) H':=by
    intro z;refine mF J ⟨G,rfl,S,A,by omega,fun g=>?_⟩;rw[D,hG];exact⟨.inl,fun h=>h.elim id fun h=>absurd ⟨h.1,h.2.1⟩ z⟩
   refine gN ?_;refine⟨_,rfl,u,_,0,_,rfl,rfl,bQ.of p,rfl,_,rfl,gu w.a,v.map gu,ft,_,nR _,rfl,.inr (bQ.of (S _ _ Y)),lA _,(by show 0<=8;decide),by rw[eX];decide,_,rfl,?_⟩;rw[if_neg iP,tG];by_cases c1:w.a∈v;rotate_left
   ·rw[zzr0 c1];exact bA (bA (keep fun z=>c1 z.1))
   rw[zzr1 c1];refine bP ?_;refine⟨_,rfl,u,_,1,_,rfl,rfl,bQ.of p,rfl,_,rfl,iB w.sg,iB x,aZ (bQ.of C),aZ (bQ.same S aC),by rw[bJ];decide,by rw[bJ];decide,_,rfl,?_⟩;rw[fE];by_cases c2:w.sg=x;rotate_left
   ·rw[zzr0 c2];exact bA (keep fun z=>c2 z.2)
   rw[zzr1 c2];refine bP ?_;refine⟨_,rfl,u,_,2,_,rfl,rfl,bQ.of p,rfl,A,by rw[ah];exact ao (by omega),mF J ⟨G++[w.b],by rw[av];rfl,?_,aa,by rw[a_];show G.length+1<=i+1;omega,fun g=>?_⟩⟩
   ·intro b o q;rw[ai (ae q hf)];exact S _ _ q
   ·rw[D,<-hG,bL];simp only[dP];exact⟨fun h=>h.imp id fun h=>⟨c1,c2,h.symm⟩,fun h=>h.imp id fun h=>h.2.2.symm⟩
  rintro e H2 ⟨G,rfl,S2,f2,hl,hG⟩;rw[ah,Paired.length T.ds]at hl;rw[ah,Paired.length T.ds,be]at hG;have T2:=I.same S2;refine⟨l4,f,O,l,G,J2,rfl,T2.a4,T2.ds,f2,fun d hd=>(m.good d hd).b,by omega,by omega,fun th F H3 a9 hF bi fr S3=>?_⟩;have T3:=T2.same S3;refine⟨_,rfl,l3,rfl,⟨_,aw.of T3.a3⟩,fun g hg=>?_⟩;refine Bm rfl T3.a3 a9 (by omega) hg fun H4 h4 S4=>?_;refine⟨g,_,rfl,.inl ⟨aw.of h4,fun N B=>k N _ ?_ ((((M.trans S2).trans S3).trans S4).trans (ab.new B))⟩⟩;rw[aa,mN hF];unfold behF;rw[if_neg c]
  suffices e0:closF J2 l G=closF J2 l (dD l x v) by rw[e0]
  refine Bp fun g=>?_;rw[hG,pT];constructor
  ·rintro⟨⟨a,bl,b⟩,hd,h1,h2,h3⟩;simp only at h1 h2 h3;subst h2 h3;exact⟨a,h1,hd⟩
  ·rintro⟨r,hr,h⟩;exact⟨_,h,hr,rfl,rfl⟩
inductive pF(vs:List V)(H:Hp)(Q:VK)(E:XK):Prop
 |mk (t l1 l2 l3 l4:Addr) (ts:Ze) (J0 J1 J2:Zb) (ds:List ak):(vs=[.ref t])->(gR H t l1 l2 l3 l4 ts J0 J1 J2 ds)->(aP J0 J1 J2 ds)->(∀(t':Addr) (H':Hp),H' t'=some (.tup ((closF J2 ds (J2.take 1)).map V.str))->ab H H'->Q (.ref t') H')->pF vs H Q E
theorem GS{K:Za}{u:List V}{H:Hp}{Q:VK}{E:XK}(h:pF u H Q E):Au K (dL K) (bj Q) (start BF u) H:=by
 obtain⟨t,U,Y,v,z,A,J0,J1,i,B,rfl,T,m,k⟩:=h;have z3:=m.rooms26;obtain⟨f,w,e⟩:∃f w,i=f::w:=by
  cases e:i with
  |nil=>exact absurd e m.rooms0
  |cons a b=>exact⟨a,b,rfl⟩
 have n:xz (i.map V.str) 0=some (.str f):=by rw[e];exact ca (j:=0) rfl
 have C:i.take 1=[f]:=by rw[e];rfl
 refine⟨_,rfl,.inr (.inl ⟨t,_,3,_,rfl,rfl,bQ.of T.t,rfl,_,rfl,.inr (.inl ⟨t,_,2,_,rfl,rfl,bQ.of T.t,rfl,.inl ⟨v,_,0,_,rfl,rfl,aw.of T.a3,n,(by show 1<=aj;decide),fun l D=>?_⟩⟩)⟩)⟩;have o:ab H (upd H l (.lst [.str f])):=ab.new D;have x:upd H l (.lst [.str f]) l=some (.lst ([f].map V.str)):=aa;generalize upd H l (.lst [.str f])=H1 at o x ⊢;have p:=T.same o;refine⟨z,l,A,B,[f],i,rfl,p.a4,p.ds,x,fun d G=>(m.good d G).b,by omega,by show 1<=1000;decide,fun th F H2 q I J fr y=>?_⟩;have r:=p.same y;refine⟨_,rfl,.inr (.inl ⟨t,_,2,_,rfl,rfl,bQ.of r.t,rfl,v,rfl,⟨_,aw.of r.a3⟩,fun g L=>?_⟩)⟩;refine Bm rfl r.a3 q (by omega) L fun H4 M N=>?_;refine⟨g,_,rfl,.inl ⟨aw.of M,fun O s=>k O _ ?_ (((o.trans y).trans N).trans (ab.new s))⟩⟩;rw[aa,mN I,C]
def oz(K:Za)(C_KnownSteps:Addr)(sp_KnownSteps_init:Sp)(C_Made:Addr)(sp_Made_init:Sp):TS :=
 aq (lY K V0 (uu C_Made sp_Made_init [] E0 (ay V1)) "made")
 (aq (lY K V0 (uu C_KnownSteps sp_KnownSteps_init [] E0 (ay V2)) "own_steps")
 (aq (lY K V0 (kY) "known_harmless")
 (lY K V0 (kY) "known_firsts")))
def oX:List Str:=["self","M","I"]
def qR(K:Za)(C_KnownSteps:Addr)(sp_KnownSteps_steps_from:Sp)(C_Made:Addr)(sp_Made_steps_from:Sp):TS :=
 aq (aM (cn C_Made "steps_from" sp_Made_steps_from [] E0 (fN K V0 "made") (ay V1)) U4)
 (aq (aM (cn C_KnownSteps "steps_from" sp_KnownSteps_steps_from [] E0 (fN K V0 "own_steps") (ay V2)) U5)
 (aW (cG 1 [4,5] (bN K V3) U0 (iH) (bf (aX (yW K V1 V0) (yW K V2 V0))))))
def rJ:List Str:=["self","face","mine","signs","steps","own"]
def nI:Option Str->V
 |none=>.non
 |some a=>.str a
def aR(J1:Zb):Option Str->List Sg
 |none=>J1.map gG++[cA]
 |some a=>b0 a::J1.map gG
inductive jc(vs:List V)(H:Hp)(Q:VK)(E:XK):Prop
 |mk (t l1 l2 l3 l4:Addr) (ts:Ze) (ask:Option Str) (J0 J1 J2:Zb) (ds:List ak):(vs=[.ref t,nI ask])->(gR H t l1 l2 l3 l4 ts J0 J1 J2 ds)->(J1.length<=4)->(∀(l:Addr) (us:Ze) (H':Hp),H' l=some (.lst (us.map V.ref))->j7 H' us (aR J1 ask)->ab H H'->Q (.ref l) H')->jc vs H Q E
theorem GK{K:Za}{y:List V}{H:Hp}{Q:VK}{E:XK}(h:jc y H Q E):qN K (bj Q) (start rE y) H:=by
 obtain⟨t,I,B,J,L,M,ask,N,C,O,U,rfl,T,D,k⟩:=h;refine⟨_,rfl,.inr (.inl ⟨t,_,1,_,rfl,rfl,bQ.of T.t,rfl,B,rfl,⟨_,aw.of T.a2⟩,fun v w=>?_⟩)⟩;refine lC (kd:="say") (ws:=C) T.a2 (by omega) w fun p g z x A=>?_;have Y:p.length<=4:=by rw[Paired.length x,ah];exact D
 refine⟨_,rfl,_,rfl,?_⟩;cases ask with
 |none =>
  refine bP ⟨_,rfl,(by show 1<=aj;decide),fun e n=>⟨(by show 1<=aj;decide),fun f i=>?_⟩⟩;have l:ab g (upd (upd g e (.tup [.str "hush"])) f (.lst [.ref e])):=(ab.new n).trans (ab.new i);have j:upd (upd g e (.tup [.str "hush"])) f (.lst [.ref e]) e=some (.tup (cA.map V.str)):=kp aa i;have m:upd (upd g e (.tup [.str "hush"])) f (.lst [.ref e]) f=some (.lst [.ref e]):=aa;generalize upd (upd g e (.tup [.str "hush"])) f (.lst [.ref e])=q at l j m ⊢;refine⟨v,f,_,_,rfl,rfl,l _ _ z,m,by rw[ah];exact cT (ao (by show _+1<=1000;omega)),fun r s=>?_⟩;have o:ab q (upd q r (.lst (p.map V.ref++[.ref e]))):=ab.new s;exact k r (p++[e]) _ (by rw[aa,av];rfl) (Paired.app (j7.kt (ab.kt (l.trans o)) x) (.cons (o _ _ j) .nil)) ((A.trans l).trans o)
 |some a =>
  refine bA ⟨_,rfl,(by show 2<=aj;decide),fun e n=>⟨(by show 1<=aj;decide),fun f i=>?_⟩⟩;have l:ab g (upd (upd g e (.tup [.str "ask",.str a])) f (.lst [.ref e])):=(ab.new n).trans (ab.new i);have j:upd (upd g e (.tup [.str "ask",.str a])) f (.lst [.ref e]) e=some (.tup ((b0 a).map V.str)):=kp aa i;have m:upd (upd g e (.tup [.str "ask",.str a])) f (.lst [.ref e]) f=some (.lst [.ref e]):=aa;generalize u:upd (upd g e (.tup [.str "ask",.str a])) f (.lst [.ref e])=q at l j m;have G:=l;refine⟨_,rfl,f,v,_,_,rfl,rfl,(by show upd (upd g e (.tup [.str "ask",.str a])) f (.lst [.ref e]) f=_;exact aa),(by show upd (upd g e (.tup [.str "ask",.str a])) f (.lst [.ref e]) v=_;rw[u];exact l _ _ z),by rw[ah];exact cT (ao (by show 1+_<=1000;omega)),fun r s=>?_⟩
  change upd (upd g e (.tup [.str "ask",.str a])) f (.lst [.ref e]) r=none at s
  show Q (.ref r) (upd (upd (upd g e (.tup [.str "ask",.str a])) f (.lst [.ref e])) r (.lst ([.ref e]++p.map V.ref)));rw[u]at s ⊢;have o:ab q (upd q r (.lst ([.ref e]++p.map V.ref))):=ab.new s;exact k r (e::p) _ aa (.cons (o _ _ j) (j7.kt (ab.kt (l.trans o)) x)) ((A.trans l).trans o)
def xB(J6:Zb)(sg:Sg):TK:=.t [eO J6,eO sg]
theorem JE{f g:Zb}{a b:Sg}(h:xB f a=xB g b):f=g/\a=b:=by
 unfold xB at h;injection h with h;injection h with i e;injection e with e _;exact⟨eK i,eK e⟩
theorem EH{f g:Zb}{a:Sg}{d:Nat}(h:xB f a=qe g d):False:=by
 unfold xB qe eO at h;injection h with h;injection h with i e;injection e with e _;cases e
theorem kK(f:Zb)(a:Sg):(xB f a).depth<=8:=by
 show max (eO f).depth (max (eO a).depth 0)+1<=8;rw[fk,fk];decide
theorem Dn{H:Hp}{p u s:Addr}{a:Zb}{e:Sg}(f:H p=some (.tup [.ref u,.ref s]))(g:H u=some (.tup (a.map V.str)))(h:H s=some (.tup (e.map V.str))):cS H (xB a e) (.ref p):=by
 unfold xB cS;refine⟨p,_,rfl,f,?_⟩;unfold TKAts;refine⟨_,_,rfl,SignAt.tk g,?_⟩;unfold TKAts;exact⟨_,_,rfl,SignAt.tk h,by unfold TKAts;rfl⟩
def JF(X:TK×V->Prop):Prop:=∀p,X p->(∀f s,p.1≠xB f s)/\∀f d,p.1≠qe f d
structure dj(X:TK×V->Prop)(H:Hp)(kd:Addr)(kv:List (TK×V))(J0 J1 J2:Zb)(ds:List ak)(n:Nat):Prop where
 hkd:H kd=some (.dT kv)
 kok:∀p∈kv,(∃(J6:Zb) (sg:Sg) (u:Addr),p=(xB J6 sg,.ref u)/\H u=some (.tup ((behF J2 ds J6 sg).map V.str)))∨(∃(J6:Zb) (d:Nat),p=(qe J6 d,.int (cntM J0 J1 J2 ds d J6)))∨X p
 len:kv.length<=n
section
variable{X:TK×V->Prop}{H H':Hp}{kd f:Addr}{kv:List (TK×V)}{J0 J1 J2 J6:Zb}{ds:List ak}{n m:Nat}
theorem dj.kt(h:dj X H kd kv J0 J1 J2 ds n)(e:H' kd=some (.dT kv))(k:gv H H'):dj X H' kd kv J0 J1 J2 ds n:=⟨e,fun p a=>(h.kok p a).imp (fun⟨f,s,u,e,q⟩=>⟨f,s,u,e,k _ _ q⟩) id,h.len⟩
theorem dj.up(h:dj X H kd kv J0 J1 J2 ds n)(S:ab H H'):dj X H' kd kv J0 J1 J2 ds n:=h.kt (S _ _ h.hkd) (ab.kt S)
theorem dj.more(h:dj X H kd kv J0 J1 J2 ds n)(l:n<=m):dj X H kd kv J0 J1 J2 ds m:=⟨h.hkd,h.kok,aE h.len l⟩
theorem dj.cell{e ys:List V}(h:dj X H kd kv J0 J1 J2 ds n)(a:H f=some (.lst e)):dj X (upd H f (.lst ys)) kd kv J0 J1 J2 ds n:=h.kt (by rw[ai (fun z=>by have:=h.hkd;rw[z,a]at this;cases this)];exact h.hkd) (eW a)
theorem dj.put{k:TK}{v:V}(h:dj X H kd kv J0 J1 J2 ds n)(q:(∃(J6:Zb) (g:Sg) (u:Addr),(k,v)=(xB J6 g,.ref u)/\H u=some (.tup ((behF J2 ds J6 g).map V.str)))∨(∃(J6:Zb) (d:Nat),(k,v)=(qe J6 d,.int (cntM J0 J1 J2 ds d J6)))∨X (k,v)):
  dj X (upd H kd (.dT (dh kv k v))) kd (dh kv k v) J0 J1 J2 ds (n+1):=by
 have kt:gv H (upd H kd (.dT (dh kv k v))):=JY h.hkd;refine⟨aa,fun p a=>?_,aE (eV _ _ _) (ue h.len)⟩;rcases uV a with a|rfl
 ·exact(h.kok p a).imp (fun⟨f,s,u,e,q⟩=>⟨f,s,u,e,kt _ _ q⟩) id
 ·exact q.imp (fun⟨f,s,u,e,q⟩=>⟨f,s,u,e,kt _ _ q⟩) id
theorem dj.val(i:JF X){a:Sg}{w:V}(h:dj X H kd kv J0 J1 J2 ds n)(v:bb kv (xB J6 a)=some w):∃u,w=.ref u/\H u=some (.tup ((behF J2 ds J6 a).map V.str)):=by
 rcases h.kok _ (fR v)with⟨f,s,u,e,q⟩|⟨f,d,e⟩|hx
 ·injection e with g j;obtain⟨rfl,rfl⟩:=JE g;exact⟨u,j,q⟩
 ·injection e with g _;exact(EH g).elim
 ·exact absurd rfl ((i _ hx).1 J6 a)
theorem dj.cnt(g:JF X){d:Nat}{w:V}(h:dj X H kd kv J0 J1 J2 ds n)(v:bb kv (qe J6 d)=some w):w=.int (cntM J0 J1 J2 ds d J6):=by
 rcases h.kok _ (fR v)with⟨f,s,u,e,q⟩|⟨f,j,e⟩|hx
 ·injection e with a _;exact(EH a.symm).elim
 ·injection e with a i;obtain⟨rfl,rfl⟩:=ED a;exact i
 ·exact absurd rfl ((g _ hx).2 J6 d)
end
theorem bC.sameH{p:Addr}{H0 H a:Hp}(S:ab H0 H)(h:H0 p=none)(e:bC p H a):ab H0 a:=fun b o q=>e b o (S b o q) (ae q h)
theorem ab.exBs{p:Addr}{H a:Hp}(S:ab H a):bC p H a:=fun b o e _=>S b o e
theorem bC.trs{p:Addr}{H f g:Hp}(a:bC p H f)(b:bC p f g):bC p H g:=fun c o e n=>b c o (a c o e n) n
theorem bC.ktd{p:Addr}{H a:Hp}{f:List (TK×V)}(h:H p=some (.dT f))(e:bC p H a):gv H a:=fun b g q=>e b _ q fun z=>by rw[z,h]at q;cases q
inductive je(K:Za)(vs:List V)(H:Hp)(Q:VK)(E:XK):Prop
 |mk (X:TK×V->Prop) (hX:JF X) (H0:Hp) (t l1 l2 l3 l4 kd fu su:Addr) (ts:Ze) (kv:List (TK×V)) (n:Nat) (sg:Sg) (J6 J0 J1 J2:Zb) (ds:List ak):(vs=[.ref t,.ref kd,.ref fu,.ref su])->(gR H0 t l1 l2 l3 l4 ts J0 J1 J2 ds)->(aP J0 J1 J2 ds)->(H0 kd=none)->(ab H0 H)->(dj X H kd kv J0 J1 J2 ds n)->(H fu=some (.tup (J6.map V.str)))->(H su=some (.tup (sg.map V.str)))->(J6.length<=1000)->(n<=8000000) ->
  (∀(u:Addr) (kv':List (TK×V)) (H':Hp),H' u=some (.tup ((behF J2 ds J6 sg).map V.str))->dj X H' kd kv' J0 J1 J2 ds (n+1)->bC kd H H'->Q (.ref u) H')->je K vs H Q E
theorem GV{K:Za}{Y:List V}{H:Hp}{Q:VK}{E:XK}(h:je K Y H Q E):Aw K (qZ K) (bj Q) (start BH Y) H:=by
 obtain⟨X,hX,H0,t,l1,l2,l3,l4,x,l,q,ts,kv,n,f,g,J0,J1,M,N,rfl,T,m,h0,S0,D,B,C,hz,hn,k⟩:=h;have z:∀{i:List (TK×V)}{H':Hp}{u:Addr},dj X H' x i J0 J1 M N (n+1)->bC x H H'->bb i (xB g f)=some (.ref u)->H' u=some (.tup ((behF M N g f).map V.str))->(aW (im K V1 (bf (aX V2 V3)))) (bj Q) [some (.ref t),some (.ref x),some (.ref l),some (.ref q)] H':=by
  intro i H' u D' ex v' y;refine⟨_,rfl,_,rfl,_,rfl,(by show 2<=aj;decide),fun p O=>?_⟩;have S:ab H' (upd H' p (.tup [.ref l,.ref q])):=ab.new O;have kt:=bC.ktd D.hkd ex;have tk:=Dn (aa (H:=H') (a:=p)) (S _ _ (kt _ _ B)) (S _ _ (kt _ _ C));exact⟨x,_,rfl,.inr ⟨_,xB g f,p,.inl (S _ _ D'.hkd),rfl,cS.isIn 8 (kK _ _) tk,kK _ _,v'.symm⟩,k u i _ (S _ _ y) (D'.up S) (ex.trs (ab.exBs S))⟩
 refine⟨_,rfl,_,rfl,(by show 2<=aj;decide),fun p O=>?_⟩;have S:ab H (upd H p (.tup [.ref l,.ref q])):=ab.new O;have tk:=Dn (aa (H:=H) (a:=p)) (S _ _ B) (S _ _ C);generalize upd H p (.tup [.ref l,.ref q])=H1 at S tk ⊢;have G:=D.up S;refine⟨_,rfl,x,_,rfl,.inr ⟨_,xB g f,p,.inl G.hkd,rfl,cS.isIn 8 (kK _ _) tk,kK _ _,rfl⟩,_,rfl,?_⟩;cases j:bb kv (xB g f)with
 |some w =>
  obtain⟨u,rfl,y⟩:=G.val hX j;exact bA (z (G.more (by omega)) (ab.exBs S) j y)
 |none =>
  refine bP ?_;refine⟨_,rfl,_,rfl,_,rfl,t,l,q,l1,l2,l3,l4,ts,J0,J1,M,g,f,N,rfl,T.same (S0.trans S),m,S _ _ B,bQ.of (S _ _ C),hz,fun u I y S2=>?_⟩;refine⟨_,rfl,_,rfl,_,rfl,(by show 2<=aj;decide),fun J U=>?_⟩;have r:ab I (upd I J (.tup [.ref l,.ref q])):=ab.new U;have s:=S.trans S2;have A:=Dn (aa (H:=I) (a:=J)) (r _ _ (s _ _ B)) (r _ _ (s _ _ C));generalize upd I J (.tup [.ref l,.ref q])=H3 at r A ⊢;have L:=(G.up S2).up r;have cl:=L.len;refine⟨x,_,rfl,.inr ⟨_,xB g f,J,L.hkd,rfl,A,kK _ _,by rw[rR];omega,rfl⟩,?_⟩;have D4:=L.put (k:=xB g f) (v:=.ref u) (.inl ⟨g,f,u,rfl,r _ _ y⟩);exact z D4 ((ab.exBs (s.trans r)).trs fun b o e nb=>by rw[ai nb];exact e) (by rw[ik,if_pos rfl]) (JY L.hkd _ _ (r _ _ y))
def askedF(J0 J2:Zb)(ds:List ak)(J6:Zb):List Str:=J0.filter fun a=>decide (behF J2 ds J6 (b0 a)≠[])
inductive kA(K:Za)(vs:List V)(H:Hp)(Q:VK)(E:XK):Prop
 |mk (X:TK×V->Prop) (hX:JF X) (H0:Hp) (t l1 l2 l3 l4 kd fu:Addr) (ts:Ze) (kv:List (TK×V)) (n:Nat) (J6 J0 J1 J2:Zb) (ds:List ak):(vs=[.ref t,.ref kd,.ref fu])->(gR H0 t l1 l2 l3 l4 ts J0 J1 J2 ds)->(aP J0 J1 J2 ds)->(H0 kd=none)->(ab H0 H)->(dj X H kd kv J0 J1 J2 ds n)->(H fu=some (.tup (J6.map V.str)))->(J6.length<=1000)->(n+4<=8000000) ->
  (∀(l:Addr) (kv':List (TK×V)) (H':Hp),H' l=some (.lst ((askedF J0 J2 ds J6).map V.str))->dj X H' kd kv' J0 J1 J2 ds (n+4)->bC kd H H'->Q (.ref l) H')->kA K vs H Q E
theorem GU{K:Za}{f:List V}{H:Hp}{Q:VK}{E:XK}(h:kA K f H Q E):Av K (je K) (bj Q) (start BG f) H:=by
 obtain⟨X,hX,H0,t,O,l2,l3,l4,kd,fu,ts,kv,n,A,B,J1,r,w,rfl,T,m,h0,S0,D,hf,hz,hn,k⟩:=h;have z1:=m.asks4;have T':=T.same S0;have a1:=T'.a1;have n1:O≠kd:=fun z=>by have:=D.hkd;rw[<-z,a1]at this;cases this
 refine⟨_,rfl,.inr (.inl ⟨t,_,0,_,rfl,rfl,bQ.of T'.t,rfl,O,rfl,⟨_,aw.of a1⟩,fun l J=>?_⟩)⟩;have nl:l≠kd:=(ae D.hkd J).symm
 let U:Nat->List V->Hp->Prop:=fun i f x=>∃g:List (TK×V),f=((B.take i).filter fun a=>decide (behF r w A (b0 a)≠[])).map V.str/\x l=some (.lst f)/\dj X x kd g B J1 r w (n+i)/\bC kd H x
 refine bX (xs:=B.map V.str) U
  ⟨kv,rfl,aa,D.up (ab.new J),ab.exBs (ab.new J)⟩ (fun i f x _ ⟨_,_,L,_,ex⟩=>⟨L,aw.of (ex _ _ a1 n1)⟩) ?_ ?_
 ·rintro f x ⟨g,rfl,L,D',ex⟩;rw[ah,be]at L;rw[ah]at D';exact k l g x L (D'.more (by omega)) ex
 ·rintro i f M v hv hi ⟨Y,rfl,h1,D1,j⟩;obtain⟨a,ha,rfl⟩:=bH hv;have il:i<B.length:=(bM.1 ha).1;refine gN ?_;refine⟨_,rfl,_,rfl,_,rfl,_,rfl,(by show 2<=aj;decide),fun s hs=>?_⟩;have y:ab M (upd M s (.tup [.str "ask",.str a])):=ab.new hs;have s2:upd M s (.tup [.str "ask",.str a]) s=some (.tup ((b0 a).map V.str)):=aa;generalize upd M s (.tup [.str "ask",.str a])=H2 at y s2 ⊢;have al:=bC.ktd D.hkd j;refine⟨X,hX,H0,t,O,l2,l3,l4,kd,fu,s,ts,Y,n+i,b0 a,A,B,J1,r,w,rfl,T,m,h0,(bC.sameH S0 h0 j).trans y,D1.up y,y _ _ (al _ _ hf),s2,hz,by omega,fun u C H3 hu D3 G=>?_⟩;refine⟨(by show 0<=aj;decide),fun e he=>⟨iB (behF r w A (b0 a)),iB [],aZ (bQ.of (kp hu he)),aZ (bQ.of aa),by rw[bJ];decide,by rw[bJ];decide,_,rfl,?_⟩⟩;rw[fE];have N:ab H3 (upd H3 e (.tup [])):=ab.new he;generalize upd H3 e (.tup [])=H4 at N ⊢;have p:=N _ _ (G _ _ (y _ _ h1) nl);have D4:=D3.up N;have I:bC kd H H4:=(j.trs (ab.exBs y)).trs (G.trs (ab.exBs N));have ed:(!decide (behF r w A (b0 a)=[]))=decide (behF r w A (b0 a)≠[]):=by simp
  rw[ed];refine iS (fun hq=>?_) (fun hq=>?_)
  ·refine⟨_,rfl,p,?_,mF hi ⟨C,?_,aa,D4.cell p,fun b o q nb=>?_⟩⟩
   ·rw[ah];refine ao (aE (cO _ _) ?_);rw[aI];omega
   ·rw[cr ha,if_pos hq,av];rfl
   ·rw[ai (ae q J)];exact I _ _ q nb
  ·refine mF hi ⟨C,?_,p,D4,I⟩;rw[cr ha,if_neg hq,dJ]
def lB:Nat->Nat
 |0=>0
 |d+1=>30+25 * lB d
theorem jI(a e f:Zb)(g:List ak)(h:Zb):kindsF a e f g h=((askedF a f g h).map some++[none]).map (aR e):=by
 unfold kindsF askedF;rw[av,i3];rfl
inductive jC(K:Za)(D:Nat)(vs:List V)(H:Hp)(Q:VK)(E:XK):Prop
 |mk (X:TK×V->Prop) (hX:JF X) (H0:Hp) (t l1 l2 l3 l4 kd fu:Addr) (ts:Ze) (kv:List (TK×V)) (n d:Nat) (J6 J0 J1 J2:Zb) (ds:List ak):(vs=[.ref t,.ref kd,.ref fu,.int (d:Nat)])->(d<=D)->(gR H0 t l1 l2 l3 l4 ts J0 J1 J2 ds)->(aP J0 J1 J2 ds)->(H0 kd=none)->(ab H0 H)->(dj X H kd kv J0 J1 J2 ds n)->(H fu=some (.tup (J6.map V.str)))->(J6.length<=1000)->(n+lB d<=8000000) ->
  (∀(kv':List (TK×V)) (H':Hp),dj X H' kd kv' J0 J1 J2 ds (n+lB d)->bC kd H H'->Q (.int (cntM J0 J1 J2 ds d J6)) H')->jC K D vs H Q E
inductive io(K:Za)(D:Nat)(vs:List V)(H:Hp)(Q:VK)(E:XK):Prop
 |mk (X:TK×V->Prop) (hX:JF X) (H0:Hp) (t l1 l2 l3 l4 kd fu:Addr) (ts:Ze) (ask:Option Str) (kv:List (TK×V)) (n d:Nat) (J6 J0 J1 J2:Zb) (ds:List ak):(vs=[.ref t,.ref kd,.ref fu,nI ask,.int ((d+1:Nat))])->(d<=D)->(gR H0 t l1 l2 l3 l4 ts J0 J1 J2 ds)->(aP J0 J1 J2 ds)->(H0 kd=none)->(ab H0 H)->(dj X H kd kv J0 J1 J2 ds n)->(H fu=some (.tup (J6.map V.str)))->(J6.length<=1000)->(n+5 * (1+lB d)<=8000000) ->
  (∀(l:Addr) (kv':List (TK×V)) (H':Hp),H' l=some (.lst (((aR J1 ask).map fun sg=>cntM J0 J1 J2 ds d (behF J2 ds J6 sg)).map V.int))->dj X H' kd kv' J0 J1 J2 ds (n+5 * (1+lB d))->bC kd H H'->Q (.ref l) H')->io K D vs H Q E
theorem eD(e:Zb)(ask:Option Str):(aR e ask).length=e.length+1:=by
 cases ask with
 |none=>unfold aR;rw[a_,ah];rfl
 |some a=>unfold aR;rw[fO,ah]
theorem AJ{K:Za}{D:Nat}{vs:List V}{H:Hp}{Q:VK}{E:XK}(h:io K D vs H Q E):Aq K jc (jC K D) (je K) (bj Q) (start BB vs) H:=by
 obtain⟨X,hX,H0,t,l1,l2,l3,l4,q,fu,ts,ask,kv,n,d,J6,B,j,r,w,rfl,hD,T,m,N,S0,Dy,hf,hz,hn,k⟩:=h;have z2:=m.says4;have z3:=m.rooms26;refine⟨(by show 0<=aj;decide),fun l O=>?_⟩;have S1:ab H (upd H l (.lst [])):=ab.new O;have nl:l≠q:=(ae Dy.hkd O).symm;have x:upd H l (.lst []) l=some (.lst []):=aa;generalize upd H l (.lst [])=H1 at S1 x ⊢;refine⟨_,rfl,_,rfl,t,l1,l2,l3,l4,ts,ask,B,j,r,w,rfl,(T.same S0).same S1,z2,fun pl us H2 a hP S2=>⟨pl,rfl,⟨_,aw.of a⟩,?_⟩⟩;have p:=S1.trans S2;have D2:=Dy.up p;have al:pl≠q:=fun z=>by have:=D2.hkd;rw[<-z,a]at this;cases this
 have zu:us.length=j.length+1:=by rw[Paired.length hP,eD]
 have C:pl≠l:=fun z=>by
  rw[z,S2 _ _ x]at a;injection a with a;injection a with a;rw[qx.1 a.symm]at zu;cases zu
 have l0:H0 l=none:=S0.free O;have G:=S2 _ _ x;have an:=S0.trans p;have f2:=p _ _ hf
 let ap:Nat->L2.St->Hp->Prop:=fun i σ U=>Ij fun(as:List (TK×V)) (x6:Option V)=>Lx (σ=[some (.ref t),some (.ref q),some (.ref fu),some (nI ask),some (.int ((d+1:Nat))),some (.ref l),x6]) (U l=some (.lst ((((aR j ask).take i).map fun Y=>cntM B j r w d (behF r w J6 Y)).map V.int))) (dj X U q as B j r w (n+i * (1+lB d))) (∀b o,H2 b=some o->b≠q->b≠l->U b=some o)
 refine bO (xs:=us.map V.ref) ap
  ⟨kv,_,rfl,G,D2.more (by omega),fun _ _ e _ _=>e⟩ (fun i σ U _ ⟨_,_,_,_,_,ex⟩=>aw.of (ex _ _ a al C)) ?_ ?_
 ·rintro i v σ H3 hi ⟨y,x6,rfl,f,D3,g⟩;obtain⟨s,hs,rfl⟩:=bY hi;obtain⟨Y,I,aC⟩:=Paired.getL hP hs;have il:i<(aR j ask).length:=(bM.1 I).1;rw[eD]at il;have J:gv H2 H3:=fun b xs e=>g _ _ e (fun z=>by rw[z,D2.hkd]at e;cases e) (fun z=>by rw[z,G]at e;cases e);have L:ab H0 H3:=fun b o e=>g _ _ (an _ _ e) (ae e N) (ae e l0);have a6:(i+1) * (1+lB d)=i * (1+lB d)+(1+lB d):=gA _ _;have a5:(i+1) * (1+lB d)<=5 * (1+lB d):=c_ _ (by omega);refine⟨_,rfl,.inl ⟨rfl,_,aw.of f⟩,_,rfl,_,rfl,_,rfl,_,rfl,_,rfl,_,rfl,X,hX,H0,t,l1,l2,l3,l4,q,fu,s,ts,y,_,Y,J6,B,j,r,w,rfl,T,m,N,L,D3,J _ _ f2,J _ _ aC,hz,by omega,fun u a0 H4 hu D4 A=>?_⟩;refine⟨_,rfl,_,_,rfl,rfl,X,hX,H0,t,l1,l2,l3,l4,q,u,ts,a0,_,d,behF r w J6 Y,B,j,r,w,?_,hD,T,m,N,bC.sameH L N A,D4,hu,fU (by omega) hz,by omega,fun a4 H5 D5 M=>?_⟩
  ·show[V.ref t,V.ref q,V.ref u,V.int (((d+1:Nat):Int)-1)]=_;rw[show(((d+1:Nat):Int)-1)=(d:Nat) by omega]
  have l5:=M _ _ (A _ _ f nl) nl;refine⟨l,_,_,rfl,rfl,l5,?_,a4,_,rfl,?_,(D5.more (m:=n+(i+1) * (1+lB d)) (by omega)).cell l5,fun b o e n1 n2=>?_⟩
  ·rw[ah,ah,aI];exact ao (by omega)
  ·rw[aa,take_snoc I,av,av];rfl
  ·rw[ai n2];exact M _ _ (A _ _ (g _ _ e n1 n2) n1) n1
 ·rintro σ H3 ⟨y,x6,rfl,f,D3,g⟩;rw[ah,Paired.length hP,be]at f;rw[ah,zu]at D3;have m5:(j.length+1) * (1+lB d)<=5 * (1+lB d):=c_ _ (by omega);exact⟨_,rfl,k l y H3 f (D3.more (by omega)) fun b o e nb=>g _ _ (p _ _ e) nb (ae e O)⟩
theorem IV{K:Za}{D:Nat}{spS:Sp}(d5:D<=4)(hS:∀m,D=m+1->spS=io K m){vs:List V}{H:Hp}{Q:VK}{E:XK}(h:jC K D vs H Q E):yG K (kA K) sp_product spS (bj Q) (start z6 vs) H:=by
 obtain⟨X,hX,H0,t,l1,l2,l3,l4,kd,y,ts,kv,n,d,g,q,s,j,l,rfl,hD,T,m,h0,S0,Dy,hf,hz,hn,k⟩:=h;have z1:=m.asks4;have z2:=m.says4;refine⟨_,rfl,(by show 0<=aj;decide),fun e he=>⟨iB g,iB [],aZ (bQ.of (kp hf he)),aZ (bQ.of aa),by rw[bJ];decide,by rw[bJ];decide,_,rfl,?_⟩⟩;rw[fE];have M:ab H (upd H e (.tup [])):=ab.new he;generalize upd H e (.tup [])=G at M ⊢;have O:=Dy.up M;have one:cntM q s j l d g=1->Q (.int 1) G:=fun e=>by
  have:=k kv G (O.more (by omega)) (ab.exBs M);rw[e]at this;exact this
 by_cases B:g=[]
 ·rw[zzr1 B];refine bP ?_;refine bP ?_;exact one (by rw[B];exact Bo _ _ _ _ _)
 rw[zzr0 B];refine bA ?_;refine⟨_,rfl,rfl,_,rfl,?_⟩
 match d,hD,hn,k,one with
 |0,_,_,_,one =>
  refine bP ?_;exact one (by unfold cntM;rfl)
 |d+1,hD,hn,k,one =>
 rw[zzr0 (by intro z;injection z with z;omega)];refine bA ?_;obtain⟨w,rfl⟩:∃w,D=w+1:=⟨D-1,by omega⟩;cases hS w rfl;have eq:cntM q s j l (d+1) g=1+((kindsF q s j l g).map fun k=>gp (k.map fun sg=>cntM q s j l d (behF j l g sg))).sum:=by
  conv=>lhs;unfold cntM
  rw[if_neg B]
 have nb:lB (d+1)=30+25 * lB d:=rfl;have U:=M _ _ hf;have Y:=S0.trans M;have an:∀{u:List (TK×V)}{H':Hp}{x4 N:Option V},dj X H' kd u q s j l (n+lB (d+1))->bC kd G H'->bb u (qe g (d+1))=some (.int (cntM q s j l (d+1) g))->(aW (im K V1 (bf (aX V2 V3)))) (bj Q) [some (.ref t),some (.ref kd),some (.ref y),some (.int ((d+1:Nat))),x4,N] H':=by
  intro u H' x4 N D' ex v';refine⟨_,rfl,_,rfl,_,rfl,(by show 2<=aj;decide),fun p hp=>?_⟩;have S:ab H' (upd H' p (.tup [.ref y,.int ((d+1:Nat))])):=ab.new hp;have tk:=rA (d:=d+1) (aa (H:=H') (a:=p)) (S _ _ (bC.ktd O.hkd ex _ _ U));exact⟨kd,_,rfl,.inr ⟨_,qe g (d+1),p,.inl (S _ _ D'.hkd),rfl,cS.isIn 8 (eE _ _) tk,eE _ _,v'.symm⟩,k u _ (D'.up S) ((ab.exBs M).trs (ex.trs (ab.exBs S)))⟩
 refine⟨_,rfl,_,rfl,(by show 2<=aj;decide),fun p hp=>?_⟩;have S:ab G (upd G p (.tup [.ref y,.int ((d+1:Nat))])):=ab.new hp;have tk:=rA (d:=d+1) (aa (H:=G) (a:=p)) (S _ _ U);generalize upd G p (.tup [.ref y,.int ((d+1:Nat))])=H1 at S tk ⊢;have D1:=O.up S;refine⟨_,rfl,kd,_,rfl,.inr ⟨_,qe g (d+1),p,.inl D1.hkd,rfl,cS.isIn 8 (eE _ _) tk,eE _ _,rfl⟩,_,rfl,?_⟩;cases I:bb kv (qe g (d+1))with
 |some w' =>
  refine bA ?_;exact an (D1.more (by omega)) (ab.exBs S) (by rw[I,D1.cnt hX I])
 |none =>
  refine bP ?_;refine⟨_,rfl,_,rfl,_,rfl,X,hX,H0,t,l1,l2,l3,l4,kd,y,ts,kv,n,g,q,s,j,l,rfl,T,m,h0,Y.trans S,D1,S _ _ U,hz,by omega,fun al a4 H2 a5 D2 a6=>⟨(by show 1<=aj;decide),fun nl a7=>?_⟩⟩;have za:(askedF q j l g).length<=4:=aE (cO _ _) z1;have S3:ab H2 (upd H2 nl (.lst [.non])):=ab.new a7;have ap:upd H2 nl (.lst [.non]) nl=some (.lst [.non]):=aa;generalize upd H2 nl (.lst [.non])=H3 at S3 ap ⊢;refine⟨al,nl,_,_,rfl,rfl,S3 _ _ a5,ap,by rw[ah];exact cT (ao (by show _+1<=1000;omega)),fun L a8=>?_⟩;have S4:ab H3 (upd H3 L (.lst ((askedF q j l g).map V.str++[.non]))):=ab.new a8;have x:upd H3 L (.lst ((askedF q j l g).map V.str++[.non])) L=some (.lst (((askedF q j l g).map some++[none]).map nI)):=by
   rw[aa,av,i3];rfl
  generalize upd H3 L (.lst ((askedF q j l g).map V.str++[.non]))=H4 at S4 x ⊢;have D4:=(D2.up S3).up S4;have as:bC kd G H4:=(ab.exBs S).trs (a6.trs (ab.exBs (S3.trans S4)));have a9:L≠kd:=fun z=>by have:=D4.hkd;rw[<-z,x]at this;cases this
  generalize hA:((askedF q j l g).map some++[none]:List (Option Str))=A at x;have zA:A.length<=5:=by rw[<-hA,a_,ah];show _+1<=5;omega
  have eA:kindsF q s j l g=A.map (aR s):=by rw[<-hA];exact jI _ _ _ _ _
  rw[eA,i3]at eq;refine⟨L,rfl,⟨_,aw.of x⟩,?_⟩
  let bc:Nat->L2.St->Hp->Prop:=fun i σ H'=>Ij fun(u:List (TK×V)) (N:Option V)=>NA3 (σ=[some (.ref t),some (.ref kd),some (.ref y),some (.int ((d+1:Nat))),some (.int (1+((A.take i).map ((fun k=>gp (k.map fun sg=>cntM q s j l d (behF j l g sg))) ∘ aR s)).sum)),N]) (dj X H' kd u q s j l (n+4+i * (5 * (1+lB d)))) (bC kd H4 H')
  refine bO (xs:=A.map nI) bc
   ⟨a4,_,rfl,D4.more (by omega),bC.refl _ _⟩ (fun i σ H' _ ⟨_,_,_,_,ex⟩=>aw.of (ex _ _ x a9)) ?_ ?_
  ·rintro i v σ H5 hi ⟨aC,N,rfl,D5,C⟩;rw[cF]at hi;obtain⟨ask,J,rfl⟩:=kR.1 hi;have il:i<A.length:=(bM.1 J).1;have r:=as.trs C;have bw:(i+1) * (5 * (1+lB d))=i * (5 * (1+lB d))+5 * (1+lB d):=gA _ _;have bu:(i+1) * (5 * (1+lB d))<=5 * (5 * (1+lB d)):=c_ _ (by omega);refine⟨_,rfl,_,rfl,_,rfl,_,rfl,_,rfl,_,rfl,X,hX,H0,t,l1,l2,l3,l4,kd,y,ts,ask,aC,_,d,g,q,s,j,l,rfl,by omega,T,m,h0,bC.sameH Y h0 r,D5,bC.ktd O.hkd r _ _ U,hz,by omega,fun sl bd H6 bi D6 bl=>?_⟩;refine⟨sl,_,bB d,rfl,bi,fun z bm=>?_,by have:=xy d (by omega);omega,by rw[ah,eD];omega,_,_,rfl,rfl,bd,some (nI ask),?_,D6.more (by omega),C.trs bl⟩
   ·obtain⟨sg,_,rfl⟩:=aQ.1 bm;exact js z1 z2 d _
   ·have es:∀(f:Option Str->Int),1+((A.take (i+1)).map f).sum=1+((A.take i).map f).sum+f ask:=fun f=>by
     rw[take_snoc J,av,List.sum_append,bF,yb,qt,List.sum_nil,Int.add_zero,Int.add_assoc]
    rw[es];rfl
  ·rintro σ H5 ⟨aC,N,rfl,D5,C⟩;rw[ah]at D5;rw[ah,be,<-eq];have m5:A.length * (5 * (1+lB d))<=5 * (5 * (1+lB d)):=c_ _ zA;have r:=as.trs C;refine⟨_,rfl,_,rfl,_,rfl,_,rfl,(by show 2<=aj;decide),fun p2 bn=>?_⟩;have S6:ab H5 (upd H5 p2 (.tup [.ref y,.int ((d+1:Nat))])):=ab.new bn;have a0:=rA (d:=d+1) (aa (H:=H5) (a:=p2)) (S6 _ _ (bC.ktd O.hkd r _ _ U));generalize upd H5 p2 (.tup [.ref y,.int ((d+1:Nat))])=H6 at S6 a0 ⊢;have D6:=D5.up S6;have L:=D6.len;refine⟨kd,_,rfl,.inr ⟨_,qe g (d+1),p2,D6.hkd,rfl,a0,eE _ _,by rw[rR];omega,rfl⟩,?_⟩;have D7:=D6.put (k:=qe g (d+1)) (v:=.int (cntM q s j l (d+1) g)) (.inr (.inl ⟨_,_,rfl⟩));exact an (D7.more (by omega)) ((r.trs (ab.exBs S6)).trs fun b o e nb=>by rw[ai nb];exact e) (by rw[ik,if_pos rfl])
def BZ(K:Za)(sp_law_sizes:Sp)(sp_law_nth:Sp)(sp_law_after:Sp)(sp_law_part_signs:Sp):TS :=
 aq (aM (c6 (bg)) U6)
 (aq (aM (aK sp_law_part_signs (aX V0 V3)) U7)
 (aq (dS (bN K (GB K (GC K (aX V7 (aK sp_law_sizes (am V0 (am V1 (ci V2 V3 V4)))))))) (jw K 2 (bt U8 (bt U9 (jr)))) (aq (cN (DV K "list" ig V6 (am (aK sp_law_nth (am V0 (am V1 (am (aK sp_law_after (am V0 (ci V1 V2 V8))) (aX (aH mz V4 (tC (.int 1))) (aH jh V5 V9)))))) bg)))
 (aM (aH JV V5 V9) U5)))
 (aq (cN (Kl K "list" AQ V6))
 (aq (cu (tB (Ce V3)) (aW (bf (am (tC (.str "wait")) (am (GA K (am (aH (ji K) V0 (tC (.int 1))) (am (BL (q_ K) V6 (fq) (gC (LI (rU fun i=>.int (-i)) (tC (.int 1))))) bg))) (ay (aH (dW K) V6 (LI (rU fun i=>.int (-i)) (tC (.int 1))))))))) (bx))
 (aW (bf (am (tC (.str "tell")) (am V3 (am (aH (dW K) V6 (tC (.int 0))) (am (GA K (aX (aH (ji K) V0 (tC (.int 1))) (BL (q_ K) V6 (gC (tC (.int 1))) (fq)))) bg))))))))))
def Dv:List Str:=["told","known","face","ask","deep","number","some","signs","sign","size"]
def EU(K:Za)(sp_law_asked:Sp)(sp_law_times:Sp)(sp_law_laid:Sp)(sp_law_sizes:Sp):TS :=
 aq (cu (aU (aH (mC K) V2 (bf (bg)))) (aW (bf (ay (tC (.str "blame"))))) (bx))
 (aq (cu (aU (aH vI V4 (tC (.int 0)))) (aW (bf (ay (tC (.str "end"))))) (bx))
 (aq (aM (aH mz V4 (tC (.int 1))) U4)
 (aq (dS (bN K (aH j3 (aK sp_law_asked (ci V0 V1 V2)) (c6 (ay (tC .non))))) U5 (aq (aM (aK sp_law_sizes (am V0 (am V1 (ci V2 V5 V3)))) U6)
 (aq (cu (aU (aH CG V4 (aK sp_law_times (ay V6)))) (aW (aK sp_law_laid (am V0 (am V1 (am V2 (ci V5 V3 V4)))))) (bx))
 (aM (aH mz V4 (aK sp_law_times (ay V6))) U4))))
 (aW (tC .non)))))
def Gd:List Str:=["told","known","face","deep","number","ask","sizes"]
mutual
def sU(K:Za)(H:Hp):DT->V->Prop
 |.k a,v=>v=kV a
 |.t l,v=>∃b xs,v=.ref b/\cE K H b xs/\TrCs K H l xs
 |.s _,_=>False
def TrCs(K:Za)(H:Hp):List DT->List V->Prop
 |[],vs=>vs=[]
 |k::r,vs=>∃v us,vs=v::us/\sU K H k v/\TrCs K H r us
end
mutual
theorem sU.kt{K:Za}{H a:Hp}(k:gv H a):∀(d:DT) (v:V),sU K H d v->sU K a d v
 |.k _,_,h=>h
 |.t l,v,h=>by
  obtain⟨b,f,e,t,r⟩:=h;exact⟨b,f,e,cE.kt k t,TrCs.kt k l f r⟩
 |.s _,_,h=>h
theorem TrCs.kt{K:Za}{H f:Hp}(k:gv H f):∀(l:List DT) (a:List V),TrCs K H l a->TrCs K f l a
 |[],_,h=>h
 |d::r,a,h=>by
  obtain⟨v,g,e,t,q⟩:=h;exact⟨v,g,e,sU.kt k d v t,TrCs.kt k r g q⟩
end
abbrev mO(K:Za)(H:Hp)(vs:List V)(ps:List DT):Prop:=Paired (fun v d=>sU K H d v) vs ps
theorem mO.kt{K:Za}{H a:Hp}{e:List V}{f:List DT}(k:gv H a)(h:mO K H e f):mO K a e f:=Paired.mapP h fun v d r=>sU.kt k d v r
theorem mO.all{K:Za}{H:Hp}:∀{e:List V}{f:List DT},mO K H e f->TrCs K H f e
 |_,_,.nil=>rfl
 |_,_,.cons a r=>⟨_,_,rfl,a,mO.all r⟩
theorem pd{K:Za}{H:Hp}(s:Str):sU K H (gu s) (.str s):=rfl
def tJ:Sg:=["blame"]
def vc:Sg:=["end"]
theorem Gw{K:Za}{H:Hp}{b:Addr}:∀{a:Sg},cE K H b (a.map V.str)->sU K H (iB a) (.ref b):=fun{a} h=>by
 refine⟨b,_,rfl,h,?_⟩;clear h
 induction a with
 |nil=>rfl
 |cons s r e=>exact⟨_,_,rfl,pd s,e⟩
def r_(w:Str)(d:DT):DT:=.t [gu w,d]
def mq(J1:Zb):Option Str->List DT->DT
 |none,ps=>.t [gu "wait",.t (me r_ J1 (ps.take J1.length)),(ps[J1.length]?).getD (iB vc)]
 |some a,ps=>.t [gu "tell",gu a,(ps[0]?).getD (iB vc),.t (me r_ J1 (ps.drop 1))]
def ve(c:Sg->Int)(f:Sg->Int->DT):List Sg->Int->List DT
 |[],_=>[]
 |sg::r,n=>f sg (n % c sg)::ve c f r (n / c sg)
def Km(c:Sg->Int):List Sg->Int->Int
 |[],n=>n
 |sg::r,n=>Km c r (n / c sg)
theorem xj(c:Sg->Int)(f:Sg->Int->DT)(x:Sg):∀(l:List Sg) (n:Int),ve c f (l++[x]) n=ve c f l n++[f x (Km c l n % c x)]
 |[],n=>rfl
 |sg::r,n=>by
  show f sg (n % c sg)::ve c f (r++[x]) (n / c sg)=_;rw[xj c f x r];rfl
theorem AH(c:Sg->Int)(x:Sg):∀(l:List Sg) (n:Int),Km c (l++[x]) n=Km c l n / c x
 |[],n=>rfl
 |sg::r,n=>by
  show Km c (r++[x]) (n / c sg)=_;rw[AH c x r];rfl
theorem vd(c:Sg->Int)(f:Sg->Int->DT):∀(l:List Sg) (n:Int),(ve c f l n).length=l.length
 |[],_=>rfl
 |sg::r,n=>by
  show(ve c f r (n / c sg)).length+1=r.length+1;rw[vd c f r]
def jG(c:Option Str->Int):List (Option Str)->Int->Option (Option Str×Int)
 |[],_=>none
 |a::r,n=>if n<c a then some (a,n)else jG c r (n-c a)
def prodA(J0 J1 J2:Zb)(ds:List ak)(d:Nat)(J6:Zb)(a:Option Str):Int:=gp ((aR J1 a).map fun sg=>cntM J0 J1 J2 ds d (behF J2 ds J6 sg))
def laidM(J0 J1 J2:Zb)(ds:List ak)(d:Nat)(nx:List Str->Int->DT)(J6:Zb)(a:Option Str)(m:Int):DT :=
 mq J1 a (ve (fun sg=>cntM J0 J1 J2 ds d (behF J2 ds J6 sg)) (fun sg=>nx (behF J2 ds J6 sg)) (aR J1 a).reverse m).reverse
def nthM(J0 J1 J2:Zb)(ds:List ak):Nat->List Str->Int->DT
 |0,J6,_=>if J6=[]then iB tJ else iB vc
 |d+1,J6,n=>if J6=[]then iB tJ else if n=0 then iB vc else
  match jG (prodA J0 J1 J2 ds d J6) ((askedF J0 J2 ds J6).map some++[none]) (n-1)with
  |none=>iB vc
  |some (a,m)=>laidM J0 J1 J2 ds d (nthM J0 J1 J2 ds d) J6 a m
theorem Hi(a e f:Zb)(g:List ak)(n:Int):∀d,nthM a e f g d [] n=iB tJ
 |0=>by unfold nthM;rw[if_pos rfl]
 |d+1=>by unfold nthM;rw[if_pos rfl]
theorem Hj{e f g a:Zb}{i:List ak}(h:a≠[]):∀d,nthM e f g i d a 0=iB vc
 |0=>by unfold nthM;rw[if_neg h]
 |d+1=>by unfold nthM;rw[if_neg h,if_pos rfl]
theorem Fs{e i f J6:Zb}{g:List ak}{d:Nat}{n:Int}{a:Option Str}{m:Int}(h:J6≠[])(j:n≠0)(k:jG (prodA e i f g d J6) ((askedF e f g J6).map some++[none]) (n-1)=some (a,m)):
  nthM e i f g (d+1) J6 n=laidM e i f g d (nthM e i f g d) J6 a m:=by
 unfold nthM;rw[if_neg h,if_neg j,k]
theorem wR:∀(l:List Int),(∀x∈l,0<x)->0<gp l:=by
 have a:∀(l:List Int) (b:Int),0<b->(∀x∈l,0<x)->0<l.foldl (· * ·) b:=by
  intro l
  induction l with
  |nil=>intro b e _;exact e
  |cons x l f=>intro b e h;exact f _ (xE e (h x cU)) fun y g=>h y (c7 _ g)
 exact fun l h=>a l 1 (by decide) h
theorem oE:∀(l:List Int),(∀x∈l,0<=x)->0<=l.sum
 |[],_=>xM _
 |x::l,h=>by
  rw[qt];have:=h x cU;have:=oE l fun y a=>h y (c7 _ a);omega
theorem jL(f g a:Zb)(e:List ak):∀(d:Nat) (h:Zb),0<cntM f g a e d h
 |0,_=>by unfold cntM;decide
 |d+1,h=>by
  unfold cntM;split
  ·decide
  ·have:=oE ((kindsF f g a e h).map fun k=>gp (k.map fun i=>cntM f g a e d (behF a e h i))) fun x j=>by
    obtain⟨k,_,rfl⟩:=aQ.1 j;exact qq (wR _ fun y l=>by
     obtain⟨i,_,rfl⟩:=aQ.1 l;exact jL f g a e d _)
   omega
theorem m_(e f g:Zb)(h:List ak)(d:Nat)(i:Zb)(a:Option Str):0<prodA e f g h d i a:=wR _ fun y j=>by
 obtain⟨k,_,rfl⟩:=aQ.1 j;exact jL e f g h d _
theorem EC{e i f a:Zb}{g:List ak}{d:Nat}(h:a≠[]):cntM e i f g (d+1) a=1+(((askedF e f g a).map some++[none]).map (prodA e i f g d a)).sum:=by
 conv=>lhs;unfold cntM
 rw[if_neg h,jI,i3];rfl
structure Ke(c:Option Str->Int)(A:List (Option Str))(n:Int)(i:Nat)(left:Int):Prop where
 eq:jG c A n=jG c (A.drop i) left
 lo:0<=left
 hi:left<((A.drop i).map c).sum
theorem Ke.at{c:Option Str->Int}{A:List (Option Str)}{n left:Int}{i:Nat}(h:Ke c A n i left):∃a,A[i]?=some a/\A.drop i=a::A.drop (i+1):=by
 cases e:A[i]? with
 |none =>
  have:=h.hi;rw[List.drop_eq_nil_of_le (List.getElem?_eq_none_iff.1 e)]at this;have l:=h.lo;have:left<0:=this;omega
 |some a =>
  obtain⟨f,rfl⟩:=bM.1 e;exact⟨_,rfl,jV f⟩
theorem Ke.stop{c:Option Str->Int}{A:List (Option Str)}{n left:Int}{i:Nat}{a:Option Str}(h:Ke c A n i left)(e:A[i]?=some a)(l:left<c a):jG c A n=some (a,left):=by
 obtain⟨b,f,g⟩:=h.at;rw[e]at f;cases f;rw[h.eq,g];show(if left<c a then _ else _)=_
 rw[if_pos l]
theorem Ke.next{c:Option Str->Int}{A:List (Option Str)}{n left:Int}{i:Nat}{a:Option Str}(h:Ke c A n i left)(e:A[i]?=some a)(l:¬left<c a):Ke c A n (i+1) (left-c a):=by
 obtain⟨b,f,g⟩:=h.at;rw[e]at f;cases f;refine⟨?_,by omega,?_⟩
 ·rw[h.eq,g];show(if left<c a then _ else _)=_
  rw[if_neg l]
 ·have:=h.hi;rw[g,bF,qt]at this;omega
theorem FP(a:List V):fS a none (some (-1))=a.take (a.length-1):=by
 unfold fS;have e:HT.sIx a.length 0 none=0:=rfl;have f:HT.sIx a.length a.length (some (-1))=a.length-1:=by unfold HT.sIx;simp;omega
 rw[e,f];rfl
theorem JD{a:List V}{n:Nat}{v:V}(f:n+1=a.length)(h:a[n]?=some v):xz a (-1)=some v:=by
 have e:a=a.take n++[v]:=by rw[<-take_snoc h,f,be]
 rw[e];exact Ic _ _
theorem rZ{a:Zb}{e:List DT}{d:DT}(h:e[a.length]?=some d):mq a none e=.t [gu "wait",.t (me r_ a (e.take a.length)),d]:=by
 show DT.t [_,_,(e[a.length]?).getD _]=_;rw[h];rfl
theorem rY{f:Zb}{e:List DT}{a:Str}{d:DT}(h:e[0]?=some d):mq f (some a) e=.t [gu "tell",gu a,d,.t (me r_ f (e.drop 1))]:=by
 show DT.t [_,_,(e[0]?).getD _,_]=_;rw[h];rfl
theorem Ls{x i:Int}{b:Nat}(a:0<x)(h:cb.Int.intBits x<=b)(e:b<=9000):Ki i x:=by
 refine⟨a,?_⟩;unfold cb.Int.intBits at h;rw[if_neg (by simp;omega)]at h;omega
theorem FY{e J2 J6:Zb}{ds:List ak}{J1:Zb}{a:Option Str}(h:a∈(askedF e J2 ds J6).map some++[none]):∀f∈aR J1 a,f∈bZ e J1:=by
 have g:aR J1 a∈kindsF e J1 J2 ds J6:=by rw[jI];exact nW h
 exact(rj g).2
theorem nh{H:Hp}{a:Ze}{f g:List V}(h:∀t∈a,H t=none):ab H (hV H a f g):=fun b o e=>by
 rw[jo (fun z=>by rw[h b z]at e;cases e)];exact e
theorem wS{α β:Type}{R:α->β->Prop}:∀{e:List α}{g:List β},e.length=g.length->(∀(i:Nat) x y,e[i]?=some x->g[i]?=some y->R x y)->Paired R e g
 |[],[],_,_=>.nil
 |[],_::_,h,_=>by cases h
 |_::_,[],h,_=>by cases h
 |x::e,y::g,h,f=>.cons (f 0 x y rfl rfl) (wS (Nat.succ.inj h) fun i a b j k=>f (i+1) a b j k)
theorem uX{K:Za}{H:Hp}{a:Ze}{J1:Zb}{h:List V}{e:List DT}(m:a.Nodup)(n:∀t∈a,H t=none)(r:a.length=J1.length)(s:J1.length=e.length)(o:mO K H h e):mO K (hV H a (J1.map V.str) h) (a.map V.ref) (me r_ J1 e):=by
 refine wS (by rw[ah,List.length_zipWith];omega) fun i x y p f=>?_;obtain⟨t,j,rfl⟩:=bY p;have u:i<a.length:=(bM.1 j).1;obtain⟨d,k⟩:∃d,e[i]?=some d:=⟨_,da (by omega)⟩;obtain⟨w,l⟩:∃w,J1[i]?=some w:=⟨_,da (by omega)⟩;obtain⟨v,q,g⟩:=Paired.get o k;rw[List.getElem?_zipWith,l,k]at f;injection f with f;rw[<-f];exact⟨t,_,rfl,.inl (pV m j (by rw[cF,l];rfl) q),_,_,rfl,pd w,_,_,rfl,sU.kt (ab.kt (nh n)) _ _ g,rfl⟩
def uB:Nat->Nat
 |0=>0
 |d+1=>9+30 * (1+lB d)+5 * uB d
inductive k_(K:Za)(D:Nat)(vs:List V)(H:Hp)(Q:VK)(E:XK):Prop
 |mk (X:TK×V->Prop) (hX:JF X) (H0:Hp) (t l1 l2 l3 l4 kd fu:Addr) (ts:Ze) (kv:List (TK×V)) (n d:Nat) (number:Int) (J6 J0 J1 J2:Zb) (ds:List ak):(vs=[.ref t,.ref kd,.ref fu,.int (d:Nat),.int number])->(d<=D)->(gR H0 t l1 l2 l3 l4 ts J0 J1 J2 ds)->(aP J0 J1 J2 ds)->(H0 kd=none)->(ab H0 H)->(dj X H kd kv J0 J1 J2 ds n)->(H fu=some (.tup (J6.map V.str)))->(J6.length<=1000)->(0<=number)->(number<cntM J0 J1 J2 ds d J6)->(n+uB d<=8000000) ->
  (∀(v:V) (kv':List (TK×V)) (H':Hp),sU K H' (nthM J0 J1 J2 ds d J6 number) v->dj X H' kd kv' J0 J1 J2 ds (n+uB d)->bC kd H H'->Q v H')->k_ K D vs H Q E
inductive mw(K:Za)(D:Nat)(vs:List V)(H:Hp)(Q:VK)(E:XK):Prop
 |mk (X:TK×V->Prop) (hX:JF X) (H0:Hp) (t l1 l2 l3 l4 kd fu:Addr) (ts:Ze) (ask:Option Str) (kv:List (TK×V)) (n d:Nat) (number:Int) (J6 J0 J1 J2:Zb) (ds:List ak):(vs=[.ref t,.ref kd,.ref fu,nI ask,.int ((d+1:Nat)),.int number])->(d<=D)->(d<=4)->(gR H0 t l1 l2 l3 l4 ts J0 J1 J2 ds)->(aP J0 J1 J2 ds)->(H0 kd=none)->(ab H0 H)->(dj X H kd kv J0 J1 J2 ds n)->(H fu=some (.tup (J6.map V.str)))->(J6.length<=1000)->(n+5 * (1+lB d)+5 * (1+uB d)<=8000000) ->
  (∀(v:V) (kv':List (TK×V)) (H':Hp),sU K H' (laidM J0 J1 J2 ds d (nthM J0 J1 J2 ds d) J6 ask number) v->dj X H' kd kv' J0 J1 J2 ds (n+5 * (1+lB d)+5 * (1+uB d))->bC kd H H'->Q v H')->mw K D vs H Q E
theorem GO{K:Za}{D:Nat}{vs:List V}{H:Hp}{Q:VK}{E:XK}(h:mw K D vs H Q E):BZ K (io K 4) (k_ K D) (je K) jc (bj Q) (start Dv vs) H:=by
 obtain⟨X,hX,H0,t,l1,l2,l3,l4,kd,fu,ts,ask,kv,n,d,number,B,A,J1,g,l,rfl,hD,d4,T,m,h0,S0,Dy,hf,hz,hn,k⟩:=h;have z1:=m.asks4;have z2:=m.says4;have z3:=m.rooms26;refine⟨(by show 0<=aj;decide),fun sm ap=>?_⟩;have S1:ab H (upd H sm (.lst [])):=ab.new ap;have bi:sm≠kd:=(ae Dy.hkd ap).symm;have b4:upd H sm (.lst []) sm=some (.lst []):=aa;generalize upd H sm (.lst [])=H1 at S1 b4 ⊢;refine⟨_,rfl,_,rfl,t,l1,l2,l3,l4,ts,ask,A,J1,g,l,rfl,(T.same S0).same S1,z2,fun pl us H2 b5 hP S2=>?_⟩;have as:=S1.trans S2;have D2:=Dy.up as;have zk:=eD J1 ask;have zu:us.length=J1.length+1:=by rw[Paired.length hP,zk]
 have co:pl≠kd:=fun z=>by have:=D2.hkd;rw[<-z,b5]at this;cases this
 have b6:=S0.trans as;refine⟨_,rfl,_,rfl,_,rfl,_,rfl,_,rfl,_,rfl,X,hX,H0,t,l1,l2,l3,l4,kd,fu,ts,ask,kv,n,d,B,A,J1,g,l,rfl,d4,T,m,h0,b6,D2,as _ _ hf,hz,by omega,fun zl cs H3 ct D3 bl=>⟨pl,zl,_,_,rfl,aw.of (bl _ _ b5 co),aw.of ct,fun Dl C cv c0 nd L=>?_⟩⟩;have c2:=S2 _ _ b4;have b7:=bl _ _ c2 bi;have L:C.length=J1.length+1:=by
  rw[L,ah,ah,ah,zu,zk];omega
 have b8:=gf.1 nd;have S4:ab H3 (upd (hV H3 C (us.map V.ref) (((aR J1 ask).map fun sg=>cntM A J1 g l d (behF g l B sg)).map V.int)) Dl (.lst (C.map V.ref))):=fun b o e=>by
  rw[ai (ae e cv)];exact nh c0 _ _ e
 have cc:∀(j:Nat) (z:Addr) (sg:Sg),C[j]?=some z->(aR J1 ask)[j]?=some sg->∃s,us[j]?=some s/\upd (hV H3 C (us.map V.ref) (((aR J1 ask).map fun sg=>cntM A J1 g l d (behF g l B sg)).map V.int)) Dl (.lst (C.map V.ref)) z=some (.tup [.ref s,.int (cntM A J1 g l d (behF g l B sg))]):=fun j z sg ez es=>by
  obtain⟨s,hs,_⟩:=Paired.get hP es;refine⟨s,hs,?_⟩;rw[ai (fun q:z=Dl=>b8.1 (by rw[<-q];exact bT ez))];exact pV b8.2 ez (by rw[cF,hs];rfl) (by rw[cF,cF,es];rfl)
 have cd:upd (hV H3 C (us.map V.ref) (((aR J1 ask).map fun sg=>cntM A J1 g l d (behF g l B sg)).map V.int)) Dl (.lst (C.map V.ref)) Dl=some (.lst (C.map V.ref)):=aa;generalize upd (hV H3 C (us.map V.ref) (((aR J1 ask).map fun sg=>cntM A J1 g l d (behF g l B sg)).map V.int)) Dl (.lst (C.map V.ref))=H4 at S4 cc cd ⊢;refine⟨Dl,_,rfl,aw.of cd,fun rl ce=>?_⟩;rw[<-List.map_reverse];have S5:ab H4 (upd H4 rl (.lst (C.reverse.map V.ref))):=ab.new ce;have a7:upd H4 rl (.lst (C.reverse.map V.ref)) rl=some (.lst (C.reverse.map V.ref)):=aa;generalize upd H4 rl (.lst (C.reverse.map V.ref))=H5 at S5 a7 ⊢;have bm:=S4.trans S5;have D5:=D3.up bm;have cf:=bm _ _ b7;have c3:rl≠kd:=fun z=>by have:=D5.hkd;rw[<-z,a7]at this;cases this
 have c4:rl≠sm:=(ae (S4 _ _ b7) ce).symm;have bn:bC kd H2 H5:=bl.trs (ab.exBs bm);have a9:gv H2 H5:=bC.ktd D2.hkd bn;have c5:H0 sm=none:=S0.free ap;refine⟨rl,rfl,⟨_,aw.of a7⟩,?_⟩
 let dc:Nat->L2.St->Hp->Prop:=fun i σ H'=>LP fun(dd:List (TK×V)) (vs:List V) (x8 x9:Option V)=>JK (σ=[some (.ref t),some (.ref kd),some (.ref fu),some (nI ask),some (.int ((d+1:Nat))),some (.int (Km (fun sg=>cntM A J1 g l d (behF g l B sg)) ((aR J1 ask).reverse.take i) number)),some (.ref sm),some (.ref pl),x8,x9]) (H' sm=some (.lst vs)) (mO K H' vs (ve (fun sg=>cntM A J1 g l d (behF g l B sg)) (fun sg=>nthM A J1 g l d (behF g l B sg)) ((aR J1 ask).reverse.take i) number)) (dj X H' kd dd A J1 g l (n+5 * (1+lB d)+i * (1+uB d))) (∀b o,H5 b=some o->b≠kd->b≠sm->H' b=some o)
 refine bO (xs:=C.reverse.map V.ref) dc
  ⟨cs,[],_,_,rfl,cf,.nil,D5.more (by omega),fun _ _ e _ _=>e⟩ (fun i σ H' _ ⟨_,_,_,_,_,_,_,_,ex⟩=>aw.of (ex _ _ a7 c3 c4)) ?_ ?_
 ·rintro i w σ H6 hw ⟨a8,p,x8,x9,rfl,O,aC,D6,a0⟩;obtain⟨z,G,rfl⟩:=bY hw;have il:i<C.length:=by have:=(bM.1 G).1;rw[eG]at this;exact this
  rw[qy il]at G;obtain⟨sg,bu⟩:∃sg,(aR J1 ask)[C.length-1-i]?=some sg:=⟨_,da (by omega)⟩;have bc:(aR J1 ask).reverse[i]?=some sg:=by
   rw[qy (by omega),zk,<-L];exact bu
  obtain⟨s,hs,ez⟩:=cc _ _ _ G bu;obtain⟨dy,bd,dm⟩:=Paired.getL hP hs;rw[bu]at bd;cases bd;have bw:gv H5 H6:=fun b xs e=>a0 _ _ e (fun z=>by rw[z,D5.hkd]at e;cases e) (fun z=>by rw[z,cf]at e;cases e);have dn:=bw _ _ (S5 _ _ ez);have s6:=bw _ _ (a9 _ _ dm);have f6:=bw _ _ (a9 _ _ (as _ _ hf));have ch:ab H0 H6:=fun b o e=>a0 _ _ (bn _ _ (b6 _ _ e) (ae e h0)) (ae e h0) (ae e c5);have dK:(i+1) * (1+uB d)=i * (1+uB d)+(1+uB d):=gA _ _;have dx:(i+1) * (1+uB d)<=5 * (1+uB d):=c_ _ (by omega);have cp:=jL A J1 g l d (behF g l B sg);refine⟨z,_,rfl,bQ.of dn,rfl,_,_,rfl,_,_,rfl,rfl,?_⟩;refine⟨_,rfl,.inl ⟨rfl,_,aw.of O⟩,_,rfl,_,rfl,_,rfl,_,rfl,_,rfl,_,rfl,X,hX,H0,t,l1,l2,l3,l4,kd,fu,s,ts,a8,_,sg,B,A,J1,g,l,rfl,T,m,h0,ch,D6,f6,s6,hz,by omega,fun u dp H7 hu D7 I=>?_⟩;refine⟨_,rfl,_,_,rfl,rfl,_,rfl,_,rfl,_,_,rfl,rfl,cp,X,hX,H0,t,l1,l2,l3,l4,kd,u,ts,dp,_,d,Km (fun sg=>cntM A J1 g l d (behF g l B sg)) ((aR J1 ask).reverse.take i) number % cntM A J1 g l d (behF g l B sg),behF g l B sg,A,J1,g,l,?_,hD,T,m,h0,bC.sameH ch h0 I,D7,hu,fU (by omega) hz,nY _ (by omega),nX _ cp,by omega,fun v8 dr U t8 D8 bz=>?_⟩
  ·show[V.ref t,V.ref kd,V.ref u,V.int (((d+1:Nat):Int)-1),_]=_;rw[show(((d+1:Nat):Int)-1)=(d:Nat) by omega]
  have bI:=bz _ _ (I _ _ O bi) bi;have kt:gv U (upd U sm (.lst (p++[v8]))):=eW bI;have cl:gv H6 U:=fun b xs e=>bC.ktd D7.hkd bz _ _ (bC.ktd D6.hkd I _ _ e);have zv:p.length<=1000:=by
   rw[Paired.length aC,vd,aI];omega
  refine⟨sm,_,_,rfl,rfl,bI,ao zv,?_⟩;refine⟨_,rfl,_,rfl,_,_,rfl,rfl,Ls cp (js z1 z2 d _) (by have:=xy d d4;omega),dr,p++[v8],some (.ref s),some (.int (cntM A J1 g l d (behF g l B sg))),?_,aa,?_,(D8.more (m:=n+5 * (1+lB d)+(i+1) * (1+uB d)) (by omega)).cell bI,fun b o e n1 n2=>?_⟩
  ·rw[take_snoc bc,AH];rfl
  ·rw[take_snoc bc,xj];exact ge (mO.kt (fun b xs e=>kt _ _ (cl _ _ e)) aC) (sU.kt kt _ _ t8)
  ·rw[ai n2];exact bz _ _ (I _ _ (a0 _ _ e n1 n2) n1) n1
 ·rintro σ H6 ⟨a8,p,x8,x9,rfl,O,aC,D6,a0⟩;have el:(C.reverse.map V.ref).length=(aR J1 ask).reverse.length:=by rw[ah,eG,eG,L,zk]
  rw[el,be]at aC;rw[ah,eG,L]at D6;have m5:(J1.length+1) * (1+uB d)<=5 * (1+uB d):=c_ _ (by omega);have D6:=D6.more (m:=n+5 * (1+lB d)+5 * (1+uB d)) (by omega);have zd:(ve (fun sg=>cntM A J1 g l d (behF g l B sg)) (fun sg=>nthM A J1 g l d (behF g l B sg)) (aR J1 ask).reverse number).length=J1.length+1:=by rw[vd,eG,zk]
  have dv:bC kd H H6:=fun b o e nb=>a0 _ _ (bn _ _ (as _ _ e) nb) nb (ae e ap);refine⟨_,rfl,.inl ⟨rfl,_,aw.of O⟩,sm,_,rfl,rfl,O,?_⟩;have kt:gv H6 (upd H6 sm (.lst p.reverse)):=eW O;have D7:=D6.cell (ys:=p.reverse) O;have an:upd H6 sm (.lst p.reverse) sm=some (.lst p.reverse):=aa;have I:bC kd H (upd H6 sm (.lst p.reverse)):=fun b o e nb=>by rw[ai (ae e ap)];exact dv _ _ e nb
  have cm:ab H0 (upd H6 sm (.lst p.reverse)):=bC.sameH S0 h0 I;have J:mO K (upd H6 sm (.lst p.reverse)) p.reverse _:=Paired.rev (mO.kt kt aC);generalize upd H6 sm (.lst p.reverse)=H7 at D7 an I cm J ⊢;have T7:=T.same cm;unfold laidM at k;generalize(ve (fun sg=>cntM A J1 g l d (behF g l B sg)) (fun sg=>nthM A J1 g l d (behF g l B sg)) (aR J1 ask).reverse number)=dg at zd J k;have zp:dg.reverse.length=J1.length+1:=by rw[eG,zd]
  have zv:p.reverse.length=J1.length+1:=by rw[Paired.length J,zp]
  generalize dg.reverse=ps at zp J k;generalize p.reverse=f at an J zv;refine⟨_,rfl,_,rfl,?_⟩;cases ask with
  |none =>
   refine bP ?_;obtain⟨v0,a4⟩:∃v,f[J1.length]?=some v:=⟨_,da (by omega)⟩;obtain⟨d0,bS,b1⟩:=Paired.getL J a4;refine⟨_,rfl,t,_,1,.ref l2,rfl,rfl,bQ.of T7.t,rfl,_,rfl,_,rfl,_,rfl,sm,_,rfl,aw.of an,fun c1 b2=>?_⟩;rw[show fS f none (some (-1))=f.take J1.length by rw[FP,zv];rfl];have S8:ab H7 (upd H7 c1 (.lst (f.take J1.length))):=ab.new b2;have c8:upd H7 c1 (.lst (f.take J1.length)) c1=some (.lst (f.take J1.length)):=aa;generalize upd H7 c1 (.lst (f.take J1.length))=U at S8 c8 ⊢;refine⟨l2,c1,_,_,rfl,aw.of (S8 _ _ T7.a2),aw.of c8,fun Y x a5 G b3 al=>?_⟩;have M:=gf.1 b3;have al:x.length=J1.length:=by rw[al,ah,aI];omega
   have lp:=uX (K:=K) (J1:=J1) M.2 G al (by rw[aI];omega) (Paired.takeP J1.length (mO.kt (ab.kt S8) J));have S9:ab U (upd (hV U x (J1.map V.str) (f.take J1.length)) Y (.tup (x.map V.ref))):=fun b o e=>by
    rw[ai (ae e a5)];exact nh G _ _ e
   have a6:mO K (upd (hV U x (J1.map V.str) (f.take J1.length)) Y (.tup (x.map V.ref))) (x.map V.ref) (me r_ J1 (ps.take J1.length)):=mO.kt (ab.kt (ab.new (by rw[jo M.1];exact a5))) lp;have d9:upd (hV U x (J1.map V.str) (f.take J1.length)) Y (.tup (x.map V.ref)) Y=some (.tup (x.map V.ref)):=aa;generalize upd (hV U x (J1.map V.str) (f.take J1.length)) Y (.tup (x.map V.ref))=H9 at S9 a6 d9 ⊢;have N:=S8.trans S9;refine⟨_,rfl,_,rfl,sm,_,-1,v0,rfl,rfl,aw.of (N _ _ an),JD zv.symm a4,(by show 3<=aj;decide),fun r hr=>?_⟩;have y:ab H9 (upd H9 r (.tup [.str "wait",.ref Y,v0])):=ab.new hr;refine k _ a8 _ ?_ ((D7.up N).up y) (I.trs (ab.exBs (N.trans y)));rw[rZ bS];exact⟨r,_,rfl,.inl aa,_,_,rfl,pd _,_,_,rfl,⟨Y,_,rfl,.inl (y _ _ d9),mO.all (mO.kt (ab.kt y) a6)⟩,_,_,rfl,sU.kt (ab.kt (N.trans y)) _ _ b1,rfl⟩
  |some a =>
   refine bA ?_;obtain⟨v0,a4⟩:∃v,f[0]?=some v:=⟨_,da (by omega)⟩;obtain⟨d0,bS,b1⟩:=Paired.getL J a4;refine⟨_,rfl,_,rfl,sm,_,0,v0,rfl,rfl,aw.of an,ca (j:=0) a4,_,rfl,t,_,1,.ref l2,rfl,rfl,bQ.of T7.t,rfl,_,rfl,_,rfl,sm,_,rfl,aw.of an,fun c1 b2=>?_⟩;rw[show fS f (some 1) none=f.drop 1 from Df _ 1];have S8:ab H7 (upd H7 c1 (.lst (f.drop 1))):=ab.new b2;have c8:upd H7 c1 (.lst (f.drop 1)) c1=some (.lst (f.drop 1)):=aa;generalize upd H7 c1 (.lst (f.drop 1))=U at S8 c8 ⊢;refine⟨l2,c1,_,_,rfl,aw.of (S8 _ _ T7.a2),aw.of c8,fun Y x a5 G b3 al=>?_⟩;have M:=gf.1 b3;have al:x.length=J1.length:=by rw[al,ah,dQ];omega
   have lp:=uX (K:=K) (J1:=J1) M.2 G al (by rw[dQ];omega) (Paired.dropP 1 (mO.kt (ab.kt S8) J));have S9:ab U (upd (hV U x (J1.map V.str) (f.drop 1)) Y (.tup (x.map V.ref))):=fun b o e=>by
    rw[ai (ae e a5)];exact nh G _ _ e
   have a6:mO K (upd (hV U x (J1.map V.str) (f.drop 1)) Y (.tup (x.map V.ref))) (x.map V.ref) (me r_ J1 (ps.drop 1)):=mO.kt (ab.kt (ab.new (by rw[jo M.1];exact a5))) lp;have d9:upd (hV U x (J1.map V.str) (f.drop 1)) Y (.tup (x.map V.ref)) Y=some (.tup (x.map V.ref)):=aa;generalize upd (hV U x (J1.map V.str) (f.drop 1)) Y (.tup (x.map V.ref))=H9 at S9 a6 d9 ⊢;have N:=S8.trans S9;refine⟨(by show 4<=aj;decide),fun r hr=>?_⟩;have y:ab H9 (upd H9 r (.tup [.str "tell",.str a,v0,.ref Y])):=ab.new hr;refine k _ a8 _ ?_ ((D7.up N).up y) (I.trs (ab.exBs (N.trans y)));rw[rY bS];exact⟨r,_,rfl,.inl aa,_,_,rfl,pd _,_,_,rfl,pd _,_,_,rfl,sU.kt (ab.kt (N.trans y)) _ _ b1,_,_,rfl,⟨Y,_,rfl,.inl (y _ _ d9),mO.all (mO.kt (ab.kt y) a6)⟩,rfl⟩
open Builtin.Int (intBits)
theorem IU{K:Za}{D:Nat}{O:Sp}(d5:D<=4)(hL:∀m,D=m+1->O=mw K m){vs:List V}{H:Hp}{Q:VK}{E:XK}(h:k_ K D vs H Q E):EU K (kA K) sp_product O (io K 4) (bj Q) (start Gd vs) H:=by
 obtain⟨X,hX,H0,t,l1,l2,l3,l4,kd,fu,ts,kv,n,d,number,f,l,B,g,j,rfl,hD,T,m,U,S0,Dy,hf,hz,n0,nl,hn,k⟩:=h;have z1:=m.asks4;have z2:=m.says4;refine⟨_,rfl,(by show 0<=aj;decide),fun e he=>⟨iB f,iB [],aZ (bQ.of (kp hf he)),aZ (bQ.of aa),by rw[bJ];decide,by rw[bJ];decide,_,rfl,?_⟩⟩;rw[fE];have J:ab H (upd H e (.tup [])):=ab.new he;generalize upd H e (.tup [])=Y at J ⊢;have De:=Dy.up J;by_cases o:f=[]
 ·rw[zzr1 o];refine bP ⟨(by show 1<=aj;decide),fun r hr=>?_⟩;have S1:ab Y (upd Y r (.tup [.str "blame"])):=ab.new hr;refine k _ kv _ ?_ ((De.up S1).more (by omega)) (ab.exBs (J.trans S1));rw[o,Hi];exact Gw (.inl aa)
 rw[zzr0 o];refine bA ?_;refine⟨_,rfl,rfl,_,rfl,?_⟩;by_cases x:number=0
 ·rw[zzr1 (by rw[x])];refine bP ⟨(by show 1<=aj;decide),fun r hr=>?_⟩;have S1:ab Y (upd Y r (.tup [.str "end"])):=ab.new hr;refine k _ kv _ ?_ ((De.up S1).more (by omega)) (ab.exBs (J.trans S1));rw[x,Hj o];exact Gw (.inl aa)
 rw[zzr0 (by intro z;injection z with z;exact x z)];refine bA ?_
 match d,hD,hn,nl,k with
 |0,_,_,nl,_ =>
  unfold cntM at nl;omega
 |d+1,hD,hn,nl,k =>
 obtain⟨w,rfl⟩:∃w,D=w+1:=⟨D-1,by omega⟩;cases hL w rfl;rw[EC o]at nl;have nb:uB (d+1)=9+30 * (1+lB d)+5 * uB d:=rfl;have fe:=J _ _ hf;have L:=S0.trans J;refine⟨_,rfl,_,_,rfl,rfl,?_⟩;refine⟨_,rfl,_,rfl,_,rfl,X,hX,H0,t,l1,l2,l3,l4,kd,fu,ts,kv,n,f,l,B,g,j,rfl,T,m,U,L,De,fe,hz,by omega,fun al a4 H2 a5 D2 a6=>⟨(by show 1<=aj;decide),fun p a7=>?_⟩⟩;have za:(askedF l g j f).length<=4:=aE (cO _ _) z1;have S3:ab H2 (upd H2 p (.lst [.non])):=ab.new a7;have an:upd H2 p (.lst [.non]) p=some (.lst [.non]):=aa;generalize upd H2 p (.lst [.non])=H3 at S3 an ⊢;refine⟨al,p,_,_,rfl,rfl,S3 _ _ a5,an,by rw[ah];exact cT (ao (by show _+1<=1000;omega)),fun N a8=>?_⟩;have S4:ab H3 (upd H3 N (.lst ((askedF l g j f).map V.str++[.non]))):=ab.new a8;have q:upd H3 N (.lst ((askedF l g j f).map V.str++[.non])) N=some (.lst (((askedF l g j f).map some++[none]).map nI)):=by
  rw[aa,av,i3];rfl
 generalize upd H3 N (.lst ((askedF l g j f).map V.str++[.non]))=H4 at S4 q ⊢;have D4:=(D2.up S3).up S4;have ap:bC kd Y H4:=a6.trs (ab.exBs (S3.trans S4));have a9:N≠kd:=fun z=>by have:=D4.hkd;rw[<-z,q]at this;cases this
 generalize hA:((askedF l g j f).map some++[none]:List (Option Str))=A at q nl;have zA:A.length<=5:=by rw[<-hA,a_,ah];show _+1<=5;omega
 refine⟨N,rfl,⟨_,aw.of q⟩,?_⟩
 let bc:Nat->L2.St->Hp->Prop:=fun i σ H'=>LP fun(bd:List (TK×V)) (left:Int) (x5 x6:Option V)=>Lx (σ=[some (.ref t),some (.ref kd),some (.ref fu),some (.int ((d+1:Nat))),some (.int left),x5,x6]) (Ke (prodA l B g j d f) A (number-1) i left) (dj X H' kd bd l B g j (n+4+i * (5 * (1+lB d)))) (bC kd H4 H')
 refine bO (xs:=A.map nI) bc
  ⟨a4,number-1,_,_,rfl,⟨rfl,by omega,by show number-1<(A.map _).sum;omega⟩,D4.more (by omega),bC.refl _ _⟩ (fun i σ H' _ ⟨_,_,_,_,_,_,_,ex⟩=>aw.of (ex _ _ q a9)) ?_ ?_
 ·rintro i v σ H5 hi ⟨as,left,x5,x6,rfl,pk,D5,M⟩;rw[cF]at hi;obtain⟨ask,s,rfl⟩:=kR.1 hi;have il:i<A.length:=(bM.1 s).1;have C:=ap.trs M;have bz:(i+1) * (5 * (1+lB d))=i * (5 * (1+lB d))+5 * (1+lB d):=gA _ _;have bw:(i+1) * (5 * (1+lB d))<=5 * (5 * (1+lB d)):=c_ _ (by omega);have bi:=bC.sameH L U C;refine⟨_,rfl,_,rfl,_,rfl,_,rfl,_,rfl,X,hX,H0,t,l1,l2,l3,l4,kd,fu,ts,ask,as,_,d,f,l,B,g,j,rfl,by omega,T,m,U,bi,D5,bC.ktd De.hkd C _ _ fe,hz,by omega,fun sl aC H6 a0 D6 bl=>?_⟩;have G:∀z∈(aR B ask).map (fun sg=>cntM l B g j d (behF g j f sg)),intBits z<=bB d:=fun z bm=>by
   obtain⟨sg,_,rfl⟩:=aQ.1 bm;exact js z1 z2 d _
  have b4:=xy d (by omega);have I:=M.trs bl;have u:=ap.trs I;refine⟨_,rfl,_,rfl,sl,_,bB d,rfl,a0,G,by omega,by rw[ah,eD];omega,_,_,rfl,rfl,_,rfl,?_⟩;by_cases y:left<prodA l B g j d f ask
  ·rw[zzr1 (by exact y)];refine bP ?_;have e:=pk.stop s y;rw[<-hA]at e;refine⟨_,rfl,_,rfl,_,rfl,_,rfl,_,rfl,_,rfl,X,hX,H0,t,l1,l2,l3,l4,kd,fu,ts,ask,aC,_,d,left,f,l,B,g,j,rfl,by omega,by omega,T,m,U,bC.sameH L U u,D6,bC.ktd De.hkd u _ _ fe,hz,by omega,fun v7 bn H7 t7 D7 bu=>?_⟩;refine k v7 bn H7 ?_ (D7.more (by omega)) ((ab.exBs J).trs (u.trs bu));rw[Fs o x e];exact t7
  ·rw[zzr0 (by exact y)];refine bA ?_;exact⟨_,rfl,_,rfl,sl,_,bB d,rfl,a0,G,by omega,by rw[ah,eD];omega,_,_,rfl,rfl,aC,_,_,_,rfl,pk.next s y,D6.more (by omega),I⟩
 ·rintro σ H5 ⟨as,left,x5,x6,rfl,pk,D5,M⟩;obtain⟨a,ea,_⟩:=pk.at;have:=(bM.1 ea).1;rw[ah]at this;omega
inductive Tr where
 |bl
 |en
 |nd (a:Option Str) (ps:List Tr)
mutual
def Tr.dt(J1:Zb):Tr->DT
 |.bl=>iB tJ
 |.en=>iB vc
 |.nd a ps=>mq J1 a (Tr.dts J1 ps)
def Tr.dts(J1:Zb):List Tr->List DT
 |[]=>[]
 |t::r=>Tr.dt J1 t::Tr.dts J1 r
end
theorem Tr.dts_map(a:Zb):∀l:List Tr,Tr.dts a l=l.map (Tr.dt a)
 |[]=>rfl
 |t::r=>by rw[Tr.dts,Tr.dts_map a r];rfl
mutual
def Tr.wf(J0 J1:Zb):Tr->Prop
 |.bl=>True
 |.en=>True
 |.nd a ps=>ps.length=J1.length+1/\(∀w,a=some w->w∈J0)/\Tr.wfs J0 J1 ps
def Tr.wfs(J0 J1:Zb):List Tr->Prop
 |[]=>True
 |t::r=>Tr.wf J0 J1 t/\Tr.wfs J0 J1 r
end
theorem Tr.wfs_mem{a e:Zb}:∀{l:List Tr},Tr.wfs a e l↔∀t∈l,Tr.wf a e t
 |[]=>by simp[Tr.wfs]
 |t::r=>by
  rw[Tr.wfs,Tr.wfs_mem (l:=r)];simp
mutual
def Tr.hgt:Tr->Nat
 |.bl=>0
 |.en=>0
 |.nd _ ps=>Tr.hgts ps+1
def Tr.hgts:List Tr->Nat
 |[]=>0
 |t::r=>max t.hgt (Tr.hgts r)
end
def kH(c:Sg->Int)(f:Sg->Int->Tr):List Sg->Int->List Tr
 |[],_=>[]
 |sg::r,n=>f sg (n % c sg)::kH c f r (n / c sg)
def nthT(J0 J1 J2:Zb)(ds:List ak):Nat->List Str->Int->Tr
 |0,J6,_=>if J6=[]then .bl else .en
 |d+1,J6,n=>if J6=[]then .bl else if n=0 then .en else
  match jG (prodA J0 J1 J2 ds d J6) ((askedF J0 J2 ds J6).map some++[none]) (n-1)with
  |none=>.en
  |some (a,m)=>.nd a (kH (fun sg=>cntM J0 J1 J2 ds d (behF J2 ds J6 sg)) (fun sg=>nthT J0 J1 J2 ds d (behF J2 ds J6 sg)) (aR J1 a).reverse m).reverse
theorem xk(c:Sg->Int)(f:Sg->Int->Tr)(g:Tr->DT):∀(l:List Sg) (n:Int),(kH c f l n).map g=ve c (fun sg n=>g (f sg n)) l n
 |[],_=>rfl
 |sg::r,n=>by rw[kH,bF,xk c f g r];rfl
theorem rq(c:Sg->Int)(f:Sg->Int->Tr):∀(l:List Sg) (n:Int),(kH c f l n).length=l.length
 |[],_=>rfl
 |sg::r,n=>by
  show(kH c f r (n / c sg)).length+1=r.length+1;rw[rq c f r]
theorem xm{c:Sg->Int}{f:Sg->Int->Tr}{P:Tr->Prop}(h:∀sg m,P (f sg m)):∀(l:List Sg) (n:Int),∀x∈kH c f l n,P x
 |[],_,x,hx=>by cases hx
 |sg::r,n,x,hx=>by
  rcases cC.1 hx with rfl|hx
  ·exact h _ _
  ·exact xm h r _ x hx
theorem El(j f g:Zb)(h:List ak):∀(d:Nat) (i:Zb) (n:Int),(nthT j f g h d i n).dt f=nthM j f g h d i n
 |0,i,n=>by
  unfold nthT nthM;split<;>rfl
 |d+1,i,n=>by
  unfold nthT nthM;by_cases k:i=[]
  ·rw[if_pos k,if_pos k];rfl
  rw[if_neg k,if_neg k];by_cases l:n=0
  ·rw[if_pos l,if_pos l];rfl
  rw[if_neg l,if_neg l];cases jG (prodA j f g h d i) ((askedF j g h i).map some++[none]) (n-1)with
  |none=>rfl
  |some p =>
   obtain⟨a,m⟩:=p;show mq f a (Tr.dts f _)=laidM _ _ _ _ _ _ _ _ _;unfold laidM;rw[Tr.dts_map,List.map_reverse,xk];have e:(fun(o:Sg) (n:Int)=>Tr.dt f (nthT j f g h d (behF g h i o) n))=fun o=>nthM j f g h d (behF g h i o):=by
    funext o m;exact El j f g h d _ m
   rw[e]
theorem AT{c:Option Str->Int}:∀{A:List (Option Str)}{n:Int}{a:Option Str}{m:Int},jG c A n=some (a,m)->a∈A
 |[],_,_,_,h=>by cases h
 |b::r,n,a,m,h=>by
  unfold jG at h;split at h
  ·injection h with h;injection h with h _;rw[<-h];exact cU
  ·exact c7 _ (AT h)
theorem FX{a f g:Zb}{i:List ak}{w:Str}(h:some w∈(askedF a f i g).map some++[none]):w∈a:=by
 rcases bL.1 h with h|h
 ·obtain⟨x,j,e⟩:=aQ.1 h;injection e with e;rw[<-e];exact(fQ.1 j).1
 ·cases dP.1 h
theorem Ek(g f i:Zb)(j:List ak):∀(d:Nat) (k:Zb) (n:Int),(nthT g f i j d k n).wf g f/\(nthT g f i j d k n).hgt<=d
 |0,k,n=>by
  unfold nthT;split<;>exact⟨trivial,aB _⟩
 |d+1,k,n=>by
  unfold nthT;split
  ·exact⟨trivial,dI _⟩
  ·split
   ·exact⟨trivial,dI _⟩
   ·split
    ·exact⟨trivial,dI _⟩
    ·next a m e =>
     have o:∀t∈(kH (fun s=>cntM g f i j d (behF i j k s)) (fun s=>nthT g f i j d (behF i j k s)) (aR f a).reverse m).reverse,t.wf g f/\t.hgt<=d:=fun t p=>xm (P:=fun t=>t.wf g f/\t.hgt<=d) (fun s m=>Ek g f i j d _ m) _ _ t (List.mem_reverse.1 p);have u:∀l:List Tr,(∀t∈l,t.hgt<=d)->Tr.hgts l<=d:=fun l=>by
      induction l with
      |nil=>exact fun _=>dI _
      |cons t r v =>
       intro h;have z:=h t cU;have A:=v fun q x=>h q (c7 _ x);show max t.hgt (Tr.hgts r)<=d;omega
     refine⟨⟨?_,fun w y=>?_,Tr.wfs_mem.2 fun t p=>(o t p).1⟩,?_⟩
     ·rw[eG,rq,eG,eD]
     ·rw[y]at e;exact FX (AT e)
     ·exact ue (u _ fun t p=>(o t p).2)
theorem mO.of{K:Za}{H:Hp}:∀{e:List DT}{a:List V},TrCs K H e a->mO K H a e
 |[],a,h=>by
  have h:a=[]:=h;rw[h];exact .nil
 |p::e,a,h=>by
  obtain⟨v,i,rfl,f,g⟩:=h;exact .cons f (mO.of g)
open Builtin.Int (intBits)
theorem FJ{α:Type}(c:α->Int)(l:List α):l.foldl (fun b x=>b * c x) 1=gp (l.map c):=by unfold gp;rw[List.foldl_map]
theorem xr{a b:Int}{n:Nat}(e:0<=a)(f:a<=b)(h:intBits b<=n):intBits a<=n:=by
 rw[intBits_le_iff]at h ⊢;omega
open Builtin.Int (intBits)
def j5:Option Int->V
 |none=>.non
 |some i=>.int i
theorem Bd:∀{l:List Tr}{t:Tr},t∈l->t.hgt<=Tr.hgts l
 |x::l,t,h=>by
  show t.hgt<=max x.hgt (Tr.hgts l);rcases cC.1 h with rfl|h
  ·omega
  ·have:=Bd h;omega
def Ea(c:Sg->Int):List Sg->Int
 |[]=>1
 |sg::r=>Ea c r * c sg
theorem pN(c:Sg->Int)(l:List Sg):Ea c l.reverse=gp (l.map c):=by
 rw[<-FJ];have a:∀l:List Sg,Ea c l=l.foldr (fun e b=>b * c e) 1:=fun l=>by
  induction l with
  |nil=>rfl
  |cons x r f=>rw[Ea,f];rfl
 rw[a,List.foldr_reverse]
theorem D_{c:Sg->Int}(a:∀sg,0<c sg):∀l,0<Ea c l
 |[]=>by show(0:Int)<1;decide
 |sg::r=>xE (D_ a r) (a sg)
theorem AX(a e f:Zb)(g:List ak)(n:Int):∀d,nthT a e f g d [] n=.bl
 |0=>by unfold nthT;rw[if_pos rfl]
 |d+1=>by unfold nthT;rw[if_pos rfl]
theorem Fq{i j e g:Zb}{f:List ak}{d:Nat}{n:Int}{a:Option Str}{m:Int}(h:g≠[])(l:n≠0)(o:jG (prodA i j e f d g) ((askedF i e f g).map some++[none]) (n-1)=some (a,m)):
  nthT i j e f (d+1) g n=.nd a (kH (fun k=>cntM i j e f d (behF e f g k)) (fun k=>nthT i j e f d (behF e f g k)) (aR j a).reverse m).reverse:=by
 unfold nthT;rw[if_neg h,if_neg l,o]
open Builtin.Int (intBits)
def Be(a b:Zb)(d:Nat):TK:=.t [eO a,eO b,.k (some (.inl (d:Int)))]
theorem Jr{a b g i:Zb}{d j:Nat}(h:Be a b d=Be g i j):a=g/\b=i/\d=j:=by
 unfold Be at h;injection h with h;injection h with k f;injection f with f e;injection e with e _;injection e with e;injection e with e;injection e with e;exact⟨eK k,eK f,by omega⟩
theorem kJ(a b:Zb)(d:Nat):(Be a b d).depth<=8:=by
 show max (eO a).depth (max (eO b).depth (max 0 0))+1<=8;rw[fk,fk];decide
theorem C5{H:Hp}{p u w:Addr}{a b:Zb}{d:Nat}(e:H p=some (.tup [.ref u,.ref w,.int (d:Nat)]))(f:H u=some (.tup (a.map V.str)))(g:H w=some (.tup (b.map V.str))):cS H (Be a b d) (.ref p):=by
 unfold Be cS;refine⟨p,_,rfl,e,?_⟩;unfold TKAts;refine⟨_,_,rfl,SignAt.tk f,?_⟩;unfold TKAts;refine⟨_,_,rfl,SignAt.tk g,?_⟩;unfold TKAts;exact⟨_,_,rfl,by unfold cS;rfl,by unfold TKAts;rfl⟩
def exH(H:Hp)(P:Addr->Prop):Hp:=fun b=>open Classical in if P b then none else H b
theorem rp{H:Hp}{P:Addr->Prop}{b:Addr}(h:P b):exH H P b=none:=by unfold exH;rw[if_pos h]
theorem p9{H:Hp}{P:Addr->Prop}{b:Addr}(h:¬P b):exH H P b=H b:=by unfold exH;rw[if_neg h]
theorem Bj{H:Hp}{P:Addr->Prop}:ab (exH H P) H:=fun b o e=>by
 by_cases c:P b
 ·rw[rp c]at e;cases e
 ·rw[p9 c]at e;exact e
theorem vb{a H:Hp}{P:Addr->Prop}(S:ab a H)(h:∀b,P b->a b=none):ab a (exH H P):=fun b o e=>by
 rw[p9 (fun c=>by rw[h b c]at e;cases e)];exact S _ _ e
def Jo(kd:Addr)(kv:List (TK×V))(b:Addr):Prop:=b=kd∨∃k,(k,V.ref b)∈kv
def Hw(kd cd:Addr)(kv:List (TK×V))(b:Addr):Prop:=b=cd∨Jo kd kv b
section
variable{Cm Ck Cd:Addr}{H0 H1 H:Hp}{x sl y M kd cd:Addr}{us:Ze}{kv cv:List (TK×V)}{J0 J1 J2:Zb}{ds:List ak}{n:Nat}
theorem BI.up(h:BI Cm Ck H0 y M kd J0 J1 J2 ds)(S:ab H0 H1)(e:H1 kd=none):BI Cm Ck H1 y M kd J0 J1 J2 ds:=by
 obtain⟨a,fs,g,r⟩:=h.ob;exact⟨h.mach.same S,⟨a,fs,S _ _ g,r⟩,e⟩
theorem vD.up(h:vD Cm Ck Cd H0 x sl y M kd cd us J0 J1 J2 ds)(S:ab H0 H1)(e:H1 kd=none)(a:H1 cd=none):vD Cm Ck Cd H1 x sl y M kd cd us J0 J1 J2 ds:=by
 obtain⟨f,fs,g,r⟩:=h.ob;exact⟨h.ks.up S e,⟨f,fs,S _ _ g,r⟩,S _ _ h.hsl,j7.kt (ab.kt S) h.sg,a,h.ne⟩
theorem eZ.noneP(h:eZ H0 H kd kv J0 J1 J2 ds n)(e:H0 kd=none):∀b,Jo kd kv b->H0 b=none
 |_,.inl z=>by rw[z];exact e
 |_,.inr ⟨k,a⟩=>by
  obtain⟨_,_,_,q,_,r,_⟩:=h.kok _ a;injection q with _ q;injection q with q;rw[q];exact r
theorem dH.noneP(h:dH H0 H kd cd kv cv J0 J1 J2 ds n)(e:H0 kd=none)(a:H0 cd=none):∀b,Hw kd cd kv b->H0 b=none
 |_,.inl z=>by rw[z];exact a
 |_,.inr z=>h.ks.noneP e _ z
theorem eZ.max(h:eZ H0 H kd kv J0 J1 J2 ds n){P:Addr->Prop}(i:∀b,Jo kd kv b->P b):eZ (exH H P) H kd kv J0 J1 J2 ds n :=
 ⟨Bj,h.hkd,fun p g=>by obtain⟨f,d,a,e,j,_,r⟩:=h.kok p g;exact⟨f,d,a,e,j,rp (i _ (.inr ⟨eO f,by rw[<-e];exact g⟩)),r⟩,h.len⟩
theorem dH.max(h:dH H0 H kd cd kv cv J0 J1 J2 ds n):dH (exH H (Hw kd cd kv)) H kd cd kv cv J0 J1 J2 ds n:=⟨h.ks.max fun _ z=>.inr z,h.ncd,h.hcd,h.cok,h.clen⟩
theorem dH.weak(S:ab H0 H1)(h:dH H1 H kd cd kv cv J0 J1 J2 ds n):dH H0 H kd cd kv cv J0 J1 J2 ds n:=⟨h.ks.weak S,h.ncd,h.hcd,h.cok,h.clen⟩
theorem eZ.fresh(h:eZ H0 H kd kv J0 J1 J2 ds n){k:TK}{b:Addr}(q:(k,V.ref b)∈kv):b≠kd/\H0 b=none/\∃a,Rd H b (.dT a):=by
 obtain⟨_,_,a,e,f,g,r,_⟩:=h.kok _ q;injection e with _ e;injection e with e;rw[e];exact⟨f,g,a,r⟩
end
structure BC(K:Za)(C:Addr):Prop where
 cls:BN K C
 a1:cX K C "made"
 a2:cX K C "own_steps"
 a3:cX K C "known_harmless"
 a4:cX K C "known_firsts"
def Kh(H:Hp)(v:V)(J6:Zb):Prop:=(v=.non/\J6=[])∨∃u,v=.ref u/\J6≠[]/\H u=some (.tup (J6.map V.str))
theorem Kh.kt{H H':Hp}{v:V}{a:Zb}(k:gv H H')(h:Kh H v a):Kh H' v a:=h.imp id fun⟨u,e,n,q⟩=>⟨u,e,n,k _ _ q⟩
def Ii(H:Hp)(p:Addr)(q:List Str×List Str):Prop:=∃v w,H p=some (.tup [v,w])/\Kh H v q.1/\Kh H w q.2
theorem Ii.kt{H H':Hp}{p:Addr}{q:List Str×List Str}(k:gv H H')(h:Ii H p q):Ii H' p q:=by
 obtain⟨v,w,e,a,f⟩:=h;exact⟨v,w,k _ _ e,a.kt k,f.kt k⟩
theorem kM.fcV{H:Hp}{a:List (TK×V)}{j k l f:Zb}{m:List ak}(h:kM H a (stepsF j k l m f)){e:Sg}(n:e∈bZ j k):Kh H ((bb a (eO e)).getD .non) (behF l m f e):=by
 rcases h.look n with⟨g,i⟩|⟨g,u,i,o⟩
 ·rw[i];exact .inl ⟨rfl,g⟩
 ·rw[i];exact .inr ⟨u,rfl,g,o⟩
theorem eZ.find{o H:Hp}{p d:Addr}{g:List (TK×V)}{i j k l:Zb}{m:List ak}{n:Nat}(h:eZ o H p g i j k m n)(v:bb g (eO l)=some (.ref d)):∃a,Rd H d (.dT a)/\kM H a (stepsF i j k m l):=by
 obtain⟨f,t,a,e,_,_,r,st⟩:=h.kok _ (fR v);injection e with q s;cases eK q;cases s;exact⟨a,r,st⟩
def hB:Nat->Nat
 |0=>0
 |d+1=>12+25 * hB d
def jz(fo:Option Int)(x:Int):Option Int:=match fo with
 |none=>some x
 |some b=>if x<b then some x else some b
def Fw(l:List Int):Option Int:=l.foldl jz none
theorem xf{m:Int}:∀{l:List Int}{e:Option Int},(m∈l∨e=some m)->(∀b∈l,m<=b)->(∀b,e=some b->m<=b)->l.foldl jz e=some m
 |[],e,h,_,_=>by
  rcases h with h|h
  ·cases h
  ·exact h
 |x::l,e,h,f,g=>by
  rw[qw];have i:=f x cU;refine xf ?_ (fun b a=>f b (c7 _ a)) fun b a=>?_
  ·rcases h with h|h
   ·rcases cC.1 h with rfl|h
    ·right
     unfold jz;cases e with
     |none=>rfl
     |some b =>
      have:=g b rfl;show(if m<b then some m else some b)=some m
      by_cases c:m<b
      ·rw[if_pos c]
      ·rw[if_neg c,show b=m by omega]
    ·exact .inl h
   ·right
    rw[h];show(if x<m then some x else some m)=some m
    rw[if_neg (by omega)]
  ·unfold jz at a;cases e with
   |none=>injection a with a;omega
   |some c =>
    have:=g c rfl;have a:(if x<c then some x else some c)=some b:=a
    split at a<;>(injection a with a;omega)
theorem Jn{m:Int}{l:List Int}(h:m∈l)(a:∀b∈l,m<=b):Fw l=some m:=xf (.inl h) a fun b e=>by cases e
theorem Bi:∀{l:List Int}{a:Option Int}{m:Int},l.foldl jz a=some m->m∈l∨a=some m
 |[],a,m,h=>.inr h
 |x::l,a,m,h=>by
  rw[qw]at h;rcases Bi h with h|h
  ·exact .inl (c7 _ h)
  ·unfold jz at h;cases a with
   |none=>injection h with h;rw[h];exact .inl cU
   |some b =>
    have h:(if x<b then some x else some b)=some m:=h
    split at h
    ·injection h with h;rw[h];exact .inl cU
    ·exact .inr h
theorem pS{m:Int}{l:List Int}(h:Fw l=some m):m∈l:=(Bi h).elim id fun z=>by cases z
theorem fold_shift(s:Int):∀(l:List Int) (a:Option Int),l.foldl (fun a x=>jz a (s+x)) (a.map (s+·))=(l.foldl jz a).map (s+·)
 |[],a=>rfl
 |x::l,a=>by
  rw[qw,qw,<-fold_shift s l];congr 1;cases a with
  |none=>rfl
  |some b =>
   show(if s+x<s+b then some (s+x)else some (s+b))=(if x<b then some x else some b).map (s+·)
   by_cases c:x<b
   ·rw[if_pos c,if_pos (by omega)];rfl
   ·rw[if_neg c,if_neg (by omega)];rfl
theorem xg{s b:Int}(h:b<s):∀(l:List Int),(∀x∈l,0<=x)->l.foldl (fun e x=>jz e (s+x)) (some b)=some b
 |[],_=>rfl
 |x::l,a=>by
  rw[qw];have:=a x cU;show l.foldl _ (if s+x<b then some (s+x)else some b)=some b
  rw[if_neg (by omega)];exact xg h l fun y f=>a y (c7 _ f)
def Fn(f:Option Int)(w:Int):List Int:=match f with
 |none=>[]
 |some n=>[n * w]
def iz(c:Sg->Int)(f:Sg->Option Int):List Sg->Int->List Int
 |[],_=>[]
 |sg::r,w=>Fn (f sg) w++iz c f r (w * c sg)
theorem uT(c:Sg->Int)(f:Sg->Option Int):∀(l:List Sg) (v w:Int),iz c f l (v * w)=(iz c f l v).map (· * w)
 |[],_,_=>rfl
 |sg::r,v,w=>by
  unfold iz;rw[show v * w * c sg=v * c sg * w by rw[tQ,tP w,<-tQ],uT c f r,av];congr 1;cases f sg with
  |none=>rfl
  |some n=>show[n * (v * w)]=[n * v * w];rw[tQ]
theorem lg{c:Sg->Int}{f:Sg->Option Int}(a:∀sg,0<c sg)(i:∀sg n,f sg=some n->0<=n/\n<c sg):∀(l:List Sg) (w:Int),0<w->∀x∈iz c f l w,0<=x/\x<w * Ea c l
 |[],_,_,x,hx=>by cases hx
 |sg::r,w,g,x,hx=>by
  have o:=D_ a r;have e:w * Ea c (sg::r)=(w * c sg) * Ea c r:=by
   show w * (Ea c r * c sg)=_;rw[tP (Ea c r),<-tQ]
  rw[e];rcases bL.1 (show x∈Fn (f sg) w++iz c f r (w * c sg)from hx)with hx|hx
  ·cases h:f sg with
   |none=>rw[h]at hx;cases hx
   |some n =>
    rw[h]at hx;rw[dP.1 (show x∈[n * w]from hx)];obtain⟨j,k⟩:=i sg n h;refine⟨Int.mul_nonneg j (qq g),?_⟩;have p:n * w<c sg * w:=Int.mul_lt_mul_of_pos_right k g;have m:w * c sg * 1<=w * c sg * Ea c r:=Int.mul_le_mul_of_nonneg_left (by omega) (qq (xE g (a sg)));rw[DF,tP w]at m;rw[tP w];omega
  ·exact lg a i r (w * c sg) (xE g (a sg)) x hx
theorem AW{c:Sg->Int}{f:Sg->Option Int}{g:Sg->Int->Tr}(h:∀sg,0<c sg)(i:∀sg n,f sg=some n->0<=n/\n<c sg):∀(l:List Sg) (x:Int),x∈iz c f l 1->∃(j:Nat) (sg:Sg) (n:Int),l[j]?=some sg/\f sg=some n/\(kH c g l x)[j]?=some (g sg n)
 |[],x,hx=>by cases hx
 |sg::r,x,hx=>by
  have t:=h sg;rcases bL.1 (show x∈Fn (f sg) 1++iz c f r (1 * c sg)from hx)with hx|hx
  ·cases a:f sg with
   |none=>rw[a]at hx;cases hx
   |some n =>
    rw[a]at hx;have ex:x=n:=by rw[dP.1 (show x∈[n * 1]from hx),DF]
    obtain⟨k,m⟩:=i sg n a;refine⟨0,sg,n,rfl,a,?_⟩;rw[kH,ex,Int.emod_eq_of_lt k m];rfl
  ·rw[uT]at hx;obtain⟨y,o,rfl⟩:=aQ.1 hx;obtain⟨j,e,n,p,q,s⟩:=AW (g:=g) h i r y o;refine⟨j+1,e,n,p,q,?_⟩;rw[kH,Int.mul_ediv_cancel _ (by omega)];exact s
def iC(kk:Option Str->Option Int)(cc:Option Str->Int):List (Option Str)->Int->Option Int
 |[],_=>none
 |a::r,acc=>match kk a with
  |some n=>some (acc+n)
  |none=>iC kk cc r (acc+cc a)
section
variable(J0 J1 J2 rooms':Zb)(ds ds':List ak)
def fstKf(d:Nat)(f:List Str->List Str->Option Int)(own J6:Zb)(kind:List Sg):Option Int:=Fw (iz (fun sg=>cntM J0 J1 J2 ds d (behF J2 ds J6 sg)) (fun sg=>f (behF rooms' ds' own sg) (behF J2 ds J6 sg)) kind.reverse 1)
def fstM:Nat->List Str->List Str->Option Int
 |0,own,J6=>if own=[]then none else if J6=[]then some 0 else none
 |d+1,own,J6=>if own=[]then none else if J6=[]then some 0 else iC (fun a=>fstKf J0 J1 J2 rooms' ds ds' d (fstM d) own J6 (aR J1 a)) (prodA J0 J1 J2 ds d J6) ((askedF J0 J2 ds J6).map some++[none]) 1
theorem nq(d:Nat)(a:Zb):fstM J0 J1 J2 rooms' ds ds' d [] a=none:=by
 cases d<;>(unfold fstM;rw[if_pos rfl])
theorem p8(d:Nat){a:Zb}(h:a≠[]):fstM J0 J1 J2 rooms' ds ds' d a []=some 0:=by
 cases d<;>(unfold fstM;rw[if_neg h,if_pos rfl])
theorem pZ{a e:Zb}(h:a≠[])(f:e≠[]):fstM J0 J1 J2 rooms' ds ds' 0 a e=none:=by
 unfold fstM;rw[if_neg h,if_neg f]
theorem p7(d:Nat){e f:Zb}(h:e≠[])(g:f≠[]):fstM J0 J1 J2 rooms' ds ds' (d+1) e f=iC (fun a=>fstKf J0 J1 J2 rooms' ds ds' d (fstM J0 J1 J2 rooms' ds ds' d) e f (aR J1 a)) (prodA J0 J1 J2 ds d f) ((askedF J0 J2 ds f).map some++[none]) 1:=by
 conv=>lhs;unfold fstM
 rw[if_neg h,if_neg g]
theorem jK{j:Option Str->Option Int}{g:Option Str->Int}(i:∀a,0<g a)(k:∀a n,j a=some n->0<=n/\n<g a):∀{A:List (Option Str)}{f n:Int},iC j g A f=some n->f<=n/\n<f+(A.map g).sum
 |[],_,_,h=>by cases h
 |a::r,f,n,h=>by
  have o:0<=(r.map g).sum:=oE _ fun x l=>by
   obtain⟨y,_,rfl⟩:=aQ.1 l;exact qq (i y)
  unfold iC at h;rw[bF,qt];split at h
  ·next m e =>
   injection h with h;have:=k a m e;omega
  ·have:=jK i k h;have:=i a;omega
theorem kE:∀(d:Nat) (f g:Zb) (n:Int),fstM J0 J1 J2 rooms' ds ds' d f g=some n->0<=n/\n<cntM J0 J1 J2 ds d g:=by
 intro d
 induction d with
 |zero =>
  intro f g n h;have:=jL J0 J1 J2 ds 0 g;by_cases c:f=[]
  ·rw[c,nq]at h;cases h
  by_cases i:g=[]
  ·rw[i,p8 _ _ _ _ _ _ 0 c]at h;injection h with h;omega
  ·rw[pZ _ _ _ _ _ _ c i]at h;cases h
 |succ d k =>
  intro f g n h;have:=jL J0 J1 J2 ds (d+1) g;by_cases c:f=[]
  ·rw[c,nq]at h;cases h
  by_cases i:g=[]
  ·rw[i,p8 _ _ _ _ _ _ (d+1) c]at h;injection h with h;omega
  ·rw[p7 _ _ _ _ _ _ d c i]at h;rw[EC i];have:=jK (m_ J0 J1 J2 ds d g) (fun a m e=>?_) h
   ·omega
   ·have l:=pS e;have:=lg (c:=fun j=>cntM J0 J1 J2 ds d (behF J2 ds g j)) (fun j=>jL J0 J1 J2 ds d _) (fun j n e=>k _ _ n e) (aR J1 a).reverse 1 (by decide) m l;rw[xD,pN]at this;exact this
end
def lm(nn:Option Str->List Int)(cc:Option Str->Int):List (Option Str)->Int->Option Int->Option Int
 |[],_,fo=>fo
 |a::r,s,fo=>lm nn cc r (s+cc a) ((nn a).foldl (fun fo x=>jz fo (s+x)) fo)
theorem sh{f:Option Str->List Int}{e:Option Str->Int}(g:∀a,0<e a)(i:∀a,∀x∈f a,0<=x){b:Int}:∀(A:List (Option Str)) (s:Int),b<s->lm f e A s (some b)=some b
 |[],_,_=>rfl
 |a::r,s,h=>by
  unfold lm;rw[xg h _ (i a)];have:=g a;exact sh g i r (s+e a) (by omega)
theorem wY{f:Option Str->List Int}{g:Option Str->Int}(j:∀a,0<g a)(i:∀a,∀x∈f a,0<=x/\x<g a):∀(A:List (Option Str)) (s:Int),lm f g A s none=iC (fun a=>Fw (f a)) g A s
 |[],_=>rfl
 |a::r,s=>by
  unfold lm iC;have e:=fold_shift s (f a) none;have e:(f a).foldl (fun k x=>jz k (s+x)) none=(Fw (f a)).map (s+·):=e;rw[e];cases h:Fw (f a)with
  |none=>exact wY j i r (s+g a)
  |some m =>
   have:=i a m (pS h);exact sh j (fun a x l=>(i a x l).1) r (s+g a) (show s+m<s+g a by omega)
mutual
def blB(J1 rooms':Zb)(ds':List ak)(own:Zb):Tr->Bool
 |.bl=>open Classical in decide (own≠[])
 |.en=>false
 |.nd a ps=>open Classical in decide (own≠[]) && blBs J1 rooms' ds' own (aR J1 a) ps
def blBs(J1 rooms':Zb)(ds':List ak)(own:Zb)(sgs:List Sg):List Tr->Bool
 |[]=>false
 |p::ps=>(match sgs with
  |[]=>false
  |sg::_=>blB J1 rooms' ds' (behF rooms' ds' own sg) p) || blBs J1 rooms' ds' own (sgs.drop 1) ps
end
theorem Bv{l a f:Zb}{e:List ak}:∀{ps:List Tr}{sgs:List Sg}{j:Nat}{g:Sg}{p:Tr},sgs[j]?=some g->ps[j]?=some p->blB l a e (behF a e f g) p=true->blBs l a e f sgs ps=true
 |[],_,_,_,_,_,h,_=>by cases h
 |_::_,[],_,_,_,h,_,_=>by cases h
 |q::ps,x::sgs,0,g,p,i,k,m=>by
  injection i with i;injection k with k;unfold blBs;rw[i,k];show(blB l a e (behF a e f g) p || _)=true;rw[m];rfl
 |q::ps,x::sgs,j+1,g,p,i,k,m=>by
  unfold blBs;rw[show(x::sgs).drop 1=sgs from rfl,Bv (ps:=ps) (sgs:=sgs) (j:=j) i k m,Bool.or_true]
theorem C8{J0 i l f:Zb}{o p:List ak}(N:J0.Nodup):∀(d:Nat) (s q:Zb) (n:Int),fstM J0 i l f o p d s q=some n->blB i f p s (nthT J0 i l o d q n)=true:=by
 intro d
 induction d with
 |zero =>
  intro s q n h;by_cases c:s=[]
  ·rw[c,nq]at h;cases h
  by_cases u:q=[]
  ·rw[u,AX];unfold blB;exact zzr1 c
  ·rw[pZ _ _ _ _ _ _ c u]at h;cases h
 |succ d E =>
  intro s q n h;by_cases c:s=[]
  ·rw[c,nq]at h;cases h
  by_cases u:q=[]
  ·rw[u,AX];unfold blB;exact zzr1 c
  rw[p7 _ _ _ _ _ _ d c u]at h;have B:∀sg,0<(fun sg=>cntM J0 i l o d (behF l o q sg)) sg:=fun sg=>jL J0 i l o d _;have C:∀(sg:Sg) (n:Int),(fun sg=>fstM J0 i l f o p d (behF f p s sg) (behF l o q sg)) sg=some n->0<=n/\n<(fun sg=>cntM J0 i l o d (behF l o q sg)) sg:=fun sg n e=>kE J0 i l f o p d _ _ n e;have v:∀a m,fstKf J0 i l f o p d (fstM J0 i l f o p d) s q (aR i a)=some m->0<=m/\m<prodA J0 i l o d q a:=fun a m e=>by
   have:=lg B C (aR i a).reverse 1 (by decide) m (pS e);rw[xD,pN]at this;exact this
  have G:∀{A:List (Option Str)}{t n:Int},iC (fun a=>fstKf J0 i l f o p d (fstM J0 i l f o p d) s q (aR i a)) (prodA J0 i l o d q) A t=some n->∃a m,fstKf J0 i l f o p d (fstM J0 i l f o p d) s q (aR i a)=some m/\jG (prodA J0 i l o d q) A (n-t)=some (a,m):=by
   intro A
   induction A with
   |nil=>intro t n h;cases h
   |cons a r w =>
    intro t n h;unfold iC at h;split at h
    ·next m e =>
     injection h with h;obtain⟨O,H⟩:=v a m e;refine⟨a,m,e,?_⟩;unfold jG;rw[show n-t=m by omega,if_pos H]
    ·next e =>
     obtain⟨b,m,x,y⟩:=w h;refine⟨b,m,x,?_⟩;have I:=jK (m_ J0 i l o d q) v h;unfold jG;rw[if_neg (by omega),show n-t-prodA J0 i l o d q a=n-(t+prodA J0 i l o d q a) by omega];exact y
  obtain⟨a,m,x,y⟩:=G h;have I:=jK (m_ J0 i l o d q) v h;rw[Fq u (by omega) y];obtain⟨j,sg,k,z,J,L⟩:=AW (g:=fun sg=>nthT J0 i l o d (behF l o q sg)) B C (aR i a).reverse m (pS x);have M:j<(aR i a).length:=by have:=(bM.1 z).1;rw[eG]at this;exact this
  rw[qy M]at z;unfold blB;rw[zzr1 c,qr];have D:(kH (fun sg=>cntM J0 i l o d (behF l o q sg)) (fun sg=>nthT J0 i l o d (behF l o q sg)) (aR i a).reverse m).length=(aR i a).length:=by rw[rq,eG]
  refine Bv (j:=(aR i a).length-1-j) z ?_ (E _ _ k J);rw[qy (by rw[D];omega),D];rw[show(aR i a).length-1-((aR i a).length-1-j)=j by omega];exact L
def oy(K:Za)(C_Blamers:Addr)(sp_Blamers_first_of_kinds:Sp):TS :=
 aq (cu (tB (Ce V2)) (aW (tC .non)) (bx))
 (aq (cu (tB (Ce V1)) (aW (tC (.int 0))) (bx))
 (aq (cu (aU (aH vI V3 (tC (.int 0)))) (aW (tC .non)) (bx))
 (aq (cu (tB (ib K (bf (ci V1 V2 V3)) (fN K V0 "known_firsts"))) (jf (fN K V0 "known_firsts") (bf (ci V1 V2 V3)) (cn C_Blamers "first_of_kinds" sp_Blamers_first_of_kinds [] E0 V0 (ci V1 V2 V3))) (bx))
 (aW (im K (fN K V0 "known_firsts") (bf (ci V1 V2 V3)))))))
def oW:List Str:=["self","face","mine","d"]
def jY(K:Za)(C_Made:Addr)(sp_Made_kinds_at:Sp)(sp_Made_count_of:Sp)(C_Blamers:Addr)(sp_Blamers_first_of_kind:Sp):TS :=
 aq (aM (tC (.int 1)) U4)
 (aq (dS (bN K (cn C_Made "kinds_at" sp_Made_kinds_at [] E0 (fN K V0 "made") (ay V1))) U5 (aq (aM (cn C_Blamers "first_of_kind" sp_Blamers_first_of_kind [] E0 V0 (am V1 (ci V2 V3 V5))) U6)
 (aq (cu (tB (wN V6)) (aW (aH dB V4 V6)) (bx))
 (K6 4 (cn C_Made "count_of" sp_Made_count_of [] E0 (fN K V0 "made") (ci V1 V3 V5)) (ipI fun i j=>i+j)))))
 (aW (tC .non)))
def j8:List Str:=["self","face","mine","d","ahead","signs","own"]
def kn(K:Za)(C_Blamers:Addr)(sp_Blamers_places:Sp)(C_Made:Addr)(sp_Made_count_at:Sp)(sp_Blamers_first_at:Sp):TS :=
 aq (aM (c6 (bg)) U5)
 (aq (aM (tC (.int 1)) U6)
 (aq (dS (Ll K (ay (cn C_Blamers "places" sp_Blamers_places [] E0 V0 (ci V1 V2 V4)))) (jw K 2 (bt U7 (bt U8 (jr)))) (aq (aM (cn C_Blamers "first_at" sp_Blamers_first_at [] E0 V0 (ci V7 V8 (aH mz V3 (tC (.int 1))))) U9)
 (aq (cu (tB (wN V9)) (cN (DV K "list" ig V5 (ay (aH nP V9 V6)))) (bx))
 (aM (aH nP V6 (cn C_Made "count_at" sp_Made_count_at [] E0 (fN K V0 "made") (aX V7 (aH mz V3 (tC (.int 1)))))) U6))))
 (aW (JO K (ay V5)))))
def kO:List Str:=["self","face","mine","d","signs","numbers","weight","there","own","first"]
def uo(K:Za)(C_Blamers:Addr)(sp_Blamers_init:Sp)(sp_Blamers_first_at:Sp)(dq:Sp)(eC:Sp)(sp_need_taker:Sp):TS :=
 aq (cN (aK sp_need_taker (aX V0 V2)))
 (aq (cN (aK eC (ay V1)))
 (aW (cn C_Blamers "first_at" sp_Blamers_first_at [] E0 (uu C_Blamers sp_Blamers_init [] E0 (aX V0 V2)) (ci (aK dq (ay V0)) (aK dq (ay V2)) V1))))
def vA:List Str:=["M","d","I"]
def yF(K:Za):TS :=
 aq (cu (aU (aH vI (aH (ji K) V0 (tC (.int 0))) (tC (.str "tell")))) (aW (bf (am (aH (ji K) V0 (tC (.int 1))) (am (aH j3 (c6 (ay (aH (ji K) V0 (tC (.int 2))))) (cG 2 [] (FG K (aH (ji K) V0 (tC (.int 3)))) (jw K 2 (bt U0 (bt U1 (jr)))) (iH) V1)) bg)))) (bx))
 (aW (bf (am (tC .non) (am (aH j3 (cG 2 [] (FG K (aH (ji K) V0 (tC (.int 1)))) (jw K 2 (bt U0 (bt U1 (jr)))) (iH) V1) (c6 (ay (aH (ji K) V0 (tC (.int 2)))))) bg))))
def z5:List Str:=["trial"]
def yH(K:Za)(sp_law_part_signs:Sp)(sp_law_blamed:Sp)(sp_law_behind:Sp)(sp_law_pieces:Sp):TS :=
 aq (cu (Cc (aU (aH (mC K) V1 (bf (bg)))) (aU (aH vI (aH (ji K) V2 (tC (.int 0))) (tC (.str "end"))))) (aW (tC (.bl false))) (bx))
 (aq (cu (aU (aH vI (aH (ji K) V2 (tC (.int 0))) (tC (.str "blame")))) (aW (tC (.bl true))) (bx))
 (aq (aM (aK sp_law_pieces (ay V2)) (jw K 2 (bt U3 (bt U4 (jr)))))
 (aq (dS (HF K (aX (aK sp_law_part_signs (am V0 (ay V3))) V4)) (jw K 2 (bt U5 (bt U6 (jr)))) (cu (tB (aK sp_law_blamed (ci V0 (aK sp_law_behind (am V0 (aX V1 V5))) V6))) (aW (tC (.bl true))) (bx)))
 (aW (tC (.bl false))))))
def z7:List Str:=["other","own","trial","ask","some","sign","part"]
def At(K:Za)(sp_law_asked:Sp)(sp_law_part_signs:Sp)(sp_law_count:Sp)(sp_law_first:Sp)(sp_law_behind:Sp)(sp_law_after:Sp):TS :=
 aq (cu (Cc (aU (aH (mC K) V3 (bf (bg)))) (Cc (aU (aH (mC K) V4 (bf (bg)))) (aU (aH vI V5 (tC (.int 0)))))) (aW (aH (dW K) (c6 (aX (tC .non) (tC (.int 0)))) (gD JU (ay (AC (aH (wm K) V3 (bf (bg))) (aH (mC K) V4 (bf (bg)))))))) (bx))
 (aq (cu (tB (Cp K (bf (am (tC (.str "first")) (ci V3 V4 V5))) V2)) (aW (im K V2 (bf (am (tC (.str "first")) (ci V3 V4 V5))))) (bx))
 (aq (aM (tC (.int 1)) U6)
 (aq (aM (tC .non) U7)
 (aq (dS (bN K (aH j3 (aK sp_law_asked (ci V0 V2 V4)) (c6 (ay (tC .non))))) U8 (aq (aM (tC (.int 1)) U9)
 (aq (dS (bN K (GB K (aK sp_law_part_signs (aX V0 V8)))) KZ (aq (aM (aK sp_law_after (am V0 (ci V2 V4 F0))) LM)
 (aq (aM (aK sp_law_first (am V0 (am V1 (am V2 (ci (aK sp_law_behind (am V1 (aX V3 F0))) KL (aH mz V5 (tC (.int 1)))))))) U12)
 (aq (cu (sQ (tB (wN KY)) (Cc (tB (Ce V7)) (aU (aH CG (aH dB V6 (aH nP KY V9)) V7)))) (aM (aH dB V6 (aH nP KY V9)) U7) (bx))
 (aM (aH nP V9 (aK sp_law_count (am V0 (ci V2 KL (aH mz V5 (tC (.int 1))))))) U9)))))
 (aM (aH dB V6 V9) U6))))
 (aq (jf V2 (bf (am (tC (.str "first")) (ci V3 V4 V5))) V7)
 (aW V7))))))
def sr:List Str:=["told","other","known","own","face","deep","start","found","ask","weight","sign","behind","number"]
def IF(K:Za)(sp_law_blamed:Sp)(sp_law_begin:Sp)(sp_law_nth:Sp)(sp_first_blamer:Sp)(sp_law_first:Sp)(sp_law_machine:Sp)(sp_law_near:Sp)(sp_law_model:Sp)(sp_law_take:Sp)(sp_law_open:Sp):TS :=
 aq (aM (aK sp_law_open (ay V0)) U1)
 (aq (dS (u7 (ay (tC (.int 2)))) U2 (aq (aM (aK sp_law_model (am V1 (am (tC (.int 6)) (ay (aK sp_law_take (aX V1 (tC (.int 2)))))))) U3)
 (aq (aM (aK sp_law_near (ci V1 V3 (tC (.int 4)))) U4)
 (aq (aM (aK sp_law_machine (ay V3)) U5)
 (aq (aM (aK sp_law_machine (ay V4)) U6)
 (dS (bN K (c6 (am (tC (.int 4)) (am (tC (.int 3)) (ci (tC (.int 2)) (tC (.int 1)) (tC (.int 0))))))) U7 (aq (aM (kY) U8)
 (aq (aM (aK sp_law_first (am V3 (am V4 (am V8 (ci (aK sp_law_begin (ay V4)) (aK sp_law_begin (ay V3)) V7))))) U9)
 (aq (aM (aK sp_first_blamer (ci V5 V7 V6)) KZ)
 (aq (cu (Cc (aU (aH K_ F0 V9)) (tB (gD (rIsi K) (aX F0 (tC (.ty "bool")))))) (aW (tC (.bl false))) (bx))
 (cu (tB (wN V9)) (aq (aM (aK sp_law_nth (am V3 (am V8 (ci (aK sp_law_begin (ay V3)) V7 V9)))) LM)
 (cu (IG (tB (aK sp_law_blamed (ci V4 (aK sp_law_begin (ay V4)) KL)))) (aW (tC (.bl false))) (bx))) (bx))))))))))))
 (aW (tC (.bl true))))
def EK:List Str:=["script","pen","turn","told","other","model","machine","deep","known","due","found","trial"]
def G5:List Str:=["script"]
structure tf(Cm Ck Cd Cb:Addr)(H0:Hp)(x mx sl y M kd cd y2 I kd2 hd:Addr)(us:Ze)(J0 J1 J2 rooms':Zb)(ds ds':List ak):Prop where
 md:vD Cm Ck Cd H0 mx sl y M kd cd us J0 J1 J2 ds
 ks:BI Cm Ck H0 y2 I kd2 J0 J1 rooms' ds'
 ob:∃(dx:Addr) (fs:List (Str×V)),H0 x=some (.ins Cb dx fs)/\lk "made" fs=some (.ref mx)/\lk "own_steps" fs=some (.ref y2)/\lk "known_firsts" fs=some (.ref hd)/\∀f:Str,f≠"made"->f≠"own_steps"->f≠"known_harmless"->f≠"known_firsts"->lk f fs=none
 hdn:H0 hd=none
 n1:kd2≠kd/\kd2≠cd
 n2:hd≠kd/\hd≠cd/\hd≠kd2
structure ff(H0 H:Hp)(kd cd kd2 hd:Addr)(kv cv kv2 hv:List (TK×V))(J0 J1 J2 rooms':Zb)(ds ds':List ak)(n:Nat):Prop where
 md:dH H0 H kd cd kv cv J0 J1 J2 ds n
 ks:eZ H0 H kd2 kv2 J0 J1 rooms' ds' n
 hhd:H hd=some (.dT hv)
 hok:∀p∈hv,∃(J6 own:Zb) (d:Nat),p=(Be J6 own d,j5 (fstM J0 J1 J2 rooms' ds ds' d own J6))
 hlen:hv.length<=n
 d1:∀k b,(k,V.ref b)∈kv->b≠kd2/\b≠hd/\∀k',(k',V.ref b)∉kv2
 d2:∀k b,(k,V.ref b)∈kv2->b≠kd/\b≠cd/\b≠hd
section
variable{Cm Ck Cd Cb:Addr}{H0 H H':Hp}{x mx sl y M kd cd y2 I kd2 hd:Addr}{us:Ze}{kv cv kv2 hv kv' cv':List (TK×V)}{J0 J1 J2 rooms' J6 own:Zb}{ds ds':List ak}{n m d:Nat}
theorem ff.up(h:ff H0 H kd cd kd2 hd kv cv kv2 hv J0 J1 J2 rooms' ds ds' n)(S:ab H H'):ff H0 H' kd cd kd2 hd kv cv kv2 hv J0 J1 J2 rooms' ds ds' n:=⟨h.md.up S,h.ks.up S,S _ _ h.hhd,h.hok,h.hlen,h.d1,h.d2⟩
theorem ff.more(h:ff H0 H kd cd kd2 hd kv cv kv2 hv J0 J1 J2 rooms' ds ds' n)(l:n<=m):ff H0 H kd cd kd2 hd kv cv kv2 hv J0 J1 J2 rooms' ds ds' m:=⟨h.md.more l,h.ks.more l,h.hhd,h.hok,aE h.hlen l,h.d1,h.d2⟩
theorem ff.cell{f:Addr}{g ys:List V}(h:ff H0 H kd cd kd2 hd kv cv kv2 hv J0 J1 J2 rooms' ds ds' n)(e:H0 f=none)(a:H f=some (.lst g)):ff H0 (upd H f (.lst ys)) kd cd kd2 hd kv cv kv2 hv J0 J1 J2 rooms' ds ds' n :=
 ⟨h.md.cell e a,h.ks.cell e a,by rw[ai (fun z=>by have:=h.hhd;rw[z,a]at this;cases this)];exact h.hhd,h.hok,h.hlen,h.d1,h.d2⟩
theorem ff.step(h:ff H0 H kd cd kd2 hd kv cv kv2 hv J0 J1 J2 rooms' ds ds' n)(St:tf Cm Ck Cd Cb H0 x mx sl y M kd cd y2 I kd2 hd us J0 J1 J2 rooms' ds ds')(D:dH (exH H (Hw kd cd kv)) H' kd cd kv' cv' J0 J1 J2 ds m)(l:n<=m):ff H0 H' kd cd kd2 hd kv' cv' kv2 hv J0 J1 J2 rooms' ds ds' m:=by
 have i:ab H0 (exH H (Hw kd cd kv)):=vb h.md.ks.same (h.md.noneP St.md.ks.kdn St.md.cdn);have out:∀{b:Addr}{o:HO},H b=some o->b≠kd->b≠cd->(∀k,(k,V.ref b)∉kv)->exH H (Hw kd cd kv) b=some o:=fun e v A B=>by
  rw[p9 (fun z=>z.elim A fun z=>z.elim v fun⟨k,q⟩=>B k q)];exact e
 have j:=out h.ks.hkd St.n1.1 St.n1.2 fun k q=>(h.d1 k _ q).1 rfl;have s:=out h.hhd St.n2.1 St.n2.2.1 fun k q=>(h.d1 k _ q).2.1 rfl;have own:∀{k:TK}{b:Addr},(k,V.ref b)∈kv2->∀o,H b=some o->exH H (Hw kd cd kv) b=some o:=fun q o e=>out e (h.d2 _ _ q).1 (h.d2 _ _ q).2.1 fun t g=>(h.d1 t _ g).2.2 _ q;have kt:gv H H':=fun b J e=>D.ks.same _ _ (out e (fun z=>by rw[z,h.md.ks.hkd]at e;cases e) (fun z=>by rw[z,h.md.hcd]at e;cases e) fun k q=>by obtain⟨_,_,a,r⟩:=h.md.ks.fresh q;rcases r with r|⟨_,r⟩<;>(rw[r]at e;cases e));refine⟨D.weak i,⟨i.trans D.ks.same,D.ks.same _ _ j,fun p u=>?_,aE h.ks.len l⟩,D.ks.same _ _ s,h.hok,aE h.hlen l,fun k b q=>?_,h.d2⟩
 ·obtain⟨f,d,a,e,C,E,r,st⟩:=h.ks.kok p u;exact⟨f,d,a,e,C,E,ie (fun o G=>D.ks.same _ _ (own (by rw[<-e];exact u) o G)) r,st.kt kt⟩
 ·obtain⟨_,z,_⟩:=D.ks.fresh q;refine⟨fun w=>(by rw[w,j]at z;cases z),fun w=>(by rw[w,s]at z;cases z),fun t g=>?_⟩;obtain⟨_,_,a,r⟩:=h.ks.fresh g;rcases r with r|⟨_,r⟩<;>(rw[own g _ r]at z;cases z)
theorem ff.stepK(h:ff H0 H kd cd kd2 hd kv cv kv2 hv J0 J1 J2 rooms' ds ds' n)(St:tf Cm Ck Cd Cb H0 x mx sl y M kd cd y2 I kd2 hd us J0 J1 J2 rooms' ds ds')(D:eZ (exH H (Jo kd2 kv2)) H' kd2 kv' J0 J1 rooms' ds' m)(l:n<=m):ff H0 H' kd cd kd2 hd kv cv kv' hv J0 J1 J2 rooms' ds ds' m:=by
 have g:ab H0 (exH H (Jo kd2 kv2)):=vb h.ks.same (h.ks.noneP St.ks.kdn);have out:∀{b:Addr}{o:HO},H b=some o->b≠kd2->(∀k,(k,V.ref b)∉kv2)->exH H (Jo kd2 kv2) b=some o:=fun e u v=>by
  rw[p9 (fun z=>z.elim u fun⟨k,q⟩=>v k q)];exact e
 have i:=out h.md.ks.hkd St.n1.1.symm fun k q=>(h.d2 k _ q).1 rfl;have j:=out h.md.hcd St.n1.2.symm fun k q=>(h.d2 k _ q).2.1 rfl;have s:=out h.hhd St.n2.2.2 fun k q=>(h.d2 k _ q).2.2 rfl;have own:∀{k:TK}{b:Addr},(k,V.ref b)∈kv->∀o,H b=some o->exH H (Jo kd2 kv2) b=some o:=fun q o e=>out e (h.d1 _ _ q).1 (h.d1 _ _ q).2.2;have kt:gv H H':=fun b G e=>D.same _ _ (out e (fun z=>by rw[z,h.ks.hkd]at e;cases e) fun k q=>by obtain⟨_,_,a,r⟩:=h.ks.fresh q;rcases r with r|⟨_,r⟩<;>(rw[r]at e;cases e));refine⟨⟨⟨g.trans D.same,D.same _ _ i,fun p t=>?_,aE h.md.ks.len l⟩,h.md.ncd,D.same _ _ j,h.md.cok,aE h.md.clen l⟩,D.weak g,D.same _ _ s,h.hok,aE h.hlen l,fun k b q=>⟨(h.d1 k b q).1,(h.d1 k b q).2.1,fun J A=>?_⟩,fun k b q=>?_⟩
 ·obtain⟨f,d,a,e,B,C,r,st⟩:=h.md.ks.kok p t;exact⟨f,d,a,e,B,C,ie (fun o E=>D.same _ _ (own (by rw[<-e];exact t) o E)) r,st.kt kt⟩
 ·obtain⟨_,z,_⟩:=D.fresh A;obtain⟨_,_,a,r⟩:=h.md.ks.fresh q;rcases r with r|⟨_,r⟩<;>(rw[own q _ r]at z;cases z)
 ·obtain⟨_,z,_⟩:=D.fresh q;exact⟨fun w=>(by rw[w,i]at z;cases z),fun w=>(by rw[w,j]at z;cases z),fun w=>by rw[w,s]at z;cases z⟩
theorem ff.val{w:V}(h:ff H0 H kd cd kd2 hd kv cv kv2 hv J0 J1 J2 rooms' ds ds' n)(v:bb hv (Be J6 own d)=some w):w=j5 (fstM J0 J1 J2 rooms' ds ds' d own J6):=by
 obtain⟨f,g,e,q⟩:=h.hok _ (fR v);injection q with a i;obtain⟨rfl,rfl,rfl⟩:=Jr a;exact i
theorem ff.put(h:ff H0 H kd cd kd2 hd kv cv kv2 hv J0 J1 J2 rooms' ds ds' n)(St:tf Cm Ck Cd Cb H0 x mx sl y M kd cd y2 I kd2 hd us J0 J1 J2 rooms' ds ds'):
  ff H0 (upd H hd (.dT (dh hv (Be J6 own d) (j5 (fstM J0 J1 J2 rooms' ds ds' d own J6))))) kd cd kd2 hd kv cv kv2 (dh hv (Be J6 own d) (j5 (fstM J0 J1 J2 rooms' ds ds' d own J6))) J0 J1 J2 rooms' ds ds' (n+1):=by
 have kt:gv H (upd H hd (.dT (dh hv (Be J6 own d) (j5 (fstM J0 J1 J2 rooms' ds ds' d own J6))))):=JY h.hhd;have j:∀{a:Addr}{g:List (TK×V)}{s:Zb}{t:List ak},eZ H0 H a g J0 J1 s t n->hd≠a->(∀k b,(k,V.ref b)∈g->b≠hd)->eZ H0 (upd H hd (.dT (dh hv (Be J6 own d) (j5 (fstM J0 J1 J2 rooms' ds ds' d own J6))))) a g J0 J1 s t (n+1):=fun q u v =>
  ⟨fun b o e=>by rw[ai (ae e St.hdn)];exact q.same _ _ e,by rw[ai u.symm];exact q.hkd,fun p i=>by
   obtain⟨f,d,l,e,w,z,r,st⟩:=q.kok p i;exact⟨f,d,l,e,w,z,ie (fun o A=>by rw[ai (v (eO f) d (by rw[<-e];exact i))];exact A) r,st.kt kt⟩,Nat.le_succ_of_le q.len⟩
 refine⟨⟨j h.md.ks St.n2.1 fun k b q=>(h.d1 k b q).2.1,h.md.ncd,by rw[ai St.n2.2.1.symm];exact h.md.hcd,h.md.cok,Nat.le_succ_of_le h.md.clen⟩,j h.ks St.n2.2.2 fun k b q=>(h.d2 k b q).2.2,aa,fun p i=>?_,aE (eV _ _ _) (ue h.hlen),h.d1,h.d2⟩;rcases uV i with i|rfl
 ·exact h.hok p i
 ·exact⟨_,_,_,rfl⟩
theorem tf.mdM(St:tf Cm Ck Cd Cb H0 x mx sl y M kd cd y2 I kd2 hd us J0 J1 J2 rooms' ds ds')(h:ff H0 H kd cd kd2 hd kv cv kv2 hv J0 J1 J2 rooms' ds ds' n):vD Cm Ck Cd (exH H (Hw kd cd kv)) mx sl y M kd cd us J0 J1 J2 ds :=
 St.md.up (vb h.md.ks.same (h.md.noneP St.md.ks.kdn St.md.cdn)) (rp (.inr (.inl rfl))) (rp (.inl rfl))
theorem tf.ksM(St:tf Cm Ck Cd Cb H0 x mx sl y M kd cd y2 I kd2 hd us J0 J1 J2 rooms' ds ds')(h:ff H0 H kd cd kd2 hd kv cv kv2 hv J0 J1 J2 rooms' ds ds' n):BI Cm Ck (exH H (Jo kd2 kv2)) y2 I kd2 J0 J1 rooms' ds' :=
 St.ks.up (vb h.ks.same (h.ks.noneP St.ks.kdn)) (rp (.inl rfl))
end
inductive k7(K:Za)(Cm Ck Cd Cb:Addr)(vs:List V)(H:Hp)(Q:VK)(E:XK):Prop
 |mk (H0:Hp) (x mx sl y M kd cd y2 I kd2 hd u w kl:Addr) (us:Ze) (kv cv kv2 hv:List (TK×V)) (n:Nat) (kind:List Sg) (J6 own J0 J1 J2 rooms':Zb) (ds ds':List ak):(vs=[.ref x,.ref u,.ref w,.ref kl])->(tf Cm Ck Cd Cb H0 x mx sl y M kd cd y2 I kd2 hd us J0 J1 J2 rooms' ds ds')->(ff H0 H kd cd kd2 hd kv cv kv2 hv J0 J1 J2 rooms' ds ds' n)->(H u=some (.tup (J6.map V.str)))->(∀r∈J6,r∈J2)->(J6.length<=1000)->(H w=some (.tup (own.map V.str)))->(∀r∈own,r∈rooms')->(own.length<=1000)->(dZ K H kl kind)->(∀sg∈kind,sg∈bZ J0 J1)->(kind.length<=5)->(n+2<=1000000) ->
  (∀(l:Addr) (ps:Ze) (kv' kv2':List (TK×V)) (H':Hp),H' l=some (.lst (ps.map V.ref))->Paired (Ii H') ps (kind.map fun sg=>(behF J2 ds J6 sg,behF rooms' ds' own sg))->ff H0 H' kd cd kd2 hd kv' cv kv2' hv J0 J1 J2 rooms' ds ds' (n+2)->Kp H H'->Q (.ref l) H')->k7 K Cm Ck Cd Cb vs H Q E
theorem CA{K:Za}{Cm Ck Cd Cb:Addr}(c:BC K Cb){t:List V}{H:Hp}{Q:VK}{E:XK}(h:k7 K Cm Ck Cd Cb t H Q E):qR K Ck (kz Cm Ck) Cd (iX Cm Ck Cd) (bj Q) (start rJ t) H:=by
 obtain⟨H0,x,mx,sl,y,M,kd,cd,y2,I,L,hd,u,w,kl,us,kv,cv,N,hv,n,O,J6,T,J0,J1,J2,a,ds,U,rfl,St,J,hu,a5,a6,hw,a7,a8,hk,a9,zk,hn,k⟩:=h;obtain⟨dx,fs,g0,l1,l2,l3,l4⟩:=St.ob;obtain⟨dm,fm,gm,_,_,_,m4⟩:=St.md.ob;obtain⟨dy,fy,gy,_,_,y3⟩:=St.ks.ob;refine⟨_,rfl,x,Cb,dx,fs,.ref mx,rfl,J.ks.same _ _ g0,c.cls,c.a1,l1,mx,dm,fm,rfl,J.ks.same _ _ gm,m4 "steps_from" (by decide +kernel) (by decide +kernel) (by decide +kernel),_,rfl,exH H (Hw kd cd kv),mx,sl,y,M,kd,cd,u,us,kv,cv,n,J6,J0,J1,J2,ds,rfl,St.mdM J,J.md.max,hu,a5,a6,by omega,fun sd bc _ H1 D1 v1 _ _ bd _=>?_⟩;have e:=J.step St D1 (by omega);have Y:Kp H H1:=Kp.exB J.md.ks.hkd rfl bd;refine⟨_,rfl,x,Cb,dx,fs,.ref y2,rfl,e.ks.same _ _ g0,c.cls,c.a2,l2,y2,dy,fy,rfl,e.ks.same _ _ gy,y3,_,rfl,exH H1 (Jo L N),y2,I,L,w,N,n+1,T,J0,J1,a,U,rfl,St.ksM e,e.ks.max fun _ z=>z,Y _ _ hw rfl,a7,a8,by omega,fun B bi _ H2 D2 v2 _ _ bl _=>?_⟩;have C:=e.stepK St D2 (by omega);have bm:Kp H1 H2:=Kp.exB e.ks.hkd rfl bl;have j:=Y.trans bm;obtain⟨l,r1,bn⟩:=C.md.ks.find v1;obtain⟨m,r2,bu⟩:=C.ks.find v2;obtain⟨ss,bw,al⟩:=hk;have an:=j _ _ bw rfl;refine⟨_,rfl,kl,rfl,⟨_,aw.of an⟩,fun f hf=>?_⟩
 let bz:Nat->List V->Hp->Prop:=fun i t H'=>∃D:List Addr,t=D.map V.ref/\ab H2 H'/\H' f=some (.lst t)/\Paired (Ii H') D ((O.take i).map fun g=>(behF J2 ds J6 g,behF a U T g))
 refine bX (xs:=ss.map V.ref) bz ⟨[],rfl,ab.new hf,aa,.nil⟩ (fun i t H' _ ⟨_,_,S,h',_⟩=>⟨h',aw.of (S _ _ an)⟩) ?_ ?_
 ·rintro t G ⟨D,rfl,v,f3,hP⟩;rw[ah,Paired.length al,be]at hP;exact k f D bc bi G f3 hP (C.up v) (j.trans (ab.kp v))
 ·rintro i t G z hz hi ⟨D,rfl,v,f3,hP⟩;obtain⟨s,hs,rfl⟩:=bY hz;obtain⟨g,ap,bI⟩:=Paired.getL al hs;have as:=a9 g (bT ap);have A:cE K G s (g.map V.str):=cE.kt (j.trans (ab.kp v)).kt bI;have aC:=ie (v sd) r1;have a0:=ie (v B) r2;have bS:nM K G sd (.ref s) (bb l (eO g)):=.inr ⟨_,eO g,s,aC,rfl,yu A,fD _,rfl⟩;have b1:nM K G B (.ref s) (bb m (eO g)):=.inr ⟨_,eO g,s,a0,rfl,yu A,fD _,rfl⟩;refine gN (pc ?_);refine⟨_,rfl,sd,rfl,.inr ⟨_,aC⟩,_,rfl,_,bS,_,rfl,B,rfl,.inr ⟨_,a0⟩,_,rfl,_,b1,(by show 2<=aj;decide),fun p hp=>⟨kp f3 hp,?_,mF hi ⟨D++[p],by rw[av];rfl,?_,aa,?_⟩⟩⟩
  ·rw[ah,Paired.length hP,ah,aI];exact ao (by omega)
  ·intro b o q;rw[ai (ae q hf)];exact kp (v _ _ q) hp
  ·rw[take_snoc ap,av];have k1:gv G (upd G p (.tup [(bb l (eO g)).getD .non,(bb m (eO g)).getD .non])):=ab.kt (ab.new hp);have k2:=eW (o:=.lst (D.map V.ref++[.ref p])) (kp (x:=.tup [(bb l (eO g)).getD .non,(bb m (eO g)).getD .non]) f3 hp);have hk:=k1.trans k2;have a4:=(ab.kt v).trans hk;exact ge (Paired.mapP hP fun _ _ r=>r.kt hk) ⟨_,_,k2 _ _ aa,(bn.fcV as).kt a4,(bu.fcV as).kt a4⟩
open Builtin.Int (intBits)
def fB:Nat->Nat
 |0=>0
 |d+1=>17+25 * fB d+50 * nB d
inductive oG(Cm Ck Cd Cb:Addr)(D:Nat)(vs:List V)(H:Hp)(Q:VK)(E:XK):Prop
 |mk (H0:Hp) (x mx sl y M kd cd y2 I kd2 hd:Addr) (v w:V) (us:Ze) (kv cv kv2 hv:List (TK×V)) (n d:Nat) (J6 own J0 J1 J2 rooms':Zb) (ds ds':List ak):(vs=[.ref x,v,w,.int (d:Nat)])->(d<=D)->(tf Cm Ck Cd Cb H0 x mx sl y M kd cd y2 I kd2 hd us J0 J1 J2 rooms' ds ds')->(ff H0 H kd cd kd2 hd kv cv kv2 hv J0 J1 J2 rooms' ds ds' n)->(Kh H v J6)->(∀r∈J6,r∈J2)->(J6.length<=1000)->(Kh H w own)->(∀r∈own,r∈rooms')->(own.length<=1000)->(n+fB d<=1000000) ->
  (∀(kv' cv' kv2' hv':List (TK×V)) (H':Hp),ff H0 H' kd cd kd2 hd kv' cv' kv2' hv' J0 J1 J2 rooms' ds ds' (n+fB d)->Kp H H'->Q (j5 (fstM J0 J1 J2 rooms' ds ds' d own J6)) H')->oG Cm Ck Cd Cb D vs H Q E
inductive AG(K:Za)(Cm Ck Cd Cb:Addr)(D:Nat)(vs:List V)(H:Hp)(Q:VK)(E:XK):Prop
 |mk (H0:Hp) (x mx sl y M kd cd y2 I kd2 hd u w kl:Addr) (us:Ze) (kv cv kv2 hv:List (TK×V)) (n d:Nat) (kind:List Sg) (J6 own J0 J1 J2 rooms':Zb) (ds ds':List ak):(vs=[.ref x,.ref u,.ref w,.int ((d+1:Nat)),.ref kl])->(d<=D)->(d<=4)->(tf Cm Ck Cd Cb H0 x mx sl y M kd cd y2 I kd2 hd us J0 J1 J2 rooms' ds ds')->(ff H0 H kd cd kd2 hd kv cv kv2 hv J0 J1 J2 rooms' ds ds' n)->(H u=some (.tup (J6.map V.str)))->(∀r∈J6,r∈J2)->(J6.length<=1000)->(H w=some (.tup (own.map V.str)))->(∀r∈own,r∈rooms')->(own.length<=1000)->(dZ K H kl kind)->(∀sg∈kind,sg∈bZ J0 J1)->(kind.length<=5)->(n+2+5 * (fB d+nB d)<=1000000) ->
  (∀(kv' cv' kv2' hv':List (TK×V)) (H':Hp),ff H0 H' kd cd kd2 hd kv' cv' kv2' hv' J0 J1 J2 rooms' ds ds' (n+2+5 * (fB d+nB d))->Kp H H'->Q (j5 (fstKf J0 J1 J2 rooms' ds ds' d (fstM J0 J1 J2 rooms' ds ds' d) own J6 kind)) H')->AG K Cm Ck Cd Cb D vs H Q E
inductive uC(K:Za)(Cm Ck Cd Cb:Addr)(D:Nat)(vs:List V)(H:Hp)(Q:VK)(E:XK):Prop
 |mk (H0:Hp) (x mx sl y M kd cd y2 I kd2 hd u w:Addr) (us:Ze) (kv cv kv2 hv:List (TK×V)) (n d:Nat) (J6 own J0 J1 J2 rooms':Zb) (ds ds':List ak):(vs=[.ref x,.ref u,.ref w,.int ((d+1:Nat))])->(d<=D)->(d<=4)->(tf Cm Ck Cd Cb H0 x mx sl y M kd cd y2 I kd2 hd us J0 J1 J2 rooms' ds ds')->(ff H0 H kd cd kd2 hd kv cv kv2 hv J0 J1 J2 rooms' ds ds' n)->(H u=some (.tup (J6.map V.str)))->(∀r∈J6,r∈J2)->(J6.length<=1000)->(H w=some (.tup (own.map V.str)))->(∀r∈own,r∈rooms')->(own.length<=1000)->(n+16+25 * fB d+50 * nB d<=1000000) ->
  (∀(kv' cv' kv2' hv':List (TK×V)) (H':Hp),ff H0 H' kd cd kd2 hd kv' cv' kv2' hv' J0 J1 J2 rooms' ds ds' (n+16+25 * fB d+50 * nB d)->Kp H H'->Q (j5 (iC (fun a=>fstKf J0 J1 J2 rooms' ds ds' d (fstM J0 J1 J2 rooms' ds ds' d) own J6 (aR J1 a)) (prodA J0 J1 J2 ds d J6) ((askedF J0 J2 ds J6).map some++[none]) 1)) H')->uC K Cm Ck Cd Cb D vs H Q E
theorem K8{K:Za}{Cm Ck Cd Cb:Addr}(c:BC K Cb){D:Nat}{vs:List V}{H:Hp}{Q:VK}{E:XK}(h:AG K Cm Ck Cd Cb D vs H Q E):kn K Cb (k7 K Cm Ck Cd Cb) Cd (iq Cm Ck Cd 4) (oG Cm Ck Cd Cb D) (bj Q) (start kO vs) H:=by
 obtain⟨H0,x,mx,sl,y,M,kd,cd,y2,I,al,hd,u,w,kl,us,kv,cv,b5,hv,n,d,g,B,s,J0,J1,J2,f,ds,ds',rfl,hD,d4,St,Dy,hu,a4,a5,hw,a9,bd,hk,b6,zk,hn,k⟩:=h;obtain⟨dx,fs,g0,l1,l2,l3,l4⟩:=St.ob;obtain⟨dm,fm,gm,_,_,_,m4⟩:=St.md.ob;have mo:=St.md.ks.mach.ok;have b7:=St.ks.mach.ok;have z1:=mo.asks4;have z2:=mo.says4;have z3:=mo.rooms26;have z4:=b7.rooms26;have b4:=xy d d4;refine⟨(by show 0<=aj;decide),fun nl a6=>?_⟩;have Sn:ab H (upd H nl (.lst [])):=ab.new a6;have KU:upd H nl (.lst []) nl=some (.lst (([]:List Int).map V.int)):=aa;generalize upd H nl (.lst [])=Hn at Sn KU ⊢;have bi:=Dy.up Sn;have b8:H0 nl=none:=Dy.ks.same.free a6;have cc:dZ K Hn kl g:=by
  obtain⟨gs,h1,h2⟩:=hk;exact⟨gs,Sn _ _ h1,Paired.mapP h2 fun _ _ r=>cE.kt (ab.kt Sn) r⟩
 refine⟨_,rfl,x,dx,fs,rfl,bi.ks.same _ _ g0,l4 "places" (by decide +kernel) (by decide +kernel) (by decide +kernel) (by decide +kernel),_,rfl,_,rfl,_,rfl,H0,x,mx,sl,y,M,kd,cd,y2,I,al,hd,u,w,kl,us,kv,cv,b5,hv,n,g,B,s,J0,J1,J2,f,ds,ds',rfl,St,bi,Sn _ _ hu,a4,a5,Sn _ _ hw,a9,bd,cc,b6,zk,by omega,fun l ps ce bl H1 hl hP cf C=>⟨l,_,rfl,aw.of hl,?_⟩⟩;have zp:ps.length=g.length:=by rw[Paired.length hP,ah]
 have ch:l≠nl∨ps=[]:=by
  by_cases e:l=nl
  ·right
   have:=C _ _ KU rfl;rw[<-e,hl]at this;injection this with this;injection this with this;exact qx.1 this
  ·exact .inl e
 obtain⟨J,hJ⟩:∃J:Nat->L2.St->Hp->Prop,∀i σ H',J i σ H'↔NE9 fun(G L j N:List (TK×V)) (v:List Int) (wt:Int) (x7 x8 x9:Option V)=>NA7 (σ=[some (.ref x),some (.ref u),some (.ref w),some (.int ((d+1:Nat))),some (.ref kl),some (.ref nl),some (.int wt),x7,x8,x9]) (iz (fun sg=>cntM J0 J1 J2 ds d (behF J2 ds B sg)) (fun sg=>fstM J0 J1 J2 f ds ds' d (behF f ds' s sg) (behF J2 ds B sg)) g.reverse 1=v++iz (fun sg=>cntM J0 J1 J2 ds d (behF J2 ds B sg)) (fun sg=>fstM J0 J1 J2 f ds ds' d (behF f ds' s sg) (behF J2 ds B sg)) (g.reverse.drop i) wt) (v.length<=i) (intBits wt<=i * bB d+1) (H' nl=some (.lst (v.map V.int))) ((∀b o,H1 b=some o->KS o=true->b≠nl->H' b=some o)) (ff H0 H' kd cd al hd G L j N J0 J1 J2 f ds ds' (n+2+i * (fB d+nB d))):=⟨_,fun _ _ _=>Iff.rfl⟩;refine Ju (xs:=ps.map V.ref) J ((hJ ..).2 ⟨ce,cv,bl,hv,[],1,_,_,_,rfl,rfl,aB _,by show intBits 1<=_;have:intBits 1<=1:=(by decide);omega,C _ _ KU rfl,fun _ _ e _ _=>e,cf.more (by omega)⟩) (fun i σ H' hi hh=>?_) ?_ ?_
 ·obtain⟨_,_,_,_,v,_,_,_,_,_,_,zn,_,as,ex,_⟩:=(hJ ..).1 hh;rcases ch with q|q
  ·exact aw.of (ex _ _ hl rfl q)
  ·by_cases e:l=nl
   ·have:v=[]:=by
     rw[q]at hi;cases v with
     |nil=>rfl
     |cons a r=>exact absurd (aE zn hi) (by simp)
    rw[this]at as;rw[q,e];exact aw.of as
   ·exact aw.of (ex _ _ hl rfl e)
 ·intro i z σ H2 hz hi hh;obtain⟨G,L,j,N,v,wt,x7,x8,x9,rfl,eN,zn,bw,O,an,T⟩:=(hJ ..).1 hh;rw[ah]at hz hi;obtain⟨p,hp,rfl⟩:=bY hz;obtain⟨q,hq,v1,w1,e,fv,fw⟩:=Paired.getL hP hp;rw[cF]at hq;obtain⟨sg,cl,rfl⟩:=kR.1 hq;have il:i<g.length:=by omega
  have bn:g.reverse[i]?=some sg:=by rw[qy il,<-zp];exact cl
  have ed:g.reverse.drop i=sg::g.reverse.drop (i+1):=by
   obtain⟨h1,h2⟩:=bM.1 bn;rw[jV h1,h2]
  rw[ed]at eN;have c5:(i+1) * (fB d+nB d)=i * (fB d+nB d)+(fB d+nB d):=gA _ _;have c3:(i+1) * (fB d+nB d)<=5 * (fB d+nB d):=c_ _ (by omega);have c4:(i+1) * bB d=i * bB d+bB d:=gA _ _;have cm:i * bB d<=4 * bB d:=c_ _ (by omega);have ap:gv H1 H2:=fun b xs q=>an _ _ q rfl fun z=>by have:=C _ _ KU rfl;rw[<-z,q]at this;cases this
  have bu:(((d+1:Nat):Int)-1)=(d:Nat):=by omega
  refine⟨p,_,rfl,bQ.of (ap _ _ e),rfl,_,_,rfl,_,_,rfl,rfl,?_⟩;refine⟨_,rfl,x,dx,fs,rfl,T.ks.same _ _ g0,l4 "first_at" (by decide +kernel) (by decide +kernel) (by decide +kernel) (by decide +kernel),_,rfl,_,rfl,_,rfl,_,_,rfl,rfl,H0,x,mx,sl,y,M,kd,cd,y2,I,al,hd,v1,w1,us,G,L,j,N,_,d,behF J2 ds B sg,behF f ds' s sg,J0,J1,J2,f,ds,ds',?_,hD,St,T,fv.kt ap,qg a4,fU (by omega) a5,fw.kt ap,qg a9,fU (by omega) bd,by omega,fun a7 bz aC bI H3 bS a8=>?_⟩
  ·show[V.ref x,v1,w1,V.int (((d+1:Nat):Int)-1)]=_;rw[bu]
  have A:=a8 _ _ O rfl;have bc:=js (J0:=J0) (J1:=J1) (J2:=J2) (ds:=ds) z1 z2 d (behF J2 ds B sg);have a0:∀(U:List Int) (H4:Hp),v++Fn (fstM J0 J1 J2 f ds ds' d (behF f ds' s sg) (behF J2 ds B sg)) wt=U->U.length<=i+1->H4 nl=some (.lst (U.map V.int))->(∀b o,H3 b=some o->b≠nl->H4 b=some o)->ff H0 H4 kd cd al hd a7 bz aC bI J0 J1 J2 f ds ds' (n+2+i * (fB d+nB d)+fB d) ->
    (aM (aH nP V6 (cn Cd "count_at" (iq Cm Ck Cd 4) [] E0 (fN K V0 "made") (aX V7 (aH mz V3 (tC (.int 1)))))) U6) { nx:=J (i+1),rt:=Q } [some (.ref x),some (.ref u),some (.ref w),some (.int ((d+1:Nat))),some (.ref kl),some (.ref nl),some (.int wt),some v1,some w1,some (j5 (fstM J0 J1 J2 f ds ds' d (behF f ds' s sg) (behF J2 ds B sg)))] H4:=by
   intro U H4 en co b1 b2 Y;have cp:gv H1 H4:=fun b xs q=>b2 _ _ (a8 _ _ (ap _ _ q) rfl) fun z=>by have:=C _ _ KU rfl;rw[<-z,q]at this;cases this
   refine⟨_,rfl,_,rfl,x,Cb,dx,fs,.ref mx,rfl,Y.ks.same _ _ g0,c.cls,c.a1,l1,mx,dm,fm,rfl,Y.ks.same _ _ gm,m4 "count_at" (by decide +kernel) (by decide +kernel) (by decide +kernel),_,rfl,_,rfl,_,_,rfl,rfl,exH H4 (Hw kd cd a7),mx,sl,y,M,kd,cd,us,v1,a7,bz,_,d,behF J2 ds B sg,J0,J1,J2,ds,?_,d4,St.mdM Y,Y.md.max,?_,?_,qg a4,fU (by omega) a5,by omega,fun cs ct H5 D5 b3 _=>?_⟩
   ·show[V.ref mx,v1,V.int (((d+1:Nat):Int)-1)]=_;rw[bu]
   ·exact(fv.kt cp).imp id fun⟨u,e,_,q⟩=>⟨u,e,q⟩
   ·rcases fv with⟨rfl,_⟩|⟨u,rfl,q,_⟩
    ·exact fun z=>absurd rfl z
    ·exact fun _=>q
   have c0:=Y.step St D5 (by omega);refine⟨_,_,rfl,rfl,nV bw bc (by omega),(hJ ..).2 ⟨cs,ct,aC,bI,U,_,_,_,_,rfl,?_,co,?_,b3 _ _ b1 rfl,fun b o q no nb=>b3 _ _ (b2 _ _ (a8 _ _ (an _ _ q no nb) no) nb) no,c0.more (by omega)⟩⟩
   ·rw[eN,<-en,eQ];rfl
   ·have:=intBits_mul_le bw bc;omega
  refine⟨_,rfl,_,rfl,?_⟩;cases ef:fstM J0 J1 J2 f ds ds' d (behF f ds' s sg) (behF J2 ds B sg)with
  |none =>
   have t:=a0 v H3 (by rw[ef];exact dJ _) (by omega) A (fun _ _ e _=>e) bS;rw[ef]at t;exact bA t
  |some m =>
   obtain⟨m0,m1⟩:=kE J0 J1 J2 f ds ds' d _ _ m ef;have bm:=xr m0 (qq m1) bc;refine bP ⟨_,rfl,.inl ⟨rfl,_,aw.of A⟩,_,rfl,_,rfl,_,_,rfl,rfl,nV bm bw (by omega),nl,_,_,rfl,rfl,A,by rw[ah];exact ao (by omega),?_⟩;have t:=a0 (v++[m * wt]) (upd H3 nl (.lst (v.map V.int++[.int (m * wt)]))) (by rw[ef];rfl) (by rw[a_];show _+1<=_;omega) (by rw[aa,av];rfl) (fun b o e nb=>by rw[ai nb];exact e) (bS.cell b8 A);rw[ef]at t;exact t
 ·intro σ H2 hh;obtain⟨G,L,j,N,v,wt,x7,x8,x9,rfl,eN,zn,bw,O,an,T⟩:=(hJ ..).1 hh;rw[ah,zp,<-eG,mf]at eN;have eN:_=v++[]:=eN;rw[dJ]at eN;rw[ah,zp]at T;have m5:g.length * (fB d+nB d)<=5 * (fB d+nB d):=c_ _ zk;have c1:Kp H H2:=fun b o q no=>an _ _ (C _ _ (Sn _ _ q) no) no (ae q a6);have kk:=k G L j N H2 (T.more (by omega)) c1;unfold fstKf at kk;rw[eN]at kk;refine⟨_,rfl,nl,v,rfl,aw.of O,fun e=>?_,fun m hm c2=>?_⟩
  ·rw[e]at kk;exact kk
  ·rw[Jn hm c2]at kk;exact kk
theorem Kq{K:Za}{Cm Ck Cd Cb:Addr}(c:BC K Cb){D:Nat}{vs:List V}{H:Hp}{Q:VK}{E:XK}(h:uC K Cm Ck Cd Cb D vs H Q E):jY K Cd (kq K Cm Ck Cd) (jd K Cm Ck Cd 4) Cb (AG K Cm Ck Cd Cb D) (bj Q) (start j8 vs) H:=by
 obtain⟨H0,x,J,sl,y,M,kd,cd,y2,I,an,hd,u,w,us,kv,cv,a6,hv,n,d,J6,o,j,J1,J2,f,ds,g,rfl,hD,d4,St,Dy,hu,L,N,hw,a7,a8,hn,k⟩:=h;obtain⟨dx,fs,g0,l1,l2,l3,l4⟩:=St.ob;obtain⟨dm,fm,gm,_,_,_,m4⟩:=St.md.ob;have mo:=St.md.ks.mach.ok;have z1:=mo.asks4;have z2:=mo.says4;refine⟨_,rfl,x,Cb,dx,fs,.ref J,rfl,Dy.ks.same _ _ g0,c.cls,c.a1,l1,J,dm,fm,rfl,Dy.ks.same _ _ gm,m4 "kinds_at" (by decide +kernel) (by decide +kernel) (by decide +kernel),_,rfl,exH H (Hw kd cd kv),J,sl,y,M,kd,cd,u,us,kv,cv,n,J6,j,J1,J2,ds,rfl,St.mdM Dy,Dy.md.max,hu,L,N,by omega,fun l ks a9 H1 hl hK E1 C _=>⟨l,rfl,⟨_,aw.of hl⟩,?_⟩⟩;have D1:=Dy.step St E1 (by omega);have u1:=C _ _ hu rfl;have w1:=C _ _ hw rfl;rw[jI]at hK;generalize hA:((askedF j J2 ds J6).map some++[none]:List (Option Str))=A at hK k;have zA:A.length<=5:=by
  rw[<-hA,a_,ah];have:(askedF j J2 ds J6).length<=4:=aE (cO _ _) z1;show _+1<=5;omega
 have O:ks.length=A.length:=by rw[Paired.length hK,ah]
 have ap:∀a∈A,∀sg∈aR J1 a,sg∈bZ j J1:=fun a ha=>FY (J2:=J2) (ds:=ds) (J6:=J6) (by rw[hA];exact ha)
 let bc:Nat->L2.St->Hp->Prop:=fun i σ H'=>NE7 fun(bd bi as bl:List (TK×V)) (p:Int) (x5 x6:Option V)=>Lx (σ=[some (.ref x),some (.ref u),some (.ref w),some (.int ((d+1:Nat))),some (.int p),x5,x6]) (iC (fun a=>fstKf j J1 J2 f ds g d (fstM j J1 J2 f ds g d) o J6 (aR J1 a)) (prodA j J1 J2 ds d J6) A 1=iC (fun a=>fstKf j J1 J2 f ds g d (fstM j J1 J2 f ds g d) o J6 (aR J1 a)) (prodA j J1 J2 ds d J6) (A.drop i) p) (Kp H1 H') (ff H0 H' kd cd an hd bd bi as bl j J1 J2 f ds g (n+1+i * (3+5 * fB d+10 * nB d)))
 refine bO (xs:=ks.map V.ref) bc
  ⟨a9,cv,a6,hv,1,_,_,rfl,rfl,fun _ _ e _=>e,D1.more (by omega)⟩ (fun i σ H' _ ⟨_,_,_,_,_,_,_,_,_,bm,_⟩=>aw.of (bm _ _ hl rfl)) ?_ ?_
 ·rintro i z σ H2 hz ⟨v,T,B,U,p,x5,x6,rfl,ea,t,D2⟩;obtain⟨q,hq,rfl⟩:=bY hz;have il:i<A.length:=by rw[<-O];exact(bM.1 hq).1
  obtain⟨b,Y⟩:∃b,A[i]?=some b:=⟨_,da il⟩;obtain⟨b1,r,aC⟩:=Paired.getL hK hq;rw[cF,Y]at r;injection r with r;subst r;have ed:A.drop i=b::A.drop (i+1):=by
   obtain⟨h1,h2⟩:=bM.1 Y;rw[jV h1,h2]
  rw[ed]at ea;have b2:(i+1) * (3+5 * fB d+10 * nB d)=i * (3+5 * fB d+10 * nB d)+(3+5 * fB d+10 * nB d):=gA _ _;have bS:(i+1) * (3+5 * fB d+10 * nB d)<=5 * (3+5 * fB d+10 * nB d):=c_ _ (by omega);have a0:=ap b (bT Y);have zp:(aR J1 b).length<=5:=by rw[eD];omega
  refine⟨_,rfl,x,dx,fs,rfl,D2.ks.same _ _ g0,l4 "first_of_kind" (by decide +kernel) (by decide +kernel) (by decide +kernel) (by decide +kernel),_,rfl,_,rfl,_,rfl,_,rfl,H0,x,J,sl,y,M,kd,cd,y2,I,an,hd,u,w,q,us,v,T,B,U,_,d,aR J1 b,J6,o,j,J1,J2,f,ds,g,rfl,hD,d4,St,D2,t _ _ u1 rfl,L,N,t _ _ w1 rfl,a7,a8,aC.kp t,a0,zp,by omega,fun al a4 G a5 H3 D3 bn=>?_⟩;refine⟨_,rfl,_,rfl,?_⟩;have s:=t.trans bn;cases ef:fstKf j J1 J2 f ds g d (fstM j J1 J2 f ds g d) o J6 (aR J1 b)with
  |some m =>
   refine bP ⟨_,rfl,_,rfl,_,_,rfl,rfl,?_⟩;have kk:=k al a4 G a5 H3 (D3.more (by omega)) (C.trans s);rw[ea]at kk;have:iC (fun a=>fstKf j J1 J2 f ds g d (fstM j J1 J2 f ds g d) o J6 (aR J1 a)) (prodA j J1 J2 ds d J6) (b::A.drop (i+1)) p=some (p+m):=by
    unfold iC;rw[ef]
   rw[this]at kk;exact kk
  |none =>
   refine bA ?_;have bu:iC (fun a=>fstKf j J1 J2 f ds g d (fstM j J1 J2 f ds g d) o J6 (aR J1 a)) (prodA j J1 J2 ds d J6) A 1=iC (fun a=>fstKf j J1 J2 f ds g d (fstM j J1 J2 f ds g d) o J6 (aR J1 a)) (prodA j J1 J2 ds d J6) (A.drop (i+1)) (p+prodA j J1 J2 ds d J6 b):=by
    rw[ea];conv=>lhs;unfold iC
    rw[ef]
   refine⟨_,rfl,_,rfl,x,Cb,dx,fs,.ref J,rfl,D3.ks.same _ _ g0,c.cls,c.a1,l1,J,dm,fm,rfl,D3.ks.same _ _ gm,m4 "count_of" (by decide +kernel) (by decide +kernel) (by decide +kernel),_,rfl,_,rfl,_,rfl,exH H3 (Hw kd cd al),J,sl,y,M,kd,cd,u,q,us,al,a4,_,d,aR J1 b,J6,j,J1,J2,ds,rfl,by omega,by omega,St.mdM D3,D3.md.max,s _ _ u1 rfl,L,N,aC.kp s,a0,zp,by omega,fun bw bz H5 E5 bI _=>?_⟩;have D5:=D3.step St E5 (by omega);exact⟨_,_,rfl,rfl,bw,bz,G,a5,_,_,_,rfl,bu,s.trans bI,D5.more (by omega)⟩
 ·rintro σ H2 ⟨v,T,B,U,p,x5,x6,rfl,ea,t,D2⟩;rw[ah,O,mf]at ea;rw[ah,O]at D2;have m5:A.length * (3+5 * fB d+10 * nB d)<=5 * (3+5 * fB d+10 * nB d):=c_ _ zA;have kk:=k v T B U H2 (D2.more (by omega)) (C.trans t);rw[ea]at kk;exact kk
theorem Kr{K:Za}{Cm Ck Cd t:Addr}(c:BC K t){D:Nat}{J:Sp}(d5:D<=4)(hO:∀m,D=m+1->J=uC K Cm Ck Cd t m){vs:List V}{H:Hp}{Q:VK}{E:XK}(h:oG Cm Ck Cd t D vs H Q E):oy K t J (bj Q) (start oW vs) H:=by
 obtain⟨H0,x,mx,sl,y,M,kd,cd,y2,I,L,q,v,w,us,kv,cv,N,hv,n,d,J6,own,O,T,U,f,Y,i,rfl,hD,St,Dy,fv,ap,as,fw,aC,a0,hn,k⟩:=h;obtain⟨dx,fs,g0,l1,l2,l3,l4⟩:=St.ob;have g:∀r:Option Int,fstM O T U f Y i d own J6=r->Q (j5 r) H:=fun r e=>by
  have:=k kv cv N hv H (Dy.more (by omega)) (fun _ _ e _=>e);rw[e]at this;exact this
 refine⟨_,rfl,_,rfl,?_⟩;rcases fw with⟨rfl,rfl⟩|⟨A,rfl,nw,hw⟩
 ·exact bP (g none (nq _ _ _ _ _ _ _ _))
 refine bA ?_;refine⟨_,rfl,_,rfl,?_⟩;rcases fv with⟨rfl,rfl⟩|⟨u,rfl,nf,hu⟩
 ·exact bP (g (some 0) (p8 _ _ _ _ _ _ _ nw))
 refine bA ?_;refine⟨_,rfl,rfl,_,rfl,?_⟩
 match d,hD,hn,k,g with
 |0,_,_,_,g =>
  exact bP (g none (pZ _ _ _ _ _ _ nw nf))
 |d+1,hD,hn,k,g =>
 rw[zzr0 (by intro z;injection z with z;omega)];refine bA ?_;obtain⟨m,rfl⟩:∃m,D=m+1:=⟨D-1,by omega⟩;cases hO m rfl;have eq:=p7 O T U f Y i d nw nf;have nb:fB (d+1)=17+25 * fB d+50 * nB d:=rfl;have al:∀{B C j o:List (TK×V)}{H':Hp},ff H0 H' kd cd L q B C j o O T U f Y i (n+fB (d+1))->Kp H H'->bb o (Be J6 own (d+1))=some (j5 (fstM O T U f Y i (d+1) own J6))->(aW (im K (fN K V0 "known_firsts") (bf (ci V1 V2 V3)))) (bj Q) [some (.ref x),some (.ref u),some (.ref A),some (.int ((d+1:Nat)))] H':=by
  intro B C j o H' D' G v';refine⟨_,rfl,x,t,dx,fs,.ref q,rfl,D'.ks.same _ _ g0,c.cls,c.a4,l3,_,rfl,_,rfl,_,rfl,(by show 3<=aj;decide),fun p hp=>?_⟩;have S:ab H' (upd H' p (.tup [.ref u,.ref A,.int ((d+1:Nat))])):=ab.new hp;have tk:=C5 (d:=d+1) (aa (H:=H') (a:=p)) (S _ _ (G _ _ hu rfl)) (S _ _ (G _ _ hw rfl));exact⟨q,_,rfl,.inr ⟨_,Be J6 own (d+1),p,.inl (S _ _ D'.hhd),rfl,cS.isIn 8 (kJ _ _ _) tk,kJ _ _ _,v'.symm⟩,k B C j o _ (D'.up S) (G.trans (ab.kp S))⟩
 refine⟨_,rfl,_,rfl,_,rfl,(by show 3<=aj;decide),fun p hp=>?_⟩;have S:ab H (upd H p (.tup [.ref u,.ref A,.int ((d+1:Nat))])):=ab.new hp;have tk:=C5 (d:=d+1) (aa (H:=H) (a:=p)) (S _ _ hu) (S _ _ hw);generalize upd H p (.tup [.ref u,.ref A,.int ((d+1:Nat))])=H1 at S tk ⊢;have D1:=Dy.up S;refine⟨_,rfl,x,t,dx,fs,.ref q,rfl,D1.ks.same _ _ g0,c.cls,c.a4,l3,q,_,rfl,.inr ⟨_,Be J6 own (d+1),p,.inl D1.hhd,rfl,cS.isIn 8 (kJ _ _ _) tk,kJ _ _ _,rfl⟩,_,rfl,?_⟩;cases s:bb hv (Be J6 own (d+1))with
 |some w' =>
  refine bA ?_;exact al (D1.more (by omega)) (ab.kp S) (by rw[s,Dy.val s])
 |none =>
  refine bP ?_;refine⟨_,rfl,x,dx,fs,rfl,D1.ks.same _ _ g0,l4 "first_of_kinds" (by decide +kernel) (by decide +kernel) (by decide +kernel) (by decide +kernel),_,rfl,_,rfl,_,rfl,H0,x,mx,sl,y,M,kd,cd,y2,I,L,q,u,A,us,kv,cv,N,hv,n,d,J6,own,O,T,U,f,Y,i,rfl,by omega,by omega,St,D1,S _ _ hu,ap,as,S _ _ hw,aC,a0,by omega,fun a8 a9 a7 bc H3 D3 a5=>?_⟩;rw[<-eq];have l:Kp H H3:=(ab.kp S).trans a5;refine⟨_,rfl,x,t,dx,fs,.ref q,rfl,D3.ks.same _ _ g0,c.cls,c.a4,l3,_,rfl,_,rfl,_,rfl,(by show 3<=aj;decide),fun p2 a6=>?_⟩;have S4:ab H3 (upd H3 p2 (.tup [.ref u,.ref A,.int ((d+1:Nat))])):=ab.new a6;have an:=C5 (d:=d+1) (aa (H:=H3) (a:=p2)) (S4 _ _ (l _ _ hu rfl)) (S4 _ _ (l _ _ hw rfl));generalize upd H3 p2 (.tup [.ref u,.ref A,.int ((d+1:Nat))])=H4 at S4 an ⊢;have D4:=D3.up S4;have cl:=D4.hlen;refine⟨q,_,rfl,.inr ⟨_,Be J6 own (d+1),p2,D4.hhd,rfl,an,kJ _ _ _,by rw[rR];omega,rfl⟩,?_⟩;have D5:=D4.put (J6:=J6) (own:=own) (d:=d+1) St;exact al (D5.more (by omega)) ((l.trans (ab.kp S4)).trans (Kp.upd D4.hhd rfl)) (by rw[ik,if_pos rfl])
inductive mZ(Cm Ck Cd Cb:Addr)(vs:List V)(H:Hp)(Q:VK)(E:XK):Prop
 |mk (H0:Hp) (x dx M I:Addr) (J0 J1 J2 rooms':Zb) (ds ds':List ak):(vs=[.ref x,.ref M,.ref I])->(H x=some (.ins Cb dx []))->(bU Cm H0 M J0 J1 J2 ds)->(bU Cm H0 I J0 J1 rooms' ds')->(H0 x=none)->(ab H0 H) ->
  (∀(Hs:Hp) (mx sl y kd cd y2 kd2 fd:Addr) (us:Ze) (H':Hp),tf Cm Ck Cd Cb Hs x mx sl y M kd cd y2 I kd2 fd us J0 J1 J2 rooms' ds ds'->ff Hs H' kd cd kd2 fd [] [] [] [] J0 J1 J2 rooms' ds ds' 0->ab H0 Hs->Q .non H')->mZ Cm Ck Cd Cb vs H Q E
theorem Fk{K:Za}{Cm T Cd Cb:Addr}(c:BC K Cb){vs:List V}{H:Hp}{Q:VK}{E:XK}(h:mZ Cm T Cd Cb vs H Q E):oz K T (ky T) Cd (mY Cm T Cd) (bj Q) (start oX vs) H:=by
 obtain⟨H0,x,dx,M,I,J0,J1,J2,bn,ds,cs,rfl,hx,MA,IA,bu,S0,k⟩:=h;have up:∀{H1 L:Hp}{o:HO},ab H0 H1->L=upd H1 x o->ab H0 L:=fun S e b o q=>by rw[e,ai (ae q bu)];exact S _ _ q
 refine⟨_,rfl,fun N dm as bw ct=>?_⟩;have Sm:ab H (upd (upd H dm (.own N)) N (.ins Cd dm [])):=fun b o e=>by rw[ai (ae e as)];exact kp e bw
 refine⟨H,N,dm,M,J0,J1,J2,ds,rfl,aa,MA.same S0,as,Sm,fun bz sl y D G us H1 m a S1=>⟨rfl,?_⟩⟩;have aC:ab H H1:=S1.trans a.ks.same;have p:=aC _ _ hx;obtain⟨bI,bS,gm,p1,p2,p3,p4⟩:=m.ob;obtain⟨dy,fy,gy,q1,q2,q3⟩:=m.ks.ob;refine⟨_,rfl,x,Cb,dx,[],rfl,p,c.cls,c.a1,(by decide),?_⟩;obtain⟨L,e2,U,X2⟩:=mK "made" (.ref N) p;rw[<-e2];have S2:=up (S0.trans aC) e2;have cl:(cP ("made":Str) (.ref N) []).length<=1:=di _ _ _;refine⟨_,rfl,fun A r Y a0 cv=>?_⟩;have S3:ab L (upd (upd L r (.own A)) A (.ins T r [])):=fun b o e=>by rw[ai (ae e Y)];exact kp e a0
 generalize b1:upd (upd L r (.own A)) A (.ins T r [])=H3 at S3 ⊢;have b2:H3 A=some (.ins T r []):=by rw[<-b1];exact aa
 refine⟨A,r,I,rfl,b2,fun i b3 H4 b4 m1 m2 m3 O j b5=>⟨rfl,?_⟩⟩;have n4:∀{b:Addr}{o:HO},L b=some o->H4 b=some o:=fun e=>b5 _ _ (S3 _ _ e) (ae e Y);have a5:=n4 U;refine⟨_,rfl,x,Cb,dx,_,rfl,a5,c.cls,c.a2,by omega,?_⟩;obtain⟨H5,e5,a6,X5⟩:=mK "own_steps" (.ref A) a5;rw[<-e5];have S5:ab H0 H5:=up (fun b o e=>n4 (S2 _ _ e)) e5;have cm:=di ("own_steps":Str) (.ref A) (cP ("made":Str) (.ref N) []);refine fun hd s=>⟨_,rfl,x,Cb,dx,_,rfl,kp a6 s,c.cls,c.a3,by omega,?_⟩;obtain⟨H7,e7,al,X7⟩:=mK "known_harmless" (.ref hd) (kp (x:=.dT []) a6 s);rw[<-e7];have S7:ab H0 H7:=up (S5.trans (ab.new s)) e7;have co:=di ("known_harmless":Str) (.ref hd) (cP ("own_steps":Str) (.ref A) (cP ("made":Str) (.ref N) []));refine fun t g=>⟨_,rfl,x,Cb,dx,_,rfl,kp al g,c.cls,c.a4,by omega,?_⟩;obtain⟨w,e9,b6,X9⟩:=mK "known_firsts" (.ref t) (kp (x:=.dT []) al g);rw[<-e9];have S9:ab H0 w:=up (S7.trans (ab.new g)) e9;have an:∀{b:Addr}{o:HO},H5 b=some o->b≠x->w b=some o:=fun e n=>X9 _ _ (kp (X7 _ _ (kp e s) n) g) n;have b7:∀{b:Addr}{o:HO},L b=some o->b≠x->w b=some o:=fun e n=>an (X5 _ _ (n4 e) n) n;have u:∀{b:Addr}{o:HO},H1 b=some o->b≠x->w b=some o:=fun e n=>b7 (X2 _ _ e n) n;have a7:A≠x:=(ae U Y).symm;have J:i≠x:=(ae (S3 _ _ U) j).symm;have b8:t≠x:=(ae al g).symm;have B:D≠x:=fun z=>by have:=a.ks.hkd;rw[z,p]at this;cases this
 have C:G≠x:=fun z=>by have:=a.hcd;rw[z,p]at this;cases this
 have a8:=u a.ks.hkd B;have a9:=u a.hcd C;have bc:=an (X5 _ _ O J) J;have bd:w t=some (.dT []):=X9 _ _ aa b8;have cc:=an (X5 _ _ b4 a7) a7;have cp:H0 i=none:=(S2.trans S3).free j;have c0:H0 t=none:=S7.free g;have e1:i≠D:=fun z=>by rw[z]at j;have:=S3 _ _ (X2 _ _ a.ks.hkd B);rw[j]at this;cases this
 have ce:i≠G:=fun z=>by rw[z]at j;have:=S3 _ _ (X2 _ _ a.hcd C);rw[j]at this;cases this
 have e3:t≠D:=fun z=>by rw[z]at g;have:=X7 _ _ (kp (X5 _ _ (n4 (X2 _ _ a.ks.hkd B)) B) s) B;rw[g]at this;cases this
 have e4:t≠G:=fun z=>by rw[z]at g;have:=X7 _ _ (kp (X5 _ _ (n4 (X2 _ _ a.hcd C)) C) s) C;rw[g]at this;cases this
 have cf:t≠i:=fun z=>by rw[z]at g;have:=X7 _ _ (kp (X5 _ _ O J) s) J;rw[g]at this;cases this
 have c1:H0 D=none:=(S0.trans S1).free m.ks.kdn;have c2:H0 G=none:=(S0.trans S1).free m.cdn;have SH:ab H0 (exH w fun b=>b=D∨b=G∨b=i∨b=t):=vb S9 fun b z=>by rcases z with rfl|rfl|rfl|rfl<;>assumption
 have st:∀{b:Addr}{o:HO},w b=some o->KS o=true->exH w (fun b=>b=D∨b=G∨b=i∨b=t) b=some o:=fun e n=>by
  rw[p9 (fun z=>?_)]
  ·exact e
  ·rcases z with rfl|rfl|rfl|rfl
   ·rw[a8]at e;cases e;cases n
   ·rw[a9]at e;cases e;cases n
   ·rw[bc]at e;cases e;cases n
   ·rw[bd]at e;cases e;cases n
 have SS:ab (exH w fun b=>b=D∨b=G∨b=i∨b=t) w:=Bj;generalize ch:exH w (fun b=>b=D∨b=G∨b=i∨b=t)=Hs at SH st SS;have out:∀b,(b=D∨b=G∨b=i∨b=t)->Hs b=none:=fun b z=>by rw[<-ch];exact rp z
 have bi:∀{b C' d':Addr}{fs:List (Str×V)}{f:Str}{v:V},H1 b=some (.ins C' d' fs)->lk f fs=some v->b≠x:=fun e l z=>by
  rw[z,p]at e;cases e;cases l
 have kt:gv bz Hs:=fun b xs e=>st (u (a.ks.same _ _ e) fun z=>by have:=a.ks.same _ _ e;rw[z,p]at this;cases this) rfl;have bl:=a.ks.same _ _ gm;have bm:=a.ks.same _ _ gy;have ap:=a.ks.same _ _ m.hsl;refine k Hs N sl y D G A i t us w ⟨⟨⟨MA.same SH,⟨dy,fy,st (u bm (bi bm q1)) rfl,q1,q2,q3⟩,out _ (.inl rfl)⟩,⟨bI,bS,st (u bl (bi bl p1)) rfl,p1,p2,p3,p4⟩,st (u ap fun z=>by rw[z,p]at ap;cases ap) rfl,j7.kt kt m.sg,out _ (.inr (.inl rfl)),m.ne⟩,⟨IA.same SH,⟨r,b3,st cc rfl,m1,m2,m3⟩,out _ (.inr (.inr (.inl rfl)))⟩,⟨dx,_,st b6 rfl,?_,?_,?_,?_⟩,out _ (.inr (.inr (.inr rfl))),⟨e1,ce⟩,⟨e3,e4,cf⟩⟩
  ⟨⟨⟨SS,a8,fun _ h=>(by cases h),aB _⟩,fun _ h=>(by cases h),a9,fun _ h=>(by cases h),aB _⟩,⟨SS,bc,fun _ h=>(by cases h),aB _⟩,bd,fun _ h=>(by cases h),aB _,fun _ _ h=>(by cases h),fun _ _ h=>(by cases h)⟩ SH
 ·show fI _ _=_;repeat (rw[aV];first|rw[if_pos rfl] | rw[if_neg (by decide +kernel)])
 ·show fI _ _=_;repeat (rw[aV];first|rw[if_pos rfl] | rw[if_neg (by decide +kernel)])
 ·show fI _ _=_;repeat (rw[aV];first|rw[if_pos rfl] | rw[if_neg (by decide +kernel)])
 ·intro f r1 r2 r3 r4;show fI _ _=_;rw[aV,if_neg r4,aV,if_neg r3,aV,if_neg r2,aV,if_neg r1];rfl
inductive pD(Cm:Addr)(vs:List V)(H:Hp)(Q:VK)(E:XK):Prop
 |mk (M I:Addr) (d:Nat) (J0 J1 J2 rooms':Zb) (ds ds':List ak):(vs=[.ref M,.int (d:Nat),.ref I])->(d<=4)->(bU Cm H M J0 J1 J2 ds)->(bU Cm H I J0 J1 rooms' ds')->(∀r∈rooms',∀a∈J0,iO ds' r a)->(∀H',ab H H'->Q (j5 (fstM J0 J1 J2 rooms' ds ds' d (closF rooms' ds' (rooms'.take 1)) (closF J2 ds (J2.take 1)))) H')->pD Cm vs H Q E
theorem Ln:∀d,d<=4->fB d<=1000000:=by
 intro d a
 match d,a with
 |0,_=>decide
 |1,_=>decide
 |2,_=>decide
 |3,_=>decide
 |4,_=>decide
theorem GQ{K:Za}{g O Cd n:Addr}{T:List V}{H:Hp}{Q:VK}{E:XK}(h:pD g T H Q E):uo K n (mZ g O Cd n) (oG g O Cd n 4) (dq g) eC (gE g) (bj Q) (start vA T) H:=by
 obtain⟨M,I,d,i,j,p,a,ds,f,rfl,s,q,r,tk,k⟩:=h;have z3:=q.ok.rooms26;have z4:=r.ok.rooms26;have b2:=Ln d s;refine⟨_,rfl,_,rfl,M,I,i,j,p,a,ds,f,rfl,q,r,tk,fun u v=>?_⟩;refine⟨_,rfl,d,rfl,s,?_⟩;have M1:=q.same v;have I1:=r.same v;refine⟨_,rfl,_,rfl,fun x w U z ne=>?_⟩;have S2:ab u (upd (upd u w (.own x)) x (.ins n w [])):=fun b o e=>by rw[ai (ae e U)];exact kp e z
 refine⟨u,x,w,M,I,i,j,p,a,ds,f,rfl,aa,M1,I1,U,S2,fun Hs mx sl y kd cd y2 A B us H3 St C S3=>⟨rfl,?_⟩⟩;obtain⟨D,G,g1,l1,_,_,l4⟩:=St.ob;refine⟨x,D,G,rfl,C.ks.same _ _ g1,l4 "first_at" (by decide +kernel) (by decide +kernel) (by decide +kernel) (by decide +kernel),_,rfl,M,i,j,p,ds,rfl,St.md.ks.mach.same C.ks.same,fun t F H4 Y hF S4=>?_⟩;rw[mN hF]at Y;have l:=C.up S4;have J:=Bq (ds:=ds) q.ok.rooms0;have L:=Bq (ds:=f) r.ok.rooms0;refine⟨_,rfl,I,i,j,a,f,rfl,St.ks.mach.same l.ks.same,fun t' F' H6 m N S6=>?_⟩;rw[mN N]at m;refine⟨_,rfl,Hs,x,mx,sl,y,M,kd,cd,y2,I,A,B,.ref t,.ref t',us,[],[],[],[],0,d,_,_,i,j,p,a,ds,f,rfl,s,St,l.up S6,.inr ⟨t,rfl,J,S6 _ _ Y⟩,rB,aE kL (by omega),.inr ⟨t',rfl,L,m⟩,rB,aE kL (by omega),by omega,fun an ap al as H7 D7 _=>k H7 ((v.trans S3).trans D7.ks.same)⟩
open Builtin.Int (intBits)
def Bc(a b:Zb)(d:Nat):TK:=.t [.k (some (.inr "first")),eO a,eO b,.k (some (.inl (d:Int)))]
theorem Jq{a b g i:Zb}{d j:Nat}(h:Bc a b d=Bc g i j):a=g/\b=i/\d=j:=by
 unfold Bc at h;injection h with h;injection h with _ h;injection h with k f;injection f with f e;injection e with e _;injection e with e;injection e with e;injection e with e;exact⟨eK k,eK f,by omega⟩
theorem kI(a b:Zb)(d:Nat):(Bc a b d).depth<=8:=by
 show max 0 (max (eO a).depth (max (eO b).depth (max 0 0)))+1<=8;rw[fk,fk];decide
theorem CW{H:Hp}{p u w:Addr}{a b:Zb}{d:Nat}(e:H p=some (.tup [.str "first",.ref u,.ref w,.int (d:Nat)]))(f:H u=some (.tup (a.map V.str)))(g:H w=some (.tup (b.map V.str))):cS H (Bc a b d) (.ref p):=by
 unfold Bc cS;refine⟨p,_,rfl,e,?_⟩;unfold TKAts;refine⟨_,_,rfl,by unfold cS;rfl,?_⟩;unfold TKAts;refine⟨_,_,rfl,SignAt.tk f,?_⟩;unfold TKAts;refine⟨_,_,rfl,SignAt.tk g,?_⟩;unfold TKAts;exact⟨_,_,rfl,by unfold cS;rfl,by unfold TKAts;rfl⟩
def Gg(J0 J1 J2 rooms':Zb)(ds ds':List ak)(p:TK×V):Prop:=∃(own J6:Zb) (d:Nat),p=(Bc own J6 d,j5 (fstM J0 J1 J2 rooms' ds ds' d own J6))
theorem va{J0 J1 J2 rooms':Zb}{ds ds':List ak}:JF (Gg J0 J1 J2 rooms' ds ds'):=by
 rintro p ⟨a,g,d,rfl⟩;refine⟨fun f s e=>?_,fun f d e=>?_⟩
 ·have e:Bc a g d=xB f s:=e;unfold Bc xB at e;injection e with e;injection e with _ e;injection e with _ e;cases e
 ·rename_i h;have e:Bc a g h=qe f d:=e;unfold Bc qe at e;injection e with e;injection e with _ e;injection e with _ e;cases e
theorem Gg.val{J0 J1 J2 rooms' a g:Zb}{ds ds':List ak}{H:Hp}{k:Addr}{i:List (TK×V)}{n d:Nat}{w:V}(h:dj (Gg J0 J1 J2 rooms' ds ds') H k i J0 J1 J2 ds n)(v:bb i (Bc a g d)=some w):w=j5 (fstM J0 J1 J2 rooms' ds ds' d a g):=by
 have ok:=va (J0:=J0) (J1:=J1) (J2:=J2) (rooms':=rooms') (ds:=ds) (ds':=ds') _ ⟨a,g,d,rfl⟩;rcases h.kok _ (fR v)with⟨f,s,u,e,_⟩|⟨f,j,e⟩|⟨o,p,j,e⟩
 ·injection e with e _;exact absurd e (ok.1 f s)
 ·injection e with e _;exact absurd e (ok.2 f j)
 ·injection e with l m;obtain⟨rfl,rfl,rfl⟩:=Jq l;exact m
def jB:Nat->Nat
 |0=>0
 |d+1=>5+25 * (1+jB d+lB d)
inductive gZ(K:Za)(D:Nat)(vs:List V)(H:Hp)(Q:VK)(E:XK):Prop
 |mk (H0:Hp) (t l1 l2 l3 l4 t' m1 m2 m3 m4 kd ow fu:Addr) (ts ts':Ze) (kv:List (TK×V)) (n d:Nat) (own J6 J0 J1 J2 rooms':Zb) (ds ds':List ak):(vs=[.ref t,.ref t',.ref kd,.ref ow,.ref fu,.int (d:Nat)])->(d<=D)->(gR H0 t l1 l2 l3 l4 ts J0 J1 J2 ds)->(aP J0 J1 J2 ds)->(gR H0 t' m1 m2 m3 m4 ts' J0 J1 rooms' ds')->(aP J0 J1 rooms' ds')->(H0 kd=none)->(ab H0 H)->(dj (Gg J0 J1 J2 rooms' ds ds') H kd kv J0 J1 J2 ds n)->(H ow=some (.tup (own.map V.str)))->(own.length<=1000)->(H fu=some (.tup (J6.map V.str)))->(J6.length<=1000)->(n+jB d<=8000000) ->
  (∀(kv':List (TK×V)) (H':Hp),dj (Gg J0 J1 J2 rooms' ds ds') H' kd kv' J0 J1 J2 ds (n+jB d)->bC kd H H'->Q (j5 (fstM J0 J1 J2 rooms' ds ds' d own J6)) H')->gZ K D vs H Q E
theorem Fg{K:Za}{D:Nat}{cd:Sp}(d5:D<=4)(hR:∀m,D=m+1->cd=gZ K m){vs:List V}{H:Hp}{Q:VK}{E:XK}(h:gZ K D vs H Q E):At K (kA K) jc (jC K 4) cd (qZ K) (je K) (bj Q) (start sr vs) H:=by
 obtain⟨H0,t,l1,l2,l3,l4,t',m1,m2,m3,m4,kd,ow,fu,ts,ce,kv,n,d,own,g,J0,J1,J2,f,ds,ds',rfl,hD,T,m,T',m',h0,S0,Dy,ho,ch,hf,a4,hn,k⟩:=h;have z1:=m.asks4;have z2:=m.says4;have z3:=m.rooms26;have z4:=m'.rooms26;have ret:∀Hx,ab H Hx->(own=[]∨g=[]∨d=0)->(aW (aH (dW K) (c6 (aX (tC .non) (tC (.int 0)))) (gD JU (ay (AC (aH (wm K) V3 (bf (bg))) (aH (mC K) V4 (bf (bg)))))))) (bj Q) (start sr [.ref t,.ref t',.ref kd,.ref ow,.ref fu,.int (d:Nat)]) Hx:=by
  intro Hx Sx hc;refine⟨(by show 2<=aj;decide),fun ll dv=>?_⟩;have S1:ab Hx (upd Hx ll (.lst [.non,.int 0])):=ab.new dv;have a5:upd Hx ll (.lst [.non,.int 0]) ll=some (.lst [.non,.int 0]):=aa;generalize upd Hx ll (.lst [.non,.int 0])=H1 at S1 a5 ⊢;have l:=Sx.trans S1;refine⟨_,rfl,(by show 0<=aj;decide),fun e1 an=>⟨iB own,iB [],aZ (bQ.of (kp (l _ _ ho) an)),aZ (bQ.of aa),by rw[bJ];decide,by rw[bJ];decide,_,rfl,?_⟩⟩;rw[fE];have N:ab H1 (upd H1 e1 (.tup [])):=ab.new an;generalize upd H1 e1 (.tup [])=H2 at N ⊢;by_cases c:own=[]
  ·rw[zzr1 c];refine bA (.inr ⟨false,rfl,ll,_,0,.non,rfl,rfl,aw.of (N _ _ a5),rfl,?_⟩);have:=k kv H2 ((Dy.up (l.trans N)).more (by omega)) (ab.exBs (l.trans N));rw[c,nq]at this;exact this
  ·rw[zzr0 c];refine bP ⟨_,rfl,(by show 0<=aj;decide),fun e2 ap=>⟨iB g,iB [],aZ (bQ.of (kp ((l.trans N) _ _ hf) ap)),aZ (bQ.of aa),by rw[bJ];decide,by rw[bJ];decide,?_⟩⟩;rw[fE];have S3:ab H2 (upd H2 e2 (.tup [])):=ab.new ap;generalize upd H2 e2 (.tup [])=H3 at S3 ⊢;have cm:=(l.trans N).trans S3;have kk:=k kv H3 ((Dy.up cm).more (by omega)) (ab.exBs cm);by_cases c':g=[]
   ·rw[zzr1 c'];refine .inr ⟨true,rfl,ll,_,1,.int 0,rfl,rfl,aw.of (S3 _ _ (N _ _ a5)),rfl,?_⟩;rw[c',p8 _ _ _ _ _ _ d c]at kk;exact kk
   ·rw[zzr0 c'];refine .inr ⟨false,rfl,ll,_,0,.non,rfl,rfl,aw.of (S3 _ _ (N _ _ a5)),rfl,?_⟩;have d0:d=0:=hc.elim (fun z=>absurd z c) fun z=>z.elim (fun z=>absurd z c') id;rw[d0,pZ _ _ _ _ _ _ c c']at kk;exact kk
 refine⟨_,rfl,(by show 0<=aj;decide),fun e1 an=>⟨iB own,iB [],aZ (bQ.of (kp ho an)),aZ (bQ.of aa),by rw[bJ];decide,by rw[bJ];decide,_,rfl,?_⟩⟩;rw[fE];have Sa:ab H (upd H e1 (.tup [])):=ab.new an;generalize upd H e1 (.tup [])=Ha at Sa ⊢;by_cases co:own=[]
 ·rw[zzr1 co];refine bP (bP ?_);exact ret Ha Sa (.inl co)
 rw[zzr0 co];refine bA ?_;refine⟨_,rfl,(by show 0<=aj;decide),fun e2 ap=>⟨iB g,iB [],aZ (bQ.of (kp (Sa _ _ hf) ap)),aZ (bQ.of aa),by rw[bJ];decide,by rw[bJ];decide,_,rfl,?_⟩⟩;rw[fE];have Sb:ab Ha (upd Ha e2 (.tup [])):=ab.new ap;generalize upd Ha e2 (.tup [])=Hb at Sb ⊢;have C:=Sa.trans Sb;by_cases cf:g=[]
 ·rw[zzr1 cf];refine bP (bP ?_);exact ret Hb C (.inr (.inl cf))
 rw[zzr0 cf];refine bA ?_;refine⟨_,rfl,rfl,_,rfl,?_⟩
 match d,hD,hn,k,ret with
 |0,_,_,_,ret =>
  refine bP ?_;exact ret Hb C (.inr (.inr rfl))
 |d+1,hD,hn,k,_ =>
 rw[zzr0 (by intro z;injection z with z;omega)];refine bA ?_;obtain⟨w,rfl⟩:∃w,D=w+1:=⟨D-1,by omega⟩;cases hR w rfl;have nb:jB (d+1)=5+25 * (1+jB d+lB d):=rfl;have b4:=xy d (by omega);have Db:=Dy.up C;have ob:=C _ _ ho;have fb:=C _ _ hf;have dx:=S0.trans C;refine⟨_,rfl,_,rfl,_,rfl,(by show 4<=aj;decide),fun p hp=>?_⟩;have u:ab Hb (upd Hb p (.tup [.str "first",.ref ow,.ref fu,.int ((d+1:Nat))])):=ab.new hp
 have cp:=CW (d:=d+1) (aa (H:=Hb) (a:=p)) (u _ _ ob) (u _ _ fb);generalize upd Hb p (.tup [.str "first",.ref ow,.ref fu,.int ((d+1:Nat))])=H1 at u cp ⊢
 have D1:=Db.up u;have S1:=C.trans u;have o1:=u _ _ ob;have f1:=u _ _ fb;have l:=dx.trans u;refine⟨_,rfl,kd,_,rfl,.inr ⟨_,Bc own g (d+1),p,.inl D1.hkd,rfl,cS.isIn 8 (kI _ _ _) cp,kI _ _ _,rfl⟩,_,rfl,?_⟩;cases bd:bb kv (Bc own g (d+1))with
 |some w' =>
  refine bP ⟨_,rfl,_,rfl,_,rfl,_,rfl,(by show 4<=aj;decide),fun p2 bS=>?_⟩;have N:ab H1 (upd H1 p2 (.tup [.str "first",.ref ow,.ref fu,.int ((d+1:Nat))])):=ab.new bS
  have dy:=CW (d:=d+1) (aa (H:=H1) (a:=p2)) (N _ _ o1) (N _ _ f1);refine⟨kd,_,rfl,.inr ⟨_,Bc own g (d+1),p2,.inl (N _ _ D1.hkd),rfl,cS.isIn 8 (kI _ _ _) dy,kI _ _ _,bd.symm⟩,?_⟩;rw[Gg.val Dy bd];exact k kv _ ((D1.up N).more (by omega)) (ab.exBs (S1.trans N))
 |none =>
  refine bA ?_;refine⟨_,rfl,_,rfl,_,rfl,Gg J0 J1 J2 f ds ds',va,H0,t,l1,l2,l3,l4,kd,fu,ts,kv,n,g,J0,J1,J2,ds,rfl,T,m,h0,l,D1,f1,a4,by omega,fun al dK H2 dT D2 dV=>⟨(by show 1<=aj;decide),fun as d1=>?_⟩⟩;have za:(askedF J0 J2 ds g).length<=4:=aE (cO _ _) z1;have S3:ab H2 (upd H2 as (.lst [.non])):=ab.new d1;have cs:upd H2 as (.lst [.non]) as=some (.lst [.non]):=aa;generalize upd H2 as (.lst [.non])=H3 at S3 cs ⊢;refine⟨al,as,_,_,rfl,rfl,S3 _ _ dT,cs,by rw[ah];exact cT (ao (by show _+1<=1000;omega)),fun cl d2=>?_⟩;have S4:ab H3 (upd H3 cl (.lst ((askedF J0 J2 ds g).map V.str++[.non]))):=ab.new d2;have aC:upd H3 cl (.lst ((askedF J0 J2 ds g).map V.str++[.non])) cl=some (.lst (((askedF J0 J2 ds g).map some++[none]).map nI)):=by
   rw[aa,av,i3];rfl
  generalize upd H3 cl (.lst ((askedF J0 J2 ds g).map V.str++[.non]))=H4 at S4 aC ⊢;have D4:=(D2.up S3).up S4;have ct:bC kd H1 H4:=dV.trs (ab.exBs (S3.trans S4));have d3:cl≠kd:=fun z=>by have:=D4.hkd;rw[<-z,aC]at this;cases this
  have d4:∀sg,0<(fun sg=>cntM J0 J1 J2 ds d (behF J2 ds g sg)) sg:=fun sg=>jL J0 J1 J2 ds d _;have cv:lm (fun a=>iz (fun sg=>cntM J0 J1 J2 ds d (behF J2 ds g sg)) (fun sg=>fstM J0 J1 J2 f ds ds' d (behF f ds' own sg) (behF J2 ds g sg)) (aR J1 a).reverse 1) (prodA J0 J1 J2 ds d g) ((askedF J0 J2 ds g).map some++[none]) 1 none=fstM J0 J1 J2 f ds ds' (d+1) own g:=by
   rw[p7 _ _ _ _ _ _ d co cf];exact wY (m_ J0 J1 J2 ds d g) (fun a x hx=>by
    have:=lg d4 (fun sg n e=>kE J0 J1 J2 f ds ds' d _ _ n e) (aR J1 a).reverse 1 (by decide) x hx;rw[xD,pN]at this;exact this) _ 1
  generalize hA:((askedF J0 J2 ds g).map some++[none]:List (Option Str))=A at aC cv;have zA:A.length<=5:=by rw[<-hA,a_,ah];show _+1<=5;omega
  refine⟨cl,rfl,⟨_,aw.of aC⟩,?_⟩;obtain⟨I,hI⟩:∃I:Nat->L2.St->Hp->Prop,∀i σ H',I i σ H'↔NE8 fun(b1:List (TK×V)) (s:Int) (O:Option Int) (x8 x9 G L M:Option V)=>Lx (σ=[some (.ref t),some (.ref t'),some (.ref kd),some (.ref ow),some (.ref fu),some (.int ((d+1:Nat))),some (.int s),some (j5 O),x8,x9,G,L,M]) (lm (fun a=>iz (fun sg=>cntM J0 J1 J2 ds d (behF J2 ds g sg)) (fun sg=>fstM J0 J1 J2 f ds ds' d (behF f ds' own sg) (behF J2 ds g sg)) (aR J1 a).reverse 1) (prodA J0 J1 J2 ds d g) A 1 none=lm (fun a=>iz (fun sg=>cntM J0 J1 J2 ds d (behF J2 ds g sg)) (fun sg=>fstM J0 J1 J2 f ds ds' d (behF f ds' own sg) (behF J2 ds g sg)) (aR J1 a).reverse 1) (prodA J0 J1 J2 ds d g) (A.drop i) s O) (dj (Gg J0 J1 J2 f ds ds') H' kd b1 J0 J1 J2 ds (n+4+i * (5 * (1+jB d+lB d)))) (bC kd H4 H'):=⟨_,fun _ _ _=>Iff.rfl⟩;refine bO (xs:=A.map nI) I ((hI ..).2 ⟨dK,1,none,_,_,_,_,_,rfl,rfl,D4.more (by omega),bC.refl _ _⟩) (fun i σ H' _ h=>by obtain⟨_,_,_,_,_,_,_,_,_,_,_,ex⟩:=(hI ..).1 h;exact aw.of (ex _ _ aC d3)) ?_ ?_
  ·intro i v σ H5 hi b2;obtain⟨c0,s,O,x8,x9,G,L,M,rfl,el,D5,a6⟩:=(hI ..).1 b2;rw[cF]at hi;obtain⟨ask,bi,rfl⟩:=kR.1 hi;have il:i<A.length:=(bM.1 bi).1;have ed:A.drop i=ask::A.drop (i+1):=by
    obtain⟨h1,h2⟩:=bM.1 bi;rw[jV h1,h2]
   rw[ed]at el;have eH:(i+1) * (5 * (1+jB d+lB d))=i * (5 * (1+jB d+lB d))+5 * (1+jB d+lB d):=gA _ _;have ey:(i+1) * (5 * (1+jB d+lB d))<=5 * (5 * (1+jB d+lB d)):=c_ _ (by omega);have y:=ct.trs a6;have d7:=bC.sameH l h0 y;refine⟨_,rfl,_,rfl,t,l1,l2,l3,l4,ts,ask,J0,J1,J2,ds,rfl,T.same d7,z2,fun pl us H6 d8 hP S6=>⟨pl,_,rfl,aw.of d8,fun rl d9=>?_⟩⟩;rw[<-List.map_reverse];have S7:ab H6 (upd H6 rl (.lst (us.reverse.map V.ref))):=ab.new d9;have a7:upd H6 rl (.lst (us.reverse.map V.ref)) rl=some (.lst (us.reverse.map V.ref)):=aa;generalize upd H6 rl (.lst (us.reverse.map V.ref))=H7 at S7 a7 ⊢;have b3:=S6.trans S7;have D7:=D5.up b3;have ea:rl≠kd:=fun z=>by have:=D7.hkd;rw[<-z,a7]at this;cases this
   have zk:=eD J1 ask;have zu:us.length=J1.length+1:=by rw[Paired.length hP,zk]
   have eb:j7 H7 us.reverse (aR J1 ask).reverse:=j7.kt (ab.kt S7) (Paired.rev hP);have c1:bC kd H1 H7:=y.trs (ab.exBs b3);refine⟨rl,rfl,⟨_,aw.of a7⟩,?_⟩;obtain⟨J,hJ⟩:∃J:Nat->L2.St->Hp->Prop,∀j σ H',J j σ H'↔NE6 fun(b1:List (TK×V)) (B:Int) (r:Option Int) (G L M:Option V)=>Lw (σ=[some (.ref t),some (.ref t'),some (.ref kd),some (.ref ow),some (.ref fu),some (.int ((d+1:Nat))),some (.int s),some (j5 r),some (nI ask),some (.int B),G,L,M]) ((iz (fun sg=>cntM J0 J1 J2 ds d (behF J2 ds g sg)) (fun sg=>fstM J0 J1 J2 f ds ds' d (behF f ds' own sg) (behF J2 ds g sg)) (aR J1 ask).reverse 1).foldl (fun O x=>jz O (s+x)) O=(iz (fun sg=>cntM J0 J1 J2 ds d (behF J2 ds g sg)) (fun sg=>fstM J0 J1 J2 f ds ds' d (behF f ds' own sg) (behF J2 ds g sg)) ((aR J1 ask).reverse.drop j) B).foldl (fun O x=>jz O (s+x)) r) (B * Ea (fun sg=>cntM J0 J1 J2 ds d (behF J2 ds g sg)) ((aR J1 ask).reverse.drop j)=prodA J0 J1 J2 ds d g ask) (intBits B<=j * bB d+1) (dj (Gg J0 J1 J2 f ds ds') H' kd b1 J0 J1 J2 ds (n+4+i * (5 * (1+jB d+lB d))+j * (1+jB d+lB d))) (bC kd H7 H'):=⟨_,fun _ _ _=>Iff.rfl⟩;refine bO (xs:=us.reverse.map V.ref) J ((hJ ..).2 ⟨c0,1,O,_,_,_,rfl,rfl,by rw[xD];exact pN _ _,by show intBits 1<=_;have:intBits 1<=1:=(by decide);omega,D7.more (by omega),bC.refl _ _⟩) (fun j σ H' _ h=>by obtain⟨_,_,_,_,_,_,_,_,_,_,_,ex⟩:=(hJ ..).1 h;exact aw.of (ex _ _ a7 ea)) ?_ ?_
   ·intro j z σ H8 hj b5;obtain⟨b6,B,r,G,L,M,rfl,en,ep,bw,D8,a0⟩:=(hJ ..).1 b5;obtain⟨su,ec,rfl⟩:=bY hj;obtain⟨sg,c2,c3⟩:=Paired.getL eb ec;have jl:j<(aR J1 ask).reverse.length:=(bM.1 c2).1;rw[eG,zk]at jl;have ee:(aR J1 ask).reverse.drop j=sg::(aR J1 ask).reverse.drop (j+1):=by
     obtain⟨h1,h2⟩:=bM.1 c2;rw[jV h1,h2]
    rw[ee]at en ep;have ez:(j+1) * (1+jB d+lB d)=j * (1+jB d+lB d)+(1+jB d+lB d):=gA _ _;have ei:(j+1) * (1+jB d+lB d)<=5 * (1+jB d+lB d):=c_ _ (by omega);have eA:(j+1) * bB d=j * bB d+bB d:=gA _ _;have ej:j * bB d<=4 * bB d:=c_ _ (by omega);have bl:=c1.trs a0;have b7:=bC.sameH l h0 bl;have c4:gv H7 H8:=bC.ktd D7.hkd a0;have bn:gv H1 H8:=bC.ktd D1.hkd bl;have c5:(((d+1:Nat):Int)-1)=(d:Nat):=by omega
    refine⟨_,rfl,_,rfl,_,rfl,_,rfl,Gg J0 J1 J2 f ds ds',va,H0,t,l1,l2,l3,l4,kd,fu,su,ts,b6,_,sg,g,J0,J1,J2,ds,rfl,T,m,h0,b7,D8,bn _ _ f1,c4 _ _ c3,a4,by omega,fun bu ek H9 c8 D9 a8=>?_⟩;have dc:=bC.sameH b7 h0 a8;have dd:gv H1 H9:=fun b xs q=>bC.ktd D8.hkd a8 _ _ (bn _ _ q);have dg:gv H7 H9:=fun b xs q=>bC.ktd D8.hkd a8 _ _ (c4 _ _ q);refine⟨_,rfl,_,rfl,_,rfl,_,rfl,_,rfl,_,rfl,t',ow,su,m1,m2,m3,m4,ce,J0,J1,f,own,sg,ds',rfl,T'.same dc,m',dd _ _ o1,bQ.of (dg _ _ c3),ch,fun ou Ha eo Y=>?_⟩;refine⟨_,rfl,_,rfl,_,_,rfl,rfl,H0,t,l1,l2,l3,l4,t',m1,m2,m3,m4,kd,ou,bu,ts,ce,ek,_,d,behF f ds' own sg,behF J2 ds g sg,J0,J1,J2,f,ds,ds',?_,by omega,T,m,T',m',h0,dc.trans Y,D9.up Y,eo,fU (by omega) ch,Y _ _ c8,fU (by omega) a4,by omega,fun er b8 es dm=>?_⟩
    ·show[V.ref t,V.ref t',V.ref kd,V.ref ou,V.ref bu,V.int (((d+1:Nat):Int)-1)]=_;rw[c5]
    have bz:bC kd H8 b8:=a8.trs ((ab.exBs Y).trs dm);have et:=bC.sameH b7 h0 bz;have bc:=js (J0:=J0) (J1:=J1) (J2:=J2) (ds:=ds) z1 z2 d (behF J2 ds g sg);have dn:b8 bu=some (.tup ((behF J2 ds g sg).map V.str)):=bC.ktd (D9.up Y).hkd dm _ _ (Y _ _ c8);have U:∀a9:Option Int,(Fn (fstM J0 J1 J2 f ds ds' d (behF f ds' own sg) (behF J2 ds g sg)) B).foldl (fun O x=>jz O (s+x)) r=a9 ->
      (aM (aH nP V9 (aK (jC K 4) (am V0 (ci V2 KL (aH mz V5 (tC (.int 1))))))) U9) { nx:=J (j+1),rt:=Q } [some (.ref t),some (.ref t'),some (.ref kd),some (.ref ow),some (.ref fu),some (.int ((d+1:Nat))),some (.int s),some (j5 a9),some (nI ask),some (.int B),some (.ref su),some (.ref bu),some (j5 (fstM J0 J1 J2 f ds ds' d (behF f ds' own sg) (behF J2 ds g sg)))] b8:=by
     intro a9 e2;refine⟨_,rfl,_,rfl,_,rfl,_,rfl,_,rfl,_,_,rfl,rfl,Gg J0 J1 J2 f ds ds',va,H0,t,l1,l2,l3,l4,kd,bu,ts,er,_,d,behF J2 ds g sg,J0,J1,J2,ds,?_,by omega,T,m,h0,et,es,dn,fU (by omega) a4,by omega,fun eu Hc ev ew=>?_⟩
     ·show[V.ref t,V.ref kd,V.ref bu,V.int (((d+1:Nat):Int)-1)]=_;rw[c5]
     refine⟨_,_,rfl,rfl,nV bw bc (by omega),(hJ ..).2 ⟨eu,_,a9,_,_,_,rfl,?_,?_,?_,ev.more (by omega),a0.trs (bz.trs ew)⟩⟩
     ·rw[en,<-e2];show(Fn _ B++iz _ _ _ _).foldl _ r=_;rw[xI]
     ·rw[<-ep];show _=B * (Ea _ _ * _);rw[tQ,tP (Ea _ _)]
     ·have:=intBits_mul_le bw bc;omega
    refine⟨_,rfl,_,rfl,?_⟩;cases ef:fstM J0 J1 J2 f ds ds' d (behF f ds' own sg) (behF J2 ds g sg)with
    |none =>
     refine bA ?_;have tt:=U r (by rw[ef];rfl);rw[ef]at tt;exact bA tt
    |some nn =>
     obtain⟨n0,n1⟩:=kE J0 J1 J2 f ds ds' d _ _ nn ef;have bm:=xr n0 (qq n1) bc;refine bP ⟨_,rfl,_,rfl,?_⟩;cases cc:r with
     |none =>
      refine bP ?_;have tt:=U (some (s+nn * B)) (by rw[ef,cc];rfl);rw[ef]at tt;refine bP ⟨_,rfl,_,rfl,_,rfl,_,_,rfl,rfl,nV bm bw (by omega),_,_,rfl,rfl,tt⟩
     |some b =>
      refine bA ⟨_,rfl,_,rfl,_,rfl,_,_,rfl,rfl,nV bm bw (by omega),_,_,rfl,rfl,_,rfl,_,_,rfl,rfl,_,rfl,?_⟩;by_cases cl:s+nn * B<b
      ·have tt:=U (some (s+nn * B)) (by rw[ef,cc];show(if s+nn * B<b then _ else _)=_;rw[if_pos cl])
       rw[ef]at tt;rw[zzr1 (by exact cl)];refine bP ⟨_,rfl,_,rfl,_,rfl,_,_,rfl,rfl,nV bm bw (by omega),_,_,rfl,rfl,tt⟩
      ·have tt:=U (some b) (by rw[ef,cc];show(if s+nn * B<b then _ else _)=_;rw[if_neg cl])
       rw[ef]at tt;rw[zzr0 (by exact cl)];exact bA tt
   ·intro σ H8 b5;obtain⟨b6,B,r,G,L,M,rfl,en,ep,bw,D8,a0⟩:=(hJ ..).1 b5;have dp:(us.reverse.map V.ref).length=(aR J1 ask).reverse.length:=by rw[ah,eG,eG,zu,zk]
    rw[dp,mf]at en ep;rw[dp,eG,zk]at D8;have ep:B * 1=_:=ep;rw[DF]at ep;have m5:(J1.length+1) * (1+jB d+lB d)<=5 * (1+jB d+lB d):=c_ _ (by omega);refine⟨_,rfl,_,rfl,_,_,rfl,rfl,(hI ..).2 ⟨b6,_,r,_,_,_,_,_,rfl,?_,D8.more (by omega),a6.trs ((ab.exBs b3).trs a0)⟩⟩;rw[el]
    conv=>lhs;unfold lm
    rw[en,ep];rfl
  ·intro σ H5 b2;obtain⟨c0,s,O,x8,x9,G,L,M,rfl,el,D5,a6⟩:=(hI ..).1 b2;rw[ah,mf]at el;rw[ah]at D5;have el:_=O:=el;rw[cv]at el;have m5:A.length * (5 * (1+jB d+lB d))<=5 * (5 * (1+jB d+lB d)):=c_ _ zA;have y:=ct.trs a6;have bI:gv H1 H5:=bC.ktd D1.hkd y;refine⟨_,rfl,_,rfl,_,rfl,_,rfl,_,rfl,(by show 4<=aj;decide),fun p2 bS=>?_⟩;have S6:ab H5 (upd H5 p2 (.tup [.str "first",.ref ow,.ref fu,.int ((d+1:Nat))])):=ab.new bS
   have dr:=CW (d:=d+1) (aa (H:=H5) (a:=p2)) (S6 _ _ (bI _ _ o1)) (S6 _ _ (bI _ _ f1));generalize upd H5 p2 (.tup [.str "first",.ref ow,.ref fu,.int ((d+1:Nat))])=H6 at S6 dr ⊢
   have D6:=D5.up S6;have cl:=D6.len;refine⟨kd,_,rfl,.inr ⟨_,Bc own g (d+1),p2,D6.hkd,rfl,dr,kI _ _ _,by rw[rR];omega,rfl⟩,?_⟩;have D7:=D6.put (k:=Bc own g (d+1)) (v:=j5 O) (.inr (.inr ⟨own,g,d+1,by rw[el]⟩));have kk:=k _ _ (D7.more (m:=n+jB (d+1)) (by omega)) ((ab.exBs S1).trs ((y.trs (ab.exBs S6)).trs fun b o e nb=>by rw[ai nb];exact e));rw[el]at kk;exact⟨_,rfl,kk⟩
theorem vj{K:Za}{σ:L2.St}{H:Hp}{b l:Addr}{xs:List V}{ws:Zb}{ps:List DT}{Q:Hp->Prop}(C:cE K H b xs)(t:mO K H xs (me r_ ws ps))(T:ws.length=ps.length)(z:ws.length<=1000)(u:H l=none)
  (k:∀(f:List V) (a:Hp),a l=some (.lst f)->mO K a f ps->ab H a->Q a):em 2 [] σ (Kg K b) (jw K 2 (bt U0 (bt U1 (jr)))) (iH) V1 H l Q:=by
 have D:=Paired.length t;rw[List.length_zipWith]at D
 let m:Nat->List V->Hp->Prop:=fun i f a=>ab H a/\a l=some (.lst f)/\mO K a f (ps.take i)
 refine vi (xs:=xs) m ⟨ab.new u,aa,.nil⟩ (fun i f a _ ⟨S,n,_⟩=>⟨n,cE.sq (cE.kt (ab.kt S) C)⟩) ?_ ?_
 ·rintro f a ⟨S,n,g⟩;have E:xs.length=ps.length:=by omega
  rw[E,be]at g;exact k f a n g S
 ·rintro i f v x p G ⟨S,A,g⟩;obtain⟨d,B⟩:∃d,ps[i]?=some d:=⟨_,da (by omega)⟩;obtain⟨w,I⟩:∃w,ws[i]?=some w:=⟨_,da (by omega)⟩;obtain⟨y,j,h⟩:=Paired.getL t p;rw[List.getElem?_zipWith,I,B]at j;injection j with j;rw[<-j]at h;obtain⟨c,J,rfl,L,U,M,rfl,N,O,q,rfl,r,s⟩:=h;have s:q=[]:=s;subst s;refine⟨c,_,rfl,cE.sq (cE.kt (ab.kt S) L),rfl,_,_,rfl,_,_,rfl,rfl,pc ?_⟩;have kt:gv v (upd v l (.lst (f++[O]))):=eW A;refine⟨_,rfl,A,?_,mF G ⟨fun b o e=>?_,aa,?_⟩⟩
  ·rw[Paired.length g,aI];exact ao (by omega)
  ·rw[ai (ae e u)];exact S _ _ e
  ·rw[take_snoc B];exact ge (mO.kt kt g) (sU.kt (fun b xs e=>kt _ _ (ab.kt S _ _ e)) _ _ r)
inductive mW(K:Za)(vs:List V)(H:Hp)(Q:VK)(E:XK):Prop
 |mk (v:V) (a:Option Str) (ps:List Tr) (J1:Zb):(vs=[v])->(sU K H ((Tr.nd a ps).dt J1) v)->(ps.length=J1.length+1)->(J1.length<=4)->(∀(q l:Addr) (us:List V) (H':Hp),H l=none->H' q=some (.tup [nI a,.ref l])->H' l=some (.lst us)->mO K H' us (Tr.dts J1 ps)->ab H H'->Q (.ref q) H')->mW K vs H Q E
theorem Fb{K:Za}{vs:List V}{H:Hp}{Q:VK}{E:XK}(h:mW K vs H Q E):yF K (bj Q) (start z5 vs) H:=by
 obtain⟨v,a,ps,n,rfl,w,ok,z4,k⟩:=h;have zd:(Tr.dts n ps).length=n.length+1:=by rw[Tr.dts_map,ah,ok]
 have w:sU K H (mq n a (Tr.dts n ps)) v:=w;generalize Tr.dts n ps=f at zd w k;cases a with
 |some a =>
  obtain⟨d0,g⟩:∃d,f[0]?=some d:=⟨_,da (by omega)⟩;rw[rY g]at w;have ec:f=d0::f.drop 1:=by
   cases f with
   |nil=>cases g
   |cons x r=>injection g with g;rw[g];rfl
  obtain⟨b,xs,rfl,p,x0,an,rfl,y,x1,ap,rfl,J,e,L,rfl,e2,x3,as,rfl,e3,A⟩:=w;have A:as=[]:=A;subst A;have y:x0=V.str "tell":=y;have J:x1=V.str a:=J;subst y J;refine⟨_,rfl,b,_,0,_,rfl,rfl,cE.sq p,ca (j:=0) rfl,rfl,_,rfl,?_⟩;rw[zzr1 rfl];refine bP ?_;refine⟨_,rfl,b,_,1,_,rfl,rfl,cE.sq p,ca (j:=1) rfl,_,rfl,b,_,2,e,rfl,rfl,cE.sq p,ca (j:=2) rfl,(by show 1<=aj;decide),fun l B=>?_⟩;have s:ab H (upd H l (.lst [e])):=ab.new B;have M:upd H l (.lst [e]) l=some (.lst [e]):=aa;generalize upd H l (.lst [e])=H1 at s M ⊢;obtain⟨b3,a4,rfl,N,aC⟩:=e3;refine⟨_,rfl,b,_,3,.ref b3,rfl,rfl,cE.sq (cE.kt (ab.kt s) p),ca (j:=3) rfl,b3,rfl,⟨_,cE.sq (cE.kt (ab.kt s) N)⟩,fun cl C=>?_⟩;refine vj (ws:=n) (ps:=f.drop 1) (cE.kt (ab.kt s) N) (mO.kt (ab.kt s) (mO.of aC)) (by rw[dQ];omega) (by omega) C fun i m h2 O t=>?_;have zu:i.length<=4:=by rw[Paired.length O,dQ];omega
  refine⟨l,cl,_,_,rfl,rfl,t _ _ M,h2,cT (ao (by show 1+_<=1000;omega)),fun r T=>⟨(by show 2<=aj;decide),fun q D=>?_⟩⟩;have u:ab m (upd m r (.lst ([e]++i))):=ab.new T;have r3:upd m r (.lst ([e]++i)) r=some (.lst (e::i)):=aa
  change upd m r (.lst ([e]++i)) q=none at D
  show Q (.ref q) (upd (upd m r (.lst ([e]++i))) q (.tup [.str a,.ref r]));generalize upd m r (.lst ([e]++i))=o at u r3 D ⊢;have I:ab o (upd o q (.tup [.str a,.ref r])):=ab.new D;have U:=t.trans (u.trans I);refine k q r (e::i) _ ((s.trans t).free T) aa (I _ _ r3) ?_ (s.trans U);rw[ec];exact .cons (sU.kt (ab.kt (s.trans U)) _ _ e2) (mO.kt (ab.kt (u.trans I)) O)
 |none =>
  obtain⟨d0,g⟩:∃d,f[n.length]?=some d:=⟨_,da (by omega)⟩;rw[rZ g]at w;have ec:f=f.take n.length++[d0]:=by rw[<-take_snoc g,<-zd,be]
  obtain⟨b,xs,rfl,p,x0,an,rfl,y,x1,ap,rfl,J,e,L,rfl,e2,A⟩:=w;have A:L=[]:=A;subst A;have y:x0=V.str "wait":=y;subst y;refine⟨_,rfl,b,_,0,_,rfl,rfl,cE.sq p,ca (j:=0) rfl,rfl,_,rfl,?_⟩;rw[zzr0 (by intro z;injection z with z;exact absurd z (by decide))];refine bA ?_;obtain⟨b1,a5,rfl,Y,a0⟩:=J;refine⟨_,rfl,b,_,1,.ref b1,rfl,rfl,cE.sq p,ca (j:=1) rfl,b1,rfl,⟨_,cE.sq Y⟩,fun cl C=>?_⟩;refine vj (ws:=n) (ps:=f.take n.length) Y (mO.of a0) (by rw[aI];omega) (by omega) C fun i m h2 O t=>?_;have zu:i.length<=4:=by rw[Paired.length O,aI];omega
  refine⟨_,rfl,b,_,2,e,rfl,rfl,cE.sq (cE.kt (ab.kt t) p),ca (j:=2) rfl,(by show 1<=aj;decide),fun l B=>?_⟩;have u:ab m (upd m l (.lst [e])):=ab.new B;have al:upd m l (.lst [e]) l=some (.lst [e]):=aa;generalize upd m l (.lst [e])=o at u al ⊢;refine⟨cl,l,_,_,rfl,rfl,u _ _ h2,al,cT (ao (by show _+1<=1000;omega)),fun r T=>⟨(by show 2<=aj;decide),fun q D=>?_⟩⟩;have I:ab o (upd o r (.lst (i++[e]))):=ab.new T;have r4:upd o r (.lst (i++[e])) r=some (.lst (i++[e])):=aa
  change upd o r (.lst (i++[e])) q=none at D
  show Q (.ref q) (upd (upd o r (.lst (i++[e]))) q (.tup [.non,.ref r]));generalize upd o r (.lst (i++[e]))=H4 at I r4 D ⊢;have S5:ab H4 (upd H4 q (.tup [.non,.ref r])):=ab.new D;have G:=u.trans (I.trans S5);refine k q r (i++[e]) _ ((t.trans u).free T) aa (S5 _ _ r4) ?_ (t.trans G);rw[ec];exact ge (mO.kt (ab.kt G) O) (sU.kt (ab.kt (t.trans G)) _ _ e2)
inductive g6(K:Za)(D:Nat)(vs:List V)(H:Hp)(Q:VK)(E:XK):Prop
 |mk (t l1 l2 l3 l4 ou:Addr) (ts:Ze) (v:V) (T:Tr) (own J0 J1 J2:Zb) (ds:List ak):(vs=[.ref t,.ref ou,v])->(T.hgt<=D)->(gR H t l1 l2 l3 l4 ts J0 J1 J2 ds)->(aP J0 J1 J2 ds)->(H ou=some (.tup (own.map V.str)))->(own.length<=1000)->(sU K H (T.dt J1) v)->(T.wf J0 J1)->(∀H',ab H H'->Q (.bl (blB J1 J2 ds own T)) H')->g6 K D vs H Q E
theorem Fj{K:Za}{D:Nat}{O:Sp}(d5:D<=4)(hR:∀m,D=m+1->O=g6 K m){vs:List V}{H:Hp}{Q:VK}{E:XK}(h:g6 K D vs H Q E):yH K jc O (qZ K) (mW K) (bj Q) (start z7 vs) H:=by
 obtain⟨t,l1,l2,l3,l4,ou,ts,v,T,e,J0,f,g,l,rfl,hg,Tt,m,ho,hz,hv,wf,k⟩:=h;have z2:=m.says4;have z3:=m.rooms26;refine⟨_,rfl,(by show 0<=aj;decide),fun e1 U=>⟨iB e,iB [],aZ (bQ.of (kp ho U)),aZ (bQ.of aa),by rw[bJ];decide,by rw[bJ];decide,_,rfl,?_⟩⟩;rw[fE];have M:ab H (upd H e1 (.tup [])):=ab.new U;generalize upd H e1 (.tup [])=Ha at M ⊢;have A:e=[]->blB f g l e T=false:=fun c=>by
  cases T with
  |bl=>unfold blB;exact zzr0 (fun z=>z c)
  |en=>unfold blB;rfl
  |nd a ps=>unfold blB;rw[zzr0 (fun z=>z c)];rfl
 by_cases Y:e=[]
 ·rw[zzr1 Y];refine bP (bP ?_);have:=k Ha M;rw[A Y]at this;exact this
 rw[zzr0 Y];refine bA ?_;have B:=sU.kt (ab.kt M) _ _ hv;cases T with
 |bl =>
  obtain⟨b,xs,rfl,C,x0,o,rfl,n,G⟩:=B;have G:o=[]:=G;subst G;have n:x0=V.str "blame":=n;subst n;refine⟨_,rfl,b,_,0,_,rfl,rfl,cE.sq C,ca (j:=0) rfl,rfl,_,rfl,?_⟩;rw[zzr0 (by intro z;injection z with z;exact absurd z (by decide))];refine bA ?_;refine⟨_,rfl,b,_,0,_,rfl,rfl,cE.sq C,ca (j:=0) rfl,rfl,_,rfl,?_⟩;rw[zzr1 rfl];refine bP ?_;have:=k Ha M;unfold blB at this;rw[zzr1 Y]at this;exact this
 |en =>
  obtain⟨b,xs,rfl,C,x0,o,rfl,n,G⟩:=B;have G:o=[]:=G;subst G;have n:x0=V.str "end":=n;subst n;refine⟨_,rfl,b,_,0,_,rfl,rfl,cE.sq C,ca (j:=0) rfl,rfl,_,rfl,?_⟩;rw[zzr1 rfl];refine bP ?_;have:=k Ha M;unfold blB at this;exact this
 |nd a ps =>
  obtain⟨w1,w2,w3⟩:=wf;have w3:=Tr.wfs_mem.1 w3;have hg:Tr.hgts ps+1<=D:=hg;obtain⟨w,rfl⟩:∃w,D=w+1:=⟨D-1,by omega⟩;cases hR w rfl;have hd:∃(s0:Str) (r:List DT),mq f a (Tr.dts f ps)=.t (gu s0::r)/\s0≠("end":Str)/\s0≠("blame":Str):=by
   cases a with
   |none=>exact⟨_,_,rfl,by decide,by decide⟩
   |some w=>exact⟨_,_,rfl,by decide,by decide⟩
  obtain⟨s0,r,es,n1,n2⟩:=hd;have al:sU K Ha (mq f a (Tr.dts f ps)) v:=B;have an:=al;rw[es]at an;obtain⟨b,xs,rfl,C,x0,o,rfl,n,_⟩:=an;have n:x0=V.str s0:=n;subst n;refine⟨_,rfl,b,_,0,_,rfl,rfl,cE.sq C,ca (j:=0) rfl,rfl,_,rfl,?_⟩;rw[zzr0 (fun z=>n1 (by injection z))];refine bA ?_;refine⟨_,rfl,b,_,0,_,rfl,rfl,cE.sq C,ca (j:=0) rfl,rfl,_,rfl,?_⟩;rw[zzr0 (fun z=>n2 (by injection z))];refine bA ?_;refine⟨_,rfl,.ref b,a,ps,f,rfl,al,w1,z2,fun q pl us H1 _ hq ap hU S1=>?_⟩;refine⟨q,_,rfl,bQ.of hq,rfl,_,_,rfl,_,_,rfl,rfl,?_⟩;have as:=M.trans S1;refine⟨_,rfl,_,rfl,t,l1,l2,l3,l4,ts,a,J0,f,g,l,rfl,Tt.same as,z2,fun sl ss H2 aC hS S2=>?_⟩;refine⟨_,rfl,sl,pl,rfl,.inl ⟨⟨_,aw.of aC⟩,⟨_,aw.of (S2 _ _ ap)⟩,?_⟩⟩;have zk:=eD f a;have zs:ss.length=ps.length:=by rw[Paired.length hS,zk,w1]
  have zu:us.length=ps.length:=by rw[Paired.length hU,Tr.dts_map,ah]
  have a0:=as.trans S2;have eb:blB f g l e (.nd a ps)=blBs f g l e (aR f a) ps:=by unfold blB;rw[zzr1 Y];rfl
  rw[eb]at k
  let a8:Nat->L2.St->Hp->Prop:=fun i σ H'=>Ij fun(x5 x6:Option V)=>NA3 (σ=[some (.ref t),some (.ref ou),some (.ref b),some (nI a),some (.ref pl),x5,x6]) (blBs f g l e (aR f a) ps=blBs f g l e ((aR f a).drop i) (ps.drop i)) (ab H2 H')
  refine Bh (xs:=ss.map V.ref) (ys:=us) (by rw[ah];omega) a8 ⟨_,_,rfl,rfl,ab.refl _⟩ (fun i σ H' _ ⟨_,_,_,_,S⟩=>⟨aw.of (S _ _ aC),aw.of (S _ _ (S2 _ _ ap))⟩) ?_ ?_
  ·rintro i x y σ N p hx hy ⟨x5,x6,rfl,s,S3⟩ hp;obtain⟨su,a9,rfl⟩:=bY hx;obtain⟨sg,bc,bd⟩:=Paired.getL hS a9;obtain⟨dd,a4,bi⟩:=Paired.getL hU hy;rw[Tr.dts_map,cF]at a4;obtain⟨pt,I,rfl⟩:=kR.1 a4;have bm:(aR f a).drop i=sg::(aR f a).drop (i+1):=by
    obtain⟨h1,h2⟩:=bM.1 bc;rw[jV h1,h2]
   have bn:ps.drop i=pt::ps.drop (i+1):=by
    obtain⟨h1,h2⟩:=bM.1 I;rw[jV h1,h2]
   rw[bm,bn]at s;have s:_=(blB f g l (behF g l e sg) pt || blBs f g l e ((aR f a).drop (i+1)) (ps.drop (i+1))):=s;have S4:ab N (upd N p (.tup [.ref su,y])):=ab.new hp;have p4:upd N p (.tup [.ref su,y]) p=some (.tup [.ref su,y]):=aa;generalize upd N p (.tup [.ref su,y])=H4 at S4 p4 ⊢;have J:=S3.trans S4;have L:=a0.trans J;refine⟨p,_,rfl,bQ.of p4,rfl,_,_,rfl,_,_,rfl,rfl,?_⟩;refine⟨_,rfl,_,rfl,_,rfl,_,rfl,t,ou,su,l1,l2,l3,l4,ts,J0,f,g,e,sg,l,rfl,Tt.same L,m,L _ _ ho,bQ.of (J _ _ bd),hz,fun u H5 hu S5=>?_⟩;have a5:=J.trans S5;have a6:=L.trans S5;have bu:pt.hgt<=w:=by have:=Bd (bT I);omega
   refine⟨_,rfl,t,l1,l2,l3,l4,u,ts,y,pt,behF g l e sg,J0,f,g,l,rfl,bu,Tt.same a6,m,hu,fU (by omega) hz,sU.kt (ab.kt (S2.trans a5)) _ _ bi,w3 pt (bT I),fun H6 S6=>⟨_,rfl,?_⟩⟩;cases a7:blB f g l (behF g l e sg) pt with
   |true =>
    refine bP ?_;have:=k H6 (a6.trans S6);rw[s,a7]at this;exact this
   |false =>
    refine bA ⟨_,_,rfl,?_,a5.trans S6⟩;rw[s,a7];rfl
  ·rintro σ N ⟨x5,x6,rfl,s,S3⟩;rw[ah,zs]at s;have:=k N (a0.trans S3);rw[s,mf]at this;exact this
def C_:List Nat:=[4,3,2,1,0]
theorem Li:∀d,d<=4->jB d+uB d<=8000000:=by
 intro d a
 match d,a with
 |0,_=>decide
 |1,_=>decide
 |2,_=>decide
 |3,_=>decide
 |4,_=>decide
inductive sp_law47(K:Za)(vs:List V)(H:Hp)(Q:VK)(E:XK):Prop
 |mk (a:Addr) (ns:List Int):(vs=[.ref a])->(aw K H a (ns.map V.int))->(ns.length<=63)->(∀H',Q (.bl true) H')->sp_law47 K vs H Q E
theorem GP{K:Za}{C:Addr}{vs:List V}{H:Hp}{Q:VK}{E:XK}(h:sp_law47 K vs H Q E):IF K (g6 K 4) pF (k_ K 4) (pD C) (gZ K 4) (k9 C) tp pB fx (tm K) (bj Q) (start EK vs) H:=by
 obtain⟨a,ns,rfl,hs,hn,k⟩:=h;refine⟨_,rfl,a,ns,rfl,hs,hn,fun p c H1 _ bn S1=>?_⟩;refine⟨2,rfl,by decide,by decide,?_⟩
 let bu:Nat->L2.St->Hp->Prop:=fun i σ H'=>Lv fun(x2 x3 x4 x5 x6 x7 x8 x9 J L:Option V)=>σ=[some (.ref a),some (.ref p),x2,x3,x4,x5,x6,x7,x8,x9,J,L]/\gV H' p c
 refine kF (lo:=0) (n:=Int.toNat 2) bu ⟨_,_,_,_,_,_,_,_,_,_,rfl,bn⟩ ?_ ?_;rotate_left
 ·rintro σ H2 ⟨_,_,_,_,_,_,_,_,_,_,rfl,_⟩;exact k H2
 rintro i σ H2 hi ⟨x2,x3,x4,x5,x6,x7,x8,x9,J,L,rfl,bw⟩;refine⟨_,rfl,_,rfl,p,c,2,rfl,bw,by decide,by decide,fun r H3 r0 r2 bz cp=>?_⟩;refine⟨p,c,6,r,rfl,bz,by decide,by decide,r0,by omega,fun t w y l3 l4 ts e o l q H4 T4 m bI cs a5 ct=>?_⟩;have zr:l.length<=6:=bI;have bS:e.Nodup:=m.okA.1;refine⟨_,rfl,_,rfl,p,c,t,w,y,l3,l4,ts,e,o,l,q,4,rfl,a5,T4,m,by omega,by omega,by omega,fun t1 n3 n4 A s v H5 T5 m1 b1 _ _ b2 b3=>?_⟩;have a6:=T4.ex a5 b3;have z1:=m1.rooms26;refine⟨_,rfl,t,w,y,l3,l4,ts,e,o,l,q,rfl,a6,m,fun M H6 M6 S6=>?_⟩;refine⟨_,rfl,t1,w,y,n3,n4,A,e,o,s,v,rfl,T5.same S6,m1,fun I H7 I7 S7=>?_⟩;have Y:=S6.trans S7;have T7:=a6.same Y;have O7:=T5.same Y;have M7:=M6.same S7;have b4:=b2.ex Y;refine⟨(by show 5<=aj;decide),fun dl b5=>?_⟩;have S8:ab H7 (upd H7 dl (.lst [.int 4,.int 3,.int 2,.int 1,.int 0])):=ab.new b5;have al:upd H7 dl (.lst [.int 4,.int 3,.int 2,.int 1,.int 0]) dl=some (.lst (C_.map fun d=>V.int (d:Nat))):=aa;generalize upd H7 dl (.lst [.int 4,.int 3,.int 2,.int 1,.int 0])=H8 at S8 al ⊢;have T8:=T7.same S8;have O8:=O7.same S8;have M8:=M7.same S8;have I8:=I7.same S8;have b6:=b4.ex S8;have an:(closF l q (l.take 1)).length<=1000:=aE kL (by omega);have ap:(closF s v (s.take 1)).length<=1000:=aE kL (by omega);generalize hF:closF l q (l.take 1)=F at an;generalize hG:closF s v (s.take 1)=G at ap;refine⟨dl,rfl,⟨_,aw.of al⟩,?_⟩
 let b7:Nat->L2.St->Hp->Prop:=fun j σ H'=>NE5 fun(x7 x8 x9 J L:Option V)=>σ=[some (.ref a),some (.ref p),some (.int (0+(i:Nat))),some (.ref t),some (.ref t1),some (.ref M),some (.ref I),x7,x8,x9,J,L]/\ab H8 H'
 refine bO (xs:=C_.map fun d=>V.int (d:Nat)) b7 ⟨_,_,_,_,_,rfl,ab.refl _⟩ (fun j σ H' _ ⟨_,_,_,_,_,_,S⟩=>aw.of (S _ _ al)) ?_ ?_
 ·rintro j z σ H9 hj ⟨y7,y8,y9,b8,cc,rfl,O⟩;rw[cF]at hj;obtain⟨d,hd,rfl⟩:=kR.1 hj;have d4:d<=4:=(show ∀d∈C_,d<=4 by decide) d (bT hd);have bd:=Li d d4;refine fun kd hkd=>?_;have N:ab H9 (upd H9 kd (.dT [])):=ab.new hkd;have T:upd H9 kd (.dT []) kd=some (.dT []):=aa;generalize upd H9 kd (.dT [])=cv at N T ⊢;have T9:=T8.same O;have O9:=O8.same O;refine⟨_,rfl,_,rfl,_,rfl,_,rfl,t1,w,y,n3,n4,A,e,o,s,v,rfl,O9.same N,m1,fun g c0 hg as=>?_⟩;refine⟨_,rfl,t,w,y,l3,l4,ts,e,o,l,q,rfl,T9.same (N.trans as),m,fun f cd hf aC=>?_⟩;rw[hG]at hg;rw[hF]at hf;have U:=N.trans (as.trans aC);have ce:dj (Gg e o l s q v) cd kd [] e o l q 0:=⟨aC _ _ (as _ _ T),fun _ h=>(by cases h),dI _⟩;refine⟨_,rfl,H9,t,w,y,l3,l4,t1,w,y,n3,n4,kd,g,f,ts,A,[],0,d,G,F,e,o,l,s,q,v,rfl,d4,T9,m,O9,m1,hkd,U,ce,aC _ _ hg,ap,hf,an,by omega,fun a7 c1 cf a8=>?_⟩;have B:=bC.sameH U hkd a8;refine⟨_,rfl,_,rfl,_,rfl,M,I,d,e,o,l,s,q,v,rfl,d4,(M8.same O).same B,(I8.same O).same B,b1,fun c2 a9=>?_⟩;rw[hF,hG];have u:=B.trans a9;have ch:=cf.up a9;cases ef:fstM e o l s q v d G F with
  |none =>
   refine⟨_,rfl,_,rfl,rfl,_,rfl,?_⟩;rw[zzr1 rfl];refine bA ?_;refine⟨_,rfl,.non,"bool",_,false,rfl,.inl oN.non,rfl,_,rfl,?_⟩;refine bA ?_;refine⟨_,rfl,_,rfl,?_⟩;exact bA ⟨_,_,_,_,_,rfl,O.trans u⟩
  |some x =>
   obtain⟨x0,x1⟩:=kE e o l s q v d G F x ef;refine⟨_,rfl,_,rfl,rfl,_,rfl,?_⟩;rw[zzr1 rfl];refine bA ?_;refine⟨_,rfl,.int _,"bool",_,false,rfl,.inl (oN.int _),rfl,_,rfl,?_⟩;refine bA ?_;refine⟨_,rfl,_,rfl,?_⟩;refine bP ?_;refine⟨_,rfl,_,rfl,_,rfl,t,w,y,l3,l4,ts,e,o,l,q,rfl,T9.same u,m,fun f2 c3 bc a0=>?_⟩;rw[hF]at bc;refine⟨_,rfl,_,rfl,Gg e o l s q v,va,H9,t,w,y,l3,l4,kd,f2,ts,a7,_,d,x,F,e,o,l,q,rfl,d4,T9,m,hkd,u.trans a0,ch.up a0,bc,an,x0,x1,by omega,fun cl co c4 bi c5 bl=>?_⟩;have D:=bC.sameH (u.trans a0) hkd bl;rw[<-El]at bi;obtain⟨wf,c8⟩:=Ek e o l q d F x;refine⟨_,rfl,_,rfl,t1,w,y,n3,n4,A,e,o,s,v,rfl,O9.same D,m1,fun g2 dc bm a4=>?_⟩;rw[hG]at bm;refine⟨_,rfl,t1,w,y,n3,n4,g2,A,cl,nthT e o l q d F x,G,e,o,s,v,rfl,by omega,O9.same (D.trans a4),m1,bm,ap,sU.kt (ab.kt a4) _ _ bi,wf,fun dd cm=>⟨_,rfl,?_⟩⟩;rw[C8 bS d G F x ef];exact bA ⟨_,_,_,_,_,rfl,O.trans (D.trans (a4.trans cm))⟩
 ·rintro σ H9 ⟨y7,y8,y9,b8,cc,rfl,O⟩;exact⟨_,_,_,_,_,_,_,_,_,_,rfl,b6.ex O⟩
def eM(i:Nat):Stmt:=PySem.Challenge.pw_mumtrial_k47_the_first_blamer.main.body.getD i (.Pass ⟨0,0,0,0⟩)
local macro_rules | `(tactic| walk_at "s")=>`(tactic| exact⟨rfl,rfl,rfl,by decide +kernel,rfl,by decide +kernel,by decide +kernel⟩)
local macro_rules | `(tactic| walk_at "l")=>`(tactic| (intro _ _ _ _ h;first|exact len_h h|exact len_g h|(cases h;subst_vars;rfl)|(obtain⟨_,_,h,_⟩:=h;subst h;rfl)|((repeat obtain⟨_,h⟩:=h);subst_vars;rfl)))
theorem zzlS{e:List Value}{n:Nat}(h:e.length=n+1):∃ a t,e=a::t∧t.length=n:=by
  cases e with
  |nil=>cases h
  |cons a t=>exact⟨a,t,rfl,Nat.succ.inj h⟩
local macro_rules | `(tactic| walk_at "b")=>`(tactic| (intro _ _ _ _ _ _ us hl;(repeat (have h:=zzlS hl;clear hl;obtain⟨_,_,e,hl⟩:=h;subst e));cases List.eq_nil_of_length_eq_zero hl;rfl))
def LB(K:Za)(x qual:Str)(st:Stmt)(f:Addr):Prop:=∃(oc:Value) (od an:Option Addr) (sl:Array (Option Value)) (kV dc pm cd ct:Value),
 K.lookup f=some ⟨oc,od,.func (i_ x qual (iT st) (gP st) (cq st) .none kV dc pm an cd ct),sl⟩/\oj K cd qual=true/\gw K (.ref f)=true
theorem HL{K:Za}{x a:Str}{st:Stmt}{f:Addr}{g:Value}{h i:Option Addr}{j:Array (Option Value)}{kV m n e o:Value}(l:K.lookup f=some ⟨g,h,.func (i_ x a (iT st) (gP st) (cq st) .none kV m n i e o),j⟩)
  (c:oj K e a=true) (k:gw K (.ref f)=true):LB K x a st f:=⟨g,h,i,j,kV,m,n,e,o,l,c,k⟩
def ii(K:Za)(x:Str)(st:Stmt):Prop:=∃f,ck K bV x=some (some (.ref f))/\LB K x x st f
theorem fnG_mk{K:Za}{x:Str}{st:Stmt}{f:Addr}{g:Value}{h i:Option Addr}{j:Array (Option Value)}{kV m n e o:Value}(a:ck K bV x=some (some (.ref f)))(l:K.lookup f=some ⟨g,h,.func (i_ x x (iT st) (gP st) (cq st) .none kV m n i e o),j⟩)
  (c:oj K e x=true) (k:gw K (.ref f)=true):ii K x st:=⟨f,a,HL l c k⟩
def vJ(K:Za)(C:Addr)(m qual:Str)(st:Stmt):Prop:=∃f,cM K (.ref C) m=some (some (.ref f))/\Ah K (.ref f)=true/\LB K m qual st f
theorem fnM_mk{K:Za}{C:Addr}{m e:Str}{st:Stmt}{f:Addr}{h:Value}{j n:Option Addr}{o:Array (Option Value)}{kV p q g r:Value}(a:cM K (.ref C) m=some (some (.ref f)))(i:Ah K (.ref f)=true)
  (l:K.lookup f=some ⟨h,j,.func (i_ m e (iT st) (gP st) (cq st) .none kV p q n g r),o⟩) (c:oj K g e=true) (k:gw K (.ref f)=true):vJ K C m e st:=⟨f,a,i,HL l c k⟩
theorem LB.fun_{K:Za}{x a:Str}{st:Stmt}{f:Addr}(T:LB K x a st f):∃e,K4 K x a st f e:=by
 obtain⟨g,h,i,j,kV,m,n,o,p,l,c,k⟩:=T;exact⟨_,HK (st:=st) l c k⟩
def Cr:Sp:=fun _ _ _ _=>False
theorem wU{P:b9}{w:World}{K:Za}{a:Str->Option Value}{base:Heap}{k:Nat}{f:Addr}{e:lR}{g:Zb}:mQ P w K a base CX0 k f e g Cr:=⟨fun _ _ _ _ h=>h.elim,fun _ _ _ _ _ _ _ _ _ _ _ _ _ h=>h.elim⟩
def KM(K:Za)(a:Addr)(ws:Zb):Prop:=∀H,bQ K H a (ws.map V.str)
theorem DQ{K:Za}{a:Addr}{f:Zb}{o:Obj}{e:Array Value}{n:Nat}(l:K.lookup a=some o)(c:o.cls=.type "tuple")(d:o.data=.seq e n)(z:e.size<=aj)(v:ba (f.map V.str) e.toList):KM K a f :=
 fun _=>.inr ⟨o,e,n,l,c,d,z,v⟩
section
variable{P:b9}{w:World}{K:Za}{mg:Str->Option Value}{base h:Heap}{C:Addr}{x qual:Str}{st:Stmt}{N ps:Zb}{k:Nat}{sp:Sp}
abbrev Il(ps:Zb)(sp:Sp):Prop:=∀vs H Q E,sp vs H Q E->vs.length=ps.length
abbrev BodyOk(CX:Gm)(P:b9)(w:World)(K:Za)(mg:Str->Option Value)(base:Heap)(qual:Str)(st:Stmt)(N:Zb)(k:Nat)(sp:Sp)(nox:Cx->Cx):Prop:=N.Nodup->∀(f:Addr) (cdv:Value) (A:Around) (outer:List Env) (s:Shared) (H:Hp) (vs:List V) (Q:VK) (E:XK),fF k (A.deeper (envOfC qual (cq st) s.heap.objs.size f cdv))->(A.deeper (envOfC qual (cq st) s.heap.objs.size f cdv)).units+16<cLine->sp vs H Q E ->
 ∃t,BM (nox (Dd CX P w K mg base N qual (cq st) f cdv A outer s H E)) (gP st) t/\t (bj Q) (start N vs) H
abbrev Dz(x qual:Str)(st:Stmt)(ps:Zb):Prop:=∀(kV doc pm:Value) (an:Option Addr) (cdv ct:Value) (us:Zf),us.length=ps.length->bindArgs (i_ x qual (iT st) (gP st) (cq st) .none kV doc pm an cdv ct) ⟨us,[]⟩=pure (ps.zip us)
theorem dG(X:K.In h)(G:h.Ns bV mg)(T:ii K x st)(b:BodyOk CX0 P w K mg base x st N k sp Cx.nox)(i:Dz x x st ps)(S:lF N ps (cq st):=by walk_at "s")(l:Il ps sp:=by walk_at "l"):fH P w K mg base x ps (k+1) sp:=by
 obtain⟨f,a,t⟩:=T;obtain⟨j,F⟩:=t.fun_;exact⟨f,j,F.ok S l fun e A outer s H m Q E g h=>b S.nd f e A outer s H m Q E g (Et g) h,eF X G a,F.kp,F.binds i⟩
theorem dM(j:BN K C)(T:vJ K C x qual st)(b:BodyOk CX0 P w K mg base qual st N k sp Cx.nox)(m:Dz x qual st ps)(S:lF N ps (cq st):=by walk_at "s")(l:Il ps sp:=by walk_at "l"):o5 P w K mg base C x ps (k+1) sp:=by
 obtain⟨f,a,i,t⟩:=T;obtain⟨n,F⟩:=t.fun_;exact⟨f,n,F.ok S l fun e A outer s H o Q E g h=>b S.nd f e A outer s H o Q E g (Et g) h,j,⟨a,i,F.kp⟩,F.binds m⟩
theorem dN{y:Str}(j:mg y=some (.ref C))(m:l9 K C=true)(n:gw K (.ref C)=true)(T:vJ K C "__init__" qual st)(b:BodyOk CX0 P w K mg base qual st N k sp Cx.nox)(o:Dz "__init__" qual st ps)(S:lF N ps (cq st):=by walk_at "s")(l:Il ps sp:=by walk_at "l"):K0 P w K mg base y C ps (k+1) sp:=by
 obtain⟨f,a,i,t⟩:=T;obtain⟨p,F⟩:=t.fun_;exact⟨f,p,F.ok S l fun e A outer s H q Q E g h=>b S.nd f e A outer s H q Q E g (Et g) h,j,⟨m,a,i,n⟩,F.binds o⟩
end
structure Zs(mg:Str->Option Value):Prop where
 all:mg "all"=none
 any:mg "any"=none
 bool:mg "bool"=none
 dict:mg "dict"=none
 enumerate:mg "enumerate"=none
 int:mg "int"=none
 isinstance:mg "isinstance"=none
 len:mg "len"=none
 list:mg "list"=none
 max:mg "max"=none
 min:mg "min"=none
 range:mg "range"=none
 reversed:mg "reversed"=none
 sum:mg "sum"=none
 tuple:mg "tuple"=none
 zip:mg "zip"=none
structure Cs(K:Za)(mg:Str->Option Value)(C Ck Cd Cb a_STILL a_HUSH:Addr):Prop where
 LETTERS:Gc mg "LETTERS" (.str "abcdefghijklmnopqrstuvwxyz")
 LONGEST_NAME:Gc mg "LONGEST_NAME" (.int 8)
 MOST_WORDS:Gc mg "MOST_WORDS" (.int 4)
 MOST_ROOMS:Gc mg "MOST_ROOMS" (.int 150)
 MOST_DOORS:Gc mg "MOST_DOORS" (.int 2000)
 DEEPEST:Gc mg "DEEPEST" (.int 4)
 STILL:Gc mg "STILL" (.ref a_STILL)
 HUSH:Gc mg "HUSH" (.ref a_HUSH)
 still:KM K a_STILL aF
 hush:KM K a_HUSH cA
 mc:MC K C
 cm:mg "Machine"=some (.ref C)
 makes:l9 K C=true
 kc:gw K (.ref C)=true
 ksc:KC K Ck
 cmksc:mg "KnownSteps"=some (.ref Ck)
 makesksc:l9 K Ck=true
 kcksc:gw K (.ref Ck)=true
 dc:DC K Cd
 cmdc:mg "Made"=some (.ref Cd)
 makesdc:l9 K Cd=true
 kcdc:gw K (.ref Cd)=true
 bc:BC K Cb
 cmbc:mg "Blamers"=some (.ref Cb)
 makesbc:l9 K Cb=true
 kcbc:gw K (.ref Cb)=true
structure Ts(K:Za)(C Ck Cd Cb:Addr):Prop where
 f_law_spread:ii K "_law_spread" (eM 49)
 f_law_open:ii K "_law_open" (eM 50)
 f_law_anew:ii K "_law_anew" (eM 51)
 f_law_take:ii K "_law_take" (eM 52)
 f_law_names:ii K "_law_names" (eM 53)
 f_law_put:ii K "_law_put" (eM 55)
 f_law_draw_doors:ii K "_law_draw_doors" (eM 56)
 f_law_model:ii K "_law_model" (eM 57)
 f_is_name:ii K "is_name" (eM 22)
 f_as_keys:ii K "as_keys" (eM 23)
 f_first_wrong_name:ii K "first_wrong_name" (eM 24)
 f_door_signs:ii K "door_signs" (eM 25)
 f_first_wrong_door:ii K "first_wrong_door" (eM 26)
 f_goals_by_start_and_sign:ii K "goals_by_start_and_sign" (eM 27)
 f_led_by_still:ii K "led_by_still" (eM 28)
 f_first_led_round:ii K "first_led_round" (eM 29)
 f_need_none:ii K "need_none" (eM 30)
 f_need_parts:ii K "need_parts" (eM 31)
 f_doors_by_start:ii K "doors_by_start" (eM 32)
 f_has_asks_alone:ii K "has_asks_alone" (eM 33)
 f_Machine___init__:vJ K C "__init__" "Machine.__init__" (cR (eM 34) 0)
 f_law_machine:ii K "_law_machine" (eM 70)
 f_Machine_rooms:vJ K C "rooms" "Machine.rooms" (cR (eM 34) 3)
 f_Machine_led_from:vJ K C "led_from" "Machine.led_from" (cR (eM 34) 8)
 f_with_still:ii K "with_still" (eM 10)
 f_Machine_goals:vJ K C "goals" "Machine.goals" (cR (eM 34) 7)
 f_Machine_is_quiet:vJ K C "is_quiet" "Machine.is_quiet" (cR (eM 34) 5)
 f_law_still_on:ii K "_law_still_on" (eM 54)
 f_Machine_asks:vJ K C "asks" "Machine.asks" (cR (eM 34) 1)
 f_Machine_says:vJ K C "says" "Machine.says" (cR (eM 34) 2)
 f_first_face:ii K "first_face" (eM 11)
 f_face_behind:ii K "face_behind" (eM 12)
 f_signs_in_order:ii K "signs_in_order" (eM 9)
 f_steps_at:ii K "steps_at" (eM 13)
 f_KnownSteps___init__:vJ K Ck "__init__" "KnownSteps.__init__" (cR (eM 14) 0)
 f_KnownSteps_steps_from:vJ K Ck "steps_from" "KnownSteps.steps_from" (cR (eM 14) 1)
 f_need_depth:ii K "need_depth" (eM 42)
 f_product:ii K "product" (eM 43)
 f_Made___init__:vJ K Cd "__init__" "Made.__init__" (cR (eM 44) 0)
 f_Made_steps_from:vJ K Cd "steps_from" "Made.steps_from" (cR (eM 44) 1)
 f_Made_kinds_at:vJ K Cd "kinds_at" "Made.kinds_at" (cR (eM 44) 2)
 f_Made_count_at:vJ K Cd "count_at" "Made.count_at" (cR (eM 44) 3)
 f_Made_count_of:vJ K Cd "count_of" "Made.count_of" (cR (eM 44) 4)
 f_takes:ii K "takes" (eM 37)
 f_need_match:ii K "need_match" (eM 36)
 f_need_all_asks_taken:ii K "need_all_asks_taken" (eM 38)
 f_need_taker:ii K "need_taker" (eM 39)
 f_Blamers___init__:vJ K Cb "__init__" "Blamers.__init__" (cR (eM 46) 0)
 f_Blamers_places:vJ K Cb "places" "Blamers.places" (cR (eM 46) 1)
 f_Blamers_first_of_kinds:vJ K Cb "first_of_kinds" "Blamers.first_of_kinds" (cR (eM 46) 5)
 f_Blamers_first_of_kind:vJ K Cb "first_of_kind" "Blamers.first_of_kind" (cR (eM 46) 6)
 f_Blamers_first_at:vJ K Cb "first_at" "Blamers.first_at" (cR (eM 46) 4)
 f_first_blamer:ii K "first_blamer" (eM 47)
 f_law_willing:ii K "_law_willing" (eM 58)
 f_law_turned:ii K "_law_turned" (eM 59)
 f_law_renamed:ii K "_law_renamed" (eM 60)
 f_law_near:ii K "_law_near" (eM 61)
 f_law_behind:ii K "_law_behind" (eM 62)
 f_law_begin:ii K "_law_begin" (eM 63)
 f_law_part_signs:ii K "_law_part_signs" (eM 64)
 f_law_after:ii K "_law_after" (eM 73)
 f_law_asked:ii K "_law_asked" (eM 74)
 f_law_times:ii K "_law_times" (eM 66)
 f_law_count:ii K "_law_count" (eM 67)
 f_law_sizes:ii K "_law_sizes" (eM 65)
 f_law_laid:ii K "_law_laid" (eM 69)
 f_law_nth:ii K "_law_nth" (eM 68)
 f_law_pieces:ii K "_law_pieces" (eM 72)
 f_law_blamed:ii K "_law_blamed" (eM 71)
 f_law_first:ii K "_law_first" (eM 75)
 f_law47:ii K "law" (eM 76)
section
variable{P:b9}{w:World}{K:Za}{mg:Str->Option Value}{base h:Heap}{C Ck Cd Cb a_STILL a_HUSH:Addr}
section
variable(P:b9)(w:World)(K:Za)(mg:Str->Option Value)(C Ck Cd Cb a_STILL a_HUSH:Addr)
abbrev lM:Prop:=∀base,fH P w K mg base "_law_spread" ["cell","at"] 1 mU
abbrev vF:Prop:=∀base,fH P w K mg base "_law_open" ["script"] 1 (tm K)
abbrev lO:Prop:=∀base,fH P w K mg base "_law_anew" ["pen"] 1 tw
abbrev d6:Prop:=∀base,fH P w K mg base "_law_take" ["pen","many"] 2 fx
abbrev jP:Prop:=∀base,fH P w K mg base "_law_names" ["pen","many"] 3 mv
abbrev kP:Prop:=∀base,fH P w K mg base "_law_put" ["doors","door"] 1 k5
abbrev h7:Prop:=∀base,fH P w K mg base "_law_draw_doors" ["pen","asks","says","rooms","full"] 3 ic
abbrev sv:Prop:=∀base,fH P w K mg base "_law_model" ["pen","most","full"] 4 pB
abbrev rM:Prop:=∀base,fH P w K mg base "is_name" ["text"] 1 sp_is_name
abbrev kQ:Prop:=∀base,fH P w K mg base "as_keys" ["things"] 1 (sp_as_keys K)
abbrev gg:Prop:=∀base,fH P w K mg base "first_wrong_name" ["names","most","taken"] 2 (sp_first_wrong_name K)
abbrev lQ:Prop:=∀base,fH P w K mg base "door_signs" ["asks","says"] 1 (sp_door_signs K)
abbrev gh:Prop:=∀base,fH P w K mg base "first_wrong_door" ["doors","rooms","signs"] 2 (sp_first_wrong_door K)
abbrev db:Prop:=∀base,fH P w K mg base "goals_by_start_and_sign" ["doors"] 1 pC
abbrev ju:Prop:=∀base,fH P w K mg base "led_by_still" ["goals","room"] 1 yY
abbrev gU:Prop:=∀base,fH P w K mg base "first_led_round" ["rooms","led"] 1 sp_first_led_round
abbrev jN:Prop:=∀base,fH P w K mg base "need_none" ["part","number"] 1 sp_need_none
abbrev lH:Prop:=∀base,fH P w K mg base "need_parts" ["asks","says","rooms","doors"] 3 sp_need_parts
abbrev h_:Prop:=∀base,fH P w K mg base "doors_by_start" ["rooms","doors"] 1 sp_doors_by_start
abbrev h9:Prop:=∀base,fH P w K mg base "has_asks_alone" ["doors"] 1 sp_has_asks_alone
abbrev rN:Prop:=∀base,K0 P w K mg base "Machine" C ["self","asks","says","rooms","doors"] 4 (tq C)
abbrev nU:Prop:=∀base,fH P w K mg base "_law_machine" ["told"] 6 (k9 C)
abbrev eB:Prop:=∀base,o5 P w K mg base C "rooms" ["self"] 1 (ko C)
abbrev d_:Prop:=∀base,o5 P w K mg base C "led_from" ["self","room"] 1 (ip C)
abbrev iU:Prop:=∀base,fH P w K mg base "with_still" ["M","rooms"] 2 (sp_with_still C)
abbrev gb:Prop:=∀base,o5 P w K mg base C "goals" ["self","room","sign"] 1 (iW C)
abbrev gi:Prop:=∀base,o5 P w K mg base C "is_quiet" ["self","room"] 1 (jD C)
abbrev dF:Prop:=∀base,fH P w K mg base "_law_still_on" ["doors","rooms"] 1 (dL K)
abbrev fj:Prop:=∀base,o5 P w K mg base C "asks" ["self"] 1 (m8 C)
abbrev fh:Prop:=∀base,o5 P w K mg base C "says" ["self"] 1 (mV C)
abbrev lP:Prop:=∀base,fH P w K mg base "first_face" ["M"] 3 (dq C)
abbrev ka:Prop:=∀base,fH P w K mg base "face_behind" ["M","face","sign"] 3 (tu K C)
abbrev hZ:Prop:=∀base,fH P w K mg base "signs_in_order" ["M"] 2 (yX C a_HUSH)
abbrev o0:Prop:=∀base,fH P w K mg base "steps_at" ["M","face"] 4 (k4 C)
abbrev iV:Prop:=∀base,K0 P w K mg base "KnownSteps" Ck ["self","M"] 1 (ky Ck)
abbrev cK:Prop:=∀base,o5 P w K mg base Ck "steps_from" ["self","face"] 5 (kz C Ck)
abbrev lK:Prop:=∀base,fH P w K mg base "need_depth" ["d"] 1 eC
abbrev ny:Prop:=∀base,fH P w K mg base "product" ["numbers"] 1 sp_product
abbrev DA:Prop:=∀base,K0 P w K mg base "Made" Cd ["self","M"] 3 (mY C Ck Cd)
abbrev cJ:Prop:=∀base,o5 P w K mg base Cd "steps_from" ["self","face"] 6 (iX C Ck Cd)
abbrev f_:Prop:=∀base,o5 P w K mg base Cd "kinds_at" ["self","face"] 7 (kq K C Ck Cd)
abbrev ga:Prop:=∀base,o5 P w K mg base Cd "count_at" ["self","face","d"] 16 (iq C Ck Cd 4)
abbrev iK:Prop:=∀base,o5 P w K mg base Cd "count_of" ["self","face","d","signs"] 17 (jd K C Ck Cd 4)
abbrev Ad:Prop:=∀base,fH P w K mg base "takes" ["I","room","ask"] 2 (sp_takes C)
abbrev lJ:Prop:=∀base,fH P w K mg base "need_match" ["M","I"] 2 (gF C)
abbrev eI:Prop:=∀base,fH P w K mg base "need_all_asks_taken" ["I"] 4 (iQ C)
abbrev lG:Prop:=∀base,fH P w K mg base "need_taker" ["M","I"] 5 (gE C)
abbrev rO:Prop:=∀base,K0 P w K mg base "Blamers" Cb ["self","M","I"] 5 (mZ C Ck Cd Cb)
abbrev ia:Prop:=∀base,o5 P w K mg base Cb "places" ["self","face","mine","signs"] 7 (k7 K C Ck Cd Cb)
abbrev gj:Prop:=∀base,o5 P w K mg base Cb "first_at" ["self","face","mine","d"] 30 (oG C Ck Cd Cb 4)
abbrev mS:Prop:=∀base,fH P w K mg base "first_blamer" ["M","d","I"] 31 (pD C)
abbrev j9:Prop:=∀base,fH P w K mg base "_law_willing" ["pen","told"] 3 kZ
abbrev lL:Prop:=∀base,fH P w K mg base "_law_turned" ["pen","told"] 3 mT
abbrev j_:Prop:=∀base,fH P w K mg base "_law_renamed" ["pen","told"] 4 jA
abbrev vG:Prop:=∀base,fH P w K mg base "_law_near" ["pen","told","most"] 5 tp
abbrev gS:Prop:=∀base,fH P w K mg base "_law_behind" ["told","face","sign"] 2 (qZ K)
abbrev sy:Prop:=∀base,fH P w K mg base "_law_begin" ["told"] 2 pF
abbrev cB:Prop:=∀base,fH P w K mg base "_law_part_signs" ["told","ask"] 1 jc
abbrev fg:Prop:=∀base,fH P w K mg base "_law_after" ["told","known","face","sign"] 3 (je K)
abbrev iE:Prop:=∀base,fH P w K mg base "_law_asked" ["told","known","face"] 4 (kA K)
abbrev jO:Prop:=∀base,fH P w K mg base "_law_times" ["numbers"] 1 sp_product
abbrev jQ:Prop:=∀base,fH P w K mg base "_law_count" ["told","known","face","deep"] 13 (jC K 4)
abbrev mR:Prop:=∀base,fH P w K mg base "_law_sizes" ["told","known","face","ask","deep"] 14 (io K 4)
abbrev xC:Prop:=∀base,fH P w K mg base "_law_nth" ["told","known","face","deep","number"] 23 (k_ K 4)
abbrev lN:Prop:=∀base,fH P w K mg base "_law_pieces" ["trial"] 1 (mW K)
abbrev qp:Prop:=∀base,fH P w K mg base "_law_blamed" ["other","own","trial"] 7 (g6 K 4)
abbrev sw:Prop:=∀base,fH P w K mg base "_law_first" ["told","other","known","own","face","deep"] 18 (gZ K 4)
end
section
variable(X:K.In h)(G:h.Ns bV mg)(z:Zs mg)(c:Cs K mg C Ck Cd Cb a_STILL a_HUSH)(T:Ts K C Ck Cd Cb)
include X G z c T
theorem vY:lM P w K mg:=fun base=>dG X G T.f_law_spread (fun S _ _ _ _ _ _ _ _ _ a e h=>bK (Fa (K:=K) h) (ac (bp (iM Le (pv 0) (az Hg ag ag)) (af (au (pv 0))) aJ) (ac (qs 2 S (az gL (az cz (az cz (az jm (az gL (pv 0) ag) ag) (az jm (pv 1) ag)) ag) ag)) (ac (qs 3 S (az gL (az cz (az cz (az jm (pv 2) (pv 2)) (az jm (pv 1) ag)) (az gL (pv 0) ag)) ag)) (ac (qs 4 S (az gL (az cz (az cz (az jm (pv 3) (pv 3)) (az jm (pv 2) ag)) ag) ag)) (af (au (az cz (az jm (az cz (az jm (pv 2) ag) (pv 3)) ag) (pv 4))))))))) (by walk_at "b")
theorem Az:vF P w K mg:=fun base=>dG X G T.f_law_open (fun S _ _ _ _ _ _ _ _ _ a e h=>bK (IS h) (ac (qs 1 S (qL rfl z.list (a1 (cV fX (pv 0) fZ (cZ ag))))) (ac (bD bo rfl (pO rfl z.enumerate (a1 (cV fX (pv 0) (cZ ag) (cZ ag)))) (dX rfl (ax (gn 2 S) (ax (gn 3 S) cQ))) (af (j4 (az cz (xl (pv 1) (az gL (pv 2) ag)) (pv 3)) (uN (pv 1) (az gL (pv 2) ag) my)))) (af (au (bq (a3 (pv 1) ag ag))))))) (by walk_at "b")
theorem AB:lO P w K mg:=fun base=>dG X G T.f_law_anew (fun S _ _ _ _ _ _ _ _ _ a e h=>bK (I_ (K:=K) h) (ac (j4 ag (uN (pv 0) ag my)) (af (au (pv 0))))) (by walk_at "b")
theorem Ay(a:lM P w K mg):d6 P w K mg:=fun base=>dG X G T.f_law_take (fun S _ _ _ _ _ _ _ _ _ e f h=>bK (IQ h) (ac (bp (iM uR (xl (pv 0) ag) (pv 1)) (ac (qs 2 S (xl (pv 0) ag)) (ac (qs 3 S ag) (ac (bp (iM uR (pv 2) (ql z.len (a1 (xl (pv 0) ag)))) (af (qs 3 S (xl (xl (pv 0) ag) (pv 2)))) (af (bp (iM AV (ql z.len (a1 (xl (pv 0) ag))) ag) (af (qs 3 S (az gL (xl (xl (pv 0) ag) (az gL (az cz (az jm (pv 2) ag) ag) (ql z.len (a1 (xl (pv 0) ag))))) (az cz (az Hg ag ag) (pv 2))))) aJ))) (ac (j4 (az cz (pv 2) ag) (uN (pv 0) ag my)) (af (j4 (qf e (a base) (a2 (pv 3) (pv 2))) (uN (pv 0) ag my))))))) aJ) (ac (qs 4 S (az gL (xl (pv 0) ag) (pv 1))) (ac (j4 (az Ej (xl (pv 0) ag) (pv 1)) (uN (pv 0) ag my)) (af (au (pv 4))))))) (by walk_at "b")
theorem yO(a:d6 P w K mg):jP P w K mg:=fun base=>dG X G T.f_law_names (fun S _ _ _ _ _ _ _ _ _ e f h=>bK (GL h) (ac (qs 2 S bh) (ac (qs 3 S (jH PySem.F.plainAttrs_str PySem.F.slot_str_join PySem.F.type_str_join Jm bh (a1 (qc (iY rfl z.range (a1 ag)) (aS (by decide)) fun _ _ _ _ _ _=>⟨gc 0,cj,xs' (pv 1) (qf e (a base) (a2 (pv 2) ag))⟩)))) (ac (qs 4 S (qf e (a base) (a2 (pv 0) ag))) (ac (qs 5 S (qf e (a base) (a2 (pv 0) ag))) (ac (qs 6 S (qf e (a base) (a2 (pv 0) ag))) (ac (qs 7 S (bq cy)) (ac (bD bo rfl (iY rfl z.range (a1 (pv 1))) (gn 8 S) (ac (qs 9 S (xs' (pv 2) (az gL (az cz (pv 5) (az jm ag (pv 8))) ag))) (ac (qs 10 S (cV Ct (pv 3) fZ (cZ (az gL (az cz (pv 6) (az jm (pv 8) (az gL (pv 4) ag))) ag)))) (ac (qs 11 S (xl (bq (a3 ag (ql z.len (a1 (pv 10))) (az Ej (ql z.len (a1 (pv 10))) ag))) (pv 4))) (af (br (jH gx jS jR dC (pv 7) (a1 (az uS (az uS (cV Ct (pv 10) fZ (cZ (pv 11))) (pv 9)) (cV Ct (pv 10) (cZ (pv 11)) fZ)))))))))) (af (au (pv 7))))))))))) (by walk_at "b")
theorem Cg:kP P w K mg:=fun base=>dG X G T.f_law_put (fun S _ _ _ _ _ _ _ _ _ e a h=>bK (Ko h) (af (bp (ID (kC a) (pv 1) (pv 0)) (af (br (jH gx jS jR dC (pv 0) (a1 (pv 1))))) aJ))) (by walk_at "b")
theorem pp(a:d6 P w K mg)(e:kP P w K mg):h7 P w K mg:=fun base=>dG X G T.f_law_draw_doors (fun S _ _ _ _ _ _ _ _ _ f g h=>bK (wk h) (ac (qs 5 S (bq cy)) (ac (qs 6 S (qf f (a base) (a2 (pv 0) ag))) (ac (bD bo rfl (pO rfl z.enumerate (a1 (pv 3))) (dX rfl (ax (gn 7 S) (ax (gn 8 S) cQ))) (ac (bD bo rfl (iY rfl z.range (a1 (xl (bq (aG ag (a3 ag ag ag))) (qf f (a base) (a2 (pv 0) ag))))) (gn 9 S) (ac (qs 10 S (aA (a2 bh (xl (pv 2) (qf f (a base) (a2 (pv 0) (ql z.len (a1 (pv 2))))))))) (af (br (qf f (e base) (a2 (pv 5) (aA (a3 (pv 8) (pv 10) (xl (pv 3) (qf f (a base) (a2 (pv 0) (ql z.len (a1 (pv 3)))))))))))))) (ac (bD bo rfl (aN (pv 1)) (gn 11 S) (af (bD bo rfl (iY rfl z.range (a1 (xl (bq (aG (pv 4) (a3 ag ag ag))) (qf f (a base) (a2 (pv 0) ag))))) (gn 9 S) (af (br (qf f (e base) (a2 (pv 5) (aA (a3 (pv 8) (aA (a2 bh (pv 11))) (xl (pv 3) (qf f (a base) (a2 (pv 0) (ql z.len (a1 (pv 3))))))))))))))) (ac (qs 12 S (xl (bq (a2 (cV fX (pv 3) (cZ (az cz (pv 7) ag)) fZ) (cV fX (pv 3) fZ (cZ (pv 7))))) (pv 6))) (af (bp (PW.pt (lc (iM (rf g) (pv 12) (bq cy)) (lb (iM gM (qf f (a base) (a2 (pv 0) ag)) ag)))) (af (br (qf f (e base) (a2 (pv 5) (aA (a3 (pv 8) (aA (a1 bh)) (xq (pv 12) (qf f (a base) (a2 (pv 0) (ql z.len (a1 (pv 12)))))))))))) aJ)))))) (af (au (pv 5))))))) (by walk_at "b")
theorem yP(g:lO P w K mg)(a:d6 P w K mg)(e:jP P w K mg)(f:h7 P w K mg):sv P w K mg:=fun base=>dG X G T.f_law_model (fun S _ _ _ _ _ _ _ _ _ i j h=>bK (GN h) (ac (br (qf i (g base) (a1 (pv 0)))) (ac (qs 3 S (qf i (e base) (a2 (pv 0) ag))) (ac (qs 4 S (cV fX (pv 3) fZ (cZ (az cz ag (xl (bq (aG ag (aG ag (aG ag (a3 ag ag ag))))) (qf i (a base) (a2 (pv 0) ag))))))) (ac (qs 5 S (cV fX (pv 3) (cZ ag) (cZ (az cz ag (xl (bq (aG ag (aG ag (aG ag (a3 ag ag ag))))) (qf i (a base) (a2 (pv 0) ag))))))) (ac (qs 6 S (qf i (e base) (a2 (pv 0) (az cz ag (qf i (a base) (a2 (pv 0) (pv 1))))))) (ac (qs 7 S (qf i (f base) (aG (pv 0) (aG (pv 4) (a3 (pv 5) (pv 6) (pv 2)))))) (af (au (aA (aG (pv 4) (a3 (pv 5) (pv 6) (pv 7))))))))))))) (by walk_at "b")
theorem Ci:rM P w K mg:=fun base=>dG X G T.f_is_name (fun S _ _ _ _ _ _ _ _ _ a e h=>bK (CC h) (af (au (CN (KW Ei (pv 0) bh) (CN (KW Ld (ql z.len (a1 (pv 0))) (lV rfl c.LONGEST_NAME)) (G9 (qB (sn rfl) z.all boot_all (a1 (qc (Ku (pv 0)) (aS (by decide)) fun _ _ _ _ _ _=>⟨gc 0,cj,eci CO (pv 0) (lV rfl c.LETTERS)⟩))))))))) (by walk_at "b")
theorem Cj:kQ P w K mg:=fun base=>dG X G T.f_as_keys (fun S _ _ _ _ _ _ _ _ _ e a h=>bK (CD h) (ac (qs 1 S mE) (ac (bD bo rfl (aN (pv 0)) (gn 2 S) (af (eJ a (pv 1) (pv 2) kB rfl))) (af (au (pv 1)))))) (by walk_at "b")
theorem nE(a:rM P w K mg)(e:kQ P w K mg):gg P w K mg:=fun base=>dG X G T.f_first_wrong_name (fun S _ _ _ _ _ _ _ _ _ f g h=>bK (nG h) (ac (bp (iM gM (ql z.len (a1 (pv 0))) ag) (af (au ag)) aJ) (ac (qs 3 S (qf f (e base) (a1 (pv 2)))) (ac (bD bo rfl (pO rfl z.enumerate (a1 (pv 0))) (dX rfl (ax (gn 4 S) (ax (gn 5 S) cQ))) (ac (bp (PW.pt (jF (iM gM (pv 4) (pv 1)) (jF (cL (re g (pv 5) (pv 3))) (jj (CI (oI (qf f (a base) (a1 (pv 5))))))))) (af (au (pv 4))) aJ) (af (eJ g (pv 3) (pv 5) kB rfl)))) (af (au gK)))))) (by walk_at "b")
theorem v6:lQ P w K mg:=fun base=>dG X G T.f_door_signs (fun S _ _ _ _ _ _ _ _ _ a e h=>bK (wl c.still h) (af (au (az eT (az eT (qc (aN (pv 0)) (aS (by decide)) fun _ _ _ _ _ _=>⟨gc 0,cj,aA (a2 bh (pv 0))⟩) (qc (aN (pv 1)) (aS (by decide)) fun _ _ _ _ _ _=>⟨gc 0,cj,aA (a2 bh (pv 0))⟩)) (bq (a1 (lV rfl c.STILL))))))) (by walk_at "b")
theorem nF(a:kQ P w K mg):gh P w K mg:=fun base=>dG X G T.f_first_wrong_door (fun S _ _ _ _ _ _ _ _ _ f e h=>bK (nH h) (ac (qs 3 S (qf f (a base) (a1 (pv 1)))) (ac (qs 4 S iw) (ac (bD bo rfl (pO rfl z.enumerate (a1 (pv 0))) (dX rfl (ax (gn 5 S) (ax (gn 6 S) cQ))) (ac (bp (PW.pt (jF (iM gM (pv 5) (lV rfl c.MOST_DOORS)) (jj (cL (re e (pv 6) (pv 4)))))) (af (au (pv 5))) aJ) (ac (bp (PW.pt (jF (cL (fz e (xq (pv 6) ag) (pv 3))) (jF (ID (kC e) (xq (pv 6) ag) (pv 2)) (jj (cL (fz e (xq (pv 6) ag) (pv 3))))))) (af (au (pv 5))) aJ) (af (eJ e (pv 4) (pv 6) kB rfl))))) (af (au gK)))))) (by walk_at "b")
theorem jb:db P w K mg:=fun base=>dG X G T.f_goals_by_start_and_sign (fun S _ _ _ _ _ _ _ _ _ e a h=>bK (jg h) (ac (qs 1 S iw) (ac (bD bo rfl (aN (pv 0)) (dX rfl (ax (gn 2 S) (ax (gn 3 S) (ax (gn 4 S) cQ)))) (af (br (jH gx jS jR dC (jH PySem.F.plainAttrs_dict PySem.F.slot_dict_setdefault PySem.F.type_dict_setdefault (Ft a) (pv 1) (a2 (aA (a2 (pv 2) (pv 3))) (bq cy))) (a1 (pv 4)))))) (af (au (pv 1)))))) (by walk_at "b")
theorem sM:ju P w K mg:=fun base=>dG X G T.f_led_by_still (fun S _ _ _ _ _ _ _ _ _ e a h=>bK (sR c.still h) (ac (qs 2 S mE) (ac (qs 3 S (bq (a1 (pv 1)))) (ac (AS bo (iM AV (ql z.len (a1 (pv 3))) ag) (ac (qs 4 S (Hf gx PySem.F.slot_list_pop PySem.F.type_list_pop KA (pv 3))) (af (bD bo rfl (Kv (uP a (pv 0) (aA (a2 (pv 4) (lV rfl c.STILL))) (aA cy) ⟨rfl,rfl,rfl,rfl⟩)) (gn 5 S) (af (bp (cL (fz a (pv 5) (pv 2))) (ac (eJ a (pv 2) (pv 5) kB rfl) (af (br (jH gx jS jR dC (pv 3) (a1 (pv 5)))))) aJ)))))) (af (au (pv 2))))))) (by walk_at "b")
theorem oC:gU P w K mg:=fun base=>dG X G T.f_first_led_round (fun S _ _ _ _ _ _ _ _ _ e a h=>bK (oH h) (ac (bD bo rfl (pO rfl z.enumerate (a1 (pv 0))) (dX rfl (ax (gn 2 S) (ax (gn 3 S) cQ))) (af (bp (cL (re a (pv 3) (f8 a (pv 1) (pv 3) (fun _ _=>rfl)))) (af (au (pv 2))) aJ))) (af (au gK)))) (by walk_at "b")
theorem yL:jN P w K mg:=fun base=>dG X G T.f_need_none (fun S _ _ _ _ _ _ _ _ _ a e h=>bK (y_ (K:=K) h) (af (bp (cL (pQ (pv 1))) (af (pM)) aJ))) (by walk_at "b")
theorem vU(a:gg P w K mg)(g:lQ P w K mg)(f:gh P w K mg)(e:jN P w K mg):lH P w K mg:=fun base=>dG X G T.f_need_parts (fun S _ _ _ _ _ _ _ _ _ i j h=>bK (we (K:=K) h) (ac (br (qf i (e base) (a2 bh (qf i (a base) (a3 (pv 0) (lV rfl c.MOST_WORDS) (bq cy)))))) (ac (br (qf i (e base) (a2 bh (qf i (a base) (a3 (pv 1) (lV rfl c.MOST_WORDS) (pv 0)))))) (ac (br (qf i (e base) (a2 bh (qf i (a base) (a3 (pv 2) (lV rfl c.MOST_ROOMS) (bq cy)))))) (af (br (qf i (e base) (a2 bh (qf i (f base) (a3 (pv 3) (pv 2) (qf i (g base) (a2 (pv 0) (pv 1))))))))))))) (by walk_at "b")
theorem pA:h_ P w K mg:=fun base=>dG X G T.f_doors_by_start (fun S _ _ _ _ _ _ _ _ _ e a h=>bK (pK h) (ac (qs 2 S mE) (ac (bD bo rfl (aN (pv 0)) (gn 3 S) (af (eJ a (pv 2) (pv 3) (bq cy) rfl))) (ac (bD bo rfl (aN (pv 1)) (gn 4 S) (af (br (jH gx jS jR dC (f8 a (pv 2) (xq (pv 4) ag) (fun _ _=>rfl)) (a1 (pv 4)))))) (af (au (pv 2))))))) (by walk_at "b")
theorem pq:h9 P w K mg:=fun base=>dG X G T.f_has_asks_alone (fun S _ _ _ _ _ _ _ _ _ a e h=>bK (pJ h) (af (au (qB (sn rfl) z.all boot_all (a1 (qc (aN (pv 0)) (aS (by decide)) fun _ _ _ _ _ _=>⟨gc 0,cj,KW gM (xq (xq (pv 0) ag) ag) bh⟩)))))) (by walk_at "b")
theorem Cn(l:kQ P w K mg)(a:db P w K mg)(i:ju P w K mg)(e:gU P w K mg)(k:jN P w K mg)(j:lH P w K mg)(f:h_ P w K mg)(g:h9 P w K mg):rN P w K mg C:=fun base=>dN c.cm c.makes c.kc T.f_Machine___init__ (fun S _ _ _ _ _ _ _ _ _ m n h=>bK (IW c.mc h) (ac (br (qf m (j base) (aG (pv 1) (a3 (pv 2) (pv 3) (pv 4))))) (ac (eS (pv 0) (qL rfl z.list (a1 (pv 1))) rfl) (ac (eS (pv 0) (qL rfl z.list (a1 (pv 2))) rfl) (ac (eS (pv 0) (qL rfl z.list (a1 (pv 3))) rfl) (ac (eS (pv 0) (qL rfl z.list (a1 (pv 4))) rfl) (ac (eS (pv 0) (qf m (f base) (a2 (pv 3) (pv 4))) rfl) (ac (eS (pv 0) (qf m (l base) (a1 (qc (aN (pv 3)) (aS (by decide)) fun _ _ _ _ _ _=>⟨gc 0,gJ (oI (qf m (g base) (a1 (f8 n (cx (pv 1) rfl) (pv 0) (fun _ _=>rfl))))),pv 0⟩))) rfl) (ac (eS (pv 0) (qf m (a base) (a1 (pv 4))) rfl) (ac (eS (pv 0) (gq (zR rfl) rfl z.dict Dk (a1 (qc (aN (pv 3)) (aS (by decide)) fun _ _ _ _ _ _=>⟨gc 0,cj,aA (a2 (pv 0) (qf m (i base) (a2 (cx (pv 1) rfl) (pv 0))))⟩))) rfl) (af (br (qf m (k base) (a2 bh (qf m (e base) (a2 (pv 3) (cx (pv 0) rfl))))))))))))))))) (by walk_at "b")
theorem ux(a:rN P w K mg C):nU P w K mg C:=fun base=>dG X G T.f_law_machine (fun S _ _ _ _ _ _ _ _ _ e f h=>bK (CB h) (af (au (uO (a base) (e.mono (by decide)) rfl (aG (qL rfl z.list (a1 (xq (pv 0) ag))) (a3 (qL rfl z.list (a1 (xq (pv 0) ag))) (qL rfl z.list (a1 (xq (pv 0) ag))) (qL rfl z.list (a1 (xq (pv 0) ag))))))))) (by walk_at "b")
theorem qW:eB P w K mg C:=fun base=>dM c.mc.cls T.f_Machine_rooms (fun S _ _ _ _ _ _ _ _ _ a e h=>bK (GJ c.mc h) (af (au (qL rfl z.list (a1 (cx (pv 0) rfl)))))) (by walk_at "b")
theorem nz:d_ P w K mg C:=fun base=>dM c.mc.cls T.f_Machine_led_from (fun S _ _ _ _ _ _ _ _ _ e a h=>bK (AL c.mc h) (af (au (qL rfl z.list (a1 (uP a (cx (pv 0) rfl) (pv 1) (aA cy) ⟨rfl,rfl,rfl,rfl⟩)))))) (by walk_at "b")
theorem vS(e:eB P w K mg C)(a:d_ P w K mg C):iU P w K mg C:=fun base=>dG X G T.f_with_still (fun S _ _ _ _ _ _ _ _ _ g f h=>bK (wd h) (ac (qs 2 S mE) (ac (bD bo rfl (aN (pv 1)) (gn 3 S) (af (bp (cL (fz f (pv 3) (pv 2))) (ac (eJ f (pv 2) (pv 3) kB rfl) (af (bD bo rfl (aN (qm g (a base) (pv 0) (a1 (pv 3)))) (gn 4 S) (af (eJ f (pv 2) (pv 4) kB rfl))))) aJ))) (af (au (gq fT rfl z.tuple gt (a1 (qc (aN (G4 g (e base) (pv 0))) (aS (by decide)) fun _ _ _ _ _ _=>⟨gc 0,gJ (cL (re f (pv 0) (pv 1))),pv 0⟩)))))))) (by walk_at "b")
theorem qX:gb P w K mg C:=fun base=>dM c.mc.cls T.f_Machine_goals (fun S _ _ _ _ _ _ _ _ _ e a h=>bK (Fd c.mc h) (af (au (qL rfl z.list (a1 (uP a (cx (pv 0) rfl) (aA (a2 (pv 1) (pv 2))) (aA cy) ⟨rfl,rfl,rfl,rfl⟩)))))) (by walk_at "b")
theorem nA:gi P w K mg C:=fun base=>dM c.mc.cls T.f_Machine_is_quiet (fun S _ _ _ _ _ _ _ _ _ e a h=>bK (AM c.mc h) (af (au (Kz (re a (pv 1) (cx (pv 0) rfl)))))) (by walk_at "b")
theorem sN:dF P w K mg:=fun base=>dG X G T.f_law_still_on (fun S _ _ _ _ _ _ _ _ _ e a h=>bK (AI h) (ac (qs 2 S (qL rfl z.list (a1 (pv 1)))) (ac (qs 3 S ag) (ac (AS bo (iM uR (pv 3) (ql z.len (a1 (pv 2)))) (ac (bD bo rfl (aN (pv 0)) (dX rfl (ax (gn 4 S) (ax (gn 5 S) (ax (gn 6 S) cQ)))) (af (bp (PW.pt (lc (iM (g_ a) (pv 4) (xq (pv 2) (pv 3))) (lc (iM (g_ a) (pv 5) (aA (a1 bh))) (lb (ID (kC a) (pv 6) (pv 2)))))) (af (br (jH gx jS jR dC (pv 2) (a1 (pv 6))))) aJ))) (af (qs 3 S (az cz (pv 3) ag))))) (af (au (pv 2))))))) (by walk_at "b")
theorem sL:fj P w K mg C:=fun base=>dM c.mc.cls T.f_Machine_asks (fun S _ _ _ _ _ _ _ _ _ a e h=>bK (I0 c.mc h) (af (au (qL rfl z.list (a1 (cx (pv 0) rfl)))))) (by walk_at "b")
theorem sK:fh P w K mg C:=fun base=>dM c.mc.cls T.f_Machine_says (fun S _ _ _ _ _ _ _ _ _ a e h=>bK (IR c.mc h) (af (au (qL rfl z.list (a1 (cx (pv 0) rfl)))))) (by walk_at "b")
theorem v5(a:eB P w K mg C)(e:iU P w K mg C):lP P w K mg C:=fun base=>dG X G T.f_first_face (fun S _ _ _ _ _ _ _ _ _ f g h=>bK (wj h) (af (au (qf f (e base) (a2 (pv 0) (cV fX (G4 f (a base) (pv 0)) fZ (cZ ag))))))) (by walk_at "b")
theorem uy(f:iU P w K mg C)(e:gb P w K mg C)(a:gi P w K mg C):ka P w K mg C:=fun base=>dG X G T.f_face_behind (fun S _ _ _ _ _ _ _ _ _ g i h=>bK (IY c.hush h) (ac (bp (iM (g_ i) (pv 2) (lV rfl c.HUSH)) (af (au (gq fT rfl z.tuple gt (a1 (qc (uM (pv 1)) (aS (by decide)) fun _ _ _ _ _ _=>⟨gc 0,gJ (oI (qm g (a base) (pv 1) (a1 (pv 0)))),pv 0⟩))))) aJ) (ac (qs 3 S (bq cy)) (ac (bD bo rfl (uM (pv 1)) (gn 4 S) (af (br (jH gx PySem.F.slot_list_extend PySem.F.type_list_extend Fu (pv 3) (a1 (qm g (e base) (pv 0) (a2 (pv 4) (pv 2)))))))) (af (au (qf g (f base) (a2 (pv 0) (pv 3))))))))) (by walk_at "b")
theorem pi(a:fj P w K mg C)(e:fh P w K mg C):hZ P w K mg C a_HUSH:=fun base=>dG X G T.f_signs_in_order (fun S _ _ _ _ _ _ _ _ _ f g h=>bK (Kn h) (af (au (az eT (az eT (qc (aN (G4 f (a base) (pv 0))) (aS (by decide)) fun _ _ _ _ _ _=>⟨gc 0,cj,aA (a2 bh (pv 0))⟩) (qc (aN (G4 f (e base) (pv 0))) (aS (by decide)) fun _ _ _ _ _ _=>⟨gc 0,cj,aA (a2 bh (pv 0))⟩)) (bq (a1 (lV rfl c.HUSH))))))) (by walk_at "b")
theorem Ax(e:ka P w K mg C)(a:hZ P w K mg C a_HUSH):o0 P w K mg C:=fun base=>dG X G T.f_steps_at (fun S _ _ _ _ _ _ _ _ _ f g h=>bK (Cz c.hush h) (ac (qs 2 S iw) (ac (bD bo rfl (aN (qf f (a base) (a1 (pv 0)))) (gn 3 S) (ac (qs 4 S (qf f (e base) (a3 (pv 0) (pv 1) (pv 3)))) (af (bp (iM AV (ql z.len (a1 (pv 4))) ag) (af (G6 g (pv 2) (pv 3) (pv 4) rfl)) aJ)))) (af (au (pv 2)))))) (by walk_at "b")
theorem v9:iV P w K mg Ck:=fun base=>dN c.cmksc c.makesksc c.kcksc T.f_KnownSteps___init__ (fun S _ _ _ _ _ _ _ _ _ a e h=>bK (Fh c.ksc h) (ac (eS (pv 0) (pv 1) rfl) (af (eS (pv 0) iw rfl)))) (by walk_at "b")
theorem jZ(a:o0 P w K mg C):cK P w K mg C Ck:=fun base=>dM c.ksc.cls T.f_KnownSteps_steps_from (fun S _ _ _ _ _ _ _ _ _ f e h=>bK (Fi c.ksc h) (ac (bp (cL (fz e (pv 1) (cx (pv 0) rfl))) (af (eJ e (cx (pv 0) rfl) (pv 1) (qf f (a base) (a2 (cx (pv 0) rfl) (pv 1))) rfl)) aJ) (af (au (f8 e (cx (pv 0) rfl) (pv 1) (fun _ _=>rfl)))))) (by walk_at "b")
theorem vW:lK P w K mg:=fun base=>dG X G T.f_need_depth (fun S _ _ _ _ _ _ _ _ _ a e h=>bK (wg (K:=K) h) (af (bp (PW.pt (jF (iM uR (pv 0) ag) (jj (iM AV (pv 0) (lV rfl c.DEEPEST))))) (af (pM)) aJ))) (by walk_at "b")
theorem Cf:ny P w K mg:=fun base=>dG X G T.f_product (fun S _ _ _ _ _ _ _ _ _ a e h=>bK (uE h) (ac (qs 1 S ag) (ac (bD bo rfl (aN (pv 0)) (gn 2 S) (af (qs 1 S (az lf (pv 1) (pv 2))))) (af (au (pv 1)))))) (by walk_at "b")
theorem IH(a:fh P w K mg C)(e:iV P w K mg Ck):DA P w K mg C Ck Cd:=fun base=>dN c.cmdc c.makesdc c.kcdc T.f_Made___init__ (fun S _ _ _ _ _ _ _ _ _ f g h=>bK (Fe c.dc h) (ac (eS (pv 0) (qc (aN (G4 f (a base) (pv 1))) (aS (by decide)) fun _ _ _ _ _ _=>⟨gc 0,cj,aA (a2 bh (pv 0))⟩) rfl) (ac (eS (pv 0) (uO (e base) (f.mono (by decide)) rfl (a1 (pv 1))) rfl) (af (eS (pv 0) iw rfl))))) (by walk_at "b")
theorem oB(a:cK P w K mg C Ck):cJ P w K mg C Ck Cd:=fun base=>dM c.dc.cls T.f_Made_steps_from (fun S _ _ _ _ _ _ _ _ _ e f h=>bK (Ff c.dc h) (af (au (qm e (a base) (cx (pv 0) rfl) (a1 (pv 1)))))) (by walk_at "b")
theorem qS(a:cJ P w K mg C Ck Cd):f_ P w K mg C Ck Cd:=fun base=>dM c.dc.cls T.f_Made_kinds_at (fun S _ _ _ _ _ _ _ _ _ e f h=>bK (Fc c.dc c.hush h) (ac (Lc 2 S (G7 (qm e (a base) (pv 0) (a1 (pv 1)))) (aS (by decide)) fun _ _ _ _ _ _=>⟨gc 0,gJ (iM gM (xq (pv 0) ag) bh),pv 0⟩) (af (au (az eT (qc (aN (pv 2)) (aS (by decide)) fun _ _ _ _ _ _=>⟨gc 0,cj,az eT (bq (a1 (pv 0))) (cx (pv 1) rfl)⟩) (bq (a1 (az eT (cx (pv 0) rfl) (bq (a1 (lV rfl c.HUSH))))))))))) (by walk_at "b")
theorem qV(k:ny P w K mg)(g:cJ P w K mg C Ck Cd)(j:f_ P w K mg C Ck Cd):ga P w K mg C Ck Cd:=fun base=>by
  have E0:o5 P w K mg base Cd "count_of" ["self","face","d","signs"] 7 Cr:=by
   obtain⟨f,a,i,t⟩:=T.f_Made_count_of;obtain⟨v,F⟩:=t.fun_;exact⟨f,v,wU,c.dc.cls,⟨a,i,F.kp⟩,F.binds (ps:=["self","face","d","signs"]) (by walk_at "b")⟩
  have o:∀(n D:Nat) (s:Sp),7<=n->D<=4->(∀m,D=m+1->s=(jd K C Ck Cd m))->o5 P w K mg base Cd "count_of" ["self","face","d","signs"] n s->o5 P w K mg base Cd "count_at" ["self","face","d"] (n+1) (iq C Ck Cd D):=fun n D s q x y u=>dM c.dc.cls T.f_Made_count_at (fun S _ _ _ _ _ _ _ _ _ l p h=>bK (GR c.dc x y h) (ac (bp (PW.pt (jF (cL (rc (pv 1))) (jj (iM gM (pv 2) ag)))) (af (au ag)) aJ) (ac (bp (cL (fz p (aA (a2 (pv 1) (pv 2))) (cx (pv 0) rfl))) (ac (Lc 3 S (aN (qm (k0:=7) (l.mono (aE (by decide) q)) (j base) (pv 0) (a1 (pv 1)))) (aS (by decide)) fun _ _ _ _ _ _=>⟨gc 0,cj,qm (hk:=aB _) l u (pv 3) (a3 (pv 1) (pv 2) (pv 0))⟩) (af (eJ p (cx (pv 0) rfl) (aA (a2 (pv 1) (pv 2))) (az cz ag (qB (FR rfl) z.sum boot_sum (a1 (pv 3)))) rfl))) aJ) (af (au (f8 p (cx (pv 0) rfl) (aA (a2 (pv 1) (pv 2))) (fun _ _=>rfl))))))) (by walk_at "b");have r:∀n D:Nat,7<=n->o5 P w K mg base Cd "count_at" ["self","face","d"] n (iq C Ck Cd D)->o5 P w K mg base Cd "count_of" ["self","face","d","signs"] (n+1) (jd K C Ck Cd D):=fun n D q u=>dM c.dc.cls T.f_Made_count_of (fun S _ _ _ _ _ _ _ _ _ l p h=>bK (AN h) (ac (qs 4 S (qm (k0:=6) (l.mono (aE (by decide) q)) (g base) (pv 0) (a1 (pv 1)))) (af (au (qf (k0:=1) (l.mono (aE (by decide) q)) (k base) (a1 (qc (aN (pv 3)) (aS (by decide)) fun _ _ _ _ _ _=>⟨gc 0,cj,qm (hk:=aB _) l u (pv 1) (a2 (pP p (pv 3) (pv 0) ⟨rfl,rfl,rfl,rfl⟩) (az jk (pv 2) ag))⟩))))))) (by walk_at "b");have A:=o 7 0 _ (by decide) (by decide) (fun m e=>by cases e) E0;have B:=r 8 0 (by decide) A;have E:=o 9 1 _ (by decide) (by decide) (fun m e=>by cases e;rfl) B;have H:=r 10 1 (by decide) E;have I:=o 11 2 _ (by decide) (by decide) (fun m e=>by cases e;rfl) H;have J:=r 12 2 (by decide) I;have L:=o 13 3 _ (by decide) (by decide) (fun m e=>by cases e;rfl) J;have M:=r 14 3 (by decide) L;have N:=o 15 4 _ (by decide) (by decide) (fun m e=>by cases e;rfl) M;exact N
theorem qU(f:ny P w K mg)(a:cJ P w K mg C Ck Cd)(e:ga P w K mg C Ck Cd):iK P w K mg C Ck Cd:=fun base=>dM c.dc.cls T.f_Made_count_of (fun S _ _ _ _ _ _ _ _ _ g i h=>bK (AN h) (ac (qs 4 S (qm g (a base) (pv 0) (a1 (pv 1)))) (af (au (qf g (f base) (a1 (qc (aN (pv 3)) (aS (by decide)) fun _ _ _ _ _ _=>⟨gc 0,cj,qm g (e base) (pv 1) (a2 (pP i (pv 3) (pv 0) ⟨rfl,rfl,rfl,rfl⟩) (az jk (pv 2) ag))⟩))))))) (by walk_at "b")
theorem GD(a:d_ P w K mg C)(e:gb P w K mg C):Ad P w K mg C:=fun base=>dG X G T.f_takes (fun S _ _ _ _ _ _ _ _ _ f g h=>bK (GI h) (af (au (qB (Bu rfl) z.any boot_any (a1 (qc (aN (az eT (bq (a1 (pv 1))) (qm f (a base) (pv 0) (a1 (pv 1))))) (aS (by decide)) fun _ _ _ _ _ _=>⟨gc 0,cj,KW AV (ql z.len (a1 (qm f (e base) (pv 1) (a2 (pv 0) (aA (a2 bh (pv 2))))))) ag⟩)))))) (by walk_at "b")
theorem vV(a:fj P w K mg C)(e:fh P w K mg C):lJ P w K mg C:=fun base=>dG X G T.f_need_match (fun S _ _ _ _ _ _ _ _ _ f g h=>bK (uG h) (af (bp (PW.pt (jF (iM (rf g) (G4 f (a base) (pv 0)) (G4 f (a base) (pv 1))) (jj (iM (rf g) (G4 f (e base) (pv 0)) (G4 f (e base) (pv 1)))))) (af (pM)) aJ))) (by walk_at "b")
theorem kW(a:eB P w K mg C)(e:fj P w K mg C)(f:Ad P w K mg C):eI P w K mg C:=fun base=>dG X G T.f_need_all_asks_taken (fun S _ _ _ _ _ _ _ _ _ g i h=>bK (zb h) (af (bD bo rfl (aN (G4 g (a base) (pv 0))) (gn 1 S) (af (bD bo rfl (aN (G4 g (e base) (pv 0))) (gn 2 S) (af (bp (CI (oI (qf g (f base) (a3 (pv 0) (pv 1) (pv 2))))) (af (pM)) aJ))))))) (by walk_at "b")
theorem vT(e:lJ P w K mg C)(a:eI P w K mg C):lG P w K mg C:=fun base=>dG X G T.f_need_taker (fun S _ _ _ _ _ _ _ _ _ f g h=>bK (uF (K:=K) h) (ac (br (qf f (e base) (a2 (pv 0) (pv 1)))) (af (br (qf f (a base) (a1 (pv 1))))))) (by walk_at "b")
theorem Co(a:iV P w K mg Ck)(e:DA P w K mg C Ck Cd):rO P w K mg C Ck Cd Cb:=fun base=>dN c.cmbc c.makesbc c.kcbc T.f_Blamers___init__ (fun S _ _ _ _ _ _ _ _ _ f g h=>bK (Fk c.bc h) (ac (eS (pv 0) (uO (e base) (f.mono (by decide)) rfl (a1 (pv 1))) rfl) (ac (eS (pv 0) (uO (a base) (f.mono (by decide)) rfl (a1 (pv 2))) rfl) (ac (eS (pv 0) iw rfl) (af (eS (pv 0) iw rfl)))))) (by walk_at "b")
theorem ph(a:cK P w K mg C Ck)(e:cJ P w K mg C Ck Cd):ia P w K mg C Ck Cd Cb:=fun base=>dM c.bc.cls T.f_Blamers_places (fun S _ _ _ _ _ _ _ _ _ f g h=>bK (CA c.bc h) (ac (qs 4 S (qm f (e base) (cx (pv 0) rfl) (a1 (pv 1)))) (ac (qs 5 S (qm f (a base) (cx (pv 0) rfl) (a1 (pv 2)))) (af (au (qc (aN (pv 3)) (aS (by decide)) fun _ _ _ _ _ _=>⟨gc 0,cj,aA (a2 (pP g (pv 1) (pv 0) ⟨rfl,rfl,rfl,rfl⟩) (pP g (pv 2) (pv 0) ⟨rfl,rfl,rfl,rfl⟩))⟩)))))) (by walk_at "b")
theorem nC(j:f_ P w K mg C Ck Cd)(k:ga P w K mg C Ck Cd)(l:iK P w K mg C Ck Cd)(g:ia P w K mg C Ck Cd Cb):gj P w K mg C Ck Cd Cb:=fun base=>by
  have E0:o5 P w K mg base Cb "first_of_kinds" ["self","face","mine","d"] 17 Cr:=by
   obtain⟨f,a,i,t⟩:=T.f_Blamers_first_of_kinds;obtain⟨y,F⟩:=t.fun_;exact⟨f,y,wU,c.bc.cls,⟨a,i,F.kp⟩,F.binds (ps:=["self","face","mine","d"]) (by walk_at "b")⟩
  have q:∀(n D:Nat) (x:Sp),17<=n->D<=4->(∀m,D=m+1->x=(uC K C Ck Cd Cb m))->o5 P w K mg base Cb "first_of_kinds" ["self","face","mine","d"] n x->o5 P w K mg base Cb "first_at" ["self","face","mine","d"] (n+1) (oG C Ck Cd Cb D):=fun n D x p A B r=>dM c.bc.cls T.f_Blamers_first_at (fun S _ _ _ _ _ _ _ _ _ o s h=>bK (Kr c.bc A B h) (ac (bp (cL (rc (pv 2))) (af (au gK)) aJ) (ac (bp (cL (rc (pv 1))) (af (au ag)) aJ) (ac (bp (iM gM (pv 3) ag) (af (au gK)) aJ) (ac (bp (cL (fz s (aA (a3 (pv 1) (pv 2) (pv 3))) (cx (pv 0) rfl))) (af (eJ s (cx (pv 0) rfl) (aA (a3 (pv 1) (pv 2) (pv 3))) (qm (hk:=aB _) o r (pv 0) (a3 (pv 1) (pv 2) (pv 3))) rfl)) aJ) (af (au (f8 s (cx (pv 0) rfl) (aA (a3 (pv 1) (pv 2) (pv 3))) (fun _ _=>rfl))))))))) (by walk_at "b");have u:∀n D:Nat,17<=n->o5 P w K mg base Cb "first_at" ["self","face","mine","d"] n (oG C Ck Cd Cb D)->o5 P w K mg base Cb "first_of_kind" ["self","face","mine","d","signs"] (n+1) (AG K C Ck Cd Cb D):=fun n D p r=>dM c.bc.cls T.f_Blamers_first_of_kind (fun S _ _ _ _ _ _ _ _ _ o s h=>bK (K8 c.bc h) (ac (qs 5 S (bq cy)) (ac (qs 6 S ag) (ac (bD bo rfl (Kw rfl z.reversed (a1 (qm (k0:=7) (o.mono (aE (by decide) p)) (g base) (pv 0) (a3 (pv 1) (pv 2) (pv 4))))) (dX rfl (ax (gn 7 S) (ax (gn 8 S) cQ))) (ac (qs 9 S (qm (hk:=aB _) o r (pv 0) (a3 (pv 7) (pv 8) (az jk (pv 3) ag)))) (ac (bp (cL (pQ (pv 9))) (af (br (jH gx jS jR dC (pv 5) (a1 (az lf (pv 9) (pv 6)))))) aJ) (af (qs 6 S (az lf (pv 6) (qm (k0:=16) (o.mono (aE (by decide) p)) (k base) (cx (pv 0) rfl) (a2 (pv 7) (az jk (pv 3) ag))))))))) (af (au (Jd rfl rfl z.min (a1 (pv 5)) gK))))))) (by walk_at "b");have v:∀n D:Nat,17<=n->o5 P w K mg base Cb "first_of_kind" ["self","face","mine","d","signs"] n (AG K C Ck Cd Cb D)->o5 P w K mg base Cb "first_of_kinds" ["self","face","mine","d"] (n+1) (uC K C Ck Cd Cb D):=fun n D p r=>dM c.bc.cls T.f_Blamers_first_of_kinds (fun S _ _ _ _ _ _ _ _ _ o s h=>bK (Kq c.bc h) (ac (qs 4 S ag) (ac (bD bo rfl (aN (qm (k0:=7) (o.mono (aE (by decide) p)) (j base) (cx (pv 0) rfl) (a1 (pv 1)))) (gn 5 S) (ac (qs 6 S (qm (hk:=aB _) o r (pv 0) (aG (pv 1) (a3 (pv 2) (pv 3) (pv 5))))) (ac (bp (cL (pQ (pv 6))) (af (au (az cz (pv 4) (pv 6)))) aJ) (af (Kt (i:=4) S rfl (Or.inl rfl) (qm (k0:=17) (o.mono (aE (by decide) p)) (l base) (cx (pv 0) rfl) (a3 (pv 1) (pv 3) (pv 5))) KF))))) (af (au gK))))) (by walk_at "b");have E:=q 17 0 _ (by decide) (by decide) (fun m e=>by cases e) E0;have H:=u 18 0 (by decide) E;have I:=v 19 0 (by decide) H;have J:=q 20 1 _ (by decide) (by decide) (fun m e=>by cases e;rfl) I;have L:=u 21 1 (by decide) J;have M:=v 22 1 (by decide) L;have N:=q 23 2 _ (by decide) (by decide) (fun m e=>by cases e;rfl) M;have O:=u 24 2 (by decide) N;have Q:=v 25 2 (by decide) O;have U:=q 26 3 _ (by decide) (by decide) (fun m e=>by cases e;rfl) Q;have Y:=u 27 3 (by decide) U;have B3:=v 28 3 (by decide) Y;have A4:=q 29 4 _ (by decide) (by decide) (fun m e=>by cases e;rfl) B3;exact A4
theorem sP(e:lP P w K mg C)(f:lK P w K mg)(g:lG P w K mg C)(i:rO P w K mg C Ck Cd Cb)(a:gj P w K mg C Ck Cd Cb):mS P w K mg C:=fun base=>dG X G T.f_first_blamer (fun S _ _ _ _ _ _ _ _ _ j k h=>bK (GQ (K:=K) (Cd:=Cd) h) (ac (br (qf j (g base) (a2 (pv 0) (pv 2)))) (ac (br (qf j (f base) (a1 (pv 1)))) (af (au (qm j (a base) (uO (i base) (j.mono (by decide)) rfl (a2 (pv 0) (pv 2))) (a3 (qf j (e base) (a1 (pv 0))) (qf j (e base) (a1 (pv 2))) (pv 1)))))))) (by walk_at "b")
theorem uv(a:d6 P w K mg)(f:kP P w K mg)(e:dF P w K mg):j9 P w K mg:=fun base=>dG X G T.f_law_willing (fun S _ _ _ _ _ _ _ _ _ g i h=>bK (Cy h) (ac (j4 (pv 1) (dX rfl (ax (gn 2 S) (ax (gn 3 S) (ax (gn 4 S) (ax (gn 5 S) cQ)))))) (ac (qs 5 S (qL rfl z.list (a1 (pv 5)))) (ac (bD bo rfl (aN (pv 4)) (gn 6 S) (af (bD bo rfl (aN (pv 2)) (gn 7 S) (ac (qs 8 S (qf g (e base) (a2 (pv 5) (bq (a1 (pv 6)))))) (af (bp (iM (g_ i) (qc (aN (pv 5)) (aS (by decide)) fun _ _ _ _ _ _=>⟨gc 0,gJ (PW.pt (lc (ID (zf i) (xq (pv 0) ag) (pv 1)) (lb (iM (g_ i) (xq (pv 0) ag) (aA (a2 bh (pv 2))))))),pv 0⟩) (bq cy)) (ac (qs 9 S (xl (bq (a2 (pv 6) (xl (pv 4) (qf g (a base) (a2 (pv 0) (ql z.len (a1 (pv 4)))))))) (qf g (a base) (a2 (pv 0) ag)))) (af (br (qf g (f base) (a2 (pv 5) (aA (a3 (pv 6) (aA (a2 bh (pv 7))) (pv 9)))))))) aJ)))))) (af (au (aA (aG (pv 2) (a3 (pv 3) (pv 4) (pv 5)))))))))) (by walk_at "b")
theorem vX(a:d6 P w K mg)(e:kP P w K mg)(f:dF P w K mg):lL P w K mg:=fun base=>dG X G T.f_law_turned (fun S _ _ _ _ _ _ _ _ _ g i h=>bK (E_ h) (ac (j4 (pv 1) (dX rfl (ax (gn 2 S) (ax (gn 3 S) (ax (gn 4 S) (ax (gn 5 S) cQ)))))) (ac (qs 5 S (qL rfl z.list (a1 (pv 5)))) (ac (qs 6 S (qf g (a base) (a2 (pv 0) ag))) (ac (qs 7 S (qf g (a base) (a2 (pv 0) (qB (FT rfl) z.max PyProof.Rows.boot_max (a2 ag (ql z.len (a1 (pv 5)))))))) (ac (qs 8 S (xl (pv 4) (qf g (a base) (a2 (pv 0) (ql z.len (a1 (pv 4))))))) (ac (qs 9 S (xl (pv 4) (qf g (a base) (a2 (pv 0) (ql z.len (a1 (pv 4))))))) (ac (bp (iM gM (pv 6) ag) (af (br (qf g (e base) (a2 (pv 5) (aA (a3 (pv 8) (aA (a2 bh (xl (pv 3) (qf g (a base) (a2 (pv 0) (ql z.len (a1 (pv 3)))))))) (pv 9))))))) (af (bp (iM gM (pv 6) ag) (af (br (qf g (e base) (a2 (pv 5) (aA (a3 (pv 8) (aA (a2 bh (xl (pv 2) (qf g (a base) (a2 (pv 0) (ql z.len (a1 (pv 2)))))))) (pv 9))))))) (af (bp (PW.pt (lc (iM uR (pv 6) ag) (lc (iM (rf i) (pv 5) (bq cy)) (lb (iM Ei (xt (xt (xl (pv 5) (pv 7)) ag) ag) bh))))) (ac (qs 10 S (jH gx PySem.F.slot_list_pop PySem.F.type_list_pop Hu (pv 5) (a1 (pv 7)))) (af (bp (iM gM (pv 6) ag) (af (br (qf g (e base) (a2 (pv 5) (aA (a3 (xt (pv 10) ag) (xt (pv 10) ag) (pv 9))))))) aJ))) (af (bp (PW.pt (lc (iM gM (pv 6) ag) (lb (ID (kC i) (pv 8) (qf g (f base) (a2 (pv 5) (bq (a1 (pv 9))))))))) (af (br (qf g (e base) (a2 (pv 5) (aA (a3 (pv 8) (aA (a1 bh)) (pv 9))))))) aJ))))))) (af (au (aA (aG (pv 2) (a3 (pv 3) (pv 4) (pv 5)))))))))))))) (by walk_at "b")
theorem uw(e:d6 P w K mg)(a:jP P w K mg):j_ P w K mg:=fun base=>dG X G T.f_law_renamed (fun S _ _ _ _ _ _ _ _ _ g f h=>bK (AK h) (ac (j4 (pv 1) (dX rfl (ax (gn 2 S) (ax (gn 3 S) (ax (gn 4 S) (ax (gn 5 S) cQ)))))) (ac (qs 6 S mE) (ac (bD bo rfl (Eb rfl z.zip (a2 (pv 4) (qf g (a base) (a2 (pv 0) (ql z.len (a1 (pv 4))))))) (dX rfl (ax (gn 7 S) (ax (gn 8 S) cQ))) (af (eJ f (pv 6) (pv 7) (pv 8) rfl))) (ac (Lc 9 S (aN (pv 4)) (aS (by decide)) fun _ _ _ _ _ _=>⟨gc 0,cj,f8 f (pv 1) (pv 0) (fun _ _=>rfl)⟩) (ac (qs 10 S (az cz ag (qf g (e base) (a2 (pv 0) (ql z.len (a1 (pv 4))))))) (ac (qs 9 S (az eT (az eT (cV fX (pv 9) fZ (cZ ag)) (cV fX (pv 9) (cZ (pv 10)) fZ)) (cV fX (pv 9) (cZ ag) (cZ (pv 10))))) (ac (Lc 5 S (aN (pv 5)) (ze (g9 (aS (by decide)) de (g9 (aS (by decide)) de (g9 (aS (by decide)) de (uQ) (hC)) (jn de (hC))) (jn de (jn de (hC))))) fun _ _ _ _ _ _=>⟨dX rfl (ax (gc 0) (ax (gc 1) (ax (gc 2) cQ))),cj,aA (a3 (f8 f (pv 3) (pv 0) (fun _ _=>rfl)) (pv 1) (f8 f (pv 3) (pv 2) (fun _ _=>rfl)))⟩) (af (au (aA (aG (pv 2) (a3 (pv 3) (pv 9) (pv 5)))))))))))))) (by walk_at "b")
theorem AA(i:lO P w K mg)(a:d6 P w K mg)(e:j9 P w K mg)(g:lL P w K mg)(f:j_ P w K mg):vG P w K mg:=fun base=>dG X G T.f_law_near (fun S _ _ _ _ _ _ _ _ _ j k h=>bK (IT (K:=K) h) (ac (br (qf j (i base) (a1 (pv 0)))) (ac (bD bo rfl (iY rfl z.range (a1 (qf j (a base) (a2 (pv 0) (az cz (pv 2) ag))))) (gn 3 S) (af (qs 1 S (qf j (g base) (a2 (pv 0) (pv 1)))))) (ac (qs 1 S (qf j (e base) (a2 (pv 0) (pv 1)))) (ac (bp (iM gM (qf j (a base) (a2 (pv 0) ag)) ag) (af (qs 1 S (qf j (f base) (a2 (pv 0) (pv 1))))) aJ) (af (au (pv 1)))))))) (by walk_at "b")
theorem v4(a:dF P w K mg):gS P w K mg:=fun base=>dG X G T.f_law_behind (fun S _ _ _ _ _ _ _ _ _ f e h=>bK (IZ h) (ac (j4 (pv 0) (dX rfl (ax (gn 3 S) (ax (gn 4 S) (ax (gn 5 S) (ax (gn 6 S) cQ)))))) (ac (bp (iM (g_ e) (pv 2) (aA (a1 bh))) (ac (qs 7 S (qc (aN (pv 6)) (aS (by decide)) fun _ _ _ _ _ _=>⟨gc 0,gJ (iM Ei (xt (xt (pv 0) ag) ag) bh),xt (pv 0) ag⟩)) (af (au (gq fT rfl z.tuple gt (a1 (qc (uM (pv 1)) (aS (by decide)) fun _ _ _ _ _ _=>⟨gc 0,gJ (ID (kC e) (pv 0) (pv 1)),pv 0⟩)))))) aJ) (ac (qs 8 S (qf f (a base) (a2 (pv 6) (qc (aN (pv 6)) (aS (by decide)) fun _ _ _ _ _ _=>⟨gc 0,gJ (PW.pt (lc (ID (zf e) (xt (pv 0) ag) (pv 1)) (lb (iM (g_ e) (xt (pv 0) ag) (pv 2))))),xt (pv 0) ag⟩)))) (af (au (gq fT rfl z.tuple gt (a1 (qc (aN (pv 5)) (aS (by decide)) fun _ _ _ _ _ _=>⟨gc 0,gJ (ID (zf e) (pv 0) (pv 1)),pv 0⟩))))))))) (by walk_at "b")
theorem yS(a:dF P w K mg):sy P w K mg:=fun base=>dG X G T.f_law_begin (fun S _ _ _ _ _ _ _ _ _ e f h=>bK (GS h) (ac (qs 1 S (qf e (a base) (a2 (xq (pv 0) ag) (bq (a1 (xq (xq (pv 0) ag) ag)))))) (af (au (gq fT rfl z.tuple gt (a1 (qc (aN (xq (pv 0) ag)) (aS (by decide)) fun _ _ _ _ _ _=>⟨gc 0,gJ (ID (zf f) (pv 0) (pv 1)),pv 0⟩))))))) (by walk_at "b")
theorem pj:cB P w K mg:=fun base=>dG X G T.f_law_part_signs (fun S _ _ _ _ _ _ _ _ _ a e h=>bK (GK h) (ac (Lc 2 S (aN (xq (pv 0) ag)) (aS (by decide)) fun _ _ _ _ _ _=>⟨gc 0,cj,aA (a2 bh (pv 0))⟩) (ac (bp (cL (rc (pv 1))) (af (au (az eT (pv 2) (bq (a1 (aA (a1 bh))))))) aJ) (af (au (az eT (bq (a1 (aA (a2 bh (pv 1))))) (pv 2))))))) (by walk_at "b")
theorem yU(a:gS P w K mg):fg P w K mg:=fun base=>dG X G T.f_law_after (fun S _ _ _ _ _ _ _ _ _ f e h=>bK (GV h) (ac (bp (cL (fz e (aA (a2 (pv 2) (pv 3))) (pv 1))) (af (eJ e (pv 1) (aA (a2 (pv 2) (pv 3))) (qf f (a base) (a3 (pv 0) (pv 2) (pv 3))) rfl)) aJ) (af (au (f8 e (pv 1) (aA (a2 (pv 2) (pv 3))) (fun _ _=>rfl)))))) (by walk_at "b")
theorem yT(a:fg P w K mg):iE P w K mg:=fun base=>dG X G T.f_law_asked (fun S _ _ _ _ _ _ _ _ _ e f h=>bK (GU h) (af (au (qc (aN (xq (pv 0) ag)) (aS (by decide)) fun _ _ _ _ _ _=>⟨gc 0,gJ (iM (rf f) (qf e (a base) (aG (pv 1) (a3 (pv 2) (pv 3) (aA (a2 bh (pv 0)))))) (aA cy)),pv 0⟩)))) (by walk_at "b")
theorem yM:jO P w K mg:=fun base=>dG X G T.f_law_times (fun S _ _ _ _ _ _ _ _ _ a e h=>bK (GH h) (ac (qs 1 S ag) (ac (bD bo rfl (aN (pv 0)) (gn 2 S) (af (qs 1 S (az lf (pv 1) (pv 2))))) (af (au (pv 1)))))) (by walk_at "b")
theorem yR(g:cB P w K mg)(i:fg P w K mg)(j:iE P w K mg)(k:jO P w K mg):jQ P w K mg:=fun base=>by
  have E0:fH P w K mg base "_law_sizes" ["told","known","face","ask","deep"] 4 Cr:=by
   obtain⟨f,a,t⟩:=T.f_law_sizes;obtain⟨v,F⟩:=t.fun_;exact⟨f,v,wU,eF X G a,F.kp,F.binds (ps:=["told","known","face","ask","deep"]) (by walk_at "b")⟩
  have o:∀(n D:Nat) (s:Sp),4<=n->D<=4->(∀m,D=m+1->s=(io K m))->fH P w K mg base "_law_sizes" ["told","known","face","ask","deep"] n s->fH P w K mg base "_law_count" ["told","known","face","deep"] (n+1) (jC K D):=fun n D s p x y u=>dG X G T.f_law_count (fun S _ _ _ _ _ _ _ _ _ l q h=>bK (IV x y h) (ac (bp (PW.pt (jF (iM (g_ q) (pv 2) (aA cy)) (jj (iM gM (pv 3) ag)))) (af (au ag)) aJ) (ac (bp (cL (fz q (aA (a2 (pv 2) (pv 3))) (pv 1))) (ac (qs 4 S ag) (ac (bD bo rfl (aN (az eT (qf (k0:=4) (l.mono (aE (by decide) p)) (j base) (a3 (pv 0) (pv 1) (pv 2))) (bq (a1 gK)))) (gn 5 S) (af (qs 4 S (az cz (pv 4) (qf (k0:=1) (l.mono (aE (by decide) p)) (k base) (a1 (qf (hk:=aB _) l u (aG (pv 0) (aG (pv 1) (a3 (pv 2) (pv 5) (pv 3))))))))))) (af (eJ q (pv 1) (aA (a2 (pv 2) (pv 3))) (pv 4) rfl)))) aJ) (af (au (f8 q (pv 1) (aA (a2 (pv 2) (pv 3))) (fun _ _=>rfl))))))) (by walk_at "b");have r:∀n D:Nat,4<=n->fH P w K mg base "_law_count" ["told","known","face","deep"] n (jC K D)->fH P w K mg base "_law_sizes" ["told","known","face","ask","deep"] (n+1) (io K D):=fun n D p u=>dG X G T.f_law_sizes (fun S _ _ _ _ _ _ _ _ _ l q h=>bK (AJ h) (ac (qs 5 S (bq cy)) (ac (bD bo rfl (aN (qf (k0:=1) (l.mono (aE (by decide) p)) (g base) (a2 (pv 0) (pv 3)))) (gn 6 S) (af (br (jH gx jS jR dC (pv 5) (a1 (qf (hk:=aB _) l u (aG (pv 0) (a3 (pv 1) (qf (k0:=3) (l.mono (aE (by decide) p)) (i base) (aG (pv 0) (a3 (pv 1) (pv 2) (pv 6)))) (az jk (pv 4) ag))))))))) (af (au (pv 5)))))) (by walk_at "b");have A:=o 4 0 _ (by decide) (by decide) (fun m e=>by cases e) E0;have B:=r 5 0 (by decide) A;have E:=o 6 1 _ (by decide) (by decide) (fun m e=>by cases e;rfl) B;have H:=r 7 1 (by decide) E;have I:=o 8 2 _ (by decide) (by decide) (fun m e=>by cases e;rfl) H;have J:=r 9 2 (by decide) I;have L:=o 10 3 _ (by decide) (by decide) (fun m e=>by cases e;rfl) J;have M:=r 11 3 (by decide) L;have N:=o 12 4 _ (by decide) (by decide) (fun m e=>by cases e;rfl) M;exact N
theorem yN(a:cB P w K mg)(e:fg P w K mg)(f:jQ P w K mg):mR P w K mg:=fun base=>dG X G T.f_law_sizes (fun S _ _ _ _ _ _ _ _ _ g i h=>bK (AJ h) (ac (qs 5 S (bq cy)) (ac (bD bo rfl (aN (qf g (a base) (a2 (pv 0) (pv 3)))) (gn 6 S) (af (br (jH gx jS jR dC (pv 5) (a1 (qf g (f base) (aG (pv 0) (a3 (pv 1) (qf g (e base) (aG (pv 0) (a3 (pv 1) (pv 2) (pv 6)))) (az jk (pv 4) ag))))))))) (af (au (pv 5)))))) (by walk_at "b")
theorem Ch(g:cB P w K mg)(k:fg P w K mg)(l:iE P w K mg)(i:jO P w K mg)(j:mR P w K mg):xC P w K mg:=fun base=>by
  have E0:fH P w K mg base "_law_laid" ["told","known","face","ask","deep","number"] 14 Cr:=by
   obtain⟨f,a,t⟩:=T.f_law_laid;obtain⟨x,F⟩:=t.fun_;exact⟨f,x,wU,eF X G a,F.kp,F.binds (ps:=["told","known","face","ask","deep","number"]) (by walk_at "b")⟩
  have q:∀(n D:Nat) (s:Sp),14<=n->D<=4->(∀m,D=m+1->s=(mw K m))->fH P w K mg base "_law_laid" ["told","known","face","ask","deep","number"] n s->fH P w K mg base "_law_nth" ["told","known","face","deep","number"] (n+1) (k_ K D):=fun n D s p y A u=>dG X G T.f_law_nth (fun S _ _ _ _ _ _ _ _ _ o v h=>bK (IU y A h) (ac (bp (iM (g_ v) (pv 2) (aA cy)) (af (au (aA (a1 bh)))) aJ) (ac (bp (iM gM (pv 4) ag) (af (au (aA (a1 bh)))) aJ) (ac (qs 4 S (az jk (pv 4) ag)) (ac (bD bo rfl (aN (az eT (qf (k0:=4) (o.mono (aE (by decide) p)) (l base) (a3 (pv 0) (pv 1) (pv 2))) (bq (a1 gK)))) (gn 5 S) (ac (qs 6 S (qf (k0:=14) (o.mono (aE (by decide) p)) (j base) (aG (pv 0) (aG (pv 1) (a3 (pv 2) (pv 5) (pv 3)))))) (ac (bp (iM uR (pv 4) (qf (k0:=1) (o.mono (aE (by decide) p)) (i base) (a1 (pv 6)))) (af (au (qf (hk:=aB _) o u (aG (pv 0) (aG (pv 1) (aG (pv 2) (a3 (pv 5) (pv 3) (pv 4)))))))) aJ) (af (qs 4 S (az jk (pv 4) (qf (k0:=1) (o.mono (aE (by decide) p)) (i base) (a1 (pv 6))))))))) (af (au gK))))))) (by walk_at "b");have r:∀n D:Nat,14<=n->fH P w K mg base "_law_nth" ["told","known","face","deep","number"] n (k_ K D)->fH P w K mg base "_law_laid" ["told","known","face","ask","deep","number"] (n+1) (mw K D):=fun n D p u=>dG X G T.f_law_laid (fun S _ _ _ _ _ _ _ _ _ o v h=>bK (GO h) (ac (qs 6 S (bq cy)) (ac (qs 7 S (qf (k0:=1) (o.mono (aE (by decide) p)) (g base) (a2 (pv 0) (pv 3)))) (ac (bD bo rfl (aN (Ee (CL rfl rfl z.list rfl z.zip (a2 (pv 7) (qf (k0:=14) (o.mono (aE (by decide) p)) (j base) (aG (pv 0) (aG (pv 1) (a3 (pv 2) (pv 3) (pv 4))))))) (Ed yr ag))) (dX rfl (ax (gn 8 S) (ax (gn 9 S) cQ))) (ac (br (jH gx jS jR dC (pv 6) (a1 (qf (hk:=aB _) o u (aG (pv 0) (aG (pv 1) (a3 (qf (k0:=3) (o.mono (aE (by decide) p)) (k base) (aG (pv 0) (a3 (pv 1) (pv 2) (pv 8)))) (az jk (pv 4) ag) (az gL (pv 5) (pv 9))))))))) (af (qs 5 S (az Hh (pv 5) (pv 9)))))) (ac (br (Hf gx PySem.F.slot_list_reverse PySem.F.type_list_reverse CP (pv 6))) (ac (bp (cL (rc (pv 3))) (af (au (aA (a3 bh (r9 rfl rfl z.tuple rfl z.zip (a2 (xt (pv 0) ag) (cV fX (pv 6) fZ (cZ (Ed yr ag))))) (xl (pv 6) (Ed yr ag)))))) aJ) (af (au (aA (aG bh (a3 (pv 3) (xl (pv 6) ag) (r9 rfl rfl z.tuple rfl z.zip (a2 (xt (pv 0) ag) (cV fX (pv 6) (cZ ag) fZ)))))))))))))) (by walk_at "b");have B:=q 14 0 _ (by decide) (by decide) (fun m e=>by cases e) E0;have E:=r 15 0 (by decide) B;have H:=q 16 1 _ (by decide) (by decide) (fun m e=>by cases e;rfl) E;have I:=r 17 1 (by decide) H;have J:=q 18 2 _ (by decide) (by decide) (fun m e=>by cases e;rfl) I;have L:=r 19 2 (by decide) J;have M:=q 20 3 _ (by decide) (by decide) (fun m e=>by cases e;rfl) L;have N:=r 21 3 (by decide) M;have O:=q 22 4 _ (by decide) (by decide) (fun m e=>by cases e;rfl) N;exact O
theorem vZ:lN P w K mg:=fun base=>dG X G T.f_law_pieces (fun S _ _ _ _ _ _ _ _ _ a e h=>bK (Fb h) (ac (bp (iM gM (xt (pv 0) ag) bh) (af (au (aA (a2 (xt (pv 0) ag) (az eT (bq (a1 (xt (pv 0) ag))) (qc (uM (xt (pv 0) ag)) (ze (g9 (aS (by decide)) de (g9 (aS (by decide)) de (uQ) (hC)) (jn de (hC)))) fun _ _ _ _ _ _=>⟨dX rfl (ax (gc 0) (ax (gc 1) cQ)),cj,pv 1⟩)))))) aJ) (af (au (aA (a2 gK (az eT (qc (uM (xt (pv 0) ag)) (ze (g9 (aS (by decide)) de (g9 (aS (by decide)) de (uQ) (hC)) (jn de (hC)))) fun _ _ _ _ _ _=>⟨dX rfl (ax (gc 0) (ax (gc 1) cQ)),cj,pv 1⟩) (bq (a1 (xt (pv 0) ag)))))))))) (by walk_at "b")
theorem v3(i:gS P w K mg)(g:cB P w K mg)(j:lN P w K mg):qp P w K mg:=fun base=>by
  have E0:fH P w K mg base "_law_blamed" ["other","own","trial"] 2 Cr:=by
   obtain⟨f,a,t⟩:=T.f_law_blamed;obtain⟨q,F⟩:=t.fun_;exact⟨f,q,wU,eF X G a,F.kp,F.binds (ps:=["other","own","trial"]) (by walk_at "b")⟩
  have k:∀(n D:Nat) (o:Sp),2<=n->D<=4->(∀m,D=m+1->o=(g6 K m))->fH P w K mg base "_law_blamed" ["other","own","trial"] n o->fH P w K mg base "_law_blamed" ["other","own","trial"] (n+1) (g6 K D):=fun n D o p r s u=>dG X G T.f_law_blamed (fun S _ _ _ _ _ _ _ _ _ l v h=>bK (Fj r s h) (ac (bp (PW.pt (jF (iM (g_ v) (pv 1) (aA cy)) (jj (iM gM (xt (pv 2) ag) bh)))) (af (au kB)) aJ) (ac (bp (iM gM (xt (pv 2) ag) bh) (af (au kB)) aJ) (ac (j4 (qf (k0:=1) (l.mono (aE (by decide) p)) (j base) (a1 (pv 2))) (dX rfl (ax (gn 3 S) (ax (gn 4 S) cQ)))) (ac (bD bo rfl (Eb rfl z.zip (a2 (qf (k0:=1) (l.mono (aE (by decide) p)) (g base) (a2 (pv 0) (pv 3))) (pv 4))) (dX rfl (ax (gn 5 S) (ax (gn 6 S) cQ))) (af (bp (oI (Hd u l rfl (a3 (pv 0) (qf (k0:=2) (l.mono (aE (by decide) p)) (i base) (a3 (pv 0) (pv 1) (pv 5))) (pv 6)))) (af (au kB)) aJ))) (af (au kB))))))) (by walk_at "b");have x:=k 2 0 _ (by decide) (by decide) (fun m e=>by cases e) E0;have y:=k 3 1 _ (by decide) (by decide) (fun m e=>by cases e;rfl) x;have A:=k 4 2 _ (by decide) (by decide) (fun m e=>by cases e;rfl) y;have B:=k 5 3 _ (by decide) (by decide) (fun m e=>by cases e;rfl) A;have E:=k 6 4 _ (by decide) (by decide) (fun m e=>by cases e;rfl) B;exact E
theorem yQ(i:gS P w K mg)(g:cB P w K mg)(j:fg P w K mg)(k:iE P w K mg)(l:jQ P w K mg):sw P w K mg:=fun base=>by
  have E0:fH P w K mg base "_law_first" ["told","other","known","own","face","deep"] 13 Cr:=by
   obtain⟨f,a,t⟩:=T.f_law_first;obtain⟨u,F⟩:=t.fun_;exact⟨f,u,wU,eF X G a,F.kp,F.binds (ps:=["told","other","known","own","face","deep"]) (by walk_at "b")⟩
  have q:∀(n D:Nat) (s:Sp),13<=n->D<=4->(∀m,D=m+1->s=(gZ K m))->fH P w K mg base "_law_first" ["told","other","known","own","face","deep"] n s->fH P w K mg base "_law_first" ["told","other","known","own","face","deep"] (n+1) (gZ K D):=fun n D s r v x y=>dG X G T.f_law_first (fun S _ _ _ _ _ _ _ _ _ p o h=>bK (Fg v x h) (ac (bp (PW.pt (jF (iM (g_ o) (pv 3) (aA cy)) (jF (iM (g_ o) (pv 4) (aA cy)) (jj (iM gM (pv 5) ag))))) (af (au (xl (bq (a2 gK ag)) (gq FV rfl z.int FW (a1 (CN (KW (rf o) (pv 3) (aA cy)) (G9 (KW (g_ o) (pv 4) (aA cy))))))))) aJ) (ac (bp (cL (re o (aA (aG bh (a3 (pv 3) (pv 4) (pv 5)))) (pv 2))) (af (au (f8 o (pv 2) (aA (aG bh (a3 (pv 3) (pv 4) (pv 5)))) (fun _ _=>rfl)))) aJ) (ac (qs 6 S ag) (ac (qs 7 S gK) (ac (bD bo rfl (aN (az eT (qf (k0:=4) (p.mono (aE (by decide) r)) (k base) (a3 (pv 0) (pv 2) (pv 4))) (bq (a1 gK)))) (gn 8 S) (ac (qs 9 S ag) (ac (bD bo rfl (aN (Ee (qf (k0:=1) (p.mono (aE (by decide) r)) (g base) (a2 (pv 0) (pv 8))) (Ed yr ag))) (gn 10 S) (ac (qs 11 S (qf (k0:=3) (p.mono (aE (by decide) r)) (j base) (aG (pv 0) (a3 (pv 2) (pv 4) (pv 10))))) (ac (qs 12 S (Hd y p rfl (aG (pv 0) (aG (pv 1) (aG (pv 2) (a3 (qf (k0:=2) (p.mono (aE (by decide) r)) (i base) (a3 (pv 1) (pv 3) (pv 10))) (pv 11) (az jk (pv 5) ag))))))) (ac (bp (PW.pt (lc (cL (pQ (pv 12))) (lb (PW.pt (jF (cL (rc (pv 7))) (jj (iM uR (az cz (pv 6) (az lf (pv 12) (pv 9))) (pv 7)))))))) (af (qs 7 S (az cz (pv 6) (az lf (pv 12) (pv 9))))) aJ) (af (qs 9 S (az lf (pv 9) (qf (k0:=13) (p.mono (aE (by decide) r)) (l base) (aG (pv 0) (a3 (pv 2) (pv 11) (az jk (pv 5) ag))))))))))) (af (qs 6 S (az cz (pv 6) (pv 9))))))) (ac (eJ o (pv 2) (aA (aG bh (a3 (pv 3) (pv 4) (pv 5)))) (pv 7) rfl) (af (au (pv 7)))))))))) (by walk_at "b");have A:=q 13 0 _ (by decide) (by decide) (fun m e=>by cases e) E0;have B:=q 14 1 _ (by decide) (by decide) (fun m e=>by cases e;rfl) A;have E:=q 15 2 _ (by decide) (by decide) (fun m e=>by cases e;rfl) B;have H:=q 16 3 _ (by decide) (by decide) (fun m e=>by cases e;rfl) E;have I:=q 17 4 _ (by decide) (by decide) (fun m e=>by cases e;rfl) H;exact I
end
theorem KB(X:K.In h)(G:h.Ns bV mg)(z:Zs mg)(c:Cs K mg C Ck Cd Cb a_STILL a_HUSH)(T:Ts K C Ck Cd Cb):∃f fd,mg "law"=some (.ref f)/\(∀(s:Shared) (v:Value),tL s fd ⟨[v],[]⟩ [("script",v)])/\∀base:Heap,mQ P w K mg base CX0 32 f fd ["script"] (sp_law47 K):=by
 have bw:lM P w K mg:=vY X G z c T;have ce:vF P w K mg:=Az X G z c T;have bc:lO P w K mg:=AB X G z c T;have g:d6 P w K mg:=Ay X G z c T bw;have ap:jP P w K mg:=yO X G z c T g;have U:kP P w K mg:=Cg X G z c T;have as:h7 P w K mg:=pp X G z c T g U;have b7:sv P w K mg:=yP X G z c T bc g ap as;have cl:rM P w K mg:=Ci X G z c T;have Y:kQ P w K mg:=Cj X G z c T;have J:gg P w K mg:=nE X G z c T cl Y;have bz:lQ P w K mg:=v6 X G z c T;have L:gh P w K mg:=nF X G z c T Y;have x:db P w K mg:=jb X G z c T;have bd:ju P w K mg:=sM X G z c T;have al:gU P w K mg:=oC X G z c T;have aC:jN P w K mg:=yL X G z c T;have bI:lH P w K mg:=vU X G z c T J bz L aC;have a0:h_ P w K mg:=pA X G z c T;have a4:h9 P w K mg:=pq X G z c T;have cm:rN P w K mg C:=Cn X G z c T Y x bd al aC bI a0 a4;have I:nU P w K mg C:=ux X G z c T cm;have o:eB P w K mg C:=qW X G z c T;have r:d_ P w K mg C:=nz X G z c T;have O:iU P w K mg C:=vS X G z c T o r
 have A:gb P w K mg C:=qX X G z c T;have M:gi P w K mg C:=nA X G z c T;have m:dF P w K mg:=sN X G z c T;have p:fj P w K mg C:=sL X G z c T;have q:fh P w K mg C:=sK X G z c T;have bS:lP P w K mg C:=v5 X G z c T o O;have bl:ka P w K mg C:=uy X G z c T O A M;have a5:hZ P w K mg C a_HUSH:=pi X G z c T p q;have cf:o0 P w K mg C:=Ax X G z c T bl a5;have Q:iV P w K mg Ck:=v9 X G z c T;have j:cK P w K mg C Ck:=jZ X G z c T cf;have b1:lK P w K mg:=vW X G z c T;have bm:ny P w K mg:=Cf X G z c T;have cv:DA P w K mg C Ck Cd:=IH X G z c T q Q;have i:cJ P w K mg C Ck Cd:=oB X G z c T j
 have B:f_ P w K mg C Ck Cd:=qS X G z c T i
 have D:ga P w K mg C Ck Cd:=qV X G z c T bm i B;have a9:iK P w K mg C Ck Cd:=qU X G z c T bm i D;have cs:Ad P w K mg C:=GD X G z c T r A;have b2:lJ P w K mg C:=vV X G z c T p q;have E:eI P w K mg C:=kW X G z c T o p cs;have b3:lG P w K mg C:=vT X G z c T b2 E;have co:rO P w K mg C Ck Cd Cb:=Co X G z c T Q cv;have a6:ia P w K mg C Ck Cd Cb:=ph X G z c T j i
 have N:gj P w K mg C Ck Cd Cb:=nC X G z c T B D a9 a6;have bi:mS P w K mg C:=sP X G z c T bS b1 b3 co N;have bn:j9 P w K mg:=uv X G z c T g U m;have b4:lL P w K mg:=vX X G z c T g U m;have bu:j_ P w K mg:=uw X G z c T g ap;have ch:vG P w K mg:=AA X G z c T bc g bn b4 bu;have y:gS P w K mg:=v4 X G z c T m;have u:sy P w K mg:=yS X G z c T m;have e:cB P w K mg:=pj X G z c T;have n:fg P w K mg:=yU X G z c T y;have H:iE P w K mg:=yT X G z c T n;have a7:jO P w K mg:=yM X G z c T;have a8:jQ P w K mg:=yR X G z c T e n H a7;have b8:mR P w K mg:=yN X G z c T e n a8;have cp:xC P w K mg:=Ch X G z c T e n H a7 b8;have b5:lN P w K mg:=vZ X G z c T;have b6:qp P w K mg:=v3 X G z c T y e b5;have cc:sw P w K mg:=yQ X G z c T y e n H a8;obtain⟨f,a,t⟩:=T.f_law47;obtain⟨oc,od,an,sl,kV,dc,pm,cd,ct,l,c1,k1⟩:=t;have F:=HK (st:=(eM 76)) l c1 k1;have sc:lF EK G5 (cq (eM 76)):=by walk_at "s"
 have S:=sc.nd;exact⟨f,_,eF X G a,fun s v=>.of_eq rfl,fun base=>F.ok (k:=31) sc (by walk_at "l") (fun _ _ _ _ _ _ _ _ hr h=>by have hu:=Et hr;exact bK (GP (C:=C) h) (ac (qs 1 S (qf hr (ce base) (a1 (pv 0)))) (ac (bD bo rfl (iY rfl z.range (a1 ag)) (gn 2 S) (ac (qs 3 S (qf hr (b7 base) (a3 (pv 1) ag (qf hr (g base) (a2 (pv 1) ag))))) (ac (qs 4 S (qf hr (ch base) (a3 (pv 1) (pv 3) ag))) (ac (qs 5 S (qf hr (I base) (a1 (pv 3)))) (ac (qs 6 S (qf hr (I base) (a1 (pv 4)))) (af (bD bo rfl (aN (bq (aG ag (aG ag (a3 ag ag ag))))) (gn 7 S) (ac (qs 8 S iw) (ac (qs 9 S (qf hr (cc base) (aG (pv 3) (aG (pv 4) (aG (pv 8) (a3 (qf hr (u base) (a1 (pv 4))) (qf hr (u base) (a1 (pv 3))) (pv 7))))))) (ac (qs 10 S (qf hr (bi base) (a3 (pv 5) (pv 7) (pv 6)))) (ac (bp (PW.pt (jF (iM Ei (pv 10) (pv 9)) (jj (oI (qB H_ z.isinstance Ia (a2 (pv 10) (CK rfl z.bool))))))) (af (au kB)) aJ) (af (bp (cL (pQ (pv 9))) (ac (qs 11 S (qf hr (cp base) (aG (pv 3) (aG (pv 8) (a3 (qf hr (u base) (a1 (pv 3))) (pv 7) (pv 9)))))) (af (bp (CI (oI (qf hr (b6 base) (a3 (pv 4) (qf hr (u base) (a1 (pv 4))) (pv 11))))) (af (au kB)) aJ))) aJ))))))))))))) (af (au kB)))))⟩
theorem all_mk{l:PySem.W.OpenLaw}{fa:Addr}{o:Value}{a:Value}{g:Value}{i:Value}{j:Value}{p:Value}{q:Obj}{r:Array Value}{Q:Nat}{E:Obj}{H:Array Value}{a5:Nat}(X:K.In h)(G:h.Ns bV mg)(dm:mg "law"=some (.ref fa))
  (aC:ck K bV "Machine"=some (some (.ref C)))
  (pg:rQ K C Ag=true)
  (hd:tN K C=true)
  (po:wC K C=true)
  (sa:cM K (.ref C) "__setattr__"=some (some (.builtin "object.__setattr__")))
  (mk:l9 K C=true)
  (kc:gw K (.ref C)=true)
  (dn:cM K (.ref C) "own_asks"=some none)
  (dp:cM K (.ref C) "own_says"=some none)
  (dr:cM K (.ref C) "own_rooms"=some none)
  (ds:cM K (.ref C) "own_doors"=some none)
  (dv:cM K (.ref C) "leaving"=some none)
  (dx:cM K (.ref C) "quiet"=some none)
  (dy:cM K (.ref C) "sign_goals"=some none)
  (dK:cM K (.ref C) "still_led"=some none)
  (ce:ck K bV "KnownSteps"=some (some (.ref Ck)))
  (bn:rQ K Ck Ag=true)
  (bu:tN K Ck=true)
  (bw:wC K Ck=true)
  (bz:cM K (.ref Ck) "__setattr__"=some (some (.builtin "object.__setattr__")))
  (bI:l9 K Ck=true)
  (bS:gw K (.ref Ck)=true)
  (b1:cM K (.ref Ck) "machine"=some none)
  (b2:cM K (.ref Ck) "known"=some none)
  (dT:ck K bV "Made"=some (some (.ref Cd)))
  (cf:rQ K Cd Ag=true)
  (ch:tN K Cd=true)
  (cl:wC K Cd=true)
  (cm:cM K (.ref Cd) "__setattr__"=some (some (.builtin "object.__setattr__")))
  (co:l9 K Cd=true)
  (cp:gw K (.ref Cd)=true)
  (cs:cM K (.ref Cd) "says_signs"=some none)
  (ct:cM K (.ref Cd) "known_steps"=some none)
  (cv:cM K (.ref Cd) "known_counts"=some none)
  (LJ:ck K bV "Blamers"=some (some (.ref Cb)))
  (c0:rQ K Cb Ag=true)
  (c1:tN K Cb=true)
  (c2:wC K Cb=true)
  (c3:cM K (.ref Cb) "__setattr__"=some (some (.builtin "object.__setattr__")))
  (c4:l9 K Cb=true)
  (c5:gw K (.ref Cb)=true)
  (c8:cM K (.ref Cb) "made"=some none)
  (dc:cM K (.ref Cb) "own_steps"=some none)
  (dd:cM K (.ref Cb) "known_harmless"=some none)
  (dg:cM K (.ref Cb) "known_firsts"=some none)
  (b3:ck K bV "all"=some none)
  (b4:ck K bV "any"=some none)
  (a6:ck K bV "bool"=some none)
  (a7:ck K bV "dict"=some none)
  (I:ck K bV "enumerate"=some none)
  (b5:ck K bV "int"=some none)
  (t:ck K bV "isinstance"=some none)
  (b6:ck K bV "len"=some none)
  (a8:ck K bV "list"=some none)
  (b7:ck K bV "max"=some none)
  (b8:ck K bV "min"=some none)
  (U:ck K bV "range"=some none)
  (J:ck K bV "reversed"=some none)
  (cc:ck K bV "sum"=some none)
  (Y:ck K bV "tuple"=some none)
  (cd:ck K bV "zip"=some none)
  (L:ck K bV "LETTERS"=some (some o))
  (M:RelV (.str "abcdefghijklmnopqrstuvwxyz") o)
  (m:ck K bV "LONGEST_NAME"=some (some a))
  (n:RelV (.int 8) a)
  (u:ck K bV "MOST_WORDS"=some (some g))
  (x:RelV (.int 4) g)
  (y:ck K bV "MOST_ROOMS"=some (some i))
  (A:RelV (.int 150) i)
  (B:ck K bV "MOST_DOORS"=some (some j))
  (D:RelV (.int 2000) j)
  (N:ck K bV "DEEPEST"=some (some p))
  (O:RelV (.int 4) p)
  (al:ck K bV "STILL"=some (some (.ref a_STILL)))
  (an:K.lookup a_STILL=some q)
  (ap:q.cls=.type "tuple")
  (as:q.data=.seq r Q)
  (a0:r.size<=aj)
  (a4:ba (aF.map V.str) r.toList)
  (a9:ck K bV "HUSH"=some (some (.ref a_HUSH)))
  (bc:K.lookup a_HUSH=some E)
  (bd:E.cls=.type "tuple")
  (bi:E.data=.seq H a5)
  (bl:H.size<=aj)
  (bm:ba (cA.map V.str) H.toList)
  (T:Ts K C Ck Cd Cb)
 :∃fd:lR,(∀(s:Shared) (v:Value),tL s fd ⟨[v],[]⟩ [("script",v)])/\∀base:Heap,K.In base->base.Ns bV mg->mQ l.prog w K mg base CX0 32 fa fd ["script"] (sp_law47 K):=by
 have z:Zs mg:=⟨fK X G b3,fK X G b4,fK X G a6,fK X G a7,fK X G I,fK X G b5,fK X G t,fK X G b6,fK X G a8,fK X G b7,fK X G b8,fK X G U,fK X G J,fK X G cc,fK X G Y,fK X G cd⟩;have c:Cs K mg C Ck Cd Cb a_STILL a_HUSH:=⟨⟨_,eF X G L,M⟩,⟨_,eF X G m,n⟩,⟨_,eF X G u,x⟩,⟨_,eF X G y,A⟩,⟨_,eF X G B,D⟩,⟨_,eF X G N,O⟩,⟨_,eF X G al,rfl⟩,⟨_,eF X G a9,rfl⟩,DQ an ap as a0 a4,DQ bc bd bi bl bm,⟨⟨pg,hd,po,sa⟩,dn,dp,dr,ds,dv,dx,dy,dK⟩,eF X G aC,mk,kc,⟨⟨bn,bu,bw,bz⟩,b1,b2⟩,eF X G ce,bI,bS,⟨⟨cf,ch,cl,cm⟩,cs,ct,cv⟩,eF X G dT,co,cp,⟨⟨c0,c1,c2,c3⟩,c8,dc,dd,dg⟩,eF X G LJ,c4,c5⟩;obtain⟨f,fd,e,b,k⟩:=KB (P:=l.prog) (w:=w) X G z c T;have e0:=dm.symm.trans e;cases e0;exact⟨fd,b,fun base _ _=>k base⟩
end
end Mum
namespace PySem.W.Fast
def tw491435058787813520:=0
def tw7656879066372549873:=0
def tw18418258166193723844:=0
def tw171637262107330047:=0
def tw14790083723171722941:=0
def tw18273370405477404988:=0
def tw16747071612343296268:=0
def tw12472255942035857623:=0
def tw1190002713449857936:=0
def tw4838215188082655968:=0
def tw4768893831485137704:=0
def tw2239158434538585412:=0
def tw10297736969756350610:=0
def tw12795573244989168298:=0
def tw16811262967078831540:=0
def tw12940432408645037494:=0
def tw18172784826139713164:=0
def tw17633618430804562260:=0
def tw8244474179927023622:=0
def tw15810075858698805399:=0
def tw2829703327080396801:=0
def tw5107561794417867186:=0
def tw11206263783524655172:=0
def tw15551217989662249388:=0
def tw6144055278696057543:=0
def tw1303596163997511828:=0
def tw16975304126151262086:=0
def tw12740147428108190706:=0
def tw13958680791287740733:=0
def tw17397133110965332657:=0
def tw4615237700417569502:=0
def tw14393068094317159762:=0
def tw16202998285317370700:=0
def tw3547046846040935265:=0
def tw9115645157218086160:=0
def tw15821994590913362515:=0
def tw7173106884411212843:=0
def tw17113942029781293681:=0
def tw17000792660558720032:=0
def tw615799707455625421:=0
def tw11581177802531114366:=0
def tw9005949456769251980:=0
def tw4845136693591930970:=0
def tw960067358635559011:=0
def tw9318478148840565104:=0
def tw1831784485281255011:=0
def tw16466202657126699070:=0
def tw12658696040295154018:=0
def tw11512739595707998024:=0
def tw8989303299529926628:=0
def tw6063689789943064178:=0
def tw9261060634939540966:=0
def tw2020476466244409297:=0
def tw15652354379577371842:=0
def tw17845509830228761122:=0
def tw17473691849787744297:=0
def tw17122666021604680727:=0
def tw6414309730200388564:=0
def tw3128299695326502496:=0
def tw15108497055595823184:=0
def tw16944128829453166902:=0
def tw8229585333458170840:=0
def tw15794479073684930220:=0
def tw9218045545817067155:=0
def tw7497387608678733186:=0
def tw2196552186372726496:=0
def tw12742223180413796823:=0
def tw556897116325729532:=0
def tw12866800746819935024:=0
def tw10014958598302230858:=0
def tw606151259674555427:=0
def tw17798285776132112179:=0
def tw10050485138939714487:=0
def tw12655080637371840405:=0
def tw7717151899379901510:=0
def tw17960047139203734748:=0
def tw5594298740832427904:=0
def tw1951803134594421291:=0
def tw14313831640201180491:=0
def tw843810240855933131:=0
def tw9212517494527967478:=0
def tw16891582239153392079:=0
def tw2656067166292958831:=0
def tw11814108428411573137:=0
def tw16518009882243699884:=0
def tw1944385746773989064:=0
def tw3479664375961310752:=0
def tw12176729480360933329:=0
def tw15091077670047351930:=0
def tw17244812864709097415:=0
def tw4234271826995460394:=0
def tw3376164085004164465:=0
def tw11787736095558425671:=0
def tw8197962251769874721:=0
def tw12800841689395597519:=0
def tw5813511497978829160:=0
def tw1178342945634225171:=0
def tw2762480140022958505:=0
def tw10327184163997159997:=0
def tw14435691030254273065:=0
def tw17146700935878145524:=0
def tw14363152115259095069:=0
def tw4646999439327651624:=0
def tw17926322325242003517:=0
def tw10151173129580526865:=0
def tw6281726716835209979:=0
def tw5973696564283271446:=0
def tw6194234588479083220:=0
def tw16386913936847898756:=0
def tw14633452327162287393:=0
def tw18314747288369066644:=0
def tw147211827358449020:=0
def tw538032794435833921:=0
def tw15089974778367285009:=0
def tw16329371647582427292:=0
def tw707151137043041717:=0
def tw3977259574315339213:=0
def tw13142887116212456534:=0
def tw10292778417051898962:=0
def tw14401576491193896177:=0
def tw1387271170456267965:=0
def tw15328627115920911402:=0
def tw18002309383768127207:=0
def tw14934790765214602783:=0
def tw10170485305601377162:=0
def tw17170109988140740869:=0
def tw1697279641779310985:=0
def tw11305571581900367004:=0
def tw8336001123905521989:=0
def tw909392865265571063:=0
def tw8308433332080268797:=0
def tw9888612879893900177:=0
def tw110227912772665135:=0
def tw17921219546503055960:=0
def tw7406372078848260744:=0
def tw13827281578548282460:=0
def tw9876046273313590767:=0
def tw3964942963793156867:=0
def tw544763493091398629:=0
def tw16839011772390213237:=0
def tw9686680177885457153:=0
def tw13648476805544571998:=0
def tw873899651611002477:=0
def tw10040689105811592217:=0
def tw2505027839417327467:=0
def tw5675007571726586859:=0
def tw17146632794864207174:=0
def tw2110326446529354734:=0
def tw5840889654513418113:=0
def tw12067877529347878141:=0
def tw3630051665393153954:=0
def tw2012570255382027428:=0
def tw7789757087855288851:=0
def tw15565860142999270310:=0
def tw3226529668767798064:=0
def tw17083315875746498020:=0
def tw11521981325112370023:=0
def tw566594317654574:=0
def tw10138613515512194998:=0
def tw2808643711302053549:=0
def tw3537479505827287988:=0
def tw5569945004415417076:=0
def tw823834053448418434:=0
def tw2945222467293848844:=0
def tw12685662561520760006:=0
def tw7306135365124964709:=0
def tw12789623327969323440:=0
def tw16549834253038277250:=0
def tw6492877721327181293:=0
def tw8342894104871391258:=0
def tw9408422872524351738:=0
def tw3019500361212355944:=0
def tw11960133403898142808:=0
def tw13745576952485213475:=0
def tw11392149757825863607:=0
def tw13124675122593884719:=0
def tw16874855119062211621:=0
def tw15919466873299179511:=0
def tw16960950599916529090:=0
def tw3807596615934737078:=0
def tw11423194137131536006:=0
def tw17151003663482070889:=0
def tw18002483819339685078:=0
def tw7355128153513190623:=0
def tw18136773149862168959:=0
def tw7518931514910898339:=0
def tw13108724970329128906:=0
def tw12324092549586196552:=0
def tw2068814208784944806:=0
def tw13598798794853096579:=0
def tw12302045994283853397:=0
def tw5857245696054285700:=0
def tw6085773805537324563:=0
def tw3795734701910767068:=0
def tw8801875446641034:=0
def tw10339942817747158471:=0
def tw1563001314412002450:=0
def tw26180868172292968:=0
def tw16147402420380596133:=0
def tw12170054551065042211:=0
def tw4592620849277505626:=0
def tw16008300383108005657:=0
def tw17518455216094904445:=0
def tw4510898673251371891:=0
def tw14914929000535257891:=0
def tw16593942953791377749:=0
def tw3192646397121551666:=0
def tw10137161273914378260:=0
def tw16586742929896987992:=0
def tw14424630285212382653:=0
def tw361092071243453995:=0
def tw9237371376755215507:=0
def tw12099088074053830739:=0
def tw11676345293894255372:=0
def tw17221073562176210654:=0
def tw12115424240262513523:=0
def tw17548919201859126792:=0
def tw7543703212863870249:=0
def tw14301614536743638339:=0
def tw10480905999175224492:=0
def tw1141275741448648806:=0
def tw2127821933097624103:=0
def tw11948813666150168737:=0
def tw11930191790370273686:=0
def tw17595137763953902591:=0
def tw15352814142028390898:=0
def tw425855734419756597:=0
def tw8342355873173753457:=0
def tw17849917671353260802:=0
def tw4043322199572376231:=0
def tw347296401298328183:=0
def tw2352735172370623283:=0
def tw1030120701539021136:=0
def tw9066120842522225727:=0
def tw11872823595322626172:=0
def tw8434447740784654038:=0
def tw10763546949810384832:=0
def tw4515176873449579568:=0
def tw9869452427062798402:=0
def tw5671884551871928571:=0
def tw7836729979786168641:=0
def tw17195355819295418303:=0
def tw2349261087026827637:=0
def tw16968159522151823746:=0
def tw1957599214135716659:=0
def tw4138636873414855497:=0
def tw12710494226018962036:=0
def tw827837357473031882:=0
def tw18016611290738297149:=0
def tw3271044964501815124:=0
def tw1281005596987407452:=0
def tw4661465041519115291:=0
def tw16163394369514213421:=0
def tw12105057280817887300:=0
def tw12886740850846022946:=0
def tw8318047119779248018:=0
def tw9528086281533211754:=0
def tw9115381599902163884:=0
def tw10603473696520083218:=0
def tw1869644247381002967:=0
def tw6315376581546365662:=0
def tw3582060629413090551:=0
def tw3464950653986400492:=0
def tw11364141348896226109:=0
def tw14712742302517245709:=0
def tw7917430946093644860:=0
def tw6505306008847332292:=0
def tw17073588530216091869:=0
def tw8848830410739745600:=0
def tw12873897338486753867:=0
def tw7941467023463512485:=0
def tw18434992127850853118:=0
def tw4435571417937323043:=0
def tw672944345643546604:=0
def tw17762482104778061197:=0
def tw2796056350356422743:=0
def tw17393916556251998280:=0
def tw6864370041061045133:=0
def tw8520433858804047258:=0
def tw719974251502268636:=0
def tw2338066932613005982:=0
def tw3084850653993203891:=0
def tw3150228286904800475:=0
def tw15530825773597004157:=0
def tw9217669384920751653:=0
def tw3069660869857904772:=0
def tw9423162179138669749:=0
def tw16577634243086811129:=0
def tw687673108109526067:=0
def tw3157521135620440077:=0
def tw10631743078128372073:=0
def tw15620957985849770906:=0
def tw892132842967335260:=0
def tw13627212521727645435:=0
def tw1412833624224614488:=0
def tw16349126554949289144:=0
def tw13755900118204723362:=0
def tw4997725566542628798:=0
def tw13453203558396907225:=0
def tw4252273571358315310:=0
def tw10074426467879514863:=0
def tw2148853627339615587:=0
def tw15107197325574476717:=0
def tw3182821822960134107:=0
def tw6922063581280524837:=0
def tw11006415148126225290:=0
def tw16124366199363614164:=0
def tw2173110534108021208:=0
def tw5344527636266926118:=0
def tw2834188451857847945:=0
def tw6691508165796260794:=0
def tw16176841407368634730:=0
def tw183266300589846734:=0
def tw13967531741623653173:=0
def tw1499159120275675207:=0
def tw1025570286781133020:=0
def tw12619552008901445262:=0
def tw7993435812273727827:=0
def tw6610401501734322465:=0
def tw11141553668112336409:=0
def tw2608392007078419936:=0
def tw13052125940794243247:=0
def tw5833642793395109488:=0
def tw12722903779924980062:=0
def tw573756243365100122:=0
def tw13762069227515967384:=0
def tw14258665751050708029:=0
def tw5863587317728001404:=0
def tw2191375868757391963:=0
def tw15491811176475246433:=0
def tw8159262230894588492:=0
def tw11987627300596416799:=0
def tw18433962973127319981:=0
def tw2438158176136171738:=0
def tw6727697139486397582:=0
def tw5177374864159319223:=0
def tw6186006569901175748:=0
def tw10268124455466011067:=0
def tw9911475695451419955:=0
def tw16368201435360837508:=0
def tw10996668276402007843:=0
def tw4567603434778352493:=0
def tw3318153103629265283:=0
def tw9491733145069561358:=0
def tw11812443505091895874:=0
def tw15685504938920921564:=0
def tw3989977419230510543:=0
def tw11120241283756115644:=0
def tw15466913893937999327:=0
def tw2991996194645801486:=0
def tw13090152374539115435:=0
def tw16590151825235221867:=0
def tw12265917255274820259:=0
def tw2360730338949324384:=0
def tw4351685305898174376:=0
def tw12335281567417346919:=0
def tw13869256075557585909:=0
def tw119557970176494524:=0
def tw17399821838342942360:=0
def tw7609652170367923219:=0
def tw14094912994036336466:=0
def tw5773482810624591633:=0
def tw14469339246495872074:=0
def tw14207146075812446401:=0
def tw7678625196457736325:=0
def tw10205713769656191798:=0
def tw8103838333409722020:=0
def tw10171576774923886652:=0
def tw16055917375980496417:=0
def tw3513942800445380617:=0
def tw7290092622556384689:=0
def tw13439046599261650207:=0
def tw6797223687552625591:=0
def tw3291991646828856962:=0
def tw16423250039986095678:=0
def tw10338825390046965250:=0
def tw3469434836088149000:=0
def tw13291675668276529861:=0
def tw8349273640533950041:=0
def tw2364476091386602548:=0
def tw7816917051527428925:=0
def tw46709511422269227:=0
def tw12257419922702701572:=0
def tw4519755299864542574:=0
def tw18061931462656826415:=0
def tw5285090255541880793:=0
def tw15534342732513187196:=0
def tw15940829536882860250:=0
def tw7941880907746659768:=0
def tw14424862151182925199:=0
def tw3965558013410654492:=0
def tw9818510448296784682:=0
def tw12016898231824153813:=0
def tw16516845828053251381:=0
def tw14563243407851749124:=0
def tw9340078357017822914:=0
def tw6071041575824235411:=0
def tw13547098196047424592:=0
def tw17600126727808118163:=0
def tw17575511416897903289:=0
end PySem.W.Fast
open PySem PySem.W PyProof.Rows
set_option maxRecDepth 100000 in
set_option maxHeartbeats 0 in
theorem PySem.Challenge.cw_mumtrial_k47_the_first_blamer_holds : PySem.Challenge.rw_mumtrial_k47_the_first_blamer.Holds := by
 w_on;o_law;k_head;(case hw=>w_witness2)
 k_fill
 refine L2.walk_ofK (l:=PySem.Challenge.rw_mumtrial_k47_the_first_blamer) (n:=63) (k:=32) (x:="script") (CX:=L2.CX0) (sp:=Mum.sp_law47) rfl (by decide) rfl ⟨rfl,by decide,by decide⟩ (fun w h Y=>PySem.W.kIn_of Y) ?F (fun _ _ a ns hl _ hS=>⟨a,ns,rfl,hS,hl,fun _=>rfl⟩) (fun _ _ _ _ z=>z)
 case F =>
  intro w mg fa h KX G hmg;refine' Mum.all_mk KX G hmg ?aC ?pg ?hd ?po ?sa ?mk ?kc ?na1 ?na2 ?na3 ?na4 ?na5 ?na6 ?na7 ?na8 ?aksc ?pgksc ?hdksc ?poksc ?saksc ?mkksc ?kcksc ?nksc1 ?nksc2 ?adc ?pgdc ?hddc ?podc ?sadc ?mkdc ?kcdc ?ndc1 ?ndc2 ?ndc3 ?LJ ?pgbc ?hdbc ?pobc ?sabc ?mkbc ?kcbc ?nbc1 ?nbc2 ?nbc3 ?nbc4 ?z_all ?z_any ?z_bool ?z_dict ?z_enumerate ?z_int ?z_isinstance ?z_len ?z_list ?z_max ?z_min ?z_range ?z_reversed ?z_sum ?z_tuple ?z_zip ?g_LETTERS ?r_LETTERS ?g_LONGEST_NAME ?r_LONGEST_NAME ?g_MOST_WORDS ?r_MOST_WORDS ?g_MOST_ROOMS ?r_MOST_ROOMS ?g_MOST_DOORS ?r_MOST_DOORS ?g_DEEPEST ?r_DEEPEST ?g_STILL ?l_STILL ?c_STILL ?d_STILL ?s_STILL ?v_STILL ?g_HUSH ?l_HUSH ?c_HUSH ?d_HUSH ?s_HUSH ?v_HUSH ?T
  (case aC|pg|hd|po|sa|mk|kc|na1|na2|na3|na4|na5|na6|na7|na8|aksc|pgksc|hdksc|poksc|saksc|mkksc|kcksc|nksc1|nksc2|adc|pgdc|hddc|podc|sadc|mkdc|kcdc|ndc1|ndc2|ndc3|LJ|pgbc|hdbc|pobc|sabc|mkbc|kcbc|nbc1|nbc2|nbc3|nbc4|z_all|z_any|z_bool|z_dict|z_enumerate|z_int|z_isinstance|z_len|z_list|z_max|z_min|z_range|z_reversed|z_sum|z_tuple|z_zip|g_LETTERS=>k_is)
  (case r_LETTERS=>exact⟨_,rfl⟩)
  (case g_LONGEST_NAME=>k_is)
  (case r_LONGEST_NAME=>exact⟨_,rfl⟩)
  (case g_MOST_WORDS=>k_is)
  (case r_MOST_WORDS=>exact⟨_,rfl⟩)
  (case g_MOST_ROOMS=>k_is)
  (case r_MOST_ROOMS=>exact⟨_,rfl⟩)
  (case g_MOST_DOORS=>k_is)
  (case r_MOST_DOORS=>exact⟨_,rfl⟩)
  (case g_DEEPEST=>k_is)
  (case r_DEEPEST=>exact⟨_,rfl⟩)
  (case g_STILL|l_STILL=>k_is)
  (case c_STILL|d_STILL=>rfl)
  (case s_STILL=>decide)
  (case v_STILL=>exact .cons ⟨_,rfl⟩ .nil)
  (case g_HUSH|l_HUSH=>k_is)
  (case c_HUSH|d_HUSH=>rfl)
  (case s_HUSH=>decide)
  (case v_HUSH=>exact .cons ⟨_,rfl⟩ .nil)
  (case T=>constructor<;>first|(refine' Mum.fnG_mk ?a ?l ?c ?k;(case a=>k_is);(case l=>k_is);(case c=>k_is);(case k=>k_is))|(refine' Mum.fnM_mk ?a ?i ?l ?c ?k;(case a=>k_is);(case i=>k_is);(case l=>k_is);(case c=>k_is);(case k=>k_is)))
