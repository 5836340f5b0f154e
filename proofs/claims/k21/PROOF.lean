
import PyProof.Rows.All
import Wide.All
import OpenK.AllK
import Wide.FinOn
import Lean
import PyProof.EqAt
import PyProof.EqKinds
import PyProof.TupleCall
import PyProof.NeKinds
import PyProof.RaisesMany
import PyProof.RulesAs
import PyProof.NsDelKeeps
import PyProof.InstStoreFacts
import PyProof.ExcClass3
import PyProof.ExcInit
import KE.KTryMore
import PyProof.AutoSeq1
import PyProof.WalkInts
import PyProof.DictIter
import PyProof.DictWalks
import PyProof.DictItems
import PyProof.DictItemsLoops
import KE.KPairComp
import PyProof.DictValues
import PyProof.SumAny
import PyProof.Rows.SumAny
import PyProof.Rows.RuleDivmod
import KE.KRevIter
import PyProof.TupleOfGen
import KE.KMinKey
import PyProof.Rows.CallKwBuiltin
import PySem.Challenge.RW_mumtrial_k21_a_fault_is_one
noncomputable section
open PySem renaming Program->bV,reduceHash->Fi,wpAny_mono->oO,wpAny_bind->aq,wpAny_specialOf->Hh,wpAny_call_entry->wN,wpAny_pure->aV,wpAny_rule->yW,Builtin->cV,wpAny_isInstance->CQ,wpAny_holding->lA,wpAny_truthy_bool->sX,sizeLine->ak,sysModules->gb,mainGlobals->cy,bootBuiltins->lp,starEach->aO,compareOp->fq,behindInMarks->kY,standAt->rq,holding->ln,wpAny_execs_nil->CO,swapsWith->rj,assignEach->vS,wpAny_standAt->CN,wpAny_passesOwn->sM,letOwnedTupleGo->CM,wpAny_pyIter_list->yV,foldedSetIterable->yU,binaryOp->rh,sizeLine_eq->ga,getMethod->rf,codeAny->zzl76,attributeBase->sJ,FuncData->lg,BindsTo->sI,codeAny_mono->CC,wpAny_Call_Name_kw->CB,callWith->vQ,backToKw->oK,keywordEach->oJ,NameKind->jM,mem_of_lookup->tH,getItem->nH,seqIndex?->xy,subscripted->xx,sliceBounds->nG,Keyword->qh,call_meets->qe,valueAt->nF,pairTrees->xu,call_meetsIn->tw,callerA->lF,DictEntry->iq,wpAny_newObj_type->lC,wpAny_dictEntries->nD,wpAny_notOrdered_dict->xh,IsItemIter->iY,wpAny_field->xf,wpAny_dictEpoch->p_,wpAny_attempt->xc,wpAny_callSpecial?_slot->xb,wpAny_typeNameOfWhole_itemiter->w_,wpAny_typeNameOf_itemiter->w8,wpAny_fieldsOf->w6,setField->wZ,wpAny_setField_rec->sY,firstArgMember->wY,wpAny_typeNameOfWhole_keyiter->wX,wpAny_typeNameOf_keyiter->wW
open PySem.Builtin.Tuple renaming tupleHashOf->AS
open Bool renaming false_ne_true->h7,not_true->CP,false_eq_true->lB,false_and->CL,eq_iff_iff->sL,and_false->xv,and_eq_true->lD,true_and->sR
open Nat renaming add_assoc->Fh,le_refl->aG,lt_of_lt_of_le->iW,lt_irrefl->rA,ne_of_lt->dg,le_trans->bB,le_of_lt->eK,ne_of_gt->lh,zero_le->c_,lt_succ_self->CG,le_succ->sH,lt_of_le_of_lt->xo,min_eq_left->sU,mod_lt->sT,sub_self->nB,lt_trichotomy->wU,lt_or_ge->fy,eq_zero_or_pos->wR,zero_add->wP,mul_le_mul->sN,le_succ_of_le->pZ
open List renaming append_nil->dh,range->jm,mem_filter->bP,mem_cons_self->cD,mem_cons_of_mem->d_,mem_cons->df,mem_append->aX,mem_append_left->cG,getElem?_eq_some_iff->bY,mem_append_right->cQ,length_cons->fo,lookup->kW,map_cons->bd,length_map->aj,nodup_cons->mY,length_take->aN,getElem?_append_right->iu,getElem?_append_left->dv,getElem?_map->cb,mem_of_getElem?->aY,length_append->au,length_drop->fP,size_toArray->bQ,reverse_cons->qg,length_singleton->xw,find?_cons->gR,any_cons->kh,cons_append->tD,length_nil->tz,nodup_nil->nE,map_nil->xr,lookup_cons->iZ,forIn_cons->xm,mem_map->av,getElem?_eq_none->fO,any_toArray->xk,map_congr_left->xj,length_range->tj,drop_zero->ke,take_length->bb,getElem?_eq_getElem->b_,mem_singleton->bO,map_append->ap,nodup_append->cJ,drop_of_length_le->qa,drop_eq_getElem_cons->tf,map_take->nC,map_drop->sV,foldl_cons->lr,take_of_length_le->wV,mem_of_mem_take->fA,append_assoc->cI,nodup_iff_pairwise_ne->p7,map_map->p6,mem_map_of_mem->kb,getElem_mem->ka,getElem?_of_mem->fN,take_append_drop->sS,foldl_append->ip,take_zero->sQ,length_filter_le->eG,filter_append->nA,filter_eq_nil_iff->wT,flatMap_append->wS,mem_flatMap->sP,getD_eq_getElem?_getD->sO,getElem_of_mem->wQ,flatMap_cons->wO,idxOf_lt_length_iff->pY
open Option.some renaming inj->fu
open PySem.W renaming instObj->rB,lookIn->CJ,plainGet->vR,hasDictIn->yT,findIn->dE,isFn->yS,plainOver->CI,makesIn->sK,emptyDict->oM,keepIn->iV,kitOne->CF,kia_one->jN,fnOf->i0,codeIn->nI,nsIn->cU,mg_of->io,mg_none_of->iX
open PySem.Heap renaming lt_size->bC,SameBut->gL,get?_push_of_some->cx,get?_push_size->dL,size_push->CH
open PyProof.Rows renaming AllBare->oN,callWith_type1->CK,IntsAre->tu
open Ne renaming symm->dF
open Array renaming length_toList->mZ
open False renaming elim->jO
open True renaming intro->iC
open PySem.Calls renaming spliced_cons->CD,callWith_builtin->tF
open Option renaming isSome_iff_exists->CA,map_some->tE,map_eq_some_iff->lq
open Int renaming toNat_natCast->lG,emod_nonneg->p9,emod_lt_of_pos->p8,eq_ofNat_of_zero_le->jy
open PySem.Obj renaming mapSeq->tG
open PySem.Paired renaming snoc->cr
open PySem.F renaming slot_dict_get->qd,entry_dict_get->xp,slot_dict_itemiterator_next->sZ,slot_dict_keyiterator_next->sW,plainAttrs_list->cp,slot_list_append->dQ,type_list_append->dP,slot_list_pop->pX,type_list_pop->pW
open ForInStep renaming yield->xn
open PySem.NameKind renaming free->lE
open Classical renaming byContradiction->tq
open PySem.SeqAt renaming EqAt->bq
open PySem.Builtin.Str renaming strSliceIndices->tm
open PySem.Txt renaming join->xi
open PySem.Heap.SameBut renaming update->qb
open PySem.Builtin.Dict renaming showsAll->xg
open PySem.Builtin.Dict_items renaming ownsTuple->s_
open PySem.Str renaming ofString->xa
open PySem.PassesOwn renaming never->bh
theorem Q0:0<=PySem.sizeLine:=by decide
theorem Q1:1<=PySem.sizeLine:=by decide
theorem Q2:2<=PySem.sizeLine:=by decide
theorem Q3:3<=PySem.sizeLine:=by decide
theorem Q4:4<=PySem.sizeLine:=by decide
theorem Q6:6<=PySem.sizeLine:=by decide
theorem zzr0{p:Prop}[Decidable p](h:¬p):decide p=false:=decide_eq_false h
theorem zzr1{p:Prop}[Decidable p](h:p):decide p=true:=decide_eq_true h
abbrev Za:=PySem.W.Frag
abbrev Zb:=List PySem.Str
abbrev Zc:=PySem.Value->PySem.Shared->Prop
abbrev Zd:=List (PySem.Addr×PySem.Obj)
abbrev Ze:=List PySem.Addr
abbrev Zf:=List PySem.Value
section
set_option Elab.async false
set_option linter.all false
set_option maxRecDepth 100000
set_option maxHeartbeats 4000000
namespace L2
open PySem PySem.Spec PyProof.Rows
open Sem (wp)
abbrev cz:=Sum Int Str
def dq:cz->Value->Bool
 |.inl k,v=>Value.isInt k v
 |.inr x,v=>Value.isStrOf x v
def JU(w:World):cz->Int
 |.inl k=>hashInt k
 |.inr x=>hashStr w x
theorem aD:∀{k:cz}{v:Value},dq k v=true->(∃i t,k=Sum.inl i/\v=Value.int i t)∨(∃x t,k=Sum.inr x/\v=Value.str x t)
 |.inl i,v,h=>by
  obtain⟨t,e⟩:=Value.isInt_shape (k:=i) (v:=v) h;exact .inl ⟨i,t,rfl,e⟩
 |.inr x,v,h=>by
  obtain⟨t,e⟩:=Value.isStrOf_shape (x:=x) (v:=v) h;exact .inr ⟨x,t,rfl,e⟩
theorem mG(i:Int)(t:Tok):dq (.inl i) (.int i t)=true:=by simp[dq,Value.isInt]
theorem mF(x:Str)(t:Tok):dq (.inr x) (.str x t)=true:=by simp[dq,Value.isStrOf]
theorem yj(a b:Int):decide ((Sum.inl a:cz)=Sum.inl b)=(a==b):=by
 by_cases e:a=b
 ·subst e;simp
 ·have h:¬(Sum.inl a:cz)=Sum.inl b:=fun q=>e (Sum.inl.inj q);rw[zzr0 h];exact(beq_eq_false_iff_ne.mpr e).symm
theorem yg(a b:Str):decide ((Sum.inr a:cz)=Sum.inr b)=decide (a=b):=by
 by_cases e:a=b
 ·subst e;simp
 ·have h:¬(Sum.inr a:cz)=Sum.inr b:=fun q=>e (Sum.inr.inj q);rw[zzr0 h,zzr0 e]
theorem yi(a:Int)(b:Str):decide ((Sum.inl a:cz)=Sum.inr b)=false:=zzr0 (fun q=>nomatch q)
theorem yh(a:Str)(b:Int):decide ((Sum.inr a:cz)=Sum.inl b)=false:=zzr0 (fun q=>nomatch q)
def bZ(prog:bV)(w:World):PySem.KeyKind prog w cz where
 is:=dq
 hash:=JU w
 inj:=fun v a b ha hb=>by
  rcases aD ha with⟨i,t,rfl,rfl⟩|⟨x,t,rfl,rfl⟩
  ·rcases aD hb with⟨j,u,rfl,e⟩|⟨y,u,rfl,e⟩
   ·injection e with e1 _;rw[e1]
   ·exact nomatch e
  ·rcases aD hb with⟨j,u,rfl,e⟩|⟨y,u,rfl,e⟩
   ·exact nomatch e
   ·injection e with e1 _;rw[e1]
 byValue:=fun k v h=>by
  rcases aD h with⟨i,t,rfl,rfl⟩|⟨x,t,rfl,rfl⟩<;>rfl
 pyHash:=fun hv h=>by
  rcases aD hv with⟨i,t,rfl,rfl⟩|⟨x,t,rfl,rfl⟩
  ·exact wpAny_pyHash_int h
  ·exact wpAny_pyHash_str h
 eqBool:=fun hu hv h=>by
  rcases aD hu with⟨i,t,rfl,rfl⟩|⟨x,t,rfl,rfl⟩
  ·rcases aD hv with⟨j,u,rfl,rfl⟩|⟨y,u,rfl,rfl⟩
   ·rw[yj]at h;exact wpAny_eqBool_int h
   ·rw[yi]at h;exact bq.int_str i t y u _ _ _ _ h
  ·rcases aD hv with⟨j,u,rfl,rfl⟩|⟨y,u,rfl,rfl⟩
   ·rw[yh]at h;exact bq.str_int x t j u _ _ _ _ h
   ·rw[yg]at h;exact wpAny_eqBool_str h
 «strs»:=fun k x t v h=>by
  rcases aD h with⟨i,u,rfl,e⟩|⟨y,u,rfl,e⟩
  ·exact nomatch e
  ·injection e with e1 _;subst e1;cases v<;>rfl
theorem Aa(a:bV)(w:World)(i:Int)(t:Tok):(bZ a w).is (.inl i) (.int i t)=true:=mG i t
theorem z_(a:bV)(w:World)(x:Str)(t:Tok):(bZ a w).is (.inr x) (.str x t)=true:=mF x t
end L2
namespace L2
open PySem PySem.Spec PyProof.Rows
open Sem (wp)
abbrev oy:=Option cz
def je:oy->Value->Bool
 |none,v=>match v with
  |.none=>true
  |_=>false
 |some k,v=>dq k v
def IJ(w:World):oy->Int
 |none=>Fi 4238894112
 |some k=>JU w k
theorem bT:∀{k:oy}{v:Value},je k v=true->(∃i t,k=some (Sum.inl i)/\v=Value.int i t)∨(∃x t,k=some (Sum.inr x)/\v=Value.str x t)∨(k=none/\v=Value.none)
 |none,v,h=>by
  refine .inr (.inr ⟨rfl,?_⟩);cases v<;>first|rfl|cases h
 |some k,v,h=>by
  rcases aD (show dq k v=true from h)with⟨i,t,rfl,rfl⟩|⟨i,t,rfl,rfl⟩
  ·exact .inl ⟨i,t,rfl,rfl⟩
  ·exact .inr (.inl ⟨i,t,rfl,rfl⟩)
theorem uB{a b:oy}{v:Value}(f:je a v=true)(g:je b v=true):a=b:=by
 rcases bT f with⟨i,t,rfl,rfl⟩|⟨i,t,rfl,rfl⟩|⟨rfl,rfl⟩<;>rcases bT g with⟨j,u,rfl,e⟩|⟨j,u,rfl,e⟩|⟨rfl,e⟩<;>first|rfl|(cases e;rfl)|cases e
def z9(prog:bV)(w:World):PySem.KeyKind prog w oy where
 is:=je
 hash:=IJ w
 inj:=fun v a b ha hb=>uB ha hb
 byValue:=fun k v h=>by
  rcases bT h with⟨i,t,rfl,rfl⟩|⟨x,t,rfl,rfl⟩|⟨rfl,rfl⟩<;>rfl
 pyHash:=fun{A E s k v Q} hv h=>by
  rcases bT hv with⟨i,t,rfl,rfl⟩|⟨x,t,rfl,rfl⟩|⟨rfl,rfl⟩
  ·exact wpAny_pyHash_int h
  ·exact wpAny_pyHash_str h
  ·refine PySem.W.pyHash_slot (T:="NoneType") rfl F.slot_NoneType_hash F.entry_NoneType_hash (F.args_NoneType_hash_1 _) (by rw[beq_builtin_none]) (.inl rfl) ?_;show wpAny _ _ (retInt 4238894112) _ _ _;refine oO (wpAny_ret_mkInt (Q:=fun v s'=>∃n t,v=Value.int n t/\Q (Fi n) s') ⟨_,_,rfl,h⟩) (fun fin s' ⟨v,e,n,t,e2,q⟩=>⟨n,t,by rw[e,e2],q⟩) (fun _ _ z=>z)
 eqBool:=fun{A E s a b u v Q} hu hv h=>by
  rcases bT hu with⟨i,t,rfl,rfl⟩|⟨x,t,rfl,rfl⟩|⟨rfl,rfl⟩
  ·rcases bT hv with⟨j,u,rfl,rfl⟩|⟨y,u,rfl,rfl⟩|⟨rfl,rfl⟩
   ·exact(bZ prog w).eqBool (a:=.inl i) (b:=.inl j) (mG i t) (mG j u) (by rw[show decide ((Sum.inl i:cz)=Sum.inl j)=decide ((some (Sum.inl i):oy)=some (Sum.inl j))from decide_eq_decide.mpr ⟨fun z=>by rw[z],fun z=>by injection z⟩];exact h)
   ·rw[zzr0 (by intro z;injection z with z;cases z)]at h;exact bq.int_str i t y u _ _ _ _ h
   ·rw[zzr0 (by intro z;cases z)]at h;exact bq.int_none i t _ _ _ _ h
  ·rcases bT hv with⟨j,u,rfl,rfl⟩|⟨y,u,rfl,rfl⟩|⟨rfl,rfl⟩
   ·rw[zzr0 (by intro z;injection z with z;cases z)]at h;exact bq.str_int x t j u _ _ _ _ h
   ·exact(bZ prog w).eqBool (a:=.inr x) (b:=.inr y) (mF x t) (mF y u) (by rw[show decide ((Sum.inr x:cz)=Sum.inr y)=decide ((some (Sum.inr x):oy)=some (Sum.inr y))from decide_eq_decide.mpr ⟨fun z=>by rw[z],fun z=>by injection z⟩];exact h)
   ·rw[zzr0 (by intro z;cases z)]at h;exact bq.str_none x t _ _ _ _ h
  ·rcases bT hv with⟨j,u,rfl,rfl⟩|⟨y,u,rfl,rfl⟩|⟨rfl,rfl⟩
   ·rw[zzr0 (by intro z;cases z)]at h;exact bq.none_int j u _ _ _ _ h
   ·rw[zzr0 (by intro z;cases z)]at h;exact bq.none_str y u _ _ _ _ h
   ·rw[zzr1 rfl]at h;exact bq.same _ _ _ _ _ h
 «strs»:=fun k x t v h=>by
  rcases bT h with⟨i,u,rfl,e⟩|⟨y,u,rfl,e⟩|⟨rfl,e⟩
  ·exact nomatch e
  ·injection e with e1 _;subst e1;cases v<;>rfl
  ·exact nomatch e
inductive TK where
 |k (a:oy)
 |t (l:List TK)
mutual
def IT:(x y:TK)->Decidable (x=y)
 |.k a,.k b=>if h:a=b then Decidable.isTrue (by rw[h])else Decidable.isFalse fun e=>h (by injection e)
 |.t l,.t m=>match decTKs l m with
  |Decidable.isTrue h=>Decidable.isTrue (by rw[h])
  |Decidable.isFalse h=>Decidable.isFalse fun e=>h (by injection e)
 |.k _,.t _=>Decidable.isFalse nofun
 |.t _,.k _=>Decidable.isFalse nofun
def decTKs:(x y:List TK)->Decidable (x=y)
 |[],[]=>Decidable.isTrue rfl
 |[],_::_=>Decidable.isFalse nofun
 |_::_,[]=>Decidable.isFalse nofun
 |a::l,b::m=>match IT a b with
  |Decidable.isTrue h=>match decTKs l m with
   |Decidable.isTrue h'=>Decidable.isTrue (by rw[h,h'])
   |Decidable.isFalse h'=>Decidable.isFalse fun e=>h' (by injection e)
  |Decidable.isFalse h=>Decidable.isFalse fun e=>h (by injection e)
end
instance:DecidableEq TK:=IT
mutual
def TK.depth:TK->Nat
 |.k _=>0
 |.t l=>TK.depths l+1
def TK.depths:List TK->Nat
 |[]=>0
 |a::r=>max (TK.depth a) (TK.depths r)
end
mutual
def TK.hash(w:World):TK->Int
 |.k a=>IJ w a
 |.t l=>Fi (AS (TK.hashs w l))
def TK.hashs(w:World):List TK->List Int
 |[]=>[]
 |a::r=>TK.hash w a::TK.hashs w r
end
mutual
def TK.draws:TK->Nat
 |.k _=>1
 |.t l=>TK.drawss l+1
def TK.drawss:List TK->Nat
 |[]=>0
 |a::r=>TK.draws a+TK.drawss r
end
mutual
def mT(h:Heap):TK->Value->Prop
 |.k a,v=>je a v=true
 |.t l,v=>∃a o items n,v=.ref a/\h.get? a=some o/\o.cls=.type "tuple"/\o.data=.seq items n/\TAts h l items.toList
def TAts(h:Heap):List TK->List Value->Prop
 |[],vs=>vs=[]
 |k::r,vs=>∃v us,vs=v::us/\mT h k v/\TAts h r us
end
theorem mT.inj{h:Heap}:∀(d:Nat) {x y:TK}{v:Value},x.depth<=d->mT h x v->mT h y v->x=y:=by
 have A:∀(d:Nat) (w:∀{x y:TK}{v:Value},x.depth<=d->mT h x v->mT h y v->x=y) (p j:List TK) (q:Zf),TK.depths p<=d->TAts h p q->TAts h j q->p=j:=by
  intro d w p
  induction p with
  |nil =>
   intro j q _ g f;have B:q=[]:=g;subst B;cases j with
   |nil=>rfl
   |cons y j=>obtain⟨_,_,e,_⟩:=f;cases e
  |cons x p C =>
   intro j q r g f;obtain⟨v,N,rfl,D,E⟩:=g;cases j with
   |nil=>have G:v::N=[]:=f;cases G
   |cons y j =>
    obtain⟨v',Q,e,H,I⟩:=f;cases e;have T:max x.depth (TK.depths p)<=d:=r;rw[w (by omega) D H,C j N (by omega) E I]
 have i:∀(a:oy) (l:List TK) (v:Value),mT h (.k a) v->mT h (.t l) v->False:=by
  intro a l v s J;obtain⟨b,o,items,n,rfl,_⟩:=J;rcases bT (show je a (.ref b)=true from s)with⟨_,_,_,e⟩|⟨_,_,_,e⟩|⟨_,e⟩<;>cases e
 have O:∀(a b:oy) (v:Value),je a v=true->je b v=true->a=b:=fun a b v s J=>uB s J;intro d
 induction d with
 |zero =>
  intro x y v r g f;cases x with
  |t l=>exact absurd r (by show ¬(TK.depths l+1<=0);omega)
  |k a =>
   cases y with
   |k b=>rw[O a b v g f]
   |t l=>exact(i a l v g f).elim
 |succ d w =>
  intro x y v r g f;cases x with
  |k a =>
   cases y with
   |k b=>rw[O a b v g f]
   |t l=>exact(i a l v g f).elim
  |t l =>
   cases y with
   |k b=>exact(i b l v f g).elim
   |t U =>
    obtain⟨a,o,items,n,rfl,Y,hc,L,hi⟩:=g;obtain⟨a',o',z,n',e,u,al,m,M⟩:=f;cases e;rw[Y]at u;cases u;rw[L]at m;injection m with e1 _;subst e1;rw[A d (fun s=>w s) l U items.toList (by have:TK.depths l+1<=d+1:=r;omega) hi M]
theorem mT.mono{h j:Heap}(k:∀a o items n,h.get? a=some o->o.cls=.type "tuple"->o.data=.seq items n->j.get? a=some o):∀(d:Nat) {x:TK}{v:Value},x.depth<=d->mT h x v->mT j x v:=by
 have q:∀(d:Nat) (m:∀{x:TK}{v:Value},x.depth<=d->mT h x v->mT j x v) (f:List TK) (p:Zf),TK.depths f<=d->TAts h f p->TAts j f p:=by
  intro d m f
  induction f with
  |nil=>intro p _ e;exact e
  |cons x f r =>
   intro p g e;obtain⟨v,w,rfl,s,u⟩:=e;have z:max x.depth (TK.depths f)<=d:=g;exact⟨v,w,rfl,m (by omega) s,r w (by omega) u⟩
 intro d
 induction d with
 |zero =>
  intro x v g e;cases x with
  |t l=>exact absurd g (by show ¬(TK.depths l+1<=0);omega)
  |k a=>exact e
 |succ d m =>
  intro x v g e;cases x with
  |k a=>exact e
  |t l =>
   obtain⟨a,o,items,n,rfl,A,y,i,B⟩:=e;exact⟨a,o,items,n,rfl,k a o items n A y i,y,i,q d (fun C=>m C) l _ (by have:TK.depths l+1<=d+1:=g;omega) B⟩
section
variable{prog:bV}{w:World}
theorem Hl:∀(d:Nat) {A:Around}{E:Zc}{s:Shared}{k:TK}{v:Value}{Q:Int->Shared->Prop},k.depth<=d->A.units+d<cLine->mT s.heap k v->Q (k.hash w) { s with toks:=s.toks+k.draws } ->
  wpAny (model prog w) A (pyHash v) Q E s:=by
 intro d
 induction d with
 |zero =>
  intro A E s k v Q C hu u h;cases k with
  |t l=>exact absurd C (by show ¬(TK.depths l+1<=0);omega)
  |k a=>exact(z9 prog w).pyHash (k:=a) u h
 |succ d ih =>
  intro A E s k v Q C hu u h;cases k with
  |k a=>exact(z9 prog w).pyHash (k:=a) u h
  |t l =>
   obtain⟨a,o,items,n,rfl,U,hc,D,hi⟩:=u;have y:s.TypeIs (.ref a) "tuple":=⟨o,U,hc⟩;have G:TK.depths l<=d:=by have:TK.depths l+1<=d+1:=C;omega
   unfold pyHash
   first|unfold pyHashByItsType|skip
   first|refine aq (wpAny_cRoomFor_or (.inr (by omega)) ?_)|skip
   refine aq (Hh y F.slot_tuple_hash.lookup ?_);show wpAny _ _ (if(some (Value.builtin "tuple.__hash__")==some Value.none)=true then _ else _) Q E s
   rw[if_neg (by rw[beq_builtin_none];exact h7)];refine aq (Hh y F.slot_tuple_hash.lookup ?_);show wpAny _ _ (callSpecialIfBoundUnlessNone? (.ref a) "__hash__" _ >>= _) Q E s;refine aq (wpAny_callSpecialIfBoundUnlessNone?_slot y F.slot_tuple_hash (wN F.slot_tuple_hash y F.entry_tuple_hash ?_ (F.args_tuple_hash_1 _)));show wpAny _ _ (cV.Tuple.tupleItemsOf (.ref a) >>= _) _ _ s;refine aq (wpAny_tupleItemsOf U D ?_);refine aq ?_;rw[<-Array.forIn_toList];refine wpAny_forIn_list _
    (fun g (b:Array Int) H=>∃done left,l=done++left/\TAts s.heap left g/\b.toList=TK.hashs w done/\H={ s with toks:=s.toks+TK.drawss done })
    _ ?_ ?_ _ _ ⟨[],l,rfl,hi,rfl,rfl⟩
   ·rintro x g b H ⟨done,left,e,z,j,rfl⟩;cases left with
    |nil=>have I:x::g=[]:=z;cases I
    |cons f left =>
     obtain⟨x',J,L,h1,Y⟩:=z;cases L;have M:f.depth<=d:=by
      have gen:∀(p:List TK),TK.depths (p++f::left)<=d->f.depth<=d:=by
       intro p
       induction p with
       |nil=>intro N;have O:max f.depth (TK.depths left)<=d:=N;omega
       |cons q p i=>intro N;have O:max q.depth (TK.depths (p++f::left))<=d:=N;exact i (by omega)
      exact gen done (by rw[<-e];exact G)
     have T:TK.hashs w (done++[f])=TK.hashs w done++[f.hash w]:=by
      clear e j
      induction done with
      |nil=>rfl
      |cons q p i=>show _::TK.hashs w (p++[f])=_;rw[i];rfl
     have m:TK.drawss (done++[f])=TK.drawss done+f.draws:=by
      clear e j T
      induction done with
      |nil=>show f.draws+0=0+f.draws;omega
      |cons q p i=>show q.draws+TK.drawss (p++[f])=q.draws+TK.drawss p+f.draws;rw[i];omega
     refine aq (ih (k:=f) M (by show A.units+1+d<cLine;omega) h1 ?_)
     first
      |exact aV ⟨done++[f],left,by rw[e];simp,Y,by rw[T];simp[j],by rw[m];simp[Fh]⟩
      |exact aq (aV (aV ⟨done++[f],left,by rw[e];simp,Y,by rw[T];simp[j],by rw[m];simp[Fh]⟩))
   ·rintro b H ⟨done,left,e,z,j,rfl⟩;cases left with
    |cons f left=>obtain⟨_,_,L,_⟩:=z;cases L
    |nil =>
     rw[dh]at e;subst e;show wpAny _ _ (retInt (AS b.toList)) _ _ _;rw[j];refine wpAny_ret_mkInt ?_;have r:Q (Fi (AS (TK.hashs w l))) { s with toks:=s.toks+(TK.drawss l+1) }:=h;show wpAny _ _ (if(decide (-(2:Int) ^ 63<=AS (TK.hashs w l)) && decide (AS (TK.hashs w l)<2 ^ 63))=true then _ else _) Q E _
     unfold Fi at r;by_cases B:(decide (-(2:Int) ^ 63<=AS (TK.hashs w l)) && decide (AS (TK.hashs w l)<2 ^ 63))=true
     ·rw[if_pos B];rw[if_pos B]at r;exact aV (by simpa[Fh]using r)
     ·rw[if_neg B];rw[if_neg B]at r;exact aq (yW (aV (by simpa[Fh]using r)))
theorem DN(d:Nat)(ih:∀{A:Around}{E:Zc}{s:Shared}{x y:TK}{u v:Value}{Q:Bool->Shared->Prop},x.depth<=d->y.depth<=d->A.units+d<cLine->mT s.heap x u->mT s.heap y v->Q (decide (x=y)) s->wpAny (model prog w) A (eqBool u v) Q E s)
  {A:Around}{E:Zc}{s:Shared}{x y:List TK}{a b:Addr}{P:Fin->Shared->Prop}{oa L:Obj}{q t:Array Value}{na nb:Nat}(hx:TK.depths x<=d) (hy:TK.depths y<=d) (hu:A.units+d<cLine)
  (N:s.heap.get? a=some oa) (O:oa.data=.seq q na) (T:TAts s.heap x q.toList) (B:s.heap.get? b=some L) (U:L.cls=.type "tuple") (Y:L.data=.seq t nb) (al:TAts s.heap y t.toList)
  (h:P (.done (.ret (.bool (decide (x=y))))) s):wpAny (model prog w) A (cV.«tuple.__eq__» ⟨[.ref a,.ref b],[]⟩) P E s:=by
 have an:s.TypeIs (.ref b) "tuple":=⟨L,B,U⟩;show wpAny _ _ (isInstance (.ref b) (.type "tuple") >>= _) _ _ s;refine aq (CQ an isSubtype_tuple_tuple ?_);simp only[CP,lB,if_false];refine aq (wpAny_tupleItemsOf N O ?_);refine aq (wpAny_tupleItemsOf B Y ?_);refine aq ?_;refine wpAny_forIn_list _
  (fun l r M=>r.1=none/\M=s/\∃n m xs' f,l=List.zip xs' f/\TAts s.heap n xs'/\TAts s.heap m f/\TK.depths n<=d/\TK.depths m<=d/\decide (n=m)=decide (x=y)/\(xs'.length==f.length)=(q.size==t.size))
  _ ?_ ?_ _ _ ⟨rfl,rfl,x,y,q.toList,t.toList,rfl,T,al,hx,hy,rfl,by simp⟩
 ·rintro⟨u,v⟩ l r M ⟨hr,rfl,n,m,xs',f,z,j,g,dx,dy,i,k⟩;cases n with
  |nil =>
   have e:xs'=[]:=j;subst e;simp at z
  |cons k1 o =>
   obtain⟨u',C,rfl,h1,D⟩:=j;cases m with
   |nil =>
    have e:f=[]:=g;subst e;simp at z
   |cons k2 p =>
    obtain⟨v',G,rfl,h2,H⟩:=g;simp only[List.zip_cons_cons,List.cons.injEq,Prod.mk.injEq]at z;obtain⟨⟨rfl,rfl⟩,rfl⟩:=z;have as:max k1.depth (TK.depths o)<=d:=dx;have aC:max k2.depth (TK.depths p)<=d:=dy;refine aq (ih (x:=k1) (y:=k2) (by omega) (by omega) hu h1 h2 ?_);by_cases hk:k1=k2
    ·subst hk;rw[zzr1 rfl];simp only[CP,lB,if_false];refine aV ⟨rfl,rfl,o,p,C,G,rfl,D,H,by omega,by omega,?_,by simpa using k⟩;rw[<-i];by_cases I:o=p
     ·simp[I]
     ·simp[I]
    ·rw[zzr0 hk];simp only[Bool.not_false,if_true];have hf:decide (x=y)=false:=by rw[<-i];simp[hk]
     rw[hf]at h;exact aq (aV (aV (aV h)))
 ·rintro⟨r1,r2⟩ M ⟨hr,rfl,n,m,xs',f,z,j,g,dx,dy,i,k⟩;simp only at hr;subst hr;refine aV ?_;have J:(q.size==t.size)=decide (x=y):=by
   rw[<-i,<-k];cases n with
   |nil =>
    have e:xs'=[]:=j;subst e;cases m with
    |nil=>have e:f=[]:=g;subst e;simp
    |cons _ _=>obtain⟨_,_,rfl,_⟩:=g;simp
   |cons _ _ =>
    obtain⟨_,_,rfl,_⟩:=j;cases m with
    |nil=>have e:f=[]:=g;subst e;simp
    |cons _ _=>obtain⟨_,_,rfl,_⟩:=g;simp at z
  show P (.done (.ret (.bool (q.size==t.size)))) M;rw[J];exact h
theorem JJ:∀(d:Nat) {A:Around}{E:Zc}{s:Shared}{x y:TK}{u v:Value}{Q:Bool->Shared->Prop},x.depth<=d->y.depth<=d->A.units+d<cLine->mT s.heap x u->mT s.heap y v->Q (decide (x=y)) s ->
  wpAny (model prog w) A (eqBool u v) Q E s:=by
 have j:∀{A:Around}{E:Zc}{s:Shared}{a:oy}{l:List TK}{u v:Value}{Q:Bool->Shared->Prop},A.units<cLine->mT s.heap (.k a) u->mT s.heap (.t l) v->Q false s->wpAny (model prog w) A (eqBool u v) Q E s:=by
  intro A E s a l u v Q p f g h;obtain⟨b,o,items,n,rfl,M,N,r,hi⟩:=g;have B:s.heap.IsTuple b items:=⟨o,M,N,n,r⟩;rcases bT (show je a u=true from f)with⟨i,t,rfl,rfl⟩|⟨i,t,rfl,rfl⟩|⟨rfl,rfl⟩
  ·exact bq.int_tuple i t B p prog w E Q h
  ·exact bq.str_tuple i t B p prog w E Q h
  ·exact bq.none_tuple B p prog w E Q h
 have q:∀{A:Around}{E:Zc}{s:Shared}{a:oy}{l:List TK}{u v:Value}{Q:Bool->Shared->Prop},A.units<cLine->mT s.heap (.t l) u->mT s.heap (.k a) v->Q false s->wpAny (model prog w) A (eqBool u v) Q E s:=by
  intro A E s a l u v Q p f g h;obtain⟨b,o,items,n,rfl,M,N,r,hi⟩:=f;have B:s.heap.IsTuple b items:=⟨o,M,N,n,r⟩;rcases bT (show je a v=true from g)with⟨i,t,rfl,rfl⟩|⟨i,t,rfl,rfl⟩|⟨rfl,rfl⟩
  ·exact bq.tuple_int i t B p prog w E Q h
  ·exact bq.tuple_str i t B p prog w E Q h
  ·exact bq.tuple_none B p prog w E Q h
 have leaves:∀{A:Around}{E:Zc}{s:Shared}{a b:oy}{u v:Value}{Q:Bool->Shared->Prop},mT s.heap (.k a) u->mT s.heap (.k b) v->Q (decide (TK.k a=TK.k b)) s->wpAny (model prog w) A (eqBool u v) Q E s:=by
  intro A E s a b u v Q f g h;refine(z9 prog w).eqBool (a:=a) (b:=b) f g ?_;by_cases e:a=b
  ·subst e;simpa using h
  ·have:¬(TK.k a=TK.k b):=fun z=>e (by injection z);rw[zzr0 this]at h;rw[zzr0 e];exact h
 intro d
 induction d with
 |zero =>
  intro A E s x y u v Q C D p f g h;cases x with
  |t l=>exact absurd C (by show ¬(TK.depths l+1<=0);omega)
  |k a =>
   cases y with
   |t l=>exact absurd D (by show ¬(TK.depths l+1<=0);omega)
   |k b=>exact leaves f g h
 |succ d ih =>
  intro A E s x y u v Q C D p f g h;cases x with
  |k a =>
   cases y with
   |k b=>exact leaves f g h
   |t l =>
    rw[zzr0 (by intro z;cases z)]at h;exact j (by omega) f g h
  |t l =>
   cases y with
   |k b =>
    rw[zzr0 (by intro z;cases z)]at h;exact q (by omega) f g h
   |t m =>
    have hl:TK.depths l<=d:=by have:TK.depths l+1<=d+1:=C;omega
    have hm:TK.depths m<=d:=by have:TK.depths m+1<=d+1:=D;omega
    have O:=f;have T:=g;obtain⟨a,oa,xs,na,rfl,H,U,Y,al⟩:=f;obtain⟨b,ob,ys,nb,rfl,I,J,an,as⟩:=g;have L:s.TypeIs (.ref a) "tuple":=⟨oa,H,U⟩;have aC:s.TypeIs (.ref b) "tuple":=⟨ob,I,J⟩;have aF:decide (TK.t l=TK.t m)=decide (l=m):=by
     by_cases e:l=m
     ·subst e;simp
     ·have:¬(TK.t l=TK.t m):=fun z=>e (by injection z);rw[zzr0 this,zzr0 e]
    unfold eqBool
    try with_reducible refine lA ?_
    show wpAny _ _ (if(Value.ref a==Value.ref b)=true then _ else _) Q E s
    by_cases G:(Value.ref a==Value.ref b)=true
    ·rw[if_pos G];have e:a=b:=by have:=eq_of_beq G;injection this
     subst e;have e2:TK.t l=TK.t m:=mT.inj _ (aG _) O T;rw[zzr1 e2]at h;exact aq (yW (aV h))
    ·rw[if_neg G];rw[aF]at h;exact aq (wpAny_richCompare_same_room (op:=.Eq) L aC F.slot_tuple_eq
      (wN F.slot_tuple_eq L F.entry_tuple_eq (DN d (fun h1 h2 h3 h4 h5 h6=>ih h1 h2 h3 h4 h5 h6) hl hm (by show A.units+1+d<cLine;omega) H Y al I J an as ⟨_,rfl,(fun e=>nomatch e),sX h⟩) (F.args_tuple_eq_2 _ _)) (by omega))
theorem Fq:∀(d:Nat) {A:Around}{E:Zc}{s:Shared}{k:TK}{v:Value}{Q:Bool->Shared->Prop},k.depth<=d->mT s.heap k v->Q true s->wpAny (model prog w) A (eqIsQuiet d v) Q E s:=by
 intro d
 induction d with
 |zero =>
  intro A E s k v Q j i h;cases k with
  |t l=>exact absurd j (by show ¬(TK.depths l+1<=0);omega)
  |k a=>rw[eqIsQuiet_byValue _ ((z9 prog w).byValue a v i)];exact aV h
 |succ d D =>
  intro A E s k v Q j i h;cases k with
  |k a=>rw[eqIsQuiet_byValue _ ((z9 prog w).byValue a v i)];exact aV h
  |t l =>
   have G:TK.depths l<=d:=by have:TK.depths l+1<=d+1:=j;omega
   obtain⟨a,o,items,n,rfl,y,H,m,I⟩:=i;have z:s.TypeIs (.ref a) "tuple":=⟨o,y,H⟩;unfold eqIsQuiet;refine aq (Hh z F.slot_tuple_eq.lookup ?_);show wpAny _ _ (isInstance (.ref a) (.type "tuple") >>= _) _ _ s;refine aq (CQ z isSubtype_tuple_tuple ?_);simp only[CP,lB,if_false];refine aq (wpAny_seqItems y m ?_);refine aq ?_;show wpAny _ _ (forIn items _ _) _ _ s;rw[<-Array.forIn_toList];refine wpAny_forIn_list _ (fun f r p=>r.1=none/\p=s/\∃left,TAts s.heap left f/\TK.depths left<=d) _ ?_ ?_ _ _ ⟨rfl,rfl,l,I,G⟩
   ·rintro v f r p ⟨q,rfl,left,g,u⟩;cases left with
    |nil=>have e:v::f=[]:=g;cases e
    |cons B left =>
     obtain⟨M,x,e,J,L⟩:=g;cases e;have C:max B.depth (TK.depths left)<=d:=u;refine aq (D (k:=B) (by omega) J ?_);simp only[CP,lB,if_false];exact aV ⟨rfl,rfl,left,L,by omega⟩
   ·rintro⟨N,O⟩ p ⟨q,rfl,_⟩;simp only at q;subst q;exact aV h
def eA(prog:bV)(w:World):HeapKind prog w TK where
 is:=fun h k a=>mT h k (.ref a)/\k.depth<=8
 hash:=TK.hash w
 draws:=TK.draws
 room:=fun A=>A.units+8<cLine
 inj:=fun hx hy=>mT.inj 8 hx.2 hx.1 hy.1
 keeps:=fun{h h' k a d o es ep} x ho hd hs=>⟨mT.mono (fun b ob items n hb _ hdb=>(hs.2 b fun e=>by
  subst e;rw[ho]at hb;cases hb;rw[hd]at hdb;cases hdb).trans hb) 8 x.2 x.1,x.2⟩
 pyHash:=fun hu hk h=>Hl 8 hk.2 hu hk.1 h
 eqBool:=fun hu hx hy h=>JJ 8 hx.2 hy.2 hu hx.1 hy.1 h
 quiet:=fun hk h=>Fq 8 hk.2 hk.1 h
end
end L2
namespace L2
open PySem PySem.Spec PyProof.Rows
inductive V where
 |non|bl (b:Bool)|int (i:Int)|str (x:Str)|byt (b:Array UInt8)|flt (b:UInt64)|ref (a:Addr)|ty (n:String)
 deriving DecidableEq
def RelV:V->Value->Prop
 |.non,u=>u=Value.none
 |.bl b,u=>u=Value.bool b
 |.int i,u=>∃t,u=Value.int i t
 |.str x,u=>∃t,u=Value.str x t
 |.byt b,u=>∃t,u=Value.bytes b t
 |.flt b,u=>∃t,u=Value.float b t
 |.ref a,u=>u=Value.ref a
 |.ty n,u=>u=Value.type n
abbrev bg:List V->List Value->Prop:=Paired RelV
theorem bg.length{a:List V}{e:Zf}(r:bg a e):a.length=e.length:=Paired.length r
theorem bg.get:∀{a:List V}{f:Zf}{i:Nat}{x:V},bg a f->a[i]?=some x->∃u,f[i]?=some u/\RelV x u
 |_,_,_,_,.nil,e=>by simp at e
 |_,_,0,_,.cons r _,e=>by simp at e;subst e;exact⟨_,rfl,r⟩
 |_,_,i+1,x,.cons _ t,e=>by
  obtain⟨u,g,h⟩:=bg.get (i:=i) (x:=x) t (by simpa using e);exact⟨u,by simpa using g,h⟩
theorem bg.set{x:V}{u:Value}(r:RelV x u):∀{a:List V}{e:Zf}(i:Nat),bg a e->bg (a.set i x) (e.set i u)
 |_,_,_,.nil=>.nil
 |_,_,0,.cons _ t=>.cons r t
 |_,_,i+1,.cons q t=>.cons q (bg.set r i t)
theorem bg.append:∀{a e:List V}{f g:Zf},bg a f->bg e g->bg (a++e) (f++g)
 |_,_,_,_,.nil,s=>s
 |_,_,_,_,.cons r t,s=>.cons r (bg.append t s)
theorem bg.take:∀{a:List V}{e:Zf}(n:Nat),bg a e->bg (a.take n) (e.take n)
 |_,_,0,_=>.nil
 |_,_,_+1,.nil=>.nil
 |_,_,n+1,.cons r t=>.cons r (bg.take n t)
theorem bg.drop:∀{a:List V}{e:Zf}(n:Nat),bg a e->bg (a.drop n) (e.drop n)
 |_,_,0,r=>r
 |_,_,_+1,.nil=>.nil
 |_,_,n+1,.cons _ t=>bg.drop n t
def lb:Option V->Option Value->Prop
 |some v,some u=>RelV v u
 |none,none=>True
 |_,_=>False
def KV{κ:Type}:List (κ×V)->List (κ×Value)->Prop:=Paired fun(p:κ×V) (q:κ×Value)=>p.1=q.1/\RelV p.2 q.2
def kV:cz->V
 |.inl i=>.int i
 |.inr x=>.str x
def IK:oy->V
 |none=>.non
 |some k=>kV k
inductive HO where
 |lst (xs:List V)
 |tup (xs:List V)
 |dK (kvs:List (cz×V))|dT (kvs:List (TK×V))
 |set (S:Int->Bool) (n:Nat)
 |ins (C dx:Addr) (fs:List (Str×V))
 |own (x:Addr)
 |xd (fs:List (Str×V))
 |met (f x:Addr)
 |rng (lo hi:Int)
 |frz (o:Obj) (u:HO)
 |tbl (ps:Array Value)
 |ext (φ:Heap->Prop)
abbrev Hp:=Addr->Option HO
mutual
def dJ(H:Hp):TK->V->Prop
 |.k a,v=>v=IK a
 |.t l,v=>∃b xs,v=.ref b/\H b=some (.tup xs)/\TKAts H l xs
def TKAts(H:Hp):List TK->List V->Prop
 |[],vs=>vs=[]
 |k::r,vs=>∃v us,vs=v::us/\dJ H k v/\TKAts H r us
end
def aW(K:Za)(H:Hp)(a:Addr)(xs:List V):Prop :=
 H a=some (.tup xs)∨∃(o:Obj) (its:Array Value) (n:Nat),K.lookup a=some o/\o.cls=.type "tuple"/\o.data=.seq its n/\its.size<=ak/\bg xs its.toList
theorem aW.keeps{K:Za}{H e:Hp}{a:Addr}{xs:List V}(h:aW K H a xs)(f:∀b xs,H b=some (.tup xs)->e b=some (.tup xs)):aW K e a xs:=h.imp (f a xs) id
mutual
def oe(K:Za)(H:Hp):TK->V->Prop
 |.k a,v=>v=IK a
 |.t l,v=>∃b xs,v=.ref b/\aW K H b xs/\TKCs K H l xs
def TKCs(K:Za)(H:Hp):List TK->List V->Prop
 |[],vs=>vs=[]
 |k::r,vs=>∃v us,vs=v::us/\oe K H k v/\TKCs K H r us
end
theorem oe.keeps{K:Za}{H g:Hp}(q:∀b xs,H b=some (.tup xs)->g b=some (.tup xs)):∀(d:Nat) {k:TK}{v:V},k.depth<=d->oe K H k v->oe K g k v:=by
 have j:∀(d:Nat) (h:∀{k:TK}{v:V},k.depth<=d->oe K H k v->oe K g k v) (xs:List TK) (i:List V),TK.depths xs<=d->TKCs K H xs i->TKCs K g xs i:=by
  intro d h xs
  induction xs with
  |nil=>intro i _ e;exact e
  |cons x xs m =>
   intro i f e;obtain⟨v,p,rfl,n,o⟩:=e;have r:max x.depth (TK.depths xs)<=d:=f;exact⟨v,p,rfl,h (by omega) n,m p (by omega) o⟩
 intro d
 induction d with
 |zero =>
  intro k v f e;cases k with
  |t l=>exact absurd f (by show ¬(TK.depths l+1<=0);omega)
  |k a=>exact e
 |succ d h =>
  intro k v f e;cases k with
  |k a=>exact e
  |t l =>
   obtain⟨b,xs,rfl,s,u⟩:=e;exact⟨b,xs,rfl,s.keeps q,j d (fun w=>h w) l xs (by have:TK.depths l+1<=d+1:=f;omega) u⟩
theorem dJ.c{K:Za}{H:Hp}:∀(d:Nat) {k:TK}{v:V},k.depth<=d->dJ H k v->oe K H k v:=by
 have j:∀(d:Nat) (h:∀{k:TK}{v:V},k.depth<=d->dJ H k v->oe K H k v) (e:List TK) (i:List V),TK.depths e<=d->TKAts H e i->TKCs K H e i:=by
  intro d h e
  induction e with
  |nil=>intro i _ f;exact f
  |cons x e m =>
   intro i g f;obtain⟨v,p,rfl,n,o⟩:=f;have q:max x.depth (TK.depths e)<=d:=g;exact⟨v,p,rfl,h (by omega) n,m p (by omega) o⟩
 intro d
 induction d with
 |zero =>
  intro k v g f;cases k with
  |t l=>exact absurd g (by show ¬(TK.depths l+1<=0);omega)
  |k a=>exact f
 |succ d h =>
  intro k v g f;cases k with
  |k a=>exact f
  |t l =>
   obtain⟨b,e,rfl,r,s⟩:=f;exact⟨b,e,rfl,.inl r,j d (fun u=>h u) l e (by have:TK.depths l+1<=d+1:=g;omega) s⟩
def upd(H:Hp)(a:Addr)(o:HO):Hp:=fun b=>if b=a then some o else H b
theorem aa{H:Hp}{a:Addr}{o:HO}:upd H a o a=some o:=by unfold upd;rw[if_pos rfl]
theorem ag{H:Hp}{a b:Addr}{o:HO}(h:b≠a):upd H a o b=H b:=by unfold upd;rw[if_neg h]
theorem sn{H:Hp}{a:Addr}{o u:HO}:upd (upd H a o) a u=upd H a u:=by
 funext b;unfold upd;split<;>rfl
theorem Di{H:Hp}{a b:Addr}{o u:HO}(h:H a=some o)(f:H b=some u)(d:o≠u):a≠b:=by
 intro e;subst e;rw[h]at f;exact d (fu f)
theorem ae{H:Hp}{a b:Addr}{o:HO}(h:H a=some o)(f:H b=none):a≠b:=by
 intro e;subst e;rw[h]at f;cases f
section
variable(P:bV)(w:World)(K:Za)
def bS(H:Hp)(h:Heap)(a:Addr):HO->Prop
 |.lst xs=>xs.length<=ak/\∃(its:Zf) (n:Nat),bg xs its/\h.get? a=some { cls:=.type "list",data:=.seq its.toArray n }
 |.tup xs=>xs.length<=ak/\∃its:List Value,bg xs its/\IsTup h a its.toArray
 |.dK kvs=>kvs.length<=ak/\(a==gb)=false/\∃vs,KV kvs vs/\h.DictOf (bZ P w) a vs
 |.dT kvs=>kvs.length<=ak/\(a==gb)=false/\∃xs:List (TK×Addr×Value),
   Paired (fun(p:TK×V) (q:TK×Addr×Value)=>p.1=q.1/\oe K H p.1 (.ref q.2.1)/\p.1.depth<=8/\RelV p.2 q.2.2) kvs xs /\
   ∃o es ep,h.get? a=some o/\o.ExactDict/\o.data=.dict es ep/\es.toList=xs.map (entryOfKey (eA P w))/\(xs.map (·.1)).Nodup
 |.set S n=>h.SetOf (intKind P w) a S n
 |.ins C dx fs=>H dx=some (.own a)/\fs.length<=1000/\dx≠a/\h.get? a=some (rB C dx) /\
   ∃mA,h.Ns1 dx mA/\(∀f,lb (fs.lookup f) (mA f))/\PySem.Within mA (fs.map (·.1))
 |.own _=>∃o,h.get? a=some o
 |.xd fs=>∃mA,h.Ns1 a mA/\∀f,lb (fs.lookup f) (mA f)
 |.rng lo hi=>∃t u v,h.get? a=some { cls:=.type "range",data:=.fields #[.int lo t,.int hi u,.int 1 v] }
 |.frz o u=>h.get? a=some o/\bS H h a u
 |.tbl ps=>h.get? a=some { cls:=.none,data:=.fields ps }
 |.met f x=>h.get? a=some (PySem.W.methodObj (.ref f) (.ref x))
 |.ext φ=>φ h/\(∃o,h.get? a=some o)/\∀h1 h2:Heap,φ h1->(∀o,h1.get? a=some o->h2.get? a=some o)->φ h2
def mh(H:Hp)(h:Heap):Prop:=∀a o,H a=some o->bS P w K H h a o
end
section
variable{P:bV}{w:World}{K:Za}{H H':Hp}{h h':Heap}{a:Addr}{o:HO}
theorem bS.lt(x:bS P w K H h a o):a<h.objs.size:=by
 cases o with
 |lst i=>obtain⟨_,_,_,_,e⟩:=x;exact bC e
 |tup i=>obtain⟨_,_,_,p⟩:=x;exact p.lt
 |dK g=>obtain⟨_,_,_,_,o,_,_,e,_⟩:=x;exact bC e
 |dT g=>obtain⟨_,_,_,_,o,_,_,e,_⟩:=x;exact bC e
 |set S n=>obtain⟨o,_,_,_,e,_⟩:=x;exact bC e
 |ins C j fs=>obtain⟨_,_,_,e,_⟩:=x;exact bC e
 |own y=>obtain⟨_,e⟩:=x;exact bC e
 |xd fs=>obtain⟨_,⟨_,_,_,e,_⟩,_⟩:=x;exact bC e
 |rng lo k=>obtain⟨_,_,_,e⟩:=x;exact bC e
 |frz l u=>obtain⟨e,_⟩:=x;exact bC e
 |tbl m=>exact bC (show h.get? a=some _ from x)
 |met f y=>exact bC (show h.get? a=some _ from x)
 |ext φ=>obtain⟨_,⟨_,e⟩,_⟩:=x;exact bC e
theorem Paired.mapP{α β:Type}{F G:α->β->Prop}:∀{e:List α}{g:List β},Paired F e g->(∀a b,F a b->G a b)->Paired G e g
 |_,_,.nil,_=>.nil
 |_,_,.cons r t,f=>.cons (f _ _ r) (Paired.mapP t f)
theorem bS.stay(x:bS P w K H h a o)(k:∀b u,(b=a∨H b=some (.own a))->h.get? b=some u->h'.get? b=some u)
  (E:∀b,H b=some (.own a)->H' b=some (.own a)) (G:∀b m,H b=some (.tup m)->H' b=some (.tup m)):bS P w K H' h' a o:=by
 induction o with
 |lst m=>obtain⟨z,l,n,r,e⟩:=x;exact⟨z,l,n,r,k _ _ (.inl rfl) e⟩
 |tup m=>obtain⟨z,l,r,g,e,c⟩:=x;exact⟨z,l,r,g,k _ _ (.inl rfl) e,c⟩
 |dK s=>obtain⟨z,y,I,r,g,i,j,e,c⟩:=x;exact⟨z,y,I,r,g,i,j,k _ _ (.inl rfl) e,c⟩
 |dT s =>
  obtain⟨z,y,m,r,g,i,j,e,c⟩:=x;exact⟨z,y,m,Paired.mapP r fun p q z=>⟨z.1,oe.keeps G 8 z.2.2.1 z.2.1,z.2.2⟩,g,i,j,k _ _ (.inl rfl) e,c⟩
 |set S n=>obtain⟨g,i,j,t,e,c⟩:=x;exact⟨g,i,j,t,k _ _ (.inl rfl) e,c⟩
 |ins C M fs =>
  obtain⟨d,z,ne,e,A,⟨B,i,j,J,c⟩,r⟩:=x;exact⟨E _ d,z,ne,k _ _ (.inl rfl) e,A,⟨B,i,j,k _ _ (.inr d) J,c⟩,r⟩
 |own y=>obtain⟨g,e⟩:=x;exact⟨g,k _ _ (.inl rfl) e⟩
 |xd fs=>obtain⟨A,⟨B,i,j,e,c⟩,r⟩:=x;exact⟨A,⟨B,i,j,k _ _ (.inl rfl) e,c⟩,r⟩
 |rng lo N=>obtain⟨t,u,v,e⟩:=x;exact⟨t,u,v,k _ _ (.inl rfl) e⟩
 |frz g u L=>obtain⟨e,q⟩:=x;exact⟨k _ _ (.inl rfl) e,L q⟩
 |tbl D =>
  have e:h.get? a=some { cls:=.none,data:=.fields D }:=x;show h'.get? a=some { cls:=.none,data:=.fields D };exact k a _ (.inl rfl) e
 |met f y =>
  have e:h.get? a=some (PySem.W.methodObj (.ref f) (.ref y)):=x;show h'.get? a=some (PySem.W.methodObj (.ref f) (.ref y));exact k a _ (.inl rfl) e
 |ext φ=>obtain⟨p,⟨o,e⟩,st⟩:=x;exact⟨st _ _ p fun o q=>k _ _ (.inl rfl) q,⟨o,k _ _ (.inl rfl) e⟩,st⟩
theorem mh.lt(x:mh P w K H h)(e:H a=some o):a<h.objs.size:=(x a o e).lt
theorem mh.fresh(x:mh P w K H h)(e:h.objs.size<=a):H a=none:=by
 cases q:H a with
 |none=>rfl
 |some u=>exact absurd (iW (x.lt q) e) (rA _)
theorem mh.kept(x:mh P w K H h)(k:∀b u,h.get? b=some u->h'.get? b=some u):mh P w K H h':=fun a o e =>
 (x a o e).stay (fun b u _ q=>k b u q) (fun _ q=>q) fun _ _ q=>q
theorem mh.laid(x:mh P w K H h)(k:∀b u,h.get? b=some u->h'.get? b=some u)(i:h.objs.size<=a)(new:bS P w K (upd H a o) h' a o):mh P w K (upd H a o) h':=fun b u e=>by
 have f:=x.fresh i;by_cases g:b=a
 ·subst g;rw[aa]at e;cases e;exact new
 ·rw[ag g]at e;exact(x b u e).stay (fun c v _ q=>k c v q) (fun c q=>by rw[ag (ae q f)];exact q) fun c j q=>by rw[ag (ae q f)];exact q
end
def Rd(H:Hp)(a:Addr)(u:HO):Prop:=H a=some u∨∃o,H a=some (.frz o u)
theorem Rd.ok{P:bV}{w:World}{K:Za}{H:Hp}{h:Heap}{a:Addr}{u:HO}(r:Rd H a u)(x:mh P w K H h):bS P w K H h a u:=by
 rcases r with r|⟨o,r⟩
 ·exact x a u r
 ·obtain⟨_,q⟩:=x a _ r;exact q
def Ka:Option HO->Prop
 |some (.lst _)=>True
 |some (.dK _)=>True
 |some (.dT _)=>True
 |some (.set _ _)=>True
 |some (.ins _ _ _)=>True
 |some (.ext _)=>True
 |_=>False
section
variable{P:bV}{w:World}{K:Za}{H:Hp}{h h':Heap}{x e:Addr}{o':HO}
theorem mh.write(ok:mh P w K H h)(i:Ka (H x))(n:e=x∨H e=some (.own x))(k:∀b u,b≠e->h.get? b=some u->h'.get? b=some u)(m:∃u,h'.get? e=some u)
  (new:bS P w K (upd H x o') h' x o'):mh P w K (upd H x o') h':=fun b u q=>by
 have f:∀c y,H c=some (.own y)->c≠x:=fun c y r z=>by subst z;rw[r]at i;exact i
 have g:∀c j,H c=some (.tup j)->c≠x:=fun c j r z=>by subst z;rw[r]at i;exact i
 by_cases l:b=x
 ·subst l;rw[aa]at q;cases q;exact new
 ·rw[ag l]at q;by_cases a:b=e
  ·have o:H b=some (.own x):=by
    rcases n with z|z
    ·exact absurd (a.trans z) l
    ·rw[a];exact z
   rw[q]at o;cases o;obtain⟨v,p⟩:=m;exact⟨v,by rw[a];exact p⟩
  ·refine(ok b u q).stay (fun c v hc r=>k c v ?_ r) (fun c r=>by rw[ag (f c b r)];exact r) fun c j r=>by rw[ag (g c j r)];exact r
   rcases hc with rfl|hc
   ·exact a
   ·rintro rfl;rcases n with z|z
    ·exact f c b hc z
    ·rw[hc]at z;cases z;exact l rfl
end
structure Un(fs ex:Ze)(H H':Hp)(h h':Heap):Prop where
 keep:∀b o,h.get? b=some o->H b=none->b∉fs->b∉ex->h'.get? b=some o
 slot:∀b o,h.get? b=some o->H b=none->b∈fs->b∉ex->∃sl,h'.get? b=some { o with slots:=sl }
 free:∀b o,h.get? b=some o->H b=none->b∉ex->H' b=none
 there:∀b o,h.get? b=some o->b∉ex->∃o',h'.get? b=some o'
 tups:∀b xs,H b=some (.tup xs)->H' b=some (.tup xs)
 frzs:∀b o u,H b=some (.frz o u)->H' b=some (.frz o u)
 tbls:∀b ps,H b=some (.tbl ps)->∃more,H' b=some (.tbl (ps++more))
section
variable{fs fs' ex ex':Ze}{H H1 H2:Hp}{h h1 h2 h':Heap}{a x e:Addr}{o:HO}
theorem Un.any(u:Un fs ex H H1 h h1){b:Addr}{ob:Obj}(q:h.get? b=some ob)(n:H b=none)(f:b∉ex):∃i,h1.get? b=some { ob with slots:=i }:=by
 by_cases g:b∈fs
 ·exact u.slot b ob q n g f
 ·exact⟨ob.slots,u.keep b ob q n g f⟩
theorem Un.kept(k:∀b u,h.get? b=some u->h'.get? b=some u):Un fs ex H H h h' :=
 ⟨fun b f q _ _ _=>k b f q,fun b f q _ _ _=>⟨f.slots,k b f q⟩,fun _ _ _ n _=>n,fun b f q _=>⟨f,k b f q⟩,fun _ _ q=>q,fun _ _ _ q=>q,fun _ g q=>⟨#[],by rw[q];simp⟩⟩
theorem Un.refl:Un fs ex H H h h:=Un.kept fun _ _ q=>q
theorem Un.laid(k:∀b u,h.get? b=some u->h'.get? b=some u)(g:h.objs.size<=a)(f:H a=none):Un fs ex H (upd H a o) h h' where
 keep:=fun b u q _ _ _=>k b u q
 slot:=fun b u q _ _ _=>⟨u.slots,k b u q⟩
 free:=fun b u q n _=>by rw[ag (dg (iW (bC q) g))];exact n
 there:=fun b u q _=>⟨u,k b u q⟩
 tups:=fun b i q=>by rw[ag (ae q f)];exact q
 frzs:=fun b u i q=>by rw[ag (ae q f)];exact q
 tbls:=fun b j q=>⟨#[],by rw[ag (ae q f),q];simp⟩
theorem Un.write(g:Ka (H x))(p:e=x∨H e=some (.own x))(k:∀b u,b≠e->h.get? b=some u->h'.get? b=some u)(i:∃u,h'.get? e=some u):Un fs ex H (upd H x o) h h':=by
 have l:∀b,H b=none->b≠x:=fun b n z=>by subst z;rw[n]at g;exact g
 have m:∀b,H b=none->b≠e:=fun b n z=>by
  subst z;rcases p with r|r
  ·exact l b n r
  ·rw[n]at r;cases r
 have j:∀b u,H b=some u->¬Ka (some u)->b≠x:=fun b u q s z=>by subst z;rw[q]at g;exact s g
 refine⟨fun b u q n _ _=>k b u (m b n) q,fun b u q n _ _=>⟨u.slots,k b u (m b n) q⟩,fun b u q n _=>by rw[ag (l b n)];exact n,fun b u q _=>?_,
  fun b t q=>by rw[ag (j b _ q fun z=>z)];exact q,fun b u t q=>by rw[ag (j b _ q fun z=>z)];exact q,fun b v q=>⟨#[],by rw[ag (j b _ q fun z=>z),q];simp⟩⟩
 by_cases f:b=e
 ·subst f;exact i
 ·exact⟨u,k b u f q⟩
end
def Kl(h:Heap)(H:Hp):List Addr:=(jm h.objs.size).filter fun a=>(H a).isSome
def yq(h:Heap)(H:Hp):Heap:=PySem.W.hideAll h (Kl h H)
theorem EE(h:Heap)(H:Hp):(yq h H).objs.size=h.objs.size:=PySem.W.hideAll_size _ _
theorem Gy{h:Heap}{H:Hp}{b:Addr}{o:Obj}(e:h.get? b=some o)(n:H b=none):(yq h H).get? b=some o :=
 PySem.W.hideAll_get _ e fun a=>by
  have q:(H b).isSome=true:=(bP.mp a).2;rw[n]at q;simp at q
theorem HV{h:Heap}{H:Hp}{b:Addr}{o:Obj}(e:(yq h H).get? b=some o):h.get? b=some o/\H b=none:=by
 have a:h.get? b=some o:=PySem.W.of_hideAll (Kl h H) e;refine⟨a,?_⟩;cases q:H b with
 |none=>rfl
 |some x =>
  have f:b∈Kl h H:=bP.mpr ⟨List.mem_range.mpr (bC a),by simp[q]⟩;have z:(yq h H).get? b=none:=PySem.W.hideAll_none (Kl h H) f;rw[z]at e;cases e
end L2
namespace L2
open PySem PySem.Spec PyProof.Rows
structure Mod(K:Za)(mg:Str->Option Value)(base:Heap):Prop where
 kin:K.In base
 glob:base.Ns cy mg
 blt:∃mb,base.Ns builtinsNs mb/\∀x:Str,x≠"__name__"->mb x=lp x
 nolimit:base.NoLimit
structure Cx where
 prog:bV
 w:World
 K:Za
 mg:Str->Option Value
 base:Heap
 A:Around
 N:List Str
 s₀:Shared
 H₀:Hp
 env:Env
 outer:List Env
 stack:List Env
 ex:List Addr
 fn:Str->Bool
 calm:Bool
 pn:List (Addr×Obj)
 xe:Value->Shared->Prop
def Fd(l:List Env):List Addr:=l.filterMap (·.frame)
abbrev Cx.fs(X:Cx):List Addr:=Fd X.outer
def Ko(sc:Scope)(x:Str):Prop:=sc.names.lookup x=some .local∨sc.names.lookup x=some .cell∨sc.names.lookup x=some .free
def Loc(sc:Scope)(x:Str):Prop:=sc.names.lookup x=some .local∨sc.names.lookup x=some .cell
def Look(env:Env)(h:Heap)(m:Str->Option Value)(x:Str)(u:Value):Prop :=
 (env.kindOf x=some .local/\m x=some u)∨((env.kindOf x=some .cell∨env.kindOf x=some .free)/\∃c,env.cells.lookup x=some c/\h.IsCell c (some u))
structure Cx.Ok(X:Cx):Prop where
 mod:Mod X.K X.mg X.base
 kind:X.env.scope.kind=.function
 glob:X.env.globals=cy
 blt:X.env.builtins=builtinsNs
 above:X.s₀.heap.objs.size<=X.env.locals
 inj:∀x y c,X.env.cells.lookup x=some c->X.env.cells.lookup y=some c->x=y
 has:∀x,(X.env.kindOf x=some .cell∨X.env.kindOf x=some .free)->∃c,X.env.cells.lookup x=some c
 cab:∀x c,X.fn x=true->X.env.cells.lookup x=some c->X.s₀.heap.objs.size<=c
 hd:X.calm=true->X.A.handled=none
 frames:X.A.frames=some X.stack
 stk:X.stack=X.outer∨(X.stack=X.env::X.outer/\X.env.frame=some X.env.locals)
 exf:∀b∈X.ex,b≠X.env.locals/\∀x c,X.env.cells.lookup x=some c->c≠b
 bs:∀b o,X.base.get? b=some o->X.s₀.heap.get? b=some o/\X.H₀ b=none
 bsz:X.base.objs.size<=X.s₀.heap.objs.size
 noex:∀b o,X.base.get? b=some o->b∉X.ex
 exfs:∀b∈X.ex,b∉X.fs
 funs:X.s₀.heap.FunFrames X.base X.outer
 frf:∀b∈X.fs,X.H₀ b=none
structure Inv(X:Cx)(J2:Zd)(σ:List (Option V))(H:Hp)(s:Shared):Prop where
 ok:X.Ok
 os:s.os=X.s₀.os
 bare:oN s.gens
 base:Un X.fs X.ex X.H₀ H X.s₀.heap s.heap
 loc:∃m,s.heap.Ns X.env.locals m/\∀(i:Nat) (x:Str) (v:V),X.N[i]?=some x->σ[i]?=some (some v)->Ko X.env.scope x->∃u,RelV v u/\Look X.env s.heap m x u
 cell:∀x c,X.env.cells.lookup x=some c->∃v,s.heap.IsCell c v
 free:H X.env.locals=none
 freeC:∀x c,X.env.cells.lookup x=some c->H c=none
 pin:∀p∈X.pn++J2,s.heap.get? p.1=some p.2/\H p.1=none/\p.1≠X.env.locals/\p.1∉X.fs/\∀v,p.2.data≠.cell v
 hok:mh X.prog X.w X.K H s.heap
 len:σ.length=X.N.length
section
variable{X:Cx}{J2:Zd}{σ:List (Option V)}{H H':Hp}{s:Shared}{h':Heap}
theorem Cx.Ok.nofr(ok:X.Ok){b:Addr}{o:Obj}(e:X.base.get? b=some o):b∉X.fs:=fun a=>by
 have:=(ok.funs.mem a).1;rw[e]at this;cases this
theorem Inv.bs(I:Inv X J2 σ H s):∀b o,X.base.get? b=some o->s.heap.get? b=some o/\H b=none:=fun b o e =>
 ⟨I.base.keep b o (I.ok.bs b o e).1 (I.ok.bs b o e).2 (I.ok.nofr e) (I.ok.noex b o e),I.base.free b o (I.ok.bs b o e).1 (I.ok.bs b o e).2 (I.ok.noex b o e)⟩
theorem Inv.bk(I:Inv X J2 σ H s):∀b o,X.base.get? b=some o->s.heap.get? b=some o:=fun b o e=>(I.bs b o e).1
theorem Inv.mod(I:Inv X J2 σ H s):Mod X.K X.mg X.base:=I.ok.mod
theorem Inv.kIn(I:Inv X J2 σ H s):X.K.In s.heap:=I.ok.mod.kin.keeps I.bk
theorem Inv.fr(I:Inv X J2 σ H s):∃m,Fr X.base X.env.locals s.heap m :=
 let⟨m,a,_⟩:=I.loc
 ⟨m,a,I.bk,bB I.ok.bsz I.ok.above⟩
theorem Inv.lt(I:Inv X J2 σ H s):X.env.locals<s.heap.objs.size:=let⟨_,a,_⟩:=I.loc;a.lt
theorem Inv.sz(I:Inv X J2 σ H s):X.s₀.heap.objs.size<=s.heap.objs.size:=bB I.ok.above (eK I.lt)
theorem Inv.nofs(I:Inv X J2 σ H s){a:Addr}(h:s.heap.objs.size<=a):a∉X.fs:=fun e=>by
 obtain⟨_,o,f,_⟩:=I.ok.funs.mem e;exact absurd (iW (bC f) (bB I.sz h)) (rA _)
theorem Inv.cne(I:Inv X J2 σ H s):∀x c,X.env.cells.lookup x=some c->c≠X.env.locals:=fun x c e z=>by
 obtain⟨v,o,g,h⟩:=I.cell x c e;obtain⟨m,⟨i,j,k,a,f,_⟩,_⟩:=I.loc;rw[z,a]at g;cases g;rw[f]at h;cases h
theorem Inv.funs(I:Inv X J2 σ H s):s.heap.FunFrames X.base X.outer:=by
 have all:∀(l:List Env),(∀b∈Fd l,b∈X.fs)->X.s₀.heap.FunFrames X.base l->s.heap.FunFrames X.base l:=by
  intro l
  induction l with
  |nil=>intro _ _;trivial
  |cons i r j =>
   intro h k;obtain⟨m,⟨L,o,a,n,p,q⟩,t⟩:=k;have f:L∈X.fs:=h L (by unfold Fd;rw[List.filterMap_cons,a];exact cD);obtain⟨u,e⟩:=I.base.slot L o p (I.ok.frf L f) f fun z=>I.ok.exfs L z f;exact⟨m,⟨L,_,a,n,e,q⟩,j (fun b g=>h b (by unfold Fd;rw[List.filterMap_cons,a];exact d_ _ g)) t⟩
 exact all X.outer (fun _ g=>g) I.ok.funs
theorem Inv.stack(I:Inv X J2 σ H s):s.heap.FunFrames X.base X.stack:=by
 rcases I.ok.stk with e|⟨e,a⟩
 ·rw[e];exact I.funs
 ·rw[e];obtain⟨m,f,_⟩:=I.loc;refine .cons (by rw[I.ok.kind];decide) a f ?_ I.funs;exact Heap.get?_none_of_le (bB I.ok.bsz I.ok.above)
theorem Inv.stkSub(I:Inv X J2 σ H s):∀b∈Fd X.stack,b∈X.env.locals::X.fs:=fun b a=>by
 rcases I.ok.stk with e|⟨e,f⟩
 ·rw[e]at a;exact d_ _ a
 ·rw[e]at a;unfold Fd at a;rw[List.filterMap_cons,f]at a;exact a
theorem Inv.stkFree(I:Inv X J2 σ H s):∀b∈Fd X.stack,H b=none:=fun b hb=>by
 rcases df.mp (I.stkSub b hb)with e|hb
 ·rw[e];exact I.free
 ·obtain⟨_,o,a,_⟩:=I.ok.funs.mem hb;exact I.base.free b o a (I.ok.frf b hb) fun z=>I.ok.exfs b z hb
theorem Inv.step{g':Array GenState}{t':Nat}{d':Drawn}{ch:Ze}(I:Inv X J2 σ H s)
  (f:∀b∈ch,(b∈X.ex∨X.s₀.heap.objs.size<=b)/\b≠X.env.locals/\(∀x c,X.env.cells.lookup x=some c->c≠b)/\∀p∈X.pn++J2,p.1≠b)
  (g:∀b o,b≠X.env.locals->b∉X.fs->b∉ch->s.heap.get? b=some o->H b=none->h'.get? b=some o)
  (y:∀b o,b≠X.env.locals->b∈X.fs->b∉ch->s.heap.get? b=some o->H b=none->∃Q,h'.get? b=some { o with slots:=Q }) (free:∀b o,b∉ch->s.heap.get? b=some o->H b=none->H' b=none)
  (there:∀b o,b∉ch->s.heap.get? b=some o->∃D,h'.get? b=some D)
  (E:∀b A,H b=some (.tup A)->H' b=some (.tup A)) (G:∀b o u,H b=some (.frz o u)->H' b=some (.frz o u)) (J:∀b O,H b=some (.tbl O)->∃L,H' b=some (.tbl (O++L)))
  (ns:∀m,s.heap.Ns X.env.locals m->h'.Ns X.env.locals m) (T:mh X.prog X.w X.K H' h') (hg:oN g') :
  Inv X J2 σ H' { s with heap:=h',gens:=g',drawn:=d',toks:=t' }:=by
 have M:∀b o,X.s₀.heap.get? b=some o->b≠X.env.locals:=fun b o e=>dg (iW (bC e) I.ok.above);have j:∀b o,X.s₀.heap.get? b=some o->b∉X.ex->b∉ch:=fun b o e a B=>by
  rcases(f b B).1 with z|z
  ·exact a z
  ·exact absurd (iW (bC e) z) (rA _)
 have cellK:∀x c,X.env.cells.lookup x=some c->∀v,s.heap.IsCell c v->h'.IsCell c v:=fun x c e v ⟨o,C,U⟩=>by
  have h:c∉ch:=fun z=>(f c z).2.2.1 x c e rfl;by_cases hc:c∈X.fs
  ·obtain⟨Q,q⟩:=y c o (I.cne x c e) hc h C (I.freeC x c e);exact⟨_,q,U⟩
  ·exact⟨o,g c o (I.cne x c e) hc h C (I.freeC x c e),U⟩
 refine⟨I.ok,I.os,hg,⟨fun b o e n B a=>?_,fun b o e n B a=>?_,fun b o e n a=>?_,fun b o e a=>?_,fun b A e=>E b A (I.base.tups b A e),fun b o A e=>G b o A (I.base.frzs b o A e),fun b O e=>?_⟩,?_,fun x c e=>?_,?_,fun x c e=>?_,fun p hp=>?_,T,I.len⟩
 ·exact g b o (M b o e) B (j b o e a) (I.base.keep b o e n B a) (I.base.free b o e n a)
 ·obtain⟨Q,t⟩:=I.base.slot b o e n B a;obtain⟨Y,N⟩:=y b _ (M b o e) B (j b o e a) t (I.base.free b o e n a);exact⟨Y,N⟩
 ·obtain⟨D,t⟩:=I.base.there b o e a;exact free b D (j b o e a) t (I.base.free b o e n a)
 ·obtain⟨D,t⟩:=I.base.there b o e a;exact there b D (j b o e a) t
 ·obtain⟨m1,t⟩:=I.base.tbls b O e;obtain⟨m2,N⟩:=J b _ t;exact⟨m1++m2,by rw[N,Array.append_assoc]⟩
 ·obtain⟨m,hn,hl⟩:=I.loc;refine⟨m,ns m hn,fun i x v t N e3=>?_⟩;obtain⟨u,r,l⟩:=hl i x v t N e3;refine⟨u,r,?_⟩;rcases l with l|⟨k,c,e,z⟩
  ·exact .inl l
  ·exact .inr ⟨k,c,e,cellK x c e _ z⟩
 ·obtain⟨v,z⟩:=I.cell x c e;exact⟨v,cellK x c e v z⟩
 ·obtain⟨m,⟨o,_,_,C,_⟩,_⟩:=I.loc;exact free _ o (fun z=>(f _ z).2.1 rfl) C I.free
 ·obtain⟨v,o,C,U⟩:=I.cell x c e;exact free c o (fun z=>(f c z).2.2.1 x c e rfl) C (I.freeC x c e)
 ·obtain⟨e,n,ne,nf,d⟩:=I.pin p hp;have h:p.1∉ch:=fun z=>(f p.1 z).2.2.2 p hp rfl;exact⟨g p.1 p.2 ne nf h e n,free p.1 p.2 h e n,ne,nf,d⟩
theorem Inv.un{t':Nat}(I:Inv X J2 σ H s)(u:Un X.fs [] H H' s.heap h')(f:mh X.prog X.w X.K H' h'):Inv X J2 σ H' { s with heap:=h',toks:=t' }:=by
 obtain⟨m,⟨o,q,t,j,r⟩,_⟩:=id I.loc;obtain⟨v,k⟩:=u.any j I.free (by simp);exact I.step (g':=s.gens) (d':=s.drawn) (ch:=[]) (fun _ z=>nomatch z) (fun b o _ g _ e n=>u.keep b o e n g (by simp)) (fun b o _ g _ e n=>u.slot b o e n g (by simp)) (fun b o _ e n=>u.free b o e n (by simp)) (fun b o _ e=>u.there b o e (by simp)) u.tups u.frzs u.tbls (fun x l=>by
  obtain⟨y,h,i,a,p⟩:=l;rw[j]at a;cases a;exact⟨_,h,i,k,p⟩) f I.bare
theorem Inv.call{g':Array GenState}{t':Nat}{d':Drawn}{ch:Ze}(I:Inv X J2 σ H s)(u:Un (Fd X.stack) ch H H' s.heap h')(h:mh X.prog X.w X.K H' h')(q:oN g')
  (f:∀b∈ch,(b∈X.ex∨X.s₀.heap.objs.size<=b)/\b≠X.env.locals/\(∀x c,X.env.cells.lookup x=some c->c≠b)/\∀p∈X.pn++J2,p.1≠b) :
  Inv X J2 σ H' { s with heap:=h',gens:=g',drawn:=d',toks:=t' }:=by
 obtain⟨m,⟨o,A,B,l,r⟩,_⟩:=id I.loc;obtain⟨C,i⟩:=u.any l I.free fun z=>(f _ z).2.1 rfl;exact I.step (ch:=ch) f (fun b o i t a e n=>u.keep b o e n (fun z=>(df.mp (I.stkSub b z)).elim i t) a) (fun b o _ _ a e n=>u.any e n a) (fun b o a e n=>u.free b o e n a) (fun b o a e=>u.there b o e a) u.tups u.frzs u.tbls (fun D v=>by
  obtain⟨E,j,k,g,y⟩:=v;rw[l]at g;cases g;exact⟨_,j,k,i,y⟩) h q
theorem Inv.turned{t':Nat}{it:Addr}(I:Inv X J2 σ H s)(k:∀b o,b≠it->s.heap.get? b=some o->h'.get? b=some o)(h:H it=none)(g:it≠X.env.locals)
  (i:it∈X.ex∨X.s₀.heap.objs.size<=it) (j:∀x c,X.env.cells.lookup x=some c->c≠it) (l:∀p∈X.pn++J2,p.1≠it):Inv X J2 σ H { s with heap:=h',toks:=t' }:=by
 have f:∀b u,H b=some u->b≠it:=fun b u e z=>by rw[z,h]at e;cases e
 refine I.step (g':=s.gens) (d':=s.drawn) (ch:=[it]) (fun b t=>?_) (fun b o _ _ a e _=>k b o (fun z=>a (by simp[z])) e) (fun b o _ _ a e _=>⟨o.slots,k b o (fun z=>a (by simp[z])) e⟩) (fun _ _ _ _ n=>n)
  (fun b o a e=>⟨o,k b o (fun z=>a (by simp[z])) e⟩) (fun _ _ e=>e) (fun _ _ _ e=>e) (fun b C e=>⟨#[],by rw[e];simp⟩) (fun m w=>?_) (fun b u e=>?_) I.bare
 ·have e:b=it:=by simpa using t
  subst e;exact⟨i,g,j,l⟩
 ·obtain⟨o,y,A,B,r⟩:=w;exact⟨o,y,A,k _ o (dF g) B,r⟩
 ·refine(I.hok b u e).stay (fun c v a q=>k c v ?_ q) (fun _ q=>q) fun _ _ q=>q;rcases a with z|z
  ·rw[z];exact f b u e
  ·exact f c _ z
theorem Inv.tok(I:Inv X J2 σ H s)(t:Nat):Inv X J2 σ H { s with toks:=t }:=I.un (h':=s.heap) (t':=t) Un.refl I.hok
theorem Inv.kept{t':Nat}(I:Inv X J2 σ H s)(k:∀b u,s.heap.get? b=some u->h'.get? b=some u):Inv X J2 σ H { s with heap:=h',toks:=t' }:=I.un (Un.kept k) (I.hok.kept k)
theorem Inv.laid{a:Addr}{o:HO}{t':Nat}(I:Inv X J2 σ H s)(k:∀b u,s.heap.get? b=some u->h'.get? b=some u)(e:s.heap.objs.size<=a)(new:bS X.prog X.w X.K (upd H a o) h' a o):
  Inv X J2 σ (upd H a o) { s with heap:=h',toks:=t' }:=I.un (Un.laid k e (I.hok.fresh e)) (I.hok.laid k e new)
theorem Inv.write{x e:Addr}{o:HO}{t':Nat}(I:Inv X J2 σ H s)(f:Ka (H x))(g:e=x∨H e=some (.own x))(k:∀b u,b≠e->s.heap.get? b=some u->h'.get? b=some u)(a:∃u,h'.get? e=some u)
  (new:bS X.prog X.w X.K (upd H x o) h' x o):Inv X J2 σ (upd H x o) { s with heap:=h',toks:=t' }:=I.un (Un.write f g k a) (I.hok.write f g k a new)
theorem Inv.weak{σ':List (Option V)}(I:Inv X J2 σ H s)(e:σ'.length=σ.length)(w:∀(i:Nat) v,σ'[i]?=some (some v)->σ[i]?=some (some v)):Inv X J2 σ' H s :=
 ⟨I.ok,I.os,I.bare,I.base,let⟨m,f,a⟩:=I.loc;⟨m,f,fun i x v g h j=>a i x v g (w i v h) j⟩,I.cell,I.free,I.freeC,I.pin,I.hok,e.trans I.len⟩
theorem Inv.pins_of{a:Zd}(I:Inv X J2 σ H s)(h:∀p∈a,s.heap.get? p.1=some p.2/\H p.1=none/\p.1≠X.env.locals/\p.1∉X.fs/\∀v,p.2.data≠.cell v):Inv X a σ H s :=
 ⟨I.ok,I.os,I.bare,I.base,I.loc,I.cell,I.free,I.freeC,fun p e=>(aX.mp e).elim (fun z=>I.pin p (cG _ z)) (h p),I.hok,I.len⟩
theorem z5{N:Zb}(e:N.Nodup){i j:Nat}{x:Str}(a:N[i]?=some x)(b:N[j]?=some x):i=j:=by
 obtain⟨h,f⟩:=bY.mp a;obtain⟨k,g⟩:=bY.mp b;exact(List.getElem_inj e).mp (f.trans g.symm)
theorem v2{M:Model}{A:Around}{E:Zc}{i:Nat}{x:Str}{v:V}{u:Value}{Q:Unit->Shared->Prop}(I:Inv X J2 σ H s)(hN:X.N.Nodup)(C:X.N[i]?=some x)(l:Loc X.env.scope x)(r:RelV v u)
  (h:∀s',Inv X J2 (σ.set i (some v)) H s'->(∃a,gL a s.heap s'.heap/\(a=X.env.locals∨X.env.cells.lookup x=some a))->Q () s') (hf:X.fn x=true∨X.env.scope.names.lookup x=some .local:=by first|exact .inl rfl|exact .inr rfl|assumption):wpAny M A (storeName X.env x u) Q E s:=by
 obtain⟨m,hn,hl⟩:=id I.loc;have L:(X.env.scope.kind==.class || (X.env.scope.kind==.module && X.env.locals != X.env.globals))=false:=by rw[I.ok.kind];rfl
 have Cσ:i<σ.length:=by rw[I.len];exact(bY.mp C).1
 have cne:=I.cne;have tracked:∀{a:Addr}{h':Heap},(∃o,s.heap.get? a=some o/\H a=none)->gL a s.heap h'->mh X.prog X.w X.K H h':=fun{a h'} ha f b ob e=>by
  obtain⟨_,_,t⟩:=ha;refine(I.hok b ob e).stay (fun c w' hc q=>(f.2 c ?_).trans q) (fun _ q=>q) fun _ _ q=>q;rintro rfl;rcases hc with rfl|hc
  ·rw[t]at e;cases e
  ·rw[t]at hc;cases hc
 rcases l with hk|hk
 ·refine wpAny_storeName_local hk hn (fun h' al f=>?_) L;obtain⟨oL,_,_,an,_⟩:=id hn;refine h _ ⟨I.ok,I.os,I.bare,⟨fun b o e n D l=>?_,fun b o e n D l=>?_,I.base.free,fun b o e l=>?_,I.base.tups,I.base.frzs,I.base.tbls⟩,⟨_,al,fun j y v' g B e3=>?_⟩,fun y c e=>?_,I.free,I.freeC,fun p hp=>?_,tracked ⟨oL,an,I.free⟩ f,by simpa using I.len⟩ ⟨_,f,.inl rfl⟩
  ·exact(f.2 b (dg (iW (bC e) I.ok.above))).trans (I.base.keep b o e n D l)
  ·obtain⟨sl,g⟩:=I.base.slot b o e n D l;exact⟨sl,(f.2 b (dg (iW (bC e) I.ok.above))).trans g⟩
  ·obtain⟨o',g⟩:=I.base.there b o e l;exact⟨o',(f.2 b (dg (iW (bC e) I.ok.above))).trans g⟩
  ·by_cases G:j=i
   ·subst G;rw[C]at g;cases g;rw[List.getElem?_set_self Cσ]at B;cases B;exact⟨u,r,.inl ⟨hk,by simp⟩⟩
   ·rw[List.getElem?_set_ne (dF G)]at B;obtain⟨u',r',q⟩:=hl j y v' g B e3;refine⟨u',r',?_⟩;rcases q with⟨k,e⟩|⟨k,c,e,z⟩
    ·refine .inl ⟨k,?_⟩;have:y≠x:=fun e=>G (z5 hN g (e▸C));simp[this,e]
    ·exact .inr ⟨k,c,e,z.sameBut f (cne y c e)⟩
  ·obtain⟨w',z⟩:=I.cell y c e;exact⟨w',z.sameBut f (cne y c e)⟩
  ·obtain⟨e,n,ne,nf,d⟩:=I.pin p hp;exact⟨(f.2 p.1 ne).trans e,n,ne,nf,d⟩
 ·have J:X.fn x=true:=by
   rcases hf with z|z
   ·exact z
   ·rw[z]at hk;cases hk
  obtain⟨c,hc⟩:=I.ok.has x (.inl hk);obtain⟨w',z⟩:=I.cell x c hc;refine wpAny_storeName_cell I.ok.kind hk hc z (fun h' O f=>?_);obtain⟨oc,T,U⟩:=id z;refine h { s with heap:=h' } ⟨I.ok,I.os,I.bare,⟨fun b o e n D l=>?_,fun b o e n D l=>?_,I.base.free,fun b o e l=>?_,I.base.tups,I.base.frzs,I.base.tbls⟩,⟨m,hn.sameBut f (dF (cne x c hc)),fun j y v' g B e3=>?_⟩,fun y c' e=>?_,I.free,I.freeC,fun p hp=>?_,tracked ⟨oc,T,I.freeC x c hc⟩ f,by simpa using I.len⟩ ⟨c,f,.inr hc⟩
  ·exact(f.2 b (dg (iW (bC e) (I.ok.cab x c J hc)))).trans (I.base.keep b o e n D l)
  ·obtain⟨sl,g⟩:=I.base.slot b o e n D l;exact⟨sl,(f.2 b (dg (iW (bC e) (I.ok.cab x c J hc)))).trans g⟩
  ·obtain⟨o',g⟩:=I.base.there b o e l;exact⟨o',(f.2 b (dg (iW (bC e) (I.ok.cab x c J hc)))).trans g⟩
  ·by_cases G:j=i
   ·subst G;rw[C]at g;cases g;rw[List.getElem?_set_self Cσ]at B;cases B;exact⟨u,r,.inr ⟨.inl hk,c,hc,O⟩⟩
   ·rw[List.getElem?_set_ne (dF G)]at B;obtain⟨u',r',q⟩:=hl j y v' g B e3;refine⟨u',r',?_⟩;rcases q with q|⟨k,c',e,z'⟩
    ·exact .inl q
    ·refine .inr ⟨k,c',e,z'.sameBut f ?_⟩;rintro rfl;exact G (z5 hN g (I.ok.inj _ _ _ e hc▸C))
  ·by_cases Y:c'=c
   ·subst Y;exact⟨_,O⟩
   ·obtain⟨w2,z2⟩:=I.cell y c' e;exact⟨w2,z2.sameBut f Y⟩
  ·obtain⟨e,n,ne,nf,d⟩:=I.pin p hp;refine⟨(f.2 p.1 ?_).trans e,n,ne,nf,d⟩;intro q;rw[q,T]at e;have q':oc=p.2:=fu e;exact d w' (by rw[<-q'];exact U)
theorem t4{M:Model}{A:Around}{E:Zc}{i:Nat}{x:Str}{v:V}{u:Value}{Q:Unit->Shared->Prop}(I:Inv X J2 σ H s)(e:X.N.Nodup)(f:X.N[i]?=some x)(g:Loc X.env.scope x)(r:RelV v u)
  (h:∀a,Inv X J2 (σ.set i (some v)) H a->Q () a) (j:X.fn x=true∨X.env.scope.names.lookup x=some .local:=by first|exact .inl rfl|exact .inr rfl|assumption):wpAny M A (storeName X.env x u) Q E s :=
 v2 I e f g r (fun a k _=>h a k) j
theorem Inv.call'{a:Shared}{h:Ze}(I:Inv X J2 σ H s)(i:a.os=s.os)(u:Un (Fd X.stack) h H H' s.heap a.heap)(f:mh X.prog X.w X.K H' a.heap)(j:oN a.gens)
  (g:∀b∈h,(b∈X.ex∨X.s₀.heap.objs.size<=b)/\b≠X.env.locals/\(∀x c,X.env.cells.lookup x=some c->c≠b)/\∀p∈X.pn++J2,p.1≠b):Inv X J2 σ H' a:=by
 obtain⟨h',k,l,m,n⟩:=a;have e:n=s.os:=i;subst e;exact I.call (g':=k) (t':=m) (d':=l) u f j g
end
abbrev XK:=Value->Option Addr->Hp->Prop
abbrev St:=List (Option V)
abbrev VK:=V->Hp->Prop
abbrev TE:=St->Hp->VK->Prop
abbrev TT:=St->Hp->(Bool->Hp->Prop)->Prop
abbrev TA:=St->Hp->(List V->Hp->Prop)->Prop
structure mj where
 nx:St->Hp->Prop
 rt:VK
 bk:St->Hp->Prop:=fun _ _=>False
 ct:St->Hp->Prop:=fun _ _=>False
abbrev bJ(Q:VK):mj:={ nx:=fun _ H=>Q .non H,rt:=Q }
abbrev TS:=mj->St->Hp->Prop
def EP(X:Cx)(J2:Zd)(σ:St)(Q:VK)(u:Value)(s':Shared):Prop:=∃v H',Inv X J2 σ H' s'/\RelV v u/\Q v H'
def TP(X:Cx)(J2:Zd)(σ:St)(Q:Bool->Hp->Prop)(b:Bool)(s':Shared):Prop:=∃H',Inv X J2 σ H' s'/\Q b H'
def AP(X:Cx)(J2:Zd)(σ:St)(Q:List V->Hp->Prop)(us:Zf)(s':Shared):Prop:=∃vs H',Inv X J2 σ H' s'/\bg vs us/\Q vs H'
def SP(X:Cx)(J2:Zd)(D:mj)(f:Flow)(s':Shared):Prop :=
 match f with
 |.next=>∃σ' H',Inv X J2 σ' H' s'/\D.nx σ' H'
 |.brk=>∃σ' H',Inv X J2 σ' H' s'/\D.bk σ' H'
 |.cont=>∃σ' H',Inv X J2 σ' H' s'/\D.ct σ' H'
 |.ret u=>∃v σ' H',Inv X J2 σ' H' s'/\RelV v u/\D.rt v H'
def PE(X:Cx)(e:Expr)(t:TE):Prop :=
 ∀(J2:Zd) (s:Shared) (σ:St) (H:Hp) (Q:VK),Inv X J2 σ H s->t σ H Q->wpAny (model X.prog X.w) X.A (eval e X.env) (EP X J2 σ Q) X.xe s
def PT(X:Cx)(e:Expr)(t:TT):Prop :=
 ∀(J2:Zd) (s:Shared) (σ:St) (H:Hp) (Q:Bool->Hp->Prop),Inv X J2 σ H s->t σ H Q->wpAny (model X.prog X.w) X.A (isTrue e X.env (eval e X.env)) (TP X J2 σ Q) X.xe s
def PW(X:Cx)(e:Expr)(t:TT):Prop :=
 ∀(whole:Sem Value) (J2:Zd) (s:Shared) (σ:St) (H:Hp) (Q:Bool->Hp->Prop),Inv X J2 σ H s->t σ H Q->wpAny (model X.prog X.w) X.A (isTrue e X.env whole) (TP X J2 σ Q) X.xe s
theorem PW.pt{X:Cx}{e:Expr}{t:TT}(h:PW X e t):PT X e t:=h _
def PA(X:Cx)(es:List Expr)(t:TA):Prop :=
 ∀(pos:Pos) (J2:Zd) (s:Shared) (σ:St) (H:Hp) (Q:List V->Hp->Prop),Inv X J2 σ H s->t σ H Q->wpAny (model X.prog X.w) X.A (spliced (backTo pos (aO es X.env))) (AP X J2 σ Q) X.xe s
def PS(X:Cx)(st:Stmt)(t:TS):Prop :=
 ∀(J2:Zd) (s:Shared) (σ:St) (H:Hp) (D:mj),Inv X J2 σ H s->t D σ H->wpAny (model X.prog X.w) X.A (exec st X.env) (SP X J2 D) X.xe s
def AR(X:Cx)(st:List Stmt)(t:TS):Prop :=
 ∀(J2:Zd) (s:Shared) (σ:St) (H:Hp) (D:mj),Inv X J2 σ H s->t D σ H->wpAny (model X.prog X.w) X.A (execs st X.env) (SP X J2 D) X.xe s
theorem cF{α:Type}{t:Sem α}{Q e:α->Shared->Prop}{M:Model}{A:Around}{E:Zc}{s:Shared}(h:wpAny M A t Q E s)(f:∀a s,Q a s->e a s):wpAny M A t e E s:=oO h f fun _ _ x=>x
end L2
namespace L2
open PySem PySem.Spec PyProof.Rows
section
variable{X:Cx}
def nP(i:Nat):TE:=fun σ H Q=>∃v,σ[i]?=some (some v)/\Q v H
abbrev V0:TE:=nP 0
abbrev V1:TE:=nP 1
abbrev V2:TE:=nP 2
abbrev V3:TE:=nP 3
abbrev V4:TE:=nP 4
abbrev V5:TE:=nP 5
abbrev V6:TE:=nP 6
abbrev V7:TE:=nP 7
abbrev V8:TE:=nP 8
abbrev V9:TE:=nP 9
abbrev Im:TE:=nP 10
abbrev V11:TE:=nP 11
abbrev V12:TE:=nP 12
def tC(v:V):TE:=fun _ H Q=>Q v H
theorem Jj{i:Nat}{x:Str}{g:Pos}(o:X.N[i]?=some x)(p:Ko X.env.scope x)(j:(x==("__debug__":Str))=false:=by decide)(k:(x==("__classdict__":Str))=false:=by decide):PE X (.Name x g) (nP i):=by
 intro J2 s σ H Q I h;obtain⟨v,e,h⟩:=h;obtain⟨m,q,t⟩:=I.loc;obtain⟨u,r,l⟩:=t i x v o e p;have f:EP X J2 σ Q u s:=⟨v,H,I,r,h⟩;rcases l with⟨hk,w⟩|⟨hk,c,n,a⟩
 ·exact wpAny_Name (wpAny_loadName_local I.ok.kind hk q w f) j
 ·rcases hk with hk|hk
  ·exact wpAny_Name (wpAny_loadName_cell I.ok.kind hk n a f) j
  ·exact wpAny_Name (wpAny_loadName_free I.ok.kind hk n a f k) j
theorem ah{i j a}:PE X (.Constant (.int i) j a) (tC (.int i)):=fun _ _ _ H _ I h=>wpAny_Constant_int ⟨.int i,H,I.tok _,⟨_,rfl⟩,h⟩
theorem ic{b j a}:PE X (.Constant (.bool b) j a) (tC (.bl b)):=fun _ _ _ H _ I h=>Constant_bool ⟨.bl b,H,I,rfl,h⟩
theorem nX{j a}:PE X (.Constant .none j a) (tC .non):=fun _ _ _ H _ I h=>Constant_none ⟨.non,H,I,rfl,h⟩
theorem bF{x j a}:PE X (.Constant (.str x) j a) (tC (.str x)):=fun _ _ _ H _ I h=>Calls.Constant_str ⟨.str x,H,I.tok _,⟨_,rfl⟩,h⟩
def Gl(X:Cx)(x:Str):Prop:=X.env.kindOf x=some .globalImplicit
theorem ye{E:Zc}{e:Zd}{s:Shared}{σ:St}{H:Hp}{x:Str}{u:Value}{a:Pos}{Q:Zc}(I:Inv X e σ H s)(f:Gl X x)(g:X.mg x=some u)(h:Q u s)
  (i:(x==("__debug__":Str))=false:=by decide):wpAny (model X.prog X.w) X.A (eval (.Name x a) X.env) Q E s :=
 Calls.Name_function_global I.ok.kind f (Calls.loadGlobal_global (by rw[I.ok.glob];exact I.mod.glob.keeps I.bk) g h) i
theorem qN{E:Zc}{e:Zd}{s:Shared}{σ:St}{H:Hp}{x:Str}{u:Value}{a:Pos}{Q:Zc}(I:Inv X e σ H s)(f:Gl X x)(g:X.mg x=none)(i:lp x=some u)(h:Q u s)
  (j:x≠"__name__":=by decide) (k:(x==("__debug__":Str))=false:=by decide):wpAny (model X.prog X.w) X.A (eval (.Name x a) X.env) Q E s:=by
 obtain⟨n,l,m⟩:=I.mod.blt;exact Calls.Name_function_global I.ok.kind f (Calls.loadGlobal_builtin (by rw[I.ok.glob];exact I.mod.glob.keeps I.bk) g (by rw[I.ok.blt];exact l.keeps I.bk) ((m x j).trans i) h) k
theorem HP{x:Str}{v:V}{u:Value}{a:Pos}(e:Gl X x)(f:X.mg x=some u)(r:RelV v u)(g:(x==("__debug__":Str))=false:=by decide):PE X (.Name x a) (tC v) :=
 fun _ _ _ H _ I h=>ye I e f ⟨v,H,I,r,h⟩ g
theorem C_{x:Str}{v:V}{u:Value}{a:Pos}(e:Gl X x)(f:X.mg x=none)(g:lp x=some u)(r:RelV v u)(i:x≠"__name__":=by decide)(j:(x==("__debug__":Str))=false:=by decide):PE X (.Name x a) (tC v) :=
 fun _ _ _ H _ I h=>qN I e f g ⟨v,H,I,r,h⟩ i j
variable{a b:Expr}{ta tb:TE}{pos:Pos}
def PC(X:Cx)(op:CmpOp)(a b:Expr)(t:TE):Prop :=
 ∀(J2:Zd) (s:Shared) (σ:St) (H:Hp) (Q:VK),Inv X J2 σ H s->t σ H Q ->
  wpAny (model X.prog X.w) X.A (eval a X.env) (fun v s₁=>wpAny (model X.prog X.w) X.A (eval b X.env) (fun u s₂=>wpAny (model X.prog X.w) X.A (fq op v u) (EP X J2 σ Q) X.xe s₂) X.xe s₁) X.xe s
theorem z6(b:Expr){e:CmpOp}(h:e≠.In)(f:e≠.NotIn):kY e b=false:=by
 have g:(e==CmpOp.In)=false:=by cases e<;>first|rfl|exact absurd rfl h
 have i:(e==CmpOp.NotIn)=false:=by cases e<;>first|rfl|exact absurd rfl f
 cases b<;>simp[kY,g,i]
def JK(ta:TE):TE:=fun σ H Q=>ta σ H fun x H1=>Q (.bl (decide (x=.non))) H1
def CY(ta:TE):TE:=fun σ H Q=>ta σ H fun x H1=>Q (.bl (!decide (x=.non))) H1
theorem RelV.none_iff{x:V}{v:Value}(r:RelV x v):(v==Value.none)=decide (x=.non):=by
 cases x with
 |non=>cases r;rfl
 |bl _=>cases r;rfl
 |int _=>obtain⟨t,rfl⟩:=r;rfl
 |str _=>obtain⟨t,rfl⟩:=r;rfl
 |byt _=>obtain⟨t,rfl⟩:=r;rfl
 |flt _=>obtain⟨t,rfl⟩:=r;rfl
 |ref _=>cases r;rfl
 |ty _=>cases r;rfl
theorem Jm{j e}(g:PE X a ta):PC X .Is a (.Constant .none j e) (JK ta):=by
 intro i s σ H Q I h;refine cF (g i s σ H _ I h) fun v o f=>?_;obtain⟨x,k,l,m,n⟩:=f;exact Constant_none (is_none_gen ⟨.bl _,k,l,by rw[m.none_iff];rfl,n⟩)
theorem x9{j e}(g:PE X a ta):PC X .IsNot a (.Constant .none j e) (CY ta):=by
 intro i s σ H Q I h;refine cF (g i s σ H _ I h) fun v o f=>?_;obtain⟨x,k,l,m,n⟩:=f;exact Constant_none (isnot_none_gen ⟨.bl _,k,l,by rw[m.none_iff];rfl,n⟩)
def tB(t:TE):TT:=fun σ H Q=>t σ H fun x H1=>∃c,x=.bl c/\Q c H1
theorem Jl{e:CmpOp}{t:TE}(h:PC X e a b t)(f:kY e b=false:=by first|exact z6 _ (by decide) (by decide)|rfl):PE X (.Compare a [e] [b] pos) t:=fun g s σ H Q I i=>wpAny_Compare1 (h g s σ H Q I i) f
theorem eI{e:CmpOp}{t:TE}(h:PC X e a b t)(f:kY e b=false:=by first|exact z6 _ (by decide) (by decide)|rfl):PT X (.Compare a [e] [b] pos) (tB t):=by
 intro i s σ H Q I j;refine wpAny_isTrue_Compare1 (cF (h i s σ H _ I j) fun v p f=>cF f fun u r k=>cF k fun c w g=>?_) f;obtain⟨x,l,m,n,o⟩:=g;obtain⟨d,rfl,q⟩:=o;cases n;exact sX ⟨l,m,q⟩
theorem gt{e:Expr}{t:TE}(h:PE X e t)(g:∀whole,isTrue e X.env whole=(do let v <- whole;rq e.pos;ln [v] (truthy v)):=by intro _;rfl):PT X e (tB t):=by
 intro i s σ H Q I j;refine isTrue_plain (cF (h i s σ H _ I j) fun v o f=>?_) (g _);obtain⟨x,k,l,m,n⟩:=f;obtain⟨d,rfl,q⟩:=n;cases m;exact sX ⟨k,l,q⟩
variable{tA tB':TT}{rest:List Expr}
def rZ(t u:TT):TT:=fun σ H Q=>t σ H fun c H1=>if c=true then u σ H1 Q else Q false H1
def zc(t u:TT):TT:=fun σ H Q=>t σ H fun c H1=>if c=true then Q true H1 else u σ H1 Q
def vg(t:TT):TT:=fun σ H Q=>t σ H fun c H1=>Q (!c) H1
theorem kC(f:PT X a tA):PW X (.BoolOp .And [a] pos) tA:=by
 intro i g s σ H Q I h;refine isTrue_and (cF (f g s σ H Q I h) fun c j e=>?_);cases c with
 |true=>exact isTrue_and_nil e
 |false=>exact e
theorem iw(f:PT X a tA):PW X (.BoolOp .Or [a] pos) tA:=by
 intro i g s σ H Q I h;refine isTrue_or (cF (f g s σ H Q I h) fun c j e=>?_);cases c with
 |false=>exact isTrue_or_nil e
 |true=>exact e
theorem kD(k:PT X a tA)(l:PW X (.BoolOp .And (b::rest) pos) tB'):PW X (.BoolOp .And (a::b::rest) pos) (rZ tA tB'):=by
 intro m f s σ H Q I h;refine isTrue_and (cF (k f s σ H _ I h) fun c n e=>?_);obtain⟨g,i,j⟩:=e;cases c with
 |true=>exact l m f n σ g Q i j
 |false=>exact⟨g,i,j⟩
theorem iD(k:PT X a tA)(l:PW X (.BoolOp .Or (b::rest) pos) tB'):PW X (.BoolOp .Or (a::b::rest) pos) (zc tA tB'):=by
 intro m f s σ H Q I h;refine isTrue_or (cF (k f s σ H _ I h) fun c n e=>?_);obtain⟨g,i,j⟩:=e;cases c with
 |true=>exact⟨g,i,j⟩
 |false=>exact l m f n σ g Q i j
theorem kE(e:PT X a tA):PT X (.UnaryOp .Not a pos) (vg tA):=by
 intro f s σ H Q I h;exact isTrue_not (e f s σ H (fun c g=>Q (!c) g) I h)
def CZ(ta tb:TE):TE:=fun σ H Q=>ta σ H fun x H1=>∃c,x=.bl c/\if c=true then tb σ H1 Q else Q (.bl false) H1
theorem F_{e}{t:TE}(h:PE X a t):PE X (.BoolOp e [a] pos) t:=fun f s σ H Q I g=>BoolOp_one (h f s σ H Q I g)
theorem BD(k:PE X a ta)(l:PE X (.BoolOp .And (b::rest) pos) tb):PE X (.BoolOp .And (a::b::rest) pos) (CZ ta tb):=by
 intro g s σ H Q I h;refine BoolOp_and (cF (k g s σ H _ I h) fun v m f=>?_);obtain⟨x,i,j,n,e⟩:=f;obtain⟨c,rfl,e⟩:=e;cases n;refine sX ?_;cases c with
 |true=>exact l g m σ i Q j e
 |false=>exact⟨.bl false,i,j,rfl,e⟩
end
end L2
namespace L2
open PySem PySem.Spec PyProof.Rows
def ay(K:Za)(H:Hp)(a:Addr)(xs:List V):Prop :=
 Rd H a (.lst xs) ∨
  ∃(o:Obj) (its:Array Value) (n:Nat),K.lookup a=some o/\o.cls=.type "list"/\o.dict=none/\o.data=.seq its n/\its.size<=ak/\bg xs its.toList
def be(K:Za)(H:Hp)(a:Addr)(xs:List V):Prop :=
 Rd H a (.tup xs) ∨
  ∃(o:Obj) (its:Array Value) (n:Nat),K.lookup a=some o/\o.cls=.type "tuple"/\o.data=.seq its n/\its.size<=ak/\bg xs its.toList
def absV:Value->Option V
 |.none=>some .non
 |.bool b=>some (.bl b)
 |.int i _=>some (.int i)
 |.str x _=>some (.str x)
 |.bytes b _=>some (.byt b)
 |.float b _=>some (.flt b)
 |.ref a=>some (.ref a)
 |.type n=>some (.ty n)
 |_=>none
theorem RelV.abs{x:V}{u:Value}(r:RelV x u):absV u=some x:=by
 cases x with
 |non=>cases r;rfl
 |bl _=>cases r;rfl
 |int _=>obtain⟨t,rfl⟩:=r;rfl
 |str _=>obtain⟨t,rfl⟩:=r;rfl
 |byt _=>obtain⟨t,rfl⟩:=r;rfl
 |flt _=>obtain⟨t,rfl⟩:=r;rfl
 |ref _=>cases r;rfl
 |ty _=>cases r;rfl
theorem RelV.inj{x y:V}{u:Value}(r:RelV x u)(q:RelV y u):x=y:=fu (r.abs.symm.trans q.abs)
theorem bg.inj:∀{a e:List V}{f:Zf},bg a f->bg e f->a=e
 |_,_,_,.nil,.nil=>rfl
 |_,_,_,.cons r t,.cons g h=>by rw[r.inj g,bg.inj t h]
section
variable{X:Cx}{J2:Zd}{σ:St}{H:Hp}{s:Shared}{a:Addr}{xs ys:List V}
theorem ay.of{K:Za}(h:H a=some (.lst xs)):ay K H a xs:=.inl (.inl h)
theorem be.of{K:Za}(h:H a=some (.tup xs)):be K H a xs:=.inl (.inl h)
theorem Inv.list(I:Inv X J2 σ H s)(h:ay X.K H a xs):∃f:List Value,bg xs f/\PlainL s.heap a f.toArray/\xs.length<=ak:=by
 rcases h with h|⟨o,f,n,g,i,j,k,l,r⟩
 ·obtain⟨z,f,n,r,e⟩:=h.ok I.hok;exact⟨f,r,⟨_,n,e,rfl,rfl,rfl⟩,z⟩
 ·refine⟨f.toList,r,⟨o,n,I.kIn a o g,i,j,by simpa using k⟩,?_⟩;have e:=r.length;simp only[mZ]at e;omega
theorem Inv.tuple(I:Inv X J2 σ H s)(h:be X.K H a xs):∃f:List Value,bg xs f/\IsTup s.heap a f.toArray/\xs.length<=ak:=by
 rcases h with h|⟨o,f,n,g,i,j,k,r⟩
 ·obtain⟨z,f,r,p⟩:=h.ok I.hok;exact⟨f,r,p,z⟩
 ·refine⟨f.toList,r,⟨o,I.kIn a o g,i,n,by simpa using j⟩,?_⟩;have e:=r.length;simp only[mZ]at e;omega
theorem Inv.list_inj(I:Inv X J2 σ H s)(h:ay X.K H a xs)(k:ay X.K H a ys):xs=ys:=by
 obtain⟨g,r,⟨o,n,e,_,_,d⟩,_⟩:=I.list h;obtain⟨f,l,⟨p,q,i,_,_,j⟩,_⟩:=I.list k;rw[e]at i;cases i;rw[d]at j;injection j with m _;have:g=f:=by simpa using congrArg Array.toList m
 subst this;exact r.inj l
theorem Inv.tuple_inj(I:Inv X J2 σ H s)(h:be X.K H a xs)(k:be X.K H a ys):xs=ys:=by
 obtain⟨g,r,⟨o,e,_,n,d⟩,_⟩:=I.tuple h;obtain⟨f,l,⟨p,i,_,q,j⟩,_⟩:=I.tuple k;rw[e]at i;cases i;rw[d]at j;injection j with m _;have:g=f:=by simpa using congrArg Array.toList m
 subst this;exact r.inj l
end
abbrev Cx.wish(X:Cx)(E:Zc):Cx:={ X with xe:=E }
abbrev Cx.nox(X:Cx):Cx:=X.wish fun _ _=>False
theorem Cx.Ok.wish{X:Cx}(ok:X.Ok)(E:Zc):(X.wish E).Ok :=
 ⟨ok.mod,ok.kind,ok.glob,ok.blt,ok.above,ok.inj,ok.has,ok.cab,ok.hd,ok.frames,ok.stk,ok.exf,ok.bs,ok.bsz,ok.noex,ok.exfs,ok.funs,ok.frf⟩
theorem Cx.Ok.unwish{X:Cx}{E:Zc}(ok:(X.wish E).Ok):X.Ok :=
 ⟨ok.mod,ok.kind,ok.glob,ok.blt,ok.above,ok.inj,ok.has,ok.cab,ok.hd,ok.frames,ok.stk,ok.exf,ok.bs,ok.bsz,ok.noex,ok.exfs,ok.funs,ok.frf⟩
section
variable{X:Cx}{J2:Zd}{σ:St}{H:Hp}{s:Shared}{E:Zc}
theorem Inv.wish(I:Inv X J2 σ H s)(E:Zc):Inv (X.wish E) J2 σ H s:=⟨I.ok.wish E,I.os,I.bare,I.base,I.loc,I.cell,I.free,I.freeC,I.pin,I.hok,I.len⟩
theorem Inv.unwish(I:Inv (X.wish E) J2 σ H s):Inv X J2 σ H s:=⟨I.ok.unwish,I.os,I.bare,I.base,I.loc,I.cell,I.free,I.freeC,I.pin,I.hok,I.len⟩
theorem SP.unwish{D:mj}{f:Flow}{e:Shared}(h:SP (X.wish E) J2 D f e):SP X J2 D f e:=by
 cases f with
 |next=>obtain⟨σ',a,I,q⟩:=h;exact⟨σ',a,I.unwish,q⟩
 |brk=>obtain⟨σ',a,I,q⟩:=h;exact⟨σ',a,I.unwish,q⟩
 |cont=>obtain⟨σ',a,I,q⟩:=h;exact⟨σ',a,I.unwish,q⟩
 |ret u=>obtain⟨v,σ',a,I,r,q⟩:=h;exact⟨v,σ',a,I.unwish,r,q⟩
theorem AR.nox{st:List Stmt}{t:TS}(h:AR X.nox st t):AR X st t:=fun J2 s σ H D I a =>
 oO (h J2 s σ H D (I.wish _) a) (fun _ _ q=>q.unwish) fun _ _ z=>jO z
end
section
variable{X:Cx}{st:Stmt}{rest:List Stmt}{t u:TS}{e:Expr}{te:TE}{pos:Pos}
def bD:TS:=fun D σ H=>D.nx σ H
def ao(t u:TS):TS:=fun D σ H=>t { D with nx:=u D } σ H
theorem aL:AR X [] bD:=fun _ _ σ H _ I h=>CO ⟨σ,H,I,h⟩
theorem ab(g:PS X st t)(i:AR X rest u):AR X (st::rest) (ao t u):=by
 intro a s σ H D I h;refine wpAny_execs_cons (cF (g a s σ H { D with nx:=u D } I h) fun f j q=>?_);cases f with
 |next =>
  obtain⟨σ',k,l,q⟩:=q;exact i a j σ' k D l q
 |ret v=>exact q
 |brk=>exact q
 |cont=>exact q
theorem af(a:PS X st t):AR X [st] t:=by
 intro g s σ H D I h;refine wpAny_execs_cons (cF (a g s σ H D I h) fun f i q=>?_);cases f with
 |next=>exact CO q
 |ret v=>exact q
 |brk=>exact q
 |cont=>exact q
theorem Inv.quiet{a:Zd}{σ:St}{H:Hp}{s:Shared}(I:Inv X a σ H s):interactive X.env=false:=by simp[interactive,I.ok.kind]
def bG(te:TE):TS:=fun D σ H=>te σ H fun _ H1=>D.nx σ H1
theorem aP(a:PE X e te)(f:rj e none pos.line X.env=pure false:=by rfl):PS X (.Expr e pos) (bG te):=by
 intro g s σ H D I h;exact wpAny_Expr_any (cF (a g s σ H _ I h) fun v l ⟨x,i,j,m,k⟩=>⟨σ,i,j,k⟩) I.quiet f
def bm(te:TE):TS:=fun D σ H=>te σ H D.rt
theorem ax(a:PE X e te):PS X (.Return (some e) pos) (bm te):=by
 intro f s σ H D I h;exact wpAny_Return_some (cF (a f s σ H _ I h) fun v l ⟨x,g,i,j,k⟩=>⟨x,σ,g,i,j,k⟩)
def cg(c:TT)(t u:TS):TS:=fun D σ H=>c σ H fun b H1=>if b=true then t D σ H1 else u D σ H1
theorem bo{c:Expr}{a b:List Stmt}{i:TT}(n:PT X c i)(o:AR X a t)(p:AR X b u):PS X (.If c a b pos) (cg i t u):=by
 intro f s σ H D I h;refine wpAny_If (cF (n f s σ H _ I h) fun d j g=>?_);obtain⟨k,l,m⟩:=g;cases d with
 |true=>exact o f j σ k D l m
 |false=>exact p f j σ k D l m
def tQ:TS:=fun _ _ _=>False
theorem pi:PS X st tQ:=fun _ _ _ _ _ _ h=>h.elim
end
abbrev TG:=V->St->Hp->(St->Hp->Prop)->Prop
abbrev Ff:=List V->St->Hp->(St->Hp->Prop)->Prop
def PG(X:Cx)(target:Expr)(t:TG):Prop :=
 ∀(J2:Zd) (s:Shared) (σ:St) (H:Hp) (v:V) (u:Value) (Q:St->Hp->Prop),Inv X J2 σ H s->RelV v u->t v σ H Q ->
  wpAny (model X.prog X.w) X.A (assign target X.env u) (fun _ s'=>∃σ' H',Inv X J2 σ' H' s'/\Q σ' H') X.xe s
def Ks(X:Cx)(ts:List Expr)(t:Ff):Prop :=
 ∀(J2:Zd) (s:Shared) (σ:St) (H:Hp) (vs:List V) (us:Zf) (Q:St->Hp->Prop),Inv X J2 σ H s->bg vs us->t vs σ H Q ->
  wpAny (model X.prog X.w) X.A (assignInOrder ((vS ts X.env).map (·.2)) us) (fun _ s'=>∃σ' H',Inv X J2 σ' H' s'/\Q σ' H') X.xe s
abbrev Jy:=V->V->V->Hp->(Hp->Prop)->Prop
def J8(X:Cx)(t:Jy):Prop :=
 ∀(J2:Zd) (s:Shared) (σ:St) (H:Hp) (o i v:V) (ov iv u:Value) (Q:Hp->Prop),Inv X J2 σ H s->RelV o ov->RelV i iv->RelV v u->t o i v H Q ->
  wpAny (model X.prog X.w) X.A (setItem ov iv u) (fun _ s'=>∃H',Inv X J2 σ H' s'/\Q H') X.xe s
abbrev Kq:=V->V->Hp->VK->Prop
def PIp(X:Cx)(op:Operator)(t:Kq):Prop :=
 ∀(J2:Zd) (s:Shared) (σ:St) (H:Hp) (x y:V) (v u:Value) (Q:VK),Inv X J2 σ H s->RelV x v->RelV y u->t x y H Q ->
  wpAny (model X.prog X.w) X.A (inplaceOp op v u) (EP X J2 σ Q) X.xe s
section
variable{X:Cx}{pos:Pos}
def eO(i:Nat):TG:=fun v σ H Q=>Q (σ.set i (some v)) H
abbrev U0:TG:=eO 0
abbrev U1:TG:=eO 1
abbrev U2:TG:=eO 2
abbrev U3:TG:=eO 3
abbrev U4:TG:=eO 4
abbrev U5:TG:=eO 5
abbrev U6:TG:=eO 6
abbrev U7:TG:=eO 7
abbrev U8:TG:=eO 8
abbrev U9:TG:=eO 9
abbrev Kp:TG:=eO 10
abbrev U11:TG:=eO 11
abbrev U12:TG:=eO 12
theorem C7{i:Nat}{x:Str}(a:X.N.Nodup)(e:X.N[i]?=some x)(f:Loc X.env.scope x)(g:X.fn x=true∨X.env.scope.names.lookup x=some .local:=by first|exact .inl rfl|exact .inr rfl|assumption):PG X (.Name x pos) (eO i):=by
 intro k s σ H v u Q I r h;exact wpAny_assign_Name (t4 I a e f r (fun l j=>⟨_,H,j,h⟩) g)
def iM:Ff:=fun vs σ H Q=>vs=[]/\Q σ H
def bj(t:TG)(u:Ff):Ff:=fun vs σ H Q=>∃v r,vs=v::r/\t v σ H fun σ' H'=>u r σ' H' Q
theorem cP:Ks X [] iM:=by
 intro a s σ H f g Q I r h;obtain⟨e,h⟩:=h;subst e;cases r;exact assignInOrder_nil ⟨σ,H,I,h⟩
theorem aA{e:Expr}{a:List Expr}{t:TG}{u:Ff}(i:PG X e t)(j:Ks X a u)
  (k:(vS (e::a) X.env).map (·.2)=assign e X.env::(vS a X.env).map (·.2):=by rfl):Ks X (e::a) (bj t u):=by
 intro g s σ H w x Q I r h;obtain⟨v,y,l,h⟩:=h;subst l;cases r with
 |cons r m =>
  rw[k];refine assignInOrder_cons (cF (i g s σ H _ _ _ I r h) fun _ n f=>?_);obtain⟨σ1,o,p,q⟩:=f;exact j g n σ1 o _ _ Q p m q
def jg(K:Za)(n:Nat)(t:Ff):TG:=fun v σ H Q=>∃a xs,v=.ref a/\be K H a xs/\xs.length=n/\t xs σ H Q
theorem dU{f:List Expr}{k:Nat}{t:Ff}{n:Nat}(m:X.calm=true)(h:Ks X f t)
  (p:(vS f X.env).length=n:=by rfl) (g:(vS f X.env).findIdx? (·.1)=none:=by rfl):PG X (.Tuple f k pos) (jg X.K n t):=by
 intro j s σ H v u Q I r i;obtain⟨a,q,w,x,y,i⟩:=i;subst w;cases r;obtain⟨z,l,A,E⟩:=I.tuple x;refine assign_Tuple_tuple (I.ok.hd m) A (by simp[p,<-y,l.length]) g fun B C=>?_;have D:Inv X j σ H { s with heap:=B }:=I.kept (t':=s.toks) fun b o e=>C b o (dg (bC e)) e;exact h j _ σ H q _ Q D (by simpa using l) i
def BW(to ti:TE)(t:Jy):TG:=fun v σ H Q=>to σ H fun o H1=>ti σ H1 fun i H2=>t o i v H2 fun H3=>Q σ H3
theorem uk{o i:Expr}{to j:TE}{t:Jy}(k:PE X o to)(l:PE X i j)(m:J8 X t)
  (n:∀v,assign (.Subscript o i pos) X.env v=(do
   let e <- ln [v] (eval o X.env)
   let f <- ln [v,e] (eval i X.env)
   rq pos
   ln [v,e,f] (setItem e f v)
   release [v,e,f] []):=by intro _;rfl):PG X (.Subscript o i pos) (BW to j t):=by
 intro g s σ H v u Q I r h;rw[n];refine aq (lA (cF (k g s σ H _ I h) fun e p a=>?_));obtain⟨x,q,w,z,A⟩:=a;refine aq (lA (cF (l g p σ q _ w A) fun f B a=>?_));obtain⟨y,C,D,E,G⟩:=a;refine aq (CN (aq (lA (cF (m g B σ C x y v e f u _ D z E r G) fun _ N a=>?_))));obtain⟨J,L,M⟩:=a;exact wpAny_release ⟨σ,J,L,M⟩
def aK(te:TE)(g:TG):TS:=fun D σ H=>te σ H fun x H1=>g x σ H1 D.nx
theorem i7{tg e:Expr}{f:TE}{g:TG}(j:PE X e f)(k:PG X tg g)(l:swapsWithSole [tg] e pos.line X.env=pure false:=by rfl)(m:swappedStores [tg] e X.env=pure none:=by rfl)
  (n:(vS [tg] X.env).map (·.2)=[assign tg X.env]:=by rfl):PS X (.Assign [tg] e pos) (aK f g):=by
 intro i s σ H D I h;refine wpAny_Assign_stores (cF (j i s σ H _ I h) fun v o a=>?_) l m;obtain⟨x,p,r,t,u⟩:=a;rw[n];exact cF (k i o σ p x v _ r t u) fun _ w q=>q
theorem Jf{i:Nat}{x:Str}{e:Expr}{g:TE}{a:Pos}(j:X.N.Nodup)(k:X.N[i]?=some x)(l:Loc X.env.scope x)(m:PE X e g)(n:rj e (some (.Name x a)) pos.line X.env=pure false:=by rfl)(o:X.fn x=true∨X.env.scope.names.lookup x=some .local:=by first|exact .inl rfl|exact .inr rfl|assumption):
  PS X (.Assign [.Name x a] e pos) (aK g (eO i)):=by
 intro p s σ H D I h;refine wpAny_Assign_Name (cF (m p s σ H _ I h) fun v z f=>?_) n;obtain⟨y,q,r,t,u⟩:=f;exact t4 r j k l t (fun A w=>⟨_,q,w,u⟩) o
def JL(i:Nat)(te:TE)(ti:Kq):TS:=fun D σ H=>∃x,σ[i]?=some (some x)/\te σ H fun y H1=>ti x y H1 fun z H2=>D.nx (σ.set i (some z)) H2
theorem Jg{i:Nat}{x:Str}{e:Expr}{t:TE}{o:Operator}{B:Kq}{g:Pos}(E:X.N.Nodup)(C:X.N[i]?=some x)(p:Loc X.env.scope x)(G:PE X e t)(J:PIp X o B)(L:X.fn x=true∨X.env.scope.names.lookup x=some .local:=by first|exact .inl rfl|exact .inr rfl|assumption):
  PS X (.AugAssign (.Name x g) o e pos) (JL i t B):=by
 intro J2 s σ H D I h;obtain⟨v,M,h⟩:=h;obtain⟨m,O,Q⟩:=I.loc;have q:Ko X.env.scope x:=by rcases p with k|k;exact .inl k;exact .inr (.inl k)
 obtain⟨u,r,l⟩:=Q i x v C M q;refine wpAny_AugAssign_Name ?_;have go:wpAny (model X.prog X.w) X.A (eval e X.env) (fun w j=>wpAny (model X.prog X.w) X.A (inplaceOp o u w) (fun r n=>wpAny (model X.prog X.w) X.A (storeName X.env x r) (fun _=>SP X J2 D .next) X.xe n) X.xe j) X.xe s:=by
  refine cF (G J2 s σ H _ I h) fun w T a=>?_;obtain⟨y,U,Y,r1,q1⟩:=a;refine cF (J J2 T σ U v y u w _ Y r r1 q1) fun z s2 a=>?_;obtain⟨zv,H2,I2,r2,q2⟩:=a;exact t4 I2 E C p r2 (fun s3 I3=>⟨_,H2,I3,q2⟩) L
 rcases l with⟨hk,hm⟩|⟨hk,c,hc,f⟩
 ·exact wpAny_loadName_local I.ok.kind hk O hm go
 ·rcases hk with hk|hk
  ·exact wpAny_loadName_cell I.ok.kind hk hc f go
  ·rcases p with k|k
   ·have:X.env.scope.names.lookup x=some .free:=hk;rw[k]at this;cases this
   ·have:X.env.scope.names.lookup x=some .free:=hk;rw[k]at this;cases this
def ipI(f:Int->Int->Int):Kq:=fun x y H Q=>∃i j,x=.int i/\y=.int j/\Q (.int (f i j)) H
theorem Js:PIp X .Add (ipI fun i j=>i+j):=by
 intro k s σ H x y v u Q I a e h;obtain⟨i,j,f,g,q⟩:=h;subst f;subst g;obtain⟨t,rfl⟩:=a;obtain⟨l,rfl⟩:=e;exact iadd_int ⟨.int _,H,I.tok _,⟨_,rfl⟩,q⟩
end
section
variable{X:Cx}{pos:Pos}
def km(c:TT)(tb:TS):TS:=fun D σ H=>∃W:Nat->St->Hp->Prop,(∃m,W m σ H)/\∀m σ H,W m σ H ->
 c σ H fun b H1=>if b=true then ∃N:St->Hp->Prop,(∀σ' H',N σ' H'->∃m',m'<m/\W m' σ' H')/\tb { D with nx:=N,ct:=N,bk:=D.nx } σ H1 else D.nx σ H1
theorem ib{c:Expr}{a:List Stmt}{q:TT}{r:TS}(t:PassesOwn (model X.prog X.w) X.A X.env X.xe)(C:PT X c q)(E:AR X a r):PS X (.While c a [] pos) (km q r):=by
 intro J2 s σ H D I h;obtain⟨W,⟨G,J⟩,turn⟩:=h;refine wpAny_While (codeAny_whileLoop (fun n L=>∃σ' u,Inv X J2 σ' u L/\W n σ' u) ?_ G ⟨σ,H,I,J⟩);rintro n M ⟨σ1,x,O,Q⟩;refine sM t (cF (C J2 M σ1 x _ O (turn n σ1 x Q)) fun b T j=>?_);obtain⟨y,z,g⟩:=j;cases b with
 |true =>
  obtain⟨N,B,g⟩:=g;rw[if_pos rfl];refine sM t (cF (E J2 T σ1 y _ z g) fun f U i=>?_);cases f with
  |next =>
   obtain⟨σ3,e,k,l⟩:=i;obtain⟨m,o,p⟩:=B σ3 e l;exact⟨m,o,σ3,e,k,p⟩
  |cont =>
   obtain⟨σ3,e,k,l⟩:=i;obtain⟨m,o,p⟩:=B σ3 e l;exact⟨m,o,σ3,e,k,p⟩
  |brk=>exact i
  |ret v=>exact i
 |false =>
  rw[if_neg h7];exact CO ⟨σ1,y,z,g⟩
end
structure It where
 go:Nat->Hp->Prop
 yld:Nat->Hp->V->Hp->Prop
 stop:Nat->Hp->Prop
def oz(X:Cx)(J2:Zd)(H:Hp)(b:Addr):Prop :=
 H b=none/\b≠X.env.locals/\b∉X.fs/\(b∈X.ex∨X.s₀.heap.objs.size<=b)/\(∀x c,X.env.cells.lookup x=some c->c≠b)/\∀p∈X.pn++J2,p.1≠b
theorem Inv.fpOk{X:Cx}{f:Zd}{σ:St}{H g:Hp}{s:Shared}{b:Addr}(I:Inv X f σ H s)(a:s.heap.objs.size<=b)(h:g b=none):oz X f g b:=by
 refine⟨h,lh (iW I.lt a),I.nofs a,.inr (bB I.sz a),fun x c e z=>?_,fun p i z=>?_⟩
 ·obtain⟨v,q⟩:=I.cell x c e;exact absurd (iW q.lt (by rw[z];exact a)) (rA _)
 ·exact absurd (iW (bC (I.pin p i).1) (by rw[z];exact a)) (rA _)
structure sf(P:bV)(w:World)(K:Za)(tg:Expr)(J:It)(fp:Ze)(it:Addr)(tn:Nat->Heap->Prop):Prop where
 mem:it∈fp
 obj:∀i h,tn i h->∀b∈fp,∃o,h.get? b=some o/\∀v,o.data≠.cell v
 keep:∀i h h',tn i h->(∀b∈fp,∀o,h.get? b=some o->h'.get? b=some o)->tn i h'
 item:∀(X:Cx),X.prog=P->X.w=w->X.K=K->X.calm=true->∀(i:Nat) (J2:Zd) (s:Shared) (σ:St) (H:Hp) (E:Zc),Inv X J2 σ H s->(∀b∈fp,oz X J2 H b)->tn i s.heap->J.go i H ->
  wpAny (model P w) X.A (pyNext (.ref it)) (fun r s1=>∃u,r=some u /\
   wpAny (model P w) X.A (CM tg (.ref it) u) (fun _ s2=>∃x H',Inv X J2 σ H' s2/\RelV x u/\J.yld i H x H'/\tn (i+1) s2.heap/\∀b∈fp,H' b=none) E s1) E s
 done:∀(X:Cx),X.prog=P->X.w=w->X.K=K->X.calm=true->∀(i:Nat) (J2:Zd) (s:Shared) (σ:St) (H:Hp) (E:Zc),Inv X J2 σ H s->(∀b∈fp,oz X J2 H b)->tn i s.heap->J.stop i H ->
  wpAny (model P w) X.A (pyNext (.ref it)) (fun r s1=>r=none/\Inv X J2 σ H s1) E s
 self:∀(A:Around) (i:Nat) (s:Shared) (Q:Zc) (E:Zc),tn i s.heap->Q (.ref it) s->wpAny (model P w) A (pyIter (.ref it)) Q E s
abbrev TI:=St->Hp->(It->Hp->Prop)->Prop
def J9(X:Cx)(J2:Zd)(σ:St)(tg:Expr)(R:It->Hp->Prop)(itv:Value)(s2:Shared):Prop :=
 ∃(it:Addr) (fp:Ze) (tn:Nat->Heap->Prop) (J:It) (H':Hp),itv=.ref it/\Inv X J2 σ H' s2/\sf X.prog X.w X.K tg J fp it tn/\tn 0 s2.heap/\(∀b∈fp,oz X J2 H' b)/\R J H'
def PI(X:Cx)(tg iter:Expr)(wi:TI):Prop :=
 ∀(J2:Zd) (s:Shared) (σ:St) (H:Hp) (R:It->Hp->Prop),Inv X J2 σ H s->wi σ H R ->
  wpAny (model X.prog X.w) X.A (eval iter X.env) (fun v s1=>wpAny (model X.prog X.w) X.A (pyIter v) (J9 X J2 σ tg R) X.xe s1) X.xe s
theorem uD{M:Model}{A:Around}{E:Zc}{s:Shared}{e:Expr}{it:Addr}{u:Value}{o:Obj}{n:String}{f:Array Value}{Q:Unit->Shared->Prop}(g:s.heap.get? it=some o)(i:o.cls=.type n)(j:o.data=.fields f)
    (k:["enumerate","zip","dict_itemiterator","dict_reverseitemiterator","odict_iterator","itertools.zip_longest","itertools.pairwise"].contains n=false) (a:Q () s):wpAny M A (CM e (.ref it) u) Q E s:=by
  unfold CM;cases e<;>first
    |exact aV a
    | (cases u <;> first
        |exact aV a
        | (refine aq (wpAny_load g ?_)
           rw[i,j];show wpAny M A (if(["enumerate","zip","dict_itemiterator","dict_reverseitemiterator","odict_iterator","itertools.zip_longest","itertools.pairwise"].contains n && f[0]?==some (rawInt _))=true then _ else _) Q E s
           rw[if_neg (by intro h;rw[k,CL]at h;cases h)];exact aV a))
def Hf(K:Za)(a:Addr):It :=
 ⟨fun i H=>∃xs x,ay K H a xs/\xs[i]?=some x,fun i H x H'=>H'=H/\∀xs,ay K H a xs->xs[i]?=some x,fun i H=>∃xs,ay K H a xs/\xs.length<=i⟩
def JB(K:Za)(a:Addr):It :=
 ⟨fun i H=>∃xs x,be K H a xs/\xs[i]?=some x,fun i H x H'=>H'=H/\∀xs,be K H a xs->xs[i]?=some x,fun i H=>∃xs,be K H a xs/\xs.length<=i⟩
def JC(lo:Int)(n:Nat):It:=⟨fun i _=>i<n,fun i H x H'=>H'=H/\x=.int (lo+i),fun i _=>n<=i⟩
theorem vV{P:bV}{w:World}{K:Za}{O:Expr}(a it:Addr):sf P w K O (Hf K a) [it] it (fun i h=>h.IsListIter it a i) where
 mem:=by simp
 obj:=fun i h st b f=>by
  have e:b=it:=by simpa using f
  subst e;obtain⟨o,e,c,d⟩:=st;exact⟨o,e,fun v z=>by rw[d]at z;cases z⟩
 keep:=fun i h j st k=>st.at fun o e=>k it (by simp) o e
 item:=by
  intro X n q r M i N s σ H E I l st t;subst n q r;obtain⟨Q,x,m,y⟩:=t;obtain⟨A,B,p,T⟩:=I.list m;obtain⟨u,U,Y⟩:=B.get y;obtain⟨C,D,f2,G,J,L⟩:=l it (by simp);refine wpAny_pyNext_list_item st p.isList (x:=u) (by simpa using U) fun j g sb=>?_;have I1:Inv X N σ H { s with heap:=j }:=I.turned (t':=s.toks) (fun b o f e=>(sb.2 b f).trans e) C D G J L;obtain⟨o,e,c,d⟩:=id g;exact⟨u,rfl,uD (s:={ s with heap:=j }) e c d (by decide) ⟨x,H,I1,Y,⟨rfl,fun ys hy=>by rw[I.list_inj hy m];exact y⟩,g,fun b f=>(l b f).1⟩⟩
 done:=by
  intro X n q r M i N s σ H E I l st t;subst n q r;obtain⟨Q,m,y⟩:=t;obtain⟨A,B,p,T⟩:=I.list m;obtain⟨C,D,f2,G,J,L⟩:=l it (by simp);have hl:=B.length;exact wpAny_pyNext_list_end (I.ok.hd M) st p.isList (by simp;omega) fun j eb=>⟨rfl,I.turned (t':=s.toks) (fun b o f e=>eb b o f e) C D G J L⟩
 self:=fun _ _ _ _ _ st h=>wpAny_pyIter_listiter st h
theorem tJ{P:bV}{w:World}{K:Za}{O:Expr}(a it:Addr):sf P w K O (JB K a) [it] it (fun i h=>h.IsTupleIter it a i) where
 mem:=by simp
 obj:=fun i h st b f=>by
  have e:b=it:=by simpa using f
  subst e;obtain⟨o,e,c,d⟩:=st;exact⟨o,e,fun v z=>by rw[d]at z;cases z⟩
 keep:=fun i h l st k=>st.at fun o e=>k it (by simp) o e
 item:=by
  intro X q r t M i N s σ H E I m st y;subst q r t;obtain⟨Q,x,n,A⟩:=y;obtain⟨g,B,p,T⟩:=I.tuple n;obtain⟨u,U,Y⟩:=B.get A;obtain⟨C,D,f2,G,J,L⟩:=m it (by simp);refine wpAny_pyNext_tuple_item st (show s.heap.IsTuple a g.toArray from p) (x:=u) (by simpa using U) fun l j sb=>?_;have I1:Inv X N σ H { s with heap:=l }:=I.turned (t':=s.toks) (fun b o f e=>(sb.2 b f).trans e) C D G J L;obtain⟨o,e,c,d⟩:=id j;exact⟨u,rfl,uD (s:={ s with heap:=l }) e c d (by decide) ⟨x,H,I1,Y,⟨rfl,fun ys hy=>by rw[I.tuple_inj hy n];exact A⟩,j,fun b f=>(m b f).1⟩⟩
 done:=by
  intro X q r t M i N s σ H E I m st y;subst q r t;obtain⟨Q,n,A⟩:=y;obtain⟨g,B,p,T⟩:=I.tuple n;obtain⟨C,D,f2,G,J,L⟩:=m it (by simp);have hl:=B.length;exact wpAny_pyNext_tuple_end (I.ok.hd M) st (show s.heap.IsTuple a g.toArray from p) (by simp;omega) fun l eb=>⟨rfl,I.turned (t':=s.toks) (fun b o f e=>eb b o f e) C D G J L⟩
 self:=fun _ _ _ _ _ st h=>wpAny_pyIter_tupleiter st h
theorem AU{P:bV}{w:World}{K:Za}{D:Expr}(it:Addr)(lo:Int)(n:Nat):sf P w K D (JC lo n) [it] it (fun i h=>IsRangeIter h it (lo+(i:Nat) * 1) ((n:Int)-(i:Nat)) 1) where
 mem:=by simp
 obj:=fun i h st b a=>by
  have e:b=it:=by simpa using a
  subst e;exact⟨_,st,fun v z=>by
   have G:Data.fields _=Data.cell v:=z;cases G⟩
 keep:=fun i h g st k=>k it (by simp) _ st
 item:=by
  intro X l m p q i C s σ H E I j st r;subst l m p;obtain⟨u,x,J,y,A,B⟩:=j it (by simp);have W:=Walks.range (prog:=X.prog) (w:=X.w) (I.ok.hd q) it lo 1 n;refine W.item i s _ _ r st fun v g tk L f M=>?_;obtain⟨t,rfl⟩:=L;have N:Inv X C σ H { s with heap:=g,toks:=tk }:=I.turned (fun b o a e=>M b o (by simpa using a) e) u x y A B;refine⟨_,rfl,uD (s:={ s with heap:=g,toks:=tk }) (n:="range_iterator") f rfl rfl (by decide) ⟨.int (lo+i),H,N,⟨t,?_⟩,⟨rfl,rfl⟩,f,fun b a=>(j b a).1⟩⟩;rw[Int.mul_one]
 done:=by
  intro X l m p q i C s σ H E I j st r;subst l m p;obtain⟨u,x,J,y,A,B⟩:=j it (by simp);exact wpAny_pyNext_range_end (I.ok.hd q) st (by have:n<=i:=r;omega) fun g O=>⟨rfl,I.turned (t':=s.toks) (fun b o a e=>O b o a e) u x y A B⟩
 self:=fun _ _ _ _ _ st h=>wpAny_pyIter_rangeiter st h
end L2
namespace L2
open PySem PySem.Spec PyProof.Rows
section
variable{X:Cx}{tg:Expr}
def cj(K:Za)(tl:TE):TI:=fun σ H R=>tl σ H fun x H1=>∃a,x=.ref a/\(∃xs,ay K H1 a xs)/\R (Hf K a) H1
def H_(K:Za)(tl:TE):TI:=fun σ H R=>tl σ H fun x H1=>∃a,x=.ref a/\(∃xs,be K H1 a xs)/\R (JB K a) H1
theorem aZ{l:Expr}{j:TE}(k:PE X l j):PI X tg l (cj X.K j):=by
 intro m s σ H R I h;refine cF (k m s σ H _ I h) fun v f i=>?_;obtain⟨x,n,g,r,t⟩:=i;obtain⟨a,e,⟨z,u⟩,q⟩:=t;subst e;cases r;obtain⟨w,A,p,B⟩:=g.list u;refine yV p.isList ?_;refine⟨f.heap.objs.size,[f.heap.objs.size],_,_,n,rfl,g.kept (t':=f.toks) fun b o e=>cx _ e,vV a _,⟨_,dL _ rfl,rfl,rfl⟩,fun b y=>?_,q⟩;have e:b=f.heap.objs.size:=by simpa using y
 subst e;exact g.fpOk (aG _) (g.hok.fresh (aG _))
theorem BB{l:Expr}{k:TE}(m:PE X l k):PI X tg l (H_ X.K k):=by
 intro n s σ H R I h;refine cF (m n s σ H _ I h) fun v f i=>?_;obtain⟨x,r,g,t,u⟩:=i;obtain⟨a,e,⟨z,w⟩,q⟩:=u;subst e;cases t;obtain⟨j,A,p,B⟩:=g.tuple w;refine wpAny_pyIter_tuple (show f.heap.IsTuple a j.toArray from p) ?_;refine⟨f.heap.objs.size,[f.heap.objs.size],_,_,r,rfl,g.kept (t':=f.toks) fun b o e=>cx _ e,tJ a _,⟨_,dL _ rfl,rfl,rfl⟩,fun b y=>?_,q⟩;have e:b=f.heap.objs.size:=by simpa using y
 subst e;exact g.fpOk (aG _) (g.hok.fresh (aG _))
theorem FS{f:Zd}{σ:St}{H:Hp}{s:Shared}{R:It->Hp->Prop}{E:Zc}{lo a:Int}{t u v:Tok}{tk:Nat}(I:Inv X f σ H s)(h:-(2 ^ 62)<=lo)(i:lo<2 ^ 62)(j:-(2 ^ 62)<=a)(k:a<2 ^ 62)
  (q:R (JC lo (a-lo).toNat) H):wpAny (model X.prog X.w) X.A (pyIter (.ref s.heap.objs.size)) (J9 X f σ tg R) E { s with heap:=s.heap.push { cls:=.type "range",data:=.fields #[.int lo t,.int a u,.int 1 v] },toks:=tk }:=by
 refine wpAny_pyIter_range (IsRange.new ..) (small_one h i j k) ?_;have g:Inv X f σ H { s with heap:=s.heap.push { cls:=.type "range",data:=.fields #[.int lo t,.int a u,.int 1 v] },toks:=tk }:=I.kept fun b o e=>cx _ e;refine⟨(s.heap.push { cls:=.type "range",data:=.fields #[.int lo t,.int a u,.int 1 v] }).objs.size,[(s.heap.push { cls:=.type "range",data:=.fields #[.int lo t,.int a u,.int 1 v] }).objs.size],_,_,H,rfl,
  g.kept (t':=tk) fun b o e=>cx _ e,AU _ lo (a-lo).toNat,?_,fun b l=>?_,q⟩
 ·have m:lo+((0:Nat):Int) * 1=lo:=by simp
  have n:(((a-lo).toNat:Nat):Int)-((0:Nat):Int)=cV.Range.rangeSize lo a 1:=by rw[rangeSize_one];split<;>omega
  show IsRangeIter _ _ (lo+((0:Nat):Int) * 1) ((((a-lo).toNat:Nat):Int)-((0:Nat):Int)) 1;rw[m,n];exact dL _ rfl
 ·have e:b=(s.heap.push { cls:=.type "range",data:=.fields #[.int lo t,.int a u,.int 1 v] }).objs.size:=by simpa using l
  subst e;exact g.fpOk (aG _) (g.hok.fresh (aG _))
def wt(ta:TA):TI:=fun σ H R=>ta σ H fun vs H1=>∃j:Int,vs=[.int j]/\-(2 ^ 62)<=j/\j<2 ^ 62/\R (JC 0 j.toNat) H1
theorem jU{a:Expr}{k:TA}{p f:Pos}(l:Gl X "range")(m:X.mg "range"=none)(n:PA X [a] k)(o:aO [a] X.env=[(false,eval a X.env)]:=by rfl):PI X tg (.Call (.Name "range" p) [a] [] f) (wt k):=by
 intro u s σ H R I h;refine Call_ (qN I l m boot_range (CK (cF (n f u s σ H _ I h) fun z A g=>?_) o rfl));obtain⟨B,C,v,w,i⟩:=g;obtain⟨j,e,i,x,q⟩:=i;subst e;cases w with
 |cons r y =>
  cases y;obtain⟨t,rfl⟩:=r;exact call_range_1 (FS v (by omega) (by omega) i x (by simpa using q))
def eQ(wi:TI)(g:TG)(tb:TS):TS:=fun D σ H=>wi σ H fun J H1=>∃W:Nat->Nat->St->Hp->Prop,(∃m,W 0 m σ H1)/\∀i m σ H,W i m σ H ->
 (J.stop i H/\D.nx σ H)∨(J.go i H/\∃N:St->Hp->Prop,(∀σ' H',N σ' H'->∃m',m'<m/\W (i+1) m' σ' H')/\∀x H',J.yld i H x H'->g x σ H' fun σ2 H2=>tb { D with nx:=N,ct:=N,bk:=D.nx } σ2 H2)
def uj(fp:Ze)(h:Heap):List (Addr×Obj):=fp.filterMap fun b=>(h.get? b).map fun o=>(b,o)
theorem kG{fp:Ze}{h:Heap}{b:Addr}{o:Obj}(a:b∈fp)(e:h.get? b=some o):(b,o)∈uj fp h:=List.mem_filterMap.mpr ⟨b,a,by rw[e];rfl⟩
theorem Eo{a:Ze}{h:Heap}{p:Addr×Obj}(f:p∈uj a h):p.1∈a/\h.get? p.1=some p.2:=by
 obtain⟨b,g,e⟩:=List.mem_filterMap.mp f;cases q:h.get? b with
 |none=>rw[q]at e;cases e
 |some o =>
  rw[q]at e;have i:(b,o)=p:=fu e;subst i;exact⟨g,q⟩
theorem Inv.pinned{a:Zd}{σ:St}{H:Hp}{s:Shared}{f:Ze}(I:Inv X a σ H s)(i:∀b∈f,oz X a H b)(j:∀b∈f,∃o,s.heap.get? b=some o/\∀v,o.data≠.cell v):Inv X (a++uj f s.heap) σ H s :=
 I.pins_of fun p k=>(aX.mp k).elim (fun z=>I.pin p (cQ _ z)) fun z=>by
  obtain⟨g,e⟩:=Eo z;obtain⟨l,m,n,_⟩:=i p.1 g;obtain⟨o,h,d⟩:=j p.1 g;rw[e]at h;cases h;exact⟨e,l,m,n,d⟩
theorem Inv.unpinned{a e:Zd}{σ:St}{H:Hp}{s:Shared}(I:Inv X (a++e) σ H s):Inv X a σ H s:=I.pins_of fun p f=>I.pin p (cQ _ (cG _ f))
theorem bL{j:Expr}{y:List Stmt}{wi:TI}{g:TG}{tb:TS}{U:Pos}(E:PassesOwn (model X.prog X.w) X.A X.env X.xe)(hc:X.calm=true)(hi:PI X tg j wi)(hg:PG X tg g)(k:AR X y tb)
  (hs:∀x,yU j X.env x=pure x:=by intro _;rfl):PS X (.For tg j y [] U) (eQ wi g tb):=by
 intro B s σ H D I h;refine wpAny_For (cF (hi B s σ H _ I h) fun v s1 h1=>cF h1 fun as s2 h2=>?_) hs;obtain⟨it,G,tn,J,H2,e,I2,T,Y,f2,W,⟨m0,w0⟩,turn⟩:=h2;subst e;have l:∀{t:Hp},(∀b∈G,t b=none)->∀b∈G,oz X B t b:=fun hn b k=>⟨hn b k,(f2 b k).2⟩;refine codeAny_forLoop_any (fun n s'=>∃i σ' t,Inv X B σ' t s'/\tn i s'.heap/\(∀b∈G,t b=none)/\W i n σ' t) ?_ m0 ⟨0,σ,H2,I2,Y,fun b k=>(f2 b k).1,w0⟩;rintro n s3 ⟨i,σ3,Q,I3,L,M,w3⟩;rcases turn i n σ3 Q w3 with⟨stop,qn⟩|⟨go,N,hN,step⟩
 ·refine sM E (cF (T.done X rfl rfl rfl hc i B s3 σ3 Q X.xe I3 (l M) L stop) fun r s4 a=>?_);obtain⟨hr,I4⟩:=a;subst hr;exact CO ⟨σ3,Q,I4,qn⟩
 ·refine sM E (cF (T.item X rfl rfl rfl hc i B s3 σ3 Q X.xe I3 (l M) L go) fun r s4 a=>?_);obtain⟨u,hr,h4⟩:=a;subst hr;refine sM E (cF h4 fun _ s5 a=>?_);obtain⟨x,H5,I5,r5,y5,C,al⟩:=a;have an:=I5.pinned (l al) (T.obj _ _ C);refine sM E (cF (hg _ s5 σ3 H5 x u _ an r5 (step x H5 y5)) fun _ s6 a=>?_);obtain⟨σ6,H6,I6,q6⟩:=a;refine sM E (cF (k _ s6 σ6 H6 _ I6 q6) fun f s7 z=>?_);have again:∀{σ7:St}{p:Hp},Inv X (B++uj G s5.heap) σ7 p s7->N σ7 p->∃m,m<n/\∃i σ' t,Inv X B σ' t s7/\tn i s7.heap/\(∀b∈G,t b=none)/\W i m σ' t:=fun{σ7 p} q O=>by
   obtain⟨m',hm,w7⟩:=hN σ7 p O;refine⟨m',hm,i+1,σ7,p,q.unpinned,T.keep _ _ _ C fun b k o e=>(q.pin (b,o) (cQ _ (cQ _ (kG k e)))).1,fun b k=>?_,w7⟩;obtain⟨o,e,d⟩:=T.obj _ _ C b k;exact(q.pin (b,o) (cQ _ (cQ _ (kG k e)))).2.1
  cases f with
  |next=>obtain⟨σ7,p,q,O⟩:=z;exact again q O
  |cont=>obtain⟨σ7,p,q,O⟩:=z;exact again q O
  |brk=>obtain⟨σ7,p,q,z⟩:=z;exact⟨σ7,p,q.unpinned,z⟩
  |ret v=>obtain⟨x7,σ7,p,q,r7,z⟩:=z;exact⟨x7,σ7,p,q.unpinned,r7,z⟩
end
theorem bR{K:Za}{a:Addr}{xs:List V}{g:TG}{k:TS}{D:mj}{σ:St}{H:Hp}(Pv:Nat->St->Hp->Prop)(n:Pv 0 σ H)(o:∀i σ H,i<=xs.length->Pv i σ H->ay K H a xs)
  (r:∀i x σ H,xs[i]?=some x->Pv i σ H->g x σ H fun σ2 j=>k { D with nx:=Pv (i+1),ct:=Pv (i+1),bk:=D.nx } σ2 j) (s:∀σ H,Pv xs.length σ H->D.nx σ H) :
  ∃W:Nat->Nat->St->Hp->Prop,(∃m,W 0 m σ H)/\∀i m σ H,W i m σ H ->
   ((Hf K a).stop i H/\D.nx σ H)∨((Hf K a).go i H/\∃N:St->Hp->Prop,(∀σ' f,N σ' f->∃l,l<m/\W (i+1) l σ' f)/\∀x f,(Hf K a).yld i H x f->g x σ f fun σ2 j=>k { D with nx:=N,ct:=N,bk:=D.nx } σ2 j):=by
 refine⟨fun i m σ H=>m=xs.length-i/\i<=xs.length/\Pv i σ H,⟨xs.length,by simp,c_ _,n⟩,?_⟩;rintro i m σ H ⟨rfl,t,p⟩;have q:=o i σ H t p;by_cases h:i<xs.length
 ·refine .inr ⟨⟨xs,xs[i],q,by simp[h]⟩,Pv (i+1),fun σ' f u=>⟨xs.length-(i+1),by omega,rfl,h,u⟩,fun x f y=>?_⟩;obtain⟨e,y⟩:=y;subst e;exact r i x σ _ (y xs q) p
 ·have e:i=xs.length:=by omega
  subst e;exact .inl ⟨⟨xs,q,aG _⟩,s σ H p⟩
theorem Dp{K:Za}{a:Addr}{xs:List V}{g:TG}{k:TS}{D:mj}{σ:St}{H:Hp}(Pv:Nat->St->Hp->Prop)(n:Pv 0 σ H)(o:∀i σ H,i<=xs.length->Pv i σ H->be K H a xs)
  (r:∀i x σ H,xs[i]?=some x->Pv i σ H->g x σ H fun σ2 j=>k { D with nx:=Pv (i+1),ct:=Pv (i+1),bk:=D.nx } σ2 j) (s:∀σ H,Pv xs.length σ H->D.nx σ H) :
  ∃W:Nat->Nat->St->Hp->Prop,(∃m,W 0 m σ H)/\∀i m σ H,W i m σ H ->
   ((JB K a).stop i H/\D.nx σ H)∨((JB K a).go i H/\∃N:St->Hp->Prop,(∀σ' f,N σ' f->∃l,l<m/\W (i+1) l σ' f)/\∀x f,(JB K a).yld i H x f->g x σ f fun σ2 j=>k { D with nx:=N,ct:=N,bk:=D.nx } σ2 j):=by
 refine⟨fun i m σ H=>m=xs.length-i/\i<=xs.length/\Pv i σ H,⟨xs.length,by simp,c_ _,n⟩,?_⟩;rintro i m σ H ⟨rfl,t,p⟩;have q:=o i σ H t p;by_cases h:i<xs.length
 ·refine .inr ⟨⟨xs,xs[i],q,by simp[h]⟩,Pv (i+1),fun σ' f u=>⟨xs.length-(i+1),by omega,rfl,h,u⟩,fun x f y=>?_⟩;obtain⟨e,y⟩:=y;subst e;exact r i x σ _ (y xs q) p
 ·have e:i=xs.length:=by omega
  subst e;exact .inl ⟨⟨xs,q,aG _⟩,s σ H p⟩
theorem mJ{lo:Int}{n:Nat}{g:TG}{j:TS}{D:mj}{σ:St}{H:Hp}(Pv:Nat->St->Hp->Prop)(l:Pv 0 σ H)
  (o:∀i σ H,i<n->Pv i σ H->g (.int (lo+i)) σ H fun σ2 h=>j { D with nx:=Pv (i+1),ct:=Pv (i+1),bk:=D.nx } σ2 h) (q:∀σ H,Pv n σ H->D.nx σ H) :
  ∃W:Nat->Nat->St->Hp->Prop,(∃m,W 0 m σ H)/\∀i m σ H,W i m σ H ->
   ((JC lo n).stop i H/\D.nx σ H)∨((JC lo n).go i H/\∃N:St->Hp->Prop,(∀σ' a,N σ' a->∃k,k<m/\W (i+1) k σ' a)/\∀x a,(JC lo n).yld i H x a->g x σ a fun σ2 h=>j { D with nx:=N,ct:=N,bk:=D.nx } σ2 h):=by
 refine⟨fun i m σ H=>m=n-i/\i<=n/\Pv i σ H,⟨n,by simp,c_ _,l⟩,?_⟩;rintro i m σ H ⟨rfl,s,p⟩;by_cases f:i<n
 ·refine .inr ⟨f,Pv (i+1),fun σ' a r=>⟨n-(i+1),by omega,rfl,f,r⟩,fun x a y=>?_⟩;obtain⟨e,y⟩:=y;subst e y;exact o i σ _ f p
 ·have e:i=n:=by omega
  subst e;exact .inl ⟨aG _,q σ H p⟩
end L2
namespace L2
open PySem PySem.Spec PyProof.Rows
abbrev R2:=V->V->Hp->VK->Prop
def oI(X:Cx)(f:Value->Value->Sem Value)(r:R2):Prop :=
 ∀(J2:Zd) (s:Shared) (σ:St) (H:Hp) (x y:V) (v u:Value) (Q:VK),Inv X J2 σ H s->RelV x v->RelV y u->r x y H Q ->
  wpAny (model X.prog X.w) X.A (f v u) (EP X J2 σ Q) X.xe s
def UnR(X:Cx)(f:Value->Sem Value)(r:V->Hp->VK->Prop):Prop :=
 ∀(J2:Zd) (s:Shared) (σ:St) (H:Hp) (x:V) (v:Value) (Q:VK),Inv X J2 σ H s->RelV x v->r x H Q ->
  wpAny (model X.prog X.w) X.A (f v) (EP X J2 σ Q) X.xe s
def fZ(X:Cx)(f:Value)(r:List V->Hp->VK->Prop):Prop :=
 ∀(J2:Zd) (s:Shared) (σ:St) (H:Hp) (xs:List V) (us:Zf) (Q:VK),Inv X J2 σ H s->bg xs us->r xs H Q ->
  wpAny (model X.prog X.w) X.A (call f us) (EP X J2 σ Q) X.xe s
def aH(r:R2)(ta tb:TE):TE:=fun σ H Q=>ta σ H fun x H1=>tb σ H1 fun y H2=>r x y H2 Q
def tUn(r:V->Hp->VK->Prop)(ta:TE):TE:=fun σ H Q=>ta σ H fun x H1=>r x H1 Q
def rI(C:Int->Int->Prop)(g:Int->Int->V):R2:=fun x y H Q=>∃i j,x=.int i/\y=.int j/\C i j/\Q (g i j) H
def EZ(g:Int->Int->V):R2:=fun x y H Q=>∃i j,x=.int i/\y=.int j/\Q (g i j) H
def rU(g:Int->V):V->Hp->VK->Prop:=fun x H Q=>∃i,x=.int i/\Q (g i) H
section
variable{X:Cx}{a b c:Expr}{ta tb tc:TE}{pos:Pos}
theorem Jw(n:PE X a ta)(o:PE X b tb){k:Zd}{s:Shared}{σ:St}{H:Hp}{R:V->V->Hp->Prop}(I:Inv X k σ H s)
  (h:ta σ H fun x m=>tb σ m fun y g=>R x y g) {Q:Zc}{f:Value->Value->Sem Value}
  (p:∀v u l x y g,Inv X k σ g l->RelV x v->RelV y u->R x y g->wpAny (model X.prog X.w) X.A (f v u) Q X.xe l) :
  wpAny (model X.prog X.w) X.A (eval a X.env) (fun v i=>wpAny (model X.prog X.w) X.A (eval b X.env) (fun u j=>wpAny (model X.prog X.w) X.A (f v u) Q X.xe j) X.xe i) X.xe s:=by
 refine cF (n k s σ H _ I h) fun v q e=>?_;obtain⟨x,m,r,t,z⟩:=e;refine cF (o k q σ m _ r z) fun u l e=>?_;obtain⟨y,g,B,C,D⟩:=e;exact p v u l x y g B t C D
theorem ba{e:Operator}{r:R2}(f:oI X (rh e) r)(g:PE X a ta)(i:PE X b tb):PE X (.BinOp a e b pos) (aH r ta tb):=by
 intro j s σ H Q I h;exact wpAny_BinOp (Jw g i I h fun v u k x y l m n o q=>f j k σ l x y v u Q m n o q)
theorem IH{e:UnaryOp}{r:V->Hp->VK->Prop}(g:UnR X (unaryOp e) r)(i:PE X a ta):PE X (.UnaryOp e a pos) (tUn r ta):=by
 intro f s σ H Q I h;exact UnaryOp_ (cF (i f s σ H _ I h) fun v j ⟨x,k,l,m,n⟩=>g f j σ k x v Q l m n)
theorem Km{f:Value->Value->Sem Value}{C:Int->Int->Prop}{g:Int->Int->Int}
  (rule:∀(i j:Int) (t u:Tok) (s:Shared) (Q:Zc) (E:Zc),C i j->Q (.int (g i j) s.toks) { s with toks:=s.toks+1 }->wpAny (model X.prog X.w) X.A (f (.int i t) (.int j u)) Q E s) :
  oI X f (rI C fun i j=>.int (g i j)):=by
 intro n s σ H x y v u Q I e k h;obtain⟨i,j,rfl,rfl,l,q⟩:=h;obtain⟨t,rfl⟩:=e;obtain⟨m,rfl⟩:=k;exact rule i j t m s _ _ l ⟨.int (g i j),H,I.tok _,⟨_,rfl⟩,q⟩
theorem opI0{f:Value->Value->Sem Value}{g:Int->Int->Int}
  (rule:∀(i j:Int) (t u:Tok) (s:Shared) (Q:Zc) (E:Zc),Q (.int (g i j) s.toks) { s with toks:=s.toks+1 }->wpAny (model X.prog X.w) X.A (f (.int i t) (.int j u)) Q E s) :
  oI X f (EZ fun i j=>.int (g i j)):=by
 intro m s σ H x y v u Q I e k h;obtain⟨i,j,rfl,rfl,q⟩:=h;obtain⟨t,rfl⟩:=e;obtain⟨l,rfl⟩:=k;exact rule i j t l s _ _ ⟨.int (g i j),H,I.tok _,⟨_,rfl⟩,q⟩
theorem HU{f:Value->Value->Sem Value}{g:Int->Int->Bool}
  (rule:∀(i j:Int) (t u:Tok) (s:Shared) (Q:Zc) (E:Zc),Q (.bool (g i j)) s->wpAny (model X.prog X.w) X.A (f (.int i t) (.int j u)) Q E s) :
  oI X f (EZ fun i j=>.bl (g i j)):=by
 intro m s σ H x y v u Q I e k h;obtain⟨i,j,rfl,rfl,q⟩:=h;obtain⟨t,rfl⟩:=e;obtain⟨l,rfl⟩:=k;exact rule i j t l s _ _ ⟨.bl (g i j),H,I,rfl,q⟩
def Kk(i j:Int):Prop:=0<j/\j<1073741824
def Kj(i j:Int):Prop:=0<=j/\j<=1000000/\i.natAbs<2 ^ 64
def G_(i j:Int):Prop:=(-(2 ^ 64)<i/\i<2 ^ 64)∨(-(2 ^ 64)<j/\j<2 ^ 64)
theorem G_.ok{i j:Int}(h:G_ i j):IntMulOk i j:=by
 rcases h with⟨e,f⟩|⟨e,f⟩
 ·exact .of_left (intBits_le_64 e f)
 ·exact .of_right (intBits_le_64 e f)
theorem dw:oI X (rh .Add) (EZ fun i j=>.int (i+j)):=opI0 fun _ _ _ _ _ _ _ q=>add_int q
theorem i9:oI X (rh .Mult) (rI G_ fun i j=>.int (i * j)):=Km fun _ _ _ _ _ _ _ e q=>mul_int q e.ok
theorem De:oI X (rh .FloorDiv) (rI Kk fun i j=>.int (i / j)):=Km fun i j _ _ _ _ _ e q=>by
 have f:(0:Int)<j:=e.1;have g:j<1073741824:=e.2;exact floordiv_int (by omega) (by rw[Int.fdiv_eq_ediv_of_nonneg i (by omega)];exact q) (.inl (PyProof.noPylong_small (by omega)))
theorem gV:oI X (rh .Mod) (rI (fun _ j=>0<j) fun i j=>.int (i % j)):=Km fun i j _ _ _ _ _ e q=>by
 have f:(0:Int)<j:=e;exact mod_int' (by omega) (by rw[Int.fmod_eq_emod_of_nonneg i (by omega)];exact q)
theorem Gb:oI X (rh .Pow) (rI Kj fun i j=>.int (i ^ j.toNat)):=Km fun _ _ _ _ _ _ _ e q=>pow_int_small e.1 e.2.1 e.2.2 q
theorem unI{f:Value->Sem Value}{g:Int->Int}
  (rule:∀(i:Int) (t:Tok) (s:Shared) (Q:Zc) (E:Zc),Q (.int (g i) s.toks) { s with toks:=s.toks+1 }->wpAny (model X.prog X.w) X.A (f (.int i t)) Q E s) :
  UnR X f (rU fun i=>.int (g i)):=by
 intro j s σ H x v Q I e h;obtain⟨i,rfl,q⟩:=h;obtain⟨t,rfl⟩:=e;exact rule i t s _ _ ⟨.int (g i),H,I.tok _,⟨_,rfl⟩,q⟩
theorem Fn:UnR X (unaryOp .USub) (rU fun i=>.int (-i)):=unI fun _ _ _ _ _ q=>neg_int q
end
def JM:V->V->Bool
 |.non,.non=>true | .non,.int _=>true | .int _,.non=>true | .non,.bl _=>true | .bl _,.non=>true | .non,.str _=>true | .str _,.non=>true
 |.int _,.int _=>true | .bl _,.bl _=>true | .str _,.str _=>true | .byt _,.byt _=>true
 |.int _,.str _=>true | .str _,.int _=>true | .bl _,.str _=>true | .str _,.bl _=>true
 |_,_=>false
def zS:R2:=fun x y H Q=>JM x y=true/\Q (.bl (decide (x=y))) H
def HG:R2:=fun x y H Q=>JM x y=true/\Q (.bl (!decide (x=y))) H
theorem Dt{i j:Int}:decide (V.int i=V.int j)=(i==j):=by
 rw[sL];simp
theorem GK{i j:Bool}:decide (V.bl i=V.bl j)=(i==j):=by
 rw[sL];simp
theorem Dr{i j:Str}:decide (V.str i=V.str j)=(i==j):=by
 rw[sL];simp
theorem Du{i j:Array UInt8}:decide (V.byt i=V.byt j)=(i.toList==j.toList):=by
 rw[sL];cases i;cases j;simp
section
variable{X:Cx}{a b c:Expr}{ta tb tc:TE}{pos:Pos}
theorem bX{f:Zd}{σ:St}{H:Hp}{s:Shared}{Q:VK}{k g:Bool}(I:Inv X f σ H s)(q:Q (.bl k) H)(e:k=g):EP X f σ Q (.bool g) s:=by
 subst e;exact⟨.bl k,H,I,rfl,q⟩
theorem i_:oI X (fq .Eq) zS:=by
 intro l s σ H x y v u Q I k e h;obtain⟨g,q⟩:=h;cases x with
 |non =>
  cases k;cases y with
  |non=>cases e;exact PySem.EqNone.eq_none_none (bX I q (by simp))
  |bl j=>cases e;exact PySem.EqNone.eq_none_bool (bX I q (by simp))
  |int j=>obtain⟨f,rfl⟩:=e;exact PySem.EqNone.eq_none_int (bX I q (by simp))
  |str j=>obtain⟨f,rfl⟩:=e;exact PySem.EqNone.eq_none_str (bX I q (by simp))
  |_=>exact absurd (show false=true from g) h7
 |bl i =>
  cases k;cases y with
  |non=>cases e;exact PySem.EqNone.eq_bool_none (bX I q (by simp))
  |bl j=>cases e;exact eq_bool (bX I q GK)
  |str j=>obtain⟨f,rfl⟩:=e;exact PySem.EqMixed.eq_bool_str (bX I q (by simp))
  |_=>exact absurd (show false=true from g) h7
 |int i =>
  obtain⟨t,rfl⟩:=k;cases y with
  |non=>cases e;exact PySem.EqNone.eq_int_none (bX I q (by simp))
  |int j=>obtain⟨f,rfl⟩:=e;exact eq_int (bX I q Dt)
  |str j=>obtain⟨f,rfl⟩:=e;exact PySem.EqMixed.eq_int_str (bX I q (by simp))
  |_=>exact absurd (show false=true from g) h7
 |str i =>
  obtain⟨t,rfl⟩:=k;cases y with
  |non=>cases e;exact PySem.EqNone.eq_str_none (bX I q (by simp))
  |bl j=>cases e;exact PySem.EqMixed.eq_str_bool (bX I q (by simp))
  |int j=>obtain⟨f,rfl⟩:=e;exact PySem.EqMixed.eq_str_int (bX I q (by simp))
  |str j=>obtain⟨f,rfl⟩:=e;exact eq_str (bX I q Dr)
  |_=>exact absurd (show false=true from g) h7
 |byt i =>
  obtain⟨t,rfl⟩:=k;cases y with
  |byt j=>obtain⟨f,rfl⟩:=e;exact PySem.W.eq_bytes (bX I q Du)
  |_=>exact absurd (show false=true from g) h7
 |_=>cases y<;>exact absurd (show false=true from g) h7
theorem uo:oI X (fq .NotEq) HG:=by
 intro l s σ H x y v u Q I k e h;obtain⟨g,q⟩:=h;cases x with
 |non =>
  cases k;cases y with
  |non=>cases e;exact PySem.EqNone.ne_none_none (bX I q (by simp))
  |bl j=>cases e;exact PySem.EqNone.ne_none_bool (bX I q (by simp))
  |int j=>obtain⟨f,rfl⟩:=e;exact PySem.EqNone.ne_none_int (bX I q (by simp))
  |str j=>obtain⟨f,rfl⟩:=e;exact PySem.EqNone.ne_none_str (bX I q (by simp))
  |_=>exact absurd (show false=true from g) h7
 |bl i =>
  cases k;cases y with
  |non=>cases e;exact PySem.EqNone.ne_bool_none (bX I q (by simp))
  |bl j=>cases e;exact ne_bool (bX I q (congrArg not GK))
  |str j=>obtain⟨f,rfl⟩:=e;exact PySem.EqMixed.ne_bool_str (bX I q (by simp))
  |_=>exact absurd (show false=true from g) h7
 |int i =>
  obtain⟨t,rfl⟩:=k;cases y with
  |non=>cases e;exact PySem.EqNone.ne_int_none (bX I q (by simp))
  |int j=>obtain⟨f,rfl⟩:=e;exact ne_int (bX I q (congrArg not Dt))
  |str j=>obtain⟨f,rfl⟩:=e;exact PySem.EqMixed.ne_int_str (bX I q (by simp))
  |_=>exact absurd (show false=true from g) h7
 |str i =>
  obtain⟨t,rfl⟩:=k;cases y with
  |non=>cases e;exact PySem.EqNone.ne_str_none (bX I q (by simp))
  |bl j=>cases e;exact PySem.EqMixed.ne_str_bool (bX I q (by simp))
  |int j=>obtain⟨f,rfl⟩:=e;exact PySem.EqMixed.ne_str_int (bX I q (by simp))
  |str j=>obtain⟨f,rfl⟩:=e;exact ne_str (bX I q (congrArg not Dr))
  |_=>exact absurd (show false=true from g) h7
 |byt i =>
  obtain⟨t,rfl⟩:=k;cases y with
  |byt j=>obtain⟨f,rfl⟩:=e;exact PySem.W.ne_bytes (bX I q (congrArg not Du))
  |_=>exact absurd (show false=true from g) h7
 |_=>cases y<;>exact absurd (show false=true from g) h7
theorem v9:oI X (fq .Lt) (EZ fun i j=>.bl (decide (i<j))):=HU fun _ _ _ _ _ _ _ q=>lt_int q
theorem JS:oI X (fq .LtE) (EZ fun i j=>.bl (decide (i<=j))):=HU fun _ _ _ _ _ _ _ q=>le_int q
theorem v_:oI X (fq .Gt) (EZ fun i j=>.bl (decide (j<i))):=HU fun _ _ _ _ _ _ _ q=>gt_int q
theorem JT:oI X (fq .GtE) (EZ fun i j=>.bl (decide (j<=i))):=HU fun _ _ _ _ _ _ _ q=>ge_int q
theorem En:oI X (fq .In) (fun x y H Q=>∃i j,x=.str i/\y=.str j/\Q (.bl (!(cV.Str.occurrences j i 0 j.length 1).isEmpty)) H):=by
 intro g s σ H x y v u Q I e f h;obtain⟨i,j,rfl,rfl,q⟩:=h;obtain⟨t,rfl⟩:=e;obtain⟨k,rfl⟩:=f;exact in_str (bX I q rfl)
theorem Gf(b:Expr){e:CmpOp}(h:e≠.In:=by decide)(f:e≠.NotIn:=by decide):kY e b=false:=by
 have g:(e==CmpOp.In)=false:=by cases e<;>first|rfl|exact absurd rfl h
 have i:(e==CmpOp.NotIn)=false:=by cases e<;>first|rfl|exact absurd rfl f
 cases b<;>simp[kY,g,i]
theorem C9{e:CmpOp}{r:R2}(f:oI X (fq e) r)(g:PE X a ta)(i:PE X b tb)(j:kY e b=false):PE X (.Compare a [e] [b] pos) (aH r ta tb):=by
 intro k s σ H Q I h;exact wpAny_Compare1 (Jw g i I h fun v u l x y m n o p q=>f k l σ m x y v u Q n o p q) j
def aQ(t:TE):TT:=fun σ H Q=>t σ H fun x H'=>∃k,x=.bl k/\Q k H'
theorem C6{f:CmpOp}{r:R2}(i:oI X (fq f) r)(j:PE X a ta)(l:PE X b tb)(m:kY f b=false):PT X (.Compare a [f] [b] pos) (aQ (aH r ta tb)):=by
 intro g s σ H Q I h;refine wpAny_isTrue_Compare1 (cF (j g s σ H _ I h) fun v n ⟨x,o,p,q,t⟩=>cF (l g n σ o _ p t) fun u w ⟨y,A,B,C,D⟩ =>
  cF (i g w σ A x y v u _ B q C D) fun c M ⟨z,E,G,J,k,e,L⟩=>?_) m
 subst e;cases J;exact sX ⟨E,G,L⟩
theorem qM:(ak:Nat)<2 ^ 63:=by rw[ga];decide
theorem uq:oI X (rh .Add) (fun x y H Q=>∃i j,x=.str i/\y=.str j/\i.length+j.length<=ak/\Q (.str (i++j)) H):=by
 intro l s σ H x y v u Q I e f h;obtain⟨i,j,rfl,rfl,g,q⟩:=h;obtain⟨t,rfl⟩:=e;obtain⟨k,rfl⟩:=f;exact add_str (fun k tk=>⟨.str (i++j),H,I.tok _,⟨_,rfl⟩,q⟩) g
theorem vals1{x:V}{e:Zf}(r:bg [x] e):∃u,e=[u]/\RelV x u:=by
 cases r with
 |cons f g=>cases g;exact⟨_,rfl,f⟩
theorem vals2{x y:V}{e:Zf}(r:bg [x,y] e):∃u f,e=[u,f]/\RelV x u/\RelV y f:=by
 cases r with
 |cons g h =>
  cases h with
  |cons i j=>cases j;exact⟨_,_,rfl,g,i⟩
theorem EQ(g:X.calm=true):fZ X (.builtin "max") (fun f H Q=>∃i j,f=[.int i,.int j]/\Q (.int (if j > i then j else i)) H):=by
 intro l s σ H f m Q I r h;obtain⟨i,j,rfl,q⟩:=h;obtain⟨u,n,rfl,⟨t,rfl⟩,⟨o,rfl⟩⟩:=vals2 r;refine max_two_ints (I.ok.hd g) fun p tk k=>⟨_,H,I.kept k,?_,q⟩;by_cases e:j > i
 ·rw[if_pos e,if_pos e];exact⟨_,rfl⟩
 ·rw[if_neg e,if_neg e];exact⟨_,rfl⟩
end
end L2
namespace L2
open PySem PySem.Spec PyProof.Rows
structure Ck(h:Heap)(x dx C:Addr)(mA:Str->Option Value):Prop where
 obj:h.get? x=some (rB C dx)
 ns:h.Ns1 dx mA
 ne:dx≠x
theorem Ew{h:Heap}{g:Addr}{i:Str->Option Value}(n:h.Ns1 g i):∃j,h.get? g=some j/\∀name,CJ name j=some (i name):=by
 obtain⟨o,k,v,l,m,p,_,r⟩:=n;refine⟨o,l,fun name=>?_⟩;have e:=r name;unfold nsFind findBy at e;rw[<-Array.find?_toList]at e;unfold CJ;rw[m];dsimp only;split
 ·rename_i y q;rw[q]at e;exact congrArg some e
 ·rename_i q;rw[q]at e;have a:k.toList.any (·.refKey)=false:=by
   rw[List.any_eq_false];intro y s;obtain⟨z,t,f⟩:=p y (Array.mem_toList_iff.mp s);simp[iq.refKey,f]
  have u:¬k.toList.any (·.refKey)=true:=by rw[a];exact h7
  rw[if_neg u];exact congrArg some e
theorem Ck.look{h:Heap}{x e C:Addr}{f:Str->Option Value}(I:Ck h x e C f):∃a,PySem.W.InstAt h x (rB C e) C (some a)/\∀name,CJ name a=some (f name) :=
 let⟨a,g,i⟩:=Ew I.ns
 ⟨a,⟨I.obj,rfl,rfl,g⟩,i⟩
section
variable{prog:bV}{w:World}{A:Around}{E:Zc}{s:Shared}{K:Za}{x dx C f:Addr}{mA:Str->Option Value}{name:Str}{v:Value}
theorem Ib{a:Bool}{Q:Zc}(X:K.In s.heap)(I:Ck s.heap x dx C mA)(g:vR K C name=true)(i:yT K C=true)
  (j:dE K (.ref C) name=some none) (k:mA name=some v) (e:PySem.W.handedIn v=true) (h:Q v { s with toks:=s.toks+1 }) :
  wpAny (model prog w) A (getAttr (.ref x) name a) Q E s:=by
 obtain⟨m,J,l⟩:=I.look;exact PySem.W.get_value X J (PySem.W.plainGet_of g).1 (PySem.W.findObj_own i j rfl (by rw[l,k])) e h
theorem GB{e:Sem Bool}{Q:Value×List Value->Shared->Prop}(X:K.In s.heap)(I:Ck s.heap x dx C mA)(a:vR K C name=true)
  (g:dE K (.ref C) name=some (some (.ref f))) (i:yS K (.ref f)=true) (j:mA name=none) (h:Q (.ref f,[.ref x]) s) :
  wpAny (model prog w) A (rf (.ref x) name e) Q E s:=by
 obtain⟨k,J,l⟩:=I.look;exact PySem.W.method_fn X J (PySem.W.plainGet_of a).1 (PySem.W.plainGet_of a).2 g (beq_iff_eq.mp i) (by show(CJ name k).map (·.isSome)=some false;rw[l,j];rfl) h
theorem Hv{n:Zb}{Q:Unit->Shared->Prop}(X:K.In s.heap)(I:Ck s.heap x dx C mA)
  (o:dE K (.ref C) "__setattr__"=some (some (.builtin "object.__setattr__"))) (p:CI K C=true) (q:PySem.W.takerIn K C name=some none) (t:yT K C=true)
  (u:PySem.Within mA n) (z:n.length<=ak)
  (h:∀i,Ck i x dx C (fun y=>if y=name then some v else mA y)->gL dx s.heap i->Q () { s with heap:=i,toks:=s.toks+2 }) :
  wpAny (model prog w) A (setAttr (.ref x) name v) Q E s:=by
 obtain⟨L,J,M⟩:=I.look;refine PySem.W.set_plain X J o (PySem.W.osa_open (s:={ s with toks:=s.toks+1 }) (r:=none) X J p q fun b=>?_);obtain⟨N,B,j⟩:=PySem.W.any_some t;have D:s.heap.get? x=some ⟨.ref C,some dx,.plain,#[]⟩:=I.obj;refine aq (aV (aq (aq (wpAny_loadPart D (aq (PySem.W.Looks.here (s:={ s with toks:=s.toks+1 }) (PySem.W.looks_clsIn X B) ?_))))));rw[j];refine aV (a:=some dx) (aq (aV (aq ?_)));refine wpAny_nsSet1 (s:={ s with toks:=s.toks+1 }) I.ns fun i e g=>?_;obtain⟨O,G,H,k,l,m⟩:=e.count (PySem.Within.cons name v u);refine aq (wpAny_lookBehind k (by rw[l];exact pastItsLine_dict (bB m (by rw[fo];omega))) ?_);exact aV (h _ ⟨(g.2 _ (dF I.ne)).trans I.obj,e,I.ne⟩ g)
theorem Gm{R:Result->Shared->Prop}{a:Zf}{e:List (Str×Value)}(X:K.In s.heap)(i:sK K C=true)
  (j:dE K (.ref C) "__init__"=some (some (.ref f))) (k:PySem.W.typeIn K (.ref f)=some (.type "function"))
  (h:zzl76 (model prog w) (A.under (.builtin "type.__call__" ⟨.ref C::a,e⟩)) (.call (.ref f) ⟨.ref (s.heap.objs.size+1)::a,e⟩) (PySem.W.InitBack (s.heap.objs.size+1) R)
   { s with heap:=(s.heap.push oM).push (rB C s.heap.objs.size) }) :
  zzl76 (model prog w) A (.call (.ref C) ⟨a,e⟩) R s:=by
 obtain⟨l,g,d,t,os⟩:=s;exact PySem.W.make_core (PySem.W.makes_of X i) (PySem.W.looks_findIn X j) (fun self=>PySem.W.bind_fn X self k) (.inl rfl) h
end
def cO(f:Str)(v:V):List (Str×V)->List (Str×V)
 |[]=>[(f,v)]
 | (g,x)::r=>if g=f then(g,v)::r else(g,x)::cO f v r
theorem eU(f g:Str)(v:V):∀fs:List (Str×V),(cO f v fs).lookup g=if g=f then some v else fs.lookup g
 |[]=>by
  show kW g [(f,v)]=_;by_cases h:g=f
  ·have a:(g==f)=true:=beq_iff_eq.mpr h;simp only[kW,a,if_pos h]
  ·have a:(g==f)=false:=beq_eq_false_iff_ne.mpr h;simp only[kW,a,if_neg h]
 | (k,x)::r=>by
  have j:=eU f g v r;rw[show cO f v ((k,x)::r)=(if k=f then(k,v)::r else(k,x)::cO f v r)from rfl]
  by_cases i:k=f
  ·rw[if_pos i];by_cases h:g=k
   ·have a:(g==k)=true:=beq_iff_eq.mpr h;simp only[kW,a,if_pos (h.trans i)]
   ·have a:(g==k)=false:=beq_eq_false_iff_ne.mpr h;simp only[kW,a,if_neg (fun e:g=f=>h (e.trans i.symm))]
  ·rw[if_neg i];by_cases h:g=k
   ·have a:(g==k)=true:=beq_iff_eq.mpr h;simp only[kW,a,if_neg (fun e:g=f=>i (h.symm.trans e))]
   ·have a:(g==k)=false:=beq_eq_false_iff_ne.mpr h;simp only[kW,a];exact j
theorem qO(f:Str)(v:V):∀fs:List (Str×V),f∈(cO f v fs).map (·.1)/\∀g,g∈fs.map (·.1)->g∈(cO f v fs).map (·.1)
 |[]=>⟨by simp[cO],fun g h=>by simp at h⟩
 | (k,x)::r=>by
  obtain⟨i,j⟩:=qO f v r;rw[show cO f v ((k,x)::r)=(if k=f then(k,v)::r else(k,x)::cO f v r)from rfl]
  by_cases a:k=f
  ·rw[if_pos a];subst a;exact⟨by simp,fun g h=>by simpa using h⟩
  ·rw[if_neg a];refine⟨?_,fun g h=>?_⟩
   ·rw[bd];exact d_ _ i
   ·rw[bd]at h ⊢;rcases df.mp h with e|e
    ·exact df.mpr (.inl e)
    ·exact d_ _ (j g e)
theorem rG(f:Str)(v:V):∀fs:List (Str×V),(cO f v fs).length<=fs.length+1
 |[]=>by simp[cO]
 | (k,x)::r=>by
  have e:=rG f v r;rw[show cO f v ((k,x)::r)=(if k=f then(k,v)::r else(k,x)::cO f v r)from rfl]
  by_cases a:k=f
  ·rw[if_pos a,fo,fo];omega
  ·rw[if_neg a,fo,fo];omega
theorem lb.some_of{v:V}{o:Option Value}(r:lb (some v) o):∃u,o=some u/\RelV v u:=by
 cases o with
 |none=>exact(show False from r).elim
 |some u=>exact⟨u,rfl,r⟩
theorem lb.none_of{o:Option Value}(r:lb none o):o=none:=by
 cases o with
 |none=>rfl
 |some u=>exact(show False from r).elim
theorem EG{v:V}{u:Value}(r:RelV v u):PySem.W.handedIn u=true:=by
 cases v with
 |non=>cases(show u=Value.none from r);rfl
 |bl b=>cases(show u=Value.bool b from r);rfl
 |int i=>obtain⟨t,e⟩:=(show ∃t,u=Value.int i t from r);cases e;rfl
 |str x=>obtain⟨t,e⟩:=(show ∃t,u=Value.str x t from r);cases e;rfl
 |byt b=>obtain⟨t,e⟩:=(show ∃t,u=Value.bytes b t from r);cases e;rfl
 |flt b=>obtain⟨t,e⟩:=(show ∃t,u=Value.float b t from r);cases e;rfl
 |ref a=>cases(show u=Value.ref a from r);rfl
 |ty n=>cases(show u=Value.type n from r);rfl
section
variable{P:bV}{w:World}{H H':Hp}{h h':Heap}{a C dx:Addr}{fs fs':List (Str×V)}
theorem sC{K:Za}(i:mh P w K H h)(e:H a=some (.ins C dx fs)):∃g,Ck h a dx C g/\(∀f,lb (fs.lookup f) (g f))/\PySem.Within g (fs.map (·.1))/\fs.length<=1000/\H dx=some (.own a):=by
 obtain⟨d,z,ne,j,g,n,r,q⟩:=(show bS P w K H h a (.ins C dx fs)from i a _ e);exact⟨g,⟨j,n,ne⟩,r,q,z,d⟩
end
structure DF(K:Za)(C:Addr):Prop where
 pg:vR K C Str.empty=true
 hd:yT K C=true
 po:CI K C=true
 sa:dE K (.ref C) "__setattr__"=some (some (.builtin "object.__setattr__"))
theorem DF.get{K:Za}{C:Addr}(c:DF K C)(f:Str):vR K C f=true:=c.pg
def dZ(K:Za)(C:Addr)(f:Str):Prop:=dE K (.ref C) f=some none
theorem dZ.taker{K:Za}{C:Addr}{f:Str}(n:dZ K C f):PySem.W.takerIn K C f=some none:=by
 unfold PySem.W.takerIn;rw[show dE K (.ref C) f=some none from n]
 rfl
structure Iv(K:Za)(C:Addr)(m:Str)(f:Addr):Prop where
 at_:dE K (.ref C) m=some (some (.ref f))
 fn:yS K (.ref f)=true
 kp:iV K (.ref f)=true
section
variable{X:Cx}{J2:Zd}{σ:St}{H:Hp}{s:Shared}{a C dx:Addr}{fs:List (Str×V)}{f:Str}{v:V}{A:Around}{E:Zc}
theorem BV{b:Bool}{Q:Zc}(I:Inv X J2 σ H s)(e:H a=some (.ins C dx fs))(c:DF X.K C)(n:dZ X.K C f)(l:fs.lookup f=some v)
  (h:∀u g,Inv X J2 σ H g->RelV v u->Q u g):wpAny (model X.prog X.w) A (getAttr (.ref a) f b) Q E s:=by
 obtain⟨j,O,r,_,_,_⟩:=sC I.hok e;obtain⟨u,k,i⟩:=lb.some_of (v:=v) (o:=j f) (by rw[<-l];exact r f);exact Ib I.kIn O (c.get f) c.hd n k (EG i) (h u _ (I.tok _) i)
theorem uE{m:Str}{g:Addr}{i:Sem Bool}{Q:Value×List Value->Shared->Prop}(I:Inv X J2 σ H s)(e:H a=some (.ins C dx fs))(c:DF X.K C)(k:Iv X.K C m g)(l:fs.lookup m=none)
  (h:Q (.ref g,[.ref a]) s):wpAny (model X.prog X.w) A (rf (.ref a) m i) Q E s:=by
 obtain⟨j,O,r,_,_,_⟩:=sC I.hok e;have n:j m=none:=lb.none_of (by rw[<-l];exact r m);exact GB I.kIn O (c.get m) k.at_ k.fn n h
theorem Bn{y:V}{u:Value}{Q:Unit->Shared->Prop}(I:Inv X J2 σ H s)(e:H a=some (.ins C dx fs))(c:DF X.K C)(n:dZ X.K C f)(N:fs.length<1000)(p:RelV y u)
  (h:∀j,Inv X J2 σ (upd H a (.ins C dx (cO f y fs))) j->Q () j):wpAny (model X.prog X.w) A (setAttr (.ref a) f u) Q E s:=by
 obtain⟨k,O,r,l,_,m⟩:=sC I.hok e;have t:(fs.map (·.1)).length<=ak:=by rw[aj,ga];omega
 refine Hv I.kIn O c.sa c.po n.taker c.hd l t fun B i D=>h _ ?_;have G:∃o,B.get? dx=some o:=let⟨o,_,_,J,_⟩:=i.ns;⟨o,J⟩;refine I.write (x:=a) (e:=dx) (by rw[e];exact iC) (.inr m) (fun b q L z=>(D.2 b L).trans z) G ?_;refine⟨by rw[ag O.ne];exact m,?_,O.ne,i.obj,_,i.ns,fun g=>?_,fun g M=>?_⟩
 ·have:=rG f y fs;omega
 ·show lb ((cO f y fs).lookup g) (if g=f then some u else k g)
  rw[eU];by_cases q:g=f
  ·rw[if_pos q,if_pos q];exact p
  ·rw[if_neg q,if_neg q];exact r g
 ·by_cases q:g=f
  ·rw[q];exact(qO f y fs).1
  ·refine(qO f y fs).2 g (l g fun z=>M ?_);show(if g=f then some u else k g)=none
   rw[if_neg q];exact z
theorem Inv.made(I:Inv X J2 σ H s):Inv X J2 σ (upd (upd H s.heap.objs.size (.own (s.heap.objs.size+1))) (s.heap.objs.size+1) (.ins C s.heap.objs.size []))
  { s with heap:=(s.heap.push oM).push (rB C s.heap.objs.size) }:=by
 have g:(s.heap.push oM).get? s.heap.objs.size=some oM:=dL s.heap rfl;have h:((s.heap.push oM).push (rB C s.heap.objs.size)).get? (s.heap.objs.size+1)=some (rB C s.heap.objs.size):=by
  have:=dL (s.heap.push oM) (o:=rB C s.heap.objs.size) rfl;rwa[CH]at this
 have i:(s.heap.push oM).Ns s.heap.objs.size (fun _=>none):=⟨oM,#[],_,g,rfl,(fun e j=>absurd j (by simp)),fun _=>rfl⟩;have k:=I.laid (a:=s.heap.objs.size) (o:=.own (s.heap.objs.size+1)) (h':=s.heap.push oM) (t':=s.toks) (fun b u q=>cx _ q) (aG _) ⟨_,g⟩;refine k.laid (a:=s.heap.objs.size+1) (o:=.ins C s.heap.objs.size []) (t':=s.toks) (fun b u q=>cx _ q) (Nat.le_of_eq (CH _ _)) ?_;have ne:s.heap.objs.size≠s.heap.objs.size+1:=dg (CG _);refine⟨by rw[ag ne,aa],c_ _,ne,h,fun _=>none,(Heap.Ns1.of_empty i).at fun o q=>cx _ q,fun _=>iC,fun y l=>absurd rfl l⟩
theorem Ik{g:bV}{w:World}{i:Env}{e:Expr}{f:Str}{k:Pos}{s:Shared}{Q:Zc}(l:sJ e f i (eval e i)=eval e i)
  (h:wpAny (model g w) A (eval e i) (fun o j=>wpAny (model g w) A (getAttr o f true) Q E j) E s):wpAny (model g w) A (eval (.Attribute e f k) i) Q E s :=
 Attribute_any_ h (by rw[arm_eval_Attribute,l])
end
def gh(K:Za)(ta:TE)(f:Str):TE:=fun σ H Q=>ta σ H fun x H1=>∃a C dx fs v,x=.ref a/\H1 a=some (.ins C dx fs)/\DF K C/\dZ K C f/\fs.lookup f=some v/\Q v H1
def pb(K:Za)(ta tv:TE)(f:Str):TS:=fun D σ H=>tv σ H fun y H1=>ta σ H1 fun x H2=>∃a C dx fs,x=.ref a/\H2 a=some (.ins C dx fs)/\DF K C/\dZ K C f/\fs.length<1000 /\
 D.nx σ (upd H2 a (.ins C dx (cO f y fs)))
section
variable{X:Cx}{o e value:Expr}{f:Str}{pos pos' J5:Pos}{ta tv:TE}
theorem cu(i:PE X e ta)(j:sJ e f X.env (eval e X.env)=eval e X.env):PE X (.Attribute e f pos) (gh X.K ta f):=by
 intro k s σ H Q I h;refine Ik j (cF (i k s σ H _ I h) fun u z g=>?_);obtain⟨x,m,p,r,a,C,A,fs,v,ex,t,c,n,l,q⟩:=g;subst ex;obtain rfl:u=Value.ref a:=r;exact BV p t c n l fun B D w y=>⟨v,m,w,y,q⟩
theorem gT(j:PE X o ta)(k:PE X value tv)(m:rj value (some (.Attribute o f pos')) pos.line X.env=pure false):PS X (.Assign [.Attribute o f pos'] value pos) (pb X.K ta tv f):=by
 intro i s σ H D I h;refine plainObj_wpAny_Assign_Attribute (cF (k i s σ H _ I h) fun u p ⟨y,r,t,v,q⟩=>cF (j i p σ r _ t q) fun w J g=>?_) m;obtain⟨x,L,z,A,a,C,M,fs,ex,B,c,n,l,E⟩:=g;subst ex;obtain rfl:w=Value.ref a:=A;exact Bn z B c n l v fun N G=>⟨σ,_,G,E⟩
end
section
variable{X:Cx}{J2:Zd}{σ:St}{H:Hp}{s:Shared}{A:Around}{E:Zc}{Q:Zc}{c:Value}{b:Bool}
inductive j7(K:Za)(H:Hp):V->Value->Prop where
 |non:j7 K H .non (.type "NoneType")
 |bl (x:Bool):j7 K H (.bl x) (.type "bool")
 |int (i:Int):j7 K H (.int i) (.type "int")
 |str (x:Str):j7 K H (.str x) (.type "str")
 |flt (x:UInt64):j7 K H (.flt x) (.type "float")
 |lst {a:Addr}{xs:List V}(e:H a=some (.lst xs)):j7 K H (.ref a) (.type "list")
 |frz {a:Addr}{o:Obj}{xs:List V}(e:H a=some (.frz o (.lst xs))):j7 K H (.ref a) (.type "list")
 |tup {a:Addr}{xs:List V}(e:H a=some (.tup xs)):j7 K H (.ref a) (.type "tuple")
 |dK {a:Addr}{kvs:List (cz×V)}(e:H a=some (.dK kvs)):j7 K H (.ref a) (.type "dict")
 |dT {a:Addr}{kvs:List (TK×V)}(e:H a=some (.dT kvs)):j7 K H (.ref a) (.type "dict")
 |ins {a C dx:Addr}{fs:List (Str×V)}(e:H a=some (.ins C dx fs)) (cl:DF K C) (ha:dE K (.ref C) "__class__"=some (some (.builtin "object.__class__")))
   (hn:PySem.W.specialIn K (.builtin "object.__class__") "__get__"=some (some (.builtin "getset_descriptor.__get__"))) (htk:PySem.W.takesIn K (.builtin "object.__class__")=some true)
   (hm:PySem.W.mroIn K C (.type "object")=some true):j7 K H (.ref a) (.ref C)
theorem Ez{x:V}{u t:Value}(I:Inv X J2 σ H s)(f:RelV x u)(ty:j7 X.K H x t)(e:CF X.K t c=some b)(h:∀tk,Q (.bool b) { s with toks:=tk }):
  wpAny (model X.prog X.w) A (call (.builtin "isinstance") [u,c]) Q E s:=by
 cases ty with
 |non=>cases(show u=Value.none from f);exact jN PySem.W.kitx_none I.kIn iC e (fun z=>nomatch z) h
 |bl y=>cases(show u=Value.bool y from f);exact jN PySem.W.kitx_bool I.kIn iC e (fun z=>nomatch z) h
 |int i=>obtain⟨t,q⟩:=(show ∃t,u=Value.int i t from f);cases q;exact jN PySem.W.kitx_int I.kIn iC e (fun z=>nomatch z) h
 |str y=>obtain⟨t,q⟩:=(show ∃t,u=Value.str y t from f);cases q;exact jN PySem.W.kitx_str I.kIn iC e (fun z=>nomatch z) h
 |flt y=>obtain⟨t,q⟩:=(show ∃t,u=Value.float y t from f);cases q;exact jN PySem.W.kitx_float I.kIn iC e (fun z=>nomatch z) h
 |@lst a l g =>
  cases(show u=Value.ref a from f);obtain⟨_,_,n,_,j⟩:=(show bS X.prog X.w X.K H s.heap a (.lst l)from I.hok a _ g);exact jN PySem.W.kitx_list I.kIn ⟨_,j,rfl⟩ e (fun z=>nomatch z) h
 |@frz a B l g =>
  cases(show u=Value.ref a from f);obtain⟨_,_,_,n,_,j⟩:=(show bS X.prog X.w X.K H s.heap a (.frz B (.lst l))from I.hok a _ g);exact jN PySem.W.kitx_list I.kIn ⟨_,j,rfl⟩ e (fun z=>nomatch z) h
 |@tup a l g =>
  cases(show u=Value.ref a from f);obtain⟨_,_,_,p⟩:=(show bS X.prog X.w X.K H s.heap a (.tup l)from I.hok a _ g);obtain⟨o,j,m,_⟩:=p;exact jN PySem.W.kitx_tuple I.kIn ⟨o,j,m⟩ e (fun z=>nomatch z) h
 |@dK a k g =>
  cases(show u=Value.ref a from f);obtain⟨_,_,T,_,p⟩:=(show bS X.prog X.w X.K H s.heap a (.dK k)from I.hok a _ g);obtain⟨o,D,G,j,m,_⟩:=p;exact jN PySem.W.kitx_dict I.kIn ⟨o,j,m.1⟩ e (fun z=>nomatch z) h
 |@dT a k g =>
  cases(show u=Value.ref a from f);obtain⟨_,_,l,_,o,D,G,j,m,_⟩:=(show bS X.prog X.w X.K H s.heap a (.dT k)from I.hok a _ g);exact jN PySem.W.kitx_dict I.kIn ⟨o,j,m.1⟩ e (fun z=>nomatch z) h
 |@ins a C U fs g v L M r N =>
  cases(show u=Value.ref a from f);obtain⟨Y,O,_⟩:=sC I.hok g;obtain⟨od,J,_⟩:=O.look;exact jN (PySem.W.kitx_own (v.get _) v.hd L M r N) I.kIn J e (fun z=>nomatch z) h
end
end L2
namespace L2
open PySem PySem.Spec PyProof.Rows
structure fh(k:Nat)(A:Around):Prop where
 hd:A.handled=none
 dp:A.depth+3 * k+5<recursionLimit
 un:A.units+16 * k+200<cLine
theorem fh.mono{j k:Nat}{A:Around}(r:fh k A)(h:j<=k):fh j A:=⟨r.hd,by have:=r.dp;omega,by have:=r.un;omega⟩
theorem fh.deeper{k:Nat}{A:Around}(r:fh (k+1) A)(a:Env):fh k (A.deeper a) :=
 ⟨r.hd,by have:=r.dp;show A.depth+1+3 * k+5<_;omega,by have:=r.un;show A.units+3+16 * k+200<_;omega⟩
theorem BI{A:Around}{C:Addr}{a:Zf}{e:List (Str×Value)}:(A.under (.builtin "type.__call__" ⟨.ref C::a,e⟩)).depth=A.depth+1:=by
 first|rfl|simp[Around.under,Code.weight,Code.isCreation,Code.isGuard,Code.isCaller,Code.frames,Code.isFrame,guardIds]
theorem BH{A:Around}{C:Addr}{a:Zf}{e:List (Str×Value)}:(A.under (.builtin "type.__call__" ⟨.ref C::a,e⟩)).units=A.units+1:=by
 first|rfl|simp[Around.under,Code.cUnits,Code.frames,Code.isFrame]
theorem fh.make{k:Nat}{A:Around}(r:fh (k+1) A)(C:Addr)(a:Zf)(e:List (Str×Value)):fh k (A.under (.builtin "type.__call__" ⟨.ref C::a,e⟩)) :=
 ⟨r.hd,by have:=r.dp;rw[BI];omega,by have:=r.un;rw[BH];omega⟩
theorem fh.depth{k:Nat}{A:Around}(r:fh k A):A.depth<recursionLimit:=by have:=r.dp;omega
theorem fh.units{k:Nat}{A:Around}(r:fh k A):A.units+64<cLine:=by have:=r.un;omega
def bu:TA:=fun _ H Q=>Q [] H
def aw(ta:TE)(tr:TA):TA:=fun σ H Q=>ta σ H fun x H1=>tr σ H1 fun xs H2=>Q (x::xs) H2
abbrev az(a:TE):TA:=aw a bu
abbrev aU(a b:TE):TA:=aw a (aw b bu)
abbrev eo(a b c:TE):TA:=aw a (aw b (aw c bu))
section
variable{X:Cx}{e:Expr}{es:List Expr}{te:TE}{t:TA}{pos:Pos}
theorem cf:PA X [] bu:=fun _ _ _ _ H Q I h=>Calls.spliced_nil ⟨[],H,I,.nil,h⟩
theorem cC(g:PE X e te)(i:PA X es t)(j:aO (e::es) X.env=(false,eval e X.env)::aO es X.env:=by rfl):PA X (e::es) (aw te t):=by
 intro pos f s σ H Q I h;rw[j];show wpAny _ _ (spliced ((false,eval e X.env)::backTo pos (aO es X.env))) _ _ s;refine CD (cF (g f s σ H _ I h) fun u k a=>?_);obtain⟨x,l,m,n,o⟩:=a;exact cF (i pos f k σ l _ m o) fun y z ⟨p,q,r,v,w⟩=>⟨x::p,q,r,.cons n v,w⟩
def bA(t:TA):TE:=fun σ H Q=>t σ H fun xs H1=>xs.length<=ak/\∀p,H1 p=none->Q (.ref p) (upd H1 p (.tup xs))
def dB(t:TA):TE:=fun σ H Q=>t σ H fun xs H1=>xs.length<=ak/\∀p,H1 p=none->Q (.ref p) (upd H1 p (.lst xs))
theorem aI{i}(h:PA X es t):PE X (.Tuple es i pos) (bA t):=by
 intro j s σ H Q I k;refine wpAny_Tuple_spliced (cF (h pos j s σ H _ I k) fun l a ⟨m,f,g,r,z,q⟩=>⟨by rw[<-r.length];exact z,?_⟩);have n:f a.heap.objs.size=none:=g.hok.fresh (aG _);refine⟨.ref a.heap.objs.size,upd f a.heap.objs.size (.tup m),g.laid (t':=a.toks) (fun b u e=>cx _ e) (aG _) ?_,rfl,q _ n⟩;exact⟨z,l,r,⟨_,dL _ rfl,rfl,_,rfl⟩⟩
theorem br(h:PA X es t):PE X (.List es pos) (dB t):=by
 intro i s σ H Q I j;refine wpAny_List_spliced (cF (h pos i s σ H _ I j) fun k a ⟨l,f,g,r,z,q⟩=>⟨by rw[<-r.length];exact z,?_⟩);have m:f a.heap.objs.size=none:=g.hok.fresh (aG _);refine⟨.ref a.heap.objs.size,upd f a.heap.objs.size (.lst l),g.laid (t':=a.toks) (fun b u e=>cx _ e) (aG _) ?_,rfl,q _ m⟩;exact⟨z,k,0,r,dL _ rfl⟩
end
abbrev Sp:=List V->Hp->VK->XK->Prop
abbrev Fg:=List Env->Hp->Shared->XK->Value->Shared->Prop
structure Cy(P:bV)(w:World)(K:Za)(mg:Str->Option Value)(base:Heap)(A:Around)(outer:List Env)(s:Shared)(H:Hp):Prop where
 frames:A.frames=some outer
 mod:Mod K mg base
 bs:∀b o,base.get? b=some o->s.heap.get? b=some o/\H b=none
 bsz:base.objs.size<=s.heap.objs.size
 funs:s.heap.FunFrames base outer
 frf:∀b∈Fd outer,H b=none
 hok:mh P w K H s.heap
 bare:oN s.gens
def CE(outer:List Env)(P:bV)(w:World)(K:Za)(H:Hp)(s:Shared)(Q:VK)(u:Value)(s':Shared):Prop :=
 ∃v H',s'.os=s.os/\oN s'.gens/\Un (Fd outer) [] H H' s.heap s'.heap/\mh P w K H' s'.heap/\RelV v u/\Q v H'
def CR(CX:Fg)(outer:List Env)(P:bV)(w:World)(K:Za)(H:Hp)(s:Shared)(Q:VK)(E:XK)(r:Result)(s':Shared):Prop :=
 match r with
 |.ok (.ret u)=>CE outer P w K H s Q u s'
 |.ok _=>False
 |.error e=>CX outer H s E e s'
structure mW(P:bV)(w:World)(K:Za)(mg:Str->Option Value)(base:Heap)(CX:Fg)(k:Nat)(f:Addr)(fd:lg)(ps:Zb)(sp:Sp):Prop where
 len:∀vs H Q E,sp vs H Q E->vs.length=ps.length
 run:∀(A:Around) (outer:List Env) (s:Shared) (H:Hp) (args:Args) (us:Zf) (vs:List V) (Q:VK) (E:XK),fh k A->Cy P w K mg base A outer s H->sI s fd args (ps.zip us)->bg vs us->sp vs H Q E ->
  zzl76 (model P w) A (.call (.ref f) args) (CR CX outer P w K H s Q E) s
theorem Cy.make{P:bV}{w:World}{K:Za}{a:Str->Option Value}{base:Heap}{A:Around}{outer:List Env}{s:Shared}{H:Hp}(e:Cy P w K a base A outer s H)(C:Addr)(f:Zf)(g:List (Str×Value)):
  Cy P w K a base (A.under (.builtin "type.__call__" ⟨.ref C::f,g⟩)) outer s H:=⟨by first|exact e.frames|(simpa[Around.under,Code.envs,Code.isFrame,pushEnvs]using e.frames),e.mod,e.bs,e.bsz,e.funs,e.frf,e.hok,e.bare⟩
section
variable{X:Cx}{J2:Zd}{σ:St}{H:Hp}{s s':Shared}
theorem Inv.env0(I:Inv X J2 σ H s):Cy X.prog X.w X.K X.mg X.base X.A X.stack s H :=
 ⟨I.ok.frames,I.ok.mod,I.bs,bB I.ok.bsz I.sz,I.stack,I.stkFree,I.hok,I.bare⟩
theorem Inv.after{Q:VK}{u:Value}(I:Inv X J2 σ H s)(h:CE X.stack X.prog X.w X.K H s Q u s'):EP X J2 σ Q u s':=by
 obtain⟨v,i,os,a,un,e,r,q⟩:=h;obtain⟨j,g,d,t,f⟩:=s';obtain rfl:f=s.os:=os;exact⟨v,i,I.call (h':=j) (g':=g) (d':=d) (t':=t) (ch:=[]) un e a (fun b z=>absurd z (by simp)),r,q⟩
end
def IB(sp:Sp)(dvs:List V)(E:XK)(t:TA):TE:=fun σ H Q=>t σ H fun vs H1=>sp (vs++dvs) H1 Q E
def cW(C:Addr)(m:Str)(sp:Sp)(dvs:List V)(E:XK)(ta:TE)(t:TA):TE:=fun σ H Q=>ta σ H fun x H1=>∃a dx fs,x=.ref a/\H1 a=some (.ins C dx fs)/\fs.lookup m=none /\
 t σ H1 fun vs H2=>sp (x::(vs++dvs)) H2 Q E
def ze(C:Addr)(sp:Sp)(dvs:List V)(E:XK)(t:TA):TE:=fun σ H Q=>t σ H fun vs H1=>∀x dx,H1 x=none->H1 dx=none->dx≠x ->
 sp (.ref x::(vs++dvs)) (upd (upd H1 dx (.own x)) x (.ins C dx [])) (fun v H2=>v=.non/\Q (.ref x) H2) E
def Binds(K:Za)(fd:lg)(ps:Zb)(ds:Zf):Prop :=
 ∀(s:Shared) (us:Zf),K.In s.heap->(us++ds).length=ps.length->sI s fd ⟨us,[]⟩ (ps.zip (us++ds))
theorem Binds.all{K:Za}{f:lg}{e:Zb}(h:∀a:List Value,a.length=e.length->bindArgs f ⟨a,[]⟩=pure (e.zip a)):Binds K f e []:=fun s a _ g=>by
 rw[dh]at g ⊢;exact .of_eq (h a g)
def oh(CX:Fg)(X:Cx)(E:XK):Prop:=∀(J2:Zd) (σ:St) (H:Hp) (s:Shared) (e:Value) (s':Shared),Inv X J2 σ H s->CX X.stack H s E e s'->X.xe e s'
section
variable{X:Cx}{CX:Fg}{k:Nat}{f C:Addr}{fd:lg}{ps:Zb}{sp:Sp}{dvs:List V}{ds:Zf}{E:XK}{x m:Str}{p pos J4:Pos}{e o:Expr}{es:List Expr}{ta:TE}{t:TA}
theorem Bo{g:Zd}{σ:St}{H:Hp}{s:Shared}{Q:VK}{us:Zf}{vs:List V}(F:mW X.prog X.w X.K X.mg X.base CX k f fd ps sp)(j:fh k X.A)(l:Binds X.K fd ps ds)(n:bg dvs ds)(q:oh CX X E)
  (I:Inv X g σ H s) (r:bg vs us) (h:sp (vs++dvs) H Q E):wpAny (model X.prog X.w) X.A (call (.ref f) us) (EP X g σ Q) X.xe s:=by
 have i:bg (vs++dvs) (us++ds):=r.append n;have v:(us++ds).length=ps.length:=by rw[<-i.length];exact F.len _ _ _ _ h
 refine wpAny_call (CC (F.run X.A X.stack s H ⟨us,[]⟩ (us++ds) (vs++dvs) Q E j I.env0 (l s us I.kIn v) i h) fun r y a=>?_);cases r with
 |error e=>exact q g σ H s e y I a
 |ok z =>
  cases z with
  |ret u=>exact I.after a
  |next=>exact jO a
  |brk=>exact jO a
  |cont=>exact jO a
theorem HS(F:mW X.prog X.w X.K X.mg X.base CX k f fd ps sp)(j:fh k X.A)(l:Gl X x)(n:X.mg x=some (.ref f))(u:iV X.K (.ref f)=true)(v:Binds X.K fd ps ds)(y:bg dvs ds)(z:oh CX X E)
  (B:PA X (e::es) t) (a:(x==("__debug__":Str))=false:=by decide) (D:aO (e::es) X.env=(false,eval e X.env)::aO es X.env:=by rfl) (g:(backTo pos (aO es X.env)).any (·.1)=false:=by rfl) :
  PE X (.Call (.Name x p) (e::es) [] pos) (IB sp dvs E t):=by
 intro G s σ H Q I h;refine CB (ye I l n ?_ a);refine PySem.W.callWith_K (h₀:=X.base) I.ok.mod.kin u (cF (B pos G s σ H _ I h) fun J L ⟨M,N,i,r,q⟩=>⟨i.kIn,?_⟩) D g;exact Bo F j v y z i r q
theorem HM{pl:Sem Bool}(D:PE X o ta)(c:DF X.K C)(n:Iv X.K C m f)(F:mW X.prog X.w X.K X.mg X.base CX k f fd ps sp)(G:fh k X.A)(J:Binds X.K fd ps ds)(L:bg dvs ds)(M:oh CX X E)(N:PA X (e::es) t)
  (g:aO (e::es) X.env=(false,eval e X.env)::aO es X.env:=by rfl) (i:(backTo pos (aO es X.env)).any (·.1)=false:=by rfl)
  (O:eval (.Call (.Attribute o m J4) (e::es) [] pos) X.env=(do
   let v <- eval o X.env
   rq J4.atName
   let(f,first) <- ln [v] (rf v m pl)
   vQ pos f first (backTo pos (aO (e::es) X.env)) (oK pos (oJ [] X.env))):=by rfl) :
  PE X (.Call (.Attribute o m J4) (e::es) [] pos) (cW C m sp dvs E ta t):=by
 intro y s σ H Q I h;refine PySem.W.methodCall_KW (pl:=pl) (cF (D y s σ H _ I h) fun u T j=>?_) O;obtain⟨x,U,z,Y,a,dx,fs,ex,ea,l,q⟩:=j;subst ex;obtain rfl:u=Value.ref a:=Y;refine uE z ea c n l ?_;refine PySem.W.callWith_K (first:=[.ref a]) (h₀:=X.base) I.ok.mod.kin n.kp (cF (N pos y T σ U _ z q) fun us s2 ⟨vs,H2,B,r,q2⟩=>⟨B.kIn,?_⟩) g i
 exact Bo (us:=.ref a::us) (vs:=.ref a::vs) F G J L M B (.cons rfl r) q2
theorem Ga{pl:Sem Bool}(r:PE X o ta)(c:DF X.K C)(j:Iv X.K C m f)(F:mW X.prog X.w X.K X.mg X.base CX k f fd ps sp)(v:fh k X.A)(y:Binds X.K fd ps ds)(z:bg dvs ds)(B:oh CX X E)
  (D:eval (.Call (.Attribute o m J4) [] [] pos) X.env=(do
   let n <- eval o X.env
   rq J4.atName
   let(f,first) <- ln [n] (rf n m pl)
   vQ pos f first (backTo pos (aO [] X.env)) (oK pos (oJ [] X.env))):=by rfl) :
  PE X (.Call (.Attribute o m J4) [] [] pos) (cW C m sp dvs E ta bu):=by
 intro G s σ H Q I h;refine PySem.W.methodCall_KW (pl:=pl) (cF (r G s σ H _ I h) fun u M g=>?_) D;obtain⟨x,N,i,J,a,O,fs,ex,L,l,q⟩:=g;subst ex;obtain rfl:u=Value.ref a:=J;refine uE i L c j l ?_;exact PySem.W.callWith_K0 (first:=[.ref a]) i.kIn j.kp (Bo (us:=[.ref a]) (vs:=[.ref a]) F v y z B i (.cons rfl .nil) q)
structure Mk(K:Za)(C f:Addr):Prop where
 makes:sK K C=true
 init:dE K (.ref C) "__init__"=some (some (.ref f))
 fn:yS K (.ref f)=true
 kp:iV K (.ref C)=true
theorem FA{l:Zd}{σ:St}{H:Hp}{s:Shared}{Q:VK}{g:Zf}{n:List V}(M:Mk X.K C f)(F:mW X.prog X.w X.K X.mg X.base CX k f fd ps sp)(z:fh (k+1) X.A)(B:Binds X.K fd ps ds)(D:bg dvs ds)
  (G:oh CX X E) (I:Inv X l σ H s) (r:bg n g)
  (h:∀x i,H x=none->H i=none->i≠x->sp (.ref x::(n++dvs)) (upd (upd H i (.own x)) x (.ins C i [])) (fun v J=>v=.non/\Q (.ref x) J) E) :
  wpAny (model X.prog X.w) X.A (call (.ref C) g) (EP X l σ Q) X.xe s:=by
 have q:=h (s.heap.objs.size+1) s.heap.objs.size (I.hok.fresh (sH _)) (I.hok.fresh (aG _)) (dg (CG _));have j:=Inv.made (C:=C) I;have y:bg (V.ref (s.heap.objs.size+1)::(n++dvs)) (Value.ref (s.heap.objs.size+1)::(g++ds)):=.cons rfl (r.append D);have L:(Value.ref (s.heap.objs.size+1)::g++ds).length=ps.length:=by
  have e:=y.length;rw[F.len _ _ _ _ q]at e;exact e.symm
 refine wpAny_call (Gm (f:=f) I.kIn M.makes M.init (beq_iff_eq.mp M.fn) (CC (F.run _ X.stack _ _ ⟨Value.ref (s.heap.objs.size+1)::g,[]⟩ (Value.ref (s.heap.objs.size+1)::(g++ds)) _ _ E (z.make C g [])
  (j.env0.make C g []) (B _ (Value.ref (s.heap.objs.size+1)::g) j.kIn L) y q) fun r N a=>?_))
 cases r with
 |error e=>exact G l σ _ _ e N j a
 |ok O =>
  cases O with
  |ret u =>
   obtain⟨v,T,U,Y,ev,q3⟩:=j.after a;subst ev;exact⟨Y,⟨V.ref (s.heap.objs.size+1),T,U,rfl,q3⟩⟩
  |next=>exact jO a
  |brk=>exact jO a
  |cont=>exact jO a
theorem HN(M:Mk X.K C f)(F:mW X.prog X.w X.K X.mg X.base CX k f fd ps sp)(j:fh (k+1) X.A)(l:Gl X x)(n:X.mg x=some (.ref C))(u:Binds X.K fd ps ds)(v:bg dvs ds)(y:oh CX X E)
  (z:PA X (e::es) t) (a:(x==("__debug__":Str))=false:=by decide) (B:aO (e::es) X.env=(false,eval e X.env)::aO es X.env:=by rfl) (g:(backTo pos (aO es X.env)).any (·.1)=false:=by rfl) :
  PE X (.Call (.Name x p) (e::es) [] pos) (ze C sp dvs E t):=by
 intro D s σ H Q I h;refine CB (ye I l n ?_ a);refine PySem.W.callWith_K (h₀:=X.base) I.ok.mod.kin M.kp (cF (z pos D s σ H _ I h) fun G J ⟨L,N,i,r,q⟩=>⟨i.kIn,?_⟩) B g;exact FA M F j u v y i r q
end
structure kL(N P:Zb)(sc:Scope):Prop where
 kind:sc.kind=.function
 co:sc.isCoroutine=false
 gen:sc.isGenerator=false
 nd:N.Nodup
 pre:N.take P.length=P
 par:∀x∈P,sc.names.lookup x=some .local∨sc.names.lookup x=some .cell
 nofree:∀y∈sc.names,y.2≠.free
theorem wG{kindOf:Str->Option jM}{x:Str}:∀{binds:List (Str×Value)}{m:Str->Option Value},(∀v,(x,v)∉binds)->bindL kindOf binds m x=m x
 |[],_,_=>rfl
 | (n,v)::r,m,h=>by
  unfold bindL;rw[wG fun w a=>h w (d_ _ a)];split
  ·have:x≠n:=by rintro rfl;exact h v cD
   simp[this]
  ·rfl
theorem wI{kindOf:Str->Option jM}{x:Str}:∀{binds:List (Str×Value)}{m:Str->Option Value},(∀v,(x,v)∉binds)->bindC kindOf binds m x=m x
 |[],_,_=>rfl
 | (n,v)::r,m,h=>by
  unfold bindC;rw[wI fun w a=>h w (d_ _ a)];split
  ·rfl
  ·have:x≠n:=by rintro rfl;exact h v cD
   simp[this]
theorem wH{kindOf:Str->Option jM}{x:Str}{v:Value}:∀{P:Zb}{a:Zf}{i:Nat}{m:Str->Option Value},P.Nodup->P[i]?=some x->a[i]?=some v->kindOf x=some .local ->
  bindL kindOf (P.zip a) m x=some v
 |[],_,_,_,_,h,_,_=>by simp at h
 |_::_,[],_,_,_,_,h,_=>by simp at h
 |p::P,w::a,0,m,g,e,f,j=>by
  simp at e f;subst e;subst f;show bindL kindOf ((p,w)::P.zip a) m p=_;unfold bindL;rw[wG fun v k=>(mY.mp g).1 (List.of_mem_zip k).1,if_pos j];simp
 |p::P,w::a,i+1,m,g,e,f,j=>by
  show bindL kindOf ((p,w)::P.zip a) m x=_;unfold bindL;exact wH (i:=i) (mY.mp g).2 (by simpa using e) (by simpa using f) j
theorem wJ{kindOf:Str->Option jM}{x:Str}{v:Value}:∀{P:Zb}{a:Zf}{i:Nat}{m:Str->Option Value},P.Nodup->P[i]?=some x->a[i]?=some v->kindOf x≠some .local ->
  bindC kindOf (P.zip a) m x=some v
 |[],_,_,_,_,h,_,_=>by simp at h
 |_::_,[],_,_,_,_,h,_=>by simp at h
 |p::P,w::a,0,m,g,e,f,j=>by
  simp at e f;subst e;subst f;show bindC kindOf ((p,w)::P.zip a) m p=_;unfold bindC;rw[wI fun v k=>(mY.mp g).1 (List.of_mem_zip k).1,if_neg j];simp
 |p::P,w::a,i+1,m,g,e,f,j=>by
  show bindC kindOf ((p,w)::P.zip a) m x=_;unfold bindC;exact wJ (i:=i) (mY.mp g).2 (by simpa using e) (by simpa using f) j
def start(N:Zb)(vs:List V):St:=vs.map some++List.replicate (N.length-vs.length) none
def Ca(CX:Fg)(P:bV)(w:World)(K:Za)(mg:Str->Option Value)(base:Heap)(N:Zb)(qual:Str)(scope:Scope)(f:Addr)(cd:Value)(A:Around)(outer:List Env)(s:Shared)(H:Hp)(E:XK):Cx where
 prog:=P
 w:=w
 K:=K
 mg:=mg
 base:=base
 A:=A.deeper (envOfC qual scope s.heap.objs.size f cd)
 N:=N
 s₀:=s
 H₀:=H
 env:=envOfC qual scope s.heap.objs.size f cd
 outer:=outer
 stack:=envOfC qual scope s.heap.objs.size f cd::outer
 ex:=[]
 calm:=true
 fn:=fun _=>true
 pn:=[]
 xe:=fun e s'=>wpAny (model P w) (A.deeper (envOfC qual scope s.heap.objs.size f cd)) (leaving (envOfC qual scope s.heap.objs.size f cd) e) (fun _ s''=>CX outer H s E e s'') (fun e' s''=>CX outer H s E e' s'') s'
theorem AA{a:Scope}{n:Nat}{x:Str}(h:a.names.lookup x=some .cell):∃c,(cellsFrom n a.names []).lookup x=some c:=by
 have q:=PySem.W.cellsFrom_some a.names n [] (.inl h);exact CA.mp q
theorem EC{M:Fg}{P:bV}{w:World}{K:Za}{J:Str->Option Value}{base:Heap}{N m:Zb}{g:Str}{scope:Scope}{f:Addr}{D:Value}{A:Around}{outer:List Env}{s O:Shared}{H:Hp}{E:XK}{L:Zf}{o:List V}
  (S:kL N m scope) (U:A.handled=none) (l:Cy P w K J base A outer s H) (hl:o.length=m.length) (r:bg o L)
  (x:InCallC s s.heap.objs.size (bindL (envOfC g scope s.heap.objs.size f D).kindOf (m.zip L) fun _=>none) (cellsFrom (s.heap.objs.size+1) scope.names []) (bindC (envOfC g scope s.heap.objs.size f D).kindOf (m.zip L) fun _=>none) O) :
  Inv (Ca M P w K J base N g scope f D A outer s H E) [] (start N o) H O:=by
 have Y:m.length<=N.length:=by have:=congrArg List.length S.pre;rw[aN]at this;omega
 obtain⟨G,tk,rfl,Q⟩:=x.done;have t:∀b:Addr,b∉(Ca M P w K J base N g scope f D A outer s H E).ex:=fun b z=>absurd (show b∈([]:Ze)from z) (by simp);refine⟨⟨l.mod,S.kind,rfl,rfl,aG _,fun y z c G j=>?_,fun y hy=>?_,fun y c _ h=>?_,fun _=>U,Around.frames_deeper l.frames,.inr ⟨rfl,rfl⟩,fun b z=>absurd z (t b),l.bs,l.bsz,fun b _ _=>t b,fun b z=>absurd z (t b),l.funs,l.frf⟩,
  rfl,l.bare,Un.kept Q,⟨_,x.toInCall.ns,fun i y v G j h3=>?_⟩,fun y c h=>⟨_,x.cell y c h⟩,l.hok.fresh (aG _),fun y c h=>?_,fun p B=>absurd (show p∈([]:Zd)from B) (by simp),l.hok.kept Q,?_⟩
 ·exact name_of_addr x.apart (tH G) (tH j)
 ·have hy:scope.names.lookup y=some .cell∨scope.names.lookup y=some .free:=hy;rcases hy with hy|hy
  ·exact AA hy
  ·exact absurd rfl (S.nofree _ (tH hy))
 ·exact eK (x.above y c (tH h))
 ·have I:i<o.length:=by
   unfold start at j;by_cases I:i<o.length
   ·exact I
   ·rw[iu (by simpa using I)]at j;rw[List.getElem?_replicate]at j;split at j<;>cases j
  have ha:o[i]?=some v:=by
   unfold start at j;rw[dv (by simpa using I),cb]at j;cases e:o[i]? with
   |none=>rw[e]at j;cases j
   |some a=>rw[e]at j;cases j;rfl
  obtain⟨u,T,rv⟩:=r.get ha;have B:m[i]?=some y:=by
   rw[<-S.pre,List.getElem?_take_of_lt (by omega)];exact G
  have C:m.Nodup:=by rw[<-S.pre];exact S.nd.sublist (List.take_sublist _ _)
  refine⟨u,rv,?_⟩;rcases S.par y (aY B)with k|k
  ·exact .inl ⟨k,wH C B T k⟩
  ·obtain⟨c,e⟩:=AA (n:=s.heap.objs.size+1) k;refine .inr ⟨.inl k,c,e,?_⟩;have q:=x.cell y c e;rw[wJ C B T (by show scope.names.lookup y≠_;rw[k];decide)]at q;exact q
 ·exact l.hok.fresh (eK (x.above y c (tH h)))
 ·unfold start;show _=N.length;rw[au,aj,List.length_replicate];omega
theorem JX{D:Fg}{P:bV}{w:World}{K:Za}{G:Str->Option Value}{base:Heap}{k:Nat}{f:Addr}{name a:Str}{params:Arguments}{h:List Stmt}{scope:Scope}{dV kV doc pm g ct oc:Value}{an od:Option Addr}
  {L:Array (Option Value)}{N ps:Zb}{M:Sp}(lk:K.lookup f=some ⟨oc,od,.func (i0 name a params h scope dV kV doc pm an g ct),L⟩) (O:nI K g a=true) (S:kL N ps scope)
  (len:∀i H Q E,M i H Q E->i.length=ps.length)
  (j:∀(A:Around) (outer:List Env) (s:Shared) (H:Hp) (i:List V) (Q:VK) (E:XK),fh k (A.deeper (envOfC a scope s.heap.objs.size f g))->M i H Q E ->
   ∃t,AR (Ca D P w K G base N a scope f g A outer s H E) h t/\t (bJ Q) (start N i) H) :
  mW P w K G base D (k+1) f (i0 name a params h scope dV kV doc pm an g ct) ps M:=by
 refine⟨len,fun A outer s H args us i Q E T z hb r B=>?_⟩;have hl:=len _ _ _ _ B;have KX:K.In s.heap:=z.mod.kin.keeps fun b o e=>(z.bs b o e).1;have U:s.heap.NoLimit:=z.mod.nolimit.keeps fun b o e=>(z.bs b o e).1;have l:∀y∈ps.zip us,scope.names.lookup y.1=some .local∨(scope.names.lookup y.1=some .cell/\((cellsFrom (s.heap.objs.size+1) scope.names []).lookup y.1).isSome=true):=fun⟨n,v⟩ hy=>by
  rcases S.par n (List.of_mem_zip hy).1 with q|q
  ·exact .inl q
  ·exact .inr ⟨q,PySem.W.cellsFrom_some _ _ _ (.inl q)⟩
 refine codeAny_call_function T.depth (KX _ _ lk) rfl S.co S.gen rfl (PySem.W.codeRec_of KX O) (hb _ _ _ _ ?_);refine wpAny_newFunctionEnv_cells S.kind l fun al he s1 x=>?_;subst he;refine⟨U.keeps x.toInCall.keep,codeAny_func ?_⟩;obtain⟨t,ht,hq⟩:=j A outer s H i Q E (T.deeper _) B;have I:Inv (Ca D P w K G base N a scope f g A outer s H E) [] (start N i) H s1:=EC S T.hd z hl r x;refine oO (ht [] s1 (start N i) H _ I hq) (fun fl Y m=>?_) fun e Y m=>m;have C:∀{σ':St}{p:Hp}{v:V}{u:Value},Inv (Ca D P w K G base N a scope f g A outer s H E) [] σ' p Y->RelV v u->Q v p->CE outer P w K H s Q u Y :=
  fun{σ' p v u} J rv q=>⟨v,p,J.os,J.bare,J.base,J.hok,rv,q⟩
 cases fl with
 |ret u =>
  obtain⟨v,σ',p,J,rv,q⟩:=m;exact C J rv q
 |next =>
  obtain⟨σ',p,J,q⟩:=m;exact C (v:=V.non) (u:=Value.none) J rfl q
 |brk =>
  obtain⟨_,_,_,q⟩:=m;exact jO q
 |cont =>
  obtain⟨_,_,_,q⟩:=m;exact jO q
end L2
namespace L2
open PySem PySem.Spec PyProof.Rows
section
variable{X:Cx}{x:Str}{p pos:Pos}{e:Expr}{es:List Expr}{t:TA}{id T:String}{r:List V->Hp->VK->Prop}
def eD(r:List V->Hp->VK->Prop)(t:TA):TE:=fun σ H Q=>t σ H fun vs H1=>r vs H1 Q
theorem zV(i:fZ X (.builtin id) r)(j:Gl X x)(k:X.mg x=none)(l:lp x=some (.builtin id))(m:PA X (e::es) t)(n:x≠"__name__":=by decide)(a:(x==("__debug__":Str))=false:=by decide)
  (o:aO (e::es) X.env=(false,eval e X.env)::aO es X.env:=by rfl) (f:(backTo pos (aO es X.env)).any (·.1)=false:=by rfl):PE X (.Call (.Name x p) (e::es) [] pos) (eD r t):=by
 intro g s σ H Q I h;refine CB (qN I j k l ?_ n a);exact PyProof.Rows.callWith_builtin1 (cF (m pos g s σ H _ I h) fun q u ⟨v,w,y,z,A⟩=>i g u σ w v q Q y z A) o f
theorem iS(i:fZ X (.type T) r)(j:Gl X x)(k:X.mg x=none)(l:lp x=some (.type T))(m:PA X (e::es) t)(n:x≠"__name__":=by decide)(a:(x==("__debug__":Str))=false:=by decide)
  (o:aO (e::es) X.env=(false,eval e X.env)::aO es X.env:=by rfl) (f:(backTo pos (aO es X.env)).any (·.1)=false:=by rfl):PE X (.Call (.Name x p) (e::es) [] pos) (eD r t):=by
 intro g s σ H Q I h;refine CB (qN I j k l ?_ n a);exact CK (cF (m pos g s σ H _ I h) fun q u ⟨v,w,y,z,A⟩=>i g u σ w v q Q y z A) o f
end
end L2
namespace HT
open PySem PyProof.Rows
def lexLt:List Int->List Int->Bool
 |[],[]=>false
 |[],_::_=>true
 |_::_,[]=>false
 |x::xs,y::ys=>if x=y then lexLt xs ys else decide (x<y)
theorem lexLt_cons(x y:Int)(a e:List Int):lexLt (x::a) (y::e)=if x=y then lexLt a e else decide (x<y):=rfl
section
variable{prog:bV}{w:World}{A:Around}{E:Zc}{s:Shared}
def sIx(n d:Nat):Option Int->Nat
 |none=>d
 |some v=>if v<0 then(v+(n:Int)).toNat else min v.toNat n
theorem sIx_none(n d:Nat):sIx n d none=d:=rfl
theorem sIx_nat(n d k:Nat):sIx n d (some (k:Int))=min k n:=by
 show(if(k:Int)<0 then((k:Int)+(n:Int)).toNat else min (k:Int).toNat n)=min k n
 rw[if_neg (by omega),lG]
theorem sIx_le(n d:Nat)(e:d<=n)(o:Option Int):sIx n d o<=n:=by
 cases o with
 |none=>exact e
 |some v =>
  show(if v<0 then(v+(n:Int)).toNat else min v.toNat n)<=n
  by_cases a:v<0
  ·rw[if_pos a];omega
  ·rw[if_neg a];exact Nat.min_le_right _ _
theorem clip_eq(v:Int)(n d:Nat):(if v<0 then max (v+(n:Int)) 0 else min v (n:Int))=((sIx n d (some v):Nat):Int):=by
 show(if v<0 then max (v+(n:Int)) 0 else min v (n:Int))=(((if v<0 then(v+(n:Int)).toNat else min v.toNat n):Nat):Int)
 by_cases a:v<0
 ·simp only[if_pos a];omega
 ·simp only[if_neg a];omega
end
end HT
namespace L2
open PySem PySem.Spec PyProof.Rows
abbrev TO:=St->Hp->(Option Int->Hp->Prop)->Prop
def PO(X:Cx)(e:Option Expr)(t:TO):Prop :=
 ∀(J2:Zd) (s:Shared) (σ:St) (H:Hp) (Q:Option Int->Hp->Prop),Inv X J2 σ H s->t σ H Q ->
  wpAny (model X.prog X.w) X.A (evalPart e X.env) (fun u s'=>∃o H',Inv X J2 σ H' s'/\IsPart u o/\Q o H') X.xe s
def e_:TO:=fun _ H Q=>Q none H
def gf(t:TE):TO:=fun σ H Q=>t σ H fun x H1=>∃i,x=.int i/\Q (some i) H1
section
variable{X:Cx}{e:Expr}{te:TE}{lo hi:Option Expr}{tl th:TO}{pos p2:Pos}
theorem fL:PO X none e_:=by
 intro a s σ H Q I h;rw[evalPart_none];exact aV ⟨none,H,I,.none,h⟩
theorem c8(h:PE X e te):PO X (some e) (gf te):=by
 intro f s σ H Q I g;rw[evalPart_some];refine cF (h f s σ H _ I g) fun u n a=>?_;obtain⟨x,j,k,l,m⟩:=a;obtain⟨i,rfl,q⟩:=m;obtain⟨t,rfl⟩:=l;exact⟨some i,j,k,.int i t,q⟩
def IW(X:Cx)(r:V->Option Int->Option Int->Hp->VK->Prop):Prop :=
 ∀(J2:Zd) (s:Shared) (σ:St) (H:Hp) (x:V) (v vl vu:Value) (lo hi:Option Int) (sl:Addr) (Q:VK),Inv X J2 σ H s->RelV x v->s.heap.IsSliceOf sl vl vu .none->IsPart vl lo->IsPart vu hi->r x lo hi H Q ->
  ∃T id,typeLookup (.type T) "__getitem__"=pure (some (.builtin id))/\s.TypeIs v T/\wpAny (model X.prog X.w) X.A (nH v (.ref sl)) (EP X J2 σ Q) X.xe s
theorem IW.or{r a:V->Option Int->Option Int->Hp->VK->Prop}(h:IW X r)(o:IW X a):IW X (fun x lo hi H Q=>r x lo hi H Q∨a x lo hi H Q):=by
 intro f s σ H x v g i lo hi j Q I k l m n q;rcases q with q|q
 ·exact h f s σ H x v g i lo hi j Q I k l m n q
 ·exact o f s σ H x v g i lo hi j Q I k l m n q
def AO(r:V->Option Int->Option Int->Hp->VK->Prop)(te:TE)(tl th:TO):TE:=fun σ H Q=>te σ H fun x H1=>tl σ H1 fun l H2=>th σ H2 fun u H3=>r x l u H3 Q
theorem cY{r:V->Option Int->Option Int->Hp->VK->Prop}(m:IW X r)(n:PE X e te)(o:PO X lo tl)(p:PO X hi th):PE X (.Subscript e (.Slice lo hi none p2) pos) (AO r te tl th):=by
 intro g s σ H Q I h;refine Subscript_ (cF (n g s σ H _ I h) fun v t f=>?_);obtain⟨x,y,z,B,C⟩:=f;refine wpAny_Slice (cF (o g t σ y _ z C) fun i D ⟨l,E,G,J,L⟩=>cF (p g D σ E _ G L) fun j a f=>?_);obtain⟨u,k,M,N,O⟩:=f;rw[evalPart_none];refine aV ?_;have U:Inv X g σ k { a with heap:=a.heap.push { cls:=.type "slice",data:=.fields #[i,j,.none] } }:=M.kept (t':=a.toks) fun b ob q=>cx _ q;obtain⟨T,id,Y,ht,hg⟩:=m g { a with heap:=a.heap.push { cls:=.type "slice",data:=.fields #[i,j,.none] } } σ k x v i j l u a.heap.objs.size Q U B (Heap.IsSliceOf.new ..) J N O;show wpAny (model X.prog X.w) X.A (subscriptTail e (.Slice lo hi none p2) v (.ref a.heap.objs.size)) (EP X g σ Q) X.xe { a with heap:=a.heap.push { cls:=.type "slice",data:=.fields #[i,j,.none] } };exact tail_any (ops:=[.ref a.heap.objs.size,v]) ht Y hg (by with_unfolding_all rfl)
def gC(xs:List V)(lo hi:Option Int):List V:=(xs.drop (HT.sIx xs.length 0 lo)).take (HT.sIx xs.length xs.length hi-HT.sIx xs.length 0 lo)
theorem Av(a:List V)(lo hi:Option Int):(gC a lo hi).length<=a.length:=by
 unfold gC;rw[aN,fP];omega
end
end L2
namespace L2
open PySem PySem.Spec PyProof.Rows
def Fc(n:Nat)(i:Int):Option Nat:=if 0<=i then(if i<n then some i.toNat else none)else if -(n:Int)<=i then some (i+n).toNat else none
def pO{α:Type}(xs:List α)(i:Int):Option α:=(Fc xs.length i).bind fun j=>xs[j]?
theorem ym{n:Nat}{i:Int}{j:Nat}(h:Fc n i=some j):xy i n=some j/\j<n/\-(n:Int)<=i/\i<n:=by
 unfold Fc at h;by_cases f:0<=i
 ·rw[if_pos f]at h;by_cases a:i<n
  ·rw[if_pos a]at h;have e:i.toNat=j:=fu h;exact⟨by rw[seqIndex_of f a,e],by omega,by omega,a⟩
  ·rw[if_neg a]at h;cases h
 ·rw[if_neg f]at h;by_cases a:-(n:Int)<=i
  ·rw[if_pos a]at h;have e:(i+n).toNat=j:=fu h;exact⟨by rw[seqIndex_neg (by omega) a,e],by omega,a,by omega⟩
  ·rw[if_neg a]at h;cases h
theorem yD{α:Type}{a:List α}{i:Int}{v:α}(h:pO a i=some v):∃j,xy i a.length=some j/\a[j]?=some v/\j<a.length/\-(a.length:Int)<=i/\i<a.length:=by
 unfold pO at h;cases e:Fc a.length i with
 |none=>rw[e]at h;cases h
 |some j =>
  rw[e]at h;obtain⟨f,g,k,l⟩:=ym e;exact⟨j,f,h,g,k,l⟩
theorem bc{α:Type}{a:List α}{j:Nat}{v:α}(h:a[j]?=some v):pO a (j:Int)=some v:=by
 have f:j<a.length:=(bY.mp h).1;have e:Fc a.length (j:Int)=some j:=by
  unfold Fc;rw[if_pos (by omega),if_pos (by omega)];simp
 unfold pO;rw[e];exact h
theorem AD{α:Type}(a:List α)(v:α):pO (a++[v]) (-1)=some v:=by
 have f:(a++[v]).length=a.length+1:=by simp
 have e:Fc (a++[v]).length (-1)=some a.length:=by
  unfold Fc;rw[f,if_neg (by decide),if_pos (by omega)];congr 1;omega
 unfold pO;rw[e];show(a++[v])[a.length]?=some v;simp
def Ip(b:Expr):Prop:=∀o i,xx b false o i=operate [o,i] (nH o i)
def Iw(X:Cx)(r:R2):Prop :=
 ∀(value slice:Expr) (J2:Zd) (s:Shared) (σ:St) (H:Hp) (x y:V) (v u:Value) (Q:VK),Inv X J2 σ H s->RelV x v->RelV y u->r x y H Q ->
  xx slice false v u=operate [v,u] (nH v u)->wpAny (model X.prog X.w) X.A (subscriptTail value slice v u) (EP X J2 σ Q) X.xe s
def MtR(X:Cx)(id:String)(r:V->List V->Hp->VK->Prop):Prop :=
 ∀(J2:Zd) (s:Shared) (σ:St) (H:Hp) (x:V) (xs:List V) (v:Value) (us:Zf) (Q:VK),Inv X J2 σ H s->RelV x v->bg xs us->r x xs H Q ->
  wpAny (model X.prog X.w) X.A (call (.builtin id) (v::us)) (EP X J2 σ Q) X.xe s
section
variable{X:Cx}{a b:Expr}{ta tb:TE}{pos:Pos}
theorem Iw.or{r e:R2}(h:Iw X r)(k:Iw X e):Iw X (fun x y H Q=>r x y H Q∨e x y H Q):=by
 intro value slice f s σ H x y v u Q I g i q j;rcases q with q|q
 ·exact h value slice f s σ H x y v u Q I g i q j
 ·exact k value slice f s σ H x y v u Q I g i q j
theorem C8{r:R2}(e:Iw X r)(f:PE X a ta)(g:PE X b tb)(i:Ip b):PE X (.Subscript a b pos) (aH r ta tb):=by
 intro j s σ H Q I h;exact Subscript_ (Jw f g I h fun v u k x y l m n o q=>e a b j k σ l x y v u Q m n o q (i _ _))
def cS(K:Za):R2:=fun x y H Q=>∃p xs i v,x=.ref p/\y=.int i/\ay K H p xs/\pO xs i=some v/\Q v H
def ia(K:Za):R2:=fun x y H Q=>∃p xs i v,x=.ref p/\y=.int i/\be K H p xs/\pO xs i=some v/\Q v H
def FU:R2:=fun x y H Q=>∃z i c,x=.str z/\y=.int i/\z.length<=ak/\pO z.cps.toList i=some c/\Q (.str ⟨#[c]⟩) H
theorem Dm:Iw X (cS X.K):=by
 intro value slice n s σ H x y v u Q I C D h o;obtain⟨p,T,i,z,rfl,rfl,E,G,q⟩:=h;cases C;obtain⟨t,rfl⟩:=D;obtain⟨g,r,k,U⟩:=I.list E;obtain⟨j,f,J,Y,L,M⟩:=yD G;obtain⟨w,A,l⟩:=r.get J;have N:=r.length;have hn:=qM;have e:EP X n σ Q w s:=⟨z,H,I,l,q⟩;by_cases B:0<=i
 ·have m:i.toNat=j:=by
   rw[seqIndex_of B M]at f;exact fu f
  exact item_listR k.isList B (by omega) (by rw[m];simpa using A) e o
 ·have m:(i+(g.toArray.size:Int)).toNat=j:=by
   rw[seqIndex_neg (by omega) L]at f;rw[bQ,<-N];exact fu f
  exact subscriptTail_builtinR (x:=w) k.isList.typeIs slot_list_getitem.lookup
   (wpAny_getItem_list_neg (Q:=fun r O=>r=w/\EP X n σ Q r O) k.isList (by omega) (by rw[bQ]<;>omega) (by omega) (by rw[m];simpa using A) ⟨rfl,e⟩) o
theorem Gu:Iw X (ia X.K):=by
 intro value slice g s σ H x y v u Q I l m h n;obtain⟨p,L,i,z,rfl,rfl,o,A,q⟩:=h;cases l;obtain⟨t,rfl⟩:=m;obtain⟨B,r,k,M⟩:=I.tuple o;obtain⟨j,C,D,N,O,T⟩:=yD A;obtain⟨w,E,e⟩:=r.get D;have G:=r.length;have U:=qM;have f:EP X g σ Q w s:=⟨z,H,I,e,q⟩;exact subscriptTail_builtinR (x:=w) k.typeIs slot_tuple_getitem.lookup
  (getItem_tuple (j:=j) (Q:=fun r J=>r=w/\EP X g σ Q r J) k (by omega) (by omega) (by rw[bQ,<-G];exact C) (by simpa using E) ⟨rfl,f⟩) n
theorem Gv:Iw X FU:=by
 intro value slice A s σ H x y v u Q I f g h k;obtain⟨z,i,c,rfl,rfl,B,l,q⟩:=h;obtain⟨t,rfl⟩:=f;obtain⟨C,rfl⟩:=g;obtain⟨j,e,m,D,n,o⟩:=yD l;have p:z.cps.toList.length=z.length:=by simp[Str.length]
 rw[p]at e n o;have E:=qM;exact tail_any (typeIs_str s z t) slot_str_getitem.lookup (getItem_str (c:=c) (by
  have r:decide (i < -(2 ^ 63:Int))=false:=zzr0 (by omega);have w:decide (i ≥ 2 ^ 63)=false:=zzr0 (by omega);rw[r,w,Bool.or_false]) (by rw[e];simpa using m) ⟨.str ⟨#[c]⟩,H,I.tok _,⟨_,rfl⟩,q⟩) k
def jA(K:Za):R2:=fun x y H Q=>cS K x y H Q∨ia K x y H Q∨FU x y H Q
theorem Jr:Iw X (jA X.K):=Dm.or (Gu.or Gv)
theorem BG(e:Zf)(n j:Nat)(u:Value):tG (·.setIfInBounds j u) { cls:=.type "list",data:=.seq e.toArray n }={ cls:=.type "list",data:=.seq (e.set j u).toArray n }:=by
 simp[tG]
theorem Inv.lst{i:Zd}{σ:St}{H:Hp}{s:Shared}{p:Addr}{g:List V}(I:Inv X i σ H s)(h:H p=some (.lst g)):
  ∃(f:Zf) (n:Nat),bg g f/\s.heap.get? p=some { cls:=.type "list",data:=.seq f.toArray n }/\g.length<=ak:=by
 obtain⟨z,f,n,r,e⟩:=I.hok p _ h;exact⟨f,n,r,e,z⟩
theorem Inv.lstUpd{l:Zd}{σ:St}{H:Hp}{s:Shared}{p:Addr}{o j:List V}{i g:Zf}{n k:Nat}{f:Obj->Obj}(I:Inv X l σ H s)(h:H p=some (.lst o))
  (v:s.heap.get? p=some { cls:=.type "list",data:=.seq i.toArray n }) (m:f { cls:=.type "list",data:=.seq i.toArray n }={ cls:=.type "list",data:=.seq g.toArray k }) (r:bg j g) (w:j.length<=ak) (t:Nat) :
  Inv X l σ (upd H p (.lst j)) { s with heap:=s.heap.update p f,toks:=t }:=by
 have e:(s.heap.update p f).get? p=some { cls:=.type "list",data:=.seq g.toArray k }:=by
  rw[Heap.get?_update_self f v (by rw[m]<;>rfl),m]
 refine I.write (x:=p) (e:=p) (by rw[h];trivial) (.inl rfl) (fun b u y q=>(Heap.get?_update_other _ _ (dF y)).trans q) ⟨_,e⟩ ?_;exact⟨w,g,k,r,e⟩
def ug:V->V->V->Hp->(Hp->Prop)->Prop:=fun o i v H Q=>∃p xs k j,o=.ref p/\i=.int k/\H p=some (.lst xs)/\Fc xs.length k=some j/\Q (upd H p (.lst (xs.set j v)))
theorem lN:J8 X ug:=by
 intro B s σ H o i v M N u Q I C D E h;obtain⟨p,G,k,j,rfl,rfl,w,J,q⟩:=h;cases C;obtain⟨t,rfl⟩:=D;obtain⟨e,n,r,g,L⟩:=I.lst w;obtain⟨f,O,x,y⟩:=ym J;have l:=r.length;have T:=qM;have z:Inv X B σ (upd H p (.lst (G.set j v))) { s with heap:=s.heap.update p (tG (·.setIfInBounds j u)) } :=
  I.lstUpd w g (BG e n j u) (r.set E j) (by rw[List.length_set];exact L) s.toks
 by_cases A:0<=k
 ·have m:k.toNat=j:=by
   rw[seqIndex_of A y]at f;exact fu f
  exact PySem.W.ki_setAt g A (by omega) (by rw[bQ,<-l];exact y) (by rw[m];exact⟨_,z,q⟩)
 ·have m:(k+(e.toArray.size:Int)).toNat=j:=by
   rw[seqIndex_neg (by omega) x]at f;rw[bQ,<-l];exact fu f
  exact PySem.W.ki_setBack g (by omega) (by rw[bQ,<-l];exact x) (by omega) (by rw[m];exact⟨_,z,q⟩)
theorem xU(lo e:Option Int)(n:Nat):(nG lo e none n).1=((HT.sIx n 0 lo:Nat):Int)/\(nG lo e none n).2.1=((HT.sIx n n e:Nat):Int)/\(nG lo e none n).2.2=1:=by
 refine⟨?_,?_,rfl⟩
 ·cases lo with
  |none=>simp[nG,HT.sIx]
  |some i =>
   simp only[nG,HT.sIx,Option.getD_none,show(1:Int) > 0 by decide,if_true];by_cases h:i<0
   ·simp only[h,if_true]<;>omega
   ·simp only[h,if_false]<;>omega
 ·cases e with
  |none=>simp[nG,HT.sIx]
  |some i =>
   simp only[nG,HT.sIx,Option.getD_none,show(1:Int) > 0 by decide,if_true];by_cases h:i<0
   ·simp only[h,if_true]<;>omega
   ·simp only[h,if_false]<;>omega
theorem vv(e:Zf)(lo f:Option Int):slicePick e.toArray lo f none=((e.drop (HT.sIx e.length 0 lo)).take (HT.sIx e.length e.length f-HT.sIx e.length 0 lo)).toArray:=by
 obtain⟨g,h,i⟩:=xU lo f e.toArray.size;unfold slicePick;rw[g,h,i];simp only[sliceRange_one,pick_run,bQ]<;>rfl
def pf(K:Za):V->Option Int->Option Int->Hp->VK->Prop:=fun x lo hi H Q=>∃a xs,x=.ref a/\ay K H a xs/\∀p,H p=none->Q (.ref p) (upd H p (.lst (gC xs lo hi)))
theorem fJ:IW X (pf X.K):=by
 intro u s σ H x v w y lo g z Q I j k l m h;obtain⟨a,e,rfl,n,q⟩:=h;cases j;obtain⟨p,r,i,t⟩:=I.list n;have f:=r.length;refine⟨"list",_,slot_list_getitem.lookup,i.isList.typeIs,?_⟩;refine wpAny_getItem_list_slice i.isList k l m .none (by simp) ?_ (by rw[bQ]<;>omega);rw[vv,<-f];refine⟨.ref s.heap.objs.size,_,I.laid (t':=s.toks) (o:=.lst (gC e lo g)) (fun b A q=>cx _ q) (aG _) ?_,rfl,q _ (I.hok.fresh (aG _))⟩;exact⟨bB (Av e lo g) t,_,0,(r.drop (HT.sIx e.length 0 lo)).take (HT.sIx e.length e.length g-HT.sIx e.length 0 lo),dL _ rfl⟩
theorem yB:fZ X (.builtin "len") (fun k H Q=>∃p f,k=[.ref p]/\(ay X.K H p f∨be X.K H p f)/\Q (.int f.length) H):=by
 intro n s σ H k o Q I r h;obtain⟨p,f,rfl,hq,q⟩:=h;obtain⟨u,rfl,l⟩:=vals1 r;cases l;have t:=qM;rcases hq with hq|hq
 ·obtain⟨g,i,j,m⟩:=I.list hq;have e:=i.length;exact Calls.call_len_list j.isList (by simp only[bQ]<;>omega) ⟨.int f.length,H,I.tok _,⟨s.toks+1,by rw[bQ,e]⟩,q⟩
 ·obtain⟨g,i,j,m⟩:=I.tuple hq;have e:=i.length;exact len_tuple j (by simp only[bQ]<;>omega) ⟨.int f.length,H,I.tok _,⟨s.toks+1,by rw[bQ,e]⟩,q⟩
theorem yz:fZ X (.builtin "len") (fun e H Q=>∃z,e=[.str z]/\z.length<=ak/\Q (.int z.length) H):=by
 intro f s σ H e g Q I r h;obtain⟨z,rfl,i,q⟩:=h;obtain⟨u,rfl,t,rfl⟩:=vals1 r;have j:=qM;exact len_str (by omega) ⟨.int z.length,H,I.tok _,⟨_,rfl⟩,q⟩
theorem fZ.or{f:Value}{r g:List V->Hp->VK->Prop}(h:fZ X f r)(l:fZ X f g):fZ X f (fun e H Q=>r e H Q∨g e H Q):=by
 intro i s σ H e j Q I k q;rcases q with q|q
 ·exact h i s σ H e j Q I k q
 ·exact l i s σ H e j Q I k q
theorem yy:fZ X (.type "list") (fun B H Q=>∃p i,B=[.ref p]/\(ay X.K H p i∨be X.K H p i)/\∀l,H l=none->Q (.ref l) (upd H l (.lst i))):=by
 intro D s σ H B G Q I r h;obtain⟨p,i,rfl,hq,q⟩:=h;obtain⟨u,rfl,E⟩:=vals1 r;cases E;have m:∀(f:Zf),bg i f->i.length<=ak->∀(g:Heap) (j:Nat),(∀b C,s.heap.get? b=some C->g.get? b=some C) ->
   g.get? s.heap.objs.size=some { cls:=.type "list",dict:=none,data:=.seq f.toArray j,slots:=#[] }->EP X D σ Q (.ref s.heap.objs.size) { s with heap:=g }:=fun f k t g j kp e =>
  ⟨.ref s.heap.objs.size,_,I.laid (t':=s.toks) kp (aG _) (show bS X.prog X.w X.K _ g _ (.lst i)from⟨t,f,j,k,e⟩),rfl,q _ (I.hok.fresh (aG _))⟩
 rcases hq with hq|hq
 ·obtain⟨f,k,x,t⟩:=I.list hq;have v:=k.length;obtain⟨o,y,z,n,A⟩:=x.isList;exact call_list_seq p (.inl rfl) y z A (fun g j kp e=>m f k t g j kp e) (by simp only[bQ]<;>omega)
 ·obtain⟨f,k,x,t⟩:=I.tuple hq;have v:=k.length;obtain⟨o,y,z,n,A⟩:=x;exact call_list_seq p (.inr rfl) y z A (fun g j kp e=>m f k t g j kp e) (by simp only[bQ]<;>omega)
theorem hV:fZ X (.type "tuple") (fun n H Q=>∃p g,n=[.ref p]/\((ay X.K H p g/\∀l,H l=none->Q (.ref l) (upd H l (.tup g)))∨(be X.K H p g/\Q (.ref p) H))):=by
 intro t s σ H n B Q I r h;obtain⟨p,g,rfl,h⟩:=h;obtain⟨u,rfl,z⟩:=vals1 r;cases z;rcases h with⟨j,q⟩|⟨j,q⟩
 ·obtain⟨f,k,m,v⟩:=I.list j;have x:=k.length;refine call_tuple_list m.isList (fun i kp=>?_) (by simp only[bQ]<;>omega);have y:Inv X t σ H { s with heap:=i }:=I.kept (t':=s.toks) kp;have A:Inv X t σ (upd H i.objs.size (.tup g)) { s with heap:=i.push { cls:=.type "tuple",data:=.seq f.toArray } } :=
   y.laid (t':=s.toks) (fun b o e=>cx _ e) (aG _) (show bS X.prog X.w X.K _ _ _ (.tup g)from⟨v,f,k,IsTup.new _ _⟩)
  exact⟨.ref i.objs.size,_,A,rfl,q _ (y.hok.fresh (aG _))⟩
 ·obtain⟨f,k,m,v⟩:=I.tuple j;exact call_tuple_same m ⟨.ref p,H,I,rfl,q⟩
def tyV(K:Za)(T:String)(x:V)(H:Hp):Prop:=match x with
 |.str _=>T="str"
 |.int _=>T="int"
 |.ref p=>(T="list"/\∃xs,ay K H p xs)∨(T="tuple"/\∃o,K.lookup p=some o/\o.cls=.type "tuple"/\o.dict=none) ∨
   (T="dict"/\((∃kvs,H p=some (.dK kvs))∨∃kvs,H p=some (.dT kvs)))∨(T="set"/\∃S n,H p=some (.set S n))
 |_=>False
theorem Fo{m:Zd}{σ:St}{H:Hp}{s:Shared}{T:String}{x:V}{v:Value}(I:Inv X m σ H s)(r:RelV x v)(ty:tyV X.K T x H):
  s.TypeIs v T/\∀a,v=.ref a->∃k,s.heap.get? a=some k/\k.dict=none:=by
 cases x with
 |str z =>
  obtain⟨t,rfl⟩:=r;cases(show T="str" from ty);exact⟨typeIs_str s z t,fun _ e=>nomatch e⟩
 |int i =>
  obtain⟨t,rfl⟩:=r;cases(show T="int" from ty);exact⟨typeIs_int s i t,fun _ e=>nomatch e⟩
 |ref p =>
  cases r;rcases ty with⟨rfl,y,q⟩|⟨rfl,o,f,u,g⟩|⟨rfl,f⟩|⟨rfl,S,n,f⟩
  ·obtain⟨w,_,l,_⟩:=I.list q;refine⟨l.isList.typeIs,fun a e=>?_⟩;cases e;obtain⟨o,n,e,c,g,_⟩:=l;exact⟨o,e,g⟩
  ·refine⟨⟨o,I.kIn p o f,u⟩,fun a e=>?_⟩;cases e;exact⟨o,I.kIn _ o f,g⟩
  ·have z:∃o,s.heap.get? p=some o/\o.ExactDict:=by
    rcases f with⟨h,f⟩|⟨h,f⟩
    ·obtain⟨_,_,_,_,o,_,_,e,ex,_⟩:=I.hok p _ f;exact⟨o,e,ex⟩
    ·obtain⟨_,_,_,_,o,_,_,e,ex,_⟩:=I.hok p _ f;exact⟨o,e,ex⟩
   obtain⟨o,e,ex⟩:=z;refine⟨⟨o,e,ex.1⟩,fun a j=>?_⟩;cases j;exact⟨o,e,ex.2.1⟩
  ·obtain⟨o,_,_,_,e,ex,_⟩:=I.hok p _ f;refine⟨⟨o,e,ex.1⟩,fun a j=>?_⟩;cases j;exact⟨o,e,ex.2.1⟩
 |_=>exact jO ty
def zD(K:Za)(T:String)(r:V->List V->Hp->VK->Prop)(to:TE):TE:=fun σ H Q=>to σ H fun x H1=>tyV K T x H1/\r x [] H1 Q
def qx(K:Za)(T:String)(r:V->List V->Hp->VK->Prop)(to:TE)(t:TA):TE:=fun σ H Q=>to σ H fun x H1=>tyV K T x H1/\t σ H1 fun xs H2=>r x xs H2 Q
variable{o e:Expr}{es:List Expr}{to:TE}{t:TA}{name:Str}{J4 J3:Pos}{T id:String}{r:V->List V->Hp->VK->Prop}
theorem nY(p:PlainAttrs T)(i:Slot T name id)(j:typeOf (.builtin id)=pure (.type "method_descriptor"))(q:MtR X id r)(u:PE X o to)
  (f:sJ o name X.env (eval o X.env)=eval o X.env:=by rfl) (g:(J4.endLine==J3.line)=true:=by rfl):PE X (.Call (.Attribute o name J4) [] [] J3) (zD X.K T r to):=by
 intro l s σ H Q I h;refine wpAny_Call_method0_late f g (cF (u l s σ H _ I h) fun v w k=>?_);obtain⟨x,y,m,n,ty,z⟩:=k;obtain⟨A,B⟩:=Fo m n ty;exact⟨T,id,p,i,j,A,B,tF rfl (PySem.evalArgs_none (q l w σ y x [] v [] Q m n .nil z))⟩
theorem eS(w:PlainAttrs T)(j:Slot T name id)(l:typeOf (.builtin id)=pure (.type "method_descriptor"))(y:MtR X id r)(z:PE X o to)(A:PA X (e::es) t)
  (g:sJ o name X.env (eval o X.env)=eval o X.env:=by rfl)
  (k:((backTo J3 (aO (e::es) X.env)).all (fun x=>!x.1) && (oK J3 (oJ [] X.env)).all (fun x=>x.1.isSome)
   && decide ((e::es).length+([]:List qh).length+(if([]:List qh).isEmpty then 0 else 1)<30))=true:=by rfl)
  (i:(J4.endLine==J3.line)=true:=by rfl) (B:aO (e::es) X.env=(false,eval e X.env)::aO es X.env:=by rfl) (f:(backTo J3 (aO es X.env)).any (·.1)=false:=by rfl) :
  PE X (.Call (.Attribute o name J4) (e::es) [] J3) (qx X.K T r to t):=by
 intro m s σ H Q I h;refine wpAny_Call_method_late g k i rfl (cF (z m s σ H _ I h) fun v C n=>?_);obtain⟨x,D,p,q,ty,E⟩:=n;obtain⟨G,J⟩:=Fo p q ty;refine⟨T,id,w,j,l,G,J,?_⟩;have u:=A J3 m C σ D _ p E;rw[B]at u ⊢;refine tF (by show(false || (backTo J3 (aO es X.env)).any (·.1))=false;rw[f]<;>rfl) (Calls.evalArgs_plain ?_);exact cF u fun L M ⟨N,O,U,Y,q2⟩=>y m M σ O x N v L Q U q Y q2
end
end L2
namespace L2
open PySem PySem.Spec PyProof.Rows
def JA(X:Cx)(id:String)(r:V->List V->Hp->VK->Prop):Prop :=
 ∀(J2:Zd) (s:Shared) (σ:St) (H:Hp) (x:V) (xs:List V) (v:Value) (us:Zf) (Q:VK),Inv X J2 σ H s->RelV x v->bg xs us->r x xs H Q ->
  wpAny (model X.prog X.w) X.A (call (.builtin id) (v::us)) (EP X J2 σ Q) X.xe s
theorem bg.one:∀{x:V}{a:Zf},bg [x] a->∃u,a=[u]/\RelV x u
 |_,_,.cons r .nil=>⟨_,rfl,r⟩
theorem bg.two:∀{x y:V}{a:Zf},bg [x,y] a->∃u v,a=[u,v]/\RelV x u/\RelV y v
 |_,_,_,.cons r (.cons q .nil)=>⟨_,_,rfl,r,q⟩
theorem bg.zero:∀{a:Zf},bg [] a->a=[]
 |_,.nil=>rfl
theorem bg.dropLast{a:List V}{e:Zf}(h:bg a e):bg a.dropLast e.dropLast:=by
 induction h with
 |nil=>exact .nil
 |cons r t f =>
  cases t with
  |nil=>exact .nil
  |cons q g=>exact .cons r f
theorem bg.eraseIdx:∀{a:List V}{e:Zf}(i:Nat),bg a e->bg (a.eraseIdx i) (e.eraseIdx i)
 |_,_,_,.nil=>.nil
 |_,_,0,.cons _ t=>t
 |_,_,i+1,.cons r t=>.cons r (bg.eraseIdx i t)
theorem bg.reverse{a:List V}{e:Zf}(h:bg a e):bg a.reverse e.reverse:=by
 induction h with
 |nil=>exact .nil
 |cons r t f=>rw[qg,qg];exact bg.append f (.cons r .nil)
theorem BY{α:Type}(l:List α):l.eraseIdx (l.length-1)=l.dropLast:=by
 induction l with
 |nil=>rfl
 |cons a r f =>
  cases r with
  |nil=>rfl
  |cons b r =>
   have e:(a::b::r).length-1=((b::r).length-1)+1:=by
    have g:(a::b::r).length=r.length+2:=rfl;have h:(b::r).length=r.length+1:=rfl;omega
   rw[e,List.eraseIdx_cons_succ,f]
   all_goals rfl
theorem wn{α:Type}:∀(l:List α) (i:Nat),(l.eraseIdx i).length<=l.length
 |[],_=>aG _
 |_::_,0=>sH _
 |_::r,i+1=>Nat.succ_le_succ (wn r i)
section
variable{X:Cx}{J2:Zd}{σ:St}{H:Hp}{s:Shared}{l b:Addr}{xs ys zs:List V}
theorem Inv.lset{a its':Zf}{n:Nat}{f:Array Value->Array Value}{g:Nat}(I:Inv X J2 σ H s)(h:H l=some (.lst xs))
  (e:s.heap.get? l=some { cls:=.type "list",data:=.seq a.toArray n }) (i:f a.toArray=its'.toArray) (j:bg ys its') (k:ys.length<=ak) :
  Inv X J2 σ (upd H l (.lst ys)) { s with heap:=s.heap.update l (tG f),toks:=g }:=by
 have q:=PySem.IsL.update e f;rw[i]at q;refine I.write (x:=l) (e:=l) (by rw[h];exact trivial) (.inl rfl) (fun p u m o=>(Heap.get?_update_other s.heap (tG f) (dF m)).trans o) ⟨_,q⟩ ?_;exact⟨k,its',_,j,q⟩
theorem Inv.lnew{a:Zf}{t':Nat}(I:Inv X J2 σ H s)(e:bg ys a)(f:ys.length<=ak):
  Inv X J2 σ (upd H s.heap.objs.size (.lst ys)) { s with heap:=s.heap.push { cls:=.type "list",data:=.seq a.toArray },toks:=t' } :=
 I.laid (fun _ _ q=>cx _ q) (aG _) ⟨f,a,0,e,dL _ rfl⟩
theorem Inv.fresh(I:Inv X J2 σ H s):H s.heap.objs.size=none:=I.hok.fresh (aG _)
theorem Inv.lstM(I:Inv X J2 σ H s)(f:H l=some (.lst xs)):xs.length<=ak/\∃(a:Zf) (n:Nat),bg xs a/\xs.length=a.length/\s.heap.get? l=some { cls:=.type "list",data:=.seq a.toArray n }:=by
 obtain⟨z,a,n,r,e⟩:=I.hok l _ f;exact⟨z,a,n,r,r.length,e⟩
theorem Ge{n:Nat}(h:n<=ak):cV.List.listTooLong n=false:=by
 unfold cV.List.listTooLong;exact zzr0 (by omega)
end
section
variable{X:Cx}
def ci:V->List V->Hp->VK->Prop:=fun x vs H Q=>∃l xs y,x=.ref l/\vs=[y]/\H l=some (.lst xs)/\xs.length<ak/\Q .non (upd H l (.lst (xs++[y])))
theorem bI:JA X "list.append" ci:=by
 intro k s σ H x m v o Q I g i h;obtain⟨l,p,y,rfl,rfl,f,t,q⟩:=h;cases g;obtain⟨u,rfl,j⟩:=i.one;obtain⟨z,a,n,r,w,e⟩:=I.lstM f;refine qe F.slot_list_append ⟨_,e,rfl⟩ F.entry_list_append (F.args_list_append_2 _ _) (PySem.list_append l a.toArray n u (by rw[bQ];omega)) ⟨e,?_⟩;refine⟨.non,_,I.lset (its':=a++[u]) f e (by simp) (r.append (.cons j .nil)) ?_,rfl,q⟩;rw[au,xw];omega
def C5:V->List V->Hp->VK->Prop:=fun x vs H Q=>∃l b xs zs,x=.ref l/\vs=[.ref b]/\H l=some (.lst xs)/\H b=some (.lst zs)/\xs.length+zs.length<=ak/\Q .non (upd H l (.lst (xs++zs)))
theorem Es:JA X "list.extend" C5:=by
 intro B s σ H x C v D Q I k m h;obtain⟨l,b,E,G,rfl,rfl,j,o,J,q⟩:=h;cases k;obtain⟨u,rfl,p⟩:=m.one;cases p;obtain⟨z,f,n,r,L,e⟩:=I.lstM j;obtain⟨M,a,t,w,y,A⟩:=I.lstM o;have i:f.toArray.size+a.toArray.size<=ak:=by rw[bQ,bQ];omega
 have g:¬(!f.toArray.isEmpty && cV.List.listTooLong (f.toArray.size+a.toArray.size))=true:=by
  rw[Ge i,xv];exact h7
 refine qe F.slot_list_extend ⟨_,e,rfl⟩ F.entry_list_extend (F.args_list_extend_2 _ _)
  (AutoSeq1.list_extend_list_list_0 l f.toArray n b a.toArray t g (by rw[bQ];omega) (by omega)) ⟨e,A,?_⟩
 refine⟨.non,_,I.lset (its':=f++a) j e (by simp) (r.append w) ?_,rfl,q⟩;rw[au];omega
def Eh:V->List V->Hp->VK->Prop:=fun x vs H Q=>∃l xs y,x=.ref l/\vs=[]/\H l=some (.lst xs)/\xs[xs.length-1]?=some y/\Q y (upd H l (.lst xs.dropLast))
theorem ut:JA X "list.pop" Eh:=by
 intro w s σ H x A v B Q I j k h;obtain⟨l,C,y,rfl,rfl,i,m,q⟩:=h;cases j;have f:=k.zero;subst f;obtain⟨z,a,n,r,o,e⟩:=I.lstM i;obtain⟨u,p,t⟩:=r.get m;have g:a.toArray[a.toArray.size-1]?=some u:=by
  show a.toArray[a.length-1]?=some u;rw[<-Array.getElem?_toList,<-o];exact p
 refine qe F.slot_list_pop ⟨_,e,rfl⟩ F.entry_list_pop (F.args_list_pop_1 _) (MeetsSeq.list_pop_last l a.toArray n u g (by rw[bQ];omega)) ⟨e,?_⟩;refine⟨y,_,I.lset (its':=a.dropLast) i e ?_ r.dropLast ?_,t,q⟩
 ·show a.toArray.eraseIdxIfInBounds (a.toArray.size-1)=a.dropLast.toArray;rw[bQ,List.eraseIdxIfInBounds_toArray,BY]
 ·rw[List.length_dropLast];omega
def FT:V->List V->Hp->VK->Prop:=fun x vs H Q=>∃l xs i k y,x=.ref l/\vs=[.int i]/\H l=some (.lst xs)/\-(2 ^ 63)<=i/\i<2 ^ 63/\xy i xs.length=some k/\xs[k]?=some y/\Q y (upd H l (.lst (xs.eraseIdx k)))
theorem Gk:JA X "list.pop" FT:=by
 intro J s σ H x L v M Q I j m h;obtain⟨l,o,i,k,y,rfl,rfl,g,p,A,B,C,q⟩:=h;cases j;obtain⟨u,rfl,D⟩:=m.one;obtain⟨t,rfl⟩:=D;obtain⟨z,a,n,r,E,e⟩:=I.lstM g;obtain⟨w,G,f⟩:=r.get C;refine qe F.slot_list_pop ⟨_,e,rfl⟩ F.entry_list_pop (F.args_list_pop_2 _ _)
  (MeetsSeq.list_pop_at l a.toArray n i t k w (fitsIndex_both p A) (by rw[bQ,<-E];exact B) (by rw[<-Array.getElem?_toList];exact G) (by rw[bQ];omega)) ⟨e,?_⟩
 refine⟨y,_,I.lset (its':=a.eraseIdx k) g e ?_ (r.eraseIdx k) ?_,f,q⟩
 ·show a.toArray.eraseIdxIfInBounds k=(a.eraseIdx k).toArray;rw[List.eraseIdxIfInBounds_toArray]
 ·have:=wn o k;omega
def uh:V->List V->Hp->VK->Prop:=fun x vs H Q=>∃l xs,x=.ref l/\vs=[]/\H l=some (.lst xs)/\Q .non (upd H l (.lst xs.reverse))
theorem ur:JA X "list.reverse" uh:=by
 intro k s σ H x m v o Q I i j h;obtain⟨l,p,rfl,rfl,g,q⟩:=h;cases i;have f:=j.zero;subst f;obtain⟨z,a,n,r,t,e⟩:=I.lstM g;refine qe F.slot_list_reverse ⟨_,e,rfl⟩ F.entry_list_reverse (F.args_list_reverse_1 _) (AutoSeq1.list_reverse_list_0 l a.toArray n (by rw[bQ];omega)) ⟨e,?_⟩;refine⟨.non,_,I.lset (its':=a.reverse) g e (by simp) r.reverse ?_,rfl,q⟩;rw[List.length_reverse];omega
def r9:R2:=fun x y H Q=>∃l b xs zs,x=.ref l/\y=.ref b/\H l=some (.lst xs)/\H b=some (.lst zs)/\xs.length+zs.length<=ak/\∀p,H p=none->Q (.ref p) (upd H p (.lst (xs++zs)))
theorem jb:oI X (rh .Add) r9:=by
 intro w s σ H x y v u Q I g i h;obtain⟨l,b,A,B,rfl,rfl,j,k,C,q⟩:=h;cases g;cases i;obtain⟨z,f,n,r,D,e⟩:=I.lstM j;obtain⟨E,a,G,m,o,p⟩:=I.lstM k;refine PySem.P.add_list e p ?_ (by rw[bQ,bQ];omega);have t:f.toArray++a.toArray=(f++a).toArray:=by simp
 rw[t];exact⟨.ref _,_,I.lnew (t':=s.toks) (r.append m) (by rw[au];omega),rfl,q _ I.fresh⟩
end
end L2
namespace L2
open PySem PySem.Spec PyProof.Rows
section
variable{κ:Type}[DecidableEq κ]
def bM(kvs:List (κ×V))(k:κ):Option V:=(kvs.find? fun kv=>decide (kv.1=k)).map (·.2)
def cn(kvs:List (κ×V))(k:κ)(v:V):List (κ×V) :=
 if(kvs.any fun kv=>decide (kv.1=k))=true then kvs.map (fun kv=>if kv.1=k then(kv.1,v)else kv)else kvs++[(k,v)]
theorem cL{p:κ×V}{r:List (κ×V)}{k:κ}(e:p.1=k):bM (p::r) k=some p.2:=by simp[bM,gR,e]
theorem cE{p:κ×V}{r:List (κ×V)}{k:κ}(e:¬p.1=k):bM (p::r) k=bM r k:=by simp[bM,gR,e]
theorem jP(k:κ):∀a:List (κ×V),(a.any fun f=>decide (f.1=k))=(bM a k).isSome
 |[]=>rfl
 |p::r=>by
  rw[kh];by_cases e:p.1=k
  ·simp only[cL e,zzr1 e,Bool.true_or,Option.isSome_some]
  ·rw[cE e,zzr0 e,Bool.false_or];exact jP k r
theorem yZ(k j:κ)(y:V):∀a:List (κ×V),bM (a.map fun f=>if f.1=k then(f.1,y)else f) j=(bM a j).map fun x=>if j=k then y else x
 |[]=>rfl
 |p::r=>by
  have g:=yZ k j y r;rw[bd];by_cases h:p.1=k
  ·rw[if_pos h];by_cases e:p.1=j
   ·rw[cL (p:=(p.1,y)) e,cL e,tE,if_pos (e.symm.trans h)]
   ·rw[cE (p:=(p.1,y)) e,cE e,g]
  ·rw[if_neg h];by_cases e:p.1=j
   ·rw[cL (p:=p) e,cL e,tE,if_neg (fun z=>h (e.trans z))]
   ·rw[cE (p:=p) e,cE e,g]
theorem vU(k j:κ)(y:V):∀a:List (κ×V),bM a k=none->bM (a++[(k,y)]) j=if j=k then some y else bM a j
 |[],_=>by
  by_cases e:k=j
  ·rw[if_pos e.symm];exact cL (p:=(k,y)) e
  ·rw[if_neg (fun z=>e z.symm)];exact cE (p:=(k,y)) e
 |p::r,f=>by
  rw[tD];have g:¬p.1=k:=fun z=>by rw[cL z]at f;cases f
  rw[cE g]at f;have h:=vU k j y r f;by_cases e:p.1=j
  ·rw[cL e,cL e,if_neg (fun z=>g (e.trans z))]
  ·rw[cE e,cE e,h]
theorem yY(f:List (κ×V))(k j:κ)(y:V):bM (cn f k y) j=if j=k then some y else bM f j:=by
 unfold cn;by_cases a:(f.any fun g=>decide (g.1=k))=true
 ·rw[if_pos a,yZ];rw[jP]at a;by_cases e:j=k
  ·obtain⟨x,h⟩:=CA.mp a;rw[if_pos e,e,h,tE,if_pos rfl]
  ·rw[if_neg e];cases bM f j with
   |none=>rfl
   |some x=>rw[tE,if_neg e]
 ·rw[if_neg a];refine vU k j y f ?_;rw[jP]at a;cases q:bM f k with
  |none=>rfl
  |some x=>rw[q]at a;exact(a rfl).elim
theorem ju(a:List (κ×V))(k:κ)(v:V):(cn a k v).length<=a.length+1:=by
 unfold cn;split
 ·rw[aj];omega
 ·rw[au,fo,tz];omega
theorem gp{a:List (κ×V)}{k:κ}(v:V)(h:bM a k=none):cn a k v=a++[(k,v)]:=by
 unfold cn;rw[jP,h];exact if_neg (by decide)
theorem lb.isSome_eq{o:Option V}{u:Option Value}(r:lb o u):o.isSome=u.isSome:=by
 cases o with
 |none=>cases u with
  |none=>rfl
  |some _=>exact(show False from r).elim
 |some _=>cases u with
  |none=>exact(show False from r).elim
  |some _=>rfl
theorem lb.getD{o:Option V}{u:Option Value}{d:V}{a:Value}(r:lb o u)(rd:RelV d a):RelV (o.getD d) (u.getD a):=by
 cases o with
 |none=>cases u with
  |none=>exact rd
  |some _=>exact(show False from r).elim
 |some _=>cases u with
  |none=>exact(show False from r).elim
  |some _=>exact r
theorem KV.val{a:List (κ×V)}{g:List (κ×Value)}(r:KV a g)(k:κ):lb (bM a k) (nF g k):=by
 unfold KV at r
 induction r with
 |nil=>exact iC
 |@cons p q m qs h t j =>
  obtain⟨i,l⟩:=h;by_cases e:p.1=k
  ·have f:q.1=k:=i.symm.trans e;have b:nF (q::qs) k=some q.2:=by simp[nF,gR,f]
   rw[cL e,b];exact l
  ·have f:¬q.1=k:=fun z=>e (i.trans z);have b:nF (q::qs) k=nF qs k:=by simp[nF,gR,f]
   rw[cE e,b];exact j
theorem KV.any{a:List (κ×V)}{f:List (κ×Value)}(r:KV a f)(k:κ):(a.any fun e=>decide (e.1=k))=f.any fun e=>decide (e.1=k):=by
 unfold KV at r
 induction r with
 |nil=>rfl
 |cons h t g=>rw[kh,kh,g,h.1]
theorem KV.repl{f:List (κ×V)}{i:List (κ×Value)}(r:KV f i)(k:κ){y:V}{u:Value}(j:RelV y u):
  KV (f.map fun a=>if a.1=k then(a.1,y)else a) (i.map fun a=>if a.1=k then(a.1,u)else a):=by
 unfold KV at r ⊢
 induction r with
 |nil=>exact .nil
 |@cons p q n qs h t l =>
  rw[bd,bd];refine .cons ?_ l;obtain⟨g,m⟩:=h;by_cases e:p.1=k
  ·rw[if_pos e,if_pos (g.symm.trans e)];exact⟨g,j⟩
  ·rw[if_neg e,if_neg (fun z=>e (g.trans z))];exact⟨g,m⟩
theorem KV.put{kvs:List (κ×V)}{a:List (κ×Value)}(r:KV kvs a)(k:κ){y:V}{u:Value}(f:RelV y u):KV (cn kvs k y) (stored a k u):=by
 unfold cn stored;rw[r.any k];by_cases e:(a.any fun g=>decide (g.1=k))=true
 ·rw[if_pos e,if_pos e];exact r.repl k f
 ·rw[if_neg e,if_neg e];exact cr r ⟨rfl,f⟩
theorem KV.length{a:List (κ×V)}{e:List (κ×Value)}(r:KV a e):a.length=e.length:=Paired.length r
end
theorem nj{P:bV}{w:World}{k:cz}{u:Value}(r:RelV (kV k) u):(bZ P w).is k u=true:=by
 cases k with
 |inl i=>obtain⟨t,e⟩:=(show ∃t,u=Value.int i t from r);subst e;exact Aa P w i t
 |inr x=>obtain⟨t,e⟩:=(show ∃t,u=Value.str x t from r);subst e;exact z_ P w x t
theorem yk:∀{k:oy}{u:Value},RelV (IK k) u->je k u=true
 |none,u,r=>by cases(show u=Value.none from r);rfl
 |some (.inl i),u,r=>by obtain⟨t,rfl⟩:=r;exact mG i t
 |some (.inr x),u,r=>by obtain⟨t,rfl⟩:=r;exact mF x t
abbrev KT(K:Za)(H:Hp):List (TK×V)->List (TK×Addr×Value)->Prop:=Paired fun p q=>p.1=q.1/\oe K H p.1 (.ref q.2.1)/\p.1.depth<=8/\RelV p.2 q.2.2
theorem KT.val{K:Za}{H:Hp}{a:List (TK×V)}{g:List (TK×Addr×Value)}(r:KT K H a g)(k:TK):lb (bM a k) ((atKey g k).map (·.2)):=by
 induction r with
 |nil=>exact iC
 |@cons p q m qs h t j =>
  obtain⟨i,_,_,l⟩:=h;by_cases e:p.1=k
  ·have f:q.1=k:=i.symm.trans e;have b:atKey (q::qs) k=some q.2:=by simp[atKey,gR,f]
   rw[cL e,b];exact l
  ·have f:¬q.1=k:=fun z=>e (i.trans z);have b:atKey (q::qs) k=atKey qs k:=by simp[atKey,gR,f]
   rw[cE e,b];exact j
theorem KT.repl{K:Za}{H:Hp}{a:List (TK×V)}{i:List (TK×Addr×Value)}(r:KT K H a i)(k:TK){y:V}{u:Value}(m:RelV y u):
  KT K H (a.map fun g=>if g.1=k then(g.1,y)else g) (i.map (putAt k u)):=by
 induction r with
 |nil=>exact .nil
 |@cons p q o qs h t n =>
  rw[bd,bd];refine .cons ?_ n;obtain⟨f,j,l⟩:=h;unfold putAt;by_cases e:p.1=k
  ·rw[if_pos e,if_pos (f.symm.trans e)];exact⟨f,j,l.1,m⟩
  ·rw[if_neg e,if_neg (fun z=>e (f.trans z))];exact⟨f,j,l⟩
theorem KT.put{K:Za}{H:Hp}{kvs:List (TK×V)}{a:List (TK×Addr×Value)}(r:KT K H kvs a)(k:TK){b:Addr}{y:V}{u:Value}(g:oe K H k (.ref b))(h:k.depth<=8)(f:RelV y u):
  KT K H (cn kvs k y) (storedH a k b u):=by
 have e:(kvs.any fun i=>decide (i.1=k))=(atKey a k).isSome:=by
  rw[jP,(r.val k).isSome_eq,Option.isSome_map]
 unfold cn storedH;rw[e];by_cases q:(atKey a k).isSome=true
 ·rw[if_pos q,if_pos q];exact r.repl k f
 ·rw[if_neg q,if_neg q];exact cr r ⟨rfl,g,h,f⟩
theorem KT.keeps{K:Za}{H a:Hp}{kvs:List (TK×V)}{xs:List (TK×Addr×Value)}(r:KT K H kvs xs)(f:∀b e,H b=some (.tup e)->a b=some (.tup e)):KT K a kvs xs :=
 Paired.mapP r fun _ _ z=>⟨z.1,oe.keeps f 8 z.2.2.1 z.2.1,z.2.2⟩
section
variable{P:bV}{w:World}{K:Za}{H:Hp}{h:Heap}{a:Addr}
theorem IC{u:HO}(ok:mh P w K H h)(e:Rd H a u):bS P w K H h a u:=e.ok ok
theorem nv{f:List (cz×V)}(ok:mh P w K H h)(e:Rd H a (.dK f)):f.length<=ak/\(a==gb)=false/\∃g,KV f g/\h.DictOf (bZ P w) a g :=
 show bS P w K H h a (.dK f)from IC ok e
theorem IQ{f:List (cz×V)}(ok:mh P w K H h)(e:H a=some (.dK f)):f.length<=ak/\(a==gb)=false/\∃g,KV f g/\h.DictOf (bZ P w) a g:=nv ok (.inl e)
theorem I_(ok:mh P w K H h)(kin:K.In h):∀(d:Nat) {k:TK}{v:V}{u:Value},k.depth<=d->oe K H k v->RelV v u->mT h k u:=by
 have z:∀(d:Nat) (x:∀{k:TK}{v:V}{u:Value},k.depth<=d->oe K H k v->RelV v u->mT h k u) (i:List TK) (j:List V) (y:Zf),TK.depths i<=d->TKCs K H i j->bg j y->TAts h i y:=by
  intro d x i
  induction i with
  |nil =>
   intro j y _ g r;have e:j=[]:=g;subst e;cases r
   rfl
  |cons k i A =>
   intro j y m g r;obtain⟨v,B,rfl,q,C⟩:=g;cases r with
   |@cons _ u _ s I J =>
    have L:max k.depth (TK.depths i)<=d:=m;exact⟨u,s,rfl,x (by omega) q I,A B s (by omega) C J⟩
 intro d
 induction d with
 |zero =>
  intro k v u m g r;cases k with
  |t l=>exact absurd m (by show ¬(TK.depths l+1<=0);omega)
  |k b =>
   have e:v=IK b:=g;subst e;exact yk r
 |succ d x =>
  intro k v u m g r;cases k with
  |k b =>
   have e:v=IK b:=g;subst e;exact yk r
  |t l =>
   obtain⟨b,D,rfl,E,M⟩:=g;cases(show u=Value.ref b from r);obtain⟨f,G,N,q,C,n,O⟩:∃f:List Value,bg D f/\IsTup h b f.toArray:=by
    rcases E with E|⟨o,f,n,Q,T,U,Y,r⟩
    ·obtain⟨_,f,G,p⟩:=(show bS P w K H h b (.tup D)from ok b _ E);exact⟨f,G,p⟩
    ·exact⟨f.toList,r,o,kin b o Q,T,n,by simpa using U⟩
   exact⟨b,N,f.toArray,n,rfl,q,C,O,by simpa using z d (fun q=>x q) l D f (by have:TK.depths l+1<=d+1:=m;omega) M G⟩
theorem uz{k:TK}(ok:mh P w K H h)(kin:K.In h)(e:oe K H k (.ref a))(f:k.depth<=8):(eA P w).is h k a:=⟨I_ ok kin 8 f e rfl,f⟩
theorem rK{f:List (TK×V)}(ok:mh P w K H h)(kin:K.In h)(e:Rd H a (.dT f)):f.length<=ak/\(a==gb)=false /\
  ∃g,KT K H f g/\h.DictOfH (eA P w) a g:=by
 obtain⟨z,y,g,r,o,j,k,n,s,u,v,A⟩:=(show bS P w K H h a (.dT f)from IC ok e);refine⟨z,y,g,r,o,j,k,n,s,u,v,fun x hx=>?_,A⟩;have all:∀{l:List (TK×V)}{m:List (TK×Addr×Value)},KT K H l m->∀x∈m,(eA P w).is h x.1 x.2.1:=by
  intro l m q
  induction q with
  |nil=>intro x hx;exact nomatch hx
  |@cons p q C qs i t B =>
   intro x hx;rcases df.mp hx with e|hx
   ·subst e;exact uz ok kin (by rw[<-i.1];exact i.2.1) (by rw[<-i.1];exact i.2.2.1)
   ·exact B x hx
 exact all r x hx
theorem Dq{f:List (TK×V)}(ok:mh P w K H h)(kin:K.In h)(e:H a=some (.dT f)):f.length<=ak/\(a==gb)=false /\
  ∃g,KT K H f g/\h.DictOfH (eA P w) a g:=rK ok kin (.inl e)
end
mutual
def jC(K:Za)(H:Hp):TK->V->Prop
 |.k a,v=>v=IK a
 |.t l,v=>∃b xs,v=.ref b/\be K H b xs/\TKIns K H l xs
def TKIns(K:Za)(H:Hp):List TK->List V->Prop
 |[],vs=>vs=[]
 |k::r,vs=>∃v us,vs=v::us/\jC K H k v/\TKIns K H r us
end
theorem dJ.isIn{K:Za}{H:Hp}:∀(d:Nat) {k:TK}{v:V},k.depth<=d->dJ H k v->jC K H k v:=by
 have j:∀(d:Nat) (h:∀{k:TK}{v:V},k.depth<=d->dJ H k v->jC K H k v) (e:List TK) (i:List V),TK.depths e<=d->TKAts H e i->TKIns K H e i:=by
  intro d h e
  induction e with
  |nil=>intro i _ f;exact f
  |cons x e m =>
   intro i g f;obtain⟨v,p,rfl,n,o⟩:=f;have q:max x.depth (TK.depths e)<=d:=g;exact⟨v,p,rfl,h (by omega) n,m p (by omega) o⟩
 intro d
 induction d with
 |zero =>
  intro k v g f;cases k with
  |t l=>exact absurd g (by show ¬(TK.depths l+1<=0);omega)
  |k a=>exact f
 |succ d h =>
  intro k v g f;cases k with
  |k a=>exact f
  |t l =>
   obtain⟨b,e,rfl,r,s⟩:=f;exact⟨b,e,rfl,be.of r,j d (fun u=>h u) l e (by have:TK.depths l+1<=d+1:=g;omega) s⟩
theorem Hm{X:Cx}{z:Zd}{σ:St}{H:Hp}{s:Shared}(I:Inv X z σ H s):∀(d:Nat) {k:TK}{v:V}{u:Value},k.depth<=d->jC X.K H k v->RelV v u->mT s.heap k u:=by
 have q:∀(d:Nat) (o:∀{k:TK}{v:V}{u:Value},k.depth<=d->jC X.K H k v->RelV v u->mT s.heap k u) (f:List TK) (g:List V) (p:Zf),TK.depths f<=d->TKIns X.K H f g->bg g p->TAts s.heap f p:=by
  intro d o f
  induction f with
  |nil =>
   intro g p _ a r;have e:g=[]:=a;subst e;cases r
   rfl
  |cons k f w =>
   intro g p h a r;obtain⟨v,x,rfl,i,y⟩:=a;cases r with
   |@cons _ u _ j A B =>
    have C:max k.depth (TK.depths f)<=d:=h;exact⟨u,j,rfl,o (by omega) i A,w x j (by omega) y B⟩
 intro d
 induction d with
 |zero =>
  intro k v u h a r;cases k with
  |t l=>exact absurd h (by show ¬(TK.depths l+1<=0);omega)
  |k b =>
   have e:v=IK b:=a;subst e;exact yk r
 |succ d o =>
  intro k v u h a r;cases k with
  |k b =>
   have e:v=IK b:=a;subst e;exact yk r
  |t l =>
   obtain⟨b,D,rfl,E,G⟩:=a;cases(show u=Value.ref b from r);obtain⟨m,J,⟨L,i,y,n,M⟩,_⟩:=I.tuple E;exact⟨b,L,m.toArray,n,rfl,i,y,M,by simpa using q d (fun i=>o i) l D m (by have:TK.depths l+1<=d+1:=h;omega) G J⟩
theorem uA{X:Cx}{f:Zd}{σ:St}{H:Hp}{s:Shared}{k:TK}{b:Addr}(I:Inv X f σ H s)(e:jC X.K H k (.ref b))(a:k.depth<=8):(eA X.prog X.w).is s.heap k b:=⟨Hm I 8 a e rfl,a⟩
theorem fV{P:bV}{w:World}{A:Around}(a:A.units+16<cLine):(eA P w).room A.in1:=by
 show A.units+1+8<cLine;omega
def kM(K:Za)(H:Hp)(a:Addr)(y:V)(r:Option V):Prop :=
 (∃kvs k,Rd H a (.dK kvs)/\y=kV k/\r=bM kvs k)∨∃kvs k b,Rd H a (.dT kvs)/\y=.ref b/\jC K H k (.ref b)/\k.depth<=8/\r=bM kvs k
def Ki(H:Hp)(a:Addr)(y v:V)(H':Hp):Prop :=
 (∃kvs k,H a=some (.dK kvs)/\y=kV k/\kvs.length<ak/\H'=upd H a (.dK (cn kvs k v))) ∨
 ∃kvs k b,H a=some (.dT kvs)/\y=.ref b/\dJ H k (.ref b)/\k.depth<=8/\kvs.length<ak/\H'=upd H a (.dT (cn kvs k v))
section
variable{X:Cx}{J2:Zd}{σ:St}{H:Hp}{s:Shared}{a:Addr}{y v:V}{u r:Value}{o:Option V}{A:Around}{E:Zc}
theorem Inv.big(I:Inv X J2 σ H s):gb<s.heap.objs.size:=by
 have h:cy<s.heap.objs.size:=(I.mod.glob.keeps I.bk).lt;exact Nat.lt_trans (by decide) h
theorem EL{Q:Zc}(D:A.units+16<cLine)(I:Inv X J2 σ H s)(g:kM X.K H a y (some v))(B:RelV y u)(h:∀j C,Inv X J2 σ H C->RelV v j->Q j C):
  wpAny (model X.prog X.w) A (nH (.ref a) u) Q E s:=by
 rcases g with⟨m,k,e,n,l⟩|⟨m,k,b,e,n,G,J,l⟩
 ·subst n;obtain⟨z,L,M,f,q⟩:=nv I.hok e;obtain⟨j,t,i⟩:=lb.some_of (v:=v) (o:=nF M k) (by rw[l];exact f.val k);exact wpAny_getItem_of (nj B) q.mapOf t (h j _ (I.tok _) i)
 ·subst n;cases(show u=Value.ref b from B);obtain⟨z,L,N,f,q⟩:=rK I.hok I.kIn e;obtain⟨j,t,i⟩:=lb.some_of (v:=v) (o:=(atKey N k).map (·.2)) (by rw[l];exact f.val k);obtain⟨p,O,x⟩:=lq.mp t;refine wpAny_getItem_heap (fV D) (uA I G J) q O ?_;rw[x];exact h j _ (I.tok _) i
theorem d_in{Q:Zc}(t:A.units+16<cLine)(I:Inv X J2 σ H s)(g:kM X.K H a y o)(n:RelV y u)(h:∀p,Inv X J2 σ H p->Q (.bool o.isSome) p):
  wpAny (model X.prog X.w) A (fq .In u (.ref a)) Q E s:=by
 rcases g with⟨i,k,e,j,l⟩|⟨i,k,b,e,j,x,B,l⟩
 ·subst j;obtain⟨z,hd,C,f,m⟩:=nv I.hok e;refine wpAny_in_of (nj n) hd m.mapOf ?_;rw[<-(f.val k).isSome_eq,<-l];exact h _ (I.tok _)
 ·subst j;cases(show u=Value.ref b from n);obtain⟨z,hd,D,f,m⟩:=rK I.hok I.kIn e;refine wpAny_in_heap (fV t) (uA I x B) hd m ?_;have q:=(f.val k).isSome_eq;rw[Option.isSome_map]at q;rw[<-q,<-l];exact h _ (I.tok _)
theorem Ig{Q:Zc}(t:A.units+16<cLine)(I:Inv X J2 σ H s)(g:kM X.K H a y o)(n:RelV y u)(h:∀p,Inv X J2 σ H p->Q (.bool (!o.isSome)) p):
  wpAny (model X.prog X.w) A (fq .NotIn u (.ref a)) Q E s:=by
 rcases g with⟨i,k,e,j,l⟩|⟨i,k,b,e,j,x,B,l⟩
 ·subst j;obtain⟨z,hd,C,f,m⟩:=nv I.hok e;refine wpAny_notIn_of (nj n) hd m.mapOf ?_;rw[<-(f.val k).isSome_eq,<-l];exact h _ (I.tok _)
 ·subst j;cases(show u=Value.ref b from n);obtain⟨z,hd,D,f,m⟩:=rK I.hok I.kIn e;refine wpAny_notIn_heap (fV t) (uA I x B) hd m ?_;have q:=(f.val k).isSome_eq;rw[Option.isSome_map]at q;rw[<-q,<-l];exact h _ (I.tok _)
theorem mK{f:Heap}{g:Nat}{ob:HO}(I:Inv X J2 σ H s)(h:Ka (H a))(i:gL a s.heap f)(j:∃q,f.get? a=some q)(new:bS X.prog X.w X.K (upd H a ob) f a ob):
  Inv X J2 σ (upd H a ob) { s with heap:=f,toks:=g } :=
 I.write (x:=a) (e:=a) h (.inl rfl) (fun b q k z=>(i.2 b k).trans z) j new
theorem B1{P:bV}{w:World}{K:Za}{i:Hp}{h:Heap}{e:List (cz×V)}{f:List (cz×Value)}(z:e.length<=ak)(j:(a==gb)=false)(g:KV e f)(k:h.DictOf (bZ P w) a f):
  bS P w K i h a (.dK e):=⟨z,j,f,g,k⟩
theorem EK{J:Hp}{Q:Unit->Shared->Prop}(Y:A.units+16<cLine)(I:Inv X J2 σ H s)(g:Ki H a y v J)(L:RelV y u)(M:RelV v r)(h:∀N,Inv X J2 σ J N->Q () N):
  wpAny (model X.prog X.w) A (setItem (.ref a) u r) Q E s:=by
 rcases g with⟨f,k,e,p,l,t⟩|⟨f,k,b,e,p,O,m,l,t⟩
 ·subst p t;obtain⟨z,x,vs,i,B⟩:=IQ I.hok e;have C:vs.length<=ak:=by rw[<-i.length];exact z
  have D:(cn f k v).length<=ak:=by have:=ju f k v;omega
  refine wpAny_setItem_pairs (hsz:=C) (nj L) B fun T j G=>h _ ?_;have he:∃q,T.get? a=some q:=let⟨q,_,_,n,_⟩:=j;⟨q,n⟩;exact mK I (by rw[e];exact iC) G he (B1 D x (i.put k M) j)
 ·subst p t;cases(show u=Value.ref b from L);obtain⟨z,x,xs,i,B⟩:=Dq I.hok I.kIn e;have C:xs.length<=ak:=by rw[<-Paired.length i];exact z
  have D:(cn f k v).length<=ak:=by have:=ju f k v;omega
  refine wpAny_setItem_heap (hsz:=C) (fV Y) (uz I.hok I.kIn (dJ.c 8 m O) m) B fun T j G=>h _ ?_;obtain⟨q,es,ep,n,h2,h3,h4,_,h5⟩:=j;refine mK I (by rw[e];exact iC) G ⟨q,n⟩ ⟨D,x,_,(i.put k (dJ.c 8 m O) m M).keeps fun c ys U=>?_,q,es,ep,n,h2,h3,h4,h5⟩;rw[ag (Di U e (fun z=>nomatch z))];exact U
theorem B_{b:Addr}{f:List (TK×V)}{k:TK}{Q:Unit->Shared->Prop}(x:A.units+16<cLine)(I:Inv X J2 σ H s)(e:H a=some (.dT f))(j:oe X.K H k (.ref b))(m:k.depth<=8)(l:f.length<ak)(B:RelV (.ref b) u)(C:RelV v r)(h:∀n,Inv X J2 σ (upd H a (.dT (cn f k v))) n->Q () n):
  wpAny (model X.prog X.w) A (setItem (.ref a) u r) Q E s:=by
 cases(show u=Value.ref b from B);obtain⟨z,D,G,g,J⟩:=Dq I.hok I.kIn e;have L:G.length<=ak:=by rw[<-Paired.length g];exact z
 have M:(cn f k v).length<=ak:=by have:=ju f k v;omega
 refine wpAny_setItem_heap (hsz:=L) (fV x) (uz I.hok I.kIn (j) m) J fun h' i N=>h _ ?_;obtain⟨q,O,T,p,U,Y,h4,_,h5⟩:=i;refine mK I (by rw[e];exact iC) N ⟨q,p⟩ ⟨M,D,_,(g.put k (j) m C).keeps fun c ys t=>?_,q,O,T,p,U,Y,h4,h5⟩;rw[ag (Di t e (fun z=>nomatch z))];exact t
end
section
variable{X:Cx}{J2:Zd}{σ:St}{H:Hp}{s:Shared}{a:Addr}{kvs:List (cz×V)}{k:cz}{u:Value}{A:Around}{E:Zc}
theorem J7{Q:Zc}(I:Inv X J2 σ H s)(e:Rd H a (.dK kvs))(h:∀t g,Inv X J2 σ H g->Q (.int kvs.length t) g):wpAny (model X.prog X.w) A (call (.builtin "len") [.ref a]) Q E s:=by
 obtain⟨z,i,l,f,j⟩:=nv I.hok e;refine call_len_dict i j (by rw[<-f.length];rw[ga]at z;omega) ?_;rw[<-f.length];exact h _ _ (I.tok _)
end
def ET(i:Expr):Prop:=∀ov iv,xx i false ov iv=operate [ov,iv] (nH ov iv)
theorem Hr{a:bV}{w:World}{A:Around}{E:Zc}{s:Shared}{k:Env}{value slice:Expr}{p:Pos}{T id:String}{Q:Zc}
  (t:typeLookup (.type T) "__getitem__"=pure (some (.builtin id))) (u:ET slice)
  (h:wpAny (model a w) A (eval value k) (fun o g=>wpAny (model a w) A (eval slice k) (fun i e=>e.TypeIs o T/\wpAny (model a w) A (nH o i) Q E e) E g) E s) :
  wpAny (model a w) A (eval (.Subscript value slice p) k) Q E s:=by
 refine Subscript_ (oO h (fun o g m=>oO m (fun i e f=>?_) fun _ _ x=>x) fun _ _ x=>x);obtain⟨q,f⟩:=f;unfold subscriptTail;refine aq ?_;rw[getitemInPython_of_ne q.not_modules];refine aq (Hh q t ?_);have l:wpAny (model a w) A (xx slice false o i) (fun r j=>wpAny (model a w) A (letTemporaryGo value o r >>= fun _=>pure r) Q E j) E e:=by
  rw[u o i];exact wpAny_operating (oO f (fun r j n=>aq (wpAny_letTemporaryGo (aV n))) fun _ _ x=>x)
 first
  |exact aV (aq l)
  |exact aq (aV (aq l))
  |exact aq l
theorem Au{X:Cx}{i:Zd}{σ:St}{H:Hp}{s:Shared}{a:Addr}{y:V}{o:Option V}(I:Inv X i σ H s)(g:kM X.K H a y o):s.TypeIs (.ref a) "dict":=by
 rcases g with⟨f,k,e,_,_⟩|⟨f,k,b,e,_,_,_⟩
 ·obtain⟨_,_,j,_,h⟩:=nv I.hok e;exact h.typeIs
 ·obtain⟨_,_,l,_,h⟩:=rK I.hok I.kIn e;exact h.typeIs
def gM(K:Za)(td ty:TE):TE:=fun σ H Q=>td σ H fun x H1=>ty σ H1 fun y H2=>∃a v,x=.ref a/\kM K H2 a y (some v)/\Q v H2
def Bk(K:Za)(ty td:TE):TE:=fun σ H Q=>ty σ H fun y H1=>td σ H1 fun x H2=>∃a o,x=.ref a/\kM K H2 a y o/\Q (.bl o.isSome) H2
def fG(K:Za)(ty td:TE):TE:=fun σ H Q=>ty σ H fun y H1=>td σ H1 fun x H2=>∃a o,x=.ref a/\kM K H2 a y o/\Q (.bl (!o.isSome)) H2
def jT(td ty tv:TE):TS:=fun D σ H=>tv σ H fun v H1=>td σ H1 fun x H2=>ty σ H2 fun y H3=>∃a H4,x=.ref a/\Ki H3 a y v H4/\D.nx σ H4
section
variable{X:Cx}{o i e value:Expr}{pos pos' J5:Pos}{td ty tv:TE}
theorem eM(m:X.A.units+16<cLine)(n:PE X o td)(p:PE X i ty)(q:ET i):PE X (.Subscript o i pos) (gM X.K td ty):=by
 intro k s σ H Q I h;refine Hr PySem.F.slot_dict_getitem.lookup q (cF (n k s σ H _ I h) fun u r ⟨x,t,w,z,B⟩=>cF (p k r σ t _ w B) fun J L f=>?_);obtain⟨y,C,l,D,a,v,ex,g,E⟩:=f;subst ex;obtain rfl:u=Value.ref a:=z;exact⟨Au l g,EL m l g D fun M N G j=>⟨v,C,G,j,E⟩⟩
theorem qG(k:X.A.units+16<cLine)(l:PE X i ty)(m:PE X o td):PC X .In i o (Bk X.K ty td):=by
 intro j s σ H Q I h;refine cF (l j s σ H _ I h) fun E n ⟨y,p,q,r,t⟩=>cF (m j n σ p _ q t) fun u G f=>?_;obtain⟨x,v,w,z,a,B,ex,g,C⟩:=f;subst ex;obtain rfl:u=Value.ref a:=z;exact d_in k w g r fun J D=>⟨.bl B.isSome,v,D,rfl,C⟩
theorem fb(k:X.A.units+16<cLine)(l:PE X i ty)(m:PE X o td):PC X .NotIn i o (fG X.K ty td):=by
 intro j s σ H Q I h;refine cF (l j s σ H _ I h) fun E n ⟨y,p,q,r,t⟩=>cF (m j n σ p _ q t) fun u G f=>?_;obtain⟨x,v,w,z,a,B,ex,g,C⟩:=f;subst ex;obtain rfl:u=Value.ref a:=z;exact Ig k w g r fun J D=>⟨.bl (!B.isSome),v,D,rfl,C⟩
theorem fK(k:X.A.units+16<cLine)(l:PE X o td)(m:PE X i ty)(n:PE X value tv)(p:rj value (some (.Subscript o i pos')) pos.line X.env=pure false):
  PS X (.Assign [.Subscript o i pos'] value pos) (jT td ty tv):=by
 intro f s σ H D I h;refine wpAny_Assign_Subscript (cF (n f s σ H _ I h) fun r q ⟨v,t,w,z,B⟩=>cF (l f q σ t _ w B) fun u C ⟨x,E,G,J,L⟩=>cF (m f C σ E _ G L) fun U Y j=>?_) p;obtain⟨y,H3,M,N,a,O,ex,g,Q⟩:=j;subst ex;obtain rfl:u=Value.ref a:=J;exact EK k M g N z fun s4 T=>⟨σ,O,T,Q⟩
end
theorem At{P:bV}{w:World}{K:Za}{H:Hp}(h:Heap)(a:gb<h.objs.size):bS P w K H (h.push { cls:=.type "dict",data:=.dict #[] }) h.objs.size (.dK []) :=
 ⟨c_ _,beq_eq_false_iff_ne.mpr (dF (dg a)),[],.nil,Heap.DictOf.new h⟩
theorem As{P:bV}{w:World}{K:Za}{H:Hp}(h:Heap)(a:gb<h.objs.size):bS P w K H (h.push { cls:=.type "dict",data:=.dict #[] }) h.objs.size (.dT []) :=
 ⟨c_ _,beq_eq_false_iff_ne.mpr (dF (dg a)),[],.nil,_,#[],0,dL _ rfl,⟨rfl,rfl,rfl⟩,rfl,rfl,nE⟩
def nS:TE:=fun _ H Q=>∀p,H p=none->Q (.ref p) (upd H p (.dK []))
def qw:TE:=fun _ H Q=>∀p,H p=none->Q (.ref p) (upd H p (.dT []))
section
variable{X:Cx}{pos:Pos}
theorem jV:PE X (.Dict [] [] pos) nS:=fun e s σ H Q I h =>
 wpAny_Dict_empty ⟨.ref s.heap.objs.size,_,I.laid (a:=s.heap.objs.size) (o:=.dK []) (t':=s.toks) (fun _ _ q=>cx _ q) (aG _) (At s.heap I.big),rfl,h _ (I.hok.fresh (aG _))⟩
theorem lS:PE X (.Dict [] [] pos) qw:=fun e s σ H Q I h =>
 wpAny_Dict_empty ⟨.ref s.heap.objs.size,_,I.laid (a:=s.heap.objs.size) (o:=.dT []) (t':=s.toks) (fun _ _ q=>cx _ q) (aG _) (As s.heap I.big),rfl,h _ (I.hok.fresh (aG _))⟩
end
def Bd:List (TE×TE)->St->Hp->(List (V×V)->Hp->Prop)->Prop
 |[],_,H,Q=>Q [] H
 | (tk,tv)::r,σ,H,Q=>tk σ H fun x H1=>tv σ H1 fun y H2=>Bd r σ H2 fun ps H3=>Q ((x,y)::ps) H3
abbrev VV:List (V×V)->List (Value×Value)->Prop:=Paired fun p q=>RelV p.1 q.1/\RelV p.2 q.2
def Kr(X:Cx)(pos:Pos)(keys:List (Option Expr))(values:List Expr)(trs:List (TE×TE)):Prop :=
 ∀(J2:Zd) (s:Shared) (σ:St) (H:Hp) (Q:List (V×V)->Hp->Prop),Inv X J2 σ H s->Bd trs σ H Q ->
  wpAny (model X.prog X.w) X.A (evalPairs (xu keys values X.env pos)) (fun vs s'=>∃ps H',Inv X J2 σ H' s'/\VV ps vs/\Q ps H') X.xe s
theorem HI{X:Cx}{a:Pos}:Kr X a [] [] []:=fun e s σ H Q I h=>pairTrees_nil_walk ⟨[],H,I,.nil,h⟩
theorem FY{X:Cx}{a:Pos}{k v:Expr}{i:List (Option Expr)}{j:List Expr}{tk l:TE}{e:List (TE×TE)}(m:PE X k tk)(n:PE X v l)(o:Kr X a i j e):
  Kr X a (some k::i) (v::j) ((tk,l)::e):=fun f s σ H Q I h =>
 pairTrees_cons_walk (cF (m f s σ H _ I h) fun u p ⟨x,q,r,t,w⟩=>cF (n f p σ q _ r w) fun M z ⟨y,A,B,C,D⟩ =>
  cF (o f z σ A _ B D) fun N O ⟨E,G,J,g,L⟩=>⟨(x,y)::E,G,J,.cons ⟨t,C⟩ g,L⟩)
def fC(kvs more:List (cz×V)):List (cz×V):=more.foldl (fun acc kv=>cn acc kv.1 kv.2) kvs
theorem KV.merge:∀{a:List (cz×V)}{i:List (cz×Value)}{f:List (cz×V)}{g:List (cz×Value)},KV a i->KV f g->KV (fC f a) (merged g i):=by
 intro a i f g r;unfold KV at r
 induction r generalizing f g with
 |nil=>intro q;exact q
 |@cons p q l qs h t j =>
  intro k;have e:KV (cn f p.1 p.2) (stored g q.1 q.2):=by
   have:=k.put p.1 h.2;rw[<-h.1];exact this
  exact j e
theorem jB:∀(e a:List (cz×V)),(fC a e).length<=a.length+e.length
 |[],a=>by show a.length<=a.length+0;omega
 |p::r,a=>by
  have f:=jB r (cn a p.1 p.2);have g:=ju a p.1 p.2;show(fC (cn a p.1 p.2) r).length<=_;rw[fo];omega
theorem uM{P:bV}{w:World}:∀{e:List (cz×V)}{g:List (Value×Value)},VV (e.map fun i=>(kV i.1,i.2)) g->∃f,Carries (bZ P w) g f/\KV e f
 |[],_,r=>by rw[xr]at r;cases r;exact⟨[],iC,.nil⟩
 |p::e,_,r=>by
  rw[bd]at r;cases r with
  |@cons a b k bs h t =>
   obtain⟨f,c,q⟩:=uM (P:=P) (w:=w) t;obtain⟨l,j⟩:=b;exact⟨(p.1,j)::f,⟨nj h.1,rfl,c⟩,.cons ⟨rfl,h.2⟩ q⟩
def IA(trs:List (TE×TE)):TE:=fun σ H Q=>∀p,H p=none->Bd trs σ (upd H p (.dK [])) fun ps H2=>H2 p=some (.dK [])/\∃kvs:List (cz×V),ps=kvs.map (fun kv=>(kV kv.1,kv.2))/\kvs.length<=15/\Q (.ref p) (upd H2 p (.dK (fC [] kvs)))
theorem HQ{X:Cx}{f:Pos}{keys:List (Option Expr)}{values:List Expr}{g:List (TE×TE)}(h:Kr X f keys values g)(i:keys.all (·.isSome)=true)(r:keys.length=values.length)(t:keys≠[])
  (l:keys.length<=15):PE X (.Dict keys values f) (IA g):=by
 intro u s σ H Q I q;have v:=I.hok.fresh (aG s.heap.objs.size);have x:=I.laid (a:=s.heap.objs.size) (o:=.dK []) (h':=s.heap.push { cls:=.type "dict",data:=.dict #[] }) (t':=s.toks) (fun _ _ q=>cx _ q) (aG _) (At s.heap I.big);refine wpAny_Dict_walk (knd:=bZ X.prog X.w) i r t l (cF (h u _ σ _ _ x (q _ v)) fun U Y m=>?_);obtain⟨ps,H2,p,n,e,j,y,lk,A⟩:=m;subst y;obtain⟨B,c,C⟩:=uM (P:=X.prog) (w:=X.w) n;obtain⟨z,D,E,G,J⟩:=IQ p.hok e;cases G;refine⟨B,c,J,fun h' k L=>⟨.ref s.heap.objs.size,_,?_,rfl,A⟩⟩;have M:(fC [] j).length<=ak:=by
  have N:=jB j [];rw[tz]at N;rw[ga];omega
 have O:∃q,h'.get? s.heap.objs.size=some q:=let⟨q,_,_,T,_⟩:=k;⟨q,T⟩;exact mK p (by rw[e];exact iC) L O (B1 M D (C.merge .nil) k)
structure M1(X:Cx)(o:Expr)(m:Str)(J4:Pos)(e:Expr)(J3:Pos):Prop where
 base:sJ o m X.env (eval o X.env)=eval o X.env
 few:((backTo J3 (aO [e] X.env)).all (fun x=>!x.1) && (oK J3 (oJ [] X.env)).all (fun x=>x.1.isSome)
  && decide (([e]:List Expr).length+([]:List qh).length+(if([]:List qh).isEmpty then 0 else 1)<30))=true
 line:(J4.endLine==J3.line)=true
 trees:backTo J3 (aO [e] X.env)=[(false,eval e X.env)]
structure M2(X:Cx)(o:Expr)(m:Str)(J4:Pos)(e f:Expr)(J3:Pos):Prop where
 base:sJ o m X.env (eval o X.env)=eval o X.env
 few:((backTo J3 (aO [e,f] X.env)).all (fun x=>!x.1) && (oK J3 (oJ [] X.env)).all (fun x=>x.1.isSome)
  && decide (([e,f]:List Expr).length+([]:List qh).length+(if([]:List qh).isEmpty then 0 else 1)<30))=true
 line:(J4.endLine==J3.line)=true
 trees:backTo J3 (aO [e,f] X.env)=[(false,eval e X.env),(false,eval f X.env)]
def Kx(H:Hp)(a:Addr):Prop:=(∃kvs,Rd H a (.dK kvs))∨∃kvs,Rd H a (.dT kvs)
theorem Gw{X:Cx}{l:Zd}{σ:St}{H:Hp}{s:Shared}{a:Addr}(I:Inv X l σ H s)(d:Kx H a):
  s.TypeIs (.ref a) "dict"/\(∀b,Value.ref a=.ref b->∃f,s.heap.get? b=some f/\f.dict=none)/\(a==gb)=false:=by
 rcases d with⟨h,e⟩|⟨h,e⟩
 ·obtain⟨_,i,m,_,g⟩:=nv I.hok e;refine⟨g.typeIs,fun b q=>?_,i⟩;cases q;obtain⟨f,_,_,j,k,_⟩:=g;exact⟨f,j,k.2.1⟩
 ·obtain⟨_,i,n,_,g⟩:=rK I.hok I.kIn e;refine⟨g.typeIs,fun b q=>?_,i⟩;cases q;obtain⟨f,_,_,j,k,_⟩:=g;exact⟨f,j,k.2.1⟩
section
variable{X:Cx}{J2:Zd}{σ:St}{H:Hp}{s:Shared}{a:Addr}{y d:V}{u r:Value}{o:Option V}{A:Around}{E:Zc}
theorem Jv{Q:Zc}(v:A.units+16<cLine)(I:Inv X J2 σ H s)(g:kM X.K H a y o)(p:RelV y u)(h:∀q t,Inv X J2 σ H t->RelV (o.getD .non) q->Q q t):
  wpAny (model X.prog X.w) A (call (.builtin "dict.get") [.ref a,u]) Q E s:=by
 rcases g with⟨j,k,e,m,l⟩|⟨j,k,b,e,m,x,B,l⟩
 ·subst m;obtain⟨z,n,D,f,i⟩:=nv I.hok e;refine tw qd i.typeIs xp (PySem.F.args_dict_get_2 _ _) (meets_dict_get (bZ X.prog X.w) a (nj p) n) ⟨_,i.mapOf,h _ _ (I.tok _) ?_⟩;rw[l];exact(f.val k).getD rfl
 ·subst m;cases(show u=Value.ref b from p);obtain⟨z,n,C,f,i⟩:=rK I.hok I.kIn e;refine tw qd i.typeIs xp (PySem.F.args_dict_get_2 _ _) (meetsH_dict_get (eA X.prog X.w) a b n) ⟨fV v,k,C,uA I x B,i,h _ _ (I.tok _) ?_⟩;rw[l];exact(f.val k).getD rfl
theorem Ju{Q:Zc}(v:A.units+16<cLine)(I:Inv X J2 σ H s)(g:kM X.K H a y o)(p:RelV y u)(rd:RelV d r)(h:∀q t,Inv X J2 σ H t->RelV (o.getD d) q->Q q t):
  wpAny (model X.prog X.w) A (call (.builtin "dict.get") [.ref a,u,r]) Q E s:=by
 rcases g with⟨j,k,e,m,l⟩|⟨j,k,b,e,m,x,B,l⟩
 ·subst m;obtain⟨z,n,D,f,i⟩:=nv I.hok e;refine tw qd i.typeIs xp (PySem.F.args_dict_get_3 _ _ _) (meets_dict_get_default (bZ X.prog X.w) a (nj p) n r) ⟨_,i.mapOf,h _ _ (I.tok _) ?_⟩;rw[l];exact(f.val k).getD rd
 ·subst m;cases(show u=Value.ref b from p);obtain⟨z,n,C,f,i⟩:=rK I.hok I.kIn e;refine tw qd i.typeIs xp (PySem.F.args_dict_get_3 _ _ _) (meetsH_dict_get_default (eA X.prog X.w) a b n r) ⟨fV v,k,C,uA I x B,i,h _ _ (I.tok _) ?_⟩;rw[l];exact(f.val k).getD rd
end
def xP(K:Za)(td ty:TE):TE:=fun σ H Q=>td σ H fun x H1=>∃a,x=.ref a/\Kx H1 a/\ty σ H1 fun y H2=>∃o,kM K H2 a y o/\Q (o.getD .non) H2
def tZ(K:Za)(td ty tx:TE):TE:=fun σ H Q=>td σ H fun x H1=>∃a,x=.ref a/\Kx H1 a/\ty σ H1 fun y H2=>tx σ H2 fun z H3=>∃o,kM K H3 a y o/\Q (o.getD z) H3
section
variable{X:Cx}{o e f:Expr}{J4 J3:Pos}{td ty tx:TE}
theorem zU(n:X.A.units+16<cLine)(p:PE X o td)(q:PE X e ty)(m:M1 X o "get" J4 e J3):PE X (.Call (.Attribute o "get" J4) [e] [] J3) (xP X.K td ty):=by
 intro k s σ H Q I h;refine wpAny_Call_method m.base m.few m.line PySem.F.plainAttrs_dict qd PySem.F.type_dict_get (cF (p k s σ H _ I h) fun u r i=>?_);obtain⟨x,t,l,v,a,ex,d,w⟩:=i;subst ex;obtain rfl:u=Value.ref a:=v;obtain⟨z,B,_⟩:=Gw l d;refine⟨z,B,?_⟩;rw[m.trees];refine tF rfl (Calls.evalArgs_plain (CD (cF (q k r σ t _ l w) fun L M ⟨y,C,D,E,N,g,G⟩=>Calls.spliced_nil ?_)));exact Jv n D g E fun O T J j=>⟨_,C,J,j,G⟩
theorem pq(n:X.A.units+16<cLine)(p:PE X o td)(q:PE X e ty)(r:PE X f tx)(m:M2 X o "get" J4 e f J3):PE X (.Call (.Attribute o "get" J4) [e,f] [] J3) (tZ X.K td ty tx):=by
 intro i s σ H Q I h;refine wpAny_Call_method m.base m.few m.line PySem.F.plainAttrs_dict qd PySem.F.type_dict_get (cF (p i s σ H _ I h) fun u t j=>?_);obtain⟨x,v,l,w,a,ex,d,B⟩:=j;subst ex;obtain rfl:u=Value.ref a:=w;obtain⟨C,D,_⟩:=Gw l d;refine⟨C,D,?_⟩;rw[m.trees];refine tF rfl (Calls.evalArgs_plain (CD (cF (q i t σ v _ l B) fun iv E ⟨y,G,J,L,M⟩ =>
  CD (cF (r i E σ G _ J M) fun fv s3 ⟨z,N,O,T,ov,g,U⟩=>Calls.spliced_nil ?_))))
 exact Ju n O g L T fun w' s4 Y k=>⟨_,N,Y,k,U⟩
end
end L2
namespace Att
open PySem PySem.W PySem.Calls PyProof.Rows
theorem ints_of_wellAll{P:Params}{h:Heap}:∀(e:List Int) (vs:Zf),WellAll P h vs (e.map WData.int)->tu vs e:=by
 intro e
 induction e with
 |nil =>
  intro vs w;rw[xr]at w;cases w;exact .nil
 |cons n e f =>
  intro vs w;rw[bd]at w;cases w with
  |cons a b =>
   cases a;exact .cons _ _ (f _ b)
theorem script_of{l:OpenLaw}{n:Nat}(u:l.most=some n){P:Params}{h:Heap}{args:List WData}{f:Zf}
  (g:l.row.toRowW.claim.pre args=true) (o:WellAll P h f args) :
  ∃a s e,f=[Value.ref a]/\args=[WData.list (e.map WData.int)]/\h.get? a=some { cls:=.type "list",data:=.seq s.toArray }/\tu s e/\e.length<=n:=by
 have p:WShape.hasAll [] args [.list .int]=true:=(pre_splitW g).1;have t:l.pre.holds [] { args:=args }=true:=(pre_splitW g).2;obtain⟨d,r,rfl,v,w⟩:=hasAllW_cons p;obtain rfl:=hasAllW_nil w;obtain⟨C,rfl,x⟩:=hasW_list v;obtain⟨e,rfl⟩:=items_int x;have i:e.length<=n:=by
  unfold OpenLaw.pre at t;have k:(WTm.not (.lt (.lit (.int (n:Int))) (.len (.arg 0)))).holds [] { args:=[.list (e.map .int)] }=true:=by
   have k:=(holds_andW t).1;rw[u]at k;exact k
  have m:=condW_of k (w_not (w_lt w_lit (w_len_list (w_arg rfl))));rw[aj]at m;refine Nat.le_of_not_lt fun q=>?_;have y:(n:Int)<((e.length:Nat):Int):=by omega
  first
   | (rw[zzr1 y]at m;exact absurd m (by decide))
   | (simp at m;omega)
 cases o with
 |cons z A =>
  cases A;cases z with
  |list B j=>exact⟨_,_,e,rfl,rfl,B,ints_of_wellAll e _ j,i⟩
theorem post_true(l:OpenLaw)(args:List WData):l.row.toRowW.claim.post args (.bool true) args=true :=
 postW_of (r:=l.row.toRowW) (X:=(true==true))
  (show WShape.has [] (.bool true) .bool=true by first|rfl|decide|simp[WShape.has,WShape.arms,WShape.armsAll])
  (show(WTm.eq .res (.lit (.bool true))).value [] { args:=args,res:=some (.bool true),after:=args }=some (.bool (true==true))from w_eq_bool (w_res rfl) w_lit) rfl
theorem attach_call{l:OpenLaw}{n:Nat}{q:bV}{loose:Zb}{C:(Str->Option Value)->Heap->Prop}{D:World->Heap->Prop}{d:DefRec}
  (J:l.most=some n) (v:d.params.defaults=[])
  (call:∀(w:World) (g e:Shared) (p x:Str->Option Value) (i:Addr) (o:Obj) (y s doc:Value) (a:Addr) (h:Zf) (t:List Int),
   Ground q loose [] C w g p x e.heap->D w e.heap ->
   e.heap.get? i=some o->o.data=.func (docDef d.name d.params d.body d.scope y s doc)->e.heap.CodeRec s d.name->p d.name=some (.ref i) ->
   e.heap.get? a=some { cls:=.type "list",data:=.seq h.toArray }->tu h t->t.length<=n->e.gens=#[] ->
   zzl76 (model l.prog w) lF (.call (.ref i) ⟨[.ref a],[]⟩) (fun r u=>r=.ok (.ret (.bool true))/\OldK e.heap u.heap/\u.os=e.os/\oN u.gens) e) :
  WalkO q loose C D l.row.toRowW d [] (fun f h=>PySem.call f h):=by
 intro w g e p x G Y i o y s doc L kV M N z E A O args H as j I Q B T;obtain rfl:L=.none:=Dflts.none E v;obtain rfl:kV=.none:=Dflts.noKw E;obtain⟨a,h,t,rfl,rfl,k,hints,m⟩:=script_of J j B;refine enter_call (CC (call w g e p x i o y s doc a h t G Y M (fd_plain N) z A k hints m O) fun r u U=>?_);obtain⟨rfl,h2,h3,h4⟩:=U;exact⟨.inl ⟨.bool true,.bool true,[],rfl,fun _=>rfl,.bool true,post_true l _,fun _=>⟨List.Pairwise.nil,fun _ hm=>(nomatch hm)⟩⟩,h2,h3,h4⟩
end Att
namespace L2
open PySem PySem.Spec PyProof.Rows
theorem vT:∀{a:Zf}{e:List Int},tu a e->bg (e.map V.int) a
 |_,_,.nil=>.nil
 |_,_,.cons n t h=>.cons ⟨t,rfl⟩ (vT h)
def Iq(H:Hp):Prop:=∀b,H b=none∨∃o xs,H b=some (.frz o (.lst xs))
theorem Gq{P:bV}{w:World}{K:Za}{A Q:Str->Option Value}{CX:Fg}{k:Nat}{T a:Addr}{fd:lg}{x:Str}{sp:Sp}{f:Shared}{t:Zf}{B:List Int}
  (KX:K.In f.heap) (C:f.heap.Ns cy A) (i:f.heap.Ns builtinsNs Q) (U:∀x:Str,x≠"__name__"->Q x=lp x) (D:f.heap.NoLimit) (hg:f.gens=#[])
  (O:f.heap.get? a=some { cls:=.type "list",data:=.seq t.toArray }) (hi:tu t B) (hl:B.length<=ak) (hr:fh k lF)
  (F:∀base:Heap,K.In base->base.Ns cy A->mW P w K A base CX k T fd [x] sp) (y:∀(s:Shared) (u:Value),sI s fd ⟨[u],[]⟩ [(x,u)])
  (Y:∀H:Hp,Iq H->ay K H a (B.map V.int)->sp [.ref a] H (fun v _=>v=.bl true) fun _ _ _=>False)
  (al:∀H e j,CX [] H f (fun _ _ _=>False) e j->False) :
  zzl76 (model P w) lF (.call (.ref T) ⟨[.ref a],[]⟩) (fun r j=>r=.ok (.ret (.bool true))/\OldK f.heap j.heap/\j.os=f.os/\oN j.gens) f:=by
 have rv:=vT hi;have E:=hi.length;have p:∀H:Hp,Iq H->ay K H a (B.map V.int)->mh P w K H f.heap->(∀b,H b≠none->b=a)->(H a≠none->K.lookup a=none) ->
   zzl76 (model P w) lF (.call (.ref T) ⟨[.ref a],[]⟩) (fun r j=>r=.ok (.ret (.bool true))/\OldK f.heap j.heap/\j.os=f.os/\oN j.gens) f:=by
  intro H hO hS G hA hK;have g:∀{b:Addr}{o:Obj},f.heap.get? b=some o->H b=none->(yq f.heap H).get? b=some o:=fun e n=>Gy e n;have an:∀{b:Addr}{o:Obj}{es:Array iq}{I:Nat},f.heap.get? b=some o->o.data=.dict es I->H b=none:=fun{b o es I} e d=>by
   cases q:H b with
   |none=>rfl
   |some u =>
    have e':b=a:=hA b (by rw[q];simp);subst e';rw[O]at e;cases e;have d':Data.seq t.toArray _=Data.dict es I:=d;cases d'
  have l:∀{b:Addr}{m:Str->Option Value},f.heap.Ns b m->(yq f.heap H).Ns b m:=fun{b m} ⟨o,es,I,e,d,r⟩=>⟨o,es,I,g e (an e d),d,r⟩;have J:K.In (yq f.heap H):=fun b o e=>g (KX b o e) (by
   cases q:H b with
   |none=>rfl
   |some u =>
    have e':b=a:=hA b (by rw[q];simp);subst e';rw[hK (by rw[q];simp)]at e;cases e)
  have hM:Mod K A (yq f.heap H):=⟨J,l C,⟨Q,l i,U⟩,let⟨mc,h1,h2⟩:=D;⟨mc,l h1,h2⟩⟩;have e0:Cy P w K A (yq f.heap H) lF [] f H:=⟨rfl,hM,fun b o e=>HV e,Nat.le_of_eq (EE _ _),trivial,fun b i=>absurd (show b∈([]:Ze)from i) (by simp),G,.of_eq hg⟩;refine CC ((F _ J (l C)).run lF [] f H ⟨[.ref a],[]⟩ [.ref a] [.ref a] _ _ hr e0 (y f (.ref a)) (.cons rfl .nil) (Y H hO hS)) fun r j h=>?_;cases r with
  |error e=>exact(al H e j h).elim
  |ok fl =>
   cases fl with
   |next=>exact jO h
   |brk=>exact jO h
   |cont=>exact jO h
   |ret u =>
    obtain⟨v,H',os,L,un,M,r',q⟩:=h;have q':v=.bl true:=q;subst q';obtain rfl:u=Value.bool true:=r';refine⟨rfl,OldK.of_keep fun b o e=>?_,os,L⟩;cases q:H b with
    |none=>exact un.keep b o e q (by intro z;exact absurd (show b∈([]:Ze)from z) (by simp)) (by simp)
    |some u =>
     rcases hO b with z|⟨ob,xs,z⟩
     ·rw[q]at z;cases z
     ·have z2:=un.frzs b ob _ z;obtain⟨e1,_⟩:=G b _ z;obtain⟨e2,_⟩:=M b _ z2;rw[e]at e1;cases e1;exact e2
 cases hk:K.lookup a with
 |some o =>
  have e:=KX a o hk;rw[O]at e;cases e;refine p (fun _=>none) (fun _=>.inl rfl) (.inr ⟨_,t.toArray,_,hk,rfl,rfl,rfl,by rw[bQ,E];exact hl,by simpa using rv⟩) (fun b u z=>by have N:(none:Option HO)=some u:=z;cases N) (fun b z=>absurd rfl z) fun z=>absurd rfl z
 |none =>
  refine p (fun b=>if b=a then some (.frz { cls:=.type "list",data:=.seq t.toArray } (.lst (B.map V.int)))else none) (fun b=>?_) (.inl (.inr ⟨{ cls:=.type "list",data:=.seq t.toArray },if_pos rfl⟩)) (fun b u z=>?_) (fun b z=>?_) fun _=>hk
  ·by_cases i:b=a
   ·exact .inr ⟨_,_,if_pos i⟩
   ·exact .inl (if_neg i)
  ·by_cases i:b=a
   ·have N:=(if_pos i).symm.trans z;cases N;subst i;exact⟨O,by rw[aj];exact hl,t,_,rv,O⟩
   ·have N:=(if_neg i).symm.trans z;cases N
  ·by_cases i:b=a
   ·exact i
   ·exact absurd (if_neg i) z
end L2
namespace L2
open PySem PySem.Spec PyProof.Rows
theorem Hj{l:PySem.W.OpenLaw}{n k:Nat}{q:bV}{loose:Zb}{N:(Str->Option Value)->Heap->Prop}{I:World->Heap->Prop}{d:DefRec}{K:Params->Za}{CX:World->Fg}{sp:World->Sp}{x:Str}
  (O:l.most=some n) (y:n<=ak) (z:d.params.defaults=[]) (Q:fh k lF)
  (U:∀(w:World) (h:Heap),I w h->(K w.params).In h)
  (F:∀(w:World) (j:Str->Option Value) (r:Addr) (h:Heap),(K w.params).In h->h.Ns cy j->j d.name=some (.ref r) ->
   ∃A:lg,(∀(s:Shared) (u:Value),sI s A ⟨[u],[]⟩ [(x,u)]) /\
    ∀base:Heap,(K w.params).In base->base.Ns cy j->mW l.prog w (K w.params) j base (CX w) k r A [x] (sp w))
  (B:∀(w:World) (H:Hp) (a:Addr) (t:List Int),t.length<=n->Iq H->ay (K w.params) H a (t.map V.int)->sp w [.ref a] H (fun v _=>v=.bl true) fun _ _ _=>False)
  (C:∀(w:World) (H:Hp) (s:Shared) (e:Value) (D:Shared),CX w [] H s (fun _ _ _=>False) e D->False) :
  PySem.W.WalkO q loose N I l.row.toRowW d [] (fun f J=>PySem.call f J):=by
 refine Att.attach_call O z fun w L m j mb r o pm cd doc a J t G Y ho hd al E p hints i hg=>?_;have M:=U w _ Y;obtain⟨A,hb,hF⟩:=F w j r _ M G.T.g E;exact Gq M G.T.g G.T.b G.T.builtins G.T.nolimit hg p hints (bB i y) Q hF hb (fun H hO hS=>B w H a t i hO hS) fun H e D=>C w H m e D
theorem walk_ofK{l:PySem.W.OpenLaw}{n k:Nat}{q:bV}{loose:Zb}{A:(Str->Option Value)->Heap->Prop}{t:World->Heap->Prop}{d:DefRec}{K:Params->Za}{CX:Fg}{sp:Za->Sp}{x:Str}
  (B:l.most=some n) (j:n<=ak) (m:d.params.defaults=[]) (C:fh k lF)
  (D:∀(w:World) (h:Heap),t w h->(K w.params).In h)
  (F:∀(w:World) (g:Str->Option Value) (y:Addr) (h:Heap),(K w.params).In h->h.Ns cy g->g d.name=some (.ref y) ->
   ∃z:lg,(∀(s:Shared) (u:Value),sI s z ⟨[u],[]⟩ [(x,u)]) /\
    ∀base:Heap,(K w.params).In base->base.Ns cy g->mW l.prog w (K w.params) g base CX k y z [x] (sp (K w.params)))
  (o:∀(K:Za) (H:Hp) (a:Addr) (i:List Int),i.length<=n->Iq H->ay K H a (i.map V.int)->sp K [.ref a] H (fun v _=>v=.bl true) fun _ _ _=>False)
  (p:∀(H:Hp) (s:Shared) (e:Value) (r:Shared),CX [] H s (fun _ _ _=>False) e r->False) :
  PySem.W.WalkO q loose A t l.row.toRowW d [] (fun f E=>PySem.call f E) :=
 Hj (K:=K) (CX:=fun _=>CX) (sp:=fun w=>sp (K w.params)) B j m C D F (fun w H a i G I J=>o (K w.params) H a i G I J) fun _ H s e r=>p H s e r
end L2
namespace L2
open PySem PySem.Spec PyProof.Rows
def gz(s:Stmt)(j:Nat):Stmt:=match s with
 |.ClassDef _ _ _ body _ _ _ _ _ _ _=>body.getD j (.Pass ⟨0,0,0,0⟩)
 |_=>.Pass ⟨0,0,0,0⟩
def iN(s:Stmt):Arguments:=match s with
 |.FunctionDef _ a _ _ _ _ _ _ _ _=>a
 |_=>{ posonlyargs:=[],args:=[],vararg:=none,kwonlyargs:=[],kw_defaults:=[],kwarg:=none,defaults:=[] }
def gB(s:Stmt):List Stmt:=match s with
 |.FunctionDef _ _ b _ _ _ _ _ _ _=>b
 |_=>[]
def ck(s:Stmt):Scope:=match s with
 |.FunctionDef _ _ _ _ _ _ sc _ _ _=>sc
 |_=>{ kind:=.function,names:=[],isGenerator:=false,isCoroutine:=false }
abbrev CX0:Fg:=fun _ _ _ _ _ _=>False
abbrev E0:XK:=fun _ _ _=>False
abbrev aS(sp:Sp)(a:TA):TE:=IB sp [] E0 a
theorem Db{X:Cx}:oh CX0 X E0:=fun _ _ _ _ _ _ _ h=>h.elim
structure JI(K:Za)(x qual:Str)(st:Stmt)(f:Addr)(fd:lg):Prop where
 ex:∃(oc:Value) (od:Option Addr) (kV doc pm:Value) (an:Option Addr) (cdv ct:Value) (osl:Array (Option Value)),
  fd=i0 x qual (iN st) (gB st) (ck st) .none kV doc pm an cdv ct/\K.lookup f=some ⟨oc,od,.func fd,osl⟩/\nI K cdv qual=true
 kp:iV K (.ref f)=true
section
variable{P:bV}{w:World}{K:Za}{mg:Str->Option Value}{base:Heap}
theorem JI.ok{x a:Str}{st:Stmt}{f:Addr}{o:lg}{N j:Zb}{k:Nat}{l:Sp}(F:JI K x a st f o)(S:kL N j (ck st))(len:∀g H Q E,l g H Q E->g.length=j.length)
  (i:∀(e:Value) (A:Around) (outer:List Env) (s:Shared) (H:Hp) (g:List V) (Q:VK) (E:XK),fh k (A.deeper (envOfC a (ck st) s.heap.objs.size f e))->l g H Q E ->
   ∃t,AR (Ca CX0 P w K mg base N a (ck st) f e A outer s H E).nox (gB st) t/\t (bJ Q) (start N g) H):mW P w K mg base CX0 (k+1) f o j l:=by
 obtain⟨u,v,kV,doc,y,z,e,B,p,rfl,lk,m⟩:=F.ex;refine JX lk m S len fun A outer s H g Q E r n=>?_;obtain⟨t,h,q⟩:=i e A outer s H g Q E r n;exact⟨t,h.nox,q⟩
theorem JI.binds{x a:Str}{st:Stmt}{f:Addr}{m:lg}{g:Zb}(F:JI K x a st f m)
  (h:∀(kV doc i:Value) (j:Option Addr) (e k:Value) (l:Zf),l.length=g.length->bindArgs (i0 x a (iN st) (gB st) (ck st) .none kV doc i j e k) ⟨l,[]⟩=pure (g.zip l)):Binds K m g []:=by
 obtain⟨p,q,kV,doc,i,j,e,k,n,rfl,lk,o⟩:=F.ex;exact .all (h kV doc i j e k)
theorem GD{x a:Str}{st:Stmt}{f:Addr}{m:Value}{n h:Option Addr}{g:Array (Option Value)}{kV doc i e j:Value}(l:K.lookup f=some ⟨m,n,.func (i0 x a (iN st) (gB st) (ck st) .none kV doc i h e j),g⟩)
  (c:nI K e a=true) (k:iV K (.ref f)=true):JI K x a st f (i0 x a (iN st) (gB st) (ck st) .none kV doc i h e j):=⟨⟨m,n,kV,doc,i,h,e,j,g,rfl,l,c⟩,k⟩
end
theorem Dn{A:Around}{k:Nat}(a:fh k A):A.units+16<cLine:=xo (Nat.add_le_add_left (by decide:16<=64) _) a.units
theorem ar{n:Nat}(h:n<=1000):n<ak:=xo h (by decide)
section
variable{X:Cx}
theorem pv(i:Nat){x:Str}{a:Pos}(f:X.N[i]?=some x:=by rfl)(g:Ko X.env.scope x:=by first|exact Or.inl rfl|exact Or.inr (Or.inl rfl)|exact Or.inr (Or.inr rfl))(h:(x==("__debug__":Str))=false:=by decide)
  (e:(x==("__classdict__":Str))=false:=by decide):PE X (.Name x a) (nP i):=Jj f g h e
end
theorem bH{A B:Prop}(h:B):if false=true then A else B:=by
 rw[if_neg h7];exact h
theorem cT{A B:Prop}(h:A):if true=true then A else B:=by
 rw[if_pos rfl];exact h
theorem iy{c A B:Prop}[Decidable c](a:c->A)(e:¬c->B):if c then A else B:=by
 by_cases h:c
 ·rw[if_pos h];exact a h
 ·rw[if_neg h];exact e h
def ac(H H':Hp):Prop:=∀b o,H b=some o->H' b=some o
theorem ac.refl(H:Hp):ac H H:=fun _ _ h=>h
theorem ac.trans{H e f:Hp}(a:ac H e)(b:ac e f):ac H f:=fun c o h=>b c o (a c o h)
theorem ac.free{H a:Hp}(e:ac H a){l:Addr}(h:a l=Option.none):H l=Option.none:=by
 cases q:H l with
 |none=>rfl
 |some o =>
  rw[e l o q]at h;cases h
theorem ac.seq{K:Za}{H f:Hp}{a:Addr}{g:List V}(e:ac H f)(h:ay K H a g):ay K f a g:=by
 rcases h with(h|⟨o,h⟩)|h
 ·exact .inl (.inl (e _ _ h))
 ·exact .inl (.inr ⟨o,e _ _ h⟩)
 ·exact .inr h
section
variable{prog:bV}{w:World}{A:Around}{R:Result->Shared->Prop}{s:Shared}
abbrev XF:Value->Shared->Prop:=fun _ _=>False
abbrev BS(ifs:List Expr)(env:Env):Sem Bool:=forIn ifs true fun c r=>if r=true then do let ok <- isTrue c env (eval c env);pure (xn ok)else pure (xn r)
theorem yv{t target j:Expr}{u:List Expr}{scope:Scope}{B:Pos}{it y:Value}{a:Env}(I:Nat->Shared->Prop)
  (turn:∀n s,I n s->wpAny (model prog w) A (pyNext it) (fun r e=>match r with
   |none=>R (.ok .next) e
   |some v=>wpAny (model prog w) A (CM target it v) (fun _ f=>wpAny (model prog w) A (assign target a v) (fun _ k =>
     wpAny (model prog w) A (BS u a) (fun ok g =>
      if ok=true then wpAny (model prog w) A (eval t a) (fun x l =>
       wpAny (model prog w) A (call (.builtin "list.append") [y,x]) (fun _ o=>∃m,m<n/\I m o) XF l) XF g
      else ∃m,m<n/\I m g) XF k) XF f) XF e) XF s)
  (n:Nat) (h:I n s):zzl76 (model prog w) A (.compLoop (.ListComp t [⟨target,j,u,0⟩] scope B) 0 it y a) R s:=by
 refine codeAny_loop rfl I (fun n s G=>?_) n h;show wpAny _ A ((compTurn (.ListComp t [⟨target,j,u,0⟩] scope B) 0 it y a).onRaise (fun x=>do noteFrame x a;theTreesLotGoes x)) _ _ s
 refine wpAny_noted ?_;rw[compTurn_list];refine aq (CN (aq (oO (turn n s G) (fun r e p=>?_) fun _ _ i=>i.elim)));cases r with
 |none=>exact aV p
 |some v =>
  refine aq (oO p (fun _ f z=>?_) fun _ _ i=>i.elim);refine aq (oO z (fun _ k C=>aq (oO C (fun ok g q=>?_) fun _ _ i=>i.elim)) fun _ _ i=>i.elim);cases ok with
  |false=>exact aV ⟨rfl,q⟩
  |true =>
   exact aq (aq (oO q (fun x l D=>aq (oO D (fun _ o E=>aV (aV ⟨rfl,E⟩)) fun _ _ i=>i.elim)) fun _ _ i=>i.elim))
end
theorem n_{env:Env}:∀(names:List (Str×jM)) (a:List (Str×Addr)),(∀y∈names,y.2=.free->∃c,env.cells.lookup y.1=some c)->(∀x c,a.lookup x=some c->env.cells.lookup x=some c) ->
  ∃f:List (Str×Addr),(forIn names a fun(x:Str×jM) (r:List (Str×Addr))=>if(x.2==lE)=true then(cellOf env x.1 >>= fun c=>(pure (xn ((x.1,c)::r)):Sem (ForInStep (List (Str×Addr)))))else pure (xn r))=pure f /\
   (∀x c,f.lookup x=some c->env.cells.lookup x=some c)/\(∀x,(a.lookup x).isSome=true->(f.lookup x).isSome=true)/\∀y∈names,y.2=.free->(f.lookup y.1).isSome=true
 |[],a,_,o=>⟨a,rfl,o,fun _ h=>h,fun _ h=>nomatch h⟩
 | (n,k)::r,a,has,o=>by
  have v:∀y∈r,y.2=.free->∃c,env.cells.lookup y.1=some c:=fun y hy=>has y (d_ _ hy);by_cases s:k=.free
  ·subst s;obtain⟨c,w⟩:=has (n,.free) cD rfl;obtain⟨f,e,t,p,u⟩:=n_ r ((n,c)::a) v (fun x d m=>by
    rw[iZ]at m;cases g:x==n with
    |true =>
     rw[g]at m;have:x=n:=by simpa using g
     subst this;cases m;exact w
    |false=>rw[g]at m;exact o x d m)
   have i:(((n,c)::a).lookup n).isSome=true:=by rw[iZ,beq_self_eq_true];rfl
   have j:∀x,(a.lookup x).isSome=true->(((n,c)::a).lookup x).isSome=true:=fun x g=>by
    rw[iZ];cases x==n with
    |true=>rfl
    |false=>exact g
   refine⟨f,?_,t,fun x g=>p x (j x g),fun y hy q=>?_⟩
   ·rw[xm];have l:cellOf env n=pure c:=by unfold cellOf;rw[w]
    simp only[beq_self_eq_true,if_true,l];exact e
   ·rcases df.mp hy with rfl|hy
    ·exact p _ i
    ·exact u y hy q
  ·obtain⟨f,e,t,p,u⟩:=n_ r a v o;refine⟨f,?_,t,p,fun y hy q=>?_⟩
   ·rw[xm];have z:(k==lE)=false:=by simpa using s
    simp only[z,lB,if_false];exact e
   ·rcases df.mp hy with rfl|hy
    ·exact absurd q s
    ·exact u y hy q
theorem uK{env:Env}{scope:Scope}(has:∀y∈scope.names,y.2=.free->∃c,env.cells.lookup y.1=some c):
  ∃a:List (Str×Addr),closureFor scope env=pure a/\(∀x c,a.lookup x=some c->env.cells.lookup x=some c)/\∀y∈scope.names,y.2=.free->(a.lookup y.1).isSome=true:=by
 obtain⟨a,e,f,_,g⟩:=n_ (env:=env) scope.names [] has (fun _ _ h=>nomatch h);refine⟨a,?_,f,g⟩;unfold closureFor
 first
  |exact e
  | (simp only[bind_pure];exact e)
  | (rw[show(forIn scope.names [] _:Sem (List (Str×Addr)))=pure a from e];rfl)
def dY(X:Cx)(N:Zb)(scope:Scope)(C:Addr)(cl:List (Str×Addr))(s₀:Shared)(H₀:Hp)(ex:Ze)(pn:Zd):Cx where
 prog:=X.prog
 w:=X.w
 K:=X.K
 mg:=X.mg
 base:=X.base
 A:=X.A
 N:=N
 s₀:=s₀
 H₀:=H₀
 env:=compEnvC scope cl C X.env
 outer:=X.stack
 stack:=X.stack
 ex:=ex
 fn:=fun _=>false
 calm:=X.calm
 pn:=pn
 xe:=XF
def mL(sc scope:Scope)(k:Nat)(N XN:Zb)(fi:List Nat):Bool :=
 decide (scope.kind=.function) &&
 (scope.names.all fun y=>decide (y.2≠.cell) && (decide (y.2≠.local) || decide (scope.names.lookup y.1=some .local)) && (decide (y.2≠.free) || decide (sc.names.lookup y.1=some .cell) || decide (sc.names.lookup y.1=some .free))) &&
 decide (N.length=k+fi.length) &&
 ((jm fi.length).all fun j=>match fi[j]? with
  |some i=>match N[k+j]?,XN[i]? with
   |some x,some y=>decide (x=y) && decide (scope.names.lookup x=some .free)
   |_,_=>false
  |none=>false)
structure oA(sc scope:Scope)(k:Nat)(N XN:Zb)(fi:List Nat):Prop where
 kind:scope.kind=.function
 cell:∀y∈scope.names,y.2≠.cell
 nm:∀y∈scope.names,y.2=.local->scope.names.lookup y.1=some .local
 fr:∀y∈scope.names,y.2=.free->sc.names.lookup y.1=some .cell∨sc.names.lookup y.1=some .free
 len:N.length=k+fi.length
 sl:∀j i,fi[j]?=some i->∃x,N[k+j]?=some x/\XN[i]?=some x/\scope.names.lookup x=some .free
theorem oA.of{sc scope:Scope}{k:Nat}{N g:Zb}{l:List Nat}(h:mL sc scope k N g l=true):oA sc scope k N g l:=by
 unfold mL at h;simp only[lD,List.all_eq_true,Bool.or_eq_true,decide_eq_true_eq]at h;obtain⟨⟨⟨n,m⟩,o⟩,p⟩:=h;refine⟨n,fun y f=>(m y f).1.1,fun y f e=>((m y f).1.2).resolve_left fun z=>z e,fun y f e=>?_,o,fun j i e=>?_⟩
 ·rcases(m y f).2 with(z|z)|z
  ·exact absurd e z
  ·exact .inl z
  ·exact .inr z
 ·have r:j<l.length:=(bY.mp e).1;have q:=p j (List.mem_range.mpr r);rw[e]at q;dsimp only at q;cases a:N[k+j]? with
  |none=>rw[a]at q;cases q
  |some x =>
   cases b:g[i]? with
   |none=>rw[a,b]at q;cases q
   |some y =>
    rw[a,b]at q;simp only[lD,decide_eq_true_eq]at q;exact⟨x,rfl,by rw[q.1],q.2⟩
theorem iE{a:Env}:∀{names:List (Str×jM)}{x:Str},names.lookup x=some .free ->
  (names.map fun(n,k)=>if(k==lE && a.scope.kind==.function && a.kindOf n==some .cell)then(n,jM.cell)else(n,k)).lookup x=some .cell ∨
  (names.map fun(n,k)=>if(k==lE && a.scope.kind==.function && a.kindOf n==some .cell)then(n,jM.cell)else(n,k)).lookup x=some .free
 |[],_,h=>by simp at h
 | (n,k)::r,x,h=>by
  have g:=@iE a r x;simp only[bd];cases e:x==n with
  |true =>
   simp only[iZ,e]at h;cases h;by_cases f:(lE==lE && a.scope.kind==.function && a.kindOf n==some .cell)=true
   ·left;rw[if_pos f];simp[iZ,e]
   ·right;rw[if_neg f];simp[iZ,e]
  |false =>
   simp only[iZ,e]at h;by_cases f:(k==lE && a.scope.kind==.function && a.kindOf n==some .cell)=true
   ·rw[if_pos f];simp only[iZ,e];exact g h
   ·rw[if_neg f];simp only[iZ,e];exact g h
def dX(k:Nat)(fi:List Nat)(σ:St):St:=List.replicate k none++fi.map fun i=>(σ[i]?).join
theorem Cd(k:Nat)(a:List Nat)(σ:St):(dX k a σ).length=k+a.length:=by simp[dX]
theorem uJ{k:Nat}{f:List Nat}{σ:St}{i:Nat}{v:V}(h:(dX k f σ)[i]?=some (some v)):∃j t,i=k+j/\f[j]?=some t/\σ[t]?=some (some v):=by
 unfold dX at h;by_cases g:i<k
 ·rw[dv (by simpa using g),List.getElem?_replicate_of_lt g]at h;cases h
 ·rw[iu (by simp;omega),List.length_replicate,cb]at h;refine⟨i-k,?_⟩;cases e:f[i-k]? with
  |none=>rw[e]at h;cases h
  |some t =>
   rw[e]at h;simp only[tE]at h;refine⟨t,by omega,rfl,?_⟩;have a:=fu h;cases l:σ[t]? with
   |none=>rw[l]at a;cases a
   |some o=>rw[l]at a;simp only[Option.join]at a;first|(rw[a])|(subst a;rfl)|(simpa using a)
def AG(k:Nat)(g:TG):Prop:=∀x σ H Q,g x σ H Q->g x σ H fun σ2 H2=>Q σ2 H2/\σ2.length=σ.length/\∀i,k<=i->σ2[i]?=σ[i]?
def DB(k:Nat)(g:Ff):Prop:=∀x σ H Q,g x σ H Q->g x σ H fun σ2 H2=>Q σ2 H2/\σ2.length=σ.length/\∀i,k<=i->σ2[i]?=σ[i]?
theorem bw{k i:Nat}(h:i<k):AG k (eO i):=fun x σ H Q q=>⟨q,by simp,fun j a=>by rw[List.getElem?_set_ne (by omega)]⟩
theorem zX{k:Nat}:DB k iM:=fun x σ H Q ⟨e,q⟩=>⟨e,q,rfl,fun _ _=>rfl⟩
def G0(g:TG):Prop:=∀x σ H Q Q',(∀σ2 H2,Q σ2 H2->Q' σ2 H2)->g x σ H Q->g x σ H Q'
def yP(g:Ff):Prop:=∀x σ H Q Q',(∀σ2 H2,Q σ2 H2->Q' σ2 H2)->g x σ H Q->g x σ H Q'
theorem ff{i:Nat}:G0 (eO i):=fun _ _ _ _ _ f q=>f _ _ q
theorem jZ:yP iM:=fun _ _ _ _ _ f ⟨e,q⟩=>⟨e,f _ _ q⟩
theorem kF{g:TG}{u:Ff}(a:G0 g)(h:yP u):yP (bj g u):=fun _ _ _ _ _ f ⟨v,r,e,q⟩=>⟨v,r,e,a _ _ _ _ _ (fun _ _ q=>h _ _ _ _ _ f q) q⟩
theorem jW{k:Nat}{g:TG}{u:Ff}(f:AG k g)(h:G0 g)(j:DB k u)(m:yP u):DB k (bj g u):=fun x σ H Q ⟨v,r,e,q⟩ =>
 ⟨v,r,e,h _ _ _ _ _ (fun σ2 t ⟨q,l,s⟩=>m _ _ _ _ _ (fun σ3 w ⟨n,o,p⟩=>⟨n,o.trans l,fun i a=>(p i a).trans (s i a)⟩) (j _ _ _ _ q)) (f _ _ _ _ q)⟩
theorem Dd{K:Za}{k n:Nat}{t:Ff}(h:DB k t):AG k (jg K n t):=fun x σ H Q ⟨a,f,e,g,i,q⟩=>⟨a,f,e,g,i,h _ _ _ _ q⟩
def IY(X:Cx)(ifs:List Expr)(t:TT):Prop :=
 ∀(J2:Zd) (s:Shared) (σ:St) (H:Hp) (Q:Bool->Hp->Prop),Inv X J2 σ H s->t σ H Q->wpAny (model X.prog X.w) X.A (BS ifs X.env) (TP X J2 σ Q) X.xe s
def k7:TT:=fun _ H Q=>Q true H
theorem dj{X:Cx}:IY X [] k7:=fun a s σ H Q I h=>aV ⟨H,I,h⟩
theorem iJ{X:Cx}{c:Expr}{t:TT}(h:PT X c t):IY X [c] t:=by
 intro a s σ H Q I e;unfold BS;rw[xm];simp only[if_true];refine aq (aq (cF (h a s σ H Q I e) fun b f q=>aV ?_));exact aV q
def dH(k:Nat)(fi:List Nat)(wi:TI)(g:TG)(tc:TT)(te:TE):TE:=fun σ H Q=>wi σ H fun J H1=>∀l,H1 l=none->∃W:Nat->Nat->List V->Hp->Prop,(∃m,W 0 m [] (upd H1 l (.lst [])))/\∀i m vs H2,W i m vs H2->H2 l=some (.lst vs) /\
 ((J.stop i H2/\Q (.ref l) H2)∨(J.go i H2/\∀x H3,J.yld i H2 x H3->g x (dX k fi σ) H3 fun σ2 H4=>tc σ2 H4 fun b H5 =>
  if b=true then te σ2 H5 fun v H6=>H6 l=some (.lst vs)/\vs.length<ak/\∃m',m'<m/\W (i+1) m' (vs++[v]) (upd H6 l (.lst (vs++[v])))else ∃m',m'<m/\W (i+1) m' vs H5))
section
variable{X:Cx}{J2:Zd}{σ:St}
theorem Ij{k:Nat}{N:Zb}{scope:Scope}{J:List Nat}{H:Hp}{s:Shared}{t:List (Str×Addr)}{u:Ze}(S:oA X.env.scope scope k N X.N J)(I:Inv X J2 σ H s)
  (g:∀x c,t.lookup x=some c->X.env.cells.lookup x=some c) (v:∀y∈scope.names,y.2=.free->(t.lookup y.1).isSome=true) (w:∀b∈u,oz X J2 H b) (A:∀b∈u,b<s.heap.objs.size) :
  (dY X N scope s.heap.objs.size t s H u (X.pn++J2)).Ok where
 mod:=I.ok.mod
 kind:=S.kind
 glob:=I.ok.glob
 blt:=I.ok.blt
 above:=aG _
 inj:=fun x y c L M=>I.ok.inj x y c (g x c L) (g y c M)
 has:=fun x h=>by
  have B:∃y∈scope.names,y.1=x/\y.2=.free:=by
   have h':(relabel scope X.env).names.lookup x=some .cell∨(relabel scope X.env).names.lookup x=some .free:=h;have j:∀(l:List (Str×jM)) (f:jM),l.lookup x=some f->(x,f)∈l:=by
    intro l
    induction l with
    |nil=>intro f e;cases e
    |cons a r O =>
     intro f e;obtain⟨n,C⟩:=a;rw[iZ]at e;cases D:x==n with
     |true =>
      rw[D]at e;have:x=n:=by simpa using D
      subst this;cases e;exact cD
     |false=>rw[D]at e;exact d_ _ (O f e)
   have back:∀f,(x,f)∈(relabel scope X.env).names->f=.cell∨f=.free->∃y∈scope.names,y.1=x/\y.2=.free:=by
    intro f Q E;obtain⟨⟨n,C⟩,m,e⟩:=av.mp Q;dsimp only at e;by_cases p:(C==lE && X.env.scope.kind==.function && X.env.kindOf n==some .cell)=true
    ·have G:C=.free:=by
      simp only[lD]at p;simpa using p.1.1
     rw[if_pos p]at e;cases e;exact⟨_,m,rfl,G⟩
    ·rw[if_neg p]at e;cases e;rcases E with rfl|rfl
     ·exact absurd rfl (S.cell _ m)
     ·exact⟨_,m,rfl,rfl⟩
   rcases h' with h'|h'
   ·exact back _ (j _ _ h') (.inl rfl)
   ·exact back _ (j _ _ h') (.inr rfl)
  obtain⟨y,m,rfl,E⟩:=B;exact CA.mp (v y m E)
 cab:=fun x c h=>by cases h
 hd:=I.ok.hd
 frames:=I.ok.frames
 stk:=.inl rfl
 exf:=fun b i=>⟨dg (A b i),fun x c e=>(w b i).2.2.2.2.1 x c (g x c e)⟩
 bs:=I.bs
 bsz:=bB I.ok.bsz I.sz
 noex:=fun b o e i=>by
  rcases(w b i).2.2.2.1 with z|z
  ·exact I.ok.noex b o e z
  ·exact absurd (iW (bC (I.ok.bs b o e).1) z) (rA _)
 exfs:=fun b i z=>by
  obtain⟨_,T,U,_⟩:=w b i;rcases df.mp (I.stkSub b z)with q|q
  ·exact T q
  ·exact U q
 funs:=I.stack
 frf:=I.stkFree
theorem GQ{k:Nat}{N:Zb}{scope:Scope}{Y:List Nat}{H:Hp}{s:Shared}{G:List (Str×Addr)}{J:Ze}{f:Heap}{t':Nat}{m:Str->Option Value}(S:oA X.env.scope scope k N X.N Y)(I:Inv X J2 σ H s)
  (h:∀x c,G.lookup x=some c->X.env.cells.lookup x=some c) (B:∀y∈scope.names,y.2=.free->(G.lookup y.1).isSome=true) (hf:∀b∈J,oz X J2 H b) (L:∀b∈J,b<s.heap.objs.size)
  (hn:f.Ns s.heap.objs.size m) (g:∀b o,s.heap.get? b=some o->f.get? b=some o) :
  Inv (dY X N scope s.heap.objs.size G s H J (X.pn++J2)) [] (dX k Y σ) H { s with heap:=f,toks:=t' }:=by
 have A:∀(l:List (Str×jM)) (x:Str) (C:jM),l.lookup x=some C->(x,C)∈l:=by
  intro l
  induction l with
  |nil=>intro x C e;cases e
  |cons a r ih =>
   intro x C e;obtain⟨n,k'⟩:=a;rw[iZ]at e;cases M:x==n with
   |true =>
    rw[M]at e;have:x=n:=by simpa using M
    subst this;cases e;exact cD
   |false=>rw[M]at e;exact d_ _ (ih x C e)
 refine⟨Ij S I h B hf L,rfl,I.bare,Un.kept g,⟨m,hn,fun i x v e1 e2 e3=>?_⟩,fun x c e=>?_,I.hok.fresh (aG _),fun x c e=>I.freeC x c (h x c e),fun p hp=>?_,I.hok.kept g,?_⟩
 ·obtain⟨j,t,rfl,ht,hv⟩:=uJ e2;obtain⟨y,hy,O,D⟩:=S.sl j t ht;have E:N[k+j]?=some x:=e1;rw[hy]at E;cases E;have w:=A _ _ _ D;obtain⟨c,hc⟩:=CA.mp (B _ w rfl);have hX:=h _ _ hc;obtain⟨mX,al,Q⟩:=I.loc;have kX:=S.fr _ w rfl;obtain⟨u,ru,lk⟩:=Q t x v O hv (by rcases kX with z|z;exact .inr (.inl z);exact .inr (.inr z));refine⟨u,ru,.inr ⟨?_,c,hc,?_⟩⟩
  ·exact iE D
  ·rcases lk with⟨z,_⟩|⟨_,c',e',q⟩
   ·have z':X.env.scope.names.lookup x=some .local:=z;rcases kX with kX|kX<;>rw[z']at kX<;>cases kX
   ·rw[hX]at e';cases e';obtain⟨o,T,U⟩:=q;exact⟨o,g _ o T,U⟩
 ·obtain⟨v,o,T,U⟩:=I.cell x c (h x c e);exact⟨v,o,g _ o T,U⟩
 ·rw[dh]at hp;obtain⟨e,n,ne,nf,d⟩:=I.pin p hp;refine⟨g _ _ e,n,dg (bC e),fun z=>?_,d⟩;rcases df.mp (I.stkSub _ z)with q|q
  ·exact ne q
  ·exact nf q
 ·rw[Cd];exact S.len.symm
structure yQ(X:Cx)(J2:Zd)(H:Hp)(C:Addr):Prop where
 free:H C=none
 loc:C≠X.env.locals
 young:X.s₀.heap.objs.size<=C
 cells:∀x c,X.env.cells.lookup x=some c->c≠C
 pin:∀p∈X.pn++J2,p.1≠C
theorem uI{elt iter tg:Expr}{ifs:List Expr}{scope:Scope}{pos:Pos}{k:Nat}{N:Zb}{fi:List Nat}{cl:List (Str×Addr)}{g:TG}{tc:TT}{te:TE}{it:Addr}{fp:Ze}{tn:Nat->Heap->Prop}{J:It}{s:Hp}{s2:Shared}{Q:VK}
  {E:Zc}{RR:Value->Addr->Result->Shared->Prop}
  (S:oA X.env.scope scope k N X.N fi) (hc:X.calm=true) (bl:∀x c,cl.lookup x=some c->X.env.cells.lookup x=some c) (cm:∀y∈scope.names,y.2=.free->(cl.lookup y.1).isSome=true)
  (hg:∀C cl G H ex pn,PG (dY X N scope C cl G H ex pn) tg g) (ho:AG k g) (ht:∀C cl G H ex pn,IY (dY X N scope C cl G H ex pn) ifs tc) (he:∀C cl G H ex pn,PE (dY X N scope C cl G H ex pn) elt te)
  (I2:Inv X J2 σ s s2) (T:sf X.prog X.w X.K tg J fp it tn) (bn:tn 0 s2.heap) (f2:∀b∈fp,oz X J2 s b)
  (hw:∀l,s l=none->∃W:Nat->Nat->List V->Hp->Prop,(∃m,W 0 m [] (upd s l (.lst [])))/\∀i m O s,W i m O s->s l=some (.lst O) /\
   ((J.stop i s/\Q (.ref l) s)∨(J.go i s/\∀x H3,J.yld i s x H3->g x (dX k fi σ) H3 fun σ2 H4=>tc σ2 H4 fun b H5 =>
    if b=true then te σ2 H5 fun v H6=>H6 l=some (.lst O)/\O.length<ak/\∃U,U<m/\W (i+1) U (O++[v]) (upd H6 l (.lst (O++[v])))else ∃U,U<m/\W (i+1) U O H5)))
  (hR:∀D C L s' U,Inv X J2 σ L s'->s'.heap.Ns C U->yQ X J2 L C->Q (.ref D) L->RR (.ref D) C (.ok .next) s') :
  wpAny (model X.prog X.w) X.A (newList []) (fun acc s₃=>wpAny (model X.prog X.w) X.A (newFunctionEnv scope X.env.globals cl [] X.env.qual none .none (some X.env)) (fun aF s₄ =>
   zzl76 (model X.prog X.w) X.A (.compStart (.ListComp elt [⟨tg,iter,ifs,0⟩] scope pos) 0 (.ref it) acc { aF with scope:=relabel scope X.env }) (RR acc aF.locals) s₄) E s₃) E s2:=by
 have as:s s2.heap.objs.size=none:=I2.fresh;obtain⟨W,⟨m0,w0⟩,turn⟩:=hw _ as;refine lC (wpAny_newFunctionEnv S.cell (by intro y hy;simp at hy) (fun I al an=>?_) S.kind);dsimp only at al an ⊢;have I3:Inv X J2 σ (upd s s2.heap.objs.size (.lst [])) { s2 with heap:=s2.heap.push { cls:=.type "list",data:=.seq ([]:Zf).toArray },toks:=s2.toks }:=I2.lnew (ys:=[]) .nil (c_ _);generalize bp:({ s2 with heap:=s2.heap.push { cls:=.type "list",data:=.seq ([]:Zf).toArray },toks:=s2.toks }:Shared)=B at I3;have aC:B.heap=s2.heap.push { cls:=.type "list",data:=.seq ([]:Zf).toArray }:=by rw[<-bp]
 have co:B.heap.objs.size=s2.heap.objs.size+1:=by rw[aC,CH]
 have b1:∀b∈fp,b<s2.heap.objs.size:=fun b f=>by
  obtain⟨o,e,_⟩:=T.obj 0 _ bn b f;exact bC e
 have f3:∀b∈fp,oz X J2 (upd s s2.heap.objs.size (.lst [])) b:=fun b f=>⟨by rw[ag (dg (b1 b f))];exact(f2 b f).1,(f2 b f).2⟩;have a0:∀b∈fp,b<B.heap.objs.size:=fun b f=>by rw[co];exact Nat.lt_succ_of_lt (b1 b f)
 have b2:∀b o,B.heap.get? b=some o->I.get? b=some o:=fun b o e=>by
  have f:b≠B.heap.objs.size:=dg (bC e);rw[aC]at e f;exact an.extBut b o f (cx _ e)
 have cq:I.Ns B.heap.objs.size (fun x=>([]:List (Str×Value)).reverse.lookup x):=by rw[aC];exact al
 have I4:Inv (dY X N scope B.heap.objs.size cl B (upd s s2.heap.objs.size (.lst [])) fp (X.pn++J2)) [] (dX k fi σ) (upd s s2.heap.objs.size (.lst [])) { B with heap:=I,toks:=s2.toks+([]:List (Str×Value)).length } :=
  GQ S I3 bl cm f3 a0 cq b2
 have b3:tn 0 I:=T.keep _ _ _ bn fun b f o e=>b2 b o (by rw[aC];exact cx _ e);generalize M:dY X N scope B.heap.objs.size cl B (upd s s2.heap.objs.size (.lst [])) fp (X.pn++J2)=Y at I4;have yp:Y.prog=X.prog:=by rw[<-M];rfl
 have yw:Y.w=X.w:=by rw[<-M];rfl
 have yK:Y.K=X.K:=by rw[<-M];rfl
 have yA:Y.A=X.A:=by rw[<-M];rfl
 have yx:Y.xe=XF:=by rw[<-M];rfl
 have yc:Y.calm=true:=by rw[<-M];exact hc
 have gY:PG Y tg g:=by rw[<-M];exact hg _ _ _ _ _ _
 have tY:IY Y ifs tc:=by rw[<-M];exact ht _ _ _ _ _ _
 have eY:PE Y elt te:=by rw[<-M];exact he _ _ _ _ _ _
 have b4:Y.env=compEnvC scope cl B.heap.objs.size X.env:=by rw[<-M];rfl
 have fY:∀{L:Hp},(∀b∈fp,L b=none)->∀b∈fp,oz Y [] L b:=fun hn b f=>by
  obtain⟨f0,f1,b5,b6,f4,f5⟩:=f3 b f;rw[<-M];refine⟨hn b f,dg (a0 b f),fun z=>?_,.inl f,fun x c e=>f4 x c (bl x c e),fun p hp=>?_⟩
  ·rcases df.mp (I3.stkSub _ z)with q|q
   ·exact f1 q
   ·exact b5 q
  ·rw[dh]at hp;exact f5 p hp
 have a4:∀s4:Shared,s4={ B with heap:=I,toks:=s2.toks+([]:List (Str×Value)).length } ->
   zzl76 (model X.prog X.w) X.A (.compLoop (.ListComp elt [⟨tg,iter,ifs,0⟩] scope pos) 0 (.ref it) (.ref s2.heap.objs.size) Y.env) (RR (.ref s2.heap.objs.size) B.heap.objs.size) s4:=by
  rintro s4 rfl;refine yv (fun n s'=>∃i O L,Inv Y [] (dX k fi σ) L s'/\tn i s'.heap/\(∀b∈fp,L b=none)/\W i n O L) ?_ m0 ⟨0,[],_,I4,b3,fun b f=>(f3 b f).1,w0⟩;rintro n s5 ⟨i,O,H5,I5,b7,b8,w5⟩;obtain⟨dd,a5⟩:=turn i n O H5 w5;rcases a5 with⟨stop,q⟩|⟨go,step⟩
  ·have d:=T.done Y yp yw yK yc i [] s5 _ H5 XF I5 (fY b8) b7 stop;rw[yA]at d;refine cF d fun r s6 a=>?_;obtain⟨hr,I6⟩:=a;subst hr;have hu:Un (Fd X.stack) fp (upd s s2.heap.objs.size (.lst [])) H5 B.heap s6.heap:=by have:=I6.base;rw[<-M]at this;exact this
   have cs:s6.os=B.os:=by have:=I6.os;rw[<-M]at this;exact this
   have b9:mh X.prog X.w X.K H5 s6.heap:=by have:=I6.hok;rw[<-M]at this;exact this
   have ct:H5 B.heap.objs.size=none:=by have:=I6.free;rw[<-M]at this;exact this
   obtain⟨m6,ca,_⟩:=I6.loc;have cc:s6.heap.Ns B.heap.objs.size m6:=by rw[<-M]at ca;exact ca
   have IX:Inv X J2 σ H5 s6:=I3.call' cs hu b9 I6.bare fun b f=>by
    obtain⟨f0,f1,b5,b6,f4,f5⟩:=f3 b f;exact⟨b6,f1,f4,f5⟩
   refine hR _ _ H5 s6 m6 IX cc ⟨ct,lh I3.lt,I3.sz,fun x c e z=>?_,fun p hp z=>?_⟩ q
   ·obtain⟨v,o,ho,_⟩:=I3.cell x c e;exact absurd (bC ho) (by rw[z];exact rA _)
   ·exact absurd (bC (I3.pin p hp).1) (by rw[z];exact rA _)
  ·have d:=T.item Y yp yw yK yc i [] s5 _ H5 XF I5 (fY b8) b7 go;rw[yA]at d;refine cF d fun r s6 a=>?_;obtain⟨u,hr,h6⟩:=a;subst hr;refine cF h6 fun _ s7 a=>?_;obtain⟨x,H7,I7,r7,y7,a6,cv⟩:=a;have c0:=I7.pinned (fY cv) (T.obj _ _ a6);have a7:=gY _ s7 _ H7 x u _ c0 r7 (ho _ _ _ _ (step x H7 y7));rw[yp,yw,yA,yx]at a7;refine cF a7 fun _ s8 a=>?_;obtain⟨σ8,H8,I8,q8,l8,k8⟩:=a;have a8:=tY _ s8 σ8 H8 _ I8 q8;rw[yp,yw,yA,yx]at a8;have again:∀{H9:Hp}{s9:Shared}{bf:List V}{U:Nat},Inv Y ([]++uj fp s7.heap) σ8 H9 s9->U<n->W (i+1) U bf H9->∃m,m<n/\∃i O L,Inv Y [] (dX k fi σ) L s9/\tn i s9.heap/\(∀b∈fp,L b=none)/\W i m O L:=fun{H9 s9 bf U} I9 hm w9=>by
    refine⟨U,hm,i+1,bf,H9,(I9.unpinned).weak l8.symm (fun j v e=>?_),T.keep _ _ _ a6 fun b f o e=>(I9.pin (b,o) (cQ _ (cQ _ (kG f e)))).1,fun b f=>?_,w9⟩
    ·obtain⟨j',t,rfl,_,_⟩:=uJ e;rw[k8 _ (Nat.le_add_right _ _)];exact e
    ·obtain⟨o,e,_⟩:=T.obj _ _ a6 b f;exact(I9.pin (b,o) (cQ _ (cQ _ (kG f e)))).2.1
   refine cF a8 fun b s9 a=>?_;obtain⟨H9,I9,q9⟩:=a;cases b with
   |false =>
    rw[if_neg h7]at q9 ⊢;obtain⟨U,hm,w9⟩:=q9;exact again I9 hm w9
   |true =>
    rw[if_pos rfl]at q9 ⊢;have a9:=eY _ s9 σ8 H9 _ I9 q9;rw[yp,yw,yA,yx]at a9;refine cF a9 fun y c1 a=>?_;obtain⟨v,cd,c2,c3,ce,bi,U,hm,c4⟩:=a;have ch:=bI (X:=Y) _ c1 σ8 cd (.ref s2.heap.objs.size) [v] (.ref s2.heap.objs.size) [y] (fun z L=>z=.non/\L=upd cd s2.heap.objs.size (.lst (O++[v]))) c2 rfl (.cons c3 .nil) ⟨_,O,v,rfl,rfl,ce,bi,rfl,rfl⟩;rw[yp,yw,yA,yx]at ch;refine cF ch fun _ dk a=>?_;obtain⟨_,dm,c5,_,_,dc⟩:=a;subst dc;exact again c5 hm c4
 have h:=codeAny_compStart_list (prog:=X.prog) (w:=X.w) (A:=X.A) (elt:=elt) (target:=tg) (iter:=iter) (ifs:=ifs) (rest:=[]) (scope:=scope) (pos:=pos) (it:=.ref it) (acc:=.ref s2.heap.objs.size) (env:=Y.env) (a4 _ rfl) (T.self _ 0 _ _ _ b3 (a4 _ rfl));rw[b4]at h;rw[<-bp]at h;exact h
end
section
variable{X:Cx}
theorem yQ.turned{a:Zd}{σ:St}{H:Hp}{s:Shared}{C:Addr}{f:Heap}(c:yQ X a H C)(I:Inv X a σ H s)(g:gL C s.heap f):Inv X a σ H { s with heap:=f } :=
 I.turned (t':=s.toks) (fun b o h e=>g.extBut b o h e) c.free c.loc (.inr c.young) c.cells c.pin
theorem HR{m i p:Expr}{n:List Expr}{scope:Scope}{r:Pos}{k:Nat}{N:Zb}{G:List Nat}{L:TI}{g:TG}{M:TT}{O:TE}(Y:mL X.env.scope scope k N X.N G=true)(hc:X.calm=true)(hi:PI X p i L)
  (hg:∀C l a f ex o,PG (dY X N scope C l a f ex o) p g) (ho:AG k g) (ht:∀C l a f ex o,IY (dY X N scope C l a f ex o) n M) (he:∀C l a f ex o,PE (dY X N scope C l a f ex o) m O)
  (hs:∀x,yU i X.env x=pure x:=by intro _;rfl):PE X (.ListComp m [⟨p,i,n,0⟩] scope r) (dH k G L g M O):=by
 intro U s σ H Q I h;have S:=oA.of Y;obtain⟨l,j,t,u⟩:=uK (env:=X.env) (scope:=scope) fun y hy e=>I.ok.has y.1 (S.fr y hy e);rw[eval_ListComp];refine wpAny_comprehension_free (use:=none) rfl hs j S.kind S.nm (cF (hi U s σ H _ I h) fun v s1 h1=>cF h1 fun al s2 h2=>?_);obtain⟨it,fp,tn,J,H2,e,I2,T,z,f2,hw⟩:=h2;subst e;refine uI (RR:=fun B C=>compPost (model X.prog X.w) X.A X.xe none (EP X U σ Q) B C) S hc t u hg ho ht he I2 T z f2 hw ?_;intro D C H' s' m' I' hn ce q;exact⟨m',hn,fun h' E=>⟨.ref D,H',ce.turned I' E,rfl,q⟩⟩
theorem BA{m f B:Expr}{n:List Expr}{scope:Scope}{p o t:Pos}{k:Nat}{N:Zb}{fi:List Nat}{wi:TI}{g:TG}{tc:TT}{te:TE}{j:Nat}{y:Str}(hN:X.N.Nodup)(hj:X.N[j]?=some y)(L:Loc X.env.scope y)(hS:mL X.env.scope scope k N X.N fi=true)(hc:X.calm=true)(hi:PI X B f wi)
  (hg:∀C u i l ex E,PG (dY X N scope C u i l ex E) B g) (ho:AG k g) (ht:∀C u i l ex E,IY (dY X N scope C u i l ex E) n tc) (he:∀C u i l ex E,PE (dY X N scope C u i l ex E) m te)
  (M:rj (.ListComp m [⟨B,f,n,0⟩] scope p) (some (.Name y t)) o.line X.env=pure true:=by rfl)
  (hs:∀x,yU f X.env x=pure x:=by intro _;rfl) (hf:X.fn y=true∨X.env.scope.names.lookup y=some .local:=by first|exact .inl rfl|exact .inr rfl|assumption) :
  PS X (.Assign [.Name y t] (.ListComp m [⟨B,f,n,0⟩] scope p) o) (aK (dH k fi wi g tc te) (eO j)):=by
 intro O s σ H D I h;have S:=oA.of hS;obtain⟨u,r,U,Y⟩:=uK (env:=X.env) (scope:=scope) fun y L e=>I.ok.has y.1 (S.fr y L e);rw[exec_Assign_Name_used _ _ _ _ M];refine aq (CN (aq ?_));show wpAny _ X.A (do let _ <- comprehension (.ListComp m [⟨B,f,n,0⟩] scope p) scope X.env _ (newList []) false (eval f X.env) (some (assign (.Name y t) X.env))) _ _ s
 refine aq (oO (wpAny_comprehension_free (use:=some (assign (.Name y t) X.env)) (Q:=fun _ G=>SP X O D .next G) rfl hs r S.kind S.nm
  (cF (hi O s σ H _ I h) fun v s1 h1=>cF h1 fun a5 s2 h2=>?_)) (fun _ G hq=>aV (aV hq)) fun _ _ e=>e)
 obtain⟨it,fp,tn,J,H2,e,I2,T,al,f2,hw⟩:=h2;subst e;refine uI (RR:=fun an C=>compPost (model X.prog X.w) X.A X.xe (some (assign (.Name y t) X.env)) (fun _ G=>SP X O D .next G) an C) (Q:=fun x H1=>eO j x σ H1 D.nx) S hc U Y hg ho ht he I2 T al f2 hw ?_;intro A C H' G m' I' hn ce q;show wpAny _ X.A (assign (.Name y t) X.env (.ref A)) _ _ _;refine wpAny_assign_Name (v2 I' hN hj L (v:=.ref A) rfl (fun a6 as aC=>?_) hf);obtain⟨a,aF,ha⟩:=aC;have a0:C≠a:=by
  rcases ha with z|z
  ·rw[z];exact ce.loc
  ·exact dF (ce.cells y a z)
 refine⟨m',hn.sameBut aF a0,fun h' a4=>?_⟩;exact⟨_,H',ce.turned as a4,q⟩
end
theorem Inv.turnedNew{X:Cx}{i:Zd}{σ:St}{H:Hp}{s:Shared}{g:Heap}{t:Nat}{ch:Ze}{o:HO}(I:Inv X i σ H s)(j:∀b∈ch,oz X i H b)
  (k:∀b q,b∉ch->s.heap.get? b=some q->g.get? b=some q) (N:∃q,g.get? s.heap.objs.size=some q) (x:∀y,o≠.own y) (new:bS X.prog X.w X.K (upd H s.heap.objs.size o) g s.heap.objs.size o) :
  Inv X i σ (upd H s.heap.objs.size o) { s with heap:=g,toks:=t }:=by
 have a:H s.heap.objs.size=none:=I.fresh;have l:∀b q,s.heap.get? b=some q->b≠s.heap.objs.size:=fun b q e=>dg (bC e);have p:∀b u,H b=some u->b∉ch:=fun b u e z=>by rw[(j b z).1]at e;cases e
 refine I.step (g':=s.gens) (d':=s.drawn) (ch:=ch) (fun b h=>?_) (fun b q _ _ f e _=>k b q f e) (fun b q _ _ f e _=>⟨q.slots,k b q f e⟩) (fun b q _ e n=>by rw[ag (l b q e)];exact n) (fun b q f e=>⟨q,k b q f e⟩)
  (fun b A e=>by rw[ag (ae e a)];exact e) (fun b q u e=>by rw[ag (ae e a)];exact e) (fun b O e=>⟨#[],by rw[ag (ae e a),e];simp⟩) (fun m B=>?_) (fun b u e=>?_) I.bare
 ·obtain⟨Q,C,T,D,E,G⟩:=j b h;exact⟨D,C,E,G⟩
 ·obtain⟨q,J,L,M,r⟩:=B;exact⟨q,J,L,k _ q (fun z=>(j _ z).2.1 rfl) M,r⟩
 ·by_cases h:b=s.heap.objs.size
  ·subst h;rw[aa]at e;cases e;exact new
  ·rw[ag h]at e;refine(I.hok b u e).stay (fun c v f q=>k c v ?_ q) (fun c q=>by rw[ag (ae q a)];exact q) fun c A q=>by rw[ag (ae q a)];exact q
   rcases f with z|z
   ·subst z;exact p _ _ e
   ·exact p _ _ z
def Kd(K:Za)(a:Addr):It :=
 ⟨fun i H=>∃xs x,ay K H a xs/\xs[i]?=some x,fun i H x H'=>∃p v,x=.ref p/\H p=none/\(∀xs,ay K H a xs->xs[i]?=some v)/\H'=upd H p (.tup [.int i,v]),fun i H=>∃xs,ay K H a xs/\xs.length<=i⟩
theorem DK{P:bV}{w:World}{K:Za}{es:List Expr}{kx:Nat}{J5:Pos}(a e it:Addr)(n:e≠it):
  sf P w K (.Tuple es kx J5) (Kd K a) [e,it] e (fun i h=>(∃f,IsEnum h e it i f)/\h.IsListIter it a i) where
 mem:=by simp
 obj:=fun i h st b m=>by
  obtain⟨⟨f,j⟩,o,J,L,hd⟩:=st;rcases df.mp m with z|z
  ·subst z;exact⟨_,j,fun v z=>by cases z⟩
  ·have M:b=it:=by simpa using z
   subst M;exact⟨o,J,fun v z=>by rw[hd]at z;cases z⟩
 keep:=fun i h D st k=>⟨let⟨f,j⟩:=st.1;⟨f,k e (by simp) _ j⟩,st.2.at fun o e=>k it (by simp) o e⟩
 item:=by
  intro X N O Q L i J2 s σ H E I r st T;subst N O Q;obtain⟨⟨f,j⟩,l⟩:=st;obtain⟨xs,x,G,U⟩:=T;obtain⟨Y,rv,p,hz⟩:=I.list G;obtain⟨u,hu,ru⟩:=rv.get U;obtain⟨e0,e1,e2,e3,e4,e5⟩:=r e (by simp);obtain⟨f0,f1,f2,f3,f4,f5⟩:=r it (by simp);refine wpAny_pyNext_enum_item j l p.isList (x:=u) (by simpa using hu) n fun D al t an a8 as=>?_;refine⟨_,rfl,wpAny_letOwnedTupleGo_enum (s:={ s with heap:=D,toks:=s.toks+1 }) al fun h2 aC aF=>?_⟩;have g:gL e D h2:=aF;have A:s.heap.objs.size≠e:=lh (bC j);have B:h2.get? s.heap.objs.size=some { cls:=.type "tuple",data:=.seq #[.int i s.toks,u] }:=g.extBut _ _ A an;have a0:H s.heap.objs.size=none:=I.fresh;have a4:upd H s.heap.objs.size (.tup [.int i,x]) e=none:=by rw[ag (dF A)];exact e0
  have a5:s.heap.objs.size≠it:=by
   obtain⟨o,J,_⟩:=l;exact lh (bC J)
  have a6:upd H s.heap.objs.size (.tup [.int i,x]) it=none:=by rw[ag (dF a5)];exact f0
  have I2:Inv X J2 σ (upd H s.heap.objs.size (.tup [.int i,x])) { s with heap:=h2,toks:=s.toks+1 }:=by
   refine I.turnedNew (ch:=[e,it]) r (fun b o m q=>?_) ⟨_,B⟩ (fun _ z=>nomatch z) ⟨by show 2<=ak;decide,[.int i s.toks,u],.cons ⟨_,rfl⟩ (.cons ru .nil),⟨_,B,rfl,_,rfl⟩⟩;have C:b≠e:=fun z=>m (by simp[z]);have a7:b≠it:=fun z=>m (by simp[z]);exact g.extBut _ _ C (as b o C a7 q)
  refine⟨.ref s.heap.objs.size,_,I2,rfl,⟨_,x,rfl,a0,fun ys hy=>by rw[I.list_inj hy G];exact U,rfl⟩,⟨⟨u,by simpa using aC⟩,t.at fun o y=>(g.2 it (dF n)).trans y⟩,fun b m=>?_⟩;rcases df.mp m with z|z
  ·subst z;exact a4
  ·have M:b=it:=by simpa using z
   subst M;exact a6
 done:=by
  intro X N O Q L i J2 s σ H E I r st T;subst N O Q;obtain⟨⟨f,j⟩,l⟩:=st;obtain⟨xs,G,U⟩:=T;obtain⟨Y,rv,p,hz⟩:=I.list G;obtain⟨f0,f1,f2,f3,f4,f5⟩:=r it (by simp);have hl:=rv.length;exact wpAny_pyNext_enum_end (I.ok.hd L) j l p.isList (by simp;omega) fun D eb=>⟨rfl,I.turned (t':=s.toks) (fun b o m e=>eb b o m e) f0 f1 f3 f4 f5⟩
 self:=fun _ _ _ _ _ st h=>let⟨_,j⟩:=st.1;wpAny_pyIter_enum j h
section
variable{X:Cx}{p pos:Pos}{es:List Expr}{kx:Nat}{J5:Pos}
def wu(K:Za)(ta:TA):TI:=fun σ H R=>ta σ H fun vs H1=>∃a,vs=[.ref a]/\(∃xs,ay K H1 a xs)/\R (Kd K a) H1
theorem pk{a:Expr}{n:TA}(w:Gl X "enumerate")(x:X.mg "enumerate"=none)(y:PA X [a] n)(A:aO [a] X.env=[(false,eval a X.env)]:=by rfl):PI X (.Tuple es kx J5) (.Call (.Name "enumerate" p) [a] [] pos) (wu X.K n):=by
 intro r s σ H R I h;refine Call_ (qN I w x boot_enumerate (CK (cF (y pos r s σ H _ I h) fun T s1 i=>?_) A rfl));obtain⟨U,t,g,B,C⟩:=i;obtain⟨l,e,⟨Y,D⟩,q⟩:=C;subst e;obtain⟨u,rfl,E⟩:=vals1 B;cases E;obtain⟨G,rv,J,hz⟩:=g.list D;refine call_enumerate_list J.isList fun j v k L M=>?_;refine wpAny_pyIter_enum (s:={ s1 with heap:=j }) v ?_;have m:∀b o,s1.heap.get? b=some o->j.get? b=some o:=M;have N:Inv X r σ t { s1 with heap:=j }:=g.kept (t':=s1.toks) m;refine⟨_,[s1.heap.objs.size+1,s1.heap.objs.size],_,_,t,rfl,N,DK l _ _ (Nat.succ_ne_self _),⟨⟨_,v⟩,k⟩,fun b O=>?_,q⟩;have f:s1.heap.objs.size<=b:=by
  rcases df.mp O with z|z
  ·rw[z];exact sH _
  ·have Q:b=s1.heap.objs.size:=by simpa using z
   rw[Q];exact aG _
 exact g.fpOk f (g.hok.fresh f)
end
def Kw(x:Str):It:=⟨fun i _=>i<x.cps.size,fun i H y H'=>H'=H/\∃c,x.cps[i]?=some c/\y=.str ⟨#[c]⟩,fun i _=>x.cps.size<=i⟩
theorem AW{P:bV}{w:World}{K:Za}{J:Expr}(x:Str)(t:Tok)(it:Addr):sf P w K J (Kw x) [it] it (fun i h=>h.IsStrIter it "str_ascii_iterator" x t i) where
 mem:=by simp
 obj:=fun i h st b a=>by
  have e:b=it:=by simpa using a
  subst e;obtain⟨o,e,c,d⟩:=st;exact⟨o,e,fun v z=>by rw[d]at z;cases z⟩
 keep:=fun i h g st k=>by
  obtain⟨o,e,c,d⟩:=st;exact⟨o,k it (by simp) o e,c,d⟩
 item:=by
  intro X l m n C i D s σ H E I j st p;subst l m n;have q:i<x.cps.size:=p;obtain⟨r,u,L,y,A,B⟩:=j it (by simp);have G:x.cps[i]?=some x.cps[i]:=by simp[q]
  refine wpAny_pyNext_ascii_item st G fun g f M=>?_;have N:Inv X D σ H { s with heap:=g,toks:=s.toks+1 }:=I.turned (t':=s.toks+1) (fun b o a e=>(M.2 b a).trans e) r u y A B;obtain⟨o,e,c,d⟩:=id f;exact⟨_,rfl,uD (s:={ s with heap:=g,toks:=s.toks+1 }) e c d (by decide) ⟨.str ⟨#[x.cps[i]]⟩,H,N,⟨_,rfl⟩,⟨rfl,_,G,rfl⟩,f,fun b a=>(j b a).1⟩⟩
 done:=by
  intro X l m n C i D s σ H E I j st p;subst l m n;have O:x.cps.size<=i:=p;obtain⟨r,u,L,y,A,B⟩:=j it (by simp);exact wpAny_pyNext_ascii_end (I.ok.hd C) st (by simp;omega) fun g Q=>⟨rfl,I.turned (t':=s.toks) (fun b o a e=>Q b o a e) r u y A B⟩
 self:=fun _ _ _ _ _ st h=>wpAny_pyIter_striter_ascii st h
theorem DH{P:bV}{w:World}{K:Za}{J:Expr}(x:Str)(t:Tok)(it:Addr):sf P w K J (Kw x) [it] it (fun i h=>h.IsStrIter it "str_iterator" x t i) where
 mem:=by simp
 obj:=fun i h st b a=>by
  have e:b=it:=by simpa using a
  subst e;obtain⟨o,e,c,d⟩:=st;exact⟨o,e,fun v z=>by rw[d]at z;cases z⟩
 keep:=fun i h g st k=>by
  obtain⟨o,e,c,d⟩:=st;exact⟨o,k it (by simp) o e,c,d⟩
 item:=by
  intro X l m n C i D s σ H E I j st p;subst l m n;have q:i<x.cps.size:=p;obtain⟨r,u,L,y,A,B⟩:=j it (by simp);have G:x.cps[i]?=some x.cps[i]:=by simp[q]
  refine wpAny_pyNext_wide_item st G fun g f M=>?_;have N:Inv X D σ H { s with heap:=g,toks:=s.toks+1 }:=I.turned (t':=s.toks+1) (fun b o a e=>(M.2 b a).trans e) r u y A B;obtain⟨o,e,c,d⟩:=id f;exact⟨_,rfl,uD (s:={ s with heap:=g,toks:=s.toks+1 }) e c d (by decide) ⟨.str ⟨#[x.cps[i]]⟩,H,N,⟨_,rfl⟩,⟨rfl,_,G,rfl⟩,f,fun b a=>(j b a).1⟩⟩
 done:=by
  intro X l m n C i D s σ H E I j st p;subst l m n;have O:x.cps.size<=i:=p;obtain⟨r,u,L,y,A,B⟩:=j it (by simp);exact wpAny_pyNext_wide_end (I.ok.hd C) st (by simp;omega) fun g Q=>⟨rfl,I.turned (t':=s.toks) (fun b o a e=>Q b o a e) r u y A B⟩
 self:=fun _ _ _ _ _ st h=>wpAny_pyIter_striter_wide st h
section
variable{X:Cx}{p pos:Pos}{tg:Expr}
def JV(tl:TE):TI:=fun σ H R=>tl σ H fun v H1=>∃x,v=.str x/\R (Kw x) H1
theorem Jh{l:Expr}{k:TE}(r:PE X l k):PI X tg l (JV k):=by
 intro m s σ H R I h;refine cF (r m s σ H _ I h) fun v a i=>?_;obtain⟨y,j,g,u,w⟩:=i;obtain⟨x,e,q⟩:=w;subst e;obtain⟨t,rfl⟩:=u;have f:∀b∈[a.heap.objs.size],oz X m j b:=fun b z=>by
  have e:b=a.heap.objs.size:=by simpa using z
  subst e;exact g.fpOk (aG _) (g.hok.fresh (aG _))
 cases n:x.cps.all (·<128)
 ·refine wpAny_pyIter_wide n ?_;exact⟨a.heap.objs.size,[a.heap.objs.size],_,_,j,rfl,g.kept (t':=a.toks) fun b o e=>cx _ e,DH x t _,⟨_,dL _ rfl,rfl,rfl⟩,f,q⟩
 ·refine wpAny_pyIter_ascii n ?_;exact⟨a.heap.objs.size,[a.heap.objs.size],_,_,j,rfl,g.kept (t':=a.toks) fun b o e=>cx _ e,AW x t _,⟨_,dL _ rfl,rfl,rfl⟩,f,q⟩
end
def Kb(K:Za)(a b:Addr):It :=
  ⟨fun i H=>∃xs ys x y,ay K H a xs/\ay K H b ys/\xs[i]?=some x/\ys[i]?=some y,
   fun i H x H'=>∃p u v,x=.ref p/\H p=none/\(∀xs,ay K H a xs->xs[i]?=some u)/\(∀ys,ay K H b ys->ys[i]?=some v)/\H'=upd H p (.tup [u,v]),
   fun i H=>∃xs ys,ay K H a xs/\ay K H b ys/\(xs.length<=i∨ys.length<=i)⟩
theorem Fp{P:bV}{w:World}{K:Za}{es:List Expr}{kx:Nat}{J5:Pos}(a b z TI TO t A:Addr)(D:ZipApart z TI TO t A a b):
  sf P w K (.Tuple es kx J5) (Kb K a b) [z,TI,TO,t,A] z (fun i h=>IsZip h z TI TO .none/\IsPair h TI (.ref t) (.ref A)/\(∃a b,IsPair h TO a b)/\h.IsListIter t a i/\h.IsListIter A b i) where
 mem:=by simp
 obj:=fun i h st c f=>by
  obtain⟨p,j,⟨u,v,l⟩,G,J⟩:=st;simp only[df,List.not_mem_nil,or_false]at f;rcases f with rfl|rfl|rfl|rfl|rfl
  ·exact⟨_,p,fun v z=>by cases z⟩
  ·exact⟨_,j,fun v z=>by cases z⟩
  ·exact⟨_,l,fun v z=>by cases z⟩
  ·obtain⟨o,e,c,d⟩:=G;exact⟨o,e,fun v z=>by rw[d]at z;cases z⟩
  ·obtain⟨o,e,c,d⟩:=J;exact⟨o,e,fun v z=>by rw[d]at z;cases z⟩
 keep:=fun i h N st k=>by
  obtain⟨p,j,⟨u,v,l⟩,G,J⟩:=st;exact⟨k z (by simp) _ p,k TI (by simp) _ j,⟨u,v,k TO (by simp) _ l⟩,G.at fun o e=>k t (by simp) o e,J.at fun o e=>k A (by simp) o e⟩
 item:=by
  intro X hP hw hK f i J2 s σ H E I M st hg;subst hP hw hK;obtain⟨p,j,⟨u0,v0,l⟩,G,J⟩:=st;obtain⟨xs,ys,x,y,B,C,hx,hy⟩:=hg;obtain⟨aC,rx,px,zx⟩:=I.list B;obtain⟨aF,ry,py,zy⟩:=I.list C;obtain⟨u,hu,ru⟩:=rx.get hx;obtain⟨v,hv,rv⟩:=ry.get hy;refine wpAny_pyNext_zip_item D p j l G J px.isList py.isList (x:=u) (y:=v) (by simpa using hu) (by simpa using hv) fun N a1 a2 a3 a4 a5 a6 hk=>?_;refine⟨_,rfl,wpAny_letOwnedTupleGo_zip (s:={ s with heap:=N }) a1 fun L a0 a7=>?_⟩;have g:gL z N L:=a7;have O:s.heap.objs.size≠z:=lh (bC p);have Q:s.heap.objs.size≠TO:=lh (bC l);have T:s.heap.objs.size≠TI:=lh (bC j);have U:s.heap.objs.size≠t:=by obtain⟨o,Y,_⟩:=G;exact lh (bC Y)
  have al:s.heap.objs.size≠A:=by obtain⟨o,Y,_⟩:=J;exact lh (bC Y)
  have an:IsPair L s.heap.objs.size u v:=g.extBut _ _ O a5;have I2:Inv X J2 σ (upd H s.heap.objs.size (.tup [x,y])) { s with heap:=L,toks:=s.toks }:=by
   refine I.turnedNew (ch:=[z,TI,TO,t,A]) M (fun c o f q=>?_) ⟨_,an⟩ (fun _ z=>nomatch z) ⟨by show 2<=ak;decide,[u,v],.cons ru (.cons rv .nil),⟨_,an,rfl,_,rfl⟩⟩;have n1:c≠z:=fun q=>f (by simp[q]);exact g.extBut _ _ n1 (hk c o n1 (fun q=>f (by simp[q])) (fun q=>f (by simp[q])) (fun q=>f (by simp[q])) q)
  refine⟨.ref s.heap.objs.size,_,I2,rfl,⟨_,x,y,rfl,I.fresh,fun zs p=>by rw[I.list_inj p B];exact hx,fun zs p=>by rw[I.list_inj p C];exact hy,rfl⟩,⟨a0,g.extBut _ _ D.TIz (hk _ _ D.TIz D.TITO D.TIi1 D.TIi2 j),⟨_,_,g.extBut _ _ D.TOz a2⟩,a3.at fun o e=>g.extBut _ _ D.i1z e,a4.at fun o e=>g.extBut _ _ D.i2z e⟩,fun c f=>?_⟩;have a8:=(M c f).1;simp only[df,List.not_mem_nil,or_false]at f;have ne:c≠s.heap.objs.size:=by
   rcases f with rfl|rfl|rfl|rfl|rfl
   ·exact O.symm
   ·exact T.symm
   ·exact Q.symm
   ·exact U.symm
   ·exact al.symm
  rw[ag ne];exact a8
 done:=by
  intro X hP hw hK f i J2 s σ H E I M st hg;subst hP hw hK;obtain⟨p,j,⟨u0,v0,l⟩,G,J⟩:=st;obtain⟨xs,ys,B,C,as⟩:=hg;obtain⟨aC,rx,px,zx⟩:=I.list B;obtain⟨aF,ry,py,zy⟩:=I.list C;have lx:=rx.length;have ly:=ry.length;refine wpAny_pyNext_zip_end (I.ok.hd f) D p j l G J px.isList py.isList (by rcases as with q|q;exact .inl (by simp;omega);exact .inr (by simp;omega)) fun N hk=>⟨rfl,?_⟩;have tr:∀c q,H c=some q->c∉[z,TI,TO,t,A]:=fun c q e m=>by rw[(M c m).1]at e;cases e
  have kk:∀c o,c∉[z,TI,TO,t,A]->s.heap.get? c=some o->N.get? c=some o:=fun c o f q=>hk c o (fun q=>f (by simp[q])) (fun q=>f (by simp[q])) (fun q=>f (by simp[q])) (fun q=>f (by simp[q])) q;refine I.step (g':=s.gens) (d':=s.drawn) (t':=s.toks) (ch:=[z,TI,TO,t,A]) (fun c f=>?_) (fun c o _ _ f e _=>kk c o f e) (fun c o _ _ f e _=>⟨o.slots,kk c o f e⟩) (fun _ _ _ _ n=>n) (fun c o f e=>⟨o,kk c o f e⟩) (fun _ _ e=>e) (fun _ _ _ e=>e) (fun c ps e=>⟨#[],by rw[e];simp⟩) (fun m hm=>?_) (fun c q e=>?_) I.bare
  ·obtain⟨f0,f1,f2,f3,f4,f5⟩:=M c f;exact⟨f3,f1,f4,f5⟩
  ·obtain⟨q,a9,ep,Y,r⟩:=hm;exact⟨q,a9,ep,kk _ q (fun z=>(M _ z).2.1 rfl) Y,r⟩
  ·refine(I.hok c q e).stay (fun d v hd q'=>kk d v ?_ q') (fun _ q=>q) fun _ _ q=>q;rcases hd with z|z
   ·subst z;exact tr _ _ e
   ·exact tr _ _ z
 self:=fun _ _ _ _ _ st h=>wpAny_pyIter_zip st.1 h
section
variable{X:Cx}{p pos:Pos}{es:List Expr}{kx:Nat}{J5:Pos}
def IL(K:Za)(ta:TA):TI:=fun σ H R=>ta σ H fun vs H1=>∃a b,vs=[.ref a,.ref b]/\(((∃xs,ay K H1 a xs)/\(∃ys,ay K H1 b ys)/\R (Kb K a b) H1)∨False)
theorem HJ{a b:Expr}{t:TA}(z:Gl X "zip")(A:X.mg "zip"=none)(B:PA X [a,b] t)(C:aO [a,b] X.env=[(false,eval a X.env),(false,eval b X.env)]:=by rfl)(f:aO [b] X.env=[(false,eval b X.env)]:=by rfl):
  PI X (.Tuple es kx J5) (.Call (.Name "zip" p) [a,b] [] pos) (IL X.K t):=by
 intro j s σ H R I h;refine Call_ (qN I z A boot_zip (CK (cF (B pos j s σ H _ I h) fun us s1 k=>?_) (by rw[C,f]) (by rw[f];rfl)));obtain⟨vs,l,g,D,E⟩:=k;obtain⟨G,J,e,q⟩:=E;subst e;obtain⟨u,v,rfl,L,M⟩:=vals2 D;cases L;cases M;have m:∀b∈[s1.heap.objs.size+4,s1.heap.objs.size+2,s1.heap.objs.size+3,s1.heap.objs.size,s1.heap.objs.size+1],oz X j l b:=fun b w=>by
  have i:s1.heap.objs.size<=b:=by
   simp only[df,List.not_mem_nil,or_false]at w;rcases w with rfl|rfl|rfl|rfl|rfl<;>omega
  exact g.fpOk i (g.hok.fresh i)
 rcases q with⟨⟨xs,N⟩,⟨ys,O⟩,q⟩|q
 ·obtain⟨Q,rx,x,zx⟩:=g.list N;obtain⟨T,ry,y,zy⟩:=g.list O;obtain⟨o1,n1,U,_⟩:=id x;obtain⟨o2,n2,Y,_⟩:=id y;refine call_zip_2 x.isList y.isList fun n a1 a2 a3 a4 a5 a6 hk=>?_;refine wpAny_pyIter_zip (s:={ s1 with heap:=n }) a1 ?_;have r:∀b o,s1.heap.get? b=some o->n.get? b=some o:=hk;have I2:Inv X j σ l { s1 with heap:=n }:=g.kept (t':=s1.toks) r;exact⟨_,_,_,_,l,rfl,I2,Fp G J _ _ _ _ _ (zipApart_new (bC U) (bC Y)),⟨a1,a2,⟨_,_,a3⟩,a4,a5⟩,m,q⟩
 ·exact q.elim
end
inductive DT where
 |k (a:cz)
 |t (l:List DT)
 |s (l:List DT)
mutual
def IU:(x y:DT)->Decidable (x=y)
 |.k a,.k b=>if h:a=b then Decidable.isTrue (by rw[h])else Decidable.isFalse fun e=>h (by injection e)
 |.t l,.t m=>match decDTs l m with
  |Decidable.isTrue h=>Decidable.isTrue (by rw[h])
  |Decidable.isFalse h=>Decidable.isFalse fun e=>h (by injection e)
 |.s l,.s m=>match decDTs l m with
  |Decidable.isTrue h=>Decidable.isTrue (by rw[h])
  |Decidable.isFalse h=>Decidable.isFalse fun e=>h (by injection e)
 |.k _,.t _=>Decidable.isFalse nofun
 |.k _,.s _=>Decidable.isFalse nofun
 |.t _,.k _=>Decidable.isFalse nofun
 |.t _,.s _=>Decidable.isFalse nofun
 |.s _,.k _=>Decidable.isFalse nofun
 |.s _,.t _=>Decidable.isFalse nofun
def decDTs:(x y:List DT)->Decidable (x=y)
 |[],[]=>Decidable.isTrue rfl
 |[],_::_=>Decidable.isFalse nofun
 |_::_,[]=>Decidable.isFalse nofun
 |a::l,b::m=>match IU a b with
  |Decidable.isTrue h=>match decDTs l m with
   |Decidable.isTrue h'=>Decidable.isTrue (by rw[h,h'])
   |Decidable.isFalse h'=>Decidable.isFalse fun e=>h' (by injection e)
  |Decidable.isFalse h=>Decidable.isFalse fun e=>h (by injection e)
end
instance:DecidableEq DT:=IU
mutual
def DT.depth:DT->Nat
 |.k _=>0
 |.t l=>DT.depths l+1
 |.s l=>DT.depths l+1
def DT.depths:List DT->Nat
 |[]=>0
 |a::r=>max (DT.depth a) (DT.depths r)
end
mutual
def sG(h:Heap):DT->Value->Prop
 |.k a,v=>dq a v=true
 |.t l,v=>∃a items,v=.ref a/\h.IsTuple a items/\DAts h l items.toList
 |.s l,v=>∃a items,v=.ref a/\h.IsList a items/\DAts h l items.toList
def DAts(h:Heap):List DT->List Value->Prop
 |[],vs=>vs=[]
 |k::r,vs=>∃v us,vs=v::us/\sG h k v/\DAts h r us
end
theorem DAts.length{h:Heap}:∀{f:List DT}{a:Zf},DAts h f a->f.length=a.length
 |[],a,e=>by have g:a=[]:=e;rw[g];rfl
 |x::f,a,e=>by
  obtain⟨v,j,rfl,_,i⟩:=e;simp[DAts.length i]
theorem DAts.get{h:Heap}:∀{f:List DT}{a:Zf}{i:Nat}{v:Value},DAts h f a->a[i]?=some v->∃x,f[i]?=some x/\sG h x v
 |[],a,i,v,e,q=>by have g:a=[]:=e;subst g;simp at q
 |x::f,a,i,v,e,q=>by
  obtain⟨u,n,rfl,j,k⟩:=e;cases i with
  |zero =>
   simp at q;subst q;exact⟨x,rfl,j⟩
  |succ i =>
   obtain⟨y,l,m⟩:=DAts.get k (i:=i) (v:=v) (by simpa using q);exact⟨y,by simpa using l,m⟩
theorem DT.depths_get{l:List DT}{x:DT}{i d:Nat}(h:DT.depths l<=d)(e:l[i]?=some x):x.depth<=d:=by
 induction l generalizing i with
 |nil=>simp at e
 |cons a r f =>
  have g:max a.depth (DT.depths r)<=d:=h;cases i with
  |zero=>simp at e;subst e;omega
  |succ i=>exact f (by omega) (by simpa using e)
theorem BR{h:Heap}{a:Addr}{i j:Array Value}(x:h.IsList a i)(y:h.IsList a j):i=j:=by
 obtain⟨o,g,_,n,k⟩:=x;obtain⟨l,e,_,m,f⟩:=y;rw[g]at e;cases e;rw[k]at f;injection f
theorem Am{h:Heap}{a:Addr}{i j:Array Value}(x:h.IsTuple a i)(y:h.IsTuple a j):i=j:=by
 obtain⟨o,g,_,n,k⟩:=x;obtain⟨l,e,_,m,f⟩:=y;rw[g]at e;cases e;rw[k]at f;injection f
theorem j1{h:Heap}{a:Addr}{i j:Array Value}(x:h.IsList a i)(y:h.IsTuple a j):False:=by
 obtain⟨o,g,k,_⟩:=x;obtain⟨l,e,f,_⟩:=y;rw[g]at e;cases e;rw[k]at f;simp at f
theorem wr{a b:cz}{v:Value}(g:dq a v=true)(f:dq b v=true):a=b:=by
 rcases aD g with⟨i,t,rfl,rfl⟩|⟨i,t,rfl,rfl⟩
 ·rcases aD f with⟨j,u,rfl,e⟩|⟨j,u,rfl,e⟩
  ·cases e;rfl
  ·cases e
 ·rcases aD f with⟨j,u,rfl,e⟩|⟨j,u,rfl,e⟩
  ·cases e
  ·cases e;rfl
theorem iT{a:cz}{b:Addr}(h:dq a (.ref b)=true):False:=by
 rcases aD h with⟨_,_,_,e⟩|⟨_,_,_,e⟩<;>cases e
theorem sG.inj{h:Heap}:∀(d:Nat) {x y:DT}{v:Value},x.depth<=d->sG h x v->sG h y v->x=y:=by
 have r:∀(d:Nat) (u:∀{x y:DT}{v:Value},x.depth<=d->sG h x v->sG h y v->x=y) (o n:List DT) (w:Zf),DT.depths o<=d->DAts h o w->DAts h n w->o=n:=by
  intro d u o
  induction o with
  |nil =>
   intro n w _ g f;have A:w=[]:=g;subst A;cases n with
   |nil=>rfl
   |cons y n=>obtain⟨_,_,e,_⟩:=f;cases e
  |cons x o B =>
   intro n w p g f;obtain⟨v,L,rfl,C,D⟩:=g;cases n with
   |nil=>have E:v::L=[]:=f;cases E
   |cons y n =>
    obtain⟨O,M,e,G,H⟩:=f;cases e;have N:max x.depth (DT.depths o)<=d:=p;rw[u (by omega) C G,B n L (by omega) D H]
 intro d
 induction d with
 |zero =>
  intro x y v p g f;cases x with
  |t l=>exact absurd p (by show ¬(DT.depths l+1<=0);omega)
  |s l=>exact absurd p (by show ¬(DT.depths l+1<=0);omega)
  |k a =>
   cases y with
   |k b=>rw[wr g f]
   |t l=>obtain⟨b,_,rfl,_⟩:=f;exact(iT g).elim
   |s l=>obtain⟨b,_,rfl,_⟩:=f;exact(iT g).elim
 |succ d u =>
  intro x y v p g f;cases x with
  |k a =>
   cases y with
   |k b=>rw[wr g f]
   |t l=>obtain⟨b,_,rfl,_⟩:=f;exact(iT g).elim
   |s l=>obtain⟨b,_,rfl,_⟩:=f;exact(iT g).elim
  |t l =>
   obtain⟨a,i,rfl,z,g⟩:=g;cases y with
   |k b=>exact(iT f).elim
   |t m =>
    obtain⟨I,j,e,q,f⟩:=f;cases e;rw[Am q z]at f;rw[r d (fun J=>u J) l m i.toList (by have:DT.depths l+1<=d+1:=p;omega) g f]
   |s m =>
    obtain⟨I,j,e,q,f⟩:=f;cases e;exact(j1 q z).elim
  |s l =>
   obtain⟨a,i,rfl,z,g⟩:=g;cases y with
   |k b=>exact(iT f).elim
   |s m =>
    obtain⟨I,j,e,q,f⟩:=f;cases e;rw[BR q z]at f;rw[r d (fun J=>u J) l m i.toList (by have:DT.depths l+1<=d+1:=p;omega) g f]
   |t m =>
    obtain⟨I,j,e,q,f⟩:=f;cases e;exact(j1 z q).elim
theorem gD{l m:List DT}(g:l.length=m.length):((jm l.length).all fun j=>decide (l[j]?=m[j]?))=decide (l=m):=by
 by_cases e:l=m
 ·subst e;simp
 ·rw[zzr0 e];rw[List.all_eq_false];apply tq;intro h;apply e;apply List.ext_getElem?;intro i;by_cases f:i<l.length
  ·apply tq;intro a;exact h ⟨i,List.mem_range.mpr f,by simpa using a⟩
  ·rw[fO (by omega),fO (by omega)]
section
variable{s:Shared}
theorem IP:∀(d:Nat) {A:Around}{x y:DT}{u v:Value},y.depth<=d->A.units+d<cLine->sG s.heap x u->sG s.heap y v->bq A s u v (decide (x=y)):=by
 have leaves:∀{A:Around}{a b:cz}{u v:Value},dq a u=true->dq b v=true->bq A s u v (decide (DT.k a=DT.k b)):=by
  intro A a b u v D I;have M:decide (DT.k a=DT.k b)=decide (a=b):=by
   by_cases e:a=b
   ·subst e;simp
   ·have:¬(DT.k a=DT.k b):=fun z=>e (by injection z);rw[zzr0 this,zzr0 e]
  rw[M];rcases aD D with⟨i,t,rfl,rfl⟩|⟨i,t,rfl,rfl⟩
  ·rcases aD I with⟨j,u,rfl,rfl⟩|⟨j,u,rfl,rfl⟩
   ·rw[yj];exact bq.int_int i t j u
   ·rw[yi];exact bq.int_str i t j u
  ·rcases aD I with⟨j,u,rfl,rfl⟩|⟨j,u,rfl,rfl⟩
   ·rw[yh];exact bq.str_int i t j u
   ·rw[yg];have:=bq.str_str (A:=A) (s:=s) i t j u;rwa[show(i==j)=decide (i=j)from by by_cases e:i=j<;>simp[e]]at this
 have kt:∀{A:Around}{a:cz}{u:Value}{b:Addr}{items:Array Value},A.units<cLine->dq a u=true->s.heap.IsTuple b items->bq A s u (.ref b) false/\bq A s (.ref b) u false:=by
  intro A a u b items p D C;rcases aD D with⟨i,t,rfl,rfl⟩|⟨i,t,rfl,rfl⟩
  ·exact⟨bq.int_tuple i t C p,bq.tuple_int i t C p⟩
  ·exact⟨bq.str_tuple i t C p,bq.tuple_str i t C p⟩
 have N:∀{A:Around}{a:cz}{u:Value}{b:Addr}{items:Array Value},A.units<cLine->dq a u=true->s.heap.IsList b items->bq A s u (.ref b) false/\bq A s (.ref b) u false:=by
  intro A a u b items p D C;rcases aD D with⟨i,t,rfl,rfl⟩|⟨i,t,rfl,rfl⟩
  ·exact⟨bq.int_list i t C p,bq.list_int i t C p⟩
  ·exact⟨bq.str_list i t C p,bq.list_str i t C p⟩
 intro d
 induction d with
 |zero =>
  intro A x y u v w p g f;cases y with
  |t l=>exact absurd w (by show ¬(DT.depths l+1<=0);omega)
  |s l=>exact absurd w (by show ¬(DT.depths l+1<=0);omega)
  |k b =>
   cases x with
   |t l =>
    obtain⟨a,i,rfl,h,_⟩:=g;rw[zzr0 (by intro z;cases z)];exact(kt (by omega) f h).2
   |s l =>
    obtain⟨a,i,rfl,h,_⟩:=g;rw[zzr0 (by intro z;cases z)];exact(N (by omega) f h).2
   |k a=>exact leaves g f
 |succ d U =>
  intro A x y u v w p g f;have items:∀{l m:List DT}{i j:Array Value},DT.depths m<=d->DAts s.heap l i.toList->DAts s.heap m j.toList->∀n (D:n<i.size) (I:n<j.size),bq A.in1 s i[n] j[n] (decide (l[n]?=m[n]?)):=by
   intro l m i j J h B n D I;obtain⟨x,ex,g⟩:=h.get (i:=n) (v:=i[n]) (by simp[D]);obtain⟨y,T,f⟩:=B.get (i:=n) (v:=j[n]) (by simp[I]);rw[ex,T];have M:decide ((some x:Option DT)=some y)=decide (x=y):=by
    by_cases e:x=y
    ·subst e;simp
    ·rw[zzr0 e,zzr0 fun z=>e (fu z)]
   rw[M];exact U (DT.depths_get J T) (by show A.units+1+d<cLine;omega) g f
  cases x with
  |k a =>
   cases y with
   |k b=>exact leaves g f
   |t l =>
    obtain⟨b,i,rfl,h,_⟩:=f;rw[zzr0 (by intro z;cases z)];exact(kt (by omega) g h).1
   |s l =>
    obtain⟨b,i,rfl,h,_⟩:=f;rw[zzr0 (by intro z;cases z)];exact(N (by omega) g h).1
  |t l =>
   have E:=g;obtain⟨a,i,rfl,h,g⟩:=g;cases y with
   |k b =>
    rw[zzr0 (by intro z;cases z)];exact(kt (by omega) f h).2
   |s m =>
    obtain⟨b,j,rfl,B,_⟩:=f;rw[zzr0 (by intro z;cases z)];exact bq.tuple_list h B (by omega)
   |t m =>
    have J:DT.depths m<=d:=by have:DT.depths m+1<=d+1:=w;omega
    have G:=f;obtain⟨b,j,rfl,B,f⟩:=f;by_cases o:a=b
    ·subst o;have e:DT.t l=DT.t m:=sG.inj _ (aG _) E G;rw[zzr1 e];exact bq.same _
    ·have r:=SeqAt.RcAt.tuples (A:=A) h B (by omega) (items J g f);have L:=g.length;have O:=f.length;simp only[mZ]at L O;have q:((jm (min i.size j.size)).all (fun n=>decide (l[n]?=m[n]?)) && i.size==j.size)=decide (DT.t l=DT.t m):=by
      by_cases e:l.length=m.length
      ·have Q:i.size=j.size:=by omega
       rw[<-Q,Nat.min_self,<-L,gD e];by_cases H:l=m
       ·subst H;simp
       ·have:¬(DT.t l=DT.t m):=fun z=>H (by injection z);rw[zzr0 this,zzr0 H];rfl
      ·have Q:(i.size==j.size)=false:=by simp;omega
       have:¬(DT.t l=DT.t m):=fun z=>e (by injection z with z;rw[z]);rw[Q,zzr0 this,xv]
     rw[q]at r;exact .of_refs o r
  |s l =>
   have E:=g;obtain⟨a,i,rfl,h,g⟩:=g;cases y with
   |k b =>
    rw[zzr0 (by intro z;cases z)];exact(N (by omega) f h).2
   |t m =>
    obtain⟨b,j,rfl,B,_⟩:=f;rw[zzr0 (by intro z;cases z)];exact bq.list_tuple h B (by omega)
   |s m =>
    have J:DT.depths m<=d:=by have:DT.depths m+1<=d+1:=w;omega
    have G:=f;obtain⟨b,j,rfl,B,f⟩:=f;by_cases o:a=b
    ·subst o;have e:DT.s l=DT.s m:=sG.inj _ (aG _) E G;rw[zzr1 e];exact bq.same _
    ·have L:=g.length;have O:=f.length;simp only[mZ]at L O;by_cases e:l.length=m.length
     ·have r:=SeqAt.RcAt.lists (A:=A) h B (by omega) (by omega) (items J g f);rw[<-L,gD e]at r;have q:decide (l=m)=decide (DT.s l=DT.s m):=by
       by_cases H:l=m
       ·subst H;simp
       ·have:¬(DT.s l=DT.s m):=fun z=>H (by injection z);rw[zzr0 this,zzr0 H]
      rw[q]at r;exact .of_refs o r
     ·have:¬(DT.s l=DT.s m):=fun z=>e (by injection z with z;rw[z]);rw[zzr0 this];exact .of_refs o (SeqAt.RcAt.lists_lengths h B (by simp;omega) (by omega))
end
theorem Ds(a b:cz):decide (DT.k a=DT.k b)=decide (a=b):=by
 by_cases e:a=b
 ·subst e;simp
 ·rw[zzr0 e,zzr0 fun z=>e (by injection z)]
theorem IR(l m:List DT):decide (DT.t l=DT.t m)=decide (l=m):=by
 by_cases e:l=m
 ·subst e;simp
 ·rw[zzr0 e,zzr0 fun z=>e (by injection z)]
theorem IS(l m:List DT):decide (DT.s l=DT.s m)=decide (l=m):=by
 by_cases e:l=m
 ·subst e;simp
 ·rw[zzr0 e,zzr0 fun z=>e (by injection z)]
theorem GJ(x y:DT):decide ((some x:Option DT)=some y)=decide (x=y):=by
 by_cases e:x=y
 ·subst e;simp
 ·rw[zzr0 e,zzr0 fun z=>e (fu z)]
section
variable{A:Around}{s:Shared}
theorem pJ{d:Nat}(g:A.units+1+d<cLine){l m:List DT}{i j:Array Value}(h:DT.depths m<=d)(k:DAts s.heap l i.toList)(o:DAts s.heap m j.toList):
  ∀n (a:n<i.size) (e:n<j.size),bq A.in1 s i[n] j[n] (decide (l[n]?=m[n]?)):=by
 intro n a e;obtain⟨x,ex,p⟩:=k.get (i:=n) (v:=i[n]) (by simp[a]);obtain⟨y,f,q⟩:=o.get (i:=n) (v:=j[n]) (by simp[e]);rw[ex,f,GJ];exact IP d (DT.depths_get h f) g p q
theorem CS{l m:List DT}{i j:Array Value}(g:DAts s.heap l i.toList)(h:DAts s.heap m j.toList):((jm (min i.size j.size)).all (fun n=>decide (l[n]?=m[n]?)) && i.size==j.size)=decide (l=m):=by
 have f:=g.length;have k:=h.length;simp only[mZ]at f k;by_cases e:l.length=m.length
 ·have a:i.size=j.size:=by omega
  rw[<-a,Nat.min_self,<-f,gD e];simp
 ·have a:(i.size==j.size)=false:=by simp;omega
  rw[a,zzr0 fun z=>e (by rw[z]),xv]
theorem JY{x y:DT}{u v:Value}(q:y.depth<=14)(C:A.units+16<cLine)(o:sG s.heap x u)(f:sG s.heap y v):SeqAt.RcAt A s u v (decide (x=y)):=by
 cases x with
 |k a =>
  rcases aD (show dq a u=true from o)with⟨i,t,rfl,rfl⟩|⟨i,t,rfl,rfl⟩
  ·cases y with
   |k b =>
    rw[Ds];rcases aD (show dq b v=true from f)with⟨j,h,rfl,rfl⟩|⟨j,h,rfl,rfl⟩
    ·rw[yj];exact SeqAt.RcAt.int_int i t j h
    ·rw[yi];exact SeqAt.RcAt.int_str i t j h
   |t m=>obtain⟨b,j,rfl,g,_⟩:=f;rw[zzr0 (by intro z;cases z)];exact SeqAt.RcAt.int_tuple i t g (by omega)
   |s m=>obtain⟨b,j,rfl,g,_⟩:=f;rw[zzr0 (by intro z;cases z)];exact SeqAt.RcAt.int_list i t g (by omega)
  ·cases y with
   |k b =>
    rw[Ds];rcases aD (show dq b v=true from f)with⟨j,h,rfl,rfl⟩|⟨j,h,rfl,rfl⟩
    ·rw[yh];exact SeqAt.RcAt.str_int i t j h
    ·rw[yg];have:=SeqAt.RcAt.str_str (A:=A) (s:=s) i t j h;rwa[show(i==j)=decide (i=j)from by by_cases e:i=j<;>simp[e]]at this
   |t m=>obtain⟨b,j,rfl,g,_⟩:=f;rw[zzr0 (by intro z;cases z)];exact SeqAt.RcAt.str_tuple i t g (by omega)
   |s m=>obtain⟨b,j,rfl,g,_⟩:=f;rw[zzr0 (by intro z;cases z)];exact SeqAt.RcAt.str_list i t g (by omega)
 |t l =>
  obtain⟨a,i,rfl,n,o⟩:=o;cases y with
  |k b =>
   rw[zzr0 (by intro z;cases z)];rcases aD (show dq b v=true from f)with⟨j,h,rfl,rfl⟩|⟨j,h,rfl,rfl⟩
   ·exact SeqAt.RcAt.tuple_int j h n (by omega)
   ·exact SeqAt.RcAt.tuple_str j h n (by omega)
  |t m =>
   obtain⟨b,j,rfl,g,f⟩:=f;have p:DT.depths m<=13:=by have:DT.depths m+1<=14:=q;omega
   have r:=SeqAt.RcAt.tuples (A:=A) n g (by omega) (pJ (by omega) p o f);rw[CS o f]at r;rw[IR];exact r
  |s m=>obtain⟨b,j,rfl,g,_⟩:=f;rw[zzr0 (by intro z;cases z)];exact SeqAt.RcAt.tuple_list n g (by omega)
 |s l =>
  obtain⟨a,i,rfl,n,o⟩:=o;cases y with
  |k b =>
   rw[zzr0 (by intro z;cases z)];rcases aD (show dq b v=true from f)with⟨j,h,rfl,rfl⟩|⟨j,h,rfl,rfl⟩
   ·exact SeqAt.RcAt.list_int j h n (by omega)
   ·exact SeqAt.RcAt.list_str j h n (by omega)
  |t m=>obtain⟨b,j,rfl,g,_⟩:=f;rw[zzr0 (by intro z;cases z)];exact SeqAt.RcAt.list_tuple n g (by omega)
  |s m =>
   obtain⟨b,j,rfl,g,f⟩:=f;have p:DT.depths m<=13:=by have:DT.depths m+1<=14:=q;omega
   have w:=o.length;have B:=f.length;simp only[mZ]at w B;rw[IS];by_cases e:l.length=m.length
   ·have r:=SeqAt.RcAt.lists (A:=A) n g (by omega) (by omega) (pJ (by omega) p o f);rw[<-w,gD e]at r;exact r
   ·rw[zzr0 fun z=>e (by rw[z])];exact SeqAt.RcAt.lists_lengths n g (by simp;omega) (by omega)
theorem JZ{x y:DT}{u v:Value}(q:y.depth<=14)(C:A.units+16<cLine)(o:sG s.heap x u)(f:sG s.heap y v):SeqAt.RcNeAt A s u v (!decide (x=y)):=by
 cases x with
 |k a =>
  rcases aD (show dq a u=true from o)with⟨i,t,rfl,rfl⟩|⟨i,t,rfl,rfl⟩
  ·cases y with
   |k b =>
    rw[Ds];rcases aD (show dq b v=true from f)with⟨j,h,rfl,rfl⟩|⟨j,h,rfl,rfl⟩
    ·rw[yj];exact SeqAt.RcNeAt.int_int i t j h
    ·rw[yi];exact SeqAt.RcNeAt.int_str i t j h
   |t m=>obtain⟨b,j,rfl,g,_⟩:=f;rw[zzr0 (by intro z;cases z)];exact SeqAt.RcNeAt.int_tuple i t g (by omega)
   |s m=>obtain⟨b,j,rfl,g,_⟩:=f;rw[zzr0 (by intro z;cases z)];exact SeqAt.RcNeAt.int_list i t g (by omega)
  ·cases y with
   |k b =>
    rw[Ds];rcases aD (show dq b v=true from f)with⟨j,h,rfl,rfl⟩|⟨j,h,rfl,rfl⟩
    ·rw[yh];exact SeqAt.RcNeAt.str_int i t j h
    ·rw[yg];have:=SeqAt.RcNeAt.str_str (A:=A) (s:=s) i t j h;rwa[show(i==j)=decide (i=j)from by by_cases e:i=j<;>simp[e]]at this
   |t m=>obtain⟨b,j,rfl,g,_⟩:=f;rw[zzr0 (by intro z;cases z)];exact SeqAt.RcNeAt.str_tuple i t g (by omega)
   |s m=>obtain⟨b,j,rfl,g,_⟩:=f;rw[zzr0 (by intro z;cases z)];exact SeqAt.RcNeAt.str_list i t g (by omega)
 |t l =>
  obtain⟨a,i,rfl,n,o⟩:=o;cases y with
  |k b =>
   rw[zzr0 (by intro z;cases z)];rcases aD (show dq b v=true from f)with⟨j,h,rfl,rfl⟩|⟨j,h,rfl,rfl⟩
   ·exact SeqAt.RcNeAt.tuple_int j h n (by omega)
   ·exact SeqAt.RcNeAt.tuple_str j h n (by omega)
  |t m =>
   obtain⟨b,j,rfl,g,f⟩:=f;have p:DT.depths m<=13:=by have:DT.depths m+1<=14:=q;omega
   have r:=SeqAt.RcNeAt.tuples (A:=A) n g (by omega) (pJ (by omega) p o f);rw[CS o f]at r;rw[IR];exact r
  |s m=>obtain⟨b,j,rfl,g,_⟩:=f;rw[zzr0 (by intro z;cases z)];exact SeqAt.RcNeAt.tuple_list n g (by omega)
 |s l =>
  obtain⟨a,i,rfl,n,o⟩:=o;cases y with
  |k b =>
   rw[zzr0 (by intro z;cases z)];rcases aD (show dq b v=true from f)with⟨j,h,rfl,rfl⟩|⟨j,h,rfl,rfl⟩
   ·exact SeqAt.RcNeAt.list_int j h n (by omega)
   ·exact SeqAt.RcNeAt.list_str j h n (by omega)
  |t m=>obtain⟨b,j,rfl,g,_⟩:=f;rw[zzr0 (by intro z;cases z)];exact SeqAt.RcNeAt.list_tuple n g (by omega)
  |s m =>
   obtain⟨b,j,rfl,g,f⟩:=f;have p:DT.depths m<=13:=by have:DT.depths m+1<=14:=q;omega
   have w:=o.length;have B:=f.length;simp only[mZ]at w B;rw[IS];by_cases e:l.length=m.length
   ·have r:=SeqAt.RcNeAt.lists (A:=A) n g (by omega) (by omega) (pJ (by omega) p o f);rw[<-w,gD e]at r;exact r
   ·rw[zzr0 fun z=>e (by rw[z])];exact SeqAt.RcNeAt.lists_lengths n g (by simp;omega) (by omega)
end
mutual
def lc(K:Za)(H:Hp):DT->V->Prop
 |.k a,v=>v=kV a
 |.t l,v=>∃b xs,v=.ref b/\be K H b xs/\DIns K H l xs
 |.s l,v=>∃b xs,v=.ref b/\ay K H b xs/\DIns K H l xs
def DIns(K:Za)(H:Hp):List DT->List V->Prop
 |[],vs=>vs=[]
 |k::r,vs=>∃v us,vs=v::us/\lc K H k v/\DIns K H r us
end
section
variable{X:Cx}{J2:Zd}{σ:St}{H:Hp}{s:Shared}
theorem n8(I:Inv X J2 σ H s):∀(d:Nat) {k:DT}{v:V}{u:Value},k.depth<=d->lc X.K H k v->RelV v u->sG s.heap k u:=by
 have i:∀(d:Nat) (j:∀{k:DT}{v:V}{u:Value},k.depth<=d->lc X.K H k v->RelV v u->sG s.heap k u) (g:List DT) (m:List V) (p:Zf),DT.depths g<=d->DIns X.K H g m->bg m p->DAts s.heap g p:=by
  intro d j g
  induction g with
  |nil =>
   intro m p _ f r;have e:m=[]:=f;subst e;cases r
   rfl
  |cons k g q =>
   intro m p h f r;obtain⟨v,x,rfl,n,D⟩:=f;cases r with
   |@cons _ u _ o E G =>
    have J:max k.depth (DT.depths g)<=d:=h;exact⟨u,o,rfl,j (by omega) n E,q x o (by omega) D G⟩
 intro d
 induction d with
 |zero =>
  intro k v u h f r;cases k with
  |t l=>exact absurd h (by show ¬(DT.depths l+1<=0);omega)
  |s l=>exact absurd h (by show ¬(DT.depths l+1<=0);omega)
  |k b =>
   have e:v=kV b:=f;subst e;exact nj (P:=X.prog) (w:=X.w) r
 |succ d j =>
  intro k v u h f r;cases k with
  |k b =>
   have e:v=kV b:=f;subst e;exact nj (P:=X.prog) (w:=X.w) r
  |t l =>
   obtain⟨b,y,rfl,z,A⟩:=f;cases(show u=Value.ref b from r);obtain⟨a,B,C,_⟩:=I.tuple z;exact⟨b,a.toArray,rfl,C,by simpa using i d (fun n=>j n) l y a (by have:DT.depths l+1<=d+1:=h;omega) A B⟩
  |s l =>
   obtain⟨b,y,rfl,z,A⟩:=f;cases(show u=Value.ref b from r);obtain⟨a,B,C,_⟩:=I.list z;exact⟨b,a.toArray,rfl,C.isList,by simpa using i d (fun n=>j n) l y a (by have:DT.depths l+1<=d+1:=h;omega) A B⟩
theorem pK(I:Inv X J2 σ H s):∀{a:List DT}{f:List V}{g:Zf},DT.depths a<=8->DIns X.K H a f->bg f g->DAts s.heap a g
 |[],f,g,_,h,r=>by
  have e:f=[]:=h;subst e;cases r
  rfl
 |k::a,f,g,j,h,r=>by
  obtain⟨v,l,rfl,m,n⟩:=h;cases r with
  |@cons _ u _ i o p =>
   have q:max k.depth (DT.depths a)<=8:=j;exact⟨u,i,rfl,n8 I 8 (by omega) m o,pK I (by omega) n p⟩
end
def lP(K:Za):R2:=fun x y H Q=>∃d e:DT,lc K H d x/\lc K H e y/\d.depth<=8/\e.depth<=8/\Q (.bl (decide (d=e))) H
def nV(K:Za):R2:=fun x y H Q=>∃d e:DT,lc K H d x/\lc K H e y/\d.depth<=8/\e.depth<=8/\Q (.bl (!decide (d=e))) H
section
variable{X:Cx}
theorem gv(f:X.A.units+16<cLine):oI X (fq .Eq) (lP X.K):=by
 intro m s σ H x y v u Q I g i h;obtain⟨d,e,j,k,l,a,q⟩:=h;exact JY (bB a (by decide)) f (n8 I 8 l j g) (n8 I 8 a k i) X.prog X.w X.xe _ ⟨.bl _,H,I,rfl,q⟩
theorem i8(f:X.A.units+16<cLine):oI X (fq .NotEq) (nV X.K):=by
 intro m s σ H x y v u Q I g i h;obtain⟨d,e,j,k,l,a,q⟩:=h;exact JZ (bB a (by decide)) f (n8 I 8 l j g) (n8 I 8 a k i) X.prog X.w X.xe _ ⟨.bl _,H,I,rfl,q⟩
def ph(K:Za)(neg:Bool):R2:=fun x y H Q=>∃(d:DT) (ds:List DT) (p:Addr) (xs:List V),lc K H d x/\y=.ref p/\(ay K H p xs∨be K H p xs)/\DIns K H ds xs/\d.depth<=8/\DT.depths ds<=8/\Q (.bl (if neg then !decide (d∈ds)else decide (d∈ds))) H
open Classical in
theorem pP{h:Heap}{d:DT}(g:d.depth<=8):∀{a:List DT}{f:Zf},DAts h a f->DT.depths a<=8->f.any (fun u=>@decide (sG h d u) (propDecidable _))=decide (d∈a)
 |[],f,e,_=>by
  have j:f=[]:=e;subst j
  rfl
 |x::a,f,e,k=>by
  obtain⟨u,l,rfl,i,m⟩:=e;have o:max x.depth (DT.depths a)<=8:=k;rw[kh,pP g m (by omega)];by_cases q:d=x
  ·subst q;simp[i]
  ·have n:¬sG h d u:=fun z=>q (sG.inj 8 g z i);simp[n,q]
open Classical in
theorem uv{A:Around}{s:Shared}{d:DT}{v:Value}(g:d.depth<=8)(i:A.units+8<cLine)(j:sG s.heap d v):∀{f:List DT}{a:Zf},DAts s.heap f a->DT.depths f<=8->∀u∈a,bq A s u v (@decide (sG s.heap d u) (propDecidable _))
 |[],a,e,_,u,hm=>by
  have k:a=[]:=e;subst k;cases hm
 |x::f,a,e,l,u,hm=>by
  obtain⟨r,m,rfl,h,o⟩:=e;have p:max x.depth (DT.depths f)<=8:=l;rcases df.mp hm with rfl|hm
  ·have q:=IP 8 (A:=A) g i h j;by_cases z:x=d
   ·subst z;rw[zzr1 h];rwa[zzr1 rfl]at q
   ·have n:¬sG s.heap d u:=fun w=>z (sG.inj 8 g w h).symm;rw[zzr0 n];rwa[zzr0 z]at q
  ·exact uv g i j o (by omega) u hm
theorem BF(B:X.A.units+16<cLine):oI X (fq .In) (ph X.K false):=by
 intro C s σ H x y v u Q I n o h;obtain⟨d,D,p,E,t,rfl,hq,e,f,a,q⟩:=h;cases o;have m:=n8 I 8 f t n;have g:X.A.in1.units+8<cLine:=by show X.A.units+1+8<cLine;omega
 rcases hq with hq|hq
 ·obtain⟨j,r,k,z⟩:=I.list hq;have i:=pK I a e r;refine SeqAt.in_listAt _ k.isList (fun w l=>uv f g m i a w (by simpa using l)) ⟨.bl _,H,I,rfl,?_⟩;rw[xk,pP f i a];exact q
 ·obtain⟨j,r,k,z⟩:=I.tuple hq;have i:=pK I a e r;refine SeqAt.in_tupleAt _ k (fun w l=>uv f g m i a w (by simpa using l)) ⟨.bl _,H,I,rfl,?_⟩;rw[xk,pP f i a];exact q
theorem gU(B:X.A.units+16<cLine):oI X (fq .NotIn) (ph X.K true):=by
 intro C s σ H x y v u Q I n o h;obtain⟨d,D,p,E,t,rfl,hq,e,f,a,q⟩:=h;cases o;have m:=n8 I 8 f t n;have g:X.A.in1.units+8<cLine:=by show X.A.units+1+8<cLine;omega
 rcases hq with hq|hq
 ·obtain⟨j,r,k,z⟩:=I.list hq;have i:=pK I a e r;refine SeqAt.notIn_listAt _ k.isList (fun w l=>uv f g m i a w (by simpa using l)) ⟨.bl _,H,I,rfl,?_⟩;rw[xk,pP f i a];exact q
 ·obtain⟨j,r,k,z⟩:=I.tuple hq;have i:=pK I a e r;refine SeqAt.notIn_tupleAt _ k (fun w l=>uv f g m i a w (by simpa using l)) ⟨.bl _,H,I,rfl,?_⟩;rw[xk,pP f i a];exact q
end
def uH(z:Str)(lo hi:Option Int):Str:=⟨((z.cps.toList.drop (HT.sIx z.length 0 lo)).take (HT.sIx z.length z.length hi-HT.sIx z.length 0 lo)).toArray⟩
theorem sliceRange_one(a b:Nat):sliceRange (a:Int) (b:Int) 1=(jm (b-a)).map (fun k=>a+k):=by
 unfold sliceRange;simp only[show(1:Int) > 0 from by decide,if_true];by_cases h:(a:Int)<(b:Int)
 ·have e:(if(a:Int)<(b:Int)then((b:Int)-a+1-1) / 1 else 0).toNat=b-a:=by rw[if_pos h];omega
  rw[e];exact xj fun k _=>by omega
 ·have e:(if(a:Int)<(b:Int)then((b:Int)-a+1-1) / 1 else 0).toNat=b-a:=by rw[if_neg h];omega
  rw[e];exact xj fun k _=>by omega
theorem Az(v:Option Int)(n d:Nat):(match v with|none=>(d:Int)|some i=>max 0 (min (if i<0 then i+(n:Int)else i) (n:Int)))=((HT.sIx n d v:Nat):Int):=by
 cases v with
 |none=>rfl
 |some i =>
  rw[<-HT.clip_eq i n d];dsimp only;by_cases h:i<0
  ·rw[if_pos h,if_pos h];omega
  ·rw[if_neg h,if_neg h];omega
theorem o9(lo a:Option Int)(n:Nat):tm lo a 1 n=(jm (HT.sIx n n a-HT.sIx n 0 lo)).map (fun k=>HT.sIx n 0 lo+k):=by
 have e:=Az lo n 0;have f:=Az a n n;rw[<-sliceRange_one,<-e,<-f];unfold tm;simp only[show(1:Int) > 0 from by decide,if_true];cases lo<;>cases a<;>rfl
theorem DV(z:Str)(lo e:Option Int):Txt.slice z lo e=uH z lo e:=by
 have l:HT.sIx z.length 0 lo<=z.length:=HT.sIx_le _ _ (c_ _) _;have m:HT.sIx z.length z.length e<=z.length:=HT.sIx_le _ _ (aG _) _;have g:z.cps.toList.length=z.length:=by simp[Str.length]
 have f:(tm lo e 1 z.length).filterMap (z.cps[·]?)=(z.cps.toList.drop (HT.sIx z.length 0 lo)).take (HT.sIx z.length z.length e-HT.sIx z.length 0 lo):=by
  rw[o9];generalize HT.sIx z.length 0 lo=a at *;generalize HT.sIx z.length z.length e=b at *;have h:=StrLaws.picks z.cps.toList (b-a) a (by omega);simpa using h
 unfold Txt.slice;by_cases h:((1:Int)==1 && (tm lo e 1 z.length).length==z.length)=true
 ·rw[if_pos h];have i:(tm lo e 1 z.length).length=z.length:=by simpa using h
  rw[o9,aj,tj]at i;unfold uH;have j:HT.sIx z.length 0 lo=0:=by omega
  have k:HT.sIx z.length z.length e-HT.sIx z.length 0 lo=z.cps.toList.length:=by omega
  rw[k,j,ke,bb]
 ·rw[if_neg h];unfold uH;rw[f]
section
variable{X:Cx}
def Eg:V->Option Int->Option Int->Hp->VK->Prop:=fun x lo hi H Q=>∃z,x=.str z/\z.length<=ak/\Q (.str (uH z lo hi)) H
theorem xV:IW X Eg:=by
 intro g s σ H x v m n lo p r Q I y B C f h;obtain⟨z,rfl,D,q⟩:=h;obtain⟨t,rfl⟩:=y;rw[<-DV]at q;refine⟨"str",_,F.slot_str_getitem.lookup,typeIs_str _ _ _,?_⟩;obtain⟨o,E,G,J⟩:=B;have a:∀(l u:Option (Int×Tok)),m=partValue l->n=partValue u->lo=l.map (·.1)->p=u.map (·.1)->wpAny (model X.prog X.w) X.A (nH (.str z t) (.ref r)) (EP X g σ Q) X.xe s:=by
  rintro l u rfl rfl rfl rfl;refine wpAny_getItem_str_slice (l:=l) (u:=u) (st:=none) ⟨o,E,G,J⟩ rfl (post_val_or_str ⟨bB (Txt.slice_le z _ _) D,fun e k=>⟨.str _,H,I.tok _,⟨_,rfl⟩,q⟩⟩)
 cases C with
 |none =>
  cases f with
  |none=>exact a none none rfl rfl rfl rfl
  |int j u=>exact a none (some (j,u)) rfl rfl rfl rfl
 |int i e =>
  cases f with
  |none=>exact a (some (i,e)) none rfl rfl rfl rfl
  |int j u=>exact a (some (i,e)) (some (j,u)) rfl rfl rfl rfl
theorem Ja:IW X (fun x lo a H Q=>pf X.K x lo a H Q∨Eg x lo a H Q):=fJ.or xV
def IF(K:Za):V->List V->Hp->VK->Prop:=fun x vs H Q=>∃z p ys,x=.str z/\vs=[.ref p]/\ay K H p (ys.map V.str)/\(ys.map (·.length)).sum+ys.length * z.length<=16777216/\Q (.str (xi z ys)) H
theorem Hs{a:Zb}:∀{us:Zf},bg (a.map V.str) us->StrsAre us a:=by
 induction a with
 |nil=>intro us r;cases r;exact .nil
 |cons y a e =>
  intro us r;cases r with
  |cons f g =>
   obtain⟨t,rfl⟩:=f;exact .cons _ _ (e g)
theorem HW:JA X "str.join" (IF X.K):=by
 intro m s σ H x n v o Q I a e h;obtain⟨z,p,w,rfl,rfl,f,g,q⟩:=h;obtain⟨t,rfl⟩:=a;obtain⟨u,rfl,i⟩:=e.one;cases i;obtain⟨j,r,l,_⟩:=I.list f;exact join_list l.isList (by simpa using Hs r) g fun y k=>⟨.str _,H,I.tok _,⟨_,rfl⟩,q⟩
end
section
variable{X:Cx}
def TyX(K:Za)(H:Hp)(x:V)(t:Value):Prop:=j7 K H x t∨(∃a xs,x=.ref a/\t=.type "tuple"/\be K H a xs)∨(∃a xs,x=.ref a/\t=.type "list"/\ay K H a xs)
theorem BQ{k:Zd}{σ:St}{H:Hp}{s:Shared}{A:Around}{E:Zc}{Q:Zc}{c:Value}{b:Bool}{x:V}{u t:Value}(I:Inv X k σ H s)(f:RelV x u)(ty:TyX X.K H x t)(e:CF X.K t c=some b)(h:∀tk,Q (.bool b) { s with toks:=tk }):
  wpAny (model X.prog X.w) A (call (.builtin "isinstance") [u,c]) Q E s:=by
 rcases ty with ty|⟨a,l,rfl,rfl,q⟩|⟨a,l,rfl,rfl,q⟩
 ·exact Ez I f ty e h
 ·cases(show u=Value.ref a from f);obtain⟨g,m,p,r⟩:=I.tuple q;obtain⟨o,i,j,_⟩:=p;exact jN PySem.W.kitx_tuple I.kIn ⟨o,i,j⟩ e (fun z=>nomatch z) h
 ·cases(show u=Value.ref a from f);obtain⟨g,m,p,r⟩:=I.list q;obtain⟨o,n,i,j,_⟩:=p;exact jN PySem.W.kitx_list I.kIn ⟨o,i,j⟩ e (fun z=>nomatch z) h
theorem j5:fZ X (.builtin "isinstance") (fun a H Q=>∃x c t b,a=[x,.ty c]/\TyX X.K H x t/\CF X.K t (.type c)=some b/\Q (.bl b) H):=by
 intro i s σ H a j Q I r h;obtain⟨x,c,t,b,rfl,ty,e,q⟩:=h;obtain⟨u,v,rfl,f,g⟩:=vals2 r;cases(show v=Value.type c from g);exact BQ I f ty e fun tk=>⟨.bl b,H,I.tok _,rfl,q⟩
theorem GR{bs:List Bool}{a:Zf}(r:bg (bs.map V.bl) a){i:Nat}{v:Value}(h:a[i]?=some v):v=.bool ((bs[i]?).getD false)/\i<bs.length:=by
 have k:i<a.length:=(bY.mp h).1;have g:=r.length;rw[aj]at g;have e:i<bs.length:=by omega
 obtain⟨u,f,j⟩:=r.get (i:=i) (x:=V.bl bs[i]) (by simp[e]);rw[h]at f;cases f;refine⟨?_,e⟩;rw[b_ e];exact j
theorem yG(bs:List Bool):((jm bs.length).all fun i=>(bs[i]?).getD false)=bs.all id:=by
 induction bs with
 |nil=>rfl
 |cons b bs a =>
  rw[fo,List.range_succ_eq_map,List.all_cons,List.all_map,List.all_cons,<-a]
  rfl
theorem yF(bs:List Bool):((jm bs.length).any fun i=>(bs[i]?).getD false)=bs.any id:=by
 induction bs with
 |nil=>rfl
 |cons b bs a =>
  rw[fo,List.range_succ_eq_map,kh,List.any_map,kh,<-a]
  rfl
theorem rL(m:X.calm=true):fZ X (.builtin "all") (fun j H Q=>∃(p:Addr) (bs:List Bool),j=[.ref p]/\ay X.K H p (bs.map V.bl)/\Q (.bl (bs.all id)) H):=by
 intro t s σ H j G Q I r h;obtain⟨p,bs,rfl,x,q⟩:=h;obtain⟨u,rfl,y⟩:=vals1 r;cases y;obtain⟨a,k,f,J⟩:=I.list x;obtain⟨o,n,z,_⟩:=id f;have l:=k.length;rw[aj]at l;refine call_all_walk (yV f.isList ?_);refine⟨s.heap.objs.size,_,_,_,_,_,fun i=>(bs[i]?).getD false,rfl,Walks.list (prog:=X.prog) (w:=X.w) (A:=X.A.in1) (I.ok.hd m) s.heap.objs.size p (dg (bC z)) a.toArray,⟨⟨_,dL _ rfl,rfl,rfl⟩,f.isList.push _⟩,?_,?_⟩
 ·intro i v L M N B g;obtain⟨e,_⟩:=GR k (i:=i) (v:=v) (by simpa using B);rw[e];exact sX g
 ·intro C tk D;have E:Inv X t σ H { s with heap:=C,toks:=tk }:=I.kept fun b o e=>D b o (by simp;exact dg (bC e)) (cx _ e);rw[bQ,<-l,yG];exact⟨.bl _,H,E,rfl,q⟩
theorem AB(m:X.calm=true):fZ X (.builtin "any") (fun j H Q=>∃(p:Addr) (bs:List Bool),j=[.ref p]/\ay X.K H p (bs.map V.bl)/\Q (.bl (bs.any id)) H):=by
 intro t s σ H j G Q I r h;obtain⟨p,bs,rfl,x,q⟩:=h;obtain⟨u,rfl,y⟩:=vals1 r;cases y;obtain⟨a,k,f,J⟩:=I.list x;obtain⟨o,n,z,_⟩:=id f;have l:=k.length;rw[aj]at l;refine call_any_walk (yV f.isList ?_);refine⟨s.heap.objs.size,_,_,_,_,_,fun i=>(bs[i]?).getD false,rfl,Walks.list (prog:=X.prog) (w:=X.w) (A:=X.A.in1) (I.ok.hd m) s.heap.objs.size p (dg (bC z)) a.toArray,⟨⟨_,dL _ rfl,rfl,rfl⟩,f.isList.push _⟩,?_,?_⟩
 ·intro i v L M N B g;obtain⟨e,_⟩:=GR k (i:=i) (v:=v) (by simpa using B);rw[e];exact sX g
 ·intro C tk D;have E:Inv X t σ H { s with heap:=C,toks:=tk }:=I.kept fun b o e=>D b o (by simp;exact dg (bC e)) (cx _ e);rw[bQ,<-l,yF];exact⟨.bl _,H,E,rfl,q⟩
theorem BE:oI X (fq .In) (fun x y H Q=>∃c j,x=.str ⟨#[c]⟩/\y=.str j/\Q (.bl (decide (c∈j.cps.toList))) H):=by
 intro a s σ H x y v u Q I e f h;obtain⟨c,j,rfl,rfl,q⟩:=h;rw[<-StrLaws.found_one]at q;exact En a s σ H _ _ v u Q I e f ⟨_,_,rfl,rfl,q⟩
theorem uN(T:X.calm=true):fZ X (.type "list") (fun M H Q=>∃(d:Addr) (f:List (cz×V)),M=[.ref d]/\Rd H d (.dK f)/\∀l,H l=none->Q (.ref l) (upd H l (.lst (f.map fun g=>kV g.1)))):=by
 intro J2 s σ H M us Q I r h;obtain⟨d,f,rfl,U,q⟩:=h;obtain⟨u,rfl,Y⟩:=vals1 r;cases Y;obtain⟨z,n,N,y,dd⟩:=nv I.hok U;obtain⟨ep,E⟩:=dd.dictAt;have hl:=y.length;refine PySem.W.kdl_call (PySem.W.kdl_dict (knd:=bZ X.prog X.w) (kvs:=N) (ep:=ep) n) (I.ok.hd T) E (by rw[<-hl];exact z) fun h' tk m c G hD A=>?_;have B:bg (f.map fun g=>kV g.1) m.toList:=by
  obtain⟨hn,hP⟩:=A;have J:∀(a:Zf) (L:List (cz×V)) (C:List (cz×Value)),KV L C->a.length=C.length->(∀(j:Nat) (v:Value),a[j]?=some v->∃k x,C[j]?=some (k,x)/\(bZ X.prog X.w).is k v=true)->bg (L.map fun g=>kV g.1) a:=by
   intro a L C rl
   induction rl generalizing a with
   |nil=>intro D _;cases a with
    |nil=>exact .nil
    |cons _ _=>cases D
   |@cons p w' ps al hp _ ih =>
    intro D O;cases a with
    |nil=>cases D
    |cons v a =>
     obtain⟨k,x,e,G⟩:=O 0 v rfl;have e':w'=(k,x):=by simpa using e
     refine .cons ?_ (ih a (by simpa using D) fun j v B=>by simpa using O (j+1) v (by simpa using B));have ek:p.1=k:=by rw[hp.1,e']
     show RelV (kV p.1) v;rw[ek];rcases aD (show dq k v=true from G)with⟨i,t,rfl,rfl⟩|⟨i,t,rfl,rfl⟩
     ·exact⟨t,rfl⟩
     ·exact⟨t,rfl⟩
  exact J m.toList f N y (by rw[mZ];exact hn) fun j v B=>hP j v (by rw[<-Array.getElem?_toList];exact B)
 refine⟨.ref s.heap.objs.size,_,I.laid (o:=.lst (f.map fun g=>kV g.1)) G (aG _) ⟨by rw[aj];exact z,m.toList,c,B,by rw[Array.toArray_toList];exact hD⟩,rfl,q _ I.fresh⟩
end
section
variable{prog:bV}{w:World}{K:Type}[DecidableEq K]{knd:HeapKind prog w K}{A:Around}{E:Zc}{s:Shared}
theorem tI{d a:Addr}{h:List (K×Addr×Value)}{k:K}{v:Value}{Q:Zc}(u:knd.room A)(f:knd.is s.heap k a)(C:s.heap.DictOfH knd d h)
  (there:∀p,atKey h k=some p->Q p.2 { s with toks:=s.toks+knd.draws k })
  (new:atKey h k=none->∀r,r.DictOfH knd d (h++[(k,a,v)])->gL d s.heap r->Q v { s with heap:=r,toks:=s.toks+knd.draws k })
  (D:h.length<=ak):wpAny (model prog w) A (dictSetDefault d (.ref a) v) Q E s:=by
 obtain⟨o,I,G,i,H,g,q,l,t⟩:=C;unfold dictSetDefault
 try with_reducible refine lA ?_
 refine aq (knd.pyHash u f ?_);refine aq (wpAny_dictFind_heap (s:={ s with toks:=s.toks+knd.draws k }) u f i g q l t ?_ ?_)
 ·intro m;have n:k∉h.map (·.1):=not_mem_keys_of_get m;refine aq (yW (aq (wpAny_updateDictKeys (hz:=by have e:=size_of_entries q;omega) (s:={ s with toks:=s.toks+knd.draws k }) i g (aV (new (atKey_none_of_get m) _ ⟨_,_,G+1,Heap.get?_update_self _ i (Obj.isFreed_of_dict (Obj.data_mapDictKeys g _)),
   H.mapDictKeys _,Obj.data_mapDictKeys g _,?_,?_,?_⟩ (qb ..))))))
  ·simp[q,entryOfKey]
  ·intro x hx;rcases aX.mp hx with hx|hx
   ·exact knd.keeps (l x hx) i g (qb ..)
   ·simp only[bO]at hx;subst hx;exact knd.keeps f i g (qb ..)
  ·rw[ap,cJ];refine⟨t,by simp,?_⟩;intro x hx y z;simp only[bd,xr,bO]at z;subst z;exact fun e=>n (e▸hx)
 ·intro j p B;refine aq (nD (s:={ s with toks:=s.toks+knd.draws k }) i g ?_);rw[entry_at q j,B];exact aq (yW (aV (there p (atKey_of_get t B))))
theorem pE(knd:HeapKind prog w K)(d a:Addr)(l:(d==gb)=false)(dflt:Value):
  MeetsIn prog w (cV.«dict.setdefault» ⟨[.ref d,.ref a,dflt],[]⟩) (fun A R s=>knd.room A.in1/\∃k e,knd.is s.heap k a/\s.heap.DictOfH knd d e/\e.length<=ak /\
   (∀p,atKey e k=some p->R (.ok (.ret p.2)) { s with toks:=s.toks+knd.draws k }) /\
   (atKey e k=none->∀f,f.DictOfH knd d (e++[(k,a,dflt)])->gL d s.heap f->R (.ok (.ret dflt)) { s with heap:=f,toks:=s.toks+knd.draws k })) :=
 .of_wp fun A R s ⟨m,k,e,g,j,n,o,q⟩=>by
  unfold cV.«dict.setdefault»;refine aq ?_;unfold cV.Dict.keyAndDefault;refine aq (xh j.typeIs ?_);show wpAny _ _ (pure (d,Value.ref a,some dflt)) _ _ s;refine aV ?_;show wpAny _ _ (if(d==gb)=true then _ else(dictSetDefault d (.ref a) dflt >>= _)) _ _ s
  rw[if_neg (by rw[l];exact h7)];exact aq (tI m g j (fun p r=>aV ⟨p.2,rfl,o p r⟩) (fun t f h i=>aV ⟨dflt,rfl,q t f h i⟩) n)
end
section
variable{X:Cx}
def C4:V->List V->Hp->VK->Prop:=fun x vs H Q=>∃(d b:Addr) (kvs:List (TK×V)) (k:TK) (z:V),x=.ref d/\vs=[.ref b,z]/\H d=some (.dT kvs)/\dJ H k (.ref b)/\k.depth<=8/\kvs.length<ak /\
 (∀v,bM kvs k=some v->Q v H)/\(bM kvs k=none->Q z (upd H d (.dT (kvs++[(k,z)]))))
theorem Er(D:X.A.units+16<cLine):JA X "dict.setdefault" C4:=by
 intro J2 s σ H x vs v us Q I E G h;obtain⟨d,b,a,k,z,rfl,rfl,l,q,j,hz,J,L⟩:=h;cases E;obtain⟨u,v,rfl,M,r⟩:=G.two;cases M;obtain⟨_,g,m,f,t⟩:=Dq I.hok I.kIn l;have hl:a.length=m.length:=Paired.length f;refine tw PySem.F.slot_dict_setdefault t.typeIs PySem.F.entry_dict_setdefault (PySem.F.args_dict_setdefault_3 _ _ _) (pE (eA X.prog X.w) d b g v)
  ⟨fV D,k,m,uz I.hok I.kIn (dJ.c 8 j q) j,t,by omega,fun p N=>?_,fun O h' n T=>?_⟩
 ·have e:=f.val k;rw[N]at e;cases i:bM a k with
  |none=>rw[i]at e;exact e.elim
  |some y =>
   rw[i]at e;exact⟨y,H,I.tok _,e,J y i⟩
 ·have e:=f.val k;rw[O]at e;have i:bM a k=none:=by
   cases i:bM a k with
   |none=>rfl
   |some y=>rw[i]at e;exact e.elim
  obtain⟨o,U,Y,B,h2,h3,h4,_,h5⟩:=n;refine⟨z,_,mK (ob:=.dT (a++[(k,z)])) I (by rw[l];exact iC) T ⟨o,B⟩ ⟨by rw[au,xw];omega,g,_,KT.keeps (kvs:=a++[(k,z)]) (xs:=m++[(k,b,v)]) (cr f ⟨rfl,dJ.c 8 j q,j,r⟩) fun c ys C=>?_,o,U,Y,B,h2,h3,h4,h5⟩,r,L i⟩;rw[ag (Di C l (fun z=>nomatch z))];exact C
end
theorem lZ:entryFor table "dict.update.loop"=some cV.«dict.update.loop»:=entryFor_of_fast (by kernel_rfl)
theorem gu:plainId "dict.update.loop"=true:=by decide +kernel
theorem ya:typeLookup (.type "list") "keys"=pure none:=am_miss_of_fast (by decide +kernel)
section
variable{prog:bV}{w:World}{A:Around}{E:Zc}{s:Shared}
theorem Et{a:Addr}{o:Obj}{m:Array Value}{k:Nat}{Q:Option Value->Shared->Prop}(n:s.heap.get? a=some o)(p:o.cls=.type "list")(f:o.data=.seq m k)(q:o.dict=none)(u:A.handled=none)
  (h:∀l tk,(∀b r,s.heap.get? b=some r->l.get? b=some r)->Q none { s with heap:=l,toks:=tk }):wpAny (model prog w) A (getAttr? (.ref a) "keys") Q E s:=by
 obtain⟨c,v,x,y⟩:=o;simp only at p f q;subst p f q;obtain⟨z,g,d,tk,os⟩:=s;have t:∀i,(⟨z,g,d,i,os⟩:Shared).TypeIs (.ref a) "list":=fun _=>⟨_,n,rfl⟩;have B:=sub_AttributeError;have C:=F.slot_list_getattribute.lookup;have D:=F.slot_list_getattribute.bind (.ref a);have G:=am_list_getattr_none;unfold getAttr? getAttrBy? getAttrBy
 repeat (any_goals (first|assumption|exact t _|((with_reducible show wpAny _ _ (call (Value.builtin "list.__getattribute__") _ _) _ _ _);refine qe F.slot_list_getattribute (t _) am_entry_list_getattribute (F.args_list_getattribute_2 _ _) (meets_getattribute_miss_list a m k y "keys" _ ya (by decide +kernel) (by decide +kernel)) ⟨n,u,fun l i e j=>?_⟩)|wp_step))
 obtain⟨H,I,J⟩:=j.there;show wpAny _ _ (getattributeRaised _ _ _ _ _ _ _) _ _ _;unfold getattributeRaised hookOrError attributeErrorLeaves
 repeat (any_goals (first|assumption|wp_step))
 all_goals first|exact h _ _ j.keeps|trace_state
def Cj(h:Heap)(u:Value)(kv:cz×Value):Prop:=∃t ku,u=.ref t/\h.IsTuple t #[ku,kv.2]/\dq kv.1 ku=true
theorem Bl{κ:Type}[DecidableEq κ](a:List (κ×Value))(k:κ)(v:Value):(stored a k v).length<=a.length+1:=by
 unfold stored;split
 ·rw[aj];omega
 ·rw[au,xw];exact aG _
theorem Fl{R:Result->Shared->Prop}(hh:A.handled=none){D it l:Addr}{items:Array Value}{ps:List (cz×Value)}(B:D≠it)(T:l≠it)(U:l≠D)(bf:ps.length=items.size):
  ∀(n i:Nat) (s:Shared) (a:List (cz×Value)),items.size-i=n->i<=items.size->a.length+(items.size-i)<=ak->s.heap.IsListIter it l i->s.heap.IsList l items->s.heap.DictOf (bZ prog w) D a ->
   (∀(j:Nat) (u:Value) (N:cz×Value),items[j]?=some u->ps[j]?=some N->Cj s.heap u N) ->
   (∀z tk,z.DictOf (bZ prog w) D (merged a (ps.drop i))->(∀b o,b≠D->b≠it->s.heap.get? b=some o->z.get? b=some o)->R (.ok (.ret .none)) { s with heap:=z,toks:=tk }) ->
   zzl76 (model prog w) A (.builtin "dict.update.loop" ⟨[.ref D,.ref it,rawInt i,.none],[]⟩) R s:=by
 intro n
 induction n with
 |zero =>
  intro i s a hn hi hz p O Q Y hR;have e:i=items.size:=by omega
  subst e;refine codeAny_builtin lZ ?_;rw[Around.under_plainId gu _];show wpAny _ A.in1 (pyNext (.ref it) >>= _) _ _ s;refine aq (wpAny_pyNext_list_end hh p O (by simp) fun z eb=>?_);show wpAny _ _ (cV.Dict.addKeywords D [] >>= _) _ _ _;refine aq (aV (aV ?_));have C:z.DictOf (bZ prog w) D a:=Q.extBut eb B;have q:=hR z s.toks (by rw[qa (by omega)];exact C) fun b o _ hb e=>eb b o hb e;exact q
 |succ n ih =>
  intro i s a hn hi hz p O Q Y hR;have I:i<items.size:=by omega
  refine codeAny_builtin lZ ?_;rw[Around.under_plainId gu _];show wpAny _ A.in1 (pyNext (.ref it) >>= _) _ _ s;have hu:items[i]?=some items[i]:=by simp[I]
  have hk:ps[i]?=some ps[i]:=b_ (by omega);obtain⟨t,ku,eu,ht,al⟩:=Y i _ _ hu hk;refine aq (wpAny_pyNext_list_item p O (x:=items[i]) hu fun h J an=>?_);rw[eu];have m:gL it s.heap h:=an;have nt:t≠it:=by
   rintro rfl;obtain⟨o,G,L,_⟩:=ht;obtain⟨o',f,g,_⟩:=p;rw[G]at f;cases f;rw[L]at g;simp at g
  have M:h.IsTuple t #[ku,ps[i].2]:=ht.extBut m.extBut nt;have as:Shared.TypeIs { s with heap:=h } (.ref t) "tuple":=M.typeIs (s:={ s with heap:=h });obtain⟨ot,aC,bi,bl,aF⟩:=id M;refine aq (lA ?_);refine aq (wpAny_tryCatch ?_);unfold cV.Dict.pairItems;refine aq (wpAny_typeOf as ?_);rw[if_pos (by decide)];refine aq (wpAny_seqItems aC aF (aV ?_));show wpAny _ _ (ln [ku,ps[i].2] (dictSet D ku ps[i].2)) _ _ _;have a0:h.DictOf (bZ prog w) D a:=Q.extBut m.extBut B;refine lA (wpAny_dictSet_pairs (knd:=bZ prog w) (k:=ps[i].1) al a0 (fun y a4 a5=>?_) (by omega));have v:gL D h y:=a5;show wpAny _ _ (again _) _ _ _;refine aV ⟨plainId_quiet gu _,?_⟩;have a6:h.IsList l items:=O.extBut m.extBut T;have kp:∀b o,b≠D->b≠it->s.heap.get? b=some o->y.get? b=some o:=fun b o h y e=>v.extBut b o h (m.extBut b o y e);refine ih (i+1) _ (stored a ps[i].1 ps[i].2) (by omega) I (by have:=Bl a ps[i].1 ps[i].2;omega) (J.extBut v.extBut (dF B)) (a6.extBut v.extBut U) a4 (fun j u N h y=>?_) fun z tk C a7=>?_
  ·obtain⟨t2,a8,e2,H,a9⟩:=Y j u N h y;have n1:t2≠it:=by
    rintro rfl;obtain⟨o,G,L,_⟩:=H;obtain⟨o',f,g,_⟩:=p;rw[G]at f;cases f;rw[L]at g;simp at g
   have n2:t2≠D:=by
    rintro rfl;obtain⟨o,G,L,_⟩:=H;obtain⟨o',_,_,f,g,_⟩:=Q;rw[G]at f;cases f;have:=g.1;rw[L]at this;simp at this
   obtain⟨o,G,r⟩:=H;exact⟨t2,a8,e2,⟨o,kp _ o n2 n1 G,r⟩,a9⟩
  ·refine hR z tk ?_ fun b o h y e=>a7 b o h y (kp b o h y e);have ed:ps.drop i=ps[i]::ps.drop (i+1):=tf (by omega);rw[ed];exact C
theorem r_{l:Addr}{o:Obj}{items:Array Value}{n:Nat}{ps:List (cz×Value)}{Q:Zc}(O:A.handled=none)(T:s.heap.get? l=some o)(I:o.cls=.type "list")(v:o.data=.seq items n)(J:o.dict=none)
  (L:ps.length=items.size) (hp:∀(j:Nat) (u:Value) (H:cz×Value),items[j]?=some u->ps[j]?=some H->Cj s.heap u H) (hz:items.size<=ak)
  (h:∀x tk,x.DictOf (bZ prog w) s.heap.objs.size (merged [] ps)->(∀b o,s.heap.get? b=some o->x.get? b=some o)->Q (.ref s.heap.objs.size) { s with heap:=x,toks:=tk }) :
  wpAny (model prog w) A (call (.type "dict") [.ref l]) Q E s:=by
 refine callType_codes (Q₁:=fun y m=>y=.ref s.heap.objs.size/\m={ s with heap:=s.heap.push { cls:=.type "dict",data:=.dict #[] } }) F.kt_called_dict (F.kt_typeCall_dict_1 _) F.entry_dict_init (kt_code_dict_new _ ⟨rfl,rfl⟩) ?_;rintro y m ⟨rfl,rfl⟩;have f:(s.heap.push { cls:=.type "dict",data:=.dict #[] }).DictOf (bZ prog w) s.heap.objs.size []:=Heap.DictOf.new s.heap;have p:(s.heap.push { cls:=.type "dict",data:=.dict #[] }).get? l=some o:=cx _ T;have z:l<s.heap.objs.size:=bC T;refine⟨f.typeIs,F.args_dict_init_2 _ _,?_⟩;unfold cV.«dict.__init__»;refine aq ?_;unfold cV.Dict.selfAndRest;refine aq (xh f.typeIs ?_);show wpAny _ _ (pure (s.heap.objs.size,[Value.ref l])) _ _ _;refine aV ?_;show wpAny _ _ (cV.Dict.updateFrom "dict.__init__" s.heap.objs.size (.ref l) [] .none) _ _ _;unfold cV.Dict.updateFrom;have M:Shared.TypeIs { s with heap:=s.heap.push { cls:=.type "dict",data:=.dict #[] } } (.ref l) "list":=⟨o,p,I⟩;refine aq (wpAny_typeOf M ?_);rw[if_pos (by decide)];refine aq (Et p I v J O fun q N k1=>?_);have k:∀b ob,(s.heap.push { cls:=.type "dict",data:=.dict #[] }).get? b=some ob->q.get? b=some ob:=k1;rw[if_pos (by rfl:(none:Option Value).isNone=true)];refine aq (yW ?_);have B:q.IsList l items:=⟨o,k _ _ p,I,n,v⟩;refine aq (yV (s:={ s with heap:=q,toks:=N }) B ?_);have C:q.DictOf (bZ prog w) s.heap.objs.size []:=by
  obtain⟨U,Y,ep,g,r⟩:=f;exact⟨U,Y,ep,k _ _ g,r⟩
 have i:s.heap.objs.size<q.objs.size:=by
  obtain⟨U,Y,ep,g,r⟩:=C;exact bC g
 refine aV ⟨plainId_quiet gu _,?_⟩;refine Fl (A:=A.in1) (prog:=prog) (w:=w) O (D:=s.heap.objs.size) (it:=q.objs.size) (l:=l) (items:=items) (ps:=ps) (dg i) (dg (Nat.lt_trans z i)) (dg z) L items.size 0 _ [] (Nat.sub_zero _) (c_ _) (by rw[tz];omega)
  ⟨_,dL _ rfl,rfl,rfl⟩ (B.push _) (C.push _) (fun j u H a b=>?_) fun x tk G kp=>?_
 ·obtain⟨t,ku,e,ht,hk⟩:=hp j u H a b;obtain⟨ot,g,r⟩:=ht;exact⟨t,ku,e,⟨ot,cx _ (k _ _ (cx _ g)),r⟩,hk⟩
 ·rw[ke]at G;refine⟨rfl,h x tk G fun b ob e=>kp b ob (dg (bC e)) (dg (Nat.lt_trans (bC e) i)) (cx _ (k _ _ (cx _ e)))⟩
end
section
variable{X:Cx}
theorem yC(hc:X.calm=true):fZ X (.type "dict") (fun Y H Q=>∃(l:Addr) (k:Ze) (f:List (cz×V)),Y=[.ref l]/\ay X.K H l (k.map V.ref)/\k.length=f.length /\
  (∀(j:Nat) (t:Addr) (g:cz×V),k[j]?=some t->f[j]?=some g->H t=some (.tup [kV g.1,g.2]))/\∀p,H p=none->Q (.ref p) (upd H p (.dK (fC [] f)))):=by
 intro J2 s σ H Y us Q I r h;obtain⟨l,k,f,rfl,v,z,D,q⟩:=h;obtain⟨u,rfl,ru⟩:=vals1 r;cases ru;obtain⟨E,rv,⟨o,n,ho,G,J,L⟩,M⟩:=I.list v;have N:∀(k:Ze) (f:List (cz×V)),k.length=f.length->(∀(j:Nat) (t:Addr) (g:cz×V),k[j]?=some t->f[j]?=some g->H t=some (.tup [kV g.1,g.2]))->∃y:List (cz×Value),KV f y/\∀(j:Nat) (t:Addr) (g:cz×Value),k[j]?=some t->y[j]?=some g->Cj s.heap (.ref t) g:=by
  intro k
  induction k with
  |nil =>
   intro f v _;cases f with
   |nil=>exact⟨[],.nil,fun j t g e=>by simp at e⟩
   |cons _ _=>cases v
  |cons t k ih =>
   intro f v D;cases f with
   |nil=>cases v
   |cons g f =>
    obtain⟨y,O,r2⟩:=ih f (by simpa using v) fun j T m a b=>D (j+1) T m (by simpa using a) (by simpa using b);obtain⟨_,al,rt,p⟩:=(show bS X.prog X.w X.K H s.heap t (.tup [kV g.1,g.2])from I.hok t _ (D 0 t g rfl rfl));obtain⟨a,b,e,ra,rb⟩:=rt.two;subst e;refine⟨(g.1,b)::y,.cons ⟨rfl,rb⟩ O,fun j T m A U=>?_⟩;cases j with
    |zero =>
     simp at A U;subst A U;exact⟨t,a,rfl,p,nj (P:=X.prog) (w:=X.w) ra⟩
    |succ j=>exact r2 j T m (by simpa using A) (by simpa using U)
 obtain⟨y,B,pa⟩:=N k f z D;have C:=rv.length;rw[aj]at C;have an:=B.length;refine r_ (prog:=X.prog) (w:=X.w) (ps:=y) (I.ok.hd hc) ho G L J (by rw[bQ];omega) (fun j u g a b=>?_) (by rw[bQ,<-C];rw[aj]at M;exact M) fun h' tk hD kp=>?_
 ·have a':E[j]?=some u:=by simpa using a
  have hj:j<k.length:=by
   have:=(bY.mp a').1;omega
  obtain⟨u',e1,O⟩:=rv.get (i:=j) (x:=V.ref k[j]) (by simp[hj]);rw[a']at e1;cases e1;cases(show u=Value.ref k[j]from O);exact pa j k[j] g (by simp[hj]) b
 ·have hm:(fC [] f).length<=ak:=by
   have A:=jB f [];rw[tz]at A;rw[aj]at M;omega
  exact⟨.ref s.heap.objs.size,_,I.laid (o:=.dK (fC [] f)) kp (aG _) (B1 hm (beq_eq_false_iff_ne.mpr (dF (dg I.big))) (B.merge .nil) hD),rfl,q _ I.fresh⟩
end
abbrev fE:R2:=EZ fun i j=>.int (i+j)
abbrev lO:R2:=rI G_ fun i j=>.int (i * j)
abbrev js:R2:=rI (fun _ j=>0<j) fun i j=>.int (i % j)
abbrev FV:R2:=rI Kk fun i j=>.int (i / j)
abbrev ID:R2:=rI Kj fun i j=>.int (i ^ j.toNat)
abbrev Ei:R2:=EZ fun i j=>.bl (decide (i<j))
abbrev rLeI:R2:=EZ fun i j=>.bl (decide (i<=j))
abbrev Ek:R2:=EZ fun i j=>.bl (decide (j<i))
abbrev rGeI:R2:=EZ fun i j=>.bl (decide (j<=i))
abbrev IG:R2:=fun x y H Q=>∃i j,x=.str i/\y=.str j/\i.length+j.length<=ak/\Q (.str (i++j)) H
abbrev rInS:R2:=fun x y H Q=>∃c j,x=.str ⟨#[c]⟩/\y=.str j/\Q (.bl (decide (c∈j.cps.toList))) H
abbrev rSlA(K:Za):V->Option Int->Option Int->Hp->VK->Prop:=fun x lo hi H Q=>pf K x lo hi H Q∨Eg x lo hi H Q
abbrev Ej(K:Za):List V->Hp->VK->Prop:=fun xs H Q=>∃x c t b,xs=[x,.ty c]/\TyX K H x t/\CF K t (.type c)=some b/\Q (.bl b) H
abbrev JQ(K:Za):List V->Hp->VK->Prop:=fun xs H Q=>∃(p:Addr) (bs:List Bool),xs=[.ref p]/\ay K H p (bs.map V.bl)/\Q (.bl (bs.all id)) H
abbrev rAny(K:Za):List V->Hp->VK->Prop:=fun xs H Q=>∃(p:Addr) (bs:List Bool),xs=[.ref p]/\ay K H p (bs.map V.bl)/\Q (.bl (bs.any id)) H
abbrev C3(K:Za):List V->Hp->VK->Prop:=fun xs H Q=>∃p ys,xs=[.ref p]/\((ay K H p ys/\∀l,H l=none->Q (.ref l) (upd H l (.tup ys)))∨(be K H p ys/\Q (.ref p) H))
abbrev HH(K:Za):List V->Hp->VK->Prop:=fun xs H Q=>∃(l:Addr) (ts:Ze) (kvs:List (cz×V)),xs=[.ref l]/\ay K H l (ts.map V.ref)/\ts.length=kvs.length /\
  (∀(j:Nat) (t:Addr) (kv:cz×V),ts[j]?=some t->kvs[j]?=some kv->H t=some (.tup [kV kv.1,kv.2]))/\∀p,H p=none->Q (.ref p) (upd H p (.dK (fC [] kvs)))
abbrev da(K:Za):List V->Hp->VK->Prop:=fun xs H Q =>
 (∃p ys,xs=[.ref p]/\(ay K H p ys∨be K H p ys)/\∀l,H l=none->Q (.ref l) (upd H l (.lst ys))) ∨
 (∃(d:Addr) (kvs:List (cz×V)),xs=[.ref d]/\Rd H d (.dK kvs)/\∀l,H l=none->Q (.ref l) (upd H l (.lst (kvs.map fun kv=>kV kv.1))))
abbrev dS(K:Za):List V->Hp->VK->Prop:=fun xs H Q =>
 (∃p ys,xs=[.ref p]/\(ay K H p ys∨be K H p ys)/\Q (.int ys.length) H)∨(∃z,xs=[.str z]/\z.length<=ak/\Q (.int z.length) H)
theorem j6:lp "isinstance"=some (.builtin "isinstance"):=by decide +kernel
theorem uO:lp "list"=some (.type "list"):=by decide +kernel
theorem ij:lp "tuple"=some (.type "tuple"):=by decide +kernel
theorem Ch:lp "dict"=some (.type "dict"):=by decide +kernel
section
variable{X:Cx}{p pos:Pos}
theorem wE:fZ X (.builtin "len") (dS X.K):=yB.or yz
theorem Cg(a:X.calm=true):fZ X (.type "list") (da X.K):=yy.or (uN a)
theorem nW(a:Gl X "list")(e:X.mg "list"=none):PE X (.Name "list" pos) (tC (.ty "list")):=C_ a e uO rfl
theorem lR(a:Gl X "tuple")(e:X.mg "tuple"=none):PE X (.Name "tuple" pos) (tC (.ty "tuple")):=C_ a e ij rfl
end
def Gc(mg:Str->Option Value)(x:Str)(v:V):Prop:=∃u,mg x=some u/\RelV v u
theorem gO{X:Cx}{x:Str}{v:V}{a:Pos}(e:Gl X x)(h:Gc X.mg x v)(f:(x==("__debug__":Str))=false:=by decide):PE X (.Name x a) (tC v):=by
 obtain⟨u,g,r⟩:=h;exact HP e g r f
structure hZ(P:bV)(w:World)(K:Za)(mg:Str->Option Value)(base:Heap)(x:Str)(ps:Zb)(k:Nat)(sp:Sp):Prop where
 ex:∃f fd,mW P w K mg base CX0 k f fd ps sp/\mg x=some (.ref f)/\iV K (.ref f)=true/\Binds K fd ps []
structure Kt(P:bV)(w:World)(K:Za)(mg:Str->Option Value)(base:Heap)(x:Str)(C:Addr)(ps:Zb)(k:Nat)(sp:Sp):Prop where
 ex:∃f fd,mW P w K mg base CX0 k f fd ps sp/\mg x=some (.ref C)/\Mk K C f/\Binds K fd ps []
structure DD(P:bV)(w:World)(K:Za)(mg:Str->Option Value)(base:Heap)(C:Addr)(m:Str)(ps:Zb)(k:Nat)(sp:Sp):Prop where
 ex:∃f fd,mW P w K mg base CX0 k f fd ps sp/\DF K C/\Iv K C m f/\Binds K fd ps []
section
variable{X:Cx}{k:Nat}{ps:Zb}{sp:Sp}{x m:Str}{C:Addr}{p pos J4:Pos}{o e:Expr}{es:List Expr}{t:TA}{ta:TE}
theorem JR(D:hZ X.prog X.w X.K X.mg X.base x ps k sp)(h:fh k X.A)(i:Gl X x)(j:PA X (e::es) t)(a:(x==("__debug__":Str))=false:=by decide)
  (l:aO (e::es) X.env=(false,eval e X.env)::aO es X.env:=by rfl) (g:(backTo pos (aO es X.env)).any (·.1)=false:=by rfl) :
  PE X (.Call (.Name x p) (e::es) [] pos) (aS sp t):=by
 obtain⟨f,s,F,n,q,r⟩:=D.ex;exact HS F h i n q r .nil Db j a l g
theorem BC(D:Kt X.prog X.w X.K X.mg X.base x C ps k sp)(h:fh (k+1) X.A)(i:Gl X x)(j:PA X (e::es) t)(a:(x==("__debug__":Str))=false:=by decide)
  (l:aO (e::es) X.env=(false,eval e X.env)::aO es X.env:=by rfl) (g:(backTo pos (aO es X.env)).any (·.1)=false:=by rfl) :
  PE X (.Call (.Name x p) (e::es) [] pos) (ze C sp [] E0 t):=by
 obtain⟨f,r,F,n,M,q⟩:=D.ex;exact HN M F h i n q .nil Db j a l g
theorem Jk{pl:Sem Bool}(M:DD X.prog X.w X.K X.mg X.base C m ps k sp)(i:fh k X.A)(j:PE X o ta)(l:PA X (e::es) t)
  (a:aO (e::es) X.env=(false,eval e X.env)::aO es X.env:=by rfl) (g:(backTo pos (aO es X.env)).any (·.1)=false:=by rfl)
  (n:eval (.Call (.Attribute o m J4) (e::es) [] pos) X.env=(do
   let h <- eval o X.env
   rq J4.atName
   let(f,first) <- ln [h] (rf h m pl)
   vQ pos f first (backTo pos (aO (e::es) X.env)) (oK pos (oJ [] X.env))):=by rfl) :
  PE X (.Call (.Attribute o m J4) (e::es) [] pos) (cW C m sp [] E0 ta t):=by
 obtain⟨f,s,F,c,q,r⟩:=M.ex;exact HM j c q F i r .nil Db l a g n
theorem HL{pl:Sem Bool}(M:DD X.prog X.w X.K X.mg X.base C m ps k sp)(g:fh k X.A)(h:PE X o ta)
  (i:eval (.Call (.Attribute o m J4) [] [] pos) X.env=(do
   let a <- eval o X.env
   rq J4.atName
   let(f,first) <- ln [a] (rf a m pl)
   vQ pos f first (backTo pos (aO [] X.env)) (oK pos (oJ [] X.env))):=by rfl) :
  PE X (.Call (.Attribute o m J4) [] [] pos) (cW C m sp [] E0 ta bu):=by
 obtain⟨f,n,F,c,j,l⟩:=M.ex;exact Ga h c j F g l .nil Db i
end
def JW(K:Za)(tl:TE):TI:=fun σ H R=>tl σ H fun x H1=>∃a,x=.ref a/\(((∃xs,ay K H1 a xs)/\R (Hf K a) H1)∨((∃xs,be K H1 a xs)/\R (JB K a) H1))
theorem Ji{X:Cx}{u l:Expr}{r:TE}(w:PE X l r):PI X u l (JW X.K r):=by
 intro t s σ H R I h;refine cF (w t s σ H _ I h) fun v f j=>?_;obtain⟨x,k,g,y,z⟩:=j;obtain⟨a,e,q⟩:=z;subst e;cases y;have i:∀b∈[f.heap.objs.size],oz X t k b:=fun b A=>by
  have e:b=f.heap.objs.size:=by simpa using A
  subst e;exact g.fpOk (aG _) (g.hok.fresh (aG _))
 rcases q with⟨⟨B,m⟩,q⟩|⟨⟨B,m⟩,q⟩
 ·obtain⟨n,C,p,D⟩:=g.list m;refine yV p.isList ?_;exact⟨f.heap.objs.size,[f.heap.objs.size],_,_,k,rfl,g.kept (t':=f.toks) fun b o e=>cx _ e,vV a _,⟨_,dL _ rfl,rfl,rfl⟩,i,q⟩
 ·obtain⟨n,C,p,D⟩:=g.tuple m;refine wpAny_pyIter_tuple p ?_;exact⟨f.heap.objs.size,[f.heap.objs.size],_,_,k,rfl,g.kept (t':=f.toks) fun b o e=>cx _ e,tJ a _,⟨_,dL _ rfl,rfl,rfl⟩,i,q⟩
theorem lX{K:Za}{a:Addr}{xs:List V}{g:TG}{k:TS}{D:mj}{σ:St}{H:Hp}(Pv:Nat->St->Hp->Prop)(n:Pv 0 σ H)(o:∀i σ H,i<=xs.length->Pv i σ H->ay K H a xs)
  (r:∀i x σ H p,xs[i]?=some x->Pv i σ H->H p=none->g (.ref p) σ (upd H p (.tup [.int i,x])) fun σ2 j=>k { D with nx:=Pv (i+1),ct:=Pv (i+1),bk:=D.nx } σ2 j) (s:∀σ H,Pv xs.length σ H->D.nx σ H) :
  ∃W:Nat->Nat->St->Hp->Prop,(∃m,W 0 m σ H)/\∀i m σ H,W i m σ H ->
   ((Kd K a).stop i H/\D.nx σ H)∨((Kd K a).go i H/\∃N:St->Hp->Prop,(∀σ' f,N σ' f->∃l,l<m/\W (i+1) l σ' f)/\∀x f,(Kd K a).yld i H x f->g x σ f fun σ2 j=>k { D with nx:=N,ct:=N,bk:=D.nx } σ2 j):=by
 refine⟨fun i m σ H=>m=xs.length-i/\i<=xs.length/\Pv i σ H,⟨xs.length,by simp,c_ _,n⟩,?_⟩;rintro i m σ H ⟨rfl,u,p⟩;have q:=o i σ H u p;by_cases h:i<xs.length
 ·refine .inr ⟨⟨xs,xs[i],q,by simp[h]⟩,Pv (i+1),fun σ' f w=>⟨xs.length-(i+1),by omega,rfl,h,w⟩,fun x f y=>?_⟩;obtain⟨t,v,rfl,z,A,rfl⟩:=y;exact r i v σ H t (A xs q) p z
 ·have e:i=xs.length:=by omega
  subst e;exact .inl ⟨⟨xs,q,aG _⟩,s σ H p⟩
def Wc(n:Nat)(Pv:Nat->List V->Hp->Prop):Nat->Nat->List V->Hp->Prop:=fun i m vs H=>m=n-i/\i<=n/\Pv i vs H
theorem pA{n i:Nat}{Pv:Nat->List V->Hp->Prop}{a:List V}{H:Hp}(f:i<n)(p:Pv (i+1) a H):∃e,e<n-i/\Wc n Pv (i+1) e a H:=⟨n-(i+1),by omega,rfl,f,p⟩
abbrev gF(k:Nat)(fi:List Nat)(σ:St)(J:It)(g:TG)(tc:TT)(te:TE)(H1:Hp)(l:Addr)(Q:Hp->Prop):Prop :=
 ∃W:Nat->Nat->List V->Hp->Prop,(∃m,W 0 m [] (upd H1 l (.lst [])))/\∀i m vs H2,W i m vs H2->H2 l=some (.lst vs) /\
  ((J.stop i H2/\Q H2)∨(J.go i H2/\∀x H3,J.yld i H2 x H3->g x (dX k fi σ) H3 fun σ2 H4=>tc σ2 H4 fun b H5 =>
   if b=true then te σ2 H5 fun v H6=>H6 l=some (.lst vs)/\vs.length<ak/\∃m',m'<m/\W (i+1) m' (vs++[v]) (upd H6 l (.lst (vs++[v])))else ∃m',m'<m/\W (i+1) m' vs H5))
theorem l_{k:Nat}{r:List Nat}{J:It}{g:TG}{s:TT}{t:TE}{σ:St}{u:Hp}{Q:Hp->Prop}{l:Addr}(n:Nat)(Pv:Nat->List V->Hp->Prop)(A:Pv 0 [] (upd u l (.lst [])))
  (B:∀i a H,i<=n->Pv i a H->H l=some (.lst a)) (o:∀i a H,i<n->Pv i a H->J.go i H) (q:∀a H,Pv n a H->J.stop n H/\Q H)
  (C:∀i a H x j,i<n->Pv i a H->J.yld i H x j->g x (dX k r σ) j fun σ2 D=>s σ2 D fun b w =>
   if b=true then t σ2 w fun v z=>z l=some (.lst a)/\a.length<ak/\∃f,f<n-i/\Wc n Pv (i+1) f (a++[v]) (upd z l (.lst (a++[v])))else ∃f,f<n-i/\Wc n Pv (i+1) f a w) :
  gF k r σ J g s t u l Q:=by
 refine⟨Wc n Pv,⟨n,by simp[Wc],c_ _,A⟩,?_⟩;rintro i m a H ⟨rfl,E,p⟩;refine⟨B i a H E p,?_⟩;by_cases h:i<n
 ·exact .inr ⟨o i a H h p,fun x j y=>C i a H x j h p y⟩
 ·have e:i=n:=by omega
  subst e;exact .inl (q a H p)
section
variable{K:Za}{k:Nat}{fi:List Nat}{g:TG}{tc:TT}{te:TE}{σ:St}{H1:Hp}{Q:Hp->Prop}{l:Addr}
theorem cH{a:Addr}{xs:List V}(Pv:Nat->List V->Hp->Prop)(o:Pv 0 [] (upd H1 l (.lst [])))
  (j:∀i e H,i<=xs.length->Pv i e H->H l=some (.lst e)/\ay K H a xs) (q:∀e H,Pv xs.length e H->Q H)
  (r:∀i e H x,xs[i]?=some x->i<xs.length->Pv i e H->g x (dX k fi σ) H fun σ2 s=>tc σ2 s fun b m =>
   if b=true then te σ2 m fun v n=>n l=some (.lst e)/\e.length<ak/\∃h,h<xs.length-i/\Wc xs.length Pv (i+1) h (e++[v]) (upd n l (.lst (e++[v])))else ∃h,h<xs.length-i/\Wc xs.length Pv (i+1) h e m) :
  gF k fi σ (Hf K a) g tc te H1 l Q:=by
 refine l_ xs.length Pv o (fun i e H f p=>(j i e H f p).1) (fun i e H f p=>⟨xs,xs[i],(j i e H (eK f) p).2,by simp[f]⟩) (fun e H p=>⟨⟨xs,(j _ e H (aG _) p).2,aG _⟩,q e H p⟩) fun i e H x t f p y=>?_;obtain⟨rfl,y⟩:=y;exact r i e _ x (y xs (j i e _ (eK f) p).2) f p
theorem Aw{a:Addr}{xs:List V}(Pv:Nat->List V->Hp->Prop)(o:Pv 0 [] (upd H1 l (.lst [])))
  (j:∀i e H,i<=xs.length->Pv i e H->H l=some (.lst e)/\be K H a xs) (q:∀e H,Pv xs.length e H->Q H)
  (r:∀i e H x,xs[i]?=some x->i<xs.length->Pv i e H->g x (dX k fi σ) H fun σ2 s=>tc σ2 s fun b m =>
   if b=true then te σ2 m fun v n=>n l=some (.lst e)/\e.length<ak/\∃h,h<xs.length-i/\Wc xs.length Pv (i+1) h (e++[v]) (upd n l (.lst (e++[v])))else ∃h,h<xs.length-i/\Wc xs.length Pv (i+1) h e m) :
  gF k fi σ (JB K a) g tc te H1 l Q:=by
 refine l_ xs.length Pv o (fun i e H f p=>(j i e H f p).1) (fun i e H f p=>⟨xs,xs[i],(j i e H (eK f) p).2,by simp[f]⟩) (fun e H p=>⟨⟨xs,(j _ e H (aG _) p).2,aG _⟩,q e H p⟩) fun i e H x t f p y=>?_;obtain⟨rfl,y⟩:=y;exact r i e _ x (y xs (j i e _ (eK f) p).2) f p
theorem Cc{lo:Int}{n:Nat}(Pv:Nat->List V->Hp->Prop)(m:Pv 0 [] (upd H1 l (.lst [])))
  (o:∀i a H,i<=n->Pv i a H->H l=some (.lst a)) (q:∀a H,Pv n a H->Q H)
  (r:∀i a H,i<n->Pv i a H->g (.int (lo+i)) (dX k fi σ) H fun σ2 s=>tc σ2 s fun b h =>
   if b=true then te σ2 h fun v j=>j l=some (.lst a)/\a.length<ak/\∃e,e<n-i/\Wc n Pv (i+1) e (a++[v]) (upd j l (.lst (a++[v])))else ∃e,e<n-i/\Wc n Pv (i+1) e a h) :
  gF k fi σ (JC lo n) g tc te H1 l Q:=by
 refine l_ n Pv m o (fun i a H f p=>f) (fun a H p=>⟨aG _,q a H p⟩) fun i a H x t f p y=>?_;obtain⟨rfl,rfl⟩:=y;exact r i a _ f p
theorem GP{x:Str}(Pv:Nat->List V->Hp->Prop)(m:Pv 0 [] (upd H1 l (.lst [])))
  (n:∀i a H,i<=x.cps.size->Pv i a H->H l=some (.lst a)) (o:∀a H,Pv x.cps.size a H->Q H)
  (q:∀i a H c,x.cps[i]?=some c->i<x.cps.size->Pv i a H->g (.str ⟨#[c]⟩) (dX k fi σ) H fun σ2 r=>tc σ2 r fun b h =>
   if b=true then te σ2 h fun v j=>j l=some (.lst a)/\a.length<ak/\∃e,e<x.cps.size-i/\Wc x.cps.size Pv (i+1) e (a++[v]) (upd j l (.lst (a++[v])))else ∃e,e<x.cps.size-i/\Wc x.cps.size Pv (i+1) e a h) :
  gF k fi σ (Kw x) g tc te H1 l Q:=by
 refine l_ x.cps.size Pv m n (fun i a H f p=>f) (fun a H p=>⟨aG _,o a H p⟩) fun i a H y u f p s=>?_;obtain⟨rfl,c,t,rfl⟩:=s;exact q i a _ c t f p
end
theorem gN{j:Nat}{x:V}{σ:St}{H:Hp}{Q:St->Hp->Prop}(h:Q (σ.set j (some x)) H):eO j x σ H Q:=h
theorem u7{σ:St}{H:Hp}{A B:Hp->Prop}(h:A H):k7 σ H (fun b a=>if b=true then A a else B a):=by
 show(if(true:Bool)=true then A H else B H)
 exact h
inductive Jz{T0 T1:Type}(P:T0->T1->Prop):Prop
 |mk (x0:T0) (x1:T1):P x0 x1->Jz P
inductive IZ{T0 T1 T2:Type}(P:T0->T1->T2->Prop):Prop
 |mk (x0:T0) (x1:T1) (x2:T2):P x0 x1 x2->IZ P
inductive J_{T0 T1 T2 T3:Type}(P:T0->T1->T2->T3->Prop):Prop
 |mk (x0:T0) (x1:T1) (x2:T2) (x3:T3):P x0 x1 x2 x3->J_ P
inductive NE5{T0 T1 T2 T3 T4:Type}(P:T0->T1->T2->T3->T4->Prop):Prop
 |mk (x0:T0) (x1:T1) (x2:T2) (x3:T3) (x4:T4):P x0 x1 x2 x3 x4->NE5 P
inductive NA3(p0 p1 p2:Prop):Prop
 |mk:p0->p1->p2->NA3 p0 p1 p2
inductive GZ(p0 p1 p2 p3 p4:Prop):Prop
 |mk:p0->p1->p2->p3->p4->GZ p0 p1 p2 p3 p4
inductive Ku(p0 p1 p2 p3 p4 p5:Prop):Prop
 |mk:p0->p1->p2->p3->p4->p5->Ku p0 p1 p2 p3 p4 p5
abbrev JO:List V->Hp->VK->Prop:=fun xs H Q=>∃i j,xs=[.int i,.int j]/\Q (.int (if j > i then j else i)) H
end L2
namespace L2
open PySem PySem.W
def qD(K:Za)(td ty tv:TE):TS:=fun D σ H=>tv σ H fun v H1=>td σ H1 fun x H2=>ty σ H2 fun y H3 =>
 ∃(a b:Addr) (kvs:List (TK×V)) (k:TK),x=.ref a/\y=.ref b/\H3 a=some (.dT kvs)/\oe K H3 k (.ref b)/\k.depth<=8/\kvs.length<ak/\D.nx σ (upd H3 a (.dT (cn kvs k v)))
section
variable{X:Cx}{o i value:Expr}{pos pos':Pos}{td ty tv:TE}
theorem pj(j:X.A.units+16<cLine)(m:PE X o td)(n:PE X i ty)(p:PE X value tv)(q:rj value (some (.Subscript o i pos')) pos.line X.env=pure false):
  PS X (.Assign [.Subscript o i pos'] value pos) (qD X.K td ty tv):=by
 intro f s σ H D I h;refine wpAny_Assign_Subscript (cF (p f s σ H _ I h) fun r t ⟨v,w,z,B,C⟩=>cF (m f t σ w _ z C) fun u E ⟨x,G,J,L,M⟩=>cF (n f E σ G _ J M) fun iv s3 g=>?_) q;obtain⟨y,H3,N,O,a,b,Q,k,ex,T,e,U,Y,l,q3⟩:=g;subst ex;subst T;obtain rfl:u=Value.ref a:=L;exact B_ j N e U Y l O B fun s4 I4=>⟨σ,_,I4,q3⟩
end
theorem vZ{K:Za}{H:Hp}:∀a:List Str,TKCs K H (a.map fun x=>TK.k (some (.inr x))) (a.map V.str)
 |[]=>by show TKCs K H [] [];unfold TKCs;rfl
 |x::a=>by
  rw[bd,bd];unfold TKCs;refine⟨_,_,rfl,?_,vZ a⟩;unfold oe
  rfl
theorem y6{K:Za}{H:Hp}{a:Addr}{e:Zb}(h:aW K H a (e.map V.str)):oe K H (.t (e.map fun x=>TK.k (some (.inr x)))) (.ref a):=by
 unfold oe;exact⟨a,_,rfl,h,vZ e⟩
end L2
end

section
set_option Elab.async false
set_option linter.all false
set_option maxRecDepth 100000
namespace L2
open PySem PySem.Spec PyProof.Rows PySem.W
def Iz:Expr->List Str
 |.Name x _=>[x]
 |.Tuple es _ _=>es.filterMap fun e=>match e with | .Name x _=>some x|_=>none
 |_=>[]
theorem bK{X:Cx}{b:List Stmt}{t:TS}{D:mj}{σ:St}{H:Hp}(r:t D σ H)(p:AR X b t):∃t,AR X b t/\t D σ H:=⟨t,p,r⟩
section
variable{X:Cx}{k k0:Nat}{ps:Zb}{sp:Sp}{x m:Str}{C:Addr}{p pos J4:Pos}{o e a b:Expr}{es:List Expr}{t:TA}{ta tb te:TE}
theorem qf(h:fh k0 X.A)(D:hZ X.prog X.w X.K X.mg X.base x ps k sp)(i:PA X (e::es) t)(j:k<=k0:=by decide)(l:Gl X x:=by rfl)(f:(x==("__debug__":Str))=false:=by decide)
  (n:aO (e::es) X.env=(false,eval e X.env)::aO es X.env:=by rfl) (g:(backTo pos (aO es X.env)).any (·.1)=false:=by rfl) :
  PE X (.Call (.Name x p) (e::es) [] pos) (aS sp t):=JR D (h.mono j) l i f n g
theorem qm{pl:Sem Bool}(j:fh k0 X.A)(M:DD X.prog X.w X.K X.mg X.base C m ps k sp)(l:PE X o ta)(n:PA X (e::es) t)(q:k<=k0:=by decide)
  (g:aO (e::es) X.env=(false,eval e X.env)::aO es X.env:=by rfl) (h:(backTo pos (aO es X.env)).any (·.1)=false:=by rfl)
  (r:eval (.Call (.Attribute o m J4) (e::es) [] pos) X.env=(do
   let i <- eval o X.env
   rq J4.atName
   let(f,first) <- ln [i] (rf i m pl)
   vQ pos f first (backTo pos (aO (e::es) X.env)) (oK pos (oJ [] X.env))):=by rfl) :
  PE X (.Call (.Attribute o m J4) (e::es) [] pos) (cW C m sp [] E0 ta t):=Jk (pl:=pl) M (j.mono q) l n g h r
theorem E_{pl:Sem Bool}(h:fh k0 X.A)(M:DD X.prog X.w X.K X.mg X.base C m ps k sp)(i:PE X o ta)(j:k<=k0:=by decide)
  (l:eval (.Call (.Attribute o m J4) [] [] pos) X.env=(do
   let g <- eval o X.env
   rq J4.atName
   let(f,first) <- ln [g] (rf g m pl)
   vQ pos f first (backTo pos (aO [] X.env)) (oK pos (oJ [] X.env))):=by rfl) :
  PE X (.Call (.Attribute o m J4) [] [] pos) (cW C m sp [] E0 ta bu):=HL (pl:=pl) M (h.mono j) i l
theorem xl(f:PE X a ta)(g:PE X b tb)(h:ET b:=by exact fun _ _=>rfl):PE X (.Subscript a b pos) (aH (cS X.K) ta tb):=C8 Dm f g h
theorem xt(f:PE X a ta)(g:PE X b tb)(h:ET b:=by exact fun _ _=>rfl):PE X (.Subscript a b pos) (aH (ia X.K) ta tb):=C8 Gu f g h
theorem xq(f:PE X a ta)(g:PE X b tb)(h:ET b:=by exact fun _ _=>rfl):PE X (.Subscript a b pos) (aH (jA X.K) ta tb):=C8 Jr f g h
theorem xs'(f:PE X a ta)(g:PE X b tb)(h:ET b:=by exact fun _ _=>rfl):PE X (.Subscript a b pos) (aH FU ta tb):=C8 Gv f g h
theorem hC{f:CmpOp}{r:R2}(g:oI X (fq f) r)(h:PE X a ta)(i:PE X b tb)(j:kY f b=false:=by exact Gf _):PT X (.Compare a [f] [b] pos) (aQ (aH r ta tb)):=C6 g h i j
theorem IN{f:CmpOp}{r:R2}(g:oI X (fq f) r)(h:PE X a ta)(i:PE X b tb)(j:kY f b=false:=by exact Gf _):PE X (.Compare a [f] [b] pos) (aH r ta tb):=C9 g h i j
theorem Hc{f:CmpOp}{r:R2}(g:oI X (fq f) r)(h:PE X a ta)(i:PE X b tb)(j:kY f b=false:=by with_unfolding_all rfl):PT X (.Compare a [f] [b] pos) (aQ (aH r ta tb)):=C6 g h i j
theorem eci{f:CmpOp}{r:R2}(g:oI X (fq f) r)(h:PE X a ta)(i:PE X b tb)(j:kY f b=false:=by with_unfolding_all rfl):PE X (.Compare a [f] [b] pos) (aH r ta tb):=C9 g h i j
theorem qB{id:String}{r:List V->Hp->VK->Prop}(h:fZ X (.builtin id) r)(i:X.mg x=none)(j:lp x=some (.builtin id))(l:PA X (e::es) t)(n:Gl X x:=by rfl)(q:x≠"__name__":=by decide)(f:(x==("__debug__":Str))=false:=by decide)
  (s:aO (e::es) X.env=(false,eval e X.env)::aO es X.env:=by rfl) (g:(backTo pos (aO es X.env)).any (·.1)=false:=by rfl):PE X (.Call (.Name x p) (e::es) [] pos) (eD r t):=zV h n i j l q f s g
theorem qL(g:X.calm=true)(h:X.mg "list"=none)(i:PA X (e::es) t)(j:Gl X "list":=by rfl)
  (l:aO (e::es) X.env=(false,eval e X.env)::aO es X.env:=by rfl) (f:(backTo pos (aO es X.env)).any (·.1)=false:=by rfl):PE X (.Call (.Name "list" p) (e::es) [] pos) (eD (da X.K) t):=iS (Cg g) j h uO i (by decide) (by decide) l f
theorem ql(g:X.mg "len"=none)(h:PA X (e::es) t)(i:Gl X "len":=by rfl)
  (j:aO (e::es) X.env=(false,eval e X.env)::aO es X.env:=by rfl) (f:(backTo pos (aO es X.env)).any (·.1)=false:=by rfl):PE X (.Call (.Name "len" p) (e::es) [] pos) (eD (dS X.K) t):=zV wE i g PySem.boot_len h (by decide) (by decide) j f
theorem qs(i:Nat){f:Pos}(g:X.N.Nodup)(h:PE X e te)(j:X.N[i]?=some x:=by rfl)(l:Loc X.env.scope x:=by first|exact Or.inl rfl|exact Or.inr rfl)(n:rj e (some (.Name x f)) pos.line X.env=pure false:=by rfl)(q:X.fn x=true∨X.env.scope.names.lookup x=some .local:=by first|exact .inl rfl|exact .inr rfl|assumption):
  PS X (.Assign [.Name x f] e pos) (aK te (eO i)):=Jf g j l h n q
theorem gn(i:Nat)(f:X.N.Nodup)(g:X.N[i]?=some x:=by rfl)(h:Loc X.env.scope x:=by first|exact Or.inl rfl|exact Or.inr rfl)(j:X.fn x=true∨X.env.scope.names.lookup x=some .local:=by first|exact .inl rfl|exact .inr rfl|assumption):PG X (.Name x pos) (eO i):=C7 f g h j
theorem gc(i:Nat)(f:X.N.Nodup:=by exact of_decide_eq_true (by with_unfolding_all rfl))(g:X.N[i]?=some x:=by rfl)(h:Loc X.env.scope x:=by exact Or.inl rfl)(j:X.fn x=true∨X.env.scope.names.lookup x=some .local:=by first|exact .inl rfl|exact .inr rfl|assumption):PG X (.Name x pos) (eO i):=C7 f g h j
theorem a1(f:PE X a ta)(g:aO [a] X.env=(false,eval a X.env)::aO [] X.env:=by rfl):PA X [a] (aw ta bu):=cC f cf g
theorem a2(g:PE X a ta)(h:PE X b tb)(i:aO [a,b] X.env=(false,eval a X.env)::aO [b] X.env:=by rfl)(f:aO [b] X.env=(false,eval b X.env)::aO [] X.env:=by rfl):PA X [a,b] (aw ta (aw tb bu)):=cC g (cC h cf f) i
theorem a3{c:Expr}{h:TE}(i:PE X a ta)(j:PE X b tb)(l:PE X c h)(n:aO [a,b,c] X.env=(false,eval a X.env)::aO [b,c] X.env:=by rfl)(f:aO [b,c] X.env=(false,eval b X.env)::aO [c] X.env:=by rfl)(g:aO [c] X.env=(false,eval c X.env)::aO [] X.env:=by rfl):PA X [a,b,c] (aw ta (aw tb (aw h bu))):=cC i (a2 j l f g) n
variable{elt iter tg:Expr}{ifs:List Expr}{scope:Scope}{fi:List Nat}{wi:TI}{g:TG}{tc:TT}
theorem qc(q:PI X tg iter wi)(r:AG k g)
  (h:∀C l f j ex n,PG (dY X (Iz tg++fi.map fun i=>X.N.getD i "") scope C l f j ex n) tg g/\IY (dY X (Iz tg++fi.map fun i=>X.N.getD i "") scope C l f j ex n) ifs tc/\PE (dY X (Iz tg++fi.map fun i=>X.N.getD i "") scope C l f j ex n) elt te)
  (s:mL X.env.scope scope k (Iz tg++fi.map fun i=>X.N.getD i "") X.N fi=true:=by with_unfolding_all rfl) (u:X.calm=true:=by rfl)
  (v:∀x,yU iter X.env x=pure x:=by intro _;rfl):PE X (.ListComp elt [⟨tg,iter,ifs,0⟩] scope pos) (dH k fi wi g tc te) :=
 HR s u q (fun _ _ _ _ _ _=>(h _ _ _ _ _ _).1) r (fun _ _ _ _ _ _=>(h _ _ _ _ _ _).2.1) (fun _ _ _ _ _ _=>(h _ _ _ _ _ _).2.2) v
theorem qsc(j:Nat){y:Str}{n u:Pos}(v:X.N.Nodup)(w:PI X tg iter wi)(z:AG k g)
  (h:∀C q f l ex r,PG (dY X (Iz tg++fi.map fun i=>X.N.getD i "") scope C q f l ex r) tg g/\IY (dY X (Iz tg++fi.map fun i=>X.N.getD i "") scope C q f l ex r) ifs tc/\PE (dY X (Iz tg++fi.map fun i=>X.N.getD i "") scope C q f l ex r) elt te)
  (A:X.N[j]?=some y:=by rfl) (B:Loc X.env.scope y:=by first|exact Or.inl rfl|exact Or.inr rfl)
  (D:mL X.env.scope scope k (Iz tg++fi.map fun i=>X.N.getD i "") X.N fi=true:=by with_unfolding_all rfl) (E:X.calm=true:=by rfl)
  (s:rj (.ListComp elt [⟨tg,iter,ifs,0⟩] scope pos) (some (.Name y u)) n.line X.env=pure true:=by rfl)
  (G:∀x,yU iter X.env x=pure x:=by intro _;rfl) (H:X.fn y=true∨X.env.scope.names.lookup y=some .local:=by first|exact .inl rfl|exact .inr rfl|assumption) :
  PS X (.Assign [.Name y u] (.ListComp elt [⟨tg,iter,ifs,0⟩] scope pos) n) (aK (dH k fi wi g tc te) (eO j)) :=
 BA v A B D E w (fun _ _ _ _ _ _=>(h _ _ _ _ _ _).1) z (fun _ _ _ _ _ _=>(h _ _ _ _ _ _).2.1) (fun _ _ _ _ _ _=>(h _ _ _ _ _ _).2.2) s G H
end
end L2
end

section
set_option Elab.async false
set_option linter.all false
set_option maxRecDepth 100000
namespace L2
open PySem PySem.Spec PyProof.Rows
def JD(d:Addr)(o:Obj)(kvs:List (cz×V)):It :=
 ⟨fun i H=>H d=some (.frz o (.dK kvs))/\i<kvs.length,fun i H x H'=>H'=H/\∃kv,kvs[i]?=some kv/\x=kV kv.1,fun i H=>H d=some (.frz o (.dK kvs))/\kvs.length<=i⟩
theorem Jq{k:cz}{v:Value}(h:dq k v=true):RelV (kV k) v:=by
 rcases aD h with⟨i,t,rfl,rfl⟩|⟨i,t,rfl,rfl⟩
 ·exact⟨t,rfl⟩
 ·exact⟨t,rfl⟩
theorem qH{α β:Type}{F:α->β->Prop}:∀{e:List α}{f:List β},Paired F e f->∀{i:Nat}{a:α}{b:β},e[i]?=some a->f[i]?=some b->F a b
 |_,_,.nil,_,_,_,h,_=>by simp at h
 |_,_,.cons r t,0,_,_,h,g=>by simp at h g;subst h g;exact r
 |_,_,.cons r t,i+1,_,_,h,g=>by simp at h g;exact qH t h g
theorem uF{P:bV}{w:World}{K:Za}{H:Hp}{h:Heap}{d:Addr}{o:Obj}{a:List (cz×V)}{k:Array iq}{n:Nat}(l:mh P w K H h)(e:H d=some (.frz o (.dK a)))(p:o.data=.dict k n):
  (d==gb)=false/\∃j,KV a j/\h.DictAt (bZ P w) d j n:=by
 obtain⟨g,_,f,j,m,s⟩:=(show bS P w K H h d (.frz o (.dK a))from l d _ e);obtain⟨t,v,x,i,u,q,r⟩:=s.dictAt;rw[g]at i;cases i;rw[p]at q;cases q;exact⟨f,j,m,o,_,g,u,p,r⟩
theorem DM{P:bV}{w:World}{K:Za}{tg:Expr}(d it:Addr)(o:Obj)(a:List (cz×V)){t:Array iq}{O:Nat}(Q:o.data=.dict t O):sf P w K tg (JD d o a) [it] it (fun i h=>h.IsKeyIter it d i a.length O) where
 mem:=by simp
 obj:=fun i h st b g=>by
  have e:b=it:=by simpa using g
  subst e;obtain⟨o,e,c,d⟩:=st;exact⟨o,e,fun v z=>by rw[d]at z;cases z⟩
 keep:=fun i h p st k=>by
  obtain⟨T,e,c⟩:=st;exact⟨T,k it (by simp) T e,c⟩
 item:=by
  intro X u x y U i Y s σ H E I q st A;subst u x y;obtain⟨hd,hi⟩:=A;obtain⟨m,l,f,B⟩:=uF I.hok hd Q;have r:=f.length;obtain⟨C,D,f2,G,J,L⟩:=q it (by simp);have M:i<l.length:=by omega
  have hx:l[i]?=some (l[i].1,l[i].2):=by simp[M]
  rw[r]at st;refine wpAny_pyNext_dict_item st B hx fun N p hk j sb=>?_;have I1:Inv X Y σ H { s with heap:=p }:=I.turned (t':=s.toks) (fun b o g e=>(sb.2 b g).trans e) C D G J L;obtain⟨oi,e,c,dd⟩:=id j;have n:a[i]?=some a[i]:=by simp[hi]
  have ek:a[i].1=l[i].1:=(qH f n hx).1;rw[<-r]at j;exact⟨N,rfl,uD (s:={ s with heap:=p }) e c dd (by decide) ⟨kV a[i].1,H,I1,Jq (by rw[ek];exact hk),⟨rfl,a[i],n,rfl⟩,j,fun b g=>(q b g).1⟩⟩
 done:=by
  intro X u x y U i Y s σ H E I q st A;subst u x y;obtain⟨hd,hi⟩:=A;obtain⟨m,l,f,B⟩:=uF I.hok hd Q;have r:=f.length;obtain⟨C,D,f2,G,J,L⟩:=q it (by simp);rw[r]at st;exact wpAny_pyNext_dict_end (I.ok.hd U) st B (by simp;omega) fun p eb=>⟨rfl,I.turned (t':=s.toks) (fun b o g e=>eb b o g e) C D G J L⟩
 self:=fun _ _ _ _ _ st h=>wpAny_pyIter_keyiter st h
def IM(tl:TE):TI:=fun σ H R=>tl σ H fun x H1=>∃d kvs,x=.ref d /\
 ((H1 d=some (.dK kvs)/\∀o,R (JD d o kvs) (upd H1 d (.frz o (.dK kvs))))∨∃o,H1 d=some (.frz o (.dK kvs))/\R (JD d o kvs) H1)
theorem GF{P:bV}{w:World}{K:Za}{H:Hp}{h:Heap}{d:Addr}{o:Obj}{e:List (cz×V)}(x:bS P w K H h d (.frz o (.dK e))):∃f i,o.data=.dict f i:=by
 obtain⟨g,_,_,m,_,j⟩:=x;obtain⟨k,n,p,a,q,l,r⟩:=j.dictAt;rw[g]at a;cases a;exact⟨_,_,l⟩
theorem HK{X:Cx}{B l:Expr}{C:TE}(p:PE X l C):PI X B l (IM C):=by
 intro n s σ H R I h;refine cF (p n s σ H _ I h) fun v s1 t=>?_;obtain⟨x,u,y,G,J⟩:=t;obtain⟨d,a,e,q⟩:=J;subst e;cases G;have g:∀(k:Hp) (o:Obj),Inv X n σ k s1->k d=some (.frz o (.dK a))->R (JD d o a) k->wpAny (model X.prog X.w) X.A (pyIter (.ref d)) (J9 X n σ B R) X.xe s1:=by
  intro k o i e q;obtain⟨L,M,m⟩:=GF (i.hok d _ e);obtain⟨f,D,j,N⟩:=uF i.hok e m;have p:=j.length;refine wpAny_pyIter_dict f N ?_;refine⟨s1.heap.objs.size,[s1.heap.objs.size],_,_,k,rfl,i.kept (t':=s1.toks) fun b o e=>cx _ e,DM d _ o a m,?_,fun b O=>?_,q⟩
  ·rw[p];exact⟨_,dL _ rfl,rfl,rfl⟩
  ·have e:b=s1.heap.objs.size:=by simpa using O
   subst e;exact i.fpOk (aG _) (i.hok.fresh (aG _))
 rcases q with⟨e,q⟩|⟨o,e,q⟩
 ·obtain⟨z,f,D,j,E⟩:=(show bS X.prog X.w X.K u s1.heap d (.dK a)from y.hok d _ e);obtain⟨M,o,Q,m,r⟩:=id E.dictAt;have i:Inv X n σ (upd u d (.frz o (.dK a))) { s1 with heap:=s1.heap,toks:=s1.toks } :=
   y.write (x:=d) (e:=d) (t':=s1.toks) (by rw[e];trivial) (.inl rfl) (fun _ _ _ q=>q) ⟨o,m⟩ ⟨m,z,f,D,j,E⟩
  exact g _ o i aa (q o)
 ·exact g u o y e q
abbrev IE(K:Za):List V->Hp->VK->Prop:=fun xs H Q=>dS K xs H Q∨∃(d:Addr) (kvs:List (cz×V)),xs=[.ref d]/\Rd H d (.dK kvs)/\Q (.int kvs.length) H
theorem ER{X:Cx}:fZ X (.builtin "len") (IE X.K):=by
 refine wE.or ?_;intro i s σ H j k Q I r h;obtain⟨d,a,rfl,e,q⟩:=h;obtain⟨u,rfl,f⟩:=vals1 r;cases f;exact J7 I e fun t l g=>⟨.int a.length,H,g,⟨t,rfl⟩,q⟩
structure vH(h:Heap)(d:Addr)(es:Array iq)(ep:Nat):Prop where
 ex:∃o,h.get? d=some o/\o.ExactDict/\o.data=.dict es ep
section
variable{prog:bV}{w:World}{A:Around}{E:Zc}{s:Shared}{d v it:Addr}{es:Array iq}{ep i:Nat}
theorem vH.ty(h:vH s.heap d es ep):s.TypeIs (.ref d) "dict":=let⟨o,a,e,_⟩:=h.ex;⟨o,a,e.1⟩
theorem Ef{Q:Zc}(h:vH s.heap d es ep)(a:(d==gb)=false)(q:Q (.ref s.heap.objs.size) { s with heap:=s.heap.push { cls:=.type "dict_items",data:=.fields #[.ref d] } }):
  wpAny (model prog w) A (call (.builtin "dict.items") [.ref d]) Q E s:=by
 refine wN F.slot_dict_items h.ty F.entry_dict_items ?_ (F.args_dict_items_1 _);unfold cV.«dict.items» cV.Dict.noArgs;refine aq <| aq <| xh h.ty <| ?_;refine aV (show wpAny _ _ (xg d >>= _) _ _ s from ?_);unfold xg;rw[if_neg (fun z=>by rw[a]at z;cases z)];exact aq <| aV <| aq <| lC <| aV ⟨_,rfl,q⟩
theorem FR{Q:Zc}(f:s.heap.IsItemsView v d)(h:vH s.heap d es ep)
  (q:∀g,iY g s.heap.objs.size d 0 es.size ep .none .none->(∀b o,s.heap.get? b=some o->g.get? b=some o)->Q (.ref s.heap.objs.size) { s with heap:=g }):wpAny (model prog w) A (pyIter (.ref v)) Q E s:=by
 obtain⟨n,j,m,k⟩:=id f;obtain⟨o,l,p,a⟩:=h.ex;refine wpAny_pyIter_slot f.typeIs F.slot_dict_items_iter <| wN F.slot_dict_items_iter f.typeIs F.entry_dict_items_iter ?_ (F.args_dict_items_iter_1 _);unfold cV.«dict_items.__iter__» cV.Dict_items.dictOf cV.Dict_items.newIterator;refine aq <| aV <| aq <| aq <| xf j k (x:=.ref d) rfl <| aV <| aq <| aq <| nD l a <| aq <| p_ l a ?_;simp only[show s_ "dict_itemiterator"=true by decide,if_true];refine lC (aV ⟨_,rfl,"dict_itemiterator",_,⟨_,dL _ rfl,rfl⟩,sZ.lookup,?_⟩) ?_
 ·refine q _ ?_ fun b o e=>cx _ e;simpa[rawInt,iY,cV.Dict_items.ownedTupleFields]using dL s.heap (o:={ cls:=.type "dict_itemiterator",data:=.fields #[.none,.bool false,.ref d,.int 0 0,.int es.size 0,.int ep 0,.none,.none] }) rfl
 ·simp only[sizeOk,cV.Dict_items.ownedTupleFields,bQ,au,fo,tz,ga];omega
theorem FP{ok n:Value}{Q:Option Value->Shared->Prop}(a:iY s.heap it d i es.size ep ok n)(h:vH s.heap d es ep)(hi:i<es.size)
  (q:∀p,IsItemIterOut p it d (i+1) es.size ep es[i].key es[i].val s.heap.objs.size->p.get? s.heap.objs.size=some { cls:=.type "tuple",data:=.seq #[es[i].key,es[i].val] } ->
   (∀b o,b≠it->s.heap.get? b=some o->p.get? b=some o)->Q (some (.ref s.heap.objs.size)) { s with heap:=p }):wpAny (model prog w) A (pyNext (.ref it)) Q E s:=by
 obtain⟨o,T,hx,l⟩:=h.ex;obtain⟨f,g,u,tk,os⟩:=s;have ty:∀{p:Heap}{ok n:Value}{j:Nat},iY p it d j es.size ep ok n->Shared.TypeIs ⟨p,g,u,tk,os⟩ (.ref it) "dict_itemiterator":=fun x=>⟨_,x,rfl⟩;have r:=ty a;have own:s_ "dict_itemiterator"=true:=by decide
 unfold pyNext;refine aq <| xc <| xb (name:=xa "__next__") r sZ <| wN sZ r F.entry_dict_itemiterator_next ?_ (F.args_dict_itemiterator_next_1 _);refine aq <| aV <| aq <| aq ?_
 first|refine aq <| w_ r <| aV ?_|refine aq <| w8 r <| aV ?_
 refine aq <| w6 a rfl ?_;simp only[own,if_true];show wpAny _ _ (if(Value.ref d==Value.none)=true then _ else _) _ _ _
 rw[if_neg (show ¬((Value.ref d==Value.none)=true)from h7)];refine aq <| aV <| aq <| nD T l ?_;rw[if_neg (by simp)];refine aq <| aV <| aq <| p_ T l ?_;rw[if_neg (by simp)];refine aV ?_;simp only[show ¬((i:Int)<0)from by omega,if_false,lG,Array.getElem?_eq_getElem hi];refine aq ?_
 first|refine aq <| w_ r <| aV ?_|refine aq <| w8 r <| aV ?_
 refine aq <| wpAny_isOneOf_itemiter r ?_;show wpAny _ _ (wZ (.ref it) 3 (rawInt ((i:Int)+1)) >>= _) _ _ ⟨f,g,u,tk,os⟩;refine aq <| sY a (by simp) fun m y B=>?_;have B:gL it f m:=B;have y:iY m it d (i+1) es.size ep ok n:=by
  have z:((i+1:Nat):Int)=(i:Int)+1:=by omega
  unfold iY;rw[z];simpa[rawInt]using y
 have U:=ty y;refine aq <| lA <| aq <| wpAny_isOneOf_itemiter U <| aq <| wpAny_isOneOf_itemiter U ?_;show wpAny _ _ (cV.Dict_items.pairFromOwner (.ref it) 6 es[i].key es[i].val) _ _ ⟨m,g,u,tk,os⟩;unfold cV.Dict_items.pairFromOwner;refine aq <| wpAny_newTuple ?_;have t:iY (m.push { cls:=.type "tuple",data:=.seq #[es[i].key,es[i].val] }) it d (i+1) es.size ep ok n:=cx _ y;have Y:m.objs.size=f.objs.size:=B.1;have t2:(m.push { cls:=.type "tuple",data:=.seq #[es[i].key,es[i].val] }).get? f.objs.size=some { cls:=.type "tuple",data:=.seq #[es[i].key,es[i].val] }:=by rw[<-Y];exact dL _ rfl
 have k2:∀b o,b≠it->f.get? b=some o->(m.push { cls:=.type "tuple",data:=.seq #[es[i].key,es[i].val] }).get? b=some o:=fun b o k e=>cx _ (B.extBut b o k e);rw[Y];generalize m.push { cls:=.type "tuple",data:=.seq #[es[i].key,es[i].val] }=D at t t2 k2;show wpAny _ _ (cV.Dict_items.ownedTupleIsFree (.ref it) >>= _) _ _ ⟨D,g,u,tk,os⟩;have lt:it<f.objs.size:=bC a;have ne:f.objs.size≠it:=lh lt;refine aq ?_;unfold cV.Dict_items.ownedTupleIsFree;refine aq <| xf t rfl (x:=.none) rfl <| aV ?_;simp only[if_true];refine aq <| xf t rfl (x:=ok) rfl <| aq <| xf t rfl (x:=n) rfl <| aq <| sY t (by simp) fun G H s3=>?_;have s3:gL it D G:=s3;have H:iY G it d (i+1) es.size ep es[i].key n:=H;refine aq <| sY H (by simp) fun I J s4=>?_;have s4:gL it G I:=s4;have J:iY I it d (i+1) es.size ep es[i].key es[i].val:=J;refine aq <| sY J (by simp) fun L M s5=>?_;have s5:gL it I L:=s5;have M:IsItemIterOut L it d (i+1) es.size ep es[i].key es[i].val f.objs.size:=M;refine aq <| sY M (by simp) fun C N O=>?_;have O:gL it L C:=O;have N:IsItemIterOut C it d (i+1) es.size ep es[i].key es[i].val f.objs.size:=N;have up:∀b o,b≠it->D.get? b=some o->C.get? b=some o:=fun b o k e=>O.extBut b o k <| s5.extBut b o k <| s4.extBut b o k <| s3.extBut b o k e;exact aq <| wpAny_letGo <| aV <| aV ⟨_,rfl,aV <| q C N (up _ _ ne t2) fun b o k e=>up b o k (k2 b o k e)⟩
theorem HE{ok l:Value}{Q:Option Value->Shared->Prop}(n:A.handled=none)(f:iY s.heap it d i es.size ep ok l)(h:vH s.heap d es ep)(p:es.size<=i)
  (q:∀j,Heap.ExtBut it s.heap j->Q none { s with heap:=j }):wpAny (model prog w) A (pyNext (.ref it)) Q E s:=by
 obtain⟨o,k,r,e⟩:=h.ex;have g:s.TypeIs (.ref it) "dict_itemiterator":=⟨_,f,rfl⟩;have own:s_ "dict_itemiterator"=true:=by decide
 unfold pyNext;refine aq <| xc <| xb (name:=xa "__next__") g sZ <| wN sZ g F.entry_dict_itemiterator_next ?_ (F.args_dict_itemiterator_next_1 _);refine aq <| aV <| aq <| aq ?_
 first|refine aq <| w_ g <| aV ?_|refine aq <| w8 g <| aV ?_
 refine aq <| w6 f rfl ?_;simp only[own,if_true];show wpAny _ _ (if(Value.ref d==Value.none)=true then _ else _) _ _ _
 rw[if_neg (show ¬((Value.ref d==Value.none)=true)from h7)];refine aq <| aV <| aq <| nD k e ?_;rw[if_neg (by simp)];refine aq <| aV <| aq <| p_ k e ?_;rw[if_neg (by simp)];refine aV ?_;simp only[show ¬((i:Int)<0)from by omega,if_false,lG,Array.getElem?_eq_none p];refine aq ?_
 first|refine aq <| w_ g <| aV ?_|refine aq <| w8 g <| aV ?_
 show wpAny _ _ (wZ (.ref it) 2 .none >>= _) _ _ s;refine aq <| wpAny_setField f rfl (by simp) ?_;show wpAny _ _ (newExc (.type "StopIteration") [] >>= _) _ _ _;refine aq ?_;simp only[newExc,newTuple];refine aq <| lC ?_ (by size_fits);refine aq (m:=wY _ _) <| wpAny_of_eq (a:=Value.none) (by first|rfl|(simp only[wY];rfl)) <| lC ?_ (by size_fits)
 simp only[raiseNew];refine aq <| wpAny_handled ?_;rw[show A.in1.handled=none from n];refine aq <| aV <| wpAny_throw ?_;refine aq (CQ (b:=true) (T:="StopIteration") ⟨_,dL _ rfl,rfl⟩ isSubtype_stop (aV (q _ (((qb ..).extBut.push _).push _))))
end
def Ix(d:Addr)(o:Obj)(u:HO)(n:Nat)(ent:Nat->Hp->V->V->Prop):It :=
 ⟨fun i H=>H d=some (.frz o u)/\i<n,fun i H x H'=>∃p a b,H p=none/\x=.ref p/\ent i H a b/\H'=upd H p (.tup [a,b]),fun i H=>H d=some (.frz o u)/\n<=i⟩
structure G9(P:bV)(w:World)(K:Za)(d:Addr)(o:Obj)(u:HO)(n:Nat)(ent:Nat->Hp->V->V->Prop)(es:Array iq)(ep:Nat):Prop where
 ex:o.ExactDict
 dat:o.data=.dict es ep
 sz:es.size=n
 get:∀{H:Hp}{h:Heap}{i:Nat}(hi:i<es.size),mh P w K H h->H d=some (.frz o u)->∃a b,ent i H a b/\RelV a es[i].key/\RelV b es[i].val
theorem AV{P:bV}{w:World}{K:Za}{xs:List Expr}{kx:Nat}{J5:Pos}{d it:Addr}{o:Obj}{u:HO}{n:Nat}{r:Nat->Hp->V->V->Prop}{m:Array iq}{ep:Nat}(f:G9 P w K d o u n r m ep):
  sf P w K (.Tuple xs kx J5) (Ix d o u n r) [it] it (fun i h=>∃ok p,iY h it d i n ep ok p) where
 mem:=by simp
 obj:=fun i h ⟨ok,p,st⟩ b l=>by
  have e:b=it:=by simpa using l
  subst e;exact⟨_,st,fun v z=>by cases z⟩
 keep:=fun i h B ⟨ok,p,st⟩ k=>⟨ok,p,k it (by simp) _ st⟩
 item:=by
  intro X G J L hc i J2 s σ H E I C ⟨ok,p,st⟩ M;subst G J L;obtain⟨D,N⟩:=M;have t:i<m.size:=by rw[f.sz];exact N
  obtain⟨g,ou⟩:=(show bS X.prog X.w X.K H s.heap d (.frz o u)from I.hok d _ D);obtain⟨a,b,en,ra,rb⟩:=f.get t I.hok D;obtain⟨O,f1,f2,f3,f4,f5⟩:=C it (by simp);rw[<-f.sz]at st;refine FP st ⟨o,g,f.ex,f.dat⟩ t fun B Q T U=>?_;refine⟨_,rfl,wpAny_letOwnedTupleGo_items (s:={ s with heap:=B }) Q fun Y al an=>?_⟩;have j:gL it B Y:=an;have x:s.heap.objs.size≠it:=lh (bC st);have y:Y.get? s.heap.objs.size=some { cls:=.type "tuple",data:=.seq #[m[i].key,m[i].val] }:=j.extBut _ _ x T;have as:H s.heap.objs.size=none:=I.fresh;have I2:Inv X J2 σ (upd H s.heap.objs.size (.tup [a,b])) { s with heap:=Y,toks:=s.toks }:=by
   refine I.turnedNew (ch:=[it]) C (fun c o l q=>?_) ⟨_,y⟩ (fun _ z=>nomatch z) ⟨by show 2<=ak;decide,[m[i].key,m[i].val],.cons ra (.cons rb .nil),⟨_,y,rfl,_,rfl⟩⟩;have A:c≠it:=fun z=>l (by simp[z]);exact j.extBut _ _ A (U c o A q)
  refine⟨.ref s.heap.objs.size,_,I2,rfl,⟨_,a,b,as,rfl,en,rfl⟩,⟨_,_,by rw[<-f.sz];exact al⟩,fun c l=>?_⟩;have e:c=it:=by simpa using l
  subst e;rw[ag (dF x)];exact O
 done:=by
  intro X G J L hc i J2 s σ H E I C ⟨ok,p,st⟩ M;subst G J L;obtain⟨D,N⟩:=M;obtain⟨g,ou⟩:=(show bS X.prog X.w X.K H s.heap d (.frz o u)from I.hok d _ D);obtain⟨O,f1,f2,f3,f4,f5⟩:=C it (by simp);rw[<-f.sz]at st;exact HE (I.ok.hd hc) st ⟨o,g,f.ex,f.dat⟩ (by rw[f.sz];exact N) fun B eb=>⟨rfl,I.turned (t':=s.toks) (fun b o l e=>eb b o l e) O f1 f3 f4 f5⟩
 self:=fun _ _ _ _ _ ⟨_,_,st⟩ h=>PySem.W.kcp_self st h
def BZ(K:Za)(kvs:List (TK×V)):Nat->Hp->V->V->Prop:=fun i H a b=>∃k,kvs[i]?=some (k,b)/\oe K H k a
theorem mI{P:bV}{w:World}{K:Za}{H:Hp}{h:Heap}{d:Addr}{o:Obj}{f:List (TK×V)}(s:mh P w K H h)(e:H d=some (.frz o (.dT f))):
  (d==gb)=false/\∃es t,G9 P w K d o (.dT f) f.length (BZ K f) es t:=by
 obtain⟨g,z,n,D,u,o',es,t,p,ex,y,v,nd⟩:=(show bS P w K H h d (.frz o (.dT f))from s d _ e);rw[g]at p;cases p;have E:es.size=D.length:=by rw[<-mZ,v,aj]
 refine⟨n,es,t,ex,y,by rw[E,Paired.length u],fun{G I i} J q L=>?_⟩;obtain⟨M,z',x,xs',j,N,O,Q,k,T,r,l,U⟩:=(show bS P w K G I d (.frz o (.dT f))from q d _ L);rw[M]at k;cases k;rw[y]at r;cases r;have Y:es.size=xs'.length:=by rw[<-mZ,l,aj]
 have m:i<xs'.length:=by omega
 have A:i<f.length:=by rw[Paired.length j];exact m
 have B:=qH j (i:=i) (a:=f[i]) (b:=xs'[i]) (by simp[A]) (by simp[m]);have C:es[i]=entryOfKey (eA P w) xs'[i]:=by
  have:es.toList[i]?=some es[i]:=by simp[J]
  rw[l,cb,b_ m]at this;injection this with this;exact this.symm
 refine⟨.ref xs'[i].2.1,f[i].2,⟨f[i].1,by simp[A],B.2.1⟩,?_,?_⟩
 ·rw[C];exact rfl
 ·rw[C];exact B.2.2.2
def yo(K:Za)(tl:TE):TI:=fun σ H R=>tl σ H fun x H1=>∃d kvs,x=.ref d /\
 ((H1 d=some (.dT kvs)/\∀o,R (Ix d o (.dT kvs) kvs.length (BZ K kvs)) (upd H1 d (.frz o (.dT kvs))))∨∃o,H1 d=some (.frz o (.dT kvs))/\R (Ix d o (.dT kvs) kvs.length (BZ K kvs)) H1)
section
variable{X:Cx}{J2:Zd}{σ:St}{l:Expr}{tl:TE}{J4 J3 J5:Pos}{xs:List Expr}{kx:Nat}
theorem uC{R:It->Hp->Prop}{h:Hp}{s1:Shared}{d:Addr}{o:Obj}{u:HO}{n:Nat}{i:Nat->Hp->V->V->Prop}{r:Array iq}{t:Nat}(f:G9 X.prog X.w X.K d o u n i r t)(j:(d==gb)=false)(m:Inv X J2 σ h s1)(e:h d=some (.frz o u))(q:R (Ix d o u n i) h):
  MethodOn X.prog X.w X.A "items" J3 (.ref d) [] (fun v x=>wpAny (model X.prog X.w) X.A (pyIter v) (J9 X J2 σ (.Tuple xs kx J5) R) X.xe x) X.xe s1:=by
 obtain⟨g,_⟩:=(show bS X.prog X.w X.K h s1.heap d (.frz o u)from m.hok d _ e);have k:vH s1.heap d r t:=⟨o,g,f.ex,f.dat⟩;refine⟨"dict","dict.items",F.plainAttrs_dict,F.slot_dict_items,F.type_dict_items,k.ty,fun a z=>?_,tF rfl (PySem.evalArgs_none (Ef k j ?_))⟩
 ·cases z;exact⟨o,g,f.ex.2.1⟩
 refine FR (s:={ s1 with heap:=s1.heap.push { cls:=.type "dict_items",data:=.fields #[.ref d] } }) ⟨_,dL _ rfl,rfl,rfl⟩ ⟨o,cx _ g,f.ex,f.dat⟩ fun y p B=>?_;have C:Inv X J2 σ h { s1 with heap:=y,toks:=s1.toks }:=m.kept (t':=s1.toks) fun b o e=>B b o (cx _ e);refine⟨_,[_],_,_,h,rfl,C,AV f,⟨_,_,by rw[<-f.sz];exact p⟩,fun b D=>?_,q⟩;have e:b=(s1.heap.push { cls:=.type "dict_items",data:=.fields #[.ref d] }).objs.size:=by simpa using D
 subst e;have z:s1.heap.objs.size<=(s1.heap.push { cls:=.type "dict_items",data:=.fields #[.ref d] }).objs.size:=by rw[CH];exact sH _
 exact m.fpOk z (m.hok.fresh z)
theorem v7(G:PE X l tl)(g:sJ l "items" X.env (eval l X.env)=eval l X.env:=by rfl)(i:(J4.endLine==J3.line)=true:=by rfl):PI X (.Tuple xs kx J5) (.Call (.Attribute l "items" J4) [] [] J3) (yo X.K tl):=by
 intro J2 s σ H R I h;refine wpAny_Call_method0_late g i (cF (G J2 s σ H _ I h) fun v s1 n=>?_);obtain⟨x,t,m,J,d,j,ex,q⟩:=n;subst ex;cases J;rcases q with⟨e,q⟩|⟨o,e,q⟩
 ·obtain⟨z,k,xs',u,o,L,M,y,r⟩:=id (show bS X.prog X.w X.K t s1.heap d (.dT j)from m.hok d _ e);have E:Inv X J2 σ (upd t d (.frz o (.dT j))) { s1 with heap:=s1.heap,toks:=s1.toks } :=
   m.write (x:=d) (e:=d) (t':=s1.toks) (by rw[e];trivial) (.inl rfl) (fun _ _ _ q=>q) ⟨o,y⟩ ⟨y,z,k,xs',Paired.mapP u (fun p q r=>⟨r.1,oe.keeps (fun b N A=>by rw[ag (fun z=>by rw[z,e]at A;cases A)];exact A) 8 r.2.2.1 r.2.1,r.2.2⟩),o,L,M,y,r⟩
  obtain⟨f,B,C,D⟩:=mI E.hok (aa (H:=t) (a:=d));exact uC D f E aa (q o)
 ·obtain⟨f,B,C,D⟩:=mI m.hok e;exact uC D f m e q
end
def xK(K:Za)(tk tv:TE):TE:=fun σ H Q=>∀p,H p=none->tk σ (upd H p (.dT [])) fun x H1=>tv σ H1 fun y H2=>H2 p=some (.dT [])/\∃b k,x=.ref b/\oe K H2 k (.ref b)/\k.depth<=8/\Q (.ref p) (upd H2 p (.dT [(k,y)]))
theorem v8{X:Cx}{f:Pos}{k v:Expr}{tk l:TE}(hu:X.A.units+16<cLine)(C:PE X k tk)(D:PE X v l):PE X (.Dict [some k] [v] f) (xK X.K tk l):=by
 intro m s σ H Q I q;have E:=I.hok.fresh (aG s.heap.objs.size);have h:=I.laid (a:=s.heap.objs.size) (o:=.dT []) (h':=s.heap.push { cls:=.type "dict",data:=.dict #[] }) (t':=s.toks) (fun _ _ q=>cx _ q) (aG _) (As s.heap I.big);rw[arm_eval_Dict,zip_pairTrees [some k] [v] X.env f rfl rfl,dictDisplay_pairs (xu [some k] [v] X.env f) (by unfold xu;simp) (by show 1<17;decide)];refine aq (CN (aq ?_));unfold subDict;refine aq (wpAny_alloc ?_);refine aq (lA ?_);rw[if_pos (show(xu [some k] [v] X.env f).length<=15 from by show 1<=15;decide)];refine aq (pairTrees_cons_walk (cF (C m _ σ _ _ h (q _ E)) fun u G ⟨x,J,h,L,M⟩=>cF (D m G σ J _ h M) fun r s2 ⟨y,H2,g,N,e,b,O,ex,n,p,T⟩=>pairTrees_nil_walk ?_));subst ex;cases L;refine lA ?_;obtain⟨z,U,xs,i,Y⟩:=Dq g.hok g.kIn e;cases i;rw[xm];refine aq (aq (aq (wpAny_dictSet_heap (hsz:=c_ _) (show(eA X.prog X.w).room X.A from by show X.A.units+8<cLine;omega) (uz g.hok g.kIn n p) Y fun h' j hs=>aV ?_)));show wpAny _ _ (forIn [] PUnit.unit _) _ _ _;rw[List.forIn_nil];refine aV (aV (aV (aV ⟨.ref s.heap.objs.size,_,?_,rfl,T⟩)));obtain⟨q,es,ep,t,h2,h3,h4,_,h5⟩:=j;refine mK g (by rw[e];exact iC) hs ⟨q,t⟩ ⟨by show 1<=ak;decide,U,_,((KT.put (kvs:=[]) .nil O n p N)).keeps fun c ys B=>?_,q,es,ep,t,h2,h3,h4,h5⟩;rw[ag (Di B e (fun z=>nomatch z))];exact B
section
variable{prog:bV}{w:World}{A:Around}{E:Zc}{s:Shared}{d v it:Addr}{es:Array iq}{ep i:Nat}
theorem Ee{Q:Zc}(j:(d==gb)=false)(h:vH s.heap d es ep)
  (q:∀f,f.IsKeyIter s.heap.objs.size d 0 es.size ep->(∀b o,s.heap.get? b=some o->f.get? b=some o)->Q (.ref s.heap.objs.size) { s with heap:=f }):wpAny (model prog w) A (pyIter (.ref d)) Q E s:=by
 obtain⟨o,g,k,a⟩:=h.ex;refine wpAny_pyIter_slot h.ty F.slot_dict_iter <| wN F.slot_dict_iter h.ty F.entry_dict_iter ?_ (F.args_dict_iter_1 _);unfold cV.«dict.__iter__»;refine aq ?_;unfold cV.Dict.dictSlotNone;refine aq <| xh h.ty <| ?_;refine aV (show wpAny _ _ (xg d >>= _) _ _ s from ?_);unfold xg;rw[if_neg (fun z=>by rw[j]at z;cases z)];refine aq <| aV <| aq <| nD g a <| aq <| p_ g a ?_;refine aq (lC (aV ⟨_,rfl,"dict_keyiterator",_,⟨_,dL _ rfl,rfl⟩,sW.lookup,?_⟩));exact q _ ⟨_,dL _ rfl,rfl,by simp[rawInt]⟩ fun b o e=>cx _ e
theorem Ed{Q:Option Value->Shared->Prop}(j:s.heap.IsKeyIter it d i es.size ep)(h:vH s.heap d es ep)(p:i<es.size)
  (q:∀k,k.IsKeyIter it d (i+1) es.size ep->gL it s.heap k->Q (some es[i].key) { s with heap:=k }):wpAny (model prog w) A (pyNext (.ref it)) Q E s:=by
 obtain⟨t,f,l,a⟩:=id j;obtain⟨o,m,u,e⟩:=h.ex;have g:=j.typeIs;unfold pyNext;refine aq <| xc <| xb (name:=xa "__next__") g sW <| wN sW g F.entry_dict_keyiterator_next ?_ (F.args_dict_keyiterator_next_1 _);refine aq <| aV <| aq <| aq ?_
 first|refine aq <| wX g <| aV ?_|refine aq <| wW g <| aV ?_
 refine aq <| w6 f a ?_;simp only[show s_ "dict_keyiterator"=false by decide,lB,if_false];show wpAny _ _ (if(Value.ref d==Value.none)=true then _ else _) _ _ _
 rw[if_neg (show ¬((Value.ref d==Value.none)=true)from h7)];refine aq <| aV <| aq <| nD m e ?_;rw[if_neg (by simp)];refine aq <| aV <| aq <| p_ m e ?_;rw[if_neg (by simp)];refine aV ?_;simp only[show ¬((i:Int)<0)from by omega,if_false,lG,Array.getElem?_eq_getElem p];refine aq ?_
 first|refine aq <| wX g <| aV ?_|refine aq <| wW g <| aV ?_
 refine aq <| wpAny_isOneOf_keyiter g ?_;show wpAny _ _ (wZ (.ref it) 1 (rawInt ((i:Int)+1)) >>= _) _ _ s;refine aq <| wpAny_setField f a (by simp) ?_;have n:(s.heap.update it (Obj.mapFields (·.setIfInBounds 1 (rawInt ((i:Int)+1))))).IsKeyIter it d (i+1) es.size ep:=⟨_,Heap.get?_update_self _ f (Obj.isFreed_of_fields (Obj.data_mapFields a _)),(Obj.cls_mapFields ..).trans l,by rw[Obj.data_mapFields a];simp[rawInt]⟩;have r:=Heap.IsKeyIter.typeIs (s:={ s with heap:=s.heap.update it (Obj.mapFields (·.setIfInBounds 1 (rawInt ((i:Int)+1)))) }) n;refine aq <| lA <| aq <| wpAny_isOneOf_keyiter r ?_;show wpAny _ _ (pure es[i].key) _ _ _;exact aV <| aV ⟨_,rfl,aV <| q _ n (qb ..)⟩
theorem FQ{Q:Option Value->Shared->Prop}(p:A.handled=none)(g:s.heap.IsKeyIter it d i es.size ep)(h:vH s.heap d es ep)(r:es.size<=i)
  (q:∀l,Heap.ExtBut it s.heap l->Q none { s with heap:=l }):wpAny (model prog w) A (pyNext (.ref it)) Q E s:=by
 obtain⟨u,j,t,k⟩:=id g;obtain⟨o,n,x,e⟩:=h.ex;have f:=g.typeIs;unfold pyNext;refine aq <| xc <| xb (name:=xa "__next__") f sW <| wN sW f F.entry_dict_keyiterator_next ?_ (F.args_dict_keyiterator_next_1 _);refine aq <| aV <| aq <| aq ?_
 first|refine aq <| wX f <| aV ?_|refine aq <| wW f <| aV ?_
 refine aq <| w6 j k ?_;simp only[show s_ "dict_keyiterator"=false by decide,lB,if_false];show wpAny _ _ (if(Value.ref d==Value.none)=true then _ else _) _ _ _
 rw[if_neg (show ¬((Value.ref d==Value.none)=true)from h7)];refine aq <| aV <| aq <| nD n e ?_;rw[if_neg (by simp)];refine aq <| aV <| aq <| p_ n e ?_;rw[if_neg (by simp)];refine aV ?_;simp only[show ¬((i:Int)<0)from by omega,if_false,lG,Array.getElem?_eq_none r];refine aq ?_
 first|refine aq <| wX f <| aV ?_|refine aq <| wW f <| aV ?_
 show wpAny _ _ (wZ (.ref it) 0 .none >>= _) _ _ s;refine aq <| wpAny_setField j k (by simp) ?_;show wpAny _ _ (newExc (.type "StopIteration") [] >>= _) _ _ _;refine aq ?_;simp only[newExc,newTuple];refine aq <| lC ?_ (by size_fits);refine aq (m:=wY _ _) <| wpAny_of_eq (a:=Value.none) (by first|rfl|(simp only[wY];rfl)) <| lC ?_ (by size_fits)
 simp only[raiseNew];refine aq <| wpAny_handled ?_;rw[show A.in1.handled=none from p];refine aq <| aV <| wpAny_throw ?_;refine aq (CQ (b:=true) (T:="StopIteration") ⟨_,dL _ rfl,rfl⟩ isSubtype_stop (aV (q _ (((qb ..).extBut.push _).push _))))
end
def Kc(d:Addr)(o:Obj)(u:HO)(n:Nat)(ent:Nat->Hp->V->V->Prop):It :=
 ⟨fun i H=>H d=some (.frz o u)/\i<n,fun i H x H'=>H'=H/\∃b,ent i H x b,fun i H=>H d=some (.frz o u)/\n<=i⟩
theorem DJ{P:bV}{w:World}{K:Za}{U:Expr}{d it:Addr}{o:Obj}{u:HO}{n:Nat}{l:Nat->Hp->V->V->Prop}{N:Array iq}{O:Nat}(f:G9 P w K d o u n l N O):
  sf P w K U (Kc d o u n l) [it] it (fun i h=>h.IsKeyIter it d i n O) where
 mem:=by simp
 obj:=fun i h st b j=>by
  have e:b=it:=by simpa using j
  subst e;obtain⟨o,e,c,d⟩:=st;exact⟨o,e,fun v z=>by rw[d]at z;cases z⟩
 keep:=fun i h q st k=>st.at fun o e=>k it (by simp) o e
 item:=by
  intro X x y A Q i T s σ H E I r st B;subst x y A;obtain⟨t,C⟩:=B;have m:i<N.size:=by rw[f.sz];exact C
  obtain⟨g,Y⟩:=(show bS X.prog X.w X.K H s.heap d (.frz o u)from I.hok d _ t);obtain⟨a,b,en,ra,rb⟩:=f.get m I.hok t;obtain⟨D,G,f2,J,L,M⟩:=r it (by simp);rw[<-f.sz]at st;refine Ed st ⟨o,g,f.ex,f.dat⟩ m fun q p sb=>?_;have I1:Inv X T σ H { s with heap:=q }:=I.turned (t':=s.toks) (fun b o j e=>(sb.2 b j).trans e) D G J L M;obtain⟨oi,e,c,dd⟩:=id p;exact⟨_,rfl,uD (s:={ s with heap:=q }) e c dd (by decide) ⟨a,H,I1,ra,⟨rfl,b,en⟩,by rw[<-f.sz];exact p,fun b j=>(r b j).1⟩⟩
 done:=by
  intro X x y A Q i T s σ H E I r st B;subst x y A;obtain⟨t,C⟩:=B;obtain⟨g,Y⟩:=(show bS X.prog X.w X.K H s.heap d (.frz o u)from I.hok d _ t);obtain⟨D,G,f2,J,L,M⟩:=r it (by simp);rw[<-f.sz]at st;exact FQ (I.ok.hd Q) st ⟨o,g,f.ex,f.dat⟩ (by rw[f.sz];exact C) fun q eb=>⟨rfl,I.turned (t':=s.toks) (fun b o j e=>eb b o j e) D G J L M⟩
 self:=fun _ _ _ _ _ st h=>wpAny_pyIter_keyiter st h
def Gx(K:Za)(tl:TE):TI:=fun σ H R=>tl σ H fun x H1=>∃d kvs,x=.ref d /\
 ((H1 d=some (.dT kvs)/\∀o,R (Kc d o (.dT kvs) kvs.length (BZ K kvs)) (upd H1 d (.frz o (.dT kvs))))∨∃o,H1 d=some (.frz o (.dT kvs))/\R (Kc d o (.dT kvs) kvs.length (BZ K kvs)) H1)
section
variable{X:Cx}{J2:Zd}{σ:St}{l tg:Expr}{tl:TE}
theorem wq{R:It->Hp->Prop}{a:Hp}{s1:Shared}{d:Addr}{o:Obj}{u:HO}{n:Nat}{f:Nat->Hp->V->V->Prop}{m:Array iq}{p:Nat}(i:G9 X.prog X.w X.K d o u n f m p)(h:(d==gb)=false)(j:Inv X J2 σ a s1)(e:a d=some (.frz o u))(q:R (Kc d o u n f) a):
  wpAny (model X.prog X.w) X.A (pyIter (.ref d)) (J9 X J2 σ tg R) X.xe s1:=by
 obtain⟨g,_⟩:=(show bS X.prog X.w X.K a s1.heap d (.frz o u)from j.hok d _ e);refine Ee h ⟨o,g,i.ex,i.dat⟩ fun r k s=>?_;have t:Inv X J2 σ a { s1 with heap:=r,toks:=s1.toks }:=j.kept (t':=s1.toks) s;refine⟨_,[_],_,_,a,rfl,t,DJ i,by rw[<-i.sz];exact k,fun b v=>?_,q⟩;have e:b=s1.heap.objs.size:=by simpa using v
 subst e;exact j.fpOk (aG _) (j.hok.fresh (aG _))
theorem FZ(D:PE X l tl):PI X tg l (Gx X.K tl):=by
 intro J2 s σ H R I h;refine cF (D J2 s σ H _ I h) fun v s1 k=>?_;obtain⟨x,m,j,E,d,g,ex,q⟩:=k;subst ex;cases E;rcases q with⟨e,q⟩|⟨o,e,q⟩
 ·obtain⟨z,i,xs',n,o,G,J,t,r⟩:=id (show bS X.prog X.w X.K m s1.heap d (.dT g)from j.hok d _ e);have C:Inv X J2 σ (upd m d (.frz o (.dT g))) { s1 with heap:=s1.heap,toks:=s1.toks } :=
   j.write (x:=d) (e:=d) (t':=s1.toks) (by rw[e];trivial) (.inl rfl) (fun _ _ _ q=>q) ⟨o,t⟩ ⟨t,z,i,xs',Paired.mapP n (fun p q r=>⟨r.1,oe.keeps (fun b L u=>by rw[ag (fun z=>by rw[z,e]at u;cases u)];exact u) 8 r.2.2.1 r.2.1,r.2.2⟩),o,G,J,t,r⟩
  obtain⟨f,y,A,B⟩:=mI C.hok (aa (H:=m) (a:=d));exact wq B f C aa (q o)
 ·obtain⟨f,y,A,B⟩:=mI j.hok e;exact wq B f j e q
end
end L2
end

section
set_option Elab.async false
set_option linter.all false
set_option maxRecDepth 100000
namespace HT
open PySem PySem.Spec PyProof.Rows
end HT
namespace L2
open PySem PySem.Spec PyProof.Rows
end L2
namespace HT
open PySem PySem.Spec PyProof.Rows
end HT
namespace L2
open PySem PySem.Spec PyProof.Rows
end L2
end

section
set_option Elab.async false
set_option linter.all false
set_option maxRecDepth 100000
namespace HT
open PySem PyProof.Rows
end HT
namespace L2
open PySem PySem.Spec PyProof.Rows
end L2
namespace L2
open PySem PySem.Spec PyProof.Rows
def JP(K:Za):R2:=fun x y H Q=>∃a b w xs,x=.ref a/\y=.ref b/\be K H a (w::xs)/\be K H b []/\Q (.bl false) H
section
variable{X:Cx}
theorem Jn(D:X.A.units+16<cLine):oI X (fq .Eq) (JP X.K):=by
 intro E s σ H x y v u Q I m n h;obtain⟨a,b,w,G,rfl,rfl,o,p,q⟩:=h;cases(show v=Value.ref a from m);cases(show u=Value.ref b from n);obtain⟨t,z,B,_⟩:=I.tuple o;obtain⟨k,g,i,_⟩:=I.tuple p;cases g with
 |nil =>
 cases z with
 |@cons _ l _ f J L =>
 have r:=SeqAt.RcAt.tuples (A:=X.A) (e:=fun _=>true) B i (by omega) (fun j _ C=>absurd C (Nat.not_lt_zero _));rw[show((jm (min (l::f).toArray.size ([]:Zf).toArray.size)).all (fun _=>true) && (l::f).toArray.size==([]:Zf).toArray.size)=false from by simp]at r;exact r X.prog X.w X.xe _ ⟨.bl _,H,I,rfl,q⟩
end
end L2
end
set_option Elab.async false
set_option linter.all false
set_option maxRecDepth 100000
set_option maxHeartbeats 4000000
namespace Mum
open PySem PySem.Spec PyProof.Rows L2
def xG(K:Za):TS :=
 ao (cg (aQ (aH rGeI V0 (aH ID (tC (.int 10)) (tC (.int 18))))) (bm V0) (bD))
 (ao (aK (aH js (aH fE (aH fE (aH lO (aH js V0 (tC (.int 1000000007))) (tC (.int 69069))) (aH lO V1 (tC (.int 40503)))) (tC (.int 977))) (tC (.int 2147483629))) U2)
 (ao (aK (aH js (aH fE (aH fE (aH lO V2 V2) (aH lO V1 (tC (.int 7919)))) (aH js V0 (tC (.int 65537)))) (tC (.int 2147483587))) U3)
 (ao (aK (aH js (aH fE (aH fE (aH lO V3 V3) (aH lO V2 (tC (.int 31)))) (tC (.int 5))) (tC (.int 2147483563))) U4)
 (bm (aH fE (aH lO (aH fE (aH lO V2 (tC (.int 2147483659))) V3) (tC (.int 2147483693))) V4)))))
def yL:List Str:=["cell","at","one","two","three"]
def A_(K:Za):TS :=
 ao (aK (eD (da K) (az (AO (pf K) V0 (e_) (gf (tC (.int 12)))))) U1)
 (ao (eQ (wu K (az (AO (pf K) V0 (gf (tC (.int 12))) (gf (tC (.int 63)))))) (jg K 2 (bj U2 (bj U3 (iM)))) (aK (aH fE (aH (cS K) V1 (aH js V2 (tC (.int 12)))) V3) (BW V1 (aH js V2 (tC (.int 12))) ug)))
 (bm (dB (eo V1 (tC (.int 0)) (tC (.int 0))))))
def Ct:List Str:=["script","cells","k","cell"]
def Bc(K:Za):TS :=
 ao (aK (tC (.int 0)) (BW V0 (tC (.int 2)) ug))
 (bm V0)
def Cw:List Str:=["pen"]
def A9(K:Za)(sp_law_spread:Sp):TS :=
 ao (cg (aQ (aH Ei (aH (cS K) V0 (tC (.int 2))) V1)) (ao (aK (aH (cS K) V0 (tC (.int 1))) U2)
 (ao (aK (tC (.int 0)) U3)
 (ao (cg (aQ (aH Ei V2 (eD (dS K) (az (aH (cS K) V0 (tC (.int 0))))))) (aK (aH (cS K) (aH (cS K) V0 (tC (.int 0))) V2) U3) (cg (aQ (aH Ek (eD (dS K) (az (aH (cS K) V0 (tC (.int 0))))) (tC (.int 0)))) (aK (aH js (aH (cS K) (aH (cS K) V0 (tC (.int 0))) (aH js (aH fE (aH lO V2 (tC (.int 5))) (tC (.int 3))) (eD (dS K) (az (aH (cS K) V0 (tC (.int 0))))))) (aH fE (aH ID (tC (.int 10)) (tC (.int 17))) V2)) U3) (bD)))
 (ao (aK (aH fE V2 (tC (.int 1))) (BW V0 (tC (.int 1)) ug))
 (aK (aS sp_law_spread (aU V3 V2)) (BW V0 (tC (.int 2)) ug)))))) (bD))
 (ao (aK (aH js (aH (cS K) V0 (tC (.int 2))) V1) U4)
 (ao (aK (aH FV (aH (cS K) V0 (tC (.int 2))) V1) (BW V0 (tC (.int 2)) ug))
 (bm V4)))
def Cr:List Str:=["pen","many","at","cell","found"]
def y_(K:Za)(sp_law_take:Sp):TS :=
 ao (aK (tC (.str "abcdefghijklmnopqrstuvwxyz")) U2)
 (ao (aK (qx K "str" (IF K) (tC (.str "")) (aw (dH 1 [2,0] (wt (az (tC (.int 7)))) U0 (k7) (aH FU V1 (aS sp_law_take (aU V2 (tC (.int 26)))))) bu)) U3)
 (ao (aK (aS sp_law_take (aU V0 (tC (.int 3)))) U4)
 (ao (aK (aS sp_law_take (aU V0 (tC (.int 26)))) U5)
 (ao (aK (aS sp_law_take (aU V0 (tC (.int 8)))) U6)
 (ao (aK (dB (bu)) U7)
 (ao (eQ (wt (az V1)) U8 (ao (aK (aH FU V2 (aH js (aH fE V5 (aH lO (tC (.int 3)) V8)) (tC (.int 26)))) U9)
 (ao (aK (AO Eg V3 (e_) (gf (aH js (aH fE V6 (aH lO V8 (aH js V4 (tC (.int 2))))) (tC (.int 8))))) Kp)
 (ao (aK (aH (cS K) (dB (eo (tC (.int 0)) (eD (dS K) (az Im)) (aH FV (eD (dS K) (az Im)) (tC (.int 2))))) V4) U11)
 (bG (qx K "list" ci V7 (az (aH IG (aH IG (AO Eg Im (e_) (gf V11)) V9) (AO Eg Im (gf V11) (e_))))))))))
 (bm V7)))))))
def AJ:List Str:=["pen","many","letters","base","way","turn","size","found","k","sign","part","at"]
def DQ(K:Za):TS :=
 cg (aQ (aH (ph K true) V1 V0)) (bG (qx K "list" ci V0 (az V1))) (bD)
def EV:List Str:=["doors","door"]
def qo(K:Za)(sp_law_take:Sp)(sp_law_put:Sp):TS :=
 ao (aK (dB (bu)) U5)
 (ao (aK (aS sp_law_take (aU V0 (tC (.int 2)))) U6)
 (ao (eQ (wu K (az V3)) (jg K 2 (bj U7 (bj U8 (iM)))) (ao (eQ (wt (aw (aH (cS K) (dB (aw (tC (.int 0)) (eo (tC (.int 1)) (tC (.int 1)) (tC (.int 2))))) (aS sp_law_take (aU V0 (tC (.int 4))))) bu)) U9 (ao (aK (bA (aw (tC (.str "say")) (aw (aH (cS K) V2 (aS sp_law_take (aU V0 (eD (dS K) (az V2))))) bu))) Kp)
 (bG (aS sp_law_put (aw V5 (aw (bA (aw V8 (aw Im (aw (aH (cS K) V3 (aS sp_law_take (aU V0 (eD (dS K) (az V3))))) bu)))) bu))))))
 (ao (eQ (cj K V1) U11 (eQ (wt (aw (aH (cS K) (dB (aw V4 (eo (tC (.int 1)) (tC (.int 1)) (tC (.int 2))))) (aS sp_law_take (aU V0 (tC (.int 4))))) bu)) U9 (bG (aS sp_law_put (aw V5 (aw (bA (aw V8 (aw (bA (aU (tC (.str "ask")) V11)) (aw (aH (cS K) V3 (aS sp_law_take (aU V0 (eD (dS K) (az V3))))) bu)))) bu))))))
 (ao (aK (aH (cS K) (dB (aw (AO (pf K) V3 (gf (aH fE V7 (tC (.int 1)))) (e_)) (az (AO (pf K) V3 (e_) (gf V7))))) V6) U12)
 (cg (rZ (aQ (aH (nV K) V12 (dB (bu)))) (aQ (aH zS (aS sp_law_take (aU V0 (tC (.int 3)))) (tC (.int 0))))) (bG (aS sp_law_put (aw V5 (aw (bA (aw V8 (aw (bA (az (tC (.str "still")))) (aw (aH (jA K) V12 (aS sp_law_take (aU V0 (eD (dS K) (az V12))))) bu)))) bu)))) (bD))))))
 (bm V5)))
def qS:List Str:=["pen","asks","says","rooms","full","doors","down","k","room","turn","sign","ask","later"]
def zb(K:Za)(sp_law_draw_doors:Sp)(sp_law_names:Sp)(sp_law_take:Sp)(sp_law_anew:Sp):TS :=
 ao (bG (aS sp_law_anew (az V0)))
 (ao (aK (aS sp_law_names (aU V0 (tC (.int 8)))) U3)
 (ao (aK (AO (pf K) V3 (e_) (gf (aH fE (tC (.int 1)) (aH (cS K) (dB (aw (tC (.int 0)) (aw (tC (.int 1)) (aw (tC (.int 1)) (eo (tC (.int 2)) (tC (.int 2)) (tC (.int 3))))))) (aS sp_law_take (aU V0 (tC (.int 6)))))))) U4)
 (ao (aK (AO (pf K) V3 (gf (tC (.int 4))) (gf (aH fE (tC (.int 5)) (aH (cS K) (dB (aw (tC (.int 0)) (aw (tC (.int 1)) (aw (tC (.int 1)) (eo (tC (.int 2)) (tC (.int 2)) (tC (.int 3))))))) (aS sp_law_take (aU V0 (tC (.int 6)))))))) U5)
 (ao (aK (aS sp_law_names (aU V0 (aH fE (tC (.int 1)) (aS sp_law_take (aw V0 (az V1)))))) U6)
 (ao (aK (aS sp_law_draw_doors (aw V0 (aw V4 (eo V5 V6 V2)))) U7)
 (bm (bA (aw V4 (eo V5 V6 V7)))))))))
def AK:List Str:=["pen","most","full","words","asks","says","rooms","doors"]
def vf(K:Za)(C_Machine:Addr)(sp_Machine_init:Sp):TS :=
 bm (ze C_Machine sp_Machine_init [] E0 (aw (eD (da K) (az (aH (jA K) V0 (tC (.int 0))))) (aw (eD (da K) (az (aH (jA K) V0 (tC (.int 1))))) (aw (eD (da K) (az (aH (jA K) V0 (tC (.int 2))))) (aw (eD (da K) (az (aH (jA K) V0 (tC (.int 3))))) bu)))))
def vP:List Str:=["told"]
def DR(K:Za):TS :=
 bm (CZ (aH HG V0 (tC (.str ""))) (CZ (aH rLeI (eD (dS K) (az V0)) (tC (.int 8))) (eD (JQ K) (az (dH 1 [] (JV V0) U0 (k7) (aH rInS V0 (tC (.str "abcdefghijklmnopqrstuvwxyz"))))))))
def EW:List Str:=["text"]
def DS(K:Za):TS :=
 ao (aK (nS) U1)
 (ao (eQ (cj K V0) U2 (jT V1 V2 (tC (.bl true))))
 (bm V1))
def EX:List Str:=["things","keys","thing"]
def nJ(K:Za)(sp_is_name:Sp)(sp_as_keys:Sp):TS :=
 ao (cg (aQ (aH zS (eD (dS K) (az V0)) (tC (.int 0)))) (bm (tC (.int 0))) (bD))
 (ao (aK (aS sp_as_keys (az V2)) U3)
 (ao (eQ (wu K (az V0)) (jg K 2 (bj U4 (bj U5 (iM)))) (ao (cg (zc (aQ (aH zS V4 V1)) (zc (tB (Bk K V5 V3)) (vg (tB (aS sp_is_name (az V5)))))) (bm V4) (bD))
 (jT V3 V5 (tC (.bl true)))))
 (bm (tC .non))))
def oj:List Str:=["names","most","taken","ahead","number","name"]
def xJ(K:Za)(a_STILL:Addr):TS :=
 bm (aH r9 (aH r9 (dH 1 [] (cj K V0) U0 (k7) (bA (aU (tC (.str "ask")) V0))) (dH 1 [] (cj K V1) U0 (k7) (bA (aU (tC (.str "say")) V0)))) (dB (az (tC (.ref a_STILL)))))
def yO:List Str:=["asks","says"]
def nK(K:Za)(sp_as_keys:Sp):TS :=
 ao (aK (aS sp_as_keys (az V1)) U3)
 (ao (aK (qw) U4)
 (ao (eQ (wu K (az V0)) (jg K 2 (bj U5 (bj U6 (iM)))) (ao (cg (zc (aQ (aH zS V5 (tC (.int 2000)))) (tB (Bk K V6 V4))) (bm V5) (bD))
 (ao (cg (zc (tB (fG K (aH (jA K) V6 (tC (.int 0))) V3)) (zc (aQ (aH (ph K true) (aH (jA K) V6 (tC (.int 1))) V2)) (tB (fG K (aH (jA K) V6 (tC (.int 2))) V3)))) (bm V5) (bD))
 (jT V4 V6 (tC (.bl true))))))
 (bm (tC .non))))
def ol:List Str:=["doors","rooms","signs","own_rooms","ahead","number","door"]
def jj(K:Za):TS :=
 ao (aK (qw) U1)
 (ao (eQ (cj K V0) (jg K 3 (bj U2 (bj U3 (bj U4 (iM))))) (bG (qx K "list" ci (qx K "dict" C4 V1 (aU (bA (aw V2 (az V3))) (dB (bu)))) (az V4))))
 (bm V1))
def jl:List Str:=["doors","goals","start","sign","goal"]
def tK(K:Za)(a_STILL:Addr):TS :=
 ao (aK (nS) U2)
 (ao (aK (dB (az V1)) U3)
 (ao (km (aQ (aH Ek (eD (dS K) (az V3)) (tC (.int 0)))) (ao (aK (zD K "list" Eh V3) U4)
 (eQ (JW K (tZ K V0 (bA (aU V4 (tC (.ref a_STILL)))) (bA (bu)))) U5 (cg (tB (fG K V5 V2)) (ao (jT V2 V5 (tC (.bl true)))
 (bG (qx K "list" ci V3 (az V5)))) (bD)))))
 (bm V2)))
def uS:List Str:=["goals","room","led","waiting","here","goal"]
def oP(K:Za):TS :=
 ao (eQ (wu K (az V0)) (jg K 2 (bj U2 (bj U3 (iM)))) (cg (tB (Bk K V3 (gM K V1 V3))) (bm V2) (bD)))
 (bm (tC .non))
def pR:List Str:=["rooms","led","number","room"]
def y8(K:Za):TS :=
 cg (tB (CY V1)) (tQ) (bD)
def AH:List Str:=["part","number"]
def xE(K:Za)(sp_need_none:Sp)(sp_first_wrong_door:Sp)(sp_door_signs:Sp)(sp_first_wrong_name:Sp):TS :=
 ao (bG (aS sp_need_none (aU (tC (.str "asks")) (aS sp_first_wrong_name (eo V0 (tC (.int 4)) (dB (bu)))))))
 (ao (bG (aS sp_need_none (aU (tC (.str "says")) (aS sp_first_wrong_name (eo V1 (tC (.int 4)) V0)))))
 (ao (bG (aS sp_need_none (aU (tC (.str "rooms")) (aS sp_first_wrong_name (eo V2 (tC (.int 150)) (dB (bu)))))))
 (bG (aS sp_need_none (aw (tC (.str "doors")) (az (aS sp_first_wrong_door (eo V3 V2 (aS sp_door_signs (aU V0 V1))))))))))
def yI:List Str:=["asks","says","rooms","doors"]
def qq(K:Za):TS :=
 ao (aK (nS) U2)
 (ao (eQ (cj K V0) U3 (jT V2 V3 (dB (bu))))
 (ao (eQ (cj K V1) U4 (bG (qx K "list" ci (gM K V2 (aH (jA K) V4 (tC (.int 0)))) (az V4))))
 (bm V2)))
def qU:List Str:=["rooms","doors","leaving","room","door"]
def qp(K:Za):TS :=
 bm (eD (JQ K) (aw (dH 1 [] (cj K V0) U0 (k7) (aH zS (aH (jA K) (aH (jA K) V0 (tC (.int 1))) (tC (.int 0))) (tC (.str "ask")))) bu))
def qT:List Str:=["doors"]
def nN(K:Za)(sp_need_none:Sp)(sp_first_led_round:Sp)(sp_led_by_still:Sp)(sp_goals_by_start_and_sign:Sp)(sp_as_keys:Sp)(sp_has_asks_alone:Sp)(sp_doors_by_start:Sp)(sp_need_parts:Sp):TS :=
 ao (bG (aS sp_need_parts (aw V1 (eo V2 V3 V4))))
 (ao (pb K V0 (eD (da K) (az V1)) "own_asks")
 (ao (pb K V0 (eD (da K) (az V2)) "own_says")
 (ao (pb K V0 (eD (da K) (az V3)) "own_rooms")
 (ao (pb K V0 (eD (da K) (az V4)) "own_doors")
 (ao (pb K V0 (aS sp_doors_by_start (aU V3 V4)) "leaving")
 (ao (pb K V0 (aS sp_as_keys (aw (dH 1 [0] (cj K V3) U0 (tB (aS sp_has_asks_alone (az (gM K (gh K V1 "leaving") V0)))) V0) bu)) "quiet")
 (ao (pb K V0 (aS sp_goals_by_start_and_sign (az V4)) "sign_goals")
 (ao (pb K V0 (eD (HH K) (aw (dH 1 [0] (cj K V3) U0 (k7) (bA (aU V0 (aS sp_led_by_still (aw (gh K V1 "sign_goals") (az V0)))))) bu)) "still_led")
 (bG (aS sp_need_none (aU (tC (.str "still")) (aS sp_first_led_round (aw V3 (az (gh K V0 "still_led")))))))))))))))
def ow:List Str:=["self","asks","says","rooms","doors"]
def nM(K:Za):TS :=
 bm (Bk K V1 (gh K V0 "quiet"))
def oq:List Str:=["self","room"]
def m9(K:Za)(sp_with_still:Sp)(C_Machine:Addr)(sp_Machine_goals:Sp)(a_HUSH:Addr)(sp_Machine_is_quiet:Sp):TS :=
 ao (cg (aQ (aH (lP K) V2 (tC (.ref a_HUSH)))) (bm (eD (C3 K) (az (dH 1 [0] (H_ K V1) U0 (tB (cW C_Machine "is_quiet" sp_Machine_is_quiet [] E0 V1 (az V0))) V0)))) (bD))
 (ao (aK (dB (bu)) U3)
 (ao (eQ (H_ K V1) U4 (bG (qx K "list" C5 V3 (az (cW C_Machine "goals" sp_Machine_goals [] E0 V0 (aU V4 V2))))))
 (bm (aS sp_with_still (aU V0 V3)))))
def ny:List Str:=["M","face","sign","goals","room"]
def c9(p:Addr)(H H':Hp):Prop:=∀b o,H b=some o->b≠p->H' b=some o
theorem c9.refl(p:Addr)(H:Hp):c9 p H H:=fun _ _ h _=>h
theorem c9.trans{p:Addr}{H e f:Hp}(a:c9 p H e)(b:c9 p e f):c9 p H f:=fun c o h n=>b c o (a c o h n) n
theorem ac.exB{p:Addr}{H e:Hp}(a:ac H e):c9 p H e:=fun b o h _=>a b o h
theorem c9.upd(p:Addr)(H:Hp)(o:HO):c9 p H (upd H p o):=fun b u h n=>by rw[ag n];exact h
theorem ac.new{H:Hp}{a:Addr}{o:HO}(h:H a=none):ac H (upd H a o):=fun b u e=>by rw[ag (ae e h)];exact e
theorem c9.free{p:Addr}{H a:Hp}(e:c9 p H a){u:HO}(f:a p=some u){l:Addr}(h:a l=none):H l=none:=by
 cases q:H l with
 |none=>rfl
 |some o =>
  by_cases z:l=p
  ·subst z;rw[f]at h;cases h
  ·rw[e l o q z]at h;cases h
theorem kp{H:Hp}{a b:Addr}{o x:HO}(h:H b=some o)(n:H a=none):upd H a x b=some o:=by rw[ag (ae h n)];exact h
structure DA(H:Hp)(p c:Addr)(at_ rest:Int)(ns:List Int):Prop where
 pen:H p=some (.lst [.ref c,.int at_,.int rest])
 cells:H c=some (.lst (ns.map V.int))
 at0:0<=at_
 rest0:0<=rest
theorem DA.ne{H:Hp}{p c:Addr}{a r:Int}{g:List Int}(h:DA H p c a r g):c≠p:=by
 intro e;have i:=h.pen;have f:=h.cells;rw[e,i]at f;injection f with f;injection f with f;cases g with
 |nil=>cases f
 |cons n g=>injection f with f;cases f
def gW(H:Hp)(p c:Addr):Prop:=∃a r ns,DA H p c a r ns
theorem gW.ex{H H':Hp}{p c:Addr}(h:gW H p c)(e:ac H H'):gW H' p c:=by
 obtain⟨a,r,f,g,i,j,k⟩:=h;exact⟨a,r,f,e _ _ g,e _ _ i,j,k⟩
theorem gW.pen{H:Hp}{p c:Addr}(h:gW H p c):∃o,H p=some o:=by
 obtain⟨a,r,f,e,_⟩:=h;exact⟨_,e⟩
theorem gW.cell{H:Hp}{p c:Addr}(h:gW H p c):∃o,H c=some o:=by
 obtain⟨a,r,f,_,e,_⟩:=h;exact⟨_,e⟩
theorem gW.upd{H:Hp}{p c l:Addr}{o:HO}(h:gW H p c)(e:p≠l)(f:c≠l):gW (upd H l o) p c:=by
 obtain⟨a,r,g,i,j,k,m⟩:=h;exact⟨a,r,g,by rw[ag e];exact i,by rw[ag f];exact j,k,m⟩
theorem gW.nep{H:Hp}{p c l:Addr}(h:gW H p c)(a:H l=none):p≠l:=let⟨_,e⟩:=h.pen;ae e a
theorem gW.nec{H:Hp}{p c l:Addr}(h:gW H p c)(a:H l=none):c≠l:=let⟨_,e⟩:=h.cell;ae e a
theorem c9.new{p:Addr}{H:Hp}{a:Addr}{o:HO}(h:H a=none):c9 p H (L2.upd H a o):=fun b u e _=>by rw[ag (ae e h)];exact e
inductive mw (vs:List V)(H:Hp)(Q:VK)(E:XK):Prop
 |mk (c a:Int):(vs=[.int c,.int a])->(0<=a)->(∀r:Int,0<=r->Q (.int r) H)->mw  vs H Q E
theorem pN{i j:Int}(a:-(2 ^ 64)<j)(e:j<2 ^ 64):G_ i j:=.inr ⟨a,e⟩
theorem DZ{K:Za}{f:List V}{H:Hp}{Q:VK}{E:XK}(h:mw f H Q E):xG K (bJ Q) (start yL f) H:=by
 obtain⟨c,a,rfl,x,k⟩:=h;refine⟨_,rfl,_,_,rfl,rfl,⟨by decide,by decide,by decide⟩,_,_,rfl,rfl,_,rfl,?_⟩;refine iy (fun h=>?_) (fun _=>?_)
 ·refine⟨_,rfl,k _ ?_⟩;have:=of_decide_eq_true h;have e:((10:Int) ^ (18:Int).toNat)=1000000000000000000:=by decide
  omega
 ·have one:∀z:Int,0<=z % 2147483629/\z % 2147483629<2147483629:=fun z=>⟨p9 _ (by decide),p8 _ (by decide)⟩;have two:∀z:Int,0<=z % 2147483587/\z % 2147483587<2147483587:=fun z=>⟨p9 _ (by decide),p8 _ (by decide)⟩;have three:∀z:Int,0<=z % 2147483563/\z % 2147483563<2147483563:=fun z=>⟨p9 _ (by decide),p8 _ (by decide)⟩;refine⟨_,rfl,_,_,rfl,rfl,(by show(0:Int)<1000000007;decide),_,_,rfl,rfl,pN (by decide) (by decide),_,rfl,_,_,rfl,rfl,pN (by decide) (by decide),_,_,rfl,rfl,_,_,rfl,rfl,_,_,rfl,rfl,(by show(0:Int)<2147483629;decide),?_⟩;generalize l:(c % 1000000007 * 69069+a * 40503+977)=g;obtain⟨m,n⟩:=one g;generalize g % 2147483629=o at m n ⊢;refine⟨_,rfl,_,rfl,_,_,rfl,rfl,pN (by omega) (by omega),_,rfl,_,_,rfl,rfl,pN (by decide) (by decide),_,_,rfl,rfl,_,rfl,_,_,rfl,rfl,(by show(0:Int)<65537;decide),_,_,rfl,rfl,_,_,rfl,rfl,(by show(0:Int)<2147483587;decide),?_⟩;generalize p:(o * o+a * 7919+c % 65537)=i;obtain⟨s,t⟩:=two i;generalize i % 2147483587=q at s t ⊢;refine⟨_,rfl,_,rfl,_,_,rfl,rfl,pN (by omega) (by omega),_,rfl,_,_,rfl,rfl,pN (by decide) (by decide),_,_,rfl,rfl,_,_,rfl,rfl,_,_,rfl,rfl,(by show(0:Int)<2147483563;decide),?_⟩;generalize u:(q * q+o * 31+5)=j;obtain⟨v,w⟩:=three j;generalize j % 2147483563=r at v w ⊢;refine⟨_,rfl,_,_,rfl,rfl,pN (by decide) (by decide),_,rfl,_,_,rfl,rfl,_,_,rfl,rfl,pN (by decide) (by decide),_,rfl,_,_,rfl,rfl,k _ ?_⟩;omega
def sA:Sp:=fun vs H Q _=>∃p c,vs=[.ref p]/\gW H p c/\∀H',gW H' p c->c9 p H H'->Q (.ref p) H'
theorem HD{K:Za}{e:List V}{H:Hp}{Q:VK}{E:XK}(h:sA e H Q E):Bc K (bJ Q) (start Cw e) H:=by
 obtain⟨p,c,rfl,⟨a,r,f,h⟩,k⟩:=h;refine⟨_,rfl,p,_,_,_,rfl,rfl,h.pen,rfl,_,rfl,k _ ⟨a,0,f,aa,?_,h.at0,Int.le_refl 0⟩ (c9.upd _ _ _)⟩;rw[ag h.ne];exact h.cells
theorem Dx{ns:List Int}{a:Int}(e:0<=a)(g:a<ns.length):∃z,pO (ns.map V.int) a=some (.int z):=by
 obtain⟨n,rfl⟩:=jy e;have f:n<ns.length:=by omega
 exact⟨ns[n],bc (by simp[f])⟩
inductive fI (vs:List V)(H:Hp)(Q:VK)(E:XK):Prop
 |mk (p c:Addr) (m:Int):(vs=[.ref p,.int m])->(gW H p c)->(0<m)->(m<1073741824)->(∀(r:Int) (H':Hp),0<=r->r<m->gW H' p c->c9 p H H'->Q (.int r) H')->fI  vs H Q E
theorem dR{H:Hp}{Q:VK}{E:XK}{p c:Addr}{m:Int}(e:gW H p c)(f:0<m)(g:m<1073741824)(k:∀(r:Int) (a:Hp),0<=r->r<m->gW a p c->c9 p H a->Q (.int r) a):fI [.ref p,.int m] H Q E:=by
 exact⟨p,c,m,rfl,e,f,g,k⟩
theorem Hx{K:Za}{t:List V}{H:Hp}{Q:VK}{E:XK}(h:fI t H Q E):A9 K mw (bJ Q) (start Cr t) H:=by
 obtain⟨p,c,m,rfl,⟨a,r,ns,h⟩,j,l,k⟩:=h;have f:∀(H':Hp) (n u:Int) (x y:Option V),DA H' p c n u ns->c9 p H H' ->
   (ao (aK (aH js (aH (cS K) V0 (tC (.int 2))) V1) U4) (ao (aK (aH FV (aH (cS K) V0 (tC (.int 2))) V1) (BW V0 (tC (.int 2)) ug)) (bm V4)))
    (bJ Q) [some (.ref p),some (.int m),x,y,none] H':=by
  intro H' n u x y g ex;refine⟨_,rfl,p,_,2,_,rfl,rfl,ay.of g.pen,rfl,_,rfl,_,_,rfl,rfl,j,?_⟩;refine⟨_,rfl,p,_,2,_,rfl,rfl,ay.of g.pen,rfl,_,rfl,_,_,rfl,rfl,⟨j,l⟩,_,rfl,p,_,_,_,rfl,rfl,g.pen,rfl,?_⟩;refine⟨_,rfl,k _ _ (p9 _ (by omega)) (p8 _ j) ⟨n,_,ns,aa,?_,g.at0,Int.ediv_nonneg g.rest0 (by omega)⟩ (ex.trans (c9.upd _ _ _))⟩;rw[ag g.ne];exact g.cells
 refine⟨_,rfl,p,_,2,_,rfl,rfl,ay.of h.pen,rfl,_,rfl,_,_,rfl,rfl,_,rfl,?_⟩;refine iy (fun B=>?_) (fun B=>?_)
 ·-- at=pen[1];cell=0;if at<len(pen[0])
  refine⟨_,rfl,p,_,1,_,rfl,rfl,ay.of h.pen,rfl,?_⟩;have o:(V.int ((ns.map V.int).length:Nat))=V.int (ns.length:Nat):=by rw[aj]
  refine⟨_,rfl,_,rfl,p,_,0,_,rfl,rfl,ay.of h.pen,rfl,.inl ⟨c,_,rfl,.inl (ay.of h.cells),_,_,rfl,o,_,rfl,?_⟩⟩;refine iy (fun v=>?_) (fun v=>?_)
  ·obtain⟨z,s⟩:=Dx (ns:=ns) h.at0 (of_decide_eq_true v);refine⟨_,rfl,p,_,0,_,rfl,rfl,ay.of h.pen,rfl,_,rfl,c,_,_,_,rfl,rfl,ay.of h.cells,s,?_⟩;refine⟨_,rfl,_,_,rfl,rfl,_,rfl,p,_,_,_,rfl,rfl,h.pen,rfl,?_⟩;refine⟨_,rfl,_,rfl,_,_,rfl,h.at0,fun q i=>⟨_,rfl,p,_,_,_,rfl,rfl,aa,rfl,?_⟩⟩;rw[sn];refine f _ (a+1) q _ _ ⟨aa,by rw[ag h.ne];exact h.cells,by have:=h.at0;omega,i⟩ (c9.upd _ _ _)
  ·refine⟨_,rfl,p,_,0,_,rfl,rfl,ay.of h.pen,rfl,.inl ⟨c,_,rfl,.inl (ay.of h.cells),_,_,o,rfl,_,rfl,?_⟩⟩;refine iy (fun w=>?_) (fun w=>?_)
   ·have A:(0:Int)<ns.length:=of_decide_eq_true w;obtain⟨z,s⟩:=Dx (ns:=ns) (a:=(a * 5+3) % (ns.length:Int)) (p9 _ (by omega)) (p8 _ A);refine⟨_,rfl,p,_,0,_,rfl,rfl,ay.of h.pen,rfl,_,rfl,_,_,rfl,rfl,pN (by decide) (by decide),_,_,rfl,rfl,_,rfl,p,_,0,_,rfl,rfl,ay.of h.pen,rfl,.inl ⟨c,_,rfl,.inl (ay.of h.cells),_,_,rfl,o,A,c,_,_,_,rfl,rfl,ay.of h.cells,s,?_⟩⟩;refine⟨_,_,rfl,rfl,⟨by decide,by decide,by decide⟩,_,rfl,_,_,rfl,rfl,_,_,rfl,rfl,?_,?_⟩
    ·have e:((10:Int) ^ (17:Int).toNat)=100000000000000000:=by decide
     have:=h.at0;show(0:Int)<10 ^ (17:Int).toNat+a;omega
    refine⟨_,rfl,_,_,rfl,rfl,_,rfl,p,_,_,_,rfl,rfl,h.pen,rfl,?_⟩;refine⟨_,rfl,_,rfl,_,_,rfl,h.at0,fun q i=>⟨_,rfl,p,_,_,_,rfl,rfl,aa,rfl,?_⟩⟩;rw[sn];refine f _ (a+1) q _ _ ⟨aa,by rw[ag h.ne];exact h.cells,by have:=h.at0;omega,i⟩ (c9.upd _ _ _)
   ·refine⟨_,rfl,_,_,rfl,rfl,_,rfl,p,_,_,_,rfl,rfl,h.pen,rfl,?_⟩;refine⟨_,rfl,_,rfl,_,_,rfl,h.at0,fun q i=>⟨_,rfl,p,_,_,_,rfl,rfl,aa,rfl,?_⟩⟩;rw[sn];refine f _ (a+1) q _ _ ⟨aa,by rw[ag h.ne];exact h.cells,by have:=h.at0;omega,i⟩ (c9.upd _ _ _)
 ·exact f H a r _ _ h (c9.refl _ _)
inductive sr(K:Za)(vs:List V)(H:Hp)(Q:VK)(E:XK):Prop
 |mk (a:Addr) (ns:List Int):(vs=[.ref a])->(ay K H a (ns.map V.int))->(ns.length<=63)->(∀(p c:Addr) (H':Hp),H p=none->gW H' p c->ac H H'->Q (.ref p) H')->sr K vs H Q E
theorem wA(a:List Int)(lo e:Option Int):∃f:List Int,gC (a.map V.int) lo e=f.map V.int/\f.length=(gC (a.map V.int) lo e).length:=by
 refine⟨(a.drop (HT.sIx (a.map V.int).length 0 lo)).take (HT.sIx (a.map V.int).length (a.map V.int).length e-HT.sIx (a.map V.int).length 0 lo),?_,?_⟩
 ·unfold gC;rw[nC,sV]
 ·unfold gC;rw[aN,aN,fP,fP,aj]
theorem Hz{K:Za}{vs:List V}{H:Hp}{Q:VK}{E:XK}(h:sr K vs H Q E):A_ K (bJ Q) (start Ct vs) H:=by
 obtain⟨a,s,rfl,hs,hn,k⟩:=h;obtain⟨D,e0,l0⟩:=wA s none (some 12);obtain⟨B,e1,l1⟩:=wA s (some 12) (some 63);have G:B≠[]->D.length=12:=by
  intro L;have l:0<B.length:=by cases B with|nil=>exact absurd rfl L|cons _ _=>simp
  rw[l1]at l;rw[l0];unfold gC at l ⊢;rw[aN,fP,aj]at l;rw[aN,fP,aj];have s1:HT.sIx s.length 0 (some 12)=min 12 s.length:=HT.sIx_nat _ _ 12;have s2:HT.sIx s.length s.length (some 12)=min 12 s.length:=HT.sIx_nat _ _ 12;rw[HT.sIx_none,s2];rw[s1]at l;omega
 refine⟨_,rfl,_,rfl,a,_,rfl,hs,fun q hq=>.inl ⟨q,_,rfl,.inl (ay.of aa),fun c C=>?_⟩⟩;rw[e0]at C ⊢;have M:H c=none:=by
  have:c≠q:=fun z=>by subst z;rw[aa]at C;cases C
  rw[ag this]at C;exact C
 have hS:ac H (upd (upd H q (.lst (D.map V.int))) c (.lst (D.map V.int))):=(ac.new hq).trans (ac.new C);refine⟨_,rfl,_,rfl,_,rfl,a,_,rfl,hS.seq hs,fun r N=>⟨r,rfl,⟨_,ay.of aa⟩,?_⟩⟩;rw[e1];have O:c≠r:=ae aa N
 let T:Nat->L2.St->Hp->Prop:=fun i σ w=>IZ fun(j:List Int) (x y:Option V)=>GZ (σ=[some (.ref a),some (.ref c),x,y]) (w c=some (.lst (j.map V.int))) (j.length=D.length) (w r=some (.lst (B.map V.int))) (ac H w)
 refine lX (xs:=B.map V.int) T
  ⟨D,none,none,rfl,kp aa N,rfl,aa,hS.trans (ac.new N)⟩ (fun i σ w _ ⟨j,x,y,_,_,_,h,_⟩=>ay.of h) ?_ ?_
 ·rintro i x σ w t U ⟨j,u,v,rfl,f,I,J,m⟩ Y;have A:i<B.length:=by
   have:=(bY.mp U).1;rwa[aj]at this
  have as:=G (fun z=>by rw[z]at A;simp at A);obtain⟨z,rfl⟩:∃z,x=V.int z:=by
   rw[cb,b_ A]at U;exact⟨_,(fu U).symm⟩
  have g:upd w t (.tup [.int i,.int z]) c=some (.lst (j.map V.int)):=kp f Y;have n:(i:Int) % 12=((i % 12:Nat):Int):=by omega
  have al:i % 12<j.length:=by omega
  refine⟨t,_,rfl,be.of aa,rfl,_,_,rfl,_,_,rfl,rfl,?_⟩;have an:pO (j.map V.int) ((i:Int) % 12)=some (.int j[i % 12]):=by rw[n];exact bc (by simp[al])
  refine⟨_,rfl,_,rfl,_,_,rfl,rfl,(by show(0:Int)<12;decide),c,_,_,_,rfl,rfl,ay.of g,an,_,rfl,_,_,rfl,rfl,_,rfl,_,rfl,_,_,rfl,rfl,(by show(0:Int)<12;decide),c,_,_,i % 12,rfl,rfl,g,?_,?_⟩
  ·rw[n];unfold Fc;rw[if_pos (by omega),if_pos (by rw[aj];omega)];rw[lG]
  ·refine⟨j.set (i % 12) (j[i % 12]+z),_,_,rfl,?_,by rw[List.length_set];exact I,?_,?_⟩
   ·rw[aa,List.map_set]
   ·rw[ag O.symm];exact kp J Y
   ·intro b o e;rw[ag (ae e M)];exact kp (m b o e) Y
 ·rintro σ w ⟨j,x,y,rfl,f,I,J,m⟩;refine⟨_,rfl,(by show 3<=ak;decide),fun p hp=>k p c _ (m.free hp) ⟨0,0,j,aa,kp f hp,Int.le_refl _,Int.le_refl _⟩ (m.trans (ac.new hp))⟩
def yd(c:Nat):Prop:=97<=c/\c<=122
structure qV(w:Str):Prop where
 lo:1<=w.length
 hi:w.length<=8
 al:∀c∈w.cps.toList,yd c
theorem Dz:∀n:Nat,n<26->(("abcdefghijklmnopqrstuvwxyz":Str).cps.toList)[n]?=some (97+n):=by decide +kernel
theorem Dy:("abcdefghijklmnopqrstuvwxyz":Str).length<=ak:=by decide +kernel
theorem GW{r:Int}(a:0<=r)(e:r<26):pO (("abcdefghijklmnopqrstuvwxyz":Str).cps.toList) r=some (97+r.toNat):=by
 obtain⟨n,rfl⟩:=jy a;rw[lG];exact bc (Dz n (by omega))
theorem vF(f:List Nat):∀a:Array Nat,((f.map fun c=>(⟨#[c]⟩:Str)).foldl (fun a p=>a++("":Str).cps++p.cps) a).toList=a.toList++f:=by
 have e:("":Str).cps=#[]:=by decide +kernel
 induction f with
 |nil=>intro a;simp
 |cons c f g =>
  intro a;rw[bd,lr,g,e];simp
theorem BP(a:List Nat):(xi "" (a.map fun c=>(⟨#[c]⟩:Str))).cps.toList=a:=by
 unfold xi cV.Str.glued;cases a with
 |nil=>rfl
 |cons c a =>
  rw[bd];show((a.map fun c=>(⟨#[c]⟩:Str)).foldl (fun e p=>e++("":Str).cps++p.cps) #[c]).toList=_;rw[vF]
  rfl
theorem Ht{a b:Str}(h:a.cps.toList=b.cps.toList):a=b:=by
 cases a with|mk x=>cases b with|mk y=>exact congrArg Str.mk (Array.toList_inj.mp h)
theorem fH(a:Str):a.length=a.cps.toList.length:=by simp[Str.length]
theorem yE(a b:Str):(a++b).cps.toList=a.cps.toList++b.cps.toList:=by
 show(a.cps++b.cps).toList=_;simp
theorem GL(z:Str)(m:Nat):(uH z none (some (m:Int))).cps.toList=z.cps.toList.take m:=by
 unfold uH;rw[HT.sIx_none,HT.sIx_nat,ke,Nat.sub_zero,fH];show List.take _ _=_;rw[List.take_eq_take_iff];omega
theorem GN(z:Str)(m:Nat):(uH z (some (m:Int)) none).cps.toList=z.cps.toList.drop m:=by
 unfold uH;rw[HT.sIx_none,HT.sIx_nat,fH];show List.take _ _=_;rw[wV (by rw[fP];omega)];by_cases h:m<=z.cps.toList.length
 ·rw[sU h]
 ·rw[Nat.min_eq_right (by omega),List.drop_length,qa (by omega)]
def fB(way size k:Nat):Nat:=(size+k * (way % 2)) % 8
def AN(way m:Nat):Nat:=if way=0 then 0 else if way=1 then m else m / 2
def m8(b:List Nat)(way turn size k:Nat):List Nat :=
 (b.take (fB way size k)).take (AN way (fB way size k))++[97+(turn+3 * k) % 26]++(b.take (fB way size k)).drop (AN way (fB way size k))
def yX(b:List Nat)(way turn size k:Nat):Str:=⟨(m8 b way turn size k).toArray⟩
theorem qj{b:List Nat}(f:b.length=7)(e turn a k:Nat):(m8 b e turn a k).length=fB e a k+1:=by
 have g:fB e a k<8:=sT _ (by decide);unfold m8;rw[au,au,aN,fP,aN,f];have:AN e (fB e a k)<=fB e a k:=by unfold AN;split;omega;split;omega;omega
 simp;omega
theorem Hi{b:List Nat}(i:b.length=7)(g:∀c∈b,yd c)(f turn a k:Nat):qV (yX b f turn a k):=by
 have j:fB f a k<8:=sT _ (by decide);have h:=qj i f turn a k;have e:(yX b f turn a k).cps.toList=m8 b f turn a k:=by simp[yX]
 refine⟨?_,?_,?_⟩
 ·rw[fH,e];omega
 ·rw[fH,e];omega
 ·rw[e];intro c hc;unfold m8 at hc;rcases aX.mp hc with hc|hc
  ·rcases aX.mp hc with hc|hc
   ·exact g c (fA (fA hc))
   ·have:c=97+(turn+3 * k) % 26:=by simpa using hc
    subst this;have:(turn+3 * k) % 26<26:=sT _ (by decide);exact⟨by omega,by omega⟩
  ·exact g c (fA (List.mem_of_mem_drop hc))
theorem Fj{b:List Nat}(g:b.length=7){f turn a:Nat}(t:f<3){j k:Nat}(u:j<26)(v:k<26)(h:yX b f turn a j=yX b f turn a k):j=k:=by
 have o:∀i,fB f a i<8:=fun i=>sT _ (by decide);have e:m8 b f turn a j=m8 b f turn a k:=by
  have:=congrArg (fun s=>Str.cps s |>.toList) h;simpa[yX]using this
 have p:fB f a j=fB f a k:=by
  have:=congrArg List.length e;rw[qj g,qj g]at this;omega
 have q:97+(turn+3 * j) % 26=97+(turn+3 * k) % 26:=by
  have l:∀i,AN f (fB f a i)<=fB f a i:=fun i=>by unfold AN;split;omega;split;omega;omega
  have get:∀i,(m8 b f turn a i)[AN f (fB f a i)]?=some (97+(turn+3 * i) % 26):=by
   intro i;unfold m8;have r:((b.take (fB f a i)).take (AN f (fB f a i))).length=AN f (fB f a i):=by
    rw[aN,aN,g];have:=o i;have:=l i;omega
   rw[cI,iu (by omega),r,nB]
   rfl
  have m:=get j;have n:=get k;rw[e,p]at m;rw[m]at n;exact fu n
 omega
def kJ(ws:Zb):Prop:=ws.Nodup/\∀w∈ws,qV w
def ki(b:List Nat)(way turn size n:Nat):List Str:=(jm n).map (yX b way turn size)
theorem AT{b:List Nat}(g:b.length=7)(i:∀c∈b,yd c){a turn e n:Nat}(l:a<3)(q:n<=26):kJ (ki b a turn e n):=by
 refine⟨?_,fun w m=>?_⟩
 ·unfold ki;rw[p7,List.pairwise_map];refine(List.nodup_range (n:=n)).imp_of_mem ?_;intro j k o p f h;exact f (Fj g l (by have:=List.mem_range.mp o;omega) (by have:=List.mem_range.mp p;omega) h)
 ·obtain⟨k,_,rfl⟩:=av.mp m;exact Hi g i _ _ _ _
inductive lM (vs:List V)(H:Hp)(Q:VK)(E:XK):Prop
 |mk (p c:Addr) (n:Nat):(vs=[.ref p,.int n])->(gW H p c)->(n<=26)->(∀(l:Addr) (ws:Zb) (H':Hp),kJ ws->ws.length=n->H l=none->H' l=some (.lst (ws.map V.str))->gW H' p c->c9 p H H'->Q (.ref l) H')->lM  vs H Q E
theorem FI{K:Za}{A:List V}{H:Hp}{Q:VK}{E:XK}(h:lM A H Q E):y_ K fI (bJ Q) (start AJ A) H:=by
 obtain⟨p,c,n,rfl,C,hn,k⟩:=h;refine⟨rfl,7,rfl,by decide,by decide,fun l I=>?_⟩
 let aF:Nat->List V->Hp->Prop:=fun i A u=>∃o:List Nat,A=o.map (fun c=>V.str ⟨#[c]⟩)/\o.length=i/\(∀c∈o,yd c)/\gW u p c/\c9 p H u/\u l=some (.lst A)
 refine Cc (lo:=0) (n:=Int.toNat 7) aF
  ⟨[],rfl,rfl,(fun _ h=>nomatch h),C.ex (ac.new I),c9.new I,aa⟩ (fun i A u _ ⟨_,_,_,_,_,_,h⟩=>h) ?_ ?_
 rotate_left
 ·rintro i A u hi ⟨o,rfl,g,w,v,a0,a4⟩;have J:=C.nep I;have a5:=C.nec I;refine gN (u7 ?_);refine⟨_,rfl,_,rfl,dR v (by decide) (by decide) fun r H2 h0 h1 D s=>⟨_,r,_,rfl,rfl,Dy,GW h0 h1,?_⟩⟩;have a6:=s l _ a4 J.symm;refine⟨a6,by rw[aj,g];exact ar (by omega),pA hi ⟨o++[97+r.toNat],by rw[ap];rfl,by rw[au,g];rfl,?_,D.upd J a5,?_,aa⟩⟩
  ·intro x hc;rcases aX.mp hc with hc|hc
   ·exact w x hc
   ·have:x=97+r.toNat:=by simpa using hc
    subst this;exact⟨by omega,by omega⟩
  ·intro b o' e nb;rw[ag (ae e I)];exact s b o' (a0 b o' e nb) nb
 ·rintro A H1 ⟨o,rfl,g,w,a7,L,a8⟩;refine⟨"",l,o.map fun c=>(⟨#[c]⟩:Str),rfl,rfl,ay.of (by rw[a8,p6];rfl),?_,?_⟩
  ·have e0:("":Str).length=0:=by decide +kernel
   rw[e0,Nat.mul_zero,p6];have:∀o:List Nat,(o.map ((fun x=>Str.length x) ∘ fun c=>(⟨#[c]⟩:Str))).sum=o.length:=by
    intro o
    induction o with
    |nil=>rfl
    |cons c o ih=>rw[bd,List.sum_cons,ih,fo];show 1+_=_;omega
   rw[this,g];decide
  refine⟨_,rfl,dR a7 (by decide) (by decide) fun bp H2 w0 w1 D s=>?_⟩;refine⟨_,rfl,dR D (by decide) (by decide) fun turn H3 t0 t1 a9 M=>?_⟩;refine⟨_,rfl,dR a9 (by decide) (by decide) fun bn H4 s0 s1 N O=>?_⟩;have T:c9 p H H4:=((L.trans s).trans M).trans O;obtain⟨j,rfl⟩:=jy w0;obtain⟨G,rfl⟩:=jy t0;obtain⟨sz,rfl⟩:=jy s0;have hb:=BP o;generalize xi "" (o.map fun c=>(⟨#[c]⟩:Str))=base at hb ⊢;refine⟨(by show 0<=ak;decide),fun f hf=>?_⟩;obtain⟨op,bf⟩:=N.pen;have y:H f=none:=T.free bf hf;have U:=C.nep y;have Y:=C.nec y;refine⟨_,rfl,n,rfl,by omega,by omega,mJ (lo:=0) (n:=((n:Int)).toNat) (fun i σ u=>∃(a b c' d:Option V),σ=[some (.ref p),some (.int n),some (.str "abcdefghijklmnopqrstuvwxyz"),some (.str base),some (.int j),some (.int G),some (.int sz),some (.ref f),a,b,c',d] /\
   gW u p c/\c9 p H u/\u f=some (.lst ((ki o j G sz i).map V.str)))
   ⟨_,_,_,_,rfl,N.upd U Y,T.trans (c9.new hf),aa⟩ ?_ ?_⟩
  ·rintro i σ u hi ⟨a,b,c',d,rfl,v,t,z⟩;have b1:i<n:=by omega
   have b2:j<3:=by omega
   have bi:((G:Int)+3 * (0+(i:Int))) % 26=(((G+3 * i) % 26:Nat):Int):=by omega
   refine⟨_,rfl,_,rfl,_,rfl,_,_,rfl,rfl,.inl ⟨by decide,by decide⟩,_,_,rfl,rfl,_,_,rfl,rfl,(by show(0:Int)<26;decide),_,_,_,rfl,rfl,Dy,GW (p9 _ (by decide)) (p8 _ (by decide)),?_⟩;have al:base.length<=ak:=by rw[fH,hb,g];decide
   have e8:((sz:Int)+(0+(i:Int)) * ((j:Int) % 2)) % 8=((fB j sz i:Nat):Int):=by
    unfold fB;have:j=0∨j=1∨j=2:=by omega
    rcases this with rfl|rfl|rfl<;>simp<;>omega
   refine⟨_,rfl,_,rfl,_,rfl,_,rfl,_,_,rfl,rfl,(by show(0:Int)<2;decide),_,_,rfl,rfl,.inr ⟨by omega,by omega⟩,_,_,rfl,rfl,_,_,rfl,rfl,(by show(0:Int)<8;decide),_,rfl,base,rfl,al,?_⟩;rw[e8];have m:=GL base (fB j sz i);rw[hb]at m;generalize uH base none (some ((fB j sz i:Nat):Int))=part at m ⊢;have h8:fB j sz i<8:=sT _ (by decide);have B:part.length=fB j sz i:=by rw[fH,m,aN,g];omega
   have pz:part.length<=ak:=by rw[B];exact eK (ar (by omega))
   refine⟨_,rfl,.inr ⟨part,rfl,pz,_,rfl,.inr ⟨part,rfl,pz,_,_,rfl,rfl,⟨by decide,by decide⟩,(by show 3<=ak;decide),fun q hq=>?_⟩⟩⟩;have an:H q=none:=by
    obtain⟨b3,as⟩:=v.pen;exact t.free as hq
   have bl:pO [V.int 0,V.int (part.length:Nat),V.int ((part.length:Int) / 2)] (j:Int)=some (.int (AN j (fB j sz i):Nat)):=by
    rw[B];have:j=0∨j=1∨j=2:=by omega
    rcases this with rfl|rfl|rfl
    ·rfl
    ·rfl
    ·show some (V.int (((fB 2 sz i:Nat):Int) / 2))=some (V.int ((AN 2 (fB 2 sz i):Nat):Int));have:AN 2 (fB 2 sz i)=fB 2 sz i / 2:=rfl;rw[this];congr 2
   refine⟨_,rfl,q,_,_,_,rfl,rfl,ay.of aa,bl,?_⟩;have aC:upd u q (.lst [V.int 0,V.int (part.length:Nat),V.int ((part.length:Int) / 2)]) f=some (.lst ((ki o j G sz i).map V.str)):=kp z hq;have c1:=GL part (AN j (fB j sz i));have c2:=GN part (AN j (fB j sz i));have l1:(uH part none (some ((AN j (fB j sz i):Nat):Int))).length<=8:=by rw[fH,c1,aN,m,aN,g];omega
   have l2:(uH part (some ((AN j (fB j sz i):Nat):Int)) none).length<=8:=by rw[fH,c2,fP,m,aN,g];omega
   refine⟨_,rfl,.inl ⟨rfl,_,ay.of aC⟩,_,rfl,_,rfl,_,rfl,part,rfl,pz,_,rfl,_,_,rfl,rfl,?_,_,rfl,_,rfl,_,rfl,part,rfl,pz,_,_,rfl,rfl,?_,f,_,_,rfl,rfl,aC,?_,?_⟩
   ·have:Str.length ⟨#[97+(((G:Int)+3 * (0+(i:Int))) % 26).toNat]⟩=1:=rfl;rw[this];exact eK (ar (by omega))
   ·rw[fH,yE,au,<-fH,<-fH];have:Str.length ⟨#[97+(((G:Int)+3 * (0+(i:Int))) % 26).toNat]⟩=1:=rfl;rw[this];exact eK (ar (by omega))
   ·rw[aj];unfold ki;rw[aj,tj];exact ar (by omega)
   ·refine⟨_,_,_,_,rfl,(v.upd (C.nep an) (C.nec an)).upd U Y,?_,?_⟩
    ·intro b' o' e nb;rw[ag (ae e y)];exact kp (t b' o' e nb) hq
    ·rw[aa];unfold ki;rw[List.range_succ,ap,ap];congr 3;show[V.str _]=[V.str _];congr 2;refine Ht ?_;rw[yE,yE,c1,c2,m,bi,lG];simp[yX,m8]
  ·rintro σ u ⟨a,b,c',d,rfl,v,t,z⟩;have en:((n:Int)).toNat=n:=by omega
   rw[en]at z;exact⟨_,rfl,k f _ u (AT g w (by omega) hn) (by unfold ki;rw[aj,tj]) y z v t⟩
structure ai where
 a:Str
 sg:List Str
 b:Str
deriving DecidableEq
def SignAt(H:Hp)(s:Addr)(sg:Zb):Prop:=H s=some (.tup (sg.map V.str))
def gX(H:Hp)(t:Addr)(d:ai):Prop:=∃s,H t=some (.tup [.str d.a,.ref s,.str d.b])/\SignAt H s d.sg
def fj(H H':Hp):Prop:=∀b xs,H b=some (.tup xs)->H' b=some (.tup xs)
theorem gX.kt{H H':Hp}{t:Addr}{d:ai}(k:fj H H')(h:gX H t d):gX H' t d:=by
 obtain⟨s,a,e⟩:=h;exact⟨s,k _ _ a,k _ _ e⟩
theorem c9.kt{p:Addr}{H a:Hp}{f:List V}(e:c9 p H a)(g:H p=some (.lst f)):fj H a:=fun b i h=>e b _ h (fun z=>by rw[z,g]at h;cases h)
theorem ac.kt{H a:Hp}(e:ac H a):fj H a:=fun b f h=>e b _ h
theorem fj.trans{H e f:Hp}(a:fj H e)(b:fj e f):fj H f:=fun x g h=>b x g (a x g h)
theorem bW{H:Hp}{l:Addr}{a:List V}{o:HO}(h:H l=some (.lst a)):fj H (upd H l o):=fun b f e=>by
 rw[ag (fun z=>by rw[z,h]at e;cases e)];exact e
abbrev cB(H:Hp)(ts:Ze)(ds:List ai):Prop:=Paired (gX H) ts ds
theorem Paired.get{α β:Type}{R:α->β->Prop}:∀{a:List α}{e:List β}{i:Nat}{y:β},Paired R a e->e[i]?=some y->∃x,a[i]?=some x/\R x y
 |_,_,i,y,.nil,h=>by simp at h
 |_,_,0,y,.cons r t,h=>by simp at h;subst h;exact⟨_,rfl,r⟩
 |_,_,i+1,y,.cons r t,h=>by
  simp at h;obtain⟨x,f,g⟩:=Paired.get t h;exact⟨x,by simpa using f,g⟩
theorem Paired.getL{α β:Type}{R:α->β->Prop}:∀{a:List α}{e:List β}{i:Nat}{x:α},Paired R a e->a[i]?=some x->∃y,e[i]?=some y/\R x y
 |_,_,i,y,.nil,h=>by simp at h
 |_,_,0,y,.cons r t,h=>by simp at h;subst h;exact⟨_,rfl,r⟩
 |_,_,i+1,y,.cons r t,h=>by
  simp at h;obtain⟨x,f,g⟩:=Paired.getL t h;exact⟨x,by simpa using f,g⟩
theorem cB.kt{H H':Hp}{a:Ze}{e:List ai}(k:fj H H')(h:cB H a e):cB H' a e:=Paired.mapP h fun _ _ r=>r.kt k
theorem I0{H:Hp}{a:Addr}{o:HO}(h:H a=some o):upd H a o=H:=by
 funext b;by_cases e:b=a
 ·subst e;rw[aa,h]
 ·rw[ag e]
def gK(x:Str):DT:=.k (.inr x)
def pL(d:ai):DT:=.t [gK d.a,.t (d.sg.map gK),gK d.b]
theorem pc{x y:Str}(h:gK x=gK y):x=y:=by
 unfold gK at h;injection h with h;injection h
theorem ie:∀{x y:Zb},x.map gK=y.map gK->x=y
 |[],[],_=>rfl
 |[],_::_,h=>by cases h
 |_::_,[],h=>by cases h
 |a::x,b::y,h=>by
  rw[bd,bd]at h;injection h with e f;rw[pc e,ie f]
theorem Ii{x y:ai}(h:pL x=pL y):x=y:=by
 unfold pL at h;injection h with h;injection h with e h;injection h with a h;injection h with f h;injection a with a;cases x;cases y;simp only at *;rw[pc e,ie a,pc f]
theorem fF(a:Zb):DT.depths (a.map gK)=0:=by
 induction a with
 |nil=>rfl
 |cons x a e=>rw[bd];show max (DT.depth (gK x)) (DT.depths _)=0;rw[e];rfl
theorem sE(d:ai):(pL d).depth=2:=by
 show DT.depths [gK d.a,.t (d.sg.map gK),gK d.b]+1=2;show max (DT.depth (gK d.a)) (max (DT.depths (d.sg.map gK)+1) (max (DT.depth (gK d.b)) 0))+1=2;rw[fF]
 rfl
theorem wz(a:List ai):DT.depths (a.map pL)<=8:=by
 induction a with
 |nil=>exact c_ _
 |cons x e f=>rw[bd];show max (DT.depth (pL x)) (DT.depths _)<=8;rw[sE];omega
theorem l9{K:Za}{H:Hp}:∀a:List Str,DIns K H (a.map gK) (a.map V.str)
 |[]=>by show DIns K H [] [];unfold DIns;rfl
 |x::a=>by
  rw[bd,bd];unfold DIns;refine⟨_,_,rfl,?_,l9 a⟩;unfold gK lc
  rfl
theorem ii{K:Za}{H:Hp}(x:Str):lc K H (gK x) (.str x):=by unfold gK lc;rfl
theorem aM{K:Za}{H:Hp}{s:Addr}{a:Zb}(h:be K H s (a.map V.str)):lc K H (.t (a.map gK)) (.ref s):=by
 unfold lc;exact⟨s,_,rfl,h,l9 _⟩
theorem gX.dIn{K:Za}{H:Hp}{t:Addr}{d:ai}(h:gX H t d):lc K H (pL d) (.ref t):=by
 obtain⟨s,a,e⟩:=h;unfold pL;unfold lc;refine⟨t,_,rfl,be.of a,?_⟩;unfold DIns;refine⟨_,_,rfl,ii _,?_⟩;unfold DIns;refine⟨_,_,rfl,aM (be.of e),?_⟩;unfold DIns;refine⟨_,_,rfl,ii _,?_⟩;unfold DIns
 rfl
theorem cB.dIns{K:Za}{H:Hp}:∀{a:Ze}{e:List ai},cB H a e->DIns K H (e.map pL) (a.map V.ref)
 |_,_,.nil=>by show DIns K H [] [];unfold DIns;rfl
 |_,_,.cons r t=>by
  rw[bd,bd];unfold DIns;exact⟨_,_,rfl,r.dIn,cB.dIns t⟩
theorem yb{d:ai}{a:List ai}:pL d∈a.map pL↔d∈a:=by
 constructor
 ·intro h;obtain⟨x,f,e⟩:=av.mp h;rw[<-Ii e];exact f
 ·exact kb
def lQ(ds:List ai)(d:ai):List ai:=if d∈ds then ds else ds++[d]
inductive kz (vs:List V)(H:Hp)(Q:VK)(E:XK):Prop
 |mk (l t:Addr) (ts:Ze) (ds:List ai) (d:ai):(vs=[.ref l,.ref t])->(H l=some (.lst (ts.map V.ref)))->(cB H ts ds)->(gX H t d)->(ds.length<=1000)->(∀ts':List Addr,cB H ts' (lQ ds d)->Q .non (upd H l (.lst (ts'.map V.ref))))->kz  vs H Q E
theorem Jd{K:Za}{i:List V}{H:Hp}{Q:VK}{E:XK}(h:kz i H Q E):DQ K (bJ Q) (start EV i) H:=by
 obtain⟨l,t,j,g,d,rfl,a,e,m,n,k⟩:=h;refine⟨_,rfl,_,rfl,pL d,g.map pL,l,_,m.dIn,rfl,.inl (ay.of a),e.dIns,by rw[sE];decide,wz g,_,rfl,?_⟩;by_cases f:d∈g
 ·rw[if_pos rfl,zzr1 (yb.mpr f)];refine bH ?_;have:=k j (by unfold lQ;rw[if_pos f];exact e);rw[I0 a]at this;exact this
 ·rw[if_pos rfl,zzr0 (fun z=>f (yb.mp z))];refine cT ?_;refine⟨_,rfl,.inl ⟨rfl,_,ay.of a⟩,_,rfl,l,_,_,rfl,rfl,a,?_,?_⟩
  ·rw[aj,Paired.length e];exact ar n
  ·have:=k (j++[t]) (by unfold lQ;rw[if_neg f];exact cr e m);rw[ap]at this;exact this
structure DI(R:ai->Prop)(H0:Hp)(p c l:Addr)(m:Nat)(H:Hp):Prop where
 pen:gW H p c
 ds:∃ts ds,H l=some (.lst (ts.map V.ref))/\cB H ts ds/\ds.Nodup/\(∀d∈ds,R d)/\ds.length<=m
 ex:c9 p H0 H
 fr:H0 l=none
 pl:p≠l
 cl:c≠l
section
variable{R:ai->Prop}{H0 H H':Hp}{p c l:Addr}{m:Nat}
theorem gW.lst{H:Hp}{p c:Addr}(h:gW H p c):∃e,H p=some (.lst e):=by
 obtain⟨a,r,g,f,_⟩:=h;exact⟨_,f⟩
theorem DI.took(h:DI R H0 p c l m H)(a:gW H' p c)(e:c9 p H H'):DI R H0 p c l m H':=by
 obtain⟨f,g,i,j,k⟩:=h.ds;obtain⟨o,n⟩:=h.pen.lst;exact⟨a,⟨f,g,e _ _ i h.pl.symm,j.kt (e.kt n),k⟩,h.ex.trans e,h.fr,h.pl,h.cl⟩
theorem DI.new(h:DI R H0 p c l m H){q:Addr}{o:HO}(a:H q=none):DI R H0 p c l m (upd H q o) :=
 h.took (h.pen.ex (ac.new a)) (c9.new a)
theorem DI.up(h:DI R H0 p c l m H){n:Nat}(a:m<=n):DI R H0 p c l n H:=by
 obtain⟨e,f,g,i,j,k,o⟩:=h.ds;exact⟨h.pen,⟨e,f,g,i,j,k,bB o a⟩,h.ex,h.fr,h.pl,h.cl⟩
theorem DI.put(h:DI R H0 p c l m H){t:Addr}{d:ai}{Q:VK}{E:XK}(r:gX H t d)(s:R d)(u:m<=1000)(k:∀H',DI R H0 p c l (m+1) H'->Q .non H'):kz [.ref l,.ref t] H Q E:=by
 obtain⟨v,f,i,w,j,q,y⟩:=h.ds;refine⟨l,t,v,f,d,rfl,i,w,r,bB y u,fun g z=>k _ ⟨h.pen.upd h.pl h.cl,⟨g,lQ f d,aa,z.kt (bW i),?_,?_,?_⟩,?_,h.fr,h.pl,h.cl⟩⟩
 ·unfold lQ;split
  ·exact j
  ·next A =>
   rw[cJ];refine⟨j,by simp,?_⟩;intro a B b C e;have:b=d:=by simpa using C
   subst this;exact A (e▸B)
 ·intro x hx;unfold lQ at hx;split at hx
  ·exact q x hx
  ·rcases aX.mp hx with hx|hx
   ·exact q x hx
   ·have:x=d:=by simpa using hx
    rw[this];exact s
 ·unfold lQ;split
  ·omega
  ·rw[au];show f.length+1<=m+1;omega
 ·intro b o e n;rw[ag (ae e h.fr)];exact h.ex b o e n
end
theorem gW.ne_strs{H:Hp}{p c a:Addr}{g:Zb}(h:gW H p c)(f:H a=some (.lst (g.map V.str))):a≠p:=by
 intro e;obtain⟨x,y,j,i,_⟩:=h;rw[e,i]at f;injection f with f;injection f with f;cases g with
 |nil=>cases f
 |cons w g=>injection f with f;cases f
theorem jr{K:Za}{r:R2}(B:∀x y H Q,cS K x y H Q->r x y H Q){σ:L2.St}{H:Hp}{Q:VK}{p c a:Addr}{j:Nat}{e:Zb}(C:σ[0]?=some (some (.ref p)))(o:σ[j]?=some (some (.ref a)))(q:gW H p c)
  (g:H a=some (.lst (e.map V.str))) (h:e≠[]) (s:e.length<=1000) (k:∀w∈e,∀H',gW H' p c->c9 p H H'->Q (.str w) H') :
  ∃v,σ[j]?=some (some v)/\∃t,σ[0]?=some (some t)/\∃u,σ[j]?=some (some u)/\dS K [u] H fun y D=>fI [t,y] D (fun y E=>r v y E Q) E0:=by
 have I:0<e.length:=by cases e with|nil=>exact absurd rfl h|cons _ _=>simp
 have G:(V.int ((e.map V.str).length:Nat))=V.int (e.length:Nat):=by rw[aj]
 have i:=q.ne_strs g;have l:∀(x:Int) (H':Hp),0<=x->x<(e.length:Int)->gW H' p c->c9 p H H'->cS K (.ref a) (.int x) H' Q:=by
  intro x H' m z f ex;obtain⟨n,rfl⟩:=jy m;have A:n<e.length:=by omega
  exact⟨a,_,(n:Int),.str e[n],rfl,rfl,ay.of (ex _ _ g i),bc (by simp[A]),k _ (ka A) H' f ex⟩
 exact⟨_,o,_,C,_,o,.inl ⟨a,_,rfl,.inl (ay.of g),by rw[G];exact dR q (by omega) (by omega) fun x H' m z f ex=>B _ _ _ _ (l x H' m z f ex)⟩⟩
def Up(up:Bool)(rooms:Zb)(a b:Str):Prop:=∃i j:Nat,rooms[i]?=some a/\rooms[j]?=some b/\(if up=true then i<j else j<i)
structure mi(J0 J1 rooms:Zb)(up:Bool)(d:ai):Prop where
 a:d.a∈rooms
 b:d.b∈rooms
 sg:(∃w∈J0,d.sg=[("ask":Str),w])∨(∃w∈J1,d.sg=[("say":Str),w])∨(d.sg=[("still":Str)]/\Up up rooms d.a d.b)
def am:List Str:=[("still":Str)]
structure AL(J0 J1 rooms:Zb)(d:ai):Prop where
 a:d.a∈rooms
 b:d.b∈rooms
 sg:(∃w∈J0,d.sg=[("ask":Str),w])∨(∃w∈J1,d.sg=[("say":Str),w])∨d.sg=am
theorem mi.d{J0 e rooms:Zb}{up:Bool}{d:ai}(h:mi J0 e rooms up d):AL J0 e rooms d:=⟨h.a,h.b,h.sg.imp id (Or.imp id And.left)⟩
inductive Reach(ds:List ai)(a:Str):Str->Prop
 |one {b:Str}(h:(⟨a,am,b⟩:ai)∈ds):Reach ds a b
 |step {b c:Str}(r:Reach ds a b) (h:(⟨b,am,c⟩:ai)∈ds):Reach ds a c
theorem sD{rooms:Zb}(m:rooms.Nodup){i j:Nat}{a:Str}(n:rooms[i]?=some a)(o:rooms[j]?=some a):i=j:=by
 obtain⟨e,f⟩:=bY.mp n;obtain⟨g,k⟩:=bY.mp o;have l:=List.pairwise_iff_getElem.mp m;rcases wU i j with h|h|h
 ·exact absurd (f.trans k.symm) (l i j e g h)
 ·exact h
 ·exact absurd (k.trans f.symm) (l j i g e h)
theorem Up.trans{up:Bool}{rooms:Zb}(f:rooms.Nodup){a b c:Str}(g:Up up rooms a b)(l:Up up rooms b c):Up up rooms a c:=by
 obtain⟨i,j,m,n,h⟩:=g;obtain⟨q,k,o,p,e⟩:=l;have:=sD f n o;subst this;refine⟨i,k,m,p,?_⟩;cases up
 ·simp at h e ⊢;omega
 ·simp at h e ⊢;omega
theorem Up.irr{up:Bool}{rooms:Zb}(e:rooms.Nodup){a:Str}(h:Up up rooms a a):False:=by
 obtain⟨i,j,f,g,h⟩:=h;have:=sD e f g;subst this;cases up
 ·simp at h
 ·simp at h
theorem Fm{i j rooms:Zb}{g:List ai}{up:Bool}(k:rooms.Nodup)(m:∀d∈g,mi i j rooms up d){a b:Str}(h:Reach g a b):Up up rooms a b:=by
 have f:∀{a b:Str},(⟨a,am,b⟩:ai)∈g->Up up rooms a b:=by
  intro a b h;rcases(m _ h).sg with⟨w,_,e⟩|⟨w,_,e⟩|⟨_,e⟩
  ·cases e
  ·cases e
  ·exact e
 induction h with
 |one h=>exact f h
 |step r h l=>exact l.trans k (f h)
inductive hJ (vs:List V)(H:Hp)(Q:VK)(E:XK):Prop
 |mk (p c l1 l2 l3:Addr) (J0 J1 rooms:Zb) (full:Int):(vs=[.ref p,.ref l1,.ref l2,.ref l3,.int full])->(gW H p c)->(H l1=some (.lst (J0.map V.str)))->(H l2=some (.lst (J1.map V.str)))->(H l3=some (.lst (rooms.map V.str)))->(J0.length<=4)->(J1≠[])->(J1.length<=4)->(rooms≠[])->(rooms.length<=26)->(0<=full)->(full<=2)->(∀(l:Addr) (ts:Ze) (ds:List ai) (up:Bool) (H':Hp),H l=none->H' l=some (.lst (ts.map V.ref))->cB H' ts ds->ds.Nodup->(∀d∈ds,mi J0 J1 rooms up d)->ds.length<=600->gW H' p c->c9 p H H'->Q (.ref l) H')->hJ  vs H Q E
theorem at4{x r:Int}(a:0<=x)(e:x<=2)(f:0<=r)(g:r<4):∃j:Int,pO [V.int x,.int 1,.int 1,.int 2] r=some (.int j)/\0<=j/\j<=2:=by
 have:r=0∨r=1∨r=2∨r=3:=by omega
 rcases this with rfl|rfl|rfl|rfl
 ·exact⟨x,rfl,a,e⟩
 ·exact⟨1,rfl,by decide,by decide⟩
 ·exact⟨1,rfl,by decide,by decide⟩
 ·exact⟨2,rfl,by decide,by decide⟩
theorem wB(a:Zb)(k:Nat):gC (a.map V.str) (some (k:Int)) none=(a.drop k).map V.str:=by
 unfold gC;rw[HT.sIx_none,HT.sIx_nat,aj,wV (by rw[fP,aj];omega),sV];by_cases h:k<=a.length
 ·rw[sU h]
 ·rw[Nat.min_eq_right (by omega),qa (by simp),qa (by rw[aj];omega)]
theorem pM(a:Zb)(k:Nat):gC (a.map V.str) none (some (k:Int))=(a.take k).map V.str:=by
 unfold gC;rw[HT.sIx_none,HT.sIx_nat,aj,ke,Nat.sub_zero,nC,List.take_eq_take_iff,aj];omega
theorem uG{K:Za}{H:Hp}{a:Addr}{e:Zb}(h:ay K H a (e.map V.str)):lc K H (.s (e.map gK)) (.ref a):=by
 unfold lc;exact⟨a,_,rfl,h,l9 _⟩
theorem Dw{K:Za}{H:Hp}{a:Addr}(h:ay K H a []):lc K H (.s []) (.ref a):=by
 unfold lc;refine⟨a,_,rfl,h,?_⟩;unfold DIns
 rfl
inductive DdI(G:ai->Prop)(H:Hp)(p c l l1 l2 l3:Addr)(full dn:Int)(i:Nat)(σ:L2.St)(H':Hp):Prop
 |mk (a7 a8 a9 a10 a11 a12:Option V):σ=[some (.ref p),some (.ref l1),some (.ref l2),some (.ref l3),some (.int full),some (.ref l),some (.int dn),a7,a8,a9,a10,a11,a12]->DI G H p c l (11 * i) H'->DdI G H p c l l1 l2 l3 full dn i σ H'
theorem vC{K:Za}{vs:List V}{H:Hp}{Q:VK}{E:XK}(h:hJ vs H Q E):qo K fI kz (bJ Q) (start qS vs) H:=by
 obtain⟨p,c,l1,l2,l3,J0,J1,rooms,a,rfl,hp,h1,h2,h3,ha,b9,hs,a4,hr,f0,f2,k⟩:=h;have n1:=hp.ne_strs h1;have n2:=hp.ne_strs h2;have n3:=hp.ne_strs h3;refine⟨(by show 0<=ak;decide),fun l hl=>?_⟩;have a5:=hp.nep hl;have ca:=hp.nec hl;refine⟨_,rfl,dR (hp.ex (ac.new hl)) (by decide) (by decide) fun M H1 d0 d1 cc a6=>?_⟩;generalize hG:mi J0 J1 rooms (decide (M=0))=G;have base:DI G H p c l 0 H1:=⟨cc,⟨[],[],a6 _ _ aa a5.symm,.nil,nE,by simp,c_ _⟩,(c9.new hl).trans a6,hl,a5,ca⟩;refine⟨_,rfl,l3,rfl,⟨_,ay.of (base.ex _ _ h3 n3)⟩,?_⟩;refine lX (xs:=rooms.map V.str) (DdI G H p c l l1 l2 l3 a M)
  ⟨_,_,_,_,_,_,rfl,base⟩ (fun i σ H' _ ⟨_,_,_,_,_,_,_,D⟩=>ay.of (D.ex _ _ h3 n3)) ?_ ?_
 ·rintro i x σ H' t hi ⟨a7,a8,C,m,v,A,rfl,D⟩ ht;obtain⟨room,f,rfl⟩:∃room,rooms[i]?=some room/\x=V.str room:=by
   rw[cb]at hi;cases q:rooms[i]? with
   |none=>rw[q]at hi;cases hi
   |some r=>rw[q]at hi;exact⟨r,rfl,(fu hi).symm⟩
  have dk:i<rooms.length:=(bY.mp f).1;have N:room∈rooms:=aY f;refine⟨t,_,rfl,be.of aa,rfl,_,_,rfl,_,_,rfl,rfl,?_⟩;have D1:=D.new ht (o:=.tup [.int i,.str room]);refine⟨(by show 4<=ak;decide),fun q hq=>⟨_,rfl,dR (D1.new hq).pen (by decide) (by decide) fun r H2 r0 r1 cd bf=>?_⟩⟩;obtain⟨j,hj,j0,j2⟩:=at4 (x:=0) (by decide) (by decide) r0 r1;have D2:=(D1.new hq).took cd bf;refine⟨q,_,_,_,rfl,rfl,ay.of (bf q _ aa (D1.pen.nep hq).symm),hj,j,rfl,by omega,by omega,?_⟩
  let ce:Nat->L2.St->Hp->Prop:=fun i' σ O=>Jz fun(C m:Option V)=>σ=[some (.ref p),some (.ref l1),some (.ref l2),some (.ref l3),some (.int a),some (.ref l),some (.int M),some (.int i),some (.str room),C,m,v,A]/\DI G H p c l (11 * i+i') O
  refine mJ (lo:=0) (n:=j.toNat) ce
   ⟨_,_,rfl,D2⟩ ?_ ?_
  ·rintro i' σ H3 I ⟨C,m,rfl,D3⟩;refine jr (fun _ _ _ _ h=>h) rfl rfl D3.pen (D3.ex _ _ h2 n2) b9 (by omega) fun w hw H4 ch cl=>?_;have D4:=D3.took ch cl;refine⟨(by show 2<=ak;decide),fun L g=>?_⟩;have D5:=D4.new g (o:=.tup [.str "say",.str w]);refine⟨_,rfl,_,rfl,_,rfl,jr (fun _ _ _ _ h=>h) rfl rfl D5.pen (D5.ex _ _ h3 n3) a4 (by omega) fun U J H6 cm bi=>?_⟩;have D6:=D5.took cm bi;refine⟨(by show 3<=ak;decide),fun dr u=>?_⟩;have D7:=D6.new u (o:=.tup [.str room,.ref L,.str U]);have bl:H6 L=some (.tup [.str "say",.str w]):=bi _ _ aa (D4.pen.nep g).symm;refine D7.put (d:=⟨room,["say",w],U⟩) ⟨L,aa,kp bl u⟩ ?_ (by omega) fun H8 Y=>⟨_,_,rfl,Y⟩;rw[<-hG];exact⟨N,J,.inr (.inl ⟨w,hw,rfl⟩)⟩
  rintro σ H3 ⟨C,m,rfl,bn⟩;have D3:DI G H p c l (11 * i+2) H3:=bn.up (by omega);clear bn;refine⟨_,rfl,l1,rfl,⟨_,ay.of (D3.ex _ _ h1 n1)⟩,?_⟩
  let co:Nat->L2.St->Hp->Prop:=fun i' σ O=>Jz fun(C v:Option V)=>σ=[some (.ref p),some (.ref l1),some (.ref l2),some (.ref l3),some (.int a),some (.ref l),some (.int M),some (.int i),some (.str room),C,m,v,A]/\DI G H p c l (11 * i+2+2 * i') O
  refine bR (xs:=J0.map V.str) co
   ⟨_,_,rfl,D3⟩ (fun i σ H' _ ⟨_,_,_,D⟩=>ay.of (D.ex _ _ h1 n1)) ?_ ?_
  ·rintro i' x σ H4 I ⟨C,v,rfl,D4⟩;obtain⟨ask,an,rfl⟩:∃ask,J0[i']?=some ask/\x=V.str ask:=by
    rw[cb]at I;cases q:J0[i']? with
    |none=>rw[q]at I;cases I
    |some r=>rw[q]at I;exact⟨r,rfl,(fu I).symm⟩
   have dm:i'<J0.length:=(bY.mp an).1;have cq:ask∈J0:=aY an;refine⟨_,rfl,(by show 4<=ak;decide),fun q hq=>⟨_,rfl,dR (D4.new hq).pen (by decide) (by decide) fun r H5 r0 r1 cs bp=>?_⟩⟩;obtain⟨j,hj,j0,j2⟩:=at4 f0 f2 r0 r1;have D5:=(D4.new hq).took cs bp;refine⟨q,_,_,_,rfl,rfl,ay.of (bp q _ aa (D4.pen.nep hq).symm),hj,j,rfl,by omega,by omega,?_⟩
   let ct:Nat->L2.St->Hp->Prop:=fun b1 σ O=>∃C:Option V,σ=[some (.ref p),some (.ref l1),some (.ref l2),some (.ref l3),some (.int a),some (.ref l),some (.int M),some (.int i),some (.str room),C,m,some (.str ask),A]/\DI G H p c l (11 * i+2+2 * i'+b1) O
   refine mJ (lo:=0) (n:=j.toNat) ct
    ⟨_,rfl,D5⟩ ?_ ?_
   ·rintro b1 σ H6 dd ⟨C,rfl,D6⟩;refine⟨_,rfl,_,rfl,_,rfl,(by show 2<=ak;decide),fun L g=>?_⟩;have D7:=D6.new g (o:=.tup [.str "ask",.str ask]);refine jr (fun _ _ _ _ h=>h) rfl rfl D7.pen (D7.ex _ _ h3 n3) a4 (by omega) fun U J H8 cv b2=>?_;have Y:=D7.took cv b2;refine⟨(by show 3<=ak;decide),fun dr u=>?_⟩;have D9:=Y.new u (o:=.tup [.str room,.ref L,.str U]);have b3:H8 L=some (.tup [.str "ask",.str ask]):=b2 _ _ aa (D6.pen.nep g).symm;refine D9.put (d:=⟨room,["ask",ask],U⟩) ⟨L,aa,kp b3 u⟩ ?_ (by omega) fun H8 Y=>⟨_,rfl,Y⟩;rw[<-hG];exact⟨N,J,.inl ⟨ask,cq,rfl⟩⟩
   ·rintro σ H6 ⟨C,rfl,D6⟩;exact⟨_,_,rfl,D6.up (by omega)⟩
  rintro σ H4 ⟨C,v,rfl,b4⟩;have D4:DI G H p c l (11 * i+10) H4:=b4.up (by rw[aj];omega);clear b4;have B:∀(H9:Hp) (A:Option V),DI G H p c l (11 * i+11) H9->DdI G H p c l l1 l2 l3 a M (i+1) [some (.ref p),some (.ref l1),some (.ref l2),some (.ref l3),some (.int a),some (.ref l),some (.int M),some (.int i),some (.str room),C,m,v,A] H9:=fun H9 A D9=>⟨_,_,_,_,_,_,rfl,D9.up (by omega)⟩;refine⟨_,rfl,_,rfl,_,_,rfl,rfl,_,rfl,l3,_,rfl,ay.of (D4.ex _ _ h3 n3),fun q1 c0=>?_⟩;have D5:=D4.new c0 (o:=.lst (gC (rooms.map V.str) (some ((i:Int)+1)) none));refine⟨_,rfl,_,rfl,_,rfl,l3,_,rfl,ay.of (D5.ex _ _ h3 n3),fun q2 b5=>?_⟩;have e1:gC (rooms.map V.str) (some ((i:Int)+1)) none=(rooms.drop (i+1)).map V.str:=wB rooms (i+1);rw[pM];have D6:=D5.new b5 (o:=.lst ((rooms.take i).map V.str));refine⟨(by show 2<=ak;decide),fun q3 aC=>?_⟩;have D7:=D6.new aC (o:=.lst [.ref q1,.ref q2]);obtain⟨lt,q,hq,al,T⟩:∃(lt:Zb) (q:Addr),pO [V.ref q1,.ref q2] M=some (.ref q) /\
    upd (upd (upd H4 q1 (.lst (gC (rooms.map V.str) (some ((i:Int)+1)) none))) q2 (.lst ((rooms.take i).map V.str))) q3 (.lst [.ref q1,.ref q2]) q=some (.lst (lt.map V.str))/\lt.length<=26 /\
    ∀w∈lt,w∈rooms/\Up (decide (M=0)) rooms room w:=by
   have:M=0∨M=1:=by omega
   rcases this with rfl|rfl
   ·refine⟨rooms.drop (i+1),q1,rfl,?_,by rw[fP];omega,fun w hw=>⟨List.mem_of_mem_drop hw,?_⟩⟩
    ·refine(kp (kp aa b5) aC).trans ?_;rw[e1]
    ·obtain⟨n,hn⟩:=fN hw;rw[List.getElem?_drop]at hn;exact⟨i,i+1+n,f,hn,by rw[if_pos (by decide)];omega⟩
   ·refine⟨rooms.take i,q2,rfl,?_,by rw[aN];omega,fun w hw=>⟨fA hw,?_⟩⟩
    ·exact kp aa aC
    ·obtain⟨n,hn⟩:=fN hw;have c1:n<i:=by
      have:=(bY.mp hn).1;rw[aN]at this;omega
     rw[List.getElem?_take_of_lt c1]at hn;exact⟨i,n,f,hn,by rw[if_neg (by decide)];omega⟩
  refine⟨_,rfl,q3,_,_,_,rfl,rfl,ay.of aa,hq,?_⟩;generalize upd (upd (upd H4 q1 (.lst (gC (rooms.map V.str) (some ((i:Int)+1)) none))) q2 (.lst ((rooms.take i).map V.str))) q3 (.lst [.ref q1,.ref q2])=H7 at D7 al ⊢;refine⟨_,rfl,(by show 0<=ak;decide),fun e he=>⟨.s (lt.map gK),.s [],uG (ay.of (kp al he)),Dw (ay.of aa),?_,by decide,_,rfl,?_⟩⟩
  ·show DT.depths (lt.map gK)+1<=8;rw[fF];decide
  have Y:=D7.new he (o:=.lst []);by_cases hz:lt=[]
  ·have ez:(!decide (DT.s (lt.map gK)=DT.s []))=false:=by rw[hz,zzr1 (by rfl)];rfl
   rw[ez];exact bH (bH (B _ _ (Y.up (by omega))))
  ·have ez:(!decide (DT.s (lt.map gK)=DT.s []))=true:=by
    rw[zzr0 (fun z=>hz (ie (y:=[]) (by injection z)))];rfl
   rw[ez];refine cT ?_;refine⟨_,rfl,dR Y.pen (by decide) (by decide) fun r H9 r0 r1 c2 b6=>⟨rfl,_,rfl,?_⟩⟩;have D9:=Y.took c2 b6;refine iy (fun _=>?_) (fun _=>B _ _ (D9.up (by omega)));refine⟨_,rfl,_,rfl,(by show 1<=ak;decide),fun L g=>?_⟩;have b7:=D9.new g (o:=.tup [.str "still"]);have aF:upd H9 L (.tup [.str "still"]) q=some (.lst (lt.map V.str)):=kp (b6 _ _ (kp al he) (Y.pen.ne_strs (kp al he))) g;refine jr (fun _ _ _ _ h=>.inl h) rfl rfl b7.pen aF hz (by omega) fun U J c3 b8 as=>?_;have c4:=b7.took b8 as;refine⟨(by show 3<=ak;decide),fun dr u=>?_⟩;have c5:=c4.new u (o:=.tup [.str room,.ref L,.str U]);have a0:c3 L=some (.tup [.str "still"]):=as _ _ aa (D9.pen.nep g).symm;refine c5.put (d:=⟨room,[("still":Str)],U⟩) ⟨L,aa,kp a0 u⟩ ?_ (by omega) fun dp dc=>B _ _ dc;rw[<-hG];exact⟨N,(T.2 U J).1,.inr (.inr ⟨rfl,(T.2 U J).2⟩)⟩
 ·rintro σ H' ⟨a7,a8,C,m,v,A,rfl,D⟩;obtain⟨ts,ds,g1,g2,g3,g4,g5⟩:=D.ds;rw[aj]at g5;rw[<-hG]at g4;exact⟨_,rfl,k l ts ds _ H' hl g1 g2 g3 g4 (by omega) D.pen D.ex⟩
structure aE(J0 J1 rooms:Zb)(ds:List ai):Prop where
 okA:kJ J0
 okS:kJ J1
 apart:∀w∈J1,w∉J0
 okR:kJ rooms
 asks0:J0≠[]
 says0:J1≠[]
 rooms0:rooms≠[]
 asks4:J0.length<=4
 says4:J1.length<=4
 rooms26:rooms.length<=150
 nodup:ds.Nodup
 good:∀d∈ds,AL J0 J1 rooms d
 few:ds.length<=1000
 noround:∀r,¬Reach ds r r
structure iA(H:Hp)(t l1 l2 l3 l4:Addr)(ts:Ze)(J0 J1 rooms:Zb)(ds:List ai):Prop where
 t:H t=some (.tup [.ref l1,.ref l2,.ref l3,.ref l4])
 a1:H l1=some (.lst (J0.map V.str))
 a2:H l2=some (.lst (J1.map V.str))
 a3:H l3=some (.lst (rooms.map V.str))
 a4:H l4=some (.lst (ts.map V.ref))
 ds:cB H ts ds
theorem gW.ne_refs{H:Hp}{p c a:Addr}{g:Ze}(i:gW H p c)(f:H a=some (.lst (g.map V.ref))):a≠p:=by
 intro e;obtain⟨x,y,k,j,_⟩:=i;rw[e,j]at f;injection f with f;injection f with f;cases g with
 |nil=>cases f
 |cons w h =>
  injection f with _ f;cases h with
  |nil=>cases f
  |cons w h=>injection f with f;cases f
theorem iA.ex{H f:Hp}{p c t g i l3 j:Addr}{k:Ze}{l m rooms:Zb}{n:List ai}(h:iA H t g i l3 j k l m rooms n)(a:gW H p c)(e:c9 p H f):iA f t g i l3 j k l m rooms n:=by
 obtain⟨q,o⟩:=a.lst;exact⟨e.kt o _ _ h.t,e _ _ h.a1 (a.ne_strs h.a1),e _ _ h.a2 (a.ne_strs h.a2),e _ _ h.a3 (a.ne_strs h.a3),e _ _ h.a4 (a.ne_refs h.a4),h.ds.kt (e.kt o)⟩
theorem iA.same{H a:Hp}{t f g l3 i:Addr}{j:Ze}{k l rooms:Zb}{m:List ai}(h:iA H t f g l3 i j k l rooms m)(e:ac H a):iA a t f g l3 i j k l rooms m :=
 ⟨e _ _ h.t,e _ _ h.a1,e _ _ h.a2,e _ _ h.a3,e _ _ h.a4,h.ds.kt (ac.kt e)⟩
inductive o5 (vs:List V)(H:Hp)(Q:VK)(E:XK):Prop
 |mk (p c:Addr) (most full:Int):(vs=[.ref p,.int most,.int full])->(gW H p c)->(0<most)->(most<=25)->(0<=full)->(full<=2)->(∀(t l1 l2 l3 l4:Addr) (ts:Ze) (J0 J1 rooms:Zb) (ds:List ai) (H':Hp),iA H' t l1 l2 l3 l4 ts J0 J1 rooms ds->aE J0 J1 rooms ds->rooms.length<=most.toNat->ds.length<=600->gW H' p c->c9 p H H'->Q (.ref t) H')->o5  vs H Q E
theorem at6{r:Int}(a:0<=r)(e:r<6):∃n:Nat,pO [V.int 0,.int 1,.int 1,.int 2,.int 2,.int 3] r=some (.int n)/\n<=3:=by
 have:r=0∨r=1∨r=2∨r=3∨r=4∨r=5:=by omega
 rcases this with rfl|rfl|rfl|rfl|rfl|rfl
 ·exact⟨0,rfl,by decide⟩
 ·exact⟨1,rfl,by decide⟩
 ·exact⟨1,rfl,by decide⟩
 ·exact⟨2,rfl,by decide⟩
 ·exact⟨2,rfl,by decide⟩
 ·exact⟨3,rfl,by decide⟩
theorem GO{a:Zb}(e:a.length=8){n:Nat}(j:n<=3):gC (a.map V.str) (some 4) (some (5+(n:Int)))=((a.drop 4).take (1+n)).map V.str:=by
 unfold gC;have f:HT.sIx (a.map V.str).length 0 (some 4)=min 4 (a.map V.str).length:=HT.sIx_nat _ _ 4;have g:HT.sIx (a.map V.str).length (a.map V.str).length (some (5+(n:Int)))=min (5+n) (a.map V.str).length:=HT.sIx_nat _ _ (5+n);rw[f,g,aj,e,nC,sV];have h:min 4 8=4:=by decide
 have i:min (5+n) 8-4=1+n:=by omega
 rw[h,i]
theorem FJ{K:Za}{vs:List V}{H:Hp}{Q:VK}{E:XK}(h:o5 vs H Q E):zb K hJ lM fI sA (bJ Q) (start AK vs) H:=by
 obtain⟨p,c,b6,al,rfl,hp,m0,m1,f0,f2,k⟩:=h;refine⟨_,rfl,p,c,rfl,hp,fun H1 a6 a7=>?_⟩;refine⟨_,rfl,p,c,8,rfl,a6,by decide,fun lw a H2 ok len fr hl A a8=>?_⟩;have e2:=a7.trans a8;have nw:=A.ne_strs hl;refine⟨_,rfl,(by show 6<=ak;decide),fun q f=>⟨_,rfl,dR (A.ex (ac.new f)) (by decide) (by decide) fun r B r0 r1 a9 ex3=>?_⟩⟩;obtain⟨n,hn,n3⟩:=at6 r0 r1;have an:B lw=some (.lst (a.map V.str)):=ex3 _ _ (kp hl f) nw;refine⟨q,_,_,_,rfl,rfl,ay.of (ex3 _ _ aa (A.nep f).symm),hn,_,_,rfl,rfl,_,rfl,lw,_,rfl,ay.of an,fun g C=>?_⟩;have ea:gC (a.map V.str) none (some (1+(n:Int)))=(a.take (1+n)).map V.str:=pM a (1+n);rw[ea];have e3:c9 p H B:=e2.trans ((c9.new f).trans ex3);have i:gW (upd B g (.lst ((a.take (1+n)).map V.str))) p c:=a9.ex (ac.new C);have e4:c9 p H (upd B g (.lst ((a.take (1+n)).map V.str))):=e3.trans (c9.new C);have as:upd B g (.lst ((a.take (1+n)).map V.str)) lw=some (.lst (a.map V.str)):=kp an C;have D:upd B g (.lst ((a.take (1+n)).map V.str)) g=some (.lst ((a.take (1+n)).map V.str)):=aa;generalize upd B g (.lst ((a.take (1+n)).map V.str))=H4 at i e4 as D ⊢;refine⟨_,rfl,_,rfl,(by show 6<=ak;decide),fun q f=>⟨_,rfl,dR (i.ex (ac.new f)) (by decide) (by decide) fun r u r0 r1 bf j=>?_⟩⟩;obtain⟨m,hm,m3⟩:=at6 r0 r1;have bi:u lw=some (.lst (a.map V.str)):=j _ _ (kp as f) nw;have bl:u g=some (.lst ((a.take (1+n)).map V.str)):=j _ _ (kp D f) (i.ne_strs D);refine⟨q,_,_,_,rfl,rfl,ay.of (j _ _ aa (i.nep f).symm),hm,_,_,rfl,rfl,_,rfl,lw,_,rfl,ay.of bi,fun v G=>?_⟩;rw[GO len m3];have e5:c9 p H u:=e4.trans ((c9.new f).trans j);have l:gW (upd u v (.lst (((a.drop 4).take (1+m)).map V.str))) p c:=bf.ex (ac.new G);have e6:c9 p H (upd u v (.lst (((a.drop 4).take (1+m)).map V.str))):=e5.trans (c9.new G);have I:upd u v (.lst (((a.drop 4).take (1+m)).map V.str)) g=some (.lst ((a.take (1+n)).map V.str)):=kp bl G;have J:upd u v (.lst (((a.drop 4).take (1+m)).map V.str)) v=some (.lst (((a.drop 4).take (1+m)).map V.str)):=aa;generalize upd u v (.lst (((a.drop 4).take (1+m)).map V.str))=H6 at l e6 I J ⊢;refine⟨_,rfl,_,rfl,_,rfl,dR l m0 (by omega) fun r H7 r0 r1 L M=>?_⟩;obtain⟨rn,rfl⟩:=jy r0;have aC:=M _ _ I (l.ne_strs I);have aF:=M _ _ J (l.ne_strs J);refine⟨_,_,rfl,rfl,p,c,1+rn,rfl,L,by omega,fun l3 rooms H8 N x b7 e o O=>?_⟩;have T:=O _ _ aC (L.ne_strs aC);have U:=O _ _ aF (L.ne_strs aF);have a0:(a.drop 4).take (1+m)≠[]:=by
  intro z;have:=congrArg List.length z;rw[aN,fP,len]at this;simp at this
 have bn:a.take (1+n)≠[]:=by
  intro z;have:=congrArg List.length z;rw[aN,len]at this;simp at this
 have a4:rooms≠[]:=by
  intro z;rw[z]at x;simp at x;omega
 refine⟨_,rfl,_,rfl,_,rfl,_,rfl,_,rfl,p,c,g,v,l3,_,_,rooms,al,rfl,o,T,U,e,by rw[aN];omega,a0,by rw[aN];omega,a4,by omega,f0,f2,fun l4 ts ds up H9 b8 a5 bp b1 y few b2 s=>?_⟩;have b3:=s _ _ T (o.ne_strs T);have b4:=s _ _ U (o.ne_strs U);have b5:=s _ _ e (o.ne_strs e);refine⟨_,rfl,_,rfl,_,rfl,_,rfl,(by show 4<=ak;decide),fun t Y=>k t g v l3 l4 ts _ _ rooms ds _ ⟨aa,kp b3 Y,kp b4 Y,kp b5 Y,kp a5 Y,bp.kt (ac.kt (ac.new Y))⟩ ?_ ?_ few (b2.ex (ac.new Y)) ?_⟩
 ·refine⟨⟨?_,fun w h=>ok.2 w (fA h)⟩,⟨?_,fun w h=>ok.2 w (List.mem_of_mem_drop (fA h))⟩,?_,N,bn,a0,a4,by rw[aN];omega,by rw[aN];omega,by omega,b1,fun d hd=>(y d hd).d,by omega,fun r z=>(Fm N.1 y z).irr N.1⟩
  ·exact ok.1.sublist (List.take_sublist _ _)
  ·exact ok.1.sublist ((List.take_sublist _ _).trans (List.drop_sublist _ _))
  ·intro w h1 h2;have h3:w∈a.drop 4:=fA h1;have h4:w∈a.take 4:=by
    have:a.take (1+n)=(a.take 4).take (1+n):=by rw[List.take_take];congr 1;omega
    rw[this]at h2;exact fA h2
   have:=ok.1;rw[<-sS 4 a,cJ]at this;exact this.2.2 w h4 w h3 rfl
 ·omega
 ·exact(((e6.trans M).trans O).trans s).trans (c9.new Y)
theorem bv{a:Zb}{i:Nat}{x:V}(h:(a.map V.str)[i]?=some x):∃w,a[i]?=some w/\x=.str w:=by
 rw[cb]at h;cases q:a[i]? with
 |none=>rw[q]at h;cases h
 |some r=>rw[q]at h;exact⟨r,rfl,(fu h).symm⟩
theorem take_snoc{α:Type}{a:List α}{i:Nat}{w:α}(h:a[i]?=some w):a.take (i+1)=a.take i++[w]:=by
 obtain⟨e,rfl⟩:=bY.mp h;rw[List.take_succ_eq_append_getElem e]
def pC(w:Str):Bool:=!decide (w=("":Str)) && (decide (w.length<=8) && w.cps.toList.all fun c=>decide (c∈("abcdefghijklmnopqrstuvwxyz":Str).cps.toList))
theorem qV.b{w:Str}(h:qV w):pC w=true:=by
 unfold pC;have a:¬(w=("":Str)):=fun e=>by
  have:=h.lo;rw[e]at this;exact absurd this (by decide +kernel)
 rw[zzr0 a,zzr1 h.hi,Bool.not_false,sR,sR,List.all_eq_true];intro c f;obtain⟨g,i⟩:=h.al c f;refine zzr1 ?_;have:=Dz (c-97) (by omega);have e:97+(c-97)=c:=by omega
 rw[e]at this;exact aY this
inductive sp_is_name (vs:List V)(H:Hp)(Q:VK)(E:XK):Prop
 |mk (w:Str):(vs=[.str w])->(w.length<=1000)->(∀H',ac H H'->Q (.bl (pC w)) H')->sp_is_name  vs H Q E
theorem By{K:Za}{a:List V}{H:Hp}{Q:VK}{E:XK}(h:sp_is_name a H Q E):DR K (bJ Q) (start EW a) H:=by
 obtain⟨w,rfl,s,k⟩:=h;refine⟨_,rfl,rfl,_,rfl,?_⟩;have t:(!decide (V.str w=V.str ("":Str)))=!decide (w=("":Str)):=by
  congr 1;by_cases e:w=("":Str)
  ·rw[zzr1 e,zzr1 (by rw[e])]
  ·rw[zzr0 e,zzr0 (fun z=>e (by injection z))]
 rw[t];refine iy (fun m=>?_) (fun m=>?_)
 ·refine⟨_,rfl,.inr ⟨w,rfl,eK (ar s),_,_,rfl,rfl,_,rfl,?_⟩⟩;refine iy (fun n=>?_) (fun n=>?_)
  ·refine⟨_,rfl,w,rfl,fun l r=>?_⟩
   let p:Nat->List V->Hp->Prop:=fun i a j=>a=((w.cps.toList.take i).map fun c=>V.bl (decide (c∈("abcdefghijklmnopqrstuvwxyz":Str).cps.toList)))/\ac H j/\j l=some (.lst a)
   refine GP p
    ⟨rfl,ac.new r,aa⟩ (fun i a j _ h=>h.2.2) ?_ ?_
   ·rintro a j ⟨rfl,q,f⟩;refine⟨l,w.cps.toList.map fun c=>decide (c∈("abcdefghijklmnopqrstuvwxyz":Str).cps.toList),rfl,ay.of ?_,?_⟩
    ·rw[f,p6];have:w.cps.toList.take w.cps.size=w.cps.toList:=by
      rw[wV];simp
     rw[this]
     rfl
    ·have:=k j q;have g:decide (w.length<=8)=true:=zzr1 (by have:=of_decide_eq_true n;omega);unfold pC at this;rw[m,g,sR,sR]at this;rw[List.all_map];exact this
   ·rintro i a j c u v ⟨rfl,q,f⟩;refine gN (u7 ?_);refine⟨_,rfl,c,_,rfl,rfl,f,?_,pA v ⟨?_,?_,aa⟩⟩
    ·rw[aj,aN];have:w.length=w.cps.toList.length:=fH w;exact ar (by omega)
    ·rw[take_snoc (by rw[<-u];simp),ap]
     rfl
    ·intro b o e;rw[ag (ae e r)];exact q b o e
  ·have:=k H (ac.refl H);have g:decide (w.length<=8)=false:=zzr0 (fun z=>n (zzr1 (by omega)));unfold pC at this;rw[m,g,sR,CL]at this;exact this
 ·have:=k H (ac.refl H);unfold pC at this;rw[Bool.eq_false_iff.mpr m,CL]at this;exact this
def a_(ws:Zb):List (cz×V):=ws.foldl (fun acc w=>cn acc (.inr w) (.bl true)) []
theorem dO(a:Zb)(w:Str):a_ (a++[w])=cn (a_ a) (.inr w) (.bl true):=by
 unfold a_;rw[ip]
 rfl
theorem zT{κ:Type}[DecidableEq κ](a:List (κ×V))(k:κ)(v:V):(cn a k v).length<=a.length+1:=by
 unfold cn;split
 ·rw[aj];omega
 ·rw[au];exact aG _
theorem jQ{α:Type}(P:List α->Prop)(e:P [])(f:∀ws w,P ws->P (ws++[w]))(ws:List α):P ws:=by
 have:∀n (ws:List α),ws.length=n->P ws:=by
  intro n
  induction n with
  |zero=>intro ws h;rw[List.length_eq_zero_iff.mp h];exact e
  |succ n g =>
   intro ws h;have a:ws≠[]:=fun z=>by rw[z]at h;cases h
   rw[<-List.dropLast_concat_getLast a];exact f _ _ (g _ (by rw[List.length_dropLast,h];rfl))
 exact this _ ws rfl
theorem kH(a:Zb):(a_ a).length<=a.length:=by
 refine jQ (fun a=>(a_ a).length<=a.length) (aG _) (fun a w h=>?_) a;show(a_ (a++[w])).length<=(a++[w]).length;rw[dO,au];have:=zT (a_ a) (.inr w) (.bl true);show _<=a.length+1;omega
theorem ux(a:Zb)(x:Str):bM (a_ a) (.inr x)=if x∈a then some (.bl true)else none:=by
 refine jQ (fun a=>bM (a_ a) (.inr x)=if x∈a then some (.bl true)else none) rfl (fun a w h=>?_) a
 show bM (a_ (a++[w])) (.inr x)=_;rw[dO,yY,h];by_cases e:x=w
 ·subst e;rw[if_pos rfl,if_pos (by simp)]
 ·have f:¬((Sum.inr x:cz)=.inr w):=fun z=>e (by injection z);rw[if_neg f];by_cases m:x∈a
  ·rw[if_pos m,if_pos (cG _ m)]
  ·rw[if_neg m,if_neg (fun z=>by rcases aX.mp z with z|z;exact m z;exact e (by simpa using z))]
theorem fg(a:Zb)(x:Str):(bM (a_ a) (.inr x)).isSome=decide (x∈a):=by
 rw[ux];by_cases m:x∈a
 ·rw[if_pos m,zzr1 m];rfl
 ·rw[if_neg m,zzr0 m];rfl
inductive sp_as_keys(K:Za)(vs:List V)(H:Hp)(Q:VK)(E:XK):Prop
 |mk (l:Addr) (ws:Zb):(vs=[.ref l])->(ay K H l (ws.map V.str))->(ws.length<=1000)->(∀d,H d=none->Q (.ref d) (upd H d (.dK (a_ ws))))->sp_as_keys K vs H Q E
theorem Bz{K:Za}{o:List V}{H:Hp}{Q:VK}{E:XK}(h:sp_as_keys K o H Q E):DS K (bJ Q) (start EX o) H:=by
 obtain⟨l,j,rfl,q,t,k⟩:=h;refine fun d p=>?_;have a:∀f,ay K (upd H d (.dK f)) l (j.map V.str):=fun f=>(ac.new p).seq q;refine⟨_,rfl,l,rfl,⟨_,a _⟩,?_⟩
 let n:Nat->L2.St->Hp->Prop:=fun i σ m=>∃x,σ=[some (.ref l),some (.ref d),x]/\m=upd H d (.dK (a_ (j.take i)))
 refine bR (xs:=j.map V.str) n ⟨_,rfl,rfl⟩ (fun i σ m _ ⟨_,_,e⟩=>by rw[e];exact a _) ?_ ?_
 ·rintro i x σ m r ⟨y,rfl,rfl⟩;obtain⟨w,s,rfl⟩:=bv r;have g:(a_ (j.take i)).length<ak:=ar (bB (kH _) (by rw[aN];omega));refine⟨_,rfl,_,rfl,d,_,rfl,.inl ⟨_,.inr w,aa,rfl,g,rfl⟩,_,rfl,?_⟩;rw[sn,take_snoc s,dO]
 ·rintro σ m ⟨x,rfl,rfl⟩;rw[aj,bb];exact⟨_,rfl,k d p⟩
def GC(most:Nat):Nat->List Str->List Str->Option Nat
 |_,_,[]=>none
 |i,ahead,n::ns=>if i=most∨n∈ahead∨pC n=false then some i else GC most (i+1) (ahead++[n]) ns
def cZ(names:Zb)(most:Nat)(taken:Zb):Option Nat:=if names=[]then some 0 else GC most 0 taken names
def oV:Option Nat->V
 |none=>.non
 |some i=>.int i
inductive sp_first_wrong_name(K:Za)(vs:List V)(H:Hp)(Q:VK)(E:XK):Prop
 |mk (l t:Addr) (names taken:Zb) (most:Nat):(vs=[.ref l,.int most,.ref t])->(ay K H l (names.map V.str))->(ay K H t (taken.map V.str))->(names.length+taken.length<=1000)->((∀w∈names,w.length<=1000))->(∀H',ac H H'->Q (oV (cZ names most taken)) H')->sp_first_wrong_name K vs H Q E
theorem qQ{K:Za}{H:Hp}{Q:VK}{E:XK}{l:Addr}{ws:Zb}(a:ay K H l (ws.map V.str))(e:ws.length<=1000)(k:∀d,H d=none->Q (.ref d) (upd H d (.dK (a_ ws)))):sp_as_keys K [.ref l] H Q E:=by
 exact⟨l,ws,rfl,a,e,k⟩
theorem EA{H:Hp}{Q:VK}{E:XK}{w:Str}(e:w.length<=1000)(k:∀a,ac H a->Q (.bl (pC w)) a):sp_is_name [.str w] H Q E:=by
 exact⟨w,rfl,e,k⟩
theorem mR{K:Za}{N:List V}{H:Hp}{Q:VK}{E:XK}(h:sp_first_wrong_name K N H Q E):nJ K sp_is_name (sp_as_keys K) (bJ Q) (start oj N) H:=by
 obtain⟨l,t,names,taken,a,rfl,A,Y,hz,hw,k⟩:=h;refine⟨_,rfl,.inl ⟨l,_,rfl,.inl A,rfl,_,rfl,?_⟩⟩;by_cases B:names=[]
 ·subst B;refine cT ?_;have:=k H (ac.refl H);exact this
 have e0:decide (V.int ((names.map V.str).length:Nat)=V.int 0)=false:=zzr0 (fun z=>B (by
  injection z with z;rw[aj]at z;exact List.length_eq_zero_iff.mp (by omega)))
 rw[e0];refine bH ?_;have s:∀H',ac H H'->Q (oV (GC a 0 taken names)) H':=by
  unfold cZ at k;rw[if_neg B]at k;exact k
 refine⟨_,rfl,qQ Y (by omega) fun d C=>?_⟩;refine⟨_,rfl,l,rfl,⟨_,(ac.new C).seq A⟩,?_⟩
 let D:Nat->L2.St->Hp->Prop:=fun i σ H'=>∃x y,σ=[some (.ref l),some (.int a),some (.ref t),some (.ref d),x,y]/\ac H H'/\H' d=some (.dK (a_ (taken++names.take i)))/\GC a i (taken++names.take i) (names.drop i)=GC a 0 taken names
 refine lX (xs:=names.map V.str) D
  ⟨_,_,rfl,ac.new C,by rw[sQ,dh];exact aa,by rw[sQ,dh,ke]⟩ (fun i σ H' _ ⟨_,_,_,p,_⟩=>p.seq A) ?_ ?_
 ·rintro i x σ H' q hi ⟨x4,x5,rfl,p,G,j⟩ O;obtain⟨w,f,rfl⟩:=bv hi;have I:i<names.length:=(bY.mp f).1;have ed:names.drop i=w::names.drop (i+1):=by
   rw[tf I];congr 1;exact(bY.mp f).2
  rw[ed]at j;have m:upd H' q (.tup [.int i,.str w]) d=some (.dK (a_ (taken++names.take i))):=kp G O;have g:ac H (upd H' q (.tup [.int i,.str w])):=p.trans (ac.new O);have J:w.length<=1000:=hw w (aY f);refine⟨q,_,rfl,be.of aa,rfl,_,_,rfl,_,_,rfl,rfl,?_⟩;generalize upd H' q (.tup [.int i,.str w])=T at m g ⊢;refine⟨_,rfl,_,rfl,rfl,_,rfl,?_⟩;by_cases u:i=a
  ·have L:decide (V.int (i:Nat)=V.int (a:Nat))=true:=zzr1 (by rw[u]);rw[L];refine cT (cT ?_);refine⟨_,rfl,?_⟩;have:=s T g;rw[<-j]at this;unfold GC at this;rw[if_pos (.inl u)]at this;exact this
  have L:decide (V.int (i:Nat)=V.int (a:Nat))=false:=zzr0 (fun z=>u (by injection z with z;omega));rw[L];refine bH ?_;refine⟨_,rfl,_,rfl,d,_,rfl,.inl ⟨_,.inr w,.inl m,rfl,rfl⟩,_,rfl,?_⟩;rw[fg];by_cases v:w∈taken++names.take i
  ·rw[zzr1 v];refine cT (cT ?_);refine⟨_,rfl,?_⟩;have:=s T g;rw[<-j]at this;unfold GC at this;rw[if_pos (.inr (.inl v))]at this;exact this
  rw[zzr0 v];refine bH ?_;refine⟨_,rfl,EA J fun H3 n=>⟨_,rfl,?_⟩⟩;have M:=n _ _ m;cases U:pC w with
  |false =>
   refine cT ?_;refine⟨_,rfl,?_⟩;have:=s H3 (g.trans n);rw[<-j]at this;unfold GC at this;rw[if_pos (.inr (.inr U))]at this;exact this
  |true =>
   refine bH ?_;have r:(a_ (taken++names.take i)).length<ak:=ar (bB (kH _) (by rw[au,aN];omega));refine⟨_,rfl,_,rfl,d,_,rfl,.inl ⟨_,.inr w,M,rfl,r,rfl⟩,_,_,rfl,?_,?_,?_⟩
   ·intro b o e;rw[ag (ae e C)];exact n _ _ (g _ _ e)
   ·rw[aa,take_snoc f,<-cI,dO]
   ·rw[<-j,take_snoc f,<-cI]
    conv=>rhs;unfold GC
    rw[if_neg];rintro(z|z|z)
    ·exact u z
    ·exact v z
    ·rw[U]at z;cases z
 ·rintro σ H' ⟨x,y,rfl,p,_,j⟩;rw[aj,List.drop_length]at j;have:=s H' p;rw[<-j]at this;exact this
theorem Aq{a:Nat}:∀(e ahead:Zb) (i:Nat),i+e.length<=a->(ahead++e).Nodup->(∀w∈e,qV w)->GC a i ahead e=none
 |[],_,_,_,_,_=>rfl
 |n::e,ahead,i,h,f,g=>by
  rw[fo]at h;unfold GC;rw[if_neg]
  ·refine Aq e (ahead++[n]) (i+1) (by omega) (by rw[cI];exact f) fun w j=>g w (d_ _ j)
  ·rintro(z|z|z)
   ·omega
   ·rw[cJ]at f;exact f.2.2 n z n (cD) rfl
   ·rw[(g n cD).b]at z;cases z
theorem iz{a:Nat}{e taken:Zb}(f:e≠[])(i:e.length<=a)(g:(taken++e).Nodup)(h:∀w∈e,qV w):cZ e a taken=none:=by
 unfold cZ;rw[if_neg f];exact Aq e taken 0 (by omega) g h
theorem gS{n:Nat}(h:n<=9000):n<ak:=xo h (by decide)
def nh(x:Str):TK:=.k (some (.inr x))
def jL(sg:Zb):TK:=.t (sg.map nh)
def Dv(d:ai):TK:=.t [nh d.a,jL d.sg,nh d.b]
theorem sB{x y:Str}(h:nh x=nh y):x=y:=by
 unfold nh at h;injection h with h;injection h with h;injection h
theorem rC:∀{x y:Zb},x.map nh=y.map nh->x=y
 |[],[],_=>rfl
 |[],_::_,h=>by cases h
 |_::_,[],h=>by cases h
 |a::x,b::y,h=>by
  rw[bd,bd]at h;injection h with e f;rw[sB e,rC f]
theorem mH{x y:Zb}(h:jL x=jL y):x=y:=by
 unfold jL at h;injection h with h;exact rC h
theorem Ih{x y:ai}(h:Dv x=Dv y):x=y:=by
 unfold Dv at h;injection h with h;injection h with a h;injection h with e h;injection h with f h;cases x;cases y;simp only at *;rw[sB a,mH e,sB f]
theorem AX(a:Zb):TK.depths (a.map nh)=0:=by
 induction a with
 |nil=>rfl
 |cons x a e=>rw[bd];show max (TK.depth (nh x)) (TK.depths _)=0;rw[e];rfl
theorem vW(a:Zb):(jL a).depth=1:=by
 show TK.depths (a.map nh)+1=1;rw[AX]
theorem vX(d:ai):(Dv d).depth=2:=by
 show max (TK.depth (nh d.a)) (max (TK.depth (jL d.sg)) (max (TK.depth (nh d.b)) 0))+1=2;rw[vW]
 rfl
theorem CW{H:Hp}:∀a:List Str,TKAts H (a.map nh) (a.map V.str)
 |[]=>by show TKAts H [] [];unfold TKAts;rfl
 |x::a=>by
  rw[bd,bd];unfold TKAts;refine⟨_,_,rfl,?_,CW a⟩;unfold nh dJ
  rfl
theorem AY{H:Hp}(x:Str):dJ H (nh x) (.str x):=by unfold nh dJ;rfl
theorem SignAt.tk{H:Hp}{s:Addr}{a:Zb}(h:SignAt H s a):dJ H (jL a) (.ref s):=by
 unfold jL dJ;exact⟨s,_,rfl,h,CW _⟩
theorem gX.tk{H:Hp}{t:Addr}{d:ai}(h:gX H t d):dJ H (Dv d) (.ref t):=by
 obtain⟨s,a,e⟩:=h;unfold Dv dJ;refine⟨t,_,rfl,a,?_⟩;unfold TKAts;refine⟨_,_,rfl,AY _,?_⟩;unfold TKAts;refine⟨_,_,rfl,SignAt.tk e,?_⟩;unfold TKAts;refine⟨_,_,rfl,AY _,?_⟩;unfold TKAts
 rfl
section
variable{κ:Type}[DecidableEq κ]
def kZ(ks:List κ):List (κ×V):=ks.foldl (fun acc k=>cn acc k (.bl true)) []
theorem nZ(a:List κ)(w:κ):kZ (a++[w])=cn (kZ a) w (.bl true):=by
 unfold kZ;rw[ip]
 rfl
theorem Ex(a:List κ):(kZ a).length<=a.length:=by
 refine jQ (fun a=>(kZ a).length<=a.length) (aG _) (fun a w h=>?_) a;show(kZ (a++[w])).length<=(a++[w]).length;rw[nZ,au];have:=zT (kZ a) w (.bl true);show _<=a.length+1;omega
theorem Gr(a:List κ)(x:κ):(bM (kZ a) x).isSome=decide (x∈a):=by
 refine jQ (fun a=>(bM (kZ a) x).isSome=decide (x∈a)) rfl (fun a w h=>?_) a;show(bM (kZ (a++[w])) x).isSome=_;rw[nZ,yY];by_cases e:x=w
 ·subst e;rw[if_pos rfl,zzr1 (by simp)]
  rfl
 ·rw[if_neg e,h];by_cases m:x∈a
  ·rw[zzr1 m,zzr1 (cG _ m)]
  ·rw[zzr0 m,zzr0 (fun z=>by rcases aX.mp z with z|z;exact m z;exact e (by simpa using z))]
end
theorem Dk{d:ai}{a:List ai}:Dv d∈a.map Dv↔d∈a:=by
 constructor
 ·intro h;obtain⟨x,f,e⟩:=av.mp h;rw[<-Ih e];exact f
 ·exact kb
def og(K:Za)(H:Hp)(v:V)(sg:Zb):Prop:=∃s,v=.ref s/\be K H s (sg.map V.str)
theorem ac.sqT{K:Za}{H f:Hp}{a:Addr}{g:List V}(e:ac H f)(h:be K H a g):be K f a g:=by
 rcases h with(h|⟨o,h⟩)|h
 ·exact .inl (.inl (e _ _ h))
 ·exact .inl (.inr ⟨o,e _ _ h⟩)
 ·exact .inr h
theorem Signs.same{K:Za}{H f:Hp}(e:ac H f){xs:List V}{a:List (List Str)}(h:Paired (og K H) xs a):Paired (og K f) xs a :=
 Paired.mapP h fun _ _ ⟨s,g,i⟩=>⟨s,g,ac.sqT e i⟩
def gP(sg:Zb):DT:=.t (sg.map gK)
theorem Do{x y:Zb}(h:gP x=gP y):x=y:=by
 unfold gP at h;injection h with h;exact ie h
theorem b0(a:Zb):(gP a).depth=1:=by
 show DT.depths (a.map gK)+1=1;rw[fF]
theorem EJ(a:List (List Str)):DT.depths (a.map gP)<=8:=by
 induction a with
 |nil=>exact c_ _
 |cons x e f=>rw[bd];show max (DT.depth (gP x)) (DT.depths _)<=8;rw[b0];omega
theorem Signs.dIns{K:Za}{H:Hp}:∀{f:List V}{a:List (List Str)},Paired (og K H) f a->DIns K H (a.map gP) f
 |_,_,.nil=>by show DIns K H [] [];unfold DIns;rfl
 |_,_,.cons ⟨s,e,r⟩ t=>by
  rw[bd];unfold DIns;refine⟨_,_,rfl,?_,Signs.dIns t⟩;rw[e];exact aM r
theorem Dj{d:Zb}{a:List (List Str)}:gP d∈a.map gP↔d∈a:=by
 constructor
 ·intro h;obtain⟨x,f,e⟩:=av.mp h;rw[<-Do e];exact f
 ·exact kb
theorem Paired.app{α β:Type}{R:α->β->Prop}:∀{a:List α}{b:List β}{c:List α}{d:List β},Paired R a b->Paired R c d->Paired R (a++c) (b++d)
 |_,_,_,_,.nil,h=>h
 |_,_,_,_,.cons r t,h=>.cons r (Paired.app t h)
def dA(w:Str):List Str:=[("ask":Str),w]
def o_(w:Str):List Str:=[("say":Str),w]
def j4(J0 J1:Zb):List (List Str):=J0.map dA++J1.map o_++[am]
theorem t_{K:Za}{h:Str}{σ:L2.St}{H:Hp}{a l:Addr}{j:Zb}{Q:Hp->Prop}(B:H a=some (.lst (j.map V.str)))(A:H l=none)(L:j.length<=1000)
  (k:∀(xs:List V) (f:Hp),Paired (og K f) xs (j.map fun w=>[h,w])->ac H f->f l=some (.lst xs)->Q f) :
  gF 1 [] σ (Hf K a) U0 k7 (bA (aU (tC (.str h)) V0)) H l Q:=by
 let r:Nat->List V->Hp->Prop:=fun i g f=>Paired (og K f) g ((j.take i).map fun w=>[h,w])/\ac H f/\f l=some (.lst g)
 refine cH (xs:=j.map V.str) r
  ⟨.nil,ac.new A,aa⟩ (fun i g f _ ⟨_,C,D⟩=>⟨D,ay.of (C _ _ B)⟩) ?_ ?_
 ·rintro g f ⟨m,u,n⟩;rw[aj,bb]at m;exact k g f m u n
 ·rintro i g f x E G ⟨m,u,n⟩;obtain⟨w,I,rfl⟩:=bv E;refine gN (u7 ?_);refine⟨_,rfl,(by show 2<=ak;decide),fun t p=>⟨kp n p,?_,pA G ⟨?_,?_,aa⟩⟩⟩
  ·rw[Paired.length m,aj,aN];exact ar (by omega)
  ·rw[take_snoc I,ap];have q:fj (upd f t (.tup [.str h,.str w])) (upd (upd f t (.tup [.str h,.str w])) l (.lst (g++[.ref t]))):=bW (kp n p);have y:fj f (upd (upd f t (.tup [.str h,.str w])) l (.lst (g++[.ref t]))):=(ac.kt (ac.new p)).trans q;refine Paired.app (Paired.mapP m fun v M ⟨s,J,e2⟩=>⟨s,J,?_⟩) (.cons ⟨t,rfl,be.of (q _ _ aa)⟩ .nil);rcases e2 with(e2|⟨o,e2⟩)|e2
   ·exact .inl (.inl (y _ _ e2))
   ·refine .inl (.inr ⟨o,?_⟩);rw[ag (fun z=>by rw[z,n]at e2;cases e2)];exact kp e2 p
   ·exact .inr e2
  ·intro b o e;rw[ag (ae e A)];exact kp (u _ _ e) p
inductive sp_door_signs(K:Za)(vs:List V)(H:Hp)(Q:VK)(E:XK):Prop
 |mk (l1 l2:Addr) (J0 J1:Zb):(vs=[.ref l1,.ref l2])->(H l1=some (.lst (J0.map V.str)))->(H l2=some (.lst (J1.map V.str)))->(J0.length<=100)->(J1.length<=100)->(∀(l:Addr) (xs:List V) (H':Hp),Paired (og K H') xs (j4 J0 J1)->ac H H'->H' l=some (.lst xs)->Q (.ref l) H')->sp_door_signs K vs H Q E
theorem vE{K:Za}{st:Addr}(i:∀H,be K H st (am.map V.str)){n:List V}{H:Hp}{Q:VK}{E:XK}(h:sp_door_signs K n H Q E):xJ K st (bJ Q) (start yO n) H:=by
 obtain⟨y,z,J,L,rfl,o,p,A,B,k⟩:=h;refine⟨_,rfl,y,rfl,⟨_,ay.of o⟩,fun a C=>?_⟩;refine t_ o C (by omega) fun f M q j D=>?_;refine⟨_,rfl,z,rfl,⟨_,ay.of (j _ _ p)⟩,fun b G=>?_⟩;refine t_ (j _ _ p) G (by omega) fun g r s l I=>?_;have t:f.length<=100:=by rw[Paired.length q,aj];exact A
 have u:g.length<=100:=by rw[Paired.length s,aj];exact B
 refine⟨a,b,f,g,rfl,rfl,l _ _ D,I,eK (ar (by omega)),fun c v=>?_⟩;refine⟨(by show 1<=ak;decide),fun d m=>?_⟩;refine⟨c,d,_,_,rfl,rfl,kp aa m,aa,?_,fun e w=>k e _ _ ?_ ?_ aa⟩
 ·rw[au];show _+1<=ak;exact eK (ar (by omega))
 ·have x:ac r (upd (upd (upd r c (.lst (f++g))) d (.lst [.ref st])) e (.lst (f++g++[.ref st]))):=((ac.new v).trans (ac.new m)).trans (ac.new w);exact Paired.app (Paired.app (Signs.same (l.trans x) q) (Signs.same x s)) (.cons ⟨st,rfl,i _⟩ .nil)
 ·exact(((j.trans l).trans (ac.new v)).trans (ac.new m)).trans (ac.new w)
def Ic(rooms:Zb)(sgs:List (List Str)):Nat->List ai->List ai->Option Nat
 |_,_,[]=>none
 |i,ahead,d::ds=>if i=2000∨d∈ahead∨d.a∉rooms∨d.sg∉sgs∨d.b∉rooms then some i else Ic rooms sgs (i+1) (ahead++[d]) ds
inductive sp_first_wrong_door(K:Za)(vs:List V)(H:Hp)(Q:VK)(E:XK):Prop
 |mk (l l3 sl:Addr) (ts:Ze) (ds:List ai) (rooms:Zb) (xs:List V) (sgs:List (List Str)):(vs=[.ref l,.ref l3,.ref sl])->(H l=some (.lst (ts.map V.ref)))->(cB H ts ds)->(H l3=some (.lst (rooms.map V.str)))->(rooms.length<=1000)->(H sl=some (.lst xs))->(Paired (og K H) xs sgs)->(ds.length<=9000)->(∀H',ac H H'->Q (oV (Ic rooms sgs 0 [] ds)) H')->sp_first_wrong_door K vs H Q E
theorem cM{a:Ze}{i:Nat}{x:V}(h:(a.map V.ref)[i]?=some x):∃w,a[i]?=some w/\x=.ref w:=by
 rw[cb]at h;cases q:a[i]? with
 |none=>rw[q]at h;cases h
 |some r=>rw[q]at h;exact⟨r,rfl,(fu h).symm⟩
theorem mS{K:Za}{vs:List V}{H:Hp}{Q:VK}{E:XK}(h:sp_first_wrong_door K vs H Q E):nK K (sp_as_keys K) (bJ Q) (start ol vs) H:=by
 obtain⟨l,l3,sl,ts,p,rooms,xs,m,rfl,hl,A,h3,hr,U,Y,hz,k⟩:=h;refine⟨_,rfl,qQ (ay.of h3) hr fun d hd=>?_⟩;refine fun e he=>?_;have B:ac H (upd (upd H d (.dK (a_ rooms))) e (.dT [])):=(ac.new hd).trans (ac.new he);have al:H e=none:=(ac.new hd).free he;refine⟨_,rfl,l,rfl,⟨_,ay.of (B _ _ hl)⟩,?_⟩
 let an:Nat->L2.St->Hp->Prop:=fun i σ H'=>∃x y,σ=[some (.ref l),some (.ref l3),some (.ref sl),some (.ref d),some (.ref e),x,y]/\ac H H'/\H' d=some (.dK (a_ rooms))/\H' e=some (.dT (kZ ((p.take i).map Dv)))/\Ic rooms m i (p.take i) (p.drop i)=Ic rooms m 0 [] p
 refine lX (xs:=ts.map V.ref) an
  ⟨_,_,rfl,B,kp aa he,aa,rfl⟩ (fun i σ H' _ ⟨_,_,_,C,_⟩=>ay.of (C _ _ hl)) ?_ ?_
 ·rintro i x σ H' q hi ⟨x5,x6,rfl,C,as,aC,D⟩ hq;obtain⟨t,ht,rfl⟩:=cM hi;obtain⟨f,r,aF⟩:=Paired.getL A ht;have a0:i<p.length:=(bY.mp r).1;have ed:p.drop i=f::p.drop (i+1):=by
   rw[tf a0];congr 1;exact(bY.mp r).2
  rw[ed]at D;have g:ac H (upd H' q (.tup [.int i,.ref t])):=C.trans (ac.new hq);have j:upd H' q (.tup [.int i,.ref t]) d=_:=kp as hq;have u:upd H' q (.tup [.int i,.ref t]) e=_:=kp aC hq;refine⟨q,_,rfl,be.of aa,rfl,_,_,rfl,_,_,rfl,rfl,?_⟩;generalize upd H' q (.tup [.int i,.ref t])=H2 at j u g ⊢;have w:=aF.kt (ac.kt g);have a4:jC K H2 (Dv f) (.ref t):=dJ.isIn 8 (by rw[vX];decide) w.tk;have G:(Dv f).depth<=8:=by rw[vX];decide
  obtain⟨s,v,I⟩:=w;have n:(i=2000∨f∈p.take i∨f.a∉rooms∨f.sg∉m∨f.b∉rooms)->Q (.int i) H2:=by
   intro c;have:=k H2 g;rw[<-D]at this;unfold Ic at this;rw[if_pos c]at this;exact this
  refine⟨_,rfl,rfl,_,rfl,?_⟩;by_cases L:i=2000
  ·have e1:decide (V.int (i:Nat)=V.int 2000)=true:=zzr1 (by rw[L];rfl);rw[e1];exact cT (cT ⟨_,rfl,n (.inl L)⟩)
  have e1:decide (V.int (i:Nat)=V.int 2000)=false:=zzr0 (fun z=>L (by injection z with z;omega));rw[e1];refine bH ?_;refine⟨_,rfl,_,rfl,e,_,rfl,.inr ⟨_,Dv f,t,.inl u,rfl,a4,G,rfl⟩,_,rfl,?_⟩;rw[Gr];by_cases M:f∈p.take i
  ·rw[zzr1 (Dk.mpr M)];exact cT ⟨_,rfl,n (.inr (.inl M))⟩
  rw[zzr0 (fun z=>M (Dk.mp z))];refine bH ?_;refine⟨_,rfl,.inr (.inl ⟨t,_,0,_,rfl,rfl,be.of v,rfl,_,rfl,d,_,rfl,.inl ⟨_,.inr f.a,.inl j,rfl,rfl⟩,_,rfl,?_⟩)⟩;rw[fg];by_cases N:f.a∈rooms;rotate_left
  ·rw[zzr0 N];exact cT (cT ⟨_,rfl,n (.inr (.inr (.inl N)))⟩)
  rw[zzr1 N];refine bH ?_;refine⟨_,rfl,.inr (.inl ⟨t,_,1,_,rfl,rfl,be.of v,rfl,_,rfl,gP f.sg,m.map gP,sl,xs,aM (be.of I),rfl,.inl (ay.of (g _ _ U)),Signs.dIns (Signs.same g Y),by rw[b0];decide,EJ _,_,rfl,?_⟩)⟩;rw[if_pos rfl];by_cases O:f.sg∈m;rotate_left
  ·rw[zzr0 (fun z=>O (Dj.mp z))];exact cT (cT ⟨_,rfl,n (.inr (.inr (.inr (.inl O))))⟩)
  rw[zzr1 (Dj.mpr O)];refine bH ?_;refine⟨_,rfl,.inr (.inl ⟨t,_,2,_,rfl,rfl,be.of v,rfl,_,rfl,d,_,rfl,.inl ⟨_,.inr f.b,.inl j,rfl,rfl⟩,_,rfl,?_⟩)⟩;rw[fg];by_cases T:f.b∈rooms;rotate_left
  ·rw[zzr0 T];exact cT ⟨_,rfl,n (.inr (.inr (.inr (.inr T))))⟩
  rw[zzr1 T];refine bH ?_;have J:(kZ ((p.take i).map Dv)).length<ak:=gS (bB (Ex _) (by rw[aj,aN];omega));refine⟨_,rfl,_,rfl,e,_,rfl,.inr ⟨_,Dv f,t,u,rfl,gX.tk ⟨s,v,I⟩,G,J,rfl⟩,_,_,rfl,?_,?_,?_,?_⟩
  ·intro b o q;rw[ag (ae q al)];exact g _ _ q
  ·rw[ag (fun z=>by rw[z,u]at j;cases j)];exact j
  ·rw[aa,take_snoc r,ap];exact congrArg (fun z=>some (HO.dT z)) (nZ _ _).symm
  ·rw[<-D,take_snoc r]
   conv=>rhs;unfold Ic
   rw[if_neg];rintro(z|z|z|z|z)
   ·exact L z
   ·exact M z
   ·exact z N
   ·exact z O
   ·exact z T
 ·rintro σ H' ⟨x,y,rfl,C,_,_,D⟩;have:=k H' C;rw[<-D,aj,Paired.length A,List.drop_length]at this;exact this
theorem Ar{rooms:Zb}{e:List (List Str)}:∀(f ahead:List ai) (i:Nat),i+f.length<=2000->(ahead++f).Nodup->(∀d∈f,d.a∈rooms/\d.sg∈e/\d.b∈rooms)->Ic rooms e i ahead f=none
 |[],_,_,_,_,_=>rfl
 |n::j,ahead,i,k,g,h=>by
  rw[fo]at k;unfold Ic;rw[if_neg]
  ·refine Ar j (ahead++[n]) (i+1) (by omega) (by rw[cI];exact g) fun w l=>h w (d_ _ l)
  ·have:=h n cD;rintro(z|z|z|z|z)
   ·omega
   ·rw[cJ]at g;exact g.2.2 n z n (cD) rfl
   ·exact z this.1
   ·exact z this.2.1
   ·exact z this.2.2
inductive sp_need_none (vs:List V)(H:Hp)(Q:VK)(E:XK):Prop
 |mk (x:V):(vs=[x,.non])->(Q .non H)->sp_need_none  vs H Q E
theorem xY{K:Za}{a:List V}{H:Hp}{Q:VK}{E:XK}(h:sp_need_none a H Q E):y8 K (bJ Q) (start AH a) H:=by
 obtain⟨x,rfl,k⟩:=h;refine⟨_,rfl,_,rfl,?_⟩;have e:(!decide (V.non=V.non))=false:=by rw[zzr1 rfl];rfl
 rw[e];exact bH k
structure Lists(H:Hp)(l1 l2 l3 l4:Addr)(ts:Ze)(J0 J1 rooms:Zb)(ds:List ai):Prop where
 a1:H l1=some (.lst (J0.map V.str))
 a2:H l2=some (.lst (J1.map V.str))
 a3:H l3=some (.lst (rooms.map V.str))
 a4:H l4=some (.lst (ts.map V.ref))
 ds:cB H ts ds
theorem Lists.same{H a:Hp}{f g l3 i:Addr}{j:Ze}{k l rooms:Zb}{m:List ai}(h:Lists H f g l3 i j k l rooms m)(e:ac H a):Lists a f g l3 i j k l rooms m :=
 ⟨e _ _ h.a1,e _ _ h.a2,e _ _ h.a3,e _ _ h.a4,h.ds.kt (ac.kt e)⟩
inductive sp_need_parts (vs:List V)(H:Hp)(Q:VK)(E:XK):Prop
 |mk (l1 l2 l3 l4:Addr) (ts:Ze) (J0 J1 rooms:Zb) (ds:List ai):(vs=[.ref l1,.ref l2,.ref l3,.ref l4])->(Lists H l1 l2 l3 l4 ts J0 J1 rooms ds)->(aE J0 J1 rooms ds)->(∀H',ac H H'->Q .non H')->sp_need_parts  vs H Q E
theorem aE.signs{J0 h rooms:Zb}{i:List ai}(m:aE J0 h rooms i):∀d∈i,d.a∈rooms/\d.sg∈j4 J0 h/\d.b∈rooms:=by
 intro d j;have g:=m.good d j;refine⟨g.a,?_,g.b⟩;unfold j4;rcases g.sg with⟨w,f,e⟩|⟨w,f,e⟩|e
 ·rw[e];exact cG _ (cG _ (av.mpr ⟨w,f,rfl⟩))
 ·rw[e];exact cG _ (cQ _ (av.mpr ⟨w,f,rfl⟩))
 ·rw[e];exact cQ _ (by simp[am])
theorem qI{a:Zb}(h:kJ a):∀w∈a,w.length<=1000:=fun w e=>bB (h.2 w e).hi (by decide)
theorem vy{K:Za}{r:List V}{H:Hp}{Q:VK}{E:XK}(h:sp_need_parts r H Q E):xE K sp_need_none (sp_first_wrong_door K) (sp_door_signs K) (sp_first_wrong_name K) (bJ Q) (start yI r) H:=by
 obtain⟨j,s,t,w,x,f,g,rooms,l,rfl,L,m,k⟩:=h;have y:cZ f 4 []=none:=iz m.asks0 m.asks4 m.okA.1 m.okA.2;have z:cZ g 4 f=none:=iz m.says0 m.says4 (by
  rw[cJ];exact⟨m.okA.1,m.okS.1,fun a A b B e=>m.apart b B (e▸A)⟩) m.okS.2
 have C:cZ rooms 150 []=none:=iz m.rooms0 (by have:=m.rooms26;omega) m.okR.1 m.okR.2;have D:Ic rooms (j4 f g) 0 [] l=none:=Ar l [] 0 (by have:=m.few;omega) m.nodup m.signs;have z1:=m.asks4;have z2:=m.says4;have z3:=m.rooms26;have z4:=m.few;refine⟨_,rfl,(by show 0<=ak;decide),fun e i=>⟨j,e,f,[],4,rfl,ay.of (kp L.a1 i),ay.of aa,by simp;omega,qI m.okA,fun H1 G=>?_⟩⟩;rw[y];refine⟨_,rfl,?_⟩;have n:=(ac.new i).trans G;refine⟨_,rfl,_,rfl,s,j,g,f,4,rfl,ay.of (n _ _ L.a2),ay.of (n _ _ L.a1),by omega,qI m.okS,fun H2 I=>?_⟩;rw[z];refine⟨_,rfl,?_⟩;have u:=n.trans I;refine⟨_,rfl,(by show 0<=ak;decide),fun e i=>⟨t,e,rooms,[],150,rfl,ay.of (kp (u _ _ L.a3) i),ay.of aa,by simp;omega,qI m.okR,fun H3 J=>?_⟩⟩;rw[C];refine⟨_,rfl,?_⟩;have o:=(u.trans (ac.new i)).trans J;refine⟨_,rfl,_,rfl,_,rfl,_,rfl,j,s,f,g,rfl,o _ _ L.a1,o _ _ L.a2,by omega,by omega,fun M N H4 O T p=>?_⟩;have v:=o.trans T;have q:=L.same v;refine⟨w,t,M,x,l,rooms,N,j4 f g,rfl,q.a4,q.ds,q.a3,by omega,p,O,by omega,fun U Y=>?_⟩;rw[D];exact⟨_,rfl,k U (v.trans Y)⟩
section
variable{κ ι:Type}[DecidableEq κ]{e:ι->κ}
def eC(e:ι->κ)(ps:List (ι×Addr)):List (κ×V):=ps.map fun x=>(e x.1,V.ref x.2)
theorem mE(inj:∀x y,e x=e y->x=y){i:ι}:∀{a:List (ι×Addr)},i∉a.map (·.1)->bM (eC e a) (e i)=none
 |[],_=>rfl
 |x::a,h=>by
  rw[bd,df]at h;show bM ((e x.1,V.ref x.2)::eC e a) (e i)=none;rw[cE (fun z=>h (.inl (inj _ _ z).symm))];exact mE inj (fun z=>h (.inr z))
theorem eN(inj:∀x y,e x=e y->x=y){i:ι}{a:Addr}:∀{f:List (ι×Addr)},(f.map (·.1)).Nodup->(i,a)∈f->bM (eC e f) (e i)=some (.ref a)
 |[],_,h=>by cases h
 |x::f,g,h=>by
  rw[bd,mY]at g;show bM ((e x.1,V.ref x.2)::eC e f) (e i)=_;rcases df.mp h with h|h
  ·rw[<-h];exact cL rfl
  ·rw[cE (fun z=>g.1 (by rw[inj _ _ z];exact av.mpr ⟨_,h,rfl⟩))];exact eN inj g.2 h
theorem wo(f:List (ι×Addr))(i:ι)(a:Addr):eC e (f++[(i,a)])=eC e f++[(e i,.ref a)]:=by
 unfold eC;rw[ap]
 rfl
end
structure DL{ι:Type}(H0 H:Hp)(d:Addr)(ps:List (ι×Addr)):Prop where
 nd:(ps.map (·.1)).Nodup
 na:(ps.map (·.2)).Nodup
 fr:∀x∈ps,H0 x.2=none
 frd:H0 d=none
 ned:∀x∈ps,x.2≠d
 same:ac H0 H
theorem DL.snoc{ι:Type}{f H k:Hp}{d:Addr}{g:List (ι×Addr)}{i:ι}{a:Addr}(h:DL f H d g)(l:i∉g.map (·.1))(m:∀x∈g,x.2≠a)(fr:f a=none)(n:a≠d)(s:ac f k):DL f k d (g++[(i,a)]):=by
 refine⟨?_,?_,?_,h.frd,?_,s⟩
 ·rw[ap,cJ];refine⟨h.nd,by simp,fun x hx y j e=>?_⟩;have:y=i:=by simpa using j
  exact l (by rw[<-this,<-e];exact hx)
 ·rw[ap,cJ];refine⟨h.na,by simp,fun x hx y j e=>?_⟩;have:y=a:=by simpa using j
  obtain⟨z,o,rfl⟩:=av.mp hx;exact m z o (e.trans this)
 ·intro x hx;rcases aX.mp hx with hx|hx
  ·exact h.fr x hx
  ·have:x=(i,a):=by simpa using hx
   rw[this];exact fr
 ·intro x hx;rcases aX.mp hx with hx|hx
  ·exact h.ned x hx
  ·have:x=(i,a):=by simpa using hx
   rw[this];exact n
theorem Gj{ι:Type}:∀{a:List (ι×Addr)},(a.map (·.2)).Nodup->∀{x y:ι×Addr},x∈a->y∈a->x.2=y.2->x=y
 |[],_,x,_,h,_,_=>by cases h
 |p::a,f,x,y,g,i,e=>by
  rw[bd,mY]at f;rcases df.mp g with hx'|hx'<;>rcases df.mp i with hy'|hy'
  ·rw[hx',hy']
  ·exact absurd (av.mpr ⟨y,hy',by rw[<-e,hx']⟩) f.1
  ·exact absurd (av.mpr ⟨x,hx',by rw[e,hy']⟩) f.1
  ·exact Gj f.2 hx' hy' e
theorem iL:∀x y:Str,(Sum.inr x:cz)=Sum.inr y->x=y:=fun x y h=>by injection h
def bE(ds:List ai)(r:Str):List ai:=ds.filter fun d=>decide (d.a=r)
inductive sp_doors_by_start (vs:List V)(H:Hp)(Q:VK)(E:XK):Prop
 |mk (l3 l4:Addr) (ts:Ze) (rooms:Zb) (ds:List ai):(vs=[.ref l3,.ref l4])->(H l3=some (.lst (rooms.map V.str)))->(H l4=some (.lst (ts.map V.ref)))->(cB H ts ds)->(rooms.Nodup)->(rooms.length<=1000)->(ds.length<=9000)->((∀d∈ds,d.a∈rooms))->(∀(d:Addr) (ps:List (Str×Addr)) (H':Hp),ps.map (·.1)=rooms->H' d=some (.dK (eC Sum.inr ps))->(∀x∈ps,∃us,H' x.2=some (.lst (us.map V.ref))/\cB H' us (bE ds x.1))->ac H H'->Q (.ref d) H')->sp_doors_by_start  vs H Q E
theorem pe{K:Za}{vs:List V}{H:Hp}{Q:VK}{E:XK}(h:sp_doors_by_start vs H Q E):qq K (bJ Q) (start qU vs) H:=by
 obtain⟨l3,l4,ts,rooms,L,rfl,h3,h4,M,aF,hz,bn,a0,k⟩:=h;refine fun d hd=>?_;refine⟨_,rfl,l3,rfl,⟨_,ay.of (kp h3 hd)⟩,?_⟩
 let a4:Nat->L2.St->Hp->Prop:=fun i σ j=>∃x y,σ=[some (.ref l3),some (.ref l4),some (.ref d),x,y]/\∃l:List (Str×Addr),l.map (·.1)=rooms.take i/\j d=some (.dK (eC Sum.inr l))/\DL H j d l/\∀x∈l,j x.2=some (.lst [])
 refine bR (xs:=rooms.map V.str) a4
  ⟨_,_,rfl,[],rfl,aa,⟨by simp,by simp,by simp,hd,by simp,ac.new hd⟩,by simp⟩ (fun i σ j _ ⟨_,_,_,_,_,_,D,_⟩=>ay.of (D.same _ _ h3)) ?_ ?_
 ·rintro i x σ j hi ⟨x3,N,rfl,l,m,n,D,g⟩;obtain⟨w,hw,rfl⟩:=bv hi;have v:w∉l.map (·.1):=by
   rw[m];intro z;have:=aF;rw[<-sS (i+1) rooms,take_snoc hw,cJ]at this;have:=this.1;rw[cJ]at this;exact this.2.2 w z w (by simp) rfl
  refine⟨(by show 0<=ak;decide),fun a G=>?_⟩;have O:(eC (Sum.inr:Str->cz) l).length<ak:=ar (by
   unfold eC;rw[aj,<-aj (f:=(·.1)) (as:=l),m,aN];omega)
  have a5:H a=none:=D.same.free G;have T:a≠d:=(ae n G).symm;have U:∀x∈l,x.2≠a:=fun x hx=>ae (g x hx) G;refine⟨_,rfl,_,rfl,d,_,rfl,.inl ⟨_,.inr w,kp n G,rfl,O,rfl⟩,_,_,rfl,l++[(w,a)],?_,?_,?_,?_⟩
  ·rw[ap,m,take_snoc hw];rfl
  ·rw[aa,gp _ (mE iL v),wo]
  ·refine D.snoc v U a5 T ?_;intro b o q;rw[ag (ae q hd)];exact kp (D.same _ _ q) G
  ·intro x hx;rcases aX.mp hx with hx|hx
   ·rw[ag (D.ned x hx)];exact kp (g x hx) G
   ·have:x=(w,a):=by simpa using hx
    rw[this,ag T];exact aa
 ·rintro σ H1 ⟨x3,N,rfl,l,m,a6,D1,g⟩;rw[aj,bb]at m;refine⟨_,rfl,l4,rfl,⟨_,ay.of (D1.same _ _ h4)⟩,?_⟩
  let a7:Nat->L2.St->Hp->Prop:=fun i σ j=>∃N,σ=[some (.ref l3),some (.ref l4),some (.ref d),x3,N]/\j d=some (.dK (eC Sum.inr l))/\DL H j d l/\∀x∈l,∃I,j x.2=some (.lst (I.map V.ref))/\cB j I (bE (L.take i) x.1)
  refine bR (xs:=ts.map V.ref) a7
   ⟨_,rfl,a6,D1,fun x hx=>⟨[],g x hx,.nil⟩⟩ (fun i σ j _ ⟨_,_,_,D,_⟩=>ay.of (D.same _ _ h4)) ?_ ?_
  ·rintro i x σ j hi ⟨N,rfl,n,D,g⟩;obtain⟨t,ht,rfl⟩:=cM hi;obtain⟨u,B,a8⟩:=Paired.getL M ht;have A:=a8.kt (ac.kt D.same);have Y:=A;obtain⟨s,a9,bp⟩:=A;have al:u.a∈l.map (·.1):=by rw[m];exact a0 u (aY B)
   obtain⟨⟨r,a⟩,p,er⟩:=av.mp al;obtain rfl:r=u.a:=er;obtain⟨I,C,an⟩:=g _ p;have b1:i<L.length:=(bY.mp B).1;have bf:I.length<=9000:=by
    rw[Paired.length an];refine bB (eG _ _) ?_;rw[aN];omega
   have KT:fj j (upd j a (.lst (I.map V.ref++[.ref t]))):=bW C;refine⟨_,rfl,_,rfl,.inr (.inl ⟨t,_,0,_,rfl,rfl,be.of a9,rfl,d,.ref a,rfl,.inl ⟨_,.inr u.a,.inl n,rfl,(eN iL D.nd p).symm⟩,.inl ⟨rfl,_,ay.of C⟩,_,rfl,a,_,_,rfl,rfl,C,?_,_,rfl,?_,?_,?_⟩)⟩
   ·rw[aj];exact gS bf
   ·rw[ag (D.ned _ p).symm];exact n
   ·refine⟨D.nd,D.na,D.fr,D.frd,D.ned,fun b o q=>?_⟩;rw[ag (ae q (D.fr _ p))];exact D.same _ _ q
   ·intro x hx;have aC:∀r',bE (L.take (i+1)) r'=bE (L.take i) r'++(if u.a=r' then[u]else[]):=by
     intro r';unfold bE;rw[take_snoc B,nA];congr 1;by_cases c:u.a=r'
     ·rw[if_pos c];simp[c]
     ·rw[if_neg c];simp[c]
    by_cases c:x.2=a
    ·have ex:=Gj D.na hx p c;subst ex;refine⟨I++[t],?_,?_⟩
     ·show upd j a _ a=_;rw[aa,ap];rfl
     ·rw[aC];show cB _ _ (bE (L.take i) u.a++(if u.a=u.a then[u]else[]))
      rw[if_pos rfl];exact Paired.app (an.kt KT) (.cons (Y.kt KT) .nil)
    ·obtain⟨bi,h1,h2⟩:=g x hx;have bl:¬(u.a=x.1):=fun z=>by
      have e1:=eN (e:=(Sum.inr:Str->cz)) iL D.nd p;have J:=eN (e:=(Sum.inr:Str->cz)) (i:=x.1) (a:=x.2) iL D.nd hx;rw[<-z,e1]at J;injection J with J;injection J with J;exact c J.symm
     refine⟨bi,by rw[ag c];exact h1,?_⟩;rw[aC,if_neg bl,dh];exact h2.kt KT
  ·rintro σ j ⟨N,rfl,n,D,g⟩;rw[aj,Paired.length M,bb]at g;exact⟨_,rfl,k d l j m n g D.same⟩
def gy(d:ai):Bool:=match d.sg with
 |s::_=>decide (s=("ask":Str))
 |[]=>false
inductive sp_has_asks_alone (vs:List V)(H:Hp)(Q:VK)(E:XK):Prop
 |mk (a:Addr) (us:Ze) (ds:List ai):(vs=[.ref a])->(H a=some (.lst (us.map V.ref)))->(cB H us ds)->(ds.length<=9000)->((∀d∈ds,d.sg≠[]))->(∀H',ac H H'->Q (.bl (ds.all gy)) H')->sp_has_asks_alone  vs H Q E
theorem pd{K:Za}{f:List V}{H:Hp}{Q:VK}{E:XK}(h:sp_has_asks_alone f H Q E):qp K (bJ Q) (start qT f) H:=by
 obtain⟨a,O,L,rfl,M,v,hz,C,k⟩:=h;refine⟨_,rfl,a,rfl,⟨_,ay.of M⟩,fun l N=>?_⟩
 let D:Nat->List V->Hp->Prop:=fun i f n=>f=(L.take i).map (fun d=>V.bl (gy d))/\ac H n/\n l=some (.lst f)
 refine cH (xs:=O.map V.ref) D
  ⟨rfl,ac.new N,aa⟩ (fun i f n _ ⟨_,p,r⟩=>⟨r,ay.of (p _ _ M)⟩) ?_ ?_
 ·rintro f n ⟨rfl,p,r⟩;rw[aj,Paired.length v,bb]at r;refine⟨l,L.map gy,rfl,ay.of (by rw[r,p6];rfl),?_⟩;rw[List.all_map];exact k n p
 ·rintro i f n x T U ⟨rfl,p,r⟩;obtain⟨t,Y,rfl⟩:=cM T;obtain⟨G,w,I⟩:=Paired.getL v Y;obtain⟨s,J,m⟩:=I.kt (ac.kt p);have A:=aY w;obtain⟨u,g,B⟩:∃u g,G.sg=u::g:=by
   cases q:G.sg with
   |nil=>exact absurd q (C G A)
   |cons x y=>exact⟨x,y,rfl⟩
  unfold SignAt at m;rw[B]at m;refine gN (u7 ?_);refine⟨_,rfl,.inr (.inl ⟨t,_,1,_,rfl,rfl,be.of J,rfl,.inr (.inl ⟨s,_,0,.str u,rfl,rfl,be.of m,bc (j:=0) rfl,rfl,r,?_,pA U ⟨?_,?_,aa⟩⟩)⟩)⟩
  ·rw[aj,aN];exact gS (by omega)
  ·rw[take_snoc w,ap];congr 1;show[V.bl _]=[V.bl _];congr 2;unfold gy;rw[B];show decide (V.str u=V.str _)=decide (u=_);by_cases c:u=("ask":Str)
   ·rw[zzr1 c,zzr1 (by rw[c])]
   ·rw[zzr0 c,zzr0 (fun z=>c (by injection z))]
  ·intro b o e;rw[ag (ae e N)];exact p _ _ e
def u6(x:Str×List Str):TK:=.t [nh x.1,jL x.2]
theorem iI:∀x y:Str×List Str,u6 x=u6 y->x=y:=by
 intro x y h;unfold u6 at h;injection h with h;injection h with a h;injection h with e h;cases x;cases y;simp only at *;rw[sB a,mH e]
theorem qC(x:Str×List Str):(u6 x).depth<=8:=by
 show max (TK.depth (nh x.1)) (max (TK.depth (jL x.2)) 0)+1<=8;rw[vW];show max 0 (max 1 0)+1<=8
 decide
def aJ(ds:List ai)(x:Str×List Str):List Str:=(ds.filter fun d=>decide (d.a=x.1/\d.sg=x.2)).map (·.b)
theorem yr(e:List ai)(d:ai)(x:Str×List Str):aJ (e++[d]) x=aJ e x++(if(d.a,d.sg)=x then[d.b]else[]):=by
 unfold aJ;rw[nA,ap];congr 1;by_cases c:(d.a,d.sg)=x
 ·subst c;simp
 ·rw[if_neg c];have:¬(d.a=x.1/\d.sg=x.2):=fun z=>c (by cases x;simp only at z;rw[z.1,z.2]);simp[List.filter_cons];intro f g;exact this ⟨f,g⟩
theorem lW{e:List ai}{x:Str×List Str}(h:∀d∈e,(d.a,d.sg)≠x):aJ e x=[]:=by
 unfold aJ;rw[List.map_eq_nil_iff,wT];intro d f;have:¬(d.a=x.1/\d.sg=x.2):=fun z=>h d f (by cases x;simp only at z;rw[z.1,z.2]);simp;intro g i;exact this ⟨g,i⟩
theorem bx{a:List ai}{x:Str×List Str}{b:Str}:b∈aJ a x↔(⟨x.1,x.2,b⟩:ai)∈a:=by
 unfold aJ;rw[av];constructor
 ·rintro⟨d,e,rfl⟩;rw[bP]at e;obtain⟨i,j⟩:=e;obtain⟨f,g⟩:=of_decide_eq_true j;cases d;simp only at f g;rw[<-f,<-g];exact i
 ·intro h;exact⟨_,bP.mpr ⟨h,zzr1 ⟨rfl,rfl⟩⟩,rfl⟩
structure jv(H:Hp)(g:Addr)(ps:List ((Str×List Str)×Addr))(ds:List ai):Prop where
 nd:(ps.map (·.1)).Nodup
 g:H g=some (.dT (eC u6 ps))
 ls:∀x∈ps,H x.2=some (.lst ((aJ ds x.1).map V.str))
 all:∀d∈ds,(d.a,d.sg)∈ps.map (·.1)
theorem jv.same{H H':Hp}{g:Addr}{a:List ((Str×List Str)×Addr)}{e:List ai}(h:jv H g a e)(s:ac H H'):jv H' g a e:=⟨h.nd,s _ _ h.g,fun x f=>s _ _ (h.ls x f),h.all⟩
inductive o7 (vs:List V)(H:Hp)(Q:VK)(E:XK):Prop
 |mk (l4:Addr) (ts:Ze) (ds:List ai):(vs=[.ref l4])->(H l4=some (.lst (ts.map V.ref)))->(cB H ts ds)->(ds.length<=9000)->(∀(g:Addr) (ps:List ((Str×List Str)×Addr)) (H':Hp),jv H' g ps ds->ac H H'->Q (.ref g) H')->o7  vs H Q E
theorem i5{K:Za}{vs:List V}{H:Hp}{Q:VK}{E:XK}(h:o7 vs H Q E):jj K (bJ Q) (start jl vs) H:=by
 obtain⟨l4,ts,T,rfl,h4,al,hz,k⟩:=h;refine fun g hg=>?_;refine⟨_,rfl,l4,rfl,⟨_,ay.of (kp h4 hg)⟩,?_⟩
 let a4:Nat->L2.St->Hp->Prop:=fun i σ u=>∃x y z,σ=[some (.ref l4),some (.ref g),x,y,z]/\∃p:List ((Str×List Str)×Addr),DL H u g p/\u g=some (.dT (eC u6 p))/\p.length<=i/\(∀x∈p,u x.2=some (.lst ((aJ (T.take i) x.1).map V.str)))/\∀d∈T.take i,(d.a,d.sg)∈p.map (·.1)
 refine bR (xs:=ts.map V.ref) a4
  ⟨_,_,_,rfl,[],⟨by simp,by simp,by simp,hg,by simp,ac.new hg⟩,aa,by simp,by simp,by simp⟩ (fun i σ u _ ⟨_,_,_,_,_,D,_⟩=>ay.of (D.same _ _ h4)) ?_ ?_
 ·rintro i x σ u hi ⟨x2,x3,x4,rfl,p,D,w,an,m,l⟩;obtain⟨t,ht,rfl⟩:=cM hi;obtain⟨f,C,a5⟩:=Paired.getL al ht;have bi:i<T.length:=(bY.mp C).1;obtain⟨s,a6,a7⟩:=a5.kt (ac.kt D.same);refine⟨t,_,rfl,be.of a6,rfl,_,_,rfl,_,_,rfl,_,_,rfl,rfl,?_⟩;refine⟨_,rfl,.inr (.inr (.inl ⟨rfl,.inr ⟨_,w⟩⟩)),_,rfl,_,rfl,(by show 2<=ak;decide),fun kt as=>⟨(by show 0<=ak;decide),fun nl U=>?_⟩⟩;have G:ac u (upd (upd u kt (.tup [.str f.a,.ref s])) nl (.lst [])):=(ac.new as).trans (ac.new U);have L:upd (upd u kt (.tup [.str f.a,.ref s])) nl (.lst []) kt=some (.tup [.str f.a,.ref s]):=kp aa U;have M:upd (upd u kt (.tup [.str f.a,.ref s])) nl (.lst []) nl=some (.lst []):=aa;have j:u nl=none:=(ac.new as).free U;generalize upd (upd u kt (.tup [.str f.a,.ref s])) nl (.lst [])=H2 at G L M ⊢;have a8:dJ H2 (u6 (f.a,f.sg)) (.ref kt):=by
   unfold u6 dJ;refine⟨kt,_,rfl,L,?_⟩;unfold TKAts;refine⟨_,_,rfl,AY _,?_⟩;unfold TKAts;refine⟨_,_,rfl,SignAt.tk (G _ _ a7),?_⟩;unfold TKAts
   rfl
  have a9:(eC u6 p).length<ak:=gS (by unfold eC;rw[aj];omega);have I:∀x,aJ (T.take (i+1)) x=aJ (T.take i) x++(if(f.a,f.sg)=x then[f.b]else[]):=fun x=>by rw[take_snoc C,yr]
  have bf:∀x,(aJ (T.take i) x).length<=9000:=fun x=>by
   unfold aJ;rw[aj];refine bB (eG _ _) ?_;rw[aN];omega
  refine⟨g,kt,_,u6 (f.a,f.sg),.ref nl,rfl,rfl,G _ _ w,a8,qC _,a9,fun v J=>?_,fun J=>?_⟩
  ·-- there aC
   have N:(f.a,f.sg)∈p.map (·.1):=by
    refine tq fun z=>?_;rw[mE iI z]at J;cases J
   obtain⟨⟨r,a⟩,n,er⟩:=av.mp N;obtain rfl:r=(f.a,f.sg):=er;rw[eN iI D.nd n]at J;injection J with J;subst J;have aF:=G _ _ (m _ n);refine⟨.inl ⟨rfl,_,ay.of aF⟩,_,rfl,a,_,_,rfl,rfl,aF,by rw[aj];exact gS (bf _),_,_,_,rfl,p,⟨D.nd,D.na,D.fr,D.frd,D.ned,fun b o q=>?_⟩,?_,by omega,?_,?_⟩
   ·rw[ag (ae q (D.fr _ n))];exact G _ _ (D.same _ _ q)
   ·rw[ag (D.ned _ n).symm];exact G _ _ w
   ·intro x hx;by_cases c:x.2=a
    ·have ex:=Gj D.na hx n c;subst ex;show upd H2 a _ a=_;rw[aa,I,if_pos rfl,ap];rfl
    ·have Y:¬((f.a,f.sg)=x.1):=fun z=>by
      have e1:=eN (e:=u6) iI D.nd n;have e2:=eN (e:=u6) (i:=x.1) (a:=x.2) iI D.nd hx;rw[<-z,e1]at e2;injection e2 with e2;injection e2 with e2;exact c e2.symm
     rw[ag c,I,if_neg Y,dh];exact G _ _ (m x hx)
   ·intro d hd;rw[take_snoc C]at hd;rcases aX.mp hd with hd|hd
    ·exact l d hd
    ·have:d=f:=by simpa using hd
     rw[this];exact N
  ·-- a new list
   have A:(f.a,f.sg)∉p.map (·.1):=by
    intro z;obtain⟨⟨r,a⟩,n,er⟩:=av.mp z;obtain rfl:r=(f.a,f.sg):=er;rw[eN iI D.nd n]at J;cases J
   have B:nl≠g:=(ae w j).symm;have O:upd H2 g (.dT (eC u6 p++[(u6 (f.a,f.sg),.ref nl)])) nl=some (.lst []):=by rw[ag B];exact M
   refine⟨.inl ⟨rfl,_,ay.of O⟩,_,rfl,nl,_,_,rfl,rfl,O,(by show 0<ak;decide),_,_,_,rfl,p++[((f.a,f.sg),nl)],?_,?_,?_,?_,?_⟩
   ·refine D.snoc A (fun x hx=>ae (m x hx) j) (D.same.free j) B ?_;intro b o q;rw[ag (ae q (D.same.free j)),ag (ae q hg)];exact G _ _ (D.same _ _ q)
   ·rw[ag B.symm,aa,wo]
   ·rw[au];show _+1<=_;omega
   ·intro x hx;rcases aX.mp hx with hx|hx
    ·have Y:¬((f.a,f.sg)=x.1):=fun z=>A (by rw[z];exact av.mpr ⟨x,hx,rfl⟩);rw[ag (ae (m x hx) j),ag (D.ned x hx),I,if_neg Y,dh];exact G _ _ (m x hx)
    ·have:x=((f.a,f.sg),nl):=by simpa using hx
     subst this;have a0:aJ (T.take i) (f.a,f.sg)=[]:=lW fun d hd z=>A (by rw[<-z];exact l d hd);show upd _ nl _ nl=_;rw[aa,I,if_pos rfl,a0]
     rfl
   ·intro d hd;rw[ap];rw[take_snoc C]at hd;rcases aX.mp hd with hd|hd
    ·exact cG _ (l d hd)
    ·have:d=f:=by simpa using hd
     rw[this];exact cQ _ (by simp)
 ·rintro σ u ⟨x2,x3,x4,rfl,p,D,w,an,m,l⟩;rw[aj,Paired.length al,bb]at m l;exact⟨_,rfl,k g p u ⟨D.nd,w,m,l⟩ D.same⟩
theorem jc:∀{L R:Zb},L.Nodup->(∀y∈L,y∈R)->L.length<=R.length
 |[],_,_,_=>c_ _
 |x::L,R,a,h=>by
  rw[mY]at a;have f:=h x cD;have:=jc (L:=L) (R:=R.erase x) a.2 fun y g=>(List.mem_erase_of_ne (fun e:y=x=>a.1 (by rw[<-e];exact g))).mpr (h y (d_ _ g));rw[List.length_erase_of_mem f]at this;have:0<R.length:=List.length_pos_of_mem f;rw[fo];omega
theorem Reach.in_{e:List ai}{a b:Str}{rooms:Zb}(f:∀d∈e,d.b∈rooms)(h:Reach e a b):b∈rooms:=by
 cases h with
 |one h=>exact f _ h
 |step r h=>exact f _ h
inductive xT (vs:List V)(H:Hp)(Q:VK)(E:XK):Prop
 |mk (g:Addr) (room:Str) (ps:List ((Str×List Str)×Addr)) (ds:List ai) (rooms:Zb):(vs=[.ref g,.str room])->(jv H g ps ds)->((∀d∈ds,d.b∈rooms))->(rooms.length<=1000)->(∀(d:Addr) (L:Zb) (H':Hp),H' d=some (.dK (a_ L))->L.Nodup->(∀w,w∈L↔Reach ds room w)->H d=none->ac H H'->Q (.ref d) H')->xT  vs H Q E
structure JH(H0 H:Hp)(ds:List ai)(room:Str)(d w:Addr)(L W:Zb)(open_:Str->Prop):Prop where
 d:H d=some (.dK (a_ L))
 w:H w=some (.lst (W.map V.str))
 same:ac H0 H
 nd:L.Nodup
 sound:∀y∈L,Reach ds room y
 wait:∀y∈W,y=room∨y∈L
 closed:∀y,(y=room∨y∈L)->y∉W->¬open_ y->∀c∈aJ ds (y,am),c∈L
theorem r8{K:Za}{st:Addr}(b1:∀H,be K H st (am.map V.str)){vs:List V}{H:Hp}{Q:VK}{E:XK}(h:xT vs H Q E):tK K st (bJ Q) (start uS vs) H:=by
 obtain⟨g,room,ps,ds,rooms,rfl,G,b2,hz,k⟩:=h;refine fun d hd=>?_;refine⟨_,rfl,(by show 1<=ak;decide),fun w hw=>?_⟩;have aF:H w=none:=(ac.new hd).free hw;have U:d≠w:=ae aa hw;refine⟨fun m σ B=>∃(L W:Zb) (x y:Option V),σ=[some (.ref g),some (.str room),some (.ref d),some (.ref w),x,y]/\JH H B ds room d w L W (fun _=>False)/\m=2 * (rooms.length-L.length)+W.length/\m<=2 * rooms.length+1,
  ⟨_,[],[room],_,_,rfl,⟨kp aa hw,aa,(ac.new hd).trans (ac.new hw),nE,by simp,by simp,?_⟩,rfl,aG _⟩,?_⟩
 ·intro y hy O;rcases hy with rfl|hy
  ·simp at O
  ·cases hy
 rintro m σ H1 ⟨L,W,x4,x5,rfl,D,rfl,hbound⟩;have T:∀{l:Zb},l.Nodup->(∀y∈l,Reach ds room y)->l.length<=rooms.length:=fun nd sd=>jc nd fun y hy=>(sd y hy).in_ b2;refine⟨_,rfl,.inl ⟨w,_,rfl,.inl (ay.of D.w),_,_,rfl,rfl,_,rfl,?_⟩⟩;refine iy (fun A=>?_) (fun A=>?_)
 ·have a0:W≠[]:=by
   intro z;rw[z]at A;exact absurd (of_decide_eq_true A) (by decide)
  obtain⟨s,f,rfl⟩:∃s f,W=s++[f]:=⟨W.dropLast,W.getLast a0,(List.dropLast_concat_getLast a0).symm⟩;have Y:f=room∨f∈L:=D.wait f (by simp);refine⟨fun σ' B=>∃(l n:Zb) (x y:Option V),σ'=[some (.ref g),some (.str room),some (.ref d),some (.ref w),x,y]/\JH H B ds room d w l n (fun _=>False)/\2 * (rooms.length-l.length)+n.length<2 * (rooms.length-L.length)+(s++[f]).length,
   fun σ' B ⟨l,n,x,y,e,D',hm⟩=>⟨_,hm,l,n,x,y,e,D',rfl,by omega⟩,?_⟩
  have al:((s++[f]).map V.str)[((s++[f]).map V.str).length-1]?=some (.str f):=by simp
  have an:((s++[f]).map V.str).dropLast=s.map V.str:=by rw[ap];simp
  refine⟨_,rfl,.inl ⟨rfl,_,ay.of D.w⟩,w,_,_,rfl,rfl,D.w,al,?_⟩;rw[an];have a4:upd H1 w (.lst (s.map V.str)) d=some (.dK (a_ L)):=by rw[ag U];exact D.d
  have a5:upd H1 w (.lst (s.map V.str)) w=some (.lst (s.map V.str)):=aa;have S1:ac H (upd H1 w (.lst (s.map V.str))):=fun b o q=>by rw[ag (ae q aF)];exact D.same _ _ q
  generalize upd H1 w (.lst (s.map V.str))=H2 at a4 a5 S1 ⊢;have G2:=G.same S1;refine⟨_,rfl,g,rfl,.inr ⟨_,.inl G2.g⟩,_,rfl,(by show 2<=ak;decide),fun kt a6=>⟨(by show 0<=ak;decide),fun et as=>⟨bM (eC u6 ps) (u6 (f,am)),.inr ⟨_,u6 (f,am),kt,.inl ?_,rfl,?_,qC _,rfl⟩,?_⟩⟩⟩
  ·exact kp (kp G2.g a6) as
  ·unfold u6 jC;refine⟨kt,_,rfl,be.of (kp aa as),?_⟩;unfold TKIns;refine⟨_,_,rfl,?_,?_⟩
   ·unfold nh jC;rfl
   unfold TKIns;refine⟨_,_,rfl,?_,?_⟩
   ·unfold jL jC;refine⟨st,_,rfl,b1 _,?_⟩;unfold am;show TKIns K _ [nh _] [V.str _];unfold TKIns;refine⟨_,_,rfl,?_,?_⟩
    ·unfold nh jC;rfl
    unfold TKIns;rfl
   unfold TKIns;rfl
  have S3:ac H2 (upd (upd H2 kt (.tup [.str f,.ref st])) et (.tup [])):=(ac.new a6).trans (ac.new as);have C:upd (upd H2 kt (.tup [.str f,.ref st])) et (.tup []) et=some (.tup []):=aa;generalize upd (upd H2 kt (.tup [.str f,.ref st])) et (.tup [])=H3 at S3 C ⊢;have D3:JH H H3 ds room d w L s (fun y=>y=f):=⟨S3 _ _ a4,S3 _ _ a5,S1.trans S3,D.nd,D.sound,fun y hy=>D.wait y (cG _ hy),fun y hy O ho=>D.closed y hy (fun z=>by rcases aX.mp z with z|z;exact O z;exact ho (by simpa using z)) (fun z=>z)⟩;have a7:2 * (rooms.length-L.length)+s.length<2 * (rooms.length-L.length)+(s++[f]).length:=by rw[au];show _<_+(_+1);omega
  have a8:∀(H4:Hp) (l n:Zb) (x y:Option V),JH H H4 ds room d w l n (fun y=>y=f)->(∀c∈aJ ds (f,am),c∈l)->2 * (rooms.length-l.length)+n.length<2 * (rooms.length-L.length)+(s++[f]).length ->
    ∃(l n:Zb) (x' y':Option V),[some (V.ref g),some (.str room),some (.ref d),some (.ref w),x,y]=[some (.ref g),some (.str room),some (.ref d),some (.ref w),x',y']/\JH H H4 ds room d w l n (fun _=>False)/\2 * (rooms.length-l.length)+n.length<2 * (rooms.length-L.length)+(s++[f]).length:=by
   intro H4 l n x y p hc hm;refine⟨l,n,x,y,rfl,⟨p.d,p.w,p.same,p.nd,p.sound,p.wait,fun y hy O _=>?_⟩,hm⟩;by_cases e:y=f
   ·rw[e];exact hc
   ·exact p.closed y hy O e
  by_cases I:(f,am)∈ps.map (·.1)
  ·obtain⟨⟨r,a⟩,a9,er⟩:=av.mp I;obtain rfl:r=(f,am):=er;rw[eN iI G.nd a9];have bf:=G.ls _ a9;refine⟨a,rfl,.inl ⟨⟨_,ay.of ((S1.trans S3) _ _ bf)⟩,?_⟩⟩
   let aC:Nat->L2.St->Hp->Prop:=fun j σ B=>IZ fun(l n:Zb) (y:Option V)=>GZ (σ=[some (.ref g),some (.str room),some (.ref d),some (.ref w),some (.str f),y]) (JH H B ds room d w l n (fun y=>y=f)) ((f=room∨f∈l)) ((∀c∈(aJ ds (f,am)).take j,c∈l)) (2 * (rooms.length-l.length)+n.length<2 * (rooms.length-L.length)+(s++[f]).length)
   refine bR (xs:=(aJ ds (f,am)).map V.str) aC
    ⟨L,s,_,rfl,D3,Y,by simp,a7⟩ (fun j σ B _ ⟨_,_,_,_,D',_,_,_⟩=>ay.of (D'.same _ _ bf)) ?_ ?_
   ·rintro j x σ H4 hj ⟨l,n,y,rfl,p,hh,hc,hm⟩;obtain⟨i,t,rfl⟩:=bv hj;have u:(⟨f,am,i⟩:ai)∈ds:=bx.mp (aY t);have N:Reach ds room i:=by
     rcases hh with hh|hh
     ·rw[hh]at u;exact .one u
     ·exact .step (p.sound _ hh) u
    have b3:=T p.nd p.sound;refine⟨_,rfl,_,rfl,d,_,rfl,.inl ⟨_,.inr i,.inl p.d,rfl,rfl⟩,_,rfl,?_⟩;rw[fg];by_cases c:i∈l
    ·rw[zzr1 c];refine bH ⟨l,n,_,rfl,p,hh,?_,hm⟩;intro c' v;rw[take_snoc t]at v;rcases aX.mp v with h|h
     ·exact hc c' h
     ·have:c'=i:=by simpa using h
      rw[this];exact c
    ·rw[zzr0 c];refine cT ?_;have bi:(l++[i]).Nodup:=by
      rw[cJ];refine⟨p.nd,by simp,fun a ha b hb e=>?_⟩;have:b=i:=by simpa using hb
      exact c (by rw[<-this,<-e];exact ha)
     have bn:∀y∈l++[i],Reach ds room y:=by
      intro y hy;rcases aX.mp hy with hy|hy
      ·exact p.sound y hy
      ·have:y=i:=by simpa using hy
       rw[this];exact N
     have J:=T bi bn;rw[au]at J;have b4:l.length+1<=rooms.length:=J;have b5:n.length<=9000:=by omega
     refine⟨_,rfl,_,rfl,d,_,rfl,.inl ⟨_,.inr i,p.d,rfl,ar (bB (kH _) (by omega)),rfl⟩,?_⟩;have bp:upd H4 d (.dK (cn (a_ l) (.inr i) (.bl true))) w=some (.lst (n.map V.str)):=by rw[ag U.symm];exact p.w
     refine⟨_,rfl,.inl ⟨rfl,_,ay.of bp⟩,_,rfl,w,_,_,rfl,rfl,bp,by rw[aj];exact gS b5,l++[i],n++[i],_,rfl,⟨?_,?_,?_,bi,bn,?_,?_⟩,?_,?_,?_⟩
     ·rw[ag U,aa,dO]
     ·rw[aa,ap];rfl
     ·intro b o q;rw[ag (ae q aF),ag (ae q hd)];exact p.same _ _ q
     ·intro y hy;rcases aX.mp hy with hy|hy
      ·rcases p.wait y hy with h|h
       ·exact .inl h
       ·exact .inr (cG _ h)
      ·exact .inr (cQ _ hy)
     ·intro y hy O ho c' v;have b6:y∉n:=fun z=>O (cG _ z);have b7:y≠i:=fun z=>O (cQ _ (by simp[z]));refine cG _ (p.closed y ?_ b6 ho c' v);rcases hy with hy|hy
      ·exact .inl hy
      ·rcases aX.mp hy with hy|hy
       ·exact .inr hy
       ·exact absurd (by simpa using hy) b7
     ·rcases hh with h|h
      ·exact .inl h
      ·exact .inr (cG _ h)
     ·intro c' v;rw[take_snoc t]at v;rcases aX.mp v with h|h
      ·exact cG _ (hc c' h)
      ·exact cQ _ h
     ·rw[au,au];show 2 * (rooms.length-(l.length+1))+(n.length+1)<_;omega
   ·rintro σ H4 ⟨l,n,y,rfl,p,hh,hc,hm⟩;rw[aj,bb]at hc;exact a8 H4 l n _ _ p hc hm
  ·rw[mE iI I];refine⟨et,rfl,.inr ⟨⟨_,be.of C⟩,?_⟩⟩;have M:aJ ds (f,am)=[]:=lW fun x hx z=>I (by rw[<-z];exact G.all x hx)
   let aC:Nat->L2.St->Hp->Prop:=fun j σ B=>σ=[some (.ref g),some (.str room),some (.ref d),some (.ref w),some (.str f),x5]/\B=H3
   refine Dp (xs:=[]) aC ⟨rfl,rfl⟩ (fun j σ B _ ⟨_,e⟩=>by rw[e];exact be.of C) (fun j x σ B hj=>by cases hj) ?_;rintro σ B ⟨rfl,rfl⟩;exact a8 _ L s _ _ D3 (by rw[M];simp) a7
 ·have M:W=[]:=by
   cases W with
   |nil=>rfl
   |cons a W=>exact absurd (zzr1 (by rw[aj,fo];omega)) A
  subst M;refine⟨_,rfl,k d L H1 D.d D.nd (fun w=>⟨D.sound w,fun hr=>?_⟩) hd D.same⟩
  induction hr with
  |one h=>exact D.closed room (.inl rfl) (by simp) (fun z=>z) _ (bx.mpr h)
  |step r h ih=>exact D.closed _ (.inr ih) (by simp) (fun z=>z) _ (bx.mpr h)
inductive sp_first_led_round (vs:List V)(H:Hp)(Q:VK)(E:XK):Prop
 |mk (l3 d:Addr) (rooms:Zb) (ps:List (Str×Addr)):(vs=[.ref l3,.ref d])->(H l3=some (.lst (rooms.map V.str)))->(H d=some (.dK (eC Sum.inr ps)))->(ps.map (·.1)=rooms)->(rooms.Nodup)->((∀x∈ps,∃L,H x.2=some (.dK (a_ L))/\x.1∉L))->(∀H',ac H H'->Q .non H')->sp_first_led_round  vs H Q E
theorem nU{K:Za}{p:List V}{H:Hp}{Q:VK}{E:XK}(h:sp_first_led_round p H Q E):oP K (bJ Q) (start pR p) H:=by
 obtain⟨q,d,rooms,u,rfl,s,v,f,m,z,k⟩:=h;refine⟨_,rfl,q,rfl,⟨_,ay.of s⟩,?_⟩
 let n:Nat->L2.St->Hp->Prop:=fun i σ e=>∃x y,σ=[some (.ref q),some (.ref d),x,y]/\ac H e
 refine lX (xs:=rooms.map V.str) n ⟨_,_,rfl,ac.refl H⟩ (fun i σ e _ ⟨_,_,_,S⟩=>ay.of (S _ _ s)) ?_ ?_
 ·rintro i x σ e t A ⟨I,J,rfl,S⟩ B;obtain⟨w,C,rfl⟩:=bv A;refine⟨t,_,rfl,be.of aa,rfl,_,_,rfl,_,_,rfl,rfl,?_⟩;have l:ac H (upd e t (.tup [.int i,.str w])):=S.trans (ac.new B);generalize upd e t (.tup [.int i,.str w])=M at l ⊢;have g:w∈u.map (·.1):=by rw[f];exact aY C
  obtain⟨⟨r,a⟩,j,D⟩:=av.mp g;obtain rfl:r=w:=D;obtain⟨L,o,G⟩:=z _ j;refine⟨_,rfl,_,rfl,_,rfl,d,.ref a,rfl,.inl ⟨_,.inr r,.inl (l _ _ v),rfl,(eN iL (by rw[f];exact m) j).symm⟩,a,_,rfl,.inl ⟨_,.inr r,.inl (l _ _ o),rfl,rfl⟩,_,rfl,?_⟩;rw[fg,zzr0 G];exact bH ⟨_,_,rfl,l⟩
 ·rintro σ e ⟨x,y,rfl,S⟩;exact k e S
abbrev lk(f:Str)(fs:List (Str×V)):Option V:=fs.lookup f
def cX(ds:List ai)(r:Str):Bool:=(bE ds r).all gy
structure bt(C:Addr)(H:Hp)(x:Addr)(J0 J1 rooms:Zb)(ds:List ai):Prop where
 at_:∃(dx:Addr) (fs:List (Str×V)) (o1 o2 o3 o4 lv qu sg sl:Addr) (ts:Ze) (lps:List (Str×Addr)) (gps:List ((Str×List Str)×Addr)) (sps:List (Str×Addr)),
  H x=some (.ins C dx fs)/\lk "is_quiet" fs=none/\lk "goals" fs=none/\lk "led_from" fs=none/\lk "rooms" fs=none /\
  lk "own_asks" fs=some (.ref o1)/\lk "own_says" fs=some (.ref o2)/\lk "own_rooms" fs=some (.ref o3)/\lk "own_doors" fs=some (.ref o4) /\
  lk "leaving" fs=some (.ref lv)/\lk "quiet" fs=some (.ref qu)/\lk "sign_goals" fs=some (.ref sg)/\lk "still_led" fs=some (.ref sl) /\
  Lists H o1 o2 o3 o4 ts J0 J1 rooms ds /\
  lps.map (·.1)=rooms/\H lv=some (.dK (eC Sum.inr lps))/\(∀x∈lps,∃us,H x.2=some (.lst (us.map V.ref))/\cB H us (bE ds x.1)) /\
  H qu=some (.dK (a_ (rooms.filter (cX ds))))/\jv H sg gps ds /\
  sps.map (·.1)=rooms/\H sl=some (.dK (eC Sum.inr sps))/\(∀x∈sps,∃L,H x.2=some (.dK (a_ L))/\L.Nodup/\∀w,w∈L↔Reach ds x.1 w)
 ok:aE J0 J1 rooms ds
 more:∃(dx:Addr) (fs:List (Str×V)),H x=some (.ins C dx fs)/\lk "asks" fs=none/\lk "says" fs=none/\lk "doors" fs=none/\lk "doors_from" fs=none
theorem eB(f:Str)(v:V):∀fs:List (Str×V),(cO f v fs).length<=fs.length+1
 |[]=>aG _
 | (g,x)::r=>by
  unfold cO;split
  ·exact sH _
  ·rw[fo,fo];have:=eB f v r;omega
theorem uu:∀(a qs:List (Str×Addr)),((qs++a).map (·.1)).Nodup->fC (eC Sum.inr qs) (eC Sum.inr a)=eC Sum.inr (qs++a)
 |[],qs,_=>by rw[dh];rfl
 |p::a,qs,g=>by
  show fC (cn (eC Sum.inr qs) (Sum.inr p.1) (.ref p.2)) (eC Sum.inr a)=_;have e:qs++p::a=(qs++[p])++a:=by simp
  rw[e]at g ⊢;have f:p.1∉qs.map (·.1):=by
   rw[ap,ap,cJ]at g;have:=g.1;rw[cJ]at this;intro z;exact this.2.2 _ z _ (by simp) rfl
  rw[gp _ (mE iL f)];have:=uu a (qs++[p]) g;rw[<-this];have h:eC (Sum.inr:Str->cz) (qs++[p])=eC Sum.inr qs++[(Sum.inr p.1,V.ref p.2)]:=by
   unfold eC;rw[ap];rfl
  rw[h]
inductive sw(C:Addr)(vs:List V)(H:Hp)(Q:VK)(E:XK):Prop
 |mk (x dx l1 l2 l3 l4:Addr) (ts:Ze) (J0 J1 rooms:Zb) (ds:List ai):(vs=[.ref x,.ref l1,.ref l2,.ref l3,.ref l4])->(H x=some (.ins C dx []))->(Lists H l1 l2 l3 l4 ts J0 J1 rooms ds)->(aE J0 J1 rooms ds)->(∀H',bt C H' x J0 J1 rooms ds->c9 x H H'->Q .non H')->sw C vs H Q E
theorem Lists.exI{H f:Hp}{x C q:Addr}{fs:List (Str×V)}{g i l3 j:Addr}{k:Ze}{l m rooms:Zb}{n:List ai}(h:Lists H g i l3 j k l m rooms n)(o:H x=some (.ins C q fs))(e:c9 x H f):Lists f g i l3 j k l m rooms n:=by
 have ne:∀{b:Addr}{p:List V},H b=some (.lst p)->b≠x:=fun a z=>by rw[z,o]at a;cases a
 exact⟨e _ _ h.a1 (ne h.a1),e _ _ h.a2 (ne h.a2),e _ _ h.a3 (ne h.a3),e _ _ h.a4 (ne h.a4),h.ds.kt fun b p a=>e _ _ a fun z=>by rw[z,o]at a;cases a⟩
theorem c9.ktI{H f:Hp}{x C g:Addr}{fs:List (Str×V)}(e:c9 x H f)(h:H x=some (.ins C g fs)):fj H f:=fun b i a=>e _ _ a fun z=>by rw[z,h]at a;cases a
theorem c9.neI{H:Hp}{x C e:Addr}{fs:List (Str×V)}(f:H x=some (.ins C e fs)){b:Addr}{g:List V}(a:H b=some (.lst g)):b≠x:=fun z=>by rw[z,f]at a;cases a
theorem Gi{H:Hp}{x C f:Addr}{fs:List (Str×V)}(g:H x=some (.ins C f fs)){b:Addr}{a:List (cz×V)}(e:H b=some (.dK a)):b≠x:=fun z=>by rw[z,g]at e;cases e
theorem II{H:Hp}{x C f:Addr}{fs:List (Str×V)}(g:H x=some (.ins C f fs)){b:Addr}{a:List (TK×V)}(e:H b=some (.dT a)):b≠x:=fun z=>by rw[z,g]at e;cases e
structure MC(K:Za)(C:Addr):Prop where
 cls:DF K C
 a1:dZ K C "own_asks"
 a2:dZ K C "own_says"
 a3:dZ K C "own_rooms"
 a4:dZ K C "own_doors"
 a5:dZ K C "leaving"
 a6:dZ K C "quiet"
 a7:dZ K C "sign_goals"
 a8:dZ K C "still_led"
theorem qP{H:Hp}{x C a:Addr}{fs:List (Str×V)}(f:Str)(y:V)(g:H x=some (.ins C a fs)):∃e,e=upd H x (.ins C a (cO f y fs))/\e x=some (.ins C a (cO f y fs))/\c9 x H e :=
 ⟨_,rfl,aa,c9.upd _ _ _⟩
theorem cR{p:Str->Bool}{a:Zb}{i:Nat}{w:Str}(h:a[i]?=some w):(a.take (i+1)).filter p=(a.take i).filter p++(if p w=true then[w]else[]):=by
 rw[take_snoc h,nA];congr 1;by_cases c:p w=true
 ·rw[if_pos c];simp[c]
 ·rw[if_neg c];simp[c]
theorem BM(a:List ai)(r:Str):(bE a r).length<=a.length:=eG _ _
theorem aE.sg0{a f rooms:Zb}{ds:List ai}(m:aE a f rooms ds){r:Str}:∀d∈bE ds r,d.sg≠[]:=by
 intro d g;have:=m.good d (bP.mp g).1;rcases this.sg with⟨w,_,e⟩|⟨w,_,e⟩|e<;>rw[e]<;>exact List.cons_ne_nil _ _
theorem HB{K:Za}{C:Addr}(M:MC K C){B:List V}{H:Hp}{Q:VK}{E:XK}(h:sw C B H Q E):
  nN K sp_need_none sp_first_led_round xT o7 (sp_as_keys K) sp_has_asks_alone sp_doors_by_start sp_need_parts (bJ Q) (start ow B) H:=by
 obtain⟨x,G,l1,l2,l3,l4,ts,J0,J1,rooms,ds,rfl,hx,L,m,k⟩:=h;have z3:=m.rooms26;have z4:=m.few;refine⟨_,rfl,_,rfl,_,rfl,_,rfl,l1,l2,l3,l4,ts,J0,J1,rooms,ds,rfl,L,m,fun H1 S1=>?_⟩;have a0:=S1 _ _ hx;have L1:=L.same S1;have E1:c9 x H H1:=ac.exB S1;refine⟨_,rfl,.inl ⟨l1,_,rfl,.inl (ay.of L1.a1),fun o1 a9=>⟨_,rfl,x,C,G,_,rfl,kp a0 a9,M.cls,M.a1,(by show 0<1000;decide),?_⟩⟩⟩;obtain⟨H2,e2,bf,F2⟩:=qP "own_asks" (.ref o1) (kp (x:=.lst (J0.map V.str)) a0 a9);rw[<-e2];have n1:o1≠x:=(ae a0 a9).symm;have f1:=F2 _ _ aa n1;have E2:c9 x H1 H2:=(c9.new a9).trans F2;have cl:=L1.exI a0 E2;have d2:(cO ("own_asks":Str) (.ref o1) []).length<=1:=eB _ _ _;clear e2 F2;refine⟨_,rfl,.inl ⟨l2,_,rfl,.inl (ay.of cl.a2),fun o2 bi=>⟨_,rfl,x,C,G,_,rfl,kp bf bi,M.cls,M.a2,by omega,?_⟩⟩⟩;obtain⟨H3,e3,bl,F3⟩:=qP "own_says" (.ref o2) (kp (x:=.lst (J1.map V.str)) bf bi);rw[<-e3];have n2:o2≠x:=(ae bf bi).symm;have f2:=F3 _ _ aa n2;have E3:c9 x H2 H3:=(c9.new bi).trans F3;have L3:=cl.exI bf E3;have d3:=eB ("own_says":Str) (.ref o2) (cO ("own_asks":Str) (.ref o1) []);clear e3 F3;refine⟨_,rfl,.inl ⟨l3,_,rfl,.inl (ay.of L3.a3),fun o3 bn=>⟨_,rfl,x,C,G,_,rfl,kp bl bn,M.cls,M.a3,by omega,?_⟩⟩⟩;obtain⟨H4,e4,bp,F4⟩:=qP "own_rooms" (.ref o3) (kp (x:=.lst (rooms.map V.str)) bl bn);rw[<-e4];have n3:o3≠x:=(ae bl bn).symm;have f3:=F4 _ _ aa n3;have E4:c9 x H3 H4:=(c9.new bn).trans F4;have L4:=L3.exI bl E4;have d4:=eB ("own_rooms":Str) (.ref o3) (cO ("own_says":Str) (.ref o2) (cO ("own_asks":Str) (.ref o1) []));clear e4 F4;refine⟨_,rfl,.inl ⟨l4,_,rfl,.inl (ay.of L4.a4),fun o4 b1=>⟨_,rfl,x,C,G,_,rfl,kp bp b1,M.cls,M.a4,by omega,?_⟩⟩⟩;obtain⟨H5,e5,n,F5⟩:=qP "own_doors" (.ref o4) (kp (x:=.lst (ts.map V.ref)) bp b1);rw[<-e5];have n4:o4≠x:=(ae bp b1).symm;have f4:=F5 _ _ aa n4;have E5:c9 x H4 H5:=(c9.new b1).trans F5;have L5:=L4.exI bp E5;generalize b7:cO ("own_doors":Str) (.ref o4) (cO ("own_rooms":Str) (.ref o3) (cO ("own_says":Str) (.ref o2) (cO ("own_asks":Str) (.ref o1) [])))=s at n;have d5:s.length<=4:=by
  rw[<-b7];have:=eB ("own_doors":Str) (.ref o4) (cO ("own_rooms":Str) (.ref o3) (cO ("own_says":Str) (.ref o2) (cO ("own_asks":Str) (.ref o1) [])));omega
 clear e5 F5;refine⟨_,rfl,_,rfl,l3,l4,ts,rooms,ds,rfl,L5.a3,L5.a4,L5.ds,m.okR.1,by omega,by omega,fun d hd=>(m.good d hd).a,fun N b2 eb O T b8 S6=>⟨_,rfl,x,C,G,s,rfl,S6 _ _ n,M.cls,M.a5,by omega,?_⟩⟩;obtain⟨H6,e6,u,F6⟩:=qP "leaving" (.ref N) (S6 _ _ n);rw[<-e6];have E6:c9 x H5 H6:=(ac.exB S6).trans F6;have L6:=L5.exI n E6;have b9:=F6 _ _ T (Gi (S6 _ _ n) T);have cm:∀y∈b2,∃A,H6 y.2=some (.lst (A.map V.ref))/\cB H6 A (bE ds y.1):=fun y hy=>by
  obtain⟨A,I,g2⟩:=b8 y hy;exact⟨A,F6 _ _ I (c9.neI (S6 _ _ n) I),g2.kt (F6.ktI (S6 _ _ n))⟩
 have c4:(b2.map (·.1)).Nodup:=by rw[O];exact m.okR.1
 have d7:=eB ("leaving":Str) (.ref N) s;have c5:lk "leaving" (cO ("leaving":Str) (.ref N) s)=some (.ref N):=by
  show kW _ _=_;rw[eU,if_pos rfl]
 clear e6 F6 T b8;refine⟨_,rfl,l3,rfl,⟨_,ay.of L6.a3⟩,fun f hf=>?_⟩
 let dc:Nat->List V->Hp->Prop:=fun i B U=>B=((rooms.take i).filter (cX ds)).map V.str/\ac H6 U/\U f=some (.lst B)
 refine cH (xs:=rooms.map V.str) dc ⟨rfl,ac.new hf,aa⟩ (fun i B U _ ⟨_,S,h'⟩=>⟨h',ay.of (S _ _ L6.a3)⟩) ?_ ?_;rotate_left
 ·rintro i B U x' ca hi ⟨rfl,S,f'⟩;obtain⟨r,hr,rfl⟩:=bv ca;obtain⟨⟨r',a⟩,co,er⟩:=av.mp (show r∈b2.map (·.1) by rw[O];exact aY hr);obtain rfl:r'=r:=er;obtain⟨A,dd,dk⟩:=cm _ co;refine gN ?_;refine⟨_,rfl,x,C,G,_,.ref N,rfl,S _ _ u,M.cls,M.a5,c5,_,rfl,N,.ref a,rfl,.inl ⟨_,.inr r',.inl (S _ _ b9),rfl,(eN iL c4 co).symm⟩,a,A,bE ds r',rfl,S _ _ dd,dk.kt (ac.kt S),bB (BM _ _) (by omega),m.sg0,fun b3 l=>⟨_,rfl,?_⟩⟩;have cq:(((rooms.take i).filter (cX ds)).map V.str).length<ak:=by
   rw[aj];refine ar (bB (eG _ _) ?_);rw[aN];omega
  refine iy (fun hq=>?_) (fun hq=>?_)
  ·refine⟨_,rfl,l _ _ f',cq,pA hi ⟨?_,?_,aa⟩⟩
   ·rw[cR hr,if_pos (show cX ds r'=true from hq),ap];rfl
   ·intro b o q;rw[ag (ae q hf)];exact l _ _ (S _ _ q)
  ·refine pA hi ⟨?_,S.trans l,?_⟩
   ·rw[cR hr,if_neg (show ¬cX ds r'=true from hq),dh]
   ·exact l _ _ f'
 rintro B ec ⟨rfl,S7,f7⟩;rw[aj,bb]at f7;refine qQ (ws:=rooms.filter (cX ds)) (ay.of f7) (bB (eG _ _) (by omega)) fun qu b4=>⟨_,rfl,x,C,G,_,rfl,kp (S7 _ _ u) b4,M.cls,M.a6,by omega,?_⟩;obtain⟨H7,e7,al,F7⟩:=qP "quiet" (.ref qu) (kp (x:=.dK (a_ (rooms.filter (cX ds)))) (S7 _ _ u) b4);rw[<-e7];have n7:qu≠x:=(ae (S7 _ _ u) b4).symm;have dm:=F7 _ _ aa n7;have E7:c9 x H6 H7:=((ac.exB S7).trans (c9.new b4)).trans F7;have L7:=L6.exI u E7;have d8:=eB ("quiet":Str) (.ref qu) (cO ("leaving":Str) (.ref N) s);clear e7 F7;refine⟨_,rfl,l4,ts,ds,rfl,L7.a4,L7.ds,by omega,fun sg cc ed G' S8=>⟨_,rfl,x,C,G,_,rfl,S8 _ _ al,M.cls,M.a7,by omega,?_⟩⟩;obtain⟨H8,e8,v,F8⟩:=qP "sign_goals" (.ref sg) (S8 _ _ al);rw[<-e8];have E8:c9 x H7 H8:=(ac.exB S8).trans F8;have L8:=L7.exI al E8;have G8:jv H8 sg cc ds:=⟨G'.nd,F8 _ _ G'.g (II (S8 _ _ al) G'.g),fun y hy=>F8 _ _ (G'.ls y hy) (c9.neI (S8 _ _ al) (G'.ls y hy)),G'.all⟩;have ea:=eB ("sign_goals":Str) (.ref sg) (cO ("quiet":Str) (.ref qu) (cO ("leaving":Str) (.ref N) s));have dn:lk "sign_goals" (cO ("sign_goals":Str) (.ref sg) (cO ("quiet":Str) (.ref qu) (cO ("leaving":Str) (.ref N) s)))=some (.ref sg):=by
  show kW _ _=_;rw[eU,if_pos rfl]
 clear e8 F8 G';refine⟨_,rfl,l3,rfl,⟨_,ay.of L8.a3⟩,fun b5 cs=>?_⟩
 let dp:Nat->List V->Hp->Prop:=fun i B U=>Jz fun(A:Ze) (pl:List (Str×Addr))=>Ku (B=A.map V.ref) (Paired (fun t (p:Str×Addr)=>U t=some (.tup [.str p.1,.ref p.2])) A pl) (pl.map (·.1)=rooms.take i) ((∀p∈pl,∃L,U p.2=some (.dK (a_ L))/\L.Nodup/\∀w,w∈L↔Reach ds p.1 w)) (ac H8 U) (U b5=some (.lst B))
 refine cH (xs:=rooms.map V.str) dp
  ⟨[],[],rfl,.nil,rfl,by simp,ac.new cs,aa⟩ (fun i B U _ ⟨_,_,_,_,_,_,S,h'⟩=>⟨h',ay.of (S _ _ L8.a3)⟩) ?_ ?_
 rotate_left
 ·rintro i B U x' ca hi ⟨A,pl,rfl,an,ct,dr,S,f'⟩;obtain⟨r,hr,rfl⟩:=bv ca;have dt:A.length<=150:=by
   rw[Paired.length an,<-aj (f:=(·.1)) (as:=pl),ct,aN];omega
  refine gN (u7 ?_);refine⟨_,rfl,_,rfl,x,C,G,_,.ref sg,rfl,S _ _ v,M.cls,M.a7,dn,_,rfl,sg,r,cc,ds,rooms,rfl,G8.same S,fun d hd=>(m.good d hd).b,by omega,fun ld Lr b3 du nd dy ee l=>⟨(by show 2<=ak;decide),fun t ht=>⟨?_,?_,pA hi ⟨A++[t],pl++[(r,ld)],?_,?_,?_,?_,?_,aa⟩⟩⟩⟩
  ·exact kp (l _ _ f') ht
  ·rw[aj];exact ar (by omega)
  ·rw[ap];rfl
  ·have KT:fj (upd b3 t (.tup [.str r,.ref ld])) (upd (upd b3 t (.tup [.str r,.ref ld])) b5 (.lst (A.map V.ref++[.ref t]))):=bW (kp (l _ _ f') ht);exact Paired.app (Paired.mapP an fun t' p' e=>KT _ _ (kp (l _ _ e) ht)) (.cons (KT _ _ aa) .nil)
  ·rw[ap,ct,take_snoc hr];rfl
  ·have cv:∀{b:Addr}{dT:List (cz×V)},upd b3 t (.tup [.str r,.ref ld]) b=some (.dK dT)->b≠b5:=fun hb z=>by rw[z,kp (l _ _ f') ht]at hb;cases hb
   intro p hp;rcases aX.mp hp with hp|hp
   ·obtain⟨L0,I,g2⟩:=dr p hp;refine⟨L0,?_,g2⟩;have:=kp (x:=.tup [.str r,.ref ld]) (l _ _ I) ht;rw[ag (cv this)];exact this
   ·have:p=(r,ld):=by simpa using hp
    subst this;refine⟨Lr,?_,nd,dy⟩;have:=kp (x:=.tup [.str r,.ref ld]) du ht;rw[ag (cv this)];exact this
  ·intro b o q;rw[ag (ae q cs)];exact kp (l _ _ (S _ _ q)) ht
 rintro B ef ⟨A,sps,rfl,an,D,c0,S9,f9⟩;rw[aj,bb]at D;have dV:(sps.map (·.1)).Nodup:=by rw[D];exact m.okR.1
 refine⟨b5,A,eC Sum.inr sps,rfl,ay.of f9,?_,?_,fun sl J=>⟨_,rfl,x,C,G,_,rfl,kp (S9 _ _ v) J,M.cls,M.a8,by omega,?_⟩⟩
 ·rw[Paired.length an];unfold eC;rw[aj]
 ·intro j t kv hj cd;obtain⟨p,hp,e⟩:=Paired.getL an hj;unfold eC at cd;rw[cb,hp]at cd;have:=fu cd;rw[<-this];exact e
 have b6:fC [] (eC Sum.inr sps)=eC Sum.inr sps:=uu sps [] dV;rw[b6];obtain⟨H9,e9,ce,F9⟩:=qP "still_led" (.ref sl) (kp (x:=.dK (eC Sum.inr sps)) (S9 _ _ v) J);rw[<-e9];have n9:sl≠x:=(ae (S9 _ _ v) J).symm;have c1:=F9 _ _ aa n9;have E9:c9 x H8 H9:=((ac.exB S9).trans (c9.new J)).trans F9;have L9:=L8.exI v E9;have aC:∀p∈sps,∃L,H9 p.2=some (.dK (a_ L))/\L.Nodup/\∀w,w∈L↔Reach ds p.1 w:=fun p hp=>by
  obtain⟨L0,I,g2⟩:=c0 p hp;have g3:=kp (x:=.dK (eC Sum.inr sps)) I J;exact⟨L0,F9 _ _ g3 (Gi (kp (S9 _ _ v) J) g3),g2⟩
 clear e9 F9;have c2:lk "still_led" (cO ("still_led":Str) (.ref sl) (cO ("sign_goals":Str) (.ref sg) (cO ("quiet":Str) (.ref qu) (cO ("leaving":Str) (.ref N) s))))=some (.ref sl):=by
  show kW _ _=_;rw[eU,if_pos rfl]
 refine⟨_,rfl,_,rfl,x,C,G,_,.ref sl,rfl,ce,M.cls,M.a8,c2,l3,sl,rooms,sps,rfl,L9.a3,c1,D,m.okR.1,fun p hp=>?_,fun c3 aF=>⟨_,rfl,k c3 ?_ ?_⟩⟩
 ·obtain⟨L0,I,g2,g3⟩:=aC p hp;exact⟨L0,I,fun z=>m.noround _ ((g3 _).mp z)⟩
 ·have ch:c9 x H6 H9:=(E7.trans E8).trans E9;have d0:=((E6.trans E7).trans E8).trans E9;have Y:∀{b:Addr}{o:HO},H9 b=some o->c3 b=some o:=fun h=>aF _ _ h;have LL:Lists H5 o1 o2 o3 o4 ts J0 J1 rooms ds:=⟨(E3.trans (E4.trans E5)) _ _ f1 n1,(E4.trans E5) _ _ f2 n2,E5 _ _ f3 n3,f4,L5.ds⟩;refine⟨⟨G,_,o1,o2,o3,o4,N,qu,sg,sl,ts,b2,cc,sps,Y ce,?_,?_,?_,?_,?_,?_,?_,?_,?_,?_,?_,c2,(LL.exI n d0).same aF,O,?_,?_,?_,?_,D,Y c1,fun p hp=>?_⟩,m,⟨G,_,Y ce,?_,?_,?_,?_⟩⟩
  rotate_right 9
  ·exact Y (ch _ _ b9 (Gi u b9))
  ·intro y hy;obtain⟨d1,I,g2⟩:=cm y hy;exact⟨d1,Y (ch _ _ I (c9.neI u I)),(g2.kt (ch.ktI u)).kt (ac.kt aF)⟩
  ·exact Y ((E8.trans E9) _ _ dm n7)
  ·exact jv.same ⟨G8.nd,E9 _ _ G8.g (II v G8.g),fun y hy=>E9 _ _ (G8.ls y hy) (c9.neI v (G8.ls y hy)),G8.all⟩ aF
  ·obtain⟨L0,I,g2⟩:=aC p hp;exact⟨L0,Y I,g2⟩
  all_goals(show kW _ _=_;subst b7;repeat (rw[eU];first|rw[if_pos rfl] | rw[if_neg (by decide +kernel)]))
  all_goals rfl
 ·exact((((((((E1.trans E2).trans E3).trans E4).trans E5).trans E6).trans E7).trans E8).trans E9).trans (ac.exB aF)
theorem sF(a b:Str):decide (gK a=gK b)=decide (a=b):=by
 by_cases e:a=b
 ·rw[zzr1 e,zzr1 (by rw[e])]
 ·rw[zzr0 e,zzr0 (fun z=>e (pc z))]
theorem bt.by{C:Addr}{H e:Hp}{x:Addr}{s t rooms:Zb}{u:List ai}(h:bt C H x s t rooms u)
  (j:∀b v,H b=some (.lst (List.map V.str v))->e b=some (.lst (List.map V.str v))) (w:∀b k,H b=some (.lst (List.map V.ref k))->e b=some (.lst (List.map V.ref k))) (z:fj H e)
  (l:∀b a,H b=some (.dK a)->e b=some (.dK a)) (B:∀b a,H b=some (.dT a)->e b=some (.dT a)) (A:∀b C f fs,H b=some (.ins C f fs)->e b=some (.ins C f fs)):bt C e x s t rooms u:=by
 obtain⟨f,fs,D,E,I,J,M,N,O,Q,k,m,n,o,T,a1,a2,a3,U,Y,b2,b3,b4,b5,b6,b7,b8,L,c1,c2,c3,c4,G,d1,d2,d3⟩:=h.at_;refine⟨⟨f,fs,D,E,I,J,M,N,O,Q,k,m,n,o,A _ _ _ _ T,a1,a2,a3,U,Y,b2,b3,b4,b5,b6,b7,b8,⟨j _ _ L.a1,j _ _ L.a2,j _ _ L.a3,w _ _ L.a4,L.ds.kt z⟩,c1,l _ _ c2,fun y i=>?_,l _ _ c4,⟨G.nd,B _ _ G.g,fun y i=>j _ _ (G.ls y i),G.all⟩,d1,l _ _ d2,fun y i=>?_⟩,h.ok,by obtain⟨f,fs,g,r⟩:=h.more;exact⟨f,fs,A _ _ _ _ g,r⟩⟩
 ·obtain⟨us,p,q⟩:=c3 y i;exact⟨us,w _ _ p,q.kt z⟩
 ·obtain⟨L0,p,q⟩:=d3 y i;exact⟨L0,l _ _ p,q⟩
theorem bt.same{C:Addr}{H a:Hp}{x:Addr}{f g rooms:Zb}{i:List ai}(h:bt C H x f g rooms i)(S:ac H a):bt C a x f g rooms i :=
 h.by (fun _ _ e=>S _ _ e) (fun _ _ e=>S _ _ e) (ac.kt S) (fun _ _ e=>S _ _ e) (fun _ _ e=>S _ _ e) (fun _ _ _ _ e=>S _ _ e)
inductive fW(C:Addr)(vs:List V)(H:Hp)(Q:VK)(E:XK):Prop
 |mk (x:Addr) (w:Str) (J0 J1 rooms:Zb) (ds:List ai):(vs=[.ref x,.str w])->(bt C H x J0 J1 rooms ds)->(Q (.bl (decide (w∈rooms.filter (cX ds)))) H)->fW C vs H Q E
theorem zR{K:Za}{C:Addr}(M:MC K C){a:List V}{H:Hp}{Q:VK}{E:XK}(h:fW C a H Q E):nM K (bJ Q) (start oq a) H:=by
 obtain⟨x,w,o,p,rooms,q,rfl,h,k⟩:=h;obtain⟨f,fs,r,s,t,u,v,e,y,z,A,g,i,j,l,a1,a2,a3,B,D,G,I,J,N,m,O,T,L,U,Y,c3,n,_⟩:=h.at_;refine⟨_,rfl,_,rfl,x,C,f,fs,.ref e,rfl,l,M.cls,M.a6,m,e,_,rfl,.inl ⟨_,.inr w,.inl n,rfl,rfl⟩,?_⟩;rw[fg];exact k
def aT:List Str:=[("hush":Str)]
inductive kB(C:Addr)(vs:List V)(H:Hp)(Q:VK)(E:XK):Prop
 |mk (t l1 l2 l3 l4:Addr) (ts:Ze) (J0 J1 rooms:Zb) (ds:List ai):(vs=[.ref t])->(iA H t l1 l2 l3 l4 ts J0 J1 rooms ds)->(aE J0 J1 rooms ds)->(∀(x:Addr) (H':Hp),bt C H' x J0 J1 rooms ds->ac H H'->Q (.ref x) H')->kB C vs H Q E
theorem Bx{K:Za}{C:Addr}{B:List V}{H:Hp}{Q:VK}{E:XK}(h:kB C B H Q E):vf K C (sw C) (bJ Q) (start vP B) H:=by
 obtain⟨t,L,N,O,U,f,g,i,rooms,Y,rfl,T,m,k⟩:=h;refine⟨_,rfl,.inr (.inl ⟨t,_,0,_,rfl,rfl,be.of T.t,rfl,.inl ⟨L,_,rfl,.inl (ay.of T.a1),fun r D=>?_⟩⟩)⟩;have s:=T.same (ac.new (o:=.lst (g.map V.str)) D);refine⟨_,rfl,.inr (.inl ⟨t,_,1,_,rfl,rfl,be.of s.t,rfl,.inl ⟨N,_,rfl,.inl (ay.of s.a2),fun u v=>?_⟩⟩)⟩;have w:=s.same (ac.new (o:=.lst (i.map V.str)) v);refine⟨_,rfl,.inr (.inl ⟨t,_,2,_,rfl,rfl,be.of w.t,rfl,.inl ⟨O,_,rfl,.inl (ay.of w.a3),fun y n=>?_⟩⟩)⟩;have z:=w.same (ac.new (o:=.lst (rooms.map V.str)) n);refine⟨_,rfl,.inr (.inl ⟨t,_,3,_,rfl,rfl,be.of z.t,rfl,.inl ⟨U,_,rfl,.inl (ay.of z.a4),fun A j=>?_⟩⟩)⟩;have T4:=z.same (ac.new (o:=.lst (f.map V.ref)) j);have G:=(((ac.new (o:=.lst (g.map V.str)) D).trans (ac.new (o:=.lst (i.map V.str)) v)).trans (ac.new (o:=.lst (rooms.map V.str)) n)).trans (ac.new (o:=.lst (f.map V.ref)) j);refine fun x p I a l=>?_;have J:ac H (upd (upd (upd (upd (upd (upd H r (.lst (g.map V.str))) u (.lst (i.map V.str))) y (.lst (rooms.map V.str))) A (.lst (f.map V.ref))) p (.own x)) x (.ins C p [])) :=
  (G.trans (ac.new a)).trans (ac.new (by rw[ag l.symm];exact I))
 have e:upd (upd (upd (upd (upd H r (.lst (g.map V.str))) u (.lst (i.map V.str))) y (.lst (rooms.map V.str))) A (.lst (f.map V.ref))) p (.own x) x=none:=by rw[ag l.symm];exact I
 refine⟨x,p,r,u,y,A,f,g,i,rooms,Y,rfl,aa,⟨?_,?_,?_,?_,T.ds.kt (ac.kt J)⟩,m,fun H' M ex=>⟨rfl,k x H' M fun b o q=>?_⟩⟩
 ·exact kp (kp (kp (kp (kp aa v) n) j) a) e
 ·exact kp (kp (kp (kp aa n) j) a) e
 ·exact kp (kp (kp aa j) a) e
 ·exact kp (kp aa a) e
 ·have hq:=J _ _ q;exact ex _ _ hq (ae (G.trans (ac.new a) _ _ q) e)
def dW(ds:List ai):List Str:=(ds.filter fun d=>!gy d).map (·.a)
theorem i6(e:List ai)(r:Str):cX e r=decide (r∉dW e):=by
 unfold cX dW bE;rw[sL,List.all_eq_true,decide_eq_true_iff];constructor
 ·intro h z;obtain⟨d,a,rfl⟩:=av.mp z;rw[bP]at a;have:=h d (bP.mpr ⟨a.1,zzr1 rfl⟩);rw[this]at a;exact absurd a.2 (by decide)
 ·intro h d a;rw[bP]at a;cases q:gy d with
  |true=>rfl
  |false =>
   refine absurd (av.mpr ⟨d,bP.mpr ⟨a.1,by rw[q];rfl⟩,?_⟩) h;exact of_decide_eq_true a.2
theorem mD{w:Str}{a:Zb}:gK w∈a.map gK↔w∈a:=by
 constructor
 ·intro h;obtain⟨x,f,e⟩:=av.mp h;rw[<-pc e];exact f
 ·exact kb
def xD(K:Za)(C_Machine:Addr)(sp_Machine_rooms:Sp)(sp_Machine_led_from:Sp):TS :=
 ao (aK (nS) U2)
 (ao (eQ (cj K V1) U3 (cg (tB (fG K V3 V2)) (ao (jT V2 V3 (tC (.bl true)))
 (eQ (cj K (cW C_Machine "led_from" sp_Machine_led_from [] E0 V0 (az V3))) U4 (jT V2 V4 (tC (.bl true))))) (bD)))
 (bm (eD (C3 K) (az (dH 1 [2] (cj K (cW C_Machine "rooms" sp_Machine_rooms [] E0 V0 bu)) U0 (tB (Bk K V0 V1)) V0)))))
def yH:List Str:=["M","rooms","found","room","led"]
def rQ(K:Za):TS :=
 bm (eD (da K) (az (gh K V0 "own_rooms")))
def sk:List Str:=["self"]
def nL(K:Za):TS :=
 bm (eD (da K) (az (tZ K (gh K V0 "still_led") V1 (bA (bu)))))
def oo:List Str:=["self","room"]
def rR(K:Za):TS :=
 bm (eD (da K) (az (tZ K (gh K V0 "sign_goals") (bA (aU V1 V2)) (bA (bu)))))
def sm:List Str:=["self","room","sign"]
def tL(K:Za):TS :=
 ao (aK (eD (da K) (az V1)) U2)
 (ao (aK (tC (.int 0)) U3)
 (ao (km (aQ (aH Ei V3 (eD (dS K) (az V2)))) (ao (eQ (cj K V0) (jg K 3 (bj U4 (bj U5 (bj U6 (iM))))) (cg (rZ (aQ (aH (lP K) V4 (aH (jA K) V2 V3))) (rZ (aQ (aH (lP K) V5 (bA (az (tC (.str "still")))))) (aQ (aH (ph K true) V6 V2)))) (bG (qx K "list" ci V2 (az V6))) (bD)))
 (aK (aH fE V3 (tC (.int 1))) U3)))
 (bm V2)))
def uT:List Str:=["doors","rooms","found","at","room","sign","other"]
inductive h9(C:Addr)(vs:List V)(H:Hp)(Q:VK)(E:XK):Prop
 |mk (x:Addr) (J0 J1 rooms:Zb) (ds:List ai):(vs=[.ref x])->(bt C H x J0 J1 rooms ds)->(∀l,H l=none->Q (.ref l) (upd H l (.lst (rooms.map V.str))))->h9 C vs H Q E
theorem FG{K:Za}{C:Addr}(M:MC K C){a:List V}{H:Hp}{Q:VK}{E:XK}(h:h9 C a H Q E):rQ K (bJ Q) (start sk a) H:=by
 obtain⟨x,n,o,rooms,p,rfl,h,k⟩:=h;obtain⟨f,fs,q,r,e,s,t,u,v,w,y,g,i,j,l,a1,a2,a3,z,A,B,m,D,G,I,J,N,L,_⟩:=h.at_;exact⟨_,rfl,x,C,f,fs,.ref e,rfl,l,M.cls,M.a3,m,.inl ⟨e,_,rfl,.inl (ay.of L.a3),k⟩⟩
theorem Al:∀{L:Zb},L.Nodup->(a_ L).map (fun a=>kV a.1)=L.map V.str:=by
 intro L;refine jQ (fun L=>L.Nodup->(a_ L).map (fun a=>kV a.1)=L.map V.str) (fun _=>rfl) (fun f w g e=>?_) L;rw[cJ]at e;have h:bM (a_ f) (.inr w)=none:=by
  rw[ux,if_neg (fun z=>e.2.2 w z w (by simp) rfl)]
 show(a_ (f++[w])).map _=_;rw[dO,gp _ h,ap,g e.1,ap]
 rfl
inductive h_(C:Addr)(vs:List V)(H:Hp)(Q:VK)(E:XK):Prop
 |mk (x:Addr) (r:Str) (J0 J1 rooms:Zb) (ds:List ai):(vs=[.ref x,.str r])->(bt C H x J0 J1 rooms ds)->(r∈rooms)->(∀(l:Addr) (L:Zb) (H':Hp),H' l=some (.lst (L.map V.str))->L.Nodup->(∀w,w∈L↔Reach ds r w)->H l=none->ac H H'->Q (.ref l) H')->h_ C vs H Q E
theorem zQ{K:Za}{C:Addr}(M:MC K C){j:List V}{H:Hp}{Q:VK}{E:XK}(h:h_ C j H Q E):nL K (bJ Q) (start oo j) H:=by
 obtain⟨x,r,N,O,rooms,T,rfl,h,t,k⟩:=h;obtain⟨u,fs,U,Y,o3,o4,lv,qu,sg,m,ts,v,w,g,y,a1,a2,a3,a4,b1,b2,b3,b4,b5,b6,b7,z,L,c1,c2,c3,c4,G,n,o,A⟩:=h.at_;have i:=h.ok.okR.1;obtain⟨⟨p,a⟩,f,B⟩:=av.mp (show r∈g.map (·.1) by rw[n];exact t);obtain rfl:p=r:=B;obtain⟨D,I,q,J⟩:=A _ f;refine⟨_,rfl,x,C,u,fs,.ref m,rfl,y,M.cls,M.a8,z,m,rfl,.inl ⟨_,.inl o⟩,_,rfl,(by show 0<=ak;decide),fun et e=>⟨_,.inl ⟨_,.inr p,.inl (kp o e),rfl,rfl⟩,?_⟩⟩;rw[eN iL (by rw[n];exact i) f];refine .inr ⟨a,_,rfl,.inl (kp I e),fun l s=>k l D _ ?_ q J ((ac.new e).free s) ((ac.new e).trans (ac.new s))⟩;rw[aa,Al q]
theorem Reach.trans{ds:List ai}{a b c:Str}(e:Reach ds a b)(f:Reach ds b c):Reach ds a c:=by
 induction f with
 |one h=>exact .step e h
 |step r h g=>exact .step g h
def fS(ds:List ai)(gs:Zb)(w:Str):Prop:=∃g∈gs,w=g∨Reach ds g w
theorem fS.in_{a:List ai}{e rooms:Zb}{w:Str}(f:∀g∈e,g∈rooms)(i:∀d∈a,d.b∈rooms)(h:fS a e w):w∈rooms:=by
 obtain⟨g,j,rfl|h2⟩:=h
 ·exact f _ j
 ·exact h2.in_ i
def se(F:Zb)(w:Str):List Str:=if w∈F then F else F++[w]
theorem Ak(F:Zb):∀e∈a_ F,e.2=.bl true:=by
 refine jQ (fun F=>∀e∈a_ F,e.2=.bl true) (by intro e h;cases h) (fun i w f=>?_) F;intro e a;rw[dO]at a;unfold cn at a;split at a
 ·obtain⟨x,g,rfl⟩:=av.mp a;split
  ·rfl
  ·exact f x g
 ·rcases aX.mp a with h|h
  ·exact f e h
  ·have:e=(.inr w,.bl true):=by simpa using h
   rw[this]
theorem uy(F:Zb)(w:Str):cn (a_ F) (.inr w) (.bl true)=a_ (se F w):=by
 unfold se;by_cases c:w∈F
 ·rw[if_pos c];have f:((a_ F).any fun a=>decide (a.1=(.inr w:cz)))=true:=by
   rw[jP,fg,zzr1 c]
  unfold cn;rw[if_pos f];have:∀l:List (cz×V),(∀a∈l,a.2=.bl true)->l.map (fun a=>if a.1=(.inr w:cz)then(a.1,V.bl true)else a)=l:=by
   intro l
   induction l with
   |nil=>intro _;rfl
   |cons x l g =>
    intro h;rw[bd,g fun a e=>h a (d_ _ e)];congr 1;split
    ·rw[<-h x cD]
    ·rfl
  exact this _ (Ak F)
 ·rw[if_neg c,dO]
theorem uQ{F:Zb}(h:F.Nodup)(w:Str):(se F w).Nodup:=by
 unfold se;split
 ·exact h
 ·next c =>
  rw[cJ];refine⟨h,by simp,fun a f b g e=>?_⟩;have:b=w:=by simpa using g
  exact c (by rw[<-this,<-e];exact f)
theorem Ab{F:Zb}{w y:Str}:y∈se F w↔y∈F∨y=w:=by
 unfold se;split
 ·next c=>exact⟨.inl,fun h=>h.elim id fun e=>by rw[e];exact c⟩
 ·rw[aX];simp
inductive sp_with_still(C:Addr)(vs:List V)(H:Hp)(Q:VK)(E:XK):Prop
 |mk (x l:Addr) (gs J0 J1 rooms:Zb) (ds:List ai):(vs=[.ref x,.ref l])->(bt C H x J0 J1 rooms ds)->(H l=some (.lst (gs.map V.str)))->((∀g∈gs,g∈rooms))->(∀(t:Addr) (F:Zb) (H':Hp),H' t=some (.tup ((rooms.filter fun r=>decide (r∈F)).map V.str))->(∀w,w∈F↔fS ds gs w)->ac H H'->Q (.ref t) H')->sp_with_still C vs H Q E
theorem vx{K:Za}{C:Addr}{B:List V}{H:Hp}{Q:VK}{E:XK}(h:sp_with_still C B H Q E):xD K C (h9 C) (h_ C) (bJ Q) (start yH B) H:=by
 obtain⟨x,l,gs,J0,J1,rooms,D,rfl,M,hl,hg,k⟩:=h;have O:∀d∈D,d.b∈rooms:=fun d hd=>(M.ok.good d hd).b;have z3:=M.ok.rooms26;refine fun d hd=>?_;refine⟨_,rfl,l,rfl,⟨_,ay.of (kp hl hd)⟩,?_⟩
 let a5:Nat->L2.St->Hp->Prop:=fun i σ a=>IZ fun(F:Zb) (x3 x4:Option V)=>GZ (σ=[some (.ref x),some (.ref l),some (.ref d),x3,x4]) (a d=some (.dK (a_ F))) (ac H a) (F.Nodup) (∀w,w∈F↔fS D (gs.take i) w)
 refine bR (xs:=gs.map V.str) a5
  ⟨[],_,_,rfl,aa,ac.new hd,nE,fun w=>⟨fun h=>(by cases h),fun⟨g,h,_⟩=>(by cases h)⟩⟩ (fun i σ a _ ⟨_,_,_,_,_,S,_,_⟩=>ay.of (S _ _ hl)) ?_ ?_
 ·rintro i y σ G hi ⟨F,x3,x4,rfl,p,S1,nd,T⟩;obtain⟨r,hr,rfl⟩:=bv hi;have as:r∈rooms:=hg r (aY hr);have aC:∀w∈F,w∈rooms:=fun w hw=>((T w).mp hw).in_ (fun g hg'=>hg g (fA hg')) O;refine⟨_,rfl,_,rfl,d,_,rfl,.inl ⟨_,.inr r,.inl p,rfl,rfl⟩,_,rfl,?_⟩;rw[fg];have s:∀w,fS D (gs.take (i+1)) w↔(fS D (gs.take i) w∨w=r∨Reach D r w):=by
   intro w;rw[take_snoc hr];constructor
   ·rintro⟨g,hg',h⟩;rcases aX.mp hg' with hg'|hg'
    ·exact .inl ⟨g,hg',h⟩
    ·have:g=r:=by simpa using hg'
     subst this;exact .inr h
   ·rintro(⟨g,hg',h⟩|h)
    ·exact⟨g,cG _ hg',h⟩
    ·exact⟨r,cQ _ (by simp),h⟩
  by_cases c:r∈F
  ·rw[zzr1 c];refine bH ⟨F,_,_,rfl,p,S1,nd,fun w=>?_⟩;rw[s,T];refine⟨.inl,fun h=>h.elim id fun h=>?_⟩;obtain⟨g,hg',hgr⟩:=(T r).mp c;rcases h with h|h
   ·rw[h];exact⟨g,hg',hgr⟩
   ·refine⟨g,hg',.inr ?_⟩;rcases hgr with e|hgr
    ·rw[<-e];exact h
    ·exact hgr.trans h
  ·rw[zzr0 c];refine cT ?_;have m:∀{F:Zb},F.Nodup->(∀w∈F,w∈rooms)->(a_ F).length<ak:=fun nd hs=>ar (bB (kH _) (bB (jc nd hs) (by omega)));refine⟨_,rfl,_,rfl,d,_,rfl,.inl ⟨_,.inr r,p,rfl,m nd aC,rfl⟩,?_⟩;rw[uy];have U:ac H (upd G d (.dK (a_ (se F r)))):=fun b o q=>by rw[ag (ae q hd)];exact S1 _ _ q
   have n:upd G d (.dK (a_ (se F r))) d=some (.dK (a_ (se F r))):=aa;generalize upd G d (.dK (a_ (se F r)))=H2 at U n ⊢;have M2:=M.same U;obtain⟨dx,fs,o1,o2,o3,o4,lv,qu,sg,sl,ts,a6,a7,a8,g1,a1,a2,a3,a4,_⟩:=M2.at_;refine⟨_,rfl,x,dx,fs,rfl,g1,a3,_,rfl,x,r,J0,J1,rooms,D,rfl,M2,as,fun ll L H3 aF b1 hL Y S3=>⟨ll,rfl,⟨_,ay.of aF⟩,?_⟩⟩;have a9:=S3 _ _ n;have b2:H ll=none:=U.free Y;have bf:ll≠d:=fun z=>by rw[z,n]at Y;cases Y
   let bi:Nat->L2.St->Hp->Prop:=fun j σ a=>Jz fun(I:Zb) (x4:Option V)=>Ku (σ=[some (.ref x),some (.ref l),some (.ref d),some (.str r),x4]) (a d=some (.dK (a_ I))) (a ll=some (.lst (L.map V.str))) (ac H a) (I.Nodup) (∀w,w∈I↔(fS D (gs.take i) w∨w=r∨w∈L.take j))
   refine bR (xs:=L.map V.str) bi
    ⟨se F r,_,rfl,a9,aF,U.trans S3,uQ nd r,fun w=>?_⟩ (fun j σ a _ ⟨_,_,_,_,h,_,_,_⟩=>ay.of h) ?_ ?_
   ·rw[Ab,T];simp
   ·rintro j y σ H4 hj ⟨I,bl,rfl,al,J,S4,A,u⟩;obtain⟨v,hv,rfl⟩:=bv hj;have an:∀w∈I,w∈rooms:=by
     intro w hw;rcases(u w).mp hw with h|h|h
     ·exact h.in_ (fun g hg'=>hg g (fA hg')) O
     ·rw[h];exact as
     ·exact((hL w).mp (fA h)).in_ O
    refine⟨_,rfl,_,rfl,d,_,rfl,.inl ⟨_,.inr v,al,rfl,m A an,rfl⟩,se I v,_,rfl,?_,?_,?_,uQ A v,fun w=>?_⟩
    ·rw[aa,uy]
    ·rw[ag bf];exact J
    ·intro b o q;rw[ag (ae q hd)];exact S4 _ _ q
    ·rw[Ab,u,take_snoc hv,aX];simp only[bO];constructor
     ·rintro((h|h|h)|h)
      ·exact .inl h
      ·exact .inr (.inl h)
      ·exact .inr (.inr (.inl h))
      ·exact .inr (.inr (.inr h))
     ·rintro(h|h|h|h)
      ·exact .inl (.inl h)
      ·exact .inl (.inr (.inl h))
      ·exact .inl (.inr (.inr h))
      ·exact .inr h
   ·rintro σ H4 ⟨I,bl,rfl,al,J,S4,A,u⟩;rw[aj,bb]at u;refine⟨I,_,_,rfl,al,S4,A,fun w=>?_⟩;rw[s,u,hL]
 ·rintro σ G ⟨F,x3,x4,rfl,p,S1,nd,T⟩;rw[aj,bb]at T;have M1:=M.same S1;obtain⟨dx,fs,o1,o2,o3,o4,lv,qu,sg,sl,ts,a6,a7,a8,g1,a1,a2,a3,a4,_⟩:=M1.at_;refine⟨_,rfl,x,dx,fs,rfl,g1,a4,x,J0,J1,rooms,D,rfl,M1,fun rl a0=>⟨rl,rfl,⟨_,ay.of aa⟩,fun f hf=>?_⟩⟩;have U:ac H (upd G rl (.lst (rooms.map V.str))):=S1.trans (ac.new a0);have n:upd G rl (.lst (rooms.map V.str)) d=some (.dK (a_ F)):=kp p a0;have N:upd G rl (.lst (rooms.map V.str)) rl=some (.lst (rooms.map V.str)):=aa;generalize upd G rl (.lst (rooms.map V.str))=H2 at U n N hf ⊢
  let bn:Nat->List V->Hp->Prop:=fun i B a=>B=((rooms.take i).filter fun r=>decide (r∈F)).map V.str/\ac H2 a/\a f=some (.lst B)
  refine cH (xs:=rooms.map V.str) bn ⟨rfl,ac.new hf,aa⟩ (fun i B a _ ⟨_,S,h'⟩=>⟨h',ay.of (S _ _ N)⟩) ?_ ?_
  ·rintro B a ⟨rfl,S,f'⟩;rw[aj,bb]at f';exact⟨f,_,rfl,.inl ⟨ay.of f',fun t ht=>k t F _ aa T (U.trans (S.trans (ac.new ht)))⟩⟩
  ·rintro i B a x' bp hi ⟨rfl,S,f'⟩;obtain⟨r,hr,rfl⟩:=bv bp;refine gN ?_;refine⟨_,rfl,_,rfl,d,_,rfl,.inl ⟨_,.inr r,.inl (S _ _ n),rfl,rfl⟩,_,rfl,?_⟩;rw[fg];have m:(((rooms.take i).filter fun r=>decide (r∈F)).map V.str).length<ak:=by
    rw[aj];refine ar (bB (eG _ _) ?_);rw[aN];omega
   refine iy (fun hq=>?_) (fun hq=>?_)
   ·refine⟨_,rfl,f',m,pA hi ⟨?_,?_,aa⟩⟩
    ·rw[cR hr,if_pos hq,ap];rfl
    ·intro b o q;rw[ag (ae q hf)];exact S _ _ q
   ·refine pA hi ⟨?_,S,f'⟩;rw[cR hr,if_neg hq,dh]
inductive eR(K:Za)(vs:List V)(H:Hp)(Q:VK)(E:XK):Prop
 |mk (l4 l:Addr) (ts:Ze) (ds:List ai) (gs rooms:Zb):(vs=[.ref l4,.ref l])->(H l4=some (.lst (ts.map V.ref)))->(cB H ts ds)->(H l=some (.lst (gs.map V.str)))->((∀d∈ds,d.b∈rooms))->(rooms.length<=1000)->(gs.length<=1000)->(∀(f:Addr) (F:Zb) (H':Hp),H' f=some (.lst (F.map V.str))->(∀w,w∈F↔fS ds gs w)->F.length<=2000->H f=none->ac H H'->Q (.ref f) H')->eR K vs H Q E
structure SO(H0 H:Hp)(ds:List ai)(gs:Zb)(f:Addr)(X:Zb):Prop where
 f:H f=some (.lst ((gs++X).map V.str))
 same:ac H0 H
 nd:X.Nodup
 new:∀y∈X,y∉gs
 sound:∀y∈X,fS ds gs y
theorem fS.step{ds:List ai}{f:Zb}{a b:Str}(h:fS ds f a)(e:(⟨a,am,b⟩:ai)∈ds):fS ds f b:=by
 obtain⟨g,i,rfl|h⟩:=h
 ·exact⟨_,i,.inr (.one e)⟩
 ·exact⟨g,i,.inr (.step h e)⟩
theorem eP(a b:Zb):decide (gP a=gP b)=decide (a=b):=by
 by_cases e:a=b
 ·rw[zzr1 e,zzr1 (by rw[e])]
 ·rw[zzr0 e,zzr0 (fun z=>e (Do z))]
inductive SoI(l4 l f:Addr)(at_:Int)(H:Hp)(ds:List ai)(gs X:Zb)(here:Str)(j:Nat)(σ:L2.St)(H':Hp):Prop
 |mk (X' Y:Zb) (x y z:Option V):σ=[some (.ref l4),some (.ref l),some (.ref f),some (.int at_),x,y,z]->X'=X++Y->SO H H' ds gs f X'->(∀d∈ds.take j,d.a=here->d.sg=am->d.b∈gs++X')->SoI l4 l f at_ H ds gs X here j σ H'
theorem zM{K:Za}{vs:List V}{H:Hp}{Q:VK}{E:XK}(h:eR K vs H Q E):tL K (bJ Q) (start uT vs) H:=by
 obtain⟨l4,l,ts,ds,p,rooms,rfl,h4,an,hl,a7,hz,b3,k⟩:=h;refine⟨_,rfl,.inl ⟨l,_,rfl,.inl (ay.of hl),fun f hf=>?_⟩⟩;have L:∀{X:Zb},X.Nodup->(∀y∈X,y∉p)->(∀y∈X,fS ds p y)->X.length<=rooms.length:=fun nd nw sd=>jc nd fun y hy=>by
  obtain⟨g,hg,e|h⟩:=sd y hy
  ·exact absurd (by rw[e];exact hg) (nw y hy)
  ·exact h.in_ a7
 refine⟨fun m σ H'=>∃(X:Zb) (at_:Nat) (x y z:Option V),σ=[some (.ref l4),some (.ref l),some (.ref f),some (.int at_),x,y,z]/\SO H H' ds p f X/\at_<=(p++X).length/\(∀i y,i<at_->(p++X)[i]?=some y->∀c,(⟨y,am,c⟩:ai)∈ds->c∈p++X)/\m=p.length+rooms.length-at_,
  ⟨_,[],0,_,_,_,rfl,⟨by rw[dh];exact aa,ac.new hf,nE,by simp,by simp⟩,c_ _,fun i y h=>by omega,rfl⟩,?_⟩
 rintro m σ H1 ⟨X,at_,x4,x5,x6,rfl,D,b4,as,rfl⟩;have b5:=L D.nd D.new D.sound;refine⟨_,rfl,_,rfl,.inl ⟨f,_,rfl,.inl (ay.of D.f),_,_,rfl,rfl,_,rfl,?_⟩⟩;refine iy (fun N=>?_) (fun N=>?_)
 ·have B:at_<(p++X).length:=by
   have:=of_decide_eq_true N;rw[aj]at this;omega
  have bp:at_<p.length+rooms.length:=by rw[au]at B;omega
  generalize O:(p++X)[at_]=here;have I:(p++X)[at_]?=some here:=by rw[<-O];exact b_ B
  have T:∀{Y:Zb}{y:Str},(∀y∈Y,fS ds p y)->y∈p++Y->fS ds p y:=fun sd hy=>by
   rcases aX.mp hy with hy|hy
   ·exact⟨_,hy,.inl rfl⟩
   ·exact sd _ hy
  refine⟨fun σ' H'=>∃(M:Zb) (x y z:Option V),σ'=[some (.ref l4),some (.ref l),some (.ref f),some (.int ((at_+1:Nat):Int)),x,y,z]/\SO H H' ds p f M/\at_+1<=(p++M).length/\(∀i y,i<at_+1->(p++M)[i]?=some y->∀c,(⟨y,am,c⟩:ai)∈ds->c∈p++M),
   fun σ' H' ⟨M,x,y,z,e,D',h1,h2⟩=>⟨_,(by omega:p.length+rooms.length-(at_+1)<p.length+rooms.length-at_),M,at_+1,x,y,z,e,D',h1,h2,rfl⟩,?_⟩
  refine⟨_,rfl,l4,rfl,⟨_,ay.of (D.same _ _ h4)⟩,?_⟩;refine bR (xs:=ts.map V.ref) (SoI l4 l f at_ H ds p X here)
   ⟨X,[],_,_,_,rfl,by simp,D,by simp⟩ (fun j σ H' _ ⟨_,_,_,_,_,_,_,D',_⟩=>ay.of (D'.same _ _ h4)) ?_ ?_
  ·rintro j y σ H2 hj ⟨M,Y,a8,a9,bf,rfl,rfl,C,v⟩;obtain⟨t,ht,rfl⟩:=cM hj;obtain⟨u,aC,aF⟩:=Paired.getL an ht;obtain⟨s,bi,bl⟩:=aF.kt (ac.kt C.same);have a0:=aY aC;have b1:=L C.nd C.new C.sound;have U:(p++(X++Y))[at_]?=some here:=by
    rw[<-cI,dv B];exact I
   refine⟨t,_,rfl,be.of bi,rfl,_,_,rfl,_,_,rfl,_,_,rfl,rfl,?_⟩;have A:∀(H3:Hp) (X3 Y3:Zb) (q4 q5 q6:Option V),X3=X++Y3->SO H H3 ds p f X3->(∀y∈X++Y,y∈X3)->(u.a=here->u.sg=am->u.b∈p++X3) ->
     SoI l4 l f at_ H ds p X here (j+1) [some (.ref l4),some (.ref l),some (.ref f),some (.int at_),q4,q5,q6] H3:=by
    intro H3 X3 Y3 q4 q5 q6 e G a4 a5;refine⟨X3,Y3,q4,q5,q6,rfl,e,G,fun d hd e1 e2=>?_⟩;rw[take_snoc aC]at hd;rcases aX.mp hd with hd|hd
    ·rcases aX.mp (v d hd e1 e2)with h|h
     ·exact cG _ h
     ·exact cQ _ (a4 _ h)
    ·have:d=u:=by simpa using hd
     subst this;exact a5 e1 e2
   refine⟨_,rfl,_,rfl,_,rfl,.inl ⟨f,_,_,_,rfl,rfl,ay.of C.f,bc (j:=at_) (by rw[cb,U];rfl),gK u.a,gK here,ii _,ii _,(by show 0<=8;decide),(by show 0<=8;decide),_,rfl,?_⟩⟩;rw[sF];by_cases c1:u.a=here;rotate_left
   ·rw[zzr0 c1];exact bH (bH (A H2 _ _ _ _ _ rfl C (fun _ h=>h) fun e=>absurd e c1))
   rw[zzr1 c1];refine cT ?_;refine⟨_,rfl,(by show 1<=ak;decide),fun st J=>⟨gP u.sg,gP am,aM (be.of (kp bl J)),aM (be.of aa),by rw[b0];decide,by rw[b0];decide,_,rfl,?_⟩⟩;rw[eP];have G:SO H (upd H2 st (.tup [.str "still"])) ds p f (X++Y):=⟨kp C.f J,C.same.trans (ac.new J),C.nd,C.new,C.sound⟩;have b2:H st=none:=C.same.free J;generalize upd H2 st (.tup [.str "still"])=H3 at G ⊢;by_cases c2:u.sg=am;rotate_left
   ·rw[zzr0 c2];exact bH (bH (A H3 _ _ _ _ _ rfl G (fun _ h=>h) fun _ e=>absurd e c2))
   rw[zzr1 c2];refine cT ?_;refine⟨_,rfl,_,rfl,gK u.b,(p++(X++Y)).map gK,f,_,ii _,rfl,.inl (ay.of G.f),l9 _,(by show 0<=8;decide),by rw[fF];decide,_,rfl,?_⟩;rw[if_pos rfl];by_cases c3:u.b∈p++(X++Y)
   ·rw[zzr1 (mD.mpr c3)];exact bH (A H3 _ _ _ _ _ rfl G (fun _ h=>h) fun _ _=>c3)
   rw[zzr0 (fun z=>c3 (mD.mp z))];refine cT ?_;refine⟨_,rfl,.inl ⟨rfl,_,ay.of G.f⟩,_,rfl,f,_,_,rfl,rfl,G.f,by rw[aj,au];exact gS (by omega),?_⟩;have al:(⟨here,am,u.b⟩:ai)∈ds:=by
    have:u=⟨here,am,u.b⟩:=by cases u;simp only at c1 c2;rw[c1,c2]
    rw[<-this];exact a0
   refine A _ (X++(Y++[u.b])) _ _ _ _ rfl ⟨?_,?_,?_,?_,?_⟩ ?_ ?_
   ·rw[aa];have:p++(X++(Y++[u.b]))=p++(X++Y)++[u.b]:=by simp
    rw[this,ap (l₂:=[u.b])]
    rfl
   ·intro b o q;rw[ag (ae q hf)];exact G.same _ _ q
   ·rw[<-cI,cJ];refine⟨G.nd,by simp,fun a ha b hb e=>?_⟩;have:b=u.b:=by simpa using hb
    exact c3 (cQ _ (by rw[<-this,<-e];exact ha))
   ·intro y hy;rw[<-cI]at hy;rcases aX.mp hy with hy|hy
    ·exact G.new y hy
    ·have:y=u.b:=by simpa using hy
     rw[this];exact fun z=>c3 (cG _ z)
   ·intro y hy;rw[<-cI]at hy;rcases aX.mp hy with hy|hy
    ·exact G.sound y hy
    ·have:y=u.b:=by simpa using hy
     rw[this];exact(T D.sound (aY I)).step al
   ·intro y hy;rw[<-cI];exact cG _ hy
   ·intro _ _;exact cQ _ (by simp)
  ·rintro σ H2 ⟨M,Y,a8,a9,bf,rfl,rfl,C,v⟩;rw[aj,Paired.length an,bb]at v;refine⟨_,rfl,_,_,rfl,rfl,X++Y,_,_,_,rfl,C,?_,fun i y hi hy c hc=>?_⟩
   ·rw[<-cI,au];omega
   ·by_cases e:i=at_
    ·subst e;rw[<-cI,dv B,I]at hy;have:=fu hy;subst this;exact v _ hc rfl rfl
    ·have bn:i<at_:=by omega
     rw[<-cI,dv (by omega)]at hy;have:=as i y bn hy c hc;rw[<-cI];exact cG _ this
 ·have a6:at_=(p++X).length:=by
   have:¬(at_<(p++X).length):=fun z=>N (zzr1 (by rw[aj];omega));omega
  refine⟨_,rfl,k f (p++X) H1 D.f (fun w=>⟨fun hw=>?_,fun hw=>?_⟩) (by rw[au];omega) hf D.same⟩
  ·rcases aX.mp hw with hw|hw
   ·exact⟨_,hw,.inl rfl⟩
   ·exact D.sound _ hw
  ·have closed:∀y∈p++X,∀c,(⟨y,am,c⟩:ai)∈ds->c∈p++X:=fun y hy c hc=>by
    obtain⟨n,hn⟩:=fN hy;exact as n y (by rw[a6];exact(bY.mp hn).1) hn c hc
   obtain⟨g,hg,rfl|h⟩:=hw
   ·exact cG _ hg
   ·induction h with
    |one e=>exact closed _ (cG _ hg) _ e
    |step r e ih=>exact closed _ ih _ e

theorem Bq{g:List ai}{a b:Str}(h:¬fS g [b] a){x y:Str}(r:Reach (g++[⟨a,am,b⟩]) x y):Reach g x y∨((x=a∨Reach g x a)/\(y=b∨Reach g b y)):=by
 have f:∀{u v:Str},(⟨u,am,v⟩:ai)∈g++[⟨a,am,b⟩]->(⟨u,am,v⟩:ai)∈g∨(u=a/\v=b):=by
  intro u v e;rcases aX.mp e with e|e
  ·exact .inl e
  ·have:(⟨u,am,v⟩:ai)=⟨a,am,b⟩:=by simpa using e
   injection this with j h2 k;exact .inr ⟨j,k⟩
 induction r with
 |one e =>
  rcases f e with e|⟨rfl,rfl⟩
  ·exact .inl (.one e)
  ·exact .inr ⟨.inl rfl,.inl rfl⟩
 |step r l i =>
  rcases f l with e|⟨rfl,rfl⟩
  ·rcases i with i|⟨j,h2⟩
   ·exact .inl (.step i e)
   ·refine .inr ⟨j,.inr ?_⟩;rcases h2 with h2|h2
    ·exact .one (by rw[<-h2];exact e)
    ·exact .step h2 e
  ·rcases i with i|⟨j,h2⟩
   ·exact .inr ⟨.inr i,.inl rfl⟩
   ·exact absurd ⟨_,by simp,h2⟩ h
theorem x_{e:List ai}{a b:Str}(f:∀r,¬Reach e r r)(h:¬fS e [b] a):∀r,¬Reach (e++[⟨a,am,b⟩]) r r:=by
 intro r z;have no:¬(a=b∨Reach e b a):=fun z=>h ⟨b,by simp,z⟩;rcases Bq h z with z|⟨h1,h2⟩
 ·exact f r z
 ·rcases h1 with rfl|h1
  ·exact no h2
  ·rcases h2 with rfl|h2
   ·exact no (.inr h1)
   ·exact no (.inr (h2.trans h1))
theorem aE.putStill{g i rooms:Zb}{f:List ai}{a b:Str}(m:aE g i rooms f)(j:a∈rooms)(k:b∈rooms)(h:¬fS f [b] a)(p:f.length<=699):aE g i rooms (lQ f ⟨a,am,b⟩):=by
 unfold lQ;split
 ·exact m
 ·next l =>
  refine{ m with nodup:=?_,good:=?_,few:=?_,noround:=x_ m.noround h }
  ·rw[cJ];refine⟨m.nodup,by simp,fun x n y o e=>?_⟩;have:y=⟨a,am,b⟩:=by simpa using o
   subst this;exact l (e▸n)
  ·intro d hd;rcases aX.mp hd with hd|hd
   ·exact m.good d hd
   ·have:d=⟨a,am,b⟩:=by simpa using hd
    subst this;exact⟨j,k,.inr (.inr rfl)⟩
  ·rw[au];show f.length+1<=1000;omega
theorem ui(a:List ai)(d:ai):(lQ a d).length<=a.length+1:=by
 unfold lQ;split
 ·omega
 ·rw[au];exact aG _
def cN(ds:List ai)(sg:Zb)(face:Zb):List Str:=face.flatMap fun r=>aJ ds (r,sg)
theorem vG{a:List ai}{e face:Zb}{i:Nat}{r:Str}(h:face[i]?=some r):cN a e (face.take (i+1))=cN a e (face.take i)++aJ a (r,e):=by
 unfold cN;rw[take_snoc h,wS];simp
theorem rJ(a:List ai)(x:Str×List Str):(aJ a x).length<=a.length:=by
 unfold aJ;rw[aj];exact eG _ _
theorem pI(a:List ai)(e:Zb):∀face:List Str,(cN a e face).length<=face.length * a.length
 |[]=>c_ _
 |r::face=>by
  show((aJ a (r,e))++cN a e face).length<=(face.length+1) * a.length;rw[au,Nat.succ_mul];have f:=rJ a (r,e);have g:=pI a e face;omega
theorem iK{e:List ai}{f face:Zb}{b:Str}:b∈cN e f face↔∃r∈face,(⟨r,f,b⟩:ai)∈e:=by
 unfold cN;rw[sP];constructor
 ·rintro⟨r,a,h⟩;exact⟨r,a,bx.mp h⟩
 ·rintro⟨r,a,h⟩;exact⟨r,a,bx.mpr h⟩
inductive o8(C:Addr)(vs:List V)(H:Hp)(Q:VK)(E:XK):Prop
 |mk (x t s:Addr) (face sg J0 J1 rooms:Zb) (ds:List ai):(vs=[.ref x,.ref t,.ref s])->(bt C H x J0 J1 rooms ds)->(H t=some (.tup (face.map V.str)))->(H s=some (.tup (sg.map V.str)))->(sg≠aT)->(face.length<=1000)->(∀(t':Addr) (F:Zb) (H':Hp),H' t'=some (.tup ((rooms.filter fun r=>decide (r∈F)).map V.str))->(∀w,w∈F↔fS ds (cN ds sg face) w)->ac H H'->Q (.ref t') H')->o8 C vs H Q E
theorem gA{a:List ai}{i:Nat}{d:ai}{p:ai->Bool}(h:a[i]?=some d):(a.take (i+1)).filter p=(a.take i).filter p++(if p d=true then[d]else[]):=by
 rw[take_snoc h,nA];congr 1;by_cases c:p d=true
 ·rw[if_pos c];simp[c]
 ·rw[if_neg c];simp[c]
def xI(K:Za)(sp_with_still:Sp)(C_Machine:Addr)(sp_Machine_rooms:Sp):TS :=
 bm (aS sp_with_still (aU V0 (AO (pf K) (cW C_Machine "rooms" sp_Machine_rooms [] E0 V0 bu) (e_) (gf (tC (.int 1))))))
def yN:List Str:=["M"]
def ve(K:Za)(sp_law_take:Sp)(sp_law_names:Sp):TS :=
 ao (aK V1 (jg K 4 (bj U2 (bj U3 (bj U4 (bj U5 (iM)))))))
 (ao (aK (nS) U6)
 (ao (eQ (IL K (aw V4 (az (aS sp_law_names (aU V0 (eD (dS K) (az V4))))))) (jg K 2 (bj U7 (bj U8 (iM)))) (jT V6 V7 V8))
 (ao (aK (dH 1 [6] (cj K V4) U0 (k7) (gM K V1 V0)) U9)
 (ao (aK (aH fE (tC (.int 1)) (aS sp_law_take (aU V0 (eD (dS K) (az V4))))) Kp)
 (ao (aK (aH r9 (aH r9 (AO (pf K) V9 (e_) (gf (tC (.int 1)))) (AO (pf K) V9 (gf Im) (e_))) (AO (pf K) V9 (gf (tC (.int 1))) (gf Im))) U9)
 (ao (aK (dH 3 [6] (cj K V5) (jg K 3 (bj U0 (bj U1 (bj U2 (iM))))) (k7) (bA (eo (gM K V3 V0) V1 (gM K V3 V2)))) U5)
 (bm (bA (aw V2 (eo V3 V9 V5))))))))))
def vO:List Str:=["pen","told","asks","says","rooms","doors","names","room","name","some","at"]
inductive eE(C:Addr)(vs:List V)(H:Hp)(Q:VK)(E:XK):Prop
 |mk (x:Addr) (J0 J1 rooms:Zb) (ds:List ai):(vs=[.ref x])->(bt C H x J0 J1 rooms ds)->(∀(t':Addr) (F:Zb) (H':Hp),H' t'=some (.tup ((rooms.filter fun r=>decide (r∈F)).map V.str))->(∀w,w∈F↔fS ds (rooms.take 1) w)->ac H H'->Q (.ref t') H')->eE C vs H Q E
theorem vA{K:Za}{C:Addr}{e:List V}{H:Hp}{Q:VK}{E:XK}(h:eE C e H Q E):xI K (sp_with_still C) C (h9 C) (bJ Q) (start yN e) H:=by
 obtain⟨x,f,i,rooms,j,rfl,M,k⟩:=h;obtain⟨n,fs,G,I,J,L,N,O,o,T,U,p,q,r,s,a1,a2,a3,t,_⟩:=M.at_;have u:gC (rooms.map V.str) none (some 1)=(rooms.take 1).map V.str:=pM rooms 1;refine⟨_,rfl,_,rfl,x,n,fs,rfl,s,t,x,f,i,rooms,j,rfl,M,fun m a=>⟨_,rfl,m,_,rfl,ay.of aa,fun l v=>?_⟩⟩;rw[u];have S:ac H (upd (upd H m (.lst (rooms.map V.str))) l (.lst ((rooms.take 1).map V.str))):=(ac.new a).trans (ac.new v);exact⟨x,l,rooms.take 1,f,i,rooms,j,rfl,M.same S,aa,fun g w=>fA w,fun y F z A B D=>k y F z A B (S.trans D)⟩
theorem GG{K:Za}{a b:Addr}{xs ys:List V}{g:TG}{o:TS}{D:mj}{σ:L2.St}{H:Hp}(r:xs.length=ys.length)(Pv:Nat->L2.St->Hp->Prop)(s:Pv 0 σ H)(w:∀i σ H,i<=xs.length->Pv i σ H->ay K H a xs/\ay K H b ys)
  (z:∀i x y σ H p,xs[i]?=some x->ys[i]?=some y->Pv i σ H->H p=none->g (.ref p) σ (upd H p (.tup [x,y])) fun σ2 k=>o { D with nx:=Pv (i+1),ct:=Pv (i+1),bk:=D.nx } σ2 k) (A:∀σ H,Pv xs.length σ H->D.nx σ H) :
  ∃W:Nat->Nat->L2.St->Hp->Prop,(∃m,W 0 m σ H)/\∀i m σ H,W i m σ H ->
   ((Kb K a b).stop i H/\D.nx σ H)∨((Kb K a b).go i H/\∃N:L2.St->Hp->Prop,(∀σ' f,N σ' f->∃q,q<m/\W (i+1) q σ' f)/\∀x f,(Kb K a b).yld i H x f->g x σ f fun σ2 k=>o { D with nx:=N,ct:=N,bk:=D.nx } σ2 k):=by
 refine⟨fun i m σ H=>m=xs.length-i/\i<=xs.length/\Pv i σ H,⟨xs.length,by simp,c_ _,s⟩,?_⟩;rintro i m σ H ⟨rfl,B,p⟩;obtain⟨l,n⟩:=w i σ H B p;by_cases h:i<xs.length
 ·have j:i<ys.length:=by omega
  refine .inr ⟨⟨xs,ys,xs[i],ys[i],l,n,by simp[h],by simp[j]⟩,Pv (i+1),fun σ' f C=>⟨xs.length-(i+1),by omega,rfl,h,C⟩,fun x f y=>?_⟩;obtain⟨t,u,v,rfl,E,G,I,rfl⟩:=y;exact z i u v σ H t (G xs l) (I ys n) p E
 ·have e:i=xs.length:=by omega
  subst e;exact .inl ⟨⟨xs,ys,l,n,.inl (aG _)⟩,A σ H p⟩
def Fa(ps:List (Str×Str)):List (cz×V):=ps.map fun x=>(.inr x.1,.str x.2)
def Hd:List (Str×Str)->Str->Str
 |[],r=>r
 | (a,b)::ps,r=>if a=r then b else Hd ps r
theorem Dg{r:Str}:∀{e:List (Str×Str)},r∈e.map (·.1)->bM (Fa e) (.inr r:cz)=some (.str (Hd e r))
 |[],h=>by cases h
 | (a,b)::e,h=>by
  unfold Fa bM Hd;rw[bd,gR];by_cases c:a=r
  ·rw[if_pos c,zzr1 (by rw[c])]
   rfl
  ·rw[if_neg c,zzr0 (fun z=>c (by injection z))];have:r∈e.map (·.1):=by
    rcases df.mp h with z|z
    ·exact absurd z.symm c
    ·exact z
   exact Dg this
theorem z7{r:Str}:∀{e:List (Str×Str)},r∉e.map (·.1)->bM (Fa e) (.inr r:cz)=none
 |[],_=>rfl
 | (a,b)::e,h=>by
  unfold Fa bM;rw[bd,gR,zzr0 (fun z=>h (by injection z with z;rw[bd];exact df.mpr (.inl z.symm)))];exact z7 fun z=>h (by rw[bd];exact d_ _ z)
theorem Gg{a:List (Str×Str)}{r w:Str}(h:r∉a.map (·.1)):cn (Fa a) (.inr r) (.str w)=Fa (a++[(r,w)]):=by
 rw[gp _ (z7 h)];unfold Fa;rw[ap]
 rfl
theorem xz:∀{a e:Zb},e.length=a.length->(a.zip e).map (·.1)=a
 |[],_,_=>by simp
 |_::_,[],h=>by cases h
 |r::a,w::e,h=>by
  rw[List.zip_cons_cons,bd,xz (by simpa using h)]
theorem C2:∀{a e:Zb},a.Nodup->e.length=a.length->a.map (Hd (a.zip e))=e
 |[],[],_,_=>rfl
 |[],_::_,_,h=>by cases h
 |_::_,[],_,h=>by cases h
 |r::a,w::e,g,h=>by
  rw[List.zip_cons_cons,bd];have f:=mY.mp g;have i:Hd ((r,w)::a.zip e) r=w:=by unfold Hd;rw[if_pos rfl]
  have j:a.map (Hd ((r,w)::a.zip e))=a.map (Hd (a.zip e)):=by
   refine xj fun x k=>?_;show(if r=x then w else Hd (a.zip e) x)=_
   rw[if_neg (fun z=>f.1 (by rw[z];exact k))]
  rw[i,j,C2 f.2 (by simpa using h)]
def vw(f:Str->Str)(d:ai):ai:=⟨f d.a,d.sg,f d.b⟩
theorem Jt{rooms g:Zb}{f:Str->Str}(k:rooms.map f=g)(m:g.Nodup){a b:Str}(n:a∈rooms)(o:b∈rooms)(e:f a=f b):a=b:=by
 obtain⟨i,l⟩:=fN n;obtain⟨j,h⟩:=fN o;have p:g[i]?=some (f a):=by rw[<-k,cb,l];rfl
 have q:g[j]?=some (f a):=by rw[<-k,cb,h,e];rfl
 have:=sD m p q;subst this;rw[l]at h;exact fu h
theorem DW{rooms:Zb}{f:Str->Str}{ds:List ai}(inj:∀a∈rooms,∀b∈rooms,f a=f b->a=b)(g:∀d∈ds,d.a∈rooms/\d.b∈rooms){x y:Str}(h:Reach (ds.map (vw f)) x y):
  ∃a∈rooms,∃b∈rooms,x=f a/\y=f b/\Reach ds a b:=by
 have j:∀{u v:Str},(⟨u,am,v⟩:ai)∈ds.map (vw f)->∃a b,(⟨a,am,b⟩:ai)∈ds/\u=f a/\v=f b:=by
  intro u v e;obtain⟨⟨a,s,b⟩,i,e⟩:=av.mp e;unfold vw at e;injection e with l k m;simp only at k;subst k;exact⟨a,b,i,l.symm,m.symm⟩
 induction h with
 |one e =>
  obtain⟨a,b,i,rfl,rfl⟩:=j e;exact⟨a,(g _ i).1,b,(g _ i).2,rfl,rfl,.one i⟩
 |step r e o =>
  obtain⟨a,p,b,q,l,k,t⟩:=o;obtain⟨n,w,i,m,rfl⟩:=j e;have:b=n:=inj b q n (g _ i).1 (k.symm.trans m);subst this;exact⟨a,p,w,(g _ i).2,l,rfl,.step t i⟩
theorem aE.renamed{B C rooms u g:Zb}{v:List ai}{f:Str->Str}(m:aE B C rooms v)(k:kJ u)(x:rooms.map f=u)(o:g.Perm u):aE B C g (v.map (vw f)):=by
 have i:g.length=rooms.length:=by rw[o.length_eq,<-x,aj]
 have inj:∀a∈rooms,∀b∈rooms,f a=f b->a=b:=fun a n b y e=>Jt x k.1 n y e;have h:∀d∈v,d.a∈rooms/\d.b∈rooms:=fun d p=>⟨(m.good d p).a,(m.good d p).b⟩;have j:∀a∈rooms,f a∈g:=fun a n=>o.mem_iff.mpr (by rw[<-x];exact kb n);refine{ m with okR:=⟨o.nodup_iff.mpr k.1,fun w H=>k.2 w (o.mem_iff.mp H)⟩,rooms0:=?_,rooms26:=by rw[i];exact m.rooms26,nodup:=?_,good:=?_,few:=by rw[aj];exact m.few,noround:=?_ }
 ·intro z;rw[z]at i;exact m.rooms0 (List.eq_nil_of_length_eq_zero i.symm)
 ·refine List.Pairwise.map _ ?_ (List.Pairwise.and_mem.mp m.nodup);rintro⟨a,s,b⟩ ⟨I,N,J⟩ ⟨D,E,A⟩ e;unfold vw at e;injection e with q t G;simp only at q t G;refine A ?_;rw[inj a (h _ D).1 I (h _ E).1 q,t,inj b (h _ D).2 J (h _ E).2 G]
 ·intro d p;obtain⟨L,l,rfl⟩:=av.mp p;exact⟨j _ (h _ l).1,j _ (h _ l).2,(m.good L l).sg⟩
 ·intro r z;obtain⟨a,n,b,y,q,t,M⟩:=DW inj h z;have:=inj a n b y (q.symm.trans t);subst this;exact m.noround a M
theorem EM(a:Zb){j k:Nat}(f:j<=k)(e:k<=a.length):gC (a.map V.str) (some (j:Int)) (some (k:Int))=((a.drop j).take (k-j)).map V.str:=by
 unfold gC;rw[HT.sIx_nat,HT.sIx_nat,aj,sU e,sU (bB f e),nC,sV]
theorem y3(a:Zb)(n:Nat):(a.take 1++a.drop (1+n)++(a.drop 1).take (1+n-1)).Perm a:=by
 have e:a.drop (1+n)=(a.drop 1).drop n:=by rw[List.drop_drop]
 have f:1+n-1=n:=by omega
 rw[e,f,cI];have h:a=a.take 1++((a.drop 1).take n++(a.drop 1).drop n):=by rw[sS,sS]
 exact(List.Perm.append_left _ List.perm_append_comm).trans (by rw[<-h])
theorem yu(o:Str)(L:Zb):decide (gK o∈L.map gK)=decide (o∈L):=by
 by_cases c:o∈L
 ·rw[zzr1 (mD.mpr c),zzr1 c]
 ·rw[zzr0 (fun z=>c (mD.mp z)),zzr0 c]
theorem be.same{K:Za}{H e:Hp}{a:Addr}{f:List V}(S:ac H e)(h:be K H a f):be K e a f:=by
 rcases h with(h|⟨o,h⟩)|h
 ·exact .inl (.inl (S _ _ h))
 ·exact .inl (.inr ⟨o,S _ _ h⟩)
 ·exact .inr h
theorem ay.same{K:Za}{H e:Hp}{a:Addr}{f:List V}(S:ac H e)(h:ay K H a f):ay K e a f:=by
 rcases h with(h|⟨o,h⟩)|h
 ·exact .inl (.inl (S _ _ h))
 ·exact .inl (.inr ⟨o,S _ _ h⟩)
 ·exact .inr h
mutual
theorem lc.same{K:Za}{H g:Hp}(S:ac H g):∀{d:DT}{v:V},lc K H d v->lc K g d v
 |.k a,v,h=>by unfold lc at h ⊢;exact h
 |.t l,v,h=>by
  unfold lc at h ⊢;obtain⟨b,f,e,q,r⟩:=h;exact⟨b,f,e,be.same S q,DIns.same S r⟩
 |.s l,v,h=>by
  unfold lc at h ⊢;obtain⟨b,f,e,q,r⟩:=h;exact⟨b,f,e,ay.same S q,DIns.same S r⟩
theorem DIns.same{K:Za}{H g:Hp}(S:ac H g):∀{f:List DT}{a:List V},DIns K H f a->DIns K g f a
 |[],a,h=>by unfold DIns at h ⊢;exact h
 |d::f,a,h=>by
  unfold DIns at h ⊢;obtain⟨v,i,e,q,r⟩:=h;exact⟨v,i,e,lc.same S q,DIns.same S r⟩
end
def Fs(K:Za)(sp_law_still_on:Sp):TS :=
 ao (aK (aS sp_law_still_on (aU (aH (jA K) V0 (tC (.int 3))) V1)) U2)
 (bm (eD (C3 K) (aw (dH 1 [2] (cj K (aH (jA K) V0 (tC (.int 2)))) U0 (aQ (aH (ph K false) V0 V1)) V0) bu)))
def GY:List Str:=["told","some","there"]
def tM(K:Za):TS :=
 bm (aH (lP K) (dH 1 [1] (cj K (aH (jA K) V0 (tC (.int 3)))) U0 (rZ (aQ (aH (lP K) (aH (jA K) V0 (tC (.int 0))) V1)) (aQ (aH HG (aH (jA K) (aH (jA K) V0 (tC (.int 1))) (tC (.int 0))) (tC (.str "ask"))))) V0) (dB (bu)))
def uU:List Str:=["told","room"]
def xH(K:Za)(sp_law_on:Sp)(sp_law_is_quiet:Sp):TS :=
 ao (cg (aQ (aH (lP K) V2 (bA (az (tC (.str "hush")))))) (bm (eD (C3 K) (az (dH 1 [0] (H_ K V1) U0 (tB (aS sp_law_is_quiet (aU V1 V0))) V0)))) (bD))
 (bm (aS sp_law_on (aw V0 (aw (dH 1 [1,2] (cj K (aH (jA K) V0 (tC (.int 3)))) U0 (rZ (aQ (aH (ph K false) (aH (jA K) V0 (tC (.int 0))) V1)) (aQ (aH (lP K) (aH (jA K) V0 (tC (.int 1))) V2))) (aH (jA K) V0 (tC (.int 2)))) bu))))
def yM:List Str:=["told","face","sign"]
def y9(K:Za):TS :=
 bm (aH r9 (aH r9 (dH 1 [] (cj K (aH (jA K) V0 (tC (.int 0)))) U0 (k7) (bA (aU (tC (.str "ask")) V0))) (dH 1 [] (cj K (aH (jA K) V0 (tC (.int 1)))) U0 (k7) (bA (aU (tC (.str "say")) V0)))) (dB (az (bA (az (tC (.str "hush")))))))
def AI:List Str:=["told"]
open Classical in
def closF(rooms:Zb)(ds:List ai)(gs:Zb):List Str:=rooms.filter fun r=>decide (fS ds gs r)
open Classical in
theorem uL{rooms F a:Zb}{e:List ai}(f:∀w,w∈F↔fS e a w):rooms.filter (fun r=>decide (r∈F))=closF rooms e a:=by
 unfold closF;refine List.filter_congr fun r _=>?_;by_cases c:r∈F
 ·rw[zzr1 c,zzr1 ((f r).mp c)]
 ·rw[zzr0 c,zzr0 fun z=>c ((f r).mpr z)]
open Classical in
theorem Ax{rooms i a:Zb}{f:List ai}(h:∀g,g∈i↔g∈a):closF rooms f i=closF rooms f a:=by
 have:∀r,fS f i r↔fS f a r:=fun r=>⟨fun⟨g,j,e⟩=>⟨g,(h g).mp j,e⟩,fun⟨g,j,e⟩=>⟨g,(h g).mpr j,e⟩⟩;unfold closF;refine List.filter_congr fun r _=>?_;by_cases c:fS f i r
 ·rw[zzr1 c,zzr1 ((this r).mp c)]
 ·rw[zzr0 c,zzr0 fun z=>c ((this r).mpr z)]
theorem wC{rooms a:Zb}{e:List ai}:∀r∈closF rooms e a,r∈rooms:=fun r h=>(bP.mp h).1
theorem wD{rooms a:Zb}{e:List ai}:(closF rooms e a).length<=rooms.length:=eG _ _
def behF(rooms:Zb)(ds:List ai)(face sg:Zb):List Str:=if sg=aT then face.filter (fun r=>decide (r∉dW ds))else closF rooms ds (cN ds sg face)
theorem GS{rooms face a:Zb}{e:List ai}(f:∀r∈face,r∈rooms):∀r∈behF rooms e face a,r∈rooms:=by
 intro r h;unfold behF at h;split at h
 ·exact f r (bP.mp h).1
 ·exact wC r h
theorem GU{rooms face a:Zb}{e:List ai}(f:rooms.length<=1000)(g:face.length<=1000):(behF rooms e face a).length<=1000:=by
 unfold behF;split
 ·exact bB (eG _ _) g
 ·exact bB wD f
theorem FW{rooms:Zb}{a:List ai}{e:Zb}(f:∀r∈e,r∈rooms):(e.filter fun r=>decide (r∈rooms.filter (cX a)))=e.filter fun r=>decide (r∉dW a):=by
 refine List.filter_congr fun r g=>?_;rw[<-i6];cases q:cX a r with
 |true=>exact zzr1 (bP.mpr ⟨f r g,q⟩)
 |false=>exact zzr0 (fun z=>by rw[(bP.mp z).2]at q;cases q)
inductive sy(K:Za)(C:Addr)(vs:List V)(H:Hp)(Q:VK)(E:XK):Prop
 |mk (x t s:Addr) (face sg J0 J1 rooms:Zb) (ds:List ai):(vs=[.ref x,.ref t,.ref s])->(bt C H x J0 J1 rooms ds)->(H t=some (.tup (face.map V.str)))->(be K H s (sg.map V.str))->((sg=aT∨H s=some (.tup (sg.map V.str))))->((∀r∈face,r∈rooms))->(face.length<=1000)->(∀(t':Addr) (H':Hp),H' t'=some (.tup ((behF rooms ds face sg).map V.str))->ac H H'->Q (.ref t') H')->sy K C vs H Q E
inductive zI (vs:List V)(H:Hp)(Q:VK)(E:XK):Prop
 |mk (t l l1 l2 l3 l4:Addr) (ts:Ze) (J0 J1 rooms gs:Zb) (ds:List ai):(vs=[.ref t,.ref l])->(iA H t l1 l2 l3 l4 ts J0 J1 rooms ds)->(aE J0 J1 rooms ds)->(H l=some (.lst (gs.map V.str)))->(gs.length<=1000)->(∀(t':Addr) (H':Hp),H' t'=some (.tup ((closF rooms ds gs).map V.str))->ac H H'->Q (.ref t') H')->zI  vs H Q E
theorem JN{K:Za}{a:List V}{H:Hp}{Q:VK}{E:XK}(h:zI a H Q E):Fs K (eR K) (bJ Q) (start GY a) H:=by
 obtain⟨t,l,l1,l2,B,C,D,J0,J1,rooms,G,I,rfl,T,m,J,L,k⟩:=h;have z3:=m.rooms26;refine⟨_,rfl,.inr (.inl ⟨t,_,3,_,rfl,rfl,be.of T.t,rfl,_,rfl,C,l,D,I,G,rooms,rfl,T.a4,T.ds,J,fun d M=>(m.good d M).b,by omega,L,fun N F O n U Y fr x=>?_⟩)⟩;have p:=T.same x;refine⟨_,rfl,.inr (.inl ⟨t,_,2,_,rfl,rfl,be.of p.t,rfl,B,rfl,⟨_,ay.of p.a3⟩,fun f y=>?_⟩)⟩
 let s:Nat->List V->Hp->Prop:=fun i a e=>a=((rooms.take i).filter fun r=>decide (r∈F)).map V.str/\ac O e/\e f=some (.lst a)
 refine cH (xs:=rooms.map V.str) s ⟨rfl,ac.new y,aa⟩ (fun i a e _ ⟨_,S,h'⟩=>⟨h',ay.of (S _ _ p.a3)⟩) ?_ ?_
 ·rintro a e ⟨rfl,S,g⟩;rw[aj,bb,uL U]at g;exact⟨f,_,rfl,.inl ⟨ay.of g,fun t' u=>k t' _ aa ((x.trans S).trans (ac.new u))⟩⟩
 ·rintro i a e x' v z ⟨rfl,S,g⟩;obtain⟨r,A,rfl⟩:=bv v;refine gN ?_;refine⟨_,rfl,_,rfl,gK r,F.map gK,N,_,ii r,rfl,.inl (ay.of (S _ _ n)),l9 _,(by show 0<=8;decide),by rw[fF];decide,_,rfl,?_⟩;rw[if_neg h7,yu];have j:(((rooms.take i).filter fun r=>decide (r∈F)).map V.str).length<ak:=by
   rw[aj];refine ar (bB (eG _ _) ?_);rw[aN];omega
  refine iy (fun w=>?_) (fun w=>?_)
  ·refine⟨_,rfl,g,j,pA z ⟨?_,?_,aa⟩⟩
   ·rw[cR A,if_pos w,ap];rfl
   ·intro b o q;rw[ag (ae q y)];exact S _ _ q
  ·refine pA z ⟨?_,S,g⟩;rw[cR A,if_neg w,dh]
theorem n6(a:List ai):DT.depths (a.map pL)<=2:=by
 induction a with
 |nil=>exact c_ _
 |cons x e f=>rw[bd];show max (DT.depth (pL x)) (DT.depths _)<=2;rw[sE];omega
theorem qA{j k rooms:Zb}{i:ai}(g:AL j k rooms i):∃f a,i.sg=f::a/\(!decide (V.str f=V.str ("ask":Str)))=!gy i:=by
 obtain⟨f,a,h⟩:∃f a,i.sg=f::a:=by
  rcases g.sg with⟨w,_,e⟩|⟨w,_,e⟩|e<;>exact⟨_,_,e⟩
 refine⟨f,a,h,?_⟩;unfold gy;rw[h];congr 1;show _=decide (f=("ask":Str));by_cases c:f=("ask":Str)
 ·rw[zzr1 c,zzr1 (by rw[c])]
 ·rw[zzr0 c,zzr0 (fun z=>c (by injection z))]
inductive jS (vs:List V)(H:Hp)(Q:VK)(E:XK):Prop
 |mk (t l1 l2 l3 l4:Addr) (ts:Ze) (J0 J1 rooms:Zb) (ds:List ai) (r:Str):(vs=[.ref t,.str r])->(iA H t l1 l2 l3 l4 ts J0 J1 rooms ds)->(aE J0 J1 rooms ds)->(∀H',ac H H'->Q (.bl (decide (r∉dW ds))) H')->jS  vs H Q E
theorem D0{K:Za}{g:List V}{H:Hp}{Q:VK}{E:XK}(h:jS g H Q E):tM K (bJ Q) (start uU g) H:=by
 obtain⟨t,l1,l2,l3,l4,G,J0,J1,rooms,l,r,rfl,T,m,k⟩:=h;have z4:=m.few;refine⟨_,rfl,.inr (.inl ⟨t,_,3,_,rfl,rfl,be.of T.t,rfl,l4,rfl,⟨_,ay.of T.a4⟩,fun f Y=>?_⟩)⟩
 let I:Nat->List V->Hp->Prop:=fun i g H'=>∃n:List Addr,g=n.map V.ref/\ac H H'/\H' f=some (.lst g)/\cB H' n ((l.take i).filter fun d=>decide (d.a=r) && !gy d)
 refine cH (xs:=G.map V.ref) I ⟨[],rfl,ac.new Y,aa,.nil⟩ (fun i g H' _ ⟨_,_,S,h',_⟩=>⟨h',ay.of (S _ _ T.a4)⟩) ?_ ?_;rotate_left
 ·rintro i g H' x' J hi ⟨n,rfl,S,L,y⟩;obtain⟨u,hu,rfl⟩:=cM J;obtain⟨A,w,p⟩:=Paired.getL T.ds hu;have B:=p.kt (ac.kt S);obtain⟨sb,C,x⟩:=p.kt (ac.kt S);obtain⟨s0,al,M,ea⟩:=qA (m.good A (aY w));unfold SignAt at x;rw[M]at x;have v:(decide (A.a=r) && !gy A)=false->∃m',m'<(G.map V.ref).length-i/\Wc (G.map V.ref).length (fun i g H'=>∃n:List Addr,g=n.map V.ref/\ac H H'/\H' f=some (.lst g)/\cB H' n ((l.take i).filter fun d=>decide (d.a=r) && !gy d)) (i+1) m' (n.map V.ref) H':=by
   intro z;refine pA hi ⟨n,rfl,S,L,?_⟩;rw[gA w,if_neg (by rw[z];decide),dh];exact y
  refine gN ?_;refine⟨_,rfl,.inr (.inl ⟨u,_,0,_,rfl,rfl,be.of C,rfl,_,rfl,gK A.a,gK r,ii _,ii _,(by show 0<=8;decide),(by show 0<=8;decide),_,rfl,?_⟩)⟩;rw[sF];by_cases D:A.a=r;rotate_left
  ·rw[zzr0 D];exact bH (bH (v (by rw[zzr0 D];rfl)))
  rw[zzr1 D];refine cT ?_;refine⟨_,rfl,.inr (.inl ⟨u,_,1,_,rfl,rfl,be.of C,rfl,.inr (.inl ⟨sb,_,0,.str s0,rfl,rfl,be.of x,bc (j:=0) rfl,rfl,_,rfl,?_⟩)⟩)⟩;rw[ea];cases q:gy A with
  |true=>exact bH (v (by rw[q,zzr1 D];rfl))
  |false =>
   refine cT ?_;refine⟨_,rfl,L,?_,pA hi ⟨n++[u],by rw[ap];rfl,?_,aa,?_⟩⟩
   ·rw[aj,Paired.length y];refine ar (bB (eG _ _) ?_);rw[aN];omega
   ·intro b o q;rw[ag (ae q Y)];exact S _ _ q
   ·rw[gA w,if_pos (by rw[q,zzr1 D];rfl)];have hk:fj H' (upd H' f (.lst (n.map V.ref++[.ref u]))):=bW L;exact cr (y.kt hk) (B.kt hk)
 rintro g H1 ⟨n,rfl,S1,f1,y⟩;rw[aj,Paired.length T.ds,bb]at y;refine⟨(by show 0<=ak;decide),fun e N=>⟨.s ((l.filter fun d=>decide (d.a=r) && !gy d).map pL),.s [],?_,Dw (ay.of aa),?_,by decide,?_⟩⟩
 ·unfold lc;exact⟨f,_,rfl,ay.of (kp f1 N),cB.dIns (y.kt (ac.kt (ac.new N)))⟩
 ·show DT.depths _+1<=8;have:=n6 (l.filter fun d=>decide (d.a=r) && !gy d);omega
 have ed:decide (DT.s ((l.filter fun d=>decide (d.a=r) && !gy d).map pL)=DT.s [])=decide (r∉dW l):=by
  by_cases c:r∈dW l
  ·have O:decide (r∉dW l)=false:=zzr0 (fun z=>z c);rw[O];refine zzr0 fun z=>?_;injection z with z;unfold dW at c;obtain⟨d,U,e1⟩:=av.mp c;obtain⟨h1,h2⟩:=bP.mp U;have:pL d∈(l.filter fun d=>decide (d.a=r) && !gy d).map pL:=kb (bP.mpr ⟨h1,by rw[zzr1 e1,h2];rfl⟩);rw[z]at this;cases this
  ·have O:decide (r∉dW l)=true:=zzr1 c;rw[O];refine zzr1 ?_;have:(l.filter fun d=>decide (d.a=r) && !gy d)=[]:=by
    rw[wT];intro d U z;rw[lD]at z;exact c (av.mpr ⟨d,bP.mpr ⟨U,z.2⟩,of_decide_eq_true z.1⟩)
   rw[this]
   rfl
 rw[ed];exact k _ (S1.trans (ac.new N))
inductive t9(K:Za)(vs:List V)(H:Hp)(Q:VK)(E:XK):Prop
 |mk (t ft s l1 l2 l3 l4:Addr) (ts:Ze) (J0 J1 rooms face sg:Zb) (ds:List ai):(vs=[.ref t,.ref ft,.ref s])->(iA H t l1 l2 l3 l4 ts J0 J1 rooms ds)->(aE J0 J1 rooms ds)->(H ft=some (.tup (face.map V.str)))->(be K H s (sg.map V.str))->(face.length<=1000)->(∀(t':Addr) (H':Hp),H' t'=some (.tup ((behF rooms ds face sg).map V.str))->ac H H'->Q (.ref t') H')->t9 K vs H Q E
theorem Je{K:Za}{e:List V}{H:Hp}{Q:VK}{E:XK}(h:t9 K e H Q E):xH K zI jS (bJ Q) (start yM e) H:=by
 obtain⟨t,ft,s,l1,l2,l3,l4,I,J0,J1,rooms,face,n,j,rfl,T,m,al,hs,hz,k⟩:=h;have z4:=m.few;refine⟨_,rfl,(by show 1<=ak;decide),fun hh J=>⟨gP n,gP aT,aM (be.same (ac.new J) hs),aM (be.of aa),by rw[b0];decide,by rw[b0];decide,_,rfl,?_⟩⟩;rw[eP];have C:ac H (upd H hh (.tup [.str "hush"])):=ac.new J;generalize upd H hh (.tup [.str "hush"])=H1 at C ⊢;have D:=T.same C;have x:=C _ _ al;have an:=be.same C hs;by_cases c:n=aT
 ·rw[zzr1 c];refine cT ?_;refine⟨_,rfl,ft,rfl,⟨_,be.of x⟩,fun f L=>?_⟩
  let as:Nat->List V->Hp->Prop:=fun i e H'=>e=((face.take i).filter fun r=>decide (r∉dW j)).map V.str/\ac H1 H'/\H' f=some (.lst e)
  refine Aw (xs:=face.map V.str) as ⟨rfl,ac.new L,aa⟩ (fun i e H' _ ⟨_,S,h'⟩=>⟨h',be.of (S _ _ x)⟩) ?_ ?_
  ·rintro e H' ⟨rfl,S,v⟩;rw[aj,bb]at v;refine⟨f,_,rfl,.inl ⟨ay.of v,fun t' aC=>k t' _ ?_ ((C.trans S).trans (ac.new aC))⟩⟩;rw[aa];unfold behF;rw[if_pos c]
  ·rintro i e H' x' y M ⟨rfl,S,v⟩;obtain⟨r,hr,rfl⟩:=bv y;refine gN ?_;refine⟨_,rfl,_,rfl,t,l1,l2,l3,l4,I,J0,J1,rooms,j,r,rfl,D.same S,m,fun H2 A=>⟨_,rfl,?_⟩⟩;have N:(((face.take i).filter fun r=>decide (r∉dW j)).map V.str).length<ak:=by
    rw[aj];refine ar (bB (eG _ _) ?_);rw[aN];omega
   refine iy (fun hq=>?_) (fun hq=>?_)
   ·refine⟨_,rfl,A _ _ v,N,pA M ⟨?_,?_,aa⟩⟩
    ·rw[cR hr,if_pos hq,ap];rfl
    ·intro b o q;rw[ag (ae q L)];exact A _ _ (S _ _ q)
   ·refine pA M ⟨?_,S.trans A,A _ _ v⟩;rw[cR hr,if_neg hq,dh]
 ·rw[zzr0 c];refine bH ?_;refine⟨_,rfl,_,rfl,.inr (.inl ⟨t,_,3,_,rfl,rfl,be.of D.t,rfl,l4,rfl,⟨_,ay.of D.a4⟩,fun f L=>?_⟩)⟩
  let aF:Nat->List V->Hp->Prop:=fun i e H'=>∃G:List Str,e=G.map V.str/\ac H1 H'/\H' f=some (.lst e)/\G.length<=i/\∀g,g∈G↔∃d∈j.take i,d.a∈face/\d.sg=n/\d.b=g
  refine cH (xs:=I.map V.ref) aF
   ⟨[],rfl,ac.new L,aa,aG _,fun g=>⟨fun h=>(by cases h),fun⟨_,h,_⟩=>by simp at h⟩⟩ (fun i e H' _ ⟨_,_,S,h',_⟩=>⟨h',ay.of (S _ _ D.a4)⟩) ?_ ?_
  rotate_left
  ·rintro i e H' x' y M ⟨G,rfl,S,v,hl,O⟩;obtain⟨u,hu,rfl⟩:=cM y;obtain⟨l,U,Y⟩:=Paired.getL D.ds hu;obtain⟨sb,B,a0⟩:=Y.kt (ac.kt S);have a5:i<j.length:=(bY.mp U).1;have p:∀g,(∃d∈j.take (i+1),d.a∈face/\d.sg=n/\d.b=g)↔((∃d∈j.take i,d.a∈face/\d.sg=n/\d.b=g)∨(l.a∈face/\l.sg=n/\l.b=g)):=by
    intro g;rw[take_snoc U];constructor
    ·rintro⟨d,hd,h⟩;rcases aX.mp hd with hd|hd
     ·exact .inl ⟨d,hd,h⟩
     ·have:d=l:=by simpa using hd
      subst this;exact .inr h
    ·rintro(⟨d,hd,h⟩|h)
     ·exact⟨d,cG _ hd,h⟩
     ·exact⟨l,cQ _ (by simp),h⟩
   have w:¬(l.a∈face/\l.sg=n)->∃m',m'<(I.map V.ref).length-i/\Wc (I.map V.ref).length (fun i e H'=>∃G:List Str,e=G.map V.str/\ac H1 H'/\H' f=some (.lst e)/\G.length<=i/\∀g,g∈G↔∃d∈j.take i,d.a∈face/\d.sg=n/\d.b=g) (i+1) m' (G.map V.str) H':=by
    intro z;refine pA M ⟨G,rfl,S,v,by omega,fun g=>?_⟩;rw[p,O];exact⟨.inl,fun h=>h.elim id fun h=>absurd ⟨h.1,h.2.1⟩ z⟩
   refine gN ?_;refine⟨_,rfl,.inr (.inl ⟨u,_,0,_,rfl,rfl,be.of B,rfl,_,rfl,gK l.a,face.map gK,ft,_,ii _,rfl,.inr (be.of (S _ _ x)),l9 _,(by show 0<=8;decide),by rw[fF];decide,_,rfl,?_⟩)⟩;rw[if_neg h7,yu];by_cases c1:l.a∈face;rotate_left
   ·rw[zzr0 c1];exact bH (bH (w fun z=>c1 z.1))
   rw[zzr1 c1];refine cT ?_;refine⟨_,rfl,.inr (.inl ⟨u,_,1,_,rfl,rfl,be.of B,rfl,_,rfl,gP l.sg,gP n,aM (be.of a0),aM (be.same S an),by rw[b0];decide,by rw[b0];decide,_,rfl,?_⟩)⟩;rw[eP];by_cases c2:l.sg=n;rotate_left
   ·rw[zzr0 c2];exact bH (w fun z=>c2 z.2)
   rw[zzr1 c2];refine cT ?_;refine⟨_,rfl,.inr (.inl ⟨u,_,2,_,rfl,rfl,be.of B,rfl,v,by rw[aj];exact ar (by omega),pA M ⟨G++[l.b],by rw[ap];rfl,?_,aa,by rw[au];show G.length+1<=i+1;omega,fun g=>?_⟩⟩)⟩
   ·intro b o q;rw[ag (ae q L)];exact S _ _ q
   ·rw[p,<-O,aX];simp only[bO];exact⟨fun h=>h.imp id fun h=>⟨c1,c2,h.symm⟩,fun h=>h.imp id fun h=>h.2.2.symm⟩
  rintro e H2 ⟨G,rfl,A,f2,hl,O⟩;rw[aj,Paired.length T.ds]at hl;rw[aj,Paired.length T.ds,bb]at O;refine⟨t,f,l1,l2,l3,l4,I,J0,J1,rooms,G,j,rfl,D.same A,m,f2,by omega,fun t' H' h1 S'=>k t' H' ?_ ((C.trans A).trans S')⟩;rw[h1];unfold behF;rw[if_neg c]
  suffices e0:closF rooms j G=closF rooms j (cN j n face) by rw[e0]
  refine Ax fun g=>?_;rw[O,iK];constructor
  ·rintro⟨⟨a,a6,b⟩,hd,h1,h2,h3⟩;simp only at h1 h2 h3;subst h2 h3;exact⟨a,h1,hd⟩
  ·rintro⟨r,hr,h⟩;exact⟨_,h,hr,rfl,rfl⟩
abbrev j8(H:Hp)(us:Ze)(L:List (List Str)):Prop:=Paired (SignAt H) us L
theorem j8.kt{H H':Hp}{a:Ze}{L:List (List Str)}(k:fj H H')(h:j8 H a L):j8 H' a L:=Paired.mapP h fun _ _ r=>k _ _ r
theorem j8.dIns{K:Za}{H:Hp}:∀{a:Ze}{L:List (List Str)},j8 H a L->DIns K H (L.map gP) (a.map V.ref)
 |_,_,.nil=>by show DIns K H [] [];unfold DIns;rfl
 |_,_,.cons r t=>by
  rw[bd,bd];unfold DIns;exact⟨_,_,rfl,aM (be.of r),j8.dIns t⟩
theorem n5(L:List (List Str)):DT.depths (L.map gP)<=1:=by
 induction L with
 |nil=>exact c_ _
 |cons x a e=>rw[bd];show max (DT.depth (gP x)) (DT.depths _)<=1;rw[b0];omega
def aR(J0 J1:Zb):List (List Str):=J0.map dA++J1.map o_++[aT]
inductive oY (vs:List V)(H:Hp)(Q:VK)(E:XK):Prop
 |mk (t l1 l2 l3 l4:Addr) (ts:Ze) (J0 J1 rooms:Zb) (ds:List ai):(vs=[.ref t])->(iA H t l1 l2 l3 l4 ts J0 J1 rooms ds)->(aE J0 J1 rooms ds)->(∀(l:Addr) (us:Ze) (H':Hp),H' l=some (.lst (us.map V.ref))->j8 H' us (aR J0 J1)->H l=none->ac H H'->Q (.ref l) H')->oY  vs H Q E
theorem kI{K:Za}{σ:L2.St}{H:Hp}{a l:Addr}{ws:Zb}{kd:Str}{Q:Hp->Prop}(t:H a=some (.lst (ws.map V.str)))(z:ws.length<=1000)(s:H l=none)
  (k:∀(f:Ze) (e:Hp),e l=some (.lst (f.map V.ref))->j8 e f (ws.map fun w=>[kd,w])->ac H e->Q e) :
  gF 1 [] σ (Hf K a) U0 k7 (bA (aU (tC (.str kd)) V0)) H l Q:=by
 let m:Nat->List V->Hp->Prop:=fun i g e=>∃f:List Addr,g=f.map V.ref/\ac H e/\e l=some (.lst g)/\j8 e f ((ws.take i).map fun w=>[kd,w])
 refine cH (xs:=ws.map V.str) m ⟨[],rfl,ac.new s,aa,.nil⟩ (fun i g e _ ⟨_,_,S,n,_⟩=>⟨n,ay.of (S _ _ t)⟩) ?_ ?_
 ·rintro g e ⟨f,rfl,S,n,h⟩;rw[aj,bb]at h;exact k f e n h S
 ·rintro i g e A p v ⟨f,rfl,S,r,h⟩;obtain⟨w,x,rfl⟩:=bv p;refine gN (u7 ?_);refine⟨_,rfl,(by show 2<=ak;decide),fun u j=>⟨kp r j,?_,pA v ⟨f++[u],by rw[ap];rfl,?_,aa,?_⟩⟩⟩
  ·rw[aj,Paired.length h,aj,aN];exact ar (by omega)
  ·intro b o q;rw[ag (ae q s)];exact kp (S _ _ q) j
  ·rw[take_snoc x,ap];have y:fj e (upd (upd e u (.tup [.str kd,.str w])) l (.lst (f.map V.ref++[.ref u]))):=(ac.kt (ac.new j)).trans (bW (kp r j));exact cr (j8.kt y h) ((bW (kp r j)) _ _ aa)
theorem FD{K:Za}{A:List V}{H:Hp}{Q:VK}{E:XK}(h:oY A H Q E):y9 K (bJ Q) (start AI A) H:=by
 obtain⟨t,B,C,N,O,U,Y,J1,rooms,ds,rfl,T,m,k⟩:=h;have z1:=m.asks4;have z2:=m.says4;refine⟨_,rfl,.inr (.inl ⟨t,_,0,_,rfl,rfl,be.of T.t,rfl,B,rfl,⟨_,ay.of T.a1⟩,fun D n=>?_⟩)⟩;refine kI (kd:="ask") T.a1 (by omega) n fun p H1 G e q=>?_;have s:=T.same q;refine⟨_,rfl,.inr (.inl ⟨t,_,1,_,rfl,rfl,be.of s.t,rfl,C,rfl,⟨_,ay.of s.a2⟩,fun I u=>?_⟩)⟩;refine kI (kd:="say") s.a2 (by omega) u fun v H2 J f l=>?_;have w:=l _ _ G;have i:=j8.kt (ac.kt l) e;refine⟨D,I,_,_,rfl,rfl,w,J,?_,fun L j=>?_⟩
 ·rw[aj,aj,Paired.length e,Paired.length f,aj,aj];exact eK (ar (by omega))
 refine⟨(by show 1<=ak;decide),fun x g=>⟨(by show 1<=ak;decide),fun M a=>?_⟩⟩;refine⟨L,M,_,_,rfl,rfl,kp (kp aa g) a,aa,?_,fun r y=>?_⟩
 ·rw[au,aj,aj,Paired.length e,Paired.length f,aj,aj];exact eK (ar (by show _+1<=1000;omega))
 have z:=(((ac.new (o:=.lst (p.map V.ref++v.map V.ref)) j).trans (ac.new (o:=.tup [.str "hush"]) g)).trans (ac.new (o:=.lst [.ref x]) a)).trans (ac.new (o:=.lst (p.map V.ref++v.map V.ref++[.ref x])) y);refine k r (p++v++[x]) _ ?_ ?_ ?_ ((q.trans l).trans z)
 ·rw[aa,ap,ap];rfl
 ·refine Paired.app (Paired.app (j8.kt (ac.kt z) i) (j8.kt (ac.kt z) f)) (.cons ?_ .nil);exact kp (kp aa a) y
 ·exact(((q.trans l).trans ((ac.new j).trans (ac.new g))).trans (ac.new a)).free y
theorem Cb(a:List V)(k:Nat):gC a (some (k:Int)) none=a.drop k:=by
 unfold gC;rw[HT.sIx_none,HT.sIx_nat,wV (by rw[fP];omega)];by_cases h:k<=a.length
 ·rw[sU h]
 ·rw[Nat.min_eq_right (by omega),qa (by simp),qa (by omega)]
theorem Paired.takeP{α β:Type}{R:α->β->Prop}:∀(n:Nat) {a:List α}{e:List β},Paired R a e->Paired R (a.take n) (e.take n)
 |0,_,_,_=>by rw[sQ,sQ];exact .nil
 |_+1,_,_,.nil=>.nil
 |n+1,_,_,.cons r t=>.cons r (Paired.takeP n t)
theorem Paired.dropP{α β:Type}{R:α->β->Prop}:∀(n:Nat) {a:List α}{e:List β},Paired R a e->Paired R (a.drop n) (e.drop n)
 |0,_,_,h=>h
 |_+1,_,_,.nil=>.nil
 |n+1,_,_,.cons r t=>Paired.dropP n t
def faceOf(rooms:Zb)(ds:List ai)(story:List (List Str)):List Str:=story.foldl (behF rooms ds) (closF rooms ds (rooms.take 1))
theorem lY(rooms:Zb)(e:List ai)(a:List (List Str))(f:Zb):faceOf rooms e (a++[f])=behF rooms e (faceOf rooms e a) f:=by
 unfold faceOf;rw[ip]
 rfl
theorem j3{rooms:Zb}{ds:List ai}(i:rooms.length<=1000)(a:List (List Str)):(∀r∈faceOf rooms ds a,r∈rooms)/\(faceOf rooms ds a).length<=1000:=by
 have e:∀(L:List (List Str)) (f:Zb),(∀r∈f,r∈rooms)->f.length<=1000->(∀r∈L.foldl (behF rooms ds) f,r∈rooms)/\(L.foldl (behF rooms ds) f).length<=1000:=by
  intro L
  induction L with
  |nil=>intro f g h;exact⟨g,h⟩
  |cons k L j=>intro f g h;exact j _ (GS g) (GU i h)
 exact e a _ wC (bB wD i)
def tP(K:Za):TS :=
 bm (eD (da K) (az (gh K V0 "own_asks")))
def uX:List Str:=["self"]
def tO(K:Za):TS :=
 bm (eD (da K) (az (gh K V0 "own_says")))
def uW:List Str:=["self"]
def lI(K:Za):TS :=
 bm (eD (da K) (az (tZ K (gh K V0 "leaving") V1 (bA (bu)))))
def mf:List Str:=["self","room"]
def Bb(K:Za)(sp_law_behind:Sp)(sp_law_on:Sp):TS :=
 ao (aK (aS sp_law_on (aU V0 (AO (rSlA K) (aH (jA K) V0 (tC (.int 2))) (e_) (gf (tC (.int 1)))))) U2)
 (ao (eQ (cj K V1) U3 (aK (aS sp_law_behind (eo V0 V2 V3)) U2))
 (bm V2))
def Cv:List Str:=["told","story","face","sign"]
theorem nT{C x:Addr}{H:Hp}{k l rooms:Zb}{m:List ai}(h:bt C H x k l rooms m):∃(j:Addr) (fs:List (Str×V)) (f g i:Addr) (a:List (Str×Addr)),H x=some (.ins C j fs)/\lk "asks" fs=none/\lk "says" fs=none/\lk "doors_from" fs=none/\lk "is_quiet" fs=none/\lk "own_asks" fs=some (.ref f)/\lk "own_says" fs=some (.ref g)/\lk "leaving" fs=some (.ref i) /\
  H f=some (.lst (k.map V.str))/\H g=some (.lst (l.map V.str))/\a.map (·.1)=rooms/\H i=some (.dK (eC Sum.inr a))/\(∀x∈a,∃n,H x.2=some (.lst (n.map V.ref))/\cB H n (bE m x.1)):=by
 obtain⟨j,fs,f,g,E,I,i,J,M,N,O,a,p,q,o,a1,a2,a3,Q,r,s,T,U,t,Y,b7,b8,L,u,v,w,c4,G,d1,d2,d3⟩:=h.at_;obtain⟨y,z,e,A,B,e3,D⟩:=h.more;rw[o]at e;cases e;exact⟨j,fs,f,g,i,a,o,A,B,D,a1,r,s,t,L.a1,L.a2,u,v,w⟩
inductive mz(C:Addr)(vs:List V)(H:Hp)(Q:VK)(E:XK):Prop
 |mk (x:Addr) (J0 J1 rooms:Zb) (ds:List ai):(vs=[.ref x])->(bt C H x J0 J1 rooms ds)->(∀l,H l=none->Q (.ref l) (upd H l (.lst (J0.map V.str))))->mz C vs H Q E
theorem HC{K:Za}{C:Addr}(M:MC K C){a:List V}{H:Hp}{Q:VK}{E:XK}(h:mz C a H Q E):tP K (bJ Q) (start uX a) H:=by
 obtain⟨x,m,n,rooms,o,rfl,h,k⟩:=h;obtain⟨f,fs,e,p,q,g,i,a1,a2,a3,r,j,s,t,l,u,_⟩:=nT h;exact⟨_,rfl,x,C,f,fs,.ref e,rfl,i,M.cls,M.a1,j,.inl ⟨e,_,rfl,.inl (ay.of l),k⟩⟩
inductive oZ(C:Addr)(vs:List V)(H:Hp)(Q:VK)(E:XK):Prop
 |mk (x:Addr) (J0 J1 rooms:Zb) (ds:List ai):(vs=[.ref x])->(bt C H x J0 J1 rooms ds)->(∀l,H l=none->Q (.ref l) (upd H l (.lst (J1.map V.str))))->oZ C vs H Q E
theorem Hy{K:Za}{C:Addr}(M:MC K C){a:List V}{H:Hp}{Q:VK}{E:XK}(h:oZ C a H Q E):tO K (bJ Q) (start uW a) H:=by
 obtain⟨x,m,n,rooms,o,rfl,h,k⟩:=h;obtain⟨f,fs,p,e,q,g,i,a1,a2,a3,r,s,j,t,u,l,_⟩:=nT h;exact⟨_,rfl,x,C,f,fs,.ref e,rfl,i,M.cls,M.a2,j,.inl ⟨e,_,rfl,.inl (ay.of l),k⟩⟩
inductive hU(C:Addr)(vs:List V)(H:Hp)(Q:VK)(E:XK):Prop
 |mk (x:Addr) (r:Str) (J0 J1 rooms:Zb) (ds:List ai):(vs=[.ref x,.str r])->(bt C H x J0 J1 rooms ds)->(r∈rooms)->(∀(l:Addr) (us:Ze) (H':Hp),H' l=some (.lst (us.map V.ref))->cB H' us (bE ds r)->H l=none->ac H H'->Q (.ref l) H')->hU C vs H Q E
theorem vD{K:Za}{C:Addr}(M:MC K C){n:List V}{H:Hp}{Q:VK}{E:XK}(h:hU C n H Q E):lI K (bJ Q) (start mf n) H:=by
 obtain⟨x,r,I,J,rooms,L,rfl,h,t,k⟩:=h;obtain⟨u,fs,N,O,o,i,v,a1,a2,a3,T,U,Y,w,c1,c2,p,q,y⟩:=nT h;have j:=h.ok.okR.1;obtain⟨⟨s,a⟩,e,z⟩:=av.mp (show r∈i.map (·.1) by rw[p];exact t);obtain rfl:s=r:=z;obtain⟨A,B,D⟩:=y _ e;refine⟨_,rfl,x,C,u,fs,.ref o,rfl,v,M.cls,M.a5,w,o,rfl,.inl ⟨_,.inl q⟩,_,rfl,(by show 0<=ak;decide),fun G f=>⟨_,.inl ⟨_,.inr s,.inl (kp q f),rfl,rfl⟩,?_⟩⟩;rw[eN iL (by rw[p];exact j) e];have g:ac H (upd H G (.tup [])):=ac.new f;refine .inl ⟨a,_,rfl,.inl (ay.of (g _ _ B)),fun l m=>k l A _ aa ?_ (g.free m) (g.trans (ac.new m))⟩;exact D.kt (ac.kt (g.trans (ac.new m)))
open Classical in
theorem wf{rooms a:Zb}{e:List ai}{r:Str}:r∈closF rooms e a↔r∈rooms/\fS e a r:=by
 unfold closF;rw[bP,decide_eq_true_iff]
theorem Kn(w:Str):(gK w).depth<=8:=c_ _
theorem Fe(a:Zb):(gP a).depth<=8:=by rw[b0];decide
theorem J6(L:List (List Str)):(DT.s (L.map gP)).depth<=8:=by
 have:=n5 L;show DT.depths _+1<=8;omega
inductive Ce where
 |lst (xs:List Sl)
 |dk (kvs:List (cz×Sl))
 |dt (kvs:List (TK×Sl))
 |ins (C:Addr) (fs:List (Str×Sl))
 |fk (o:Obj) (l:List (cz×V)) (kvs:List (cz×Sl))


theorem HY{n j:Nat}(h:j<n):Fc n (j:Int)=some j:=by
 unfold Fc;rw[if_pos (Int.natCast_nonneg j),if_pos (by omega)]
 rfl
theorem Reach.mono{g f:List ai}(h:∀a b,(⟨a,am,b⟩:ai)∈g->(⟨a,am,b⟩:ai)∈f){a b:Str}(r:Reach g a b):Reach f a b:=by
 induction r with
 |one e=>exact .one (h _ _ e)
 |step _ e i=>exact .step i (h _ _ e)
theorem Gh{K:Za}{H:Hp}{l q:Addr}{e:Ze}{a:List ai}{Q:VK}(f:H l=some (.lst (e.map V.ref)))(g:cB H e a)(h:H q=some (.lst []))(i:a≠[]->Q (.bl true) H)(j:a=[]->Q (.bl false) H):nV K (.ref l) (.ref q) H Q:=by
 refine⟨.s (a.map pL),.s [],(by unfold lc;exact⟨l,_,rfl,ay.of f,g.dIns⟩),(by unfold lc;exact⟨q,_,rfl,ay.of h,by unfold DIns;rfl⟩),?_,(by decide),?_⟩
 ·show DT.depths _+1<=8;have:=n6 a;omega
 ·by_cases c:a=[]
  ·subst c;rw[zzr1 (show DT.s (([]:List ai).map pL)=DT.s []from rfl)];exact j rfl
  ·rw[zzr0 (fun z=>c (by injection z with z;exact List.map_eq_nil_iff.mp z))];exact i c
def Hn(K:Za)(C_Machine:Addr)(sp_Machine_led_from:Sp)(sp_Machine_goals:Sp):TS :=
 bm (eD (rAny K) (aw (dH 1 [0,2] (cj K (aH r9 (dB (az V1)) (cW C_Machine "led_from" sp_Machine_led_from [] E0 V0 (az V1)))) U0 (k7) (aH Ek (eD (dS K) (aw (cW C_Machine "goals" sp_Machine_goals [] E0 V1 (aU V0 (bA (aw (tC (.str "ask")) (az V2))))) bu)) (tC (.int 0)))) bu))
def Ir:List Str:=["I","room","ask"]
def vd(K:Za)(sp_law_put:Sp)(sp_law_take:Sp)(sp_law_still_on:Sp):TS :=
 ao (aK V1 (jg K 4 (bj U2 (bj U3 (bj U4 (bj U5 (iM)))))))
 (ao (aK (eD (da K) (az V5)) U5)
 (ao (eQ (cj K V4) U6 (eQ (cj K V2) U7 (ao (aK (aS sp_law_still_on (aU V5 (dB (az V6)))) U8)
 (cg (aQ (aH (lP K) (dH 1 [8,7] (cj K V5) U0 (rZ (aQ (aH (ph K false) (aH (jA K) V0 (tC (.int 0))) V1)) (aQ (aH (lP K) (aH (jA K) V0 (tC (.int 1))) (bA (aU (tC (.str "ask")) V2))))) V0) (dB (bu)))) (ao (aK (aH (cS K) (dB (aw V6 (aw (aH (cS K) V4 (aS sp_law_take (aU V0 (eD (dS K) (az V4))))) bu))) (aS sp_law_take (aU V0 (tC (.int 2))))) U9)
 (bG (aS sp_law_put (aw V5 (aw (bA (eo V6 (bA (aU (tC (.str "ask")) V7)) V9)) bu))))) (bD)))))
 (bm (bA (aw V2 (eo V3 V4 V5))))))
def vN:List Str:=["pen","told","asks","says","rooms","doors","room","ask","there","other"]
def ik(ds:List ai)(r a:Str):Prop:=∃h,(h=r∨Reach ds r h)/\∃b,(⟨h,dA a,b⟩:ai)∈ds
open Classical in
def takesB(ds:List ai)(r a:Str):Bool:=decide (ik ds r a)
theorem lH{ds:List ai}{r a:Str}:takesB ds r a=true↔ik ds r a:=by unfold takesB;exact @decide_eq_true_iff _ (Classical.propDecidable _)
theorem xC{ds:List ai}{r a:Str}:takesB ds r a=false↔¬ik ds r a:=by unfold takesB;exact @decide_eq_false_iff_not _ (Classical.propDecidable _)
theorem rH{e:List ai}{h:Str}{f:Zb}:0<(aJ e (h,f)).length↔∃b,(⟨h,f,b⟩:ai)∈e:=by
 rw[List.length_pos_iff_exists_mem];constructor
 ·rintro⟨b,a⟩;exact⟨b,bx.mp a⟩
 ·rintro⟨b,a⟩;exact⟨b,bx.mpr a⟩
theorem DO{ds:List ai}{r a:Str}{L:Zb}(i:∀w,w∈L↔Reach ds r w):((r::L).map fun h=>decide ((0:Int)<(aJ ds (h,dA a)).length)).any id=takesB ds r a:=by
 rw[sL,lH,List.any_eq_true];constructor
 ·rintro⟨b,f,e⟩;obtain⟨h,g,rfl⟩:=av.mp f;have:=of_decide_eq_true e;refine⟨h,?_,rH.mp (by omega)⟩;rcases df.mp g with e|e
  ·exact .inl e
  ·exact .inr ((i h).mp e)
 ·rintro⟨h,g,f⟩;refine⟨true,av.mpr ⟨h,?_,zzr1 (by have:=rH.mpr f;omega)⟩,rfl⟩;rcases g with e|e
  ·rw[e];exact cD
  ·exact d_ _ ((i h).mpr e)
inductive jR(C:Addr)(vs:List V)(H:Hp)(Q:VK)(E:XK):Prop
 |mk (x:Addr) (r a:Str) (J0 J1 rooms:Zb) (ds:List ai):(vs=[.ref x,.str r,.str a])->(bt C H x J0 J1 rooms ds)->(r∈rooms)->(∀H',ac H H'->Q (.bl (takesB ds r a)) H')->jR C vs H Q E
theorem Dh{K:Za}{H:Hp}{l m:Addr}{a b:Zb}{Q:VK}(e:H l=some (.lst (a.map V.str)))(f:H m=some (.lst (b.map V.str)))(k:Q (.bl (!decide (a=b))) H):nV K (.ref l) (.ref m) H Q:=by
 refine⟨.s (a.map gK),.s (b.map gK),uG (ay.of e),uG (ay.of f),?_,?_,?_⟩
 ·show DT.depths _+1<=8;rw[fF];decide
 ·show DT.depths _+1<=8;rw[fF];decide
 ·rw[decide_eq_decide.mpr (show DT.s (a.map gK)=DT.s (b.map gK)↔a=b from⟨fun h=>ie (by injection h),fun h=>by rw[h]⟩)];exact k
def AF(F:Zb)(a:Str)(d:ai):Bool:=decide (d.a∈F) && decide (d.sg=dA a)
theorem AE{f:List ai}{F:Zb}{r a:Str}(i:∀w,w∈F↔fS f [r] w):f.filter (AF F a)=[]↔takesB f r a=false:=by
 rw[xC,wT];constructor
 ·rintro h ⟨w,j,b,k⟩;refine h _ k ?_;unfold AF;rw[zzr1,zzr1]
  ·rfl
  ·rfl
  ·exact(i w).mpr ⟨r,cD,j⟩
 ·intro n d hd q;unfold AF at q;rw[lD]at q;have l:=of_decide_eq_true q.1;have m:=of_decide_eq_true q.2;obtain⟨g,o,e⟩:=(i _).mp l;have:g=r:=by simpa using o
  subst this;obtain⟨x,p,b⟩:=d;exact n ⟨x,e,b,by rw[<-m];exact hd⟩
theorem GV{K:Za}{σ:L2.St}{jt ja:Nat}{J f l:Addr}{B:Ze}{r:List ai}{F:Zb}{a:Str}{m:Hp}{Q:Hp->Prop}(st:σ[jt]?=some (some (.ref f)))(O:σ[ja]?=some (some (.str a)))
  (T:m J=some (.lst (B.map V.ref))) (hd:cB m B r) (U:m f=some (.lst (F.map V.str))) (z:r.length<=1000) (L:m l=none)
  (k:∀(g:Ze) (e:Hp),e l=some (.lst (g.map V.ref))->cB e g (r.filter (AF F a))->ac m e->Q e) :
  gF 1 [jt,ja] σ (Hf K J) U0 (rZ (aQ (aH (ph K false) (aH (jA K) V0 (tC (.int 0))) V1)) (aQ (aH (lP K) (aH (jA K) V0 (tC (.int 1))) (bA (aU (tC (.str "ask")) V2))))) V0 m l Q:=by
 have Y:dX 1 [jt,ja] σ=[none,some (.ref f),some (.str a)]:=by simp[dX,st,O]
 let C:Nat->List V->Hp->Prop:=fun i t e=>∃g:List Addr,t=g.map V.ref/\cB e g ((r.take i).filter (AF F a))/\ac m e/\e l=some (.lst t)
 refine cH (xs:=B.map V.ref) C
  ⟨[],rfl,.nil,ac.new L,aa⟩ (fun i t e _ ⟨_,_,_,S,n⟩=>⟨n,ay.of (S _ _ T)⟩) ?_ ?_
 ·rintro t e ⟨g,rfl,D,S,n⟩;rw[aj,Paired.length hd,bb]at D;exact k g e n D S
 ·rintro i t e y hy E ⟨g,rfl,D,S,n⟩;obtain⟨u,hu,rfl⟩:=cM hy;obtain⟨w,j,G⟩:=Paired.getL hd hu;obtain⟨sb,p,v⟩:=G.kt (ac.kt S);have al:i<r.length:=(bY.mp j).1;have zu:g.length<=i:=by
   have:=Paired.length D;rw[this];refine bB (eG _ _) ?_;rw[aN];omega
  rw[Y];refine gN ?_;refine⟨_,rfl,.inr (.inl ⟨u,_,0,_,rfl,rfl,be.of p,rfl,_,rfl,gK w.a,F.map gK,f,_,ii _,rfl,.inl (ay.of (S _ _ U)),l9 _,(by show 0<=8;decide),by rw[fF];decide,_,rfl,?_⟩)⟩;rw[if_neg h7,yu];by_cases x:w.a∈F;rotate_left
  ·rw[zzr0 x];refine bH (bH (pA E ⟨g,rfl,?_,S,n⟩));rw[gA j,if_neg (by unfold AF;rw[zzr0 x,CL];decide),dh];exact D
  rw[zzr1 x];refine cT ?_;refine⟨_,rfl,.inr (.inl ⟨u,_,1,_,rfl,rfl,be.of p,rfl,_,rfl,(by show 2<=ak;decide),fun s hs=>?_⟩)⟩;have h:ac e (upd e s (.tup ((dA a).map V.str))):=ac.new hs;have M:upd e s (.tup ((dA a).map V.str)) s=some (.tup ((dA a).map V.str)):=aa;have H:(.tup [.str "ask",.str a]:HO)=.tup ((dA a).map V.str):=rfl;rw[H];generalize upd e s (.tup ((dA a).map V.str))=I at h M ⊢;have N:=D.kt (ac.kt h);refine⟨gP w.sg,gP (dA a),aM (be.of (h _ _ v)),aM (be.of M),by rw[b0];decide,by rw[b0];decide,_,rfl,?_⟩;rw[eP];by_cases A:w.sg=dA a;rotate_left
  ·rw[zzr0 A];refine bH (pA E ⟨g,rfl,?_,S.trans h,h _ _ n⟩);rw[gA j,if_neg (by unfold AF;rw[zzr0 A,xv];decide),dh];exact N
  rw[zzr1 A];refine cT ?_;have S3:ac m (upd I l (.lst (g.map V.ref++[.ref u]))):=fun b o q=>by
   rw[ag (ae q L)];exact h _ _ (S _ _ q)
  have kt:fj I (upd I l (.lst (g.map V.ref++[.ref u]))):=fun b xs q=>by
   rw[ag (fun z=>by rw[z,h _ _ n]at q;cases q)];exact q
  refine⟨_,rfl,h _ _ n,by rw[aj];exact ar (by omega),pA E ⟨g++[u],by rw[ap];rfl,?_,S3,aa⟩⟩;rw[gA j,if_pos (by unfold AF;rw[zzr1 x,zzr1 A];rfl)];exact cr (N.kt kt) ⟨sb,kt _ _ (h _ _ p),kt _ _ (h _ _ v)⟩
theorem GI{K:Za}{H:Hp}{l q:Addr}{e:Ze}{a:List ai}{Q:VK}(f:H l=some (.lst (e.map V.ref)))(g:cB H e a)(i:H q=some (.lst []))(h:Q (.bl (decide (a=[]))) H):lP K (.ref l) (.ref q) H Q:=by
 refine⟨.s (a.map pL),.s [],(by unfold lc;exact⟨l,_,rfl,ay.of f,g.dIns⟩),(by unfold lc;exact⟨q,_,rfl,ay.of i,by unfold DIns;rfl⟩),?_,(by decide),?_⟩
 ·show DT.depths _+1<=8;have:=n6 a;omega
 ·rw[decide_eq_decide.mpr (show DT.s (a.map pL)=DT.s []↔a=[]from⟨fun z=>List.map_eq_nil_iff.mp (by injection z),fun z=>by rw[z];rfl⟩)];exact h
theorem Reach.unask{ds:List ai}{d:ai}(n:d.sg≠am){a b:Str}(r:Reach (ds++[d]) a b):Reach ds a b:=by
 have f:∀{x y:Str},(⟨x,am,y⟩:ai)∈ds++[d]->(⟨x,am,y⟩:ai)∈ds:=fun q=>by
  rcases aX.mp q with q|q
  ·exact q
  ·have e:=bO.mp q;exact absurd (by rw[<-e]) n
 induction r with
 |one q=>exact .one (f q)
 |step _ q g=>exact .step g (f q)
theorem ik.mono{ds e:List ai}(h:∀d∈ds,d∈e){r a:Str}:ik ds r a->ik e r a:=fun⟨w,f,b,g⟩=>⟨w,f.imp id (Reach.mono fun x y=>h _),b,h _ g⟩
theorem mem_putD{a:List ai}{d x:ai}:x∈lQ a d↔x∈a∨x=d:=by
 unfold lQ;split
 ·rename_i h;exact⟨.inl,fun z=>z.elim id fun e=>by rw[e];exact h⟩
 ·simp
theorem aE.putOne{i j rooms:Zb}{f:List ai}{d:ai}(m:aE i j rooms f)(g:AL i j rooms d)(n:d.sg≠am)(z:f.length+1<=1000):aE i j rooms (lQ f d):=by
 refine⟨m.okA,m.okS,m.apart,m.okR,m.asks0,m.says0,m.rooms0,m.asks4,m.says4,m.rooms26,?_,fun x k=>?_,?_,fun r q=>?_⟩
 ·unfold lQ;split
  ·exact m.nodup
  ·rename_i h;rw[cJ];exact⟨m.nodup,by simp,fun a l b o e=>h (by rw[<-bO.1 o,<-e];exact l)⟩
 ·rcases mem_putD.mp k with h|h
  ·exact m.good x h
  ·rw[h];exact g
 ·have:=ui f d;omega
 ·refine m.noround r ?_;unfold lQ at q;split at q
  ·exact q
  ·exact q.unask n
theorem wK(a:Str):dA a≠am:=by unfold dA am;intro h;injection h with _ h;cases h
structure TX(H0:Hp)(p c l:Addr)(R:List ai->Prop)(H:Hp):Prop where
 pen:gW H p c
 ds:∃ts ds,H l=some (.lst (ts.map V.ref))/\cB H ts ds/\R ds
 ex:c9 p H0 H
 fr:H0 l=none
 pl:p≠l
 cl:c≠l
section
variable{H0 H H':Hp}{p c l:Addr}{R R':List ai->Prop}
theorem TX.took(h:TX H0 p c l R H)(a:gW H' p c)(e:c9 p H H'):TX H0 p c l R H':=by
 obtain⟨f,g,i,j,k⟩:=h.ds;obtain⟨n,m⟩:=h.pen.lst;exact⟨a,⟨f,g,e _ _ i h.pl.symm,j.kt (e.kt m),k⟩,h.ex.trans e,h.fr,h.pl,h.cl⟩
theorem TX.same(h:TX H0 p c l R H)(S:ac H H'):TX H0 p c l R H':=h.took (h.pen.ex S) (ac.exB S)
theorem TX.imp(h:TX H0 p c l R H)(q:∀a,R a->R' a):TX H0 p c l R' H:=by
 obtain⟨e,a,f,g,i⟩:=h.ds;exact⟨h.pen,⟨e,a,f,g,q _ i⟩,h.ex,h.fr,h.pl,h.cl⟩
theorem TX.put{a:Ze}{e:List ai}(h:TX H0 p c l R H)(g:∃f,H l=some (.lst f))(i:cB H a e)(r:R' e):TX H0 p c l R' (upd H l (.lst (a.map V.ref))):=by
 obtain⟨f,j⟩:=g;refine⟨h.pen.upd h.pl h.cl,⟨a,e,aa,i.kt fun b k q=>?_,r⟩,fun b o q n=>?_,h.fr,h.pl,h.cl⟩
 ·rw[ag (fun z=>by rw[z,j]at q;cases q)];exact q
 ·rw[ag (ae q h.fr)];exact h.ex _ _ q n
end
def WR(J0 J1 rooms:Zb)(D:List (Str×Str))(n:Nat)(ds:List ai):Prop:=aE J0 J1 rooms ds/\ds.length<=n/\∀x∈D,ik ds x.1 x.2
theorem WR.up{J0 a rooms:Zb}{D:List (Str×Str)}{n e:Nat}{f:List ai}(h:WR J0 a rooms D n f)(z:n<=e):WR J0 a rooms D e f:=⟨h.1,bB h.2.1 z,h.2.2⟩
inductive kq (vs:List V)(H:Hp)(Q:VK)(E:XK):Prop
 |mk (p c t l1 l2 l3 l4:Addr) (ts:Ze) (J0 J1 rooms:Zb) (ds:List ai):(vs=[.ref p,.ref t])->(gW H p c)->(iA H t l1 l2 l3 l4 ts J0 J1 rooms ds)->(aE J0 J1 rooms ds)->(rooms.length<=26)->(ds.length<=800)->(∀(t' l4':Addr) (ts':Ze) (ds':List ai) (H':Hp),iA H' t' l1 l2 l3 l4' ts' J0 J1 rooms ds'->aE J0 J1 rooms ds'->(∀r∈rooms,∀a∈J0,ik ds' r a)->ds'.length<=ds.length+4 * rooms.length->gW H' p c->c9 p H H'->Q (.ref t') H')->kq  vs H Q E
theorem Br{K:Za}{vs:List V}{H:Hp}{Q:VK}{E:XK}(h:kq vs H Q E):vd K kz fI (eR K) (bJ Q) (start vN vs) H:=by
 obtain⟨p,c,t,l1,l2,N,l4,ts,J0,O,rooms,ds,rfl,hp,T,m,b8,z8,k⟩:=h;have a4:=m.asks4;refine⟨_,rfl,t,_,rfl,be.of T.t,rfl,_,_,rfl,_,_,rfl,_,_,rfl,_,_,rfl,rfl,?_⟩;refine⟨_,rfl,.inl ⟨l4,_,rfl,.inl (ay.of T.a4),fun f hf=>?_⟩⟩;have B0:TX H p c f (WR J0 O rooms [] ds.length) (upd H f (.lst (ts.map V.ref))):=⟨hp.ex (ac.new hf),⟨ts,ds,aa,T.ds.kt (ac.kt (ac.new hf)),m,aG _,by simp⟩,c9.new hf,hf,hp.nep hf,hp.nec hf⟩;generalize upd H f (.lst (ts.map V.ref))=H1 at B0 ⊢;have A:∀{G:Hp}{R:List ai->Prop},TX H p c f R G->G l1=some (.lst (J0.map V.str))/\G l2=some (.lst (O.map V.str))/\G N=some (.lst (rooms.map V.str)):=fun B =>
  ⟨B.ex _ _ T.a1 (hp.ne_strs T.a1),B.ex _ _ T.a2 (hp.ne_strs T.a2),B.ex _ _ T.a3 (hp.ne_strs T.a3)⟩
 refine⟨_,rfl,N,rfl,⟨_,ay.of (A B0).2.2⟩,?_⟩
 let bf:Nat->L2.St->Hp->Prop:=fun i σ G=>J_ fun(a6 U Y a9:Option V)=>σ=[some (.ref p),some (.ref t),some (.ref l1),some (.ref l2),some (.ref N),some (.ref f),a6,U,Y,a9]/\TX H p c f (WR J0 O rooms ((rooms.take i).flatMap fun r=>J0.map fun a=>(r,a)) (ds.length+4 * i)) G
 refine bR (xs:=rooms.map V.str) bf
  ⟨_,_,_,_,rfl,B0⟩ (fun i σ G _ ⟨_,_,_,_,_,B⟩=>ay.of (A B).2.2) ?_ ?_
 ·rintro i v σ H2 hi ⟨a6,U,Y,a9,rfl,J⟩;obtain⟨r,hr,rfl⟩:=bv hi;have b9:i<rooms.length:=(bY.mp hr).1;have al:=aY hr;refine⟨_,rfl,l1,rfl,⟨_,ay.of (A J).1⟩,?_⟩
  let bi:Nat->L2.St->Hp->Prop:=fun j σ G=>IZ fun(U Y a9:Option V)=>σ=[some (.ref p),some (.ref t),some (.ref l1),some (.ref l2),some (.ref N),some (.ref f),some (.str r),U,Y,a9]/\TX H p c f (WR J0 O rooms ((rooms.take i).flatMap (fun r=>J0.map fun a=>(r,a))++(J0.take j).map fun a=>(r,a)) (ds.length+4 * i+j)) G
  refine bR (xs:=J0.map V.str) bi
   ⟨_,_,_,rfl,J.imp fun ds h=>by simpa using h⟩ (fun i σ G _ ⟨_,_,_,_,B⟩=>ay.of (A B).1) ?_ ?_
  ·rintro j v σ H3 hj ⟨U,Y,a9,rfl,B3⟩;obtain⟨a,ha,rfl⟩:=bv hj;have ca:j<J0.length:=(bY.mp ha).1;have bl:=aY ha;have an:∀C n,WR J0 O rooms ((rooms.take i).flatMap (fun r=>J0.map fun a=>(r,a))++(J0.take j).map fun a=>(r,a)) n C->ik C r a->WR J0 O rooms ((rooms.take i).flatMap (fun r=>J0.map fun a=>(r,a))++(J0.take (j+1)).map fun a=>(r,a)) n C:=fun C n w tk=>by
    refine⟨w.1,w.2.1,fun x hx=>?_⟩;rw[take_snoc ha,ap,<-cI]at hx;rcases aX.mp hx with h|h
    ·exact w.2.2 x h
    ·have:x=(r,a):=by simpa using h
     rw[this];exact tk
   refine⟨_,rfl,_,rfl,(by show 1<=ak;decide),fun q hq=>?_⟩;have B4:=B3.same (ac.new (o:=.lst [.str r]) hq);have q4:upd H3 q (.lst [.str r]) q=some (.lst [.str r]):=aa;generalize upd H3 q (.lst [.str r])=H4 at B4 q4 ⊢;obtain⟨us,C,g1,g2,D⟩:=B4.ds;refine⟨f,q,us,C,[r],rooms,rfl,g1,g2,q4,fun d hd=>(D.1.good d hd).b,by omega,(by show 1<=1000;decide),fun th F H5 bn hF _ _ S5=>?_⟩;have B5:=B4.same S5;have f5:=S5 _ _ g1;have d5:=g2.kt (ac.kt S5);refine⟨_,rfl,f,rfl,⟨_,ay.of f5⟩,fun l hl=>?_⟩;refine GV (K:=K) (jt:=8) (ja:=7) rfl rfl f5 d5 bn D.1.few hl fun vs H6 h6 D6 S6=>⟨(by show 0<=ak;decide),fun e he=>?_⟩;refine GI (kp h6 he) (D6.kt (ac.kt (ac.new he))) aa ⟨_,rfl,?_⟩;have S7:ac H5 (upd H6 e (.lst [])):=S6.trans (ac.new he);generalize upd H6 e (.lst [])=H7 at S7 ⊢;have f7:=S7 _ _ f5;have d7:=d5.kt (ac.kt S7);have B7:TX H p c f (fun as=>as=C) H7:=by
    have B:=B5.same S7;exact⟨B.pen,⟨us,C,f7,d7,rfl⟩,B.ex,B.fr,B.pl,B.cl⟩
   cases q:takesB C r a with
   |true =>
    rw[zzr0 (fun z=>by rw[AE hF,q]at z;cases z)];exact bH ⟨_,_,_,rfl,B7.imp fun as e=>by rw[e];exact an _ _ (D.up (by omega)) (lH.mp q)⟩
   |false =>
    rw[zzr1 ((AE hF).mpr q)];refine cT ?_;have bp:=(A B7).2.2;refine⟨_,rfl,_,rfl,_,rfl,_,rfl,.inl ⟨N,_,rfl,.inl (ay.of bp),?_⟩⟩;rw[aj];refine dR B7.pen (by omega) (by omega) fun x H8 x0 x1 b1 b2=>?_;obtain⟨n,rfl⟩:=jy x0;have B8:=B7.took b1 b2;obtain⟨w,hw⟩:∃w,rooms[n]?=some w:=⟨_,b_ (by omega)⟩;refine⟨N,_,(n:Int),.str w,rfl,rfl,ay.of (A B8).2.2,bc (j:=n) (by rw[cb,hw];rfl),(by show 2<=ak;decide),fun u hu=>?_⟩;have B9:=B8.same (ac.new (o:=.lst [.str r,.str w]) hu);have u9:upd H8 u (.lst [.str r,.str w]) u=some (.lst ([r,w].map V.str)):=aa;generalize upd H8 u (.lst [.str r,.str w])=H9 at B9 u9 ⊢;refine⟨_,rfl,dR B9.pen (by decide) (by decide) fun y I y0 y1 aC L=>?_⟩;have b3:=B9.took aC L;obtain⟨g,hg,b4⟩:∃g,pO ([r,w].map V.str) y=some (.str g)/\g∈rooms:=by
     have:y=0∨y=1:=by omega
     rcases this with rfl|rfl
     ·exact⟨r,rfl,al⟩
     ·exact⟨w,rfl,aY hw⟩
    refine⟨u,_,y,.str g,rfl,rfl,ay.of (L _ _ u9 (B9.pen.ne_strs u9)),hg,?_⟩;refine⟨_,rfl,_,rfl,_,rfl,(by show 2<=ak;decide),fun s hs=>⟨_,rfl,(by show 3<=ak;decide),fun d hd=>?_⟩⟩;have aF:ac I (upd (upd I s (.tup [.str "ask",.str a])) d (.tup [.str r,.ref s,.str g])):=(ac.new hs).trans (ac.new hd);have M:gX (upd (upd I s (.tup [.str "ask",.str a])) d (.tup [.str r,.ref s,.str g])) d ⟨r,dA a,g⟩:=⟨s,aa,kp aa hd⟩;generalize upd (upd I s (.tup [.str "ask",.str a])) d (.tup [.str r,.ref s,.str g])=cc at aF M ⊢;have a0:=b3.same aF;obtain⟨b5,b6,k1,k2,rfl⟩:=id a0.ds;have zz:=D.2.1;have a5:AL J0 O rooms ⟨r,dA a,g⟩:=⟨al,b4,.inl ⟨a,bl,rfl⟩⟩;refine⟨f,d,b5,_,⟨r,dA a,g⟩,rfl,k1,k2,M,D.1.few,fun cd D2=>?_⟩;refine⟨_,_,_,rfl,a0.put ⟨_,k1⟩ D2 (an _ _ ⟨D.1.putOne a5 (wK a) (by omega),?_,fun x hx=>(D.2.2 x hx).mono fun y hy=>mem_putD.mpr (.inl hy)⟩ ⟨r,.inl rfl,g,mem_putD.mpr (.inr rfl)⟩)⟩;have:=ui b6 ⟨r,dA a,g⟩;omega
  ·rintro σ H3 ⟨U,Y,a9,rfl,B3⟩;refine⟨_,_,_,_,rfl,B3.imp fun C h=>?_⟩;rw[aj]at h;refine⟨h.1,by have:=h.2.1;omega,fun x hx=>h.2.2 x ?_⟩;rw[take_snoc hr,wS]at hx;rw[bb];simpa using hx
 ·rintro σ H2 ⟨a6,U,Y,a9,rfl,J⟩;rw[aj,bb]at J;obtain⟨us,C,g1,g2,D⟩:=J.ds;obtain⟨q1,q2,q3⟩:=A J;refine⟨_,rfl,_,rfl,_,rfl,_,rfl,(by show 4<=ak;decide),fun t' b7=>?_⟩;have S3:=ac.new (o:=.tup [.ref l1,.ref l2,.ref N,.ref f]) b7;exact k t' f us C _ ⟨aa,S3 _ _ q1,S3 _ _ q2,S3 _ _ q3,S3 _ _ g1,g2.kt (ac.kt S3)⟩ D.1 (fun r hr a ha=>D.2.2 (r,a) (sP.mpr ⟨r,hr,av.mpr ⟨a,ha,rfl⟩⟩)) D.2.1 (J.pen.ex S3) (J.ex.trans (ac.exB S3))
abbrev Sg:=List Str
def stepsF(J0 J1 rooms:Zb)(ds:List ai)(face:Zb):List (Sg×List Str):=((aR J0 J1).map fun sg=>(sg,behF rooms ds face sg)).filter fun p=>decide (p.2≠[])
structure gQ where
 fs:List (List Str)
 ss:List (List Sg)
def gQ.add(m:gQ)(f:Zb)(s:List Sg):gQ:=if f∈m.fs then m else⟨m.fs++[f],m.ss++[s]⟩
def Df(s:List Sg)(q:gQ×List (Sg×Nat))(p:Sg×List Str):gQ×List (Sg×Nat):=(q.1.add p.2 (s++[p.1]),q.2++[(p.1,(q.1.add p.2 (s++[p.1])).fs.idxOf p.2)])
def eT(s:List Sg)(m:gQ)(L:List (Sg×List Str)):gQ×List (Sg×Nat):=L.foldl (Df s) (m,[])
abbrev qY:=gQ×List (List (Sg×Nat))
def initF(rooms:Zb)(ds:List ai):qY:=((⟨[],[]⟩:gQ).add (closF rooms ds (rooms.take 1)) [],[])
def nextF(J0 J1 rooms:Zb)(ds:List ai)(S:qY):qY :=
 ((eT (S.1.ss.getD S.2.length []) S.1 (stepsF J0 J1 rooms ds (S.1.fs.getD S.2.length []))).1,S.2++[(eT (S.1.ss.getD S.2.length []) S.1 (stepsF J0 J1 rooms ds (S.1.fs.getD S.2.length []))).2])
def itF(J0 J1 rooms:Zb)(ds:List ai):Nat->qY
 |0=>initF rooms ds
 |k+1=>nextF J0 J1 rooms ds (itF J0 J1 rooms ds k)
def m_:List Str->List (List Str)
 |[]=>[[]]
 |r::rs=>(m_ rs).map (r::·)++m_ rs
theorem qz:∀a:List Str,(m_ a).length=2 ^ a.length
 |[]=>rfl
 |r::a=>by
  show((m_ a).map (r::·)++m_ a).length=2 ^ (a.length+1);rw[au,aj,qz a,Nat.pow_succ];omega
theorem qy(p:Str->Bool):∀a:List Str,a.filter p∈m_ a
 |[]=>by show[]∈[[]];simp
 |r::a=>by
  show(r::a).filter p∈(m_ a).map (r::·)++m_ a;have e:=qy p a;rw[List.filter_cons];split
  ·exact cG _ (kb e)
  ·exact cQ _ e
theorem jY{α:Type}[DecidableEq α]:∀{L R:List α},L.Nodup->(∀y∈L,y∈R)->L.length<=R.length
 |[],_,_,_=>c_ _
 |x::L,R,h,a=>by
  rw[mY]at h;have f:x∈R:=a x cD;have i:∀y∈L,y∈R.erase x:=fun y g=>(List.mem_erase_of_ne (fun e=>h.1 (by rw[<-e];exact g))).2 (a y (d_ _ g));have j:=jY h.2 i;rw[List.length_erase_of_mem f]at j;have k:0<R.length:=List.length_pos_of_mem f;rw[fo];omega
def qW(rooms f:Zb):Prop:=∃p:Str->Bool,f=rooms.filter p
theorem HZ{rooms f a:Zb}{e:List ai}(h:qW rooms f):qW rooms (behF rooms e f a):=by
 classical
 unfold behF;split
 ·obtain⟨p,rfl⟩:=h;rw[List.filter_filter];exact⟨_,rfl⟩
 ·unfold closF;exact⟨_,rfl⟩
theorem EB{rooms:Zb}{a:List ai}{e:Zb}:qW rooms (closF rooms a e):=by
 classical
 unfold closF;exact⟨_,rfl⟩
theorem qW.sub{rooms f:Zb}(h:qW rooms f):∀r∈f,r∈rooms:=by
 obtain⟨p,rfl⟩:=h;exact fun r a=>(bP.1 a).1
theorem qW.len{rooms f:Zb}(h:qW rooms f):f.length<=rooms.length:=by
 obtain⟨p,rfl⟩:=h;exact eG _ _
structure Good(rooms:Zb)(m:gQ):Prop where
 nd:m.fs.Nodup
 len:m.ss.length=m.fs.length
 isF:∀f∈m.fs,qW rooms f
 sl:∀(i:Nat) (s:List Sg),m.ss[i]?=some s->s.length<=i
theorem Good.few{rooms:Zb}{m:gQ}(g:Good rooms m)(a:rooms.length<=8):m.fs.length<=256:=by
 have h:=jY g.nd (R:=m_ rooms) (fun f e=>by obtain⟨p,rfl⟩:=g.isF f e;exact qy p rooms);rw[qz]at h;have:2 ^ rooms.length<=2 ^ 8:=Nat.pow_le_pow_right (by decide) a;omega
theorem gQ.add_in{m:gQ}{f:Zb}{s:List Sg}(h:f∈m.fs):m.add f s=m:=if_pos h
theorem gQ.add_new{m:gQ}{f:Zb}{s:List Sg}(h:¬f∈m.fs):m.add f s=⟨m.fs++[f],m.ss++[s]⟩:=if_neg h
theorem Good.add{rooms f:Zb}{m:gQ}{s:List Sg}(g:Good rooms m)(h:qW rooms f)(l:s.length<=m.fs.length):Good rooms (m.add f s):=by
 by_cases c:f∈m.fs
 ·rw[gQ.add_in c];exact g
 ·rw[gQ.add_new c];refine⟨?_,?_,?_,?_⟩;rotate_left 3
  ·intro i a e
   change (m.ss++[s])[i]?=some a at e
   rcases fy i m.ss.length with z|z
   ·rw[dv z]at e;exact g.sl i a e
   ·rw[iu z]at e;have j:i-m.ss.length=0:=by
     rcases wR (i-m.ss.length)with q|q
     ·exact q
     ·rw[fO (by show 1<=_;omega)]at e;cases e
    rw[j]at e;injection e with e;rw[<-e];have:=g.len;omega
  ·rw[cJ];exact⟨g.nd,by simp,fun x hx y k e=>c (by rw[bO.1 k]at e;rw[<-e];exact hx)⟩
  ·show(m.ss++[s]).length=(m.fs++[f]).length;rw[au,au,g.len];rfl
  ·intro x hx;rcases aX.1 hx with hx|hx
   ·exact g.isF x hx
   ·rw[bO.1 hx];exact h
theorem Il{m:gQ}{f:Zb}{s:List Sg}:f∈(m.add f s).fs:=by
 by_cases c:f∈m.fs
 ·rw[gQ.add_in c];exact c
 ·rw[gQ.add_new c];simp
def pT(m m':gQ):Prop:=(∃r,m'.fs=m.fs++r)/\∃r,m'.ss=m.ss++r
theorem pT.refl(m:gQ):pT m m:=⟨⟨[],(dh _).symm⟩,⟨[],(dh _).symm⟩⟩
theorem pT.trans{a b c:gQ}(h:pT a b)(k:pT b c):pT a c:=by
 obtain⟨⟨r,e⟩,⟨s,f⟩⟩:=h;obtain⟨⟨g,i⟩,⟨j,l⟩⟩:=k;exact⟨⟨r++g,by rw[i,e,cI]⟩,⟨s++j,by rw[l,f,cI]⟩⟩
theorem Ao{m:gQ}{f:Zb}{s:List Sg}:pT m (m.add f s):=by
 by_cases c:f∈m.fs
 ·rw[gQ.add_in c];exact .refl _
 ·rw[gQ.add_new c];exact⟨⟨[f],rfl⟩,⟨[s],rfl⟩⟩
theorem jX(s:List Sg)(m:gQ)(L:List (Sg×List Str))(p:Sg×List Str):eT s m (L++[p])=Df s (eT s m L) p:=by
 unfold eT;rw[ip];rfl
theorem pT.at{m a:gQ}(h:pT m a){i:Nat}{f:Zb}(e:m.fs[i]?=some f):a.fs[i]?=some f:=by
 obtain⟨⟨r,q⟩,_⟩:=h;rw[q,dv (by rcases fy i m.fs.length with z|z;exact z;rw[fO z]at e;cases e),e]
theorem wb{rooms:Zb}{s:List Sg}{m:gQ}(g:Good rooms m)(w:s.length<m.fs.length)(L:List (Sg×List Str))(i:∀p∈L,qW rooms p.2):
  Good rooms (eT s m L).1/\pT m (eT s m L).1/\Paired (fun(a:Sg×Nat) (p:Sg×List Str)=>a.1=p.1/\(eT s m L).1.fs[a.2]?=some p.2) (eT s m L).2 L:=by
 have e:∀n,n<=L.length->Good rooms (eT s m (L.take n)).1/\pT m (eT s m (L.take n)).1/\Paired (fun(a:Sg×Nat) (p:Sg×List Str)=>a.1=p.1/\(eT s m (L.take n)).1.fs[a.2]?=some p.2) (eT s m (L.take n)).2 (L.take n):=by
  intro n
  induction n with
  |zero=>intro _;exact⟨g,.refl _,.nil⟩
  |succ n j =>
   intro x;obtain⟨k,h,l⟩:=j (by omega);have o:L[n]?=some L[n]:=b_ (by omega);rw[take_snoc o,jX];have t:=i L[n] (ka _);have y:m.fs.length<=(eT s m (L.take n)).1.fs.length:=by
    obtain⟨⟨r,q⟩,_⟩:=h;rw[q,au];omega
   refine⟨k.add t (by rw[au];show _+1<=_;omega),h.trans Ao,?_⟩;refine cr (Paired.mapP l fun a p r=>⟨r.1,Ao.at r.2⟩) ⟨rfl,?_⟩;show(gQ.add _ _ _).fs[(gQ.add _ _ _).fs.idxOf L[n].2]?=some L[n].2;have u:=Il (m:=(eT s m (L.take n)).1) (f:=L[n].2) (s:=s++[L[n].1]);have v:=List.idxOf_lt_length_of_mem u;rw[b_ v,List.getElem_idxOf]
 have:=e L.length (aG _);rw[bb]at this;exact this
structure qX(J0 J1 rooms:Zb)(ds:List ai)(S:qY):Prop where
 good:Good rooms S.1
 le:S.2.length<=S.1.fs.length
 zero:S.1.fs[0]?=some (closF rooms ds (rooms.take 1))
 st:∀(i:Nat) (l:List (Sg×Nat)),S.2[i]?=some l->∃f,S.1.fs[i]?=some f/\Paired (fun(a:Sg×Nat) (p:Sg×List Str)=>a.1=p.1/\S.1.fs[a.2]?=some p.2) l (stepsF J0 J1 rooms ds f)
theorem t6{J0 a rooms f:Zb}{e:List ai}(h:qW rooms f):∀p∈stepsF J0 a rooms e f,qW rooms p.2:=by
 intro p g;obtain⟨i,_,rfl⟩:=av.1 (bP.1 g).1;exact HZ h
theorem EI{g j rooms:Zb}{a:List ai}:qX g j rooms a (initF rooms a):=by
 have e:(⟨[],[]⟩:gQ).add (closF rooms a (rooms.take 1)) []=⟨[closF rooms a (rooms.take 1)],[[]]⟩:=gQ.add_new (by simp);refine⟨?_,c_ _,?_,fun i l h=>?_⟩
 ·exact Good.add (m:=⟨[],[]⟩) ⟨nE,rfl,(fun f k=>nomatch k),(fun i s (e:([]:List (List Sg))[i]?=some s)=>by rw[List.getElem?_nil]at e;cases e)⟩ EB (c_ _)
 ·show((⟨[],[]⟩:gQ).add _ _).fs[0]?=_;rw[e];rfl
 ·simp[initF]at h
theorem EH{n o rooms:Zb}{t:List ai}{S:qY}(h:qX n o rooms t S)(lt:S.2.length<S.1.fs.length):qX n o rooms t (nextF n o rooms t S):=by
 have w:S.1.fs[S.2.length]?=some S.1.fs[S.2.length]:=by simp[lt]
 have x:S.1.fs.getD S.2.length []=S.1.fs[S.2.length]:=by simp[lt]
 have y:=h.good.isF S.1.fs[S.2.length] (ka _);obtain⟨g,m,v⟩:=wb (s:=S.1.ss.getD S.2.length []) h.good (by
  have u:S.2.length<S.1.ss.length:=by rw[h.good.len];exact lt
  have e:S.1.ss[S.2.length]?=some (S.1.ss[S.2.length]'(u)):=b_ u;have:=h.good.sl _ _ e;rw[sO,e];show(S.1.ss[S.2.length]'(u)).length<_;omega) (stepsF n o rooms t S.1.fs[S.2.length]) (t6 y)
 unfold nextF;rw[x];generalize eT (S.1.ss.getD S.2.length []) S.1 (stepsF n o rooms t S.1.fs[S.2.length])=q at g m v;refine⟨g,?_,m.at h.zero,fun i l j=>?_⟩
 ·obtain⟨⟨r,e⟩,_⟩:=m;show(S.2++[q.2]).length<=q.1.fs.length;rw[e,au,au];show S.2.length+1<=_;omega
 ·change (S.2++[q.2])[i]?=some l at j
  rcases wU i S.2.length with c|c|c
  ·rw[dv c]at j;obtain⟨f,e,p⟩:=h.st i l j;exact⟨f,m.at e,Paired.mapP p fun a p r=>⟨r.1,m.at r.2⟩⟩
  ·subst c;rw[iu (aG _),nB]at j;injection j with j;subst j;exact⟨S.1.fs[S.2.length],m.at w,v⟩
  ·rw[iu (eK c)]at j;obtain⟨k,z⟩:=Nat.exists_eq_succ_of_ne_zero (show i-S.2.length≠0 by omega);rw[z]at j;cases j
def qk(K:Za)(C_Machine:Addr)(sp_Machine_asks:Sp)(sp_Machine_says:Sp)(a_HUSH:Addr):TS :=
 bm (aH r9 (aH r9 (dH 1 [] (cj K (cW C_Machine "asks" sp_Machine_asks [] E0 V0 bu)) U0 (k7) (bA (aU (tC (.str "ask")) V0))) (dH 1 [] (cj K (cW C_Machine "says" sp_Machine_says [] E0 V0 bu)) U0 (k7) (bA (aU (tC (.str "say")) V0)))) (dB (az (tC (.ref a_HUSH)))))
def qR:List Str:=["M"]
def A2(K:Za)(sp_signs_in_order:Sp)(sp_face_behind:Sp):TS :=
 ao (aK (qw) U2)
 (ao (eQ (cj K (aS sp_signs_in_order (az V0))) U3 (ao (aK (aS sp_face_behind (eo V0 V1 V3)) U4)
 (cg (aQ (aH Ek (eD (dS K) (az V4)) (tC (.int 0)))) (qD K V2 V3 V4) (bD))))
 (bm V2))
def Cp:List Str:=["M","face","steps","sign","behind"]
def mM(K:Za):TS :=
 ao (cg (tB (fG K V1 (gh K V0 "numbers"))) (ao (cg (aQ (aH zS (eD (dS K) (az (gh K V0 "faces"))) (tC (.int 400)))) (tQ) (bD))
 (ao (jT (gh K V0 "numbers") V1 (eD (dS K) (az (gh K V0 "faces"))))
 (ao (bG (qx K "list" ci (gh K V0 "faces") (az V1)))
 (bG (qx K "list" ci (gh K V0 "first_stories") (az V2)))))) (bD))
 (bm (gM K (gh K V0 "numbers") V1))
def mU:List Str:=["self","face","story"]
def jz(K:Za)(sp_steps_at:Sp)(C_FaceMap:Addr)(sp_FaceMap_number_at:Sp):TS :=
 ao (aK (qw) U2)
 (ao (eQ (yo K (aS sp_steps_at (aU (gh K V0 "machine") (aH (cS K) (gh K V0 "faces") V1)))) (jg K 2 (bj U3 (bj U4 (iM)))) (qD K V2 V3 (cW C_FaceMap "number_at" sp_FaceMap_number_at [] E0 V0 (aU V4 (aH r9 (aH (cS K) (gh K V0 "first_stories") V1) (dB (az V3)))))))
 (bm V2))
def jD:List Str:=["self","number","steps","sign","face"]
def nO(K:Za)(C_FaceMap:Addr)(sp_FaceMap_numbered_steps:Sp)(sp_FaceMap_number_at:Sp)(eE:Sp):TS :=
 ao (pb K V0 V1 "machine")
 (ao (pb K V0 (dB (bu)) "faces")
 (ao (pb K V0 (dB (bu)) "first_stories")
 (ao (pb K V0 (qw) "numbers")
 (ao (pb K V0 (dB (bu)) "steps")
 (ao (bG (cW C_FaceMap "number_at" sp_FaceMap_number_at [] E0 V0 (aU (aS eE (az V1)) (dB (bu)))))
 (km (aQ (aH Ei (eD (dS K) (az (gh K V0 "steps"))) (eD (dS K) (az (gh K V0 "faces"))))) (bG (qx K "list" ci (gh K V0 "steps") (aw (cW C_FaceMap "numbered_steps" sp_FaceMap_numbered_steps [] E0 V0 (az (eD (dS K) (az (gh K V0 "steps"))))) bu)))))))))
def ox:List Str:=["self","M"]
def Io(hu:Addr)(H:Hp)(u:Addr)(sg:Zb):Prop:=H u=some (.tup (sg.map V.str))∨(u=hu/\sg=aT)
theorem Io.same{a:Addr}{H e:Hp}{u:Addr}{f:Zb}(h:Io a H u f)(S:ac H e):Io a e u f:=h.imp (S _ _) id
theorem so{K:Za}{a:Addr}{e:List V}(h:∀H,be K H a e)(H:Hp):aW K H a e:=by
 rcases h (fun _=>none)with(h|⟨o,h⟩)|h
 ·cases h
 ·cases h
 ·exact .inr h
section
variable{K:Za}{hu:Addr}(hh:∀H,be K H hu (aT.map V.str))
include hh
theorem Io.tup{H:Hp}{u:Addr}{a:Zb}(h:Io hu H u a):aW K H u (a.map V.str):=by
 rcases h with h|⟨rfl,rfl⟩
 ·exact .inl h
 ·exact so hh H
theorem Io.sq{H:Hp}{u:Addr}{a:Zb}(h:Io hu H u a):be K H u (a.map V.str):=by
 rcases h with h|⟨rfl,rfl⟩
 ·exact be.of h
 ·exact hh H
end
inductive xS(C hu:Addr)(vs:List V)(H:Hp)(Q:VK)(E:XK):Prop
 |mk (x:Addr) (J0 J1 rooms:Zb) (ds:List ai):(vs=[.ref x])->(bt C H x J0 J1 rooms ds)->(∀(l:Addr) (us:Ze) (H':Hp),H' l=some (.lst (us.map V.ref))->Paired (Io hu H') us (aR J0 J1)->ac H H'->Q (.ref l) H')->xS C hu vs H Q E
theorem Jc{K:Za}{C g:Addr}{D:List V}{H:Hp}{Q:VK}{E:XK}(h:xS C g D H Q E):qk K C (mz C) (oZ C) g (bJ Q) (start qR D) H:=by
 obtain⟨x,l,m,rooms,G,rfl,M,k⟩:=h;have z1:=M.ok.asks4;have z2:=M.ok.says4;obtain⟨n,fs,T,U,Y,p,q,a1,a2,_⟩:=nT M;refine⟨_,rfl,x,n,fs,rfl,q,a1,x,l,m,rooms,G,rfl,M,fun I s=>⟨I,rfl,⟨_,ay.of aa⟩,fun la t=>?_⟩⟩;have J:ac H (upd H I (.lst (l.map V.str))):=ac.new s;refine kI (kd:="ask") (ws:=l) aa (by omega) t fun u L h1 a N=>?_;have M1:=M.same (J.trans N);obtain⟨n,fs,T,U,Y,p,q,a1,a2,_⟩:=nT M1;refine⟨_,rfl,x,n,fs,rfl,q,a2,x,l,m,rooms,G,rfl,M1,fun O v=>⟨O,rfl,⟨_,ay.of aa⟩,fun ls w=>?_⟩⟩;have S2:ac L (upd L O (.lst (m.map V.str))):=ac.new v;refine kI (kd:="say") (ws:=m) aa (by omega) w fun y H2 h2 e S3=>?_;have f:=S2.trans S3;have z:=f _ _ h1;have i:=j8.kt (ac.kt f) a;refine⟨la,ls,_,_,rfl,rfl,z,h2,?_,fun c1 A=>?_⟩
 ·rw[aj,aj,Paired.length a,Paired.length e,aj,aj];exact eK (ar (by omega))
 refine⟨(by show 1<=ak;decide),fun hl j=>?_⟩;refine⟨c1,hl,_,_,rfl,rfl,kp aa j,aa,?_,fun r hr=>?_⟩
 ·rw[au,aj,aj,Paired.length a,Paired.length e,aj,aj];exact eK (ar (by show _+1<=1000;omega))
 have B:=((ac.new (o:=.lst (u.map V.ref++y.map V.ref)) A).trans (ac.new (o:=.lst [.ref g]) j)).trans (ac.new (o:=.lst (u.map V.ref++y.map V.ref++[.ref g])) hr);refine k r (u++y++[g]) _ ?_ ?_ (((J.trans N).trans f).trans B)
 ·rw[aa,ap,ap];rfl
 ·exact Paired.app (Paired.app (Paired.mapP (j8.kt (ac.kt B) i) fun _ _ r=>.inl r) (Paired.mapP (j8.kt (ac.kt B) e) fun _ _ r=>.inl r)) (.cons (.inr ⟨rfl,rfl⟩) .nil)
theorem jd{i j rooms:Zb}{n:List ai}(m:aE i j rooms n):(aR i j).Nodup:=by
 unfold aR;have o:∀a b:Str,dA a=dA b->a=b:=fun a b h=>by unfold dA at h;injection h with _ h;injection h
 have p:∀a b:Str,o_ a=o_ b->a=b:=fun a b h=>by unfold o_ at h;injection h with _ h;injection h
 have k:∀{f:Str->List Str}{l:Zb},(∀a b,f a=f b->a=b)->l.Nodup->(l.map f).Nodup:=by
  intro f l q r;rw[p7,List.pairwise_map];exact(p7.1 r).imp fun h e=>h (q _ _ e)
 rw[cJ,cJ];refine⟨⟨k o m.okA.1,k p m.okS.1,?_⟩,by simp,?_⟩
 ·intro x hx y g e;obtain⟨a,_,rfl⟩:=av.1 hx;obtain⟨b,_,rfl⟩:=av.1 g;unfold dA o_ at e;injection e with e _;exact absurd e (by decide)
 ·intro x hx y g e;rw[bO.1 g]at e;rcases aX.1 hx with hx|hx
  ·obtain⟨a,_,rfl⟩:=av.1 hx;unfold dA aT at e;injection e with _ e;cases e
  ·obtain⟨a,_,rfl⟩:=av.1 hx;unfold o_ aT at e;injection e with _ e;cases e
abbrev Ci(H:Hp)(kvs:List (TK×V))(L:List (Sg×List Str)):Prop:=Paired (fun(kv:TK×V) (p:Sg×List Str)=>kv.1=jL p.1/\∃u,kv.2=.ref u/\H u=some (.tup (p.2.map V.str))) kvs L
theorem xA{κ:Type}[DecidableEq κ]{a:List (κ×V)}{k:κ}(h:∀e∈a,e.1≠k):bM a k=none:=by
 unfold bM;rw[List.find?_eq_none.2 fun e f=>by simpa using h e f]
 rfl
theorem eF(e:Zb):(jL e).depth<=8:=by
 have:∀l:List Str,TK.depths (l.map nh)=0:=by
  intro l
  induction l with
  |nil=>rfl
  |cons a l f=>show max (TK.depth (nh a)) (TK.depths _)=0;rw[f];rfl
 show TK.depths (e.map nh)+1<=8;rw[this];decide
def stG(rooms:Zb)(ds:List ai)(face:Zb)(L:List (List Str)):List (Sg×List Str):=(L.map fun sg=>(sg,behF rooms ds face sg)).filter fun p=>decide (p.2≠[])
theorem zG(rooms:Zb)(a:List ai)(face:Zb)(L:List (List Str))(e:Zb):stG rooms a face (L++[e])=stG rooms a face L++if behF rooms a face e=[]then[]else[(e,behF rooms a face e)]:=by
 unfold stG;rw[ap,nA];congr 1;by_cases c:behF rooms a face e=[]
 ·rw[if_pos c];simp[c]
 ·rw[if_neg c];simp[c]
theorem Hu{rooms:Zb}{a:List ai}{face:Zb}{L:List (List Str)}{p:Sg×List Str}(h:p∈stG rooms a face L):p.1∈L:=by
 obtain⟨f,e,rfl⟩:=av.1 (bP.1 h).1;exact e
theorem C0{rooms:Zb}{ds:List ai}{face:Zb}{L:List (List Str)}:(stG rooms ds face L).length<=L.length:=by
 unfold stG;exact bB (eG _ _) (by rw[aj];exact aG _)
theorem Ci.kt{H H':Hp}{a:List (TK×V)}{L:List (Sg×List Str)}(k:fj H H')(h:Ci H a L):Ci H' a L:=Paired.mapP h fun _ _ ⟨e,u,f,r⟩=>⟨e,u,f,k _ _ r⟩
theorem Ci.no{H:Hp}{f:List (TK×V)}{L:List (Sg×List Str)}(h:Ci H f L){g:Sg}(n:∀p∈L,p.1≠g):bM f (jL g)=none:=by
 refine xA ?_
 induction h with
 |nil=>intro i hk;exact nomatch hk
 |@cons a b l bs r t j =>
  intro i hk;rcases df.1 hk with rfl|hk
  ·rw[r.1];exact fun e=>n b cD (mH e)
  ·exact j (fun p k=>n p (d_ _ k)) i hk
theorem pD{α:Type}{L:List α}(g:L.Nodup){i:Nat}{x:α}(e:L[i]?=some x):¬x∈L.take i:=by
 intro h;obtain⟨j,k,a⟩:=wQ h;rw[aN]at k;have f:i<L.length:=by rcases fy i L.length with z|z;exact z;rw[fO z]at e;cases e
 rw[List.getElem_take]at a;rw[b_ f]at e;injection e with e;exact List.pairwise_iff_getElem.1 (p7.1 g) j i (by omega) f (by omega) (a.trans e.symm)
theorem Fb{H:Hp}{d:Addr}{a:List (TK×V)}{o:HO}(h:H d=some (.dT a)):fj H (upd H d o):=fun b f e=>by rw[ag (fun z=>by rw[z,h]at e;cases e)];exact e
theorem ED{b:Bool}{P X Y:Prop}(h:b=true↔P)(a:P->X)(e:¬P->Y):if b=true then X else Y:=by
 cases b with
 |true=>exact a (h.1 rfl)
 |false=>exact e fun z=>by cases h.2 z
inductive ky(C:Addr)(vs:List V)(H:Hp)(Q:VK)(E:XK):Prop
 |mk (x t:Addr) (face J0 J1 rooms:Zb) (ds:List ai):(vs=[.ref x,.ref t])->(bt C H x J0 J1 rooms ds)->(H t=some (.tup (face.map V.str)))->((∀r∈face,r∈rooms))->(face.length<=1000)->(∀(d:Addr) (kvs:List (TK×V)) (H':Hp),H' d=some (.dT kvs)->Ci H' kvs (stepsF J0 J1 rooms ds face)->H d=none->ac H H'->Q (.ref d) H')->ky C vs H Q E
theorem Bu{K:Za}{C T:Addr}(hh:∀H,be K H T (aT.map V.str)){vs:List V}{H:Hp}{Q:VK}{E:XK}(h:ky C vs H Q E):A2 K (xS C T) (sy K C) (bJ Q) (start Cp vs) H:=by
 obtain⟨x,t,face,w,A,rooms,ds,rfl,M,ht,B,hz,k⟩:=h;have z1:=M.ok.asks4;have z2:=M.ok.says4;have zl:(aR w A).length<=9:=by unfold aR;rw[au,au,aj,aj];show _+1<=9;omega
 have nd:=jd M.ok;refine fun d U=>?_;have S0:ac H (upd H d (.dT [])):=ac.new U;refine⟨_,rfl,x,w,A,rooms,ds,rfl,M.same S0,fun l us H1 Y hP N=>⟨l,rfl,⟨_,ay.of Y⟩,?_⟩⟩
 let al:Nat->L2.St->Hp->Prop:=fun i σ D=>IZ fun(g:List (TK×V)) (x3 x4:Option V)=>GZ (σ=[some (.ref x),some (.ref t),some (.ref d),x3,x4]) (D d=some (.dT g)) (ac H D) ((∀b o,H1 b=some o->b≠d->D b=some o)) (Ci D g (stG rooms ds face ((aR w A).take i)))
 refine bR (xs:=us.map V.ref) al
  ⟨[],_,_,rfl,N _ _ aa,S0.trans N,fun _ _ e _=>e,.nil⟩ (fun i σ D _ ⟨_,_,_,_,_,_,S,_⟩=>ay.of (S _ _ Y fun e=>by subst e;have:=N _ _ (aa (H:=H) (a:=l) (o:=.dT []));rw[Y]at this;cases this)) ?_ ?_
 ·rintro i y σ H2 hi ⟨g,x3,x4,rfl,h2,s,G,st⟩;obtain⟨u,an,rfl⟩:=cM hi;obtain⟨m,q,as⟩:=Paired.getL hP an;have j:Io T H2 u m:=as.imp (fun e=>G _ _ e fun z=>by subst z;have:=N _ _ (aa (H:=H) (a:=u) (o:=.dT []));rw[e]at this;cases this) id;refine⟨_,rfl,_,rfl,_,rfl,x,t,u,face,m,w,A,rooms,ds,rfl,M.same s,s _ _ ht,j.sq hh,j.symm.imp (fun e=>e.2) id,B,hz,fun f H3 hf v=>?_⟩;have h3:=v _ _ h2;refine⟨_,rfl,.inl ⟨f,_,rfl,.inr (be.of hf),_,_,rfl,rfl,?_⟩⟩;refine⟨_,rfl,?_⟩;have I:=j.same v;have J:∀b o,H1 b=some o->b≠d->H3 b=some o:=fun b o e n=>v _ _ (G b o e n);have r:=st.kt (ac.kt v);refine ED (P:=behF rooms ds face m≠[]) ?_ (fun c=>?_) (fun c=>?_)
  ·rw[aj];constructor
   ·intro h z;rw[z]at h;exact absurd h (by decide)
   ·intro h;exact zzr1 (by have:=List.length_pos_iff.mpr h;omega)
  rotate_left
  ·have c:=Classical.not_not.1 c;refine⟨g,_,_,rfl,h3,s.trans v,J,?_⟩;rw[take_snoc q,zG,if_pos c,dh];exact r
  ·have no:bM g (jL m)=none:=r.no fun p hp e=>by
    have O:=Hu hp;rw[e]at O;exact pD nd q O
   have ll:g.length<ak:=by
    rw[Paired.length st];refine ar ?_;have O:=C0 (rooms:=rooms) (ds:=ds) (face:=face) (L:=(aR w A).take i);rw[aN]at O;omega
   refine⟨_,rfl,_,rfl,_,rfl,d,u,g,jL m,rfl,rfl,h3,y6 (I.tup hh),eF m,ll,_,_,_,rfl,aa,?_,?_,?_⟩
   ·intro b o e;rw[ag (ae e U)];exact v _ _ (s _ _ e)
   ·intro b o e n;rw[ag n];exact J b o e n
   ·rw[gp _ no,take_snoc q,zG,if_neg c];have kt:fj H3 (upd H3 d (.dT (g++[(jL m,.ref f)]))):=Fb h3;exact cr (r.kt kt) ⟨rfl,f,rfl,kt _ _ hf⟩
 ·rintro σ H2 ⟨g,x3,x4,rfl,h2,s,_,st⟩;rw[aj,Paired.length hP,bb]at st;exact⟨_,rfl,k d g H2 h2 st U s⟩
def pB:Nat->List (List Str)->List (TK×V)
 |_,[]=>[]
 |n,f::r=>(jL f,.int (n:Nat))::pB (n+1) r
theorem wc(f:Zb):∀(fs:List (List Str)) (n:Nat),pB n (fs++[f])=pB n fs++[(jL f,.int ((n+fs.length:Nat)))]
 |[],n=>rfl
 |x::r,n=>by
  show _::pB (n+1) (r++[f])=_::(pB (n+1) r++_);rw[wc f r (n+1),fo,show n+1+r.length=n+(r.length+1) by omega]
theorem z0:∀(fs:List (List Str)) (n:Nat),(pB n fs).length=fs.length
 |[],n=>rfl
 |x::r,n=>by show _+1=_+1;rw[z0 r (n+1)]
theorem lT(f:Zb):∀(fs:List (List Str)) (n:Nat),bM (pB n fs) (jL f)=if f∈fs then some (.int ((n+fs.idxOf f:Nat)))else none
 |[],n=>rfl
 |x::r,n=>by
  by_cases c:x=f
  ·subst c;rw[if_pos cD];show bM ((jL x,_)::_) _=_;rw[cL rfl];rw[List.idxOf_cons_self];rfl
  ·show bM ((jL x,_)::_) _=_;rw[cE (fun e=>c (mH e)),lT f r (n+1)];by_cases d:f∈r
   ·rw[if_pos d,if_pos (d_ _ d)];have e:(x::r).idxOf f=r.idxOf f+1:=by rw[List.idxOf_cons,show(x==f)=false from beq_false_of_ne c];rfl
    rw[e,show n+1+r.idxOf f=n+(r.idxOf f+1) by omega]
   ·rw[if_neg d,if_neg (by simp[dF c,d])]
abbrev fM(K:Za)(H:Hp)(w:Addr)(s:List Sg):Prop:=∃gs:List Addr,H w=some (.lst (gs.map V.ref))/\Paired (fun g (sg:Sg)=>aW K H g (sg.map V.str)) gs s
structure FC(K:Za)(C:Addr):Prop where
 cls:DF K C
 a1:dZ K C "machine"
 a2:dZ K C "faces"
 a3:dZ K C "first_stories"
 a4:dZ K C "numbers"
 a5:dZ K C "steps"
def Kg(C:Addr)(H:Hp)(x M fa sa na ta:Addr):Prop:=∃(dx:Addr) (fs:List (Str×V)),H x=some (.ins C dx fs)/\lk "machine" fs=some (.ref M)/\lk "faces" fs=some (.ref fa)/\lk "first_stories" fs=some (.ref sa)/\lk "numbers" fs=some (.ref na)/\lk "steps" fs=some (.ref ta)/\lk "number_at" fs=none/\lk "numbered_steps" fs=none
structure im(K:Za)(C:Addr)(H:Hp)(x M fa sa na ta:Addr)(us ws:Ze)(m:gQ):Prop where
 ob:Kg C H x M fa sa na ta
 hfa:H fa=some (.lst (us.map V.ref))
 faces:Paired (fun u (f:Zb)=>H u=some (.tup (f.map V.str))) us m.fs
 hsa:H sa=some (.lst (ws.map V.ref))
 stories:Paired (fun w s=>(w≠fa/\w≠sa/\w≠ta)/\fM K H w s) ws m.ss
 hna:H na=some (.dT (pB 0 m.fs))
 ne:fa≠sa/\fa≠ta/\sa≠ta
theorem aW.kt{K:Za}{H e:Hp}{a:Addr}{f:List V}(k:fj H e)(h:aW K H a f):aW K e a f:=h.keeps k
theorem fM.kt{K:Za}{H a:Hp}{w:Addr}{s:List Sg}(k:fj H a)(e:∀o,H w=some o->a w=some o)(h:fM K H w s):fM K a w s:=by
 obtain⟨f,g,i⟩:=h;exact⟨f,e _ g,Paired.mapP i fun _ _ r=>aW.kt k r⟩
def JE(fa sa na:Addr)(H H':Hp):Prop:=∀b o,H b=some o->b≠fa->b≠sa->b≠na->H' b=some o
theorem JE.refl(a f g:Addr)(H:Hp):JE a f g H H:=fun _ _ e _ _ _=>e
theorem im.same{K:Za}{C x M fa a f i:Addr}{j k:Ze}{m:gQ}{H l:Hp}(h:im K C H x M fa a f i j k m)(S:ac H l):im K C l x M fa a f i j k m:=by
 obtain⟨⟨n,fs,g,r⟩,p,q,s,t,u,v⟩:=h;exact⟨⟨n,fs,S _ _ g,r⟩,S _ _ p,Paired.mapP q fun _ _ r=>S _ _ r,S _ _ s,Paired.mapP t fun _ _ r=>⟨r.1,r.2.kt (ac.kt S) fun o e=>S _ _ e⟩,S _ _ u,v⟩
theorem im.move{K:Za}{C x M fa p e q:Addr}{t u:Ze}{m:gQ}{H:Hp}{d:Addr}{o:HO}{f:List (TK×V)}(h:im K C H x M fa p e q t u m)(a:H d=some (.dT f))(n:d≠e):im K C (upd H d o) x M fa p e q t u m:=by
 have k:fj H (upd H d o):=Fb a;obtain⟨⟨v,fs,g,r⟩,i,y,j,A,B,D⟩:=h;refine⟨⟨v,fs,by rw[ag (fun z=>by rw[z,a]at g;cases g)];exact g,r⟩,by rw[ag (fun z=>by rw[z,a]at i;cases i)];exact i,Paired.mapP y fun _ _ r=>k _ _ r,by rw[ag (fun z=>by rw[z,a]at j;cases j)];exact j,Paired.mapP A fun w s r=>⟨r.1,?_⟩,by rw[ag n.symm];exact B,D⟩;obtain⟨E,l,G⟩:=r.2;exact⟨E,by rw[ag (fun z=>by rw[z,a]at l;cases l)];exact l,Paired.mapP G fun _ _ r=>aW.kt k r⟩
inductive lL(K:Za)(C:Addr)(vs:List V)(H:Hp)(Q:VK)(E:XK):Prop
 |mk (x M fa sa na ta u st:Addr) (us ws:Ze) (m:gQ) (face:Zb) (story:List Sg):(vs=[.ref x,.ref u,.ref st])->(im K C H x M fa sa na ta us ws m)->(H u=some (.tup (face.map V.str)))->(fM K H st story)->((st≠fa/\st≠sa/\st≠ta))->(m.fs.length<400)->(m.ss.length<400)->(∀(us' ws':Ze) (H':Hp),im K C H' x M fa sa na ta us' ws' (m.add face story)->JE fa sa na H H'->Q (.int (((m.add face story).fs.idxOf face:Nat))) H')->lL K C vs H Q E
theorem FH{K:Za}{C:Addr}(c:FC K C){vs:List V}{H:Hp}{Q:VK}{E:XK}(h:lL K C vs H Q E):mM K (bJ Q) (start mU vs) H:=by
 obtain⟨x,M,fa,p,f,ta,u,st,G,A,m,face,a,rfl,F,hu,as,ns,z1,z2,k⟩:=h;obtain⟨j,fs,g,l1,l2,l3,I,l5,l6,l7⟩:=F.ob;have tk:jC K H (jL face) (.ref u):=dJ.isIn 8 (eF face) (SignAt.tk hu);have g1:kM K H f (.ref u) (bM (pB 0 m.fs) (jL face)):=.inr ⟨_,_,_,.inl F.hna,rfl,tk,eF face,rfl⟩;refine⟨_,rfl,_,rfl,x,C,j,fs,.ref f,rfl,g,c.cls,c.a4,I,f,_,rfl,g1,_,rfl,?_⟩;rw[lT];refine ED (P:=¬face∈m.fs) (by by_cases c:face∈m.fs<;>simp[c]) (fun v=>?_) (fun v=>?_);rotate_left
 ·have y:=Classical.not_not.1 v;have e:=gQ.add_in (s:=a) y;refine⟨_,rfl,x,C,j,fs,.ref f,rfl,g,c.cls,c.a4,I,_,rfl,f,.int ((m.fs.idxOf face:Nat)),rfl,?_,?_⟩
  ·rw[lT,if_pos y,wP]at g1;exact g1
  ·have:=k G A H (by rw[e];exact F) (.refl _ _ _ _);rw[e]at this;exact this
 have e:=gQ.add_new (s:=a) v;have zl:(G.map V.ref).length=m.fs.length:=by rw[aj,Paired.length F.faces]
 have zs:(A.map V.ref).length=m.ss.length:=by rw[aj,Paired.length F.stories]
 refine⟨_,rfl,x,C,j,fs,.ref fa,rfl,g,c.cls,c.a2,l2,.inl ⟨fa,_,rfl,.inl (ay.of F.hfa),rfl,_,rfl,?_⟩⟩;refine ED (P:=False) (by rw[zl];simp;omega) (fun z=>z.elim) fun _=>?_;have aC:dJ H (jL face) (.ref u):=SignAt.tk hu;refine⟨_,rfl,x,C,j,fs,.ref fa,rfl,g,c.cls,c.a2,l2,.inl ⟨fa,_,rfl,.inl (ay.of F.hfa),_,rfl,x,C,j,fs,.ref f,rfl,g,c.cls,c.a4,I,_,rfl,f,_,rfl,.inr ⟨_,_,u,F.hna,rfl,aC,eF face,?_,rfl⟩,?_⟩⟩
 ·rw[z0];exact ar (by omega)
 rw[gp _ (by rw[lT,if_neg v]),zl];have e1:pB 0 m.fs++[(jL face,V.int (m.fs.length:Nat))]=pB 0 (m.fs++[face]):=by rw[wc,wP]
 rw[e1];have J:fj H (upd H f (.dT (pB 0 (m.fs++[face])))):=Fb F.hna;generalize q:upd H f (.dT (pB 0 (m.fs++[face])))=L at J ⊢;have nx:x≠f:=fun z=>by rw[z,F.hna]at g;cases g
 have N:x≠fa:=fun z=>by rw[z,F.hfa]at g;cases g
 have aF:x≠p:=fun z=>by rw[z,F.hsa]at g;cases g
 have O:fa≠f:=fun z=>by have:=F.hfa;rw[z,F.hna]at this;cases this
 have T:p≠f:=fun z=>by have:=F.hsa;rw[z,F.hna]at this;cases this
 have B:L fa=some (.lst (G.map V.ref)):=by rw[<-q,ag O];exact F.hfa
 have a0:L p=some (.lst (A.map V.ref)):=by rw[<-q,ag T];exact F.hsa
 have U:L x=some (.ins C j fs):=by rw[<-q,ag nx];exact g
 refine⟨_,rfl,x,C,j,fs,.ref fa,rfl,U,c.cls,c.a2,l2,.inl ⟨rfl,_,ay.of B⟩,_,rfl,fa,_,.ref u,rfl,rfl,B,?_,?_⟩
 ·rw[zl];exact ar (by omega)
 generalize i:upd L fa (.lst (G.map V.ref++[.ref u]))=Y;have k2:fj L Y:=by rw[<-i];exact bW B
 have D:Y p=some (.lst (A.map V.ref)):=by rw[<-i,ag F.ne.1.symm];exact a0
 have g2:Y x=some (.ins C j fs):=by rw[<-i,ag N];exact U
 refine⟨_,rfl,x,C,j,fs,.ref p,rfl,g2,c.cls,c.a3,l3,.inl ⟨rfl,_,ay.of D⟩,_,rfl,p,_,.ref st,rfl,rfl,D,?_,?_⟩
 ·rw[zs];exact ar (by omega)
 generalize t:upd Y p (.lst (A.map V.ref++[.ref st]))=l;have k3:fj Y l:=by rw[<-t];exact bW D
 have kt:fj H l:=(J.trans k2).trans k3;have ex:JE fa p f H l:=fun b o e n1 n2 n3=>by rw[<-t,ag n2,<-i,ag n1,<-q,ag n3];exact e
 have g3:l x=some (.ins C j fs):=ex _ _ g N aF nx;have al:l f=some (.dT (pB 0 (m.fs++[face]))):=by rw[<-t,ag T.symm,<-i,ag O.symm,<-q,aa]
 have a5:l fa=some (.lst ((G++[u]).map V.ref)):=by rw[<-t,ag F.ne.1,<-i,aa,ap];rfl
 have a6:l p=some (.lst ((A++[st]).map V.ref)):=by rw[<-t,aa,ap];rfl
 have an:∀{w:Addr}{s:List Sg},(w≠fa/\w≠p/\w≠ta)->fM K H w s->fM K l w s:=fun n r=>by
  obtain⟨gs,q1,q2⟩:=r;exact⟨gs,ex _ _ q1 n.1 n.2.1 (fun z=>by rw[z,F.hna]at q1;cases q1),Paired.mapP q2 fun _ _ r=>aW.kt kt r⟩
 have F3:im K C l x M fa p f ta (G++[u]) (A++[st]) (m.add face a):=by
  rw[e];exact⟨⟨j,fs,g3,l1,l2,l3,I,l5,l6,l7⟩,a5,cr (Paired.mapP F.faces fun _ _ r=>kt _ _ r) (kt _ _ hu),a6,cr (Paired.mapP F.stories fun _ _ r=>⟨r.1,an r.1 r.2⟩) ⟨ns,an ns as⟩,al,F.ne⟩
 have a7:jC K l (jL face) (.ref u):=dJ.isIn 8 (eF face) (SignAt.tk (kt _ _ hu));have y:face∈m.fs++[face]:=by simp
 have g5:kM K l f (.ref u) (some (.int ((m.add face a).fs.idxOf face:Nat))):=by
  refine .inr ⟨_,jL face,u,.inl al,rfl,a7,eF face,?_⟩;rw[lT,if_pos y,wP,e]
 exact⟨_,rfl,x,C,j,fs,.ref f,rfl,g3,c.cls,c.a4,I,_,rfl,f,_,rfl,g5,k _ _ l F3 ex⟩
theorem ww{d:Addr}{o:Obj}{u:HO}{n:Nat}{f:Nat->Hp->V->V->Prop}{g:TG}{k:TS}{D:mj}{σ:L2.St}{H:Hp}(Pv:Nat->L2.St->Hp->Prop)(r:Pv 0 σ H)(s:∀i σ H,i<=n->Pv i σ H->H d=some (.frz o u))
  (v:∀i σ H p a b,i<n->Pv i σ H->H p=none->f i H a b->g (.ref p) σ (upd H p (.tup [a,b])) fun σ2 j=>k { D with nx:=Pv (i+1),ct:=Pv (i+1),bk:=D.nx } σ2 j) (w:∀σ H,Pv n σ H->D.nx σ H) :
  ∃W:Nat->Nat->L2.St->Hp->Prop,(∃m,W 0 m σ H)/\∀i m σ H,W i m σ H ->
   ((Ix d o u n f).stop i H/\D.nx σ H)∨((Ix d o u n f).go i H/\∃N:L2.St->Hp->Prop,(∀σ' h,N σ' h->∃l,l<m/\W (i+1) l σ' h)/\∀x h,(Ix d o u n f).yld i H x h->g x σ h fun σ2 j=>k { D with nx:=N,ct:=N,bk:=D.nx } σ2 j):=by
 refine⟨fun i m σ H=>m=n-i/\i<=n/\Pv i σ H,⟨n,by simp,c_ _,r⟩,?_⟩;rintro i m σ H ⟨rfl,z,p⟩;have q:=s i σ H z p;by_cases lt:i<n
 ·refine .inr ⟨⟨q,lt⟩,Pv (i+1),fun σ' h A=>⟨n-(i+1),by omega,rfl,lt,A⟩,fun x h y=>?_⟩;obtain⟨t,a,b,B,rfl,C,rfl⟩:=y;exact v i σ H t a b lt p B C
 ·have e:i=n:=by omega
  subst e;exact .inl ⟨⟨q,aG _⟩,w σ H p⟩
def stK(l:List (Sg×Nat)):List (TK×V):=l.map fun a=>(jL a.1,.int (a.2:Nat))
def EY(L:Ze)(H H':Hp):Prop:=∀b o,H b=some o->b∉L->H' b=some o
theorem EY.refl(L:Ze)(H:Hp):EY L H H:=fun _ _ e _=>e
theorem EY.trans{L:Ze}{H f g:Hp}(a:EY L H f)(b:EY L f g):EY L H g:=fun c o e n=>b c o (a c o e n) n
theorem ac.exL{L:Ze}{H a:Hp}(S:ac H a):EY L H a:=fun b o e _=>S b o e
theorem JE.exL{f g h:Addr}{L:Ze}{H i:Hp}(a:JE f g h H i)(s:f∈L/\g∈L/\h∈L):EY L H i:=fun b o e n=>a b o e (fun z=>n (z▸s.1)) (fun z=>n (z▸s.2.1)) (fun z=>n (z▸s.2.2))
theorem EY.upd{L:Ze}{H:Hp}{d:Addr}{o:HO}(h:d∈L):EY L H (upd H d o):=fun b u e n=>by rw[ag (fun z:b=d=>n (by rw[z];exact h))];exact e
theorem Good.grow_len{rooms:Zb}{m:gQ}(g:Good rooms m)(a:rooms.length<=8):m.fs.length<400/\m.ss.length<400:=by
 have e:=g.few a;have f:=g.len;omega
theorem vY{K:Za}{H:Hp}:∀{e:Zb}{a:List V},TKCs K H (e.map nh) a->a=e.map V.str
 |[],a,h=>by rw[xr]at h;unfold TKCs at h;exact h
 |s::e,a,h=>by
  rw[bd]at h;unfold TKCs at h;obtain⟨v,i,rfl,f,g⟩:=h;unfold nh oe at f;rw[f,vY g]
  rfl
theorem y4{K:Za}{H:Hp}{e:Zb}{a:V}(h:oe K H (jL e) a):∃b,a=.ref b/\aW K H b (e.map V.str):=by
 unfold jL oe at h;obtain⟨b,i,rfl,f,g⟩:=h;rw[vY g]at f;exact⟨b,rfl,f⟩
theorem xQ{f g rooms face:Zb}{a:List ai}(m:aE f g rooms a):((stepsF f g rooms a face).map (·.1)).Nodup:=by
 have i:=jd m;unfold stepsF;refine List.Nodup.sublist (List.Sublist.map _ List.filter_sublist) ?_;rw[p6];have e:((fun p:Sg×List Str=>p.1) ∘ fun h=>(h,behF rooms a face h))=id:=rfl;rw[e,List.map_id];exact i
theorem wa(s:List Sg)(m:gQ)(L:List (Sg×List Str)):(eT s m L).2.map (·.1)=L.map (·.1):=by
 have e:∀n,n<=L.length->(eT s m (L.take n)).2.map (·.1)=(L.take n).map (·.1):=by
  intro n
  induction n with
  |zero=>intro _;rfl
  |succ n f =>
   intro h;have g:L[n]?=some L[n]:=b_ (by omega);rw[take_snoc g,jX];show((eT s m (L.take n)).2++[(L[n].1,_)]).map (fun a:Sg×Nat=>a.1)=_;rw[ap,ap,f (by omega)]
   rfl
 have:=e L.length (aG _);rw[bb]at this;exact this
theorem pT.atS{m a:gQ}(h:pT m a){i:Nat}{f:List Sg}(e:m.ss[i]?=some f):a.ss[i]?=some f:=by
 obtain⟨_,⟨r,q⟩⟩:=h;rw[q,dv (by rcases fy i m.ss.length with z|z;exact z;rw[fO z]at e;cases e),e]
theorem im.ex3{K:Za}{C x M a f g j:Addr}{k l:Ze}{m:gQ}{H i:Hp}(h:im K C H x M a f g j k l m)(e:JE a f g H i):fj H i:=fun b n q =>
 e b _ q (fun z=>by rw[z,h.hfa]at q;cases q) (fun z=>by rw[z,h.hsa]at q;cases q) (fun z=>by rw[z,h.hna]at q;cases q)
inductive jq(K:Za)(C Cm:Addr)(vs:List V)(H:Hp)(Q:VK)(E:XK):Prop
 |mk (x M fa sa na ta:Addr) (us ws:Ze) (m:gQ) (n:Nat) (J0 J1 rooms:Zb) (ds:List ai):(vs=[.ref x,.int (n:Nat)])->(im K C H x M fa sa na ta us ws m)->(bt Cm H M J0 J1 rooms ds)->(Good rooms m)->(rooms.length<=8)->(n<m.fs.length)->((∃vs,H ta=some (.lst vs)))->(∀(d:Addr) (us' ws':Ze) (H':Hp),im K C H' x M fa sa na ta us' ws' (eT (m.ss.getD n []) m (stepsF J0 J1 rooms ds (m.fs.getD n []))).1->H' d=some (.dT (stK (eT (m.ss.getD n []) m (stepsF J0 J1 rooms ds (m.fs.getD n []))).2))->H d=none->EY [fa,sa,na] H H'->Q (.ref d) H')->jq K C Cm vs H Q E
theorem zP{K:Za}{C Cm:Addr}(c:FC K C){vs:List V}{H:Hp}{Q:VK}{E:XK}(h:jq K C Cm vs H Q E):jz K (ky Cm) C (lL K C) (bJ Q) (start jD vs) H:=by
 obtain⟨x,M,fa,sa,na,ta,us,ws,m,n,J0,J1,rooms,ds,rfl,F,MA,gd,hr,hn,⟨as,v⟩,k⟩:=h;have b5:m.fs[n]?=some m.fs[n]:=b_ hn;have aC:n<m.ss.length:=by rw[gd.len];exact hn
 have I:m.ss[n]?=some m.ss[n]:=b_ aC;have ef:m.fs.getD n []=m.fs[n]:=by simp[hn]
 have es:m.ss.getD n []=m.ss[n]:=by simp[aC]
 rw[ef,es]at k;have hF:=gd.isF m.fs[n] (ka _);have c2:=hF.len;obtain⟨u,hu,b6⟩:=Paired.get F.faces b5;obtain⟨w,hw,c3,c4⟩:=Paired.get F.stories I;have c5:pO (ws.map V.ref) n=some (.ref w):=bc (by rw[cb,hw];rfl);have b7:pO (us.map V.ref) n=some (.ref u):=bc (by rw[cb,hu];rfl);refine fun d hd=>?_;have S0:ac H (upd H d (.dT [])):=ac.new hd;have F0:=F.same S0;obtain⟨dx,fs,g,l1,l2,l3,l4,l5,l6,l7⟩:=F0.ob;refine⟨_,rfl,x,C,dx,fs,.ref M,rfl,g,c.cls,c.a1,l1,_,rfl,x,C,dx,fs,.ref fa,rfl,g,c.cls,c.a2,l2,_,rfl,fa,_,_,_,rfl,rfl,ay.of F0.hfa,b7,M,u,m.fs[n],J0,J1,rooms,ds,rfl,MA.same S0,S0 _ _ b6,hF.sub,by omega,fun D j T U st y S1=>?_⟩;have F1:=F0.same S1;have aF:D≠d:=fun z=>by rw[z,aa]at y;cases y
 have fr:∀{b:Addr}{o:HO},H b=some o->b≠D:=fun e=>ae (S0 _ _ e) y;have A:∀{b:Addr}{o:HO},H b=some o->b≠d:=fun e=>ae e hd;obtain⟨dc,dd,gx,_⟩:=F.ob;refine⟨D,j,rfl,.inl ⟨U,fun o=>?_⟩⟩;have F2:=F1.move (o:=.frz o (.dT j)) U (dF (fr F.hna));have J:fj T (upd T D (.frz o (.dT j))):=Fb U;have d2:upd T D (.frz o (.dT j)) d=some (.dT []):=by rw[ag aF.symm];exact S1 _ _ aa
 have a0:upd T D (.frz o (.dT j)) ta=some (.lst as):=by rw[ag (fr v)];exact S1 _ _ (S0 _ _ v)
 have f2:upd T D (.frz o (.dT j)) D=some (.frz o (.dT j)):=aa;have a4:∀b o',H b=some o'->upd T D (.frz o (.dT j)) b=some o':=fun b o' e=>by rw[ag (fr e)];exact S1 _ _ (S0 _ _ e)
 have Y:=st.kt J;generalize upd T D (.frz o (.dT j))=H2 at F2 J d2 a0 f2 Y a4 ⊢;have a5:∀p∈stepsF J0 J1 rooms ds m.fs[n],qW rooms p.2:=t6 hF;have zL:(stepsF J0 J1 rooms ds m.fs[n]).length<=9:=by
  have z1:=MA.ok.asks4;have z2:=MA.ok.says4;refine bB (C0 (L:=aR J0 J1)) ?_;unfold aR;rw[au,au,aj,aj];show _+1<=9;omega
 have a6:=xQ (face:=m.fs[n]) MA.ok;generalize stepsF J0 J1 rooms ds m.fs[n]=L at st Y a5 a6 zL k ⊢;have gq:∀i,Good rooms (eT m.ss[n] m (L.take i)).1/\pT m (eT m.ss[n] m (L.take i)).1:=fun i=>by
  obtain⟨h1,h2,_⟩:=wb (s:=m.ss[n]) gd (by have:=gd.sl _ _ I;omega) (L.take i) fun p hp=>a5 p (fA hp);exact⟨h1,h2⟩
 have b8:fa≠d:=A F.hfa;have b9:sa≠d:=A F.hsa;have a7:na≠d:=A F.hna;refine ww (fun i σ H'=>J_ fun(B t:Ze) (x3 x4:Option V)=>GZ (σ=[some (.ref x),some (.int (n:Nat)),some (.ref d),x3,x4]) (im K C H' x M fa sa na ta B t (eT m.ss[n] m (L.take i)).1) (H' d=some (.dT (stK (eT m.ss[n] m (L.take i)).2))) (EY [fa,sa,na,d] H2 H') (fj H2 H'))
  ⟨us,ws,_,_,rfl,F2,d2,.refl _ _,fun _ _ e=>e⟩ ?_ ?_ ?_
 ·rintro i σ H' _ ⟨_,_,_,_,_,_,_,ex,_⟩;exact ex _ _ f2 (by simp[dF (fr F.hfa),dF (fr F.hsa),dF (fr F.hna),aF])
 ·rintro i σ G p a b hi ⟨B,t,x3,x4,rfl,N,d3,ex3,al⟩ hp ⟨dk,ek,ca⟩;obtain⟨pr,an,rfl,uf,rfl,cc⟩:=Paired.getL Y ek;obtain⟨f,rfl,O⟩:=y4 ca;obtain⟨cd,ce⟩:=gq i;obtain⟨z1,z2⟩:=cd.grow_len hr;obtain⟨w',ch,c1,gs,cl,a8⟩:=Paired.get N.stories (ce.atS I);have a9:pO (t.map V.ref) n=some (.ref w'):=bc (by rw[cb,ch];rfl);have Sp:ac G (upd G p (.tup [.ref f,.ref uf])):=ac.new hp;have bf:upd G p (.tup [.ref f,.ref uf]) p=some (.tup [.ref f,.ref uf]):=aa;generalize upd G p (.tup [.ref f,.ref uf])=H4 at Sp bf ⊢;refine⟨p,_,rfl,be.of bf,rfl,_,_,rfl,_,_,rfl,rfl,?_⟩;have F4:=N.same Sp;obtain⟨bi,bl,g4,m1,m2,m3,m4,m5,m6,m7⟩:=F4.ob;have cm:=Sp _ _ cl;refine⟨_,rfl,x,bi,bl,rfl,g4,m6,_,rfl,_,rfl,x,C,bi,bl,.ref sa,rfl,g4,c.cls,c.a3,m3,_,rfl,sa,_,_,_,rfl,rfl,ay.of F4.hsa,a9,_,rfl,(by show 1<=ak;decide),fun ll co=>?_⟩;have Sl:ac H4 (upd H4 ll (.lst [.ref f])):=ac.new co;have bn:upd H4 ll (.lst [.ref f]) ll=some (.lst [.ref f]):=aa;generalize upd H4 ll (.lst [.ref f])=H5 at Sl bn ⊢;have zw:gs.length<=400:=by rw[Paired.length a8];have:=gd.sl _ _ I;have:=gd.few hr;omega
  refine⟨w',ll,_,_,rfl,rfl,Sl _ _ cm,bn,(by rw[aj];exact eK (ar (by show _+1<=1000;omega))),fun p2 bp=>?_⟩;have S2:ac H5 (upd H5 p2 (.lst (gs.map V.ref++[.ref f]))):=ac.new bp;have b1:upd H5 p2 (.lst (gs.map V.ref++[.ref f])) p2=some (.lst ((gs++[f]).map V.ref)):=by rw[aa,ap];rfl
  generalize upd H5 p2 (.lst (gs.map V.ref++[.ref f]))=H6 at S2 b1 ⊢;have l:ac G H6:=(Sp.trans Sl).trans S2;have F6:=N.same l;have cq:G ta=some (.lst as):=ex3 _ _ a0 (by simp[F.ne.2.1.symm,F.ne.2.2.symm,A v];exact fun z=>by rw[z,F.hna]at v;cases v);have np:∀{b:Addr}{o:HO},G b=some o->p2≠b:=fun e=>dF (ae (Sl _ _ (Sp _ _ e)) bp);have cs:fM K H6 p2 (m.ss[n]++[pr.1]):=⟨gs++[f],b1,cr (Paired.mapP a8 fun _ _ r=>aW.kt (ac.kt l) r) (aW.kt (ac.kt l) O)⟩;refine⟨x,M,fa,sa,na,ta,uf,p2,B,t,_,pr.2,m.ss[n]++[pr.1],rfl,F6,l _ _ (al _ _ cc),cs,⟨np N.hfa,np N.hsa,np cq⟩,z1,z2,fun b2 b3 H7 F7 e7=>?_⟩;have ct:=F6.ex3 e7;have b4:fj G H7:=(ac.kt l).trans ct;have d7:H7 d=some (.dT (stK (eT m.ss[n] m (L.take i)).2)):=e7 _ _ (l _ _ d3) b8.symm b9.symm a7.symm;have cv:bM (stK (eT m.ss[n] m (L.take i)).2) (jL pr.1)=none:=by
   refine xA fun kv c0 e=>?_;obtain⟨q,hq,rfl⟩:=av.1 c0;have h1:q.1∈(L.take i).map (·.1):=by rw[<-wa m.ss[n] m];exact kb hq
   rw[mH e,nC]at h1;exact pD a6 (by rw[cb,an];rfl) h1
  have l7:(stK (eT m.ss[n] m (L.take i)).2).length<ak:=by
   have h1:=congrArg List.length (wa m.ss[n] m (L.take i));rw[aj,aj,aN]at h1;unfold stK;rw[aj,h1];exact ar (by omega)
  refine⟨_,rfl,_,rfl,d,f,_,jL pr.1,rfl,rfl,d7,y6 (aW.kt b4 O),eF _,l7,b2,b3,_,_,rfl,?_,?_,?_,?_⟩
  ·rw[take_snoc an,jX];exact F7.move d7 (dF a7)
  ·rw[aa,gp _ cv,take_snoc an,jX];show _=some (HO.dT (stK ((eT m.ss[n] m (L.take i)).2++[_])));unfold stK;rw[ap]
   rfl
  ·exact(ex3.trans (ac.exL l)).trans ((e7.exL ⟨by simp,by simp,by simp⟩).trans (EY.upd (by simp)))
  ·exact(al.trans b4).trans (Fb d7)
 ·rintro σ G ⟨B,t,x3,x4,rfl,N,d3,ex3,al⟩;rw[Paired.length st,bb]at N d3;refine⟨_,rfl,k d B t G N d3 hd fun b o' e nb=>ex3 _ _ (a4 _ _ e) ?_⟩;simp at nb ⊢;exact⟨nb.1,nb.2.1,nb.2.2,A e⟩
abbrev pQ(H0:Hp)(na:Addr)(H:Hp)(ts:Ze)(st:List (List (Sg×Nat))):Prop:=Paired (fun d l=>H0 d=none/\d≠na/\H d=some (.dT (stK l))) ts st
inductive my(K:Za)(C Cm:Addr)(vs:List V)(H:Hp)(Q:VK)(E:XK):Prop
 |mk (H0:Hp) (x dx M:Addr) (J0 J1 rooms:Zb) (ds:List ai):(vs=[.ref x,.ref M])->(H x=some (.ins C dx []))->(bt Cm H0 M J0 J1 rooms ds)->(H0 x=none)->(ac H0 H)->(rooms.length<=8)->(∀(fa sa na ta:Addr) (us ws ts:Ze) (S:qY) (j:Nat) (H':Hp),im K C H' x M fa sa na ta us ws S.1->H' ta=some (.lst (ts.map V.ref))->pQ H0 na H' ts S.2->qX J0 J1 rooms ds S->S.2.length=S.1.fs.length->S=itF J0 J1 rooms ds j->ac H0 H'->Q .non H')->my K C Cm vs H Q E
theorem im.moveT{K:Za}{C x M fa j l a:Addr}{n o:Ze}{m:gQ}{H:Hp}{q p:List V}(h:im K C H x M fa j l a n o m)(e:H a=some (.lst q)):im K C (upd H a (.lst p)) x M fa j l a n o m:=by
 have k:fj H (upd H a (.lst p)):=bW e;obtain⟨⟨t,fs,g,r⟩,u,v,y,A,f,i⟩:=h;refine⟨⟨t,fs,by rw[ag (fun z=>by rw[z,e]at g;cases g)];exact g,r⟩,by rw[ag i.2.1];exact u,Paired.mapP v fun _ _ r=>k _ _ r,by rw[ag i.2.2];exact y,Paired.mapP A fun w s r=>⟨r.1,?_⟩,by rw[ag (fun z=>by rw[z,e]at f;cases f)];exact f,i⟩;obtain⟨B,D,E⟩:=r.2;exact⟨B,by rw[ag r.1.2.2];exact D,Paired.mapP E fun _ _ r=>aW.kt k r⟩
theorem Ea{K:Za}{C Cm:Addr}(c:FC K C){vs:List V}{H:Hp}{Q:VK}{E:XK}(h:my K C Cm vs H Q E):nO K C (jq K C Cm) (lL K C) (eE Cm) (bJ Q) (start ox vs) H:=by
 obtain⟨H0,x,dx,M,a,f,rooms,g,rfl,hx,MA,cm,S0,hr,k⟩:=h;have up:∀{H1 H2:Hp}{o:HO},ac H0 H1->H2=upd H1 x o->ac H0 H2:=fun S e b o q=>by rw[e,ag (ae q cm)];exact S _ _ q
 refine⟨_,rfl,_,rfl,x,C,dx,[],rfl,hx,c.cls,c.a1,(by decide),?_⟩;obtain⟨H1,e1,L,X1⟩:=qP "machine" (.ref M) hx;rw[<-e1];have S1:=up S0 e1;have a7:(cO ("machine":Str) (.ref M) []).length<=1:=eB _ _ _;refine⟨(by show 0<=ak;decide),fun fa w=>⟨_,rfl,x,C,dx,_,rfl,kp L w,c.cls,c.a2,by omega,?_⟩⟩;obtain⟨H2,e2,N,X2⟩:=qP "faces" (.ref fa) (kp (x:=.lst []) L w);rw[<-e2];have S2:=up (S1.trans (ac.new w)) e2;have nf:fa≠x:=(ae L w).symm;have al:=X2 _ _ aa nf;have a8:=eB ("faces":Str) (.ref fa) (cO ("machine":Str) (.ref M) []);refine⟨(by show 0<=ak;decide),fun u p=>⟨_,rfl,x,C,dx,_,rfl,kp N p,c.cls,c.a3,by omega,?_⟩⟩;obtain⟨H3,e3,O,X3⟩:=qP "first_stories" (.ref u) (kp (x:=.lst []) N p);rw[<-e3];have S3:=up (S2.trans (ac.new p)) e3;have ns:u≠x:=(ae N p).symm;have a9:=X3 _ _ aa ns;have bf:=X3 _ _ (kp (x:=.lst []) al p) nf;have co:fa≠u:=ae al p;have bi:=eB ("first_stories":Str) (.ref u) (cO ("faces":Str) (.ref fa) (cO ("machine":Str) (.ref M) []));refine fun r s=>⟨_,rfl,x,C,dx,_,rfl,kp O s,c.cls,c.a4,by omega,?_⟩;obtain⟨H4,e4,T,X4⟩:=qP "numbers" (.ref r) (kp (x:=.dT []) O s);rw[<-e4];have S4:=up (S3.trans (ac.new s)) e4;have nn:r≠x:=(ae O s).symm;have bl:=X4 _ _ aa nn;have an:=X4 _ _ (kp (x:=.dT []) bf s) nf;have as:=X4 _ _ (kp (x:=.dT []) a9 s) ns;have bn:=eB ("numbers":Str) (.ref r) (cO ("first_stories":Str) (.ref u) (cO ("faces":Str) (.ref fa) (cO ("machine":Str) (.ref M) [])));refine⟨(by show 0<=ak;decide),fun n i=>⟨_,rfl,x,C,dx,_,rfl,kp T i,c.cls,c.a5,by omega,?_⟩⟩;obtain⟨H5,e5,bp,X5⟩:=qP "steps" (.ref n) (kp (x:=.lst []) T i);rw[<-e5];have S5:=up (S4.trans (ac.new i)) e5;have nt:n≠x:=(ae T i).symm;have U:=X5 _ _ aa nt;have b1:=X5 _ _ (kp (x:=.lst []) an i) nf;have b2:=X5 _ _ (kp (x:=.lst []) as i) ns;have b3:=X5 _ _ (kp (x:=.lst []) bl i) nn;have F5:im K C H5 x M fa u r n [] [] ⟨[],[]⟩:=by
  refine⟨⟨dx,_,bp,?_,?_,?_,?_,?_,?_,?_⟩,b1,.nil,b2,.nil,b3,co,ae an i,ae as i⟩
  all_goals(show kW _ _=_;repeat (rw[eU];first|rw[if_pos rfl] | rw[if_neg (by decide +kernel)]))
  all_goals rfl
 clear e1 L X1 a7 e2 N X2 al a8 e3 O X3 a9 bf bi e4 T X4 bl an as bn e5 bp X5 up;obtain⟨cq,cs,g5,l1,l2,l3,l4,l5,l6,l7⟩:=id F5.ob;have M5:=MA.same S5;refine⟨_,rfl,x,cq,cs,rfl,g5,l6,_,rfl,M,a,f,rooms,g,rfl,M5,fun f0 FF H6 b4 hF S6=>⟨(by show 0<=ak;decide),fun st b5=>?_⟩⟩;rw[uL hF]at b4;have S7:ac H6 (upd H6 st (.lst [])):=ac.new b5;have b6:upd H6 st (.lst []) st=some (.lst []):=aa;generalize upd H6 st (.lst [])=H7 at S7 b6 ⊢;have aC:ac H5 H7:=ac.trans S6 S7;have F7:=F5.same aC;have np:∀{b:Addr}{o:HO},H5 b=some o->st≠b:=fun e=>dF (ae (S6 _ _ e) b5);refine⟨x,M,fa,u,r,n,f0,st,[],[],⟨[],[]⟩,_,[],rfl,F7,S7 _ _ b4,⟨[],b6,.nil⟩,⟨np b1,np b2,np U⟩,(by show 0<400;decide),(by show 0<400;decide),fun us ws H8 F8 e8=>?_⟩;have b7:n≠r:=fun z=>by rw[z,b3]at U;cases U
 have ct:H8 n=some (.lst (([]:Ze).map V.ref)):=e8 _ _ (aC _ _ U) F5.ne.2.1.symm F5.ne.2.2.symm b7;have b8:∀{b:Addr}{o:HO},H0 b=some o->b≠fa/\b≠u/\b≠r:=fun e=>⟨ae (S1 _ _ e) w,ae (S2 _ _ e) p,ae (S3 _ _ e) s⟩;have cv:ac H0 H8:=fun b o e=>by
  obtain⟨n1,n2,n3⟩:=b8 e;exact e8 _ _ (aC _ _ (S5 _ _ e)) n1 n2 n3
 refine⟨fun m σ I=>σ=[some (.ref x),some (.ref M)]/\∃(us ws v:Ze) (j:Nat),m=300-j/\im K C I x M fa u r n us ws (itF a f rooms g j).1/\I n=some (.lst (v.map V.ref))/\pQ H0 r I v (itF a f rooms g j).2/\qX a f rooms g (itF a f rooms g j)/\(itF a f rooms g j).2.length=j/\ac H0 I,⟨300,rfl,us,ws,[],0,rfl,F8,ct,.nil,EI,rfl,cv⟩,?_⟩;rintro m σ H9 ⟨rfl,aF,b9,v,j,rfl,J,t,a0,y,lj,Y⟩;obtain⟨A,B,g9,m1,m2,m3,m4,m5,m6,m7⟩:=id J.ob;refine⟨_,rfl,x,C,A,B,.ref n,rfl,g9,c.cls,c.a5,m5,.inl ⟨n,_,rfl,.inl (ay.of t),_,rfl,x,C,A,B,.ref fa,rfl,g9,c.cls,c.a2,m2,.inl ⟨fa,_,rfl,.inl (ay.of J.hfa),_,_,rfl,rfl,_,rfl,?_⟩⟩⟩;have z1:(v.map V.ref).length=j:=by rw[aj,Paired.length a0,lj]
 have z2:(aF.map V.ref).length=(itF a f rooms g j).1.fs.length:=by rw[aj,Paired.length J.faces]
 have z3:=y.good.few hr;refine ED (P:=j<(itF a f rooms g j).1.fs.length) (by rw[z1,z2];simp) (fun lt=>?_) (fun ge=>?_)
 ·have pA:nextF a f rooms g (itF a f rooms g j)=itF a f rooms g (j+1):=rfl;have ca:qX a f rooms g (itF a f rooms g (j+1)):=EH y (by rw[lj];exact lt);have cc:∀{b:Addr}{o:HO},H9 b=some o->∀{d:Addr},H9 d=none->d≠b:=fun e d h=>dF (ae e h);refine⟨fun σ' I=>σ'=[some (.ref x),some (.ref M)]/\∃(us ws v:Ze),im K C I x M fa u r n us ws (itF a f rooms g (j+1)).1/\I n=some (.lst (v.map V.ref))/\pQ H0 r I v (itF a f rooms g (j+1)).2/\ac H0 I,fun σ' I ⟨e,us,ws,v,q1,q2,D,q4⟩=>⟨300-(j+1),by omega,e,us,ws,v,j+1,rfl,q1,q2,D,ca,?_,q4⟩,?_⟩
  ·show(_++[_]).length=j+1;rw[au,lj];rfl
  refine⟨_,rfl,x,C,A,B,.ref n,rfl,g9,c.cls,c.a5,m5,.inl ⟨rfl,_,ay.of t⟩,_,rfl,x,A,B,rfl,g9,m7,_,rfl,x,C,A,B,.ref n,rfl,g9,c.cls,c.a5,m5,.inl ⟨n,_,rfl,.inl (ay.of t),?_⟩⟩;refine⟨x,M,fa,u,r,n,aF,b9,_,j,a,f,rooms,g,by rw[z1];rfl,J,MA.same Y,y.good,hr,lt,⟨_,t⟩,fun d c0 c1 cd c2 hd a6 ex=>?_⟩;have ce:n∉[fa,u,r]:=by simp[J.ne.2.1.symm,J.ne.2.2.symm,b7]
  have G:=ex _ _ t ce;have ch:ac H0 cd:=fun b o e=>by
   obtain⟨n1,n2,n3⟩:=b8 e;exact ex _ _ (Y _ _ e) (by simp[n1,n2,n3])
  have cl:pQ H0 r cd v (itF a f rooms g j).2:=Paired.mapP a0 fun d l ⟨q1,q2,D⟩=>⟨q1,q2,ex _ _ D (by
   simp[q2];exact⟨(fun z=>by rw[z,J.hfa]at D;cases D),(fun z=>by rw[z,J.hsa]at D;cases D)⟩)⟩
  have d0:H0 d=none:=Y.free a6;have c3:d≠n:=cc t a6;refine⟨n,_,.ref d,rfl,rfl,G,?_,rfl,c0,c1,v++[d],?_,?_,?_,?_⟩
  ·rw[z1];exact ar (by omega)
  ·have e:(itF a f rooms g (j+1)).1=(eT ((itF a f rooms g j).1.ss.getD j []) (itF a f rooms g j).1 (stepsF a f rooms g ((itF a f rooms g j).1.fs.getD j []))).1:=by
    show(nextF a f rooms g (itF a f rooms g j)).1=_;unfold nextF;rw[lj]
   rw[e];exact c2.moveT G
  ·rw[aa,ap];rfl
  ·have e:(itF a f rooms g (j+1)).2=(itF a f rooms g j).2++[(eT ((itF a f rooms g j).1.ss.getD j []) (itF a f rooms g j).1 (stepsF a f rooms g ((itF a f rooms g j).1.fs.getD j []))).2]:=by
    show(nextF a f rooms g (itF a f rooms g j)).2=_;unfold nextF;rw[lj]
   rw[e];exact cr (Paired.mapP cl fun d l ⟨q1,q2,D⟩=>⟨q1,q2,by rw[ag (fun z=>by rw[z,G]at D;cases D)];exact D⟩) ⟨d0,cc J.hna a6,by rw[ag c3];exact hd⟩
  ·intro b o e;have h1:=ch _ _ e;rw[ag (fun z=>?_)]
   ·exact h1
   ·have h4:=S4 _ _ e;rw[z,i]at h4;cases h4
 ·have e:=y.le;exact k fa u r n aF b9 v _ j H9 J t a0 y (by omega) rfl Y
abbrev AQ(H0 H:Hp)(ts:Ze)(st:List (List (Sg×Nat))):Prop:=Paired (fun d l=>H0 d=none/\Rd H d (.dT (stK l))) ts st
theorem Rd.same{H H':Hp}{a:Addr}{u:HO}(S:ac H H')(h:Rd H a u):Rd H' a u:=by
 rcases h with h|⟨o,h⟩
 ·exact .inl (S _ _ h)
 ·exact .inr ⟨o,S _ _ h⟩
theorem Rd.frz{H:Hp}{a d:Addr}{k e:List (TK×V)}{o:Obj}(f:H d=some (.dT e))(h:Rd H a (.dT k)):Rd (upd H d (.frz o (.dT e))) a (.dT k):=by
 by_cases z:a=d
 ·subst z;rcases h with h|⟨q,h⟩
  ·rw[f]at h;cases h;exact .inr ⟨o,aa⟩
  ·rw[f]at h;cases h
 ·rcases h with h|⟨q,h⟩
  ·exact .inl (by rw[ag z];exact h)
  ·exact .inr ⟨q,by rw[ag z];exact h⟩
def Ke(J:It)(g:TG)(tb:TS)(D:mj)(σ:L2.St)(H:Hp):Prop:=∃W:Nat->Nat->L2.St->Hp->Prop,(∃m,W 0 m σ H)/\∀i m σ H,W i m σ H ->
 (J.stop i H/\D.nx σ H)∨(J.go i H/\∃N:L2.St->Hp->Prop,(∀σ' H',N σ' H'->∃m',m'<m/\W (i+1) m' σ' H')/\∀x H',J.yld i H x H'->g x σ H' fun σ2 H2=>tb { D with nx:=N,ct:=N,bk:=D.nx } σ2 H2)
theorem CV{K:Za}{H:Hp}:∀a:List Str,TKIns K H (a.map nh) (a.map V.str)
 |[]=>by show TKIns K H [] [];unfold TKIns;rfl
 |x::a=>by
  rw[bd,bd];unfold TKIns;refine⟨_,_,rfl,?_,CV a⟩;unfold nh jC
  rfl
theorem aW.sq{K:Za}{H:Hp}{a:Addr}{e:List V}(h:aW K H a e):be K H a e:=h.imp .inl id
theorem xB{K:Za}{H:Hp}{a:Addr}{f:Zb}(h:aW K H a (f.map V.str)):jC K H (jL f) (.ref a):=by
 unfold jL jC;exact⟨a,_,rfl,aW.sq h,CV f⟩
abbrev Pr:=Nat×Nat
structure bz where
 key:Pr
 from_:Option (Pr×Sg)
 story:List Sg
def jf(P:List bz)(k:Pr):Bool:=P.any fun c=>decide (c.key=k)
def bN(l:List (Sg×Nat))(sg:Sg):Option Nat:=(l.find? fun p=>decide (p.1=sg)).map (·.2)
def eV(wanted:List (Sg×Nat))(here:bz)(q:List bz×Option Sg)(p:Sg×Nat):List bz×Option Sg :=
 match q.2 with
 |some _=>q
 |none=>match bN wanted p.1 with
  |none=>if p.1.head?=some ("ask":Str)then q else(q.1,some p.1)
  |some w=>if jf q.1 (w,p.2)=true then q else(q.1++[⟨(w,p.2),some (here.key,p.1),here.story++[p.1]⟩],none)
def cA(wanted:List (Sg×Nat))(here:bz)(P:List bz)(l:List (Sg×Nat)):List bz×Option Sg:=l.foldl (eV wanted here) (P,none)
structure qZ(ms ws:List (List (Sg×Nat)))(P:List bz):Prop where
 zero:∃r,P=⟨(0,0),none,[]⟩::r
 nd:(P.map (·.key)).Nodup
 back:∀(i:Nat) (c:bz),P[i]?=some c->i=0∨∃(j:Nat) (b:bz) (sg:Sg),j<i/\P[j]?=some b/\c.from_=some (b.key,sg)/\c.story=b.story++[sg]/\bN (ws.getD b.key.1 []) sg=some c.key.1/\(sg,c.key.2)∈ms.getD b.key.2 []
theorem lV{P:List bz}{k:Pr}:jf P k=true↔k∈P.map (·.key):=by
 unfold jf;rw[List.any_eq_true,av];exact⟨fun⟨c,h,e⟩=>⟨c,h,of_decide_eq_true e⟩,fun⟨c,h,e⟩=>⟨c,h,zzr1 e⟩⟩
theorem EO(a e:List (List (Sg×Nat))):qZ a e [⟨(0,0),none,[]⟩]:=by
 refine⟨⟨[],rfl⟩,by simp,fun i c h=>?_⟩;rcases wR i with z|z
 ·exact .inl z
 ·rw[fO (by show 1<=i;exact z)]at h;cases h
theorem qZ.add{k l:List (List (Sg×Nat))}{P:List bz}(h:qZ k l P){j:Nat}{b:bz}{f:Sg}{w g:Nat}(m:P[j]?=some b)(o:jf P (w,g)=false)(p:bN (l.getD b.key.1 []) f=some w)(s:(f,g)∈k.getD b.key.2 []):
  qZ k l (P++[⟨(w,g),some (b.key,f),b.story++[f]⟩]):=by
 have lt:j<P.length:=by
  rcases fy j P.length with z|z
  ·exact z
  ·rw[fO z]at m;cases m
 obtain⟨r,e⟩:=h.zero;refine⟨⟨r++[⟨(w,g),some (b.key,f),b.story++[f]⟩],by rw[e];rfl⟩,?_,fun i c a=>?_⟩
 ·rw[ap,cJ];refine⟨h.nd,by simp,fun x t y u z=>?_⟩;have:jf P (w,g)=true:=lV.2 (by rw[<-show y=(w,g)from by simpa using u,<-z];exact t);rw[o]at this;cases this
 ·rcases fy i P.length with z|z
  ·rw[dv z]at a;rcases h.back i c a with q|⟨v,A,n,B,C,D⟩
   ·exact .inl q
   ·exact .inr ⟨v,A,n,B,by rw[dv (by omega)];exact C,D⟩
  ·rw[iu z]at a;have E:i-P.length=0:=by
    rcases wR (i-P.length)with q|q
    ·exact q
    ·rw[fO (by show 1<=_;exact q)]at a;cases a
   rw[E]at a;injection a with a;subst a;exact .inr ⟨j,b,f,by omega,by rw[dv lt];exact m,rfl,rfl,p,s⟩
theorem Gp{m f:List (List (Sg×Nat))}{P:List bz}(h:qZ m f P){j:Nat}{b:bz}(t:P[j]?=some b)(l:List (Sg×Nat))(A:∀p∈l,p∈m.getD b.key.2 []):
  (∃r,(cA (f.getD b.key.1 []) b P l).1=P++r)/\qZ m f (cA (f.getD b.key.1 []) b P l).1/\∀a,(cA (f.getD b.key.1 []) b P l).2=some a->(∃g,(a,g)∈l)/\bN (f.getD b.key.1 []) a=none/\a.head?≠some ("ask":Str):=by
 have u:∀n,n<=l.length->(∃r,(cA (f.getD b.key.1 []) b P (l.take n)).1=P++r)/\qZ m f (cA (f.getD b.key.1 []) b P (l.take n)).1/\∀a,(cA (f.getD b.key.1 []) b P (l.take n)).2=some a->(∃g,(a,g)∈l)/\bN (f.getD b.key.1 []) a=none/\a.head?≠some ("ask":Str):=by
  intro n
  induction n with
  |zero=>intro _;exact⟨⟨[],(dh _).symm⟩,h,fun a e=>by cases e⟩
  |succ n B =>
   intro E;obtain⟨⟨r,i⟩,k,o⟩:=B (by omega);have C:l[n]?=some l[n]:=b_ (by omega);have D:cA (f.getD b.key.1 []) b P (l.take (n+1))=eV (f.getD b.key.1 []) b (cA (f.getD b.key.1 []) b P (l.take n)) l[n]:=by
    unfold cA;rw[take_snoc C,ip];rfl
   rw[D];generalize cA (f.getD b.key.1 []) b P (l.take n)=q at i k o;have v:l[n]∈l:=ka _;generalize l[n]=p at v;unfold eV;cases G:q.2 with
   |some s=>exact⟨⟨r,i⟩,k,fun a e=>o a e⟩
   |none =>
    cases y:bN (f.getD b.key.1 []) p.1 with
    |none =>
     by_cases c:p.1.head?=some ("ask":Str)
     ·simp only[c,if_true];exact⟨⟨r,i⟩,k,fun a e=>o a e⟩
     ·simp only[c,if_false];refine⟨⟨r,i⟩,k,fun a e=>?_⟩;injection e with e;subst e;exact⟨⟨p.2,v⟩,y,c⟩
    |some w =>
     cases x:jf q.1 (w,p.2)with
     |true =>
      simp only[x,if_true];exact⟨⟨r,i⟩,k,fun a e=>o a e⟩
     |false =>
      simp only[x,lB,if_false];refine⟨⟨r++[⟨(w,p.2),some (b.key,p.1),b.story++[p.1]⟩],by rw[i,cI]⟩,k.add (j:=j) (b:=b) ?_ x y (A p v),fun a e=>by cases e⟩;rw[i,dv (by rcases fy j P.length with z|z;exact z;rw[fO z]at t;cases t)];exact t
 have:=u l.length (aG _);rw[bb]at this;exact this
def AZ(K:Za):TS :=
 ao (aK (dB (bu)) U2)
 (ao (km (tB (CY (gM K V0 V1))) (ao (aK (gM K V0 V1) (jg K 2 (bj U1 (bj U3 (iM)))))
 (bG (qx K "list" ci V2 (az V3)))))
 (ao (bG (zD K "list" uh V2))
 (bm V2)))
def Cn:List Str:=["came","place","story","sign"]
def vc(K:Za)(sp_story_to:Sp):TS :=
 ao (aK (xK K (bA (aU (tC (.int 0)) (tC (.int 0)))) (tC .non)) U2)
 (ao (aK (dB (az (bA (aU (tC (.int 0)) (tC (.int 0)))))) U3)
 (ao (aK (tC (.int 0)) U4)
 (ao (km (aQ (aH Ei V4 (eD (dS K) (az V3)))) (ao (aK (aH (cS K) V3 V4) U5)
 (ao (JL 4 (tC (.int 1)) (ipI fun i j=>i+j))
 (ao (aK (aH (cS K) V0 (aH (ia K) V5 (tC (.int 0)))) U6)
 (eQ (yo K (aH (cS K) V1 (aH (ia K) V5 (tC (.int 1))))) (jg K 2 (bj U7 (bj U8 (iM)))) (cg (tB (fG K V7 V6)) (cg (aQ (aH HG (aH (ia K) V7 (tC (.int 0))) (tC (.str "ask")))) (bm (bA (aU (aS sp_story_to (aw V2 (az V5))) V7))) (bD)) (cg (tB (fG K (bA (aU (gM K V6 V7) V8)) V2)) (ao (qD K V2 (bA (aU (gM K V6 V7) V8)) (bA (aU V5 V7)))
 (bG (qx K "list" ci V3 (az (bA (aU (gM K V6 V7) V8)))))) (bD))))))))
 (bm (tC .non)))))
def vM:List Str:=["model_steps","machine_steps","came","pairs","looked","here","wanted","sign","goal"]
def u_(K:Za)(C_Machine:Addr)(sp_Machine_is_quiet:Sp)(a_HUSH:Addr)(sp_Machine_doors_from:Sp)(a_STILL:Addr):TS :=
 ao (aK (dB (bu)) U4)
 (ao (eQ (cj K (cW C_Machine "doors_from" sp_Machine_doors_from [] E0 V0 (az V1))) (jg K 3 (bj U5 (bj U6 (bj U7 (iM))))) (cg (aQ (aH (lP K) V6 (tC (.ref a_STILL)))) (bG (qx K "list" ci V4 (az (bA (aU V7 V2))))) (cg (zc (tB (Bk K V6 V3)) (aQ (aH zS (aH (ia K) V6 (tC (.int 0))) (tC (.str "say"))))) (bG (qx K "list" ci V4 (az (bA (aU V7 (xP K V3 V6)))))) (bD))))
 (ao (cg (tB (cW C_Machine "is_quiet" sp_Machine_is_quiet [] E0 V0 (az V1))) (bG (qx K "list" ci V4 (aw (bA (aU V1 (xP K V3 (tC (.ref a_HUSH))))) bu))) (bD))
 (bm V4)))
def vJ:List Str:=["I","room","face","steps","rows","start","sign","goal"]
def A6(K:Za)(sp_rows_needed:Sp)(C_Machine:Addr)(sp_Machine_rooms:Sp):TS :=
 ao (aK (bA (aU (aH (cS K) (cW C_Machine "rooms" sp_Machine_rooms [] E0 V1 bu) (tC (.int 0))) (tC (.int 0)))) U2)
 (ao (aK (xK K V2 (tC (.bl true))) U3)
 (ao (aK (dB (az V2)) U4)
 (ao (km (aQ (aH Ek (eD (dS K) (az V4)) (tC (.int 0)))) (ao (aK (zD K "list" Eh V4) (jg K 2 (bj U5 (bj U6 (iM)))))
 (eQ (cj K (aS sp_rows_needed (aw V1 (eo V5 V6 (aH (cS K) (gh K V0 "steps") V6))))) U7 (cg (tB (fG K V7 V3)) (ao (qD K V3 V7 (tC (.bl true)))
 (bG (qx K "list" ci V4 (az V7)))) (bD)))))
 (bm (dH 2 [0] (Gx K V3) (jg K 2 (bj U0 (bj U1 (iM)))) (k7) (bA (aU V0 (aH (cS K) (gh K V2 "faces") V1))))))))
def Cq:List Str:=["model","I","first","rows","waiting","room","number","row"]
def Hq(K:Za)(sp_paper_of:Sp)(sp_least_fault:Sp)(C_FaceMap:Addr)(sp_FaceMap_init:Sp)(sp_need_taker:Sp):TS :=
 ao (bG (aS sp_need_taker (aU V0 V1)))
 (ao (aK (ze C_FaceMap sp_FaceMap_init [] E0 (az V0)) U2)
 (ao (aK (aS sp_least_fault (aU (gh K V2 "steps") (gh K (ze C_FaceMap sp_FaceMap_init [] E0 (az V1)) "steps"))) U3)
 (ao (cg (tB (JK V3)) (bm (bA (aU (tC (.str "keeps")) (aS sp_paper_of (aw V2 (az V1)))))) (bD))
 (ao (aK V3 (jg K 2 (bj U4 (bj U5 (iM)))))
 (bm (bA (eo (tC (.str "fault")) V4 V5)))))))
def Iu:List Str:=["M","I","model","fault","story","sign"]
def oH(k:Pr):TK:=.t [.k (some (.inl (k.1:Int))),.k (some (.inl (k.2:Int)))]
theorem Dc{a b:Pr}(h:oH a=oH b):a=b:=by
 unfold oH at h;injection h with h;injection h with f e;injection e with e _;injection f with f;injection e with e;injection f with f;injection e with e;injection f with f;injection e with e;obtain⟨a1,a2⟩:=a;obtain⟨g,i⟩:=b;simp only at f e;rw[show a1=g by omega,show a2=i by omega]
theorem fX(k:Pr):(oH k).depth<=8:=by
 show max 0 (max 0 0)+1<=8
 decide
abbrev me(H:Hp)(a:Addr)(k:Pr):Prop:=H a=some (.tup [.int (k.1:Nat),.int (k.2:Nat)])
theorem me.tk{H:Hp}{a:Addr}{k:Pr}(h:me H a k):dJ H (oH k) (.ref a):=by
 unfold oH dJ;refine⟨a,_,rfl,h,?_⟩;unfold TKAts;refine⟨_,_,rfl,?_,?_⟩
 ·unfold dJ;rfl
 unfold TKAts;refine⟨_,_,rfl,?_,?_⟩
 ·unfold dJ;rfl
 unfold TKAts
 rfl
def pU(K:Za)(H:Hp)(c:bz)(v:V):Prop:=match c.from_ with
 |none=>v=.non
 |some (k,sg)=>∃t ha g,v=.ref t/\H t=some (.tup [.ref ha,.ref g])/\me H ha k/\aW K H g (sg.map V.str)
theorem pU.kt{K:Za}{H a:Hp}{c:bz}{v:V}(k:fj H a)(h:pU K H c v):pU K a c v:=by
 unfold pU at h ⊢;cases e:c.from_ with
 |none=>rw[e]at h;exact h
 |some p =>
  rw[e]at h;obtain⟨t,f,g,i,j,l,m⟩:=h;exact⟨t,f,g,i,k _ _ j,k _ _ l,aW.kt k m⟩
abbrev iB(K:Za)(H:Hp)(kvs:List (TK×V))(P:List bz):Prop:=Paired (fun(kv:TK×V) (c:bz)=>kv.1=oH c.key/\pU K H c kv.2) kvs P
theorem iB.kt{K:Za}{H e:Hp}{a:List (TK×V)}{P:List bz}(k:fj H e)(h:iB K H a P):iB K e a P:=Paired.mapP h fun _ _ r=>⟨r.1,r.2.kt k⟩
theorem iB.val{K:Za}{H:Hp}:∀{e:List (TK×V)}{P:List bz},iB K H e P->(P.map (·.key)).Nodup->∀{i:Nat}{c:bz},P[i]?=some c->∃v,bM e (oH c.key)=some v/\pU K H c v
 |_,_,.nil,_,i,c,h=>by simp at h
 |_,_,.cons (a:=j) (b:=b) r t,g,0,c,h=>by
  injection h with h;subst h;exact⟨j.2,cL r.1,r.2⟩
 |_,_,.cons (a:=j) (b:=b) r t,g,i+1,c,h=>by
  rw[bd,mY]at g;rw[List.getElem?_cons_succ]at h;obtain⟨v,k,l⟩:=iB.val t g.2 (i:=i) h;refine⟨v,?_,l⟩;rw[cE,k];intro z;rw[r.1]at z;exact g.1 (by rw[Dc z];exact kb (f:=(·.key)) (aY h))
theorem iB.none{K:Za}{H:Hp}{f:List (TK×V)}{P:List bz}(h:iB K H f P){k:Pr}(n:jf P k=false):bM f (oH k)=.none:=by
 refine xA ?_
 induction h with
 |nil=>intro g hk;exact nomatch hk
 |@cons a b l bs r t j =>
  intro g hk;have i:decide (b.key=k)=false/\jf bs k=false:=by
   unfold jf at n ⊢;rw[kh,Bool.or_eq_false_iff]at n;exact n
  rcases df.1 hk with rfl|hk
  ·rw[r.1];exact fun e=>of_decide_eq_false i.1 (Dc e)
  ·exact j i.2 g hk
theorem Paired.rev{α β:Type}{R:α->β->Prop}:∀{a:List α}{b:List β},Paired R a b->Paired R a.reverse b.reverse
 |_,_,.nil=>.nil
 |_,_,.cons r t=>by
  rw[qg,qg];exact Paired.app (Paired.rev t) (.cons r .nil)
inductive fQ(K:Za)(vs:List V)(H:Hp)(Q:VK)(E:XK):Prop
 |mk (cd pa:Addr) (kvs:List (TK×V)) (ms ws:List (List (Sg×Nat))) (P:List bz) (i:Nat) (c:bz):(vs=[.ref cd,.ref pa])->(H cd=some (.dT kvs))->(iB K H kvs P)->(qZ ms ws P)->(P[i]?=some c)->(me H pa c.key)->(P.length<=100000)->(∀(l:Addr) (gs:Ze) (H':Hp),H' l=some (.lst (gs.map V.ref))->Paired (fun g (sg:Sg)=>aW K H' g (sg.map V.str)) gs c.story->H l=none->ac H H'->Q (.ref l) H')->fQ K vs H Q E
theorem Bt{K:Za}{vs:List V}{H:Hp}{Q:VK}{E:XK}(h:fQ K vs H Q E):AZ K (bJ Q) (start Cn vs) H:=by
 obtain⟨A,n,a0,ms,ws,P,i,c,rfl,J,hP,ok,M,N,hz,k⟩:=h;refine⟨(by show 0<=ak;decide),fun l B=>?_⟩;have hi:i<P.length:=by
  rcases fy i P.length with z|z
  ·exact z
  ·rw[fO z]at M;cases M
 refine⟨fun m σ s=>∃(n:Addr) (u:bz) (p:Ze) (L:List Sg) (x:Option V),σ=[some (.ref A),some (.ref n),some (.ref l),x]/\P[m]?=some u/\s l=some (.lst (p.map V.ref))/\Paired (fun g (w:Sg)=>aW K s g (w.map V.str)) p L/\c.story=u.story++L.reverse/\me s n u.key/\L.length+m<=i/\ac H s,
  ⟨i,n,c,[],[],_,rfl,M,aa,.nil,(dh _).symm,kp N B,by simp,ac.new B⟩,?_⟩
 rintro m σ C ⟨n,u,p,L,x,rfl,a,f,O,es,D,aF,I⟩;have P1:=hP.kt (ac.kt I);have T:=I _ _ J;obtain⟨v,hv,G⟩:=P1.val ok.nd a;have g1:kM K C A (.ref n) (some v):=.inr ⟨_,oH u.key,n,.inl T,rfl,dJ.isIn 8 (fX _) D.tk,fX _,hv.symm⟩;refine⟨_,rfl,_,rfl,A,v,rfl,g1,_,rfl,?_⟩;unfold pU at G;cases y:u.from_ with
 |none =>
  rw[y]at G;subst G;refine bH ?_;have m0:m=0:=by
   rcases ok.back m u a with q|⟨j,b,w,_,_,q,_⟩
   ·exact q
   ·rw[y]at q;cases q
  subst m0;obtain⟨r,U⟩:=ok.zero;rw[U]at a;injection a with a;have Y:c.story=L.reverse:=by rw[es,<-a];rfl
  refine⟨_,rfl,.inl ⟨rfl,_,ay.of f⟩,l,_,rfl,rfl,f,?_⟩;have kt:fj C (upd C l (.lst (p.map V.ref).reverse)):=bW f;refine⟨_,rfl,k l p.reverse _ (by rw[aa,List.map_reverse]) ?_ B fun b o e=>by rw[ag (ae e B)];exact I _ _ e⟩;rw[Y];exact Paired.rev (Paired.mapP O fun _ _ r=>aW.kt kt r)
 |some al =>
  obtain⟨kk,w⟩:=al;rw[y]at G;obtain⟨t,ha,g,rfl,ht,an,as⟩:=G;refine cT ?_;have aC:∃(j:Nat) (b:bz),j<m/\P[j]?=some b/\b.key=kk/\u.story=b.story++[w]:=by
   rcases ok.back m u a with q|⟨j,b,a4,lt,hb,q,e,_⟩
   ·subst q;obtain⟨r,U⟩:=ok.zero;rw[U]at a;injection a with a;rw[<-a]at y;cases y
   ·rw[y]at q;injection q with q;injection q with q1 q2;subst q2;exact⟨j,b,lt,hb,q1.symm,e⟩
  obtain⟨j,b,lt,hb,rfl,eb⟩:=aC;refine⟨fun σ' s=>∃(n:Addr) (p:Ze) (x:Option V),σ'=[some (.ref A),some (.ref n),some (.ref l),x]/\s l=some (.lst (p.map V.ref))/\Paired (fun g (w:Sg)=>aW K s g (w.map V.str)) p (L++[w])/\me s n b.key/\ac H s,fun σ' s ⟨n,p,x,q1,q2,q3,q4,q5⟩=>⟨j,lt,n,b,p,L++[w],x,q1,hb,q2,q3,?_,q4,?_,q5⟩,?_⟩
  ·rw[es,eb,List.reverse_append,cI];rfl
  ·rw[au];show L.length+1+j<=i;omega
  refine⟨_,rfl,_,rfl,A,_,rfl,g1,t,_,rfl,be.of ht,rfl,_,_,rfl,_,_,rfl,rfl,?_⟩;refine⟨_,rfl,.inl ⟨rfl,_,ay.of f⟩,_,rfl,l,_,.ref g,rfl,rfl,f,?_,ha,p++[g],_,rfl,?_,?_,?_,?_⟩
  ·rw[aj,Paired.length O,ga];omega
  ·rw[aa,ap];rfl
  ·have kt:fj C (upd C l (.lst (p.map V.ref++[.ref g]))):=bW f;exact cr (Paired.mapP O fun _ _ r=>aW.kt kt r) (aW.kt kt as)
  ·exact bW f _ _ an
  ·intro b' o e;rw[ag (ae e B)];exact I _ _ e
theorem Em{P:List Pr}{a b:Nat}(m:P.Nodup)(h:∀p∈P,p.1<a/\p.2<b):P.length<=a * b:=by
 have j:=jY (L:=P.map fun p=>p.1 * b+p.2) (R:=jm (a * b)) ?_ ?_
 ·rw[aj,tj]at j;exact j
 ·rw[p7,List.pairwise_map];refine List.Pairwise.imp_of_mem (fun{x y} f g i e=>i ?_) (p7.1 m);obtain⟨k,n⟩:=x;obtain⟨l,o⟩:=y;have f:=(h _ f).2;have g:=(h _ g).2;simp only at f g e;have q:0<b:=by omega
  have r:k=l:=by
   have:=congrArg (· / b) e;simp only[Nat.add_comm (k * b),Nat.add_comm (l * b),Nat.add_mul_div_right _ _ q,Nat.div_eq_of_lt f,Nat.div_eq_of_lt g,wP]at this;exact this
  subst r;rw[show n=o by omega]
 ·intro x f;obtain⟨p,s,rfl⟩:=av.1 f;obtain⟨t,u⟩:=h p s;rw[List.mem_range];have:(p.1+1) * b<=a * b:=Nat.mul_le_mul_right b t;rw[Nat.succ_mul]at this;omega
def k4(ms ws:List (List (Sg×Nat)))(P:List bz)(c:bz):Prop:=∀p∈ms.getD c.key.2 [],match bN (ws.getD c.key.1 []) p.1 with
 |none=>p.1.head?=some ("ask":Str)
 |some w=>jf P (w,p.2)=true
theorem An{P r:List bz}{k:Pr}(h:jf P k=true):jf (P++r) k=true:=by
 unfold jf at h ⊢;rw[List.any_append,h];rfl
theorem k4.mono{f a:List (List (Sg×Nat))}{P r:List bz}{c:bz}(h:k4 f a P c):k4 f a (P++r) c:=fun p g=>by
 have:=h p g;cases e:bN (a.getD c.key.1 []) p.1 with
 |none=>rw[e]at this;exact this
 |some w=>rw[e]at this;exact An this
theorem BK{a:List (List (Sg×Nat))}{P:List bz}{b:bz}(l:List (Sg×Nat))(h:(cA (a.getD b.key.1 []) b P l).2=none):∀p∈l,match bN (a.getD b.key.1 []) p.1 with
 |none=>p.1.head?=some ("ask":Str)
 |some w=>jf (cA (a.getD b.key.1 []) b P l).1 (w,p.2)=true:=by
 have k:∀n,n<=l.length->(cA (a.getD b.key.1 []) b P (l.take n)).2=none->∀p∈l.take n,match bN (a.getD b.key.1 []) p.1 with
  |none=>p.1.head?=some ("ask":Str)
  |some w=>jf (cA (a.getD b.key.1 []) b P (l.take n)).1 (w,p.2)=true:=by
  intro n
  induction n with
  |zero=>intro _ _ p g;rw[sQ]at g;exact nomatch g
  |succ n j =>
   intro u;have g:l[n]?=some l[n]:=b_ (by omega);have r:cA (a.getD b.key.1 []) b P (l.take (n+1))=eV (a.getD b.key.1 []) b (cA (a.getD b.key.1 []) b P (l.take n)) l[n]:=by
    unfold cA;rw[take_snoc g,ip];rfl
   rw[r,take_snoc g];have j:=j (by omega);generalize cA (a.getD b.key.1 []) b P (l.take n)=q at j;generalize l[n]=p at *;intro f x hx;have m:q.2=none:=by
    unfold eV at f;cases e:q.2 with
    |none=>rfl
    |some s=>rw[e]at f;simp only at f;rw[e]at f;exact f
   unfold eV at f ⊢;rw[m]at f ⊢;rcases aX.1 hx with hx|hx
   ·have:=j m x hx;cases e:bN (a.getD b.key.1 []) x.1 with
    |none=>rw[e]at this;exact this
    |some w =>
     rw[e]at this;simp only at this ⊢;cases o:bN (a.getD b.key.1 []) p.1 with
     |none =>
      by_cases c:p.1.head?=some ("ask":Str)
      ·simp only[c,if_true];exact this
      ·simp only[c,if_false];exact this
     |some t =>
      cases i:jf q.1 (t,p.2)with
      |true=>simp only[i,if_true];exact this
      |false=>simp only[i,lB,if_false];exact An this
   ·have:x=p:=by simpa using hx
    subst this;cases o:bN (a.getD b.key.1 []) x.1 with
    |none =>
     rw[o]at f;by_cases c:x.1.head?=some ("ask":Str)
     ·exact c
     ·simp only[c,if_false]at f;cases f
    |some w =>
     simp only;cases i:jf q.1 (w,x.2)with
     |true=>simp only[i,if_true]
     |false =>
      simp only[i,lB,if_false];exact lV.2 (by rw[ap];exact cQ _ (by simp))
 have:=k l.length (aG _);rw[bb]at this;exact this h
theorem qK{l:List (Sg×Nat)}{a:Sg}:bM (stK l) (jL a)=(bN l a).map fun n=>V.int (n:Nat):=by
 unfold bN stK
 induction l with
 |nil=>rfl
 |cons p l e =>
  rw[bd];by_cases c:p.1=a
  ·rw[cL (by show jL p.1=jL a;rw[c]),List.find?_cons_of_pos (by simpa using c)];rfl
  ·rw[cE (fun z=>c (mH z)),List.find?_cons_of_neg (by simpa using c),e]
structure mV(H0 H:Hp)(a1 a2:Addr)(ts1 ts2:Ze)(ws ms:List (List (Sg×Nat))):Prop where
 h1:H a1=some (.lst (ts1.map V.ref))
 h2:H a2=some (.lst (ts2.map V.ref))
 r1:AQ H0 H ts1 ws
 r2:AQ H0 H ts2 ms
 S:ac H0 H
theorem mV.same{f H H':Hp}{a1 a2:Addr}{a e:Ze}{g i:List (List (Sg×Nat))}(h:mV f H a1 a2 a e g i)(S:ac H H'):mV f H' a1 a2 a e g i :=
 ⟨S _ _ h.h1,S _ _ h.h2,Paired.mapP h.r1 fun _ _ r=>⟨r.1,Rd.same S r.2⟩,Paired.mapP h.r2 fun _ _ r=>⟨r.1,Rd.same S r.2⟩,h.S.trans S⟩
theorem Rd.ne{H:Hp}{a d:Addr}{k:List (TK×V)}{o:HO}(n:a≠d)(h:Rd H a (.dT k)):Rd (upd H d o) a (.dT k):=by
 rcases h with h|⟨q,h⟩
 ·exact .inl (by rw[ag n];exact h)
 ·exact .inr ⟨q,by rw[ag n];exact h⟩
theorem mV.own{i H:Hp}{a1 a2 d:Addr}{o:HO}{f g:Ze}{k l:List (List (Sg×Nat))}(h:mV i H a1 a2 f g k l)(n:i d=none)(p:a1≠d)(s:a2≠d)(u:∀t∈f,t≠d)(v:∀t∈g,t≠d):mV i (upd H d o) a1 a2 f g k l:=by
 have j:∀{ts:Ze}{st:List (List (Sg×Nat))},AQ i H ts st->(∀t∈ts,t≠d)->AQ i (upd H d o) ts st:=by
  intro ts st r
  induction r with
  |nil=>intro _;exact .nil
  |@cons a b z bs q t w=>intro m;exact .cons ⟨q.1,Rd.ne (m a cD) q.2⟩ (w fun x y=>m x (d_ _ y))
 exact⟨by rw[ag p];exact h.h1,by rw[ag s];exact h.h2,j h.r1 u,j h.r2 v,fun b q e=>by rw[ag (ae e n)];exact h.S _ _ e⟩
theorem mV.frz{j H:Hp}{a1 a2 d:Addr}{o:Obj}{a:List (TK×V)}{f g:Ze}{k l:List (List (Sg×Nat))}(h:mV j H a1 a2 f g k l)(m:j d=none)(i:H d=some (.dT a)):mV j (upd H d (.frz o (.dT a))) a1 a2 f g k l :=
 ⟨by rw[ag (fun z=>by have:=h.h1;rw[z,i]at this;cases this)];exact h.h1,by rw[ag (fun z=>by have:=h.h2;rw[z,i]at this;cases this)];exact h.h2,
  Paired.mapP h.r1 fun _ _ r=>⟨r.1,Rd.frz i r.2⟩,Paired.mapP h.r2 fun _ _ r=>⟨r.1,Rd.frz i r.2⟩,fun b q e=>by rw[ag (ae e m)];exact h.S _ _ e⟩
theorem AQ.ne{f H:Hp}{d:Addr}{e:Ze}{st:List (List (Sg×Nat))}(h:AQ f H e st)(n:∀k,¬Rd H d (.dT k)):∀t∈e,t≠d:=by
 induction h with
 |nil=>intro t g;exact nomatch g
 |@cons a b j bs q t i =>
  intro x hx;rcases df.1 hx with rfl|hx
  ·intro z;subst z;exact n _ q.2
  ·exact i x hx
structure iO(K:Za)(H0 H:Hp)(a1 a2 cd pl:Addr)(ts1 ts2 prs:Ze)(kvs:List (TK×V))(ws ms:List (List (Sg×Nat)))(P:List bz):Prop where
 i:mV H0 H a1 a2 ts1 ts2 ws ms
 hcd:H cd=some (.dT kvs)
 came:iB K H kvs P
 hpl:H pl=some (.lst (prs.map V.ref))
 hprs:Paired (fun a (c:bz)=>me H a c.key) prs P
 ok:qZ ms ws P
 rg:∀c∈P,c.key.1<ts1.length/\c.key.2<ts2.length
 c0:H0 cd=none
 p0:H0 pl=none
 nc1:∀t∈ts1,t≠cd
 nc2:∀t∈ts2,t≠cd
 np1:a1≠pl
 np2:a2≠pl
theorem iO.same{K:Za}{g H j:Hp}{a1 a2 k l:Addr}{ts1 a e:Ze}{f:List (TK×V)}{m n:List (List (Sg×Nat))}{P:List bz}(h:iO K g H a1 a2 k l ts1 a e f m n P)(S:ac H j):iO K g j a1 a2 k l ts1 a e f m n P :=
 ⟨h.i.same S,S _ _ h.hcd,h.came.kt (ac.kt S),S _ _ h.hpl,Paired.mapP h.hprs fun _ _ r=>S _ _ r,h.ok,h.rg,h.c0,h.p0,h.nc1,h.nc2,h.np1,h.np2⟩
theorem iO.few2{K:Za}{j H:Hp}{a1 a2 k l:Addr}{e f g:Ze}{i:List (TK×V)}{m n:List (List (Sg×Nat))}{P:List bz}(h:iO K j H a1 a2 k l e f g i m n P):P.length<=e.length * f.length:=by
 have:=Em (P:=P.map (·.key)) (a:=e.length) (b:=f.length) h.ok.nd fun p o=>by
  obtain⟨c,q,rfl⟩:=av.1 o;exact h.rg c q
 rw[aj]at this;exact this
theorem iO.few{K:Za}{i H:Hp}{a1 a2 j k:Addr}{a e f:Ze}{g:List (TK×V)}{l m:List (List (Sg×Nat))}{P:List bz}(h:iO K i H a1 a2 j k a e f g l m P)(n:a.length<=256)(o:e.length<=256):P.length<=65536:=by
 have:=h.few2;have p:a.length * e.length<=256 * 256:=sN n o;omega
theorem iO.frz{K:Za}{j H:Hp}{a1 a2 k l d:Addr}{o:Obj}{ts1 a e:Ze}{f m:List (TK×V)}{p q:List (List (Sg×Nat))}{P:List bz}(h:iO K j H a1 a2 k l ts1 a e f p q P)(s:j d=none)(g:H d=some (.dT m))(n:d≠k):iO K j (upd H d (.frz o (.dT m))) a1 a2 k l ts1 a e f p q P :=
 ⟨h.i.frz s g,by rw[ag n.symm];exact h.hcd,h.came.kt (Fb g),by rw[ag (fun z=>by have:=h.hpl;rw[z,g]at this;cases this)];exact h.hpl,Paired.mapP h.hprs fun _ _ r=>Fb g _ _ r,h.ok,h.rg,h.c0,h.p0,h.nc1,h.nc2,h.np1,h.np2⟩
theorem iO.add{K:Za}{B H:Hp}{a1 a2 f g:Addr}{j l e:Ze}{a:List (TK×V)}{s t:List (List (Sg×Nat))}{P:List bz}(h:iO K B H a1 a2 f g j l e a s t P){c:bz}{v:V}{p:Addr}(D:jf P c.key=false)(E:pU K H c v)(u:me H p c.key)(ok:qZ t s (P++[c]))(G:c.key.1<j.length/\c.key.2<l.length):
  iO K B (upd (upd H f (.dT (cn a (oH c.key) v))) g (.lst (e.map V.ref++[.ref p]))) a1 a2 f g j l (e++[p]) (a++[(oH c.key,v)]) s t (P++[c]):=by
 have n:g≠f:=fun z=>by have:=h.hpl;rw[z,h.hcd]at this;cases this
 have I:fj H (upd H f (.dT (cn a (oH c.key) v))):=Fb h.hcd;have m:upd H f (.dT (cn a (oH c.key) v)) g=some (.lst (e.map V.ref)):=by rw[ag n];exact h.hpl
 have q:fj H (upd (upd H f (.dT (cn a (oH c.key) v))) g (.lst (e.map V.ref++[.ref p]))):=I.trans (bW m);have w:a1≠f:=fun z=>by have:=h.i.h1;rw[z,h.hcd]at this;cases this
 have y:a2≠f:=fun z=>by have:=h.i.h2;rw[z,h.hcd]at this;cases this
 have A:=h.i.own (o:=.dT (cn a (oH c.key) v)) h.c0 w y h.nc1 h.nc2;have C:∀k,¬Rd (upd H f (.dT (cn a (oH c.key) v))) g (.dT k):=fun k r=>by
  rcases r with r|⟨o,r⟩
  ·rw[m]at r;cases r
  ·rw[m]at r;cases r
 refine⟨A.own h.p0 h.np1 h.np2 (AQ.ne A.r1 C) (AQ.ne A.r2 C),?_,?_,?_,?_,ok,?_,h.c0,h.p0,h.nc1,h.nc2,h.np1,h.np2⟩
 ·rw[ag n.symm,aa,gp _ (h.came.none D)]
 ·exact cr (h.came.kt q) ⟨rfl,E.kt q⟩
 ·rw[aa,ap];rfl
 ·exact cr (Paired.mapP h.hprs fun _ _ r=>q _ _ r) (q _ _ u)
 ·intro x hx;rcases aX.1 hx with hx|hx
  ·exact h.rg x hx
  ·rw[bO.1 hx];exact G
structure Kv(ts1 ts2:Ze)(ws ms:List (List (Sg×Nat))):Prop where
 z1:ts1.length<=256
 z2:ts2.length<=256
 c1:∀i,∀p∈ws.getD i [],p.2<ts1.length
 c2:∀i,∀p∈ms.getD i [],p.2<ts2.length
 ne:∀i,∀p∈ms.getD i [],p.1≠[]
theorem Ag{l:List (Sg×Nat)}{f:Sg}{w:Nat}(h:bN l f=some w):(f,w)∈l:=by
 unfold bN at h;obtain⟨p,i,e⟩:=lq.1 h;have g:=List.find?_some i;have j:=List.mem_of_find?_eq_some i;obtain⟨a,b⟩:=p;have g:a=f:=of_decide_eq_true g;subst g;have e:b=w:=e;subst e;exact j
theorem Fk{H:Hp}{a b:Addr}{x y:HO}(n:a≠b):upd (upd H a x) b y=upd (upd H b y) a x:=by
 funext c;unfold upd;by_cases f:c=b
 ·by_cases e:c=a
  ·exact absurd (e.symm.trans f) n
  ·simp[f,e,n.symm]
 ·by_cases e:c=a
  ·simp[f,e,n]
  ·simp[f,e]
theorem iB.has{K:Za}{H:Hp}{a:List (TK×V)}{P:List bz}(h:iB K H a P)(f:(P.map (·.key)).Nodup)(k:Pr):(bM a (oH k)).isSome=jf P k:=by
 cases e:jf P k with
 |false=>rw[h.none e];rfl
 |true =>
  obtain⟨c,g,rfl⟩:=av.1 (lV.1 e);obtain⟨i,j,l⟩:=wQ g;obtain⟨v,m,_⟩:=h.val f (i:=i) (c:=c) (by rw[b_ j,l]);rw[m];rfl
def BL(K:Za)(sp:Sp):TS :=
 cg (tB (fG K V7 V6)) (cg (aQ (aH HG (aH (ia K) V7 (tC (.int 0))) (tC (.str "ask")))) (bm (bA (aU (aS sp (aw V2 (az V5))) V7))) (bD)) (cg (tB (fG K (bA (aU (gM K V6 V7) V8)) V2)) (ao (qD K V2 (bA (aU (gM K V6 V7) V8)) (bA (aU V5 V7)))
 (bG (qx K "list" ci V3 (az (bA (aU (gM K V6 V7) V8)))))) (bD))
section
variable{K:Za}{H0:Hp}{a1 a2 cd pl ha wd md:Addr}{ts1 ts2:Ze}{ws ms:List (List (Sg×Nat))}{n:Nat}{b:bz}{wl l:List (Sg×Nat)}{o:Obj}{D:mj}
theorem HX(C:Kv ts1 ts2 ws ms){H H':Hp}{k:Ze}{a:List (TK×V)}{P:List bz}{p:Sg×Nat}{sb pp:Addr}{x7 x8:Option V}(A:iO K H0 H a1 a2 cd pl ts1 ts2 k a ws ms P)(hb:P[n]?=some b)(O:me H ha b.key)(m:Rd H wd (.dT (stK wl)))(Q:wl=ws.getD b.key.1 [])(hp:p∈ms.getD b.key.2 [])(f:aW K H sb (p.1.map V.str))(a5:wd≠cd)
  (fault:∀(t lst:Addr) (gs:Ze) (h:Hp),bN wl p.1=none->p.1.head?≠some ("ask":Str)->h t=some (.tup [.ref lst,.ref sb])->h lst=some (.lst (gs.map V.ref))->Paired (fun g (sg:Sg)=>aW K h g (sg.map V.str)) gs b.story->aW K h sb (p.1.map V.str)->H0 t=none->H0 lst=none->mV H0 h a1 a2 ts1 ts2 ws ms->D.rt (.ref t) h)
  (next:∀(T:Ze) (U:List (TK×V)) (h:Hp),(eV wl b (P,none) p).2=none->iO K H0 h a1 a2 cd pl ts1 ts2 T U ws ms (eV wl b (P,none) p).1->(∀x u,H x=some u->x≠cd->x≠pl->h x=some u)->D.nx [some (.ref a1),some (.ref a2),some (.ref cd),some (.ref pl),some (.int ((n:Int)+1)),some (.ref ha),some (.ref wd),some (.ref sb),some (.int (p.2:Nat))] h) :
  BL K (fQ K) D [some (.ref a1),some (.ref a2),some (.ref cd),some (.ref pl),some (.int ((n:Int)+1)),some (.ref ha),some (.ref wd),some (.ref sb),some (.int (p.2:Nat))] H:=by
 have few:=A.few C.z1 C.z2;have gw:∀{H:Hp},Rd H wd (.dT (stK wl))->aW K H sb (p.1.map V.str)->kM K H wd (.ref sb) ((bN wl p.1).map fun n=>V.int (n:Nat)):=fun m f=>.inr ⟨_,jL p.1,sb,m,rfl,xB f,eF _,qK.symm⟩;refine⟨_,rfl,_,rfl,wd,_,rfl,gw m f,_,rfl,?_⟩;cases e:bN wl p.1 with
 |none =>
  refine cT ?_;obtain⟨s0,bl,es⟩:=List.exists_cons_of_ne_nil (C.ne _ p hp);have a6:pO (p.1.map V.str) 0=some (.str s0):=by rw[es];exact bc (j:=0) rfl
  refine⟨_,rfl,sb,_,0,_,rfl,rfl,aW.sq f,a6,rfl,_,rfl,?_⟩;refine ED (P:=p.1.head?≠some ("ask":Str)) (by rw[es];simp) (fun c=>?_) (fun c=>?_)
  ·refine⟨_,rfl,_,rfl,cd,ha,a,ms,ws,P,n,b,rfl,A.hcd,A.came,A.ok,hb,O,by omega,fun lst gs h hl hg a7 L=>⟨_,rfl,(by show 2<=ak;decide),fun t M=>?_⟩⟩;have y:ac h (upd h t (.tup [.ref lst,.ref sb])):=ac.new M;exact fault t lst gs _ e c aa (y _ _ hl) (Paired.mapP hg fun _ _ r=>aW.kt (ac.kt y) r) (aW.kt ((ac.kt L).trans (ac.kt y)) f) ((A.i.S.trans L).free M) (A.i.S.free a7) (A.i.same (L.trans y))
  ·have c':=Classical.not_not.1 c;have B:eV wl b (P,none) p=(P,none):=by unfold eV;simp only[e,c',if_true]
   exact next k a H (by rw[B]) (by rw[B];exact A) fun x u q _ _=>q
 |some w =>
  refine bH ?_;have G:∀{H:Hp},Rd H wd (.dT (stK wl))->aW K H sb (p.1.map V.str)->kM K H wd (.ref sb) (some (.int (w:Nat))):=fun h1 h2=>by
   have:=gw h1 h2;rw[e]at this;exact this
  have hw:=Ag e;rw[Q]at hw;have rg:w<ts1.length/\p.2<ts2.length:=⟨C.c1 _ _ hw,C.c2 _ _ hp⟩;have l2:([V.int (w:Nat),V.int (p.2:Nat)]:List V).length<=ak:=by show 2<=ak;decide
  refine⟨_,rfl,_,rfl,wd,_,rfl,G m f,_,rfl,l2,fun Y a8=>?_⟩;have N:ac H (upd H Y (.tup [.int (w:Nat),.int (p.2:Nat)])):=ac.new a8;have al:me (upd H Y (.tup [.int (w:Nat),.int (p.2:Nat)])) Y (w,p.2):=aa;generalize upd H Y (.tup [.int (w:Nat),.int (p.2:Nat)])=H1 at N al ⊢;have A1:=A.same N;refine⟨_,rfl,cd,_,rfl,.inr ⟨_,oH (w,p.2),Y,.inl A1.hcd,rfl,dJ.isIn 8 (fX _) al.tk,fX _,rfl⟩,_,rfl,?_⟩;rw[A1.came.has A1.ok.nd];cases eh:jf P (w,p.2)with
  |true =>
   refine bH ?_;have B:eV wl b (P,none) p=(P,none):=by unfold eV;simp only[e,eh,if_true]
   exact next k a H1 (by rw[B]) (by rw[B];exact A1) fun x u q _ _=>N _ _ q
  |false =>
   refine cT ?_;have B:eV wl b (P,none) p=(P++[⟨(w,p.2),some (b.key,p.1),b.story++[p.1]⟩],none):=by unfold eV;simp only[e,eh,lB,if_false]
   refine⟨_,rfl,_,rfl,(by show 2<=ak;decide),fun t M=>⟨_,rfl,_,rfl,_,rfl,wd,_,rfl,G (Rd.same (N.trans (ac.new M)) m) (aW.kt (ac.kt (N.trans (ac.new M))) f),_,rfl,l2,fun p2 an=>?_⟩⟩;have L:ac H1 (upd H1 t (.tup [.ref ha,.ref sb])):=ac.new M;have t2:upd H1 t (.tup [.ref ha,.ref sb]) t=some (.tup [.ref ha,.ref sb]):=aa;generalize upd H1 t (.tup [.ref ha,.ref sb])=h at L t2 an ⊢;have y:ac h (upd h p2 (.tup [.int (w:Nat),.int (p.2:Nat)])):=ac.new an;have as:me (upd h p2 (.tup [.int (w:Nat),.int (p.2:Nat)])) p2 (w,p.2):=aa;generalize upd h p2 (.tup [.int (w:Nat),.int (p.2:Nat)])=I at y as ⊢;have s:=(N.trans L).trans y;have A3:=A.same s;have lk:a.length<ak:=by rw[Paired.length A.came,ga];omega
   refine⟨cd,p2,a,oH (w,p.2),rfl,rfl,A3.hcd,dJ.c 8 (fX _) as.tk,fX _,lk,?_⟩;have aC:pl≠cd:=fun z=>by have:=A.hpl;rw[z,A.hcd]at this;cases this
   have a9:upd I cd (.dT (cn a (oH (w,p.2)) (.ref t))) pl=some (.lst (k.map V.ref)):=by rw[ag aC];exact A3.hpl
   have bf:Rd (upd I cd (.dT (cn a (oH (w,p.2)) (.ref t)))) wd (.dT (stK wl)):=Rd.ne a5 (Rd.same s m);refine⟨_,rfl,.inl ⟨rfl,_,ay.of a9⟩,_,rfl,_,rfl,wd,_,rfl,G bf (aW.kt ((ac.kt s).trans (Fb A3.hcd)) f),_,rfl,l2,fun E v=>?_⟩;have aF:cd≠E:=fun z=>by rw[<-z,aa]at v;cases v
   have a0:I E=none:=by rw[ag aF.symm]at v;exact v
   rw[Fk aF];have S4:ac I (upd I E (.tup [.int (w:Nat),.int (p.2:Nat)])):=ac.new a0;have a4:me (upd I E (.tup [.int (w:Nat),.int (p.2:Nat)])) E (w,p.2):=aa;generalize upd I E (.tup [.int (w:Nat),.int (p.2:Nat)])=H4 at S4 a4 ⊢;have A4:=A3.same S4;have J:=s.trans S4;have bi:upd H4 cd (.dT (cn a (oH (w,p.2)) (.ref t))) pl=some (.lst (k.map V.ref)):=by rw[ag aC];exact A4.hpl
   refine⟨pl,_,.ref E,rfl,rfl,bi,?_,?_⟩
   ·rw[aj,Paired.length A.hprs,ga];omega
   have cv:pU K H4 ⟨(w,p.2),some (b.key,p.1),b.story++[p.1]⟩ (.ref t):=⟨t,ha,sb,rfl,S4 _ _ (y _ _ t2),J _ _ O,aW.kt (ac.kt J) f⟩;refine next (k++[E]) (a++[(oH (w,p.2),.ref t)]) _ (by rw[B]) ?_ fun x u q n1 n2=>by rw[ag n2,ag n1];exact J _ _ q
   rw[B];exact A4.add (c:=⟨(w,p.2),some (b.key,p.1),b.story++[p.1]⟩) eh cv a4 (A.ok.add hb eh (by rw[<-Q];exact e) hp) rg
end
def ix(ms ws:List (List (Sg×Nat))):Nat->List bz×Option (List Sg×Sg)
 |0=>([⟨(0,0),none,[]⟩],none)
 |n+1=>match (ix ms ws n).2 with
  |some _=>ix ms ws n
  |none=>match (ix ms ws n).1[n]? with
   |none=>ix ms ws n
   |some c=>((cA (ws.getD c.key.1 []) c (ix ms ws n).1 (ms.getD c.key.2 [])).1,(cA (ws.getD c.key.1 []) c (ix ms ws n).1 (ms.getD c.key.2 [])).2.map fun sg=>(c.story,sg))
theorem Ai{a e:List (List (Sg×Nat))}{n:Nat}{P:List bz}{c:bz}(h:ix a e n=(P,none))(f:P[n]?=some c):ix a e (n+1)=((cA (e.getD c.key.1 []) c P (a.getD c.key.2 [])).1,(cA (e.getD c.key.1 []) c P (a.getD c.key.2 [])).2.map fun g=>(c.story,g)):=by
 show(match (ix a e n).2 with|some _=>_|none=>_)=_
 rw[h];simp only[f]
theorem rF(w:List (Sg×Nat))(b:bz):∀(l:List (Sg×Nat)) (q:List bz×Option Sg) (s:Sg),q.2=some s->(l.foldl (eV w b) q).2=some s
 |[],_,_,h=>h
 |p::l,q,s,h=>by
  rw[lr];have e:eV w b q p=q:=by unfold eV;rw[h]
  rw[e];exact rF w b l q s h
theorem Ah{w:List (Sg×Nat)}{b:bz}{P:List bz}{l:List (Sg×Nat)}{i:Nat}{p:Sg×Nat}(h:(cA w b P (l.take i)).2=none)(a:l[i]?=some p)(f:bN w p.1=none)(g:p.1.head?≠some ("ask":Str)):(cA w b P l).2=some p.1:=by
 have e:l=l.take i++p::l.drop (i+1):=by
  obtain⟨j,k⟩:=bY.1 a;rw[<-k,List.getElem_cons_drop j,sS]
 unfold cA at h ⊢;rw[e,ip,lr];refine rF w b _ _ _ ?_;generalize(l.take i).foldl (eV w b) (P,none)=q at h;unfold eV;simp only[h,f,g,if_false]
theorem AQ.rd{a H:Hp}{f:Ze}{st:List (List (Sg×Nat))}(h:AQ a H f st){i:Nat}{d:Addr}(e:f[i]?=some d):a d=none/\Rd H d (.dT (stK (st.getD i []))):=by
 obtain⟨l,g,j,k⟩:=Paired.getL h e;have:st.getD i []=l:=by rw[sO,g];rfl
 rw[this];exact⟨j,k⟩
theorem Jo{K:Za}{N:Hp}{a1 a2 w O ha Q T:Addr}{l m:Ze}{k e:List (List (Sg×Nat))}{n:Nat}{b:bz}{o:Obj}{D:mj}(C:Kv l m k e){H:Hp}{al:Ze}{an:List (TK×V)}{P:List bz}{x y:Option V}(A:iO K N H a1 a2 w O l m al an k e P)(hb:P[n]?=some b)(aC:me H ha b.key)
  (as:l[b.key.1]?=some Q) (aF:m[b.key.2]?=some T) (a0:H T=some (.frz o (.dT (stK (e.getD b.key.2 [])))))
  (fault:∀(I:List bz) (p:Sg×Nat) (u t lst:Addr) (gs:Ze) (q:Hp),qZ e k I->(∃r,I=P++r)->(cA (k.getD b.key.1 []) b P (e.getD b.key.2 [])).2=some p.1->p∈e.getD b.key.2 []->bN (k.getD b.key.1 []) p.1=none->p.1.head?≠some ("ask":Str)->q t=some (.tup [.ref lst,.ref u])->q lst=some (.lst (gs.map V.ref))->Paired (fun g (sg:Sg)=>aW K q g (sg.map V.str)) gs b.story->aW K q u (p.1.map V.str)->N t=none->N lst=none->mV N q a1 a2 l m k e->D.rt (.ref t) q)
  (next:∀(I:List bz) (f:Ze) (j:List (TK×V)) (x y:Option V) (q:Hp),(∃r,I=P++r)->cA (k.getD b.key.1 []) b P (e.getD b.key.2 [])=(I,none)->k4 e k I b->iO K N q a1 a2 w O l m f j k e I->D.nx [some (.ref a1),some (.ref a2),some (.ref w),some (.ref O),some (.int ((n:Int)+1)),some (.ref ha),some (.ref Q),x,y] q) :
  Ke (Ix T o (.dT (stK (e.getD b.key.2 []))) (stK (e.getD b.key.2 [])).length (BZ K (stK (e.getD b.key.2 [])))) (jg K 2 (bj U7 (bj U8 (iM)))) (BL K (fQ K)) D [some (.ref a1),some (.ref a2),some (.ref w),some (.ref O),some (.int ((n:Int)+1)),some (.ref ha),some (.ref Q),x,y] H:=by
 have a4:(stK (e.getD b.key.2 [])).length=(e.getD b.key.2 []).length:=by unfold stK;rw[aj]
 have B:=fun i=>Gp A.ok hb ((e.getD b.key.2 []).take i) fun p E=>fA E;have lt:n<P.length:=by
  rcases fy n P.length with z|z
  ·exact z
  ·rw[fO z]at hb;cases hb
 refine ww (fun i σ H'=>J_ fun(f:Ze) (j:List (TK×V)) (x y:Option V)=>GZ (σ=[some (.ref a1),some (.ref a2),some (.ref w),some (.ref O),some (.int ((n:Int)+1)),some (.ref ha),some (.ref Q),x,y]) ((cA (k.getD b.key.1 []) b P ((e.getD b.key.2 []).take i)).2=none) (iO K N H' a1 a2 w O l m f j k e (cA (k.getD b.key.1 []) b P ((e.getD b.key.2 []).take i)).1) (H' T=some (.frz o (.dT (stK (e.getD b.key.2 []))))) (me H' ha b.key))
  ⟨al,an,_,_,rfl,rfl,A,a0,aC⟩ ?_ ?_ ?_
 ·rintro i σ H' _ ⟨_,_,_,_,_,_,_,h,_⟩;exact h
 ·rintro i σ U pp a v hi ⟨f,j,x,y,rfl,Y,A3,J,s⟩ a5 ⟨bn,ek,a6⟩;unfold stK at ek;rw[cb]at ek;obtain⟨p,E,ep⟩:=lq.1 ek;cases ep;obtain⟨u,rfl,a7⟩:=y4 a6;have S:ac U (upd U pp (.tup [.ref u,.int (p.2:Nat)])):=ac.new a5;have G:upd U pp (.tup [.ref u,.int (p.2:Nat)]) pp=some (.tup [.ref u,.int (p.2:Nat)]):=aa;generalize upd U pp (.tup [.ref u,.int (p.2:Nat)])=H4 at S G ⊢;refine⟨pp,_,rfl,be.of G,rfl,_,_,rfl,_,_,rfl,rfl,?_⟩;have A4:=A3.same S;obtain⟨⟨r,er⟩,a8,_⟩:=B i;have es:cA (k.getD b.key.1 []) b P ((e.getD b.key.2 []).take (i+1))=eV (k.getD b.key.1 []) b (cA (k.getD b.key.1 []) b P ((e.getD b.key.2 []).take i)) p:=by
   unfold cA;rw[take_snoc E,ip];rfl
  have e2:cA (k.getD b.key.1 []) b P ((e.getD b.key.2 []).take i)=((cA (k.getD b.key.1 []) b P ((e.getD b.key.2 []).take i)).1,none):=by rw[<-Y]
  have a9:(cA (k.getD b.key.1 []) b P ((e.getD b.key.2 []).take i)).1[n]?=some b:=by rw[er,dv lt];exact hb
  obtain⟨w0,bf⟩:=AQ.rd A4.i.r1 as;have bi:T≠w:=A.nc2 T (aY aF);have bl:Q≠w:=A.nc1 Q (aY as);refine HX C (n:=n) (b:=b) (p:=p) (sb:=u) (x7:=none) (x8:=none) (pp:=pp) (H':=H4) A4 a9 (S _ _ s) bf rfl (aY E) (aW.kt (ac.kt S) a7) bl ?_ ?_
  ·intro t lst gs q f1 f2 f3 f4 f5 f6 f7 f8 f9;exact fault _ p u t lst gs q a8 ⟨r,er⟩ (Ah Y E f1 f2) (aY E) f1 f2 f3 f4 f5 f6 f7 f8 f9
  ·intro L M q g1 g2 g3;rw[es,e2];refine⟨L,M,_,_,rfl,g1,g2,?_,?_⟩
   ·refine g3 _ _ (S _ _ J) bi fun z=>?_;have:=A4.hpl;rw[<-z,S _ _ J]at this;cases this
   ·refine g3 _ _ (S _ _ s) (fun z=>?_) fun z=>?_
    ·have:=A4.hcd;rw[<-z,S _ _ s]at this;cases this
    ·have:=A4.hpl;rw[<-z,S _ _ s]at this;cases this
 ·rintro σ U ⟨f,j,x,y,rfl,Y,A3,J,s⟩;rw[a4,bb]at Y A3;obtain⟨⟨r,er⟩,_⟩:=B (e.getD b.key.2 []).length;rw[bb]at er;exact next _ f j x y U ⟨r,er⟩ (by rw[<-Y]) (fun p E=>BK _ Y p E) A3
inductive hE(K:Za)(vs:List V)(H:Hp)(Q:VK)(E:XK):Prop
 |mk (H0:Hp) (a1 a2:Addr) (ts1 ts2:Ze) (ws ms:List (List (Sg×Nat))):(vs=[.ref a1,.ref a2])->(mV H0 H a1 a2 ts1 ts2 ws ms)->(Kv ts1 ts2 ws ms)->(0<ts1.length)->(0<ts2.length)->((∀(P:List bz) (H':Hp),qZ ms ws P->ix ms ws P.length=(P,none)->P.length<=ts1.length * ts2.length->(∀c∈P,k4 ms ws P c)->mV H0 H' a1 a2 ts1 ts2 ws ms->Q .non H'))->(∀(P:List bz) (i:Nat) (c:bz) (p:Sg×Nat) (sb t lst:Addr) (gs:Ze) (H':Hp),qZ ms ws P->(ix ms ws (i+1)).2=some (c.story,p.1)->i<ts1.length * ts2.length->P[i]?=some c->(∀(j:Nat) (c':bz),j<i->P[j]?=some c'->k4 ms ws P c')->p∈ms.getD c.key.2 []->bN (ws.getD c.key.1 []) p.1=none->p.1.head?≠some ("ask":Str)->H' t=some (.tup [.ref lst,.ref sb])->H' lst=some (.lst (gs.map V.ref))->Paired (fun g (sg:Sg)=>aW K H' g (sg.map V.str)) gs c.story->aW K H' sb (p.1.map V.str)->H0 t=none->H0 lst=none->mV H0 H' a1 a2 ts1 ts2 ws ms->Q (.ref t) H')->hE K vs H Q E
theorem vz{K:Za}{vs:List V}{H:Hp}{Q:VK}{E:XK}(h:hE K vs H Q E):vc K (fQ K) (bJ Q) (start vM vs) H:=by
 obtain⟨T,a1,a2,g,l,w,ms,rfl,I,C,z1,z2,kn,kf⟩:=h;have l2:([V.int 0,V.int 0]:List V).length<=ak:=by show 2<=ak;decide
 refine fun f x=>⟨l2,fun p0 bp=>?_⟩;have S1:ac H (upd H f (.dT [])):=ac.new x;have S2:ac (upd H f (.dT [])) (upd (upd H f (.dT [])) p0 (.tup [.int 0,.int 0])):=ac.new bp;have an:=S2 _ _ (aa (H:=H) (a:=f) (o:=.dT []));have as:me (upd (upd H f (.dT [])) p0 (.tup [.int 0,.int 0])) p0 (0,0):=aa;have I2:=I.same (S1.trans S2);have c0:T f=none:=I.S.free x;have nc:∀{ts:Ze}{st:List (List (Sg×Nat))},AQ T H ts st->∀t∈ts,t≠f:=fun r=>AQ.ne r fun k q=>by
  rcases q with q|⟨o,q⟩
  ·rw[x]at q;cases q
  ·rw[x]at q;cases q
 have a6:=nc I.r1;have a7:=nc I.r2;have b1:a1≠f:=ae I.h1 x;have b2:a2≠f:=ae I.h2 x;generalize upd (upd H f (.dT [])) p0 (.tup [.int 0,.int 0])=H2 at an as I2 ⊢;refine⟨an,p0,oH (0,0),rfl,dJ.c 8 (fX _) as.tk,fX _,?_⟩;have I3:=I2.own (o:=.dT [(oH (0,0),.non)]) c0 b1 b2 a6 a7;have aC:upd H2 f (.dT [(oH (0,0),.non)]) f=some (.dT [(oH (0,0),.non)]):=aa;generalize upd H2 f (.dT [(oH (0,0),.non)])=H3 at I3 aC ⊢;refine⟨l2,fun M b3=>⟨(by show 1<=ak;decide),fun v B=>?_⟩⟩;have S4:ac H3 (upd H3 M (.tup [.int 0,.int 0])):=ac.new b3;have aF:me (upd H3 M (.tup [.int 0,.int 0])) M (0,0):=aa;generalize upd H3 M (.tup [.int 0,.int 0])=H4 at S4 aF B ⊢;have S5:ac H4 (upd H4 v (.lst [.ref M])):=ac.new B;have a8:upd H4 v (.lst [.ref M]) v=some (.lst (([M]:Ze).map V.ref)):=aa;have I5:=(I3.same S4).same S5;have A5:iO K T (upd H4 v (.lst [.ref M])) a1 a2 f v g l [M] [(oH (0,0),.non)] w ms [⟨(0,0),none,[]⟩]:=by
  refine⟨I5,S5 _ _ (S4 _ _ aC),.cons ⟨rfl,rfl⟩ .nil,a8,.cons (S5 _ _ aF) .nil,EO ms w,fun c y=>?_,c0,(I3.same S4).S.free B,a6,a7,ae (I3.same S4).h1 B,ae (I3.same S4).h2 B⟩;rw[bO.1 y];exact⟨z1,z2⟩
 generalize upd H4 v (.lst [.ref M])=H5 at A5 ⊢;clear S1 S2 an as I2 I3 aC S4 aF S5 a8 I5;refine⟨fun m σ N=>∃(n:Nat) (P:List bz) (s:Ze) (u:List (TK×V)) (U Y D G:Option V),m=70000-n/\n<=P.length/\σ=[some (.ref a1),some (.ref a2),some (.ref f),some (.ref v),some (.int (n:Int)),U,Y,D,G]/\iO K T N a1 a2 f v g l s u w ms P/\ix ms w n=(P,none)/\∀(j:Nat) (c:bz),j<n->P[j]?=some c->k4 ms w P c,
  ⟨70000,0,_,_,_,_,_,_,_,rfl,c_ _,rfl,A5,rfl,fun j c hj=>by omega⟩,?_⟩
 rintro m σ H6 ⟨n,P,s,u,U,Y,D,G,rfl,hn,rfl,A,a0,al⟩;have few:=A.few C.z1 C.z2;have few2:=A.few2;refine⟨_,rfl,_,rfl,.inl ⟨v,_,rfl,.inl (ay.of A.hpl),_,_,rfl,rfl,_,rfl,?_⟩⟩;have zp:(s.map V.ref).length=P.length:=by rw[aj,Paired.length A.hprs]
 refine ED (P:=n<P.length) (by rw[zp];simp) (fun lt=>?_) (fun ge=>?_);rotate_left
 ·have e:n=P.length:=by omega
  refine kn P H6 A.ok (by rw[<-e];exact a0) few2 (fun c y=>?_) A.i;obtain⟨j,hj,ej⟩:=wQ y;exact al j c (by omega) (by rw[b_ hj,ej])
 have hb:P[n]?=some P[n]:=b_ lt;obtain⟨ha,b4,J⟩:=Paired.get A.hprs hb;have a4:=A.rg P[n] (ka _);generalize P[n]=b at hb J a4;have b5:pO (s.map V.ref) n=some (.ref ha):=bc (by rw[cb,b4];rfl);have a5:g[b.key.1]?=some g[b.key.1]:=b_ a4.1;have L:l[b.key.2]?=some l[b.key.2]:=b_ a4.2;have a9:pO (g.map V.ref) (b.key.1:Nat)=some (.ref g[b.key.1]):=bc (by rw[cb,a5];rfl);have bf:pO (l.map V.ref) (b.key.2:Nat)=some (.ref l[b.key.2]):=bc (by rw[cb,L];rfl);generalize g[b.key.1]=wd at a5 a9;generalize l[b.key.2]=md at L bf;have b6:md≠f:=A.nc2 md (aY L);refine⟨fun σ' N=>∃m',m'<70000-n/\∃(n:Nat) (P:List bz) (s:Ze) (u:List (TK×V)) (U Y D G:Option V),m'=70000-n/\n<=P.length/\σ'=[some (.ref a1),some (.ref a2),some (.ref f),some (.ref v),some (.int (n:Int)),U,Y,D,G]/\iO K T N a1 a2 f v g l s u w ms P/\ix ms w n=(P,none)/\∀(j:Nat) (c:bz),j<n->P[j]?=some c->k4 ms w P c,fun σ' N h=>h,?_⟩;refine⟨_,rfl,_,rfl,v,_,_,_,rfl,rfl,ay.of A.hpl,b5,?_⟩;refine⟨_,rfl,_,_,rfl,rfl,?_⟩;refine⟨_,rfl,_,rfl,ha,_,0,_,rfl,rfl,be.of J,bc (j:=0) rfl,a1,_,_,_,rfl,rfl,ay.of A.i.h1,a9,?_⟩;refine⟨_,rfl,_,rfl,ha,_,1,_,rfl,rfl,be.of J,bc (j:=1) rfl,a2,_,_,_,rfl,rfl,ay.of A.i.h2,bf,md,stK (ms.getD b.key.2 []),rfl,?_⟩;obtain⟨b7,b8⟩:=AQ.rd A.i.r2 L;have up:∀{O:List bz},(∃r,O=P++r)->(∀(j:Nat) (c:bz),j<n->O[j]?=some c->k4 ms w O c)/\O[n]?=some b/\n+1<=O.length:=by
  rintro O ⟨r,rfl⟩;refine⟨fun j c hj y=>?_,by rw[dv lt];exact hb,by rw[au];omega⟩;rw[dv (by omega)]at y;exact(al j c hj y).mono
 have bi:∀{H7:Hp}{o:Obj},iO K T H7 a1 a2 f v g l s u w ms P->me H7 ha b.key->H7 md=some (.frz o (.dT (stK (ms.getD b.key.2 []))))->Ke (Ix md o (.dT (stK (ms.getD b.key.2 []))) (stK (ms.getD b.key.2 [])).length (BZ K (stK (ms.getD b.key.2 [])))) (jg K 2 (bj U7 (bj U8 (iM)))) (BL K (fQ K)) { nx:=fun σ' N=>∃m',m'<70000-n/\∃(n:Nat) (P:List bz) (s:Ze) (u:List (TK×V)) (U Y D G:Option V),m'=70000-n/\n<=P.length/\σ'=[some (.ref a1),some (.ref a2),some (.ref f),some (.ref v),some (.int (n:Int)),U,Y,D,G]/\iO K T N a1 a2 f v g l s u w ms P/\ix ms w n=(P,none)/\∀(j:Nat) (c:bz),j<n->P[j]?=some c->k4 ms w P c,rt:=Q,ct:=fun σ' N=>∃m',m'<70000-n/\∃(n:Nat) (P:List bz) (s:Ze) (u:List (TK×V)) (U Y D G:Option V),m'=70000-n/\n<=P.length/\σ'=[some (.ref a1),some (.ref a2),some (.ref f),some (.ref v),some (.int (n:Int)),U,Y,D,G]/\iO K T N a1 a2 f v g l s u w ms P/\ix ms w n=(P,none)/\∀(j:Nat) (c:bz),j<n->P[j]?=some c->k4 ms w P c,bk:=fun σ N=>bm (tC .non) (bJ Q) σ N } [some (.ref a1),some (.ref a2),some (.ref f),some (.ref v),some (.int ((n:Int)+1)),some (.ref ha),some (.ref wd),D,G] H7:=by
  intro H7 o A7 b9 ca;refine Jo C A7 hb b9 a5 L ca ?_ ?_
  ·intro O p sb t lst gs H2 cc ex fr f0 f1 f2 f3 f4 f5 f6 f7 f8 f9;obtain⟨u1,u2,_⟩:=up ex;exact kf O n b p sb t lst gs H2 cc (by rw[Ai a0 hb,fr];rfl) (by omega) u2 u1 f0 f1 f2 f3 f4 f5 f6 f7 f8 f9
  ·intro O bl bn D G H2 ex fr ro A';obtain⟨u1,u2,u3⟩:=up ex;refine⟨70000-(n+1),by omega,n+1,O,bl,bn,_,_,D,G,rfl,u3,by rw[show((n+1:Nat):Int)=(n:Int)+1 from by omega],A',by rw[Ai a0 hb,fr];rfl,fun j c hj y=>?_⟩;rcases fy j n with z|z
   ·exact u1 j c z y
   ·have:j=n:=by omega
    subst this;rw[u2]at y;injection y with y;subst y;exact ro
 rcases b8 with e|⟨o,e⟩
 ·exact .inl ⟨e,fun o=>bi (A.frz b7 e b6) (Fb e _ _ J) aa⟩
 ·exact .inr ⟨o,e,bi A J e⟩
def zZ:Option Nat->V
 |none=>.non
 |some n=>.int (n:Nat)
def dI(fc:Nat)(st:List (Sg×Nat))(d:ai):List (Str×Option Nat) :=
 if d.sg=am then[(d.b,some fc)]else if(bN st d.sg).isSome=true∨d.sg.head?=some ("say":Str)then[(d.b,bN st d.sg)]else[]
def uc(rooms:Zb)(ds:List ai)(room:Str)(fc:Nat)(st:List (Sg×Nat)):List (Str×Option Nat) :=
 (bE ds room).flatMap (dI fc st)++if room∈rooms.filter (cX ds)then[(room,bN st aT)]else[]
abbrev jh(H:Hp)(us:Ze)(L:List (Str×Option Nat)):Prop:=Paired (fun u (r:Str×Option Nat)=>H u=some (.tup [.str r.1,zZ r.2])) us L
theorem jh.kt{H H':Hp}{a:Ze}{L:List (Str×Option Nat)}(k:fj H H')(h:jh H a L):jh H' a L:=Paired.mapP h fun _ _ r=>k _ _ r
theorem yt(a:Nat)(st:List (Sg×Nat))(d:ai):(dI a st d).length<=1:=by
 unfold dI;split
 ·exact aG _
 ·split
  ·exact aG _
  ·exact c_ _
theorem ub(a:Nat)(st:List (Sg×Nat)):∀L:List ai,(L.flatMap (dI a st)).length<=L.length
 |[]=>aG _
 |d::L=>by
  rw[wO,au,fo];have:=yt a st d;have:=ub a st L;omega
inductive o0(K:Za)(C:Addr)(vs:List V)(H:Hp)(Q:VK)(E:XK):Prop
 |mk (x sd:Addr) (room:Str) (fc:Nat) (st:List (Sg×Nat)) (J0 J1 rooms:Zb) (ds:List ai):(vs=[.ref x,.str room,.int (fc:Nat),.ref sd])->(bt C H x J0 J1 rooms ds)->(room∈rooms)->(Rd H sd (.dT (stK st)))->(∀(l:Addr) (us:Ze) (H':Hp),H' l=some (.lst (us.map V.ref))->jh H' us (uc rooms ds room fc st)->H l=none->ac H H'->Q (.ref l) H')->o0 K C vs H Q E
theorem zY{l:List (Sg×Nat)}{a:Sg}:((bN l a).map fun n=>V.int (n:Nat)).getD .non=zZ (bN l a):=by
 cases bN l a<;>rfl
theorem FE{K:Za}{C hu sa:Addr}(hh:∀H,be K H hu (aT.map V.str))(hs:∀H,be K H sa (am.map V.str)){vs:List V}{H:Hp}{Q:VK}{E:XK}(h:o0 K C vs H Q E):u_ K C (fW C) hu (hU C) sa (bJ Q) (start vJ vs) H:=by
 obtain⟨x,s,room,t,st,J0,J1,rooms,B,rfl,M,hr,Y,k⟩:=h;have z4:=M.ok.few;refine⟨(by show 0<=ak;decide),fun l hl=>?_⟩;have S0:ac H (upd H l (.lst [])):=ac.new hl;obtain⟨dx,fs,o1,o2,lv,aC,g1,a1,a2,a3,a4,_⟩:=nT (M.same S0);refine⟨_,rfl,x,dx,fs,rfl,g1,a3,_,rfl,x,room,J0,J1,rooms,B,rfl,M.same S0,hr,fun dl du H1 al hD D S1=>⟨dl,rfl,⟨_,ay.of al⟩,?_⟩⟩;have lz:(bE B room).length<=1000:=bB (eG _ _) (by omega);have aF:dl≠l:=fun z=>by rw[z,aa]at D;cases D
 refine bR (xs:=du.map V.ref) (fun i σ A=>∃(g:Ze) (L N O:Option V),σ=[some (.ref x),some (.str room),some (.int (t:Nat)),some (.ref s),some (.ref l),L,N,O]/\A l=some (.lst (g.map V.ref))/\jh A g (((bE B room).take i).flatMap (dI t st))/\ac H A/\∀b o,H1 b=some o->b≠l->A b=some o)
  ⟨[],_,_,_,rfl,S1 _ _ aa,.nil,S0.trans S1,fun _ _ e _=>e⟩ (fun i σ A _ ⟨_,_,_,_,_,_,_,_,e⟩=>ay.of (e _ _ al aF)) ?_ ?_
 ·rintro i y σ q hi ⟨g,L,N,O,rfl,f,G,I,e2⟩;obtain⟨u,a0,rfl⟩:=cM hi;obtain⟨d,hd,a5⟩:=Paired.getL hD a0;have a6:fj H1 q:=fun b xs e=>e2 _ _ e fun z=>by have:=S1 _ _ (aa (H:=H) (a:=l) (o:=.lst []));rw[<-z,e]at this;cases this
  obtain⟨sb,a7,T⟩:=a5.kt a6;have U:=M.ok.good d (bP.1 (aY hd)).1;obtain⟨s0,bf,an,_⟩:=qA U;have il:i<(bE B room).length:=(bY.mp hd).1;have ul:g.length<=1000:=by
   rw[Paired.length G];refine bB (ub t st _) ?_;rw[aN];omega
  have v:Rd q s (.dT (stK st)):=Rd.same I Y;have row:∀{J:Hp}(r:Str×Option Nat) (p:Addr),ac q J->J p=none->dI t st d=[r]->∃(as:Ze) (L N O:Option V),([some (.ref x),some (.str room),some (.int (t:Nat)),some (.ref s),some (.ref l),some (.str d.a),some (.ref sb),some (.str d.b)]:L2.St)=[some (.ref x),some (.str room),some (.int (t:Nat)),some (.ref s),some (.ref l),L,N,O]/\upd (upd J p (.tup [.str r.1,zZ r.2])) l (.lst (g.map V.ref++[.ref p])) l=some (.lst (as.map V.ref))/\jh (upd (upd J p (.tup [.str r.1,zZ r.2])) l (.lst (g.map V.ref++[.ref p]))) as (((bE B room).take (i+1)).flatMap (dI t st))/\ac H (upd (upd J p (.tup [.str r.1,zZ r.2])) l (.lst (g.map V.ref++[.ref p])))/\∀b o,H1 b=some o->b≠l->upd (upd J p (.tup [.str r.1,zZ r.2])) l (.lst (g.map V.ref++[.ref p])) b=some o:=by
   intro J r p S3 m er;have hk:fj q (upd (upd J p (.tup [.str r.1,zZ r.2])) l (.lst (g.map V.ref++[.ref p]))):=((ac.kt S3).trans (ac.kt (ac.new m))).trans (bW (kp (S3 _ _ f) m));refine⟨g++[p],_,_,_,rfl,by rw[aa,ap];rfl,?_,fun b o e=>by rw[ag (ae e hl)];exact kp (S3 _ _ (I _ _ e)) m,fun b o e nb=>by rw[ag nb];exact kp (S3 _ _ (e2 _ _ e nb)) m⟩;rw[take_snoc hd,wS,wO,er];refine cr (jh.kt hk G) ?_;rw[ag (ae (S3 _ _ f) m).symm];exact aa
  refine⟨u,_,rfl,be.of a7,rfl,_,_,rfl,_,_,rfl,_,_,rfl,rfl,?_⟩;refine⟨_,rfl,gP d.sg,gP am,aM (be.of T),aM (hs q),by rw[b0];decide,by rw[b0];decide,_,rfl,?_⟩;rw[eP];refine ED (P:=d.sg=am) (by simp) (fun c=>?_) (fun c=>?_)
  ·refine⟨_,rfl,.inl ⟨rfl,_,ay.of f⟩,_,rfl,_,rfl,(by show 2<=ak;decide),fun p m=>⟨l,_,.ref p,rfl,rfl,kp f m,by rw[aj];exact ar ul,?_⟩⟩;exact row (d.b,some t) p (.refl _) m (by unfold dI;rw[if_pos c])
  ·have gd:kM K q s (.ref sb) ((bN st d.sg).map fun n=>V.int (n:Nat)):=.inr ⟨_,jL d.sg,sb,v,rfl,xB (.inl T),eF _,qK.symm⟩;have a8:Kx q s:=.inr ⟨_,v⟩;have a9:pO (d.sg.map V.str) 0=some (.str s0):=by rw[an];exact bc (j:=0) rfl
   have put:(bN st d.sg).isSome=true∨d.sg.head?=some ("say":Str)->bG (qx K "list" ci V4 (az (bA (aU V7 (xP K V3 V6))))) { nx:=fun σ A=>∃(g:Ze) (L N O:Option V),σ=[some (.ref x),some (.str room),some (.int (t:Nat)),some (.ref s),some (.ref l),L,N,O]/\A l=some (.lst (g.map V.ref))/\jh A g (((bE B room).take (i+1)).flatMap (dI t st))/\ac H A/\∀b o,H1 b=some o->b≠l->A b=some o,rt:=Q } [some (.ref x),some (.str room),some (.int (t:Nat)),some (.ref s),some (.ref l),some (.str d.a),some (.ref sb),some (.str d.b)] q:=by
    intro cc;refine⟨_,rfl,.inl ⟨rfl,_,ay.of f⟩,_,rfl,_,rfl,s,rfl,a8,_,rfl,_,gd,?_⟩;rw[zY];refine⟨(by show 2<=ak;decide),fun p m=>⟨l,_,.ref p,rfl,rfl,kp f m,by rw[aj];exact ar ul,?_⟩⟩;exact row (d.b,bN st d.sg) p (.refl _) m (by unfold dI;rw[if_neg c,if_pos cc])
   refine⟨_,rfl,_,rfl,s,_,rfl,gd,_,rfl,?_⟩;cases hv:bN st d.sg with
   |some w=>exact cT (cT (put (.inl (by rw[hv];rfl))))
   |none =>
    refine bH ?_;refine⟨_,rfl,sb,_,0,_,rfl,rfl,be.of T,a9,rfl,_,rfl,?_⟩;refine ED (P:=d.sg.head?=some ("say":Str)) (by rw[an];simp) (fun c2=>put (.inr c2)) (fun c2=>?_);refine⟨g,_,_,_,rfl,f,?_,I,e2⟩;have er:dI t st d=[]:=by
     unfold dI;rw[if_neg c,if_neg];rintro(z|z)
     ·rw[hv]at z;cases z
     ·exact c2 z
    rw[take_snoc hd,wS,wO,er];simpa using G
 ·rintro σ q ⟨g,L,N,O,rfl,f,G,I,e2⟩;rw[aj,Paired.length hD,bb]at G;have M2:=M.same I;obtain⟨dx,fs,o1,o2,lv,aC,g1,a1,a2,a3,a4,_⟩:=nT M2;have ul:g.length<=1000:=by
   rw[Paired.length G];exact bB (ub t st _) lz
  have v:Rd q s (.dT (stK st)):=Rd.same I Y;refine⟨_,rfl,x,dx,fs,rfl,g1,a4,_,rfl,x,room,J0,J1,rooms,B,rfl,M2,_,rfl,?_⟩;refine ED (P:=room∈rooms.filter (cX B)) (by simp) (fun c=>?_) (fun c=>?_)
  ·have gd:kM K q s (.ref hu) ((bN st aT).map fun n=>V.int (n:Nat)):=.inr ⟨_,jL aT,hu,v,rfl,xB (so hh q),eF _,qK.symm⟩;refine⟨_,rfl,.inl ⟨rfl,_,ay.of f⟩,_,rfl,_,rfl,s,rfl,.inr ⟨_,v⟩,_,gd,?_⟩;rw[zY];refine⟨(by show 2<=ak;decide),fun p m=>⟨l,_,.ref p,rfl,rfl,kp f m,by rw[aj];exact ar ul,?_⟩⟩;have hk:fj q (upd (upd q p (.tup [.str room,zZ (bN st aT)])) l (.lst (g.map V.ref++[.ref p]))):=(ac.kt (ac.new m)).trans (bW (kp f m));refine⟨_,rfl,k l (g++[p]) _ (by rw[aa,ap];rfl) ?_ hl fun b o e=>by rw[ag (ae e hl)];exact kp (I _ _ e) m⟩;unfold uc;rw[if_pos c];refine cr (jh.kt hk G) ?_;rw[ag (ae f m).symm];exact aa
  ·refine⟨_,rfl,k l g q f ?_ hl I⟩;unfold uc;rw[if_neg c,dh];exact G
def GX(ds:List ai)(f:Zb):Prop:=∀d∈ds,d.sg=am->d.a∈f->d.b∈f
theorem v5{rooms i:Zb}{e:List ai}(j:∀d∈e,d.b∈rooms):GX e (closF rooms e i):=by
 classical
 intro d h f g;unfold closF at g ⊢;rw[bP]at g ⊢;obtain⟨a,k,b⟩:=d;have f:k=am:=f;subst f;exact⟨j _ h,zzr1 (fS.step (of_decide_eq_true g.2) h)⟩
theorem Fz{rooms f e:Zb}{a:List ai}(g:∀d∈a,d.b∈rooms):GX a (behF rooms a f e):=by
 unfold behF;split
 ·intro d i j k;have h:=of_decide_eq_true (bP.1 k).2;refine absurd (av.2 ⟨d,bP.2 ⟨i,?_⟩,rfl⟩) h;unfold gy;rw[j]
  decide
 ·exact v5 g
theorem Gd{s:List Sg}{m:gQ}(L:List (Sg×List Str)):∀f∈(eT s m L).1.fs,f∈m.fs∨∃p∈L,f=p.2:=by
 have a:∀n,n<=L.length->∀f∈(eT s m (L.take n)).1.fs,f∈m.fs∨∃p∈L,f=p.2:=by
  intro n
  induction n with
  |zero=>intro _ f hf;exact .inl hf
  |succ n e =>
   intro h f hf;have g:L[n]?=some L[n]:=b_ (by omega);rw[take_snoc g,jX]at hf;have hf:f∈((eT s m (L.take n)).1.add L[n].2 (s++[L[n].1])).fs:=hf;by_cases c:L[n].2∈(eT s m (L.take n)).1.fs
   ·rw[gQ.add_in c]at hf;exact e (by omega) f hf
   ·rw[gQ.add_new c]at hf;rcases aX.1 hf with hf|hf
    ·exact e (by omega) f hf
    ·exact .inr ⟨L[n],ka _,bO.1 hf⟩
 have:=a L.length (aG _);rw[bb]at this;exact this
theorem C1{j l rooms:Zb}{a:List ai}(i:∀d∈a,d.b∈rooms):∀k,∀f∈(itF j l rooms a k).1.fs,GX a f
 |0,f,g=>by
  have e:(⟨[],[]⟩:gQ).add (closF rooms a (rooms.take 1)) []=⟨[closF rooms a (rooms.take 1)],[[]]⟩:=gQ.add_new (fun z=>nomatch z);have g:f∈((⟨[],[]⟩:gQ).add (closF rooms a (rooms.take 1)) []).fs:=g;rw[e]at g;rw[bO.1 g];exact v5 i
 |k+1,f,g=>by
  rcases Gd _ f g with h|⟨p,m,rfl⟩
  ·exact C1 i k f h
  ·obtain⟨n,_,rfl⟩:=av.1 (bP.1 m).1;exact Fz i
theorem Gz{rooms f:Zb}{e:List ai}{d:ai}(g:d∈e)(h:d.b∈rooms)(i:d.a∈f)(j:d.sg≠aT):d.b∈behF rooms e f d.sg:=by
 classical
 unfold behF;rw[if_neg j];unfold closF;refine bP.2 ⟨h,zzr1 ⟨d.b,?_,.inl rfl⟩⟩;unfold cN;rw[sP];refine⟨d.a,i,?_⟩;unfold aJ;exact av.2 ⟨d,bP.2 ⟨g,zzr1 ⟨rfl,rfl⟩⟩,rfl⟩
def wL(P:List bz)(SI:qY)(room:Str)(num:Nat):Prop:=∃c∈P,c.key.1=num/\∃F,SI.1.fs[c.key.2]?=some F/\room∈F
section
variable{J0 J1 rooms:Zb}{ds:List ai}{SI:qY}{ws:List (List (Sg×Nat))}{P:List bz}(m:aE J0 J1 rooms ds)(ok:qX J0 J1 rooms ds SI)(le:SI.2.length=SI.1.fs.length)(ro:∀c∈P,k4 SI.2 ws P c)
include m ok le ro
theorem zF{c:bz}(o:c∈P){F:Zb}(g:SI.1.fs[c.key.2]?=some F){sg:Sg}(p:sg∈aR J0 J1){r:Str}(h:r∈behF rooms ds F sg):
  (bN (ws.getD c.key.1 []) sg=none->sg.head?=some ("ask":Str))/\∀w,bN (ws.getD c.key.1 []) sg=some w->wL P SI r w:=by
 have lt:c.key.2<SI.2.length:=by
  rw[le];rcases fy c.key.2 SI.1.fs.length with z|z
  ·exact z
  ·rw[fO z]at g;cases g
 have l:SI.2[c.key.2]?=some SI.2[c.key.2]:=b_ lt;obtain⟨f,e,q⟩:=ok.st _ _ l;rw[g]at e;injection e with e;subst e;have s:(sg,behF rooms ds F sg)∈stepsF J0 J1 rooms ds F:=bP.2 ⟨av.2 ⟨sg,p,rfl⟩,zzr1 fun z=>by rw[show behF rooms ds F sg=[]from z]at h;cases h⟩;obtain⟨k,t,u⟩:=wQ s;obtain⟨a,v,x,A⟩:=Paired.get q (i:=k) (y:=(sg,behF rooms ds F sg)) (by rw[b_ t,u]);have B:a∈SI.2.getD c.key.2 []:=by
  rw[sO,l];exact aY v
 have row:=ro c o a B;rw[x]at row;constructor
 ·intro z;rw[show bN (ws.getD c.key.1 []) (sg,behF rooms ds F sg).1=none from z]at row;exact row
 ·intro w z;rw[show bN (ws.getD c.key.1 []) (sg,behF rooms ds F sg).1=some w from z]at row;obtain⟨C,j,n⟩:=av.1 (lV.1 row);exact⟨C,j,by rw[n],behF rooms ds F sg,by rw[n];exact A,h⟩
theorem Hw(B:∀f∈SI.1.fs,GX ds f){room:Str}{num:Nat}(h:wL P SI room num):∀r∈uc rooms ds room num (ws.getD num []),∃x,r.2=some x/\wL P SI r.1 x:=by
 obtain⟨c,p,rfl,F,o,g⟩:=h;intro r hr;unfold uc at hr;rcases aX.1 hr with hr|hr
 ·obtain⟨d,y,i⟩:=sP.1 hr;have k:d∈ds:=(bP.1 y).1;have l:d.a=room:=of_decide_eq_true (bP.1 y).2;have j:=m.good d k;unfold dI at i;split at i
  ·rename_i s;rw[bO.1 i];exact⟨_,rfl,c,p,rfl,F,o,B F (aY o) d k s (by rw[l];exact g)⟩
  ·rename_i s;split at i
   ·rename_i C;rw[bO.1 i];have n:d.sg∈aR J0 J1/\d.sg≠aT:=by
     unfold aR;rcases j.sg with⟨w,t,e⟩|⟨w,t,e⟩|e
     ·exact⟨cG _ (cG _ (av.2 ⟨w,t,e.symm⟩)),by rw[e];unfold aT;intro z;injection z with _ z;cases z⟩
     ·exact⟨cG _ (cQ _ (av.2 ⟨w,t,e.symm⟩)),by rw[e];unfold aT;intro z;injection z with _ z;cases z⟩
     ·exact absurd e s
    obtain⟨u,v⟩:=zF m ok le ro p o n.1 (Gz k j.b (by rw[l];exact g) n.2);cases e:bN (ws.getD c.key.1 []) d.sg with
    |some w=>exact⟨w,rfl,v w e⟩
    |none =>
     have D:=u e;rcases C with z|z
     ·rw[e]at z;cases z
     ·rw[D]at z;exact absurd z (by decide)
   ·cases i
 ·split at hr
  ·rename_i q;rw[bO.1 hr];have A:=(bP.1 q).2;rw[i6]at A;have E:room∈behF rooms ds F aT:=by
    unfold behF;rw[if_pos rfl];exact bP.2 ⟨g,A⟩
   obtain⟨u,v⟩:=zF m ok le ro p o (sg:=aT) (by unfold aR;exact cQ _ cD) E;cases e:bN (ws.getD c.key.1 []) aT with
   |some w=>exact⟨w,rfl,v w e⟩
   |none=>exact absurd (u e) (by decide)
  ·cases hr
end
theorem EN{k:Nat}{q:List Nat}{d l:Addr}{o:Obj}{u:HO}{n:Nat}{h:Nat->Hp->V->V->Prop}{g:TG}{r:TT}{s:TE}{σ:L2.St}{t:Hp}{Q:Hp->Prop}(Pv:Nat->List V->Hp->Prop)(A:Pv 0 [] (upd t l (.lst [])))
  (m:∀i e H,i<=n->Pv i e H->H l=some (.lst e)/\H d=some (.frz o u)) (B:∀e H,Pv n e H->Q H)
  (C:∀i e H a b,i<n->Pv i e H->h i H a b->g a (dX k q σ) H fun σ2 D=>r σ2 D fun b w =>
   if b=true then s σ2 w fun v z=>z l=some (.lst e)/\e.length<ak/\∃j,j<n-i/\Wc n Pv (i+1) j (e++[v]) (upd z l (.lst (e++[v])))else ∃j,j<n-i/\Wc n Pv (i+1) j e w) :
  gF k q σ (Kc d o u n h) g r s t l Q:=by
 refine l_ n Pv A (fun i e H f p=>(m i e H f p).1) (fun i e H f p=>⟨(m i e H (eK f) p).2,f⟩) (fun e H p=>⟨⟨(m n e H (aG _) p).2,aG _⟩,B e H p⟩) fun i e H x G f p y=>?_;obtain⟨rfl,b,E⟩:=y;exact C i e _ x b f p E
abbrev Row:=Str×Nat
def qF(r:Row):TK:=.t [.k (some (.inr r.1)),.k (some (.inl (r.2:Int)))]
theorem HF{a b:Row}(h:qF a=qF b):a=b:=by
 unfold qF at h;injection h with h;injection h with f e;injection e with e _;injection f with f;injection e with e;injection f with f;injection e with e;injection f with f;injection e with e;obtain⟨a1,a2⟩:=a;obtain⟨i,g⟩:=b;simp only at f e;rw[f,show a2=g by omega]
theorem iU(k:Row):(qF k).depth<=8:=by
 show max 0 (max 0 0)+1<=8
 decide
abbrev uR(H:Hp)(a:Addr)(k:Row):Prop:=H a=some (.tup [.str k.1,.int (k.2:Nat)])
theorem uR.tk{H:Hp}{a:Addr}{k:Row}(h:uR H a k):dJ H (qF k) (.ref a):=by
 unfold qF dJ;refine⟨a,_,rfl,h,?_⟩;unfold TKAts;refine⟨_,_,rfl,?_,?_⟩
 ·unfold dJ;rfl
 unfold TKAts;refine⟨_,_,rfl,?_,?_⟩
 ·unfold dJ;rfl
 unfold TKAts
 rfl
theorem Hk{K:Za}{H:Hp}{k:Row}{a:V}(h:oe K H (qF k) a):∃b,a=.ref b/\aW K H b [.str k.1,.int (k.2:Nat)]:=by
 unfold qF oe at h;obtain⟨b,n,rfl,l,e⟩:=h;unfold TKCs at e;obtain⟨v,o,rfl,f,g⟩:=e;unfold TKCs at g;obtain⟨p,m,rfl,i,j⟩:=g;unfold TKCs at j;unfold oe at f i;subst f i j;exact⟨b,rfl,l⟩
def uw(L:List Row):List (TK×V):=L.map fun r=>(qF r,.bl true)
theorem yf(r:Row):∀L:List Row,(bM (uw L) (qF r)).isSome=decide (r∈L)
 |[]=>rfl
 |x::L=>by
  show(bM ((qF x,V.bl true)::uw L) (qF r)).isSome=_;by_cases c:x=r
  ·rw[cL (by show qF x=qF r;rw[c])];simp[c]
  ·rw[cE (fun z=>c (HF z)),yf r L];simp[dF c]
theorem zK{rooms:Zb}{n:Nat}{L:List Row}(e:L.Nodup)(h:∀r∈L,r.1∈rooms/\r.2<n):L.length<=rooms.length * n:=by
 have a:=jY e (R:=rooms.flatMap fun x=>(jm n).map fun i=>(x,i)) fun r f=>by
  obtain⟨g,j⟩:=h r f;exact sP.2 ⟨r.1,g,av.2 ⟨r.2,List.mem_range.2 j,rfl⟩⟩
 have:∀l:List Str,(l.flatMap fun x=>(jm n).map fun i=>(x,i)).length=l.length * n:=by
  intro l
  induction l with
  |nil=>simp
  |cons x l k=>rw[wO,au,k,aj,tj,fo,Nat.succ_mul];omega
 rw[this]at a;exact a
structure RowP(rooms:Zb)(ds:List ai)(ws:List (List (Sg×Nat)))(n:Nat)(R:Row->Prop):Prop where
 rg:∀r,R r->r.1∈rooms/\r.2<n
 next:∀r,R r->∀x∈uc rooms ds r.1 r.2 (ws.getD r.2 []),∃n',x.2=some n'/\R (x.1,n')
structure si(H0 H:Hp)(rd wl:Addr)(ps:Ze)(L W:List Row)(R:Row->Prop):Prop where
 hrd:H rd=some (.dT (uw L))
 hwl:H wl=some (.lst (ps.map V.ref))
 hps:Paired (fun a r=>uR H a r) ps W
 nd:L.Nodup
 all:∀r∈L,R r
 sub:∀r∈W,r∈L
 S:ac H0 H
 r0:H0 rd=none
 w0:H0 wl=none
theorem si.same{a H H':Hp}{rd e:Addr}{f:Ze}{L W:List Row}{R:Row->Prop}(h:si a H rd e f L W R)(S:ac H H'):si a H' rd e f L W R :=
 ⟨S _ _ h.hrd,S _ _ h.hwl,Paired.mapP h.hps fun _ _ r=>S _ _ r,h.nd,h.all,h.sub,h.S.trans S,h.r0,h.w0⟩
theorem si.add{k H:Hp}{rd f u:Addr}{g:Ze}{L W:List Row}{R:Row->Prop}(h:si k H rd f g L W R){r:Row}(n:uR H u r)(l:¬r∈L)(p:R r):
  si k (upd (upd H rd (.dT (cn (uw L) (qF r) (.bl true)))) f (.lst (g.map V.ref++[.ref u]))) rd f (g++[u]) (L++[r]) (W++[r]) R:=by
 have i:f≠rd:=fun z=>by have:=h.hwl;rw[z,h.hrd]at this;cases this
 have s:fj H (upd H rd (.dT (cn (uw L) (qF r) (.bl true)))):=Fb h.hrd;have j:upd H rd (.dT (cn (uw L) (qF r) (.bl true))) f=some (.lst (g.map V.ref)):=by rw[ag i];exact h.hwl
 have m:=s.trans (bW (o:=.lst (g.map V.ref++[.ref u])) j);have t:bM (uw L) (qF r)=none:=by
  have:=yf r L;rw[zzr0 l]at this;cases e:bM (uw L) (qF r)with
  |none=>rfl
  |some v=>rw[e]at this;cases this
 refine⟨?_,?_,cr (Paired.mapP h.hps fun _ _ q=>m _ _ q) (m _ _ n),?_,?_,?_,?_,h.r0,h.w0⟩
 ·rw[ag i.symm,aa,gp _ t];unfold uw;rw[ap];rfl
 ·rw[aa,ap];rfl
 ·rw[cJ];exact⟨h.nd,by simp,fun a w b y e=>l (by rw[<-bO.1 y,<-e];exact w)⟩
 ·intro x hx;rcases aX.1 hx with hx|hx
  ·exact h.all x hx
  ·rw[bO.1 hx];exact p
 ·intro x hx;rcases aX.1 hx with hx|hx
  ·exact cG _ (h.sub x hx)
  ·exact cQ _ hx
 ·intro b q e;rw[ag (ae e h.w0),ag (ae e h.r0)];exact h.S _ _ e
inductive kA(K:Za)(C Cm:Addr)(vs:List V)(H:Hp)(Q:VK)(E:XK):Prop
 |mk (H0:Hp) (mo I M fa sa na ta:Addr) (us ws' ts:Ze) (m:gQ) (ws:List (List (Sg×Nat))) (J0 J1 rooms:Zb) (ds:List ai) (R:Row->Prop) (f0:Str):(vs=[.ref mo,.ref I])->(im K C H mo M fa sa na ta us ws' m)->(H ta=some (.lst (ts.map V.ref)))->(AQ H0 H ts ws)->(bt Cm H I J0 J1 rooms ds)->(RowP rooms ds ws ts.length R)->(ts.length=m.fs.length)->(ts.length<=256)->(rooms[0]?=some f0)->(R (f0,0))->(∀(l:Addr) (ps:Ze) (L:List Row) (H':Hp),H' l=some (.lst (ps.map V.ref))->Paired (fun u (r:Row)=>∃ft f,H' u=some (.tup [.str r.1,.ref ft])/\m.fs[r.2]?=some f/\H' ft=some (.tup (f.map V.str))) ps L->L.Nodup->(∀r∈L,R r)->H l=none->ac H H'->Q (.ref l) H')->kA K C Cm vs H Q E
theorem Bv{K:Za}{C Cm:Addr}(c:FC K C){U:List V}{H:Hp}{Q:VK}{E:XK}(h:kA K C Cm U H Q E):A6 K (o0 K Cm) Cm (h9 Cm) (bJ Q) (start Cq U) H:=by
 obtain⟨H0,mo,I,M,fa,sa,na,ta,us,c1,ts,m,ws,J0,J1,rooms,ds,R,t,rfl,F,b8,st,MA,rp,zt,bf,b9,bi,k⟩:=h;have z3:=MA.ok.rooms26;obtain⟨dx,fs,o1,o2,o3,o4,lv,qu,sg,sl,tt,c2,c3,c4,g1,a1,a2,a3,a4,_⟩:=MA.at_;have ca:pO (rooms.map V.str) 0=some (.str t):=bc (j:=0) (by rw[cb,b9];rfl);have c5:=(rp.rg _ bi).2;refine⟨_,rfl,I,dx,fs,rfl,g1,a4,I,J0,J1,rooms,ds,rfl,MA,fun rl cc=>⟨rl,_,0,_,rfl,rfl,ay.of aa,ca,(by show 2<=ak;decide),fun w cd=>?_⟩⟩;have S1:ac H (upd (upd H rl (.lst (rooms.map V.str))) w (.tup [.str t,.int 0])):=(ac.new cc).trans (ac.new cd);have r1:uR (upd (upd H rl (.lst (rooms.map V.str))) w (.tup [.str t,.int 0])) w (t,0):=aa;generalize upd (upd H rl (.lst (rooms.map V.str))) w (.tup [.str t,.int 0])=H1 at S1 r1 ⊢;refine fun rd N=>⟨_,rfl,aa,w,qF (t,0),rfl,dJ.c 8 (iU _) (uR.tk (kp r1 N)),iU _,?_⟩;have S2:ac H1 (upd (upd H1 rd (.dT [])) rd (.dT [(qF (t,0),.bl true)])):=fun b o e=>by rw[ag (ae e N)];exact kp e N
 have bn:upd (upd H1 rd (.dT [])) rd (.dT [(qF (t,0),.bl true)]) rd=some (.dT (uw [(t,0)])):=aa;generalize upd (upd H1 rd (.dT [])) rd (.dT [(qF (t,0),.bl true)])=H2 at S2 bn ⊢;refine⟨_,rfl,(by show 1<=ak;decide),fun n bp=>?_⟩;have S3:ac H2 (upd H2 n (.lst [.ref w])):=ac.new bp;have A3:si H (upd H2 n (.lst [.ref w])) rd n [w] [(t,0)] [(t,0)] R :=
  ⟨S3 _ _ bn,aa,.cons (S3 _ _ (S2 _ _ r1)) .nil,by simp,fun r D=>by rw[bO.1 D];exact bi,fun r D=>D,(S1.trans S2).trans S3,S1.free N,(S1.trans S2).free bp⟩
 generalize upd H2 n (.lst [.ref w])=H3 at S3 A3 ⊢;have few:∀{g:Hp}{p:Ze}{L W:List Row},si H g rd n p L W R->L.length<=40000:=fun A=>by
  have h1:=zK A.nd fun r D=>rp.rg r (A.all r D);have h2:rooms.length * ts.length<=150 * 256:=sN z3 bf;omega
 refine⟨fun mm σ g=>∃(p:Ze) (L W:List Row) (x5 x6 Y:Option V),mm=2 * (40000-L.length)+W.length/\mm<=80000/\σ=[some (.ref mo),some (.ref I),some (.ref w),some (.ref rd),some (.ref n),x5,x6,Y]/\si H g rd n p L W R,⟨_,[w],[(t,0)],[(t,0)],_,_,_,rfl,(by show 2 * (40000-1)+1<=80000;decide),rfl,A3⟩,?_⟩;rintro mm σ H4 ⟨p,L,W,x5,x6,Y,rfl,dc,rfl,A⟩;have fw:=few A;refine⟨_,rfl,.inl ⟨n,_,rfl,.inl (ay.of A.hwl),_,_,rfl,rfl,_,rfl,?_⟩⟩;have zp:(p.map V.ref).length=W.length:=by rw[aj,Paired.length A.hps]
 refine ED (P:=0<W.length) (by rw[zp];simp) (fun dd=>?_) (fun nil=>?_)
 ·have D:W[W.length-1]?=some W[W.length-1]:=b_ (by omega);obtain⟨a,ea,b1⟩:=Paired.get A.hps D;have b2:=A.sub W[W.length-1] (ka _);have as:=A.all _ b2;have s:=rp.rg _ as;have G:=rp.next _ as;generalize W[W.length-1]=r at D b1 b2 as s G;have last:(p.map V.ref)[(p.map V.ref).length-1]?=some (.ref a):=by rw[zp,cb,ea];rfl
  have kt:fj H4 (upd H4 n (.lst (p.map V.ref).dropLast)):=bW A.hwl;have aC:n≠rd:=fun z=>by have:=A.hwl;rw[z,A.hrd]at this;cases this
  have A5:si H (upd H4 n (.lst (p.map V.ref).dropLast)) rd n (p.take (W.length-1)) L (W.take (W.length-1)) R:=by
   refine⟨by rw[ag aC.symm];exact A.hrd,?_,Paired.mapP (Paired.takeP _ A.hps) fun _ _ q=>kt _ _ q,A.nd,A.all,fun x hx=>A.sub x (fA hx),fun b q e=>by rw[ag (ae e A.w0)];exact A.S _ _ e,A.r0,A.w0⟩;rw[aa,List.dropLast_eq_take,zp,nC]
  have al:=kt _ _ b1;have zw:(W.take (W.length-1)).length=W.length-1:=by rw[aN];omega
  refine⟨fun σ' g=>∃m',m'<2 * (40000-L.length)+W.length/\∃(p:Ze) (L W:List Row) (x5 x6 Y:Option V),m'=2 * (40000-L.length)+W.length/\m'<=80000/\σ'=[some (.ref mo),some (.ref I),some (.ref w),some (.ref rd),some (.ref n),x5,x6,Y]/\si H g rd n p L W R,fun σ' g h=>h,?_⟩;refine⟨_,rfl,.inl ⟨rfl,_,ay.of A.hwl⟩,n,_,.ref a,rfl,rfl,A.hwl,last,a,_,rfl,be.of al,rfl,_,_,rfl,_,_,rfl,rfl,?_⟩;generalize upd H4 n (.lst (p.map V.ref).dropLast)=H5 at A5 al kt ⊢;have F5:=F.same A5.S;obtain⟨ce,ch,g5,m1,m2,m3,m4,m5,_⟩:=F5.ob;have ed:ts[r.2]?=some (ts[r.2]'(s.2)):=b_ s.2;have b3:pO (ts.map V.ref) (r.2:Nat)=some (.ref (ts[r.2]'(s.2))):=bc (by rw[cb,ed];rfl);obtain⟨_,an⟩:=AQ.rd st ed;generalize ts[r.2]'(s.2)=sd at ed b3 an;refine⟨_,rfl,_,rfl,_,rfl,_,rfl,mo,C,ce,ch,.ref ta,rfl,g5,c.cls,c.a5,m5,_,rfl,ta,_,_,_,rfl,rfl,ay.of (A5.S _ _ b8),b3,I,sd,r.1,r.2,ws.getD r.2 [],J0,J1,rooms,ds,rfl,MA.same A5.S,s.1,Rd.same A5.S an,fun nl nu H6 b4 cl b5 S6=>⟨nl,rfl,⟨_,ay.of b4⟩,?_⟩⟩;have cm:nl≠n:=dF (ae A5.hwl b5);refine bR (xs:=nu.map V.ref) (fun i σ g=>J_ fun(p:Ze) (L' W':List Row) (Y:Option V)=>GZ (σ=[some (.ref mo),some (.ref I),some (.ref w),some (.ref rd),some (.ref n),some (.str r.1),some (.int (r.2:Nat)),Y]) (si H g rd n p L' W' R) (2 * (40000-L'.length)+W'.length<2 * (40000-L.length)+W.length) (g nl=some (.lst (nu.map V.ref))) (jh g nu (uc rooms ds r.1 r.2 (ws.getD r.2 []))))
   ⟨_,_,_,_,rfl,A5.same S6,by rw[zw];omega,b4,cl⟩ (fun i σ g _ ⟨_,_,_,_,_,_,_,q,_⟩=>ay.of q) ?_ ?_
  ·rintro i y σ H7 hi ⟨O,J,W7,Y,rfl,B,aF,a0,R7⟩;obtain⟨u,hu,rfl⟩:=cM hi;obtain⟨row,b6,T⟩:=Paired.getL R7 hu;obtain⟨n',en,co⟩:=G row (aY b6);have a6:uR H7 u (row.1,n'):=by rw[en]at T;exact T
   have gd:kM K H7 rd (.ref u) (bM (uw J) (qF (row.1,n'))):=.inr ⟨_,qF (row.1,n'),u,.inl B.hrd,rfl,dJ.isIn 8 (iU _) a6.tk,iU _,rfl⟩;refine⟨_,rfl,_,rfl,rd,_,rfl,gd,_,rfl,?_⟩;rw[yf];have dk:=few B;refine ED (P:=¬(row.1,n')∈J) (by by_cases q:(row.1,n')∈J<;>simp[q]) (fun new=>?_) (fun dm=>⟨O,J,W7,_,rfl,B,aF,a0,R7⟩);have A8:=B.add a6 new co;have a7:=few A8;rw[au]at a7;have a7:J.length+1<=40000:=a7;have aC:n≠rd:=fun z=>by have:=B.hwl;rw[z,B.hrd]at this;cases this
   refine⟨_,rfl,_,rfl,rd,u,uw J,qF (row.1,n'),rfl,rfl,B.hrd,dJ.c 8 (iU _) a6.tk,iU _,by unfold uw;rw[aj,ga];omega,?_⟩;have a8:upd H7 rd (.dT (cn (uw J) (qF (row.1,n')) (.bl true))) n=some (.lst (O.map V.ref)):=by rw[ag aC];exact B.hwl
   have w7:W7.length<=1000000:=by omega
   refine⟨_,rfl,.inl ⟨rfl,_,ay.of a8⟩,_,rfl,n,_,.ref u,rfl,rfl,a8,by rw[aj,Paired.length B.hps,ga];omega,?_⟩;refine⟨_,_,_,_,rfl,A8,?_,?_,?_⟩
   ·rw[au,au];show 2 * (40000-(J.length+1))+(W7.length+1)<_;omega
   ·rw[ag cm,ag (fun z=>by have:=B.hrd;rw[<-z,a0]at this;cases this)];exact a0
   ·exact jh.kt ((Fb B.hrd).trans (bW a8)) R7
  ·rintro σ H7 ⟨O,J,W7,Y,rfl,B,aF,_⟩;exact⟨_,aF,O,J,W7,_,_,_,rfl,by omega,rfl,B⟩
 ·refine⟨_,rfl,rd,uw L,rfl,.inl ⟨A.hrd,fun o l hl=>?_⟩⟩;have S5:ac H (upd H4 rd (.frz o (.dT (uw L)))):=fun b q e=>by rw[ag (ae e A.r0)];exact A.S _ _ e
  have a9:upd H4 rd (.frz o (.dT (uw L))) rd=some (.frz o (.dT (uw L))):=aa;generalize upd H4 rd (.frz o (.dT (uw L)))=H5 at S5 a9 hl ⊢;have el:(uw L).length=L.length:=by unfold uw;rw[aj]
  have dn:rd≠l:=ae a9 hl;refine EN (fun i U g=>∃qs:List Addr,U=qs.map V.ref/\g l=some (.lst U)/\g rd=some (.frz o (.dT (uw L)))/\Paired (fun u (r:Row)=>∃ft f,g u=some (.tup [.str r.1,.ref ft])/\m.fs[r.2]?=some f/\g ft=some (.tup (f.map V.str))) qs (L.take i)/\ac H g)
   ⟨[],rfl,aa,kp a9 hl,.nil,S5.trans (ac.new hl)⟩ (fun i U g _ ⟨_,_,q1,q2,_⟩=>⟨q1,q2⟩) ?_ ?_
  ·rintro U g ⟨qs,rfl,q1,_,q3,q4⟩;rw[el,bb]at q3;exact k l qs L g q1 q3 A.nd A.all (S5.free hl) q4
  ·rintro i U g x b hi ⟨qs,rfl,q1,q2,q3,q4⟩ ⟨dp,ek,cq⟩;unfold uw at ek;rw[cb]at ek;obtain⟨r,D,er⟩:=lq.1 ek;cases er;obtain⟨rb,rfl,cs⟩:=Hk cq;have s:=rp.rg r (A.all r (aY D));have F':=F.same q4;obtain⟨ct,cv,g',m1,m2,_⟩:=F'.ob;have b7:m.fs[r.2]?=some (m.fs[r.2]'(by omega)):=b_ (by omega);obtain⟨u,eu,T⟩:=Paired.get F'.faces b7;have c0:pO (us.map V.ref) (r.2:Nat)=some (.ref u):=bc (by rw[cb,eu];rfl);refine⟨rb,_,rfl,aW.sq cs,rfl,_,_,rfl,_,_,rfl,rfl,u7 ?_⟩;refine⟨_,rfl,_,rfl,mo,C,ct,cv,.ref fa,rfl,g',c.cls,c.a2,m2,_,rfl,fa,_,_,_,rfl,rfl,ay.of F'.hfa,c0,(by show 2<=ak;decide),fun v hv=>⟨kp q1 hv,?_,pA hi ⟨qs++[v],by rw[ap];rfl,aa,?_,?_,?_⟩⟩⟩
   ·rw[aj,Paired.length q3,aN,ga];omega
   ·rw[ag (fun z=>by rw[z,q1]at q2;cases q2)];exact kp q2 hv
   ·rw[take_snoc D];have hk:fj g (upd (upd g v (.tup [.str r.1,.ref u])) l (.lst (qs.map V.ref++[.ref v]))):=(ac.kt (ac.new hv)).trans (bW (kp q1 hv));refine cr (Paired.mapP q3 fun _ _ ⟨ft,f,w1,w2,w3⟩=>⟨ft,f,hk _ _ w1,w2,hk _ _ w3⟩) ⟨u,_,?_,b7,hk _ _ T⟩;rw[ag (ae q1 hv).symm];exact aa
   ·intro b q e;rw[ag (ae e (S5.free hl))];exact kp (q4 _ _ e) hv
def vb(K:Za)(C_Machine:Addr)(sp_Machine_says:Sp)(sp_Machine_asks:Sp):TS :=
 cg (zc (aQ (aH (nV K) (cW C_Machine "asks" sp_Machine_asks [] E0 V0 bu) (cW C_Machine "asks" sp_Machine_asks [] E0 V1 bu))) (aQ (aH (nV K) (cW C_Machine "says" sp_Machine_says [] E0 V0 bu) (cW C_Machine "says" sp_Machine_says [] E0 V1 bu)))) (tQ) (bD)
def vL:List Str:=["M","I"]
def kj(K:Za)(C_Machine:Addr)(sp_Machine_rooms:Sp)(sp_Machine_asks:Sp)(jR:Sp):TS :=
 eQ (cj K (cW C_Machine "rooms" sp_Machine_rooms [] E0 V0 bu)) U1 (eQ (cj K (cW C_Machine "asks" sp_Machine_asks [] E0 V0 bu)) U2 (cg (vg (tB (aS jR (eo V0 V1 V2)))) (tQ) (bD)))
def kK:List Str:=["I","room","ask"]
def va(K:Za)(sp_need_all_asks_taken:Sp)(sp_need_match:Sp):TS :=
 ao (bG (aS sp_need_match (aU V0 V1)))
 (bG (aS sp_need_all_asks_taken (az V1)))
def vK:List Str:=["M","I"]
def xF(K:Za)(sp_law_put:Sp)(sp_law_take:Sp)(sp_law_still_on:Sp):TS :=
 ao (aK V1 (jg K 4 (bj U2 (bj U3 (bj U4 (bj U5 (iM)))))))
 (ao (aK (eD (da K) (az V5)) U5)
 (ao (aK (aS sp_law_take (aU V0 (tC (.int 6)))) U6)
 (ao (aK (aS sp_law_take (aw V0 (az (eD JO (aU (tC (.int 1)) (eD (dS K) (az V5))))))) U7)
 (ao (aK (aH (cS K) V4 (aS sp_law_take (aU V0 (eD (dS K) (az V4))))) U8)
 (ao (aK (aH (cS K) V4 (aS sp_law_take (aU V0 (eD (dS K) (az V4))))) U9)
 (ao (cg (aQ (aH zS V6 (tC (.int 0)))) (bG (aS sp_law_put (aw V5 (aw (bA (aw V8 (aw (bA (aw (tC (.str "say")) (aw (aH (cS K) V3 (aS sp_law_take (aU V0 (eD (dS K) (az V3))))) bu))) (az V9)))) bu)))) (cg (aQ (aH zS V6 (tC (.int 1)))) (bG (aS sp_law_put (aw V5 (aw (bA (aw V8 (aw (bA (aw (tC (.str "ask")) (aw (aH (cS K) V2 (aS sp_law_take (aU V0 (eD (dS K) (az V2))))) bu))) (az V9)))) bu)))) (cg (rZ (aQ (aH Ei V6 (tC (.int 4)))) (rZ (aQ (aH (nV K) V5 (dB (bu)))) (aQ (aH HG (aH (ia K) (aH (ia K) (aH (cS K) V5 V7) (tC (.int 1))) (tC (.int 0))) (tC (.str "still")))))) (ao (aK (qx K "list" FT V5 (az V7)) Kp)
 (cg (aQ (aH zS V6 (tC (.int 3)))) (bG (aS sp_law_put (aw V5 (aw (bA (eo (aH (ia K) Im (tC (.int 0))) (aH (ia K) Im (tC (.int 1))) V9)) bu)))) (bD))) (cg (rZ (aQ (aH zS V6 (tC (.int 4)))) (aQ (aH (ph K true) V8 (aS sp_law_still_on (aU V5 (dB (az V9))))))) (bG (aS sp_law_put (aw V5 (aw (bA (eo V8 (bA (az (tC (.str "still")))) V9)) bu)))) (bD)))))
 (bm (bA (aw V2 (eo V3 V4 V5))))))))))
def yJ:List Str:=["pen","told","asks","says","rooms","doors","way","at","room","other","door"]
def Ba(K:Za)(sp_law_take:Sp)(sp_law_renamed:Sp)(sp_law_willing:Sp)(sp_law_turned:Sp)(sp_law_anew:Sp):TS :=
 ao (bG (aS sp_law_anew (az V0)))
 (ao (eQ (wt (aw (aS sp_law_take (aU V0 (aH fE V2 (tC (.int 1))))) bu)) U3 (aK (aS sp_law_turned (aU V0 V1)) U1))
 (ao (aK (aS sp_law_willing (aU V0 V1)) U1)
 (ao (cg (aQ (aH zS (aS sp_law_take (aU V0 (tC (.int 2)))) (tC (.int 0)))) (aK (aS sp_law_renamed (aU V0 V1)) U1) (bD))
 (bm V1))))
def Cu:List Str:=["pen","told","most","turn"]
inductive gk(C:Addr)(vs:List V)(H:Hp)(Q:VK)(E:XK):Prop
 |mk (x y:Addr) (J0 J1 rooms rooms':Zb) (ds ds':List ai):(vs=[.ref x,.ref y])->(bt C H x J0 J1 rooms ds)->(bt C H y J0 J1 rooms' ds')->(∀H',ac H H'->Q .non H')->gk C vs H Q E
theorem ue{K:Za}{C:Addr}{p:List V}{H:Hp}{Q:VK}{E:XK}(h:gk C p H Q E):vb K C (oZ C) (mz C) (bJ Q) (start vL p) H:=by
 obtain⟨x,y,e,f,rooms,a,q,g,rfl,M,N,k⟩:=h;obtain⟨r,fs,s,a1,a2,_⟩:=id M.more;obtain⟨t,u,v,I,J,_⟩:=id N.more;refine⟨_,rfl,x,r,fs,rfl,s,a1,x,e,f,rooms,q,rfl,M,fun i L=>?_⟩;have j:ac H (upd H i (.lst (e.map V.str))):=ac.new L;have w:upd H i (.lst (e.map V.str)) i=some (.lst (e.map V.str)):=aa;generalize upd H i (.lst (e.map V.str))=z at j w ⊢;refine⟨_,rfl,y,t,u,rfl,j _ _ v,I,y,e,f,a,g,rfl,N.same j,fun A B=>?_⟩;have l:ac H (upd z A (.lst (e.map V.str))):=j.trans (ac.new B);refine Dh (kp w B) aa ⟨_,rfl,?_⟩;generalize upd z A (.lst (e.map V.str))=o at l ⊢;rw[zzr1 rfl];refine bH ?_;refine⟨_,rfl,x,r,fs,rfl,l _ _ s,a2,x,e,f,rooms,q,rfl,M.same l,fun m O=>?_⟩;have n:ac H (upd o m (.lst (f.map V.str))):=l.trans (ac.new O);have D:upd o m (.lst (f.map V.str)) m=some (.lst (f.map V.str)):=aa;generalize upd o m (.lst (f.map V.str))=T at n D ⊢;refine⟨_,rfl,y,t,u,rfl,n _ _ v,J,y,e,f,a,g,rfl,N.same n,fun U G=>?_⟩;have Y:ac H (upd T U (.lst (f.map V.str))):=n.trans (ac.new G);refine Dh (kp D G) aa ⟨_,rfl,?_⟩;rw[zzr1 rfl];exact bH (k _ Y)
inductive iH(C:Addr)(vs:List V)(H:Hp)(Q:VK)(E:XK):Prop
 |mk (x:Addr) (J0 J1 rooms:Zb) (ds:List ai):(vs=[.ref x])->(bt C H x J0 J1 rooms ds)->((∀r∈rooms,∀a∈J0,ik ds r a))->(∀H',ac H H'->Q .non H')->iH C vs H Q E
theorem xZ{K:Za}{C:Addr}{I:List V}{H:Hp}{Q:VK}{E:XK}(h:iH C I H Q E):kj K C (h9 C) (mz C) (jR C) (bJ Q) (start kK I) H:=by
 obtain⟨x,e,q,rooms,s,rfl,M,tk,k⟩:=h;obtain⟨t,fs,o1,o2,o3,o4,lv,qu,N,sl,ts,O,T,U,u,a1,a2,a3,Y,_⟩:=id M.at_;refine⟨_,rfl,x,t,fs,rfl,u,Y,x,e,q,rooms,s,rfl,M,fun f h1=>?_⟩;have n:ac H (upd H f (.lst (rooms.map V.str))):=ac.new h1;have w:upd H f (.lst (rooms.map V.str)) f=some (.lst (rooms.map V.str)):=aa;generalize upd H f (.lst (rooms.map V.str))=J at n w ⊢;refine⟨f,rfl,⟨_,ay.of w⟩,?_⟩
 let A:Nat->L2.St->Hp->Prop:=fun i σ g=>∃y z,σ=[some (.ref x),y,z]/\ac J g
 refine bR (xs:=rooms.map V.str) A ⟨_,_,rfl,ac.refl _⟩ (fun i σ g _ ⟨_,_,_,S⟩=>ay.of (S _ _ w)) ?_ ?_
 ·rintro i v σ l hi ⟨y,z,rfl,o⟩;obtain⟨r,L,rfl⟩:=bv hi;have M2:=M.same (n.trans o);obtain⟨t,fs,u,a1,_⟩:=id M2.more;refine⟨_,rfl,x,t,fs,rfl,u,a1,x,e,q,rooms,s,rfl,M2,fun m h2=>?_⟩;have B:ac J (upd l m (.lst (e.map V.str))):=o.trans (ac.new h2);have D:upd l m (.lst (e.map V.str)) m=some (.lst (e.map V.str)):=aa;generalize upd l m (.lst (e.map V.str))=H3 at B D ⊢;refine⟨m,rfl,⟨_,ay.of D⟩,?_⟩
  let G:Nat->L2.St->Hp->Prop:=fun j σ g=>∃z,σ=[some (.ref x),some (.str r),z]/\ac H3 g
  refine bR (xs:=e.map V.str) G ⟨_,rfl,ac.refl _⟩ (fun i σ g _ ⟨_,_,S⟩=>ay.of (S _ _ D)) ?_ ?_
  ·rintro j v σ H4 hj ⟨z,rfl,p⟩;obtain⟨a,ha,rfl⟩:=bv hj;refine⟨_,rfl,_,rfl,_,rfl,x,r,a,e,q,rooms,s,rfl,M.same ((n.trans B).trans p),aY L,fun H5 S5=>⟨_,rfl,?_⟩⟩;rw[lH.2 (tk r (aY L) a (aY ha))];exact bH ⟨_,rfl,p.trans S5⟩
  ·rintro σ H4 ⟨z,rfl,p⟩;exact⟨_,_,rfl,B.trans p⟩
 ·rintro σ l ⟨y,z,rfl,o⟩;exact k l (n.trans o)
inductive gj(C:Addr)(vs:List V)(H:Hp)(Q:VK)(E:XK):Prop
 |mk (x y:Addr) (J0 J1 rooms rooms':Zb) (ds ds':List ai):(vs=[.ref x,.ref y])->(bt C H x J0 J1 rooms ds)->(bt C H y J0 J1 rooms' ds')->((∀r∈rooms',∀a∈J0,ik ds' r a))->(∀H',ac H H'->Q .non H')->gj C vs H Q E
theorem ud{K:Za}{C:Addr}{f:List V}{H:Hp}{Q:VK}{E:XK}(h:gj C f H Q E):va K (iH C) (gk C) (bJ Q) (start vK f) H:=by
 obtain⟨x,y,g,i,rooms,a,l,e,rfl,M,N,tk,k⟩:=h;exact⟨_,rfl,_,rfl,x,y,g,i,rooms,a,l,e,rfl,M,N,fun o j=>⟨_,rfl,y,g,i,a,e,rfl,N.same j,tk,fun m n=>k m (j.trans n)⟩⟩
theorem aE.out{a e rooms:Zb}{ds:List ai}(m:aE a e rooms ds)(k:Nat):aE a e rooms (ds.eraseIdx k):=by
 have sub:(ds.eraseIdx k).Sublist ds:=List.eraseIdx_sublist ds k;exact{ m with nodup:=m.nodup.sublist sub,good:=fun d f=>m.good d (sub.mem f),few:=bB sub.length_le m.few,noround:=fun r z=>m.noround r (z.mono fun x y h=>sub.mem h) }
theorem Paired.out{α β:Type}{R:α->β->Prop}:∀{a:List α}{bs:List β}(k:Nat),Paired R a bs->Paired R (a.eraseIdx k) (bs.eraseIdx k)
 |_,_,_,.nil=>.nil
 |_,_,0,.cons _ t=>t
 |_,_,k+1,.cons r t=>.cons r (Paired.out k t)
theorem wx{α β:Type}(f:α->β):∀(l:List α) (n:Nat),(l.map f).eraseIdx n=(l.eraseIdx n).map f
 |[],_=>rfl
 |_::_,0=>rfl
 |a::l,n+1=>by show f a::_=f a::_;rw[wx f l n]
def TR(J0 J1 rooms:Zb)(n:Nat)(ds:List ai):Prop:=aE J0 J1 rooms ds/\ds.length<=n
inductive mv (vs:List V)(H:Hp)(Q:VK)(E:XK):Prop
 |mk (p c t l1 l2 l3 l4:Addr) (ts:Ze) (J0 J1 rooms:Zb) (ds:List ai):(vs=[.ref p,.ref t])->(gW H p c)->(iA H t l1 l2 l3 l4 ts J0 J1 rooms ds)->(aE J0 J1 rooms ds)->(ds.length<=690)->(∀(t' l4':Addr) (ts':Ze) (ds':List ai) (H':Hp),iA H' t' l1 l2 l3 l4' ts' J0 J1 rooms ds'->aE J0 J1 rooms ds'->ds'.length<=ds.length+1->gW H' p c->c9 p H H'->Q (.ref t') H')->mv  vs H Q E
theorem DX{K:Za}{vs:List V}{H:Hp}{Q:VK}{E:XK}(h:mv vs H Q E):xF K kz fI (eR K) (bJ Q) (start yJ vs) H:=by
 obtain⟨p,c,t,l1,l2,l3,l4,ts,J0,J1,rooms,ds,rfl,hp,T,m,z8,k⟩:=h;have a4:=m.asks4;have s4:=m.says4;have r4:=m.rooms26;refine⟨_,rfl,t,_,rfl,be.of T.t,rfl,_,_,rfl,_,_,rfl,_,_,rfl,_,_,rfl,rfl,?_⟩;refine⟨_,rfl,.inl ⟨l4,_,rfl,.inl (ay.of T.a4),fun f hf=>?_⟩⟩;have B0:TX H p c f (fun x=>x=ds) (upd H f (.lst (ts.map V.ref))):=⟨hp.ex (ac.new hf),⟨ts,ds,aa,T.ds.kt (ac.kt (ac.new hf)),rfl⟩,c9.new hf,hf,hp.nep hf,hp.nec hf⟩;generalize upd H f (.lst (ts.map V.ref))=H1 at B0 ⊢;have r:∀{H':Hp}{R:List ai->Prop},TX H p c f R H'->H' l1=some (.lst (J0.map V.str))/\H' l2=some (.lst (J1.map V.str))/\H' l3=some (.lst (rooms.map V.str)):=fun B =>
  ⟨B.ex _ _ T.a1 (hp.ne_strs T.a1),B.ex _ _ T.a2 (hp.ne_strs T.a2),B.ex _ _ T.a3 (hp.ne_strs T.a3)⟩
 refine⟨_,rfl,dR B0.pen (by decide) (by decide) fun Y H2 w0 w1 aC aF=>?_⟩;have B2:=B0.took aC aF;obtain⟨C,es,D,J,rfl⟩:=id B2.ds;refine⟨_,rfl,_,rfl,.inl ⟨f,_,rfl,.inl (ay.of D),_,_,rfl,?_⟩⟩;have lu:C.length=es.length:=Paired.length J;refine dR B2.pen (by split<;>omega) (by rw[aj,lu];split<;>omega) fun at_ H3 n0 n1 a0 ex3=>?_;have B3:=B2.took a0 ex3;rw[aj,lu]at n1;refine jr (fun _ _ _ _ h=>h) rfl rfl B3.pen (r B3).2.2 m.rooms0 (by omega) fun room v H4 a5 a6=>?_;have B4:=B3.took a5 a6;refine jr (fun _ _ _ _ h=>h) rfl rfl B4.pen (r B4).2.2 m.rooms0 (by omega) fun other i H5 a7 a8=>?_;have O:=B4.took a7 a8;clear B0 B2 B3 B4 aC a0 a5 a7 aF ex3 a6 a8 D J;have L:∀{l:Hp}(G:Option V),TX H p c f (TR J0 J1 rooms (es.length+1)) l->(bm (bA (aw V2 (eo V3 V4 V5)))) (bJ Q) [some (.ref p),some (.ref t),some (.ref l1),some (.ref l2),some (.ref l3),some (.ref f),some (.int Y),some (.int at_),some (.str room),some (.str other),G] l:=fun G B=>by
  obtain⟨C,fs,D,J,g3⟩:=B.ds;obtain⟨q1,q2,q3⟩:=r B;refine⟨_,rfl,_,rfl,_,rfl,_,rfl,(by show 4<=ak;decide),fun t' b1=>?_⟩;have S3:=ac.new (o:=.tup [.ref l1,.ref l2,.ref l3,.ref f]) b1;exact k t' f C fs _ ⟨aa,S3 _ _ q1,S3 _ _ q2,S3 _ _ q3,S3 _ _ D,J.kt (ac.kt S3)⟩ g3.1 g3.2 (B.pen.ex S3) (B.ex.trans (ac.exB S3))
 have put:∀{l:Hp}{fs:List ai}{d:Addr}{x:ai}(G:Option V),TX H p c f (fun y=>y=fs) l->fs.length<=es.length->gX l d x->aE J0 J1 rooms (lQ fs x)->kz [.ref f,.ref d] l (fun _ H'=>(bm (bA (aw V2 (eo V3 V4 V5)))) (bJ Q) [some (.ref p),some (.ref t),some (.ref l1),some (.ref l2),some (.ref l3),some (.ref f),some (.int Y),some (.int at_),some (.str room),some (.str other),G] H') E0:=fun G B le M ok=>by
  obtain⟨b2,b7,k1,k2,rfl⟩:=id B.ds;refine⟨f,_,b2,_,_,rfl,k1,k2,M,by omega,fun b8 D2=>L G (B.put ⟨_,k1⟩ D2 ⟨ok,?_⟩)⟩;exact bB (ui _ _) (by omega)
 refine⟨_,rfl,rfl,_,rfl,?_⟩;refine iy (fun _=>?_) (fun _=>?_)
 ·refine⟨_,rfl,_,rfl,jr (fun _ _ _ _ h=>h) rfl rfl O.pen (r O).2.1 m.says0 (by omega) fun w hw l al an=>⟨(by show 2<=ak;decide),fun s hs=>⟨_,rfl,(by show 3<=ak;decide),fun d I=>?_⟩⟩⟩;have N:=O.took al an;have S:ac l (upd (upd l s (.tup [.str "say",.str w])) d (.tup [.str room,.ref s,.str other])):=(ac.new hs).trans (ac.new I);exact put (x:=⟨room,o_ w,other⟩) _ (N.same S) (aG _) ⟨s,aa,kp aa I⟩ (m.putOne ⟨v,i,.inr (.inl ⟨w,hw,rfl⟩)⟩ (by unfold o_ am;intro h;injection h with _ h;cases h) (by omega))
 refine⟨_,rfl,rfl,_,rfl,?_⟩;refine iy (fun _=>?_) (fun _=>?_)
 ·refine⟨_,rfl,_,rfl,jr (fun _ _ _ _ h=>h) rfl rfl O.pen (r O).1 m.asks0 (by omega) fun w hw l al an=>⟨(by show 2<=ak;decide),fun s hs=>⟨_,rfl,(by show 3<=ak;decide),fun d I=>?_⟩⟩⟩;have N:=O.took al an;have S:ac l (upd (upd l s (.tup [.str "ask",.str w])) d (.tup [.str room,.ref s,.str other])):=(ac.new hs).trans (ac.new I);exact put (x:=⟨room,dA w,other⟩) _ (N.same S) (aG _) ⟨s,aa,kp aa I⟩ (m.putOne ⟨v,i,.inl ⟨w,hw,rfl⟩⟩ (wK w) (by omega))
 have A:∀{l:Hp},TX H p c f (fun y=>y=es) l->(cg (rZ (aQ (aH zS V6 (tC (.int 4)))) (aQ (aH (ph K true) V8 (aS (eR K) (aU V5 (dB (az V9))))))) (bG (aS kz (aw V5 (aw (bA (eo V8 (bA (az (tC (.str "still")))) V9)) bu)))) (bD)) { nx:=(bm (bA (aw V2 (eo V3 V4 V5)))) (bJ Q),rt:=Q } [some (.ref p),some (.ref t),some (.ref l1),some (.ref l2),some (.ref l3),some (.ref f),some (.int Y),some (.int at_),some (.str room),some (.str other),none] l:=fun{l} B=>by
  have a9:TX H p c f (TR J0 J1 rooms (es.length+1)) l:=B.imp fun y e=>by rw[e];exact⟨m,sH _⟩
  refine⟨_,rfl,rfl,_,rfl,?_⟩;refine iy (fun _=>?_) (fun _=>bH (L _ a9));refine⟨_,rfl,_,rfl,_,rfl,(by show 1<=ak;decide),fun bl b3=>?_⟩;have B7:=B.same (ac.new (o:=.lst [.str other]) b3);have e7:upd l bl (.lst [.str other]) bl=some (.lst [.str other]):=aa;generalize upd l bl (.lst [.str other])=H7 at B7 e7 ⊢;obtain⟨C,fs,D,J,rfl⟩:=id B7.ds;refine⟨f,bl,C,fs,[other],rooms,rfl,D,J,e7,fun d I=>(m.good d I).b,by omega,(by show 1<=1000;decide),fun g F H8 hg hF _ _ S8=>?_⟩;have B8:=B7.same S8;refine⟨gK room,F.map gK,g,_,ii room,rfl,.inl (ay.of hg),l9 _,(by show 0<=8;decide),by rw[fF];decide,_,rfl,?_⟩;rw[if_pos rfl];by_cases c1:room∈F
  ·rw[zzr1 (mD.mpr c1)];exact bH (L _ (B8.imp fun y e=>by rw[e];exact⟨m,sH _⟩))
  rw[zzr0 (fun z=>c1 (mD.mp z))];refine cT ?_;refine⟨_,rfl,_,rfl,(by show 1<=ak;decide),fun s hs=>⟨_,rfl,(by show 3<=ak;decide),fun d I=>?_⟩⟩;have S:ac H8 (upd (upd H8 s (.tup [.str "still"])) d (.tup [.str room,.ref s,.str other])):=(ac.new hs).trans (ac.new I);exact put (x:=⟨room,am,other⟩) _ (B8.same S) (aG _) ⟨s,aa,kp aa I⟩ (m.putStill v i (fun z=>c1 ((hF room).mpr z)) (by omega))
 refine⟨_,rfl,_,_,rfl,rfl,_,rfl,?_⟩;refine iy (fun _=>?_) (fun _=>bH (A O));refine⟨_,rfl,(by show 0<=ak;decide),fun q hq=>?_⟩;have N:=O.same (ac.new (o:=.lst []) hq);have e6:upd H5 q (.lst []) q=some (.lst []):=aa;generalize upd H5 q (.lst [])=l at N e6 ⊢;obtain⟨C,fs,D,J,rfl⟩:=id N.ds;refine Gh D J e6 (fun c1=>⟨_,rfl,cT ?_⟩) (fun _=>⟨_,rfl,bH (bH (A N))⟩);have fl:0<fs.length:=List.length_pos_iff.2 c1;have n2:at_<fs.length:=by split at n1<;>omega
 obtain⟨n,rfl⟩:=jy n0;have n3:n<fs.length:=by omega
 have as:fs[n]?=some fs[n]:=b_ n3;obtain⟨u,hu,M⟩:=Paired.get J as;generalize fs[n]=U at as M;have hm:=aY as;obtain⟨sb,bf,bi⟩:=M;obtain⟨s0,b6,bn,_⟩:=qA (m.good U hm);have b4:pO (U.sg.map V.str) 0=some (.str s0):=by rw[bn];exact bc (j:=0) rfl
 have bp:(C.map V.ref)[n]?=some (.ref u):=by rw[cb,hu];rfl
 refine⟨_,rfl,_,rfl,f,_,_,_,rfl,rfl,ay.of D,bc bp,u,_,1,_,rfl,rfl,be.of bf,rfl,sb,_,0,_,rfl,rfl,be.of bi,b4,rfl,_,rfl,?_⟩;refine iy (fun c2=>?_) (fun _=>A N);have ns:U.sg≠am:=fun z=>by
  rw[bn]at z;injection z with z;rw[z]at c2;simp at c2
 have b5:xy (n:Int) (C.map V.ref).length=some n:=(ym (HY (by rw[aj,Paired.length J];exact n3))).1;refine⟨_,rfl,.inl ⟨rfl,_,ay.of D⟩,_,rfl,f,_,_,n,.ref u,rfl,rfl,D,by omega,by omega,b5,bp,?_⟩;have ee:(C.map V.ref).eraseIdx n=(C.eraseIdx n).map V.ref:=wx _ C n;rw[ee];have k6:fj l (upd l f (.lst ((C.eraseIdx n).map V.ref))):=bW D;have B7:TX H p c f (fun y=>y=fs.eraseIdx n) (upd l f (.lst ((C.eraseIdx n).map V.ref))):=N.put ⟨_,D⟩ (Paired.out n J) rfl;have t7:=k6 _ _ bf;have s7:=k6 _ _ bi;generalize upd l f (.lst ((C.eraseIdx n).map V.ref))=H7 at B7 t7 s7 ⊢;have m7:=m.out n;have l7:(fs.eraseIdx n).length<=fs.length:=(List.eraseIdx_sublist fs n).length_le;refine⟨_,rfl,rfl,_,rfl,?_⟩;refine iy (fun _=>?_) (fun _=>L _ (B7.imp fun y e=>by rw[e];exact⟨m7,by omega⟩));refine⟨_,rfl,_,rfl,u,_,0,_,rfl,rfl,be.of t7,rfl,_,rfl,u,_,1,_,rfl,rfl,be.of t7,rfl,_,rfl,(by show 3<=ak;decide),fun d I=>?_⟩;have S:ac H7 (upd H7 d (.tup [.str U.a,.ref sb,.str other])):=ac.new I;exact put (x:=⟨U.a,U.sg,other⟩) _ (B7.same S) l7 ⟨sb,aa,S _ _ s7⟩ (m7.putOne ⟨(m.good U hm).a,i,(m.good U hm).sg⟩ ns (by omega))
theorem Reach.ren{a:List ai}{f:Str->Str}{x y:Str}(h:Reach a x y):Reach (a.map (vw f)) (f x) (f y):=by
 induction h with
 |one e=>exact .one (av.2 ⟨_,e,rfl⟩)
 |step _ e g=>exact .step g (av.2 ⟨_,e,rfl⟩)
theorem ik.ren{g:List ai}{f:Str->Str}{r a:Str}:ik g r a->ik (g.map (vw f)) (f r) a:=fun⟨w,h,b,i⟩ =>
 ⟨f w,h.imp (fun e=>by rw[e]) Reach.ren,f b,av.2 ⟨_,i,rfl⟩⟩
inductive jp (vs:List V)(H:Hp)(Q:VK)(E:XK):Prop
 |mk (p c t l1 l2 l3 l4:Addr) (ts:Ze) (J0 J1 rooms:Zb) (ds:List ai):(vs=[.ref p,.ref t])->(gW H p c)->(iA H t l1 l2 l3 l4 ts J0 J1 rooms ds)->(aE J0 J1 rooms ds)->(rooms.length<=26)->(∀(t' l3' l4':Addr) (ts':Ze) (rooms':Zb) (f:Str->Str) (H':Hp),iA H' t' l1 l2 l3' l4' ts' J0 J1 rooms' (ds.map (vw f))->aE J0 J1 rooms' (ds.map (vw f))->rooms'.Perm (rooms.map f)->gW H' p c->c9 p H H'->Q (.ref t') H')->jp  vs H Q E
theorem zO{K:Za}{D:List V}{H:Hp}{Q:VK}{E:XK}(h:jp D H Q E):ve K fI lM (bJ Q) (start vO D) H:=by
 obtain⟨p,c,t,l1,l2,l3,l4,ts,J0,J1,rooms,ds,rfl,hp,T,m,z3,k⟩:=h;have z4:=m.few;have cv:0<rooms.length:=by
  cases hq:rooms with
  |nil=>exact absurd hq m.rooms0
  |cons _ _=>simp
 refine⟨_,rfl,t,_,rfl,be.of T.t,rfl,_,_,rfl,_,_,rfl,_,_,rfl,_,_,rfl,rfl,?_⟩;refine fun d hd=>?_;have dp:=hp.nep hd;have dc:=hp.nec hd;have T1:=T.same (ac.new (o:=.dK []) hd);have al:=hp.ex (ac.new (o:=.dK []) hd);have an:upd H d (.dK []) d=some (.dK (Fa [])):=aa;have a8:c9 p H (upd H d (.dK [])):=c9.new hd;generalize upd H d (.dK [])=H1 at T1 al an a8 ⊢;refine⟨_,rfl,_,rfl,_,rfl,.inl ⟨l3,_,rfl,.inl (ay.of T1.a3),p,c,(rooms.map V.str).length,rfl,al,by rw[aj];exact z3,fun lw l H2 b5 v a9 as bf aC=>?_⟩⟩;rw[aj]at v;have T2:=T1.ex al aC;have b6:=aC _ _ an dp.symm;have b7:lw≠d:=fun z=>by rw[z,an]at a9;cases a9
 have c0:=bf.ne_strs as;refine⟨l3,lw,rfl,.inl ⟨⟨_,ay.of T2.a3⟩,⟨_,ay.of as⟩,?_⟩⟩;have ez:(rooms.zip l).length=rooms.length:=by rw[List.length_zip,v,Nat.min_self]
 let b8:Nat->L2.St->Hp->Prop:=fun i σ A=>Jz fun(x7 x8:Option V)=>GZ (σ=[some (.ref p),some (.ref t),some (.ref l1),some (.ref l2),some (.ref l3),some (.ref l4),some (.ref d),x7,x8,none,none]) (A d=some (.dK (Fa ((rooms.zip l).take i)))) (A lw=some (.lst (l.map V.str))) (gW A p c) (c9 p H A)
 refine GG (xs:=rooms.map V.str) (ys:=l.map V.str) (by rw[aj,aj,v]) b8
  ⟨_,_,rfl,b6,as,bf,a8.trans aC⟩ (fun i σ A _ ⟨_,_,_,_,h1,_,ex⟩=>⟨ay.of (ex _ _ T.a3 (hp.ne_strs T.a3)),ay.of h1⟩) ?_ ?_
 ·rintro i x y σ H3 q hx hy ⟨x7,x8,rfl,G,O,aF,ex3⟩ hq;obtain⟨r,U,rfl⟩:=bv hx;obtain⟨w,hw,rfl⟩:=bv hy;have hi:i<rooms.length:=(bY.mp U).1;refine⟨q,_,rfl,be.of aa,rfl,_,_,rfl,_,_,rfl,rfl,?_⟩;have bi:(Fa ((rooms.zip l).take i)).length<ak:=by
   unfold Fa;rw[aj,aN];exact ar (by omega)
  refine⟨_,rfl,_,rfl,_,rfl,d,_,rfl,.inl ⟨_,.inr r,kp G hq,rfl,bi,rfl⟩,_,_,rfl,?_,?_,?_,?_⟩
  ·have hz:(rooms.zip l)[i]?=some (r,w):=by
    rw[List.getElem?_zip_eq_some];exact⟨U,hw⟩
   have hn:r∉((rooms.zip l).take i).map (·.1):=by
    rw[nC,xz v];intro z;obtain⟨j,hj⟩:=fN z;have b9:j<i:=by
     have:=(bY.mp hj).1;rw[aN]at this;omega
    rw[List.getElem?_take_of_lt b9]at hj;have:=sD m.okR.1 hj U;omega
   rw[aa,Gg hn,take_snoc hz]
  ·rw[ag b7];exact kp O hq
  ·exact(aF.ex (ac.new hq)).upd dp dc
  ·intro b o e n;rw[ag (ae e hd)];exact kp (ex3 _ _ e n) hq
 rintro σ H3 ⟨x7,x8,rfl,G,O,aF,ex3⟩;rw[aj,<-ez,bb]at G;have T3:=T.ex hp ex3;generalize hρ:Hd (rooms.zip l)=ρ;have I:rooms.map ρ=l:=by rw[<-hρ];exact C2 m.okR.1 v
 have J:∀r∈rooms,bM (Fa (rooms.zip l)) (.inr r:cz)=some (.str (ρ r)):=fun r U=>by
  rw[<-hρ];exact Dg (by rw[xz v];exact U)
 refine⟨_,rfl,l3,rfl,⟨_,ay.of T3.a3⟩,fun f hf=>?_⟩
 let ca:Nat->List V->Hp->Prop:=fun i D A=>D=((rooms.take i).map ρ).map V.str/\ac H3 A/\A f=some (.lst D)
 refine cH (xs:=rooms.map V.str) ca ⟨rfl,ac.new hf,aa⟩ (fun i D A _ ⟨_,S,h'⟩=>⟨h',ay.of (S _ _ T3.a3)⟩) ?_ ?_;rotate_left
 ·rintro i D A x' a0 hi ⟨rfl,S,f'⟩;obtain⟨r,U,rfl⟩:=bv a0;refine gN (u7 ?_);refine⟨_,rfl,_,rfl,d,.str (ρ r),rfl,.inl ⟨_,.inr r,.inl (S _ _ G),rfl,(J r (aY U)).symm⟩,f',?_,pA hi ⟨?_,?_,aa⟩⟩
  ·rw[aj,aj,aN];exact ar (by omega)
  ·rw[take_snoc U,ap,ap];rfl
  ·intro b o q;rw[ag (ae q hf)];exact S _ _ q
 rintro D H4 ⟨rfl,S4,f4⟩;rw[aj,bb,I]at f4;have T4:=T3.same S4;have a5:=aF.ex S4;have cc:=S4 _ _ G;refine⟨_,rfl,_,rfl,.inl ⟨l3,_,rfl,.inl (ay.of T4.a3),dR (m:=((rooms.map V.str).length:Nat)) a5 (by rw[aj];omega) (by rw[aj];omega) fun r H5 r0 r1 cd M=>⟨_,_,rfl,rfl,?_⟩⟩⟩;rw[aj]at r1;obtain⟨n,rfl⟩:=jy r0;have T5:=T4.ex a5 M;have f5:=M _ _ f4 (a5.ne_strs f4);have ce:=M _ _ cc dp.symm;have bl:c9 p H H5:=(ex3.trans (ac.exB S4)).trans M;have c1:gC (l.map V.str) none (some 1)=(l.take 1).map V.str:=pM l 1;have c2:gC (l.map V.str) (some (1+(n:Int))) none=(l.drop (1+n)).map V.str:=wB l (1+n);have c3:gC (l.map V.str) (some 1) (some (1+(n:Int)))=((l.drop 1).take (1+n-1)).map V.str:=EM l (j:=1) (k:=1+n) (by omega) (by omega);refine⟨_,rfl,_,rfl,f,_,rfl,ay.of f5,fun q1 a6=>⟨_,rfl,_,rfl,_,rfl,f,_,rfl,ay.of (kp f5 a6),fun q2 a7=>⟨q1,q2,_,_,rfl,rfl,kp aa a7,aa,?_,fun q3 bn=>⟨_,rfl,_,rfl,_,rfl,_,rfl,f,_,rfl,ay.of (kp (kp (kp f5 a6) a7) bn),fun q4 bp=>⟨q3,q4,_,_,rfl,rfl,kp aa bp,aa,?_,fun q5 N=>?_⟩⟩⟩⟩⟩
 ·rw[c1,c2,aj,aj,aN,fP];exact eK (ar (by omega))
 ·rw[c1,c2,c3,au,aj,aj,aj,aN,fP,aN,fP];exact eK (ar (by omega))
 rw[c1,c2,c3]at N ⊢;have m1:(l.take 1).map V.str++(l.drop (1+n)).map V.str=(l.take 1++l.drop (1+n)).map V.str:=ap.symm;have m2:(l.take 1++l.drop (1+n)).map V.str++((l.drop 1).take (1+n-1)).map V.str=(l.take 1++l.drop (1+n)++(l.drop 1).take (1+n-1)).map V.str:=ap.symm;rw[m1]at N ⊢;rw[m2];have S6:=((((ac.new (o:=.lst ((l.take 1).map V.str)) a6).trans (ac.new (o:=.lst ((l.drop (1+n)).map V.str)) (by rw[<-c1];exact a7))).trans (ac.new (o:=.lst ((l.take 1++l.drop (1+n)).map V.str)) (by rw[<-c1,<-c2];exact bn))).trans (ac.new (o:=.lst (((l.drop 1).take (1+n-1)).map V.str)) (by rw[ap,<-c1,<-c2];exact bp))).trans (ac.new (o:=.lst ((l.take 1++l.drop (1+n)++(l.drop 1).take (1+n-1)).map V.str)) N);have B:=y3 l n;generalize l.take 1++l.drop (1+n)++(l.drop 1).take (1+n-1)=s at S6 B N ⊢;have b1:(upd (upd (upd (upd (upd H5 q1 (.lst ((l.take 1).map V.str))) q2 (.lst ((l.drop (1+n)).map V.str))) q3 (.lst ((l.take 1++l.drop (1+n)).map V.str))) q4 (.lst (((l.drop 1).take (1+n-1)).map V.str))) q5 (.lst (s.map V.str))) q5=some (.lst (s.map V.str)):=aa;generalize(upd (upd (upd (upd (upd H5 q1 (.lst ((l.take 1).map V.str))) q2 (.lst ((l.drop (1+n)).map V.str))) q3 (.lst ((l.take 1++l.drop (1+n)).map V.str))) q4 (.lst (((l.drop 1).take (1+n-1)).map V.str))) q5 (.lst (s.map V.str)))=H6 at S6 b1 ⊢;have T6:=T5.same S6;have b2:=S6 _ _ ce;refine⟨_,rfl,l4,rfl,⟨_,ay.of T6.a4⟩,fun g hg=>?_⟩
 let ch:Nat->List V->Hp->Prop:=fun i D A=>∃us:List Addr,D=us.map V.ref/\ac H6 A/\A g=some (.lst D)/\cB A us ((ds.take i).map (vw ρ))
 refine cH (xs:=ts.map V.ref) ch ⟨[],rfl,ac.new hg,aa,.nil⟩ (fun i D A _ ⟨_,_,S,h',_⟩=>⟨h',ay.of (S _ _ T6.a4)⟩) ?_ ?_;rotate_left
 ·rintro i D A x' a0 hi ⟨us,rfl,S,g',hP⟩;obtain⟨u,hu,rfl⟩:=cM a0;obtain⟨L,b3,b4⟩:=Paired.getL T6.ds hu;obtain⟨sb,cl,cm⟩:=b4.kt (ac.kt S);have Y:=aY b3;have co:=J L.a (m.good L Y).a;have cq:=J L.b (m.good L Y).b;refine⟨u,_,rfl,be.of cl,rfl,_,_,rfl,_,_,rfl,_,_,rfl,rfl,?_⟩;refine u7 ?_;refine⟨_,rfl,_,rfl,d,.str (ρ L.a),rfl,.inl ⟨_,.inr L.a,.inl (S _ _ b2),rfl,co.symm⟩,_,rfl,_,rfl,_,rfl,d,.str (ρ L.b),rfl,.inl ⟨_,.inr L.b,.inl (S _ _ b2),rfl,cq.symm⟩,(by show 3<=ak;decide),fun w hw=>⟨kp g' hw,?_,pA hi ⟨us++[w],by rw[ap];rfl,?_,aa,?_⟩⟩⟩
  ·rw[aj,Paired.length hP,aj,aN];exact ar (by omega)
  ·intro b o q;rw[ag (ae q hg)];exact kp (S _ _ q) hw
  ·rw[take_snoc b3,ap];have hk:fj A (upd (upd A w (.tup [.str (ρ L.a),.ref sb,.str (ρ L.b)])) g (.lst (us.map V.ref++[.ref w]))):=(ac.kt (ac.new hw)).trans (bW (kp g' hw));refine cr (hP.kt hk) ⟨sb,?_,hk _ _ cm⟩;exact(bW (kp g' hw)) _ _ aa
 rintro D H7 ⟨us,rfl,S7,g7,hP⟩;rw[aj,Paired.length T.ds,bb]at hP;have T7:=T6.same S7;have cs:=(cd.ex S6).ex S7;have ct:c9 p H H7:=bl.trans (ac.exB (S6.trans S7));refine⟨_,rfl,_,rfl,_,rfl,_,rfl,(by show 4<=ak;decide),fun t' C=>k t' q5 g us s ρ _ ⟨aa,kp T7.a1 C,kp T7.a2 C,kp (S7 _ _ b1) C,kp g7 C,hP.kt (ac.kt (ac.new C))⟩ (m.renamed b5 I B) (by rw[I];exact B) (cs.ex (ac.new C)) (ct.trans (c9.new C))⟩
inductive sv (vs:List V)(H:Hp)(Q:VK)(E:XK):Prop
 |mk (p c t l1 l2 l3 l4:Addr) (ts:Ze) (J0 J1 rooms:Zb) (ds:List ai) (n:Nat):(vs=[.ref p,.ref t,.int (n:Nat)])->(gW H p c)->(iA H t l1 l2 l3 l4 ts J0 J1 rooms ds)->(aE J0 J1 rooms ds)->(rooms.length<=26)->(ds.length<=650)->(n<=8)->(∀(t' l3' l4':Addr) (ts':Ze) (rooms':Zb) (ds':List ai) (H':Hp),iA H' t' l1 l2 l3' l4' ts' J0 J1 rooms' ds'->aE J0 J1 rooms' ds'->(∀r∈rooms',∀a∈J0,ik ds' r a)->rooms'.length=rooms.length->ds'.length<=ds.length+n+4 * rooms.length->gW H' p c->c9 p H H'->Q (.ref t') H')->sv  vs H Q E
theorem HA{K:Za}{vs:List V}{H:Hp}{Q:VK}{E:XK}(h:sv vs H Q E):Ba K fI jp kq mv sA (bJ Q) (start Cu vs) H:=by
 obtain⟨p,c,t,O,U,C,l4,ts,D,G,rooms,ds,n,rfl,hp,T,m,z3,z4,zn,k⟩:=h;refine⟨_,rfl,p,c,rfl,hp,fun H1 I J=>?_⟩;have T1:=T.ex hp J;refine⟨_,rfl,_,rfl,_,_,rfl,rfl,dR I (by omega) (by omega) fun x H2 x0 x1 al L=>?_⟩;have T2:=T1.ex I L;refine⟨x,rfl,by omega,by omega,?_⟩
 let an:Nat->L2.St->Hp->Prop:=fun i σ H'=>NE5 fun(B g:Addr) (j:Ze) (e:List ai) (x3:Option V)=>Ku (σ=[some (.ref p),some (.ref B),some (.int (n:Nat)),x3]) (iA H' B O U C g j D G rooms e) (aE D G rooms e) (e.length<=ds.length+i) (gW H' p c) (c9 p H H')
 refine mJ (lo:=0) (n:=x.toNat) an
  ⟨t,l4,ts,ds,_,rfl,T2,m,aG _,al,J.trans L⟩ ?_ ?_
 ·rintro i σ H3 hi ⟨B,g,j,e,x3,rfl,T3,m3,z,y,ex3⟩;refine⟨_,rfl,_,rfl,p,c,B,O,U,C,g,j,D,G,rooms,e,rfl,y,T3,m3,by omega,fun Y l o q H4 T4 m4 z4 s u=>?_⟩;exact⟨Y,l,o,q,_,rfl,T4,m4,by omega,s,ex3.trans u⟩
 ·rintro σ H3 ⟨B,g,j,e,x3,rfl,T3,m3,z,y,ex3⟩;refine⟨_,rfl,_,rfl,p,c,B,O,U,C,g,j,D,G,rooms,e,rfl,y,T3,m3,z3,by omega,fun Y l o q H4 T4 m4 M zw s u=>?_⟩;refine⟨_,rfl,dR s (by decide) (by decide) fun w H5 w0 w1 N A=>⟨rfl,_,rfl,?_⟩⟩;have T5:=T4.ex s A;refine iy (fun _=>?_) (fun _=>?_)
  ·refine⟨_,rfl,_,rfl,p,c,Y,O,U,C,l,o,D,G,rooms,q,rfl,N,T5,m4,z3,fun t3 as aC aF v f H6 T6 m6 pr a0 a4=>⟨_,rfl,?_⟩⟩;refine k t3 as aC aF v _ H6 T6 m6 (fun r hr a ha=>?_) (by rw[pr.length_eq,aj]) (by rw[aj];omega) a0 (((ex3.trans u).trans A).trans a4);obtain⟨r0,a5,rfl⟩:=av.1 (pr.mem_iff.1 hr);exact(M r0 a5 a ha).ren
  ·exact⟨_,rfl,k Y C l o rooms q H5 T5 m4 M rfl (by omega) N ((ex3.trans u).trans A)⟩
abbrev LP:=(List Str×List Str)×List Sg
section
variable(A B:List Str->Sg->List Str)
def fx(here:LP)(q:List LP×Option Sg)(sg:Sg):List LP×Option Sg :=
 match q.2 with
 |some _=>q
 |none=>if sg.head?≠some ("ask":Str)/\A here.1.1 sg=[]/\B here.1.2 sg≠[]then(q.1,some sg)
  else if A here.1.1 sg≠[]/\B here.1.2 sg≠[]/\¬(A here.1.1 sg,B here.1.2 sg)∈q.1.map (·.1)then(q.1++[((A here.1.1 sg,B here.1.2 sg),here.2++[sg])],none)else q
def rD(here:LP)(L:List LP)(ss:List Sg):List LP×Option Sg:=ss.foldl (fx A B here) (L,none)
def dC(ss:List Sg)(k:List Str×List Str):Nat->List LP×Option (List Sg×Sg)
 |0=>([(k,[])],none)
 |n+1=>match (dC ss k n).2 with
  |some _=>dC ss k n
  |none=>match (dC ss k n).1[n]? with
   |none=>dC ss k n
   |some c=>((rD A B c (dC ss k n).1 ss).1,(rD A B c (dC ss k n).1 ss).2.map fun sg=>(c.2,sg))
end
abbrev JG(fm fi:List (List Str))(P:List bz)(L:List LP):Prop:=Paired (fun(c:bz) (x:LP)=>fm[c.key.1]?=some x.1.1/\fi[c.key.2]?=some x.1.2/\c.story=x.2) P L
theorem Ap{l:List (List Str)}(e:l.Nodup){i j:Nat}{r:Zb}(a:l[i]?=some r)(f:l[j]?=some r):i=j:=(List.getElem?_inj (bY.1 a).1 e).1 (a.trans f.symm)
theorem JG.has{k l:List (List Str)}{P:List bz}{L:List LP}(h:JG k l P L)(r:k.Nodup)(s:l.Nodup){w g:Nat}{a b:Zb}(p:k[w]?=some a)(q:l[g]?=some b):jf P (w,g)=true↔(a,b)∈L.map (·.1):=by
 rw[lV];constructor
 ·intro z;obtain⟨c,m,e⟩:=av.1 z;obtain⟨i,n⟩:=fN m;obtain⟨x,o,f,j,_⟩:=Paired.getL h n;rw[e]at f j;rw[p]at f;rw[q]at j;injection f with f;injection j with j;exact av.2 ⟨x,aY o,by rw[f,j]⟩
 ·intro z;obtain⟨x,o,e⟩:=av.1 z;obtain⟨i,n⟩:=fN o;obtain⟨c,m,f,j,_⟩:=Paired.get h n;rw[e]at f j;refine av.2 ⟨c,aY m,?_⟩;have:=Ap r f p;have:=Ap s j q;obtain⟨⟨u,v⟩,_,_⟩:=c
  simp_all
theorem Ev{J0 m rooms f:Zb}{h:List ai}{q:List (List Str)}{l:List (Sg×Nat)}(r:Paired (fun(a:Sg×Nat) (p:Sg×List Str)=>a.1=p.1/\q[a.2]?=some p.2) l (stepsF J0 m rooms h f)){g:Sg}(v:g∈aR J0 m):
  match bN l g with|none=>behF rooms h f g=[] | some w=>behF rooms h f g≠[]/\q[w]?=some (behF rooms h f g):=by
 cases e:bN l g with
 |some w =>
  obtain⟨i,o⟩:=fN (Ag e);obtain⟨p,k,j,t⟩:=Paired.getL r o;have k:=aY k;obtain⟨s,_,x⟩:=av.1 (bP.1 k).1;have u:=of_decide_eq_true (bP.1 k).2;rw[<-x]at j t u;have j:g=s:=j;subst j;exact⟨u,t⟩
 |none =>
  simp only;refine tq fun n=>?_;have y:(g,behF rooms h f g)∈stepsF J0 m rooms h f:=bP.2 ⟨av.2 ⟨g,v,rfl⟩,zzr1 n⟩;obtain⟨i,o⟩:=fN y;obtain⟨a,z,j,_⟩:=Paired.get r o;unfold bN at e;rw[Option.map_eq_none_iff,List.find?_eq_none]at e;exact e a (aY z) (zzr1 j)
section
variable{J0 J1 rooms rooms':Zb}{ds ds':List ai}{SM SI:qY}
theorem xW(A:SM.1.fs.Nodup)(B:SI.1.fs.Nodup){n:List (Sg×Nat)}{c:bz}{x:LP}
  (C:Paired (fun(a:Sg×Nat) (p:Sg×List Str)=>a.1=p.1/\SM.1.fs[a.2]?=some p.2) n (stepsF J0 J1 rooms ds x.1.1)) (D:c.story=x.2) :
  ∀(h:List Sg) (l:List (Sg×Nat)) (q:List bz×Option Sg) (f:List LP×Option Sg),(∀s∈h,s∈aR J0 J1) ->
   Paired (fun(a:Sg×Nat) (p:Sg×List Str)=>a.1=p.1/\SI.1.fs[a.2]?=some p.2) l ((h.map fun s=>(s,behF rooms' ds' x.1.2 s)).filter fun p=>decide (p.2≠[]))->JG SM.1.fs SI.1.fs q.1 f.1->q.2=f.2 ->
   JG SM.1.fs SI.1.fs (l.foldl (eV n c) q).1 (h.foldl (fx (behF rooms ds) (behF rooms' ds') x) f).1/\(l.foldl (eV n c) q).2=(h.foldl (fx (behF rooms ds) (behF rooms' ds') x) f).2
 |[],l,q,f,_,i,g,j=>by
  cases i;exact⟨g,j⟩
 |s::h,l,q,f,H,i,g,j=>by
  have m:=fun y L=>H y (d_ _ L);have E:=H s cD;rw[bd]at i;rw[lr];by_cases k:behF rooms' ds' x.1.2 s=[]
  ·rw[List.filter_cons_of_neg (by simp[k])]at i;have e:fx (behF rooms ds) (behF rooms' ds') x f s=f:=by
    unfold fx;cases f.2 with
    |some _=>rfl
    |none =>
     simp only;rw[if_neg (fun z=>z.2.2 k),if_neg (fun z=>z.2.1 k)]
   rw[e];exact xW A B C D h l q f m i g j
  rw[List.filter_cons_of_pos (by simp[k])]at i;cases i with
  |@cons a p l M r t =>
  rw[lr];obtain⟨G,o⟩:=r;have G:a.1=s:=G;have o:SI.1.fs[a.2]?=some (behF rooms' ds' x.1.2 s):=o;refine xW A B C D h l _ _ m t ?_ ?_
  all_goals
   have lk:=Ev C E;unfold eV fx;rw[<-j,G];cases q.2 with
   |some _=>first|exact g|exact j
   |none =>
    simp only;cases I:bN n s with
    |none =>
     rw[I]at lk;simp only at lk ⊢;rw[if_neg (c:=behF rooms ds x.1.1 s≠[]/\_) (fun z=>z.1 lk)];by_cases u:s.head?=some ("ask":Str)
     ·rw[if_pos u,if_neg (fun z=>z.1 u)];first|exact g|exact j
     ·rw[if_neg u,if_pos ⟨u,lk,k⟩];try exact g
    |some w =>
     rw[I]at lk;simp only at lk ⊢;rw[if_neg (c:=s.head?≠_/\_) (fun z=>lk.1 z.2.1)];have J:=JG.has g A B lk.2 o;by_cases v:jf q.1 (w,a.2)=true
     ·rw[if_pos v,if_neg (fun z=>z.2.2 (J.1 v))];first|exact g|exact j
     ·rw[if_neg v,if_pos ⟨lk.1,k,fun z=>v (J.2 z)⟩];try exact cr g ⟨lk.2,o,by show c.story++[s]=x.2++[s];rw[D]⟩
theorem Fy(m:qX J0 J1 rooms ds SM)(o:qX J0 J1 rooms' ds' SI)(t:SM.2.length=SM.1.fs.length)(u:SI.2.length=SI.1.fs.length):
  ∀n,JG SM.1.fs SI.1.fs (ix SI.2 SM.2 n).1 (dC (behF rooms ds) (behF rooms' ds') (aR J0 J1) (closF rooms ds (rooms.take 1),closF rooms' ds' (rooms'.take 1)) n).1/\(ix SI.2 SM.2 n).2=(dC (behF rooms ds) (behF rooms' ds') (aR J0 J1) (closF rooms ds (rooms.take 1),closF rooms' ds' (rooms'.take 1)) n).2
 |0=>⟨.cons ⟨m.zero,o.zero,rfl⟩ .nil,rfl⟩
 |n+1=>by
  obtain⟨j,l⟩:=Fy m o t u n;unfold ix dC;generalize ix SI.2 SM.2 n=q at j l;generalize dC (behF rooms ds) (behF rooms' ds') (aR J0 J1) (closF rooms ds (rooms.take 1),closF rooms' ds' (rooms'.take 1)) n=v at j l;rw[<-l];cases e:q.2 with
  |some y=>simp only;exact⟨j,l⟩
  |none =>
   simp only;cases r:q.1[n]? with
   |none =>
    have A:v.1[n]?=none:=by
     rw[List.getElem?_eq_none_iff]at r ⊢;rw[<-Paired.length j];exact r
    rw[A];exact⟨j,l⟩
   |some c =>
    obtain⟨x,B,C,D,k⟩:=Paired.getL j r;rw[B];simp only;have row:∀{S:qY}{s f:Zb}{k:List ai}{i:Nat},qX J0 J1 s k S->S.2.length=S.1.fs.length->S.1.fs[i]?=some f->Paired (fun(a:Sg×Nat) (p:Sg×List Str)=>a.1=p.1/\S.1.fs[a.2]?=some p.2) (S.2.getD i []) (stepsF J0 J1 s k f):=by
     intro S s f k i ok E w;have lt:i<S.2.length:=by rw[E];exact(bY.1 w).1
     have z:S.2[i]?=some S.2[i]:=b_ lt;obtain⟨H,g,G⟩:=ok.st _ _ z;rw[w]at g;injection g with g;rw[sO,z,g];exact G
    have:=xW (rooms':=rooms') (ds':=ds') m.good.nd o.good.nd (row m t C) k (aR J0 J1) _ (q.1,none) (v.1,none) (fun _ h=>h) (row o u D) j rfl;unfold cA rD;rw[this.2,k];exact⟨this.1,rfl⟩
end
theorem wm{a e:List (List (Sg×Nat))}{n:Nat}{x:List Sg×Sg}(h:(ix a e n).2=some x):∀m,(ix a e (n+m)).2=some x
 |0=>h
 |m+1=>by
  have f:=wm h m;show(match (ix a e (n+m)).2 with|some _=>_|none=>_:List bz×Option (List Sg×Sg)).2=_
  rw[f];exact f
theorem wj{a e:List (List (Sg×Nat))}{P:List bz}(h:ix a e P.length=(P,none)):∀m,ix a e (P.length+m)=(P,none)
 |0=>h
 |m+1=>by
  have f:=wj h m;rw[<-Fh];unfold ix;rw[f];simp only;rw[fO (Nat.le_add_right _ _)]
theorem Af{A B:List Str->Sg->List Str}{ss:List Sg}{k:List Str×List Str}:∀n,(∀x∈(dC A B ss k n).1,x.2.length<=n)/\∀x,(dC A B ss k n).2=some x->x.1.length<=n
 |0=>⟨fun x hx=>by rw[bO.1 (show x∈[(k,([]:List Sg))]from hx)];exact aG _,fun x h=>nomatch h⟩
 |n+1=>by
  obtain⟨a,f⟩:=Af (A:=A) (B:=B) (ss:=ss) (k:=k) n;unfold dC;generalize dC A B ss k n=q at a f;cases e:q.2 with
  |some y=>simp only;exact⟨fun x hx=>pZ (a x hx),fun x h=>pZ (f x h)⟩
  |none =>
   simp only;cases j:q.1[n]? with
   |none=>simp only;exact⟨fun x hx=>pZ (a x hx),fun x h=>pZ (f x h)⟩
   |some c =>
    have g:=a c (aY j);simp only;refine⟨?_,fun x h=>?_⟩
    ·have:∀(l:List Sg) (r:List LP×Option Sg),(∀x∈r.1,x.2.length<=n+1)->∀x∈(l.foldl (fx A B c) r).1,x.2.length<=n+1:=by
      intro l
      induction l with
      |nil=>intro r h;exact h
      |cons s l m =>
       intro r h;rw[lr];refine m _ fun x hx=>?_;unfold fx at hx;cases i:r.2 with
       |some _=>rw[i]at hx;exact h x hx
       |none =>
        rw[i]at hx;simp only at hx;split at hx
        ·exact h x hx
        ·split at hx
         ·rcases aX.1 hx with hx|hx
          ·exact h x hx
          ·rw[bO.1 hx];show(c.2++[s]).length<=n+1;rw[au];simpa using g
         ·exact h x hx
     exact this ss _ fun x hx=>pZ (a x hx)
    ·obtain⟨p,_,o⟩:=lq.1 h;rw[<-o];exact pZ g
def leastF(J0 J1 rooms rooms':Zb)(ds ds':List ai):Option (List Sg×Sg):=(dC (behF rooms ds) (behF rooms' ds') (aR J0 J1) (closF rooms ds (rooms.take 1),closF rooms' ds' (rooms'.take 1)) 300).2
theorem im.part{K:Za}{C x M fa i a j:Addr}{l n:Ze}{m:gQ}{H f:Hp}(h:im K C H x M fa i a j l n m)(e:∀b o,H b=some o->(∀k,o=.dT k->b=a)->f b=some o):im K C f x M fa i a j l n m:=by
 have k:fj H f:=fun b I q=>e _ _ q fun _ z=>nomatch z;obtain⟨⟨p,fs,g,r⟩,t,u,v,y,A,B⟩:=h;refine⟨⟨p,fs,e _ _ g fun _ z=>(nomatch z),r⟩,e _ _ t fun _ z=>(nomatch z),Paired.mapP u fun _ _ r=>k _ _ r,e _ _ v fun _ z=>(nomatch z),Paired.mapP y fun w s r=>⟨r.1,?_⟩,e _ _ A fun _ _=>rfl,B⟩;obtain⟨D,E,G⟩:=r.2;exact⟨D,e _ _ E fun _ z=>(nomatch z),Paired.mapP G fun _ _ r=>aW.kt k r⟩
theorem Jb{f g:Zb}{a:Sg}(h:a∈aR f g):a≠[]:=by
 unfold aR at h;intro z;subst z;rcases aX.1 h with h|h
 ·rcases aX.1 h with h|h
  ·obtain⟨w,_,e⟩:=av.1 h;cases e
  ·obtain⟨w,_,e⟩:=av.1 h;cases e
 ·have:=bO.1 h;cases this
theorem qX.steps{g h rooms:Zb}{k:List ai}{S:qY}(ok:qX g h rooms k S){i:Nat}{p:Sg×Nat}(a:p∈S.2.getD i []):p.2<S.1.fs.length/\p.1≠[]:=by
 rw[sO]at a;cases e:S.2[i]? with
 |none=>rw[e]at a;cases a
 |some l =>
  rw[e]at a;obtain⟨f,_,m⟩:=ok.st i l e;obtain⟨j,n⟩:=fN a;obtain⟨q,o,r,t⟩:=Paired.getL m n;obtain⟨s,u,v⟩:=av.1 (bP.1 (aY o)).1;exact⟨(bY.1 t).1,by rw[r,<-v];exact Jb u⟩
theorem Good.few4{rooms:Zb}{m:gQ}(g:Good rooms m)(a:rooms.length<=4):m.fs.length<=16:=by
 have h:=jY g.nd (R:=m_ rooms) (fun f e=>by obtain⟨p,rfl⟩:=g.isF f e;exact qy p rooms);rw[qz]at h;have:2 ^ rooms.length<=2 ^ 4:=Nat.pow_le_pow_right (by decide) a;omega
theorem iR{a H:Hp}{e:Addr}{f:Ze}{st:List (List (Sg×Nat))}(h:pQ a e H f st):∀t∈f,a t=none/\t≠e/\∃l,H t=some (.dT l):=fun t g=>by
 obtain⟨i,j⟩:=fN g;obtain⟨l,_,r⟩:=Paired.getL h j;exact⟨r.1,r.2.1,_,r.2.2⟩
theorem Paired.mapM{α β:Type}{F G:α->β->Prop}:∀{e:List α}{bs:List β},Paired F e bs->(∀a b,a∈e->F a b->G a b)->Paired G e bs
 |_,_,.nil,_=>.nil
 |_,_,.cons r t,h=>.cons (h _ _ cD r) (Mum.Paired.mapM t fun a b f=>h a b (d_ _ f))
inductive i4(K:Za)(Cm:Addr)(vs:List V)(H:Hp)(Q:VK)(E:XK):Prop
 |mk (x y:Addr) (J0 J1 rooms rooms':Zb) (ds ds':List ai):(vs=[.ref x,.ref y])->(bt Cm H x J0 J1 rooms ds)->(bt Cm H y J0 J1 rooms' ds')->((∀r∈rooms',∀a∈J0,ik ds' r a))->(rooms.length<=4)->(rooms'.length<=4)->((leastF J0 J1 rooms rooms' ds ds'=none->∀(u l:Addr) (ps:Ze) (H':Hp),H' u=some (.tup [.str "keeps",.ref l])->H' l=some (.lst (ps.map V.ref))->ps.length<=64->H l=none->ac H H'->Q (.ref u) H'))->(∀(s:List Sg) (g:Sg),leastF J0 J1 rooms rooms' ds ds'=some (s,g)->∀(u l b:Addr) (gs:Ze) (H':Hp),H' u=some (.tup [.str "fault",.ref l,.ref b])->H' l=some (.lst (gs.map V.ref))->Paired (fun g (sg:Sg)=>aW K H' g (sg.map V.str)) gs s->aW K H' b (g.map V.str)->H l=none->ac H H'->Q (.ref u) H')->i4 K Cm vs H Q E
theorem Gs{K:Za}{m:Addr}{H:Hp}{Q:VK}{E:XK}{x y:Addr}{i j rooms e:Zb}{k f:List ai}(M:bt m H x i j rooms k)(N:bt m H y i j e f)(tk:∀r∈e,∀a∈i,ik f r a)(p:rooms.length<=4)(q:e.length<=4)
  (t:leastF i j rooms e k f=none->∀(u l:Addr) (n:Ze) (h:Hp),h u=some (.tup [.str "keeps",.ref l])->h l=some (.lst (n.map V.ref))->n.length<=64->H l=none->ac H h->Q (.ref u) h)
  (v:∀(s:List Sg) (g:Sg),leastF i j rooms e k f=some (s,g)->∀(u l b:Addr) (o:Ze) (h:Hp),h u=some (.tup [.str "fault",.ref l,.ref b])->h l=some (.lst (o.map V.ref))->Paired (fun g (w:Sg)=>aW K h g (w.map V.str)) o s->aW K h b (g.map V.str)->H l=none->ac H h->Q (.ref u) h):i4 K m [.ref x,.ref y] H Q E:=by
 exact⟨x,y,i,j,rooms,e,k,f,rfl,M,N,tk,p,q,t,v⟩
theorem FL{K:Za}{C Cm:Addr}(c:FC K C){vs:List V}{H:Hp}{Q:VK}{E:XK}(h:i4 K Cm vs H Q E):Hq K (kA K C Cm) (hE K) C (my K C Cm) (gj Cm) (bJ Q) (start Iu vs) H:=by
 classical
 obtain⟨x,y,U,Y,rooms,g,ds,s,rfl,MX,MY,tk,z4,as,kn,kf⟩:=h;refine⟨_,rfl,_,rfl,x,y,U,Y,rooms,g,ds,s,rfl,MX,MY,tk,fun H1 S1=>?_⟩;have bf:=MX.same S1;have bi:=MY.same S1;refine⟨_,rfl,fun o1 d1 aC bl cc=>?_⟩;have S2:ac H1 (upd (upd H1 d1 (.own o1)) o1 (.ins C d1 [])):=fun b o e=>by rw[ag (ae e aC)];exact kp e bl
 refine⟨H1,o1,d1,x,U,Y,rooms,ds,rfl,aa,bf,aC,S2,by omega,fun fa sa na ta us ws ts S j H3 F3 bn v G M _ S3=>⟨rfl,?_⟩⟩;clear S2;obtain⟨bp,b1,g1,l1,l2,l3,l4,l5,l6,l7⟩:=F3.ob;refine⟨_,rfl,o1,C,bp,b1,.ref ta,rfl,g1,c.cls,c.a5,l5,?_⟩;refine⟨_,rfl,fun o2 d2 aF b2 cd=>?_⟩;have S4:ac H3 (upd (upd H3 d2 (.own o2)) o2 (.ins C d2 [])):=fun b o e=>by rw[ag (ae e aF)];exact kp e b2
 refine⟨H3,o2,d2,y,U,Y,g,s,rfl,aa,bi.same S3,aF,S4,by omega,fun ce ch cl al co cq m N j' H5 F5 b3 A q B b4 S5=>⟨rfl,?_⟩⟩;clear S4;obtain⟨b5,b6,g2,m1,m2,m3,m4,m5,m6,m7⟩:=F5.ob;refine⟨o2,C,b5,b6,.ref al,rfl,g2,c.cls,c.a5,m5,?_⟩
 let H0:Hp:=fun b=>if b∈ts∨b∈m then none else H5 b
 have hz:∀{b:Addr},b∈ts∨b∈m->H0 b=none:=fun h=>if_pos h;have hk:∀{b:Addr}{o:HO},H5 b=some o->(∀k,o=.dT k->b∉ts/\b∉m)->H0 b=some o:=fun{b o} e n=>by
  have:¬(b∈ts∨b∈m):=fun z=>by
   have hd:∃l,H5 b=some (.dT l):=by
    rcases z with z|z
    ·obtain⟨_,_,l,D⟩:=iR v b z;exact⟨l,S5 _ _ D⟩
    ·exact(iR A b z).2.2
   obtain⟨l,D⟩:=hd;rw[e]at D;injection D with D;obtain⟨n1,n2⟩:=n _ D;exact z.elim n1 n2
  show(if b∈ts∨b∈m then none else H5 b)=some o
  rw[if_neg this];exact e
 have SH:ac H H0:=fun b o e=>by
  have e1:=S3 _ _ (S1 _ _ e);refine hk (S5 _ _ e1) fun k _=>⟨fun z=>?_,fun z=>?_⟩
  ·have:=(iR v b z).1;rw[S1 _ _ e]at this;cases this
  ·have:=(iR A b z).1;rw[e1]at this;cases this
 have F0:im K C H0 o1 x fa sa na ta us ws S.1:=(F3.same S5).part fun b o e n=>hk e fun k z=>by
  have:=n k z;subst this;refine⟨fun z=>(iR v b z).2.1 rfl,fun z=>?_⟩;have:=(iR A b z).1;rw[F3.hna]at this;cases this
 have a0:=S5 _ _ bn;have I:mV H0 H5 ta al ts m S.2 N.2:=by
  refine⟨a0,b3,?_,?_,fun b o e=>?_⟩
  ·refine Mum.Paired.mapM v fun t _ ht r=>⟨hz (.inl ht),.inl (S5 _ _ r.2.2)⟩
  ·refine Mum.Paired.mapM A fun t _ ht r=>⟨hz (.inr ht),.inl r.2.2⟩
  ·have e:(if b∈ts∨b∈m then none else H5 b)=some o:=e
   split at e
   ·cases e
   ·exact e
 have zt:ts.length=S.1.fs.length:=by rw[Paired.length v,M]
 have a4:m.length=N.1.fs.length:=by rw[Paired.length A,B]
 have cs:=G.good.few4 z4;have b8:=q.good.few4 as;have a6:∀{rs:Zb}{es:List ai}{S:qY},qX U Y rs es S->0<S.1.fs.length:=fun{rs es S} ok=>by
  rcases wR S.1.fs.length with z|z
  ·have:=ok.zero;rw[fO (by omega)]at this;cases this
  ·exact z
 have LC:Kv ts m S.2 N.2:=⟨by omega,by omega,fun i p hp=>by rw[zt];exact(G.steps hp).1,fun i p hp=>by rw[a4];exact(q.steps hp).1,fun i p hp=>(q.steps hp).2⟩;have b9:ts.length * m.length<=16 * 16:=sN (by omega) (by omega);have an:=Fy G q M B;refine⟨H0,ta,al,ts,m,S.2,N.2,rfl,I,LC,by rw[zt];exact a6 G,by rw[a4];exact a6 q,fun P H6 a7 J ca ro O=>?_,fun P i cm p sb t lst gs H6 a7 J lt _ _ _ _ _ ht D hg hb t0 l0 O=>?_⟩
 ·refine⟨_,rfl,_,rfl,?_⟩;rw[zzr1 rfl];refine cT ?_;have lf:leastF U Y rooms g ds s=none:=by
   unfold leastF;rw[<-(an 300).2];have:=wj J (300-P.length);rw[show P.length+(300-P.length)=300 by omega]at this;rw[this]
  have T:=(an P.length).1;rw[J]at T;have F6:=F0.same O.S;have a8:∀r:Row,wL P N r.1 r.2->r.1∈g/\r.2<ts.length:=fun r ⟨cm,hc,e,F,hF,hr⟩=>by
   obtain⟨i,hi⟩:=fN hc;obtain⟨w,_,e1,_⟩:=Paired.getL T hi;refine⟨(q.good.isF F (aY hF)).sub _ hr,?_⟩;rw[zt,<-e];exact(bY.1 e1).1
  have r0:g[0]?=some (g.headD ""):=by
   cases e:g with
   |nil=>exact absurd e MY.ok.rooms0
   |cons a b=>rfl
  have hb:∀d∈s,d.b∈g:=fun d hd=>(MY.ok.good d hd).b;have first:wL P N (g.headD "") 0:=by
   obtain⟨r,e⟩:=a7.zero;refine⟨⟨(0,0),none,[]⟩,by rw[e];exact cD,rfl,_,q.zero,?_⟩;unfold closF;refine bP.2 ⟨aY r0,zzr1 ⟨g.headD "",?_,.inl rfl⟩⟩;cases e:g with
   |nil=>exact absurd e MY.ok.rooms0
   |cons a b=>exact cD
  have a9:∀f∈N.1.fs,GX s f:=by rw[b4];exact C1 hb j'
  refine⟨_,rfl,_,rfl,H0,o1,y,x,fa,sa,na,ta,us,ws,ts,S.1,S.2,U,Y,g,s,fun r:Row=>wL P N r.1 r.2,g.headD "",rfl,F6,O.h1,O.r1,(MY.same SH).same O.S,⟨a8,fun r hr=>Hw MY.ok q B ro a9 hr⟩,zt,by omega,r0,first,fun l ps L H7 D pr nd all b7 S7=>⟨(by show 2<=ak;decide),fun u hu=>?_⟩⟩
  have S8:ac H7 (upd H7 u (.tup [.str "keeps",.ref l])):=ac.new hu;refine kn lf u l ps _ aa (S8 _ _ D) ?_ ((SH.trans O.S).free b7) (((SH.trans O.S).trans S7).trans S8);rw[Paired.length pr];have:=zK nd fun r hr=>a8 r (all r hr);have:g.length * ts.length<=4 * 16:=sN as (by omega);omega
 ·refine⟨_,rfl,_,rfl,?_⟩;rw[zzr0 (fun z=>by cases z)];refine bH ?_;have lf:leastF U Y rooms g ds s=some (cm.story,p.1):=by
   unfold leastF;rw[<-(an 300).2];have:=wm J (300-(i+1));rw[show i+1+(300-(i+1))=300 by omega]at this;exact this
  refine⟨_,rfl,t,_,rfl,be.of ht,rfl,_,_,rfl,_,_,rfl,rfl,?_⟩;refine⟨_,rfl,_,rfl,(by show 3<=ak;decide),fun u hu=>?_⟩;have S8:ac H6 (upd H6 u (.tup [.str "fault",.ref lst,.ref sb])):=ac.new hu;exact kf cm.story p.1 lf u lst sb gs _ aa (S8 _ _ D) (Paired.mapP hg fun _ _ r=>aW.kt (ac.kt S8) r) (aW.kt (ac.kt S8) hb) (SH.free l0) ((SH.trans O.S).trans S8)
abbrev Iy:=List Str×List Str
section
variable{A B:List Str->Sg->List Str}
theorem rE{c:LP}:∀(l:List Sg) (q:List LP×Option Sg) (s:Sg),q.2=some s->(l.foldl (fx A B c) q).2=some s
 |[],_,_,h=>h
 |p::l,q,s,h=>by
  rw[lr];have e:fx A B c q p=q:=by unfold fx;rw[h]
  rw[e];exact rE l q s h
theorem Ae{a:List Sg}{k:Iy}{n:Nat}{L:List LP}{c:LP}(h:dC A B a k n=(L,none))(e:L[n]?=some c):dC A B a k (n+1)=((rD A B c L a).1,(rD A B c L a).2.map fun f=>(c.2,f)):=by
 show(match (dC A B a k n).2 with|some _=>_|none=>_)=_
 rw[h];simp only[e]
theorem wg{a:List Sg}{k:Iy}{n:Nat}{L:List LP}(h:dC A B a k n=(L,none))(e:L[n]?=none):dC A B a k (n+1)=(L,none):=by
 show(match (dC A B a k n).2 with|some _=>_|none=>_)=_
 rw[h];simp only[e]
theorem qJ{a:List Sg}{k:Iy}{n:Nat}{x:List Sg×Sg}(h:(dC A B a k n).2=some x):∀m,(dC A B a k (n+m)).2=some x
 |0=>h
 |m+1=>by
  have e:=qJ h m;show(match (dC A B a k (n+m)).2 with|some _=>_|none=>_:List LP×Option (List Sg×Sg)).2=_
  rw[e];exact e
end
theorem BJ:∀a:List Int,HT.lexLt a a=false
 |[]=>rfl
 |x::a=>by rw[HT.lexLt_cons,if_pos rfl];exact BJ a
theorem Ac:∀{f g i:List Int},HT.lexLt f g=true->HT.lexLt g i=true->HT.lexLt f i=true
 |[],[],_,h,_=>by cases h
 |_::_,[],_,h,_=>by cases h
 |_,_::_,[],_,h=>by cases h
 |[],_::_,_::_,_,_=>rfl
 |x::f,y::g,z::i,h,k=>by
  rw[HT.lexLt_cons]at h k ⊢;by_cases e:x=y
  ·rw[if_pos e]at h;by_cases a:y=z
   ·rw[if_pos a]at k;rw[if_pos (e.trans a)];exact Ac h k
   ·rw[if_neg a]at k;rw[if_neg (fun q=>a (e.symm.trans q)),e];exact k
  ·rw[if_neg e]at h;have j:=of_decide_eq_true h;by_cases a:y=z
   ·rw[if_neg (fun q=>e (q.trans a.symm)),<-a];exact h
   ·rw[if_neg a]at k;have l:=of_decide_eq_true k;rw[if_neg (by omega)];exact zzr1 (by omega)
theorem Gn:∀{a f:List Int},HT.lexLt a f=false->HT.lexLt f a=false->a=f
 |[],[],_,_=>rfl
 |[],_::_,h,_=>by cases h
 |_::_,[],_,h=>by cases h
 |x::a,y::f,h,k=>by
  rw[HT.lexLt_cons]at h k;by_cases e:x=y
  ·rw[if_pos e]at h;rw[if_pos e.symm]at k;rw[e,Gn h k]
  ·rw[if_neg e]at h;rw[if_neg (fun q=>e q.symm)]at k;have:=of_decide_eq_false h;have:=of_decide_eq_false k;omega
theorem Go:∀{f g:List Int}{a b:Int},f.length=g.length->HT.lexLt f g=true->HT.lexLt (f++[a]) (g++[b])=true
 |[],[],_,_,_,h=>by cases h
 |[],_::_,_,_,e,_=>by cases e
 |_::_,[],_,_,e,_=>by cases e
 |x::f,y::g,a,b,e,h=>by
  rw[tD,tD];rw[HT.lexLt_cons]at h ⊢;by_cases q:x=y
  ·rw[if_pos q]at h ⊢;exact Go (by simpa using e) h
  ·rw[if_neg q]at h ⊢;exact h
theorem Dl{a b:Int}:∀f:List Int,HT.lexLt (f++[a]) (f++[b])=decide (a<b)
 |[]=>by
  show HT.lexLt [a] [b]=_;rw[HT.lexLt_cons];by_cases e:a=b
  ·rw[if_pos e,zzr0 (by omega)];rfl
  ·rw[if_neg e]
 |x::f=>by rw[tD,tD,HT.lexLt_cons,if_pos rfl];exact Dl f
def JF(ss:List Sg)(s:List Sg):List Int:=s.map fun x=>((ss.idxOf x:Nat):Int)
def Ey(ss:List Sg)(s:List Sg):List Int:=(s.length:Int)::JF ss s
def f_(ss:List Sg)(s t:List Sg):Prop:=HT.lexLt (Ey ss s) (Ey ss t)=true
section
variable{ss:List Sg}{s t u:List Sg}{a b:Sg}
theorem pF:f_ ss s t↔s.length<t.length∨(s.length=t.length/\HT.lexLt (JF ss s) (JF ss t)=true):=by
 unfold f_ Ey;rw[HT.lexLt_cons];by_cases e:s.length=t.length
 ·rw[if_pos (by omega)];exact⟨fun h=>.inr ⟨e,h⟩,fun h=>h.elim (fun z=>by omega) fun z=>z.2⟩
 ·rw[if_neg (by omega),decide_eq_true_eq];exact⟨fun h=>.inl (by omega),fun h=>h.elim (fun z=>by omega) fun z=>absurd z.1 e⟩
theorem f_.irr:¬f_ ss s s:=fun h=>by unfold f_ at h;rw[BJ]at h;cases h
theorem f_.trans(h:f_ ss s t)(k:f_ ss t u):f_ ss s u:=Ac h k
theorem f_.asym(h:f_ ss s t):¬f_ ss t s:=fun k=>f_.irr (h.trans k)
theorem BO(h:¬f_ ss s t)(k:¬f_ ss t s):Ey ss s=Ey ss t:=Gn (by simpa[f_]using h) (by simpa[f_]using k)
theorem f_.of_le(h:¬f_ ss t s)(k:f_ ss t u):f_ ss s u:=by
 by_cases c:f_ ss s t
 ·exact c.trans k
 ·have:=BO c h;unfold f_ at k ⊢;rw[this];exact k
theorem f_.le_of(h:f_ ss s t)(k:¬f_ ss u t):f_ ss s u:=by
 by_cases c:f_ ss t u
 ·exact h.trans c
 ·have:=BO c k;unfold f_ at h ⊢;rw[<-this];exact h
theorem f_.app(h:f_ ss s t):f_ ss (s++[a]) (t++[b]):=by
 rw[pF]at h ⊢;rw[au,au];rcases h with h|⟨e,f⟩
 ·exact .inl (Nat.add_lt_add_right h _)
 ·refine .inr ⟨by rw[e];rfl,?_⟩;unfold JF at f ⊢;rw[ap,ap];exact Go (by rw[aj,aj];exact e) f
theorem f_.last:f_ ss (s++[a]) (s++[b])↔ss.idxOf a<ss.idxOf b:=by
 rw[pF,au,au];unfold JF;rw[ap,ap];show _∨(_/\HT.lexLt (_++[((ss.idxOf a:Nat):Int)]) (_++[((ss.idxOf b:Nat):Int)])=true)↔_;rw[Dl,decide_eq_true_eq];exact⟨fun h=>h.elim (fun z=>by simp at z) fun z=>by omega,fun h=>.inr ⟨rfl,by omega⟩⟩
theorem leS.app(h:¬f_ ss t s):¬f_ ss (t++[a]) (s++[a]):=fun k=>by
 by_cases c:f_ ss s t
 ·exact(c.app (a:=a) (b:=a)).asym k
 ·have e:=BO c h;unfold Ey at e;injection e with g f;rw[pF,au,au]at k;unfold JF at k f;rw[ap,ap,f]at k;rcases k with k|⟨_,k⟩
  ·simp only[xw]at k;omega
  ·rw[BJ]at k;cases k
theorem f_.short(h:s.length<t.length):f_ ss s t:=pF.2 (.inl h)
theorem f_.len(h:f_ ss s t):s.length<=t.length:=by
 rcases pF.1 h with h|h
 ·exact eK h
 ·exact Nat.le_of_eq h.1
end
abbrev yn(g:Sg):Prop:=g.head?=some ("ask":Str)
section
variable(A B:List Str->Sg->List Str)(ss:List Sg)(k:Iy)
def rN(x:Iy)(g:Sg):Prop:=¬yn g/\A x.1 g=[]/\B x.2 g≠[]
def qE(s:List Sg):Iy:=(s.foldl A k.1,s.foldl B k.2)
def Flt(s:List Sg)(g:Sg):Prop:=(∀x∈s,x∈ss)/\g∈ss/\(qE A B k s).1≠[]/\rN A B (qE A B k s) g
structure AM(n:Nat)(L:List LP):Prop where
 run:∀x∈L,qE A B k x.2=x.1/\x.1.1≠[]/\x.1.2≠[]/\∀y∈x.2,y∈ss
 zero:∃r,L=(k,[])::r
 sorted:∀(i j:Nat) (x y:LP),i<j->L[i]?=some x->L[j]?=some y->f_ ss x.2 y.2
 from_:∀y∈L,y.2=[]∨∃(i:Nat) (x:LP) (sg:Sg),i<n/\L[i]?=some x/\y.2=x.2++[sg]
 clean:∀(i:Nat) (x:LP),i<n->L[i]?=some x->∀sg∈ss,¬rN A B x.1 sg
 shut:∀(i:Nat) (x:LP),i<n->L[i]?=some x->∀sg∈ss,A x.1.1 sg≠[]->B x.1.2 sg≠[]->∃y∈L,y.1=(A x.1.1 sg,B x.1.2 sg)/\¬f_ ss (x.2++[sg]) y.2
end
section
variable{A B:List Str->Sg->List Str}{ss:List Sg}{k:Iy}
theorem v6(s:List Sg)(g:Sg):qE A B k (s++[g])=(A (qE A B k s).1 g,B (qE A B k s).2 g):=by
 unfold qE;rw[ip,ip];rfl
structure iF(A B:List Str->Sg->List Str)(ss:List Sg)(k:Iy)(n:Nat)(c:LP)(j:Nat)(L:List LP):Prop where
 run:∀x∈L,qE A B k x.2=x.1/\x.1.1≠[]/\x.1.2≠[]/\∀y∈x.2,y∈ss
 zero:∃r,L=(k,[])::r
 at_:L[n]?=some c
 sorted:∀(i j:Nat) (x y:LP),i<j->L[i]?=some x->L[j]?=some y->f_ ss x.2 y.2
 from_:∀y∈L,y.2=[]∨(∃(i:Nat) (x:LP) (sg:Sg),i<n/\L[i]?=some x/\y.2=x.2++[sg])∨∃sg∈ss,ss.idxOf sg<j/\y.2=c.2++[sg]
 clean:∀(i:Nat) (x:LP),i<n->L[i]?=some x->∀sg∈ss,¬rN A B x.1 sg
 shut:∀(i:Nat) (x:LP),i<n->L[i]?=some x->∀sg∈ss,A x.1.1 sg≠[]->B x.1.2 sg≠[]->∃y∈L,y.1=(A x.1.1 sg,B x.1.2 sg)/\¬f_ ss (x.2++[sg]) y.2
 clean1:∀sg∈ss,ss.idxOf sg<j->¬rN A B c.1 sg
 shut1:∀sg∈ss,ss.idxOf sg<j->A c.1.1 sg≠[]->B c.1.2 sg≠[]->∃y∈L,y.1=(A c.1.1 sg,B c.1.2 sg)/\¬f_ ss (c.2++[sg]) y.2
theorem pG{j:Nat}{f g:Sg}(a:ss[j]?=some f)(l:g∈ss)(h:ss.idxOf g<j+1):ss.idxOf g<j∨g=f:=by
 rcases fy (ss.idxOf g) j with z|z
 ·exact .inl z
 ·have e:ss.idxOf g=j:=by omega
  have i:ss.idxOf g<ss.length:=pY.2 l;have:=List.getElem_idxOf i;rw[<-e,b_ i,this]at a;injection a with a;exact .inr a
theorem BT(f:ss.Nodup){j:Nat}{a:Sg}(g:ss[j]?=some a):ss.idxOf a=j:=by
 obtain⟨h,e⟩:=bY.1 g;rw[<-e];exact f.idxOf_getElem _ h
theorem iF.skip{n j:Nat}{c:LP}{L:List LP}(h:iF A B ss k n c j L){a:Sg}(l:ss[j]?=some a)(p:¬rN A B c.1 a)(q:A c.1.1 a≠[]->B c.1.2 a≠[]->∃y∈L,y.1=(A c.1.1 a,B c.1.2 a)/\¬f_ ss (c.2++[a]) y.2):iF A B ss k n c (j+1) L:=by
 refine{ h with from_:=fun y r=>?_,clean1:=fun g f i=>?_,shut1:=fun g f i m o=>?_ }
 ·rcases h.from_ y r with e|e|⟨g,s,f,e⟩
  ·exact .inl e
  ·exact .inr (.inl e)
  ·exact .inr (.inr ⟨g,s,by omega,e⟩)
 ·rcases pG l f i with z|z
  ·exact h.clean1 g f z
  ·rw[z];exact p
 ·rcases pG l f i with z|z
  ·exact h.shut1 g f z m o
  ·subst z;exact q m o
theorem iF.add(nd:ss.Nodup){n j:Nat}{c:LP}{L:List LP}(h:iF A B ss k n c j L){a:Sg}(m:ss[j]?=some a)(u:A c.1.1 a≠[])(D:B c.1.2 a≠[]):iF A B ss k n c (j+1) (L++[((A c.1.1 a,B c.1.2 a),c.2++[a])]):=by
 have v:=aY m;have J:=BT nd m;have E:=aY h.at_;have lt:n<L.length:=(bY.1 h.at_).1;have up:∀{i:Nat}{x:LP},L[i]?=some x->(L++[((A c.1.1 a,B c.1.2 a),c.2++[a])])[i]?=some x:=fun{i x} e=>by
  rw[dv (bY.1 e).1];exact e
 have w:∀{i:Nat}{x:LP},i<n->(L++[((A c.1.1 a,B c.1.2 a),c.2++[a])])[i]?=some x->L[i]?=some x:=fun{i x} f e=>by
  rw[dv (by omega)]at e;exact e
 have less:∀y∈L,f_ ss y.2 (c.2++[a]):=fun y hy=>by
  rcases h.from_ y hy with e|⟨i,x,g,f,hx,e⟩|⟨g,C,l,e⟩
  ·rw[e];exact f_.short (by rw[au];show 0<_+1;omega)
  ·rw[e];exact(h.sorted i n x c f hx h.at_).app
  ·rw[e];exact f_.last.2 (by omega)
 obtain⟨r,G⟩:=h.zero;refine⟨fun x hx=>?_,⟨r++[((A c.1.1 a,B c.1.2 a),c.2++[a])],by rw[G];rfl⟩,up h.at_,fun i p x y o hx hy=>?_,fun y hy=>?_,fun i x f hx=>h.clean i x f (w f hx),fun i x f hx g l s t=>?_,fun g l f=>?_,fun g l f s t=>?_⟩
 ·rcases aX.1 hx with hx|hx
  ·exact h.run x hx
  ·rw[bO.1 hx];obtain⟨H,_,_,I⟩:=h.run c E;refine⟨by rw[v6,H],u,D,fun y hy=>?_⟩;rcases aX.1 hy with hy|hy
   ·exact I y hy
   ·rw[bO.1 hy];exact v
 ·rcases fy p L.length with z|z
  ·rw[dv (by omega)]at hx;rw[dv z]at hy;exact h.sorted i p x y o hx hy
  ·have m:p<L.length+1:=by
    have:=(bY.1 hy).1;rw[au]at this;exact this
   have e:p=L.length:=by omega
   subst e;rw[dv o]at hx;rw[iu (aG _),nB]at hy;injection hy with hy;subst hy;exact less x (aY hx)
 ·rcases aX.1 hy with hy|hy
  ·rcases h.from_ y hy with e|⟨i,x,g,f,hx,e⟩|⟨g,C,l,e⟩
   ·exact .inl e
   ·exact .inr (.inl ⟨i,x,g,f,up hx,e⟩)
   ·exact .inr (.inr ⟨g,C,by omega,e⟩)
  ·rw[bO.1 hy];exact .inr (.inr ⟨a,v,by omega,rfl⟩)
 ·obtain⟨y,hy,e⟩:=h.shut i x f (w f hx) g l s t;exact⟨y,cG _ hy,e⟩
 ·rcases pG m l f with z|z
  ·exact h.clean1 g l z
  ·rw[z];exact fun q=>u q.2.1
 ·rcases pG m l f with z|z
  ·obtain⟨y,hy,e⟩:=h.shut1 g l z s t;exact⟨y,cG _ hy,e⟩
  ·subst z;exact⟨_,cQ _ (bO.2 rfl),rfl,f_.irr⟩
theorem iF.next(o:ss.Nodup){n j:Nat}{c:LP}{L:List LP}(h:iF A B ss k n c j L){a:Sg}(m:ss[j]?=some a):
  (rN A B c.1 a/\(fx A B c (L,none) a).2=some a)∨((fx A B c (L,none) a).2=none/\iF A B ss k n c (j+1) (fx A B c (L,none) a).1):=by
 have e:fx A B c (L,none) a=if ¬yn a/\A c.1.1 a=[]/\B c.1.2 a≠[]then(L,some a)else if A c.1.1 a≠[]/\B c.1.2 a≠[]/\¬(A c.1.1 a,B c.1.2 a)∈L.map (·.1)then(L++[((A c.1.1 a,B c.1.2 a),c.2++[a])],none)else(L,none):=rfl
 by_cases l:¬yn a/\A c.1.1 a=[]/\B c.1.2 a≠[]
 ·rw[e,if_pos l];exact .inl ⟨l,rfl⟩
 rw[e,if_neg l];by_cases f:A c.1.1 a≠[]/\B c.1.2 a≠[]/\¬(A c.1.1 a,B c.1.2 a)∈L.map (·.1)
 ·rw[if_pos f];exact .inr ⟨rfl,h.add o m f.1 f.2.1⟩
 ·rw[if_neg f];refine .inr ⟨rfl,h.skip m l fun q r=>?_⟩;have s:(A c.1.1 a,B c.1.2 a)∈L.map (·.1):=tq fun z=>f ⟨q,r,z⟩;obtain⟨y,p,t⟩:=av.1 s;refine⟨y,p,t,?_⟩;rcases h.from_ y p with e|⟨i,x,g,u,v,e⟩|⟨g,C,w,e⟩
  ·rw[e];exact fun z=>by have:=z.len;rw[au]at this;simp at this
  ·rw[e];exact((h.sorted i n x c u v h.at_).app).asym
  ·rw[e];exact(f_.last.2 (by rw[BT o m];exact w)).asym
theorem iF.row(l:ss.Nodup){n:Nat}{c:LP}:∀(m j:Nat) {L:List LP},ss.length-j=m->iF A B ss k n c j L ->
  (∃g∈ss,rN A B c.1 g/\(∀i∈ss,ss.idxOf i<ss.idxOf g->¬rN A B c.1 i)/\((ss.drop j).foldl (fx A B c) (L,none)).2=some g)∨(((ss.drop j).foldl (fx A B c) (L,none)).2=none/\iF A B ss k n c ss.length ((ss.drop j).foldl (fx A B c) (L,none)).1)
 |0,j,L,s,h=>by
  rw[List.drop_eq_nil_of_le (by omega)];refine .inr ⟨rfl,{ h with from_:=fun y t=>?_,clean1:=fun g a _=>h.clean1 g a ?_,shut1:=fun g a _=>h.shut1 g a ?_ }⟩
  ·rcases h.from_ y t with e|e|⟨g,q,a,e⟩
   ·exact .inl e
   ·exact .inr (.inl e)
   ·exact .inr (.inr ⟨g,q,pY.2 q,e⟩)
  ·have:=pY.2 a;omega
  ·have:=pY.2 a;omega
 |m+1,j,L,s,h=>by
  have o:j<ss.length:=by omega
  have r:ss[j]?=some ss[j]:=b_ o;rw[tf o,lr];rcases h.next l r with⟨f,e⟩|⟨e,u⟩
  ·refine .inl ⟨ss[j],ka o,f,fun i p lt=>?_,rE _ _ _ e⟩;rw[BT l r]at lt;exact h.clean1 i p lt
  ·have v:fx A B c (L,none) ss[j]=((fx A B c (L,none) ss[j]).1,none):=Prod.ext rfl e;rw[v];exact iF.row l m (j+1) (by omega) u
end
section
variable{A B:List Str->Sg->List Str}{ss:List Sg}{k:Iy}
theorem AM.row0{n:Nat}{c:LP}{L:List LP}(h:AM A B ss k n L)(a:L[n]?=some c):iF A B ss k n c 0 L :=
 ⟨h.run,h.zero,a,h.sorted,fun y e=>(h.from_ y e).imp id .inl,h.clean,h.shut,fun g _ z=>by omega,fun g _ z=>by omega⟩
theorem Eu{n:Nat}(h:(dC A B ss k (n+1)).2=none):(dC A B ss k n).2=none:=by
 cases e:(dC A B ss k n).2 with
 |none=>rfl
 |some x=>rw[qJ e 1]at h;cases h
theorem IV(s:ss.Nodup)(t:k.1≠[])(u:k.2≠[]):∀n,(dC A B ss k n).2=none->AM A B ss k n (dC A B ss k n).1
 |0,_=>by
  have one:∀{i:Nat}{x:LP},[((k,[]):LP)][i]?=some x->i=0/\x=(k,[]):=fun{i x} e=>by
   have:=(bY.1 e).1;have p:i=0:=by simpa using this
   subst p;injection e with e;exact⟨rfl,e.symm⟩
  refine⟨fun x a=>?_,⟨[],rfl⟩,fun i j x y C a l=>?_,fun y l=>?_,fun i x h=>by omega,fun i x h=>by omega⟩
  ·rw[bO.1 a];exact⟨rfl,t,u,fun y l=>nomatch l⟩
  ·have:=(one a).1;have:=(one l).1;omega
  ·rw[bO.1 l];exact .inl rfl
 |n+1,e=>by
  have p:=Eu e;have o:=IV s t u n p;have v:dC A B ss k n=((dC A B ss k n).1,none):=Prod.ext rfl p;cases r:(dC A B ss k n).1[n]? with
  |none =>
   rw[wg v r];have no:∀{i:Nat}{x:LP},i<n+1->(dC A B ss k n).1[i]?=some x->i<n:=fun{i x} h a=>by
    rcases fy i n with z|z
    ·exact z
    ·have:i=n:=by omega
     rw[this,r]at a;cases a
   exact{ o with from_:=fun y l=>(o.from_ y l).imp id fun⟨i,x,g,h,a,e⟩=>⟨i,x,g,by omega,a,e⟩,clean:=fun i x h a=>o.clean i x (no h a) a,shut:=fun i x h a=>o.shut i x (no h a) a }
  |some c =>
   have w:=Ae v r;rcases iF.row s _ 0 rfl (o.row0 r)with⟨g,_,_,_,f⟩|⟨f,R⟩
   ·rw[w]at e;unfold rD at e;rw[ke]at f;rw[f]at e;cases e
   ·rw[ke]at R;rw[w];show AM A B ss k (n+1) (rD A B c (dC A B ss k n).1 ss).1;unfold rD;generalize ss.foldl (fx A B c) ((dC A B ss k n).1,none)=q at R;have at_:∀{i:Nat}{x:LP},i<n+1->q.1[i]?=some x->i<n∨x=c:=fun{i x} h a=>by
     rcases fy i n with z|z
     ·exact .inl z
     ·have:i=n:=by omega
      rw[this,R.at_]at a;injection a with a;exact .inr a.symm
    refine⟨R.run,R.zero,R.sorted,fun y l=>?_,fun i x h a g m=>?_,fun i x h a g m=>?_⟩
    ·rcases R.from_ y l with e|⟨i,x,g,h,a,e⟩|⟨g,_,_,e⟩
     ·exact .inl e
     ·exact .inr ⟨i,x,g,by omega,a,e⟩
     ·exact .inr ⟨n,c,g,by omega,R.at_,e⟩
    ·rcases at_ h a with z|rfl
     ·exact R.clean i x z a g m
     ·exact R.clean1 g m (pY.2 m)
    ·rcases at_ h a with z|rfl
     ·exact R.shut i x z a g m
     ·exact R.shut1 g m (pY.2 m)
theorem AM.reach{n m:Nat}{L:List LP}(h:AM A B ss k n L)(f:∀g,A [] g=[])(j:∀g,B [] g=[])(o:∀(i:Nat) (y:LP),L[i]?=some y->y.2.length<m->i<n):∀(l:Nat) (s:List Sg),s.length=l->l<=m->(∀x∈s,x∈ss)->(qE A B k s).1≠[]->(qE A B k s).2≠[]->∃y∈L,y.1=qE A B k s/\¬f_ ss s y.2
 |0,s,e,_,_,_,_=>by
  rw[List.eq_nil_of_length_eq_zero e];obtain⟨r,w⟩:=h.zero;exact⟨(k,[]),by rw[w];exact cD,rfl,f_.irr⟩
 |l+1,s,e,M,p,h1,a=>by
  obtain⟨t,g,rfl⟩:∃t g,s=t++[g]:=⟨s.dropLast,s.getLast (fun z=>by rw[z]at e;cases e),(List.dropLast_concat_getLast _).symm⟩;rw[v6]at h1 a ⊢;rw[au]at e;have C:t.length=l:=by simpa using e
  obtain⟨y,D,E,u⟩:=AM.reach h f j o l t C (by omega) (fun x G=>p x (cG _ G)) (fun z=>h1 (by show A (qE A B k t).1 g=[];rw[z];exact f g)) (fun z=>a (by show B (qE A B k t).2 g=[];rw[z];exact j g));obtain⟨i,v⟩:=fN D;have N:y.2.length<=t.length:=by
   rcases fy t.length y.2.length with z|z
   ·exact absurd (f_.short z) u
   ·exact z
  rw[<-E]at h1 a ⊢;obtain⟨z,H,I,J⟩:=h.shut i y (o i y v (by omega)) v g (p g (cQ _ cD)) h1 a;exact⟨z,H,I,fun q=>leS.app u (q.le_of J)⟩
theorem Ad:∀{N:Nat}{x:List Sg×Sg},(dC A B ss k N).2=some x->∃(n:Nat) (c:LP) (L:List LP),dC A B ss k n=(L,none)/\L[n]?=some c/\c.2=x.1/\(ss.foldl (fx A B c) (L,none)).2=some x.2
 |0,x,h=>by cases h
 |N+1,x,h=>by
  cases e:(dC A B ss k N).2 with
  |some y =>
   have:=qJ e 1;rw[h]at this;injection this with this;rw[this];exact Ad e
  |none =>
   have ep:dC A B ss k N=((dC A B ss k N).1,none):=Prod.ext rfl e;cases a:(dC A B ss k N).1[N]? with
   |none=>rw[wg ep a]at h;cases h
   |some c =>
    rw[Ae ep a]at h;obtain⟨g,i,f⟩:=lq.1 h;exact⟨N,c,_,ep,a,by rw[<-f],by rw[<-f];exact i⟩
theorem BN(w:ss.Nodup)(G:k.1≠[])(H:k.2≠[])(I:∀g,A [] g=[])(x:∀g,B [] g=[]){N:Nat}{s:List Sg}{g:Sg}(h:(dC A B ss k N).2=some (s,g)):Flt A B ss k s g/\∀m f,Flt A B ss k m f->¬f_ ss (m++[f]) (s++[g]):=by
 obtain⟨n,c,L,C,j,t,D⟩:=Ad h;have t:c.2=s:=t;subst t;have l:AM A B ss k n L:=by
  have:=IV (A:=A) (B:=B) (ss:=ss) (k:=k) w G H n (by rw[C]);rw[C]at this;exact this
 have u:=aY j;obtain⟨E,J,q3,M⟩:=l.run c u;rcases iF.row w _ 0 rfl (l.row0 j)with⟨O,v,Q,pre,e⟩|⟨e,_⟩;rotate_left
 ·rw[ke,D]at e;cases e
 rw[ke,D]at e;injection e with e;have e:g=O:=e;subst e;refine⟨⟨M,v,by rw[E];exact J,by rw[E];exact Q⟩,fun m f T lt=>?_⟩;obtain⟨a1,a2,a3,p⟩:=T;have U:∀(i:Nat) (y:LP),L[i]?=some y->y.2.length<c.2.length->i<n:=fun i y a r=>by
  rcases wU i n with z|z|z
  ·exact z
  ·rw[z,j]at a;injection a with a;rw[a]at r;omega
  ·exact absurd (f_.short r) (l.sorted n i c y z j a).asym
 have r:m.length<=c.2.length:=by
  have:=lt.len;rw[au,au]at this;simpa using this
 obtain⟨y,Y,e1,e2⟩:=l.reach I x U _ m rfl r a1 a3 (fun z=>p.2.2 (by rw[z];exact x f));obtain⟨i,a⟩:=fN Y;rw[<-e1]at p;have o:f_ ss (y.2++[f]) (c.2++[g]):=(leS.app e2 |> fun q=>f_.of_le q lt);rcases wU i n with z|z|z
 ·exact l.clean i y z a f a2 p
 ·rw[z,j]at a;injection a with a;subst a;exact pre f a2 (f_.last.1 o) p
 ·exact(l.sorted n i c y z j a).app.asym o
end
theorem AC{rooms a:Zb}{e:List ai}:behF rooms e [] a=[]:=by
 classical
 unfold behF;split
 ·rfl
 ·unfold closF;rw[wT];rintro r _ z;obtain⟨g,f,_⟩:=of_decide_eq_true z;exact nomatch f
theorem Ay{g h rooms:Zb}{a:List ai}(m:aE g h rooms a):closF rooms a (rooms.take 1)≠[]:=by
 classical
 cases e:rooms with
 |nil=>exact absurd e m.rooms0
 |cons r f =>
  intro z;have:r∈closF (r::f) a ((r::f).take 1):=by
   unfold closF;exact bP.2 ⟨cD,zzr1 ⟨r,cD,.inl rfl⟩⟩
  rw[z]at this;exact nomatch this
abbrev Kh(J0 J1 rooms rooms':Zb)(ds ds':List ai):List Sg->Sg->Prop:=Flt (behF rooms ds) (behF rooms' ds') (aR J0 J1) (closF rooms ds (rooms.take 1),closF rooms' ds' (rooms'.take 1))
section
variable{J0 J1 rooms rooms':Zb}{ds ds':List ai}(m:aE J0 J1 rooms ds)(m':aE J0 J1 rooms' ds')
include m m'
theorem Aj{s:List Sg}{g:Sg}(h:leastF J0 J1 rooms rooms' ds ds'=some (s,g)):Kh J0 J1 rooms rooms' ds ds' s g/\∀a e,Kh J0 J1 rooms rooms' ds ds' a e->¬f_ (aR J0 J1) (a++[e]) (s++[g]) :=
 BN (jd m) (Ay m) (Ay m') (fun _=>AC) (fun _=>AC) h
end

abbrev k_(K:Za)(H:Hp)(gs:Ze)(s:List Sg):Prop:=Paired (fun g (sg:Sg)=>aW K H g (sg.map V.str)) gs s
theorem k_.same{K:Za}{H a:Hp}{e:Ze}{s:List Sg}(S:ac H a)(h:k_ K H e s):k_ K a e s:=Paired.mapP h fun _ _ r=>aW.kt (ac.kt S) r
def oQ(K:Za)(C_Machine:Addr)(sp_Machine_goals:Sp)(a_STILL:Addr):TS :=
 ao (aK (eD (da K) (az V1)) U2)
 (km (aQ (aH Ek (eD (dS K) (az V2)) (tC (.int 0)))) (ao (aK (zD K "list" Eh V2) U3)
 (eQ (cj K (cW C_Machine "goals" sp_Machine_goals [] E0 V0 (aU V3 (tC (.ref a_STILL))))) U4 (cg (tB (fG K V4 V1)) (ao (jT V1 V4 (bA (eo V3 (tC (.ref a_STILL)) V4)))
 (bG (qx K "list" ci V2 (az V4)))) (bD)))))
def pS:List Str:=["M","steps","waiting","room","goal"]
def A0(K:Za)(a_HUSH:Addr)(C_Machine:Addr)(sp_Machine_is_quiet:Sp)(sp_Machine_goals:Sp):TS :=
 ao (aK (nS) U3)
 (ao (eQ (IM V1) U4 (cg (aQ (aH (lP K) V2 (tC (.ref a_HUSH)))) (cg (tB (cW C_Machine "is_quiet" sp_Machine_is_quiet [] E0 V0 (az V4))) (jT V3 V4 (bA (eo V4 (tC (.ref a_HUSH)) V4))) (bD)) (eQ (cj K (cW C_Machine "goals" sp_Machine_goals [] E0 V0 (aU V4 V2))) U5 (jT V3 V5 (bA (eo V4 V2 V5))))))
 (bm V3))
def Co:List Str:=["M","rooms","sign","steps","room","goal"]
def u8(K:Za)(sp_add_still_steps:Sp)(sp_steps_by:Sp)(C_Machine:Addr)(sp_Machine_rooms:Sp):TS :=
 ao (aK (IA [(aH (cS K) (cW C_Machine "rooms" sp_Machine_rooms [] E0 V0 bu) (tC (.int 0)),tC .non)]) U2)
 (ao (aK (dB (az V2)) U3)
 (ao (bG (aS sp_add_still_steps (aU V0 V2)))
 (ao (eQ (cj K V1) U4 (ao (aK (aS sp_steps_by (eo V0 V2 V4)) U2)
 (ao (bG (qx K "list" ci V3 (az V2)))
 (bG (aS sp_add_still_steps (aU V0 V2))))))
 (bm V3))))
def vI:List Str:=["M","story","steps","along","sign"]
def DP(K:Za)(a_STILL:Addr)(sp_steps_along:Sp):TS :=
 ao (aK (aS sp_steps_along (aU V0 V1)) U2)
 (ao (cg (aQ (aH zS (eD (IE K) (az (aH (cS K) V2 (tUn (rU fun i=>.int (-i)) (tC (.int 1)))))) (tC (.int 0)))) (bm (tC .non)) (bD))
 (ao (aK (aH (cS K) (eD (da K) (az (aH (cS K) V2 (tUn (rU fun i=>.int (-i)) (tC (.int 1)))))) (tC (.int 0))) U3)
 (ao (aK (dB (bu)) U4)
 (ao (aK (zD K "list" Eh V2) U5)
 (ao (km (tB (CY (gM K V5 V3))) (ao (aK (gM K V5 V3) U6)
 (ao (bG (qx K "list" ci V4 (az V6)))
 (ao (aK (aH (ia K) V6 (tC (.int 0))) U3)
 (cg (aQ (aH (nV K) (aH (ia K) V6 (tC (.int 1))) (tC (.ref a_STILL)))) (aK (zD K "list" Eh V2) U5) (bD))))))
 (ao (bG (zD K "list" uh V4))
 (bm V4)))))))
def EU:List Str:=["M","story","along","room","walk","steps","step"]
def fR(K:Za)(C:Addr):Sp:=fun vs H Q _=>∃(x s:Addr) (r:Str) (sg J0 J1 rooms:Zb) (ds:List ai),vs=[.ref x,.str r,.ref s]/\bt C H x J0 J1 rooms ds/\be K H s (sg.map V.str) /\
 ∀(l:Addr) (H':Hp),H' l=some (.lst ((aJ ds (r,sg)).map V.str))->H l=none->ac H H'->Q (.ref l) H'
theorem CU{K:Za}{H:Hp}:∀a:List Str,TKIns K H (a.map nh) (a.map V.str)
 |[]=>by unfold TKIns;rfl
 |x::a=>by
  rw[bd,bd];unfold TKIns;exact⟨_,_,rfl,by unfold nh jC;rfl,CU a⟩
theorem Bw{K:Za}{C:Addr}(M:MC K C){t:List V}{H:Hp}{Q:VK}{E:XK}(h:fR K C t H Q E):rR K (bJ Q) (start sm t) H:=by
 obtain⟨x,s,r,e,Y,J1,rooms,w,rfl,h,A,k⟩:=h;obtain⟨B,fs,o1,o2,o3,o4,lv,qu,u,sl,ts,D,m,I,J,a1,a2,a3,a4,b1,b2,b3,b4,b5,b6,N,b8,L,c1,c2,c3,c4,G,d1,d2,d3⟩:=h.at_;have O:=h.ok.okR.1;refine⟨_,rfl,x,C,B,fs,.ref u,rfl,J,M.cls,M.a7,N,u,rfl,.inr ⟨_,.inl G.g⟩,_,rfl,_,rfl,(by show 2<=ak;decide),fun kt j=>⟨(by show 0<=ak;decide),fun v i=>⟨bM (eC u6 m) (u6 (r,e)),.inr ⟨_,u6 (r,e),kt,.inl (kp (kp G.g j) i),rfl,?_,qC _,rfl⟩,?_⟩⟩⟩
 ·unfold u6 jC;refine⟨kt,_,rfl,be.of (kp aa i),?_⟩;unfold TKIns;refine⟨_,_,rfl,by unfold nh jC;rfl,?_⟩;unfold TKIns;refine⟨_,_,rfl,?_,by unfold TKIns;rfl⟩;unfold jL jC;exact⟨s,_,rfl,be.same ((ac.new j).trans (ac.new i)) A,CU e⟩
 have n:ac H (upd (upd H kt (.tup [.str r,.ref s])) v (.tup [])):=(ac.new j).trans (ac.new i);by_cases f:(r,e)∈m.map (·.1)
 ·obtain⟨⟨y,a⟩,o,T⟩:=av.mp f;obtain rfl:y=(r,e):=T;rw[eN iI G.nd o];exact .inl ⟨a,_,rfl,.inl (ay.of (n _ _ (G.ls _ o))),fun l p=>k l _ aa (n.free p) (n.trans (ac.new p))⟩
 ·rw[mE iI f];have q:aJ w (r,e)=[]:=lW fun y U z=>f (by rw[<-z];exact G.all y U);refine .inl ⟨v,[],rfl,.inr (be.of aa),fun l p=>k l _ ?_ (n.free p) (n.trans (ac.new p))⟩;rw[q];exact aa
abbrev aB:=List (Str×Option ai)
def iG(st:aB)(r:Str):Option (Option ai):=(st.find? fun p=>decide (p.1=r)).map (·.2)
def jn(st:aB)(r:Str)(d:Option ai):aB:=if(st.any fun p=>decide (p.1=r))=true then st.map (fun p=>if p.1=r then(p.1,d)else p)else st++[(r,d)]
section
variable{K:Za}
theorem mr{st:aB}{r:Str}:iG st r=none↔r∉st.map (·.1):=by
 unfold iG;rw[Option.map_eq_none_iff,List.find?_eq_none];constructor
 ·intro h e;obtain⟨p,a,e⟩:=av.mp e;exact h p a (zzr1 e)
 ·intro h p a e;exact h (av.mpr ⟨p,a,of_decide_eq_true e⟩)
theorem v3{st:aB}{r:Str}{d:Option ai}(h:r∉st.map (·.1)):jn st r d=st++[(r,d)]:=by
 unfold jn;rw[if_neg];intro e;obtain⟨p,a,e⟩:=List.any_eq_true.mp e;exact h (av.mpr ⟨p,a,of_decide_eq_true e⟩)
inductive bU(ds:List ai):aB->aB->Prop
 |refl (st:aB):bU ds st st
 |step {st st':aB}{d:ai}(h:bU ds st st') (hd:d.sg=am) (ha:d.a∈st'.map (·.1)) (hb:d.b∈aJ ds (d.a,d.sg)) (hn:d.b∉st'.map (·.1)):bU ds st (st'++[(d.b,some d)])
theorem bU.trans{ds:List ai}{a b c:aB}(x:bU ds a b)(y:bU ds b c):bU ds a c:=by
 induction y with
 |refl=>exact x
 |step _ e f g h i=>exact .step i e f g h
theorem bU.keys{e:List ai}{a b:aB}(x:bU e a b):∀r∈a.map (·.1),r∈b.map (·.1):=by
 induction x with
 |refl=>exact fun r h=>h
 |step _ _ _ _ _ f=>exact fun r h=>by rw[ap];exact cG _ (f r h)
theorem bU.nodup{f:List ai}{a b:aB}(x:bU f a b)(h:(a.map (·.1)).Nodup):(b.map (·.1)).Nodup:=by
 induction x with
 |refl=>exact h
 |@step g d _ m n o i j =>
  rw[ap,cJ];refine⟨j,by simp,fun x k y l z=>?_⟩;have e:y=d.b:=by simpa using l
  exact i (by rw[<-e,<-z];exact k)
end
theorem bU.rooms{f:List ai}{rooms:Zb}{a b:aB}(x:bU f a b)(h:∀r∈a.map (·.1),r∈rooms)(k:∀d∈f,d.b∈rooms)(l:∀{w i g},g∈aJ f (w,i)->(⟨w,i,g⟩:ai)∈f):∀r∈b.map (·.1),r∈rooms:=by
 induction x with
 |refl=>exact h
 |@step m d _ _ _ n _ o =>
  intro r j;rw[ap]at j;rcases aX.mp j with z|z
  ·exact o r z
  ·have e:r=d.b:=by simpa using z
   rw[e];exact k _ (l n)
structure Wt(ds:List ai)(st st':aB)(wait:Zb):Prop where
 on:bU ds st st'
 there:∀r∈wait,r∈st'.map (·.1)
 done:∀r∈st'.map (·.1),r∈wait∨∀g∈aJ ds (r,am),g∈st'.map (·.1)

def ig(ds:List ai)(sg:Zb)(r:Str)(gs:Zb)(acc:aB):aB:=gs.foldl (fun acc g=>jn acc g (some ⟨r,sg,g⟩)) acc
def di(rooms:Zb)(ds:List ai)(sg:Zb)(acc:aB)(r:Str):aB :=
 if sg=aT then(if r∈rooms.filter (cX ds)then jn acc r (some ⟨r,aT,r⟩)else acc)else ig ds sg r (aJ ds (r,sg)) acc
def eL(rooms:Zb)(ds:List ai)(sg:Zb)(keys:Zb):aB:=keys.foldl (di rooms ds sg) []
theorem t8{st:aB}{r:Str}{d:Option ai}:(jn st r d).map (·.1)=if r∈st.map (·.1)then st.map (·.1)else st.map (·.1)++[r]:=by
 by_cases z:r∈st.map (·.1)
 ·rw[if_pos z];unfold jn;have:(st.any fun p=>decide (p.1=r))=true:=by
   obtain⟨p,a,e⟩:=av.mp z;exact List.any_eq_true.mpr ⟨p,a,zzr1 e⟩
  rw[if_pos this,p6];apply xj;intro p _;show(if p.1=r then(p.1,d)else p).1=p.1
  by_cases y:p.1=r
  ·rw[if_pos y]
  ·rw[if_neg y]
 ·rw[if_neg z,v3 z,ap];rfl
structure uY(rooms:Zb)(st:aB):Prop where
 nd:(st.map (·.1)).Nodup
 inr:∀r∈st.map (·.1),r∈rooms
theorem uY.put{rooms:Zb}{st:aB}{r:Str}{d:Option ai}(h:uY rooms st)(f:r∈rooms):uY rooms (jn st r d):=by
 refine⟨?_,?_⟩<;>rw[t8]<;>by_cases z:r∈st.map (·.1)
 ·rw[if_pos z];exact h.nd
 ·rw[if_neg z,cJ];refine⟨h.nd,by simp,fun x a y g e=>z ?_⟩;have:y=r:=by simpa using g
  rw[<-this,<-e];exact a
 ·rw[if_pos z];exact h.inr
 ·rw[if_neg z];intro x a;rcases aX.mp a with y|y
  ·exact h.inr x y
  ·have:x=r:=by simpa using y
   rw[this];exact f
theorem uY.len{rooms:Zb}{st:aB}(h:uY rooms st):st.length<=rooms.length:=by simpa using jc h.nd h.inr
theorem uY.goals{rooms:Zb}{ds:List ai}{sg:Zb}{r:Str}:∀{gs:Zb}{a:aB},uY rooms a->(∀g∈gs,g∈rooms)->uY rooms (ig ds sg r gs a)
 |[],_,h,_=>h
 |g::gs,a,h,e=>uY.goals (ds:=ds) (gs:=gs) (h.put (e g cD)) fun x f=>e x (d_ _ f)
theorem uY.room{rooms:Zb}{e:List ai}{f:Zb}{r:Str}{a:aB}(h:uY rooms a)(i:∀d∈e,d.b∈rooms):uY rooms (di rooms e f a r):=by
 unfold di;by_cases z:f=aT
 ·rw[if_pos z];by_cases y:r∈rooms.filter (cX e)
  ·rw[if_pos y];exact h.put (bP.mp y).1
  ·rw[if_neg y];exact h
 ·rw[if_neg z];exact h.goals fun g j=>i _ (bx.mp j)
theorem uY.by_{rooms:Zb}{e:List ai}{g:Zb}(f:∀d∈e,d.b∈rooms):∀(keys:Zb) {a:aB},uY rooms a->uY rooms (keys.foldl (di rooms e g) a)
 |[],_,h=>h
 |r::keys,a,h=>uY.by_ f keys (h.room f)
theorem lK{rooms:Zb}{a:List ai}{e:Zb}(f:∀d∈a,d.b∈rooms)(keys:Zb):uY rooms (eL rooms a e keys):=uY.by_ f keys ⟨nE,by simp⟩
theorem xR{rooms:Zb}{ds:List ai}{sg:Zb}{keys:Zb}{i:Nat}{r:Str}(h:keys[i]?=some r):eL rooms ds sg (keys.take (i+1))=di rooms ds sg (eL rooms ds sg (keys.take i)) r:=by
 unfold eL;rw[List.take_add_one,h,ip];rfl

def rP(K:Za)(sp_law_is_quiet:Sp):TS :=
 ao (cg (vg (tB (eD (Ej K) (aU V2 (tC (.ty "list")))))) (bm (tC (.bl false))) (bD))
 (ao (aK (aH (cS K) (aH (jA K) V0 (tC (.int 2))) (tC (.int 0))) U3)
 (ao (aK (dB (bu)) U4)
 (ao (eQ (cj K V2) U5 (ao (cg (zc (vg (tB (eD (Ej K) (aU V5 (tC (.ty "tuple")))))) (zc (aQ (aH HG (eD (dS K) (az V5)) (tC (.int 3)))) (aQ (aH (nV K) (aH (jA K) V5 (tC (.int 0))) V3)))) (bm (tC (.bl false))) (bD))
 (ao (cg (aQ (aH (lP K) (aH (jA K) V5 (tC (.int 1))) (bA (az (tC (.str "hush")))))) (cg (zc (aQ (aH (nV K) (aH (jA K) V5 (tC (.int 2))) V3)) (vg (tB (aS sp_law_is_quiet (aU V0 V3))))) (bm (tC (.bl false))) (bD)) (cg (aQ (aH (ph K true) V5 (aH (jA K) V0 (tC (.int 3))))) (bm (tC (.bl false))) (bD)))
 (ao (cg (aQ (aH (nV K) (aH (jA K) V5 (tC (.int 1))) (bA (az (tC (.str "still")))))) (bG (qx K "list" ci V4 (az (aH (jA K) V5 (tC (.int 1)))))) (bD))
 (aK (aH (jA K) V5 (tC (.int 2))) U3)))))
 (bm (aH (lP K) V4 V1)))))
def sj:List Str:=["told","story","walk","room","heard","step"]
theorem Ia:aT≠am:=by decide +kernel
def c6(rooms:Zb):Str:=rooms.headD ""
theorem aE.first{a e rooms:Zb}{f:List ai}(m:aE a e rooms f):rooms[0]?=some (c6 rooms)/\c6 rooms∈rooms:=by
 have:=m.rooms0;cases rooms with
 |nil=>exact absurd rfl this
 |cons r l=>exact⟨rfl,cD⟩
theorem aE.take1{a e rooms:Zb}{f:List ai}(m:aE a e rooms f):rooms.take 1=[c6 rooms]:=by
 have:=m.rooms0;cases rooms with
 |nil=>exact absurd rfl this
 |cons r l=>rfl
def GA(ds:List ai):Str->List ai->Bool
 |_,[]=>true
 |r,d::w=>decide (d.a=r) && ((if d.sg=aT then decide (d.b=r) && decide (r∉dW ds)else decide (d∈ds)) && GA ds d.b w)
def cw(w:List ai):List (List Str):=(w.filter fun d=>!decide (d.sg=am)).map (·.sg)
theorem wv(w v:List ai):cw (w++v)=cw w++cw v:=by
 unfold cw;rw[nA,ap]
def Fv(ds:List ai)(d:ai):Prop:=(d.sg=aT->d.b=d.a/\d.a∉dW ds)/\(d.sg≠aT->d∈ds)
inductive He(ds:List ai)(r0:Str):List ai->Str->Prop
 |nil:He ds r0 [] r0
 |snoc {w:List ai}{d:ai}(h:He ds r0 w d.a) (ok:Fv ds d):He ds r0 (w++[d]) d.b
theorem He.go{ds:List ai}{e:Str}{w:List ai}{r:Str}(h:He ds e w r):∀v,GA ds e (w++v)=GA ds r v:=by
 induction h with
 |nil=>intro v;rfl
 |@snoc w d h ok f =>
  intro v;rw[cI,f];show(decide (d.a=d.a) && ((if d.sg=aT then decide (d.b=d.a) && decide (d.a∉dW ds)else decide (d∈ds)) && GA ds d.b v))=GA ds d.b v
  rw[zzr1 rfl];by_cases z:d.sg=aT
  ·rw[if_pos z,zzr1 (ok.1 z).1,zzr1 (ok.1 z).2];rfl
  ·rw[if_neg z,zzr1 (ok.2 z)];rfl
theorem He.ok{a:List ai}{e:Str}{w:List ai}{r:Str}(h:He a e w r):GA a e w=true:=by
 have:=h.go [];rw[dh]at this;rw[this];rfl
theorem Fw{st:aB}{r:Str}{v:Option ai}(h:iG st r=some v):(r,v)∈st:=by
 unfold iG at h;obtain⟨p,a,rfl⟩:=lq.mp h;have f:=List.find?_some a;have g:=List.mem_of_find?_eq_some a;have e:p.1=r:=of_decide_eq_true f;rw[<-e];exact g
theorem v4{st:aB}{r:Str}(h:r∈st.map (·.1)):∃v,iG st r=some v:=by
 cases q:iG st r with
 |none=>exact absurd h (mr.mp q)
 |some v=>exact⟨v,rfl⟩
theorem Fx{st:aB}{x:aB}{r:Str}(h:r∈st.map (·.1)):iG (st++x) r=iG st r:=by
 obtain⟨v,a⟩:=v4 h;rw[a];unfold iG at a ⊢;obtain⟨p,e,rfl⟩:=lq.mp a;rw[List.find?_append,e];rfl
theorem zH{st:aB}{r:Str}{v:Option ai}(h:r∉st.map (·.1)):iG (st++[(r,v)]) r=some v:=by
 have a:=mr.mpr h;unfold iG at a ⊢;rw[Option.map_eq_none_iff]at a;rw[List.find?_append,a];show((([(r,v)]:aB).find? fun p=>decide (p.1=r)).map (·.2))=some v;rw[gR,show decide ((r,v).1=r)=true from zzr1 rfl];rfl
theorem bU.at_{e:List ai}{a b:aB}(x:bU e a b){r:Str}(h:r∈a.map (·.1)):iG b r=iG a r:=by
 induction x with
 |refl=>rfl
 |step y _ _ _ _ f=>rw[Fx (y.keys r h),f]
theorem we{st:aB}{r:Str}{d:Option ai}{p:Str×Option ai}(h:p∈jn st r d):p∈st∨p=(r,d):=by
 unfold jn at h;split at h
 ·obtain⟨q,a,e⟩:=av.mp h;by_cases z:q.1=r
  ·rw[if_pos z]at e;rw[<-e,z];exact .inr rfl
  ·rw[if_neg z]at e;rw[<-e];exact .inl a
 ·rcases aX.mp h with z|z
  ·exact .inl z
  ·exact .inr (by simpa using z)
theorem lU{st:aB}{r:Str}{d:Option ai}{x:Str}:x∈(jn st r d).map (·.1)↔x∈st.map (·.1)∨x=r:=by
 rw[t8];by_cases z:r∈st.map (·.1)
 ·rw[if_pos z];exact⟨.inl,fun h=>h.elim id fun e=>by rw[e];exact z⟩
 ·rw[if_neg z,aX];simp
def um(rooms:Zb)(ds:List ai)(sg:Zb)(k:Str):List Str:=if sg=aT then(if k∈rooms.filter (cX ds)then[k]else[])else aJ ds (k,sg)
def Hb(ds:List ai)(sg:Zb)(ks:Zb)(p:Str×Option ai):Prop:=∃d,p.2=some d/\d.b=p.1/\d.sg=sg/\d.a∈ks/\Fv ds d
theorem pH{ds:List ai}{a:Zb}{r:Str}{P:Str×Option ai->Prop}:∀{gs:Zb}{acc:aB},(∀p∈acc,P p)->(∀g∈gs,P (g,some ⟨r,a,g⟩))->∀p∈ig ds a r gs acc,P p
 |[],_,h,_=>h
 |g::gs,acc,h,e=>pH (ds:=ds) (gs:=gs) (acc:=jn acc g (some ⟨r,a,g⟩)) (fun p f=>by
   rcases we f with z|z
   ·exact h p z
   ·rw[z];exact e g cD) fun x i=>e x (d_ _ i)
theorem nq{ds:List ai}{e:Zb}{r x:Str}:∀{gs:Zb}{a:aB},x∈(ig ds e r gs a).map (·.1)↔x∈a.map (·.1)∨x∈gs
 |[],a=>by show x∈a.map (·.1)↔_;simp
 |g::gs,a=>by
  show x∈(ig ds e r gs (jn a g (some ⟨r,e,g⟩))).map (·.1)↔_;rw[nq (ds:=ds) (gs:=gs),lU,df];exact⟨fun h=>by rcases h with(h|h)|h;exact .inl h;exact .inr (.inl h);exact .inr (.inr h),fun h=>by rcases h with h|h|h;exact .inl (.inl h);exact .inl (.inr h);exact .inr h⟩
theorem xX{rooms:Zb}{e:List ai}{f:Zb}{a:aB}{k x:Str}:x∈(di rooms e f a k).map (·.1)↔x∈a.map (·.1)∨x∈um rooms e f k:=by
 unfold di um;by_cases z:f=aT
 ·rw[if_pos z,if_pos z];by_cases y:k∈rooms.filter (cX e)
  ·rw[if_pos y,if_pos y,lU];simp
  ·rw[if_neg y,if_neg y];simp
 ·rw[if_neg z,if_neg z,nq]
theorem Bp{rooms:Zb}{f:List ai}{sg:Zb}{a:aB}{k:Str}{i:Zb}(j:k∈i)(h:∀p∈a,Hb f sg i p):∀p∈di rooms f sg a k,Hb f sg i p:=by
 unfold di;by_cases z:sg=aT
 ·rw[if_pos z];by_cases y:k∈rooms.filter (cX f)
  ·rw[if_pos y];intro p l;rcases we l with x|x
   ·exact h p x
   ·rw[x];have q:=(bP.mp y).2;rw[i6]at q;exact⟨⟨k,aT,k⟩,rfl,rfl,z.symm,j,fun _=>⟨rfl,of_decide_eq_true q⟩,fun n=>absurd rfl n⟩
  ·rw[if_neg y];exact h
 ·rw[if_neg z];exact pH h fun g m=>⟨⟨k,sg,g⟩,rfl,rfl,rfl,j,fun e=>absurd e z,fun _=>bx.mp m⟩
theorem rM{rooms:Zb}{e:List ai}{f:Zb}{x:Str}:∀{ks:Zb}{a:aB},x∈(ks.foldl (di rooms e f) a).map (·.1)↔x∈a.map (·.1)∨∃k∈ks,x∈um rooms e f k
 |[],a=>by show x∈a.map (·.1)↔_;simp
 |k::ks,a=>by
  show x∈(ks.foldl (di rooms e f) (di rooms e f a k)).map (·.1)↔_;rw[rM (ks:=ks),xX];constructor
  ·rintro((h|h)|⟨j,hj,h⟩)
   ·exact .inl h
   ·exact .inr ⟨k,cD,h⟩
   ·exact .inr ⟨j,d_ _ hj,h⟩
  ·rintro(h|⟨j,hj,h⟩)
   ·exact .inl (.inl h)
   ·rcases df.mp hj with rfl|hj
    ·exact .inl (.inr h)
    ·exact .inr ⟨j,hj,h⟩
theorem wF{rooms:Zb}{e:List ai}{f:Zb}{K:Zb}:∀{ks:Zb}{a:aB},(∀k∈ks,k∈K)->(∀p∈a,Hb e f K p)->∀p∈ks.foldl (di rooms e f) a,Hb e f K p
 |[],_,_,h=>h
 |k::ks,a,g,h=>wF (ks:=ks) (fun x i=>g x (d_ _ i)) (Bp (g k cD) h)
theorem oW{rooms:Zb}{a:List ai}{e f:Zb}{x:Str}:x∈(eL rooms a e f).map (·.1)↔∃k∈f,x∈um rooms a e k:=by
 unfold eL;rw[rM];simp
theorem Bm{rooms:Zb}{ds:List ai}{a e:Zb}:∀p∈eL rooms ds a e,Hb ds a e p:=wF (fun _ h=>h) fun _ h=>nomatch h
def ma(ds:List ai)(a b:aB):Prop:=bU ds a b/\∀r∈b.map (·.1),∀g∈aJ ds (r,am),g∈b.map (·.1)
inductive ml(rooms:Zb)(ds:List ai):List (List Str)->List aB->aB->Prop
 |nil {st:aB}(h:ma ds [(c6 rooms,none)] st):ml rooms ds [] [] st
 |snoc {story:List (List Str)}{fz:List aB}{st:aB}{sg:Zb}{st':aB}(a:ml rooms ds story fz st) (h:ma ds (eL rooms ds sg (st.map (·.1))) st'):ml rooms ds (story++[sg]) (st::fz) st'
theorem ma.from_{k:List ai}{a b:aB}(h:ma k a b){r:Str}:r∈b.map (·.1)↔fS k (a.map (·.1)) r:=by
 obtain⟨on,l⟩:=h;constructor
 ·clear l;intro m
  induction on generalizing r with
  |refl=>exact⟨r,m,.inl rfl⟩
  |@step n d y o p s t j =>
   rw[ap]at m;rcases aX.mp m with z|z
   ·exact j z
   ·have e:r=d.b:=by simpa using z
    have f:(⟨d.a,am,d.b⟩:ai)∈k:=by
     have:=bx.mp s;rw[o]at this;exact this
    obtain⟨g,i,q⟩:=j p;rw[e];rcases q with q|q
    ·exact⟨g,i,.inr (.one (by rw[<-q];exact f))⟩
    ·exact⟨g,i,.inr (.step q f)⟩
 ·rintro⟨g,i,rfl|q⟩
  ·exact on.keys _ i
  ·induction q with
   |one e=>exact l g (on.keys _ i) _ (bx.mpr e)
   |step _ e j=>exact l _ j _ (bx.mpr e)
theorem El{a:List ai}{r:Str}(h:r∉dW a){g:Str}:(⟨r,am,g⟩:ai)∉a:=fun z=>h (av.mpr ⟨_,bP.mpr ⟨z,by show(!decide (("still":Str)="ask"))=true;decide +kernel⟩,rfl⟩)
theorem BX{ds:List ai}{a:Zb}(h:∀g∈a,g∉dW ds){r:Str}:fS ds a r↔r∈a:=by
 constructor
 ·rintro⟨g,f,rfl|q⟩
  ·exact f
  ·exfalso;have:∀{x},Reach ds g x->∃y,(⟨g,am,y⟩:ai)∈ds:=by
    intro x q
    induction q with
    |one e=>exact⟨_,e⟩
    |step _ _ i=>exact i
   obtain⟨y,j⟩:=this q;exact El (h g f) j
 ·exact fun k=>⟨r,k,.inl rfl⟩
section
variable{J0 J1 rooms:Zb}{ds:List ai}
theorem ml.face(m:aE J0 J1 rooms ds){f:List (List Str)}{t:List aB}{st:aB}(h:ml rooms ds f t st):∀r,r∈st.map (·.1)↔r∈faceOf rooms ds f:=by
 have l:∀d∈ds,d.b∈rooms:=fun d l=>(m.good d l).b
 induction h with
 |@nil st h =>
  intro r;rw[h.from_];show _↔r∈closF rooms ds (rooms.take 1);rw[wf,m.take1];have u:∀g∈[c6 rooms],g∈rooms:=fun g i=>by
   rw[bO.mp i];exact m.first.2
  exact⟨fun q=>⟨q.in_ u l,q⟩,fun q=>q.2⟩
 |@snoc f t st n v a h p =>
  intro r;rw[h.from_,lY];have s:∀k∈st.map (·.1),k∈rooms:=fun k j=>(j3 (by have:=m.rooms26;omega) f).1 k ((p k).mp j);unfold behF;by_cases z:n=aT
  ·rw[if_pos z,bP,decide_eq_true_iff,<-p r];have o:∀g,g∈(eL rooms ds n (st.map (·.1))).map (·.1)↔g∈st.map (·.1)/\g∉dW ds:=by
    intro g;rw[oW];constructor
    ·rintro⟨k,j,i⟩;unfold um at i;rw[if_pos z]at i;by_cases y:k∈rooms.filter (cX ds)
     ·rw[if_pos y]at i;have e:g=k:=by simpa using i
      have q:=(bP.mp y).2;rw[i6]at q;rw[e];exact⟨j,of_decide_eq_true q⟩
     ·rw[if_neg y]at i;cases i
    ·rintro⟨j,w⟩;refine⟨g,j,?_⟩;unfold um;rw[if_pos z,if_pos (bP.mpr ⟨s g j,by rw[i6];exact zzr1 w⟩)];exact cD
   rw[BX fun g i=>((o g).mp i).2,o]
  ·rw[if_neg z,wf];have o:∀g,g∈(eL rooms ds n (st.map (·.1))).map (·.1)↔g∈cN ds n (faceOf rooms ds f):=by
    intro g;rw[oW,iK];unfold um;simp only[if_neg z];exact⟨fun⟨k,j,i⟩=>⟨k,(p k).mp j,bx.mp i⟩,fun⟨k,j,i⟩=>⟨k,(p k).mpr j,bx.mpr i⟩⟩
   constructor
   ·rintro⟨g,i,q⟩;have fr:fS ds (cN ds n (faceOf rooms ds f)) r:=⟨g,(o g).mp i,q⟩;exact⟨fr.in_ (fun x A=>by obtain⟨y,_,B⟩:=iK.mp A;exact l _ B) l,fr⟩
   ·rintro⟨_,g,i,q⟩;exact⟨g,(o g).mpr i,q⟩
theorem ml.kin(m:aE J0 J1 rooms ds){e:List (List Str)}{g:List aB}{st:aB}(h:ml rooms ds e g st):uY rooms st:=by
 have f:∀d∈ds,d.b∈rooms:=fun d f=>(m.good d f).b;refine⟨?_,fun r i=>(j3 (by have:=m.rooms26;omega) e).1 r ((h.face m r).mp i)⟩;cases h with
 |nil h=>exact h.1.nodup (by simp)
 |snoc a h=>exact h.1.nodup (lK f _).nd
end
inductive uZ:List aB->aB->Str->List ai->Prop
 |stop {fz:List aB}{st:aB}{r:Str}(h:iG st r=some none):uZ fz st r []
 |still {fz:List aB}{st:aB}{r:Str}{d:ai}{ws:List ai}(h:iG st r=some (some d)) (e:d.sg=am) (b:uZ fz st d.a ws):uZ fz st r (d::ws)
 |pop {fz:List aB}{st st':aB}{r:Str}{d:ai}{ws:List ai}(h:iG st r=some (some d)) (e:d.sg≠am) (b:uZ fz st' d.a ws):uZ (st'::fz) st r (d::ws)
section
variable{J0 J1 rooms:Zb}{ds:List ai}
theorem uP{q:List aB}{a st:aB}{f:List (List Str)}{N:Nat}(h:bU ds a st)(base:∀r∈a.map (·.1),∃w,He ds (c6 rooms) w r/\cw w=f/\w.length<=N+a.length/\uZ q st r w.reverse):
  ∀{b:aB},bU ds a b->bU ds b st->∀r∈b.map (·.1),∃w,He ds (c6 rooms) w r/\cw w=f/\w.length<=N+b.length/\uZ q st r w.reverse:=by
 intro b j
 induction j with
 |refl=>exact fun _=>base
 |@step b d y k s j t u =>
  intro on r v;have g:bU ds b st:=(bU.step (.refl b) k s j t).trans on;rw[ap]at v;rcases aX.mp v with z|z
  ·obtain⟨w,l,m,x,n⟩:=u g r z;exact⟨w,l,m,by rw[au];omega,n⟩
  ·have e:r=d.b:=by simpa using z
   obtain⟨w,l,m,x,n⟩:=u g d.a s;have i:d.b∈(b++[(d.b,some d)]).map (·.1):=by rw[ap];exact cQ _ (by simp)
   have o:iG st d.b=some (some d):=by rw[on.at_ i,zH t]
   have p:d∈ds:=bx.mp j;have A:d.sg≠aT:=by rw[k];exact fun z=>Ia z.symm
   rw[e];refine⟨w++[d],.snoc l ⟨fun z=>absurd z A,fun _=>p⟩,?_,?_,?_⟩
   ·rw[wv,m];have:cw [d]=[]:=by unfold cw;rw[List.filter_cons_of_neg (by rw[k];simp)];rfl
    rw[this,dh]
   ·rw[au,au];show w.length+1<=N+(b.length+1);omega
   ·rw[List.reverse_append];exact .still o k n
theorem ml.back(m:aE J0 J1 rooms ds){f:List (List Str)}{l:List aB}{st:aB}(h:ml rooms ds f l st):(∀g∈f,g≠am)->∀r∈st.map (·.1),∃w,He ds (c6 rooms) w r/\cw w=f/\w.length<=f.length * 151+st.length/\uZ l st r w.reverse:=by
 induction h with
 |@nil st h =>
  intro _;refine uP (N:=0) h.1 (fun r i=>?_) h.1 (.refl _);have e:r=c6 rooms:=by simpa using i
  refine⟨[],by rw[e];exact .nil,rfl,c_ _,.stop ?_⟩;rw[h.1.at_ i,e];exact zH (st:=[]) (by simp)
 |@snoc f l st g u a h x =>
  intro q;have n:∀s∈f,s≠am:=fun s y=>q s (cG _ y);have j:g≠am:=q g (cQ _ (by simp));have I:=(a.kin m).len;have z:=m.rooms26;refine uP (N:=(f++[g]).length * 151) h.1 (fun r i=>?_) h.1 (.refl _);obtain⟨v,t⟩:=v4 i;obtain⟨d,A,B,o,C,D⟩:=Bm (r,v) (Fw t);have p:v=some d:=A;have k:d.b=r:=B;subst p;obtain⟨w,E,G,J,H⟩:=x n d.a C;rw[<-k];refine⟨w++[d],.snoc E D,?_,?_,?_⟩
  ·rw[wv,G];have:cw [d]=[g]:=by unfold cw;rw[List.filter_cons_of_pos (by rw[o];simp[j])];show[d.sg]=_;rw[o]
   rw[this]
  ·rw[au,au];show w.length+1<=(f.length+1) * 151+_;omega
  ·rw[List.reverse_append];exact .pop (by rw[k,h.1.at_ i];exact t) (by rw[o];exact j) H
end
def ES(K:Za)(H:Hp)(v:V):Option ai->Prop
 |none=>v=.non
 |some d=>∃t s,v=.ref t/\H t=some (.tup [.str d.a,.ref s,.str d.b])/\aW K H s (d.sg.map V.str)
theorem ES.kt{K:Za}{H a:Hp}{v:V}{o:Option ai}(k:fj H a)(h:ES K H v o):ES K a v o:=by
 cases o with
 |none=>exact h
 |some d =>
  obtain⟨t,s,e,f,g⟩:=h;exact⟨t,s,e,k _ _ f,aW.kt k g⟩
def KvAt(K:Za)(H:Hp)(kv:cz×V)(p:Str×Option ai):Prop:=kv.1=.inr p.1/\ES K H kv.2 p.2
abbrev gE(K:Za)(H:Hp)(kvs:List (cz×V))(st:aB):Prop:=Paired (KvAt K H) kvs st
theorem gE.kt{K:Za}{H e:Hp}{a:List (cz×V)}{st:aB}(k:fj H e)(h:gE K H a st):gE K e a st:=Paired.mapP h fun _ _ r=>⟨r.1,r.2.kt k⟩
theorem gE.look{K:Za}{H:Hp}{r:Str}:∀{e:List (cz×V)}{st:aB},gE K H e st->(bM e (.inr r:cz)=none/\iG st r=none)∨∃v o,bM e (.inr r:cz)=some v/\iG st r=some o/\ES K H v o
 |_,_,.nil=>.inl ⟨rfl,rfl⟩
 |_,_,.cons (a:=f) (b:=p) (l₁:=e) (l₂:=st) h t=>by
  obtain⟨g,i⟩:=h;by_cases c:p.1=r
  ·refine .inr ⟨f.2,p.2,?_,?_,i⟩
   ·unfold bM;rw[gR,g,zzr1 (by rw[c])];rfl
   ·unfold iG;rw[gR,zzr1 c];rfl
  ·have j:bM (f::e) (.inr r:cz)=bM e (.inr r:cz):=by
    unfold bM;rw[gR,g,zzr0 (fun z=>c (by injection z))]
   have k:iG (p::st) r=iG st r:=by
    unfold iG;rw[gR,zzr0 c]
   rw[j,k];exact gE.look t
theorem gE.keys{K:Za}{H:Hp}:∀{a:List (cz×V)}{st:aB},gE K H a st->(a.map fun e=>kV e.1)=(st.map (·.1)).map V.str
 |_,_,.nil=>rfl
 |_,_,.cons h t=>by
  rw[bd,bd,bd,gE.keys t,h.1];rfl
theorem gE.put{K:Za}{H:Hp}{kvs:List (cz×V)}{st:aB}{r:Str}{v:V}{o:Option ai}(h:gE K H kvs st)(f:ES K H v o):gE K H (cn kvs (.inr r:cz) v) (jn st r o):=by
 have g:(kvs.any fun i=>decide (i.1=(.inr r:cz)))=st.any fun p=>decide (p.1=r):=by
  induction h with
  |nil=>rfl
  |cons a t e =>
   rw[kh,kh,e,a.1];congr 1;exact decide_eq_decide.2 ⟨fun z=>by injection z,fun z=>by rw[z]⟩
 unfold cn jn;rw[g];split
 ·next j =>
  clear g j
  induction h with
  |nil=>exact .nil
  |@cons i p kvs st a t e =>
   rw[bd,bd];refine .cons ?_ e;by_cases c:p.1=r
   ·rw[if_pos (by rw[a.1,c]),if_pos c];exact⟨a.1,f⟩
   ·rw[if_neg (by rw[a.1];intro z;exact c (by injection z)),if_neg c];exact a
 ·exact cr h ⟨rfl,f⟩
inductive mC(K:Za)(C:Addr)(vs:List V)(H:Hp)(Q:VK)(E:XK):Prop
 |mk (H0:Hp) (x d:Addr) (kvs:List (cz×V)) (st:aB) (J0 J1 rooms:Zb) (ds:List ai):(vs=[.ref x,.ref d])->(bt C H0 x J0 J1 rooms ds)->(H0 d=none)->(ac H0 H)->(H d=some (.dK kvs))->(gE K H kvs st)->(uY rooms st) ->
  (∀(kvs':List (cz×V)) (st':aB) (H':Hp),H' d=some (.dK kvs')->gE K H' kvs' st'->ma ds st st'->c9 d H H'->Q .non H')->mC K C vs H Q E
theorem Ec{K:Za}{C a:Addr}(ha:∀H,be K H a (am.map V.str)){vs:List V}{H:Hp}{Q:VK}{E:XK}(h:mC K C vs H Q E):oQ K C (fR K C) a (bJ Q) (start pS vs) H:=by
 obtain⟨H0,x,d,a5,st,J0,J1,rooms,A,rfl,MA,ca,S0,hd,a6,kin,k⟩:=h;have z3:=MA.ok.rooms26;have a7:=MA.ok.good;have gd:∀q∈A,q.b∈rooms:=fun q hq=>(a7 q hq).b;have rm:∀{j},bU A st j->j.length<=rooms.length:=fun{j} o=>by
  have:=jc (o.nodup kin.nd) (o.rooms kin.inr gd fun hg=>bx.mp hg);simpa using this
 refine⟨_,rfl,.inr ⟨d,a5,rfl,.inl hd,fun s B=>?_⟩⟩;rw[a6.keys];have S1:ac H (upd H s (.lst ((st.map (·.1)).map V.str))):=ac.new B;have a8:upd H s (.lst ((st.map (·.1)).map V.str)) s=some (.lst ((st.map (·.1)).map V.str)):=aa;have aC:s≠d:=(ae hd B).symm;have c1:H0 s=none:=S0.free B;generalize upd H s (.lst ((st.map (·.1)).map V.str))=H1 at S1 a8 ⊢;refine⟨fun n σ G=>∃(m:List (cz×V)) (j:aB) (f:Zb) (x3 Y:Option V),σ=[some (.ref x),some (.ref d),some (.ref s),x3,Y]/\G d=some (.dK m)/\gE K G m j/\G s=some (.lst (f.map V.str))/\Wt A st j f/\n=f.length+2 * (rooms.length-j.length)/\n<=300/\∀b o,H b=some o->b≠d->G b=some o,
  ⟨_,a5,st,st.map (·.1),_,_,rfl,S1 _ _ hd,a6.kt (ac.kt S1),a8,⟨.refl _,fun r h=>h,fun r h=>.inl h⟩,rfl,by rw[aj];have:=rm (.refl st);omega,fun b o e _=>S1 _ _ e⟩,?_⟩
 rintro n σ G ⟨D,L,f,x3,Y,rfl,a9,al,M,W,rfl,c0,bf⟩;refine⟨_,rfl,.inl ⟨s,_,rfl,.inl (ay.of M),_,_,rfl,rfl,_,rfl,?_⟩⟩;rw[aj];rcases List.eq_nil_or_concat f with e0|⟨u,room,e1⟩
 ·rw[e0,zzr0 (by show ¬(0:Int)<(([]:Zb).length:Nat);decide)];refine bH (k D L G a9 al ⟨W.on,fun r hr=>?_⟩ fun b o e nb=>bf b o e nb);rcases W.done r hr with z|z
  ·rw[e0]at z;cases z
  ·exact z
 rw[List.concat_eq_append]at e1;subst e1;rw[zzr1 (by show(0:Int)<((u++[room]).length:Nat);rw[au];show(0:Int)<((u.length+1:Nat));omega)];refine cT ?_;have l1:=rm W.on;refine⟨fun σ' I=>∃(m:List (cz×V)) (j:aB) (f:Zb) (x3 Y:Option V),σ'=[some (.ref x),some (.ref d),some (.ref s),x3,Y]/\I d=some (.dK m)/\gE K I m j/\I s=some (.lst (f.map V.str))/\Wt A st j f/\f.length+2 * (rooms.length-j.length)<(u++[room]).length+2 * (rooms.length-L.length)/\∀b o,H b=some o->b≠d->I b=some o,?_,?_⟩
 ·rintro σ' I ⟨m,j,f,x3,Y,rfl,b1,b2,b3,b4,b5,b6⟩;exact⟨_,b5,m,j,f,x3,Y,rfl,b1,b2,b3,b4,rfl,by omega,b6⟩
 refine⟨_,rfl,.inl ⟨rfl,_,ay.of M⟩,s,_,.str room,rfl,rfl,M,?_,?_⟩
 ·rw[ap,au,iu (by show _<=_+1-1;omega)];show[V.str room][_+1-1-_]?=_;rw[Nat.add_sub_cancel,nB];rfl
 have cc:((u++[room]).map V.str).dropLast=u.map V.str:=by
  rw[ap];exact List.dropLast_concat
 rw[cc];have cd:fj G (upd G s (.lst (u.map V.str))):=bW M;have aF:upd G s (.lst (u.map V.str)) d=some (.dK D):=by rw[ag aC.symm];exact a9
 have a0:upd G s (.lst (u.map V.str)) s=some (.lst (u.map V.str)):=aa;have a4:∀b o,H b=some o->b≠d->upd G s (.lst (u.map V.str)) b=some o:=fun b o e nb=>by rw[ag (ae e B)];exact bf b o e nb
 have an:=al.kt cd;generalize upd G s (.lst (u.map V.str))=G2 at aF a0 a4 an ⊢;have ce:ac H0 G2:=fun b o e=>a4 _ _ (S0 _ _ e) (ae e ca);have M2:=MA.same ce;obtain⟨dm,fm,_,_,_,_,_,_,_,_,_,_,_,_,q1,_,q2,_⟩:=M2.at_;refine⟨_,rfl,x,dm,fm,rfl,q1,q2,_,rfl,x,a,room,am,J0,J1,rooms,A,rfl,M2,ha _,fun gl G3 bi bl S3=>⟨gl,rfl,⟨_,ay.of bi⟩,?_⟩⟩;have ch:gl≠d:=(ae aF bl).symm;have cl:gl≠s:=(ae a0 bl).symm;refine bR (xs:=(aJ A (room,am)).map V.str) (fun i σ' I=>∃(m:List (cz×V)) (j:aB) (f:Zb) (Y:Option V),σ'=[some (.ref x),some (.ref d),some (.ref s),some (.str room),Y]/\I d=some (.dK m)/\gE K I m j/\I s=some (.lst (f.map V.str))/\bU A st j/\room∈j.map (·.1)/\(∀r∈f,r∈j.map (·.1))/\(∀r∈j.map (·.1),r=room∨r∈f∨∀g∈aJ A (r,am),g∈j.map (·.1))/\(∀g∈(aJ A (room,am)).take i,g∈j.map (·.1))/\f.length+2 * (rooms.length-j.length)<(u++[room]).length+2 * (rooms.length-L.length)/\∀b o,G3 b=some o->b≠d->b≠s->I b=some o)
  ⟨D,L,u,_,rfl,S3 _ _ aF,an.kt (ac.kt S3),S3 _ _ a0,W.on,W.there room (by simp),fun r h=>W.there r (by simp[h]),fun r h=>?_,by simp,by simp,fun _ _ e _ _=>e⟩ (fun i σ' I _ ⟨_,_,_,_,_,_,_,_,_,_,_,_,_,_,ex⟩=>ay.of (ex _ _ bi ch cl)) ?_ ?_
 ·rcases W.done r h with z|z
  ·rcases aX.mp z with z|z
   ·exact .inr (.inl z)
   ·exact .inl (by simpa using z)
  ·exact .inr (.inr z)
 ·rintro i y σ' G4 hy ⟨l,p,w4,cm,rfl,J,t,N,on,ir,th,dn,tk,lt,O⟩;obtain⟨g,hg,rfl⟩:=bv hy;have bn:∀{T:aB},g∈T.map (·.1)->(∀y∈p.map (·.1),y∈T.map (·.1))->∀y∈(aJ A (room,am)).take (i+1),y∈T.map (·.1):=fun{T} h1 h2 y hy=>by
   rw[take_snoc hg]at hy;rcases aX.mp hy with z|z
   ·exact h2 y (tk y z)
   ·rw[bO.1 z];exact h1
  have gi:g∈aJ A (room,am):=aY hg;refine⟨_,rfl,_,rfl,d,_,rfl,.inl ⟨l,.inr g,.inl J,rfl,rfl⟩,_,rfl,?_⟩;rcases t.look (r:=g)with⟨e1,e2⟩|⟨v,o,e1,e2,_⟩
  ·rw[e1];refine cT ?_;have ng:g∉p.map (·.1):=mr.1 e2;refine⟨_,rfl,_,rfl,(by show 3<=ak;decide),fun w co=>?_⟩;have S5:ac G4 (upd G4 w (.tup [.str room,.ref a,.str g])):=ac.new co;have t5:upd G4 w (.tup [.str room,.ref a,.str g]) w=some (.tup [.str room,.ref a,.str g]):=aa;generalize upd G4 w (.tup [.str room,.ref a,.str g])=G5 at S5 t5 ⊢;have bp:=S5 _ _ J;have cq:=S5 _ _ N;have b7:bU A st (p++[(g,some (⟨room,am,g⟩:ai))]):=.step (d:=⟨room,am,g⟩) on rfl ir gi ng;have l3:=rm b7;rw[au]at l3;have l3:p.length+1<=rooms.length:=l3;have zk:l.length=p.length:=Paired.length t;refine⟨_,rfl,_,rfl,d,_,rfl,.inl ⟨l,.inr g,bp,rfl,by rw[ga];omega,rfl⟩,?_⟩;have cs:fj G5 (upd G5 d (.dK (cn l (.inr g) (.ref w)))):=fun b xs q=>by rw[ag (fun z=>by rw[z,bp]at q;cases q)];exact q
   have as:gE K (upd G5 d (.dK (cn l (.inr g) (.ref w)))) (cn l (.inr g) (.ref w)) (p++[(g,some (⟨room,am,g⟩:ai))]):=by
    rw[<-v3 ng];exact((t.kt (ac.kt S5)).put (o:=some (⟨room,am,g⟩:ai)) ⟨w,a,rfl,t5,so ha _⟩).kt cs
   have U:upd G5 d (.dK (cn l (.inr g) (.ref w))) s=some (.lst (w4.map V.str)):=by rw[ag aC];exact cq
   have b8:upd G5 d (.dK (cn l (.inr g) (.ref w))) d=some (.dK (cn l (.inr g) (.ref w))):=aa;have b9:∀b o,G5 b=some o->b≠d->upd G5 d (.dK (cn l (.inr g) (.ref w))) b=some o:=fun b o q n=>by rw[ag n];exact q
   generalize upd G5 d (.dK (cn l (.inr g) (.ref w)))=G6 at as U b8 b9 ⊢;have k3:∀y∈p.map (·.1),y∈(p++[(g,some (⟨room,am,g⟩:ai))]).map (·.1):=fun y h=>by rw[ap];exact cG _ h
   have kg:g∈(p++[(g,some (⟨room,am,g⟩:ai))]).map (·.1):=by rw[ap];exact cQ _ (by simp)
   refine⟨_,rfl,.inl ⟨rfl,_,ay.of U⟩,_,rfl,s,_,_,rfl,rfl,U,by rw[aj];exact ar (by omega),?_⟩;have ct:fj G6 (upd G6 s (.lst (w4.map V.str++[.str g]))):=bW U;refine⟨_,_,w4++[g],_,rfl,by rw[ag aC.symm];exact b8,as.kt ct,by rw[aa,ap];rfl,b7,k3 _ ir,fun r h=>?_,fun r h=>?_,bn kg k3,?_,fun b o q n1 n2=>?_⟩
   ·rcases aX.1 h with h|h
    ·exact k3 r (th r h)
    ·rw[bO.1 h];exact kg
   ·rw[ap]at h;rcases aX.1 h with h|h
    ·rcases dn r h with z|z|z
     ·exact .inl z
     ·exact .inr (.inl (cG _ z))
     ·exact .inr (.inr fun y hy=>k3 y (z y hy))
    ·have:r=g:=by simpa using h
     rw[this];exact .inr (.inl (cQ _ (by simp)))
   ·rw[au,au];have:([g]:Zb).length=1:=rfl;have:([(g,some (⟨room,am,g⟩:ai))]:aB).length=1:=rfl;omega
   ·rw[ag n2];exact b9 _ _ (S5 _ _ (O _ _ q n1 n2)) n1
  ·rw[e1];refine bH ?_;have cv:g∈p.map (·.1):=by
    cases Classical.em (g∈p.map (·.1))with
    |inl h=>exact h
    |inr h=>rw[mr.2 h]at e2;cases e2
   exact⟨l,p,w4,_,rfl,J,t,N,on,ir,th,dn,bn cv fun _ h=>h,lt,O⟩
 ·rintro σ' G4 ⟨l,p,w4,cm,rfl,J,t,N,on,ir,th,dn,tk,lt,O⟩;rw[aj,bb]at tk;refine⟨l,p,w4,_,_,rfl,J,t,N,⟨on,th,fun r h=>?_⟩,lt,fun b o e nb=>O _ _ (S3 _ _ (a4 b o e nb)) nb (ae e B)⟩;rcases dn r h with z|z|z
  ·rw[z];exact .inr tk
  ·exact .inl z
  ·exact .inr z
theorem Ie{d:Addr}{o:Obj}{a:List (cz×V)}{g:TG}{k:TS}{D:mj}{σ:L2.St}{H:Hp}(Pv:Nat->L2.St->Hp->Prop)(n:Pv 0 σ H)(r:∀i σ H,i<=a.length->Pv i σ H->H d=some (.frz o (.dK a)))
  (s:∀i h σ H,a[i]?=some h->Pv i σ H->g (kV h.1) σ H fun σ2 j=>k { D with nx:=Pv (i+1),ct:=Pv (i+1),bk:=D.nx } σ2 j) (t:∀σ H,Pv a.length σ H->D.nx σ H) :
  ∃W:Nat->Nat->L2.St->Hp->Prop,(∃m,W 0 m σ H)/\∀i m σ H,W i m σ H ->
   ((JD d o a).stop i H/\D.nx σ H)∨((JD d o a).go i H/\∃N:L2.St->Hp->Prop,(∀σ' f,N σ' f->∃l,l<m/\W (i+1) l σ' f)/\∀x f,(JD d o a).yld i H x f->g x σ f fun σ2 j=>k { D with nx:=N,ct:=N,bk:=D.nx } σ2 j):=by
 refine⟨fun i m σ H=>m=a.length-i/\i<=a.length/\Pv i σ H,⟨a.length,by simp,c_ _,n⟩,?_⟩;rintro i m σ H ⟨rfl,u,p⟩;have q:=r i σ H u p;by_cases lt:i<a.length
 ·refine .inr ⟨⟨q,lt⟩,Pv (i+1),fun σ' f v=>⟨a.length-(i+1),by omega,rfl,lt,v⟩,fun x f y=>?_⟩;obtain⟨rfl,h,w,rfl⟩:=y;exact s i h σ _ w p
 ·have e:i=a.length:=by omega
  subst e;exact .inl ⟨⟨q,aG _⟩,t σ H p⟩
inductive jo(K:Za)(C:Addr)(vs:List V)(H:Hp)(Q:VK)(E:XK):Prop
 |mk (H0:Hp) (x d su:Addr) (kvs:List (cz×V)) (st:aB) (sg:Sg) (J0 J1 rooms:Zb) (ds:List ai):(vs=[.ref x,.ref d,.ref su])->(bt C H0 x J0 J1 rooms ds)->(H0 d=none)->(ac H0 H)->(H d=some (.dK kvs))->(gE K H kvs st)->(aW K H su (sg.map V.str)) ->
  (∀(o:Obj) (d':Addr) (kvs':List (cz×V)) (H':Hp),H' d=some (.frz o (.dK kvs))->H' d'=some (.dK kvs')->H d'=none->gE K H' kvs' (eL rooms ds sg (st.map (·.1)))->c9 d H H'->Q (.ref d') H')->jo K C vs H Q E
theorem zN{K:Za}{C J:Addr}(hh:∀H,be K H J (aT.map V.str)){vs:List V}{H:Hp}{Q:VK}{E:XK}(h:jo K C vs H Q E):A0 K J C (fW C) (fR K C) (bJ Q) (start Co vs) H:=by
 obtain⟨H0,x,d,D,f,st,sg,J0,J1,rooms,ds,rfl,MA,a7,S0,hd,al,a8,k⟩:=h;have z3:=MA.ok.rooms26;have an:∀q∈ds,q.b∈rooms:=fun q hq=>(MA.ok.good q hq).b;refine fun e m=>?_;have S1:ac H (upd H e (.dK [])):=ac.new m;have d1:upd H e (.dK []) e=some (.dK []):=aa;have L:e≠d:=(ae hd m).symm;have b7:H0 e=none:=S0.free m;generalize upd H e (.dK [])=Y at S1 d1 ⊢;refine⟨_,rfl,d,f,rfl,.inl ⟨S1 _ _ hd,fun o=>?_⟩⟩;have a9:fj Y (upd Y d (.frz o (.dK f))):=fun b xs q=>by rw[ag (fun z=>by rw[z,S1 _ _ hd]at q;cases q)];exact q
 have d2:upd Y d (.frz o (.dK f)) d=some (.frz o (.dK f)):=aa;have as:upd Y d (.frz o (.dK f)) e=some (.dK []):=by rw[ag L];exact d1
 have M:∀b u,H b=some u->b≠d->upd Y d (.frz o (.dK f)) b=some u:=fun b u q n=>by rw[ag n];exact S1 _ _ q
 generalize upd Y d (.frz o (.dK f))=H2 at a9 d2 as M ⊢;have zk:f.length=(st.map (·.1)).length:=by rw[Paired.length al,aj]
 refine Ie (fun i σ G=>∃(a:List (cz×V)) (x4 x5:Option V),σ=[some (.ref x),some (.ref d),some (.ref D),some (.ref e),x4,x5]/\G e=some (.dK a)/\gE K G a (eL rooms ds sg ((st.map (·.1)).take i))/\∀b u,H2 b=some u->b≠e->G b=some u)
  ⟨[],_,_,rfl,as,.nil,fun _ _ q _=>q⟩ (fun i σ G _ ⟨_,_,_,_,_,_,ex⟩=>ex _ _ d2 L.symm) ?_ ?_
 ·rintro i kv σ G hi ⟨a,x4,x5,rfl,N,I,ex⟩;obtain⟨p,hp,bf,_⟩:=Paired.getL al hi;have hr:(st.map (·.1))[i]?=some p.1:=by rw[cb,hp];rfl
  have bi:kV kv.1=V.str p.1:=by rw[bf];rfl
  rw[bi];have es:=xR (rooms:=rooms) (ds:=ds) (sg:=sg) hr;have aC:∀b u,H b=some u->b≠d->G b=some u:=fun b u q n=>ex _ _ (M b u q n) (ae q m);have bl:ac H0 G:=fun b u q=>aC _ _ (S0 _ _ q) (ae q a7);have bn:fj H G:=fun b xs q=>aC b _ q fun z=>by rw[z,hd]at q;cases q
  have MG:=MA.same bl;have kin:uY rooms (eL rooms ds sg ((st.map (·.1)).take i)):=lK an _;have aF:a.length<=150:=by rw[Paired.length I];exact bB kin.len z3
  generalize eL rooms ds sg ((st.map (·.1)).take i)=base at I kin es aF;obtain⟨dm,fm,_,_,_,_,_,_,_,_,_,_,_,_,q1,qi,q2,_⟩:=MG.at_;have t:=aW.kt bn a8;refine⟨_,rfl,gP sg,gP aT,aM (aW.sq t),aM (hh G),by rw[b0];decide,by rw[b0];decide,_,rfl,?_⟩;rw[eP];by_cases cs:sg=aT
  ·rw[zzr1 cs];refine cT ?_;refine⟨_,rfl,x,dm,fm,rfl,q1,qi,_,rfl,x,p.1,J0,J1,rooms,ds,rfl,MG,_,rfl,?_⟩;by_cases cq:p.1∈rooms.filter (cX ds)
   ·rw[zzr1 cq];refine cT ⟨_,rfl,_,rfl,(by show 3<=ak;decide),fun s O=>?_⟩;have A:ac G (upd G s (.tup [.str p.1,.ref J,.str p.1])):=ac.new O;have t3:upd G s (.tup [.str p.1,.ref J,.str p.1]) s=some (.tup [.str p.1,.ref J,.str p.1]):=aa;have T:=A _ _ N;have a0:=I.kt (ac.kt A);refine⟨_,rfl,_,rfl,e,_,rfl,.inl ⟨a,.inr p.1,T,rfl,by rw[ga];omega,rfl⟩,?_⟩;generalize upd G s (.tup [.str p.1,.ref J,.str p.1])=G3 at A t3 T a0 ⊢;have bp:fj G3 (upd G3 e (.dK (cn a (.inr p.1) (.ref s)))):=fun b xs q=>by rw[ag (fun z=>by rw[z,T]at q;cases q)];exact q
    refine⟨_,_,_,rfl,aa,?_,fun b u q n=>by rw[ag n];exact A _ _ (ex b u q n)⟩;rw[es];unfold di;rw[if_pos cs,if_pos cq];exact(a0.put (o:=some (⟨p.1,aT,p.1⟩:ai)) ⟨s,J,rfl,t3,so hh _⟩).kt bp
   ·rw[zzr0 cq];refine bH ⟨a,_,_,rfl,N,?_,ex⟩;rw[es];unfold di;rw[if_pos cs,if_neg cq];exact I
  ·rw[zzr0 cs];refine bH ?_;refine⟨_,rfl,x,dm,fm,rfl,q1,q2,_,rfl,_,rfl,x,D,p.1,sg,J0,J1,rooms,ds,rfl,MG,aW.sq t,fun gl G3 a4 b1 A=>⟨gl,rfl,⟨_,ay.of a4⟩,?_⟩⟩;have b2:gl≠e:=(ae N b1).symm;have ep:∀acc:aB,di rooms ds sg acc p.1=ig ds sg p.1 (aJ ds (p.1,sg)) acc:=fun acc=>by unfold di;rw[if_neg cs]
   have gg:∀g∈aJ ds (p.1,sg),g∈rooms:=fun g hg=>an _ (bx.mp hg);refine bR (xs:=(aJ ds (p.1,sg)).map V.str) (fun j σ G'=>∃(v:List (cz×V)) (x5:Option V),σ=[some (.ref x),some (.ref d),some (.ref D),some (.ref e),some (.str p.1),x5]/\G' e=some (.dK v)/\gE K G' v (ig ds sg p.1 ((aJ ds (p.1,sg)).take j) base)/\∀b u,G3 b=some u->b≠e->G' b=some u)
    ⟨a,_,rfl,A _ _ N,I.kt (ac.kt A),fun _ _ q _=>q⟩ (fun j σ G' _ ⟨_,_,_,_,_,b3⟩=>ay.of (b3 _ _ a4 b2)) ?_ ?_
   ·rintro j y σ G4 hy ⟨l,b4,rfl,U,w,B⟩;obtain⟨g,hg,rfl⟩:=bv hy;have a5:=uY.goals (ds:=ds) (sg:=sg) (r:=p.1) (gs:=(aJ ds (p.1,sg)).take j) kin fun g hg=>gg g (fA hg);have z4:l.length<=150:=by rw[Paired.length w];exact bB a5.len z3
    refine⟨_,rfl,_,rfl,_,rfl,(by show 3<=ak;decide),fun s O=>?_⟩;have S5:ac G4 (upd G4 s (.tup [.str p.1,.ref D,.str g])):=ac.new O;have t5:upd G4 s (.tup [.str p.1,.ref D,.str g]) s=some (.tup [.str p.1,.ref D,.str g]):=aa;generalize upd G4 s (.tup [.str p.1,.ref D,.str g])=G5 at S5 t5 ⊢;have a6:=S5 _ _ U;have b5:fj G G5:=fun b xs q=>S5 _ _ (B _ _ (A _ _ q) fun z=>by rw[z,N]at q;cases q);refine⟨_,rfl,_,rfl,e,_,rfl,.inl ⟨l,.inr g,a6,rfl,by rw[ga];omega,rfl⟩,?_⟩;have b6:fj G5 (upd G5 e (.dK (cn l (.inr g) (.ref s)))):=fun b xs q=>by rw[ag (fun z=>by rw[z,a6]at q;cases q)];exact q
    refine⟨_,_,rfl,aa,?_,fun b u q n=>by rw[ag n];exact S5 _ _ (B _ _ q n)⟩;rw[take_snoc hg];unfold ig;rw[ip];exact((w.kt (ac.kt S5)).put (o:=some (⟨p.1,sg,g⟩:ai)) ⟨s,D,rfl,t5,aW.kt b5 t⟩).kt b6
   ·rintro σ G4 ⟨l,b4,rfl,U,w,B⟩;rw[aj,bb]at w;refine⟨l,_,_,rfl,U,?_,fun b u q n=>B _ _ (A _ _ (ex b u q n)) n⟩;rw[es,ep];exact w
 ·rintro σ G ⟨a,x4,x5,rfl,N,I,ex⟩;rw[zk,bb]at I;exact⟨_,rfl,k o e a G (ex _ _ d2 L.symm) N m I fun b u q n=>ex _ _ (M b u q n) (ae q m)⟩
def jE(K:Za)(H:Hp)(a:Addr)(st:aB):Prop:=∃(o:Obj) (kvs:List (cz×V)),H a=some (.frz o (.dK kvs))/\gE K H kvs st
theorem jE.ex{K:Za}{H i:Hp}{a c:Addr}{st:aB}{f:List (cz×V)}(h:jE K H a st)(j:H c=some (.dK f))(e:c9 c H i):jE K i a st:=by
 obtain⟨o,k,g,l⟩:=h;exact⟨o,k,e _ _ g (fun z=>by rw[z,j]at g;cases g),l.kt fun b m q=>e _ _ q fun z=>by rw[z,j]at q;cases q⟩
theorem jE.same{K:Za}{H e:Hp}{a:Addr}{st:aB}(h:jE K H a st)(S:ac H e):jE K e a st:=by
 obtain⟨o,f,g,i⟩:=h;exact⟨o,f,S _ _ g,i.kt (ac.kt S)⟩
inductive mB(K:Za)(C:Addr)(vs:List V)(H:Hp)(Q:VK)(E:XK):Prop
 |mk (x sl:Addr) (story:List Sg) (J0 J1 rooms:Zb) (ds:List ai):(vs=[.ref x,.ref sl])->(bt C H x J0 J1 rooms ds)->(fM K H sl story)->(story.length<=1101) ->
  (∀(al d:Addr) (as:Ze) (kvs:List (cz×V)) (fz:List aB) (st:aB) (H':Hp),ml rooms ds story fz st->H' al=some (.lst ((as++[d]).map V.ref))->H al=none->Paired (jE K H') as fz.reverse->H' d=some (.dK kvs)->gE K H' kvs st->ac H H'->Q (.ref al) H')->mB K C vs H Q E
theorem Eb{K:Za}{C:Addr}{vs:List V}{H:Hp}{Q:VK}{E:XK}(h:mB K C vs H Q E):u8 K (mC K C) (jo K C) C (h9 C) (bJ Q) (start vI vs) H:=by
 obtain⟨x,sl,l,J0,J1,rooms,ds,rfl,MA,⟨gs,a4,a5⟩,zs,k⟩:=h;have m:=MA.ok;have z3:=m.rooms26;obtain⟨ef,ca⟩:=m.first;refine fun d hd=>?_;have S1:ac H (upd H d (.dK [])):=ac.new hd;have d1:upd H d (.dK []) d=some (.dK []):=aa;generalize upd H d (.dK [])=H1 at S1 d1 ⊢;obtain⟨dm,fm,_,_,_,_,_,_,_,_,_,_,_,_,q1,_,_,_,q4,_⟩:=(MA.same S1).at_;refine⟨_,rfl,x,dm,fm,rfl,q1,q4,x,J0,J1,rooms,ds,rfl,MA.same S1,fun rl cc=>?_⟩;have S2:ac H1 (upd H1 rl (.lst (rooms.map V.str))):=ac.new cc;have r2:upd H1 rl (.lst (rooms.map V.str)) rl=some (.lst (rooms.map V.str)):=aa;generalize upd H1 rl (.lst (rooms.map V.str))=H2 at S2 r2 ⊢;have cd:(rooms.map V.str)[0]?=some (.str (c6 rooms)):=by rw[cb,ef];rfl
 refine⟨rl,_,0,.str (c6 rooms),rfl,rfl,ay.of r2,bc (j:=0) cd,?_⟩;have d2:=S2 _ _ d1;refine⟨d2,[(.inr (c6 rooms),.non)],rfl,(by show 1<=15;decide),?_⟩;have ce:fj H2 (upd H2 d (.dK (fC [] [(.inr (c6 rooms),.non)]))):=fun b xs q=>by rw[ag (fun z=>by rw[z,d2]at q;cases q)];exact q
 have d3:upd H2 d (.dK (fC [] [(.inr (c6 rooms),.non)])) d=some (.dK [(.inr (c6 rooms),.non)]):=aa;have ex3:∀b o,H b=some o->upd H2 d (.dK (fC [] [(.inr (c6 rooms),.non)])) b=some o:=fun b o q=>by rw[ag (ae q hd)];exact S2 _ _ (S1 _ _ q)
 generalize upd H2 d (.dK (fC [] [(.inr (c6 rooms),.non)]))=H3 at ce d3 ex3 ⊢;have O:ac H H3:=ex3;refine⟨_,rfl,(by show 1<=ak;decide),fun g a6=>?_⟩;have S4:ac H3 (upd H3 g (.lst [.ref d])):=ac.new a6;have I:upd H3 g (.lst [.ref d]) g=some (.lst (([]++[d]:Ze).map V.ref)):=aa;have a7:H g=none:=O.free a6;generalize upd H3 g (.lst [.ref d])=H4 at S4 I ⊢;have d4:=S4 _ _ d3;have a8:gE K H4 [(.inr (c6 rooms),.non)] [(c6 rooms,none)]:=.cons ⟨rfl,rfl⟩ .nil;have a9:uY rooms [(c6 rooms,none)]:=⟨by simp,fun r hr=>by have:r=c6 rooms:=(by simpa using hr);rw[this];exact ca⟩;refine⟨_,rfl,_,rfl,H,x,d,_,_,J0,J1,rooms,ds,rfl,MA,hd,O.trans S4,d4,a8,a9,fun bf ch H5 d5 bi cl bl=>?_⟩;have bn:ac H H5:=fun b o q=>bl _ _ ((O.trans S4) _ _ q) (ae q hd);have cm:g≠d:=fun z=>by rw[z,d4]at I;cases I
 refine⟨_,rfl,sl,rfl,⟨_,ay.of (bn _ _ a4)⟩,?_⟩;have zg:gs.length=l.length:=Paired.length a5;refine bR (xs:=gs.map V.ref) (fun i σ G=>∃(e:Addr) (t:Ze) (p:List (cz×V)) (T:List aB) (st:aB) (x4:Option V),σ=[some (.ref x),some (.ref sl),some (.ref e),some (.ref g),x4]/\ml rooms ds (l.take i) T st/\G g=some (.lst ((t++[e]).map V.ref))/\t.length=i/\Paired (jE K G) t T.reverse/\G e=some (.dK p)/\gE K G p st/\H e=none/\ac H G)
  ⟨d,[],bf,[],ch,_,rfl,.nil cl,bl _ _ I cm,rfl,.nil,d5,bi,hd,bn⟩ (fun i σ G _ ⟨_,_,_,_,_,_,_,_,_,_,_,_,_,_,S⟩=>ay.of (S _ _ a4)) ?_ ?_
 ·rintro i v σ G hi ⟨e,t,p,T,st,x4,rfl,A,y,za,U,Y,J,he,SG⟩;obtain⟨su,co,rfl⟩:=cM hi;obtain⟨sg,bp,cq⟩:=Paired.getL a5 co;have il:i<l.length:=(bY.1 bp).1;have cs:g≠e:=fun z=>by rw[z,Y]at y;cases y
  refine⟨_,rfl,_,rfl,_,rfl,H,x,e,su,p,st,sg,J0,J1,rooms,ds,rfl,MA,he,SG,Y,J,aW.kt (ac.kt SG) cq,fun o B b1 D g1 b2 an b3 L=>?_⟩;have f:=L _ _ y cs;have c2:B≠e:=fun z=>by rw[z,Y]at an;cases an
  have N:g≠B:=fun z=>by rw[z,b2]at f;cases f
  have ct:ac H D:=fun b u q=>L _ _ (SG _ _ q) (ae q he);have aC:H B=none:=SG.free an;have b4:Paired (jE K D) t T.reverse:=Paired.mapP U fun _ _ r=>r.ex Y L;have cv:jE K D e st:=⟨o,p,g1,J.kt fun b xs q=>L _ _ q fun z=>by rw[z,Y]at q;cases q⟩;refine⟨_,rfl,.inl ⟨rfl,_,ay.of f⟩,_,rfl,g,_,_,rfl,rfl,f,by rw[aj,au,za];exact xo (m:=2000) (by show _+1<=2000;omega) (by rw[ga];decide),?_⟩;have b5:upd D g (.lst ((t++[e]).map V.ref++[.ref B])) g=some (.lst (((t++[e])++[B]).map V.ref)):=by rw[aa,ap (l₁:=t++[e])];rfl
  have M:∀b u,D b=some u->b≠g->upd D g (.lst ((t++[e]).map V.ref++[.ref B])) b=some u:=fun b u q n=>by rw[ag n];exact q
  have aF:fj D (upd D g (.lst ((t++[e]).map V.ref++[.ref B]))):=bW f;generalize upd D g (.lst ((t++[e]).map V.ref++[.ref B]))=G2 at b5 M aF ⊢;have b6:∀{a:Addr}{s:aB},jE K D a s->jE K G2 a s:=fun{a s} r=>by
   obtain⟨o,kv,h1,h2⟩:=r;exact⟨o,kv,M _ _ h1 (fun z=>by rw[z,f]at h1;cases h1),h2.kt aF⟩
  have a0:=M _ _ b2 N.symm;have b7:ac H G2:=fun b u q=>M _ _ (ct _ _ q) (ae q a7);refine⟨_,rfl,_,rfl,H,x,B,b1,_,J0,J1,rooms,ds,rfl,MA,aC,b7,a0,b3.kt aF,lK (fun q hq=>(m.good q hq).b) _,fun b8 c0 G3 g3 b9 c1 w=>?_⟩;refine⟨B,t++[e],b8,st::T,c0,_,rfl,?_,w _ _ b5 N,by rw[au,za];rfl,?_,g3,b9,aC,fun b u q=>w _ _ (b7 _ _ q) (ae q aC)⟩
  ·rw[take_snoc bp];exact .snoc A c1
  ·rw[qg];exact cr (Paired.mapP b4 fun _ _ r=>(b6 r).ex a0 w) ((b6 cv).ex a0 w)
 ·rintro σ G ⟨e,t,p,T,st,x4,rfl,A,y,za,U,Y,J,he,SG⟩;rw[aj,zg,bb]at A;exact⟨_,rfl,k g e t p T st G A y a7 U Y J SG⟩
theorem FM{H H':Hp}{d:Addr}{x:HO}(k:∀o,H d=some o->H' d=some o)(h:Rd H d x):Rd H' d x:=h.imp (k _) fun⟨o,e⟩=>⟨o,k _ e⟩
def Hg(K:Za)(H:Hp)(t:Addr)(d:ai):Prop:=∃s,H t=some (.tup [.str d.a,.ref s,.str d.b])/\aW K H s (d.sg.map V.str)
theorem Hg.kt{K:Za}{H a:Hp}{t:Addr}{d:ai}(k:fj H a)(h:Hg K H t d):Hg K a t d:=by
 obtain⟨s,e,f⟩:=h;exact⟨s,k _ _ e,aW.kt k f⟩
theorem zW{α β:Type}{R:α->β->Prop}{f:List α}{bs:List β}{b:β}(h:Paired R f (bs++[b])):∃e a,f=e++[a]/\Paired R e bs/\R a b:=by
 have g:=Paired.length h;rw[au]at g;have g:f.length=bs.length+1:=g;obtain⟨a,j,r⟩:=Paired.get (i:=bs.length) (y:=b) h (by rw[iu (aG _),nB];rfl);refine⟨f.take bs.length,a,by rw[<-take_snoc j,<-g,bb],?_,r⟩;have:=Paired.takeP bs.length h;rw[List.take_left' rfl]at this;exact this
inductive oX(K:Za)(C:Addr)(vs:List V)(H:Hp)(Q:VK)(E:XK):Prop
 |mk (x sl:Addr) (story:List Sg) (J0 J1 rooms:Zb) (ds:List ai):(vs=[.ref x,.ref sl])->(bt C H x J0 J1 rooms ds)->(fM K H sl story)->(story.length<=1101)->(∀sg∈story,sg≠am)->(faceOf rooms ds story=[]->∀H',ac H H'->Q .non H') ->
  (faceOf rooms ds story≠[]->∀(l:Addr) (ts:Ze) (w:List ai) (H':Hp),H' l=some (.lst (ts.map V.ref))->H l=none->Paired (Hg K H') ts w->GA ds (c6 rooms) w=true->cw w=story->w.length<=200000->ac H H'->Q (.ref l) H')->oX K C vs H Q E
theorem FB{K:Za}{C a:Addr}(ha:∀H,be K H a (am.map V.str)){vs:List V}{H:Hp}{Q:VK}{E:XK}(h:oX K C vs H Q E):DP K a (mB K C) (bJ Q) (start EU vs) H:=by
 obtain⟨x,sl,D,J0,J1,rooms,ds,rfl,MA,hs,zs,ch,k0,k1⟩:=h;have m:=MA.ok;have z3:=m.rooms26;refine⟨_,rfl,_,rfl,x,sl,D,J0,J1,rooms,ds,rfl,MA,hs,zs,fun J d p f O st H1 A u bl an gd T S1=>?_⟩;have cl:(p++[d]).map V.ref=p.map V.ref++[.ref d]:=by rw[ap];rfl
 rw[cl]at u;have zk:f.length=st.length:=Paired.length T;have face:=A.face m;refine⟨_,rfl,_,rfl,J,_,-1,.ref d,rfl,rfl,ay.of u,AD _ _,.inr ⟨d,f,rfl,.inl gd,rfl,_,rfl,?_⟩⟩;rcases st with _|⟨p0,L⟩
 ·rw[zzr1 (by rw[zk];rfl)];refine cT (k0 ?_ H1 S1);cases ef:faceOf rooms ds D with
  |nil=>rfl
  |cons r l=>exact absurd ((face r).2 (by rw[ef];exact cD)) (by simp)
 have zk:f.length=L.length+1:=zk;rw[zzr0 (by intro z;injection z with z;omega)];refine bH ?_;have bn:p0.1∈(p0::L).map (·.1):=cD;have cm:faceOf rooms ds D≠[]:=fun z=>by have:=(face p0.1).1 bn;rw[z]at this;cases this
 obtain⟨w,wk,hw,zw,bk⟩:=A.back m ch p0.1 bn;have c4:(p0::L).length<=150:=bB (A.kin m).len z3;have co:w.length<=200000:=by have:D.length * 151<=1101 * 151:=Nat.mul_le_mul_right _ zs;omega
 refine⟨_,rfl,_,rfl,J,_,-1,.ref d,rfl,rfl,ay.of u,AD _ _,.inr ⟨d,f,rfl,.inl gd,fun kl cq=>?_⟩⟩;rw[T.keys];have S2:ac H1 (upd H1 kl (.lst (((p0::L).map (·.1)).map V.str))):=ac.new cq;have bp:upd H1 kl (.lst (((p0::L).map (·.1)).map V.str)) kl=some (.lst (((p0::L).map (·.1)).map V.str)):=aa;generalize upd H1 kl (.lst (((p0::L).map (·.1)).map V.str))=H2 at S2 bp ⊢;refine⟨kl,_,0,.str p0.1,rfl,rfl,ay.of bp,bc (j:=0) rfl,?_⟩;refine⟨(by show 0<=ak;decide),fun g a9=>?_⟩;have S3:ac H2 (upd H2 g (.lst [])):=ac.new a9;have ca:upd H2 g (.lst []) g=some (.lst (([]:Ze).map V.ref)):=aa;generalize upd H2 g (.lst [])=H3 at S3 ca ⊢;have aC:=S2.trans S3;have aF:=aC _ _ u;have a5:J≠g:=ae (S2 _ _ u) a9;have a6:H g=none:=(S1.trans S2).free a9;refine⟨_,rfl,.inl ⟨rfl,_,ay.of aF⟩,J,_,.ref d,rfl,rfl,aF,?_,?_⟩
 ·rw[au,iu (by show _<=_+1-1;omega)];show[V.ref d][_+1-1-_]?=_;rw[Nat.add_sub_cancel,nB];rfl
 rw[show(p.map V.ref++[V.ref d]).dropLast=p.map V.ref from List.dropLast_concat];have popped:∀{G:Hp}{xs ys:List V},G J=some (.lst xs)->fj G (upd G J (.lst ys))/\(∀{b:Addr}{s:aB},jE K G b s->jE K (upd G J (.lst ys)) b s):=fun{G xs ys} e=>by
  have kt:fj G (upd G J (.lst ys)):=bW e;refine⟨kt,fun{b s} r=>?_⟩;obtain⟨o,kv,Y,h2⟩:=r;exact⟨o,kv,by rw[ag (fun z=>by rw[z,e]at Y;cases Y)];exact Y,h2.kt kt⟩
 obtain⟨cs,ct⟩:=popped (ys:=p.map V.ref) aF;have cv:J≠d:=fun z=>by rw[z,gd]at u;cases u
 refine⟨fun n σ G=>∃(e:Addr) (p:Ze) (f:List (cz×V)) (O:List aB) (st:aB) (r:Str) (i:Ze) (M I:List ai) (x6:Option V),σ=[some (.ref x),some (.ref sl),some (.ref J),some (.str r),some (.ref g),some (.ref e),x6]/\G J=some (.lst (p.map V.ref))/\Paired (jE K G) p O.reverse/\Rd G e (.dK f)/\gE K G f st/\uZ O st r I/\G g=some (.lst (i.map V.ref))/\Paired (Hg K G) i M/\M++I=w.reverse/\n=I.length/\ac H G,
  ⟨_,d,p,f,O,p0::L,p0.1,[],[],w.reverse,_,rfl,aa,Paired.mapP an fun _ _ r=>ct (r.same aC),.inl (by rw[ag cv.symm];exact aC _ _ gd),(T.kt (ac.kt aC)).kt cs,bk,by rw[ag a5.symm];exact ca,.nil,rfl,rfl,fun b o q=>by rw[ag (ae q bl)];exact(S1.trans aC) _ _ q⟩,?_⟩
 rintro n σ G ⟨e,p,f,O,st,r,i,M,I,x6,rfl,u,an,rd,T,bk,k,a7,ew,rfl,SG⟩;have c5:i.length=M.length:=Paired.length a7;have dc:M.length+I.length=w.length:=by rw[<-au,ew,List.length_reverse]
 have go:∀{q:ai}{ws:List ai},iG st r=some (some q)->I=q::ws->∃t s,bM f (.inr r:cz)=some (.ref t)/\G t=some (.tup [.str q.a,.ref s,.str q.b])/\aW K G s (q.sg.map V.str):=fun{q ws} Y _=>by
  rcases T.look (r:=r)with⟨_,U⟩|⟨v,o,e1,U,e3⟩
  ·rw[Y]at U;cases U
  ·rw[Y]at U;injection U with U;subst U;obtain⟨t,s,rfl,q1,q2⟩:=e3;exact⟨t,s,e1,q1,q2⟩
 cases bk with
 |stop hn =>
  rcases T.look (r:=r)with⟨_,U⟩|⟨v,o,e1,U,e3⟩
  ·rw[hn]at U;cases U
  rw[hn]at U;injection U with U;subst U;have e3:v=.non:=e3;subst e3;refine⟨_,rfl,_,rfl,e,_,rfl,.inl ⟨f,.inr r,rd,rfl,e1.symm⟩,_,rfl,?_⟩;refine bH ?_;rw[dh]at ew;refine⟨_,rfl,.inl ⟨rfl,_,ay.of k⟩,g,_,rfl,rfl,k,?_⟩;have kt:fj G (upd G g (.lst (i.map V.ref).reverse)):=bW k;refine⟨_,rfl,k1 cm g i.reverse w _ (by rw[aa,List.map_reverse]) a6 ?_ wk.ok hw co fun b o q=>by rw[ag (ae q a6)];exact SG _ _ q⟩;have:=Paired.rev (Paired.mapP a7 fun _ _ r=>r.kt kt);rw[ew,List.reverse_reverse]at this;exact this
 |@still _ _ _ q ws hn es b =>
  obtain⟨t,s,e1,q1,q2⟩:=go hn rfl;refine⟨_,rfl,_,rfl,e,_,rfl,.inl ⟨f,.inr r,rd,rfl,e1.symm⟩,_,rfl,?_⟩;refine cT ⟨fun σ' N=>∃(e:Addr) (p:Ze) (f:List (cz×V)) (O:List aB) (st:aB) (r:Str) (i:Ze) (M I:List ai) (x6:Option V),σ'=[some (.ref x),some (.ref sl),some (.ref J),some (.str r),some (.ref g),some (.ref e),x6]/\N J=some (.lst (p.map V.ref))/\Paired (jE K N) p O.reverse/\Rd N e (.dK f)/\gE K N f st/\uZ O st r I/\N g=some (.lst (i.map V.ref))/\Paired (Hg K N) i M/\M++I=w.reverse/\I.length<(q::ws).length/\ac H N,?_,?_⟩
  ·rintro σ' N ⟨e,p,f,O,st,r,i,M,I,x6,rfl,b1,b2,b3,b4,b5,b6,b7,b8,b9,bf⟩;exact⟨_,b9,e,p,f,O,st,r,i,M,I,x6,rfl,b1,b2,b3,b4,b5,b6,b7,b8,rfl,bf⟩
  refine⟨_,rfl,_,rfl,e,_,rfl,.inl ⟨f,.inr r,rd,rfl,e1.symm⟩,?_⟩;refine⟨_,rfl,.inl ⟨rfl,_,ay.of k⟩,_,rfl,g,_,_,rfl,rfl,k,by rw[aj,ga];show _<_;omega,?_⟩;have kt:fj G (upd G g (.lst (i.map V.ref++[.ref t]))):=bW k;have a0:upd G g (.lst (i.map V.ref++[.ref t])) g=some (.lst ((i++[t]).map V.ref)):=by rw[aa,ap];rfl
  have y:∀b o,G b=some o->b≠g->upd G g (.lst (i.map V.ref++[.ref t])) b=some o:=fun b o q n=>by rw[ag n];exact q
  generalize upd G g (.lst (i.map V.ref++[.ref t]))=G2 at kt a0 y ⊢;have a8:∀{b:Addr}{s:aB},jE K G b s->jE K G2 b s:=fun{b s} r=>by
   obtain⟨o,kv,Y,h2⟩:=r;exact⟨o,kv,y _ _ Y (fun z=>by rw[z,k]at Y;cases Y),h2.kt kt⟩
  have c0:Rd G2 e (.dK f):=FM (fun o q=>y _ _ q fun z=>by rw[z,k]at q;rcases rd with r|⟨_,r⟩<;>(rw[z,k]at r;cases r)) rd;refine⟨_,rfl,t,_,0,_,rfl,rfl,be.of (kt _ _ q1),bc (j:=0) rfl,?_⟩;refine⟨_,rfl,t,_,1,_,rfl,rfl,be.of (kt _ _ q1),bc (j:=1) rfl,gP q.sg,gP am,aM (aW.sq (aW.kt kt q2)),aM (ha _),by rw[b0];decide,by rw[b0];decide,_,rfl,?_⟩;rw[eP,zzr1 es];refine bH ⟨e,p,f,O,st,q.a,i++[t],M++[q],ws,_,rfl,y _ _ u a5,Paired.mapP an fun _ _ r=>a8 r,c0,T.kt kt,b,a0,cr (Paired.mapP a7 fun _ _ r=>r.kt kt) ⟨s,kt _ _ q1,aW.kt kt q2⟩,by rw[cI];exact ew,CG _,fun b o q=>y _ _ (SG _ _ q) (ae q a6)⟩
 |@pop c1 _ c2 _ q ws hn es b =>
  obtain⟨t,s,e1,q1,q2⟩:=go hn rfl;refine⟨_,rfl,_,rfl,e,_,rfl,.inl ⟨f,.inr r,rd,rfl,e1.symm⟩,_,rfl,?_⟩;refine cT ⟨fun σ' N=>∃(e:Addr) (p:Ze) (f:List (cz×V)) (O:List aB) (st:aB) (r:Str) (i:Ze) (M I:List ai) (x6:Option V),σ'=[some (.ref x),some (.ref sl),some (.ref J),some (.str r),some (.ref g),some (.ref e),x6]/\N J=some (.lst (p.map V.ref))/\Paired (jE K N) p O.reverse/\Rd N e (.dK f)/\gE K N f st/\uZ O st r I/\N g=some (.lst (i.map V.ref))/\Paired (Hg K N) i M/\M++I=w.reverse/\I.length<(q::ws).length/\ac H N,?_,?_⟩
  ·rintro σ' N ⟨e,p,f,O,st,r,i,M,I,x6,rfl,b1,b2,b3,b4,b5,b6,b7,b8,b9,bf⟩;exact⟨_,b9,e,p,f,O,st,r,i,M,I,x6,rfl,b1,b2,b3,b4,b5,b6,b7,b8,rfl,bf⟩
  refine⟨_,rfl,_,rfl,e,_,rfl,.inl ⟨f,.inr r,rd,rfl,e1.symm⟩,?_⟩;refine⟨_,rfl,.inl ⟨rfl,_,ay.of k⟩,_,rfl,g,_,_,rfl,rfl,k,by rw[aj,ga];show _<_;omega,?_⟩;have kt:fj G (upd G g (.lst (i.map V.ref++[.ref t]))):=bW k;have a0:upd G g (.lst (i.map V.ref++[.ref t])) g=some (.lst ((i++[t]).map V.ref)):=by rw[aa,ap];rfl
  have y:∀b o,G b=some o->b≠g->upd G g (.lst (i.map V.ref++[.ref t])) b=some o:=fun b o q n=>by rw[ag n];exact q
  generalize upd G g (.lst (i.map V.ref++[.ref t]))=G2 at kt a0 y ⊢;have a8:∀{b:Addr}{s:aB},jE K G b s->jE K G2 b s:=fun{b s} r=>by
   obtain⟨o,kv,Y,h2⟩:=r;exact⟨o,kv,y _ _ Y (fun z=>by rw[z,k]at Y;cases Y),h2.kt kt⟩
  refine⟨_,rfl,t,_,0,_,rfl,rfl,be.of (kt _ _ q1),bc (j:=0) rfl,?_⟩;refine⟨_,rfl,t,_,1,_,rfl,rfl,be.of (kt _ _ q1),bc (j:=1) rfl,gP q.sg,gP am,aM (aW.sq (aW.kt kt q2)),aM (ha _),by rw[b0];decide,by rw[b0];decide,_,rfl,?_⟩;rw[eP,zzr0 es];refine cT ?_;rw[qg]at an;obtain⟨a4,e',rfl,cc,fe⟩:=zW an;have B:=y _ _ u a5;rw[ap]at B;have B:G2 J=some (.lst (a4.map V.ref++[.ref e'])):=B;refine⟨_,rfl,.inl ⟨rfl,_,ay.of B⟩,J,_,.ref e',rfl,rfl,B,?_,?_⟩
  ·rw[au,iu (by show _<=_+1-1;omega)];show[V.ref e'][_+1-1-_]?=_;rw[Nat.add_sub_cancel,nB];rfl
  rw[show(a4.map V.ref++[V.ref e']).dropLast=a4.map V.ref from List.dropLast_concat];obtain⟨bi,cd⟩:=popped (ys:=a4.map V.ref) B;obtain⟨o',ce,g',c3⟩:=cd (a8 fe);refine⟨e',a4,ce,c1,c2,q.a,i++[t],M++[q],ws,_,rfl,aa,Paired.mapP cc fun _ _ r=>cd (a8 r),.inr ⟨o',g'⟩,c3,b,by rw[ag a5.symm];exact a0,cr (Paired.mapP a7 fun _ _ r=>(r.kt kt).kt bi) ⟨s,bi _ _ (kt _ _ q1),aW.kt bi (aW.kt kt q2)⟩,by rw[cI];exact ew,CG _,fun b o q=>by rw[ag (ae q bl)];exact y _ _ (SG _ _ q) (ae q a6)⟩
theorem EF{w:List ai}{i:Nat}{d:ai}(h:w[i]?=some d):cw (w.take (i+1))=cw (w.take i)++(if(!decide (d.sg=am))=true then[d.sg]else[]):=by
 unfold cw;rw[take_snoc h,nA,ap];by_cases c:(!decide (d.sg=am))=true
 ·rw[if_pos c];simp only[List.filter,c];rfl
 ·rw[if_neg c];simp only[List.filter,Bool.not_eq_true _▸c];rfl
theorem Hg.dIn{K:Za}{H:Hp}{t:Addr}{d:ai}(h:Hg K H t d):lc K H (pL d) (.ref t):=by
 obtain⟨s,a,e⟩:=h;unfold pL;unfold lc;refine⟨t,_,rfl,be.of a,?_⟩;unfold DIns;refine⟨_,_,rfl,ii _,?_⟩;unfold DIns;refine⟨_,_,rfl,aM (aW.sq e),?_⟩;unfold DIns;refine⟨_,_,rfl,ii _,?_⟩;unfold DIns
 rfl
theorem k_.dIns{K:Za}{H:Hp}:∀{a:Ze}{s:List Sg},k_ K H a s->DIns K H (s.map gP) (a.map V.ref)
 |_,_,.nil=>by show DIns K H [] [];unfold DIns;rfl
 |_,_,.cons r t=>by
  rw[bd,bd];unfold DIns;exact⟨_,_,rfl,aM (aW.sq r),k_.dIns t⟩
theorem zE{K:Za}{H:Hp}{l:Addr}{a:Ze}{s:List Sg}(h:H l=some (.lst (a.map V.ref)))(r:k_ K H a s):lc K H (.s (s.map gP)) (.ref l):=by
 unfold lc;exact⟨l,_,rfl,ay.of h,k_.dIns r⟩
theorem BU(w:List ai):(cw w).length<=w.length:=by unfold cw;rw[aj];exact eG _ _
inductive kr(K:Za)(vs:List V)(H:Hp)(Q:VK)(E:XK):Prop
 |mk (t st wl l1 l2 l3 l4:Addr) (ts us:Ze) (w:List ai) (J0 J1 rooms:Zb) (ds:List ai):(vs=[.ref t,.ref st,.ref wl])->(iA H t l1 l2 l3 l4 ts J0 J1 rooms ds)->(aE J0 J1 rooms ds)->(fM K H st (cw w))->(H wl=some (.lst (us.map V.ref)))->(Paired (Hg K H) us w)->(GA ds (c6 rooms) w=true)->(w.length<=200000)->(∀H',ac H H'->Q (.bl true) H')->kr K vs H Q E
theorem Bs{K:Za}{vs:List V}{H:Hp}{Q:VK}{E:XK}(h:kr K vs H Q E):rP K jS (bJ Q) (start sj vs) H:=by
 obtain⟨t,st,O,l1,l2,l3,l4,ts,us,w,J0,J1,rooms,A,rfl,T,m,⟨a0,aC,U⟩,I,Y,gw,zw,k⟩:=h;obtain⟨f1,f2⟩:=m.first;refine⟨_,rfl,.ref O,"list",_,true,rfl,.inl (j7.lst I),rfl,_,rfl,bH ?_⟩;refine⟨_,rfl,.inr (.inl ⟨t,_,2,_,rfl,rfl,be.of T.t,rfl,l3,_,0,_,rfl,rfl,ay.of T.a3,bc (j:=0) (by rw[cb,f1];rfl),?_⟩)⟩;refine⟨(by show 0<=ak;decide),fun J L=>?_⟩;refine⟨_,rfl,O,rfl,⟨_,ay.of (kp I L)⟩,?_⟩;refine bR (xs:=us.map V.ref) (fun i σ B=>IZ fun(r:Str) (v:Ze) (x5:Option V)=>GZ (σ=[some (.ref t),some (.ref st),some (.ref O),some (.str r),some (.ref J),x5]) (GA A r (w.drop i)=true) (B J=some (.lst (v.map V.ref))) (k_ K B v (cw (w.take i))) (ac H B))
  ⟨_,[],_,rfl,gw,aa,.nil,ac.new L⟩ (fun i σ B _ ⟨_,_,_,_,_,_,_,S⟩=>ay.of (S _ _ I)) ?_ ?_
 ·rintro i y σ N hi ⟨r,v,x5,rfl,hg,M,x,n⟩;obtain⟨u,hu,rfl⟩:=cM hi;obtain⟨d,hd,al⟩:=Paired.getL Y hu;have aF:=al.kt (ac.kt n);obtain⟨s,e,hs⟩:=al.kt (ac.kt n);have ed:w.drop i=d::w.drop (i+1):=by
   obtain⟨h1,h2⟩:=bY.1 hd;rw[tf h1,h2]
  rw[ed]at hg;have an:(decide (d.a=r) && ((if d.sg=aT then decide (d.b=r) && decide (r∉dW A)else decide (d∈A)) && GA A d.b (w.drop (i+1))))=true:=hg
  rw[lD,lD]at an;obtain⟨g1,g2,g3⟩:=an;have il:i<w.length:=(bY.1 hd).1;refine⟨_,rfl,.ref u,"tuple",_,true,rfl,.inl (j7.tup e),rfl,_,rfl,bH ?_⟩;refine⟨_,rfl,.inl ⟨u,_,rfl,.inr (be.of e),rfl,_,rfl,?_⟩⟩;refine ED (P:=False) (by simp) (fun z=>z.elim) fun _=>?_;refine⟨_,rfl,.inr (.inl ⟨u,_,0,_,rfl,rfl,be.of e,rfl,_,rfl,gK d.a,gK r,ii _,ii _,Kn _,Kn _,_,rfl,?_⟩)⟩;rw[sF,g1];refine bH ?_;have C:∀D,ac N D->(ao (cg (aQ (aH (nV K) (aH (jA K) V5 (tC (.int 1))) (bA (az (tC (.str "still")))))) (bG (qx K "list" ci V4 (az (aH (jA K) V5 (tC (.int 1)))))) (bD)) (aK (aH (jA K) V5 (tC (.int 2))) U3)) { nx:=fun σ B=>IZ fun(r:Str) (v:Ze) (x5:Option V)=>GZ (σ=[some (.ref t),some (.ref st),some (.ref O),some (.str r),some (.ref J),x5]) (GA A r (w.drop (i+1))=true) (B J=some (.lst (v.map V.ref))) (k_ K B v (cw (w.take (i+1)))) (ac H B),rt:=Q } [some (.ref t),some (.ref st),some (.ref O),some (.str r),some (.ref J),some (.ref u)] D:=by
   intro D l;have e3:=l _ _ e;have as:=aW.kt (ac.kt l) hs;refine⟨_,rfl,.inr (.inl ⟨u,_,1,_,rfl,rfl,be.of e3,rfl,(by show 1<=ak;decide),fun p hp=>⟨gP d.sg,gP am,aM (aW.sq (aW.kt (ac.kt (ac.new hp)) as)),aM (be.of aa),Fe _,Fe _,_,rfl,?_⟩⟩)⟩;rw[eP];have S4:ac D (upd D p (.tup [.str "still"])):=ac.new hp;generalize upd D p (.tup [.str "still"])=H4 at S4 ⊢;have f:=l.trans S4;have hn:=EF hd;have g:=f _ _ M;have G:=k_.same f x;by_cases c:d.sg=am
   ·rw[zzr1 c]at hn ⊢;refine bH ⟨_,rfl,.inr (.inl ⟨u,_,2,_,rfl,rfl,be.of (f _ _ e),rfl,_,v,_,rfl,g3,g,?_,n.trans f⟩)⟩;rw[hn];show k_ K H4 v (_++[]);rw[dh];exact G
   ·rw[zzr0 c]at hn ⊢;have zg:=Paired.length x;have zh:=BU (w.take i);rw[aN]at zh;refine cT ⟨_,rfl,.inl ⟨rfl,_,ay.of g⟩,_,rfl,.inr (.inl ⟨u,_,1,_,rfl,rfl,be.of (f _ _ e),rfl,J,_,_,rfl,rfl,g,?_,?_⟩)⟩
    ·rw[aj,ga];omega
    have kt:fj H4 (upd H4 J (.lst (v.map V.ref++[.ref s]))):=bW g;refine⟨_,rfl,.inr (.inl ⟨u,_,2,_,rfl,rfl,be.of (kt _ _ (f _ _ e)),rfl,_,v++[s],_,rfl,g3,by rw[aa,ap];rfl,?_,fun b o q=>?_⟩)⟩
    ·rw[hn];exact cr (Paired.mapP G fun _ _ r=>aW.kt kt r) (aW.kt kt (aW.kt (ac.kt S4) as))
    ·rw[ag (ae q L)];exact f _ _ (n _ _ q)
  refine⟨_,rfl,.inr (.inl ⟨u,_,1,_,rfl,rfl,be.of e,rfl,(by show 1<=ak;decide),fun p hp=>⟨gP d.sg,gP aT,aM (aW.sq (aW.kt (ac.kt (ac.new hp)) hs)),aM (be.of aa),Fe _,Fe _,_,rfl,?_⟩⟩)⟩;rw[eP];have l:ac N (upd N p (.tup [.str "hush"])):=ac.new hp;generalize upd N p (.tup [.str "hush"])=D at l ⊢;by_cases c:d.sg=aT
  ·rw[zzr1 c];rw[if_pos c,lD]at g2;obtain⟨b1,b2⟩:=g2;refine cT ⟨_,rfl,.inr (.inl ⟨u,_,2,_,rfl,rfl,be.of (l _ _ e),rfl,_,rfl,gK d.b,gK r,ii _,ii _,Kn _,Kn _,_,rfl,?_⟩)⟩;rw[sF,b1];refine bH ⟨_,rfl,_,rfl,t,l1,l2,l3,l4,ts,J0,J1,rooms,A,r,rfl,T.same (n.trans l),m,fun H4 S4=>⟨_,rfl,?_⟩⟩;rw[b2];exact bH (C H4 (l.trans S4))
  ·rw[zzr0 c];rw[if_neg c]at g2;refine bH ⟨_,rfl,_,rfl,.inr (.inl ⟨t,_,3,_,rfl,rfl,be.of ((n.trans l) _ _ T.t),rfl,pL d,A.map pL,l4,_,(aF.kt (ac.kt l)).dIn,rfl,.inl (ay.of ((n.trans l) _ _ T.a4)),cB.dIns (T.same (n.trans l)).ds,by rw[sE];decide,wz _,_,rfl,?_⟩)⟩;rw[show decide (pL d∈A.map pL)=decide (d∈A)from by rw[sL,decide_eq_true_iff,decide_eq_true_iff];exact yb,g2];exact bH (C D l)
 ·rintro σ N ⟨r,v,x5,rfl,hg,M,x,n⟩;rw[aj,Paired.length Y,bb]at x;refine⟨_,rfl,_,rfl,.s ((cw w).map gP),.s ((cw w).map gP),zE M x,zE (n _ _ aC) (Paired.mapP U fun _ _ r=>aW.kt (ac.kt n) r),J6 _,J6 _,?_⟩;rw[zzr1 rfl];exact k N n
def tN(K:Za)(sp_law_behind:Sp)(sp_law_face:Sp)(sp_law_signs:Sp):TS :=
 ao (cg (zc (vg (tB (eD (Ej K) (aU V2 (tC (.ty "tuple")))))) (zc (aQ (aH HG (eD (dS K) (az V2)) (tC (.int 3)))) (vg (tB (eD (Ej K) (aU (aH (ia K) V2 (tC (.int 1))) (tC (.ty "list")))))))) (bm (tC (.bl false))) (bD))
 (ao (aK (aS sp_law_signs (az V0)) U3)
 (ao (cg (zc (aQ (aH (ph K true) (aH (ia K) V2 (tC (.int 2))) (AO (pf K) V3 (gf (eD (dS K) (az (aH (jA K) V0 (tC (.int 0)))))) (e_)))) (aQ (aH (nV K) (dH 1 [3] (cj K (aH (ia K) V2 (tC (.int 1)))) U0 (aQ (aH (ph K true) V0 V1)) V0) (dB (bu))))) (bm (tC (.bl false))) (bD))
 (ao (aK (aS sp_law_face (aU V0 (aH (ia K) V2 (tC (.int 1))))) U4)
 (ao (cg (zc (aQ (aH (lP K) V4 (bA (bu)))) (aQ (aH (nV K) (aS sp_law_behind (eo V0 V4 (aH (ia K) V2 (tC (.int 2))))) (bA (bu))))) (bm (tC (.bl false))) (bD))
 (bm (aH (nV K) (aS sp_law_behind (aw V1 (aw (aS sp_law_face (aU V1 (aH (ia K) V2 (tC (.int 1))))) (az (aH (ia K) V2 (tC (.int 2))))))) (bA (bu))))))))
def uV:List Str:=["told","some","found","signs","face"]
def Ho(K:Za)(sp_law_is_walked:Sp)(sp_walk_of:Sp)(sp_law_is_fault:Sp)(i4:Sp)(sp_law_machine:Sp)(sp_law_near:Sp)(sp_law_model:Sp)(sp_law_open:Sp):TS :=
 ao (aK (aS sp_law_open (az V0)) U1)
 (ao (aK (aS sp_law_model (eo V1 (tC (.int 4)) (tC (.int 0)))) U2)
 (ao (aK (aS sp_law_near (eo V1 V2 (tC (.int 5)))) U3)
 (ao (aK (aS sp_law_machine (az V3)) U4)
 (ao (aK (aS i4 (aU (aS sp_law_machine (az V2)) V4)) U5)
 (ao (cg (zc (vg (tB (eD (Ej K) (aU V5 (tC (.ty "tuple")))))) (aQ (aH (JP K) V5 (bA (bu))))) (bm (tC (.bl false))) (bD))
 (ao (cg (aQ (aH zS (aH (ia K) V5 (tC (.int 0))) (tC (.str "keeps")))) (bm (CZ (aH zS (eD (dS K) (az V5)) (tC (.int 2))) (eD (Ej K) (aU (aH (ia K) V5 (tC (.int 1))) (tC (.ty "list")))))) (bD))
 (ao (cg (zc (aQ (aH HG (aH (ia K) V5 (tC (.int 0))) (tC (.str "fault")))) (vg (tB (aS sp_law_is_fault (eo V2 V3 V5))))) (bm (tC (.bl false))) (bD))
 (ao (aK (aH r9 (aH (ia K) V5 (tC (.int 1))) (dB (az (aH (ia K) V5 (tC (.int 2)))))) U6)
 (bm (aS sp_law_is_walked (eo V3 V6 (aS sp_walk_of (aU V4 V6)))))))))))))
def DC:List Str:=["script","pen","told","some","made","found","story"]
def FX:List Str:=["script"]
inductive mx(K:Za)(vs:List V)(H:Hp)(Q:VK)(E:XK):Prop
 |mk (t st l1 l2 l3 l4:Addr) (ts us:Ze) (story:List Sg) (J0 J1 rooms:Zb) (ds:List ai):(vs=[.ref t,.ref st])->(iA H t l1 l2 l3 l4 ts J0 J1 rooms ds)->(aE J0 J1 rooms ds)->(H st=some (.lst (us.map V.ref)))->(k_ K H us story)->(∀(t':Addr) (H':Hp),H' t'=some (.tup ((faceOf rooms ds story).map V.str))->ac H H'->Q (.ref t') H')->mx K vs H Q E
theorem D_{K:Za}{x:List V}{H:Hp}{Q:VK}{E:XK}(h:mx K x H Q E):Bb K (t9 K) zI (bJ Q) (start Cv x) H:=by
 obtain⟨t,st,z,A,l,B,C,O,a,D,G,rooms,ds,rfl,T,m,e,I,k⟩:=h;have z3:=m.rooms26;have U:gC (rooms.map V.str) none (some 1)=(rooms.take 1).map V.str:=pM rooms 1;refine⟨_,rfl,_,rfl,.inr (.inl ⟨t,_,2,_,rfl,rfl,be.of T.t,rfl,_,rfl,.inl ⟨l,_,rfl,ay.of T.a3,fun J n=>?_⟩⟩)⟩;rw[U];have L:ac H (upd H J (.lst ((rooms.take 1).map V.str))):=ac.new n;refine⟨t,J,z,A,l,B,C,D,G,rooms,rooms.take 1,ds,rfl,T.same L,m,aa,by rw[aN];omega,fun Y H1 o p=>?_⟩;have M:=L.trans p;refine⟨_,rfl,st,rfl,⟨_,ay.of (M _ _ e)⟩,?_⟩;refine bR (xs:=O.map V.ref) (fun i σ q=>Jz fun(f:Addr) (r:Option V)=>NA3 (σ=[some (.ref t),some (.ref st),some (.ref f),r]) (q f=some (.tup ((faceOf rooms ds (a.take i)).map V.str))) (ac H q))
  ⟨Y,_,rfl,o,M⟩ (fun i σ q _ ⟨_,_,_,_,S⟩=>ay.of (S _ _ e)) ?_ ?_
 ·rintro i y σ N hi ⟨f,r,rfl,j,g⟩;obtain⟨u,hu,rfl⟩:=cM hi;obtain⟨sg,s,v⟩:=Paired.getL I hu;obtain⟨o1,o2⟩:=j3 (ds:=ds) (show rooms.length<=1000 by omega) (a.take i);refine⟨_,rfl,_,rfl,_,rfl,t,f,u,z,A,l,B,C,D,G,rooms,_,sg,ds,rfl,T.same g,m,j,aW.sq (aW.kt (ac.kt g) v),o2,fun f' H3 w S3=>⟨f',_,rfl,?_,g.trans S3⟩⟩;rw[take_snoc s,lY];exact w
 ·rintro σ N ⟨f,r,rfl,j,g⟩;rw[aj,Paired.length I,bb]at j;exact⟨_,rfl,k f N j g⟩
inductive o6(K:Za)(vs:List V)(H:Hp)(Q:VK)(E:XK):Prop
 |mk (t l1 l2 l3 l4 t' m1 m2 m3 m4 u l b:Addr) (ts ts' gs:Ze) (s:List Sg) (sg:Sg) (J0 J1 rooms rooms':Zb) (ds ds':List ai):(vs=[.ref t,.ref t',.ref u])->(iA H t l1 l2 l3 l4 ts J0 J1 rooms ds)->(aE J0 J1 rooms ds)->(iA H t' m1 m2 m3 m4 ts' J0 J1 rooms' ds')->(aE J0 J1 rooms' ds')->(H u=some (.tup [.str "fault",.ref l,.ref b]))->(H l=some (.lst (gs.map V.ref)))->(k_ K H gs s)->(aW K H b (sg.map V.str))->(∀x∈s,x∈aR J0 J1)->(sg∈(aR J0 J1).drop J0.length)->(faceOf rooms ds s≠[])->(behF rooms ds (faceOf rooms ds s) sg=[])->(behF rooms' ds' (faceOf rooms' ds' s) sg≠[])->(∀H',ac H H'->Q (.bl true) H')->o6 K vs H Q E
theorem FN{K:Za}{A:List V}{H:Hp}{Q:VK}{E:XK}(h:o6 K A H Q E):tN K (t9 K) (mx K) oY (bJ Q) (start uV A) H:=by
 obtain⟨t,l1,l2,l3,l4,t',m1,m2,m3,m4,u,l,b,ts,I,gs,s,B,j,C,rooms,a,ds,n,rfl,T,m,T',m',v,J,D,hb,as,aC,hf,aF,a0,k⟩:=h;have z3:=m.rooms26;have z4:=m'.rooms26;refine⟨_,rfl,.ref u,"tuple",_,true,rfl,.inl (j7.tup v),rfl,_,rfl,bH ?_⟩;refine⟨_,rfl,.inl ⟨u,_,rfl,.inr (be.of v),rfl,_,rfl,?_⟩⟩;refine ED (P:=False) (by simp) (fun z=>z.elim) fun _=>?_;refine⟨_,rfl,u,_,1,_,rfl,rfl,be.of v,rfl,.ref l,"list",_,true,rfl,.inl (j7.lst J),rfl,_,rfl,bH ?_⟩;refine⟨_,rfl,t,l1,l2,l3,l4,ts,j,C,rooms,ds,rfl,T,m,fun sl us H1 L M _ S1=>?_⟩;refine⟨_,rfl,u,_,2,_,rfl,rfl,be.of (S1 _ _ v),rfl,_,rfl,_,rfl,.inr (.inl ⟨t,_,0,_,rfl,rfl,be.of (S1 _ _ T.t),rfl,.inl ⟨l1,_,rfl,.inl (ay.of (S1 _ _ T.a1)),_,rfl,sl,_,rfl,ay.of L,fun p hp=>?_⟩⟩)⟩;rw[aj,Cb,<-sV];have N:ac H1 (upd H1 p (.lst ((us.drop j.length).map V.ref))):=ac.new hp;have p2:upd H1 p (.lst ((us.drop j.length).map V.ref)) p=some (.lst ((us.drop j.length).map V.ref)):=aa;generalize upd H1 p (.lst ((us.drop j.length).map V.ref))=H2 at N p2 ⊢;have o:=S1.trans N;refine⟨gP B,((aR j C).drop j.length).map gP,p,_,aM (aW.sq (aW.kt (ac.kt o) hb)),rfl,.inl (ay.of p2),j8.dIns (Paired.dropP j.length (j8.kt (ac.kt N) M)),Fe _,bB (n5 _) (by decide),_,rfl,?_⟩;rw[zzr1 (av.2 ⟨B,aC,rfl⟩)];refine bH ?_;refine⟨_,rfl,u,_,1,_,rfl,rfl,be.of (o _ _ v),rfl,l,rfl,⟨_,ay.of (o _ _ J)⟩,fun f a4=>?_⟩;refine cH (xs:=gs.map V.ref) (fun i A H'=>A=[]/\ac H2 H'/\H' f=some (.lst A)) ⟨rfl,ac.new a4,aa⟩ (fun i A H' _ ⟨_,S,h'⟩=>⟨h',ay.of (S _ _ (o _ _ J))⟩) ?_ ?_
 ·rintro A H3 ⟨rfl,G,h3⟩;refine⟨(by show 0<=ak;decide),fun e he=>?_⟩;have S4:ac H3 (upd H3 e (.lst [])):=ac.new he;refine⟨.s [],.s [],?_,?_,by decide,by decide,_,rfl,?_⟩
  ·unfold lc;exact⟨f,_,rfl,ay.of (S4 _ _ h3),by unfold DIns;rfl⟩
  ·unfold lc;exact⟨e,_,rfl,ay.of aa,by unfold DIns;rfl⟩
  rw[zzr1 rfl];refine bH ?_;generalize upd H3 e (.lst [])=H4 at S4 ⊢;have q:=(o.trans G).trans S4;have bi:aW K H4 b (B.map V.str):=aW.kt (ac.kt q) hb;refine⟨_,rfl,_,rfl,u,_,1,_,rfl,rfl,be.of (q _ _ v),rfl,t,l,l1,l2,l3,l4,ts,gs,s,j,C,rooms,ds,rfl,T.same q,m,q _ _ J,k_.same q D,fun ft H5 O S5=>?_⟩;refine⟨_,rfl,(by show 0<=ak;decide),fun e1 U=>⟨gP (faceOf rooms ds s),gP [],aM (be.of (kp O U)),aM (be.of aa),Fe _,Fe _,_,rfl,?_⟩⟩;rw[eP,zzr0 hf];have S6:ac H5 (upd H5 e1 (.tup [])):=ac.new U;generalize upd H5 e1 (.tup [])=H6 at S6 ⊢;refine bH ?_;have w:=(q.trans S5).trans S6;refine⟨_,rfl,_,rfl,_,rfl,u,_,2,_,rfl,rfl,be.of (w _ _ v),rfl,t,ft,b,l1,l2,l3,l4,ts,j,C,rooms,faceOf rooms ds s,B,ds,rfl,T.same w,m,S6 _ _ O,aW.sq (aW.kt (ac.kt w) hb),(j3 (ds:=ds) (show rooms.length<=1000 by omega) s).2,fun f2 H7 a5 S7=>?_⟩;refine⟨(by show 0<=ak;decide),fun e2 Y=>⟨gP (behF rooms ds (faceOf rooms ds s) B),gP [],aM (be.of (kp a5 Y)),aM (be.of aa),Fe _,Fe _,_,rfl,?_⟩⟩;rw[eP,zzr1 aF];have S8:ac H7 (upd H7 e2 (.tup [])):=ac.new Y;generalize upd H7 e2 (.tup [])=H8 at S8 ⊢;refine bH ?_;have r:=(w.trans S7).trans S8;refine⟨_,rfl,_,rfl,_,rfl,u,_,1,_,rfl,rfl,be.of (r _ _ v),rfl,t',l,m1,m2,m3,m4,I,gs,s,j,C,a,n,rfl,T'.same r,m',r _ _ J,k_.same r D,fun a6 H9 al S9=>?_⟩;have x:=r.trans S9;refine⟨_,rfl,u,_,2,_,rfl,rfl,be.of (x _ _ v),rfl,t',a6,b,m1,m2,m3,m4,I,j,C,a,faceOf a n s,B,n,rfl,T'.same x,m',al,aW.sq (aW.kt (ac.kt x) hb),(j3 (ds:=n) (show a.length<=1000 by omega) s).2,fun f3 Ha a7 Sa=>?_⟩;refine⟨(by show 0<=ak;decide),fun e3 an=>⟨gP (behF a n (faceOf a n s) B),gP [],aM (be.of (kp a7 an)),aM (be.of aa),Fe _,Fe _,?_⟩⟩;rw[eP,zzr0 a0];exact k _ ((x.trans Sa).trans (ac.new an))
 ·rintro i A H3 y hy hi ⟨rfl,G,h3⟩;obtain⟨g,a8,rfl⟩:=cM hy;obtain⟨sx,a9,bf⟩:=Paired.getL D a8;refine⟨_,rfl,_,rfl,gP sx,(aR j C).map gP,sl,_,aM (aW.sq (aW.kt (ac.kt (o.trans G)) bf)),rfl,.inl (ay.of ((N.trans G) _ _ L)),j8.dIns (j8.kt (ac.kt (N.trans G)) M),Fe _,bB (n5 _) (by decide),_,rfl,?_⟩;rw[zzr1 (av.2 ⟨sx,as sx (aY a9),rfl⟩)];exact bH (pA hi ⟨rfl,G,h3⟩)
theorem zJ{e f:Zb}{g:Sg}(h:g∈aR e f)(i:¬yn g):g∈(aR e f).drop e.length:=by
 unfold aR at h ⊢;rw[cI,List.drop_left' (by rw[aj])];rw[cI]at h;rcases aX.1 h with z|z
 ·obtain⟨a,_,rfl⟩:=av.1 z;exact absurd rfl i
 ·exact z
theorem Ep{J0 J1:Zb}{g:Sg}(h:g∈aR J0 J1):g≠am:=by
 unfold aR at h;rcases aX.1 h with z|z
 ·rcases aX.1 z with z|z
  ·obtain⟨a,_,rfl⟩:=av.1 z;exact fun e=>by injection e with e;revert e;decide
  ·obtain⟨a,_,rfl⟩:=av.1 z;exact fun e=>by injection e with e;revert e;decide
 ·rw[bO.1 z];decide
inductive sp_law21(K:Za)(vs:List V)(H:Hp)(Q:VK)(E:XK):Prop
 |mk (a:Addr) (ns:List Int):(vs=[.ref a])->(ay K H a (ns.map V.int))->(ns.length<=63)->(∀H',Q (.bl true) H')->sp_law21 K vs H Q E
theorem FK{K:Za}{C:Addr}{vs:List V}{H:Hp}{Q:VK}{E:XK}(h:sp_law21 K vs H Q E):Ho K (kr K) (oX K C) (o6 K) (i4 K C) (kB C) sv o5 (sr K) (bJ Q) (start DC vs) H:=by
 obtain⟨a,ns,rfl,hs,hn,k⟩:=h;refine⟨_,rfl,a,ns,rfl,hs,hn,fun p c H1 _ a0 S1=>?_⟩;refine⟨_,rfl,p,c,4,0,rfl,a0,by decide,by decide,by decide,by decide,fun t O U l3 l4 ts J0 J1 rooms ds H2 T m zr zd al bn=>?_⟩;have zr:rooms.length<=4:=zr;refine⟨_,rfl,_,rfl,p,c,t,O,U,l3,l4,ts,J0,J1,rooms,ds,5,rfl,al,T,m,by omega,by omega,by omega,fun t' I J L f i H3 T' m' tk len _ bp ex3=>?_⟩;have T3:=T.ex al ex3;refine⟨_,rfl,t',O,U,I,J,L,J0,J1,f,i,rfl,T',m',fun y H4 N4 S4=>?_⟩;refine⟨_,rfl,t,O,U,l3,l4,ts,J0,J1,rooms,ds,rfl,T3.same S4,m,fun x H5 M5 S5=>?_⟩;have N5:=N4.same S5;have an:=S4.trans S5;refine⟨_,rfl,Gs M5 N5 tk zr (by omega) (fun lf u l ps M o hl _ _ S6=>?_) (fun s g lf u l b Y M o hl hg hb _ S6=>?_)⟩
 ·refine⟨_,rfl,.ref u,"tuple",_,true,rfl,.inl (j7.tup o),rfl,_,rfl,bH ?_⟩;refine⟨_,rfl,(by show 0<=ak;decide),fun e he=>⟨u,e,_,_,rfl,rfl,be.of (kp o he),be.of aa,_,rfl,bH ?_⟩⟩;have n:ac M (upd M e (.tup [])):=ac.new he;generalize upd M e (.tup [])=H7 at n ⊢;refine⟨_,rfl,u,_,0,_,rfl,rfl,be.of (n _ _ o),bc (j:=0) rfl,rfl,_,rfl,?_⟩;refine iy (fun _=>?_) fun z=>absurd (zzr1 rfl) z;refine⟨_,rfl,.inl ⟨u,_,rfl,.inr (be.of (n _ _ o)),rfl,_,rfl,?_⟩⟩;refine iy (fun _=>?_) fun z=>absurd (zzr1 rfl) z;exact⟨_,rfl,u,_,1,_,rfl,rfl,be.of (n _ _ o),bc (j:=1) rfl,.ref l,"list",_,true,rfl,.inl (j7.lst (n _ _ hl)),rfl,k _⟩
 obtain⟨⟨a1,a2,a3,a4,a5,a6⟩,_⟩:=Aj m m' lf;have zs:s.length<=1100:=bB ((Af (A:=behF rooms ds) (B:=behF f i) (ss:=aR J0 J1) (k:=(closF rooms ds (rooms.take 1),closF f i (f.take 1))) 300).2 _ lf) (by decide);have zg:=Paired.length hg;refine⟨_,rfl,.ref u,"tuple",_,true,rfl,.inl (j7.tup o),rfl,_,rfl,bH ?_⟩;refine⟨_,rfl,(by show 0<=ak;decide),fun e he=>⟨u,e,_,_,rfl,rfl,be.of (kp o he),be.of aa,_,rfl,bH ?_⟩⟩;have n:ac M (upd M e (.tup [])):=ac.new he;generalize upd M e (.tup [])=H7 at n ⊢;have a7:=S6.trans n;have as:=an.trans a7;have nk:("fault":Str)≠"keeps":=by decide
 refine⟨_,rfl,u,_,0,_,rfl,rfl,be.of (n _ _ o),bc (j:=0) rfl,rfl,_,rfl,?_⟩;refine iy (fun z=>absurd z (by simp[nk])) fun _=>?_;refine⟨_,rfl,u,_,0,_,rfl,rfl,be.of (n _ _ o),bc (j:=0) rfl,rfl,_,rfl,?_⟩;refine iy (fun z=>by simp at z) fun _=>?_;have aC:behF f i (faceOf f i s) g≠[]:=a6;refine⟨_,rfl,_,rfl,_,rfl,t,O,U,l3,l4,t',O,U,I,J,u,l,b,ts,L,Y,s,g,J0,J1,rooms,f,ds,i,rfl,T3.same as,m,T'.same as,m',n _ _ o,n _ _ hl,k_.same n hg,aW.kt (ac.kt n) hb,a1,zJ a2 a4,a3,a5,aC,fun H8 S8=>⟨_,rfl,bH ?_⟩⟩;have v:=n.trans S8;refine⟨_,rfl,u,_,1,_,rfl,rfl,be.of (v _ _ o),bc (j:=1) rfl,_,rfl,u,_,2,_,rfl,rfl,be.of (v _ _ o),bc (j:=2) rfl,(by show 1<=ak;decide),fun p1 G=>⟨l,p1,_,_,rfl,rfl,kp (v _ _ hl) G,aa,?_,fun q hq=>?_⟩⟩
 ·rw[aj,zg,ga];show s.length+1<=_;omega
 have S9:ac H8 (upd (upd H8 p1 (.lst [.ref b])) q (.lst (Y.map V.ref++[.ref b]))):=(ac.new G).trans (ac.new hq);have q9:upd (upd H8 p1 (.lst [.ref b])) q (.lst (Y.map V.ref++[.ref b])) q=some (.lst ((Y++[b]).map V.ref)):=by rw[aa,ap];rfl
 generalize upd (upd H8 p1 (.lst [.ref b])) q (.lst (Y.map V.ref++[.ref b]))=H9 at S9 q9 ⊢;have D:=v.trans S9;have a8:=(an.trans S6).trans D;have aF:fM K H9 q (s++[g]):=⟨Y++[b],q9,cr (k_.same D hg) (aW.kt (ac.kt D) hb)⟩;have fs:faceOf f i (s++[g])≠[]:=by rw[lY];exact aC
 refine⟨_,rfl,_,rfl,_,rfl,_,rfl,y,q,s++[g],J0,J1,f,i,rfl,N5.same (S6.trans D),aF,by rw[au];show s.length+1<=1101;omega,fun sg a9=>Ep (J0:=J0) (J1:=J1) (by rcases aX.1 a9 with z|z;exact a1 _ z;rw[bO.1 z];exact a2),fun z=>absurd z fs,fun _ wl us w b1 bf _ bi gw hw zw N=>?_⟩;refine⟨t',q,wl,O,U,I,J,L,us,w,J0,J1,f,i,rfl,T'.same (a8.trans N),m',?_,bf,bi,gw,zw,fun H' _=>k H'⟩;rw[hw];obtain⟨bl,h1,h2⟩:=aF;exact⟨bl,N _ _ h1,Paired.mapP h2 fun _ _ r=>aW.kt (ac.kt N) r⟩
theorem vB{K:Za}{C J:Addr}(u:∀H,be K H J (aT.map V.str)){v:Sp}{L:List V}{H:Hp}{Q:VK}{E:XK}(h:o8 C L H Q E):
  m9 K (sp_with_still C) C (fR K C) J v (bJ Q) (start ny L) H:=by
 obtain⟨x,t,s,face,f,N,O,rooms,e,rfl,M,T,U,z,hz,k⟩:=h;have A:∀d∈e,d.b∈rooms:=fun d hd=>(M.ok.good d hd).b;have z4:=M.ok.few;refine⟨_,rfl,gP f,gP aT,aM (be.of U),aM (u _),by rw[b0];decide,by rw[b0];decide,_,rfl,?_⟩;rw[eP,zzr0 z];refine bH ?_;refine⟨(by show 0<=ak;decide),fun g B=>?_⟩;refine⟨_,rfl,t,rfl,⟨_,be.of (kp T B)⟩,?_⟩
 let D:Nat->L2.St->Hp->Prop:=fun i σ m=>∃G:Option V,σ=[some (.ref x),some (.ref t),some (.ref s),some (.ref g),G]/\m g=some (.lst ((cN e f (face.take i)).map V.str))/\ac H m
 refine Dp (xs:=face.map V.str) D
  ⟨_,rfl,aa,ac.new B⟩ (fun i σ m _ ⟨_,_,_,S⟩=>be.of (S _ _ T)) ?_ ?_
 ·rintro i y σ H1 hi ⟨G,rfl,a,j⟩;obtain⟨r,hr,rfl⟩:=bv hi;have M1:=M.same j;obtain⟨dx,fs,o1,o2,o3,o4,lv,qu,al,sl,ts,an,as,aC,g1,a1,a2,a3,a4,_⟩:=M1.at_;refine⟨_,rfl,.inl ⟨rfl,_,ay.of a⟩,_,rfl,x,dx,fs,rfl,g1,a2,_,rfl,_,rfl,x,s,r,f,N,O,rooms,e,rfl,M1,be.of (j _ _ U),fun l H2 hl fr p=>?_⟩;have I:=p _ _ a;have n:((cN e f (face.take i)).map V.str).length+((aJ e (r,f)).map V.str).length<=ak:=by
   rw[aj,aj];have Y:=pI e f (face.take i);have h2:=rJ e (r,f);have h3:(face.take i).length * e.length<=1000 * 1000:=sN (by rw[aN];omega) z4;have:(1001000:Nat)<=ak:=by decide
   omega
  refine⟨g,l,_,_,rfl,rfl,I,hl,n,_,rfl,?_,?_⟩
  ·rw[aa,vG hr,ap]
  ·intro b o q;rw[ag (ae q B)];exact p _ _ (j _ _ q)
 ·rintro σ H1 ⟨G,rfl,a,j⟩;rw[aj,bb]at a;refine⟨_,rfl,_,rfl,x,g,cN e f face,N,O,rooms,e,rfl,M.same j,a,fun w hw=>?_,fun t' F m Y h2 p=>k t' F m Y h2 (j.trans p)⟩;obtain⟨r,_,h⟩:=iK.mp hw;exact A _ h
theorem FO{K:Za}{C D:Addr}(g:∀H,be K H D (aT.map V.str)){a:List V}{H:Hp}{Q:VK}{E:XK}(h:sy K C a H Q E):
  m9 K (sp_with_still C) C (fR K C) D (fW C) (bJ Q) (start ny a) H:=by
 obtain⟨x,t,s,face,G,I,J,rooms,n,rfl,M,u,U,v,j,Y,k⟩:=h;by_cases p:G=aT;rotate_left
 ·refine vB (E:=E) g ⟨x,t,s,face,G,I,J,rooms,n,rfl,M,u,v.resolve_left p,p,Y,fun w F e h1 hF S=>k w e ?_ S⟩;rw[h1,uL hF];unfold behF;rw[if_neg p]
 subst p;refine⟨_,rfl,gP aT,gP aT,aM U,aM (g _),by rw[b0];decide,by rw[b0];decide,_,rfl,?_⟩;rw[zzr1 rfl];refine cT ?_;refine⟨_,rfl,t,rfl,⟨_,be.of u⟩,fun f L=>?_⟩
 let y:Nat->List V->Hp->Prop:=fun i a e=>a=((face.take i).filter fun r=>decide (r∈rooms.filter (cX n))).map V.str/\ac H e/\e f=some (.lst a)
 refine Aw (xs:=face.map V.str) y ⟨rfl,ac.new L,aa⟩ (fun i a e _ ⟨_,S,h'⟩=>⟨h',be.of (S _ _ u)⟩) ?_ ?_
 ·rintro a e ⟨rfl,S,l⟩;rw[aj,bb]at l;refine⟨f,_,rfl,.inl ⟨ay.of l,fun w z=>k w _ ?_ (S.trans (ac.new z))⟩⟩;rw[aa,FW j];unfold behF;rw[if_pos rfl]
 ·rintro i a e x' A N ⟨rfl,S,l⟩;obtain⟨r,O,rfl⟩:=bv A;have T:=M.same S;obtain⟨dx,fs,o1,o2,o3,o4,lv,qu,al,sl,ts,an,as,aC,g1,a1,_⟩:=T.at_;refine gN ?_;refine⟨_,rfl,x,dx,fs,rfl,g1,a1,_,rfl,x,r,I,J,rooms,n,rfl,T,_,rfl,?_⟩;have m:(((face.take i).filter fun r=>decide (r∈rooms.filter (cX n))).map V.str).length<ak:=by
   rw[aj];refine ar (bB (eG _ _) ?_);rw[aN];omega
  refine iy (fun B=>?_) (fun B=>?_)
  ·refine⟨_,rfl,l,m,pA N ⟨?_,?_,aa⟩⟩
   ·rw[cR O,if_pos B,ap];rfl
   ·intro b o q;rw[ag (ae q L)];exact S _ _ q
  ·refine pA N ⟨?_,S,l⟩;rw[cR O,if_neg B,dh]
theorem DY{K:Za}{C:Addr}{f:List V}{H:Hp}{Q:VK}{E:XK}(h:jR C f H Q E):Hn K C (h_ C) (fR K C) (bJ Q) (start Ir f) H:=by
 obtain⟨x,r,a,J0,J1,rooms,p,rfl,M,hr,k⟩:=h;refine⟨_,rfl,(by show 1<=ak;decide),fun l t=>?_⟩;have u:ac H (upd H l (.lst [.str r])):=ac.new t;have e1:upd H l (.lst [.str r]) l=some (.lst [.str r]):=aa;generalize upd H l (.lst [.str r])=H1 at u e1 ⊢;have M1:=M.same u;obtain⟨v,fs,o1,o2,o3,o4,lv,qu,z,sl,ts,A,B,D,G,a1,a2,a3,a4,_⟩:=id M1.at_;refine⟨_,rfl,x,v,fs,rfl,G,a3,_,rfl,x,r,J0,J1,rooms,p,rfl,M1,hr,fun l2 L I e2 nd hL _ S2=>?_⟩;have J:∀w∈L,w∈rooms:=fun w N=>((hL w).mp N).in_ fun d hd=>(M.ok.good d hd).b;have zL:=jc nd J;have z3:=M.ok.rooms26;refine⟨l,l2,_,_,rfl,rfl,S2 _ _ e1,e2,by rw[aj];show 1+L.length<=ak;exact eK (ar (by omega)),fun m O=>?_⟩;have eq:([.str r]++L.map V.str:List V)=(r::L).map V.str:=rfl;rw[eq];have T:ac H (upd I m (.lst ((r::L).map V.str))):=(u.trans S2).trans (ac.new O);have U:upd I m (.lst ((r::L).map V.str)) m=some (.lst ((r::L).map V.str)):=aa;generalize upd I m (.lst ((r::L).map V.str))=H3 at T U ⊢;refine⟨m,rfl,⟨_,ay.of U⟩,fun q hq=>?_⟩
 let Y:Nat->List V->Hp->Prop:=fun i f j=>f=(((r::L).take i).map fun h=>decide ((0:Int)<(aJ p (h,dA a)).length)).map V.bl/\ac H3 j/\j q=some (.lst f)
 refine cH (xs:=(r::L).map V.str) Y ⟨rfl,ac.new hq,aa⟩ (fun i f j _ ⟨_,S,h⟩=>⟨h,ay.of (S _ _ U)⟩) ?_ ?_
 ·rintro f j ⟨rfl,S,h⟩;rw[aj,bb]at h;refine⟨q,_,rfl,ay.of h,?_⟩;rw[DO hL];exact k j (T.trans S)
 ·rintro i f j y hy hi ⟨rfl,S,h⟩;obtain⟨w,N,rfl⟩:=bv hy;refine gN (u7 ?_);have M':=M.same (T.trans S);obtain⟨v,fs,o1,o2,o3,o4,lv,qu,z,sl,ts,A,B,D,G,a1,a2,a3,a4,_⟩:=id M'.at_;refine⟨_,rfl,x,v,fs,rfl,G,a2,_,rfl,_,rfl,(by show 2<=ak;decide),fun s hs=>?_⟩;have S4:ac j (upd j s (.tup ((dA a).map V.str))):=ac.new hs;refine⟨x,s,w,dA a,J0,J1,rooms,p,rfl,M'.same S4,be.of aa,fun g H5 hg _ S5=>?_⟩;have n:=S4.trans S5;refine .inl ⟨g,_,rfl,.inl (ay.of hg),_,_,rfl,rfl,n _ _ h,?_,?_⟩
  ·rw[aj,aj,aN];exact ar (by rw[fo];omega)
  refine pA hi ⟨?_,fun b o e=>?_,aa⟩
  ·rw[take_snoc N,ap,ap];show _++[V.bl (decide ((0:Int)<(((aJ p (w,dA a)).map V.str).length:Nat)))]=_;rw[aj];rfl
  ·rw[ag (ae e hq)];exact n _ _ (S _ _ e)
def fD(i:Nat):Stmt:=PySem.Challenge.pw_mumtrial_k21_a_fault_is_one.main.body.getD i (.Pass ⟨0,0,0,0⟩)
local macro_rules | `(tactic| walk_at "s")=>`(tactic| exact⟨rfl,rfl,rfl,by decide +kernel,rfl,by decide +kernel,by decide +kernel⟩)
local macro_rules | `(tactic| walk_at "l")=>`(tactic| (intro _ _ _ _ h;first|exact len_h h|exact len_g h|(cases h;subst_vars;rfl)|(obtain⟨_,_,h,_⟩:=h;subst h;rfl)|((repeat obtain⟨_,h⟩:=h);subst_vars;rfl)))
theorem zzlS{e:List Value}{n:Nat}(h:e.length=n+1):∃ a t,e=a::t∧t.length=n:=by
  cases e with
  |nil=>cases h
  |cons a t=>exact⟨a,t,rfl,Nat.succ.inj h⟩
local macro_rules | `(tactic| walk_at "b")=>`(tactic| (intro _ _ _ _ _ _ us hl;(repeat (have h:=zzlS hl;clear hl;obtain⟨_,_,e,hl⟩:=h;subst e));cases List.eq_nil_of_length_eq_zero hl;rfl))
def Kf(K:Za)(x qual:Str)(st:Stmt)(f:Addr):Prop:=∃(oc:Value) (od an:Option Addr) (sl:Array (Option Value)) (kV dc pm cd ct:Value),
 K.lookup f=some ⟨oc,od,.func (i0 x qual (iN st) (gB st) (ck st) .none kV dc pm an cd ct),sl⟩/\nI K cd qual=true/\iV K (.ref f)=true
theorem GH{K:Za}{x a:Str}{st:Stmt}{f:Addr}{g:Value}{h i:Option Addr}{j:Array (Option Value)}{kV m n e o:Value}(l:K.lookup f=some ⟨g,h,.func (i0 x a (iN st) (gB st) (ck st) .none kV m n i e o),j⟩)
  (c:nI K e a=true) (k:iV K (.ref f)=true):Kf K x a st f:=⟨g,h,i,j,kV,m,n,e,o,l,c,k⟩
def hW(K:Za)(x:Str)(st:Stmt):Prop:=∃f,cU K cy x=some (some (.ref f))/\Kf K x x st f
theorem fnG_mk{K:Za}{x:Str}{st:Stmt}{f:Addr}{g:Value}{h i:Option Addr}{j:Array (Option Value)}{kV m n e o:Value}(a:cU K cy x=some (some (.ref f)))(l:K.lookup f=some ⟨g,h,.func (i0 x x (iN st) (gB st) (ck st) .none kV m n i e o),j⟩)
  (c:nI K e x=true) (k:iV K (.ref f)=true):hW K x st:=⟨f,a,GH l c k⟩
def DE(K:Za)(C:Addr)(m qual:Str)(st:Stmt):Prop:=∃f,dE K (.ref C) m=some (some (.ref f))/\yS K (.ref f)=true/\Kf K m qual st f
theorem fnM_mk{K:Za}{C:Addr}{m e:Str}{st:Stmt}{f:Addr}{h:Value}{j n:Option Addr}{o:Array (Option Value)}{kV p q g r:Value}(a:dE K (.ref C) m=some (some (.ref f)))(i:yS K (.ref f)=true)
  (l:K.lookup f=some ⟨h,j,.func (i0 m e (iN st) (gB st) (ck st) .none kV p q n g r),o⟩) (c:nI K g e=true) (k:iV K (.ref f)=true):DE K C m e st:=⟨f,a,i,GH l c k⟩
theorem Kf.fun_{K:Za}{x a:Str}{st:Stmt}{f:Addr}(T:Kf K x a st f):∃e,JI K x a st f e:=by
 obtain⟨g,h,i,j,kV,m,n,o,p,l,c,k⟩:=T;exact⟨_,GD (st:=st) l c k⟩
def Jx(K:Za)(a:Addr)(ws:Zb):Prop:=∀H,be K H a (ws.map V.str)
theorem CT{K:Za}{a:Addr}{f:Zb}{o:Obj}{e:Array Value}{n:Nat}(l:K.lookup a=some o)(c:o.cls=.type "tuple")(d:o.data=.seq e n)(z:e.size<=ak)(v:bg (f.map V.str) e.toList):Jx K a f :=
 fun _=>.inr ⟨o,e,n,l,c,d,z,v⟩
section
variable{P:bV}{w:World}{K:Za}{mg:Str->Option Value}{base h:Heap}{C:Addr}{x qual:Str}{st:Stmt}{N ps:Zb}{k:Nat}{sp:Sp}
abbrev G7(ps:Zb)(sp:Sp):Prop:=∀vs H Q E,sp vs H Q E->vs.length=ps.length
abbrev BodyOk(CX:Fg)(P:bV)(w:World)(K:Za)(mg:Str->Option Value)(base:Heap)(qual:Str)(st:Stmt)(N:Zb)(k:Nat)(sp:Sp)(nox:Cx->Cx):Prop:=N.Nodup->∀(f:Addr) (cdv:Value) (A:Around) (outer:List Env) (s:Shared) (H:Hp) (vs:List V) (Q:VK) (E:XK),fh k (A.deeper (envOfC qual (ck st) s.heap.objs.size f cdv))->(A.deeper (envOfC qual (ck st) s.heap.objs.size f cdv)).units+16<cLine->sp vs H Q E ->
 ∃t,AR (nox (Ca CX P w K mg base N qual (ck st) f cdv A outer s H E)) (gB st) t/\t (bJ Q) (start N vs) H
abbrev Cz(x qual:Str)(st:Stmt)(ps:Zb):Prop:=∀(kV doc pm:Value) (an:Option Addr) (cdv ct:Value) (us:Zf),us.length=ps.length->bindArgs (i0 x qual (iN st) (gB st) (ck st) .none kV doc pm an cdv ct) ⟨us,[]⟩=pure (ps.zip us)
theorem dG(X:K.In h)(G:h.Ns cy mg)(T:hW K x st)(b:BodyOk CX0 P w K mg base x st N k sp Cx.nox)(i:Cz x x st ps)(S:kL N ps (ck st):=by walk_at "s")(l:G7 ps sp:=by walk_at "l"):hZ P w K mg base x ps (k+1) sp:=by
 obtain⟨f,a,t⟩:=T;obtain⟨j,F⟩:=t.fun_;exact⟨f,j,F.ok S l fun e A outer s H m Q E g h=>b S.nd f e A outer s H m Q E g (Dn g) h,io X G a,F.kp,F.binds i⟩
theorem dM(j:DF K C)(T:DE K C x qual st)(b:BodyOk CX0 P w K mg base qual st N k sp Cx.nox)(m:Cz x qual st ps)(S:kL N ps (ck st):=by walk_at "s")(l:G7 ps sp:=by walk_at "l"):DD P w K mg base C x ps (k+1) sp:=by
 obtain⟨f,a,i,t⟩:=T;obtain⟨n,F⟩:=t.fun_;exact⟨f,n,F.ok S l fun e A outer s H o Q E g h=>b S.nd f e A outer s H o Q E g (Dn g) h,j,⟨a,i,F.kp⟩,F.binds m⟩
theorem dN{y:Str}(j:mg y=some (.ref C))(m:sK K C=true)(n:iV K (.ref C)=true)(T:DE K C "__init__" qual st)(b:BodyOk CX0 P w K mg base qual st N k sp Cx.nox)(o:Cz "__init__" qual st ps)(S:kL N ps (ck st):=by walk_at "s")(l:G7 ps sp:=by walk_at "l"):Kt P w K mg base y C ps (k+1) sp:=by
 obtain⟨f,a,i,t⟩:=T;obtain⟨p,F⟩:=t.fun_;exact⟨f,p,F.ok S l fun e A outer s H q Q E g h=>b S.nd f e A outer s H q Q E g (Dn g) h,j,⟨m,a,i,n⟩,F.binds o⟩
end
structure Zs(mg:Str->Option Value):Prop where
 all:mg "all"=none
 any:mg "any"=none
 dict:mg "dict"=none
 enumerate:mg "enumerate"=none
 isinstance:mg "isinstance"=none
 len:mg "len"=none
 list:mg "list"=none
 max:mg "max"=none
 range:mg "range"=none
 tuple:mg "tuple"=none
 zip:mg "zip"=none
structure Cs(K:Za)(mg:Str->Option Value)(C Cf a_STILL a_HUSH:Addr):Prop where
 LETTERS:Gc mg "LETTERS" (.str "abcdefghijklmnopqrstuvwxyz")
 LONGEST_NAME:Gc mg "LONGEST_NAME" (.int 8)
 MOST_WORDS:Gc mg "MOST_WORDS" (.int 4)
 MOST_ROOMS:Gc mg "MOST_ROOMS" (.int 150)
 MOST_DOORS:Gc mg "MOST_DOORS" (.int 2000)
 MOST_FACES:Gc mg "MOST_FACES" (.int 400)
 STILL:Gc mg "STILL" (.ref a_STILL)
 HUSH:Gc mg "HUSH" (.ref a_HUSH)
 still:Jx K a_STILL am
 hush:Jx K a_HUSH aT
 mc:MC K C
 cm:mg "Machine"=some (.ref C)
 makes:sK K C=true
 kc:iV K (.ref C)=true
 fc:FC K Cf
 cmf:mg "FaceMap"=some (.ref Cf)
 makesf:sK K Cf=true
 kcf:iV K (.ref Cf)=true
structure Ts(K:Za)(C Cf:Addr):Prop where
 f_law_spread:hW K "_law_spread" (fD 52)
 f_law_open:hW K "_law_open" (fD 53)
 f_law_anew:hW K "_law_anew" (fD 54)
 f_law_take:hW K "_law_take" (fD 55)
 f_law_names:hW K "_law_names" (fD 56)
 f_law_put:hW K "_law_put" (fD 57)
 f_law_draw_doors:hW K "_law_draw_doors" (fD 58)
 f_law_model:hW K "_law_model" (fD 59)
 f_is_name:hW K "is_name" (fD 23)
 f_as_keys:hW K "as_keys" (fD 24)
 f_first_wrong_name:hW K "first_wrong_name" (fD 25)
 f_door_signs:hW K "door_signs" (fD 26)
 f_first_wrong_door:hW K "first_wrong_door" (fD 27)
 f_goals_by_start_and_sign:hW K "goals_by_start_and_sign" (fD 28)
 f_led_by_still:hW K "led_by_still" (fD 29)
 f_first_led_round:hW K "first_led_round" (fD 30)
 f_need_none:hW K "need_none" (fD 31)
 f_need_parts:hW K "need_parts" (fD 32)
 f_doors_by_start:hW K "doors_by_start" (fD 33)
 f_has_asks_alone:hW K "has_asks_alone" (fD 34)
 f_Machine___init__:DE K C "__init__" "Machine.__init__" (gz (fD 35) 0)
 f_law_machine:hW K "_law_machine" (fD 65)
 f_Machine_rooms:DE K C "rooms" "Machine.rooms" (gz (fD 35) 3)
 f_Machine_led_from:DE K C "led_from" "Machine.led_from" (gz (fD 35) 8)
 f_with_still:hW K "with_still" (fD 9)
 f_Machine_goals:DE K C "goals" "Machine.goals" (gz (fD 35) 7)
 f_Machine_is_quiet:DE K C "is_quiet" "Machine.is_quiet" (gz (fD 35) 5)
 f_law_still_on:hW K "_law_still_on" (fD 60)
 f_law_on:hW K "_law_on" (fD 66)
 f_law_is_quiet:hW K "_law_is_quiet" (fD 67)
 f_law_behind:hW K "_law_behind" (fD 68)
 f_law_signs:hW K "_law_signs" (fD 69)
 f_Machine_asks:DE K C "asks" "Machine.asks" (gz (fD 35) 1)
 f_Machine_says:DE K C "says" "Machine.says" (gz (fD 35) 2)
 f_first_face:hW K "first_face" (fD 10)
 f_face_behind:hW K "face_behind" (fD 11)
 f_signs_in_order:hW K "signs_in_order" (fD 8)
 f_steps_at:hW K "steps_at" (fD 12)
 f_FaceMap_number_at:DE K Cf "number_at" "FaceMap.number_at" (gz (fD 15) 1)
 f_FaceMap_numbered_steps:DE K Cf "numbered_steps" "FaceMap.numbered_steps" (gz (fD 15) 2)
 f_FaceMap___init__:DE K Cf "__init__" "FaceMap.__init__" (gz (fD 15) 0)
 f_takes:hW K "takes" (fD 38)
 f_need_match:hW K "need_match" (fD 37)
 f_need_all_asks_taken:hW K "need_all_asks_taken" (fD 39)
 f_need_taker:hW K "need_taker" (fD 40)
 f_Machine_doors_from:DE K C "doors_from" "Machine.doors_from" (gz (fD 35) 6)
 f_story_to:hW K "story_to" (fD 41)
 f_least_fault:hW K "least_fault" (fD 42)
 f_rows_needed:hW K "rows_needed" (fD 43)
 f_paper_of:hW K "paper_of" (fD 44)
 f_keeps:hW K "keeps" (fD 45)
 f_law_willing:hW K "_law_willing" (fD 61)
 f_law_turned:hW K "_law_turned" (fD 62)
 f_law_renamed:hW K "_law_renamed" (fD 63)
 f_law_near:hW K "_law_near" (fD 64)
 f_law_face:hW K "_law_face" (fD 70)
 f_law_is_walked:hW K "_law_is_walked" (fD 71)
 f_add_still_steps:hW K "add_still_steps" (fD 47)
 f_steps_by:hW K "steps_by" (fD 48)
 f_steps_along:hW K "steps_along" (fD 49)
 f_walk_of:hW K "walk_of" (fD 50)
 f_law_is_fault:hW K "_law_is_fault" (fD 72)
 f_law21:hW K "law" (fD 73)
section
variable{P:bV}{w:World}{K:Za}{mg:Str->Option Value}{base h:Heap}{C Cf a_STILL a_HUSH:Addr}
section
variable(P:bV)(w:World)(K:Za)(mg:Str->Option Value)(C Cf a_STILL a_HUSH:Addr)
abbrev kR:Prop:=∀base,hZ P w K mg base "_law_spread" ["cell","at"] 1 mw
abbrev u4:Prop:=∀base,hZ P w K mg base "_law_open" ["script"] 1 (sr K)
abbrev kS:Prop:=∀base,hZ P w K mg base "_law_anew" ["pen"] 1 sA
abbrev d6:Prop:=∀base,hZ P w K mg base "_law_take" ["pen","many"] 2 fI
abbrev jx:Prop:=∀base,hZ P w K mg base "_law_names" ["pen","many"] 3 lM
abbrev j9:Prop:=∀base,hZ P w K mg base "_law_put" ["doors","door"] 1 kz
abbrev g6:Prop:=∀base,hZ P w K mg base "_law_draw_doors" ["pen","asks","says","rooms","full"] 3 hJ
abbrev rO:Prop:=∀base,hZ P w K mg base "_law_model" ["pen","most","full"] 4 o5
abbrev q_:Prop:=∀base,hZ P w K mg base "is_name" ["text"] 1 sp_is_name
abbrev j_:Prop:=∀base,hZ P w K mg base "as_keys" ["things"] 1 (sp_as_keys K)
abbrev fT:Prop:=∀base,hZ P w K mg base "first_wrong_name" ["names","most","taken"] 2 (sp_first_wrong_name K)
abbrev kU:Prop:=∀base,hZ P w K mg base "door_signs" ["asks","says"] 1 (sp_door_signs K)
abbrev fU:Prop:=∀base,hZ P w K mg base "first_wrong_door" ["doors","rooms","signs"] 2 (sp_first_wrong_door K)
abbrev db:Prop:=∀base,hZ P w K mg base "goals_by_start_and_sign" ["doors"] 1 o7
abbrev ji:Prop:=∀base,hZ P w K mg base "led_by_still" ["goals","room"] 1 xT
abbrev gH:Prop:=∀base,hZ P w K mg base "first_led_round" ["rooms","led"] 1 sp_first_led_round
abbrev jw:Prop:=∀base,hZ P w K mg base "need_none" ["part","number"] 1 sp_need_none
abbrev kO:Prop:=∀base,hZ P w K mg base "need_parts" ["asks","says","rooms","doors"] 3 sp_need_parts
abbrev g_:Prop:=∀base,hZ P w K mg base "doors_by_start" ["rooms","doors"] 1 sp_doors_by_start
abbrev g8:Prop:=∀base,hZ P w K mg base "has_asks_alone" ["doors"] 1 sp_has_asks_alone
abbrev rc:Prop:=∀base,Kt P w K mg base "Machine" C ["self","asks","says","rooms","doors"] 4 (sw C)
abbrev nz:Prop:=∀base,hZ P w K mg base "_law_machine" ["told"] 6 (kB C)
abbrev cK:Prop:=∀base,DD P w K mg base C "rooms" ["self"] 1 (h9 C)
abbrev d9:Prop:=∀base,DD P w K mg base C "led_from" ["self","room"] 1 (h_ C)
abbrev iP:Prop:=∀base,hZ P w K mg base "with_still" ["M","rooms"] 2 (sp_with_still C)
abbrev de:Prop:=∀base,DD P w K mg base C "goals" ["self","room","sign"] 1 (fR K C)
abbrev c7:Prop:=∀base,DD P w K mg base C "is_quiet" ["self","room"] 1 (fW C)
abbrev eW:Prop:=∀base,hZ P w K mg base "_law_still_on" ["doors","rooms"] 1 (eR K)
abbrev pV:Prop:=∀base,hZ P w K mg base "_law_on" ["told","some"] 2 zI
abbrev gG:Prop:=∀base,hZ P w K mg base "_law_is_quiet" ["told","room"] 1 jS
abbrev iQ:Prop:=∀base,hZ P w K mg base "_law_behind" ["told","face","sign"] 3 (t9 K)
abbrev mn:Prop:=∀base,hZ P w K mg base "_law_signs" ["told"] 1 oY
abbrev eZ:Prop:=∀base,DD P w K mg base C "asks" ["self"] 1 (mz C)
abbrev gJ:Prop:=∀base,DD P w K mg base C "says" ["self"] 1 (oZ C)
abbrev kT:Prop:=∀base,hZ P w K mg base "first_face" ["M"] 3 (eE C)
abbrev jK:Prop:=∀base,hZ P w K mg base "face_behind" ["M","face","sign"] 3 (sy K C)
abbrev gZ:Prop:=∀base,hZ P w K mg base "signs_in_order" ["M"] 2 (xS C a_HUSH)
abbrev oE:Prop:=∀base,hZ P w K mg base "steps_at" ["M","face"] 4 (ky C)
abbrev dD:Prop:=∀base,DD P w K mg base Cf "number_at" ["self","face","story"] 1 (lL K Cf)
abbrev dz:Prop:=∀base,DD P w K mg base Cf "numbered_steps" ["self","number"] 5 (jq K Cf C)
abbrev re:Prop:=∀base,Kt P w K mg base "FaceMap" Cf ["self","M"] 6 (my K Cf C)
abbrev yR:Prop:=∀base,hZ P w K mg base "takes" ["I","room","ask"] 2 (jR C)
abbrev kP:Prop:=∀base,hZ P w K mg base "need_match" ["M","I"] 2 (gk C)
abbrev eJ:Prop:=∀base,hZ P w K mg base "need_all_asks_taken" ["I"] 4 (iH C)
abbrev kN:Prop:=∀base,hZ P w K mg base "need_taker" ["M","I"] 5 (gj C)
abbrev eX:Prop:=∀base,DD P w K mg base C "doors_from" ["self","room"] 1 (hU C)
abbrev oB:Prop:=∀base,hZ P w K mg base "story_to" ["came","place"] 1 (fQ K)
abbrev jH:Prop:=∀base,hZ P w K mg base "least_fault" ["model_steps","machine_steps"] 2 (hE K)
abbrev jG:Prop:=∀base,hZ P w K mg base "rows_needed" ["I","room","face","steps"] 2 (o0 K C)
abbrev oF:Prop:=∀base,hZ P w K mg base "paper_of" ["model","I"] 3 (kA K Cf C)
abbrev DG:Prop:=∀base,hZ P w K mg base "keeps" ["M","I"] 8 (i4 K C)
abbrev jI:Prop:=∀base,hZ P w K mg base "_law_willing" ["pen","told"] 3 kq
abbrev kQ:Prop:=∀base,hZ P w K mg base "_law_turned" ["pen","told"] 3 mv
abbrev jJ:Prop:=∀base,hZ P w K mg base "_law_renamed" ["pen","told"] 4 jp
abbrev u5:Prop:=∀base,hZ P w K mg base "_law_near" ["pen","told","most"] 5 sv
abbrev oG:Prop:=∀base,hZ P w K mg base "_law_face" ["told","story"] 4 (mx K)
abbrev k5:Prop:=∀base,hZ P w K mg base "_law_is_walked" ["told","story","walk"] 2 (kr K)
abbrev gI:Prop:=∀base,hZ P w K mg base "add_still_steps" ["M","steps"] 2 (mC K C)
abbrev oC:Prop:=∀base,hZ P w K mg base "steps_by" ["M","rooms","sign"] 2 (jo K C)
abbrev jF:Prop:=∀base,hZ P w K mg base "steps_along" ["M","story"] 3 (mB K C)
abbrev wM:Prop:=∀base,hZ P w K mg base "walk_of" ["M","story"] 4 (oX K C)
abbrev mq:Prop:=∀base,hZ P w K mg base "_law_is_fault" ["told","some","found"] 5 (o6 K)
end
section
variable(X:K.In h)(G:h.Ns cy mg)(z:Zs mg)(c:Cs K mg C Cf a_STILL a_HUSH)(T:Ts K C Cf)
include X G z c T
theorem vo:kR P w K mg:=fun base=>dG X G T.f_law_spread (fun S _ _ _ _ _ _ _ _ _ a e h=>bK (DZ (K:=K) h) (ab (bo (hC JT (pv 0) (ba Gb ah ah)) (af (ax (pv 0))) aL) (ab (qs 2 S (ba gV (ba dw (ba dw (ba i9 (ba gV (pv 0) ah) ah) (ba i9 (pv 1) ah)) ah) ah)) (ab (qs 3 S (ba gV (ba dw (ba dw (ba i9 (pv 2) (pv 2)) (ba i9 (pv 1) ah)) (ba gV (pv 0) ah)) ah)) (ab (qs 4 S (ba gV (ba dw (ba dw (ba i9 (pv 3) (pv 3)) (ba i9 (pv 2) ah)) ah) ah)) (af (ax (ba dw (ba i9 (ba dw (ba i9 (pv 2) ah) (pv 3)) ah) (pv 4))))))))) (by walk_at "b")
theorem zq:u4 P w K mg:=fun base=>dG X G T.f_law_open (fun S _ _ _ _ _ _ _ _ _ a e h=>bK (Hz h) (ab (qs 1 S (qL rfl z.list (a1 (cY fJ (pv 0) fL (c8 ah))))) (ab (bL bh rfl (pk rfl z.enumerate (a1 (cY fJ (pv 0) (c8 ah) (c8 ah)))) (dU rfl (aA (gn 2 S) (aA (gn 3 S) cP))) (af (i7 (ba dw (xl (pv 1) (ba gV (pv 2) ah)) (pv 3)) (uk (pv 1) (ba gV (pv 2) ah) lN)))) (af (ax (br (a3 (pv 1) ah ah))))))) (by walk_at "b")
theorem zC:kS P w K mg:=fun base=>dG X G T.f_law_anew (fun S _ _ _ _ _ _ _ _ _ a e h=>bK (HD (K:=K) h) (ab (i7 ah (uk (pv 0) ah lN)) (af (ax (pv 0))))) (by walk_at "b")
theorem zo(a:kR P w K mg):d6 P w K mg:=fun base=>dG X G T.f_law_take (fun S _ _ _ _ _ _ _ _ _ e f h=>bK (Hx h) (ab (bo (hC v9 (xl (pv 0) ah) (pv 1)) (ab (qs 2 S (xl (pv 0) ah)) (ab (qs 3 S ah) (ab (bo (hC v9 (pv 2) (ql z.len (a1 (xl (pv 0) ah)))) (af (qs 3 S (xl (xl (pv 0) ah) (pv 2)))) (af (bo (hC v_ (ql z.len (a1 (xl (pv 0) ah))) ah) (af (qs 3 S (ba gV (xl (xl (pv 0) ah) (ba gV (ba dw (ba i9 (pv 2) ah) ah) (ql z.len (a1 (xl (pv 0) ah))))) (ba dw (ba Gb ah ah) (pv 2))))) aL))) (ab (i7 (ba dw (pv 2) ah) (uk (pv 0) ah lN)) (af (i7 (qf e (a base) (a2 (pv 3) (pv 2))) (uk (pv 0) ah lN))))))) aL) (ab (qs 4 S (ba gV (xl (pv 0) ah) (pv 1))) (ab (i7 (ba De (xl (pv 0) ah) (pv 1)) (uk (pv 0) ah lN)) (af (ax (pv 4))))))) (by walk_at "b")
theorem xN(a:d6 P w K mg):jx P w K mg:=fun base=>dG X G T.f_law_names (fun S _ _ _ _ _ _ _ _ _ e f h=>bK (FI h) (ab (qs 2 S bF) (ab (qs 3 S (eS PySem.F.plainAttrs_str PySem.F.slot_str_join PySem.F.type_str_join HW bF (a1 (qc (jU rfl z.range (a1 ah)) (bw (by decide)) fun _ _ _ _ _ _=>⟨gc 0,dj,xs' (pv 1) (qf e (a base) (a2 (pv 2) ah))⟩)))) (ab (qs 4 S (qf e (a base) (a2 (pv 0) ah))) (ab (qs 5 S (qf e (a base) (a2 (pv 0) ah))) (ab (qs 6 S (qf e (a base) (a2 (pv 0) ah))) (ab (qs 7 S (br cf)) (ab (bL bh rfl (jU rfl z.range (a1 (pv 1))) (gn 8 S) (ab (qs 9 S (xs' (pv 2) (ba gV (ba dw (pv 5) (ba i9 ah (pv 8))) ah))) (ab (qs 10 S (cY xV (pv 3) fL (c8 (ba gV (ba dw (pv 6) (ba i9 (pv 8) (ba gV (pv 4) ah))) ah)))) (ab (qs 11 S (xl (br (a3 ah (ql z.len (a1 (pv 10))) (ba De (ql z.len (a1 (pv 10))) ah))) (pv 4))) (af (aP (eS cp dQ dP bI (pv 7) (a1 (ba uq (ba uq (cY xV (pv 10) fL (c8 (pv 11))) (pv 9)) (cY xV (pv 10) (c8 (pv 11)) fL)))))))))) (af (ax (pv 7))))))))))) (by walk_at "b")
theorem Bf:j9 P w K mg:=fun base=>dG X G T.f_law_put (fun S _ _ _ _ _ _ _ _ _ e a h=>bK (Jd h) (af (bo (Hc (gU a) (pv 1) (pv 0)) (af (aP (eS cp dQ dP bI (pv 0) (a1 (pv 1))))) aL))) (by walk_at "b")
theorem oS(a:d6 P w K mg)(e:j9 P w K mg):g6 P w K mg:=fun base=>dG X G T.f_law_draw_doors (fun S _ _ _ _ _ _ _ _ _ f g h=>bK (vC h) (ab (qs 5 S (br cf)) (ab (qs 6 S (qf f (a base) (a2 (pv 0) ah))) (ab (bL bh rfl (pk rfl z.enumerate (a1 (pv 3))) (dU rfl (aA (gn 7 S) (aA (gn 8 S) cP))) (ab (bL bh rfl (jU rfl z.range (a1 (xl (br (cC ah (a3 ah ah ah))) (qf f (a base) (a2 (pv 0) ah))))) (gn 9 S) (ab (qs 10 S (aI (a2 bF (xl (pv 2) (qf f (a base) (a2 (pv 0) (ql z.len (a1 (pv 2))))))))) (af (aP (qf f (e base) (a2 (pv 5) (aI (a3 (pv 8) (pv 10) (xl (pv 3) (qf f (a base) (a2 (pv 0) (ql z.len (a1 (pv 3)))))))))))))) (ab (bL bh rfl (aZ (pv 1)) (gn 11 S) (af (bL bh rfl (jU rfl z.range (a1 (xl (br (cC (pv 4) (a3 ah ah ah))) (qf f (a base) (a2 (pv 0) ah))))) (gn 9 S) (af (aP (qf f (e base) (a2 (pv 5) (aI (a3 (pv 8) (aI (a2 bF (pv 11))) (xl (pv 3) (qf f (a base) (a2 (pv 0) (ql z.len (a1 (pv 3))))))))))))))) (ab (qs 12 S (xl (br (a2 (cY fJ (pv 3) (c8 (ba dw (pv 7) ah)) fL) (cY fJ (pv 3) fL (c8 (pv 7))))) (pv 6))) (af (bo (PW.pt (kD (hC (i8 g) (pv 12) (br cf)) (kC (hC i_ (qf f (a base) (a2 (pv 0) ah)) ah)))) (af (aP (qf f (e base) (a2 (pv 5) (aI (a3 (pv 8) (aI (a1 bF)) (xq (pv 12) (qf f (a base) (a2 (pv 0) (ql z.len (a1 (pv 12)))))))))))) aL)))))) (af (ax (pv 5))))))) (by walk_at "b")
theorem xO(g:kS P w K mg)(a:d6 P w K mg)(e:jx P w K mg)(f:g6 P w K mg):rO P w K mg:=fun base=>dG X G T.f_law_model (fun S _ _ _ _ _ _ _ _ _ i j h=>bK (FJ h) (ab (aP (qf i (g base) (a1 (pv 0)))) (ab (qs 3 S (qf i (e base) (a2 (pv 0) ah))) (ab (qs 4 S (cY fJ (pv 3) fL (c8 (ba dw ah (xl (br (cC ah (cC ah (cC ah (a3 ah ah ah))))) (qf i (a base) (a2 (pv 0) ah))))))) (ab (qs 5 S (cY fJ (pv 3) (c8 ah) (c8 (ba dw ah (xl (br (cC ah (cC ah (cC ah (a3 ah ah ah))))) (qf i (a base) (a2 (pv 0) ah))))))) (ab (qs 6 S (qf i (e base) (a2 (pv 0) (ba dw ah (qf i (a base) (a2 (pv 0) (pv 1))))))) (ab (qs 7 S (qf i (f base) (cC (pv 0) (cC (pv 4) (a3 (pv 5) (pv 6) (pv 2)))))) (af (ax (aI (cC (pv 4) (a3 (pv 5) (pv 6) (pv 7))))))))))))) (by walk_at "b")
theorem Bg:q_ P w K mg:=fun base=>dG X G T.f_is_name (fun S _ _ _ _ _ _ _ _ _ a e h=>bK (By h) (af (ax (BD (IN uo (pv 0) bF) (BD (IN JS (ql z.len (a1 (pv 0))) (gO rfl c.LONGEST_NAME)) (F_ (qB (rL rfl) z.all boot_all (a1 (qc (Jh (pv 0)) (bw (by decide)) fun _ _ _ _ _ _=>⟨gc 0,dj,eci BE (pv 0) (gO rfl c.LETTERS)⟩))))))))) (by walk_at "b")
theorem Bh:j_ P w K mg:=fun base=>dG X G T.f_as_keys (fun S _ _ _ _ _ _ _ _ _ e a h=>bK (Bz h) (ab (qs 1 S jV) (ab (bL bh rfl (aZ (pv 0)) (gn 2 S) (af (fK a (pv 1) (pv 2) ic rfl))) (af (ax (pv 1)))))) (by walk_at "b")
theorem mP(a:q_ P w K mg)(e:j_ P w K mg):fT P w K mg:=fun base=>dG X G T.f_first_wrong_name (fun S _ _ _ _ _ _ _ _ _ f g h=>bK (mR h) (ab (bo (hC i_ (ql z.len (a1 (pv 0))) ah) (af (ax ah)) aL) (ab (qs 3 S (qf f (e base) (a1 (pv 2)))) (ab (bL bh rfl (pk rfl z.enumerate (a1 (pv 0))) (dU rfl (aA (gn 4 S) (aA (gn 5 S) cP))) (ab (bo (PW.pt (iD (hC i_ (pv 4) (pv 1)) (iD (eI (qG g (pv 5) (pv 3))) (iw (kE (gt (qf f (a base) (a1 (pv 5))))))))) (af (ax (pv 4))) aL) (af (fK g (pv 3) (pv 5) ic rfl)))) (af (ax nX)))))) (by walk_at "b")
theorem vt:kU P w K mg:=fun base=>dG X G T.f_door_signs (fun S _ _ _ _ _ _ _ _ _ a e h=>bK (vE c.still h) (af (ax (ba jb (ba jb (qc (aZ (pv 0)) (bw (by decide)) fun _ _ _ _ _ _=>⟨gc 0,dj,aI (a2 bF (pv 0))⟩) (qc (aZ (pv 1)) (bw (by decide)) fun _ _ _ _ _ _=>⟨gc 0,dj,aI (a2 bF (pv 0))⟩)) (br (a1 (gO rfl c.STILL))))))) (by walk_at "b")
theorem mQ(a:j_ P w K mg):fU P w K mg:=fun base=>dG X G T.f_first_wrong_door (fun S _ _ _ _ _ _ _ _ _ f e h=>bK (mS h) (ab (qs 3 S (qf f (a base) (a1 (pv 1)))) (ab (qs 4 S lS) (ab (bL bh rfl (pk rfl z.enumerate (a1 (pv 0))) (dU rfl (aA (gn 5 S) (aA (gn 6 S) cP))) (ab (bo (PW.pt (iD (hC i_ (pv 5) (gO rfl c.MOST_DOORS)) (iw (eI (qG e (pv 6) (pv 4)))))) (af (ax (pv 5))) aL) (ab (bo (PW.pt (iD (eI (fb e (xq (pv 6) ah) (pv 3))) (iD (Hc (gU e) (xq (pv 6) ah) (pv 2)) (iw (eI (fb e (xq (pv 6) ah) (pv 3))))))) (af (ax (pv 5))) aL) (af (fK e (pv 4) (pv 6) ic rfl))))) (af (ax nX)))))) (by walk_at "b")
theorem i3:db P w K mg:=fun base=>dG X G T.f_goals_by_start_and_sign (fun S _ _ _ _ _ _ _ _ _ e a h=>bK (i5 h) (ab (qs 1 S lS) (ab (bL bh rfl (aZ (pv 0)) (dU rfl (aA (gn 2 S) (aA (gn 3 S) (aA (gn 4 S) cP)))) (af (aP (eS cp dQ dP bI (eS PySem.F.plainAttrs_dict PySem.F.slot_dict_setdefault PySem.F.type_dict_setdefault (Er a) (pv 1) (a2 (aI (a2 (pv 2) (pv 3))) (br cf))) (a1 (pv 4)))))) (af (ax (pv 1)))))) (by walk_at "b")
theorem rV:ji P w K mg:=fun base=>dG X G T.f_led_by_still (fun S _ _ _ _ _ _ _ _ _ e a h=>bK (r8 c.still h) (ab (qs 2 S jV) (ab (qs 3 S (br (a1 (pv 1)))) (ab (ib bh (hC v_ (ql z.len (a1 (pv 3))) ah) (ab (qs 4 S (nY cp pX pW ut (pv 3))) (af (bL bh rfl (Ji (pq a (pv 0) (aI (a2 (pv 4) (gO rfl c.STILL))) (aI cf) ⟨rfl,rfl,rfl,rfl⟩)) (gn 5 S) (af (bo (eI (fb a (pv 5) (pv 2))) (ab (fK a (pv 2) (pv 5) ic rfl) (af (aP (eS cp dQ dP bI (pv 3) (a1 (pv 5)))))) aL)))))) (af (ax (pv 2))))))) (by walk_at "b")
theorem nQ:gH P w K mg:=fun base=>dG X G T.f_first_led_round (fun S _ _ _ _ _ _ _ _ _ e a h=>bK (nU h) (ab (bL bh rfl (pk rfl z.enumerate (a1 (pv 0))) (dU rfl (aA (gn 2 S) (aA (gn 3 S) cP))) (af (bo (eI (qG a (pv 3) (eM a (pv 1) (pv 3) (fun _ _=>rfl)))) (af (ax (pv 2))) aL))) (af (ax nX)))) (by walk_at "b")
theorem xL:jw P w K mg:=fun base=>dG X G T.f_need_none (fun S _ _ _ _ _ _ _ _ _ a e h=>bK (xY (K:=K) h) (af (bo (eI (x9 (pv 1))) (af (pi)) aL))) (by walk_at "b")
theorem vj(a:fT P w K mg)(g:kU P w K mg)(f:fU P w K mg)(e:jw P w K mg):kO P w K mg:=fun base=>dG X G T.f_need_parts (fun S _ _ _ _ _ _ _ _ _ i j h=>bK (vy (K:=K) h) (ab (aP (qf i (e base) (a2 bF (qf i (a base) (a3 (pv 0) (gO rfl c.MOST_WORDS) (br cf)))))) (ab (aP (qf i (e base) (a2 bF (qf i (a base) (a3 (pv 1) (gO rfl c.MOST_WORDS) (pv 0)))))) (ab (aP (qf i (e base) (a2 bF (qf i (a base) (a3 (pv 2) (gO rfl c.MOST_ROOMS) (br cf)))))) (af (aP (qf i (e base) (a2 bF (qf i (f base) (a3 (pv 3) (pv 2) (qf i (g base) (a2 (pv 0) (pv 1))))))))))))) (by walk_at "b")
theorem oU:g_ P w K mg:=fun base=>dG X G T.f_doors_by_start (fun S _ _ _ _ _ _ _ _ _ e a h=>bK (pe h) (ab (qs 2 S jV) (ab (bL bh rfl (aZ (pv 0)) (gn 3 S) (af (fK a (pv 2) (pv 3) (br cf) rfl))) (ab (bL bh rfl (aZ (pv 1)) (gn 4 S) (af (aP (eS cp dQ dP bI (eM a (pv 2) (xq (pv 4) ah) (fun _ _=>rfl)) (a1 (pv 4)))))) (af (ax (pv 2))))))) (by walk_at "b")
theorem oT:g8 P w K mg:=fun base=>dG X G T.f_has_asks_alone (fun S _ _ _ _ _ _ _ _ _ a e h=>bK (pd h) (af (ax (qB (rL rfl) z.all boot_all (a1 (qc (aZ (pv 0)) (bw (by decide)) fun _ _ _ _ _ _=>⟨gc 0,dj,IN i_ (xq (xq (pv 0) ah) ah) bF⟩)))))) (by walk_at "b")
theorem Bi(l:j_ P w K mg)(a:db P w K mg)(i:ji P w K mg)(e:gH P w K mg)(k:jw P w K mg)(j:kO P w K mg)(f:g_ P w K mg)(g:g8 P w K mg):rc P w K mg C:=fun base=>dN c.cm c.makes c.kc T.f_Machine___init__ (fun S _ _ _ _ _ _ _ _ _ m n h=>bK (HB c.mc h) (ab (aP (qf m (j base) (cC (pv 1) (a3 (pv 2) (pv 3) (pv 4))))) (ab (gT (pv 0) (qL rfl z.list (a1 (pv 1))) rfl) (ab (gT (pv 0) (qL rfl z.list (a1 (pv 2))) rfl) (ab (gT (pv 0) (qL rfl z.list (a1 (pv 3))) rfl) (ab (gT (pv 0) (qL rfl z.list (a1 (pv 4))) rfl) (ab (gT (pv 0) (qf m (f base) (a2 (pv 3) (pv 4))) rfl) (ab (gT (pv 0) (qf m (l base) (a1 (qc (aZ (pv 3)) (bw (by decide)) fun _ _ _ _ _ _=>⟨gc 0,iJ (gt (qf m (g base) (a1 (eM n (cu (pv 1) rfl) (pv 0) (fun _ _=>rfl))))),pv 0⟩))) rfl) (ab (gT (pv 0) (qf m (a base) (a1 (pv 4))) rfl) (ab (gT (pv 0) (iS (yC rfl) rfl z.dict Ch (a1 (qc (aZ (pv 3)) (bw (by decide)) fun _ _ _ _ _ _=>⟨gc 0,dj,aI (a2 (pv 0) (qf m (i base) (a2 (cu (pv 1) rfl) (pv 0))))⟩))) rfl) (af (aP (qf m (k base) (a2 bF (qf m (e base) (a2 (pv 3) (cu (pv 0) rfl))))))))))))))))) (by walk_at "b")
theorem tW(a:rc P w K mg C):nz P w K mg C:=fun base=>dG X G T.f_law_machine (fun S _ _ _ _ _ _ _ _ _ e f h=>bK (Bx h) (af (ax (BC (a base) (e.mono (by decide)) rfl (cC (qL rfl z.list (a1 (xq (pv 0) ah))) (a3 (qL rfl z.list (a1 (xq (pv 0) ah))) (qL rfl z.list (a1 (xq (pv 0) ah))) (qL rfl z.list (a1 (xq (pv 0) ah))))))))) (by walk_at "b")
theorem qr:cK P w K mg C:=fun base=>dM c.mc.cls T.f_Machine_rooms (fun S _ _ _ _ _ _ _ _ _ a e h=>bK (FG c.mc h) (af (ax (qL rfl z.list (a1 (cu (pv 0) rfl)))))) (by walk_at "b")
theorem mN:d9 P w K mg C:=fun base=>dM c.mc.cls T.f_Machine_led_from (fun S _ _ _ _ _ _ _ _ _ e a h=>bK (zQ c.mc h) (af (ax (qL rfl z.list (a1 (pq a (cu (pv 0) rfl) (pv 1) (aI cf) ⟨rfl,rfl,rfl,rfl⟩)))))) (by walk_at "b")
theorem vh(e:cK P w K mg C)(a:d9 P w K mg C):iP P w K mg C:=fun base=>dG X G T.f_with_still (fun S _ _ _ _ _ _ _ _ _ g f h=>bK (vx h) (ab (qs 2 S jV) (ab (bL bh rfl (aZ (pv 1)) (gn 3 S) (af (bo (eI (fb f (pv 3) (pv 2))) (ab (fK f (pv 2) (pv 3) ic rfl) (af (bL bh rfl (aZ (qm g (a base) (pv 0) (a1 (pv 3)))) (gn 4 S) (af (fK f (pv 2) (pv 4) ic rfl))))) aL))) (af (ax (iS hV rfl z.tuple ij (a1 (qc (aZ (E_ g (e base) (pv 0))) (bw (by decide)) fun _ _ _ _ _ _=>⟨gc 0,iJ (eI (qG f (pv 0) (pv 1))),pv 0⟩)))))))) (by walk_at "b")
theorem qt:de P w K mg C:=fun base=>dM c.mc.cls T.f_Machine_goals (fun S _ _ _ _ _ _ _ _ _ e a h=>bK (Bw c.mc h) (af (ax (qL rfl z.list (a1 (pq a (cu (pv 0) rfl) (aI (a2 (pv 1) (pv 2))) (aI cf) ⟨rfl,rfl,rfl,rfl⟩)))))) (by walk_at "b")
theorem mO:c7 P w K mg C:=fun base=>dM c.mc.cls T.f_Machine_is_quiet (fun S _ _ _ _ _ _ _ _ _ e a h=>bK (zR c.mc h) (af (ax (Jl (qG a (pv 1) (cu (pv 0) rfl)))))) (by walk_at "b")
theorem rW:eW P w K mg:=fun base=>dG X G T.f_law_still_on (fun S _ _ _ _ _ _ _ _ _ e a h=>bK (zM h) (ab (qs 2 S (qL rfl z.list (a1 (pv 1)))) (ab (qs 3 S ah) (ab (ib bh (hC v9 (pv 3) (ql z.len (a1 (pv 2)))) (ab (bL bh rfl (aZ (pv 0)) (dU rfl (aA (gn 4 S) (aA (gn 5 S) (aA (gn 6 S) cP)))) (af (bo (PW.pt (kD (hC (gv a) (pv 4) (xq (pv 2) (pv 3))) (kD (hC (gv a) (pv 5) (aI (a1 bF))) (kC (Hc (gU a) (pv 6) (pv 2)))))) (af (aP (eS cp dQ dP bI (pv 2) (a1 (pv 6))))) aL))) (af (qs 3 S (ba dw (pv 3) ah))))) (af (ax (pv 2))))))) (by walk_at "b")
theorem DU(a:eW P w K mg):pV P w K mg:=fun base=>dG X G T.f_law_on (fun S _ _ _ _ _ _ _ _ _ e f h=>bK (JN h) (ab (qs 2 S (qf e (a base) (a2 (xq (pv 0) ah) (pv 1)))) (af (ax (iS hV rfl z.tuple ij (a1 (qc (aZ (xq (pv 0) ah)) (bw (by decide)) fun _ _ _ _ _ _=>⟨gc 0,iJ (Hc (BF f) (pv 0) (pv 1)),pv 0⟩))))))) (by walk_at "b")
theorem rX:gG P w K mg:=fun base=>dG X G T.f_law_is_quiet (fun S _ _ _ _ _ _ _ _ _ e a h=>bK (D0 h) (af (ax (IN (gv a) (qc (aZ (xq (pv 0) ah)) (bw (by decide)) fun _ _ _ _ _ _=>⟨gc 0,iJ (PW.pt (kD (hC (gv a) (xq (pv 0) ah) (pv 1)) (kC (hC uo (xq (xq (pv 0) ah) ah) bF)))),pv 0⟩) (br cf))))) (by walk_at "b")
theorem vp(e:pV P w K mg)(a:gG P w K mg):iQ P w K mg:=fun base=>dG X G T.f_law_behind (fun S _ _ _ _ _ _ _ _ _ g f h=>bK (Je h) (ab (bo (hC (gv f) (pv 2) (aI (a1 bF))) (af (ax (iS hV rfl z.tuple ij (a1 (qc (BB (pv 1)) (bw (by decide)) fun _ _ _ _ _ _=>⟨gc 0,iJ (gt (qf g (a base) (a2 (pv 1) (pv 0)))),pv 0⟩))))) aL) (af (ax (qf g (e base) (a2 (pv 0) (qc (aZ (xq (pv 0) ah)) (bw (by decide)) fun _ _ _ _ _ _=>⟨gc 0,iJ (PW.pt (kD (Hc (BF f) (xq (pv 0) ah) (pv 1)) (kC (hC (gv f) (xq (pv 0) ah) (pv 2))))),xq (pv 0) ah⟩))))))) (by walk_at "b")
theorem xM:mn P w K mg:=fun base=>dG X G T.f_law_signs (fun S _ _ _ _ _ _ _ _ _ a e h=>bK (FD h) (af (ax (ba jb (ba jb (qc (aZ (xq (pv 0) ah)) (bw (by decide)) fun _ _ _ _ _ _=>⟨gc 0,dj,aI (a2 bF (pv 0))⟩) (qc (aZ (xq (pv 0) ah)) (bw (by decide)) fun _ _ _ _ _ _=>⟨gc 0,dj,aI (a2 bF (pv 0))⟩)) (br (a1 (aI (a1 bF)))))))) (by walk_at "b")
theorem rT:eZ P w K mg C:=fun base=>dM c.mc.cls T.f_Machine_asks (fun S _ _ _ _ _ _ _ _ _ a e h=>bK (HC c.mc h) (af (ax (qL rfl z.list (a1 (cu (pv 0) rfl)))))) (by walk_at "b")
theorem rS:gJ P w K mg C:=fun base=>dM c.mc.cls T.f_Machine_says (fun S _ _ _ _ _ _ _ _ _ a e h=>bK (Hy c.mc h) (af (ax (qL rfl z.list (a1 (cu (pv 0) rfl)))))) (by walk_at "b")
theorem vq(a:cK P w K mg C)(e:iP P w K mg C):kT P w K mg C:=fun base=>dG X G T.f_first_face (fun S _ _ _ _ _ _ _ _ _ f g h=>bK (vA h) (af (ax (qf f (e base) (a2 (pv 0) (cY fJ (E_ f (a base) (pv 0)) fL (c8 ah))))))) (by walk_at "b")
theorem tX(f:iP P w K mg C)(e:de P w K mg C)(a:c7 P w K mg C):jK P w K mg C:=fun base=>dG X G T.f_face_behind (fun S _ _ _ _ _ _ _ _ _ g i h=>bK (FO c.hush h) (ab (bo (hC (gv i) (pv 2) (gO rfl c.HUSH)) (af (ax (iS hV rfl z.tuple ij (a1 (qc (BB (pv 1)) (bw (by decide)) fun _ _ _ _ _ _=>⟨gc 0,iJ (gt (qm g (a base) (pv 1) (a1 (pv 0)))),pv 0⟩))))) aL) (ab (qs 3 S (br cf)) (ab (bL bh rfl (BB (pv 1)) (gn 4 S) (af (aP (eS cp PySem.F.slot_list_extend PySem.F.type_list_extend Es (pv 3) (a1 (qm g (e base) (pv 0) (a2 (pv 4) (pv 2)))))))) (af (ax (qf g (f base) (a2 (pv 0) (pv 3))))))))) (by walk_at "b")
theorem oR(a:eZ P w K mg C)(e:gJ P w K mg C):gZ P w K mg C a_HUSH:=fun base=>dG X G T.f_signs_in_order (fun S _ _ _ _ _ _ _ _ _ f g h=>bK (Jc h) (af (ax (ba jb (ba jb (qc (aZ (E_ f (a base) (pv 0))) (bw (by decide)) fun _ _ _ _ _ _=>⟨gc 0,dj,aI (a2 bF (pv 0))⟩) (qc (aZ (E_ f (e base) (pv 0))) (bw (by decide)) fun _ _ _ _ _ _=>⟨gc 0,dj,aI (a2 bF (pv 0))⟩)) (br (a1 (gO rfl c.HUSH))))))) (by walk_at "b")
theorem zj(e:jK P w K mg C)(a:gZ P w K mg C a_HUSH):oE P w K mg C:=fun base=>dG X G T.f_steps_at (fun S _ _ _ _ _ _ _ _ _ f g h=>bK (Bu c.hush h) (ab (qs 2 S lS) (ab (bL bh rfl (aZ (qf f (a base) (a1 (pv 0)))) (gn 3 S) (ab (qs 4 S (qf f (e base) (a3 (pv 0) (pv 1) (pv 3)))) (af (bo (hC v_ (ql z.len (a1 (pv 4))) ah) (af (pj g (pv 2) (pv 3) (pv 4) rfl)) aL)))) (af (ax (pv 2)))))) (by walk_at "b")
theorem lJ:dD P w K mg Cf:=fun base=>dM c.fc.cls T.f_FaceMap_number_at (fun S _ _ _ _ _ _ _ _ _ e a h=>bK (FH c.fc h) (ab (bo (eI (fb a (pv 1) (cu (pv 0) rfl))) (ab (bo (hC i_ (ql z.len (a1 (cu (pv 0) rfl))) (gO rfl c.MOST_FACES)) (af (pi)) aL) (ab (fK a (cu (pv 0) rfl) (pv 1) (ql z.len (a1 (cu (pv 0) rfl))) rfl) (ab (aP (eS cp dQ dP bI (cu (pv 0) rfl) (a1 (pv 1)))) (af (aP (eS cp dQ dP bI (cu (pv 0) rfl) (a1 (pv 2)))))))) aL) (af (ax (eM a (cu (pv 0) rfl) (pv 1) (fun _ _=>rfl)))))) (by walk_at "b")
theorem jk(e:oE P w K mg C)(a:dD P w K mg Cf):dz P w K mg C Cf:=fun base=>dM c.fc.cls T.f_FaceMap_numbered_steps (fun S _ _ _ _ _ _ _ _ _ f g h=>bK (zP c.fc h) (ab (qs 2 S lS) (ab (bL bh rfl (v7 (qf f (e base) (a2 (cu (pv 0) rfl) (xl (cu (pv 0) rfl) (pv 1))))) (dU rfl (aA (gn 3 S) (aA (gn 4 S) cP))) (af (pj g (pv 2) (pv 3) (qm f (a base) (pv 0) (a2 (pv 4) (ba jb (xl (cu (pv 0) rfl) (pv 1)) (br (a1 (pv 3)))))) rfl))) (af (ax (pv 2)))))) (by walk_at "b")
theorem Bj(f:kT P w K mg C)(e:dD P w K mg Cf)(a:dz P w K mg C Cf):re P w K mg C Cf:=fun base=>dN c.cmf c.makesf c.kcf T.f_FaceMap___init__ (fun S _ _ _ _ _ _ _ _ _ g i h=>bK (Ea c.fc h) (ab (gT (pv 0) (pv 1) rfl) (ab (gT (pv 0) (br cf) rfl) (ab (gT (pv 0) (br cf) rfl) (ab (gT (pv 0) lS rfl) (ab (gT (pv 0) (br cf) rfl) (ab (aP (qm g (e base) (pv 0) (a2 (qf g (f base) (a1 (pv 1))) (br cf)))) (af (ib bh (hC v9 (ql z.len (a1 (cu (pv 0) rfl))) (ql z.len (a1 (cu (pv 0) rfl)))) (af (aP (eS cp dQ dP bI (cu (pv 0) rfl) (a1 (qm g (a base) (pv 0) (a1 (ql z.len (a1 (cu (pv 0) rfl)))))))))))))))))) (by walk_at "b")
theorem Ft(a:d9 P w K mg C)(e:de P w K mg C):yR P w K mg C:=fun base=>dG X G T.f_takes (fun S _ _ _ _ _ _ _ _ _ f g h=>bK (DY h) (af (ax (qB (AB rfl) z.any boot_any (a1 (qc (aZ (ba jb (br (a1 (pv 1))) (qm f (a base) (pv 0) (a1 (pv 1))))) (bw (by decide)) fun _ _ _ _ _ _=>⟨gc 0,dj,IN v_ (ql z.len (a1 (qm f (e base) (pv 1) (a2 (pv 0) (aI (a2 bF (pv 2))))))) ah⟩)))))) (by walk_at "b")
theorem vk(a:eZ P w K mg C)(e:gJ P w K mg C):kP P w K mg C:=fun base=>dG X G T.f_need_match (fun S _ _ _ _ _ _ _ _ _ f g h=>bK (ue h) (af (bo (PW.pt (iD (hC (i8 g) (E_ f (a base) (pv 0)) (E_ f (a base) (pv 1))) (iw (hC (i8 g) (E_ f (e base) (pv 0)) (E_ f (e base) (pv 1)))))) (af (pi)) aL))) (by walk_at "b")
theorem ko(a:cK P w K mg C)(e:eZ P w K mg C)(f:yR P w K mg C):eJ P w K mg C:=fun base=>dG X G T.f_need_all_asks_taken (fun S _ _ _ _ _ _ _ _ _ g i h=>bK (xZ h) (af (bL bh rfl (aZ (E_ g (a base) (pv 0))) (gn 1 S) (af (bL bh rfl (aZ (E_ g (e base) (pv 0))) (gn 2 S) (af (bo (kE (gt (qf g (f base) (a3 (pv 0) (pv 1) (pv 2))))) (af (pi)) aL))))))) (by walk_at "b")
theorem vi(e:kP P w K mg C)(a:eJ P w K mg C):kN P w K mg C:=fun base=>dG X G T.f_need_taker (fun S _ _ _ _ _ _ _ _ _ f g h=>bK (ud (K:=K) h) (ab (aP (qf f (e base) (a2 (pv 0) (pv 1)))) (af (aP (qf f (a base) (a1 (pv 1))))))) (by walk_at "b")
theorem k9:eX P w K mg C:=fun base=>dM c.mc.cls T.f_Machine_doors_from (fun S _ _ _ _ _ _ _ _ _ e a h=>bK (vD c.mc h) (af (ax (qL rfl z.list (a1 (pq a (cu (pv 0) rfl) (pv 1) (aI cf) ⟨rfl,rfl,rfl,rfl⟩)))))) (by walk_at "b")
theorem zf:oB P w K mg:=fun base=>dG X G T.f_story_to (fun S _ _ _ _ _ _ _ _ _ e a h=>bK (Bt h) (ab (qs 2 S (br cf)) (ab (ib bh (eI (x9 (eM a (pv 0) (pv 1) (fun _ _=>rfl)))) (ab (i7 (eM a (pv 0) (pv 1) (fun _ _=>rfl)) (dU rfl (aA (gn 1 S) (aA (gn 3 S) cP)))) (af (aP (eS cp dQ dP bI (pv 2) (a1 (pv 3))))))) (ab (aP (nY cp PySem.F.slot_list_reverse PySem.F.type_list_reverse ur (pv 2))) (af (ax (pv 2))))))) (by walk_at "b")
theorem tT(a:oB P w K mg):jH P w K mg:=fun base=>dG X G T.f_least_fault (fun S _ _ _ _ _ _ _ _ _ f e h=>bK (vz h) (ab (qs 2 S (v8 e (aI (a2 ah ah)) nX)) (ab (qs 3 S (br (a1 (aI (a2 ah ah))))) (ab (qs 4 S ah) (ab (ib bh (hC v9 (pv 4) (ql z.len (a1 (pv 3)))) (ab (qs 5 S (xl (pv 3) (pv 4))) (ab (Jg (i:=4) S rfl (Or.inl rfl) ah Js) (ab (qs 6 S (xl (pv 0) (xt (pv 5) ah))) (af (bL bh rfl (v7 (xl (pv 1) (xt (pv 5) ah))) (dU rfl (aA (gn 7 S) (aA (gn 8 S) cP))) (af (bo (eI (fb e (pv 7) (pv 6))) (af (bo (hC uo (xt (pv 7) ah) bF) (af (ax (aI (a2 (qf f (a base) (a2 (pv 2) (pv 5))) (pv 7))))) aL)) (af (bo (eI (fb e (aI (a2 (eM e (pv 6) (pv 7) (fun _ _=>rfl)) (pv 8))) (pv 2))) (ab (pj e (pv 2) (aI (a2 (eM e (pv 6) (pv 7) (fun _ _=>rfl)) (pv 8))) (aI (a2 (pv 5) (pv 7))) rfl) (af (aP (eS cp dQ dP bI (pv 3) (a1 (aI (a2 (eM e (pv 6) (pv 7) (fun _ _=>rfl)) (pv 8)))))))) aL)))))))))) (af (ax nX))))))) (by walk_at "b")
theorem tS(e:c7 P w K mg C)(a:eX P w K mg C):jG P w K mg C:=fun base=>dG X G T.f_rows_needed (fun S _ _ _ _ _ _ _ _ _ g f h=>bK (FE c.hush c.still h) (ab (qs 4 S (br cf)) (ab (bL bh rfl (aZ (qm g (a base) (pv 0) (a1 (pv 1)))) (dU rfl (aA (gn 5 S) (aA (gn 6 S) (aA (gn 7 S) cP)))) (af (bo (hC (gv f) (pv 6) (gO rfl c.STILL)) (af (aP (eS cp dQ dP bI (pv 4) (a1 (aI (a2 (pv 7) (pv 2))))))) (af (bo (PW.pt (iD (eI (qG f (pv 6) (pv 3))) (iw (hC i_ (xt (pv 6) ah) bF)))) (af (aP (eS cp dQ dP bI (pv 4) (a1 (aI (a2 (pv 7) (zU f (pv 3) (pv 6) ⟨rfl,rfl,rfl,rfl⟩))))))) aL))))) (ab (bo (gt (qm g (e base) (pv 0) (a1 (pv 1)))) (af (aP (eS cp dQ dP bI (pv 4) (a1 (aI (a2 (pv 1) (zU f (pv 3) (gO rfl c.HUSH) ⟨rfl,rfl,rfl,rfl⟩))))))) aL) (af (ax (pv 4))))))) (by walk_at "b")
theorem zm(a:cK P w K mg C)(e:jG P w K mg C):oF P w K mg C Cf:=fun base=>dG X G T.f_paper_of (fun S _ _ _ _ _ _ _ _ _ g f h=>bK (Bv c.fc h) (ab (qs 2 S (aI (a2 (xl (E_ g (a base) (pv 1)) ah) ah))) (ab (qs 3 S (v8 f (pv 2) ic)) (ab (qs 4 S (br (a1 (pv 2)))) (ab (ib bh (hC v_ (ql z.len (a1 (pv 4))) ah) (ab (i7 (nY cp pX pW ut (pv 4)) (dU rfl (aA (gn 5 S) (aA (gn 6 S) cP)))) (af (bL bh rfl (aZ (qf g (e base) (cC (pv 1) (a3 (pv 5) (pv 6) (xl (cu (pv 0) rfl) (pv 6)))))) (gn 7 S) (af (bo (eI (fb f (pv 7) (pv 3))) (ab (pj f (pv 3) (pv 7) ic rfl) (af (aP (eS cp dQ dP bI (pv 4) (a1 (pv 7)))))) aL)))))) (af (ax (qc (FZ (pv 3)) (Dd (jW (bw (by decide)) ff (jW (bw (by decide)) ff (zX) (jZ)) (kF ff (jZ)))) fun _ _ _ _ _ _=>⟨dU rfl (aA (gc 0) (aA (gc 1) cP)),dj,aI (a2 (pv 0) (xl (cu (pv 2) rfl) (pv 1)))⟩)))))))) (by walk_at "b")
theorem Fu(a:re P w K mg C Cf)(f:kN P w K mg C)(e:jH P w K mg)(g:oF P w K mg C Cf):DG P w K mg C:=fun base=>dG X G T.f_keeps (fun S _ _ _ _ _ _ _ _ _ i j h=>bK (FL c.fc h) (ab (aP (qf i (f base) (a2 (pv 0) (pv 1)))) (ab (qs 2 S (BC (a base) (i.mono (by decide)) rfl (a1 (pv 0)))) (ab (qs 3 S (qf i (e base) (a2 (cu (pv 2) rfl) (cu (BC (a base) (i.mono (by decide)) rfl (a1 (pv 1))) rfl)))) (ab (bo (eI (Jm (pv 3))) (af (ax (aI (a2 bF (qf i (g base) (a2 (pv 2) (pv 1))))))) aL) (ab (i7 (pv 3) (dU rfl (aA (gn 4 S) (aA (gn 5 S) cP)))) (af (ax (aI (a3 bF (pv 4) (pv 5))))))))))) (by walk_at "b")
theorem tU(a:d6 P w K mg)(f:j9 P w K mg)(e:eW P w K mg):jI P w K mg:=fun base=>dG X G T.f_law_willing (fun S _ _ _ _ _ _ _ _ _ g i h=>bK (Br h) (ab (i7 (pv 1) (dU rfl (aA (gn 2 S) (aA (gn 3 S) (aA (gn 4 S) (aA (gn 5 S) cP)))))) (ab (qs 5 S (qL rfl z.list (a1 (pv 5)))) (ab (bL bh rfl (aZ (pv 4)) (gn 6 S) (af (bL bh rfl (aZ (pv 2)) (gn 7 S) (ab (qs 8 S (qf g (e base) (a2 (pv 5) (br (a1 (pv 6)))))) (af (bo (hC (gv i) (qc (aZ (pv 5)) (bw (by decide)) fun _ _ _ _ _ _=>⟨gc 0,iJ (PW.pt (kD (Hc (BF i) (xq (pv 0) ah) (pv 1)) (kC (hC (gv i) (xq (pv 0) ah) (aI (a2 bF (pv 2))))))),pv 0⟩) (br cf)) (ab (qs 9 S (xl (br (a2 (pv 6) (xl (pv 4) (qf g (a base) (a2 (pv 0) (ql z.len (a1 (pv 4)))))))) (qf g (a base) (a2 (pv 0) ah)))) (af (aP (qf g (f base) (a2 (pv 5) (aI (a3 (pv 6) (aI (a2 bF (pv 7))) (pv 9)))))))) aL)))))) (af (ax (aI (cC (pv 2) (a3 (pv 3) (pv 4) (pv 5)))))))))) (by walk_at "b")
theorem vm(a:d6 P w K mg)(e:j9 P w K mg)(f:eW P w K mg):kQ P w K mg:=fun base=>dG X G T.f_law_turned (fun S _ _ _ _ _ _ _ _ _ g i h=>bK (DX h) (ab (i7 (pv 1) (dU rfl (aA (gn 2 S) (aA (gn 3 S) (aA (gn 4 S) (aA (gn 5 S) cP)))))) (ab (qs 5 S (qL rfl z.list (a1 (pv 5)))) (ab (qs 6 S (qf g (a base) (a2 (pv 0) ah))) (ab (qs 7 S (qf g (a base) (a2 (pv 0) (qB (EQ rfl) z.max PyProof.Rows.boot_max (a2 ah (ql z.len (a1 (pv 5)))))))) (ab (qs 8 S (xl (pv 4) (qf g (a base) (a2 (pv 0) (ql z.len (a1 (pv 4))))))) (ab (qs 9 S (xl (pv 4) (qf g (a base) (a2 (pv 0) (ql z.len (a1 (pv 4))))))) (ab (bo (hC i_ (pv 6) ah) (af (aP (qf g (e base) (a2 (pv 5) (aI (a3 (pv 8) (aI (a2 bF (xl (pv 3) (qf g (a base) (a2 (pv 0) (ql z.len (a1 (pv 3)))))))) (pv 9))))))) (af (bo (hC i_ (pv 6) ah) (af (aP (qf g (e base) (a2 (pv 5) (aI (a3 (pv 8) (aI (a2 bF (xl (pv 2) (qf g (a base) (a2 (pv 0) (ql z.len (a1 (pv 2)))))))) (pv 9))))))) (af (bo (PW.pt (kD (hC v9 (pv 6) ah) (kD (hC (i8 i) (pv 5) (br cf)) (kC (hC uo (xt (xt (xl (pv 5) (pv 7)) ah) ah) bF))))) (ab (qs 10 S (eS cp pX pW Gk (pv 5) (a1 (pv 7)))) (af (bo (hC i_ (pv 6) ah) (af (aP (qf g (e base) (a2 (pv 5) (aI (a3 (xt (pv 10) ah) (xt (pv 10) ah) (pv 9))))))) aL))) (af (bo (PW.pt (kD (hC i_ (pv 6) ah) (kC (Hc (gU i) (pv 8) (qf g (f base) (a2 (pv 5) (br (a1 (pv 9))))))))) (af (aP (qf g (e base) (a2 (pv 5) (aI (a3 (pv 8) (aI (a1 bF)) (pv 9))))))) aL))))))) (af (ax (aI (cC (pv 2) (a3 (pv 3) (pv 4) (pv 5)))))))))))))) (by walk_at "b")
theorem tV(e:d6 P w K mg)(a:jx P w K mg):jJ P w K mg:=fun base=>dG X G T.f_law_renamed (fun S _ _ _ _ _ _ _ _ _ g f h=>bK (zO h) (ab (i7 (pv 1) (dU rfl (aA (gn 2 S) (aA (gn 3 S) (aA (gn 4 S) (aA (gn 5 S) cP)))))) (ab (qs 6 S jV) (ab (bL bh rfl (HJ rfl z.zip (a2 (pv 4) (qf g (a base) (a2 (pv 0) (ql z.len (a1 (pv 4))))))) (dU rfl (aA (gn 7 S) (aA (gn 8 S) cP))) (af (fK f (pv 6) (pv 7) (pv 8) rfl))) (ab (qsc 9 S (aZ (pv 4)) (bw (by decide)) fun _ _ _ _ _ _=>⟨gc 0,dj,eM f (pv 1) (pv 0) (fun _ _=>rfl)⟩) (ab (qs 10 S (ba dw ah (qf g (e base) (a2 (pv 0) (ql z.len (a1 (pv 4))))))) (ab (qs 9 S (ba jb (ba jb (cY fJ (pv 9) fL (c8 ah)) (cY fJ (pv 9) (c8 (pv 10)) fL)) (cY fJ (pv 9) (c8 ah) (c8 (pv 10))))) (ab (qsc 5 S (aZ (pv 5)) (Dd (jW (bw (by decide)) ff (jW (bw (by decide)) ff (jW (bw (by decide)) ff (zX) (jZ)) (kF ff (jZ))) (kF ff (kF ff (jZ))))) fun _ _ _ _ _ _=>⟨dU rfl (aA (gc 0) (aA (gc 1) (aA (gc 2) cP))),dj,aI (a3 (eM f (pv 3) (pv 0) (fun _ _=>rfl)) (pv 1) (eM f (pv 3) (pv 2) (fun _ _=>rfl)))⟩) (af (ax (aI (cC (pv 2) (a3 (pv 3) (pv 9) (pv 5)))))))))))))) (by walk_at "b")
theorem zA(i:kS P w K mg)(a:d6 P w K mg)(e:jI P w K mg)(g:kQ P w K mg)(f:jJ P w K mg):u5 P w K mg:=fun base=>dG X G T.f_law_near (fun S _ _ _ _ _ _ _ _ _ j k h=>bK (HA (K:=K) h) (ab (aP (qf j (i base) (a1 (pv 0)))) (ab (bL bh rfl (jU rfl z.range (a1 (qf j (a base) (a2 (pv 0) (ba dw (pv 2) ah))))) (gn 3 S) (af (qs 1 S (qf j (g base) (a2 (pv 0) (pv 1)))))) (ab (qs 1 S (qf j (e base) (a2 (pv 0) (pv 1)))) (ab (bo (hC i_ (qf j (a base) (a2 (pv 0) ah)) ah) (af (qs 1 S (qf j (f base) (a2 (pv 0) (pv 1))))) aL) (af (ax (pv 1)))))))) (by walk_at "b")
theorem zB(e:pV P w K mg)(a:iQ P w K mg):oG P w K mg:=fun base=>dG X G T.f_law_face (fun S _ _ _ _ _ _ _ _ _ f g h=>bK (D_ h) (ab (qs 2 S (qf f (e base) (a2 (pv 0) (cY Ja (xq (pv 0) ah) fL (c8 ah))))) (ab (bL bh rfl (aZ (pv 1)) (gn 3 S) (af (qs 2 S (qf f (a base) (a3 (pv 0) (pv 2) (pv 3)))))) (af (ax (pv 2)))))) (by walk_at "b")
theorem qv(a:gG P w K mg):k5 P w K mg:=fun base=>dG X G T.f_law_is_walked (fun S _ _ _ _ _ _ _ _ _ f e h=>bK (Bs h) (ab (bo (kE (gt (qB j5 z.isinstance j6 (a2 (pv 2) (nW rfl z.list))))) (af (ax ic)) aL) (ab (qs 3 S (xl (xq (pv 0) ah) ah)) (ab (qs 4 S (br cf)) (ab (bL bh rfl (aZ (pv 2)) (gn 5 S) (ab (bo (PW.pt (iD (kE (gt (qB j5 z.isinstance j6 (a2 (pv 5) (lR rfl z.tuple))))) (iD (hC uo (ql z.len (a1 (pv 5))) ah) (iw (hC (i8 e) (xq (pv 5) ah) (pv 3)))))) (af (ax ic)) aL) (ab (bo (hC (gv e) (xq (pv 5) ah) (aI (a1 bF))) (af (bo (PW.pt (iD (hC (i8 e) (xq (pv 5) ah) (pv 3)) (iw (kE (gt (qf f (a base) (a2 (pv 0) (pv 3)))))))) (af (ax ic)) aL)) (af (bo (Hc (gU e) (pv 5) (xq (pv 0) ah)) (af (ax ic)) aL))) (ab (bo (hC (i8 e) (xq (pv 5) ah) (aI (a1 bF))) (af (aP (eS cp dQ dP bI (pv 4) (a1 (xq (pv 5) ah))))) aL) (af (qs 3 S (xq (pv 5) ah))))))) (af (ax (IN (gv e) (pv 4) (pv 1))))))))) (by walk_at "b")
theorem nR(a:de P w K mg C):gI P w K mg C:=fun base=>dG X G T.f_add_still_steps (fun S _ _ _ _ _ _ _ _ _ f e h=>bK (Ec c.still h) (ab (qs 2 S (qL rfl z.list (a1 (pv 1)))) (af (ib bh (hC v_ (ql z.len (a1 (pv 2))) ah) (ab (qs 3 S (nY cp pX pW ut (pv 2))) (af (bL bh rfl (aZ (qm f (a base) (pv 0) (a2 (pv 3) (gO rfl c.STILL)))) (gn 4 S) (af (bo (eI (fb e (pv 4) (pv 1))) (ab (fK e (pv 1) (pv 4) (aI (a3 (pv 3) (gO rfl c.STILL) (pv 4))) rfl) (af (aP (eS cp dQ dP bI (pv 2) (a1 (pv 4)))))) aL))))))))) (by walk_at "b")
theorem zi(e:de P w K mg C)(a:c7 P w K mg C):oC P w K mg C:=fun base=>dG X G T.f_steps_by (fun S _ _ _ _ _ _ _ _ _ g f h=>bK (zN c.hush h) (ab (qs 3 S jV) (ab (bL bh rfl (HK (pv 1)) (gn 4 S) (af (bo (hC (gv f) (pv 2) (gO rfl c.HUSH)) (af (bo (gt (qm g (a base) (pv 0) (a1 (pv 4)))) (af (fK f (pv 3) (pv 4) (aI (a3 (pv 4) (gO rfl c.HUSH) (pv 4))) rfl)) aL)) (af (bL bh rfl (aZ (qm g (e base) (pv 0) (a2 (pv 4) (pv 2)))) (gn 5 S) (af (fK f (pv 3) (pv 5) (aI (a3 (pv 4) (pv 2) (pv 5))) rfl))))))) (af (ax (pv 3)))))) (by walk_at "b")
theorem tR(e:cK P w K mg C)(a:gI P w K mg C)(f:oC P w K mg C):jF P w K mg C:=fun base=>dG X G T.f_steps_along (fun S _ _ _ _ _ _ _ _ _ g i h=>bK (Eb h) (ab (qs 2 S (HQ (FY (xl (E_ g (e base) (pv 0)) ah) nX HI) rfl rfl nofun (by decide))) (ab (qs 3 S (br (a1 (pv 2)))) (ab (aP (qf g (a base) (a2 (pv 0) (pv 2)))) (ab (bL bh rfl (aZ (pv 1)) (gn 4 S) (ab (qs 2 S (qf g (f base) (a3 (pv 0) (pv 2) (pv 4)))) (ab (aP (eS cp dQ dP bI (pv 3) (a1 (pv 2)))) (af (aP (qf g (a base) (a2 (pv 0) (pv 2)))))))) (af (ax (pv 3)))))))) (by walk_at "b")
theorem Be(a:jF P w K mg C):wM P w K mg C:=fun base=>dG X G T.f_walk_of (fun S _ _ _ _ _ _ _ _ _ f e h=>bK (FB c.still h) (ab (qs 2 S (qf f (a base) (a2 (pv 0) (pv 1)))) (ab (bo (hC i_ (qB ER z.len PySem.boot_len (a1 (xl (pv 2) (IH Fn ah)))) ah) (af (ax nX)) aL) (ab (qs 3 S (xl (qL rfl z.list (a1 (xl (pv 2) (IH Fn ah)))) ah)) (ab (qs 4 S (br cf)) (ab (qs 5 S (nY cp pX pW ut (pv 2))) (ab (ib bh (eI (x9 (eM e (pv 5) (pv 3) (fun _ _=>rfl)))) (ab (qs 6 S (eM e (pv 5) (pv 3) (fun _ _=>rfl))) (ab (aP (eS cp dQ dP bI (pv 4) (a1 (pv 6)))) (ab (qs 3 S (xt (pv 6) ah)) (af (bo (hC (i8 e) (xt (pv 6) ah) (gO rfl c.STILL)) (af (qs 5 S (nY cp pX pW ut (pv 2)))) aL)))))) (ab (aP (nY cp PySem.F.slot_list_reverse PySem.F.type_list_reverse ur (pv 4))) (af (ax (pv 4))))))))))) (by walk_at "b")
theorem rY(a:iQ P w K mg)(f:mn P w K mg)(e:oG P w K mg):mq P w K mg:=fun base=>dG X G T.f_law_is_fault (fun S _ _ _ _ _ _ _ _ _ i g h=>bK (FN h) (ab (bo (PW.pt (iD (kE (gt (qB j5 z.isinstance j6 (a2 (pv 2) (lR rfl z.tuple))))) (iD (hC uo (ql z.len (a1 (pv 2))) ah) (iw (kE (gt (qB j5 z.isinstance j6 (a2 (xt (pv 2) ah) (nW rfl z.list))))))))) (af (ax ic)) aL) (ab (qs 3 S (qf i (f base) (a1 (pv 0)))) (ab (bo (PW.pt (iD (Hc (gU g) (xt (pv 2) ah) (cY fJ (pv 3) (c8 (ql z.len (a1 (xq (pv 0) ah)))) fL)) (iw (hC (i8 g) (qc (aZ (xt (pv 2) ah)) (bw (by decide)) fun _ _ _ _ _ _=>⟨gc 0,iJ (Hc (gU g) (pv 0) (pv 1)),pv 0⟩) (br cf))))) (af (ax ic)) aL) (ab (qs 4 S (qf i (e base) (a2 (pv 0) (xt (pv 2) ah)))) (ab (bo (PW.pt (iD (hC (gv g) (pv 4) (aI cf)) (iw (hC (i8 g) (qf i (a base) (a3 (pv 0) (pv 4) (xt (pv 2) ah))) (aI cf))))) (af (ax ic)) aL) (af (ax (IN (i8 g) (qf i (a base) (a3 (pv 1) (qf i (e base) (a2 (pv 1) (xt (pv 2) ah))) (xt (pv 2) ah))) (aI cf)))))))))) (by walk_at "b")
end
theorem Jp(X:K.In h)(G:h.Ns cy mg)(z:Zs mg)(c:Cs K mg C Cf a_STILL a_HUSH)(T:Ts K C Cf):∃f fd,mg "law"=some (.ref f)/\(∀(s:Shared) (v:Value),sI s fd ⟨[v],[]⟩ [("script",v)])/\∀base:Heap,mW P w K mg base CX0 9 f fd ["script"] (sp_law21 K):=by
 have bi:kR P w K mg:=vo X G z c T;have b7:u4 P w K mg:=zq X G z c T;have aF:kS P w K mg:=zC X G z c T;have g:d6 P w K mg:=zo X G z c T bi;have O:jx P w K mg:=xN X G z c T g;have J:j9 P w K mg:=Bf X G z c T;have Q:g6 P w K mg:=oS X G z c T g J;have b5:rO P w K mg:=xO X G z c T aF g O Q;have cl:q_ P w K mg:=Bg X G z c T;have L:j_ P w K mg:=Bh X G z c T;have D:fT P w K mg:=mP X G z c T cl L;have bl:kU P w K mg:=vt X G z c T;have E:fU P w K mg:=mQ X G z c T L;have q:db P w K mg:=i3 X G z c T;have a0:ji P w K mg:=rV X G z c T;have M:gH P w K mg:=nQ X G z c T;have U:jw P w K mg:=xL X G z c T;have bn:kO P w K mg:=vj X G z c T D bl E U;have Y:g_ P w K mg:=oU X G z c T;have al:g8 P w K mg:=oT X G z c T;have cm:rc P w K mg C:=Bi X G z c T L q a0 M U bn Y al;have B:nz P w K mg C:=tW X G z c T cm;have e:cK P w K mg C:=qr X G z c T;have p:d9 P w K mg C:=mN X G z c T;have H:iP P w K mg C:=vh X G z c T e p
 have i:de P w K mg C:=qt X G z c T;have j:c7 P w K mg C:=mO X G z c T;have n:eW P w K mg:=rW X G z c T;have b4:pV P w K mg:=DU X G z c T n;have x:gG P w K mg:=rX X G z c T;have I:iQ P w K mg:=vp X G z c T b4 x;have b6:mn P w K mg:=xM X G z c T;have o:eZ P w K mg C:=rT X G z c T;have y:gJ P w K mg C:=rS X G z c T;have bp:kT P w K mg C:=vq X G z c T e H;have a5:jK P w K mg C:=tX X G z c T H i j;have as:gZ P w K mg C a_HUSH:=oR X G z c T o y;have b8:oE P w K mg C:=zj X G z c T a5 as;have m:dD P w K mg Cf:=lJ X G z c T;have r:dz P w K mg C Cf:=jk X G z c T b8 m;have co:re P w K mg C Cf:=Bj X G z c T bp m r;have cs:yR P w K mg C:=Ft X G z c T p i;have b1:kP P w K mg C:=vk X G z c T o y;have u:eJ P w K mg C:=ko X G z c T e o cs;have b2:kN P w K mg C:=vi X G z c T b1 u;have A:eX P w K mg C:=k9 X G z c T;have b9:oB P w K mg:=zf X G z c T;have a6:jH P w K mg:=tT X G z c T b9;have a7:jG P w K mg C:=tS X G z c T j A
 have ca:oF P w K mg C Cf:=zm X G z c T e a7;have cv:DG P w K mg C:=Fu X G z c T co b2 a6 ca;have a8:jI P w K mg:=tU X G z c T g J n;have b3:kQ P w K mg:=vm X G z c T g J n;have a9:jJ P w K mg:=tV X G z c T g O;have cc:u5 P w K mg:=zA X G z c T aF g a8 b3 a9;have ce:oG P w K mg:=zB X G z c T b4 I;have aC:k5 P w K mg:=qv X G z c T x;have N:gI P w K mg C:=nR X G z c T i;have ch:oC P w K mg C:=zi X G z c T i j;have bf:jF P w K mg C:=tR X G z c T e N ch;have cq:wM P w K mg C:=Be X G z c T bf;have a4:mq P w K mg:=rY X G z c T I b6 ce;obtain⟨f,a,t⟩:=T.f_law21;obtain⟨oc,od,an,sl,kV,dc,pm,cd,ct,l,c1,k1⟩:=t;have F:=GD (st:=(fD 73)) l c1 k1;have sc:kL DC FX (ck (fD 73)):=by walk_at "s"
 have S:=sc.nd;exact⟨f,_,io X G a,fun s v=>.of_eq rfl,fun base=>F.ok (k:=8) sc (by walk_at "l") (fun _ _ _ _ _ _ _ _ hr h=>by have hu:=Dn hr;exact bK (FK (C:=C) h) (ab (qs 1 S (qf hr (b7 base) (a1 (pv 0)))) (ab (qs 2 S (qf hr (b5 base) (a3 (pv 1) ah ah))) (ab (qs 3 S (qf hr (cc base) (a3 (pv 1) (pv 2) ah))) (ab (qs 4 S (qf hr (B base) (a1 (pv 3)))) (ab (qs 5 S (qf hr (cv base) (a2 (qf hr (B base) (a1 (pv 2))) (pv 4)))) (ab (bo (PW.pt (iD (kE (gt (qB j5 z.isinstance j6 (a2 (pv 5) (lR rfl z.tuple))))) (iw (hC (Jn hu) (pv 5) (aI cf))))) (af (ax ic)) aL) (ab (bo (hC i_ (xt (pv 5) ah) bF) (af (ax (BD (IN i_ (ql z.len (a1 (pv 5))) ah) (F_ (qB j5 z.isinstance j6 (a2 (xt (pv 5) ah) (nW rfl z.list))))))) aL) (ab (bo (PW.pt (iD (hC uo (xt (pv 5) ah) bF) (iw (kE (gt (qf hr (a4 base) (a3 (pv 2) (pv 3) (pv 5)))))))) (af (ax ic)) aL) (ab (qs 6 S (ba jb (xt (pv 5) ah) (br (a1 (xt (pv 5) ah))))) (af (ax (qf hr (aC base) (a3 (pv 3) (pv 6) (qf hr (cq base) (a2 (pv 4) (pv 6)))))))))))))))))⟩
theorem all_mk{l:PySem.W.OpenLaw}{fa:Addr}{p:Value}{a:Value}{g:Value}{i:Value}{j:Value}{m:Value}{q:Obj}{r:Array Value}{O:Nat}{I:Obj}{J:Array Value}{a5:Nat}(X:K.In h)(G:h.Ns cy mg)(b5:mg "law"=some (.ref fa))
  (aC:cU K cy "Machine"=some (some (.ref C)))
  (pg:vR K C Str.empty=true)
  (hd:yT K C=true)
  (po:CI K C=true)
  (sa:dE K (.ref C) "__setattr__"=some (some (.builtin "object.__setattr__")))
  (mk:sK K C=true)
  (kc:iV K (.ref C)=true)
  (b6:dE K (.ref C) "own_asks"=some none)
  (b7:dE K (.ref C) "own_says"=some none)
  (b8:dE K (.ref C) "own_rooms"=some none)
  (b9:dE K (.ref C) "own_doors"=some none)
  (ca:dE K (.ref C) "leaving"=some none)
  (cc:dE K (.ref C) "quiet"=some none)
  (cd:dE K (.ref C) "sign_goals"=some none)
  (ce:dE K (.ref C) "still_led"=some none)
  (aF:cU K cy "FaceMap"=some (some (.ref Cf)))
  (ch:vR K Cf Str.empty=true)
  (cl:yT K Cf=true)
  (cm:CI K Cf=true)
  (co:dE K (.ref Cf) "__setattr__"=some (some (.builtin "object.__setattr__")))
  (cq:sK K Cf=true)
  (cs:iV K (.ref Cf)=true)
  (ct:dE K (.ref Cf) "machine"=some none)
  (cv:dE K (.ref Cf) "faces"=some none)
  (c0:dE K (.ref Cf) "first_stories"=some none)
  (c1:dE K (.ref Cf) "numbers"=some none)
  (c2:dE K (.ref Cf) "steps"=some none)
  (bp:cU K cy "all"=some none)
  (b1:cU K cy "any"=some none)
  (a6:cU K cy "dict"=some none)
  (L:cU K cy "enumerate"=some none)
  (t:cU K cy "isinstance"=some none)
  (b2:cU K cy "len"=some none)
  (a7:cU K cy "list"=some none)
  (b3:cU K cy "max"=some none)
  (Q:cU K cy "range"=some none)
  (U:cU K cy "tuple"=some none)
  (b4:cU K cy "zip"=some none)
  (M:cU K cy "LETTERS"=some (some p))
  (N:RelV (.str "abcdefghijklmnopqrstuvwxyz") p)
  (n:cU K cy "LONGEST_NAME"=some (some a))
  (o:RelV (.int 8) a)
  (u:cU K cy "MOST_WORDS"=some (some g))
  (x:RelV (.int 4) g)
  (y:cU K cy "MOST_ROOMS"=some (some i))
  (A:RelV (.int 150) i)
  (B:cU K cy "MOST_DOORS"=some (some j))
  (D:RelV (.int 2000) j)
  (E:cU K cy "MOST_FACES"=some (some m))
  (H:RelV (.int 400) m)
  (Y:cU K cy "STILL"=some (some (.ref a_STILL)))
  (al:K.lookup a_STILL=some q)
  (an:q.cls=.type "tuple")
  (as:q.data=.seq r O)
  (a0:r.size<=ak)
  (a4:bg (am.map V.str) r.toList)
  (a8:cU K cy "HUSH"=some (some (.ref a_HUSH)))
  (a9:K.lookup a_HUSH=some I)
  (bf:I.cls=.type "tuple")
  (bi:I.data=.seq J a5)
  (bl:J.size<=ak)
  (bn:bg (aT.map V.str) J.toList)
  (T:Ts K C Cf)
 :∃fd:lg,(∀(s:Shared) (v:Value),sI s fd ⟨[v],[]⟩ [("script",v)])/\∀base:Heap,K.In base->base.Ns cy mg->mW l.prog w K mg base CX0 9 fa fd ["script"] (sp_law21 K):=by
 have z:Zs mg:=⟨iX X G bp,iX X G b1,iX X G a6,iX X G L,iX X G t,iX X G b2,iX X G a7,iX X G b3,iX X G Q,iX X G U,iX X G b4⟩;have c:Cs K mg C Cf a_STILL a_HUSH:=⟨⟨_,io X G M,N⟩,⟨_,io X G n,o⟩,⟨_,io X G u,x⟩,⟨_,io X G y,A⟩,⟨_,io X G B,D⟩,⟨_,io X G E,H⟩,⟨_,io X G Y,rfl⟩,⟨_,io X G a8,rfl⟩,CT al an as a0 a4,CT a9 bf bi bl bn,⟨⟨pg,hd,po,sa⟩,b6,b7,b8,b9,ca,cc,cd,ce⟩,io X G aC,mk,kc,⟨⟨ch,cl,cm,co⟩,ct,cv,c0,c1,c2⟩,io X G aF,cq,cs⟩;obtain⟨f,fd,e,b,k⟩:=Jp (P:=l.prog) (w:=w) X G z c T;have e0:=b5.symm.trans e;cases e0;exact⟨fd,b,fun base _ _=>k base⟩
end
end Mum
namespace PySem.W.Fast
def tw6750403529572627088:=0
def tw13085213596343858479:=0
def tw3945950429949377982:=0
def tw10737482902749469235:=0
def tw8117915950383177386:=0
def tw13949751369307672503:=0
def tw9471983313709191956:=0
def tw9654158061541287602:=0
def tw1339786969665570596:=0
def tw17689602397879691925:=0
def tw8253455787795325057:=0
def tw9986891584116467878:=0
def tw10375385761960070515:=0
def tw12787109826149647362:=0
def tw13116442477712452397:=0
def tw14235575136636874653:=0
def tw244045350178119437:=0
def tw13182853201536981155:=0
def tw759358785079239001:=0
def tw9982954998814108303:=0
def tw12305029685566588512:=0
def tw2105687251097622040:=0
def tw225372239921415823:=0
def tw571816718218760428:=0
def tw7592477553183931381:=0
def tw2464559926577427554:=0
def tw10777971007512525587:=0
def tw17496941246524232893:=0
def tw7168830759421561725:=0
def tw12290869534661526370:=0
def tw15891537360369806732:=0
def tw15743681368657358818:=0
def tw4173006117686324821:=0
def tw7663428202571518775:=0
def tw17743602653012496501:=0
def tw11415861435631418518:=0
def tw3381870428585176718:=0
def tw13956710472276148239:=0
def tw15030845655988117830:=0
def tw10228793328155755944:=0
def tw3985818955601321528:=0
def tw15170749688044940122:=0
def tw5409198162391614578:=0
def tw18044662872064409143:=0
def tw11136721682121575922:=0
def tw8904906016321891213:=0
def tw9273818594383896833:=0
def tw12226310287279573465:=0
def tw1319570825755228520:=0
def tw1430309189783396186:=0
def tw4918489240297318805:=0
def tw18254087837364880498:=0
def tw13279973649460133197:=0
def tw969758799678274218:=0
def tw17567924809023346788:=0
def tw7543125546513531880:=0
def tw15465813399555858103:=0
def tw17019135636935165950:=0
def tw9501005379592755619:=0
def tw8649682290620326000:=0
def tw14095434913588850763:=0
def tw5644902374526486579:=0
def tw1601430807340137754:=0
def tw14559567732464784204:=0
def tw2290082472151384482:=0
def tw10612990568235011977:=0
def tw4428582103989461937:=0
def tw7328689088245372737:=0
def tw15327726580958520751:=0
def tw10180684187676448525:=0
def tw13194088709940025227:=0
def tw12799480391132735174:=0
def tw10374739420577317639:=0
def tw18115737769016413742:=0
def tw11038094238862405647:=0
def tw3961764761585997401:=0
def tw7207121809594395369:=0
def tw12243492429602981083:=0
def tw14078120675147194138:=0
def tw2261846759047503406:=0
def tw5342204153996691614:=0
def tw13575554535657952785:=0
def tw223758521469811639:=0
def tw5575781842962957902:=0
def tw15649492880307534339:=0
def tw13269279599150880512:=0
def tw3136895151166923171:=0
def tw2890385299742029713:=0
def tw1380298880934894391:=0
def tw5231851587795859828:=0
def tw8870170102667261187:=0
def tw1287553613936327759:=0
def tw13725570415145202038:=0
def tw2149921067538561964:=0
def tw14480550453788350178:=0
def tw8161324138403765623:=0
def tw8742452421491588928:=0
def tw2412852994278579819:=0
def tw8530767231888390666:=0
def tw3805822669787907194:=0
def tw5462369945096368121:=0
def tw17605386359343627916:=0
def tw14149054339864709141:=0
def tw14500507141004045520:=0
def tw10780284400065690700:=0
def tw4448274234430285595:=0
def tw1098560178937439639:=0
def tw8141926631720757481:=0
def tw6618739012571811360:=0
def tw7373397349301805097:=0
def tw6328154628708523154:=0
def tw13389292475420932163:=0
def tw5388298918590114670:=0
def tw8934936284148508276:=0
def tw9392453811579324923:=0
def tw12173527555968556203:=0
def tw17337508291814794015:=0
def tw652826000901833147:=0
def tw10436313089624108952:=0
def tw8309442250760502580:=0
def tw11924836647748693732:=0
def tw15312969131550542256:=0
def tw17228281553899904776:=0
def tw2625613053337497649:=0
def tw14155117985820807347:=0
def tw15955539655399372718:=0
def tw13843388284044213780:=0
def tw16702886219987357645:=0
def tw2686314086817263122:=0
def tw18246308724584665233:=0
def tw6911944438581665808:=0
def tw13112364084138388971:=0
def tw6817396754043710219:=0
def tw17830019048773776243:=0
def tw422644130089739586:=0
def tw10014005167519177531:=0
def tw3672629296194962590:=0
def tw2458033455545041012:=0
def tw2843538126659822847:=0
def tw15545257613987110673:=0
def tw8912327428620073550:=0
def tw14551369226620154031:=0
def tw9702952752770575223:=0
def tw1042085595137111891:=0
def tw5014834608490465550:=0
def tw14298924722338305076:=0
def tw1468031499253078528:=0
def tw13515490231554621103:=0
def tw7106471182507554305:=0
def tw8193593262724802369:=0
def tw237892712385368527:=0
def tw15585724175051783228:=0
def tw10673920046450999541:=0
def tw9359352895929431876:=0
def tw15964353066452663001:=0
def tw11532645849589963865:=0
def tw9143173611851223856:=0
def tw14527816683980150205:=0
def tw4794682503975032220:=0
def tw1624059182876061191:=0
def tw12812818013843520867:=0
def tw10106625437395516356:=0
def tw10746688063325888623:=0
def tw5696015623748983281:=0
def tw5390879163742630123:=0
def tw3417061546486872053:=0
def tw504371903102349482:=0
def tw8081488688814764568:=0
def tw5697442029590062671:=0
def tw11467892768363510274:=0
def tw15799649118221314412:=0
def tw5834751504301861378:=0
def tw11300599005964563024:=0
def tw5820441065045020857:=0
def tw10129282643588588513:=0
def tw14108808165641800544:=0
def tw5373549575240022019:=0
def tw5283478044013829507:=0
def tw1899877776961890893:=0
def tw1804383196770565924:=0
def tw17447223703785873853:=0
def tw2648545051169520400:=0
def tw18441563967580171215:=0
def tw17593014347971576234:=0
def tw16501637469690520105:=0
def tw14816497443138938529:=0
def tw8666456760483187588:=0
def tw14830805028141457905:=0
def tw10444241828510631586:=0
def tw11061441917525398210:=0
def tw8001133455522840679:=0
def tw8580646695997276955:=0
def tw4456591048258449961:=0
def tw4530626410979642330:=0
def tw14529845627636720202:=0
def tw5596393651814790891:=0
def tw14805176899157885428:=0
def tw18108240595126062655:=0
def tw7217865394597626628:=0
def tw11029601845774494562:=0
def tw6093178819354991770:=0
def tw10152772188262489611:=0
def tw5515592598671491248:=0
def tw15995098887638461677:=0
def tw3533575789547556380:=0
def tw17792535010385378852:=0
def tw11194704060846481738:=0
def tw13770706317483714072:=0
def tw6753710335410815651:=0
def tw3417437919172113134:=0
def tw17603592056494611116:=0
def tw17584681110466837459:=0
def tw3784853872608657473:=0
def tw14721082025538590900:=0
def tw2185092429683334564:=0
def tw6660134515969477947:=0
def tw16189494895191401629:=0
def tw2158852291253260753:=0
def tw8811340316397472969:=0
def tw1837957625333276856:=0
def tw14198455649927329481:=0
def tw12367017023753570222:=0
def tw10939490814568251446:=0
def tw10460782427190852956:=0
def tw254217957325513754:=0
def tw9074887208593987909:=0
def tw13558983114210121315:=0
def tw11114768441801099707:=0
def tw1131460206122799247:=0
def tw11228359717530651484:=0
def tw2816543248901077402:=0
def tw13114063326254059749:=0
def tw14256613387348939422:=0
def tw6903002332642643765:=0
def tw2616945256004214559:=0
def tw15934655323096780564:=0
def tw8349118810833661143:=0
def tw1394983903901215505:=0
def tw17868570017369862831:=0
def tw1581377411821415563:=0
def tw355889180432467942:=0
def tw284477819838019672:=0
def tw10347345818979016580:=0
def tw3366962059458914728:=0
def tw3722362017991672901:=0
def tw1584017269592104665:=0
def tw11704862170163746931:=0
def tw6488173836127776187:=0
def tw10926587403707312380:=0
def tw16749004687472994586:=0
def tw12015408477520685409:=0
def tw1629543482221802792:=0
def tw7971147004547605229:=0
def tw16882172298258138004:=0
def tw8130954353127278271:=0
def tw17218800840763845046:=0
def tw12602242752840121965:=0
def tw17428537788194762281:=0
def tw11015223639727277285:=0
def tw382198283286457383:=0
def tw14529420334723203887:=0
def tw5790435031969524044:=0
def tw8422184572999549749:=0
def tw16819158098724347108:=0
def tw9378966327763430250:=0
def tw7550524746842592250:=0
def tw7815035106323023154:=0
def tw15188582883221682038:=0
def tw16820344890579646482:=0
def tw17710858202866549354:=0
def tw2705719256994976339:=0
def tw12376358118620362428:=0
def tw263157223616677366:=0
def tw6857389530951579034:=0
def tw4944013939481055591:=0
def tw17692102440197901554:=0
def tw14908445286539522375:=0
def tw5599798623571228885:=0
def tw11197631392582721773:=0
def tw9737580128423971427:=0
def tw18148387576558960051:=0
def tw6615563648463136568:=0
def tw13440462278747855811:=0
def tw10460937406508945090:=0
def tw15314126778624986874:=0
def tw11911545678430678696:=0
def tw8523231382149814952:=0
def tw7577537479242704053:=0
def tw13582521658268246034:=0
def tw17410350359005678264:=0
def tw6278116877535251176:=0
def tw12862015717509990955:=0
def tw212597644769927434:=0
def tw10456504729405706388:=0
def tw7321021605033541275:=0
def tw14403302672622436474:=0
def tw13784543297966069518:=0
def tw6900545061085751198:=0
def tw10372095732601057733:=0
def tw2067937432655859165:=0
def tw11987587962349220468:=0
def tw14541577783212637475:=0
def tw2091682286493224386:=0
def tw11521118379556073051:=0
def tw12359502383635615687:=0
def tw324253101402790642:=0
def tw15781101110962076657:=0
def tw13540811400103067706:=0
def tw3982833116600333702:=0
def tw11675056937477775582:=0
def tw89810218182686033:=0
def tw4902200635241123551:=0
def tw207524594936291565:=0
def tw17068011488125465972:=0
def tw11915128714565757473:=0
def tw13129218625373544882:=0
def tw2223646925881717043:=0
def tw682177684440126478:=0
def tw2532667872029370607:=0
def tw8718553303965480479:=0
def tw7562041574412711846:=0
def tw1370228173658679860:=0
def tw8388779434772551708:=0
def tw1430161947807741378:=0
def tw1111236849669984334:=0
def tw5795361583224724657:=0
def tw13810130628324181182:=0
def tw18000897511749423882:=0
def tw3921685178897372975:=0
def tw5775069204493856293:=0
def tw9594839212772002297:=0
def tw8694333026505820826:=0
def tw6848433975538259219:=0
def tw17174494506546577164:=0
def tw10317130058258029823:=0
def tw13219080499200955374:=0
def tw12755591451115219773:=0
def tw7820701222906658271:=0
def tw11972235721876011690:=0
def tw6426240129388260705:=0
def tw11595168224242231211:=0
def tw5558654449438425156:=0
def tw17997086593952294529:=0
def tw7870323587822636674:=0
def tw9015545280889764175:=0
def tw5485760078194780460:=0
def tw12873749413298014154:=0
def tw287880782326831774:=0
def tw15997921806359555352:=0
def tw9542146844078169948:=0
def tw11824357780494150041:=0
def tw10936840701910005778:=0
def tw13605228191707273147:=0
def tw4754056762033749365:=0
def tw8393287263542285623:=0
def tw15808028257650263732:=0
def tw2291168892528765091:=0
def tw12261747749048942324:=0
def tw14090703952145238329:=0
def tw4833754915504025338:=0
def tw11600027985258977887:=0
def tw12034659878292326942:=0
def tw12631741707777419671:=0
def tw13851490882548838714:=0
def tw15915794971342609424:=0
def tw13133568538475192653:=0
def tw6835367134082007369:=0
def tw8408105938363562365:=0
def tw3706985238925129067:=0
def tw10057639136396319745:=0
def tw10679231989354576942:=0
def tw785333081361330987:=0
def tw3038303014709281099:=0
def tw17093359227691794066:=0
def tw4749428589416093706:=0
def tw434935214116677865:=0
def tw10366419170034962615:=0
def tw11573608117885336819:=0
def tw18117949495477486713:=0
def tw10346952122802278069:=0
def tw18350823307103192307:=0
def tw3733232325109850918:=0
def tw8755896951123245945:=0
def tw4079770692863495002:=0
def tw1051651235114338797:=0
def tw5087275330393329595:=0
def tw14124809729436115479:=0
def tw17528361636586160196:=0
def tw8332772503440638645:=0
def tw12047567410366632893:=0
def tw663190642219370843:=0
def tw8493691894293446009:=0
def tw16700082236026788858:=0
def tw18323246626616256058:=0
def tw9148981425365245827:=0
def tw11712239977134996197:=0
def tw17676175680203661276:=0
def tw2331912563283340698:=0
def tw11048697974568000793:=0
def tw3050148513982266908:=0
end PySem.W.Fast
open PySem PySem.W PyProof.Rows
set_option maxRecDepth 100000 in
set_option maxHeartbeats 0 in
theorem PySem.Challenge.cw_mumtrial_k21_a_fault_is_one_holds : PySem.Challenge.rw_mumtrial_k21_a_fault_is_one.Holds := by
 w_on;o_law;k_head;(case hw=>w_witness2)
 k_fill
 refine L2.walk_ofK (l:=PySem.Challenge.rw_mumtrial_k21_a_fault_is_one) (n:=63) (k:=9) (x:="script") (CX:=L2.CX0) (sp:=Mum.sp_law21) rfl (by decide) rfl ⟨rfl,by decide,by decide⟩ (fun w h Y=>PySem.W.kIn_of Y) ?F (fun _ _ a ns hl _ hS=>⟨a,ns,rfl,hS,hl,fun _=>rfl⟩) (fun _ _ _ _ z=>z)
 case F =>
  intro w mg fa h KX G hmg;refine' Mum.all_mk KX G hmg ?aC ?pg ?hd ?po ?sa ?mk ?kc ?na1 ?na2 ?na3 ?na4 ?na5 ?na6 ?na7 ?na8 ?aF ?pgF ?hdF ?poF ?saF ?mkF ?kcF ?nf1 ?nf2 ?nf3 ?nf4 ?nf5 ?z_all ?z_any ?z_dict ?z_enumerate ?z_isinstance ?z_len ?z_list ?z_max ?z_range ?z_tuple ?z_zip ?g_LETTERS ?r_LETTERS ?g_LONGEST_NAME ?r_LONGEST_NAME ?g_MOST_WORDS ?r_MOST_WORDS ?g_MOST_ROOMS ?r_MOST_ROOMS ?g_MOST_DOORS ?r_MOST_DOORS ?g_MOST_FACES ?r_MOST_FACES ?g_STILL ?l_STILL ?c_STILL ?d_STILL ?s_STILL ?v_STILL ?g_HUSH ?l_HUSH ?c_HUSH ?d_HUSH ?s_HUSH ?v_HUSH ?T
  (case aC|pg|hd|po|sa|mk|kc|na1|na2|na3|na4|na5|na6|na7|na8|aF|pgF|hdF|poF|saF|mkF|kcF|nf1|nf2|nf3|nf4|nf5|z_all|z_any|z_dict|z_enumerate|z_isinstance|z_len|z_list|z_max|z_range|z_tuple|z_zip|g_LETTERS=>k_is)
  (case r_LETTERS=>exact⟨_,rfl⟩)
  (case g_LONGEST_NAME=>k_is)
  (case r_LONGEST_NAME=>exact⟨_,rfl⟩)
  (case g_MOST_WORDS=>k_is)
  (case r_MOST_WORDS=>exact⟨_,rfl⟩)
  (case g_MOST_ROOMS=>k_is)
  (case r_MOST_ROOMS=>exact⟨_,rfl⟩)
  (case g_MOST_DOORS=>k_is)
  (case r_MOST_DOORS=>exact⟨_,rfl⟩)
  (case g_MOST_FACES=>k_is)
  (case r_MOST_FACES=>exact⟨_,rfl⟩)
  (case g_STILL|l_STILL=>k_is)
  (case c_STILL|d_STILL=>rfl)
  (case s_STILL=>decide)
  (case v_STILL=>exact .cons ⟨_,rfl⟩ .nil)
  (case g_HUSH|l_HUSH=>k_is)
  (case c_HUSH|d_HUSH=>rfl)
  (case s_HUSH=>decide)
  (case v_HUSH=>exact .cons ⟨_,rfl⟩ .nil)
  (case T=>constructor<;>first|(refine' Mum.fnG_mk ?a ?l ?c ?k;(case a=>k_is);(case l=>k_is);(case c=>k_is);(case k=>k_is))|(refine' Mum.fnM_mk ?a ?i ?l ?c ?k;(case a=>k_is);(case i=>k_is);(case l=>k_is);(case c=>k_is);(case k=>k_is)))
